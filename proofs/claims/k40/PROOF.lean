import PyProof.Rows.All
import Wide.All
import OpenK.AllK
import Wide.FinOn
import Lean
import PyProof.EqAt
import PyProof.EqKinds
import PyProof.TupleCall
import PyProof.StrLawsRepr
import PyProof.ZipIter
import PySem.Challenge.RW_woolyears_k40_lacks_and_papers_looked_at
import PyProof.Rows.SortRunsK
import PyProof.AttrMissHeap
import PyProof.SeqRoads
import PyProof.ListOps
import PyProof.DictUpdate
import PyProof.DictWalks
import KE.KDictList
import PyProof.Rows.SortWalk
import KE.KRevSl
import KE.KRevIter
import PyProof.StationsW
import PyProof.NeKinds
import PyProof.ExcBaseAll.ValueError
set_option compiler.extract_closed false
set_option Elab.async false
set_option linter.all false
set_option maxRecDepth 100000
set_option maxHeartbeats 4000000
theorem O{α:Sort _}{a:α}:a=a:=rfl
noncomputable section
abbrev gV:=PySem.Value->PySem.Shared->Prop
abbrev ŋ:=PySem.Str->Option PySem.Value
abbrev Ň:=List (PySem.Addr×PySem.Obj)
abbrev Ģ:=List PySem.PyData
abbrev ā:=List PySem.Value
abbrev ϐ:=Array PySem.Value
abbrev Qa6:=List PySem.Expr
abbrev ð:=List PySem.Str
abbrev Qa8:=Option PySem.Value
abbrev Ĉ:=List PySem.Addr
def ã:=@PyProof.Rows.wpS_bind
def é:=@PyProof.Rows.wpS_pure
def Γ:=@PySem.wpAny_newObj_type
def Ř:=@List.mem_singleton
def ņ:=@List.all_eq_true
def Ļ:=@List.sum_cons
def Ż:=@List.length_range
def Ņ:=@Nat.le_trans
def Zai:=@List.take_of_length_le
def Zaj:=@List.mem_cons_of_mem
def ź:=@Nat.lt_irrefl
def Zal:=@Array.toList_append
def ϙ:=@List.length_drop
def Ŧ:=@Nat.le_succ
def Zao:=@List.mem_cons_self
def Zap:=@List.getElem?_range
def Ϙ:=@List.mem_range
def ϻ:=@List.of_mem_zip
def Zas:=@List.drop_eq_getElem_cons
def Zat:=@List.length_reverse
def Zau:=@List.getElem?_eq_none
def Zav:=@Array.getElem?_toList
def ϗ:=@Nat.ne_of_gt
def Zax:=@List.map_congr_left
def Zay:=@List.filterMap_cons
def ϵ:=@Int.zero_add
def Za0:=@Option.isSome_iff_exists
def Za1:=@List.lookup_cons
def Za2:=@List.mem_of_mem_take
def Za3:=@List.mem_append_left
def Za4:=@List.range_succ
def Za5:=@List.getElem_of_mem
def Za6:=@List.getElem?_set_self
def Za7:=@List.filter_append
def Za8:=@List.sum_append
def Za9:=@List.length_set
def Zba:=@Bool.eq_iff_iff
def Zbb:=@Int.le_refl
def Zbc:=@List.getElem?_cons_succ
def Zbd:=@Int.emod_lt_of_pos
def Zbe:=@Nat.le_of_lt
def Zbf:=@List.nodup_cons
def Zbg:=@List.length_replicate
def Zbh:=@Nat.lt_succ_of_lt
def Zbi:=@List.nodup_append
def Zbj:=@Array.perm_iff_toList_perm
def Zbk:=@List.mem_of_mem_drop
def Zbl:=@List.take_zero
def Zbm:=@Int.add_zero
def Zbn:=@Bool.true_and
def Zbo:=@Int.emod_nonneg
def Zbp:=@List.length_eq_zero_iff
def Zbq:=@List.getElem?_replicate
abbrev ć:PySem.Str:="_law_promises_here"
abbrev ă:PySem.Str:="_law_state_here"
abbrev Į:PySem.Str:="_law_year_here"
abbrev Ĳ:PySem.Str:="_law_thing"
abbrev ſ:PySem.Str:="_law_sales_here"
abbrev ŀ:PySem.Str:="_law_rows"
abbrev Ζ:PySem.Str:="_law_script"
abbrev Ų:PySem.Str:="_law_most"
abbrev Ε:PySem.Str:="_law_found"
abbrev AAj:PySem.Str:="_law_book_here"
abbrev ϊ:PySem.Str:="_law_sort"
abbrev Ϯ:PySem.Str:="_law_sacks"
abbrev ω:PySem.Str:="_law_one"
abbrev AAn:PySem.Str:="_law_number"
abbrev AAo:PySem.Str:="_law_many"
abbrev AAp:PySem.Str:="_law_sale"
abbrev AAq:PySem.Str:="_law_years"
abbrev AAr:PySem.Str:="_law_right"
abbrev AAs:PySem.Str:="_law_take"
abbrev AAt:PySem.Str:="_law_clips_here"
abbrev AAu:PySem.Str:="_law_lacks"
abbrev AAv:PySem.Str:="_law_row"
abbrev AAw:PySem.Str:="_law_k"
abbrev AAx:PySem.Str:="_law_holder"
abbrev AAy:PySem.Str:="_law_deep"
abbrev AAz:PySem.Str:="_law_due"
abbrev ABa:PySem.Str:="_law_weights"
abbrev ABb:PySem.Str:="_law_sold"
abbrev ABc:PySem.Str:="_law_clip"
abbrev ABd:PySem.Str:="_law_call"
abbrev ABe:PySem.Str:="_law_spoilt"
abbrev ABf:PySem.Str:="_law_seller"
abbrev ABg:PySem.Str:="_law_claims"
abbrev ABh:PySem.Str:="_law_whole"
abbrev ABi:PySem.Str:="_law_total"
abbrev ABj:PySem.Str:="_law_promises"
abbrev ABk:PySem.Str:="_law_any_sale"
abbrev UV:=List (List Int)
abbrev WF:=List Int
theorem Â{p:Prop}(h:p:=by lia):p:=h
theorem Ö{p:Prop}(h:p:=by simp):p:=h
theorem Ù{p:Prop}(h:p:=by decide):p:=h
theorem z04{p:Prop}(h:p:=by decide+kernel):p:=h
theorem ų{p:Prop}(h:p:=by rw[sizeLine_eq];lia):p:=h
def č:=@decide_eq_true_eq
open PySem.W (Frag)
def Ä:=@PySem.wpAny_bind
def ø:=@decide_eq_true
def ò:=@PySem.W.mg_none_of
def þ:=@PySem.Heap.get?_push_of_some
def Ê:=@if_neg
def Ú:=@PySem.wpAny_pure
def Ì:=@if_pos
def ü:=@PySem.Heap.lt_size
def ļ:=@Nat.lt_of_lt_of_le
def Ĩ:=@PySem.Heap.get?_push_size
def ħ:=@decide_eq_false
def Ş:=@List.mem_append_right
def Β:=@PySem.F.plainAttrs_list
def Ł:=@PySem.PassesOwn.never
def Α:=@List.mem_of_getElem?
def Ħ:=@Nat.ne_of_lt
def Η:=@of_decide_eq_true
def zBa:=@PySem.F.type_list_append
def zBb:=@PySem.F.slot_list_append
def zBc:=@List.getElem?_append_right
def zBd:=@List.getElem?_append_left
def zBe:=@List.take_append_drop
def zBf:=@List.filter_cons_of_neg
def zBg:=@List.filter_cons_of_pos
def á:=@List.getElem?_eq_getElem
def Õ:=@List.length_map
def õ:=@List.length_append
def Ü:=@Nat.le_refl
def ë:=@List.map_append
def ó:=@List.mem_map
def ė:=@List.mem_append
def ę:=@List.getD_eq_getElem?_getD
def ċ:=@List.size_toArray
def Ŋ:=@Array.length_toList
def Ķ:=@List.getElem?_eq_some_iff
def Ą:=@List.getElem?_map
def Ī:=@Bool.and_eq_true
def ŉ:=@List.length_take
def ĵ:=@List.length_cons
def ő:=@List.append_assoc
def š:=@Bool.false_ne_true
def Ė:=@List.getElem_mem
def Ľ:=@Int.toNat_natCast
def ĺ:=@List.take_add_one
def Ĵ:=@List.map_cons
def œ:=@Option.some.inj
def ň:=@List.take_length
def ş:=@List.append_nil
def ĩ:=@List.mem_cons
def į:=@Nat.zero_le
def ρ:=@List.mem_filter
def ĳ:=@List.map_map
def Θ:=@List.length_zip
namespace L2
open PySem PySem.Spec PyProof.Rows
abbrev Key:=Sum Int Str
def pM:Key->Value->Bool|.inl k,v=>Value.isInt k v|.inr x,v=>Value.isStrOf x v
def uf(w:World):Key->Int|.inl k=>hashInt k|.inr x=>hashStr w x
theorem cC:∀{k:Key}{v:Value},pM k v=true->(∃i t,k=Sum.inl i/\v=Value.int i t)\/(∃x t,k=Sum.inr x/\v=Value.str x t)|.inl i,v,h=>by obtain⟨t,e⟩:=Value.isInt_shape (k:=i) (v:=v) h;exact .inl ⟨i,t,O,e⟩;|.inr x,v,h=>by obtain⟨t,e⟩:=Value.isStrOf_shape (x:=x) (v:=v) h;exact .inr ⟨x,t,O,e⟩
theorem Cg(i:Int)(t:Tok):pM (.inl i) (.int i t)=true:=by simp[pM,Value.isInt]
theorem Ci(x:Str)(t:Tok):pM (.inr x) (.str x t)=true:=by simp[pM,Value.isStrOf]
theorem Lg(a b:Int):decide ((Sum.inl a:Key)=Sum.inl b)=(a==b):=by grind
theorem Lh(a b:Str):decide ((Sum.inr a:Key)=Sum.inr b)=decide (a=b):=by simp
theorem Li(a:Int)(b:Str):decide ((Sum.inl a:Key)=Sum.inr b)=false:=ħ (λq=>nomatch q)
theorem Lj(a:Str)(b:Int):decide ((Sum.inr a:Key)=Sum.inl b)=false:=ħ (λq=>nomatch q)
def bH(prog:Program)(w:World):PySem.KeyKind prog w Key where
 is:=pM;hash:=uf w;inj:=λv a b ha hb=>by
  rcases cC ha with⟨i,t,rfl,rfl⟩|⟨x,t,rfl,rfl⟩
  .rcases cC hb with⟨j,u,rfl,e⟩|⟨y,u,rfl,e⟩;.injection e with e1 _;rw[e1]
   .exact nomatch e
  .rcases cC hb with⟨j,u,rfl,e⟩|⟨y,u,rfl,e⟩;.exact nomatch e
   .injection e with e1 _;rw[e1]
 byValue:=λk v h=>by rcases cC h with⟨i,t,rfl,rfl⟩|⟨x,t,rfl,rfl⟩<;>rfl
 pyHash:=λhv h=>by
  rcases cC hv with⟨i,t,rfl,rfl⟩|⟨x,t,rfl,rfl⟩;.exact wpAny_pyHash_int h
  .exact wpAny_pyHash_str h
 eqBool:=λhu hv h=>by
  rcases cC hu with⟨i,t,rfl,rfl⟩|⟨x,t,rfl,rfl⟩
  .rcases cC hv with⟨j,u,rfl,rfl⟩|⟨y,u,rfl,rfl⟩;.rw[Lg]at h;exact wpAny_eqBool_int h
   .rw[Li]at h;exact SeqAt.EqAt.int_str i t y u _ _ _ _ h
  .rcases cC hv with⟨j,u,rfl,rfl⟩|⟨y,u,rfl,rfl⟩;.rw[Lj]at h;exact SeqAt.EqAt.str_int x t j u _ _ _ _ h
   .rw[Lh]at h;exact wpAny_eqBool_str h
 «strs»:=λk x t v h=>by
  rcases cC h with⟨i,u,rfl,e⟩|⟨y,u,rfl,e⟩;.exact nomatch e
  .injection e with e1 _;subst e1;cases v<;>rfl
theorem vA(prog:Program)(w:World)(i:Int)(t:Tok):(bH prog w).is (.inl i) (.int i t)=true:=Cg i t
theorem vB(prog:Program)(w:World)(x:Str)(t:Tok):(bH prog w).is (.inr x) (.str x t)=true:=Ci x t
inductive V where|non|bl(b:Bool)|int(i:Int)|str(x:Str)|byt(b:Array UInt8)|flt(b:UInt64)|ref(a:Addr)|ty(n:String)deriving DecidableEq
def Ò:V->Value->Prop|.non,u=>u=Value.none|.bl b,u=>u=Value.bool b|.int i,u=>∃t,u=Value.int i t|.str x,u=>∃t,u=Value.str x t|.byt b,u=>∃t,u=Value.bytes b t|.flt b,u=>∃t,u=Value.float b t|.ref a,u=>u=Value.ref a|.ty n,u=>u=Value.type n
abbrev Í:List V->ā->Prop:=Paired Ò
theorem Í.length(r:Í xs us):xs.length=us.length:=Paired.length r
theorem Í.get:∀{xs:List V}{us:ā}{i:Nat}{x:V},Í xs us->xs[i]?=some x->∃u,us[i]?=some u/\Ò x u|_,_,_,_,.nil,e=>by simp at e;|_,_,0,_,.cons r _,e=>by simp at e;subst e;exact⟨_,O,r⟩;|_,_,i+1,x,.cons _ t,e=>by obtain⟨u,h1,h2⟩:=Í.get (i:=i) (x:=x) t (by simpa using e);exact⟨u,by simpa using h1,h2⟩
theorem Í.set(r:Ò x u):∀{xs:List V}{us:ā}i,Í xs us->Í (xs.set i x) (us.set i u)|_,_,_,.nil=>.nil|_,_,0,.cons _ t=>.cons r t|_,_,i+1,.cons q t=>.cons q (Í.set r i t)
theorem Í.append:∀{xs ys:List V}{us ws:ā},Í xs us->Í ys ws->Í (xs++ys) (us++ws)|_,_,_,_,.nil,s=>s|_,_,_,_,.cons r t,s=>.cons r (Í.append t s)
theorem Í.take:∀{xs:List V}{us:ā}n,Í xs us->Í (xs.take n) (us.take n)|_,_,0,_=>.nil|_,_,_+1,.nil=>.nil|_,_,n+1,.cons r t=>.cons r (Í.take n t)
theorem Í.drop:∀{xs:List V}{us:ā}n,Í xs us->Í (xs.drop n) (us.drop n)|_,_,0,r=>r|_,_,_+1,.nil=>.nil|_,_,n+1,.cons _ t=>Í.drop n t
def Ŀ:Option V->Qa8->Prop|some v,some u=>Ò v u|none,none=>True|_,_=>False
def KV:List (κ×V)->List (κ×Value)->Prop:=Paired λp q=>p.1=q.1/\Ò p.2 q.2
def kV:Key->V|.inl i=>.int i|.inr x=>.str x
inductive HO where|lst(xs:List V)|tup(xs:List V)|dK(kvs:List (Key×V))|dT(kvs:List (List Key×V))|set(S:Int->Bool)(n:Nat)|ins(C dx:Addr)(fs:List (Str×V))|own(x:Addr)|xd(fs:List (Str×V))|met(f x:Addr)|rng(lo hi:Int)|frz(o:Obj)(u:HO)|tbl(ps:ϐ)|ext(φ:Heap->Prop)
abbrev Hp:=Addr->Option HO
def upd(H:Hp)(a:Addr)(o:HO):Hp:=λb=>if b=a then some o else H b
theorem aj:upd H a o a=some o:=by unfold upd;rw[Ì O]
theorem au(h:b≠a):upd H a o b=H b:=by unfold upd;rw[Ê h]
theorem Kl{H:Hp}(h:H a=some o)(h':H b=some u)(d:o≠u):a≠b:=by intro e;subst e;rw[h]at h';exact d (œ h')
theorem aA{H:Hp}(h:H a=some o)(h':H b=none):a≠b:=by intro e;subst e;rw[h]at h';cases h'
section
variable(P:Program)(w:World)
def Û(H:Hp)(h:Heap)(a:Addr):HO->Prop|.lst xs=>xs.length<=sizeLine/\∃Æ n,Í xs Æ/\h.get? a=some {cls:=.type "list",data:=.seq Æ.toArray n}|.tup xs=>xs.length<=sizeLine/\∃Æ,Í xs Æ/\IsTup h a Æ.toArray|.dK kvs=>kvs.length<=sizeLine/\(a==sysModules)=false/\∃vs,KV kvs vs/\h.DictOf (bH P w) a vs|.dT kvs=>kvs.length<=sizeLine/\(a==sysModules)=false/\∃xs,Paired (λp q=>p.1=q.1/\H q.2.1=some (.tup (p.1.map kV))/\Ò p.2 q.2.2) kvs xs/\∃o es ep,h.get? a=some o/\o.ExactDict/\o.data=.dict es ep/\es.toList=xs.map (entryOfKey (tupleKind (bH P w)))/\(xs.map (·.1)).Nodup|.set S n=>h.SetOf (intKind P w) a S n|.ins C dx fs=>H dx=some (.own a)/\fs.length<=1000/\dx≠a/\h.get? a=some (PySem.W.instObj C dx)/\∃mA,h.Ns1 dx mA/\(∀f,Ŀ (fs.lookup f) (mA f))/\PySem.Within mA (fs.map (·.1))|.own _=>∃o,h.get? a=some o|.xd fs=>∃mA,h.Ns1 a mA/\∀f,Ŀ (fs.lookup f) (mA f)|.rng lo hi=>∃t u v,h.get? a=some {cls:=.type "range",data:=.fields #[.int lo t,.int hi u,.int 1 v]}|.frz o u=>h.get? a=some o/\Û H h a u|.tbl ps=>h.get? a=some {cls:=.none,data:=.fields ps}|.met f x=>h.get? a=some (PySem.W.methodObj (.ref f) (.ref x))|.ext φ=>φ h/\(∃o,h.get? a=some o)/\∀h1 h2,φ h1->(∀o,h1.get? a=some o->h2.get? a=some o)->φ h2
def Ă(H:Hp)(h:Heap):Prop:=∀a o,H a=some o->Û P w H h a o
end
section
variable{a:Addr}
theorem Û.lt(x:Û P w H h a o):a<h.objs.size:=by cases o with|lst xs=>obtain⟨_,_,_,_,e⟩:=x;exact ü e;|tup xs=>obtain⟨_,_,_,p⟩:=x;exact p.lt;|dK kvs=>obtain⟨_,_,_,_,o,_,_,e,_⟩:=x;exact ü e;|dT kvs=>obtain⟨_,_,_,_,o,_,_,e,_⟩:=x;exact ü e;|set S n=>obtain⟨o,_,_,_,e,_⟩:=x;exact ü e;|ins C dx fs=>obtain⟨_,_,_,e,_⟩:=x;exact ü e;|own y=>obtain⟨_,e⟩:=x;exact ü e;|xd fs=>obtain⟨_,⟨_,_,_,e,_⟩,_⟩:=x;exact ü e;|rng lo hi=>obtain⟨_,_,_,e⟩:=x;exact ü e;|frz ob u=>obtain⟨e,_⟩:=x;exact ü e;|tbl ps=>exact ü (x);|met f y=>exact ü (x);|ext φ=>obtain⟨_,⟨_,e⟩,_⟩:=x;exact ü e
theorem Paired.mapP:∀{l₁:List α}{l₂:List β},Paired F l₁ l₂->(∀a b,F a b->G a b)->Paired G l₁ l₂|_,_,.nil,_=>.nil|_,_,.cons r t,f=>.cons (f _ _ r) (Paired.mapP t f)
theorem Û.stay(x:Û P w H h a o)(k:∀b u,(b=a\/H b=some (.own a))->h.get? b=some u->h'.get? b=some u)(ho:∀b,H b=some (.own a)->H' b=some (.own a))(ht:∀b xs,H b=some (.tup xs)->H' b=some (.tup xs)):Û P w H' h' a o:=by induction o with|lst xs=>obtain⟨z,Æ,n,r,e⟩:=x;exact⟨z,Æ,n,r,k _ _ (.inl O) e⟩;|tup xs=>obtain⟨z,Æ,r,ob,e,c⟩:=x;exact⟨z,Æ,r,ob,k _ _ (.inl O) e,c⟩;|dK kvs=>obtain⟨z,y,vs,r,ob,es,ep,e,c⟩:=x;exact⟨z,y,vs,r,ob,es,ep,k _ _ (.inl O) e,c⟩;|dT kvs=>obtain⟨z,y,xs,r,ob,es,ep,e,c⟩:=x;exact⟨z,y,xs,Paired.mapP r λp q z=>⟨z.1,ht _ _ z.2.1,z.2.2⟩,ob,es,ep,k _ _ (.inl O) e,c⟩;|set S n=>obtain⟨ob,es,ep,t,e,c⟩:=x;exact⟨ob,es,ep,t,k _ _ (.inl O) e,c⟩;|ins C dx fs=>obtain⟨d,z,ne,e,mA,⟨od,es,ep,e2,c⟩,r⟩:=x;exact⟨ho _ d,z,ne,k _ _ (.inl O) e,mA,⟨od,es,ep,k _ _ (.inr d) e2,c⟩,r⟩;|own y=>obtain⟨ob,e⟩:=x;exact⟨ob,k _ _ (.inl O) e⟩;|xd fs=>obtain⟨mA,⟨od,es,ep,e,c⟩,r⟩:=x;exact⟨mA,⟨od,es,ep,k _ _ (.inl O) e,c⟩,r⟩;|rng lo hi=>obtain⟨t,u,v,e⟩:=x;exact⟨t,u,v,k _ _ (.inl O) e⟩;|frz ob u ih=>obtain⟨e,q⟩:=x;exact⟨k _ _ (.inl O) e,ih q⟩;|tbl ps=>have e:h.get? a=some {cls:=.none,data:=.fields ps}:=x;exact k a _ (.inl O) e;|met f y=>have e:h.get? a=some (PySem.W.methodObj (.ref f) (.ref y)):=x;exact k a _ (.inl O) e;|ext φ=>obtain⟨p,⟨o,e⟩,st⟩:=x;exact⟨st _ _ p λo q=>k _ _ (.inl O) q,⟨o,k _ _ (.inl O) e⟩,st⟩
theorem Ă.lt(x:Ă P w H h)(e:H a=some o):a<h.objs.size:=(x a o e).lt
theorem Ă.fresh(x:Ă P w H h)(e:h.objs.size<=a):H a=none:=by cases q:H a with|none=>rfl;|some u=>exact absurd (ļ (x.lt q) e) (ź _)
theorem Ă.kept(x:Ă P w H h)(k:∀b u,h.get? b=some u->h'.get? b=some u):Ă P w H h':=λa o e=>(x a o e).stay (λb u _ q=>k b u q) (λ_ q=>q) λ_ _ q=>q
theorem Ă.laid(x:Ă P w H h)(k:∀b u,h.get? b=some u->h'.get? b=some u)(hp:h.objs.size<=a)(new:Û P w (upd H a o) h' a o):Ă P w (upd H a o) h':=λb u e=>by
 have hn:=x.fresh hp;by_cases hb:b=a;.subst hb;rw[aj]at e;cases e;exact new
 .rw[au hb]at e;exact(x b u e).stay (λc v _ q=>k c v q) (λc q=>by rw[au (aA q hn)];exact q) λc xs q=>by rw[au (aA q hn)];exact q
end
def Rd(H:Hp)(a:Addr)(u:HO):Prop:=H a=some u\/∃o,H a=some (.frz o u)
theorem Rd.ok(r:Rd H a u)(x:Ă P w H h):Û P w H h a u:=by
 rcases r with r|⟨o,r⟩;.exact x a u r
 .obtain⟨_,q⟩:=x a _ r;exact q
def Mut:Option HO->Prop|some (.lst _)=>True|some (.dK _)=>True|some (.dT _)=>True|some (.set _ _)=>True|some (.ins _ _ _)=>True|some (.ext _)=>True|_=>False
section
theorem Ă.write(ok:Ă P w H h)(mu:Mut (H x))(he:e=x\/H e=some (.own x))(k:∀b u,b≠e->h.get? b=some u->h'.get? b=some u)(BF:∃u,h'.get? e=some u)(new:Û P w (upd H x o') h' x o'):Ă P w (upd H x o') h':=λb u q=>by
 have DE:∀c y,H c=some (.own y)->c≠x:=λc y r z=>by subst z;rw[r]at mu;exact mu
 have KA:∀c xs,H c=some (.tup xs)->c≠x:=λc xs r z=>by subst z;rw[r]at mu;exact mu
 by_cases hb:b=x;.subst hb;rw[aj]at q;cases q;exact new
 .rw[au hb]at q;by_cases DF:b=e
  .have q':H b=some (.own x):=by grind
   rw[q]at q';cases q';obtain⟨v,hv⟩:=BF;exact⟨v,by rw[DF];exact hv⟩
  .refine(ok b u q).stay (λc v hc r=>k c v ?_ r) (λc r=>by rw[au (DE c b r)];exact r) λc xs r=>by rw[au (KA c xs r)];exact r
   rcases hc with rfl|hc;.exact DF
   .rintro rfl;rcases he with z|z;.exact DE c b hc z
    .rw[hc]at z;cases z;exact hb O
end
structure Un(fs ex:Ĉ)(H H':Hp)(h h':Heap):Prop where
 keep:∀b o,h.get? b=some o->H b=none->b∉fs->b∉ex->h'.get? b=some o
 slot:∀b o,h.get? b=some o->H b=none->b∈fs->b∉ex->∃sl,h'.get? b=some {o with slots:=sl}free:∀b o,h.get? b=some o->H b=none->b∉ex->H' b=none
 there:∀b o,h.get? b=some o->b∉ex->∃o',h'.get? b=some o'
 tups:∀b xs,H b=some (.tup xs)->H' b=some (.tup xs)frzs:∀b o u,H b=some (.frz o u)->H' b=some (.frz o u)tbls:∀b ps,H b=some (.tbl ps)->∃more,H' b=some (.tbl (ps++more))
section
variable{h h1 h2 h':Heap}{a x e:Addr}
theorem Un.any(u:Un fs ex H H1 h h1)(q:h.get? b=some ob)(n:H b=none)(hx:b∉ex):∃sl,h1.get? b=some {ob with slots:=sl}:=by
 by_cases hb:b∈fs;.exact u.slot b ob q n hb hx
 .exact⟨ob.slots,u.keep b ob q n hb hx⟩
theorem Un.kept(k:∀b u,h.get? b=some u->h'.get? b=some u):Un fs ex H H h h':=⟨λb ob q _ _ _=>k b ob q,λb ob q _ _ _=>⟨ob.slots,k b ob q⟩,λ_ _ _ n _=>n,λb ob q _=>⟨ob,k b ob q⟩,λ_ _ q=>q,λ_ _ _ q=>q,λ_ ps q=>⟨#[],by rw[q];simp⟩⟩
theorem Un.refl:Un fs ex H H h h:=Un.kept λ_ _ q=>q
theorem Un.laid(k:∀b u,h.get? b=some u->h'.get? b=some u)(hp:h.objs.size<=a)(hn:H a=none):Un fs ex H (upd H a o) h h' where
 keep:=λb u q _ _ _=>k b u q;slot:=λb u q _ _ _=>⟨u.slots,k b u q⟩;free:=λb u q n _=>by rw[au (Ħ (ļ (ü q) hp))];exact n
 there:=λb u q _=>⟨u,k b u q⟩;tups:=λb xs q=>by rw[au (aA q hn)];exact q
 frzs:=λb u xs q=>by rw[au (aA q hn)];exact q
 tbls:=λb ps q=>⟨#[],by rw[au (aA q hn),q];simp⟩
theorem Un.write(mu:Mut (H x))(he:e=x\/H e=some (.own x))(k:∀b u,b≠e->h.get? b=some u->h'.get? b=some u)(BF:∃u,h'.get? e=some u):Un fs ex H (upd H x o) h h':=by
 have hx:∀b,H b=none->b≠x:=λb n z=>by subst z;rw[n]at mu;exact mu
 have hb:∀b,H b=none->b≠e:=λb n z=>by
  subst z;rcases he with r|r;.exact hx b n r
  .rw[n]at r;cases r
 have hm:∀b u,H b=some u->¬Mut (some u)->b≠x:=λb u q nm z=>by subst z;rw[q]at mu;exact nm mu
 refine⟨λb u q n _ _=>k b u (hb b n) q,λb u q n _ _=>⟨u.slots,k b u (hb b n) q⟩,λb u q n _=>by rw[au (hx b n)];exact n,λb u q _=>?_,λb xs q=>by rw[au (hm b _ q λz=>z)];exact q,λb u xs q=>by rw[au (hm b _ q λz=>z)];exact q,λb ps q=>⟨#[],by rw[au (hm b _ q λz=>z),q];simp⟩⟩;by_cases DF:b=e;.subst DF;exact BF
 .exact⟨u,k b u DF q⟩
end
def trk(h:Heap)(H:Hp):Ĉ:=(List.range h.objs.size).filter λa=>(H a).isSome
def pN(h:Heap)(H:Hp):Heap:=PySem.W.hideAll h (trk h H)
theorem Cj(h:Heap)(H:Hp):(pN h H).objs.size=h.objs.size:=PySem.W.hideAll_size _ _
theorem Ek(e:h.get? b=some o)(n:H b=none):(pN h H).get? b=some o:=PySem.W.hideAll_get _ e λhm=>by have q:(H b).isSome=true:=(ρ.mp hm).2;rw[n]at q;simp at q
theorem Ip(e:(pN h H).get? b=some o):h.get? b=some o/\H b=none:=by have e':h.get? b=some o:=PySem.W.of_hideAll (trk h H) e;refine⟨e',?_⟩;cases q:H b with|none=>rfl;|some x=>have hm:b∈trk h H:=ρ.mpr ⟨Ϙ.mpr (ü e'),by simp[q]⟩;have z:(pN h H).get? b=none:=PySem.W.hideAll_none (trk h H) hm;rw[z]at e;cases e
structure Mod(K:Frag)(mg:ŋ)(base:Heap):Prop where
 kin:K.In base
 glob:base.Ns mainGlobals mg
 blt:∃mb,base.Ns builtinsNs mb/\∀x:Str,x≠"__name__"->mb x=bootBuiltins x
 nolimit:base.NoLimit
structure Cx where
 prog:Program
 w:World
 K:Frag
 mg:ŋ
 base:Heap
 A:Around
 N:ð
 s₀:Shared
 H₀:Hp
 env:Env
 outer:List Env
 stack:List Env
 ex:Ĉ
 fn:Str->Bool
 calm:Bool
 pn:Ň
 xe:gV
def Ď(l:List Env):Ĉ:=l.filterMap (·.frame)
abbrev Cx.fs(X:Cx):Ĉ:=Ď X.outer
def Vis(sc:Scope)(x:Str):Prop:=sc.names.lookup x=some .local\/sc.names.lookup x=some .cell\/sc.names.lookup x=some .free
def Loc(sc:Scope)(x:Str):Prop:=sc.names.lookup x=some .local\/sc.names.lookup x=some .cell
def Look(env:Env)(h:Heap)(m:ŋ)(x:Str)(u:Value):Prop:=(env.kindOf x=some .local/\m x=some u)\/((env.kindOf x=some .cell\/env.kindOf x=some .free)/\∃c,env.cells.lookup x=some c/\h.IsCell c (some u))
structure Cx.Ok(X:Cx):Prop where
 mod:Mod X.K X.mg X.base
 kind:X.env.scope.kind=.function
 glob:X.env.globals=mainGlobals
 blt:X.env.builtins=builtinsNs
 above:X.s₀.heap.objs.size<=X.env.locals
 inj:∀x y c,X.env.cells.lookup x=some c->X.env.cells.lookup y=some c->x=y
 has:∀x,(X.env.kindOf x=some .cell\/X.env.kindOf x=some .free)->∃c,X.env.cells.lookup x=some c
 cab:∀x c,X.fn x=true->X.env.cells.lookup x=some c->X.s₀.heap.objs.size<=c
 hd:X.calm=true->X.A.handled=none
 frames:X.A.frames=some X.stack
 stk:X.stack=X.outer\/(X.stack=X.env::X.outer/\X.env.frame=some X.env.locals)exf:∀b∈X.ex,b≠X.env.locals/\∀x c,X.env.cells.lookup x=some c->c≠b
 bs:∀b o,X.base.get? b=some o->X.s₀.heap.get? b=some o/\X.H₀ b=none
 bsz:X.base.objs.size<=X.s₀.heap.objs.size
 noex:∀b o,X.base.get? b=some o->b∉X.ex
 exfs:∀b∈X.ex,b∉X.fs
 funs:X.s₀.heap.FunFrames X.base X.outer
 frf:∀b∈X.fs,X.H₀ b=none
structure Ç(X:Cx)(Á:Ň)(σ:List (Option V))(H:Hp)(s:Shared):Prop where
 ok:X.Ok
 os:s.os=X.s₀.os
 bare:AllBare s.gens
 base:Un X.fs X.ex X.H₀ H X.s₀.heap s.heap
 loc:∃m,s.heap.Ns X.env.locals m/\∀(i:Nat)x v,X.N[i]?=some x->σ[i]?=some (some v)->Vis X.env.scope x->∃u,Ò v u/\Look X.env s.heap m x u
 cell:∀x c,X.env.cells.lookup x=some c->∃v,s.heap.IsCell c v
 free:H X.env.locals=none
 freeC:∀x c,X.env.cells.lookup x=some c->H c=none
 pin:∀p∈X.pn++Á,s.heap.get? p.1=some p.2/\H p.1=none/\p.1≠X.env.locals/\p.1∉X.fs/\∀v,p.2.data≠.cell v
 hok:Ă X.prog X.w H s.heap
 len:σ.length=X.N.length
section
variable{X:Cx}
theorem Cx.Ok.nofr(ok:X.Ok)(e:X.base.get? b=some o):b∉X.fs:=λhb=>by have:=(ok.funs.mem hb).1;rw[e]at this;cases this
theorem Ç.bs(I:Ç X Á σ H s):∀b o,X.base.get? b=some o->s.heap.get? b=some o/\H b=none:=λb o e=>⟨I.base.keep b o (I.ok.bs b o e).1 (I.ok.bs b o e).2 (I.ok.nofr e) (I.ok.noex b o e),I.base.free b o (I.ok.bs b o e).1 (I.ok.bs b o e).2 (I.ok.noex b o e)⟩
theorem Ç.bk(I:Ç X Á σ H s):∀b o,X.base.get? b=some o->s.heap.get? b=some o:=λb o e=>(I.bs b o e).1
theorem Ç.mod(I:Ç X Á σ H s):Mod X.K X.mg X.base:=I.ok.mod
theorem Ç.kIn(I:Ç X Á σ H s):X.K.In s.heap:=I.ok.mod.kin.keeps I.bk
theorem Ç.lt(I:Ç X Á σ H s):X.env.locals<s.heap.objs.size:=by obtain⟨_,hn,_⟩:=I.loc;exact hn.lt
theorem Ç.sz(I:Ç X Á σ H s):X.s₀.heap.objs.size<=s.heap.objs.size:=Ņ I.ok.above (Zbe I.lt)
theorem Ç.nofs(I:Ç X Á σ H s){a:Addr}(h:s.heap.objs.size<=a):a∉X.fs:=λhb=>by obtain⟨_,o,ho,_⟩:=I.ok.funs.mem hb;exact absurd (ļ (ü ho) (Ņ I.sz h)) (ź _)
theorem Ç.cne(I:Ç X Á σ H s):∀x c,X.env.cells.lookup x=some c->c≠X.env.locals:=λx c e z=>by obtain⟨v,o,ho,hd⟩:=I.cell x c e;obtain⟨m,⟨o',es,ep,kM,qS,_⟩,_⟩:=I.loc;rw[z,kM]at ho;cases ho;rw[qS]at hd;cases hd
theorem Ç.funs(I:Ç X Á σ H s):s.heap.FunFrames X.base X.outer:=by
 have all:∀(l:List Env),(∀b∈Ď l,b∈X.fs)->X.s₀.heap.FunFrames X.base l->s.heap.FunFrames X.base l:=by intro l;induction l with|nil=>intro _ _;trivial;|cons env r ih=>intro hs hl;obtain⟨hk,⟨L,o,hf,hn,ho,hd⟩,hr⟩:=hl;have hL:L∈X.fs:=hs L (by unfold Ď;rw[Zay,hf];exact Zao);obtain⟨sl,e⟩:=I.base.slot L o ho (I.ok.frf L hL) hL λz=>I.ok.exfs L z hL;exact⟨hk,⟨L,_,hf,hn,e,hd⟩,ih (λb hb=>hs b (by unfold Ď;rw[Zay,hf];exact Zaj _ hb)) hr⟩
 exact all X.outer (λ_ hb=>hb) I.ok.funs
theorem Ç.stack(I:Ç X Á σ H s):s.heap.FunFrames X.base X.stack:=by
 rcases I.ok.stk with e|⟨e,hf⟩;.rw[e];exact I.funs
 .rw[e];obtain⟨m,hn,_⟩:=I.loc;refine .cons (by rw[I.ok.kind];decide) hf hn ?_ I.funs;exact Heap.get?_none_of_le (Ņ I.ok.bsz I.ok.above)
theorem Ç.stkSub(I:Ç X Á σ H s):∀b∈Ď X.stack,b∈X.env.locals::X.fs:=λb hb=>by
 rcases I.ok.stk with e|⟨e,hf⟩;.rw[e]at hb;exact Zaj _ hb
 .rw[e]at hb;unfold Ď at hb;rw[Zay,hf]at hb;exact hb
theorem Ç.stkFree(I:Ç X Á σ H s):∀b∈Ď X.stack,H b=none:=λb hb=>by
 rcases ĩ.mp (I.stkSub b hb)with e|hb;.rw[e];exact I.free
 .obtain⟨_,o,ho,_⟩:=I.ok.funs.mem hb;exact I.base.free b o ho (I.ok.frf b hb) λz=>I.ok.exfs b z hb
theorem Ç.step{ch:Ĉ}(I:Ç X Á σ H s)(qf:∀b∈ch,(b∈X.ex\/X.s₀.heap.objs.size<=b)/\b≠X.env.locals/\(∀x c,X.env.cells.lookup x=some c->c≠b)/\∀p∈X.pn++Á,p.1≠b)(keep:∀b o,b≠X.env.locals->b∉X.fs->b∉ch->s.heap.get? b=some o->H b=none->h'.get? b=some o)(slot:∀b o,b≠X.env.locals->b∈X.fs->b∉ch->s.heap.get? b=some o->H b=none->∃sl,h'.get? b=some {o with slots:=sl})(free:∀b o,b∉ch->s.heap.get? b=some o->H b=none->H' b=none)(there:∀b o,b∉ch->s.heap.get? b=some o->∃o',h'.get? b=some o')(tups:∀b xs,H b=some (.tup xs)->H' b=some (.tup xs))(frzs:∀b o u,H b=some (.frz o u)->H' b=some (.frz o u))(tbls:∀b ps,H b=some (.tbl ps)->∃more,H' b=some (.tbl (ps++more)))(ns:∀m,s.heap.Ns X.env.locals m->h'.Ns X.env.locals m)(hok:Ă X.prog X.w H' h')(hg:AllBare g'):Ç X Á σ H' {s with heap:=h',gens:=g',drawn:=d',toks:=t'}:=by
 have GI:∀b o,X.s₀.heap.get? b=some o->b≠X.env.locals:=λb o e=>Ħ (ļ (ü e) I.ok.above);have GL:∀b o,X.s₀.heap.get? b=some o->b∉X.ex->b∉ch:=λb o e hx hb=>by
  rcases(qf b hb).1 with z|z;.exact hx z
  .exact absurd (ļ (ü e) z) (ź _)
 have cellK:∀x c,X.env.cells.lookup x=some c->∀v,s.heap.IsCell c v->h'.IsCell c v:=λx c e v hZ=>by
  obtain⟨o,ho,hd⟩:=hZ;have DH:c∉ch:=λz=>(qf c z).2.2.1 x c e O;by_cases hc:c∈X.fs;.obtain⟨sl,q⟩:=slot c o (I.cne x c e) hc DH ho (I.freeC x c e);exact⟨_,q,hd⟩
  .exact⟨o,keep c o (I.cne x c e) hc DH ho (I.freeC x c e),hd⟩
 refine⟨I.ok,I.os,hg,⟨λb o e n hb hx=>?_,λb o e n hb hx=>?_,λb o e n hx=>?_,λb o e hx=>?_,λb xs e=>tups b xs (I.base.tups b xs e),λb o xs e=>frzs b o xs (I.base.frzs b o xs e),λb ps e=>?_⟩,?_,λx c e=>?_,?_,λx c e=>?_,λp hp=>?_,hok,I.len⟩;.exact keep b o (GI b o e) hb (GL b o e hx) (I.base.keep b o e n hb hx) (I.base.free b o e n hx)
 .obtain⟨sl,e1⟩:=I.base.slot b o e n hb hx;obtain⟨GN,e2⟩:=slot b _ (GI b o e) hb (GL b o e hx) e1 (I.base.free b o e n hx);exact⟨GN,e2⟩
 .obtain⟨o',e1⟩:=I.base.there b o e hx;exact free b o' (GL b o e hx) e1 (I.base.free b o e n hx)
 .obtain⟨o',e1⟩:=I.base.there b o e hx;exact there b o' (GL b o e hx) e1
 .obtain⟨m1,e1⟩:=I.base.tbls b ps e;obtain⟨m2,e2⟩:=tbls b _ e1;exact⟨m1++m2,by rw[e2,Array.append_assoc]⟩
 .obtain⟨m,hn,hl⟩:=I.loc;refine⟨m,ns m hn,λi x v e1 e2 e3=>?_⟩;obtain⟨u,r,l⟩:=hl i x v e1 e2 e3;refine⟨u,r,?_⟩;rcases l with l|⟨k,c,e,z⟩;.exact .inl l
  .exact .inr ⟨k,c,e,cellK x c e _ z⟩
 .obtain⟨v,z⟩:=I.cell x c e;exact⟨v,cellK x c e v z⟩
 .obtain⟨m,⟨o,_,_,ho,_⟩,_⟩:=I.loc;exact free _ o (λz=>(qf _ z).2.1 O) ho I.free
 .obtain⟨v,o,ho,hd⟩:=I.cell x c e;exact free c o (λz=>(qf c z).2.2.1 x c e O) ho (I.freeC x c e)
 .obtain⟨e,n,ne,nf,d⟩:=I.pin p hp;have DH:p.1∉ch:=λz=>(qf p.1 z).2.2.2 p hp O;exact⟨keep p.1 p.2 ne nf DH e n,free p.1 p.2 DH e n,ne,nf,d⟩
theorem Ç.un(I:Ç X Á σ H s)(u:Un X.fs [] H H' s.heap h')(hok:Ă X.prog X.w H' h'):Ç X Á σ H' {s with heap:=h',toks:=t'}:=by obtain⟨m,⟨o,es,ep,ho,r⟩,_⟩:=id I.loc;obtain⟨sl,hL⟩:=u.any ho I.free Ö;exact I.step (g':=s.gens) (d':=s.drawn) (ch:=[]) (λ_ z=>nomatch z) (λb o _ hb _ e n=>u.keep b o e n hb Ö) (λb o _ hb _ e n=>u.slot b o e n hb Ö) (λb o _ e n=>u.free b o e n Ö) (λb o _ e=>u.there b o e Ö) u.tups u.frzs u.tbls (λm' hm=>by obtain⟨o',hZ,yn,kM,r'⟩:=hm;rw[ho]at kM;cases kM;exact⟨_,hZ,yn,hL,r'⟩) hok I.bare
theorem Ç.call(I:Ç X Á σ H s)(u:Un (Ď X.stack) ch H H' s.heap h')(hok:Ă X.prog X.w H' h')(hg:AllBare g')(qf:∀b∈ch,(b∈X.ex\/X.s₀.heap.objs.size<=b)/\b≠X.env.locals/\(∀x c,X.env.cells.lookup x=some c->c≠b)/\∀p∈X.pn++Á,p.1≠b):Ç X Á σ H' {s with heap:=h',gens:=g',drawn:=d',toks:=t'}:=by obtain⟨m,⟨o,es,ep,ho,r⟩,_⟩:=id I.loc;obtain⟨sl,hL⟩:=u.any ho I.free λz=>(qf _ z).2.1 O;exact I.step (ch:=ch) qf (λb o hL hb hc e n=>u.keep b o e n (λz=>(ĩ.mp (I.stkSub b z)).elim hL hb) hc) (λb o _ _ hc e n=>u.any e n hc) (λb o hc e n=>u.free b o e n hc) (λb o hc e=>u.there b o e hc) u.tups u.frzs u.tbls (λm' hm=>by obtain⟨o',hZ,yn,kM,r'⟩:=hm;rw[ho]at kM;cases kM;exact⟨_,hZ,yn,hL,r'⟩) hok hg
theorem Ç.turned(I:Ç X Á σ H s)(k:∀b o,b≠it->s.heap.get? b=some o->h'.get? b=some o)(hn:H it=none)(hL:it≠X.env.locals)(h1:it∈X.ex\/X.s₀.heap.objs.size<=it)(h2:∀x c,X.env.cells.lookup x=some c->c≠it)(h3:∀p∈X.pn++Á,p.1≠it):Ç X Á σ H {s with heap:=h',toks:=t'}:=by
 have Pd:∀b u,H b=some u->b≠it:=λb u e z=>by rw[z,hn]at e;cases e
 refine I.step (g':=s.gens) (d':=s.drawn) (ch:=[it]) (λb hb=>?_) (λb o _ _ hc e _=>k b o (λz=>hc (by simp[z])) e) (λb o _ _ hc e _=>⟨o.slots,k b o (λz=>hc (by simp[z])) e⟩) (λ_ _ _ _ n=>n) (λb o hc e=>⟨o,k b o (λz=>hc (by simp[z])) e⟩) (λ_ _ e=>e) (λ_ _ _ e=>e) (λb ps e=>⟨#[],by rw[e];simp⟩) (λm hm=>?_) (λb u e=>?_) I.bare
 .have e:b=it:=by simpa using hb
  subst e;exact⟨h1,hL,h2,h3⟩
 .obtain⟨o,es,ep,ho,r⟩:=hm;exact⟨o,es,ep,k _ o (Ne.symm hL) ho,r⟩
 .refine(I.hok b u e).stay (λc v hc q=>k c v ?_ q) (λ_ q=>q) λ_ _ q=>q;rcases hc with z|z;.rw[z];exact Pd b u e
  .exact Pd c _ z
theorem Ç.tok(I:Ç X Á σ H s)(t:Nat):Ç X Á σ H {s with toks:=t}:=I.un (h':=s.heap) (t':=t) Un.refl I.hok
theorem Ç.kept(I:Ç X Á σ H s)(k:∀b u,s.heap.get? b=some u->h'.get? b=some u):Ç X Á σ H {s with heap:=h',toks:=t'}:=I.un (Un.kept k) (I.hok.kept k)
theorem Ç.laid{a:Addr}(I:Ç X Á σ H s)(k:∀b u,s.heap.get? b=some u->h'.get? b=some u)(hp:s.heap.objs.size<=a)(new:Û X.prog X.w (upd H a o) h' a o):Ç X Á σ (upd H a o) {s with heap:=h',toks:=t'}:=I.un (Un.laid k hp (I.hok.fresh hp)) (I.hok.laid k hp new)
theorem Ç.write(I:Ç X Á σ H s)(mu:Mut (H x))(he:e=x\/H e=some (.own x))(k:∀b u,b≠e->s.heap.get? b=some u->h'.get? b=some u)(BF:∃u,h'.get? e=some u)(new:Û X.prog X.w (upd H x o) h' x o):Ç X Á σ (upd H x o) {s with heap:=h',toks:=t'}:=I.un (Un.write mu he k BF) (I.hok.write mu he k BF new)
theorem Ç.pins_of(I:Ç X Á σ H s)(h:∀p∈iq,s.heap.get? p.1=some p.2/\H p.1=none/\p.1≠X.env.locals/\p.1∉X.fs/\∀v,p.2.data≠.cell v):Ç X iq σ H s:=⟨I.ok,I.os,I.bare,I.base,I.loc,I.cell,I.free,I.freeC,λp hp=>(ė.mp hp).elim (λz=>I.pin p (Za3 _ z)) (h p),I.hok,I.len⟩
theorem vC{N:ð}(hN:N.Nodup){i j:Nat}(a:N[i]?=some x)(b:N[j]?=some x):i=j:=by obtain⟨h1,e1⟩:=Ķ.mp a;obtain⟨h2,e2⟩:=Ķ.mp b;exact(List.getElem_inj hN).mp (e1.trans e2.symm)
theorem jA(I:Ç X Á σ H s)(hN:X.N.Nodup)(hi:X.N[i]?=some x)(hx:Loc X.env.scope x)(r:Ò v u)(h:∀s',Ç X Á (σ.set i (some v)) H s'->(∃a,Heap.SameBut a s.heap s'.heap/\(a=X.env.locals\/X.env.cells.lookup x=some a))->Q () s')(hf:X.fn x=true\/X.env.scope.names.lookup x=some .local:=by first|exact .inl O|exact .inr O|assumption):wpAny M A (storeName X.env x u) Q E s:=by
 obtain⟨m,hn,hl⟩:=id I.loc;have KG:(X.env.scope.kind==.class||(X.env.scope.kind==.module&&X.env.locals !=X.env.globals))=false:=by rw[I.ok.kind];rfl
 have DI:i<σ.length:=by rw[I.len];exact(Ķ.mp hi).1
 have cne:=I.cne;have tracked:∀{a:Addr}{h':Heap},(∃o,s.heap.get? a=some o/\H a=none)->Heap.SameBut a s.heap h'->Ă X.prog X.w H h':=λ{a h'}ha hs b ob e=>by
  obtain⟨_,_,hfree⟩:=ha;refine(I.hok b ob e).stay (λc w' hc q=>(hs.2 c ?_).trans q) (λ_ q=>q) λ_ _ q=>q;rintro rfl;rcases hc with rfl|hc;.rw[hfree]at e;cases e
  .rw[hfree]at hc;cases hc
 rcases hx with hk|hk
 .refine wpAny_storeName_local hk hn (λh' yy hs=>?_) KG;obtain⟨oL,_,_,UL,_⟩:=id hn;refine h _ ⟨I.ok,I.os,I.bare,⟨λb o e n hb hx=>?_,λb o e n hb hx=>?_,I.base.free,λb o e hx=>?_,I.base.tups,I.base.frzs,I.base.tbls⟩,⟨_,yy,λj y v' e1 e2 e3=>?_⟩,λy c e=>?_,I.free,I.freeC,λp hp=>?_,tracked ⟨oL,UL,I.free⟩ hs,by simpa using I.len⟩ ⟨_,hs,.inl O⟩;.exact(hs.2 b (Ħ (ļ (ü e) I.ok.above))).trans (I.base.keep b o e n hb hx)
  .obtain⟨sl,e1⟩:=I.base.slot b o e n hb hx;exact⟨sl,(hs.2 b (Ħ (ļ (ü e) I.ok.above))).trans e1⟩
  .obtain⟨o',e1⟩:=I.base.there b o e hx;exact⟨o',(hs.2 b (Ħ (ļ (ü e) I.ok.above))).trans e1⟩
  .by_cases hj:j=i;.subst hj;rw[hi]at e1;cases e1;rw[Za6 DI]at e2;cases e2;exact⟨u,r,.inl ⟨hk,by simp⟩⟩
   .rw[List.getElem?_set_ne (Ne.symm hj)]at e2;obtain⟨u',r',q⟩:=hl j y v' e1 e2 e3;refine⟨u',r',?_⟩;rcases q with⟨k,e⟩|⟨k,c,e,z⟩;.refine .inl ⟨k,?_⟩;have:y≠x:=λe=>hj (vC hN e1 (e▸hi));simp[this,e]
    .exact .inr ⟨k,c,e,z.sameBut hs (cne y c e)⟩
  .obtain⟨w',z⟩:=I.cell y c e;exact⟨w',z.sameBut hs (cne y c e)⟩
  .obtain⟨e,n,ne,nf,d⟩:=I.pin p hp;exact⟨(hs.2 p.1 ne).trans e,n,ne,nf,d⟩
 .have qV:X.fn x=true:=by
   rcases hf with z|z;.exact z
   .rw[z]at hk;cases hk
  obtain⟨c,hc⟩:=I.ok.has x (.inl hk);obtain⟨w',z⟩:=I.cell x c hc;refine wpAny_storeName_cell I.ok.kind hk hc z (λh' bp hs=>?_);obtain⟨oc,GO,KI⟩:=id z;refine h {s with heap:=h'} ⟨I.ok,I.os,I.bare,⟨λb o e n hb hx=>?_,λb o e n hb hx=>?_,I.base.free,λb o e hx=>?_,I.base.tups,I.base.frzs,I.base.tbls⟩,⟨m,hn.sameBut hs (Ne.symm (cne x c hc)),λj y v' e1 e2 e3=>?_⟩,λy c' e=>?_,I.free,I.freeC,λp hp=>?_,tracked ⟨oc,GO,I.freeC x c hc⟩ hs,by simpa using I.len⟩ ⟨c,hs,.inr hc⟩;.exact(hs.2 b (Ħ (ļ (ü e) (I.ok.cab x c qV hc)))).trans (I.base.keep b o e n hb hx)
  .obtain⟨sl,e1⟩:=I.base.slot b o e n hb hx;exact⟨sl,(hs.2 b (Ħ (ļ (ü e) (I.ok.cab x c qV hc)))).trans e1⟩
  .obtain⟨o',e1⟩:=I.base.there b o e hx;exact⟨o',(hs.2 b (Ħ (ļ (ü e) (I.ok.cab x c qV hc)))).trans e1⟩
  .by_cases hj:j=i;.subst hj;rw[hi]at e1;cases e1;rw[Za6 DI]at e2;cases e2;exact⟨u,r,.inr ⟨.inl hk,c,hc,bp⟩⟩
   .rw[List.getElem?_set_ne (Ne.symm hj)]at e2;obtain⟨u',r',q⟩:=hl j y v' e1 e2 e3;refine⟨u',r',?_⟩;rcases q with q|⟨k,c',e,z'⟩;.exact .inl q
    .refine .inr ⟨k,c',e,z'.sameBut hs ?_⟩;rintro rfl;exact hj (vC hN e1 (I.ok.inj _ _ _ e hc▸hi))
  .by_cases GS:c'=c;.subst GS;exact⟨_,bp⟩
   .obtain⟨w2,z2⟩:=I.cell y c' e;exact⟨w2,z2.sameBut hs GS⟩
  .obtain⟨e,n,ne,nf,d⟩:=I.pin p hp;refine⟨(hs.2 p.1 ?_).trans e,n,ne,nf,d⟩;intro q;rw[q,GO]at e;have q':oc=p.2:=œ e;exact d w' (by rw[<-q'];exact KI)
theorem fZ(I:Ç X Á σ H s)(hN:X.N.Nodup)(hi:X.N[i]?=some x)(hx:Loc X.env.scope x)(r:Ò v u)(h:∀s',Ç X Á (σ.set i (some v)) H s'->Q () s')(hf:X.fn x=true\/X.env.scope.names.lookup x=some .local:=by first|exact .inl O|exact .inr O|assumption):wpAny M A (storeName X.env x u) Q E s:=jA I hN hi hx r (λs' I' _=>h s' I') hf
theorem Ç.call'(I:Ç X Á σ H s)(ho:s'.os=s.os)(u:Un (Ď X.stack) ch H H' s.heap s'.heap)(hok:Ă X.prog X.w H' s'.heap)(hg:AllBare s'.gens)(qf:∀b∈ch,(b∈X.ex\/X.s₀.heap.objs.size<=b)/\b≠X.env.locals/\(∀x c,X.env.cells.lookup x=some c->c≠b)/\∀p∈X.pn++Á,p.1≠b):Ç X Á σ H' s':=by obtain⟨h',g',d',t',o'⟩:=s';have e:o'=s.os:=ho;subst e;exact I.call (g':=g') (t':=t') (d':=d') u hok hg qf
end
abbrev XK:=Value->Option Addr->Hp->Prop
abbrev St:=List (Option V)
abbrev VK:=V->Hp->Prop
abbrev TE:=St->Hp->VK->Prop
abbrev TT:=St->Hp->(Bool->Hp->Prop)->Prop
abbrev TA:=St->Hp->(List V->Hp->Prop)->Prop
structure ŏ where
 nx:St->Hp->Prop
 rt:VK
 bk:St->Hp->Prop:=λ_ _=>False
 ct:St->Hp->Prop:=λ_ _=>False
abbrev TS:=ŏ->St->Hp->Prop
def EP(X:Cx)(Á:Ň)(σ:St)(Q:VK)(u:Value)(s':Shared):Prop:=∃v H',Ç X Á σ H' s'/\Ò v u/\Q v H'
def TP(X:Cx)(Á:Ň)(σ:St)(Q:Bool->Hp->Prop)(b:Bool)(s':Shared):Prop:=∃H',Ç X Á σ H' s'/\Q b H'
def AP(X:Cx)(Á:Ň)(σ:St)(Q:List V->Hp->Prop)(us:ā)(s':Shared):Prop:=∃vs H',Ç X Á σ H' s'/\Í vs us/\Q vs H'
def SP(X:Cx)(Á:Ň)(D:ŏ)(f:Flow)(s':Shared):Prop:=match f with|.next=>∃av H',Ç X Á av H' s'/\D.nx av H'|.brk=>∃av H',Ç X Á av H' s'/\D.bk av H'|.cont=>∃av H',Ç X Á av H' s'/\D.ct av H'|.ret u=>∃v av H',Ç X Á av H' s'/\Ò v u/\D.rt v H'
def PE(X:Cx)(e:Expr)(t:TE):Prop:=∀Á s(σ:St)H Q,Ç X Á σ H s->t σ H Q->wpAny (model X.prog X.w) X.A (eval e X.env) (EP X Á σ Q) X.xe s
def PT(X:Cx)(e:Expr)(t:TT):Prop:=∀Á s(σ:St)H Q,Ç X Á σ H s->t σ H Q->wpAny (model X.prog X.w) X.A (isTrue e X.env (eval e X.env)) (TP X Á σ Q) X.xe s
def PW(X:Cx)(e:Expr)(t:TT):Prop:=∀whole Á s(σ:St)H Q,Ç X Á σ H s->t σ H Q->wpAny (model X.prog X.w) X.A (isTrue e X.env whole) (TP X Á σ Q) X.xe s
theorem PW.pt(h:PW X e t):PT X e t:=h _
def PA(X:Cx)(es:Qa6)(t:TA):Prop:=∀pos Á s(σ:St)H Q,Ç X Á σ H s->t σ H Q->wpAny (model X.prog X.w) X.A (spliced (backTo pos (starEach es X.env))) (AP X Á σ Q) X.xe s
def PS(X:Cx)(st:Stmt)(t:TS):Prop:=∀Á s(σ:St)H D,Ç X Á σ H s->t D σ H->wpAny (model X.prog X.w) X.A (exec st X.env) (SP X Á D) X.xe s
def Ō(X:Cx)(st:List Stmt)(t:TS):Prop:=∀Á s(σ:St)H D,Ç X Á σ H s->t D σ H->wpAny (model X.prog X.w) X.A (execs st X.env) (SP X Á D) X.xe s
theorem Ý{Q Q':α->Shared->Prop}(h:wpAny M A t Q E s)(hQ:∀a s,Q a s->Q' a s):wpAny M A t Q' E s:=wpAny_mono h hQ λ_ _ x=>x
section
variable{X:Cx}
theorem bin(ha:PE X a ta)(hb:PE X b tb){σ:St}{R:V->V->Hp->Prop}(I:Ç X Á σ H s)(h:ta σ H λx H1=>tb σ H1 λy H2=>R x y H2){α:Type}{Q:α->Shared->Prop}{f:Value->Value->Sem α}(hf:∀v u s2 x y H2,Ç X Á σ H2 s2->Ò x v->Ò y u->R x y H2->wpAny (model X.prog X.w) X.A (f v u) Q X.xe s2):wpAny (model X.prog X.w) X.A (eval a X.env) (λv s₁=>wpAny (model X.prog X.w) X.A (eval b X.env) (λu s₂=>wpAny (model X.prog X.w) X.A (f v u) Q X.xe s₂) X.xe s₁) X.xe s:=by refine Ý (ha Á s σ H _ I h) λv s1=>?_;rintro⟨x,H1,I1,r1,q1⟩;refine Ý (hb Á s1 σ H1 _ I1 q1) λu s2=>?_;rintro⟨y,H2,I2,r2,q2⟩;exact hf v u s2 x y H2 I2 r1 r2 q2
inductive Z0k(i:Nat)(σ:St)(H:Hp)(Q:VK):Prop|mk:∀v,(σ[i]?=some (some v))->(Q v H)->Z0k i σ H Q
def Ck(i:Nat):TE:=λσ H Q=>Z0k i σ H Q
def tC(v:V):TE:=λ_ H Q=>Q v H
abbrev Δ(x:Str):Prop:=(x==("__debug__":Str))=false
theorem xT{pos:Pos}(hN:X.N[i]?=some x)(hv:Vis X.env.scope x)(hd:Δ x:=by decide)(ff:(x==("__classdict__":Str))=false:=by decide):PE X (.Name x pos) (Ck i):=by
 intro Á s σ H Q I h;obtain⟨v,e,h⟩:=h;obtain⟨m,hn,hl⟩:=I.loc;obtain⟨u,r,l⟩:=hl i x v hN e hv;have fin:EP X Á σ Q u s:=⟨v,H,I,r,h⟩;rcases l with⟨hk,hm⟩|⟨hk,c,hc,hcell⟩;.exact wpAny_Name (wpAny_loadName_local I.ok.kind hk hn hm fin) hd
 .rcases hk with hk|hk;.exact wpAny_Name (wpAny_loadName_cell I.ok.kind hk hc hcell fin) hd
  .exact wpAny_Name (wpAny_loadName_free I.ok.kind hk hc hcell fin ff) hd
theorem aB{i j pos}:PE X (.Constant (.int i) j pos) (tC (.int i)):=λ_ _ _ H _ I h=>wpAny_Constant_int ⟨.int i,H,I.tok _,⟨_,O⟩,h⟩
theorem kW{b j pos}:PE X (.Constant (.bool b) j pos) (tC (.bl b)):=λ_ _ _ H _ I h=>Constant_bool ⟨.bl b,H,I,O,h⟩
theorem pO{j pos}:PE X (.Constant .none j pos) (tC .non):=λ_ _ _ H _ I h=>Constant_none ⟨.non,H,I,O,h⟩
theorem xU{x j pos}:PE X (.Constant (.str x) j pos) (tC (.str x)):=λ_ _ _ H _ I h=>Calls.Constant_str ⟨.str x,H,I.tok _,⟨_,O⟩,h⟩
def Gl(X:Cx)(x:Str):Prop:=X.env.kindOf x=some .globalImplicit
theorem jB{σ:St}(I:Ç X Á σ H s)(hg:Gl X x)(hm:X.mg x=some u)(h:Q u s)(hd:Δ x:=by decide):wpAny (model X.prog X.w) X.A (eval (.Name x pos) X.env) Q E s:=Calls.Name_function_global I.ok.kind hg (Calls.loadGlobal_global (by rw[I.ok.glob];exact I.mod.glob.keeps I.bk) hm h) hd
theorem je{E:gV}{σ:St}{u:Value}{pos:Pos}{Q:gV}(I:Ç X Á σ H s)(hg:Gl X x)(hm:X.mg x=none)(hv:bootBuiltins x=some u)(h:Q u s)(hn:x≠"__name__":=by decide)(hd:Δ x:=by decide):wpAny (model X.prog X.w) X.A (eval (.Name x pos) X.env) Q E s:=by obtain⟨mb,h1,h2⟩:=I.mod.blt;exact Calls.Name_function_global I.ok.kind hg (Calls.loadGlobal_builtin (by rw[I.ok.glob];exact I.mod.glob.keeps I.bk) hm (by rw[I.ok.blt];exact h1.keeps I.bk) ((h2 x hn).trans hv) h) hd
theorem cu(hg:Gl X x)(hm:X.mg x=some u)(r:Ò v u)(hd:Δ x:=by decide):PE X (.Name x pos) (tC v):=λ_ _ _ H _ I h=>jB I hg hm ⟨v,H,I,r,h⟩ hd
theorem ig{pos:Pos}(hg:Gl X x)(hm:X.mg x=none)(hv:bootBuiltins x=some u)(r:Ò v u)(hn:x≠"__name__":=by decide)(hd:Δ x:=by decide):PE X (.Name x pos) (tC v):=λ_ _ _ H _ I h=>je I hg hm hv ⟨v,H,I,r,h⟩ hn hd
def PC(X:Cx)(op:CmpOp)(a b:Expr)(t:TE):Prop:=∀Á s(σ:St)H Q,Ç X Á σ H s->t σ H Q->wpAny (model X.prog X.w) X.A (eval a X.env) (λv s₁=>wpAny (model X.prog X.w) X.A (eval b X.env) (λu s₂=>wpAny (model X.prog X.w) X.A (compareOp op v u) (EP X Á σ Q) X.xe s₂) X.xe s₁) X.xe s
def tB(t:TE):TT:=λσ H Q=>t σ H λx H1=>∃c,x=.bl c/\Q c H1
theorem Qd(h:PC X op a b t)(h1:behindInMarks op b=false:=by first|exact nobehind _ Ù Ù|rfl):PT X (.Compare a [op] [b] pos) (tB t):=by intro Á s σ H Q I hw;refine wpAny_isTrue_Compare1 (Ý (h Á s σ H _ I hw) λv s1 h1=>Ý h1 λu s2 h2=>Ý h2 λc s3=>?_) h1;rintro⟨x,H1,I1,r1,q1⟩;obtain⟨d,rfl,q⟩:=q1;cases r1;exact wpAny_truthy_bool ⟨H1,I1,q⟩
theorem dD(h:PE X e t)(he:∀whole,isTrue e X.env whole=(do let v<-whole;standAt e.pos;holding [v] (truthy v)):=by intro _;rfl):PT X e (tB t):=by intro Á s σ H Q I hw;refine isTrue_plain (Ý (h Á s σ H _ I hw) λv s1=>?_) (he _);rintro⟨x,H1,I1,r1,q1⟩;obtain⟨d,rfl,q⟩:=q1;cases r1;exact wpAny_truthy_bool ⟨H1,I1,q⟩
def Qe(t u:TT):TT:=λσ H Q=>t σ H λc H1=>if c=true then u σ H1 Q else Q false H1
def tOr(t u:TT):TT:=λσ H Q=>t σ H λc H1=>if c=true then Q true H1 else u σ H1 Q
def Nv(t:TT):TT:=λσ H Q=>t σ H λc H1=>Q (!c) H1
theorem zH(ha:PT X a tA):PW X (.BoolOp .And [a] pos) tA:=by intro wh Á s σ H Q I h;refine isTrue_and (Ý (ha Á s σ H Q I h) λc s1 e=>?_);cases c with|true=>exact isTrue_and_nil e;|false=>exact e
theorem pP(ha:PT X a tA):PW X (.BoolOp .Or [a] pos) tA:=by intro wh Á s σ H Q I h;refine isTrue_or (Ý (ha Á s σ H Q I h) λc s1 e=>?_);cases c with|false=>exact isTrue_or_nil e;|true=>exact e
theorem El(ha:PT X a tA)(hb:PW X (.BoolOp .And (b::rest) pos) GU):PW X (.BoolOp .And (a::b::rest) pos) (Qe tA GU):=by intro wh Á s σ H Q I h;refine isTrue_and (Ý (ha Á s σ H _ I h) λc s1=>?_);rintro⟨H1,I1,q1⟩;cases c with|true=>exact hb wh Á s1 σ H1 Q I1 q1;|false=>exact⟨H1,I1,q1⟩
theorem nZ(ha:PT X a tA)(hb:PW X (.BoolOp .Or (b::rest) pos) GU):PW X (.BoolOp .Or (a::b::rest) pos) (tOr tA GU):=by intro wh Á s σ H Q I h;refine isTrue_or (Ý (ha Á s σ H _ I h) λc s1=>?_);rintro⟨H1,I1,q1⟩;cases c with|true=>exact⟨H1,I1,q1⟩;|false=>exact hb wh Á s1 σ H1 Q I1 q1
theorem cR(ha:PT X a tA):PT X (.UnaryOp .Not a pos) (Nv tA):=by intro Á s σ H Q I h;exact isTrue_not (ha Á s σ H (λc H1=>Q (!c) H1) I h)
def Km(ta tb:TE):TE:=λσ H Q=>ta σ H λx H1=>∃c,x=.bl c/\if c=true then tb σ H1 Q else Q (.bl false) H1
def Nx(ta:TE):TE:=λσ H Q=>ta σ H λx H1=>∃c,x=.bl c/\Q (.bl (!c)) H1
theorem dH{op}(h:PE X a t):PE X (.BoolOp op [a] pos) t:=λÁ s σ H Q I hw=>BoolOp_one (h Á s σ H Q I hw)
theorem cD(ha:PE X a ta)(hb:PE X (.BoolOp .And (b::rest) pos) tb):PE X (.BoolOp .And (a::b::rest) pos) (Km ta tb):=by intro Á s σ H Q I h;refine BoolOp_and (Ý (ha Á s σ H _ I h) λv s1=>?_);rintro⟨x,H1,I1,r1,q1⟩;obtain⟨c,rfl,q1⟩:=q1;cases r1;refine wpAny_truthy_bool ?_;cases c with|true=>exact hb Á s1 σ H1 Q I1 q1;|false=>exact⟨.bl false,H1,I1,O,q1⟩
theorem Em(ha:PE X a ta):PE X (.UnaryOp .Not a pos) (Nx ta):=by intro Á s σ H Q I h;refine UnaryOp_ (Ý (ha Á s σ H _ I h) λv s1=>?_);rintro⟨x,H1,I1,r1,q1⟩;obtain⟨c,rfl,q1⟩:=q1;cases r1;exact not_of (wpAny_truthy_bool ⟨.bl (!c),H1,I1,O,q1⟩)
def tIf(t:TT)(ta tb:TE):TE:=λσ H Q=>t σ H λc H1=>if c=true then ta σ H1 Q else tb σ H1 Q
theorem kY(hc:PT X c tA)(ha:PE X a ta)(hb:PE X b tb):PE X (.IfExp c a b pos) (tIf tA ta tb):=by intro Á s σ H Q I h;refine wpAny_IfExp (Ý (hc Á s σ H _ I h) λd s1=>?_);rintro⟨H1,I1,q1⟩;cases d with|true=>exact ha Á s1 σ H1 Q I1 q1;|false=>exact hb Á s1 σ H1 Q I1 q1
end
def É(K:Frag)(H:Hp)(a:Addr)(xs:List V):Prop:=Rd H a (.lst xs)\/∃o Æ n,K.lookup a=some o/\o.cls=.type "list"/\o.dict=none/\o.data=.seq Æ n/\Æ.size<=sizeLine/\Í xs Æ.toList
def Ð(K:Frag)(H:Hp)(a:Addr)(xs:List V):Prop:=Rd H a (.tup xs)\/∃o Æ n,K.lookup a=some o/\o.cls=.type "tuple"/\o.data=.seq Æ n/\Æ.size<=sizeLine/\Í xs Æ.toList
def Qf:Value->Option V|.none=>some .non|.bool b=>some (.bl b)|.int i _=>some (.int i)|.str x _=>some (.str x)|.bytes b _=>some (.byt b)|.float b _=>some (.flt b)|.ref a=>some (.ref a)|.type n=>some (.ty n)|_=>none
theorem Ò.abs(r:Ò x u):Qf u=some x:=by cases x with|non=>cases r;rfl;|bl _=>cases r;rfl;|int _=>obtain⟨t,rfl⟩:=r;rfl;|str _=>obtain⟨t,rfl⟩:=r;rfl;|byt _=>obtain⟨t,rfl⟩:=r;rfl;|flt _=>obtain⟨t,rfl⟩:=r;rfl;|ref _=>cases r;rfl;|ty _=>cases r;rfl
theorem Ò.inj(r:Ò x u)(q:Ò y u):x=y:=œ (r.abs.symm.trans q.abs)
theorem Í.inj:∀{xs ys:List V}{us:ā},Í xs us->Í ys us->xs=ys|_,_,_,.nil,.nil=>rfl|_,_,_,.cons r t,.cons r' t'=>by rw[r.inj r',Í.inj t t']
section
variable{σ:St}
theorem É.of{K:Frag}(h:H a=some (.lst xs)):É K H a xs:=.inl (.inl h)
theorem Ð.of{K:Frag}(h:H a=some (.tup xs)):Ð K H a xs:=.inl (.inl h)
theorem Ç.list(I:Ç X Á σ H s)(h:É X.K H a xs):∃Æ:ā,Í xs Æ/\PlainL s.heap a Æ.toArray/\xs.length<=sizeLine:=by
 rcases h with h|⟨o,Æ,n,hk,hc,hd,hs,hz,r⟩;.obtain⟨z,Æ,n,r,e⟩:=h.ok I.hok;exact⟨Æ,r,⟨_,n,e,O,O,O⟩,z⟩
 .refine⟨Æ.toList,r,⟨o,n,I.kIn a o hk,hc,hd,by simpa using hs⟩,?_⟩;have e:=r.length;simp only[Array.length_toList]at e;lia
theorem Ç.tuple(I:Ç X Á σ H s)(h:Ð X.K H a xs):∃Æ:ā,Í xs Æ/\IsTup s.heap a Æ.toArray/\xs.length<=sizeLine:=by
 rcases h with h|⟨o,Æ,n,hk,hc,hs,hz,r⟩;.obtain⟨z,Æ,r,p⟩:=h.ok I.hok;exact⟨Æ,r,p,z⟩
 .refine⟨Æ.toList,r,⟨o,I.kIn a o hk,hc,n,by simpa using hs⟩,?_⟩;have e:=r.length;simp only[Array.length_toList]at e;lia
theorem Ç.list_inj(I:Ç X Á σ H s)(h:É X.K H a xs)(h':É X.K H a ys):xs=ys:=by
 obtain⟨Æ,r,⟨o,n,e,_,_,d⟩,_⟩:=I.list h;obtain⟨its',r',⟨o',n',e',_,_,d'⟩,_⟩:=I.list h';rw[e]at e';cases e';rw[d]at d';injection d' with d1 _;have:Æ=its':=by simpa using congrArg Array.toList d1
 subst this;exact r.inj r'
theorem Ç.tuple_inj(I:Ç X Á σ H s)(h:Ð X.K H a xs)(h':Ð X.K H a ys):xs=ys:=by
 obtain⟨Æ,r,⟨o,e,_,n,d⟩,_⟩:=I.tuple h;obtain⟨its',r',⟨o',e',_,n',d'⟩,_⟩:=I.tuple h';rw[e]at e';cases e';rw[d]at d';injection d' with d1 _;have:Æ=its':=by simpa using congrArg Array.toList d1
 subst this;exact r.inj r'
end
abbrev Cx.wish(X:Cx)(E:gV):Cx:={X with xe:=E}
abbrev Cx.nox(X:Cx):Cx:=X.wish λ_ _=>False
theorem Cx.Ok.wish{X:Cx}(ok:X.Ok)(E:gV):(X.wish E).Ok:=⟨ok.mod,ok.kind,ok.glob,ok.blt,ok.above,ok.inj,ok.has,ok.cab,ok.hd,ok.frames,ok.stk,ok.exf,ok.bs,ok.bsz,ok.noex,ok.exfs,ok.funs,ok.frf⟩
theorem Cx.Ok.unwish{X:Cx}(ok:(X.wish E).Ok):X.Ok:=⟨ok.mod,ok.kind,ok.glob,ok.blt,ok.above,ok.inj,ok.has,ok.cab,ok.hd,ok.frames,ok.stk,ok.exf,ok.bs,ok.bsz,ok.noex,ok.exfs,ok.funs,ok.frf⟩
section
variable{σ:St}
theorem Ç.wish(I:Ç X Á σ H s)(E:gV):Ç (X.wish E) Á σ H s:=⟨I.ok.wish E,I.os,I.bare,I.base,I.loc,I.cell,I.free,I.freeC,I.pin,I.hok,I.len⟩
theorem Ç.unwish(I:Ç (X.wish E) Á σ H s):Ç X Á σ H s:=⟨I.ok.unwish,I.os,I.bare,I.base,I.loc,I.cell,I.free,I.freeC,I.pin,I.hok,I.len⟩
theorem SP.unwish(h:SP (X.wish E) Á D f s'):SP X Á D f s':=by cases f with|next=>obtain⟨av,H',I,q⟩:=h;exact⟨av,H',I.unwish,q⟩;|brk=>obtain⟨av,H',I,q⟩:=h;exact⟨av,H',I.unwish,q⟩;|cont=>obtain⟨av,H',I,q⟩:=h;exact⟨av,H',I.unwish,q⟩;|ret u=>obtain⟨v,av,H',I,r,q⟩:=h;exact⟨v,av,H',I.unwish,r,q⟩
theorem Ō.nox{st:List Stmt}(h:Ō X.nox st t):Ō X st t:=λÁ s σ H D I hw=>wpAny_mono (h Á s σ H D (I.wish _) hw) (λ_ _ q=>q.unwish) λ_ _ z=>False.elim z
end
section
variable{st:Stmt}
def En:TS:=λD σ H=>D.nx σ H
def Ir(t u:TS):TS:=λD σ H=>t {D with nx:=u D} σ H
theorem bD:Ō X [] En:=λ_ _ σ H _ I h=>wpAny_execs_nil ⟨σ,H,I,h⟩
theorem aC(h1:PS X st t)(h2:Ō X rest u):Ō X (st::rest) (Ir t u):=by intro Á s σ H D I h;refine wpAny_execs_cons (Ý (h1 Á s σ H {D with nx:=u D} I h) λf s1 q=>?_);cases f with|next=>obtain⟨av,H',I',q⟩:=q;exact h2 Á s1 av H' D I' q;|ret v=>exact q;|brk=>exact q;|cont=>exact q
theorem aF(h1:PS X st t):Ō X [st] t:=by intro Á s σ H D I h;refine wpAny_execs_cons (Ý (h1 Á s σ H D I h) λf s1 q=>?_);cases f with|next=>exact wpAny_execs_nil q;|ret v=>exact q;|brk=>exact q;|cont=>exact q
theorem Ç.quiet{σ:St}(I:Ç X Á σ H s):interactive X.env=false:=by simp[interactive,I.ok.kind]
def Ny(te:TE):TS:=λD σ H=>te σ H λ_ H1=>D.nx σ H1
theorem cg(he:PE X e te)(hs:swapsWith e none pos.line X.env=pure false:=by rfl):PS X (.Expr e pos) (Ny te):=by intro Á s σ H D I h;exact wpAny_Expr_any (Ý (he Á s σ H _ I h) λv s1=>by rintro⟨x,H1,I1,r1,q1⟩;exact⟨σ,H1,I1,q1⟩) I.quiet hs
def Ln(te:TE):TS:=λD σ H=>te σ H D.rt
theorem aQ(he:PE X e te):PS X (.Return (some e) pos) (Ln te):=by intro Á s σ H D I h;exact wpAny_Return_some (Ý (he Á s σ H _ I h) λv s1=>by rintro⟨x,H1,I1,r1,q1⟩;exact⟨x,σ,H1,I1,r1,q1⟩)
def Nz(c:TT)(t u:TS):TS:=λD σ H=>c σ H λb H1=>if b=true then t D σ H1 else u D σ H1
theorem cO(hc:PT X c tc)(ha:Ō X a t)(hb:Ō X b u):PS X (.If c a b pos) (Nz tc t u):=by intro Á s σ H D I h;refine wpAny_If (Ý (hc Á s σ H _ I h) λd s1=>?_);rintro⟨H1,I1,q1⟩;cases d with|true=>exact ha Á s1 σ H1 D I1 q1;|false=>exact hb Á s1 σ H1 D I1 q1
def Eo:TS:=λ_ _ _=>False
theorem kZ:PS X st Eo:=λ_ _ _ _ _ _ h=>h.elim
theorem sy:Ō X KL Eo:=λ_ _ _ _ _ _ h=>h.elim
end
abbrev TG:=V->St->Hp->(St->Hp->Prop)->Prop
abbrev TGs:=List V->St->Hp->(St->Hp->Prop)->Prop
def PG(X:Cx)(target:Expr)(t:TG):Prop:=∀Á s(σ:St)H v u Q,Ç X Á σ H s->Ò v u->t v σ H Q->wpAny (model X.prog X.w) X.A (assign target X.env u) (λ_ s'=>∃av H',Ç X Á av H' s'/\Q av H') X.xe s
def PGs(X:Cx)(ts:Qa6)(t:TGs):Prop:=∀Á s(σ:St)H vs us Q,Ç X Á σ H s->Í vs us->t vs σ H Q->wpAny (model X.prog X.w) X.A (assignInOrder ((assignEach ts X.env).map (·.2)) us) (λ_ s'=>∃av H',Ç X Á av H' s'/\Q av H') X.xe s
abbrev Cm:=V->V->V->Hp->(Hp->Prop)->Prop
def Iu(X:Cx)(t:Cm):Prop:=∀Á s(σ:St)H o i v ov iv u Q,Ç X Á σ H s->Ò o ov->Ò i iv->Ò v u->t o i v H Q->wpAny (model X.prog X.w) X.A (setItem ov iv u) (λ_ s'=>∃H',Ç X Á σ H' s'/\Q H') X.xe s
abbrev TIp:=V->V->Hp->VK->Prop
def PIp(X:Cx)(op:Operator)(t:TIp):Prop:=∀Á s(σ:St)H x y v u Q,Ç X Á σ H s->Ò x v->Ò y u->t x y H Q->wpAny (model X.prog X.w) X.A (inplaceOp op v u) (EP X Á σ Q) X.xe s
section
variable{pos:Pos}
def bU(i:Nat):TG:=λv σ H Q=>Q (σ.set i (some v)) H
theorem bF(hN:X.N.Nodup)(hi:X.N[i]?=some x)(hx:Loc X.env.scope x)(hf:X.fn x=true\/X.env.scope.names.lookup x=some .local:=by first|exact .inl O|exact .inr O|assumption):PG X (.Name x pos) (bU i):=by intro Á s σ H v u Q I r h;exact wpAny_assign_Name (fZ I hN hi hx r (λs' I'=>⟨_,H,I',h⟩) hf)
def oH:TGs:=λvs σ H Q=>vs=[]/\Q σ H
def cU(t:TG)(u:TGs):TGs:=λvs σ H Q=>∃v r,vs=v::r/\t v σ H λav H'=>u r av H' Q
theorem aX:PGs X [] oH:=by intro Á s σ H vs us Q I r h;obtain⟨e,h⟩:=h;exact assignInOrder_nil ⟨σ,H,I,h⟩
theorem az(h1:PG X e t)(h2:PGs X es u)(hs:(assignEach (e::es) X.env).map (·.2)=assign e X.env::(assignEach es X.env).map (·.2):=by rfl):PGs X (e::es) (cU t u):=by intro Á s σ H vs us Q I r h;obtain⟨v,vr,e1,h⟩:=h;subst e1;cases r with|cons r rr=>rw[hs];refine assignInOrder_cons (Ý (h1 Á s σ H _ _ _ I r h) λ_ s1=>?_);rintro⟨DJ,H1,I1,q1⟩;exact h2 Á s1 DJ H1 _ _ Q I1 rr q1
inductive Z0w(K:Frag)(n:Nat)(t:TGs)(v:V)(σ:St)(H:Hp)(Q:St->Hp->Prop):Prop|mk:∀a xs,(v=.ref a)->(Ð K H a xs)->(xs.length=n)->(t xs σ H Q)->Z0w K n t v σ H Q
def mW(K:Frag)(n:Nat)(t:TGs):TG:=λv σ H Q=>Z0w K n t v σ H Q
theorem bR{k:Nat}(hc:X.calm=true)(h:PGs X es t)(hn:(assignEach es X.env).length=n:=by rfl)(dS:(assignEach es X.env).findIdx? (·.1)=none:=by rfl):PG X (.Tuple es k pos) (mW X.K n t):=by intro Á s σ H v u Q I r hw;obtain⟨a,xs,e1,hq,hl,hw⟩:=hw;subst e1;cases r;obtain⟨Æ,rv,ht,hz⟩:=I.tuple hq;refine assign_Tuple_tuple (I.ok.hd hc) ht (by simp[hn,<-hl,rv.length]) dS λh' hx=>?_;have I1:Ç X Á σ H {s with heap:=h'}:=I.kept (t':=s.toks) λb o e=>hx b o (Ħ (ü e)) e;exact h Á _ σ H xs _ Q I1 (by simpa using rv) hw
def Qg(to ti:TE)(t:Cm):TG:=λv σ H Q=>to σ H λo H1=>ti σ H1 λi H2=>t o i v H2 λH3=>Q σ H3
theorem mX(ho:PE X o to)(hi:PE X i ti)(hs:Iu X t)(ha:∀v,assign (.Subscript o i pos) X.env v=(do
   let ov<-holding [v] (eval o X.env)let iv<-holding [v,ov] (eval i X.env)standAt pos
   holding [v,ov,iv] (setItem ov iv v)release [v,ov,iv] []):=by intro _;rfl):PG X (.Subscript o i pos) (Qg to ti t):=by intro Á s σ H v u Q I r h;rw[ha];refine Ä (wpAny_holding (Ý (ho Á s σ H _ I h) λov s1=>?_));rintro⟨x,H1,I1,r1,q1⟩;refine Ä (wpAny_holding (Ý (hi Á s1 σ H1 _ I1 q1) λiv s2=>?_));rintro⟨y,H2,I2,r2,q2⟩;refine Ä (wpAny_standAt (Ä (wpAny_holding (Ý (hs Á s2 σ H2 x y v ov iv u _ I2 r1 r2 r q2) λ_ s3=>?_))));rintro⟨H3,I3,q3⟩;exact wpAny_release ⟨σ,H3,I3,q3⟩
def xV(te:TE)(g:TG):TS:=λD σ H=>te σ H λx H1=>g x σ H1 D.nx
theorem cV(he:PE X e te)(hg:PG X tg g)(hs:swapsWithSole [tg] e pos.line X.env=pure false:=by rfl)(hw:swappedStores [tg] e X.env=pure none:=by rfl)(h1:(assignEach [tg] X.env).map (·.2)=[assign tg X.env]:=by rfl):PS X (.Assign [tg] e pos) (xV te g):=by intro Á s σ H D I h;refine wpAny_Assign_stores (Ý (he Á s σ H _ I h) λv s1=>?_) hs hw;rintro⟨x,H1,I1,r1,q1⟩;rw[h1];exact Ý (hg Á s1 σ H1 x v _ I1 r1 q1) λ_ s2 q=>q
theorem mY(hN:X.N.Nodup)(hi:X.N[i]?=some x)(hx:Loc X.env.scope x)(he:PE X e te)(hs:swapsWith e (some (.Name x pos')) pos.line X.env=pure false:=by rfl)(hf:X.fn x=true\/X.env.scope.names.lookup x=some .local:=by first|exact .inl O|exact .inr O|assumption):PS X (.Assign [.Name x pos'] e pos) (xV te (bU i)):=by intro Á s σ H D I h;refine wpAny_Assign_Name (Ý (he Á s σ H _ I h) λv s1=>?_) hs;rintro⟨y,H1,I1,r1,q1⟩;exact fZ I1 hN hi hx r1 (λs2 I2=>⟨_,H1,I2,q1⟩) hf
def Qh(i j:Nat)(ta:TA):TS:=λD σ H=>ta σ H λvs H1=>∃v w,vs=[v,w]/\D.nx ((σ.set i (some v)).set j (some w)) H1
theorem ug{kt k2 pt2}(hc:X.calm=true)(hN:X.N.Nodup)(hi:X.N[i]?=some x)(hj:X.N[j]?=some y)(yA:i≠j)(hx:X.env.scope.names.lookup x=some .local)(hy:X.env.scope.names.lookup y=some .local)(ha:PA X [a,b] ta)(hw:swappedStores [.Tuple [.Name x px,.Name y py] kt pt] (.Tuple [a,b] k2 pt2) X.env=pure (some [x,y]))(hs:swapsWithSole [.Tuple [.Name x px,.Name y py] kt pt] (.Tuple [a,b] k2 pt2) pos.line X.env=pure false:=by rfl):PS X (.Assign [.Tuple [.Name x px,.Name y py] kt pt] (.Tuple [a,b] k2 pt2) pos) (Qh i j ta):=by
 intro Á s σ H D I h;rw[exec_Assign_arm];refine Ä (wpAny_standAt ?_);rw[hs];refine Ä (Ú ?_);rw[Ê Ù];refine Ä (Tuple_ (Ý (ha _ Á s σ H _ I h) λus s1=>?_));rintro⟨vs,H1,I1,r1,q1⟩;obtain⟨v,w,e1,q1⟩:=q1;subst e1;obtain⟨u1,u2,rfl,rv,fh⟩:∃u1 u2,us=[u1,u2]/\Ò v u1/\Ò w u2:=by cases r1 with|cons p q=>cases q with|cons p' q'=>cases q';exact⟨_,_,O,p,p'⟩
 refine Γ ?_ (by show 2<=sizeLine;decide);have I2:Ç X Á σ H1 {s1 with heap:=s1.heap.push {cls:=.type "tuple",data:=.seq [u1,u2].toArray}}:=I1.kept (t':=s1.toks) λb o e=>þ _ e;rw[hw];refine Ä (Ú ?_);show wpAny (model X.prog X.w) X.A (do rule "assign.swapped-stores";let items<-unpackItems (.ref s1.heap.objs.size) 2 none;assignInOrder [λv=>bindName X.env y v,λv=>bindName X.env x v] items.reverse;pure Flow.next) _ _ _;refine Ä (wpAny_rule (Ä (unpackItems_tuple (items:=#[u1,u2]) (I.ok.hd hc) (IsTup.new s1.heap _) λh' cE=>?_)));have I3:=I2.kept (h':=h') (t':=s1.toks) λb o e=>cE b o (Ħ (ü e)) e;show wpAny _ _ (assignInOrder [λv=>bindName X.env y v,λv=>bindName X.env x v] [u2,u1]>>=λ_=>pure Flow.next) _ _ _;refine Ä (assignInOrder_cons (wpAny_bindName (fZ I3 hN hj (.inl hy) fh (λs2 I4=>?_) (.inr hy))));refine assignInOrder_cons (wpAny_bindName (fZ I4 hN hi (.inl hx) rv (λs3 I5=>assignInOrder_nil (Ú ?_)) (.inr hx)));rw[List.set_comm _ _ (Ne.symm yA)]at I5;exact⟨_,H1,I5,q1⟩
inductive Z0m(i:Nat)(te:TE)(ti:TIp)(D:ŏ)(σ:St)(H:Hp):Prop|mk:∀x,(σ[i]?=some (some x))->(te σ H λy H1=>ti x y H1 λz H2=>D.nx (σ.set i (some z)) H2)->Z0m i te ti D σ H
def Qi(i:Nat)(te:TE)(ti:TIp):TS:=λD σ H=>Z0m i te ti D σ H
theorem pQ(hN:X.N.Nodup)(hi:X.N[i]?=some x)(hx:Loc X.env.scope x)(he:PE X e te)(ho:PIp X op ti)(hf:X.fn x=true\/X.env.scope.names.lookup x=some .local:=by first|exact .inl O|exact .inr O|assumption):PS X (.AugAssign (.Name x pos') op e pos) (Qi i te ti):=by
 intro Á s σ H D I h;obtain⟨v,e1,h⟩:=h;obtain⟨m,hn,hl⟩:=I.loc;have UM:Vis X.env.scope x:=by rcases hx with k|k;exact .inl k;exact .inr (.inl k)
 obtain⟨u,r,l⟩:=hl i x v hi e1 UM;refine wpAny_AugAssign_Name ?_;have go:wpAny (model X.prog X.w) X.A (eval e X.env) (λw s₂=>wpAny (model X.prog X.w) X.A (inplaceOp op u w) (λr s₃=>wpAny (model X.prog X.w) X.A (storeName X.env x r) (λ_=>SP X Á D .next) X.xe s₃) X.xe s₂) X.xe s:=by refine Ý (he Á s σ H _ I h) λw s1=>?_;rintro⟨y,H1,I1,r1,q1⟩;refine Ý (ho Á s1 σ H1 v y u w _ I1 r r1 q1) λz s2=>?_;rintro⟨zv,H2,I2,r2,q2⟩;exact fZ I2 hN hi hx r2 (λs3 I3=>⟨_,H2,I3,q2⟩) hf
 rcases l with⟨hk,hm⟩|⟨hk,c,hc,hcell⟩;.exact wpAny_loadName_local I.ok.kind hk hn hm go
 .rcases hk with hk|hk;.exact wpAny_loadName_cell I.ok.kind hk hc hcell go
  .rcases hx with k|k;.have:X.env.scope.names.lookup x=some .free:=hk;rw[k]at this;cases this
   .have:X.env.scope.names.lookup x=some .free:=hk;rw[k]at this;cases this
def NB(to ti te:TE)(rf:V->V->Hp->VK->Prop)(GV:TIp)(rg:Cm):TS:=λD σ H=>to σ H λo H1=>ti σ H1 λi H2=>rf o i H2 λx H3=>te σ H3 λy H4=>GV x y H4 λz H5=>rg o i z H5 λH6=>D.nx σ H6
def NK(X:Cx)(t:V->V->Hp->VK->Prop):Prop:=∀Á s(σ:St)H o i ov iv Q,Ç X Á σ H s->Ò o ov->Ò i iv->t o i H Q->wpAny (model X.prog X.w) X.A (getItem ov iv) (EP X Á σ Q) X.xe s
theorem uh(ho:PE X o to)(hi:PE X i ti)(hg:NK X rf)(he:PE X e te)(hp:PIp X op GV)(hs:Iu X rg)(ha:∀ov iv new,augStore i ov iv new=(do holding [new,ov,iv] (setItem ov iv new);release [new,ov,iv] [];pure .next):=by intros;rfl):PS X (.AugAssign (.Subscript o i yB) op e pos) (NB to ti te rf GV rg):=by intro Á s σ H D I h;refine wpAny_AugAssign_SubscriptAny (Ý (ho Á s σ H _ I h) λov s1=>?_) ha;rintro⟨x1,H1,I1,r1,q1⟩;refine Ý (hi Á s1 σ H1 _ I1 q1) λiv s2=>?_;rintro⟨x2,H2,I2,r2,q2⟩;refine Ý (hg Á s2 σ H2 x1 x2 ov iv _ I2 r1 r2 q2) λold s3=>?_;rintro⟨x3,H3,I3,r3,q3⟩;refine Ý (he Á s3 σ H3 _ I3 q3) λv s4=>?_;rintro⟨x4,H4,I4,r4,q4⟩;refine Ý (hp Á s4 σ H4 x3 x4 old v _ I4 r3 r4 q4) λnew s5=>?_;rintro⟨x5,H5,I5,r5,q5⟩;exact Ý (hs Á s5 σ H5 x1 x2 x5 ov iv new _ I5 r1 r2 r5 q5) λ_ s6=>by rintro⟨H6,I6,q6⟩;exact⟨σ,H6,I6,q6⟩
def ipI(f:Int->Int->Int):TIp:=λx y H Q=>∃i j,x=.int i/\y=.int j/\Q (.int (f i j)) H
theorem Ep:PIp X .Add (ipI λi j=>i+j):=by intro Á s σ H x y v u Q I r1 r2 h;obtain⟨i,j,e1,e2,q⟩:=h;subst e1;subst e2;obtain⟨t,rfl⟩:=r1;obtain⟨t',rfl⟩:=r2;exact iadd_int ⟨.int _,H,I.tok _,⟨_,O⟩,q⟩
theorem Er:PIp X .Sub (ipI λi j=>i-j):=by intro Á s σ H x y v u Q I r1 r2 h;obtain⟨i,j,e1,e2,q⟩:=h;subst e1;subst e2;obtain⟨t,rfl⟩:=r1;obtain⟨t',rfl⟩:=r2;exact isub_int ⟨.int _,H,I.tok _,⟨_,O⟩,q⟩
end
section
end
structure It where
 go:Nat->Hp->Prop
 yld:Nat->Hp->V->Hp->Prop
 stop:Nat->Hp->Prop
def jJ(X:Cx)(Á:Ň)(H:Hp)(b:Addr):Prop:=H b=none/\b≠X.env.locals/\b∉X.fs/\(b∈X.ex\/X.s₀.heap.objs.size<=b)/\(∀x c,X.env.cells.lookup x=some c->c≠b)/\∀p∈X.pn++Á,p.1≠b
theorem Ç.fpOk{σ:St}{b:Addr}(I:Ç X Á σ H s)(hb:s.heap.objs.size<=b)(hn:H' b=none):jJ X Á H' b:=by
 refine⟨hn,ϗ (ļ I.lt hb),I.nofs hb,.inr (Ņ I.sz hb),λx c e z=>?_,λp hp z=>?_⟩;.obtain⟨v,q⟩:=I.cell x c e;exact absurd (ļ q.lt (by rw[z];exact hb)) (ź _)
 .exact absurd (ļ (ü (I.pin p hp).1) (by rw[z];exact hb)) (ź _)
structure Ĺ(P:Program)(w:World)(K:Frag)(tg:Expr)(J:It)(fp:Ĉ)(it:Addr)(tn:Nat->Heap->Prop):Prop where
 mem:it∈fp
 obj:∀i h,tn i h->∀b∈fp,∃o,h.get? b=some o/\∀v,o.data≠.cell v
 keep:∀i h h',tn i h->(∀b∈fp,∀o,h.get? b=some o->h'.get? b=some o)->tn i h'
 item:∀X,X.prog=P->X.w=w->X.K=K->X.calm=true->∀i Á s(σ:St)H E,Ç X Á σ H s->(∀b∈fp,jJ X Á H b)->tn i s.heap->J.go i H->wpAny (model P w) X.A (pyNext (.ref it)) (λr s1=>∃u,r=some u/\wpAny (model P w) X.A (letOwnedTupleGo tg (.ref it) u) (λ_ s2=>∃x H',Ç X Á σ H' s2/\Ò x u/\J.yld i H x H'/\tn (i+1) s2.heap/\∀b∈fp,H' b=none) E s1) E s
 done:∀X,X.prog=P->X.w=w->X.K=K->X.calm=true->∀i Á s(σ:St)(H:Hp)(E:gV),Ç X Á σ H s->(∀b∈fp,jJ X Á H b)->tn i s.heap->J.stop i H->wpAny (model P w) X.A (pyNext (.ref it)) (λr s1=>r=none/\Ç X Á σ H s1) E s
 self:∀(A:Around)(i:Nat)(s:Shared)(Q:gV)(E:gV),tn i s.heap->Q (.ref it) s->wpAny (model P w) A (pyIter (.ref it)) Q E s
abbrev TI:=St->Hp->(It->Hp->Prop)->Prop
def PIE(X:Cx)(Á:Ň)(σ:St)(tg:Expr)(R:It->Hp->Prop)(DL:Value)(s2:Shared):Prop:=∃(it:Addr)(fp:Ĉ)(tn:Nat->Heap->Prop)(J:It)(H':Hp),DL=.ref it/\Ç X Á σ H' s2/\Ĺ X.prog X.w X.K tg J fp it tn/\tn 0 s2.heap/\(∀b∈fp,jJ X Á H' b)/\R J H'
def PI(X:Cx)(tg iter:Expr)(wi:TI):Prop:=∀Á s(σ:St)H R,Ç X Á σ H s->wi σ H R->wpAny (model X.prog X.w) X.A (eval iter X.env) (λv s1=>wpAny (model X.prog X.w) X.A (pyIter v) (PIE X Á σ tg R) X.xe s1) X.xe s
theorem vD(ho:s.heap.get? it=some o)(hc:o.cls=.type n)(hd:o.data=.fields vs)(hn:["enumerate","zip","dict_itemiterator","dict_reverseitemiterator","odict_iterator","itertools.zip_longest","itertools.pairwise"].contains n=false)(hQ:Q () s):wpAny M A (letOwnedTupleGo tg (.ref it) u) Q E s:=by cases tg<;>first|exact Ú hQ;|(cases u<;>first|exact Ú hQ;|(refine Ä (wpAny_load ho ?_);rw[hc,hd];show wpAny M A (if(["enumerate","zip","dict_itemiterator","dict_reverseitemiterator","odict_iterator","itertools.zip_longest","itertools.pairwise"].contains n&&vs[0]?==some (rawInt _))=true then _ else _) Q E s;rw[Ê (by intro h;rw[hn]at h;cases h)];exact Ú hQ))
def Itl(K:Frag)(a:Addr):It:=⟨λi H=>∃xs x,É K H a xs/\xs[i]?=some x,λi H x H'=>H'=H/\∀xs,É K H a xs->xs[i]?=some x,λi H=>∃xs,É K H a xs/\xs.length<=i⟩
def Itt(K:Frag)(a:Addr):It:=⟨λi H=>∃xs x,Ð K H a xs/\xs[i]?=some x,λi H x H'=>H'=H/\∀xs,Ð K H a xs->xs[i]?=some x,λi H=>∃xs,Ð K H a xs/\xs.length<=i⟩
def Itr(lo:Int)(n:Nat):It:=⟨λi _=>i<n,λi H x H'=>H'=H/\x=.int (lo+i),λi _=>n<=i⟩
theorem Cp{K:Frag}(a it:Addr):Ĺ P w K tg (Itl K a) [it] it (λi h=>h.IsListIter it a i)where
 mem:=by simp
 obj:=λi h st b hb=>by
  have e:b=it:=by simpa using hb
  subst e;obtain⟨o,e,c,d⟩:=st;exact⟨o,e,λv z=>by rw[d]at z;cases z⟩
 keep:=λi h h' st k=>st.at λo e=>k it Ö o e;item:=by intro X hP hw hK hc i Á s σ H E I hf st hg;subst hP hw hK;obtain⟨xs,x,hq,hx⟩:=hg;obtain⟨Æ,rv,p,hz⟩:=I.list hq;obtain⟨u,hu,ru⟩:=rv.get hx;obtain⟨f0,f1,f2,f3,f4,f5⟩:=hf it Ö;refine wpAny_pyNext_list_item st p.isList (x:=u) (by simpa using hu) λh' Î sb=>?_;have I1:Ç X Á σ H {s with heap:=h'}:=I.turned (t':=s.toks) (λb o hb e=>(sb.2 b hb).trans e) f0 f1 f3 f4 f5;obtain⟨o,e,c,d⟩:=id Î;exact⟨u,O,vD (s:={s with heap:=h'}) e c d Ù ⟨x,H,I1,ru,⟨O,λys hy=>by rw[I.list_inj hy hq];exact hx⟩,Î,λb hb=>(hf b hb).1⟩⟩
 done:=by intro X hP hw hK hc i Á s σ H E I hf st hg;subst hP hw hK;obtain⟨xs,hq,hx⟩:=hg;obtain⟨Æ,rv,p,hz⟩:=I.list hq;obtain⟨f0,f1,f2,f3,f4,f5⟩:=hf it Ö;have hl:=rv.length;exact wpAny_pyNext_list_end (I.ok.hd hc) st p.isList (by simp;lia) λh' eb=>⟨O,I.turned (t':=s.toks) (λb o hb e=>eb b o hb e) f0 f1 f3 f4 f5⟩
 self:=λ_ _ _ _ _ st h=>wpAny_pyIter_listiter st h
theorem xW{K:Frag}(a it:Addr):Ĺ P w K tg (Itt K a) [it] it (λi h=>h.IsTupleIter it a i)where
 mem:=by simp
 obj:=λi h st b hb=>by
  have e:b=it:=by simpa using hb
  subst e;obtain⟨o,e,c,d⟩:=st;exact⟨o,e,λv z=>by rw[d]at z;cases z⟩
 keep:=λi h h' st k=>st.at λo e=>k it Ö o e;item:=by intro X hP hw hK hc i Á s σ H E I hf st hg;subst hP hw hK;obtain⟨xs,x,hq,hx⟩:=hg;obtain⟨Æ,rv,p,hz⟩:=I.tuple hq;obtain⟨u,hu,ru⟩:=rv.get hx;obtain⟨f0,f1,f2,f3,f4,f5⟩:=hf it Ö;refine wpAny_pyNext_tuple_item st (show s.heap.IsTuple a Æ.toArray from p) (x:=u) (by simpa using hu) λh' Î sb=>?_;have I1:Ç X Á σ H {s with heap:=h'}:=I.turned (t':=s.toks) (λb o hb e=>(sb.2 b hb).trans e) f0 f1 f3 f4 f5;obtain⟨o,e,c,d⟩:=id Î;exact⟨u,O,vD (s:={s with heap:=h'}) e c d Ù ⟨x,H,I1,ru,⟨O,λys hy=>by rw[I.tuple_inj hy hq];exact hx⟩,Î,λb hb=>(hf b hb).1⟩⟩
 done:=by intro X hP hw hK hc i Á s σ H E I hf st hg;subst hP hw hK;obtain⟨xs,hq,hx⟩:=hg;obtain⟨Æ,rv,p,hz⟩:=I.tuple hq;obtain⟨f0,f1,f2,f3,f4,f5⟩:=hf it Ö;have hl:=rv.length;exact wpAny_pyNext_tuple_end (I.ok.hd hc) st (show s.heap.IsTuple a Æ.toArray from p) (by simp;lia) λh' eb=>⟨O,I.turned (t':=s.toks) (λb o hb e=>eb b o hb e) f0 f1 f3 f4 f5⟩
 self:=λ_ _ _ _ _ st h=>wpAny_pyIter_tupleiter st h
theorem xX{K:Frag}(it:Addr)(lo:Int)(n:Nat):Ĺ P w K tg (Itr lo n) [it] it (λi h=>IsRangeIter h it (lo+(i:Nat)*1) ((n:Int)-(i:Nat)) 1)where
 mem:=by simp
 obj:=λi h st b hb=>by
  have e:b=it:=by simpa using hb
  subst e;exact⟨_,st,λv z=>by have z':Data.fields _=Data.cell v:=z;cases z'⟩
 keep:=λi h h' st k=>k it Ö _ st;item:=by intro X hP hw hK hc i Á s σ H E I hf st hg;subst hP hw hK;obtain⟨f0,f1,f2,f3,f4,f5⟩:=hf it Ö;have W:=Walks.range (prog:=X.prog) (w:=X.w) (I.ok.hd hc) it lo 1 n;refine W.item i s _ _ hg st λv h' tk hv Î kk=>?_;obtain⟨t,rfl⟩:=hv;have I1:Ç X Á σ H {s with heap:=h',toks:=tk}:=I.turned (λb o hb e=>kk b o (by simpa using hb) e) f0 f1 f3 f4 f5;refine⟨_,O,vD (s:={s with heap:=h',toks:=tk}) (n:="range_iterator") Î O O Ù ⟨.int (lo+i),H,I1,⟨t,?_⟩,⟨O,O⟩,Î,λb hb=>(hf b hb).1⟩⟩;rw[Int.mul_one]
 done:=by intro X hP hw hK hc i Á s σ H E I hf st hg;subst hP hw hK;obtain⟨f0,f1,f2,f3,f4,f5⟩:=hf it Ö;exact wpAny_pyNext_range_end (I.ok.hd hc) st (by have:n<=i:=hg;lia) λh' eb=>⟨O,I.turned (t':=s.toks) (λb o hb e=>eb b o hb e) f0 f1 f3 f4 f5⟩
 self:=λ_ _ _ _ _ st h=>wpAny_pyIter_rangeiter st h
section
variable{tg:Expr}
def NQ(K:Frag)(tl:TE):TI:=λσ H R=>tl σ H λx H1=>∃a,x=.ref a/\(∃xs,É K H1 a xs)/\R (Itl K a) H1
def NT(K:Frag)(tl:TE):TI:=λσ H R=>tl σ H λx H1=>∃a,x=.ref a/\(∃xs,Ð K H1 a xs)/\R (Itt K a) H1
theorem dF(hl:PE X l tl):PI X tg l (NQ X.K tl):=by
 intro Á s σ H R I h;refine Ý (hl Á s σ H _ I h) λv s1=>?_;rintro⟨x,H1,I1,r1,q1⟩;obtain⟨a,e,⟨xs,hq⟩,q⟩:=q1;subst e;cases r1;obtain⟨Æ,rv,p,hz⟩:=I1.list hq;refine wpAny_pyIter_list p.isList ?_;refine⟨s1.heap.objs.size,[s1.heap.objs.size],_,_,H1,O,I1.kept (t':=s1.toks) λb o e=>þ _ e,Cp a _,⟨_,Ĩ _ O,O,O⟩,λb hb=>?_,q⟩;have e:b=s1.heap.objs.size:=by simpa using hb
 subst e;exact I1.fpOk (Ü _) (I1.hok.fresh (Ü _))
theorem gw(hl:PE X l tl):PI X tg l (NT X.K tl):=by
 intro Á s σ H R I h;refine Ý (hl Á s σ H _ I h) λv s1=>?_;rintro⟨x,H1,I1,r1,q1⟩;obtain⟨a,e,⟨xs,hq⟩,q⟩:=q1;subst e;cases r1;obtain⟨Æ,rv,p,hz⟩:=I1.tuple hq;refine wpAny_pyIter_tuple (p) ?_;refine⟨s1.heap.objs.size,[s1.heap.objs.size],_,_,H1,O,I1.kept (t':=s1.toks) λb o e=>þ _ e,xW a _,⟨_,Ĩ _ O,O,O⟩,λb hb=>?_,q⟩;have e:b=s1.heap.objs.size:=by simpa using hb
 subst e;exact I1.fpOk (Ü _) (I1.hok.fresh (Ü _))
theorem vG{σ:St}{lo hi:Int}(I:Ç X Á σ H s)(h1:-(2^62)<=lo)(h2:lo<2^62)(h3:-(2^62)<=hi)(h4:hi<2^62)(q:R (Itr lo (hi-lo).toNat) H):wpAny (model X.prog X.w) X.A (pyIter (.ref s.heap.objs.size)) (PIE X Á σ tg R) E {s with heap:=s.heap.push {cls:=.type "range",data:=.fields #[.int lo t,.int hi u,.int 1 v]},toks:=tk}:=by
 refine wpAny_pyIter_range (IsRange.new ..) (small_one h1 h2 h3 h4) ?_;have I1:Ç X Á σ H {s with heap:=s.heap.push {cls:=.type "range",data:=.fields #[.int lo t,.int hi u,.int 1 v]},toks:=tk}:=I.kept λb o e=>þ _ e;refine⟨(s.heap.push {cls:=.type "range",data:=.fields #[.int lo t,.int hi u,.int 1 v]}).objs.size,[(s.heap.push {cls:=.type "range",data:=.fields #[.int lo t,.int hi u,.int 1 v]}).objs.size],_,_,H,O,I1.kept (t':=tk) λb o e=>þ _ e,xX _ lo (hi-lo).toNat,?_,λb hb=>?_,q⟩
 .have e1:lo+((0:Nat):Int)*1=lo:=by simp
  have e2:(((hi-lo).toNat:Nat):Int)-((0:Nat):Int)=Builtin.Range.rangeSize lo hi 1:=by rw[rangeSize_one];split<;>lia
  rw[e1,e2];exact Ĩ _ O
 .have e:b=(s.heap.push {cls:=.type "range",data:=.fields #[.int lo t,.int hi u,.int 1 v]}).objs.size:=by simpa using hb
  subst e;exact I1.fpOk (Ü _) (I1.hok.fresh (Ü _))
def NZ(ta:TA):TI:=λσ H R=>ta σ H λvs H1=>∃j,vs=[.int j]/\-(2^62)<=j/\j<2^62/\R (Itr 0 j.toNat) H1
def O1(ta:TA):TI:=λσ H R=>ta σ H λvs H1=>∃i j,vs=[.int i,.int j]/\(-(2^62)<=i/\i<2^62/\-(2^62)<=j/\j<2^62)/\R (Itr i (j-i).toNat) H1
theorem bV(hg:Gl X "range")(hm:X.mg "range"=none)(ha:PA X [a] ta)(hs:starEach [a] X.env=[(false,eval a X.env)]:=by rfl):PI X tg (.Call (.Name "range" p) [a] [] pos) (NZ ta):=by intro Á s σ H R I h;refine Call_ (je I hg hm boot_range (PyProof.Rows.callWith_type1 (Ý (ha pos Á s σ H _ I h) λus s1=>?_) hs O));rintro⟨vs,H1,I1,r1,q1⟩;obtain⟨j,e,q1,q2,q⟩:=q1;subst e;cases r1 with|cons r rr=>cases rr;obtain⟨t,rfl⟩:=r;exact call_range_1 (vG I1 Â Â q1 q2 (by simpa using q))
theorem jC{p pos:Pos}(hg:Gl X "range")(hm:X.mg "range"=none)(ha:PA X [a,b] ta)(hs:starEach [a,b] X.env=[(false,eval a X.env),(false,eval b X.env)]:=by rfl)(mB:starEach [b] X.env=[(false,eval b X.env)]:=by rfl):PI X tg (.Call (.Name "range" p) [a,b] [] pos) (O1 ta):=by intro Á s σ H R I h;refine Call_ (je I hg hm boot_range (PyProof.Rows.callWith_type1 (Ý (ha pos Á s σ H _ I h) λus s1=>?_) (by rw[hs,mB]) (by rw[mB];rfl)));rintro⟨vs,H1,I1,r1,q1⟩;obtain⟨i,j,e,⟨q1,q2,q3,q4⟩,q⟩:=q1;subst e;cases r1 with|cons r rr=>cases rr with|cons r' rr=>cases rr;obtain⟨t,rfl⟩:=r;obtain⟨t',rfl⟩:=r';exact call_range_2 (vG I1 q1 q2 q3 q4 q)
def Qj(wi:TI)(g:TG)(tb:TS):TS:=λD σ H=>wi σ H λJ H1=>∃W:Nat->Nat->St->Hp->Prop,(∃m,W 0 m σ H1)/\∀i m σ H,W i m σ H->(J.stop i H/\D.nx σ H)\/(J.go i H/\∃N,(∀av H',N av H'->∃m',m'<m/\W (i+1) m' av H')/\∀x H',J.yld i H x H'->g x σ H' λbo H2=>tb {D with nx:=N,ct:=N,bk:=D.nx} bo H2)
def dX(fp:Ĉ)(h:Heap):Ň:=fp.filterMap λb=>(h.get? b).map λo=>(b,o)
theorem iV(hb:b∈fp)(e:h.get? b=some o):(b,o)∈dX fp h:=List.mem_filterMap.mpr ⟨b,hb,by rw[e];rfl⟩
theorem mZ(hp:p∈dX fp h):p.1∈fp/\h.get? p.1=some p.2:=by obtain⟨b,hb,e⟩:=List.mem_filterMap.mp hp;cases q:h.get? b with|none=>rw[q]at e;cases e;|some o=>rw[q]at e;have e':(b,o)=p:=œ e;subst e';exact⟨hb,q⟩
theorem Ç.pinned{σ:St}(I:Ç X Á σ H s)(hf:∀b∈fp,jJ X Á H b)(ho:∀b∈fp,∃o,s.heap.get? b=some o/\∀v,o.data≠.cell v):Ç X (Á++dX fp s.heap) σ H s:=I.pins_of λp hp=>(ė.mp hp).elim (λz=>I.pin p (Ş _ z)) λz=>by obtain⟨hb,e⟩:=mZ z;obtain⟨f0,f1,f2,_⟩:=hf p.1 hb;obtain⟨o,e',d⟩:=ho p.1 hb;rw[e]at e';cases e';exact⟨e,f0,f1,f2,d⟩
theorem Ç.unpinned{σ:St}(I:Ç X (Á++pl) σ H s):Ç X Á σ H s:=I.pins_of λp hp=>I.pin p (Ş _ (Za3 _ hp))
theorem cF(hp:PassesOwn (model X.prog X.w) X.A X.env X.xe)(hc:X.calm=true)(hi:PI X tg iter wi)(hg:PG X tg g)(hb:Ō X body tb)(hs:∀x,foldedSetIterable iter X.env x=pure x:=by intro _;rfl):PS X (.For tg iter body [] pos) (Qj wi g tb):=by
 intro Á s σ H D I h;refine wpAny_For (Ý (hi Á s σ H _ I h) λv s1 h1=>Ý h1 λDL s2 h2=>?_) hs;obtain⟨it,fp,tn,J,H2,e,I2,T,st2,f2,W,⟨m0,w0⟩,turn⟩:=h2;subst e;have yT:∀{H':Hp},(∀b∈fp,H' b=none)->∀b∈fp,jJ X Á H' b:=λhn b hb=>⟨hn b hb,(f2 b hb).2⟩;refine codeAny_forLoop_any (λn s'=>∃i av H',Ç X Á av H' s'/\tn i s'.heap/\(∀b∈fp,H' b=none)/\W i n av H') ?_ m0 ⟨0,σ,H2,I2,st2,λb hb=>(f2 b hb).1,w0⟩;rintro n s3⟨i,ku,H3,I3,kz,DM,w3⟩;rcases turn i n ku H3 w3 with⟨stop,qn⟩|⟨go,N,hN,step⟩;.refine wpAny_passesOwn hp (Ý (T.done X O O O hc i Á s3 ku H3 X.xe I3 (yT DM) kz stop) λr s4=>?_);rintro⟨hr,I4⟩;subst hr;exact wpAny_execs_nil ⟨ku,H3,I4,qn⟩
 .refine wpAny_passesOwn hp (Ý (T.item X O O O hc i Á s3 ku H3 X.xe I3 (yT DM) kz go) λr s4=>?_);rintro⟨u,hr,h4⟩;subst hr;refine wpAny_passesOwn hp (Ý h4 λ_ s5=>?_);rintro⟨x,H5,I5,r5,y5,yY,KO⟩;have KP:=I5.pinned (yT KO) (T.obj _ _ yY);refine wpAny_passesOwn hp (Ý (hg _ s5 ku H5 x u _ KP r5 (step x H5 y5)) λ_ s6=>?_);rintro⟨BG,H6,I6,q6⟩;refine wpAny_passesOwn hp (Ý (hb _ s6 BG H6 _ I6 q6) λf s7 q7=>?_);have again:∀{mE:St}{H7:Hp},Ç X (Á++dX fp s5.heap) mE H7 s7->N mE H7->∃m,m<n/\∃i av H',Ç X Á av H' s7/\tn i s7.heap/\(∀b∈fp,H' b=none)/\W i m av H':=λ{mE H7}I7 n7=>by obtain⟨m',hm,w7⟩:=hN mE H7 n7;refine⟨m',hm,i+1,mE,H7,I7.unpinned,T.keep _ _ _ yY λb hb o e=>(I7.pin (b,o) (Ş _ (Ş _ (iV hb e)))).1,λb hb=>?_,w7⟩;obtain⟨o,e,d⟩:=T.obj _ _ yY b hb;exact(I7.pin (b,o) (Ş _ (Ş _ (iV hb e)))).2.1
  cases f with|next=>obtain⟨mE,H7,I7,n7⟩:=q7;exact again I7 n7;|cont=>obtain⟨mE,H7,I7,n7⟩:=q7;exact again I7 n7;|brk=>obtain⟨mE,H7,I7,q7⟩:=q7;exact⟨mE,H7,I7.unpinned,q7⟩;|ret v=>obtain⟨x7,mE,H7,I7,r7,q7⟩:=q7;exact⟨x7,mE,H7,I7.unpinned,r7,q7⟩
end
theorem jf{K:Frag}{g:TG}{tb:TS}{D:ŏ}{σ:St}{H:Hp}(Pv:Nat->St->Hp->Prop)(h0:Pv 0 σ H)(hl:∀i σ H,i<=xs.length->Pv i σ H->É K H a xs)(hs:∀i x σ H,xs[i]?=some x->Pv i σ H->g x σ H λbo H2=>tb {D with nx:=Pv (i+1),ct:=Pv (i+1),bk:=D.nx} bo H2)(hd:∀σ H,Pv xs.length σ H->D.nx σ H):∃W:Nat->Nat->St->Hp->Prop,(∃m,W 0 m σ H)/\∀i m σ H,W i m σ H->((Itl K a).stop i H/\D.nx σ H)\/((Itl K a).go i H/\∃N,(∀av H',N av H'->∃m',m'<m/\W (i+1) m' av H')/\∀x H',(Itl K a).yld i H x H'->g x σ H' λbo H2=>tb {D with nx:=N,ct:=N,bk:=D.nx} bo H2):=by
 refine⟨λi m σ H=>m=xs.length-i/\i<=xs.length/\Pv i σ H,⟨xs.length,by simp,į _,h0⟩,?_⟩;rintro i m σ H⟨rfl,hi,p⟩;have q:=hl i σ H hi p;by_cases aI:i<xs.length;.refine .inr ⟨⟨xs,xs[i],q,by simp[aI]⟩,Pv (i+1),λav H' p'=>⟨xs.length-(i+1),Â,O,aI,p'⟩,λx H' y=>?_⟩;obtain⟨e,y⟩:=y;subst e;exact hs i x σ _ (y xs q) p
 .have e:i=xs.length:=Â;subst e;exact .inl ⟨⟨xs,q,Ü _⟩,hd σ H p⟩
theorem Iv{K:Frag}{g:TG}{tb:TS}{D:ŏ}{σ:St}{H:Hp}(Pv:Nat->St->Hp->Prop)(h0:Pv 0 σ H)(hl:∀i σ H,i<=xs.length->Pv i σ H->Ð K H a xs)(hs:∀i x σ H,xs[i]?=some x->Pv i σ H->g x σ H λbo H2=>tb {D with nx:=Pv (i+1),ct:=Pv (i+1),bk:=D.nx} bo H2)(hd:∀σ H,Pv xs.length σ H->D.nx σ H):∃W:Nat->Nat->St->Hp->Prop,(∃m,W 0 m σ H)/\∀i m σ H,W i m σ H->((Itt K a).stop i H/\D.nx σ H)\/((Itt K a).go i H/\∃N,(∀av H',N av H'->∃m',m'<m/\W (i+1) m' av H')/\∀x H',(Itt K a).yld i H x H'->g x σ H' λbo H2=>tb {D with nx:=N,ct:=N,bk:=D.nx} bo H2):=by
 refine⟨λi m σ H=>m=xs.length-i/\i<=xs.length/\Pv i σ H,⟨xs.length,by simp,į _,h0⟩,?_⟩;rintro i m σ H⟨rfl,hi,p⟩;have q:=hl i σ H hi p;by_cases aI:i<xs.length;.refine .inr ⟨⟨xs,xs[i],q,by simp[aI]⟩,Pv (i+1),λav H' p'=>⟨xs.length-(i+1),Â,O,aI,p'⟩,λx H' y=>?_⟩;obtain⟨e,y⟩:=y;subst e;exact hs i x σ _ (y xs q) p
 .have e:i=xs.length:=Â;subst e;exact .inl ⟨⟨xs,q,Ü _⟩,hd σ H p⟩
theorem cY{lo:Int}{g:TG}{tb:TS}{D:ŏ}(Pv:Nat->St->Hp->Prop)(h0:Pv 0 σ H)(hs:∀i σ H,i<n->Pv i σ H->g (.int (lo+i)) σ H λbo H2=>tb {D with nx:=Pv (i+1),ct:=Pv (i+1),bk:=D.nx} bo H2)(hd:∀σ H,Pv n σ H->D.nx σ H):∃W:Nat->Nat->St->Hp->Prop,(∃m,W 0 m σ H)/\∀i m σ H,W i m σ H->((Itr lo n).stop i H/\D.nx σ H)\/((Itr lo n).go i H/\∃N,(∀av H',N av H'->∃m',m'<m/\W (i+1) m' av H')/\∀x H',(Itr lo n).yld i H x H'->g x σ H' λbo H2=>tb {D with nx:=N,ct:=N,bk:=D.nx} bo H2):=by
 refine⟨λi m σ H=>m=n-i/\i<=n/\Pv i σ H,⟨n,by simp,į _,h0⟩,?_⟩;rintro i m σ H⟨rfl,hi,p⟩;by_cases aI:i<n;.refine .inr ⟨aI,Pv (i+1),λav H' p'=>⟨n-(i+1),Â,O,aI,p'⟩,λx H' y=>?_⟩;obtain⟨e,y⟩:=y;subst e y;exact hs i σ _ aI p
 .have e:i=n:=Â;subst e;exact .inl ⟨Ü _,hd σ H p⟩
abbrev R2:=V->V->Hp->VK->Prop
def Ě(X:Cx)(f:Value->Value->Sem Value)(r:R2):Prop:=∀Á s(σ:St)H x y v u Q,Ç X Á σ H s->Ò x v->Ò y u->r x y H Q->wpAny (model X.prog X.w) X.A (f v u) (EP X Á σ Q) X.xe s
def UnR(X:Cx)(f:Value->Sem Value)(r:V->Hp->VK->Prop):Prop:=∀Á s(σ:St)H x v Q,Ç X Á σ H s->Ò x v->r x H Q->wpAny (model X.prog X.w) X.A (f v) (EP X Á σ Q) X.xe s
def dY(X:Cx)(f:Value)(r:List V->Hp->VK->Prop):Prop:=∀Á s(σ:St)H xs us Q,Ç X Á σ H s->Í xs us->r xs H Q->wpAny (model X.prog X.w) X.A (call f us) (EP X Á σ Q) X.xe s
def Ϲ(r:R2)(ta tb:TE):TE:=λσ H Q=>ta σ H λx H1=>tb σ H1 λy H2=>r x y H2 Q
def tUn(r:V->Hp->VK->Prop)(ta:TE):TE:=λσ H Q=>ta σ H λx H1=>r x H1 Q
inductive RII(C:Int->Int->Prop)(g:Int->Int->V)(x:V)(y:V)(H:Hp)(Q:VK):Prop|mk:∀i j,(x=.int i)->(y=.int j)->(C i j)->(Q (g i j) H)->RII C g x y H Q
def rI(C:Int->Int->Prop)(g:Int->Int->V):R2:=λx y H Q=>RII C g x y H Q
inductive RI0I(g:Int->Int->V)(x:V)(y:V)(H:Hp)(Q:VK):Prop|mk:∀i j,(x=.int i)->(y=.int j)->(Q (g i j) H)->RI0I g x y H Q
def ϳ(g:Int->Int->V):R2:=λx y H Q=>RI0I g x y H Q
inductive RUI(g:Int->V)(x:V)(H:Hp)(Q:VK):Prop|mk:∀i,(x=.int i)->(Q (g i) H)->RUI g x H Q
def rU(g:Int->V):V->Hp->VK->Prop:=λx H Q=>RUI g x H Q
section
theorem Lp(ha:PE X a ta)(hb:PE X b tb){σ:St}{R:V->V->Hp->Prop}(I:Ç X Á σ H s)(h:ta σ H λx H1=>tb σ H1 λy H2=>R x y H2){Q:gV}{f:Value->Value->Sem Value}(hf:∀v u s2 x y H2,Ç X Á σ H2 s2->Ò x v->Ò y u->R x y H2->wpAny (model X.prog X.w) X.A (f v u) Q X.xe s2):wpAny (model X.prog X.w) X.A (eval a X.env) (λv s₁=>wpAny (model X.prog X.w) X.A (eval b X.env) (λu s₂=>wpAny (model X.prog X.w) X.A (f v u) Q X.xe s₂) X.xe s₁) X.xe s:=by refine Ý (ha Á s σ H _ I h) λv s1=>?_;rintro⟨x,H1,I1,r1,q1⟩;refine Ý (hb Á s1 σ H1 _ I1 q1) λu s2=>?_;rintro⟨y,H2,I2,r2,q2⟩;exact hf v u s2 x y H2 I2 r1 r2 q2
theorem aU(ho:Ě X (binaryOp op) r)(ha:PE X a ta)(hb:PE X b tb):PE X (.BinOp a op b pos) (Ϲ r ta tb):=by intro Á s σ H Q I h;exact wpAny_BinOp (Lp ha hb I h λv u s2 x y H2 I2 rx ry q=>ho Á s2 σ H2 x y v u Q I2 rx ry q)
theorem pU(ho:UnR X (unaryOp op) r)(ha:PE X a ta):PE X (.UnaryOp op a pos) (tUn r ta):=by intro Á s σ H Q I h;exact UnaryOp_ (Ý (ha Á s σ H _ I h) λv s1=>by rintro⟨x,H1,I1,r1,q1⟩;exact ho Á s1 σ H1 x v Q I1 r1 q1)
theorem opI{g:Int->Int->Int}(rule:∀i j t u s Q E,C i j->Q (.int (g i j) s.toks) {s with toks:=s.toks+1}->wpAny (model X.prog X.w) X.A (f (.int i t) (.int j u)) Q E s):Ě X f (rI C λi j=>.int (g i j)):=by intro Á s σ H x y v u Q I rx ry h;obtain⟨i,j,rfl,rfl,hc,q⟩:=h;obtain⟨t,rfl⟩:=rx;obtain⟨t',rfl⟩:=ry;exact rule i j t t' s _ _ hc ⟨.int (g i j),H,I.tok _,⟨_,O⟩,q⟩
theorem O2{g:Int->Int->Int}(rule:∀i j t u s Q E,Q (.int (g i j) s.toks) {s with toks:=s.toks+1}->wpAny (model X.prog X.w) X.A (f (.int i t) (.int j u)) Q E s):Ě X f (ϳ λi j=>.int (g i j)):=by intro Á s σ H x y v u Q I rx ry h;obtain⟨i,j,rfl,rfl,q⟩:=h;obtain⟨t,rfl⟩:=rx;obtain⟨t',rfl⟩:=ry;exact rule i j t t' s _ _ ⟨.int (g i j),H,I.tok _,⟨_,O⟩,q⟩
theorem Iw{g:Int->Int->Bool}(rule:∀i j t u s Q E,Q (.bool (g i j)) s->wpAny (model X.prog X.w) X.A (f (.int i t) (.int j u)) Q E s):Ě X f (ϳ λi j=>.bl (g i j)):=by intro Á s σ H x y v u Q I rx ry h;obtain⟨i,j,rfl,rfl,q⟩:=h;obtain⟨t,rfl⟩:=rx;obtain⟨t',rfl⟩:=ry;exact rule i j t t' s _ _ ⟨.bl (g i j),H,I,O,q⟩
def Qk(i j:Int):Prop:=0<j/\j<1073741824
def O3(i j:Int):Prop:=0<=j/\j<=1000000/\i.natAbs<2^64
def Z11(i j:Int):Prop:=(-(2^64)<i/\i<2^64)\/(-(2^64)<j/\j<2^64)
theorem Z11.ok(h:Z11 i j):IntMulOk i j:=by
 rcases h with⟨h1,h2⟩|⟨h1,h2⟩;.exact .of_left (intBits_le_64 h1 h2)
 .exact .of_right (intBits_le_64 h1 h2)
theorem bw:Ě X (binaryOp .Add) (ϳ λi j=>.int (i+j)):=O2 λ_ _ _ _ _ _ _ q=>add_int q
theorem dJ:Ě X (binaryOp .Sub) (ϳ λi j=>.int (i-j)):=O2 λ_ _ _ _ _ _ _ q=>sub_int q
theorem iu:Ě X (binaryOp .Mult) (rI Z11 λi j=>.int (i*j)):=opI λ_ _ _ _ _ _ _ hc q=>mul_int q hc.ok
theorem oW:Ě X (binaryOp .FloorDiv) (rI Qk λi j=>.int (i/j)):=opI λi j _ _ _ _ _ hc q=>by have h1:(0:Int)<j:=hc.1;have h2:j<1073741824:=hc.2;exact floordiv_int Â (by rw[Int.fdiv_eq_ediv_of_nonneg i Â];exact q) (.inl (PyProof.noPylong_small Â))
theorem iw:Ě X (binaryOp .Mod) (rI (λ_ j=>0<j) λi j=>.int (i%j)):=opI λi j _ _ _ _ _ hc q=>by exact mod_int' Â (by rw[Int.fmod_eq_emod_of_nonneg i Â];exact q)
theorem pW:Ě X (binaryOp .Pow) (rI O3 λi j=>.int (i^j.toNat)):=opI λ_ _ _ _ _ _ _ hc q=>pow_int_small hc.1 hc.2.1 hc.2.2 q
theorem unI{g:Int->Int}(rule:∀i t s Q E,Q (.int (g i) s.toks) {s with toks:=s.toks+1}->wpAny (model X.prog X.w) X.A (f (.int i t)) Q E s):UnR X f (rU λi=>.int (g i)):=by intro Á s σ H x v Q I rx h;obtain⟨i,rfl,q⟩:=h;obtain⟨t,rfl⟩:=rx;exact rule i t s _ _ ⟨.int (g i),H,I.tok _,⟨_,O⟩,q⟩
theorem jO:UnR X (unaryOp .USub) (rU λi=>.int (-i)):=unI λ_ _ _ _ _ q=>neg_int q
end
def O4:V->V->Bool|.non,.non=>true|.non,.int _=>true|.int _,.non=>true|.non,.bl _=>true|.bl _,.non=>true|.non,.str _=>true|.str _,.non=>true|.int _,.int _=>true|.bl _,.bl _=>true|.str _,.str _=>true|.byt _,.byt _=>true|.int _,.str _=>true|.str _,.int _=>true|.bl _,.str _=>true|.str _,.bl _=>true|_,_=>false
def rEq:R2:=λx y H Q=>O4 x y=true/\Q (.bl (decide (x=y))) H
def rNe:R2:=λx y H Q=>O4 x y=true/\Q (.bl (!decide (x=y))) H
theorem zJ:decide (V.int i=V.int j)=(i==j):=by rw[Zba];simp
theorem Es:decide (V.bl i=V.bl j)=(i==j):=by rw[Zba];simp
theorem zK:decide (V.str i=V.str j)=(i==j):=by rw[Zba];simp
theorem zM:decide (V.byt i=V.byt j)=(i.toList==j.toList):=by rw[Zba];cases i;cases j;simp
section
theorem bT{σ:St}(I:Ç X Á σ H s)(q:Q (.bl k) H)(e:k=k'):EP X Á σ Q (.bool k') s:=by subst e;exact⟨.bl k,H,I,O,q⟩
theorem gP:Ě X (compareOp .Eq) rEq:=by intro Á s σ H x y v u Q I rx ry h;obtain⟨hs,q⟩:=h;cases x with
 |non=>cases rx;cases y with|non=>cases ry;exact PySem.EqNone.eq_none_none (bT I q Ö);|bl j=>cases ry;exact PySem.EqNone.eq_none_bool (bT I q Ö);|int j=>obtain⟨t',rfl⟩:=ry;exact PySem.EqNone.eq_none_int (bT I q Ö);|str j=>obtain⟨t',rfl⟩:=ry;exact PySem.EqNone.eq_none_str (bT I q Ö);|_=>exact absurd (show false=true from hs) š
 |bl i=>cases rx;cases y with|non=>cases ry;exact PySem.EqNone.eq_bool_none (bT I q Ö);|bl j=>cases ry;exact eq_bool (bT I q Es);|str j=>obtain⟨t',rfl⟩:=ry;exact PySem.EqMixed.eq_bool_str (bT I q Ö);|_=>exact absurd (show false=true from hs) š
 |int i=>obtain⟨t,rfl⟩:=rx;cases y with|non=>cases ry;exact PySem.EqNone.eq_int_none (bT I q Ö);|int j=>obtain⟨t',rfl⟩:=ry;exact eq_int (bT I q zJ);|str j=>obtain⟨t',rfl⟩:=ry;exact PySem.EqMixed.eq_int_str (bT I q Ö);|_=>exact absurd (show false=true from hs) š
 |str i=>obtain⟨t,rfl⟩:=rx;cases y with|non=>cases ry;exact PySem.EqNone.eq_str_none (bT I q Ö);|bl j=>cases ry;exact PySem.EqMixed.eq_str_bool (bT I q Ö);|int j=>obtain⟨t',rfl⟩:=ry;exact PySem.EqMixed.eq_str_int (bT I q Ö);|str j=>obtain⟨t',rfl⟩:=ry;exact eq_str (bT I q zK);|_=>exact absurd (show false=true from hs) š
 |byt i=>obtain⟨t,rfl⟩:=rx;cases y with|byt j=>obtain⟨t',rfl⟩:=ry;exact PySem.W.eq_bytes (bT I q zM);|_=>exact absurd (show false=true from hs) š
 |_=>cases y<;>exact absurd (show false=true from hs) š
theorem Ko:Ě X (compareOp .NotEq) rNe:=by intro Á s σ H x y v u Q I rx ry h;obtain⟨hs,q⟩:=h;cases x with
 |non=>cases rx;cases y with|non=>cases ry;exact PySem.EqNone.ne_none_none (bT I q Ö);|bl j=>cases ry;exact PySem.EqNone.ne_none_bool (bT I q Ö);|int j=>obtain⟨t',rfl⟩:=ry;exact PySem.EqNone.ne_none_int (bT I q Ö);|str j=>obtain⟨t',rfl⟩:=ry;exact PySem.EqNone.ne_none_str (bT I q Ö);|_=>exact absurd (show false=true from hs) š
 |bl i=>cases rx;cases y with|non=>cases ry;exact PySem.EqNone.ne_bool_none (bT I q Ö);|bl j=>cases ry;exact ne_bool (bT I q (congrArg not Es));|str j=>obtain⟨t',rfl⟩:=ry;exact PySem.EqMixed.ne_bool_str (bT I q Ö);|_=>exact absurd (show false=true from hs) š
 |int i=>obtain⟨t,rfl⟩:=rx;cases y with|non=>cases ry;exact PySem.EqNone.ne_int_none (bT I q Ö);|int j=>obtain⟨t',rfl⟩:=ry;exact ne_int (bT I q (congrArg not zJ));|str j=>obtain⟨t',rfl⟩:=ry;exact PySem.EqMixed.ne_int_str (bT I q Ö);|_=>exact absurd (show false=true from hs) š
 |str i=>obtain⟨t,rfl⟩:=rx;cases y with|non=>cases ry;exact PySem.EqNone.ne_str_none (bT I q Ö);|bl j=>cases ry;exact PySem.EqMixed.ne_str_bool (bT I q Ö);|int j=>obtain⟨t',rfl⟩:=ry;exact PySem.EqMixed.ne_str_int (bT I q Ö);|str j=>obtain⟨t',rfl⟩:=ry;exact ne_str (bT I q (congrArg not zK));|_=>exact absurd (show false=true from hs) š
 |byt i=>obtain⟨t,rfl⟩:=rx;cases y with|byt j=>obtain⟨t',rfl⟩:=ry;exact PySem.W.ne_bytes (bT I q (congrArg not zM));|_=>exact absurd (show false=true from hs) š
 |_=>cases y<;>exact absurd (show false=true from hs) š
theorem pY:Ě X (compareOp .Lt) (ϳ λi j=>.bl (decide (i<j))):=Iw λ_ _ _ _ _ _ _ q=>lt_int q
theorem bW:Ě X (compareOp .LtE) (ϳ λi j=>.bl (decide (i<=j))):=Iw λ_ _ _ _ _ _ _ q=>le_int q
theorem lq:Ě X (compareOp .Gt) (ϳ λi j=>.bl (decide (j<i))):=Iw λ_ _ _ _ _ _ _ q=>gt_int q
theorem vH:Ě X (compareOp .GtE) (ϳ λi j=>.bl (decide (j<=i))):=Iw λ_ _ _ _ _ _ _ q=>ge_int q
theorem Et:Ě X (compareOp .Is) (λx y H Q=>y=.non/\Q (.bl (decide (x=.non))) H):=by intro Á s σ H x y v u Q I rx ry h;obtain⟨rfl,q⟩:=h;cases ry;refine is_none_gen (bT I q ?_);cases x<;>first|(cases rx;rfl);|(obtain⟨t,rfl⟩:=rx;rfl)
theorem bj(b:Expr)(h:op≠.In:=by decide)(h2:op≠.NotIn:=by decide):behindInMarks op b=false:=by
 have e1:(op==CmpOp.In)=false:=by cases op<;>first|rfl|exact absurd O h
 have e2:(op==CmpOp.NotIn)=false:=by cases op<;>first|rfl|exact absurd O h2
 cases b<;>simp[behindInMarks,e1,e2]
theorem ik(ho:Ě X (compareOp op) r)(ha:PE X a ta)(hb:PE X b tb)(hm:behindInMarks op b=false):PE X (.Compare a [op] [b] pos) (Ϲ r ta tb):=by intro Á s σ H Q I h;exact wpAny_Compare1 (Lp ha hb I h λv u s2 x y H2 I2 rx ry q=>ho Á s2 σ H2 x y v u Q I2 rx ry q) hm
def Eu(t:TE):TT:=λσ H Q=>t σ H λx H'=>∃k,x=.bl k/\Q k H'
theorem bu(ho:Ě X (compareOp op) r)(ha:PE X a ta)(hb:PE X b tb)(hm:behindInMarks op b=false):PT X (.Compare a [op] [b] pos) (Eu (Ϲ r ta tb)):=by intro Á s σ H Q I h;refine wpAny_isTrue_Compare1 (Ý (ha Á s σ H _ I h) λv s1⟨x,H1,I1,r1,q1⟩=>Ý (hb Á s1 σ H1 _ I1 q1) λu s2⟨y,H2,I2,r2,q2⟩=>Ý (ho Á s2 σ H2 x y v u _ I2 r1 r2 q2) λc s3⟨z,H3,I3,r3,k,e,q3⟩=>?_) hm;subst e;cases r3;exact wpAny_truthy_bool ⟨H3,I3,q3⟩
def xY(r r':R2)(ta tb tc:TE):TE:=λσ H Q=>ta σ H λx H1=>tb σ H1 λy H2=>r x y H2 λz H3=>∃k,z=.bl k/\(if k=true then tc σ H3 λw' H4=>r' y w' H4 Q else Q (.bl false) H3)
theorem du(ho:Ě X (compareOp op) r)(kM:Ě X (compareOp y9) r')(ha:PE X a ta)(hb:PE X b tb)(hc:PE X c tc)(hm:lastMarks [op,y9] [b,c]=false:=by with_unfolding_all rfl):PE X (.Compare a [op,y9] [b,c] pos) (xY r r' ta tb tc):=by intro Á s σ H Q I h;refine Compare_chain (Ý (ha Á s σ H _ I h) λv s1⟨x,H1,I1,r1,q1⟩=>chain_link (Ý (hb Á s1 σ H1 _ I1 q1) λu s2⟨y,H2,I2,r2,q2⟩=>Ý (ho Á s2 σ H2 x y v u _ I2 r1 r2 q2) λd s3⟨z,H3,I3,r3,k,e,q3⟩=>?_)) hm;subst e;cases r3;refine wpAny_truthy_bool ?_;cases k with|false=>exact ite_ff ⟨.bl false,H3,I3,O,q3⟩;|true=>exact ite_tt (chain_last (Ý (hc Á s3 σ H3 _ I3 q3) λw' s4=>by rintro⟨z',H4,I4,r4,q4⟩;exact kM Á s4 σ H4 y z' u w' Q I4 r2 r4 q4))
theorem gQ(ho:Ě X (compareOp op) r)(kM:Ě X (compareOp y9) r')(ha:PE X a ta)(hb:PE X b tb)(hc:PE X c tc)(hm:lastMarks [op,y9] [b,c]=false:=by with_unfolding_all rfl):PT X (.Compare a [op,y9] [b,c] pos) (Eu (xY r r' ta tb tc)):=by intro Á s σ H Q I h;refine isTrue_chain (Ý (ha Á s σ H _ I h) λv s1⟨x,H1,I1,r1,q1⟩=>test_link (Ý (hb Á s1 σ H1 _ I1 q1) λu s2⟨y,H2,I2,r2,q2⟩=>Ý (ho Á s2 σ H2 x y v u _ I2 r1 r2 q2) λd s3⟨z,H3,I3,r3,k,e,q3⟩=>?_)) hm;subst e;cases r3;refine wpAny_truthy_bool ?_;cases k with|false=>obtain⟨k',e',q'⟩:=q3;cases e';exact ite_ff ⟨H3,I3,q'⟩;|true=>refine ite_tt (test_last (Ý (hc Á s3 σ H3 _ I3 q3) λw' s4⟨z',H4,I4,r4,q4⟩=>Ý (kM Á s4 σ H4 y z' u w' _ I4 r2 r4 q4) λd' s5=>?_));rintro⟨z2,H5,I5,r5,k2,e2,q5⟩;subst e2;cases r5;exact wpAny_truthy_bool ⟨H5,I5,q5⟩
theorem ni:(sizeLine:Nat)<2^63:=by rw[sizeLine_eq];decide
theorem ÿ(r:Í [x] us):∃u,us=[u]/\Ò x u:=by cases r with|cons r1 r2=>cases r2;exact⟨_,O,r1⟩
theorem Ť(r:Í [x,y] us):∃u w',us=[u,w']/\Ò x u/\Ò y w':=by cases r with|cons r1 r2=>cases r2 with|cons r3 r4=>cases r4;exact⟨_,_,O,r1,r3⟩
theorem sE(hc:X.calm=true):dY X (.builtin "max") (λxs H Q=>∃i j,xs=[.int i,.int j]/\Q (.int (if j>i then j else i)) H):=by
 intro Á s σ H xs us Q I r h;obtain⟨i,j,rfl,q⟩:=h;obtain⟨u,w',rfl,⟨t,rfl⟩,⟨t',rfl⟩⟩:=Ť r;refine max_two_ints (I.ok.hd hc) λh' tk k=>⟨_,H,I.kept k,?_,q⟩;by_cases hj:j>i;.rw[Ì hj,Ì hj];exact⟨_,O⟩
 .rw[Ê hj,Ê hj];exact⟨_,O⟩
theorem iC(hc:X.calm=true):dY X (.builtin "min") (λxs H Q=>∃i j,xs=[.int i,.int j]/\Q (.int (if j<i then j else i)) H):=by
 intro Á s σ H xs us Q I r h;obtain⟨i,j,rfl,q⟩:=h;obtain⟨u,w',rfl,⟨t,rfl⟩,⟨t',rfl⟩⟩:=Ť r;refine min_two_ints (I.ok.hd hc) λh' tk k=>⟨_,H,I.kept k,?_,q⟩;by_cases hj:j<i;.rw[Ì hj,Ì hj];exact⟨_,O⟩
 .rw[Ê hj,Ê hj];exact⟨_,O⟩
theorem Cq:dY X (.type "int") (λxs H Q=>(∃i,xs=[.int i]/\Q (.int i) H)\/∃k,xs=[.bl k]/\Q (.int (if k then 1 else 0)) H):=by
 intro Á s σ H xs us Q I r h;rcases h with⟨i,rfl,q⟩|⟨k,rfl,q⟩;.obtain⟨u,rfl,t,rfl⟩:=ÿ r;exact call_int_int ⟨.int i,H,I,⟨_,O⟩,q⟩
 .obtain⟨u,rfl,r1⟩:=ÿ r;cases r1;exact call_int_bool ⟨.int (if k then 1 else 0),H,I.tok _,⟨_,O⟩,q⟩
end
structure Z0y(h:Heap)(x dx C:Addr)(mA:ŋ):Prop where
 obj:h.get? x=some (PySem.W.instObj C dx)ns:h.Ns1 dx mA
 ne:dx≠x
theorem Cr{h:Heap}(n:h.Ns1 dx mA):∃od,h.get? dx=some od/\∀name,PySem.W.lookIn name od=some (mA name):=by
 obtain⟨o,es,ep,ho,hd,hk,_,hm⟩:=n;refine⟨o,ho,λname=>?_⟩;have e:=hm name;unfold nsFind findBy at e;rw[<-Array.find?_toList]at e;unfold PySem.W.lookIn;rw[hd];dsimp only;split;.rename_i y q;rw[q]at e;exact congrArg some e
 .rename_i q;rw[q]at e;have a:es.toList.any (·.refKey)=false:=by rw[List.any_eq_false];intro y hy;obtain⟨z,t,KS⟩:=hk y (Array.mem_toList_iff.mp hy);simp[DictEntry.refKey,KS]
  have a':¬es.toList.any (·.refKey)=true:=by rw[a];exact š
  rw[Ê a'];exact congrArg some e
theorem Z0y.look(I:Z0y h x dx C mA):∃od,PySem.W.InstAt h x (PySem.W.instObj C dx) C (some od)/\∀name,PySem.W.lookIn name od=some (mA name):=let⟨od,ho,hl⟩:=Cr I.ns;⟨od,⟨I.obj,rfl,rfl,ho⟩,hl⟩
section
end
theorem Ŀ.some_of(r:Ŀ (some v) o):∃u,o=some u/\Ò v u:=by cases o with|none=>exact(r).elim;|some u=>exact⟨u,O,r⟩
section
theorem Iz(hok:Ă P w H h)(e:H a=some (.ins C dx fs)):∃mA,Z0y h a dx C mA/\(∀f,Ŀ (fs.lookup f) (mA f))/\PySem.Within mA (fs.map (·.1))/\fs.length<=1000/\H dx=some (.own a):=by obtain⟨d,z,ne,ob,mA,n,r,q⟩:=(hok a _ e);exact⟨mA,⟨ob,n,ne⟩,r,q,z,d⟩
end
structure Cls(K:Frag)(C:Addr):Prop where
 pg:PySem.W.plainGet K C Str.empty=true
 hd:PySem.W.hasDictIn K C=true
 po:PySem.W.plainOver K C=true
 sa:PySem.W.findIn K (.ref C) "__setattr__"=some (some (.builtin "object.__setattr__"))
theorem Cls.get{K:Frag}(c:Cls K C)(f:Str):PySem.W.plainGet K C f=true:=c.pg
section
end
section
end
section
variable{σ:St}
inductive ĸ(K:Frag)(H:Hp):V->Value->Prop where|non:ĸ K H .non (.type "NoneType")|bl(x:Bool):ĸ K H (.bl x) (.type "bool")|int(i:Int):ĸ K H (.int i) (.type "int")|str(x:Str):ĸ K H (.str x) (.type "str")|flt(x:UInt64):ĸ K H (.flt x) (.type "float")|lst{a:Addr}{xs:List V}(e:H a=some (.lst xs)):ĸ K H (.ref a) (.type "list")|frz{a:Addr}{o:Obj}{xs:List V}(e:H a=some (.frz o (.lst xs))):ĸ K H (.ref a) (.type "list")|tup{a:Addr}{xs:List V}(e:H a=some (.tup xs)):ĸ K H (.ref a) (.type "tuple")|dK{a:Addr}{kvs:List (Key×V)}(e:H a=some (.dK kvs)):ĸ K H (.ref a) (.type "dict")|dT{a:Addr}{kvs:List (List Key×V)}(e:H a=some (.dT kvs)):ĸ K H (.ref a) (.type "dict")|ins{a C dx:Addr}{fs:List (Str×V)}(e:H a=some (.ins C dx fs))(cl:Cls K C)(ha:PySem.W.findIn K (.ref C) "__class__"=some (some (.builtin "object.__class__")))(hn:PySem.W.specialIn K (.builtin "object.__class__") "__get__"=some (some (.builtin "getset_descriptor.__get__")))(DO:PySem.W.takesIn K (.builtin "object.__class__")=some true)(hm:PySem.W.mroIn K C (.type "object")=some true):ĸ K H (.ref a) (.ref C)
theorem Cu(I:Ç X Á σ H s)(rx:Ò x u)(ty:ĸ X.K H x t)(e:PySem.W.kitOne X.K t c=some b)(h:∀tk,Q (.bool b) {s with toks:=tk}):wpAny (model X.prog X.w) A (call (.builtin "isinstance") [u,c]) Q E s:=by cases ty with|non=>cases(show u=Value.none from rx);exact PySem.W.kia_one PySem.W.kitx_none I.kIn True.intro e (λz=>nomatch z) h;|bl y=>cases(show u=Value.bool y from rx);exact PySem.W.kia_one PySem.W.kitx_bool I.kIn True.intro e (λz=>nomatch z) h;|int i=>obtain⟨t,q⟩:=(show∃t,u=Value.int i t from rx);cases q;exact PySem.W.kia_one PySem.W.kitx_int I.kIn True.intro e (λz=>nomatch z) h;|str y=>obtain⟨t,q⟩:=(show∃t,u=Value.str y t from rx);cases q;exact PySem.W.kia_one PySem.W.kitx_str I.kIn True.intro e (λz=>nomatch z) h;|flt y=>obtain⟨t,q⟩:=(show∃t,u=Value.float y t from rx);cases q;exact PySem.W.kia_one PySem.W.kitx_float I.kIn True.intro e (λz=>nomatch z) h;|@lst a xs ea=>cases(show u=Value.ref a from rx);obtain⟨_,_,n,_,h1⟩:=(show Û X.prog X.w H s.heap a (.lst xs)from I.hok a _ ea);exact PySem.W.kia_one PySem.W.kitx_list I.kIn ⟨_,h1,rfl⟩ e (λz=>nomatch z) h;|@frz a ob xs ea=>cases(show u=Value.ref a from rx);obtain⟨_,_,_,n,_,h1⟩:=(show Û X.prog X.w H s.heap a (.frz ob (.lst xs))from I.hok a _ ea);exact PySem.W.kia_one PySem.W.kitx_list I.kIn ⟨_,h1,rfl⟩ e (λz=>nomatch z) h;|@tup a xs ea=>cases(show u=Value.ref a from rx);obtain⟨_,_,_,p⟩:=(show Û X.prog X.w H s.heap a (.tup xs)from I.hok a _ ea);obtain⟨o,h1,h2,_⟩:=p;exact PySem.W.kia_one PySem.W.kitx_tuple I.kIn ⟨o,h1,h2⟩ e (λz=>nomatch z) h;|@dK a kvs ea=>cases(show u=Value.ref a from rx);obtain⟨_,_,vs,_,p⟩:=(show Û X.prog X.w H s.heap a (.dK kvs)from I.hok a _ ea);obtain⟨o,es,ep,h1,h2,_⟩:=p;exact PySem.W.kia_one PySem.W.kitx_dict I.kIn ⟨o,h1,h2.1⟩ e (λz=>nomatch z) h;|@dT a kvs ea=>cases(show u=Value.ref a from rx);obtain⟨_,_,xs,_,o,es,ep,h1,h2,_⟩:=(show Û X.prog X.w H s.heap a (.dT kvs)from I.hok a _ ea);exact PySem.W.kia_one PySem.W.kitx_dict I.kIn ⟨o,h1,h2.1⟩ e (λz=>nomatch z) h;|@ins a C dx fs ea cl ha hn DO hm=>cases(show u=Value.ref a from rx);obtain⟨mA,O,_⟩:=Iz I.hok ea;obtain⟨od,J,_⟩:=O.look;exact PySem.W.kia_one (PySem.W.kitx_own (cl.get _) cl.hd ha hn DO hm) I.kIn J e (λz=>nomatch z) h
end
structure ï(k:Nat)(A:Around):Prop where
 hd:A.handled=none
 dp:A.depth+3*k+5<recursionLimit
 un:A.units+16*k+200<cLine
 gd:A.guards=some []
theorem ï.mono(r:ï k A)(h:j<=k):ï j A:=⟨r.hd,by have:=r.dp;lia,by have:=r.un;lia,r.gd⟩
theorem ï.deeper(r:ï (k+1) A)(env:Env):ï k (A.deeper env):=⟨r.hd,by have:=r.dp;show A.depth+1+3*k+5<_;lia,by have:=r.un;show A.units+3+16*k+200<_;lia,r.gd⟩
theorem ï.depth(r:ï k A):A.depth<recursionLimit:=by have:=r.dp;lia
theorem ï.units(r:ï k A):A.units+64<cLine:=by have:=r.un;lia
def vI:TA:=λ_ H Q=>Q [] H
def iD(ta:TE)(tr:TA):TA:=λσ H Q=>ta σ H λx H1=>tr σ H1 λxs H2=>Q (x::xs) H2
section
theorem ao:PA X [] vI:=λ_ _ _ _ H Q I h=>Calls.spliced_nil ⟨[],H,I,.nil,h⟩
abbrev Qab(X:Cx)(e:Expr)(es:List Expr):Prop:=starEach (e::es) X.env=(false,eval e X.env)::starEach es X.env
theorem aR(ha:PE X e te)(hr:PA X es t)(hs:Qab X e es:=by rfl):PA X (e::es) (iD te t):=by intro pos Á s σ H Q I h;rw[hs];show wpAny _ _ (spliced ((false,eval e X.env)::backTo pos (starEach es X.env))) _ _ s;refine Calls.spliced_cons (Ý (ha Á s σ H _ I h) λu s1=>?_);rintro⟨x,H1,I1,r1,q1⟩;exact Ý (hr pos Á s1 σ H1 _ I1 q1) λus s2=>by rintro⟨xs,H2,I2,r2,q2⟩;exact⟨x::xs,H2,I2,.cons r1 r2,q2⟩
def IK(t:TA):TE:=λσ H Q=>t σ H λxs H1=>xs.length<=sizeLine/\∀p,H1 p=none->Q (.ref p) (upd H1 p (.tup xs))
def IV(t:TA):TE:=λσ H Q=>t σ H λxs H1=>xs.length<=sizeLine/\∀p,H1 p=none->Q (.ref p) (upd H1 p (.lst xs))
theorem bM{x1}(h:PA X es t):PE X (.Tuple es x1 pos) (IK t):=by intro Á s σ H Q I hq;refine wpAny_Tuple_spliced (Ý (h pos Á s σ H _ I hq) λus s1⟨xs,H1,I1,r,z,q⟩=>⟨by rw[<-r.length];exact z,?_⟩);have hf:H1 s1.heap.objs.size=none:=I1.hok.fresh (Ü _);refine⟨.ref s1.heap.objs.size,upd H1 s1.heap.objs.size (.tup xs),I1.laid (t':=s1.toks) (λb u e=>þ _ e) (Ü _) ?_,O,q _ hf⟩;exact⟨z,us,r,⟨_,Ĩ _ O,O,_,O⟩⟩
theorem cX(h:PA X es t):PE X (.List es pos) (IV t):=by intro Á s σ H Q I hq;refine wpAny_List_spliced (Ý (h pos Á s σ H _ I hq) λus s1⟨xs,H1,I1,r,z,q⟩=>⟨by rw[<-r.length];exact z,?_⟩);have hf:H1 s1.heap.objs.size=none:=I1.hok.fresh (Ü _);refine⟨.ref s1.heap.objs.size,upd H1 s1.heap.objs.size (.lst xs),I1.laid (t':=s1.toks) (λb u e=>þ _ e) (Ü _) ?_,O,q _ hf⟩;exact⟨z,us,0,r,Ĩ _ O⟩
end
abbrev Sp:=List V->Hp->VK->XK->Prop
abbrev CXT:=List Env->Hp->Shared->XK->gV
structure Ŏ(P:Program)(w:World)(K:Frag)(mg:ŋ)(base:Heap)(A:Around)(outer:List Env)(s:Shared)(H:Hp):Prop where
 frames:A.frames=some outer
 mod:Mod K mg base
 bs:∀b o,base.get? b=some o->s.heap.get? b=some o/\H b=none
 bsz:base.objs.size<=s.heap.objs.size
 funs:s.heap.FunFrames base outer
 frf:∀b∈Ď outer,H b=none
 hok:Ă P w H s.heap
 bare:AllBare s.gens
def CE(outer:List Env)(P:Program)(w:World)(H:Hp)(s:Shared)(Q:VK)(u:Value)(s':Shared):Prop:=∃v H',s'.os=s.os/\AllBare s'.gens/\Un (Ď outer) [] H H' s.heap s'.heap/\Ă P w H' s'.heap/\Ò v u/\Q v H'
def CR(CX:CXT)(outer:List Env)(P:Program)(w:World)(H:Hp)(s:Shared)(Q:VK)(E:XK)(r:Result)(s':Shared):Prop:=match r with|.ok (.ret u)=>CE outer P w H s Q u s'|.ok _=>False|.error e=>CX outer H s E e s'
structure Ñ(P:Program)(w:World)(K:Frag)(mg:ŋ)(base:Heap)(CX:CXT)(k:Nat)(f:Addr)(fd:FuncData)(ps:ð)(sp:Sp):Prop where
 len:∀vs H Q E,sp vs H Q E->vs.length=ps.length
 run:∀A outer s H args us vs Q E,ï k A->Ŏ P w K mg base A outer s H->BindsTo s fd args (ps.zip us)->Í vs us->sp vs H Q E->codeAny (model P w) A (.call (.ref f) args) (CR CX outer P w H s Q E) s
theorem Ñ.imp{K:Frag}(F:Ñ P w K mg base CX k f fd ps sp)(h:∀vs H Q E,sp' vs H Q E->sp vs H Q E):Ñ P w K mg base CX k f fd ps sp':=⟨λvs H Q E q=>F.len vs H Q E (h _ _ _ _ q),λA outer s H args us vs Q E hr he hb hv hs=>F.run A outer s H args us vs Q E hr he hb hv (h _ _ _ _ hs)⟩
section
variable{σ:St}
theorem Ç.env0(I:Ç X Á σ H s):Ŏ X.prog X.w X.K X.mg X.base X.A X.stack s H:=⟨I.ok.frames,I.ok.mod,I.bs,Ņ I.ok.bsz I.sz,I.stack,I.stkFree,I.hok,I.bare⟩
theorem Ç.after(I:Ç X Á σ H s)(h:CE X.stack X.prog X.w H s Q u s'):EP X Á σ Q u s':=by obtain⟨v,H',os,bare,un,hok,r,q⟩:=h;obtain⟨hh,g,d,t,UN⟩:=s';obtain rfl:UN=s.os:=os;exact⟨v,H',I.call (h':=hh) (g':=g) (d':=d) (t':=t) (ch:=[]) un hok bare (λb z=>absurd z Ö),r,q⟩
end
def vJ(sp:Sp)(uS:List V)(E:XK)(t:TA):TE:=λσ H Q=>t σ H λvs H1=>sp (vs++uS) H1 Q E
def û(K:Frag)(fd:FuncData)(ps:ð)(ds:ā):Prop:=∀s us,K.In s.heap->(us++ds).length=ps.length->BindsTo s fd ⟨us,[]⟩ (ps.zip (us++ds))
theorem û.all{K:Frag}(h:∀us,us.length=ps.length->bindArgs fd ⟨us,[]⟩=pure (ps.zip us)):û K fd ps []:=λs us _ hl=>by rw[ş]at hl⊢;exact .of_eq (h us hl)
def ul(CX:CXT)(X:Cx)(E:XK):Prop:=∀Á(σ:St)H s e s',Ç X Á σ H s->CX X.stack H s E e s'->X.xe e s'
section
variable{p pos apos:Pos}
theorem Lq{σ:St}(F:Ñ X.prog X.w X.K X.mg X.base CX k f fd ps sp)(hr:ï k X.A)(hb:û X.K fd ps ds)(hd:Í uS ds)(hx:ul CX X E)(I:Ç X Á σ H s)(r:Í vs us)(h:sp (vs++uS) H Q E):wpAny (model X.prog X.w) X.A (call (.ref f) us) (EP X Á σ Q) X.xe s:=by
 have r2:Í (vs++uS) (us++ds):=r.append hd;have hl:(us++ds).length=ps.length:=by rw[<-r2.length];exact F.len _ _ _ _ h
 refine wpAny_call (codeAny_mono (F.run X.A X.stack s H ⟨us,[]⟩ (us++ds) (vs++uS) Q E hr I.env0 (hb s us I.kIn hl) r2 h) λr s' hq=>?_);cases r with|error e=>exact hx Á σ H s e s' I hq;|ok fl=>cases fl with|ret u=>exact I.after hq;|next=>exact False.elim hq;|brk=>exact False.elim hq;|cont=>exact False.elim hq
abbrev Qac(X:Cx)(p:Pos)(es:List Expr):Prop:=(backTo p (starEach es X.env)).any (·.1)=false
theorem zN(F:Ñ X.prog X.w X.K X.mg X.base CX k f fd ps sp)(hr:ï k X.A)(hg:Gl X x)(hm:X.mg x=some (.ref f))(hk:PySem.W.keepIn X.K (.ref f)=true)(hb:û X.K fd ps ds)(hd:Í uS ds)(hx:ul CX X E)(ha:PA X (e::es) t)(fy:Δ x:=by decide)(he:Qab X e es:=by rfl)(fw:Qac X pos es:=by rfl):PE X (.Call (.Name x p) (e::es) [] pos) (vJ sp uS E t):=by intro Á s σ H Q I h;refine wpAny_Call_Name_kw (jB I hg hm ?_ fy);refine PySem.W.callWith_K (h₀:=X.base) I.ok.mod.kin hk (Ý (ha pos Á s σ H _ I h) λus s1⟨vs,H1,I1,r,q⟩=>⟨I1.kIn,?_⟩) he fw;exact Lq F hr hb hd hx I1 r q
end
section
end
structure Ã(N P:ð)(sc:Scope):Prop where
 kind:sc.kind=.function
 co:sc.isCoroutine=false
 gen:sc.isGenerator=false
 nd:N.Nodup
 pre:N.take P.length=P
 par:∀x∈P,sc.names.lookup x=some .local\/sc.names.lookup x=some .cell
 nofree:∀y∈sc.names,y.2≠.free
theorem sG{kindOf:Str->Option NameKind}:∀{binds:List (Str×Value)}{m:ŋ},(∀v,(x,v)∉binds)->bindL kindOf binds m x=m x
 |[],_,_=>rfl|(n,v)::r,m,h=>by
  unfold bindL;rw[sG λw hw=>h w (Zaj _ hw)];split
  .have:x≠n:=by rintro rfl;exact h v Zao
   simp[this]
  .rfl
theorem sI{kindOf:Str->Option NameKind}:∀{binds:List (Str×Value)}{m:ŋ},(∀v,(x,v)∉binds)->bindC kindOf binds m x=m x
 |[],_,_=>rfl|(n,v)::r,m,h=>by
  unfold bindC;rw[sI λw hw=>h w (Zaj _ hw)];split;.rfl
  .have:x≠n:=by rintro rfl;exact h v Zao
   simp[this]
theorem sJ{kindOf:Str->Option NameKind}:∀{P:ð}{vs:ā}{i:Nat}{m:ŋ},P.Nodup->P[i]?=some x->vs[i]?=some v->kindOf x=some .local->bindL kindOf (P.zip vs) m x=some v|[],_,_,_,_,h,_,_=>by simp at h;|_::_,[],_,_,_,_,h,_=>by simp at h;|p::P,w::vs,0,m,nd,h1,h2,hk=>by simp at h1 h2;subst h1;subst h2;show bindL kindOf ((p,w)::P.zip vs) m p=_;unfold bindL;rw[sG λv hv=>(Zbf.mp nd).1 (ϻ hv).1,Ì hk];simp;|p::P,w::vs,i+1,m,nd,h1,h2,hk=>by show bindL kindOf ((p,w)::P.zip vs) m x=_;unfold bindL;exact sJ (i:=i) (Zbf.mp nd).2 (by simpa using h1) (by simpa using h2) hk
theorem sO{kindOf:Str->Option NameKind}:∀{P:ð}{vs:ā}{i:Nat}{m:ŋ},P.Nodup->P[i]?=some x->vs[i]?=some v->kindOf x≠some .local->bindC kindOf (P.zip vs) m x=some v|[],_,_,_,_,h,_,_=>by simp at h;|_::_,[],_,_,_,_,h,_=>by simp at h;|p::P,w::vs,0,m,nd,h1,h2,hk=>by simp at h1 h2;subst h1;subst h2;show bindC kindOf ((p,w)::P.zip vs) m p=_;unfold bindC;rw[sI λv hv=>(Zbf.mp nd).1 (ϻ hv).1,Ê hk];simp;|p::P,w::vs,i+1,m,nd,h1,h2,hk=>by show bindC kindOf ((p,w)::P.zip vs) m x=_;unfold bindC;exact sO (i:=i) (Zbf.mp nd).2 (by simpa using h1) (by simpa using h2) hk
def start(N:ð)(vs:List V):St:=vs.map some++List.replicate (N.length-vs.length) none
def jg(CX:CXT)(P:Program)(w:World)(K:Frag)(mg:ŋ)(base:Heap)(N:ð)(qual:Str)(scope:Scope)(f:Addr)(cd:Value)(A:Around)(outer:List Env)(s:Shared)(H:Hp)(E:XK):Cx where prog:=P;w:=w;K:=K;mg:=mg;base:=base;A:=A.deeper (envOfC qual scope s.heap.objs.size f cd);N:=N;s₀:=s;H₀:=H;env:=envOfC qual scope s.heap.objs.size f cd;outer:=outer;stack:=envOfC qual scope s.heap.objs.size f cd::outer;ex:=[];calm:=true;fn:=λ_=>true;pn:=[];xe:=λe s'=>wpAny (model P w) (A.deeper (envOfC qual scope s.heap.objs.size f cd)) (leaving (envOfC qual scope s.heap.objs.size f cd) e) (λ_ l8=>CX outer H s E e l8) (λe' l8=>CX outer H s E e' l8) s'
theorem vK{sc:Scope}(h:sc.names.lookup x=some .cell):∃c,(cellsFrom n sc.names []).lookup x=some c:=by have q:=PySem.W.cellsFrom_some sc.names n [] (.inl h);exact Za0.mp q
theorem sS{K:Frag}(S:Ã N ps scope)(hd:A.handled=none)(e0:Ŏ P w K mg base A outer s H)(hl:vs.length=ps.length)(r:Í vs us)(x:InCallC s s.heap.objs.size (bindL (envOfC qual scope s.heap.objs.size f cd).kindOf (ps.zip us) λ_=>none) (cellsFrom (s.heap.objs.size+1) scope.names []) (bindC (envOfC qual scope s.heap.objs.size f cd).kindOf (ps.zip us) λ_=>none) s1):Ç (jg CX P w K mg base N qual scope f cd A outer s H E) [] (start N vs) H s1:=by
 have fw:ps.length<=N.length:=by have:=congrArg List.length S.pre;rw[ŉ]at this;lia
 obtain⟨h1,tk,rfl,hk⟩:=x.done;have DS:∀b:Addr,b∉(jg CX P w K mg base N qual scope f cd A outer s H E).ex:=λb z=>absurd (show b∈([]:Ĉ)from z) Ö;refine⟨⟨e0.mod,S.kind,O,O,Ü _,λy z c h1 h2=>?_,λy hy=>?_,λy c _ h=>?_,λ_=>hd,Around.frames_deeper e0.frames,.inr ⟨O,O⟩,λb z=>absurd z (DS b),e0.bs,e0.bsz,λb _ _=>DS b,λb z=>absurd z (DS b),e0.funs,e0.frf⟩,O,e0.bare,Un.kept hk,⟨_,x.toInCall.ns,λi y v h1 h2 h3=>?_⟩,λy c h=>⟨_,x.cell y c h⟩,e0.hok.fresh (Ü _),λy c h=>?_,λp hp=>absurd (show p∈([]:Ň)from hp) Ö,e0.hok.kept hk,?_⟩;.exact name_of_addr x.apart (PySem.mem_of_lookup h1) (PySem.mem_of_lookup h2)
 .have hy:scope.names.lookup y=some .cell\/scope.names.lookup y=some .free:=hy;rcases hy with hy|hy;.exact vK hy
  .exact absurd O (S.nofree _ (PySem.mem_of_lookup hy))
 .exact Zbe (x.above y c (PySem.mem_of_lookup h))
 .have hi:i<vs.length:=by
   unfold start at h2;by_cases hi:i<vs.length;.exact hi
   .rw[zBc (by simpa using hi)]at h2;rw[Zbq]at h2;split at h2<;>cases h2
  have ha:vs[i]?=some v:=by unfold start at h2;rw[zBd (by simpa using hi),Ą]at h2;cases e:vs[i]? with|none=>rw[e]at h2;cases h2;|some a=>rw[e]at h2;cases h2;rfl
  obtain⟨u,hu,rv⟩:=r.get ha;have hp:ps[i]?=some y:=by rw[<-S.pre,List.getElem?_take_of_lt Â];exact h1
  have Pe:ps.Nodup:=by rw[<-S.pre];exact S.nd.sublist (List.take_sublist _ _)
  refine⟨u,rv,?_⟩;rcases S.par y (Α hp)with k|k;.exact .inl ⟨k,sJ Pe hp hu k⟩
  .obtain⟨c,e⟩:=vK (n:=s.heap.objs.size+1) k;refine .inr ⟨.inl k,c,e,?_⟩;have q:=x.cell y c e;rw[sO Pe hp hu (by show scope.names.lookup y≠_;rw[k];decide)]at q;exact q
 .exact e0.hok.fresh (Zbe (x.above y c (PySem.mem_of_lookup h)))
 .unfold start;show _=N.length;rw[õ,Õ,Zbg];lia
theorem Ex{K:Frag}{dV kV doc pm ar ct oc:Value}{an od:Option Addr}{l9:Array (Qa8)}{N ps:ð}{sp:Sp}(lk:K.lookup f=some ⟨oc,od,.func (PySem.W.fnOf name qual params body scope dV kV doc pm an ar ct),l9⟩)(ff:PySem.W.codeIn K ar qual=true)(S:Ã N ps scope)(len:∀vs H Q E,sp vs H Q E->vs.length=ps.length)(aS:∀A outer s H vs Q E,ï k (A.deeper (envOfC qual scope s.heap.objs.size f ar))->sp vs H Q E->∃t,Ō (jg CX P w K mg base N qual scope f ar A outer s H E) body t/\t {nx:=λ_ H'=>Q .non H',rt:=Q} (start N vs) H):Ñ P w K mg base CX (k+1) f (PySem.W.fnOf name qual params body scope dV kV doc pm an ar ct) ps sp:=by
 refine⟨len,λA outer s H args us vs Q E hr e0 hb r iA=>?_⟩;have hl:=len _ _ _ _ iA;have KX:K.In s.heap:=e0.mod.kin.keeps λb o e=>(e0.bs b o e).1;have lim:s.heap.NoLimit:=e0.mod.nolimit.keeps λb o e=>(e0.bs b o e).1;have mM:∀y∈ps.zip us,scope.names.lookup y.1=some .local\/(scope.names.lookup y.1=some .cell/\((cellsFrom (s.heap.objs.size+1) scope.names []).lookup y.1).isSome=true):=λ⟨n,v⟩hy=>by
  rcases S.par n (ϻ hy).1 with q|q;.exact .inl q
  .exact .inr ⟨q,PySem.W.cellsFrom_some _ _ _ (.inl q)⟩
 refine codeAny_call_function hr.depth (KX _ _ lk) O S.co S.gen O (PySem.W.codeRec_of KX ff) (hb _ _ _ _ ?_);refine wpAny_newFunctionEnv_cells S.kind mM λenv he s1 x=>?_;subst he;refine⟨lim.keeps x.toInCall.keep,codeAny_func ?_⟩;obtain⟨t,ht,hq⟩:=aS A outer s H vs Q E (hr.deeper _) iA;have I:Ç (jg CX P w K mg base N qual scope f ar A outer s H E) [] (start N vs) H s1:=sS S hr.hd e0 hl r x;refine wpAny_mono (ht [] s1 (start N vs) H _ I hq) (λfl s' hs=>?_) λe s' hs=>hs;have fin:∀{av:St}{H':Hp}{v:V}{u:Value},Ç (jg CX P w K mg base N qual scope f ar A outer s H E) [] av H' s'->Ò v u->Q v H'->CE outer P w H s Q u s':=λ{av H' v u}J rv q=>⟨v,H',J.os,J.bare,J.base,J.hok,rv,q⟩;cases fl with|ret u=>obtain⟨v,av,H',J,rv,q⟩:=hs;exact fin J rv q;|next=>obtain⟨av,H',J,q⟩:=hs;exact fin (v:=V.non) (u:=Value.none) J O q;|brk=>obtain⟨_,_,_,q⟩:=hs;exact False.elim q;|cont=>obtain⟨_,_,_,q⟩:=hs;exact False.elim q
section
variable{p pos:Pos}{id T:String}
def tCB(r:List V->Hp->VK->Prop)(t:TA):TE:=λσ H Q=>t σ H λvs H1=>r vs H1 Q
theorem aJ(hc:dY X (.builtin id) r)(hg:Gl X x)(hm:X.mg x=none)(hv:bootBuiltins x=some (.builtin id))(ha:PA X (e::es) t)(hn:x≠"__name__":=by decide)(fy:Δ x:=by decide)(he:Qab X e es:=by rfl)(fw:Qac X pos es:=by rfl):PE X (.Call (.Name x p) (e::es) [] pos) (tCB r t):=by intro Á s σ H Q I h;refine wpAny_Call_Name_kw (je I hg hm hv ?_ hn fy);exact PyProof.Rows.callWith_builtin1 (Ý (ha pos Á s σ H _ I h) λus s1=>by rintro⟨vs,H1,I1,r1,q1⟩;exact hc Á s1 σ H1 vs us Q I1 r1 q1) he fw
theorem cH(hc:dY X (.type T) r)(hg:Gl X x)(hm:X.mg x=none)(hv:bootBuiltins x=some (.type T))(ha:PA X (e::es) t)(hn:x≠"__name__":=by decide)(fy:Δ x:=by decide)(he:Qab X e es:=by rfl)(fw:Qac X pos es:=by rfl):PE X (.Call (.Name x p) (e::es) [] pos) (tCB r t):=by intro Á s σ H Q I h;refine wpAny_Call_Name_kw (je I hg hm hv ?_ hn fy);exact PyProof.Rows.callWith_type1 (Ý (ha pos Á s σ H _ I h) λus s1=>by rintro⟨vs,H1,I1,r1,q1⟩;exact hc Á s1 σ H1 vs us Q I1 r1 q1) he fw
end
end L2
namespace HT
open PySem PyProof.Rows
section
open PySem.SeqAt
open PySem.AutoSeq1 (wpAny_loadPart')
open PySem.MeetsSeq PySem.MeetsSeq2 PySem.MeetsSeq3
end
section
theorem cat_tup(ht:IsTup s.heap t vs.toArray)(hb:IsTup s.heap b ws.toArray)(hv:vs≠[])(h1:ws=[]->Q (.ref t) s)(h2:ws≠[]->Q (.ref s.heap.objs.size) {s with heap:=s.heap.push {cls:=.type "tuple",data:=.seq (vs++ws).toArray}})(hsz:vs.length+ws.length<=sizeLine):wpAny (model prog w) A (binaryOp .Add (.ref t) (.ref b)) Q E s:=by
 obtain⟨⟨cls,dd,data,sl⟩,ho,hc,n,hd⟩:=id ht;obtain⟨⟨KU,BH,data2,kN⟩,rh,zh,n2,hd2⟩:=id hb;simp only at hc hd zh hd2;subst hc hd zh hd2;have e:vs.toArray++ws.toArray=(vs++ws).toArray:=by simp
 by_cases hw:ws=[];.exact concat_meets ⟨_,ho,O⟩ ⟨_,rh,O⟩ noFill_tuple_add seq_tuple_add PySem.F.slot_tuple_add PySem.F.entry_tuple_add (PySem.F.args_tuple_add_2 _ _) (tuple_addW1 t b vs.toArray ws.toArray n n2 dd BH sl kN (by simpa using hv) (by simp[hw])) ⟨ho,rh,h1 hw⟩
 .refine concat_meets ⟨_,ho,O⟩ ⟨_,rh,O⟩ noFill_tuple_add seq_tuple_add PySem.F.slot_tuple_add PySem.F.entry_tuple_add (PySem.F.args_tuple_add_2 _ _) (tuple_addW2 t b vs.toArray ws.toArray n n2 dd BH sl kN (by simpa using hv) (by simpa using hw) (by rw[ċ];exact hsz)) ⟨ho,rh,?_⟩;rw[e];exact h2 hw
def sIx(n d:Nat):Option Int->Nat|none=>d|some v=>if v<0 then(v+(n:Int)).toNat else min v.toNat n
theorem sIx_none(n d:Nat):sIx n d none=d:=rfl
theorem sIx_nat(n d k:Nat):sIx n d (some (k:Int))=min k n:=by rfl
theorem Lr(n d:Nat)(hd:d<=n)(o:Option Int):sIx n d o<=n:=by cases o with|none=>exact hd;|some v=>
  show(if v<0 then(v+(n:Int)).toNat else min v.toNat n)<=n;by_cases hv:v<0;.rw[Ì hv];lia
  .rw[Ê hv];exact Nat.min_le_right _ _
theorem zP(v:Int)(n d:Nat):(if v<0 then max (v+(n:Int)) 0 else min v (n:Int))=((sIx n d (some v):Nat):Int):=by
 show(if v<0 then max (v+(n:Int)) 0 else min v (n:Int))=(((if v<0 then(v+(n:Int)).toNat else min v.toNat n):Nat):Int);by_cases hv:v<0;.simp only[if_pos hv];lia
 .simp only[if_neg hv];lia
theorem xZ(lo hi:Option Int)(n:Nat):Builtin.Slice.sliceAdjust lo hi 1 (n:Int)=(((sIx n 0 lo:Nat):Int),((sIx n n hi:Nat):Int)):=by
 refine Prod.ext ?_ ?_;.cases lo with|none=>rfl;|some v=>exact zP v n 0
 .cases hi with|none=>rfl;|some v=>exact zP v n n
theorem yc(i j:Nat):Builtin.Slice.slicePlaces (i:Int) (j:Int) 1=j-i:=by unfold Builtin.Slice.slicePlaces;split<;>lia
theorem pZ(p:IsPart v o)(h:Q o s):wpAny (model prog w) A (Builtin.Slice.slicePartIndex v) Q E s:=by cases p with|none=>exact slicePart_none h;|int i t=>exact slicePart_int h
theorem iG{lo hi:Option Int}{Q:Int×Int×Nat->Shared->Prop}(hs:s.heap.IsSliceOf sl vl vu .none)(pl:IsPart vl lo)(pu:IsPart vu hi)(h:Q (((sIx n 0 lo:Nat):Int),1,sIx n n hi-sIx n 0 lo) s):wpAny (model prog w) A (Builtin.Slice.sliceApplied (.ref sl) (pure (n:Int))) Q E s:=by obtain⟨os,mf,BI,rj⟩:=id hs;unfold Builtin.Slice.sliceApplied Builtin.Slice.sliceFields;refine Ä (Ä (wpAny_field mf rj (x:=vl) O (Ä (wpAny_field mf rj (x:=vu) O (Ä (wpAny_field mf rj (x:=.none) O (Ú ?_)))))));refine Ä (slicePart_none ?_);show wpAny _ _ (if((1:Int)==0)=true then _ else _) _ _ s;rw[Ê Ù];refine Ä (pZ pl (Ä (pZ pu (Ä (Ú ?_)))));show wpAny _ _ (match Builtin.Slice.sliceAdjust lo hi 1 (n:Int)with|(lo,hi)=>pure (lo,(1:Int),Builtin.Slice.slicePlaces lo hi 1)) _ _ s;rw[xZ lo hi n];show wpAny _ _ (pure (((sIx n 0 lo:Nat):Int),(1:Int),Builtin.Slice.slicePlaces ((sIx n 0 lo:Nat):Int) ((sIx n n hi:Nat):Int) 1)) _ _ s;rw[yc];exact Ú h
theorem vL(xs:ϐ)(i k:Nat):((List.range k).filterMap λ(m:Nat)=>xs[((i:Int)+(m:Int)*1).toNat]?).toArray=((xs.toList.drop i).take k).toArray:=by
 have e:(λ(m:Nat)=>xs[((i:Int)+(m:Int)*1).toNat]?)=λm=>xs[i+m]?:=by grind
 rw[e];have:=pick_run xs i k;rw[List.filterMap_map]at this;have e2:((λx=>xs[x]?)∘λx=>i+x)=λm=>xs[i+m]?:=O;rw[e2]at this;rw[this]
theorem getItem_tuple_cut{lo hi:Option Int}(ht:IsTup s.heap t items)(hs:s.heap.IsSliceOf sl vl vu .none)(pl:IsPart vl lo)(pu:IsPart vu hi)(hw:¬(sIx items.size 0 lo=0/\sIx items.size items.size hi=items.size))(h:Q (.ref s.heap.objs.size) {s with heap:=s.heap.push {cls:=.type "tuple",data:=.seq ((items.toList.drop (sIx items.size 0 lo)).take (sIx items.size items.size hi-sIx items.size 0 lo)).toArray}})(hsz:items.size<=sizeLine):wpAny (model prog w) A (getItem (.ref t) (.ref sl)) Q E s:=by
 have cS:sizeOk (.seq ((items.toList.drop (sIx items.size 0 lo)).take (sIx items.size items.size hi-sIx items.size 0 lo)).toArray):=by show((items.toList.drop (sIx items.size 0 lo)).take (sIx items.size items.size hi-sIx items.size 0 lo)).toArray.size<=sizeLine;rw[ċ,ŉ,ϙ,Ŋ];lia
 have hj:sIx items.size items.size hi<=items.size:=Lr _ _ (Ü _) hi;obtain⟨os,mf,BI,rj⟩:=id hs;have DT:s.TypeIs (.ref sl) "slice":=⟨os,mf,BI⟩;unfold getItem;try with_reducible refine wpAny_holding ?_
 first|refine Ä (Ú ?_)|skip
 refine Ä (wpAny_sequenceKey ht.typeIs Ù ?_);refine Ä (wpAny_callSpecial?_slot (name:=Str.ofString "__getitem__") ht.typeIs PyProof.Rows.slot_tuple_getitem (wpAny_call_entry PyProof.Rows.slot_tuple_getitem ht.typeIs entry_tuple_getitem ?_ (args_tuple_getitem _ _)));show wpAny _ _ (Builtin.Tuple.tupleItemsOf (.ref t)>>=_) _ _ s;refine Ä (tupleItemsOf_ ht ?_);refine Ä (wpAny_typeOf DT ?_);rw[Ì Ù];refine Ä (iG hs pl pu ?_);have KW:¬((((sIx items.size 0 lo:Nat):Int)==0&&(1:Int)==1&&(sIx items.size items.size hi-sIx items.size 0 lo)==items.size)=true):=by intro q;rw[Ī,Ī]at q;have q1:((sIx items.size 0 lo:Nat):Int)=0:=eq_of_beq q.1.1;have q2:sIx items.size items.size hi-sIx items.size 0 lo=items.size:=eq_of_beq q.2;exact hw ⟨Â,Â⟩
 show wpAny _ _ (if(((sIx items.size 0 lo:Nat):Int)==0&&(1:Int)==1&&(sIx items.size items.size hi-sIx items.size 0 lo)==items.size)=true then _ else _) _ _ s;rw[Ê KW,vL];first|exact Ä (m:=Builtin.Tuple.tupleExact _) (Γ (Ú ⟨_,O,Ú h⟩) cS);|exact Ä (m:=Builtin.Tuple.tupleExact _) (Γ (Ä (Ú (Ú ⟨_,O,Ú h⟩))) cS);|exact Ä (Ä (m:=Builtin.Tuple.tupleExact _) (Γ (Ú (Ú ⟨_,O,Ú h⟩)) cS));|exact Ä (Ä (m:=Builtin.Tuple.tupleExact _) (Γ (Ú ⟨_,O,Ú h⟩) cS))
end
end HT
namespace L2
open PySem PySem.Spec PyProof.Rows
abbrev TO:=St->Hp->(Option Int->Hp->Prop)->Prop
def PO(X:Cx)(e:Option Expr)(t:TO):Prop:=∀Á s(σ:St)H Q,Ç X Á σ H s->t σ H Q->wpAny (model X.prog X.w) X.A (evalPart e X.env) (λu s'=>∃o H',Ç X Á σ H' s'/\IsPart u o/\Q o H') X.xe s
def IW:TO:=λ_ H Q=>Q none H
def O5(t:TE):TO:=λσ H Q=>t σ H λx H1=>∃i,x=.int i/\Q (some i) H1
theorem İ{ns:WF}:∀{us:ā},Í (ns.map V.int) us->IntsAre us ns:=by induction ns with|nil=>intro us r;rw[List.map_nil]at r;cases r;exact .nil;|cons n ns ih=>intro us r;cases r with|cons r1 r2=>obtain⟨t,e⟩:=r1;subst e;exact .cons n t (ih r2)
section
variable{lo hi:Option Expr}
theorem lu:PO X none IW:=by intro Á s σ H Q I h;exact Ú ⟨none,H,I,.none,h⟩
theorem lz(h:PE X e te):PO X (some e) (O5 te):=by intro Á s σ H Q I hw;refine Ý (h Á s σ H _ I hw) λu s1=>?_;rintro⟨x,H1,I1,r1,q1⟩;obtain⟨i,rfl,q⟩:=q1;obtain⟨t,rfl⟩:=r1;exact⟨some i,H1,I1,.int i t,q⟩
def SlR(X:Cx)(r:V->Option Int->Option Int->Hp->VK->Prop):Prop:=∀Á s(σ:St)H x v vl vu lo hi sl Q,Ç X Á σ H s->Ò x v->s.heap.IsSliceOf sl vl vu .none->IsPart vl lo->IsPart vu hi->r x lo hi H Q->∃T id,typeLookup (.type T) "__getitem__"=pure (some (.builtin id))/\s.TypeIs v T/\wpAny (model X.prog X.w) X.A (getItem v (.ref sl)) (EP X Á σ Q) X.xe s
def tSl(r:V->Option Int->Option Int->Hp->VK->Prop)(te:TE)(tl th:TO):TE:=λσ H Q=>te σ H λx H1=>tl σ H1 λl H2=>th σ H2 λu H3=>r x l u H3 Q
theorem jh(hr:SlR X r)(he:PE X e te)(hl:PO X lo tl)(hu:PO X hi th):PE X (.Subscript e (.Slice lo hi none p2) pos) (tSl r te tl th):=by intro Á s σ H Q I h;refine Subscript_ (Ý (he Á s σ H _ I h) λv s1=>?_);rintro⟨x,H1,I1,r1,q1⟩;refine wpAny_Slice (Ý (hl Á s1 σ H1 _ I1 q1) λvl s2⟨l,H2,I2,pl,q2⟩=>Ý (hu Á s2 σ H2 _ I2 q2) λvu s3=>?_);rintro⟨u,H3,I3,pu,q3⟩;refine Ú ?_;have I4:Ç X Á σ H3 {s3 with heap:=s3.heap.push {cls:=.type "slice",data:=.fields #[vl,vu,.none]}}:=I3.kept (t':=s3.toks) λb ob q=>þ _ q;obtain⟨T,id,hT,ht,hg⟩:=hr Á {s3 with heap:=s3.heap.push {cls:=.type "slice",data:=.fields #[vl,vu,.none]}} σ H3 x v vl vu l u s3.heap.objs.size Q I4 r1 (Heap.IsSliceOf.new ..) pl pu q3;exact tail_any (ops:=[.ref s3.heap.objs.size,v]) ht hT hg (by with_unfolding_all rfl)
def jP(xs:List V)(lo hi:Option Int):List V:=(xs.drop (HT.sIx xs.length 0 lo)).take (HT.sIx xs.length xs.length hi-HT.sIx xs.length 0 lo)
theorem o7(xs:List V)(lo hi:Option Int):(jP xs lo hi).length<=xs.length:=by unfold jP;rw[ŉ,ϙ];lia
inductive Z0q(K:Frag)(x:V)(lo:Option Int)(hi:Option Int)(H:Hp)(Q:VK):Prop|mk:∀a xs,(x=.ref a)->(Ð K H a xs)->(¬(HT.sIx xs.length 0 lo=0/\HT.sIx xs.length xs.length hi=xs.length))->(∀p,H p=none->Q (.ref p) (upd H p (.tup (jP xs lo hi))))->Z0q K x lo hi H Q
def Ql(K:Frag):V->Option Int->Option Int->Hp->VK->Prop:=λx lo hi H Q=>Z0q K x lo hi H Q
theorem Ls:SlR X (Ql X.K):=by
 intro Á s σ H x v vl vu lo hi sl Q I rx hs pl pu h;obtain⟨a,xs,rfl,hx,hw,q⟩:=h;cases rx;obtain⟨Æ,r,ht,hz⟩:=I.tuple hx;have hlen:Æ.toArray.size=xs.length:=by rw[ċ];exact r.length.symm
 refine⟨"tuple",_,PyProof.Rows.slot_tuple_getitem.lookup,ht.typeIs,?_⟩;refine HT.getItem_tuple_cut ht hs pl pu (by rw[hlen];exact hw) ?_ (by rw[hlen];exact hz);rw[hlen];refine⟨.ref s.heap.objs.size,_,I.laid (t':=s.toks) (o:=.tup (jP xs lo hi)) (λb ob q=>þ _ q) (Ü _) ?_,O,q _ (I.hok.fresh (Ü _))⟩;exact⟨Ņ (o7 xs lo hi) hz,_,(r.drop (HT.sIx xs.length 0 lo)).take (HT.sIx xs.length xs.length hi-HT.sIx xs.length 0 lo),IsTup.new _ _⟩
inductive Z0c(K:Frag)(x:V)(y:V)(H:Hp)(Q:VK):Prop|mk:∀a b xs ys,(x=.ref a)->(y=.ref b)->(Ð K H a xs)->(Ð K H b ys)->(xs≠[])->(xs.length+ys.length<=sizeLine)->((ys=[]->Q (.ref a) H))->((ys≠[]->∀p,H p=none->Q (.ref p) (upd H p (.tup (xs++ys)))))->Z0c K x y H Q
def Kp(K:Frag):R2:=λx y H Q=>Z0c K x y H Q
theorem Í.nil_iff(r:Í xs us):us=[]↔xs=[]:=by cases r with|nil=>simp;|cons _ _=>simp
theorem um:Ě X (binaryOp .Add) (Kp X.K):=by intro Á s σ H x y v u Q I rx ry h;obtain⟨a,b,xs,ys,rfl,rfl,ha,hb,hx,hz,q1,q2⟩:=h;cases rx;cases ry;obtain⟨Æ,r1,p1,_⟩:=I.tuple ha;obtain⟨bS,r2,p2,_⟩:=I.tuple hb;refine HT.cat_tup p1 p2 (λz=>hx (r1.nil_iff.mp z)) (λz=>⟨.ref a,H,I,O,q1 (r2.nil_iff.mp z)⟩) (λz=>?_) (by rw[<-r1.length,<-r2.length];exact hz);refine⟨.ref s.heap.objs.size,_,I.laid (t':=s.toks) (o:=.tup (xs++ys)) (λb ob q=>þ _ q) (Ü _) ?_,O,q2 (λw=>z (r2.nil_iff.mpr w)) _ (I.hok.fresh (Ü _))⟩;exact⟨by rw[õ];exact hz,_,r1.append r2,IsTup.new _ _⟩
end
def ώ(n:Nat)(i:Int):Option Nat:=if 0<=i then(if i<n then some i.toNat else none)else if-(n:Int)<=i then some (i+n).toNat else none
def ĭ{α:Type}(xs:List α)(i:Int):Option α:=(ώ xs.length i).bind λj=>xs[j]?
theorem uo(h:ώ n i=some j):seqIndex? i n=some j/\j<n/\-(n:Int)<=i/\i<n:=by
 unfold ώ at h;by_cases h0:0<=i
 .rw[Ì h0]at h;by_cases h1:i<n;.rw[Ì h1]at h;have e:i.toNat=j:=œ h;exact⟨by rw[seqIndex_of h0 h1,e],Â,Â,h1⟩
  .rw[Ê h1]at h;cases h
 .rw[Ê h0]at h;by_cases h1:-(n:Int)<=i;.rw[Ì h1]at h;have e:(i+n).toNat=j:=œ h;exact⟨by rw[seqIndex_neg Â h1,e],Â,h1,Â⟩
  .rw[Ê h1]at h;cases h
theorem zQ{v:α}(h:ĭ xs i=some v):∃j,seqIndex? i xs.length=some j/\xs[j]?=some v/\j<xs.length/\-(xs.length:Int)<=i/\i<xs.length:=by unfold ĭ at h;cases e:ώ xs.length i with|none=>rw[e]at h;cases h;|some j=>rw[e]at h;obtain⟨h1,h2,h3,h4⟩:=uo e;exact⟨j,h1,h,h2,h3,h4⟩
theorem cJ{j:Nat}{v:α}(h:xs[j]?=some v):ĭ xs (j:Int)=some v:=by
 have hj:j<xs.length:=(Ķ.mp h).1;have e:ώ xs.length (j:Int)=some j:=by unfold ώ;rw[Ì Â,Ì Â];simp
 unfold ĭ;rw[e];exact h
def uq(b:Expr):Prop:=∀o i,subscripted b false o i=operate [o,i] (getItem o i)
def IxR(X:Cx)(r:R2):Prop:=∀value slice Á s(σ:St)H x y v u Q,Ç X Á σ H s->Ò x v->Ò y u->r x y H Q->subscripted slice false v u=operate [v,u] (getItem v u)->wpAny (model X.prog X.w) X.A (subscriptTail value slice v u) (EP X Á σ Q) X.xe s
def MtR(X:Cx)(id:String)(r:V->List V->Hp->VK->Prop):Prop:=∀Á s(σ:St)H x xs v us Q,Ç X Á σ H s->Ò x v->Í xs us->r x xs H Q->wpAny (model X.prog X.w) X.A (call (.builtin id) (v::us)) (EP X Á σ Q) X.xe s
section
variable{ta tb:TE}
theorem Kq(hr:IxR X r)(ha:PE X a ta)(hb:PE X b tb)(hs:uq b):PE X (.Subscript a b pos) (Ϲ r ta tb):=by intro Á s σ H Q I h;exact Subscript_ (Lp ha hb I h λv u s2 x y H2 I2 rx ry q=>hr a b Á s2 σ H2 x y v u Q I2 rx ry q (hs _ _))
inductive Z0u(K:Frag)(x:V)(y:V)(H:Hp)(Q:VK):Prop|mk:∀p xs i v,(x=.ref p)->(y=.int i)->(É K H p xs)->(ĭ xs i=some v)->(Q v H)->Z0u K x y H Q
def O6(K:Frag):R2:=λx y H Q=>Z0u K x y H Q
inductive Z0t(K:Frag)(x:V)(y:V)(H:Hp)(Q:VK):Prop|mk:∀p xs i v,(x=.ref p)->(y=.int i)->(Ð K H p xs)->(ĭ xs i=some v)->(Q v H)->Z0t K x y H Q
def O8(K:Frag):R2:=λx y H Q=>Z0t K x y H Q
theorem bO:IxR X (O6 X.K):=by
 intro value slice Á s σ H x y v u Q I rx ry h hs;obtain⟨p,xs,i,z,rfl,rfl,hq,he,q⟩:=h;cases rx;obtain⟨t,rfl⟩:=ry;obtain⟨Æ,r,pl,hz⟩:=I.list hq;obtain⟨j,h1,h2,h3,h4,h5⟩:=zQ he;obtain⟨w,ew,fh⟩:=r.get h2;have hl:=r.length;have hn:=ni;have fin:EP X Á σ Q w s:=⟨z,H,I,fh,q⟩;by_cases h0:0<=i
 .have hj:i.toNat=j:=by rw[seqIndex_of h0 h5]at h1;exact œ h1
  exact item_listR pl.isList h0 Â (by rw[hj];simpa using ew) fin hs
 .have hj:(i+(Æ.toArray.size:Int)).toNat=j:=by rw[seqIndex_neg Â h4]at h1;rw[ċ,<-hl];exact œ h1
  exact subscriptTail_builtinR (x:=w) pl.isList.typeIs slot_list_getitem.lookup (wpAny_getItem_list_neg (Q:=λr s'=>r=w/\EP X Á σ Q r s') pl.isList Â (by rw[ċ]<;>lia) Â (by rw[hj];simpa using ew) ⟨O,fin⟩) hs
theorem bJ:IxR X (O8 X.K):=by intro value slice Á s σ H x y v u Q I rx ry h hs;obtain⟨p,xs,i,z,rfl,rfl,hq,he,q⟩:=h;cases rx;obtain⟨t,rfl⟩:=ry;obtain⟨Æ,r,pl,hz⟩:=I.tuple hq;obtain⟨j,h1,h2,h3,h4,h5⟩:=zQ he;obtain⟨w,ew,fh⟩:=r.get h2;have hl:=r.length;have hn:=ni;have fin:EP X Á σ Q w s:=⟨z,H,I,fh,q⟩;exact subscriptTail_builtinR (x:=w) pl.typeIs slot_tuple_getitem.lookup (getItem_tuple (j:=j) (Q:=λr s'=>r=w/\EP X Á σ Q r s') pl Â Â (by rw[ċ,<-hl];exact h1) (by simpa using ew) ⟨O,fin⟩) hs
theorem yd(Æ:ā)(n j:Nat)(u:Value):Obj.mapSeq (·.setIfInBounds j u) {cls:=.type "list",data:=.seq Æ.toArray n}={cls:=.type "list",data:=.seq (Æ.set j u).toArray n}:=by simp[Obj.mapSeq]
theorem Ç.lst{σ:St}(I:Ç X Á σ H s)(h:H p=some (.lst xs)):∃(Æ:ā)(n:Nat),Í xs Æ/\s.heap.get? p=some {cls:=.type "list",data:=.seq Æ.toArray n}/\xs.length<=sizeLine:=by obtain⟨z,Æ,n,r,e⟩:=I.hok p _ h;exact⟨Æ,n,r,e,z⟩
theorem Ç.lstUpd{σ:St}{Æ its':ā}(I:Ç X Á σ H s)(h:H p=some (.lst xs))(ho:s.heap.get? p=some {cls:=.type "list",data:=.seq Æ.toArray n})(hf:f {cls:=.type "list",data:=.seq Æ.toArray n}={cls:=.type "list",data:=.seq its'.toArray n'})(r:Í ys its')(hz:ys.length<=sizeLine)(t:Nat):Ç X Á σ (upd H p (.lst ys)) {s with heap:=s.heap.update p f,toks:=t}:=by
 have e:(s.heap.update p f).get? p=some {cls:=.type "list",data:=.seq its'.toArray n'}:=by rw[Heap.get?_update_self f ho (by rw[hf]<;>rfl),hf]
 refine I.write (x:=p) (e:=p) (by rw[h];trivial) (.inl O) (λb u hb q=>(Heap.get?_update_other _ _ (Ne.symm hb)).trans q) ⟨_,e⟩ ?_;exact⟨hz,its',n',r,e⟩
inductive Z09(o:V)(i:V)(v:V)(H:Hp)(Q:Hp->Prop):Prop|mk:∀p xs k j,(o=.ref p)->(i=.int k)->(H p=some (.lst xs))->(ώ xs.length k=some j)->(Q (upd H p (.lst (xs.set j v))))->Z09  o i v H Q
def O9:V->V->V->Hp->(Hp->Prop)->Prop:=λo i v H Q=>Z09  o i v H Q
theorem ą:Iu X O9:=by
 intro Á s σ H o i v ov iv u Q I ro ri rv h;obtain⟨p,xs,k,j,rfl,rfl,hp,hj,q⟩:=h;cases ro;obtain⟨t,rfl⟩:=ri;obtain⟨Æ,n,r,ho,hz⟩:=I.lst hp;obtain⟨h1,h2,h3,h4⟩:=uo hj;have hl:=r.length;have hn:=ni;have I':Ç X Á σ (upd H p (.lst (xs.set j v))) {s with heap:=s.heap.update p (Obj.mapSeq (·.setIfInBounds j u))}:=I.lstUpd hp ho (yd Æ n j u) (r.set rv j) (by rw[Za9];exact hz) s.toks;by_cases h0:0<=k
 .have hk:k.toNat=j:=by rw[seqIndex_of h0 h4]at h1;exact œ h1
  exact PySem.W.ki_setAt ho h0 Â (by rw[ċ,<-hl];exact h4) (by rw[hk];exact⟨_,I',q⟩)
 .have hk:(k+(Æ.toArray.size:Int)).toNat=j:=by rw[seqIndex_neg Â h3]at h1;rw[ċ,<-hl];exact œ h1
  exact PySem.W.ki_setBack ho Â (by rw[ċ,<-hl];exact h3) Â (by rw[hk];exact⟨_,I',q⟩)
theorem ur(lo hi:Option Int)(n:Nat):(sliceBounds lo hi none n).1=((HT.sIx n 0 lo:Nat):Int)/\(sliceBounds lo hi none n).2.1=((HT.sIx n n hi:Nat):Int)/\(sliceBounds lo hi none n).2.2=1:=by
 refine⟨?_,?_,O⟩;.cases lo with|none=>simp[sliceBounds,HT.sIx];|some i=>
   simp only[sliceBounds,HT.sIx,Option.getD_none,show(1:Int)>0 by decide,if_true];by_cases h:i<0;.simp only[h,if_true]<;>lia
   .simp only[h,if_false]<;>lia
 .cases hi with|none=>simp[sliceBounds,HT.sIx];|some i=>
   simp only[sliceBounds,HT.sIx,Option.getD_none,show(1:Int)>0 by decide,if_true];by_cases h:i<0;.simp only[h,if_true]<;>lia
   .simp only[h,if_false]<;>lia
theorem rm(Æ:ā)(lo hi:Option Int):slicePick Æ.toArray lo hi none=((Æ.drop (HT.sIx Æ.length 0 lo)).take (HT.sIx Æ.length Æ.length hi-HT.sIx Æ.length 0 lo)).toArray:=by obtain⟨h1,h2,h3⟩:=ur lo hi Æ.toArray.size;unfold slicePick;rw[h1,h2,h3];simp only[sliceRange_one,pick_run]<;>rfl
inductive Z0r(K:Frag)(x:V)(lo:Option Int)(hi:Option Int)(H:Hp)(Q:VK):Prop|mk:∀a xs,(x=.ref a)->(É K H a xs)->(∀p,H p=none->Q (.ref p) (upd H p (.lst (jP xs lo hi))))->Z0r K x lo hi H Q
def Qm(K:Frag):V->Option Int->Option Int->Hp->VK->Prop:=λx lo hi H Q=>Z0r K x lo hi H Q
theorem zR:SlR X (Qm X.K):=by intro Á s σ H x v vl vu lo hi sl Q I rx hs pl pu h;obtain⟨a,xs,rfl,hx,q⟩:=h;cases rx;obtain⟨Æ,r,ht,hz⟩:=I.list hx;have hlen:=r.length;refine⟨"list",_,slot_list_getitem.lookup,ht.isList.typeIs,?_⟩;refine wpAny_getItem_list_slice ht.isList hs pl pu .none Ö ?_ (by rw[ċ]<;>lia);rw[rm,<-hlen];refine⟨.ref s.heap.objs.size,_,I.laid (t':=s.toks) (o:=.lst (jP xs lo hi)) (λb ob q=>þ _ q) (Ü _) ?_,O,q _ (I.hok.fresh (Ü _))⟩;exact⟨Ņ (o7 xs lo hi) hz,_,0,(r.drop (HT.sIx xs.length 0 lo)).take (HT.sIx xs.length xs.length hi-HT.sIx xs.length 0 lo),Ĩ _ O⟩
theorem bQ:dY X (.builtin "len") (λxs H Q=>∃p ys,xs=[.ref p]/\(É X.K H p ys\/Ð X.K H p ys)/\Q (.int ys.length) H):=by
 intro Á s σ H xs us Q I r h;obtain⟨p,ys,rfl,hq,q⟩:=h;obtain⟨u,rfl,rx⟩:=ÿ r;cases rx;have hn:=ni;rcases hq with hq|hq;.obtain⟨Æ,r',pl,hz⟩:=I.list hq;have hlen:=r'.length;exact Calls.call_len_list pl.isList (by simp only[List.size_toArray]<;>lia) ⟨.int ys.length,H,I.tok _,⟨s.toks+1,by rw[ċ,hlen]⟩,q⟩
 .obtain⟨Æ,r',pl,hz⟩:=I.tuple hq;have hlen:=r'.length;exact len_tuple pl (by simp only[List.size_toArray]<;>lia) ⟨.int ys.length,H,I.tok _,⟨s.toks+1,by rw[ċ,hlen]⟩,q⟩
theorem ut:dY X (.type "list") (λxs H Q=>∃p ys,xs=[.ref p]/\(É X.K H p ys\/Ð X.K H p ys)/\∀l,H l=none->Q (.ref l) (upd H l (.lst ys))):=by
 intro Á s σ H xs us Q I r h;obtain⟨p,ys,rfl,hq,q⟩:=h;obtain⟨u,rfl,rx⟩:=ÿ r;cases rx;have fin:∀(Æ:ā),Í ys Æ->ys.length<=sizeLine->∀(h':Heap)(c':Nat),(∀b o',s.heap.get? b=some o'->h'.get? b=some o')->h'.get? s.heap.objs.size=some {cls:=.type "list",dict:=none,data:=.seq Æ.toArray c',slots:=#[]}->EP X Á σ Q (.ref s.heap.objs.size) {s with heap:=h'}:=λÆ r' hz h' c' kp e=>⟨.ref s.heap.objs.size,_,I.laid (t':=s.toks) kp (Ü _) (show Û X.prog X.w _ h' _ (.lst ys)from⟨hz,Æ,c',r',e⟩),O,q _ (I.hok.fresh (Ü _))⟩;rcases hq with hq|hq;.obtain⟨Æ,r',pl,hz⟩:=I.list hq;have hlen:=r'.length;obtain⟨o,ho,hc,n,hd⟩:=pl.isList;exact call_list_seq p (.inl O) ho hc hd (λh' c' kp e=>fin Æ r' hz h' c' kp e) (by simp only[List.size_toArray]<;>lia)
 .obtain⟨Æ,r',pl,hz⟩:=I.tuple hq;have hlen:=r'.length;obtain⟨o,ho,hc,n,hd⟩:=pl;exact call_list_seq p (.inr O) ho hc hd (λh' c' kp e=>fin Æ r' hz h' c' kp e) (by simp only[List.size_toArray]<;>lia)
theorem cB:dY X (.type "tuple") (λxs H Q=>∃p ys,xs=[.ref p]/\((É X.K H p ys/\∀l,H l=none->Q (.ref l) (upd H l (.tup ys)))\/(Ð X.K H p ys/\Q (.ref p) H))):=by
 intro Á s σ H xs us Q I r h;obtain⟨p,ys,rfl,h⟩:=h;obtain⟨u,rfl,rx⟩:=ÿ r;cases rx;rcases h with⟨hq,q⟩|⟨hq,q⟩;.obtain⟨Æ,r',pl,hz⟩:=I.list hq;have hlen:=r'.length;refine call_tuple_list pl.isList (λh' kp=>?_) (by simp only[List.size_toArray]<;>lia);have I1:Ç X Á σ H {s with heap:=h'}:=I.kept (t':=s.toks) kp;have I2:Ç X Á σ (upd H h'.objs.size (.tup ys)) {s with heap:=h'.push {cls:=.type "tuple",data:=.seq Æ.toArray}}:=I1.laid (t':=s.toks) (λb o e=>þ _ e) (Ü _) (⟨hz,Æ,r',IsTup.new _ _⟩);exact⟨.ref h'.objs.size,_,I2,O,q _ (I1.hok.fresh (Ü _))⟩
 .obtain⟨Æ,r',pl,hz⟩:=I.tuple hq;exact call_tuple_same pl ⟨.ref p,H,I,O,q⟩
def tyV(K:Frag)(T:String)(x:V)(H:Hp):Prop:=match x with|.str _=>T="str"|.int _=>T="int"|.ref p=>(T="list"/\∃xs,É K H p xs)\/(T="tuple"/\∃o,K.lookup p=some o/\o.cls=.type "tuple"/\o.dict=none)\/(T="dict"/\((∃kvs,H p=some (.dK kvs))\/∃kvs,H p=some (.dT kvs)))\/(T="set"/\∃S n,H p=some (.set S n))|_=>False
theorem Lw{σ:St}(I:Ç X Á σ H s)(r:Ò x v)(ty:tyV X.K T x H):
 s.TypeIs v T/\∀a,v=.ref a->∃ob,s.heap.get? a=some ob/\ob.dict=none:=by cases x with|str z=>obtain⟨t,rfl⟩:=r;cases(ty);exact⟨typeIs_str s z t,λ_ e=>nomatch e⟩;|int i=>obtain⟨t,rfl⟩:=r;cases(ty);exact⟨typeIs_int s i t,λ_ e=>nomatch e⟩;|ref p=>
  cases r;rcases ty with⟨rfl,xs,hq⟩|⟨rfl,o,hk,hc,hd⟩|⟨rfl,hk⟩|⟨rfl,S,n,hk⟩;.obtain⟨Æ,_,pl,_⟩:=I.list hq;refine⟨pl.isList.typeIs,λa e=>?_⟩;cases e;obtain⟨o,n,e,c,hd,_⟩:=pl;exact⟨o,e,hd⟩
  .refine⟨⟨o,I.kIn p o hk,hc⟩,λa e=>?_⟩;cases e;exact⟨o,I.kIn _ o hk,hd⟩
  .have z:∃o,s.heap.get? p=some o/\o.ExactDict:=by
    rcases hk with⟨kvs,hk⟩|⟨kvs,hk⟩;.obtain⟨_,_,_,_,o,_,_,e,ex,_⟩:=I.hok p _ hk;exact⟨o,e,ex⟩
    .obtain⟨_,_,_,_,o,_,_,e,ex,_⟩:=I.hok p _ hk;exact⟨o,e,ex⟩
   obtain⟨o,e,ex⟩:=z;refine⟨⟨o,e,ex.1⟩,λa e2=>?_⟩;cases e2;exact⟨o,e,ex.2.1⟩
  .obtain⟨o,_,_,_,e,ex,_⟩:=I.hok p _ hk;refine⟨⟨o,e,ex.1⟩,λa e2=>?_⟩;cases e2;exact⟨o,e,ex.2.1⟩;|_=>exact False.elim ty
def tBM(K:Frag)(T:String)(r:V->List V->Hp->VK->Prop)(to:TE)(t:TA):TE:=λσ H Q=>to σ H λx H1=>tyV K T x H1/\t σ H1 λxs H2=>r x xs H2 Q
variable{apos bX:Pos}{T id:String}
theorem fD(pa:PlainAttrs T)(slot:Slot T name id)(UP:typeOf (.builtin id)=pure (.type "method_descriptor"))(hm:MtR X id r)(ho:PE X o to)(ha:PA X (e::es) t)(DU:attributeBase o name X.env (eval o X.env)=eval o X.env:=by rfl)(K0:((backTo bX (starEach (e::es) X.env)).all (λx=>!x.1)&&(backToKw bX (keywordEach [] X.env)).all (λx=>x.1.isSome)&&decide ((e::es).length+([]:List Keyword).length+(if([]:List Keyword).isEmpty then 0 else 1)<30))=true:=by rfl)(hline:(apos.endLine==bX.line)=true:=by rfl)(hs:Qab X e es:=by rfl)(Lc:Qac X bX es:=by rfl):PE X (.Call (.Attribute o name apos) (e::es) [] bX) (tBM X.K T r to t):=by intro Á s σ H Q I h;refine wpAny_Call_method_late DU K0 hline O (Ý (ho Á s σ H _ I h) λv s1=>?_);rintro⟨x,H1,I1,r1,ty,q1⟩;obtain⟨h1,h2⟩:=Lw I1 r1 ty;refine⟨T,id,pa,slot,UP,h1,h2,?_⟩;have hA:=ha bX Á s1 σ H1 _ I1 q1;rw[hs]at hA⊢;refine Calls.callWith_builtin (by assumption) (Calls.evalArgs_plain ?_);exact Ý hA λus s2=>by rintro⟨vs,H2,I2,r2,q2⟩;exact hm Á s2 σ H2 x vs v us Q I2 r1 r2 q2
end
def MtM(X:Cx)(id:String)(r:V->List V->Hp->VK->Prop):Prop:=∀Á s(σ:St)H x xs v us Q,Ç X Á σ H s->Ò x v->Í xs us->r x xs H Q->wpAny (model X.prog X.w) X.A (call (.builtin id) (v::us)) (EP X Á σ Q) X.xe s
theorem Í.one:∀{x:V}{us:ā},Í [x] us->∃u,us=[u]/\Ò x u|_,_,.cons r .nil=>⟨_,O,r⟩
theorem Í.two(r:Í [x,y] us):∃u v,us=[u,v]/\Ò x u/\Ò y v:=Ť r
theorem Í.zero:∀{us:ā},Í [] us->us=[]|_,.nil=>rfl
theorem Í.eraseIdx:∀{xs:List V}{us:ā}i,Í xs us->Í (xs.eraseIdx i) (us.eraseIdx i)|_,_,_,.nil=>.nil|_,_,0,.cons _ t=>t|_,_,i+1,.cons r t=>.cons r (Í.eraseIdx i t)
theorem Í.reverse(h:Í xs us):Í xs.reverse us.reverse:=by induction h with|nil=>exact .nil;|cons r t ih=>rw[List.reverse_cons,List.reverse_cons];exact Í.append ih (.cons r .nil)
theorem Í.rep(h:Í xs us):∀k,Í (List.replicate k xs).flatten (List.replicate k us).flatten|0=>.nil|k+1=>by exact Í.append h (Í.rep h k)
theorem nj{α:Type}:∀(l:List α)i,(l.eraseIdx i).length<=l.length|[],_=>Ü _|_::_,0=>Ŧ _|_::r,i+1=>Nat.succ_le_succ (nj r i)
theorem ġ(Æ:ā):∀k acc,List.foldl (λx1 x2=>x1++x2) acc.toArray (List.replicate k Æ.toArray)=(acc++(List.replicate k Æ).flatten).toArray
 |0,acc=>by simp;|k+1,acc=>by
  have e:acc.toArray++Æ.toArray=(acc++Æ).toArray:=by simp
  have e2:(acc++Æ)++(List.replicate k Æ).flatten=acc++(List.replicate (k+1) Æ).flatten:=by rw[List.replicate_succ,List.flatten_cons,ő]
  rw[<-e2,<-ġ Æ k (acc++Æ),<-e,List.replicate_succ,List.foldl_cons]
section
variable{σ:St}
theorem Ç.lset{Æ its':ā}(I:Ç X Á σ H s)(hH:H l=some (.lst xs))(e:s.heap.get? l=some {cls:=.type "list",data:=.seq Æ.toArray n})(hf:f Æ.toArray=its'.toArray)(hv:Í ys its')(hz:ys.length<=sizeLine):Ç X Á σ (upd H l (.lst ys)) {s with heap:=s.heap.update l (Obj.mapSeq f),toks:=t'}:=by have q:=PySem.IsL.update e f;rw[hf]at q;refine I.write (x:=l) (e:=l) (by rw[hH];exact trivial) (.inl O) (λb' u hb hu=>(Heap.get?_update_other s.heap (Obj.mapSeq f) (Ne.symm hb)).trans hu) ⟨_,q⟩ ?_;exact⟨hz,its',_,hv,q⟩
theorem Ç.lnew(I:Ç X Á σ H s)(hv:Í ys Æ)(hz:ys.length<=sizeLine):Ç X Á σ (upd H s.heap.objs.size (.lst ys)) {s with heap:=s.heap.push {cls:=.type "list",data:=.seq Æ.toArray},toks:=t'}:=I.laid (λ_ _ q=>þ _ q) (Ü _) ⟨hz,Æ,0,hv,Ĩ _ O⟩
theorem Ç.fresh(I:Ç X Á σ H s):H s.heap.objs.size=none:=I.hok.fresh (Ü _)
theorem Ç.lstM(I:Ç X Á σ H s)(hH:H l=some (.lst xs)):xs.length<=sizeLine/\∃(Æ:ā)(n:Nat),Í xs Æ/\xs.length=Æ.length/\s.heap.get? l=some {cls:=.type "list",data:=.seq Æ.toArray n}:=by obtain⟨z,Æ,n,r,e⟩:=I.hok l _ hH;exact⟨z,Æ,n,r,r.length,e⟩
theorem q9(h:n<=sizeLine):Builtin.List.listTooLong n=false:=by exact ħ Â
end
section
inductive ν(x:V)(vs:List V)(H:Hp)(Q:VK):Prop|mk:∀l xs y,(x=.ref l)->(vs=[y])->(H l=some (.lst xs))->(xs.length<sizeLine)->(Q .non (upd H l (.lst (xs++[y]))))->ν  x vs H Q
def J0:V->List V->Hp->VK->Prop:=λx vs H Q=>ν  x vs H Q
theorem dw:MtM X "list.append" J0:=by intro Á s σ H x vs v us Q I rx rv h;obtain⟨l,xs,y,rfl,rfl,hH,hz,q⟩:=h;cases rx;obtain⟨u,rfl,ru⟩:=rv.one;obtain⟨z,Æ,n,r,hl,e⟩:=I.lstM hH;refine call_meets F.slot_list_append ⟨_,e,O⟩ F.entry_list_append (F.args_list_append_2 _ _) (PySem.list_append l Æ.toArray n u (by rw[ċ];lia)) ⟨e,?_⟩;refine⟨.non,_,I.lset (its':=Æ++[u]) hH e Ö (r.append (.cons ru .nil)) ?_,O,q⟩;rw[õ,List.length_singleton];lia
inductive ι(x:V)(vs:List V)(H:Hp)(Q:VK):Prop|mk:∀l b xs zs,(x=.ref l)->(vs=[.ref b])->(H l=some (.lst xs))->(H b=some (.lst zs))->(xs.length+zs.length<=sizeLine)->(Q .non (upd H l (.lst (xs++zs))))->ι  x vs H Q
def J1:V->List V->Hp->VK->Prop:=λx vs H Q=>ι  x vs H Q
theorem Cv:MtM X "list.extend" J1:=by
 intro Á s σ H x vs v us Q I rx rv h;obtain⟨l,b,xs,zs,rfl,rfl,hH,hB,hz,q⟩:=h;cases rx;obtain⟨u,rfl,ru⟩:=rv.one;cases ru;obtain⟨z,Æ,n,r,hl,e⟩:=I.lstM hH;obtain⟨z2,bS,n2,r2,iE,e2⟩:=I.lstM hB;have hsz:Æ.toArray.size+bS.toArray.size<=sizeLine:=by rw[ċ,ċ];lia
 have iF:¬(!Æ.toArray.isEmpty&&Builtin.List.listTooLong (Æ.toArray.size+bS.toArray.size))=true:=by rw[q9 hsz,Bool.and_false];exact š
 refine call_meets F.slot_list_extend ⟨_,e,O⟩ F.entry_list_extend (F.args_list_extend_2 _ _) (AutoSeq1.list_extend_list_list_0 l Æ.toArray n b bS.toArray n2 iF (by rw[ċ];lia) Â) ⟨e,e2,?_⟩;refine⟨.non,_,I.lset (its':=Æ++bS) hH e Ö (r.append r2) ?_,O,q⟩;rw[õ];lia
inductive ϫ(x:V)(vs:List V)(H:Hp)(Q:VK):Prop|mk:∀l xs i k y,(x=.ref l)->(vs=[.int i])->(H l=some (.lst xs))->(-(2^63)<=i)->(i<2^63)->(seqIndex? i xs.length=some k)->(xs[k]?=some y)->(Q y (upd H l (.lst (xs.eraseIdx k))))->ϫ  x vs H Q
def Lx:V->List V->Hp->VK->Prop:=λx vs H Q=>ϫ  x vs H Q
theorem vM:MtM X "list.pop" Lx:=by
 intro Á s σ H x vs v us Q I rx rv h;obtain⟨l,xs,i,k,y,rfl,rfl,hH,h1,h2,hk,hy,q⟩:=h;cases rx;obtain⟨u,rfl,ru⟩:=rv.one;obtain⟨t,rfl⟩:=ru;obtain⟨z,Æ,n,r,hl,e⟩:=I.lstM hH;obtain⟨w,hw,fh⟩:=r.get hy;refine call_meets F.slot_list_pop ⟨_,e,O⟩ F.entry_list_pop (F.args_list_pop_2 _ _) (MeetsSeq.list_pop_at l Æ.toArray n i t k w (fitsIndex_both h1 h2) (by rw[ċ,<-hl];exact hk) (by rw[<-Zav];exact hw) (by rw[ċ];lia)) ⟨e,?_⟩;refine⟨y,_,I.lset (its':=Æ.eraseIdx k) hH e ?_ (r.eraseIdx k) ?_,fh,q⟩;.show Æ.toArray.eraseIdxIfInBounds k=(Æ.eraseIdx k).toArray;rw[List.eraseIdxIfInBounds_toArray]
 .have:=nj xs k;lia
inductive Z0v(x:V)(y:V)(H:Hp)(Q:VK):Prop|mk:∀l b xs zs,(x=.ref l)->(y=.ref b)->(H l=some (.lst xs))->(H b=some (.lst zs))->(xs.length+zs.length<=sizeLine)->(∀p,H p=none->Q (.ref p) (upd H p (.lst (xs++zs))))->Z0v  x y H Q
def Qn:R2:=λx y H Q=>Z0v  x y H Q
theorem jQ:Ě X (binaryOp .Add) Qn:=by
 intro Á s σ H x y v u Q I rx ry h;obtain⟨l,b,xs,zs,rfl,rfl,hH,hB,hz,q⟩:=h;cases rx;cases ry;obtain⟨z,Æ,n,r,hl,e⟩:=I.lstM hH;obtain⟨z2,bS,n2,r2,iE,e2⟩:=I.lstM hB;refine PySem.P.add_list e e2 ?_ (by rw[ċ,ċ];lia);have ea:Æ.toArray++bS.toArray=(Æ++bS).toArray:=by simp
 rw[ea];exact⟨.ref _,_,I.lnew (t':=s.toks) (r.append r2) (by rw[õ];lia),O,q _ I.fresh⟩
inductive Z0s(x:V)(y:V)(H:Hp)(Q:VK):Prop|mk:∀l k xs,(x=.ref l)->(y=.int k)->(H l=some (.lst xs))->(-(2^63)<=k)->(k<2^63)->(xs.length*k.toNat<=sizeLine)->(∀p,H p=none->Q (.ref p) (upd H p (.lst (List.replicate k.toNat xs).flatten)))->Z0s  x y H Q
def Qo:R2:=λx y H Q=>Z0s  x y H Q
theorem Ÿ{α:Type}(xs:List α)(k:Nat):(List.replicate k xs).flatten.length=k*xs.length:=by simp
theorem Ly:Ě X (binaryOp .Mult) Qo:=by
 intro Á s σ H x y v u Q I rx ry h;obtain⟨l,k,xs,rfl,rfl,hH,h1,h2,hz,q⟩:=h;cases rx;obtain⟨t,rfl⟩:=ry;obtain⟨z,Æ,n,r,hl,e⟩:=I.lstM hH;have hlen:Æ.toArray.size*k.toNat<=sizeLine:=by rw[ċ,<-hl];exact hz
 have Ll:¬Æ.toArray.size*k.toNat>(2^63-1)/8:=by
  have:(sizeLine:Nat)<=(2^63-1)/8:=by decide
  lia
 have Lm:¬(!Builtin.List.listFitsIndex k)=true:=by rw[fitsIndex_both h1 h2];exact š
 have iF:¬Builtin.List.listTooLong (Æ.toArray.size*k.toNat)=true:=by rw[q9 hlen];exact š
 have Lo:List.foldl (λx1 x2=>x1++x2) #[] (List.replicate (if Æ.toArray.isEmpty=true then 0 else k.toNat) Æ.toArray)=(List.replicate k.toNat Æ).flatten.toArray:=by
  have f0:∀m:Nat,List.foldl (λx1 x2=>x1++x2) #[] (List.replicate m Æ.toArray)=(List.replicate m Æ).flatten.toArray:=λm=>by have:=ġ Æ m [];rw[List.nil_append]at this;exact this
  rw[f0];cases Æ with|nil=>simp;|cons a r'=>rw[Ê Ö]
 refine wpAny_binaryOp_repeat_ref (T:="list") (U:="int") Ù ⟨_,e,O⟩ (λs'=>typeIs_int s' k t) noFill_list_mul F.fills_int_mul F.slot_int_rmul repeat_list F.slot_int_index.lookup (call_meets F.slot_int_rmul (typeIs_int s k t) F.entry_int_rmul (F.args_int_rmul_2 _ _) (int___rmul___int_list k t l Æ.toArray n) ⟨e,O,⟨_,e,O⟩,call_meets F.slot_list_mul ⟨_,e,O⟩ F.entry_list_mul (F.args_list_mul_2 _ _) (AutoListH.list___mul___list_int_3 l Æ.toArray n k t Lm Ll iF) ⟨e,?_⟩⟩);rw[Lo];exact⟨.ref _,_,I.lnew (t':=s.toks) (r.rep k.toNat) (by rw[Ÿ,Nat.mul_comm];exact hz),O,q _ I.fresh⟩
end
section
set_option maxRecDepth 100000 in
end
section
end
end L2
namespace Att
open PySem PySem.W PySem.Calls PyProof.Rows
theorem oJ:∀(ns:WF)vs,WellAll P h vs (ns.map WData.int)->IntsAre vs ns:=by intro ns;induction ns with|nil=>intro vs w;cases w;exact .nil;|cons n ns ih=>intro vs w;cases w with|cons a b=>cases a;exact .cons _ _ (ih _ b)
theorem Cw{l:OpenLaw}(hn:l.most=some n)(rl:l.row.toRowW.claim.pre args=true)(Lu:WellAll P h vals args):∃a vs ns,vals=[Value.ref a]/\args=[WData.list (ns.map WData.int)]/\h.get? a=some {cls:=.type "list",data:=.seq vs.toArray}/\IntsAre vs ns/\ns.length<=n:=by
 have UQ:WShape.hasAll [] args [.list .int]=true:=(pre_splitW rl).1;have hc:l.pre.holds [] {args:=args}=true:=(pre_splitW rl).2;obtain⟨d,r,rfl,h1,h2⟩:=hasAllW_cons UQ;obtain rfl:=hasAllW_nil h2;obtain⟨xs,rfl,h3⟩:=hasW_list h1;obtain⟨ns,rfl⟩:=items_int h3;have hlen:ns.length<=n:=by
  unfold OpenLaw.pre at hc;have h4:(WTm.not (.lt (.lit (.int (n:Int))) (.len (.arg 0)))).holds [] {args:=[.list (ns.map .int)]}=true:=by have h4:=(holds_andW hc).1;rw[hn]at h4;exact h4
  have h5:=condW_of h4 (w_not (w_lt w_lit (w_len_list (w_arg O))));rw[Õ]at h5;refine Nat.le_of_not_lt λq=>?_;have q':(n:Int)<((ns.length:Nat):Int):=Â;first|(rw[ø q']at h5;exact absurd h5 Ù);|(simp at h5;lia)
 cases Lu with|cons w1 w2=>cases w2;cases w1 with|list ho mP=>exact⟨_,_,ns,O,O,ho,oJ ns _ mP,hlen⟩
theorem Cy(l:OpenLaw)(args:List WData):l.row.toRowW.claim.post args (.bool true) args=true:=postW_of (r:=l.row.toRowW) (X:=(true==true)) (show WShape.has [] (.bool true) .bool=true by first|rfl|decide|simp[WShape.has]) (w_eq_bool (w_res O) w_lit) O
theorem attach_call{l:OpenLaw}(hn:l.most=some n)(zk:d.params.defaults=[])(call:∀w s₀ s₁ mg mb fa o pm cd doc a vs(ns:WF),Ground q loose [] XP w s₀ mg mb s₁.heap->YP w s₁.heap->s₁.heap.get? fa=some o->o.data=.func (docDef d.name d.params d.body d.scope pm cd doc)->s₁.heap.CodeRec cd d.name->mg d.name=some (.ref fa)->s₁.heap.get? a=some {cls:=.type "list",data:=.seq vs.toArray}->IntsAre vs ns->ns.length<=n->s₁.gens=#[]->codeAny (model l.prog w) callerA (.call (.ref fa) ⟨[.ref a],[]⟩) (λr s'=>r=.ok (.ret (.bool true))/\OldK s₁.heap s'.heap/\s'.os=s₁.os/\AllBare s'.gens) s₁):WalkO q loose XP YP l.row.toRowW d [] (λf vs=>PySem.call f vs):=by intro w s₀ s₁ mg mb G Y fa o pm cd doc dV kV ho hd ff hD hmg hg args vals as rl UR u7 Lu va;obtain rfl:dV=.none:=Dflts.none hD zk;obtain rfl:kV=.none:=Dflts.noKw hD;obtain⟨a,vs,ns,rfl,rfl,zl,hints,hlen⟩:=Cw hn rl Lu;refine enter_call (codeAny_mono (call w s₀ s₁ mg mb fa o pm cd doc a vs ns G Y ho (fd_plain hd) ff hmg zl hints hlen hg) λr s' hq=>?_);obtain⟨rfl,h2,h3,h4⟩:=hq;exact⟨.inl ⟨.bool true,.bool true,[],O,λ_=>rfl,.bool true,Cy l _,λ_=>⟨List.Pairwise.nil,λ_ hm=>(nomatch hm)⟩⟩,h2,h3,h4⟩
section
end
end Att
namespace L2
open PySem PySem.Spec PyProof.Rows
theorem nu:∀{vs:ā}{ns:WF},IntsAre vs ns->Í (ns.map V.int) vs|_,_,.nil=>.nil|_,_,.cons n t h=>.cons ⟨t,O⟩ (nu h)
def gD(s:Stmt):Arguments:=match s with|.FunctionDef _ a _ _ _ _ _ _ _ _=>a|_=>{posonlyargs:=[],args:=[],vararg:=none,kwonlyargs:=[],kw_defaults:=[],kwarg:=none,defaults:=[]}
def cZ(s:Stmt):List Stmt:=match s with|.FunctionDef _ _ b _ _ _ _ _ _ _=>b|_=>[]
def aD(s:Stmt):Scope:=match s with|.FunctionDef _ _ _ _ _ _ sc _ _ _=>sc|_=>{kind:=.function,names:=[],isGenerator:=false,isCoroutine:=false}
abbrev å:CXT:=λ_ _ _ _ _ _=>False
abbrev E0:XK:=λ_ _ _=>False
theorem Oa:ul å X E0:=λ_ _ _ _ _ _ _ h=>h.elim
structure æ(K:Frag)(x qual:Str)(st:Stmt)(f:Addr)(fd:FuncData):Prop where
 ex:∃oc od kV doc pm an ar ct l9,fd=PySem.W.fnOf x qual (gD st) (cZ st) (aD st) .none kV doc pm an ar ct/\K.lookup f=some ⟨oc,od,.func fd,l9⟩/\PySem.W.codeIn K ar qual=true
 kp:PySem.W.keepIn K (.ref f)=true
section
variable{K:Frag}
theorem æ.ok{st:Stmt}(F:æ K x qual st f fd)(S:Ã N ps (aD st))(len:∀vs H Q E,sp vs H Q E->vs.length=ps.length)(aS:∀ar A outer s H vs Q E,ï k (A.deeper (envOfC qual (aD st) s.heap.objs.size f ar))->sp vs H Q E->∃t,Ō (jg å P w K mg base N qual (aD st) f ar A outer s H E).nox (cZ st) t/\t {nx:=λ_ H'=>Q .non H',rt:=Q} (start N vs) H):Ñ P w K mg base å (k+1) f fd ps sp:=by obtain⟨oc,od,kV,doc,pm,an,ar,ct,l9,rfl,lk,ff⟩:=F.ex;refine Ex lk ff S len λA outer s H vs Q E hr iA=>?_;obtain⟨t,h,q⟩:=aS ar A outer s H vs Q E hr iA;exact⟨t,h.nox,q⟩
structure ϭ(sp:Sp)(ps:ð):Prop where h:∀vs H Q E,sp vs H Q E->vs.length=ps.length:=by intro _ _ _ _ h;first|(cases h;subst_vars;rfl)|(repeat(first|(subst_vars;rfl)|obtain⟨_,h⟩:=h))
theorem æ.oq{st:Stmt}(F:æ K x qual st f fd)(S:Ã N ps (aD st))(aS:∀ar A outer s H vs Q E,ï k (A.deeper (envOfC qual (aD st) s.heap.objs.size f ar))->sp vs H Q E->∃t,Ō (jg å P w K mg base N qual (aD st) f ar A outer s H E).nox (cZ st) t/\t {nx:=λ_ H'=>Q .non H',rt:=Q} (start N vs) H)(len:ϭ sp ps:=by exact{}):Ñ P w K mg base å (k+1) f fd ps sp:=F.ok S len.h aS
theorem æ.binds{st:Stmt}(F:æ K x qual st f fd)(h:∀kV doc pm an ar ct us,us.length=ps.length->bindArgs (PySem.W.fnOf x qual (gD st) (cZ st) (aD st) .none kV doc pm an ar ct) ⟨us,[]⟩=pure (ps.zip us)):û K fd ps []:=by obtain⟨oc,od,kV,doc,pm,an,ar,ct,l9,rfl,lk,ff⟩:=F.ex;exact .all (h kV doc pm an ar ct)
theorem Ey{st:Stmt}{kV doc pm ar ct:Value}(l:K.lookup f=some ⟨oc,od,.func (PySem.W.fnOf x qual (gD st) (cZ st) (aD st) .none kV doc pm an ar ct),l9⟩)(c:PySem.W.codeIn K ar qual=true)(k:PySem.W.keepIn K (.ref f)=true):æ K x qual st f (PySem.W.fnOf x qual (gD st) (cZ st) (aD st) .none kV doc pm an ar ct):=⟨⟨oc,od,kV,doc,pm,an,ar,ct,l9,O,l,c⟩,k⟩
end
theorem fO(hr:ï k A):A.units+1<cLine:=Nat.lt_of_le_of_lt (Nat.add_le_add_left (by decide:1<=64) _) hr.units
section
variable{X:Cx}
theorem pv(i:Nat){pos:Pos}(hN:X.N[i]?=some x:=by rfl)(hv:Vis X.env.scope x:=by first|exact Or.inl O|exact Or.inr (Or.inl O)|exact Or.inr (Or.inr O))(hd:Δ x:=by decide)(ff:(x==("__classdict__":Str))=false:=by decide):PE X (.Name x pos) (Ck i):=xT hN hv hd ff
end
theorem bB{A B:Prop}(h:B):if false=true then A else B:=by exact h
theorem bK{A B:Prop}(h:A):if true=true then A else B:=by exact h
theorem rA{c A B:Prop}[Decidable c](h1:c->A)(h2:¬c->B):if c then A else B:=by
 by_cases h:c;.rw[Ì h];exact h1 h
 .rw[Ê h];exact h2 h
def À(H H':Hp):Prop:=∀b o,H b=some o->H' b=some o
theorem À.refl(H:Hp):À H H:=λ_ _ h=>h
theorem À.trans(a:À H H1)(b:À H1 H2):À H H2:=λc o h=>b c o (a c o h)
theorem À.free(e:À H H')(h:H' l=Option.none):H l=Option.none:=by cases q:H l with|none=>rfl;|some o=>rw[e l o q]at h;cases h
end L2
inductive Xe3{A B C:Type}(p:A->B->C->Prop):Prop|mk:∀a b c,p a b c->Xe3 p
inductive Xe4{A B C D:Type}(p:A->B->C->D->Prop):Prop|mk:∀a b c d,p a b c d->Xe4 p
inductive Xe5{A B C D E:Type}(p:A->B->C->D->E->Prop):Prop|mk:∀a b c d e,p a b c d e->Xe5 p
inductive Xe6{A B C D E F:Type}(p:A->B->C->D->E->F->Prop):Prop|mk:∀a b c d e f,p a b c d e f->Xe6 p
inductive Xe7{A B C D E F G:Type}(p:A->B->C->D->E->F->G->Prop):Prop|mk:∀a b c d e f g,p a b c d e f g->Xe7 p
inductive Xe8{A B C D E F G H:Type}(p:A->B->C->D->E->F->G->H->Prop):Prop|mk:∀a b c d e f g h,p a b c d e f g h->Xe8 p
inductive Xe9{A B C D E F G H I:Type}(p:A->B->C->D->E->F->G->H->I->Prop):Prop|mk:∀a b c d e f g h i,p a b c d e f g h i->Xe9 p
inductive Xe11{A B C D E F G H I J K:Type}(p:A->B->C->D->E->F->G->H->I->J->K->Prop):Prop|mk:∀a b c d e f g h i j k,p a b c d e f g h i j k->Xe11 p
inductive Xe15{A B C D E F G H I J K L M N O:Type}(p:A->B->C->D->E->F->G->H->I->J->K->L->M->N->O->Prop):Prop|mk:∀a b c d e f g h i j k l m n o,p a b c d e f g h i j k l m n o->Xe15 p
inductive Xa2(a b:Prop):Prop|mk:a->b->Xa2 a b
inductive Xa3(a b c:Prop):Prop|mk:a->b->c->Xa3 a b c
inductive Xa4(a b c d:Prop):Prop|mk:a->b->c->d->Xa4 a b c d
inductive Xa5(a b c d e:Prop):Prop|mk:a->b->c->d->e->Xa5 a b c d e
inductive Xa6(a b c d e f:Prop):Prop|mk:a->b->c->d->e->f->Xa6 a b c d e f
inductive Xa7(a b c d e f g:Prop):Prop|mk:a->b->c->d->e->f->g->Xa7 a b c d e f g
inductive Xa8(a b c d e f g h:Prop):Prop|mk:a->b->c->d->e->f->g->h->Xa8 a b c d e f g h
inductive Xa9(a b c d e f g h i:Prop):Prop|mk:a->b->c->d->e->f->g->h->i->Xa9 a b c d e f g h i
namespace L2
open PySem PySem.Spec PyProof.Rows
def cG(cells:List (Str×Addr)):List (Str×NameKind)->List (Str×Addr)->List (Str×Addr)|[],acc=>acc|(n,k)::r,acc=>cG cells r (if k=.free then(n,(cells.lookup n).getD 0)::acc else acc)
theorem sV:∀l acc,(∀p∈l,p.2=NameKind.free->(env.cells.lookup p.1).isSome=true)->(forIn l acc λx r=>(if(x.2==NameKind.free)=true then do let a<-cellOf env x.1;pure (ForInStep.yield ((x.1,a)::r))else pure (ForInStep.yield r):Sem (ForInStep (List (Str×Addr)))))=pure (cG env.cells l acc)
 |[],acc,_=>rfl|(n,k)::r,acc,h=>by
  rw[List.forIn_cons];have ih:=λa=>sV (env:=env) r a λp hp=>h p (Zaj _ hp);by_cases hk:k=.free
  .subst hk;have hs:=h (n,.free) Zao O;obtain⟨c,hc⟩:=Za0.mp hs;have e1:cellOf env n=pure c:=by unfold cellOf;rw[show env.cells.lookup n=some c from hc]
   have e2:cG env.cells ((n,.free)::r) acc=cG env.cells r ((n,c)::acc):=by show cG env.cells r (if NameKind.free=NameKind.free then(n,(env.cells.lookup n).getD 0)::acc else acc)=_;rw[Ì O,show env.cells.lookup n=some c from hc];rfl
   rw[e2];simp only[beq_self_eq_true,if_true,e1,pure_bind];exact ih _
  .have hb:(k==NameKind.free)=false:=by simpa using hk
   have e2:cG env.cells ((n,k)::r) acc=cG env.cells r acc:=by show cG env.cells r (if k=NameKind.free then _ else acc)=_;rw[Ê hk]
   rw[e2];simp only[hb,Bool.false_eq_true,if_false,pure_bind];exact ih _
theorem lA(h:∀p∈scope.names,p.2=NameKind.free->(env.cells.lookup p.1).isSome=true):closureFor scope env=pure (cG env.cells scope.names []):=by have e:=sV (env:=env) scope.names [] h;unfold closureFor;simp only[bind_pure];exact e
theorem iH:∀l acc,(∀p∈l,p.2=NameKind.free->(cells.lookup p.1).isSome=true)->(cG cells l acc).lookup x=some c->acc.lookup x=some c\/cells.lookup x=some c
 |[],_,_,h=>.inl h|(n,k)::r,acc,hf,h=>by
  have h':(cG cells r (if k=.free then(n,(cells.lookup n).getD 0)::acc else acc)).lookup x=some c:=h;rcases iH r _ (λp hp=>hf p (Zaj _ hp)) h' with e|e
  .by_cases hk:k=.free
   .rw[Ì hk]at e;obtain⟨d,hd⟩:=Za0.mp (hf (n,k) Zao hk);rw[show cells.lookup n=some d from hd]at e;rw[Za1]at e
    cases hx:x==n with|true=>
     rw[hx]at e;have:x=n:=by simpa using hx
     subst this;exact .inr (hd.trans (by simpa using e));|false=>rw[hx]at e;exact .inl e
   .rw[Ê hk]at e;exact .inl e
  .exact .inr e
theorem ji:∀l acc,((∃k,(x,k)∈l/\k=NameKind.free)\/(∃c,acc.lookup x=some c))->∃c,(cG cells l acc).lookup x=some c
 |[],_,h=>by
  rcases h with⟨k,hk,_⟩|h;.exact absurd hk Ö
  .exact h;|(n,k)::r,acc,h=>by
  show∃c,(cG cells r (if k=.free then(n,(cells.lookup n).getD 0)::acc else acc)).lookup x=some c;refine ji r _ ?_;rcases h with⟨k',hk,e⟩|⟨c,hc⟩
  .rcases ĩ.mp hk with z|z;.cases z;refine .inr ?_;rw[Ì e];exact⟨_,by rw[Za1,beq_self_eq_true]⟩
   .exact .inl ⟨k',z,e⟩
  .refine .inr ?_;by_cases hk:k=.free;.rw[Ì hk,Za1];cases hx:x==n with|true=>exact⟨_,O⟩;|false=>exact⟨c,hc⟩
   .rw[Ê hk];exact⟨c,hc⟩
theorem o9(hc:∀p∈scope.names,p.2≠NameKind.cell)(h:(relabel scope env).names.lookup x=some k)(hk:k=.cell\/k=.free):∃k',(x,k')∈scope.names/\k'=NameKind.free:=by
 have m:=PySem.mem_of_lookup h;obtain⟨⟨n,k0⟩,hm,e⟩:=ó.mp m;dsimp only at e;split at e
 .rename_i c;cases e;have:(k0==NameKind.free)=true:=by cases q:(k0==NameKind.free)with|true=>rfl;|false=>rw[q]at c;simp at c
  exact⟨k0,hm,by simpa using this⟩
 .cases e;rcases hk with z|z;.exact absurd z (hc _ hm)
  .exact⟨_,hm,z⟩
def χ(X:Cx)(scope:Scope)(Nc:ð)(C:Addr)(fp:Ĉ)(Á:Ň)(s₂:Shared)(Ï:Hp):Cx where prog:=X.prog;w:=X.w;K:=X.K;mg:=X.mg;base:=X.base;A:=X.A;N:=Nc;s₀:=s₂;H₀:=Ï;env:=compEnvC scope (cG X.env.cells scope.names []) C X.env;outer:=X.stack;stack:=X.stack;ex:=fp;fn:=λ_=>false;calm:=X.calm;pn:=X.pn++Á;xe:=λ_ _=>False
def ĕ(X:Cx)(cb:Env):ð->List (Option Nat)->Prop|[],[]=>True|_::N,none::r=>ĕ X cb N r|x::N,some i::r=>(X.N[i]?=some x/\(X.env.kindOf x=some .cell\/X.env.kindOf x=some .free)/\cb.cells.lookup x=X.env.cells.lookup x/\(cb.kindOf x=some .cell\/cb.kindOf x=some .free))/\ĕ X cb N r|_,_=>False
def ē(σ:St)(src:List (Option Nat)):St:=src.map λo=>match o with|none=>none|some i=>(σ[i]?).join
theorem ĕ.len:∀{N:ð}{src:List (Option Nat)},ĕ X cb N src->src.length=N.length|[],[],_=>rfl|[],_::_,h=>h.elim|_::_,[],h=>h.elim|_::N,none::r,h=>by have h':ĕ X cb N r:=h;have:=ĕ.len (N:=N) (src:=r) h';simp[this];|_::N,some _::r,h=>by have:=ĕ.len (N:=N) (src:=r) h.2;simp[this]
theorem ĕ.get:∀{N:ð}{src:List (Option Nat)}{j i:Nat},ĕ X cb N src->N[j]?=some x->src[j]?=some (some i)->X.N[i]?=some x/\(X.env.kindOf x=some .cell\/X.env.kindOf x=some .free)/\cb.cells.lookup x=X.env.cells.lookup x/\(cb.kindOf x=some .cell\/cb.kindOf x=some .free)|[],[],_,_,_,e,_=>by simp at e;|[],_::_,_,_,h,_,_=>h.elim|_::_,[],_,_,h,_,_=>h.elim|_::_,none::_,0,_,_,_,e=>by simp at e;|_::N,none::r,j+1,_,h,e1,e2=>by have h':ĕ X cb N r:=h;exact ĕ.get (N:=N) (src:=r) (j:=j) h' (by simpa using e1) (by simpa using e2);|_::_,some _::_,0,_,h,e1,e2=>by simp at e1 e2;subst e1 e2;exact h.1;|_::_,some _::_,j+1,_,h,e1,e2=>ĕ.get (j:=j) h.2 (by simpa using e1) (by simpa using e2)
structure ď(X:Cx)(scope:Scope):Prop where
 kind:scope.kind=.function
 cell:scope.names.all (λp=>p.2 !=.cell)=true
 names:scope.names.all (λp=>p.2 !=.local||scope.names.lookup p.1==some .local)=true
 free:scope.names.all (λp=>p.2 !=.free||(X.env.cells.lookup p.1).isSome)=true
section
theorem ď.hcell(S:ď X scope):∀p∈scope.names,p.2≠NameKind.cell:=λp hp=>by have:=ņ.mp S.cell p hp;simpa using this
theorem ď.hnames(S:ď X scope):∀p∈scope.names,p.2=.local->scope.names.lookup p.1=some .local:=λp hp e=>by have:=ņ.mp S.names p hp;simpa[e]using this
theorem ď.hfree(S:ď X scope):∀p∈scope.names,p.2=NameKind.free->(X.env.cells.lookup p.1).isSome=true:=λp hp e=>by have:=ņ.mp S.free p hp;simpa[e]using this
end
def PTs(X:Cx)(ifs:Qa6)(t:TT):Prop:=∀Á s(σ:St)H Q,Ç X Á σ H s->t σ H Q->wpAny (model X.prog X.w) X.A (forIn ifs true λc r=>if r=true then do let ok<-isTrue c X.env (eval c X.env);pure (ForInStep.yield ok)else pure (ForInStep.yield r)) (TP X Á σ Q) X.xe s
def ye:TT:=λ_ H Q=>Q true H
theorem bx:PTs X [] ye:=λ_ _ _ H _ I h=>wpAny_tests_nil ⟨H,I,h⟩
theorem gF(h:PT X c t):PTs X [c] t:=λÁ s σ H Q I q=>wpAny_tests_one (h Á s σ H Q I q)
theorem J3(I:Nat->Shared->Prop)(turn:∀n s,I n s->wpAny (model prog w) A (pyNext it) (λr s₁=>match r with|none=>R (.ok .next) s₁|some v=>wpAny (model prog w) A (letOwnedTupleGo target it v) (λ_ vi=>wpAny (model prog w) A (assign target env v) (λ_ s₂=>wpAny (model prog w) A (forIn ifs true λc r=>if r=true then do let ok<-isTrue c env (eval c env);pure (ForInStep.yield ok)else pure (ForInStep.yield r)) (λok s₃=>if ok=true then wpAny (model prog w) A (eval elt env) (λx iL=>wpAny (model prog w) A (call (.builtin "list.append") [acc,x]) (λ_ DV=>∃m,m<n/\I m DV) (λ_ _=>False) iL) (λ_ _=>False) s₃ else∃m,m<n/\I m s₃) (λ_ _=>False) s₂) (λ_ _=>False) vi) (λ_ _=>False) s₁) (λ_ _=>False) s)(n:Nat)(h:I n s):codeAny (model prog w) A (.compLoop (.ListComp elt [⟨target,iter,ifs,0⟩] scope pos) 0 it acc env) R s:=by refine codeAny_loop O I (λn s hI=>?_) n h;show wpAny _ A ((compTurn (.ListComp elt [⟨target,iter,ifs,0⟩] scope pos) 0 it acc env).onRaise (λx=>do noteFrame x env;theTreesLotGoes x)) _ _ s;refine wpAny_noted ?_;rw[compTurn_list];refine Ä (wpAny_standAt (Ä (wpAny_mono (turn n s hI) (λr s₁ de=>?_) λ_ _ h'=>h'.elim)));cases r with|none=>exact Ú de;|some v=>refine Ä (wpAny_mono de (λ_ vi DZ=>?_) λ_ _ h'=>h'.elim);refine Ä (wpAny_mono DZ (λ_ s₂ mS=>Ä (wpAny_mono mS (λok s₃ rq=>?_) λ_ _ h'=>h'.elim)) λ_ _ h'=>h'.elim);cases ok with|false=>exact Ú ⟨O,rq⟩;|true=>exact Ä (Ä (wpAny_mono rq (λx iL Lv=>Ä (wpAny_mono Lv (λ_ DV LA=>Ú (Ú ⟨O,LA⟩)) λ_ _ h'=>h'.elim)) λ_ _ h'=>h'.elim))
def lB(J:It)(g:TG)(tt:TT)(te:TE)(Fin:List V->Hp->Prop)(eJ:St)(H0:Hp):Prop:=∃W:Nat->Nat->List V->St->Hp->Prop,(∃m,W 0 m [] eJ H0)/\∀i m ys σ H,W i m ys σ H->ys.length<sizeLine/\((J.stop i H/\Fin ys H)\/(J.go i H/\∀x H',J.yld i H x H'->g x σ H' λbo H2=>tt bo H2 λb H3=>if b=true then te bo H3 λy H4=>∃m',m'<m/\W (i+1) m' (ys++[y]) bo H4 else∃m',m'<m/\W (i+1) m' ys bo H3))
abbrev TM:=List V->St->Hp->(List V->St->Hp->Prop)->Prop
abbrev yf(us:ā)(k:Nat):Obj:={cls:=.type "list",data:=.seq us.toArray k}
def π(X:Cx)(D:Addr):Prop:=D≠X.env.locals/\D∉X.fs/\X.s₀.heap.objs.size<=D/\(∀x c,X.env.cells.lookup x=some c->c≠D)/\∀p∈X.pn,p.1≠D
structure Fil(X:Cx)(Á:Ň)(D:Addr)(σ:St)(H:Hp)(s:Shared)(ys:List V):Prop where
 inv:Ç X Á σ H s
 nD:H D=none
 np:∀p∈Á,p.1≠D
 obj:∃us k,s.heap.get? D=some (yf us k)/\Í ys us
def PM(X:Cx)(D:Addr)(M:Sem Fin->Sem Fin)(tm:TM):Prop:=∀Á s σ H Q ys,Fil X Á D σ H s ys->ys.length<sizeLine->tm ys σ H Q->∀c R E,(∀s' iN av H',Fil X Á D av H' s' iN->Q iN av H'->wpAny (model X.prog X.w) X.A c R E s')->wpAny (model X.prog X.w) X.A (M c) R E s
def tmE(te:TE):TM:=λys σ H Q=>te σ H λy H'=>Q (ys++[y]) σ H'
def J7(elt:Expr)(D:Addr)(env:Env):Sem Fin->Sem Fin:=λc=>(do let _<-call (.builtin "list.append") [.ref D,<-eval elt env])>>=λ_=>c
theorem thx{Q Q':α->Shared->Prop}(h:wpAny M A t Q (λ_ _=>False) s)(hQ:∀a s,Q a s->Q' a s):wpAny M A t Q' E s:=wpAny_mono h hQ λ_ _ x=>x.elim
theorem Ez(ap:π X D)(hx:X.xe=λ_ _=>False)(he:PE X elt te):PM X D (J7 elt D X.env) (tmE te):=by
 intro Á s σ H Q ys F hsz h c R E hc;obtain⟨I,nD,np,us,k,oD,rv⟩:=F;obtain⟨a1,a2,a3,a4,a5⟩:=ap;have I':Ç X (Á++[(D,yf us k)]) σ H s:=I.pins_of λp hp=>(ė.mp hp).elim (λz=>I.pin p (Ş _ z)) λz=>by rw[Ř.mp z];exact⟨oD,nD,a1,a2,λv z=>by cases z⟩
 have GW:=he _ s σ H _ I' h;rw[hx]at GW;refine Ä (Ä (thx GW λxv s8=>?_));rintro⟨y,H8,I8,r8,q8⟩;have pD:=I8.pin (D,yf us k) (Ş _ (Ş _ (Ř.mpr O)));refine Ä (append_at (hsz:=by rw[ċ,<-rv.length];exact Zbe hsz) pD.1 λh9 US UT=>Ú ?_);refine hc _ _ _ _ ⟨I8.unpinned.turned (t':=s8.toks) (λb o hb e=>US.extBut b o hb e) pD.2.1 a1 (.inr a3) a4 λp hp=>?_,pD.2.1,np,us++[xv],k+1,?_,rv.append (.cons r8 .nil)⟩ q8;.exact(ė.mp hp).elim (a5 p) (np p)
 .show h9.get? D=_;rw[UT,List.push_toArray]
def Kr(J:It)(g:TG)(tt:TT)(tm:TM)(Fin:List V->St->Hp->Prop)(UU:List V)(eJ:St)(H0:Hp):Prop:=∃W:Nat->Nat->List V->St->Hp->Prop,(∃m,W 0 m UU eJ H0)/\∀i m ys σ H,W i m ys σ H->ys.length<sizeLine/\((J.stop i H/\Fin ys σ H)\/(J.go i H/\∀x H',J.yld i H x H'->g x σ H' λbo H2=>tt bo H2 λb H3=>if b=true then tm ys bo H3 λiN av H4=>∃m',m'<m/\W (i+1) m' iN av H4 else∃m',m'<m/\W (i+1) m' ys bo H3))
def zT(tg:Expr)(ifs:Qa6)(p:Pos)(it:Value)(env:Env)(M:Sem Fin->Sem Fin)(c:Sem Fin):Sem Fin:=do standAt p match<-pyNext it with
 |none=>pure (.done .next)|some v=>
  letOwnedTupleGo tg it v
  assign tg env v let ok<-forIn ifs true λc r=>if r=true then do let ok<-isTrue c env (eval c env);pure (ForInStep.yield ok)else pure (ForInStep.yield r)if ok=true then M c else c
theorem Ks(hc:X.calm=true)(hx:X.xe=λ_ _=>False)(ap:π X D)(ht:compTurn (.ListComp elt gens scope pos) d (.ref it) (.ref D) X.env=zT tg ifs p (.ref it) X.env M (again (.compLoop (.ListComp elt gens scope pos) d (.ref it) (.ref D) X.env)))(hg:PG X tg g)(mT:PTs X ifs tt)(hm:PM X D M tm)(F:Fil X Á D σ H s ys)(T:Ĺ X.prog X.w X.K tg J fp it tn)(st:tn 0 s.heap)(hf:∀b∈fp,jJ X Á H b/\b≠D)(hW:Kr J g tt tm Q ys σ H)(hR:∀s' iN av H',Fil X Á D av H' s' iN->iN.length<sizeLine->Q iN av H'->R (.ok .next) s'):codeAny (model X.prog X.w) X.A (.compLoop (.ListComp elt gens scope pos) d (.ref it) (.ref D) X.env) R s:=by
 obtain⟨W,⟨m0,w0⟩,step⟩:=hW;refine codeAny_loop O (λn s'=>∃i ys av H',Fil X Á D av H' s' ys/\tn i s'.heap/\(∀b∈fp,H' b=none)/\W i n ys av H') (λn s3 hI=>?_) m0 ⟨0,ys,σ,H,F,st,λb hb=>(hf b hb).1.1,w0⟩;obtain⟨i,ys,ku,H3,⟨I3,jI,np,us,k,UW,zo⟩,kz,DM,w3⟩:=hI;show wpAny _ _ ((compTurn (.ListComp elt gens scope pos) d (.ref it) (.ref D) X.env).onRaise (λx=>do noteFrame x X.env;theTreesLotGoes x)) _ _ s3;refine wpAny_noted ?_;rw[ht];obtain⟨a1,a2,a3,a4,a5⟩:=ap;obtain⟨hsz,zt⟩:=step i n ys ku H3 w3;have Pf:Ç X (Á++[(D,yf us k)]) ku H3 s3:=I3.pins_of λp hp=>(ė.mp hp).elim (λz=>I3.pin p (Ş _ z)) λz=>by rw[Ř.mp z];exact⟨UW,jI,a1,a2,λv z=>by cases z⟩
 have zw:∀{H':Hp},(∀b∈fp,H' b=none)->∀b∈fp,jJ X (Á++[(D,yf us k)]) H' b:=λ{H'}hn b hb=>by
  obtain⟨⟨_,f1,f2,f3,f4,f5⟩,f6⟩:=hf b hb;refine⟨hn b hb,f1,f2,f3,f4,λq hq=>?_⟩;rw[<-ő]at hq;rcases ė.mp hq with z|z;.exact f5 q z
  .rw[Ř.mp z];exact f6.symm
 refine Ä (wpAny_standAt (Ä ?_));rcases zt with⟨stop,fin⟩|⟨go,turn⟩;.refine thx (T.done X O O O hc i _ s3 ku H3 (λ_ _=>False) Pf (zw DM) kz stop) λr s4=>?_;rintro⟨hr,I4⟩;subst hr;have pD:=I4.pin (D,yf us k) (Ş _ (Ş _ (Ř.mpr O)));exact Ú (hR s4 ys ku H3 ⟨I4.unpinned,jI,np,us,k,pD.1,zo⟩ hsz fin)
 .refine thx (T.item X O O O hc i _ s3 ku H3 (λ_ _=>False) Pf (zw DM) kz go) λr s4=>?_;rintro⟨u,hr,h4⟩;subst hr;refine Ä (thx h4 λ_ s5=>?_);rintro⟨x,H5,I5,r5,y5,yY,KO⟩;have KP:=I5.pinned (zw KO) (T.obj _ _ yY);have Pl:=hg _ s5 ku H5 x u _ KP r5 (turn x H5 y5);rw[hx]at Pl;refine Ä (thx Pl λ_ s6=>?_);rintro⟨BG,H6,I6,q6⟩;have hG:=mT _ s6 BG H6 _ I6 q6;rw[hx]at hG;refine Ä (thx hG λokb s7=>?_);rintro⟨H7,I7,q7⟩;have pD:=I7.pin (D,yf us k) (Ş _ (Za3 _ (Ş _ (Ř.mpr O))));have Pm:Ç X (Á++dX fp s5.heap) BG H7 s7:=I7.pins_of λq hq=>(ė.mp hq).elim (λz=>I7.pin q (Ş _ (Za3 _ (Za3 _ z)))) λz=>I7.pin q (Ş _ (Ş _ z));have Po:∀q∈Á++dX fp s5.heap,q.1≠D:=λq hq=>(ė.mp hq).elim (np q) λz=>(hf _ (mZ z).1).2;have back:∀{H8:Hp}{s8:Shared}{D0:St}{D1:List V},Fil X (Á++dX fp s5.heap) D D0 H8 s8 D1->Fil X Á D D0 H8 s8 D1/\tn (i+1) s8.heap/\∀b∈fp,H8 b=none:=λ{H8 s8 D0 D1}F8=>by obtain⟨I8,n8,_,o8⟩:=F8;have pf:∀b∈fp,∀o,s5.heap.get? b=some o->s8.heap.get? b=some o:=λb hb o e=>(I8.pin (b,o) (Ş _ (Ş _ (iV hb e)))).1;refine⟨⟨I8.unpinned,n8,np,o8⟩,T.keep _ _ _ yY pf,λb hb=>?_⟩;obtain⟨o,e,_⟩:=T.obj _ _ yY b hb;exact(I8.pin (b,o) (Ş _ (Ş _ (iV hb e)))).2.1
  cases okb with|false=>obtain⟨m',BM,w7⟩:=q7;obtain⟨b1,b2,b3⟩:=back ⟨Pm,pD.2.1,Po,us,k,pD.1,zo⟩;exact Ú ⟨O,m',BM,i+1,ys,BG,H7,b1,b2,b3,w7⟩;|true=>refine hm _ s7 BG H7 _ ys ⟨Pm,pD.2.1,Po,us,k,pD.1,zo⟩ hsz q7 _ _ _ λs8 D1 D0 H8 F8 q8=>?_;obtain⟨m',BM,w8⟩:=q8;obtain⟨b1,b2,b3⟩:=back F8;exact Ú ⟨O,m',BM,i+1,D1,D0,H8,b1,b2,b3,w8⟩
theorem vN(hd:gens[d]?=some c)(ha:c.is_async=0)(h0:codeAny (model prog w) A (.compLoop (.ListComp elt gens scope pos) d it acc env) R s)(h:wpAny (model prog w) A (pyIter it) (λPp s'=>codeAny (model prog w) A (.compLoop (.ListComp elt gens scope pos) d Pp acc env) R s') (λ_ _=>False) s):codeAny (model prog w) A (.compStart (.ListComp elt gens scope pos) d it acc env) R s:=by
 refine codeAny_of_tree ?_;show wpAny _ _ ((compStart (.ListComp elt gens scope pos) d it acc env).onRaise (λx=>do noteFrame x env;standAt theWindowsPlace)) _ _ s;refine wpAny_notedAt ?_;have e:(clausesOf (.ListComp elt gens scope pos))[d]?=some c:=hd;unfold compStart;rw[e];have e2:(Option.elim (some c) false λx=>x.is_async !=0)=false:=by show(c.is_async !=0)=false;rw[ha];rfl
 rw[e2];show wpAny _ _ (ask>>=_) _ _ s;refine Ä (wpAny_askSetting (wpAny_ite ?_));split;.exact Ú (And.intro O h0)
 .refine Ä (wpAny_rule (Ä (wpAny_standAt (Ä (thx h λPp s' h'=>Ú (And.intro O h'))))))
section
theorem sW(hg:gens[d]?=some ⟨tg,iter,ifs,0⟩)(hn:gens[d+1]?=none):compTurn (.ListComp elt gens scope pos) d it (.ref D) env=zT tg ifs iter.pos it env (J7 elt D env) (again (.compLoop (.ListComp elt gens scope pos) d it (.ref D) env)):=by unfold compTurn zT J7;simp only[hg,hn];rfl
end
theorem yg{M:Addr->Env->Sem Fin->Sem Fin}(hc:X.calm=true)(S:ď X scope)(hd:gens[0]?=some ⟨tg,iter,ifs,0⟩)(D4:∀it D env,compTurn (.ListComp elt gens scope pos) 0 (.ref it) (.ref D) env=zT tg ifs p (.ref it) env (M D env) (again (.compLoop (.ListComp elt gens scope pos) 0 (.ref it) (.ref D) env)))(bE:∀C,ĕ X (compEnvC scope (cG X.env.cells scope.names []) C X.env) Nc src)(hb:∀C fp Á s₂ Ï,PG (χ X scope Nc C fp Á s₂ Ï) tg g/\PTs (χ X scope Nc C fp Á s₂ Ï) ifs tt/\∀D,π (χ X scope Nc C fp Á s₂ Ï) D->PM (χ X scope Nc C fp Á s₂ Ï) D (M D (χ X scope Nc C fp Á s₂ Ï).env) tm){σ:St}{fp:Ĉ}{tn:Nat->Heap->Prop}{J:It}(ah:Ç X Á σ Ï s₂)(T:Ĺ X.prog X.w X.K tg J fp it tn)(st:tn 0 s₂.heap)(hf:∀b∈fp,jJ X Á Ï b){Fin:List V->Hp->Prop}(hW:Kr J g tt tm (λys _ H=>Fin ys H) [] (ē σ src) Ï){RR:Value->Addr->Result->Shared->Prop}{E:gV}(D5:∀D C s' ys H' m,Fin ys H'->H' D=none->Ç X Á σ (upd H' D (.lst ys)) s'->s'.heap.Ns C m->jJ X Á (upd H' D (.lst ys)) C->RR (.ref D) C (.ok .next) s'):wpAny (model X.prog X.w) X.A (newList []) (λacc s₃=>wpAny (model X.prog X.w) X.A (newFunctionEnv scope X.env.globals (cG X.env.cells scope.names []) [] X.env.qual none .none (some X.env)) (λiO iL=>codeAny (model X.prog X.w) X.A (.compStart (.ListComp elt gens scope pos) 0 (.ref it) acc {iO with scope:=relabel scope X.env}) (RR acc iO.locals) iL) E s₃) E s₂:=by
 refine Γ (wpAny_newFunctionEnv S.hcell (by intro y hy;simp at hy) (λde bq eB=>?_) S.kind);dsimp only at bq eB⊢;generalize zI:s₂.heap.push {cls:=.type "list",dict:=none,data:=.seq ([]:ā).toArray}=HH at bq eB⊢;generalize hJ:s₂.heap.objs.size=D at bq eB⊢;have hC:HH.objs.size=D+1:=by rw[<-zI,Heap.size_push,hJ]
 generalize UY:HH.objs.size=C at bq eB hC⊢;have BN:D≠C:=Â;have below:∀b,b<s₂.heap.objs.size->b≠C/\b≠D:=λb hb=>by rw[hJ]at hb;exact⟨by rw[hC];exact Ħ (Zbh hb),Ħ hb⟩
 have aE:∀{b o},s₂.heap.get? b=some o->b≠C/\b≠D:=λ{b o}e=>below b (ü e);have old:∀b o,s₂.heap.get? b=some o->de.get? b=some o:=λb o e=>eB.extBut b o (aE e).1 (þ _ (zI▸þ _ e));have zS:de.get? D=some {cls:=.type "list",data:=.seq ([]:ā).toArray}:=eB.extBut _ _ BN (þ _ (zI▸hJ▸Ĩ _ O));have GY:∀b∈fp,∃o,s₂.heap.get? b=some o:=λb hb=>by obtain⟨o,e,_⟩:=T.obj _ _ st b hb;exact⟨o,e⟩
 have rL:∀b∈fp,b≠C/\b≠D:=λb hb=>by obtain⟨o,e⟩:=GY b hb;exact aE e
 have sub:∀{x c},(cG X.env.cells scope.names []).lookup x=some c->X.env.cells.lookup x=some c:=λ{x c}e=>by
  rcases iH scope.names [] S.hfree e with z|z;.simp at z
  .exact z
 have D6:∀{b o},s₂.heap.get? b=some o->b<D:=λ{b o}e=>by rw[<-hJ];exact ü e
 have fresh:∀a,D<=a->Ï a=none:=λa ha=>ah.hok.fresh (by rw[hJ];exact ha);have fR:∀{x c},X.env.cells.lookup x=some c->∃o,s₂.heap.get? c=some o:=λ{x c}e=>by obtain⟨v,o,ho,_⟩:=ah.cell x c e;exact⟨o,ho⟩
 have Ap:∀b∈Ď X.stack,∃o,s₂.heap.get? b=some o:=λb hb=>by
  rcases ĩ.mp (ah.stkSub b hb)with e|hb;.rw[e];obtain⟨m,⟨o,_,_,ho,_⟩,_⟩:=ah.loc;exact⟨o,ho⟩
  .obtain⟨_,o,ho,_⟩:=ah.funs.mem hb;exact⟨o,ho⟩
 have As:∀a,D<=a->a∉Ď X.stack:=λa ha hb=>by obtain⟨o,e⟩:=Ap a hb;exact absurd (ļ (D6 e) ha) (ź _)
 have D7:∀b∈fp,b∉Ď X.stack:=λb hb z=>by
  obtain⟨_,f1,f2,_⟩:=hf b hb;rcases ĩ.mp (ah.stkSub b z)with e|e;.exact f1 e
  .exact f2 e
 generalize cw:χ X scope Nc C fp Á s₂ Ï=X';obtain⟨hg,ht,hm⟩:=hb C fp Á s₂ Ï;rw[cw]at hg ht hm;have rS:X'.Ok:=by
  subst cw;refine⟨ah.ok.mod,S.kind,ah.ok.glob,ah.ok.blt,?_,?_,?_,?_,ah.ok.hd,ah.ok.frames,.inl O,?_,ah.bs,Ņ ah.ok.bsz ah.sz,?_,D7,ah.stack,ah.stkFree⟩;.show s₂.heap.objs.size<=C;lia
  .exact λx y c e1 e2=>ah.ok.inj x y c (sub e1) (sub e2)
  .intro x hx;have hx:(relabel scope X.env).names.lookup x=some .cell\/(relabel scope X.env).names.lookup x=some .free:=hx;have:∃k',(x,k')∈scope.names/\k'=NameKind.free:=by
    rcases hx with z|z;.exact o9 S.hcell z (.inl O)
    .exact o9 S.hcell z (.inr O)
   exact ji scope.names [] (.inl this)
  .intro x c z;exact absurd z (by show¬(false=true);simp)
  .intro b hb;exact⟨(rL b hb).1,λx c e=>(hf b hb).2.2.2.2.1 x c (sub e)⟩
  .intro b o e hb;obtain⟨_,_,_,f3,_⟩:=hf b hb;rcases f3 with z|z;.exact ah.ok.noex b o e z
   .exact absurd (ļ (ü (ah.ok.bs b o e).1) z) (ź _)
 have eP:X'.prog=X.prog:=by subst cw;rfl
 have ew:X'.w=X.w:=by subst cw;rfl
 have eK:X'.K=X.K:=by subst cw;rfl
 have eA:X'.A=X.A:=by subst cw;rfl
 have eE:X'.xe=λ_ _=>False:=by subst cw;rfl
 have eL:X'.env.locals=C:=by subst cw;rfl
 have eN:X'.env=compEnvC scope (cG X.env.cells scope.names []) C X.env:=by subst cw;rfl
 have ec:X'.calm=true:=by subst cw;exact hc
 have eS:X'.s₀=s₂:=by subst cw;rfl
 have eH:X'.H₀=Ï:=by subst cw;rfl
 have ef:X'.fs=Ď X.stack:=by subst cw;rfl
 have ex:X'.ex=fp:=by subst cw;rfl
 have ep:X'.pn=X.pn++Á:=by subst cw;rfl
 have I0:Ç X' [] (ē σ src) Ï {s₂ with heap:=de,toks:=s₂.toks+([]:List (Str×Value)).length}:=by
  refine⟨rS,by rw[eS],ah.bare,by rw[eS,eH];exact Un.kept old,⟨_,by rw[eL];exact bq,?_⟩,?_,by rw[eL];exact fresh _ Â,?_,?_,by rw[eP,ew];exact ah.hok.kept old,?_⟩
  .intro j x v e1 e2 e3;have e1:Nc[j]?=some x:=by subst cw;exact e1
   have e4:∃i,src[j]?=some (some i)/\(σ[i]?).join=some v:=by unfold ē at e2;rw[Ą]at e2;cases q:src[j]? with|none=>rw[q]at e2;cases e2;|some o=>rw[q]at e2;cases o with|none=>simp at e2;|some i=>exact⟨i,O,by simpa using e2⟩
   obtain⟨i,e5,e6⟩:=e4;obtain⟨c1,c2,c3,c4⟩:=(bE C).get e1 e5;have e7:σ[i]?=some (some v):=by cases q:σ[i]? with|none=>rw[q]at e6;simp at e6;|some o=>rw[q]at e6;simp at e6;rw[e6]
   obtain⟨m,_,hl⟩:=ah.loc;obtain⟨u,r,l⟩:=hl i x v c1 e7 (.inr (by rcases c2 with z|z;exact .inl z;exact .inr z));refine⟨u,r,?_⟩;rcases l with⟨k,_⟩|⟨_,c,e,z⟩;.rcases c2 with c2|c2<;>(rw[k]at c2;cases c2)
   .refine .inr ⟨by rw[eN];exact c4,c,by rw[eN];exact c3.trans e,?_⟩;obtain⟨o,ho,hd⟩:=z;exact⟨o,old c o ho,hd⟩
  .intro x c e;rw[eN]at e;obtain⟨v,o,ho,hd⟩:=ah.cell x c (sub e);exact⟨v,o,old c o ho,hd⟩
  .intro x c e;rw[eN]at e;exact ah.freeC x c (sub e)
  .intro p hp;rw[ep,ş]at hp;obtain⟨e,n,ne,nf,d⟩:=ah.pin p hp;refine⟨old _ _ e,n,by rw[eL];exact(aE e).1,?_,d⟩;rw[ef];intro z;rcases ĩ.mp (ah.stkSub _ z)with q|q;.exact ne q
   .exact nf q
  .have:=(bE C).len;subst cw;show(ē σ src).length=Nc.length;unfold ē;rw[Õ,this]
 have LB:∀p∈X'.pn,p.1≠D:=λp hp=>by rw[ep]at hp;exact(aE (ah.pin p hp).1).2
 have nh:∀x c,X'.env.cells.lookup x=some c->c≠D:=λx c e=>by rw[eN]at e;obtain⟨o,ho⟩:=fR (sub e);exact(aE ho).2
 have zw:∀{P:Ň}{H:Hp},(∀p∈P,p.1=D)->(∀b∈fp,H b=none)->∀b∈fp,jJ X' P H b:=λ{P H}hP hn b hb=>by
  refine⟨hn b hb,by rw[eL];exact(rL b hb).1,by rw[ef];exact D7 b hb,.inl (by rw[ex];exact hb),λx c e=>?_,λp hp=>?_⟩;.rw[eN]at e;exact(hf b hb).2.2.2.2.1 x c (sub e)
  .rcases ė.mp hp with z|z;.rw[ep]at z;exact(hf b hb).2.2.2.2.2 p z
   .rw[hP p z];exact(rL b hb).2.symm
 have ap:π X' D:=⟨by rw[eL];exact BN,by rw[ef];exact As _ (Ü _),by rw[eS,hJ];exact Ü _,nh,LB⟩;have T':Ĺ X'.prog X'.w X'.K tg J fp it tn:=by rw[eP,ew,eK];exact T
 have loop:∀s₃:Shared,s₃={s₂ with heap:=de,toks:=s₂.toks+([]:List (Str×Value)).length}->codeAny (model X.prog X.w) X.A (.compLoop (.ListComp elt gens scope pos) 0 (.ref it) (.ref D) (compEnvC scope (cG X.env.cells scope.names []) C X.env)) (RR (.ref D) C) s₃:=by
  rintro s₃ rfl;have L:=Ks (X:=X') (R:=RR (.ref D) C) ec eE ap (D4 it D X'.env) hg ht (hm D ap) ⟨I0,fresh _ (Ü _),λp hp=>absurd hp Ö,[],_,zS,.nil⟩ T' (T.keep _ _ _ st λb _ o e=>old b o e) (λb hb=>⟨zw (λp hp=>absurd hp Ö) (λb hb=>(hf b hb).1) b hb,(rL b hb).2⟩) hW ?_;.rw[eP,ew,eA,eN]at L;exact L
  rintro s4 ys ku H3⟨I4,jI,_,us,k,oD,zo⟩hsz fin;obtain⟨mC,D8,_⟩:=I4.loc;rw[eL]at D8;have iP:=I4.base;rw[eS,eH,ef,ex]at iP;have hlen:ys.length<=sizeLine:=Zbe hsz;have Au:Ă X.prog X.w (upd H3 D (.lst ys)) s4.heap:=λb u e=>by
   by_cases hb:b=D;.subst hb;rw[aj]at e;cases e;exact⟨hlen,us,k,zo,oD⟩
   .rw[au hb]at e;have z:=I4.hok b u e;rw[eP,ew]at z;exact z.stay (λc v _ q=>q) (λc q=>by rw[au (aA q jI)];exact q) λc xs q=>by rw[au (aA q jI)];exact q
  have un:Un (Ď X.stack) fp Ï (upd H3 D (.lst ys)) s₂.heap s4.heap:=⟨iP.keep,iP.slot,λb o e n hx=>by rw[au (aE e).2];exact iP.free b o e n hx,iP.there,λb xs e=>by have z:=iP.tups b xs e;rw[au (aA z jI)];exact z,λb o u e=>by have z:=iP.frzs b o u e;rw[au (aA z jI)];exact z,λb ps e=>by obtain⟨mo,z⟩:=iP.tbls b ps e;exact⟨mo,by rw[au (aA z jI)];exact z⟩⟩;have J4:Ç X Á σ (upd H3 D (.lst ys)) s4:=ah.call' (ch:=fp) (by have:=I4.os;rw[eS]at this;exact this) un Au I4.bare λb hb=>by obtain⟨_,f1,f2,f3,f4,f5⟩:=hf b hb;exact⟨f3,f1,f4,f5⟩
  refine D5 D C s4 ys H3 mC fin jI J4 D8 ⟨?_,?_,?_,.inr ?_,?_,?_⟩;.rw[au BN.symm];have:=I4.free;rw[eL]at this;exact this
  .have:=ah.lt;rw[hJ]at this;exact ϗ (ļ this (by rw[hC];exact Ŧ _))
  .intro z;obtain⟨_,o,ho,_⟩:=ah.funs.mem z;exact(aE ho).1 O
  .have:=ah.sz;rw[hJ]at this;lia
  .intro x c e z;obtain⟨o,ho⟩:=fR e;exact(aE ho).1 z
  .intro p hp z;exact(aE (ah.pin p hp).1).1 z
 exact vN hd O (loop _ O) (T.self _ 0 _ _ _ (T.keep _ _ _ st λb _ o e=>old b o e) (loop _ O))
theorem sX(hc:X.calm=true)(S:ď X scope)(bE:∀C,ĕ X (compEnvC scope (cG X.env.cells scope.names []) C X.env) Nc src)(hb:∀C fp Á s₂ Ï,PG (χ X scope Nc C fp Á s₂ Ï) tg g/\PTs (χ X scope Nc C fp Á s₂ Ï) ifs tt/\PE (χ X scope Nc C fp Á s₂ Ï) elt te){σ:St}(ah:Ç X Á σ Ï s₂)(T:Ĺ X.prog X.w X.K tg J fp it tn)(st:tn 0 s₂.heap)(hf:∀b∈fp,jJ X Á Ï b){Fin:List V->Hp->Prop}(hW:lB J g tt te Fin (ē σ src) Ï){RR:Value->Addr->Result->Shared->Prop}{E:gV}(D5:∀D C s' ys H' m,Fin ys H'->H' D=none->Ç X Á σ (upd H' D (.lst ys)) s'->s'.heap.Ns C m->jJ X Á (upd H' D (.lst ys)) C->RR (.ref D) C (.ok .next) s'):wpAny (model X.prog X.w) X.A (newList []) (λacc s₃=>wpAny (model X.prog X.w) X.A (newFunctionEnv scope X.env.globals (cG X.env.cells scope.names []) [] X.env.qual none .none (some X.env)) (λiO iL=>codeAny (model X.prog X.w) X.A (.compStart (.ListComp elt [⟨tg,iter,ifs,0⟩] scope pos) 0 (.ref it) acc {iO with scope:=relabel scope X.env}) (RR acc iO.locals) iL) E s₃) E s₂:=by exact yg (gens:=[⟨tg,iter,ifs,0⟩]) (p:=iter.pos) (M:=λD env=>J7 elt D env) (tm:=tmE te) hc S O (λit D env=>sW O O) bE (λC fp Á s₂ Ï=>⟨(hb C fp Á s₂ Ï).1,(hb C fp Á s₂ Ï).2.1,λD ap=>Ez ap O (hb C fp Á s₂ Ï).2.2⟩) ah T st hf hW D5
def zU(wi:TI)(src:List (Option Nat))(g:TG)(tt:TT)(te:TE):TE:=λσ H Q=>wi σ H λJ H1=>lB J g tt te (λys H'=>∀D,H' D=none->Q (.ref D) (upd H' D (.lst ys))) (ē σ src) H1
section
theorem bz(Nc:ð)(src:List (Option Nat))(hc:X.calm=true)(hi:PI X tg iter wi)(hb:∀C fp Á s₂ Ï,PG (χ X scope Nc C fp Á s₂ Ï) tg g/\PTs (χ X scope Nc C fp Á s₂ Ï) ifs tt/\PE (χ X scope Nc C fp Á s₂ Ï) elt te)(bE:∀C,ĕ X (compEnvC scope (cG X.env.cells scope.names []) C X.env) Nc src)(S:ď X scope)(hs:∀x,foldedSetIterable iter X.env x=pure x:=by intro _;rfl):PE X (.ListComp elt [⟨tg,iter,ifs,0⟩] scope pos) (zU wi src g tt te):=by intro Á s σ H Q I h;rw[eval_ListComp];refine wpAny_comprehension_free (use:=none) O hs (lA S.hfree) S.kind S.hnames ?_;refine Ý (hi Á s σ H _ I h) λv s1 h1=>Ý h1 λDL s2 h2=>?_;obtain⟨it,fp,tn,J,H2,e,I2,T,st2,f2,hW⟩:=h2;subst e;refine sX (RR:=λacc C=>compPost (model X.prog X.w) X.A X.xe none (EP X Á σ Q) acc C) hc S bE hb I2 T st2 f2 hW ?_;intro D C s' ys H' m fin nD J' hn fC;obtain⟨f0,f1,_,f3,f4,f5⟩:=fC;refine⟨m,hn,λPw nr=>?_⟩;exact⟨.ref D,_,J'.turned (t':=s'.toks) (λb o hb e=>nr.extBut b o hb e) f0 f1 f3 f4 f5,O,fin D nD⟩
def Lz(wi:TI)(src:List (Option Nat))(g:TG)(tt:TT)(te:TE)(i:Nat):TS:=λD σ H=>zU wi src g tt te σ H λv H'=>D.nx (σ.set i (some v)) H'
theorem iW{pos' D9:Pos}(Nc:ð)(src:List (Option Nat))(hc:X.calm=true)(hN:X.N.Nodup)(vj:X.N[i]?=some x)(hx:Loc X.env.scope x)(hi:PI X tg iter wi)(hb:∀C fp Á s₂ Ï,PG (χ X scope Nc C fp Á s₂ Ï) tg g/\PTs (χ X scope Nc C fp Á s₂ Ï) ifs tt/\PE (χ X scope Nc C fp Á s₂ Ï) elt te)(bE:∀C,ĕ X (compEnvC scope (cG X.env.cells scope.names []) C X.env) Nc src)(S:ď X scope)(UZ:swapsWith (.ListComp elt [⟨tg,iter,ifs,0⟩] scope pos) (some (.Name x pos')) D9.line X.env=pure true:=by rfl)(hf:X.fn x=true\/X.env.scope.names.lookup x=some .local:=by first|exact .inl O|exact .inr O|assumption)(hs:∀x,foldedSetIterable iter X.env x=pure x:=by intro _;rfl):PS X (.Assign [.Name x pos'] (.ListComp elt [⟨tg,iter,ifs,0⟩] scope pos) D9) (Lz wi src g tt te i):=by
 intro Á s σ H D I h;rw[exec_Assign_Name_used _ _ _ _ UZ];refine Ä (wpAny_standAt (Ä ?_));show wpAny _ _ (do let _<-comprehension (.ListComp elt [⟨tg,iter,ifs,0⟩] scope pos) scope X.env _ (newList []) false (eval iter X.env) (some (assign (.Name x pos') X.env))) _ _ s;refine Ä (Ý (wpAny_comprehension_free (use:=some (assign (.Name x pos') X.env)) (Q:=λ_ s'=>∃av H',Ç X Á av H' s'/\D.nx av H') O hs (lA S.hfree) S.kind S.hnames ?_) λ_ s' hq=>Ú (Ú hq));refine Ý (hi Á s σ H _ I h) λv s1 h1=>Ý h1 λDL s2 h2=>?_;obtain⟨it,fp,tn,J,H2,e,I2,T,st2,f2,hW⟩:=h2;subst e;refine sX (RR:=λacc C=>compPost (model X.prog X.w) X.A X.xe (some (assign (.Name x pos') X.env)) (λ_ s'=>∃av H',Ç X Á av H' s'/\D.nx av H') acc C) hc S bE hb I2 T st2 f2 hW ?_;intro A C s' ys H' m fin nD J' hn fC;obtain⟨f0,f1,f2',f3,f4,f5⟩:=fC;refine wpAny_assign_Name (jA J' hN vj hx (v:=.ref A) O (λl8 U0 U1=>?_) hf);have AB:∃m',l8.heap.Ns C m':=by
  obtain⟨a,sb,ha⟩:=U1;have jS:C≠a:=by
   rcases ha with z|z;.rw[z];exact f1
   .exact λq=>f4 x a z q.symm
  exact⟨m,hn.sameBut sb jS⟩
 obtain⟨m',AB⟩:=AB;refine⟨m',AB,λPw nr=>?_⟩;exact⟨_,_,U0.turned (t':=l8.toks) (λb o hb e=>nr.extBut b o hb e) f0 f1 f3 f4 f5,fin A nD⟩
end
section
theorem dM:dY X (.builtin "isinstance") (λxs H Q=>∃x t n b,xs=[x,.ty n]/\ĸ X.K H x t/\PySem.W.kitOne X.K t (.type n)=some b/\Q (.bl b) H):=by intro Á s σ H xs us Q I r h;obtain⟨x,t,n,b,rfl,ty,e,q⟩:=h;obtain⟨u,c,rfl,ru,rc⟩:=Ť r;obtain rfl:c=Value.type n:=rc;exact Cu I ru ty e λtk=>⟨.bl b,H,I.tok _,O,q⟩
theorem vO(bs:List Bool):TruthOf prog w A (λi v=>∃b,bs[i]?=some b/\v=Value.bool b) (λi=>(bs[i]?).getD false):=by intro i v s Q E hP hQ;obtain⟨b,hb,rfl⟩:=hP;dsimp only at hQ;rw[hb]at hQ;exact wpAny_truthy_bool hQ
theorem ϴ(bs:List Bool):(List.range bs.length).all (λi=>(bs[i]?).getD false)=bs.all id:=by
 apply Zba.mpr;rw[ņ,ņ];constructor;.intro h b hb;obtain⟨i,hi,e⟩:=Za5 hb;have:=h i (Ϙ.mpr hi);rw[á hi,e]at this;exact this
 .intro h i hi;have hi:=Ϙ.mp hi;rw[á hi];exact h _ (Ė hi)
theorem iY:∀{bs:List Bool}{us:ā},Í (bs.map V.bl) us->us=bs.map Value.bool|[],_,.nil=>rfl|_::bs,_,.cons r t=>by rw[iY (bs:=bs) t,show _=Value.bool _ from r];rfl
theorem fG(hc:X.calm=true):dY X (.builtin "all") (λxs H Q=>∃(p:Addr)(bs:List Bool),xs=[.ref p]/\É X.K H p (bs.map V.bl)/\Q (.bl (bs.all id)) H):=by
 intro Á s σ H xs us Q I r h;obtain⟨p,bs,rfl,hq,q⟩:=h;obtain⟨u,rfl,ru⟩:=ÿ r;cases ru;obtain⟨Æ,rv,pl,hz⟩:=I.list hq;have ei:=iY rv;subst ei;have aI:p<s.heap.objs.size:=by obtain⟨_,e,_⟩:=pl.isList;exact ü e
 refine call_all_walk (wpAny_pyIter_list pl.isList ?_);have W:=Walks.list (prog:=X.prog) (w:=X.w) (A:=X.A.in1) (I.ok.hd hc) s.heap.objs.size p (Ħ aI) (bs.map Value.bool).toArray;refine⟨_,_,_,_,_,_,_,O,{sub:=W.sub,frame:=W.frame,item:=λi s Q E hi st hQ=>W.item i s Q E hi st λv h' tk hP=>hQ v h' tk ?_,done:=W.done,self:=W.self},⟨⟨_,Ĩ _ O,O,O⟩,pl.isList.push _⟩,vO bs,λh' tk k=>?_⟩;.have Ee:(bs.map Value.bool).toArray[i]?=some v:=hP;rw[List.getElem?_toArray,Ą]at Ee;cases e:bs[i]? with|none=>rw[e]at Ee;cases Ee;|some b=>rw[e]at Ee;exact⟨b,O,(œ Ee).symm⟩
 .have hsz:(bs.map Value.bool).toArray.size=bs.length:=by simp
  rw[hsz,ϴ];refine⟨.bl _,H,?_,O,q⟩;refine I.kept (h':=h') (t':=tk) λb o e=>k b o ?_ (þ _ e);intro z;have:b=s.heap.objs.size:=by simpa using z
  exact absurd (ü e) (by rw[this];exact ź _)
end
theorem nA{K:Frag}:PySem.W.kitOne K (.type "NoneType") (.type "int")=some false:=by kernel_rfl
theorem lD{K:Frag}:PySem.W.kitOne K (.type "NoneType") (.type "bool")=some false:=by kernel_rfl
theorem jR{K:Frag}:PySem.W.kitOne K (.type "NoneType") (.type "tuple")=some false:=by kernel_rfl
theorem uv{K:Frag}:PySem.W.kitOne K (.type "bool") (.type "int")=some true:=by kernel_rfl
theorem rB{K:Frag}:PySem.W.kitOne K (.type "bool") (.type "bool")=some true:=by kernel_rfl
theorem qb{K:Frag}:PySem.W.kitOne K (.type "bool") (.type "tuple")=some false:=by kernel_rfl
theorem vP{K:Frag}:PySem.W.kitOne K (.type "int") (.type "int")=some true:=by kernel_rfl
theorem uw{K:Frag}:PySem.W.kitOne K (.type "int") (.type "bool")=some false:=by kernel_rfl
theorem rD{K:Frag}:PySem.W.kitOne K (.type "int") (.type "tuple")=some false:=by kernel_rfl
theorem vQ{K:Frag}:PySem.W.kitOne K (.type "str") (.type "int")=some false:=by kernel_rfl
theorem uA{K:Frag}:PySem.W.kitOne K (.type "str") (.type "bool")=some false:=by kernel_rfl
theorem rE{K:Frag}:PySem.W.kitOne K (.type "str") (.type "tuple")=some false:=by kernel_rfl
theorem uB{K:Frag}:PySem.W.kitOne K (.type "list") (.type "int")=some false:=by kernel_rfl
theorem rF{K:Frag}:PySem.W.kitOne K (.type "list") (.type "bool")=some false:=by kernel_rfl
theorem qd{K:Frag}:PySem.W.kitOne K (.type "list") (.type "tuple")=some false:=by kernel_rfl
theorem rG{K:Frag}:PySem.W.kitOne K (.type "tuple") (.type "int")=some false:=by kernel_rfl
theorem qe{K:Frag}:PySem.W.kitOne K (.type "tuple") (.type "bool")=some false:=by kernel_rfl
theorem oK{K:Frag}:PySem.W.kitOne K (.type "tuple") (.type "tuple")=some true:=by kernel_rfl
theorem uC{K:Frag}:PySem.W.kitOne K (.type "dict") (.type "int")=some false:=by kernel_rfl
theorem rH{K:Frag}:PySem.W.kitOne K (.type "dict") (.type "bool")=some false:=by kernel_rfl
theorem qg{K:Frag}:PySem.W.kitOne K (.type "dict") (.type "tuple")=some false:=by kernel_rfl
section
variable{κ:Type}[DecidableEq κ]
def cQ(kvs:List (κ×V))(k:κ):Option V:=(kvs.find? λkv=>decide (kv.1=k)).map (·.2)
def ý(kvs:List (κ×V))(k:κ)(v:V):List (κ×V):=if(kvs.any λkv=>decide (kv.1=k))=true then kvs.map (λkv=>if kv.1=k then(kv.1,v)else kv)else kvs++[(k,v)]
theorem dz{k:κ}(e:p.1=k):cQ (p::r) k=some p.2:=by simp[cQ,e]
theorem dB{k:κ}(e:¬p.1=k):cQ (p::r) k=cQ r k:=by simp[cQ,e]
theorem gh(k:κ):∀kvs,(kvs.any λkv=>decide (kv.1=k))=(cQ kvs k).isSome
 |[]=>rfl|p::r=>by
  rw[List.any_cons];by_cases e:p.1=k;.simp only[dz e,decide_eq_true e,Bool.true_or,Option.isSome_some]
  .rw[dB e,ħ e];exact gh k r
theorem vR(k j:κ)(y:V):∀kvs,cQ (kvs.map λkv=>if kv.1=k then(kv.1,y)else kv) j=(cQ kvs j).map λx=>if j=k then y else x
 |[]=>rfl|p::r=>by
  have ih:=vR k j y r;rw[Ĵ];by_cases h:p.1=k
  .rw[Ì h];by_cases e:p.1=j;.rw[dz (p:=(p.1,y)) e,dz e,Option.map_some,Ì (e.symm.trans h)]
   .rw[dB (p:=(p.1,y)) e,dB e,ih]
  .rw[Ê h];by_cases e:p.1=j;.rw[dz (p:=p) e,dz e,Option.map_some,Ê (λz=>h (e.trans z))]
   .rw[dB (p:=p) e,dB e,ih]
theorem sY(k j:κ)(y:V):∀kvs,cQ kvs k=none->cQ (kvs++[(k,y)]) j=if j=k then some y else cQ kvs j
 |[],_=>by
  by_cases e:k=j;.rw[Ì e.symm];exact dz (p:=(k,y)) e
  .rw[Ê (λz=>e z.symm)];exact dB (p:=(k,y)) e;|p::r,hn=>by
  rw[List.cons_append];have hk:¬p.1=k:=λz=>by rw[dz z]at hn;cases hn
  rw[dB hk]at hn;have ih:=sY k j y r hn;by_cases e:p.1=j;.rw[dz e,dz e,Ê (λz=>hk (e.trans z))]
  .rw[dB e,dB e,ih]
theorem gj(kvs:List (κ×V))(k j:κ)(y:V):cQ (ý kvs k y) j=if j=k then some y else cQ kvs j:=by
 unfold ý;by_cases a:(kvs.any λkv=>decide (kv.1=k))=true
 .rw[Ì a,vR];rw[gh]at a;by_cases e:j=k;.obtain⟨x,hx⟩:=Za0.mp a;rw[Ì e,e,hx,Option.map_some,Ì O]
  .rw[Ê e];cases cQ kvs j with|none=>rfl;|some x=>rw[Option.map_some,Ê e]
 .rw[Ê a];refine sY k j y kvs ?_;rw[gh]at a;cases q:cQ kvs k with|none=>rfl;|some x=>rw[q]at a;exact(a O).elim
theorem dC(kvs:List (κ×V))(k:κ)(v:V):(ý kvs k v).length<=kvs.length+1:=by
 unfold ý;split;.rw[Õ];lia
 .rw[õ,ĵ,List.length_nil];lia
theorem EY{k:κ}(v:V)(h:cQ kvs k=none):ý kvs k v=kvs++[(k,v)]:=by unfold ý;rw[gh,h];exact Ê Ù
theorem Ŀ.isSome_eq(r:Ŀ o u):o.isSome=u.isSome:=by cases o with
 |none=>cases u with|none=>rfl;|some _=>exact(r).elim
 |some _=>cases u with|none=>exact(r).elim;|some _=>rfl
theorem Ŀ.getD(r:Ŀ o u)(rd:Ò d d'):Ò (o.getD d) (u.getD d'):=by cases o with
 |none=>cases u with|none=>exact rd;|some _=>exact(r).elim
 |some _=>cases u with|none=>exact(r).elim;|some _=>exact r
theorem KV.val(r:KV kvs vs)(k:κ):Ŀ (cQ kvs k) (valueAt vs k):=by induction r with|nil=>exact True.intro;|@cons p q ps qs h t ih=>
  obtain⟨h1,h2⟩:=h;by_cases e:p.1=k
  .have e':q.1=k:=h1.symm.trans e;have b:valueAt (q::qs) k=some q.2:=by simp[valueAt,e']
   rw[dz e,b];exact h2
  .have e':¬q.1=k:=λz=>e (h1.trans z);have b:valueAt (q::qs) k=valueAt qs k:=by simp[valueAt,e']
   rw[dB e,b];exact ih
theorem KV.any(r:KV kvs vs)(k:κ):(kvs.any λkv=>decide (kv.1=k))=vs.any λkv=>decide (kv.1=k):=by induction r with|nil=>rfl;|cons h t ih=>rw[List.any_cons,List.any_cons,ih,h.1]
theorem KV.repl(r:KV kvs vs)(k:κ)(ry:Ò y u):KV (kvs.map λkv=>if kv.1=k then(kv.1,y)else kv) (vs.map λkv=>if kv.1=k then(kv.1,u)else kv):=by induction r with|nil=>exact .nil;|@cons p q ps qs h t ih=>
  rw[Ĵ,Ĵ];refine .cons ?_ ih;obtain⟨h1,h2⟩:=h;by_cases e:p.1=k;.rw[Ì e,Ì (h1.symm.trans e)];exact⟨h1,ry⟩
  .rw[Ê e,Ê (λz=>e (h1.trans z))];exact⟨h1,h2⟩
theorem KV.put(r:KV kvs vs)(k:κ)(ry:Ò y u):KV (ý kvs k y) (stored vs k u):=by
 unfold ý stored;rw[r.any k];by_cases e:(vs.any λkv=>decide (kv.1=k))=true;.rw[Ì e,Ì e];exact r.repl k ry
 .rw[Ê e,Ê e];exact Paired.snoc r ⟨O,ry⟩
theorem KV.length{vs:List (κ×Value)}(r:KV kvs vs):kvs.length=vs.length:=Paired.length r
end
theorem vU(r:Ò (kV k) u):(bH P w).is k u=true:=by cases k with|inl i=>obtain⟨t,e⟩:=(r);subst e;exact vA P w i t;|inr x=>obtain⟨t,e⟩:=(r);subst e;exact vB P w x t
theorem sZ:∀{ks:List Key}{us:ā},Í (ks.map kV) us->ItemsAre (bH P w) ks us|[],_,r=>by rw[List.map_nil]at r;cases r;exact .nil;|k::ks,_,r=>by cases r with|cons h t=>exact .cons (vU h) (sZ t)
abbrev KT(H:Hp):List (List Key×V)->List (List Key×Addr×Value)->Prop:=Paired λp q=>p.1=q.1/\H q.2.1=some (.tup (p.1.map kV))/\Ò p.2 q.2.2
theorem KT.val(r:KT H kvs xs)(k:List Key):Ŀ (cQ kvs k) ((atKey xs k).map (·.2)):=by induction r with|nil=>exact True.intro;|@cons p q ps qs h t ih=>
  obtain⟨h1,_,h2⟩:=h;by_cases e:p.1=k
  .have e':q.1=k:=h1.symm.trans e;have b:atKey (q::qs) k=some q.2:=by simp[atKey,e']
   rw[dz e,b];exact h2
  .have e':¬q.1=k:=λz=>e (h1.trans z);have b:atKey (q::qs) k=atKey qs k:=by simp[atKey,e']
   rw[dB e,b];exact ih
theorem KT.repl(r:KT H kvs xs)(k:List Key)(ry:Ò y u):KT H (kvs.map λkv=>if kv.1=k then(kv.1,y)else kv) (xs.map (putAt k u)):=by induction r with|nil=>exact .nil;|@cons p q ps qs h t ih=>
  rw[Ĵ];refine .cons ?_ ih;obtain⟨h1,h2,h3⟩:=h;unfold putAt;by_cases e:p.1=k;.rw[Ì e,Ì (h1.symm.trans e)];exact⟨h1,h2,ry⟩
  .rw[Ê e,Ê (λz=>e (h1.trans z))];exact⟨h1,h2,h3⟩
theorem KT.put(r:KT H kvs xs)(k:List Key)(hb:H b=some (.tup (k.map kV)))(ry:Ò y u):KT H (ý kvs k y) (storedH xs k b u):=by
 have e:(kvs.any λkv=>decide (kv.1=k))=(atKey xs k).isSome:=by rw[gh,(r.val k).isSome_eq,Option.isSome_map]
 unfold ý storedH;rw[e];by_cases q:(atKey xs k).isSome=true;.rw[Ì q,Ì q];exact r.repl k ry
 .rw[Ê q,Ê q];exact Paired.snoc r ⟨O,hb,ry⟩
theorem KT.keeps(r:KT H kvs xs)(ht:∀b ys,H b=some (.tup ys)->H' b=some (.tup ys)):KT H' kvs xs:=Paired.mapP r λ_ _ z=>⟨z.1,ht _ _ z.2.1,z.2.2⟩
section
theorem Ku(ok:Ă P w H h)(e:Rd H a u):Û P w H h a u:=e.ok ok
theorem vV(ok:Ă P w H h)(e:Rd H a (.dK kvs)):kvs.length<=sizeLine/\(a==sysModules)=false/\∃vs,KV kvs vs/\h.DictOf (bH P w) a vs:=show Û P w H h a (.dK kvs)from Ku ok e
theorem Fd(ok:Ă P w H h)(e:H a=some (.dK kvs)):kvs.length<=sizeLine/\(a==sysModules)=false/\∃vs,KV kvs vs/\h.DictOf (bH P w) a vs:=vV ok (.inl e)
theorem uD(ok:Ă P w H h)(e:H a=some (.tup (ks.map kV))):(tupleKind (bH P w)).is h ks a:=by obtain⟨_,Æ,r,o,h1,h2,n,h3⟩:=(ok a _ e);exact⟨o,Æ.toArray,n,h1,h2,h3,by simpa using sZ r⟩
theorem vW(ok:Ă P w H h)(e:Rd H a (.dT kvs)):kvs.length<=sizeLine/\(a==sysModules)=false/\∃xs,KT H kvs xs/\h.DictOfH (tupleKind (bH P w)) a xs:=by
 obtain⟨z,y,xs,r,o,es,ep,h1,h2,h3,h4,h5⟩:=(Ku ok e);refine⟨z,y,xs,r,o,es,ep,h1,h2,h3,h4,λx hx=>?_,h5⟩;have all:∀{l:List (List Key×V)}{m:List (List Key×Addr×Value)},KT H l m->∀x∈m,(tupleKind (bH P w)).is h x.1 x.2.1:=by intro l m q;induction q with|nil=>intro x hx;exact nomatch hx;|@cons p q ps qs hq t ih=>
   intro x hx;rcases ĩ.mp hx with e|hx;.subst e;exact uD ok (by rw[<-hq.1];exact hq.2.1)
   .exact ih x hx
 exact all r x hx
theorem Fe(ok:Ă P w H h)(e:H a=some (.dT kvs)):kvs.length<=sizeLine/\(a==sysModules)=false/\∃xs,KT H kvs xs/\h.DictOfH (tupleKind (bH P w)) a xs:=vW ok (.inl e)
end
def Ĕ(H:Hp)(a:Addr)(y:V)(r:Option V):Prop:=(∃kvs k,Rd H a (.dK kvs)/\y=kV k/\r=cQ kvs k)\/∃kvs k b,Rd H a (.dT kvs)/\y=.ref b/\H b=some (.tup (k.map kV))/\r=cQ kvs k
def Ő(H:Hp)(a:Addr)(y v:V)(H':Hp):Prop:=(∃kvs k,H a=some (.dK kvs)/\y=kV k/\kvs.length<sizeLine/\H'=upd H a (.dK (ý kvs k v)))\/∃kvs k b,H a=some (.dT kvs)/\y=.ref b/\H b=some (.tup (k.map kV))/\kvs.length<sizeLine/\H'=upd H a (.dT (ý kvs k v))
theorem Ĕ.k{k:Key}(e:H a=some (.dK kvs)):Ĕ H a (kV k) (cQ kvs k):=.inl ⟨kvs,k,.inl e,O,O⟩
theorem Ĕ.t{k:List Key}(e:H a=some (.dT kvs))(eb:H b=some (.tup (k.map kV))):Ĕ H a (.ref b) (cQ kvs k):=.inr ⟨kvs,k,b,.inl e,O,eb,O⟩
theorem Ő.k{k:Key}(e:H a=some (.dK kvs))(hl:kvs.length<sizeLine):Ő H a (kV k) v (upd H a (.dK (ý kvs k v))):=.inl ⟨kvs,k,e,O,hl,O⟩
theorem Ő.t{k:List Key}(e:H a=some (.dT kvs))(eb:H b=some (.tup (k.map kV)))(hl:kvs.length<sizeLine):Ő H a (.ref b) v (upd H a (.dT (ý kvs k v))):=.inr ⟨kvs,k,b,e,O,eb,hl,O⟩
section
variable{σ:St}
theorem Ç.big(I:Ç X Á σ H s):sysModules<s.heap.objs.size:=by have h:mainGlobals<s.heap.objs.size:=(I.mod.glob.keeps I.bk).lt;exact Nat.lt_trans Ù h
theorem Cz(hu:A.units+1<cLine)(I:Ç X Á σ H s)(g:Ĕ H a y (some v))(ry:Ò y u)(h:∀w' s',Ç X Á σ H s'->Ò v w'->Q w' s'):wpAny (model X.prog X.w) A (getItem (.ref a) u) Q E s:=by
 rcases g with⟨kvs,k,e,ey,l⟩|⟨kvs,k,b,e,ey,eb,l⟩;.subst ey;obtain⟨z,hd,vs,rel,dd⟩:=vV I.hok e;obtain⟨w',hw,fh⟩:=Ŀ.some_of (v:=v) (o:=valueAt vs k) (by rw[l];exact rel.val k);exact wpAny_getItem_of (vU ry) dd.mapOf hw (h w' _ (I.tok _) fh)
 .subst ey;cases(ry);obtain⟨z,hd,xs,rel,dd⟩:=vW I.hok e;obtain⟨w',hw,fh⟩:=Ŀ.some_of (v:=v) (o:=(atKey xs k).map (·.2)) (by rw[l];exact rel.val k);obtain⟨p,hp,kf⟩:=Option.map_eq_some_iff.mp hw;refine wpAny_getItem_heap (tupleKind_room_in1 hu) (uD I.hok eb) dd hp ?_;rw[kf];exact h w' _ (I.tok _) fh
theorem lE(I:Ç X Á σ H s)(mu:Mut (H a))(hs:Heap.SameBut a s.heap h')(he:∃q,h'.get? a=some q)(new:Û X.prog X.w (upd H a ob) h' a ob):Ç X Á σ (upd H a ob) {s with heap:=h',toks:=t'}:=I.write (x:=a) (e:=a) mu (.inl O) (λb q hb z=>(hs.2 b hb).trans z) he new
theorem yh(z:kvs.length<=sizeLine)(hd:(a==sysModules)=false)(rel:KV kvs vs)(dd:h'.DictOf (bH P w) a vs):Û P w H' h' a (.dK kvs):=⟨z,hd,vs,rel,dd⟩
theorem tu(hu:A.units+1<cLine)(I:Ç X Á σ H s)(g:Ő H a y v H')(ry:Ò y u)(rv:Ò v r)(h:∀s',Ç X Á σ H' s'->Q () s'):wpAny (model X.prog X.w) A (setItem (.ref a) u r) Q E s:=by
 rcases g with⟨kvs,k,e,ey,l,eH⟩|⟨kvs,k,b,e,ey,eb,l,eH⟩
 .subst ey eH;obtain⟨z,hd,vs,rel,dd⟩:=Fd I.hok e;have hz:vs.length<=sizeLine:=by rw[<-rel.length];exact z
  have hl:(ý kvs k v).length<=sizeLine:=by have:=dC kvs k v;lia
  refine wpAny_setItem_pairs (hsz:=hz) (vU ry) dd λh' mh hs=>h _ ?_;have he:∃q,h'.get? a=some q:=by obtain⟨q,_,_,hq,_⟩:=mh;exact⟨q,hq⟩
  exact lE I (by rw[e];exact True.intro) hs he (yh hl hd (rel.put k rv) mh)
 .subst ey eH;cases(ry);obtain⟨z,hd,xs,rel,dd⟩:=Fe I.hok e;have hz:xs.length<=sizeLine:=by rw[<-Paired.length rel];exact z
  have hl:(ý kvs k v).length<=sizeLine:=by have:=dC kvs k v;lia
  refine wpAny_setItem_heap (hsz:=hz) (tupleKind_room_in1 hu) (uD I.hok eb) dd λh' mh hs=>h _ ?_;obtain⟨q,es,ep,hq,h2,h3,h4,_,h5⟩:=mh;refine lE I (by rw[e];exact True.intro) hs ⟨q,hq⟩ ⟨hl,hd,_,(rel.put k eb rv).keeps λc ys ec=>?_,q,es,ep,hq,h2,h3,h4,h5⟩;rw[au (Kl ec e (λz=>nomatch z))];exact ec
end
section
end
def Ob(i:Expr):Prop:=∀ov iv,subscripted i false ov iv=operate [ov,iv] (getItem ov iv)
theorem J8{T id:String}(hl:typeLookup (.type T) "__getitem__"=pure (some (.builtin id)))(hs:Ob slice)(h:wpAny (model prog w) A (eval value env) (λo s₁=>wpAny (model prog w) A (eval slice env) (λi s₂=>s₂.TypeIs o T/\wpAny (model prog w) A (getItem o i) Q E s₂) E s₁) E s):wpAny (model prog w) A (eval (.Subscript value slice pos) env) Q E s:=by
 refine Subscript_ (wpAny_mono h (λo s₁ de=>wpAny_mono de (λi s₂ mS=>?_) λ_ _ x=>x) λ_ _ x=>x);obtain⟨hT,mS⟩:=mS;refine Ä ?_;refine Ä (wpAny_specialOf hT hl ?_);have fin:wpAny (model prog w) A (subscripted slice false o i) (λr s₃=>wpAny (model prog w) A (letTemporaryGo value o r>>=λ_=>pure r) Q E s₃) E s₂:=by rw[hs o i];exact wpAny_operating (wpAny_mono mS (λr s₃ rq=>Ä (wpAny_letTemporaryGo (Ú rq))) λ_ _ x=>x)
 first|exact Ú (Ä fin);|exact Ä (Ú (Ä fin));|exact Ä fin
theorem vX{σ:St}(I:Ç X Á σ H s)(g:Ĕ H a y o):s.TypeIs (.ref a) "dict":=by
 rcases g with⟨kvs,k,e,_,_⟩|⟨kvs,k,b,e,_,_,_⟩;.obtain⟨_,_,vs,_,dd⟩:=vV I.hok e;exact dd.typeIs
 .obtain⟨_,_,xs,_,dd⟩:=vW I.hok e;exact dd.typeIs
def Oc(td ty:TE):TE:=λσ H Q=>td σ H λx H1=>ty σ H1 λy H2=>∃a v,x=.ref a/\Ĕ H2 a y (some v)/\Q v H2
def Od(td ty tv:TE):TS:=λD σ H=>tv σ H λv H1=>td σ H1 λx H2=>ty σ H2 λy H3=>∃a H4,x=.ref a/\Ő H3 a y v H4/\D.nx σ H4
section
theorem gG(hu:X.A.units+1<cLine)(ho:PE X o td)(hi:PE X i ty)(hs:Ob i):PE X (.Subscript o i pos) (Oc td ty):=by intro Á s σ H Q I h;refine J8 PySem.F.slot_dict_getitem.lookup hs (Ý (ho Á s σ H _ I h) λu s1⟨x,H1,I1,rx,q1⟩=>Ý (hi Á s1 σ H1 _ I1 q1) λiv s2=>?_);rintro⟨y,H2,I2,ry,a,v,ex,g,q2⟩;subst ex;obtain rfl:u=Value.ref a:=rx;exact⟨vX I2 g,Cz hu I2 g ry λw' s3 I3 fh=>⟨v,H2,I3,fh,q2⟩⟩
theorem oX(hu:X.A.units+1<cLine)(ho:PE X o td)(hi:PE X i ty)(hv:PE X value tv)(hs:swapsWith value (some (.Subscript o i pos')) pos.line X.env=pure false):PS X (.Assign [.Subscript o i pos'] value pos) (Od td ty tv):=by intro Á s σ H D I h;refine wpAny_Assign_Subscript (Ý (hv Á s σ H _ I h) λr s1⟨v,H1,I1,rv,q1⟩=>Ý (ho Á s1 σ H1 _ I1 q1) λu s2⟨x,H2,I2,rx,q2⟩=>Ý (hi Á s2 σ H2 _ I2 q2) λiv s3=>?_) hs;rintro⟨y,H3,I3,ry,a,H4,ex,g,q3⟩;subst ex;obtain rfl:u=Value.ref a:=rx;exact tu hu I3 g ry rv λs4 I4=>⟨σ,H4,I4,q3⟩
end
theorem qi(h:Heap)(hb:sysModules<h.objs.size):Û P w H (h.push {cls:=.type "dict",data:=.dict #[]}) h.objs.size (.dK []):=⟨į _,beq_eq_false_iff_ne.mpr (Ne.symm (Ħ hb)),[],.nil,Heap.DictOf.new h⟩
theorem Ff(h:Heap)(hb:sysModules<h.objs.size):Û P w H (h.push {cls:=.type "dict",data:=.dict #[]}) h.objs.size (.dT []):=⟨į _,beq_eq_false_iff_ne.mpr (Ne.symm (Ħ hb)),[],.nil,_,#[],0,Ĩ _ O,⟨O,O,O⟩,O,O,List.nodup_nil⟩
def LC:TE:=λ_ H Q=>∀p,H p=none->Q (.ref p) (upd H p (.dT []))
section
theorem qj:PE X (.Dict [] [] pos) LC:=λÁ s σ H Q I h=>wpAny_Dict_empty ⟨.ref s.heap.objs.size,_,I.laid (a:=s.heap.objs.size) (o:=.dT []) (t':=s.toks) (λ_ _ q=>þ _ q) (Ü _) (Ff s.heap I.big),O,h _ (I.hok.fresh (Ü _))⟩
end
def uE:List (TE×TE)->St->Hp->(List (V×V)->Hp->Prop)->Prop|[],_,H,Q=>Q [] H|(tk,tv)::r,σ,H,Q=>tk σ H λx H1=>tv σ H1 λy H2=>uE r σ H2 λps H3=>Q ((x,y)::ps) H3
abbrev VV:List (V×V)->List (Value×Value)->Prop:=Paired λp q=>Ò p.1 q.1/\Ò p.2 q.2
def PPs(X:Cx)(pos:Pos)(keys:List (Option Expr))(values:Qa6)(kB:List (TE×TE)):Prop:=∀Á s(σ:St)H Q,Ç X Á σ H s->uE kB σ H Q->wpAny (model X.prog X.w) X.A (evalPairs (pairTrees keys values X.env pos)) (λvs s'=>∃ps H',Ç X Á σ H' s'/\VV ps vs/\Q ps H') X.xe s
theorem zV:PPs X pos [] [] []:=λÁ s σ H Q I h=>pairTrees_nil_walk ⟨[],H,I,.nil,h⟩
theorem vY(hk:PE X k tk)(hv:PE X v tv)(hr:PPs X pos ks vs kB):PPs X pos (some k::ks) (v::vs) ((tk,tv)::kB):=λÁ s σ H Q I h=>pairTrees_cons_walk (Ý (hk Á s σ H _ I h) λu s1⟨x,H1,I1,rx,q1⟩=>Ý (hv Á s1 σ H1 _ I1 q1) λw2 s2⟨y,H2,I2,ry,q2⟩=>Ý (hr Á s2 σ H2 _ I2 q2) λws s3=>by rintro⟨ps,H3,I3,rel,q3⟩;exact⟨(x,y)::ps,H3,I3,.cons ⟨rx,ry⟩ rel,q3⟩)
def iy(kvs more:List (Key×V)):List (Key×V):=more.foldl (λacc kv=>ý acc kv.1 kv.2) kvs
theorem KV.merge:∀{more:List (Key×V)}{rs:List (Key×Value)}{kvs:List (Key×V)}{vs:List (Key×Value)},KV more rs->KV kvs vs->KV (iy kvs more) (merged vs rs):=by intro more rs kvs vs r;induction r generalizing kvs vs with|nil=>intro q;exact q;|@cons p q ps qs h t ih=>
  intro r0;have e:KV (ý kvs p.1 p.2) (stored vs q.1 q.2):=by have:=r0.put p.1 h.2;rw[<-h.1];exact this
  exact ih e
theorem iz:∀more kvs,(iy kvs more).length<=kvs.length+more.length|[],kvs=>by show kvs.length<=kvs.length+0;lia;|p::r,kvs=>by have h1:=iz r (ý kvs p.1 p.2);have h2:=dC kvs p.1 p.2;show(iy (ý kvs p.1 p.2) r).length<=_;rw[ĵ];lia
theorem jT:∀{kvs:List (Key×V)}{ws:List (Value×Value)},VV (kvs.map λkv=>(kV kv.1,kv.2)) ws->∃rs,Carries (bH P w) ws rs/\KV kvs rs|[],_,r=>by rw[List.map_nil]at r;cases r;exact⟨[],True.intro,.nil⟩;|p::kvs,_,r=>by cases r with|@cons a b as bs h t=>obtain⟨rs,c,q⟩:=jT (P:=P) (w:=w) t;obtain⟨b1,b2⟩:=b;exact⟨(p.1,b2)::rs,⟨vU h.1,O,c⟩,.cons ⟨O,h.2⟩ q⟩
def Oe(kB:List (TE×TE)):TE:=λσ H Q=>∀p,H p=none->uE kB σ (upd H p (.dK [])) λps H2=>H2 p=some (.dK [])/\∃kvs,ps=kvs.map (λkv=>(kV kv.1,kv.2))/\kvs.length<=15/\Q (.ref p) (upd H2 p (.dK (iy [] kvs)))
theorem J9(h:PPs X pos keys values kB)(mP:keys.all (·.isSome)=true)(hl:keys.length=values.length)(h0:keys≠[])(LD:keys.length<=15):PE X (.Dict keys values pos) (Oe kB):=by
 intro Á s σ H Q I q;have hn:=I.hok.fresh (Ü s.heap.objs.size);have I1:=I.laid (a:=s.heap.objs.size) (o:=.dK []) (h':=s.heap.push {cls:=.type "dict",data:=.dict #[]}) (t':=s.toks) (λ_ _ q=>þ _ q) (Ü _) (qi s.heap I.big);refine wpAny_Dict_walk (knd:=bH X.prog X.w) mP hl h0 LD (Ý (h Á _ σ _ _ I1 (q _ hn)) λws s2=>?_);rintro⟨ps,H2,I2,rel,e,kvs,ep,lk,q2⟩;subst ep;obtain⟨rs,c,rk⟩:=jT (P:=X.prog) (w:=X.w) rel;obtain⟨z,hd,U2,r0,dd⟩:=Fd I2.hok e;cases r0;refine⟨rs,c,dd,λh' mh hs=>⟨.ref s.heap.objs.size,_,?_,O,q2⟩⟩;have hz:(iy [] kvs).length<=sizeLine:=by have h1:=iz kvs [];rw[List.length_nil]at h1;rw[sizeLine_eq];lia
 have he:∃q,h'.get? s.heap.objs.size=some q:=by obtain⟨q,_,_,hq,_⟩:=mh;exact⟨q,hq⟩
 exact lE I2 (by rw[e];exact True.intro) hs he (yh hz hd (rk.merge .nil) mh)
structure M2(X:Cx)(o:Expr)(m:Str)(apos:Pos)(e f:Expr)(bX:Pos):Prop where
 base:attributeBase o m X.env (eval o X.env)=eval o X.env
 few:((backTo bX (starEach [e,f] X.env)).all (λx=>!x.1)&&(backToKw bX (keywordEach [] X.env)).all (λx=>x.1.isSome)&&decide (([e,f]:Qa6).length+([]:List Keyword).length+(if([]:List Keyword).isEmpty then 0 else 1)<30))=true
 line:(apos.endLine==bX.line)=true
 trees:backTo bX (starEach [e,f] X.env)=[(false,eval e X.env),(false,eval f X.env)]
def IsD(H:Hp)(a:Addr):Prop:=(∃kvs,Rd H a (.dK kvs))\/∃kvs,Rd H a (.dT kvs)
theorem LK{σ:St}(I:Ç X Á σ H s)(d:IsD H a):s.TypeIs (.ref a) "dict"/\(∀b,Value.ref a=.ref b->∃ob,s.heap.get? b=some ob/\ob.dict=none)/\(a==sysModules)=false:=by
 rcases d with⟨kvs,e⟩|⟨kvs,e⟩;.obtain⟨_,hd,vs,_,dd⟩:=vV I.hok e;refine⟨dd.typeIs,λb q=>?_,hd⟩;cases q;obtain⟨ob,_,_,h1,h2,_⟩:=dd;exact⟨ob,h1,h2.2.1⟩
 .obtain⟨_,hd,xs,_,dd⟩:=vW I.hok e;refine⟨dd.typeIs,λb q=>?_,hd⟩;cases q;obtain⟨ob,_,_,h1,h2,_⟩:=dd;exact⟨ob,h1,h2.2.1⟩
section
variable{σ:St}
theorem LQ(hu:A.units+1<cLine)(I:Ç X Á σ H s)(g:Ĕ H a y o)(ry:Ò y u)(rd:Ò d r)(h:∀w' s',Ç X Á σ H s'->Ò (o.getD d) w'->Q w' s'):wpAny (model X.prog X.w) A (call (.builtin "dict.get") [.ref a,u,r]) Q E s:=by
 rcases g with⟨kvs,k,e,ey,l⟩|⟨kvs,k,b,e,ey,eb,l⟩;.subst ey;obtain⟨z,hd,vs,rel,dd⟩:=vV I.hok e;refine call_meetsIn PySem.F.slot_dict_get dd.typeIs PySem.F.entry_dict_get (PySem.F.args_dict_get_3 _ _ _) (meets_dict_get_default (bH X.prog X.w) a (vU ry) hd r) ⟨_,dd.mapOf,h _ _ (I.tok _) ?_⟩;rw[l];exact(rel.val k).getD rd
 .subst ey;cases(ry);obtain⟨z,hd,xs,rel,dd⟩:=vW I.hok e;refine call_meetsIn PySem.F.slot_dict_get dd.typeIs PySem.F.entry_dict_get (PySem.F.args_dict_get_3 _ _ _) (meetsH_dict_get_default (tupleKind (bH X.prog X.w)) a b hd r) ⟨tupleKind_room_in1 hu,k,xs,uD I.hok eb,dd,h _ _ (I.tok _) ?_⟩;rw[l];exact(rel.val k).getD rd
end
def LR(td ty tx:TE):TE:=λσ H Q=>td σ H λx H1=>∃a,x=.ref a/\IsD H1 a/\ty σ H1 λy H2=>tx σ H2 λz H3=>∃o,Ĕ H3 a y o/\Q (o.getD z) H3
section
theorem ql(hu:X.A.units+1<cLine)(ho:PE X o td)(he:PE X e ty)(hf:PE X f tx)(m:M2 X o "get" apos e f bX):PE X (.Call (.Attribute o "get" apos) [e,f] [] bX) (LR td ty tx):=by intro Á s σ H Q I h;refine wpAny_Call_method m.base m.few m.line PySem.F.plainAttrs_dict PySem.F.slot_dict_get PySem.F.type_dict_get (Ý (ho Á s σ H _ I h) λu s1=>?_);rintro⟨x,H1,I1,rx,a,ex,d,q1⟩;subst ex;obtain rfl:u=Value.ref a:=rx;obtain⟨t1,t2,_⟩:=LK I1 d;refine⟨t1,t2,?_⟩;rw[m.trees];refine Calls.callWith_builtin O (Calls.evalArgs_plain (Calls.spliced_cons (Ý (he Á s1 σ H1 _ I1 q1) λiv s2⟨y,H2,I2,ry,q2⟩=>Calls.spliced_cons (Ý (hf Á s2 σ H2 _ I2 q2) λfv s3⟨z,H3,I3,rz,ov,g,q3⟩=>Calls.spliced_nil ?_))));exact LQ hu I3 g ry rz λw' s4 I4 fh=>⟨_,H3,I4,fh,q3⟩
end
section
end
section
end
def Ja:Key->PyData|.inl i=>.int i|.inr x=>.str x
mutual
inductive Ó(S:Addr->Prop)(H:Hp):V->PyData->Prop|non:Ó S H .non .none|bl(b:Bool):Ó S H (.bl b) (.bool b)|int(i:Int):Ó S H (.int i) (.int i)|str(x:Str):Ó S H (.str x) (.str x)|lst{a:Addr}{xs:List V}{ds:Ģ}(hs:S a)(e:H a=some (.lst xs))(r:Å S H xs ds):Ó S H (.ref a) (.list ds)|tup{a:Addr}{xs:List V}{ds:Ģ}(e:H a=some (.tup xs))(r:Å S H xs ds):Ó S H (.ref a) (.tuple ds)|dct{a:Addr}{ks:List (Key×Int)}(hs:S a)(e:H a=some (.dK (ks.map λp=>(p.1,V.int p.2)))):Ó S H (.ref a) (.dict (ks.map λp=>(Ja p.1,.int p.2)))
inductive Å(S:Addr->Prop)(H:Hp):List V->Ģ->Prop|nil:Å S H [] []|cons{v:V}{d:PyData}{vs:List V}{ds:Ģ}(h:Ó S H v d)(t:Å S H vs ds):Å S H (v::vs) (d::ds)
end
section
theorem Å.length:∀{vs:List V}{ds:Ģ},Å S H vs ds->vs.length=ds.length|_,_,.nil=>rfl|_,_,.cons _ t=>by rw[ĵ,ĵ,Å.length t]
theorem Å.get:∀{vs:List V}{ds:Ģ}{i:Nat}{v:V},Å S H vs ds->vs[i]?=some v->∃d,ds[i]?=some d/\Ó S H v d|_,_,_,_,.nil,e=>by simp at e;|_,_,0,_,.cons h _,e=>by simp at e;subst e;exact⟨_,O,h⟩;|_,_,i+1,v,.cons _ t,e=>by obtain⟨d,h1,h2⟩:=Å.get (i:=i) (v:=v) t (by simpa using e);exact⟨d,by simpa using h1,h2⟩
theorem Å.append:∀{vs ws:List V}{ds es:Ģ},Å S H vs ds->Å S H ws es->Å S H (vs++ws) (ds++es)|_,_,_,_,.nil,s=>s|_,_,_,_,.cons h t,s=>.cons h (Å.append t s)
theorem Å.set(h:Ó S H x e):∀{vs:List V}{ds:Ģ}i,Å S H vs ds->Å S H (vs.set i x) (ds.set i e)|_,_,_,.nil=>.nil|_,_,0,.cons _ t=>.cons h t|_,_,i+1,.cons q t=>.cons q (Å.set h i t)
theorem Å.take:∀{vs:List V}{ds:Ģ}n,Å S H vs ds->Å S H (vs.take n) (ds.take n)|_,_,0,_=>.nil|_,_,_+1,.nil=>.nil|_,_,n+1,.cons h t=>.cons h (Å.take n t)
theorem Å.drop:∀{vs:List V}{ds:Ģ}n,Å S H vs ds->Å S H (vs.drop n) (ds.drop n)|_,_,0,r=>r|_,_,_+1,.nil=>.nil|_,_,n+1,.cons _ t=>Å.drop n t
theorem Å.erase:∀{vs:List V}{ds:Ģ}i,Å S H vs ds->Å S H (vs.eraseIdx i) (ds.eraseIdx i)|_,_,_,.nil=>.nil|_,_,0,.cons _ t=>t|_,_,i+1,.cons r t=>.cons r (Å.erase i t)
theorem Å.ints:∀(ns:WF),Å S H (ns.map V.int) (ns.map PyData.int)|[]=>.nil|n::ns=>.cons (.int n) (Å.ints ns)
mutual
theorem Ó.keep(ht:∀b xs,H b=some (.tup xs)->H' b=some (.tup xs))(hs:∀b o,S b->H b=some o->H' b=some o)(hS:∀b o,S b->H b=some o->S' b):∀{v:V}{d:PyData},Ó S H v d->Ó S' H' v d|_,_,.non=>.non|_,_,.bl b=>.bl b|_,_,.int i=>.int i|_,_,.str x=>.str x|_,_,.lst s e r=>.lst (hS _ _ s e) (hs _ _ s e) (Å.keep ht hs hS r)|_,_,.tup e r=>.tup (ht _ _ e) (Å.keep ht hs hS r)|_,_,.dct s e=>.dct (hS _ _ s e) (hs _ _ s e)
theorem Å.keep(ht:∀b xs,H b=some (.tup xs)->H' b=some (.tup xs))(hs:∀b o,S b->H b=some o->H' b=some o)(hS:∀b o,S b->H b=some o->S' b):∀{vs:List V}{ds:Ģ},Å S H vs ds->Å S' H' vs ds|_,_,.nil=>.nil|_,_,.cons h t=>.cons (Ó.keep ht hs hS h) (Å.keep ht hs hS t)
end
def tyD:PyData->String|.none=>"NoneType"|.bool _=>"bool"|.int _=>"int"|.str _=>"str"|.list _=>"list"|.tuple _=>"tuple"|.dict _=>"dict"
theorem Ó.ty{K:Frag}(h:Ó S H v d):ĸ K H v (.type (tyD d)):=by cases h with|non=>exact .non;|bl b=>exact .bl b;|int i=>exact .int i;|str x=>exact .str x;|lst s e r=>exact .lst e;|tup e r=>exact .tup e;|dct s e=>exact .dK e
def nC:PyData->Bool|.int _=>true|.bool _=>true|_=>false
def lG:PyData->Bool|.bool _=>true|_=>false
def fP:PyData->Bool|.tuple _=>true|_=>false
theorem zW{K:Frag}(d:PyData):PySem.W.kitOne K (.type (tyD d)) (.type "int")=some (nC d):=by
 cases d;.exact nA
 .exact uv
 .exact vP
 .exact vQ
 .exact uB
 .exact rG
 .exact uC
theorem vZ{K:Frag}(d:PyData):PySem.W.kitOne K (.type (tyD d)) (.type "bool")=some (lG d):=by
 cases d;.exact lD
 .exact rB
 .exact uw
 .exact uA
 .exact rF
 .exact qe
 .exact rH
theorem oY{K:Frag}(d:PyData):PySem.W.kitOne K (.type (tyD d)) (.type "tuple")=some (fP d):=by
 cases d;.exact jR
 .exact qb
 .exact rD
 .exact rE
 .exact qd
 .exact oK
 .exact qg
end
mutual
def sz:PyData->Nat|.none=>1|.bool _=>1|.int _=>1|.str _=>1|.list xs=>1+ô xs|.tuple xs=>1+ô xs|.dict kvs=>1+4*kvs.length
def ô:Ģ->Nat|[]=>0|x::xs=>sz x+ô xs
end
mutual
def ñ:PyData->Bool|.none=>true|.bool _=>true|.int i=>decide (i.natAbs<2^128)|.str x=>decide (x.length<=10)&&x.cps.toList.all λc=>decide (c<16^8)|.list xs=>iI xs|.tuple xs=>iI xs|.dict kvs=>gR kvs
def iI:Ģ->Bool|[]=>true|x::xs=>ñ x&&iI xs
def gR:List (PyData×PyData)->Bool|[]=>true|(.int i,.int j)::r=>decide (i.natAbs<2^128)&&decide (j.natAbs<2^128)&&gR r|(.str x,.int j)::r=>(decide (x.length<=10)&&x.cps.toList.all λc=>decide (c<16^8))&&decide (j.natAbs<2^128)&&gR r|_::_=>false
end
theorem oZ{i:Int}(h:i.natAbs<2^128):(Str.ofString (toString i)).length<=130:=by
 have e:=int_text_length_le (a:=i) (k:=128) Ù (by
  by_cases h0:i.natAbs=0;.rw[h0];decide
  .exact(Nat.log2_lt h0).mpr h);rw[PySem.ofString_length];lia
theorem oh:∀ts k acc,(textFrom k acc ts).length<=acc.length+piled ts
 |[],k,acc=>by show acc.length<=acc.length+0;lia;|t::r,k,acc=>by
  have h:=oh r (k+1) (acc++(if k>0 then", "else"":String)++t);have e:(acc++(if k>0 then", "else"":String)++t).length<=acc.length+2+t.length:=by
   rw[strLen_append,strLen_append];split;.show acc.length+2+t.length<=_;lia
   .show acc.length+0+t.length<=_;lia
  rw[piled_cons];show(textFrom (k+1) _ r).length<=_;lia
theorem wg(ts:ð):(listText ts).length<=piled ts+2:=by have h:=oh ts 0 "[";unfold listText;rw[strLen_append];have e1:(("[":Str)).length=1:=O;have e2:(("]":Str)).length=1:=O;lia
theorem zZ(ts:ð):(Str.join ", " ts).length<=piled ts:=by
 by_cases h:ts=[];.subst h;show 0<=_;lia
 .have:=join_length_add ts h;lia
theorem uF(ts:ð):(tupleText ts).length<=piled ts+3:=by
 have h:=zZ ts;unfold tupleText;rw[strLen_append,strLen_append];have e1:(("(":Str)).length=1:=O;have e2:((if ts.length==1 then",)"else")":String):Str).length<=2:=by
  split;.exact Ü 2
  .exact Ŧ 1
 lia
theorem wj(ts:ð):(dictText ts).length<=piled ts+2:=by have h:=zZ ts;unfold dictText;rw[strLen_append,strLen_append];have e1:(("{":Str)).length=1:=O;have e2:(("}":Str)).length=1:=O;lia
theorem qm{M:List (PyData×PyData)->Prop}(h0:M [])(h1:∀i j r,i.natAbs<2^128->j.natAbs<2^128->M r->M ((.int i,.int j)::r))(h2:∀x j r,(x.length<=10/\∀c∈x.cps.toList,c<16^8)->j.natAbs<2^128->M r->M ((.str x,.int j)::r)):∀kvs,gR kvs=true->M kvs
 |[],_=>h0|(k,v)::r,h=>by
  cases k<;>cases v<;>first|(simp[gR]at h;done)|skip
  all_goals simp only[gR,Bool.and_eq_true,č,List.all_eq_true]at h;first|exact h1 _ _ _ h.1.1 h.1.2 (qm h0 h1 h2 r h.2)|exact h2 _ _ _ h.1.1 h.1.2 (qm h0 h1 h2 r h.2)
theorem ϋ:∀kvs,gR kvs=true->piled (PyData.shownKv kvs)<=400*kvs.length:=by
 have e1:((": ":Str)).length=2:=O;refine qm (Ü _) (λi j r a b ih=>?_) (λx j r a b ih=>?_);.have h1:=oZ a;have h2:=oZ b;show piled ((Str.ofString (toString i)++": "++Str.ofString (toString j))::PyData.shownKv r)<=_;rw[piled_cons,strLen_append,strLen_append,e1,ĵ];lia
 .have h1:=StrLaws.reprText_len x a.2;have h2:=oZ b;have:=a.1;show piled ((reprText x++": "++Str.ofString (toString j))::PyData.shownKv r)<=_;rw[piled_cons,strLen_append,strLen_append,e1,ĵ];lia
mutual
theorem tD:∀d,ñ d=true->d.shown.length+2<=200*sz d
 |.none,_=>by decide+kernel;|.bool true,_=>by decide+kernel;|.bool false,_=>by decide+kernel;|.int i,h=>by have:=oZ (i:=i) (by simpa[ñ]using h);show(Str.ofString (toString i)).length+2<=200*1;lia;|.str x,h=>by
  have h':(decide (x.length<=10)&&x.cps.toList.all λc=>decide (c<16^8))=true:=h;rw[Ī]at h';have h1:x.length<=10:=by simpa using h'.1
  have:=StrLaws.reprText_len x λc hc=>by simpa using ņ.mp h'.2 c hc
  show(reprText x).length+2<=200*1;lia;|.list xs,h=>by have h1:=iZ xs (by simpa[ñ]using h);have h2:=wg (PyData.shownAll xs);show(listText (PyData.shownAll xs)).length+2<=200*(1+ô xs);lia;|.tuple xs,h=>by have h1:=iZ xs (by simpa[ñ]using h);have h2:=uF (PyData.shownAll xs);show(tupleText (PyData.shownAll xs)).length+2<=200*(1+ô xs);lia;|.dict kvs,h=>by have h1:=ϋ kvs (by simpa[ñ]using h);have h2:=wj (PyData.shownKv kvs);show(dictText (PyData.shownKv kvs)).length+2<=200*(1+4*kvs.length);lia
theorem iZ:∀xs,iI xs=true->piled (PyData.shownAll xs)<=200*ô xs|[],_=>by show 0<=_;lia;|x::xs,h=>by have h':(ñ x&&iI xs)=true:=h;rw[Ī]at h';have h1:=tD x h'.1;have h2:=iZ xs h'.2;show piled (PyData.shown x::PyData.shownAll xs)<=200*(sz x+ô xs);rw[piled_cons];lia
end
theorem rJ:∀kvs,gR kvs=true->PyData.showableKv kvs=true:=by
 have big:∀{n:Int},n.natAbs<2^128->n.natAbs.log2<1920:=λ{n}hn=>by
  by_cases h0:n.natAbs=0;.rw[h0];decide
  .exact Nat.lt_trans ((Nat.log2_lt h0).mpr hn) Ù
 refine qm O (λi j r a b ih=>?_) (λx j r a b ih=>?_)<;>simp only[PyData.showableKv,PyData.showable,Bool.and_eq_true,č];.exact⟨⟨big a,big b⟩,ih⟩
 .exact⟨⟨trivial,big b⟩,ih⟩
mutual
theorem ou:∀d,ñ d=true->d.showable=true
 |.none,_=>rfl|.bool _,_=>rfl|.int i,h=>by
  have h':i.natAbs<2^128:=by simpa[ñ]using h
  have:i.natAbs.log2<1920:=by
   by_cases h0:i.natAbs=0;.rw[h0];decide
   .exact Nat.lt_trans ((Nat.log2_lt h0).mpr h') Ù
  exact ø this;|.str _,_=>rfl|.list xs,h=>by exact j4 xs (by simpa[ñ]using h);|.tuple xs,h=>by exact j4 xs (by simpa[ñ]using h);|.dict kvs,h=>by exact rJ kvs (by simpa[ñ]using h)
theorem j4:∀xs,iI xs=true->PyData.showableAll xs=true|[],_=>rfl|x::xs,h=>by have h':(ñ x&&iI xs)=true:=h;rw[Ī]at h';simp only[PyData.showableAll,Bool.and_eq_true];exact⟨ou x h'.1,j4 xs h'.2⟩
end
theorem yj:∀kvs,gR kvs=true->PyData.depthKv kvs=0:=by refine qm O (λi j r a b ih=>?_) (λx j r a b ih=>?_)<;>simp only[PyData.depthKv,PyData.depth,ih]<;>rfl
mutual
theorem lH:∀d,ñ d=true->d.depth<=sz d|.none,_=>į _|.bool _,_=>į _|.int i,_=>į _|.str _,_=>į _|.list xs,h=>by have:=nF xs (by simpa[ñ]using h);simp only[PyData.depth,sz];lia;|.tuple xs,h=>by have:=nF xs (by simpa[ñ]using h);simp only[PyData.depth,sz];lia;|.dict kvs,h=>by have:=yj kvs (by simpa[ñ]using h);simp only[PyData.depth,sz];lia
theorem nF:∀xs,iI xs=true->PyData.depthAll xs<=ô xs|[],_=>į _|x::xs,h=>by have h':(ñ x&&iI xs)=true:=h;rw[Ī]at h';have h1:=lH x h'.1;have h2:=nF xs h'.2;simp only[PyData.depthAll,ô];lia
end
section
variable{σ:St}{s:Shared}
theorem qp:∀{ks:List (Key×Int)}{vs:List (Key×Value)}{es:List DictEntry},KV (ks.map λp=>(p.1,V.int p.2)) vs->Pairs (bH P w) es vs->(∃as,ReadsAll s.heap (es.map (·.key)) ((ks.map λp=>(Ja p.1,PyData.int p.2)).map (·.1)) as/\as=[])/\∃as,ReadsAll s.heap (es.map (·.val)) ((ks.map λp=>(Ja p.1,PyData.int p.2)).map (·.2)) as/\as=[]|[],vs,es,r,p=>by cases r;cases p;exact⟨⟨_,.nil,O⟩,⟨_,.nil,O⟩⟩;|(k,n)::ks,vs,es,r,p=>by cases r with|@cons a b l1 l2 h t=>cases p with|@cons e kv hZ kvs' h1 h2 h3=>
    obtain⟨⟨_,i1,rfl⟩,⟨_,i2,rfl⟩⟩:=qp (ks:=ks) t h3;obtain⟨q1,q2⟩:=h;have PD:pM b.1 e.key=true:=h1;rw[<-q1]at PD;obtain⟨tv,U3⟩:∃t,b.2=Value.int n t:=q2;rw[U3]at h2;refine⟨⟨_,?_,O⟩,⟨_,?_,O⟩⟩
    .show ReadsAll s.heap (e.key::hZ.map (·.key)) (Ja k::_) ([]++[]);rcases cC PD with⟨i,tk,ei,ev⟩|⟨x,tk,ei,ev⟩;.have ei:k=Sum.inl i:=ei;rw[ev,ei];exact .cons (.int _ _) i1
     .have ei:k=Sum.inr x:=ei;rw[ev,ei];exact .cons (.str _ _) i1
    .show ReadsAll s.heap (e.val::hZ.map (·.val)) (PyData.int n::_) ([]++[]);rw[h2];exact .cons (.int _ _) i2
mutual
theorem Ó.reads(I:Ç X Á σ H s):∀{v:V}{d:PyData}{u:Value},Ó S H v d->Ò v u->∃as,Reads s.heap u d as/\∀a∈as,S a
 |_,_,_,.non,r=>by cases(show _=Value.none from r);exact⟨[],.none,λ_ h=>nomatch h⟩;|_,_,_,.bl b,r=>by cases(show _=Value.bool b from r);exact⟨[],.bool b,λ_ h=>nomatch h⟩;|_,_,_,.int i,r=>by obtain⟨t,rfl⟩:=r;exact⟨[],.int i t,λ_ h=>nomatch h⟩;|_,_,_,.str x,r=>by obtain⟨t,rfl⟩:=r;exact⟨[],.str x t,λ_ h=>nomatch h⟩;|_,_,_,@Ó.lst _ _ a xs ds hs e t,r=>by
  cases(show _=Value.ref a from r);obtain⟨_,Æ,n,rv,ho⟩:=(I.hok a _ e);obtain⟨as,h1,h2⟩:=Å.reads I t rv;refine⟨a::as,.list ho O O (by simpa using h1),λb hb=>?_⟩;rcases ĩ.mp hb with z|z;.rw[z];exact hs
  .exact h2 b z;|_,_,_,@Ó.tup _ _ a xs ds e t,r=>by cases(show _=Value.ref a from r);obtain⟨_,Æ,rv,o,ho,hc,n,hd⟩:=(show Û X.prog X.w H s.heap a (.tup xs)from I.hok a _ e);obtain⟨as,h1,h2⟩:=Å.reads I t rv;exact⟨as,.tuple ho hc hd (by simpa using h1),h2⟩;|_,_,_,@Ó.dct _ _ a ks hs e,r=>by cases(show _=Value.ref a from r);obtain⟨_,_,vs,rel,o,es,ep,ho,hx,hd,_,hp,_⟩:=(show Û X.prog X.w H s.heap a (.dK _)from I.hok a _ e);obtain⟨⟨_,i1,rfl⟩,⟨_,i2,rfl⟩⟩:=qp (s:=s) rel hp;refine⟨a::[]++[],.dict ho hx.1 hd i1 i2,λb hb=>?_⟩;rw[show b=a by simpa using hb];exact hs
theorem Å.reads(I:Ç X Á σ H s):∀{vs:List V}{ds:Ģ}{us:ā},Å S H vs ds->Í vs us->∃as,ReadsAll s.heap us ds as/\∀a∈as,S a|_,_,_,.nil,r=>by cases r;exact⟨[],.nil,λ_ h=>nomatch h⟩;|_,_,_,.cons h t,r=>by cases r with|cons r1 r2=>obtain⟨as,h1,h2⟩:=Ó.reads I h r1;obtain⟨bs,h3,h4⟩:=Å.reads I t r2;exact⟨as++bs,.cons h1 h3,λb hb=>(ė.mp hb).elim (h2 b) (h4 b)⟩
end
theorem jD(hg:X.A.guards=some [])(hS:¬S sysModules):dY X (.builtin "repr") (λxs H Q=>∃v d,xs=[v]/\Ó S H v d/\ñ d=true/\sz d<=4000/\X.A.units+(sz d+1)<cLine/\Q (.str d.shown) H):=by
 intro Á s σ H xs us Q I r h;obtain⟨v,d,rfl,th,tm,hz,hu,q⟩:=h;obtain⟨u,rfl,ru⟩:=ÿ r;have hl:=tD d tm;have hsz:d.shown.length<=sizeLine:=by rw[sizeLine_eq];lia
 have fin:∀t h' tk,(∀b o,s.heap.get? b=some o->h'.get? b=some o)->EP X Á σ Q (.str d.shown t) {s with heap:=h',toks:=tk}:=λt h' tk k=>⟨.str d.shown,H,I.kept k,⟨t,O⟩,q⟩
 have kC:=ou d tm;cases th with|non=>cases(show u=Value.none from ru);exact PySem.P.repr_of_none (fin _ s.heap _ λ_ _ e=>e);|bl b=>cases(ru);exact PySem.P.repr_of_bool (fin _ s.heap _ λ_ _ e=>e);|int i=>
  obtain⟨t,rfl⟩:=ru;have:i.natAbs.log2<1920:=by simpa[PyData.showable]using kC
  exact PySem.P.repr_of_int this (fin _ s.heap _ λ_ _ e=>e);|str x=>obtain⟨t,rfl⟩:=ru;exact PySem.P.repr_of_str (fin _ s.heap _ λ_ _ e=>e) hsz;|@lst a xs ds hs e t=>obtain⟨as,rd,ha⟩:=(Ó.lst hs e t).reads I ru;cases(show u=Value.ref a from ru);exact repr_of_reads' rd kC (λ_ hm=>hS (ha _ hm)) hg (by have:=lH _ tm;lia) (λb o e=>e) (λh' t tk k=>fin t h' tk k) hsz;|@tup a xs ds e t=>obtain⟨as,rd,ha⟩:=(Ó.tup (S:=S) e t).reads I ru;cases(show u=Value.ref a from ru);exact repr_of_reads' rd kC (λ_ hm=>hS (ha _ hm)) hg (by have:=lH _ tm;lia) (λb o e=>e) (λh' t tk k=>fin t h' tk k) hsz;|@dct a ks hs e=>obtain⟨as,rd,ha⟩:=(Ó.dct hs e).reads I ru;cases(show u=Value.ref a from ru);exact repr_of_reads' rd kC (λ_ hm=>hS (ha _ hm)) hg (by have:=lH _ tm;lia) (λb o e=>e) (λh' t tk k=>fin t h' tk k) hsz
end
section
def Qp(xs:List V)(i:Nat)(y:V):List V:=xs.take i++y::xs.drop i
inductive η(x:V)(vs:List V)(H:Hp)(Q:VK):Prop|mk:∀l xs i y,(x=.ref l)->(vs=[.int i,y])->(H l=some (.lst xs))->(0<=i)->(i<=xs.length)->(xs.length<sizeLine)->(Q .non (upd H l (.lst (Qp xs i.toNat y))))->η  x vs H Q
def Jb:V->List V->Hp->VK->Prop:=λx vs H Q=>η  x vs H Q
theorem tE:MtM X "list.insert" Jb:=by
 intro Á s σ H x vs v us Q I rx rv h;obtain⟨l,xs,i,y,rfl,rfl,hH,h0,h1,hz,q⟩:=h;cases rx;obtain⟨u,w',rfl,⟨t,rfl⟩,fh⟩:=rv.two;obtain⟨z,Æ,n,r,hl,e⟩:=I.lstM hH;have hn:=ni;refine call_meets F.slot_list_insert ⟨_,e,O⟩ F.entry_list_insert (F.args_list_insert_3 _ _ _) (AutoSeq1.list_insert_list_int_val_1 l Æ.toArray n i t w' (by rw[fitsIndex_both Â Â];exact š) (by rw[ċ];lia)) ⟨e,?_⟩;refine⟨.non,_,I.lset (its':=Æ.take i.toNat++w'::Æ.drop i.toNat) hH e ?_ (Í.append (r.take _) (.cons fh (r.drop _))) ?_,O,q⟩
 .have h2:¬i<0:=Â;have h3:min i.toNat Æ.toArray.size=i.toNat:=by rw[ċ];lia
  simp only[h2,h3];simp;exact Zai (by rw[ϙ];lia)
 .rw[õ,ĵ,ŉ,ϙ];lia
theorem CG(hu:X.A.units<cLine):Ě X (compareOp .Eq) (λx y H Q=>∃a b xs,x=.ref a/\y=.ref b/\Ð X.K H a xs/\Ð X.K H b []/\Q (.bl xs.isEmpty) H):=by
 intro Á s σ H x y v u Q I rx ry h;obtain⟨a,b,xs,rfl,rfl,ha,hb,q⟩:=h;cases rx;cases ry;obtain⟨Æ,r1,p1,_⟩:=I.tuple ha;obtain⟨bS,r2,p2,_⟩:=I.tuple hb;have e2:bS=[]:=r2.zero;subst e2;refine PySem.SeqAt.eq_tupleAt (e:=λ_=>true) p1 p2 hu (λj h1 h2=>absurd h2 Ö) ?_;have e3:((List.range (min Æ.toArray.size ([]:ā).toArray.size)).all (λ_=>true)&&Æ.toArray.size==([]:ā).toArray.size)=xs.isEmpty:=by have:=r1.length;cases Æ with|nil=>cases r1;rfl;|cons a r=>cases xs with|nil=>simp at this;|cons b r'=>simp
 rw[e3];exact⟨.bl _,H,I,O,q⟩
end
section
theorem M3(hj:s.heap.IsTupleIter j t i)(ht:s.heap.IsTuple t Æ)(hx:Æ[i]?=some x)(hQ:∀h',h'.IsTupleIter j t (i+1)->Heap.SameBut j s.heap h'->Q x {s with heap:=h'}):wpAny (model prog w) A (Builtin.SmallTypes.nextOf (.ref j)) Q E s:=by obtain⟨o,ho,hc,hd⟩:=id hj;obtain⟨p,hp,_,m,hm⟩:=ht;refine Ä (wpAny_callSpecial?_slot (name:=Str.ofString "__next__") hj.typeIs F.slot_tuple_iterator_next (wpAny_call_entry F.slot_tuple_iterator_next hj.typeIs F.entry_tuple_iterator_next ?_ (F.args_tuple_iterator_next_1 _)));show wpAny _ _ (field (.ref j) 0>>=_) _ _ s;refine Ä (wpAny_field ho hd (x:=.ref t) O ?_);refine Ä (wpAny_field ho hd (x:=.int i 0) O (Ä (wpAny_seqItems hp hm ?_)));simp only[Int.toNat_natCast,hx];refine Ä (wpAny_setField ho hd Ö (Ú ⟨x,O,Ú (hQ _ ⟨_,Heap.get?_update_self _ ho (Obj.isFreed_of_fields (Obj.data_mapFields hd _)),(Obj.cls_mapFields ..).trans hc,by rw[Obj.data_mapFields hd];simp[rawInt]⟩ (Heap.SameBut.update ..))⟩))
theorem ym(hh:A.handled=none)(hj:s.heap.IsTupleIter j t i)(ht:s.heap.IsTuple t Æ)(hx:Æ[i]?=none)(hE:∀h' e,Heap.ExtBut j s.heap h'->(∃o,h'.get? e=some o/\o.cls=.type "StopIteration")->E (.ref e) {s with heap:=h'}):wpAny (model prog w) A (Builtin.SmallTypes.nextOf (.ref j)) Q E s:=by
 obtain⟨o,ho,hc,hd⟩:=id hj;obtain⟨p,hp,_,m,hm⟩:=ht;refine Ä (wpAny_callSpecial?_slot (name:=Str.ofString "__next__") hj.typeIs F.slot_tuple_iterator_next (wpAny_call_entry F.slot_tuple_iterator_next hj.typeIs F.entry_tuple_iterator_next ?_ (F.args_tuple_iterator_next_1 _)));show wpAny _ _ (field (.ref j) 0>>=_) _ _ s;refine Ä (wpAny_field ho hd (x:=.ref t) O ?_);refine Ä (wpAny_field ho hd (x:=.int i 0) O (Ä (wpAny_seqItems hp hm ?_)));simp only[Int.toNat_natCast,hx];refine Ä (wpAny_rule (Ä (wpAny_setField ho hd Ö ?_)));refine Ä ?_;refine Ä (Γ (Ä (m:=firstArgMember _ _) (wpAny_of_eq (a:=Value.none) (by first|rfl|(simp only[firstArgMember];rfl)) (Γ ?_ (by size_fits)))) (by size_fits));simp only[raiseNew];refine Ä (wpAny_handled ?_);first|rw[show A.in1.handled=none from hh];|rw[hh]
 exact Ä (Ú (wpAny_throw (hE _ _ (((Heap.SameBut.update ..).extBut.push _).push _) ⟨_,Ĩ _ O,O⟩)))
end
section
end
theorem Ó.same(h:Ó S H v d)(s:À H H'):Ó S H' v d:=h.keep (λb xs e=>s b _ e) (λb o _ e=>s b o e) λ_ _ z _=>z
theorem Å.same(h:Å S H v d)(s:À H H'):Å S H' v d:=h.keep (λb xs e=>s b _ e) (λb o _ e=>s b o e) λ_ _ z _=>z
theorem À.upd(h:H D=none):À H (upd H D o):=λb u e=>by rw[au (aA e h)];exact e
theorem À.updR(s:À H H')(h:H' D=none):À H (L2.upd H' D o):=s.trans (À.upd h)
theorem wk{K:Frag}(f:PyData->Bool){H0:Hp}{Fin:List V->Hp->Prop}(hT:H0 a=some (.tup xs))(th:Å S H0 xs ds)(hl:xs.length<sizeLine)(kP:∀v d H Q,d∈ds->À H0 H->Ó S H v d->(∀H',À H H'->Q (.bl (f d)) H')->te (eJ.set j (some v)) H Q)(fin:∀H',À H0 H'->Fin (ds.map λd=>V.bl (f d)) H'):lB (Itt K a) (bU j) ye te Fin eJ H0:=by
 have hlen:=th.length;refine⟨λi m ys σ H=>m=xs.length-i/\i<=xs.length/\ys=(ds.take i).map (λd=>V.bl (f d))/\(∀o,σ.set j o=eJ.set j o)/\À H0 H,⟨_,O,į _,O,λ_=>rfl,À.refl _⟩,?_⟩;rintro i m ys σ H⟨rfl,hi,rfl,ij,hs⟩;have sq:Ð K H a xs:=Ð.of (hs _ _ hT);refine⟨by rw[Õ,ŉ];lia,?_⟩;by_cases aI:i<xs.length;.refine .inr ⟨⟨xs,xs[i],sq,by simp[aI]⟩,λx H' y=>?_⟩;obtain⟨e,y⟩:=y;subst e;have hx:=y xs sq;obtain⟨d,hd,ht⟩:=(th.same hs).get hx;show te (σ.set j (some x)) H' _;rw[ij];refine kP x d H' _ (Α hd) hs ht λH2 s2=>⟨xs.length-(i+1),Â,O,aI,?_,λo=>by rw[List.set_set],hs.trans s2⟩;rw[ĺ,hd];simp
 .have e:i=xs.length:=Â;subst e;refine .inl ⟨⟨xs,sq,Ü _⟩,?_⟩;rw[hlen,ň];exact fin H hs
theorem Fg{ds:Ģ}:ds.map (λd=>V.bl (f d))=(ds.map f).map V.bl:=by rw[ĳ];rfl
theorem M4{ds:Ģ}:(ds.map f).all id=ds.all f:=by rw[List.all_map];rfl
section
def Fi(t:TA):TE:=λσ H Q=>t σ H λxs H1=>xs.length<=sizeLine/\∀p,H1 p=none->p≠sysModules->Q (.ref p) (upd H1 p (.lst xs))
theorem uG(h:PA X es t):PE X (.List es pos) (Fi t):=by intro Á s σ H Q I hq;refine wpAny_List_spliced (Ý (h pos Á s σ H _ I hq) λus s1⟨xs,H1,I1,r,z,q⟩=>⟨by rw[<-r.length];exact z,?_⟩);have hf:H1 s1.heap.objs.size=none:=I1.hok.fresh (Ü _);refine⟨.ref s1.heap.objs.size,_,I1.laid (o:=.lst xs) (t':=s1.toks) (λb u e=>þ _ e) (Ü _) ⟨z,us,0,r,Ĩ _ O⟩,O,q _ hf (ϗ I1.big)⟩
theorem jK:dY X (.type "list") (λxs H Q=>∃p ys,xs=[.ref p]/\Ð X.K H p ys/\∀l,H l=none->l≠sysModules->Q (.ref l) (upd H l (.lst ys))):=by intro Á s σ H xs us Q I r h;obtain⟨p,ys,rfl,hq,q⟩:=h;obtain⟨u,rfl,rx⟩:=ÿ r;cases rx;obtain⟨Æ,r',pl,hz⟩:=I.tuple hq;have hlen:=r'.length;obtain⟨o,ho,hc,n,hd⟩:=pl;refine call_list_seq p (.inr O) ho hc hd (λh' c' kp e=>?_) (by simp only[List.size_toArray];lia);exact⟨.ref s.heap.objs.size,_,I.laid (t':=s.toks) kp (Ü _) (show Û X.prog X.w _ h' _ (.lst ys)from⟨hz,Æ,c',r',e⟩),O,q _ (I.hok.fresh (Ü _)) (ϗ I.big)⟩
def yo:TE:=λ_ H Q=>∀p,H p=none->p≠sysModules->Q (.ref p) (upd H p (.dK []))
theorem wu:PE X (.Dict [] [] pos) yo:=λÁ s σ H Q I h=>wpAny_Dict_empty ⟨.ref s.heap.objs.size,_,I.laid (a:=s.heap.objs.size) (o:=.dK []) (t':=s.toks) (λ_ _ q=>þ _ q) (Ü _) (qi s.heap I.big),O,h _ (I.hok.fresh (Ü _)) (ϗ I.big)⟩
def yp(kB:List (TE×TE)):TE:=λσ H Q=>∀p,H p=none->p≠sysModules->uE kB σ (upd H p (.dK [])) λps H2=>H2 p=some (.dK [])/\∃kvs,ps=kvs.map (λkv=>(kV kv.1,kv.2))/\kvs.length<=15/\Q (.ref p) (upd H2 p (.dK (iy [] kvs)))
theorem Fj(h:PPs X pos keys values kB)(mP:keys.all (·.isSome)=true)(hl:keys.length=values.length)(h0:keys≠[])(LD:keys.length<=15):PE X (.Dict keys values pos) (yp kB):=by
 intro Á s σ H Q I q;have hn:=I.hok.fresh (Ü s.heap.objs.size);have I1:=I.laid (a:=s.heap.objs.size) (o:=.dK []) (h':=s.heap.push {cls:=.type "dict",data:=.dict #[]}) (t':=s.toks) (λ_ _ q=>þ _ q) (Ü _) (qi s.heap I.big);refine wpAny_Dict_walk (knd:=bH X.prog X.w) mP hl h0 LD (Ý (h Á _ σ _ _ I1 (q _ hn (ϗ I.big))) λws s2=>?_);rintro⟨ps,H2,I2,rel,e,kvs,ep,lk,q2⟩;subst ep;obtain⟨rs,c,rk⟩:=jT (P:=X.prog) (w:=X.w) rel;obtain⟨z,hd,U2,r0,dd⟩:=Fd I2.hok e;cases r0;refine⟨rs,c,dd,λh' mh hs=>⟨.ref s.heap.objs.size,_,?_,O,q2⟩⟩;have hz:(iy [] kvs).length<=sizeLine:=by have h1:=iz kvs [];rw[List.length_nil]at h1;rw[sizeLine_eq];lia
 have he:∃q,h'.get? s.heap.objs.size=some q:=by obtain⟨q,_,_,hq,_⟩:=mh;exact⟨q,hq⟩
 exact lE I2 (by rw[e];exact True.intro) hs he (yh hz hd (rk.merge .nil) mh)
end
section
def Aa(r r' G0:R2)(ta tb tc td:TE):TE:=λσ H Q=>ta σ H λx H1=>tb σ H1 λy H2=>r x y H2 λz H3=>∃k,z=.bl k/\(if k=true then tc σ H3 λx2 H4=>r' y x2 H4 λz2 H5=>∃k2,z2=.bl k2/\(if k2=true then td σ H5 λx3 H6=>G0 x2 x3 H6 Q else Q (.bl false) H5)else Q (.bl false) H3)
theorem CJ(h1:Ě X (compareOp o1) r)(h2:Ě X (compareOp o2) r')(h3:Ě X (compareOp o3) G0)(ha:PE X a ta)(hb:PE X b tb)(hc:PE X c tc)(hd:PE X d td)(hm:lastMarks [o1,o2,o3] [b,c,d]=false:=by with_unfolding_all rfl):PE X (.Compare a [o1,o2,o3] [b,c,d] pos) (Aa r r' G0 ta tb tc td):=by intro Á s σ H Q I h;refine Compare_chain (Ý (ha Á s σ H _ I h) λv s1⟨x,H1,I1,r1,q1⟩=>chain_link (Ý (hb Á s1 σ H1 _ I1 q1) λu s2⟨y,H2,I2,r2,q2⟩=>Ý (h1 Á s2 σ H2 x y v u _ I2 r1 r2 q2) λg s3⟨z,H3,I3,r3,k,e,q3⟩=>?_)) hm;subst e;cases r3;refine wpAny_truthy_bool ?_;cases k with|false=>exact ite_ff ⟨.bl false,H3,I3,O,q3⟩;|true=>refine ite_tt (chain_link (Ý (hc Á s3 σ H3 _ I3 q3) λw' s4⟨z',H4,I4,r4,q4⟩=>Ý (h2 Á s4 σ H4 y z' u w' _ I4 r2 r4 q4) λg2 s5=>?_));rintro⟨z5,H5,I5,r5,k2,e2,q5⟩;subst e2;cases r5;refine wpAny_truthy_bool ?_;cases k2 with|false=>exact ite_ff ⟨.bl false,H5,I5,O,q5⟩;|true=>exact ite_tt (chain_last (Ý (hd Á s5 σ H5 _ I5 q5) λw6 s6=>by rintro⟨z6,H6,I6,r6,q6⟩;exact h3 Á s6 σ H6 z' z6 w' w6 Q I6 r4 r6 q6))
end
def Ev(σ:St)(H:Hp)(t:TE)(v:V):Prop:=∀Q,Q v H->t σ H Q
section
theorem gm:Ev σ H (tC v) v:=λ_ h=>h
theorem dU(h:σ[i]?=some (some v)):Ev σ H (Ck i) v:=λ_ q=>⟨v,h,q⟩
theorem M5(a:Ev σ H ta (.int i))(b:Ev σ H tb (.int j))(c:C i j):Ev σ H (Ϲ (rI C g) ta tb) (g i j):=λ_ q=>a _ (b _ ⟨i,j,O,O,c,q⟩)
theorem cz{p q:Int->Int->Bool}(a:Ev σ H ta (.int i))(b:Ev σ H tb (.int j))(c:Ev σ H tc (.int k)):Ev σ H (xY (ϳ λi j=>.bl (p i j)) (ϳ λi j=>.bl (q i j)) ta tb tc) (.bl (p i j&&q j k)):=λQ h=>a _ (b _ ⟨i,j,O,O,_,O,by cases e:p i j with|false=>rw[e]at h;exact bB h;|true=>rw[e]at h;exact bK (c _ ⟨j,k,O,O,h⟩)⟩)
theorem CK{p q r:Int->Int->Bool}(a:Ev σ H ta (.int i))(b:Ev σ H tb (.int j))(c:Ev σ H tc (.int k))(d:Ev σ H td (.int l)):Ev σ H (Aa (ϳ λi j=>.bl (p i j)) (ϳ λi j=>.bl (q i j)) (ϳ λi j=>.bl (r i j)) ta tb tc td) (.bl (p i j&&(q j k&&r k l))):=λQ h=>a _ (b _ ⟨i,j,O,O,_,O,by cases e:p i j with|false=>rw[e]at h;exact bB h;|true=>rw[e]at h;refine bK (c _ ⟨j,k,O,O,_,O,?_⟩);cases e2:q j k with|false=>rw[e2]at h;exact bB h;|true=>rw[e2]at h;exact bK (d _ ⟨k,l,O,O,h⟩)⟩)
theorem j5(x:Ev σ H ta (.bl b))(y:b=true->Ev σ H tb (.bl c)):Ev σ H (Km ta tb) (.bl (b&&c)):=λQ h=>x _ ⟨b,O,by cases e:b with|false=>rw[e]at h;exact bB h;|true=>rw[e]at h;exact bK (y e _ h)⟩
end
structure Č(e:Expr):Prop where eq:∀es env,starEach (e::es) env=(false,eval e env)::starEach es env
theorem jj{c j p}:Č (.Constant c j p):=⟨λ_ _=>rfl⟩
theorem jU{x p}:Č (.Name x p):=⟨λ_ _=>rfl⟩
theorem jk{es k p}:Č (.Tuple es k p):=⟨λ_ _=>rfl⟩
theorem jV{es p}:Č (.List es p):=⟨λ_ _=>rfl⟩
theorem jW{ks vs p}:Č (.Dict ks vs p):=⟨λ_ _=>rfl⟩
theorem jX{f as ks p}:Č (.Call f as ks p):=⟨λ_ _=>rfl⟩
theorem ľ{a o b p}:Č (.BinOp a o b p):=⟨λ_ _=>rfl⟩
theorem qu{o a p}:Č (.UnaryOp o a p):=⟨λ_ _=>rfl⟩
theorem nG{a b p}:Č (.Subscript a b p):=⟨λ_ _=>rfl⟩
theorem jY{a b c p}:Č (.ListComp a b c p):=⟨λ_ _=>rfl⟩
theorem nH{a b c p}:Č (.Compare a b c p):=⟨λ_ _=>rfl⟩
section
theorem aq(ha:PE X e te)(hr:PA X es t)(hp:Č e:=by first|exact jU|exact jj|exact jX|exact jk|exact jV|exact ľ|exact nG|exact qu|exact jW|exact jY|exact nH):PA X (e::es) (iD te t):=aR ha hr (hp.eq _ _)
end
structure AA(X:Cx)(es:Qa6)(t:TA):Prop where run:PA X es t
section
theorem bN:AA X [] vI:=⟨ao⟩
theorem jZ(ha:PE X e te)(hr:AA X es t)(hp:Č e:=by first|exact jU|exact jj|exact jX|exact jk|exact jV|exact ľ|exact nG|exact qu|exact jW|exact jY|exact nH):AA X (e::es) (iD te t):=⟨aR ha hr.run (hp.eq _ _)⟩
theorem Ab{x1}(h:AA X es t):PE X (.Tuple es x1 pos) (IK t):=bM h.run
theorem uH(h:AA X es t):PE X (.List es pos) (IV t):=cX h.run
end
inductive ŝ:Qa6->WF->Prop|nil:ŝ [] []|cons{i:Int}{j:Nat}{p:Pos}{es:Qa6}{is:WF}:ŝ es is->ŝ (.Constant (.int i) j p::es) (i::is)
def Og(is:WF):TA:=λ_ H Q=>Q (is.map V.int) H
theorem lJ:∀{es:Qa6}{is:WF},ŝ es is->PA X es (Og is)|_,_,.nil=>λ_ _ _ _ H Q I h=>Calls.spliced_nil ⟨[],H,I,.nil,h⟩|_,_,@ŝ.cons i j p es is r=>by have h:=aq (X:=X) (aB (i:=i) (j:=j) (pos:=p)) (lJ r);exact h
theorem fH{k:Nat}{pos:Pos}{K:Frag}{n:Nat}(hK:X.K=K)(hc:X.calm=true)(h:PGs X es t)(hn:(assignEach es X.env).length=n:=by rfl)(dS:(assignEach es X.env).findIdx? (·.1)=none:=by rfl):PG X (.Tuple es k pos) (mW K n t):=by subst hK;exact bR hc h hn dS
structure BE(X:Cx)(e:Expr)(t:TE):Prop where run:PE X e t
section
theorem bf(ha:BE X e te)(hr:AA X es t)(hp:Č e:=by first|exact jU|exact jj|exact jX|exact jk|exact jV|exact ľ|exact nG|exact qu|exact jW|exact jY|exact nH):AA X (e::es) (iD te t):=jZ ha.run hr hp
theorem Fl(h:BE X e te):PE X e te:=h.run
theorem j6{j}:BE X (.Constant (.int i) j pos) (tC (.int i)):=⟨aB⟩
theorem qw{j}:BE X (.Constant (.bool b) j pos) (tC (.bl b)):=⟨kW⟩
theorem Fo{j}:BE X (.Constant .none j pos) (tC .non):=⟨pO⟩
theorem dh{j}:BE X (.Constant (.str x) j pos) (tC (.str x)):=⟨xU⟩
theorem M6{j q}:BE X (.UnaryOp .USub (.Constant (.int i) j q) pos) (tUn (rU λi=>.int (-i)) (tC (.int i))):=⟨pU jO aB⟩
theorem M7{j j' q q'}:BE X (.BinOp (.Constant (.int i) j q) .Pow (.Constant (.int k) j' q') pos) (Ϲ (rI O3 λi j=>.int (i^j.toNat)) (tC (.int i)) (tC (.int k))):=⟨aU pW aB aB⟩
theorem gA{x1}(h:AA X es t):BE X (.Tuple es x1 pos) (IK t):=⟨bM h.run⟩
theorem fQ(h:AA X es t):BE X (.List es pos) (IV t):=⟨cX h.run⟩
end
structure BS(X:Cx)(st:Stmt)(t:TS):Prop where run:PS X st t
structure BSs(X:Cx)(KL:List Stmt)(t:TS):Prop where run:Ō X KL t
section
variable{st:Stmt}{pos:Pos}
theorem jl(h:BSs X rest t):Ō X rest t:=h.run
theorem aN(h1:BS X st t)(h2:BSs X rest u):BSs X (st::rest) (Ir t u):=⟨aC h1.run h2.run⟩
theorem cj(h1:BS X st t):BSs X [st] t:=⟨aF h1.run⟩
theorem yq(hN:X.N.Nodup)(hi:X.N[i]?=some x)(hx:Loc X.env.scope x)(he:BE X e te)(hs:swapsWith e (some (.Name x pos')) pos.line X.env=pure false:=by rfl)(hf:X.fn x=true\/X.env.scope.names.lookup x=some .local:=by first|exact .inl O|exact .inr O|assumption):BS X (.Assign [.Name x pos'] e pos) (xV te (bU i)):=⟨mY hN hi hx he.run hs hf⟩
theorem fU(he:BE X e te):BS X (.Return (some e) pos) (Ln te):=⟨aQ he.run⟩
theorem jL(ho:Ě X (binaryOp op) r)(ha:BE X a ta)(hb:BE X b tb):BE X (.BinOp a op b pos) (Ϲ r ta tb):=⟨aU ho ha.run hb.run⟩
theorem tG(hr:IxR X r)(ha:BE X a ta)(hb:BE X b tb)(hs:uq b):BE X (.Subscript a b pos) (Ϲ r ta tb):=⟨Kq hr ha.run hb.run hs⟩
end
theorem Ô{X:Cx}{pos:Pos}(i:Nat)(hN:X.N.Nodup)(hi:X.N[i]?=some x:=by rfl)(hx:Loc X.env.scope x:=by exact Or.inl O)(hf:X.fn x=true\/X.env.scope.names.lookup x=some .local:=by first|exact .inl O|exact .inr O):PG X (.Name x pos) (bU i):=bF hN hi hx hf
theorem đ{pos pos':Pos}(i:Nat)(hN:X.N.Nodup)(he:PE X e te)(hi:X.N[i]?=some x:=by rfl)(hx:Loc X.env.scope x:=by exact Or.inl O)(hs:swapsWith e (some (.Name x pos')) pos.line X.env=pure false:=by rfl)(hf:X.fn x=true\/X.env.scope.names.lookup x=some .local:=by first|exact .inl O|exact .inr O):PS X (.Assign [.Name x pos'] e pos) (xV te (bU i)):=mY hN hi hx he hs hf
theorem fM{pos pos':Pos}(i:Nat)(hN:X.N.Nodup)(he:BE X e te)(hi:X.N[i]?=some x:=by rfl)(hx:Loc X.env.scope x:=by exact Or.inl O)(hs:swapsWith e (some (.Name x pos')) pos.line X.env=pure false:=by rfl)(hf:X.fn x=true\/X.env.scope.names.lookup x=some .local:=by first|exact .inl O|exact .inr O):BS X (.Assign [.Name x pos'] e pos) (xV te (bU i)):=yq hN hi hx he hs hf
theorem pX(hr:IxR X r)(ha:PE X a ta)(hb:PE X b tb)(hs:uq b:=by exact λ_ _=>rfl):PE X (.Subscript a b pos) (Ϲ r ta tb):=Kq hr ha hb hs
theorem zL{n:Nat}(h:Nat.ble n 1000=true:=by rfl):n<=sizeLine:=Ņ (Nat.le_of_ble_eq_true h) Ù
theorem cI(h:ĕ X cb N r)(h1:X.N[i]?=some x:=by rfl)(h2:X.env.kindOf x=some .cell:=by rfl)(h3:cb.cells.lookup x=X.env.cells.lookup x:=by rfl)(h4:cb.kindOf x=some .cell:=by rfl):ĕ X cb (x::N) (some i::r):=⟨⟨h1,.inl h2,h3,.inl h4⟩,h⟩
theorem ú{N P:ð}{sc:Scope}(h1:sc.kind=.function:=by rfl)(h2:sc.isCoroutine=false:=by rfl)(h3:sc.isGenerator=false:=by rfl)(h4:N.Nodup:=by decide+kernel)(h5:N.take P.length=P:=by rfl)(h6:∀x∈P,sc.names.lookup x=some .local\/sc.names.lookup x=some .cell:=by decide+kernel)(h7:∀y∈sc.names,y.2≠.free:=by decide+kernel):Ã N P sc:=⟨h1,h2,h3,h4,h5,h6,h7⟩
section
theorem Ac(h:AA X es t):BE X (.List es pos) (Fi t):=⟨uG h.run⟩
theorem Fp:BE X (.Dict [] [] pos) yo:=⟨wu⟩
theorem Fq{a b p q}:BE X (.Dict [some (.Constant (.int i) a p)] [.Constant (.int j) b q] pos) (yp [(tC (.int i),tC (.int j))]):=⟨Fj (vY aB aB zV) O O Ö (by show 1<=15;decide)⟩
end
def ThE(S:Addr->Prop)(σ:St)(H:Hp)(t:TE)(d:PyData):Prop:=∀H0,À H H0->∀Q,(∀v H',À H0 H'->Ó S H' v d->Q v H')->t σ H0 Q
def ThA(S:Addr->Prop)(σ:St)(H:Hp)(t:TA)(ds:Ģ):Prop:=∀H0,À H H0->∀Q,(∀vs H',À H0 H'->Å S H' vs ds->Q vs H')->t σ H0 Q
section
theorem Jc(h:∀H',Ó S H' v d):ThE S σ H (tC v) d:=λH0 _ Q q=>q v H0 (À.refl _) (h H0)
theorem km:ThE S σ H (tC (.int i)) (.int i):=Jc λ_=>.int i
theorem Kv:ThE S σ H (tC (.bl b)) (.bool b):=Jc λ_=>.bl b
theorem Ft:ThE S σ H (tC .non) .none:=Jc λ_=>.non
theorem uI:ThE S σ H (tC (.str x)) (.str x):=Jc λ_=>.str x
theorem Kw(h:∀H',Ev σ H' t (.int i)):ThE S σ H t (.int i):=λH0 _ Q q=>h H0 _ (q _ H0 (À.refl _) (.int i))
theorem iB:ThA S σ H vI []:=λH0 _ Q q=>q [] H0 (À.refl _) .nil
theorem bI(h1:ThE S σ H te d)(h2:ThA S σ H ta ds):ThA S σ H (iD te ta) (d::ds):=λH0 s0 Q q=>h1 H0 s0 _ λv H1 s1 t1=>h2 H1 (s0.trans s1) _ λvs H2 s2 t2=>q (v::vs) H2 (s1.trans s2) (.cons (t1.same s2) t2)
theorem nJ(h:ThA S σ H ta ds)(hl:ds.length<=4000):ThE S σ H (IK ta) (.tuple ds):=λH0 s0 Q q=>h H0 s0 _ λvs H1 s1 t1=>⟨by rw[t1.length,sizeLine_eq];lia,λp hp=>q _ _ (s1.updR hp) (.tup aj (t1.same (À.upd hp)))⟩
theorem Ad(h:ThA S σ H ta ds)(hl:ds.length<=4000)(hS:∀H',À H H'->∀p,H' p=none->p≠sysModules->S p):ThE S σ H (Fi ta) (.list ds):=λH0 s0 Q q=>h H0 s0 _ λvs H1 s1 t1=>⟨by rw[t1.length,sizeLine_eq];lia,λp hp np=>q _ _ (s1.updR hp) (.lst (hS H1 (s0.trans s1) p hp np) aj (t1.same (À.upd hp)))⟩
theorem Jd(hS:∀H',À H H'->∀p,H' p=none->p≠sysModules->S p):ThE S σ H yo (.dict []):=λH0 s0 Q q p hp np=>q _ _ (À.upd hp) (.dct (ks:=[]) (hS H0 s0 p hp np) aj)
theorem Fv(hS:∀H',À H H'->∀p,H' p=none->p≠sysModules->S p):ThE S σ H (yp [(tC (.int i),tC (.int j))]) (.dict [(.int i,.int j)]):=λH0 s0 Q q p hp np=>by refine⟨aj,[(Sum.inl i,.int j)],O,by show 1<=15;decide,q _ _ (λb o e=>?_) (.dct (ks:=[(Sum.inl i,j)]) (hS H0 s0 p hp np) aj)⟩;rw[au (aA e hp),au (aA e hp)];exact e
end
section
theorem cW(h:D.nx σ H):En D σ H:=h
theorem aM(h:t {D with nx:=u D} σ H):Ir t u D σ H:=h
theorem aP(h:∀c,(∀av H',u D av H'->c av H')->t {D with nx:=c} σ H):Ir t u D σ H:=h (u D) λ_ _ z=>z
theorem aV(h:te σ H λx H1=>g x σ H1 D.nx):xV te g D σ H:=h
theorem j7(h:te σ H D.rt):Ln te D σ H:=h
theorem nM(h:ta σ H λxs H1=>xs.length<=sizeLine/\∀p,H1 p=none->Q (.ref p) (upd H1 p (.lst xs))):IV ta σ H Q:=h
theorem aG(h:R (σ.set i (some v)) H):bU i v σ H R:=h
end
section
def Oh(i j k:Nat)(ta:TA):TS:=λD σ H=>ta σ H λvs H1=>∃v w u,vs=[v,w,u]/\D.nx (((σ.set i (some v)).set j (some w)).set k (some u)) H1
theorem Ae{kt k2 pt2}(hc:X.calm=true)(hN:X.N.Nodup)(hi:X.N[i]?=some x)(hj:X.N[j]?=some y)(hk:X.N[k]?=some z)(yA:i≠j)(U4:i≠k)(hjk:j≠k)(hx:X.env.scope.names.lookup x=some .local)(hy:X.env.scope.names.lookup y=some .local)(hz:X.env.scope.names.lookup z=some .local)(ha:PA X [a,b,c] ta)(hw:swappedStores [.Tuple [.Name x px,.Name y py,.Name z pz] kt pt] (.Tuple [a,b,c] k2 pt2) X.env=pure (some [x,y,z]))(hs:swapsWithSole [.Tuple [.Name x px,.Name y py,.Name z pz] kt pt] (.Tuple [a,b,c] k2 pt2) pos.line X.env=pure false:=by rfl):PS X (.Assign [.Tuple [.Name x px,.Name y py,.Name z pz] kt pt] (.Tuple [a,b,c] k2 pt2) pos) (Oh i j k ta):=by
 intro Á s σ H D I h;refine Assign_Tuple_swapped (names:=[x,y,z]) (Tuple_ (Ý (ha _ Á s σ H _ I h) λus s1=>?_)) hs hw;rintro⟨vs,H1,I1,r1,q1⟩;obtain⟨v,w,u,e1,q1⟩:=q1;subst e1;obtain⟨u1,u2,u3,rfl,rv,fh,ru⟩:∃u1 u2 u3,us=[u1,u2,u3]/\Ò v u1/\Ò w u2/\Ò u u3:=by cases r1 with|cons p q=>cases q with|cons p' q'=>cases q' with|cons p2 q2=>cases q2;exact⟨_,_,_,O,p,p',p2⟩
 refine Γ ?_ (by show 3<=sizeLine;decide);have I2:Ç X Á σ H1 {s1 with heap:=s1.heap.push {cls:=.type "tuple",data:=.seq [u1,u2,u3].toArray}}:=I1.kept (t':=s1.toks) λb o e=>þ _ e;refine unpackItems_tuple (items:=#[u1,u2,u3]) (I.ok.hd hc) (IsTup.new s1.heap _) λh' cE=>?_;have I3:=I2.kept (h':=h') (t':=s1.toks) λb o e=>cE b o (Ħ (ü e)) e;refine assignInOrder_cons (wpAny_bindName (fZ I3 hN hk (.inl hz) ru (λs2 I4=>?_) (.inr hz)));refine assignInOrder_cons (wpAny_bindName (fZ I4 hN hj (.inl hy) fh (λs3 I5=>?_) (.inr hy)));refine assignInOrder_cons (wpAny_bindName (fZ I5 hN hi (.inl hx) rv (λs4 I6=>assignInOrder_nil ?_) (.inr hx)));rw[List.set_comm _ _ (Ne.symm yA),List.set_comm _ _ (Ne.symm U4),List.set_comm _ _ (Ne.symm hjk)]at I6;exact⟨_,H1,I6,q1⟩
end
theorem qy:fillsNumberSlot (.type "tuple") "mul"=pure false:=PySem.fillsNumberSlot_seq (id:="tuple.__mul__") (r:=some (.builtin "tuple.__rmul__")) F.slot_tuple_mul.lookup z04 F.slot_tuple_rmul.lookup z04
theorem yt:seqRepeat? (.type "tuple")=pure (some (.builtin "tuple.__mul__")):=by rfl
open Builtin in
theorem uJ(a:Int)(t:Tok)(l:Addr)(items:ϐ)(n:Nat)(dd:Option Addr)(sl:Array (Qa8)):Meets (Builtin.«int.__rmul__» ⟨[.int a t,.ref l],[]⟩) (λ_ R s=>s.heap.get? l=some {cls:=.type "tuple",dict:=dd,data:=.seq items n,slots:=sl}/\R (.ok (.ret Value.notImplemented)) s):=by refine .of_wp λprog w A R s h=>?_;obtain⟨hl,h⟩:=h;wp_walk;exact⟨_,O,h⟩
open Builtin in
theorem Fw(l:Addr)(items:ϐ)(n:Nat)(u:Tok)(dd:Option Addr)(sl:Array (Qa8)):Meets (Builtin.«tuple.__mul__» ⟨[.ref l,.int 1 u],[]⟩) (λ_ R s=>s.heap.get? l=some {cls:=.type "tuple",dict:=dd,data:=.seq items n,slots:=sl}/\R (.ok (.ret (.ref l))) s):=by refine .of_wp λprog w A R s h=>?_;obtain⟨hl,h⟩:=h;wp_walk;exact⟨_,O,h⟩
open Builtin in
theorem Fx(l:Addr)(items:ϐ)(n:Nat)(u:Tok)(dd:Option Addr)(sl:Array (Qa8))(hi:items.isEmpty=false):Meets (Builtin.«tuple.__mul__» ⟨[.ref l,.int 0 u],[]⟩) (λ_ R s=>s.heap.get? l=some {cls:=.type "tuple",dict:=dd,data:=.seq items n,slots:=sl}/\R (.ok (.ret (.ref s.heap.objs.size))) {s with heap:=s.heap.push {cls:=.type "tuple",data:=.seq #[]}}):=by refine .of_wp λprog w A R s h=>?_;obtain⟨hl,h⟩:=h;wp_walk;exact⟨_,O,h⟩
open Builtin in
theorem Fy(l:Addr)(items:ϐ)(n:Nat)(k:Int)(u:Tok)(dd:Option Addr)(sl:Array (Qa8))(hi:items.isEmpty=false)(h2:2<=k)(h3:k<=1000)(h4:items.size<=1000):Meets (Builtin.«tuple.__mul__» ⟨[.ref l,.int k u],[]⟩) (λ_ R s=>s.heap.get? l=some {cls:=.type "tuple",dict:=dd,data:=.seq items n,slots:=sl}/\R (.ok (.ret (.ref s.heap.objs.size))) {s with heap:=s.heap.push {cls:=.type "tuple",data:=.seq ((List.replicate k.toNat items).foldl (·++·) #[])}}):=by
 refine .of_wp λprog w A R s h=>?_;obtain⟨hp,g,d,tk,os⟩:=s;obtain⟨hl,h⟩:=h;have f1:=PySem.AutoSeq1.idx_int;have f2:=PySem.AutoSeq1.sub_tuple_tuple;have m1:items.size*k.toNat<=1000*1000:=Nat.mul_le_mul h4 Â;have m2:(items.size:Int)*k=((items.size*k.toNat:Nat):Int):=by rw[Int.natCast_mul,Int.toNat_of_nonneg Â]
 have c0:(decide (k< -2^63)||decide (k≥2^63))=false:=by rw[ħ Â,ħ Â];rfl
 have c1:(items.isEmpty||k==1)=false:=by rw[hi,show(k==1)=false from by simpa using(by lia:k≠1)];rfl
 have c2:(decide (k<=0)||items.isEmpty)=false:=by rw[hi,ħ Â];rfl
 have c3:¬((items.size:Int)*k>(2^63-1)/8):=by rw[m2];lia
 have c4:Builtin.Tuple.tupleTooMany ((items.size:Int)*k)=false:=by rw[m2];unfold Builtin.Tuple.tupleTooMany;refine ħ ?_;rw[sizeLine_eq];lia
 wp_walk;have nf:∀{b:Bool},b=false->decide (b=true)=false:=λ{b}e=>by rw[e];rfl
 refine wpAny_ite_false (nf c0) ?_;wp_walk;refine wpAny_ite_false (nf c1) ?_;refine wpAny_ite_false (nf c2) ?_;refine wpAny_ite_false (ħ c3) ?_;refine wpAny_ite_false (nf c4) ?_;have z:(List.foldl (λx1 x2=>x1++x2) #[] (List.replicate k.toNat items)).size<=sizeLine:=by have e:=ġ items.toList k.toNat [];rw[List.nil_append]at e;rw[e,ċ,Ÿ,Ŋ,sizeLine_eq,Nat.mul_comm];lia
 wp_walk;exact⟨_,O,h⟩
def Oi(K:Frag):R2:=λx y H Q=>∃a k xs,x=.ref a/\y=.int k/\Ð K H a xs/\xs≠[]/\xs.length<=1000/\((k=1/\Q (.ref a) H)\/((k=0\/(2<=k/\k<=1000))/\∀p,H p=none->Q (.ref p) (upd H p (.tup (List.replicate k.toNat xs).flatten))))
theorem Je:Ě X (binaryOp .Mult) (Oi X.K):=by
 intro Á s σ H x y v u Q I rx ry h;obtain⟨a,k,xs,rfl,rfl,ha,hx,hl,h⟩:=h;cases rx;obtain⟨t,rfl⟩:=ry;obtain⟨Æ,r,p1,_⟩:=I.tuple ha;have hlen:=r.length;have hv:Æ≠[]:=λz=>hx (r.nil_iff.mp z);have PF:Æ.toArray.isEmpty=false:=by cases Æ with|nil=>exact absurd O hv;|cons _ _=>rfl
 obtain⟨⟨cls,dd,data,sl⟩,ho,hc,n,hd⟩:=id p1;simp only at hc hd;subst hc hd;refine wpAny_binaryOp_repeat_ref (T:="tuple") (U:="int") Ù ⟨_,ho,O⟩ (λs'=>typeIs_int s' k t) qy F.fills_int_mul F.slot_int_rmul yt F.slot_int_index.lookup (call_meets F.slot_int_rmul (typeIs_int s k t) F.entry_int_rmul (F.args_int_rmul_2 _ _) (uJ k t a Æ.toArray n dd sl) ⟨ho,O,⟨_,ho,O⟩,?_⟩);rcases h with⟨rfl,q⟩|⟨rfl|⟨k2,k3⟩,q⟩;.exact call_meets F.slot_tuple_mul ⟨_,ho,O⟩ F.entry_tuple_mul (F.args_tuple_mul_2 _ _) (Fw a Æ.toArray n t dd sl) ⟨ho,.ref a,H,I,O,q⟩
 .refine call_meets F.slot_tuple_mul ⟨_,ho,O⟩ F.entry_tuple_mul (F.args_tuple_mul_2 _ _) (Fx a Æ.toArray n t dd sl PF) ⟨ho,?_⟩;exact⟨.ref s.heap.objs.size,_,I.laid (t':=s.toks) (o:=.tup []) (λb ob q=>þ _ q) (Ü _) ⟨į _,[],.nil,IsTup.new _ _⟩,O,q _ (I.hok.fresh (Ü _))⟩
 .refine call_meets F.slot_tuple_mul ⟨_,ho,O⟩ F.entry_tuple_mul (F.args_tuple_mul_2 _ _) (Fy a Æ.toArray n k t dd sl PF k2 k3 (by rw[ċ];lia)) ⟨ho,?_⟩;have e:=ġ Æ k.toNat [];rw[e];refine⟨.ref s.heap.objs.size,_,I.laid (t':=s.toks) (o:=.tup (List.replicate k.toNat xs).flatten) (λb ob q=>þ _ q) (Ü _) ⟨?_,_,r.rep k.toNat,IsTup.new _ _⟩,O,q _ (I.hok.fresh (Ü _))⟩;rw[Ÿ,sizeLine_eq];have:=Nat.mul_le_mul (show k.toNat<=1000 by lia) hl;lia
end L2
namespace L2.ZT
open PySem PySem.Spec PyProof.Rows L2
def nm(t:Bool):String:=match t with|true=>"tuple_iterator"|false=>"list_iterator"
def tn(t:Bool):String:=match t with|true=>"tuple"|false=>"list"
def Io(t:Bool)(h:Heap)(a l:Addr)(i:Nat):Prop:=∃o,h.get? a=some o/\o.cls=.type (nm t)/\o.data=.fields #[.ref l,.int i 0]
def Sq(t:Bool)(h:Heap)(a:Addr)(items:ϐ):Prop:=∃o,h.get? a=some o/\o.cls=.type (tn t)/\∃n,o.data=.seq items n
def SQ(t:Bool)(K:Frag)(H:Hp)(a:Addr)(xs:List V):Prop:=match t with|true=>Ð K H a xs|false=>É K H a xs
theorem Io.at(x:Io t h a l i)(e:∀o,h.get? a=some o->h'.get? a=some o):Io t h' a l i:=by obtain⟨o,ho,r⟩:=x;exact⟨o,e _ ho,r⟩
theorem Io.extBut(x:Io t h a l i)(e:Heap.ExtBut b h h')(n:a≠b):Io t h' a l i:=x.at λo q=>e _ _ n q
theorem Sq.at(x:Sq t h a xs)(e:∀o,h.get? a=some o->h'.get? a=some o):Sq t h' a xs:=by obtain⟨o,ho,r⟩:=x;exact⟨o,e _ ho,r⟩
theorem Sq.extBut(x:Sq t h a xs)(e:Heap.ExtBut b h h')(n:a≠b):Sq t h' a xs:=x.at λo q=>e _ _ n q
theorem oA{σ:St}(I:Ç X Á σ H s)(h:SQ t X.K H a xs):∃Æ:ā,Í xs Æ/\Sq t s.heap a Æ.toArray/\xs.length<=sizeLine:=by
 cases t;.obtain⟨Æ,r,p,z⟩:=I.list h;exact⟨Æ,r,p.isList,z⟩
 .exact I.tuple h
theorem yu{σ:St}(I:Ç X Á σ H s)(h:SQ t X.K H a xs)(h':SQ t X.K H a ys):xs=ys:=by
 cases t;.exact I.list_inj h h'
 .exact I.tuple_inj h h'
section
theorem nx(hj:Io t s.heap j l i)(ht:Sq t s.heap l Æ)(hx:Æ[i]?=some x)(hQ:∀h',Io t h' j l (i+1)->Heap.SameBut j s.heap h'->Q x {s with heap:=h'}):wpAny (model prog w) A (Builtin.SmallTypes.nextOf (.ref j)) Q E s:=by
 cases t;.exact wpAny_nextOf_list_item hj ht hx hQ
 .exact M3 hj ht hx hQ
theorem yw(hh:A.handled=none)(hj:Io t s.heap j l i)(ht:Sq t s.heap l Æ)(hx:Æ[i]?=none)(hE:∀h' e,Heap.ExtBut j s.heap h'->(∃o,h'.get? e=some o/\o.cls=.type "StopIteration")->E (.ref e) {s with heap:=h'}):wpAny (model prog w) A (Builtin.SmallTypes.nextOf (.ref j)) Q E s:=by
 cases t;.exact wpAny_nextOf_list_end hh hj ht hx hE
 .exact ym hh hj ht hx hE
theorem qz(hl:Sq t s.heap l Æ)(hQ:Q (.ref s.heap.objs.size) {s with heap:=s.heap.push {cls:=.type (nm t),data:=.fields #[.ref l,.int 0 0]}}):wpAny (model prog w) A (pyIter (.ref l)) Q E s:=by
 cases t;.exact wpAny_pyIter_list hl hQ
 .exact wpAny_pyIter_tuple hl hQ
end
theorem Z12(hh:A.handled=none)(it a:Addr)(jS:a≠it)(Æ:ϐ):Draws prog w A it [it,a] Æ.size (λi v=>Æ[i]?=some v) (λi h=>Io t h it a i/\Sq t h a Æ)where
 live:=λ_ _ st=>by obtain⟨o,ho,_⟩:=st.1;exact⟨o,ho⟩
 frame:=λ_ _ _ st hk=>⟨st.1.at λo e=>hk it Ö o e,st.2.at λo e=>hk a Ö o e⟩;item:=λi s Q E hi st hQ=>nx st.1 st.2 (x:=Æ[i]) (by simp[hi]) λh' h1 h2=>hQ _ h' s.toks (by simp[hi]) ⟨h1,st.2.extBut h2.extBut jS⟩ h2;done:=λs Q E st hE=>yw hh st.1 st.2 Ö hE
abbrev eA(t0:Bool)(h:Heap)(t:Addr):Heap:=h.push {cls:=.type (nm t0),data:=.fields #[.ref t,.int 0 0]}
theorem qC(t:Addr)(Æ:ϐ):Meets (Builtin.«enumerate.__new__» ⟨[.type "enumerate",.ref t],[]⟩) (λ_ R s=>Sq t0 s.heap t Æ/\R (.ok (.ret (.ref (eA t0 s.heap t).objs.size))) {s with heap:=(eA t0 s.heap t).push {cls:=.type "enumerate",data:=.fields #[.none,.bool false,.ref s.heap.objs.size,rawInt 0,.none,.none]}}):=.of_wp λprog w A R s h=>by
  obtain⟨hp,g,d,tk,os⟩:=s;obtain⟨ht,h⟩:=h;have LF:=sub_enumerate;have hT:Sq t0 (Shared.heap ⟨hp,g,d,tk,os⟩) t Æ:=ht;wp_walk;refine wpAny_stack_any λst=>Ú ?_;split
  .rename_i c _ _ _ _ _;cases(c==Value.type "enumerate");.wp_walk using qz hT;exact⟨_,O,h⟩
   .wp_walk using qz hT;exact⟨_,O,h⟩
  .wp_walk using qz hT;exact⟨_,O,h⟩
theorem rK{s:Shared}(ht:Sq t0 s.heap t Æ)(h:∀h',IsEnum h' (s.heap.objs.size+1) s.heap.objs.size 0 .none->Io t0 h' s.heap.objs.size t 0->(∀c o,s.heap.get? c=some o->h'.get? c=some o)->Q (.ref (s.heap.objs.size+1)) {s with heap:=h'}):wpAny (model prog w) A (call (.type "enumerate") [.ref t]) Q E s:=by refine callType_new F.called_enumerate Ù (F.typeCall_enumerate_1 _) (F.newCall_enumerate_1 _) (λobj=>F.args_object_init_2 obj _) F.entry_enumerate_new (qC t Æ) ⟨ht,?_⟩;have e1:(eA t0 s.heap t).objs.size=s.heap.objs.size+1:=Heap.size_push ..;have g2:=Ĩ (eA t0 s.heap t) (o:={cls:=.type "enumerate",data:=.fields #[.none,.bool false,.ref s.heap.objs.size,rawInt 0,.none,.none]}) O;have g1:=þ {cls:=.type "enumerate",data:=.fields #[.none,.bool false,.ref s.heap.objs.size,rawInt 0,.none,.none]} (Ĩ s.heap (o:={cls:=.type (nm t0),data:=.fields #[.ref t,.int 0 0]}) O);rw[e1]at g2⊢;exact⟨⟨_,g2,O⟩,h _ g2 ⟨_,g1,O,O⟩ λc o x=>þ _ (þ _ x)⟩
def Ite(t0:Bool)(K:Frag)(a:Addr):It:=⟨λi H=>∃xs x,SQ t0 K H a xs/\xs[i]?=some x,λi H v H'=>∃T,H T=none/\v=.ref T/\∀xs,SQ t0 K H a xs->∃x,xs[i]?=some x/\H'=upd H T (.tup [.int i,x]),λi H=>∃xs,SQ t0 K H a xs/\xs.length<=i⟩
def tne(t0:Bool)(e it a:Addr)(i:Nat)(h:Heap):Prop:=(∃old,IsEnum h e it i old)/\Io t0 h it a i
theorem CN{K:Frag}(LG:e≠it)(U5:e≠a)(U6:a≠it):Ĺ P w K (.Tuple es k pos) (Ite t0 K a) [e,it] e (tne t0 e it a)where
 mem:=by simp
 obj:=λi h st c hc=>by
  obtain⟨⟨old,s1⟩,⟨o4,s4,c4,d4⟩⟩:=st;simp only[List.mem_cons,List.not_mem_nil,or_false]at hc;rcases hc with z|z<;>subst z;.exact⟨_,s1,λv q=>by cases q⟩
  .exact⟨_,s4,λv q=>by rw[d4]at q;cases q⟩
 keep:=λi h h' st kp=>by obtain⟨⟨old,s1⟩,s4⟩:=st;exact⟨⟨old,kp e Ö _ s1⟩,s4.at λo z=>kp it Ö o z⟩
 item:=by
  intro X hP hw hK hc i Á s σ H E I hf st hg;subst hP hw hK;obtain⟨⟨old,s1⟩,s4⟩:=st;obtain⟨xs,x,rV,hx⟩:=hg;obtain⟨Æ,rv,p,_⟩:=oA I rV;obtain⟨ux,HC,rx⟩:=rv.get hx;have aI:i<Æ.toArray.size:=by have:=(Ķ.mp HC).1;simpa using this
  have D:=Z12 (t:=t0) (prog:=X.prog) (w:=X.w) (A:=X.A.in1) (I.ok.hd hc) it a U6 Æ.toArray;refine wpAny_pyNext_enum_itemD D s1 ⟨s4,p⟩ aI LG (by simp[LG,U5]) λu h1 tk hu g1 g3 g5 g6 kp=>?_;have eu:u=ux:=by have hu:Æ.toArray[i]?=some u:=hu;rw[List.getElem?_toArray,HC]at hu;exact(œ hu).symm
  subst eu;refine⟨_,O,?_⟩;refine wpAny_letOwnedTupleGo_enum g1 λh2 e1 sb=>?_;have live:∀c,c∈[e,it]->∃o,s.heap.get? c=some o:=λc bp=>by
   simp only[List.mem_cons,List.not_mem_nil,or_false]at bp;rcases bp with q|q<;>subst q;.exact⟨_,s1⟩
   .obtain⟨o,h,_⟩:=s4;exact⟨o,h⟩
  have ne:∀c,c∈[e,it]->c≠s.heap.objs.size:=λc bp z=>by obtain⟨o,ho⟩:=live c bp;exact absurd (ü ho) (by rw[z];exact ź _)
  have hT:H s.heap.objs.size=none:=I.hok.fresh (Ü _);have kept:∀c o,c∉[e,it]->s.heap.get? c=some o->h2.get? c=some o:=λc o bp z=>sb.extBut _ _ (λq=>bp (by simp[q])) (kp c o (λq=>bp (by simp[q])) (λq=>bp (by simp[q])) z);have trk:∀c o,H c=some o->c∉[e,it]:=λc o z bp=>by have:=(hf c bp).1;rw[z]at this;cases this
  have AD:h2.get? s.heap.objs.size=some {cls:=.type "tuple",data:=.seq #[.int i tk,u]}:=sb.extBut _ _ (Ne.symm (ne e Ö)) g5;have nv:Ă X.prog X.w (upd H s.heap.objs.size (.tup [.int i,x])) h2:=λc o z=>by
   by_cases hb:c=s.heap.objs.size;.subst hb;rw[aj]at z;cases z;exact⟨by show 2<=sizeLine;decide,[.int i tk,u],.cons ⟨tk,rfl⟩ (.cons rx .nil),_,AD,rfl,_,rfl⟩
   .rw[au hb]at z;refine(I.hok c o z).stay (λd v hd q=>kept d v ?_ q) (λd q=>by rw[au (aA q hT)];exact q) λd l q=>by rw[au (aA q hT)];exact q
    rcases hd with e'|e';.rw[e'];exact trk c o z
    .exact trk d _ e'
  have I2:Ç X Á σ (upd H s.heap.objs.size (.tup [.int i,x])) {s with heap:=h2,toks:=tk+1}:=by
   refine I.step (g':=s.gens) (d':=s.drawn) (t':=tk+1) (ch:=[e,it]) (λc bp=>?_) (λc o _ _ hn z _=>kept c o hn z) (λc o _ _ hn z _=>⟨o.slots,kept c o hn z⟩) (λc o _ z n=>by rw[au (Ħ (ü z))];exact n) (λc o hn z=>⟨o,kept c o hn z⟩) (λc l z=>by rw[au (aA z hT)];exact z) (λc o l z=>by rw[au (aA z hT)];exact z) (λc l z=>⟨#[],by rw[au (aA z hT),z];simp⟩) (λm hm=>?_) nv I.bare;.obtain⟨f0,f1,f2,f3,f4,f5⟩:=hf c bp;exact⟨f3,f1,f4,f5⟩
   .obtain⟨o,hZ,ep,ho,r⟩:=hm;refine⟨o,hZ,ep,kept _ o (λbp=>?_) ho,r⟩;exact(hf _ bp).2.1 O
  refine⟨.ref s.heap.objs.size,_,I2,O,⟨s.heap.objs.size,hT,O,λHE BO=>⟨x,?_,O⟩⟩,⟨⟨u,?_⟩,?_⟩,λc bp=>?_⟩;.rw[yu I BO rV];exact hx
  .have:=e1;rw[show(((i+1:Nat):Int))=(i:Int)+1 by lia];exact this
  .exact g3.1.extBut sb.extBut LG.symm
  .rw[au (ne c bp)];exact(hf c bp).1
 done:=by
  intro X hP hw hK hc i Á s σ H E I hf st hg;subst hP hw hK;obtain⟨⟨old,s1⟩,s4⟩:=st;obtain⟨xs,rV,hlen⟩:=hg;obtain⟨Æ,rv,p,_⟩:=oA I rV;have hl:=rv.length;have hT:s.TypeIs (.ref e) "enumerate":=⟨_,s1,O⟩;have fin:∀h',Heap.ExtBut it s.heap h'->Ç X Á σ H {s with heap:=h'}:=λh' kp=>by obtain⟨f0,f1,f2,f3,f4,f5⟩:=hf it Ö;exact I.turned (t':=s.toks) (λb o hb z=>kp b o hb z) f0 f1 f3 f4 f5
  unfold pyNext;refine Ä (wpAny_attempt (wpAny_callSpecial?_slot (name:=Str.ofString "__next__") hT F.slot_enumerate_next (wpAny_call_entry F.slot_enumerate_next hT F.entry_enumerate_next ?_ (F.args_enumerate_next_1 _))));show wpAny _ _ (field (.ref e) 2>>=_) _ _ _;refine Ä (wpAny_field s1 O (x:=.ref it) O ?_);refine Ä (yw (I.ok.hd hc) s4 p (by simp;lia) λh' x GW cE=>?_);obtain⟨o,ho,U7⟩:=cE;refine Ä (wpAny_isInstance (T:="StopIteration") (b:=true) ⟨o,ho,U7⟩ isSubtype_stop (Ú ⟨O,fin h' GW⟩))
 self:=λ_ _ _ _ _ st h=>wpAny_pyIter_enum st.1.choose_spec h
section
def Oj(t0:Bool)(K:Frag)(t:TA):TI:=λσ H R=>t σ H λvs H1=>∃a xs,vs=[.ref a]/\SQ t0 K H1 a xs/\R (Ite t0 K a) H1
theorem pi_enum(t0:Bool)(hg:Gl X "enumerate")(hm:X.mg "enumerate"=none)(ha:PA X [a] ta)(hs:starEach [a] X.env=[(false,eval a X.env)]:=by rfl):PI X (.Tuple es k tp) (.Call (.Name "enumerate" p) [a] [] pos) (Oj t0 X.K ta):=by
 intro Á s σ H R I h;refine Call_ (je I hg hm boot_enumerate (PyProof.Rows.callWith_type1 (Ý (ha pos Á s σ H _ I h) λus s1=>?_) hs O));rintro⟨vs,H1,I1,r1,q1⟩;obtain⟨x,xs,e,hx,q⟩:=q1;subst e;obtain⟨u,rfl,ru⟩:=ÿ r1;cases ru;obtain⟨Æ,_,p1,_⟩:=oA I1 hx;refine rK p1 λh' z1 z4 kp=>?_;refine wpAny_pyIter_enum z1 ?_;have lx:x<s1.heap.objs.size:=by obtain⟨_,e,_⟩:=p1;exact ü e
 refine⟨_,_,_,_,H1,O,I1.kept (t':=s1.toks) kp,CN (e:=s1.heap.objs.size+1) (it:=s1.heap.objs.size) (a:=x) (Nat.succ_ne_self _) (ϗ (Zbh lx)) (Ħ lx),⟨⟨_,z1⟩,z4⟩,λc hc=>?_,q⟩;have hle:s1.heap.objs.size<=c:=by grind
 exact I1.fpOk hle (I1.hok.fresh hle)
end
theorem for_enum(t0:Bool){K:Frag}{g:TG}{tb:TS}{D:ŏ}{σ:St}{H:Hp}(Pv:Nat->St->Hp->Prop)(h0:Pv 0 σ H)(hl:∀i σ H,i<=xs.length->Pv i σ H->SQ t0 K H a xs)(hs:∀i x σ H T,xs[i]?=some x->Pv i σ H->H T=none->g (.ref T) σ (upd H T (.tup [.int i,x])) λbo H2=>tb {D with nx:=Pv (i+1),ct:=Pv (i+1),bk:=D.nx} bo H2)(hd:∀σ H,Pv xs.length σ H->D.nx σ H):∃W:Nat->Nat->St->Hp->Prop,(∃m,W 0 m σ H)/\∀i m σ H,W i m σ H->((Ite t0 K a).stop i H/\D.nx σ H)\/((Ite t0 K a).go i H/\∃N,(∀av H',N av H'->∃m',m'<m/\W (i+1) m' av H')/\∀x H',(Ite t0 K a).yld i H x H'->g x σ H' λbo H2=>tb {D with nx:=N,ct:=N,bk:=D.nx} bo H2):=by
 refine⟨λi m σ H=>m=xs.length-i/\i<=xs.length/\Pv i σ H,⟨xs.length,by simp,į _,h0⟩,?_⟩;rintro i m σ H⟨rfl,hi,p⟩;have q:=hl i σ H hi p;by_cases aI:i<xs.length;.refine .inr ⟨⟨xs,xs[i],q,by simp[aI]⟩,Pv (i+1),λav H' p'=>⟨xs.length-(i+1),Â,O,aI,p'⟩,λx H' y=>?_⟩;obtain⟨T,nT,rfl,y⟩:=y;obtain⟨x,ex,rfl⟩:=y xs q;exact hs i x σ H T ex p nT
 .have e:i=xs.length:=Â;subst e;exact .inl ⟨⟨xs,q,Ü _⟩,hd σ H p⟩
end L2.ZT
namespace L2
open PySem PySem.Spec PyProof.Rows
section
theorem rM(hc:X.calm=true):dY X (.builtin "min") (λxs H Q=>∃(p:Addr)(ns:WF),xs=[.ref p]/\É X.K H p (ns.map V.int)/\ns≠[]/\∀M,M∈ns->(∀a∈ns,M<=a)->Q (.int M) H):=by
 intro Á s σ H xs us Q I r h;obtain⟨p,ns,rfl,hq,jS,q⟩:=h;obtain⟨u,rfl,ru⟩:=ÿ r;cases ru;obtain⟨Æ,rv,pl,hz⟩:=I.list hq;have hi:IntsAre Æ ns:=İ rv;obtain⟨zs,ez⟩:=(hi.allInts:AllInts Æ.toArray).items;have en:numsOf Æ=ns:=hi.numsOf;have hl:s.heap.IsList p (intItems zs):=ez▸pl.isList;have aT:0<zs.size:=by
  have e1:(intItems zs).size=Æ.length:=by rw[<-ez,ċ]
  have e2:=rv.length;rw[Õ]at e2;have e3:0<ns.length:=List.length_pos_iff.mpr jS;simp only[intItems,Array.size_map]at e1;lia
 have hn:numsOf (intItems zs).toList=ns:=by rw[<-ez];exact en
 refine min_intList (I.ok.hd hc) hl aT λv h' tk hv hk=>?_;obtain⟨t,rfl⟩:=intItems_at hv;obtain⟨h1,h2⟩:=argBest_lt (numAt zs) (zs.size-1);rw[nums_intItems]at hn;refine⟨.int _,H,I.kept (t':=tk) hk,⟨t,O⟩,q _ ?_ λa ha=>?_⟩;.rw[<-hn,numAt_eq];exact getD_mem (by rw[Õ,Ŋ];lia)
 .rw[<-hn]at ha;obtain⟨j,hj,rfl⟩:=mem_getD ha;rw[Õ,Ŋ]at hj;rw[<-numAt_eq];exact h2 j Â
inductive Ϭ(K:Frag)(x:V)(y:V)(H:Hp)(Q:VK):Prop|mk:∀a b ys,(x=.ref a)->(y=.ref b)->(Ð K H a [])->(Ð K H b ys)->(Q (.ref b) H)->Ϭ K x y H Q
def M8(K:Frag):R2:=λx y H Q=>Ϭ K x y H Q
open Builtin in
theorem Fz(l b:Addr)(Æ:ϐ)(n m:Nat)(dd BH:Option Addr)(sl kN:Array (Qa8)):Meets (Builtin.«tuple.__add__» ⟨[.ref l,.ref b],[]⟩) (λ_ R s=>s.heap.get? l=some {cls:=.type "tuple",dict:=dd,data:=.seq #[] n,slots:=sl}/\s.heap.get? b=some {cls:=.type "tuple",dict:=BH,data:=.seq Æ m,slots:=kN}/\R (.ok (.ret (.ref b))) s):=by refine .of_wp λprog w A R s h=>?_;obtain⟨hl,hb,h⟩:=h;have f2:=PySem.AutoSeq1.sub_tuple_tuple;wp_walk;exact⟨_,O,h⟩
theorem FJ:Ě X (binaryOp .Add) (M8 X.K):=by intro Á s σ H x y v u Q I rx ry h;obtain⟨a,b,ys,rfl,rfl,ha,hb,q⟩:=h;cases rx;cases ry;obtain⟨Æ,r1,p1,_⟩:=I.tuple ha;obtain⟨bS,r2,p2,_⟩:=I.tuple hb;have e:Æ=[]:=r1.zero;subst e;obtain⟨⟨cls,dd,data,sl⟩,ho,hc,n,hd⟩:=id p1;obtain⟨⟨KU,BH,data2,kN⟩,rh,zh,n2,hd2⟩:=id p2;simp only at hc hd zh hd2;subst hc hd zh hd2;exact concat_meets ⟨_,ho,O⟩ ⟨_,rh,O⟩ noFill_tuple_add seq_tuple_add PySem.F.slot_tuple_add PySem.F.entry_tuple_add (PySem.F.args_tuple_add_2 _ _) (Fz a b bS.toArray n n2 dd BH sl kN) ⟨ho,rh,.ref b,H,I,O,q⟩
theorem FN:Ě X (binaryOp .Add) (λx y H Q=>∃a b xs ys,x=.ref a/\y=.ref b/\Ð X.K H a xs/\Ð X.K H b ys/\ys≠[]/\xs.length+ys.length<=sizeLine/\(xs=[]->Q (.ref b) H)/\(xs≠[]->∀p,H p=none->Q (.ref p) (upd H p (.tup (xs++ys))))):=by
 intro Á s σ H x y v u Q I rx ry h;obtain⟨a,b,xs,ys,rfl,rfl,ha,hb,hy,hz,q1,q2⟩:=h;by_cases hx:xs=[];.subst hx;exact FJ Á s σ H _ _ v u Q I rx ry ⟨a,b,ys,O,O,ha,hb,q1 O⟩
 .exact um Á s σ H _ _ v u Q I rx ry ⟨a,b,xs,ys,O,O,ha,hb,hx,hz,λz=>absurd z hy,λ_=>q2 hx⟩
end
section
open HT in
theorem lK{lo hi:Option Int}(ht:IsTup s.heap t items)(hs:s.heap.IsSliceOf sl vl vu .none)(pl:IsPart vl lo)(pu:IsPart vu hi)(h1:sIx items.size 0 lo=0)(h2:sIx items.size items.size hi=items.size)(h:Q (.ref t) s):wpAny (model prog w) A (getItem (.ref t) (.ref sl)) Q E s:=by
 obtain⟨os,mf,BI,rj⟩:=id hs;have DT:s.TypeIs (.ref sl) "slice":=⟨os,mf,BI⟩;unfold getItem;try with_reducible refine wpAny_holding ?_
 first|refine Ä (Ú ?_)|skip
 refine Ä (wpAny_sequenceKey ht.typeIs Ù ?_);refine Ä (wpAny_callSpecial?_slot (name:=Str.ofString "__getitem__") ht.typeIs PyProof.Rows.slot_tuple_getitem (wpAny_call_entry PyProof.Rows.slot_tuple_getitem ht.typeIs entry_tuple_getitem ?_ (args_tuple_getitem _ _)));show wpAny _ _ (Builtin.Tuple.tupleItemsOf (.ref t)>>=_) _ _ s;refine Ä (tupleItemsOf_ ht ?_);refine Ä (wpAny_typeOf DT ?_);refine Ä (iG hs pl pu ?_);rw[h1,h2];show wpAny _ _ (if((((0:Nat):Int))==0&&(1:Int)==1&&(items.size-0)==items.size)=true then _ else _) _ _ s;rw[Ì Ö];refine Ä (Ä (wpAny_typeOf ht.typeIs (Ú ?_)));rw[Ì Ù];exact Ä (wpAny_rule (Ú ⟨_,O,Ú h⟩))
end
section
inductive Z0p(K:Frag)(x:V)(lo:Option Int)(hi:Option Int)(H:Hp)(Q:VK):Prop|mk:∀a xs,(x=.ref a)->(Ð K H a xs)->(((HT.sIx xs.length 0 lo=0/\HT.sIx xs.length xs.length hi=xs.length)->Q (.ref a) H))->((¬(HT.sIx xs.length 0 lo=0/\HT.sIx xs.length xs.length hi=xs.length)->∀p,H p=none->Q (.ref p) (upd H p (.tup (jP xs lo hi)))))->Z0p K x lo hi H Q
def Qq(K:Frag):V->Option Int->Option Int->Hp->VK->Prop:=λx lo hi H Q=>Z0p K x lo hi H Q
theorem Af:SlR X (Qq X.K):=by
 intro Á s σ H x v vl vu lo hi sl Q I rx hs pl pu h;obtain⟨a,xs,rfl,hx,q1,q2⟩:=h;by_cases hw:HT.sIx xs.length 0 lo=0/\HT.sIx xs.length xs.length hi=xs.length
 .cases rx;obtain⟨Æ,r,ht,hz⟩:=I.tuple hx;have hlen:Æ.toArray.size=xs.length:=by rw[ċ];exact r.length.symm
  refine⟨"tuple",_,PyProof.Rows.slot_tuple_getitem.lookup,ht.typeIs,?_⟩;exact lK ht hs pl pu (by rw[hlen];exact hw.1) (by rw[hlen];exact hw.2) ⟨.ref a,H,I,O,q1 hw⟩
 .exact Ls Á s σ H _ v vl vu lo hi sl Q I rx hs pl pu ⟨a,xs,O,hx,hw,q2 hw⟩
end
section
open HT in
theorem FP(xs:ϐ):((List.range xs.size).filterMap λ(k:Nat)=>xs[(((xs.size:Int)-1)+(k:Int)*(-1)).toNat]?).toArray=xs.toList.reverse.toArray:=by
 congr 1;have e:∀k∈List.range xs.size,xs[(((xs.size:Int)-1)+(k:Int)*(-1)).toNat]?=xs.toList.reverse.toArray[k]?:=λk hk=>by
  have hk:=Ϙ.mp hk;have e2:xs.toList.reverse.toArray[k]?=xs.toList.reverse[k]?:=by simp only[List.getElem?_toArray]
  have e3:(((xs.size:Int)-1)+(k:Int)*(-1)).toNat=xs.size-1-k:=Â;rw[e2,e3,List.getElem?_reverse (by rw[Ŋ];exact hk),Ŋ,<-Zav]
 have fc:∀(l:List Nat)(f g:Nat->Qa8),(∀k∈l,f k=g k)->l.filterMap f=l.filterMap g:=λl f g h=>by induction l with|nil=>rfl;|cons a l ih=>rw[Zay,Zay,h a Zao,ih λk hk=>h k (Zaj _ hk)]
 rw[fc _ _ _ e];have:=vL xs.toList.reverse.toArray 0 xs.size;have e2:(λ(m:Nat)=>xs.toList.reverse.toArray[(((0:Nat):Int)+(m:Int)*1).toNat]?)=λm=>xs.toList.reverse.toArray[m]?:=by funext m;congr 1;lia
 rw[e2]at this;have this:=congrArg Array.toList this;rw[show(List.filterMap (λm=>xs.toList.reverse.toArray[m]?) (List.range xs.size)).toArray.toList=List.filterMap (λm=>xs.toList.reverse.toArray[m]?) (List.range xs.size)from O]at this;rw[this];show List.take xs.size (List.drop 0 xs.toList.reverse)=xs.toList.reverse;rw[List.drop_zero,Zai (by rw[Zat,Ŋ];exact Ü _)]
open HT in
theorem oM(ht:IsTup s.heap t items)(hs:s.heap.IsSliceOf sl .none .none (.int (-1) u))(hz:items.size<=sizeLine)(h:Q (.ref s.heap.objs.size) {s with heap:=s.heap.push {cls:=.type "tuple",data:=.seq items.toList.reverse.toArray}}):wpAny (model prog w) A (getItem (.ref t) (.ref sl)) Q E s:=by
 obtain⟨os,mf,BI,rj⟩:=id hs;have DT:s.TypeIs (.ref sl) "slice":=⟨os,mf,BI⟩;unfold getItem;try with_reducible refine wpAny_holding ?_
 first|refine Ä (Ú ?_)|skip
 refine Ä (wpAny_sequenceKey ht.typeIs Ù ?_);refine Ä (wpAny_callSpecial?_slot (name:=Str.ofString "__getitem__") ht.typeIs PyProof.Rows.slot_tuple_getitem (wpAny_call_entry PyProof.Rows.slot_tuple_getitem ht.typeIs entry_tuple_getitem ?_ (args_tuple_getitem _ _)));show wpAny _ _ (Builtin.Tuple.tupleItemsOf (.ref t)>>=_) _ _ s;refine Ä (tupleItemsOf_ ht ?_);refine Ä (wpAny_typeOf DT ?_);rw[Ì Ù];unfold Builtin.Slice.sliceApplied Builtin.Slice.sliceFields;refine Ä (Ä (Ä (wpAny_field mf rj (x:=.none) O (Ä (wpAny_field mf rj (x:=.none) O (Ä (wpAny_field mf rj (x:=.int (-1) u) O (Ú ?_))))))));refine Ä (slicePart_int ?_);show wpAny _ _ (if((-1:Int)==0)=true then _ else _) _ _ s;rw[Ê Ù];refine Ä (slicePart_none (Ä (slicePart_none (Ä (Ú ?_)))));have ea:Builtin.Slice.sliceAdjust none none (-1) (items.size:Int)=((items.size:Int)-1,-1):=O;show wpAny _ _ (match Builtin.Slice.sliceAdjust none none (-1) (items.size:Int)with|(lo,hi)=>pure (lo,(-1:Int),Builtin.Slice.slicePlaces lo hi (-1))) _ _ s;rw[ea];have ep:Builtin.Slice.slicePlaces ((items.size:Int)-1) (-1) (-1)=items.size:=by
  unfold Builtin.Slice.slicePlaces;rw[Ê Ù];by_cases h0:items.size=0;.rw[h0];rfl
  .rw[Ì Â];show(((items.size:Int)-1- -1-1)/1+1).toNat=items.size;lia
 show wpAny _ _ (pure ((items.size:Int)-1,(-1:Int),Builtin.Slice.slicePlaces ((items.size:Int)-1) (-1) (-1))) _ _ s;rw[ep];refine Ú ?_;show wpAny _ _ (if(((items.size:Int)-1)==0&&(-1:Int)==1&&items.size==items.size)=true then _ else _) _ _ s;rw[Ê Ö,FP];have cS:sizeOk (.seq items.toList.reverse.toArray):=by show items.toList.reverse.toArray.size<=sizeLine;rw[ċ,Zat,Ŋ];exact hz
 first|exact Ä (m:=Builtin.Tuple.tupleExact _) (Γ (Ú ⟨_,O,Ú h⟩) cS);|exact Ä (m:=Builtin.Tuple.tupleExact _) (Γ (Ä (Ú (Ú ⟨_,O,Ú h⟩))) cS);|exact Ä (Ä (m:=Builtin.Tuple.tupleExact _) (Γ (Ú (Ú ⟨_,O,Ú h⟩)) cS));|exact Ä (Ä (m:=Builtin.Tuple.tupleExact _) (Γ (Ú ⟨_,O,Ú h⟩) cS))
end
section
def Qs(K:Frag)(te:TE):TE:=λσ H Q=>te σ H λx H1=>∃a xs,x=.ref a/\Ð K H1 a xs/\∀p,H1 p=none->Q (.ref p) (upd H1 p (.tup xs.reverse))
theorem M9(he:PE X e te):PE X (.Subscript e (.Slice none none (some (.UnaryOp .USub (.Constant (.int 1) j p4) p3)) p2) pos) (Qs X.K te):=by
 intro Á s σ H Q I h;refine Subscript_ (Ý (he Á s σ H _ I h) λv s1=>?_);rintro⟨x,H1,I1,r1,q1⟩;obtain⟨a,xs,rfl,hx,q⟩:=q1;cases r1;refine wpAny_Slice ?_;rw[evalPart_none];refine Ú (Ú ?_);rw[evalPart_some];refine Ý (pU (X:=X) (pos:=p3) jO (aB (i:=1) (j:=j) (pos:=p4)) Á s1 σ H1 (λz H'=>z=V.int (-1)/\H'=H1) I1 ⟨1,O,O,O⟩) λu s2 hh=>?_;obtain⟨z,H2,I2,r2,e1,e2⟩:=hh;subst e1 e2;obtain⟨t,rfl⟩:=r2;have I4:Ç X Á σ H2 {s2 with heap:=s2.heap.push {cls:=.type "slice",data:=.fields #[.none,.none,.int (-1) t]}}:=I2.kept (t':=s2.toks) λb ob q=>þ _ q;obtain⟨Æ,r,ht,hz⟩:=I4.tuple hx;have hlen:Æ.toArray.size=xs.length:=by rw[ċ];exact r.length.symm
 refine tail_any (ops:=[.ref a,.ref s2.heap.objs.size]) ht.typeIs PyProof.Rows.slot_tuple_getitem.lookup ?_ (by with_unfolding_all rfl);refine oM ht (Heap.IsSliceOf.new ..) (by rw[hlen];exact hz) ?_;refine⟨.ref (s2.heap.push {cls:=.type "slice",data:=.fields #[.none,.none,.int (-1) t]}).objs.size,_,I4.laid (t':=s2.toks) (o:=.tup xs.reverse) (λb ob q=>þ _ q) (Ü _) ?_,O,q _ (I4.hok.fresh (Ü _))⟩;exact⟨by rw[Zat];exact hz,_,r.reverse,IsTup.new _ _⟩
end
end L2
namespace L2.ZT
open PySem PySem.Spec PyProof.Rows L2
section
theorem ww{z TI TO i1 i2 l1 l2:Addr}(D:ZipApart z TI TO i1 i2 l1 l2)(hz:IsZip s.heap z TI TO .none)(LH:IsPair s.heap TI (.ref i1) (.ref i2))(PH:IsPair s.heap TO a b)(h1:Io t1 s.heap i1 l1 k)(h2:Io t2 s.heap i2 l2 k)(fk:Sq t1 s.heap l1 xs)(iE:Sq t2 s.heap l2 ys)(hx:xs[k]?=some x)(hy:ys[k]?=some y)(hQ:∀h',IsZip h' z TI TO (rawInt s.heap.objs.size)->IsPair h' TO x y->Io t1 h' i1 l1 (k+1)->Io t2 h' i2 l2 (k+1)->IsPair h' s.heap.objs.size x y->h'.objs.size=s.heap.objs.size+1->(∀c o,c≠z->c≠TO->c≠i1->c≠i2->s.heap.get? c=some o->h'.get? c=some o)->Q (some (.ref s.heap.objs.size)) {s with heap:=h'}):wpAny (model prog w) A (pyNext (.ref z)) Q E s:=by
 have hT:s.TypeIs (.ref z) "zip":=⟨_,hz,O⟩;unfold pyNext;refine Ä (wpAny_attempt (wpAny_callSpecial?_slot (name:=Str.ofString "__next__") hT F.slot_zip_next (wpAny_call_entry F.slot_zip_next hT F.entry_zip_next ?_ (F.args_zip_next_1 _))));show wpAny _ _ (field (.ref z) 2>>=_) _ _ _;refine Ä (wpAny_field hz O (x:=.bool false) O ?_);show wpAny _ _ (field (.ref z) 3>>=_) _ _ _;refine Ä (wpAny_field hz O (x:=.ref TI) O (Ä (wpAny_seqItems LH O ?_)));refine Ä ?_;unfold Builtin.SmallTypes.ownedTupleIsFree;refine Ä (wpAny_field hz O (x:=.none) O (Ú ?_));simp only[if_true];refine Ä (wpAny_rule (Ä (wpAny_field hz O (x:=.ref TO) O (Ä (wpAny_setField_rec hz Ö λg1 z1 s1=>?_)))));replace z1:IsZip g1 z TI TO .ellipsis:=z1;refine Ä ?_;simp only[List.zipIdx_cons,List.zipIdx_nil,List.forIn_cons,List.forIn_nil];refine Ä (Ä (wpAny_onRaise ?_));show wpAny _ _ (Builtin.SmallTypes.nextOf (.ref i1)>>=_) _ _ _;refine Ä (nx (h1.extBut s1.extBut D.i1z) (fk.extBut s1.extBut D.l1z) hx λg2 q1 s2=>Ú ?_);have o2:IsPair g2 TO a b:=s2.extBut _ _ D.TOi1 (s1.extBut _ _ D.TOz PH);refine Ä (wpAny_seqItems o2 O (Ä (wpAny_updateSeq_pair o2 λg3 o3 s3=>?_)));replace o3:IsPair g3 TO x b:=o3;refine Ä (wpAny_letGo (Ú (Ä (Ä (wpAny_onRaise ?_)))));show wpAny _ _ (Builtin.SmallTypes.nextOf (.ref i2)>>=_) _ _ _;refine Ä (nx (((h2.extBut s1.extBut D.i2z).extBut s2.extBut D.i12.symm).extBut s3.extBut D.TOi2.symm) (((iE.extBut s1.extBut D.l2z).extBut s2.extBut D.l2i1).extBut s3.extBut D.l2TO) hy λg4 q2 s4=>Ú ?_);have o4:IsPair g4 TO x b:=s4.extBut _ _ D.TOi2 o3;refine Ä (wpAny_seqItems o4 O (Ä (wpAny_updateSeq_pair o4 λg5 o5 s5=>?_)));replace o5:IsPair g5 TO x y:=o5;refine Ä (wpAny_letGo (Ú (Ú (Ä (wpAny_seqItems o5 O (Ä (wpAny_newTuple ?_)))))));have hsz:g5.objs.size=s.heap.objs.size:=by rw[s5.1,s4.1,s3.1,s2.1,s1.1]
 have z5:IsZip g5 z TI TO .ellipsis:=s5.extBut _ _ D.TOz.symm (s4.extBut _ _ D.i2z.symm (s3.extBut _ _ D.TOz.symm (s2.extBut _ _ D.i1z.symm z1)));have k5:∀c o,c≠z->c≠TO->c≠i1->c≠i2->s.heap.get? c=some o->g5.get? c=some o:=λc o c1 c2 c3 c4 e=>s5.extBut _ _ c2 (s4.extBut _ _ c4 (s3.extBut _ _ c2 (s2.extBut _ _ c3 (s1.extBut _ _ c1 e))));have p1:Io t1 g5 i1 l1 (k+1):=((q1.extBut s3.extBut D.TOi1.symm).extBut s4.extBut D.i12).extBut s5.extBut D.TOi1.symm;have p2:Io t2 g5 i2 l2 (k+1):=q2.extBut s5.extBut D.TOi2.symm;have PR:z<g5.objs.size:=ü z5;refine Ä ?_;unfold Builtin.SmallTypes.ownedTupleHandOut;have z6:IsZip (g5.push {cls:=.type "tuple",data:=.seq #[x,y]}) z TI TO .ellipsis:=þ _ z5;refine Ä (wpAny_setField_rec z6 Ö λg7 z7 s7=>?_);replace z7:IsZip g7 z TI TO (rawInt g5.objs.size):=z7;refine wpAny_setField_rec z7 Ö λg8 z8 s8=>?_;replace z8:IsZip g8 z TI TO (rawInt g5.objs.size):=z8;have up:∀c o,c≠z->g5.get? c=some o->g8.get? c=some o:=λc o c1 e=>s8.extBut _ _ c1 (s7.extBut _ _ c1 (þ _ e));have t8:IsPair g8 g5.objs.size x y:=s8.extBut _ _ (ϗ PR) (s7.extBut _ _ (ϗ PR) (Ĩ _ O));have n8:g8.objs.size=g5.objs.size+1:=by rw[s8.1,s7.1,Heap.size_push]
 rw[hsz]at z8 t8 n8;refine Ú ⟨_,O,Ú ?_⟩;show Q (some (.ref g5.objs.size)) _;rw[hsz];exact hQ g8 z8 (up _ _ D.TOz o5) (p1.at λo e=>up _ o D.i1z e) (p2.at λo e=>up _ o D.i2z e) t8 n8 λc o c1 c2 c3 c4 e=>up c o c1 (k5 c o c1 c2 c3 c4 e)
theorem yx{z TI TO i1 i2 l1 l2:Addr}(hh:A.handled=none)(D:ZipApart z TI TO i1 i2 l1 l2)(hz:IsZip s.heap z TI TO .none)(LH:IsPair s.heap TI (.ref i1) (.ref i2))(PH:IsPair s.heap TO a b)(h1:Io t1 s.heap i1 l1 k)(fk:Sq t1 s.heap l1 xs)(hx:xs[k]?=none)(hQ:∀h',(∀c o,c≠z->c≠i1->s.heap.get? c=some o->h'.get? c=some o)->Q none {s with heap:=h'}):wpAny (model prog w) A (pyNext (.ref z)) Q E s:=by
 have hT:s.TypeIs (.ref z) "zip":=⟨_,hz,O⟩;refine Ä (wpAny_attempt (wpAny_callSpecial?_slot (name:=Str.ofString "__next__") hT F.slot_zip_next (wpAny_call_entry F.slot_zip_next hT F.entry_zip_next ?_ (F.args_zip_next_1 _))));show wpAny _ _ (field (.ref z) 2>>=_) _ _ _;refine Ä (wpAny_field hz O (x:=.bool false) O ?_);refine Ä (wpAny_field hz O (x:=.ref TI) O (Ä (wpAny_seqItems LH O ?_)));refine Ä ?_;refine Ä (wpAny_field hz O (x:=.none) O (Ú ?_));refine Ä (wpAny_rule (Ä (wpAny_field hz O (x:=.ref TO) O (Ä (wpAny_setField_rec hz Ö λg1 z1 s1=>?_)))));replace z1:IsZip g1 z TI TO .ellipsis:=z1;refine Ä ?_;refine Ä (Ä (wpAny_onRaise ?_));refine Ä (yw hh (h1.extBut s1.extBut D.i1z) (fk.extBut s1.extBut D.l1z) hx λg2 e s2 he=>?_);obtain⟨oe,LI,PU⟩:=he;have z2:IsZip g2 z TI TO .ellipsis:=s2 _ _ D.i1z.symm z1;have U8:e≠z:=λq=>by subst q;rw[z2]at LI;cases LI;simp at PU
 refine wpAny_setField_rec z2 Ö λg3 _ s3=>?_;refine Ä (wpAny_isInstance (T:="StopIteration") (b:=true) ⟨oe,s3.extBut _ _ U8 LI,PU⟩ isSubtype_stop (Ú (hQ _ λc o c1 c2 q=>s3.extBut _ _ c1 (s2 _ _ c2 (s1.extBut _ _ c1 q)))))
end
abbrev zA(t1:Bool)(h:Heap)(t:Addr):Heap:=h.push {cls:=.type (nm t1),data:=.fields #[.ref t,.int 0 0]}
abbrev zB(t1 t2:Bool)(h:Heap)(t l:Addr):Heap:=(zA t1 h t).push {cls:=.type (nm t2),data:=.fields #[.ref l,.int 0 0]}
abbrev zC(t1 t2:Bool)(h:Heap)(t l:Addr):Heap:=(zB t1 t2 h t l).push {cls:=.type "tuple",data:=.seq #[.ref h.objs.size,.ref (zA t1 h t).objs.size]}
abbrev zD(t1 t2:Bool)(h:Heap)(t l:Addr):Heap:=(zC t1 t2 h t l).push {cls:=.type "tuple",data:=.seq #[.none,.none]}
abbrev zE(t1 t2:Bool)(h:Heap)(t l:Addr):Heap:=(zD t1 t2 h t l).push {cls:=.type "zip",data:=.fields #[.none,.bool false,.bool false,.ref (zB t1 t2 h t l).objs.size,.ref (zC t1 t2 h t l).objs.size]}
theorem uK(t l:Addr)(xs ys:ϐ):Meets (Builtin.«zip.__new__» ⟨[.type "zip",.ref t,.ref l],[]⟩) (λ_ R s=>Sq t1 s.heap t xs/\Sq t2 s.heap l ys/\R (.ok (.ret (.ref (zD t1 t2 s.heap t l).objs.size))) {s with heap:=zE t1 t2 s.heap t l}):=.of_wp λprog w A R s h=>by obtain⟨hp,g,d,tk,os⟩:=s;obtain⟨ht,hl,h⟩:=h;have LF:=sub_zip;have hT:Sq t1 (Shared.heap ⟨hp,g,d,tk,os⟩) t xs:=ht;have hL:Sq t2 (Shared.heap ⟨hp.push {cls:=.type (nm t1),data:=.fields #[.ref t,.int 0 0]},g,d,tk,os⟩) l ys:=hl.at λo e=>þ _ e;wp_walk using qz hT,qz hL;exact⟨_,O,h⟩
theorem wy{s:Shared}(ht:Sq t1 s.heap t xs)(hl:Sq t2 s.heap l ys)(h:∀h',IsZip h' (s.heap.objs.size+4) (s.heap.objs.size+2) (s.heap.objs.size+3) .none->IsPair h' (s.heap.objs.size+2) (.ref s.heap.objs.size) (.ref (s.heap.objs.size+1))->IsPair h' (s.heap.objs.size+3) .none .none->Io t1 h' s.heap.objs.size t 0->Io t2 h' (s.heap.objs.size+1) l 0->(∀c o,s.heap.get? c=some o->h'.get? c=some o)->Q (.ref (s.heap.objs.size+4)) {s with heap:=h'}):wpAny (model prog w) A (call (.type "zip") [.ref t,.ref l]) Q E s:=by
 refine callType_new F.called_zip Ù (F.typeCall_zip_2 _ _) (F.newCall_zip_2 _ _) (λobj=>F.args_object_init_3 obj _ _) F.entry_zip_new (uK t l xs ys) ⟨ht,hl,?_⟩;have e1:(zA t1 s.heap t).objs.size=s.heap.objs.size+1:=Heap.size_push ..;have e2:(zB t1 t2 s.heap t l).objs.size=s.heap.objs.size+2:=by rw[Heap.size_push,e1]
 have e3:(zC t1 t2 s.heap t l).objs.size=s.heap.objs.size+3:=by rw[Heap.size_push,e2]
 have e4:(zD t1 t2 s.heap t l).objs.size=s.heap.objs.size+4:=by rw[Heap.size_push,e3]
 have PV:∀{c o},(zD t1 t2 s.heap t l).get? c=some o->(zE t1 t2 s.heap t l).get? c=some o:=λe=>þ _ e;have PY:∀{c o},(zC t1 t2 s.heap t l).get? c=some o->(zE t1 t2 s.heap t l).get? c=some o:=λe=>PV (þ _ e);have PZ:∀{c o},(zB t1 t2 s.heap t l).get? c=some o->(zE t1 t2 s.heap t l).get? c=some o:=λe=>PY (þ _ e);have up1:∀{c o},(zA t1 s.heap t).get? c=some o->(zE t1 t2 s.heap t l).get? c=some o:=λe=>PZ (þ _ e);have g5:(zE t1 t2 s.heap t l).get? (zD t1 t2 s.heap t l).objs.size=some _:=Ĩ _ O;have g4:(zE t1 t2 s.heap t l).get? (zC t1 t2 s.heap t l).objs.size=some _:=PV (Ĩ _ O);have g3:(zE t1 t2 s.heap t l).get? (zB t1 t2 s.heap t l).objs.size=some _:=PY (Ĩ _ O);have g2:(zE t1 t2 s.heap t l).get? (zA t1 s.heap t).objs.size=some _:=PZ (Ĩ _ O);have g1:(zE t1 t2 s.heap t l).get? s.heap.objs.size=some _:=up1 (Ĩ _ O);rw[e4,e2,e3]at g5;rw[e2,e1]at g3;rw[e3]at g4;rw[e1]at g2;rw[e4];exact⟨⟨_,g5,O⟩,h _ g5 g3 g4 ⟨_,g1,O,O⟩ ⟨_,g2,O,O⟩ λc o x=>up1 (þ _ x)⟩
def Itz(t1 t2:Bool)(K:Frag)(a b:Addr):It:=⟨λi H=>∃xs ys x y,SQ t1 K H a xs/\SQ t2 K H b ys/\xs[i]?=some x/\ys[i]?=some y,λi H v H'=>∃T,H T=none/\v=.ref T/\∀xs ys,SQ t1 K H a xs->SQ t2 K H b ys->∃x y,xs[i]?=some x/\ys[i]?=some y/\H'=upd H T (.tup [x,y]),λi H=>∃xs,SQ t1 K H a xs/\xs.length<=i⟩
def tnz(t1 t2:Bool)(z TI TO i1 i2 a b:Addr)(i:Nat)(h:Heap):Prop:=IsZip h z TI TO .none/\IsPair h TI (.ref i1) (.ref i2)/\(∃u v,IsPair h TO u v)/\Io t1 h i1 a i/\Io t2 h i2 b i
theorem FQ{K:Frag}{z TI TO i1 i2 a b:Addr}(D:ZipApart z TI TO i1 i2 a b):Ĺ P w K (.Tuple es k pos) (Itz t1 t2 K a b) [z,TI,TO,i1,i2] z (tnz t1 t2 z TI TO i1 i2 a b)where
 mem:=by simp
 obj:=λi h st c hc=>by
  obtain⟨s1,s2,⟨u,v,s3⟩,⟨o4,s4,c4,d4⟩,⟨o5,s5,c5,d5⟩⟩:=st;simp only[List.mem_cons,List.not_mem_nil,or_false]at hc;rcases hc with e|e|e|e|e<;>subst e;.exact⟨_,s1,λv q=>by cases q⟩
  .exact⟨_,s2,λv q=>by cases q⟩
  .exact⟨_,s3,λv q=>by cases q⟩
  .exact⟨_,s4,λv q=>by rw[d4]at q;cases q⟩
  .exact⟨_,s5,λv q=>by rw[d5]at q;cases q⟩
 keep:=λi h h' st kp=>by obtain⟨s1,s2,⟨u,v,s3⟩,s4,s5⟩:=st;exact⟨kp z Ö _ s1,kp TI Ö _ s2,⟨u,v,kp TO Ö _ s3⟩,s4.at λo e=>kp i1 Ö o e,s5.at λo e=>kp i2 Ö o e⟩
 item:=by
  intro X hP hw hK hc i Á s σ H E I hf st hg;subst hP hw hK;obtain⟨s1,s2,⟨u,v,s3⟩,s4,s5⟩:=st;obtain⟨xs,ys,x,y,rV,P1,hx,hy⟩:=hg;obtain⟨Æ,rv,p,_⟩:=oA I rV;obtain⟨U9,fh,q,_⟩:=oA I P1;obtain⟨ux,HC,rx⟩:=rv.get hx;obtain⟨uy,Va,ry⟩:=fh.get hy;refine ww D s1 s2 s3 s4 s5 p q (x:=ux) (y:=uy) (by simpa using HC) (by simpa using Va) λh1 g1 g2 g3 g4 g5 g6 kp=>?_;refine⟨_,O,?_⟩;refine wpAny_letOwnedTupleGo_zip g1 λh2 e1 sb=>?_;have ne:∀c,c∈[z,TI,TO,i1,i2]->c≠s.heap.objs.size:=λc bp e=>by
   obtain⟨f0,f1,f2,f3,f4,f5⟩:=hf c bp;have:∃o,s.heap.get? c=some o:=by
    simp only[List.mem_cons,List.not_mem_nil,or_false]at bp;rcases bp with q|q|q|q|q<;>subst q;.exact⟨_,s1⟩
    .exact⟨_,s2⟩
    .exact⟨_,s3⟩
    .obtain⟨o,h,_⟩:=s4;exact⟨o,h⟩
    .obtain⟨o,h,_⟩:=s5;exact⟨o,h⟩
   obtain⟨o,ho⟩:=this;exact absurd (ü ho) (by rw[e];exact ź _)
  have hT:H s.heap.objs.size=none:=I.hok.fresh (Ü _);have kept:∀c o,c∉[z,TO,i1,i2]->s.heap.get? c=some o->h2.get? c=some o:=λc o bp e=>sb.extBut _ _ (λq=>bp (by simp[q])) (kp c o (λq=>bp (by simp[q])) (λq=>bp (by simp[q])) (λq=>bp (by simp[q])) (λq=>bp (by simp[q])) e);have EA:∀c,c∈[z,TO,i1,i2]->c∈[z,TI,TO,i1,i2]:=λc bp=>by simp only[List.mem_cons,List.not_mem_nil,or_false]at bp⊢;rcases bp with q|q|q|q<;>simp[q]
  have trk:∀c o,H c=some o->c∉[z,TO,i1,i2]:=λc o e bp=>by have:=(hf c (EA c bp)).1;rw[e]at this;cases this
  have AD:h2.get? s.heap.objs.size=some {cls:=.type "tuple",data:=.seq #[ux,uy]}:=sb.extBut _ _ (Ne.symm (ne z Ö)) g5;have nv:Ă X.prog X.w (upd H s.heap.objs.size (.tup [x,y])) h2:=λc o e=>by
   by_cases hb:c=s.heap.objs.size;.subst hb;rw[aj]at e;cases e;exact⟨by show 2<=sizeLine;decide,[ux,uy],.cons rx (.cons ry .nil),_,AD,rfl,_,rfl⟩
   .rw[au hb]at e;refine(I.hok c o e).stay (λd v hd q=>kept d v ?_ q) (λd q=>by rw[au (aA q hT)];exact q) λd l q=>by rw[au (aA q hT)];exact q
    rcases hd with e'|e';.rw[e'];exact trk c o e
    .exact trk d _ e'
  have I2:Ç X Á σ (upd H s.heap.objs.size (.tup [x,y])) {s with heap:=h2}:=by
   refine I.step (g':=s.gens) (d':=s.drawn) (t':=s.toks) (ch:=[z,TO,i1,i2]) (λc bp=>?_) (λc o _ _ hn e _=>kept c o hn e) (λc o _ _ hn e _=>⟨o.slots,kept c o hn e⟩) (λc o _ e n=>by rw[au (Ħ (ü e))];exact n) (λc o hn e=>⟨o,kept c o hn e⟩) (λc l e=>by rw[au (aA e hT)];exact e) (λc o l e=>by rw[au (aA e hT)];exact e) (λc l e=>⟨#[],by rw[au (aA e hT),e];simp⟩) (λm hm=>?_) nv I.bare;.obtain⟨f0,f1,f2,f3,f4,f5⟩:=hf c (EA c bp);exact⟨f3,f1,f4,f5⟩
   .obtain⟨o,hZ,ep,ho,r⟩:=hm;refine⟨o,hZ,ep,kept _ o (λbp=>?_) ho,r⟩;exact(hf _ (EA _ bp)).2.1 O
  refine⟨.ref s.heap.objs.size,_,I2,O,⟨s.heap.objs.size,hT,O,λHE iN BO Vb=>⟨x,y,?_,?_,O⟩⟩,⟨e1,?_,?_,?_,?_⟩,λc bp=>?_⟩;.rw[yu I BO rV];exact hx
  .rw[yu I Vb P1];exact hy
  .exact sb.extBut _ _ D.TIz (kp _ _ D.TIz D.TITO D.TIi1 D.TIi2 s2)
  .exact⟨_,_,sb.extBut _ _ D.TOz g2⟩
  .exact g3.extBut sb.extBut D.i1z
  .exact g4.extBut sb.extBut D.i2z
  .rw[au (ne c bp)];exact(hf c bp).1
 done:=by
  intro X hP hw hK hc i Á s σ H E I hf st hg;subst hP hw hK;obtain⟨s1,s2,⟨u,v,s3⟩,s4,s5⟩:=st;obtain⟨xs,rV,hlen⟩:=hg;obtain⟨Æ,rv,p,_⟩:=oA I rV;have hl:=rv.length;refine yx (I.ok.hd hc) D s1 s2 s3 s4 p (by simp;lia) λh' kp=>⟨O,?_⟩;refine I.step (h':=h') (H':=H) (g':=s.gens) (d':=s.drawn) (t':=s.toks) (ch:=[z,i1]) (λc bp=>?_) (λc o _ _ hn e _=>kp c o (λq=>hn (by simp[q])) (λq=>hn (by simp[q])) e) (λc o _ _ hn e _=>⟨o.slots,kp c o (λq=>hn (by simp[q])) (λq=>hn (by simp[q])) e⟩) (λc o _ e n=>n) (λc o hn e=>⟨o,kp c o (λq=>hn (by simp[q])) (λq=>hn (by simp[q])) e⟩) (λ_ _ e=>e) (λ_ _ _ e=>e) (λc l e=>⟨#[],by rw[e];simp⟩) (λm hm=>?_) (λc o e=>?_) I.bare
  .have:c∈[z,TI,TO,i1,i2]:=by simp only[List.mem_cons,List.not_mem_nil,or_false]at bp⊢;rcases bp with q|q<;>simp[q]
   obtain⟨f0,f1,f2,f3,f4,f5⟩:=hf c this;exact⟨f3,f1,f4,f5⟩
  .obtain⟨o,hZ,ep,ho,r⟩:=hm;exact⟨o,hZ,ep,kp _ o (Ne.symm (hf z Ö).2.1) (Ne.symm (hf i1 Ö).2.1) ho,r⟩
  .have nn:∀d v c',c'∈[z,TI,TO,i1,i2]->H d=some v->d≠c':=λd v c' bp q e'=>by have:=(hf c' bp).1;rw[<-e',q]at this;cases this
   have nz:∀d v,H d=some v->d≠z/\d≠i1:=λd v q=>⟨nn d v z Ö q,nn d v i1 Ö q⟩;refine(I.hok c o e).stay (λd v hd q=>?_) (λ_ q=>q) λ_ _ q=>q;rcases hd with e'|e';.rw[e']at q⊢;exact kp c v (nz c o e).1 (nz c o e).2 q
   .exact kp d v (nz d _ e').1 (nz d _ e').2 q
 self:=λ_ _ _ _ _ st h=>wpAny_pyIter_zip st.1 h
section
def Qt(t1 t2:Bool)(K:Frag)(t:TA):TI:=λσ H R=>t σ H λvs H1=>∃a b xs ys,vs=[.ref a,.ref b]/\SQ t1 K H1 a xs/\SQ t2 K H1 b ys/\R (Itz t1 t2 K a b) H1
theorem pi_zip(t1 t2:Bool){es:Qa6}{k:Nat}{tp:Pos}{p pos:Pos}(hg:Gl X "zip")(hm:X.mg "zip"=none)(ha:PA X [a,b] ta)(hs:starEach [a,b] X.env=[(false,eval a X.env),(false,eval b X.env)]:=by rfl)(mB:starEach [b] X.env=[(false,eval b X.env)]:=by rfl):PI X (.Tuple es k tp) (.Call (.Name "zip" p) [a,b] [] pos) (Qt t1 t2 X.K ta):=by
 intro Á s σ H R I h;refine Call_ (je I hg hm boot_zip (PyProof.Rows.callWith_type1 (Ý (ha pos Á s σ H _ I h) λus s1=>?_) (by rw[hs,mB]) (by rw[mB];rfl)));rintro⟨vs,H1,I1,r1,q1⟩;obtain⟨x,y,xs,ys,e,hx,hy,q⟩:=q1;subst e;obtain⟨u,v,rfl,ru,rv⟩:=Ť r1;cases ru;cases rv;obtain⟨Æ,_,p1,_⟩:=oA I1 hx;obtain⟨U9,_,p2,_⟩:=oA I1 hy;refine wy p1 p2 λh' z1 z2 z3 z4 z5 kp=>?_;refine wpAny_pyIter_zip z1 ?_;have lx:x<s1.heap.objs.size:=by obtain⟨_,e,_⟩:=p1;exact ü e
 have ly:y<s1.heap.objs.size:=by obtain⟨_,e,_⟩:=p2;exact ü e
 refine⟨_,_,_,_,H1,O,I1.kept (t':=s1.toks) kp,FQ (zipApart_new lx ly),⟨z1,z2,⟨_,_,z3⟩,z4,z5⟩,λc hc=>?_,q⟩;have hle:s1.heap.objs.size<=c:=by grind
 exact I1.fpOk hle (I1.hok.fresh hle)
end
theorem for_zip{K:Frag}{g:TG}{tb:TS}{D:ŏ}{σ:St}{H:Hp}(Pv:Nat->St->Hp->Prop)(he:xs.length=ys.length)(h0:Pv 0 σ H)(hl:∀i σ H,i<=xs.length->Pv i σ H->SQ t1 K H a xs/\SQ t2 K H b ys)(hs:∀i x y σ H T,xs[i]?=some x->ys[i]?=some y->Pv i σ H->H T=none->g (.ref T) σ (upd H T (.tup [x,y])) λbo H2=>tb {D with nx:=Pv (i+1),ct:=Pv (i+1),bk:=D.nx} bo H2)(hd:∀σ H,Pv xs.length σ H->D.nx σ H):∃W:Nat->Nat->St->Hp->Prop,(∃m,W 0 m σ H)/\∀i m σ H,W i m σ H->((Itz t1 t2 K a b).stop i H/\D.nx σ H)\/((Itz t1 t2 K a b).go i H/\∃N,(∀av H',N av H'->∃m',m'<m/\W (i+1) m' av H')/\∀x H',(Itz t1 t2 K a b).yld i H x H'->g x σ H' λbo H2=>tb {D with nx:=N,ct:=N,bk:=D.nx} bo H2):=by
 refine⟨λi m σ H=>m=xs.length-i/\i<=xs.length/\Pv i σ H,⟨xs.length,by simp,į _,h0⟩,?_⟩;rintro i m σ H⟨rfl,hi,p⟩;obtain⟨q1,q2⟩:=hl i σ H hi p;by_cases aI:i<xs.length;.have LJ:i<ys.length:=Â;refine .inr ⟨⟨xs,ys,xs[i],ys[i],q1,q2,by simp[aI],by simp[LJ]⟩,Pv (i+1),λav H' p'=>⟨xs.length-(i+1),Â,O,aI,p'⟩,λv H' y=>?_⟩;obtain⟨T,nT,rfl,y⟩:=y;obtain⟨x,z,ex,ez,rfl⟩:=y xs ys q1 q2;exact hs i x z σ H T ex ez p nT
 .have e:i=xs.length:=Â;subst e;exact .inl ⟨⟨xs,q1,Ü _⟩,hd σ H p⟩
end L2.ZT
namespace L2
open PySem PySem.Spec PyProof.Rows PySem.Calls
section
theorem cM(hc:X.calm=true):dY X (.builtin "sum") (λxs H Q=>∃(p:Addr)(ns:WF),xs=[.ref p]/\(É X.K H p (ns.map V.int)\/Ð X.K H p (ns.map V.int))/\Q (.int ns.sum) H):=by
 intro Á s σ H xs us Q I r h;obtain⟨p,ns,rfl,hq,q⟩:=h;obtain⟨u,rfl,ru⟩:=ÿ r;cases ru;have go:∀Æ:ā,Í (ns.map V.int) Æ->∃zs:Array (Int×Tok),Æ.toArray=intItems zs/\preSum (numAt zs) zs.size=ns.sum:=λÆ rv=>by have hi:IntsAre Æ ns:=İ rv;obtain⟨zs,ez⟩:=(hi.allInts:AllInts Æ.toArray).items;refine⟨zs,ez,?_⟩;have en:numsOf Æ.toArray.toList=ns:=hi.numsOf;rw[ez,nums_intItems]at en;rw[preSum_eq,Zai Ö,en]
 rcases hq with hq|hq;.obtain⟨Æ,rv,pl,hz⟩:=I.list hq;obtain⟨zs,ez,es⟩:=go Æ rv;refine sum_intListG (I.ok.hd hc) (ez▸pl.isList) λh' tk t' hk=>?_;rw[es];exact⟨.int _,H,I.kept (t':=tk) hk,⟨t',O⟩,q⟩
 .obtain⟨Æ,rv,pl,hz⟩:=I.tuple hq;obtain⟨zs,ez,es⟩:=go Æ rv;have ht:s.heap.IsTuple p Æ.toArray:=pl;refine PySem.W.ktm_sumG (I.ok.hd hc) (ez▸ht) λh' tk t' hk=>?_;rw[es];exact⟨.int _,H,I.kept (t':=tk) hk,⟨t',O⟩,q⟩
end
section
open PySem.W
end
section
end
structure Ĥ(X:Cx)(scope:Scope)(x₀:Str):Prop where
 kind:scope.kind=.function
 only:scope.names.all (λp=>p.2 !=.cell||p.1==x₀)=true
 names:scope.names.all (λp=>p.2 !=.local||scope.names.lookup p.1==some .local)=true
 free:scope.names.all (λp=>p.2 !=.free||(X.env.cells.lookup p.1).isSome)=true
 cf:∀n acc,cellsFrom n scope.names acc=(x₀,n)::acc
 pc:∀h,pushCells h scope.names=h.push {cls:=.type "cell",data:=.cell none}
theorem Ĥ.hnames(S:Ĥ X scope x₀):∀p∈scope.names,p.2=.local->scope.names.lookup p.1=some .local:=λp hp e=>by have:=ņ.mp S.names p hp;simpa[e]using this
theorem Ĥ.hfree(S:Ĥ X scope x₀):∀p∈scope.names,p.2=NameKind.free->(X.env.cells.lookup p.1).isSome=true:=λp hp e=>by have:=ņ.mp S.free p hp;simpa[e]using this
theorem lM(hc:scope.names.all (λp=>p.2 !=.cell||p.1==x₀)=true)(hx:x≠x₀)(h:(relabel scope env).names.lookup x=some k)(hk:k=.cell\/k=.free):∃k',(x,k')∈scope.names/\k'=NameKind.free:=by
 obtain⟨⟨n,k0⟩,hm,e⟩:=ó.mp (mem_of_lookup h);dsimp only at e;split at e
 .rename_i c;cases e;have:(k0==NameKind.free)=true:=by cases q:(k0==NameKind.free)with|true=>rfl;|false=>rw[q]at c;simp at c
  exact⟨k0,hm,by simpa using this⟩
 .cases e;rcases hk with z|z;.have:=ņ.mp hc _ hm;rw[z]at this;exact absurd (by simpa using this) hx
  .exact⟨_,hm,z⟩
theorem FT(cf:∀n acc,cellsFrom n scope.names acc=(x₀,n)::acc)(pc:∀h,pushCells h scope.names=h.push {cls:=.type "cell",data:=.cell none})(hQ:∀h',h'.Ns s.heap.objs.size (λ_=>none)->(∀b o,s.heap.get? b=some o->h'.get? b=some o)->h'.IsCell (s.heap.objs.size+1) none->Q {scope,locals:=s.heap.objs.size,globals,cells:=(x₀,s.heap.objs.size+1)::closure,qual,func:=none,code:=outer.code,frame:=outer.frame,builtins:=outer.builtins} {s with heap:=h'}):wpAny M A (newFunctionEnv scope globals closure [] qual none .none (some outer)) Q E s:=by simp only[newFunctionEnv,Option.isSome_some,if_true];refine Ä (wpAny_alloc (Ä (wpAny_layCells _ (λname kind cells=>by cases q:kind==NameKind.cell<;>simp[q]) _ _ _ _ ?_)));rw[cf];dsimp only;rw[pc,Heap.size_push];refine Ä ?_;rw[List.forIn_nil];refine Ú (Ú (hQ _ ((Heap.Ns.new s.heap (.type "dict")).keeps λb o e=>þ _ e) (λb o e=>þ _ (þ _ e)) ?_));have:=Ĩ (s.heap.push {cls:=.type "dict",data:=.dict #[]}) (o:={cls:=.type "cell",data:=.cell none}) O;rw[Heap.size_push]at this;exact⟨_,this,O⟩
def cxD(X:Cx)(scope:Scope)(x₀:Str)(Nc:ð)(C:Addr)(fp:Ĉ)(Á:Ň)(s₂:Shared)(Ï:Hp):Cx:={χ X scope Nc C fp Á s₂ Ï with env:=compEnvC scope ((x₀,C+1)::cG X.env.cells scope.names []) C X.env,fn:=λy=>y==x₀}
theorem yz(hc:X.calm=true)(S:Ĥ X scope x₀)(bE:∀C,ĕ X (compEnvC scope ((x₀,C+1)::cG X.env.cells scope.names []) C X.env) Nc src)(hb:∀C fp Á s₂ Ï,PG (cxD X scope x₀ Nc C fp Á s₂ Ï) tg g/\PTs (cxD X scope x₀ Nc C fp Á s₂ Ï) ifs tt/\PE (cxD X scope x₀ Nc C fp Á s₂ Ï) elt te){σ:St}(ah:Ç X Á σ Ï s₂)(T:Ĺ X.prog X.w X.K tg J fp it tn)(st:tn 0 s₂.heap)(hf:∀b∈fp,jJ X Á Ï b){Fin:List V->Hp->Prop}(hW:lB J g tt te Fin (ē σ src) Ï){RR:Value->Addr->Result->Shared->Prop}{E:gV}(D5:∀D C s' ys H' m,Fin ys H'->H' D=none->Ç X Á σ (upd H' D (.lst ys)) s'->s'.heap.Ns C m->jJ X Á (upd H' D (.lst ys)) C->RR (.ref D) C (.ok .next) s'):wpAny (model X.prog X.w) X.A (newList []) (λacc s₃=>wpAny (model X.prog X.w) X.A (newFunctionEnv scope X.env.globals (cG X.env.cells scope.names []) [] X.env.qual none .none (some X.env)) (λiO iL=>codeAny (model X.prog X.w) X.A (.compStart (.ListComp elt [⟨tg,iter,ifs,0⟩] scope pos) 0 (.ref it) acc {iO with scope:=relabel scope X.env}) (RR acc iO.locals) iL) E s₃) E s₂:=by
 refine Γ (FT S.cf S.pc (λde bq gi iS=>?_));dsimp only at bq gi iS⊢;generalize zI:s₂.heap.push {cls:=.type "list",dict:=none,data:=.seq ([]:ā).toArray}=HH at bq gi iS⊢;generalize hJ:s₂.heap.objs.size=D at bq gi iS⊢;have hC:HH.objs.size=D+1:=by rw[<-zI,Heap.size_push,hJ]
 generalize UY:HH.objs.size=C at bq gi iS hC⊢;have BN:D≠C:=Â;have below:∀b,b<s₂.heap.objs.size->b≠C/\b≠D:=λb hb=>by rw[hJ]at hb;exact⟨by rw[hC];exact Ħ (Zbh hb),Ħ hb⟩
 have aE:∀{b o},s₂.heap.get? b=some o->b≠C/\b≠D:=λ{b o}e=>below b (ü e);have old:∀b o,s₂.heap.get? b=some o->de.get? b=some o:=λb o e=>gi b o (zI▸þ _ e);have zS:de.get? D=some {cls:=.type "list",data:=.seq ([]:ā).toArray}:=gi _ _ (zI▸hJ▸Ĩ _ O);have GY:∀b∈fp,∃o,s₂.heap.get? b=some o:=λb hb=>by obtain⟨o,e,_⟩:=T.obj _ _ st b hb;exact⟨o,e⟩
 have rL:∀b∈fp,b≠C/\b≠D:=λb hb=>by obtain⟨o,e⟩:=GY b hb;exact aE e
 have sub:∀{x c},((x₀,C+1)::cG X.env.cells scope.names []).lookup x=some c->X.env.cells.lookup x=some c\/(x=x₀/\c=C+1):=λ{x c}e=>by rw[Za1]at e;cases q:x==x₀ with|true=>rw[q]at e;injection e with e;exact .inr ⟨eq_of_beq q,e.symm⟩;|false=>
   rw[q]at e;rcases iH scope.names [] S.hfree e with z|z;.simp at z
   .exact .inl z
 have D6:∀{b o},s₂.heap.get? b=some o->b<D:=λ{b o}e=>by rw[<-hJ];exact ü e
 have fresh:∀a,D<=a->Ï a=none:=λa ha=>ah.hok.fresh (by rw[hJ];exact ha);have fR:∀{x c},X.env.cells.lookup x=some c->∃o,s₂.heap.get? c=some o:=λ{x c}e=>by obtain⟨v,o,ho,_⟩:=ah.cell x c e;exact⟨o,ho⟩
 have Ap:∀b∈Ď X.stack,∃o,s₂.heap.get? b=some o:=λb hb=>by
  rcases ĩ.mp (ah.stkSub b hb)with e|hb;.rw[e];obtain⟨m,⟨o,_,_,ho,_⟩,_⟩:=ah.loc;exact⟨o,ho⟩
  .obtain⟨_,o,ho,_⟩:=ah.funs.mem hb;exact⟨o,ho⟩
 have As:∀a,D<=a->a∉Ď X.stack:=λa ha hb=>by obtain⟨o,e⟩:=Ap a hb;exact absurd (ļ (D6 e) ha) (ź _)
 have D7:∀b∈fp,b∉Ď X.stack:=λb hb z=>by
  obtain⟨_,f1,f2,_⟩:=hf b hb;rcases ĩ.mp (ah.stkSub b z)with e|e;.exact f1 e
  .exact f2 e
 have EB:∀{x c},X.env.cells.lookup x=some c->c≠C+1:=λ{x c}e z=>by obtain⟨o,ho⟩:=fR e;have:=D6 ho;rw[z,hC]at this;exact absurd this (Nat.not_lt_of_le (Ņ (Ŧ _) (Ŧ _)))
 have P2:∀b∈fp,∀x c,((x₀,C+1)::cG X.env.cells scope.names []).lookup x=some c->c≠b:=λb hb x c e=>by
  rcases sub e with z|⟨_,z⟩;.exact(hf b hb).2.2.2.2.1 x c z
  .obtain⟨o,ho⟩:=GY b hb;have:=D6 ho;intro q;rw[<-q,z,hC]at this;exact absurd this (Nat.not_lt_of_le (Ņ (Ŧ _) (Ŧ _)))
 generalize cw:cxD X scope x₀ Nc C fp Á s₂ Ï=X';obtain⟨hg,ht,he⟩:=hb C fp Á s₂ Ï;rw[cw]at hg ht he;have rS:X'.Ok:=by
  subst cw;refine⟨ah.ok.mod,S.kind,ah.ok.glob,ah.ok.blt,?_,?_,?_,?_,ah.ok.hd,ah.ok.frames,.inl O,?_,ah.bs,Ņ ah.ok.bsz ah.sz,?_,D7,ah.stack,ah.stkFree⟩;.show s₂.heap.objs.size<=C;lia
  .intro x y c e1 e2;rcases sub e1 with z1|⟨z1,w1⟩
   .rcases sub e2 with z2|⟨z2,w2⟩;.exact ah.ok.inj x y c z1 z2
    .exact absurd w2 (EB z1)
   .rcases sub e2 with z2|⟨z2,w2⟩;.exact absurd w1 (EB z2)
    .rw[z1,z2]
  .intro x hx;have hx:(relabel scope X.env).names.lookup x=some .cell\/(relabel scope X.env).names.lookup x=some .free:=hx;show∃c,((x₀,C+1)::cG X.env.cells scope.names []).lookup x=some c;rw[Za1];cases q:x==x₀ with|true=>exact⟨_,O⟩;|false=>
    have:∃k',(x,k')∈scope.names/\k'=NameKind.free:=by
     rcases hx with z|z;.exact lM S.only (λw=>by rw[w,beq_self_eq_true]at q;cases q) z (.inl O)
     .exact lM S.only (λw=>by rw[w,beq_self_eq_true]at q;cases q) z (.inr O)
    exact ji scope.names [] (.inl this)
  .intro x c z e;have z:x=x₀:=eq_of_beq z;rcases sub e with w|⟨_,w⟩;.have e:((x₀,C+1)::cG X.env.cells scope.names []).lookup x=some c:=e;rw[z,Za1,beq_self_eq_true]at e;injection e with e;show s₂.heap.objs.size<=c;rw[<-e,hJ,hC];exact Ņ (Ŧ _) (Ŧ _)
   .show s₂.heap.objs.size<=c;rw[w,hJ,hC];exact Ņ (Ŧ _) (Ŧ _)
  .intro b hb;exact⟨(rL b hb).1,λx c e=>P2 b hb x c e⟩
  .intro b o e hb;obtain⟨_,_,_,f3,_⟩:=hf b hb;rcases f3 with z|z;.exact ah.ok.noex b o e z
   .exact absurd (ļ (ü (ah.ok.bs b o e).1) z) (ź _)
 have eP:X'.prog=X.prog:=by subst cw;rfl
 have ew:X'.w=X.w:=by subst cw;rfl
 have eK:X'.K=X.K:=by subst cw;rfl
 have eA:X'.A=X.A:=by subst cw;rfl
 have eE:X'.xe=λ_ _=>False:=by subst cw;rfl
 have eL:X'.env.locals=C:=by subst cw;rfl
 have eN:X'.env=compEnvC scope ((x₀,C+1)::cG X.env.cells scope.names []) C X.env:=by subst cw;rfl
 have ec:X'.calm=true:=by subst cw;exact hc
 have eS:X'.s₀=s₂:=by subst cw;rfl
 have eH:X'.H₀=Ï:=by subst cw;rfl
 have ef:X'.fs=Ď X.stack:=by subst cw;rfl
 have ex:X'.ex=fp:=by subst cw;rfl
 have ep:X'.pn=X.pn++Á:=by subst cw;rfl
 have I0:Ç X' [] (ē σ src) Ï {s₂ with heap:=de,toks:=s₂.toks}:=by
  refine⟨rS,by rw[eS],ah.bare,by rw[eS,eH];exact Un.kept old,⟨_,by rw[eL];exact bq,?_⟩,?_,by rw[eL];exact fresh _ Â,?_,?_,by rw[eP,ew];exact ah.hok.kept old,?_⟩
  .intro j x v e1 e2 e3;have e1:Nc[j]?=some x:=by subst cw;exact e1
   have e4:∃i,src[j]?=some (some i)/\(σ[i]?).join=some v:=by unfold ē at e2;rw[Ą]at e2;cases q:src[j]? with|none=>rw[q]at e2;cases e2;|some o=>rw[q]at e2;cases o with|none=>simp at e2;|some i=>exact⟨i,O,by simpa using e2⟩
   obtain⟨i,e5,e6⟩:=e4;obtain⟨c1,c2,c3,c4⟩:=(bE C).get e1 e5;have e7:σ[i]?=some (some v):=by cases q:σ[i]? with|none=>rw[q]at e6;simp at e6;|some o=>rw[q]at e6;simp at e6;rw[e6]
   obtain⟨m,_,hl⟩:=ah.loc;obtain⟨u,r,l⟩:=hl i x v c1 e7 (.inr (by rcases c2 with z|z;exact .inl z;exact .inr z));refine⟨u,r,?_⟩;rcases l with⟨k,_⟩|⟨_,c,e,z⟩;.rcases c2 with c2|c2<;>(rw[k]at c2;cases c2)
   .refine .inr ⟨by rw[eN];exact c4,c,by rw[eN];exact c3.trans e,?_⟩;obtain⟨o,ho,hd⟩:=z;exact⟨o,old c o ho,hd⟩
  .intro x c e;rw[eN]at e;rcases sub e with z|⟨_,z⟩;.obtain⟨v,o,ho,hd⟩:=ah.cell x c z;exact⟨v,o,old c o ho,hd⟩
   .rw[z];exact⟨none,iS⟩
  .intro x c e;rw[eN]at e;rcases sub e with z|⟨_,z⟩;.exact ah.freeC x c z
   .rw[z];exact fresh _ (by rw[hC];exact Ņ (Ŧ _) (Ŧ _))
  .intro p hp;rw[ep,ş]at hp;obtain⟨e,n,ne,nf,d⟩:=ah.pin p hp;refine⟨old _ _ e,n,by rw[eL];exact(aE e).1,?_,d⟩;rw[ef];intro z;rcases ĩ.mp (ah.stkSub _ z)with q|q;.exact ne q
   .exact nf q
  .have:=(bE C).len;subst cw;show(ē σ src).length=Nc.length;unfold ē;rw[Õ,this]
 have LB:∀p∈X'.pn,p.1≠D:=λp hp=>by rw[ep]at hp;exact(aE (ah.pin p hp).1).2
 have nh:∀x c,X'.env.cells.lookup x=some c->c≠D:=λx c e=>by
  rw[eN]at e;rcases sub e with z|⟨_,z⟩;.obtain⟨o,ho⟩:=fR z;exact(aE ho).2
  .rw[z,hC];exact ϗ (Zbh (Nat.lt_succ_self _))
 have zw:∀{P:Ň}{H:Hp},(∀p∈P,p.1=D)->(∀b∈fp,H b=none)->∀b∈fp,jJ X' P H b:=λ{P H}hP hn b hb=>by
  refine⟨hn b hb,by rw[eL];exact(rL b hb).1,by rw[ef];exact D7 b hb,.inl (by rw[ex];exact hb),λx c e=>?_,λp hp=>?_⟩;.rw[eN]at e;exact P2 b hb x c e
  .rcases ė.mp hp with z|z;.rw[ep]at z;exact(hf b hb).2.2.2.2.2 p z
   .rw[hP p z];exact(rL b hb).2.symm
 have ap:π X' D:=⟨by rw[eL];exact BN,by rw[ef];exact As _ (Ü _),by rw[eS,hJ];exact Ü _,nh,LB⟩;have T':Ĺ X'.prog X'.w X'.K tg J fp it tn:=by rw[eP,ew,eK];exact T
 have loop:∀s₃:Shared,s₃={s₂ with heap:=de,toks:=s₂.toks}->codeAny (model X.prog X.w) X.A (.compLoop (.ListComp elt [⟨tg,iter,ifs,0⟩] scope pos) 0 (.ref it) (.ref D) (compEnvC scope ((x₀,C+1)::cG X.env.cells scope.names []) C X.env)) (RR (.ref D) C) s₃:=by
  rintro s₃ rfl;have L:=Ks (X:=X') (scope:=scope) (pos:=pos) (R:=RR (.ref D) C) ec eE ap (sW (gens:=[⟨tg,iter,ifs,0⟩]) (d:=0) O O) hg ht (Ez ap eE he) ⟨I0,fresh _ (Ü _),λp hp=>absurd hp Ö,[],_,zS,.nil⟩ T' (T.keep _ _ _ st λb _ o e=>old b o e) (λb hb=>⟨zw (λp hp=>absurd hp Ö) (λb hb=>(hf b hb).1) b hb,(rL b hb).2⟩) hW ?_;.rw[eP,ew,eA,eN]at L;exact L
  rintro s4 ys ku H3⟨I4,jI,_,us,k,oD,zo⟩hsz fin;obtain⟨mC,D8,_⟩:=I4.loc;rw[eL]at D8;have iP:=I4.base;rw[eS,eH,ef,ex]at iP;have hlen:ys.length<=sizeLine:=Zbe hsz;have Au:Ă X.prog X.w (upd H3 D (.lst ys)) s4.heap:=λb u e=>by
   by_cases hb:b=D;.subst hb;rw[aj]at e;cases e;exact⟨hlen,us,k,zo,oD⟩
   .rw[au hb]at e;have z:=I4.hok b u e;rw[eP,ew]at z;exact z.stay (λc v _ q=>q) (λc q=>by rw[au (aA q jI)];exact q) λc xs q=>by rw[au (aA q jI)];exact q
  have un:Un (Ď X.stack) fp Ï (upd H3 D (.lst ys)) s₂.heap s4.heap:=⟨iP.keep,iP.slot,λb o e n hx=>by rw[au (aE e).2];exact iP.free b o e n hx,iP.there,λb xs e=>by have z:=iP.tups b xs e;rw[au (aA z jI)];exact z,λb o u e=>by have z:=iP.frzs b o u e;rw[au (aA z jI)];exact z,λb ps e=>by obtain⟨mo,z⟩:=iP.tbls b ps e;exact⟨mo,by rw[au (aA z jI)];exact z⟩⟩;have J4:Ç X Á σ (upd H3 D (.lst ys)) s4:=ah.call' (ch:=fp) (by have:=I4.os;rw[eS]at this;exact this) un Au I4.bare λb hb=>by obtain⟨_,f1,f2,f3,f4,f5⟩:=hf b hb;exact⟨f3,f1,f4,f5⟩
  refine D5 D C s4 ys H3 mC fin jI J4 D8 ⟨?_,?_,?_,.inr ?_,?_,?_⟩;.rw[au BN.symm];have:=I4.free;rw[eL]at this;exact this
  .have:=ah.lt;rw[hJ]at this;exact ϗ (ļ this (by rw[hC];exact Ŧ _))
  .intro z;obtain⟨_,o,ho,_⟩:=ah.funs.mem z;exact(aE ho).1 O
  .have:=ah.sz;rw[hJ]at this;lia
  .intro x c e z;obtain⟨o,ho⟩:=fR e;exact(aE ho).1 z
  .intro p hp z;exact(aE (ah.pin p hp).1).1 z
 exact vN O O (loop _ O) (T.self _ 0 _ _ _ (T.keep _ _ _ st λb _ o e=>old b o e) (loop _ O))
section
theorem wz(Nc:ð)(src:List (Option Nat))(hc:X.calm=true)(hi:PI X tg iter wi)(hb:∀C fp Á s₂ Ï,PG (cxD X scope x₀ Nc C fp Á s₂ Ï) tg g/\PTs (cxD X scope x₀ Nc C fp Á s₂ Ï) ifs tt/\PE (cxD X scope x₀ Nc C fp Á s₂ Ï) elt te)(bE:∀C,ĕ X (compEnvC scope ((x₀,C+1)::cG X.env.cells scope.names []) C X.env) Nc src)(S:Ĥ X scope x₀)(hs:∀x,foldedSetIterable iter X.env x=pure x:=by intro _;rfl):PE X (.ListComp elt [⟨tg,iter,ifs,0⟩] scope pos) (zU wi src g tt te):=by intro Á s σ H Q I h;rw[eval_ListComp];refine wpAny_comprehension_free (use:=none) O hs (lA S.hfree) S.kind S.hnames ?_;refine Ý (hi Á s σ H _ I h) λv s1 h1=>Ý h1 λDL s2 h2=>?_;obtain⟨it,fp,tn,J,H2,e,I2,T,st2,f2,hW⟩:=h2;subst e;refine yz (RR:=λacc C=>compPost (model X.prog X.w) X.A X.xe none (EP X Á σ Q) acc C) hc S bE hb I2 T st2 f2 hW ?_;intro D C s' ys H' m fin nD J' hn fC;obtain⟨f0,f1,_,f3,f4,f5⟩:=fC;refine⟨m,hn,λPw nr=>?_⟩;exact⟨.ref D,_,J'.turned (t':=s'.toks) (λb o hb e=>nr.extBut b o hb e) f0 f1 f3 f4 f5,O,fin D nD⟩
end
end L2
namespace So
open PySem PyProof.Rows
def il:Bool->Keyed->Array Keyed->Nat->Nat->Nat->StateT SortSt Sem (Option Nat):=sortPriv%PySem.Builtin.gallop
section
def LtP(prog:Program)(w:World)(A:Around)(E:gV)(s:Shared)(Ok:Keyed->Prop)(st:SortSt):Prop:=∀x y Q,Ok x->Ok y->(∀r,Q (some r) st)->wpS (model prog w) A E s (lt' x y) Q st
theorem bG{st:SortSt}(e:arr[i]?=some p)(h:Q p st):wpS (model prog w) A E s (elem' arr i) Q st:=by rw[elem'_eq,e];exact é h
theorem fV{st:SortSt}(hL:LtP prog w A E s Ok st)(hk:Ok key)(hn:h<n)(kQ:∀i,i<n->∃p,arr[b+i]?=some p/\Ok p)(q:∀k,k<=n->Q (some k) st):wpS (model prog w) A E s (il left key arr b n h) Q st:=by
 have hb:∀(i:Nat)(R:Option Bool->SortSt->Prop),i<n->(∀r,R (some r) st)->wpS (model prog w) A E s (do let x<-elem' arr (b+i)if left=true then lt' x key else do
    let r<-lt' key x
    pure (Option.map (λx=>!x) r)) R st:=λi R hi hR=>by obtain⟨p,e1,e2⟩:=kQ i hi;refine ã (bG e1 ?_);cases left with|true=>rw[Ì O];exact hL _ _ _ e2 hk hR;|false=>rw[Ê Ù];exact ã (hL _ _ _ hk e2 λr=>é (hR _))
 delta il;refine ã (hb h _ hn λr=>?_);cases r with|true=>
  dsimp only;rw[Ì O];refine ã (wpS_mono (wpS_forRange (I:=λx c Î=>Î=st/\c.1=none/\c.2.1<c.2.2/\c.2.1<n-h/\x<c.2.2) (Q:=λc Î=>Î=st/\c.1=none/\c.2.1<c.2.2/\c.2.1<n-h) ?_ ?_ ⟨O,O,(by show 0<1;decide),(by show 0<n-h;lia),(by show 0<1;decide)⟩) ?_)
  .rintro x⟨c0,l,o⟩Î _ hx⟨rfl,rfl,g1,g2,g3⟩;dsimp only at g1 g2 g3⊢;by_cases ho:o≥n-h;.rw[Ì ho];exact é ⟨O,O,g1,g2⟩
   .rw[Ê ho];refine ã (hb (h+o) _ Â λr=>?_);cases r with|true=>dsimp only;rw[Ê Ù];exact é ⟨O,O,by dsimp only;lia,by dsimp only;lia,by dsimp only;lia⟩;|false=>dsimp only;rw[Ì Ù];exact é ⟨O,O,g1,g2⟩
  .rintro⟨c0,l,o⟩Î⟨rfl,rfl,g1,g2,g3⟩;exact⟨O,O,g1,g2⟩
  .rintro⟨c0,l,o⟩Î⟨rfl,rfl,g1,g2⟩;dsimp only at g1 g2⊢;refine ã (wpS_mono (wpS_forRange (I:=λx c eC=>eC=Î/\c.1=none/\c.2.2<=n) (Q:=λc eC=>eC=Î/\c.1=none/\c.2.2<=n) ?_ ?_ ⟨O,O,(by show h+min o (n-h)<=n;lia)⟩) ?_)
   .rintro x⟨c0,l,r⟩eC _ hx⟨rfl,rfl,g2⟩;dsimp only at g2⊢;by_cases ml:l≥r;.rw[Ì ml];exact é ⟨O,O,g2⟩
    .rw[Ê ml];refine ã (hb (l+(r-l)/2) _ Â λt=>?_);cases t with|true=>dsimp only;rw[Ì O];exact é ⟨O,O,g2⟩;|false=>dsimp only;rw[Ê Ù];exact é ⟨O,O,by dsimp only;lia⟩
   .rintro⟨c0,l,r⟩eC⟨rfl,rfl,g2⟩;exact⟨O,O,g2⟩
   .rintro⟨c0,l,r⟩eC⟨rfl,rfl,g1⟩;exact é (q _ g1);|false=>
  dsimp only;rw[Ê Ù];refine ã (wpS_mono (wpS_forRange (I:=λx c Î=>Î=st/\c.1=none/\c.2.1<c.2.2/\c.2.1<h+1/\x<c.2.2) (Q:=λc Î=>Î=st/\c.1=none/\c.2.1<c.2.2/\c.2.1<h+1) ?_ ?_ ⟨O,O,(by show 0<1;decide),(by show 0<h+1;lia),(by show 0<1;decide)⟩) ?_)
  .rintro x⟨c0,l,o⟩Î _ hx⟨rfl,rfl,g1,g2,g3⟩;dsimp only at g1 g2 g3⊢;by_cases ho:o≥h+1;.rw[Ì ho];exact é ⟨O,O,g1,g2⟩
   .rw[Ê ho];refine ã (hb (h-o) _ Â λr=>?_);cases r with|false=>dsimp only;rw[Ê Ù];exact é ⟨O,O,by dsimp only;lia,by dsimp only;lia,by dsimp only;lia⟩;|true=>dsimp only;rw[Ì O];exact é ⟨O,O,g1,g2⟩
  .rintro⟨c0,l,o⟩Î⟨rfl,rfl,g1,g2,g3⟩;exact⟨O,O,g1,g2⟩
  .rintro⟨c0,l,o⟩Î⟨rfl,rfl,g1,g2⟩;dsimp only at g1 g2⊢;refine ã (wpS_mono (wpS_forRange (I:=λx c eC=>eC=Î/\c.1=none/\c.2.2<=n) (Q:=λc eC=>eC=Î/\c.1=none/\c.2.2<=n) ?_ ?_ ⟨O,O,(by show h-l<=n;lia)⟩) ?_)
   .rintro x⟨c0,l,r⟩eC _ hx⟨rfl,rfl,g2⟩;dsimp only at g2⊢;by_cases ml:l≥r;.rw[Ì ml];exact é ⟨O,O,g2⟩
    .rw[Ê ml];refine ã (hb (l+(r-l)/2) _ Â λt=>?_);cases t with|true=>dsimp only;rw[Ì O];exact é ⟨O,O,g2⟩;|false=>dsimp only;rw[Ê Ù];exact é ⟨O,O,by dsimp only;lia⟩
   .rintro⟨c0,l,r⟩eC⟨rfl,rfl,g2⟩;exact⟨O,O,g2⟩
   .rintro⟨c0,l,r⟩eC⟨rfl,rfl,g1⟩;exact é (q _ g1)
end
abbrev Sm:=StateT SortSt Sem
def Jf(lo a m:Nat):Sm AscSt:=forIn [a:m] ((none,a):AscSt) λ_ c=>do let x<-ltAt' (lo+c.snd) (lo+c.snd-1)match x with|some b=>if b=true then pure (ForInStep.done (none,c.snd))else pure (ForInStep.yield (none,c.snd+1))|_=>pure (ForInStep.done (some none,c.snd))
def Ag(lo n m:Nat):Sm (Option Nat):=do reverseSlice' lo (lo+n)let c<-Jf lo n m match c.fst with|some r=>pure r|none=>pure (some c.snd)
def FW(lo n m:Nat):Sm DescSt:=forIn [n:m] ((none,n,0):DescSt) λ_ c=>do let x<-ltAt' (lo+c.snd.fst) (lo+c.snd.fst-1)match x with
 |some b=>if b=true then if c.snd.snd>0 then do reverseSlice' (lo+c.snd.fst-(c.snd.snd+1)) (lo+c.snd.fst)pure (ForInStep.yield (none,c.snd.fst+1,0))else pure (ForInStep.yield (none,c.snd.fst+1,0))else do let y<-ltAt' (lo+c.snd.fst-1) (lo+c.snd.fst)match y with|some d=>if d=true then pure (ForInStep.done (none,c.snd.fst,c.snd.snd))else pure (ForInStep.yield (none,c.snd.fst+1,c.snd.snd+1))|_=>pure (ForInStep.done (some none,c.snd.fst,c.snd.snd))
  |_=>pure (ForInStep.done (some none,c.snd.fst,c.snd.snd))
def Ah(lo n m:Nat):Sm (Option Nat):=do liftM (rule "list.sort.descending-run")let c<-FW lo (n+1) m match c.fst with|some r=>pure r|none=>if c.snd.snd>0 then do reverseSlice' (lo+c.snd.fst-(c.snd.snd+1)) (lo+c.snd.fst)Ag lo c.snd.fst m else Ag lo c.snd.fst m
theorem bc{f f':α->Sm β}(h:m=m')(h':f=f'):(m>>=f)=(m'>>=f'):=by rw[h,h']
theorem CP(lo m:Nat):countRun' lo m=(do let c<-Jf lo 1 m match c.fst with|some r=>pure r|none=>if(c.snd==m)=true then pure (some c.snd)else if c.snd>1 then do let x<-ltAt' lo (lo+c.snd-1)match x with|some b=>if b=true then pure (some c.snd)else do reverseSlice' lo (lo+c.snd)Ah lo c.snd m|_=>pure none else Ah lo c.snd m):=by
 have tl:∀n:Nat,((do
   reverseSlice' lo (lo+n)let mut n:=n
   for _ in[n:m]do
    let some smaller<-ltAt' (lo+n) (lo+n-1)|return none
    if smaller then break
    n:=n+1
   return some n):Sm (Option Nat))=Ag lo n m:=λn=>by refine bc O (funext λu=>bc O (funext λc=>?_));obtain⟨r,n⟩:=c;cases r<;>rfl
 have pl:∀n:Nat,((do
   rule "list.sort.descending-run"let mut n:=n+1 let mut neq:=0
   for _ in[n:m]do
    let some smaller<-ltAt' (lo+n) (lo+n-1)|return none
    if smaller then
 if neq>0 then reverseSlice' (lo+n-(neq+1)) (lo+n)
     neq:=0 else
     let some larger<-ltAt' (lo+n-1) (lo+n)|return none
     if larger then break
     neq:=neq+1
    n:=n+1
   if neq>0 then reverseSlice' (lo+n-(neq+1)) (lo+n)
   reverseSlice' lo (lo+n)for _ in[n:m]do
    let some smaller<-ltAt' (lo+n) (lo+n-1)|return none
    if smaller then break
    n:=n+1
   return some n):Sm (Option Nat))=Ah lo n m:=λn=>by refine bc O (funext λu=>bc O (funext λc=>?_));obtain⟨r,n2,q2⟩:=c;cases r with|some r=>rfl;|none=>
   dsimp only;split;.exact bc O (funext λu=>tl n2)
   .exact tl n2
 unfold Jf;refine bc O (funext λc=>?_);obtain⟨r,n⟩:=c;cases r with|some r=>rfl;|none=>
  dsimp only;split;.rfl
  .split;.refine bc O (funext λx=>?_);cases x with|none=>rfl;|some b=>
     dsimp only;split;.rfl
     .exact bc O (funext λu=>pl n)
   .exact pl n
structure SB(ks:SortKind)(af:Array Keyed)(st:SortSt):Prop where
 kind:kindOf st=ks
 ok:failedOf st=none
 pm:(arrOf st).Perm af
section
variable{Ok:Keyed->Prop}{af:Array Keyed}
def LtAll(prog:Program)(w:World)(A:Around)(E:gV)(s:Shared)(Ok:Keyed->Prop)(ks:SortKind):Prop:=∀st,kindOf st=ks->LtP prog w A E s Ok st
structure Go(ks:SortKind)(af:Array Keyed)(st Î:SortSt):Prop where
 b:SB ks af Î
 p:pendingOf Î=pendingOf st
theorem SB.size{st:SortSt}(B:SB ks af st):(arrOf st).size=af.size:=B.pm.size_eq
theorem SB.item{st:SortSt}(B:SB ks af st)(h0:∀p∈af.toList,Ok p)(hi:i<af.size):∃p,(arrOf st)[i]?=some p/\Ok p:=by
 have vj:i<(arrOf st).size:=by rw[B.size];exact hi
 exact⟨_,Array.getElem?_eq_getElem vj,h0 _ ((Zbj.mp B.pm).mem_iff.mp (Array.mem_toList_iff.mpr (Array.getElem_mem vj)))⟩
theorem SB.arr{st:SortSt}(B:SB ks af st)(h:xs.Perm (arrOf st)):SB ks af (setArr st xs):=⟨B.kind,B.ok,h.trans B.pm⟩
theorem Go.refl{st:SortSt}(B:SB ks af st):Go ks af st st:=⟨B,O⟩
theorem Go.arr{st Î:SortSt}(g:Go ks af st Î)(h:xs.Perm (arrOf Î)):Go ks af st (setArr Î xs):=⟨g.b.arr h,g.p⟩
theorem ltA(hL:LtAll prog w A E s Ok ks){st:SortSt}(B:SB ks af st)(h0:∀p∈af.toList,Ok p)(hi:i<af.size)(hj:j<af.size)(h:∀r,Q (some r) st):wpS (model prog w) A E s (ltAt' i j) Q st:=by obtain⟨p,e1,ka⟩:=B.item h0 hi;obtain⟨q,e2,kb⟩:=B.item h0 hj;exact ã (wpS_get (ã (bG e1 (ã (bG e2 (hL st B.kind p q Q ka kb h))))))
theorem uL{st bg:SortSt}(g:Go ks af bg st)(h:∀Î,Go ks af bg Î->Q () Î):wpS (model prog w) A E s (reverseSlice' i j) Q st:=wpS_reverse (h _ (g.arr (mirror_perm _ _ _ _)))
variable(hL:LtAll prog w A E s Ok ks)(h0:∀p∈af.toList,Ok p)
include hL h0
theorem Ai{st:SortSt}{lo a m:Nat}(hn:lo+m<=af.size)(ha:1<=a)(ham:a<=m)(B:SB ks af st)(h:∀n,a<=n->n<=m->Q (none,n) st):wpS (model prog w) A E s (Jf lo a m) Q st:=by
 refine wpS_forRange (I:=λx c Î=>Î=st/\c=(none,x)) ?_ ?_ ⟨O,O⟩;.rintro x c Î LL Vc⟨rfl,rfl⟩;refine ã (ltA hL B h0 Â Â λr=>?_);cases r with|true=>exact é (h x LL Â);|false=>exact é ⟨O,O⟩
 .rintro c Î⟨rfl,rfl⟩;exact h _ Â Â
theorem wA{bg st:SortSt}{lo n m:Nat}(hn:lo+m<=af.size)(h1:1<=n)(AE:n<=m)(g:Go ks af bg st)(h:∀k Î,Go ks af bg Î->1<=k->k<=m->Q (some k) Î):wpS (model prog w) A E s (Ag lo n m) Q st:=ã (uL g λÎ g'=>ã (Ai hL h0 hn h1 AE g'.b λk k1 k2=>é (h k _ g' Â k2)))
theorem FZ{bg st:SortSt}{lo n m:Nat}(hn:lo+m<=af.size)(h1:1<=n)(AE:n<=m)(g:Go ks af bg st)(h:∀k q Î,Go ks af bg Î->n<=k->k<=m->Q (none,k,q) Î):wpS (model prog w) A E s (FW lo n m) Q st:=by
 unfold FW;refine wpS_forRange (I:=λx c Î=>∃q,c=(none,x,q)/\Go ks af bg Î) ?_ ?_ ⟨0,O,g⟩
 .rintro x c Î LL Vc⟨q,rfl,g⟩;dsimp only;refine ã (ltA hL g.b h0 Â Â λr=>?_)
  cases r with|true=>
   dsimp only;rw[Ì O];by_cases EC:q>0;.rw[Ì EC];exact ã (uL g λst2 g2=>é ⟨0,O,g2⟩)
   .rw[Ê EC];exact é ⟨0,O,g⟩;|false=>dsimp only;refine ã (ltA hL g.b h0 Â Â λr=>?_);cases r with|true=>exact é (h x q Î g LL Â);|false=>exact é ⟨q+1,O,g⟩
 .rintro c Î⟨q,rfl,g⟩;exact h _ q Î g Â Â
theorem wB{bg st:SortSt}{lo n m:Nat}(hn:lo+m<=af.size)(AE:n+1<=m)(g:Go ks af bg st)(h:∀k Î,Go ks af bg Î->1<=k->k<=m->Q (some k) Î):wpS (model prog w) A E s (Ah lo n m) Q st:=by
 refine ã (wpS_lift (wpAny_rule ⟨O,?_⟩));refine ã (FZ hL h0 hn Â AE g λk q Î g k1 k2=>?_);dsimp only;by_cases EC:q>0;.rw[Ì EC];exact ã (uL g λst2 g2=>wA hL h0 hn Â k2 g2 h)
 .rw[Ê EC];exact wA hL h0 hn Â k2 g h
theorem G3{st:SortSt}{lo m:Nat}(hn:lo+m<=af.size)(h1:1<=m)(B:SB ks af st)(h:∀k Î,Go ks af st Î->1<=k->k<=m->Q (some k) Î):wpS (model prog w) A E s (countRun' lo m) Q st:=by
 rw[CP];refine ã (Ai hL h0 hn (Ü 1) h1 B λn n1 n2=>?_);dsimp only;have g:=Go.refl B;by_cases AE:n=m;.rw[Ì (by simpa using AE)];exact é (h n st g n1 n2)
 .rw[Ê (by simpa using AE)];by_cases P4:n>1;.rw[Ì P4];refine ã (ltA hL B h0 Â Â λr=>?_);cases r with|true=>exact é (h n st g n1 n2);|false=>exact ã (uL g λst2 g2=>wB hL h0 hn Â g2 h)
  .rw[Ê P4];exact wB hL h0 hn Â g h
theorem Ma{bg st:SortSt}{lo n ok:Nat}(hn:lo+n<=af.size)(g:Go ks af bg st)(h:∀Î,Go ks af bg Î->Q true Î):wpS (model prog w) A E s (binarySort' lo n ok) Q st:=by
 rw[binarySort'_eq];refine ã (wpS_mono (wpS_forRange (I:=λk c Î=>c=(none,())/\Go ks af bg Î) (Q:=λc Î=>c=(none,())/\Go ks af bg Î) ?_ (λc Î h=>h) ⟨O,g⟩) ?_)
 .rintro k c Î LM hkn⟨rfl,g⟩;refine ã (wpS_mono (wpS_forRange (I:=λx c st2=>st2=Î/\∃l r,c=(none,l,r)/\l<=r/\r<=k) (Q:=λc st2=>st2=Î/\∃l r,c=(none,l,r)) ?_ ?_ ⟨O,0,k,O,Â,Â⟩) ?_)
  .rintro x c st2 _ hxk⟨rfl,l,r,rfl,ml,LN⟩;dsimp only;by_cases kR:l≥r;.rw[Ì kR];exact é ⟨O,l,r,O⟩
   .rw[Ê kR];refine ã (ltA hL g.b h0 Â Â λt=>?_);cases t with|true=>dsimp only;rw[Ì O];exact é ⟨O,l,(l+r)/2,O,Â,Â⟩;|false=>dsimp only;rw[Ê Ù];exact é ⟨O,(l+r)/2+1,r,O,Â,Â⟩
  .rintro c st2⟨rfl,l,r,rfl,_⟩;exact⟨O,l,r,O⟩
  .rintro c st2⟨rfl,l,r,rfl⟩;show wpS _ _ _ _ (do moveDown' (lo+k) (lo+l);pure (ForInStep.yield (none,()))) _ _;rw[moveDown'_eq];exact ã (wpS_modify (é ⟨O,g.arr (bubble_perm _ _ _)⟩))
 .rintro c Î⟨rfl,g⟩;exact é (h Î g)
end
def lN:Array Keyed->Array Keyed->Sm (Array Keyed):=sortPriv%PySem.Builtin.mergeLo
def lO:Nat->Sm Unit:=sortPriv%PySem.Builtin.setMinGallop
abbrev C1:=Option (Array Keyed)×Array Keyed×Nat×Nat×Nat×Nat
abbrev C2:=Option (Array Keyed)×Array Keyed×Nat×Nat×Nat×Nat×Nat
abbrev C0:=Option (Array Keyed)×Array Keyed×Nat×Nat×Nat
def one(a b:Array Keyed)(g:Nat)(out:Array Keyed)(ia ib ac bc:Nat):Sm (ForInStep C1):=do let y<-elem' b ib let x<-elem' a ia let r<-lt' y x match r with|some w=>if w=true then do let y<-elem' b ib if(ib+1==b.size)=true then pure (ForInStep.done (some (out.push y++a.extract ia a.size++b.extract (ib+1) b.size),out.push y,ia,ib+1,0,bc+1))else if bc+1≥g then pure (ForInStep.done (none,out.push y,ia,ib+1,0,bc+1))else pure (ForInStep.yield (none,out.push y,ia,ib+1,0,bc+1))else do let x<-elem' a ia if(ia+1+1==a.size)=true then pure (ForInStep.done (some (out.push x++b.extract ib b.size++a.extract (ia+1) a.size),out.push x,ia+1,ib,ac+1,0))else if ac+1≥g then pure (ForInStep.done (none,out.push x,ia+1,ib,ac+1,0))else pure (ForInStep.yield (none,out.push x,ia+1,ib,ac+1,0))|_=>pure (ForInStep.done (some (out++a.extract ia a.size++b.extract ib b.size),out,ia,ib,ac,bc))
def gl4(a b:Array Keyed)(out:Array Keyed)(ia ib g k k1:Nat):Sm (ForInStep C2):=do let x<-elem' a ia if(ia+1+1==a.size)=true then pure (ForInStep.done (some (out.push x++b.extract ib b.size++a.extract (ia+1) a.size),out.push x,ia+1,ib,g,k,k1))else if(decide (k<7)&&decide (k1<7))=true then pure (ForInStep.done (none,out.push x,ia+1,ib,g,k,k1))else pure (ForInStep.yield (none,out.push x,ia+1,ib,g,k,k1))
def gl3(a b:Array Keyed)(out:Array Keyed)(ia ib g k bc:Nat):Sm (ForInStep C2):=do let x<-elem' a ia let r<-il true x b ib (b.size-ib) 0 match r with|some k1=>if k1>0 then if(ib+k1==b.size)=true then pure (ForInStep.done (some (out++b.extract ib (ib+k1)++a.extract ia a.size++b.extract (ib+k1) b.size),out++b.extract ib (ib+k1),ia,ib+k1,g,k,k1))else gl4 a b (out++b.extract ib (ib+k1)) ia (ib+k1) g k k1 else gl4 a b out ia ib g k k1|_=>pure (ForInStep.done (some (out++a.extract ia a.size++b.extract ib b.size),out,ia,ib,g,k,bc))
def gl2(a b:Array Keyed)(out:Array Keyed)(ia ib g k bc:Nat):Sm (ForInStep C2):=do let y<-elem' b ib if(ib+1==b.size)=true then pure (ForInStep.done (some (out.push y++a.extract ia a.size++b.extract (ib+1) b.size),out.push y,ia,ib+1,g,k,bc))else gl3 a b (out.push y) ia (ib+1) g k bc
def Ϻ(a b:Array Keyed)(out:Array Keyed)(ia ib g ac bc:Nat):Sm (ForInStep C2):=do lO g let y<-elem' b ib let r<-il false y a ia (a.size-ia) 0 match r with|some k=>if k>0 then if(ia+k+1==a.size)=true then pure (ForInStep.done (some (out++a.extract ia (ia+k)++b.extract ib b.size++a.extract (ia+k) a.size),out++a.extract ia (ia+k),ia+k,ib,g,k,bc))else if(ia+k==a.size)=true then pure (ForInStep.done (some (out++a.extract ia (ia+k)++a.extract (ia+k) a.size++b.extract ib b.size),out++a.extract ia (ia+k),ia+k,ib,g,k,bc))else gl2 a b (out++a.extract ia (ia+k)) (ia+k) ib g k bc else gl2 a b out ia ib g k bc|_=>pure (ForInStep.done (some (out++a.extract ia a.size++b.extract ib b.size),out,ia,ib,g,ac,bc))
def gal(a b:Array Keyed)(out:Array Keyed)(ia ib g ac bc:Nat):Sm (ForInStep C2):=if g>1 then Ϻ a b out ia ib (g-1) ac bc else Ϻ a b out ia ib g ac bc
def round(a b:Array Keyed)(out:Array Keyed)(ia ib g:Nat):Sm (ForInStep C0):=do let c<-forIn [0:a.size+b.size] ((none,out,ia,ib,0,0):C1) λ_ c=>one a b g c.2.1 c.2.2.1 c.2.2.2.1 c.2.2.2.2.1 c.2.2.2.2.2 match c.1 with|some r=>pure (ForInStep.done (some r,c.2.1,c.2.2.1,c.2.2.2.1,g))|none=>do liftM (rule "list.sort.gallop")let d<-forIn [0:a.size+b.size] ((none,c.2.1,c.2.2.1,c.2.2.2.1,g+1,c.2.2.2.2.1,c.2.2.2.2.2):C2) λ_ d=>gal a b d.2.1 d.2.2.1 d.2.2.2.1 d.2.2.2.2.1 d.2.2.2.2.2.1 d.2.2.2.2.2.2 match d.1 with|some r=>pure (ForInStep.done (some r,d.2.1,d.2.2.1,d.2.2.2.1,d.2.2.2.2.1))|none=>do lO (d.2.2.2.2.1+1)pure (ForInStep.yield (none,d.2.1,d.2.2.1,d.2.2.2.1,d.2.2.2.2.1+1))
theorem fi{r:Std.Legacy.Range}{f f':Nat->β->Sm (ForInStep β)}(h:f=f'):(forIn r c f:Sm β)=forIn r c f':=by rw[h]
theorem ic{α:Type}[Decidable c]{x x' y y':α}(h:x=x')(h':y=y'):(if c then x else y)=if c then x' else y':=by rw[h,h']
theorem Ol(a b:Array Keyed):lN a b=(do liftM (rule "list.sort.merge-lo")let e<-elem' b 0 if(1==b.size)=true then pure (#[e]++a.extract 0 a.size++b.extract 1 b.size)else if(0+1==a.size)=true then pure (#[e]++b.extract 1 b.size++a.extract 0 a.size)else do let s<-get let c<-forIn [0:a.size+b.size] ((none,#[e],0,1,gallopOf s):C0) λ_ c=>round a b c.2.1 c.2.2.1 c.2.2.2.1 c.2.2.2.2 match c.1 with|some r=>pure r|none=>liftM (unsupported "internal:list.sort.merge-bound")):=by
 delta lN;refine bc O (funext λu=>bc O (funext λe=>ic O (ic O (bc O (funext λs=>bc (fi (funext λx=>funext λc=>?_)) (funext λc=>?_))))))
 .unfold round;refine bc (fi (funext λx=>funext λc1=>?_)) (funext λc1=>?_);.unfold one;refine bc O (funext λy=>bc O (funext λx=>bc O (funext λr=>?_)));cases r with|none=>rfl;|some w=>exact ic (bc O (funext λy=>ic O (ic O O))) (bc O (funext λy=>ic O (ic O O)))
  .obtain⟨r,c1⟩:=c1;cases r with|some r=>rfl;|none=>
    refine bc O (funext λu=>bc (fi (funext λx=>funext λd=>?_)) (funext λd=>?_));.unfold gal;refine ic ?_ ?_<;>(unfold Ϻ;exact bc O (funext λu=>bc O (funext λy=>bc O (funext λr=>by rfl))))
    .obtain⟨r,d⟩:=d;cases r<;>rfl
 .obtain⟨r,c⟩:=c;cases r<;>rfl
structure SG(st Î:SortSt):Prop where
 kind:kindOf Î=kindOf st
 arr:arrOf Î=arrOf st
 pend:pendingOf Î=pendingOf st
 fail:failedOf Î=failedOf st
theorem SG.refl(st:SortSt):SG st st:=⟨O,O,O,O⟩
theorem SG.trans(g:SG a b)(h:SG b c):SG a c:=⟨h.kind.trans g.kind,h.arr.trans g.arr,h.pend.trans g.pend,h.fail.trans g.fail⟩
structure Two(Ok:Keyed->Prop)(a b:Array Keyed):Prop where
 ka:∀p∈a.toList,Ok p
 kb:∀p∈b.toList,Ok p
theorem item{Ok:Keyed->Prop}{a:Array Keyed}(ka:∀p∈a.toList,Ok p)(hi:i<a.size):∃p,a[i]?=some p/\Ok p/\a.toList.drop i=p::a.toList.drop (i+1):=by refine⟨a[i],Array.getElem?_eq_getElem hi,ka _ (Array.mem_toList_iff.mpr (Array.getElem_mem hi)),?_⟩;have:=Zas (l:=a.toList) (i:=i) (by simpa using hi);rw[this];simp
theorem lQ(a:Array Keyed)(i j:Nat):(a.extract i j).toList=(a.toList.drop i).take (j-i):=by rw[Array.toList_extract]
theorem ph(a:Array Keyed)(i:Nat):(a.extract i a.size).toList=a.toList.drop i:=by rw[lQ];refine Zai ?_;rw[ϙ];exact Ü _
def M(a b out:Array Keyed)(ia ib:Nat):Prop:=(out.toList++(a.toList.drop ia++b.toList.drop ib)).Perm (a.toList++b.toList)
abbrev Rs(a b r:Array Keyed):Prop:=r.toList.Perm (a.toList++b.toList)
theorem mid(o t A R:List Keyed):(o++t++(A++R)).Perm (o++(A++(t++R))):=by rw[ő,<-ő t,<-ő A];exact(List.perm_append_comm.append_right R).append_left o
theorem M.pushA(m:M a b out ia ib)(e:a.toList.drop ia=x::a.toList.drop (ia+1)):M a b (out.push x) (ia+1) ib:=by unfold M at m⊢;rw[e]at m;rw[Array.toList_push,ő];exact m
theorem M.pushB(m:M a b out ia ib)(e:b.toList.drop ib=x::b.toList.drop (ib+1)):M a b (out.push x) ia (ib+1):=by unfold M at m⊢;rw[e]at m;rw[Array.toList_push];exact(mid _ [x] _ _).trans m
theorem M.segA(k:Nat)(m:M a b out ia ib):M a b (out++a.extract ia (ia+k)) (ia+k) ib:=by unfold M at m⊢;rw[Zal,lQ,show ia+k-ia=k by lia,ő,<-ő (List.take _ _),<-List.drop_drop,zBe];exact m
theorem M.segB(k:Nat)(m:M a b out ia ib):M a b (out++b.extract ib (ib+k)) ia (ib+k):=by unfold M at m⊢;rw[Zal,lQ,show ib+k-ib=k by lia];refine(mid _ _ _ _).trans ?_;rw[<-List.drop_drop,zBe];exact m
theorem M.e1(m:M a b out ia ib):Rs a b (out++a.extract ia a.size++b.extract ib b.size):=by unfold M at m;unfold Rs;rw[Zal,Zal,ph,ph,ő];exact m
theorem M.e2(m:M a b out ia ib):Rs a b (out++b.extract ib b.size++a.extract ia a.size):=by unfold M at m;unfold Rs;rw[Zal,Zal,ph,ph,ő];exact(List.perm_append_comm.append_left _).trans m
section
theorem jE{st:SortSt}(h:∀Î,SG st Î->Q () Î):wpS (model prog w) A E s (lO g) Q st:=wpS_modify (h _ ⟨O,O,O,O⟩)
structure At(a b out:Array Keyed)(ia ib:Nat):Prop where
 mi:M a b out ia ib
 ha:ia+1<a.size
 hb:ib<b.size
def G2(a b:Array Keyed)(n:Nat)(st:SortSt)(r:ForInStep C2)(Î:SortSt):Prop:=SG st Î/\match r with|.done c=>(∃z,c.1=some z/\Rs a b z)\/(c.1=none/\At a b c.2.1 c.2.2.1 c.2.2.2.1/\n<=c.2.2.1+c.2.2.2.1)|.yield c=>c.1=none/\At a b c.2.1 c.2.2.1 c.2.2.2.1/\n<=c.2.2.1+c.2.2.2.1
variable(hL:LtAll prog w A E s Ok ks)(T:Two Ok a b)
include T
theorem qD{bg st:SortSt}(sg:SG bg st)(m:At a b out ia ib)(hn:n<=ia+ib+1):wpS (model prog w) A E s (gl4 a b out ia ib g k k1) (G2 a b n bg) st:=by
 obtain⟨x,x1,x2,x4⟩:=item T.ka (i:=ia) (by have:=m.ha;lia);refine ã (bG x1 ?_);have m':=m.mi.pushA x4;by_cases ha:ia+1+1=a.size;.rw[Ì (by simpa using ha)];exact é ⟨sg,.inl ⟨_,O,m'.e2⟩⟩
 .rw[Ê (by simpa using ha)];have at':At a b (out.push x) (ia+1) ib:=⟨m',by have:=m.ha;lia,m.hb⟩;split;.exact é ⟨sg,.inr ⟨O,at',by dsimp only;lia⟩⟩
  .exact é ⟨sg,O,at',by dsimp only;lia⟩
include hL
theorem yC{g ia ib ac bc:Nat}{st:SortSt}(hk:kindOf st=ks)(m:At a b out ia ib):wpS (model prog w) A E s (one a b g out ia ib ac bc) (λr Î=>Î=st/\match r with|.done c=>(∃z,c.1=some z/\Rs a b z)\/(c.1=none/\At a b c.2.1 c.2.2.1 c.2.2.2.1/\ia+ib+1=c.2.2.1+c.2.2.2.1)|.yield c=>c.1=none/\At a b c.2.1 c.2.2.1 c.2.2.2.1/\ia+ib+1=c.2.2.1+c.2.2.2.1) st:=by
 obtain⟨x,x1,x2,x4⟩:=item T.ka (i:=ia) (by have:=m.ha;lia);obtain⟨y,y1,y2,y4⟩:=item T.kb m.hb;unfold one;refine ã (bG y1 (ã (bG x1 (ã (hL st hk _ _ _ y2 x2 λe=>?_)))))
 cases e with|true=>
  refine ã (bG y1 ?_);have m':=m.mi.pushB y4;by_cases hb:ib+1=b.size;.rw[Ì (by simpa using hb)];exact é ⟨O,.inl ⟨_,O,m'.e1⟩⟩
  .rw[Ê (by simpa using hb)];have at':At a b (out.push y) ia (ib+1):=⟨m',m.ha,by have:=m.hb;lia⟩;split;.exact é ⟨O,.inr ⟨O,at',by dsimp only;lia⟩⟩
   .exact é ⟨O,O,at',by dsimp only;lia⟩;|false=>
  refine ã (bG x1 ?_);have m':=m.mi.pushA x4;by_cases ha:ia+1+1=a.size;.rw[Ì (by simpa using ha)];exact é ⟨O,.inl ⟨_,O,m'.e2⟩⟩
  .rw[Ê (by simpa using ha)];have at':At a b (out.push x) (ia+1) ib:=⟨m',by have:=m.ha;lia,m.hb⟩;split;.exact é ⟨O,.inr ⟨O,at',by dsimp only;lia⟩⟩
   .exact é ⟨O,O,at',by dsimp only;lia⟩
theorem yD{g ia ib k bc n:Nat}{bg st:SortSt}(hk:kindOf st=ks)(sg:SG bg st)(m:At a b out ia ib)(hn:n<=ia+ib+1):wpS (model prog w) A E s (gl3 a b out ia ib g k bc) (G2 a b n bg) st:=by
 obtain⟨x,x1,x2,x4⟩:=item T.ka (i:=ia) (by have:=m.ha;lia);have hb:=m.hb;refine ã (bG x1 ?_);refine ã (fV (hL st hk) x2 Â (λi hi=>?_) λk1 kn=>?_);.obtain⟨p,p1,p2,_⟩:=item T.kb (i:=ib+i) Â;exact⟨p,p1,p2⟩
 .by_cases h0:k1>0
  .dsimp only;rw[Ì h0];have m':=m.mi.segB k1;by_cases e:ib+k1=b.size;.rw[Ì (by simpa using e)];exact é ⟨sg,.inl ⟨_,O,m'.e1⟩⟩
   .rw[Ê (by simpa using e)];exact qD T sg ⟨m',m.ha,Â⟩ Â
  .dsimp only;rw[Ê h0];exact qD T sg m hn
theorem qF{g ia ib k bc n:Nat}{bg st:SortSt}(hk:kindOf st=ks)(sg:SG bg st)(m:At a b out ia ib)(hn:n<=ia+ib+1):wpS (model prog w) A E s (gl2 a b out ia ib g k bc) (G2 a b n bg) st:=by
 obtain⟨y,y1,y2,y4⟩:=item T.kb m.hb;refine ã (bG y1 ?_);have m':=m.mi.pushB y4;by_cases hb:ib+1=b.size;.rw[Ì (by simpa using hb)];exact é ⟨sg,.inl ⟨_,O,m'.e1⟩⟩
 .rw[Ê (by simpa using hb)];exact yD hL T hk sg ⟨m',m.ha,by have:=m.hb;lia⟩ Â
theorem yE{g ia ib ac bc n:Nat}{bg st:SortSt}(hk:kindOf st=ks)(sg:SG bg st)(m:At a b out ia ib)(hn:n<=ia+ib+1):wpS (model prog w) A E s (Ϻ a b out ia ib g ac bc) (G2 a b n bg) st:=by
 obtain⟨y,y1,y2,y4⟩:=item T.kb m.hb;have ha:=m.ha;unfold Ϻ;refine ã (jE λÎ ED=>?_);have eR:kindOf Î=ks:=ED.kind.trans hk;have cx:SG bg Î:=sg.trans ED;refine ã (bG y1 ?_);refine ã (fV (hL Î eR) y2 Â (λi hi=>?_) λk kn=>?_);.obtain⟨p,p1,p2,_⟩:=item T.ka (i:=ia+i) Â;exact⟨p,p1,p2⟩
 .by_cases h0:k>0
  .dsimp only;rw[Ì h0];have m':=m.mi.segA k;by_cases e:ia+k+1=a.size;.rw[Ì (by simpa using e)];exact é ⟨cx,.inl ⟨_,O,m'.e2⟩⟩
   .rw[Ê (by simpa using e)];by_cases e2:ia+k=a.size;.rw[Ì (by simpa using e2)];exact é ⟨cx,.inl ⟨_,O,m'.e1⟩⟩
    .rw[Ê (by simpa using e2)];exact qF hL T eR cx ⟨m',Â,m.hb⟩ Â
  .dsimp only;rw[Ê h0];exact qF hL T eR cx m hn
theorem qG{bg st:SortSt}(hk:kindOf st=ks)(sg:SG bg st)(m:At a b out ia ib):wpS (model prog w) A E s (round a b out ia ib g) (λr Î=>SG bg Î/\match r with|.done c=>∃z,c.1=some z/\Rs a b z|.yield c=>c.1=none/\At a b c.2.1 c.2.2.1 c.2.2.2.1/\ia+ib+1<=c.2.2.1+c.2.2.2.1) st:=by
 have Vd:0<a.size+b.size:=by have:=m.ha;lia
 refine ã (wpS_mono (wpS_forRange (I:=λx c Î=>Î=st/\c.1=none/\At a b c.2.1 c.2.2.1 c.2.2.2.1/\ia+ib+x=c.2.2.1+c.2.2.2.1) (Q:=λc Î=>Î=st/\((∃z,c.1=some z/\Rs a b z)\/(c.1=none/\At a b c.2.1 c.2.2.1 c.2.2.2.1/\ia+ib+1<=c.2.2.1+c.2.2.2.1))) ?_ ?_ ⟨O,O,m,O⟩) ?_)
 .rintro x⟨c0,o,i,j,ac,bc⟩Î _ hx⟨rfl,rfl,m',e⟩;dsimp only at m' e⊢;refine wpS_mono (yC hL T hk m') λr st2 h2=>?_;obtain⟨rfl,h2⟩:=h2
  cases r with|done c=>
   rcases h2 with h2|⟨h2,h3,h4⟩;.exact⟨O,.inl h2⟩
   .exact⟨O,.inr ⟨h2,h3,Â⟩⟩;|yield c=>obtain⟨h2,h3,h4⟩:=h2;exact⟨O,h2,h3,Â⟩
 .rintro c Î⟨rfl,h1,h2,h3⟩;exact⟨O,.inr ⟨h1,h2,Â⟩⟩
 .rintro⟨c0,o,i,j,ac,bc⟩Î⟨rfl,h⟩;dsimp only at h⊢;rcases h with⟨z,rfl,hz⟩|⟨rfl,m',yA⟩;.exact é ⟨sg,z,O,hz⟩
  .dsimp only;refine ã (wpS_lift (wpAny_rule ⟨O,?_⟩));refine ã (wpS_mono (wpS_forRange (I:=λx c st2=>SG bg st2/\c.1=none/\At a b c.2.1 c.2.2.1 c.2.2.2.1/\ia+ib+1<=c.2.2.1+c.2.2.2.1) (Q:=λc st2=>SG bg st2/\((∃z,c.1=some z/\Rs a b z)\/(c.1=none/\At a b c.2.1 c.2.2.1 c.2.2.2.1/\ia+ib+1<=c.2.2.1+c.2.2.2.1))) ?_ ?_ ⟨sg,O,m',yA⟩) ?_)
   .rintro x⟨c0,o,i,j,g2,ac,bc⟩st2 _ hx⟨cx,rfl,m2,e2⟩;dsimp only at m2 e2⊢;have LO:kindOf st2=ks:=cx.kind.trans (sg.kind.symm.trans hk);have go:∀g',wpS (model prog w) A E s (Ϻ a b o i j g' ac bc) (G2 a b (ia+ib+1) bg) st2:=λg'=>yE hL T LO cx m2 Â;unfold gal;split;.refine wpS_mono (go _) λr kz h3=>?_;obtain⟨h3,h4⟩:=h3;cases r with|done c=>exact⟨h3,h4⟩;|yield c=>exact⟨h3,h4⟩
    .refine wpS_mono (go _) λr kz h3=>?_;obtain⟨h3,h4⟩:=h3;cases r with|done c=>exact⟨h3,h4⟩;|yield c=>exact⟨h3,h4⟩
   .rintro c st2⟨h0,h1,h2,h3⟩;exact⟨h0,.inr ⟨h1,h2,h3⟩⟩
   .rintro⟨c0,o,i,j,g2,ac,bc⟩st2⟨cx,h⟩;dsimp only at h⊢;rcases h with⟨z,rfl,hz⟩|⟨rfl,m2,AF⟩;.exact é ⟨cx,z,O,hz⟩
    .dsimp only;refine ã (jE λkz rX=>é ⟨⟨rX.kind.trans cx.kind,rX.arr.trans cx.arr,rX.pend.trans cx.pend,rX.fail.trans cx.fail⟩,O,m2,AF⟩)
theorem Om(ha:0<a.size)(hb:0<b.size){st:SortSt}(hk:kindOf st=ks)(h:∀r Î,SG st Î->Rs a b r->Q r Î):wpS (model prog w) A E s (lN a b) Q st:=by
 rw[Ol];obtain⟨y,y1,y2,y4⟩:=item T.kb hb;refine ã (wpS_lift (wpAny_rule ⟨O,?_⟩));refine ã (bG y1 ?_);have m0:M a b #[] 0 0:=by unfold M;exact .refl _
 have m:M a b #[y] 0 1:=m0.pushB y4;by_cases e1:1=b.size;.rw[Ì (by simpa using e1)];exact é (h _ st (SG.refl _) m.e1)
 .rw[Ê (by simpa using e1)];by_cases e2:0+1=a.size;.rw[Ì (by simpa using e2)];exact é (h _ st (SG.refl _) m.e2)
  .rw[Ê (by simpa using e2)];refine ã (wpS_get ?_);refine ã (wpS_mono (wpS_forRange (I:=λx c Î=>SG st Î/\c.1=none/\At a b c.2.1 c.2.2.1 c.2.2.2.1/\1+x<=c.2.2.1+c.2.2.2.1) (Q:=λc Î=>SG st Î/\∃z,c.1=some z/\Rs a b z) ?_ ?_ ⟨SG.refl _,O,⟨m,by dsimp only;lia,by dsimp only;lia⟩,by dsimp only;lia⟩) ?_);.rintro x⟨c0,o,i,j,g⟩Î _ hx⟨sg,rfl,m',e⟩;dsimp only at m' e⊢;refine wpS_mono (qG hL T (sg.kind.trans hk) sg m') λr st2 h2=>?_;obtain⟨cx,h2⟩:=h2;cases r with|done c=>exact⟨cx,h2⟩;|yield c=>obtain⟨h2,h3,h4⟩:=h2;exact⟨cx,h2,h3,Â⟩
   .rintro c Î⟨sg,h1,m',e⟩;have:=m'.ha;have:=m'.hb;exact absurd e Â
   .rintro⟨c0,o,i,j,g⟩Î⟨sg,z,e,hz⟩;rw[e];exact é (h z Î sg hz)
end
def lU:Array Keyed->Array Keyed->Sm (Array Keyed):=sortPriv%PySem.Builtin.mergeHi
namespace Hi
abbrev dn(a b out:Array Keyed)(na nb:Nat):Array Keyed:=a.extract 0 na++b.extract 0 nb++out.reverse
abbrev fb(a b out:Array Keyed)(na nb:Nat):Array Keyed:=b.extract 0 nb++a.extract 0 na++out.reverse
abbrev H1:=Option (Array Keyed)×Nat×Nat×Array Keyed×Nat×Nat
abbrev H2:=Option (Array Keyed)×Nat×Nat×Array Keyed×Nat×Nat×Nat
abbrev H0:=Option (Array Keyed)×Nat×Nat×Array Keyed×Nat
def one(a b:Array Keyed)(g:Nat)(na nb:Nat)(out:Array Keyed)(ac bc:Nat):Sm (ForInStep H1):=do let y<-elem' b (nb-1)let x<-elem' a (na-1)let r<-lt' y x match r with|some w=>if w=true then do let x<-elem' a (na-1)if(na-1==0)=true then pure (ForInStep.done (some (dn a b (out.push x) (na-1) nb),na-1,nb,out.push x,ac+1,0))else if ac+1≥g then pure (ForInStep.done (none,na-1,nb,out.push x,ac+1,0))else pure (ForInStep.yield (none,na-1,nb,out.push x,ac+1,0))else do let y<-elem' b (nb-1)if(nb-1==1)=true then pure (ForInStep.done (some (fb a b (out.push y) na (nb-1)),na,nb-1,out.push y,0,bc+1))else if bc+1≥g then pure (ForInStep.done (none,na,nb-1,out.push y,0,bc+1))else pure (ForInStep.yield (none,na,nb-1,out.push y,0,bc+1))|_=>pure (ForInStep.done (some (dn a b out na nb),na,nb,out,ac,bc))
def gl4(a b:Array Keyed)(na nb:Nat)(out:Array Keyed)(g k k1:Nat):Sm (ForInStep H2):=do let x<-elem' a (na-1)if(na-1==0)=true then pure (ForInStep.done (some (dn a b (out.push x) (na-1) nb),na-1,nb,out.push x,g,k,k1))else if(decide (k<7)&&decide (k1<7))=true then pure (ForInStep.done (none,na-1,nb,out.push x,g,k,k1))else pure (ForInStep.yield (none,na-1,nb,out.push x,g,k,k1))
def gl3(a b:Array Keyed)(na nb:Nat)(out:Array Keyed)(g k bc:Nat):Sm (ForInStep H2):=do let x<-elem' a (na-1)let r<-il true x b 0 nb (nb-1)match r with|some t=>if nb-t>0 then if(t==1)=true then pure (ForInStep.done (some (fb a b (out++(b.extract t nb).reverse) na t),na,t,out++(b.extract t nb).reverse,g,k,nb-t))else if(t==0)=true then pure (ForInStep.done (some (dn a b (out++(b.extract t nb).reverse) na t),na,t,out++(b.extract t nb).reverse,g,k,nb-t))else gl4 a b na t (out++(b.extract t nb).reverse) g k (nb-t)else gl4 a b na nb out g k (nb-t)|_=>pure (ForInStep.done (some (dn a b out na nb),na,nb,out,g,k,bc))
def gl2(a b:Array Keyed)(na nb:Nat)(out:Array Keyed)(g k bc:Nat):Sm (ForInStep H2):=do let y<-elem' b (nb-1)if(nb-1==1)=true then pure (ForInStep.done (some (fb a b (out.push y) na (nb-1)),na,nb-1,out.push y,g,k,bc))else gl3 a b na (nb-1) (out.push y) g k bc
def Ϻ(a b:Array Keyed)(na nb:Nat)(out:Array Keyed)(g ac bc:Nat):Sm (ForInStep H2):=do lO g let y<-elem' b (nb-1)let r<-il false y a 0 na (na-1)match r with|some t=>if na-t>0 then if(t==0)=true then pure (ForInStep.done (some (dn a b (out++(a.extract t na).reverse) t nb),t,nb,out++(a.extract t na).reverse,g,na-t,bc))else gl2 a b t nb (out++(a.extract t na).reverse) g (na-t) bc else gl2 a b na nb out g (na-t) bc|_=>pure (ForInStep.done (some (dn a b out na nb),na,nb,out,g,ac,bc))
def gal(a b:Array Keyed)(na nb:Nat)(out:Array Keyed)(g ac bc:Nat):Sm (ForInStep H2):=if g>1 then Ϻ a b na nb out (g-1) ac bc else Ϻ a b na nb out g ac bc
def round(a b:Array Keyed)(na nb:Nat)(out:Array Keyed)(g:Nat):Sm (ForInStep H0):=do let c<-forIn [0:a.size+b.size] ((none,na,nb,out,0,0):H1) λ_ c=>one a b g c.2.1 c.2.2.1 c.2.2.2.1 c.2.2.2.2.1 c.2.2.2.2.2 match c.1 with|some r=>pure (ForInStep.done (some r,c.2.1,c.2.2.1,c.2.2.2.1,g))|none=>do liftM (rule "list.sort.gallop")let d<-forIn [0:a.size+b.size] ((none,c.2.1,c.2.2.1,c.2.2.2.1,g+1,c.2.2.2.2.1,c.2.2.2.2.2):H2) λ_ d=>gal a b d.2.1 d.2.2.1 d.2.2.2.1 d.2.2.2.2.1 d.2.2.2.2.2.1 d.2.2.2.2.2.2 match d.1 with|some r=>pure (ForInStep.done (some r,d.2.1,d.2.2.1,d.2.2.2.1,d.2.2.2.2.1))|none=>do lO (d.2.2.2.2.1+1)pure (ForInStep.yield (none,d.2.1,d.2.2.1,d.2.2.2.1,d.2.2.2.2.1+1))
theorem Oo(a b:Array Keyed):lU a b=(do liftM (rule "list.sort.merge-hi")let e<-elem' a (a.size-1)if(a.size-1==0)=true then pure (dn a b #[e] (a.size-1) b.size)else if(b.size==1)=true then pure (fb a b #[e] (a.size-1) b.size)else do let s<-get let c<-forIn [0:a.size+b.size] ((none,a.size-1,b.size,#[e],gallopOf s):H0) λ_ c=>round a b c.2.1 c.2.2.1 c.2.2.2.1 c.2.2.2.2 match c.1 with|some r=>pure r|none=>liftM (unsupported "internal:list.sort.merge-bound")):=by
 delta lU;refine bc O (funext λu=>bc O (funext λe=>ic O (ic O (bc O (funext λs=>bc (fi (funext λx=>funext λc=>?_)) (funext λc=>?_))))))
 .unfold round;refine bc (fi (funext λx=>funext λc1=>?_)) (funext λc1=>?_);.unfold one;refine bc O (funext λy=>bc O (funext λx=>bc O (funext λr=>?_)));cases r with|none=>rfl;|some w=>exact ic (bc O (funext λy=>ic O (ic O O))) (bc O (funext λy=>ic O (ic O O)))
  .obtain⟨r,c1⟩:=c1;cases r with|some r=>rfl;|none=>
    refine bc O (funext λu=>bc (fi (funext λx=>funext λd=>?_)) (funext λd=>?_));.unfold gal;refine ic ?_ ?_<;>(unfold Ϻ;exact bc O (funext λu=>bc O (funext λy=>bc O (funext λr=>by rfl))))
    .obtain⟨r,d⟩:=d;cases r<;>rfl
 .obtain⟨r,c⟩:=c;cases r<;>rfl
theorem Jg(a:Array Keyed)(n:Nat):(a.extract 0 n).toList=a.toList.take n:=by simp
theorem ext_cut(a:Array Keyed)(t n:Nat):(a.extract t n).toList=(a.toList.take n).drop t:=by rw[lQ,List.drop_take]
theorem wC(out:Array Keyed)(x:Keyed):(out.push x).reverse.toList=x::out.reverse.toList:=by simp
theorem Aj(out seg:Array Keyed):(out++seg.reverse).reverse.toList=seg.toList++out.reverse.toList:=by simp
def Mh(a b out:Array Keyed)(na nb:Nat):Prop:=(a.toList.take na++(b.toList.take nb++out.reverse.toList)).Perm (a.toList++b.toList)
theorem gU{l:List Keyed}(h:t<=n):l.take n=l.take t++(l.take n).drop t:=by have e:=zBe t (l.take n);rw[List.take_take,show min t n=t by lia]at e;exact e.symm
theorem Oq{a b:Array Keyed}(m:(a.toList.take na++(b.toList.take nb++o)).Perm out)(h:t<=na)(e:(a.toList.take na).drop t=seg):(a.toList.take t++(b.toList.take nb++(seg++o))).Perm out:=by rw[gU h,e,ő]at m;exact((List.perm_append_comm_assoc _ _ _).append_left _).trans m
theorem Ot{a b:Array Keyed}(m:(a.toList.take na++(b.toList.take nb++o)).Perm out)(h:t<=nb)(e:(b.toList.take nb).drop t=seg):(a.toList.take na++(b.toList.take t++(seg++o))).Perm out:=by rw[gU (l:=b.toList) h,e,ő]at m;exact m
structure At(a b out:Array Keyed)(na nb:Nat):Prop where
 mi:Mh a b out na nb
 a1:1<=na
 a2:na<=a.size
 b1:2<=nb
 b2:nb<=b.size
theorem j8{Ok:Keyed->Prop}{a:Array Keyed}(ka:∀p∈a.toList,Ok p)(h1:1<=n)(h2:n<=a.size):∃p,a[n-1]?=some p/\Ok p/\(a.toList.take n).drop (n-1)=[p]:=by obtain⟨p,p1,p2,p4⟩:=item ka (i:=n-1) Â;refine⟨p,p1,p2,?_⟩;rw[List.drop_take,p4,show n-(n-1)=1 by lia];rfl
theorem pushA(m:Mh a b out na nb)(e:(a.toList.take na).drop (na-1)=[x]):Mh a b (out.push x) (na-1) nb:=by unfold Mh;rw[wC];exact Oq m Â e
theorem pushB(m:Mh a b out na nb)(e:(b.toList.take nb).drop (nb-1)=[x]):Mh a b (out.push x) na (nb-1):=by unfold Mh;rw[wC];exact Ot m Â e
theorem segA(m:Mh a b out na nb)(ht:t<=na):Mh a b (out++(a.extract t na).reverse) t nb:=by unfold Mh;rw[Aj,ext_cut];exact Oq m ht O
theorem segB(m:Mh a b out na nb)(ht:t<=nb):Mh a b (out++(b.extract t nb).reverse) na t:=by unfold Mh;rw[Aj,ext_cut];exact Ot m ht O
theorem e_d(m:Mh a b out na nb):Rs a b (dn a b out na nb):=by unfold Mh at m;unfold Rs dn;rw[Zal,Zal,Jg,Jg,ő];exact m
theorem e_f(m:Mh a b out na nb):Rs a b (fb a b out na nb):=by unfold Mh at m;unfold Rs fb;rw[Zal,Zal,Jg,Jg,ő];exact(List.perm_append_comm_assoc _ _ _).trans m
section
theorem yC(hL:LtAll prog w A E s Ok ks)(T:Two Ok a b){g na nb ac bc:Nat}{st:SortSt}(hk:kindOf st=ks)(m:At a b out na nb):wpS (model prog w) A E s (one a b g na nb out ac bc) (λr Î=>Î=st/\match r with|.done c=>(∃z,c.1=some z/\Rs a b z)\/(c.1=none/\At a b c.2.2.2.1 c.2.1 c.2.2.1/\c.2.1+c.2.2.1+1=na+nb)|.yield c=>c.1=none/\At a b c.2.2.2.1 c.2.1 c.2.2.1/\c.2.1+c.2.2.1+1=na+nb) st:=by
 obtain⟨mi,a1,a2,b1,b2⟩:=m;obtain⟨x,x1,x2,x4⟩:=j8 T.ka a1 a2;obtain⟨y,y1,y2,y4⟩:=j8 T.kb (show 1<=nb by lia) b2;unfold one;refine ã (bG y1 (ã (bG x1 (ã (hL st hk _ _ _ y2 x2 λe=>?_)))))
 cases e with|true=>
  dsimp only;refine ã (bG x1 ?_);have m':=pushA mi x4;by_cases h0:na-1=0;.rw[Ì (by simpa using h0)];exact é ⟨O,.inl ⟨_,O,e_d m'⟩⟩
  .rw[Ê (by simpa using h0)];have at':At a b (out.push x) (na-1) nb:=⟨m',Â,Â,b1,b2⟩;split;.exact é ⟨O,.inr ⟨O,at',by dsimp only;lia⟩⟩
   .exact é ⟨O,O,at',by dsimp only;lia⟩;|false=>
  dsimp only;refine ã (bG y1 ?_);have m':=pushB mi y4;by_cases h0:nb-1=1;.rw[Ì (by simpa using h0)];exact é ⟨O,.inl ⟨_,O,e_f m'⟩⟩
  .rw[Ê (by simpa using h0)];have at':At a b (out.push y) na (nb-1):=⟨m',a1,a2,Â,Â⟩;split;.exact é ⟨O,.inr ⟨O,at',by dsimp only;lia⟩⟩
   .exact é ⟨O,O,at',by dsimp only;lia⟩
def G2(a b:Array Keyed)(n:Nat)(st:SortSt)(r:ForInStep H2)(Î:SortSt):Prop:=SG st Î/\match r with|.done c=>(∃z,c.1=some z/\Rs a b z)\/(c.1=none/\At a b c.2.2.2.1 c.2.1 c.2.2.1/\c.2.1+c.2.2.1<n)|.yield c=>c.1=none/\At a b c.2.2.2.1 c.2.1 c.2.2.1/\c.2.1+c.2.2.1<n
theorem qD(T:Two Ok a b){bg st:SortSt}(sg:SG bg st)(m:At a b out na nb)(hn:na+nb<=n):wpS (model prog w) A E s (gl4 a b na nb out g k k1) (G2 a b n bg) st:=by
 obtain⟨mi,a1,a2,b1,b2⟩:=m;obtain⟨x,x1,x2,x4⟩:=j8 T.ka a1 a2;refine ã (bG x1 ?_);have m':=pushA mi x4;by_cases h0:na-1=0;.rw[Ì (by simpa using h0)];exact é ⟨sg,.inl ⟨_,O,e_d m'⟩⟩
 .rw[Ê (by simpa using h0)];have at':At a b (out.push x) (na-1) nb:=⟨m',Â,Â,b1,b2⟩;split;.exact é ⟨sg,.inr ⟨O,at',by dsimp only;lia⟩⟩
  .exact é ⟨sg,O,at',by dsimp only;lia⟩
theorem yD(hL:LtAll prog w A E s Ok ks)(T:Two Ok a b){g na nb k bc n:Nat}{bg st:SortSt}(hk:kindOf st=ks)(sg:SG bg st)(m:At a b out na nb)(hn:na+nb<=n):wpS (model prog w) A E s (gl3 a b na nb out g k bc) (G2 a b n bg) st:=by
 obtain⟨mi,a1,a2,b1,b2⟩:=id m;obtain⟨x,x1,x2,x4⟩:=j8 T.ka a1 a2;unfold gl3;refine ã (bG x1 ?_);refine ã (fV (hL st hk) x2 Â (λi hi=>?_) λt kn=>?_);.obtain⟨p,p1,p2,_⟩:=item T.kb (i:=0+i) Â;exact⟨p,p1,p2⟩
 .by_cases h0:nb-t>0
  .dsimp only;rw[Ì h0];have m':=segB mi (show t<=nb by lia);by_cases e:t=1;.rw[Ì (by simpa using e)];exact é ⟨sg,.inl ⟨_,O,e_f m'⟩⟩
   .rw[Ê (by simpa using e)];by_cases e2:t=0;.rw[Ì (by simpa using e2)];exact é ⟨sg,.inl ⟨_,O,e_d m'⟩⟩
    .rw[Ê (by simpa using e2)];exact qD T sg ⟨m',a1,a2,Â,Â⟩ Â
  .dsimp only;rw[Ê h0];exact qD T sg m hn
theorem qF(hL:LtAll prog w A E s Ok ks)(T:Two Ok a b){g na nb k bc n:Nat}{bg st:SortSt}(hk:kindOf st=ks)(sg:SG bg st)(m:At a b out na nb)(hn:na+nb<=n):wpS (model prog w) A E s (gl2 a b na nb out g k bc) (G2 a b n bg) st:=by
 obtain⟨mi,a1,a2,b1,b2⟩:=m;obtain⟨y,y1,y2,y4⟩:=j8 T.kb (show 1<=nb by lia) b2;refine ã (bG y1 ?_);have m':=pushB mi y4;by_cases h0:nb-1=1;.rw[Ì (by simpa using h0)];exact é ⟨sg,.inl ⟨_,O,e_f m'⟩⟩
 .rw[Ê (by simpa using h0)];exact yD hL T hk sg ⟨m',a1,a2,Â,Â⟩ Â
theorem yE(hL:LtAll prog w A E s Ok ks)(T:Two Ok a b){g na nb ac bc n:Nat}{bg st:SortSt}(hk:kindOf st=ks)(sg:SG bg st)(m:At a b out na nb)(hn:na+nb<=n):wpS (model prog w) A E s (Ϻ a b na nb out g ac bc) (G2 a b n bg) st:=by
 obtain⟨mi,a1,a2,b1,b2⟩:=id m;obtain⟨y,y1,y2,y4⟩:=j8 T.kb (show 1<=nb by lia) b2;refine ã (jE λÎ ED=>?_);have eR:kindOf Î=ks:=ED.kind.trans hk;have cx:SG bg Î:=sg.trans ED;refine ã (bG y1 ?_);refine ã (fV (hL Î eR) y2 Â (λi hi=>?_) λt kn=>?_);.obtain⟨p,p1,p2,_⟩:=item T.ka (i:=0+i) Â;exact⟨p,p1,p2⟩
 .by_cases h0:na-t>0
  .dsimp only;rw[Ì h0];have m':=segA mi (show t<=na by lia);by_cases e:t=0;.rw[Ì (by simpa using e)];exact é ⟨cx,.inl ⟨_,O,e_d m'⟩⟩
   .rw[Ê (by simpa using e)];exact qF hL T eR cx ⟨m',Â,Â,b1,b2⟩ Â
  .dsimp only;rw[Ê h0];exact qF hL T eR cx m hn
theorem qG(hL:LtAll prog w A E s Ok ks)(T:Two Ok a b){bg st:SortSt}(hk:kindOf st=ks)(sg:SG bg st)(m:At a b out na nb):wpS (model prog w) A E s (round a b na nb out g) (λr Î=>SG bg Î/\match r with|.done c=>∃z,c.1=some z/\Rs a b z|.yield c=>c.1=none/\At a b c.2.2.2.1 c.2.1 c.2.2.1/\c.2.1+c.2.2.1<na+nb) st:=by
 have Vd:0<a.size+b.size:=by have:=m.a1;have:=m.a2;lia
 refine ã (wpS_mono (wpS_forRange (I:=λx c Î=>Î=st/\c.1=none/\At a b c.2.2.2.1 c.2.1 c.2.2.1/\c.2.1+c.2.2.1+x=na+nb) (Q:=λc Î=>Î=st/\((∃z,c.1=some z/\Rs a b z)\/(c.1=none/\At a b c.2.2.2.1 c.2.1 c.2.2.1/\c.2.1+c.2.2.1<na+nb))) ?_ ?_ ⟨O,O,m,O⟩) ?_)
 .rintro x⟨c0,i,j,o,ac,bc⟩Î _ hx⟨rfl,rfl,m',e⟩;dsimp only at m' e⊢;refine wpS_mono (yC hL T hk m') λr st2 h2=>?_;obtain⟨rfl,h2⟩:=h2
  cases r with|done c=>
   rcases h2 with h2|⟨h2,h3,h4⟩;.exact⟨O,.inl h2⟩
   .exact⟨O,.inr ⟨h2,h3,Â⟩⟩;|yield c=>obtain⟨h2,h3,h4⟩:=h2;exact⟨O,h2,h3,Â⟩
 .rintro c Î⟨rfl,h1,h2,h3⟩;exact⟨O,.inr ⟨h1,h2,Â⟩⟩
 .rintro⟨c0,i,j,o,ac,bc⟩Î⟨rfl,h⟩;dsimp only at h⊢;rcases h with⟨z,rfl,hz⟩|⟨rfl,m',yA⟩;.exact é ⟨sg,z,O,hz⟩
  .dsimp only;refine ã (wpS_lift (wpAny_rule ⟨O,?_⟩));refine ã (wpS_mono (wpS_forRange (I:=λx c st2=>SG bg st2/\c.1=none/\At a b c.2.2.2.1 c.2.1 c.2.2.1/\c.2.1+c.2.2.1<na+nb) (Q:=λc st2=>SG bg st2/\((∃z,c.1=some z/\Rs a b z)\/(c.1=none/\At a b c.2.2.2.1 c.2.1 c.2.2.1/\c.2.1+c.2.2.1<na+nb))) ?_ ?_ ⟨sg,O,m',yA⟩) ?_)
   .rintro x⟨c0,i,j,o,g2,ac,bc⟩st2 _ hx⟨cx,rfl,m2,e2⟩;dsimp only at m2 e2⊢;have LO:kindOf st2=ks:=cx.kind.trans (sg.kind.symm.trans hk);have go:∀g',wpS (model prog w) A E s (Ϻ a b i j o g' ac bc) (G2 a b (na+nb) bg) st2:=λg'=>yE hL T LO cx m2 Â;unfold gal;split;.refine wpS_mono (go _) λr kz h3=>?_;obtain⟨h3,h4⟩:=h3;cases r with|done c=>exact⟨h3,h4⟩;|yield c=>exact⟨h3,h4⟩
    .refine wpS_mono (go _) λr kz h3=>?_;obtain⟨h3,h4⟩:=h3;cases r with|done c=>exact⟨h3,h4⟩;|yield c=>exact⟨h3,h4⟩
   .rintro c st2⟨h0,h1,h2,h3⟩;exact⟨h0,.inr ⟨h1,h2,h3⟩⟩
   .rintro⟨c0,i,j,o,g2,ac,bc⟩st2⟨cx,h⟩;dsimp only at h⊢;rcases h with⟨z,rfl,hz⟩|⟨rfl,m2,AF⟩;.exact é ⟨cx,z,O,hz⟩
    .dsimp only;refine ã (jE λkz rX=>é ⟨⟨rX.kind.trans cx.kind,rX.arr.trans cx.arr,rX.pend.trans cx.pend,rX.fail.trans cx.fail⟩,O,m2,AF⟩)
theorem hi_wp(hL:LtAll prog w A E s Ok ks)(T:Two Ok a b)(ha:0<a.size)(hb:0<b.size){st:SortSt}(hk:kindOf st=ks)(h:∀r Î,SG st Î->Rs a b r->Q r Î):wpS (model prog w) A E s (lU a b) Q st:=by
 rw[Oo];obtain⟨x,x1,x2,x4⟩:=j8 T.ka (n:=a.size) ha (Ü _);refine ã (wpS_lift (wpAny_rule ⟨O,?_⟩));refine ã (bG x1 ?_);have m0:Mh a b #[] a.size b.size:=by unfold Mh;rw[Zai (by rw[Ŋ];exact Ü _),Zai (by rw[Ŋ];exact Ü _)];simp
 have m:Mh a b #[x] (a.size-1) b.size:=pushA m0 x4;by_cases e1:a.size-1=0;.rw[Ì (by simpa using e1)];exact é (h _ st (SG.refl _) (e_d m))
 .rw[Ê (by simpa using e1)];by_cases e2:b.size=1;.rw[Ì (by simpa using e2)];exact é (h _ st (SG.refl _) (e_f m))
  .rw[Ê (by simpa using e2)];refine ã (wpS_get ?_);refine ã (wpS_mono (wpS_forRange (I:=λx c Î=>SG st Î/\c.1=none/\At a b c.2.2.2.1 c.2.1 c.2.2.1/\c.2.1+c.2.2.1+x<a.size+b.size) (Q:=λc Î=>SG st Î/\∃z,c.1=some z/\Rs a b z) ?_ ?_ ⟨SG.refl _,O,⟨m,by dsimp only;lia,by dsimp only;lia,by dsimp only;lia,Ü _⟩,by dsimp only;lia⟩) ?_);.rintro x⟨c0,i,j,o,g⟩Î _ hx⟨sg,rfl,m',e⟩;dsimp only at m' e⊢;refine wpS_mono (qG hL T (sg.kind.trans hk) sg m') λr st2 h2=>?_;obtain⟨cx,h2⟩:=h2;cases r with|done c=>exact⟨cx,h2⟩;|yield c=>obtain⟨h2,h3,h4⟩:=h2;exact⟨cx,h2,h3,Â⟩
   .rintro c Î⟨sg,h1,m',e⟩;exact absurd e Â
   .rintro⟨c0,i,j,o,g⟩Î⟨sg,z,e,hz⟩;rw[e];exact é (h z Î sg hz)
end
end Hi
open PySem PyProof.Rows
def over(arr:Array Keyed)(n:Nat)(l:List Keyed):Array Keyed:=l.zipIdx.foldl (λa p=>a.setIfInBounds (n+p.2) p.1) arr
theorem Ak:∀(l:List Keyed)j n(arr:Array Keyed),n+j+l.length<=arr.size->(((l.zipIdx j).foldl (λa p=>a.setIfInBounds (n+p.2) p.1) arr).size=arr.size/\∀i,((l.zipIdx j).foldl (λa p=>a.setIfInBounds (n+p.2) p.1) arr)[i]?=if n+j<=i/\i<n+j+l.length then l[i-(n+j)]? else arr[i]?)
 |[],j,n,arr,_=>by refine⟨O,λi=>?_⟩;rw[Ê (by rw[List.length_nil];lia)];rfl;|p::l,j,n,arr,h=>by
  rw[ĵ]at h;rw[List.zipIdx_cons,List.foldl_cons];obtain⟨h1,h2⟩:=Ak l (j+1) n (arr.setIfInBounds (n+j) p) (by rw[Array.size_setIfInBounds];lia);refine⟨by rw[h1,Array.size_setIfInBounds],λi=>?_⟩;rw[h2 i,ĵ,Array.getElem?_setIfInBounds];by_cases e:n+j=i;.subst e;rw[Ê Â,Ì O,Ì Â];simp
  .rw[Ê e];by_cases e2:n+(j+1)<=i/\i<n+(j+1)+l.length;.rw[Ì e2,Ì Â,show i-(n+j)=(i-(n+(j+1)))+1 by lia];rfl
   .rw[Ê e2,Ê Â]
theorem CQ(h:n+l.length<=arr.size):(over arr n l).toList=arr.toList.take n++l++arr.toList.drop (n+l.length):=by
 obtain⟨h1,h2⟩:=Ak l 0 n arr Â;refine List.ext_getElem? λi=>?_;rw[Zav];show((l.zipIdx 0).foldl (λa p=>a.setIfInBounds (n+p.2) p.1) arr)[i]?=_;have hl:arr.toList.length=arr.size:=Ŋ;rw[h2 i,ő,List.getElem?_append,ŉ,hl,show min n arr.size=n by lia,List.getElem?_append];by_cases e1:i<n;.rw[Ê Â,Ì e1,List.getElem?_take,Ì e1,Zav]
 .rw[Ê e1];by_cases e2:i<n+l.length;.rw[Ì Â,Ì Â];rfl
  .rw[Ê Â,Ê Â,List.getElem?_drop,Zav];congr 1;lia
theorem Ou(i:Nat):mergeAt' i=(do let s<-get match(pendingOf s)[i]?,(pendingOf s)[i+1]? with
 |some p,some q=>do set (setPending s (((pendingOf s).setIfInBounds i (p.1,p.2.1+q.2.1,p.2.2)).eraseIdxIfInBounds (i+1)))let y<-elem' (arrOf s) q.1 let r<-il false y (arrOf s) p.1 p.2.1 0 match r with
   |some k=>if(p.2.1-k==0)=true then pure true else do
 let x<-elem' (arrOf s) (p.1+k+(p.2.1-k)-1)let r<-il true x (arrOf s) q.1 q.2.1 (q.2.1-1)
     match r with|some n=>if(n==0)=true then pure true else do
 let m<-if p.2.1-k<=n then lN ((arrOf s).extract (p.1+k) q.1) ((arrOf s).extract q.1 (q.1+n))else lU ((arrOf s).extract (p.1+k) q.1) ((arrOf s).extract q.1 (q.1+n))
       modify λs'=>setArr s' (over (arrOf s') (p.1+k) m.toList)let s'<-get
       pure (failedOf s').isNone|_=>pure false
   |_=>pure false
  |_,_=>liftM (unsupported "internal:list.sort.pending")):=by delta mergeAt';refine bc O (funext λs=>?_);generalize e1:(pendingOf s)[i]?=o1;generalize e2:(pendingOf s)[i+1]?=o2;cases o1 with|none=>cases o2<;>rfl;|some p=>cases o2 with|none=>rfl;|some q=>refine bc O (funext λu=>bc O (funext λy=>bc O (funext λr=>?_)));cases r with|none=>rfl;|some k=>refine ic O (bc O (funext λx=>bc O (funext λr=>?_)));cases r with|none=>rfl;|some n=>exact ic O (ic (bc O (funext λm=>rfl)) (bc O (funext λm=>rfl)))
theorem jm{l:List Keyed}(h:t<=n)(hn:n<=l.length):(l.take n).drop t++l.drop n=l.drop t:=by have e:=zBe n l;have:(l.take n++l.drop n).drop t=(l.take n).drop t++l.drop n:=List.drop_append_of_le_length (by rw[ŉ];lia);rw[e]at this;exact this.symm
section
theorem Ov(hL:LtAll prog w A E s Ok ks)(h0:∀p∈af.toList,Ok p){st:SortSt}(B:SB ks af st)(e1:(pendingOf st)[i]?=some (sa,na,pw))(e2:(pendingOf st)[i+1]?=some (sa+na,nb,P5))(n1:1<=na)(n2:1<=nb)(hz:sa+na+nb<=af.size)(h:∀Î,SB ks af Î->pendingOf Î=((pendingOf st).setIfInBounds i (sa,na+nb,pw)).eraseIdxIfInBounds (i+1)->Q true Î):wpS (model prog w) A E s (mergeAt' i) Q st:=by
 rw[Ou];refine ã (wpS_get ?_);rw[e1,e2];dsimp only;have kA:∀p∈(arrOf st).toList,Ok p:=λp hp=>h0 p ((Zbj.mp B.pm).mem_iff.mp hp);have hsz:(arrOf st).size=af.size:=B.size;have hU:(arrOf st).toList.length=af.size:=by rw[Ŋ,hsz]
 obtain⟨P,eP⟩:∃P,P=((pendingOf st).setIfInBounds i (sa,na+nb,pw)).eraseIdxIfInBounds (i+1):=⟨_,O⟩;rw[<-eP]at h⊢;have LP:∀{R:PUnit->SortSt->Prop},R ⟨⟩ (setPending st P)->wpS (model prog w) A E s (set (setPending st P):Sm PUnit) R st:=λhR=>by unfold wpS;rw[StateT.run_set];exact Ú ⟨O,hR⟩
 refine ã (LP ?_);obtain⟨st1,se⟩:∃st1,st1=setPending st P:=⟨_,O⟩;have k1:kindOf st1=ks:=by rw[se];exact B.kind
 have a1:arrOf st1=arrOf st:=by rw[se]
 have p1:pendingOf st1=P:=by rw[se]
 have f1:failedOf st1=none:=by rw[se];exact B.ok
 rw[<-se];have all:SB ks af st1:=⟨k1,f1,by rw[a1];exact B.pm⟩;obtain⟨y,y1,y2,y4⟩:=item kA (i:=sa+na) Â;refine ã (bG y1 ?_);refine ã (fV (hL st1 k1) y2 Â (λj hj=>?_) λk kn=>?_);.obtain⟨p,q1,q2,_⟩:=item kA (i:=sa+j) Â;exact⟨p,q1,q2⟩
 .dsimp only;by_cases LM:na-k=0;.rw[Ì (by simpa using LM)];exact é (h st1 all p1)
  .rw[Ê (by simpa using LM)];rw[show sa+k+(na-k)-1=sa+na-1 by lia];obtain⟨x,x1,x2,x4⟩:=item kA (i:=sa+na-1) Â;refine ã (bG x1 ?_);refine ã (fV (hL st1 k1) x2 Â (λj hj=>?_) λn nn=>?_);.obtain⟨p,q1,q2,_⟩:=item kA (i:=sa+na+j) Â;exact⟨p,q1,q2⟩
   .dsimp only;by_cases P6:n=0;.rw[Ì (by simpa using P6)];exact é (h st1 all p1)
    .rw[Ê (by simpa using P6)];obtain⟨X,eX⟩:∃X,X=(arrOf st).extract (sa+k) (sa+na):=⟨_,O⟩;obtain⟨Y,eY⟩:∃Y,Y=(arrOf st).extract (sa+na) (sa+na+n):=⟨_,O⟩;rw[<-eX,<-eY];have lX:X.toList=((arrOf st).toList.take (sa+na)).drop (sa+k):=by rw[eX,Hi.ext_cut]
     have lY:Y.toList=((arrOf st).toList.take (sa+na+n)).drop (sa+na):=by rw[eY,Hi.ext_cut]
     have zX:X.size=na-k:=by rw[<-Ŋ,lX,ϙ,ŉ,hU];lia
     have zY:Y.size=n:=by rw[<-Ŋ,lY,ϙ,ŉ,hU];lia
     have TT:Two Ok X Y:=⟨λp hp=>kA p (by rw[lX]at hp;exact Za2 (Zbk hp)),λp hp=>kA p (by rw[lY]at hp;exact Za2 (Zbk hp))⟩;have fin:∀m st2,SG st1 st2->Rs X Y m->wpS (model prog w) A E s (do
 modify λs'=>setArr s' (over (arrOf s') (sa+k) m.toList)let s'<-get
       pure (failedOf s').isNone) Q st2:=λm st2 sg D=>by
      refine ã (wpS_modify (ã (wpS_get (é ?_))));have ft:(failedOf (setArr st2 (over (arrOf st2) (sa+k) m.toList))).isNone=true:=by show(failedOf st2).isNone=true;rw[sg.fail,f1];rfl
      rw[ft];have am:arrOf st2=arrOf st:=sg.arr.trans a1;have lm:m.toList.length=na-k+n:=by rw[D.length_eq,õ,Ŋ,Ŋ,zX,zY]
      have ol:(over (arrOf st) (sa+k) m.toList).toList=(arrOf st).toList.take (sa+k)++m.toList++(arrOf st).toList.drop (sa+na+n):=by rw[CQ (by rw[lm,hsz];lia),lm,show sa+k+(na-k+n)=sa+na+n by lia]
      have EE:(over (arrOf st) (sa+k) m.toList).toList.Perm (arrOf st).toList:=by
       rw[ol];have e:(arrOf st).toList=(arrOf st).toList.take (sa+k)++(X.toList++Y.toList)++(arrOf st).toList.drop (sa+na+n):=by rw[lX,lY];have c1:=jm (l:=(arrOf st).toList) (t:=sa+na) (n:=sa+na+n) Â (by rw[hU];lia);have c2:=jm (l:=(arrOf st).toList) (t:=sa+k) (n:=sa+na) Â (by rw[hU];lia);rw[ő,ő,c1,c2,zBe]
       conv=>rhs;rw[e]
       exact List.Perm.append_right _ (List.Perm.append_left _ D)
      refine h _ ⟨sg.kind.trans k1,by show failedOf st2=none;rw[sg.fail,f1],?_⟩ (sg.pend.trans p1);show(over (arrOf st2) (sa+k) m.toList).Perm af;rw[am];exact(Zbj.mpr EE).trans B.pm
     by_cases hc:na-k<=n;.rw[Ì hc];exact ã (Om hL TT Â Â k1 λm st2 sg D=>fin m st2 sg D)
     .rw[Ê hc];exact ã (Hi.hi_wp hL TT Â Â k1 λm st2 sg D=>fin m st2 sg D)
end
abbrev Run:=Nat×Nat×Nat
def Ch:List Run->Nat->Nat->Prop|[],a,b=>a=b|r::l,a,b=>r.1=a/\1<=r.2.1/\Ch l (a+r.2.1) b
theorem Ch.le:∀{l:List Run}{a b:Nat},Ch l a b->a+l.length<=b|[],a,b,h=>by have h:a=b:=h;simp[h];|r::l,a,b,h=>by have:=Ch.le h.2.2;have:=h.2.1;rw[ĵ];lia
theorem Ch.split:∀{l1 l2:List Run}{a b:Nat},Ch (l1++l2) a b↔∃m,Ch l1 a m/\Ch l2 m b
 |[],l2,a,b=>⟨λh=>⟨a,O,h⟩,λhZ=>by obtain⟨m,h1,h2⟩:=hZ;rw[h1];exact h2⟩|r::l1,l2,a,b=>by
  constructor;.intro h;obtain⟨m,h1,h2⟩:=Ch.split.mp h.2.2;exact⟨m,⟨h.1,h.2.1,h1⟩,h2⟩
  .rintro⟨m,h1,h2⟩;exact⟨h1.1,h1.2.1,Ch.split.mpr ⟨m,h1.2.2,h2⟩⟩
theorem CT{p:Array Run}(h:i+1<p.size):((p.setIfInBounds i v).eraseIdxIfInBounds (i+1)).toList=p.toList.take i++v::p.toList.drop (i+2):=by
 have hl:p.toList.length=p.size:=Ŋ;have e1:(p.setIfInBounds i v).eraseIdxIfInBounds (i+1)=(p.setIfInBounds i v).eraseIdx (i+1) (by rw[Array.size_setIfInBounds];exact h):=by grind
 rw[e1,Array.toList_eraseIdx,Array.toList_setIfInBounds,List.eraseIdx_eq_take_drop_succ,List.take_set,List.drop_set,Ì Â];have e2:p.toList.take (i+1)=p.toList.take i++[p.toList[i]'Â]:=by rw[ĺ,á Â];rfl
 rw[e2,List.set_append_right _ _ (by rw[ŉ];lia)];rw[ŉ,show i-min i p.toList.length=0 by lia];simp
section
structure St(ks:SortKind)(af:Array Keyed)(st:SortSt)(lo:Nat):Prop where
 base:SB ks af st
 ch:Ch (pendingOf st).toList 0 lo
 le:lo<=af.size
theorem wF(hL:LtAll prog w A E s Ok ks)(h0:∀p∈af.toList,Ok p){st:SortSt}{lo i:Nat}(S:St ks af st lo)(hi:i+1<(pendingOf st).size)(h:∀Î,St ks af Î lo->(pendingOf Î).size+1=(pendingOf st).size->Q true Î):wpS (model prog w) A E s (mergeAt' i) Q st:=by
 have hl:(pendingOf st).toList.length=(pendingOf st).size:=Ŋ;have d1:(pendingOf st).toList.drop i=(pendingOf st).toList[i]'Â::(pendingOf st).toList.drop (i+1):=Zas Â;have d2:(pendingOf st).toList.drop (i+1)=(pendingOf st).toList[i+1]'Â::(pendingOf st).toList.drop (i+2):=Zas Â;have g1:(pendingOf st)[i]?=some ((pendingOf st).toList[i]'Â):=by rw[<-Zav,á Â]
 have g2:(pendingOf st)[i+1]?=some ((pendingOf st).toList[i+1]'Â):=by rw[<-Zav,á Â]
 obtain⟨⟨sa,na,pw⟩,ep⟩:∃r,r=(pendingOf st).toList[i]'Â:=⟨_,O⟩;obtain⟨⟨sb,nb,P5⟩,eq⟩:∃r,r=(pendingOf st).toList[i+1]'Â:=⟨_,O⟩;rw[<-ep]at d1 g1;rw[<-eq]at d2 g2;have c:=S.ch;rw[<-zBe i (pendingOf st).toList,d1,d2]at c;obtain⟨m,c1,c2⟩:=Ch.split.mp c;obtain⟨q1,q2,q4,q5,q7⟩:=c2;dsimp only at q1 q2 q4 q5 q7;subst q1;subst q4;have lb:=Ch.le q7;refine Ov hL h0 S.base g1 g2 q2 q5 (by have:=S.le;lia) λÎ B' P'=>?_;have pl:(pendingOf Î).toList=(pendingOf st).toList.take i++(sa,na+nb,pw)::(pendingOf st).toList.drop (i+2):=by rw[P',CT hi]
 refine h Î ⟨B',?_,S.le⟩ ?_;.rw[pl];refine Ch.split.mpr ⟨sa,c1,O,by dsimp only;lia,?_⟩;dsimp only;rw[<-Nat.add_assoc];exact q7
 .rw[<-Ŋ,pl,õ,ĵ,ŉ,ϙ];lia
def rest(z lo n:Nat):Sm (ForInStep (Option Unit×Nat)):=do let s<-get match(pendingOf s).back? with
 |some (s1,n1,_)=>do
 let c<-forIn [0:z] ((none,()):Option Unit×Unit) λ_ _=>do let s<-get match(if(pendingOf s).size>1 then(pendingOf s)[(pendingOf s).size-2]? else none)with|some (_,_,older)=>if older<=power' z (2*s1+n1) (2*s1+n1+n1+n) z then pure (ForInStep.done (none,()))else do let b<-mergeAt' ((pendingOf s).size-2)if(!b)=true then pure (ForInStep.done (some (),()))else pure (ForInStep.yield (none,()))|_=>pure (ForInStep.done (none,()))
  match c.1 with|some r=>pure (ForInStep.done (some r,lo))|none=>do modify λs=>setPending s ((pendingOf s).modify ((pendingOf s).size-1) λx=>(x.1,x.2.1,power' z (2*s1+n1) (2*s1+n1+n1+n) z))modify λs=>setPending s ((pendingOf s).push (lo,n,0))pure (ForInStep.yield (none,lo+n))
 |_=>do modify λs=>setPending s ((pendingOf s).push (lo,n,0))pure (ForInStep.yield (none,lo+n))
theorem Ch.pw(f:Run->Run)(hf:∀r,(f r).1=r.1/\(f r).2.1=r.2.1):∀{l:List Run}{a b i:Nat},Ch l a b->Ch (l.modify i f) a b|[],a,b,i,h=>by cases i<;>exact h;|r::l,a,b,0,h=>by obtain⟨e1,e2⟩:=hf r;refine⟨e1.trans h.1,by rw[e2];exact h.2.1,?_⟩;rw[e2];exact h.2.2;|r::l,a,b,i+1,h=>⟨h.1,h.2.1,Ch.pw f hf h.2.2⟩
theorem St.push{st:SortSt}{lo n:Nat}(S:St ks af st lo)(n1:1<=n)(hn:lo+n<=af.size):St ks af (setPending st ((pendingOf st).push (lo,n,0))) (lo+n):=by refine⟨⟨S.base.kind,S.base.ok,S.base.pm⟩,?_,hn⟩;rw[Array.toList_push];exact Ch.split.mpr ⟨lo,S.ch,O,n1,O⟩
theorem St.pw{st:SortSt}{lo i:Nat}(S:St ks af st lo)(f:Run->Run)(hf:∀r,(f r).1=r.1/\(f r).2.1=r.2.1):St ks af (setPending st ((pendingOf st).modify i f)) lo:=by refine⟨⟨S.base.kind,S.base.ok,S.base.pm⟩,?_,S.le⟩;rw[Array.toList_modify];exact S.ch.pw f hf
theorem Al(hL:LtAll prog w A E s Ok ks)(h0:∀p∈af.toList,Ok p){st:SortSt}{lo n x:Nat}(S:St ks af st lo)(n1:1<=n)(hn:lo+n<=af.size)(hx:x<=lo)(h:∀Î,St ks af Î (lo+n)->Q (.yield (none,lo+n)) Î):wpS (model prog w) A E s (rest af.size lo n) Q st:=by unfold rest;refine ã (wpS_get ?_);cases(pendingOf st).back? with|none=>exact ã (wpS_modify (é (h _ (S.push n1 hn))));|some q=>
  obtain⟨s1,LS,p1⟩:=q;refine ã (wpS_mono (wpS_forRange (I:=λ_ c Î=>c=(none,())/\St ks af Î lo) (Q:=λc Î=>c=(none,())/\St ks af Î lo) ?_ (λ_ _ z=>z) ⟨O,S⟩) ?_)
  .rintro y c Î _ _⟨rfl,S'⟩;refine ã (wpS_get ?_);by_cases h1:(pendingOf Î).size>1
   .rw[Ì h1];have hl:(pendingOf Î).size-2<(pendingOf Î).size:=Â;rw[Array.getElem?_eq_getElem hl];dsimp only;split;.exact é ⟨O,S'⟩
    .refine ã (wF hL h0 S' Â λst2 S2 _=>?_);exact é ⟨O,S2⟩
   .rw[Ê h1];exact é ⟨O,S'⟩
  .rintro c Î⟨rfl,S'⟩;refine ã (wpS_modify (ã (wpS_modify (é (h _ ?_)))));exact(S'.pw (λx=>(x.1,x.2.1,power' af.size (2*s1+LS) (2*s1+LS+LS+n) af.size)) λ_=>⟨O,O⟩).push n1 hn
theorem ifl(c:Prop)[Decidable c](n:Nat):(if c then n-1 else n)<=n:=by split<;>lia
theorem runs_wp(hL:LtAll prog w A E s Ok ks)(h0:∀p∈af.toList,Ok p){st:SortSt}(B:SB ks af st)(hp:pendingOf st=#[])(h:∀Î,SB ks af Î->Q () Î):wpS (model prog w) A E s sortRuns' Q st:=by
 rw[sortRuns'_eq];refine ã (wpS_get ?_);dsimp only;rw[B.size];generalize minRun' af.size af.size 0=mr;refine ã (wpS_mono (wpS_forRange (I:=λx c Î=>c.1=none/\St ks af Î c.2/\x<=c.2) (Q:=λc Î=>c.1=none/\St ks af Î af.size) ?_ ?_ ⟨O,⟨B,by rw[hp];rfl,į _⟩,Ü _⟩) ?_)
 .rintro x⟨c0,lo⟩Î _ hx⟨rfl,S,va⟩;dsimp only at S va⊢;by_cases kR:lo≥af.size
  .rw[Ì kR];have e:lo=af.size:=by have:=S.le;lia
   refine é ⟨O,?_⟩;rw[<-e];exact S
  .rw[Ê kR];refine ã (G3 hL h0 Â Â S.base λn st1 G1 n1 n2=>?_);dsimp only;have S1:St ks af st1 lo:=⟨G1.b,by rw[G1.p];exact S.ch,S.le⟩;have tr:∀{m m':Sm (ForInStep (Option Unit×Nat))}{R:ForInStep (Option Unit×Nat)->SortSt->Prop}{st2:SortSt},m=m'->wpS (model prog w) A E s m' R st2->wpS (model prog w) A E s m R st2:=λe h=>e▸h;by_cases hm:n<mr;.rw[Ì hm];refine ã (wpS_lift (wpAny_rule ⟨O,?_⟩));refine ã (Ma hL h0 Â (Go.refl G1.b) λst2 G2=>?_);rw[Ê Ù];refine tr ?_ (Al (n:=min (af.size-lo) mr) hL h0 ⟨G2.b,by rw[G2.p];exact S1.ch,S.le⟩ Â Â va λkz S3=>⟨O,S3,by dsimp only;lia⟩);.skip;unfold rest;refine bc O (funext λs=>?_);cases(pendingOf s).back? with|none=>rfl;|some q=>
      obtain⟨s1,n1,p⟩:=q;refine bc (fi (funext λx=>funext λc=>bc O (funext λs=>?_))) (funext λc=>?_);.generalize(if(pendingOf s).size>1 then(pendingOf s)[(pendingOf s).size-2]? else none)=o;cases o with|none=>rfl;|some r=>obtain⟨r1,r2,r3⟩:=r;exact ic O (bc O (funext λb=>rfl))
      .obtain⟨r,u⟩:=c;cases r<;>rfl
   .rw[Ê hm];refine tr ?_ (Al (n:=n) hL h0 S1 n1 Â va λkz S3=>⟨O,S3,by dsimp only;lia⟩);.skip;unfold rest;refine bc O (funext λs=>?_);cases(pendingOf s).back? with|none=>rfl;|some q=>
      obtain⟨s1,n1,p⟩:=q;refine bc (fi (funext λx=>funext λc=>bc O (funext λs=>?_))) (funext λc=>?_);.generalize(if(pendingOf s).size>1 then(pendingOf s)[(pendingOf s).size-2]? else none)=o;cases o with|none=>rfl;|some r=>obtain⟨r1,r2,r3⟩:=r;exact ic O (bc O (funext λb=>rfl))
      .obtain⟨r,u⟩:=c;cases r<;>rfl
 .rintro⟨c0,lo⟩Î⟨h1,S,h2⟩;dsimp only at h1 S h2⊢;have e:lo=af.size:=by have:=S.le;lia
  rw[<-e];exact⟨h1,S⟩
 .rintro⟨c0,lo⟩Î⟨h1,S⟩;dsimp only at h1;subst h1;dsimp only;have p0:(pendingOf Î).size<=af.size:=by have:=Ch.le S.ch;rw[Ŋ]at this;lia
  refine ã (wpS_mono (wpS_forRange (I:=λx c st2=>c=(none,())/\St ks af st2 af.size/\(pendingOf st2).size+x<=af.size) (Q:=λc st2=>c=(none,())/\St ks af st2 af.size/\(pendingOf st2).size<=1) ?_ ?_ ⟨O,S,Â⟩) ?_)
  .rintro x c st2 _ hx⟨rfl,S2,kf⟩;refine ã (wpS_get ?_);by_cases h1:(pendingOf st2).size<=1;.rw[Ì h1];exact é ⟨O,S2,h1⟩
   .rw[Ê h1];refine ã (wF hL h0 S2 (Nat.lt_of_le_of_lt (Nat.succ_le_succ (ifl _ _)) (show(pendingOf st2).size-2+1<(pendingOf st2).size by lia)) λkz S3 z3=>?_);rw[Ê Ù];exact é ⟨O,S3,Â⟩
  .rintro c st2⟨rfl,S2,kf⟩;exact⟨O,S2,Â⟩
  .rintro c st2⟨rfl,S2,kf⟩;exact é (h st2 S2.base)
end
end So
namespace L2
open PySem PySem.Spec PyProof.Rows PySem.Calls
section
open PySem.W
theorem G4:∀{ns ms:WF}{us vs:ā}{i:Nat},Í (ns.map V.int) us->Í (ms.map V.int) vs->(∀r,Q r s)->KatLex prog w A true (decide (ns.length<ms.length)) Q (us.zip vs) i s
 |[],[],_,_,_,.nil,.nil,h=>h _|[],_::_,_,_,_,.nil,.cons _ _,h=>by refine kat_nil ?_;exact h _;|_::_,[],_,_,_,.cons _ _,.nil,h=>by refine kat_nil ?_;exact h _;|x::ns,y::ms,_,_,i,.cons r1 t1,.cons r2 t2,h=>by
  obtain⟨k1,rfl⟩:=r1;obtain⟨k2,rfl⟩:=r2;refine kat_cons (wpAny_eqBool_int ?_);by_cases e:x=y;.subst e;rw[show(x==x)=true from beq_self_eq_true x];refine kat_yes ?_;have:=G4 (prog:=prog) (w:=w) (A:=A) (i:=i+1) t1 t2 h;rw[show decide ((x::ns).length<(x::ms).length)=decide (ns.length<ms.length)by rw[ĵ,ĵ];exact decide_eq_decide.mpr Â];exact this
  .rw[show(x==y)=false from beq_false_of_ne e];refine kat_no ?_;cases hi:(true&&i==0)with|true=>exact oneLt_int (h _);|false=>exact kat_one _ _ (lt_int (h _))
theorem Jh{ns ms:WF}(hx:s.heap.get? x=some ox)(dx:ox.data=.seq us.toArray nx)(hy:s.heap.get? y=some oy)(dy:oy.data=.seq vs.toArray ny)(r1:Í (ns.map V.int) us)(r2:Í (ms.map V.int) vs)(h:∀r,Q r s):wpAny (model prog w) A (keyLt' (tuples' true) (.ref x) (.ref y)) Q E s:=by refine kat_lt hx dx hy dy ?_;have l1:=r1.length;have l2:=r2.length;rw[Õ]at l1 l2;have:=G4 (prog:=prog) (w:=w) (A:=A) (s:=s) (Q:=Q) (i:=0) r1 r2 h;rw[ċ,ċ,<-l1,<-l2];exact this
theorem Ji{R:ā->Prop}(lst:s.heap.IsList l vs.toArray)(fits:vs.length<=sizeLine)(small:vs.length<2->R vs)(big:2<=vs.length->∀g,(∀b o,s.heap.get? b=some o->g.get? b=some o)->wpAny (model prog w) A.in1.in1 (keyKind' vs.toArray) (λκ s1=>s1={s with heap:=g}/\wpS (model prog w) A.in1.in1 (λ_ _=>False) {s with heap:=g} sortRuns' (λ_ st=>failedOf st=none/\∃out,(arrOf st).map (·.2)=List.toArray out/\R out) (SortSt.mk' κ (vs.toArray.zip vs.toArray) #[] 7 none)) (λ_ _=>False) {s with heap:=g})(len:∀out,R out->out.length=vs.length)(fin:∀out,R out->∀h2 c,(∀b o,s.heap.get? b=some o->h2.get? b=some o)->h2.get? (s.heap.objs.size+1)=some (seqObj "list" out.toArray c)->Q (.ref (s.heap.objs.size+1)) {s with heap:=h2}):wpAny (model prog w) A (call (.builtin "sorted") [.ref l]) Q E s:=by
 refine call_function_entry kind_sorted plain_sorted entry_sorted (args_sorted1 _) ?_;unfold Builtin.«sorted»;refine Ä (m:=checkCount "sorted" 1 1 _) (Ú (Ä (collect_list lst ?_ fits)));refine Ä (wpAny_newList ?_ fits);have nB:((s.heap.push (seqObj "list" #[] 0)).update s.heap.objs.size (Obj.mapSeq (·++vs.toArray))).objs.size=s.heap.objs.size+1:=by rw[Heap.size_update,Heap.size_push]
 obtain⟨g1,EF⟩:∃g1,g1=((s.heap.push (seqObj "list" #[] 0)).update s.heap.objs.size (Obj.mapSeq (·++vs.toArray))).push (seqObj "list" vs.toArray 0):=⟨_,O⟩;have nE:g1.get? (s.heap.objs.size+1)=some (seqObj "list" vs.toArray 0):=by rw[EF,<-nB];exact Ĩ _ O
 have Ve:∀b o,s.heap.get? b=some o->g1.get? b=some o:=λb o q=>by have lt:b<s.heap.objs.size:=ü q;rw[EF,Heap.get?_push_ne _ _ _ (by rw[nB];exact Ħ (Zbh lt)),Heap.get?_update_ne _ _ _ _ (Ħ lt),Heap.get?_push_ne _ _ _ (Ħ lt)];exact q
 show wpAny _ _ _ _ _ {s with heap:=_};rw[nB,show((s.heap.push (seqObj "list" #[] 0)).update s.heap.objs.size (Obj.mapSeq (·++vs.toArray))).push (seqObj "list" vs.toArray 0)=g1 from EF.symm];refine Ä (wpAny_holding (wpAny_call_entry slot_list_sort ⟨_,nE,O⟩ entry_list_sort ?body (args_list_sort _)));obtain⟨D,eD⟩:∃D,D=s.heap.objs.size+1:=⟨_,O⟩;rw[<-eD]at nE fin⊢;have apart:∀b o,s.heap.get? b=some o->b≠D:=λb o q e=>by have lt:b<s.heap.objs.size:=ü q;rw[e,eD]at lt;exact absurd lt (Nat.not_lt_of_le (Ŧ _))
 obtain⟨g2,LU⟩:∃g2,g2=g1.update D (Obj.mapSeq λ_=>(#[]:ϐ)):=⟨_,O⟩;have EG:Heap.SameBut D g1 g2:=LU▸Heap.SameBut.update g1 D _;obtain⟨e1,at2⟩:∃e1,g2.get? D=some (seqObj "list" #[] e1):=⟨_,LU▸get?_update_seq nE λ_=>#[]⟩;obtain⟨g3,LV⟩:∃g3,g3=(g2.push (seqObj "tuple" vs.toArray 0)).push (seqObj "list" #[] 0):=⟨_,O⟩;have BQ:g3.get? D=some (seqObj "list" #[] e1):=LV▸þ _ (þ _ at2);have LW:∀b o,s.heap.get? b=some o->g3.get? b=some o:=λb o q=>LV▸þ _ (þ _ ((EG.2 b (apart b o q)).trans (Ve b o q)));rw[list_sort_plain];refine Ä (listItems_at nE O (Ä (listUpdate_at nE O ?_ (by rw[ċ];exact fits) (į _))));rw[<-LU];refine Ä (seqEpoch_at at2 O (Ä (wpAny_newTuple (Ä (wpAny_newList (wpAny_holding ?_) (į _))) fits)));rw[<-LV];dsimp only;by_cases two:vs.toArray.size<2
 .have AG:vs.length<2:=by rw[ċ]at two;exact two
  rw[Ì two,Ì two];refine Ä (Ú ?_);refine Ä (Ú ?_);dsimp only;have em:(vs.toArray.zip vs.toArray).map (·.2)=vs.toArray:=by apply Array.toList_inj.mp;simp only[Array.toList_map,Array.toList_zip];exact List.map_snd_zip (Ü _)
  rw[em];refine Ä (seqEpoch_at BQ O (Ä (listUpdate_at BQ O ?_ (į _) (by rw[ċ];lia))));simp only[bne_self_eq_false,Bool.false_eq_true,if_false];have LX:=Heap.SameBut.update g3 D (Obj.mapSeq λ_=>vs.toArray);exact Ú ⟨_,O,Ú ⟨_,O,fin vs (small AG) _ _ (λb o z=>(LX.2 b (apart b o z)).trans (LW b o z)) (get?_update_seq BQ _)⟩⟩
 .have AG:2<=vs.length:=by rw[ċ]at two;lia
  rw[Ê two,Ê two];refine Ä (wpAny_mono (big AG g3 LW) (λκ s1=>?_) λ_ _ x=>x.elim);rintro⟨se,run⟩;subst se;refine Ä (wpAny_mono run ?_ λ_ _ x=>x.elim);rintro⟨⟨⟩,st⟩s2⟨Vf,P7,out,EH,hR⟩;subst Vf;dsimp only at P7 EH⊢;rw[EH];refine Ä (seqEpoch_at BQ O (Ä (listUpdate_at BQ O ?_ (į _) (by rw[ċ,len out hR];lia))));rw[P7];simp only[bne_self_eq_false,Bool.false_eq_true,if_false];have LX:=Heap.SameBut.update g3 D (Obj.mapSeq λ_=>out.toArray);exact Ú ⟨_,O,Ú ⟨_,O,fin out hR _ _ (λb o z=>(LX.2 b (apart b o z)).trans (LW b o z)) (get?_update_seq BQ _)⟩⟩
theorem qH{ads:Ĉ}{row:Addr->WF}:∀{l:Ĉ},(∀a∈l,∃us o n,g.get? a=some o/\o.cls=.type "tuple"/\o.data=.seq us.toArray n/\Í ((row a).map V.int) us/\row a≠[])->∃fs,KatTups g (l.map Value.ref) fs/\fs.length=l.length/\∀v∈fs,∃i t,v=.int i t|[],_=>⟨[],.nil,O,λ_ h=>absurd h Ö⟩|a::l,h=>by obtain⟨us,o,n,h1,h2,h3,h4,h5⟩:=h a (.head _);obtain⟨fs,k,hl,hi⟩:=qH (ads:=ads) (row:=row) (l:=l) λb hb=>h b (.tail _ hb);cases er:row a with|nil=>exact absurd er h5;|cons i r=>rw[er]at h4;cases h4 with|cons r1 t1=>
    obtain⟨t,rfl⟩:=r1;refine⟨_,.cons h1 h2 h3 (f:=.int i t) Ö k,by rw[ĵ,ĵ,hl],λv hv=>?_⟩;rcases ĩ.mp hv with z|z;.exact⟨i,t,z⟩
    .exact hi v z
theorem Jj{l:Ĉ}{row:Addr->WF}(obj:∀a∈l,∃us o n,s.heap.get? a=some o/\o.cls=.type "tuple"/\o.data=.seq us.toArray n/\Í ((row a).map V.int) us/\row a≠[])(hl:0<l.length)(h:Q (tuples' true) s):wpAny (model prog w) A (keyKind' (l.map Value.ref).toArray) Q E s:=by obtain⟨fs,kt,fl,fi⟩:=qH (ads:=l) (row:=row) obj;refine PySem.W.kat_kind (T:=.type "int") kt (by rw[fl];exact hl) (λv hv=>?_) Ù h;obtain⟨i,t,rfl⟩:=fi v hv;exact .now
def Ow(l:Ĉ)(p:Keyed):Prop:=∃a∈l,p.1=.ref a
theorem yF{row:Addr->WF}(obj:∀a∈l,∃us o n,s.heap.get? a=some o/\o.cls=.type "tuple"/\o.data=.seq us.toArray n/\Í ((row a).map V.int) us/\row a≠[]):So.LtAll prog w A E s (Ow l) (tuples' true):=λst hk x y Q' kx ky hQ=>by obtain⟨xa,c1,ex⟩:=kx;obtain⟨ya,c2,ey⟩:=ky;obtain⟨us1,o1,n1,g1,_,d1,r1,_⟩:=obj xa c1;obtain⟨us2,o2,n2,g2,_,d2,r2,_⟩:=obj ya c2;rw[lt'_eq];refine ã (wpS_get ?_);rw[hk,ex,ey];refine ã (wpS_lift (wpAny_attempt (Jh g1 d1 g2 d2 r1 r2 λr=>⟨O,?_⟩)));exact é (hQ r)
theorem wG(l:Ĉ):((l.map Value.ref).toArray.zip (l.map Value.ref).toArray).toList=l.map λa=>(Value.ref a,Value.ref a):=by grind
theorem CV(l:Ĉ):∀p∈((l.map Value.ref).toArray.zip (l.map Value.ref).toArray).toList,Ow l p:=λz sf=>by rw[wG]at sf;obtain⟨a,ha,rfl⟩:=ó.mp sf;exact⟨a,ha,O⟩
def G5(p:Keyed):Addr:=match p.1 with|.ref a=>a|_=>0
theorem CW{row:Addr->WF}(obj:∀a∈l,∃(us:ā)(o:Obj)(n:Nat),s.heap.get? a=some o/\o.cls=.type "tuple"/\o.data=.seq us.toArray n/\Í ((row a).map V.int) us/\row a≠[])(h:∀st(l':Ĉ),failedOf st=none->(arrOf st).map (·.2)=List.toArray (l'.map Value.ref)->l'.Perm l->Q () st):wpS (model prog w) A E s sortRuns' Q (SortSt.mk' (tuples' true) ((l.map Value.ref).toArray.zip (l.map Value.ref).toArray) #[] 7 none):=by
 refine So.runs_wp (ks:=tuples' true) (yF obj) (CV l) ⟨O,O,.refl _⟩ O λÎ B=>?_;have BU:=Zbj.mp B.pm;rw[wG]at BU;have e:(arrOf Î).toList=((arrOf Î).toList.map G5).map (λa=>(Value.ref a,Value.ref a)):=by
  rw[ĳ];conv=>lhs;rw[<-List.map_id (arrOf Î).toList]
  refine Zax λz sf=>?_;obtain⟨a,ha,rfl⟩:=ó.mp (BU.mem_iff.mp sf);rfl
 have pm:((arrOf Î).toList.map G5).Perm l:=by have:=BU.map G5;rw[ĳ]at this;rw[show(G5∘λa=>(Value.ref a,Value.ref a))=id from O,List.map_id]at this;exact this
 generalize(arrOf Î).toList.map G5=l' at e pm;refine h Î l' B.ok ?_ pm;apply Array.toList_inj.mp;rw[Array.toList_map,e,ĳ];rfl
end
section
theorem tH:∀{l:Ĉ}{us:ā},Í (l.map V.ref) us->us=l.map Value.ref|[],_,.nil=>rfl|a::l,_,.cons r t=>by rw[tH t,show _=Value.ref a from r];rfl
theorem Am:∀(l:Ĉ),Í (l.map V.ref) (l.map Value.ref)|[]=>.nil|_::l=>.cons O (Am l)
theorem dZ:dY X (.builtin "sorted") (λxs H Q=>∃(p:Addr)(l:Ĉ)(row:Addr->WF),xs=[.ref p]/\É X.K H p (l.map V.ref)/\(∀a∈l,Ð X.K H a ((row a).map V.int)/\row a≠[])/\∀q(l':Ĉ),H q=none->q≠sysModules->l'.Perm l->Q (.ref q) (upd H q (.lst (l'.map V.ref)))):=by
 intro Á s σ H xs us Q I r h;obtain⟨p,l,row,rfl,hp,AH,q⟩:=h;obtain⟨u,rfl,ru⟩:=ÿ r;cases ru;obtain⟨Æ,rv,pl,hz⟩:=I.list hp;have ei:=tH rv;subst ei;have hlen:(l.map Value.ref).length<=sizeLine:=by rw[Õ]at hz⊢;exact hz
 have obj:∀a∈l,∃(us:ā)(o:Obj)(n:Nat),s.heap.get? a=some o/\o.cls=.type "tuple"/\o.data=.seq us.toArray n/\Í ((row a).map V.int) us/\row a≠[]:=λa ha=>by obtain⟨ht,jS⟩:=AH a ha;obtain⟨as,ra,pa,_⟩:=I.tuple ht;obtain⟨oa,ga,ca,na,da⟩:=pa;exact⟨as,oa,na,ga,ca,da,ra,jS⟩
 refine Ji (R:=λout=>∃l':Ĉ,out=l'.map Value.ref/\l'.Perm l) pl.isList hlen (λhs=>⟨l,O,.refl _⟩) (λhb g kp=>?_) (λout⟨l',e,pm⟩=>by rw[e,Õ,Õ,pm.length_eq]) λout⟨l',e,pm⟩h2 c EI at2=>?_
 .have EJ:∀a∈l,∃(us:ā)(o:Obj)(n:Nat),g.get? a=some o/\o.cls=.type "tuple"/\o.data=.seq us.toArray n/\Í ((row a).map V.int) us/\row a≠[]:=λa ha=>by obtain⟨us,o,n,h1,h2⟩:=obj a ha;exact⟨us,o,n,kp _ _ h1,h2⟩
  refine Jj (s:={s with heap:=g}) EJ (by rw[Õ]at hb;lia) ?_;refine⟨O,CW (s:={s with heap:=g}) EJ λst l' e1 e2 e3=>⟨e1,l'.map Value.ref,e2,l',O,e3⟩⟩
 .subst e;exact⟨.ref (s.heap.objs.size+1),_,I.laid (t':=s.toks) EI (Ŧ _) (show Û X.prog X.w _ h2 _ (.lst (l'.map V.ref))from⟨by rw[Õ,pm.length_eq];rw[Õ]at hz;exact hz,_,c,Am l',at2⟩),O,q _ l' (I.hok.fresh (Ŧ _)) (ϗ (ļ I.big (Ŧ _))) pm⟩
theorem j9:dY X (.builtin "sorted") (λxs H Q=>∃(p:Addr)(l:Ĉ)(row:Addr->WF),xs=[.ref p]/\É X.K H p (l.map V.ref)/\(∀a∈l,Ð X.K H a ((row a).map V.int)/\row a≠[])/\∀q(l':Ĉ),H q=none->l'.Perm l->Q (.ref q) (upd H q (.lst (l'.map V.ref)))):=by intro Á s σ H xs us Q I r h;obtain⟨p,l,row,e,hp,AH,q⟩:=h;exact dZ Á s σ H xs us Q I r ⟨p,l,row,e,hp,AH,λq' l' a _ b=>q q' l' a b⟩
end
theorem CZ(ha:s.TypeIs a "list")(hb:s.TypeIs b "list")(hc:wpAny M A (call (.builtin "list.__iadd__") [a,b]) Q E s):wpAny M A (inplaceOp .Add a b) Q E s:=by
 unfold inplaceOp;refine wpAny_holding ?_;have hl:typeLookup (.type "list") (dunderI "add")=pure (some (.builtin "list.__iadd__")):=F.slot_list_iadd.lookup;have Vg:fillsInplaceSlot (.type "list") "add" (Operator.Add==.Add)=pure false:=by
  unfold fillsInplaceSlot;show(typeLookup (.type "list") (dunderI "add")>>=λfi=>pure (fi.isSome&&!isSeqSlot fi))=pure false;rw[hl];have:isSeqSlot (some (.builtin "list.__iadd__"))=true:=by decide+kernel
  show(pure (true&&!isSeqSlot (some (.builtin "list.__iadd__"))):Sem Bool)=_;rw[this];rfl
 have Vh:seqSlot? (.type "list") (dunderI "add")=pure (some (.builtin "list.__iadd__")):=PySem.seqSlot_of F.slot_list_iadd.lookup z04;refine Ä (wpAny_typeOf ha (Ä (wpAny_of_eq Vg ?_)));show wpAny M A (if false=true then _ else _) Q E s;rw[Ê š];refine Ä (wpAny_binaryOp1_none (nm:="add") ha hb noFill_list_add ?_);refine Ä (wpAny_of_eq Vh ?_);exact Ä (wpAny_rule hc)
inductive Z0b(x:V)(y:V)(H:Hp)(Q:VK):Prop|mk:∀l b xs zs,(x=.ref l)->(y=.ref b)->(H l=some (.lst xs))->(H b=some (.lst zs))->(xs.length+zs.length<=sizeLine)->(Q (.ref l) (upd H l (.lst (xs++zs))))->Z0b  x y H Q
def Ox:TIp:=λx y H Q=>Z0b  x y H Q
theorem uM:PIp X .Add Ox:=by
 intro Á s σ H x y v u Q I rx ru h;obtain⟨l,b,xs,zs,rfl,rfl,hH,hB,hz,q⟩:=h;cases rx;cases ru;obtain⟨z,Æ,n,r,hl,e⟩:=I.lstM hH;obtain⟨z2,bS,n2,r2,iE,e2⟩:=I.lstM hB;have hsz:Æ.toArray.size+bS.toArray.size<=sizeLine:=by rw[ċ,ċ];lia
 have iF:¬(!Æ.toArray.isEmpty&&Builtin.List.listTooLong (Æ.toArray.size+bS.toArray.size))=true:=by rw[q9 hsz,Bool.and_false];exact š
 refine CZ ⟨_,e,O⟩ ⟨_,e2,O⟩ (call_meets F.slot_list_iadd ⟨_,e,O⟩ F.entry_list_iadd (F.args_list_iadd_2 _ _) (AutoSeq1.list___iadd___list_list_0 l Æ.toArray n b bS.toArray n2 iF (by rw[ċ];lia) Â) ⟨e,e2,?_⟩);refine⟨.ref l,_,I.lset (its':=Æ++bS) hH e Ö (r.append r2) ?_,O,q⟩;rw[õ];lia
section
theorem Jk(n1:(d==sysModules)=false)(g1:s.heap.get? d=some o)(g2:o.ExactDict)(g3:o.data=.dict es ep)(q:R (.ref s.heap.objs.size) {s with heap:=s.heap.push {cls:=.type "dict_keyiterator",data:=.fields #[.ref d,.int 0 0,.int es.size 0,.int ep 0]}}):wpAny (model prog w) A (pyIter (.ref d)) R E s:=by have ty:s.TypeIs (.ref d) "dict":=⟨o,g1,g2.1⟩;refine wpAny_pyIter_slot ty F.slot_dict_iter (wpAny_call_entry F.slot_dict_iter ty F.entry_dict_iter ?_ (F.args_dict_iter_1 _));refine Ä ?_;refine Ä (wpAny_notOrdered_dict ty (Ú ?_));show wpAny (model prog w) _ (Builtin.Dict.showsAll d>>=_) _ E s;unfold Builtin.Dict.showsAll;rw[n1];refine Ä (Ú (Ä (wpAny_dictEntries g1 g3 (Ä (wpAny_dictEpoch g1 g3 ?_)))));refine Ä (Γ (Ú ⟨_,O,"dict_keyiterator",_,⟨_,Ĩ _ O,O⟩,F.slot_dict_keyiterator_next.lookup,?_⟩));exact q
theorem Jl(st:s.heap.IsKeyIter it d i es.size ep)(g1:s.heap.get? d=some o)(g3:o.data=.dict es ep)(hx:es[i]?=some e)(q:∀h',h'.IsKeyIter it d (i+1) es.size ep->Heap.SameBut it s.heap h'->R (some e.key) {s with heap:=h'}):wpAny (model prog w) A (pyNext (.ref it)) R E s:=by obtain⟨oi,i1,i2,i3⟩:=id st;unfold pyNext;refine Ä (wpAny_attempt (wpAny_callSpecial?_slot (name:=Str.ofString "__next__") st.typeIs F.slot_dict_keyiterator_next (wpAny_call_entry F.slot_dict_keyiterator_next st.typeIs F.entry_dict_keyiterator_next ?_ (F.args_dict_keyiterator_next_1 _))));refine Ä (Ú (Ä (Ä ?_)));refine Ä (wpAny_typeNameOfWhole_keyiter st.typeIs (Ú (Ä (wpAny_fieldsOf i1 i3 ?_))));refine Ä (Ú (Ä (wpAny_dictEntries g1 g3 ?_)));rw[Ê Ö];refine Ä (Ú (Ä (wpAny_dictEpoch g1 g3 ?_)));rw[Ê Ö];refine Ú ?_;simp only[show¬((i:Int)<0)from by lia,if_false,Int.toNat_natCast,hx];refine Ä (Ä (wpAny_typeNameOfWhole_keyiter st.typeIs (Ú ?_)));refine Ä (wpAny_isOneOf_keyiter st.typeIs ?_);show wpAny (model prog w) _ (setField (.ref it) 1 (rawInt ((i:Int)+1))>>=_) _ _ s;refine Ä (wpAny_setField i1 i3 Ö ?_);have Î:(s.heap.update it (Obj.mapFields (·.setIfInBounds 1 (rawInt ((i:Int)+1))))).IsKeyIter it d (i+1) es.size ep:=⟨_,Heap.get?_update_self _ i1 (Obj.isFreed_of_fields (Obj.data_mapFields i3 _)),(Obj.cls_mapFields ..).trans i2,by rw[Obj.data_mapFields i3];simp[rawInt]⟩;refine Ä (wpAny_holding (Ä (wpAny_isOneOf_keyiter (s:={s with heap:=s.heap.update it (Obj.mapFields (·.setIfInBounds 1 (rawInt ((i:Int)+1))))}) Î.typeIs ?_)));exact Ú (Ú ⟨_,O,Ú (q _ Î (Heap.SameBut.update ..))⟩)
theorem Mf(hh:A.handled=none)(st:s.heap.IsKeyIter it d i es.size ep)(g1:s.heap.get? d=some o)(g3:o.data=.dict es ep)(hx:es.size<=i)(q:∀h',Heap.ExtBut it s.heap h'->R none {s with heap:=h'}):wpAny (model prog w) A (pyNext (.ref it)) R E s:=by obtain⟨oi,i1,i2,i3⟩:=id st;unfold pyNext;refine Ä (wpAny_attempt (wpAny_callSpecial?_slot (name:=Str.ofString "__next__") st.typeIs F.slot_dict_keyiterator_next (wpAny_call_entry F.slot_dict_keyiterator_next st.typeIs F.entry_dict_keyiterator_next ?_ (F.args_dict_keyiterator_next_1 _))));refine Ä (Ú (Ä (Ä ?_)));refine Ä (wpAny_typeNameOfWhole_keyiter st.typeIs (Ú (Ä (wpAny_fieldsOf i1 i3 ?_))));refine Ä (Ú (Ä (wpAny_dictEntries g1 g3 ?_)));rw[Ê Ö];refine Ä (Ú (Ä (wpAny_dictEpoch g1 g3 ?_)));rw[Ê Ö];refine Ú ?_;simp only[if_false,Int.toNat_natCast,Array.getElem?_eq_none hx];refine Ä (Ä (wpAny_typeNameOfWhole_keyiter st.typeIs (Ú ?_)));show wpAny (model prog w) _ (setField (.ref it) 0 .none>>=_) _ _ s;refine Ä (wpAny_setField i1 i3 Ö ?_);refine Ä ?_;refine Ä (Γ (Ä (m:=firstArgMember _ _) (wpAny_of_eq (a:=Value.none) (by first|rfl|(simp only[firstArgMember];rfl)) ?_)) (by size_fits));refine Γ ?_ (by size_fits);simp only[raiseNew];refine Ä (wpAny_handled ?_);rw[show A.in1.handled=none from hh];refine Ä (Ú (wpAny_throw ?_));refine Ä (wpAny_isInstance (b:=true) (T:="StopIteration") ⟨_,Ĩ _ O,O⟩ isSubtype_stop ?_);exact Ú (q _ (((Heap.SameBut.update ..).extBut.push _).push _))
end
def Itd(d:Addr)(o:Obj)(kvs:List (List Key×V)):It:=⟨λi H=>H d=some (.frz o (.dT kvs))/\i<kvs.length,λi H x H'=>H'=H/\∃b k v,x=.ref b/\kvs[i]?=some (k,v)/\H b=some (.tup (k.map kV)),λi H=>H d=some (.frz o (.dT kvs))/\kvs.length<=i⟩
theorem KT.get:∀{kvs:List (List Key×V)}{xs:List (List Key×Addr×Value)}{i:Nat}{k:List Key}{v:V},KT H kvs xs->kvs[i]?=some (k,v)->∃b u,xs[i]?=some (k,b,u)/\H b=some (.tup (k.map kV))|_,_,_,_,_,.nil,e=>by simp at e;|p::_,q::_,0,k,v,.cons r t,e=>by grind;|p::_,q::_,i+1,k,v,.cons r t,e=>by obtain⟨b,u,e1,e2⟩:=KT.get t e;exact⟨b,u,by rw[Zbc];exact e1,e2⟩
theorem KT.len:∀{kvs:List (List Key×V)}{xs:List (List Key×Addr×Value)},KT H kvs xs->xs.length=kvs.length|_,_,.nil=>rfl|_,_,.cons _ t=>by rw[ĵ,ĵ,KT.len t]
theorem Ç.frzT{σ:St}(I:Ç X Á σ H s)(e:H d=some (.frz o (.dT kvs))):s.heap.get? d=some o/\o.ExactDict/\(d==sysModules)=false/\∃es ep xs,o.data=.dict es ep/\KT H kvs xs/\es.toList=xs.map (entryOfKey (tupleKind (bH X.prog X.w))):=by obtain⟨e0,_,hs,xs,kt,o',es,ep,g1,g2,g3,g4,_⟩:=(I.hok _ _ e);rw[e0]at g1;cases g1;exact⟨e0,g2,hs,es,ep,xs,g3,kt,g4⟩
theorem Dd{es:Array DictEntry}(kt:KT H kvs xs)(e:es.toList=xs.map (entryOfKey (tupleKind (bH P w)))):es.size=kvs.length:=by rw[<-Ŋ,e,Õ,kt.len]
theorem Df{K:Frag}(d it:Addr)(o:Obj)(kvs:List (List Key×V))(es:Array DictEntry)(ep:Nat)(od:o.data=.dict es ep)(hz:es.size=kvs.length):Ĺ P w K tg (Itd d o kvs) [it] it (λi h=>h.IsKeyIter it d i es.size ep)where
 mem:=by simp
 obj:=λi h st b hb=>by
  have e:b=it:=by simpa using hb
  subst e;obtain⟨o,e,c,d⟩:=st;exact⟨o,e,λv z=>by rw[d]at z;cases z⟩
 keep:=λi h h' st k=>st.at λo e=>k it Ö o e;item:=by
  intro X hP hw hK hc i Á s σ H E I hf st hg;subst hP hw hK;obtain⟨hq,hx⟩:=hg;obtain⟨e0,g2,hs,hZ,yn,xs,g3,kt,g4⟩:=I.frzT hq;rw[od]at g3;cases g3;obtain⟨b,u,ex,eb⟩:=kt.get (k:=kvs[i].1) (v:=kvs[i].2) (á hx);have ee:es[i]?=some (entryOfKey (tupleKind (bH X.prog X.w)) (kvs[i].1,b,u)):=by rw[entry_at g4,ex];rfl
  obtain⟨f0,f1,f2,f3,f4,f5⟩:=hf it Ö;refine Jl st e0 od ee λh' Î sb=>?_;have I1:Ç X Á σ H {s with heap:=h'}:=I.turned (t':=s.toks) (λb o hb e=>(sb.2 b hb).trans e) f0 f1 f3 f4 f5;obtain⟨o2,e2,c2,d2⟩:=id Î;exact⟨.ref b,O,vD (s:={s with heap:=h'}) e2 c2 d2 Ù ⟨.ref b,H,I1,O,⟨O,b,kvs[i].1,kvs[i].2,O,á hx,eb⟩,Î,λb hb=>(hf b hb).1⟩⟩
 done:=by intro X hP hw hK hc i Á s σ H E I hf st hg;subst hP hw hK;obtain⟨hq,hx⟩:=hg;obtain⟨e0,g2,hs,hZ,yn,xs,g3,kt,g4⟩:=I.frzT hq;rw[od]at g3;cases g3;obtain⟨f0,f1,f2,f3,f4,f5⟩:=hf it Ö;exact Mf (I.ok.hd hc) st e0 od Â λh' eb=>⟨O,I.turned (t':=s.toks) (λb o hb e=>eb b o hb e) f0 f1 f3 f4 f5⟩
 self:=λ_ _ _ _ _ st h=>wpAny_pyIter_keyiter st h
section
def Oz(tl:TE):TI:=λσ H R=>tl σ H λx H1=>∃d o kvs,x=.ref d/\H1 d=some (.frz o (.dT kvs))/\R (Itd d o kvs) H1
theorem An(hl:PE X l tl):PI X tg l (Oz tl):=by
 intro Á s σ H R I h;refine Ý (hl Á s σ H _ I h) λv s1=>?_;rintro⟨x,H1,I1,r1,q1⟩;obtain⟨d,o,kvs,e,hq,q⟩:=q1;subst e;cases r1;obtain⟨e0,g2,hs,es,ep,xs,g3,kt,g4⟩:=I1.frzT hq;refine Jk hs e0 g2 g3 ?_;refine⟨s1.heap.objs.size,[s1.heap.objs.size],_,_,H1,O,I1.kept (t':=s1.toks) λb o e=>þ _ e,Df d _ o kvs es ep g3 (Dd kt g4),⟨_,Ĩ _ O,O,O⟩,λb hb=>?_,q⟩;have e:b=s1.heap.objs.size:=by simpa using hb
 subst e;exact I1.fpOk (Ü _) (I1.hok.fresh (Ü _))
inductive Z0l(t:TE)(σ:St)(H:Hp)(Q:VK):Prop|mk:∀d kvs,(H d=some (.dT kvs))->(∀o,t σ (upd H d (.frz o (.dT kvs))) λv H'=>H' d=some (.frz o (.dT kvs))/\Q v (upd H' d (.dT kvs)))->Z0l t σ H Q
def Qu(t:TE):TE:=λσ H Q=>Z0l t σ H Q
theorem G6(h:PE X e t):PE X e (Qu t):=by
 intro Á s σ H Q I hq;obtain⟨d,kvs,ed,hq⟩:=hq;obtain⟨hz,hs,xs,kt,o,es,ep,g1,g⟩:=(I.hok _ _ ed);have nt:∀{b:Addr}{u:HO},H b=some u->u≠.dT kvs->b≠d:=λ{b u}e n z=>by rw[z,ed]at e;exact n (œ e).symm
 have I1:Ç X Á σ (upd H d (.frz o (.dT kvs))) {s with heap:=s.heap,toks:=s.toks}:=by
  refine I.un ⟨λb ob q _ _ _=>q,λb ob q _ _ _=>⟨ob.slots,q⟩,λb ob q n _=>?_,λb ob q _=>⟨ob,q⟩,λb xs q=>?_,λb ob u q=>?_,λb ps q=>⟨#[],?_⟩⟩ λb u e=>?_;.rw[au λz=>by rw[z,ed]at n;cases n];exact n
  .rw[au (nt q λz=>by cases z)];exact q
  .rw[au (nt q λz=>by cases z)];exact q
  .rw[au (nt q λz=>by cases z),q];simp
  .have cm:∀c xs,H c=some (.tup xs)->upd H d (.frz o (.dT kvs)) c=some (.tup xs):=λc xs q=>by rw[au (nt q λz=>by cases z)];exact q
   by_cases hb:b=d;.subst hb;rw[aj]at e;cases e;exact⟨g1,(show Û X.prog X.w H s.heap b (.dT kvs)from I.hok _ _ ed).stay (λ_ _ _ q=>q) (λc q=>by rw[au (nt q λz=>by cases z)];exact q) cm⟩
   .rw[au hb]at e;exact(I.hok b u e).stay (λ_ _ _ q=>q) (λc q=>by rw[au (nt q λz=>by cases z)];exact q) cm
 refine Ý (h Á s σ _ _ I1 (hq o)) λv s1=>?_;rintro⟨x,H1,J,r1,e1,q1⟩;have HG:∀{b:Addr}{u:HO},H1 b=some u->u≠.frz o (.dT kvs)->b≠d:=λ{b u}e n z=>by rw[z,e1]at e;exact n (œ e).symm
 have fr:∀b,H1 b=none->upd H1 d (.dT kvs) b=none:=λb n=>by rw[au λz=>by rw[z,e1]at n;cases n];exact n
 refine⟨x,upd H1 d (.dT kvs),⟨J.ok,J.os,J.bare,⟨J.base.keep,J.base.slot,λb ob q n hx=>fr b (J.base.free b ob q n hx),J.base.there,λb xs q=>?_,λb ob u q=>?_,λb ps q=>?_⟩,J.loc,J.cell,fr _ J.free,λy c e=>fr _ (J.freeC y c e),λp hp=>?_,λb u e=>?_,J.len⟩,r1,q1⟩;.have:=J.base.tups b xs q;rw[au (HG this λz=>by cases z)];exact this
 .have h0:=I.base.frzs b ob u q;have:=J.base.frzs b ob u q;rw[au (nt h0 λz=>by cases z)];exact this
 .obtain⟨m,e⟩:=J.base.tbls b ps q;exact⟨m,by rw[au (HG e λz=>by cases z)];exact e⟩
 .obtain⟨a,n,c⟩:=J.pin p hp;exact⟨a,fr _ n,c⟩
 .have cm:∀c xs,H1 c=some (.tup xs)->upd H1 d (.dT kvs) c=some (.tup xs):=λc xs q=>by rw[au (HG q λz=>by cases z)];exact q
  have vn:∀a c,H1 c=some (.own a)->upd H1 d (.dT kvs) c=some (.own a):=λa c q=>by rw[au (HG q λz=>by cases z)];exact q
  by_cases hb:b=d;.subst hb;rw[aj]at e;cases e;exact Û.stay ((J.hok _ _ e1).2) (λ_ _ _ q=>q) (vn b) cm
  .rw[au hb]at e;exact(J.hok b u e).stay (λ_ _ _ q=>q) (vn b) cm
end
section
variable{K:Type}[DecidableEq K]{knd:HeapKind prog w K}
theorem Mj(hu:knd.room A)(hk:knd.is s.heap k a)(hm:s.heap.DictOfH knd d xs)(nk:k∉xs.map (·.1))(hz:xs.length<=sizeLine)(q:∀h',h'.DictOfH knd d (xs++[(k,a,v)])->Heap.SameBut d s.heap h'->R () {s with heap:=h'}):wpAny (model prog w) A (dictSetHashed d (.ref a) (knd.hash k) v) R E s:=by
 obtain⟨o,es,ep,g1,g2,g3,g4,g5,g6⟩:=hm;have ez:=size_of_entries g4;unfold dictSetHashed;try with_reducible refine wpAny_holding ?_
 refine Ä (wpAny_dictFind_heap hu hk g1 g3 g4 g5 g6 (λno=>?_) λj p hj=>absurd (ó.mpr ⟨_,Α hj,O⟩) nk);refine Ä (wpAny_rule (wpAny_updateDictKeys (hz:=Â) g1 g3 (q _ ⟨_,_,ep+1,Heap.get?_update_self _ g1 (Obj.isFreed_of_dict (Obj.data_mapDictKeys g3 _)),g2.mapDictKeys _,Obj.data_mapDictKeys g3 _,?_,λx hx=>?_,?_⟩ (Heap.SameBut.update ..))));.simp[g4,entryOfKey]
 .rcases ė.mp hx with z|z;.exact knd.keeps (g5 x z) g1 g3 (Heap.SameBut.update ..)
  .rw[Ř.mp z];exact knd.keeps hk g1 g3 (Heap.SameBut.update ..)
 .rw[ë,Zbi];refine⟨g6,by simp,λx hx y hy=>?_⟩;rw[show y=k by simpa using hy];exact λe=>nk (e▸hx)
theorem Jm{nm:String}(hu:knd.room A)(db:d≠b)(hd:s.heap.DictOfH knd d xs)(hb:s.heap.DictOfH knd b ys)(nd:((xs++ys).map (·.1)).Nodup)(hz:xs.length+ys.length<=sizeLine)(q:∀h',h'.DictOfH knd d (xs++ys)->Heap.SameBut d s.heap h'->R () {s with heap:=h'}):wpAny (model prog w) A (do
 let epoch<-dictEpoch b let l<-dictEntries b
   forIn [:l.size] PUnit.unit λi(_:PUnit)=>(do let l'<-dictEntries b match l'[i]? with|some e=>do holding [e.key,e.val] (dictSetHashed d e.key e.hash e.val)let yn<-dictEpoch b if(yn !=epoch)=true then do(unsupported (toString nm++toString ":source-changed-during-callback"):Sem PUnit)pure (ForInStep.yield PUnit.unit)else pure (ForInStep.yield PUnit.unit)|_=>do(unsupported "internal:dict-merge":Sem PUnit)pure (ForInStep.yield PUnit.unit):Sem (ForInStep PUnit))pure ()) R E s:=by
 obtain⟨ob,es,ep,g1,g2,g3,g4,g5,g6⟩:=id hb;have ez:=size_of_entries g4;refine Ä (wpAny_dictEpoch g1 g3 (Ä (wpAny_dictEntries g1 g3 (Ä ?_))));rw[Std.Legacy.Range.forIn_eq_forIn_range'];simp only[Std.Legacy.Range.size,Nat.sub_zero,Nat.add_sub_cancel,Nat.div_one];refine wpAny_forIn_list _ (λrest _ s'=>∃h' i,s'={s with heap:=h'}/\rest=List.range' i (ys.length-i)/\i<=ys.length/\h'.DictOfH knd d (xs++ys.take i)/\h'.get? b=some ob/\Heap.SameBut d s.heap h'/\∀y∈ys,knd.is h' y.1 y.2.1) _ ?_ ?_ _ _ ⟨s.heap,0,O,by rw[ez];rfl,į _,by rw[Zbl,ş];exact hd,g1,Heap.SameBut.refl _ _,g5⟩
 .rintro x rest u s'⟨h',i,rfl,hr,hi,qS,eI,sb,hk⟩;have aI:i<ys.length:=by
   rcases Nat.lt_or_ge i ys.length with h|h;.exact h
   .rw[Nat.sub_eq_zero_of_le h]at hr;simp at hr
  obtain⟨rfl,kD⟩:x=i/\rest=List.range' (i+1) (ys.length-(i+1)):=by rw[show ys.length-i=(ys.length-(i+1))+1 by lia,List.range'_succ]at hr;injection hr with h1 h2;exact⟨h1,h2⟩
  have ex:es[x]?=some (entryOfKey knd ys[x]):=by rw[entry_at g4,á aI];rfl
  refine Ä (wpAny_dictEntries eI g3 ?_);rw[ex];have nk:ys[x].1∉(xs++ys.take x).map (·.1):=λhm=>by
   have e:xs++ys=(xs++ys.take x)++ys[x]::ys.drop (x+1):=by rw[ő,<-Zas aI,zBe]
   rw[e,ë,Zbi]at nd;exact nd.2.2 _ hm _ (by rw[Ĵ];exact .head _) O
  refine Ä (wpAny_holding (Mj (s:={s with heap:=h'}) hu (hk _ (Ė aI)) qS nk (by rw[õ,ŉ];lia) λh2 hd2 EG=>?_));have ip:h2.get? b=some ob:=(EG.2 b (Ne.symm db)).trans eI;refine Ä (wpAny_dictEpoch ip g3 ?_);rw[Ê Ö];obtain⟨od,e1,e2,d1,d2,d3,d4,d5,d6⟩:=id qS;refine Ú ⟨h2,x+1,O,kD,aI,?_,ip,sb.trans EG,λy hy=>knd.keeps (hk y hy) d1 d3 EG⟩;rw[ĺ,á aI,<-ő];exact hd2
 .rintro u s'⟨h',i,rfl,hr,hi,qS,eI,sb,hk⟩;have:i=ys.length:=by grind
  rw[this,ň]at qS;exact Ú (q h' qS sb)
end
section
variable{K:Type}[DecidableEq K]{knd:KeyKind prog w K}
theorem wH(hk:IsTupleKey knd s.heap ks a)(h:R false s):wpAny (model prog w) A (Builtin.Dict.quietEq (.ref a)) R E s:=by have hT:=hk.typeIs;refine Ä (wpAny_specialOf hT F.slot_tuple_eq.lookup (Ú ?_));exact h
theorem G7{ys:List (List K×Addr×Value)}(g1:s.heap.get? b=some ob)(g3:ob.data=.dict es ep)(g4:es.toList=ys.map (entryOfKey (tupleKind knd)))(g5:∀x∈ys,IsTupleKey knd s.heap x.1 x.2.1)(hh:(ys.map λy=>tupleKeyHash knd y.1).Nodup)(q:R es s):wpAny (model prog w) A (Builtin.Dict.entriesForEmpty nm b) R E s:=by
 refine Ä (wpAny_dictEntries g1 g3 (Ä ?_));rw[<-Array.forIn_toList];refine wpAny_forIn_list _ (λrest _ s'=>s'=s/\∀e∈rest,∃y∈ys,e=entryOfKey (tupleKind knd) y) _ ?_ ?_ _ _ ⟨O,λe he=>by grind⟩
 .rintro x rest u s'⟨rfl,hr⟩;obtain⟨y,hy,rfl⟩:=hr x (.head _);refine Ä (wH (g5 y hy) ?_);rw[Ì (show(!false)=true from O),Ê ?_];.exact Ú ⟨O,λe he=>hr e (.tail _ he)⟩
  .have e1:(es.filter λx=>x.hash==(entryOfKey (tupleKind knd) y).hash).size=(ys.map λz=>tupleKeyHash knd z.1).count (tupleKeyHash knd y.1):=by rw[<-Ŋ,Array.toList_filter,g4,List.count_eq_countP,List.countP_map,<-List.countP_eq_length_filter,List.countP_map];rfl
   have:=List.nodup_iff_count.mp hh (tupleKeyHash knd y.1);lia
 .rintro u s'⟨rfl,_⟩;exact Ú q
theorem G8(hu:A.units<cLine)(db:d≠b)(bs:(b==sysModules)=false)(hd:s.heap.DictOfH (tupleKind knd) d xs)(hb:s.heap.DictOfH (tupleKind knd) b ys)(nd:((xs++ys).map (·.1)).Nodup)(hh:xs=[]->(ys.map λy=>tupleKeyHash knd y.1).Nodup)(hz:xs.length+ys.length<=sizeLine)(q:∀h',h'.DictOfH (tupleKind knd) d (xs++ys)->Heap.SameBut d s.heap h'->R () {s with heap:=h'}):wpAny (model prog w) A (Builtin.Dict.mergeDict nm d b) R E s:=by
 obtain⟨od,esd,Vi,d1,d2,d3,d4,d5,d6⟩:=id hd;obtain⟨ob,esb,epb,b1,b2,b3,b4,b5,b6⟩:=id hb;have zd:=size_of_entries d4;have zb:=size_of_entries b4;have loop:=Jm (nm:=nm) (E:=E) (R:=R) hu db hd hb nd hz q;unfold Builtin.Dict.mergeDict;rw[Ê (by simpa using db)];unfold Builtin.Dict.showsAll;rw[bs,Ê š];refine Ä (Ú (Ä (wpAny_dictEntries b1 b3 ?_)));dsimp only;split
 .refine Ä (wpAny_dictEntries d1 d3 ?_);split
  .rename_i he;have ex:xs=[]:=by simp_all
   subst ex;refine Ä (G7 b1 b3 b4 b5 (hh O) ?_);split;.refine Ä (wpAny_updateDictKeysTo d1 d3 (Ú (q _ ⟨_,_,Vi+1,Heap.get?_update_self _ d1 (Obj.isFreed_of_dict (Obj.data_mapDictKeys d3 _)),d2.mapDictKeys _,Obj.data_mapDictKeys d3 _,b4,λx hx=>(tupleKind knd).keeps (b5 x hx) d1 d3 (Heap.SameBut.update ..),b6⟩ (Heap.SameBut.update ..))) ?_);lia
   .rename_i jS;have:ys=[]:=by grind
    subst this;exact Ú (q _ hd (Heap.SameBut.refl _ _))
  .exact loop
 .exact loop
theorem Dg(d b:Addr)(db:d≠b)(bs:(b==sysModules)=false):MeetsIn prog w (Builtin.«dict.update» ⟨[.ref d,.ref b],[]⟩) (λA R s=>∃xs ys,A.units+1<cLine/\s.heap.DictOfH (tupleKind knd) d xs/\s.heap.DictOfH (tupleKind knd) b ys/\((xs++ys).map (·.1)).Nodup/\(xs=[]->(ys.map λy=>tupleKeyHash knd y.1).Nodup)/\xs.length+ys.length<=sizeLine/\∀h',h'.DictOfH (tupleKind knd) d (xs++ys)->Heap.SameBut d s.heap h'->R (.ok (.ret .none)) {s with heap:=h'}):=.of_wp λA R s hZ=>by obtain⟨xs,ys,hu,hd,hb,nd,hh,hz,q⟩:=hZ;refine Ä ?_;refine Ä (wpAny_notOrdered_dict hd.typeIs (Ú ?_));refine Ä (wpAny_typeOf hb.typeIs ?_);refine Ä (Ä ?_);refine Ä (wpAny_isInstance hb.typeIs isSubtype_dict_dict ?_);refine Ä (wpAny_specialOf hb.typeIs F.slot_dict_iter.lookup (Ú ?_));refine Ä (Ú (G8 (tupleKind_room_in1 (knd:=knd) hu) db bs hd hb nd hh hz λh' qS sb=>?_));exact Ä (Ú (Ú ⟨.none,O,q h' qS sb⟩))
end
section
inductive Z0o(x:V)(vs:List V)(H:Hp)(Q:VK):Prop|mk:∀d b kvs more,(x=.ref d)->(vs=[.ref b])->(d≠b)->(H d=some (.dT kvs))->(H b=some (.dT more))->(kvs.length+more.length<=sizeLine)->(((kvs++more).map (·.1)).Nodup)->((kvs=[]->∀w,(more.map λp=>reduceHash (Builtin.Tuple.tupleHashOf (p.1.map (uf w)))).Nodup))->(Q .non (upd H d (.dT (kvs++more))))->Z0o  x vs H Q
def Qv:V->List V->Hp->VK->Prop:=λx vs H Q=>Z0o  x vs H Q
theorem KT.keys:∀{kvs:List (List Key×V)}{xs:List (List Key×Addr×Value)},KT H kvs xs->xs.map (·.1)=kvs.map (·.1)|_,_,.nil=>rfl|_,_,.cons r t=>by rw[Ĵ,Ĵ,KT.keys t,r.1]
theorem KT.app:∀{kvs more:List (List Key×V)}{xs ys:List (List Key×Addr×Value)},KT H kvs xs->KT H more ys->KT H (kvs++more) (xs++ys)|_,_,_,_,.nil,h=>h|_,_,_,_,.cons r t,h=>.cons r (KT.app t h)
theorem Ml(hu:X.A.units+1<cLine):MtR X "dict.update" Qv:=by
 intro Á s σ H x vs v us Q I rx rv h;obtain⟨d,b,kvs,more,rfl,rfl,db,ed,eb,hz,nd,hh,q⟩:=h;cases rx;obtain⟨u,rfl,ru⟩:=rv.one;cases ru;obtain⟨z1,hd,xs,k1,dd⟩:=Fe I.hok ed;obtain⟨z2,hb,ys,k2,bb⟩:=Fe I.hok eb;have l1:=k1.len;have l2:=k2.len;refine call_meetsIn PySem.F.slot_dict_update dd.typeIs PySem.F.entry_dict_update (PySem.F.args_dict_update_2 _ _) (Dg (knd:=bH X.prog X.w) d b db hb) ⟨xs,ys,hu,dd,bb,?_,λe=>?_,Â,λh' mh sb=>?_⟩;.rw[ë,k1.keys,k2.keys,<-ë];exact nd
 .have:kvs=[]:=Zbp.mp (by rw[<-l1,e];rfl);have:=hh this X.w;have e2:(ys.map λy=>tupleKeyHash (bH X.prog X.w) y.1)=more.map λp=>reduceHash (Builtin.Tuple.tupleHashOf (p.1.map (uf X.w))):=by
   have a:∀l:List (List Key×Addr×Value),(l.map λy=>tupleKeyHash (bH X.prog X.w) y.1)=(l.map (·.1)).map λk=>reduceHash (Builtin.Tuple.tupleHashOf (k.map (uf X.w))):=λl=>by rw[ĳ];rfl
   have c:∀l:List (List Key×V),(l.map λp=>reduceHash (Builtin.Tuple.tupleHashOf (p.1.map (uf X.w))))=(l.map (·.1)).map λk=>reduceHash (Builtin.Tuple.tupleHashOf (k.map (uf X.w))):=λl=>by rw[ĳ];rfl
   rw[a,c,k2.keys]
  rw[e2];exact this
 .obtain⟨o,es,ep,hq,h2,h3,h4,_,h5⟩:=mh;refine⟨.non,_,lE I (by rw[ed];exact True.intro) sb ⟨o,hq⟩ (show Û X.prog X.w _ h' d (.dT (kvs++more))from⟨by rw[õ];exact hz,hd,_,(k1.app k2).keeps λc ys ec=>?_,o,es,ep,hq,h2,h3,h4,h5⟩),O,q⟩;rw[au (Kl ec ed (λz=>nomatch z))];exact ec
end
theorem tK:∀{ns:WF}{us:ā},Í (ns.map V.int) us->IntsAre us ns|[],_,.nil=>.nil|n::ns,_,.cons r t=>by obtain⟨k,e⟩:=r;rw[e];exact .cons n k (tK t)
section
theorem uN:dY X (.builtin "sorted") (λxs H Q=>∃(p:Addr)(ns:WF),xs=[.ref p]/\É X.K H p (ns.map V.int)/\ns.length<64/\∀q(BY:WF),H q=none->BY.Perm ns->BY.Pairwise (·<=·)->Q (.ref q) (upd H q (.lst (BY.map V.int)))):=by intro Á s σ H xs us Q I r h;obtain⟨p,ns,rfl,hp,h64,q⟩:=h;obtain⟨u,rfl,ru⟩:=ÿ r;cases ru;obtain⟨Æ,rv,pl,hz⟩:=I.list hp;have hl:=rv.length;rw[Õ]at hl;refine sorted_ints pl.isList (tK rv) Â λout BY hI pm so=>?_;obtain⟨e,at2⟩:=sortedAll_at s.heap Æ out;refine⟨.ref (s.heap.objs.size+1),_,I.laid (t':=s.toks) (λb o z=>sortedAll_old z) (Ŧ _) (show Û X.prog X.w _ _ _ (.lst (BY.map V.int))from⟨by rw[Õ,pm.length_eq,sizeLine_eq];lia,out.toList,e,nu hI,at2⟩),O,q _ BY (I.hok.fresh (Ŧ _)) pm so⟩
theorem Ky:∀{kvs:List (Key×V)}{vs:List (Key×Value)},KV kvs vs->vs.map (·.1)=kvs.map (·.1)|_,_,.nil=>rfl|_,_,.cons r t=>by rw[Ĵ,Ĵ,Ky t,r.1]
theorem tL:∀{ks:List Key}{us:ā},us.length=ks.length->(∀(j:Nat)u,us[j]?=some u->∃k,ks[j]?=some k/\(bH P w).is k u=true)->Í (ks.map kV) us
 |[],[],_,_=>.nil|k::ks,u::us,h,g=>by
  obtain⟨k',e,hk⟩:=g 0 u O;rw[List.getElem?_cons_zero]at e;cases e;refine .cons ?_ (tL (P:=P) (w:=w) (by simpa using h) λj u' hu=>?_)
  .rcases cC hk with⟨i,t,rfl,rfl⟩|⟨x,t,rfl,rfl⟩;.exact⟨t,O⟩
   .exact⟨t,O⟩
  .have:=g (j+1) u' (by rw[Zbc];exact hu);rw[Zbc]at this;exact this;|[],_::_,h,_=>by simp at h;|_::_,[],h,_=>by simp at h
theorem qI(hc:X.calm=true):dY X (.type "list") (λxs H Q=>∃d kvs,xs=[.ref d]/\H d=some (.dK kvs)/\((kvs.map (·.1)).Nodup->∀l,H l=none->Q (.ref l) (upd H l (.lst (kvs.map λp=>kV p.1))))):=by
 intro Á s σ H xs us Q I r h;obtain⟨d,kvs,rfl,hd,q⟩:=h;obtain⟨u,rfl,ru⟩:=ÿ r;cases ru;obtain⟨hz,lo,vs,kv,o,es,ep,g1,g2,g3,g4,g5,g6⟩:=I.hok _ _ hd;have ek:=Ky kv;have lv:vs.length=kvs.length:=by rw[<-Õ (f:=(·.1)),ek,Õ]
 refine PySem.W.kdl_call (PySem.W.kdl_dict (knd:=bH X.prog X.w) (kvs:=vs) (ep:=ep) lo) (I.ok.hd hc) ⟨o,es,g1,g2,g3,g4,g5,g6⟩ (by rw[lv];exact hz) λh' tk LY c' kp at' it=>?_;refine⟨.ref s.heap.objs.size,_,I.laid (t':=tk) kp (Ü _) (show Û X.prog X.w _ h' _ (.lst (kvs.map λp=>kV p.1))from⟨by rw[Õ];exact hz,LY.toList,c',?_,at'⟩),O,q (by rw[<-ek];exact g6) _ (I.hok.fresh (Ü _))⟩;have:(kvs.map λp=>kV p.1)=(vs.map (·.1)).map kV:=by rw[ek,ĳ];rfl
 rw[this];refine tL (P:=X.prog) (w:=X.w) (by rw[Ŋ,it.1,Õ]) λj u hu=>?_;obtain⟨k,x,e,hk⟩:=it.2 j u (by rw[<-Zav];exact hu);exact⟨k,by rw[Ą,e];rfl,hk⟩
end
section
inductive Z0a(o:V)(i:V)(v:V)(H:Hp)(Q:Hp->Prop):Prop|mk:∀a H',(o=.ref a)->(Ő H a i v H')->(Q H')->Z0a  o i v H Q
def OD:Cm:=λo i v H Q=>Z0a  o i v H Q
theorem Z00(hu:X.A.units+1<cLine):Iu X OD:=by intro Á s σ H o i v ov iv u Q I ro ri rv h;obtain⟨a,H',rfl,g,q⟩:=h;cases ro;exact tu hu I g ri rv λs' I'=>⟨H',I',q⟩
end
def Itv(K:Frag)(a:Addr)(n:Nat):It:=⟨λi H=>∃xs x,É K H a xs/\xs.length=n/\xs.reverse[i]?=some x,λi H v H'=>H'=H/\∀xs,É K H a xs->xs.reverse[i]?=some v,λi _=>i=n⟩
theorem G9{K:Frag}(a it:Addr)(n:Nat):Ĺ P w K tg (Itv K a n) [it] it (λi h=>i<=n/\h.IsRevIter it a ((n:Int)-1-(i:Int)))where
 mem:=by simp
 obj:=λi h st b hb=>by
  have e:b=it:=by simpa using hb
  subst e;obtain⟨o,e,c,d⟩:=st.2;exact⟨o,e,λv z=>by rw[d]at z;cases z⟩
 keep:=λi h h' st k=>⟨st.1,st.2.at λo e=>k it Ö o e⟩;item:=by
  intro X hP hw hK hc i Á s σ H E I hf st hg;subst hP hw hK;obtain⟨xs,x,hq,hn,hx⟩:=hg;have hi:i<xs.length:=by have:=(Ķ.mp hx).1;rw[Zat]at this;exact this
  rw[List.getElem?_reverse hi]at hx;obtain⟨Æ,rv,p,hz⟩:=I.list hq;obtain⟨u,hu,ru⟩:=rv.get hx;obtain⟨f0,f1,f2,f3,f4,f5⟩:=hf it Ö;have e0:(n:Int)-1-(i:Int)=((xs.length-1-i:Nat):Int):=Â;have st2:=st.2;rw[e0]at st2;refine wpAny_pyNext_rev_item st2 p.isList (x:=u) (by simpa using hu) λh' Î sb=>?_;have I1:Ç X Á σ H {s with heap:=h'}:=I.turned (t':=s.toks) (λb o hb e=>(sb.2 b hb).trans e) f0 f1 f3 f4 f5;obtain⟨o,e,c,d⟩:=id Î;have e1:((xs.length-1-i:Nat):Int)-1=(n:Int)-1-((i+1:Nat):Int):=Â;rw[e1]at Î;exact⟨u,O,vD (s:={s with heap:=h'}) e c d Ù ⟨x,H,I1,ru,⟨O,λys hy=>by rw[I.list_inj hy hq,List.getElem?_reverse hi];exact hx⟩,⟨Â,Î⟩,λb hb=>(hf b hb).1⟩⟩
 done:=by intro X hP hw hK hc i Á s σ H E I hf st hg;subst hP hw hK;have hg:i=n:=hg;obtain⟨f0,f1,f2,f3,f4,f5⟩:=hf it Ö;have st2:=st.2;rw[show(n:Int)-1-(i:Int)=-1 by lia]at st2;exact wpAny_pyNext_rev_end (I.ok.hd hc) st2 λh' eb=>⟨O,I.turned (t':=s.toks) (λb o hb e=>eb b o hb e) f0 f1 f3 f4 f5⟩
 self:=λ_ _ _ _ _ st h=>wpAny_pyIter_revIter st.2 h
theorem Ţ:bootBuiltins "reversed"=some (.type "reversed"):=by decide+kernel
section
def Qx(K:Frag)(t:TA):TI:=λσ H R=>t σ H λvs H1=>∃a xs,vs=[.ref a]/\É K H1 a xs/\R (Itv K a xs.length) H1
theorem Mm(hg:Gl X "reversed")(hm:X.mg "reversed"=none)(ha:PA X [a] ta)(hs:starEach [a] X.env=[(false,eval a X.env)]:=by rfl):PI X tg (.Call (.Name "reversed" p) [a] [] pos) (Qx X.K ta):=by
 intro Á s σ H R I h;refine Call_ (je I hg hm Ţ (PyProof.Rows.callWith_type1 (Ý (ha pos Á s σ H _ I h) λus s1=>?_) hs O));rintro⟨vs,H1,I1,r1,q1⟩;obtain⟨x,xs,e,hx,q⟩:=q1;subst e;obtain⟨u,rfl,ru⟩:=ÿ r1;cases ru;obtain⟨Æ,rv,p1,_⟩:=I1.list hx;have hlen:=rv.length;refine call_reversed_list p1.isList ?_;have st:Heap.IsRevIter (s1.heap.push (revObj x ((Æ.toArray.size:Int)-1))) s1.heap.objs.size x ((xs.length:Int)-1-((0:Nat):Int)):=by
  refine⟨_,Ĩ _ O,O,?_⟩;have:(Æ.toArray.size:Int)-1=(xs.length:Int)-1-((0:Nat):Int):=by rw[ċ];lia
  rw[<-this];rfl
 refine wpAny_pyIter_revIter st ?_;refine⟨_,_,_,_,H1,O,I1.kept (t':=s1.toks) (λb o e=>þ _ e),G9 x s1.heap.objs.size xs.length,⟨į _,st⟩,λc hc=>?_,q⟩;have hle:s1.heap.objs.size<=c:=by rw[Ř.mp hc];exact Ü _
 exact I1.fpOk hle (I1.hok.fresh hle)
end
theorem Jo{K:Frag}{g:TG}{tb:TS}{D:ŏ}{σ:St}{H:Hp}(Pv:Nat->St->Hp->Prop)(h0:Pv 0 σ H)(hl:∀i σ H,i<=xs.length->Pv i σ H->É K H a xs)(hs:∀i x σ H,xs.reverse[i]?=some x->Pv i σ H->g x σ H λbo H2=>tb {D with nx:=Pv (i+1),ct:=Pv (i+1),bk:=D.nx} bo H2)(hd:∀σ H,Pv xs.length σ H->D.nx σ H):∃W:Nat->Nat->St->Hp->Prop,(∃m,W 0 m σ H)/\∀i m σ H,W i m σ H->((Itv K a xs.length).stop i H/\D.nx σ H)\/((Itv K a xs.length).go i H/\∃N,(∀av H',N av H'->∃m',m'<m/\W (i+1) m' av H')/\∀x H',(Itv K a xs.length).yld i H x H'->g x σ H' λbo H2=>tb {D with nx:=N,ct:=N,bk:=D.nx} bo H2):=by
 refine⟨λi m σ H=>m=xs.length-i/\i<=xs.length/\Pv i σ H,⟨xs.length,by simp,į _,h0⟩,?_⟩;rintro i m σ H⟨rfl,hi,p⟩;have q:=hl i σ H hi p;by_cases aI:i<xs.length;.refine .inr ⟨⟨xs,xs.reverse[i]'(by rw[Zat];exact aI),q,O,á _⟩,Pv (i+1),λav H' p'=>⟨xs.length-(i+1),Â,O,aI,p'⟩,λx H' y=>?_⟩;obtain⟨e,y⟩:=y;subst e;exact hs i x σ _ (y xs q) p
 .have e:i=xs.length:=Â;subst e;exact .inl ⟨O,hd σ H p⟩
section
def Mp(K:Frag)(te:TE):TE:=λσ H Q=>te σ H λx H2=>∃a xs,x=.ref a/\É K H2 a xs/\∀p,H2 p=none->Q (.ref p) (upd H2 p (.lst xs.reverse))
theorem Jp(he:PE X e te):PE X (.Subscript e (.Slice none none (some (.UnaryOp .USub (.Constant (.int 1) j p4) p3)) p2) pos) (Mp X.K te):=by intro Á s σ H Q I h;refine Subscript_ (Ý (he Á s σ H _ I h) λv s1=>?_);rintro⟨x,H1,I1,r1,q1⟩;refine wpAny_Slice ?_;rw[evalPart_none,evalPart_some];refine Ú (Ú ?_);refine Ý (pU jO aB Á s1 σ H1 (λy H'=>H'=H1/\y=.int (-1)) I1 ⟨_,O,O,O⟩) λvk s3=>?_;rintro⟨y,H3,I3,ry,e3,ey⟩;subst e3;subst ey;obtain⟨a,xs,rfl,hx,q⟩:=q1;cases r1;obtain⟨t,rfl⟩:=ry;have I4:Ç X Á σ H3 {s3 with heap:=s3.heap.push {cls:=.type "slice",data:=.fields #[.none,.none,.int (-1) t]}}:=I3.kept (t':=s3.toks) λb ob q=>þ _ q;obtain⟨its',r',hG,sf⟩:=I4.list hx;have P8:=r'.length;show wpAny (model X.prog X.w) X.A (subscriptTail e (.Slice none none (some (.UnaryOp .USub (.Constant (.int 1) j p4) p3)) p2) (.ref a) (.ref s3.heap.objs.size)) (EP X Á σ Q) X.xe {s3 with heap:=s3.heap.push {cls:=.type "slice",data:=.fields #[.none,.none,.int (-1) t]}};refine tail_any (T:="list") (ops:=[.ref a,.ref s3.heap.objs.size]) hG.isList.typeIs slot_list_getitem.lookup ?_ (by with_unfolding_all rfl);refine wpAny_getItem_list_slice hG.isList (Heap.IsSliceOf.new ..) .none .none (.int (-1) t) Ù ?_ (by rw[ċ]<;>lia);rw[PySem.W.krv_pick];refine⟨.ref _,_,I4.laid (t':=s3.toks) (o:=.lst xs.reverse) (λb ob q=>þ _ q) (Ü _) ?_,O,q _ (I4.hok.fresh (Ü _))⟩;exact⟨by rw[Zat];exact sf,_,0,r'.reverse,Ĩ _ O⟩
end
section
theorem Jq(hh:A.handled=none)(ht:s.heap.IsTuple t (intItems xs))(jS:0<xs.size)(h:∀v h' tk,(intItems xs)[argBest (λi j=>decide (numAt xs i<numAt xs j)) (xs.size-1)]?=some v->(∀b o,s.heap.get? b=some o->h'.get? b=some o)->Q v {s with heap:=h',toks:=tk}):wpAny (model prog w) A (call (.builtin "min") [.ref t]) Q E s:=by
 have aI:t<s.heap.objs.size:=by obtain⟨_,e,_⟩:=ht;exact ü e
 refine call_min_walk (wpAny_pyIter_tuple ht ?_);refine⟨_,_,_,_,_,_,_,O,Walks.tuple (A:=A.in1) hh _ t (Ħ aI) (intItems xs),⟨⟨_,Ĩ _ O,O,O⟩,ht.push _⟩,λb hb=>?_,by simpa[intItems]using jS,CmpOf.ints_lt (numAt xs) (λ_ _=>intItems_at),λv h' tk hP hk=>?_⟩
 .show b<(s.heap.push _).objs.size;rw[Heap.size_push];simp only[List.mem_cons,List.not_mem_nil,or_false]at hb;rcases hb with e|e<;>subst e;.exact Nat.lt_succ_self _
  .exact Zbh aI
 .refine h v h' tk (by simpa[intItems]using hP) λb o e=>hk b o (λhm=>?_) (þ _ e);have e1:=Ř.mp hm;exact absurd (e1▸ü e) (ź _)
end
section
theorem uO(hc:X.calm=true):dY X (.builtin "min") (λxs H Q=>∃(p:Addr)(ns:WF),xs=[.ref p]/\Ð X.K H p (ns.map V.int)/\ns≠[]/\∀M,M∈ns->(∀a∈ns,M<=a)->Q (.int M) H):=by
 intro Á s σ H xs us Q I r h;obtain⟨p,ns,rfl,hq,jS,q⟩:=h;obtain⟨u,rfl,ru⟩:=ÿ r;cases ru;obtain⟨Æ,rv,pl,hz⟩:=I.tuple hq;have hi:IntsAre Æ ns:=İ rv;obtain⟨zs,ez⟩:=(hi.allInts:AllInts Æ.toArray).items;have en:numsOf Æ=ns:=hi.numsOf;have hl:s.heap.IsTuple p (intItems zs):=ez▸(show s.heap.IsTuple p Æ.toArray from pl);have aT:0<zs.size:=by
  have e1:(intItems zs).size=Æ.length:=by rw[<-ez,ċ]
  have e2:=rv.length;rw[Õ]at e2;have e3:0<ns.length:=List.length_pos_iff.mpr jS;simp only[intItems,Array.size_map]at e1;lia
 have hn:numsOf (intItems zs).toList=ns:=by rw[<-ez];exact en
 refine Jq (I.ok.hd hc) hl aT λv h' tk hv hk=>?_;obtain⟨t,rfl⟩:=intItems_at hv;obtain⟨h1,h2⟩:=argBest_lt (numAt zs) (zs.size-1);rw[nums_intItems]at hn;refine⟨.int _,H,I.kept (t':=tk) hk,⟨t,O⟩,q _ ?_ λa ha=>?_⟩;.rw[<-hn,numAt_eq];exact getD_mem (by rw[Õ,Ŋ];lia)
 .rw[<-hn]at ha;obtain⟨j,hj,rfl⟩:=mem_getD ha;rw[Õ,Ŋ]at hj;rw[<-numAt_eq];exact h2 j Â
end
structure ϸ(h:Heap)(e:Addr)(C tb:Value):Prop where
 obj:∃oe vs,h.get? e=some oe/\oe.cls=C/\oe.data=.fields vs/\vs[1]?=some tb/\oe.dict=none
 tr:tb=.none\/∃T oT ts,tb=.ref T/\T≠e/\h.get? T=some oT/\oT.data=.fields ts/\ts[3]?=some .none
theorem Dh(f:ϐ->ϐ)(o:Obj):(Obj.mapFields f o).dict=o.dict:=by unfold Obj.mapFields;split<;>rfl
section
theorem wI(mm:A.frames=some (env::outer))(hl:s.heap.FunFrames base (env::outer))(hf:env.frame=some L)(he:s.heap.get? e=some oe)(hd:oe.data=.fields vs)(hz:1<vs.size)(nI:oe.dict=none)(h:∀h' T,s.heap.get? T=none->ϸ h' e oe.cls (.ref T)->(∀b o,s.heap.get? b=some o->b≠e->b∉Ď (env::outer)->h'.get? b=some o)->(∀b o,s.heap.get? b=some o->b≠e->∃sl,h'.get? b=some {o with slots:=sl})->Q () {s with heap:=h'}):wpAny M A (do let a<-frameOf env;let pl<-entryPlaceOf L si;let b<-EntryCells.newEntry head a .none (rawInt L) .none pl;setField (.ref e) 1 b) (λ_ s'=>wpAny M A (setFlight (.ref e) none) Q E s') E s:=by
 have ne:e∉Ď (env::outer):=λhm=>by obtain⟨_,o,ho,hn⟩:=hl.mem hm;rw[he]at ho;cases ho;exact hn vs hd
 refine Ä (wpAny_frameOf_fun mm hl hf λh1 HI=>?_);have e1:h1.get? e=some oe:=(HI.2.1 e ne).trans he;refine Ä (wpAny_entryPlaceOf λpl fw=>?_);unfold EntryCells.newEntry newFields;refine Ä (Γ ?_ (fw.sizeOk5 _ _ _ _ _));obtain⟨fs,P9⟩:∃fs,fs=([head,.ref L,.none,rawInt L,.none]++(if pl.isEmpty then List.replicate 6 Value.none else pl)).toArray:=⟨_,O⟩;have fz:3<fs.size:=by rw[P9,ċ,õ];show 3<5+_;lia
 rw[<-P9];obtain⟨h2,HK⟩:∃h2,h2=h1.push {cls:=.type "traceback",dict:=none,data:=.fields fs}:=⟨_,O⟩;have nT:h1.objs.size≠e:=ϗ (ü e1);have t2:h2.get? h1.objs.size=some {cls:=.type "traceback",dict:=none,data:=.fields fs}:=by rw[HK];exact Ĩ h1 O
 have k2:∀b o,h1.get? b=some o->h2.get? b=some o:=λb o z=>by rw[HK];exact þ _ z
 refine wpAny_setField (s:={s with heap:=h1.push {cls:=.type "traceback",dict:=none,data:=.fields fs}}) (by rw[<-HK];exact k2 _ _ e1) hd hz ?_;rw[<-HK];obtain⟨h3,Qb⟩:∃h3,h3=h2.update e (Obj.mapFields (·.setIfInBounds 1 (Value.ref h1.objs.size))):=⟨_,O⟩;have d3:=Obj.data_mapFields hd (·.setIfInBounds 1 (Value.ref h1.objs.size));have g3:=Heap.get?_update_self (Obj.mapFields (·.setIfInBounds 1 (Value.ref h1.objs.size))) (k2 _ _ e1) (Obj.isFreed_of_fields d3);have o3:∀b,b≠e->h3.get? b=h2.get? b:=λb hb=>by rw[Qb];exact Heap.get?_update_other _ _ (Ne.symm hb)
 rw[<-Qb]at g3⊢;unfold setFlight;have v1:(vs.setIfInBounds 1 (Value.ref h1.objs.size))[1]?=some (.ref h1.objs.size):=by simp[hz]
 refine Ä (wpAny_field (s:={s with heap:=h3}) g3 d3 v1 ?_);have t3:h3.get? h1.objs.size=some {cls:=.type "traceback",dict:=none,data:=.fields fs}:=(o3 _ nT).trans t2;refine wpAny_setField (s:={s with heap:=h3}) t3 O fz ?_;have kk:∀b o,b≠e->h1.get? b=some o->(h3.update h1.objs.size (Obj.mapFields (·.setIfInBounds 3 ((none:Option Addr).elim Value.none λf=>rawInt f)))).get? b=some o:=λb o hb z=>by rw[Heap.get?_update_other _ _ (ϗ (ü z)),o3 b hb];exact k2 b o z
 refine h _ h1.objs.size ?_ ⟨⟨_,_,?_,Obj.cls_mapFields _ _,d3,v1,(Dh _ _).trans nI⟩,.inr ⟨h1.objs.size,_,_,O,nT,Heap.get?_update_self _ t3 (Obj.isFreed_of_fields (Obj.data_mapFields O _)),Obj.data_mapFields O _,by simp[fz]⟩⟩ (λb o z hb hn=>?_) λb o z hb=>?_;.cases z:s.heap.get? h1.objs.size with|none=>rfl;|some o=>obtain⟨sl,q⟩:=HI.2.2 _ o z;exact absurd (ü q) (ź _)
 .rw[Heap.get?_update_other _ _ nT];exact g3
 .exact kk b o hb ((HI.2.1 b hn).trans z)
 .obtain⟨sl,q⟩:=HI.2.2 b o z;exact⟨sl,kk b _ hb q⟩
theorem Ao(mm:A.frames=some (env::outer))(hl:s.heap.FunFrames base (env::outer))(hf:env.frame=some L)(fl:ϸ s.heap e C tb)(h:∀h' T,s.heap.get? T=none->ϸ h' e C (.ref T)->(∀b o,s.heap.get? b=some o->b≠e->tb≠.ref b->b∉Ď (env::outer)->h'.get? b=some o)->(∀b o,s.heap.get? b=some o->b≠e->tb≠.ref b->∃sl,h'.get? b=some {o with slots:=sl})->(∀b o,s.heap.get? b=some o->∃o',h'.get? b=some o')->Q () {s with heap:=h'}):wpAny M A (noteFrame (.ref e) env) (λ_ s'=>wpAny M A (setFlight (.ref e) none) Q E s') E s:=by
 obtain⟨⟨oe,vs,he,rfl,hd,h1,nI⟩,tr⟩:=fl;have hz:=(Array.getElem?_eq_some_iff.mp h1).1;unfold noteFrame;simp only[hf];refine Ä (wpAny_field he hd h1 ?_);rcases tr with rfl|⟨T0,oT,ts,rfl,nT,hT,qh,h3⟩
 .rw[Ê Ù];refine wI mm hl hf he hd hz nI λh' T nT kg k1 k2=>h h' T nT kg (λb o z hb _ hn=>k1 b o z hb hn) (λb o z hb _=>k2 b o z hb) λb o z=>?_;by_cases hb:b=e;.obtain⟨LZ,_,q,_⟩:=kg.obj;exact⟨LZ,hb▸q⟩
  .obtain⟨sl,q⟩:=k2 b o z hb;exact⟨_,q⟩
 .rw[Ì (show(Value.ref T0 !=Value.none)=true by simp)];refine Ä (wpAny_field hT qh h3 ?_);refine Ä (wpAny_setField hT qh (Array.getElem?_eq_some_iff.mp h3).1 ?_);obtain⟨g,eg⟩:∃g,g=s.heap.update T0 (Obj.mapFields (·.setIfInBounds 3 Value.none)):=⟨_,O⟩;have og:∀b,b≠T0->g.get? b=s.heap.get? b:=λb hb=>by rw[eg];exact Heap.get?_update_other _ _ (Ne.symm hb)
  have tg:∃o,g.get? T0=some o:=⟨_,by rw[eg];exact Heap.get?_update_self _ hT (Obj.isFreed_of_fields (Obj.data_mapFields qh _))⟩;have iE:g.FunFrames base (env::outer):=hl.of_keeps λb o z hn=>⟨o,(og b λq=>by rw[q,hT]at z;cases z;exact hn ts qh).trans z,O⟩;rw[<-eg];refine wI (s:={s with heap:=g}) mm iE hf ((og e (Ne.symm nT)).trans he) hd hz nI λh' T EK kg k1 k2=>h h' T ?_ kg (λb o z hb ht hn=>k1 b o ((og b λq=>ht (by rw[q])).trans z) hb hn) (λb o z hb ht=>k2 b o ((og b λq=>ht (by rw[q])).trans z) hb) λb o z=>?_
  .have EK:g.get? T=none:=EK;by_cases q:T=T0;.obtain⟨o,e⟩:=tg;rw[q,e]at EK;cases EK
   .rw[<-og T q];exact EK
  .by_cases hb:b=e;.obtain⟨LZ,_,q,_⟩:=kg.obj;exact⟨LZ,hb▸q⟩
   .obtain⟨o2,e2⟩:∃o2,g.get? b=some o2:=by grind
    obtain⟨sl,q⟩:=k2 b o2 e2 hb;exact⟨_,q⟩
theorem wJ(mm:A.frames=some (env::outer))(hl:s.heap.FunFrames base (env::outer))(hf:env.frame=some L)(fl:ϸ s.heap e C tb)(h:∀h' T,s.heap.get? T=none->ϸ h' e C (.ref T)->(∀b o,s.heap.get? b=some o->b≠e->tb≠.ref b->b∉Ď (env::outer)->h'.get? b=some o)->(∀b o,s.heap.get? b=some o->b≠e->tb≠.ref b->∃sl,h'.get? b=some {o with slots:=sl})->(∀b o,s.heap.get? b=some o->∃o',h'.get? b=some o')->Q () {s with heap:=h'}):wpAny M A (leaving env (.ref e)) Q E s:=by exact Ä (Ao mm hl hf fl h)
end
theorem Û.there(x:Û P w H h a o):∃ob,h.get? a=some ob:=by cases o with|lst xs=>obtain⟨_,_,_,_,e⟩:=x;exact⟨_,e⟩;|tup xs=>obtain⟨_,_,_,ob,e,_⟩:=x;exact⟨_,e⟩;|dK kvs=>obtain⟨_,_,_,_,o,_,_,e,_⟩:=x;exact⟨_,e⟩;|dT kvs=>obtain⟨_,_,_,_,o,_,_,e,_⟩:=x;exact⟨_,e⟩;|set S n=>obtain⟨o,_,_,_,e,_⟩:=x;exact⟨_,e⟩;|ins C dx fs=>obtain⟨_,_,_,e,_⟩:=x;exact⟨_,e⟩;|own y=>exact x;|xd fs=>obtain⟨_,⟨_,_,_,e,_⟩,_⟩:=x;exact⟨_,e⟩;|rng lo hi=>obtain⟨_,_,_,e⟩:=x;exact⟨_,e⟩;|frz ob u=>obtain⟨e,_⟩:=x;exact⟨_,e⟩;|tbl ps=>exact⟨_,(x)⟩;|met f y=>exact⟨_,(x)⟩;|ext φ=>obtain⟨_,e,_⟩:=x;exact e
theorem Ă.no(x:Ă P w H h)(e:h.get? a=none):H a=none:=by cases q:H a with|none=>rfl;|some o=>obtain⟨ob,z⟩:=(x a o q).there;rw[e]at z;cases z
def wK(X:Cx)(EX:Addr->Addr->Hp->Prop):Prop:=∀Á(σ:St)H s a C tb,Ç X Á σ H s->ϸ s.heap a (.ref C) tb->X.s₀.heap.get? a=none->H a=none->(∀T,tb=.ref T->X.s₀.heap.get? T=none/\H T=none)->(∀p∈X.pn++Á,p.1≠a/\tb≠.ref p.1)->EX a C H->X.xe (.ref a) s
def ο(P:Program)(w:World):CXT:=λouter H s E e s'=>∃a C H' T,e=.ref a/\s'.os=s.os/\AllBare s'.gens/\Un (Ď outer) [] H H' s.heap s'.heap/\Ă P w H' s'.heap/\s.heap.get? a=none/\s.heap.get? T=none/\H' a=none/\H' T=none/\ϸ s'.heap a (.ref C) (.ref T)/\E (.ref a) (some C) H'
section
theorem Ç.was{σ:St}(I:Ç X Á σ H s)(hx:X.ex=[])(e:s.heap.get? a=none):X.s₀.heap.get? a=none:=by cases q:X.s₀.heap.get? a with|none=>rfl;|some o=>obtain⟨o',z⟩:=I.base.there a o q (by rw[hx];simp);rw[e]at z;cases z
theorem Kz(W:wK X λa C H=>E (.ref a) (some C) H)(hx:X.ex=[]):ul (ο X.prog X.w) X E:=by intro Á σ H s e s' I h;obtain⟨a,C,H',T,rfl,os,bare,un,hok,na,nT,fa,fT,fl,q⟩:=h;have J:Ç X Á σ H' s':=I.call' os un hok bare λb z=>absurd z Ö;refine W Á σ H' s' a C (.ref T) J fl (I.was hx na) fa (λT' eT=>by cases eT;exact⟨I.was hx nT,fT⟩) (λp hp=>?_) q;obtain⟨e,_⟩:=I.pin p hp;exact⟨λz=>(by rw[z,na]at e;cases e),λz=>(by cases z;rw[nT]at e;cases e)⟩
def Mq(C:Addr)(EX:Addr->Addr->Hp->Prop)(t:TA):TS:=λ_ σ H=>t σ H λvs H1=>vs.length<=sizeLine/\∀a,H1 a=none->EX a C H1
theorem Ga{np bX pos:Pos}(O:OwnCls x C bm newId X.mg X.base)(FB:ExcBaseFacts B newId AI bm)(hc:X.calm=true)(hx:X.ex=[])(hg:Gl X x)(ha:PA X (e::es) t)(W:wK X EX)(fy:Δ x:=by decide)(he:Qab X e es:=by rfl)(fw:Qac X bX es:=by rfl):PS X (.Raise (some (.Call (.Name x np) (e::es) [] bX)) none pos) (Mq C EX t):=by intro Á s σ H D I h;obtain⟨tl,N,nm,q,bs,hdct,sn,sub,ab,col,dd,k0,k1,k2,k3,k5,mN,hC,hN,HM,T⟩:=O.obj;refine wpAny_Raise_call_subT (C:=C) (nm:=nm) (q:=q) (N:=N) (bs:=bs) (bm:=tl) (hdct:=hdct) (sn:=sn) (sub:=sub) (ab:=ab) (col:=col) (dd:=dd) (k0:=k0) (k1:=k1) (k2:=k2) (k3:=k3) (k5:=k5) FB (mN:=mN) (T.hasType FB.hasBase) (I.ok.hd hc) (by rw[he];show(false||(backTo bX (starEach es X.env)).any (·.1))=false;rw[fw];rfl) HM ?_;refine jB I hg O.bound ⟨rfl,?_⟩ fy;have h2:=ha bX Á s σ H _ I h;rw[he]at h2⊢;refine Calls.evalArgs_plain (wpAny_mono h2 (λus s2 z=>?_) λ_ _ y=>y);obtain⟨vs,H1,I1,r1,hl,q1⟩:=z;have hlen:=r1.length;refine⟨rfl,by show us.length<=_;lia,I1.bk _ _ hC,hN.keeps I1.bk,T.keeps I1.bk,λh' a me=>?_⟩;obtain⟨tt,e1,e2,e3⟩:=me.there;have J:Ç X Á σ H1 {s2 with heap:=h'}:=I1.kept (t':=s2.toks) me.keeps;have fl:ϸ h' a (.ref C) .none:=⟨⟨_,_,e1,rfl,rfl,rfl,rfl⟩,.inl rfl⟩;refine W Á σ H1 _ a C .none J fl (I1.was hx me.new) (I1.hok.no me.new) (λT z=>by cases z) (λp hp=>?_) (q1 a (I1.hok.no me.new));obtain⟨e,_⟩:=I1.pin p hp;exact⟨λz=>(by rw[z,me.new]at e;cases e),λz=>(by cases z)⟩
end
theorem Jr{K:Frag}:wK (jg (ο P w) P w K mg base N qual scope f cd A outer s H E) λa C H'=>E (.ref a) (some C) H':=by
 intro Á σ H' s' a C tb I fl na fa ft _ q;have dS:s'.heap.FunFrames base (envOfC qual scope s.heap.objs.size f cd::outer):=I.stack;have mm:(A.deeper (envOfC qual scope s.heap.objs.size f cd)).frames=some (envOfC qual scope s.heap.objs.size f cd::outer):=I.ok.frames;have AJ:(envOfC qual scope s.heap.objs.size f cd).frame=some s.heap.objs.size:=by rfl
 have ub:Un (Ď outer) [] H H' s.heap s'.heap:=I.base;have na:s.heap.get? a=none:=na;have ft:∀T,tb=.ref T->s.heap.get? T=none/\H' T=none:=ft;refine wJ mm dS AJ fl λh' T nT kg k1 k2 k3=>?_;have apart:∀b o,s.heap.get? b=some o->b≠a/\tb≠.ref b:=λb o e=>⟨λz=>(by rw[z,na]at e;cases e),λz=>(by rw[(ft b z).1]at e;cases e)⟩;have L5:∀b o,s.heap.get? b=some o->b∉Ď outer->b∉Ď (envOfC qual scope s.heap.objs.size f cd::outer):=λb o e hn hm=>by
  unfold Ď at hm;rw[Zay,AJ]at hm;rcases ĩ.mp hm with z|z;.exact absurd (ü e) (by rw[z];exact ź _)
  .exact hn z
 refine⟨a,C,H',T,O,I.os,I.bare,⟨λb o e n hb _=>?_,λb o e n hb _=>?_,ub.free,λb o e hx=>?_,ub.tups,ub.frzs,ub.tbls⟩,λc o e=>?_,na,?_,fa,I.hok.no nT,kg,q⟩;.exact k1 b o (ub.keep b o e n hb Ö) (apart b o e).1 (apart b o e).2 (L5 b o e hb)
 .obtain⟨sl,e1⟩:=ub.slot b o e n hb Ö;obtain⟨kN,e2⟩:=k2 b _ e1 (apart b o e).1 (apart b o e).2;exact⟨kN,e2⟩
 .obtain⟨o',e1⟩:=ub.there b o e hx;exact k3 b o' e1
 .refine(I.hok c o e).stay (λd v hd z=>?_) (λ_ z=>z) λ_ _ z=>z;have EL:∃o',H' d=some o':=by grind
  obtain⟨o',eo⟩:=EL;refine k1 d v z (λy=>(by rw[y,fa]at eo;cases eo)) (λy=>(by rw[(ft d y).2]at eo;cases eo)) λhm=>?_;rw[I.stkFree d hm]at eo;cases eo
 .exact I.was O nT
theorem æ.okX{K:Frag}{st:Stmt}{f:Addr}{fd:FuncData}{N ps:ð}{k:Nat}{sp:Sp}(F:æ K x qual st f fd)(S:Ã N ps (aD st))(len:∀vs H Q E,sp vs H Q E->vs.length=ps.length)(aS:∀ar A outer s H vs Q E,ï k (A.deeper (envOfC qual (aD st) s.heap.objs.size f ar))->sp vs H Q E->∃t,Ō (jg (ο P w) P w K mg base N qual (aD st) f ar A outer s H E) (cZ st) t/\t {nx:=λ_ H'=>Q .non H',rt:=Q} (start N vs) H):Ñ P w K mg base (ο P w) (k+1) f fd ps sp:=by obtain⟨oc,od,kV,doc,pm,an,ar,ct,l9,rfl,lk,ff⟩:=F.ex;exact Ex lk ff S len λA outer s H vs Q E hr iA=>aS ar A outer s H vs Q E hr iA
theorem æ.oqX{K:Frag}{st:Stmt}{f:Addr}{fd:FuncData}{N ps:ð}{k:Nat}{sp:Sp}(F:æ K x qual st f fd)(S:Ã N ps (aD st))(aS:∀ar A outer s H vs Q E,ï k (A.deeper (envOfC qual (aD st) s.heap.objs.size f ar))->sp vs H Q E->∃t,Ō (jg (ο P w) P w K mg base N qual (aD st) f ar A outer s H E) (cZ st) t/\t {nx:=λ_ H'=>Q .non H',rt:=Q} (start N vs) H)(len:ϭ sp ps:=by exact{}):Ñ P w K mg base (ο P w) (k+1) f fd ps sp:=F.okX S len.h aS
theorem Mr{K:Frag}(X:K.In h)(hm:mg x=some (.ref C))(q:PySem.W.excIn K C Qr newId=true):OwnCls x C Qr newId mg h:=by
 refine⟨hm,?_⟩;unfold PySem.W.excIn at q;split at q
 .rename_i dd cd sl ho;split at q;.rename_i C' bm k0 k1 k2 k3 n k5 BM hs;simp only[Bool.and_eq_true,beq_iff_eq,Bool.not_eq_true']at q;obtain⟨⟨⟨⟨⟨rfl,rfl⟩,EM⟩,ht⟩,hok⟩,HM⟩:=q;obtain⟨nm,bs,mro,ns,qn,hd,sn,sub,ab,col,del⟩:=cd;dsimp only at BM EM hok HM;subst BM EM;obtain⟨l⟩:=sl;subst hs;exact⟨bm,ns,nm,qn,bs,hd,sn,sub,ab,col,dd,k0,k1,k2,k3,k5,_,X _ _ ho,.of_isNs (PySem.W.isNs_of_in X hok),PySem.W.nsMap_none_of_in X hok HM,PySem.W.tail_of_in X ht⟩
  .cases q
 .cases q
section
variable{σ:St}
theorem ϸ.ne(fl:ϸ h a C tb)(e:h.get? b=some o)(hd:∀vs,o.data≠.fields vs):b≠a/\tb≠.ref b:=by
 obtain⟨⟨oe,vs,he,_,hv,_,_⟩,tr⟩:=fl;refine⟨λz=>?_,λz=>?_⟩;.rw[z,he]at e;cases e;exact hd vs hv
 .rcases tr with q|⟨T,oT,ts,q,_,hT,qh,_⟩;.rw[q]at z;cases z
  .rw[q]at z;cases z;rw[hT]at e;cases e;exact hd ts qh
theorem Ç.left(I:Ç X Á σ H s)(hx:X.ex=[])(fl:ϸ s.heap a C tb)(na:X.s₀.heap.get? a=none)(fa:H a=none)(ft:∀T,tb=.ref T->X.s₀.heap.get? T=none/\H T=none)(hp:∀p∈X.pn++Á,p.1≠a/\tb≠.ref p.1)(k1:∀b o,s.heap.get? b=some o->b≠a->tb≠.ref b->b∉Ď X.stack->h'.get? b=some o)(k2:∀b o,s.heap.get? b=some o->b≠a->tb≠.ref b->∃sl,h'.get? b=some {o with slots:=sl})(k3:∀b o,s.heap.get? b=some o->∃o',h'.get? b=some o'):Ç X Á σ H {s with heap:=h',toks:=t'}:=by
 have tr:∀b u,H b=some u->b≠a/\tb≠.ref b/\b∉Ď X.stack:=λb u e=>⟨λz=>(by rw[z,fa]at e;cases e),λz=>(by rw[(ft b z).2]at e;cases e),λz=>(by rw[I.stkFree b z]at e;cases e)⟩;have old:∀b o,X.s₀.heap.get? b=some o->b≠a/\tb≠.ref b:=λb o e=>⟨λz=>(by rw[z,na]at e;cases e),λz=>(by rw[(ft b z).1]at e;cases e)⟩;have GI:∀b o,X.s₀.heap.get? b=some o->b≠X.env.locals:=λb o e=>Ħ (ļ (ü e) I.ok.above);have QA:∀b,b≠X.env.locals->b∉X.fs->b∉Ď X.stack:=λb h1 h2 z=>(ĩ.mp (I.stkSub b z)).elim h1 h2;have cellK:∀x c,X.env.cells.lookup x=some c->∀v,s.heap.IsCell c v->h'.IsCell c v:=λx c e v hZ=>by
  obtain⟨o,ho,hd⟩:=hZ;obtain⟨n1,n2⟩:=fl.ne ho λvs q=>by rw[hd]at q;cases q
  obtain⟨sl,q⟩:=k2 c o ho n1 n2;exact⟨_,q,hd⟩
 refine⟨I.ok,I.os,I.bare,⟨λb o e n hb cE=>?_,λb o e n hb cE=>?_,I.base.free,λb o e cE=>?_,I.base.tups,I.base.frzs,I.base.tbls⟩,?_,λx c e=>?_,I.free,I.freeC,λp ki=>?_,λc o e=>?_,I.len⟩;.exact k1 b o (I.base.keep b o e n hb cE) (old b o e).1 (old b o e).2 (QA b (GI b o e) hb)
 .obtain⟨sl,e1⟩:=I.base.slot b o e n hb cE;obtain⟨kN,e2⟩:=k2 b _ e1 (old b o e).1 (old b o e).2;exact⟨kN,e2⟩
 .obtain⟨o',e1⟩:=I.base.there b o e cE;exact k3 b o' e1
 .obtain⟨m,⟨o,es,ep,ho,hd,r⟩,hl⟩:=I.loc;obtain⟨n1,n2⟩:=fl.ne ho λvs q=>by rw[hd]at q;cases q
  obtain⟨sl,q⟩:=k2 _ o ho n1 n2;refine⟨m,⟨_,es,ep,q,hd,r⟩,λi x v e1 e2 e3=>?_⟩;obtain⟨u,rr,l⟩:=hl i x v e1 e2 e3;refine⟨u,rr,?_⟩;rcases l with l|⟨k,c,e,z⟩;.exact .inl l
  .exact .inr ⟨k,c,e,cellK x c e _ z⟩
 .obtain⟨v,z⟩:=I.cell x c e;exact⟨v,cellK x c e v z⟩
 .obtain⟨e,n,ne,nf,d⟩:=I.pin p ki;exact⟨k1 p.1 p.2 e (hp p ki).1 (hp p ki).2 (QA p.1 ne nf),n,ne,nf,d⟩
 .refine(I.hok c o e).stay (λd v hd z=>?_) (λ_ z=>z) λ_ _ z=>z;have EL:∃o',H d=some o':=by grind
  obtain⟨o',eo⟩:=EL;obtain⟨t1,t2,t3⟩:=tr d o' eo;exact k1 d v z t1 t2 t3
end
structure Ċ(k:Nat)(A:Around):Prop where
 dp:A.depth+3*k+5<recursionLimit
 un:A.units+16*k+200<cLine
 gd:A.guards=some []
theorem ï.toU(r:ï k A):Ċ k A:=⟨r.dp,r.un,r.gd⟩
theorem Ċ.mono(r:Ċ k A)(h:j<=k):Ċ j A:=⟨by have:=r.dp;lia,by have:=r.un;lia,r.gd⟩
structure ű(P:Program)(w:World)(K:Frag)(mg:ŋ)(base:Heap)(CX:CXT)(k:Nat)(f:Addr)(fd:FuncData)(ps:ð)(sp:Sp):Prop where
 len:∀vs H Q E,sp vs H Q E->vs.length=ps.length
 run:∀A outer s H args us vs Q E,Ċ k A->Ŏ P w K mg base A outer s H->BindsTo s fd args (ps.zip us)->Í vs us->sp vs H Q E->codeAny (model P w) A (.call (.ref f) args) (CR CX outer P w H s Q E) s
abbrev Cx.un(X:Cx)(A:Around):Cx:={X with A:=A,calm:=false}
theorem Ç.un'{σ:St}(I:Ç X Á σ H s)(A:Around)(hA:A.frames=X.A.frames):Ç (X.un A) Á σ H s:=⟨⟨I.ok.mod,I.ok.kind,I.ok.glob,I.ok.blt,I.ok.above,I.ok.inj,I.ok.has,I.ok.cab,λz=>(by cases z),hA.trans I.ok.frames,I.ok.stk,I.ok.exf,I.ok.bs,I.ok.bsz,I.ok.noex,I.ok.exfs,I.ok.funs,I.ok.frf⟩,I.os,I.bare,I.base,I.loc,I.cell,I.free,I.freeC,I.pin,I.hok,I.len⟩
def qt(A:Around):Around:={A with handled:=none}
theorem Ŏ.qt{K:Frag}(e:Ŏ P w K mg base A outer s H):Ŏ P w K mg base (qt A) outer s H:=⟨e.frames,e.mod,e.bs,e.bsz,e.funs,e.frf,e.hok,e.bare⟩
theorem Ċ.mark(r:Ċ k A)(v:Qa8):Ċ k (A.mark v):=⟨r.dp,r.un,r.gd⟩
theorem Ċ.deeper(r:Ċ (k+1) A)(env:Env):Ċ k (A.deeper env):=⟨by have:=r.dp;show A.depth+1+3*k+5<_;lia,by have:=r.un;show A.units+3+16*k+200<_;lia,r.gd⟩
theorem æ.okU{K:Frag}{st:Stmt}{f:Addr}{fd:FuncData}{N ps:ð}{k:Nat}{sp:Sp}(F:æ K x qual st f fd)(S:Ã N ps (aD st))(len:∀vs H Q E,sp vs H Q E->vs.length=ps.length)(aS:∀ar A outer s H vs Q E,Ċ k (A.deeper (envOfC qual (aD st) s.heap.objs.size f ar))->sp vs H Q E->∃t,Ō (((jg å P w K mg base N qual (aD st) f ar (qt A) outer s H E).un (A.deeper (envOfC qual (aD st) s.heap.objs.size f ar))).nox) (cZ st) t/\t {nx:=λ_ H'=>Q .non H',rt:=Q} (start N vs) H):ű P w K mg base å (k+1) f fd ps sp:=by
 obtain⟨oc,od,kV,doc,pm,an,ar,ct,l9,rfl,lk,ff⟩:=F.ex;refine⟨len,λA outer s H args us vs Q E hr e0 hb r iA=>?_⟩;have hl:=len _ _ _ _ iA;have KX:K.In s.heap:=e0.mod.kin.keeps λb o e=>(e0.bs b o e).1;have lim:s.heap.NoLimit:=e0.mod.nolimit.keeps λb o e=>(e0.bs b o e).1;have mM:∀y∈ps.zip us,(aD st).names.lookup y.1=some .local\/((aD st).names.lookup y.1=some .cell/\((cellsFrom (s.heap.objs.size+1) (aD st).names []).lookup y.1).isSome=true):=λ⟨n,v⟩hy=>by
  rcases S.par n (ϻ hy).1 with q|q;.exact .inl q
  .exact .inr ⟨q,PySem.W.cellsFrom_some _ _ _ (.inl q)⟩
 refine codeAny_call_function (by have:=hr.dp;lia) (KX _ _ lk) O S.co S.gen O (PySem.W.codeRec_of KX ff) (hb _ _ _ _ ?_);refine wpAny_newFunctionEnv_cells S.kind mM λenv he s1 x=>?_;subst he;refine⟨lim.keeps x.toInCall.keep,codeAny_func ?_⟩;obtain⟨t,ht,hq⟩:=aS ar A outer s H vs Q E (hr.deeper _) iA;have I:Ç (jg å P w K mg base N qual (aD st) f ar (qt A) outer s H E) [] (start N vs) H s1:=sS S O e0.qt hl r x;have J:=(I.un' (A.deeper (envOfC qual (aD st) s.heap.objs.size f ar)) O).wish λ_ _=>False;refine wpAny_mono (ht [] s1 (start N vs) H _ J hq) (λfl s' hs=>?_) λe s' hs=>hs.elim;have fin:∀{av:St}{H':Hp}{v:V}{u:Value},Ç (((jg å P w K mg base N qual (aD st) f ar (qt A) outer s H E).un (A.deeper (envOfC qual (aD st) s.heap.objs.size f ar))).nox) [] av H' s'->Ò v u->Q v H'->CE outer P w H s Q u s':=λ{av H' v u}J rv q=>⟨v,H',J.os,J.bare,J.base,J.hok,rv,q⟩;cases fl with|ret u=>obtain⟨v,av,H',J,rv,q⟩:=hs;exact fin J rv q;|next=>obtain⟨av,H',J,q⟩:=hs;exact fin (v:=V.non) (u:=Value.none) J O q;|brk=>obtain⟨_,_,_,q⟩:=hs;exact False.elim q;|cont=>obtain⟨_,_,_,q⟩:=hs;exact False.elim q
theorem æ.oqU{K:Frag}{st:Stmt}{f:Addr}{fd:FuncData}{N ps:ð}{k:Nat}{sp:Sp}(F:æ K x qual st f fd)(S:Ã N ps (aD st))(aS:∀ar A outer s H vs Q E,Ċ k (A.deeper (envOfC qual (aD st) s.heap.objs.size f ar))->sp vs H Q E->∃t,Ō (((jg å P w K mg base N qual (aD st) f ar (qt A) outer s H E).un (A.deeper (envOfC qual (aD st) s.heap.objs.size f ar))).nox) (cZ st) t/\t {nx:=λ_ H'=>Q .non H',rt:=Q} (start N vs) H)(len:ϭ sp ps:=by exact{}):ű P w K mg base å (k+1) f fd ps sp:=F.okU S len.h aS
section
variable{p pos:Pos}
theorem Gb(F:ű X.prog X.w X.K X.mg X.base å k f fd ps sp)(hr:Ċ k X.A)(hg:Gl X x)(hm:X.mg x=some (.ref f))(hk:PySem.W.keepIn X.K (.ref f)=true)(hb:û X.K fd ps [])(ha:PA X (e::es) t)(fy:Δ x:=by decide)(he:Qab X e es:=by rfl)(fw:Qac X pos es:=by rfl):PE X (.Call (.Name x p) (e::es) [] pos) (vJ sp [] E0 t):=by
 intro Á s σ H Q I h;refine wpAny_Call_Name_kw (jB I hg hm ?_ fy);refine PySem.W.callWith_K (h₀:=X.base) I.ok.mod.kin hk (Ý (ha pos Á s σ H _ I h) λus s1⟨vs,H1,I1,r,q⟩=>⟨I1.kIn,?_⟩) he fw;have q:sp (vs++[]) H1 Q E0:=q;rw[ş]at q;have hl:(us++[]).length=ps.length:=by rw[ş,<-r.length];exact F.len _ _ _ _ q
 have EN:=hb s1 us I1.kIn hl;rw[ş]at EN;refine wpAny_call (codeAny_mono (F.run X.A X.stack s1 H1 ⟨us,[]⟩ us vs Q E0 hr I1.env0 EN r q) λrr s' hq=>?_);cases rr with|error e=>exact(hq).elim;|ok fl=>cases fl with|ret u=>exact I1.after hq;|next=>exact False.elim hq;|brk=>exact False.elim hq;|cont=>exact False.elim hq
end
def Ā(a C:Addr)(h:Heap):Prop:=∃o vs,h.get? a=some o/\o.cls=.ref C/\o.data=.fields vs/\o.dict=none
theorem Ā.ok(x:Ā a C h):Û P w H h a (.ext (Ā a C)):=⟨x,(let⟨o,_,e,_⟩:=x;⟨o,e⟩),λh1 h2 z k=>(let⟨o,vs,e,r⟩:=z;⟨o,vs,k o e,r⟩)⟩
theorem Ă.tracked(x:Ă P w H h)(n:H a=none)(new:Û P w (upd H a o) h a o):Ă P w (upd H a o) h:=λb u e=>by
 by_cases z:b=a;.subst z;rw[aj]at e;cases e;exact new
 .rw[au z]at e;exact(x b u e).stay (λ_ _ _ q=>q) (λc q=>by rw[au (aA q n)];exact q) λc xs q=>by rw[au (aA q n)];exact q
theorem Ç.track{σ:St}(I:Ç X Á σ H s)(hx:X.ex=[])(n:H a=none)(na:X.s₀.heap.get? a=none)(hL:a≠X.env.locals)(hc:∀x c,X.env.cells.lookup x=some c->c≠a)(hp:∀p∈X.pn++Á,p.1≠a)(new:Û X.prog X.w (upd H a o) s.heap a o):Ç X Á σ (upd H a o) s:=⟨I.ok,I.os,I.bare,⟨I.base.keep,I.base.slot,λb ob e h1 h2=>(by rw[au (λz=>(by rw[z,na]at e;cases e))];exact I.base.free b ob e h1 h2),I.base.there,λb xs e=>(have q:=I.base.tups b xs e;by rw[au (aA q n)];exact q),λb ob u e=>(have q:=I.base.frzs b ob u e;by rw[au (aA q n)];exact q),λb ps e=>(let⟨m,q⟩:=I.base.tbls b ps e;⟨m,by rw[au (aA q n)];exact q⟩)⟩,I.loc,I.cell,(by rw[au (Ne.symm hL)];exact I.free),λx c e=>(by rw[au (hc x c e)];exact I.freeC x c e),λp ki=>(let⟨e,n1,r⟩:=I.pin p ki;⟨e,by rw[au (hp p ki)];exact n1,r⟩),I.hok.tracked n new,I.len⟩
open PySem PySem.Spec PyProof.Rows PySem.Calls PySem.W
theorem Di:entryFor table "BaseException.__getattribute__"=some Builtin.«object.__getattribute__»:=entryFor_alias (id':="object.__getattribute__") (by kernel_rfl) (by first|rfl|decide+kernel) z04 (by kernel_rfl)
section
variable{K:Frag}
theorem Gd(hc:(clsIn K C).isSome=true)(ha:findIn K (.ref C) name=some (some a))(hg:specialIn K a "__get__"=some (some g))(ht:takesIn K a=some true):findObj K C none name=some (.bind g a):=by obtain⟨cd,hc⟩:=Za0.mp hc;unfold findObj;rw[hc,Option.bind_some,ha,Option.bind_some];simp[hg,ht]
theorem Ms(X:K.In s.heap)(I:InstAt s.heap x ox C none)(hf:findObj K C none "__class__"=some (.bind (.builtin "getset_descriptor.__get__") (.builtin "object.__class__")))(hm:mroIn K C (.type "object")=some true)(h:Q (.done (.ret (.ref C))) s):wpAny (model prog w) A (Builtin.«object.__getattribute__» ⟨[.ref x,.str "__class__" tk],[]⟩) Q E s:=by
 obtain⟨hh,g,d,t,os⟩:=s;have L0:=I.type (M:=model prog w);have L1:=looks_find (M:=model prog w) X I hf;unfold Builtin.«object.__getattribute__»;repeat lk
 refine wpAny_run (class_get X I hm ?_);repeat lk
 exact h
theorem Ξ:Slot "BaseException" "__getattribute__" "BaseException.__getattribute__":=.of (owner:="BaseException") (n:="__getattribute__") (by rw[typeLookup_type,builtinLookup_eq_fast];kernel_rfl) z04 z04 z04 (by first|exact .inl z04|exact .inr z04) (by rw[isSubtype_type];kernel_rfl)
theorem Ge:builtinKind "BaseException.__getattribute__"=some .slot:=by decide+kernel
theorem Dj:splitId "BaseException.__getattribute__"=some ("BaseException","__getattribute__"):=by decide+kernel
theorem Js:∃sig,Manifest.signature? "BaseException.__getattribute__"=sig/\∀a b:Value,(match sig with|none=>(pure ():Sem Unit)|some g=>Bind.checkArgs "BaseException.__getattribute__" g ⟨[a,b],[]⟩)=pure ():=⟨_,O,λa b=>by kernel_rfl⟩
theorem Dk(L:Looks (model prog w) s.heap (isInstance (.ref x) (.type "BaseException")) true)(h:Q () s):wpAny (model prog w) A (checkBuiltinCall "BaseException.__getattribute__" ⟨[.ref x,b],[]⟩) Q E s:=by simp only[checkBuiltinCall,Ge,Dj];refine Ä (L.at ?_);simp only[Bool.not_true,Bool.false_eq_true,if_false];obtain⟨sig,e,r⟩:=Js;have r:=r (.ref x) b;rw[e];cases sig with|none=>exact Ú h;|some g=>show wpAny _ _ (Bind.checkArgs "BaseException.__getattribute__" g ⟨[.ref x,b],[]⟩) Q E s;have r:Bind.checkArgs "BaseException.__getattribute__" g ⟨[.ref x,b],[]⟩=pure ():=r;rw[r];exact Ú h
theorem Dl(X:K.In s.heap)(I:InstAt s.heap x ox C none)(Vj:findIn K (.ref C) "__getattribute__"=some (some (.builtin "BaseException.__getattribute__")))(Vk:findIn K (.ref C) "__getattr__"=some none)(hf:findObj K C none "__class__"=some (.bind (.builtin "getset_descriptor.__get__") (.builtin "object.__class__")))(hm:mroIn K C (.type "object")=some true)(hb:mroIn K C (.type "BaseException")=some true)(h:Q (some (.ref C)) {s with toks:=s.toks+1}):wpAny (model prog w) A (getAttr? (.ref x) "__class__") Q E s:=by
 obtain⟨hh,g,d,t,os⟩:=s;have L0:=I.type (M:=model prog w);have L1:=looks_findIn (M:=model prog w) X Vj;have L2:=looks_findIn (M:=model prog w) X Vk;have L3:=looks_mroIn (M:=model prog w) X hb;unfold getAttr? getAttrBy? getAttrBy;refine Ä (wpAny_mkText (Ä (wpAny_attempt (wpAny_holding (Ä (L0.at (Ä (L1.at ?_))))))));show wpAny _ _ (getAttrByItsOwn _ _ _ _ _ _) _ _ _;unfold getAttrByItsOwn hookBefore;refine Ä ?_;rw[Ì (show onTheHeap (.ref C)=true from O)];refine L2.at ?_;refine Ä (wpAny_attempt (wpAny_holding ?_));show wpAny _ _ (boundAndCalled (.builtin "BaseException.__getattribute__") (.ref x) (.str "__class__" t)) _ _ _;unfold boundAndCalled;refine Ä (wpAny_of_eq (Ξ.bind _) ?_);refine wpAny_call (codeAny_call_builtin Ξ.plain Di (Dk (s:=⟨hh,g,d,t+1,os⟩) (L0.andThen L3) ?_));refine Ms (s:=⟨hh,g,d,t+1,os⟩) X I hf hm ?_;show wpAny _ _ (handedOut (.ref C)) _ _ _;repeat lk
 exact h
end
structure Z0d(K:Frag)(C:Addr):Prop where
 cl:(clsIn K C).isSome=true
 ga:findIn K (.ref C) "__getattribute__"=some (some (.builtin "BaseException.__getattribute__"))gb:findIn K (.ref C) "__getattr__"=some none
 fc:findIn K (.ref C) "__class__"=some (some (.builtin "object.__class__"))sg:specialIn K (.builtin "object.__class__") "__get__"=some (some (.builtin "getset_descriptor.__get__"))tk:takesIn K (.builtin "object.__class__")=some true
 ob:mroIn K C (.type "object")=some true
 be:mroIn K C (.type "BaseException")=some true
theorem Ā.inst(x:Ā a C h):∃ox,InstAt h a ox C none:=by obtain⟨o,vs,e,c,d,dd⟩:=x;refine⟨o,e,c,?_,by rw[dd];trivial⟩;unfold notCls;rw[d]
theorem wL{K:Frag}(Z:Z0d K C):KitX K (.ref a) (.ref C) (Ā a C)where
 ty:=λM h _ p=>(let⟨_,I⟩:=p.inst;I.type);it:=λM h X _=>by
  have z:=Z.cl;unfold clsIn at z;split at z;.rename_i c' d' cd' GN ho;intro A' Q' E' s' k q;unfold isType loadHead;exact Ä (wpAny_loadPart (k _ _ (X _ _ ho)) (Ú q))
  .cases z
 ne:=λh tp dd Æ n sl X e=>by
  refine Bool.eq_false_iff.mpr λq=>?_;have q:C=tp:=by have:=beq_iff_eq.mp q;injection this
  subst q;have z:=Z.cl;unfold clsIn at z;split at z;.rename_i c' d' cd' GN ho;have:=X _ _ ho;rw[e]at this;cases this
  .cases z
 ca:=λ{prog w A E Q s}X p h=>by obtain⟨ox,I⟩:=p.inst;exact Dl X I Z.ga Z.gb (Gd Z.cl Z.fc Z.sg Z.tk) Z.ob Z.be h
theorem lV:dY X (.builtin "isinstance") (λxs H Q=>∃a C c b,xs=[.ref a,c]/\H a=some (.ext (Ā a C))/\Z0d X.K C/\((∃D,c=.ref D/\kitOne X.K (.ref C) (.ref D)=some b)\/∃n,c=.ty n/\kitOne X.K (.ref C) (.type n)=some b)/\Q (.bl b) H):=by
 intro Á s σ H xs us Q I r h;obtain⟨a,C,c,b,rfl,e,Z,hk,q⟩:=h;obtain⟨u,v,rfl,ru,rv⟩:=Ť r;cases(show u=Value.ref a from ru);obtain⟨p,_⟩:=(show Û X.prog X.w H s.heap a (.ext (Ā a C))from I.hok a _ e);rcases hk with⟨D,rfl,hk⟩|⟨n,rfl,hk⟩;.cases(show v=Value.ref D from rv);exact kia_one (wL Z) I.kIn p hk (λz=>nomatch z) λtk=>⟨.bl b,H,I.tok _,O,q⟩
 .cases(show v=Value.type n from rv);exact kia_one (wL Z) I.kIn p hk (λz=>nomatch z) λtk=>⟨.bl b,H,I.tok _,O,q⟩
section
variable{K:Frag}{s:Shared}
structure ž(K:Frag)(C D:Addr):Prop where
 nt:typeIn K (.ref D)=some (.type "type")ty:(clsIn K D).isSome=true
 be:subIn K (.ref D) (.type "BaseException")=some true
 su:subIn K (.ref C) (.ref D)=some true
theorem Dm(X:K.In s.heap)(h:(clsIn K D).isSome=true):Looks (model prog w) s.heap (isType (.ref D)) true:=by
 unfold clsIn at h;split at h;.rename_i c' d' cd' GN ho;intro A' Q' E' s' k q;exact Ä (wpAny_loadPart (k _ _ (X _ _ ho)) (Ú q))
 .cases h
theorem wM(X:K.In s.heap)(I:InstAt s.heap a ox C none)(Z:ž K C D)(h:Q true s):wpAny (model prog w) A (excMatches (.ref a) (.ref D)) Q E s:=by
 have L0:=I.type (M:=model prog w);have L1:=looks_typeIn (M:=model prog w) X Z.nt;have L2:=Dm (prog:=prog) (w:=w) X Z.ty;have L3:=looks_subIn (M:=model prog w) X Z.be;have L4:=looks_subIn (M:=model prog w) X Z.su;have f:=tc_notTuple;repeat(first|with_reducible refine L1.at ?_|with_reducible refine L0.at ?_|with_reducible refine L2.at ?_|with_reducible refine L3.at ?_|with_reducible refine L4.at ?_|wp_step)
 exact h
end
theorem Dn(fl:ϸ s.heap a C tb)(h:∀h',ϸ h' a C tb->(∀b o,s.heap.get? b=some o->tb≠.ref b->h'.get? b=some o)->(∀b o,s.heap.get? b=some o->∃o',h'.get? b=some o')->Q () {s with heap:=h'}):wpAny M A (setFlight (.ref a) none) Q E s:=by
 obtain⟨⟨oe,vs,he,hc,hd,h1,nI⟩,tr⟩:=id fl;refine Ä (wpAny_field he hd h1 ?_);rcases tr with rfl|⟨T,oT,ts,rfl,nT,hT,qh,h3⟩;.rw[Ê Ù];exact Ú (h s.heap fl (λb o e _=>e) λb o e=>⟨o,e⟩)
 .rw[Ì (show(Value.ref T !=Value.none)=true by simp)];have z3:=(Array.getElem?_eq_some_iff.mp h3).1;refine wpAny_setField hT qh z3 ?_;have g3:=Heap.get?_update_self (Obj.mapFields (·.setIfInBounds 3 ((none:Option Addr).elim Value.none λf=>rawInt f))) hT (Obj.isFreed_of_fields (Obj.data_mapFields qh _));have o3:∀b,b≠T->(s.heap.update T (Obj.mapFields (·.setIfInBounds 3 ((none:Option Addr).elim Value.none λf=>rawInt f)))).get? b=s.heap.get? b:=λb hb=>Heap.get?_update_other _ _ (Ne.symm hb);refine h _ ⟨⟨oe,vs,(o3 a (Ne.symm nT)).trans he,hc,hd,h1,nI⟩,.inr ⟨T,_,_,O,nT,g3,Obj.data_mapFields qh _,by simp[z3]⟩⟩ (λb o e hb=>(o3 b λz=>hb (by rw[z])).trans e) λb o e=>?_;by_cases z:b=T;.rw[z];exact⟨_,g3⟩
  .exact⟨o,(o3 b z).trans e⟩
abbrev Cx.tr(X:Cx)(Á:Ň)(xe:gV):Cx:={X with pn:=X.pn++Á,xe:=xe}
theorem Ç.tr{σ:St}(I:Ç X Á σ H s)(xe:gV):Ç (X.tr Á xe) [] σ H s:=⟨⟨I.ok.mod,I.ok.kind,I.ok.glob,I.ok.blt,I.ok.above,I.ok.inj,I.ok.has,I.ok.cab,I.ok.hd,I.ok.frames,I.ok.stk,I.ok.exf,I.ok.bs,I.ok.bsz,I.ok.noex,I.ok.exfs,I.ok.funs,I.ok.frf⟩,I.os,I.bare,I.base,I.loc,I.cell,I.free,I.freeC,λp hp=>I.pin p (by simpa using hp),I.hok,I.len⟩
theorem Ç.untr{σ:St}(I:Ç (X.tr Á xe) iq σ H s):Ç X Á σ H s:=⟨⟨I.ok.mod,I.ok.kind,I.ok.glob,I.ok.blt,I.ok.above,I.ok.inj,I.ok.has,I.ok.cab,I.ok.hd,I.ok.frames,I.ok.stk,I.ok.exf,I.ok.bs,I.ok.bsz,I.ok.noex,I.ok.exfs,I.ok.funs,I.ok.frf⟩,I.os,I.bare,I.base,I.loc,I.cell,I.free,I.freeC,λp hp=>I.pin p (Za3 _ hp),I.hok,I.len⟩
theorem Ç.drop{σ:St}(I:Ç X Á σ H s)(hN:X.N.Nodup)(hi:X.N[i]?=some x)(hl:∀(i:Nat)x v,X.N[i]?=some x->σ[i]?=some (some v)->Vis X.env.scope x->∃u,Ò v u/\Look X.env s.heap m x u)(hn:h'.Ns X.env.locals λy=>if y=x then u else m y)(sb:Heap.SameBut X.env.locals s.heap h'):Ç X Á (σ.set i none) H {s with heap:=h'}:=by
 have nL:∀b o,X.s₀.heap.get? b=some o->b≠X.env.locals:=λb o e=>Ħ (ļ (ü e) I.ok.above);have cK:∀y c,X.env.cells.lookup y=some c->∀v,s.heap.IsCell c v->h'.IsCell c v:=λy c e v=>by rintro⟨o,ho,hd⟩;exact⟨o,(sb.2 c (I.cne y c e)).trans ho,hd⟩
 refine⟨I.ok,I.os,I.bare,⟨λb o e n hb hx=>(sb.2 b (nL b o e)).trans (I.base.keep b o e n hb hx),λb o e n hb hx=>?_,I.base.free,λb o e hx=>?_,I.base.tups,I.base.frzs,I.base.tbls⟩,⟨_,hn,λj y v e1 e2 e3=>?_⟩,λy c e=>?_,I.free,I.freeC,λp hp=>?_,λc o e=>?_,by rw[Za9];exact I.len⟩;.obtain⟨sl,e1⟩:=I.base.slot b o e n hb hx;exact⟨sl,(sb.2 b (nL b o e)).trans e1⟩
 .obtain⟨o',e1⟩:=I.base.there b o e hx;exact⟨o',(sb.2 b (nL b o e)).trans e1⟩
 .by_cases z:i=j
  .subst z;by_cases aI:i<σ.length;.rw[Za6 aI]at e2;cases e2
   .rw[Zau (by rw[Za9];lia)]at e2;cases e2
  .rw[List.getElem?_set_ne z]at e2;obtain⟨u',r,l⟩:=hl j y v e1 e2 e3;refine⟨u',r,?_⟩;rcases l with⟨k,l⟩|⟨k,c,e,w'⟩
   .refine .inl ⟨k,?_⟩;show(if y=x then u else m y)=some u';rw[Ê λq=>z ?_];.exact l
    .rw[q]at e1;obtain⟨h1,g1⟩:=Ķ.mp hi;obtain⟨h2,g2⟩:=Ķ.mp e1;exact(List.getElem_inj hN).mp (g1.trans g2.symm)
   .exact .inr ⟨k,c,e,cK y c e _ w'⟩
 .obtain⟨v,w'⟩:=I.cell y c e;exact⟨v,cK y c e v w'⟩
 .obtain⟨e,n,ne,r⟩:=I.pin p hp;exact⟨(sb.2 p.1 ne).trans e,n,ne,r⟩
 .refine(I.hok c o e).stay (λd v hd z=>(sb.2 d λq=>?_).trans z) (λ_ z=>z) λ_ _ z=>z;rcases hd with y|y;.rw[y]at q;rw[q,I.free]at e;cases e
  .rw[q,I.free]at y;cases y
theorem jF{σ:St}(I:Ç X Á σ H s)(hN:X.N.Nodup)(hi:X.N[i]?=some x)(hx:X.env.scope.names.lookup x=some .local)(h:∀s',Ç X Á (σ.set i none) H s'->Q () s'):wpAny (model X.prog X.w) A (do bindName X.env x .none;unbindBehindTheSuite X.env x pos) Q E s:=by
 have EO:i<X.N.length:=(Ķ.mp hi).1;refine Ä (wpAny_bindName (jA (v:=.non) I hN hi (.inl hx) O (λs1 I1 _=>?_) (.inr hx)));obtain⟨m,hn,hl⟩:=id I1.loc;obtain⟨u,_,lk⟩:=hl i x .non hi (by rw[Za6 (by rw[I.len];exact EO)]) (.inl hx);have hv:m x=some u:=by
  rcases lk with⟨_,z⟩|⟨k,_⟩;.exact z
  .have cE:X.env.kindOf x=some .local:=hx;rw[cE]at k;rcases k with k|k<;>cases k
 refine wpAny_onRaise (wpAny_unbindName_local hx hn hv (by rw[I.ok.kind];rfl) λh' u' yy sb=>?_);have J:=I1.drop hN hi hl yy sb;rw[List.set_set]at J;exact h _ J
theorem Ç.back{σ:St}(I:Ç ((X.un A).wish xe) Á σ H s)(ok:X.Ok):Ç X Á σ H s:=⟨ok,I.os,I.bare,I.base,I.loc,I.cell,I.free,I.freeC,I.pin,I.hok,I.len⟩
def Gf(D:ŏ)(i:Nat):ŏ:={nx:=λσ H=>D.nx (σ.set i none) H,rt:=D.rt,ct:=λσ H=>D.ct (σ.set i none) H,bk:=λσ H=>D.bk (σ.set i none) H}
def Qy(n i:Nat)(ok:Addr->Prop)(tb:(Addr->Addr->Hp->Prop)->TS)(th:TS):TS:=λD σ H=>tb (λa C H'=>ok C/\∀av:St,av.length=n->H' a=none->th (Gf D i) (av.set i (some (.ref a))) (upd H' a (.ext (Ā a C)))) D σ H
theorem Mt(hm:X.mg y=some (.ref Dc))(hg:Gl X y)(hN:X.N.Nodup)(hi:X.N[i]?=some n)(hl:X.env.scope.names.lookup n=some .local)(hx:X.ex=[])(hs:X.stack=X.env::X.outer)(aS:∀Á xe EX,wK (X.tr Á xe) EX->Ō (X.tr Á xe) body (tb EX))(AK:∀v,Ō ((X.un (X.A.mark v)).nox) (sv::kF) th)(fy:(y==("__debug__":Str))=false:=by decide):PS X (.Try body [.ExceptHandler (some (.Name y np)) (some n) (sv::kF) aT] [] [] pos) (Qy X.N.length i (λC=>ž X.K C Dc) tb th):=by
 intro Á s σ H D I h;refine wpAny_Try_except ?_;have W:wK (X.tr Á λe s₁=>wpAny (model X.prog X.w) X.A (noteFrame e X.env) (λ_ s₂=>wpAny (model X.prog X.w) X.A (setFlight e none) (λ_ s₃=>wpAny (model X.prog X.w) X.A (handleBy e X.env [.ExceptHandler (some (.Name y np)) (some n) (sv::kF) aT]) (SP X Á D) X.xe s₃) X.xe s₂) X.xe s₁) (λa C H'=>ž X.K C Dc/\∀av:St,av.length=X.N.length->H' a=none->th (Gf D i) (av.set i (some (.ref a))) (upd H' a (.ext (Ā a C)))):=by
  intro iq DJ H1 s1 a C Vl I1 fl na fa ft hp q;obtain⟨Z,q⟩:=q;have J:=I1.untr;have mm:X.A.frames=some (X.env::X.outer):=by rw[<-hs];exact J.ok.frames
  have dS:s1.heap.FunFrames X.base (X.env::X.outer):=by rw[<-hs];exact J.stack
  have AJ:X.env.frame=some X.env.locals:=by
   rcases J.ok.stk with z|z;.exact absurd (congrArg List.length (hs.symm.trans z)) Ö
   .exact z.2
  have kf:∀p∈X.pn++Á,p.1≠a/\Vl≠.ref p.1:=λp ki=>hp p (Za3 _ ki);show wpAny (model X.prog X.w) X.A (noteFrame (.ref a) X.env) _ X.xe s1;refine Ao mm dS AJ fl λh' T nT kg k1 k2 k3=>?_;have J2:Ç X Á DJ H1 {s1 with heap:=h'}:=J.left (t':=s1.toks) hx fl na fa ft kf (by rw[hs];exact k1) k2 k3;have tf:∀T',Value.ref T=.ref T'->X.s₀.heap.get? T'=none/\H1 T'=none:=λT' z=>by cases z;exact⟨J.was hx nT,J.hok.no nT⟩
  have iX:∀p∈X.pn++Á,p.1≠a/\Value.ref T≠.ref p.1:=λp ki=>⟨(kf p ki).1,λz=>by cases z;obtain⟨e,_⟩:=J.pin p ki;rw[nT]at e;cases e⟩;obtain⟨oe,vs,he,hc,hd,_,nI⟩:=kg.obj;have inst:Ā a C h':=⟨oe,vs,he,hc,hd,nI⟩;refine wpAny_handleBy_cons (codeAny_handlers_test ?_) (by intro q;cases q);have J4:=J2.un' (X.A.mark (some (.ref a))) O;refine jB (X:=X.un (X.A.mark (some (.ref a)))) J4 hg hm ?_ fy;obtain⟨ox,ix⟩:=inst.inst;refine wM (s:={s1 with heap:=h'}) J2.kIn ix Z ?_;show codeAny _ _ (.handlers (.ref a) [.ExceptHandler none (some n) (sv::kF) aT] X.env) _ _;refine codeAny_handlers_suite_as ?_;refine Dn (s:={s1 with heap:=h'}) kg λh2 L6 j1 j2=>?_;have J5:Ç X Á DJ H1 {s1 with heap:=h2}:=J2.left (t':=s1.toks) hx kg na fa tf iX (λb o e _ hb _=>j1 b o e hb) (λb o e _ hb=>⟨o.slots,j1 b o e hb⟩) j2;obtain⟨Vm,L7,Vn,zh,hd2,_,L8⟩:=L6.obj;have ER:Ā a C h2:=⟨Vm,L7,Vn,zh,hd2,L8⟩;have Vo:a≠X.env.locals:=by obtain⟨m,⟨o,es,ep,ho,nK,_⟩,_⟩:=J5.loc;exact Ne.symm (L6.ne ho λvs q=>by rw[nK]at q;cases q).1
  have Vp:∀x c,X.env.cells.lookup x=some c->c≠a:=λx c e=>by obtain⟨v,o,ho,nK⟩:=J5.cell x c e;exact(L6.ne ho λvs q=>by rw[nK]at q;cases q).1
  have J6:=J5.track (o:=.ext (Ā a C)) hx fa na Vo Vp (λp ki=>(kf p ki).1) (Ā.ok ER);refine jA (v:=.ref a) J6 hN hi (.inl hl) O (λs6 I6 _=>?_) (.inr hl);have hw:=q DJ J.len fa;refine wpAny_mono (AK (some (.ref a)) Á s6 _ _ (Gf D i) ((I6.un' (X.A.mark (some (.ref a))) O).wish _) hw) (λf s7 sp=>?_) λe s' z=>z.elim;show wpAny (model X.prog X.w) X.A (do bindName X.env n .none;unbindBehindTheSuite X.env n aT) (λ_ s₃=>SP X Á D f s₃) X.xe s7;cases f with|ret u=>obtain⟨v,av,H',K',rv,qq⟩:=sp;exact jF (K'.back J.ok) hN hi hl λs' K2=>⟨v,_,H',K2,rv,qq⟩;|next=>obtain⟨av,H',K',qq⟩:=sp;exact jF (K'.back J.ok) hN hi hl λs' K2=>⟨_,H',K2,qq⟩;|brk=>obtain⟨av,H',K',qq⟩:=sp;exact jF (K'.back J.ok) hN hi hl λs' K2=>⟨_,H',K2,qq⟩;|cont=>obtain⟨av,H',K',qq⟩:=sp;exact jF (K'.back J.ok) hN hi hl λs' K2=>⟨_,H',K2,qq⟩
 have hb:=aS Á _ _ W [] s σ H D (I.tr _) h;refine wpAny_mono hb (λf s1 sp=>?_) λe s1 z=>z;cases f with|ret u=>obtain⟨v,av,H',K',rv,qq⟩:=sp;exact⟨v,av,H',K'.untr,rv,qq⟩;|next=>obtain⟨av,H',K',qq⟩:=sp;exact wpAny_execs_nil ⟨av,H',K'.untr,qq⟩;|brk=>obtain⟨av,H',K',qq⟩:=sp;exact⟨av,H',K'.untr,qq⟩;|cont=>obtain⟨av,H',K',qq⟩:=sp;exact⟨av,H',K'.untr,qq⟩
theorem wN(a b:Bool):MeetsSeq.EqGives (.bool a) (.bool b) (a==b):=λprog w A E s Q h=>PySem.SeqAt.EqAt.bool_bool (A:=A) (s:=s) a b prog w E Q h
def isB(k:Bool):Value->Bool|.bool n=>n==k|_=>false
theorem wO(bs:List Bool)(k:Bool):((bs.map Value.bool).toArray.toList.countP (isB k))=bs.count k:=by rw[List.toList_toArray,List.countP_map];rfl
inductive μ(x:V)(vs:List V)(H:Hp)(Q:VK):Prop|mk:∀l(bs:List Bool)k,(x=.ref l)->(vs=[.bl k])->(H l=some (.lst (bs.map V.bl)))->(Q (.int (bs.count k:Nat)) H)->μ  x vs H Q
def Aq:V->List V->Hp->VK->Prop:=λx vs H Q=>μ  x vs H Q
section
theorem Do:MtM X "list.count" Aq:=by
 intro Á s σ H x vs v us Q I rx rv h;obtain⟨l,bs,k,rfl,rfl,hH,q⟩:=h;cases rx;obtain⟨u,rfl,ru⟩:=ÿ rv;cases(show u=Value.bool k from ru);obtain⟨z,Æ,n,r,hl,e⟩:=I.lstM hH;have ei:Æ=bs.map Value.bool:=iY r;subst ei;refine call_meets F.slot_list_count ⟨_,e,O⟩ F.entry_list_count (F.args_list_count_2 _ _) (MeetsSeq.list_count l (bs.map Value.bool).toArray n (.bool k) (isB k) (λy hy=>?_)) ⟨e,?_⟩;.obtain⟨b,_,rfl⟩:=ó.mp (show y∈bs.map Value.bool by simpa using hy);exact wN b k
 .refine⟨.int (bs.count k:Nat),H,I.tok _,⟨s.toks,?_⟩,q⟩;rw[wO]
inductive θ(x:V)(vs:List V)(H:Hp)(Q:VK):Prop|mk:∀l(bs:List Bool)k(j:Nat),(x=.ref l)->(vs=[.bl k])->(H l=some (.lst (bs.map V.bl)))->(bs[j]?=some k)->((∀i,i<j->bs[i]?≠some k))->(Q (.int j) H)->θ  x vs H Q
def Ar:V->List V->Hp->VK->Prop:=λx vs H Q=>θ  x vs H Q
theorem Dp:MtM X "list.index" Ar:=by
 intro Á s σ H x vs v us Q I rx rv h;obtain⟨l,bs,k,j,rfl,rfl,hH,hj,KW,q⟩:=h;cases rx;obtain⟨u,rfl,ru⟩:=ÿ rv;cases(show u=Value.bool k from ru);obtain⟨z,Æ,n,r,hl,e⟩:=I.lstM hH;have ei:Æ=bs.map Value.bool:=iY r;subst ei;rw[Õ]at z;rw[sizeLine_eq]at z;have Vq:=(Ķ.mp hj).1;have gt:∀m(hm:m<(bs.map Value.bool).toArray.size),(bs.map Value.bool).toArray[m]=Value.bool (bs[m]'(by simpa using hm)):=λm hm=>by simp
 refine call_meets F.slot_list_index ⟨_,e,O⟩ F.entry_list_index (F.args_list_index_2 _ _) (MeetsSeq.list_index l (bs.map Value.bool).toArray n (.bool k) (isB k) (λy hy=>?_) j (by simpa using Vq) Â ?_ λm hm aI=>?_) ⟨e,⟨.int j,H,I.tok _,⟨_,O⟩,q⟩⟩;.obtain⟨b,_,rfl⟩:=ó.mp (show y∈bs.map Value.bool by simpa using hy);exact wN b k
 .rw[gt,(Ķ.mp hj).2];exact beq_self_eq_true k
 .rw[gt];refine beq_false_of_ne λc=>KW m aI ?_;rw[á (by simpa using hm),c]
end
def er(H:Hp)(cs:Ň):Hp:=λb=>if(cs.lookup b).isSome=true then none else H b
def fz(H:Hp)(cs:Ň):Hp:=λb=>match cs.lookup b with|some o=>some (.frz o (.ext λ_=>True))|none=>H b
section
theorem tM(e:cs.lookup b=some o):fz H cs b=some (.frz o (.ext λ_=>True)):=by unfold fz;rw[e]
theorem eF(e:cs.lookup b=none):fz H cs b=H b:=by unfold fz;rw[e]
theorem lZ(e:cs.lookup b=some o):er H cs b=none:=by unfold er;rw[e];rfl
theorem gn(e:cs.lookup b=none):er H cs b=H b:=by unfold er;rw[e];rfl
def ξ(H:Hp)(h:Heap)(fs:Ĉ)(cs:Ň):Prop:=∀b o,cs.lookup b=some o->h.get? b=some o/\H b=none/\b∉fs
theorem ξ.no(L:ξ H h fs cs)(e:H b=some u):cs.lookup b=none:=by cases q:cs.lookup b with|none=>rfl;|some o=>rw[(L b o q).2.1]at e;cases e
theorem Ă.fz(x:Ă P w H h)(L:ξ H h fs cs):Ă P w (L2.fz H cs) h:=λb u e=>by cases q:cs.lookup b with|some o=>rw[tM q]at e;cases e;have g:=(L b o q).1;exact⟨g,trivial,⟨o,g⟩,λ_ _ _ _=>trivial⟩;|none=>rw[eF q]at e;exact(x b u e).stay (λ_ _ _ z=>z) (λc z=>by rw[eF (L.no z)];exact z) λc xs z=>by rw[eF (L.no z)];exact z
theorem Ă.er(x:Ă P w H' h')(fr:∀b o,cs.lookup b=some o->H' b=some (.frz o (.ext λ_=>True))):Ă P w (L2.er H' cs) h':=λb u e=>by cases q:cs.lookup b with|some o=>rw[lZ q]at e;cases e;|none=>
  rw[gn q]at e;have no:∀c u,(∀o,u≠HO.frz o (.ext λ_=>True))->H' c=some u->cs.lookup c=none:=λc u hu z=>by cases q:cs.lookup c with|none=>rfl;|some o=>rw[fr c o q]at z;cases z;exact absurd O (hu o)
  exact(x b u e).stay (λ_ _ _ z=>z) (λc z=>by rw[gn (no c _ (λo y=>by cases y) z)];exact z) λc xs z=>by rw[gn (no c _ (λo y=>by cases y) z)];exact z
theorem Un.held(u:Un fs [] (fz H cs) H' h h')(ok:Ă P w H' h')(L:ξ H h fs cs):Un fs [] H (er H' cs) h h'/\Ă P w (er H' cs) h'/\∀b o,cs.lookup b=some o->h'.get? b=some o:=by
 have fr:∀b o,cs.lookup b=some o->H' b=some (.frz o (.ext λ_=>True)):=λb o q=>u.frzs b o _ (tM q);have kp:∀b o,cs.lookup b=some o->h'.get? b=some o:=λb o q=>(ok b _ (fr b o q)).1;have no:∀c v,(∀o,v≠HO.frz o (.ext λ_=>True))->H' c=some v->cs.lookup c=none:=λc v hv z=>by cases q:cs.lookup c with|none=>rfl;|some o=>rw[fr c o q]at z;cases z;exact absurd O (hv o)
 refine⟨⟨λb o e n hb hx=>?_,λb o e n hb hx=>?_,λb o e n hx=>?_,u.there,λb xs e=>?_,λb o v e=>?_,λb ps e=>?_⟩,ok.er fr,kp⟩;.cases q:cs.lookup b with|some o'=>have:=(L b o' q).1;rw[e]at this;cases this;exact kp b o q;|none=>exact u.keep b o e (by rw[eF q];exact n) hb hx
 .cases q:cs.lookup b with|some o'=>exact absurd hb (L b o' q).2.2;|none=>exact u.slot b o e (by rw[eF q];exact n) hb hx
 .cases q:cs.lookup b with|some o'=>exact lZ q;|none=>rw[gn q];exact u.free b o e (by rw[eF q];exact n) hx
 .have z:=u.tups b xs (by rw[eF (L.no e)];exact e);rw[gn (no b _ (λo y=>by cases y) z)];exact z
 .have z:=u.frzs b o v (by rw[eF (L.no e)];exact e);rw[gn (L.no e)];exact z
 .obtain⟨m,z⟩:=u.tbls b ps (by rw[eF (L.no e)];exact e);exact⟨m,by rw[gn (L.no e)];exact z⟩
theorem Un.loose(u:Un fs [] (er H cs) H1 h h')(ok:Ă P w H1 h')(ES:Ă P w H h)(fr:∀b o,cs.lookup b=some o->H b=some (.frz o (.ext λ_=>True))/\b∉fs):Un fs [] H (fz H1 cs) h h'/\Ă P w (fz H1 cs) h':=by
 have B0:∀b o,cs.lookup b=some o->h.get? b=some o:=λb o q=>(ES b _ (fr b o q).1).1;have kp:∀b o,cs.lookup b=some o->h'.get? b=some o:=λb o q=>u.keep b o (B0 b o q) (lZ q) (fr b o q).2 Ö;have nn:∀b o,cs.lookup b=some o->H1 b=none:=λb o q=>u.free b o (B0 b o q) (lZ q) Ö;have no:∀c v,(∀o,v≠HO.frz o (.ext λ_=>True))->H c=some v->cs.lookup c=none:=λc v hv z=>by cases q:cs.lookup c with|none=>rfl;|some o=>rw[(fr c o q).1]at z;cases z;exact absurd O (hv o)
 refine⟨⟨λb o e n hb hx=>?_,λb o e n hb hx=>?_,λb o e n hx=>?_,u.there,λb xs e=>?_,λb o v e=>?_,λb ps e=>?_⟩,ok.fz (fs:=fs) λb o q=>⟨kp b o q,nn b o q,(fr b o q).2⟩⟩;.cases q:cs.lookup b with|some o'=>rw[(fr b o' q).1]at n;cases n;|none=>exact u.keep b o e (by rw[gn q];exact n) hb hx
 .cases q:cs.lookup b with|some o'=>exact absurd hb (fr b o' q).2;|none=>exact u.slot b o e (by rw[gn q];exact n) hb hx
 .cases q:cs.lookup b with|some o'=>rw[(fr b o' q).1]at n;cases n;|none=>rw[eF q];exact u.free b o e (by rw[gn q];exact n) hx
 .have q:=no b _ (λo y=>by cases y) e;rw[eF q];exact u.tups b xs (by rw[gn q];exact e)
 .cases q:cs.lookup b with|some o'=>have z:=(fr b o' q).1;rw[e]at z;cases z;exact tM q;|none=>rw[eF q];exact u.frzs b o v (by rw[gn q];exact e)
 .have q:=no b _ (λo y=>by cases y) e;obtain⟨m,z⟩:=u.tbls b ps (by rw[gn q];exact e);exact⟨m,by rw[eF q];exact z⟩
end
def rN(fd:FuncData)(fl L:Addr):Env:=newEnv fd.scope L fd.globals fd.closure (fd.qualname++".<locals>.") (some fl) fd.code none fd.builtins
def cxL(P:Program)(w:World)(K:Frag)(mg:ŋ)(base:Heap)(N:ð)(fd:FuncData)(fl:Addr)(A:Around)(outer:List Env)(s:Shared)(H:Hp)(E:XK):Cx where prog:=P;w:=w;K:=K;mg:=mg;base:=base;A:=A.deeper (rN fd fl s.heap.objs.size);N:=N;s₀:=s;H₀:=H;env:=rN fd fl s.heap.objs.size;outer:=outer;stack:=rN fd fl s.heap.objs.size::outer;ex:=[];calm:=true;fn:=λ_=>false;pn:=[];xe:=λe s'=>wpAny (model P w) (A.deeper (rN fd fl s.heap.objs.size)) (leaving (rN fd fl s.heap.objs.size) e) (λ_ l8=>ο P w outer H s E e l8) (λe' l8=>ο P w outer H s E e' l8) s'
structure ś(fd:FuncData)(body:Expr)(N:ð):Prop where
 bd:fd.body=.expr body
 gl:fd.globals=mainGlobals
 bl:fd.builtins=builtinsNs
 kd:fd.scope.kind=.function
 co:fd.scope.isCoroutine=false
 ge:fd.scope.isGenerator=false
 fr:∀p∈fd.scope.names,p.2≠.cell
 fl:∀x,fd.scope.names.lookup x=some .free->∃c,fd.closure.lookup x=some c
 nd:∀x y c,fd.closure.lookup x=some c->fd.closure.lookup y=some c->x=y
 ba:bindArgs fd ⟨[],[]⟩=pure []nm:∀x∈N,fd.scope.names.lookup x=some .free
theorem Jt{K:Frag}{E:XK}{body:Expr}{vs:List V}{h1:Heap}{tk:Nat}(Z:ś fd body N)(hd:A.handled=none)(e0:Ŏ P w K mg base A outer s H)(hn:h1.Ns s.heap.objs.size λx=>([]:List (Str×Value)).reverse.lookup x)(hk:∀b o,s.heap.get? b=some o->h1.get? b=some o)(cell:∀x c,fd.closure.lookup x=some c->H c=none/\∃v,s.heap.IsCell c v)(val:∀(i:Nat)x v,N[i]?=some x->vs[i]?=some v->∃c u,fd.closure.lookup x=some c/\Ò v u/\s.heap.IsCell c (some u))(hl:vs.length=N.length):Ç (cxL P w K mg base N fd fl A outer s H E) [] (vs.map some) H {s with heap:=h1,toks:=tk}:=by
 have ck:∀c v,s.heap.IsCell c v->h1.IsCell c v:=λc v=>by rintro⟨o,ho,z⟩;exact⟨o,hk c o ho,z⟩
 refine⟨⟨e0.mod,Z.kd,Z.gl,Z.bl,Ü _,Z.nd,λx hx=>?_,λx c z=>(by cases z),λ_=>hd,Around.frames_deeper e0.frames,.inr ⟨O,O⟩,λb z=>absurd (show b∈([]:Ĉ)from z) Ö,e0.bs,e0.bsz,λb _ _ z=>absurd (show b∈([]:Ĉ)from z) Ö,λb z=>absurd (show b∈([]:Ĉ)from z) Ö,e0.funs,e0.frf⟩,O,e0.bare,Un.kept hk,⟨_,hn,λi x v e1 e2 e3=>?_⟩,λx c e=>?_,e0.hok.fresh (Ü _),λx c e=>(cell x c e).1,λp hp=>absurd (show p∈([]:Ň)from hp) Ö,e0.hok.kept hk,by rw[Õ];exact hl⟩
 .rcases hx with hx|hx;.exact absurd O (Z.fr _ (PySem.mem_of_lookup (hx)))
  .exact Z.fl x hx
 .rw[Ą]at e2;cases q:vs[i]? with|none=>rw[q]at e2;cases e2;|some v'=>
   rw[q]at e2;have e2:v'=v:=by simpa using e2
   subst e2;obtain⟨c,u,ec,r,z⟩:=val i x v' e1 q;exact⟨u,r,.inr ⟨.inr (Z.nm x (Α e1)),c,ec,ck c _ z⟩⟩
 .obtain⟨_,v,z⟩:=cell x c e;exact⟨v,ck c v z⟩
theorem Gg{K:Frag}:wK (cxL P w K mg base N fd fl A outer s H E) λa C H'=>E (.ref a) (some C) H':=by
 intro Á σ H' s' a C tb I L9 na fa ft _ q;have dS:s'.heap.FunFrames base (rN fd fl s.heap.objs.size::outer):=I.stack;have mm:(A.deeper (rN fd fl s.heap.objs.size)).frames=some (rN fd fl s.heap.objs.size::outer):=I.ok.frames;have AJ:(rN fd fl s.heap.objs.size).frame=some s.heap.objs.size:=O;have ub:Un (Ď outer) [] H H' s.heap s'.heap:=I.base;have na:s.heap.get? a=none:=na;have ft:∀T,tb=.ref T->s.heap.get? T=none/\H' T=none:=ft;refine wJ mm dS AJ L9 λh' T nT kg k1 k2 k3=>?_;have apart:∀b o,s.heap.get? b=some o->b≠a/\tb≠.ref b:=λb o e=>⟨λz=>(by rw[z,na]at e;cases e),λz=>(by rw[(ft b z).1]at e;cases e)⟩;have L5:∀b o,s.heap.get? b=some o->b∉Ď outer->b∉Ď (rN fd fl s.heap.objs.size::outer):=λb o e hn hm=>by
  unfold Ď at hm;rw[Zay,AJ]at hm;rcases ĩ.mp hm with z|z;.exact absurd (ü e) (by rw[z];exact ź _)
  .exact hn z
 refine⟨a,C,H',T,O,I.os,I.bare,⟨λb o e n hb _=>?_,λb o e n hb _=>?_,ub.free,λb o e hx=>?_,ub.tups,ub.frzs,ub.tbls⟩,λc o e=>?_,na,?_,fa,I.hok.no nT,kg,q⟩;.exact k1 b o (ub.keep b o e n hb Ö) (apart b o e).1 (apart b o e).2 (L5 b o e hb)
 .obtain⟨sl,e1⟩:=ub.slot b o e n hb Ö;obtain⟨kN,e2⟩:=k2 b _ e1 (apart b o e).1 (apart b o e).2;exact⟨kN,e2⟩
 .obtain⟨o',e1⟩:=ub.there b o e hx;exact k3 b o' e1
 .refine(I.hok c o e).stay (λd v hd z=>?_) (λ_ z=>z) λ_ _ z=>z;have EL:∃o',H' d=some o':=by grind
  obtain⟨o',eo⟩:=EL;refine k1 d v z (λy=>(by rw[y,fa]at eo;cases eo)) (λy=>(by rw[(ft d y).2]at eo;cases eo)) λhm=>?_;rw[I.stkFree d hm]at eo;cases eo
 .exact I.was O nT
abbrev NoC(cs:Ň)(H:Hp):Prop:=∀b o,cs.lookup b=some o->H b=none
theorem ο.loose(ES:Ă P w H s.heap)(fr:∀b o,cs.lookup b=some o->H b=some (.frz o (.ext λ_=>True))/\b∉Ď outer)(x:ο P w outer (er H cs) s (λe C H1=>NoC cs H1->E e C (fz H1 cs)) e s'):ο P w outer H s E e s':=by
 obtain⟨a,C,H1,T,rfl,os,bare,un,ok,na,nT,fa,fT,L9,q⟩:=x;obtain⟨u,k⟩:=un.loose ok ES fr;have no:∀b,s.heap.get? b=none->cs.lookup b=none:=λb z=>by cases y:cs.lookup b with|none=>rfl;|some o=>have:=(ES b _ (fr b o y).1).1;rw[z]at this;cases this
 exact⟨a,C,_,T,O,os,bare,u,k,na,nT,by rw[eF (no a na)];exact fa,by rw[eF (no T nT)];exact fT,L9,q λb o z=>un.free b o (ES b _ (fr b o z).1).1 (lZ z) Ö⟩
theorem Ju{K:Frag}{body:Expr}{vs:List V}{cs:Ň}{te:TE}{k:Nat}(Z:ś fd body N)(hr:ï k A)(e0:Ŏ P w K mg base A outer s H)(ET:s.heap.get? fl=some ob)(nK:ob.data=.func fd)(ff:s.heap.CodeRec fd.code fd.qualname)(fr:∀b o,cs.lookup b=some o->H b=some (.frz o (.ext λ_=>True))/\b∉Ď outer)(cell:∀x c,fd.closure.lookup x=some c->∃o v,cs.lookup c=some o/\o.data=.cell v)(val:∀(i:Nat)x v,N[i]?=some x->vs[i]?=some v->∃c u o,fd.closure.lookup x=some c/\Ò v u/\cs.lookup c=some o/\o.data=.cell (some u))(hl:vs.length=N.length)(kP:PE (cxL P w K mg base N fd fl A outer s (er H cs) (λe C H1=>NoC cs H1->E e C (fz H1 cs))) body te)(h:te (vs.map some) (er H cs) λv H1=>NoC cs H1->Q v (fz H1 cs)):codeAny (model P w) A (.call (.ref fl) ⟨[],[]⟩) (CR (ο P w) outer P w H s Q E) s:=by
 have B0:∀b o,cs.lookup b=some o->s.heap.get? b=some o:=λb o q=>(e0.hok b _ (fr b o q).1).1;have QE:∀b,H b=none->er H cs b=none:=λb z=>by cases q:cs.lookup b with|some o=>exact lZ q;|none=>rw[gn q];exact z
 have e1:Ŏ P w K mg base A outer s (er H cs):=⟨e0.frames,e0.mod,λb o e=>⟨(e0.bs b o e).1,QE b (e0.bs b o e).2⟩,e0.bsz,e0.funs,λb hb=>QE b (e0.frf b hb),e0.hok.er λb o q=>(fr b o q).1,e0.bare⟩;refine kla_callFunE (by have:=hr.dp;lia) ET nK Z.co Z.ge Z.bd ff ?_;rw[Z.ba];refine Ú (wpAny_newFunctionEnv Z.fr (λx hx=>absurd hx Ö) (λh1 hn sb=>?_) Z.kd);have hk:∀b o,s.heap.get? b=some o->h1.get? b=some o:=λb o e=>(sb.2 b (Ħ (ü e))).trans (þ _ e);refine⟨(e0.mod.nolimit.keeps λb o e=>(e0.bs b o e).1).keeps hk,?_⟩;have I:=Jt (fl:=fl) (E:=λe C H1=>NoC cs H1->E e C (fz H1 cs)) (tk:=s.toks+0) Z hr.hd e1 hn hk (λx c e=>(let⟨o,v,q,d⟩:=cell x c e;⟨lZ q,v,o,B0 c o q,d⟩)) (λi x v e1 e2=>(let⟨c,u,o,a1,a2,a3,a4⟩:=val i x v e1 e2;⟨c,u,a1,a2,o,B0 c o a3,a4⟩)) hl;refine kla_codeExpr (wpAny_mono (kP [] _ _ _ _ I h) (λu s' hv=>?_) λe s' hx=>?_);.obtain⟨v,H1,J,r,q⟩:=hv;obtain⟨un,k⟩:=Un.loose (fs:=Ď outer) J.base J.hok e0.hok fr;exact⟨v,fz H1 cs,J.os,J.bare,un,k,r,q λb o z=>Un.free (fs:=Ď outer) (ex:=[]) J.base b o (B0 b o z) (lZ z) Ö⟩
 .exact wpAny_mono hx (λ_ l8 z=>ο.loose e0.hok fr z) λe' l8 z=>ο.loose e0.hok fr z
abbrev held(o:Obj):HO:=.frz o (.ext λ_=>True)
structure Ž(H:Hp)(fl:Addr)(fd:FuncData):Prop where
 ob:∃o,H fl=some (held o)/\o.data=.func fd
 cd:∃c oc vs t,fd.code=.ref c/\H c=some (held oc)/\oc.data=.fields vs/\vs[1]?=some (.str fd.qualname t)
def Mu(X:Cx)(i:Nat)(E:XK):TE:=λσ H Q=>∃(fl:Addr)(fd:FuncData)(body:Expr)(N:ð)(vs:List V)(cs:Ň)(te:TE),σ[i]?=some (some (.ref fl))/\Ž H fl fd/\ś fd body N/\(∀b o,cs.lookup b=some o->H b=some (held o))/\(∀x c,fd.closure.lookup x=some c->∃o v,cs.lookup c=some o/\o.data=.cell v)/\(∀(i:Nat)(x:Str)(v:V),N[i]?=some x->vs[i]?=some v->∃c u o,fd.closure.lookup x=some c/\Ò v u/\cs.lookup c=some o/\o.data=.cell (some u))/\vs.length=N.length/\(∀s,PE (cxL X.prog X.w X.K X.mg X.base N fd fl X.A X.stack s (er H cs) (λe C H1=>NoC cs H1->E e C (fz H1 cs))) body te)/\te (vs.map some) (er H cs) λv H1=>NoC cs H1->Q v (fz H1 cs)
theorem Mv{p pos:Pos}(hr:ï k X.A)(hN:X.N[i]?=some x)(hv:Vis X.env.scope x)(W:wK X λa C H=>E (.ref a) (some C) H)(hx:X.ex=[])(hd:Δ x:=by decide)(ff:(x==("__classdict__":Str))=false:=by decide):PE X (.Call (.Name x p) [] [] pos) (Mu X i E):=by
 intro Á s σ H Q I h;obtain⟨fl,fd,body,N,vs,cs,te,Mb,L,Z,fr,cell,val,hl,kP,q⟩:=h;obtain⟨o,ho,nK⟩:=L.ob;have ET:s.heap.get? fl=some o:=(I.hok fl _ ho).1;refine wpAny_Call_Name_kw (Ý (xT (pos:=p) hN hv hd ff Á s σ H (λv H'=>v=.ref fl/\H'=H) I ⟨_,Mb,O,O⟩) λf s1=>?_);rintro⟨v,H1,I1,r1,z1,z2⟩;subst z1 z2;cases(show f=Value.ref fl from r1);have ET:s1.heap.get? fl=some o:=(I1.hok fl _ ho).1;refine callWith_F0 (by obtain⟨oc,od,dt,sl⟩:=o;exact⟨oc,od,fd,sl,by rw[ET];exact congrArg some (by rw[show dt=Data.func fd from nK])⟩) ?_;obtain⟨c,oc,ws,t,ec,hc,Mc,hw⟩:=L.cd;have Vr:s1.heap.CodeRec fd.code fd.qualname:=⟨c,oc,ws,t,ec,(I1.hok c _ hc).1,Mc,hw⟩;refine wpAny_call (codeAny_mono (Ju (k:=k) Z hr I1.env0 ET nK Vr (λb ob e=>⟨fr b ob e,λhm=>?_⟩) cell val hl (kP s1) q) λr s' hq=>?_);.have:=I1.stkFree b hm;rw[fr b ob e]at this;cases this
 .cases r with|error e=>exact Kz W hx Á σ _ s1 e s' I1 hq;|ok kg=>cases kg with|ret u=>exact I1.after hq;|next=>exact False.elim hq;|brk=>exact False.elim hq;|cont=>exact False.elim hq
def Gh(H:Hp)(c:Addr)(q:Str):Prop:=∃oc vs t,H c=some (held oc)/\oc.data=.fields vs/\vs[1]?=some (.str q t)
def ê(H:Hp)(P:Addr)(q:Str):Prop:=∃ps,H P=some (.tbl ps)/\TriplesOk ps.toList/\∀l,codeAmong l ps.toList=none\/∃c,codeAmong l ps.toList=some (.ref c)/\Gh H c q
theorem ê.keep(x:ê H P q)(kp:∀ps,H P=some (.tbl ps)->H' P=some (.tbl ps))(kh:∀b o,H b=some (held o)->H' b=some (held o)):ê H' P q:=by
 obtain⟨ps,e,t,h⟩:=x;refine⟨ps,kp ps e,t,λl=>?_⟩;rcases h l with z|⟨c,z,oc,vs,t',y,r⟩;.exact .inl z
 .exact .inr ⟨c,z,oc,vs,t',kh _ _ y,r⟩
theorem ê.same(x:ê H P q)(s:À H H'):ê H' P q:=x.keep (λ_=>s _ _) λ_ _=>s _ _
theorem Dq:∀a,TriplesOk a->codeAmong l (a++r)=(codeAmong l a).orElse λ_=>codeAmong l r:=λa h=>by fun_induction TriplesOk a with
 |case1=>simp[codeAmong];|case2 x t y u z rest ih=>
  simp only[List.cons_append,codeAmong];split;.rfl
  .exact ih h;|case3 a h1 h2=>exact h.elim
section
variable{T c fl:Addr}
theorem mj(e:h.get? b=some o):Û P w H h b (held o):=⟨e,trivial,⟨o,e⟩,λ_ _ _ _=>trivial⟩
theorem OJ(hT:H T=some (.tbl ps))(ok:Ă P w H h)(k:∀b o,b≠T->h.get? b=some o->h'.get? b=some o)(hp:h'.get? T=some (tabObj (ps++more)))(hc:h.objs.size<=c)(hf:h.objs.size<=fl)(hcf:c≠fl)(ec:h'.get? c=some oc)(ef:h'.get? fl=some ob):Un fs [] H (upd (upd (upd H T (.tbl (ps++more))) c (held oc)) fl (held ob)) h h'/\Ă P w (upd (upd (upd H T (.tbl (ps++more))) c (held oc)) fl (held ob)) h':=by
 have nc:=ok.fresh hc;have nf:=ok.fresh hf;have lt:∀b u,H b=some u->b≠c/\b≠fl:=λb u e=>⟨aA e nc,aA e nf⟩;have nE:∀b u,b≠T->H b=some u->upd (upd (upd H T (.tbl (ps++more))) c (held oc)) fl (held ob) b=some u:=λb u n e=>by rw[au (lt b u e).2,au (lt b u e).1,au n];exact e
 have atT:upd (upd (upd H T (.tbl (ps++more))) c (held oc)) fl (held ob) T=some (.tbl (ps++more)):=by rw[au (lt T _ hT).2,au (lt T _ hT).1,aj]
 have old:∀b o,h.get? b=some o->b≠c/\b≠fl:=λb o e=>⟨Ħ (ļ (ü e) hc),Ħ (ļ (ü e) hf)⟩;refine⟨⟨λb o e n _ _=>k b o (λz=>(by rw[z,hT]at n;cases n)) e,λb o e n _ _=>⟨o.slots,k b o (λz=>(by rw[z,hT]at n;cases n)) e⟩,λb o e n _=>?_,λb o e _=>?_,λb xs e=>nE b _ (λz=>(by rw[z,hT]at e;cases e)) e,λb o u e=>nE b _ (λz=>(by rw[z,hT]at e;cases e)) e,λb qs e=>?_⟩,λb u e=>?_⟩;.rw[au (old b o e).2,au (old b o e).1,au λz=>(by rw[z,hT]at n;cases n)];exact n
 .by_cases z:b=T;.rw[z];exact⟨_,hp⟩
  .exact⟨o,k b o z e⟩
 .by_cases z:b=T;.subst z;rw[hT]at e;cases e;exact⟨more,atT⟩
  .exact⟨#[],by rw[Array.append_empty];exact nE b _ z e⟩
 .by_cases z1:b=fl;.subst z1;rw[aj]at e;cases e;exact mj ef
  .rw[au z1]at e;by_cases z2:b=c;.subst z2;rw[aj]at e;cases e;exact mj ec
   .rw[au z2]at e;by_cases z3:b=T;.subst z3;rw[aj]at e;cases e;exact hp
    .rw[au z3]at e;refine(ok b u e).stay (λd v hd q=>k d v (λy=>?_) q) (λd q=>nE d _ (λy=>(by rw[y,hT]at q;cases q)) q) λd xs q=>nE d _ (λy=>(by rw[y,hT]at q;cases q)) q;subst y;rcases hd with y|y;.exact z3 y.symm
     .rw[hT]at y;cases y
end
def tMk(T:Addr)(q:Str)(params:Arguments)(body:Expr)(scope:Scope)(cl:List (Str×Addr))(N:ð):TE:=λ_ H Q=>ê H T q/\∀fl pm cv ct H1,(∀b o,b≠T->H b=some o->H1 b=some o)->ê H1 T q->H fl=none->Ž H1 fl (kla_fn "<lambda>" q params body scope cl pm cv ct)->ś (kla_fn "<lambda>" q params body scope cl pm cv ct) body N->Q (.ref fl) H1
structure Z13(X:Cx)(params:Arguments)(body:Expr)(scope:Scope)(N:ð):Prop where
 df:defaultsOf params X.env=([],[])kd:scope.kind=.function
 co:scope.isCoroutine=false
 ge:scope.isGenerator=false
 fr:∀p∈scope.names,p.2≠.cell
 fl:∀p∈scope.names,p.2=NameKind.free->X.env.kindOf p.1=some .cell\/X.env.kindOf p.1=some .free
 ba:∀qual cl pm cv ct,bindArgs (kla_fn "<lambda>" qual params body scope cl pm cv ct) ⟨[],[]⟩=pure []nm:∀x∈N,scope.names.lookup x=some .free
theorem Gi(Z:Z13 X params body scope N)(gu:X.env.code=.ref cc)(hC:CodeHd X.base cc T)(hB:X.base.BuiltinsAt X.mg T):PE X (.Lambda params body scope cq) (tMk T (X.env.qual++"<lambda>") params body scope (cG X.env.cells scope.names []) N):=by
 intro Á s σ H Q I h;obtain⟨⟨ps,hT,tr,am⟩,q⟩:=h;have hs:∀p∈scope.names,p.2=NameKind.free->(X.env.cells.lookup p.1).isSome=true:=λp hp e=>by obtain⟨c,z⟩:=I.ok.has p.1 (Z.fl p hp e);rw[z];rfl
 have lam:∀qual pm cv ct,ś (kla_fn "<lambda>" qual params body scope (cG X.env.cells scope.names []) pm cv ct) body N:=λqual pm cv ct=>⟨O,O,O,Z.kd,Z.co,Z.ge,Z.fr,λx hx=>ji _ _ (.inl ⟨_,PySem.mem_of_lookup hx,O⟩),λx y c h1 h2=>by
   rcases iH _ _ hs h1 with z|z;.cases z
   .rcases iH _ _ hs h2 with z2|z2;.cases z2
    .exact I.ok.inj x y c z z2,Z.ba _ _ _ _ _,Z.nm⟩;have hg:=I.mod.glob.keeps I.bk;have hP:s.heap.get? T=some (tabObj ps):=I.hok T _ hT;have Vs:mainGlobals≠T:=λz=>by obtain⟨o,es,ep,e,_⟩:=I.mod.glob;have:=(I.bs _ _ e).2;rw[z,hT]at this;cases this
 have hb:s.heap.BuiltinsAt X.mg T:=by obtain⟨bm,o,b1,b2,b3,b4,b5,r⟩:=hB;exact⟨bm,o,b1,b2,b3,b4,I.bk _ _ b5,r⟩
 refine kla_eval Z.df ?_;rcases am cq with hn|⟨c,hf,oc,vs,t,hc,hd,hv⟩
 .refine kla_makeFunction (mg:=X.mg) (lA hs) I.ok.glob hg gu (hC.keeps I.bk) hP tr hn Vs hb λc' sx h' tk hx kR aI Md EU=>?_;obtain⟨c₂,oc,vs,t,e2,GO,hd,hv⟩:=Md;cases e2;obtain⟨un,ok⟩:=OJ (P:=X.prog) (w:=X.w) (fs:=Ď X.stack) (h':=h'.push (kla_obj "<lambda>" (X.env.qual++"<lambda>") params body scope (cG X.env.cells scope.names []) ((X.mg "__name__").getD .none) c' sx)) (fl:=h'.objs.size) hT I.hok (λb o n e=>þ _ (hx b o n e)) (þ _ EU) kR (Ņ kR (Zbe aI)) (Ħ aI) (þ _ GO) (Ĩ _ O);have J:=I.call (ch:=[]) (g':=s.gens) (t':=tk) (d':=s.drawn) un ok I.bare λb z=>absurd z Ö;have nc:H c'=none:=I.hok.fresh kR;have nf:H h'.objs.size=none:=I.hok.fresh (Ņ kR (Zbe aI));have kp:∀b o,b≠T->H b=some o->upd (upd (upd H T (.tbl (ps++#[rawInt cq.line,rawInt cq.col,.ref c']))) c' (held oc)) h'.objs.size (held (kla_obj "<lambda>" (X.env.qual++"<lambda>") params body scope (cG X.env.cells scope.names []) ((X.mg "__name__").getD .none) c' sx)) b=some o:=λb o n e=>by rw[au (aA e nf),au (aA e nc),au n];exact e
  have cd:Gh (upd (upd (upd H T (.tbl (ps++#[rawInt cq.line,rawInt cq.col,.ref c']))) c' (held oc)) h'.objs.size (held (kla_obj "<lambda>" (X.env.qual++"<lambda>") params body scope (cG X.env.cells scope.names []) ((X.mg "__name__").getD .none) c' sx))) c' (X.env.qual++"<lambda>"):=⟨oc,vs,t,by rw[au (Ħ aI),aj],hd,hv⟩;refine⟨.ref h'.objs.size,_,J,O,q _ ((X.mg "__name__").getD .none) (.ref c') sx _ kp ⟨ps++#[rawInt cq.line,rawInt cq.col,.ref c'],?_,?_,λl=>?_⟩ nf ⟨⟨_,aj,O⟩,?_⟩ (lam _ _ _ _)⟩;.rw[au (aA hT nf),au (aA hT nc),aj]
  .rw[Zal];exact TriplesOk_snoc _ _ _ _ tr
  .rw[Zal,Dq _ tr];rcases am l with z|⟨c,z,Vt,L7,t2,y,r⟩
   .rw[z];show codeAmong l [rawInt cq.line,rawInt cq.col,.ref c']=none\/_;simp only[codeAmong,rawInt];by_cases e:((cq.line:Int)==(l.line:Int)&&(cq.col:Int)==(l.col:Int))=true;.refine .inr ⟨c',?_,cd⟩;show codeAmong l [rawInt cq.line,rawInt cq.col,.ref c']=some (.ref c');simp only[codeAmong,rawInt];rw[Ì e]
    .refine .inl ?_;rw[Ê e]
   .rw[z];exact .inr ⟨c,O,Vt,L7,t2,kp _ _ (λw'=>by rw[w',hT]at y;cases y) y,r⟩
  .obtain⟨Vu,Vv,t3,a1,a2,a3⟩:=cd;exact⟨c',Vu,Vv,t3,O,a1,a2,a3⟩
 .refine kla_makeFunctionHit (mg:=X.mg) (lA hs) I.ok.glob hg gu (hC.keeps I.bk) hP tr hf hb λsx h' tk hk hsz=>?_;have J:=I.laid (a:=h'.objs.size) (o:=held (kla_obj "<lambda>" (X.env.qual++"<lambda>") params body scope (cG X.env.cells scope.names []) ((X.mg "__name__").getD .none) c sx)) (h':=h'.push (kla_obj "<lambda>" (X.env.qual++"<lambda>") params body scope (cG X.env.cells scope.names []) ((X.mg "__name__").getD .none) c sx)) (t':=tk) (λb u e=>þ _ (hk b u e)) hsz (mj (Ĩ _ O));have nf:H h'.objs.size=none:=I.hok.fresh hsz;have kp:À H (upd H h'.objs.size (held (kla_obj "<lambda>" (X.env.qual++"<lambda>") params body scope (cG X.env.cells scope.names []) ((X.mg "__name__").getD .none) c sx))):=λb o e=>by rw[au (aA e nf)];exact e
  exact⟨.ref h'.objs.size,_,J,O,q _ ((X.mg "__name__").getD .none) (.ref c) sx _ (λb o _ e=>kp b o e) (ê.same ⟨ps,hT,tr,am⟩ kp) nf ⟨⟨_,aj,O⟩,c,oc,vs,t,O,kp _ _ hc,hd,hv⟩ (lam _ _ _ _)⟩
structure Œ(cl:List (Str×Addr))(N:ð)(vs:List V)(H:Hp)(cs:Ň):Prop where
 no:∀b o,cs.lookup b=some o->H b=none
 cell:∀x c,cl.lookup x=some c->∃o v,cs.lookup c=some o/\o.data=.cell v
 val:∀(i:Nat)x v,N[i]?=some x->vs[i]?=some v->∃c u o,cl.lookup x=some c/\Ò v u/\cs.lookup c=some o/\o.data=.cell (some u)
theorem P0:∀{l:Ň},l.lookup b=some o->(b,o)∈l|[],e=>by cases e;|(a,x)::r,e=>by rw[Za1]at e;cases z:b==a with|true=>rw[z]at e;cases e;rw[eq_of_beq z];exact .head _;|false=>rw[z]at e;exact .tail _ (P0 e)
theorem tQ:∀{fp:Ĉ},(dX fp h).lookup b=some o->b∈fp/\h.get? b=some o:=λ{fp}e=>mZ (p:=(b,o)) (P0 e)
theorem kE(e:h.get? b=some o):∀{fp:Ĉ},b∈fp->(dX fp h).lookup b=some o
 |[],z=>absurd z Ö|a::r,z=>by
  have un:dX (a::r) h=match(h.get? a).map (λo=>(a,o))with|some p=>p::dX r h|none=>dX r h:=by unfold dX;rw[Zay];cases(h.get? a).map (λo=>(a,o))<;>rfl
  rw[un];by_cases y:b=a;.subst y;rw[e];show List.lookup b ((b,o)::dX r h)=_;rw[Za1,beq_self_eq_true]
  .have ih:=kE e (fp:=r) ((ĩ.mp z).resolve_left y);cases q:h.get? a with|none=>exact ih;|some o'=>show List.lookup b ((a,o')::dX r h)=_;rw[Za1,show(b==a)=false by simpa using y];exact ih
theorem wQ:∀l acc,q∈cG cells l acc->q∈acc\/∃k,(q.1,k)∈l/\k=NameKind.free/\q.2=(cells.lookup q.1).getD 0
 |[],_,h=>.inl h|(n,k)::r,acc,h=>by
  have h':q∈cG cells r (if k=.free then(n,(cells.lookup n).getD 0)::acc else acc):=h;rcases wQ r _ h' with e|⟨k',e1,e2⟩
  .by_cases hk:k=.free
   .rw[Ì hk]at e;rcases ĩ.mp e with z|z;.cases z;exact .inr ⟨k,Zao,hk,O⟩
    .exact .inl z
   .rw[Ê hk]at e;exact .inl e
  .exact .inr ⟨k',Zaj _ e1,e2⟩
def KC(sp:Sp)(N:ð)(ix:List Nat)(cl:List (Str×Addr))(te:TE):TE:=λσ H Q=>te σ H λv H1=>∃vs:List V,vs.length=N.length/\(∀(j i:Nat)u,ix[j]?=some i->vs[j]?=some u->σ[i]?=some (some u))/\∀cs,Œ cl N vs H1 cs->sp [v] (fz H1 cs) (λv H2=>Q v (er H2 cs)) E0
theorem Jv{p pos:Pos}{scope:Scope}(F:Ñ X.prog X.w X.K X.mg X.base å k f fd [y] sp)(hr:ï k X.A)(hg:Gl X x)(hm:X.mg x=some (.ref f))(hk:PySem.W.keepIn X.K (.ref f)=true)(hb:û X.K fd [y] [])(hx:X.ex=[])(hp:∀p∈scope.names,p.2=NameKind.free->X.env.kindOf p.1=some .cell/\X.fn p.1=true)(hN:∀(j:Nat)x,N[j]?=some x->∃i,ix[j]?=some i/\X.N[i]?=some x/\scope.names.lookup x=some .free)(ha:PE X arg te)(fy:Δ x:=by decide)(he:starEach [arg] X.env=(false,eval arg X.env)::starEach [] X.env:=by rfl)(fw:(backTo pos (starEach [] X.env)).any (·.1)=false:=by rfl):PE X (.Call (.Name x p) [arg] [] pos) (KC sp N ix (cG X.env.cells scope.names []) te):=by
 intro Á s σ H Q I h;refine wpAny_Call_Name_kw (jB I hg hm ?_ fy);refine PySem.W.callWith_K (h₀:=X.base) I.ok.mod.kin hk (Ý (aR ha ao he pos Á s σ H (λvs H1=>∃ws:List V,ws.length=N.length/\(∀(j i:Nat)(u:V),ix[j]?=some i->ws[j]?=some u->σ[i]?=some (some u))/\∀cs,Œ (cG X.env.cells scope.names []) N ws H1 cs->sp vs (fz H1 cs) (λv H2=>Q v (er H2 cs)) E0) I h) λus s1 z=>?_) he fw;obtain⟨vs,H1,I1,r,ws,hw,ij,q⟩:=z;refine⟨I1.kIn,?_⟩;have hs:∀p∈scope.names,p.2=NameKind.free->(X.env.cells.lookup p.1).isSome=true:=λp ki e=>by obtain⟨c,z⟩:=I1.ok.has p.1 (.inl (hp p ki e).1);rw[z];rfl
 have sub:∀x c,(cG X.env.cells scope.names []).lookup x=some c->X.env.cells.lookup x=some c:=λx c e=>by
  rcases iH _ _ hs e with z|z;.cases z
  .exact z
 have at':∀b∈(cG X.env.cells scope.names []).map (·.2),∃x,X.env.cells.lookup x=some b/\X.fn x=true:=λb eI=>by
  obtain⟨q',Me,rfl⟩:=ó.mp eI;rcases wQ _ _ Me with z|⟨k',eR,rfl,e⟩;.cases z
  .obtain⟨c,hc⟩:=Za0.mp (hs _ eR O);refine⟨q'.1,?_,(hp _ eR O).2⟩;rw[e,show X.env.cells.lookup q'.1=some c from hc];rfl
 obtain⟨cs,HP⟩:∃cs,cs=dX ((cG X.env.cells scope.names []).map (·.2)) s1.heap:=⟨_,O⟩;have QI:∀x c,(cG X.env.cells scope.names []).lookup x=some c->c∈(cG X.env.cells scope.names []).map (·.2):=λx c e=>ó.mpr ⟨(x,c),PySem.mem_of_lookup e,O⟩;have L:ξ H1 s1.heap (Ď X.stack) cs:=λb o e=>by
  rw[HP]at e;obtain⟨eI,e'⟩:=tQ e;obtain⟨x',cE,qV⟩:=at' b eI;refine⟨e',I1.freeC x' b cE,λz=>?_⟩;rcases ĩ.mp (I1.stkSub b z)with y'|y';.exact I1.cne x' b cE y'
  .obtain⟨_,o',kM,_⟩:=I1.ok.funs.mem y';exact absurd (ļ (ü kM) (I1.ok.cab x' b qV cE)) (ź _)
 have C:Œ (cG X.env.cells scope.names []) N ws H1 cs:=by
  refine⟨λb o e=>(L b o e).2.1,λx' c e=>?_,λi x' v e1 e2=>?_⟩;.obtain⟨v,o,ho,hd⟩:=I1.cell x' c (sub x' c e);exact⟨o,v,by rw[HP];exact kE ho (QI x' c e),hd⟩
  .obtain⟨j,e3,e4,e5⟩:=hN i x' e1;obtain⟨m,hn,hl⟩:=I1.loc;have QN:=(hp (x',.free) (PySem.mem_of_lookup e5) O).1;obtain⟨u,ru,lk⟩:=hl j x' v e4 (ij i j v e3 e2) (.inr (.inl QN));rcases lk with⟨kl,_⟩|⟨_,c,ec,o,ho,hd⟩;.rw[QN]at kl;cases kl
   .obtain⟨c',bp⟩:=ji (cells:=X.env.cells) (x:=x') scope.names [] (.inl ⟨_,PySem.mem_of_lookup e5,O⟩);have:=sub x' c' bp;rw[ec]at this;cases this;exact⟨c,u,o,bp,ru,by rw[HP];exact kE ho (QI x' c bp),hd⟩
 have q:=q cs C;have hok:=I1.hok.fz L;have e0:Ŏ X.prog X.w X.K X.mg X.base X.A X.stack s1 (fz H1 cs):=by
  have e1:=I1.env0;refine⟨e1.frames,e1.mod,λb o e=>⟨(e1.bs b o e).1,?_⟩,e1.bsz,e1.funs,λb eI=>?_,hok,e1.bare⟩;.cases z:cs.lookup b with|none=>rw[eF z];exact(e1.bs b o e).2;|some o'=>have z':=z;rw[HP]at z';obtain⟨x',cE,qV⟩:=at' b (tQ z').1;exact absurd (ļ (ü (I1.ok.bs b o e).1) (I1.ok.cab x' b qV cE)) (ź _)
  .cases z:cs.lookup b with|none=>rw[eF z];exact e1.frf b eI;|some o'=>exact absurd eI (L b o' z).2.2
 have hl:(us++[]).length=[y].length:=by rw[ş,<-r.length];exact F.len _ _ _ _ q
 have EN:=hb s1 us I1.kIn hl;rw[ş]at EN;refine wpAny_call (codeAny_mono (F.run X.A X.stack s1 (fz H1 cs) ⟨us,[]⟩ us vs _ E0 hr e0 EN r q) λrr s' hq=>?_);cases rr with|error e=>exact(show False from hq).elim;|ok fl=>cases fl with|ret u=>obtain⟨v,H2,os,bare,un,nv,rv,qq⟩:=hq;obtain⟨un',rS,_⟩:=un.held nv L;exact I1.after (Q:=Q) ⟨v,er H2 cs,os,bare,un',rS,rv,qq⟩;|next=>exact False.elim hq;|brk=>exact False.elim hq;|cont=>exact False.elim hq
def KD(scope sc:Scope)(NX N:ð)(ix:List Nat):Bool:=decide (scope.kind=.function)&&!scope.isCoroutine&&!scope.isGenerator&&scope.names.all (λp=>decide (p.2≠NameKind.cell)&&(decide (p.2≠NameKind.free)||decide (sc.names.lookup p.1=some NameKind.cell)))&&(N.zip ix).all (λq=>decide (NX[q.2]?=some q.1)&&decide (scope.names.lookup q.1=some NameKind.free))&&decide (N.length=ix.length)
theorem Gj{p pos cq:Pos}(F:Ñ X.prog X.w X.K X.mg X.base å k f fd [y] sp)(hr:ï k X.A)(hg:Gl X x)(hm:X.mg x=some (.ref f))(hk:PySem.W.keepIn X.K (.ref f)=true)(hb:û X.K fd [y] [])(hx:X.ex=[])(qV:∀x,X.fn x=true)(gu:X.env.code=.ref cc)(hC:CodeHd X.base cc T)(hB:X.base.BuiltinsAt X.mg T)(Vw:X.env.scope=sc)(Vx:X.N=NX)(zk:defaultsOf params X.env=([],[]))(Vy:∀qual cl pm cv ct,bindArgs (kla_fn "<lambda>" qual params body scope cl pm cv ct) ⟨[],[]⟩=pure [])(ok:KD scope sc NX N ix=true)(fy:Δ x:=by decide)(he:starEach [.Lambda params body scope cq] X.env=(false,eval (.Lambda params body scope cq) X.env)::starEach [] X.env:=by rfl)(fw:(backTo pos (starEach [] X.env)).any (·.1)=false:=by rfl):PE X (.Call (.Name x p) [.Lambda params body scope cq] [] pos) (KC sp N ix (cG X.env.cells scope.names []) (tMk T (X.env.qual++"<lambda>") params body scope (cG X.env.cells scope.names []) N)):=by
 subst Vw Vx;unfold KD at ok;simp only[Bool.and_eq_true,č,Bool.not_eq_true',List.all_eq_true,Bool.or_eq_true]at ok;obtain⟨⟨⟨⟨⟨kd,co⟩,ge⟩,QO⟩,zs⟩,hl⟩:=ok;have kc:∀p∈scope.names,p.2=NameKind.free->X.env.kindOf p.1=some .cell:=λp hp e=>by
  rcases(QO p hp).2 with z|z;.exact absurd e z
  .exact z
 have hz:∀(j:Nat)(x:Str),N[j]?=some x->∃i,ix[j]?=some i/\X.N[i]?=some x/\scope.names.lookup x=some .free:=λj x e=>by have hj:=(Ķ.mp e).1;have e2:ix[j]?=some (ix[j]'Â):=á Â;have:=zs (x,ix[j]'Â) (Α (i:=j) (by rw[List.getElem?_zip_eq_some];exact⟨e,e2⟩));exact⟨_,e2,this.1,this.2⟩
 refine Jv F hr hg hm hk hb hx (λp hp e=>⟨kc p hp e,qV _⟩) hz (Gi ⟨zk,kd,co,ge,λp hp=>(QO p hp).1,λp hp e=>.inl (kc p hp e),Vy,λx hx=>?_⟩ gu hC hB) fy he fw;obtain⟨j,e⟩:=List.mem_iff_getElem?.mp hx;obtain⟨_,_,_,z⟩:=hz j x e;exact z
theorem æ.okC{K:Frag}{st:Stmt}{f cc:Addr}{fd:FuncData}{N ps:ð}{k:Nat}{sp:Sp}(F:æ K x qual st f fd)(hc:fd.code=.ref cc)(S:Ã N ps (aD st))(len:∀vs H Q E,sp vs H Q E->vs.length=ps.length)(aS:∀A outer s H vs Q E,ï k (A.deeper (envOfC qual (aD st) s.heap.objs.size f (.ref cc)))->sp vs H Q E->∃t,Ō (jg å P w K mg base N qual (aD st) f (.ref cc) A outer s H E).nox (cZ st) t/\t {nx:=λ_ H'=>Q .non H',rt:=Q} (start N vs) H):Ñ P w K mg base å (k+1) f fd ps sp:=by obtain⟨oc,od,kV,doc,pm,an,ar,ct,l9,rfl,lk,ff⟩:=F.ex;subst hc;refine Ex lk ff S len λA outer s H vs Q E hr iA=>?_;obtain⟨t,h,q⟩:=aS A outer s H vs Q E hr iA;exact⟨t,h.nox,q⟩
theorem æ.oqC{K:Frag}{st:Stmt}{f cc:Addr}{fd:FuncData}{N ps:ð}{k:Nat}{sp:Sp}(F:æ K x qual st f fd)(hc:fd.code=.ref cc)(S:Ã N ps (aD st))(aS:∀A outer s H vs Q E,ï k (A.deeper (envOfC qual (aD st) s.heap.objs.size f (.ref cc)))->sp vs H Q E->∃t,Ō (jg å P w K mg base N qual (aD st) f (.ref cc) A outer s H E).nox (cZ st) t/\t {nx:=λ_ H'=>Q .non H',rt:=Q} (start N vs) H)(len:ϭ sp ps:=by exact{}):Ñ P w K mg base å (k+1) f fd ps sp:=F.okC hc S len.h aS
section
mutual
theorem Ó.kp(k:∀b o,(∀ps,o≠HO.tbl ps)->(∀ob u,o≠HO.frz ob u)->H b=some o->H' b=some o)(hS:∀b o,(∀ps,o≠HO.tbl ps)->(∀ob u,o≠HO.frz ob u)->S b->H b=some o->S' b):∀{v:V}{d:PyData},Ó S H v d->Ó S' H' v d|_,_,.non=>.non|_,_,.bl b=>.bl b|_,_,.int i=>.int i|_,_,.str x=>.str x|_,_,.lst s e r=>.lst (hS _ _ (λ_ z=>by cases z) (λ_ _ z=>by cases z) s e) (k _ _ (λ_ z=>by cases z) (λ_ _ z=>by cases z) e) (Å.kp k hS r)|_,_,.tup e r=>.tup (k _ _ (λ_ z=>by cases z) (λ_ _ z=>by cases z) e) (Å.kp k hS r)|_,_,.dct s e=>.dct (hS _ _ (λ_ z=>by cases z) (λ_ _ z=>by cases z) s e) (k _ _ (λ_ z=>by cases z) (λ_ _ z=>by cases z) e)
theorem Å.kp(k:∀b o,(∀ps,o≠HO.tbl ps)->(∀ob u,o≠HO.frz ob u)->H b=some o->H' b=some o)(hS:∀b o,(∀ps,o≠HO.tbl ps)->(∀ob u,o≠HO.frz ob u)->S b->H b=some o->S' b):∀{vs:List V}{ds:Ģ},Å S H vs ds->Å S' H' vs ds|_,_,.nil=>.nil|_,_,.cons h t=>.cons (Ó.kp k hS h) (Å.kp k hS t)
end
theorem Ó.tbl(h:Ó S H v d)(t:ê H T q)(k:∀b o,b≠T->H b=some o->H' b=some o):Ó S H' v d:=h.kp (λb o n1 _ e=>k b o (λz=>by obtain⟨ps,y,_⟩:=t;rw[z,y]at e;cases e;exact n1 _ O) e) λ_ _ _ _ s _=>s
theorem Pa(no:NoC cs H):er (fz H cs) cs=H:=by funext b;cases q:cs.lookup b with|some o=>rw[lZ q,no b o q];|none=>rw[gn q,eF q]
theorem À.fz(s:À H H'):À (L2.fz H cs) (L2.fz H' cs):=λb o e=>by cases q:cs.lookup b with|some u=>rw[tM q]at e⊢;exact e;|none=>rw[eF q]at e⊢;exact s b o e
theorem Av(s:À (fz H cs) H1)(n:∀ob u,o≠HO.frz ob u)(e:H1 b=some o):er H1 cs b=some o:=by cases q:cs.lookup b with|some u=>rw[s b _ (tM q)]at e;cases e;exact absurd O (n _ _);|none=>rw[gn q];exact e
theorem À.er(s:À (L2.fz H cs) H1)(no:NoC cs H):À H (L2.er H1 cs):=λb o e=>by cases q:cs.lookup b with|some u=>rw[no b u q]at e;cases e;|none=>rw[gn q];exact s b o (by rw[eF q];exact e)
end
theorem Ds{K:Frag}{sp:Sp}{s₁:Shared}{vs:ā}{ns:WF}(KX:K.In s₁.heap)(MA:s₁.heap.Ns mainGlobals mg)(hb:s₁.heap.Ns builtinsNs mb)(Vz:∀x:Str,x≠"__name__"->mb x=bootBuiltins x)(MB:s₁.heap.NoLimit)(hg:s₁.gens=#[])(hC:CodeHd s₁.heap c T)(hT:s₁.heap.get? T=some (tabObj #[]))(hK:noTabs K=true)(bmain:∃bm ob,mg "__builtins__"=some (.ref bm)/\bm≠builtinsNs/\s₁.heap.get? bm=some ob/\ob.cls=.type "module"/\ob.dict=some builtinsNs/\ob.data=.plain)(ha:s₁.heap.get? a=some {cls:=.type "list",data:=.seq vs.toArray})(hi:IntsAre vs ns)(hl:ns.length<=sizeLine)(hr:ï k callerA)(F:∀base,K.In base->base.Ns mainGlobals mg->CodeHd base c T->base.BuiltinsAt mg T->Ñ P w K mg base CX k fa fd [x] sp)(EV:∀s u,BindsTo s fd ⟨[u],[]⟩ [(x,u)])(iA:∀H,É K H a (ns.map V.int)->ê H T qn->sp [.ref a] H (λv _=>v=.bl true) λ_ _ _=>False)(MC:∀H e s',CX [] H s₁ (λ_ _ _=>False) e s'->False):codeAny (model P w) callerA (.call (.ref fa) ⟨[.ref a],[]⟩) (λr s'=>r=.ok (.ret (.bool true))/\OldK s₁.heap s'.heap/\s'.os=s₁.os/\AllBare s'.gens) s₁:=by
 have rv:=nu hi;have MD:=hi.length;have neT:a≠T:=λz=>by rw[z,hT]at ha;cases ha
 have VA:K.lookup T=none:=by cases e:K.lookup T with|none=>rfl;|some o=>have h1:=KX _ _ e;rw[hT]at h1;cases h1;have h2:=ņ.mp hK _ (mem_of_lookupK e);exact absurd (show false=true from h2) š
 have core:∀H:Hp,H T=some (.tbl #[])->(∀b,b≠T->H b=none\/∃o xs,H b=some (.frz o (.lst xs)))->É K H a (ns.map V.int)->Ă P w H s₁.heap->(∀b,H b≠none->b=a\/b=T)->(H a≠none->K.lookup a=none)->codeAny (model P w) callerA (.call (.ref fa) ⟨[.ref a],[]⟩) (λr s'=>r=.ok (.ret (.bool true))/\OldK s₁.heap s'.heap/\s'.os=s₁.os/\AllBare s'.gens) s₁:=by
  intro H eT hO hS hok hA VB;have fe:∀{b:Addr}{o:Obj},s₁.heap.get? b=some o->H b=none->(pN s₁.heap H).get? b=some o:=λe n=>Ek e n;have apart:∀{b:Addr}{o:Obj},s₁.heap.get? b=some o->(∀Æ n,o.data≠.seq Æ n)->o.cls≠.none->H b=none:=λ{b o}e h1 h2=>by grind
  have DS:∀{b:Addr}{o:Obj}{es:Array DictEntry}{ep:Nat},s₁.heap.get? b=some o->o.data=.dict es ep->H b=none:=λ{b o es ep}e d=>by cases q:H b with|none=>rfl;|some u=>
    rcases hA b (by rw[q];simp)with z|z;.rw[z,ha]at e;cases e;cases d
    .rw[z,hT]at e;cases e;cases d
  have HU:∀{b:Addr}{m:ŋ},s₁.heap.Ns b m->(pN s₁.heap H).Ns b m:=λ{b m}⟨o,es,ep,e,d,r⟩=>⟨o,es,ep,fe e (DS e d),d,r⟩;have QP:K.In (pN s₁.heap H):=λb o e=>fe (KX b o e) (by cases q:H b with|none=>rfl;|some u=>
    rcases hA b (by rw[q];simp)with z|z;.subst z;rw[VB (by rw[q];simp)]at e;cases e
    .rw[z,VA]at e;cases e);have hM:Mod K mg (pN s₁.heap H):=⟨QP,HU MA,⟨mb,HU hb,Vz⟩,let⟨mc,h1,h2⟩:=MB;⟨mc,HU h1,h2⟩⟩;have e0:Ŏ P w K mg (pN s₁.heap H) callerA [] s₁ H:=⟨O,hM,λb o e=>Ip e,Nat.le_of_eq (Cj _ _),trivial,λb hb=>absurd (show b∈([]:Ĉ)from hb) Ö,hok,.of_eq hg⟩;have VC:CodeHd (pN s₁.heap H) c T:=by obtain⟨o,VD,file,tf,flags,tg,EA,text,tt,e,h1,h2,r⟩:=hC;exact⟨o,VD,file,tf,flags,tg,EA,text,tt,fe e (apart e (λÆ n z=>by rw[h2]at z;cases z) λz=>by rw[h1]at z;cases z),h1,h2,r⟩
  have VF:(pN s₁.heap H).BuiltinsAt mg T:=by
   obtain⟨bm,ob,b1,b2,b3,b4,b5,b6⟩:=bmain;refine⟨bm,ob,b1,b2,λz=>?_,λz=>?_,fe b3 (apart b3 (λÆ n z=>by rw[b6]at z;cases z) λz=>by rw[b4]at z;cases z),b4,b5,b6⟩;.obtain⟨o,es,ep,e,d,_⟩:=MA;rw[z,e]at b3;cases b3;rw[d]at b6;cases b6
   .rw[z,hT]at b3;cases b3;cases b4
  refine codeAny_mono ((F _ QP (HU MA) VC VF).run callerA [] s₁ H ⟨[.ref a],[]⟩ [.ref a] [.ref a] _ _ hr e0 (EV s₁ (.ref a)) (.cons O .nil) (iA H hS ⟨#[],eT,trivial,λl=>.inl O⟩)) λr s' h=>?_;cases r with|error e=>exact(MC H e s' h).elim;|ok fl=>cases fl with|next=>exact False.elim h;|brk=>exact False.elim h;|cont=>exact False.elim h;|ret u=>
    obtain⟨v,H',os,bare,un,EW,r',q⟩:=h;have q':v=.bl true:=q;subst q';obtain rfl:u=Value.bool true:=r';have kept:∀b o,b≠T->s₁.heap.get? b=some o->s'.heap.get? b=some o:=λb o nb e=>by
     rcases hO b nb with z|⟨ob,xs,z⟩;.exact un.keep b o e z (by intro z;exact absurd (show b∈([]:Ĉ)from z) Ö) Ö
     .have z2:=un.frzs b ob _ z;obtain⟨e1,_⟩:=hok b _ z;obtain⟨e2,_⟩:=EW b _ z2;rw[e]at e1;cases e1;exact e2
    obtain⟨more,VG⟩:=un.tbls T #[] eT;have QU:s'.heap.get? T=some (tabObj (#[]++more)):=EW T _ VG;refine⟨O,⟨λb o e=>?_,λb o e=>?_⟩,os,bare⟩
    .by_cases z:b=T;.subst z;rw[hT]at e;cases e;exact .inr (.inl ⟨(hC.tab hT).isCodeTable,O,#[],more,O,QU⟩)
     .exact .inl (kept b o z e)
    .by_cases z:b=T;.rw[z];exact⟨_,QU⟩
     .exact⟨o,kept b o z e⟩
 cases hk:K.lookup a with|some o=>
  have e:=KX a o hk;rw[ha]at e;cases e;refine core (λb=>if b=T then some (.tbl #[])else none) (Ì O) (λb nb=>.inl (Ê nb)) (.inr ⟨_,vs.toArray,_,hk,O,O,O,by rw[ċ,MD];exact hl,by simpa using rv⟩) (λb u z=>?_) (λb z=>?_) λz=>absurd (Ê neT) z
  .by_cases eI:b=T;.have z':=(Ì eI).symm.trans z;cases z';subst eI;exact hT
   .have z':=(Ê eI).symm.trans z;cases z'
  .by_cases eI:b=T;.exact .inr eI
   .exact absurd (Ê eI) z;|none=>
  refine core (λb=>if b=T then some (.tbl #[])else if b=a then some (.frz {cls:=.type "list",data:=.seq vs.toArray} (.lst (ns.map V.int)))else none) (Ì O) (λb nb=>?_) (.inl (.inr ⟨{cls:=.type "list",data:=.seq vs.toArray},(Ê neT).trans (Ì O)⟩)) (λb u z=>?_) (λb z=>?_) λ_=>hk
  .by_cases eI:b=a;.exact .inr ⟨_,_,(Ê nb).trans (Ì eI)⟩
   .exact .inl ((Ê nb).trans (Ê eI))
  .by_cases kG:b=T;.have z':=(Ì kG).symm.trans z;cases z';subst kG;exact hT
   .by_cases eI:b=a;.have z':=((Ê kG).trans (Ì eI)).symm.trans z;cases z';subst eI;exact⟨ha,by rw[Õ];exact hl,vs,_,rv,ha⟩
    .have z':=((Ê kG).trans (Ê eI)).symm.trans z;cases z'
  .by_cases kG:b=T;.exact .inr kG
   .by_cases eI:b=a;.exact .inl eI
    .exact absurd ((Ê kG).trans (Ê eI)) z
theorem walk_ofT{l:PySem.W.OpenLaw}{K:Params->Frag}{CX:World->CXT}{sp:World->Sp}{x nm qn:Str}{c T:Addr}(hn:l.most=some n)(AB:n<=sizeLine)(zk:d.params.defaults=[])(hr:ï k callerA)(hY:∀w h,YP w h->(K w.params).In h)(ME:(recsOf q).find? (λe=>e.name==nm)=some dr)(EU:∀p,tabIn (K p) nm=some (c,T))(MG:∀p,noTabs (K p)=true)(F:∀w mg fa h,(K w.params).In h->h.Ns mainGlobals mg->mg d.name=some (.ref fa)->∃fd,(∀s u,BindsTo s fd ⟨[u],[]⟩ [(x,u)])/\∀base,(K w.params).In base->base.Ns mainGlobals mg->CodeHd base c T->base.BuiltinsAt mg T->Ñ l.prog w (K w.params) mg base (CX w) k fa fd [x] (sp w))(iA:∀w H a(ns:WF),ns.length<=n->É (K w.params) H a (ns.map V.int)->ê H T qn->sp w [.ref a] H (λv _=>v=.bl true) λ_ _ _=>False)(MC:∀w H s e s',CX w [] H s (λ_ _ _=>False) e s'->False):PySem.W.WalkO q loose XP YP l.row.toRowW d [] (λf vs=>PySem.call f vs):=by refine Att.attach_call hn zk λw s₀ s₁ mg mb fa o pm cd doc a vs ns G Y ho hd ff hmg zl hints hlen hg=>?_;have KX:=hY w _ Y;obtain⟨fd,hb,hF⟩:=F w mg fa _ KX G.T.g hmg;obtain⟨hC,hT⟩:=tab_of G.T KX ME (EU w.params);exact Ds KX G.T.g G.T.b G.T.builtins G.T.nolimit hg hC hT (MG w.params) G.T.bmain zl hints (Ņ hlen AB) hr hF hb (λH hS VH=>iA w H a ns hlen hS VH) λH e s'=>MC w H s₁ e s'
open PySem PySem.Spec PyProof.Rows PySem.SeqAt
theorem yG(hu:X.A.units<cLine):Ě X (compareOp .NotEq) (λx y H Q=>∃a b xs,x=.ref a/\y=.ref b/\É X.K H a xs/\É X.K H b []/\Q (.bl (!xs.isEmpty)) H):=by intro Á s σ H x y v u Q I rx ry h;obtain⟨a,b,xs,rfl,rfl,ha,hb,q⟩:=h;cases rx;cases ry;obtain⟨Æ,r1,p1,_⟩:=I.list ha;obtain⟨bS,r2,p2,_⟩:=I.list hb;have e2:bS=[]:=r2.zero;subst e2;have hl:=r1.length;cases xs with|nil=>have e1:Æ=[]:=r1.zero;subst e1;exact RcNeAt.lists (e:=λ_=>true) p1.isList p2.isList O hu (λj h1 h2=>absurd h2 Ö) _ _ _ _ ⟨.bl _,H,I,O,q⟩;|cons z r=>exact RcNeAt.lists_lengths p1.isList p2.isList (by rw[ċ,<-hl];simp) hu _ _ _ _ ⟨.bl _,H,I,O,q⟩
end L2
namespace K40
open PySem L2
def top(i:Nat):Stmt:=PySem.Challenge.pw_woolyears_k40_lacks_and_papers_looked_at.main.body.getD i (.Pass ⟨0,0,0,0⟩)
def cP(d:PyData):Bool:=nC d&&!lG d
def items:PyData->Ģ|.tuple ds=>ds|_=>[]
def à:PyData->Int|.int i=>i|_=>0
def bL(d:PyData)(f m:Int):Bool:=fP d&&(decide (f<=(items d).length)&&decide (((items d).length:Int)<=m))
def bA(d:PyData)(n:Int):Bool:=bL d n n&&(items d).all cP
def tR(d:PyData):Bool:=bA d 3&&(items d).all λx=>decide (0<=à x)&&decide (à x<=999)
def jn(d:PyData):Bool:=bL d 1 20&&(items d).all tR
def at_(d:PyData)(i:Nat):Int:=à ((items d).getD i .none)
def uP(a b c d e f:Int):Bool:=(decide (0<=a)&&decide (a<8))&&((decide (0<=b)&&decide (b<3))&&((decide (0<=c)&&(decide (c<=d)&&decide (d<=19)))&&((decide (1<=e)&&decide (e<=99))&&(decide (0<=f)&&decide (f<=1000000)))))
def mq(d:PyData):Bool:=bA d 6&&uP (at_ d 0) (at_ d 1) (at_ d 2) (at_ d 3) (at_ d 4) (at_ d 5)
def gB(d:PyData):Bool:=bL d 0 10&&(items d).all mq
theorem nd1(x:Str):([x]:ð).Nodup:=by simp
theorem Gk(d:PyData):1<=sz d:=by cases d<;>simp[sz]
theorem pq:∀ds,ds.length<=ô ds|[]=>į _|d::ds=>by have:=pq ds;have:=Gk d;simp only[List.length_cons,ô];lia
theorem pA:∀{ds:Ģ}{d:PyData},d∈ds->sz d<=ô ds
 |x::ds,d,h=>by
  simp only[ô];rcases ĩ.mp h with e|e;.rw[e];lia
  .have:=pA e;lia
theorem jM(h:d∈ds)(hz:sz (.tuple ds)<=4000):sz d<=4000:=by have:=pA h;simp only[sz]at hz;lia
theorem fJ(r:Å S H xs ds)(hz:sz (.tuple ds)<=4000):xs.length<sizeLine:=by have:=pq ds;have:=r.length;simp only[sz]at hz;rw[sizeLine_eq];lia
def Ŕ(f:PyData->Bool):Sp:=λvs H Q _=>∃S v d,vs=[v]/\Ó S H v d/\sz d<=4000/\∀H',À H H'->Q (.bl (f d)) H'
inductive Z0n(f:PyData->Int->Bool)(vs:List V)(H:Hp)(Q:VK):Prop|mk:∀S v d n,(vs=[v,.int n])->(Ó S H v d)->(sz d<=4000)->(∀H',À H H'->Q (.bl (f d n)) H')->Z0n f vs H Q
def Gm(f:PyData->Int->Bool):Sp:=λvs H Q _=>Z0n f vs H Q
def my(f:PyData->Int->Int->Bool):Sp:=λvs H Q _=>∃S v d n m,vs=[v,.int n,.int m]/\Ó S H v d/\sz d<=4000/\∀H',À H H'->Q (.bl (f d n m)) H'
structure Mg(mg:ŋ):Prop where
 isinstance:mg "isinstance"=none
 int:mg "int"=none
 bool:mg "bool"=none
 tuple:mg "tuple"=none
 len:mg "len"=none
 all:mg "all"=none
theorem ŗ:bootBuiltins "int"=some (.type "int"):=by decide+kernel
theorem ť:bootBuiltins "bool"=some (.type "bool"):=by decide+kernel
theorem Þ:bootBuiltins "tuple"=some (.type "tuple"):=by decide+kernel
theorem Ø:bootBuiltins "isinstance"=some (.builtin "isinstance"):=by decide+kernel
theorem ù:bootBuiltins "all"=some (.builtin "all"):=by decide+kernel
theorem dG(f:PyData->Bool)(ij:σ[i]?=some (some (.ref a)))(ea:H a=some (.tup xs))(r:Å S H xs ds)(hl:xs.length<sizeLine)(kP:∀v d H1 Q1,d∈ds->À H H1->Ó S H1 v d->(∀H',À H1 H'->Q1 (.bl (f d)) H')->te ((ē σ src).set j (some v)) H1 Q1)(q:∀H',À H H'->Q (.bl (ds.all f)) H'):tCB (λxs H Q=>∃(p:Addr)(bs:List Bool),xs=[.ref p]/\É K H p (bs.map V.bl)/\Q (.bl (bs.all id)) H) (iD (zU (NT K (Ck i)) src (bU j) ye te) vI) σ H Q:=by
 refine⟨_,ij,a,O,⟨xs,Ð.of ea⟩,wk (j:=j) f ea r hl kP λH2 s2 D hD=>⟨D,ds.map f,O,?_,?_⟩⟩;.rw[<-Fg];exact É.of aj
 .rw[M4];exact q _ (s2.updR hD)
structure Nums(mg:ŋ):Prop where sorts:∃t,mg "SORTS"=some (.int 3 t)holders:∃t,mg "HOLDERS"=some (.int 8 t)year:∃t,mg "LAST_YEAR"=some (.int 19 t)clips:∃t,mg "MOST_CLIPS"=some (.int 20 t)proms:∃t,mg "MOST_PROMISES"=some (.int 10 t)wool:∃t,mg "MOST_WOOL"=some (.int 999 t)sacks:∃t,mg "MOST_SACKS"=some (.int 99 t)price:∃t,mg "MOST_PRICE"=some (.int 1000000 t)
theorem iJ(h:bA d n=true):bL d n n=true/\∀x∈items d,cP x=true:=by unfold bA at h;rw[Ī]at h;exact⟨h.1,ņ.mp h.2⟩
theorem gJ(h:Ó S H v d)(e:cP d=true):∃i,v=.int i/\d=.int i:=by cases h with|int i=>exact⟨i,O,O⟩;|_=>cases e
theorem mz{α:Type}{l:List α}(h:l.length=n+1):∃a t,l=a::t/\t.length=n:=by cases l with|nil=>cases h;|cons a t=>exact⟨a,t,O,Nat.succ.inj h⟩
theorem Pb{α:Type}{l:List α}(h:l.length=5):∃a b c d e,l=[a,b,c,d,e]:=by obtain⟨a,l1,e1,h1⟩:=mz h;obtain⟨b,l2,e2,h2⟩:=mz h1;obtain⟨c,l3,e3,h3⟩:=mz h2;obtain⟨d,l4,e4,h4⟩:=mz h3;obtain⟨e,l5,e5,h5⟩:=mz h4;exact⟨a,b,c,d,e,by rw[e1,e2,e3,e4,e5,Zbp.mp h5]⟩
theorem Pg{α:Type}{l:List α}(h:l.length=6):∃a b c d e f,l=[a,b,c,d,e,f]:=by obtain⟨a,l1,e1,h1⟩:=mz h;obtain⟨b,c,d,e,f,e2⟩:=Pb h1;exact⟨a,b,c,d,e,f,by rw[e1,e2]⟩
theorem iK(r:Å S H xs (d::ds))(e:cP d=true):∃i t,xs=.int i::t/\d=.int i/\Å S H t ds:=by cases r with|cons h1 r=>obtain⟨i,rfl,rfl⟩:=gJ h1 e;exact⟨i,_,O,O,r⟩
theorem qJ(r:Å S H xs (d::ds)):∃v t,xs=v::t/\Ó S H v d/\Å S H t ds:=by cases r with|cons h1 r=>exact⟨_,_,O,h1,r⟩
theorem Dt(r:Å S H xs ds)(hl:ds.length=3):∃v0 v1 v2 d0 d1 d2,xs=[v0,v1,v2]/\ds=[d0,d1,d2]/\Ó S H v0 d0/\Ó S H v1 d1/\Ó S H v2 d2:=by
 obtain⟨d0,l1,e1,h1⟩:=mz hl;obtain⟨d1,l2,e2,h2⟩:=mz h1;obtain⟨d2,l3,e3,h3⟩:=mz h2;have e:ds=[d0,d1,d2]:=by rw[e1,e2,e3,Zbp.mp h3]
 subst e;obtain⟨v0,t0,f0,i0,r0⟩:=qJ r;obtain⟨v1,t1,f1,i1,r1⟩:=qJ r0;obtain⟨v2,t2,f2,i2,r2⟩:=qJ r1;cases r2;exact⟨v0,v1,v2,d0,d1,d2,by rw[f0,f1,f2],rfl,i0,i1,i2⟩
theorem Gn(r:Å S H xs ds)(hl:ds.length=6)(hw:∀x∈ds,cP x=true):∃i1 i2 i3 i4 i5 i6,xs=[.int i1,.int i2,.int i3,.int i4,.int i5,.int i6]/\ds=[.int i1,.int i2,.int i3,.int i4,.int i5,.int i6]:=by obtain⟨d1,d2,d3,d4,d5,d6,rfl⟩:=Pg hl;obtain⟨i1,t1,e1,rfl,r1⟩:=iK r (hw _ Ö);obtain⟨i2,t2,e2,rfl,r2⟩:=iK r1 (hw _ Ö);obtain⟨i3,t3,e3,rfl,r3⟩:=iK r2 (hw _ Ö);obtain⟨i4,t4,e4,rfl,r4⟩:=iK r3 (hw _ Ö);obtain⟨i5,t5,e5,rfl,r5⟩:=iK r4 (hw _ Ö);obtain⟨i6,t6,e6,rfl,r6⟩:=iK r5 (hw _ Ö);cases r6;exact⟨i1,i2,i3,i4,i5,i6,by rw[e1,e2,e3,e4,e5,e6],rfl⟩
theorem Du(h:bL (.tuple ds) n m=true):n<=(ds.length:Int)/\(ds.length:Int)<=m:=by have h:(true&&(decide (n<=(ds.length:Int))&&decide ((ds.length:Int)<=m)))=true:=h;rw[Zbn,Ī]at h;exact⟨Η h.1,Η h.2⟩
def â(P:Program)(w:World)(K:Frag)(mg:ŋ)(base:Heap)(k:Nat)(x:Str)(ps:ð)(sp:Sp):Prop:=∃f fd,Ñ P w K mg base å k f fd ps sp/\mg x=some (.ref f)/\PySem.W.keepIn K (.ref f)=true/\û K fd ps []
theorem aH{p pos:Pos}(c:â X.prog X.w X.K X.mg X.base j x ps sp)(hr:ï k X.A)(ha:PA X (e::es) t)(hjk:j<=k:=by decide)(hg:Gl X x:=by exact O)(fy:Δ x:=by decide)(he:Qab X e es:=by rfl)(fw:Qac X pos es:=by rfl):PE X (.Call (.Name x p) (e::es) [] pos) (vJ sp [] E0 t):=by obtain⟨f,fd,F,hm,hk,hb⟩:=c;exact zN F (hr.mono hjk) hg hm hk hb .nil Oa ha fy he fw
theorem sc1:Ã ["thing"] ["thing"] (aD (top 20)):=ú
theorem wR(F:æ K "is_whole" "is_whole" (top 20) f fd)(T:Mg mg):Ñ P w K mg base å 1 f fd ["thing"] (Ŕ cP):=by refine F.oq sc1 λar A outer s H vs Q E hr h=>?_;obtain⟨S,v,d,rfl,th,hz,q⟩:=h;refine⟨_,aF (aQ (cD (aJ dM O T.isinstance Ø (aR (pv 0) (aR (ig O T.int ŗ (v:=.ty "int") O) ao))) (dH (Em (aJ dM O T.isinstance Ø (aR (pv 0) (aR (ig O T.bool ť (v:=.ty "bool") O) ao))))))),?_⟩;refine⟨_,O,v,_,"int",nC d,O,th.ty,zW d,_,O,?_⟩;have fin:=q H (À.refl H);unfold cP at fin;cases e:nC d with|false=>rw[e]at fin;exact bB fin;|true=>rw[e]at fin;exact bK ⟨_,O,v,_,"bool",lG d,O,th.ty,vZ d,_,O,fin⟩
theorem sc2:Ã ["thing","fewest","most"] ["thing","fewest","most"] (aD (top 22)):=ú
theorem qK(F:æ K "is_tuple_of" "is_tuple_of" (top 22) f fd)(T:Mg mg):Ñ P w K mg base å 1 f fd ["thing","fewest","most"] (my bL):=by refine F.oq sc2 λar A outer s H vs Q E hr h=>?_;obtain⟨S,v,d,n,m,rfl,th,hz,q⟩:=h;refine⟨_,aF (aQ (cD (aJ dM O T.isinstance Ø (aR (pv 0) (aR (ig O T.tuple Þ (v:=.ty "tuple") O) ao))) (dH (du bW bW (pv 1) (aJ bQ O T.len PySem.boot_len (aR (pv 0) ao)) (pv 2))))),?_⟩;refine⟨_,O,v,_,"tuple",fP d,O,th.ty,oY d,_,O,?_⟩;have fin:=q H (À.refl H);unfold bL at fin;cases e:fP d with|false=>rw[e]at fin;exact bB fin;|true=>rw[e]at fin;refine bK ?_;cases th with
 |@tup a xs ds ea r=>have hl:=r.length;refine⟨_,O,_,O,a,xs,O,.inr (Ð.of ea),_,_,O,O,_,O,?_⟩;rw[hl];have fin:Q (.bl (true&&(decide (n<=(ds.length:Int))&&decide ((ds.length:Int)<=m)))) H:=fin;cases e1:decide (n<=(ds.length:Int))with|false=>rw[e1]at fin;exact bB fin;|true=>rw[e1]at fin;exact bK ⟨_,O,_,_,O,O,fin⟩
  |_=>cases e
theorem sc3:Ã ["thing","many"] ["thing","many"] (aD (top 23)):=ú
theorem rO(F:æ K "are_wholes" "are_wholes" (top 23) f fd)(T:Mg mg)(c1:â P w K mg base 1 "is_whole" ["thing"] (Ŕ cP))(c2:â P w K mg base 1 "is_tuple_of" ["thing","fewest","most"] (my bL)):Ñ P w K mg base å 2 f fd ["thing","many"] (Gm bA):=by
 refine F.oq sc3 λar A outer s H vs Q E hr h=>?_;obtain⟨S,v,d,n,rfl,th,hz,q⟩:=h;refine⟨_,aF (aQ (cD (aH c2 hr (aR (pv 0) (aR (pv 1) (aR (pv 1) ao)))) (dH (aJ (fG rfl) rfl T.all ù (aR (bz ["part"] [none] rfl (gw (pv 0)) (λC fp Á s₂ Ï=>⟨bF (i:=0) (nd1 _) rfl (Or.inl rfl),bx,aH c1 hr (aR (pv 0) ao)⟩) (λC=>trivial) ⟨rfl,rfl,rfl,rfl⟩) ao))))),?_⟩;refine⟨_,rfl,_,rfl,_,rfl,S,v,d,n,n,rfl,th,hz,λH1 s1=>⟨_,rfl,?_⟩⟩;have fA:=th.same s1
 cases e:bL d n n with|false=>refine bB ?_;have fin:=q H1 s1;unfold bA at fin;rw[e]at fin;exact fin;|true=>refine bK ?_;cases fA with|@tup a xs ds ea r=>
   have ew:bA (.tuple ds) n=ds.all cP:=by unfold bA;rw[e];rfl
   refine dG cP rfl ea r (fJ r hz) (λv d H2 Q2 hm s2 t2 q2=>⟨_,rfl,S,v,d,rfl,t2,jM hm hz,q2⟩) λH2 s2=>?_;rw[<-ew];exact q _ (s1.trans s2);|_=>cases e
theorem Z0i:Ã ["thing"] ["thing"] (aD (top 34)):=ú
theorem yH(F:æ K "is_clip" "is_clip" (top 34) f fd)(T:Mg mg)(N:Nums mg)(c1:â P w K mg base 2 "are_wholes" ["thing","many"] (Gm bA)):Ñ P w K mg base å 3 f fd ["thing"] (Ŕ tR):=by refine F.oq Z0i λar A outer s H vs Q E hr h=>?_;obtain⟨S,v,d,rfl,th,hz,q⟩:=h;obtain⟨t3,e3⟩:=N.sorts;obtain⟨t9,e9⟩:=N.wool;refine⟨_,aF (aQ (cD (aH c1 hr (aR (pv 0) (aR (cu (v:=.int 3) O e3 ⟨_,O⟩) ao))) (dH (aJ (fG O) O T.all ù (aR (bz ["sacks"] [none] O (gw (pv 0)) (λC fp Á s₂ Ï=>⟨bF (i:=0) (nd1 _) O (Or.inl O),bx,du bW bW aB (pv 0) (cu (v:=.int 999) O e9 ⟨_,O⟩)⟩) (λC=>trivial) ⟨O,O,O,O⟩) ao))))),?_⟩;refine⟨_,O,S,v,d,3,O,th,hz,λH1 s1=>⟨_,O,?_⟩⟩;have fA:=th.same s1;have fin:=λH'(s:À H H')=>q H' s;unfold tR at fin;cases e:bA d 3 with|false=>rw[e]at fin;exact bB (fin _ s1);|true=>rw[e]at fin;refine bK ?_;obtain⟨e1,e2⟩:=iJ e;cases fA with
 |@tup a xs ds ea r=>refine dG (λx=>decide (0<=à x)&&decide (à x<=999)) O ea r (fJ r hz) (λv d H2 Q2 hm s2 t2 q2=>?_) λH2 s2=>fin _ (s1.trans s2);obtain⟨i,rfl,rfl⟩:=gJ t2 (e2 d hm);refine⟨_,O,_,_,O,O,_,O,?_⟩;have q3:=q2 H2 (À.refl _);show if decide ((0:Int)<=i)=true then _ else _;cases e5:decide ((0:Int)<=i)with|false=>refine bB ?_;have q3:Q2 (.bl (decide ((0:Int)<=i)&&decide (i<=999))) H2:=q3;rw[e5]at q3;exact q3;|true=>refine bK ⟨_,_,O,O,?_⟩;have q3:Q2 (.bl (decide ((0:Int)<=i)&&decide (i<=999))) H2:=q3;rw[e5]at q3;exact q3
  |_=>cases e1
theorem Μ:Ã ["thing"] ["thing"] (aD (top 35)):=ú
theorem uQ(F:æ K "are_clips" "are_clips" (top 35) f fd)(T:Mg mg)(N:Nums mg)(c1:â P w K mg base 3 "is_clip" ["thing"] (Ŕ tR))(c2:â P w K mg base 1 "is_tuple_of" ["thing","fewest","most"] (my bL)):Ñ P w K mg base å 4 f fd ["thing"] (Ŕ jn):=by refine F.oq Μ λar A outer s H vs Q E hr h=>?_;obtain⟨S,v,d,rfl,th,hz,q⟩:=h;obtain⟨t3,e3⟩:=N.clips;refine⟨_,aF (aQ (cD (aH c2 hr (aR (pv 0) (aR aB (aR (cu (v:=.int 20) O e3 ⟨_,O⟩) ao)))) (dH (aJ (fG O) O T.all ù (aR (bz ["part"] [none] O (gw (pv 0)) (λC fp Á s₂ Ï=>⟨bF (i:=0) (nd1 _) O (Or.inl O),bx,aH c1 hr (aR (pv 0) ao)⟩) (λC=>trivial) ⟨O,O,O,O⟩) ao))))),?_⟩;refine⟨_,O,S,v,d,1,20,O,th,hz,λH1 s1=>⟨_,O,?_⟩⟩;have fA:=th.same s1;have fin:=λH'(s:À H H')=>q H' s;unfold jn at fin;cases e:bL d 1 20 with|false=>rw[e]at fin;exact bB (fin _ s1);|true=>rw[e]at fin;refine bK ?_;cases fA with|@tup a xs ds ea r=>exact dG tR O ea r (fJ r hz) (λv d H2 Q2 hm s2 t2 q2=>⟨_,O,S,v,d,O,t2,jM hm hz,q2⟩) λH2 s2=>fin _ (s1.trans s2);|_=>cases e
theorem ŷ:Ã ["thing","holder","sort","first","last","sacks","price"] ["thing"] (aD (top 36)):=ú
theorem rP(F:æ K "is_promise" "is_promise" (top 36) f fd)(T:Mg mg)(N:Nums mg)(c1:â P w K mg base 2 "are_wholes" ["thing","many"] (Gm bA)):Ñ P w K mg base å 3 f fd ["thing"] (Ŕ mq):=by
 refine F.oq ŷ λar A outer s H vs Q E hr h=>?_;obtain⟨S,v,d,rfl,th,hz,q⟩:=h;obtain⟨t1,e1⟩:=N.holders;obtain⟨t2,e2⟩:=N.sorts;obtain⟨t3,e3⟩:=N.year;obtain⟨t4,e4⟩:=N.sacks;obtain⟨t5,e5⟩:=N.price;refine⟨_,aC (cO (cR (dD (aH c1 hr (aR (pv 0) (aR aB ao))))) (aF (aQ kW)) bD) (aC (cV (pv 0) (bR O (az (Ô 1 ŷ.nd) (az (Ô 2 ŷ.nd) (az (Ô 3 ŷ.nd) (az (Ô 4 ŷ.nd) (az (Ô 5 ŷ.nd) (az (Ô 6 ŷ.nd) aX)))))))) (aF (aQ (cD (du bW pY aB (pv 1) (cu (v:=.int 8) O e1 ⟨_,O⟩)) (cD (du bW pY aB (pv 2) (cu (v:=.int 3) O e2 ⟨_,O⟩)) (cD (CJ bW bW bW aB (pv 3) (pv 4) (cu (v:=.int 19) O e3 ⟨_,O⟩)) (cD (du bW bW aB (pv 5) (cu (v:=.int 99) O e4 ⟨_,O⟩)) (dH (du bW bW aB (pv 6) (cu (v:=.int 1000000) O e5 ⟨_,O⟩)))))))))),?_⟩
 refine⟨_,O,S,v,d,6,O,th,hz,λH1 s1=>⟨_,O,?_⟩⟩;have fA:=th.same s1;have fin:=λH'(s:À H H')=>q H' s;unfold mq at fin;cases e:bA d 6 with|false=>rw[e]at fin;exact bK (fin _ s1);|true=>rw[e]at fin;refine bB ?_;obtain⟨z1,z2⟩:=iJ e;cases fA with|@tup a xs ds ea r=>
   have hl:ds.length=6:=by have:=Du z1;lia
   obtain⟨i1,i2,i3,i4,i5,i6,rfl,rfl⟩:=Gn r hl z2;refine⟨_,O,a,_,O,Ð.of ea,O,_,_,O,_,_,O,_,_,O,_,_,O,_,_,O,_,_,O,O,?_⟩;refine j5 (cz gm (dU O) gm) (λ_=>j5 (cz gm (dU O) gm) λ_=>j5 (CK gm (dU O) (dU O) gm) λ_=>j5 (cz gm (dU O) gm) λ_=>cz gm (dU O) gm) _ ?_;exact fin H1 s1;|_=>cases z1
theorem Qz:Ã ["thing"] ["thing"] (aD (top 37)):=ú
theorem oN(F:æ K "are_promises" "are_promises" (top 37) f fd)(T:Mg mg)(N:Nums mg)(c1:â P w K mg base 3 "is_promise" ["thing"] (Ŕ mq))(c2:â P w K mg base 1 "is_tuple_of" ["thing","fewest","most"] (my bL)):Ñ P w K mg base å 4 f fd ["thing"] (Ŕ gB):=by refine F.oq Qz λar A outer s H vs Q E hr h=>?_;obtain⟨S,v,d,rfl,th,hz,q⟩:=h;obtain⟨t3,e3⟩:=N.proms;refine⟨_,aF (aQ (cD (aH c2 hr (aR (pv 0) (aR aB (aR (cu (v:=.int 10) O e3 ⟨_,O⟩) ao)))) (dH (aJ (fG O) O T.all ù (aR (bz ["part"] [none] O (gw (pv 0)) (λC fp Á s₂ Ï=>⟨bF (i:=0) (nd1 _) O (Or.inl O),bx,aH c1 hr (aR (pv 0) ao)⟩) (λC=>trivial) ⟨O,O,O,O⟩) ao))))),?_⟩;refine⟨_,O,S,v,d,0,10,O,th,hz,λH1 s1=>⟨_,O,?_⟩⟩;have fA:=th.same s1;have fin:=λH'(s:À H H')=>q H' s;unfold gB at fin;cases e:bL d 0 10 with|false=>rw[e]at fin;exact bB (fin _ s1);|true=>rw[e]at fin;refine bK ?_;cases fA with|@tup a xs ds ea r=>exact dG mq O ea r (fJ r hz) (λv d H2 Q2 hm s2 t2 q2=>⟨_,O,S,v,d,O,t2,jM hm hz,q2⟩) λH2 s2=>fin _ (s1.trans s2);|_=>cases e
def kI(d:PyData)(lo hi:Int):Bool:=cP d&&(decide (lo<=à d)&&decide (à d<=hi))
theorem QB:Ã [Ĳ] [Ĳ] (aD (top 93)):=ú
theorem Dv(F:æ K ABh ABh (top 93) f fd)(T:Mg mg):Ñ P w K mg base å 1 f fd [Ĳ] (Ŕ cP):=by refine F.oq QB λar A outer s H vs Q E hr h=>?_;obtain⟨S,v,d,rfl,th,hz,q⟩:=h;refine⟨_,aF (aQ (cD (aJ dM O T.isinstance Ø (aR (pv 0) (aR (ig O T.int ŗ (v:=.ty "int") O) ao))) (dH (Em (aJ dM O T.isinstance Ø (aR (pv 0) (aR (ig O T.bool ť (v:=.ty "bool") O) ao))))))),?_⟩;exact j5 (b:=nC d) (c:=!lG d) (λQ h=>⟨_,O,v,_,"int",nC d,O,th.ty,zW d,h⟩) (λ_ Q h=>⟨_,O,v,_,"bool",lG d,O,th.ty,vZ d,_,O,h⟩) _ (q H (À.refl H))
theorem QC:Ã [Ĳ,"_law_low","_law_high"] [Ĳ,"_law_low","_law_high"] (aD (top 94)):=ú
theorem wU(F:æ K "_law_between" "_law_between" (top 94) f fd)(c1:â P w K mg base 1 ABh [Ĳ] (Ŕ cP)):Ñ P w K mg base å 2 f fd [Ĳ,"_law_low","_law_high"] (my kI):=by refine F.oq QC λar A outer s H vs Q E hr h=>?_;obtain⟨S,v,d,n,m,rfl,th,hz,q⟩:=h;refine⟨_,aF (aQ (cD (aH c1 hr (aR (pv 0) ao)) (dH (du bW bW (pv 1) (pv 0) (pv 2))))),?_⟩;refine⟨_,O,S,v,d,O,th,hz,λH1 s1=>⟨_,O,?_⟩⟩;have fin:=q H1 s1;unfold kI at fin;cases e:cP d with|false=>rw[e]at fin;exact bB fin;|true=>rw[e]at fin;obtain⟨i,rfl,rfl⟩:=gJ th e;exact bK (cz (dU O) (dU O) (dU O) _ fin)
def gH(H:Hp)(st:Addr):Prop:=∃a b,H st=some (.lst [.int a,.int b])/\0<=a/\0<=b/\b<4294967296
def ţ(st:Addr)(H H':Hp):Prop:=∀b o,H b=some o->b≠st->H' b=some o
inductive ϩ(K:Frag)(vs:List V)(H:Hp)(Q:VK):Prop|mk:∀a(ns:WF)k,(vs=[.ref a,.int k])->(É K H a (ns.map V.int))->(0<=k)->(∀i,Q (.int i) H)->ϩ K vs H Q
def Gp(K:Frag):Sp:=λvs H Q _=>ϩ K vs H Q
inductive Ρ(K:Frag)(vs:List V)(H:Hp)(Q:VK):Prop|mk:∀a(ns:WF)k,(vs=[.ref a,.int k])->(É K H a (ns.map V.int))->(0<=k)->(∀p x y,H p=none->0<=x->0<=y->y<4294967296->Q (.ref p) (upd H p (.lst [.int x,.int y])))->Ρ K vs H Q
def Aw(K:Frag):Sp:=λvs H Q _=>Ρ K vs H Q
inductive Ϝ(vs:List V)(H:Hp)(Q:VK):Prop|mk:∀st n,(vs=[.ref st,.int n])->(gH H st)->(1<=n)->(n<1073741824)->(∀r a' b',0<=r->r<n->0<=a'->0<=b'->b'<4294967296->Q (.int r) (upd H st (.lst [.int a',.int b'])))->Ϝ  vs H Q
def jo:Sp:=λvs H Q _=>Ϝ  vs H Q
theorem QD:Ã [Ζ,AAw] [Ζ,AAw] (aD (top 75)):=ú
theorem Jw(F:æ K "_law_cell_at" "_law_cell_at" (top 75) f fd)(T:Mg mg):Ñ P w K mg base å 1 f fd [Ζ,AAw] (Gp K):=by
 refine F.oq QD λar A outer s H vs Q E hr h=>?_;obtain⟨a,ns,k,rfl,hS,h0,q⟩:=h;refine⟨_,aC (cO (bu pY (pv 1) (aJ bQ O T.len PySem.boot_len (aR (pv 0) ao)) (bj _)) (aF (aQ (pX bO (pv 0) (pv 1)))) bD) (aF (aQ aB)),?_⟩;refine⟨_,O,_,O,a,_,O,.inl hS,_,_,O,O,_,O,?_⟩;refine rA (λc=>?_) (λ_=>q 0);have c:=Η c;rw[Õ]at c;have hk:k.toNat<ns.length:=Â;refine⟨_,O,_,O,a,_,k,.int ns[k.toNat],O,O,hS,?_,q _⟩;have e:(ns.map V.int)[k.toNat]?=some (.int ns[k.toNat]):=by rw[Ą,á hk];rfl
 have:=cJ e;rw[show((k.toNat:Nat):Int)=k by lia]at this;exact this
theorem Z0h:Ã [Ζ,AAw,"_law_cell"] [Ζ,AAw] (aD (top 76)):=ú
theorem Gq(F:æ K "_law_state" "_law_state" (top 76) f fd)(c1:â P w K mg base 1 "_law_cell_at" [Ζ,AAw] (Gp K)):Ñ P w K mg base å 2 f fd [Ζ,AAw] (Aw K):=by
 refine F.oq Z0h λar A outer s H vs Q E hr h=>?_;obtain⟨a,ns,k,rfl,hS,h0,q⟩:=h;refine⟨_,aC (đ 2 Z0h.nd (aH c1 hr (aR (pv 0) (aR (pv 1) ao)))) (aC (cO (bu vH (pv 2) (aU pW aB aB) (bj _)) (aF (aQ (cX (aq (aU dJ (pv 2) (aU pW aB aB)) (aq (aU bw (aU iw (pv 2) aB) aB) ao))))) bD) (aF (aQ (cX (aq aB (aq (aU bw (aU iw (pv 2) aB) aB) ao)))))),?_⟩;refine⟨_,O,_,O,a,ns,k,O,hS,h0,λc=>?_⟩;refine⟨_,O,_,_,O,O,⟨by decide,by decide,by decide⟩,_,_,O,O,_,O,?_⟩;refine rA (λhc=>?_) (λ_=>?_)
 .have hc:=Η hc;refine⟨_,O,_,_,O,O,⟨by decide,by decide,by decide⟩,_,_,O,O,_,O,_,_,O,O,(by show(0:Int)<2147483629;decide),_,_,O,O,zL,λp hp=>?_⟩;refine q p _ _ hp ?_ ?_ ?_;.show 0<=c-(10:Int)^18;have hc:(10:Int)^18<=c:=hc;lia
  .show 0<=c%2147483629+1;lia
  .show c%2147483629+1<4294967296;lia
 .refine⟨_,O,_,_,O,O,(by show(0:Int)<2147483647;decide),_,_,O,O,zL,λp hp=>?_⟩;refine q p _ _ hp (Zbb 0) ?_ ?_;.show 0<=c%2147483647+1;lia
  .show c%2147483647+1<4294967296;lia
theorem Z0g:Ã [ă,AAo,Ε,"_law_stirred"] [ă,AAo] (aD (top 77)):=ú
theorem Jx(F:æ K AAs AAs (top 77) f fd):Ñ P w K mg base å 1 f fd [ă,AAo] jo:=by
 refine F.oq Z0g λar A outer s H vs Q E hr h=>?_;obtain⟨st,n,rfl,⟨a,b,es,ha,hb,ip⟩,h1,h2,q⟩:=h;refine⟨_,aC (cO (bu lq (pX bO (pv 0) aB) aB (bj _)) (aC (đ 2 Z0g.nd (aU iw (pX bO (pv 0) aB) (pv 1))) (aC (cV (aU oW (pX bO (pv 0) aB) (pv 1)) (mX (pv 0) aB ą)) (aF (aQ (pv 2))))) bD) (aC (cV (aU iw (aU bw (aU iu (pX bO (pv 0) aB) aB) aB) aB) (mX (pv 0) aB ą)) (aC (đ 3 Z0g.nd (aU iw (aU bw (aU bw (aU iu (pX bO (pv 0) aB) (pX bO (pv 0) aB)) (aU iu aB (pX bO (pv 0) aB))) aB) aB)) (aC (đ 3 Z0g.nd (aU iw (aU bw (aU bw (aU iu (pv 3) (pv 3)) (aU iu aB (pv 3))) aB) aB)) (aF (aQ (aU iw (aU oW (pv 3) aB) (pv 1))))))),?_⟩;refine⟨_,O,st,_,0,.int a,O,O,É.of es,O,_,_,O,O,_,O,?_⟩;refine rA (λhc=>?_) (λ_=>?_);.refine⟨_,O,st,_,0,.int a,O,O,É.of es,O,_,O,_,_,O,O,(by show 0<n;lia),?_⟩;refine⟨_,O,st,_,0,.int a,O,O,É.of es,O,_,O,_,_,O,O,⟨Â,h2⟩,_,O,st,_,0,0,O,O,es,O,_,O,?_⟩;exact q (a%n) (a/n) b (Zbo a Â) (Zbd a Â) (Int.ediv_nonneg ha Â) hb ip
 .refine⟨_,O,st,_,1,.int b,O,O,É.of es,O,_,_,O,O,.inl ⟨Â,Â⟩,_,_,O,O,_,_,O,O,(by show(0:Int)<2147483647;decide),_,O,st,_,1,1,O,O,es,O,?_⟩;have QY:0<=(b*48271+29)%2147483647:=Zbo _ Ù;have VI:(b*48271+29)%2147483647<2147483647:=Zbd _ Ù;obtain⟨m,hm⟩:∃m,m=(b*48271+29)%2147483647:=⟨_,O⟩;rw[<-hm]at QY VI;have eL:([V.int a,V.int b].set 1 ((λi j:Int=>V.int (i%j)) (b*48271+29) 2147483647))=[V.int a,V.int m]:=by rw[hm];rfl
  rw[eL];have hZ:upd H st (.lst [.int a,.int m]) st=some (.lst [.int a,.int m]):=aj;refine⟨_,O,st,_,1,.int m,O,O,É.of hZ,O,_,O,st,_,1,.int m,O,O,É.of hZ,O,_,_,O,O,.inl ⟨Â,Â⟩,_,O,st,_,1,.int m,O,O,É.of hZ,O,_,_,O,O,.inl ⟨by decide,by decide⟩,_,_,O,O,_,_,O,O,_,_,O,O,(by show(0:Int)<2147483629;decide),?_⟩;have MH:0<=(m*m+39373*m+7)%2147483629:=Zbo _ Ù;have vt:(m*m+39373*m+7)%2147483629<2147483629:=Zbd _ Ù;refine⟨_,O,_,O,_,_,O,O,.inl ⟨Int.lt_of_lt_of_le Ù MH,Int.lt_trans vt Ù⟩,_,O,_,_,O,O,.inl ⟨by decide,by decide⟩,_,_,O,O,_,_,O,O,_,_,O,O,(by show(0:Int)<2147483587;decide),?_⟩;refine⟨_,O,_,_,O,O,⟨by decide,by decide⟩,_,O,_,_,O,O,(by show 0<n;lia),?_⟩;exact q _ a m (Zbo _ Â) (Zbd _ Â) ha QY Â
theorem jb:bootBuiltins "repr"=some (.builtin "repr"):=by decide+kernel
inductive Ϡ(vs:List V)(H:Hp)(Q:VK):Prop|mk:∀S v u d e,(vs=[v,u])->(¬S sysModules)->(Ó S H v d)->(Ó S H u e)->(ñ d=true)->(ñ e=true)->(sz d<=1000)->(sz e<=1000)->(Q (.bl (decide (V.str d.shown=V.str e.shown))) H)->Ϡ  vs H Q
def yI:Sp:=λvs H Q _=>Ϡ  vs H Q
theorem pB(hr:ï k A)(hk:60<=k)(h:sz d<=1000):A.units+(sz d+1)<cLine:=by have:=hr.un;lia
theorem QF:Ã [Ε,AAz] [Ε,AAz] (aD (top 97)):=ú
theorem Jy(F:æ K "_law_same" "_law_same" (top 97) f fd)(Tr:mg "repr"=none):Ñ P w K mg base å 61 f fd [Ε,AAz] yI:=by refine F.oq QF λar A outer s H vs Q E hr h=>?_;obtain⟨S,v,u,d,e,rfl,hS,t1,t2,m1,m2,z1,z2,q⟩:=h;refine⟨_,aF (aQ (ik gP (aJ (jD (S:=S) hr.gd hS) O Tr jb (aR (pv 0) ao)) (aJ (jD (S:=S) hr.gd hS) O Tr jb (aR (pv 1) ao)) (bj _))),?_⟩;exact⟨_,O,v,d,O,t1,m1,Â,pB hr (Ü _) z1,_,O,u,e,O,t2,m2,Â,pB hr (Ü _) z2,O,q⟩
mutual
def tm(B:Nat):PyData->Bool|.none=>true|.bool _=>true|.int i=>decide (i.natAbs<B)|.str x=>decide (x.length<=10)&&x.cps.toList.all λc=>decide (c<16^8)|.list xs=>ς B xs|.tuple xs=>ς B xs|.dict kvs=>eO B kvs
def ς(B:Nat):Ģ->Bool|[]=>true|x::xs=>tm B x&&ς B xs
def eO(B:Nat):List (PyData×PyData)->Bool|[]=>true|(.int i,.int j)::r=>decide (i.natAbs<B)&&decide (j.natAbs<B)&&eO B r|_::_=>false
end
theorem Ax(h:B<=C):∀kvs,eO B kvs=true->eO C kvs=true|[],_=>rfl|(.int i,.int j)::r,e=>by have e:(decide (i.natAbs<B)&&decide (j.natAbs<B)&&eO B r)=true:=e;simp only[Bool.and_eq_true,č]at e;show(decide (i.natAbs<C)&&decide (j.natAbs<C)&&eO C r)=true;rw[Ax h r e.2,ø (by lia:i.natAbs<C),ø (by lia:j.natAbs<C)];rfl;|(.none,_)::_,h=>by simp[eO]at h;|(.bool _,_)::_,h=>by simp[eO]at h;|(.str _,_)::_,h=>by simp[eO]at h;|(.list _,_)::_,h=>by simp[eO]at h;|(.tuple _,_)::_,h=>by simp[eO]at h;|(.dict _,_)::_,h=>by simp[eO]at h;|(.int _,.none)::_,h=>by simp[eO]at h;|(.int _,.bool _)::_,h=>by simp[eO]at h;|(.int _,.str _)::_,h=>by simp[eO]at h;|(.int _,.list _)::_,h=>by simp[eO]at h;|(.int _,.tuple _)::_,h=>by simp[eO]at h;|(.int _,.dict _)::_,h=>by simp[eO]at h
mutual
theorem Ι(h:B<=C):∀d,tm B d=true->tm C d=true|.none,_=>rfl|.bool _,_=>rfl|.int i,e=>by have e:decide (i.natAbs<B)=true:=e;rw[č]at e;exact ø (show i.natAbs<C by lia);|.str _,e=>e|.list xs,e=>uR h xs e|.tuple xs,e=>uR h xs e|.dict kvs,e=>Ax h kvs e
theorem uR(h:B<=C):∀ds,ς B ds=true->ς C ds=true|[],_=>rfl|d::ds,e=>by have e:(tm B d&&ς B ds)=true:=e;rw[Ī]at e;show(tm C d&&ς C ds)=true;rw[Ι h d e.1,uR h ds e.2];rfl
end
theorem tU:∀kvs,eO (2^128) kvs=true->gR kvs=true|[],_=>rfl|(.int i,.int j)::r,e=>by have e:(decide (i.natAbs<2^128)&&decide (j.natAbs<2^128)&&eO (2^128) r)=true:=e;rw[Ī]at e;show(decide (i.natAbs<2^128)&&decide (j.natAbs<2^128)&&gR r)=true;rw[e.1,tU r e.2];rfl;|(.none,_)::_,h=>by simp[eO]at h;|(.bool _,_)::_,h=>by simp[eO]at h;|(.str _,_)::_,h=>by simp[eO]at h;|(.list _,_)::_,h=>by simp[eO]at h;|(.tuple _,_)::_,h=>by simp[eO]at h;|(.dict _,_)::_,h=>by simp[eO]at h;|(.int _,.none)::_,h=>by simp[eO]at h;|(.int _,.bool _)::_,h=>by simp[eO]at h;|(.int _,.str _)::_,h=>by simp[eO]at h;|(.int _,.list _)::_,h=>by simp[eO]at h;|(.int _,.tuple _)::_,h=>by simp[eO]at h;|(.int _,.dict _)::_,h=>by simp[eO]at h
mutual
theorem Ay:∀d,tm (2^128) d=true->ñ d=true|.none,_=>rfl|.bool _,_=>rfl|.int i,e=>e|.str _,e=>e|.list xs,e=>qL xs e|.tuple xs,e=>qL xs e|.dict kvs,e=>tU kvs e
theorem qL:∀ds,ς (2^128) ds=true->iI ds=true|[],_=>rfl|d::ds,e=>by have e:(tm (2^128) d&&ς (2^128) ds)=true:=e;rw[Ī]at e;show(ñ d&&iI ds)=true;rw[Ay d e.1,qL ds e.2];rfl
end
theorem uT(h:tm B d=true)(hB:B<=2^128):ñ d=true:=Ay d (Ι hB d h)
theorem ç:∀{ds:Ģ},ς B ds=true↔∀d∈ds,tm B d=true|[]=>Iff.intro (λ_ _ h=>absurd h List.not_mem_nil) (λ_=>rfl)|x::ds=>by show(tm B x&&ς B ds)=true↔_;rw[Ī,ç (ds:=ds)];exact⟨λ⟨h1,h2⟩d hd=>(ĩ.mp hd).elim (λe=>e▸h1) (h2 d),λh=>⟨h x Zao,λd hd=>h d (Zaj _ hd)⟩⟩
theorem uU:∀ds es,ô (ds++es)=ô ds+ô es|[],es=>by show ô es=0+ô es;lia;|d::ds,es=>by show sz d+ô (ds++es)=sz d+ô ds+ô es;rw[uU ds es];lia
theorem Az(ds:Ģ)(i:Nat)(e:PyData):ô (ds.take i++e::ds.drop i)=ô ds+sz e:=by
 have h:ô (ds.take i++ds.drop i)=ô ds:=by rw[zBe]
 rw[uU]at h⊢;show ô (ds.take i)+(sz e+ô (ds.drop i))=_;lia
theorem uV:∀{ds:Ģ}{i:Nat}{d:PyData},ds[i]?=some d->ô (ds.eraseIdx i)+sz d=ô ds
 |x::ds,0,d,h=>by
  have:x=d:=by simpa using h
  subst this;show ô ds+sz x=sz x+ô ds;lia;|x::ds,i+1,d,h=>by have:=uV (ds:=ds) (i:=i) (d:=d) (by simpa using h);show sz x+ô (ds.eraseIdx i)+sz d=sz x+ô ds;lia
theorem Ba:∀{ds:Ģ}{i:Nat}{d e:PyData},ds[i]?=some d->ô (ds.set i e)+sz d=ô ds+sz e
 |x::ds,0,d,e,h=>by
  have:x=d:=by simpa using h
  subst this;show sz e+ô ds+sz x=sz x+ô ds+sz e;lia;|x::ds,i+1,d,e,h=>by have:=Ba (ds:=ds) (i:=i) (d:=d) (e:=e) (by simpa using h);show sz x+ô (ds.set i e)+sz d=sz x+ô ds+sz e;lia
def Jz:Ģ:=[.none,.bool true,.bool false,.int 0,.int 1,.int (-1),.int (10^29),.str "",.str "a",.str "0/0/0",.tuple [],.list [],.dict [],.tuple [.int 0],.list [.int 0],.tuple [.none],.tuple [.tuple []]]
def JB:Ģ:=[.str "-",.dict [(.int 0,.int 1)],.tuple [.int 0,.int 0,.int 0]]
theorem Gr:∀d∈Jz++JB,tm (2^100) d=true/\sz d<=6:=by
 have h:((Jz++JB).all λd=>tm (2^100) d&&decide (sz d<=6))=true:=by decide+kernel
 intro d hd;have:=ņ.mp h d hd;rw[Ī,č]at this;exact this
def Z0j(st:Addr)(H:Hp)(n:Nat)(v:V)(H':Hp):Prop:=∃d,ţ st H H'/\gH H' st/\Ó (λa=>H a=none/\a≠sysModules) H' v d/\tm (2^100) d=true/\sz d<=n
inductive Z05(vs:List V)(H:Hp)(Q:VK):Prop|mk:∀st,(vs=[.ref st])->(gH H st)->(∀v H',Z0j st H 6 v H'->Q v H')->Z05  vs H Q
def Gs:Sp:=λvs H Q _=>Z05  vs H Q
theorem sc29:Ã [ă,"_law_some"] [ă] (aD (top 95)):=ú
theorem Mw(F:æ K "_law_odd" "_law_odd" (top 95) f fd)(c1:â P w K mg base 1 AAs [ă,AAo] jo):Ñ P w K mg base å 2 f fd [ă] Gs:=by
 refine F.oq sc29 λar A outer s H vs Q E hr h=>?_;obtain⟨st,rfl,dS,q⟩:=h;refine⟨_,jl (aN (fM 1 sc29.nd (fQ (bf Fo (bf qw (bf qw (bf j6 (bf j6 (bf M6 (bf M7 (bf dh (bf dh (bf dh (bf (gA bN) (bf (Ac bN) (bf Fp (bf (gA (bf j6 bN)) (bf (Ac (bf j6 bN)) (bf (gA (bf Fo bN)) (bf (gA (bf (gA bN) bN)) bN))))))))))))))))))) (cj (fU (tG bO (jL jQ ⟨pv 1⟩ (fQ (bf dh (bf Fq (bf (gA (bf j6 (bf j6 (bf j6 bN)))) bN))))) ⟨aH c1 hr (aq (pv 0) (aq aB ao))⟩ (λ_ _=>rfl))))),?_⟩;have hS:∀H0,À H H0->∀p,H0 p=none->p≠sysModules->(H p=none/\p≠sysModules):=λH0 s0 p hp np=>⟨s0.free hp,np⟩;have z0:∀{n:Nat},n<=3->n<=4000:=λh=>by lia
 refine aM (aV ?_);refine nM ?_;refine(bI Ft (bI Kv (bI Kv (bI km (bI km (bI (Kw (i:=-1) λH' Q h=>⟨1,O,h⟩) (bI (Kw (i:=10^29) λH'=>M5 (g:=λi j=>V.int (i^j.toNat)) gm gm ⟨by decide,by decide,by decide⟩) (bI uI (bI uI (bI uI (bI (nJ iB Ù) (bI (Ad iB Ù hS) (bI (Jd hS) (bI (nJ (bI km iB) Ù) (bI (Ad (bI km iB) Ù hS) (bI (nJ (bI Ft iB) Ù) (bI (nJ (bI (nJ iB Ù) iB) Ù) iB))))))))))))))))) H (À.refl H) _ λxs H1 s1 t1=>?_;have t1:Å (λa=>H a=none/\a≠sysModules) H1 xs Jz:=t1;refine⟨by rw[t1.length];show 17<=sizeLine;decide,λp hp=>?_⟩;refine aG ?_;dsimp only;refine j7 ?_;have s2:À H (upd H1 p (.lst xs)):=s1.updR hp;refine⟨_,O,?_⟩;refine(bI uI (bI (Fv hS) (bI (nJ (bI km (bI km (bI km iB))) Ù) iB))) (upd H1 p (.lst xs)) s2 _ λys H2 s3 t2=>?_;have t2:Å (λa=>H a=none/\a≠sysModules) H2 ys JB:=t2;refine⟨by rw[t2.length];show 3<=sizeLine;decide,λp2 kf=>?_⟩;have s4:À (upd H1 p (.lst xs)) (upd H2 p2 (.lst ys)):=s3.updR kf;refine⟨p,p2,xs,ys,O,O,s4 _ _ aj,aj,by rw[t1.length,t2.length];show 20<=sizeLine;decide,λl hl=>?_⟩;have s5:À H (upd (upd H2 p2 (.lst ys)) l (.lst (xs++ys))):=(s2.trans s4).updR hl;obtain⟨a,b,es,h1,h2,h3⟩:=dS;refine⟨_,O,st,20,O,⟨a,b,s5 _ _ es,h1,h2,h3⟩,by decide,by decide,λr a' b' r0 r1 g1 g2 g3=>?_⟩;have nl:l≠st:=λz=>by have:=(s2.trans s4) _ _ es;rw[z,this]at hl;cases hl
 have t3:Å (λa=>H a=none/\a≠sysModules) (upd (upd H2 p2 (.lst ys)) l (.lst (xs++ys))) (xs++ys) (Jz++JB):=(((t1.same (À.upd hp)).same s4).same (À.upd hl)).append ((t2.same (À.upd kf)).same (À.upd hl));have hlen:(xs++ys).length=20:=by rw[t3.length];rfl
 have kH:r.toNat<(xs++ys).length:=Â;have e:(xs++ys)[r.toNat]?=some ((xs++ys)[r.toNat]):=á kH;obtain⟨d,hd,td⟩:=t3.get e;have dv:ĭ (xs++ys) r=some ((xs++ys)[r.toNat]):=by have:=cJ e;rw[show((r.toNat:Nat):Int)=r by lia]at this;exact this
 refine⟨l,_,r,_,O,O,É.of (by rw[au nl];exact aj),dv,q _ _ ⟨d,λb' o' e' ne=>?_,⟨a',b',aj,g1,g2,g3⟩,?_,(Gr d (Α hd)).1,(Gr d (Α hd)).2⟩⟩;.rw[au ne];exact s5 _ _ e'
 .refine td.keep (λc l' e'=>?_) (λc o' hc e'=>?_) λ_ _ z _=>z
  .have:c≠st:=λz=>by rw[z,s5 _ _ es]at e';cases e'
   rw[au this];exact e'
  .have:c≠st:=λz=>by rw[z,es]at hc;cases hc.1
   rw[au this];exact e'
theorem iM(hK:X.K=K):IxR X (O6 K):=by subst hK;exact bO
theorem jq:∀(is:WF),ô (is.map PyData.int)=is.length|[]=>rfl|i::is=>by show 1+ô (is.map PyData.int)=is.length+1;rw[jq is];lia
theorem QG:([ϊ,ă,"_law_wide"]:ð).Nodup:=by decide+kernel
theorem Z0f:Ã [ă,Ų,"_law_wide",Ε,"_law_turn"] [ă,Ų] (aD (top 78)):=ú
structure Mk3(st p3:Addr)(xs:List V)(ds:Ģ)(H H':Hp):Prop where
 bt:ţ st H H'
 sa:gH H' st
 e3:H' p3=some (.lst xs)ts:Å (λ_=>False) H' xs ds
theorem Mk3.take(g:Mk3 st p3 xs ds H H')(np:p3≠st)(h1:0<=a)(h2:0<=b)(h3:b<4294967296):Mk3 st p3 xs ds H (upd H' st (.lst [.int a,.int b])):=by
 refine⟨λb' o' e' ne=>?_,⟨a,b,aj,h1,h2,h3⟩,by rw[au np];exact g.e3,g.ts.keep (λc l e=>?_) (λ_ _ z _=>z.elim) λ_ _ z _=>z.elim⟩;.rw[au ne];exact g.bt b' o' e' ne
 .obtain⟨x,y,e7,_⟩:=g.sa;have:c≠st:=λz=>by rw[z,e7]at e;cases e
  rw[au this];exact e
theorem Mk3.new(g:Mk3 st p3 xs ds H H')(hp:H' p=none):Mk3 st p3 xs ds H (upd H' p o):=by obtain⟨x,y,e7,k⟩:=g.sa;exact⟨λb' o' e' ne=>À.upd hp _ _ (g.bt b' o' e' ne),⟨x,y,À.upd hp _ _ e7,k⟩,À.upd hp _ _ g.e3,g.ts.same (À.upd hp)⟩
theorem ķ:bootBuiltins "min"=some (.builtin "min"):=by decide+kernel
theorem ύ:Ã [ă,Ų,AAq,Ε,"_law_wide","_law_turn","_law_first","_law_last","_law_price",AAx] [ă,Ų,AAq] (aD (top 79)):=ú
structure Dr(st:Addr)(H H':Hp):Prop where
 bt:ţ st H H'
 sa:gH H' st
theorem ţ.refl:ţ st H H:=λ_ _ e _=>e
theorem Dr.same(g:Dr st H H1)(s:À H1 H2):Dr st H H2:=by obtain⟨a,b,e,k⟩:=g.sa;exact⟨λb' o' e' ne=>s _ _ (g.bt b' o' e' ne),a,b,s _ _ e,k⟩
theorem Dr.trans(g:Dr st H H1)(g':Dr st H1 H2):Dr st H H2:=⟨λb' o' e' ne=>g'.bt _ _ (g.bt b' o' e' ne) ne,g'.sa⟩
theorem Dr.take(g:Dr st H H1)(h1:0<=a)(h2:0<=b)(h3:b<4294967296):Dr st H (upd H1 st (.lst [.int a,.int b])):=⟨λb' o' e' ne=>by rw[au ne];exact g.bt b' o' e' ne,a,b,aj,h1,h2,h3⟩
theorem Dr.new(g:Dr st H H1)(hp:H1 p=none):Dr st H (upd H1 p o):=g.same (À.upd hp)
theorem Dr.ne(g:Dr st H H1)(hp:H1 p=none):p≠st:=λz=>by obtain⟨a,b,e,_⟩:=g.sa;rw[z,e]at hp;cases hp
theorem Dr.free(g:Dr st H H1)(hp:H1 p=none):H p=none:=by cases e:H p with|none=>rfl;|some o=>rw[g.bt _ _ e (g.ne hp)]at hp;cases hp
theorem Dr.put(g:Dr st H H1)(hp:H p=none)(np:p≠st):Dr st H (upd H1 p o):=by obtain⟨a,b,e,k⟩:=g.sa;refine⟨λb' o' e' ne=>?_,a,b,by rw[au np.symm];exact e,k⟩;rw[au (aA e' hp)];exact g.bt b' o' e' ne
theorem Dr.th{F:Addr->Prop}(g:Dr st H H1)(h0:gH H st)(hF:F st)(t:Ó (λa=>¬F a) H v d):Ó (λa=>¬F a) H1 v d:=by obtain⟨a,b,e,_⟩:=h0;refine t.keep (λc l e'=>g.bt _ _ e' λz=>?_) (λc o hc e'=>g.bt _ _ e' λz=>hc (z▸hF)) λ_ _ z _=>z;rw[z,e]at e';cases e'
theorem Dr.ths{F:Addr->Prop}(g:Dr st H H1)(h0:gH H st)(hF:F st)(t:Å (λa=>¬F a) H v d):Å (λa=>¬F a) H1 v d:=by obtain⟨a,b,e,_⟩:=h0;refine t.keep (λc l e'=>g.bt _ _ e' λz=>?_) (λc o hc e'=>g.bt _ _ e' λz=>hc (z▸hF)) λ_ _ z _=>z;rw[z,e]at e';cases e'
structure Fb(F:Addr->Prop)(st:Addr)(H:Hp):Prop where
 st:F st
 sys:F sysModules
 new:∀a,F a->H a=none->a=sysModules
theorem Fb.dr{st:Addr}(f:Fb F st H)(g:Dr st H H1):Fb F st H1:=⟨f.st,f.sys,λa ha hn=>f.new a ha (g.free hn)⟩
theorem Fb.with{st p:Addr}(f:Fb F st H)(hp:H p=some o):Fb (λa=>F a\/a=p) st H:=⟨.inl f.st,.inl f.sys,λa ha hn=>ha.elim (λz=>f.new a z hn) λz=>by rw[z,hp]at hn;cases hn⟩
theorem Z0j.dr(m:Z0j st H n v H')(f:Fb F st H):∃d,Dr st H H'/\Ó (λa=>¬F a) H' v d/\tm (2^100) d=true/\sz d<=n:=by obtain⟨d,bt,sa,t,m1,z⟩:=m;exact⟨d,⟨bt,sa⟩,t.keep (λ_ _ e=>e) (λ_ _ _ e=>e) λa o ha _ hF=>ha.2 (f.new a hF ha.1),m1,z⟩
inductive ŧ(k:Int)(vs:List V)(H:Hp)(Q:VK):Prop|mk:∀F st v d deep B,(vs=[.ref st,v,.int deep])->(gH H st)->(Fb F st H)->(0<=deep)->(deep<k)->(Ó (λa=>¬F a) H v d)->(tm B d=true)->(2^100<=B)->(sz d<=1000)->(∀v' H' d',Dr st H H'->Ó (λa=>¬F a) H' v' d'->tm (B+1000000) d'=true->sz d'<=2*sz d+10->Q v' H')->ŧ k vs H Q
def mD(k:Int):Sp:=λvs H Q _=>ŧ k vs H Q
theorem JC(hr:ï k A):A.units<cLine:=by have:=hr.un;lia
theorem yJ:bootBuiltins "list"=some (.type "list"):=by decide+kernel
theorem sc30:Ã [ă,Ĳ,AAy,"_law_at","_law_kind_here",AAv] [ă,Ĳ,AAy] (aD (top 96)):=ú
theorem tV(F:æ K ABe ABe (top 96) f fd)(T:Mg mg)(Tl:mg "list"=none)(c1:â P w K mg base 1 AAs [ă,AAo] jo)(c2:â P w K mg base 1 ABh [Ĳ] (Ŕ cP))(c3:â P w K mg base 2 "_law_odd" [ă] Gs)(c4:â P w K mg base (3+k) ABe [ă,Ĳ,AAy] (mD k)):Ñ P w K mg base å (3+k+1) f fd [ă,Ĳ,AAy] (mD (k+1:Nat)):=by
 refine F.oq sc30 λar A outer s H vs Q E hr h=>?_;obtain⟨F,st,v,d,deep,B,rfl,dS,fb,d0,d1,th,AL,hB,hz,q⟩:=h;refine⟨_,aC (cO (PW.pt (El (dD (aH (hjk:=Â) c2 hr (aq (pv 1) ao))) (zH (bu lq (aH (hjk:=Â) c1 hr (aq (pv 0) (aq aB ao))) aB (bj _))))) (aF (aQ (aU bw (pv 1) (pX bO (uH (jZ aB (jZ (pU jO aB) (jZ aB (jZ (pU jO aB) (jZ aB (jZ (aU pW aB aB) bN))))))) (aH (hjk:=Â) c1 hr (aq (pv 0) (aq aB ao))))))) bD) (aC (cO (PW.pt (nZ (cR (dD (aJ dM O T.isinstance Ø (aq (pv 1) (aq (ig O T.tuple Þ (v:=.ty "tuple") O) ao))))) (nZ (bu (CG (JC hr)) (pv 1) (Ab bN) (bj _)) (pP (bu gP (pv 2) aB (bj _)))))) (aF (aQ (aH (hjk:=Â) c3 hr (aq (pv 0) ao)))) bD) (aC (Ae (i:=3) (j:=4) (k:=5) O sc30.nd O O O Ù Ù Ù O O O (aq (aH (hjk:=Â) c1 hr (aq (pv 0) (aq (aJ bQ O T.len PySem.boot_len (aq (pv 1) ao)) ao))) (aq (aH (hjk:=Â) c1 hr (aq (pv 0) (aq aB ao))) (aq (cH jK O Tl yJ (aq (pv 1) ao)) ao))) O) (aC (cO (bu gP (pv 4) aB (bj _)) (aF (cg (fD Β PySem.F.slot_list_insert PySem.F.type_list_insert tE (pv 5) (aq (pv 3) (aq (aH (hjk:=Â) c3 hr (aq (pv 0) ao)) ao))))) (aF (cO (bu gP (pv 4) aB (bj _)) (aF (cg (fD Β PySem.F.slot_list_pop PySem.F.type_list_pop vM (pv 5) (aq (pv 3) ao)))) (aF (cO (bu gP (pv 4) aB (bj _)) (aF (cg (fD Β PySem.F.slot_list_insert PySem.F.type_list_insert tE (pv 5) (aq (pv 3) (aq (pX bO (pv 5) (pv 3)) ao))))) (aF (cO (bu gP (pv 4) aB (bj _)) (aF (aQ (pv 5))) (aF (cO (bu gP (pv 4) aB (bj _)) (aF (cg (fD Β zBb zBa dw (pv 5) (aq (fD Β PySem.F.slot_list_pop PySem.F.type_list_pop vM (pv 5) (aq (pv 3) ao)) ao)))) (aF (cV (aH (hjk:=Â) c4 hr (aq (pv 0) (aq (pX bO (pv 5) (pv 3)) (aq (aU dJ (pv 2) aB) ao)))) (mX (pv 5) (pv 3) ą)))))))))))) (aF (aQ (cH cB O T.tuple Þ (aq (pv 5) ao))))))),?_⟩;have VJ:sz d<=4000:=Â;have g0:Dr st H H:=⟨ţ.refl,dS⟩;refine aM ?_;refine⟨_,O,_,v,d,O,th,VJ,λH1 s1=>⟨_,O,?_⟩⟩;have g1:Dr st H H1:=g0.same s1;have odd:∀H2 v' H',Dr st H H2->Z0j st H2 6 v' H'->Q v' H':=λH2 v' H' g2 m=>by obtain⟨d',g3,t3,m3,z3⟩:=m.dr (fb.dr g2);exact q v' H' d' (g2.trans g3) t3 (Ι Â _ m3) Â
 cases ew:cP d with|true=>
  obtain⟨i,rfl,rfl⟩:=gJ th ew;refine bK ?_;refine⟨_,O,st,4,O,g1.sa,by decide,by decide,λr a1 b1 r0 r1 k1 k2 k3=>⟨_,_,O,O,_,O,?_⟩⟩;have g2:=g1.take k1 k2 k3;refine rA (λ_=>?_) (λ_=>?_)
  .refine⟨_,O,1,O,5,O,_,_,O,O,⟨by decide,by decide,by decide⟩,zL,λp hp=>?_⟩;have g3:=g2.new (o:=.lst [V.int 1,V.int (-1),V.int 5,V.int (-5),V.int 1000,V.int (10^(6:Int).toNat)]) hp;refine⟨_,O,st,6,O,g3.sa,by decide,by decide,λr2 a2 b2 x0 x1 y1 y2 y3=>?_⟩;obtain⟨wd,hw,w1,w2⟩:∃wd:Int,ĭ [V.int 1,V.int (-1),V.int 5,V.int (-5),V.int 1000,V.int (10^(6:Int).toNat)] r2=some (.int wd)/\-5<=wd/\wd<=1000000:=by
    have:r2=0\/r2=1\/r2=2\/r2=3\/r2=4\/r2=5:=Â;rcases this with rfl|rfl|rfl|rfl|rfl|rfl;.exact⟨1,O,by decide,by decide⟩
    .exact⟨-1,O,by decide,by decide⟩
    .exact⟨5,O,by decide,by decide⟩
    .exact⟨-5,O,by decide,by decide⟩
    .exact⟨1000,O,by decide,by decide⟩
    .exact⟨_,O,by decide,by decide⟩
   refine⟨p,_,r2,.int wd,O,O,É.of (by rw[au (g2.ne hp)];exact aj),hw,i,wd,O,O,?_⟩;have AL:decide (i.natAbs<B)=true:=AL;rw[č]at AL;exact q _ _ (.int (i+wd)) (g3.take y1 y2 y3) (.int _) (ø (show(i+wd).natAbs<B+1000000 by lia)) (by show 1<=2*1+10;decide)
  .refine⟨_,O,.int i,_,"tuple",false,O,(Ó.int (S:=λ_=>False) i).ty,oY (.int i),_,O,?_⟩;exact bK (bK ⟨_,O,st,O,g2.sa,λv' H' m=>odd _ _ _ g2 m⟩);|false=>refine bB (cW ?_);dsimp only;refine aM ?_;refine⟨_,O,v,_,"tuple",fP d,O,(g1.th dS fb.st th).ty,oY d,_,O,?_⟩;cases et:fP d with|false=>exact bK (bK ⟨_,O,st,O,g1.sa,λv' H' m=>odd _ _ _ g1 m⟩);|true=>refine bB ?_;cases th with
 |@tup a xs ds ea r=>
    have hl:=r.length;have MI:=pq ds;have sf:1+ô ds<=1000:=hz;have na:a≠st:=λz=>by obtain⟨x,y,e,_⟩:=dS;rw[z,e]at ea;cases ea
    refine⟨_,O,zL,λp0 HV=>⟨a,p0,xs,O,O,Ð.of (À.upd HV _ _ (s1 _ _ ea)),Ð.of aj,_,O,?_⟩⟩;have g2:=g1.new (o:=.tup []) HV;cases hx:xs.isEmpty with|true=>exact bK (bK ⟨_,O,st,O,g2.sa,λv' H' m=>odd _ _ _ g2 m⟩);|false=>
     refine bB ?_;refine⟨_,O,O,_,O,?_⟩;by_cases Ra:deep=0;.subst Ra;exact bK ⟨_,O,st,O,g2.sa,λv' H' m=>odd _ _ _ g2 m⟩
     .rw[ħ (λz:V.int deep=V.int 0=>Ra (by injection z))];refine bB (cW ?_);dsimp only;refine aM ?_;have vt:1<=xs.length:=by cases xs with|nil=>cases hx;|cons _ _=>exact Nat.le_add_left 1 _
      have Cb:=g2.bt _ _ ea na;refine⟨_,O,_,O,a,xs,O,.inr (Ð.of Cb),st,_,O,g2.sa,Â,Â,λr1 a1 b1 r0 rn k1 k2 k3=>?_⟩;have g3:=g2.take k1 k2 k3;refine⟨_,O,st,10,O,g3.sa,by decide,by decide,λkd a2 b2 _ _ k4 k5 k6=>?_⟩;have g4:=g3.take k4 k5 k6;refine⟨_,O,a,xs,O,Ð.of (g4.bt _ _ ea na),λp hp np=>⟨_,_,_,O,?_⟩⟩;have p0:=g4.free hp;have vw:=g4.ne hp;have g5:=g4.new (o:=.lst xs) hp;generalize Rb:upd (upd (upd (upd H1 _ _) st _) st _) p (.lst xs)=H5 at g5⊢;have e5:H5 p=some (.lst xs):=by rw[<-Rb];exact aj
      clear Rb;have HZ:Fb (λa=>F a\/a=p) st H5:=(fb.dr g5).with e5;have r5:Å (λa=>¬(F a\/a=p)) H5 xs ds:=r.keep (λc l e'=>g5.bt _ _ e' λz=>by obtain⟨x,y,e,_⟩:=dS;rw[z,e]at e';cases e') (λc o hc e'=>g5.bt _ _ e' λz=>hc (z▸fb.st)) λc o hc e'=>λz=>z.elim hc λz=>by rw[z,p0]at e';cases e'
      have put:∀{Hc:Hp}{ys zs ws:List V}{es:Ģ},Hc p=some (.lst ys)->Å (λa=>¬(F a\/a=p)) Hc ws es->Å (λa=>¬(F a\/a=p)) (upd Hc p (.lst zs)) ws es:=λ{Hc ys zs ws es}e t=>t.keep (λc l e'=>by
        have:c≠p:=λz=>by rw[z,e]at e';cases e'
        rw[au this];exact e') (λc o hc e'=>by have:c≠p:=λz=>hc (.inr z);rw[au this];exact e') λ_ _ z _=>z;have ML:∀{Hc:Hp}{ys zs:List V}{w:V}{e1:PyData},Hc p=some (.lst ys)->Ó (λa=>¬(F a\/a=p)) Hc w e1->Ó (λa=>¬(F a\/a=p)) (upd Hc p (.lst zs)) w e1:=λ{Hc ys zs w e1}e t=>by have:=put (zs:=zs) e (.cons t .nil);cases this with|cons h _=>exact h
      have fin:∀{Hc:Hp}{ys:List V}{es:Ģ}{l:Addr},Dr st H Hc->Hc p=some (.lst ys)->Å (λa=>¬(F a\/a=p)) Hc ys es->ς (B+1000000) es=true->1+ô es<=2*(1+ô ds)+10->Hc l=none->Q (.ref l) (upd Hc l (.tup ys)):=λ{Hc ys es l}g e t h1 h2 hn=>q _ _ (.tuple es) (g.new hn) (.tup aj ((t.same (À.upd hn)).keep (λ_ _ e=>e) (λ_ _ _ e=>e) λ_ _ z _ zF=>z (.inl zF))) h1 h2;have VL:r1.toNat<xs.length:=Â;have er:xs[r1.toNat]?=some xs[r1.toNat]:=á VL;obtain⟨di,EZ,ti⟩:=r5.get er;have dv:ĭ xs r1=some xs[r1.toNat]:=by have:=cJ er;rw[show((r1.toNat:Nat):Int)=r1 by lia]at this;exact this
      have Ic:ώ xs.length r1=some r1.toNat:=by unfold ώ;rw[Ì r0,Ì Â]
      have Rc:=uo Ic;have AL:ς B ds=true:=AL;have vx:ς (B+1000000) ds=true:=uR Â _ AL;have Rf:tm B di=true:=ç.mp AL di (Α EZ);have E1:tm (B+1000000) di=true:=Ι Â _ Rf;have zi:=pA (Α EZ);have Iq:xs.length<sizeLine:=by rw[sizeLine_eq];lia
      refine aM ?_;refine⟨_,O,O,_,O,rA (λ_=>?_) λ_=>⟨_,O,O,_,O,rA (λ_=>?_) λ_=>⟨_,O,O,_,O,rA (λ_=>?_) λ_=>⟨_,O,O,_,O,rA (λ_=>?_) λ_=>⟨_,O,O,_,O,rA (λ_=>?_) λ_=>?_⟩⟩⟩⟩⟩
      .refine⟨_,O,.inl ⟨O,_,É.of e5⟩,_,O,_,O,st,O,g5.sa,λv' H6 m=>?_⟩;obtain⟨d',g6,t6,m6,z6⟩:=m.dr HZ;have e6:=g6.bt _ _ e5 vw;refine⟨p,xs,r1,v',O,O,e6,r0,Â,Iq,?_⟩;refine⟨_,O,p,_,O,.inl ⟨É.of aj,λl gy=>fin (es:=ds.take r1.toNat++d'::ds.drop r1.toNat) ((g5.trans g6).put p0 vw) aj ?_ ?_ ?_ gy⟩⟩;.have r6:=g6.ths g5.sa HZ.st r5;exact put e6 ((r6.take _).append (.cons t6 (r6.drop _)))
       .refine ç.mpr λx hx=>?_;rcases ė.mp hx with z|z;.exact ç.mp vx x (Za2 z)
        .rcases ĩ.mp z with z|z;.rw[z];exact Ι Â _ m6
         .exact ç.mp vx x (Zbk z)
       .rw[Az];lia
      .refine⟨_,O,.inl ⟨O,_,É.of e5⟩,_,O,?_⟩;refine⟨p,xs,r1,r1.toNat,_,O,O,e5,Â,Â,Rc.1,er,?_⟩;refine⟨_,O,p,_,O,.inl ⟨É.of aj,λl gy=>fin (es:=ds.eraseIdx r1.toNat) (g5.put p0 vw) aj (put e5 (r5.erase _)) ?_ ?_ gy⟩⟩;.exact ç.mpr λx hx=>ç.mp vx x (List.mem_of_mem_eraseIdx hx)
       .have:=uV EZ;lia
      .refine⟨_,O,.inl ⟨O,_,É.of e5⟩,_,O,_,O,_,O,p,xs,r1,_,O,O,É.of e5,dv,?_⟩;refine⟨p,xs,r1,_,O,O,e5,r0,Â,Iq,?_⟩;refine⟨_,O,p,_,O,.inl ⟨É.of aj,λl gy=>fin (es:=ds.take r1.toNat++di::ds.drop r1.toNat) (g5.put p0 vw) aj (put e5 ((r5.take _).append (.cons ti (r5.drop _)))) ?_ ?_ gy⟩⟩
       .refine ç.mpr λx hx=>?_;rcases ė.mp hx with z|z;.exact ç.mp vx x (Za2 z)
        .rcases ĩ.mp z with z|z;.rw[z];exact E1
         .exact ç.mp vx x (Zbk z)
       .rw[Az];lia
      .refine⟨_,O,?_⟩;refine q _ _ (.list ds) g5 (.lst (λz=>np (fb.new p z p0)) e5 (r5.keep (λ_ _ e=>e) (λ_ _ _ e=>e) λ_ _ z _ zF=>z (.inl zF))) vx ?_;show 1+ô ds<=2*(1+ô ds)+10;lia
      .refine⟨_,O,.inl ⟨O,_,É.of e5⟩,_,O,.inl ⟨O,_,É.of e5⟩,_,O,?_⟩;refine⟨p,xs,r1,r1.toNat,_,O,O,e5,Â,Â,Rc.1,er,?_⟩;have hle:=nj xs r1.toNat;refine⟨p,_,_,O,O,aj,Â,?_⟩;refine⟨_,O,p,_,O,.inl ⟨É.of aj,λl gy=>fin (es:=ds.eraseIdx r1.toNat++[di]) ((g5.put p0 vw).put p0 vw) aj (put aj ((put e5 (r5.erase _)).append (.cons (ML e5 ti) .nil))) ?_ ?_ gy⟩⟩
       .refine ç.mpr λx hx=>?_;rcases ė.mp hx with z|z;.exact ç.mp vx x (List.mem_of_mem_eraseIdx z)
        .rw[Ř.mp z];exact E1
       .have:=uV EZ;rw[uU];show 1+(ô (ds.eraseIdx r1.toNat)+(sz di+0))<=_;lia
      .refine⟨_,O,_,O,_,O,p,xs,r1,_,O,O,É.of e5,dv,_,O,_,_,O,O,?_⟩;refine⟨_,st,_,di,deep-1,B,O,g5.sa,HZ,Â,Â,ti,Rf,hB,Â,λv' H6 d' g6 t6 m6 z6=>?_⟩;have e6:=g6.bt _ _ e5 vw;refine⟨_,O,_,O,p,xs,r1,r1.toNat,O,O,e6,Ic,?_⟩;refine⟨_,O,p,_,O,.inl ⟨É.of aj,λl gy=>fin (es:=ds.set r1.toNat d') ((g5.trans g6).put p0 vw) aj (put e6 ((g6.ths g5.sa HZ.st r5).set t6 _)) ?_ ?_ gy⟩⟩
       .refine ç.mpr λx hx=>?_;rcases List.mem_or_eq_of_mem_set hx with z|z;.exact ç.mp vx x z
        .rw[z];exact m6
       .have:=Ba (e:=d') EZ;lia
   |_=>cases et
theorem yK:Ñ P w K mg base å 3 f fd [ă,Ĳ,AAy] (mD (0:Nat)):=by
 refine⟨λvs H Q E h=>?_,λA outer s H args us vs Q E hr he hb hv h=>?_⟩;.obtain⟨F,st,v,d,deep,B,rfl,_⟩:=h;rfl
 .obtain⟨F,st,v,d,deep,B,rfl,_,_,h0,h1,_⟩:=h;exact absurd h1 Â
def cN(r:WF):PyData:=.tuple (r.map .int)
def bY(rs:UV):PyData:=.tuple (rs.map cN)
def fl(r:WF)(i:Nat):Int:=r.getD i 0
def ĝ(r:WF):Prop:=r.length=6/\(0<=fl r 0/\fl r 0<8)/\(0<=fl r 1/\fl r 1<3)/\(0<=fl r 2/\fl r 2<=fl r 3/\fl r 3<=19)/\(1<=fl r 4/\fl r 4<=99)/\(0<=fl r 5/\fl r 5<=1000000)
def gC(d:PyData):Bool:=bL d 0 12&&(items d).all λx=>bA x 5
def ì(d:PyData):UV:=(items d).map λx=>(items x).map à
theorem Gu:∀{ds:Ģ},(∀x∈ds,cP x=true)->ds=(ds.map à).map PyData.int|[],_=>rfl|d::ds,h=>by rw[Ĵ,Ĵ,<-Gu λx hx=>h x (Zaj _ hx)];have:=h d Zao;cases d with|int i=>rfl;|_=>cases this
theorem kJ{n:Nat}(h:bA x n=true):x=cN ((items x).map à)/\((items x).map à).length=n:=by obtain⟨h1,h2⟩:=iJ h;unfold bL at h1;rw[Ī,Ī,č,č]at h1;obtain⟨ht,fk,iE⟩:=h1;cases x with|tuple ds=>have fk:(n:Int)<=ds.length:=fk;have iE:(ds.length:Int)<=n:=iE;refine⟨?_,by show(ds.map à).length=n;rw[Õ];lia⟩;exact congrArg PyData.tuple (Gu h2);|_=>cases ht
theorem Bb{ds:Ģ}{n:Nat}(h:∀x∈ds,bA x n=true):ds=(ds.map λx=>(items x).map à).map cN:=by induction ds with|nil=>rfl;|cons d ds ih=>rw[Ĵ,Ĵ,<-ih λx hx=>h x (Zaj _ hx),<-(kJ (h d Zao)).1]
theorem nO{f m:Int}(h:bL d f m=true):∃ds,d=.tuple ds/\f<=ds.length/\(ds.length:Int)<=m:=by unfold bL at h;rw[Ī,Ī,č,č]at h;cases d with|tuple ds=>exact⟨ds,O,h.2⟩;|_=>cases h.1
theorem tX(r:WF)(i:Nat)(h:i<r.length):at_ (cN r) i=fl r i:=by show à ((r.map PyData.int).getD i .none)=r.getD i 0;rw[ę,ę,Ą,á h];rfl
theorem yL(h:gB d=true):d=bY (ì d)/\(ì d).length<=10/\∀r∈ì d,ĝ r:=by
 unfold gB at h;rw[Ī]at h;obtain⟨ds,rfl,_,hl⟩:=nO h.1;have h2:∀x∈ds,mq x=true:=ņ.mp h.2;have h3:∀x∈ds,bA x 6=true:=λx hx=>by have:=h2 x hx;unfold mq at this;rw[Ī]at this;exact this.1
 refine⟨congrArg PyData.tuple (Bb (n:=6) h3),by show(ds.map _).length<=10;rw[Õ];lia,λr hr=>?_⟩;obtain⟨x,hx,rfl⟩:=ó.mp hr;have hx:x∈ds:=hx;obtain⟨e,Iy⟩:=kJ (n:=6) (h3 x hx);have:=h2 x hx;unfold mq at this;rw[Ī]at this;have p:=this.2;rw[e]at p;rw[tX _ 0 Â,tX _ 1 Â,tX _ 2 Â,tX _ 3 Â,tX _ 4 Â,tX _ 5 Â]at p;unfold uP at p;simp only[Bool.and_eq_true,č]at p;obtain⟨⟨a1,a2⟩,⟨b1,b2⟩,⟨c1,c2,c3⟩,⟨d1,d2⟩,e1,e2⟩:=p;exact⟨Iy,⟨a1,a2⟩,⟨b1,b2⟩,⟨c1,c2,c3⟩,⟨d1,d2⟩,e1,e2⟩
theorem yM(h:gC d=true):d=bY (ì d)/\(ì d).length<=12/\∀r∈ì d,r.length=5:=by unfold gC at h;rw[Ī]at h;obtain⟨ds,rfl,_,hl⟩:=nO h.1;have h3:∀x∈ds,bA x 5=true:=ņ.mp h.2;refine⟨congrArg PyData.tuple (Bb (n:=5) h3),by show(ds.map _).length<=12;rw[Õ];lia,λr hr=>?_⟩;obtain⟨x,hx,rfl⟩:=ó.mp hr;exact(kJ (n:=5) (h3 x hx)).2
structure È(H:Hp)(a:Addr)(xs:List V)(rs:UV):Prop where
 e:H a=some (.tup xs)l:xs.length=rs.length
 g:∀(i:Nat)(r:WF),rs[i]?=some r->∃t,xs[i]?=some (V.ref t)/\H t=some (.tup (r.map V.int))
theorem È.keep(h:È H a xs rs)(k:∀b l,H b=some (.tup l)->H' b=some (.tup l)):È H' a xs rs:=⟨k _ _ h.e,h.l,λi r e=>by obtain⟨t,e1,e2⟩:=h.g i r e;exact⟨t,e1,k _ _ e2⟩⟩
theorem È.same(h:È H a xs rs)(s:À H H'):È H' a xs rs:=h.keep λ_ _ e=>s _ _ e
theorem mF:∀{r:WF}{xs:List V},Å S H xs (r.map .int)->xs=r.map V.int|[],_,.nil=>rfl|i::r,_,.cons h t=>by cases h;rw[mF (r:=r) t];rfl
theorem Mx(h:Ó S H v (cN r)):∃t,v=V.ref t/\H t=some (.tup (r.map V.int)):=by generalize hd:cN r=d at h;cases h with|@tup a xs ds e t=>injection hd with hd;subst hd;rw[mF t]at e;exact⟨a,O,e⟩;|_=>cases hd
theorem pC(h:Ó S H v (bY rs)):∃a xs,v=.ref a/\È H a xs rs:=by generalize hd:bY rs=d at h;cases h with|@tup a xs ds e t=>injection hd with hd;subst hd;refine⟨a,xs,O,e,by rw[t.length,Õ],λi r hr=>?_⟩;have hi:i<rs.length:=(Ķ.mp hr).1;have hx:xs[i]?=some (xs[i]'(by rw[t.length,Õ];exact hi)):=á _;obtain⟨d,h1,h2⟩:=t.get hx;rw[Ą,hr]at h1;injection h1 with h1;subst h1;obtain⟨t',e1,e2⟩:=Mx h2;exact⟨t',by rw[hx,e1],e2⟩;|_=>cases hd
theorem È.th:∀{rs:UV}{xs:List V},È H a xs rs->Ó (λ_=>False) H (.ref a) (bY rs):=by
 intro rs xs h;refine .tup h.e ?_;have gen:∀(rs:UV)(xs:List V),xs.length=rs.length->(∀(i:Nat)(r:WF),rs[i]?=some r->∃t,xs[i]?=some (V.ref t)/\H t=some (.tup (r.map V.int)))->Å (λ_=>False) H xs (rs.map cN):=by intro rs;induction rs with|nil=>intro xs hl _;have:xs=[]:=Zbp.mp hl;subst this;exact .nil;|cons r rs ih=>intro xs hl hg;cases xs with|nil=>simp at hl;|cons x xs=>
    obtain⟨t,e1,e2⟩:=hg 0 r O;have e1:x=.ref t:=by simpa using e1
    subst e1;exact .cons (.tup e2 (Å.ints r)) (ih xs (by simpa using hl) λi r' e=>hg (i+1) r' (by simpa using e))
 exact gen rs xs h.l h.g
def kO(L:WF)(i:Int)(v:Int):WF:=L.set i.toNat (L.getD i.toNat 0+v)
def Ć(n y:Int)(L:WF)(s:WF):WF:=if fl s 0=n/\fl s 4<=y then kO (kO L (fl s 1) (-(fl s 3))) (fl s 2) (fl s 3)else L
def Ğ(p:WF):WF:=(List.replicate 8 0).set (fl p 0).toNat (fl p 4)
def bZ(p:WF)(ss:UV)(n y:Int):WF:=if fl p 2<=y/\y<=fl p 3 then ss.foldl (Ć n y) (Ğ p)else List.replicate 8 0
def qM(ps:UV)(s:WF):WF:=ps.getD (fl s 0).toNat []
def rQ(ps:UV)(s:WF):Bool:=(decide (0<=fl s 0)&&decide (fl s 0<ps.length))&&((decide (0<=fl s 1)&&decide (fl s 1<8))&&((decide (0<=fl s 2)&&decide (fl s 2<8))&&((!decide (fl s 1=fl s 2))&&((decide (1<=fl s 3)&&decide (fl s 3<=99))&&(decide (fl (qM ps s) 2<=fl s 4)&&decide (fl s 4<=fl (qM ps s) 3))))))
def years(a b:Int):WF:=(List.range (b+1-a).toNat).map λ(i:Nat)=>a+i
def f9(ps ss:UV)(s:WF):Bool:=rQ ps s&&(years (fl s 4) (fl (qM ps s) 3)).all λy=>decide (fl s 3<=(bZ (qM ps s) ss (fl s 0) y).getD (fl s 1).toNat 0)
def un(ps ss:UV):Option Nat:=(List.range ss.length).find? λi=>!f9 ps (ss.take i) (ss.getD i [])
theorem jr(L:WF)(i v:Int):(kO L i v).length=L.length:=by unfold kO;rw[Za9]
theorem Dw(n y:Int)(L s:WF):(Ć n y L s).length=L.length:=by
 unfold Ć;split;.rw[jr,jr]
 .rfl
theorem fW(p:WF)(ss:UV)(n y:Int):(bZ p ss n y).length=8:=by
 unfold bZ;split
 .have:∀(ss:UV)(L:WF),L.length=8->(ss.foldl (Ć n y) L).length=8:=by intro ss;induction ss with|nil=>exact λL h=>h;|cons s ss ih=>exact λL h=>ih _ (by rw[Dw];exact h)
  exact this ss _ (by unfold Ğ;rw[Za9,Zbg])
 .rw[Zbg]
theorem jG:NK X (λx y H Q=>Xe4 λp xs i v=>Xa6 (x=.ref p) (y=.int i) (É X.K H p xs) (0<=i) (xs[i.toNat]?=some v) (Q v H)):=by intro Á s σ H x y v u Q I rx ry h;obtain⟨p,xs,i,z,rfl,rfl,hq,h0,he,q⟩:=h;cases rx;obtain⟨t,rfl⟩:=ry;obtain⟨Æ,r,pl,hz⟩:=I.list hq;obtain⟨w,ew,fh⟩:=r.get he;have hn:=ni;have hl:=r.length;have hi:=(Ķ.mp he).1;exact PySem.wpAny_getItem_list pl.isList h0 Â (by simpa using ew) ⟨z,H,I,fh,q⟩
theorem eV(h:p.length=6):p=[fl p 0,fl p 1,fl p 2,fl p 3,fl p 4,fl p 5]:=by obtain⟨a,b,c,d,e,f,rfl⟩:=Pg h;rfl
theorem jt(h:p.length=5):p=[fl p 0,fl p 1,fl p 2,fl p 3,fl p 4]:=by obtain⟨a,b,c,d,e,rfl⟩:=Pb h;rfl
theorem uW(L:WF)(i:Nat)(v:Int):(L.map V.int).set i (.int v)=(L.set i v).map V.int:=by rw[List.map_set]
theorem fX{L:WF}(h:i<L.length):(L.map V.int)[i]?=some (.int (L.getD i 0)):=by rw[Ą,á h,ę,á h];rfl
theorem Bc{n:Nat}{i:Int}(h0:0<=i)(h1:i<n):ώ n i=some i.toNat:=by unfold ώ;rw[Ì h0,Ì h1]
def τ(s:WF):Prop:=s.length=5/\(0<=fl s 1/\fl s 1<8)/\(0<=fl s 2/\fl s 2<8)
inductive ϧ(vs:List V)(H:Hp)(Q:VK):Prop|mk:∀ap xp ps ai xs ss n y,(vs=[.ref ap,.ref ai,.int n,.int y])->(È H ap xp ps)->(È H ai xs ss)->(0<=n)->(n<ps.length)->(ĝ (ps.getD n.toNat []))->(ss.length<=12)->((∀s∈ss,τ s))->(∀l H',À H H'->H' l=some (.lst ((bZ (ps.getD n.toNat []) ss n y).map V.int))->Q (.ref l) H')->ϧ  vs H Q
def yN:Sp:=λvs H Q _=>ϧ  vs H Q
structure MS(mg:ŋ):Prop where sales:∃t,mg "MOST_SALES"=some (.int 12 t)
theorem Ph:Ã ["thing"] ["thing"] (aD (top 38)):=ú
theorem uX(F:æ K "are_sales" "are_sales" (top 38) f fd)(T:Mg mg)(N:MS mg)(c1:â P w K mg base 2 "are_wholes" ["thing","many"] (Gm bA))(c2:â P w K mg base 1 "is_tuple_of" ["thing","fewest","most"] (my bL)):Ñ P w K mg base å 3 f fd ["thing"] (Ŕ gC):=by refine F.oq Ph λar A outer s H vs Q E hr h=>?_;obtain⟨S,v,d,rfl,th,hz,q⟩:=h;obtain⟨t3,e3⟩:=N.sales;refine⟨_,aF (aQ (cD (aH c2 hr (aq (pv 0) (aq aB (aq (cu (v:=.int 12) O e3 ⟨_,O⟩) ao)))) (dH (aJ (fG O) O T.all ù (aq (bz ["part"] [none] O (gw (pv 0)) (λC fp Á s₂ Ï=>⟨bF (i:=0) (nd1 _) O (Or.inl O),bx,aH c1 hr (aq (pv 0) (aq aB ao))⟩) (λC=>trivial) ⟨O,O,O,O⟩) ao))))),?_⟩;refine⟨_,O,S,v,d,0,12,O,th,hz,λH1 s1=>⟨_,O,?_⟩⟩;have fA:=th.same s1;have fin:=λH'(s:À H H')=>q H' s;unfold gC at fin;cases e:bL d 0 12 with|false=>rw[e]at fin;exact bB (fin _ s1);|true=>rw[e]at fin;refine bK ?_;cases fA with|@tup a xs ds ea r=>exact dG (λx=>bA x 5) O ea r (fJ r hz) (λv d H2 Q2 hm s2 t2 q2=>⟨_,O,S,v,d,5,O,t2,jM hm hz,q2⟩) λH2 s2=>fin _ (s1.trans s2);|_=>cases e
theorem Ē:Ã ["promises","sales","number","year","holder","sort","first","last","sacks","price","held","promise","seller","buyer","sold","since"] ["promises","sales","number","year"] (aD (top 39)):=ú
theorem JD(F:æ K "held_in" "held_in" (top 39) f fd)(N:Nums mg):Ñ P w K mg base å 1 f fd ["promises","sales","number","year"] yN:=by
 refine F.oq Ē λar A outer s H vs Q E hr h=>?_;obtain⟨ap,xp,ps,ai,xs,ss,n,y,rfl,rp,rs,n0,n1,okp,hl,dA,q⟩:=h;obtain⟨t1,e1⟩:=N.holders;refine⟨_,aC (cV (pX bJ (pv 0) (pv 2)) (bR O (az (Ô 4 Ē.nd) (az (Ô 5 Ē.nd) (az (Ô 6 Ē.nd) (az (Ô 7 Ē.nd) (az (Ô 8 Ē.nd) (az (Ô 9 Ē.nd) aX)))))))) (aC (đ 10 Ē.nd (aU Ly (cX (aq aB ao)) (cu (v:=.int 8) O e1 ⟨_,O⟩))) (aC (cO (cR (gQ bW bW (pv 6) (pv 3) (pv 7))) (aF (aQ (pv 10))) bD) (aC (cV (pv 8) (mX (pv 10) (pv 4) ą)) (aC (cF Ł O (gw (pv 1)) (bR O (az (Ô 11 Ē.nd) (az (Ô 12 Ē.nd) (az (Ô 13 Ē.nd) (az (Ô 14 Ē.nd) (az (Ô 15 Ē.nd) aX)))))) (aF (cO (PW.pt (El (bu gP (pv 11) (pv 2) (bj _)) (zH (bu bW (pv 15) (pv 3) (bj _))))) (aC (uh (pv 10) (pv 12) jG (pv 14) Er ą) (aF (uh (pv 10) (pv 13) jG (pv 14) Ep ą))) bD))) (aF (aQ (pv 10))))))),?_⟩;obtain⟨p,hp⟩:∃p,ps[n.toNat]?=some p:=⟨_,á Â⟩;have ep:ps.getD n.toNat []=p:=by rw[ę,hp];rfl
 rw[ep]at okp q;obtain⟨t,ex,et⟩:=rp.g _ _ hp;have p6:=eV okp.1;obtain⟨l6,⟨a1,a2⟩,b,⟨c1,c2,c3⟩,⟨d1,d2⟩,ee⟩:=id okp;have dv:ĭ xp n=some (.ref t):=by have:=cJ ex;rw[show((n.toNat:Nat):Int)=n by lia]at this;exact this
 rw[p6]at et;refine aM ?_;refine⟨_,O,_,O,ap,xp,n,.ref t,O,O,Ð.of rp.e,dv,?_⟩;refine⟨t,_,O,Ð.of et,O,_,_,O,_,_,O,_,_,O,_,_,O,_,_,O,_,_,O,O,?_⟩;dsimp only;refine aM (aV ?_);refine⟨zL,λl0 Rg=>⟨l0,8,_,O,O,aj,by decide,by decide,zL,λl1 fk=>?_⟩⟩;have s1:À H (upd (upd H l0 (.lst [V.int 0])) l1 (.lst (List.replicate (8:Int).toNat [V.int 0]).flatten)):=(À.upd Rg).updR fk;have υ:upd (upd H l0 (.lst [V.int 0])) l1 (.lst (List.replicate (8:Int).toNat [V.int 0]).flatten) l1=some (.lst ((List.replicate 8 (0:Int)).map V.int)):=aj;have AM:H l1=none:=(À.upd Rg).free fk;generalize upd (upd H l0 (.lst [V.int 0])) l1 (.lst (List.replicate (8:Int).toNat [V.int 0]).flatten)=H1 at s1 υ⊢;refine aG ?_;dsimp only;refine aM ?_;refine cz (p:=λi j=>decide (i<=j)) (q:=λi j=>decide (i<=j)) (i:=fl p 2) (j:=y) (k:=fl p 3) (dU O) (dU O) (dU O) _ ⟨_,O,?_⟩;by_cases kQ:fl p 2<=y/\y<=fl p 3
 .rw[ø kQ.1,ø kQ.2];refine bB (cW ?_);dsimp only;refine aM ?_;refine⟨_,O,_,O,_,O,l1,_,fl p 0,(fl p 0).toNat,O,O,υ,Bc a1 (by show fl p 0<8;exact a2),?_⟩;rw[uW];dsimp only;refine aM ?_;have VM:ai≠l1:=aA rs.e AM;refine⟨_,O,ai,O,⟨xs,Ð.of (by rw[au VM];exact s1 _ _ rs.e)⟩,?_⟩;have MM:∀{Hc:Hp}{o:HO},À H Hc->À H (upd Hc l1 o):=λ{Hc o}sm b u e=>by rw[au (aA e AM)];exact sm _ _ e
  refine Iv (xs:=xs) (λi σ Hc=>Xe5 λmn kS gz gE gI=>Xa3 (σ=[some (.ref ap),some (.ref ai),some (.int n),some (.int y),some (.int (fl p 0)),some (.int (fl p 1)),some (.int (fl p 2)),some (.int (fl p 3)),some (.int (fl p 4)),some (.int (fl p 5)),some (.ref l1),mn,kS,gz,gE,gI]) (À H Hc) (Hc l1=some (.lst (((ss.take i).foldl (Ć n y) (Ğ p)).map V.int)))) ?_ ?_ ?_ ?_;.exact⟨none,none,none,none,none,O,MM s1,aj⟩
  .rintro i σ Hc hi⟨mn,kS,gz,gE,gI,rfl,sm,el⟩;exact Ð.of (sm _ _ rs.e)
  .rintro i x σ Hc hx⟨mn,kS,gz,gE,gI,rfl,sm,el⟩;have hi:i<ss.length:=by have:=(Ķ.mp hx).1;rw[rs.l]at this;exact this
   obtain⟨tr,gL,fE⟩:=rs.g i ss[i] (á hi);have:x=.ref tr:=by rw[hx]at gL;exact œ gL
   subst this;obtain⟨o1,⟨o2,o3⟩,o4,o5⟩:=dA ss[i] (Ė hi);have s5:=jt o1;have dE:ss.take (i+1)=ss.take i++[ss[i]]:=by rw[ĺ,á hi];rfl
   have E2:(ss.take (i+1)).foldl (Ć n y) (Ğ p)=Ć n y ((ss.take i).foldl (Ć n y) (Ğ p)) ss[i]:=by rw[dE,List.foldl_append];rfl
   rw[E2];generalize hL:(ss.take i).foldl (Ć n y) (Ğ p)=L at el⊢;have lL:L.length=8:=by have:=fW p (ss.take i) n y;unfold bZ at this;rw[Ì kQ,hL]at this;exact this
   generalize ss[i]=r at fE s5 o2 o3 o4 o5⊢;rw[s5]at fE;refine⟨tr,_,O,Ð.of (sm _ _ fE),O,_,_,O,_,_,O,_,_,O,_,_,O,_,_,O,O,?_⟩;refine⟨_,O,_,O,O,_,O,?_⟩;by_cases hn:fl r 0=n
   .rw[ø (show V.int (fl r 0)=V.int n by rw[hn])];refine bK ?_;refine⟨_,O,_,O,_,_,O,O,_,O,?_⟩;by_cases hy:fl r 4<=y
    .rw[ø hy];refine bK ?_;have e1:Ć n y L r=kO (kO L (fl r 1) (-(fl r 3))) (fl r 2) (fl r 3):=Ì ⟨hn,hy⟩;rw[e1];refine aM ?_;refine⟨_,O,_,O,l1,_,fl r 1,_,O,O,É.of el,o2,fX Â,_,O,_,_,O,O,l1,_,fl r 1,(fl r 1).toNat,O,O,el,Bc o2 (by rw[Õ];lia),?_⟩;rw[uW];have e2:L.set (fl r 1).toNat (L.getD (fl r 1).toNat 0-fl r 3)=kO L (fl r 1) (-(fl r 3)):=by unfold kO;rw[Int.sub_eq_add_neg]
     rw[e2];generalize VN:kO L (fl r 1) (-(fl r 3))=L1;have lL1:L1.length=8:=by rw[<-VN,jr];exact lL
     refine⟨_,O,_,O,l1,_,fl r 2,_,O,O,É.of aj,o4,fX Â,_,O,_,_,O,O,l1,_,fl r 2,(fl r 2).toNat,O,O,aj,Bc o4 (by rw[Õ];lia),?_⟩;rw[uW];exact⟨_,_,_,_,_,O,MM (MM sm),aj⟩
    .rw[ħ hy];refine bB ?_;have e1:Ć n y L r=L:=Ê λz=>hy z.2;rw[e1];exact⟨_,_,_,_,_,O,sm,el⟩
   .rw[ħ (λz:V.int (fl r 0)=V.int n=>hn (by injection z))];refine bB (bB ?_);have e1:Ć n y L r=L:=Ê λz=>hn z.1;rw[e1];exact⟨_,_,_,_,_,O,sm,el⟩
  .rintro σ Hc⟨mn,kS,gz,gE,gI,rfl,sm,el⟩;rw[rs.l,ň]at el;refine⟨_,O,q _ _ sm ?_⟩;unfold bZ;rw[Ì kQ];exact el
 .have hb:(decide (fl p 2<=y)&&decide (y<=fl p 3))=false:=by cases e:(decide (fl p 2<=y)&&decide (y<=fl p 3))with|false=>rfl;|true=>rw[Ī,č,č]at e;exact absurd e kQ
  rw[hb];refine bK ⟨_,O,q _ _ s1 ?_⟩;unfold bZ;rw[Ê kQ];exact υ
theorem wV{Fin:List V->Hp->Prop}(Pv:List V->Hp->Prop)(h0:Pv [] H0)(hz:n<sizeLine)(step:∀i ys H Q,i<n->ys.length=i->Pv ys H->(∀y H',Pv (ys++[y]) H'->Q y H')->te (eJ.set j (some (.int (lo+i)))) H Q)(fin:∀ys H,ys.length=n->Pv ys H->Fin ys H):lB (Itr lo n) (bU j) ye te Fin eJ H0:=by
 refine⟨λi m ys σ H=>m=n-i/\i<=n/\ys.length=i/\(∀o,σ.set j o=eJ.set j o)/\Pv ys H,⟨_,O,į _,O,λ_=>rfl,h0⟩,?_⟩;rintro i m ys σ H⟨rfl,hi,hy,ij,p⟩;refine⟨Â,?_⟩;by_cases aI:i<n;.refine .inr ⟨aI,λx H' y=>?_⟩;obtain⟨e,e2⟩:=y;subst e;subst e2;show te (σ.set j (some (.int (lo+i)))) H' _;rw[ij];exact step i ys H' _ aI hy p λy H2 p2=>⟨n-(i+1),Â,O,aI,by rw[õ,hy];rfl,λo=>by rw[List.set_set],p2⟩
 .have e:i=n:=Â;subst e;exact .inl ⟨Ü _,fin ys H hy p⟩
theorem Pj(a:Ev σ H ta (.int i))(b:Ev σ H tb (.int j)):Ev σ H (Ϲ rNe ta tb) (.bl (!decide (i=j))):=λQ q=>a _ (b _ ⟨O,by have ed:decide (V.int i=V.int j)=decide (i=j):=decide_eq_decide.mpr ⟨λz=>by injection z,λz=>by rw[z]⟩;rw[ed];exact q⟩)
theorem nP(a b:Int):(years a b).length=(b+1-a).toNat:=by unfold years;rw[Õ,Ż]
theorem nQ{i:Nat}(h:i<(b+1-a).toNat):(years a b)[i]?=some (a+i):=by unfold years;rw[Ą,Zap h];rfl
theorem tY{α β:Type}{l:List α}{f:α->β}{ys:List β}{x:α}(ey:ys=(l.take ys.length).map f)(hx:l[ys.length]?=some x):ys++[f x]=(l.take (ys++[f x]).length).map f:=by rw[õ,List.length_singleton,ĺ,hx,ë,<-ey];rfl
inductive Ϫ(vs:List V)(H:Hp)(Q:VK):Prop|mk:∀ap xp ps t s,(vs=[.ref ap,.ref t])->(È H ap xp ps)->((∀r∈ps,ĝ r))->(H t=some (.tup (s.map V.int)))->(s.length=5)->(Q (.bl (rQ ps s)) H)->Ϫ  vs H Q
def Gv:Sp:=λvs H Q _=>Ϫ  vs H Q
inductive γ(vs:List V)(H:Hp)(Q:VK):Prop|mk:∀ap xp ps ai xs ss t s,(vs=[.ref ap,.ref ai,.ref t])->(È H ap xp ps)->((∀r∈ps,ĝ r))->(È H ai xs ss)->(ss.length<=12)->((∀s∈ss,τ s))->(H t=some (.tup (s.map V.int)))->(s.length=5)->(∀H',À H H'->Q (.bl (f9 ps ss s)) H')->γ  vs H Q
def Be:Sp:=λvs H Q _=>γ  vs H Q
def unV:Option Nat->V|none=>.non|some i=>.int i
inductive δ(vs:List V)(H:Hp)(Q:VK):Prop|mk:∀S v d S' u e,(vs=[v,u])->(Ó S H v d)->(Ó S' H u e)->(gB d=true)->(gC e=true)->(sz d<=4000)->(sz e<=4000)->(∀H',À H H'->Q (unV (un (ì d) (ì e))) H')->δ  vs H Q
def Bf:Sp:=λvs H Q _=>δ  vs H Q
theorem fY{ps:UV}{n:Int}(h:∀r∈ps,ĝ r)(h0:0<=n)(h1:n<ps.length):∃p,ps[n.toNat]?=some p/\ps.getD n.toNat []=p/\ĝ p:=by have hn:n.toNat<ps.length:=Â;refine⟨ps[n.toNat],á hn,?_,h _ (Ė hn)⟩;rw[ę,á hn];rfl
theorem ir{n:Int}{r:WF}(h:È H a xs rs)(h0:0<=n)(e:rs[n.toNat]?=some r):∃t,ĭ xs n=some (.ref t)/\H t=some (.tup (r.map V.int)):=by obtain⟨t,e1,e2⟩:=h.g _ _ e;refine⟨t,?_,e2⟩;have:=cJ e1;rw[show((n.toNat:Nat):Int)=n by lia]at this;exact this
theorem Ę:Ã ["promises","sale","number","seller","buyer","sacks","year","holder","sort","first","last","due","price"] ["promises","sale"] (aD (top 40)):=ú
theorem JF(F:æ K "is_sale_between" "is_sale_between" (top 40) f fd)(T:Mg mg)(N:Nums mg):Ñ P w K mg base å 1 f fd ["promises","sale"] Gv:=by
 refine F.oq Ę λar A outer s H vs Q E hr h=>?_;obtain⟨ap,xp,ps,t,r,rfl,rp,okp,et,h5,q⟩:=h;obtain⟨t1,e1⟩:=N.holders;obtain⟨t4,e4⟩:=N.sacks;refine⟨_,aC (cV (pv 1) (bR O (az (Ô 2 Ę.nd) (az (Ô 3 Ę.nd) (az (Ô 4 Ę.nd) (az (Ô 5 Ę.nd) (az (Ô 6 Ę.nd) aX))))))) (aC (cO (cR (gQ bW pY aB (pv 2) (aJ bQ O T.len PySem.boot_len (aq (pv 0) ao)))) (aF (aQ kW)) bD) (aC (cV (pX bJ (pv 0) (pv 2)) (bR O (az (Ô 7 Ę.nd) (az (Ô 8 Ę.nd) (az (Ô 9 Ę.nd) (az (Ô 10 Ę.nd) (az (Ô 11 Ę.nd) (az (Ô 12 Ę.nd) aX)))))))) (aF (aQ (cD (du bW pY aB (pv 3) (cu (v:=.int 8) O e1 ⟨_,O⟩)) (cD (du bW pY aB (pv 4) (cu (v:=.int 8) O e1 ⟨_,O⟩)) (cD (ik Ko (pv 3) (pv 4) (bj _)) (cD (du bW bW aB (pv 5) (cu (v:=.int 99) O e4 ⟨_,O⟩)) (dH (du bW bW (pv 9) (pv 6) (pv 10))))))))))),?_⟩;rw[jt h5]at et;refine aP λc_ ae=>?_;refine⟨_,O,t,_,O,Ð.of et,O,_,_,O,_,_,O,_,_,O,_,_,O,_,_,O,O,?_⟩;refine ae _ _ ?_;clear ae c_;try dsimp only
 refine aM ?_;refine cz (p:=λi j=>decide (i<=j)) (q:=λi j=>decide (i<j)) (i:=0) (j:=fl r 0) (k:=(xp.length:Int)) gm (dU O) (λQ h=>⟨_,O,ap,xp,O,.inr (Ð.of rp.e),h⟩) _ ⟨_,O,?_⟩;have fin:=q;unfold rQ at fin;rw[rp.l];cases e:(decide (0<=fl r 0)&&decide (fl r 0<ps.length))with|false=>rw[e]at fin;exact bK fin;|true=>rw[e]at fin;rw[Ī,č,č]at e;obtain⟨p,hp,ep,op⟩:=fY okp e.1 e.2;obtain⟨tp,dv,fF⟩:=ir rp e.1 hp;rw[eV op.1]at fF;refine bB (cW ?_);dsimp only;refine aM ?_;refine⟨_,O,_,O,ap,xp,_,.ref tp,O,O,Ð.of rp.e,dv,?_⟩;refine⟨tp,_,O,Ð.of fF,O,_,_,O,_,_,O,_,_,O,_,_,O,_,_,O,_,_,O,O,?_⟩;have AN:qM ps r=p:=ep;rw[AN]at fin;exact j5 (cz gm (dU O) gm) (λ_=>j5 (cz gm (dU O) gm) λ_=>j5 (Pj (dU O) (dU O)) λ_=>j5 (cz gm (dU O) gm) λ_=>cz (dU O) (dU O) (dU O)) _ fin
theorem Ŗ:Ã ["promises","ahead","sale","number","seller","buyer","sacks","year","last"] ["promises","ahead","sale"] (aD (top 41)):=ú
theorem QH:(["at","promises","ahead","number","seller","sacks"]:ð).Nodup:=by decide+kernel
theorem Gw(F:æ K "sale_holds" "sale_holds" (top 41) f fd)(T:Mg mg)(Tr:mg "range"=none)(c1:â P w K mg base 1 "is_sale_between" ["promises","sale"] Gv)(c2:â P w K mg base 1 "held_in" ["promises","sales","number","year"] yN):Ñ P w K mg base å 2 f fd ["promises","ahead","sale"] Be:=by refine F.oq Ŗ λar A outer s H vs Q E hr h=>?_;obtain⟨ap,xp,ps,ai,xs,ss,t,r,rfl,rp,okp,rs,hl,dA,et,h5,q⟩:=h;refine⟨_,aC (cO (cR (dD (aH c1 hr (aq (pv 0) (aq (pv 2) ao))))) (aF (aQ kW)) bD) (aC (cV (pv 2) (bR O (az (bF (i:=3) Ŗ.nd O (Or.inr O)) (az (bF (i:=4) Ŗ.nd O (Or.inr O)) (az (Ô 5 Ŗ.nd) (az (bF (i:=6) Ŗ.nd O (Or.inr O)) (az (Ô 7 Ŗ.nd) aX))))))) (aC (đ 8 Ŗ.nd (pX bJ (pX bJ (pv 0) (pv 3)) aB)) (aF (aQ (aJ (fG O) O T.all ù (aq (bz ["at","promises","ahead","number","seller","sacks"] [none,some 0,some 1,some 3,some 4,some 6] O (jC O Tr (aq (pv 7) (aq (aU bw (pv 8) aB) ao))) (λC fp Á s₂ Ï=>⟨Ô 0 QH,bx,ik vH (pX (iM (K:=K) O) (aH c2 hr (aq (pv 1) (aq (pv 2) (aq (pv 3) (aq (pv 0) ao))))) (pv 4)) (pv 5) (bj _)⟩) (λC=>cI (cI (cI (cI (cI trivial))))) ⟨O,O,O,O⟩) ao)))))),?_⟩;have fin:=q;unfold f9 at fin;refine aM ?_;refine⟨_,O,_,O,ap,xp,ps,t,r,O,rp,okp,et,h5,_,O,?_⟩;cases e:rQ ps r with|false=>rw[e]at fin;exact bK (fin _ (À.refl _));|true=>
  rw[e]at fin;refine bB (cW ?_);dsimp only;refine aP λc_ ae=>?_;unfold rQ at e;simp only[Bool.and_eq_true,č]at e;obtain⟨⟨n0,n1⟩,⟨b0,b1⟩,_,_,⟨k0,k1⟩,y0,y1⟩:=e;obtain⟨p,hp,ep,op⟩:=fY okp n0 n1;have AN:qM ps r=p:=ep;rw[AN]at fin y0 y1;obtain⟨tp,dv,fF⟩:=ir rp n0 hp;rw[jt h5]at et;rw[eV op.1]at fF;obtain⟨_,_,_,⟨g1,g2,g3⟩,_⟩:=id op;refine⟨_,O,t,_,O,Ð.of et,O,_,_,O,_,_,O,_,_,O,_,_,O,_,_,O,O,?_⟩;refine ae _ _ ?_;clear ae c_;try dsimp only
  refine aP λc_ ae=>?_;refine aV ?_;refine⟨_,O,_,O,ap,xp,_,.ref tp,O,O,Ð.of rp.e,dv,tp,_,3,.int (fl p 3),O,O,Ð.of fF,O,?_⟩;refine aG ?_;refine ae _ _ ?_;clear ae c_;try dsimp only
  refine⟨_,O,_,O,_,_,O,O,fl r 4,fl p 3+1,O,⟨Â,Â,Â,Â⟩,?_⟩;refine wV (λys Hc=>À H Hc/\ys=((years (fl r 4) (fl p 3)).take ys.length).map λy=>V.bl (decide (fl r 3<=(bZ p ss (fl r 0) y).getD (fl r 1).toNat 0))) ⟨À.refl _,O⟩ ų ?_ ?_
  .rintro i ys Hc Qc hi hy⟨sc,ey⟩qc;refine⟨_,O,_,O,_,O,_,O,ap,xp,ps,ai,xs,ss,fl r 0,fl r 4+i,O,rp.same sc,rs.same sc,n0,n1,by rw[ep];exact op,hl,dA,λl H' s' el=>?_⟩;rw[ep]at el;refine⟨_,O,l,_,fl r 1,.int ((bZ p ss (fl r 0) (fl r 4+i)).getD (fl r 1).toNat 0),O,O,É.of el,?_,_,O,_,_,O,O,qc _ _ ⟨sc.trans s',?_⟩⟩;.unfold ĭ;rw[Bc b0 (by rw[Õ,fW];lia)];exact fX (by rw[fW];lia)
   .have hx:(years (fl r 4) (fl p 3))[ys.length]?=some (fl r 4+(i:Int)):=by rw[hy];exact nQ hi
    exact tY ey hx
  .rintro ys Hc hy⟨sc,ey⟩D hD;rw[Zai (by rw[nP,hy];exact Ü _)]at ey;refine⟨D,(years (fl r 4) (fl p 3)).map λy=>decide (fl r 3<=(bZ p ss (fl r 0) y).getD (fl r 1).toNat 0),O,É.of (by rw[ĳ];rw[ey];exact aj),?_⟩;rw[List.all_map];exact fin _ (sc.updR hD)
theorem gU{xs:List V}(h:i<=xs.length):jP xs none (some (i:Int))=xs.take i:=by unfold jP;rw[HT.sIx_none,HT.sIx_nat,List.drop_zero,Nat.min_eq_left h,Nat.sub_zero]
theorem È.cut(h:È H a xs rs)(i:Nat)(hp:H p=none):È (upd H p (.tup (xs.take i))) p (xs.take i) (rs.take i):=by
 refine⟨aj,by rw[ŉ,ŉ,h.l],λj r e=>?_⟩;have hj:j<i:=by
  rw[List.getElem?_take]at e;split at e;.assumption
  .cases e
 rw[List.getElem?_take_of_lt hj]at e;obtain⟨t,e1,e2⟩:=h.g j r e;exact⟨t,by rw[List.getElem?_take_of_lt hj];exact e1,À.upd hp _ _ e2⟩
theorem uY(h:∀j,j<i->f9 ps (ss.take j) (ss.getD j [])=true)(hi:i<ss.length)(hn:f9 ps (ss.take i) (ss.getD i [])=false):un ps ss=some i:=by unfold un;rw[List.find?_range_eq_some];exact⟨by rw[hn];rfl,Ϙ.mpr hi,λj hj=>by rw[h j hj];rfl⟩
theorem Bg(h:∀j,j<ss.length->f9 ps (ss.take j) (ss.getD j [])=true):un ps ss=none:=by unfold un;rw[List.find?_range_eq_none];exact λj hj=>by rw[h j hj];rfl
theorem mG(h5:s.length=5)(h:f9 ps ss s=true):τ s:=by unfold f9 rQ at h;simp only[Bool.and_eq_true,č]at h;exact⟨h5,h.1.2.1,h.1.2.2.1⟩
theorem ß{ss:UV}(h:i<ss.length):ss.getD i []=ss[i]:=by rw[ę,á h];rfl
def part(d:PyData)(i:Nat):PyData:=(items d).getD i .none
def oE(d:PyData):Bool:=bL d 3 3&&(jn (part d 0)&&(gB (part d 1)&&(gC (part d 2)&&(un (ì (part d 1)) (ì (part d 2))).isNone)))
theorem Z04:Ã ["promises","sales","at","sale"] ["promises","sales"] (aD (top 42)):=ú
theorem Gx(F:æ K "first_unheld" "first_unheld" (top 42) f fd)(Te:mg "enumerate"=none)(c1:â P w K mg base 4 "are_promises" ["thing"] (Ŕ gB))(c2:â P w K mg base 3 "are_sales" ["thing"] (Ŕ gC))(c3:â P w K mg base 2 "sale_holds" ["promises","ahead","sale"] Be):Ñ P w K mg base å 5 f fd ["promises","sales"] Bf:=by
 refine F.oq Z04 λar A outer s H vs Q E hr h=>?_;obtain⟨S,v,d,S',u,e,rfl,IA,ths,hp,hs,zp,zs,q⟩:=h;refine⟨_,aC (cO (cR (dD (aH c1 hr (aq (pv 0) ao)))) sy bD) (aC (cO (cR (dD (aH c2 hr (aq (pv 1) ao)))) sy bD) (aC (cF Ł O (ZT.pi_enum true O Te (aq (pv 1) ao)) (bR O (az (Ô 2 Z04.nd) (az (Ô 3 Z04.nd) aX))) (aF (cO (cR (dD (aH c3 hr (aq (pv 0) (aq (jh Af (pv 1) lu (lz (pv 2))) (aq (pv 3) ao)))))) (aF (aQ (pv 2))) bD))) (aF (aQ pO)))),?_⟩;refine aM ?_;refine⟨_,O,S,v,d,O,IA,zp,λH1 s1=>⟨_,O,?_⟩⟩;rw[hp];refine bB (cW ?_);dsimp only;refine aM ?_;refine⟨_,O,S',u,e,O,ths.same s1,zs,λH2 s2=>⟨_,O,?_⟩⟩;rw[hs];refine bB (cW ?_);dsimp only;have qo:=s1.trans s2;obtain⟨ep,lp,okp⟩:=yL hp;obtain⟨es,ls,dA⟩:=yM hs;have fA:=IA.same qo;have MO:=ths.same qo;rw[ep]at fA;rw[es]at MO;generalize ì d=ps at q lp okp fA;generalize ì e=ss at q ls dA MO;obtain⟨ap,xp,rfl,rp⟩:=pC fA;obtain⟨ai,xs,rfl,rs⟩:=pC MO;refine aM ?_;refine⟨_,O,ai,xs,O,Ð.of rs.e,?_⟩;refine ZT.for_enum true (xs:=xs) (λi σ Hc=>∃x2 x3,σ=[some (.ref ap),some (.ref ai),x2,x3]/\À H2 Hc/\∀j,j<i->f9 ps (ss.take j) (ss.getD j [])=true) ?_ ?_ ?_ ?_;.exact⟨none,none,O,À.refl _,λj hj=>absurd hj (Nat.not_lt_zero _)⟩
 .rintro i σ Hc hi⟨x2,x3,rfl,sm,hh⟩;exact Ð.of (sm _ _ rs.e)
 .rintro i x σ Hc T0 hx⟨x2,x3,rfl,sm,hh⟩nT;have hi:i<ss.length:=by have:=(Ķ.mp hx).1;rw[rs.l]at this;exact this
  have Ic:i<xs.length:=by rw[rs.l];exact hi
  obtain⟨tr,gL,fE⟩:=rs.g i ss[i] (á hi);have:x=.ref tr:=by rw[hx]at gL;exact œ gL
  subst this;have h5:=dA ss[i] (Ė hi);have sT:=sm.updR (o:=.tup [V.int i,V.ref tr]) nT;refine⟨T0,_,O,Ð.of aj,O,_,_,O,_,_,O,O,?_⟩;refine⟨_,O,_,O,_,O,i,O,ai,xs,O,Ð.of (sT _ _ rs.e),λhw=>?_,λ_ p Rh=>?_⟩;.have:=hw.2;rw[HT.sIx_nat]at this;exact absurd this Â
  rw[gU (Zbe Ic)];have sp:=sT.updR (o:=.tup (xs.take i)) Rh;refine⟨_,O,ap,xp,ps,p,xs.take i,ss.take i,tr,ss[i],O,rp.same sp,okp,(rs.same sT).cut i Rh,?_,?_,sp _ _ fE,h5,λH' s'=>⟨_,O,?_⟩⟩;.rw[ŉ];lia
  .intro s VO;obtain⟨j,hj,e'⟩:=Za5 VO;rw[ŉ]at hj;have VP:j<i:=Â;have Ri:j<ss.length:=Â;have e2:ss[j]=s:=by rw[<-e',List.getElem_take]
   rw[<-e2];have:=hh j VP;rw[ß Ri]at this;exact mG (dA _ (Ė Ri)) this
  .cases eh:f9 ps (ss.take i) ss[i]with|false=>refine bK ⟨_,O,?_⟩;have:=q H' (qo.trans (sp.trans s'));rw[uY hh hi (by rw[ß hi];exact eh)]at this;exact this;|true=>
    refine bB ⟨_,_,O,sp.trans s',λj hj=>?_⟩;rcases Nat.lt_succ_iff_lt_or_eq.mp hj with z|z;.exact hh j z
    .rw[z,ß hi];exact eh
 .rintro σ Hc⟨x2,x3,rfl,sm,hh⟩;have:=q Hc (qo.trans sm);rw[Bg λj hj=>hh j (by rw[rs.l];exact hj)]at this;exact this
theorem ϕ:Ã ["thing","clips","promises","sales"] ["thing"] (aD (top 43)):=ú
theorem JG(F:æ K "is_book" "is_book" (top 43) f fd)(c0:â P w K mg base 1 "is_tuple_of" ["thing","fewest","most"] (my bL))(c1:â P w K mg base 4 "are_clips" ["thing"] (Ŕ jn))(c2:â P w K mg base 4 "are_promises" ["thing"] (Ŕ gB))(c3:â P w K mg base 3 "are_sales" ["thing"] (Ŕ gC))(c4:â P w K mg base 5 "first_unheld" ["promises","sales"] Bf):Ñ P w K mg base å 6 f fd ["thing"] (Ŕ oE):=by refine F.oq ϕ λar A outer s H vs Q E hr h=>?_;obtain⟨S,v,d,rfl,th,hz,q⟩:=h;refine⟨_,aC (cO (cR (dD (aH c0 hr (aq (pv 0) (aq aB (aq aB ao)))))) (aF (aQ kW)) bD) (aC (cV (pv 0) (bR O (az (Ô 1 ϕ.nd) (az (Ô 2 ϕ.nd) (az (Ô 3 ϕ.nd) aX))))) (aF (aQ (cD (aH c1 hr (aq (pv 1) ao)) (cD (aH c2 hr (aq (pv 2) ao)) (cD (aH c3 hr (aq (pv 3) ao)) (dH (ik Et (aH c4 hr (aq (pv 2) (aq (pv 3) ao))) pO (bj _))))))))),?_⟩;have fin:=q;unfold oE at fin;refine aM ?_;refine⟨_,O,S,v,d,3,3,O,th,hz,λH1 s1=>⟨_,O,?_⟩⟩;cases e:bL d 3 3 with|false=>rw[e]at fin;exact bK (fin _ s1);|true=>rw[e]at fin;refine bB (cW ?_);dsimp only;obtain⟨ds,rfl,l1,l2⟩:=nO e;have fA:=th.same s1;cases fA with|@tup a xs _ ea r=>obtain⟨v0,v1,v2,d0,d1,d2,rfl,rfl,h0,h1,h2⟩:=Dt r (show ds.length=3 by lia);have z0:=jM (d:=d0) Ö hz;have z1:=jM (d:=d1) Ö hz;have z2:=jM (d:=d2) Ö hz;refine aM ?_;refine⟨_,O,a,_,O,Ð.of ea,O,_,_,O,_,_,O,_,_,O,O,?_⟩;dsimp only;have fin:∀H',À H H'->Q (.bl (true&&(jn d0&&(gB d1&&(gC d2&&(un (ì d1) (ì d2)).isNone))))) H':=fin;refine⟨_,O,S,_,d0,O,h0,z0,λH2 s2=>⟨_,O,?_⟩⟩;cases e0:jn d0 with|false=>rw[e0]at fin;exact bB (fin _ (s1.trans s2));|true=>rw[e0]at fin;refine bK ?_;refine⟨_,O,S,_,d1,O,h1.same s2,z1,λH3 s3=>⟨_,O,?_⟩⟩;cases e1:gB d1 with|false=>rw[e1]at fin;exact bB (fin _ ((s1.trans s2).trans s3));|true=>rw[e1]at fin;refine bK ?_;refine⟨_,O,S,_,d2,O,h2.same (s2.trans s3),z2,λH4 s4=>⟨_,O,?_⟩⟩;cases e2:gC d2 with|false=>rw[e2]at fin;exact bB (fin _ (((s1.trans s2).trans s3).trans s4));|true=>rw[e2]at fin;refine bK ?_;have MQ:=(s2.trans s3).trans s4;refine⟨_,O,_,O,S,_,d1,S,_,d2,O,h1.same MQ,h2.same MQ,e1,e2,z1,z2,λH5 s5=>⟨O,?_⟩⟩;have:=fin H5 (s1.trans (MQ.trans s5));cases eu:un (ì d1) (ì d2)with|none=>rw[eu]at this;exact this;|some i=>rw[eu]at this;exact this
def î(H:Hp)(xs:List V)(rs:UV):Prop:=xs.length=rs.length/\∀(i:Nat)(r:WF),rs[i]?=some r->∃t,xs[i]?=some (V.ref t)/\H t=some (.tup (r.map V.int))
theorem î.keep(h:î H xs rs)(k:∀b l,H b=some (.tup l)->H' b=some (.tup l)):î H' xs rs:=⟨h.1,λi r e=>by obtain⟨t,e1,e2⟩:=h.2 i r e;exact⟨t,e1,k _ _ e2⟩⟩
theorem î.same(h:î H xs rs)(s:À H H'):î H' xs rs:=h.keep λ_ _ e=>s _ _ e
theorem î.nil:î H [] []:=⟨O,λi r e=>by simp at e⟩
theorem î.app(h:î H xs rs)(g:î H ys qs):î H (xs++ys) (rs++qs):=by
 refine⟨by rw[õ,õ,h.1,g.1],λi r e=>?_⟩;by_cases hi:i<rs.length;.rw[zBd hi]at e;obtain⟨t,e1,e2⟩:=h.2 i r e;exact⟨t,by rw[zBd (by rw[h.1];exact hi)];exact e1,e2⟩
 .rw[zBc Â]at e;obtain⟨t,e1,e2⟩:=g.2 _ r e;exact⟨t,by rw[zBc (by rw[h.1];lia),h.1];exact e1,e2⟩
theorem î.one{r:WF}(e:H t=some (.tup (r.map V.int))):î H [.ref t] [r]:=⟨O,λi q e'=>by cases i with|zero=>rw[List.getElem?_cons_zero]at e';cases e';exact⟨t,O,e⟩;|succ i=>simp at e'⟩
theorem eQ(h:r.length=4):r=[fl r 0,fl r 1,fl r 2,fl r 3]:=by match r,h with|[a,b,c,d],_=>rfl
theorem wW{t:TS}{D:ŏ}(h:∀D',(∀σ H,N σ H->D'.nx σ H)->t D' σ H):t {D with nx:=N,ct:=N,bk:=D.nx} σ H:=h _ λ_ _ z=>z
theorem cA{Fin:List V->Hp->Prop}(n:Nat)(Pv:Nat->List V->St->Hp->Prop)(h0:Pv 0 [] eJ H0)(hz:n<sizeLine)(step:∀i ys σ H,i<n->ys.length=i->Pv i ys σ H->J.go i H/\∀x H',J.yld i H x H'->∀R:V->St->Hp->Prop,(∀y bo H4,Pv (i+1) (ys++[y]) bo H4->R y bo H4)->g x σ H' λbo H2=>te bo H2 λy H4=>R y bo H4)(fin:∀ys σ H,ys.length=n->Pv n ys σ H->J.stop n H/\Fin ys H):lB J g ye te Fin eJ H0:=by
 refine⟨λi m ys σ H=>m=n-i/\i<=n/\ys.length=i/\Pv i ys σ H,⟨_,O,į _,O,h0⟩,?_⟩;rintro i m ys σ H⟨rfl,hi,hy,p⟩;refine⟨Â,?_⟩;by_cases aI:i<n;.obtain⟨go,st⟩:=step i ys σ H aI hy p;exact .inr ⟨go,λx H' y=>st x H' y _ λy bo H4 p2=>⟨n-(i+1),Â,O,aI,by rw[õ,hy];rfl,p2⟩⟩
 .have e:i=n:=Â;subst e;exact .inl (fin ys σ H hy p)
def Đ(rs:UV):WF:=rs.map λr=>fl r 3
def aK(rs:UV):Int:=(Đ rs).sum
inductive Φ(vs:List V)(H:Hp)(Q:VK):Prop|mk:∀l xs rs,(vs=[.ref l])->(H l=some (.lst xs))->(î H xs rs)->((∀r∈rs,r.length=4))->(rs.length<=8000000)->(∀H',À H H'->Q (.int (aK rs)) H')->Φ  vs H Q
def pF:Sp:=λvs H Q _=>Φ  vs H Q
theorem ä:bootBuiltins "sum"=some (.builtin "sum"):=by decide+kernel
theorem nd4:(["due","number","holder","sacks"]:ð).Nodup:=by decide+kernel
theorem QJ:Ã ["rows"] ["rows"] (aD (top 54)):=ú
theorem Gy(F:æ K "sacks_of" "sacks_of" (top 54) f fd)(Ts:mg "sum"=none):Ñ P w K mg base å 1 f fd ["rows"] pF:=by
 refine F.oq QJ λar A outer s H vs Q E hr h=>?_;obtain⟨l,xs,rs,rfl,el,fx,h4,hz,q⟩:=h;refine⟨_,aF (aQ (aJ (cM O) O Ts ä (aq (bz (g:=mW K 4 (cU (bU 0) (cU (bU 1) (cU (bU 2) (cU (bU 3) oH))))) ["due","number","holder","sacks"] [none,none,none,none] O (dF (pv 0)) (λC fp Á s₂ Ï=>⟨fH O O (az (Ô 0 nd4) (az (Ô 1 nd4) (az (Ô 2 nd4) (az (Ô 3 nd4) aX)))),bx,pv 3⟩) (λC=>trivial) ⟨O,O,O,O⟩) ao))),?_⟩;refine⟨_,O,l,O,⟨_,É.of el⟩,cA rs.length (λi ys σ Hc=>À H Hc/\(∃o1 o2 o3 o4,σ=[o1,o2,o3,o4])/\ys=(Đ (rs.take i)).map V.int) ⟨À.refl H,⟨_,_,_,_,O⟩,O⟩ ų ?_ ?_⟩;.rintro i ys σ Hc hi hy⟨s1,⟨o1,o2,o3,o4,rfl⟩,rfl⟩;obtain⟨t,ex,et⟩:=fx.2 i rs[i] (á hi);rw[eQ (h4 _ (Ė hi))]at et;refine⟨⟨_,_,É.of (s1 _ _ el),ex⟩,λv H' y R hR=>?_⟩;obtain⟨rfl,y⟩:=y;have hv:=y _ (É.of (s1 _ _ el));rw[ex]at hv;cases hv;refine⟨t,_,O,Ð.of (s1 _ _ et),O,_,_,O,_,_,O,_,_,O,_,_,O,O,_,O,hR _ _ _ ⟨s1,⟨_,_,_,_,O⟩,?_⟩⟩;unfold Đ;rw[ĺ,á hi,ë,ë];rfl
 .rintro ys σ Hc hy⟨s1,_,rfl⟩;refine⟨⟨_,É.of (s1 _ _ el),by rw[fx.1];exact Ü _⟩,λD hD=>?_⟩;rw[ň];exact⟨D,Đ rs,O,.inl (É.of aj),q _ (s1.updR hD)⟩
end K40
open K40 (top cP items à bL nd1 Gk pq pA jM fJ Ŕ my Mg Þ ù dG â aH kI ä cA sc1 jG)
namespace K40P
open PySem L2
structure Nums(mg:ŋ):Prop where many:∃t,mg "MOST_WEIGHTS"=some (.int 80 t)most:∃t,mg "MOST_WEIGHT"=some (.int 99 t)
def ju(d:PyData):Bool:=bL d 1 80&&(items d).all λx=>kI x 1 99
theorem è:bootBuiltins "sorted"=some (.builtin "sorted"):=by decide+kernel
theorem nd2(x y:Str)(h:x≠y):([x,y]:ð).Nodup:=by simp[h]
section
theorem Z0h:Ã ["thing"] ["thing"] (aD (top 48)):=ú
theorem ok_are_weights(F:æ K "are_weights" "are_weights" (top 48) f fd)(T:Mg mg)(N:Nums mg)(c1:â P w K mg base 2 "is_whole_from" ["thing","least","most"] (my kI))(c2:â P w K mg base 1 "is_tuple_of" ["thing","fewest","most"] (my bL)):Ñ P w K mg base å 4 f fd ["thing"] (Ŕ ju):=by refine F.oq Z0h λar A outer s H vs Q E hr h=>?_;obtain⟨S,v,d,rfl,th,hz,q⟩:=h;obtain⟨t3,e3⟩:=N.many;obtain⟨t4,e4⟩:=N.most;refine⟨_,aF (aQ (cD (aH c2 hr (aR (pv 0) (aR aB (aR (cu (v:=.int 80) O e3 ⟨_,O⟩) ao)))) (dH (aJ (fG O) O T.all ù (aR (bz ["part"] [none] O (gw (pv 0)) (λC fp Á s₂ Ï=>⟨bF (i:=0) (nd1 _) O (Or.inl O),bx,aH c1 hr (aR (pv 0) (aR aB (aR (cu (v:=.int 99) O e4 ⟨_,O⟩) ao)))⟩) (λC=>trivial) ⟨O,O,O,O⟩) ao))))),?_⟩;refine⟨_,O,S,v,d,1,80,O,th,hz,λH1 s1=>⟨_,O,?_⟩⟩;have fA:=th.same s1;have fin:=λH'(s:À H H')=>q H' s;unfold ju at fin;cases e:bL d 1 80 with|false=>rw[e]at fin;exact bB (fin _ s1);|true=>rw[e]at fin;refine bK ?_;cases fA with|@tup a xs ds ea r=>exact dG (λx=>kI x 1 99) O ea r (fJ r hz) (λv d H2 Q2 hm s2 t2 q2=>⟨_,O,S,v,d,1,99,O,t2,jM hm hz,q2⟩) λH2 s2=>fin _ (s1.trans s2);|_=>cases e
end
section
theorem ix_tupK(hK:X.K=K):IxR X (O8 K):=by subst hK;exact bJ
end
section
end
theorem ok_b{R:TS->Prop}(h:BSs X body t)(q:R t):∃t,Ō X body t/\R t:=⟨t,h.run,q⟩
def rr(rs:WF)(i:Nat):Int:=rs.getD i 0
def eU(fs:WF)(pl:List Nat):WF:=pl.foldl (λl i=>l.set i (l.getD i 0+1)) fs
theorem qN(fs:WF)(pl:List Nat)(i:Nat):eU fs (pl++[i])=(eU fs pl).set i ((eU fs pl).getD i 0+1):=by unfold eU;rw[List.foldl_append];rfl
theorem jH:∀pl fs,(eU fs pl).length=fs.length|[],_=>rfl|i::pl,fs=>by show(eU (fs.set i _) pl).length=_;rw[jH pl,Za9]
def fs(n:Int)(ws:WF):WF:=ws.map λw=>n*w/ws.sum
def rs(n:Int)(ws:WF):WF:=ws.map λw=>n*w%ws.sum
def lf(n:Int)(ws:WF):Int:=n-(fs n ws).sum
def OkW(ws:WF):Prop:=1<=ws.length/\ws.length<=80/\∀w∈ws,1<=w/\w<=99
theorem uZ:∀{l:WF},(∀a∈l,a<=B)->l.sum<=B*l.length|[],_=>by simp;|a::l,h=>by have h1:=uZ (B:=B) (l:=l) λb hb=>h b (.tail _ hb);have h2:=h a (.head _);rw[Ļ,ĵ,show B*((l.length+1:Nat):Int)=B*l.length+B by rw[Int.natCast_add,Int.mul_add];simp];lia
theorem nR:∀{l:WF},(∀a∈l,0<=a)->0<=l.sum|[],_=>by simp;|a::l,h=>by have h1:=nR (l:=l) λb hb=>h b (.tail _ hb);have h2:=h a (.head _);rw[Ļ];lia
theorem OkW.pos(h:OkW ws):1<=ws.sum:=by obtain⟨h1,_,h3⟩:=h;match ws,h1,h3 with
 |w::ws,_,h3=>
  have:=nR (l:=ws) λa ha=>by have:=h3 a (.tail _ ha);lia
  have:=h3 w (.head _);rw[Ļ];lia
theorem OkW.top(h:OkW ws):ws.sum<=7920:=by have h1:=uZ (B:=99) λa ha=>(h.2.2 a ha).2;have:=h.2.1;lia
theorem divs(n T:Int):∀ws:WF,T*(ws.map λw=>n*w/T).sum+(ws.map λw=>n*w%T).sum=n*ws.sum|[]=>by simp;|w::ws=>by have h1:=divs n T ws;have h2:=Int.mul_ediv_add_emod (n*w) T;simp only[List.map_cons,List.sum_cons,Int.mul_add];lia
theorem My(n:Int)(ws:WF):ws.sum*lf n ws=(rs n ws).sum:=by have h:=divs n ws.sum ws;unfold lf fs rs;rw[Int.mul_sub,Int.mul_comm ws.sum n];lia
theorem Pk(h:OkW ws):∀r∈rs n ws,0<=r:=λr hr=>by obtain⟨w,_,rfl⟩:=ó.mp hr;have:=h.pos;exact Zbo _ Â
theorem Pn(h:OkW ws):∀r∈rs n ws,r<=ws.sum:=λr hr=>by obtain⟨w,_,rfl⟩:=ó.mp hr;have:=h.pos;exact Int.le_of_lt (Zbd _ Â)
theorem qO(n:Int)(ws:WF):(fs n ws).length=ws.length:=Õ _
theorem yO(n:Int)(ws:WF):(rs n ws).length=ws.length:=Õ _
theorem Bh(h:OkW ws):0<=lf n ws:=by have h1:=My n ws;have h2:=nR (Pk (n:=n) h);have h3:=h.pos;refine Int.le_of_not_gt λc=>?_;have:=Int.mul_le_mul_of_nonneg_left (c:=ws.sum) (show lf n ws<=-1 by lia) Â;lia
theorem KH(h:OkW ws):lf n ws<=ws.length:=by have h1:=My n ws;have h2:=uZ (Pn (n:=n) h);rw[yO]at h2;have h3:=h.pos;refine Int.le_of_not_gt λc=>?_;have:=Int.mul_le_mul_of_nonneg_left (c:=ws.sum) (show(ws.length:Int)+1<=lf n ws by lia) Â;rw[Int.mul_add]at this;lia
theorem Mz(h:OkW ws):lf ws.sum ws=0:=by
 have h1:=My ws.sum ws;have h2:(rs ws.sum ws).sum<=0:=by
  have:=uZ (B:=0) (l:=rs ws.sum ws) λr hr=>by obtain⟨w,_,rfl⟩:=ó.mp hr;rw[Int.mul_emod_right];exact Zbb _
  lia
 have h3:=h.pos;have h4:=Bh (n:=ws.sum) h;refine Int.le_antisymm (Int.le_of_not_gt λc=>?_) h4;have:=Int.mul_le_mul_of_nonneg_left (c:=ws.sum) (show 1<=lf ws.sum ws by lia) Â;lia
theorem tZ:∀pl l i,i<l.length->(eU l pl).getD i 0=l.getD i 0+pl.count i
 |[],l,i,_=>by simp[eU];|j::pl,l,i,h=>by
  show(eU (l.set j (l.getD j 0+1)) pl).getD i 0=_;rw[tZ pl _ i (by rw[Za9];exact h),List.count_cons];by_cases e:j=i;.subst e;rw[ę,Za6 h,Option.getD_some,beq_self_eq_true,Ì O];lia
  .rw[ę,List.getElem?_set_ne e,<-ę,Ê (by simp[e])];lia
structure PtOk(n:Int)(ws ps:WF):Prop where
 len:ps.length=ws.length
 sum:ps.sum=n
 bd:∀{i:Nat}{r w:Int},ps[i]?=some r->ws[i]?=some w->0<=r/\r<=w
theorem Ġ:∀{l:WF}{i:Nat}{v:Int},i<l.length->(l.set i v).sum=l.sum-l.getD i 0+v|[],_,_,h=>absurd h (Nat.not_lt_zero _)|a::l,0,v,_=>by rw[List.set_cons_zero,Ļ,Ļ];show v+l.sum=a+l.sum-a+v;lia;|a::l,i+1,v,h=>by have:=Ġ (l:=l) (i:=i) (v:=v) (Nat.lt_of_succ_lt_succ h);rw[List.set_cons_succ,Ļ,Ļ,this];show a+(l.sum-l.getD i 0+v)=a+l.sum-l.getD i 0+v;lia
theorem u5:∀pl l,(∀i∈pl,i<l.length)->(eU l pl).sum=l.sum+pl.length
 |[],l,_=>by show l.sum=l.sum+((0:Nat):Int);lia;|i::pl,l,h=>by
  have:=u5 pl (l.set i (l.getD i 0+1)) λj hj=>by rw[Za9];exact h j (.tail _ hj)
  show(eU (l.set i (l.getD i 0+1)) pl).sum=_;rw[this,Ġ (h i (.head _)),ĵ];lia
theorem KJ(ok:OkW ws)(n0:0<=n)(n1:n<=ws.sum)(nd:pk.Nodup)(lt:∀i∈pk,i<ws.length)(hl:pk.length=(lf n ws).toNat):PtOk n ws (eU (fs n ws) pk):=by
 have hp:=ok.pos;refine⟨by rw[jH,qO],?_,λ{i r w}hr hw=>?_⟩
 .have:=u5 pk (fs n ws) λi hi=>by rw[qO];exact lt i hi
  have l0:=Bh (n:=n) ok;have e:lf n ws=n-(fs n ws).sum:=O;lia
 .have hi:i<ws.length:=(Ķ.mp hw).1;have g:=tZ pk (fs n ws) i (by rw[qO];exact hi);rw[ę,hr]at g;have ef:(fs n ws).getD i 0=n*w/ws.sum:=by unfold fs;rw[ę,Ą,hw];rfl
  rw[ef]at g;have g:r=n*w/ws.sum+((pk.count i:Nat):Int):=g;have w1:=ok.2.2 w (Α hw);have c1:pk.count i<=1:=List.nodup_iff_count.mp nd i;have q0:0<=n*w/ws.sum:=Int.ediv_nonneg (Int.mul_nonneg n0 Â) Â;have q1:n*w/ws.sum<=w:=by refine Int.ediv_le_of_le_mul Â ?_;rw[Int.mul_comm w];exact Int.mul_le_mul_of_nonneg_right n1 Â
  by_cases c0:pk.count i=0;.rw[c0]at g;lia
  .have pos:0<pk.length:=List.length_pos_of_mem (a:=i) (List.count_pos_iff.mp (Nat.pos_of_ne_zero c0));have ne:n≠ws.sum:=λz=>by rw[z,Mz ok]at hl;have:pk.length=0:=hl;lia
   have q2:n*w/ws.sum<w:=by refine Int.ediv_lt_of_lt_mul Â ?_;rw[Int.mul_comm w];exact Int.mul_lt_mul_of_pos_right Â Â
   lia
theorem u6{ws:WF}{Fin:List V->Hp->Prop}(f:Int->Int)(ep:H0 p=some (.tup (ws.map V.int)))(hl:ws.length<sizeLine)(kP:∀z Q,z∈ws->Q (.int (f z)) H0->te (eJ.set 0 (some (.int z))) H0 Q)(fin:Fin ((ws.map f).map V.int) H0):lB (Itt K p) (bU 0) ye te Fin eJ H0:=by
 refine cA ws.length (λi ys σ H=>H=H0/\(∀o,σ.set 0 o=eJ.set 0 o)/\ys=((ws.take i).map f).map V.int) ⟨O,λ_=>rfl,O⟩ hl ?_ ?_
 .rintro i ys σ H hi hy⟨rfl,ij,rfl⟩;have hz:(ws.map V.int)[i]?=some (.int ws[i]):=by rw[Ą,á hi];rfl
  refine⟨⟨_,_,Ð.of ep,hz⟩,λv H' y' R hR=>?_⟩;obtain⟨rfl,y'⟩:=y';have hv:=y' _ (Ð.of ep);rw[hz]at hv;cases hv;show te (σ.set 0 (some (.int ws[i]))) _ _;rw[ij];refine kP ws[i] _ (Ė hi) (hR _ _ _ ⟨O,λo=>by rw[List.set_set],?_⟩);rw[ĺ,á hi,ë,ë];rfl
 .rintro ys σ H hy⟨rfl,ij,rfl⟩;refine⟨⟨_,Ð.of ep,by rw[Õ];exact Ü _⟩,?_⟩;rw[ň];exact fin
def wD(ws:WF):PyData:=.tuple (ws.map PyData.int)
theorem jq:∀(r:WF),ô (r.map PyData.int)=r.length|[]=>rfl|_::r=>by show 1+ô (r.map PyData.int)=r.length+1;rw[jq r,Nat.add_comm]
theorem QK(ws:WF):sz (wD ws)=1+ws.length:=by show 1+ô (ws.map PyData.int)=_;rw[jq]
theorem QL(h:OkW ws):ju (wD ws)=true:=by
 unfold ju;rw[Ī];refine⟨?_,ņ.mpr λd hd=>?_⟩;.show(true&&(decide (1<=((ws.map PyData.int).length:Int))&&decide (((ws.map PyData.int).length:Int)<=80)))=true;have h1:=h.1;have h2:=h.2.1;rw[Õ,ø Â,ø Â];rfl
 .obtain⟨w,hw,rfl⟩:=ó.mp hd;have:=h.2.2 w hw;show(true&&(decide (1<=w)&&decide (w<=99)))=true;rw[ø this.1,ø this.2];rfl
inductive Ū(vs:List V)(H:Hp)(Q:VK):Prop|mk:∀n p ws,(vs=[.int n,.ref p])->(H p=some (.tup (ws.map V.int)))->(OkW ws)->(0<=n)->(n<=ws.sum)->(∀H',À H H'->Q .non H')->Ū  vs H Q
def wX:Sp:=λvs H Q _=>Ū  vs H Q
inductive Ŭ(vs:List V)(H:Hp)(Q:VK):Prop|mk:∀p rests,(vs=[.ref p])->(H p=some (.lst ((rests:WF).map V.int)))->(rests.length<sizeLine)->(∀H' q(pl:List Nat),pl.Perm (List.range rests.length)->À H H'->H q=none->H' q=some (.lst (pl.map λj:Nat=>V.int (j:Int)))->Q (.ref q) H')->Ŭ  vs H Q
def wY:Sp:=λvs H Q _=>Ŭ  vs H Q
inductive Ψ(vs:List V)(H:Hp)(Q:VK):Prop|mk:∀n p ws,(vs=[.int n,.ref p])->(H p=some (.tup (ws.map V.int)))->(OkW ws)->(0<=n)->(n<=ws.sum)->(∀H' q ps,PtOk n ws ps->À H H'->H' q=some (.tup (ps.map V.int))->Q (.ref q) H')->Ψ  vs H Q
def spParts:Sp:=λvs H Q _=>Ψ  vs H Q
def dW(H:Hp)(a:Addr):Nat:=match H a with|some (.tup [_,.int y])=>y.toNat|_=>0
def Ĭ(H:Hp)(a:Addr):WF:=match H a with|some (.tup [.int x,.int y])=>[x,y]|_=>[]
theorem Pq(h:rests[i]?=some x):rr rests i=x:=by unfold rr;rw[ę,h];rfl
section
theorem QM:Ã ["sacks","weights"] ["sacks","weights"] (aD (top 49)):=ú
theorem ok_refuse(F:æ K "refuse_unpartable" "refuse_unpartable" (top 49) f fd)(Ts:mg "sum"=none)(c1:â P w K mg base 4 "are_weights" ["thing"] (Ŕ ju))(c2:â P w K mg base 2 "is_whole_from" ["thing","least","most"] (my kI)):Ñ P w K mg base å 5 f fd ["sacks","weights"] wX:=by
 refine F.oq QM λar A outer s H vs Q E hr h=>?_;obtain⟨n,p,ws,rfl,ep,ok,n0,n1,q⟩:=h;refine⟨_,aC (cO (cR (dD (aH c1 hr (aR (pv 1) ao)))) (aF kZ) bD) (aF (cO (cR (dD (aH c2 hr (aR (pv 0) (aR aB (aR (aJ (cM O) O Ts ä (aq (pv 1) ao)) ao)))))) (aF kZ) bD)),?_⟩;refine aM ?_;refine⟨_,O,λ_=>False,_,wD ws,O,.tup ep (Å.ints ws),by rw[QK];have:=ok.2.1;lia,λH1 s1=>⟨_,O,?_⟩⟩;rw[QL ok];refine bB ?_;dsimp only;refine⟨_,O,_,O,p,ws,O,.inr (Ð.of (s1 _ _ ep)),λ_=>False,_,.int n,0,_,O,.int n,(by show 1<=4000;decide),λH2 s2=>⟨_,O,?_⟩⟩;have e:kI (.int n) 0 ws.sum=true:=by show(true&&(decide (0<=n)&&decide (n<=ws.sum)))=true;rw[ø n0,ø n1];rfl
 rw[e];exact bB (q H2 (s1.trans s2))
theorem Z0i:Ã ["rests","ranked"] ["rests"] (aD (top 50)):=ú
theorem ok_places(F:æ K "places_by_rest" "places_by_rest" (top 50) f fd)(Te:mg "enumerate"=none)(Ts:mg "sorted"=none):Ñ P w K mg base å 1 f fd ["rests"] wY:=by
 refine F.oq Z0i λar A outer s H vs Q E hr h=>?_;obtain⟨p,rests,rfl,ep,hz,q⟩:=h;refine⟨_,aC (đ 1 Z0i.nd (aJ j9 O Ts è (aq (bz (g:=mW K 2 (cU (bU 0) (cU (bU 1) oH))) ["at","rest"] [none,none] O (ZT.pi_enum false O Te (aq (pv 0) ao)) (λC fp Á s₂ Ï=>⟨fH O O (az (bF (i:=0) (nd2 _ _ Ù) O (Or.inl O) (Or.inr O)) (az (bF (i:=1) (nd2 _ _ Ù) O (Or.inl O) (Or.inr O)) aX)),bx,bM (aq (pU jO (pv 1)) (aq (pv 0) ao))⟩) (λC=>trivial) ⟨O,O,O,O⟩) ao))) (aF (aQ (bz (g:=mW K 2 (cU (bU 0) (cU (bU 1) oH))) ["minus","at"] [none,none] O (dF (pv 1)) (λC fp Á s₂ Ï=>⟨fH O O (az (bF (i:=0) (nd2 _ _ Ù) O (Or.inl O) (Or.inr O)) (az (bF (i:=1) (nd2 _ _ Ù) O (Or.inl O) (Or.inr O)) aX)),bx,pv 1⟩) (λC=>trivial) ⟨O,O,O,O⟩))),?_⟩;refine aM ?_;refine⟨_,O,p,_,O,É.of ep,cA rests.length (λi ys σ Hc=>À H Hc/\(∃o1 o2,σ=[o1,o2])/\∃ts:Ĉ,ys=ts.map V.ref/\∀j,j<i->∃a,ts[j]?=some a/\Hc a=some (.tup [.int (-(rr rests j)),.int (j:Int)])) ⟨À.refl H,⟨_,_,O⟩,[],O,λj hj=>absurd hj (Nat.not_lt_zero _)⟩ hz ?_ ?_⟩
 .rintro i ys σ Hc hi hy⟨s1,⟨o1,o2,rfl⟩,ts,rfl,mT⟩;rw[Õ]at hy;have gN:É K Hc p (rests.map V.int):=É.of (s1 _ _ ep);have hx:(rests.map V.int)[i]?=some (.int (rr rests i)):=by rw[Ą,á hi,Pq (á hi)];rfl
  refine⟨⟨_,_,gN,hx⟩,λv H' y R hR=>?_⟩;obtain⟨T,nT,rfl,y⟩:=y;obtain⟨x',cE,rfl⟩:=y _ gN;rw[hx]at cE;cases cE;have s2:=s1.updR (o:=.tup [.int (i:Int),.int (rr rests i)]) nT;refine⟨T,_,O,Ð.of aj,O,_,_,O,_,_,O,O,_,O,rr rests i,O,_,O,zL,λt ht=>?_⟩;refine hR _ _ _ ⟨s2.updR ht,⟨_,_,O⟩,ts++[t],by rw[ë];rfl,λj hj=>?_⟩;by_cases e:j<i;.obtain⟨a,h1,h2⟩:=mT j e;refine⟨a,by rw[zBd Â];exact h1,?_⟩;exact À.upd ht _ _ (À.upd nT _ _ h2)
  .have e:j=i:=Â;subst e;refine⟨t,by rw[zBc Â,hy,Nat.sub_self];rfl,aj⟩
 .rintro ys σ Hc hy⟨s1,_,ts,rfl,mT⟩;rw[Õ]at hy;refine⟨⟨_,É.of (s1 _ _ ep),by rw[Õ];exact Ü _⟩,λD hD=>?_⟩;have s2:=s1.updR (o:=.lst (ts.map V.ref)) hD;have ja:∀j,j<rests.length->∃a,ts[j]?=some a/\upd Hc D (.lst (ts.map V.ref)) a=some (.tup [.int (-(rr rests j)),.int (j:Int)]):=λj hj=>by obtain⟨a,h1,h2⟩:=mT j hj;exact⟨a,h1,À.upd hD _ _ h2⟩
  have eD:=aj (H:=Hc) (a:=D) (o:=.lst (ts.map V.ref));generalize upd Hc D (.lst (ts.map V.ref))=H2 at s2 ja eD⊢;clear mT hD s1;have vE:∀a∈ts,∃j,j<rests.length/\H2 a=some (.tup [.int (-(rr rests j)),.int (j:Int)]):=λa ha=>by obtain⟨j,hj,e⟩:=Za5 ha;obtain⟨b,h1,h2⟩:=ja j Â;rw[á hj]at h1;injection h1 with h1;refine⟨j,Â,?_⟩;rw[<-e,h1];exact h2
  refine⟨D,ts,Ĭ H2,O,É.of eD,λa ha=>?_,λq' l' hq pm=>?_⟩
  .obtain⟨j,hj,e⟩:=vE a ha;have er:Ĭ H2 a=[-(rr rests j),(j:Int)]:=by unfold Ĭ;rw[e]
   rw[er];exact⟨Ð.of e,by simp⟩
  have Cc:∀a∈l',∃j,j<rests.length/\H2 a=some (.tup [.int (-(rr rests j)),.int (j:Int)]):=λa ha=>vE a (pm.mem_iff.mp ha);have sn:∀a∈l',H2 a=some (.tup [.int (-(rr rests (dW H2 a))),.int (dW H2 a:Int)])/\Ĭ H2 a=[-(rr rests (dW H2 a)),(dW H2 a:Int)]:=λa ha=>by
   obtain⟨j,hj,e⟩:=Cc a ha;have er:Ĭ H2 a=[-(rr rests j),(j:Int)]:=by unfold Ĭ;rw[e]
   have es:dW H2 a=j:=by unfold dW;rw[e];exact Ľ j
   rw[er,es];exact⟨e,O⟩
  have ord:(l'.map (dW H2)).Perm (List.range rests.length):=by
   refine(pm.map _).trans (List.Perm.of_eq (List.ext_getElem? λj=>?_));by_cases hj:j<rests.length;.obtain⟨a,h1,h2⟩:=ja j hj;rw[Ą,h1,Zap hj];show some (dW H2 a)=some j;unfold dW;rw[h2];exact congrArg some (Ľ j)
   .rw[Zau (by rw[Õ];lia),Zau (by rw[Ż];lia)]
  have s3:=s2.updR (o:=.lst (l'.map V.ref)) hq;have VQ:l'.length=rests.length:=by rw[pm.length_eq,hy]
  have sA:=aj (H:=H2) (a:=q') (o:=.lst (l'.map V.ref));have vF:∀a∈l',upd H2 q' (.lst (l'.map V.ref)) a=some (.tup [.int (-(rr rests (dW H2 a))),.int (dW H2 a:Int)]):=λa ha=>À.upd hq _ _ (sn a ha).1;generalize dW H2=sd at ord vF;generalize upd H2 q' (.lst (l'.map V.ref))=H3 at s3 sA vF⊢;dsimp only;refine j7 ?_;refine⟨_,O,q',O,⟨_,É.of sA⟩,cA rests.length (λi ys σ Hc=>À H3 Hc/\(∃o1 o2,σ=[o1,o2])/\ys=((l'.take i).map sd).map λj:Nat=>V.int (j:Int)) ⟨À.refl H3,⟨_,_,O⟩,O⟩ hz ?_ ?_⟩
  .rintro i ys σ Hc hi hy⟨s4,⟨o1,o2,rfl⟩,rfl⟩;have vj:i<l'.length:=Â;have hu:(l'.map V.ref)[i]?=some (.ref l'[i]):=by rw[Ą,á vj];rfl
   refine⟨⟨_,_,É.of (s4 _ _ sA),hu⟩,λv H' y R hR=>?_⟩;obtain⟨rfl,y⟩:=y;have hv:=y _ (É.of (s4 _ _ sA));rw[hu]at hv;cases hv;refine⟨l'[i],_,O,Ð.of (s4 _ _ (vF _ (Ė vj))),O,_,_,O,_,_,O,O,_,O,hR _ _ _ ⟨s4,⟨_,_,O⟩,?_⟩⟩;rw[ĺ,á vj,ë,ë];rfl
  .rintro ys σ Hc Cf⟨s4,_,rfl⟩;refine⟨⟨_,É.of (s4 _ _ sA),by rw[Õ];lia⟩,λD' Rj=>?_⟩;have s5:=s3.trans s4;have hn:H D'=none:=s5.free Rj;refine q _ D' _ ord (s5.updR Rj) hn ?_;rw[aj,Zai Â]
end
end K40P
open K40 (gU)
namespace K40P
open PySem L2
theorem Bj(h:j<n):ώ n (j:Int)=some j:=by unfold ώ;rw[Ì Â,Ì Â,Ľ]
theorem Gz(ok:OkW ws):ws.length<sizeLine:=by have:=ok.2.1;rw[sizeLine_eq];lia
section
theorem Pr:(["weight","sacks","together"]:ð).Nodup:=by decide+kernel
theorem Μ:Ã ["sacks","weights","together","parts","rests","left","at"] ["sacks","weights"] (aD (top 51)):=ú
theorem ok_parts(F:æ K "parts_of" "parts_of" (top 51) f fd)(T:Mg mg)(Ts:mg "sum"=none)(c1:â P w K mg base 1 "places_by_rest" ["rests"] wY):Ñ P w K mg base å 2 f fd ["sacks","weights"] spParts:=by
 refine F.oq Μ λar A outer s H vs Q E hr h=>?_;obtain⟨n,p,ws,rfl,ep,ok,n0,n1,q⟩:=h;refine⟨_,aC (mY (i:=2) Μ.nd O (Or.inr O) (aJ (cM O) O Ts ä (aq (pv 1) ao))) (aC (iW (i:=3) ["weight","sacks","together"] [none,some 0,some 2] O Μ.nd O (Or.inl O) (gw (pv 1)) (λC fp Á s₂ Ï=>⟨Ô 0 Pr,bx,aU oW (aU iu (pv 1) (pv 0)) (pv 2)⟩) (λC=>cI (cI trivial)) ⟨O,O,O,O⟩) (aC (iW (i:=4) ["weight","sacks","together"] [none,some 0,some 2] O Μ.nd O (Or.inl O) (gw (pv 1)) (λC fp Á s₂ Ï=>⟨Ô 0 Pr,bx,aU iw (aU iu (pv 1) (pv 0)) (pv 2)⟩) (λC=>cI (cI trivial)) ⟨O,O,O,O⟩) (aC (đ 5 Μ.nd (aU dJ (pv 0) (aJ (cM O) O Ts ä (aq (pv 3) ao)))) (aC (cF Ł O (dF (jh zR (aH c1 hr (aq (pv 4) ao)) lu (lz (pv 5)))) (Ô 6 Μ.nd) (aF (uh (pv 3) (pv 6) jG aB Ep ą))) (aF (aQ (cH cB O T.tuple Þ (aq (pv 3) ao)))))))),?_⟩;have hp:=ok.pos;have ht:=ok.top;have vS:=Gz ok;refine aP λc_ ae=>?_;refine⟨_,O,p,ws,O,.inr (Ð.of ep),?_⟩;refine ae _ _ ?_;clear ae c_;try dsimp only
 refine aP λc_ ae=>?_;refine⟨_,O,p,O,⟨_,Ð.of ep⟩,u6 (λz=>n*z/ws.sum) ep vS (λz Q hz h=>⟨_,O,_,O,_,_,O,O,.inl ⟨Â,Â⟩,_,O,_,_,O,O,⟨Â,Â⟩,h⟩) ?_⟩;rw[show ws.map (λz=>n*z/ws.sum)=fs n ws from O];intro l1 fk;have s1:=À.upd (o:=.lst ((fs n ws).map V.int)) fk;have υ:=aj (H:=H) (a:=l1) (o:=.lst ((fs n ws).map V.int));generalize upd H l1 _=H1 at s1 υ⊢;refine ae _ _ ?_;clear ae c_;try dsimp only
 refine aP λc_ ae=>?_;refine⟨_,O,p,O,⟨_,Ð.of (s1 _ _ ep)⟩,u6 (λz=>n*z%ws.sum) (s1 _ _ ep) vS (λz Q hz h=>⟨_,O,_,O,_,_,O,O,.inl ⟨Â,Â⟩,_,O,_,_,O,O,(by show 0<ws.sum;lia),h⟩) ?_⟩;rw[show ws.map (λz=>n*z%ws.sum)=rs n ws from O];intro l2 iE;have s2:=s1.updR (o:=.lst ((rs n ws).map V.int)) iE;have ϖ:=aj (H:=H1) (a:=l2) (o:=.lst ((rs n ws).map V.int));have nN:=À.upd (o:=.lst ((rs n ws).map V.int)) iE _ _ υ;have AM:H l1=none:=fk;clear fk iE;generalize upd H1 l2 _=H2 at s2 ϖ nN⊢;clear υ s1;refine ae _ _ ?_;clear ae c_;try dsimp only
 refine aP λc_ ae=>?_;refine⟨_,O,_,O,l1,fs n ws,O,.inl (É.of nN),_,_,O,O,?_⟩;show _;refine ae _ _ ?_;clear ae c_;try dsimp only
 rw[show n-(fs n ws).sum=lf n ws from O];refine aM ?_;refine⟨_,O,l2,rs n ws,O,ϖ,by rw[yO];exact vS,λH3 l3 pl ord s3 E3 el3=>⟨_,O,_,O,l3,_,O,É.of el3,λl4 fI=>⟨l4,O,⟨_,É.of aj⟩,?_⟩⟩⟩;have VR:=Bh (n:=n) ok;have VS:=KH (n:=n) ok;rw[yO]at ord;have VT:=ord.length_eq;rw[Ż]at VT;have AO:jP (pl.map λj:Nat=>V.int (j:Int)) none (some (lf n ws))=(pl.take (lf n ws).toNat).map λj:Nat=>V.int (j:Int):=by rw[List.map_take,<-gU (i:=(lf n ws).toNat) (by rw[Õ];lia),show((lf n ws).toNat:Int)=lf n ws by lia]
 rw[AO];have inr:∀j∈pl.take (lf n ws).toNat,j<ws.length:=λj hj=>Ϙ.mp (ord.mem_iff.mp (Za2 hj));have fin:=KJ ok n0 n1 ((ord.nodup_iff.mpr List.nodup_range).sublist (List.take_sublist _ _)) inr (by rw[ŉ];lia);generalize pl.take (lf n ws).toNat=pk at fin inr fI⊢;have s4:=(s2.trans s3).updR (o:=.lst (pk.map λj:Nat=>V.int (j:Int))) fI;have el4:=aj (H:=H3) (a:=l4) (o:=.lst (pk.map λj:Nat=>V.int (j:Int)));have nS:=À.upd (o:=.lst (pk.map λj:Nat=>V.int (j:Int))) fI _ _ (s3 _ _ nN);have n14:l4≠l1:=λz=>by rw[z,s3 _ _ nN]at fI;cases fI
 generalize upd H3 l4 (.lst (pk.map λj:Nat=>V.int (j:Int)))=H4 at s4 el4 nS⊢;clear fI el3 E3 s3 nN ϖ s2;refine jf (xs:=pk.map λj:Nat=>V.int (j:Int)) (λi σ Hc=>∃o6,σ=[some (.int n),some (.ref p),some (.int ws.sum),some (.ref l1),some (.ref l2),some (.int (lf n ws)),o6]/\À H Hc/\Hc l4=some (.lst (pk.map λj:Nat=>V.int (j:Int)))/\Hc l1=some (.lst ((eU (fs n ws) (pk.take i)).map V.int))) ?_ ?_ ?_ ?_;.exact⟨none,O,s4,el4,nS⟩
 .rintro i σ Hc hi⟨o6,rfl,s5,e4,e1⟩;exact É.of e4
 .rintro i v σ Hc hv⟨o6,rfl,s5,e4,e1⟩;rw[Ą]at hv;cases hj:pk[i]? with|none=>rw[hj]at hv;cases hv;|some j=>
   rw[hj]at hv;cases hv;refine aG ?_;have kp:∀o,À H (upd Hc l1 o):=λo b u e=>by rw[au (aA e AM)];exact s5 _ _ e
   have aI:j<(eU (fs n ws) (pk.take i)).length:=by rw[jH,qO];exact inr j (Α hj)
   have hx:((eU (fs n ws) (pk.take i)).map V.int)[((j:Nat):Int).toNat]?=some (.int ((eU (fs n ws) (pk.take i)).getD j 0)):=by rw[Ľ,Ą,á aI,ę,á aI];rfl
   refine⟨_,O,_,O,l1,_,(j:Int),_,O,O,É.of e1,Â,hx,_,_,O,O,l1,_,(j:Int),j,O,O,e1,Bj (by rw[Õ];exact aI),?_⟩;refine⟨_,O,kp _,by rw[au n14];exact e4,?_⟩;rw[aj,ĺ,hj];show _=some (HO.lst ((eU (fs n ws) (pk.take i++[j])).map V.int));rw[qN,List.map_set]
 .rintro σ Hc⟨o6,rfl,s5,e4,e1⟩;rw[Õ,ň]at e1;dsimp only;refine j7 ?_;exact⟨_,O,l1,_,O,.inl ⟨É.of e1,λt ht=>q _ t _ fin (s5.updR ht) aj⟩⟩
theorem ŷ:Ã ["sacks","weights"] ["sacks","weights"] (aD (top 52)):=ú
theorem ok_parted(F:æ K "parted" "parted" (top 52) f fd)(c1:â P w K mg base 5 "refuse_unpartable" ["sacks","weights"] wX)(c2:â P w K mg base 2 "parts_of" ["sacks","weights"] spParts):Ñ P w K mg base å 6 f fd ["sacks","weights"] spParts:=by
 refine F.oq ŷ λar A outer s H vs Q E hr h=>?_;obtain⟨n,p,ws,rfl,ep,ok,n0,n1,q⟩:=h;refine⟨_,aC (cg (aH c1 hr (aq (pv 0) (aq (pv 1) ao)))) (aF (aQ (aH c2 hr (aq (pv 0) (aq (pv 1) ao))))),?_⟩;refine aP λc_ ae=>?_;refine⟨_,O,_,O,n,p,ws,O,ep,ok,n0,n1,λH1 s1=>?_⟩;refine ae _ _ ?_;clear ae c_;try dsimp only
 refine j7 ?_;exact⟨_,O,_,O,n,p,ws,O,s1 _ _ ep,ok,n0,n1,λH2 t ps pk s2 et=>q H2 t ps pk (s1.trans s2) et⟩
end
end K40P
namespace K40
open PySem L2
def bC:Int->UV->WF|_,[]=>[]|w,r::rs=>(if w<fl r 3 then w else fl r 3)::bC (w-(if w<fl r 3 then w else fl r 3)) rs
theorem gW:∀w rs r,bC w (rs++[r])=bC w rs++[if w-(bC w rs).sum<fl r 3 then w-(bC w rs).sum else fl r 3]|w,[],r=>by show[_]=[_];rw[show(bC w []).sum=0 from O,Int.sub_zero];|w,q::rs,r=>by rw[List.cons_append];unfold bC;rw[gW _ rs r,List.cons_append,Ļ,show∀a b c:Int,a-b-c=a-(b+c)from λa b c=>by lia]
theorem gK:∀w rs,(bC w rs).length=rs.length|_,[]=>rfl|w,r::rs=>by unfold bC;rw[ĵ,ĵ,gK]
theorem iQ:∀{rs:UV},(∀r∈rs,0<=fl r 3)->0<=aK rs|[],_=>Zbb _|r::rs,h=>Int.add_nonneg (h r (.head _)) (iQ λq hq=>h q (.tail _ hq))
structure Ś(w:Int)(rs:UV)(sh:WF):Prop where
 len:sh.length=rs.length
 sum:sh.sum=min w (aK rs)bd:∀p∈rs.zip sh,0<=p.2/\p.2<=fl p.1 3
theorem GC:∀{w:Int}{rs:UV},0<=w->(∀r∈rs,0<=fl r 3)->Ś w rs (bC w rs)
 |w,[],h,_=>⟨O,by show 0=min w 0;lia,λp hp=>nomatch hp⟩|w,r::rs,h,hr=>by
  have h3:=hr r (.head _);have hn:=iQ λq hq=>hr q (.tail _ hq);obtain⟨x,hx⟩:∃x,x=if w<fl r 3 then w else fl r 3:=⟨_,O⟩;have hb:0<=x/\x<=fl r 3/\x<=w/\(x=w\/x=fl r 3):=by split at hx<;>lia
  obtain⟨a,b,c⟩:=GC (w:=w-x) (rs:=rs) Â λq hq=>hr q (.tail _ hq);have e:bC w (r::rs)=x::bC (w-x) rs:=by rw[hx];rfl
  have es:aK (r::rs)=fl r 3+aK rs:=O;rw[e];refine⟨by rw[ĵ,ĵ,a],by rw[Ļ,b,es];lia,λp hp=>?_⟩;rcases ĩ.mp hp with z|z;.rw[z];exact⟨hb.1,hb.2.1⟩
  .exact c p z
theorem GD{rs:UV}(h:∀r∈rs,0<=fl r 3)(hs:(Đ rs).sum<=w):Ś w rs (Đ rs):=by refine⟨Õ _,by show(Đ rs).sum=min w (Đ rs).sum;lia,λp hp=>?_⟩;obtain⟨i,hi,rfl⟩:=Za5 hp;rw[List.getElem_zip];have:(Đ rs)[i]'(by rw[Θ]at hi;lia)=fl (rs[i]'(by rw[Θ]at hi;lia)) 3:=List.getElem_map _;show 0<=(Đ rs)[i]'_/\(Đ rs)[i]'_<=_;rw[this];exact⟨h _ (Ė _),Zbb _⟩
theorem KN(h:K40P.PtOk w (Đ rs) ps)(hs:w<=(Đ rs).sum):Ś w rs ps:=by have hl:ps.length=rs.length:=h.len.trans (Õ _);refine⟨hl,by rw[h.sum];show w=min w (Đ rs).sum;lia,λp hp=>?_⟩;obtain⟨i,hi,rfl⟩:=Za5 hp;rw[Θ]at hi;rw[List.getElem_zip];exact h.bd (á _) (by unfold Đ;rw[Ą,á Â];rfl)
inductive Ϥ(vs:List V)(H:Hp)(Q:VK):Prop|mk:∀w l xs rs,(vs=[.int w,.ref l])->(H l=some (.lst xs))->(î H xs rs)->((∀r∈rs,r.length=4))->(rs.length<=8000000)->(∀m H',À H H'->H m=none->H' m=some (.lst ((bC w rs).map V.int))->Q (.ref m) H')->Ϥ  vs H Q
def GF:Sp:=λvs H Q _=>Ϥ  vs H Q
inductive Ũ(vs:List V)(H:Hp)(Q:VK):Prop|mk:∀w l xs rs,(vs=[.int w,.ref l])->(H l=some (.lst xs))->(î H xs rs)->((∀r∈rs,r.length=4/\1<=fl r 3/\fl r 3<=99))->(rs.length<=80)->(0<=w)->(∀t sh H',À H H'->Ś w rs sh->H' t=some (.tup (sh.map V.int))->Q (.ref t) H')->Ũ  vs H Q
def wZ:Sp:=λvs H Q _=>Ũ  vs H Q
theorem Ŵ:Ã ["wool","owed","shares","left","due","number","holder","sacks","share"] ["wool","owed"] (aD (top 57)):=ú
theorem JH(F:æ K "made_good" "made_good" (top 57) f fd)(Tn:mg "min"=none):Ñ P w K mg base å 1 f fd ["wool","owed"] GF:=by
 refine F.oq Ŵ λar A outer s H vs Q E hr h=>?_;obtain⟨w0,l,xs,rs,rfl,el,fx,h4,hz,q⟩:=h;refine⟨_,aC (đ 2 Ŵ.nd (cX ao)) (aC (đ 3 Ŵ.nd (pv 0)) (aC (cF Ł O (dF (pv 1)) (bR O (az (Ô 4 Ŵ.nd) (az (Ô 5 Ŵ.nd) (az (Ô 6 Ŵ.nd) (az (Ô 7 Ŵ.nd) aX))))) (aC (đ 8 Ŵ.nd (aJ (iC O) O Tn ķ (aq (pv 7) (aq (pv 3) ao)))) (aC (cg (fD Β zBb zBa dw (pv 2) (aq (pv 8) ao))) (aF (pQ (i:=3) Ŵ.nd O (Or.inl O) (pv 8) Er))))) (aF (aQ (pv 2))))),?_⟩;refine aM (aV ?_);refine⟨zL,λm hm=>?_⟩;refine aG ?_;dsimp only;refine aM (aV ?_);refine⟨_,O,?_⟩;refine aG ?_;dsimp only;refine aM ?_;have s1:=À.upd (o:=.lst []) hm;have nl:l≠m:=aA el hm;refine⟨_,O,l,O,⟨_,É.of (s1 _ _ el)⟩,?_⟩;refine jf (xs:=xs) (λi σ Hc=>Xe5 λx4 x5 x6 x7 x8=>Xa3 (σ=[some (.int w0),some (.ref l),some (.ref m),some (.int (w0-(bC w0 (rs.take i)).sum)),x4,x5,x6,x7,x8]) ((∀b o,H b=some o->Hc b=some o)) (Hc m=some (.lst ((bC w0 (rs.take i)).map V.int)))) ?_ ?_ ?_ ?_;.refine⟨none,none,none,none,none,?_,λb o e=>s1 _ _ e,aj⟩;rw[Zbl,show(bC w0 []).sum=0 from O,Int.sub_zero];rfl
 .rintro i σ Hc hi⟨x4,x5,x6,x7,x8,rfl,k,em⟩;exact É.of (k _ _ el)
 .rintro i x σ Hc hx⟨x4,x5,x6,x7,x8,rfl,k,em⟩;have hi:i<rs.length:=by have:=(Ķ.mp hx).1;rw[fx.1]at this;exact this
  obtain⟨t,ex,et⟩:=fx.2 i rs[i] (á hi);rw[ex]at hx;cases hx;rw[eQ (h4 _ (Ė hi))]at et;refine⟨t,_,O,Ð.of (k _ _ et),O,_,_,O,_,_,O,_,_,O,_,_,O,O,?_⟩;refine aM (aV ?_);refine⟨_,O,_,O,_,_,O,?_⟩;refine aG ?_;dsimp only;refine aM ?_;refine⟨_,O,.inl ⟨O,_,É.of em⟩,_,O,m,_,_,O,O,em,?_,?_⟩;.rw[Õ,gK,ŉ,sizeLine_eq];lia
  have dE:rs.take (i+1)=rs.take i++[rs[i]]:=by rw[ĺ,á hi];rfl
  dsimp only;refine⟨_,O,_,O,_,_,O,O,some (.int (fl rs[i] 0)),some (.int (fl rs[i] 1)),some (.int (fl rs[i] 2)),some (.int (fl rs[i] 3)),some (.int (if w0-(bC w0 (rs.take i)).sum<fl rs[i] 3 then w0-(bC w0 (rs.take i)).sum else fl rs[i] 3)),?_,λb o e=>?_,?_⟩;.rw[dE,gW,Za8,Ļ,List.sum_nil,Zbm,show∀a b c:Int,a-(b+c)=a-b-c from λa b c=>by lia];rfl
  .rw[au (aA e hm)];exact k _ _ e
  .rw[aj,dE,gW,ë];rfl
 .rintro σ Hc⟨x4,x5,x6,x7,x8,rfl,k,em⟩;rw[show xs.length=rs.length from fx.1,ň]at em;exact⟨_,O,q m Hc (λb o e=>k b o e) hm em⟩
theorem scT2:Ã ["wool","claims","weights"] ["wool","claims"] (aD (top 56)):=ú
theorem Dy(F:æ K "shares_of" "shares_of" (top 56) f fd)(T:Mg mg)(Ts:mg "sum"=none)(c1:â P w K mg base 6 "parted" ["sacks","weights"] K40P.spParts):Ñ P w K mg base å 7 f fd ["wool","claims"] wZ:=by
 refine F.oq scT2 λar A outer s H vs Q E hr h=>?_;obtain⟨w0,l,xs,rs,rfl,el,fx,h4,hz,hw,q⟩:=h;refine⟨_,aC (đ 2 scT2.nd (cH cB O T.tuple Þ (aq (bz (g:=mW K 4 (cU (bU 0) (cU (bU 1) (cU (bU 2) (cU (bU 3) oH))))) ["due","number","holder","sacks"] [none,none,none,none] O (dF (pv 1)) (λC fp Á s₂ Ï=>⟨fH O O (az (Ô 0 nd4) (az (Ô 1 nd4) (az (Ô 2 nd4) (az (Ô 3 nd4) aX)))),bx,pv 3⟩) (λC=>trivial) ⟨O,O,O,O⟩) ao))) (aF (aQ (kY (bu bW (aJ (cM O) O Ts ä (aq (pv 2) ao)) (pv 0) (bj _)) (pv 2) (aH c1 hr (aq (pv 0) (aq (pv 2) ao)))))),?_⟩;refine aM (aV ?_);refine⟨_,O,l,O,⟨_,É.of el⟩,cA rs.length (λi ys σ Hc=>À H Hc/\(∃o1 o2 o3 o4,σ=[o1,o2,o3,o4])/\ys=(Đ (rs.take i)).map V.int) ⟨À.refl H,⟨_,_,_,_,O⟩,O⟩ ų ?_ ?_⟩;.rintro i ys σ Hc hi hy⟨s1,⟨o1,o2,o3,o4,rfl⟩,rfl⟩;obtain⟨t,ex,et⟩:=fx.2 i rs[i] (á hi);rw[eQ (h4 _ (Ė hi)).1]at et;refine⟨⟨_,_,É.of (s1 _ _ el),ex⟩,λv H' y R hR=>?_⟩;obtain⟨rfl,y⟩:=y;have hv:=y _ (É.of (s1 _ _ el));rw[ex]at hv;cases hv;refine⟨t,_,O,Ð.of (s1 _ _ et),O,_,_,O,_,_,O,_,_,O,_,_,O,O,_,O,hR _ _ _ ⟨s1,⟨_,_,_,_,O⟩,?_⟩⟩;unfold Đ;rw[ĺ,á hi,ë,ë];rfl
 .rintro ys σ Hc hy⟨s1,_,rfl⟩;refine⟨⟨_,É.of (s1 _ _ el),by rw[fx.1];exact Ü _⟩,λD hD=>?_⟩;rw[ň];refine⟨D,_,O,.inl ⟨É.of aj,λt ht=>?_⟩⟩;have s2:=(s1.updR (o:=.lst ((Đ rs).map V.int)) hD).updR (o:=.tup ((Đ rs).map V.int)) ht;have et:=aj (H:=upd Hc D (.lst ((Đ rs).map V.int))) (a:=t) (o:=.tup ((Đ rs).map V.int));generalize upd (upd Hc D (.lst ((Đ rs).map V.int))) t (.tup ((Đ rs).map V.int))=H2 at s2 et⊢;refine aG ?_;dsimp only;refine⟨_,O,t,Đ rs,O,.inr (Ð.of et),_,O,_,_,O,O,_,O,?_⟩;by_cases hs:(Đ rs).sum<=w0;.rw[ø hs];exact bK ⟨_,O,q t _ H2 s2 (GD (λr hr=>by have:=(h4 r hr).2.1;lia) hs) et⟩
  .rw[ħ hs];refine bB ⟨_,O,_,O,w0,t,Đ rs,O,et,⟨?_,by unfold Đ;rw[Õ];exact hz,λx hx=>?_⟩,hw,Â,λH3 t3 ps pk s3 e3=>q t3 ps H3 (s2.trans s3) (KN pk Â) e3⟩;.cases kH:rs with|nil=>rw[kH]at hs;exact absurd hw hs;|cons r rs'=>unfold Đ;rw[Õ,ĵ];lia
   .obtain⟨r,kH,rfl⟩:=ó.mp hx;exact(h4 r kH).2
theorem fK{Fin:List V->Hp->Prop}(n:Nat)(Pv:Nat->List V->St->Hp->Prop)(h0:Pv 0 [] eJ H0)(hz:n<sizeLine)(step:∀i ys σ H,i<n->ys.length<=i->Pv i ys σ H->J.go i H/\∀x H',J.yld i H x H'->∀R:List V->St->Hp->Prop,(∀iN bo H4,iN.length<=i+1->Pv (i+1) iN bo H4->R iN bo H4)->g x σ H' λbo H2=>tt bo H2 λb H3=>if b=true then te bo H3 λy H4=>R (ys++[y]) bo H4 else R ys bo H3)(fin:∀ys σ H,ys.length<=n->Pv n ys σ H->J.stop n H/\Fin ys H):lB J g tt te Fin eJ H0:=by
 refine⟨λi m ys σ H=>m=n-i/\i<=n/\ys.length<=i/\Pv i ys σ H,⟨_,O,į _,Ü _,h0⟩,?_⟩;rintro i m ys σ H⟨rfl,hi,hy,p⟩;refine⟨Â,?_⟩;by_cases aI:i<n;.obtain⟨go,st⟩:=step i ys σ H aI hy p;exact .inr ⟨go,λx H' y=>st x H' y (λiN bo H4=>∃m',m'<n-i/\m'=n-(i+1)/\i+1<=n/\iN.length<=i+1/\Pv (i+1) iN bo H4) λiN bo H4 l2 p2=>⟨n-(i+1),Â,O,aI,l2,p2⟩⟩
 .have e:i=n:=Â;subst e;exact .inl (fin ys σ H hy p)
def oO(f:WF×Int->Int)(P:List (WF×Int)):UV:=(P.filter λp=>decide (0<f p)).map λp=>[fl p.1 0,fl p.1 1,fl p.1 2,f p]
def qP(p:WF×Int):Int:=fl p.1 3-p.2
theorem mH(f:WF×Int->Int)(P:List (WF×Int))(p:WF×Int):oO f (P++[p])=oO f P++(if 0<f p then[[fl p.1 0,fl p.1 1,fl p.1 2,f p]]else[]):=by
 unfold oO;rw[Za7,ë];congr 1;by_cases h:0<f p;.rw[Ì h,zBg (p:=λp=>decide (0<f p)) (ø h)];rfl
 .rw[Ê h,zBf (p:=λp=>decide (0<f p)) (by rw[č];exact h)];rfl
theorem v5{f:WF×Int->Int}:∀{P:List (WF×Int)},(∀p∈P,0<=f p)->aK (oO f P)=(P.map f).sum
 |[],_=>rfl|p::P,h=>by
  have ih:=v5 λq hq=>h q (.tail _ hq);have h0:=h p (.head _);rw[Ĵ,Ļ,<-ih];unfold oO;by_cases hp:0<f p;.rw[zBg (p:=λp=>decide (0<f p)) (ø hp)];rfl
  .rw[zBf (p:=λp=>decide (0<f p)) (by rw[č];exact hp)];lia
theorem v6:∀{rs:UV}{sh:WF},sh.length=rs.length->((rs.zip sh).map (·.2)).sum=sh.sum/\((rs.zip sh).map qP).sum=aK rs-sh.sum|[],[],_=>⟨O,O⟩|[],_::_,h=>nomatch h|_::_,[],h=>nomatch h|r::rs,x::sh,h=>by obtain⟨a,b⟩:=v6 (rs:=rs) (sh:=sh) (Nat.succ.inj h);have es:aK (r::rs)=fl r 3+aK rs:=O;rw[List.zip_cons_cons,Ĵ,Ĵ,Ļ,Ļ,Ļ,a,b,es];refine⟨O,?_⟩;show fl r 3-x+_=_;lia
def v7(q r:WF):Prop:=r=[fl q 0,fl q 1,fl q 2,fl r 3]/\1<=fl r 3/\fl r 3<=fl q 3
structure Z0z(w:Int)(rs G K:UV):Prop where
 gp:∀r∈G,∃q∈rs,v7 q r
 kp:∀r∈K,∃q∈rs,v7 q r
 gs:aK G=min w (aK rs)ks:aK K=aK rs-min w (aK rs)gl:G.length<=rs.length
 kl:K.length<=rs.length
theorem xf{f:WF×Int->Int}{rs:UV}{sh:WF}(h:∀p∈rs.zip sh,f p<=fl p.1 3):(∀r∈oO f (rs.zip sh),∃q∈rs,v7 q r)/\(oO f (rs.zip sh)).length<=rs.length:=by
 refine⟨λr hr=>?_,?_⟩;.obtain⟨p,hp,rfl⟩:=ó.mp hr;obtain⟨m,hm⟩:=ρ.mp hp;exact⟨p.1,(ϻ (show(p.1,p.2)∈_ from m)).1,O,Η hm,h p m⟩
 .have:=List.length_filter_le (λp=>decide (0<f p)) (rs.zip sh);unfold oO;rw[Õ];rw[Θ]at this;lia
theorem Pu{w:Int}(h:Ś w rs sh):Z0z w rs (oO (·.2) (rs.zip sh)) (oO qP (rs.zip sh)):=by
 obtain⟨a,b⟩:=v6 h.len;obtain⟨g1,g2⟩:=xf (f:=(·.2)) (rs:=rs) (sh:=sh) λp hp=>(h.bd p hp).2;obtain⟨k1,k2⟩:=xf (f:=qP) (rs:=rs) (sh:=sh) λp hp=>by have:=(h.bd p hp).1;show fl p.1 3-p.2<=_;lia
 exact⟨g1,k1,by rw[v5 λp hp=>(h.bd p hp).1,a,h.sum],by rw[v5 λp hp=>by have:=(h.bd p hp).2;show 0<=fl p.1 3-p.2;lia,b,h.sum],g2,k2⟩
theorem gM:∀a b,aK (a++b)=aK a+aK b:=λa b=>by unfold aK Đ;rw[ë,Za8]
theorem MF{w:Int}{cl ow:UV}{sh mg:WF}(hc:∀r∈cl,0<=fl r 3)(ho:∀r∈ow,0<=fl r 3)(a:Ś w cl sh)(b:Ś (w-sh.sum) ow mg):Ś w (cl++ow) (sh++mg):=by have e:=a.sum;have h1:=iQ hc;have h2:=iQ ho;refine⟨by rw[õ,õ,a.len,b.len],by rw[Za8,b.sum,gM];lia,λp hp=>?_⟩;rw[List.zip_append a.len.symm]at hp;exact(ė.mp hp).elim (a.bd p) (b.bd p)
inductive ϝ(vs:List V)(H:Hp)(Q:VK):Prop|mk:∀w lc xc cl lo xo ow,(vs=[.int w,.ref lc,.ref lo])->(H lc=some (.lst xc))->(î H xc cl)->((∀r∈cl,r.length=4/\1<=fl r 3/\fl r 3<=99))->(cl.length<=80)->(0<=w)->(H lo=some (.lst xo))->(î H xo ow)->((∀r∈ow,r.length=4/\0<=fl r 3))->(ow.length<=4000000)->(∀t g k xg xk G K H',À H H'->Z0z w (cl++ow) G K->H' t=some (.tup [.ref g,.ref k])->H g=none->H k=none->H' g=some (.lst xg)->î H' xg G->H' k=some (.lst xk)->î H' xk K->Q (.ref t) H')->ϝ  vs H Q
def GJ:Sp:=λvs H Q _=>ϝ  vs H Q
theorem xj:bootBuiltins "list"=some (.type "list"):=by decide+kernel
theorem nd5:(["due","number","holder","sacks","share"]:ð).Nodup:=by decide+kernel
theorem ϰ:Ã ["wool","claims","owed","shares","rows","gifts","lacking"] ["wool","claims","owed"] (aD (top 58)):=ú
theorem GK(F:æ K "sort_given" "sort_given" (top 58) f fd)(Ts:mg "sum"=none)(Tl:mg "list"=none)(Tz:mg "zip"=none)(c1:â P w K mg base 7 "shares_of" ["wool","claims"] wZ)(c2:â P w K mg base 1 "made_good" ["wool","owed"] GF):Ñ P w K mg base å 8 f fd ["wool","claims","owed"] GJ:=by
 refine F.oq ϰ λar A outer s H vs Q E hr h=>?_;obtain⟨w0,lc,xc,cl,lo,xo,ow,rfl,ec,E4,MR,VU,hw,eo,sC,IB,VW,q⟩:=h;refine⟨_,aC (đ 3 ϰ.nd (cH ut O Tl xj (aq (aH c1 hr (aq (pv 0) (aq (pv 1) ao))) ao))) (aC (đ 4 ϰ.nd (aU jQ (pv 1) (pv 2))) (aC (pQ (i:=3) ϰ.nd O (Or.inl O) (aH c2 hr (aq (aU dJ (pv 0) (aJ (cM O) O Ts ä (aq (pv 3) ao))) (aq (pv 2) ao))) uM) (aC (iW (g:=mW K 2 (cU (mW K 4 (cU (bU 0) (cU (bU 1) (cU (bU 2) (cU (bU 3) oH))))) (cU (bU 4) oH))) (i:=5) ["due","number","holder","sacks","share"] [none,none,none,none,none] O ϰ.nd O (Or.inl O) (ZT.pi_zip false false O Tz (aq (pv 4) (aq (pv 3) ao))) (λC fp Á s₂ Ï=>⟨fH O O (az (fH O O (az (Ô 0 nd5) (az (Ô 1 nd5) (az (Ô 2 nd5) (az (Ô 3 nd5) aX))))) (az (Ô 4 nd5) aX)),gF (bu lq (pv 4) aB (bj _)),bM (aq (pv 0) (aq (pv 1) (aq (pv 2) (aq (pv 4) ao))))⟩) (λC=>trivial) ⟨O,O,O,O⟩) (aC (iW (g:=mW K 2 (cU (mW K 4 (cU (bU 0) (cU (bU 1) (cU (bU 2) (cU (bU 3) oH))))) (cU (bU 4) oH))) (i:=6) ["due","number","holder","sacks","share"] [none,none,none,none,none] O ϰ.nd O (Or.inl O) (ZT.pi_zip false false O Tz (aq (pv 4) (aq (pv 3) ao))) (λC fp Á s₂ Ï=>⟨fH O O (az (fH O O (az (Ô 0 nd5) (az (Ô 1 nd5) (az (Ô 2 nd5) (az (Ô 3 nd5) aX))))) (az (Ô 4 nd5) aX)),gF (bu lq (pv 3) (pv 4) (bj _)),bM (aq (pv 0) (aq (pv 1) (aq (pv 2) (aq (aU dJ (pv 3) (pv 4)) ao))))⟩) (λC=>trivial) ⟨O,O,O,O⟩) (aF (aQ (bM (aq (pv 5) (aq (pv 6) ao))))))))),?_⟩;refine aP λc_ ae=>?_;refine aV ?_;refine⟨_,O,_,O,w0,lc,xc,cl,O,ec,E4,MR,VU,hw,λt sh H1 s1 τ et=>⟨t,_,O,.inr (Ð.of et),λls MI=>?_⟩⟩;have s2:=s1.updR (o:=.lst (sh.map V.int)) MI;have MU:H ls=none:=s1.free MI;have fx:=aj (H:=H1) (a:=ls) (o:=.lst (sh.map V.int));generalize upd H1 ls (.lst (sh.map V.int))=H2 at s2 fx⊢;refine aG ?_;refine ae _ _ ?_;clear ae c_;try dsimp only
 refine aP λc_ ae=>?_;refine aV ?_;refine⟨_,O,_,O,lc,lo,xc,xo,O,O,s2 _ _ ec,s2 _ _ eo,by rw[E4.1,sC.1,sizeLine_eq];lia,λlr ml=>?_⟩;have s3:=s2.updR (o:=.lst (xc++xo)) ml;have nlr:H lr=none:=s2.free ml;have sF:=À.upd (o:=.lst (xc++xo)) ml _ _ fx;have MV:=aj (H:=H2) (a:=lr) (o:=.lst (xc++xo));have VX:lr≠ls:=λz=>by rw[z,fx]at ml;cases ml
 generalize upd H2 lr (.lst (xc++xo))=H3 at s3 sF MV⊢;refine aG ?_;refine ae _ _ ?_;clear ae c_;try dsimp only
 refine aP λc_ ae=>?_;refine⟨_,O,_,O,_,O,ls,sh,O,.inl (É.of sF),_,_,O,O,_,O,_,lo,xo,ow,O,s3 _ _ eo,sC.same s3,λr hr=>(IB r hr).1,Â,λm H4 s4 nm em=>?_⟩;refine⟨ls,m,_,_,O,O,s4 _ _ sF,em,by rw[Õ,Õ,τ.len,gK,sizeLine_eq];lia,?_⟩;have c0:∀r∈cl,0<=fl r 3:=λr hr=>by have:=(MR r hr).2.1;lia
 have IC:=MF c0 (λr hr=>(IB r hr).2) τ (GC (by have:=τ.sum;lia) λr hr=>(IB r hr).2);rw[<-ë];generalize sh++bC (w0-sh.sum) ow=SH at IC;have E5:=IC.len;refine ae _ _ ?_;clear ae c_ τ;try dsimp only
 have k5:À H (upd H4 ls (.lst (SH.map V.int))):=λb o e=>by rw[au (aA e MU)];exact s4 _ _ (s3 _ _ e)
 have nV:=aj (H:=H4) (a:=ls) (o:=.lst (SH.map V.int));have ko:upd H4 ls (.lst (SH.map V.int)) lr=some (.lst (xc++xo)):=by rw[au VX];exact s4 _ _ MV
 generalize upd H4 ls (.lst (SH.map V.int))=H5 at k5 nV ko⊢;have Cn:î H (xc++xo) (cl++ow):=E4.app sC;have Rk:∀r∈cl++ow,r.length=4:=λr hr=>(ė.mp hr).elim (λz=>(MR r z).1) λz=>(IB r z).1;have VY:(cl++ow).length<=5000000:=by rw[õ];lia
 generalize xc++xo=xr at ko Cn;generalize cl++ow=rr at q E5 IC Cn Rk VY;clear fx sF MV s1 s2 s3 s4 em et;obtain⟨ZP,ID⟩:∃ZP,ZP=rr.zip SH:=⟨_,O⟩;have gv:=Pu IC;rw[<-ID]at gv;have sM:ZP.length=rr.length:=by rw[ID,Θ,E5,Nat.min_self]
 have AQ:∀i(h:i<ZP.length),rr[i]?=some ZP[i].1:=λi h=>by have hi:i<rr.length:=Â;rw[á hi];congr 1;simp only[ID,List.getElem_zip]
 have E6:∀i(h:i<ZP.length),SH[i]?=some ZP[i].2:=λi h=>by have hi:i<SH.length:=Â;rw[á hi];congr 1;simp only[ID,List.getElem_zip]
 have E7:∀i(h:i<ZP.length),(ZP[i].1).length=4:=λi h=>Rk _ (Α (AQ i h));refine aP λc_ ae=>?_;refine⟨_,O,_,O,lr,ls,xr,_,O,É.of ko,É.of nV,fK rr.length (λi ys σ Hc=>À H5 Hc/\(∃o1 o2 o3 o4 o5,σ=[o1,o2,o3,o4,o5])/\î Hc ys (oO (·.2) (ZP.take i))) ⟨À.refl _,⟨_,_,_,_,_,O⟩,î.nil⟩ ų ?_ ?_⟩
 .rintro i ys σ Hc hi hy⟨sc,⟨o1,o2,o3,o4,o5,rfl⟩,ht⟩;have hP:i<ZP.length:=by rw[sM];exact hi
  obtain⟨tr,ex,et⟩:=Cn.2 i ZP[i].1 (AQ i hP);have er:É K Hc lr xr:=É.of (sc _ _ ko);have es:É K Hc ls (SH.map V.int):=É.of (sc _ _ nV);have Cf:(SH.map V.int)[i]?=some (.int ZP[i].2):=by rw[Ą,E6 i hP];rfl
  have dE:ZP.take (i+1)=ZP.take i++[ZP[i]]:=by rw[ĺ,á hP];rfl
  have E8:=sc _ _ (k5 _ _ et);rw[eQ (E7 i hP)]at E8;refine⟨⟨_,_,_,_,er,es,ex,Cf⟩,λx H' yv R hR=>?_⟩;obtain⟨T0,nT,rfl,yv⟩:=yv;obtain⟨x',y',vt,AR,rfl⟩:=yv _ _ er es;rw[ex]at vt;cases vt;rw[Cf]at AR;cases AR;have vT:=sc.updR (o:=.tup [.ref tr,.int ZP[i].2]) nT;refine⟨T0,_,O,Ð.of aj,O,_,_,O,?_⟩;refine⟨tr,_,O,Ð.of (À.upd nT _ _ E8),O,_,_,O,_,_,O,_,_,O,_,_,O,O,?_⟩;refine⟨_,_,O,O,?_⟩;refine⟨_,O,_,_,O,O,_,O,?_⟩;by_cases aT:0<ZP[i].2;.rw[ø aT];refine bK ⟨_,O,_,O,_,O,_,O,zL,λt hG=>hR _ _ _ (by rw[õ];show ys.length+1<=i+1;lia) ⟨vT.updR hG,⟨_,_,_,_,_,O⟩,?_⟩⟩;rw[dE,mH,Ì aT];exact(((ht.same (À.upd nT)).same (À.upd hG))).app (î.one aj)
  .rw[ħ aT];refine bB (hR _ _ _ Â ⟨vT,⟨_,_,_,_,_,O⟩,?_⟩);rw[dE,mH,Ê aT,ş];exact ht.same (À.upd nT)
 rintro ys σ Hc hy⟨sc,_,ht⟩;rw[<-sM,ň]at ht;refine⟨⟨_,É.of (sc _ _ ko),by rw[Cn.1];exact Ü _⟩,λg hg=>?_⟩;have k6:=(k5.trans sc).updR (o:=.lst ys) hg;have ng:H g=none:=(k5.trans sc).free hg;have eg:=aj (H:=Hc) (a:=g) (o:=.lst ys);have elg:=ht.same (À.upd (o:=.lst ys) hg);have sN:=À.upd (o:=.lst ys) hg _ _ (sc _ _ ko);have fm:=À.upd (o:=.lst ys) hg _ _ (sc _ _ nV);generalize upd Hc g (.lst ys)=H6 at k6 eg elg sN fm⊢;clear sc ht hy nV ko k5;refine ae _ _ ?_;clear ae c_;try dsimp only
 refine aP λc_ ae=>?_;refine⟨_,O,_,O,lr,ls,xr,_,O,É.of sN,É.of fm,fK rr.length (λi ys σ Hc=>À H6 Hc/\(∃o1 o2 o3 o4 o5,σ=[o1,o2,o3,o4,o5])/\î Hc ys (oO qP (ZP.take i))) ⟨À.refl _,⟨_,_,_,_,_,O⟩,î.nil⟩ ų ?_ ?_⟩
 .rintro i ys σ Hc hi hy⟨sc,⟨o1,o2,o3,o4,o5,rfl⟩,ht⟩;have hP:i<ZP.length:=by rw[sM];exact hi
  obtain⟨tr,ex,et⟩:=Cn.2 i ZP[i].1 (AQ i hP);have er:É K Hc lr xr:=É.of (sc _ _ sN);have es:É K Hc ls (SH.map V.int):=É.of (sc _ _ fm);have Cf:(SH.map V.int)[i]?=some (.int ZP[i].2):=by rw[Ą,E6 i hP];rfl
  have dE:ZP.take (i+1)=ZP.take i++[ZP[i]]:=by rw[ĺ,á hP];rfl
  have E8:=sc _ _ (k6 _ _ et);rw[eQ (E7 i hP)]at E8;refine⟨⟨_,_,_,_,er,es,ex,Cf⟩,λx H' yv R hR=>?_⟩;obtain⟨T0,nT,rfl,yv⟩:=yv;obtain⟨x',y',vt,AR,rfl⟩:=yv _ _ er es;rw[ex]at vt;cases vt;rw[Cf]at AR;cases AR;have vT:=sc.updR (o:=.tup [.ref tr,.int ZP[i].2]) nT;refine⟨T0,_,O,Ð.of aj,O,_,_,O,?_⟩;refine⟨tr,_,O,Ð.of (À.upd nT _ _ E8),O,_,_,O,_,_,O,_,_,O,_,_,O,O,?_⟩;refine⟨_,_,O,O,?_⟩;refine⟨_,O,_,O,_,_,O,O,_,O,?_⟩;by_cases aT:0<qP ZP[i];.rw[ø (show ZP[i].2<fl ZP[i].1 3 by unfold qP at aT;lia)];refine bK ⟨_,O,_,O,_,O,_,O,_,O,_,_,O,O,zL,λt hG=>hR _ _ _ (by rw[õ];show ys.length+1<=i+1;lia) ⟨vT.updR hG,⟨_,_,_,_,_,O⟩,?_⟩⟩;rw[dE,mH,Ì aT];exact(((ht.same (À.upd nT)).same (À.upd hG))).app (î.one aj)
  .rw[ħ (show¬ZP[i].2<fl ZP[i].1 3 by unfold qP at aT;lia)];refine bB (hR _ _ _ Â ⟨vT,⟨_,_,_,_,_,O⟩,?_⟩);rw[dE,mH,Ê aT,ş];exact ht.same (À.upd nT)
 rintro MW σ Hc hy⟨sc,_,ht⟩;rw[<-sM,ň]at ht;refine⟨⟨_,É.of (sc _ _ sN),by rw[Cn.1];exact Ü _⟩,λk hk=>?_⟩;have k7:=(k6.trans sc).updR (o:=.lst MW) hk;have nk:H k=none:=(k6.trans sc).free hk;have sk:=À.upd (o:=.lst MW) hk;refine ae _ _ ?_;clear ae c_;try dsimp only
 refine⟨_,O,_,O,zL,λt hG=>?_⟩;have st:=À.upd (o:=.tup [.ref g,.ref k]) hG;exact q t g k ys MW _ _ _ (k7.trans st) gv aj ng nk (st _ _ (sk _ _ (sc _ _ eg))) (((elg.same sc).same sk).same st) (st _ _ aj) ((ht.same sk).same st)
def fj(L:WF)(i:Nat):UV:=((List.range i).filter λh=>decide (0<L.getD h 0)).map λ(h:Nat)=>[(h:Int),L.getD h 0]
theorem oF(L:WF)(i:Nat):fj L (i+1)=fj L i++(if 0<L.getD i 0 then[[(i:Int),L.getD i 0]]else[]):=by
 unfold fj;rw[Za4,Za7,ë];congr 1;by_cases h:0<L.getD i 0;.rw[Ì h,zBg (p:=λh=>decide (0<L.getD h 0)) (ø h)];rfl
 .rw[Ê h,zBf (p:=λh=>decide (0<L.getD h 0)) (by rw[č];exact h)];rfl
theorem yP(L:WF)(i:Nat):(fj L i).length<=i:=by unfold fj;rw[Õ];have:=List.length_filter_le (λh=>decide (0<L.getD h 0)) (List.range i);rw[Ż]at this;exact this
def jd(ps ss:UV)(sort year:Int)(n:Nat):UV:=if fl (ps.getD n []) 1=sort then(fj (bZ (ps.getD n []) ss n year) 8).map (λr=>year::(n:Int)::r)else[]
def jc(ps ss:UV)(sort year:Int):Nat->UV|0=>[]|k+1=>jc ps ss sort year k++jd ps ss sort year k
def bh(ps ss:UV)(sort year:Int):UV:=jc ps ss sort year ps.length
theorem GP(ps ss:UV)(sort year:Int)(n:Nat):(jd ps ss sort year n).length<=8:=by
 unfold jd;split;.rw[Õ];exact yP _ 8
 .exact į _
theorem mJ(ps ss:UV)(sort year:Int):∀k,(jc ps ss sort year k).length<=8*k|0=>Ü _|k+1=>by unfold jc;rw[õ];have:=mJ ps ss sort year k;have:=GP ps ss sort year k;lia
inductive Ű(vs:List V)(H:Hp)(Q:VK):Prop|mk:∀ap xp ps ai xs ss sort year,(vs=[.ref ap,.ref ai,.int sort,.int year])->(È H ap xp ps)->(ps.length<=10)->((∀r∈ps,ĝ r))->(È H ai xs ss)->(ss.length<=12)->((∀s∈ss,τ s))->(∀l xl H',À H H'->H l=none->H' l=some (.lst xl)->î H' xl (bh ps ss sort year)->Q (.ref l) H')->Ű  vs H Q
def qQ:Sp:=λvs H Q _=>Ű  vs H Q
theorem ndV:(["holder","sacks","year","number"]:ð).Nodup:=by decide+kernel
theorem ϯ:Ã ["promises","sales","sort","year","claims","number","promise","held"] ["promises","sales","sort","year"] (aD (top 55)):=ú
theorem Dz(F:æ K "claims_in" "claims_in" (top 55) f fd)(Te:mg "enumerate"=none)(c1:â P w K mg base 1 "held_in" ["promises","sales","number","year"] yN):Ñ P w K mg base å 2 f fd ["promises","sales","sort","year"] qQ:=by
 refine F.oq ϯ λar A outer s H vs Q E hr h=>?_;obtain⟨ap,xp,ps,ai,xs,ss,sort,year,rfl,rp,lp,okp,rs,ls,dA,q⟩:=h;refine⟨_,aC (đ 4 ϯ.nd (cX ao)) (aC (cF Ł O (ZT.pi_enum true O Te (aq (pv 0) ao)) (bR O (az (bF (i:=5) ϯ.nd O (Or.inr O)) (az (Ô 6 ϯ.nd) aX))) (aF (cO (bu gP (pX bJ (pv 6) aB) (pv 2) (bj _)) (aC (đ 7 ϯ.nd (aH c1 hr (aq (pv 0) (aq (pv 1) (aq (pv 5) (aq (pv 3) ao)))))) (aF (pQ (i:=4) ϯ.nd O (Or.inl O) (bz (g:=mW K 2 (cU (bU 0) (cU (bU 1) oH))) ["holder","sacks","year","number"] [none,none,some 3,some 5] O (ZT.pi_enum false O Te (aq (pv 7) ao)) (λC fp Á s₂ Ï=>⟨fH O O (az (Ô 0 ndV) (az (Ô 1 ndV) aX)),gF (bu lq (pv 1) aB (bj _)),bM (aq (pv 2) (aq (pv 3) (aq (pv 0) (aq (pv 1) ao))))⟩) (λC=>cI (cI trivial)) ⟨O,O,O,O⟩) uM))) bD))) (aF (aQ (pv 4)))),?_⟩;refine aM (aV ?_);refine⟨zL,λl hl=>?_⟩;refine aG ?_;dsimp only;refine aM ?_;have s0:=À.upd (o:=.lst []) hl;refine⟨_,O,ap,xp,O,Ð.of (s0 _ _ rp.e),?_⟩;refine ZT.for_enum true (xs:=xp) (λi σ Hc=>Xe4 λx5 x6 x7 xl=>Xa4 (σ=[some (.ref ap),some (.ref ai),some (.int sort),some (.int year),some (.ref l),x5,x6,x7]) ((∀b o,H b=some o->Hc b=some o)) (Hc l=some (.lst xl)) (î Hc xl (jc ps ss sort year i))) ?_ ?_ ?_ ?_;.exact⟨none,none,none,[],O,λb o e=>s0 _ _ e,aj,î.nil⟩
 .rintro i σ Hc hi⟨x5,x6,x7,xl,rfl,k,el,ht⟩;exact Ð.of (k _ _ rp.e)
 .rintro i x σ Hc T0 hx⟨x5,x6,x7,xl,rfl,k,el,ht⟩nT;have hi:i<ps.length:=by have:=(Ķ.mp hx).1;rw[rp.l]at this;exact this
  obtain⟨tr,gL,fE⟩:=rp.g i ps[i] (á hi);have:x=.ref tr:=by rw[hx]at gL;exact œ gL
  subst this;have op:=okp ps[i] (Ė hi);have ep:ps.getD i []=ps[i]:=ß hi;rw[eV op.1]at fE;have sT:=À.upd (o:=.tup [V.int i,V.ref tr]) nT;have kT:À H (upd Hc T0 (.tup [V.int i,V.ref tr])):=λb o e=>sT _ _ (k _ _ e);have Co:=sT _ _ el;have Ct:=ht.same sT;have eT:=aj (H:=Hc) (a:=T0) (o:=.tup [V.int i,V.ref tr]);generalize upd Hc T0 (.tup [V.int i,V.ref tr])=H1 at kT Co Ct eT⊢;refine⟨T0,_,O,Ð.of eT,O,_,_,O,_,_,O,O,?_⟩;refine⟨_,O,tr,_,1,.int (fl ps[i] 1),O,O,Ð.of (kT _ _ fE),O,_,O,O,_,O,?_⟩;by_cases hs:fl ps[i] 1=sort
  .rw[ø (by rw[hs])];refine bK (aM ?_);refine aV ?_;refine⟨_,O,_,O,_,O,_,O,ap,xp,ps,ai,xs,ss,i,year,O,rp.same kT,rs.same kT,Â,Â,by rw[Ľ,ep];exact op,ls,dA,λhd H2 s2 e2=>?_⟩;rw[Ľ,ep]at e2;have IE:=fW ps[i] ss i year;have wa:jd ps ss sort year i=(fj (bZ ps[i] ss i year) 8).map (λr=>year::(i:Int)::r):=by unfold jd;rw[ep,Ì hs]
   generalize bZ ps[i] ss i year=L at e2 IE wa;have k2:=kT.trans s2;have ϖ:=s2 _ _ Co;have wb:=Ct.same s2;refine aG ?_;dsimp only;refine⟨_,O,_,O,hd,_,O,É.of e2,fK 8 (λj ys σ Hj=>À H2 Hj/\(∃o1 o2,σ=[o1,o2,some (.int year),some (.int i)])/\î Hj ys ((fj L j).map (λr=>year::(i:Int)::r))) ⟨À.refl _,⟨_,_,O⟩,î.nil⟩ (by rw[sizeLine_eq];decide) ?_ ?_⟩
   .rintro j ys σ Hj hj hy⟨sc,⟨o1,o2,rfl⟩,kU⟩;have gN:É K Hj hd (L.map V.int):=É.of (sc _ _ e2);have E9:(L.map V.int)[j]?=some (.int (L.getD j 0)):=by have eR:j<L.length:=Â;rw[Ą,ę,á eR];rfl
    refine⟨⟨_,_,gN,E9⟩,λx H' yv R hR=>?_⟩;obtain⟨T1,Fc,rfl,yv⟩:=yv;obtain⟨x',cE,rfl⟩:=yv _ gN;rw[E9]at cE;cases cE;have vT:=sc.updR (o:=.tup [.int (j:Int),.int (L.getD j 0)]) Fc;refine⟨T1,_,O,Ð.of aj,O,_,_,O,_,_,O,O,?_⟩;refine⟨_,O,_,_,O,O,_,O,?_⟩;by_cases aT:0<L.getD j 0;.rw[ø aT];refine bK ⟨_,O,_,O,_,O,_,O,zL,λt hG=>hR _ _ _ (by rw[õ];show ys.length+1<=j+1;lia) ⟨vT.updR hG,⟨_,_,O⟩,?_⟩⟩;rw[oF,Ì aT,ë];exact((kU.same (À.upd Fc)).same (À.upd hG)).app (î.one aj)
    .rw[ħ aT];refine bB (hR _ _ _ Â ⟨vT,⟨_,_,O⟩,?_⟩);rw[oF,Ê aT,ş];exact kU.same (À.upd Fc)
   .rintro ys σ Hj hy⟨sc,_,kU⟩;refine⟨⟨_,É.of (sc _ _ e2),by rw[Õ];lia⟩,λD hD=>?_⟩;have sD:=sc.updR (o:=.lst ys) hD;have nD:D≠l:=λz=>by rw[z,sc _ _ ϖ]at hD;cases hD
    have ll:=mJ ps ss sort year i;have:=ht.1;refine⟨l,D,xl,ys,O,O,sD _ _ ϖ,aj,by rw[sizeLine_eq];lia,?_⟩;refine⟨_,_,_,xl++ys,O,λb o e=>?_,aj,?_⟩;.rw[au (aA e hl)];exact sD _ _ (k2 _ _ e)
    .have e3:=(wb.same sD).app (kU.same (À.upd (o:=.lst ys) hD));rw[<-wa]at e3;refine e3.keep λb z e=>?_;rw[au λw=>by rw[w,sD _ _ ϖ]at e;cases e];exact e
  .rw[ħ (λz=>hs (by injection z))];refine bB ?_;refine⟨_,_,_,xl,O,λb o e=>kT _ _ e,Co,?_⟩;have:jc ps ss sort year (i+1)=jc ps ss sort year i:=by show jc ps ss sort year i++jd ps ss sort year i=_;unfold jd;rw[ep,Ê hs,ş]
   rw[this];exact Ct
 .rintro σ Hc⟨x5,x6,x7,xl,rfl,k,el,ht⟩;rw[show xp.length=ps.length from rp.l]at ht;exact⟨_,O,q l xl Hc (λb o e=>k b o e) hl el ht⟩
theorem Ġ:∀(L:WF)i a,i<L.length->(L.set i a).sum=L.sum-L.getD i 0+a|[],i,a,h=>by simp at h;|x::L,0,a,h=>by rw[List.set_cons_zero,Ļ,Ļ,List.getD_cons_zero];lia;|x::L,i+1,a,h=>by rw[List.set_cons_succ,Ļ,Ļ,List.getD_cons_succ,Ġ L i a (by simpa using h)];lia
theorem xm(h:i.toNat<L.length):(kO L i v).sum=L.sum+v:=by unfold kO;rw[Ġ _ _ _ h];lia
theorem nR:∀{L:WF},(∀x∈L,0<=x)->0<=L.sum/\∀x∈L,x<=L.sum
 |[],_=>⟨Zbb _,λx hx=>by cases hx⟩|y::L,h=>by
  obtain⟨h1,h2⟩:=nR (L:=L) λx hx=>h x (.tail _ hx);have hy:=h y (.head _);rw[Ļ];refine⟨Â,λx hx=>?_⟩;rcases ĩ.mp hx with z|z;.lia
  .have:=h2 x z;lia
theorem v8{L:WF}(h:∀x∈L,0<=x)(i:Nat):0<=L.getD i 0:=by rw[ę];cases e:L[i]? with|none=>exact Zbb _;|some y=>exact h y (Α e)
theorem Bl(h:∀x∈L,0<=x)(hv:0<=L.getD i.toNat 0+v):∀x∈kO L i v,0<=x:=by
 intro x hx;unfold kO at hx;rcases List.mem_or_eq_of_mem_set hx with z|z;.exact h x z
 .rw[z];exact hv
theorem GQ(h:un ps ss=none):∀j,j<ss.length->f9 ps (ss.take j) (ss.getD j [])=true:=λj hj=>by unfold un at h;have:=List.find?_eq_none.mp h j (Ϙ.mpr hj);simpa using this
theorem mj(hu:un ps ss=none)(h5:∀s∈ss,s.length=5)(op:ĝ (ps.getD n [])):∀k,k<=ss.length->(∀x∈bZ (ps.getD n []) (ss.take k) n y,0<=x)/\(bZ (ps.getD n []) (ss.take k) n y).sum<=99:=by
 intro k;by_cases hy:fl (ps.getD n []) 2<=y/\y<=fl (ps.getD n []) 3
 .obtain⟨_,⟨a1,a2⟩,_,_,⟨e1,e2⟩,_⟩:=id op
  induction k with|zero=>
   intro _;rw[Zbl];unfold bZ;rw[Ì hy];show(∀x∈Ğ (ps.getD n []),0<=x)/\(Ğ (ps.getD n [])).sum<=99;unfold Ğ;refine⟨λx hx=>?_,?_⟩
   .rcases List.mem_or_eq_of_mem_set hx with z|z;.rw[List.eq_of_mem_replicate z];exact Zbb _
    .lia
   .rw[Ġ _ _ _ (by rw[Zbg];lia)];have:(List.replicate 8 (0:Int)).sum=0:=O;have e:(List.replicate 8 (0:Int)).getD (fl (ps.getD n []) 0).toNat 0=0:=by rw[ę,Zbq,Ì Â];rfl
    rw[this,e];lia;|succ k ih=>
   intro hk;have eR:k<ss.length:=Â;obtain⟨i1,i2⟩:=ih Â;have hB:=GQ hu k eR;rw[ß eR]at hB;have dE:ss.take (k+1)=ss.take k++[ss[k]]:=by rw[ĺ,á eR];rfl
   have eh:bZ (ps.getD n []) (ss.take (k+1)) n y=Ć n y (bZ (ps.getD n []) (ss.take k) n y) ss[k]:=by unfold bZ;rw[Ì hy,Ì hy,dE,List.foldl_append];rfl
   have VZ:=mG (h5 _ (Ė eR)) hB;obtain⟨_,⟨b1,b2⟩,c1,c2⟩:=VZ;have hl:=fW (ps.getD n []) (ss.take k) n y;rw[eh];unfold Ć;by_cases hc:fl ss[k] 0=n/\fl ss[k] 4<=y
   .rw[Ì hc];unfold f9 at hB;rw[Ī]at hB;obtain⟨kG,ip⟩:=hB;have ep:qM ps ss[k]=ps.getD n []:=by unfold qM;rw[hc.1,Ľ]
    have kR:fl ss[k] 3<=(bZ (ps.getD n []) (ss.take k) n y).getD (fl ss[k] 1).toNat 0:=by
     have:=ņ.mp ip y (by
      unfold years;refine ó.mpr ⟨(y-fl ss[k] 4).toNat,Ϙ.mpr ?_,?_⟩;.rw[ep];lia
      .lia);have:=Η this;rw[ep,hc.1]at this;exact this
    unfold rQ at kG;simp only[Bool.and_eq_true,č,Bool.not_eq_true',decide_eq_false_iff_not]at kG;obtain⟨_,_,_,MX,⟨v1,v2⟩,_⟩:=kG;generalize bZ (ps.getD n []) (ss.take k) n y=L at i1 i2 hl kR;have n1:=Bl (i:=fl ss[k] 1) (v:=-(fl ss[k] 3)) i1 Â;refine⟨Bl n1 ?_,?_⟩;.have:=v8 n1 (fl ss[k] 2).toNat;lia
    .rw[xm (by rw[jr];lia),xm Â];lia
   .rw[Ê hc];exact⟨i1,i2⟩
 .intro _;unfold bZ;rw[Ê hy];refine⟨λx hx=>by rw[List.eq_of_mem_replicate hx];exact Zbb _,by decide⟩
def aY(ps:UV)(r:WF):Int:=fl (ps.getD (fl r 1).toNat []) 1
structure Š(ps:UV)(r:WF):Prop where
 l:r.length=4
 n0:0<=fl r 1
 n1:fl r 1<ps.length
 s0:1<=fl r 3
 s1:fl r 3<=99
 h0:0<=fl r 2
 h1:fl r 2<8
theorem Px(hu:un ps ss=none)(h5:∀s∈ss,s.length=5)(okp:∀r∈ps,ĝ r):∀k,k<=ps.length->∀r∈jc ps ss sort year k,Š ps r/\aY ps r=sort:=by intro k;induction k with|zero=>intro _ r hr;cases hr;|succ k ih=>
  intro hk r hr;rcases ė.mp (show r∈jc ps ss sort year k++jd ps ss sort year k from hr)with z|z;.exact ih Â r z
  .unfold jd at z;split at z
   .rename_i hs;obtain⟨q,hq,rfl⟩:=ó.mp z;unfold fj at hq;obtain⟨h,hh,rfl⟩:=ó.mp hq;have hp:=Η (ρ.mp hh).2;have h8:=Ϙ.mp (ρ.mp hh).1;have eR:k<ps.length:=Â;obtain⟨a,b⟩:=mj (n:=k) (y:=year) hu h5 (by rw[ß eR];exact okp _ (Ė eR)) ss.length (Ü _);rw[ň]at a b;have le:(bZ (ps.getD k []) ss k year).getD h 0<=99:=by rw[ę]at hp⊢;cases e:(bZ (ps.getD k []) ss k year)[h]? with|none=>show(0:Int)<=99;decide;|some y=>have:=(nR a).2 y (Α e);show y<=99;lia
    exact⟨⟨O,Int.natCast_nonneg k,Int.ofNat_lt.mpr eR,hp,le,Int.natCast_nonneg h,Int.ofNat_lt.mpr h8⟩,hs⟩
   .cases z
theorem iR(hu:un ps ss=none)(h5:∀s∈ss,s.length=5)(okp:∀r∈ps,ĝ r):∀r∈bh ps ss sort year,Š ps r/\aY ps r=sort:=Px hu h5 okp ps.length (Ü _)
theorem gY(h:ps.length<=10):(bh ps ss sort year).length<=80:=by have:=mJ ps ss sort year ps.length;unfold bh;lia
def aZ(ps ow:UV)(sort:Int):UV:=ow.filter λr=>decide (aY ps r=sort)
theorem GR{ps ow:UV}(h:∀r∈ow,Š ps r):∀r∈aZ ps ow sort,Š ps r/\aY ps r=sort:=λr hr=>⟨h r (ρ.mp hr).1,Η (ρ.mp hr).2⟩
theorem DG(ps ow:UV)(sort:Int):(aZ ps ow sort).length<=ow.length:=List.length_filter_le _ _
theorem iT(ps a b:UV)(sort:Int):aZ ps (a++b) sort=aZ ps a sort++aZ ps b sort:=Za7 ..
theorem iU{ps K:UV}(h:∀r∈K,aY ps r=s)(t:Int):aZ ps K t=if t=s then K else[]:=by
 split;.rename_i e;exact List.filter_eq_self.mpr λr hr=>ø (by rw[e];exact h r hr)
 .rename_i e;exact List.filter_eq_nil_iff.mpr λr hr z=>e (by rw[<-Η z];exact h r hr)
theorem Bm(h:v7 q r)(o:Š ps q):Š ps r/\aY ps r=aY ps q:=by
 obtain⟨e,a,b⟩:=h;have e1:fl r 1=fl q 1:=by rw[e];rfl
 have e2:fl r 2=fl q 2:=by rw[e];rfl
 refine⟨⟨by rw[e];rfl,by rw[e1];exact o.n0,by rw[e1];exact o.n1,a,Int.le_trans b o.s1,by rw[e2];exact o.h0,by rw[e2];exact o.h1⟩,?_⟩;unfold aY;rw[e1]
theorem Š.nn{ps rs:UV}(h:∀r∈rs,Š ps r):∀r∈rs,0<=fl r 3:=λr hr=>Int.le_trans Ù (h r hr).s0
def xD(c:WF)(ps ss:UV)(o:Nat->Int)(y:Int)(s:Nat):Int:=aK (bh ps ss s y)+o s-c.getD s 0
def dn(x:Nat->Int):Nat->Int|0=>0|n+1=>max 0 (dn x n-x n)
def oS(cs ps ss:UV):Nat->Nat->Int|0,_=>0|m+1,s=>max 0 (xD (cs.getD m []) ps ss (oS cs ps ss m) m s-dn (xD (cs.getD m []) ps ss (oS cs ps ss m) m) s)
theorem KQ(x:Nat->Int):∀n,0<=dn x n|0=>Zbb _|n+1=>by show 0<=max 0 _;lia
structure ϑ(cs ps ss:UV)(m:Nat)(K:UV):Prop where
 ok:∀r∈K,Š ps r
 sm:∀s:Nat,s<3->aK (aZ ps K s)=oS cs ps ss m s
 len:K.length<=240*m
def aO(cs ps ss:UV)(m:Nat):Nat->Int|0=>0|n+1=>aO cs ps ss m n+oS cs ps ss m n
theorem jw:∀{ps K:UV},(∀r∈K,0<=aY ps r/\aY ps r<3)->aK K=aK (aZ ps K (0:Nat))+aK (aZ ps K (1:Nat))+aK (aZ ps K (2:Nat))
 |_,[],_=>rfl|ps,r::K,h=>by
  have ih:=jw λq hq=>h q (.tail _ hq);have h0:=h r (.head _);have e:∀s:Nat,aK (aZ ps (r::K) s)=aK (aZ ps K s)+if aY ps r=s then fl r 3 else 0:=λs=>by
   have:r::K=[r]++K:=O;rw[this,iT,gM,iU (s:=aY ps r) (λq hq=>by rw[Ř.mp hq])];by_cases z:aY ps r=s;.rw[Ì z.symm,Ì z];show fl r 3+0+_=_;lia
   .rw[Ê λw=>z w.symm,Ê z];show 0+_=_;lia
  have es:aK (r::K)=fl r 3+aK K:=O;rw[e,e,e,es,ih];split<;>split<;>split<;>lia
def cap(ps ow:UV):Nat->Nat|0=>0|n+1=>cap ps ow n+(80+(aZ ps ow n).length)
theorem GX(ps ow:UV)(h:a<=b):cap ps ow a<=cap ps ow b:=by induction h with|refl=>exact Ü _;|step _ ih=>exact Ņ ih (Nat.le_add_right ..)
theorem vd(ps:UV):∀ow,cap ps ow 3<=240+ow.length
 |[]=>Ü _|r::ow=>by
  have ih:=vd ps ow;have e:∀s:Int,(aZ ps (r::ow) s).length=(aZ ps ow s).length+if aY ps r=s then 1 else 0:=λs=>by
   have:r::ow=[r]++ow:=O;rw[this,iT,õ,iU (s:=aY ps r) (λq hq=>by rw[Ř.mp hq])];by_cases z:aY ps r=s;.rw[Ì z.symm,Ì z];exact Nat.add_comm ..
   .rw[Ê λw=>z w.symm,Ê z];exact Nat.zero_add _
  have c:∀ow:UV,cap ps ow 3=0+(80+(aZ ps ow (0:Nat)).length)+(80+(aZ ps ow (1:Nat)).length)+(80+(aZ ps ow (2:Nat)).length):=λ_=>rfl;rw[c]at ih⊢;rw[e,e,e,ĵ];split<;>split<;>split<;>lia
theorem Š.sort{ps:UV}(okp:∀r∈ps,ĝ r)(o:Š ps r):0<=aY ps r/\aY ps r<3:=by obtain⟨p,_,ep,op⟩:=fY okp o.n0 o.n1;unfold aY;rw[ep];exact op.2.2.1
theorem ϑ.all{cs ps ss K:UV}(okp:∀r∈ps,ĝ r)(h:ϑ cs ps ss m K):aK K=aO cs ps ss m 3:=by rw[jw λr hr=>(h.ok r hr).sort okp,h.sm 0 Ù,h.sm 1 Ù,h.sm 2 Ù];show _=0+oS cs ps ss m 0+oS cs ps ss m 1+oS cs ps ss m 2;rw[ϵ]
end K40
open K40P (è)
namespace K40
open PySem L2
structure YI(ps:UV)(X:Nat->Int)(N:Nat->Nat)(i:Nat)(G K:UV)(L:WF):Prop where
 g:∀r∈G,Š ps r
 k:∀r∈K,Š ps r
 gl:G.length<=N i
 kl:K.length<=N i
 ll:L.length=i
 sm:∀s:Nat,aK (aZ ps K s)=if s<i then max 0 (X s-dn X s)else 0
theorem YI.step(h:YI ps X N i G K L){cl:UV}(ej:∀r∈cl,Š ps r/\aY ps r=i)(hl:N i+cl.length<=N (i+1))(hX:X i=aK cl-(w-dn X i))(v:Z0z w cl G' K')(l:Int):YI ps X N (i+1) (G++G') (K++K') (L++[l])/\w-aK G'=dn X (i+1):=by
 have gk:∀r∈G',Š ps r:=λr hr=>by obtain⟨q,hq,p⟩:=v.gp r hr;exact(Bm p (ej q hq).1).1
 have kk:∀r∈K',Š ps r/\aY ps r=i:=λr hr=>by obtain⟨q,hq,p⟩:=v.kp r hr;obtain⟨a,b⟩:=Bm p (ej q hq).1;exact⟨a,b.trans (ej q hq).2⟩
 have h1:=v.gl;have h2:=v.kl;have h3:=h.gl;have h4:=h.kl;have es:aK K'=max 0 (X i-dn X i):=by rw[v.ks];lia
 refine⟨⟨λr hr=>(ė.mp hr).elim (h.g r) (gk r),λr hr=>(ė.mp hr).elim (h.k r) λz=>(kk r z).1,by rw[õ];lia,by rw[õ];lia,by rw[õ,h.ll];rfl,λs=>?_⟩,?_⟩
 .rw[iT,gM,h.sm s,iU (λr hr=>(kk r hr).2)];by_cases z:s=i;.rw[Ê Â,Ì Â,Ì Â,es,z];lia
  .rw[Ê (show¬(s:Int)=i by lia)];show _+0=_;rw[Zbm];by_cases y:s<i;.rw[Ì y,Ì Â]
   .rw[Ê y,Ê Â]
 .show _=max 0 (dn X i-X i);rw[v.gs];lia
theorem vf{a b:WF}(h:a.Perm b):a.sum=b.sum:=by induction h with|nil=>rfl;|cons x _ ih=>rw[Ļ,Ļ,ih];|swap x y l=>rw[Ļ,Ļ,Ļ,Ļ];lia;|trans _ _ h1 h2=>exact h1.trans h2
theorem YI.perm(h:YI ps X N i G K L)(pg:G'.Perm G)(pk:K'.Perm K):YI ps X N i G' K' L:=⟨λr hr=>h.g r (pg.mem_iff.mp hr),λr hr=>h.k r (pk.mem_iff.mp hr),by rw[pg.length_eq];exact h.gl,by rw[pk.length_eq];exact h.kl,h.ll,λs=>by rw[<-h.sm s];exact vf ((pk.filter _).map _)⟩
def vInt:V->Int|.int i=>i|_=>0
def gq(H:Hp)(a:Addr):WF:=match H a with|some (.tup xs)=>xs.map vInt|_=>[]
theorem Bo(e:H a=some (.tup (r.map V.int))):gq H a=r:=by unfold gq;rw[e];show(r.map V.int).map vInt=r;rw[ĳ];exact List.map_id _
theorem mK:∀{xs:List V}{rs:UV},î H xs rs->∃ads:Ĉ,xs=ads.map V.ref/\rs=ads.map (gq H)/\∀a∈ads,H a=some (.tup ((gq H a).map V.int))
 |[],[],_=>⟨[],O,O,λa ha=>(by cases ha)⟩|[],_::_,h=>by have:=h.1;simp at this;|_::_,[],h=>by have:=h.1;simp at this;|x::xs,r::rs,h=>by
  obtain⟨t,e1,e2⟩:=h.2 0 r O;rw[List.getElem?_cons_zero]at e1;cases e1;obtain⟨ads,f1,f2,f3⟩:=mK (xs:=xs) (rs:=rs) ⟨by have:=h.1;simpa using this,λi q e=>by obtain⟨u,g1,g2⟩:=h.2 (i+1) q (by rw[Zbc];exact e);rw[Zbc]at g1;exact⟨u,g1,g2⟩⟩;have er:=Bo e2;refine⟨t::ads,by rw[f1];rfl,by rw[f2,Ĵ,er,<-f2],λa ha=>?_⟩;rcases ĩ.mp ha with z|z;.rw[z,er];exact e2
  .exact f3 a z
theorem vg{l':Ĉ}(h:∀a∈l',H' a=some (.tup ((gq H a).map V.int))):î H' (l'.map V.ref) (l'.map (gq H)):=by refine⟨by rw[Õ,Õ],λi r e=>?_⟩;rw[Ą]at e;cases z:l'[i]? with|none=>rw[z]at e;cases e;|some a=>rw[z]at e;cases e;exact⟨a,by rw[Ą,z];rfl,h a (Α z)⟩
inductive Ϛ(vs:List V)(H:Hp)(Q:VK):Prop|mk:∀bk y lo ac xc cs ap xp ps ai xs ss xo ow,(vs=[.ref bk,.int y,.ref lo])->(H bk=some (.tup [.ref ac,.ref ap,.ref ai]))->(È H ac xc cs)->((∀r∈cs,r.length=3/\∀x∈r,0<=x))->(0<=y)->(y<cs.length)->(È H ap xp ps)->(ps.length<=10)->((∀r∈ps,ĝ r))->(È H ai xs ss)->(ss.length<=12)->((∀s∈ss,s.length=5))->(un ps ss=none)->(H lo=some (.lst xo))->(î H xo ow)->(ϑ cs ps ss y.toNat ow)->(ow.length<=24000)->(∀t g k tl xg xk G K L H',À H H'->H' t=some (.tup [.ref g,.ref k,.ref tl])->H g=none->H k=none->(g≠sysModules/\k≠sysModules)->H' g=some (.lst xg)->î H' xg G->(∀r∈G,Š ps r)->G.length<=240*(y.toNat+1)->H' k=some (.lst xk)->î H' xk K->ϑ cs ps ss (y.toNat+1) K->L.length=3->H' tl=some (.tup ((L:WF).map V.int))->Q (.ref t) H')->Ϛ  vs H Q
def GZ:Sp:=λvs H Q _=>Ϛ  vs H Q
theorem Bq(h:un ps ss=none)(h5:∀s∈ss,s.length=5):∀s∈ss,τ s:=λs hs=>by obtain⟨j,hj,e⟩:=Za5 hs;have:=GQ h j hj;rw[ß hj,e]at this;exact mG (h5 s hs) this
theorem fB{tb:TS}(R:Hp->Prop)(h:R H)(g:∀H,R H->tb D σ H):tb D σ H:=g H h
theorem ndZ:(["row","promises","sort"]:ð).Nodup:=by decide+kernel
theorem ě:Ã ["book","year","owed","clips","promises","sales","gifts","lacking","left","down","sort","wool","claims","ahead","given","lacked"] ["book","year","owed"] (aD (top 59)):=ú
theorem JK(F:æ K "year_given" "year_given" (top 59) f fd)(T:Mg mg)(N:Nums mg)(Tr:mg "range"=none)(Ts:mg "sorted"=none)(c1:â P w K mg base 2 "claims_in" ["promises","sales","sort","year"] qQ)(c2:â P w K mg base 8 "sort_given" ["wool","claims","owed"] GJ)(c3:â P w K mg base 1 "sacks_of" ["rows"] pF):Ñ P w K mg base å 9 f fd ["book","year","owed"] GZ:=by
 refine F.oq ě λar A outer s H vs Q E hr h=>?_;obtain⟨bk,y,lo,ac,xc,cs,ap,xp,ps,ai,xs,ss,xo,ow,rfl,eb,rc,okc,y0,y1,rp,lp,okp,rs,ls,h5,hu,eo,sC,sQ,VW,q⟩:=h;have Rl:=sQ.ok;obtain⟨t3,e3⟩:=N.sorts;refine K40P.ok_b (aN ⟨cV (pv 0) (bR O (az (Ô 3 ě.nd) (az (bF (i:=4) ě.nd O (Or.inr O)) (az (Ô 5 ě.nd) aX))))⟩ (aN (fM 6 ě.nd (fQ bN)) (aN (fM 7 ě.nd (fQ bN)) (aN (fM 8 ě.nd (fQ bN)) (aN (fM 9 ě.nd j6) (aN ⟨cF Ł O (bV O Tr (aq (cu (v:=.int 3) O e3 ⟨_,O⟩) ao)) (bF (i:=10) ě.nd O (Or.inr O)) (jl (aN (fM 11 ě.nd (jL bw (tG bJ (tG bJ ⟨pv 3⟩ ⟨pv 1⟩ (λ_ _=>rfl)) ⟨pv 10⟩ (λ_ _=>rfl)) ⟨pv 9⟩)) (aN (fM 12 ě.nd ⟨aH c1 hr (aq (pv 4) (aq (pv 5) (aq (pv 10) (aq (pv 1) ao))))⟩) (aN ⟨iW (i:=13) ["row","promises","sort"] [none,some 4,some 10] O ě.nd O (Or.inl O) (dF (pv 2)) (λC fp Á s₂ Ï=>⟨Ô 0 ndZ,gF (bu gP (pX (K40P.ix_tupK (K:=K) O) (pX (K40P.ix_tupK (K:=K) O) (pv 1) (pX (K40P.ix_tupK (K:=K) O) (pv 0) aB)) aB) (pv 2) (bj _)),pv 0⟩) (λC=>cI (cI trivial)) ⟨O,O,O,O⟩⟩ (aN ⟨cV (aH c2 hr (aq (pv 11) (aq (pv 12) (aq (pv 13) ao)))) (bR O (az (Ô 14 ě.nd) (az (Ô 15 ě.nd) aX)))⟩ (aN (fM 9 ě.nd (jL dJ ⟨pv 11⟩ ⟨aH c3 hr (aq (pv 14) ao)⟩)) (aN ⟨pQ (i:=6) ě.nd O (Or.inl O) (pv 14) uM⟩ (aN ⟨pQ (i:=7) ě.nd O (Or.inl O) (pv 15) uM⟩ (cj ⟨cg (fD Β zBb zBa dw (pv 8) (aq (pv 9) ao))⟩)))))))))⟩ (cj (fU (gA (bf ⟨aJ dZ O Ts è (aq (pv 6) ao)⟩ (bf ⟨aJ dZ O Ts è (aq (pv 7) ao)⟩ (bf ⟨cH cB O T.tuple Þ (aq (pv 8) ao)⟩ bN)))))))))))) ?_;refine aM ?_;refine⟨_,O,bk,_,O,Ð.of eb,O,_,_,O,_,_,O,_,_,O,O,?_⟩;dsimp only;refine aM (aV ?_);refine⟨zL,λlg wc=>?_⟩;refine aG ?_;dsimp only;refine aM (aV ?_);refine⟨zL,λlk qr=>?_⟩;refine aG ?_;dsimp only;refine aM (aV ?_);refine⟨zL,λll hU=>?_⟩;refine aG ?_;dsimp only;refine aM (aV ?_);refine aG ?_;dsimp only;have s1:=À.upd (o:=.lst []) wc;have s2:=À.upd (o:=.lst []) qr;have s3:=À.upd (o:=.lst []) hU;have V0:H lg=none:=wc;have tj:H lk=none:=s1.free qr;have V1:H ll=none:=(s1.trans s2).free hU;have Rm:lg≠lk:=λz=>by rw[<-z,aj]at qr;cases qr
 have Rn:lk≠ll:=λz=>by rw[<-z,aj]at hU;cases hU
 have Ro:lg≠ll:=λz=>by rw[<-z,s2 _ _ aj]at hU;cases hU
 refine fB (λH1=>À H H1/\H1 lg=some (.lst [])/\H1 lk=some (.lst [])/\H1 ll=some (.lst [])) ⟨(s1.trans s2).trans s3,s3 _ _ (s2 _ _ aj),s3 _ _ aj,aj⟩ λH1=>?_;rintro⟨k1,EF,V2,υ⟩;clear s1 s2 s3 wc qr hU;obtain⟨m,rfl⟩:∃m:Nat,y=m:=⟨y.toNat,Â⟩;rw[Ľ]at sQ q;have MY:m<cs.length:=Â;obtain⟨tc,Fh,nX⟩:=ir rc y0 (show cs[m]?=some cs[m]from á MY);have V3:cs.getD m []=cs[m]:=ß MY;have Fm:=okc _ (Ė MY);have q:∀t g k tl xg xk G K L H',À H H'->H' t=some (.tup [.ref g,.ref k,.ref tl])->H g=none->H k=none->(g≠sysModules/\k≠sysModules)->H' g=some (.lst xg)->î H' xg G->H' k=some (.lst xk)->î H' xk K->YI ps (xD cs[m] ps ss (oS cs ps ss m) m) (cap ps ow) 3 G K L->H' tl=some (.tup ((L:WF).map V.int))->Q (.ref t) H':=λt g k tl xg xk G K L H' a b c d e f u v w z x=>q t g k tl xg xk G K L H' a b c d e f u z.g (by have:=z.gl;have:=vd ps ow;have:=sQ.len;lia) v w ⟨z.k,λs hs=>by rw[z.sm s,Ì hs];show _=max 0 (xD (cs.getD m []) ps ss (oS cs ps ss m) m s-_);rw[V3],by have:=z.kl;have:=vd ps ow;have:=sQ.len;lia⟩ z.ll x;have hX:∀s:Nat,s<3->xD cs[m] ps ss (oS cs ps ss m) m s=aK (bh ps ss s m++aZ ps ow s)-cs[m].getD s 0:=λs hs=>by rw[gM,sQ.sm s hs];rfl
 generalize xD cs[m] ps ss (oS cs ps ss m) m=X at q hX;generalize cs[m]=c at q nX Fm hX;have dA:=Bq hu h5;refine aM ?_;refine⟨3,O,by decide,by decide,?_⟩;refine cY (lo:=0) (λi σ Hc=>Xe11 λmv mn kS gz gE gI xg xk G K L=>Xa8 (σ=[some (.ref bk),some (.int m),some (.ref lo),some (.ref ac),some (.ref ap),some (.ref ai),some (.ref lg),some (.ref lk),some (.ref ll),some (.int (dn X i)),mv,mn,kS,gz,gE,gI]) (À H Hc) (Hc lg=some (.lst xg)) (î Hc xg G) (Hc lk=some (.lst xk)) (î Hc xk K) (Hc ll=some (.lst (L.map V.int))) (YI ps X (cap ps ow) i G K L)) ?_ ?_ ?_;.exact⟨none,none,none,none,none,none,[],[],[],[],[],O,k1,EF,î.nil,V2,î.nil,υ,⟨λ_ h=>(nomatch h),λ_ h=>(nomatch h),į _,į _,O,λs=>rfl⟩⟩
 .rintro i σ Hc hi⟨mv,mn,kS,gz,gE,gI,xg,xk,G,KK,L,rfl,k,eg,elg,ek,gS,el,yi⟩;have hi:i<3:=hi;refine aG ?_;have z0:(0:Int)+(i:Int)=i:=Â;rw[z0];refine wW λDe CA=>?_;have MZ:(c.map V.int)[i]?=some (.int (c.getD i 0)):=by have eR:i<c.length:=Â;rw[Ą,ę,á eR];rfl
  refine aM (aV ?_);refine⟨_,O,_,O,ac,xc,m,.ref tc,O,O,Ð.of (k _ _ rc.e),Fh,_,O,tc,_,i,.int (c.getD i 0),O,O,Ð.of (k _ _ nX),cJ MZ,_,O,_,_,O,O,?_⟩;refine aG ?_;dsimp only;have dn0:=KQ X i;have cn:=v8 Fm.2 i;refine aM (aV ?_);refine⟨_,O,_,O,_,O,_,O,ap,xp,ps,ai,xs,ss,i,m,O,rp.same k,lp,okp,rs.same k,ls,dA,λlc V4 H2 s2 nlc E4 M0=>?_⟩;refine aG ?_;dsimp only;have k2:=k.trans s2;refine aM ?_;refine⟨_,O,lo,O,⟨_,É.of (k2 _ _ eo)⟩,fK ow.length (λj ys σ Hj=>À H2 Hj/\(∃o1,σ=[o1,some (.ref ap),some (.int i)])/\î Hj ys (aZ ps (ow.take j) i)) ⟨À.refl _,⟨_,O⟩,î.nil⟩ ų ?_ ?_⟩
  .rintro j ys σ Hj hj hy⟨sc,⟨o1,rfl⟩,kU⟩;have kj:=k2.trans sc;have gN:É K Hj lo xo:=É.of (kj _ _ eo);obtain⟨tr,ex,fE⟩:=sC.2 j ow[j] (á hj);have oj:=Rl _ (Ė hj);have o4:=oj.l;have o5:=oj.n0;have Na:=fE;rw[eQ o4]at fE;obtain⟨p,hp,ep,op⟩:=fY okp o5 oj.n1;obtain⟨tp,dv,fF⟩:=ir rp o5 hp;rw[eV op.1]at fF;have dE:aZ ps (ow.take (j+1)) i=aZ ps (ow.take j) i++(if fl p 1=i then[ow[j]]else[]):=by
    rw[ĺ,á hj];unfold aZ aY;rw[show(some ow[j]).toList=[ow[j]]from O,Za7];congr 1;by_cases h:fl p 1=i;.rw[Ì h,zBg (by rw[ep];exact ø h)];rfl
    .rw[Ê h,zBf (by rw[ep,č];exact h)];rfl
   refine⟨⟨_,_,gN,ex⟩,λx H' yv R hR=>?_⟩;obtain⟨rfl,yv⟩:=yv;have yv:=yv _ gN;rw[ex]at yv;cases yv;refine aG ?_;refine⟨_,O,_,O,tr,_,1,.int (fl ow[j] 1),O,O,Ð.of (kj _ _ fE),O,ap,xp,_,.ref tp,O,O,Ð.of (kj _ _ rp.e),dv,tp,_,1,.int (fl p 1),O,O,Ð.of (kj _ _ fF),O,_,O,O,_,O,?_⟩;by_cases h:fl p 1=i;.rw[ø (by rw[h])];refine bK ⟨_,O,hR _ _ _ (by rw[õ];show ys.length+1<=j+1;lia) ⟨sc,⟨_,O⟩,?_⟩⟩;rw[dE,Ì h];exact kU.app (î.one (kj _ _ Na))
   .rw[ħ (λz=>h (by injection z))];refine bB (hR _ _ _ Â ⟨sc,⟨_,O⟩,?_⟩);rw[dE,Ê h,ş];exact kU
  rintro ya σ Hj hy⟨sc,_,vE⟩;rw[ň]at vE;refine⟨⟨_,É.of (sc _ _ (k2 _ _ eo)),by rw[sC.1];exact Ü _⟩,λla Cc=>?_⟩;have sa:=sc.updR (o:=.lst ya) Cc;have Rp:=aj (H:=Hj) (a:=la) (o:=.lst ya);have vE:=vE.same (À.upd (o:=.lst ya) Cc);generalize upd Hj la (.lst ya)=H3 at sa Rp vE⊢;have k3:=k2.trans sa;have sH:=s2.trans sa;dsimp only;have ej:=iR (sort:=i) (year:=m) hu h5 okp;have vS:=gY (ss:=ss) (sort:=i) (year:=m) lp;have IF:=GR (sort:=i) Rl;have hal:=DG ps ow i;refine aM ?_;refine⟨_,O,_,O,_,O,c.getD i 0+dn X i,lc,V4,bh ps ss i m,la,ya,aZ ps ow i,O,sa _ _ E4,M0.same sa,λr hr=>⟨(ej r hr).1.l,(ej r hr).1.s0,(ej r hr).1.s1⟩,vS,Â,Rp,vE,λr hr=>⟨(IF r hr).1.l,Int.le_trans Ù (IF r hr).1.s0⟩,Â,λt g kk om tq GG K' H4 s4 gv et ng nk Rq AS V5 Fn=>⟨t,_,O,Ð.of et,O,_,_,O,_,_,O,O,?_⟩⟩;have k4:=k3.trans s4;have V6:=sH.trans s4;obtain⟨IG,ed⟩:=yi.step (λr hr=>(ė.mp hr).elim (ej r) (IF r)) (by show _<=cap ps ow i+(80+_);rw[õ];lia) (by rw[hX i hi];lia) gv (c.getD i 0+dn X i-aK GG);have l3:=Ņ (GX ps ow (show i+1<=3 from hi)) (vd ps ow);have gl:=Ņ IG.gl l3;have kl:=Ņ IG.kl l3;have g4:∀r∈GG,r.length=4:=λr hr=>(IG.g r (Ş _ hr)).l;rw[õ]at gl kl;rw[<-ed]at CA;have yl:=yi.ll;clear gv yi IF ej;dsimp only;refine aM (aV ?_);refine⟨_,O,_,O,g,om,GG,O,Rq,AS,g4,Â,λH5 s5=>⟨_,_,O,O,?_⟩⟩;refine aG ?_;dsimp only;have k5:=k4.trans s5;have Fu:=V6.trans s5;have ngl:g≠lg:=(aA (sH _ _ eg) ng).symm;have V7:kk≠lg:=(aA (sH _ _ eg) nk).symm;have Rr:=Fu _ _ eg;have V8:=Fu _ _ ek;have el5:=Fu _ _ el;refine aM ?_;refine⟨_,O,_,O,lg,g,xg,om,O,O,Rr,s5 _ _ Rq,by rw[elg.1,AS.1,sizeLine_eq];lia,?_⟩;dsimp only;have Nd:∀b z,H5 b=some (.tup z)->upd H5 lg (.lst (xg++om)) b=some (.tup z):=λb z e=>by rw[au λw=>by rw[w,Rr]at e;cases e];exact e
  have k6:À H (upd H5 lg (.lst (xg++om))):=λb o e=>by rw[au (aA e V0)];exact k5 _ _ e
  have Rt:=aj (H:=H5) (a:=lg) (o:=.lst (xg++om));have FA:=((elg.same Fu).app (AS.same s5)).keep Nd;have Nl:upd H5 lg (.lst (xg++om)) lk=some (.lst xk):=by rw[au Rm.symm];exact V8
  have FC:upd H5 lg (.lst (xg++om)) kk=some (.lst tq):=by rw[au V7];exact s5 _ _ V5
  have Ru:upd H5 lg (.lst (xg++om)) ll=some (.lst (L.map V.int)):=by rw[au Ro.symm];exact el5
  have FD:=(gS.same Fu).keep Nd;have we:=(Fn.same s5).keep Nd;generalize upd H5 lg (.lst (xg++om))=H6 at k6 Rt FA Nl FC Ru FD we⊢;refine aM ?_;refine⟨_,O,_,O,lk,kk,xk,tq,O,O,Nl,FC,by rw[gS.1,Fn.1,sizeLine_eq];lia,?_⟩;dsimp only;have Rv:∀b z,H6 b=some (.tup z)->upd H6 lk (.lst (xk++tq)) b=some (.tup z):=λb z e=>by rw[au λw=>by rw[w,Nl]at e;cases e];exact e
  have k7:À H (upd H6 lk (.lst (xk++tq))):=λb o e=>by rw[au (aA e tj)];exact k6 _ _ e
  have Rw:upd H6 lk (.lst (xk++tq)) lg=some (.lst (xg++om)):=by rw[au Rm];exact Rt
  have FE:=FA.keep Rv;have Rx:=aj (H:=H6) (a:=lk) (o:=.lst (xk++tq));have FF:=(FD.app we).keep Rv;have IH:upd H6 lk (.lst (xk++tq)) ll=some (.lst (L.map V.int)):=by rw[au Rn.symm];exact Ru
  generalize upd H6 lk (.lst (xk++tq))=H7 at k7 Rw FE Rx FF IH⊢;refine⟨_,O,.inl ⟨O,_,É.of IH⟩,_,O,ll,_,_,O,O,IH,by rw[Õ,yl,sizeLine_eq];lia,?_⟩;have Ry:∀{o:HO}b z,H7 b=some (.tup z)->upd H7 ll o b=some (.tup z):=λb z e=>by rw[au λw=>by rw[w,IH]at e;cases e];exact e
  refine CA _ _ ⟨_,_,_,_,_,_,xg++om,xk++tq,_,_,_,O,λb o e=>?_,?_,FE.keep Ry,?_,FF.keep Ry,?_,IG⟩;.rw[au (aA e V1)];exact k7 _ _ e
  .rw[au Ro];exact Rw
  .rw[au Rn];exact Rx
  .rw[aj,ë];rfl
 .rintro σ Hc⟨mv,mn,kS,gz,gE,gI,xg,xk,G,KK,L,rfl,k,eg,elg,ek,gS,el,yi⟩;obtain⟨ag,V9,Rz,RA⟩:=mK elg;obtain⟨ak,Wa,LN,RB⟩:=mK gS;subst V9 Wa;dsimp only;have nn:∀{rs:UV}{ads:Ĉ},rs=ads.map (gq Hc)->(∀r∈rs,Š ps r)->∀a∈ads,gq Hc a≠[]:=λ{rs ads}h h4 a ha z=>by have:=(h4 (gq Hc a) (by rw[h];exact List.mem_map_of_mem ha)).l;rw[z]at this;cases this
  refine⟨_,O,lg,ag,gq Hc,O,É.of eg,λa ha=>⟨Ð.of (RA a ha),nn Rz yi.g a ha⟩,λg l1 hg II RC=>?_⟩;have sg:=À.upd (o:=.lst (l1.map V.ref)) hg;refine⟨_,O,lk,ak,gq Hc,O,É.of (sg _ _ ek),λa ha=>⟨Ð.of (sg _ _ (RB a ha)),nn LN yi.k a ha⟩,λkk l2 hk Wb RD=>?_⟩;have sk:=sg.updR (o:=.lst (l2.map V.ref)) hk;refine⟨_,O,ll,_,O,.inl ⟨É.of (sk _ _ el),λtl IJ=>?_⟩⟩;have sl:=sk.updR (o:=.tup (L.map V.int)) IJ;refine⟨zL,λt ht=>?_⟩;have st:=sl.updR (o:=.tup [.ref g,.ref kk,.ref tl]) ht;have u1:=À.upd (o:=.lst (l2.map V.ref)) hk;have u2:=À.upd (o:=.tup (L.map V.int)) IJ;have u3:=À.upd (o:=.tup [.ref g,.ref kk,.ref tl]) ht;refine q t g kk tl _ _ _ _ _ _ (k.trans st) aj (k.free hg) (k.free (sg.free hk)) ⟨II,Wb⟩ (u3 _ _ (u2 _ _ (u1 _ _ aj))) (vg λa ha=>st _ _ (RA a (RC.mem_iff.mp ha))) (u3 _ _ (u2 _ _ aj)) (vg λa ha=>st _ _ (RB a (RD.mem_iff.mp ha))) (yi.perm ?_ ?_) (u3 _ _ aj);.rw[Rz];exact RC.map _
  .rw[LN];exact RD.map _
def Ë(r:WF):WF:=[fl r 0,fl r 1,fl r 2]
def dI(p:WF×Int):WF:=[fl p.1 0,fl p.1 1,fl p.1 2,fl p.1 3-p.2]
def gZ(p:WF×Int):WF:=[fl p.1 0,fl p.1 1,fl p.1 2,p.2]
theorem yQ:∀{k:Nat}{r:WF},r∈jc ps ss sort year k->∃(j h:Nat)(x:Int),j<k/\r=[year,j,h,x]
 |0,r,hr=>nomatch hr|k+1,r,hr=>by
  rcases ė.mp (show r∈jc ps ss sort year k++jd ps ss sort year k from hr)with z|z;.obtain⟨j,h,x,a,b⟩:=yQ z;exact⟨j,h,x,Â,b⟩
  .unfold jd at z;split at z;.obtain⟨q,hq,rfl⟩:=ó.mp z;unfold fj at hq;obtain⟨h,hh,rfl⟩:=ó.mp hq;exact⟨k,h,_,Â,O⟩
   .cases z
theorem KR:∀k,((jc ps ss sort year k).map Ë).Nodup
 |0=>List.nodup_nil|k+1=>by
  show((jc ps ss sort year k++jd ps ss sort year k).map Ë).Nodup;rw[ë,Zbi];refine⟨KR k,?_,λa ha b hb e=>?_⟩
  .unfold jd;split;.unfold fj;rw[ĳ,ĳ];refine List.Pairwise.map _ (R:=λa b=>a≠b) (λa b h e=>h ?_) (List.nodup_range.filter _);have e:[year,(k:Int),(a:Int)]=[year,(k:Int),(b:Int)]:=e;injection e with _ e;injection e with _ e;injection e with e;lia
   .exact List.nodup_nil
  .subst e;obtain⟨r,hr,e1⟩:=ó.mp ha;obtain⟨j,h,x,a1,rfl⟩:=yQ hr;obtain⟨r',kH,e2⟩:=ó.mp hb;unfold jd at kH;split at kH;.obtain⟨q,hq,rfl⟩:=ó.mp kH;rw[<-e1]at e2;have e2:[year,(k:Int),_]=[year,(j:Int),(h:Int)]:=e2;injection e2 with _ e2;injection e2 with e2;lia
   .cases kH
structure ClOk(ps:UV)(y:Int)(n:Nat)(cl:UV):Prop where
 ok:∀r∈cl,Š ps r/\aY ps r=n
 yr:∀r∈cl,fl r 0=y
 nd:(cl.map Ë).Nodup
 len:cl.length<=80
theorem Py(hu:un ps ss=none)(h5:∀s∈ss,s.length=5)(okp:∀r∈ps,ĝ r)(hl:ps.length<=10):ClOk ps y n (bh ps ss n y):=⟨iR hu h5 okp,λr hr=>by obtain⟨j,h,x,_,rfl⟩:=yQ hr;rfl,KR _,gY hl⟩
structure Stg(ps:UV)(X o:Nat->Int)(y:Int)(n:Nat)(M G:UV):Prop where
 kd:(M.map Ë).Nodup
 ok:∀r∈M,r.length=4/\0<=fl r 1/\fl r 1<ps.length/\0<=fl r 3/\fl r 3<=99
 yr:∀r∈M,fl r 0<y\/(fl r 0=y/\aY ps r<n)sm:∀s:Nat,s<3->aK (aZ ps M s)=if s<n then max 0 (X s-dn X s)else o s
 g4:∀r∈G,r.length=4
 len:M.length<=240*y.toNat+80*n
 glen:G.length<=n*(240*y.toNat+400)
def ö(ps M:UV)(n:Nat):UV:=M.filter λr=>!decide (aY ps r=n)
theorem gr{S:UV}{m:WF}{f:WF×Int->WF}(hk:∀p,Ë (f p)=Ë p.1)(hl:m.length=S.length):((S.zip m).map f).map Ë=S.map Ë:=by
 rw[ĳ];have:(Ë∘f)=Ë∘Prod.fst:=by funext p;exact hk p
 rw[this,<-ĳ,List.map_fst_zip Â]
theorem Br{m:WF}(hl:m.length=S.length):aK ((S.zip m).map dI)=aK S-m.sum:=by rw[<-(v6 hl).2];unfold aK Đ;rw[ĳ];rfl
theorem Stg.step(g:Stg ps X o y n M G)(h3:n<3){w:Int}{sh mg:WF}(ej:ClOk ps y n cl)(pS:S.Perm (aZ ps M n))(hX:X n=aK cl+o n-(w-dn X n))(hw:0<=w)(es:Ś w cl sh)(em:Ś (w-sh.sum) S mg):Stg ps X o y (n+1) (ö ps M n++(S.zip mg).map dI++(cl.zip sh).map dI) (G++(cl.zip sh).map gZ++(S.zip mg).map gZ)/\w-sh.sum-mg.sum=dn X (n+1):=by
 have hE:∀r∈S,r∈M/\aY ps r=n:=λr hr=>by obtain⟨a,b⟩:=ρ.mp (pS.mem_iff.mp hr);exact⟨a,Η b⟩
 have CB:=es.len;have RE:=em.len;have Nn:=ej.len;have hS:aK S=o n:=by have:=g.sm n h3;rw[Ê (ź n)]at this;rw[<-this];exact vf (pS.map _)
 have s1:=es.sum;have s2:=em.sum;have c0:=iQ λr hr=>Š.nn (λr hr=>(ej.ok r hr).1) r hr;have o0:=iQ λr hr=>(g.ok r (hE r hr).1).2.2.2.1;have pm:(ö ps M n++S).Perm M:=(List.Perm.append_left _ pS).trans (List.perm_append_comm.trans (List.filter_append_perm (λr=>decide (aY ps r=n)) M));have e1:=pm.length_eq;rw[õ]at e1;refine⟨⟨?_,?_,?_,λs hs=>?_,?_,?_,?_⟩,?_⟩
 .have p1:(ö ps M n++(S.zip mg).map dI).map Ë|>.Perm (M.map Ë):=by rw[ë,gr (f:=dI) (λ_=>rfl) RE,<-ë];exact pm.map _
  rw[ë,Zbi,gr (f:=dI) (λ_=>rfl) CB];refine⟨p1.nodup_iff.mpr g.kd,ej.nd,λa ha b hb e=>?_⟩;subst e;obtain⟨r,hr,e1⟩:=ó.mp (p1.mem_iff.mp ha);obtain⟨q,hq,e2⟩:=ó.mp hb;have a1:=ej.yr q hq;have a2:=(ej.ok q hq).2;rw[<-e1]at e2;unfold Ë at e2;injection e2 with e3 e2;injection e2 with e4 e2;have:aY ps r=aY ps q:=by unfold aY;rw[e4]
  rcases g.yr r hr with z|z<;>lia
 .intro r hr;rcases ė.mp hr with hr|hr
  .rcases ė.mp hr with hr|hr;.exact g.ok r (ρ.mp hr).1
   .obtain⟨p,hp,rfl⟩:=ó.mp hr;obtain⟨k1,k2,k3,k4,k5⟩:=g.ok _ (hE _ (ϻ (show(p.1,p.2)∈_ from hp)).1).1;exact⟨O,k2,k3,Int.sub_nonneg_of_le (em.bd p hp).2,Int.le_trans (Int.sub_le_self _ (em.bd p hp).1) k5⟩
  .obtain⟨p,hp,rfl⟩:=ó.mp hr;have k:=(ej.ok _ (ϻ (show(p.1,p.2)∈_ from hp)).1).1;exact⟨O,k.n0,k.n1,Int.sub_nonneg_of_le (es.bd p hp).2,Int.le_trans (Int.sub_le_self _ (es.bd p hp).1) k.s1⟩
 .intro r hr;rcases ė.mp hr with hr|hr
  .rcases ė.mp hr with hr|hr
   .rcases g.yr r (ρ.mp hr).1 with z|z;.exact .inl z
    .exact .inr ⟨z.1,Â⟩
   .obtain⟨p,hp,rfl⟩:=ó.mp hr;rcases g.yr p.1 (hE _ (ϻ (show(p.1,p.2)∈_ from hp)).1).1 with z|z;.exact .inl z
    .exact .inr ⟨z.1,by show aY ps p.1<_;lia⟩
  .obtain⟨p,hp,rfl⟩:=ó.mp hr;have h1:=(ϻ (show(p.1,p.2)∈_ from hp)).1;have k2:=(ej.ok _ h1).2;exact .inr ⟨(ej.yr p.1 h1:),by show aY ps p.1<_;lia⟩
 .have a:aK (aZ ps (ö ps M n) s)=if s=n then 0 else aK (aZ ps M s):=by
   unfold aZ ö;rw[List.filter_filter];split;.rename_i z;rw[List.filter_eq_nil_iff.mpr λr _ e=>by rw[Ī,Bool.not_eq_true',č,decide_eq_false_iff_not,z]at e;exact e.2 e.1];rfl
   .rename_i z;congr 1;refine List.filter_congr λr _=>?_;by_cases e:aY ps r=s;.rw[ø e,ħ Â];rfl
    .rw[ħ e];rfl
  have b:aZ ps ((S.zip mg).map dI) s=if(s:Int)=n then(S.zip mg).map dI else[]:=iU (λr hr=>by obtain⟨p,hp,rfl⟩:=ó.mp hr;exact(hE p.1 (ϻ (show(p.1,p.2)∈_ from hp)).1).2) s;have c:aZ ps ((cl.zip sh).map dI) s=if(s:Int)=n then(cl.zip sh).map dI else[]:=iU (λr hr=>by obtain⟨p,hp,rfl⟩:=ó.mp hr;exact(ej.ok p.1 (ϻ (show(p.1,p.2)∈_ from hp)).1).2) s;rw[iT,iT,gM,gM,a,b,c];by_cases z:s=n;.rw[Ì z,Ì Â,Ì Â,Ì Â,Br RE,Br CB,z];lia
  .rw[Ê z,Ê Â,Ê Â,g.sm s hs];show _+0+0=_;rw[Zbm,Zbm];by_cases u:s<n;.rw[Ì u,Ì Â]
   .rw[Ê u,Ê Â]
 .intro r hr;rcases ė.mp hr with hr|hr
  .rcases ė.mp hr with hr|hr;.exact g.g4 r hr
   .obtain⟨p,hp,rfl⟩:=ó.mp hr;rfl
  .obtain⟨p,hp,rfl⟩:=ó.mp hr;rfl
 .rw[õ,õ,Õ,Õ,Θ,Θ];have:=g.len;lia
 .rw[õ,õ,Õ,Õ,Θ,Θ];have:=g.len;have:=g.glen;rw[Nat.succ_mul];lia
 .show _=max 0 (dn X n-X n);lia
def ĉ(r:WF):List Key×V:=((Ë r).map Sum.inl,.int (fl r 3))
theorem pG:∀{a b:WF},(a.map (Sum.inl:Int->Key))=b.map Sum.inl->a=b|[],[],_=>rfl|[],_::_,h=>by simp at h;|_::_,[],h=>by simp at h;|x::a,y::b,h=>by rw[Ĵ,Ĵ]at h;injection h with h1 h2;injection h1 with h1;rw[h1,pG h2]
theorem yR{M:UV}(h:(M.map Ë).Nodup):((M.map ĉ).map (·.1)).Nodup:=by rw[ĳ];have:((λx:List Key×V=>x.1)∘ĉ)=(λk:WF=>(k.map Sum.inl:List Key))∘Ë:=O;rw[this,<-ĳ];exact List.Pairwise.map _ (λa b h e=>h (pG e)) h
theorem qR[DecidableEq κ]{k:κ}{v:V}:∀{kvs:List (κ×V)},(kvs.map (·.1)).Nodup->(k,v)∈kvs->cQ kvs k=some v
 |[],_,h=>by cases h;|p::kvs,nd,h=>by
  rw[Ĵ,Zbf]at nd;rcases ĩ.mp h with z|z;.rw[<-z];exact dz O
  .rw[dB λe=>nd.1 (e▸ó.mpr ⟨_,z,O⟩)];exact qR nd.2 z
def ō(H:Hp)(d:Addr)(M:UV):Prop:=∃Mo:UV,H d=some (.dT (Mo.map ĉ))/\Mo.Perm M
theorem ō.get{r:WF}(h:ō H d M)(nd:(M.map Ë).Nodup)(hr:r∈M)(eb:H b=some (.tup ((Ë r).map V.int))):Ĕ H d (.ref b) (some (.int (fl r 3))):=by obtain⟨Mo,e,pm⟩:=h;have:=qR (yR ((pm.map _).nodup_iff.mpr nd)) (ó.mpr ⟨r,pm.mem_iff.mpr hr,O⟩);rw[<-this];exact Ĕ.t e (by rw[eb,ĳ];rfl)
def Ha(r:WF)(x:Int)(q:WF):WF:=if Ë q=Ë r then[fl r 0,fl r 1,fl r 2,x]else q
theorem DK{Mo A B:UV}{r:WF}(pm:Mo.Perm (A++r::B))(nd:((A++r::B).map Ë).Nodup):∃CC:UV,ý (Mo.map ĉ) ((Ë r).map Sum.inl) (.int x)=CC.map ĉ/\CC.Perm (A++[fl r 0,fl r 1,fl r 2,x]::B):=by
 refine⟨Mo.map (Ha r x),?_,?_⟩
 .unfold ý;rw[Ì (List.any_eq_true.mpr ⟨ĉ r,ó.mpr ⟨r,pm.mem_iff.mpr (ė.mpr (.inr (.head _))),O⟩,ø O⟩),ĳ,ĳ];refine Zax λq _=>?_;show(if(ĉ q).1=_ then((ĉ q).1,V.int x)else ĉ q)=ĉ (Ha r x q);unfold Ha;by_cases e:Ë q=Ë r;.rw[Ì e,Ì (show(ĉ q).1=(Ë r).map Sum.inl by rw[<-e];rfl)];show((Ë q).map Sum.inl,V.int x)=((Ë r).map Sum.inl,V.int x);rw[e]
  .rw[Ê e];exact Ê λz=>e (pG z)
 .refine(pm.map _).trans ?_;rw[ë,Ĵ,Zbi,Zbf]at nd;obtain⟨_,⟨n1,_⟩,n2⟩:=nd;have keep:∀l:UV,(∀q∈l,Ë q≠Ë r)->l.map (Ha r x)=l:=λl hl=>by refine(Zax λq hq=>?_).trans (List.map_id l);exact Ê (hl q hq)
  rw[ë,Ĵ,keep A λq hq e=>n2 _ (ó.mpr ⟨q,hq,O⟩) _ (.head _) e,keep B λq hq e=>n1 (by rw[<-e];exact ó.mpr ⟨q,hq,O⟩),show Ha r x r=[fl r 0,fl r 1,fl r 2,x]from Ì O]
def xn(acc h:Nat):Nat:=((((acc+h*14029467366897019727)%2^64)*2^31)%2^64+((acc+h*14029467366897019727)%2^64)/2^33)*11400714785074694791%2^64
def MJ(acc:Nat)(h:Int):Nat:=xn acc (h%((2^64:Nat):Int)).toNat
def oU(acc:Nat):Int:=if acc==2^64-1 then 1546275796 else if acc<2^63 then acc else(acc:Int)-(2^64:Nat)
def hLen(n:Nat):Nat:=n^^^(2870177450012600261^^^3527539)
theorem Pz(hs:WF):Builtin.Tuple.tupleHashOf hs=oU ((hs.foldl MJ 2870177450012600261+hLen hs.length)%2^64):=rfl
theorem qT{acc k:Nat}(h:k<100):MJ acc (k:Int)=xn acc k:=by unfold MJ;rw[Int.emod_eq_of_lt Â Â,Ľ]
def yS(y n h:Nat):Nat:=(xn (xn (xn 2870177450012600261 y) n) h+hLen 3)%2^64
theorem Hb{y n h:Nat}(hy:y<100)(hn:n<100)(hh:h<100):Builtin.Tuple.tupleHashOf [(y:Int),(n:Int),(h:Int)]=oU (yS y n h):=by rw[Pz,List.foldl_cons,List.foldl_cons,List.foldl_cons,List.foldl_nil,qT hy,qT hn,qT hh];rfl
theorem Hf:∀k:Fin 100,hashInt ((k.1:Nat):Int)=(k.1:Int):=by decide+kernel
def hOf(ks:WF):Int:=reduceHash (Builtin.Tuple.tupleHashOf ks)
theorem yU(n:a≠2^64-1):oU a=if a<2^63 then(a:Int)else(a:Int)-(2^64:Nat):=by unfold oU;rw[Ê (by simpa using n)]
theorem Bs(h:a<2^64)(n:a≠2^64-1):reduceHash (oU a)=oU a:=by
 have b:-(2^63:Int)<=oU a/\oU a<2^63/\oU a≠-1:=by rw[yU n];split<;>lia
 generalize oU a=x at b;unfold reduceHash;rw[Ì (by rw[Ī,č,č];exact⟨b.1,b.2.1⟩),Ê (by simpa using b.2.2)]
theorem JL(ha:a<2^64)(na:a≠2^64-1)(hb:b<2^64)(nb:b≠2^64-1)(e:oU a=oU b):a=b:=by rw[yU na,yU nb]at e;split at e<;>split at e<;>lia
def apart(acc:Nat):List Nat->Bool|[]=>true|a::l=>match acc.testBit a with|true=>false|false=>apart (acc|||2^a) l
theorem xu:∀{l:List Nat}{acc:Nat},apart acc l=true->l.Nodup/\∀a∈l,acc.testBit a=false
 |[],_,_=>⟨List.nodup_nil,λa h=>by cases h⟩|a::l,acc,h=>by
  unfold apart at h;split at h;.cases h
  .rename_i e;obtain⟨h1,h2⟩:=xu h;refine⟨Zbf.mpr ⟨λhm=>?_,h1⟩,λb hb=>?_⟩;.have:=h2 a hm;rw[Nat.testBit_or,Nat.testBit_two_pow_self,Bool.or_true]at this;cases this
   .rcases ĩ.mp hb with z|z;.rw[z];exact e
    .have:=h2 b z;rw[Nat.testBit_or,Bool.or_eq_false_iff]at this;exact this.1
def MK(y:Nat):List Nat:=(List.range 80).map λj=>(yS y (j/8) (j%8))%512
def tops(y:Nat):Bool:=(List.range 80).all λj=>!(yS y (j/8) (j%8)==2^64-1)
theorem MN:∀y,y<20->apart 0 (MK y)=true:=by decide+kernel
theorem MP:∀y,y<20->tops y=true:=by decide+kernel
theorem vm(y n h:Nat):yS y n h<2^64:=Nat.mod_lt _ Ù
theorem JM{y n h n' h':Nat}(hy:y<20)(hn:n<10)(hh:h<8)(yy:n'<10)(RF:h'<8)(e:hOf [(y:Int),(n:Int),(h:Int)]=hOf [(y:Int),(n':Int),(h':Int)]):n=n'/\h=h':=by
 have top:=ņ.mp (MP y hy);have nt:∀n h,n<10->h<8->yS y n h≠2^64-1:=λn h hn hh=>by have:=top (8*n+h) (Ϙ.mpr Â);rw[show(8*n+h)/8=n by lia,show(8*n+h)%8=h by lia]at this;simpa using this
 unfold hOf at e;rw[Hb Â Â Â,Hb Â Â Â,Bs (vm ..) (nt n h hn hh),Bs (vm ..) (nt n' h' yy RF)]at e;have e:=JL (vm ..) (nt n h hn hh) (vm ..) (nt n' h' yy RF) e;have nd:(MK y).Nodup:=(xu (MN y hy)).1;unfold MK at nd;have inj:∀i j,i<80->j<80->yS y (i/8) (i%8)=yS y (j/8) (j%8)->i=j:=λi j hi hj e=>by
  have nd:=List.pairwise_iff_getElem.mp nd;rcases Nat.lt_trichotomy i j with z|z|z;.have:=nd i j (by simpa using hi) (by simpa using hj) z;simp only[List.getElem_map,List.getElem_range]at this;exact absurd (by rw[e]) this
  .exact z
  .have:=nd j i (by simpa using hj) (by simpa using hi) z;simp only[List.getElem_map,List.getElem_range]at this;exact absurd (by rw[e]) this
 have:=inj (8*n+h) (8*n'+h') Â Â (by rw[show(8*n+h)/8=n by lia,show(8*n+h)%8=h by lia,show(8*n'+h')/8=n' by lia,show(8*n'+h')%8=h' by lia];exact e);lia
theorem Bt(y0:0<=y)(y1:y<20)(h:fl r 0=y/\0<=fl r 1/\fl r 1<10/\0<=fl r 2/\fl r 2<8):reduceHash (Builtin.Tuple.tupleHashOf ((ĉ r).1.map (uf w)))=hOf [((y.toNat:Nat):Int),(((fl r 1).toNat:Nat):Int),(((fl r 2).toNat:Nat):Int)]:=by
 obtain⟨a,b,c,d,f⟩:=h;have el:(ĉ r).1.map (uf w)=[hashInt (fl r 0),hashInt (fl r 1),hashInt (fl r 2)]:=O;have h0:hashInt (fl r 0)=((y.toNat:Nat):Int):=by have:=Hf ⟨y.toNat,Â⟩;rw[show((y.toNat:Nat):Int)=fl r 0 by lia]at this⊢;exact this
 have h1:hashInt (fl r 1)=(((fl r 1).toNat:Nat):Int):=by have:=Hf ⟨(fl r 1).toNat,Â⟩;rw[show(((fl r 1).toNat:Nat):Int)=fl r 1 by lia]at this⊢;exact this
 have h2:hashInt (fl r 2)=(((fl r 2).toNat:Nat):Int):=by have:=Hf ⟨(fl r 2).toNat,Â⟩;rw[show(((fl r 2).toNat:Nat):Int)=fl r 2 by lia]at this⊢;exact this
 unfold hOf;rw[el,h0,h1,h2]
theorem MT{f:List Key×V->Int}{L:UV}(nd:(L.map Ë).Nodup)(h:∀r∈L,∀q∈L,f (ĉ r)=f (ĉ q)->Ë r=Ë q):((L.map ĉ).map f).Nodup:=by rw[ĳ];unfold List.Nodup at nd⊢;rw[List.pairwise_map]at nd⊢;exact nd.imp_of_mem λ{r q}hr hq n e=>n (h r hr q hq e)
theorem N5{L:UV}(y0:0<=y)(y1:y<20)(h:∀r∈L,fl r 0=y/\0<=fl r 1/\fl r 1<10/\0<=fl r 2/\fl r 2<8)(nd:(L.map Ë).Nodup)(w:World):((L.map ĉ).map λp=>reduceHash (Builtin.Tuple.tupleHashOf (p.1.map (uf w)))).Nodup:=by refine MT nd λr hr q hq e=>?_;rw[Bt y0 y1 (h r hr),Bt y0 y1 (h q hq)]at e;obtain⟨a,b,c,d,f⟩:=h r hr;obtain⟨a',b',c',d',f'⟩:=h q hq;obtain⟨e1,e2⟩:=JM Â Â Â Â Â e;unfold Ë;rw[a,a',show fl r 1=fl q 1 by lia,show fl r 2=fl q 2 by lia]
structure Lk(cs ps ss:UV)(y:Nat)(M:UV):Prop where
 kd:(M.map Ë).Nodup
 ok:∀r∈M,r.length=4/\0<=fl r 1/\fl r 1<ps.length/\0<=fl r 3/\fl r 3<=99
 yr:∀r∈M,fl r 0<y
 sm:∀s:Nat,s<3->aK (aZ ps M s)=oS cs ps ss y s
 len:M.length<=240*y
theorem Lk.start(g:Lk cs ps ss y M)(X:Nat->Int):Stg ps X (oS cs ps ss y) y 0 M []:=⟨g.kd,g.ok,λr hr=>.inl (g.yr r hr),λs hs=>g.sm s hs,λr hr=>(nomatch hr),by have:=g.len;lia,į _⟩
theorem Stg.next(g:Stg ps (xD (cs.getD y []) ps ss (oS cs ps ss y) y) (oS cs ps ss y) y 3 M G):Lk cs ps ss (y+1) M:=by
 refine⟨g.kd,g.ok,λr hr=>?_,λs hs=>?_,by have:=g.len;lia⟩;.rcases g.yr r hr with z|z<;>lia
 .rw[g.sm s hs,Ì hs];rfl
end K40
namespace K40P
open PySem L2
theorem yV{ws:WF}{Fin:List V->Hp->Prop}(f:Int->Int)(ep:H0 p=some (.lst (ws.map V.int)))(hl:ws.length<sizeLine)(kP:∀z Q,z∈ws->Q (.int (f z)) H0->te (eJ.set 0 (some (.int z))) H0 Q)(fin:Fin ((ws.map f).map V.int) H0):lB (Itl K p) (bU 0) ye te Fin eJ H0:=by
 refine cA ws.length (λi ys σ H=>H=H0/\(∀o,σ.set 0 o=eJ.set 0 o)/\ys=((ws.take i).map f).map V.int) ⟨O,λ_=>rfl,O⟩ hl ?_ ?_
 .rintro i ys σ H hi hy⟨rfl,ij,rfl⟩;have hz:(ws.map V.int)[i]?=some (.int ws[i]):=by rw[Ą,á hi];rfl
  refine⟨⟨_,_,É.of ep,hz⟩,λv H' y' R hR=>?_⟩;obtain⟨rfl,y'⟩:=y';have hv:=y' _ (É.of ep);rw[hz]at hv;cases hv;show te (σ.set 0 (some (.int ws[i]))) _ _;rw[ij];refine kP ws[i] _ (Ė hi) (hR _ _ _ ⟨O,λo=>by rw[List.set_set],?_⟩);rw[ĺ,á hi,ë,ë];rfl
 .rintro ys σ H hy⟨rfl,ij,rfl⟩;refine⟨⟨_,É.of ep,by rw[Õ];exact Ü _⟩,?_⟩;rw[ň];exact fin
inductive ŭ(vs:List V)(H:Hp)(Q:VK):Prop|mk:∀n p ws,(vs=[.int n,.ref p])->(H p=some (.lst (ws.map V.int)))->(OkW ws)->(0<=n)->(n<=ws.sum)->(∀H' q ps,PtOk n ws ps->À H H'->H q=none->H' q=some (.lst (ps.map V.int))->Q (.ref q) H')->ŭ  vs H Q
def spLParts:Sp:=λvs H Q _=>ŭ  vs H Q
section
theorem QQ:([ω,Ϯ,ABi]:ð).Nodup:=by decide+kernel
theorem PB:(["_law_at",ω,Ϯ,ABi]:ð).Nodup:=by decide+kernel
theorem ϲ:Ã [Ϯ,ABa,ABi,Ε,"_law_order","_law_rest","_law_at"] [Ϯ,ABa] (aD (top 87)):=ú
theorem ok_lparted(F:æ K "_law_parted" "_law_parted" (top 87) f fd)(Ts:mg "sum"=none)(Te:mg "enumerate"=none)(To:mg "sorted"=none):Ñ P w K mg base å 1 f fd [Ϯ,ABa] spLParts:=by
 refine F.oq ϲ λar A outer s H vs Q E hr h=>?_;obtain⟨n,p,ws,rfl,ep,ok,n0,n1,q⟩:=h;refine⟨_,aC (mY (i:=2) ϲ.nd O (Or.inr O) (aJ (cM O) O Ts ä (aq (pv 1) ao))) (aC (iW (i:=3) [ω,Ϯ,ABi] [none,some 0,some 2] O ϲ.nd O (Or.inl O) (dF (pv 1)) (λC fp Á s₂ Ï=>⟨Ô 0 QQ,bx,aU oW (aU iu (pv 1) (pv 0)) (pv 2)⟩) (λC=>cI (cI trivial)) ⟨O,O,O,O⟩) (aC (đ 4 ϲ.nd (aJ j9 O To è (aq (bz (g:=mW K 2 (cU (bU 0) (cU (bU 1) oH))) ["_law_at",ω,Ϯ,ABi] [none,none,some 0,some 2] O (ZT.pi_enum false O Te (aq (pv 1) ao)) (λC fp Á s₂ Ï=>⟨fH O O (az (Ô 0 PB) (az (Ô 1 PB) aX)),bx,bM (aq (aU dJ aB (aU iw (aU iu (pv 2) (pv 1)) (pv 3))) (aq (pv 0) ao))⟩) (λC=>cI (cI trivial)) ⟨O,O,O,O⟩) ao))) (aC (cF Ł O (dF (jh zR (pv 4) lu (lz (aU dJ (pv 0) (aJ (cM O) O Ts ä (aq (pv 3) ao)))))) (bR O (az (Ô 5 ϲ.nd) (az (Ô 6 ϲ.nd) aX))) (aF (cV (aU bw (pX bO (pv 3) (pv 6)) aB) (mX (pv 3) (pv 6) ą)))) (aF (aQ (pv 3)))))),?_⟩;have hp:=ok.pos;have ht:=ok.top;have vS:=Gz ok;refine aP λc_ ae=>?_;refine⟨_,O,p,ws,O,.inl (É.of ep),?_⟩;refine ae _ _ ?_;clear ae c_;try dsimp only
 refine aP λc_ ae=>?_;refine⟨_,O,p,O,⟨_,É.of ep⟩,yV (λz=>n*z/ws.sum) ep vS (λz Q hz h=>⟨_,O,_,O,_,_,O,O,.inl ⟨Â,Â⟩,_,O,_,_,O,O,⟨Â,Â⟩,h⟩) ?_⟩;rw[show ws.map (λz=>n*z/ws.sum)=fs n ws from O];intro l1 fk;have s1:=À.upd (o:=.lst ((fs n ws).map V.int)) fk;have υ:=aj (H:=H) (a:=l1) (o:=.lst ((fs n ws).map V.int));have AM:H l1=none:=fk;generalize upd H l1 _=H1 at s1 υ⊢;clear fk;refine ae _ _ ?_;clear ae c_;try dsimp only
 have Nw:=s1 _ _ ep;refine aP λc_ ae=>?_;refine⟨_,O,p,_,O,É.of Nw,cA ws.length (λi ys σ Hc=>À H1 Hc/\(∃o1 o2,σ=[o1,o2,some (.int n),some (.int ws.sum)])/\∃ts:Ĉ,ys=ts.map V.ref/\∀j,j<i->∃a v,ts[j]?=some a/\Hc a=some (.tup [.int v,.int (j:Int)])) ⟨À.refl H1,⟨_,_,O⟩,[],O,λj hj=>absurd hj (Nat.not_lt_zero _)⟩ vS ?_ ?_⟩
 .rintro i ys σ Hc hi hy⟨CD,⟨o1,o2,rfl⟩,ts,rfl,mT⟩;rw[Õ]at hy;have gN:É K Hc p (ws.map V.int):=É.of (CD _ _ Nw);have hx:(ws.map V.int)[i]?=some (.int ws[i]):=by rw[Ą,á hi];rfl
  refine⟨⟨_,_,gN,hx⟩,λv H' y R hR=>?_⟩;obtain⟨T,nT,rfl,y⟩:=y;obtain⟨x',cE,rfl⟩:=y _ gN;rw[hx]at cE;cases cE;have s2:=CD.updR (o:=.tup [.int (i:Int),.int ws[i]]) nT;refine⟨T,_,O,Ð.of aj,O,_,_,O,_,_,O,O,_,O,_,O,_,_,O,O,.inl ⟨Â,Â⟩,_,O,_,_,O,O,(by show 0<ws.sum;lia),_,_,O,O,_,O,zL,λt ht=>?_⟩;refine hR _ _ _ ⟨s2.updR ht,⟨_,_,O⟩,ts++[t],by rw[ë];rfl,λj hj=>?_⟩;by_cases e:j<i;.obtain⟨a,v,h1,h2⟩:=mT j e;exact⟨a,v,by rw[zBd Â];exact h1,À.upd ht _ _ (À.upd nT _ _ h2)⟩
  .have e:j=i:=Â;subst e;exact⟨t,_,by rw[zBc Â,hy,Nat.sub_self];rfl,aj⟩
 rintro ys σ Hc hy⟨CD,_,ts,rfl,mT⟩;rw[Õ]at hy;refine⟨⟨_,É.of (CD _ _ Nw),by rw[Õ];exact Ü _⟩,λD hD=>?_⟩;have s2:=CD.updR (o:=.lst (ts.map V.ref)) hD;have ja:∀j,j<ws.length->∃a v,ts[j]?=some a/\upd Hc D (.lst (ts.map V.ref)) a=some (.tup [.int v,.int (j:Int)]):=λj hj=>by obtain⟨a,v,h1,h2⟩:=mT j hj;exact⟨a,v,h1,À.upd hD _ _ h2⟩
 have eD:=aj (H:=Hc) (a:=D) (o:=.lst (ts.map V.ref));generalize upd Hc D (.lst (ts.map V.ref))=H2 at s2 ja eD⊢;clear mT hD CD;have NA:∀a∈ts,∃v,H2 a=some (.tup [.int v,.int (dW H2 a:Int)])/\Ĭ H2 a=[v,(dW H2 a:Int)]:=λa ha=>by
  obtain⟨j,hj,e⟩:=Za5 ha;obtain⟨b,v,h1,h2⟩:=ja j Â;rw[á hj]at h1;injection h1 with h1;rw[<-h1,e]at h2;have er:Ĭ H2 a=[v,(j:Int)]:=by unfold Ĭ;rw[h2]
  have es:dW H2 a=j:=by unfold dW;rw[h2];exact Ľ j
  rw[er,es];exact⟨v,h2,O⟩
 refine⟨D,ts,Ĭ H2,O,É.of eD,λa ha=>?_,λq' l' hq pm=>?_⟩;.obtain⟨v,e,er⟩:=NA a ha;rw[er];exact⟨Ð.of e,by simp⟩
 have sn:∀a∈l',∃v,H2 a=some (.tup [.int v,.int (dW H2 a:Int)]):=λa ha=>by obtain⟨v,e,_⟩:=NA a (pm.mem_iff.mp ha);exact⟨v,e⟩
 have ord:(l'.map (dW H2)).Perm (List.range ws.length):=by
  refine(pm.map _).trans (List.Perm.of_eq (List.ext_getElem? λj=>?_));by_cases hj:j<ws.length;.obtain⟨a,v,h1,h2⟩:=ja j hj;rw[Ą,h1,Zap hj];show some (dW H2 a)=some j;unfold dW;rw[h2];exact congrArg some (Ľ j)
  .rw[Zau (by rw[Õ];lia),Zau (by rw[Ż];lia)]
 have s3:=s2.updR (o:=.lst (l'.map V.ref)) hq;have VQ:l'.length=ws.length:=by rw[pm.length_eq,hy]
 have sA:=aj (H:=H2) (a:=q') (o:=.lst (l'.map V.ref));have vF:∀a∈l',∃v,upd H2 q' (.lst (l'.map V.ref)) a=some (.tup [.int v,.int (dW H2 a:Int)]):=λa ha=>by obtain⟨v,e⟩:=sn a ha;exact⟨v,À.upd hq _ _ e⟩
 generalize dW H2=sd at ord vF;generalize upd H2 q' (.lst (l'.map V.ref))=H3 at s3 sA vF⊢;clear hq sn NA ja eD s2;refine ae _ _ ?_;clear ae c_;try dsimp only
 have tw:=s3 _ _ υ;have VR:=Bh (n:=n) ok;have VS:=KH (n:=n) ok;refine aM ?_;refine⟨_,O,_,O,_,O,l1,fs n ws,O,.inl (É.of tw),_,_,O,O,_,O,q',_,O,É.of sA,λl4 fI=>⟨l4,O,⟨_,É.of aj⟩,?_⟩⟩;have AO:jP (l'.map V.ref) none (some (lf n ws))=(l'.take (lf n ws).toNat).map V.ref:=by rw[List.map_take,<-gU (i:=(lf n ws).toNat) (by rw[Õ];lia),show((lf n ws).toNat:Int)=lf n ws by lia]
 rw[show n-(fs n ws).sum=lf n ws from O]at*;rw[AO];have inr:∀a∈l'.take (lf n ws).toNat,sd a<ws.length:=λa ha=>Ϙ.mp (ord.mem_iff.mp (ó.mpr ⟨a,Za2 ha,O⟩));have fin:=KJ ok n0 n1 (pk:=(l'.take (lf n ws).toNat).map sd) (by rw[List.map_take];exact(ord.nodup_iff.mpr List.nodup_range).sublist (List.take_sublist _ _)) (λi hi=>by obtain⟨a,ha,rfl⟩:=ó.mp hi;exact inr a ha) (by rw[Õ,ŉ];lia);have NC:∀a∈l'.take (lf n ws).toNat,∃v,H3 a=some (.tup [.int v,.int (sd a:Int)]):=λa ha=>vF a (Za2 ha);generalize l'.take (lf n ws).toNat=pk at fin inr NC fI⊢;have s4:=(s1.trans s3).updR (o:=.lst (pk.map V.ref)) fI;have el4:=aj (H:=H3) (a:=l4) (o:=.lst (pk.map V.ref));have nS:=À.upd (o:=.lst (pk.map V.ref)) fI _ _ tw;have n14:l4≠l1:=λz=>by rw[z,tw]at fI;cases fI
 have FG:∀a∈pk,∃v,upd H3 l4 (.lst (pk.map V.ref)) a=some (.tup [.int v,.int (sd a:Int)]):=λa ha=>by obtain⟨v,e⟩:=NC a ha;exact⟨v,À.upd fI _ _ e⟩
 generalize upd H3 l4 (.lst (pk.map V.ref))=H4 at s4 el4 nS FG⊢;clear fI NC vF sA tw s3;refine jf (xs:=pk.map V.ref) (λi σ Hc=>∃o5 o6,σ=[some (.int n),some (.ref p),some (.int ws.sum),some (.ref l1),some (.ref q'),o5,o6]/\À H Hc/\Hc l4=some (.lst (pk.map V.ref))/\Hc l1=some (.lst ((eU (fs n ws) ((pk.take i).map sd)).map V.int))/\∀a∈pk,∃v,Hc a=some (.tup [.int v,.int (sd a:Int)])) ?_ ?_ ?_ ?_;.exact⟨none,none,O,s4,el4,nS,FG⟩
 .rintro i σ Hc hi⟨o5,o6,rfl,s5,e4,e1,sk⟩;exact É.of e4
 .rintro i v σ Hc hv⟨o5,o6,rfl,s5,e4,e1,sk⟩;rw[Ą]at hv;cases hj:pk[i]? with|none=>rw[hj]at hv;cases hv;|some a=>
   rw[hj]at hv;cases hv;have ha:=Α hj;obtain⟨vr,Wc⟩:=sk a ha;have kp:∀o,À H (upd Hc l1 o):=λo b u e=>by rw[au (aA e AM)];exact s5 _ _ e
   have aI:sd a<(eU (fs n ws) ((pk.take i).map sd)).length:=by rw[jH,qO];exact inr a ha
   have hx:((eU (fs n ws) ((pk.take i).map sd)).map V.int)[((sd a:Nat):Int).toNat]?=some (.int ((eU (fs n ws) ((pk.take i).map sd)).getD (sd a) 0)):=by rw[Ľ,Ą,á aI,ę,á aI];rfl
   refine⟨a,_,O,Ð.of Wc,O,_,_,O,_,_,O,O,?_⟩;dsimp only;refine⟨_,O,_,O,l1,_,(sd a:Int),_,O,O,É.of e1,cJ (by rw[<-Ľ (sd a)];exact hx),_,_,O,O,_,O,_,O,l1,_,(sd a:Int),sd a,O,O,e1,Bj (by rw[Õ];exact aI),?_⟩;refine⟨_,_,O,kp _,by rw[au n14];exact e4,?_,λb hb=>?_⟩;.rw[aj,ĺ,hj,show(some a).toList=[a]from O,ë,show[a].map sd=[sd a]from O,qN,List.map_set]
   .obtain⟨v,e⟩:=sk b hb;exact⟨v,by rw[au λz=>by rw[z,e1]at e;cases e];exact e⟩
 .rintro σ Hc⟨o5,o6,rfl,s5,e4,e1,sk⟩;rw[Õ,ň]at e1;dsimp only;exact⟨_,O,q _ l1 _ fin s5 AM e1⟩
end
end K40P
namespace K40
open PySem L2
abbrev ky(n y:Int):List Key:=[.inl n,.inl y]
def Ŝ(kv:List (Key×V)):Prop:=∀p∈kv,∃h,p.1=.inl h/\0<=h/\h<8
theorem Ŝ.put(g:Ŝ kv)(h0:0<=h)(h8:h<8)(v:V):Ŝ (ý kv (.inl h) v):=by
 intro p hp;unfold ý at hp;split at hp
 .obtain⟨q,hq,rfl⟩:=ó.mp hp;split;.exact g q hq
  .exact g q hq
 .rcases ė.mp hp with z|z;.exact g p z
  .rw[Ř.mp z];exact⟨h,O,h0,h8⟩
structure ģ(fo:Addr)(H0 H:Hp)(dm:Int->Int->Prop)(f:Int->Int->Int->Int)(b:Int->Int->Nat)(kvs:List (List Key×V)):Prop where
 sm:À H0 H
 nf:H0 fo=none
 e:H fo=some (.dT kvs)g:∀n y,dm n y->∃d kv,cQ kvs (ky n y)=some (.ref d)/\H d=some (.dK kv)/\(kv.length<=b n y/\Ŝ kv)/\∀h,0<=h->h<8->(cQ kv (.inl h)).getD (.int 0)=.int (f n y h)no:∀n y,¬dm n y->cQ kvs (ky n y)=none
 i:∀n y n' y' d,cQ kvs (ky n y)=some (.ref d)->cQ kvs (ky n' y')=some (.ref d)->n=n'/\y=y'
 fr:∀n y d,cQ kvs (ky n y)=some (.ref d)->H0 d=none/\d≠fo/\∃o,H d=some o
theorem ģ.new(g:ģ fo H0 H dm f b kvs)(hp:H p=none):ģ fo H0 (upd H p o) dm f b kvs:=⟨g.sm.updR hp,g.nf,À.upd hp _ _ g.e,λn y h=>by obtain⟨d,kv,e1,e2,r⟩:=g.g n y h;exact⟨d,kv,e1,À.upd hp _ _ e2,r⟩,g.no,g.i,λn y d h=>by obtain⟨e1,e2,o',e3⟩:=g.fr n y d h;exact⟨e1,e2,o',À.upd hp _ _ e3⟩⟩
theorem ģ.same(g:ģ fo H0 H dm f b kvs)(s:À H H'):ģ fo H0 H' dm f b kvs:=⟨g.sm.trans s,g.nf,s _ _ g.e,λn y h=>by obtain⟨d,kv,e1,e2,r⟩:=g.g n y h;exact⟨d,kv,e1,s _ _ e2,r⟩,g.no,g.i,λn y d h=>by obtain⟨e1,e2,o',e3⟩:=g.fr n y d h;exact⟨e1,e2,o',s _ _ e3⟩⟩
theorem yW(h:ky n y=ky n' y'):n=n'/\y=y':=by injection h with h1 h2;injection h2 with h2 _;injection h1 with h1;injection h2 with h2;exact⟨h1,h2⟩
theorem ģ.wr(g:ģ fo H0 H dm f b kvs)(hv:cQ kvs (ky N Y)=some (.ref d))(h1:(CF.length<=b' N Y/\Ŝ CF)/\∀h,0<=h->h<8->(cQ CF (.inl h)).getD (.int 0)=.int (f' N Y h))(h2:∀n y,dm n y->¬(n=N/\y=Y)->b n y<=b' n y/\∀h,0<=h->h<8->f' n y h=f n y h):ģ fo H0 (upd H d (.dK CF)) dm f' b' kvs:=by
 obtain⟨w1,w2,_⟩:=g.fr _ _ _ hv;refine⟨λc o e=>by rw[au (aA e w1)];exact g.sm _ _ e,g.nf,by rw[au w2.symm];exact g.e,λn y hd=>?_,g.no,g.i,λn y d' hd=>?_⟩
 .by_cases hk:n=N/\y=Y;.obtain⟨rfl,rfl⟩:=hk;exact⟨d,CF,hv,aj,h1⟩
  .obtain⟨d',kv,q1,q2,q3,q4⟩:=g.g n y hd;have nd:d'≠d:=λz=>hk (g.i _ _ _ _ _ (z▸q1) hv);obtain⟨k1,k2⟩:=h2 n y hd hk;exact⟨d',kv,q1,by rw[au nd];exact q2,⟨Ņ q3.1 k1,q3.2⟩,λh z1 z2=>by rw[k2 h z1 z2];exact q4 h z1 z2⟩
 .obtain⟨w3,w4,o,w5⟩:=g.fr n y d' hd;by_cases nI:d'=d;.exact⟨w3,w4,.dK CF,by rw[nI];exact aj⟩
  .exact⟨w3,w4,o,by rw[au nI];exact w5⟩
theorem ģ.cast(g:ģ fo H0 H dm f b kvs)(h2:∀n y,dm n y->b n y<=b' n y/\∀h,0<=h->h<8->f' n y h=f n y h):ģ fo H0 H dm f' b' kvs:=⟨g.sm,g.nf,g.e,λn y hd=>by obtain⟨d',kv,q1,q2,q3,q4⟩:=g.g n y hd;obtain⟨k1,k2⟩:=h2 n y hd;exact⟨d',kv,q1,q2,⟨Ņ q3.1 k1,q3.2⟩,λh z1 z2=>by rw[k2 h z1 z2];exact q4 h z1 z2⟩,g.no,g.i,g.fr⟩
def Ź(ps:UV)(n y:Int):Prop:=0<=n/\n<ps.length/\fl (ps.getD n.toNat []) 2<=y/\y<=fl (ps.getD n.toNat []) 3
def f0(ps:UV)(n y h:Int):Int:=if h=fl (ps.getD n.toNat []) 0 then fl (ps.getD n.toNat []) 4 else 0
inductive ζ(vs:List V)(H:Hp)(Q:VK):Prop|mk:∀ap xp ps,(vs=[.ref ap])->(È H ap xp ps)->(ps.length<=10)->((∀r∈ps,ĝ r))->(∀fo H' kvs,ģ fo H H' (Ź ps) (f0 ps) (λ_ _=>1) kvs->Q (.ref fo) H')->ζ  vs H Q
def Bu:Sp:=λvs H Q _=>ζ  vs H Q
theorem ī:Ã [ć,Ε,AAn,AAx,ϊ,"_law_first","_law_last",Ϯ,"_law_price",Į] [ć] (aD (top 80)):=ú
theorem Hg(F:æ K "_law_begun" "_law_begun" (top 80) f fd)(Te:mg "enumerate"=none)(Tr:mg "range"=none):Ñ P w K mg base å 1 f fd [ć] Bu:=by
 refine F.oq ī λar A outer s H vs Q E hr h=>?_;obtain⟨ap,xp,ps,rfl,rp,lp,okp,q⟩:=h;refine⟨_,aC (đ 1 ī.nd qj) (aC (cF Ł O (ZT.pi_enum true O Te (aq (pv 0) ao)) (bR O (az (Ô 2 ī.nd) (az (bR O (az (Ô 3 ī.nd) (az (Ô 4 ī.nd) (az (Ô 5 ī.nd) (az (Ô 6 ī.nd) (az (Ô 7 ī.nd) (az (Ô 8 ī.nd) aX))))))) aX))) (aF (cF Ł O (jC O Tr (aq (pv 5) (aq (aU bw (pv 6) aB) ao))) (Ô 9 ī.nd) (aF (oX (fO hr) (pv 1) (bM (aq (pv 2) (aq (pv 9) ao))) (J9 (vY (pv 3) (pv 7) zV) O O Ö Ù) O))))) (aF (aQ (pv 1)))),?_⟩;refine aM (aV ?_);refine λfo RG=>?_;refine aG ?_;dsimp only;refine aM ?_;have d0:ģ fo H (upd H fo (.dT [])) (λ_ _=>False) (f0 ps) (λ_ _=>1) []:=⟨À.upd RG,RG,aj,λ_ _ z=>z.elim,λ_ _ _=>rfl,λ_ _ _ _ _ z=>(by cases z),λ_ _ _ z=>(by cases z)⟩;generalize upd H fo (.dT [])=H1 at d0⊢;refine⟨_,O,ap,xp,O,Ð.of (d0.sm _ _ rp.e),?_⟩;refine ZT.for_enum true (xs:=xp) (λi σ Hc=>Xe9 λx2 x3 x4 x5 x6 x7 x8 x9 kvs=>Xa3 (σ=[some (.ref ap),some (.ref fo),x2,x3,x4,x5,x6,x7,x8,x9]) (ģ fo H Hc (λn y=>Ź ps n y/\n<i) (f0 ps) (λ_ _=>1) kvs) (kvs.length<=20*i)) ?_ ?_ ?_ ?_;.exact⟨none,none,none,none,none,none,none,none,[],O,⟨d0.sm,d0.nf,d0.e,λn y z=>by have:=z.1.1;have:=z.2;lia,λn y _=>d0.no n y id,d0.i,d0.fr⟩,Ü _⟩
 .rintro i σ Hc hi⟨x2,x3,x4,x5,x6,x7,x8,x9,kvs,rfl,dt,lk⟩;exact Ð.of (dt.sm _ _ rp.e)
 .rintro i x σ Hc T0 hx⟨x2,x3,x4,x5,x6,x7,x8,x9,kvs,rfl,dt,lk⟩nT;have hi:i<ps.length:=by have:=(Ķ.mp hx).1;rw[rp.l]at this;exact this
  obtain⟨tr,gL,fE⟩:=rp.g i ps[i] (á hi);have:x=.ref tr:=by rw[hx]at gL;exact œ gL
  subst this;have op:=okp ps[i] (Ė hi);have ep:ps.getD ((i:Int)).toNat []=ps[i]:=by rw[Ľ];exact ß hi
  have dT:=dt.new (o:=.tup [V.int i,V.ref tr]) nT;generalize hpi:ps[i]=p at fE op ep;have RH:=dT.sm _ _ fE;rw[eV op.1]at RH;obtain⟨_,⟨a1,a2⟩,_,⟨c1,c2,c3⟩,⟨e1,e2⟩,_⟩:=op;refine⟨T0,_,O,Ð.of aj,O,_,_,O,_,_,O,?_⟩;refine⟨tr,_,O,Ð.of RH,O,_,_,O,_,_,O,_,_,O,_,_,O,_,_,O,_,_,O,O,O,?_⟩;refine⟨_,O,_,O,_,_,O,O,fl p 2,fl p 3+1,O,⟨Â,Â,Â,Â⟩,?_⟩;generalize upd Hc T0 (.tup [V.int i,V.ref tr])=H2 at dT⊢;refine cY (lo:=fl p 2) (n:=(fl p 3+1-fl p 2).toNat) (λj σ Hj=>∃x9 kvs,σ=[some (.ref ap),some (.ref fo),some (.int i),some (.int (fl p 0)),some (.int (fl p 1)),some (.int (fl p 2)),some (.int (fl p 3)),some (.int (fl p 4)),some (.int (fl p 5)),x9]/\ģ fo H Hj (λn y=>Ź ps n y/\(n<i\/(n=i/\y<fl p 2+j))) (f0 ps) (λ_ _=>1) kvs/\kvs.length<=20*i+j) ?_ ?_ ?_;.exact⟨x9,kvs,O,⟨dT.sm,dT.nf,dT.e,λn y z=>dT.g n y ⟨z.1,by
    rcases z.2 with z2|⟨z2,z3⟩;.exact z2
    .obtain⟨_,_,w1,_⟩:=z.1;rw[z2,ep]at w1;lia⟩,λn y z=>dT.no n y λz'=>z ⟨z'.1,.inl z'.2⟩,dT.i,dT.fr⟩,lk⟩
  .rintro j σ Hj hj⟨x9,kvs,rfl,dj,lj⟩;refine aG ?_;refine λp1 wm=>?_;refine⟨_,O,_,O,aj,[(.inl (fl p 0),.int (fl p 4))],O,(by show 1<=15;decide),?_⟩;have hD:∀b o,Hj b=some o->upd (upd Hj p1 (.dK [])) p1 (.dK (iy [] [(.inl (fl p 0),.int (fl p 4))])) b=some o:=λb o e=>by rw[au (aA e wm),au (aA e wm)];exact e
   have BO:upd (upd Hj p1 (.dK [])) p1 (.dK (iy [] [(.inl (fl p 0),.int (fl p 4))])) p1=some (.dK [(.inl (fl p 0),.int (fl p 4))]):=aj;generalize upd (upd Hj p1 (.dK [])) p1 (.dK (iy [] [(.inl (fl p 0),.int (fl p 4))]))=HD at hD BO⊢;have RI:p1≠fo:=λz=>by rw[z,dj.e]at wm;cases wm
   refine⟨_,O,_,O,_,O,zL,λt ht=>⟨fo,_,O,Ő.t (k:=ky i (fl p 2+j)) (À.upd ht _ _ (hD _ _ dj.e)) aj ų,?_⟩⟩;have kp:∀b o,Hj b=some o->b≠fo->upd (upd HD t (.tup [V.int i,V.int (fl p 2+j)])) fo (.dT (ý kvs (ky i (fl p 2+j)) (.ref p1))) b=some o:=λb o e ne=>by rw[au ne];exact À.upd ht _ _ (hD _ _ e)
   have FH:upd (upd HD t (.tup [V.int i,V.int (fl p 2+j)])) fo (.dT (ý kvs (ky i (fl p 2+j)) (.ref p1))) p1=some (.dK [(.inl (fl p 0),.int (fl p 4))]):=by rw[au RI];exact À.upd ht _ _ BO
   have We:H p1=none:=dj.sm.free wm;refine⟨_,_,O,⟨λb o e=>kp b o (dj.sm _ _ e) (aA e dj.nf),dj.nf,aj,λn y z=>?_,λn y z=>?_,λn y n' y' d z z'=>?_,λn y d z=>?_⟩,?_⟩
   .by_cases hk:ky n y=ky i (fl p 2+j)
    .obtain⟨rfl,rfl⟩:=yW hk;refine⟨p1,_,by rw[gj,Ì O],FH,⟨Ü _,λp hp=>⟨fl _ 0,by rw[Ř.mp hp],a1,Â⟩⟩,λh h0 h8=>?_⟩;unfold f0;rw[ep];by_cases hh:h=fl p 0;.rw[Ì hh,dz (show(Sum.inl (fl p 0):Key)=.inl h by rw[hh])];rfl
     .rw[Ê hh,dB (λz=>hh (by injection z with z;exact z.symm))];rfl
    .have hd:Ź ps n y/\(n<i\/(n=i/\y<fl p 2+j)):=⟨z.1,by
      rcases z.2 with z2|⟨z2,z3⟩;.exact .inl z2
      .refine .inr ⟨z2,?_⟩;have:y≠fl p 2+j:=λw=>hk (by rw[z2,w]);lia⟩;obtain⟨d,kv,q1,q2,q3⟩:=dj.g n y hd;exact⟨d,kv,by rw[gj,Ê hk];exact q1,kp _ _ q2 (dj.fr n y d q1).2.1,q3⟩
   .have hk:¬ky n y=ky i (fl p 2+j):=λw=>by obtain⟨rfl,rfl⟩:=yW w;exact z ⟨⟨Â,Â,by rw[ep];lia,by rw[ep];lia⟩,.inr ⟨O,Â⟩⟩
    rw[gj,Ê hk];exact dj.no n y λz'=>z ⟨z'.1,z'.2.elim .inl λw=>.inr ⟨w.1,Â⟩⟩
   .rw[gj]at z z';have old:∀n y,cQ kvs (ky n y)=some (.ref p1)->False:=λn y w=>by obtain⟨_,_,o,w3⟩:=dj.fr n y p1 w;rw[wm]at w3;cases w3
    by_cases h1:ky n y=ky i (fl p 2+j)
    .rw[Ì h1]at z;by_cases h2:ky n' y'=ky i (fl p 2+j);.exact yW (h1.trans h2.symm)
     .rw[Ê h2]at z';injection z with z;injection z with z;rw[<-z]at z';exact(old _ _ z').elim
    .rw[Ê h1]at z;by_cases h2:ky n' y'=ky i (fl p 2+j);.rw[Ì h2]at z';injection z' with z';injection z' with z';rw[<-z']at z;exact(old _ _ z).elim
     .rw[Ê h2]at z';exact dj.i _ _ _ _ _ z z'
   .rw[gj]at z;by_cases h1:ky n y=ky i (fl p 2+j);.rw[Ì h1]at z;injection z with z;injection z with z;rw[<-z];exact⟨We,RI,_,FH⟩
    .rw[Ê h1]at z;obtain⟨w1,w2,o,w3⟩:=dj.fr n y d z;exact⟨w1,w2,o,kp _ _ w3 w2⟩
   .have:=dC kvs (ky i (fl p 2+j)) (V.ref p1);lia
  .rintro σ Hj⟨x9,kvs,rfl,dj,lj⟩;refine⟨_,_,_,_,_,_,_,_,kvs,O,⟨dj.sm,dj.nf,dj.e,λn y z=>dj.g n y ⟨z.1,?_⟩,λn y z=>dj.no n y λz'=>z ⟨z'.1,z'.2.elim (λw=>by lia) λw=>by lia⟩,dj.i,dj.fr⟩,Â⟩;by_cases hn:n<i;.exact .inl hn
   .have e9:n=i:=by have:=z.2;lia
    refine .inr ⟨e9,?_⟩;obtain⟨_,_,_,w1⟩:=z.1;rw[e9,ep]at w1;lia
 .rintro σ Hc⟨x2,x3,x4,x5,x6,x7,x8,x9,kvs,rfl,dt,lk⟩;refine⟨_,O,q fo Hc kvs ⟨dt.sm,dt.nf,dt.e,λn y z=>dt.g n y ⟨z,?_⟩,λn y z=>dt.no n y λz'=>z z'.1,dt.i,dt.fr⟩⟩;rw[rp.l];exact z.2.1
def qU(ps:UV)(f:Int->Int->Int->Int)(s:WF):Bool:=rQ ps s&&(years (fl s 4) (fl (qM ps s) 3)).all λy=>decide (fl s 3<=f (fl s 0) y (fl s 1))
inductive Ů(vs:List V)(H:Hp)(Q:VK):Prop|mk:∀ap xp ps fo H0 f b kvs t s,(vs=[.ref ap,.ref fo,.ref t])->(È H ap xp ps)->((∀r∈ps,ĝ r))->(ģ fo H0 H (Ź ps) f b kvs)->(H t=some (.tup (s.map V.int)))->(s.length=5)->(∀H',À H H'->Q (.bl (qU ps f s)) H')->Ů  vs H Q
def xx:Sp:=λvs H Q _=>Ů  vs H Q
theorem JN{ns:WF}(h1:M∈ns)(h2:∀a∈ns,M<=a):decide (k<=M)=ns.all λa=>decide (k<=a):=by rw[Zba,č,ņ];exact⟨λh a ha=>ø (Int.le_trans h (h2 a ha)),λh=>Η (h M h1)⟩
theorem PJ(a:Ev σ H ta (.int i))(b:Ev σ H tb (.int j)):Ev σ H (Ϲ rEq ta tb) (.bl (decide (i=j))):=λQ q=>a _ (b _ ⟨O,by have ed:decide (V.int i=V.int j)=decide (i=j):=decide_eq_decide.mpr ⟨λz=>by injection z,λz=>by rw[z]⟩;rw[ed];exact q⟩)
theorem ŕ:Ã [ć,ŀ,AAp,AAn,ABf,"_law_buyer",Ϯ,Į,"_law_first","_law_last"] [ć,ŀ,AAp] (aD (top 81)):=ú
theorem QR:([ω,ŀ,AAn,ABf]:ð).Nodup:=by decide+kernel
theorem DN(F:æ K "_law_holds" "_law_holds" (top 81) f fd)(T:Mg mg)(Tr:mg "range"=none)(Tm:mg "min"=none):Ñ P w K mg base å 1 f fd [ć,ŀ,AAp] xx:=by refine F.oq ŕ λar A outer s H vs Q E hr h=>?_;obtain⟨ap,xp,ps,fo,H0,g,b,kvs,t,r,rfl,rp,okp,dt,et,h5,q⟩:=h;refine⟨_,aC (cV (pv 2) (bR O (az (bF (i:=3) ŕ.nd O (Or.inr O)) (az (bF (i:=4) ŕ.nd O (Or.inr O)) (az (Ô 5 ŕ.nd) (az (Ô 6 ŕ.nd) (az (Ô 7 ŕ.nd) aX))))))) (aC (cO (PW.pt (nZ (cR (gQ bW pY aB (pv 3) (aJ bQ O T.len PySem.boot_len (aq (pv 0) ao)))) (nZ (cR (gQ bW bW aB (pv 4) aB)) (nZ (cR (gQ bW bW aB (pv 5) aB)) (pP (bu gP (pv 4) (pv 5) (bj _))))))) (aF (aQ kW)) bD) (aC (ug (i:=8) (j:=9) O ŕ.nd O O Ù O O (aq (pX bJ (pX bJ (pv 0) (pv 3)) aB) (aq (pX bJ (pX bJ (pv 0) (pv 3)) aB) ao)) O) (aC (cO (PW.pt (nZ (cR (gQ bW bW aB (pv 6) aB)) (pP (cR (gQ bW bW (pv 8) (pv 7) (pv 9)))))) (aF (aQ kW)) bD) (aF (aQ (ik vH (aJ (rM O) O Tm ķ (aq (bz [ω,ŀ,AAn,ABf] [none,some 1,some 3,some 4] O (jC O Tr (aq (pv 7) (aq (aU bw (pv 9) aB) ao))) (λC fp Á s₂ Ï=>⟨Ô 0 QR,bx,ql (fO hr) (gG (fO hr) (pv 1) (bM (aq (pv 2) (aq (pv 0) ao))) (λ_ _=>rfl)) (pv 3) aB (by constructor<;>rfl)⟩) (λC=>cI (cI (cI trivial))) ⟨O,O,O,O⟩) ao)) (pv 6) (bj _))))))),?_⟩;have fin:=q;unfold qU rQ at fin;rw[jt h5]at et;refine aM ?_;refine⟨_,O,t,_,O,Ð.of et,O,_,_,O,_,_,O,_,_,O,_,_,O,_,_,O,O,?_⟩;dsimp only;refine aM ?_;refine cz (p:=λi j=>decide (i<=j)) (q:=λi j=>decide (i<j)) (i:=0) (j:=fl r 0) (k:=(xp.length:Int)) gm (dU O) (λQ h=>⟨_,O,ap,xp,O,.inr (Ð.of rp.e),h⟩) _ ⟨_,O,?_⟩;rw[rp.l];cases e1:(decide (0<=fl r 0)&&decide (fl r 0<ps.length))with|false=>rw[e1]at fin;exact bK (bK (fin H (À.refl H)));|true=>rw[e1]at fin;refine bB ?_;refine cz (p:=λi j=>decide (i<=j)) (q:=λi j=>decide (i<=j)) (i:=0) (j:=fl r 1) (k:=7) gm (dU O) gm _ ⟨_,O,?_⟩;dsimp only;rw[show decide (fl r 1<=7)=decide (fl r 1<8)from decide_eq_decide.mpr Â];cases e2:(decide (0<=fl r 1)&&decide (fl r 1<8))with|false=>rw[e2]at fin;exact bK (bK (fin H (À.refl H)));|true=>rw[e2]at fin;refine bB ?_;refine cz (p:=λi j=>decide (i<=j)) (q:=λi j=>decide (i<=j)) (i:=0) (j:=fl r 2) (k:=7) gm (dU O) gm _ ⟨_,O,?_⟩;dsimp only;rw[show decide (fl r 2<=7)=decide (fl r 2<8)from decide_eq_decide.mpr Â];cases e3:(decide (0<=fl r 2)&&decide (fl r 2<8))with|false=>rw[e3]at fin;exact bK (bK (fin H (À.refl H)));|true=>rw[e3]at fin;refine bB ?_;refine PJ (i:=fl r 1) (j:=fl r 2) (dU O) (dU O) _ ⟨_,O,?_⟩;cases e4:decide (fl r 1=fl r 2)with|true=>rw[e4]at fin;exact bK (fin H (À.refl H));|false=>rw[e4]at fin;refine bB (cW ?_);dsimp only;refine aM ?_;rw[Ī,č,č]at e1 e2;obtain⟨p,hp,ep,op⟩:=fY okp e1.1 e1.2;have AN:qM ps r=p:=ep;rw[AN]at fin;obtain⟨tp,dv,fF⟩:=ir rp e1.1 hp;rw[eV op.1]at fF;obtain⟨_,_,_,⟨g1,g2,g3⟩,_⟩:=id op;refine⟨_,O,_,O,ap,xp,_,.ref tp,O,O,Ð.of rp.e,dv,tp,_,2,.int (fl p 2),O,O,Ð.of fF,O,?_⟩;refine⟨_,O,_,O,ap,xp,_,.ref tp,O,O,Ð.of rp.e,dv,tp,_,3,.int (fl p 3),O,O,Ð.of fF,O,?_⟩;refine⟨_,_,O,?_⟩;dsimp only;refine aM ?_;refine cz (p:=λi j=>decide (i<=j)) (q:=λi j=>decide (i<=j)) (i:=1) (j:=fl r 3) (k:=99) gm (dU O) gm _ ⟨_,O,?_⟩;dsimp only;cases e5:(decide (1<=fl r 3)&&decide (fl r 3<=99))with|false=>rw[e5]at fin;exact bK (bK (fin H (À.refl H)));|true=>rw[e5]at fin;refine bB ?_;refine cz (p:=λi j=>decide (i<=j)) (q:=λi j=>decide (i<=j)) (i:=fl p 2) (j:=fl r 4) (k:=fl p 3) (dU O) (dU O) (dU O) _ ⟨_,O,?_⟩;dsimp only;cases e6:(decide (fl p 2<=fl r 4)&&decide (fl r 4<=fl p 3))with|false=>rw[e6]at fin;exact bK (fin H (À.refl H));|true=>
 rw[e6]at fin;rw[Ī,č,č]at e6;refine bB (cW ?_);dsimp only;refine⟨_,O,_,O,_,_,O,O,fl r 4,fl p 3+1,O,⟨Â,Â,Â,Â⟩,?_⟩;refine wV (λys Hc=>À H Hc/\ys=((years (fl r 4) (fl p 3)).take ys.length).map λy=>V.int (g (fl r 0) y (fl r 1))) ⟨À.refl _,O⟩ ų ?_ ?_
 .rintro i ys Hc Qc hi hy⟨sc,ey⟩qc;refine⟨_,O,_,O,_,O,zL,λk hk=>?_⟩;have sk:=sc.updR (o:=.tup [V.int (fl r 0),V.int (fl r 4+i)]) hk;have dk:=dt.same sk;obtain⟨d,kv,q1,q2,q3,q4⟩:=dk.g (fl r 0) (fl r 4+i) ⟨e1.1,e1.2,by rw[ep];lia,by rw[ep];lia⟩;refine⟨fo,.ref d,O,by rw[<-q1];exact Ĕ.t dk.e aj,?_⟩;refine⟨d,O,.inl ⟨kv,.inl q2⟩,_,O,_,Ĕ.k (k:=.inl (fl r 1)) q2,?_⟩;rw[q4 _ e2.1 e2.2];refine qc _ _ ⟨sk,?_⟩;have hx:(years (fl r 4) (fl p 3))[ys.length]?=some (fl r 4+(i:Int)):=by rw[hy];exact nQ hi
  exact tY ey hx
 .rintro ys Hc hy⟨sc,ey⟩D hD;rw[Zai (by rw[nP,hy];exact Ü _)]at ey;refine⟨D,(years (fl r 4) (fl p 3)).map λy=>g (fl r 0) y (fl r 1),O,É.of (by rw[ĳ];rw[ey];exact aj),?_,λM h1 h2=>⟨_,O,_,_,O,O,?_⟩⟩;.intro z;have:=congrArg List.length z;rw[Õ,nP,List.length_nil]at this;lia
  .have em:=JN (k:=fl r 3) h1 h2;rw[List.all_map]at em;show Q (.bl (decide (fl r 3<=M))) _;rw[em];exact fin _ (sc.updR hD)
def dl(s:WF)(h:Int):Int:=(if h=fl s 2 then fl s 3 else 0)-(if h=fl s 1 then fl s 3 else 0)
def fS(f:Int->Int->Int->Int)(s:WF)(n y h:Int):Int:=if n=fl s 0/\fl s 4<=y then f n y h+dl s h else f n y h
theorem JP:upd (upd H d a) d b=upd H d b:=by
 funext c;by_cases h:c=d;.subst h;rw[aj,aj]
 .rw[au h,au h,au h]
theorem xF(hl:L.length=8)(i0:0<=i)(i1:i<8)(h0:0<=h)(h1:h<8):(kO L i v).getD h.toNat 0=L.getD h.toNat 0+(if h=i then v else 0):=by
 unfold kO;rw[ę,List.getElem?_set];by_cases hh:h=i;.subst hh;rw[Ì O,Ì O,Ì Â];rfl
 .rw[Ê Â,Ê hh,<-ę];lia
theorem DP(hl:L.length=8)(ok:τ s)(h0:0<=h)(h1:h<8):(Ć n y L s).getD h.toNat 0=if n=fl s 0/\fl s 4<=y then L.getD h.toNat 0+dl s h else L.getD h.toNat 0:=by
 obtain⟨_,⟨a1,a2⟩,b1,b2⟩:=ok;unfold Ć dl;by_cases hc:fl s 0=n/\fl s 4<=y;.rw[Ì hc,Ì ⟨hc.1.symm,hc.2⟩,xF (by rw[jr];exact hl) b1 b2 h0 h1,xF hl a1 a2 h0 h1];split<;>split<;>lia
 .rw[Ê hc,Ê λz=>hc ⟨z.1.symm,z.2⟩]
theorem DQ(kQ:fl p 2<=y/\y<=fl p 3)(ok:τ s)(h0:0<=h)(h1:h<8):(bZ p (ss++[s]) n y).getD h.toNat 0=if n=fl s 0/\fl s 4<=y then(bZ p ss n y).getD h.toNat 0+dl s h else(bZ p ss n y).getD h.toNat 0:=by
 have hl:=fW p ss n y;have e:bZ p (ss++[s]) n y=Ć n y (bZ p ss n y) s:=by unfold bZ;rw[Ì kQ,Ì kQ,List.foldl_append];rfl
 rw[e,DP hl ok h0 h1]
inductive ϟ(vs:List V)(H:Hp)(Q:VK):Prop|mk:∀ap xp ps fo H0 f b kvs t s,(vs=[.ref ap,.ref fo,.ref t])->(È H ap xp ps)->((∀r∈ps,ĝ r))->(ģ fo H0 H (Ź ps) f (λ_ _=>b) kvs)->(b<=1000)->(H t=some (.tup (s.map V.int)))->(s.length=5)->(qU ps f s=true)->(∀H',ģ fo H0 H' (Ź ps) (fS f s) (λ_ _=>b+2) kvs->Q .non H')->ϟ  vs H Q
def Hh:Sp:=λvs H Q _=>ϟ  vs H Q
theorem Ń:Ã [ć,ŀ,AAp,AAn,ABf,"_law_buyer",Ϯ,Į,ω,AAv] [ć,ŀ,AAp] (aD (top 82)):=ú
theorem JQ(F:æ K "_law_sell" "_law_sell" (top 82) f fd)(Tr:mg "range"=none):Ñ P w K mg base å 1 f fd [ć,ŀ,AAp] Hh:=by
 refine F.oq Ń λar A outer s H vs Q E hr h=>?_;obtain⟨ap,xp,ps,fo,H0,g,b,kvs,t,r,rfl,rp,okp,dt,hb,et,h5,hh,q⟩:=h;refine⟨_,aC (cV (pv 2) (bR O (az (Ô 3 Ń.nd) (az (Ô 4 Ń.nd) (az (Ô 5 Ń.nd) (az (Ô 6 Ń.nd) (az (Ô 7 Ń.nd) aX))))))) (aF (cF Ł O (jC O Tr (aq (pv 7) (aq (aU bw (pX bJ (pX bJ (pv 0) (pv 3)) aB) aB) ao))) (Ô 8 Ń.nd) (aC (đ 9 Ń.nd (gG (fO hr) (pv 1) (bM (aq (pv 3) (aq (pv 8) ao))) (λ_ _=>rfl))) (aC (oX (fO hr) (pv 9) (pv 4) (aU dJ (gG (fO hr) (pv 9) (pv 4) (λ_ _=>rfl)) (pv 6)) O) (aF (oX (fO hr) (pv 9) (pv 5) (aU bw (ql (fO hr) (pv 9) (pv 5) aB (by constructor<;>rfl)) (pv 6)) O)))))),?_⟩;rw[jt h5]at et;unfold qU rQ at hh;simp only[Bool.and_eq_true,č,Bool.not_eq_true',decide_eq_false_iff_not]at hh;obtain⟨⟨⟨n0,n1⟩,⟨a1,a2⟩,⟨b1,b2⟩,MX,⟨k1,k2⟩,y0,y1⟩,hy⟩:=hh;obtain⟨p,hp,ep,op⟩:=fY okp n0 n1;have AN:qM ps r=p:=ep;rw[AN]at y0 y1 hy;obtain⟨tp,dv,fF⟩:=ir rp n0 hp;rw[eV op.1]at fF;obtain⟨_,_,_,⟨g1,g2,g3⟩,_⟩:=id op;refine aM ?_;refine⟨_,O,t,_,O,Ð.of et,O,_,_,O,_,_,O,_,_,O,_,_,O,_,_,O,O,?_⟩;dsimp only;refine⟨_,O,_,O,_,O,ap,xp,_,.ref tp,O,O,Ð.of rp.e,dv,tp,_,3,.int (fl p 3),O,O,Ð.of fF,O,_,_,O,O,fl r 4,fl p 3+1,O,⟨Â,Â,Â,Â⟩,?_⟩;refine cY (lo:=fl r 4) (n:=(fl p 3+1-fl r 4).toNat) (λj σ Hj=>∃x8 x9,σ=[some (.ref ap),some (.ref fo),some (.ref t),some (.int (fl r 0)),some (.int (fl r 1)),some (.int (fl r 2)),some (.int (fl r 3)),some (.int (fl r 4)),x8,x9]/\ģ fo H0 Hj (Ź ps) (λn y h=>if n=fl r 0/\fl r 4<=y/\y<fl r 4+j then g n y h+dl r h else g n y h) (λn y=>if n=fl r 0/\fl r 4<=y/\y<fl r 4+j then b+2 else b) kvs) ?_ ?_ ?_;.refine⟨none,none,O,dt.cast λn y hd=>?_⟩;rw[Ê Â];exact⟨Ü _,λh _ _=>by rw[Ê Â]⟩
 .rintro j σ Hj hj⟨x8,x9,rfl,dj⟩;refine aG (aM ?_);refine aV ?_;refine⟨_,O,_,O,_,O,zL,λk hk=>?_⟩;have dk:=dj.new (o:=.tup [V.int (fl r 0),V.int (fl r 4+j)]) hk;have ek:upd Hj k (.tup [V.int (fl r 0),V.int (fl r 4+j)]) k=some (.tup ((ky (fl r 0) (fl r 4+j)).map kV)):=aj;generalize upd Hj k (.tup [V.int (fl r 0),V.int (fl r 4+j)])=H1 at dk ek⊢;have ND:Ź ps (fl r 0) (fl r 4+j):=⟨n0,n1,by rw[ep];lia,by rw[ep];lia⟩;obtain⟨d,kv,q1,q2,⟨q3,qk⟩,q4⟩:=dk.g _ _ ND;rw[Ê Â]at q3;refine⟨fo,.ref d,O,by rw[<-q1];exact Ĕ.t dk.e ek,?_⟩;refine aG ?_;dsimp only;have kX:=q4 (fl r 1) a1 a2;rw[Ê Â]at kX;have kR:fl r 3<=g (fl r 0) (fl r 4+j) (fl r 1):=by have:=ņ.mp hy (fl r 4+j) (Α (nQ hj));exact Η this
  have NF:cQ kv (.inl (fl r 1))=some (.int (g (fl r 0) (fl r 4+j) (fl r 1))):=by cases ev:cQ kv (.inl (fl r 1))with|none=>rw[ev]at kX;injection kX with kX;lia;|some v=>rw[ev]at kX;exact congrArg some kX
  have FI:=q4 (fl r 2) b1 b2;rw[Ê Â]at FI;refine aM ?_;refine⟨_,O,_,O,d,_,O,by rw[<-NF];exact Ĕ.k (k:=.inl (fl r 1)) q2,_,O,_,_,O,O,_,O,_,O,d,_,O,Ő.k (k:=.inl (fl r 1)) q2 ų,?_⟩;dsimp only;have lp1:=dC kv (.inl (fl r 1)) (V.int (g (fl r 0) (fl r 4+j) (fl r 1)-fl r 3));have vb:(cQ (ý kv (.inl (fl r 1)) (V.int (g (fl r 0) (fl r 4+j) (fl r 1)-fl r 3))) (.inl (fl r 2))).getD (.int 0)=.int (g (fl r 0) (fl r 4+j) (fl r 2)):=by rw[gj,Ê (λz=>MX (by injection z with z;exact z.symm))];exact FI
  refine⟨_,O,d,O,.inl ⟨_,.inl aj⟩,_,O,_,Ĕ.k (k:=.inl (fl r 2)) aj,_,O,_,_,vb,O,_,O,_,O,d,_,O,Ő.k (k:=.inl (fl r 2)) aj ų,?_⟩;have lp2:=dC (ý kv (.inl (fl r 1)) (V.int (g (fl r 0) (fl r 4+j) (fl r 1)-fl r 3))) (.inl (fl r 2)) (V.int (g (fl r 0) (fl r 4+j) (fl r 2)+fl r 3));refine⟨_,_,O,?_⟩;rw[JP];refine dk.wr q1 ⟨⟨?_,(qk.put a1 a2 _).put b1 b2 _⟩,λh h0 h8=>?_⟩ λn y hd jS=>⟨?_,λh h0 h8=>?_⟩;.rw[Ì ⟨O,Â,Â⟩];exact Ņ (dC _ _ _) (Nat.succ_le_succ (Ņ (dC _ _ _) (Nat.succ_le_succ q3)))
  .rw[Ì ⟨O,Â,Â⟩,gj];unfold dl;by_cases ip:h=fl r 2;.rw[Ì (by rw[ip]),Ì ip,Ê (λz=>MX (z.symm.trans ip))];show V.int _=V.int _;rw[ip];congr 1;lia
   .rw[Ê (λz=>ip (by injection z)),Ê ip,gj];by_cases mB:h=fl r 1;.rw[Ì (by rw[mB]),Ì mB];show V.int _=V.int _;rw[mB];congr 1;lia
    .rw[Ê (λz=>mB (by injection z)),Ê mB];have:=q4 h h0 h8;rw[Ê Â]at this;rw[this];congr 1;lia
  .split<;>split<;>lia
  .by_cases hc:n=fl r 0/\fl r 4<=y/\y<fl r 4+j;.rw[Ì hc,Ì ⟨hc.1,hc.2.1,Â⟩]
   .rw[Ê hc,Ê λz=>hc ⟨z.1,z.2.1,by have:y≠fl r 4+j:=λw=>jS ⟨z.1,w⟩;lia⟩]
 .rintro σ Hj⟨x8,x9,rfl,dj⟩;refine q Hj (dj.cast λn y hd=>⟨by split<;>lia,λh h0 h8=>?_⟩);unfold fS;by_cases hc:n=fl r 0/\fl r 4<=y
  .have:y<=fl p 3:=by have:=hd.2.2.2;rw[hc.1,ep]at this;exact this
   rw[Ì hc,Ì ⟨hc.1,hc.2,Â⟩]
  .rw[Ê hc,Ê λz=>hc ⟨z.1,z.2.1⟩]
inductive Τ(vs:List V)(H:Hp)(Q:VK):Prop|mk:∀ap xp ps ai xs ss,(vs=[.ref ap,.ref ai])->(È H ap xp ps)->(ps.length<=10)->((∀r∈ps,ĝ r))->(È H ai xs ss)->(ss.length<=100)->((∀s∈ss,s.length=5))->(∀t fo H',À H H'->H' t=some (.tup [.ref fo,unV (un ps ss)])->(un ps ss=none->∃b kvs,ģ fo H H' (Ź ps) (λn y h=>(bZ (ps.getD n.toNat []) ss n y).getD h.toNat 0) b kvs)->Q (.ref t) H')->Τ  vs H Q
def pH:Sp:=λvs H Q _=>Τ  vs H Q
inductive Ϟ(vs:List V)(H:Hp)(Q:VK):Prop|mk:∀ap xp ps ai xs ss,(vs=[.ref ap,.ref ai])->(È H ap xp ps)->(ps.length<=10)->((∀r∈ps,ĝ r))->(È H ai xs ss)->(ss.length<=100)->((∀s∈ss,s.length=5))->(∀t fo H',À H H'->H' t=some (.tup [.ref fo,unV (un ps ss)])->Q (.ref t) H')->Ϟ  vs H Q
def Hl:Sp:=λvs H Q _=>Ϟ  vs H Q
theorem Hm(ok:ĝ (ps.getD n.toNat []))(kQ:fl (ps.getD n.toNat []) 2<=y/\y<=fl (ps.getD n.toNat []) 3)(h0:0<=h)(h8:h<8):(bZ (ps.getD n.toNat []) [] n y).getD h.toNat 0=f0 ps n y h:=by
 unfold bZ f0;rw[Ì kQ];generalize ps.getD n.toNat []=p at ok;obtain⟨_,⟨a1,a2⟩,_⟩:=ok;show(Ğ p).getD h.toNat 0=_;unfold Ğ;rw[ę,List.getElem?_set];by_cases hh:h=fl p 0;.rw[Ì (by rw[hh]),Ì (by rw[Zbg];lia),Ì hh];rfl
 .rw[Ê Â,Ê hh,Zbq,Ì Â];rfl
theorem ϔ:Ã [ć,ſ,ŀ,"_law_at",AAp] [ć,ſ] (aD (top 83)):=ú
theorem xG(F:æ K ABb ABb (top 83) f fd)(Te:mg "enumerate"=none)(c1:â P w K mg base 1 "_law_begun" [ć] Bu)(c2:â P w K mg base 1 "_law_holds" [ć,ŀ,AAp] xx)(c3:â P w K mg base 1 "_law_sell" [ć,ŀ,AAp] Hh):Ñ P w K mg base å 2 f fd [ć,ſ] pH:=by
 refine F.oq ϔ λar A outer s H vs Q E hr h=>?_;obtain⟨ap,xp,ps,ai,xs,ss,rfl,rp,lp,okp,rs,ls,dA,q⟩:=h;refine⟨_,aC (đ 2 ϔ.nd (aH c1 hr (aq (pv 0) ao))) (aC (cF Ł O (ZT.pi_enum true O Te (aq (pv 1) ao)) (bR O (az (Ô 3 ϔ.nd) (az (Ô 4 ϔ.nd) aX))) (aC (cO (cR (dD (aH c2 hr (aq (pv 0) (aq (pv 2) (aq (pv 4) ao)))))) (aF (aQ (bM (aq (pv 2) (aq (pv 3) ao))))) bD) (aF (cg (aH c3 hr (aq (pv 0) (aq (pv 2) (aq (pv 4) ao)))))))) (aF (aQ (bM (aq (pv 2) (aq pO ao)))))),?_⟩;refine aM (aV ?_);refine⟨_,O,ap,xp,ps,O,rp,lp,okp,λfo H1 kvs d1=>?_⟩;refine aG ?_;dsimp only;refine aM ?_;refine⟨_,O,ai,xs,O,Ð.of (d1.sm _ _ rs.e),?_⟩;have Wf:∀n y,Ź ps n y->ĝ (ps.getD n.toNat []):=λn y hd=>by obtain⟨p,_,e2,e3⟩:=fY okp hd.1 hd.2.1;rw[e2];exact e3
 refine ZT.for_enum true (xs:=xs) (λi σ Hc=>∃x3 x4,σ=[some (.ref ap),some (.ref ai),some (.ref fo),x3,x4]/\ģ fo H Hc (Ź ps) (λn y h=>(bZ (ps.getD n.toNat []) (ss.take i) n y).getD h.toNat 0) (λ_ _=>1+2*i) kvs/\∀j,j<i->f9 ps (ss.take j) (ss.getD j [])=true) ?_ ?_ ?_ ?_;.exact⟨none,none,O,d1.cast λn y hd=>⟨Ü _,λh h0 h8=>Hm (Wf n y hd) hd.2.2 h0 h8⟩,λj hj=>absurd hj (Nat.not_lt_zero _)⟩
 .rintro i σ Hc hi⟨x3,x4,rfl,dt,hh⟩;exact Ð.of (dt.sm _ _ rs.e)
 .rintro i x σ Hc T0 hx⟨x3,x4,rfl,dt,hh⟩nT;have hi:i<ss.length:=by have:=(Ķ.mp hx).1;rw[rs.l]at this;exact this
  obtain⟨tr,gL,fE⟩:=rs.g i ss[i] (á hi);have:x=.ref tr:=by rw[hx]at gL;exact œ gL
  subst this;have h5:=dA ss[i] (Ė hi);have dT:=dt.new (o:=.tup [V.int i,V.ref tr]) nT;have eT:upd Hc T0 (.tup [V.int i,V.ref tr]) T0=some (.tup [V.int i,V.ref tr]):=aj;generalize upd Hc T0 (.tup [V.int i,V.ref tr])=H2 at dT eT⊢;refine⟨T0,_,O,Ð.of eT,O,_,_,O,_,_,O,O,?_⟩;refine aM ?_;refine⟨_,O,_,O,_,O,ap,xp,ps,fo,H,_,_,kvs,tr,ss[i],O,rp.same dT.sm,okp,dT,dT.sm _ _ fE,h5,λH3 s3=>⟨_,O,?_⟩⟩;have d3:=dT.same s3;have NG:qU ps (λn y h=>(bZ (ps.getD n.toNat []) (ss.take i) n y).getD h.toNat 0) ss[i]=f9 ps (ss.take i) ss[i]:=O
  cases eh:f9 ps (ss.take i) ss[i]with|false=>
   rw[NG,eh];refine bK ⟨_,O,_,O,zL,λt ht=>q t fo _ (d3.sm.updR ht) ?_ λz=>?_⟩;.rw[uY hh hi (by rw[ß hi];exact eh)];exact aj
   .rw[uY hh hi (by rw[ß hi];exact eh)]at z;cases z;|true=>
   rw[NG,eh];refine bB (cW ?_);refine⟨_,O,_,O,_,O,ap,xp,ps,fo,H,_,1+2*i,kvs,tr,ss[i],O,rp.same d3.sm,okp,d3,Â,d3.sm _ _ fE,h5,NG.trans eh,λH4 d4=>?_⟩;have dE:ss.take (i+1)=ss.take i++[ss[i]]:=by rw[ĺ,á hi];rfl
   refine⟨_,_,O,d4.cast λn y hd=>⟨Â,λh h0 h8=>?_⟩,λj hj=>?_⟩;.rw[dE,DQ hd.2.2 (mG h5 eh) h0 h8];rfl
   .rcases Nat.lt_succ_iff_lt_or_eq.mp hj with z|z;.exact hh j z
    .rw[z,ß hi];exact eh
 .rintro σ Hc⟨x3,x4,rfl,dt,hh⟩;refine⟨_,O,zL,λt ht=>q t fo _ (dt.sm.updR ht) ?_ λ_=>?_⟩;.rw[Bg λj hj=>hh j (by rw[rs.l];exact hj)];exact aj
  .rw[show xs.length=ss.length from rs.l,ň]at dt;exact⟨_,kvs,dt.new ht⟩
theorem JR(F:Ñ P w K mg base å 2 f fd [ć,ſ] pH):Ñ P w K mg base å 2 f fd [ć,ſ] Hl:=by refine F.imp λvs H Q E h=>?_;obtain⟨ap,xp,ps,ai,xs,ss,rfl,rp,lp,okp,rs,ls,dA,q⟩:=h;exact⟨ap,xp,ps,ai,xs,ss,O,rp,lp,okp,rs,ls,dA,λt fo H' s e _=>q t fo H' s e⟩
def PK(st:Addr)(H:Hp)(n:Int)(v:V)(H':Hp):Prop:=∃ps,ţ st H H'/\gH H' st/\Ó (λ_=>False) H' v (bY ps)/\(ps.length:Int)<=n/\∀r∈ps,ĝ r
inductive ū(vs:List V)(H:Hp)(Q:VK):Prop|mk:∀st n y,(vs=[.ref st,.int n,.int y])->(gH H st)->(1<=n)->(n<=10)->(0<=y)->(y<=1000)->(∀v H',PK st H n v H'->Q v H')->ū  vs H Q
def xH:Sp:=λvs H Q _=>ū  vs H Q
theorem vq(F:æ K ABj ABj (top 79) f fd)(T:Mg mg)(Tr:mg "range"=none)(Tm:mg "min"=none)(c1:â P w K mg base 1 AAs [ă,AAo] jo):Ñ P w K mg base å 2 f fd [ă,Ų,AAq] xH:=by
 refine F.oq ύ λar A outer s H vs Q E hr h=>?_;obtain⟨st,n,y,rfl,dS,n1,n2,y1,y2,q⟩:=h;refine⟨_,aC (ug (i:=3) (j:=4) O ύ.nd O O Ù O O (aq (cX ao) (aq (pX bO (cX (lJ (by repeat constructor))) (aH c1 hr (aq (pv 0) (aq aB ao)))) ao)) O) (aC (cF Ł O (bV O Tr (aq (aH c1 hr (aq (pv 0) (aq (aU bw (pv 1) aB) ao))) ao)) (Ô 5 ύ.nd) (aC (đ 6 ύ.nd (aH c1 hr (aq (pv 0) (aq (aJ (iC O) O Tm ķ (aq aB (aq (aU bw (pv 2) aB) ao))) ao)))) (aC (đ 7 ύ.nd (aJ (iC O) O Tm ķ (aq aB (aq (aU bw (pv 6) (aH c1 hr (aq (pv 0) (aq (pX bO (cX (lJ (by repeat constructor))) (aH c1 hr (aq (pv 0) (aq aB ao)))) ao)))) ao)))) (aC (đ 8 ύ.nd (pX bO (uH (jZ aB (jZ aB (jZ (aH c1 hr (aq (pv 0) (aq aB ao))) (jZ (aU pW aB aB) bN))))) (aH c1 hr (aq (pv 0) (aq aB ao))))) (aC (đ 9 ύ.nd (pX bO (uH (jZ aB (jZ aB (jZ aB (jZ (aH c1 hr (aq (pv 0) (aq aB ao))) bN))))) (aH c1 hr (aq (pv 0) (aq aB ao))))) (aF (cg (fD Β zBb zBa dw (pv 3) (aq (Fl (gA (bf ⟨pv 9⟩ (bf ⟨aH c1 hr (aq (pv 0) (aq aB ao))⟩ (bf ⟨pv 6⟩ (bf ⟨pv 7⟩ (bf ⟨aU bw aB (aH c1 hr (aq (pv 0) (aq (pv 4) ao)))⟩ (bf ⟨pv 8⟩ bN)))))))) ao))))))))) (aF (aQ (cH cB O T.tuple Þ (aq (pv 3) ao))))),?_⟩;obtain⟨a,b,es,h1,h2,h3⟩:=id dS;refine aP λc_ ae=>?_;refine⟨zL,λp3 iX=>?_⟩;have js:p3≠st:=λz=>by rw[z,es]at iX;cases iX
 have g0:Mk3 st p3 [] [] H (upd H p3 (.lst [])):=⟨λb' o' e' _=>À.upd iX _ _ e',⟨a,b,À.upd iX _ _ es,h1,h2,h3⟩,aj,.nil⟩;refine⟨zL,λp hp=>?_⟩;have g1:=g0.new (o:=.lst (([3,12,99]:WF).map V.int)) hp;have np:p≠st:=λz=>by obtain⟨x,y,e7,_⟩:=g0.sa;rw[z,e7]at hp;cases hp
 refine⟨_,O,st,3,O,g1.sa,by decide,by decide,λr a1 b1 r0 r1 k1 k2 k3=>?_⟩;obtain⟨wd,hw,w1,w2⟩:∃wd:Int,ĭ (([3,12,99]:WF).map V.int) r=some (.int wd)/\1<=wd/\wd<=99:=by
  have:r=0\/r=1\/r=2:=Â;rcases this with rfl|rfl|rfl;.exact⟨3,O,by decide,by decide⟩
  .exact⟨12,O,by decide,by decide⟩
  .exact⟨99,O,by decide,by decide⟩
 refine⟨p,_,r,.int wd,O,O,É.of (by rw[au np];exact aj),hw,_,_,O,?_⟩;have g2:=g1.take js k1 k2 k3;refine ae _ _ ?_;clear ae c_;try dsimp only
 refine aM ?_;refine⟨_,O,_,O,_,_,O,O,st,n+1,O,g2.sa,Â,Â,λr2 a2 b2 x0 x1 z1 z2 z3=>⟨r2,O,Â,Â,?_⟩⟩;have g3:=g2.take js z1 z2 z3;refine cY (lo:=0) (n:=r2.toNat) (λi σ H'=>Xe7 λxs ds x5 x6 x7 x8 x9=>Xa4 (σ=[some (.ref st),some (.int n),some (.int y),some (.ref p3),some (.int wd),x5,x6,x7,x8,x9]) (Mk3 st p3 xs ds H H') ((∃rs:UV,ds=rs.map cN/\rs.length=i/\∀r∈rs,ĝ r)) (xs.length=i)) ?_ ?_ ?_;.exact⟨[],[],none,none,none,none,none,O,g3,⟨[],O,O,λ_ h=>nomatch h⟩,O⟩
 .rintro i σ H' hi⟨xs,ds,x5,x6,x7,x8,x9,rfl,g,⟨rs,NH,RJ,NI⟩,hl⟩;have FK:∀{Hc:Hp}{c:Addr},Mk3 st p3 xs ds H Hc->Hc c=none->c≠st:=λ{Hc c}gc hc z=>by obtain⟨x,y,e7,_⟩:=gc.sa;rw[z,e7]at hc;cases hc
  refine aG ?_;refine aP λc_ ae=>?_;refine aV ?_;refine⟨_,O,_,O,_,_,O,O,_,_,O,st,_,O,g.sa,by split<;>lia,by split<;>lia,λf1 a3 b3 o0 o1 o2 o3 o4=>?_⟩;have g4:=g.take js o2 o3 o4;have f2:f1<20:=by split at o1<;>lia
  refine aG ?_;refine ae _ _ ?_;clear ae c_;try dsimp only
  refine aP λc_ ae=>?_;refine aV ?_;refine⟨_,O,_,O,zL,λp5 CH=>?_⟩;have n5:=FK g4 CH;have g5:=g4.new (o:=.lst (([1,4,20]:WF).map V.int)) CH;refine⟨_,O,st,3,O,g5.sa,by decide,by decide,λr4 a4 b4 q0 q1 q2 q3 q4=>?_⟩;obtain⟨w5,Wg,w6,w7⟩:∃w5:Int,ĭ (([1,4,20]:WF).map V.int) r4=some (.int w5)/\1<=w5/\w5<=20:=by
   have:r4=0\/r4=1\/r4=2:=Â;rcases this with rfl|rfl|rfl;.exact⟨1,O,by decide,by decide⟩
   .exact⟨4,O,by decide,by decide⟩
   .exact⟨20,O,by decide,by decide⟩
  have g6:=g5.take js q2 q3 q4;refine⟨p5,_,r4,.int w5,O,O,É.of (by rw[au n5];exact aj),Wg,st,w5,O,g6.sa,w6,Â,λr5 a5 b5 s0 s1 s2 s3 s4=>⟨_,_,O,O,_,_,O,?_⟩⟩;have g7:=g6.take js s2 s3 s4;refine aG ?_;refine ae _ _ ?_;clear ae c_;try dsimp only
  refine aP λc_ ae=>?_;refine aV ?_;refine⟨_,O,st,1000,O,g7.sa,by decide,by decide,λr6 a6 b6 t0 t1 t2 t3 t4=>⟨_,_,O,O,⟨by decide,by decide,by decide⟩,zL,λp6 CI=>?_⟩⟩;have g8:=g7.take js t2 t3 t4;have n6:=FK g8 CI;have g9:=g8.new (o:=.lst [V.int 0,V.int 1,V.int r6,V.int (10^(6:Int).toNat)]) CI;refine⟨_,O,st,4,O,g9.sa,by decide,by decide,λr7 a7 b7 u0 u1 u2 u3 u4=>?_⟩;obtain⟨pr,Wh,Wi,Wl⟩:∃pr:Int,ĭ [V.int 0,V.int 1,V.int r6,V.int (10^(6:Int).toNat)] r7=some (.int pr)/\0<=pr/\pr<=1000000:=by
   have:r7=0\/r7=1\/r7=2\/r7=3:=Â;rcases this with rfl|rfl|rfl|rfl;.exact⟨0,O,by decide,by decide⟩
   .exact⟨1,O,by decide,by decide⟩
   .exact⟨r6,O,t0,Â⟩
   .exact⟨_,O,by decide,by decide⟩
  have ga:=g9.take js u2 u3 u4;refine⟨p6,_,r7,.int pr,O,O,É.of (by rw[au n6];exact aj),Wh,?_⟩;refine aG ?_;refine ae _ _ ?_;clear ae c_;try dsimp only
  refine aP λc_ ae=>?_;refine aV ?_;refine⟨_,O,st,8,O,ga.sa,by decide,by decide,λr8 a8 b8 v0 v1 v2 v3 v4=>⟨zL,λp7 CL=>?_⟩⟩;have gb:=ga.take js v2 v3 v4;have n7:=FK gb CL;have gc:=gb.new (o:=.lst [V.int 0,V.int 1,V.int 2,V.int r8]) CL;refine⟨_,O,st,4,O,gc.sa,by decide,by decide,λr9 a9 b9 y0 y3 y4 y5 y6=>?_⟩;obtain⟨ho,Wm,Wn,rh⟩:∃ho:Int,ĭ [V.int 0,V.int 1,V.int 2,V.int r8] r9=some (.int ho)/\0<=ho/\ho<8:=by
   have:r9=0\/r9=1\/r9=2\/r9=3:=Â;rcases this with rfl|rfl|rfl|rfl;.exact⟨0,O,by decide,by decide⟩
   .exact⟨1,O,by decide,by decide⟩
   .exact⟨2,O,by decide,by decide⟩
   .exact⟨r8,O,v0,v1⟩
  have gd:=gc.take js y4 y5 y6;refine⟨p7,_,r9,.int ho,O,O,É.of (by rw[au n7];exact aj),Wm,?_⟩;refine aG ?_;refine ae _ _ ?_;clear ae c_;try dsimp only
  refine⟨_,O,.inl ⟨O,_,É.of gd.e3⟩,?_⟩;refine⟨_,O,_,O,st,3,O,gd.sa,by decide,by decide,λra aa ba c0 c1 c2 c3 c4=>?_⟩;have ge:=gd.take js c2 c3 c4;refine⟨_,O,_,O,_,O,_,O,st,wd,O,ge.sa,w1,Â,λrb ab bb d0 d1 d2 d3 d4=>⟨_,_,O,O,_,O,zL,λl gy=>?_⟩⟩;have gf:=ge.take js d2 d3 d4;have gg:=gf.new (o:=.tup [V.int ho,V.int ra,V.int f1,V.int (if f1+r5<19 then f1+r5 else 19),V.int (1+rb),V.int pr]) gy;have E3:l≠p3:=λz=>by rw[z,gf.e3]at gy;cases gy
  refine⟨p3,xs,.ref l,O,O,gg.e3,by rw[hl,sizeLine_eq];lia,?_⟩;refine⟨xs++[.ref l],ds++[.tuple [.int ho,.int ra,.int f1,.int (if f1+r5<19 then f1+r5 else 19),.int (1+rb),.int pr]],_,_,_,_,_,O,⟨λb' o' e' ne=>?_,?_,aj,?_⟩,?_,by rw[õ,hl];rfl⟩;.have:b'≠p3:=aA e' iX;rw[au this];exact gg.bt b' o' e' ne
  .obtain⟨x,y',e7,k⟩:=gg.sa;exact⟨x,y',by rw[au js.symm];exact e7,k⟩
  .refine Å.append (gg.ts.keep (λc l' e'=>?_) (λ_ _ z _=>z.elim) λ_ _ z _=>z.elim) (.cons (.tup (by rw[au E3];exact aj) (.cons (.int _) (.cons (.int _) (.cons (.int _) (.cons (.int _) (.cons (.int _) (.cons (.int _) .nil))))))) .nil);have:c≠p3:=λz=>by rw[z,gg.e3]at e';cases e'
   rw[au this];exact e'
  .refine⟨rs++[[ho,ra,f1,(if f1+r5<19 then f1+r5 else 19),1+rb,pr]],by rw[NH,ë];rfl,by rw[õ,RJ];rfl,λr hr=>?_⟩;rcases ė.mp hr with z|z;.exact NI r z
   .rw[Ř.mp z];have lb:f1<=(if f1+r5<19 then f1+r5 else 19)/\(if f1+r5<19 then f1+r5 else 19)<=19:=by split<;>lia
    exact⟨O,⟨Wn,rh⟩,⟨c0,c1⟩,⟨o0,lb.1,lb.2⟩,⟨(by show 1<=1+rb;lia),(by show 1+rb<=99;lia)⟩,Wi,Wl⟩
 .rintro σ H'⟨xs,ds,x5,x6,x7,x8,x9,rfl,g,⟨rs,NH,RJ,NI⟩,hl⟩;refine⟨_,O,p3,xs,O,.inl ⟨É.of g.e3,λl gy=>?_⟩⟩;have g':=g.new (o:=.tup xs) gy;rw[NH]at g';exact q _ _ ⟨rs,g'.bt,g'.sa,.tup aj (g'.ts.keep (λ_ _ e=>e) (λ_ _ z _=>z.elim) λ_ _ z _=>z.elim),Â,NI⟩
theorem Bv:Ě X (binaryOp .Add) (λx y H Q=>Xe4 λa b xs ys=>Xa7 (x=.ref a) (y=.ref b) (H a=some (.tup xs)) (H b=some (.tup ys)) (ys≠[]) (xs.length+ys.length<=sizeLine) (∀c H',À H H'->H' c=some (.tup (xs++ys))->Q (.ref c) H')):=by intro Á s σ H x y v u Q I rx ry h;obtain⟨a,b,xs,ys,rfl,rfl,ha,hb,hy,hz,q⟩:=h;refine FN Á s σ H _ _ v u Q I rx ry ⟨a,b,xs,ys,O,O,Ð.of ha,Ð.of hb,hy,hz,λe=>q b H (À.refl H) (by rw[e];exact hb),λ_ p hp=>q p _ (À.upd hp) aj⟩
theorem Bw:SlR X (λx lo hi H Q=>∃a xs,x=.ref a/\H a=some (.tup xs)/\∀c H',À H H'->H' c=some (.tup (jP xs lo hi))->Q (.ref c) H'):=by intro Á s σ H x v vl vu lo hi sl Q I rx hs pl pu h;obtain⟨a,xs,rfl,ha,q⟩:=h;refine Af Á s σ H _ v vl vu lo hi sl Q I rx hs pl pu ⟨a,xs,O,Ð.of ha,λhw=>q a H (À.refl H) ?_,λ_ p hp=>q p _ (À.upd hp) aj⟩;rw[ha];unfold jP;rw[hw.1,hw.2,List.drop_zero,Nat.sub_zero,ň]
theorem Dr.rows(g:Dr st H H')(h0:gH H st)(r:È H a xs rs):È H' a xs rs:=by obtain⟨x,y,e,_⟩:=h0;exact r.keep λb l e'=>g.bt _ _ e' λz=>by rw[z,e]at e';cases e'
theorem Dr.tup(g:Dr st H H')(h0:gH H st)(r:H a=some (.tup xs)):H' a=some (.tup xs):=by obtain⟨x,y,e,_⟩:=h0;exact g.bt _ _ r λz=>by rw[z,e]at r;cases r
theorem DR:bootBuiltins "max"=some (.builtin "max"):=by decide+kernel
theorem u9{r:WF}(h:È H a xs rs)(et:H t=some (.tup (r.map V.int)))(eb:H b=some (.tup (xs++[V.ref t]))):È H b (xs++[V.ref t]) (rs++[r]):=by
 refine⟨eb,by rw[õ,õ,h.l];rfl,λi r' e=>?_⟩;by_cases hi:i<rs.length;.rw[zBd hi]at e;rw[zBd (by rw[h.l];exact hi)];exact h.g i r' e
 .rw[zBc Â]at e;rw[zBc (by rw[h.l];lia),h.l];cases hj:i-rs.length with|zero=>rw[hj]at e;injection e with e;subst e;exact⟨t,O,et⟩;|succ k=>rw[hj]at e;simp at e
def smR(s:WF):Prop:=s.length=5/\∀i∈s,-10<=i/\i<=2000000
inductive Z08(vs:List V)(H:Hp)(Q:VK):Prop|mk:∀st ap xp ps,(vs=[.ref st,.ref ap])->(gH H st)->(È H ap xp ps)->(ps.length<=10)->((∀r∈ps,ĝ r))->(∀t s H',Dr st H H'->H' t=some (.tup (s.map V.int))->smR s->Q (.ref t) H')->Z08  vs H Q
def KY:Sp:=λvs H Q _=>Z08  vs H Q
theorem Ĝ:Ã [ă,ć,AAn,AAx,ϊ,"_law_first","_law_last",Ϯ,"_law_price",ABf,"_law_buyer",Į] [ă,ć] (aD (top 84)):=ú
theorem N6(F:æ K ABk ABk (top 84) f fd)(T:Mg mg)(Tm:mg "max"=none)(c1:â P w K mg base 1 AAs [ă,AAo] jo):Ñ P w K mg base å 2 f fd [ă,ć] KY:=by
 refine F.oq Ĝ λar A outer s H vs Q E hr h=>?_;obtain⟨st,ap,xp,ps,rfl,dS,rp,lp,okp,q⟩:=h;refine⟨_,aC (đ 2 Ĝ.nd (aH c1 hr (aq (pv 0) (aq (aJ (sE O) O Tm DR (aq aB (aq (aJ bQ O T.len PySem.boot_len (aq (pv 1) ao)) ao))) ao)))) (aC (cV (pX bJ (aU Bv (pv 1) (bM (aq (bM (lJ (by repeat constructor))) ao))) (pv 2)) (bR O (az (Ô 3 Ĝ.nd) (az (Ô 4 Ĝ.nd) (az (Ô 5 Ĝ.nd) (az (Ô 6 Ĝ.nd) (az (Ô 7 Ĝ.nd) (az (Ô 8 Ĝ.nd) aX)))))))) (aC (đ 9 Ĝ.nd (pX bO (cX (aq (pv 3) (aq (pv 3) (aq (aH c1 hr (aq (pv 0) (aq aB ao))) ao)))) (aH c1 hr (aq (pv 0) (aq aB ao))))) (aC (đ 10 Ĝ.nd (aU iw (aU bw (aU bw (pv 9) aB) (aH c1 hr (aq (pv 0) (aq aB ao)))) aB)) (aC (đ 11 Ĝ.nd (aU bw (pv 5) (aH c1 hr (aq (pv 0) (aq (aU bw (aU dJ (pv 6) (pv 5)) aB) ao))))) (aF (aQ (Fl (gA (bf ⟨pv 2⟩ (bf ⟨pv 9⟩ (bf ⟨pv 10⟩ (bf ⟨aU bw aB (aH c1 hr (aq (pv 0) (aq (pv 7) ao)))⟩ (bf ⟨pv 11⟩ bN))))))))))))),?_⟩;have g0:Dr st H H:=⟨ţ.refl,dS⟩;have hxl:xp.length<=10:=by rw[rp.l];exact lp
 refine aM (aV ?_);refine⟨_,O,_,O,ap,xp,O,.inr (Ð.of rp.e),_,_,O,st,_,O,dS,?_,?_,λr1 a1 b1 r0 rn k1 k2 k3=>?_⟩;.split<;>lia
 .split<;>lia
 have g1:=g0.take k1 k2 k3;have CM:=g1.rows dS rp;have rn2:r1.toNat<xp.length+1:=by split at rn<;>lia
 generalize upd H st (.lst [.int a1,.int b1])=H1 at g1 CM⊢;refine aG ?_;dsimp only;refine aM ?_;refine⟨_,O,zL,λt0 RK=>⟨zL,λt1 qA=>?_⟩⟩;have g2:=(g1.new (o:=.tup (([0,0,0,3,9,0]:WF).map V.int)) RK).new (o:=.tup [V.ref t0]) qA;have m2:À H1 (upd (upd H1 t0 (.tup (([0,0,0,3,9,0]:WF).map V.int))) t1 (.tup [V.ref t0])):=(À.upd RK).updR qA;have AU:=À.upd (o:=.tup [V.ref t0]) qA t0 (.tup (([0,0,0,3,9,0]:WF).map V.int)) aj;have FO:upd (upd H1 t0 (.tup (([0,0,0,3,9,0]:WF).map V.int))) t1 (.tup [V.ref t0]) t1=some (.tup [V.ref t0]):=aj;generalize upd (upd H1 t0 (.tup (([0,0,0,3,9,0]:WF).map V.int))) t1 (.tup [V.ref t0])=H2 at g2 m2 AU FO⊢;refine⟨ap,t1,xp,_,O,O,m2 _ _ CM.e,FO,by simp,by rw[sizeLine_eq];show xp.length+1<=_;lia,λc H3 s3 ec=>?_⟩;have g3:=g2.same s3;have Wo:=u9 ((CM.same m2).same s3) (s3 _ _ AU) ec;have NJ:∀r∈ps++[[0,0,0,3,9,0]],ĝ r:=λr hr=>by
  rcases ė.mp hr with z|z;.exact okp r z
  .rw[Ř.mp z];exact⟨O,by decide,by decide,by decide,by decide,by decide⟩
 obtain⟨p,hp,_,op⟩:=fY (n:=r1) NJ r0 (by rw[õ,<-rp.l];show r1<((xp.length+1:Nat):Int);lia);obtain⟨tp,dv,fF⟩:=ir Wo r0 hp;rw[eV op.1]at fF;obtain⟨_,⟨p1,p2⟩,_,⟨p3,p4,p5⟩,⟨p6,p7⟩,_⟩:=id op;refine⟨_,O,c,_,r1,.ref tp,O,O,Ð.of ec,dv,?_⟩;refine⟨tp,_,O,Ð.of fF,O,_,_,O,_,_,O,_,_,O,_,_,O,_,_,O,_,_,O,O,?_⟩;dsimp only;refine aM (aV ?_);refine⟨_,O,_,O,_,O,st,8,O,g3.sa,by decide,by decide,λr2 a2 b2 i0 i1 k4 k5 k6=>⟨zL,λl1 fk=>?_⟩⟩;have g4:=(g3.take k4 k5 k6).new (o:=.lst [V.int (fl p 0),V.int (fl p 0),V.int r2]) fk;have n4:=(g3.take k4 k5 k6).ne fk;refine⟨_,O,st,3,O,g4.sa,by decide,by decide,λr3 a3 b3 i2 i3 k7 k8 k9=>?_⟩;obtain⟨sl,Iq,sl1,kN⟩:∃sl:Int,ĭ [V.int (fl p 0),V.int (fl p 0),V.int r2] r3=some (.int sl)/\0<=sl/\sl<8:=by
  have:r3=0\/r3=1\/r3=2:=Â;rcases this with rfl|rfl|rfl;.exact⟨_,O,p1,p2⟩
  .exact⟨_,O,p1,p2⟩
  .exact⟨_,O,i0,i1⟩
 have g5:=g4.take k7 k8 k9;refine⟨l1,_,r3,.int sl,O,O,É.of (by rw[au n4];exact aj),Iq,?_⟩;refine aG ?_;dsimp only;refine aM (aV ?_);refine⟨_,O,_,_,O,O,_,O,st,7,O,g5.sa,by decide,by decide,λr4 a4 b4 i4 i5 m1 Wq m3=>⟨_,_,O,O,_,_,O,O,(by show(0:Int)<8;decide),?_⟩⟩;have g6:=g5.take m1 Wq m3;refine aG ?_;dsimp only;refine aM (aV ?_);refine⟨_,O,_,O,_,O,_,O,_,_,O,O,_,_,O,O,st,_,O,g6.sa,Â,Â,λr5 a5 b5 i6 i7 m4 m5 m6=>⟨_,_,O,O,?_⟩⟩;have g7:=g6.take m4 m5 m6;refine aG ?_;dsimp only;refine⟨_,O,_,O,_,O,_,O,_,O,st,_,O,g7.sa,p6,Â,λr6 a6 b6 i8 i9 m7 m8 m9=>⟨_,_,O,O,_,O,zL,λt ht=>?_⟩⟩;have g8:=g7.take m7 m8 m9;refine q t [r1,sl,(sl+1+r4)%8,1+r6,fl p 2+r5] _ (g8.new ht) aj ⟨O,λi hi=>?_⟩;simp only[List.mem_cons,List.not_mem_nil,or_false]at hi;have e8:0<=(sl+1+r4)%8/\(sl+1+r4)%8<8:=⟨Zbo _ Ù,Zbd _ Ù⟩;lia
theorem Λ:Ã [ă,ć,Ų,Ε,"_law_turn","_law_more"] [ă,ć,Ų] (aD (top 85)):=ú
theorem Z03:Ã [ă,AAq,Ų,ſ,AAt,ć] [ă,AAq,Ų,ſ] (aD (top 86)):=ú
theorem qW:∀{a b:WF},a.Pairwise (·<·)->b.Pairwise (·<·)->(∀x,x∈a↔x∈b)->a=b
 |[],[],_,_,_=>rfl|[],y::b,_,_,h=>absurd ((h y).mpr (.head _)) Ö|x::a,[],_,_,h=>absurd ((h x).mp (.head _)) Ö|x::a,y::b,ha,hb,h=>by
  obtain⟨RL,Wr⟩:=List.pairwise_cons.mp ha;obtain⟨kG,ip⟩:=List.pairwise_cons.mp hb;have e:x=y:=by
   rcases ĩ.mp ((h x).mp (.head _))with z|z;.exact z
   .rcases ĩ.mp ((h y).mpr (.head _))with z'|z';.exact z'.symm
    .have:=RL y z';have:=kG x z;lia
  subst e;rw[qW Wr ip λz=>⟨λhz=>?_,λhz=>?_⟩]
  .rcases ĩ.mp ((h z).mp (.tail _ hz))with w|w;.have:=RL z hz;lia
   .exact w
  .rcases ĩ.mp ((h z).mpr (.tail _ hz))with w|w;.have:=kG z hz;lia
   .exact w
def ie(p:Key×V):Int:=match p.1 with|.inl h=>h|.inr _=>0
theorem mL:∀{kv:List (Key×V)},Ŝ kv->(kv.map λp=>kV p.1)=(kv.map ie).map V.int/\kv.map (·.1)=(kv.map ie).map Sum.inl
 |[],_=>⟨O,O⟩|p::kv,g=>by
  obtain⟨h,e,_⟩:=g p (.head _);obtain⟨i1,i2⟩:=mL λq hq=>g q (.tail _ hq);have ei:ie p=h:=by unfold ie;rw[e]
  refine⟨?_,?_⟩;.rw[Ĵ,Ĵ,Ĵ,i1,ei,e];rfl
  .rw[Ĵ,Ĵ,Ĵ,i2,ei,e]
theorem Hn(hm:h∈kv.map ie)(g:Ŝ kv):(cQ kv (.inl h)).isSome=true:=by rw[<-gh,List.any_eq_true];obtain⟨p,hp,e⟩:=ó.mp hm;obtain⟨h',e',_⟩:=g p hp;refine⟨p,hp,ø ?_⟩;rw[e',<-e];unfold ie;rw[e']
theorem JS(hs:(cQ kv (.inl h)).isSome=true):h∈kv.map ie:=by rw[<-gh,List.any_eq_true]at hs;obtain⟨p,hp,e⟩:=hs;have e:=Η e;refine ó.mpr ⟨p,hp,?_⟩;unfold ie;rw[e]
theorem Hq{L ns:WF}(hL:L.length=8)(g:Ŝ kv)(nd:(kv.map (·.1)).Nodup)(hv:∀h,0<=h->h<8->(cQ kv (.inl h)).getD (.int 0)=.int (L.getD h.toNat 0))(pm:ns.Perm (kv.map ie))(so:ns.Pairwise (·<=·)):(ns.filter λh=>decide (0<L.getD h.toNat 0)).map (λh=>[h,L.getD h.toNat 0])=fj L 8:=by
 have NL:(kv.map ie).Nodup:=by rw[(mL g).2]at nd;exact(List.pairwise_map.mp nd).imp λ{a b}h e=>h (by rw[e])
 have NM:ns.Nodup:=pm.nodup_iff.mpr NL;have lt:ns.Pairwise (·<·):=(so.and NM).imp λ{a b}h=>by have h1:a<=b:=h.1;have h2:a≠b:=h.2;lia
 have eq:(ns.filter λh=>decide (0<L.getD h.toNat 0))=(((List.range 8).filter λh=>decide (0<L.getD h 0)).map λ(h:Nat)=>(h:Int)):=by
  refine qW (lt.filter _) ?_ λx=>?_;.rw[List.pairwise_map];exact(List.pairwise_lt_range.filter _).imp λ{a b}h=>by lia
  .rw[ρ,ó,pm.mem_iff];constructor
   .rintro⟨h1,h2⟩;obtain⟨p,hp,e⟩:=ó.mp h1;obtain⟨h,e',h0,h8⟩:=g p hp;have ex:x=h:=by rw[<-e];unfold ie;rw[e']
    refine⟨x.toNat,ρ.mpr ⟨Ϙ.mpr Â,h2⟩,Â⟩
   .rintro⟨k,hk,rfl⟩;obtain⟨h1,h2⟩:=ρ.mp hk;have h1:=Ϙ.mp h1;have h2:=Η h2;refine⟨JS ?_,ø (by rw[Ľ];exact h2)⟩;have:=hv (k:Int) Â Â;rw[Ľ]at this;cases z:cQ kv (.inl (k:Int))with|some v=>rfl;|none=>rw[z]at this;injection this with this;lia
 rw[eq,ĳ];unfold fj;refine Zax λk _=>?_;show[(k:Int),L.getD ((k:Int)).toNat 0]=_;rw[Ľ]
theorem Hr:∀{l:WF}{a:Int}{k:Nat},l.Pairwise (·<·)->(∀x∈l,a<=x/\x<a+k)->l.length<=k
 |[],_,_,_,_=>į _|x::l,a,0,h,g=>by have:=g x (.head _);lia;|x::l,a,k+1,h,g=>by
  obtain⟨h1,h2⟩:=List.pairwise_cons.mp h;have gx:=g x (.head _);have:=Hr (a:=a+1) (k:=k) h2 λy hy=>by have:=g y (.tail _ hy);have:=h1 y hy;lia
  rw[ĵ];lia
theorem Bx{ns:WF}(g:Ŝ kv)(nd:(kv.map (·.1)).Nodup)(pm:ns.Perm (kv.map ie))(so:ns.Pairwise (·<=·)):ns.length<=8:=by
 have NL:(kv.map ie).Nodup:=by rw[(mL g).2]at nd;exact(List.pairwise_map.mp nd).imp λ{a b}h e=>h (by rw[e])
 have NM:ns.Nodup:=pm.nodup_iff.mpr NL;have lt:ns.Pairwise (·<·):=(so.and NM).imp λ{a b}h=>by have h1:a<=b:=h.1;have h2:a≠b:=h.2;lia
 refine Hr (a:=0) (k:=8) lt λx hx=>?_;obtain⟨p,hp,e⟩:=ó.mp (pm.mem_iff.mp hx);obtain⟨h,e',h0,h8⟩:=g p hp;have ex:x=h:=by rw[<-e];unfold ie;rw[e']
 lia
theorem Hs(g:Ŝ kv)(nd:(kv.map (·.1)).Nodup):(kv.map ie).length<=8:=by
 have pm:=List.mergeSort_perm (kv.map ie) (λa b=>decide (a<=b));have so:((kv.map ie).mergeSort λa b=>decide (a<=b)).Pairwise (·<=·):=(List.pairwise_mergeSort (le:=λa b=>decide (a<=b)) (λa b c h1 h2=>by simp only[č]at*;lia) (λa b=>by simp only[Bool.or_eq_true,č];lia) _).imp λ{a b}h=>by simpa using h
 rw[<-pm.length_eq];exact Bx g nd pm so
def qX(L ns:WF):UV:=(ns.filter λh=>decide (0<L.getD h.toNat 0)).map λh=>[h,L.getD h.toNat 0]
theorem oG(L ns:WF)(x:Int):qX L (ns++[x])=qX L ns++(if 0<L.getD x.toNat 0 then[[x,L.getD x.toNat 0]]else[]):=by
 unfold qX;rw[Za7,ë];congr 1;by_cases h:0<L.getD x.toNat 0;.rw[Ì h,zBg (p:=λ(h:Int)=>decide (0<L.getD h.toNat 0)) (ø h)];rfl
 .rw[Ê h,zBf (p:=λ(h:Int)=>decide (0<L.getD h.toNat 0)) (by rw[č];exact h)];rfl
def qY(ps ss:UV)(n y h:Int):Int:=(bZ (ps.getD n.toNat []) ss n y).getD h.toNat 0
inductive ř(vs:List V)(H:Hp)(Q:VK):Prop|mk:∀ap xp ps fo H0 b kvs ss sort year,(vs=[.ref ap,.ref fo,.int sort,.int year])->(È H ap xp ps)->(ps.length<=10)->((∀r∈ps,ĝ r))->(ģ fo H0 H (Ź ps) (qY ps ss) b kvs)->(∀l xl H',À H H'->H l=none->H' l=some (.lst xl)->î H' xl ((bh ps ss sort year).map List.tail)->Q (.ref l) H')->ř  vs H Q
def nU:Sp:=λvs H Q _=>ř  vs H Q
theorem DW(ps ss:UV)(sort year:Int)(i:Nat):((jc ps ss sort year i).map List.tail).length<=8*i:=by rw[Õ];exact mJ ps ss sort year i
theorem yX:bootBuiltins "list"=some (.type "list"):=by decide+kernel
theorem QS:([AAx,AAn,AAv]:ð).Nodup:=by decide+kernel
theorem Z01:Ã [ć,ŀ,ϊ,Į,Ε,AAn,"_law_promise",AAv] [ć,ŀ,ϊ,Į] (aD (top 88)):=ú
theorem yZ(F:æ K ABg ABg (top 88) f fd)(Te:mg "enumerate"=none)(Tl:mg "list"=none)(Ts:mg "sorted"=none):Ñ P w K mg base å 1 f fd [ć,ŀ,ϊ,Į] nU:=by
 refine F.oq Z01 λar A outer s H vs Q E hr h=>?_;obtain⟨ap,xp,ps,fo,H0,b,kvs,ss,sort,year,rfl,rp,lp,okp,dt,q⟩:=h;refine⟨_,aC (đ 4 Z01.nd (cX ao)) (aC (cF Ł O (ZT.pi_enum true O Te (aq (pv 0) ao)) (bR O (az (bF (i:=5) Z01.nd O (Or.inr O)) (az (Ô 6 Z01.nd) aX))) (aC (mY (i:=7) Z01.nd O (Or.inr O) (ql (fO hr) (pv 1) (bM (aq (pv 5) (aq (pv 3) ao))) wu (by constructor<;>rfl))) (aF (cO (bu gP (pX bJ (pv 6) aB) (pv 2) (bj _)) (aF (cg (fD Β PySem.F.slot_list_extend PySem.F.type_list_extend Cv (pv 4) (aq (bz [AAx,AAn,AAv] [none,some 5,some 7] O (dF (aJ uN O Ts è (aq (cH (qI O) O Tl yX (aq (pv 7) ao)) ao))) (λC fp Á s₂ Ï=>⟨Ô 0 QS,gF (bu lq (gG (fO hr) (pv 2) (pv 0) (λ_ _=>rfl)) aB (bj _)),bM (aq (pv 1) (aq (pv 0) (aq (gG (fO hr) (pv 2) (pv 0) (λ_ _=>rfl)) ao)))⟩) (λC=>cI (cI trivial)) ⟨O,O,O,O⟩) ao)))) bD)))) (aF (aQ (pv 4)))),?_⟩;refine aP λc_ ae=>?_;refine aV ?_;refine⟨zL,λl hl=>?_⟩;refine aG ?_;refine ae _ _ ?_;clear ae c_;try dsimp only
 refine aM ?_;have s0:=À.upd (o:=.lst []) hl;refine⟨_,O,ap,xp,O,Ð.of (s0 _ _ rp.e),?_⟩;refine ZT.for_enum true (xs:=xp) (λi σ Hc=>Xe4 λx5 x6 x7 xl=>Xa4 (σ=[some (.ref ap),some (.ref fo),some (.int sort),some (.int year),some (.ref l),x5,x6,x7]) ((∀b o,H b=some o->Hc b=some o)) (Hc l=some (.lst xl)) (î Hc xl ((jc ps ss sort year i).map List.tail))) ?_ ?_ ?_ ?_;.exact⟨none,none,none,[],O,λb o e=>s0 _ _ e,aj,î.nil⟩
 .rintro i σ Hc hi⟨x5,x6,x7,xl,rfl,k,el,ht⟩;exact Ð.of (k _ _ rp.e)
 .rintro i x σ Hc T0 hx⟨x5,x6,x7,xl,rfl,k,el,ht⟩nT;have hi:i<ps.length:=by have:=(Ķ.mp hx).1;rw[rp.l]at this;exact this
  obtain⟨tr,gL,fE⟩:=rp.g i ps[i] (á hi);have:x=.ref tr:=by rw[hx]at gL;exact œ gL
  subst this;have op:=okp ps[i] (Ė hi);have ep:ps.getD i []=ps[i]:=ß hi;rw[eV op.1]at fE;have sT:=À.upd (o:=.tup [V.int i,V.ref tr]) nT;have kT:À H (upd Hc T0 (.tup [V.int i,V.ref tr])):=λb o e=>sT _ _ (k _ _ e);have Co:=sT _ _ el;have Ct:=ht.same sT;have eT:=aj (H:=Hc) (a:=T0) (o:=.tup [V.int i,V.ref tr]);generalize upd Hc T0 (.tup [V.int i,V.ref tr])=H1 at kT Co Ct eT⊢;refine⟨T0,_,O,Ð.of eT,O,_,_,O,_,_,O,O,?_⟩;dsimp only;have qB:=dt.same kT;refine aP λc_ ae=>?_;refine aV ?_;refine⟨_,O,fo,O,.inr ⟨kvs,.inl qB.e⟩,_,O,_,O,zL,λkk hk=>?_⟩;have s8:=À.upd (o:=.tup [.int i,.int year]) hk;refine λz RM nz=>?_;have s9:=s8.updR (o:=.dK []) RM;have RN:=À.upd (o:=.dK []) RM _ _ (aj (H:=H1) (a:=kk) (o:=.tup [.int i,.int year]));refine⟨_,Ĕ.t (k:=ky i year) (s9 _ _ qB.e) RN,?_⟩;have row:∃dr kv,(cQ kvs (ky i year)).getD (.ref z)=.ref dr/\upd (upd H1 kk (.tup [.int i,.int year])) z (.dK []) dr=some (.dK kv)/\Ŝ kv/\∀h,0<=h->h<8->(cQ kv (.inl h)).getD (.int 0)=.int ((bZ ps[i] ss i year).getD h.toNat 0):=by
   by_cases hd:Ź ps i year;.obtain⟨dr,kv,q1,q2,q3,q4⟩:=qB.g i year hd;refine⟨dr,kv,by rw[q1];rfl,s9 _ _ q2,q3.2,λh h0 h8=>?_⟩;have:=q4 h h0 h8;unfold qY at this;rw[Ľ,ep]at this;exact this
   .refine⟨z,[],by rw[qB.no i year hd];rfl,aj,λp hp=>absurd hp Ö,λh h0 h8=>?_⟩;have:¬(fl ps[i] 2<=year/\year<=fl ps[i] 3):=λw=>hd ⟨Â,Â,by rw[Ľ,ep];exact w.1,by rw[Ľ,ep];exact w.2⟩;unfold bZ;rw[Ê this,ę,Zbq,Ì Â];rfl
  obtain⟨dr,kv,er,wo,ks,hv⟩:=row;have RO:(cQ kvs (ky i year)).getD (.ref z)=.ref dr:=er;rw[RO];refine aG ?_;refine ae _ _ ?_;clear ae c_;try dsimp only
  refine fB (λH9=>À H1 H9/\H9 dr=some (.dK kv)) ⟨s9,wo⟩ λH9=>?_;rintro⟨s9,wo⟩;clear qB RN er RO s8;have k9:=kT.trans s9;have NN:=s9 _ _ Co;have RP:=Ct.same s9;have IE:=fW ps[i] ss i year;have wa:(jd ps ss sort year i).map List.tail=if fl ps[i] 1=sort then(fj (bZ ps[i] ss i year) 8).map (λr=>(i:Int)::r)else[]:=by
   unfold jd;rw[ep];split;.rw[ĳ];rfl
   .rfl
  have RQ:(jc ps ss sort year (i+1)).map List.tail=(jc ps ss sort year i).map List.tail++(jd ps ss sort year i).map List.tail:=by show(jc ps ss sort year i++jd ps ss sort year i).map List.tail=_;rw[ë]
  rw[RQ,wa];clear RQ wa;generalize bZ ps[i] ss i year=L at hv IE⊢;refine⟨_,O,tr,_,1,.int (fl ps[i] 1),O,O,Ð.of (k9 _ _ fE),O,_,O,O,_,O,?_⟩;by_cases hs:fl ps[i] 1=sort
  .rw[ø (by rw[hs])];refine bK ?_;rw[Ì hs];refine⟨_,O,.inl ⟨O,_,É.of NN⟩,?_⟩;refine⟨_,O,dr,kv,O,wo,λnd l2 iE=>?_⟩;rw[(mL ks).1];refine⟨l2,kv.map ie,O,É.of aj,(by have:=Hs ks nd;lia),λq' ns Me pm so=>?_⟩;have FR:=(À.upd (o:=.lst ((kv.map ie).map V.int)) iE).updR (o:=.lst (ns.map V.int)) Me;have FU:=FR _ _ wo;have tF:=aj (H:=upd H9 l2 (.lst ((kv.map ie).map V.int))) (a:=q') (o:=.lst (ns.map V.int));generalize upd (upd H9 l2 (.lst ((kv.map ie).map V.int))) q' (.lst (ns.map V.int))=HA at FR FU tF⊢;have ln:=Bx ks nd pm so;have fin:qX L ns=fj L 8:=Hq IE ks nd hv pm so;rw[<-fin];have vh:∀h∈ns,cQ kv (.inl h)=some (.int (L.getD h.toNat 0)):=λh hh=>by
    obtain⟨p,hp,e⟩:=ó.mp (pm.mem_iff.mp hh);obtain⟨h',e',h0,h8⟩:=ks p hp;have ex:h=h':=by rw[<-e];unfold ie;rw[e']
    have vs:=Hn (pm.mem_iff.mp hh) ks;have:=hv h Â Â;cases z:cQ kv (.inl h)with|none=>rw[z]at vs;cases vs;|some v=>rw[z]at this;exact congrArg some this
   have kA:=k9.trans FR;have RS:=FR _ _ NN;have Ws:=RP.same FR;refine⟨q',O,⟨_,É.of tF⟩,fK ns.length (λj ys σ Hc=>À HA Hc/\(∃o1,σ=[o1,some (.int i),some (.ref dr)])/\î Hc ys ((qX L (ns.take j)).map (λr=>(i:Int)::r))) ⟨À.refl _,⟨_,O⟩,î.nil⟩ ų ?_ ?_⟩
   .rintro j ys σ Hj hj hy⟨sc,⟨o1,rfl⟩,kU⟩;have gN:É K Hj q' (ns.map V.int):=É.of (sc _ _ tF);have hx:(ns.map V.int)[j]?=some (.int ns[j]):=by rw[Ą,á hj];rfl
    have dE:ns.take (j+1)=ns.take j++[ns[j]]:=by rw[ĺ,á hj];rfl
    have vk:=vh ns[j] (Ė hj);have RT:=sc _ _ FU;refine⟨⟨_,_,gN,hx⟩,λx H' yv R hR=>?_⟩;obtain⟨rfl,yv⟩:=yv;have yv:=yv _ gN;rw[hx]at yv;cases yv;refine aG ?_;refine⟨_,O,_,O,dr,_,O,by rw[<-vk];exact Ĕ.k (k:=.inl ns[j]) RT,_,_,O,O,_,O,?_⟩;by_cases aT:0<L.getD (ns[j]).toNat 0;.rw[ø aT];refine bK ⟨_,O,_,O,_,O,_,O,dr,_,O,by rw[<-vk];exact Ĕ.k (k:=.inl ns[j]) RT,zL,λt hG=>hR _ _ _ (by rw[õ];show ys.length+1<=j+1;lia) ⟨sc.updR hG,⟨_,O⟩,?_⟩⟩;rw[dE,oG,Ì aT,ë];exact(kU.same (À.upd hG)).app (î.one aj)
    .rw[ħ aT];refine bB (hR _ _ _ Â ⟨sc,⟨_,O⟩,?_⟩);rw[dE,oG,Ê aT,ş];exact kU
   .rintro ys σ Hj hy⟨sc,_,kU⟩;rw[ň]at kU;refine⟨⟨_,É.of (sc _ _ tF),by rw[Õ];exact Ü _⟩,λD hD=>?_⟩;have sD:=sc.updR (o:=.lst ys) hD;have ll:=DW ps ss sort year i;have:=ht.1;refine⟨l,D,xl,ys,O,O,sD _ _ RS,aj,by rw[sizeLine_eq];lia,?_⟩;refine⟨_,_,_,xl++ys,O,λb o e=>?_,aj,?_⟩;.rw[au (aA e hl)];exact sD _ _ (kA _ _ e)
    .refine((Ws.same sD).app (kU.same (À.upd (o:=.lst ys) hD))).keep λb z e=>?_;rw[au λw=>by rw[w,sD _ _ RS]at e;cases e];exact e
  .rw[ħ (λz=>hs (by injection z))];refine bB ?_;rw[Ê hs,ş];exact⟨_,_,_,xl,O,λb o e=>k9 _ _ e,NN,RP⟩
 .rintro σ Hc⟨x5,x6,x7,xl,rfl,k,el,ht⟩;rw[show xp.length=ps.length from rp.l]at ht;exact⟨_,O,q l xl Hc (λb o e=>k b o e) hl el ht⟩
theorem ō.same(h:ō H d M)(s:À H H'):ō H' d M:=by obtain⟨Mo,e,pm⟩:=h;exact⟨Mo,s _ _ e,pm⟩
theorem ō.pm{M M':UV}(h:ō H d M)(p:M.Perm M'):ō H d M':=by obtain⟨Mo,e,pm⟩:=h;exact⟨Mo,e,pm.trans p⟩
theorem È.but(h:È H a xs rs)(k:∀b o,b≠lk->H b=some o->H' b=some o)(el:H lk=some (.dT NO)):È H' a xs rs:=by have tp:∀b z,H b=some (.tup z)->H' b=some (.tup z):=λb z e=>k b _ (λw=>by rw[w,el]at e;cases e) e;exact⟨tp _ _ h.e,h.l,λi r e=>by obtain⟨t,e1,e2⟩:=h.g i r e;exact⟨t,e1,tp _ _ e2⟩⟩
structure Wd(H Hc:Hp)(lk lg ll:Addr)(xg:List V)(G:UV)(L:WF)(M:UV):Prop where
 k:∀b o,b≠lk->H b=some o->Hc b=some o
 eg:Hc lg=some (.lst xg)elg:î Hc xg G
 el:Hc ll=some (.lst (L.map V.int))lka:ō Hc lk M
 nk:lg≠lk
 nl:ll≠lk
 ng:lg≠ll
 fg:H lg=none
 fl:H ll=none
section
theorem Wd.same(d:Wd H Hc lk lg ll xg G L M)(s:À Hc Hd):Wd H Hd lk lg ll xg G L M:=⟨λb o n e=>s _ _ (d.k b o n e),s _ _ d.eg,d.elg.same s,s _ _ d.el,d.lka.same s,d.nk,d.nl,d.ng,d.fg,d.fl⟩
theorem Wd.gone{r:WF}(d:Wd H Hc lk lg ll xg G L M)(et:Hc t=some (.tup (r.map V.int))):Wd H (upd Hc lg (.lst (xg++[.ref t]))) lk lg ll (xg++[.ref t]) (G++[r]) L M:=by
 have tp:∀b z,Hc b=some (.tup z)->upd Hc lg (.lst (xg++[.ref t])) b=some (.tup z):=λb z e=>by rw[au λw=>by rw[w,d.eg]at e;cases e];exact e
 obtain⟨kvs,e,pm⟩:=d.lka;exact⟨λb o n e=>by rw[au (aA e d.fg)];exact d.k b o n e,aj,(d.elg.app (î.one et)).keep tp,by rw[au d.ng.symm];exact d.el,⟨kvs,by rw[au d.nk.symm];exact e,pm⟩,d.nk,d.nl,d.ng,d.fg,d.fl⟩
theorem Wd.put{M' CC:UV}(d:Wd H Hc lk lg ll xg G L M)(pm:CC.Perm M'):Wd H (upd Hc lk (.dT (CC.map ĉ))) lk lg ll xg G L M':=by obtain⟨kvs,e,_⟩:=d.lka;exact⟨λb o n e=>by rw[au n];exact d.k b o n e,by rw[au d.nk];exact d.eg,d.elg.keep λb z e'=>by rw[au λw=>by rw[w,e]at e';cases e'];exact e',by rw[au d.nl];exact d.el,⟨CC,aj,pm⟩,d.nk,d.nl,d.ng,d.fg,d.fl⟩
theorem Wd.down(d:Wd H Hc lk lg ll xg G L M):Wd H (upd Hc ll (.lst ((L++[x]).map V.int))) lk lg ll xg G (L++[x]) M:=by obtain⟨kvs,e,pm⟩:=d.lka;exact⟨λb o n e=>by rw[au (aA e d.fl)];exact d.k b o n e,by rw[au d.ng];exact d.eg,d.elg.keep λb z e'=>by rw[au λw=>by rw[w,d.el]at e';cases e'];exact e',aj,⟨kvs,by rw[au d.nl.symm];exact e,pm⟩,d.nk,d.nl,d.ng,d.fg,d.fl⟩
end
theorem Wd.oth(d:Wd H Hc lk lg ll xg G L M)(e:Hc a=some (.dT kv))(n1:a≠lg)(n2:a≠ll)(n3:a≠lk)(n0:H a=none):Wd H (upd Hc a o) lk lg ll xg G L M:=by obtain⟨kvs,e1,pm⟩:=d.lka;exact⟨λb o n e=>by rw[au (aA e n0)];exact d.k b o n e,by rw[au n1.symm];exact d.eg,d.elg.keep λb z e'=>by rw[au λw=>by rw[w,e]at e';cases e'];exact e',by rw[au n2.symm];exact d.el,⟨kvs,by rw[au n3.symm];exact e1,pm⟩,d.nk,d.nl,d.ng,d.fg,d.fl⟩
theorem ģ.but{f:Int->Int->Int->Int}(g:ģ fo H0 H dm f b kvs)(k:∀b o,b≠lk->H b=some o->H' b=some o)(nf:fo≠lk)(n0:H0 lk=none)(el:H lk=some (.dT NO)):ģ fo H0 H' dm f b kvs:=by
 have nd:∀n y d,cQ kvs (ky n y)=some (.ref d)->d≠lk:=λn y d h z=>by
  by_cases hd:dm n y;.obtain⟨d',kv,e1,e2,_⟩:=g.g n y hd;rw[h]at e1;cases e1;rw[z,el]at e2;cases e2
  .rw[g.no n y hd]at h;cases h
 exact⟨λb o e=>k _ _ (aA e n0) (g.sm _ _ e),g.nf,k _ _ nf g.e,λn y h=>by obtain⟨d,kv,e1,e2,r⟩:=g.g n y h;exact⟨d,kv,e1,k _ _ (nd n y d e1) e2,r⟩,g.no,g.i,λn y d h=>by obtain⟨e1,e2,o',e3⟩:=g.fr n y d h;exact⟨e1,e2,o',k _ _ (nd n y d h) e3⟩⟩
theorem KZ{α β:Type}{f:α->β}:∀{L:List β}{T:List α},L.Perm (T.map f)->∃S:List α,S.Perm T/\L=S.map f|[],T,h=>⟨T,.refl _,(List.map_eq_nil_iff.mpr (List.map_eq_nil_iff.mp h.nil_eq.symm)).symm⟩|x::L,T,h=>by obtain⟨t,ht,rfl⟩:=ó.mp (h.mem_iff.mp (.head _));obtain⟨A,B,rfl⟩:=List.append_of_mem ht;have e:((A++t::B).map f).Perm (f t::(A++B).map f):=(List.perm_middle (a:=t) (l₁:=A) (l₂:=B)).map f;obtain⟨S,p,rfl⟩:=KZ (h.trans e).cons_inv;exact⟨t::S,(p.cons t).trans List.perm_middle.symm,O⟩
theorem rR{S:UV}{w:Int}(hj:j<S.length):(S.take (j+1)).zip (bC w (S.take (j+1)))=(S.take j).zip (bC w (S.take j))++[(S[j],if w-(bC w (S.take j)).sum<fl S[j] 3 then w-(bC w (S.take j)).sum else fl S[j] 3)]:=by rw[ĺ,á hj,show(some S[j]).toList=[S[j]]from O,gW,List.zip_append (by rw[gK])];rfl
theorem Ht(a b:Int):(if b<a then b else a)=if a<b then a else b:=by split<;>split<;>lia
inductive Ω(vs:List V)(H:Hp)(Q:VK):Prop|mk:∀ap xp ps fo H0 b kvs lk M,∀y:Nat,∀tc cs ss,(vs=[.ref ap,.ref fo,.ref lk,.int y,.ref tc])->(È H ap xp ps)->(ps.length<=10)->((∀r∈ps,ĝ r))->(ģ fo H0 H (Ź ps) (qY ps ss) b kvs)->(fo≠lk)->(H0 lk=none)->(ō H lk M)->(Lk cs ps ss y M)->(y<20)->(H tc=some (.tup ((cs.getD y []).map V.int)))->((cs.getD y []).length=3)->((∀x∈cs.getD y [],0<=x))->(un ps ss=none)->((∀s∈ss,s.length=5))->(∀t g tl M' H',(∀b o,b≠lk->H b=some o->H' b=some o)->H' t=some (.tup [.ref g,.ref tl])->ō H' lk M'->Lk cs ps ss (y+1) M'->Q (.ref t) H')->Ω  vs H Q
def By:Sp:=λvs H Q _=>Ω  vs H Q
theorem DX:bootBuiltins "min"=some (.builtin "min"):=by decide+kernel
theorem QT:(["_law_claim"]:ð).Nodup:=by decide+kernel
theorem QV:([AAv]:ð).Nodup:=by decide+kernel
theorem QW:([ω,ć,ϊ]:ð).Nodup:=by decide+kernel
theorem ĥ:Ã [ć,ŀ,AAu,Į,ABc,"_law_gone","_law_down","_law_have",ϊ,"_law_some","_law_wanted","_law_shares","_law_fresh",AAn,AAx,Ϯ,"_law_share",ω,"_law_made"] [ć,ŀ,AAu,Į,ABc] (aD (top 89)):=ú
theorem Hu(F:æ K "_law_year" "_law_year" (top 89) f fd)(T:Mg mg)(Tr:mg "range"=none)(Tz:mg "zip"=none)(To:mg "sorted"=none)(Tn:mg "min"=none)(Ts:mg "sum"=none)(c1:â P w K mg base 1 ABg [ć,ŀ,ϊ,Į] nU)(c2:â P w K mg base 1 "_law_parted" [Ϯ,ABa] K40P.spLParts):Ñ P w K mg base å 2 f fd [ć,ŀ,AAu,Į,ABc] By:=by
 refine F.oq ĥ λar A outer s H vs Q E hr h=>?_;obtain⟨ap,xp,ps,fo,H0,b,kvs,lk,M,y,tc,cs,ss,rfl,rp,lp,okp,dt,nf,n0,la,FV,y20,nX,lc,hc,hu,h5,q⟩:=h;refine K40P.ok_b (aN ⟨Ae (i:=5) (j:=6) (k:=7) O ĥ.nd O O O Ù Ù Ù O O O (aq (cX ao) (aq (cX ao) (aq aB ao))) O⟩ (aN ⟨cF Ł O (bV O Tr (aq aB ao)) (bF (i:=8) ĥ.nd O (Or.inr O)) (jl (aN (fM 7 ĥ.nd (jL bw ⟨pv 7⟩ (tG bJ ⟨pv 4⟩ ⟨pv 8⟩ (λ_ _=>rfl)))) (aN (fM 9 ĥ.nd ⟨aH c1 hr (aq (pv 0) (aq (pv 1) (aq (pv 8) (aq (pv 3) ao))))⟩) (aN ⟨iW (i:=10) ["_law_claim"] [none] O ĥ.nd O (Or.inl O) (dF (pv 9)) (λC fp Á s₂ Ï=>⟨Ô 0 QT,bx,pX (K40P.ix_tupK (K:=K) O) (pv 0) aB⟩) (λC=>trivial) ⟨O,O,O,O⟩⟩ (aN (fM 11 ĥ.nd ⟨kY (bu bW (aJ (cM O) O Ts ä (aq (pv 10) ao)) (pv 7) (bj _)) (pv 10) (aH c2 hr (aq (pv 7) (aq (pv 10) ao)))⟩) (aN (fM 12 ĥ.nd ⟨qj⟩) (aN ⟨cF Ł O (ZT.pi_zip false false O Tz (aq (pv 9) (aq (pv 11) ao))) (bR O (az (bR O (az (Ô 13 ĥ.nd) (az (Ô 14 ĥ.nd) (az (Ô 15 ĥ.nd) aX)))) (az (Ô 16 ĥ.nd) aX))) (jl (aN ⟨cg (fD Β zBb zBa dw (pv 5) (aq (bM (aq (pv 3) (aq (pv 13) (aq (pv 14) (aq (pv 16) ao))))) ao))⟩ (cj ⟨oX (fO hr) (pv 12) (bM (aq (pv 3) (aq (pv 13) (aq (pv 14) ao)))) (aU dJ (pv 15) (pv 16)) O⟩)))⟩ (aN (fM 7 ĥ.nd (jL dJ ⟨pv 7⟩ ⟨aJ (cM O) O Ts ä (aq (pv 11) ao)⟩)) (aN ⟨cF Ł O (dF (aJ j9 O To è (aq (G6 (bz [ω,ć,ϊ] [none,some 0,some 8] O (An (pv 2)) (λC fp Á s₂ Ï=>⟨Ô 0 QW,gF (bu gP (pX (K40P.ix_tupK (K:=K) O) (pX (K40P.ix_tupK (K:=K) O) (pv 1) (pX (K40P.ix_tupK (K:=K) O) (pv 0) aB)) aB) (pv 2) (bj _)),pv 0⟩) (λC=>cI (cI trivial)) ⟨O,O,O,O⟩)) ao))) (Ô 17 ĥ.nd) (jl (aN (fM 18 ĥ.nd ⟨aJ (iC O) O Tn DX (aq (pv 7) (aq (gG (fO hr) (pv 2) (pv 17) (λ_ _=>rfl)) ao))⟩) (aN ⟨cg (fD Β zBb zBa dw (pv 5) (aq (aU um (pv 17) (bM (aq (pv 18) ao))) ao))⟩ (cj ⟨cV (bM (aq (aU dJ (gG (fO hr) (pv 2) (pv 17) (λ_ _=>rfl)) (pv 18)) (aq (aU dJ (pv 7) (pv 18)) ao))) (bR O (az (mX (pv 2) (pv 17) (Z00 (fO hr))) (az (Ô 7 ĥ.nd) aX)))⟩))))⟩ (aN ⟨cg (fD PySem.F.plainAttrs_dict PySem.F.slot_dict_update PySem.F.type_dict_update (Ml (fO hr)) (pv 2) (aq (pv 12) ao))⟩ (cj ⟨cg (fD Β zBb zBa dw (pv 6) (aq (pv 7) ao))⟩)))))))))))⟩ (cj (fU (gA (bf ⟨aJ dZ O To è (aq (bz [AAv] [none] O (dF (pv 5)) (λC fp Á s₂ Ï=>⟨Ô 0 QV,gF (bu lq (pX (K40P.ix_tupK (K:=K) O) (pv 0) aB) aB (bj _)),pv 0⟩) (λC=>trivial) ⟨O,O,O,O⟩) ao)⟩ (bf ⟨cH cB O T.tuple Þ (aq (pv 6) ao)⟩ bN))))))) ?_;obtain⟨Mo0,CO,pm0⟩:=id la;have g0:=FV.start (xD (cs.getD y []) ps ss (oS cs ps ss y) y);have nx:∀{M' G':UV},Stg ps (xD (cs.getD y []) ps ss (oS cs ps ss y) y) (oS cs ps ss y) y 3 M' G'->Lk cs ps ss (y+1) M':=λg=>g.next;have hX:∀s:Nat,xD (cs.getD y []) ps ss (oS cs ps ss y) y s=aK (bh ps ss s y)+oS cs ps ss y s-(cs.getD y []).getD s 0:=λ_=>rfl;generalize xD (cs.getD y []) ps ss (oS cs ps ss y) y=X at g0 nx hX;generalize oS cs ps ss y=os at g0 nx hX;generalize cs.getD y []=c at nX lc hc hX;have Wt:tc≠lk:=λz=>by rw[z,CO]at nX;cases nX
 refine aP λc_ ae=>?_;refine⟨zL,λlg wc=>⟨zL,λll hU=>⟨_,_,_,O,?_⟩⟩⟩;refine ae _ _ ?_;clear ae c_;try dsimp only
 have W0:Wd H (upd (upd H lg (.lst [])) ll (.lst [])) lk lg ll [] [] [] M:=by have s1:=À.upd (o:=.lst []) wc;have s2:=À.upd (o:=.lst []) hU;exact⟨λb o n e=>s2 _ _ (s1 _ _ e),s2 _ _ aj,î.nil,aj,la.same (s1.trans s2),(aA CO wc).symm,(aA CO (s1.free hU)).symm,(λz=>by rw[<-z,aj]at hU;cases hU),wc,s1.free hU⟩
 refine fB (λH1=>Wd H H1 lk lg ll [] [] [] M) W0 λH1 W0=>?_;clear wc hU;refine aM ?_;refine⟨3,O,by decide,by decide,?_⟩;refine cY (lo:=0) (λi σ Hc=>Xe15 λx8 x9 mv mn kS gz gE gI oo ot oz xg G L Mi=>Xa4 (σ=[some (.ref ap),some (.ref fo),some (.ref lk),some (.int y),some (.ref tc),some (.ref lg),some (.ref ll),some (.int (dn X i)),x8,x9,mv,mn,kS,gz,gE,gI,oo,ot,oz]) (Wd H Hc lk lg ll xg G L Mi) (L.length=i) (Stg ps X os y i Mi G)) ?_ ?_ ?_;.exact⟨none,none,none,none,none,none,none,none,none,none,none,[],[],[],M,O,W0,O,g0⟩
 .rintro i σ Hc hi⟨x8,x9,mv,mn,kS,gz,gE,gI,oo,ot,oz,xg,G,L,Mi,rfl,W,lL,g⟩;have hi:i<3:=hi;have MZ:(c.map V.int)[i]?=some (.int (c.getD i 0)):=by have eR:i<c.length:=Â;rw[Ą,ę,á eR];rfl
  have wq:=Py (n:=i) (y:=y) hu h5 okp lp;have nn:=KQ X i;have Wu:=hX i;obtain⟨w1,ew⟩:∃w1,w1=c.getD i 0+dn X i:=⟨_,O⟩;obtain⟨cl,wa⟩:∃cl,cl=bh ps ss i y:=⟨_,O⟩;have AV:0<=w1:=by have:=v8 hc i;lia
  rw[<-wa]at wq Wu;have ej:=λr hr=>(wq.ok r hr).1;have Wv:=wq.len;refine aG ?_;have z0:(0:Int)+(i:Int)=i:=Â;rw[z0];refine wW λDe CA=>?_;refine aP λc_ ae=>?_;refine aV ?_;refine⟨_,O,_,O,_,O,tc,_,i,.int (c.getD i 0),O,O,Ð.of (W.k _ _ Wt nX),cJ MZ,_,_,O,O,?_⟩;refine aG ?_;refine ae _ _ ?_;clear ae c_;try dsimp only
  rw[Int.add_comm,<-ew];refine aP λc_ ae=>?_;refine aV ?_;refine⟨_,O,_,O,_,O,_,O,ap,xp,ps,fo,H0,b,kvs,ss,i,y,O,rp.but W.k CO,lp,okp,dt.but W.k nf n0 CO,λoB CU H2 s2 IL CY oC=>?_⟩;refine aG ?_;refine ae _ _ ?_;clear ae c_;try dsimp only
  rw[<-wa]at oC;have W2:=W.same s2;have Ww:oB≠lg/\oB≠ll/\oB≠lk:=⟨(aA W.eg IL).symm,(aA W.el IL).symm,by obtain⟨Mo,e,_⟩:=W.lka;exact(aA e IL).symm⟩;clear s2 IL;refine aP λc_ ae=>?_;refine⟨_,O,oB,O,⟨_,É.of CY⟩,cA cl.length (λj ys σ Hj=>À H2 Hj/\(∃o1,σ=[o1])/\ys=(Đ (cl.take j)).map V.int) ⟨À.refl _,⟨_,O⟩,O⟩ ų ?_ ?_⟩
  .rintro j ys σ Hj hj hy⟨sj,⟨o1,rfl⟩,rfl⟩;obtain⟨t,ex,et⟩:=oC.2 j cl[j].tail (by rw[Ą,á hj];rfl);have e4:=(ej _ (Ė hj)).l;have NS:cl[j].tail=[fl cl[j] 1,fl cl[j] 2,fl cl[j] 3]:=by
    conv=>lhs;rw[eQ e4]
    rfl
   rw[NS]at et;refine⟨⟨_,_,É.of (sj _ _ CY),ex⟩,λv H' y' R hR=>?_⟩;obtain⟨rfl,y'⟩:=y';have hv:=y' _ (É.of (sj _ _ CY));rw[ex]at hv;cases hv;refine aG ?_;refine⟨_,O,t,_,2,.int (fl cl[j] 3),O,O,Ð.of (sj _ _ et),O,hR _ _ _ ⟨sj,⟨_,O⟩,?_⟩⟩;unfold Đ;rw[ĺ,á hj,ë,ë];rfl
  rintro ys σ Hj hy⟨sj,_,rfl⟩;rw[ň];refine⟨⟨_,É.of (sj _ _ CY),by rw[oC.1,Õ];exact Ü _⟩,λlw Dx=>?_⟩;have W3:=(W2.same sj).same (À.upd (o:=.lst ((Đ cl).map V.int)) Dx);have s3:=sj.updR (o:=.lst ((Đ cl).map V.int)) Dx;have IM:=aj (H:=Hj) (a:=lw) (o:=.lst ((Đ cl).map V.int));have AW:=s3 _ _ CY;have oI:=oC.same s3;have Wx:lw≠lg/\lw≠ll/\lw≠lk:=⟨(aA (sj _ _ W2.eg) Dx).symm,(aA (sj _ _ W2.el) Dx).symm,by obtain⟨Mo,e,_⟩:=W2.lka;exact(aA (sj _ _ e) Dx).symm⟩;generalize upd Hj lw (.lst ((Đ cl).map V.int))=H3 at W3 IM AW oI⊢;clear Dx sj s3 CY oC W2 W;refine ae _ _ ?_;clear ae c_;try dsimp only
  refine aP λcc GS=>?_;have rest:∀(sh:WF)lsh' H4,Ś w1 cl sh->Wd H H4 lk lg ll xg G L Mi->H4 oB=some (.lst CU)->î H4 CU (cl.map List.tail)->H4 lsh'=some (.lst (sh.map V.int))->(lsh'≠lg/\lsh'≠ll/\lsh'≠lk)->cc [some (.ref ap),some (.ref fo),some (.ref lk),some (.int y),some (.ref tc),some (.ref lg),some (.ref ll),some (.int w1),some (.int i),some (.ref oB),some (.ref lw),some (.ref lsh'),kS,gz,gE,gI,oo,ot,oz] H4:=by
   intro sh lsa H4 τ W4 AX wt AY Wy;have CB:=τ.len;have kD:0<=w1-sh.sum:=by have:=τ.sum;lia
   refine GS _ _ ?_;refine aP λc_ ae=>?_;refine aV ?_;refine λlf kq=>?_;refine aG ?_;refine ae _ _ ?_;clear ae c_;try dsimp only
   have s5:=À.upd (o:=.dT []) kq;have W5:=W4.same s5;have tI:=aj (H:=H4) (a:=lf) (o:=.dT []);have AZ:=s5 _ _ AX;have oP:=wt.same s5;have oQ:=s5 _ _ AY;have lh:lf≠lg/\lf≠ll/\lf≠lk/\lf≠oB/\lf≠lsa:=⟨(aA W4.eg kq).symm,(aA W4.el kq).symm,(by obtain⟨Mo,e,_⟩:=W4.lka;exact(aA e kq).symm),(aA AX kq).symm,(aA AY kq).symm⟩;have FX:H lf=none:=by cases z:H lf with|none=>rfl;|some o=>rw[W4.k _ _ lh.2.2.1 z]at kq;cases kq
   generalize upd H4 lf (.dT [])=H5 at W5 tI AZ oP oQ⊢;clear s5 W4 kq AX wt AY;have gl:=g.glen;have Wz:CU.length=cl.length:=by rw[oP.1,Õ]
   refine aP λc_ ae=>?_;refine⟨_,O,_,O,oB,lsa,_,_,O,É.of AZ,É.of oQ,?_⟩;refine ZT.for_zip (t1:=false) (t2:=false) (xs:=CU) (ys:=sh.map V.int) (λj σ Hj=>Xe5 λgz gE gI oo tJ=>Xa6 (σ=[some (.ref ap),some (.ref fo),some (.ref lk),some (.int y),some (.ref tc),some (.ref lg),some (.ref ll),some (.int w1),some (.int i),some (.ref oB),some (.ref lw),some (.ref lsa),some (.ref lf),gz,gE,gI,oo,ot,oz]) (Wd H Hj lk lg ll tJ (G++((cl.zip sh).take j).map gZ) L Mi) (Hj lf=some (.dT ((((cl.zip sh).take j).map dI).map ĉ))) (Hj oB=some (.lst CU)) (î Hj CU (cl.map List.tail)) (Hj lsa=some (.lst (sh.map V.int)))) (by rw[Wz,Õ,CB]) ?_ ?_ ?_ ?_;.exact⟨gz,gE,gI,oo,xg,O,by rw[Zbl,List.map_nil,ş];exact W5,tI,AZ,oP,oQ⟩
   .rintro j σ Hj hj⟨gz,gE,gI,oo,tJ,rfl,Wj,pb,pd,jv,gT⟩;exact⟨É.of pd,É.of gT⟩
   .rintro j x z σ Hj T0 hx hz⟨gz,gE,gI,oo,tJ,rfl,Wj,pb,pd,jv,gT⟩nT;have hj:j<cl.length:=by have:=(Ķ.mp hx).1;lia
    have qE:j<sh.length:=Â;obtain⟨t,ex,et⟩:=jv.2 j cl[j].tail (by rw[Ą,á hj];rfl);rw[hx]at ex;cases ex;rw[Ą,á qE]at hz;cases hz;have e4:=(ej _ (Ė hj)).l;have NS:cl[j].tail=[fl cl[j] 1,fl cl[j] 2,fl cl[j] 3]:=by
     conv=>lhs;rw[eQ e4]
     rfl
    rw[NS]at et;have RU:fl cl[j] 0=y:=wq.yr _ (Ė hj);have NU:(cl.zip sh)[j]?=some (cl[j],sh[j]):=by rw[List.getElem?_zip_eq_some];exact⟨á hj,á qE⟩
    have dE:(cl.zip sh).take (j+1)=(cl.zip sh).take j++[(cl[j],sh[j])]:=by rw[ĺ,NU];rfl
    have sT:=À.upd (o:=.tup [V.ref t,.int sh[j]]) nT;have W6:=Wj.same sT;have FY:=sT _ _ pb;have F0:=sT _ _ pd;have wx:=jv.same sT;have w9:=sT _ _ gT;have RV:=sT _ _ et;have eT:=aj (H:=Hj) (a:=T0) (o:=.tup [V.ref t,.int sh[j]]);generalize upd Hj T0 (.tup [V.ref t,.int sh[j]])=H6 at W6 FY F0 wx w9 RV eT⊢;clear sT Wj nT;refine⟨T0,_,O,Ð.of eT,O,_,_,O,t,_,O,Ð.of RV,O,_,_,O,_,_,O,_,_,O,O,_,_,O,O,?_⟩;refine wW λWC WD=>?_;try dsimp only
    refine aP λc_ ae=>?_;refine⟨_,O,.inl ⟨O,_,É.of W6.eg⟩,_,O,_,O,_,O,_,O,zL,λtt xb=>⟨lg,_,_,O,O,À.upd xb _ _ W6.eg,?_,?_⟩⟩;.rw[W6.elg.1,õ,Õ,ŉ,Θ,sizeLine_eq];have:i*(240*(y:Int).toNat+400)<=3*(240*(y:Int).toNat+400):=Nat.mul_le_mul_right _ Â;lia
    refine ae _ _ ?_;clear ae c_;try dsimp only
    have sU:=À.upd (o:=.tup [V.int y,.int (fl cl[j] 1),.int (fl cl[j] 2),.int sh[j]]) xb;have W7:=(W6.same sU).gone (t:=tt) (r:=gZ (cl[j],sh[j])) (by rw[aj];show _=some (HO.tup [V.int (fl cl[j] 0),_,_,_]);rw[RU]);have keep:∀{b:Addr}{o:HO},b≠lg->H6 b=some o->upd (upd H6 tt (.tup [V.int y,.int (fl cl[j] 1),.int (fl cl[j] 2),.int sh[j]])) lg (.lst (tJ++[.ref tt])) b=some o:=λ{b o}n e=>by rw[au n];exact sU _ _ e
    have cm:∀b z,H6 b=some (.tup z)->upd (upd H6 tt (.tup [V.int y,.int (fl cl[j] 1),.int (fl cl[j] 2),.int sh[j]])) lg (.lst (tJ++[.ref tt])) b=some (.tup z):=λb z e=>keep (λw=>by rw[w,W6.eg]at e;cases e) e;have fN:=keep lh.1 FY;have F2:=keep Ww.1 F0;have xh:=wx.keep cm;have xi:=keep Wy.1 w9;generalize upd (upd H6 tt (.tup [V.int y,.int (fl cl[j] 1),.int (fl cl[j] 2),.int sh[j]])) lg (.lst (tJ++[.ref tt]))=H7 at W7 fN F2 xh xi⊢;clear keep cm sU W6 xb;refine⟨_,O,_,O,_,_,O,O,_,O,_,O,_,O,_,O,zL,λtk DO=>⟨lf,_,O,Ő.t (k:=(Ë cl[j]).map Sum.inl) (À.upd DO _ _ fN) (by rw[aj];show some (HO.tup [V.int y,V.int (fl cl[j] 1),V.int (fl cl[j] 2)])=some (HO.tup [V.int (fl cl[j] 0),V.int (fl cl[j] 1),V.int (fl cl[j] 2)]);rw[RU]) ?_,?_⟩⟩;.rw[Õ,Õ,ŉ,Θ,sizeLine_eq];lia
    have sK:=À.upd (o:=.tup [V.int y,.int (fl cl[j] 1),.int (fl cl[j] 2)]) DO;have W8:=W7.same sK;have lI:=sK _ _ fN;have NV:ý ((((cl.zip sh).take j).map dI).map ĉ) ((Ë cl[j]).map Sum.inl) (.int (fl cl[j] 3-sh[j]))=((((cl.zip sh).take (j+1)).map dI).map ĉ):=by
     rw[EY,dE,ë,ë];.rfl
     .cases zv:cQ ((((cl.zip sh).take j).map dI).map ĉ) ((Ë cl[j]).map Sum.inl)with|none=>rfl;|some v=>
       have h1:(cQ ((((cl.zip sh).take j).map dI).map ĉ) ((Ë cl[j]).map Sum.inl)).isSome=true:=by rw[zv];rfl
       rw[<-gh,List.any_eq_true]at h1;obtain⟨p,hp,e⟩:=h1;have e:=Η e;obtain⟨r,hr,rfl⟩:=ó.mp hp;have e:=pG (show(Ë r).map Sum.inl=_ from e);have nd:((cl.zip sh).map dI).map Ë|>.Nodup:=by rw[gr (f:=dI) (λ_=>rfl) CB];exact wq.nd
       have iA:(cl.zip sh).map dI=((cl.zip sh).take j).map dI++dI (cl[j],sh[j])::((cl.zip sh).drop (j+1)).map dI:=by
        have RW:j<(cl.zip sh).length:=by rw[Θ];lia
        have:(cl.zip sh)[j]=(cl[j],sh[j]):=by rw[á RW]at NU;exact œ NU
        rw[<-this,<-Ĵ,<-ë,<-Zas RW,zBe]
       rw[iA,ë,Zbi]at nd;exact absurd e (nd.2.2 _ (ó.mpr ⟨r,hr,O⟩) _ (.head _))
    rw[NV];refine WD _ _ ⟨_,_,_,_,tJ++[.ref tt],O,?_,aj,?_,?_,?_⟩
    .have eG:G++((cl.zip sh).take (j+1)).map gZ=G++((cl.zip sh).take j).map gZ++[gZ (cl[j],sh[j])]:=by rw[dE,ë,<-ő];rfl
     rw[eG];exact W8.oth lI lh.1 lh.2.1 lh.2.2.1 FX
    .rw[au lh.2.2.2.1.symm];exact sK _ _ F2
    .exact(xh.same sK).keep λb z e=>by rw[au λw=>by rw[w,lI]at e;cases e];exact e
    .rw[au lh.2.2.2.2.symm];exact sK _ _ xi
   rintro σ Hj⟨gz,gE,gI,oo,tJ,rfl,Wj,pb,pd,jv,gT⟩;rw[Zai (by rw[Θ];lia)]at Wj pb;refine ae _ _ ?_;clear ae c_;try dsimp only
   refine aP λc_ ae=>?_;refine aV ?_;refine⟨_,O,_,O,lsa,sh,O,.inl (É.of gT),_,_,O,O,?_⟩;refine aG ?_;refine ae _ _ ?_;clear ae c_;try dsimp only
   clear pd jv gT;obtain⟨w2,NW⟩:∃w2,w2=w1-sh.sum:=⟨_,O⟩;rw[<-NW]at kD⊢;obtain⟨Mo,gS,mw⟩:=id Wj.lka;have WE:Mo.length<=10000:=by have:=g.len;have:=mw.length_eq;lia
   refine aM ?_;refine⟨lk,_,gS,λo=>?_⟩;have ez:=aj (H:=Hj) (a:=lk) (o:=.frz o (.dT (Mo.map ĉ)));have sz:∀b u,b≠lk->Hj b=some u->upd Hj lk (.frz o (.dT (Mo.map ĉ))) b=some u:=λb u n e=>by rw[au n];exact e
   have uz:∀b u,b≠lk->upd Hj lk (.frz o (.dT (Mo.map ĉ))) b=some u->Hj b=some u:=λb u n e=>by rw[au n]at e;exact e
   generalize upd Hj lk (.frz o (.dT (Mo.map ĉ)))=Hz at ez sz uz⊢;have tz:∀{Hd:Hp},À Hz Hd->∀b z,H b=some (.tup z)->Hd b=some (.tup z):=λ{Hd}sd b z e=>by
    have nb:b≠lk:=λw=>by rw[w,CO]at e;cases e
    exact sd _ _ (sz _ _ nb (Wj.k _ _ nb e))
   refine⟨_,O,lk,o,_,O,ez,fK Mo.length (λj ys σ Hd=>À Hz Hd/\(∃o1,σ=[o1,some (.ref ap),some (.int i)])/\î Hd ys (((Mo.take j).filter λr=>decide (aY ps r=i)).map Ë)) ⟨À.refl _,⟨_,O⟩,î.nil⟩ ų ?_ ?_⟩
   .rintro j ys σ Hd hj hy⟨sd,⟨o1,rfl⟩,lP⟩;have F3:=g.ok Mo[j] (mw.mem_iff.mp (Ė hj));obtain⟨p,hp,ep,op⟩:=fY okp F3.2.1 F3.2.2.1;obtain⟨tp,dv,fF⟩:=ir rp F3.2.1 hp;rw[eV op.1]at fF;have es:aY ps Mo[j]=fl p 1:=by unfold aY;rw[ep]
    have dE:((Mo.take (j+1)).filter λr=>decide (aY ps r=i)).map Ë=((Mo.take j).filter λr=>decide (aY ps r=i)).map Ë++(if fl p 1=i then[Ë Mo[j]]else[]):=by
     rw[ĺ,á hj,show(some Mo[j]).toList=[Mo[j]]from O,Za7,ë];congr 1;by_cases h:fl p 1=i;.rw[Ì h,zBg (by rw[es];exact ø h)];rfl
     .rw[Ê h,zBf (by rw[es,č];exact h)];rfl
    refine⟨⟨sd _ _ ez,by rw[Õ];exact hj⟩,λx H' yv R hR=>?_⟩;obtain⟨rfl,bb,kk,vv,rfl,F4,tN⟩:=yv;rw[Ą,á hj]at F4;cases F4;have tN:H' bb=some (.tup [.int (fl Mo[j] 0),.int (fl Mo[j] 1),.int (fl Mo[j] 2)]):=tN;refine aG ?_;refine⟨_,O,_,O,bb,_,1,.int (fl Mo[j] 1),O,O,Ð.of tN,O,ap,xp,_,.ref tp,O,O,Ð.of (tz sd _ _ rp.e),dv,tp,_,1,.int (fl p 1),O,O,Ð.of (tz sd _ _ fF),O,_,O,O,_,O,?_⟩;by_cases h:fl p 1=i;.rw[ø (by rw[h])];refine bK ⟨_,O,hR _ _ _ (by rw[õ];show ys.length+1<=j+1;lia) ⟨sd,⟨_,O⟩,?_⟩⟩;rw[dE,Ì h];exact lP.app (î.one tN)
    .rw[ħ (λz=>h (by injection z))];refine bB (hR _ _ _ Â ⟨sd,⟨_,O⟩,?_⟩);rw[dE,Ê h,ş];exact lP
   rintro ys σ Hd hy⟨sd,_,lP⟩;rw[ň]at lP;refine⟨⟨sd _ _ ez,by rw[Õ];exact Ü _⟩,λD hD=>⟨À.upd hD _ _ (sd _ _ ez),?_⟩⟩;have nD:D≠lk:=λz=>by rw[z,sd _ _ ez]at hD;cases hD
   have S6:À Hj (upd (upd Hd D (.lst ys)) lk (.dT (Mo.map ĉ))):=λb u e=>by
    by_cases hb:b=lk;.subst hb;rw[gS]at e;cases e;exact aj
    .rw[au hb];exact À.upd hD _ _ (sd _ _ (sz _ _ hb e))
   have eD:upd (upd Hd D (.lst ys)) lk (.dT (Mo.map ĉ)) D=some (.lst ys):=by rw[au nD];exact aj
   have pj:upd Hd D (.lst ys) lk=some (.frz o (.dT (Mo.map ĉ))):=À.upd hD _ _ (sd _ _ ez);have fm:î (upd (upd Hd D (.lst ys)) lk (.dT (Mo.map ĉ))) ys ((Mo.filter λr=>decide (aY ps r=i)).map Ë):=(lP.same (À.upd hD)).keep λb z e=>by rw[au λw=>by rw[w,pj]at e;cases e];exact e
   generalize upd (upd Hd D (.lst ys)) lk (.dT (Mo.map ĉ))=H6 at S6 eD fm⊢;clear lP sd sz uz tz ez hD pj;obtain⟨ads,ey,u7,mx⟩:=mK fm;subst ey;refine⟨D,ads,gq H6,O,É.of eD,λa ha=>⟨Ð.of (mx a ha),λz=>?_⟩,λq' l' hq pm=>?_⟩
   .have:gq H6 a∈(Mo.filter λr=>decide (aY ps r=i)).map Ë:=by rw[u7];exact List.mem_map_of_mem ha
    obtain⟨r,_,e⟩:=ó.mp this;rw[z]at e;cases e
   obtain⟨S,pS,RX⟩:=KZ (show(l'.map (gq H6)).Perm ((Mo.filter λr=>decide (aY ps r=i)).map Ë)by rw[u7];exact pm.map _);have pS:S.Perm (aZ ps Mi i):=pS.trans (mw.filter _);have NY:∀r∈S,0<=fl r 3:=λr hr=>(g.ok r (ρ.mp (pS.mem_iff.mp hr)).1).2.2.2.1;obtain⟨md,IP⟩:∃md,md=bC w2 S:=⟨_,O⟩;obtain⟨g',ed⟩:=g.step (w:=w1) hi wq pS Â AV τ (by rw[<-NW];exact GC kD NY);rw[<-IP]at g';rw[<-NW,<-IP]at ed;have dP:Mi.Perm (ö ps Mi i++S):=((List.Perm.append_left _ pS).trans (List.perm_append_comm.trans (List.filter_append_perm (λr=>decide (aY ps r=i)) Mi))).symm;have S7:=S6.updR (o:=.lst (l'.map V.ref)) hq;have DA:=aj (H:=H6) (a:=q') (o:=.lst (l'.map V.ref));have tP:î (upd H6 q' (.lst (l'.map V.ref))) (l'.map V.ref) (S.map Ë):=by rw[<-RX];exact vg λa ha=>À.upd hq _ _ (mx a (pm.mem_iff.mp ha))
   have nq:Hj q'=none:=S6.free hq;generalize upd H6 q' (.lst (l'.map V.ref))=H7 at S7 DA tP⊢;clear mx u7 fm eD S6 hq pm RX;have W7:=Wj.same S7;have fN:=S7 _ _ pb;have dq:q'≠lg/\q'≠ll/\q'≠lk:=⟨(aA Wj.eg nq).symm,(aA Wj.el nq).symm,(aA gS nq).symm⟩;have lS:S.length<=10000:=by have:=dP.length_eq;have:=g.len;rw[õ]at*;lia
   generalize l'.map V.ref=xq at DA tP⊢;have N0:xq.length=S.length:=by rw[tP.1,Õ]
   have WG:∀j,(ö ps Mi i++((S.take j).zip (bC w2 (S.take j))).map dI++S.drop j).map Ë|>.Nodup:=λj=>by rw[ë,ë,gr (f:=dI) (λ_=>rfl) (gK _ _),ő,<-ë,zBe,<-ë];exact(dP.map _).nodup_iff.mp g.kd
   refine⟨q',O,⟨_,É.of DA⟩,?_⟩;refine jf (xs:=xq) (λj σ Hk=>Xe3 λot oz pE=>Xa5 (σ=[some (.ref ap),some (.ref fo),some (.ref lk),some (.int y),some (.ref tc),some (.ref lg),some (.ref ll),some (.int (w2-(bC w2 (S.take j)).sum)),some (.int i),some (.ref oB),some (.ref lw),some (.ref lsa),some (.ref lf),gz,gE,gI,oo,ot,oz]) (Wd H Hk lk lg ll pE (G++(cl.zip sh).map gZ++((S.take j).zip (bC w2 (S.take j))).map gZ) L (ö ps Mi i++((S.take j).zip (bC w2 (S.take j))).map dI++S.drop j)) (Hk lf=some (.dT (((cl.zip sh).map dI).map ĉ))) (Hk q'=some (.lst xq)) (î Hk xq (S.map Ë))) ?_ ?_ ?_ ?_
   .refine⟨ot,oz,tJ,?_,?_,fN,DA,tP⟩;.rw[Zbl];show[_,_,_,_,_,_,_,some (V.int w2),_,_,_,_,_,_,_,_,_,_,_]=[_,_,_,_,_,_,_,some (V.int (w2-0)),_,_,_,_,_,_,_,_,_,_,_];rw[Int.sub_zero]
    .have e:ö ps Mi i++((S.take 0).zip (bC w2 (S.take 0))).map dI++S.drop 0=ö ps Mi i++S:=by rw[Zbl,List.drop_zero];show ö ps Mi i++[]++S=_;rw[ş]
     have e2:G++(cl.zip sh).map gZ++((S.take 0).zip (bC w2 (S.take 0))).map gZ=G++(cl.zip sh).map gZ:=by rw[Zbl];exact ş _
     rw[e,e2];exact⟨W7.k,W7.eg,W7.elg,W7.el,W7.lka.pm dP,W7.nk,W7.nl,W7.ng,W7.fg,W7.fl⟩
   .rintro j σ Hk hj⟨ot,oz,pE,rfl,Wk,tS,IQ,tT⟩;exact É.of IQ
   .rintro j x σ Hk hx⟨ot,oz,pE,rfl,Wk,tS,IQ,tT⟩;have hj:j<S.length:=by have:=(Ķ.mp hx).1;lia
    obtain⟨t,ex,et⟩:=tT.2 j (Ë S[j]) (by rw[Ą,á hj];rfl);rw[hx]at ex;cases ex;have wo:S.drop j=S[j]::S.drop (j+1):=Zas hj;have kd:=WG j;have F5:S[j]∈ö ps Mi i++((S.take j).zip (bC w2 (S.take j))).map dI++S.drop j:=ė.mpr (.inr (by rw[wo];exact .head _));have eZ:=rR (w:=w2) hj;have eM:bC w2 (S.take (j+1))=bC w2 (S.take j)++[if w2-(bC w2 (S.take j)).sum<fl S[j] 3 then w2-(bC w2 (S.take j)).sum else fl S[j] 3]:=by rw[ĺ,á hj,show(some S[j]).toList=[S[j]]from O,gW]
    have em:=Ht (w2-(bC w2 (S.take j)).sum) (fl S[j] 3);generalize hm:(if w2-(bC w2 (S.take j)).sum<fl S[j] 3 then w2-(bC w2 (S.take j)).sum else fl S[j] 3)=m at eZ eM em;refine aG ?_;refine wW λDe3 WH=>?_;refine aP λc_ ae=>?_;refine aV ?_;refine⟨_,O,_,O,_,O,lk,.int (fl S[j] 3),O,Wk.lka.get kd F5 et,_,_,O,?_⟩;rw[em];refine aG ?_;refine ae _ _ ?_;clear ae c_;try dsimp only
    refine aP λc_ ae=>?_;refine⟨_,O,.inl ⟨O,_,É.of Wk.eg⟩,_,O,_,O,zL,λt1 qA=>?_⟩;have s1:=À.upd (o:=.tup [V.int m]) qA;refine⟨t,t1,_,_,O,O,Ð.of (s1 _ _ et),Ð.of aj,by unfold Ë;simp,(by show 3+1<=sizeLine;decide),λz=>absurd z Ö,λ_ t2 wb=>⟨lg,pE,.ref t2,O,O,À.upd wb _ _ (s1 _ _ Wk.eg),?_,?_⟩⟩;.rw[Wk.elg.1,õ,õ,Õ,Õ,Θ,Θ,ŉ,sizeLine_eq];have:i*(240*(y:Int).toNat+400)<=3*(240*(y:Int).toNat+400):=Nat.mul_le_mul_right _ Â;lia
    have s2:=À.upd (o:=.tup ((Ë S[j]).map V.int++[V.int m])) wb;have W8:=((Wk.same s1).same s2).gone (t:=t2) (r:=gZ (S[j],m)) aj;have keep:∀{b:Addr}{u:HO},b≠lg->Hk b=some u->upd (upd (upd Hk t1 (.tup [V.int m])) t2 (.tup ((Ë S[j]).map V.int++[V.int m]))) lg (.lst (pE++[.ref t2])) b=some u:=λ{b u}n e=>by rw[au n];exact s2 _ _ (s1 _ _ e)
    have cm:∀b z,Hk b=some (.tup z)->upd (upd (upd Hk t1 (.tup [V.int m])) t2 (.tup ((Ë S[j]).map V.int++[V.int m]))) lg (.lst (pE++[.ref t2])) b=some (.tup z):=λb z e=>keep (λw=>by rw[w,Wk.eg]at e;cases e) e;have lI:=keep lh.1 tS;have N1:=keep dq.1 IQ;have A0:=tT.keep cm;have IS:=cm _ _ et;refine ae _ _ ?_;clear ae c_;try dsimp only
    refine fB (λH8=>Wd H H8 lk lg ll (pE++[.ref t2]) (G++(cl.zip sh).map gZ++((S.take j).zip (bC w2 (S.take j))).map gZ++[gZ (S[j],m)]) L (ö ps Mi i++((S.take j).zip (bC w2 (S.take j))).map dI++S.drop j)/\H8 lf=some (.dT (((cl.zip sh).map dI).map ĉ))/\H8 q'=some (.lst xq)/\î H8 xq (S.map Ë)/\H8 t=some (.tup ((Ë S[j]).map V.int))) ⟨W8,lI,N1,A0,IS⟩ λH8=>?_;rintro⟨W8,lI,N1,A0,IS⟩;clear keep cm s1 s2 qA wb;obtain⟨Mk,F6,A1⟩:=id W8.lka;rw[wo]at A1 kd;obtain⟨Mn,WI,WJ⟩:=DK (x:=fl S[j] 3-m) A1 kd;refine⟨_,O,_,O,lk,.int (fl S[j] 3),O,W8.lka.get (by rw[wo];exact kd) F5 IS,_,O,_,_,O,O,_,O,_,O,_,_,O,O,zL,λtp WK=>?_⟩;have sP:=À.upd (o:=.tup [V.int (fl S[j] 3-m),V.int (w2-(bC w2 (S.take j)).sum-m)]) WK;have eP:=aj (H:=H8) (a:=tp) (o:=.tup [V.int (fl S[j] 3-m),V.int (w2-(bC w2 (S.take j)).sum-m)]);refine⟨tp,_,O,Ð.of eP,O,_,_,O,_,O,_,O,lk,_,O,Ő.t (k:=(Ë S[j]).map Sum.inl) (sP _ _ F6) (by rw[sP _ _ IS,ĳ];rfl) ?_,_,_,O,O,?_⟩;.have:=A1.length_eq;have:=dP.length_eq;have:=g.len;rw[Õ,sizeLine_eq];rw[õ,õ,ĵ,Õ,Θ,ŉ,ϙ,gK,ŉ]at*;lia
    rw[WI];have W9:=(W8.same sP).put WJ;have tj:∀b,b≠lk->upd (upd H8 tp (.tup [V.int (fl S[j] 3-m),V.int (w2-(bC w2 (S.take j)).sum-m)])) lk (.dT (Mn.map ĉ)) b=upd H8 tp (.tup [V.int (fl S[j] 3-m),V.int (w2-(bC w2 (S.take j)).sum-m)]) b:=λb n=>au n;refine WH _ _ ⟨some (.ref t),some (.int m),pE++[.ref t2],?_,?_,?_,?_,?_⟩;.rw[eM,Za8,Ļ,List.sum_nil,Zbm,<-Int.sub_sub];rfl
    .have e1:G++(cl.zip sh).map gZ++((S.take (j+1)).zip (bC w2 (S.take (j+1)))).map gZ=G++(cl.zip sh).map gZ++((S.take j).zip (bC w2 (S.take j))).map gZ++[gZ (S[j],m)]:=by rw[eZ,ë,<-ő];rfl
     have e2:ö ps Mi i++((S.take (j+1)).zip (bC w2 (S.take (j+1)))).map dI++S.drop (j+1)=ö ps Mi i++((S.take j).zip (bC w2 (S.take j))).map dI++[fl S[j] 0,fl S[j] 1,fl S[j] 2,fl S[j] 3-m]::S.drop (j+1):=by rw[eZ,ë,<-ő,ő _ _ (S.drop (j+1))];rfl
     rw[e1,e2];exact W9
    .rw[tj _ lh.2.2.1];exact sP _ _ lI
    .rw[tj _ dq.2.2];exact sP _ _ N1
    .exact(A0.same sP).keep λb z e=>by rw[tj _ λw=>by rw[w,sP _ _ F6]at e;cases e];exact e
   rintro σ Hk⟨ot,oz,pE,rfl,Wk,tS,IQ,tT⟩;rw[N0,ň,List.drop_length,ş,<-IP]at Wk;rw[N0,ň,<-IP,ed];dsimp only;obtain⟨Mk,F7,A1⟩:=id Wk.lka;have lMk:=A1.length_eq;have glen:=g'.len;have lF:((cl.zip sh).map dI).length<=80:=by rw[Õ,Θ];lia
   refine aP λc_ ae=>?_;refine⟨_,O,.inr (.inr (.inl ⟨O,.inr ⟨_,F7⟩⟩)),_,O,lk,lf,Mk.map ĉ,((cl.zip sh).map dI).map ĉ,O,O,lh.2.2.1.symm,F7,tS,?_,?_,λ_=>?_,?_⟩;.rw[õ]at glen;rw[Õ,Õ,sizeLine_eq];lia
   .rw[<-ë];exact yR (((A1.append_right _).map _).nodup_iff.mpr g'.kd)
   .intro w;refine N5 (y:=y) Â Â (λr hr=>?_) ?_ w;.obtain⟨p,hp,rfl⟩:=ó.mp hr;have hm:=(ϻ (show(p.1,p.2)∈_ from hp)).1;have a:=ej _ hm;have a3:=a.n1;exact⟨(wq.yr p.1 hm:),a.n0,by show fl p.1 1<10;lia,a.h0,a.h1⟩
    .rw[gr (f:=dI) (λ_=>rfl) CB];exact wq.nd
   rw[<-ë];have WA:=Wk.put (A1.append_right ((cl.zip sh).map dI));refine ae _ _ ?_;clear ae c_;try dsimp only
   refine fB (λHA=>Wd H HA lk lg ll pE (G++(cl.zip sh).map gZ++(S.zip md).map gZ) L (ö ps Mi i++(S.zip md).map dI++(cl.zip sh).map dI)) WA λHA WA=>?_;refine⟨_,O,.inl ⟨O,_,É.of WA.el⟩,_,O,ll,_,_,O,O,WA.el,?_,?_⟩;.rw[Õ,lL,sizeLine_eq];lia
   have WB:=WA.down (x:=dn X (i+1));rw[ë]at WB;exact CA _ _ ⟨_,_,_,_,_,_,_,_,_,_,_,pE,_,L++[dn X (i+1)],_,O,WB,by rw[õ,lL];rfl,g'⟩
  refine aV ?_;refine⟨_,O,lw,Đ cl,O,.inl (É.of IM),_,O,_,_,O,O,_,O,?_⟩;by_cases hs:(Đ cl).sum<=w1;.rw[ø hs];refine bK ⟨_,O,?_⟩;exact aG (rest _ lw H3 (GD (Š.nn ej) hs) W3 AW oI IM Wx)
  .rw[ħ hs];refine bB ?_;have hok:K40P.OkW (Đ cl):=by
    refine⟨?_,by unfold Đ;rw[Õ];exact Wv,λx hx=>?_⟩;.cases hz:Đ cl with|nil=>rw[hz]at hs;exact absurd AV (by simpa using hs);|cons a l=>rw[ĵ];lia
    .obtain⟨r,hr,rfl⟩:=ó.mp hx;exact⟨(ej r hr).s0,(ej r hr).s1⟩
   refine⟨_,O,_,O,w1,lw,Đ cl,O,IM,hok,AV,Â,λH4 q4 p4 pk s4 nq eq4=>?_⟩;refine aG (rest _ q4 H4 (KN pk Â) (W3.same s4) (s4 _ _ AW) (oI.same s4) eq4 ⟨(aA W3.eg nq).symm,(aA W3.el nq).symm,?_⟩);obtain⟨Mo,e,_⟩:=W3.lka;exact(aA e nq).symm
 .rintro σ Hc⟨x8,x9,mv,mn,kS,gz,gE,gI,oo,ot,oz,xg,G,L,Mi,rfl,W,lL,g⟩;have g:Stg ps X os y 3 Mi G:=g;dsimp only;have g4:=g.g4;have gl:=g.glen;refine⟨_,O,lg,O,⟨_,É.of W.eg⟩,fK G.length (λj ys σ Hd=>À Hc Hd/\(∃o1,σ=[o1])/\∃ads:Ĉ,ys=ads.map V.ref/\∀a∈ads,∃r:WF,Hd a=some (.tup (r.map V.int))/\r.length=4) ⟨À.refl _,⟨_,O⟩,[],O,λ_ h=>(nomatch h)⟩ ų ?_ ?_⟩
  .rintro j ys σ Hd hj hy⟨sd,⟨o1,rfl⟩,ads,rfl,mx⟩;obtain⟨t,ex,et⟩:=W.elg.2 j G[j] (á hj);have e4:=g4 _ (Ė hj);have AU:=et;rw[eQ e4]at et;refine⟨⟨_,_,É.of (sd _ _ W.eg),ex⟩,λv H' y' R hR=>?_⟩;obtain⟨rfl,y'⟩:=y';have hv:=y' _ (É.of (sd _ _ W.eg));rw[ex]at hv;cases hv;refine aG ?_;refine⟨_,O,t,_,3,.int (fl G[j] 3),O,O,Ð.of (sd _ _ et),O,_,_,O,O,_,O,?_⟩;by_cases h:0<fl G[j] 3;.rw[ø h];exact bK ⟨_,O,hR _ _ _ (by rw[õ];show(ads.map V.ref).length+1<=j+1;lia) ⟨sd,⟨_,O⟩,ads++[t],by rw[ë];rfl,λa ha=>(ė.mp ha).elim (mx a) λz=>⟨_,by rw[Ř.mp z];exact sd _ _ AU,e4⟩⟩⟩
   .rw[ħ h];exact bB (hR _ _ _ Â ⟨sd,⟨_,O⟩,ads,O,mx⟩)
  rintro ys σ Hd hy⟨sd,_,ads,rfl,mx⟩;refine⟨⟨_,É.of (sd _ _ W.eg),by rw[W.elg.1];exact Ü _⟩,λD hD=>?_⟩;have s6:=sd.updR (o:=.lst (ads.map V.ref)) hD;have A2:∀a∈ads,upd Hd D (.lst (ads.map V.ref)) a=some (.tup ((gq Hd a).map V.int))/\gq Hd a≠[]:=λa ha=>by obtain⟨r,e,e4⟩:=mx a ha;rw[Bo e];exact⟨À.upd hD _ _ e,λz=>by rw[z]at e4;cases e4⟩
  have eD:=aj (H:=Hd) (a:=D) (o:=.lst (ads.map V.ref));generalize upd Hd D (.lst (ads.map V.ref))=H6 at s6 A2 eD⊢;refine⟨D,ads,gq Hd,O,É.of eD,λa ha=>⟨Ð.of (A2 a ha).1,(A2 a ha).2⟩,λg1 l' WL II pm=>?_⟩;have W7:=(W.same s6).same (À.upd (o:=.lst (l'.map V.ref)) WL);refine⟨_,O,ll,_,O,.inl ⟨É.of W7.el,λtl IJ=>⟨zL,λt ht=>?_⟩⟩⟩;have W8:=(W7.same (À.upd (o:=.tup (L.map V.int)) IJ)).same (À.upd (o:=.tup [.ref g1,.ref tl]) ht);exact q t g1 tl Mi _ W8.k aj W8.lka (nx g)
def YAt(H0:Hp)(l:Addr)(cs ps ss:UV)(H:Hp)(a:Addr)(j:Nat):Prop:=∃g k tl xg xk G K L,H a=some (.tup [.ref g,.ref k,.ref tl])/\H0 g=none/\H0 k=none/\g≠l/\k≠l/\H g=some (.lst xg)/\î H xg G/\H k=some (.lst xk)/\î H xk K/\H tl=some (.tup ((L:WF).map V.int))/\(g≠sysModules/\k≠sysModules)/\(∀r∈G,Š ps r)/\G.length<=240*(j+1)/\ϑ cs ps ss (j+1) K/\L.length=3
theorem YAt.keep(h:YAt H0 l cs ps ss H a j)(k:∀b o,b≠l->H b=some o->H' b=some o)(hl:∃xs,H l=some (.lst xs)):YAt H0 l cs ps ss H' a j:=by
 obtain⟨xs,hl⟩:=hl;obtain⟨g,kk,tl,xg,xk,G,K,L,e1,n1,n2,d1,d2,e2,e3,e4,e5,e6,e7⟩:=h;have nt:∀b z,H b=some (.tup z)->b≠l:=λb z e w=>by rw[w,hl]at e;cases e
 exact⟨g,kk,tl,xg,xk,G,K,L,k _ _ (nt _ _ e1) e1,n1,n2,d1,d2,k _ _ d1 e2,e3.keep λb z e=>k _ _ (nt _ _ e) e,k _ _ d2 e4,e5.keep λb z e=>k _ _ (nt _ _ e) e,k _ _ (nt _ _ e6) e6,e7⟩
inductive Ο(vs:List V)(H:Hp)(Q:VK):Prop|mk:∀bk y ac xc cs ap xp ps ai xs ss,(vs=[.ref bk,.int y])->(H bk=some (.tup [.ref ac,.ref ap,.ref ai]))->(È H ac xc cs)->((∀r∈cs,r.length=3/\∀x∈r,0<=x))->(cs.length<=20)->(0<=y)->(y<cs.length)->(È H ap xp ps)->(ps.length<=10)->((∀r∈ps,ĝ r))->(È H ai xs ss)->(ss.length<=12)->((∀s∈ss,s.length=5))->(un ps ss=none)->(∀l(ts:Ĉ)H',À H H'->H l=none->H' l=some (.lst (ts.map V.ref))->(ts.length:Int)=y+1->(∀j a,ts[j]?=some a->YAt H l cs ps ss H' a j)->Q (.ref l) H')->Ο  vs H Q
def BJ:Sp:=λvs H Q _=>Ο  vs H Q
theorem ό:Ã ["book","year","years","owed","at","gifts","left"] ["book","year"] (aD (top 60)):=ú
theorem Hv(F:æ K "years_given" "years_given" (top 60) f fd)(Tr:mg "range"=none)(c1:â P w K mg base 9 "year_given" ["book","year","owed"] GZ):Ñ P w K mg base å 10 f fd ["book","year"] BJ:=by
 refine F.oq ό λar A outer s H vs Q E hr h=>?_;obtain⟨bk,y,ac,xc,cs,ap,xp,ps,ai,xs,ss,rfl,eb,rc,okc,lc,y0,y1,rp,lp,okp,rs,ls,h5,hu,q⟩:=h;refine⟨_,aC (đ 2 ό.nd (cX ao)) (aC (đ 3 ό.nd (cX ao)) (aC (cF Ł O (bV O Tr (aq (aU bw (pv 1) aB) ao)) (Ô 4 ό.nd) (aC (cV (aH c1 hr (aq (pv 0) (aq (pv 4) (aq (pv 3) ao)))) (bR O (az (Ô 5 ό.nd) (az (Ô 3 ό.nd) (az (Ô 6 ό.nd) aX))))) (aF (cg (fD Β zBb zBa dw (pv 2) (aq (bM (aq (pv 5) (aq (pv 3) (aq (pv 6) ao)))) ao)))))) (aF (aQ (pv 2))))),?_⟩;refine aM (aV ?_);refine⟨zL,λl hl=>?_⟩;refine aG ?_;dsimp only;refine aM (aV ?_);refine⟨zL,λN3 va=>?_⟩;refine aG ?_;dsimp only;have s1:=À.upd (o:=.lst []) hl;have s2:=À.upd (o:=.lst []) va;have WM:N3≠l:=λz=>by rw[z,aj]at va;cases va
 refine fB (λH1=>À H H1/\H1 l=some (.lst [])/\H1 N3=some (.lst [])) ⟨s1.trans s2,s2 _ _ aj,aj⟩ λH1=>?_;rintro⟨k1,υ,WN⟩;refine aM ?_;refine⟨_,O,_,_,O,O,y+1,O,Â,Â,?_⟩;refine cY (lo:=0) (λi σ Hc=>Xe7 λx4 x5 x6 lo xo ow(ts:Ĉ)=>Xa9 (σ=[some (.ref bk),some (.int y),some (.ref l),some (.ref lo),x4,x5,x6]) (À H Hc) (Hc l=some (.lst (ts.map V.ref))) (ts.length=i) ((∀j a,ts[j]?=some a->YAt H l cs ps ss Hc a j)) (lo≠l) (Hc lo=some (.lst xo)) (î Hc xo ow) (ϑ cs ps ss i ow)) ?_ ?_ ?_;.exact⟨none,none,none,N3,[],[],[],O,k1,υ,O,λj a e=>(by simp at e),WM,WN,î.nil,⟨λ_ h=>(nomatch h),λ_ _=>rfl,Ü _⟩⟩
 .rintro i σ Hc hi⟨x4,x5,x6,lo,xo,ow,ts,rfl,k,el,lt,hy,dl,eo,sC,sQ⟩;have lno:=sQ.len;refine aG ?_;have z0:(0:Int)+(i:Int)=i:=Â;rw[z0];refine aM ?_;refine⟨_,O,_,O,_,O,bk,i,lo,ac,xc,cs,ap,xp,ps,ai,xs,ss,xo,ow,O,k _ _ eb,rc.same k,okc,Â,Â,rp.same k,lp,okp,rs.same k,ls,h5,hu,eo,sC,sQ,Â,λt g kk tl xg xk G KK L H2 s2 et ng nk II eg elg gk gl ek gS rS l3 WO=>?_⟩;rw[Ľ]at rS gl;refine⟨t,_,O,Ð.of et,O,_,_,O,_,_,O,_,_,O,O,?_⟩;dsimp only;have k2:=k.trans s2;have ϖ:=s2 _ _ el;have dg:g≠l:=(aA el ng).symm;have dk:kk≠l:=(aA el nk).symm;refine⟨_,O,.inl ⟨O,_,É.of ϖ⟩,_,O,_,O,_,O,zL,λtt xb=>⟨l,_,_,O,O,À.upd xb _ _ ϖ,by rw[Õ,lt,sizeLine_eq];lia,?_⟩⟩;have s3:=À.upd (o:=.tup [.ref g,.ref kk,.ref tl]) xb;have nt:tt≠l:=λz=>by rw[z,ϖ]at xb;cases xb
  have kp:∀{o:HO}b u,b≠l->H2 b=some u->upd (upd H2 tt (.tup [.ref g,.ref kk,.ref tl])) l o b=some u:=λb u n e=>by rw[au n];exact s3 _ _ e
  have ke:∀{o:HO}b z,H2 b=some (.tup z)->upd (upd H2 tt (.tup [.ref g,.ref kk,.ref tl])) l o b=some (.tup z):=λb z e=>kp b _ (λw=>by rw[w,ϖ]at e;cases e) e;refine⟨_,_,_,kk,xk,_,ts++[tt],O,λb o e=>?_,?_,by rw[õ,lt];rfl,λj a e=>?_,dk,kp _ _ dk ek,gS.keep ke,rS⟩;.exact kp _ _ (aA e hl) (k2 _ _ e)
  .rw[aj,ë];rfl
  .by_cases hj:j<ts.length;.rw[zBd hj]at e;exact(hy j a e).keep (λb o n z=>kp _ _ n (s2 _ _ z)) ⟨_,el⟩
   .have N4:j=i:=by have:=(Ķ.mp e).1;rw[õ]at this;simp at this;lia
    subst N4;rw[zBc Â,lt,Nat.sub_self]at e;cases e;exact⟨g,kk,tl,xg,xk,_,_,_,by rw[au nt];exact aj,k.free ng,k.free nk,dg,dk,kp _ _ dg eg,elg.keep ke,kp _ _ dk ek,gS.keep ke,ke _ _ WO,II,gk,gl,rS,l3⟩
 .rintro σ Hc⟨x4,x5,x6,lo,xo,ow,ts,rfl,k,el,lt,hy,dl,eo,sC,sQ⟩;exact⟨_,O,q l ts Hc k hl el (by rw[lt];lia) hy⟩
theorem Hw(hK:X.K=K):Ě X (binaryOp .Add) (Kp K):=by subst hK;exact um
def WA(lk lf:Addr)(cs ps ss:UV)(H:Hp)(a:Addr)(j:Nat):Prop:=∃g tl q xq R,H a=some (.tup [.ref g,.ref tl,.ref q])/\q≠lk/\q≠lf/\H q=some (.lst xq)/\î H xq R/\(∀r∈R,r.length=4/\0<=fl r 3/\fl r 3<=99)/\R.length<=10000/\aK R=aO cs ps ss (j+1) 3
theorem WA.keep(h:WA lk lf cs ps ss H a j)(k:∀b o,b≠lk->b≠lf->H b=some o->H' b=some o)(e1:H lk=some (.dT kv))(e2:H lf=some (.lst xl)):WA lk lf cs ps ss H' a j:=by have tp:∀b z,H b=some (.tup z)->H' b=some (.tup z):=λb z e=>k b _ (λw=>by rw[w,e1]at e;cases e) (λw=>by rw[w,e2]at e;cases e) e;obtain⟨g,tl,q,xq,R,h1,h2,h3,h4,h5,h6⟩:=h;exact⟨g,tl,q,xq,R,tp _ _ h1,h2,h3,k _ _ h2 h3 h4,h5.keep tp,h6⟩
def mQ(M:UV):UV:=M.filter λr=>decide (0<fl r 3)
theorem JT(a b:UV):mQ (a++b)=mQ a++mQ b:=Za7 ..
theorem BK:∀{M:UV},(∀r∈M,0<=fl r 3)->aK (mQ M)=aK M
 |[],_=>rfl|r::M,h=>by
  have ih:=BK λq hq=>h q (.tail _ hq);have h0:=h r (.head _);have es:aK (r::M)=fl r 3+aK M:=O;rw[es,<-ih];unfold mQ;by_cases hp:0<fl r 3;.rw[zBg (p:=λr=>decide (0<fl r 3)) (ø hp)];rfl
  .rw[zBf (p:=λr=>decide (0<fl r 3)) (by rw[č];exact hp)];lia
theorem Lk.all{cs ps ss M:UV}(okp:∀r∈ps,ĝ r)(g:Lk cs ps ss y M):aK M=aO cs ps ss y 3:=by rw[jw λr hr=>by obtain⟨p,_,ep,op⟩:=fY okp (g.ok r hr).2.1 (g.ok r hr).2.2.1;unfold aY;rw[ep];exact op.2.2.1,g.sm 0 Ù,g.sm 1 Ù,g.sm 2 Ù];show _=0+oS cs ps ss y 0+oS cs ps ss y 1+oS cs ps ss y 2;rw[ϵ]
theorem ģ.butL{f:Int->Int->Int->Int}(g:ģ fo H0 H dm f b kvs)(k:∀b o,b≠lf->H b=some o->H' b=some o)(n0:H0 lf=none)(el:H lf=some (.lst xl)):ģ fo H0 H' dm f b kvs:=by
 have nd:∀n y d,cQ kvs (ky n y)=some (.ref d)->d≠lf:=λn y d h z=>by
  by_cases hd:dm n y;.obtain⟨d',kv,e1,e2,_⟩:=g.g n y hd;rw[h]at e1;cases e1;rw[z,el]at e2;cases e2
  .rw[g.no n y hd]at h;cases h
 have nf:fo≠lf:=λz=>by have:=g.e;rw[z,el]at this;cases this
 exact⟨λb o e=>k _ _ (aA e n0) (g.sm _ _ e),g.nf,k _ _ nf g.e,λn y h=>by obtain⟨d,kv,e1,e2,r⟩:=g.g n y h;exact⟨d,kv,e1,k _ _ (nd n y d e1) e2,r⟩,g.no,g.i,λn y d h=>by obtain⟨e1,e2,o',e3⟩:=g.fr n y d h;exact⟨e1,e2,o',k _ _ (nd n y d h) e3⟩⟩
theorem JV{M:UV}{r:WF}(e:H d=some (.frz o (.dT (M.map ĉ))))(nd:(M.map Ë).Nodup)(hr:r∈M)(eb:H b=some (.tup ((Ë r).map V.int))):Ĕ H d (.ref b) (some (.int (fl r 3))):=by have:=qR (yR nd) (ó.mpr ⟨r,hr,O⟩);rw[<-this];exact .inr ⟨_,_,b,.inr ⟨o,e⟩,O,by rw[eb,ĳ];rfl,rfl⟩
inductive ϛ(vs:List V)(H:Hp)(Q:VK):Prop|mk:∀ac xc cs ap xp ps ai xs ss,(vs=[.ref ac,.ref ap,.ref ai])->(È H ac xc cs)->((∀r∈cs,r.length=3/\∀x∈r,0<=x))->(cs.length<=20)->(È H ap xp ps)->(ps.length<=10)->((∀r∈ps,ĝ r))->(È H ai xs ss)->(ss.length<=12)->((∀s∈ss,s.length=5))->(un ps ss=none)->(∀l lk(ts:Ĉ)H',À H H'->H l=none->H' l=some (.lst (ts.map V.ref))->ts.length=cs.length->(∀j a,ts[j]?=some a->WA lk l cs ps ss H' a j)->Q (.ref l) H')->ϛ  vs H Q
def Hx:Sp:=λvs H Q _=>ϛ  vs H Q
theorem QX:([ω,AAu]:ð).Nodup:=by decide+kernel
theorem Ŷ:Ã [AAt,ć,ſ,ŀ,AAu,Ε,Į,ABc,"_law_gone","_law_down","_law_owing"] [AAt,ć,ſ] (aD (top 90)):=ú
theorem JW(F:æ K "_law_walk" "_law_walk" (top 90) f fd)(Te:mg "enumerate"=none)(To:mg "sorted"=none)(c1:â P w K mg base 2 ABb [ć,ſ] pH)(c2:â P w K mg base 2 "_law_year" [ć,ŀ,AAu,Į,ABc] By):Ñ P w K mg base å 3 f fd [AAt,ć,ſ] Hx:=by
 refine F.oq Ŷ λar A outer s H vs Q E hr h=>?_;obtain⟨ac,xc,cs,ap,xp,ps,ai,xs,ss,rfl,rc,okc,lc,rp,lp,okp,rs,ls,h5,hu,q⟩:=h;refine K40P.ok_b (aN ⟨cV (bM (aq (pX bJ (aH c1 hr (aq (pv 1) (aq (pv 2) ao))) aB) (aq qj (aq (cX ao) ao)))) (bR O (az (Ô 3 Ŷ.nd) (az (bF (i:=4) Ŷ.nd O (Or.inr O)) (az (Ô 5 Ŷ.nd) aX))))⟩ (aN ⟨cF Ł O (ZT.pi_enum true O Te (aq (pv 0) ao)) (bR O (az (Ô 6 Ŷ.nd) (az (Ô 7 Ŷ.nd) aX))) (jl (aN ⟨cV (aH c2 hr (aq (pv 1) (aq (pv 3) (aq (pv 4) (aq (pv 6) (aq (pv 7) ao)))))) (bR O (az (Ô 8 Ŷ.nd) (az (Ô 9 Ŷ.nd) aX)))⟩ (aN (fM 10 Ŷ.nd ⟨aJ dZ O To è (aq (G6 (bz [ω,AAu] [none,some 4] O (An (pv 4)) (λC fp Á s₂ Ï=>⟨Ô 0 QX,gF (bu lq (gG (fO hr) (pv 1) (pv 0) (λ_ _=>rfl)) aB (bj _)),aU (Hw (K:=K) O) (pv 0) (bM (aq (gG (fO hr) (pv 1) (pv 0) (λ_ _=>rfl)) ao))⟩) (λC=>cI trivial) ⟨O,O,O,O⟩)) ao)⟩) (cj ⟨cg (fD Β zBb zBa dw (pv 5) (aq (bM (aq (pv 8) (aq (pv 9) (aq (pv 10) ao)))) ao))⟩))))⟩ (cj (fU ⟨pv 5⟩)))) ?_;refine aP λc_ ae=>?_;refine⟨_,O,_,O,ap,xp,ps,ai,xs,ss,O,rp,lp,okp,rs,Â,h5,λtt fo H1 s1 IT nK=>⟨tt,_,0,.ref fo,O,O,Ð.of IT,O,λlk qr=>⟨zL,λlf kq=>⟨zL,λt3 RY=>⟨t3,_,O,Ð.of aj,O,_,_,O,_,_,O,_,_,O,O,?_⟩⟩⟩⟩⟩;obtain⟨b,kvs,dt⟩:=nK hu;have dt:ģ fo H H1 (Ź ps) (qY ps ss) b kvs:=dt;have u2:=À.upd (o:=.dT []) qr;have u3:=À.upd (o:=.lst []) kq;have u4:=À.upd (o:=.tup [.ref fo,.ref lk,.ref lf]) RY;have tj:H lk=none:=s1.free qr;have FX:H lf=none:=(s1.trans u2).free kq;have nf:fo≠lk:=aA dt.e qr;have lh:lf≠lk:=λz=>by rw[z,aj]at kq;cases kq
 refine ae _ _ ?_;clear ae c_;try dsimp only
 refine fB (λH4=>À H H4/\H4 lk=some (.dT (([]:UV).map ĉ))/\H4 lf=some (.lst (([]:Ĉ).map V.ref))/\ģ fo H H4 (Ź ps) (qY ps ss) b kvs) ⟨((s1.trans u2).trans u3).trans u4,u4 _ _ (u3 _ _ aj),u4 _ _ aj,((dt.same u2).same u3).same u4⟩ λH4=>?_;rintro⟨S4,N9,Of,WQ⟩;clear dt u2 u3 u4 qr kq RY IT nK s1;refine aM ?_;refine⟨_,O,ac,xc,O,Ð.of (S4 _ _ rc.e),?_⟩;refine ZT.for_enum true (xs:=xc) (λi σ Hc=>Xe7 λx6 x7 x8 x9 mv M(ts:Ĉ)=>Xa8 (σ=[some (.ref ac),some (.ref ap),some (.ref ai),some (.ref fo),some (.ref lk),some (.ref lf),x6,x7,x8,x9,mv]) (À H Hc) (ō Hc lk M) (Lk cs ps ss i M) (ģ fo H Hc (Ź ps) (qY ps ss) b kvs) (Hc lf=some (.lst (ts.map V.ref))) (ts.length=i) (∀j a,ts[j]?=some a->WA lk lf cs ps ss Hc a j)) ?_ ?_ ?_ ?_;.exact⟨none,none,none,none,none,[],[],O,S4,⟨[],N9,List.Perm.refl _⟩,⟨List.nodup_nil,λr hr=>(by cases hr),λr hr=>(by cases hr),λ_ _=>rfl,Ü _⟩,WQ,Of,O,λj a e=>(by simp at e)⟩
 .rintro i σ Hc hi⟨x6,x7,x8,x9,mv,M,ts,rfl,k,la,FV,dt,tI,lt,hw⟩;exact Ð.of (k _ _ rc.e)
 .rintro i x σ Hc T0 hx⟨x6,x7,x8,x9,mv,M,ts,rfl,k,la,FV,dt,tI,lt,hw⟩nT;have hi:i<cs.length:=by have:=(Ķ.mp hx).1;rw[rc.l]at this;exact this
  obtain⟨tc,gL,nX⟩:=rc.g i cs[i] (á hi);have:x=.ref tc:=by rw[hx]at gL;exact œ gL
  subst this;have ec:cs.getD i []=cs[i]:=ß hi;have sT:=À.upd (o:=.tup [V.int i,V.ref tc]) nT;have k1:=k.trans sT;have IU:=la.same sT;have qB:=dt.same sT;have ua:=sT _ _ tI;obtain⟨Mo1,ui,_⟩:=id IU;have AV:∀j a,ts[j]?=some a->WA lk lf cs ps ss (upd Hc T0 (.tup [V.int i,V.ref tc])) a j:=λj a e=>by obtain⟨Mo,gS,_⟩:=la;exact(hw j a e).keep (λb o _ _ e=>sT _ _ e) gS tI
  have eT:=aj (H:=Hc) (a:=T0) (o:=.tup [V.int i,V.ref tc]);generalize upd Hc T0 (.tup [V.int i,V.ref tc])=H1 at k1 IU qB ua ui AV eT⊢;clear hw dt la tI sT k nT;refine⟨T0,_,O,Ð.of eT,O,_,_,O,_,_,O,O,?_⟩;refine wW λDe CA=>?_;try dsimp only
  refine aP λc_ ae=>?_;refine⟨_,O,_,O,_,O,_,O,_,O,ap,xp,ps,fo,H,b,kvs,lk,M,i,tc,cs,ss,O,rp.same k1,lp,okp,qB,nf,tj,IU,FV,Â,by rw[ec];exact k1 _ _ nX,by rw[ec];exact(okc _ (Ė hi)).1,by rw[ec];exact(okc _ (Ė hi)).2,hu,h5,λt g tl M' H2 kb et WR xt=>⟨t,_,O,Ð.of et,O,_,_,O,_,_,O,O,?_⟩⟩;have k2:À H H2:=λb o e=>kb _ _ (aA e tj) (k1 _ _ e);have WS:=qB.but kb nf tj ui;have uj:=kb _ _ lh ua;have WT:∀j a,ts[j]?=some a->WA lk lf cs ps ss H2 a j:=λj a e=>(AV j a e).keep (λb o n _ e=>kb _ _ n e) ui ua;clear AV ua ui qB IU kb k1;refine ae _ _ ?_;clear ae c_;try dsimp only
  obtain⟨Mo,gS,mw⟩:=id WR;have kd:(Mo.map Ë).Nodup:=(mw.map _).nodup_iff.mpr xt.kd;have WE:Mo.length<=10000:=by have:=xt.len;have:=mw.length_eq;lia
  refine aP λc_ ae=>?_;refine aV ?_;refine⟨lk,_,gS,λo=>?_⟩;have ez:=aj (H:=H2) (a:=lk) (o:=.frz o (.dT (Mo.map ĉ)));have sz:∀b u,b≠lk->H2 b=some u->upd H2 lk (.frz o (.dT (Mo.map ĉ))) b=some u:=λb u n e=>by rw[au n];exact e
  generalize upd H2 lk (.frz o (.dT (Mo.map ĉ)))=Hz at ez sz⊢;refine⟨_,O,lk,o,_,O,ez,fK Mo.length (λj ys σ Hd=>À Hz Hd/\(∃o1,σ=[o1,some (.ref lk)])/\î Hd ys (mQ (Mo.take j))) ⟨À.refl _,⟨_,O⟩,î.nil⟩ ų ?_ ?_⟩
  .rintro j ys σ Hd hj hy⟨sd,⟨o1,rfl⟩,lP⟩;have F3:=xt.ok Mo[j] (mw.mem_iff.mp (Ė hj));have dE:mQ (Mo.take (j+1))=mQ (Mo.take j)++(if 0<fl Mo[j] 3 then[Mo[j]]else[]):=by
    rw[ĺ,á hj,show(some Mo[j]).toList=[Mo[j]]from O,JT];congr 1;unfold mQ;by_cases h:0<fl Mo[j] 3;.rw[Ì h,zBg (p:=λ(r:WF)=>decide (0<fl r 3)) (ø h)];rfl
    .rw[Ê h,zBf (p:=λ(r:WF)=>decide (0<fl r 3)) (by rw[č];exact h)];rfl
   refine⟨⟨sd _ _ ez,by rw[Õ];exact hj⟩,λx H' yv R hR=>?_⟩;obtain⟨rfl,bb,kk,vv,rfl,F4,tN⟩:=yv;rw[Ą,á hj]at F4;cases F4;have tN:H' bb=some (.tup ((Ë Mo[j]).map V.int)):=tN;have gt:=JV (sd _ _ ez) kd (Ė hj) tN;refine aG ?_;refine⟨_,O,_,O,lk,_,O,gt,_,_,O,O,_,O,?_⟩;by_cases h:0<fl Mo[j] 3
   .rw[ø h];refine bK ⟨_,O,_,O,_,O,lk,_,O,gt,zL,λt1 qA=>?_⟩;have s1:=À.upd (o:=.tup [V.int (fl Mo[j] 3)]) qA;refine⟨bb,t1,_,_,O,O,Ð.of (s1 _ _ tN),Ð.of aj,by unfold Ë;simp,(by show 3+1<=sizeLine;decide),λz=>absurd z Ö,λ_ t2 wb=>hR _ _ _ (by rw[õ];show ys.length+1<=j+1;lia) ⟨(sd.trans s1).updR wb,⟨_,O⟩,?_⟩⟩;rw[dE,Ì h];refine((lP.same s1).same (À.upd wb)).app (î.one ?_);rw[aj];conv=>rhs;rw[eQ F3.1]
    rfl
   .rw[ħ h];refine bB (hR _ _ _ Â ⟨sd,⟨_,O⟩,?_⟩);rw[dE,Ê h,ş];exact lP
  rintro ys σ Hd hy⟨sd,_,lP⟩;rw[ň]at lP;refine⟨⟨sd _ _ ez,by rw[Õ];exact Ü _⟩,λD hD=>⟨À.upd hD _ _ (sd _ _ ez),?_⟩⟩;have nD:D≠lk:=λz=>by rw[z,sd _ _ ez]at hD;cases hD
  have S6:À H2 (upd (upd Hd D (.lst ys)) lk (.dT (Mo.map ĉ))):=λb u e=>by
   by_cases hb:b=lk;.subst hb;rw[gS]at e;cases e;exact aj
   .rw[au hb];exact À.upd hD _ _ (sd _ _ (sz _ _ hb e))
  have eD:upd (upd Hd D (.lst ys)) lk (.dT (Mo.map ĉ)) D=some (.lst ys):=by rw[au nD];exact aj
  have pj:upd Hd D (.lst ys) lk=some (.frz o (.dT (Mo.map ĉ))):=À.upd hD _ _ (sd _ _ ez);have fm:î (upd (upd Hd D (.lst ys)) lk (.dT (Mo.map ĉ))) ys (mQ Mo):=(lP.same (À.upd hD)).keep λb z e=>by rw[au λw=>by rw[w,pj]at e;cases e];exact e
  generalize upd (upd Hd D (.lst ys)) lk (.dT (Mo.map ĉ))=H6 at S6 eD fm⊢;clear lP sd sz ez hD pj;obtain⟨ads,ey,u7,mx⟩:=mK fm;subst ey;refine⟨D,ads,gq H6,O,É.of eD,λa ha=>⟨Ð.of (mx a ha),λz=>?_⟩,λq' l' hq nqs pm=>?_⟩
  .have:gq H6 a∈mQ Mo:=by rw[u7];exact List.mem_map_of_mem ha
   have:=(xt.ok _ (mw.mem_iff.mp (ρ.mp this).1)).1;rw[z]at this;cases this
  have S7:=S6.updR (o:=.lst (l'.map V.ref)) hq;refine aG ?_;refine ae _ _ ?_;clear ae c_;try dsimp only
  have A3:î (upd H6 q' (.lst (l'.map V.ref))) (l'.map V.ref) (l'.map (gq H6)):=vg λa ha=>À.upd hq _ _ (mx a (pm.mem_iff.mp ha));have pR:(l'.map (gq H6)).Perm (mQ Mo):=by rw[u7];exact pm.map _
  have sR:aK (l'.map (gq H6))=aO cs ps ss (i+1) 3:=by rw[show aK (l'.map (gq H6))=aK (mQ Mo)from vf (pR.map _),BK λr hr=>(xt.ok r (mw.mem_iff.mp hr)).2.2.2.1,show aK Mo=aK M' from vf (mw.map _),xt.all okp]
  have lR:(l'.map (gq H6)).length<=10000:=by have:=List.length_filter_le (λr=>decide (0<fl r 3)) Mo;rw[pR.length_eq];unfold mQ;lia
  have oR:∀r∈l'.map (gq H6),r.length=4/\0<=fl r 3/\fl r 3<=99:=λr hr=>by have:=xt.ok r (mw.mem_iff.mp (ρ.mp (pR.mem_iff.mp hr)).1);exact⟨this.1,this.2.2.2⟩
  generalize l'.map (gq H6)=R at A3 sR lR oR;have RZ:=S6.free hq;refine fB (λH7=>À H2 H7/\H7 q'=some (.lst (l'.map V.ref))/\î H7 (l'.map V.ref) R) ⟨S7,aj,A3⟩ λH7=>?_;rintro⟨S7,DA,Oy⟩;clear mx u7 fm eD S6 hq pm A3 pR;have Sa:q'≠lf:=(aA uj RZ).symm;have WU:q'≠lk:=(aA gS RZ).symm;have fN:=S7 _ _ uj;have WV:=S7 _ _ gS;refine⟨_,O,.inl ⟨O,_,É.of fN⟩,_,O,_,O,_,O,zL,λt8 IX=>⟨lf,ts.map V.ref,.ref t8,O,O,À.upd IX _ _ fN,by rw[Õ,lt,sizeLine_eq];lia,?_⟩⟩;have u8:=À.upd (o:=.tup [.ref g,.ref tl,.ref q']) IX;have S8:=S7.trans u8;have WW:t8≠lf:=λz=>by rw[z,fN]at IX;cases IX
  have keep:∀{o:HO}b u,b≠lf->H2 b=some u->upd (upd H7 t8 (.tup [.ref g,.ref tl,.ref q'])) lf o b=some u:=λ{o}b u n e=>by rw[au n];exact S8 _ _ e
  refine CA _ _ ⟨_,_,_,_,_,M',ts++[t8],O,λb o e=>keep _ _ (aA e FX) (k2 _ _ e),⟨Mo,keep _ _ lh.symm gS,mw⟩,xt,?_,?_,by rw[õ,lt];rfl,λj a e=>?_⟩;.exact WS.butL (λb o n e=>keep _ _ n e) FX uj
  .rw[aj,ë];rfl
  .by_cases hj:j<ts.length;.rw[zBd hj]at e;exact(WT j a e).keep (λb o _ n e=>keep _ _ n e) gS uj
   .have N4:j=i:=by have:=(Ķ.mp e).1;rw[õ]at this;simp at this;lia
    subst N4;rw[zBc Â,lt,Nat.sub_self]at e;cases e;have kt:∀{o:HO}b z,H7 b=some (.tup z)->upd (upd H7 t8 (.tup [.ref g,.ref tl,.ref q'])) lf o b=some (.tup z):=λ{o}b z e=>by rw[au λw=>by rw[w,fN]at e;cases e];exact u8 _ _ e
    refine⟨g,tl,q',_,R,by rw[au WW];exact aj,WU,Sa,?_,Oy.keep kt,oR,lR,sR⟩;rw[au Sa];exact u8 _ _ DA
 .rintro σ Hc⟨x6,x7,x8,x9,mv,M,ts,rfl,k,la,FV,dt,tI,lt,hw⟩;rw[show xc.length=cs.length from rc.l]at lt;exact⟨_,O,q lf lk ts Hc k FX tI lt hw⟩
def okC(r:WF):Prop:=r.length=3/\∀x∈r,0<=x/\x<1000
def PL(st:Addr)(H:Hp)(n:Int)(v:V)(H':Hp):Prop:=∃cs,ţ st H H'/\gH H' st/\Ó (λ_=>False) H' v (bY cs)/\1<=cs.length/\(cs.length:Int)<=n/\∀r∈cs,okC r
inductive ů(vs:List V)(H:Hp)(Q:VK):Prop|mk:∀st n,(vs=[.ref st,.int n])->(gH H st)->(1<=n)->(n<=20)->(∀v H',PL st H n v H'->Q v H')->ů  vs H Q
def xJ:Sp:=λvs H Q _=>ů  vs H Q
inductive ũ(vs:List V)(H:Hp)(Q:VK):Prop|mk:∀st ap xp ps n,(vs=[.ref st,.ref ap,.int n])->(gH H st)->(È H ap xp ps)->(ps.length<=10)->((∀r∈ps,ĝ r))->(0<=n)->(n<=12)->(∀a xs ss H',Dr st H H'->È H' a xs ss->(ss.length:Int)<=n->(∀s∈ss,smR s)->un ps ss=none->Q (.ref a) H')->ũ  vs H Q
def xK:Sp:=λvs H Q _=>ũ  vs H Q
inductive ε(vs:List V)(H:Hp)(Q:VK):Prop|mk:∀(st:Addr)y m k,(vs=[.ref st,.int y,.int m,.int k])->(gH H st)->(1<=y)->(y<=20)->(1<=m)->(m<=10)->(0<=k)->(k<=12)->(∀a ac xc cs ap xp ps ai xs ss H',Dr st H H'->H' a=some (.tup [.ref ac,.ref ap,.ref ai])->È H' ac xc cs->1<=cs.length->(cs.length:Int)<=y->(∀r∈cs,okC r)->È H' ap xp ps->ps.length<=10->(∀r∈ps,ĝ r)->È H' ai xs ss->ss.length<=12->(∀s∈ss,smR s)->un ps ss=none->Q (.ref a) H')->ε  vs H Q
def BL:Sp:=λvs H Q _=>ε  vs H Q
theorem DY(F:æ K "_law_clips" "_law_clips" (top 78) f fd)(T:Mg mg)(Tr:mg "range"=none)(c1:â P w K mg base 1 AAs [ă,AAo] jo):Ñ P w K mg base å 2 f fd [ă,Ų] xJ:=by
 refine F.oq Z0f λar A outer s H vs Q E hr h=>?_;obtain⟨st,n,rfl,dS,n1,n2,q⟩:=h;refine⟨_,aC (mY (i:=2) Z0f.nd O (Or.inr O) (pX bO (cX (lJ (by repeat constructor))) (aH c1 hr (aq (pv 0) (aq aB ao))))) (aC (đ 3 Z0f.nd (cX ao)) (aC (cF Ł O (bV O Tr (aq (aU bw aB (aH c1 hr (aq (pv 0) (aq (pv 1) ao)))) ao)) (Ô 4 Z0f.nd) (aF (cg (fD Β zBb zBa dw (pv 3) (aq (cH cB O T.tuple Þ (aq (bz [ϊ,ă,"_law_wide"] [none,some 0,some 2] O (bV O Tr (aq aB ao)) (λC fp Á s₂ Ï=>⟨Ô 0 QG,bx,aH c1 hr (aq (pv 1) (aq (pX (iM (K:=K) O) (cX (aq (pv 2) (aq aB (aq (pv 2) (aq aB ao))))) (aH c1 hr (aq (pv 1) (aq aB ao)))) ao))⟩) (λC=>cI (cI trivial)) ⟨O,O,O,O⟩) ao)) ao))))) (aF (aQ (cH cB O T.tuple Þ (aq (pv 3) ao)))))),?_⟩;obtain⟨a,b,es,h1,h2,h3⟩:=id dS;refine aP λc_ ae=>?_;refine aV ?_;refine⟨zL,λp hp=>?_⟩;have np:p≠st:=λz=>by rw[z,es]at hp;cases hp
 have se:∀o,upd H p o st=some (.lst [.int a,.int b]):=λo=>by rw[au np.symm];exact es
 refine⟨_,O,st,4,O,⟨a,b,se _,h1,h2,h3⟩,by decide,by decide,λr a1 b1 r0 r1 g1 g2 g3=>?_⟩;obtain⟨wd,hw,w1,w2⟩:∃wd:Int,ĭ (([4,14,45,1000]:WF).map V.int) r=some (.int wd)/\1<=wd/\wd<=1000:=by
  have:r=0\/r=1\/r=2\/r=3:=Â;rcases this with rfl|rfl|rfl|rfl;.exact⟨4,O,by decide,by decide⟩
  .exact⟨14,O,by decide,by decide⟩
  .exact⟨45,O,by decide,by decide⟩
  .exact⟨1000,O,by decide,by decide⟩
 refine⟨p,_,r,.int wd,O,O,É.of (by rw[au np];exact aj),hw,?_⟩;refine aG ?_;refine ae _ _ ?_;clear ae c_;try dsimp only
 refine aP λc_ ae=>?_;refine aV ?_;refine⟨zL,λp3 iX=>?_⟩;refine aG ?_;refine ae _ _ ?_;clear ae c_;try dsimp only
 refine aM ?_;have js:p3≠st:=λz=>by rw[z,aj]at iX;cases iX
 refine⟨_,O,_,O,st,n,O,⟨a1,b1,by rw[au js.symm];exact aj,g1,g2,g3⟩,n1,Â,λr2 a2 b2 x0 x1 y1 y2 y3=>⟨_,_,O,O,1+r2,O,Â,Â,?_⟩⟩;have xw:∀b' o',H b'=some o'->b'≠st->b'≠p/\b'≠p3:=λb' o' e' ne=>by have z:b'≠p:=aA e' hp;refine⟨z,λz2=>?_⟩;rw[<-z2,au ne,au z,e']at iX;cases iX
 refine cY (lo:=0) (n:=(1+r2).toNat) (λi σ H'=>∃xs,∃ds:UV,∃x4,σ=[some (.ref st),some (.int n),some (.int wd),some (.ref p3),x4]/\ţ st H H'/\gH H' st/\H' p3=some (.lst xs)/\Å (λ_=>False) H' xs (ds.map cN)/\(∀r∈ds,okC r)/\ds.length=i/\xs.length=i) ?_ ?_ ?_
 .refine⟨[],[],none,O,λb' o' e' ne=>?_,⟨a2,b2,aj,y1,y2,y3⟩,?_,.nil,(λr hr=>by cases hr),O,O⟩;.obtain⟨k1,k2⟩:=xw b' o' e' ne;rw[au ne,au k2,au ne,au k1];exact e'
  .rw[au js];exact aj
 .rintro i σ H' hi⟨xs,ds,x4,rfl,bt,sa,e3,ts,tm,hs,hl⟩;refine aG ?_;refine⟨_,O,.inl ⟨O,_,É.of e3⟩,3,O,by decide,by decide,?_⟩;refine⟨λj m ys Sb H2=>m=3-j/\j<=3/\∃is x0,ys=is.map V.int/\is.length=j/\(∀v∈is,0<=v/\v<1000)/\Sb=[x0,some (.ref st),some (.int wd)]/\ţ st H' H2/\gH H2 st,⟨3,O,by decide,[],none,rfl,rfl,(λ_ h=>nomatch h),rfl,λ_ _ e _=>e,sa⟩,?_⟩;rintro j m ys Sb H2⟨rfl,hj,is,x0,rfl,EO,hv,rfl,IY,Sd⟩;refine⟨by rw[Õ,EO,sizeLine_eq];lia,?_⟩;by_cases aI:j<3
  .refine .inr ⟨aI,λx H3 y=>?_⟩;obtain⟨e5,e6⟩:=y;subst e5;subst e6;refine aG ?_;obtain⟨a5,b5,e7,k1,k2,k3⟩:=Sd;refine⟨_,O,_,O,_,O,zL,λp4 A4=>?_⟩;have Se:p4≠st:=λz=>by rw[z,e7]at A4;cases A4
   refine⟨_,O,st,4,O,⟨a5,b5,by rw[au Se.symm];exact e7,k1,k2,k3⟩,by decide,by decide,λr3 a6 b6 z0 z1 l1 l2 l3=>?_⟩;obtain⟨wn,WX,u1,u2⟩:∃wn:Int,ĭ [V.int wd,V.int 1,V.int wd,V.int 3] r3=some (.int wn)/\1<=wn/\wn<=1000:=by
    have:r3=0\/r3=1\/r3=2\/r3=3:=Â;rcases this with rfl|rfl|rfl|rfl;.exact⟨wd,O,w1,w2⟩
    .exact⟨1,O,by decide,by decide⟩
    .exact⟨wd,O,w1,w2⟩
    .exact⟨3,O,by decide,by decide⟩
   refine⟨p4,_,r3,.int wn,O,O,É.of (by rw[au Se];exact aj),WX,st,wn,O,⟨a6,b6,aj,l1,l2,l3⟩,u1,Â,λr4 a7 b7 v0 v1 m1 m2 m3=>?_⟩;refine⟨3-(j+1),Â,O,aI,is++[r4],_,by rw[ë];rfl,by rw[õ,EO];rfl,λv WY=>?_,O,λb' o' e' ne=>?_,⟨a7,b7,aj,m1,m2,m3⟩⟩
   .rcases ė.mp WY with z|z;.exact hv v z
    .rw[Ř.mp z];lia
   .have e8:=IY b' o' e' ne;rw[au ne,au ne,au (aA e8 A4)];exact e8
  .have e5:j=3:=Â;subst e5;have e9:=IY _ _ e3 js;refine .inl ⟨Ü _,λD hD=>⟨D,_,O,.inl ⟨É.of aj,λl fI=>?_⟩⟩⟩;have sm:À H2 (upd (upd H2 D (.lst (is.map V.int))) l (.tup (is.map V.int))):=(À.upd hD).updR fI;refine⟨p3,xs,.ref l,O,O,sm _ _ e9,by rw[hl,sizeLine_eq];lia,?_⟩;have E3:l≠p3:=λz=>by rw[z,À.upd hD _ _ e9]at fI;cases fI
   have tk:∀c l',(upd (upd H2 D (.lst (is.map V.int))) l (.tup (is.map V.int))) c=some (.tup l')->(upd (upd (upd H2 D (.lst (is.map V.int))) l (.tup (is.map V.int))) p3 (.lst (xs++[.ref l]))) c=some (.tup l'):=λc l' e'=>by
    have:c≠p3:=λz=>by rw[z,sm _ _ e9]at e';cases e'
    rw[au this];exact e'
   refine⟨xs++[.ref l],ds++[is],_,O,λb' o' e' ne=>?_,?_,aj,?_,?_,?_,by rw[õ,hl];rfl⟩;.have k4:=(xw b' o' e' ne).2;rw[au k4];exact sm _ _ (IY _ _ (bt b' o' e' ne) ne)
   .obtain⟨a5,b5,e7,k1,k2,k3⟩:=Sd;exact⟨a5,b5,by rw[au js.symm];exact sm _ _ e7,k1,k2,k3⟩
   .rw[ë];refine Å.append ?_ (.cons (.tup (by rw[au E3];exact aj) (Å.ints is)) .nil);have WZ:Å (λ_=>False) H2 xs (ds.map cN):=ts.keep (λc l' e'=>IY c _ e' (λz=>by obtain⟨a5,b5,e7,_⟩:=sa;rw[z,e7]at e';cases e')) (λ_ _ z _=>z.elim) λ_ _ z _=>z.elim;exact(WZ.same sm).keep tk (λ_ _ z _=>z.elim) λ_ _ z _=>z.elim
   .intro r hr;rcases ė.mp hr with z|z;.exact tm r z
    .rw[Ř.mp z];exact⟨EO,hv⟩
   .rw[õ,hs];rfl
 .rintro σ H'⟨xs,ds,x4,rfl,bt,sa,e3,ts,tm,hs,hl⟩;refine⟨_,O,p3,xs,O,.inl ⟨É.of e3,λl gy=>q _ _ ⟨ds,λb' o' e' ne=>?_,?_,.tup aj ?_,Â,Â,tm⟩⟩⟩;.rw[au (aA (bt b' o' e' ne) gy)];exact bt b' o' e' ne
  .obtain⟨a',b',e',j1,j2,j3⟩:=sa;exact⟨a',b',by rw[au (aA e' gy)];exact e',j1,j2,j3⟩
  .exact(ts.same (À.upd gy)).keep (λ_ _ e=>e) (λ_ _ z _=>z.elim) λ_ _ z _=>z.elim
theorem Hy(h:decide (unV u=.non)=true):u=none:=by have:=Η h;cases u with|none=>rfl;|some n=>cases this
theorem Ea(F:æ K "_law_sales" "_law_sales" (top 85) f fd)(T:Mg mg)(Tr:mg "range"=none)(c1:â P w K mg base 1 AAs [ă,AAo] jo)(c2:â P w K mg base 2 ABk [ă,ć] KY)(c3:â P w K mg base 2 ABb [ć,ſ] Hl):Ñ P w K mg base å 3 f fd [ă,ć,Ų] xK:=by
 refine F.oq Λ λar A outer s H vs Q E hr h=>?_;obtain⟨st,ap,xp,ps,n,rfl,dS,rp,lp,okp,n0,n1,q⟩:=h;refine⟨_,aC (đ 3 Λ.nd (Ab bN)) (aC (cF Ł O (bV O Tr (aq (aU iu (aH c1 hr (aq (pv 0) (aq (aU bw (pv 2) aB) ao))) (cH Cq O T.int ŗ (aq (ik lq (aJ bQ O T.len PySem.boot_len (aq (pv 1) ao)) aB (bj _)) ao))) ao)) (Ô 4 Λ.nd) (aC (đ 5 Λ.nd (aU Bv (pv 3) (bM (aq (aH c2 hr (aq (pv 0) (aq (pv 1) ao))) ao)))) (aF (cO (bu Et (pX bJ (aH c3 hr (aq (pv 1) (aq (pv 5) ao))) aB) pO (bj _)) (aF (đ 3 Λ.nd (pv 5))) bD)))) (aF (aQ (pv 3)))),?_⟩;have g0:Dr st H H:=⟨ţ.refl,dS⟩;refine aP λc_ ae=>?_;refine aV ?_;refine⟨zL,λe0 Sf=>?_⟩;have g1:=g0.new (o:=.tup []) Sf;have r1:È (upd H e0 (.tup [])) e0 [] []:=⟨aj,O,λi r e=>by simp at e⟩;have CM:=rp.same (À.upd (o:=.tup []) Sf);generalize upd H e0 (.tup [])=H1 at g1 r1 CM⊢;refine aG ?_;refine ae _ _ ?_;clear ae c_;try dsimp only
 refine aM ?_;refine⟨_,O,_,O,_,_,O,O,st,n+1,O,g1.sa,Â,Â,λr a1 b1 k0 kn k1 k2 k3=>?_⟩;have g2:=g1.take k1 k2 k3;have OA:=(Dr.take ⟨ţ.refl,g1.sa⟩ k1 k2 k3:Dr st H1 _).rows g1.sa CM;have r2:=(Dr.take ⟨ţ.refl,g1.sa⟩ k1 k2 k3:Dr st H1 _).rows g1.sa r1;generalize upd H1 st (.lst [.int a1,.int b1])=H2 at g2 OA r2⊢;refine⟨_,O,ap,xp,O,.inr (Ð.of OA.e),_,_,O,O,.inr ⟨_,O,_,_,O,O,.inl ⟨Â,Â⟩,_,O,?_,?_,?_⟩⟩;.split<;>lia
 .split<;>lia
 refine cY (lo:=0) (λi σ Hc=>Xe5 λa xs ss x4 x5=>Xa7 (σ=[some (.ref st),some (.ref ap),some (.int n),some (.ref a),x4,x5]) (Dr st H Hc) (È Hc ap xp ps) (È Hc a xs ss) (ss.length<=i) ((∀s∈ss,smR s)) (un ps ss=none)) ?_ ?_ ?_;.exact⟨e0,[],[],none,none,O,g2,OA,r2,Ü _,(λ_ h=>nomatch h),O⟩
 .rintro i σ Hc hi⟨a,xs,ss,x4,x5,rfl,g,OB,IZ,ls,dA,A5⟩;have hi:i<12:=by split at hi<;>lia
  refine aG ?_;refine aP λc_ ae=>?_;refine aV ?_;refine⟨_,O,_,O,_,O,st,ap,xp,ps,O,g.sa,OB,lp,okp,λt s' H3 d3 et sm=>⟨zL,λt1 qA=>?_⟩⟩;have Xa:=d3.rows g.sa OB;have OC:=d3.rows g.sa IZ;have m4:=À.upd (o:=.tup [V.ref t]) qA;refine⟨a,t1,xs,_,O,O,m4 _ _ OC.e,aj,by simp,by rw[IZ.l,sizeLine_eq];show _+1<=_;lia,λc H5 s5 ec=>?_⟩;have Sg:=u9 ((OC.same m4).same s5) (s5 _ _ (m4 _ _ et)) ec;have OE:=(Xa.same m4).same s5;have g5:=((g.trans d3).same m4).same s5;have Sh:∀s∈ss++[s'],smR s:=λs hs=>by
   rcases ė.mp hs with z|z;.exact dA s z
   .rw[Ř.mp z];exact sm
  have l5:(ss++[s']).length<=i+1:=by rw[õ];show ss.length+1<=_;lia
  refine aG ?_;refine ae _ _ ?_;clear ae c_;try dsimp only
  refine⟨_,O,_,O,ap,xp,ps,c,_,ss++[s'],O,OE,lp,okp,Sg,Â,λs hs=>(Sh s hs).1,λtt fo H6 s6 IT=>?_⟩;refine⟨tt,_,1,unV (un ps (ss++[s'])),O,O,Ð.of IT,O,O,_,O,rA (λhb=>?_) λ_=>?_⟩;.exact⟨_,O,c,_,ss++[s'],_,_,O,g5.same s6,OE.same s6,Sg.same s6,l5,Sh,Hy hb⟩
  .exact⟨a,xs,ss,_,_,O,g5.same s6,OE.same s6,((OC.same m4).same s5).same s6,Â,dA,A5⟩
 .rintro σ Hc⟨a,xs,ss,x4,x5,rfl,g,OB,IZ,ls,dA,A5⟩;refine⟨_,O,q a xs ss Hc g IZ ?_ dA A5⟩;split at ls<;>lia
theorem Eb(F:æ K "_law_book" "_law_book" (top 86) f fd)(T:Mg mg)(c1:â P w K mg base 2 "_law_clips" [ă,Ų] xJ)(c2:â P w K mg base 2 ABj [ă,Ų,AAq] xH)(c3:â P w K mg base 3 "_law_sales" [ă,ć,Ų] xK):Ñ P w K mg base å 4 f fd [ă,AAq,Ų,ſ] BL:=by
 refine F.oq Z03 λar A outer s H vs Q E hr h=>?_;obtain⟨st,y,m,k,rfl,dS,y1,y2,m1,m2,k1,k2,q⟩:=h;refine⟨_,aC (đ 4 Z03.nd (aH c1 hr (aq (pv 0) (aq (pv 1) ao)))) (aC (đ 5 Z03.nd (aH c2 hr (aq (pv 0) (aq (pv 2) (aq (aJ bQ O T.len PySem.boot_len (aq (pv 4) ao)) ao))))) (aF (aQ (bM (aq (pv 4) (aq (pv 5) (aq (aH c3 hr (aq (pv 0) (aq (pv 5) (aq (pv 3) ao)))) ao))))))),?_⟩;refine aP λc_ ae=>?_;refine aV ?_;refine⟨_,O,_,O,st,y,O,dS,y1,y2,λvc H1 mc=>?_⟩;obtain⟨cs,Xb,OF,Xc,lc1,Si,okc⟩:=mc;have d1:Dr st H H1:=⟨Xb,OF⟩;obtain⟨ac,xc,rfl,rc⟩:=pC Xc;refine aG ?_;refine ae _ _ ?_;clear ae c_;try dsimp only
 refine aP λc_ ae=>?_;refine aV ?_;have lc:=rc.l;refine⟨_,O,_,O,_,O,ac,xc,O,.inr (Ð.of rc.e),st,m,_,O,OF,m1,m2,Â,Â,λvp H2 mp=>?_⟩;obtain⟨ps,Xd,Jn,IA,lps,okp⟩:=mp;have d2:Dr st H1 H2:=⟨Xd,Jn⟩;obtain⟨ap,xp,rfl,rp⟩:=pC IA;have Xe:=d2.rows OF rc;refine aG ?_;refine ae _ _ ?_;clear ae c_;try dsimp only
 refine⟨_,O,_,O,_,O,_,O,_,O,st,ap,xp,ps,k,O,Jn,rp,Â,okp,k1,k2,λai xs ss H3 d3 rs ls dA A5=>⟨zL,λa ha=>?_⟩⟩;have OG:=(d1.trans d2).trans d3;have ma:=À.upd (o:=.tup [V.ref ac,V.ref ap,V.ref ai]) ha;exact q a ac xc cs ap xp ps ai xs ss _ (OG.new ha) aj ((d3.rows Jn Xe).same ma) lc1 Si okc ((d3.rows Jn rp).same ma) Â okp (rs.same ma) Â dA A5
inductive ϣ(vs:List V)(H:Hp)(Q:VK):Prop|mk:∀S v d,(vs=[v])->(Ó S H v d)->(sz d<=4000)->(oE d=true)->(∀H',À H H'->Q .non H')->ϣ  vs H Q
def HB:Sp:=λvs H Q _=>ϣ  vs H Q
inductive Ϣ(vs:List V)(H:Hp)(Q:VK):Prop|mk:∀ac xc cs y,(vs=[.ref ac,.int y])->(È H ac xc cs)->(0<=y)->(y<cs.length)->(∀H',À H H'->Q .non H')->Ϣ  vs H Q
def HF:Sp:=λvs H Q _=>Ϣ  vs H Q
theorem PN:Ã ["thing","least","most"] ["thing","least","most"] (aD (top 21)):=ú
theorem rT(F:æ K "is_whole_from" "is_whole_from" (top 21) f fd)(c1:â P w K mg base 1 "is_whole" ["thing"] (Ŕ cP)):Ñ P w K mg base å 2 f fd ["thing","least","most"] (my kI):=by refine F.oq PN λar A outer s H vs Q E hr h=>?_;obtain⟨S,v,d,n,m,rfl,th,hz,q⟩:=h;refine⟨_,aF (aQ (cD (aH c1 hr (aR (pv 0) ao)) (dH (du bW bW (pv 1) (pv 0) (pv 2))))),?_⟩;refine⟨_,O,S,v,d,O,th,hz,λH1 s1=>⟨_,O,?_⟩⟩;have fin:=q H1 s1;unfold kI at fin;cases e:cP d with|false=>rw[e]at fin;exact bB fin;|true=>rw[e]at fin;obtain⟨i,rfl,rfl⟩:=gJ th e;exact bK (cz (dU O) (dU O) (dU O) _ fin)
theorem PP:Ã ["thing"] ["thing"] (aD (top 44)):=ú
theorem JX(F:æ K "refuse_no_book" "refuse_no_book" (top 44) f fd)(c1:â P w K mg base 6 "is_book" ["thing"] (Ŕ oE)):Ñ P w K mg base å 7 f fd ["thing"] HB:=by refine F.oq PP λar A outer s H vs Q E hr h=>?_;obtain⟨S,v,d,rfl,th,hz,hb,q⟩:=h;refine⟨_,aF (cO (cR (dD (aH c1 hr (aR (pv 0) ao)))) (aF kZ) bD),?_⟩;refine⟨_,O,S,v,d,O,th,hz,λH1 s1=>⟨_,O,?_⟩⟩;rw[hb];exact bB (q _ s1)
theorem PQ:Ã ["clips","year"] ["clips","year"] (aD (top 61)):=ú
theorem JZ(F:æ K "refuse_no_year_of" "refuse_no_year_of" (top 61) f fd)(T:Mg mg)(c1:â P w K mg base 2 "is_whole_from" ["thing","least","most"] (my kI)):Ñ P w K mg base å 3 f fd ["clips","year"] HF:=by
 refine F.oq PQ λar A outer s H vs Q E hr h=>?_;obtain⟨ac,xc,cs,y,rfl,rc,y0,y1,q⟩:=h;refine⟨_,aF (cO (cR (dD (aH c1 hr (aq (pv 1) (aq aB (aq (aU dJ (aJ bQ O T.len PySem.boot_len (aq (pv 0) ao)) aB) ao)))))) (aF kZ) bD),?_⟩;refine⟨_,O,_,O,ac,_,O,.inr (Ð.of rc.e),_,_,O,O,λ_=>False,.int y,.int y,0,_,O,.int _,(by show 1<=4000;decide),λH1 s1=>⟨_,O,?_⟩⟩;have e:kI (.int y) 0 ((xc.length:Int)-1)=true:=by show(true&&(decide (0<=y)&&decide (y<=(xc.length:Int)-1)))=true;rw[ø y0,ø (by rw[rc.l];lia)];rfl
 rw[e];exact bB (q _ s1)
structure ğ(H:Hp)(bk ac:Addr)(xc:List V)(cs:UV)(ap:Addr)(xp:List V)(ps:UV)(ai:Addr)(xs:List V)(ss:UV):Prop where
 e:H bk=some (.tup [.ref ac,.ref ap,.ref ai])rc:È H ac xc cs
 okc:∀r∈cs,r.length=3/\∀x∈r,0<=x
 lc:cs.length<=20
 rp:È H ap xp ps
 lp:ps.length<=10
 okp:∀r∈ps,ĝ r
 rs:È H ai xs ss
 ls:ss.length<=12
 h5:∀s∈ss,s.length=5
 un:un ps ss=none
theorem ğ.same(b:ğ H bk ac xc cs ap xp ps ai xs ss)(s:À H H'):ğ H' bk ac xc cs ap xp ps ai xs ss:=⟨s _ _ b.e,b.rc.same s,b.okc,b.lc,b.rp.same s,b.lp,b.okp,b.rs.same s,b.ls,b.h5,b.un⟩
def za(R:UV->UV->UV->Int->VK->Hp->Prop):Sp:=λvs H Q _=>∃S bk y d ac xc cs ap xp ps ai xs ss,vs=[.ref bk,.int y]/\Ó S H (.ref bk) d/\sz d<=4000/\oE d=true/\ğ H bk ac xc cs ap xp ps ai xs ss/\0<=y/\y<cs.length/\R cs ps ss y Q H
def K1:UV->UV->UV->Int->VK->Hp->Prop:=λ_ _ _ _ Q H=>∀H',À H H'->Q .non H'
theorem PX:Ã ["book","year"] ["book","year"] (aD (top 62)):=ú
theorem HJ(F:æ K "refuse_no_year" "refuse_no_year" (top 62) f fd)(c1:â P w K mg base 7 "refuse_no_book" ["thing"] HB)(c2:â P w K mg base 3 "refuse_no_year_of" ["clips","year"] HF):Ñ P w K mg base å 8 f fd ["book","year"] (za K1):=by refine F.oq PX λar A outer s H vs Q E hr h=>?_;obtain⟨S,bk,y,d,ac,xc,cs,ap,xp,ps,ai,xs,ss,rfl,th,hz,hb,B,y0,y1,q⟩:=h;refine⟨_,aC (cg (aH c1 hr (aq (pv 0) ao))) (aF (cg (aH c2 hr (aq (pX bJ (pv 0) aB) (aq (pv 1) ao))))),?_⟩;refine aM ?_;refine⟨_,O,S,_,d,O,th,hz,hb,λH1 s1=>?_⟩;dsimp only;have B1:=B.same s1;exact⟨_,O,bk,_,0,.ref ac,O,O,Ð.of B1.e,O,_,O,ac,xc,cs,y,O,B1.rc,y0,y1,λH2 s2=>q _ (s1.trans s2)⟩
theorem uc:∀{ds:Ģ},(∀d∈ds,ñ d=true)->iI ds=true|[],_=>rfl|d::ds,h=>by show(ñ d&&iI ds)=true;rw[h d (.head _),uc λe he=>h e (.tail _ he)];rfl
theorem xM(h:∀i∈r,-10<=i/\i<=2000000):ñ (cN r)=true:=by refine uc λd hd=>?_;obtain⟨i,hi,rfl⟩:=ó.mp hd;have:=h i hi;exact ø Â
theorem gO:∀(is:WF),ô (is.map PyData.int)=is.length|[]=>rfl|i::is=>by show 1+ô (is.map PyData.int)=is.length+1;rw[gO is];lia
theorem mR:∀{rs:UV},(∀r∈rs,r.length=k)->ô (rs.map cN)=(k+1)*rs.length|[],_=>rfl|r::rs,h=>by show(1+ô (r.map PyData.int))+ô (rs.map cN)=(k+1)*(rs.length+1);rw[gO,h r (.head _),mR λq hq=>h q (.tail _ hq),Nat.mul_add];lia
theorem N7(h:ĝ r):∀i∈r,-10<=i/\i<=2000000:=by obtain⟨h0,h1,h2,h3,h4,h5⟩:=h;rw[eV h0];intro i hi;simp only[List.mem_cons,List.not_mem_nil,or_false]at hi;rcases hi with rfl|rfl|rfl|rfl|rfl|rfl<;>lia
theorem ud(rs:UV):ì (bY rs)=rs:=by show(rs.map cN).map (λx=>(items x).map à)=rs;rw[ĳ];refine(Zax λr _=>?_).trans (List.map_id rs);show((r.map PyData.int)).map à=r;rw[ĳ];exact List.map_id r
theorem nW{n:Nat}(h:r.length=n):bA (cN r) n=true:=by
 show(bL (.tuple (r.map PyData.int)) n n&&(r.map PyData.int).all cP)=true;rw[Ī];refine⟨?_,ņ.mpr λx hx=>?_⟩;.show(true&&(decide ((n:Int)<=(r.map PyData.int).length)&&decide (((r.map PyData.int).length:Int)<=n)))=true;rw[Õ,h,ø (Zbb _)];rfl
 .obtain⟨i,_,rfl⟩:=ó.mp hx;rfl
theorem zf(h1:a<=ds.length)(h2:(ds.length:Int)<=b):bL (.tuple ds) a b=true:=by show(true&&(decide (a<=(ds.length:Int))&&decide ((ds.length:Int)<=b)))=true;rw[ø h1,ø h2];rfl
theorem K3{cs ps ss:UV}(lc1:1<=cs.length)(lc:cs.length<=20)(okc:∀r∈cs,okC r)(lp:ps.length<=10)(okp:∀r∈ps,ĝ r)(ls:ss.length<=12)(h5:∀s∈ss,s.length=5)(hu:un ps ss=none):oE (.tuple [bY cs,bY ps,bY ss])=true:=by
 have b0:jn (bY cs)=true:=by show(bL (.tuple (cs.map cN)) 1 20&&(cs.map cN).all tR)=true;rw[zf (by rw[Õ];lia) (by rw[Õ];lia),Zbn];refine ņ.mpr λx hx=>?_;obtain⟨r,hr,rfl⟩:=ó.mp hx;obtain⟨h3,hb⟩:=okc r hr;show(bA (cN r) 3&&(r.map PyData.int).all λx=>decide (0<=à x)&&decide (à x<=999))=true;rw[show bA (cN r) 3=true from nW h3,Zbn];refine ņ.mpr λx hx=>?_;obtain⟨i,hi,rfl⟩:=ó.mp hx;have:=hb i hi;show(decide (0<=i)&&decide (i<=999))=true;rw[ø Â,ø Â];rfl
 have b1:gB (bY ps)=true:=by
  show(bL (.tuple (ps.map cN)) 0 10&&(ps.map cN).all mq)=true;rw[zf Â (by rw[Õ];lia),Zbn];refine ņ.mpr λx hx=>?_;obtain⟨r,hr,rfl⟩:=ó.mp hx;obtain⟨h6,h1,h2,h3,h4,Xf⟩:=okp r hr;show(bA (cN r) 6&&uP (at_ (cN r) 0) (at_ (cN r) 1) (at_ (cN r) 2) (at_ (cN r) 3) (at_ (cN r) 4) (at_ (cN r) 5))=true;rw[show bA (cN r) 6=true from nW h6,Zbn];have ea:∀i,i<6->at_ (cN r) i=fl r i:=λi hi=>by unfold at_ fl;show à ((r.map PyData.int).getD i .none)=r.getD i 0;rw[ę,ę,Ą,á Â];rfl
  rw[ea 0 Ù,ea 1 Ù,ea 2 Ù,ea 3 Ù,ea 4 Ù,ea 5 Ù];unfold uP;simp only[Bool.and_eq_true,č];exact⟨h1,h2,⟨h3.1,h3.2.1,h3.2.2⟩,h4,Xf⟩
 have b2:gC (bY ss)=true:=by show(bL (.tuple (ss.map cN)) 0 12&&(ss.map cN).all λx=>bA x 5)=true;rw[zf Â (by rw[Õ];lia),Zbn];refine ņ.mpr λx hx=>?_;obtain⟨r,hr,rfl⟩:=ó.mp hx;exact nW (h5 r hr)
 show(bL (.tuple [bY cs,bY ps,bY ss]) 3 3&&(jn (bY cs)&&(gB (bY ps)&&(gC (bY ss)&&(un (ì (bY ps)) (ì (bY ss))).isNone))))=true;rw[b0,b1,b2,ud,ud,hu];rfl
def La:UV->UV->UV->Int->VK->Hp->Prop:=λcs ps ss y Q H=>∀k xk R H',À H H'->H k=none->k≠sysModules->H' k=some (.lst xk)->î H' xk R->ϑ cs ps ss (y.toNat+1) R->Q (.ref k) H'
def Ec(R:UV->UV->UV->Int->VK->Hp->Prop):Sp:=λvs H Q _=>∃bk y ac xc cs ap xp ps ai xs ss,vs=[.ref bk,.int y]/\ğ H bk ac xc cs ap xp ps ai xs ss/\0<=y/\y<cs.length/\R cs ps ss y Q H
theorem ϒ:Ã ["book","year","gifts","owed","left"] ["book","year"] (aD (top 64)):=ú
theorem HN(F:æ K "owed_behind" "owed_behind" (top 64) f fd)(c2:â P w K mg base 10 "years_given" ["book","year"] BJ):Ñ P w K mg base å 11 f fd ["book","year"] (Ec La):=by
 refine F.oq ϒ λar A outer s H vs Q E hr h=>?_;obtain⟨bk,y,ac,xc,cs,ap,xp,ps,ai,xs,ss,rfl,B,y0,y1,q⟩:=h;refine⟨_,aC (cV (pX bO (aH c2 hr (aq (pv 0) (aq (pv 1) ao))) (pv 1)) (bR O (az (Ô 2 ϒ.nd) (az (Ô 3 ϒ.nd) (az (Ô 4 ϒ.nd) aX))))) (aF (aQ (pv 3))),?_⟩;refine aM ?_;refine⟨_,O,_,O,bk,y,ac,xc,cs,ap,xp,ps,ai,xs,ss,O,B.e,B.rc,B.okc,B.lc,y0,y1,B.rp,B.lp,B.okp,B.rs,B.ls,B.h5,B.un,λl ts H2 s2 nl el lt hy=>?_⟩;have hl:y.toNat<ts.length:=Â;obtain⟨g,k,tl,xg,xk,G,R,L,e1,n1,n2,d1,d2,e2,e3,e4,e5,e6,e7,_,_,ow,_⟩:=hy y.toNat ts[y.toNat] (á hl);have dv:ĭ (ts.map V.ref) y=some (.ref ts[y.toNat]):=by
  have:(ts.map V.ref)[y.toNat]?=some (.ref ts[y.toNat]):=by rw[Ą,á hl];rfl
  have:=cJ this;rw[show((y.toNat:Nat):Int)=y by lia]at this;exact this
 refine⟨_,O,l,_,y,.ref ts[y.toNat],O,O,É.of el,dv,ts[y.toNat],_,O,Ð.of e1,O,_,_,O,_,_,O,_,_,O,O,?_⟩;dsimp only;exact⟨_,O,q k xk R H2 s2 n2 e7.2 e4 e5 ow⟩
def Lb:UV->UV->UV->Int->VK->Hp->Prop:=λcs ps ss y Q H=>∀H',À H H'->Q (.int (aO cs ps ss (y.toNat+1) 3)) H'
theorem QZ:Ã ["book","year"] ["book","year"] (aD (top 71)):=ú
theorem K4(F:æ K "lack_by" "lack_by" (top 71) f fd)(c1:â P w K mg base 8 "refuse_no_year" ["book","year"] (za K1))(c2:â P w K mg base 11 "owed_behind" ["book","year"] (Ec La))(c3:â P w K mg base 1 "sacks_of" ["rows"] pF):Ñ P w K mg base å 12 f fd ["book","year"] (za Lb):=by refine F.oq QZ λar A outer s H vs Q E hr h=>?_;obtain⟨S,bk,y,d,ac,xc,cs,ap,xp,ps,ai,xs,ss,rfl,th,hz,hb,B,y0,y1,q⟩:=h;refine⟨_,aC (cg (aH c1 hr (aq (pv 0) (aq (pv 1) ao)))) (aF (aQ (aH c3 hr (aq (aH c2 hr (aq (pv 0) (aq (pv 1) ao))) ao)))),?_⟩;refine aM ?_;refine⟨_,O,_,O,S,bk,y,d,ac,xc,cs,ap,xp,ps,ai,xs,ss,O,th,hz,hb,B,y0,y1,λH1 s1=>?_⟩;dsimp only;have B1:=B.same s1;refine⟨_,O,_,O,bk,y,ac,xc,cs,ap,xp,ps,ai,xs,ss,O,B1,y0,y1,λk xk R H2 s2 n ns e1 e2 ow=>⟨k,xk,R,O,e1,e2,λr hr=>(ow.ok r hr).l,by have:=ow.len;have:=B.lc;lia,λH3 s3=>?_⟩⟩;rw[ow.all B.okp];exact q H3 ((s1.trans s2).trans s3)
def nY(ns:WF):WF:=(List.range (ns.length+1)).map λi=>(ns.drop i).sum
def oV(ns:WF)(j:Nat):WF:=(List.range (j+1)).map λi=>(ns.drop (ns.length-i)).sum
theorem Ed(ns:WF):oV ns 0=[0]:=by show[(ns.drop (ns.length-0)).sum]=[0];rw[Nat.sub_zero,List.drop_length];rfl
theorem ue(ns:WF)(j:Nat):oV ns j=(List.range j).map (λi=>(ns.drop (ns.length-i)).sum)++[(ns.drop (ns.length-j)).sum]:=by unfold oV;rw[Za4,ë];rfl
theorem Ef(h:ns.reverse[j]?=some x):oV ns (j+1)=oV ns j++[(ns.drop (ns.length-j)).sum+x]:=by
 have hj:j<ns.length:=by have:=(Ķ.mp h).1;rw[Zat]at this;exact this
 rw[List.getElem?_reverse hj]at h;rw[ue ns (j+1)];congr 2;have e:ns.length-j=(ns.length-(j+1))+1:=Â;have hl:ns.length-(j+1)<ns.length:=Â;have hx:ns[ns.length-(j+1)]=x:=by rw[show ns.length-1-j=ns.length-(j+1)by lia,á hl]at h;exact œ h
 rw[Zas hl,<-e,hx,Ļ,Int.add_comm]
theorem HQ(ns:WF):(oV ns ns.length).reverse=nY ns:=by unfold oV nY;refine List.ext_getElem Ö λi h1 h2=>?_;rw[List.getElem_reverse,List.getElem_map,List.getElem_map,List.getElem_range,List.getElem_range];simp only[List.length_reverse,List.length_map,List.length_range]at h1 h2⊢;congr 2;lia
theorem HR{α:Type}(xs:List α)(x:α):ĭ (xs++[x]) (-1)=some x:=by
 have e1:ώ (xs++[x]).length (-1)=some xs.length:=by unfold ώ;rw[Ê Ù,õ,List.length_singleton,Ì Â];congr 1;lia
 unfold ĭ;rw[e1];exact List.getElem?_concat_length
inductive Ϩ(vs:List V)(H:Hp)(Q:VK):Prop|mk:∀l ns,(vs=[.ref l])->(H l=some (.lst (ns.map V.int)))->(ns.length<=100)->(∀k H',À H H'->H k=none->H' k=some (.lst ((nY ns).map V.int))->Q (.ref k) H')->Ϩ  vs H Q
def zg:Sp:=λvs H Q _=>Ϩ  vs H Q
structure ż(H:Hp)(L:Addr)(as:Ĉ)(rs:UV):Prop where
 e:H L=some (.lst (as.map V.ref))l:as.length=rs.length
 g:∀i a,as[i]?=some a->H a=some (.lst ((rs.getD i []).map V.int))
theorem ż.same(h:ż H L as rs)(s:À H H'):ż H' L as rs:=⟨s _ _ h.e,h.l,λi a e=>s _ _ (h.g i a e)⟩
def clT(ps ss:UV)(y s:Nat):WF:=(List.range (y+1)).map λ(i:Nat)=>aK (bh ps ss (s:Int) (i:Int))
def rY(ps ss:UV)(y n:Nat):UV:=(List.range n).map λs=>nY (clT ps ss y s)
def wlT(cs:UV)(y s:Nat):WF:=(List.range (y+1)).map λi=>fl (cs.getD i []) s
def rZ(cs:UV)(y n:Nat):UV:=(List.range n).map λs=>nY (wlT cs y s)
def N8:UV->UV->UV->Int->VK->Hp->Prop:=λcs ps ss y Q H=>∀L as H',À H H'->ż H' L as (rY ps ss y.toNat 3)->Q (.ref L) H'
def Nb:UV->UV->UV->Int->VK->Hp->Prop:=λcs ps ss y Q H=>∀L as H',À H H'->ż H' L as (rZ cs y.toNat 3)->Q (.ref L) H'
theorem Z02:Ã ["numbers","sums","number"] ["numbers"] (aD (top 66)):=ú
theorem K5(F:æ K "from_each_on" "from_each_on" (top 66) f fd)(Tv:mg "reversed"=none):Ñ P w K mg base å 1 f fd ["numbers"] zg:=by
 refine F.oq Z02 λar A outer s H vs Q E hr h=>?_;obtain⟨l,ns,rfl,el,hl,q⟩:=h;refine⟨_,aC (đ 1 Z02.nd (cX (aq aB ao))) (aC (cF Ł O (Mm O Tv (aq (pv 0) ao)) (Ô 2 Z02.nd) (aF (cg (fD Β zBb zBa dw (pv 1) (aq (aU bw (pX bO (pv 1) (pU jO aB)) (pv 2)) ao))))) (aF (aQ (Jp (pv 1))))),?_⟩;refine aM (aV ?_);refine⟨zL,λl1 fk=>?_⟩;have s1:=À.upd (o:=.lst [V.int 0]) fk;have e1:upd H l1 (.lst [V.int 0]) l1=some (.lst ((oV ns 0).map V.int)):=by rw[Ed];exact aj
 generalize upd H l1 (.lst [V.int 0])=H1 at s1 e1⊢;refine aG ?_;dsimp only;refine aM ?_;refine⟨_,O,l,_,O,É.of (s1 _ _ el),?_⟩;refine Jo (xs:=ns.map V.int) (λi σ Hc=>∃x2,σ=[some (.ref l),some (.ref l1),x2]/\À H Hc/\Hc l1=some (.lst ((oV ns i).map V.int))) ?_ ?_ ?_ ?_;.exact⟨none,O,s1,e1⟩
 .rintro i σ Hc hi⟨x2,rfl,sc,e⟩;exact É.of (sc _ _ el)
 .rintro i x σ Hc hx⟨x2,rfl,sc,e⟩;rw[<-List.map_reverse,Ą]at hx;obtain⟨n,hn,rfl⟩:=Option.map_eq_some_iff.mp hx;have hi:i<ns.length:=by have:=(Ķ.mp hn).1;rw[Zat]at this;exact this
  rw[Ef hn];refine aG ?_;have Cc:(oV ns i).length=i+1:=by unfold oV;rw[Õ,Ż]
  have dv:ĭ ((oV ns i).map V.int) (-1)=some (.int (ns.drop (ns.length-i)).sum):=by rw[ue,ë];exact HR _ _
  refine⟨_,O,.inl ⟨O,_,É.of e⟩,_,O,_,O,l1,_,-1,_,O,O,É.of e,dv,_,O,_,_,O,O,l1,_,_,O,O,e,?_,?_⟩;.rw[Õ,Cc,sizeLine_eq];lia
  .refine⟨_,O,λb o e'=>?_,?_⟩;.rw[au (aA e' fk)];exact sc _ _ e'
   .rw[aj,ë];rfl
 .rintro σ Hc⟨x2,rfl,sc,e⟩;dsimp only;rw[Õ]at e;refine⟨_,O,l1,_,O,É.of e,λk hk=>q k _ (sc.updR hk) (sc.free hk) ?_⟩;rw[aj,<-List.map_reverse,HQ]
theorem R0:(["sort","promises","sales","year"]:ð).Nodup:=by decide+kernel
theorem R1:(["at","promises","sales","sort"]:ð).Nodup:=by decide+kernel
theorem ϓ:Ã ["book","year","clips","promises","sales"] ["book","year"] (aD (top 67)):=ú
theorem zj(F:æ K "claimed_since" "claimed_since" (top 67) f fd)(N:Nums mg)(Tr:mg "range"=none)(c1:â P w K mg base 1 "from_each_on" ["numbers"] zg)(c2:â P w K mg base 1 "sacks_of" ["rows"] pF)(c3:â P w K mg base 2 "claims_in" ["promises","sales","sort","year"] qQ):Ñ P w K mg base å 3 f fd ["book","year"] (Ec N8):=by
 refine F.oq ϓ λar A outer s H vs Q E hr h=>?_;obtain⟨bk,y,ac,xc,cs,ap,xp,ps,ai,xs,ss,rfl,B,y0,y1,q⟩:=h;obtain⟨t1,e1⟩:=N.sorts;refine⟨_,aC (cV (pv 0) (bR O (az (Ô 2 ϓ.nd) (az (bF (i:=3) ϓ.nd O (Or.inr O)) (az (bF (i:=4) ϓ.nd O (Or.inr O)) aX))))) (aF (aQ (wz (x₀:="sort") ["sort","promises","sales","year"] [none,some 3,some 4,some 1] O (bV O Tr (aq (cu (v:=.int 3) O e1 ⟨_,O⟩) ao)) (λC fp Á s₂ Ï=>⟨bF (i:=0) R0 O (Or.inr O) (Or.inl O),bx,aH c1 hr (aq (bz ["at","promises","sales","sort"] [none,some 1,some 2,some 0] O (bV O Tr (aq (aU bw (pv 3) aB) ao)) (λC fp Á s₂ Ï=>⟨Ô 0 R1,bx,aH c2 hr (aq (aH c3 hr (aq (pv 1) (aq (pv 2) (aq (pv 3) (aq (pv 0) ao))))) ao)⟩) (λC=>cI (cI (cI trivial))) ⟨O,O,O,O⟩) ao)⟩) (λC=>cI (cI (cI trivial))) ⟨O,O,O,O,λ_ _=>rfl,λ_=>rfl⟩))),?_⟩;obtain⟨n,rfl⟩:∃n:Nat,y=n:=⟨y.toNat,Â⟩;unfold N8 at q;rw[Ľ]at q;have hn:n<20:=by have:=B.lc;lia
 refine aM ?_;refine⟨_,O,bk,_,O,Ð.of B.e,O,_,_,O,_,_,O,_,_,O,O,?_⟩;dsimp only;refine j7 ?_;refine⟨3,O,by decide,by decide,cA 3 (λi ys σ Hc=>À H Hc/\(∃o1,σ=[o1,some (.ref ap),some (.ref ai),some (.int n)])/\∃as:Ĉ,ys=as.map V.ref/\as.length=i/\∀j a,as[j]?=some a->Hc a=some (.lst (((rY ps ss n 3).getD j []).map V.int))) ⟨À.refl H,⟨_,rfl⟩,[],rfl,rfl,λj a e=>by simp at e⟩ (by rw[sizeLine_eq];decide) ?_ ?_⟩
 .rintro i ys σ Hc hi hy⟨s1,⟨o1,rfl⟩,as,rfl,la,ga⟩;refine⟨hi,λv H' y' R hR=>?_⟩;obtain⟨eH,rfl⟩:=y';subst H';refine aG ?_;have dA:=Bq B.un B.h5;have B1:=B.same s1;refine⟨_,O,_,_,O,O,(n:Int)+1,O,Â,Â,?_⟩;refine cA (n+1) (λj ys σ Hd=>À Hc Hd/\(∃o1,σ=[o1,some (.ref ap),some (.ref ai),some (.int (0+(i:Int)))])/\ys=(((List.range j).map λ(k:Nat)=>aK (bh ps ss (i:Int) (k:Int))):WF).map V.int) ⟨À.refl Hc,⟨_,O⟩,O⟩ ų ?_ ?_;.rintro j ys σ Hd hj hy⟨s2,⟨o1,rfl⟩,rfl⟩;refine⟨by show j<_;lia,λv H' y' R' A6=>?_⟩;obtain⟨eH,rfl⟩:=y';subst H';refine aG ?_;have B2:=B1.same s2;refine⟨_,O,_,O,_,O,_,O,ap,xp,ps,ai,xs,ss,_,_,O,B2.rp,B.lp,B.okp,B2.rs,B.ls,dA,λl xl H3 s3 nl el fx=>?_⟩;have i0:(0:Int)+(i:Int)=(i:Int):=ϵ _;have j0:(0:Int)+(j:Int)=(j:Int):=ϵ _;rw[i0,j0]at fx;have Nn:=gY (ss:=ss) (sort:=(i:Int)) (year:=(j:Int)) B.lp;refine⟨l,xl,_,O,el,fx,λr hr=>(iR B.un B.h5 B.okp r hr).1.l,Â,λH4 s4=>A6 _ _ _ ⟨(s2.trans s3).trans s4,⟨_,O⟩,?_⟩⟩;rw[Za4,ë,ë];rfl
  .rintro ys σ Hd hy⟨s2,_,rfl⟩;refine⟨by show _<=n+1;lia,λD hD=>?_⟩;have s3:=À.upd (o:=.lst (((List.range (n+1)).map λ(k:Nat)=>aK (bh ps ss (i:Int) (k:Int))).map V.int)) hD;refine⟨D,_,O,aj,by rw[Õ,Ż];lia,λk H4 s4 nk ek=>hR _ _ _ ⟨((s1.trans s2).trans s3).trans s4,⟨_,O⟩,as++[k],by rw[ë];rfl,by rw[õ,la];rfl,λj a e=>?_⟩⟩;by_cases hj:j<as.length;.rw[zBd hj]at e;exact s4 _ _ (s3 _ _ (s2 _ _ (ga j a e)))
   .rw[zBc Â]at e;cases hk:j-as.length with
 |zero=>
     rw[hk]at e;injection e with e;subst e;have:j=i:=Â;rw[ek,this];have:(rY ps ss n 3).getD i []=nY (clT ps ss n i):=by unfold rY;rw[ę,Ą,Zap hi];rfl
     rw[this];rfl;|succ m=>rw[hk]at e;simp at e
 .rintro ys σ Hc hy⟨s1,_,as,rfl,la,ga⟩;refine⟨by show _<=3;decide,λD hD=>?_⟩;have s2:=À.upd (o:=.lst (as.map V.ref)) hD;exact q D as _ (s1.trans s2) ⟨aj,by rw[la];unfold rY;rw[Õ,Ż],λi a e=>s2 _ _ (ga i a e)⟩
def Ν:WF->Int|[]=>0|[x]=>x|x::y::r=>if x<=Ν (y::r)then x else Ν (y::r)
theorem pI:∀{ns:WF},ns≠[]->Ν ns∈ns
 |[],h=>absurd O h|[x],_=>Ř.mpr O|x::y::r,_=>by
  show(if x<=Ν (y::r)then x else Ν (y::r))∈_;split;.exact .head _
  .exact .tail _ (pI (λz=>nomatch z))
theorem zm:∀{ns:WF},∀a∈ns,Ν ns<=a
 |[],a,h=>nomatch h|[x],a,h=>by rw[Ř.mp h];exact Zbb _;|x::y::r,a,h=>by
  show(if x<=Ν (y::r)then x else Ν (y::r))<=a;rcases ĩ.mp h with z|z;.rw[z];split<;>lia
  .have:=zm (ns:=y::r) a z;split<;>lia
theorem Nf(h:M∈ns)(hl:∀a∈ns,M<=a):M=Ν ns:=by have h1:=hl _ (pI (λz=>by rw[z]at h;cases h));have h2:=zm M h;lia
def tb(T:UV)(s:Nat)(i:Int):Int:=(T.getD s []).getD i.toNat 0
def shV(C W:UV)(p:WF):Int:=((List.range 3).map λs=>tb C s (fl p s)).sum-((List.range 3).map λs=>tb W s (Ν (p.drop s))).sum
def zq(n:Int)(p:WF):Prop:=p.length=3/\∀x∈p,0<=x/\x<=n+1
inductive Υ(vs:List V)(H:Hp)(Q:VK):Prop|mk:∀lc ac C lw aw W t p n,(vs=[.ref lc,.ref lw,.ref t])->(ż H lc ac C)->(ż H lw aw W)->(C.length=3)->(W.length=3)->((∀r∈C,(r.length:Int)=n+2))->((∀r∈W,(r.length:Int)=n+2))->(H t=some (.tup (p.map V.int)))->(zq n p)->(∀H',À H H'->Q (.int (shV C W p)) H')->Υ  vs H Q
def BP:Sp:=λvs H Q _=>Υ  vs H Q
def jx(cs ps ss:UV)(y:Nat)(p:WF):Int:=shV (rY ps ss y 3) (rZ cs y 3) p
theorem HS{T:UV}(h:∀r∈T,(r.length:Int)=m)(hs:s<T.length):((T.getD s []).length:Int)=m:=by rw[ę,á hs];exact h _ (Ė hs)
theorem BR(h:zq n p)(hs:s<3):0<=fl p s/\fl p s<=n+1:=by
 have hl:s<p.length:=by rw[h.1];exact hs
 unfold fl;rw[ę,á hl];exact h.2 _ (Ė hl)
theorem BV(h:zq n p)(hs:s<3):0<=Ν (p.drop s)/\Ν (p.drop s)<=n+1:=by
 have hl:p.drop s≠[]:=λz=>by have:=congrArg List.length z;rw[ϙ,h.1]at this;simp at this;lia
 exact h.2 _ (Zbk (pI hl))
theorem Ld{T:UV}(h:∀r∈T,(r.length:Int)=n+2)(hs:s<T.length)(h0:0<=i)(h1:i<=n+1):ĭ ((T.getD s []).map V.int) i=some (.int (tb T s i)):=by have hl:=HS h hs;have:=cJ (fX (L:=T.getD s []) (i:=i.toNat) Â);rw[show((i.toNat:Nat):Int)=i by lia]at this;exact this
theorem ż.at(h:ż H L as T)(hs:s<T.length):∃a,ĭ (as.map V.ref) (s:Int)=some (.ref a)/\H a=some (.lst ((T.getD s []).map V.int)):=by
 have hl:s<as.length:=by rw[h.l];exact hs
 exact⟨as[s],cJ (by rw[Ą,á hl];rfl),h.g s _ (á hl)⟩
theorem R3:(["sort","clips","year"]:ð).Nodup:=by decide+kernel
theorem R4:(["at","clips","sort"]:ð).Nodup:=by decide+kernel
theorem Z0e:Ã ["book","year","clips","promises","sales"] ["book","year"] (aD (top 68)):=ú
theorem xN(F:æ K "wool_since" "wool_since" (top 68) f fd)(N:Nums mg)(Tr:mg "range"=none)(c1:â P w K mg base 1 "from_each_on" ["numbers"] zg):Ñ P w K mg base å 2 f fd ["book","year"] (Ec Nb):=by
 refine F.oq Z0e λar A outer s H vs Q E hr h=>?_;obtain⟨bk,y,ac,xc,cs,ap,xp,ps,ai,xs,ss,rfl,B,y0,y1,q⟩:=h;obtain⟨t1,e1⟩:=N.sorts;refine⟨_,aC (cV (pv 0) (bR O (az (bF (i:=2) Z0e.nd O (Or.inr O)) (az (Ô 3 Z0e.nd) (az (Ô 4 Z0e.nd) aX))))) (aF (aQ (wz (x₀:="sort") ["sort","clips","year"] [none,some 2,some 1] O (bV O Tr (aq (cu (v:=.int 3) O e1 ⟨_,O⟩) ao)) (λC fp Á s₂ Ï=>⟨bF (i:=0) R3 O (Or.inr O) (Or.inl O),bx,aH c1 hr (aq (bz ["at","clips","sort"] [none,some 1,some 0] O (bV O Tr (aq (aU bw (pv 2) aB) ao)) (λC fp Á s₂ Ï=>⟨Ô 0 R4,bx,pX (K40P.ix_tupK (K:=K) O) (pX (K40P.ix_tupK (K:=K) O) (pv 1) (pv 0)) (pv 2)⟩) (λC=>cI (cI trivial)) ⟨O,O,O,O⟩) ao)⟩) (λC=>cI (cI trivial)) ⟨O,O,O,O,λ_ _=>rfl,λ_=>rfl⟩))),?_⟩;obtain⟨n,rfl⟩:∃n:Nat,y=n:=⟨y.toNat,Â⟩;unfold Nb at q;rw[Ľ]at q;have hn:n<20:=by have:=B.lc;lia
 refine aM ?_;refine⟨_,O,bk,_,O,Ð.of B.e,O,_,_,O,_,_,O,_,_,O,O,?_⟩;dsimp only;refine j7 ?_;refine⟨3,O,by decide,by decide,cA 3 (λi ys σ Hc=>À H Hc/\(∃o1,σ=[o1,some (.ref ac),some (.int n)])/\∃as:Ĉ,ys=as.map V.ref/\as.length=i/\∀j a,as[j]?=some a->Hc a=some (.lst (((rZ cs n 3).getD j []).map V.int))) ⟨À.refl H,⟨_,rfl⟩,[],rfl,rfl,λj a e=>by simp at e⟩ (by rw[sizeLine_eq];decide) ?_ ?_⟩
 .rintro i ys σ Hc hi hy⟨s1,⟨o1,rfl⟩,as,rfl,la,ga⟩;refine⟨hi,λv H' y' R hR=>?_⟩;obtain⟨eH,rfl⟩:=y';subst H';refine aG ?_;have B1:=B.same s1;refine⟨_,O,_,_,O,O,(n:Int)+1,O,Â,Â,?_⟩;refine cA (n+1) (λj ys σ Hd=>Hd=Hc/\(∃o1,σ=[o1,some (.ref ac),some (.int (0+(i:Int)))])/\ys=(((List.range j).map λ(k:Nat)=>fl (cs.getD k []) i):WF).map V.int) ⟨O,⟨_,O⟩,O⟩ ų ?_ ?_
  .rintro j ys σ Hd hj hy⟨rfl,⟨o1,rfl⟩,rfl⟩;refine⟨by show j<_;lia,λv H' y' R' A6=>?_⟩;obtain⟨eH,rfl⟩:=y';subst H';refine aG ?_;have qE:j<cs.length:=Â;obtain⟨t,ex,et⟩:=B1.rc.g j cs[j] (á qE);have l3:=(B.okc _ (Ė qE)).1;have A7:ĭ xc (0+(j:Int))=some (.ref t):=by rw[ϵ];exact cJ ex
   have A8:ĭ (cs[j].map V.int) (0+(i:Int))=some (.int (fl (cs.getD j []) i)):=by rw[ϵ,ß qE];exact cJ (fX Â)
   refine⟨_,O,_,O,ac,_,_,_,O,O,Ð.of B1.rc.e,A7,_,O,t,_,_,_,O,O,Ð.of et,A8,A6 _ _ _ ⟨O,⟨_,O⟩,?_⟩⟩;rw[Za4,ë,ë];rfl
  .rintro ys σ Hd hy⟨rfl,_,rfl⟩;refine⟨by show _<=n+1;lia,λD hD=>?_⟩;have s3:=À.upd (o:=.lst (((List.range (n+1)).map λ(k:Nat)=>fl (cs.getD k []) i).map V.int)) hD;refine⟨D,_,O,aj,by rw[Õ,Ż];lia,λk H4 s4 nk ek=>hR _ _ _ ⟨(s1.trans s3).trans s4,⟨_,O⟩,as++[k],by rw[ë];rfl,by rw[õ,la];rfl,λj a e=>?_⟩⟩;by_cases hj:j<as.length;.rw[zBd hj]at e;exact s4 _ _ (s3 _ _ (ga j a e))
   .rw[zBc Â]at e;cases hk:j-as.length with
 |zero=>
     rw[hk]at e;injection e with e;subst e;have:j=i:=Â;rw[ek,this];have:(rZ cs n 3).getD i []=nY (wlT cs n i):=by unfold rZ;rw[ę,Ą,Zap hi];rfl
     rw[this];rfl;|succ m=>rw[hk]at e;simp at e
 .rintro ys σ Hc hy⟨s1,_,as,rfl,la,ga⟩;refine⟨by show _<=3;decide,λD hD=>?_⟩;have s2:=À.upd (o:=.lst (as.map V.ref)) hD;exact q D as _ (s1.trans s2) ⟨aj,by rw[la];unfold rZ;rw[Õ,Ż],λi a e=>s2 _ _ (ga i a e)⟩
theorem jm{xs:List V}(h:i<=xs.length):jP xs (some (i:Int)) none=xs.drop i:=by unfold jP;rw[HT.sIx_none,HT.sIx_nat,Nat.min_eq_left h,Zai (by rw[ϙ];exact Ü _)]
theorem sr(hK:X.K=K)(hc:X.calm=true):dY X (.builtin "min") (λxs H Q=>∃(p:Addr)(ns:WF),xs=[.ref p]/\Ð K H p (ns.map V.int)/\ns≠[]/\∀M,M∈ns->(∀a∈ns,M<=a)->Q (.int M) H):=by subst hK;exact uO hc
theorem Q0:(["sort","since","claimed"]:ð).Nodup:=by decide+kernel
theorem R5:(["sort","wool","paper"]:ð).Nodup:=by decide+kernel
theorem R6:(["since","year"]:ð).Nodup:=by decide+kernel
theorem Eg:bootBuiltins "min"=some (.builtin "min"):=by decide+kernel
theorem scQ1:Ã ["claimed","wool","paper","claims"] ["claimed","wool","paper"] (aD (top 69)):=ú
theorem HW(F:æ K "shown" "shown" (top 69) f fd)(N:Nums mg)(Tr:mg "range"=none)(Ts:mg "sum"=none)(Te:mg "enumerate"=none)(Tn:mg "min"=none):Ñ P w K mg base å 1 f fd ["claimed","wool","paper"] BP:=by
 refine F.oq scQ1 λar A outer s H vs Q E hr h=>?_;obtain⟨lc,ac,C,lw,aw,W,t,p,n,rfl,tC,tW,lC,lW,rC,rW,et,okp,q⟩:=h;obtain⟨t1,e1⟩:=N.sorts;refine⟨_,aC (đ 3 scQ1.nd (aJ (cM O) O Ts ä (aq (bz (g:=mW K 2 (cU (bU 0) (cU (bU 1) oH))) ["sort","since","claimed"] [none,none,some 0] O (ZT.pi_enum true O Te (aq (pv 2) ao)) (λC fp Á s₂ Ï=>⟨fH O O (az (Ô 0 Q0) (az (Ô 1 Q0) aX)),bx,pX (iM (K:=K) O) (pX (iM (K:=K) O) (pv 2) (pv 0)) (pv 1)⟩) (λC=>cI trivial) ⟨O,O,O,O⟩) ao))) (aF (aQ (aU dJ (pv 3) (aJ (cM O) O Ts ä (aq (bz ["sort","wool","paper"] [none,some 1,some 2] O (bV O Tr (aq (cu (v:=.int 3) O e1 ⟨_,O⟩) ao)) (λC fp Á s₂ Ï=>⟨Ô 0 R5,bx,pX (iM (K:=K) O) (pX (iM (K:=K) O) (pv 1) (pv 0)) (aJ (sr (K:=K) O O) O Tn Eg (aq (jh Bw (pv 2) (lz (pv 0)) lu) ao))⟩) (λC=>cI (cI trivial)) ⟨O,O,O,O⟩) ao))))),?_⟩;have l3:=okp.1;refine aM (aV ?_);refine⟨_,O,t,_,O,Ð.of et,cA 3 (λi ys σ Hc=>À H Hc/\(∃o1 o2,σ=[o1,o2,some (.ref lc)])/\ys=((List.range i).map λs=>tb C s (fl p s)).map V.int) ⟨À.refl H,⟨_,_,O⟩,O⟩ (by rw[sizeLine_eq];decide) ?_ ?_⟩;.rintro i ys σ Hc hi hy⟨s1,⟨o1,o2,rfl⟩,rfl⟩;have gN:Ð K Hc t (p.map V.int):=Ð.of (s1 _ _ et);have E9:(p.map V.int)[i]?=some (.int (fl p i)):=fX Â;refine⟨⟨_,_,gN,E9⟩,λx H' yv R hR=>?_⟩;obtain⟨T1,Fc,rfl,yv⟩:=yv;obtain⟨x',cE,rfl⟩:=yv _ gN;rw[E9]at cE;cases cE;have s2:=s1.updR (o:=.tup [.int (i:Int),.int (fl p i)]) Fc;obtain⟨f0,f1⟩:=BR okp hi;obtain⟨a,ha,ea⟩:=(tC.same s2).at (s:=i) Â;refine⟨T1,_,O,Ð.of aj,O,_,_,O,_,_,O,O,?_⟩;refine⟨_,O,_,O,lc,_,_,_,O,O,É.of (tC.same s2).e,ha,_,O,a,_,_,_,O,O,É.of ea,Ld rC Â f0 f1,hR _ _ _ ⟨s2,⟨_,_,O⟩,?_⟩⟩;rw[Za4,ë,ë];rfl
 .rintro ys σ Hc hy⟨s1,_,rfl⟩;refine⟨⟨_,Ð.of (s1 _ _ et),by rw[Õ];lia⟩,λD hD=>⟨D,_,O,.inl (É.of aj),?_⟩⟩;have s2:=s1.updR (o:=.lst (((List.range 3).map λs=>tb C s (fl p s)).map V.int)) hD;generalize upd Hc D (.lst (((List.range 3).map λs=>tb C s (fl p s)).map V.int))=H2 at s2⊢;refine aG ?_;dsimp only;refine j7 ?_;refine⟨_,O,3,O,by decide,by decide,cA 3 (λi ys σ Hc=>À H2 Hc/\(∃o1,σ=[o1,some (.ref lw),some (.ref t)])/\ys=((List.range i).map λs=>tb W s (Ν (p.drop s))).map V.int) ⟨À.refl H2,⟨_,rfl⟩,rfl⟩ (by rw[sizeLine_eq];decide) ?_ ?_⟩
  .rintro i ys σ Hd hi hy⟨s3,⟨o1,rfl⟩,rfl⟩;refine⟨hi,λv H' y' R hR=>?_⟩;obtain⟨eH,rfl⟩:=y';subst H';refine aG ?_;have OH:=s2.trans s3;obtain⟨a,ha,ea⟩:=(tW.same OH).at (s:=i) Â;rw[show((i:Nat):Int)=0+(i:Int)by lia]at ha;refine⟨_,O,_,O,lw,_,_,_,O,O,É.of (tW.same OH).e,ha,_,O,_,O,_,O,t,_,O,OH _ _ et,λc H4 s4 ec=>?_⟩;rw[ϵ,jm (by rw[Õ];lia),<-List.map_drop]at ec;have jS:p.drop i≠[]:=λz=>by have:=congrArg List.length z;rw[ϙ,l3]at this;simp at this;lia
   refine⟨c,_,O,Ð.of ec,jS,λM hM hle=>?_⟩;have eM:=Nf hM hle;subst eM;obtain⟨m0,m1⟩:=BV okp hi;refine⟨a,_,_,_,O,O,É.of (s4 _ _ ea),Ld rW Â m0 m1,hR _ _ _ ⟨s3.trans s4,⟨_,O⟩,?_⟩⟩;rw[Za4,ë,ë];rfl
  .rintro ys σ Hd hy⟨s3,_,rfl⟩;refine⟨by show _<=3;decide,λD2 Xg=>⟨D2,_,O,.inl (É.of aj),_,_,O,O,q _ ((s2.trans s3).updR Xg)⟩⟩
theorem R7:Ã ["year","thing"] ["year","thing"] (aD (top 70)):=ú
theorem xO(ns:WF):(nY ns).length=ns.length+1:=by unfold nY;rw[Õ,Ż]
theorem R8:Ã ["book","year","paper"] ["book","year","paper"] (aD (top 73)):=ú
theorem BW(f:Nat->Int)(k:Nat):∀n,(((List.range n).map f).drop k).sum=((List.range n).map λh=>if k<=h then f h else 0).sum
 |0=>by simp;|n+1=>by
  rw[Za4,ë,ë,Za8,<-BW f k n,List.drop_append,Za8,Õ,Ż];congr 1;by_cases h:k<=n;.rw[Nat.sub_eq_zero_of_le h];simp[h]
  .rw[List.drop_of_length_le (by simp;lia)];simp[h]
def ł(cs ps ss:UV)(p:WF)(h s:Nat):Int:=(if fl p s<=h then aK (bh ps ss (s:Int) (h:Int))else 0)-(if Ν (p.drop s)<=h then fl (cs.getD h []) s else 0)
theorem BX{f:Nat->Int}{n:Nat}{k:Int}(h0:0<=k)(h1:k<=n):(nY ((List.range n).map f)).getD k.toNat 0=((List.range n).map λ(h:Nat)=>if k<=(h:Int)then f h else 0).sum:=by
 unfold nY;rw[ę,Ą,Õ,Ż,Zap Â];show(((List.range n).map f).drop k.toNat).sum=_;rw[BW];congr 1;refine Zax λh _=>?_;by_cases z:k<=(h:Int);.rw[Ì z,Ì Â]
 .rw[Ê z,Ê Â]
theorem xP(a b c:Nat->Int):∀n,((List.range n).map a).sum+((List.range n).map b).sum+((List.range n).map c).sum=((List.range n).map λh=>a h+b h+c h).sum|0=>rfl|n+1=>by simp only[List.range_succ,List.map_append,List.sum_append,List.map_cons,List.map_nil,List.sum_cons,List.sum_nil];have:=xP a b c n;lia
theorem pJ(a b:Nat->Int):∀n,((List.range n).map λh=>a h-b h).sum=((List.range n).map a).sum-((List.range n).map b).sum|0=>rfl|n+1=>by simp only[List.range_succ,List.map_append,List.sum_append,List.map_cons,List.map_nil,List.sum_cons,List.sum_nil];have:=pJ a b n;lia
theorem zr{Y s:Nat}{k:Int}(hs:s<3)(h0:0<=k)(h1:k<=Y+1):tb (rY ps ss Y 3) s k=((List.range (Y+1)).map λ(h:Nat)=>if k<=(h:Int)then aK (bh ps ss (s:Int) (h:Int))else 0).sum:=by
 have e:(rY ps ss Y 3).getD s []=nY (clT ps ss Y s):=by unfold rY;rw[ę,Ą,Zap hs];rfl
 unfold tb;rw[e];exact BX h0 Â
theorem zu{Y s:Nat}{k:Int}(hs:s<3)(h0:0<=k)(h1:k<=Y+1):tb (rZ cs Y 3) s k=((List.range (Y+1)).map λ(h:Nat)=>if k<=(h:Int)then fl (cs.getD h []) s else 0).sum:=by
 have e:(rZ cs Y 3).getD s []=nY (wlT cs Y s):=by unfold rZ;rw[ę,Ą,Zap hs];rfl
 unfold tb;rw[e];exact BX h0 Â
theorem jN{Y:Nat}(ok:zq Y p):jx cs ps ss Y p=((List.range (Y+1)).map λh=>((List.range 3).map (ł cs ps ss p h)).sum).sum:=by
 have f0:=BR ok (s:=0) Ù;have f1:=BR ok (s:=1) Ù;have f2:=BR ok (s:=2) Ù;have m0:=BV ok (s:=0) Ù;have m1:=BV ok (s:=1) Ù;have m2:=BV ok (s:=2) Ù;unfold jx shV;show(tb _ 0 _+(tb _ 1 _+(tb _ 2 _+0)))-(tb _ 0 _+(tb _ 1 _+(tb _ 2 _+0)))=_;rw[zr Ù f0.1 f0.2,zr Ù f1.1 f1.2,zr Ù f2.1 f2.2,zu Ù m0.1 m0.2,zu Ù m1.1 m1.2,zu Ù m2.1 m2.2];have e:((List.range (Y+1)).map λh=>((List.range 3).map (ł cs ps ss p h)).sum)=(List.range (Y+1)).map λh=>ł cs ps ss p h 0+ł cs ps ss p h 1+ł cs ps ss p h 2:=by refine Zax λh _=>?_;show ł cs ps ss p h 0+(ł cs ps ss p h 1+(ł cs ps ss p h 2+0))=_;lia
 rw[e,<-xP];unfold ł;rw[pJ,pJ,pJ];lia
end K40
open K40P (ok_b)
namespace K40
open PySem L2
def Ng(P:Program)(w:World)(K:Frag)(mg:ŋ)(base:Heap)(k:Nat)(x:Str)(ps:ð)(sp:Sp):Prop:=∃f fd,Ñ P w K mg base (ο P w) k f fd ps sp/\mg x=some (.ref f)/\PySem.W.keepIn K (.ref f)=true/\û K fd ps []
theorem K6{p pos:Pos}(c:Ng X.prog X.w X.K X.mg X.base j x ps sp)(hr:ï k X.A)(hjk:j<=k)(hg:Gl X x)(W:wK X λa C H=>E (.ref a) (some C) H)(hx:X.ex=[])(ha:PA X (e::es) t)(fy:Δ x:=by decide)(he:Qab X e es:=by rfl)(fw:Qac X pos es:=by rfl):PE X (.Call (.Name x p) (e::es) [] pos) (vJ sp [] E t):=by obtain⟨f,fd,F,m,k',b⟩:=c;exact zN F (hr.mono hjk) hg m k' b .nil (Kz W hx) ha fy he fw
abbrev VE:ā:=[.type "ValueError",.type "Exception",.type "BaseException",.type "object"]
def words:ð:=["clips","promises","sales","book","number","year","weights","paper","growth","promise","sort","clip","sale","deed","text","line"]
def HX(j:Nat):PyData:=.tuple [.str (words.getD j "")]
theorem d8(h:te σ H λx H1=>tr σ H1 λxs H2=>Q (x::xs) H2):iD te tr σ H Q:=h
theorem HY:PE X e (λ_ _ _=>False):=λ_ _ _ _ _ _ h=>h.elim
structure BT(X:Cx)(e:Expr)(t:TT):Prop where run:PT X e t
section
variable{ta tb tl:TE}
theorem I9{j}(hl:BE X (.Name y q') tl)(hline:(p.endLine==pos.line)=true:=by rfl):BE X (.Call (.Attribute (.Name y q') "count" p) [.Constant (.bool k) j q] [] pos) (tBM X.K "list" Aq tl (iD (tC (.bl k)) vI)):=⟨fD Β PySem.F.slot_list_count PySem.F.type_list_count Do hl.run (aq kW ao) (hline:=hline)⟩
theorem Ia{j}(hl:BE X (.Name y q') tl)(hline:(p.endLine==pos.line)=true:=by rfl):BE X (.Call (.Attribute (.Name y q') "index" p) [.Constant (.bool k) j q] [] pos) (tBM X.K "list" Ar tl (iD (tC (.bl k)) vI)):=⟨fD Β PySem.F.slot_list_index PySem.F.type_list_index Dp hl.run (aq kW ao) (hline:=hline)⟩
theorem Nh(hc:BT X c t)(ha:BE X a ta)(hb:BE X b tb):BE X (.IfExp c a b pos) (tIf t ta tb):=⟨kY hc.run ha.run hb.run⟩
theorem Ni(h:BE X (.Subscript a b p) ta):BT X (.Subscript a b p) (tB ta):=⟨dD h.run⟩
theorem pK{es ks}(h:BE X (.Call a es ks p) ta):BT X (.Call a es ks p) (tB ta):=⟨dD h.run⟩
theorem vy(h:BT X a t):BT X (.UnaryOp .Not a pos) (Nv t):=⟨cR h.run⟩
theorem Nj(ha:BT X a t)(hb:BT X b u):BT X (.BoolOp .Or [a,b] pos) (tOr t u):=⟨PW.pt (nZ ha.run (pP hb.run))⟩
theorem Q3{j}(ha:BE X a ta):BT X (.Compare a [.NotEq] [.Constant (.int i) j q] pos) (Eu (Ϲ rNe ta (tC (.int i)))):=⟨bu Ko ha.run aB (bj _)⟩
theorem xQ(hc:BT X c t)(hx:BSs X x v)(hy:BSs X y z):BS X (.If c x y pos) (Nz t v z):=⟨cO hc.run hx.run hy.run⟩
theorem mU:BSs X [] En:=⟨bD⟩
end
structure Z10(mg:ŋ)(Cs:Nat->Addr):Prop where n0:mg "NoClips"=some (.ref (Cs 0))n1:mg "NoPromises"=some (.ref (Cs 1))n2:mg "NoSales"=some (.ref (Cs 2))n3:mg "NoBook"=some (.ref (Cs 3))n4:mg "NoNumber"=some (.ref (Cs 4))n5:mg "NoYear"=some (.ref (Cs 5))n6:mg "NoWeights"=some (.ref (Cs 6))n7:mg "NoPaper"=some (.ref (Cs 7))n8:mg "NoGrowth"=some (.ref (Cs 8))n9:mg "NoPromise"=some (.ref (Cs 9))n10:mg "NoSort"=some (.ref (Cs 10))n11:mg "NoClip"=some (.ref (Cs 11))n12:mg "NoSale"=some (.ref (Cs 12))n13:mg "NoDeed"=some (.ref (Cs 13))n14:mg "NoText"=some (.ref (Cs 14))n15:mg "NoLine"=some (.ref (Cs 15))n16:mg "TooMany"=some (.ref (Cs 16))wool:mg "WoolError"=some (.ref (Cs 17))
structure Ϸ(K:Frag)(Cs:Nat->Addr)(j:Nat):Prop where
 lt:j<16
 ex:Z0d K (Cs j)ca:ž K (Cs j) (Cs 17)on:∀i,i<17->PySem.W.kitOne K (.ref (Cs j)) (.ref (Cs i))=some (decide (i=j))ve:PySem.W.kitOne K (.ref (Cs j)) (.type "ValueError")=some true
inductive ϥ(K:Frag)(Cs:Nat->Addr)(vs:List V)(H:Hp)(Q:VK):Prop|mk:∀a j,(vs=[.ref a])->(H a=some (.ext (Ā a (Cs j))))->(Ϸ K Cs j)->(∀p H',À H H'->H' p=some (.tup [.str (words.getD j "")])->Q (.ref p) H')->ϥ K Cs vs H Q
def Ib(K:Frag)(Cs:Nat->Addr):Sp:=λvs H Q _=>ϥ K Cs vs H Q
def ń(j:Nat):List Bool:=(List.range 17).map λi=>decide (i=j)
theorem xR:∀j,j<17->(ń j).count true=1:=by decide+kernel
theorem Ie(h:j<17):(ń j)[j]?=some true:=by unfold ń;rw[Ą,Zap h];simp
theorem Ig(h:i<j):(ń j)[i]?≠some true:=by
 unfold ń;rw[Ą];by_cases hi:i<17;.rw[Zap hi];simp;lia
 .rw[Zau (by simp;lia)];simp
theorem K8:bootBuiltins "ValueError"=some (.type "ValueError"):=by decide+kernel
theorem Ih{j:Nat}(h:j<16):ĭ (words.map V.str) (j:Int)=some (.str (words.getD j "")):=by
 have hl:words.length=16:=O;have:words[j]?=some (words.getD j ""):=by rw[ę,á Â];rfl
 refine cJ ?_;rw[Ą,this];rfl
theorem dN{p q r pos:Pos}(hN:X.N[i]?=some y)(hv:Vis X.env.scope y)(hI:Gl X "isinstance")(mI:X.mg "isinstance"=none)(hg:Gl X x)(hm:X.mg x=some (.ref D))(hd:(y==("__debug__":Str))=false:=by decide)(ff:(y==("__classdict__":Str))=false:=by decide)(hd2:Δ x:=by decide):BE X (.Call (.Name "isinstance" p) [.Name y q,.Name x r] [] pos) (tCB (λxs H Q=>∃a C c b,xs=[.ref a,c]/\H a=some (.ext (Ā a C))/\Z0d X.K C/\((∃D,c=.ref D/\PySem.W.kitOne X.K (.ref C) (.ref D)=some b)\/∃n,c=.ty n/\PySem.W.kitOne X.K (.ref C) (.type n)=some b)/\Q (.bl b) H) (iD (Ck i) (iD (tC (.ref D)) vI))):=⟨aJ lV hI mI Ø (aq (xT hN hv hd ff) (aq (cu (v:=.ref D) hg hm O hd2) ao))⟩
theorem dR(Z:Ϸ K Cs j)(hi:i<17)(e:H a=some (.ext (Ā a (Cs j))))(ij:σ[0]?=some (some (.ref a)))(h:Q (.bl (decide (i=j))) H):tCB (λxs H Q=>∃a C c b,xs=[.ref a,c]/\H a=some (.ext (Ā a C))/\Z0d K C/\((∃D,c=.ref D/\PySem.W.kitOne K (.ref C) (.ref D)=some b)\/∃n,c=.ty n/\PySem.W.kitOne K (.ref C) (.type n)=some b)/\Q (.bl b) H) (iD (Ck 0) (iD (tC (.ref (Cs i))) vI)) σ H Q:=⟨_,ij,a,Cs j,.ref (Cs i),_,O,e,Z.ex,.inl ⟨_,O,Z.on i hi⟩,h⟩
theorem Κ:Ã ["_law_e","_law_names","_law_kinds"] ["_law_e"] (aD (top 91)):=ú
theorem K9(F:æ K "_law_kind" "_law_kind" (top 91) f fd)(T:Mg mg)(Tv:mg "ValueError"=none)(L:Z10 mg Cs):ű P w K mg base å 1 f fd ["_law_e"] (Ib K Cs):=by
 refine F.oqU Κ λar A outer s H vs Q E hr h=>?_;obtain⟨a,j,rfl,ea,Z,q⟩:=h;refine ok_b (aN (fM 1 Κ.nd (fQ (bf dh (bf dh (bf dh (bf dh (bf dh (bf dh (bf dh (bf dh (bf dh (bf dh (bf dh bN))))))))))))) (aN (fM 1 Κ.nd (jL jQ ⟨pv 1⟩ (fQ (bf dh (bf dh (bf dh (bf dh (bf dh bN)))))))) (aN (fM 2 Κ.nd (fQ (bf (dN (i:=0) O (Or.inl O) O T.isinstance O L.n0) (bf (dN (i:=0) O (Or.inl O) O T.isinstance O L.n1) (bf (dN (i:=0) O (Or.inl O) O T.isinstance O L.n2) (bf (dN (i:=0) O (Or.inl O) O T.isinstance O L.n3) bN)))))) (aN (fM 2 Κ.nd (jL jQ ⟨pv 2⟩ (fQ (bf (dN (i:=0) O (Or.inl O) O T.isinstance O L.n4) (bf (dN (i:=0) O (Or.inl O) O T.isinstance O L.n5) (bf (dN (i:=0) O (Or.inl O) O T.isinstance O L.n6) bN)))))) (aN (fM 2 Κ.nd (jL jQ ⟨pv 2⟩ (fQ (bf (dN (i:=0) O (Or.inl O) O T.isinstance O L.n7) (bf (dN (i:=0) O (Or.inl O) O T.isinstance O L.n8) (bf (dN (i:=0) O (Or.inl O) O T.isinstance O L.n9) bN)))))) (aN (fM 2 Κ.nd (jL jQ ⟨pv 2⟩ (fQ (bf (dN (i:=0) O (Or.inl O) O T.isinstance O L.n10) (bf (dN (i:=0) O (Or.inl O) O T.isinstance O L.n11) (bf (dN (i:=0) O (Or.inl O) O T.isinstance O L.n12) (bf (dN (i:=0) O (Or.inl O) O T.isinstance O L.n13) bN))))))) (aN (fM 2 Κ.nd (jL jQ ⟨pv 2⟩ (fQ (bf (dN (i:=0) O (Or.inl O) O T.isinstance O L.n14) (bf (dN (i:=0) O (Or.inl O) O T.isinstance O L.n15) (bf (dN (i:=0) O (Or.inl O) O T.isinstance O L.n16) bN)))))) (aN (xQ (Nj (Q3 (I9 ⟨pv 2⟩)) (vy (pK ⟨aJ lV O T.isinstance Ø (aq (pv 0) (aq (ig O Tv K8 (v:=.ty "ValueError") O) ao))⟩))) (cj (fU (gA (bf dh bN)))) mU) (cj (fU (Nh (Ni (tG bO ⟨pv 2⟩ j6 (λ_ _=>rfl))) ⟨HY⟩ (gA (bf (tG bO ⟨pv 1⟩ (Ia ⟨pv 2⟩) (λ_ _=>rfl)) bN))))))))))))) ?_;refine aP λc_ ae=>?_;refine⟨by decide,λp1 wm=>?_⟩;refine aG ?_;refine ae _ _ ?_;clear ae c_;try dsimp only
 refine fB (λH1=>À H H1/\H1 p1=some (.lst [.str "clips",.str "promises",.str "sales",.str "book",.str "number",.str "year",.str "weights",.str "paper",.str "growth",.str "promise",.str "sort"])) ⟨À.upd wm,aj⟩ λH1=>?_;rintro⟨s1,e1⟩;refine aP λc_ ae=>?_;refine⟨_,O,by decide,λp2 kf=>⟨p1,p2,_,_,O,O,À.upd kf _ _ e1,aj,by decide,λl2 iE=>?_⟩⟩;refine aG ?_;refine ae _ _ ?_;clear ae c_;try dsimp only
 refine fB (λH2=>À H H2/\H2 l2=some (.lst (words.map V.str))) ⟨(s1.updR kf).updR iE,aj⟩ λH2=>?_;rintro⟨s2,e2⟩;have Cb:=s2 _ _ ea;refine aP λc_ ae=>?_;refine aV (nM ?_);refine d8 ?_;refine dR (i:=0) Z Ù Cb O ?_;refine d8 ?_;refine dR (i:=1) Z Ù Cb O ?_;refine d8 ?_;refine dR (i:=2) Z Ù Cb O ?_;refine d8 ?_;refine dR (i:=3) Z Ù Cb O ?_;refine⟨zL,λp3 iX=>?_⟩;refine aG ?_;refine ae _ _ ?_;clear ae c_;try dsimp only
 refine fB (λH3=>À H H3/\H3 l2=some (.lst (words.map V.str))/\H3 p3=some (.lst ([decide (0=j),decide (1=j),decide (2=j),decide (3=j)].map V.bl))) ⟨s2.updR iX,À.upd iX _ _ e2,aj⟩ λH3=>?_;rintro⟨s3,e3,f3⟩;have OI:=s3 _ _ ea;refine aP λc_ ae=>?_;refine aV ?_;refine⟨_,O,?_⟩;refine nM (d8 ?_);refine dR (i:=4) Z Ù OI O ?_;refine d8 ?_;refine dR (i:=5) Z Ù OI O ?_;refine d8 ?_;refine dR (i:=6) Z Ù OI O ?_;refine⟨zL,λp4 A4=>⟨p3,p4,_,_,O,O,À.upd A4 _ _ f3,aj,zL,λl4 fI=>?_⟩⟩;refine aG ?_;refine ae _ _ ?_;clear ae c_;try dsimp only
 refine fB (λH4=>À H H4/\H4 l2=some (.lst (words.map V.str))/\H4 l4=some (.lst ([decide (0=j),decide (1=j),decide (2=j),decide (3=j),decide (4=j),decide (5=j),decide (6=j)].map V.bl))) ⟨(s3.updR A4).updR fI,À.upd fI _ _ (À.upd A4 _ _ e3),aj⟩ λH4=>?_;rintro⟨s4,e4,f4⟩;have OK:=s4 _ _ ea;refine aP λc_ ae=>?_;refine aV ?_;refine⟨_,O,?_⟩;refine nM (d8 ?_);refine dR (i:=7) Z Ù OK O ?_;refine d8 ?_;refine dR (i:=8) Z Ù OK O ?_;refine d8 ?_;refine dR (i:=9) Z Ù OK O ?_;refine⟨zL,λp5 CH=>⟨l4,p5,_,_,O,O,À.upd CH _ _ f4,aj,zL,λl5 Sj=>?_⟩⟩;refine aG ?_;refine ae _ _ ?_;clear ae c_;try dsimp only
 refine fB (λH5=>À H H5/\H5 l2=some (.lst (words.map V.str))/\H5 l5=some (.lst ([decide (0=j),decide (1=j),decide (2=j),decide (3=j),decide (4=j),decide (5=j),decide (6=j),decide (7=j),decide (8=j),decide (9=j)].map V.bl))) ⟨(s4.updR CH).updR Sj,À.upd Sj _ _ (À.upd CH _ _ e4),aj⟩ λH5=>?_;rintro⟨s5,e5,f5⟩;have JA:=s5 _ _ ea;refine aP λc_ ae=>?_;refine aV ?_;refine⟨_,O,?_⟩;refine nM (d8 ?_);refine dR (i:=10) Z Ù JA O ?_;refine d8 ?_;refine dR (i:=11) Z Ù JA O ?_;refine d8 ?_;refine dR (i:=12) Z Ù JA O ?_;refine d8 ?_;refine dR (i:=13) Z Ù JA O ?_;refine⟨zL,λp6 CI=>⟨l5,p6,_,_,O,O,À.upd CI _ _ f5,aj,zL,λl6 Iy=>?_⟩⟩;refine aG ?_;refine ae _ _ ?_;clear ae c_;try dsimp only
 refine fB (λH6=>À H H6/\H6 l2=some (.lst (words.map V.str))/\H6 l6=some (.lst ([decide (0=j),decide (1=j),decide (2=j),decide (3=j),decide (4=j),decide (5=j),decide (6=j),decide (7=j),decide (8=j),decide (9=j),decide (10=j),decide (11=j),decide (12=j),decide (13=j)].map V.bl))) ⟨(s5.updR CI).updR Iy,À.upd Iy _ _ (À.upd CI _ _ e5),aj⟩ λH6=>?_;rintro⟨s6,e6,f6⟩;have OL:=s6 _ _ ea;refine aP λc_ ae=>?_;refine aV ?_;refine⟨_,O,?_⟩;refine nM (d8 ?_);refine dR (i:=14) Z Ù OL O ?_;refine d8 ?_;refine dR (i:=15) Z Ù OL O ?_;refine d8 ?_;refine dR (i:=16) Z Ù OL O ?_;refine⟨zL,λp7 CL=>⟨l6,p7,_,_,O,O,À.upd CL _ _ f6,aj,zL,λl7 Sk=>?_⟩⟩;refine aG ?_;refine ae _ _ ?_;clear ae c_;try dsimp only
 refine fB (λH7=>À H H7/\H7 l2=some (.lst (words.map V.str))/\H7 l7=some (.lst ([decide (0=j),decide (1=j),decide (2=j),decide (3=j),decide (4=j),decide (5=j),decide (6=j),decide (7=j),decide (8=j),decide (9=j),decide (10=j),decide (11=j),decide (12=j),decide (13=j),decide (14=j),decide (15=j),decide (16=j)].map V.bl))) ⟨(s6.updR CL).updR Sk,À.upd Sk _ _ (À.upd CL _ _ e6),aj⟩ λH7=>?_;rintro⟨s7,e7,f7⟩;have Xh:=s7 _ _ ea;have f7:H7 l7=some (.lst ((ń j).map V.bl)):=f7;have lt:=Z.lt;refine aP λc_ ae=>?_;refine⟨_,O,.inl ⟨O,_,É.of f7⟩,l7,ń j,true,O,O,f7,O,_,O,?_⟩;rw[xR j Â];refine bB ?_;refine⟨_,O,a,Cs j,.ty "ValueError",true,O,Xh,Z.ex,.inr ⟨_,O,Z.ve⟩,_,O,?_⟩;refine bB (cW ?_);refine ae _ _ ?_;clear ae c_;try dsimp only
 refine⟨_,O,l7,_,16,.bl (decide (16=j)),O,O,É.of f7,O,_,O,?_⟩;rw[ħ (by lia:¬16=j)];refine bB ?_;refine⟨_,O,_,O,.inl ⟨O,_,É.of f7⟩,l7,ń j,true,j,O,O,f7,Ie Â,λi hi=>Ig hi,l2,_,j,_,O,O,É.of e7,Ih lt,zL,λp8 Xi=>?_⟩;exact q p8 _ (s7.updR Xi) aj
def toE(EX:Addr->Addr->Hp->Prop):XK:=λe C H=>match e,C with|.ref a,some C'=>EX a C' H|_,_=>False
def BZ(P:Program)(w:World)(K:Frag)(mg:ŋ)(base:Heap)(kk:Nat)(H:Hp)(fl:Addr)(Qw:VK)(Ew:Addr->Addr->Hp->Prop):Prop:=∃(fd:FuncData)(body:Expr)(N:ð)(vs:List V)(cs:Ň),Ž H fl fd/\ś fd body N/\(∀b o,cs.lookup b=some o->H b=some (held o))/\(∀x c,fd.closure.lookup x=some c->∃o v,cs.lookup c=some o/\o.data=.cell v)/\(∀(i:Nat)(x:Str)(v:V),N[i]?=some x->vs[i]?=some v->∃c u o,fd.closure.lookup x=some c/\Ò v u/\cs.lookup c=some o/\o.data=.cell (some u))/\vs.length=N.length/\∀(A:Around)(outer:List Env)(Q':VK)(E':XK),ï kk A->(∀v H1,Qw v H1->Q' v H1)->(∀a C H1,Ew a C H1->E' (.ref a) (some C) H1)->∃te,(∀s,PE (cxL P w K mg base N fd fl A outer s (er H cs) (λe C H1=>NoC cs H1->E' e C (fz H1 cs))) body te)/\te (vs.map some) (er H cs) λv H1=>NoC cs H1->Q' v (fz H1 cs)
theorem Nk{fl:Addr}(Mb:σ[i]?=some (some (.ref fl)))(L:BZ X.prog X.w X.K X.mg X.base kk H fl Qw Ew)(hr:ï kk X.A)(q1:∀v H1,Qw v H1->Q v H1)(q2:∀a C H1,Ew a C H1->E (.ref a) (some C) H1):Mu X i E σ H Q:=by obtain⟨fd,body,N,vs,cs,L,Z,fr,cell,val,hl,run⟩:=L;obtain⟨te,kP,q⟩:=run X.A X.stack Q E hr q1 q2;exact⟨fl,fd,body,N,vs,cs,te,Mb,L,Z,fr,cell,val,hl,kP,q⟩
def Nm(P:Program)(w:World)(K:Frag)(mg:ŋ)(base:Heap)(k:Nat)(x:Str)(ps:ð)(sp:Sp):Prop:=∃f fd,ű P w K mg base å k f fd ps sp/\mg x=some (.ref f)/\PySem.W.keepIn K (.ref f)=true/\û K fd ps []
theorem Ka{p pos:Pos}(c:Nm X.prog X.w X.K X.mg X.base j x ps sp)(hr:Ċ k X.A)(hjk:j<=k)(hg:Gl X x)(ha:PA X (e::es) t)(fy:Δ x:=by decide)(he:Qab X e es:=by rfl)(fw:Qac X pos es:=by rfl):PE X (.Call (.Name x p) (e::es) [] pos) (vJ sp [] E0 t):=by obtain⟨f,fd,F,m,k',b⟩:=c;exact Gb F (hr.mono hjk) hg m k' b ha fy he fw
inductive ϡ(P:Program)(w:World)(K:Frag)(mg:ŋ)(base:Heap)(Cs:Nat->Addr)(kk:Nat)(vs:List V)(H:Hp)(Q:VK):Prop|mk:∀fl Qw Ew,(vs=[.ref fl])->(BZ P w K mg base kk H fl Qw Ew)->((∀v H1,Qw v H1->∀p,H1 p=none->p≠sysModules->Q (.ref p) (upd H1 p (.lst [v]))))->((∀a C H1,Ew a C H1->∃j,C=Cs j/\Ϸ K Cs j/\(H1 a=none->∀p H2,À H1 H2->H2 p=some (.tup [.str (words.getD j "")])->Q (.ref p) H2)))->ϡ P w K mg base Cs kk vs H Q
def zx(P:Program)(w:World)(K:Frag)(mg:ŋ)(base:Heap)(Cs:Nat->Addr)(kk:Nat):Sp:=λvs H Q _=>ϡ P w K mg base Cs kk vs H Q
theorem Z0x:Ã [ABd,Ε,"_law_e"] [ABd] (aD (top 92)):=ú
theorem Kc(F:æ K "_law_said" "_law_said" (top 92) f fd)(L:Z10 mg Cs)(c1:Nm P w K mg base 1 "_law_kind" ["_law_e"] (Ib K Cs)):Ñ P w K mg base å (kk+2) f fd [ABd] (zx P w K mg base Cs kk):=by
 refine F.oq Z0x λar A outer s H vs Q E hr h=>?_;obtain⟨fl,Qw,Ew,rfl,S,q1,q2⟩:=h;refine⟨_,aC (Mt (i:=2) (tb:=λEX=>xV (Mu (jg å P w K mg base [ABd,Ε,"_law_e"] "_law_said" (aD (top 92)) f ar A outer s H E).nox 0 (toE EX)) (bU 1)) L.wool O Z0x.nd O O O O (λÁ xe EX W=>aF (đ 1 Z0x.nd (Mv (E:=toE EX) (k:=kk) (hr.mono Â) O (Or.inl O) W O))) (λv=>aF (aQ (Ka c1 (hr.toU.mark v) Â O (aq (pv 2) ao))))) (aF (aQ (uG (aq (pv 1) ao)))),?_⟩;refine aM (aV ?_);refine Nk (kk:=kk) O S (hr.mono Â) (λv H1 hq=>?_) (λa C H1 hE=>?_);.refine aG ?_;refine⟨_,O,zL,λp hp np=>q1 v H1 hq p hp np⟩
 .obtain⟨j,rfl,Z,q3⟩:=q2 a C H1 hE;refine⟨Z.ca,λav ij fa=>⟨.ref a,?_,a,j,O,aj,Z,λp H2 s2 e2=>q3 fa p H2 ((À.upd fa).trans s2) e2⟩⟩;rw[Za6];have ij:av.length=3:=ij;lia
open PySem.W in
def Np(K:Frag)(L:Ĉ)(j:Nat):Bool:=decide (j<16)&&((clsIn K (L.getD j 0)).isSome&&(findIn K (.ref (L.getD j 0)) "__getattribute__"==some (some (.builtin "BaseException.__getattribute__"))&&(findIn K (.ref (L.getD j 0)) "__getattr__"==some none&&(findIn K (.ref (L.getD j 0)) "__class__"==some (some (.builtin "object.__class__"))&&(specialIn K (.builtin "object.__class__") "__get__"==some (some (.builtin "getset_descriptor.__get__"))&&(takesIn K (.builtin "object.__class__")==some true&&(mroIn K (L.getD j 0) (.type "object")==some true&&(mroIn K (L.getD j 0) (.type "BaseException")==some true&&(typeIn K (.ref (L.getD 17 0))==some (.type "type")&&((clsIn K (L.getD 17 0)).isSome&&(subIn K (.ref (L.getD 17 0)) (.type "BaseException")==some true&&(subIn K (.ref (L.getD j 0)) (.ref (L.getD 17 0))==some true&&((List.range 17).all (λi=>kitOne K (.ref (L.getD j 0)) (.ref (L.getD i 0))==some (decide (i=j)))&&kitOne K (.ref (L.getD j 0)) (.type "ValueError")==some true)))))))))))))
theorem Q4(h:Np K L j=true):Ϸ K (λi=>L.getD i 0) j:=by unfold Np at h;simp only[Bool.and_eq_true,beq_iff_eq,č]at h;obtain⟨h0,h1,h2,h3,h4,h5,h6,h7,h8,h9,Xj,Xk,Xl,Xm,Xn⟩:=h;refine⟨h0,⟨h1,h2,h3,h4,h5,h6,h7,h8⟩,⟨h9,Xj,Xk,Xl⟩,λi hi=>?_,Xn⟩;have:=ņ.mp Xm i (Ϙ.mpr hi);simpa using this
theorem tab_mk(h1:PySem.W.nsIn K mainGlobals x=some (some (.ref f)))(h2:K.lookup f=some ⟨a1,b1,.func fd,s1⟩)(h3:fd.code=.ref c)(h4:K.lookup c=some ⟨a2,b2,.fields vs,s2⟩)(h5:vs[11]?=some (.ref T)):PySem.W.tabIn K x=some (c,T):=by unfold PySem.W.tabIn;rw[h1];show(match K.lookup f with|some ⟨_,_,.func fd,_⟩=>_|_=>none)=_;rw[h2];show(match fd.code with|.ref c=>_|_=>none)=_;rw[h3];show(match K.lookup c with|some ⟨_,_,.fields vs,_⟩=>_|_=>none)=_;rw[h4];show(match vs[11]? with|some (.ref P)=>some (c,P)|_=>none)=_;rw[h5]
def jy(d:PyData)(y:Int):Bool:=bA d 3&&(items d).all λx=>decide (0<=à x)&&decide (à x<=y+1)
theorem qZ(h:jy d y=true):∃p,d=cN p/\zq y p:=by
 unfold jy at h;rw[Ī]at h;obtain⟨h1,h2⟩:=h;obtain⟨e1,e2⟩:=iJ h1
 cases d with|tuple ds=>
  refine⟨ds.map à,?_,?_,λx hx=>?_⟩;.show PyData.tuple ds=.tuple ((ds.map à).map PyData.int);rw[ĳ];congr 1;refine(Zax λx hx=>?_).symm.trans (List.map_id _)|>.symm;have:=e2 x hx;cases x with|int i=>rfl;|_=>cases this
  .rw[Õ];have:(decide ((3:Int)<=ds.length)&&decide ((ds.length:Int)<=3))=true:=e1;simp at this;lia
  .obtain⟨d,hd,rfl⟩:=ó.mp hx;have:=ņ.mp h2 d hd;simp at this;exact this;|_=>cases e1
inductive Ϧ(vs:List V)(H:Hp)(Q:VK):Prop|mk:∀S y v d,(vs=[.int y,v])->(Ó S H v d)->(sz d<=4000)->(∀H',À H H'->Q (.bl (jy d y)) H')->Ϧ  vs H Q
def zy:Sp:=λvs H Q _=>Ϧ  vs H Q
def Q5(Cs:Nat->Addr)(o:Option Nat)(R:VK->Hp->Prop)(H:Hp)(Q:VK)(E:XK):Prop:=(∀j,o=some j->∀a H',À H H'->H' a=none->E (.ref a) (some (Cs j)) H')/\(o=none->R Q H)
def Ca(R:UV->UV->UV->Int->PyData->VK->XK->Hp->Prop):Sp:=λvs H Q E=>∃S bk y d ac xc cs ap xp ps ai xs ss S2 v e,vs=[.ref bk,.int y,v]/\Ó S H (.ref bk) d/\sz d<=4000/\oE d=true/\ğ H bk ac xc cs ap xp ps ai xs ss/\0<=y/\y<cs.length/\Ó S2 H v e/\sz e<=4000/\R cs ps ss y e Q E H
def Q6:UV->UV->UV->Int->PyData->VK->XK->Hp->Prop:=λ_ _ _ y e Q _ H=>∀H',À H H'->Q (.bl (jy e y)) H'
def jz(e:PyData)(y:Int):Option Nat:=if jy e y=true then none else some 7
def shY(Cs:Nat->Addr):UV->UV->UV->Int->PyData->VK->XK->Hp->Prop:=λcs ps ss y e Q E H=>Q5 Cs (jz e y) (λQ H=>∀H',À H H'->∀p,e=cN p->Q (.int (jx cs ps ss y.toNat p)) H') H Q E
theorem Kd(F:æ K "is_paper_for" "is_paper_for" (top 70) f fd)(T:Mg mg)(N:Nums mg)(c1:â P w K mg base 2 "are_wholes" ["thing","many"] (Gm bA)):Ñ P w K mg base å 3 f fd ["year","thing"] zy:=by refine F.oq R7 λar A outer s H vs Q E hr h=>?_;obtain⟨S,y,v,d,rfl,th,hz,q⟩:=h;obtain⟨t1,e1⟩:=N.sorts;refine⟨_,aF (aQ (cD (aH c1 hr (aq (pv 1) (aq (cu (v:=.int 3) O e1 ⟨_,O⟩) ao))) (dH (aJ (fG O) O T.all ù (aq (bz ["since","year"] [none,some 0] O (gw (pv 1)) (λC fp Á s₂ Ï=>⟨Ô 0 R6,bx,du bW bW aB (pv 0) (aU bw (pv 1) aB)⟩) (λC=>cI trivial) ⟨O,O,O,O⟩) ao))))),?_⟩;refine⟨_,O,S,v,d,3,O,th,hz,λH1 s1=>⟨_,O,?_⟩⟩;have fA:=th.same s1;unfold jy at q;cases e:bA d 3 with|false=>rw[e]at q;exact bB (q _ s1);|true=>rw[e]at q;refine bK ?_;obtain⟨e1,e2⟩:=iJ e;cases fA with|@tup a xs ds ea r=>refine dG (λx=>decide (0<=à x)&&decide (à x<=y+1)) O ea r (fJ r hz) (λv d H2 Q2 hm s2 t2 q2=>?_) λH2 s2=>q _ (s1.trans s2);obtain⟨i,rfl,rfl⟩:=gJ t2 (e2 d hm);have q3:Q2 (.bl (decide ((0:Int)<=i)&&decide (i<=y+1))) H2:=q2 H2 (À.refl _);refine cz (p:=λi j=>decide (i<=j)) (q:=λi j=>decide (i<=j)) (i:=0) (j:=i) (k:=y+1) (λQ q=>q) (dU O) (λQ q=>⟨_,O,_,_,O,O,q⟩) _ q3;|_=>cases e1
theorem Ke(F:æ K "is_paper" "is_paper" (top 72) f fd)(c1:â P w K mg base 8 "refuse_no_year" ["book","year"] (za K1))(c2:â P w K mg base 3 "is_paper_for" ["year","thing"] zy):Ñ P w K mg base å 9 f fd ["book","year","thing"] (Ca Q6):=by
 refine F.ok (N:=["book","year","thing"]) ú (λvs H Q E h=>?_) (λar A outer s H vs Q E hr h=>?_);.obtain⟨S,bk,y,d,ac,xc,cs,ap,xp,ps,ai,xs,ss,S2,v,e,rfl,_⟩:=h;rfl
 .obtain⟨S,bk,y,d,ac,xc,cs,ap,xp,ps,ai,xs,ss,S2,v,e,rfl,th,hz,hb,B,y0,y1,te,ze,q⟩:=h;exact⟨_,aC (cg (aH c1 hr (aq (pv 0) (aq (pv 1) ao)))) (aF (aQ (aH c2 hr (aq (pv 1) (aq (pv 2) ao))))),aM ⟨_,O,_,O,S,bk,y,d,ac,xc,cs,ap,xp,ps,ai,xs,ss,O,th,hz,hb,B,y0,y1,λH1 s1=>cW ⟨_,O,_,O,S2,y,v,e,O,te.same s1,ze,λH2 s2=>q _ (s1.trans s2)⟩⟩⟩
theorem Nq(F:æ K "shown_by" "shown_by" (top 73) f fd)(O7:PyProof.Rows.OwnCls "NoPaper" (Cs 7) VE "ValueError.__new__" mg base)(c1:â P w K mg base 8 "refuse_no_year" ["book","year"] (za K1))(c2:â P w K mg base 3 "is_paper_for" ["year","thing"] zy)(c3:â P w K mg base 3 "claimed_since" ["book","year"] (Ec N8))(c4:â P w K mg base 2 "wool_since" ["book","year"] (Ec Nb))(c5:â P w K mg base 1 "shown" ["claimed","wool","paper"] BP):Ñ P w K mg base (ο P w) 9 f fd ["book","year","paper"] (Ca (shY Cs)):=by refine F.oqX R8 λar A outer s H vs Q E hr h=>?_;obtain⟨S,bk,y,d,ac,xc,cs,ap,xp,ps,ai,xs,ss,S2,v,e,rfl,th,hz,hb,B,y0,y1,te,ze,qx,qv⟩:=h;refine⟨_,aC (cg (aH c1 hr (aq (pv 0) (aq (pv 1) ao)))) (aC (cO (cR (dD (aH c2 hr (aq (pv 1) (aq (pv 2) ao))))) (aF (Ga O7 PySem.F.excBase_ValueError O O O (aq xU ao) Jr)) bD) (aF (aQ (aH c5 hr (aq (aH c3 hr (aq (pv 0) (aq (pv 1) ao))) (aq (aH c4 hr (aq (pv 0) (aq (pv 1) ao))) (aq (pv 2) ao))))))),?_⟩;refine aM ?_;refine⟨_,O,_,O,S,bk,y,d,ac,xc,cs,ap,xp,ps,ai,xs,ss,O,th,hz,hb,B,y0,y1,λH1 s1=>?_⟩;dsimp only;refine aM ?_;refine⟨_,O,_,O,S2,y,v,e,O,te.same s1,ze,λH2 s2=>⟨_,O,?_⟩⟩;have qo:=s1.trans s2;unfold jz at qx qv;cases pe:jy e y with|false=>rw[Ê (by rw[pe];decide)]at qx;exact bK ⟨by decide,λa ha=>qx 7 O a _ qo ha⟩;|true=>
  rw[Ì pe]at qv;obtain⟨p,rfl,okp⟩:=qZ pe;have Xo:=te.same qo;obtain⟨t,rfl,et⟩:∃t,v=.ref t/\H2 t=some (.tup (p.map V.int)):=by cases Xo with|tup ea r=>exact⟨_,O,by rw[mF r]at ea;exact ea⟩
  refine bB (cW ?_);dsimp only;refine⟨_,O,_,O,bk,y,ac,xc,cs,ap,xp,ps,ai,xs,ss,O,B.same qo,y0,y1,λL1 a1 H3 s3 tC=>⟨_,O,_,O,bk,y,ac,xc,cs,ap,xp,ps,ai,xs,ss,O,(B.same qo).same s3,y0,y1,λL2 a2 H4 s4 tW=>?_⟩⟩;refine⟨_,O,L1,a1,_,L2,a2,_,t,p,y,O,tC.same s4,tW,by unfold rY;rw[Õ,Ż],by unfold rZ;rw[Õ,Ż],λr hr=>?_,λr hr=>?_,s4 _ _ (s3 _ _ et),okp,λH5 s5=>qv O _ (((qo.trans s3).trans s4).trans s5) p O⟩;.obtain⟨i,_,rfl⟩:=ó.mp hr;rw[xO];unfold clT;rw[Õ,Ż];lia
  .obtain⟨i,_,rfl⟩:=ó.mp hr;rw[xO];unfold wlT;rw[Õ,Ż];lia
theorem Nr(hr:ï k A):A.units<cLine:=by have:=hr.un;lia
inductive Z07(vs:List V)(H:Hp)(Q:VK):Prop|mk:∀bk y t p ac xc cs ap xp ps ai xs ss,(vs=[.ref bk,.int y,.ref t])->(ğ H bk ac xc cs ap xp ps ai xs ss)->(0<=y)->(y<cs.length)->(H t=some (.tup (p.map V.int)))->(zq y p)->(∀H',À H H'->Q (.int (jx cs ps ss y.toNat p)) H')->Z07  vs H Q
def Le:Sp:=λvs H Q _=>Z07  vs H Q
theorem Q7:(["_law_claim"]:ð).Nodup:=by decide+kernel
theorem Q8:([ω,"_law_here"]:ð).Nodup:=by decide+kernel
theorem ϱ:Ã [AAj,Į,Ĳ,ŀ,Ε,"_law_here",ϊ] [AAj,Į,Ĳ] (aD (top 98)):=ú
theorem Eh(F:æ K "_law_shown" "_law_shown" (top 98) f fd)(Tr:mg "range"=none)(Ts:mg "sum"=none)(c1:â P w K mg base 2 ABb [ć,ſ] pH)(c2:â P w K mg base 1 ABg [ć,ŀ,ϊ,Į] nU):Ñ P w K mg base å 3 f fd [AAj,Į,Ĳ] Le:=by
 refine F.oq ϱ λar A outer s H vs Q E hr h=>?_;obtain⟨bk,y,t,p,ac,xc,cs,ap,xp,ps,ai,xs,ss,rfl,B,y0,y1,et,okp,q⟩:=h;refine ok_b (aN ⟨ug (i:=3) (j:=4) O ϱ.nd O O Ù O O (aq (pX bJ (aH c1 hr (aq (pX bJ (pv 0) aB) (aq (pX bJ (pv 0) aB) ao))) aB) (aq aB ao)) O⟩ (aN ⟨cF Ł O (bV O Tr (aq (aU bw (pv 1) aB) ao)) (bF (i:=5) ϱ.nd O (Or.inr O)) (jl (cj ⟨cF Ł O (bV O Tr (aq aB ao)) (Ô 6 ϱ.nd) (jl (aN ⟨cO (bu vH (pv 5) (pX bJ (pv 2) (pv 6)) (bj _)) (aF (đ 4 ϱ.nd (aU bw (pv 4) (aJ (cM O) O Ts ä (aq (bz ["_law_claim"] [none] O (dF (aH c2 hr (aq (pX bJ (pv 0) aB) (aq (pv 3) (aq (pv 6) (aq (pv 5) ao)))))) (λC fp Á s₂ Ï=>⟨Ô 0 Q7,bx,pX (K40P.ix_tupK (K:=K) O) (pv 0) aB⟩) (λC=>trivial) ⟨O,O,O,O⟩) ao))))) bD⟩ (cj ⟨cO (bu (yG (Nr hr)) (bz [ω,"_law_here"] [none,some 5] O (gw (jh Bw (pv 2) (lz (pv 6)) lu)) (λC fp Á s₂ Ï=>⟨Ô 0 Q8,gF (bu vH (pv 1) (pv 0) (bj _)),pv 0⟩) (λC=>cI trivial) ⟨O,O,O,O⟩) (cX ao) (bj _)) (aF (đ 4 ϱ.nd (aU dJ (pv 4) (pX bJ (pX bJ (pX bJ (pv 0) aB) (pv 5)) (pv 6))))) bD⟩)))⟩))⟩ (cj (fU ⟨pv 4⟩)))) ?_;obtain⟨n,rfl⟩:∃n:Nat,y=n:=⟨y.toNat,Â⟩;rw[Ľ]at q;have hn:n<20:=by have:=B.lc;lia
 have l3:=okp.1;refine aP λc_ ae=>?_;refine⟨_,O,bk,_,1,.ref ap,O,O,Ð.of B.e,O,_,O,bk,_,2,.ref ai,O,O,Ð.of B.e,O,ap,xp,ps,ai,xs,ss,O,B.rp,B.lp,B.okp,B.rs,by have:=B.ls;lia,B.h5,λt0 fo H1 s1 AU hd=>⟨t0,_,0,.ref fo,O,O,Ð.of AU,O,⟨_,_,O,?_⟩⟩⟩;obtain⟨b,kvs,D⟩:=hd B.un;have D:ģ fo H H1 (Ź ps) (qY ps ss) b kvs:=D;refine ae _ _ ?_;clear ae c_;try dsimp only
 have B1:=B.same s1;have FO:=s1 _ _ et;clear AU hd;refine aM ?_;refine⟨_,O,_,_,O,O,(n:Int)+1,O,Â,Â,?_⟩;refine cY (lo:=0) (λi σ Hc=>∃x5 x6,σ=[some (.ref bk),some (.int n),some (.ref t),some (.ref fo),some (.int ((List.range i).map λh=>((List.range 3).map (ł cs ps ss p h)).sum).sum),x5,x6]/\À H1 Hc) ?_ ?_ ?_;.exact⟨none,none,O,À.refl _⟩
 .rintro i σ Hc hi⟨x5,x6,rfl,sc⟩;have hi:i<n+1:=Â;refine aG ?_;generalize hS:((List.range i).map λh=>((List.range 3).map (ł cs ps ss p h)).sum).sum=S0;refine⟨3,O,by decide,by decide,?_⟩;refine cY (lo:=0) (λj σ Hd=>∃x6,σ=[some (.ref bk),some (.int n),some (.ref t),some (.ref fo),some (.int (S0+((List.range j).map (ł cs ps ss p i)).sum)),some (.int (0+(i:Int))),x6]/\À H1 Hd) ?_ ?_ ?_;.refine⟨x6,?_,sc⟩;rw[show S0+((List.range 0).map (ł cs ps ss p i)).sum=S0 from Zbm S0];rfl
  .clear sc;rintro j σ Hd hj⟨x6,rfl,sc⟩;have hj:j<3:=hj;refine aG ?_;refine wW λDe JE=>?_;generalize OM:S0+((List.range j).map (ł cs ps ss p i)).sum=S1;have dv:ĭ (p.map V.int) (0+(j:Int))=some (.int (fl p j)):=by rw[ϵ];exact cJ (fX Â)
   refine aP λc_ ae=>?_;have eN:S0+((List.range (j+1)).map (ł cs ps ss p i)).sum=S1+ł cs ps ss p i j:=by rw[Za4 (n:=j),ë,Za8,<-OM];show S0+(_+(_+0))=_;lia
   have r2:∀x H2,À H1 H2->(x=S1+if fl p j<=(i:Int)then aK (bh ps ss (j:Int) (i:Int))else 0)->c_ [some (.ref bk),some (.int n),some (.ref t),some (.ref fo),some (.int x),some (.int (0+(i:Int))),some (.int (0+(j:Int)))] H2:=by
    intro x H2 s2 hx;refine ae _ _ ?_;refine⟨_,O,_,O,_,O,t,_,O,s2 _ _ FO,λc H3 s3 ec=>?_⟩;rw[ϵ,jm (by rw[Õ];lia),<-List.map_drop]at ec;have ne:p.drop j≠[]:=λz=>by have:=congrArg List.length z;rw[ϙ,l3]at this;simp at this;lia
    refine⟨c,O,⟨_,Ð.of ec⟩,fK (p.drop j).length (λk ys σ Hc=>À H3 Hc/\(∃o1,σ=[o1,some (.int (0+(i:Int)))])/\ys.isEmpty=!((p.drop j).take k).any (λv=>decide (v<=(i:Int)))) ⟨À.refl _,⟨_,O⟩,O⟩ (by rw[sizeLine_eq,ϙ];lia) ?_ ?_⟩
    .rintro k ys σ Hc hk hy⟨s4,⟨o1,rfl⟩,ey⟩;have gN:=Ð.of (K:=K) (s4 _ _ ec);have hx:((p.drop j).map V.int)[k]?=some (.int (p.drop j)[k]):=by rw[Ą,á hk];rfl
     refine⟨⟨_,_,gN,hx⟩,λv H' yv R hR=>?_⟩;obtain⟨rfl,yv⟩:=yv;have yv:=yv _ gN;rw[hx]at yv;cases yv;refine aG ?_;refine⟨_,O,_,O,_,_,O,O,_,O,?_⟩;have tk:((p.drop j).take (k+1)).any (λv=>decide (v<=(i:Int)))=(((p.drop j).take k).any (λv=>decide (v<=(i:Int)))||decide ((p.drop j)[k]<=(i:Int))):=by rw[ĺ,á hk,List.any_append];simp
     by_cases h:(p.drop j)[k]<=(i:Int);.rw[ø (show(p.drop j)[k]<=0+(i:Int)by lia)];refine bK ⟨_,O,hR _ _ _ (by rw[õ];show ys.length+1<=k+1;lia) ⟨s4,⟨_,O⟩,?_⟩⟩;rw[tk,ø h];simp
     .rw[ħ (show¬(p.drop j)[k]<=0+(i:Int)by lia)];refine bB (hR _ _ _ Â ⟨s4,⟨_,O⟩,?_⟩);rw[tk,ħ h,Bool.or_false];exact ey
    .rintro ys σ Hc hy⟨s4,_,ey⟩;rw[ň]at ey;have em:(p.drop j).any (λv=>decide (v<=(i:Int)))=decide (Ν (p.drop j)<=(i:Int)):=by
      by_cases h:Ν (p.drop j)<=(i:Int);.rw[ø h];exact List.any_eq_true.mpr ⟨_,pI ne,ø h⟩
      .rw[ħ h];refine List.any_eq_false.mpr λv hv=>?_;have:=zm v hv;simp;lia
     rw[em]at ey;refine⟨⟨_,Ð.of (s4 _ _ ec),by rw[Õ];exact Ü _⟩,λD hD=>⟨zL,λl hl=>?_⟩⟩;have sD:=À.upd (o:=.lst ys) hD;have eD:=À.upd (o:=.lst []) hl _ _ (aj (H:=Hc) (a:=D) (o:=.lst ys));have s5:À H2 (upd (upd Hc D (.lst ys)) l (.lst [])):=((s3.trans s4).updR hD).updR hl;refine⟨D,l,ys,O,O,É.of eD,É.of aj,_,O,?_⟩;generalize upd (upd Hc D (.lst ys)) l (.lst [])=H5 at s5;rw[ey,Bool.not_not];have ON:=s2.trans s5;have B5:=B1.same ON;by_cases h:Ν (p.drop j)<=(i:Int)
     .rw[ø h];refine bK ?_;have qE:i<cs.length:=Â;obtain⟨tc,ex,nX⟩:=B5.rc.g i cs[i] (á qE);have lc3:=(B.okc _ (Ė qE)).1;have A7:ĭ xc (0+(i:Int))=some (.ref tc):=by rw[ϵ];exact cJ ex
      have A8:ĭ (cs[i].map V.int) (0+(j:Int))=some (.int (fl (cs.getD i []) j)):=by rw[ϵ,ß qE];exact cJ (fX Â)
      refine aV ?_;refine⟨_,O,_,O,bk,_,0,.ref ac,O,O,Ð.of B5.e,O,_,O,ac,_,_,_,O,O,Ð.of B5.rc.e,A7,_,O,tc,_,_,_,O,O,Ð.of nX,A8,_,_,O,O,?_⟩;refine aG ?_;refine JE _ _ ⟨some (.int (0+(j:Int))),?_,ON⟩;have ex:x-fl (cs.getD i []) j=S0+((List.range (j+1)).map (ł cs ps ss p i)).sum:=by rw[eN,hx];unfold ł;rw[Ì h];generalize(if fl p j<=(i:Int)then aK (bh ps ss (j:Int) (i:Int))else 0)=w;lia
      rw[<-ex];rfl
     .rw[ħ h];refine bB (cW ?_);refine JE _ _ ⟨some (.int (0+(j:Int))),?_,ON⟩;rw[eN,hx];unfold ł;rw[Ê h,Int.sub_zero]
   refine⟨_,O,_,O,_,O,t,_,_,_,O,O,Ð.of (sc _ _ FO),dv,_,_,O,O,_,O,?_⟩;by_cases h:fl p j<=(i:Int)
   .rw[ø (show fl p j<=0+(i:Int)by lia)];refine bK (aV ?_);have Bd:=B1.same sc;refine⟨_,O,_,O,bk,_,1,.ref ap,O,O,Ð.of Bd.e,O,_,O,_,O,_,O,ap,xp,ps,fo,H,b,kvs,ss,_,_,O,Bd.rp,B.lp,B.okp,D.same sc,λl xl H3 s3 nl el fx=>⟨l,O,⟨_,É.of el⟩,?_⟩⟩;rw[ϵ,ϵ]at fx;have F9:∀r∈bh ps ss (j:Int) (i:Int),r.length=4:=λr hr=>(iR B.un B.h5 B.okp r hr).1.l;have Nn:=gY (ss:=ss) (sort:=(j:Int)) (year:=(i:Int)) B.lp;have lT:aK (bh ps ss (j:Int) (i:Int))=((bh ps ss (j:Int) (i:Int)).map λr=>fl r 3).sum:=O;rw[Ì h]at r2;obtain⟨cl,ej⟩:∃cl,cl=bh ps ss (j:Int) (i:Int):=⟨_,O⟩;rw[<-ej]at fx F9 Nn lT r2;have Xp:=fx.1;rw[Õ]at Xp;refine cA cl.length (λk ys σ He=>He=H3/\(∃o1,σ=[o1])/\ys=((cl.take k).map λr=>fl r 3).map V.int) ⟨O,⟨_,O⟩,O⟩ ų ?_ ?_
    .rintro k ys σ He hk hy⟨rfl,⟨o1,rfl⟩,rfl⟩;obtain⟨t,ex,et⟩:=fx.2 k (cl[k]).tail (by rw[Ą,á hk];rfl);refine⟨⟨_,_,É.of el,ex⟩,λv H' y' R' A6=>?_⟩;obtain⟨rfl,y'⟩:=y';have hv:=y' _ (É.of el);rw[ex]at hv;cases hv;refine aG ?_;have l4:=F9 _ (Ė hk);have e3:(cl[k]).tail.getD 2 0=fl cl[k] 3:=by cases hc:cl[k]with|nil=>rfl;|cons x r=>rfl
     refine⟨_,O,t,_,2,_,O,O,Ð.of et,cJ (j:=2) (fX (by rw[List.length_tail];lia)),A6 _ _ _ ⟨O,⟨_,O⟩,?_⟩⟩;rw[ĺ,á hk,ë,ë,e3];rfl
    .rintro ys σ He hy⟨rfl,_,rfl⟩;rw[ň];refine⟨⟨_,É.of el,Â⟩,λD3 Xq=>⟨D3,_,O,.inl (É.of aj),_,_,O,O,?_⟩⟩;refine aG ?_;refine r2 _ _ ((sc.trans s3).updR Xq) ?_;rw[lT]
   .rw[ħ (show¬fl p j<=0+(i:Int)by lia)];refine bB (cW ?_);refine r2 _ _ sc ?_;rw[Ê h,Zbm]
  .rintro σ Hd⟨x6,rfl,sc⟩;refine⟨some (.int (0+(i:Int))),x6,?_,sc⟩;have e:((List.range (i+1)).map λh=>((List.range 3).map (ł cs ps ss p h)).sum).sum=S0+((List.range 3).map (ł cs ps ss p i)).sum:=by rw[Za4 (n:=i),ë,Za8,hS];show S0+(_+0)=_;rw[Zbm]
   rw[e];rfl
 .rintro σ Hc⟨x5,x6,rfl,sc⟩;dsimp only;refine j7 ?_;have:=q Hc (s1.trans sc);rw[jN okp]at this;exact⟨_,O,this⟩
structure TB(H:Hp)(bk ac:Addr)(xc:List V)(cs:UV)(ap:Addr)(xp:List V)(ps:UV)(ai:Addr)(xs:List V)(ss:UV):Prop where
 b:ğ H bk ac xc cs ap xp ps ai xs ss
 okc:∀r∈cs,okC r
 lc1:1<=cs.length
section
theorem TB.same(h:TB H bk ac xc cs ap xp ps ai xs ss)(s:À H H'):TB H' bk ac xc cs ap xp ps ai xs ss:=⟨h.b.same s,h.okc,h.lc1⟩
theorem TB.keep(h:TB H bk ac xc cs ap xp ps ai xs ss)(k:∀b l,H b=some (.tup l)->H' b=some (.tup l)):TB H' bk ac xc cs ap xp ps ai xs ss:=⟨⟨k _ _ h.b.e,h.b.rc.keep k,h.b.okc,h.b.lc,h.b.rp.keep k,h.b.lp,h.b.okp,h.b.rs.keep k,h.b.ls,h.b.h5,h.b.un⟩,h.okc,h.lc1⟩
theorem TB.th(h:TB H bk ac xc cs ap xp ps ai xs ss):Ó (λ_=>False) H (.ref bk) (.tuple [bY cs,bY ps,bY ss]):=.tup h.b.e (.cons h.b.rc.th (.cons h.b.rp.th (.cons h.b.rs.th .nil)))
theorem TB.sz(h:TB H bk ac xc cs ap xp ps ai xs ss):L2.sz (.tuple [bY cs,bY ps,bY ss])<=4000:=by show 1+((1+ô (cs.map cN))+((1+ô (ps.map cN))+((1+ô (ss.map cN))+0)))<=4000;rw[mR (k:=3) λr hr=>(h.okc r hr).1,mR (k:=6) λr hr=>(h.b.okp r hr).1,mR (k:=5) h.b.h5];have:=h.b.lc;have:=h.b.lp;have:=h.b.ls;lia
theorem TB.ok(h:TB H bk ac xc cs ap xp ps ai xs ss):oE (.tuple [bY cs,bY ps,bY ss])=true:=K3 h.lc1 h.b.lc h.okc h.b.lp h.b.okp h.b.ls h.b.h5 h.b.un
theorem TB.by_{y:Int}(h:TB H bk ac xc cs ap xp ps ai xs ss)(y0:0<=y)(y1:y<cs.length)(q:R cs ps ss y Q H):za R [.ref bk,.int y] H Q E0:=⟨λ_=>False,bk,y,_,ac,xc,cs,ap,xp,ps,ai,xs,ss,O,h.th,h.sz,h.ok,h.b,y0,y1,q⟩
end
theorem mV:∀{l:WF},(∀a∈l,-M<=a/\a<=M)->-(M*l.length)<=l.sum/\l.sum<=M*l.length
 |[],_=>by simp;|x::r,h=>by
  have hx:=h x (.head _);have hr:=mV λa ha=>h a (.tail _ ha);have e:M*((r.length+1:Nat):Int)=M*r.length+M:=by rw[Int.natCast_succ,Int.mul_add,Int.mul_one]
  rw[Ļ,ĵ,e];lia
theorem Nt(B:TB H bk ac xc cs ap xp ps ai xs ss)(p:WF)(h s:Nat):-9000<=ł cs ps ss p h s/\ł cs ps ss p h s<=9000:=by
 have h1:-(99*((bh ps ss (s:Int) (h:Int)).length:Int))<=aK (bh ps ss (s:Int) (h:Int))/\aK (bh ps ss (s:Int) (h:Int))<=99*(bh ps ss (s:Int) (h:Int)).length:=by
  have:=mV (M:=99) (l:=(bh ps ss (s:Int) (h:Int)).map λr=>fl r 3) λa ha=>by obtain⟨r,hr,rfl⟩:=ó.mp ha;have o:=(iR B.b.un B.b.h5 B.b.okp r hr).1;have:=o.s0;have:=o.s1;lia
  rw[Õ]at this;exact this
 have h2:=gY (ss:=ss) (sort:=(s:Int)) (year:=(h:Int)) B.b.lp;have h3:0<=fl (cs.getD h []) s/\fl (cs.getD h []) s<1000:=by
  unfold fl;by_cases hh:h<cs.length
  .rw[ß hh];obtain⟨l3,b3⟩:=B.okc _ (Ė hh);by_cases hs:s<cs[h].length;.rw[ę,á hs];exact b3 _ (Ė hs)
   .rw[ę,Zau Â];decide
  .rw[ę (l:=cs),Zau Â];show(0:Int)<=0/\(0:Int)<1000;decide
 unfold ł;split<;>split<;>lia
theorem Ii(B:TB H bk ac xc cs ap xp ps ai xs ss){Y:Nat}(hY:Y<20)(ok:zq Y p):-540000<=jx cs ps ss Y p/\jx cs ps ss Y p<=540000:=by
 rw[jN ok];have:=mV (M:=27000) (l:=(List.range (Y+1)).map λh=>((List.range 3).map (ł cs ps ss p h)).sum) λa ha=>by
  obtain⟨h,_,rfl⟩:=ó.mp ha;have:=mV (M:=9000) (l:=(List.range 3).map (ł cs ps ss p h)) λa ha=>by obtain⟨s,_,rfl⟩:=ó.mp ha;exact Nt B p h s
  rw[Õ,Ż]at this;lia
 rw[Õ,Ż]at this;lia
def ı(o:Option Nat)(z:Int)(H:Hp)(v:V):Prop:=match o with|some j=>∃p,v=.ref p/\H p=some (.tup [.str (words.getD j "")])|none=>∃p,v=.ref p/\p≠sysModules/\H p=some (.lst [.int z])
def zz(o:Option Nat)(z:Int):PyData:=match o with|some j=>HX j|none=>.list [.int z]
theorem ı.keep(h:ı o z H v)(k:∀b xs,H b=some (.tup xs)->H' b=some (.tup xs))(kl:∀b xs,H b=some (.lst xs)->H' b=some (.lst xs)):ı o z H' v:=by cases o with|some j=>obtain⟨p,e,y⟩:=h;exact⟨p,e,k _ _ y⟩;|none=>obtain⟨p,e,n,y⟩:=h;exact⟨p,e,n,kl _ _ y⟩
theorem ı.th(h:ı o z H v):Ó (λa=>a≠sysModules) H v (zz o z):=by cases o with|some j=>obtain⟨p,rfl,y⟩:=h;exact .tup y (.cons (.str _) .nil);|none=>obtain⟨p,rfl,n,y⟩:=h;exact .lst n y (.cons (.int _) .nil)
theorem Ij{fl:Addr}(kd:∀j,o=some j->Ϸ K Cs j)(L:Ž H2 fl fd)(Z:ś fd body N)(C:Œ fd.closure N vs H2 cs)(hN:vs.length=N.length)(run:∀A outer E Q,ï kk A->Q5 Cs o (λQ H=>∀H',À H H'->Q (.int z) H') H2 Q E->∃te,(∀s,PE (cxL P w K mg base N fd fl A outer s H2 E) body te)/\te (vs.map some) H2 Q)(q:∀v H3,À (fz H2 cs) H3->ı o z H3 v->Q v H3):zx P w K mg base Cs kk [.ref fl] (fz H2 cs) Q E0:=by
 have no:NoC cs H2:=C.no;have Sl:∀b o,H2 b=some o->fz H2 cs b=some o:=λb o e=>by cases z:cs.lookup b with|some u=>rw[no b u z]at e;cases e;|none=>rw[eF z];exact e
 refine⟨fl,λv' H3=>o=none/\v'=.int z/\À (fz H2 cs) H3,λa C' H3=>∃j,o=some j/\C'=Cs j/\À (fz H2 cs) H3,O,⟨fd,body,N,vs,cs,?_,Z,λb o e=>tM e,C.cell,C.val,hN,λA' pT Q' E' kH h1 h2=>?_⟩,?_,?_⟩;.obtain⟨⟨o,e1,e2⟩,c,oc,vs,t,a1,a2,a3⟩:=L;exact⟨⟨o,Sl _ _ e1,e2⟩,c,oc,vs,t,a1,Sl _ _ a2,a3⟩
 .rw[Pa no];refine run A' pT _ _ kH ⟨λj hj a H' s' na Xr=>?_,λkn H' s' Xr=>?_⟩;.exact h2 a (Cs j) (fz H' cs) ⟨j,hj,O,s'.fz⟩
  .exact h1 _ (fz H' cs) ⟨kn,O,s'.fz⟩
 .rintro v' H3⟨kn,rfl,s3⟩p hp np;refine q _ _ (s3.updR hp) ?_;rw[kn];exact⟨p,O,np,aj⟩
 .rintro a C' H3⟨j,hj,rfl,s3⟩;refine⟨j,O,kd j hj,λfa p H4 s4 e4=>q _ _ (s3.trans s4) ?_⟩;rw[hj];exact⟨p,O,e4⟩
theorem Ik(d:PyData)(y:Int):(fP d&&(decide ((items d).length=3)&&(items d).all λx=>cP x&&(decide (0<=à x)&&decide (à x<=y+1))))=jy d y:=by
 rw[Zba];unfold jy bA bL;simp only[Bool.and_eq_true,č,List.all_eq_true];constructor;.rintro⟨a,b,c⟩;exact⟨⟨⟨a,Â,Â⟩,λx hx=>(c x hx).1⟩,λx hx=>(c x hx).2⟩
 .rintro⟨⟨⟨a,b,b'⟩,c⟩,e⟩;exact⟨a,Â,λx hx=>⟨c x hx,e x hx⟩⟩
def qnT:Str:=(PyProof.Rows.envOfC AAr (aD (top 99)) 0 0 .none).qual++"<lambda>"
abbrev ψ(cs ps ss:UV):PyData:=.tuple [bY cs,bY ps,bY ss]
inductive Χ(T:Addr)(qn:Str)(vs:List V)(H:Hp)(Q:VK):Prop|mk:∀S bk y v d ac xc cs ap xp ps ai xs ss,(vs=[.ref bk,.int y,v])->(¬S sysModules)->(TB H bk ac xc cs ap xp ps ai xs ss)->(0<=y)->(y<cs.length)->(Ó S H v d)->(ñ (.tuple [ψ cs ps ss,.int y,d])=true)->(L2.sz (.tuple [ψ cs ps ss,.int y,d])<=1000)->(ê H T qn)->(∀H',(∀b o,b≠T->H b=some o->H' b=some o)->ê H' T qn->Q (.bl true) H')->Χ T qn vs H Q
def Cd(T:Addr)(qn:Str):Sp:=λvs H Q _=>Χ T qn vs H Q
abbrev NR:ð:=[AAj,Į,Ĳ,"_law_kept","_law_good",AAz,Ε]
theorem scR:Ã NR [AAj,Į,Ĳ] (aD (top 99)):=ú
theorem R9:([ω,Į]:ð).Nodup:=by decide+kernel
theorem Il(F:æ K AAr AAr (top 99) f fd)(hc:fd.code=.ref cc)(hC:PySem.W.CodeHd base cc T0)(hB:base.BuiltinsAt mg T0)(T:Mg mg)(Tp:mg "repr"=none)(k7:Ϸ K Cs 7)(c1:â P w K mg base 12 "_law_said" [ABd] (zx P w K mg base Cs 10))(c2:Ng P w K mg base 9 "shown_by" ["book","year","paper"] (Ca (shY Cs)))(c3:â P w K mg base 9 "is_paper" ["book","year","thing"] (Ca Q6))(c4:â P w K mg base 3 "_law_shown" [AAj,Į,Ĳ] Le)(c5:â P w K mg base 2 "_law_between" [Ĳ,"_law_low","_law_high"] (my kI))(c6:â P w K mg base 61 "_law_same" [Ε,AAz] yI):Ñ P w K mg base å 62 f fd [AAj,Į,Ĳ] (Cd T0 qnT):=by
 refine F.oqC hc scR λA outer s H vs Q E hr h=>?_;obtain⟨S,bk,y,v,d,ac,xc,cs,ap,xp,ps,ai,xs,ss,rfl,hS,B,y0,y1,td,tm,hz,tab,q⟩:=h;obtain⟨f1,fd1,F1,m1,k1,b1⟩:=id c1;have A9:ï 12 (A.deeper (PyProof.Rows.envOfC AAr (aD (top 99)) s.heap.objs.size f (.ref cc))):=hr.mono Ù;refine ok_b (aN ⟨ug (i:=3) (j:=4) O scR.nd O O Ù O O (aq (aJ (jD (S:=S) hr.gd hS) O Tp jb (aq (bM (aq (pv 0) (aq (pv 1) (aq (pv 2) ao)))) ao)) (aq (cD (aJ dM O T.isinstance Ø (aq (pv 2) (aq (ig O T.tuple Þ (v:=.ty "tuple") O) ao))) (dH (ik gP (aJ bQ O T.len PySem.boot_len (aq (pv 2) ao)) aB (bj _)))) ao ⟨λ_ _=>rfl⟩)) O⟩ (aN (fM 4 scR.nd ⟨cD (pv 4) (dH (aJ (fG O) O T.all ù (aq (bz [ω,Į] [none,some 1] O (gw (pv 2)) (λC fp Á s₂ Ï=>⟨Ô 0 R9,bx,aH c5 hr (aq (pv 0) (aq aB (aq (aU bw (pv 1) aB) ao)))⟩) (λC=>cI trivial) ⟨O,O,O,O⟩) ao)))⟩) (aN (xQ (vy (pK ⟨aH c6 hr (aq (aH c3 hr (aq (pv 0) (aq (pv 1) (aq (pv 2) ao)))) (aq (pv 4) ao))⟩)) (cj (fU qw)) mU) (aN (fM 5 scR.nd ⟨kY (dD (pv 4)) (uG (aq (aH c4 hr (aq (pv 0) (aq (pv 1) (aq (pv 2) ao)))) ao)) (bM (aq xU ao))⟩) (aN (fM 6 scR.nd ⟨Gj (N:=[AAj,Į,Ĳ]) (ix:=[0,1,2]) (sc:=aD (top 99)) (NX:=NR) F1 A9 O m1 k1 b1 O (λ_=>rfl) O hC hB O O O (λ_ _ _ _ _=>rfl) z04⟩) (cj (fU ⟨cD (aH c6 hr (aq (pv 6) (aq (pv 5) ao))) (dH (ik gP (aJ (jD (S:=S) hr.gd hS) O Tp jb (aq (bM (aq (pv 0) (aq (pv 1) (aq (pv 2) ao)))) ao)) (pv 3) (bj _)))⟩))))))) ?_;have sf:=hz;have zd:L2.sz d<=1000:=by have:1+(L2.sz (ψ cs ps ss)+(1+(L2.sz d+0)))<=1000:=hz;lia
 obtain⟨n,rfl⟩:∃n:Nat,y=n:=⟨y.toNat,Â⟩;have hn:n<20:=by have:=B.b.lc;lia
 have Sn:∀{H'},TB H' bk ac xc cs ap xp ps ai xs ss->Ó S H' (.ref bk) (ψ cs ps ss):=λB=>B.th.keep (λ_ _ e=>e) (λ_ _ z _=>z.elim) λ_ _ z _=>z.elim;refine aP λc_ ae=>?_;have r1:∀b H',À H H'->(b=(fP d&&decide ((items d).length=3)))->c_ [some (.ref bk),some (.int n),some v,some (.str (PyData.tuple [ψ cs ps ss,.int n,d]).shown),some (.bl b),none,none] H':=by
  intro b H2 s2 hb;refine ae _ _ ?_;clear ae c_;refine aP λc_ ae=>?_;have r2:∀H',À H H'->c_ [some (.ref bk),some (.int n),some v,some (.str (PyData.tuple [ψ cs ps ss,.int n,d]).shown),some (.bl (jy d n)),none,none] H':=by
   intro H3 s3;refine ae _ _ ?_;clear ae c_;have B3:=B.same s3;have Xs:=td.same s3;have Xt:=ê.same tab s3;refine aP λc_ ae=>?_;refine⟨_,O,_,O,_,O,λ_=>False,bk,n,_,ac,xc,cs,ap,xp,ps,ai,xs,ss,S,v,d,O,B3.th,B3.sz,B3.ok,B3.b,y0,y1,Xs,Â,λH4 s4=>?_⟩;refine⟨_,O,λ_=>False,.bl (jy d n),.bl (jy d n),.bool (jy d n),.bool (jy d n),O,id,.bl _,.bl _,O,O,(by show 1<=1000;decide),(by show 1<=1000;decide),_,O,?_⟩;rw[ø O];refine bB (cW ?_);refine ae _ _ ?_;clear ae c_;try dsimp only
   have JI:=s3.trans s4;obtain⟨z,hz⟩:∃z,z=jx cs ps ss n ((items d).map à):=⟨_,O⟩;have OO:∀p,d=cN p->jx cs ps ss n p=z:=by rintro p rfl;rw[hz];congr 1;show p=(p.map PyData.int).map à;rw[ĳ];exact(List.map_id _).symm
   have Sr:ñ (zz (jz d n) z)=true:=by
    unfold jz;by_cases e:jy d n=true;.rw[Ì e];obtain⟨p,rfl,okp⟩:=qZ e;have:=Ii B hn okp;rw[OO p O]at this;show(decide (z.natAbs<2^128)&&true)=true;rw[ø Â];rfl
    .rw[Ê e];show ñ (HX 7)=true;decide+kernel
   have Ss:L2.sz (zz (jz d n) z)<=1000:=by
    unfold jz;split;.show 1+(1+0)<=1000;decide
    .show L2.sz (HX 7)<=1000;decide
   refine aP λc_ ae=>?_;have r3:∀u H',À H H'->ı (jz d n) z H' u->c_ [some (.ref bk),some (.int n),some v,some (.str (PyData.tuple [ψ cs ps ss,.int n,d]).shown),some (.bl (jy d n)),some u,none] H':=by
    intro u H5 s5 fu;refine ae _ _ ?_;clear ae c_;have B5:=B.same s5;have Xu:=td.same s5;have uk:=ê.same tab s5;refine aP λc_ ae=>?_;refine aV ?_;refine⟨uk,λfl pm cv ct H6 kp OP nf L Z=>⟨[.ref bk,.int n,v],O,λj i z e1 e2=>?_,λSu C=>?_⟩⟩
    .rcases j with _|_|_|j;.cases e1;cases e2;rfl
     .cases e1;cases e2;rfl
     .cases e1;cases e2;rfl
     .simp at e1
    have nT:∀b l,H5 b=some (.tup l)->b≠T0:=λb l e z=>by obtain⟨Xv,e',_⟩:=uk;rw[z,e']at e;cases e
    have Xw:∀b l,H5 b=some (.lst l)->b≠T0:=λb l e z=>by obtain⟨Xv,e',_⟩:=uk;rw[z,e']at e;cases e
    have B6:=B5.keep λb l e=>kp _ _ (nT _ _ e) e;have Sv:=Xu.tbl uk kp;refine Ij (o:=jz d n) (z:=z) (λj hj=>by unfold jz at hj;split at hj<;>cases hj;exact k7) L Z C O (λA' pT E' Q' kH out=>⟨_,λs'=>K6 c2 (kH.deeper _) Ù O Gg O (aq (pv 0) (aq (pv 1) (aq (pv 2) ao))),⟨_,O,_,O,_,O,λ_=>False,bk,n,_,ac,xc,cs,ap,xp,ps,ai,xs,ss,S,v,d,O,B6.th,B6.sz,B6.ok,B6.b,y0,y1,Sv,Â,out.1,λkn H' s' p hp=>?_⟩⟩) λv1 H7 s7 f7=>?_;.rw[Ľ,OO p hp];exact out.2 kn H' s'
    have no:NoC Su H6:=C.no;have s8:=s7.er no;have f8:=f7.keep (λb xs e=>Av s7 (λ_ _ z=>by cases z) e) (λb xs e=>Av s7 (λ_ _ z=>by cases z) e);have Sw:=(fu.keep (λb xs e=>kp _ _ (nT _ _ e) e) (λb xs e=>kp _ _ (Xw _ _ e) e)).keep (λb xs e=>s8 _ _ e) (λb xs e=>s8 _ _ e);have B8:=B6.same s8;have Sx:=Sv.same s8;have GA:=ê.same OP s8;refine aG ?_;refine ae _ _ ?_;clear ae c_;try dsimp only
    generalize er H7 Su=H8 at s8 f8 Sw B8 Sx GA⊢;have k8:∀b o,b≠T0->H b=some o->H8 b=some o:=λb o n e=>s8 _ _ (kp b o n (s5 _ _ e));clear f7 s7 C L Z no;refine j7 ?_;refine⟨_,O,_,O,λa=>a≠sysModules,v1,u,_,_,O,λz=>z O,f8.th,Sw.th,Sr,Sr,Ss,Ss,_,O,?_⟩;rw[ø O];refine bK ⟨_,O,_,O,_,O,zL,λp9 Xx=>?_⟩;have s9:=À.upd (o:=.tup [.ref bk,.int n,v]) Xx;refine⟨.ref p9,.tuple [ψ cs ps ss,.int n,d],O,.tup aj (.cons (Sn (B8.same s9)) (.cons (.int _) (.cons (Sx.same s9) .nil))),tm,Â,pB hr Ù sf,⟨_,O,O,?_⟩⟩;rw[ø O];exact q _ (λb o n e=>s9 _ _ (k8 b o n e)) (GA.same s9)
   refine aV ?_;refine⟨_,O,_,O,?_⟩;cases e:jy d n with|true=>
    refine bK ?_;have B4:=B.same JI;have Xy:=td.same JI;obtain⟨p,rfl,okp⟩:=qZ e;obtain⟨t,rfl,et⟩:∃t,v=.ref t/\H4 t=some (.tup (p.map V.int)):=by cases Xy with|tup ea r=>exact⟨_,O,by rw[mF r]at ea;exact ea⟩
    refine⟨_,O,_,O,_,O,bk,n,t,p,ac,xc,cs,ap,xp,ps,ai,xs,ss,O,B4.b,y0,y1,et,okp,λH5 s5=>⟨zL,λl hl nl=>?_⟩⟩;rw[Ľ,OO p O];refine aG ?_;have:=r3 (.ref l) _ ((JI.trans s5).updR (o:=.lst [.int z]) hl);unfold jz at this;rw[Ì e,e]at this;exact this ⟨l,O,nl,aj⟩;|false=>refine bB ⟨zL,λl hl=>aG ?_⟩;have:=r3 (.ref l) _ (JI.updR (o:=.tup [.str "paper"]) hl);unfold jz at this;rw[Ê (by rw[e];decide),e]at this;exact this ⟨l,O,aj⟩
  refine aV ?_;refine⟨_,O,_,O,?_⟩
  cases ip:b with|false=>
   refine bB (aG ?_);have:=r2 H2 s2;rw[<-Ik]at this;have e:(fP d&&(decide ((items d).length=3)&&(items d).all λx=>cP x&&(decide (0<=à x)&&decide (à x<=(n:Int)+1))))=false:=by rw[<-Bool.and_assoc,<-hb,ip];rfl
   rw[e]at this;exact this;|true=>
   refine bK ?_;rw[ip]at hb;have OQ:=td.same s2
   cases OQ with|@tup a HE ds ea r=>
    have e3:ds.length=3:=by have:=hb.symm;rw[Ī]at this;exact Η this.2
    refine dG (λx=>kI x 0 ((n:Int)+1)) O ea r (fJ r Â) (λv d H3 Q2 hm s3 t2 q2=>⟨_,O,_,O,_,_,O,O,S,v,d,0,(n:Int)+1,O,t2,jM hm Â,q2⟩) λH3 s3=>aG ?_;have:=r2 H3 (s2.trans s3);rw[<-Ik]at this;have e:(fP (.tuple ds)&&(decide ((items (.tuple ds)).length=3)&&(items (.tuple ds)).all λx=>cP x&&(decide (0<=à x)&&decide (à x<=(n:Int)+1))))=ds.all λx=>kI x 0 ((n:Int)+1):=by show(true&&(decide (ds.length=3)&&_))=_;rw[ø e3];rfl
    rw[e]at this;exact this;|_=>have:=hb;simp[fP]at this
 refine⟨_,O,_,O,_,O,zL,λp0 HV=>?_⟩;have DB:=À.upd (o:=.tup [.ref bk,.int n,v]) HV;refine⟨.ref p0,.tuple [ψ cs ps ss,.int n,d],O,.tup aj (.cons (Sn (B.same DB)) (.cons (.int _) (.cons (td.same DB) .nil))),tm,Â,pB hr Ù hz,?_⟩;refine⟨_,O,v,_,"tuple",fP d,O,(td.same DB).ty,oY d,_,O,?_⟩;cases e:fP d with|false=>refine bB ⟨_,_,O,?_⟩;dsimp only;exact r1 _ _ DB (by rw[e];rfl);|true=>
  refine bK ?_;have OQ:=td.same DB
  cases OQ with|@tup a HE ds ea r=>
   have hl:=r.length;refine⟨_,O,a,HE,O,.inr (Ð.of ea),O,⟨_,_,O,?_⟩⟩;dsimp only;refine r1 _ _ DB ?_;rw[e];show _=(true&&decide (ds.length=3));rw[Zbn,Zba,č,č];constructor;.intro z;injection z with z;lia
   .intro z;rw[hl,z];rfl;|_=>cases e
inductive Z06(K:Frag)(T:Addr)(vs:List V)(H:Hp)(Q:VK):Prop|mk:∀a(ns:WF),(vs=[.ref a])->(É K H a (ns.map V.int))->(ns.length<=63)->(ê H T qnT)->(∀H',Q (.bl true) H')->Z06 K T vs H Q
def Ce(K:Frag)(T:Addr):Sp:=λvs H Q _=>Z06 K T vs H Q
theorem Im(t:ê H T q)(sa:gH H st)(g:Dr st H H'):ê H' T q:=by
 obtain⟨x,y,e,_⟩:=sa;refine t.keep (λps e'=>g.bt _ _ e' λz=>?_) λb o e'=>g.bt _ _ e' λz=>?_;.rw[z,e]at e';cases e'
 .rw[z,e]at e';cases e'
abbrev Fs(st:Addr)(a:Addr):Prop:=a=st\/a=sysModules
theorem Lf(g:gH H st):Fb (Fs st) st H:=⟨.inl O,.inr O,λb hb hn=>hb.elim (λz=>by obtain⟨u,v,e,_⟩:=g;rw[z,e]at hn;cases hn) id⟩
theorem vz{rs:UV}(h:∀r∈rs,∀i∈r,-10<=i/\i<=2000000):ς (2^100) (rs.map cN)=true:=by refine ç.mpr λd hd=>?_;obtain⟨r,hr,rfl⟩:=ó.mp hd;show ς (2^100) (r.map PyData.int)=true;refine ç.mpr λd hd=>?_;obtain⟨i,hi,rfl⟩:=ó.mp hd;have:=h r hr i hi;exact ø (show i.natAbs<2^100 by lia)
theorem pL:∀{rs:UV},(∀r∈rs,r.length=k)->ô (rs.map cN)=(k+1)*rs.length|[],_=>rfl|r::rs,h=>by show sz (cN r)+ô (rs.map cN)=(k+1)*(rs.length+1);rw[pL λx hx=>h x (Zaj _ hx),Nat.mul_succ];show 1+ô (r.map PyData.int)+_=_;rw[jq,h r Zao];lia
structure Bk(T st bk ac:Addr)(xc:List V)(cs:UV)(ap:Addr)(xp:List V)(ps:UV)(ai:Addr)(xs:List V)(ss:UV)(H0 H:Hp):Prop where
 kp:∀b o,b≠T->b≠st->H0 b=some o->H b=some o
 sa:gH H st
 tb:ê H T qnT
 b:TB H bk ac xc cs ap xp ps ai xs ss
section
theorem Bk.dr(a:Bk T st bk ac xc cs ap xp ps ai xs ss H0 H)(g:Dr st H H'):Bk T st bk ac xc cs ap xp ps ai xs ss H0 H':=by refine⟨λb o n1 n2 e=>g.bt _ _ (a.kp b o n1 n2 e) n2,g.sa,Im a.tb a.sa g,a.b.keep λb l e=>g.bt _ _ e λz=>?_⟩;obtain⟨x,y,e',_⟩:=a.sa;rw[z,e']at e;cases e
theorem Bk.same(a:Bk T st bk ac xc cs ap xp ps ai xs ss H0 H)(s:À H H'):Bk T st bk ac xc cs ap xp ps ai xs ss H0 H':=a.dr (Dr.same ⟨ţ.refl,a.sa⟩ s)
theorem Bk.right(a:Bk T st bk ac xc cs ap xp ps ai xs ss H0 H)(k:∀b o,b≠T->H b=some o->H' b=some o)(t:ê H' T qnT):Bk T st bk ac xc cs ap xp ps ai xs ss H0 H':=by
 obtain⟨qs,e',_⟩:=id a.tb;have nT:∀b l,H b=some (.tup l)->b≠T:=λb l e z=>by rw[z,e']at e;cases e
 refine⟨λb o n1 n2 e=>k b o n1 (a.kp b o n1 n2 e),?_,t,a.b.keep λb l e=>k _ _ (nT _ _ e) e⟩;obtain⟨x,y,e,r⟩:=a.sa;exact⟨x,y,k _ _ (λz=>by rw[z,e']at e;cases e) e,r⟩
end
def Tg(st:Addr)(H:Hp)(u:V):Prop:=∃d,Ó (λa=>¬Fs st a) H u d/\ñ d=true/\sz d<=500
theorem Tg.dr(t:Tg st H u)(h:gH H st)(g:Dr st H H'):Tg st H' u:=by obtain⟨d,a,b⟩:=t;exact⟨d,g.th h (.inl O) a,b⟩
theorem Tg.tbl(t:Tg st H u)(tab:ê H T q)(k:∀b o,b≠T->H b=some o->H' b=some o):Tg st H' u:=by obtain⟨d,a,b⟩:=t;exact⟨d,a.tbl tab k,b⟩
theorem Tg.row{r:WF}(e:H a=some (.tup (r.map V.int)))(hl:r.length<=3)(hb:∀i∈r,0<=i/\i<=100):Tg st H (.ref a):=by
 refine⟨cN r,.tup e (Å.ints r),xM λi hi=>?_,?_⟩;.have:=hb i hi;lia
 .show 1+ô (r.map PyData.int)<=500;rw[gO];lia
theorem Q9:([AAv]:ð).Nodup:=by decide+kernel
theorem Qa:([ϊ,ă,Į]:ð).Nodup:=by decide+kernel
theorem Ei:bootBuiltins "max"=some (.builtin "max"):=by decide+kernel
theorem Ej:bootBuiltins "min"=some (.builtin "min"):=by decide+kernel
theorem zG:bootBuiltins "list"=some (.type "list"):=by decide+kernel
theorem ŵ:Ã [Ζ,AAw,ă,AAj,Į,ŀ,"_law_turn","_law_paper",Ĳ] [Ζ] (aD (top 100)):=ú
theorem Nu(F:æ K "law" "law" (top 100) f fd)(T:Mg mg)(Tr:mg "range"=none)(Tm:mg "max"=none)(Tn:mg "min"=none)(Ts:mg "sum"=none)(Tl:mg "list"=none)(c1:â P w K mg base 2 "_law_state" [Ζ,AAw] (Aw K))(c2:â P w K mg base 4 "_law_book" [ă,AAq,Ų,ſ] BL)(c3:â P w K mg base 1 AAs [ă,AAo] jo)(c4:â P w K mg base 3 "_law_walk" [AAt,ć,ſ] Hx)(c5:â P w K mg base 12 "lack_by" ["book","year"] (za Lb))(c6:â P w K mg base 61 "_law_same" [Ε,AAz] yI)(c7:â P w K mg base 62 AAr [AAj,Į,Ĳ] (Cd T0 qnT))(c8:â P w K mg base 5 ABe [ă,Ĳ,AAy] (mD (2:Nat)))(c9:â P w K mg base 2 "_law_odd" [ă] Gs):Ñ P w K mg base å 63 f fd [Ζ] (Ce K T0):=by
 refine F.oq ŵ λar A outer s H vs Q E hr h=>?_;obtain⟨a,ns,rfl,hS,hl,tab,q⟩:=h;refine ok_b (aN ⟨cF Ł O (bV O Tr (aq (aJ (sE O) O Tm Ei (aq aB (aq (aJ (iC O) O Tn Ej (aq (aJ bQ O T.len PySem.boot_len (aq (pv 0) ao)) (aq aB ao))) ao))) ao)) (Ô 1 ŵ.nd) (jl (aN (yq (i:=2) ŵ.nd O (Or.inr O) ⟨aH (hjk:=Â) c1 hr (aq (pv 0) (aq (pv 1) ao))⟩) (aN (fM 3 ŵ.nd ⟨aH (hjk:=Â) c2 hr (aq (pv 2) (aq aB (aq aB (aq aB ao))))⟩) (aN (yq (i:=4) ŵ.nd O (Or.inr O) ⟨aH (hjk:=Â) c3 hr (aq (pv 2) (aq (aJ bQ O T.len PySem.boot_len (aq (pX bJ (pv 3) aB) ao)) ao))⟩) (aN (fM 5 ŵ.nd ⟨pX bJ (pX bO (aH (hjk:=Â) c4 hr (aq (pX bJ (pv 3) aB) (aq (pX bJ (pv 3) aB) (aq (pX bJ (pv 3) aB) ao)))) (pv 4)) aB⟩) (aN (xQ (vy (pK ⟨aH (hjk:=Â) c6 hr (aq (aH (hjk:=Â) c5 hr (aq (pv 3) (aq (pv 4) ao))) (aq (aJ (cM O) O Ts ä (aq (bz [AAv] [none] O (dF (pv 5)) (λC fp Á s₂ Ï=>⟨Ô 0 Q9,bx,pX (K40P.ix_tupK (K:=K) O) (pv 0) aB⟩) (λC=>trivial) ⟨O,O,O,O⟩) ao)) ao))⟩)) (cj (fU qw)) mU) (aN ⟨cF Ł O (bV O Tr (aq aB ao)) (Ô 6 ŵ.nd) (jl (aN (fM 7 ŵ.nd ⟨cH cB O T.tuple Þ (aq (bz [ϊ,ă,Į] [none,some 2,some 4] O (bV O Tr (aq aB ao)) (λC fp Á s₂ Ï=>⟨Ô 0 Qa,bx,aH (hjk:=Â) c3 hr (aq (pv 1) (aq (aU bw (pv 2) aB) ao))⟩) (λC=>cI (cI trivial)) ⟨O,O,O,O⟩) ao)⟩) (cj ⟨cF Ł O (dF (Fl (fQ (bf ⟨pv 7⟩ (bf ⟨aH (hjk:=Â) c8 hr (aq (pv 2) (aq (pv 7) (aq aB ao)))⟩ (bf ⟨M9 (pv 7)⟩ (bf ⟨cH jK O Tl zG (aq (pv 7) ao)⟩ (bf ⟨aH (hjk:=Â) c9 hr (aq (pv 2) ao)⟩ bN)))))))) (Ô 8 ŵ.nd) (jl (cj (xQ (vy (pK ⟨aH (hjk:=Â) c7 hr (aq (pv 3) (aq (pv 4) (aq (pv 8) ao)))⟩)) (cj (fU qw)) mU)))⟩)))⟩ (cj (xQ ⟨PW.pt (nZ (cR (dD (aH (hjk:=Â) c7 hr (aq (pv 3) (aq (pv 4) (aq (aU Je (bM (aq (aU bw (pv 4) aB) ao)) aB) ao)))))) (pP (cR (dD (aH (hjk:=Â) c7 hr (aq (pv 3) (aq (pv 4) (aq (bM (aq aB (aq (aU bw (pv 4) aB) (aq aB ao)))) ao))))))))⟩ (cj (fU qw)) mU)))))))))⟩ (cj (fU qw))) ?_;refine aM ?_;have gy:(ns.map V.int).length<=63:=by rw[Õ];exact hl
 refine⟨_,O,a,_,O,.inl hS,_,_,O,_,_,O,_,O,?_,?_,?_⟩;.split<;>split<;>lia
 .split<;>split<;>lia
 refine cY (lo:=0) (λi σ Hc=>Xe8 λx1 x2 x3 x4 x5 x6 x7 x8=>Xa3 (σ=[some (.ref a),x1,x2,x3,x4,x5,x6,x7,x8]) ((∀b o,b≠T0->H b=some o->Hc b=some o)) (ê Hc T0 qnT)) ?_ ?_ ?_;.exact⟨none,none,none,none,none,none,none,none,O,λ_ _ _ e=>e,tab⟩
 .rintro i σ H1 hi⟨x1,x2,x3,x4,x5,x6,x7,x8,rfl,k1,Bi⟩;have OM:É K H1 a (ns.map V.int):=by
   obtain⟨ps,eT,_⟩:=tab;rcases hS with(h|⟨o,h⟩)|h;.exact .inl (.inl (k1 _ _ (λz=>by rw[z,eT]at h;cases h) h))
   .exact .inl (.inr ⟨o,k1 _ _ (λz=>by rw[z,eT]at h;cases h) h⟩)
   .exact .inr h
  refine aG ?_;refine wW λDe JE=>?_;refine aP λc_ ae=>?_;refine aV ?_;refine⟨_,O,_,O,a,ns,_,O,OM,Â,λst x y hn MH Xz AR=>?_⟩;have nT:st≠T0:=λz=>by obtain⟨ps,eT,_⟩:=Bi;rw[z,eT]at hn;cases hn
  have FK:H st=none:=by cases e:H st with|none=>rfl;|some o=>rw[k1 st o nT e]at hn;cases hn
  have g1:gH (upd H1 st (.lst [.int x,.int y])) st:=⟨x,y,aj,MH,Xz,AR⟩;have EI:∀b o,b≠T0->b≠st->H b=some o->upd H1 st (.lst [.int x,.int y]) b=some o:=λb o n1 n2 e=>by rw[au n2];exact k1 b o n1 e
  have Bn:=ê.same Bi (À.upd (o:=.lst [.int x,.int y]) hn);refine aG ?_;refine ae _ _ ?_;clear ae c_;generalize upd H1 st (.lst [.int x,.int y])=H2 at g1 EI Bn⊢;refine aP λc_ ae=>?_;refine aV ?_;refine⟨_,O,st,10,8,5,O,g1,by decide,by decide,by decide,by decide,by decide,by decide,λbk ac xc cs ap xp ps ai xs ss H3 d3 eb rc lc1 Si okc rp lp okp rs ls dA A5=>?_⟩;have B3:Bk T0 st bk ac xc cs ap xp ps ai xs ss H H3:=⟨λb o n1 n2 e=>d3.bt _ _ (EI b o n1 n2 e) n2,d3.sa,Im Bn g1 d3,⟨⟨eb,rc,λr hr=>⟨(okc r hr).1,λx hx=>((okc r hr).2 x hx).1⟩,Â,rp,Â,okp,rs,Â,λs hs=>(dA s hs).1,A5⟩,okc,lc1⟩⟩;have XA:ñ (ψ cs ps ss)=true:=by refine uT (show tm (2^100) (ψ cs ps ss)=true from ?_) Ù;show(tm (2^100) (bY cs)&&(tm (2^100) (bY ps)&&(tm (2^100) (bY ss)&&true)))=true;rw[show tm (2^100) (bY cs)=true from vz λr hr i hi=>(by have:=(okc r hr).2 i hi;lia),show tm (2^100) (bY ps)=true from vz λr hr=>N7 (okp r hr),show tm (2^100) (bY ss)=true from vz λr hr=>(dA r hr).2];rfl
  have zbk:L2.sz (ψ cs ps ss)<=240:=by have zc:ô (cs.map cN)=4*cs.length:=pL (k:=3) λr hr=>(okc r hr).1;have zp:ô (ps.map cN)=7*ps.length:=pL (k:=6) λr hr=>(okp r hr).1;have zs:ô (ss.map cN)=6*ss.length:=pL (k:=5) λr hr=>(dA r hr).1;show 1+((1+ô (cs.map cN))+((1+ô (ps.map cN))+((1+ô (ss.map cN))+0)))<=240;lia
  have lcs:cs.length<=10:=Â;clear d3 eb rc rp rs g1 EI Bn dA;refine aG ?_;refine ae _ _ ?_;clear ae c_;refine aP λc_ ae=>?_;refine aV ?_;have lx:=B3.b.b.rc.l;refine⟨_,O,_,O,bk,_,0,.ref ac,O,O,Ð.of B3.b.b.e,O,ac,xc,O,.inr (Ð.of B3.b.b.rc.e),st,(xc.length:Int),O,B3.sa,Â,Â,λr a' b' r0 r1 h1 h2 h3=>?_⟩;obtain⟨n,rfl⟩:∃n:Nat,r=n:=⟨r.toNat,Â⟩;have yy:n<cs.length:=Â;have B4:=B3.dr (Dr.take ⟨ţ.refl,B3.sa⟩ h1 h2 h3);refine aG ?_;refine ae _ _ ?_;clear ae c_;generalize upd H3 st (.lst [.int a',.int b'])=H4 at B4⊢;clear B3 h1 h2 h3;refine aP λc_ ae=>?_;refine aV ?_;refine⟨_,O,bk,_,0,.ref ac,O,O,Ð.of B4.b.b.e,O,_,O,bk,_,1,.ref ap,O,O,Ð.of B4.b.b.e,O,_,O,bk,_,2,.ref ai,O,O,Ð.of B4.b.b.e,O,ac,xc,cs,ap,xp,ps,ai,xs,ss,O,B4.b.b.rc,B4.b.b.okc,B4.b.b.lc,B4.b.b.rp,B4.b.b.lp,B4.b.b.okp,B4.b.b.rs,B4.b.b.ls,B4.b.b.h5,B4.b.b.un,λl lk ts H5 s5 nl el lt hw=>?_⟩;have B5:=B4.same s5;clear B4 s5;have Sy:n<ts.length:=Â;obtain⟨g,tl,qq,xq,ow,eW,_,_,eq,A3,o4,lo,so⟩:=hw n ts[n] (á Sy);have dv:ĭ (ts.map V.ref) (n:Int)=some (.ref ts[n]):=cJ (by rw[Ą,á Sy];rfl);refine⟨_,O,l,_,_,_,O,O,É.of el,dv,ts[n],_,2,.ref qq,O,O,Ð.of eW,O,?_⟩;refine aG ?_;refine ae _ _ ?_;clear ae c_;have lT:aK ow=(ow.map λr=>fl r 3).sum:=O;clear eW hw el;refine aP λc_ ae=>?_;refine⟨_,O,_,O,B5.b.by_ Â Â λH6 s6=>?_⟩;rw[Ľ];have B6:=B5.same s6;rw[<-so];clear so;have N0:=A3.1;have XB:-1000000<=aK ow/\aK ow<=1000000:=by
   have:=mV (M:=99) (l:=ow.map λr=>fl r 3) λa ha=>by obtain⟨r,hr,rfl⟩:=ó.mp ha;have:=(o4 r hr).2;lia
   rw[Õ,<-lT]at this;lia
  refine⟨_,O,qq,O,⟨_,É.of (s6 _ _ eq)⟩,?_⟩;refine cA ow.length (λk ys σ He=>He=H6/\(∃o1,σ=[o1])/\ys=((ow.take k).map λr=>fl r 3).map V.int) ⟨O,⟨_,O⟩,O⟩ ų ?_ ?_;.rintro k ys σ He hk hy⟨rfl,⟨o1,rfl⟩,rfl⟩;obtain⟨t,ex,et⟩:=A3.2 k ow[k] (á hk);have Sz:=s6 _ _ eq;refine⟨⟨_,_,É.of Sz,ex⟩,λv H' y' R' A6=>?_⟩;obtain⟨rfl,y'⟩:=y';have hv:=y' _ (É.of Sz);rw[ex]at hv;cases hv;refine aG ?_;have l4:=(o4 _ (Ė hk)).1;refine⟨_,O,t,_,3,_,O,O,Ð.of (s6 _ _ et),cJ (j:=3) (fX Â),A6 _ _ _ ⟨O,⟨_,O⟩,?_⟩⟩;rw[ĺ,á hk,ë,ë];rfl
  rintro ys σ He hy⟨rfl,_,rfl⟩;rw[ň];refine⟨⟨_,É.of (s6 _ _ eq),Â⟩,λD hD=>⟨D,_,O,.inl (É.of aj),?_⟩⟩;rw[<-lT];have tz:ñ (.int (aK ow))=true:=ø (show(aK ow).natAbs<2^128 by lia);refine⟨λ_=>False,_,_,.int (aK ow),.int (aK ow),O,id,.int _,.int _,tz,tz,(by show 1<=1000;decide),(by show 1<=1000;decide),_,O,?_⟩;rw[ø O];refine bB (cW ?_);refine ae _ _ ?_;clear ae c_;have B7:=B6.same (À.upd (o:=.lst ((ow.map λr=>fl r 3).map V.int)) hD);generalize upd He D (.lst ((ow.map λr=>fl r 3).map V.int))=H7 at B7⊢;clear B5 B6 eq A3 lT o4 hD s6;have ask:∀{u:V}{Hc:Hp},Tg st Hc u->∃d,Ó (λa=>¬Fs st a) Hc u d/\ñ (.tuple [ψ cs ps ss,.int n,d])=true/\L2.sz (.tuple [ψ cs ps ss,.int n,d])<=1000:=λ{u Hc}t=>by
   obtain⟨d,td,md,zd⟩:=t;refine⟨d,td,?_,?_⟩;.show(ñ (ψ cs ps ss)&&(decide ((n:Int).natAbs<2^128)&&(ñ d&&true)))=true;rw[XA,md,ø Â];rfl
   .show 1+(L2.sz (ψ cs ps ss)+(1+(L2.sz d+0)))<=1000;lia
  refine aP λc_ ae=>?_;refine⟨5,O,by decide,by decide,?_⟩;refine cY (lo:=0) (λj σ Hc=>Xe3 λx6 x7 x8=>Xa2 (σ=[some (.ref a),some (.int (0+i)),some (.ref st),some (.ref bk),some (.int n),some (.ref qq),x6,x7,x8]) (Bk T0 st bk ac xc cs ap xp ps ai xs ss H Hc)) ?_ ?_ ?_;.exact⟨_,_,_,O,B7⟩
  .clear B7;rintro j σ Hc hj⟨x6,x7,x8,rfl,B⟩;refine aG ?_;refine wW λWC AB=>?_;refine aP λc_ ae=>?_;refine aV ?_;refine⟨3,O,by decide,by decide,?_⟩;refine cA 3 (λk zs σ Hd=>Dr st Hc Hd/\(∃o1,σ=[o1,some (.ref st),some (.int n)])/\∃r:WF,r.length=k/\(∀x∈r,0<=x/\x<=n+1)/\zs=r.map V.int) ⟨⟨ţ.refl,B.sa⟩,⟨_,O⟩,[],O,λ_ h=>(List.not_mem_nil h).elim,O⟩ (by rw[sizeLine_eq];decide) ?_ ?_
   .rintro k zs σ Hd hk hz⟨g,⟨o1,rfl⟩,r,lr,br,rfl⟩;refine⟨by show k<3;lia,λv H' y' R hR=>?_⟩;obtain⟨eH,rfl⟩:=y';subst H';refine aG ?_;refine⟨_,O,_,O,_,_,O,O,st,(n:Int)+2,O,g.sa,Â,Â,λr1 a' b' q0 q1 h1 h2 h3=>hR _ _ _ ⟨g.take h1 h2 h3,⟨_,O⟩,r++[r1],by rw[õ,lr];rfl,λx hx=>?_,by rw[ë];rfl⟩⟩;rcases ė.mp hx with z|z;.exact br x z
    .rw[Ř.mp z];lia
   rintro zs σ Hd hz⟨g,_,r,lr,br,rfl⟩;refine⟨by show 3<=3;decide,λD hD=>⟨D,_,O,.inl ⟨É.of aj,λt ht=>?_⟩⟩⟩;have g2:=(g.new (o:=.lst (r.map V.int)) hD).new (o:=.tup (r.map V.int)) ht;have et:=aj (H:=upd Hd D (.lst (r.map V.int))) (a:=t) (o:=.tup (r.map V.int));generalize upd (upd Hd D (.lst (r.map V.int))) t (.tup (r.map V.int))=H8 at g2 et⊢;have B8:=B.dr g2;clear B g g2 hD ht;have SA:∀i∈r,0<=i/\i<=100:=λi hi=>by have:=br i hi;lia
   have tp:=Tg.row et Â SA (st:=st);refine aG ?_;refine ae _ _ ?_;clear ae c_;refine⟨_,O,_,O,_,O,Fs st,st,.ref t,cN r,1,2^100,O,B8.sa,Lf B8.sa,by decide,by decide,?_,?_,Ü _,?_,λv9 H9 d9 g9 t9 m9 z9=>?_⟩;.exact .tup et (Å.ints r)
   .exact ç.mpr λd hd=>by obtain⟨i,hi,rfl⟩:=ó.mp hd;have:=br i hi;exact ø (show i.natAbs<2^100 by lia)
   .show 1+ô (r.map PyData.int)<=1000;rw[gO];lia
   have B9:=B8.dr g9;have SD:=tp.dr B8.sa g9;have SE:=g9.tup B8.sa et;have t9:Tg st H9 v9:=⟨d9,t9,uT m9 Ù,by
    have:sz (cN r)<=4:=by show 1+ô (r.map PyData.int)<=4;rw[gO];lia
    lia⟩;refine⟨_,O,t,_,O,Ð.of SE,λp hp=>?_⟩;have sp:=À.upd (o:=.tup (r.map V.int).reverse) hp;have ep:upd H9 p (.tup (r.map V.int).reverse) p=some (.tup (r.reverse.map V.int)):=by rw[aj,List.map_reverse]
   have xy:=B9.same sp;have dp:Dr st H9 (upd H9 p (.tup (r.map V.int).reverse)):=Dr.same ⟨ţ.refl,B9.sa⟩ sp;have Bz:=SD.dr B9.sa dp;have DC:=t9.dr B9.sa dp;have BA:Tg st (upd H9 p (.tup (r.map V.int).reverse)) (.ref p):=Tg.row ep (by rw[Zat];lia) λi hi=>SA i (List.mem_reverse.mp hi);have GB:=sp _ _ SE;generalize upd H9 p (.tup (r.map V.int).reverse)=JJ at xy Bz DC BA GB⊢;refine⟨_,O,t,_,O,Ð.of GB,λl hl nl=>?_⟩;have sl:=À.upd (o:=.lst (r.map V.int)) hl;have dl:Dr st JJ (upd JJ l (.lst (r.map V.int))):=Dr.same ⟨ţ.refl,xy.sa⟩ sl;have MU:l≠st:=Dr.ne ⟨ţ.refl,xy.sa⟩ hl;have uu:=xy.same sl;have BB:=Bz.dr xy.sa dl;have OR:=DC.dr xy.sa dl;have BC:=BA.dr xy.sa dl;have BD:Tg st (upd JJ l (.lst (r.map V.int))) (.ref l):=by
    refine⟨.list (r.map PyData.int),.lst (λz=>z.elim MU nl) aj (Å.ints r),?_,?_⟩;.exact xM (r:=r) λi hi=>by have:=br i hi;lia
    .show 1+ô (r.map PyData.int)<=500;rw[gO];lia
   generalize upd JJ l (.lst (r.map V.int))=H11 at uu BB OR BC BD⊢;refine⟨_,O,st,O,uu.sa,λvo Ho mo=>⟨zL,λL hL=>?_⟩⟩;obtain⟨dO,go,tO,mO,zO⟩:=mo.dr (Lf uu.sa);have to:Tg st Ho vo:=⟨dO,tO,uT mO Ù,Â⟩;have xA:=uu.dr go;have sL:=À.upd (o:=.lst [.ref t,v9,.ref p,.ref l,vo]) hL;have dL:Dr st Ho (upd Ho L (.lst [.ref t,v9,.ref p,.ref l,vo])):=Dr.same ⟨ţ.refl,xA.sa⟩ sL;have all:∀u∈[V.ref t,v9,.ref p,.ref l,vo],Tg st (upd Ho L (.lst [.ref t,v9,.ref p,.ref l,vo])) u:=by
    intro u hu;simp only[List.mem_cons,List.not_mem_nil,or_false]at hu;rcases hu with rfl|rfl|rfl|rfl|rfl;.exact(BB.dr uu.sa go).dr xA.sa dL
    .exact(OR.dr uu.sa go).dr xA.sa dL
    .exact(BC.dr uu.sa go).dr xA.sa dL
    .exact(BD.dr uu.sa go).dr xA.sa dL
    .exact to.dr xA.sa dL
   have SF:=xA.same sL;have eL:=aj (H:=Ho) (a:=L) (o:=.lst [.ref t,v9,.ref p,.ref l,vo]);generalize upd Ho L (.lst [.ref t,v9,.ref p,.ref l,vo])=HL at SF all eL⊢;clear B8 B9 xy uu xA tp SD Bz BB t9 DC OR BA BC BD to tO go mo hL sL dL;generalize[V.ref t,v9,.ref p,.ref l,vo]=us at all eL;refine⟨L,O,⟨_,É.of eL⟩,?_⟩;refine jf (xs:=us) (λk σ Hk=>∃x8,σ=[some (.ref a),some (.int (0+i)),some (.ref st),some (.ref bk),some (.int n),some (.ref qq),some (.int (0+j)),some (.ref t),x8]/\Bk T0 st bk ac xc cs ap xp ps ai xs ss H Hk/\(∀u∈us,Tg st Hk u)/\Hk L=some (.lst us)) ?_ ?_ ?_ ?_;.exact⟨_,O,SF,all,eL⟩
   .rintro k σ Hk hk⟨x8,rfl,xB,al,e⟩;exact É.of e
   .rintro k u σ Hk hu⟨x8,rfl,xB,al,e⟩;refine aG ?_;obtain⟨d,td,md,zd⟩:=ask (al u (Α hu));refine⟨_,O,_,O,_,O,λa=>¬Fs st a,bk,n,_,d,ac,xc,cs,ap,xp,ps,ai,xs,ss,O,λz=>z (.inr O),xB.b,Â,Â,td,md,zd,xB.tb,λH' k' t'=>⟨true,O,?_⟩⟩;refine bB ?_;refine⟨_,O,xB.right k' t',λu hu=>(al u hu).tbl xB.tb k',k' _ _ (λz=>?_) e⟩;obtain⟨qs,eT,_⟩:=xB.tb;rw[z,eT]at e;cases e
   .rintro σ Hk⟨x8,rfl,xB,al,e⟩;exact AB _ _ ⟨_,_,_,O,xB⟩
  .clear B7;rintro σ Hc⟨x6,x7,x8,rfl,B⟩;refine ae _ _ ?_;clear ae c_;have fin:∀{Hz:Hp}{σ:L2.St},Bk T0 st bk ac xc cs ap xp ps ai xs ss H Hz->(∃y1 y2 y3 y4 y5 y6 y7 y8,σ=[some (.ref a),y1,y2,y3,y4,y5,y6,y7,y8])->Xe8 λy1 y2 y3 y4 y5 y6 y7 y8=>Xa3 (σ=[some (.ref a),y1,y2,y3,y4,y5,y6,y7,y8]) (∀b o,b≠T0->H b=some o->Hz b=some o) (ê Hz T0 qnT):=λB⟨y1,y2,y3,y4,y5,y6,y7,y8,e⟩=>⟨y1,y2,y3,y4,y5,y6,y7,y8,e,λb o n e=>B.kp b o n (aA e FK) e,B.tb⟩;refine⟨_,O,_,O,_,O,_,_,O,O,zL,λp hp=>?_⟩;have Bp:=B.same (À.upd (o:=.tup [.int ((n:Int)+1)]) hp);have SI:=aj (H:=Hc) (a:=p) (o:=.tup [.int ((n:Int)+1)]);generalize upd Hc p (.tup [.int ((n:Int)+1)])=SJ at Bp SI⊢;refine⟨p,3,_,O,O,Ð.of SI,by simp,by show 1<=1000;decide,.inr ⟨.inr ⟨by decide,by decide⟩,λp2 kf=>?_⟩⟩;have B2:=Bp.same (À.upd (o:=.tup (List.replicate (3:Int).toNat [V.int ((n:Int)+1)]).flatten) kf);have SK:Tg st (upd SJ p2 (.tup (List.replicate (3:Int).toNat [V.int ((n:Int)+1)]).flatten)) (.ref p2):=Tg.row (r:=[(n:Int)+1,n+1,n+1]) aj (Ü 3) λi hi=>by simp only[List.mem_cons,List.not_mem_nil,or_false]at hi;lia
   generalize upd SJ p2 (.tup (List.replicate (3:Int).toNat [V.int ((n:Int)+1)]).flatten)=Hp2 at B2 SK⊢;obtain⟨d,td,md,zd⟩:=ask SK;refine⟨λa=>¬Fs st a,bk,n,_,d,ac,xc,cs,ap,xp,ps,ai,xs,ss,O,λz=>z (.inr O),B2.b,Â,Â,td,md,zd,B2.tb,λH' k' t'=>⟨true,O,?_⟩⟩;refine bB ?_;have B3:=B2.right k' t';refine⟨_,O,_,O,_,O,_,_,O,O,zL,λp3 iX=>?_⟩;have B4:=B3.same (À.upd (o:=.tup [.int 0,.int ((n:Int)+1),.int 0]) iX);have XC:Tg st (upd H' p3 (.tup [.int 0,.int ((n:Int)+1),.int 0])) (.ref p3):=Tg.row (r:=[0,(n:Int)+1,0]) aj (Ü 3) λi hi=>by simp only[List.mem_cons,List.not_mem_nil,or_false]at hi;lia
   obtain⟨d,td,md,zd⟩:=ask XC;refine⟨λa=>¬Fs st a,bk,n,_,d,ac,xc,cs,ap,xp,ps,ai,xs,ss,O,λz=>z (.inr O),B4.b,Â,Â,td,md,zd,B4.tb,λH2' k2 t2=>⟨true,O,?_⟩⟩;refine bB ?_;exact JE _ _ (fin (B4.right k2 t2) ⟨_,_,_,_,_,_,_,_,O⟩)
 .rintro σ Hc⟨x1,x2,x3,x4,x5,x6,x7,x8,rfl,k1,Bi⟩;exact q _
end K40
structure PySem.W.Fast:Prop where(tw1257219542453194944 tw14210341676236857568 tw16292411779380636928 tw2172983081583331680 tw4144628231076341088 tw12451343411487877664 tw1657056116068547360 tw13064644351699821376 tw12566376857446992800 tw4837239906615113729 tw12281658424656961601 tw409430892288371937 tw6831401904056870145 tw1408195594201296449 tw4928763238493413025 tw8431598544533842689 tw8546294457181247361 tw7149422344259049474 tw1614112474440246274 tw11080847788324399138 tw1916067945704695842 tw6072889157289946146 tw17181554900694157346 tw3390693569079610626 tw10547744626559735138 tw12543145689740689890 tw3176521343632660034 tw3373564163376562786 tw12165090023091485346 tw1293397082002898690 tw14536705209749787426 tw3518042792048569186 tw709759302341782627 tw9182004861535957219 tw1441633721479650531 tw18149485438703726819 tw16557909925966140675 tw3729000817899500835 tw11796151367137369475 tw15240652397317801379 tw3618968256989237731 tw12022472411190049283 tw4266964006276409923 tw532515564037896963 tw6790513548651833380 tw1417652179583932484 tw8870856810868796484 tw16721167822472106180 tw13566174730325400804 tw15125176113611612420 tw10285008929790880004 tw6963707306939496740 tw10766692924631672100 tw12597169102641544612 tw16614138133806729636 tw4018510727356146084 tw14495020844531524036 tw12410806153355693540 tw3503891956038212292 tw14633082279305125572 tw10058466310309994180 tw12519895501791125220 tw325999572822733604 tw5313048881685974820 tw11678406675345166180 tw6876062781515530148 tw14321834552396133445 tw16201033266848535685 tw12991072390846961797 tw12061833282423175429 tw10541436376188287429 tw5087717383233087973 tw8004404724970295845 tw9416025636835201573 tw7561054254232613605 tw6486062950578003717 tw9905783846330024805 tw15552431379796207622 tw11087948704923036678 tw2207439899979889702 tw5360892085720278086 tw16106449319231512646 tw8351731288517892198 tw613411773396316294 tw3623307845912156358 tw11447495699998178630 tw1198827257978441062 tw2408588767138445670 tw4684599117673516710 tw4002037967135601318 tw15027475474834125478 tw8601126590565895878 tw9545171581690172134 tw141085398775111654 tw17105975221204261959 tw13714887613533804615 tw142322715101396071 tw11490964435236279495 tw12592297659979422215 tw16182735489479838375 tw4273826014493349575 tw13086646004429343431 tw3847317898597782279 tw8737533557764417319 tw8079472684421955527 tw373670488158887080 tw16759471689903740104 tw5432202282897788168 tw10213520958557658472 tw2246986701531168232 tw14892014958017632936 tw17046770084006472424 tw16520970066565847848 tw7345335969101027144 tw8264098324353190856 tw4641432238354620457 tw9607929905713046569 tw10918175967783585865 tw2287932715914757289 tw10018345878181060809 tw2482064947996947753 tw12424061706797896009 tw2692431564298889577 tw13563330515687423465 tw4171862029717952073 tw14832279945005629065 tw10118026215256236681 tw184592769927737065 tw3007329595340765033 tw14207522134409118730 tw4776039157439275114 tw16445911685024418026 tw7699721952344029610 tw2246427639156693642 tw827894689561957034 tw4971763747460144842 tw1653967207308881770 tw14507527630799295627 tw12450045627780693131 tw18035227905198315755 tw9513147377631503691 tw1536066443842966859 tw3537535257834634635 tw13483837396622195115 tw1677849829750121899 tw14586225956259872203 tw8090118368485727691 tw5902748490099899883 tw15224905838127621675 tw12096068619722921547 tw6301791071930557163 tw12741658047906438987 tw11020527513724104555 tw18336691692707011467 tw11172452431005091819 tw11638080500846337003 tw10222694999797214252 tw2747581445300788364 tw1453357845472130220 tw3069280826349533420 tw3094569812022313388 tw4497223721893261868 tw6065462928074594924 tw9737234513294918284 tw6804262727895627468 tw14778547020771522284 tw14876218637207068492 tw8793414886837473100 tw14304140415496650732 tw8555249912724443213 tw7525954318092047501 tw18392701564471840941 tw18226084949806212333 tw13481853000116792685 tw16578046770056155757 tw11048414122376640141 tw180190764726629037 tw18096994148494320397 tw11585231182624069421 tw7839837924260795181 tw4943160978553072461 tw15641563632065290093 tw17901186651353817965 tw1891978131959558093 tw5671189742219487566 tw14307202587786884494 tw13525537597654815118 tw16070923064207948302 tw17573057359890225774 tw10750172161573481070 tw17799821000902702734 tw14503861381389678318 tw17151578518729689934 tw3726791521750099822 tw5400710292518818670 tw17035049671129173998 tw9257504834153946191 tw2092807943877746767 tw8504645868031041647 tw8840665409124841711 tw4838034250937021679 tw8794512429860962607 tw10324282474591599 tw17873714182480370255 tw7788673807819457327 tw4435138004007891951 tw2875782818405714032 tw10957438849619440816 tw6076263930537232 tw7948037555853674896 tw11662570786294816144 tw14129403782034070352 tw6626602755826964400 tw4112585053385852880 tw4907727862440866033 tw13097377064225570065 tw8730362851610436913 tw15389909094612617553 tw11302345415507767825 tw3673728974174483185 tw4669282587158887377 tw10167604640922240018 tw15863276341728755858 tw823518648936734898 tw2647599957969521874 tw5564684772816662770 tw12128717201985746194 tw12634206042245278034 tw3045884054902716786 tw8548461553999290738 tw8139594404866987442 tw18269389683967133394 tw13893826328110935858 tw12855797884074800946 tw12560755370137249778 tw15529582024528396371 tw17763780234638958707 tw12631998360545680563 tw3377645874585618707 tw13354060004696482163 tw18020756935779391859 tw17346864485287075219 tw15023588375246113235 tw6652032008560884211 tw105096087441839667 tw3045647599859602995 tw8491612521731433043 tw14677531366062035571 tw14642054816674661107 tw10418055616458522387 tw255771282147686195 tw17587395330175059827 tw8367456840665455571 tw2261091050960571379 tw578847096180656148 tw17182021775316868116 tw10834757705238409236 tw18261510514813950036 tw10092136829358465364 tw11033141234985677172 tw17460065969733591444 tw9989022067427657204 tw5871473524754935380 tw13234203520297187988 tw15241815241993504532 tw11243063372891494228 tw16886648382481265492 tw13539839137771460661 tw1353388240792249397 tw10291079427549217013 tw444728293615373749 tw9090365869118640597 tw15191833404696986101 tw7943074062876397173 tw7368296836004755061 tw12019382848754412181 tw13031995766964145941 tw12722770637192076213 tw16478171675765829589 tw9049931687295217686 tw17635128489907395638 tw15064823031183929398 tw2419630435403642006 tw5799288831439565014 tw616545041523953878 tw2773273564072706294 tw7327080954348498294 tw178452368731067766 tw8603319561479553590 tw6563535607476231766 tw2031164747951946326 tw16395886823932788310 tw8116204860836952694 tw506733599432969942 tw9733887523054232278 tw10998097285483427670 tw2419350250585932662 tw2783208432485702582 tw16707824033479162806 tw9991559955015401527 tw9442949388743545047 tw2963111568045867351 tw9155881416269549975 tw16255509578732833239 tw8967863268382419415 tw15278765311828469271 tw16620530122413950487 tw15951198812752010007 tw5780451817798490007 tw5870833677248304087 tw12240389259116866519 tw15628839408358426680 tw627831232039946456 tw1479923865065400568 tw10094398725027819768 tw17508731372732687672 tw7905158976792727928 tw8319776914710071704 tw17413597174556213656 tw11692044121736254904 tw2282541762844553752 tw11920144778255739512 tw17013905626776100760 tw8311934116166567928 tw11191700257545017369 tw2088128241611902361 tw17343101897545658777 tw18387840577716855225 tw14439961896521732665 tw11963679574996516409 tw5762223682287570553 tw1318311500573258393 tw10639988450460906233 tw2561281997476678682 tw6497441570899994682 tw12502234191652884634 tw12986982780129231034 tw18087428519582072058 tw14007451224638987610 tw1235373082940554586 tw7700840812343034394 tw14036817213908824698 tw16065719568132136666 tw11188123684566902618 tw14195679713179078554 tw9744199902002147451 tw6973171912442413307 tw9864058858120802587 tw8487334851186227483 tw467004428795569531 tw14355141005452915291 tw1975289748386223803 tw16271923200212454171 tw6628748881913054075 tw18415690773736087419 tw2614662983560060795 tw1198167445632620572 tw15954777338466881596 tw10511119484051680316 tw2991684800358592604 tw8972359539543512284 tw14335699489691230460 tw3493232366049732892 tw7495963932986857820 tw830462512022052188 tw8047183104567182716 tw1988730243183645180 tw318015713190361596 tw6666306722175032892 tw3464214407444758108 tw15955647626914826844 tw18429228345779232668 tw9289579895684830140 tw1339201228937236444 tw1604714696663917597 tw14102970690841092189 tw6086219759143940189 tw16714240318275016861 tw4755038459846522045 tw1539221633214377149 tw464397524561215709 tw1320643336229382365 tw11009177990790992221 tw4440024857861510525 tw4512752108782879133 tw12969534007235032509 tw3323136839020732893 tw4995743876745013789 tw6239444398576455261 tw10548550249332024957 tw2860262642057907869 tw6399429342836003485 tw4720238604926524061 tw13077678511104858845 tw13994807163474261821 tw3258126827661986781 tw18130930573323767902 tw3687129589506398494 tw15635668585876772190 tw12429135677161187838 tw6007715297732822622 tw14617863727426867006 tw16872656564083767198 tw474607546208203710 tw13791287440485875135 tw17757324056179993055 tw15998574833141064191 tw13069979837268206175 tw14099095165409113727 tw7329330891223375519 tw14919299213538157247 tw5798087701010252511 tw6067402334237772511 tw9328136884032222047 tw1593475401064308639 tw11199376672101230495 tw13255260492794356703 tw8240834960391699455 tw7633217009301297105:True)
namespace K40
open PySem L2
theorem elZ{C:ā->Prop}(h:C []):∀us,us.length=0->C us:=by intro us e;cases us with|nil=>exact h;|cons _ _=>cases e
theorem Ϗ{C:ā->Prop}(h:∀a,∀us,us.length=n->C (a::us)):∀us,us.length=n+1->C us:=by intro us e;cases us with|nil=>cases e;|cons a r=>exact h a r (Nat.succ.inj e)
theorem υ{C:ā->Prop}(h:∀a0,C [a0]):∀us,us.length=1->C us:=Ϗ (λa0=>elZ (h a0))
theorem ϖ{C:ā->Prop}(h:∀a0 a1,C [a0,a1]):∀us,us.length=2->C us:=Ϗ (λa0=>Ϗ (λa1=>elZ (h a0 a1)))
theorem el3{C:ā->Prop}(h:∀a0 a1 a2,C [a0,a1,a2]):∀us,us.length=3->C us:=Ϗ (λa0=>Ϗ (λa1=>Ϗ (λa2=>elZ (h a0 a1 a2))))
theorem el4{C:ā->Prop}(h:∀a0 a1 a2 a3,C [a0,a1,a2,a3]):∀us,us.length=4->C us:=Ϗ (λa0=>Ϗ (λa1=>Ϗ (λa2=>Ϗ (λa3=>elZ (h a0 a1 a2 a3)))))
theorem el5{C:ā->Prop}(h:∀a0 a1 a2 a3 a4,C [a0,a1,a2,a3,a4]):∀us,us.length=5->C us:=Ϗ (λa0=>Ϗ (λa1=>Ϗ (λa2=>Ϗ (λa3=>Ϗ (λa4=>elZ (h a0 a1 a2 a3 a4))))))
def í(K:Frag)(x:Str)(st:Stmt):Prop:=∃f od an sl oc kV dc pm cd ct,PySem.W.nsIn K mainGlobals x=some (some (.ref f))/\K.lookup f=some ⟨oc,od,.func (PySem.W.fnOf x x (gD st) (cZ st) (aD st) .none kV dc pm an cd ct),sl⟩/\PySem.W.codeIn K cd x=true/\PySem.W.keepIn K (.ref f)=true
theorem has_mk{oc kV dc pm cd ct:Value}(a:PySem.W.nsIn K mainGlobals x=some (some (.ref f)))(l:K.lookup f=some ⟨oc,od,.func (PySem.W.fnOf x x (gD st) (cZ st) (aD st) .none kV dc pm an cd ct),sl⟩)(c:PySem.W.codeIn K cd x=true)(k:PySem.W.keepIn K (.ref f)=true):í K x st:=⟨f,od,an,sl,oc,kV,dc,pm,cd,ct,a,l,c,k⟩
theorem í.get(H:í K x st)(X:K.In h)(G:h.Ns mainGlobals mg):∃f fd,æ K x x st f fd/\mg x=some (.ref f):=by obtain⟨f,od,an,sl,oc,kV,dc,pm,cd,ct,a,l,c,k⟩:=H;exact⟨f,_,Ey (st:=st) l c k,PySem.W.mg_of X G a⟩
abbrev Bd(x:Str)(st:Stmt)(ps:ð)(us:ā):Prop:=∀kV doc pm an ar ct,bindArgs (PySem.W.fnOf x x (gD st) (cZ st) (aD st) .none kV doc pm an ar ct) ⟨us,[]⟩=pure (ps.zip us)
theorem í.g(H:í K x st)(X:K.In h)(G:h.Ns mainGlobals mg)(ps:ð)(hb:∀us,us.length=ps.length->Bd x st ps us):∃f fd,æ K x x st f fd/\mg x=some (.ref f)/\û K fd ps []:=by obtain⟨f,fd,F,m⟩:=H.get X G;exact⟨f,fd,F,m,F.binds λa b c d e g us l=>hb us l a b c d e g⟩
theorem aW(P:Program)(w:World)(base:Heap)(F:Ñ P w K mg base å k f fd ps sp)(m:mg x=some (.ref f))(kp:PySem.W.keepIn K (.ref f)=true)(b:û K fd ps []):â P w K mg base k x ps sp:=⟨f,fd,F,m,kp,b⟩
theorem Kf(F:Ñ P w K mg base (ο P w) k f fd ps sp)(m:mg x=some (.ref f))(kp:PySem.W.keepIn K (.ref f)=true)(b:û K fd ps []):Ng P w K mg base k x ps sp:=⟨f,fd,F,m,kp,b⟩
theorem Kg(F:ű P w K mg base å k f fd ps sp)(m:mg x=some (.ref f))(kp:PySem.W.keepIn K (.ref f)=true)(b:û K fd ps []):Nm P w K mg base k x ps sp:=⟨f,fd,F,m,kp,b⟩
theorem Kh(X:K.In h)(G:h.Ns mainGlobals mg)(F:æ K x qual st f fd)(m:mg x=some (.ref f))(t:PySem.W.tabIn K x=some (c,T)):fd.code=.ref c:=by obtain⟨oc,od,kV,doc,pm,an,ar,ct,l9,rfl,lk,_⟩:=F.ex;exact PySem.W.law_code X G t m (X _ _ lk) O
theorem í.g1(H:í K x st)(X:K.In h)(G:h.Ns mainGlobals mg)(a0:Str)(hb:∀u0,Bd x st [a0] [u0]:=by exact λ_ _ _ _ _ _ _=>rfl):∃f fd,æ K x x st f fd/\mg x=some (.ref f)/\û K fd [a0] []:=H.g X G [a0] (υ hb)
theorem í.g2(H:í K x st)(X:K.In h)(G:h.Ns mainGlobals mg)(a0 a1:Str)(hb:∀u0 u1,Bd x st [a0,a1] [u0,u1]:=by exact λ_ _ _ _ _ _ _ _=>rfl):∃f fd,æ K x x st f fd/\mg x=some (.ref f)/\û K fd [a0,a1] []:=H.g X G [a0,a1] (ϖ hb)
theorem í.g3(H:í K x st)(X:K.In h)(G:h.Ns mainGlobals mg)(a0 a1 a2:Str)(hb:∀u0 u1 u2,Bd x st [a0,a1,a2] [u0,u1,u2]:=by exact λ_ _ _ _ _ _ _ _ _=>rfl):∃f fd,æ K x x st f fd/\mg x=some (.ref f)/\û K fd [a0,a1,a2] []:=H.g X G [a0,a1,a2] (el3 hb)
theorem í.g4(H:í K x st)(X:K.In h)(G:h.Ns mainGlobals mg)(a0 a1 a2 a3:Str)(hb:∀u0 u1 u2 u3,Bd x st [a0,a1,a2,a3] [u0,u1,u2,u3]:=by exact λ_ _ _ _ _ _ _ _ _ _=>rfl):∃f fd,æ K x x st f fd/\mg x=some (.ref f)/\û K fd [a0,a1,a2,a3] []:=H.g X G [a0,a1,a2,a3] (el4 hb)
theorem í.g5(H:í K x st)(X:K.In h)(G:h.Ns mainGlobals mg)(a0 a1 a2 a3 a4:Str)(hb:∀u0 u1 u2 u3 u4,Bd x st [a0,a1,a2,a3,a4] [u0,u1,u2,u3,u4]:=by exact λ_ _ _ _ _ _ _ _ _ _ _=>rfl):∃f fd,æ K x x st f fd/\mg x=some (.ref f)/\û K fd [a0,a1,a2,a3,a4] []:=H.g X G [a0,a1,a2,a3,a4] (el5 hb)
theorem all_mk{l:PySem.W.OpenLaw}(X:K.In h)(G:h.Ns mainGlobals mg)(XG:mg "law"=some (.ref fa))(h20:í K "is_whole" (top 20))(h21:í K "is_whole_from" (top 21))(h22:í K "is_tuple_of" (top 22))(h23:í K "are_wholes" (top 23))(h34:í K "is_clip" (top 34))(h35:í K "are_clips" (top 35))(h36:í K "is_promise" (top 36))(h37:í K "are_promises" (top 37))(h38:í K "are_sales" (top 38))(h39:í K "held_in" (top 39))(h40:í K "is_sale_between" (top 40))(h41:í K "sale_holds" (top 41))(h42:í K "first_unheld" (top 42))(h43:í K "is_book" (top 43))(h44:í K "refuse_no_book" (top 44))(h48:í K "are_weights" (top 48))(h49:í K "refuse_unpartable" (top 49))(h50:í K "places_by_rest" (top 50))(h51:í K "parts_of" (top 51))(h52:í K "parted" (top 52))(h54:í K "sacks_of" (top 54))(h55:í K "claims_in" (top 55))(h56:í K "shares_of" (top 56))(h57:í K "made_good" (top 57))(h58:í K "sort_given" (top 58))(h59:í K "year_given" (top 59))(h60:í K "years_given" (top 60))(h61:í K "refuse_no_year_of" (top 61))(h62:í K "refuse_no_year" (top 62))(h64:í K "owed_behind" (top 64))(h66:í K "from_each_on" (top 66))(h67:í K "claimed_since" (top 67))(h68:í K "wool_since" (top 68))(h69:í K "shown" (top 69))(h70:í K "is_paper_for" (top 70))(h71:í K "lack_by" (top 71))(h72:í K "is_paper" (top 72))(h73:í K "shown_by" (top 73))(h75:í K "_law_cell_at" (top 75))(h76:í K "_law_state" (top 76))(h77:í K AAs (top 77))(h78:í K "_law_clips" (top 78))(h79:í K ABj (top 79))(h80:í K "_law_begun" (top 80))(h81:í K "_law_holds" (top 81))(h82:í K "_law_sell" (top 82))(h83:í K ABb (top 83))(h84:í K ABk (top 84))(h85:í K "_law_sales" (top 85))(h86:í K "_law_book" (top 86))(h87:í K "_law_parted" (top 87))(h88:í K ABg (top 88))(h89:í K "_law_year" (top 89))(h90:í K "_law_walk" (top 90))(h97:í K "_law_same" (top 97))(h91:í K "_law_kind" (top 91))(h92:í K "_law_said" (top 92))(h93:í K ABh (top 93))(h94:í K "_law_between" (top 94))(h95:í K "_law_odd" (top 95))(h96:í K ABe (top 96))(h98:í K "_law_shown" (top 98))(h99:í K AAr (top 99))(aL:PySem.W.nsIn K mainGlobals "law"=some (some (.ref fL)))(lL:K.lookup fL=some ⟨XF,XD,.func (PySem.W.fnOf "law" "law" (gD (top 100)) (cZ (top 100)) (aD (top 100)) .none SN SO BU SM OS SR),XE⟩)(cL:PySem.W.codeIn K OS "law"=true)(kL:PySem.W.keepIn K (.ref fL)=true)(n0:PySem.W.nsIn K mainGlobals "SORTS"=some (some (.int 3 t0)))(n1:PySem.W.nsIn K mainGlobals "HOLDERS"=some (some (.int 8 t1)))(n2:PySem.W.nsIn K mainGlobals "LAST_YEAR"=some (some (.int 19 t2)))(n3:PySem.W.nsIn K mainGlobals "MOST_CLIPS"=some (some (.int 20 t3)))(n4:PySem.W.nsIn K mainGlobals "MOST_PROMISES"=some (some (.int 10 t4)))(n5:PySem.W.nsIn K mainGlobals "MOST_WOOL"=some (some (.int 999 t5)))(n6:PySem.W.nsIn K mainGlobals "MOST_SACKS"=some (some (.int 99 t6)))(n7:PySem.W.nsIn K mainGlobals "MOST_PRICE"=some (some (.int 1000000 t7)))(n8:PySem.W.nsIn K mainGlobals "MOST_SALES"=some (some (.int 12 t8)))(n9:PySem.W.nsIn K mainGlobals "MOST_WEIGHTS"=some (some (.int 80 t9)))(n10:PySem.W.nsIn K mainGlobals "MOST_WEIGHT"=some (some (.int 99 DC)))(dQ:PySem.W.nsIn K mainGlobals "isinstance"=some none)(xC:PySem.W.nsIn K mainGlobals "int"=some none)(pV:PySem.W.nsIn K mainGlobals "bool"=some none)(kK:PySem.W.nsIn K mainGlobals "tuple"=some none)(xE:PySem.W.nsIn K mainGlobals "len"=some none)(xI:PySem.W.nsIn K mainGlobals "all"=some none)(ay:PySem.W.nsIn K mainGlobals "range"=some none)(fq:PySem.W.nsIn K mainGlobals "list"=some none)(xS:PySem.W.nsIn K mainGlobals "max"=some none)(gX:PySem.W.nsIn K mainGlobals "min"=some none)(yb:PySem.W.nsIn K mainGlobals "zip"=some none)(ax:PySem.W.nsIn K mainGlobals "enumerate"=some none)(bP:PySem.W.nsIn K mainGlobals "sorted"=some none)(cy:PySem.W.nsIn K mainGlobals "sum"=some none)(kr:PySem.W.nsIn K mainGlobals "reversed"=some none)(qa:PySem.W.nsIn K mainGlobals "repr"=some none)(hV:PySem.W.nsIn K mainGlobals "ValueError"=some none)(k0:PySem.W.nsIn K mainGlobals "NoClips"=some (some (.ref C0)))(k1:PySem.W.nsIn K mainGlobals "NoPromises"=some (some (.ref C1)))(k2:PySem.W.nsIn K mainGlobals "NoSales"=some (some (.ref C2)))(k3:PySem.W.nsIn K mainGlobals "NoBook"=some (some (.ref C3)))(k4:PySem.W.nsIn K mainGlobals "NoNumber"=some (some (.ref C4)))(k5:PySem.W.nsIn K mainGlobals "NoYear"=some (some (.ref C5)))(k6:PySem.W.nsIn K mainGlobals "NoWeights"=some (some (.ref C6)))(k7:PySem.W.nsIn K mainGlobals "NoPaper"=some (some (.ref C7)))(k8:PySem.W.nsIn K mainGlobals "NoGrowth"=some (some (.ref C8)))(k9:PySem.W.nsIn K mainGlobals "NoPromise"=some (some (.ref C9)))(k10:PySem.W.nsIn K mainGlobals "NoSort"=some (some (.ref JO)))(k11:PySem.W.nsIn K mainGlobals "NoClip"=some (some (.ref JU)))(k12:PySem.W.nsIn K mainGlobals "NoSale"=some (some (.ref JY)))(k13:PySem.W.nsIn K mainGlobals "NoDeed"=some (some (.ref Kb)))(k14:PySem.W.nsIn K mainGlobals "NoText"=some (some (.ref Ki)))(k15:PySem.W.nsIn K mainGlobals "NoLine"=some (some (.ref Kj)))(k16:PySem.W.nsIn K mainGlobals "TooMany"=some (some (.ref Kk)))(k17:PySem.W.nsIn K mainGlobals "WoolError"=some (some (.ref Kn)))(e7:PySem.W.excIn K C7 VE "ValueError.__new__"=true)(d7:Np K [C0,C1,C2,C3,C4,C5,C6,C7,C8,C9,JO,JU,JY,Kb,Ki,Kj,Kk,Kn] 7=true)(tb:PySem.W.tabIn K AAr=some (cT,T0)):∃fd,(∀s v,BindsTo s fd ⟨[v],[]⟩ [(Ζ,v)])/\∀base,K.In base->base.Ns mainGlobals mg->PySem.W.CodeHd base cT T0->base.BuiltinsAt mg T0->Ñ l.prog w K mg base å 63 fa fd [Ζ] (Ce K T0):=by have e:=XG.symm.trans (PySem.W.mg_of X G aL);cases e;have FL:=Ey (st:=top 100) lL cL kL;obtain⟨f20,XH,SS,XI,XJ⟩:=h20.g1 X G "thing";obtain⟨f21,XM,SU,XN,XO⟩:=h21.g3 X G "thing" "least" "most";obtain⟨f22,XQ,SV,XR,XS⟩:=h22.g3 X G "thing" "fewest" "most";obtain⟨f23,XT,SW,XU,XW⟩:=h23.g2 X G "thing" "many";obtain⟨f34,XX,SX,XY,XZ⟩:=h34.g1 X G "thing";obtain⟨f35,X0,SY,X1,X2⟩:=h35.g1 X G "thing";obtain⟨f36,X3,S5,X4,X5⟩:=h36.g1 X G "thing";obtain⟨f37,X6,S9,X7,X8⟩:=h37.g1 X G "thing";obtain⟨f38,X9,Ta,Ya,Yb⟩:=h38.g1 X G "thing";obtain⟨f39,Yc,Tb,Yd,Ye⟩:=h39.g4 X G "promises" "sales" "number" "year";obtain⟨f40,Yf,Tc,Yg,Yh⟩:=h40.g2 X G "promises" "sale";obtain⟨f41,Yi,Td,Yj,Yk⟩:=h41.g3 X G "promises" "ahead" "sale";obtain⟨f42,Yl,Tf,Ym,Yn⟩:=h42.g2 X G "promises" "sales";obtain⟨f43,Yo,Th,Yp,Yq⟩:=h43.g1 X G "thing";obtain⟨f44,Yr,Ti,Ys,Yt⟩:=h44.g1 X G "thing";obtain⟨f48,Yu,Tj,Yv,Yw⟩:=h48.g1 X G "thing";obtain⟨f49,Yx,Tq,Yy,Yz⟩:=h49.g2 X G "sacks" "weights";obtain⟨f50,YA,Tt,YB,YC⟩:=h50.g1 X G "rests";obtain⟨f51,YD,Tu,YE,YF⟩:=h51.g2 X G "sacks" "weights";obtain⟨f52,YG,Tw,YH,YJ⟩:=h52.g2 X G "sacks" "weights";obtain⟨f54,YK,Tx,YL,YM⟩:=h54.g1 X G "rows";obtain⟨f55,YN,TC,YO,YQ⟩:=h55.g4 X G "promises" "sales" "sort" "year";obtain⟨f56,YR,TF,YS,YT⟩:=h56.g2 X G "wool" "claims";obtain⟨f57,YU,TH,YV,YW⟩:=h57.g2 X G "wool" "owed";obtain⟨f58,YX,TJ,YY,YZ⟩:=h58.g3 X G "wool" "claims" "owed";obtain⟨f59,Y0,TK,Y1,Y2⟩:=h59.g3 X G "book" "year" "owed";obtain⟨f60,Y3,TL,Y4,Y5⟩:=h60.g2 X G "book" "year";obtain⟨f61,Y6,TN,Y7,Y8⟩:=h61.g2 X G "clips" "year";obtain⟨f62,Y9,TQ,Za,Zb⟩:=h62.g2 X G "book" "year";obtain⟨f64,Zc,TR,Zd,Ze⟩:=h64.g2 X G "book" "year";obtain⟨f66,Zf,TU,Zg,Zh⟩:=h66.g1 X G "numbers";obtain⟨f67,Zi,TV,Zj,Zk⟩:=h67.g2 X G "book" "year";obtain⟨f68,Zl,TX,Zm,Zn⟩:=h68.g2 X G "book" "year";obtain⟨f69,Zo,TY,Zp,Zq⟩:=h69.g3 X G "claimed" "wool" "paper";obtain⟨f70,Zr,TZ,Zs,Zt⟩:=h70.g2 X G "year" "thing";obtain⟨f71,Zu,T2,Zv,Zw⟩:=h71.g2 X G "book" "year";obtain⟨f72,Zx,T3,Zy,Zz⟩:=h72.g3 X G "book" "year" "thing";obtain⟨f73,ZA,T4,ZC,ZD⟩:=h73.g3 X G "book" "year" "paper";obtain⟨f75,ZE,T5,ZF,ZG⟩:=h75.g2 X G Ζ AAw;obtain⟨f76,ZH,T6,ZI,ZJ⟩:=h76.g2 X G Ζ AAw;obtain⟨f77,ZK,T7,ZL,ZM⟩:=h77.g2 X G ă AAo;obtain⟨f78,ZN,T8,ZO,ZQ⟩:=h78.g2 X G ă Ų;obtain⟨f79,ZR,T9,ZS,ZU⟩:=h79.g3 X G ă Ų AAq;obtain⟨f80,ZV,Ua,ZW,ZX⟩:=h80.g1 X G ć;obtain⟨f81,ZY,Ub,ZZ,Z0⟩:=h81.g3 X G ć ŀ AAp;obtain⟨f82,Z1,Uc,Z2,Z3⟩:=h82.g3 X G ć ŀ AAp;obtain⟨f83,Z4,Kt,Ud,Ue⟩:=h83.g2 X G ć ſ;obtain⟨f84,Z5,Ug,Z6,Z7⟩:=h84.g2 X G ă ć;obtain⟨f85,Z8,Uh,Z9,b85⟩:=h85.g3 X G ă ć Ų;obtain⟨f86,fd86,Ui,m86,b86⟩:=h86.g4 X G ă AAq Ų ſ;obtain⟨f87,fd87,Uj,m87,b87⟩:=h87.g2 X G Ϯ ABa;obtain⟨f88,fd88,Uk,m88,b88⟩:=h88.g4 X G ć ŀ ϊ Į;obtain⟨f89,fd89,Ul,m89,b89⟩:=h89.g5 X G ć ŀ AAu Į ABc;obtain⟨f90,fd90,Um,m90,b90⟩:=h90.g3 X G AAt ć ſ;obtain⟨f97,fd97,Uo,m97,b97⟩:=h97.g2 X G Ε AAz;obtain⟨f91,fd91,Up,m91,b91⟩:=h91.g1 X G "_law_e";obtain⟨f92,fd92,Uq,m92,b92⟩:=h92.g1 X G ABd;obtain⟨f93,fd93,Ur,m93,b93⟩:=h93.g1 X G Ĳ;obtain⟨f94,fd94,Us,m94,b94⟩:=h94.g3 X G Ĳ "_law_low" "_law_high";obtain⟨f95,fd95,Ut,m95,b95⟩:=h95.g1 X G ă;obtain⟨f96,OT,GH,OU,OV⟩:=h96.g3 X G ă Ĳ AAy;obtain⟨f98,fd98,Uu,m98,b98⟩:=h98.g3 X G AAj Į Ĳ;obtain⟨f99,fd99,OW,Uv,b99⟩:=h99.g3 X G AAj Į Ĳ;have T:Mg mg:=⟨(ò X G dQ),(ò X G xC),(ò X G pV),(ò X G kK),(ò X G xE),(ò X G xI)⟩;have TP:K40.Mg mg:=⟨(ò X G dQ),(ò X G xC),(ò X G pV),(ò X G kK),(ò X G xE),(ò X G xI)⟩;have N:Nums mg:=⟨⟨t0,PySem.W.mg_of X G n0⟩,⟨t1,PySem.W.mg_of X G n1⟩,⟨t2,PySem.W.mg_of X G n2⟩,⟨t3,PySem.W.mg_of X G n3⟩,⟨t4,PySem.W.mg_of X G n4⟩,⟨t5,PySem.W.mg_of X G n5⟩,⟨t6,PySem.W.mg_of X G n6⟩,⟨t7,PySem.W.mg_of X G n7⟩⟩;have NP:K40P.Nums mg:=⟨⟨t9,PySem.W.mg_of X G n9⟩,⟨DC,PySem.W.mg_of X G n10⟩⟩;have N2:MS mg:=⟨⟨t8,PySem.W.mg_of X G n8⟩⟩;refine⟨PySem.W.fnOf "law" "law" (gD (top 100)) (cZ (top 100)) (aD (top 100)) .none SN SO BU SM OS SR,λs v=>.of_eq O,λbase kb _ hC hB=>?_⟩;have L:Z10 mg (λi=>[C0,C1,C2,C3,C4,C5,C6,C7,C8,C9,JO,JU,JY,Kb,Ki,Kj,Kk,Kn].getD i 0):=⟨PySem.W.mg_of X G k0,PySem.W.mg_of X G k1,PySem.W.mg_of X G k2,PySem.W.mg_of X G k3,PySem.W.mg_of X G k4,PySem.W.mg_of X G k5,PySem.W.mg_of X G k6,PySem.W.mg_of X G k7,PySem.W.mg_of X G k8,PySem.W.mg_of X G k9,PySem.W.mg_of X G k10,PySem.W.mg_of X G k11,PySem.W.mg_of X G k12,PySem.W.mg_of X G k13,PySem.W.mg_of X G k14,PySem.W.mg_of X G k15,PySem.W.mg_of X G k16,PySem.W.mg_of X G k17⟩;have O7:=Mr (mg:=mg) kb L.n7 e7;have K7:=Q4 d7;have gu:=Kh X G OW Uv tb;have Uw:=aW l.prog w base (wR SS T) XI SS.kp XJ;have OX:=aW l.prog w base (rT SU Uw) XN SU.kp XO;have DD:=aW l.prog w base (qK SV T) XR SV.kp XS;have Kx:=aW l.prog w base (rO SW T Uw DD) XU SW.kp XW;have C34:=aW l.prog w base (yH SX T N Kx) XY SX.kp XZ;have C35:=aW l.prog w base (uQ SY T N C34 DD) X1 SY.kp X2;have C36:=aW l.prog w base (rP S5 T N Kx) X4 S5.kp X5;have Ux:=aW l.prog w base (oN S9 T N C36 DD) X7 S9.kp X8;have Uy:=aW l.prog w base (uX Ta T N2 Kx DD) Ya Ta.kp Yb;have Uz:=aW l.prog w base (JD Tb N) Yd Tb.kp Ye;have C40:=aW l.prog w base (JF Tc T N) Yg Tc.kp Yh;have C41:=aW l.prog w base (Gw Td T (ò X G ay) C40 Uz) Yj Td.kp Yk;have C42:=aW l.prog w base (Gx Tf (ò X G ax) Ux Uy C41) Ym Tf.kp Yn;have C43:=aW l.prog w base (JG Th DD C35 Ux Uy C42) Yp Th.kp Yq;have C44:=aW l.prog w base (JX Ti C43) Ys Ti.kp Yt;have C48:=aW l.prog w base (K40P.ok_are_weights Tj TP NP OX DD) Yv Tj.kp Yw;have C49:=aW l.prog w base (K40P.ok_refuse Tq (ò X G cy) C48 OX) Yy Tq.kp Yz;have C50:=aW l.prog w base (K40P.ok_places Tt (ò X G ax) (ò X G bP)) YB Tt.kp YC;have C51:=aW l.prog w base (K40P.ok_parts Tu TP (ò X G cy) C50) YE Tu.kp YF;have C52:=aW l.prog w base (K40P.ok_parted Tw C49 C51) YH Tw.kp YJ;have OY:=aW l.prog w base (Gy Tx (ò X G cy)) YL Tx.kp YM;have UA:=aW l.prog w base (Dz TC (ò X G ax) Uz) YO TC.kp YQ;have C56:=aW l.prog w base (Dy TF T (ò X G cy) C52) YS TF.kp YT;have C57:=aW l.prog w base (JH TH (ò X G gX)) YV TH.kp YW;have C58:=aW l.prog w base (GK TJ (ò X G cy) (ò X G fq) (ò X G yb) C56 C57) YY TJ.kp YZ;have C59:=aW l.prog w base (JK TK T N (ò X G ay) (ò X G bP) UA C58 OY) Y1 TK.kp Y2;have C60:=aW l.prog w base (Hv TL (ò X G ay) C59) Y4 TL.kp Y5;have C61:=aW l.prog w base (JZ TN T OX) Y7 TN.kp Y8;have OZ:=aW l.prog w base (HJ TQ C44 C61) Za TQ.kp Zb;have C64:=aW l.prog w base (HN TR C60) Zd TR.kp Ze;have UB:=aW l.prog w base (K5 TU (ò X G kr)) Zg TU.kp Zh;have C67:=aW l.prog w base (zj TV N (ò X G ay) UB OY UA) Zj TV.kp Zk;have C68:=aW l.prog w base (xN TX N (ò X G ay) UB) Zm TX.kp Zn;have C69:=aW l.prog w base (HW TY N (ò X G ay) (ò X G cy) (ò X G ax) (ò X G gX)) Zp TY.kp Zq;have UC:=aW l.prog w base (Kd TZ T N Kx) Zs TZ.kp Zt;have C71:=aW l.prog w base (K4 T2 OZ C64 OY) Zv T2.kp Zw;have C72:=aW l.prog w base (Ke T3 OZ UC) Zy T3.kp Zz;have XSH:=Kf (P:=l.prog) (w:=w) (base:=base) (Nq (Cs:=λi=>[C0,C1,C2,C3,C4,C5,C6,C7,C8,C9,JO,JU,JY,Kb,Ki,Kj,Kk,Kn].getD i 0) T4 O7 OZ UC C67 C68 C69) ZC T4.kp ZD;have C75:=aW l.prog w base (Jw T5 T) ZF T5.kp ZG;have C76:=aW l.prog w base (Gq T6 C75) ZI T6.kp ZJ;have yk:=aW l.prog w base (Jx T7) ZL T7.kp ZM;have C78:=aW l.prog w base (DY T8 T (ò X G ay) yk) ZO T8.kp ZQ;have C79:=aW l.prog w base (vq T9 T (ò X G ay) (ò X G gX) yk) ZS T9.kp ZU;have UD:=aW l.prog w base (Hg Ua (ò X G ax) (ò X G ay)) ZW Ua.kp ZX;have UE:=aW l.prog w base (DN Ub T (ò X G ay) (ò X G gX)) ZZ Ub.kp Z0;have UG:=aW l.prog w base (JQ Uc (ò X G ay)) Z2 Uc.kp Z3;have UH:=aW l.prog w base (xG Kt (ò X G ax) UD UE UG) Ud Kt.kp Ue;have CS:=aW l.prog w base (JR (xG Kt (ò X G ax) UD UE UG)) Ud Kt.kp Ue;have C84:=aW l.prog w base (N6 Ug T (ò X G xS) yk) Z6 Ug.kp Z7;have C85:=aW l.prog w base (Ea Uh T (ò X G ay) yk C84 CS) Z9 Uh.kp b85;have C86:=aW l.prog w base (Eb Ui T C78 C79 C85) m86 Ui.kp b86;have C87:=aW l.prog w base (K40P.ok_lparted Uj (ò X G cy) (ò X G ax) (ò X G bP)) m87 Uj.kp b87;have UI:=aW l.prog w base (yZ Uk (ò X G ax) (ò X G fq) (ò X G bP)) m88 Uk.kp b88;have C89:=aW l.prog w base (Hu Ul T (ò X G ay) (ò X G yb) (ò X G bP) (ò X G gX) (ò X G cy) UI C87) m89 Ul.kp b89;have C90:=aW l.prog w base (JW Um (ò X G ax) (ò X G bP) UH C89) m90 Um.kp b90;have UJ:=aW l.prog w base (Jy Uo (ò X G qa)) m97 Uo.kp b97;have C91:=Kg (P:=l.prog) (w:=w) (base:=base) (K9 Up T (ò X G hV) L) m91 Up.kp b91;have C92:=aW l.prog w base (Kc (kk:=10) Uq L C91) m92 Uq.kp b92;have O0:=aW l.prog w base (Dv Ur T) m93 Ur.kp b93;have C94:=aW l.prog w base (wU Us O0) m94 Us.kp b94;have Pc:=aW l.prog w base (Mw Ut yk) m95 Ut.kp b95;have S0:=aW l.prog w base (yK (f:=f96) (fd:=OT)) OU GH.kp OV;have S1:=aW l.prog w base (tV (k:=0) GH T (ò X G fq) yk O0 Pc S0) OU GH.kp OV;have S2:=aW l.prog w base (tV (k:=1) GH T (ò X G fq) yk O0 Pc S1) OU GH.kp OV;have C98:=aW l.prog w base (Eh Uu (ò X G ay) (ò X G cy) UH UI) m98 Uu.kp b98;have C99:=aW l.prog w base (Il OW gu hC hB T (ò X G qa) K7 C92 XSH C72 C98 C94 UJ) Uv OW.kp b99;exact Nu FL T (ò X G ay) (ò X G xS) (ò X G gX) (ò X G cy) (ò X G fq) C76 C86 yk C90 C71 UJ C99 S2 Pc
theorem walk{l:PySem.W.OpenLaw}{K:Params->Frag}(hn:l.most=some 63)(zk:d.params.defaults=[])(hY:∀w h,YP w h->(K w.params).In h)(ME:(PyProof.Rows.recsOf q).find? (λe=>e.name==(AAr:Str))=some dr)(EU:∀p,PySem.W.tabIn (K p) AAr=some (c,T0))(MG:∀p,PySem.W.noTabs (K p)=true)(F:∀w mg fa h,(K w.params).In h->h.Ns mainGlobals mg->mg d.name=some (.ref fa)->∃fd,(∀s u,BindsTo s fd ⟨[u],[]⟩ [(Ζ,u)])/\∀base,(K w.params).In base->base.Ns mainGlobals mg->PySem.W.CodeHd base c T0->base.BuiltinsAt mg T0->Ñ l.prog w (K w.params) mg base å 63 fa fd [Ζ] (Ce (K w.params) T0)):PySem.W.WalkO q loose XP YP l.row.toRowW d [] (λf vs=>PySem.call f vs):=L2.walk_ofT (n:=63) (k:=63) (x:=Ζ) (nm:=AAr) (qn:=qnT) (CX:=λ_=>å) (sp:=λw=>Ce (K w.params) T0) hn Ù zk ⟨O,by decide,by decide,rfl⟩ hY ME EU MG F (λ_ _ a ns hl hS hT=>⟨a,ns,O,hS,hl,hT,λ_=>rfl⟩) λ_ _ _ _ _ z=>z
end K40
open PySem PySem.W PyProof.Rows
set_option maxRecDepth 100000 in
set_option maxHeartbeats 0 in
theorem PySem.Challenge.cw_woolyears_k40_lacks_and_papers_looked_at_holds : PySem.Challenge.rw_woolyears_k40_lacks_and_papers_looked_at.Holds := by
 w_on;o_law;k_head;(case hw=>w_witness2);k_fill;refine' K40.walk (l:=PySem.Challenge.rw_woolyears_k40_lacks_and_papers_looked_at) rfl rfl (λw h Y=>PySem.W.km_in_of Y) ?fd ?tb ?nt ?F;case fd=>exact O
 case tb=>intro p;refine' K40.tab_mk ?a ?l ?c ?m ?v;(case a=>k_is);(case l=>k_is);(case c=>exact O);(case m=>k_is);(case v=>exact O)
 case nt=>intro p;kernel_rfl
 case F=>
  intro w mg fa h KX G hmg;refine' K40.all_mk KX G hmg ?h20 ?h21 ?h22 ?h23 ?h34 ?h35 ?h36 ?h37 ?h38 ?h39 ?h40 ?h41 ?h42 ?h43 ?h44 ?h48 ?h49 ?h50 ?h51 ?h52 ?h54 ?h55 ?h56 ?h57 ?h58 ?h59 ?h60 ?h61 ?h62 ?h64 ?h66 ?h67 ?h68 ?h69 ?h70 ?h71 ?h72 ?h73 ?h75 ?h76 ?h77 ?h78 ?h79 ?h80 ?h81 ?h82 ?h83 ?h84 ?h85 ?h86 ?h87 ?h88 ?h89 ?h90 ?h97 ?h91 ?h92 ?h93 ?h94 ?h95 ?h96 ?h98 ?h99 ?aL ?lL ?cL ?kL ?n0 ?n1 ?n2 ?n3 ?n4 ?n5 ?n6 ?n7 ?n8 ?n9 ?n10 ?z0 ?z1 ?z2 ?z3 ?z4 ?z5 ?z6 ?z7 ?z8 ?z9 ?z10 ?z11 ?z12 ?z13 ?z14 ?z15 ?z16 ?k0 ?k1 ?k2 ?k3 ?k4 ?k5 ?k6 ?k7 ?k8 ?k9 ?k10 ?k11 ?k12 ?k13 ?k14 ?k15 ?k16 ?k17 ?e7 ?d7 ?tb;case h20|h21|h22|h23|h34|h35|h36|h37|h38|h39|h40|h41|h42|h43|h44|h48|h49|h50|h51|h52|h54|h55|h56|h57|h58|h59|h60|h61|h62|h64|h66|h67|h68|h69|h70|h71|h72|h73|h75|h76|h77|h78|h79|h80|h81|h82|h83|h84|h85|h86|h87|h88|h89|h90|h97|h91|h92|h93|h94|h95|h96|h98|h99=>refine' K40.has_mk ?a ?l ?c ?k;case a|l|c|k=>k_is
  case aL|lL|cL|kL|n0|n1|n2|n3|n4|n5|n6|n7|n8|n9|n10|z0|z1|z2|z3|z4|z5|z6|z7|z8|z9|z10|z11|z12|z13|z14|z15|z16|k0|k1|k2|k3|k4|k5|k6|k7|k8|k9|k10|k11|k12|k13|k14|k15|k16|k17=>k_is
  case e7|d7=>kernel_rfl
  case tb=>refine' K40.tab_mk ?a ?l ?c ?m ?v;(case a=>k_is);(case l=>k_is);(case c=>exact O);(case m=>k_is);(case v=>exact O)
