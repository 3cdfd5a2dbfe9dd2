import PyProof.Rows.All
import Wide.All
import OpenK.AllK
import Wide.FinOn
import Lean
import PyProof.EqAt
import PyProof.EqKinds
import PyProof.TupleCall
import PyProof.StrLawsRepr
import PyProof.ZipIter
import PySem.Challenge.RW_woolyears_k33_owing_refused
import PyProof.Rows.SortRunsK
import PyProof.AttrMissHeap
import PyProof.SeqRoads
import PyProof.ListOps
import PyProof.DictUpdate
import PyProof.DictWalks
import PyProof.StationsW
import KE.KItemsList
import PyProof.ListNew
import PyProof.ListRange
import PyProof.NeKinds
import PyProof.ExcBaseAll.ValueError
set_option compiler.extract_closed false
set_option Elab.async false
set_option linter.all false
set_option maxRecDepth 100000
set_option maxHeartbeats 4000000
noncomputable section
abbrev Tc:=PySem.Value->PySem.Shared->Prop
abbrev Ti:=PySem.Str->Option PySem.Value
abbrev ZX:=List (PySem.Addr×PySem.Obj)
abbrev gV:=PyProof.Rows.KeyKind
abbrev ü:=List PySem.PyData
abbrev â:=List PySem.Value
abbrev ĵ:=Array PySem.Value
abbrev Qa3:=List PySem.Expr
abbrev ó:=List PySem.Str
abbrev Φ:=Option PySem.Value
abbrev ă:=List PySem.Addr
def Û:=@PyProof.Rows.wpS_bind
def ä:=@PyProof.Rows.wpS_pure
def Κ:=@PySem.wpAny_newObj_type
def ŀ:=@List.all_eq_true
def Ű:=@List.pairwise_append
def Ũ:=@List.mem_singleton
def Ι:=@Array.toList_append
def Zah:=@List.take_of_length_le
def Zai:=@List.mem_cons_of_mem
def ϫ:=@List.mem_cons_self
def Zak:=@List.filterMap_cons
def Zal:=@Array.getElem?_toList
def Τ:=@Nat.lt_irrefl
def Zan:=@List.mem_of_mem_take
def Zao:=@Array.getElem?_eq_getElem
def ζ:=@List.sum_cons
def Zaq:=@List.drop_sublist
def ϡ:=@List.mem_range
def ε:=@Nat.le_trans
def Zat:=@List.length_drop
def Zau:=@List.drop_of_length_le
def Zav:=@List.take_sublist
def Zaw:=@List.getElem_of_mem
def ϗ:=@Nat.ne_of_gt
def Zay:=@Option.isSome_iff_exists
def Zaz:=@Bool.not_eq_true'
def Za0:=@Bool.eq_iff_iff
def Za1:=@List.mem_of_mem_drop
def Za2:=@List.length_set
def Za3:=@List.getElem_take
def Za4:=@List.getElem?_set_self
def Za5:=@Int.le_refl
def Za6:=@List.of_mem_zip
def Za7:=@List.length_replicate
def Za8:=@List.getElem?_eq_none
def Za9:=@Array.perm_iff_toList_perm
def Zba:=@List.mem_append_left
def Zbb:=@List.drop_eq_getElem_cons
def Zbc:=@List.lookup_cons
def Zbd:=@Nat.le_of_lt
def Zbe:=@List.eq_of_mem_replicate
def Zbf:=@List.nodup_cons
def Zbg:=@List.filter_append
def Zbh:=@Int.emod_lt_of_pos
abbrev ø:PySem.Str:="_law_state_here"
abbrev ď:PySem.Str:="_law_thing"
abbrev ũ:PySem.Str:="_law_script"
abbrev ť:PySem.Str:="_law_year"
abbrev ϥ:PySem.Str:="_law_promises"
abbrev Ψ:PySem.Str:="_law_most"
abbrev Ϥ:PySem.Str:="_law_choice"
abbrev ύ:PySem.Str:="_law_many"
abbrev Ϻ:PySem.Str:="_law_years"
abbrev Ϲ:PySem.Str:="_law_right"
abbrev ϣ:PySem.Str:="_law_one"
abbrev AAl:PySem.Str:="_law_deep"
abbrev AAm:PySem.Str:="_law_call"
abbrev AAn:PySem.Str:="_law_bent"
abbrev ϸ:PySem.Str:="_law_k"
abbrev Ϸ:PySem.Str:="_law_e"
abbrev AAq:PySem.Str:="_law_said"
abbrev AAr:PySem.Str:="_law_high"
abbrev AAs:PySem.Str:="_law_marks_here"
abbrev AAt:PySem.Str:="_law_found"
abbrev AAu:PySem.Str:="_law_sales"
abbrev AAv:PySem.Str:="_law_low"
abbrev AAw:PySem.Str:="_law_number"
abbrev AAx:PySem.Str:="_law_bounds"
abbrev AAy:PySem.Str:="_law_things"
abbrev AAz:PySem.Str:="_law_row_bent"
abbrev ABa:PySem.Str:="_law_sacks"
abbrev ABb:PySem.Str:="_law_marks"
abbrev ABc:PySem.Str:="_law_words"
abbrev ABd:PySem.Str:="_law_whole"
abbrev UV:=List (List Int)
abbrev VV:=List Int
theorem À{p:Prop}(h:p:=by lia):p:=h
theorem Ò{p:Prop}(h:p:=by simp):p:=h
theorem Ù{p:Prop}(h:p:=by decide):p:=h
theorem z03{p:Prop}(h:p:=by omega):p:=h
theorem Ε{p:Prop}(h:p:=by decide+kernel):p:=h
theorem ϻ{p:Prop}(h:p:=by rw[sizeLine_eq];lia):p:=h
def ċ:=@decide_eq_true_eq
open PySem.W (Frag)
def Ä:=@PySem.wpAny_bind
def è:=@decide_eq_true
def ë:=@PySem.Heap.get?_push_of_some
def ö:=@PySem.W.mg_none_of
def Ó:=@PySem.wpAny_pure
def Ë:=@if_neg
def Í:=@if_pos
def í:=@PySem.Heap.lt_size
def ĉ:=@decide_eq_false
def Ę:=@PySem.Heap.get?_push_size
def ĸ:=@Nat.lt_of_lt_of_le
def ė:=@Nat.ne_of_lt
def Ŋ:=@List.mem_of_getElem?
def ň:=@PySem.PassesOwn.never
def ώ:=@of_decide_eq_true
def Ϧ:=@List.take_append_drop
def zB9:=@List.getElem?_append_right
def zBa:=@List.getElem?_append_left
def zBb:=@PySem.F.plainAttrs_list
def zBc:=@List.filter_cons_of_neg
def zBd:=@List.filter_cons_of_pos
def ϛ:=@List.mem_append_right
def zBf:=@PySem.F.type_list_append
def zBg:=@PySem.F.slot_list_append
def é:=@List.getElem?_eq_getElem
def Ý:=@List.length_map
def ý:=@List.length_append
def Ø:=@Nat.le_refl
def Ħ:=@List.map_append
def Ā:=@List.mem_map
def Ą:=@List.mem_append
def ŧ:=@List.getD_eq_getElem?_getD
def ć:=@List.size_toArray
def Ě:=@Array.length_toList
def ġ:=@List.getElem?_eq_some_iff
def ģ:=@List.getElem?_map
def ą:=@Bool.and_eq_true
def İ:=@List.length_take
def ľ:=@List.length_cons
def Ŧ:=@List.append_assoc
def Ō:=@Bool.false_ne_true
def į:=@List.getElem_mem
def Ϟ:=@Int.toNat_natCast
def ŋ:=@List.take_add_one
def ϝ:=@List.map_cons
def ĭ:=@Option.some.inj
def Ľ:=@List.take_length
def ļ:=@List.append_nil
def Ļ:=@List.mem_cons
def ħ:=@Nat.zero_le
def Ϝ:=@List.mem_filter
def zAr:=@List.map_map
def zAs:=@List.length_zip
namespace L2
open PySem PySem.Spec PyProof.Rows
abbrev Key:=Sum Int Str
def pO:Key->Value->Bool|.inl k,v=>Value.isInt k v|.inr x,v=>Value.isStrOf x v
def Pj(w:World):Key->Int|.inl k=>hashInt k|.inr x=>hashStr w x
theorem cu:∀{k:Key}{v:Value},pO k v=true->(∃i t,k=Sum.inl i/\v=Value.int i t)\/(∃x t,k=Sum.inr x/\v=Value.str x t)|.inl i,v,h=>by obtain⟨t,e⟩:=Value.isInt_shape (k:=i) (v:=v) h;exact .inl ⟨i,t,rfl,e⟩;|.inr x,v,h=>by obtain⟨t,e⟩:=Value.isStrOf_shape (x:=x) (v:=v) h;exact .inr ⟨x,t,rfl,e⟩
theorem Br(i:Int)(t:Tok):pO (.inl i) (.int i t)=true:=by simp[pO,Value.isInt]
theorem Bs(x:Str)(t:Tok):pO (.inr x) (.str x t)=true:=by simp[pO,Value.isStrOf]
theorem Kl(a b:Int):decide ((Sum.inl a:Key)=Sum.inl b)=(a==b):=by grind
theorem Km(a b:Str):decide ((Sum.inr a:Key)=Sum.inr b)=decide (a=b):=by simp
theorem Ko(a:Int)(b:Str):decide ((Sum.inl a:Key)=Sum.inr b)=false:=ĉ (λq=>nomatch q)
theorem Kp(a:Str)(b:Int):decide ((Sum.inr a:Key)=Sum.inl b)=false:=ĉ (λq=>nomatch q)
def cg(prog:Program)(w:World):PySem.KeyKind prog w Key where
 is:=pO;hash:=Pj w;inj:=λv a b ha hb=>by
  rcases cu ha with⟨i,t,rfl,rfl⟩|⟨x,t,rfl,rfl⟩
  .rcases cu hb with⟨j,u,rfl,e⟩|⟨y,u,rfl,e⟩;.injection e with e1 _;rw[e1]
   .exact nomatch e
  .rcases cu hb with⟨j,u,rfl,e⟩|⟨y,u,rfl,e⟩;.exact nomatch e
   .injection e with e1 _;rw[e1]
 byValue:=λk v h=>by rcases cu h with⟨i,t,rfl,rfl⟩|⟨x,t,rfl,rfl⟩<;>rfl
 pyHash:=λhv h=>by
  rcases cu hv with⟨i,t,rfl,rfl⟩|⟨x,t,rfl,rfl⟩;.exact wpAny_pyHash_int h
  .exact wpAny_pyHash_str h
 eqBool:=λhu hv h=>by
  rcases cu hu with⟨i,t,rfl,rfl⟩|⟨x,t,rfl,rfl⟩
  .rcases cu hv with⟨j,u,rfl,rfl⟩|⟨y,u,rfl,rfl⟩;.rw[Kl]at h;exact wpAny_eqBool_int h
   .rw[Ko]at h;exact SeqAt.EqAt.int_str i t y u _ _ _ _ h
  .rcases cu hv with⟨j,u,rfl,rfl⟩|⟨y,u,rfl,rfl⟩;.rw[Kp]at h;exact SeqAt.EqAt.str_int x t j u _ _ _ _ h
   .rw[Km]at h;exact wpAny_eqBool_str h
 «strs»:=λk x t v h=>by
  rcases cu h with⟨i,u,rfl,e⟩|⟨y,u,rfl,e⟩;.exact nomatch e
  .injection e with e1 _;subst e1;cases v<;>rfl
theorem vM(prog:Program)(w:World)(i:Int)(t:Tok):(cg prog w).is (.inl i) (.int i t)=true:=Br i t
theorem vN(prog:Program)(w:World)(x:Str)(t:Tok):(cg prog w).is (.inr x) (.str x t)=true:=Bs x t
inductive V where|non|bl(b:Bool)|int(i:Int)|str(x:Str)|byt(b:Array UInt8)|flt(b:UInt64)|ref(a:Addr)|ty(n:String)deriving DecidableEq
def Ñ:V->Value->Prop|.non,u=>u=Value.none|.bl b,u=>u=Value.bool b|.int i,u=>∃t,u=Value.int i t|.str x,u=>∃t,u=Value.str x t|.byt b,u=>∃t,u=Value.bytes b t|.flt b,u=>∃t,u=Value.float b t|.ref a,u=>u=Value.ref a|.ty n,u=>u=Value.type n
abbrev Î:List V->â->Prop:=Paired Ñ
theorem Î.length(r:Î xs us):xs.length=us.length:=Paired.length r
theorem Î.get:∀{xs:List V}{us:â}{i:Nat}{x:V},Î xs us->xs[i]?=some x->∃u,us[i]?=some u/\Ñ x u|_,_,_,_,.nil,e=>by simp at e;|_,_,0,_,.cons r _,e=>by simp at e;subst e;exact⟨_,rfl,r⟩;|_,_,i+1,x,.cons _ t,e=>by obtain⟨u,h1,h2⟩:=Î.get (i:=i) (x:=x) t (by simpa using e);exact⟨u,by simpa using h1,h2⟩
theorem Î.set(r:Ñ x u):∀{xs:List V}{us:â}(i:Nat),Î xs us->Î (xs.set i x) (us.set i u)|_,_,_,.nil=>.nil|_,_,0,.cons _ t=>.cons r t|_,_,i+1,.cons q t=>.cons q (Î.set r i t)
theorem Î.append:∀{xs ys:List V}{us ws:â},Î xs us->Î ys ws->Î (xs++ys) (us++ws)|_,_,_,_,.nil,s=>s|_,_,_,_,.cons r t,s=>.cons r (Î.append t s)
theorem Î.take:∀{xs:List V}{us:â}(n:Nat),Î xs us->Î (xs.take n) (us.take n)|_,_,0,_=>.nil|_,_,_+1,.nil=>.nil|_,_,n+1,.cons r t=>.cons r (Î.take n t)
theorem Î.drop:∀{xs:List V}{us:â}(n:Nat),Î xs us->Î (xs.drop n) (us.drop n)|_,_,0,r=>r|_,_,_+1,.nil=>.nil|_,_,n+1,.cons _ t=>Î.drop n t
def ņ:Option V->Φ->Prop|some v,some u=>Ñ v u|none,none=>True|_,_=>False
def KV:List (κ×V)->List (κ×Value)->Prop:=Paired λ(p:κ×V)(q:κ×Value)=>p.1=q.1/\Ñ p.2 q.2
def kV:Key->V|.inl i=>.int i|.inr x=>.str x
inductive HO where|lst(xs:List V)|tup(xs:List V)|dK(kvs:List (Key×V))|dT(kvs:List (List Key×V))|set(S:Int->Bool)(n:Nat)|ins(C dx:Addr)(fs:List (Str×V))|own(x:Addr)|xd(fs:List (Str×V))|met(f x:Addr)|rng(lo hi:Int)|frz(o:Obj)(u:HO)|tbl(ps:ĵ)|ext(φ:Heap->Prop)
abbrev Hp:=Addr->Option HO
def upd(H:Hp)(a:Addr)(o:HO):Hp:=λb=>if b=a then some o else H b
theorem aa:upd H a o a=some o:=by unfold upd;rw[Í rfl]
theorem aA(h:b≠a):upd H a o b=H b:=by unfold upd;rw[Ë h]
theorem MF{H:Hp}(h:H a=some o)(h':H b=some u)(d:o≠u):a≠b:=by intro e;subst e;rw[h]at h';exact d (ĭ h')
theorem aD{H:Hp}(h:H a=some o)(h':H b=none):a≠b:=by intro e;subst e;rw[h]at h';cases h'
section
variable(P:Program)(w:World)
def Ö(H:Hp)(h:Heap)(a:Addr):HO->Prop|.lst xs=>xs.length<=sizeLine/\∃(its:â)(n:Nat),Î xs its/\h.get? a=some {cls:=.type "list",data:=.seq its.toArray n}|.tup xs=>xs.length<=sizeLine/\∃its:â,Î xs its/\IsTup h a its.toArray|.dK kvs=>kvs.length<=sizeLine/\(a==sysModules)=false/\∃vs,KV kvs vs/\h.DictOf (cg P w) a vs|.dT kvs=>kvs.length<=sizeLine/\(a==sysModules)=false/\∃xs:List (List Key×Addr×Value),Paired (λ(p:List Key×V)(q:List Key×Addr×Value)=>p.1=q.1/\H q.2.1=some (.tup (p.1.map kV))/\Ñ p.2 q.2.2) kvs xs/\∃o es ep,h.get? a=some o/\o.ExactDict/\o.data=.dict es ep/\es.toList=xs.map (entryOfKey (tupleKind (cg P w)))/\(xs.map (·.1)).Nodup|.set S n=>h.SetOf (intKind P w) a S n|.ins C dx fs=>H dx=some (.own a)/\fs.length<=1000/\dx≠a/\h.get? a=some (PySem.W.instObj C dx)/\∃mA,h.Ns1 dx mA/\(∀f,ņ (fs.lookup f) (mA f))/\PySem.Within mA (fs.map (·.1))|.own _=>∃o,h.get? a=some o|.xd fs=>∃mA,h.Ns1 a mA/\∀f,ņ (fs.lookup f) (mA f)|.rng lo hi=>∃t u v,h.get? a=some {cls:=.type "range",data:=.fields #[.int lo t,.int hi u,.int 1 v]}|.frz o u=>h.get? a=some o/\Ö H h a u|.tbl ps=>h.get? a=some {cls:=.none,data:=.fields ps}|.met f x=>h.get? a=some (PySem.W.methodObj (.ref f) (.ref x))|.ext φ=>φ h/\(∃o,h.get? a=some o)/\∀h1 h2:Heap,φ h1->(∀o,h1.get? a=some o->h2.get? a=some o)->φ h2
def û(H:Hp)(h:Heap):Prop:=∀a o,H a=some o->Ö P w H h a o
end
section
variable{a:Addr}
theorem Ö.lt(x:Ö P w H h a o):a<h.objs.size:=by cases o with|lst xs=>obtain⟨_,_,_,_,e⟩:=x;exact í e;|tup xs=>obtain⟨_,_,_,p⟩:=x;exact p.lt;|dK kvs=>obtain⟨_,_,_,_,o,_,_,e,_⟩:=x;exact í e;|dT kvs=>obtain⟨_,_,_,_,o,_,_,e,_⟩:=x;exact í e;|set S n=>obtain⟨o,_,_,_,e,_⟩:=x;exact í e;|ins C dx fs=>obtain⟨_,_,_,e,_⟩:=x;exact í e;|own y=>obtain⟨_,e⟩:=x;exact í e;|xd fs=>obtain⟨_,⟨_,_,_,e,_⟩,_⟩:=x;exact í e;|rng lo hi=>obtain⟨_,_,_,e⟩:=x;exact í e;|frz ob u=>obtain⟨e,_⟩:=x;exact í e;|tbl ps=>exact í (x);|met f y=>exact í (x);|ext φ=>obtain⟨_,⟨_,e⟩,_⟩:=x;exact í e
theorem Paired.mapP:∀{BQ:List α}{BU:List β},Paired F BQ BU->(∀a b,F a b->G a b)->Paired G BQ BU|_,_,.nil,_=>.nil|_,_,.cons r t,f=>.cons (f _ _ r) (Paired.mapP t f)
theorem Ö.stay(x:Ö P w H h a o)(k:∀b u,(b=a\/H b=some (.own a))->h.get? b=some u->h'.get? b=some u)(ho:∀b,H b=some (.own a)->H' b=some (.own a))(ht:∀b xs,H b=some (.tup xs)->H' b=some (.tup xs)):Ö P w H' h' a o:=by induction o with|lst xs=>obtain⟨z,its,n,r,e⟩:=x;exact⟨z,its,n,r,k _ _ (.inl rfl) e⟩;|tup xs=>obtain⟨z,its,r,ob,e,c⟩:=x;exact⟨z,its,r,ob,k _ _ (.inl rfl) e,c⟩;|dK kvs=>obtain⟨z,y,vs,r,ob,es,ep,e,c⟩:=x;exact⟨z,y,vs,r,ob,es,ep,k _ _ (.inl rfl) e,c⟩;|dT kvs=>obtain⟨z,y,xs,r,ob,es,ep,e,c⟩:=x;exact⟨z,y,xs,Paired.mapP r λp q z=>⟨z.1,ht _ _ z.2.1,z.2.2⟩,ob,es,ep,k _ _ (.inl rfl) e,c⟩;|set S n=>obtain⟨ob,es,ep,t,e,c⟩:=x;exact⟨ob,es,ep,t,k _ _ (.inl rfl) e,c⟩;|ins C dx fs=>obtain⟨d,z,ne,e,mA,⟨od,es,ep,e2,c⟩,r⟩:=x;exact⟨ho _ d,z,ne,k _ _ (.inl rfl) e,mA,⟨od,es,ep,k _ _ (.inr d) e2,c⟩,r⟩;|own y=>obtain⟨ob,e⟩:=x;exact⟨ob,k _ _ (.inl rfl) e⟩;|xd fs=>obtain⟨mA,⟨od,es,ep,e,c⟩,r⟩:=x;exact⟨mA,⟨od,es,ep,k _ _ (.inl rfl) e,c⟩,r⟩;|rng lo hi=>obtain⟨t,u,v,e⟩:=x;exact⟨t,u,v,k _ _ (.inl rfl) e⟩;|frz ob u ih=>obtain⟨e,q⟩:=x;exact⟨k _ _ (.inl rfl) e,ih q⟩;|tbl ps=>have e:h.get? a=some {cls:=.none,data:=.fields ps}:=x;exact k a _ (.inl rfl) e;|met f y=>have e:h.get? a=some (PySem.W.methodObj (.ref f) (.ref y)):=x;exact k a _ (.inl rfl) e;|ext φ=>obtain⟨p,⟨o,e⟩,st⟩:=x;exact⟨st _ _ p λo q=>k _ _ (.inl rfl) q,⟨o,k _ _ (.inl rfl) e⟩,st⟩
theorem û.lt(x:û P w H h)(e:H a=some o):a<h.objs.size:=(x a o e).lt
theorem û.fresh(x:û P w H h)(e:h.objs.size<=a):H a=none:=by cases q:H a with|none=>rfl;|some u=>exact absurd (ĸ (x.lt q) e) (Τ _)
theorem û.kept(x:û P w H h)(k:∀b u,h.get? b=some u->h'.get? b=some u):û P w H h':=λa o e=>(x a o e).stay (λb u _ q=>k b u q) (λ_ q=>q) λ_ _ q=>q
theorem û.laid(x:û P w H h)(k:∀b u,h.get? b=some u->h'.get? b=some u)(hp:h.objs.size<=a)(new:Ö P w (upd H a o) h' a o):û P w (upd H a o) h':=λb u e=>by
 have hn:=x.fresh hp;by_cases hb:b=a;.subst hb;rw[aa]at e;cases e;exact new
 .rw[aA hb]at e;exact(x b u e).stay (λc v _ q=>k c v q) (λc q=>by rw[aA (aD q hn)];exact q) λc xs q=>by rw[aA (aD q hn)];exact q
end
def Rd(H:Hp)(a:Addr)(u:HO):Prop:=H a=some u\/∃o,H a=some (.frz o u)
theorem Rd.ok(r:Rd H a u)(x:û P w H h):Ö P w H h a u:=by
 rcases r with r|⟨o,r⟩;.exact x a u r
 .obtain⟨_,q⟩:=x a _ r;exact q
def Mut:Option HO->Prop|some (.lst _)=>True|some (.dK _)=>True|some (.dT _)=>True|some (.set _ _)=>True|some (.ins _ _ _)=>True|some (.ext _)=>True|_=>False
section
theorem û.write(ok:û P w H h)(mu:Mut (H x))(he:e=x\/H e=some (.own x))(k:∀b u,b≠e->h.get? b=some u->h'.get? b=some u)(AH:∃u,h'.get? e=some u)(new:Ö P w (upd H x o') h' x o'):û P w (upd H x o') h':=λb u q=>by
 have BY:∀c y,H c=some (.own y)->c≠x:=λc y r z=>by subst z;rw[r]at mu;exact mu
 have HZ:∀c xs,H c=some (.tup xs)->c≠x:=λc xs r z=>by subst z;rw[r]at mu;exact mu
 by_cases hb:b=x;.subst hb;rw[aa]at q;cases q;exact new
 .rw[aA hb]at q;by_cases B6:b=e
  .have q':H b=some (.own x):=by lia
   rw[q]at q';cases q';obtain⟨v,hv⟩:=AH;exact⟨v,by rw[B6];exact hv⟩
  .refine(ok b u q).stay (λc v hc r=>k c v ?_ r) (λc r=>by rw[aA (BY c b r)];exact r) λc xs r=>by rw[aA (HZ c xs r)];exact r
   rcases hc with rfl|hc;.exact B6
   .rintro rfl;rcases he with z|z;.exact BY c b hc z
    .rw[hc]at z;cases z;exact hb rfl
end
structure Un(fs ex:ă)(H H':Hp)(h h':Heap):Prop where
 keep:∀b o,h.get? b=some o->H b=none->b∉fs->b∉ex->h'.get? b=some o
 slot:∀b o,h.get? b=some o->H b=none->b∈fs->b∉ex->∃sl,h'.get? b=some {o with slots:=sl}free:∀b o,h.get? b=some o->H b=none->b∉ex->H' b=none
 there:∀b o,h.get? b=some o->b∉ex->∃o',h'.get? b=some o'
 tups:∀b xs,H b=some (.tup xs)->H' b=some (.tup xs)frzs:∀b o u,H b=some (.frz o u)->H' b=some (.frz o u)tbls:∀b ps,H b=some (.tbl ps)->∃more,H' b=some (.tbl (ps++more))
section
variable{h h1 h2 h':Heap}{a x e:Addr}
theorem Un.any(u:Un fs ex H H1 h h1)(q:h.get? b=some ob)(n:H b=none)(hx:b∉ex):∃sl,h1.get? b=some {ob with slots:=sl}:=by
 by_cases hb:b∈fs;.exact u.slot b ob q n hb hx
 .exact⟨ob.slots,u.keep b ob q n hb hx⟩
theorem Un.kept(k:∀b u,h.get? b=some u->h'.get? b=some u):Un fs ex H H h h':=⟨λb ob q _ _ _=>k b ob q,λb ob q _ _ _=>⟨ob.slots,k b ob q⟩,λ_ _ _ n _=>n,λb ob q _=>⟨ob,k b ob q⟩,λ_ _ q=>q,λ_ _ _ q=>q,λ_ ps q=>⟨#[],by rw[q];simp⟩⟩
theorem Un.refl:Un fs ex H H h h:=Un.kept λ_ _ q=>q
theorem Un.laid(k:∀b u,h.get? b=some u->h'.get? b=some u)(hp:h.objs.size<=a)(hn:H a=none):Un fs ex H (upd H a o) h h' where
 keep:=λb u q _ _ _=>k b u q;slot:=λb u q _ _ _=>⟨u.slots,k b u q⟩;free:=λb u q n _=>by rw[aA (ė (ĸ (í q) hp))];exact n
 there:=λb u q _=>⟨u,k b u q⟩;tups:=λb xs q=>by rw[aA (aD q hn)];exact q
 frzs:=λb u xs q=>by rw[aA (aD q hn)];exact q
 tbls:=λb ps q=>⟨#[],by rw[aA (aD q hn),q];simp⟩
theorem Un.write(mu:Mut (H x))(he:e=x\/H e=some (.own x))(k:∀b u,b≠e->h.get? b=some u->h'.get? b=some u)(AH:∃u,h'.get? e=some u):Un fs ex H (upd H x o) h h':=by
 have hx:∀b,H b=none->b≠x:=λb n z=>by subst z;rw[n]at mu;exact mu
 have hb:∀b,H b=none->b≠e:=λb n z=>by
  subst z;rcases he with r|r;.exact hx b n r
  .rw[n]at r;cases r
 have hm:∀b u,H b=some u->¬Mut (some u)->b≠x:=λb u q nm z=>by subst z;rw[q]at mu;exact nm mu
 refine⟨λb u q n _ _=>k b u (hb b n) q,λb u q n _ _=>⟨u.slots,k b u (hb b n) q⟩,λb u q n _=>by rw[aA (hx b n)];exact n,λb u q _=>?_,λb xs q=>by rw[aA (hm b _ q λz=>z)];exact q,λb u xs q=>by rw[aA (hm b _ q λz=>z)];exact q,λb ps q=>⟨#[],by rw[aA (hm b _ q λz=>z),q];simp⟩⟩;by_cases B6:b=e;.subst B6;exact AH
 .exact⟨u,k b u B6 q⟩
end
def trk(h:Heap)(H:Hp):ă:=(List.range h.objs.size).filter λa=>(H a).isSome
def pP(h:Heap)(H:Hp):Heap:=PySem.W.hideAll h (trk h H)
theorem Bt(h:Heap)(H:Hp):(pP h H).objs.size=h.objs.size:=PySem.W.hideAll_size _ _
theorem Du(e:h.get? b=some o)(n:H b=none):(pP h H).get? b=some o:=PySem.W.hideAll_get _ e λhm=>by have q:(H b).isSome=true:=(Ϝ.mp hm).2;rw[n]at q;simp at q
theorem Hy(e:(pP h H).get? b=some o):h.get? b=some o/\H b=none:=by have e':h.get? b=some o:=PySem.W.of_hideAll (trk h H) e;refine⟨e',?_⟩;cases q:H b with|none=>rfl;|some x=>have hm:b∈trk h H:=Ϝ.mpr ⟨ϡ.mpr (í e'),by simp[q]⟩;have z:(pP h H).get? b=none:=PySem.W.hideAll_none (trk h H) hm;rw[z]at e;cases e
structure Mod(K:Frag)(mg:Ti)(base:Heap):Prop where
 kin:K.In base
 glob:base.Ns mainGlobals mg
 blt:∃mb,base.Ns builtinsNs mb/\∀x:Str,x≠"__name__"->mb x=bootBuiltins x
 nolimit:base.NoLimit
structure Cx where
 prog:Program
 w:World
 K:Frag
 mg:Ti
 base:Heap
 A:Around
 N:ó
 s₀:Shared
 H₀:Hp
 env:Env
 outer:List Env
 stack:List Env
 ex:ă
 fn:Str->Bool
 calm:Bool
 pn:ZX
 xe:Tc
def Ė(l:List Env):ă:=l.filterMap (·.frame)
abbrev Cx.fs(X:Cx):ă:=Ė X.outer
def Vis(sc:Scope)(x:Str):Prop:=sc.names.lookup x=some .local\/sc.names.lookup x=some .cell\/sc.names.lookup x=some .free
def Loc(sc:Scope)(x:Str):Prop:=sc.names.lookup x=some .local\/sc.names.lookup x=some .cell
def Look(env:Env)(h:Heap)(m:Ti)(x:Str)(u:Value):Prop:=(env.kindOf x=some .local/\m x=some u)\/((env.kindOf x=some .cell\/env.kindOf x=some .free)/\∃c,env.cells.lookup x=some c/\h.IsCell c (some u))
structure Cx.Ok(X:Cx):Prop where
 mod:Mod X.K X.mg X.base
 kind:X.env.scope.kind=.function
 glob:X.env.globals=mainGlobals
 blt:X.env.builtins=builtinsNs
 above:X.s₀.heap.objs.size<=X.env.locals
 inj:∀x y c,X.env.cells.lookup x=some c->X.env.cells.lookup y=some c->x=y
 has:∀x,(X.env.kindOf x=some .cell\/X.env.kindOf x=some .free)->∃c,X.env.cells.lookup x=some c
 cab:∀x c,X.fn x=true->X.env.cells.lookup x=some c->X.s₀.heap.objs.size<=c
 hd:X.calm=true->X.A.handled=none
 frames:X.A.frames=some X.stack
 stk:X.stack=X.outer\/(X.stack=X.env::X.outer/\X.env.frame=some X.env.locals)exf:∀b∈X.ex,b≠X.env.locals/\∀x c,X.env.cells.lookup x=some c->c≠b
 bs:∀b o,X.base.get? b=some o->X.s₀.heap.get? b=some o/\X.H₀ b=none
 bsz:X.base.objs.size<=X.s₀.heap.objs.size
 noex:∀b o,X.base.get? b=some o->b∉X.ex
 exfs:∀b∈X.ex,b∉X.fs
 funs:X.s₀.heap.FunFrames X.base X.outer
 frf:∀b∈X.fs,X.H₀ b=none
structure Æ(X:Cx)(Â:ZX)(σ:List (Option V))(H:Hp)(s:Shared):Prop where
 ok:X.Ok
 os:s.os=X.s₀.os
 bare:AllBare s.gens
 base:Un X.fs X.ex X.H₀ H X.s₀.heap s.heap
 loc:∃m,s.heap.Ns X.env.locals m/\∀(i:Nat)(x:Str)(v:V),X.N[i]?=some x->σ[i]?=some (some v)->Vis X.env.scope x->∃u,Ñ v u/\Look X.env s.heap m x u
 cell:∀x c,X.env.cells.lookup x=some c->∃v,s.heap.IsCell c v
 free:H X.env.locals=none
 freeC:∀x c,X.env.cells.lookup x=some c->H c=none
 pin:∀p∈X.pn++Â,s.heap.get? p.1=some p.2/\H p.1=none/\p.1≠X.env.locals/\p.1∉X.fs/\∀v,p.2.data≠.cell v
 hok:û X.prog X.w H s.heap
 len:σ.length=X.N.length
section
variable{X:Cx}
theorem Cx.Ok.nofr(ok:X.Ok)(e:X.base.get? b=some o):b∉X.fs:=λhb=>by have:=(ok.funs.mem hb).1;rw[e]at this;cases this
theorem Æ.bs(I:Æ X Â σ H s):∀b o,X.base.get? b=some o->s.heap.get? b=some o/\H b=none:=λb o e=>⟨I.base.keep b o (I.ok.bs b o e).1 (I.ok.bs b o e).2 (I.ok.nofr e) (I.ok.noex b o e),I.base.free b o (I.ok.bs b o e).1 (I.ok.bs b o e).2 (I.ok.noex b o e)⟩
theorem Æ.bk(I:Æ X Â σ H s):∀b o,X.base.get? b=some o->s.heap.get? b=some o:=λb o e=>(I.bs b o e).1
theorem Æ.mod(I:Æ X Â σ H s):Mod X.K X.mg X.base:=I.ok.mod
theorem Æ.kIn(I:Æ X Â σ H s):X.K.In s.heap:=I.ok.mod.kin.keeps I.bk
theorem Æ.lt(I:Æ X Â σ H s):X.env.locals<s.heap.objs.size:=by obtain⟨_,hn,_⟩:=I.loc;exact hn.lt
theorem Æ.sz(I:Æ X Â σ H s):X.s₀.heap.objs.size<=s.heap.objs.size:=ε I.ok.above (Zbd I.lt)
theorem Æ.nofs(I:Æ X Â σ H s){a:Addr}(h:s.heap.objs.size<=a):a∉X.fs:=λhb=>by obtain⟨_,o,ho,_⟩:=I.ok.funs.mem hb;exact absurd (ĸ (í ho) (ε I.sz h)) (Τ _)
theorem Æ.cne(I:Æ X Â σ H s):∀x c,X.env.cells.lookup x=some c->c≠X.env.locals:=λx c e z=>by obtain⟨v,o,ho,hd⟩:=I.cell x c e;obtain⟨m,⟨o',es,ep,ij,Fs,_⟩,_⟩:=I.loc;rw[z,ij]at ho;cases ho;rw[Fs]at hd;cases hd
theorem Æ.funs(I:Æ X Â σ H s):s.heap.FunFrames X.base X.outer:=by
 have all:∀(l:List Env),(∀b∈Ė l,b∈X.fs)->X.s₀.heap.FunFrames X.base l->s.heap.FunFrames X.base l:=by intro l;induction l with|nil=>intro _ _;trivial;|cons env r ih=>intro hs hl;obtain⟨hk,⟨L,o,hf,hn,ho,hd⟩,hr⟩:=hl;have hL:L∈X.fs:=hs L (by unfold Ė;rw[Zak,hf];exact ϫ);obtain⟨sl,e⟩:=I.base.slot L o ho (I.ok.frf L hL) hL λz=>I.ok.exfs L z hL;exact⟨hk,⟨L,_,hf,hn,e,hd⟩,ih (λb hb=>hs b (by unfold Ė;rw[Zak,hf];exact Zai _ hb)) hr⟩
 exact all X.outer (λ_ hb=>hb) I.ok.funs
theorem Æ.stack(I:Æ X Â σ H s):s.heap.FunFrames X.base X.stack:=by
 rcases I.ok.stk with e|⟨e,hf⟩;.rw[e];exact I.funs
 .rw[e];obtain⟨m,hn,_⟩:=I.loc;refine .cons (by rw[I.ok.kind];decide) hf hn ?_ I.funs;exact Heap.get?_none_of_le (ε I.ok.bsz I.ok.above)
theorem Æ.stkSub(I:Æ X Â σ H s):∀b∈Ė X.stack,b∈X.env.locals::X.fs:=λb hb=>by
 rcases I.ok.stk with e|⟨e,hf⟩;.rw[e]at hb;exact Zai _ hb
 .rw[e]at hb;unfold Ė at hb;rw[Zak,hf]at hb;exact hb
theorem Æ.stkFree(I:Æ X Â σ H s):∀b∈Ė X.stack,H b=none:=λb hb=>by
 rcases Ļ.mp (I.stkSub b hb)with e|hb;.rw[e];exact I.free
 .obtain⟨_,o,ho,_⟩:=I.ok.funs.mem hb;exact I.base.free b o ho (I.ok.frf b hb) λz=>I.ok.exfs b z hb
theorem Æ.step{ch:ă}(I:Æ X Â σ H s)(qo:∀b∈ch,(b∈X.ex\/X.s₀.heap.objs.size<=b)/\b≠X.env.locals/\(∀x c,X.env.cells.lookup x=some c->c≠b)/\∀p∈X.pn++Â,p.1≠b)(keep:∀b o,b≠X.env.locals->b∉X.fs->b∉ch->s.heap.get? b=some o->H b=none->h'.get? b=some o)(slot:∀b o,b≠X.env.locals->b∈X.fs->b∉ch->s.heap.get? b=some o->H b=none->∃sl,h'.get? b=some {o with slots:=sl})(free:∀b o,b∉ch->s.heap.get? b=some o->H b=none->H' b=none)(there:∀b o,b∉ch->s.heap.get? b=some o->∃o',h'.get? b=some o')(tups:∀b xs,H b=some (.tup xs)->H' b=some (.tup xs))(frzs:∀b o u,H b=some (.frz o u)->H' b=some (.frz o u))(tbls:∀b ps,H b=some (.tbl ps)->∃more,H' b=some (.tbl (ps++more)))(ns:∀m,s.heap.Ns X.env.locals m->h'.Ns X.env.locals m)(hok:û X.prog X.w H' h')(hg:AllBare g'):Æ X Â σ H' {s with heap:=h',gens:=g',drawn:=d',toks:=t'}:=by
 have Fu:∀b o,X.s₀.heap.get? b=some o->b≠X.env.locals:=λb o e=>ė (ĸ (í e) I.ok.above);have FA:∀b o,X.s₀.heap.get? b=some o->b∉X.ex->b∉ch:=λb o e hx hb=>by
  rcases(qo b hb).1 with z|z;.exact hx z
  .exact absurd (ĸ (í e) z) (Τ _)
 have cellK:∀x c,X.env.cells.lookup x=some c->∀v,s.heap.IsCell c v->h'.IsCell c v:=λx c e v hZ=>by
  obtain⟨o,ho,hd⟩:=hZ;have B7:c∉ch:=λz=>(qo c z).2.2.1 x c e rfl;by_cases hc:c∈X.fs;.obtain⟨sl,q⟩:=slot c o (I.cne x c e) hc B7 ho (I.freeC x c e);exact⟨_,q,hd⟩
  .exact⟨o,keep c o (I.cne x c e) hc B7 ho (I.freeC x c e),hd⟩
 refine⟨I.ok,I.os,hg,⟨λb o e n hb hx=>?_,λb o e n hb hx=>?_,λb o e n hx=>?_,λb o e hx=>?_,λb xs e=>tups b xs (I.base.tups b xs e),λb o xs e=>frzs b o xs (I.base.frzs b o xs e),λb ps e=>?_⟩,?_,λx c e=>?_,?_,λx c e=>?_,λp hp=>?_,hok,I.len⟩;.exact keep b o (Fu b o e) hb (FA b o e hx) (I.base.keep b o e n hb hx) (I.base.free b o e n hx)
 .obtain⟨sl,e1⟩:=I.base.slot b o e n hb hx;obtain⟨FC,e2⟩:=slot b _ (Fu b o e) hb (FA b o e hx) e1 (I.base.free b o e n hx);exact⟨FC,e2⟩
 .obtain⟨o',e1⟩:=I.base.there b o e hx;exact free b o' (FA b o e hx) e1 (I.base.free b o e n hx)
 .obtain⟨o',e1⟩:=I.base.there b o e hx;exact there b o' (FA b o e hx) e1
 .obtain⟨m1,e1⟩:=I.base.tbls b ps e;obtain⟨m2,e2⟩:=tbls b _ e1;exact⟨m1++m2,by rw[e2,Array.append_assoc]⟩
 .obtain⟨m,hn,hl⟩:=I.loc;refine⟨m,ns m hn,λi x v e1 e2 e3=>?_⟩;obtain⟨u,r,l⟩:=hl i x v e1 e2 e3;refine⟨u,r,?_⟩;rcases l with l|⟨k,c,e,z⟩;.exact .inl l
  .exact .inr ⟨k,c,e,cellK x c e _ z⟩
 .obtain⟨v,z⟩:=I.cell x c e;exact⟨v,cellK x c e v z⟩
 .obtain⟨m,⟨o,_,_,ho,_⟩,_⟩:=I.loc;exact free _ o (λz=>(qo _ z).2.1 rfl) ho I.free
 .obtain⟨v,o,ho,hd⟩:=I.cell x c e;exact free c o (λz=>(qo c z).2.2.1 x c e rfl) ho (I.freeC x c e)
 .obtain⟨e,n,ne,nf,d⟩:=I.pin p hp;have B7:p.1∉ch:=λz=>(qo p.1 z).2.2.2 p hp rfl;exact⟨keep p.1 p.2 ne nf B7 e n,free p.1 p.2 B7 e n,ne,nf,d⟩
theorem Æ.un(I:Æ X Â σ H s)(u:Un X.fs [] H H' s.heap h')(hok:û X.prog X.w H' h'):Æ X Â σ H' {s with heap:=h',toks:=t'}:=by obtain⟨m,⟨o,es,ep,ho,r⟩,_⟩:=id I.loc;obtain⟨sl,hL⟩:=u.any ho I.free Ò;exact I.step (g':=s.gens) (d':=s.drawn) (ch:=[]) (λ_ z=>nomatch z) (λb o _ hb _ e n=>u.keep b o e n hb Ò) (λb o _ hb _ e n=>u.slot b o e n hb Ò) (λb o _ e n=>u.free b o e n Ò) (λb o _ e=>u.there b o e Ò) u.tups u.frzs u.tbls (λm' hm=>by obtain⟨o',gv,B8,ij,r'⟩:=hm;rw[ho]at ij;cases ij;exact⟨_,gv,B8,hL,r'⟩) hok I.bare
theorem Æ.call(I:Æ X Â σ H s)(u:Un (Ė X.stack) ch H H' s.heap h')(hok:û X.prog X.w H' h')(hg:AllBare g')(qo:∀b∈ch,(b∈X.ex\/X.s₀.heap.objs.size<=b)/\b≠X.env.locals/\(∀x c,X.env.cells.lookup x=some c->c≠b)/\∀p∈X.pn++Â,p.1≠b):Æ X Â σ H' {s with heap:=h',gens:=g',drawn:=d',toks:=t'}:=by obtain⟨m,⟨o,es,ep,ho,r⟩,_⟩:=id I.loc;obtain⟨sl,hL⟩:=u.any ho I.free λz=>(qo _ z).2.1 rfl;exact I.step (ch:=ch) qo (λb o hL hb hc e n=>u.keep b o e n (λz=>(Ļ.mp (I.stkSub b z)).elim hL hb) hc) (λb o _ _ hc e n=>u.any e n hc) (λb o hc e n=>u.free b o e n hc) (λb o hc e=>u.there b o e hc) u.tups u.frzs u.tbls (λm' hm=>by obtain⟨o',gv,B8,ij,r'⟩:=hm;rw[ho]at ij;cases ij;exact⟨_,gv,B8,hL,r'⟩) hok hg
theorem Æ.turned(I:Æ X Â σ H s)(k:∀b o,b≠it->s.heap.get? b=some o->h'.get? b=some o)(hn:H it=none)(hL:it≠X.env.locals)(h1:it∈X.ex\/X.s₀.heap.objs.size<=it)(h2:∀x c,X.env.cells.lookup x=some c->c≠it)(h3:∀p∈X.pn++Â,p.1≠it):Æ X Â σ H {s with heap:=h',toks:=t'}:=by
 have Of:∀b u,H b=some u->b≠it:=λb u e z=>by rw[z,hn]at e;cases e
 refine I.step (g':=s.gens) (d':=s.drawn) (ch:=[it]) (λb hb=>?_) (λb o _ _ hc e _=>k b o (λz=>hc (by simp[z])) e) (λb o _ _ hc e _=>⟨o.slots,k b o (λz=>hc (by simp[z])) e⟩) (λ_ _ _ _ n=>n) (λb o hc e=>⟨o,k b o (λz=>hc (by simp[z])) e⟩) (λ_ _ e=>e) (λ_ _ _ e=>e) (λb ps e=>⟨#[],by rw[e];simp⟩) (λm hm=>?_) (λb u e=>?_) I.bare
 .have e:b=it:=by simpa using hb
  subst e;exact⟨h1,hL,h2,h3⟩
 .obtain⟨o,es,ep,ho,r⟩:=hm;exact⟨o,es,ep,k _ o (Ne.symm hL) ho,r⟩
 .refine(I.hok b u e).stay (λc v hc q=>k c v ?_ q) (λ_ q=>q) λ_ _ q=>q;rcases hc with z|z;.rw[z];exact Of b u e
  .exact Of c _ z
theorem Æ.tok(I:Æ X Â σ H s)(t:Nat):Æ X Â σ H {s with toks:=t}:=I.un (h':=s.heap) (t':=t) Un.refl I.hok
theorem Æ.kept(I:Æ X Â σ H s)(k:∀b u,s.heap.get? b=some u->h'.get? b=some u):Æ X Â σ H {s with heap:=h',toks:=t'}:=I.un (Un.kept k) (I.hok.kept k)
theorem Æ.laid{a:Addr}(I:Æ X Â σ H s)(k:∀b u,s.heap.get? b=some u->h'.get? b=some u)(hp:s.heap.objs.size<=a)(new:Ö X.prog X.w (upd H a o) h' a o):Æ X Â σ (upd H a o) {s with heap:=h',toks:=t'}:=I.un (Un.laid k hp (I.hok.fresh hp)) (I.hok.laid k hp new)
theorem Æ.write(I:Æ X Â σ H s)(mu:Mut (H x))(he:e=x\/H e=some (.own x))(k:∀b u,b≠e->s.heap.get? b=some u->h'.get? b=some u)(AH:∃u,h'.get? e=some u)(new:Ö X.prog X.w (upd H x o) h' x o):Æ X Â σ (upd H x o) {s with heap:=h',toks:=t'}:=I.un (Un.write mu he k AH) (I.hok.write mu he k AH new)
theorem Æ.pins_of(I:Æ X Â σ H s)(h:∀p∈gz,s.heap.get? p.1=some p.2/\H p.1=none/\p.1≠X.env.locals/\p.1∉X.fs/\∀v,p.2.data≠.cell v):Æ X gz σ H s:=⟨I.ok,I.os,I.bare,I.base,I.loc,I.cell,I.free,I.freeC,λp hp=>(Ą.mp hp).elim (λz=>I.pin p (Zba _ z)) (h p),I.hok,I.len⟩
theorem vO{N:ó}(hN:N.Nodup){i j:Nat}(a:N[i]?=some x)(b:N[j]?=some x):i=j:=by obtain⟨h1,e1⟩:=ġ.mp a;obtain⟨h2,e2⟩:=ġ.mp b;exact(List.getElem_inj hN).mp (e1.trans e2.symm)
theorem jN(I:Æ X Â σ H s)(hN:X.N.Nodup)(hi:X.N[i]?=some x)(hx:Loc X.env.scope x)(r:Ñ v u)(h:∀s',Æ X Â (σ.set i (some v)) H s'->(∃a,Heap.SameBut a s.heap s'.heap/\(a=X.env.locals\/X.env.cells.lookup x=some a))->Q () s')(hf:X.fn x=true\/X.env.scope.names.lookup x=some .local:=by first|exact .inl rfl|exact .inr rfl|assumption):wpAny M A (storeName X.env x u) Q E s:=by
 obtain⟨m,hn,hl⟩:=id I.loc;have Ic:(X.env.scope.kind==.class||(X.env.scope.kind==.module&&X.env.locals !=X.env.globals))=false:=by rw[I.ok.kind];rfl
 have B9:i<σ.length:=by rw[I.len];exact(ġ.mp hi).1
 have cne:=I.cne;have tracked:∀{a:Addr}{h':Heap},(∃o,s.heap.get? a=some o/\H a=none)->Heap.SameBut a s.heap h'->û X.prog X.w H h':=λ{a h'}ha hs b ob e=>by
  obtain⟨_,_,hfree⟩:=ha;refine(I.hok b ob e).stay (λc w' hc q=>(hs.2 c ?_).trans q) (λ_ q=>q) λ_ _ q=>q;rintro rfl;rcases hc with rfl|hc;.rw[hfree]at e;cases e
  .rw[hfree]at hc;cases hc
 rcases hx with hk|hk
 .refine wpAny_storeName_local hk hn (λh' Iq hs=>?_) Ic;obtain⟨oL,_,_,Tf,_⟩:=id hn;refine h _ ⟨I.ok,I.os,I.bare,⟨λb o e n hb hx=>?_,λb o e n hb hx=>?_,I.base.free,λb o e hx=>?_,I.base.tups,I.base.frzs,I.base.tbls⟩,⟨_,Iq,λj y v' e1 e2 e3=>?_⟩,λy c e=>?_,I.free,I.freeC,λp hp=>?_,tracked ⟨oL,Tf,I.free⟩ hs,by simpa using I.len⟩ ⟨_,hs,.inl rfl⟩;.exact(hs.2 b (ė (ĸ (í e) I.ok.above))).trans (I.base.keep b o e n hb hx)
  .obtain⟨sl,e1⟩:=I.base.slot b o e n hb hx;exact⟨sl,(hs.2 b (ė (ĸ (í e) I.ok.above))).trans e1⟩
  .obtain⟨o',e1⟩:=I.base.there b o e hx;exact⟨o',(hs.2 b (ė (ĸ (í e) I.ok.above))).trans e1⟩
  .by_cases hj:j=i;.subst hj;rw[hi]at e1;cases e1;rw[Za4 B9]at e2;cases e2;exact⟨u,r,.inl ⟨hk,by simp⟩⟩
   .rw[List.getElem?_set_ne (Ne.symm hj)]at e2;obtain⟨u',r',q⟩:=hl j y v' e1 e2 e3;refine⟨u',r',?_⟩;rcases q with⟨k,e⟩|⟨k,c,e,z⟩;.refine .inl ⟨k,?_⟩;have:y≠x:=λe=>hj (vO hN e1 (e▸hi));simp[this,e]
    .exact .inr ⟨k,c,e,z.sameBut hs (cne y c e)⟩
  .obtain⟨w',z⟩:=I.cell y c e;exact⟨w',z.sameBut hs (cne y c e)⟩
  .obtain⟨e,n,ne,nf,d⟩:=I.pin p hp;exact⟨(hs.2 p.1 ne).trans e,n,ne,nf,d⟩
 .have mS:X.fn x=true:=by
   rcases hf with z|z;.exact z
   .rw[z]at hk;cases hk
  obtain⟨c,hc⟩:=I.ok.has x (.inl hk);obtain⟨w',z⟩:=I.cell x c hc;refine wpAny_storeName_cell I.ok.kind hk hc z (λh' aw hs=>?_);obtain⟨oc,FD,Iy⟩:=id z;refine h {s with heap:=h'} ⟨I.ok,I.os,I.bare,⟨λb o e n hb hx=>?_,λb o e n hb hx=>?_,I.base.free,λb o e hx=>?_,I.base.tups,I.base.frzs,I.base.tbls⟩,⟨m,hn.sameBut hs (Ne.symm (cne x c hc)),λj y v' e1 e2 e3=>?_⟩,λy c' e=>?_,I.free,I.freeC,λp hp=>?_,tracked ⟨oc,FD,I.freeC x c hc⟩ hs,by simpa using I.len⟩ ⟨c,hs,.inr hc⟩;.exact(hs.2 b (ė (ĸ (í e) (I.ok.cab x c mS hc)))).trans (I.base.keep b o e n hb hx)
  .obtain⟨sl,e1⟩:=I.base.slot b o e n hb hx;exact⟨sl,(hs.2 b (ė (ĸ (í e) (I.ok.cab x c mS hc)))).trans e1⟩
  .obtain⟨o',e1⟩:=I.base.there b o e hx;exact⟨o',(hs.2 b (ė (ĸ (í e) (I.ok.cab x c mS hc)))).trans e1⟩
  .by_cases hj:j=i;.subst hj;rw[hi]at e1;cases e1;rw[Za4 B9]at e2;cases e2;exact⟨u,r,.inr ⟨.inl hk,c,hc,aw⟩⟩
   .rw[List.getElem?_set_ne (Ne.symm hj)]at e2;obtain⟨u',r',q⟩:=hl j y v' e1 e2 e3;refine⟨u',r',?_⟩;rcases q with q|⟨k,c',e,z'⟩;.exact .inl q
    .refine .inr ⟨k,c',e,z'.sameBut hs ?_⟩;rintro rfl;exact hj (vO hN e1 (I.ok.inj _ _ _ e hc▸hi))
  .by_cases Oy:c'=c;.subst Oy;exact⟨_,aw⟩
   .obtain⟨w2,z2⟩:=I.cell y c' e;exact⟨w2,z2.sameBut hs Oy⟩
  .obtain⟨e,n,ne,nf,d⟩:=I.pin p hp;refine⟨(hs.2 p.1 ?_).trans e,n,ne,nf,d⟩;intro q;rw[q,FD]at e;have q':oc=p.2:=ĭ e;exact d w' (by rw[<-q'];exact Iy)
theorem ju(I:Æ X Â σ H s)(hN:X.N.Nodup)(hi:X.N[i]?=some x)(hx:Loc X.env.scope x)(r:Ñ v u)(h:∀s',Æ X Â (σ.set i (some v)) H s'->Q () s')(hf:X.fn x=true\/X.env.scope.names.lookup x=some .local:=by first|exact .inl rfl|exact .inr rfl|assumption):wpAny M A (storeName X.env x u) Q E s:=jN I hN hi hx r (λs' I' _=>h s' I') hf
theorem Æ.call'(I:Æ X Â σ H s)(ho:s'.os=s.os)(u:Un (Ė X.stack) ch H H' s.heap s'.heap)(hok:û X.prog X.w H' s'.heap)(hg:AllBare s'.gens)(qo:∀b∈ch,(b∈X.ex\/X.s₀.heap.objs.size<=b)/\b≠X.env.locals/\(∀x c,X.env.cells.lookup x=some c->c≠b)/\∀p∈X.pn++Â,p.1≠b):Æ X Â σ H' s':=by obtain⟨h',g',d',t',o'⟩:=s';have e:o'=s.os:=ho;subst e;exact I.call (g':=g') (t':=t') (d':=d') u hok hg qo
end
abbrev XK:=Value->Option Addr->Hp->Prop
abbrev St:=List (Option V)
abbrev VK:=V->Hp->Prop
abbrev TE:=St->Hp->VK->Prop
abbrev TT:=St->Hp->(Bool->Hp->Prop)->Prop
abbrev TA:=St->Hp->(List V->Hp->Prop)->Prop
structure Ĥ where
 nx:St->Hp->Prop
 rt:VK
 bk:St->Hp->Prop:=λ_ _=>False
 ct:St->Hp->Prop:=λ_ _=>False
abbrev TS:=Ĥ->St->Hp->Prop
def EP(X:Cx)(Â:ZX)(σ:St)(Q:VK)(u:Value)(s':Shared):Prop:=∃v H',Æ X Â σ H' s'/\Ñ v u/\Q v H'
def TP(X:Cx)(Â:ZX)(σ:St)(Q:Bool->Hp->Prop)(b:Bool)(s':Shared):Prop:=∃H',Æ X Â σ H' s'/\Q b H'
def AP(X:Cx)(Â:ZX)(σ:St)(Q:List V->Hp->Prop)(us:â)(s':Shared):Prop:=∃vs H',Æ X Â σ H' s'/\Î vs us/\Q vs H'
def SP(X:Cx)(Â:ZX)(D:Ĥ)(f:Flow)(s':Shared):Prop:=match f with|.next=>∃ah H',Æ X Â ah H' s'/\D.nx ah H'|.brk=>∃ah H',Æ X Â ah H' s'/\D.bk ah H'|.cont=>∃ah H',Æ X Â ah H' s'/\D.ct ah H'|.ret u=>∃v ah H',Æ X Â ah H' s'/\Ñ v u/\D.rt v H'
def PE(X:Cx)(e:Expr)(t:TE):Prop:=∀(Â:ZX)(s:Shared)(σ:St)(H:Hp)(Q:VK),Æ X Â σ H s->t σ H Q->wpAny (model X.prog X.w) X.A (eval e X.env) (EP X Â σ Q) X.xe s
def PT(X:Cx)(e:Expr)(t:TT):Prop:=∀(Â:ZX)(s:Shared)(σ:St)(H:Hp)(Q:Bool->Hp->Prop),Æ X Â σ H s->t σ H Q->wpAny (model X.prog X.w) X.A (isTrue e X.env (eval e X.env)) (TP X Â σ Q) X.xe s
def PW(X:Cx)(e:Expr)(t:TT):Prop:=∀(whole:Sem Value)(Â:ZX)(s:Shared)(σ:St)(H:Hp)(Q:Bool->Hp->Prop),Æ X Â σ H s->t σ H Q->wpAny (model X.prog X.w) X.A (isTrue e X.env whole) (TP X Â σ Q) X.xe s
theorem PW.pt(h:PW X e t):PT X e t:=h _
def PA(X:Cx)(es:Qa3)(t:TA):Prop:=∀(pos:Pos)(Â:ZX)(s:Shared)(σ:St)(H:Hp)(Q:List V->Hp->Prop),Æ X Â σ H s->t σ H Q->wpAny (model X.prog X.w) X.A (spliced (backTo pos (starEach es X.env))) (AP X Â σ Q) X.xe s
def PS(X:Cx)(st:Stmt)(t:TS):Prop:=∀(Â:ZX)(s:Shared)(σ:St)(H:Hp)(D:Ĥ),Æ X Â σ H s->t D σ H->wpAny (model X.prog X.w) X.A (exec st X.env) (SP X Â D) X.xe s
def Ķ(X:Cx)(st:List Stmt)(t:TS):Prop:=∀(Â:ZX)(s:Shared)(σ:St)(H:Hp)(D:Ĥ),Æ X Â σ H s->t D σ H->wpAny (model X.prog X.w) X.A (execs st X.env) (SP X Â D) X.xe s
theorem Ú{Q Q':α->Shared->Prop}(h:wpAny M A t Q E s)(hQ:∀a s,Q a s->Q' a s):wpAny M A t Q' E s:=wpAny_mono h hQ λ_ _ x=>x
section
variable{X:Cx}
theorem bin(ha:PE X a ta)(hb:PE X b tb){σ:St}{H:Hp}{R:V->V->Hp->Prop}(I:Æ X Â σ H s)(h:ta σ H λx H1=>tb σ H1 λy H2=>R x y H2){α:Type}{Q:α->Shared->Prop}{f:Value->Value->Sem α}(hf:∀v u s2 x y H2,Æ X Â σ H2 s2->Ñ x v->Ñ y u->R x y H2->wpAny (model X.prog X.w) X.A (f v u) Q X.xe s2):wpAny (model X.prog X.w) X.A (eval a X.env) (λv s₁=>wpAny (model X.prog X.w) X.A (eval b X.env) (λu s₂=>wpAny (model X.prog X.w) X.A (f v u) Q X.xe s₂) X.xe s₁) X.xe s:=by refine Ú (ha Â s σ H _ I h) λv s1=>?_;rintro⟨x,H1,I1,r1,q1⟩;refine Ú (hb Â s1 σ H1 _ I1 q1) λu s2=>?_;rintro⟨y,H2,I2,r2,q2⟩;exact hf v u s2 x y H2 I2 r1 r2 q2
inductive Z05(i:Nat)(σ:St)(H:Hp)(Q:VK):Prop|mk:∀v,(σ[i]?=some (some v))->(Q v H)->Z05 i σ H Q
def iH(i:Nat):TE:=λσ H Q=>Z05 i σ H Q
def tC(v:V):TE:=λ_ H Q=>Q v H
abbrev Ţ(x:Str):Prop:=(x==("__debug__":Str))=false
theorem yh{pos:Pos}(hN:X.N[i]?=some x)(hv:Vis X.env.scope x)(hd:Ţ x:=by decide)(eR:(x==("__classdict__":Str))=false:=by decide):PE X (.Name x pos) (iH i):=by
 intro Â s σ H Q I h;obtain⟨v,e,h⟩:=h;obtain⟨m,hn,hl⟩:=I.loc;obtain⟨u,r,l⟩:=hl i x v hN e hv;have fin:EP X Â σ Q u s:=⟨v,H,I,r,h⟩;rcases l with⟨hk,hm⟩|⟨hk,c,hc,hcell⟩;.exact wpAny_Name (wpAny_loadName_local I.ok.kind hk hn hm fin) hd
 .rcases hk with hk|hk;.exact wpAny_Name (wpAny_loadName_cell I.ok.kind hk hc hcell fin) hd
  .exact wpAny_Name (wpAny_loadName_free I.ok.kind hk hc hcell fin eR) hd
theorem au{i j pos}:PE X (.Constant (.int i) j pos) (tC (.int i)):=λ_ _ _ H _ I h=>wpAny_Constant_int ⟨.int i,H,I.tok _,⟨_,rfl⟩,h⟩
theorem iK{b j pos}:PE X (.Constant (.bool b) j pos) (tC (.bl b)):=λ_ _ _ H _ I h=>Constant_bool ⟨.bl b,H,I,rfl,h⟩
theorem lu{j pos}:PE X (.Constant .none j pos) (tC .non):=λ_ _ _ H _ I h=>Constant_none ⟨.non,H,I,rfl,h⟩
theorem dY{x j pos}:PE X (.Constant (.str x) j pos) (tC (.str x)):=λ_ _ _ H _ I h=>Calls.Constant_str ⟨.str x,H,I.tok _,⟨_,rfl⟩,h⟩
def Gl(X:Cx)(x:Str):Prop:=X.env.kindOf x=some .globalImplicit
theorem jO{σ:St}(I:Æ X Â σ H s)(hg:Gl X x)(hm:X.mg x=some u)(h:Q u s)(hd:Ţ x:=by decide):wpAny (model X.prog X.w) X.A (eval (.Name x pos) X.env) Q E s:=Calls.Name_function_global I.ok.kind hg (Calls.loadGlobal_global (by rw[I.ok.glob];exact I.mod.glob.keeps I.bk) hm h) hd
theorem jd{E:Tc}{σ:St}{H:Hp}{x:Str}{u:Value}{pos:Pos}{Q:Tc}(I:Æ X Â σ H s)(hg:Gl X x)(hm:X.mg x=none)(hv:bootBuiltins x=some u)(h:Q u s)(hn:x≠"__name__":=by decide)(hd:Ţ x:=by decide):wpAny (model X.prog X.w) X.A (eval (.Name x pos) X.env) Q E s:=by obtain⟨mb,h1,h2⟩:=I.mod.blt;exact Calls.Name_function_global I.ok.kind hg (Calls.loadGlobal_builtin (by rw[I.ok.glob];exact I.mod.glob.keeps I.bk) hm (by rw[I.ok.blt];exact h1.keeps I.bk) ((h2 x hn).trans hv) h) hd
theorem bQ(hg:Gl X x)(hm:X.mg x=some u)(r:Ñ v u)(hd:Ţ x:=by decide):PE X (.Name x pos) (tC v):=λ_ _ _ H _ I h=>jO I hg hm ⟨v,H,I,r,h⟩ hd
theorem dh{pos:Pos}(hg:Gl X x)(hm:X.mg x=none)(hv:bootBuiltins x=some u)(r:Ñ v u)(hn:x≠"__name__":=by decide)(hd:Ţ x:=by decide):PE X (.Name x pos) (tC v):=λ_ _ _ H _ I h=>jd I hg hm hv ⟨v,H,I,r,h⟩ hn hd
def PC(X:Cx)(op:CmpOp)(a b:Expr)(t:TE):Prop:=∀(Â:ZX)(s:Shared)(σ:St)(H:Hp)(Q:VK),Æ X Â σ H s->t σ H Q->wpAny (model X.prog X.w) X.A (eval a X.env) (λv s₁=>wpAny (model X.prog X.w) X.A (eval b X.env) (λu s₂=>wpAny (model X.prog X.w) X.A (compareOp op v u) (EP X Â σ Q) X.xe s₂) X.xe s₁) X.xe s
def tB(t:TE):TT:=λσ H Q=>t σ H λx H1=>∃c,x=.bl c/\Q c H1
theorem Kq(h:PC X op a b t)(h1:behindInMarks op b=false:=by first|exact nobehind _ Ù Ù|rfl):PT X (.Compare a [op] [b] pos) (tB t):=by intro Â s σ H Q I hw;refine wpAny_isTrue_Compare1 (Ú (h Â s σ H _ I hw) λv s1 h1=>Ú h1 λu s2 h2=>Ú h2 λc s3=>?_) h1;rintro⟨x,H1,I1,r1,q1⟩;obtain⟨d,rfl,q⟩:=q1;cases r1;exact wpAny_truthy_bool ⟨H1,I1,q⟩
theorem bL(h:PE X e t)(he:∀whole,isTrue e X.env whole=(do let v<-whole;standAt e.pos;holding [v] (truthy v)):=by intro _;rfl):PT X e (tB t):=by intro Â s σ H Q I hw;refine isTrue_plain (Ú (h Â s σ H _ I hw) λv s1=>?_) (he _);rintro⟨x,H1,I1,r1,q1⟩;obtain⟨d,rfl,q⟩:=q1;cases r1;exact wpAny_truthy_bool ⟨H1,I1,q⟩
def Kr(t u:TT):TT:=λσ H Q=>t σ H λc H1=>if c=true then u σ H1 Q else Q false H1
def tOr(t u:TT):TT:=λσ H Q=>t σ H λc H1=>if c=true then Q true H1 else u σ H1 Q
def MJ(t:TT):TT:=λσ H Q=>t σ H λc H1=>Q (!c) H1
theorem jP(ha:PT X a tA):PW X (.BoolOp .And [a] pos) tA:=by intro wh Â s σ H Q I h;refine isTrue_and (Ú (ha Â s σ H Q I h) λc s1 e=>?_);cases c with|true=>exact isTrue_and_nil e;|false=>exact e
theorem je(ha:PT X a tA):PW X (.BoolOp .Or [a] pos) tA:=by intro wh Â s σ H Q I h;refine isTrue_or (Ú (ha Â s σ H Q I h) λc s1 e=>?_);cases c with|false=>exact isTrue_or_nil e;|true=>exact e
theorem iI(ha:PT X a tA)(hb:PW X (.BoolOp .And (b::rest) pos) FE):PW X (.BoolOp .And (a::b::rest) pos) (Kr tA FE):=by intro wh Â s σ H Q I h;refine isTrue_and (Ú (ha Â s σ H _ I h) λc s1=>?_);rintro⟨H1,I1,q1⟩;cases c with|true=>exact hb wh Â s1 σ H1 Q I1 q1;|false=>exact⟨H1,I1,q1⟩
theorem iM(ha:PT X a tA)(hb:PW X (.BoolOp .Or (b::rest) pos) FE):PW X (.BoolOp .Or (a::b::rest) pos) (tOr tA FE):=by intro wh Â s σ H Q I h;refine isTrue_or (Ú (ha Â s σ H _ I h) λc s1=>?_);rintro⟨H1,I1,q1⟩;cases c with|true=>exact⟨H1,I1,q1⟩;|false=>exact hb wh Â s1 σ H1 Q I1 q1
theorem cj(ha:PT X a tA):PT X (.UnaryOp .Not a pos) (MJ tA):=by intro Â s σ H Q I h;exact isTrue_not (ha Â s σ H (λc H1=>Q (!c) H1) I h)
def JR(ta tb:TE):TE:=λσ H Q=>ta σ H λx H1=>∃c,x=.bl c/\if c=true then tb σ H1 Q else Q (.bl false) H1
def Pk(ta tb:TE):TE:=λσ H Q=>ta σ H λx H1=>∃c,x=.bl c/\if c=true then Q (.bl true) H1 else tb σ H1 Q
def MK(ta:TE):TE:=λσ H Q=>ta σ H λx H1=>∃c,x=.bl c/\Q (.bl (!c)) H1
theorem fD{op}(h:PE X a t):PE X (.BoolOp op [a] pos) t:=λÂ s σ H Q I hw=>BoolOp_one (h Â s σ H Q I hw)
theorem cF(ha:PE X a ta)(hb:PE X (.BoolOp .And (b::rest) pos) tb):PE X (.BoolOp .And (a::b::rest) pos) (JR ta tb):=by intro Â s σ H Q I h;refine BoolOp_and (Ú (ha Â s σ H _ I h) λv s1=>?_);rintro⟨x,H1,I1,r1,q1⟩;obtain⟨c,rfl,q1⟩:=q1;cases r1;refine wpAny_truthy_bool ?_;cases c with|true=>exact hb Â s1 σ H1 Q I1 q1;|false=>exact⟨.bl false,H1,I1,rfl,q1⟩
theorem MN(ha:PE X a ta)(hb:PE X (.BoolOp .Or (b::rest) pos) tb):PE X (.BoolOp .Or (a::b::rest) pos) (Pk ta tb):=by intro Â s σ H Q I h;refine BoolOp_or (Ú (ha Â s σ H _ I h) λv s1=>?_);rintro⟨x,H1,I1,r1,q1⟩;obtain⟨c,rfl,q1⟩:=q1;cases r1;refine wpAny_truthy_bool ?_;cases c with|false=>exact hb Â s1 σ H1 Q I1 q1;|true=>exact⟨.bl true,H1,I1,rfl,q1⟩
theorem Dv(ha:PE X a ta):PE X (.UnaryOp .Not a pos) (MK ta):=by intro Â s σ H Q I h;refine UnaryOp_ (Ú (ha Â s σ H _ I h) λv s1=>?_);rintro⟨x,H1,I1,r1,q1⟩;obtain⟨c,rfl,q1⟩:=q1;cases r1;exact not_of (wpAny_truthy_bool ⟨.bl (!c),H1,I1,rfl,q1⟩)
def tIf(t:TT)(ta tb:TE):TE:=λσ H Q=>t σ H λc H1=>if c=true then ta σ H1 Q else tb σ H1 Q
theorem vP(hc:PT X c tA)(ha:PE X a ta)(hb:PE X b tb):PE X (.IfExp c a b pos) (tIf tA ta tb):=by intro Â s σ H Q I h;refine wpAny_IfExp (Ú (hc Â s σ H _ I h) λd s1=>?_);rintro⟨H1,I1,q1⟩;cases d with|true=>exact ha Â s1 σ H1 Q I1 q1;|false=>exact hb Â s1 σ H1 Q I1 q1
end
def Ï(K:Frag)(H:Hp)(a:Addr)(xs:List V):Prop:=Rd H a (.lst xs)\/∃(o:Obj)(its:ĵ)(n:Nat),K.lookup a=some o/\o.cls=.type "list"/\o.dict=none/\o.data=.seq its n/\its.size<=sizeLine/\Î xs its.toList
def Ì(K:Frag)(H:Hp)(a:Addr)(xs:List V):Prop:=Rd H a (.tup xs)\/∃(o:Obj)(its:ĵ)(n:Nat),K.lookup a=some o/\o.cls=.type "tuple"/\o.data=.seq its n/\its.size<=sizeLine/\Î xs its.toList
def Pn:Value->Option V|.none=>some .non|.bool b=>some (.bl b)|.int i _=>some (.int i)|.str x _=>some (.str x)|.bytes b _=>some (.byt b)|.float b _=>some (.flt b)|.ref a=>some (.ref a)|.type n=>some (.ty n)|_=>none
theorem Ñ.abs(r:Ñ x u):Pn u=some x:=by cases x with|non=>cases r;rfl;|bl _=>cases r;rfl;|int _=>obtain⟨t,rfl⟩:=r;rfl;|str _=>obtain⟨t,rfl⟩:=r;rfl;|byt _=>obtain⟨t,rfl⟩:=r;rfl;|flt _=>obtain⟨t,rfl⟩:=r;rfl;|ref _=>cases r;rfl;|ty _=>cases r;rfl
theorem Ñ.inj(r:Ñ x u)(q:Ñ y u):x=y:=ĭ (r.abs.symm.trans q.abs)
theorem Î.inj:∀{xs ys:List V}{us:â},Î xs us->Î ys us->xs=ys|_,_,_,.nil,.nil=>rfl|_,_,_,.cons r t,.cons r' t'=>by rw[r.inj r',Î.inj t t']
section
variable{σ:St}
theorem Ï.of{K:Frag}(h:H a=some (.lst xs)):Ï K H a xs:=.inl (.inl h)
theorem Ì.of{K:Frag}(h:H a=some (.tup xs)):Ì K H a xs:=.inl (.inl h)
theorem Æ.list(I:Æ X Â σ H s)(h:Ï X.K H a xs):∃its:â,Î xs its/\PlainL s.heap a its.toArray/\xs.length<=sizeLine:=by
 rcases h with h|⟨o,its,n,hk,hc,hd,hs,hz,r⟩;.obtain⟨z,its,n,r,e⟩:=h.ok I.hok;exact⟨its,r,⟨_,n,e,rfl,rfl,rfl⟩,z⟩
 .refine⟨its.toList,r,⟨o,n,I.kIn a o hk,hc,hd,by simpa using hs⟩,?_⟩;have e:=r.length;simp only[Array.length_toList]at e;omega
theorem Æ.tuple(I:Æ X Â σ H s)(h:Ì X.K H a xs):∃its:â,Î xs its/\IsTup s.heap a its.toArray/\xs.length<=sizeLine:=by
 rcases h with h|⟨o,its,n,hk,hc,hs,hz,r⟩;.obtain⟨z,its,r,p⟩:=h.ok I.hok;exact⟨its,r,p,z⟩
 .refine⟨its.toList,r,⟨o,I.kIn a o hk,hc,n,by simpa using hs⟩,?_⟩;have e:=r.length;simp only[Array.length_toList]at e;lia
theorem Æ.list_inj(I:Æ X Â σ H s)(h:Ï X.K H a xs)(h':Ï X.K H a ys):xs=ys:=by
 obtain⟨its,r,⟨o,n,e,_,_,d⟩,_⟩:=I.list h;obtain⟨its',r',⟨o',n',e',_,_,d'⟩,_⟩:=I.list h';rw[e]at e';cases e';rw[d]at d';injection d' with d1 _;have:its=its':=by simpa using congrArg Array.toList d1
 subst this;exact r.inj r'
theorem Æ.tuple_inj(I:Æ X Â σ H s)(h:Ì X.K H a xs)(h':Ì X.K H a ys):xs=ys:=by
 obtain⟨its,r,⟨o,e,_,n,d⟩,_⟩:=I.tuple h;obtain⟨its',r',⟨o',e',_,n',d'⟩,_⟩:=I.tuple h';rw[e]at e';cases e';rw[d]at d';injection d' with d1 _;have:its=its':=by simpa using congrArg Array.toList d1
 subst this;exact r.inj r'
end
abbrev Cx.wish(X:Cx)(E:Tc):Cx:={X with xe:=E}
abbrev Cx.nox(X:Cx):Cx:=X.wish λ_ _=>False
theorem Cx.Ok.wish{X:Cx}(ok:X.Ok)(E:Tc):(X.wish E).Ok:=⟨ok.mod,ok.kind,ok.glob,ok.blt,ok.above,ok.inj,ok.has,ok.cab,ok.hd,ok.frames,ok.stk,ok.exf,ok.bs,ok.bsz,ok.noex,ok.exfs,ok.funs,ok.frf⟩
theorem Cx.Ok.unwish{X:Cx}(ok:(X.wish E).Ok):X.Ok:=⟨ok.mod,ok.kind,ok.glob,ok.blt,ok.above,ok.inj,ok.has,ok.cab,ok.hd,ok.frames,ok.stk,ok.exf,ok.bs,ok.bsz,ok.noex,ok.exfs,ok.funs,ok.frf⟩
section
variable{σ:St}
theorem Æ.wish(I:Æ X Â σ H s)(E:Tc):Æ (X.wish E) Â σ H s:=⟨I.ok.wish E,I.os,I.bare,I.base,I.loc,I.cell,I.free,I.freeC,I.pin,I.hok,I.len⟩
theorem Æ.unwish(I:Æ (X.wish E) Â σ H s):Æ X Â σ H s:=⟨I.ok.unwish,I.os,I.bare,I.base,I.loc,I.cell,I.free,I.freeC,I.pin,I.hok,I.len⟩
theorem SP.unwish(h:SP (X.wish E) Â D f s'):SP X Â D f s':=by cases f with|next=>obtain⟨ah,H',I,q⟩:=h;exact⟨ah,H',I.unwish,q⟩;|brk=>obtain⟨ah,H',I,q⟩:=h;exact⟨ah,H',I.unwish,q⟩;|cont=>obtain⟨ah,H',I,q⟩:=h;exact⟨ah,H',I.unwish,q⟩;|ret u=>obtain⟨v,ah,H',I,r,q⟩:=h;exact⟨v,ah,H',I.unwish,r,q⟩
theorem Ķ.nox{st:List Stmt}(h:Ķ X.nox st t):Ķ X st t:=λÂ s σ H D I hw=>wpAny_mono (h Â s σ H D (I.wish _) hw) (λ_ _ q=>q.unwish) λ_ _ z=>False.elim z
end
section
variable{st:Stmt}
def Dw:TS:=λD σ H=>D.nx σ H
def HD(t u:TS):TS:=λD σ H=>t {D with nx:=u D} σ H
theorem bf:Ķ X [] Dw:=λ_ _ σ H _ I h=>wpAny_execs_nil ⟨σ,H,I,h⟩
theorem aB(h1:PS X st t)(h2:Ķ X rest u):Ķ X (st::rest) (HD t u):=by intro Â s σ H D I h;refine wpAny_execs_cons (Ú (h1 Â s σ H {D with nx:=u D} I h) λf s1 q=>?_);cases f with|next=>obtain⟨ah,H',I',q⟩:=q;exact h2 Â s1 ah H' D I' q;|ret v=>exact q;|brk=>exact q;|cont=>exact q
theorem aF(h1:PS X st t):Ķ X [st] t:=by intro Â s σ H D I h;refine wpAny_execs_cons (Ú (h1 Â s σ H D I h) λf s1 q=>?_);cases f with|next=>exact wpAny_execs_nil q;|ret v=>exact q;|brk=>exact q;|cont=>exact q
theorem Æ.quiet{σ:St}(I:Æ X Â σ H s):interactive X.env=false:=by simp[interactive,I.ok.kind]
def MP(te:TE):TS:=λD σ H=>te σ H λ_ H1=>D.nx σ H1
theorem cB(he:PE X e te)(hs:swapsWith e none pos.line X.env=pure false:=by rfl):PS X (.Expr e pos) (MP te):=by intro Â s σ H D I h;exact wpAny_Expr_any (Ú (he Â s σ H _ I h) λv s1=>by rintro⟨x,H1,I1,r1,q1⟩;exact⟨σ,H1,I1,q1⟩) I.quiet hs
def Ks(te:TE):TS:=λD σ H=>te σ H D.rt
theorem aP(he:PE X e te):PS X (.Return (some e) pos) (Ks te):=by intro Â s σ H D I h;exact wpAny_Return_some (Ú (he Â s σ H _ I h) λv s1=>by rintro⟨x,H1,I1,r1,q1⟩;exact⟨x,σ,H1,I1,r1,q1⟩)
def MT(c:TT)(t u:TS):TS:=λD σ H=>c σ H λb H1=>if b=true then t D σ H1 else u D σ H1
theorem bT(hc:PT X c tc)(ha:Ķ X a t)(hb:Ķ X b u):PS X (.If c a b pos) (MT tc t u):=by intro Â s σ H D I h;refine wpAny_If (Ú (hc Â s σ H _ I h) λd s1=>?_);rintro⟨H1,I1,q1⟩;cases d with|true=>exact ha Â s1 σ H1 D I1 q1;|false=>exact hb Â s1 σ H1 D I1 q1
def Dy:TS:=λ_ _ _=>False
theorem dO:PS X st Dy:=λ_ _ _ _ _ _ h=>h.elim
theorem gQ:Ķ X IA Dy:=λ_ _ _ _ _ _ h=>h.elim
end
abbrev TG:=V->St->Hp->(St->Hp->Prop)->Prop
abbrev TGs:=List V->St->Hp->(St->Hp->Prop)->Prop
def PG(X:Cx)(target:Expr)(t:TG):Prop:=∀(Â:ZX)(s:Shared)(σ:St)(H:Hp)(v:V)(u:Value)(Q:St->Hp->Prop),Æ X Â σ H s->Ñ v u->t v σ H Q->wpAny (model X.prog X.w) X.A (assign target X.env u) (λ_ s'=>∃ah H',Æ X Â ah H' s'/\Q ah H') X.xe s
def PGs(X:Cx)(ts:Qa3)(t:TGs):Prop:=∀(Â:ZX)(s:Shared)(σ:St)(H:Hp)(vs:List V)(us:â)(Q:St->Hp->Prop),Æ X Â σ H s->Î vs us->t vs σ H Q->wpAny (model X.prog X.w) X.A (assignInOrder ((assignEach ts X.env).map (·.2)) us) (λ_ s'=>∃ah H',Æ X Â ah H' s'/\Q ah H') X.xe s
abbrev Dz:=V->V->V->Hp->(Hp->Prop)->Prop
def Ku(X:Cx)(t:Dz):Prop:=∀(Â:ZX)(s:Shared)(σ:St)(H:Hp)(o i v:V)(ov iv u:Value)(Q:Hp->Prop),Æ X Â σ H s->Ñ o ov->Ñ i iv->Ñ v u->t o i v H Q->wpAny (model X.prog X.w) X.A (setItem ov iv u) (λ_ s'=>∃H',Æ X Â σ H' s'/\Q H') X.xe s
abbrev TIp:=V->V->Hp->VK->Prop
def PIp(X:Cx)(op:Operator)(t:TIp):Prop:=∀(Â:ZX)(s:Shared)(σ:St)(H:Hp)(x y:V)(v u:Value)(Q:VK),Æ X Â σ H s->Ñ x v->Ñ y u->t x y H Q->wpAny (model X.prog X.w) X.A (inplaceOp op v u) (EP X Â σ Q) X.xe s
section
variable{pos:Pos}
def bH(i:Nat):TG:=λv σ H Q=>Q (σ.set i (some v)) H
theorem bx(hN:X.N.Nodup)(hi:X.N[i]?=some x)(hx:Loc X.env.scope x)(hf:X.fn x=true\/X.env.scope.names.lookup x=some .local:=by first|exact .inl rfl|exact .inr rfl|assumption):PG X (.Name x pos) (bH i):=by intro Â s σ H v u Q I r h;exact wpAny_assign_Name (ju I hN hi hx r (λs' I'=>⟨_,H,I',h⟩) hf)
def nH:TGs:=λvs σ H Q=>vs=[]/\Q σ H
def bZ(t:TG)(u:TGs):TGs:=λvs σ H Q=>∃v r,vs=v::r/\t v σ H λah H'=>u r ah H' Q
theorem aX:PGs X [] nH:=by intro Â s σ H vs us Q I r h;obtain⟨e,h⟩:=h;exact assignInOrder_nil ⟨σ,H,I,h⟩
theorem ao(h1:PG X e t)(h2:PGs X es u)(hs:(assignEach (e::es) X.env).map (·.2)=assign e X.env::(assignEach es X.env).map (·.2):=by rfl):PGs X (e::es) (bZ t u):=by intro Â s σ H vs us Q I r h;obtain⟨v,vr,e1,h⟩:=h;subst e1;cases r with|cons r rr=>rw[hs];refine assignInOrder_cons (Ú (h1 Â s σ H _ _ _ I r h) λ_ s1=>?_);rintro⟨vF,H1,I1,q1⟩;exact h2 Â s1 vF H1 _ _ Q I1 rr q1
inductive Z0f(K:Frag)(n:Nat)(t:TGs)(v:V)(σ:St)(H:Hp)(Q:St->Hp->Prop):Prop|mk:∀a xs,(v=.ref a)->(Ì K H a xs)->(xs.length=n)->(t xs σ H Q)->Z0f K n t v σ H Q
def lR(K:Frag)(n:Nat)(t:TGs):TG:=λv σ H Q=>Z0f K n t v σ H Q
theorem bR{k:Nat}(hc:X.calm=true)(h:PGs X es t)(hn:(assignEach es X.env).length=n:=by rfl)(bq:(assignEach es X.env).findIdx? (·.1)=none:=by rfl):PG X (.Tuple es k pos) (lR X.K n t):=by intro Â s σ H v u Q I r hw;obtain⟨a,xs,e1,hq,hl,hw⟩:=hw;subst e1;cases r;obtain⟨its,rv,ht,hz⟩:=I.tuple hq;refine assign_Tuple_tuple (I.ok.hd hc) ht (by simp[hn,<-hl,rv.length]) bq λh' hx=>?_;have I1:Æ X Â σ H {s with heap:=h'}:=I.kept (t':=s.toks) λb o e=>hx b o (ė (í e)) e;exact h Â _ σ H xs _ Q I1 (by simpa using rv) hw
def Pq(to ti:TE)(t:Dz):TG:=λv σ H Q=>to σ H λo H1=>ti σ H1 λi H2=>t o i v H2 λH3=>Q σ H3
theorem nJ(ho:PE X o to)(hi:PE X i ti)(hs:Ku X t)(ha:∀v,assign (.Subscript o i pos) X.env v=(do
   let ov<-holding [v] (eval o X.env)let iv<-holding [v,ov] (eval i X.env)standAt pos
   holding [v,ov,iv] (setItem ov iv v)release [v,ov,iv] []):=by intro _;rfl):PG X (.Subscript o i pos) (Pq to ti t):=by intro Â s σ H v u Q I r h;rw[ha];refine Ä (wpAny_holding (Ú (ho Â s σ H _ I h) λov s1=>?_));rintro⟨x,H1,I1,r1,q1⟩;refine Ä (wpAny_holding (Ú (hi Â s1 σ H1 _ I1 q1) λiv s2=>?_));rintro⟨y,H2,I2,r2,q2⟩;refine Ä (wpAny_standAt (Ä (wpAny_holding (Ú (hs Â s2 σ H2 x y v ov iv u _ I2 r1 r2 r q2) λ_ s3=>?_))));rintro⟨H3,I3,q3⟩;exact wpAny_release ⟨σ,H3,I3,q3⟩
def yj(te:TE)(g:TG):TS:=λD σ H=>te σ H λx H1=>g x σ H1 D.nx
theorem cP(he:PE X e te)(hg:PG X tg g)(hs:swapsWithSole [tg] e pos.line X.env=pure false:=by rfl)(hw:swappedStores [tg] e X.env=pure none:=by rfl)(h1:(assignEach [tg] X.env).map (·.2)=[assign tg X.env]:=by rfl):PS X (.Assign [tg] e pos) (yj te g):=by intro Â s σ H D I h;refine wpAny_Assign_stores (Ú (he Â s σ H _ I h) λv s1=>?_) hs hw;rintro⟨x,H1,I1,r1,q1⟩;rw[h1];exact Ú (hg Â s1 σ H1 x v _ I1 r1 q1) λ_ s2 q=>q
theorem uo(hN:X.N.Nodup)(hi:X.N[i]?=some x)(hx:Loc X.env.scope x)(he:PE X e te)(hs:swapsWith e (some (.Name x pos')) pos.line X.env=pure false:=by rfl)(hf:X.fn x=true\/X.env.scope.names.lookup x=some .local:=by first|exact .inl rfl|exact .inr rfl|assumption):PS X (.Assign [.Name x pos'] e pos) (yj te (bH i)):=by intro Â s σ H D I h;refine wpAny_Assign_Name (Ú (he Â s σ H _ I h) λv s1=>?_) hs;rintro⟨y,H1,I1,r1,q1⟩;exact ju I1 hN hi hx r1 (λs2 I2=>⟨_,H1,I2,q1⟩) hf
def Pr(i j:Nat)(ta:TA):TS:=λD σ H=>ta σ H λvs H1=>∃v w,vs=[v,w]/\D.nx ((σ.set i (some v)).set j (some w)) H1
theorem ym{kt k2 pt2}(hc:X.calm=true)(hN:X.N.Nodup)(hi:X.N[i]?=some x)(hj:X.N[j]?=some y)(cq:i≠j)(hx:X.env.scope.names.lookup x=some .local)(hy:X.env.scope.names.lookup y=some .local)(ha:PA X [a,b] ta)(hw:swappedStores [.Tuple [.Name x px,.Name y py] kt pt] (.Tuple [a,b] k2 pt2) X.env=pure (some [x,y]))(hs:swapsWithSole [.Tuple [.Name x px,.Name y py] kt pt] (.Tuple [a,b] k2 pt2) pos.line X.env=pure false:=by rfl):PS X (.Assign [.Tuple [.Name x px,.Name y py] kt pt] (.Tuple [a,b] k2 pt2) pos) (Pr i j ta):=by
 intro Â s σ H D I h;rw[exec_Assign_arm];refine Ä (wpAny_standAt ?_);rw[hs];refine Ä (Ó ?_);rw[Ë Ù];refine Ä (Tuple_ (Ú (ha _ Â s σ H _ I h) λus s1=>?_));rintro⟨vs,H1,I1,r1,q1⟩;obtain⟨v,w,e1,q1⟩:=q1;subst e1;obtain⟨u1,u2,rfl,rv,iE⟩:∃u1 u2,us=[u1,u2]/\Ñ v u1/\Ñ w u2:=by cases r1 with|cons p q=>cases q with|cons p' q'=>cases q';exact⟨_,_,rfl,p,p'⟩
 refine Κ ?_ (by show 2<=sizeLine;decide);have I2:Æ X Â σ H1 {s1 with heap:=s1.heap.push {cls:=.type "tuple",data:=.seq [u1,u2].toArray}}:=I1.kept (t':=s1.toks) λb o e=>ë _ e;rw[hw];refine Ä (Ó ?_);show wpAny (model X.prog X.w) X.A (do rule "assign.swapped-stores";let items<-unpackItems (.ref s1.heap.objs.size) 2 none;assignInOrder [λv=>bindName X.env y v,λv=>bindName X.env x v] items.reverse;pure Flow.next) _ _ _;refine Ä (wpAny_rule (Ä (unpackItems_tuple (items:=#[u1,u2]) (I.ok.hd hc) (IsTup.new s1.heap _) λh' dv=>?_)));have I3:=I2.kept (h':=h') (t':=s1.toks) λb o e=>dv b o (ė (í e)) e;show wpAny _ _ (assignInOrder [λv=>bindName X.env y v,λv=>bindName X.env x v] [u2,u1]>>=λ_=>pure Flow.next) _ _ _;refine Ä (assignInOrder_cons (wpAny_bindName (ju I3 hN hj (.inl hy) iE (λs2 I4=>?_) (.inr hy))));refine assignInOrder_cons (wpAny_bindName (ju I4 hN hi (.inl hx) rv (λs3 I5=>assignInOrder_nil (Ó ?_)) (.inr hx)));rw[List.set_comm _ _ (Ne.symm cq)]at I5;exact⟨_,H1,I5,q1⟩
inductive Z06(i:Nat)(te:TE)(ti:TIp)(D:Ĥ)(σ:St)(H:Hp):Prop|mk:∀x,(σ[i]?=some (some x))->(te σ H λy H1=>ti x y H1 λz H2=>D.nx (σ.set i (some z)) H2)->Z06 i te ti D σ H
def Pu(i:Nat)(te:TE)(ti:TIp):TS:=λD σ H=>Z06 i te ti D σ H
theorem lw(hN:X.N.Nodup)(hi:X.N[i]?=some x)(hx:Loc X.env.scope x)(he:PE X e te)(ho:PIp X op ti)(hf:X.fn x=true\/X.env.scope.names.lookup x=some .local:=by first|exact .inl rfl|exact .inr rfl|assumption):PS X (.AugAssign (.Name x pos') op e pos) (Pu i te ti):=by
 intro Â s σ H D I h;obtain⟨v,e1,h⟩:=h;obtain⟨m,hn,hl⟩:=I.loc;have Tg:Vis X.env.scope x:=by rcases hx with k|k;exact .inl k;exact .inr (.inl k)
 obtain⟨u,r,l⟩:=hl i x v hi e1 Tg;refine wpAny_AugAssign_Name ?_;have go:wpAny (model X.prog X.w) X.A (eval e X.env) (λw s₂=>wpAny (model X.prog X.w) X.A (inplaceOp op u w) (λr s₃=>wpAny (model X.prog X.w) X.A (storeName X.env x r) (λ_=>SP X Â D .next) X.xe s₃) X.xe s₂) X.xe s:=by refine Ú (he Â s σ H _ I h) λw s1=>?_;rintro⟨y,H1,I1,r1,q1⟩;refine Ú (ho Â s1 σ H1 v y u w _ I1 r r1 q1) λz s2=>?_;rintro⟨zv,H2,I2,r2,q2⟩;exact ju I2 hN hi hx r2 (λs3 I3=>⟨_,H2,I3,q2⟩) hf
 rcases l with⟨hk,hm⟩|⟨hk,c,hc,hcell⟩;.exact wpAny_loadName_local I.ok.kind hk hn hm go
 .rcases hk with hk|hk;.exact wpAny_loadName_cell I.ok.kind hk hc hcell go
  .rcases hx with k|k;.have:X.env.scope.names.lookup x=some .free:=hk;rw[k]at this;cases this
   .have:X.env.scope.names.lookup x=some .free:=hk;rw[k]at this;cases this
def N5(to ti te:TE)(qV:V->V->Hp->VK->Prop)(FF:TIp)(rf:Dz):TS:=λD σ H=>to σ H λo H1=>ti σ H1 λi H2=>qV o i H2 λx H3=>te σ H3 λy H4=>FF x y H4 λz H5=>rf o i z H5 λH6=>D.nx σ H6
def N6(X:Cx)(t:V->V->Hp->VK->Prop):Prop:=∀(Â:ZX)(s:Shared)(σ:St)(H:Hp)(o i:V)(ov iv:Value)(Q:VK),Æ X Â σ H s->Ñ o ov->Ñ i iv->t o i H Q->wpAny (model X.prog X.w) X.A (getItem ov iv) (EP X Â σ Q) X.xe s
theorem jQ(ho:PE X o to)(hi:PE X i ti)(hg:N6 X qV)(he:PE X e te)(hp:PIp X op FF)(hs:Ku X rf)(ha:∀ov iv new,augStore i ov iv new=(do holding [new,ov,iv] (setItem ov iv new);release [new,ov,iv] [];pure .next):=by intros;rfl):PS X (.AugAssign (.Subscript o i vS) op e pos) (N5 to ti te qV FF rf):=by intro Â s σ H D I h;refine wpAny_AugAssign_SubscriptAny (Ú (ho Â s σ H _ I h) λov s1=>?_) ha;rintro⟨x1,H1,I1,r1,q1⟩;refine Ú (hi Â s1 σ H1 _ I1 q1) λiv s2=>?_;rintro⟨x2,H2,I2,r2,q2⟩;refine Ú (hg Â s2 σ H2 x1 x2 ov iv _ I2 r1 r2 q2) λold s3=>?_;rintro⟨x3,H3,I3,r3,q3⟩;refine Ú (he Â s3 σ H3 _ I3 q3) λv s4=>?_;rintro⟨x4,H4,I4,r4,q4⟩;refine Ú (hp Â s4 σ H4 x3 x4 old v _ I4 r3 r4 q4) λnew s5=>?_;rintro⟨x5,H5,I5,r5,q5⟩;exact Ú (hs Â s5 σ H5 x1 x2 x5 ov iv new _ I5 r1 r2 r5 q5) λ_ s6=>by rintro⟨H6,I6,q6⟩;exact⟨σ,H6,I6,q6⟩
def ipI(f:Int->Int->Int):TIp:=λx y H Q=>∃i j,x=.int i/\y=.int j/\Q (.int (f i j)) H
theorem pQ:PIp X .Add (ipI λi j=>i+j):=by intro Â s σ H x y v u Q I r1 r2 h;obtain⟨i,j,e1,e2,q⟩:=h;subst e1;subst e2;obtain⟨t,rfl⟩:=r1;obtain⟨t',rfl⟩:=r2;exact iadd_int ⟨.int _,H,I.tok _,⟨_,rfl⟩,q⟩
theorem DG:PIp X .Sub (ipI λi j=>i-j):=by intro Â s σ H x y v u Q I r1 r2 h;obtain⟨i,j,e1,e2,q⟩:=h;subst e1;subst e2;obtain⟨t,rfl⟩:=r1;obtain⟨t',rfl⟩:=r2;exact isub_int ⟨.int _,H,I.tok _,⟨_,rfl⟩,q⟩
end
section
end
structure It where
 go:Nat->Hp->Prop
 yld:Nat->Hp->V->Hp->Prop
 stop:Nat->Hp->Prop
def uq(X:Cx)(Â:ZX)(H:Hp)(b:Addr):Prop:=H b=none/\b≠X.env.locals/\b∉X.fs/\(b∈X.ex\/X.s₀.heap.objs.size<=b)/\(∀x c,X.env.cells.lookup x=some c->c≠b)/\∀p∈X.pn++Â,p.1≠b
theorem Æ.fpOk{σ:St}{s:Shared}{b:Addr}(I:Æ X Â σ H s)(hb:s.heap.objs.size<=b)(hn:H' b=none):uq X Â H' b:=by
 refine⟨hn,ϗ (ĸ I.lt hb),I.nofs hb,.inr (ε I.sz hb),λx c e z=>?_,λp hp z=>?_⟩;.obtain⟨v,q⟩:=I.cell x c e;exact absurd (ĸ q.lt (by rw[z];exact hb)) (Τ _)
 .exact absurd (ĸ (í (I.pin p hp).1) (by rw[z];exact hb)) (Τ _)
structure š(P:Program)(w:World)(K:Frag)(tg:Expr)(J:It)(fp:ă)(it:Addr)(tn:Nat->Heap->Prop):Prop where
 mem:it∈fp
 obj:∀i h,tn i h->∀b∈fp,∃o,h.get? b=some o/\∀v,o.data≠.cell v
 keep:∀i h h',tn i h->(∀b∈fp,∀o,h.get? b=some o->h'.get? b=some o)->tn i h'
 item:∀(X:Cx),X.prog=P->X.w=w->X.K=K->X.calm=true->∀(i:Nat)(Â:ZX)(s:Shared)(σ:St)(H:Hp)(E:Tc),Æ X Â σ H s->(∀b∈fp,uq X Â H b)->tn i s.heap->J.go i H->wpAny (model P w) X.A (pyNext (.ref it)) (λr s1=>∃u,r=some u/\wpAny (model P w) X.A (letOwnedTupleGo tg (.ref it) u) (λ_ s2=>∃x H',Æ X Â σ H' s2/\Ñ x u/\J.yld i H x H'/\tn (i+1) s2.heap/\∀b∈fp,H' b=none) E s1) E s
 done:∀(X:Cx),X.prog=P->X.w=w->X.K=K->X.calm=true->∀(i:Nat)(Â:ZX)(s:Shared)(σ:St)(H:Hp)(E:Tc),Æ X Â σ H s->(∀b∈fp,uq X Â H b)->tn i s.heap->J.stop i H->wpAny (model P w) X.A (pyNext (.ref it)) (λr s1=>r=none/\Æ X Â σ H s1) E s
 self:∀(A:Around)(i:Nat)(s:Shared)(Q:Tc)(E:Tc),tn i s.heap->Q (.ref it) s->wpAny (model P w) A (pyIter (.ref it)) Q E s
abbrev TI:=St->Hp->(It->Hp->Prop)->Prop
def PIE(X:Cx)(Â:ZX)(σ:St)(tg:Expr)(R:It->Hp->Prop)(FG:Value)(s2:Shared):Prop:=∃(it:Addr)(fp:ă)(tn:Nat->Heap->Prop)(J:It)(H':Hp),FG=.ref it/\Æ X Â σ H' s2/\š X.prog X.w X.K tg J fp it tn/\tn 0 s2.heap/\(∀b∈fp,uq X Â H' b)/\R J H'
def PI(X:Cx)(tg iter:Expr)(wi:TI):Prop:=∀(Â:ZX)(s:Shared)(σ:St)(H:Hp)(R:It->Hp->Prop),Æ X Â σ H s->wi σ H R->wpAny (model X.prog X.w) X.A (eval iter X.env) (λv s1=>wpAny (model X.prog X.w) X.A (pyIter v) (PIE X Â σ tg R) X.xe s1) X.xe s
theorem vQ(ho:s.heap.get? it=some o)(hc:o.cls=.type n)(hd:o.data=.fields vs)(hn:["enumerate","zip","dict_itemiterator","dict_reverseitemiterator","odict_iterator","itertools.zip_longest","itertools.pairwise"].contains n=false)(hQ:Q () s):wpAny M A (letOwnedTupleGo tg (.ref it) u) Q E s:=by cases tg<;>first|exact Ó hQ;|(cases u<;>first|exact Ó hQ;|(refine Ä (wpAny_load ho ?_);rw[hc,hd];show wpAny M A (if(["enumerate","zip","dict_itemiterator","dict_reverseitemiterator","odict_iterator","itertools.zip_longest","itertools.pairwise"].contains n&&vs[0]?==some (rawInt _))=true then _ else _) Q E s;rw[Ë (by intro h;rw[hn]at h;cases h)];exact Ó hQ))
def Itl(K:Frag)(a:Addr):It:=⟨λi H=>∃xs x,Ï K H a xs/\xs[i]?=some x,λi H x H'=>H'=H/\∀xs,Ï K H a xs->xs[i]?=some x,λi H=>∃xs,Ï K H a xs/\xs.length<=i⟩
def Itt(K:Frag)(a:Addr):It:=⟨λi H=>∃xs x,Ì K H a xs/\xs[i]?=some x,λi H x H'=>H'=H/\∀xs,Ì K H a xs->xs[i]?=some x,λi H=>∃xs,Ì K H a xs/\xs.length<=i⟩
def Itr(lo:Int)(n:Nat):It:=⟨λi _=>i<n,λi H x H'=>H'=H/\x=.int (lo+i),λi _=>n<=i⟩
theorem Bu{K:Frag}(a it:Addr):š P w K tg (Itl K a) [it] it (λi h=>h.IsListIter it a i)where
 mem:=by simp
 obj:=λi h st b hb=>by
  have e:b=it:=by simpa using hb
  subst e;obtain⟨o,e,c,d⟩:=st;exact⟨o,e,λv z=>by rw[d]at z;cases z⟩
 keep:=λi h h' st k=>st.at λo e=>k it Ò o e;item:=by intro X hP hw hK hc i Â s σ H E I hf st hg;subst hP hw hK;obtain⟨xs,x,hq,hx⟩:=hg;obtain⟨its,rv,p,hz⟩:=I.list hq;obtain⟨u,hu,ru⟩:=rv.get hx;obtain⟨f0,f1,f2,f3,f4,f5⟩:=hf it Ò;refine wpAny_pyNext_list_item st p.isList (x:=u) (by simpa using hu) λh' Ç sb=>?_;have I1:Æ X Â σ H {s with heap:=h'}:=I.turned (t':=s.toks) (λb o hb e=>(sb.2 b hb).trans e) f0 f1 f3 f4 f5;obtain⟨o,e,c,d⟩:=id Ç;exact⟨u,rfl,vQ (s:={s with heap:=h'}) e c d Ù ⟨x,H,I1,ru,⟨rfl,λys hy=>by rw[I.list_inj hy hq];exact hx⟩,Ç,λb hb=>(hf b hb).1⟩⟩
 done:=by intro X hP hw hK hc i Â s σ H E I hf st hg;subst hP hw hK;obtain⟨xs,hq,hx⟩:=hg;obtain⟨its,rv,p,hz⟩:=I.list hq;obtain⟨f0,f1,f2,f3,f4,f5⟩:=hf it Ò;have hl:=rv.length;exact wpAny_pyNext_list_end (I.ok.hd hc) st p.isList (by simp;lia) λh' eb=>⟨rfl,I.turned (t':=s.toks) (λb o hb e=>eb b o hb e) f0 f1 f3 f4 f5⟩
 self:=λ_ _ _ _ _ st h=>wpAny_pyIter_listiter st h
theorem yo{K:Frag}(a it:Addr):š P w K tg (Itt K a) [it] it (λi h=>h.IsTupleIter it a i)where
 mem:=by simp
 obj:=λi h st b hb=>by
  have e:b=it:=by simpa using hb
  subst e;obtain⟨o,e,c,d⟩:=st;exact⟨o,e,λv z=>by rw[d]at z;cases z⟩
 keep:=λi h h' st k=>st.at λo e=>k it Ò o e;item:=by intro X hP hw hK hc i Â s σ H E I hf st hg;subst hP hw hK;obtain⟨xs,x,hq,hx⟩:=hg;obtain⟨its,rv,p,hz⟩:=I.tuple hq;obtain⟨u,hu,ru⟩:=rv.get hx;obtain⟨f0,f1,f2,f3,f4,f5⟩:=hf it Ò;refine wpAny_pyNext_tuple_item st (show s.heap.IsTuple a its.toArray from p) (x:=u) (by simpa using hu) λh' Ç sb=>?_;have I1:Æ X Â σ H {s with heap:=h'}:=I.turned (t':=s.toks) (λb o hb e=>(sb.2 b hb).trans e) f0 f1 f3 f4 f5;obtain⟨o,e,c,d⟩:=id Ç;exact⟨u,rfl,vQ (s:={s with heap:=h'}) e c d Ù ⟨x,H,I1,ru,⟨rfl,λys hy=>by rw[I.tuple_inj hy hq];exact hx⟩,Ç,λb hb=>(hf b hb).1⟩⟩
 done:=by intro X hP hw hK hc i Â s σ H E I hf st hg;subst hP hw hK;obtain⟨xs,hq,hx⟩:=hg;obtain⟨its,rv,p,hz⟩:=I.tuple hq;obtain⟨f0,f1,f2,f3,f4,f5⟩:=hf it Ò;have hl:=rv.length;exact wpAny_pyNext_tuple_end (I.ok.hd hc) st (show s.heap.IsTuple a its.toArray from p) (by simp;lia) λh' eb=>⟨rfl,I.turned (t':=s.toks) (λb o hb e=>eb b o hb e) f0 f1 f3 f4 f5⟩
 self:=λ_ _ _ _ _ st h=>wpAny_pyIter_tupleiter st h
theorem yp{K:Frag}(it:Addr)(lo:Int)(n:Nat):š P w K tg (Itr lo n) [it] it (λi h=>IsRangeIter h it (lo+(i:Nat)*1) ((n:Int)-(i:Nat)) 1)where
 mem:=by simp
 obj:=λi h st b hb=>by
  have e:b=it:=by simpa using hb
  subst e;exact⟨_,st,λv z=>by have z':Data.fields _=Data.cell v:=z;cases z'⟩
 keep:=λi h h' st k=>k it Ò _ st;item:=by intro X hP hw hK hc i Â s σ H E I hf st hg;subst hP hw hK;obtain⟨f0,f1,f2,f3,f4,f5⟩:=hf it Ò;have W:=Walks.range (prog:=X.prog) (w:=X.w) (I.ok.hd hc) it lo 1 n;refine W.item i s _ _ hg st λv h' tk hv Ç kk=>?_;obtain⟨t,rfl⟩:=hv;have I1:Æ X Â σ H {s with heap:=h',toks:=tk}:=I.turned (λb o hb e=>kk b o (by simpa using hb) e) f0 f1 f3 f4 f5;refine⟨_,rfl,vQ (s:={s with heap:=h',toks:=tk}) (n:="range_iterator") Ç rfl rfl Ù ⟨.int (lo+i),H,I1,⟨t,?_⟩,⟨rfl,rfl⟩,Ç,λb hb=>(hf b hb).1⟩⟩;rw[Int.mul_one]
 done:=by intro X hP hw hK hc i Â s σ H E I hf st hg;subst hP hw hK;obtain⟨f0,f1,f2,f3,f4,f5⟩:=hf it Ò;exact wpAny_pyNext_range_end (I.ok.hd hc) st (by have:n<=i:=hg;lia) λh' eb=>⟨rfl,I.turned (t':=s.toks) (λb o hb e=>eb b o hb e) f0 f1 f3 f4 f5⟩
 self:=λ_ _ _ _ _ st h=>wpAny_pyIter_rangeiter st h
section
variable{tg:Expr}
def JS(K:Frag)(tl:TE):TI:=λσ H R=>tl σ H λx H1=>∃a,x=.ref a/\(∃xs,Ï K H1 a xs)/\R (Itl K a) H1
def Kv(K:Frag)(tl:TE):TI:=λσ H R=>tl σ H λx H1=>∃a,x=.ref a/\(∃xs,Ì K H1 a xs)/\R (Itt K a) H1
theorem dC(hl:PE X l tl):PI X tg l (JS X.K tl):=by
 intro Â s σ H R I h;refine Ú (hl Â s σ H _ I h) λv s1=>?_;rintro⟨x,H1,I1,r1,q1⟩;obtain⟨a,e,⟨xs,hq⟩,q⟩:=q1;subst e;cases r1;obtain⟨its,rv,p,hz⟩:=I1.list hq;refine wpAny_pyIter_list p.isList ?_;refine⟨s1.heap.objs.size,[s1.heap.objs.size],_,_,H1,rfl,I1.kept (t':=s1.toks) λb o e=>ë _ e,Bu a _,⟨_,Ę _ rfl,rfl,rfl⟩,λb hb=>?_,q⟩;have e:b=s1.heap.objs.size:=by simpa using hb
 subst e;exact I1.fpOk (Ø _) (I1.hok.fresh (Ø _))
theorem gG(hl:PE X l tl):PI X tg l (Kv X.K tl):=by
 intro Â s σ H R I h;refine Ú (hl Â s σ H _ I h) λv s1=>?_;rintro⟨x,H1,I1,r1,q1⟩;obtain⟨a,e,⟨xs,hq⟩,q⟩:=q1;subst e;cases r1;obtain⟨its,rv,p,hz⟩:=I1.tuple hq;refine wpAny_pyIter_tuple (p) ?_;refine⟨s1.heap.objs.size,[s1.heap.objs.size],_,_,H1,rfl,I1.kept (t':=s1.toks) λb o e=>ë _ e,yo a _,⟨_,Ę _ rfl,rfl,rfl⟩,λb hb=>?_,q⟩;have e:b=s1.heap.objs.size:=by simpa using hb
 subst e;exact I1.fpOk (Ø _) (I1.hok.fresh (Ø _))
theorem vR{σ:St}{lo hi:Int}{t u v:Tok}{tk:Nat}(I:Æ X Â σ H s)(h1:-(2^62)<=lo)(h2:lo<2^62)(h3:-(2^62)<=hi)(h4:hi<2^62)(q:R (Itr lo (hi-lo).toNat) H):wpAny (model X.prog X.w) X.A (pyIter (.ref s.heap.objs.size)) (PIE X Â σ tg R) E {s with heap:=s.heap.push {cls:=.type "range",data:=.fields #[.int lo t,.int hi u,.int 1 v]},toks:=tk}:=by
 refine wpAny_pyIter_range (IsRange.new ..) (small_one h1 h2 h3 h4) ?_;have I1:Æ X Â σ H {s with heap:=s.heap.push {cls:=.type "range",data:=.fields #[.int lo t,.int hi u,.int 1 v]},toks:=tk}:=I.kept λb o e=>ë _ e;refine⟨(s.heap.push {cls:=.type "range",data:=.fields #[.int lo t,.int hi u,.int 1 v]}).objs.size,[(s.heap.push {cls:=.type "range",data:=.fields #[.int lo t,.int hi u,.int 1 v]}).objs.size],_,_,H,rfl,I1.kept (t':=tk) λb o e=>ë _ e,yp _ lo (hi-lo).toNat,?_,λb hb=>?_,q⟩
 .have e1:lo+((0:Nat):Int)*1=lo:=by simp
  have e2:(((hi-lo).toNat:Nat):Int)-((0:Nat):Int)=Builtin.Range.rangeSize lo hi 1:=by rw[rangeSize_one];split<;>lia
  rw[e1,e2];exact Ę _ rfl
 .have e:b=(s.heap.push {cls:=.type "range",data:=.fields #[.int lo t,.int hi u,.int 1 v]}).objs.size:=by simpa using hb
  subst e;exact I1.fpOk (Ø _) (I1.hok.fresh (Ø _))
def N7(ta:TA):TI:=λσ H R=>ta σ H λvs H1=>∃j:Int,vs=[.int j]/\-(2^62)<=j/\j<2^62/\R (Itr 0 j.toNat) H1
def N8(ta:TA):TI:=λσ H R=>ta σ H λvs H1=>∃i j:Int,vs=[.int i,.int j]/\(-(2^62)<=i/\i<2^62/\-(2^62)<=j/\j<2^62)/\R (Itr i (j-i).toNat) H1
theorem cY(hg:Gl X "range")(hm:X.mg "range"=none)(ha:PA X [a] ta)(hs:starEach [a] X.env=[(false,eval a X.env)]:=by rfl):PI X tg (.Call (.Name "range" p) [a] [] pos) (N7 ta):=by intro Â s σ H R I h;refine Call_ (jd I hg hm boot_range (PyProof.Rows.callWith_type1 (Ú (ha pos Â s σ H _ I h) λus s1=>?_) hs rfl));rintro⟨vs,H1,I1,r1,q1⟩;obtain⟨j,e,q1,q2,q⟩:=q1;subst e;cases r1 with|cons r rr=>cases rr;obtain⟨t,rfl⟩:=r;exact call_range_1 (vR I1 Ò Ò q1 q2 (by simpa using q))
theorem sG{p pos:Pos}(hg:Gl X "range")(hm:X.mg "range"=none)(ha:PA X [a,b] ta)(hs:starEach [a,b] X.env=[(false,eval a X.env),(false,eval b X.env)]:=by rfl)(tq:starEach [b] X.env=[(false,eval b X.env)]:=by rfl):PI X tg (.Call (.Name "range" p) [a,b] [] pos) (N8 ta):=by intro Â s σ H R I h;refine Call_ (jd I hg hm boot_range (PyProof.Rows.callWith_type1 (Ú (ha pos Â s σ H _ I h) λus s1=>?_) (by rw[hs,tq]) (by rw[tq];rfl)));rintro⟨vs,H1,I1,r1,q1⟩;obtain⟨i,j,e,⟨q1,q2,q3,q4⟩,q⟩:=q1;subst e;cases r1 with|cons r rr=>cases rr with|cons r' rr=>cases rr;obtain⟨t,rfl⟩:=r;obtain⟨t',rfl⟩:=r';exact call_range_2 (vR I1 q1 q2 q3 q4 q)
def Px(wi:TI)(g:TG)(tb:TS):TS:=λD σ H=>wi σ H λJ H1=>∃W:Nat->Nat->St->Hp->Prop,(∃m,W 0 m σ H1)/\∀i m σ H,W i m σ H->(J.stop i H/\D.nx σ H)\/(J.go i H/\∃N:St->Hp->Prop,(∀ah H',N ah H'->∃m',m'<m/\W (i+1) m' ah H')/\∀x H',J.yld i H x H'->g x σ H' λax H2=>tb {D with nx:=N,ct:=N,bk:=D.nx} ax H2)
def fG(fp:ă)(h:Heap):ZX:=fp.filterMap λb=>(h.get? b).map λo=>(b,o)
theorem jf(hb:b∈fp)(e:h.get? b=some o):(b,o)∈fG fp h:=List.mem_filterMap.mpr ⟨b,hb,by rw[e];rfl⟩
theorem sI(hp:p∈fG fp h):p.1∈fp/\h.get? p.1=some p.2:=by obtain⟨b,hb,e⟩:=List.mem_filterMap.mp hp;cases q:h.get? b with|none=>rw[q]at e;cases e;|some o=>rw[q]at e;have e':(b,o)=p:=ĭ e;subst e';exact⟨hb,q⟩
theorem Æ.pinned{σ:St}(I:Æ X Â σ H s)(hf:∀b∈fp,uq X Â H b)(ho:∀b∈fp,∃o,s.heap.get? b=some o/\∀v,o.data≠.cell v):Æ X (Â++fG fp s.heap) σ H s:=I.pins_of λp hp=>(Ą.mp hp).elim (λz=>I.pin p (ϛ _ z)) λz=>by obtain⟨hb,e⟩:=sI z;obtain⟨f0,f1,f2,_⟩:=hf p.1 hb;obtain⟨o,e',d⟩:=ho p.1 hb;rw[e]at e';cases e';exact⟨e,f0,f1,f2,d⟩
theorem Æ.unpinned{σ:St}(I:Æ X (Â++pl) σ H s):Æ X Â σ H s:=I.pins_of λp hp=>I.pin p (ϛ _ (Zba _ hp))
theorem cG(hp:PassesOwn (model X.prog X.w) X.A X.env X.xe)(hc:X.calm=true)(hi:PI X tg iter wi)(hg:PG X tg g)(hb:Ķ X body tb)(hs:∀x,foldedSetIterable iter X.env x=pure x:=by intro _;rfl):PS X (.For tg iter body [] pos) (Px wi g tb):=by
 intro Â s σ H D I h;refine wpAny_For (Ú (hi Â s σ H _ I h) λv s1 h1=>Ú h1 λFG s2 h2=>?_) hs;obtain⟨it,fp,tn,J,H2,e,I2,T,st2,f2,W,⟨m0,w0⟩,turn⟩:=h2;subst e;have vT:∀{H':Hp},(∀b∈fp,H' b=none)->∀b∈fp,uq X Â H' b:=λhn b hb=>⟨hn b hb,(f2 b hb).2⟩;refine codeAny_forLoop_any (λn s'=>∃i ah H',Æ X Â ah H' s'/\tn i s'.heap/\(∀b∈fp,H' b=none)/\W i n ah H') ?_ m0 ⟨0,σ,H2,I2,st2,λb hb=>(f2 b hb).1,w0⟩;rintro n s3⟨i,mT,H3,I3,ip,Cb,w3⟩;rcases turn i n mT H3 w3 with⟨stop,qn⟩|⟨go,N,hN,step⟩;.refine wpAny_passesOwn hp (Ú (T.done X rfl rfl rfl hc i Â s3 mT H3 X.xe I3 (vT Cb) ip stop) λr s4=>?_);rintro⟨hr,I4⟩;subst hr;exact wpAny_execs_nil ⟨mT,H3,I4,qn⟩
 .refine wpAny_passesOwn hp (Ú (T.item X rfl rfl rfl hc i Â s3 mT H3 X.xe I3 (vT Cb) ip go) λr s4=>?_);rintro⟨u,hr,h4⟩;subst hr;refine wpAny_passesOwn hp (Ú h4 λ_ s5=>?_);rintro⟨x,H5,I5,r5,y5,wa,IB⟩;have IC:=I5.pinned (vT IB) (T.obj _ _ wa);refine wpAny_passesOwn hp (Ú (hg _ s5 mT H5 x u _ IC r5 (step x H5 y5)) λ_ s6=>?_);rintro⟨rg,H6,I6,q6⟩;refine wpAny_passesOwn hp (Ú (hb _ s6 rg H6 _ I6 q6) λf s7 q7=>?_);have again:∀{nh:St}{H7:Hp},Æ X (Â++fG fp s5.heap) nh H7 s7->N nh H7->∃m,m<n/\∃i ah H',Æ X Â ah H' s7/\tn i s7.heap/\(∀b∈fp,H' b=none)/\W i m ah H':=λ{nh H7}I7 n7=>by obtain⟨m',hm,w7⟩:=hN nh H7 n7;refine⟨m',hm,i+1,nh,H7,I7.unpinned,T.keep _ _ _ wa λb hb o e=>(I7.pin (b,o) (ϛ _ (ϛ _ (jf hb e)))).1,λb hb=>?_,w7⟩;obtain⟨o,e,d⟩:=T.obj _ _ wa b hb;exact(I7.pin (b,o) (ϛ _ (ϛ _ (jf hb e)))).2.1
  cases f with|next=>obtain⟨nh,H7,I7,n7⟩:=q7;exact again I7 n7;|cont=>obtain⟨nh,H7,I7,n7⟩:=q7;exact again I7 n7;|brk=>obtain⟨nh,H7,I7,q7⟩:=q7;exact⟨nh,H7,I7.unpinned,q7⟩;|ret v=>obtain⟨x7,nh,H7,I7,r7,q7⟩:=q7;exact⟨x7,nh,H7,I7.unpinned,r7,q7⟩
end
theorem gY{K:Frag}{g:TG}{tb:TS}{D:Ĥ}{σ:St}{H:Hp}(Pv:Nat->St->Hp->Prop)(h0:Pv 0 σ H)(hl:∀i σ H,i<=xs.length->Pv i σ H->Ï K H a xs)(hs:∀i x σ H,xs[i]?=some x->Pv i σ H->g x σ H λax H2=>tb {D with nx:=Pv (i+1),ct:=Pv (i+1),bk:=D.nx} ax H2)(hd:∀σ H,Pv xs.length σ H->D.nx σ H):∃W:Nat->Nat->St->Hp->Prop,(∃m,W 0 m σ H)/\∀i m σ H,W i m σ H->((Itl K a).stop i H/\D.nx σ H)\/((Itl K a).go i H/\∃N:St->Hp->Prop,(∀ah H',N ah H'->∃m',m'<m/\W (i+1) m' ah H')/\∀x H',(Itl K a).yld i H x H'->g x σ H' λax H2=>tb {D with nx:=N,ct:=N,bk:=D.nx} ax H2):=by
 refine⟨λi m σ H=>m=xs.length-i/\i<=xs.length/\Pv i σ H,⟨xs.length,by simp,ħ _,h0⟩,?_⟩;rintro i m σ H⟨rfl,hi,p⟩;have q:=hl i σ H hi p;by_cases av:i<xs.length;.refine .inr ⟨⟨xs,xs[i],q,by simp[av]⟩,Pv (i+1),λah H' p'=>⟨xs.length-(i+1),z03,rfl,av,p'⟩,λx H' y=>?_⟩;obtain⟨e,y⟩:=y;subst e;exact hs i x σ _ (y xs q) p
 .have e:i=xs.length:=À;subst e;exact .inl ⟨⟨xs,q,Ø _⟩,hd σ H p⟩
theorem ur{K:Frag}{g:TG}{tb:TS}{D:Ĥ}{σ:St}{H:Hp}(Pv:Nat->St->Hp->Prop)(h0:Pv 0 σ H)(hl:∀i σ H,i<=xs.length->Pv i σ H->Ì K H a xs)(hs:∀i x σ H,xs[i]?=some x->Pv i σ H->g x σ H λax H2=>tb {D with nx:=Pv (i+1),ct:=Pv (i+1),bk:=D.nx} ax H2)(hd:∀σ H,Pv xs.length σ H->D.nx σ H):∃W:Nat->Nat->St->Hp->Prop,(∃m,W 0 m σ H)/\∀i m σ H,W i m σ H->((Itt K a).stop i H/\D.nx σ H)\/((Itt K a).go i H/\∃N:St->Hp->Prop,(∀ah H',N ah H'->∃m',m'<m/\W (i+1) m' ah H')/\∀x H',(Itt K a).yld i H x H'->g x σ H' λax H2=>tb {D with nx:=N,ct:=N,bk:=D.nx} ax H2):=by
 refine⟨λi m σ H=>m=xs.length-i/\i<=xs.length/\Pv i σ H,⟨xs.length,by simp,ħ _,h0⟩,?_⟩;rintro i m σ H⟨rfl,hi,p⟩;have q:=hl i σ H hi p;by_cases av:i<xs.length;.refine .inr ⟨⟨xs,xs[i],q,by simp[av]⟩,Pv (i+1),λah H' p'=>⟨xs.length-(i+1),À,rfl,av,p'⟩,λx H' y=>?_⟩;obtain⟨e,y⟩:=y;subst e;exact hs i x σ _ (y xs q) p
 .have e:i=xs.length:=À;subst e;exact .inl ⟨⟨xs,q,Ø _⟩,hd σ H p⟩
theorem eV{lo:Int}{g:TG}{tb:TS}{D:Ĥ}{σ:St}{H:Hp}(Pv:Nat->St->Hp->Prop)(h0:Pv 0 σ H)(hs:∀i σ H,i<n->Pv i σ H->g (.int (lo+i)) σ H λax H2=>tb {D with nx:=Pv (i+1),ct:=Pv (i+1),bk:=D.nx} ax H2)(hd:∀σ H,Pv n σ H->D.nx σ H):∃W:Nat->Nat->St->Hp->Prop,(∃m,W 0 m σ H)/\∀i m σ H,W i m σ H->((Itr lo n).stop i H/\D.nx σ H)\/((Itr lo n).go i H/\∃N:St->Hp->Prop,(∀ah H',N ah H'->∃m',m'<m/\W (i+1) m' ah H')/\∀x H',(Itr lo n).yld i H x H'->g x σ H' λax H2=>tb {D with nx:=N,ct:=N,bk:=D.nx} ax H2):=by
 refine⟨λi m σ H=>m=n-i/\i<=n/\Pv i σ H,⟨n,by simp,ħ _,h0⟩,?_⟩;rintro i m σ H⟨rfl,hi,p⟩;by_cases av:i<n;.refine .inr ⟨av,Pv (i+1),λah H' p'=>⟨n-(i+1),À,rfl,av,p'⟩,λx H' y=>?_⟩;obtain⟨e,y⟩:=y;subst e y;exact hs i σ _ av p
 .have e:i=n:=À;subst e;exact .inl ⟨Ø _,hd σ H p⟩
abbrev R2:=V->V->Hp->VK->Prop
def Ċ(X:Cx)(f:Value->Value->Sem Value)(r:R2):Prop:=∀(Â:ZX)(s:Shared)(σ:St)(H:Hp)(x y:V)(v u:Value)(Q:VK),Æ X Â σ H s->Ñ x v->Ñ y u->r x y H Q->wpAny (model X.prog X.w) X.A (f v u) (EP X Â σ Q) X.xe s
def UnR(X:Cx)(f:Value->Sem Value)(r:V->Hp->VK->Prop):Prop:=∀(Â:ZX)(s:Shared)(σ:St)(H:Hp)(x:V)(v:Value)(Q:VK),Æ X Â σ H s->Ñ x v->r x H Q->wpAny (model X.prog X.w) X.A (f v) (EP X Â σ Q) X.xe s
def dH(X:Cx)(f:Value)(r:List V->Hp->VK->Prop):Prop:=∀(Â:ZX)(s:Shared)(σ:St)(H:Hp)(xs:List V)(us:â)(Q:VK),Æ X Â σ H s->Î xs us->r xs H Q->wpAny (model X.prog X.w) X.A (call f us) (EP X Â σ Q) X.xe s
def Į(r:R2)(ta tb:TE):TE:=λσ H Q=>ta σ H λx H1=>tb σ H1 λy H2=>r x y H2 Q
def tUn(r:V->Hp->VK->Prop)(ta:TE):TE:=λσ H Q=>ta σ H λx H1=>r x H1 Q
inductive RII(C:Int->Int->Prop)(g:Int->Int->V)(x:V)(y:V)(H:Hp)(Q:VK):Prop|mk:∀i j,(x=.int i)->(y=.int j)->(C i j)->(Q (g i j) H)->RII C g x y H Q
def rI(C:Int->Int->Prop)(g:Int->Int->V):R2:=λx y H Q=>RII C g x y H Q
inductive RI0I(g:Int->Int->V)(x:V)(y:V)(H:Hp)(Q:VK):Prop|mk:∀i j,(x=.int i)->(y=.int j)->(Q (g i j) H)->RI0I g x y H Q
def Θ(g:Int->Int->V):R2:=λx y H Q=>RI0I g x y H Q
inductive RUI(g:Int->V)(x:V)(H:Hp)(Q:VK):Prop|mk:∀i,(x=.int i)->(Q (g i) H)->RUI g x H Q
def rU(g:Int->V):V->Hp->VK->Prop:=λx H Q=>RUI g x H Q
section
theorem Kw(ha:PE X a ta)(hb:PE X b tb){σ:St}{R:V->V->Hp->Prop}(I:Æ X Â σ H s)(h:ta σ H λx H1=>tb σ H1 λy H2=>R x y H2){Q:Tc}{f:Value->Value->Sem Value}(hf:∀v u s2 x y H2,Æ X Â σ H2 s2->Ñ x v->Ñ y u->R x y H2->wpAny (model X.prog X.w) X.A (f v u) Q X.xe s2):wpAny (model X.prog X.w) X.A (eval a X.env) (λv s₁=>wpAny (model X.prog X.w) X.A (eval b X.env) (λu s₂=>wpAny (model X.prog X.w) X.A (f v u) Q X.xe s₂) X.xe s₁) X.xe s:=by refine Ú (ha Â s σ H _ I h) λv s1=>?_;rintro⟨x,H1,I1,r1,q1⟩;refine Ú (hb Â s1 σ H1 _ I1 q1) λu s2=>?_;rintro⟨y,H2,I2,r2,q2⟩;exact hf v u s2 x y H2 I2 r1 r2 q2
theorem aQ(ho:Ċ X (binaryOp op) r)(ha:PE X a ta)(hb:PE X b tb):PE X (.BinOp a op b pos) (Į r ta tb):=by intro Â s σ H Q I h;exact wpAny_BinOp (Kw ha hb I h λv u s2 x y H2 I2 rx ry q=>ho Â s2 σ H2 x y v u Q I2 rx ry q)
theorem vU(ho:UnR X (unaryOp op) r)(ha:PE X a ta):PE X (.UnaryOp op a pos) (tUn r ta):=by intro Â s σ H Q I h;exact UnaryOp_ (Ú (ha Â s σ H _ I h) λv s1=>by rintro⟨x,H1,I1,r1,q1⟩;exact ho Â s1 σ H1 x v Q I1 r1 q1)
theorem opI{g:Int->Int->Int}(rule:∀(i j:Int)(t u:Tok)(s:Shared)(Q:Tc)(E:Tc),C i j->Q (.int (g i j) s.toks) {s with toks:=s.toks+1}->wpAny (model X.prog X.w) X.A (f (.int i t) (.int j u)) Q E s):Ċ X f (rI C λi j=>.int (g i j)):=by intro Â s σ H x y v u Q I rx ry h;obtain⟨i,j,rfl,rfl,hc,q⟩:=h;obtain⟨t,rfl⟩:=rx;obtain⟨t',rfl⟩:=ry;exact rule i j t t' s _ _ hc ⟨.int (g i j),H,I.tok _,⟨_,rfl⟩,q⟩
theorem Nb{g:Int->Int->Int}(rule:∀(i j:Int)(t u:Tok)(s:Shared)(Q:Tc)(E:Tc),Q (.int (g i j) s.toks) {s with toks:=s.toks+1}->wpAny (model X.prog X.w) X.A (f (.int i t) (.int j u)) Q E s):Ċ X f (Θ λi j=>.int (g i j)):=by intro Â s σ H x y v u Q I rx ry h;obtain⟨i,j,rfl,rfl,q⟩:=h;obtain⟨t,rfl⟩:=rx;obtain⟨t',rfl⟩:=ry;exact rule i j t t' s _ _ ⟨.int (g i j),H,I.tok _,⟨_,rfl⟩,q⟩
theorem HF{g:Int->Int->Bool}(rule:∀(i j:Int)(t u:Tok)(s:Shared)(Q:Tc)(E:Tc),Q (.bool (g i j)) s->wpAny (model X.prog X.w) X.A (f (.int i t) (.int j u)) Q E s):Ċ X f (Θ λi j=>.bl (g i j)):=by intro Â s σ H x y v u Q I rx ry h;obtain⟨i,j,rfl,rfl,q⟩:=h;obtain⟨t,rfl⟩:=rx;obtain⟨t',rfl⟩:=ry;exact rule i j t t' s _ _ ⟨.bl (g i j),H,I,rfl,q⟩
def Py(i j:Int):Prop:=0<j/\j<1073741824
def yq(i j:Int):Prop:=0<=j/\j<=1000000/\i.natAbs<2^64
def Z0h(i j:Int):Prop:=(-(2^64)<i/\i<2^64)\/(-(2^64)<j/\j<2^64)
theorem Z0h.ok(h:Z0h i j):IntMulOk i j:=by
 rcases h with⟨h1,h2⟩|⟨h1,h2⟩;.exact .of_left (intBits_le_64 h1 h2)
 .exact .of_right (intBits_le_64 h1 h2)
theorem bU:Ċ X (binaryOp .Add) (Θ λi j=>.int (i+j)):=Nb λ_ _ _ _ _ _ _ q=>add_int q
theorem dZ:Ċ X (binaryOp .Sub) (Θ λi j=>.int (i-j)):=Nb λ_ _ _ _ _ _ _ q=>sub_int q
theorem gZ:Ċ X (binaryOp .Mult) (rI Z0h λi j=>.int (i*j)):=opI λ_ _ _ _ _ _ _ hc q=>mul_int q hc.ok
theorem ut:Ċ X (binaryOp .FloorDiv) (rI Py λi j=>.int (i/j)):=opI λi j _ _ _ _ _ hc q=>by have h1:(0:Int)<j:=hc.1;have h2:j<1073741824:=hc.2;exact floordiv_int À (by rw[Int.fdiv_eq_ediv_of_nonneg i À];exact q) (.inl (PyProof.noPylong_small z03))
theorem lA:Ċ X (binaryOp .Mod) (rI (λ_ j=>0<j) λi j=>.int (i%j)):=opI λi j _ _ _ _ _ hc q=>by exact mod_int' À (by rw[Int.fmod_eq_emod_of_nonneg i À];exact q)
theorem uv:Ċ X (binaryOp .Pow) (rI yq λi j=>.int (i^j.toNat)):=opI λ_ _ _ _ _ _ _ hc q=>pow_int_small hc.1 hc.2.1 hc.2.2 q
theorem unI{g:Int->Int}(rule:∀(i:Int)(t:Tok)(s:Shared)(Q:Tc)(E:Tc),Q (.int (g i) s.toks) {s with toks:=s.toks+1}->wpAny (model X.prog X.w) X.A (f (.int i t)) Q E s):UnR X f (rU λi=>.int (g i)):=by intro Â s σ H x v Q I rx h;obtain⟨i,rfl,q⟩:=h;obtain⟨t,rfl⟩:=rx;exact rule i t s _ _ ⟨.int (g i),H,I.tok _,⟨_,rfl⟩,q⟩
theorem pR:UnR X (unaryOp .USub) (rU λi=>.int (-i)):=unI λ_ _ _ _ _ q=>neg_int q
end
def Nf:V->V->Bool|.non,.non=>true|.non,.int _=>true|.int _,.non=>true|.non,.bl _=>true|.bl _,.non=>true|.non,.str _=>true|.str _,.non=>true|.int _,.int _=>true|.bl _,.bl _=>true|.str _,.str _=>true|.byt _,.byt _=>true|.int _,.str _=>true|.str _,.int _=>true|.bl _,.str _=>true|.str _,.bl _=>true|_,_=>false
def rEq:R2:=λx y H Q=>Nf x y=true/\Q (.bl (decide (x=y))) H
def rNe:R2:=λx y H Q=>Nf x y=true/\Q (.bl (!decide (x=y))) H
theorem zg:decide (V.int i=V.int j)=(i==j):=by rw[Za0];simp
theorem DK:decide (V.bl i=V.bl j)=(i==j):=by rw[Za0];simp
theorem zj:decide (V.str i=V.str j)=(i==j):=by rw[Za0];simp
theorem zm:decide (V.byt i=V.byt j)=(i.toList==j.toList):=by rw[Za0];cases i;cases j;simp
section
theorem bJ{σ:St}(I:Æ X Â σ H s)(q:Q (.bl k) H)(e:k=k'):EP X Â σ Q (.bool k') s:=by subst e;exact⟨.bl k,H,I,rfl,q⟩
theorem iQ:Ċ X (compareOp .Eq) rEq:=by intro Â s σ H x y v u Q I rx ry h;obtain⟨hs,q⟩:=h;cases x with
 |non=>cases rx;cases y with|non=>cases ry;exact PySem.EqNone.eq_none_none (bJ I q Ù);|bl j=>cases ry;exact PySem.EqNone.eq_none_bool (bJ I q Ò);|int j=>obtain⟨t',rfl⟩:=ry;exact PySem.EqNone.eq_none_int (bJ I q À);|str j=>obtain⟨t',rfl⟩:=ry;exact PySem.EqNone.eq_none_str (bJ I q Ò);|_=>exact absurd (show false=true from hs) Ō
 |bl i=>cases rx;cases y with|non=>cases ry;exact PySem.EqNone.eq_bool_none (bJ I q Ò);|bl j=>cases ry;exact eq_bool (bJ I q DK);|str j=>obtain⟨t',rfl⟩:=ry;exact PySem.EqMixed.eq_bool_str (bJ I q Ò);|_=>exact absurd (show false=true from hs) Ō
 |int i=>obtain⟨t,rfl⟩:=rx;cases y with|non=>cases ry;exact PySem.EqNone.eq_int_none (bJ I q À);|int j=>obtain⟨t',rfl⟩:=ry;exact eq_int (bJ I q zg);|str j=>obtain⟨t',rfl⟩:=ry;exact PySem.EqMixed.eq_int_str (bJ I q Ò);|_=>exact absurd (show false=true from hs) Ō
 |str i=>obtain⟨t,rfl⟩:=rx;cases y with|non=>cases ry;exact PySem.EqNone.eq_str_none (bJ I q Ò);|bl j=>cases ry;exact PySem.EqMixed.eq_str_bool (bJ I q Ò);|int j=>obtain⟨t',rfl⟩:=ry;exact PySem.EqMixed.eq_str_int (bJ I q Ò);|str j=>obtain⟨t',rfl⟩:=ry;exact eq_str (bJ I q zj);|_=>exact absurd (show false=true from hs) Ō
 |byt i=>obtain⟨t,rfl⟩:=rx;cases y with|byt j=>obtain⟨t',rfl⟩:=ry;exact PySem.W.eq_bytes (bJ I q zm);|_=>exact absurd (show false=true from hs) Ō
 |_=>cases y<;>exact absurd (show false=true from hs) Ō
theorem lU:Ċ X (compareOp .NotEq) rNe:=by intro Â s σ H x y v u Q I rx ry h;obtain⟨hs,q⟩:=h;cases x with
 |non=>cases rx;cases y with|non=>cases ry;exact PySem.EqNone.ne_none_none (bJ I q Ù);|bl j=>cases ry;exact PySem.EqNone.ne_none_bool (bJ I q Ò);|int j=>obtain⟨t',rfl⟩:=ry;exact PySem.EqNone.ne_none_int (bJ I q Ò);|str j=>obtain⟨t',rfl⟩:=ry;exact PySem.EqNone.ne_none_str (bJ I q Ò);|_=>exact absurd (show false=true from hs) Ō
 |bl i=>cases rx;cases y with|non=>cases ry;exact PySem.EqNone.ne_bool_none (bJ I q À);|bl j=>cases ry;exact ne_bool (bJ I q (congrArg not DK));|str j=>obtain⟨t',rfl⟩:=ry;exact PySem.EqMixed.ne_bool_str (bJ I q À);|_=>exact absurd (show false=true from hs) Ō
 |int i=>obtain⟨t,rfl⟩:=rx;cases y with|non=>cases ry;exact PySem.EqNone.ne_int_none (bJ I q Ò);|int j=>obtain⟨t',rfl⟩:=ry;exact ne_int (bJ I q (congrArg not zg));|str j=>obtain⟨t',rfl⟩:=ry;exact PySem.EqMixed.ne_int_str (bJ I q Ò);|_=>exact absurd (show false=true from hs) Ō
 |str i=>obtain⟨t,rfl⟩:=rx;cases y with|non=>cases ry;exact PySem.EqNone.ne_str_none (bJ I q Ò);|bl j=>cases ry;exact PySem.EqMixed.ne_str_bool (bJ I q Ò);|int j=>obtain⟨t',rfl⟩:=ry;exact PySem.EqMixed.ne_str_int (bJ I q Ò);|str j=>obtain⟨t',rfl⟩:=ry;exact ne_str (bJ I q (congrArg not zj));|_=>exact absurd (show false=true from hs) Ō
 |byt i=>obtain⟨t,rfl⟩:=rx;cases y with|byt j=>obtain⟨t',rfl⟩:=ry;exact PySem.W.ne_bytes (bJ I q (congrArg not zm));|_=>exact absurd (show false=true from hs) Ō
 |_=>cases y<;>exact absurd (show false=true from hs) Ō
theorem oO:Ċ X (compareOp .Lt) (Θ λi j=>.bl (decide (i<j))):=HF λ_ _ _ _ _ _ _ q=>lt_int q
theorem cD:Ċ X (compareOp .LtE) (Θ λi j=>.bl (decide (i<=j))):=HF λ_ _ _ _ _ _ _ q=>le_int q
theorem jw:Ċ X (compareOp .Gt) (Θ λi j=>.bl (decide (j<i))):=HF λ_ _ _ _ _ _ _ q=>gt_int q
theorem JT:Ċ X (compareOp .GtE) (Θ λi j=>.bl (decide (j<=i))):=HF λ_ _ _ _ _ _ _ q=>ge_int q
theorem yr:Ċ X (compareOp .Is) (λx y H Q=>y=.non/\Q (.bl (decide (x=.non))) H):=by intro Â s σ H x y v u Q I rx ry h;obtain⟨rfl,q⟩:=h;cases ry;refine is_none_gen (bJ I q ?_);cases x<;>first|(cases rx;rfl);|(obtain⟨t,rfl⟩:=rx;rfl)
theorem aW(b:Expr)(h:op≠.In:=by decide)(h2:op≠.NotIn:=by decide):behindInMarks op b=false:=by
 have e1:(op==CmpOp.In)=false:=by cases op<;>first|rfl|exact absurd rfl h
 have e2:(op==CmpOp.NotIn)=false:=by cases op<;>first|rfl|exact absurd rfl h2
 cases b<;>simp[behindInMarks,e1,e2]
theorem gj(ho:Ċ X (compareOp op) r)(ha:PE X a ta)(hb:PE X b tb)(hm:behindInMarks op b=false):PE X (.Compare a [op] [b] pos) (Į r ta tb):=by intro Â s σ H Q I h;exact wpAny_Compare1 (Kw ha hb I h λv u s2 x y H2 I2 rx ry q=>ho Â s2 σ H2 x y v u Q I2 rx ry q) hm
def pU(t:TE):TT:=λσ H Q=>t σ H λx H'=>∃k,x=.bl k/\Q k H'
theorem aY(ho:Ċ X (compareOp op) r)(ha:PE X a ta)(hb:PE X b tb)(hm:behindInMarks op b=false):PT X (.Compare a [op] [b] pos) (pU (Į r ta tb)):=by intro Â s σ H Q I h;refine wpAny_isTrue_Compare1 (Ú (ha Â s σ H _ I h) λv s1⟨x,H1,I1,r1,q1⟩=>Ú (hb Â s1 σ H1 _ I1 q1) λu s2⟨y,H2,I2,r2,q2⟩=>Ú (ho Â s2 σ H2 x y v u _ I2 r1 r2 q2) λc s3⟨z,H3,I3,r3,k,e,q3⟩=>?_) hm;subst e;cases r3;exact wpAny_truthy_bool ⟨H3,I3,q3⟩
def yt(r r':R2)(ta tb tc:TE):TE:=λσ H Q=>ta σ H λx H1=>tb σ H1 λy H2=>r x y H2 λz H3=>∃k,z=.bl k/\(if k=true then tc σ H3 λw' H4=>r' y w' H4 Q else Q (.bl false) H3)
theorem cW(ho:Ċ X (compareOp op) r)(ij:Ċ X (compareOp wb) r')(ha:PE X a ta)(hb:PE X b tb)(hc:PE X c tc)(hm:lastMarks [op,wb] [b,c]=false:=by with_unfolding_all rfl):PE X (.Compare a [op,wb] [b,c] pos) (yt r r' ta tb tc):=by intro Â s σ H Q I h;refine Compare_chain (Ú (ha Â s σ H _ I h) λv s1⟨x,H1,I1,r1,q1⟩=>chain_link (Ú (hb Â s1 σ H1 _ I1 q1) λu s2⟨y,H2,I2,r2,q2⟩=>Ú (ho Â s2 σ H2 x y v u _ I2 r1 r2 q2) λd s3⟨z,H3,I3,r3,k,e,q3⟩=>?_)) hm;subst e;cases r3;refine wpAny_truthy_bool ?_;cases k with|false=>exact ite_ff ⟨.bl false,H3,I3,rfl,q3⟩;|true=>exact ite_tt (chain_last (Ú (hc Â s3 σ H3 _ I3 q3) λw' s4=>by rintro⟨z',H4,I4,r4,q4⟩;exact ij Â s4 σ H4 y z' u w' Q I4 r2 r4 q4))
theorem pW(ho:Ċ X (compareOp op) r)(ij:Ċ X (compareOp wb) r')(ha:PE X a ta)(hb:PE X b tb)(hc:PE X c tc)(hm:lastMarks [op,wb] [b,c]=false:=by with_unfolding_all rfl):PT X (.Compare a [op,wb] [b,c] pos) (pU (yt r r' ta tb tc)):=by intro Â s σ H Q I h;refine isTrue_chain (Ú (ha Â s σ H _ I h) λv s1⟨x,H1,I1,r1,q1⟩=>test_link (Ú (hb Â s1 σ H1 _ I1 q1) λu s2⟨y,H2,I2,r2,q2⟩=>Ú (ho Â s2 σ H2 x y v u _ I2 r1 r2 q2) λd s3⟨z,H3,I3,r3,k,e,q3⟩=>?_)) hm;subst e;cases r3;refine wpAny_truthy_bool ?_;cases k with|false=>obtain⟨k',e',q'⟩:=q3;cases e';exact ite_ff ⟨H3,I3,q'⟩;|true=>refine ite_tt (test_last (Ú (hc Â s3 σ H3 _ I3 q3) λw' s4⟨z',H4,I4,r4,q4⟩=>Ú (ij Â s4 σ H4 y z' u w' _ I4 r2 r4 q4) λd' s5=>?_));rintro⟨z2,H5,I5,r5,k2,e2,q5⟩;subst e2;cases r5;exact wpAny_truthy_bool ⟨H5,I5,q5⟩
theorem pZ:(sizeLine:Nat)<2^63:=by rw[sizeLine_eq];decide
theorem þ(r:Î [x] us):∃u,us=[u]/\Ñ x u:=by cases r with|cons r1 r2=>cases r2;exact⟨_,rfl,r1⟩
theorem Ő(r:Î [x,y] us):∃u w',us=[u,w']/\Ñ x u/\Ñ y w':=by cases r with|cons r1 r2=>cases r2 with|cons r3 r4=>cases r4;exact⟨_,_,rfl,r1,r3⟩
theorem jR(hc:X.calm=true):dH X (.builtin "max") (λxs H Q=>∃i j,xs=[.int i,.int j]/\Q (.int (if j>i then j else i)) H):=by
 intro Â s σ H xs us Q I r h;obtain⟨i,j,rfl,q⟩:=h;obtain⟨u,w',rfl,⟨t,rfl⟩,⟨t',rfl⟩⟩:=Ő r;refine max_two_ints (I.ok.hd hc) λh' tk k=>⟨_,H,I.kept k,?_,q⟩;by_cases hj:j>i;.rw[Í hj,Í hj];exact⟨_,rfl⟩
 .rw[Ë hj,Ë hj];exact⟨_,rfl⟩
theorem iR(hc:X.calm=true):dH X (.builtin "min") (λxs H Q=>∃i j,xs=[.int i,.int j]/\Q (.int (if j<i then j else i)) H):=by
 intro Â s σ H xs us Q I r h;obtain⟨i,j,rfl,q⟩:=h;obtain⟨u,w',rfl,⟨t,rfl⟩,⟨t',rfl⟩⟩:=Ő r;refine min_two_ints (I.ok.hd hc) λh' tk k=>⟨_,H,I.kept k,?_,q⟩;by_cases hj:j<i;.rw[Í hj,Í hj];exact⟨_,rfl⟩
 .rw[Ë hj,Ë hj];exact⟨_,rfl⟩
theorem Bv:dH X (.type "int") (λxs H Q=>(∃i,xs=[.int i]/\Q (.int i) H)\/∃k,xs=[.bl k]/\Q (.int (if k then 1 else 0)) H):=by
 intro Â s σ H xs us Q I r h;rcases h with⟨i,rfl,q⟩|⟨k,rfl,q⟩;.obtain⟨u,rfl,t,rfl⟩:=þ r;exact call_int_int ⟨.int i,H,I,⟨_,rfl⟩,q⟩
 .obtain⟨u,rfl,r1⟩:=þ r;cases r1;exact call_int_bool ⟨.int (if k then 1 else 0),H,I.tok _,⟨_,rfl⟩,q⟩
theorem uw:dH X (.type "str") (λxs H Q=>∃i,xs=[.int i]/\i.natAbs.log2<1920/\Q (.str (toString i)) H):=by intro Â s σ H xs us Q I r h;obtain⟨i,rfl,hz,q⟩:=h;obtain⟨u,rfl,t,rfl⟩:=þ r;exact PySem.P.str_of_int hz ⟨.str _,H,I.tok _,⟨_,rfl⟩,q⟩
end
structure Z0g(h:Heap)(x dx C:Addr)(mA:Ti):Prop where
 obj:h.get? x=some (PySem.W.instObj C dx)ns:h.Ns1 dx mA
 ne:dx≠x
theorem Bw{h:Heap}(n:h.Ns1 dx mA):∃od,h.get? dx=some od/\∀name,PySem.W.lookIn name od=some (mA name):=by
 obtain⟨o,es,ep,ho,hd,hk,_,hm⟩:=n;refine⟨o,ho,λname=>?_⟩;have e:=hm name;unfold nsFind findBy at e;rw[<-Array.find?_toList]at e;unfold PySem.W.lookIn;rw[hd];dsimp only;split;.rename_i y q;rw[q]at e;exact congrArg some e
 .rename_i q;rw[q]at e;have a:es.toList.any (·.refKey)=false:=by rw[List.any_eq_false];intro y hy;obtain⟨z,t,ID⟩:=hk y (Array.mem_toList_iff.mp hy);simp[DictEntry.refKey,ID]
  have a':¬es.toList.any (·.refKey)=true:=by rw[a];exact Ō
  rw[Ë a'];exact congrArg some e
theorem Z0g.look(I:Z0g h x dx C mA):∃od,PySem.W.InstAt h x (PySem.W.instObj C dx) C (some od)/\∀name,PySem.W.lookIn name od=some (mA name):=let⟨od,ho,hl⟩:=Bw I.ns;⟨od,⟨I.obj,rfl,rfl,ho⟩,hl⟩
section
end
theorem ņ.some_of(r:ņ (some v) o):∃u,o=some u/\Ñ v u:=by cases o with|none=>exact(r).elim;|some u=>exact⟨u,rfl,r⟩
section
theorem HJ(hok:û P w H h)(e:H a=some (.ins C dx fs)):∃mA,Z0g h a dx C mA/\(∀f,ņ (fs.lookup f) (mA f))/\PySem.Within mA (fs.map (·.1))/\fs.length<=1000/\H dx=some (.own a):=by obtain⟨d,z,ne,ob,mA,n,r,q⟩:=(hok a _ e);exact⟨mA,⟨ob,n,ne⟩,r,q,z,d⟩
end
structure Cls(K:Frag)(C:Addr):Prop where
 pg:PySem.W.plainGet K C Str.empty=true
 hd:PySem.W.hasDictIn K C=true
 po:PySem.W.plainOver K C=true
 sa:PySem.W.findIn K (.ref C) "__setattr__"=some (some (.builtin "object.__setattr__"))
theorem Cls.get{K:Frag}(c:Cls K C)(f:Str):PySem.W.plainGet K C f=true:=c.pg
section
end
section
end
section
variable{σ:St}
inductive Ī(K:Frag)(H:Hp):V->Value->Prop where|non:Ī K H .non (.type "NoneType")|bl(x:Bool):Ī K H (.bl x) (.type "bool")|int(i:Int):Ī K H (.int i) (.type "int")|str(x:Str):Ī K H (.str x) (.type "str")|flt(x:UInt64):Ī K H (.flt x) (.type "float")|lst{a:Addr}{xs:List V}(e:H a=some (.lst xs)):Ī K H (.ref a) (.type "list")|frz{a:Addr}{o:Obj}{xs:List V}(e:H a=some (.frz o (.lst xs))):Ī K H (.ref a) (.type "list")|tup{a:Addr}{xs:List V}(e:H a=some (.tup xs)):Ī K H (.ref a) (.type "tuple")|dK{a:Addr}{kvs:List (Key×V)}(e:H a=some (.dK kvs)):Ī K H (.ref a) (.type "dict")|dT{a:Addr}{kvs:List (List Key×V)}(e:H a=some (.dT kvs)):Ī K H (.ref a) (.type "dict")|ins{a C dx:Addr}{fs:List (Str×V)}(e:H a=some (.ins C dx fs))(cl:Cls K C)(ha:PySem.W.findIn K (.ref C) "__class__"=some (some (.builtin "object.__class__")))(hn:PySem.W.specialIn K (.builtin "object.__class__") "__get__"=some (some (.builtin "getset_descriptor.__get__")))(tw:PySem.W.takesIn K (.builtin "object.__class__")=some true)(hm:PySem.W.mroIn K C (.type "object")=some true):Ī K H (.ref a) (.ref C)
theorem Bx(I:Æ X Â σ H s)(rx:Ñ x u)(ty:Ī X.K H x t)(e:PySem.W.kitOne X.K t c=some b)(h:∀tk,Q (.bool b) {s with toks:=tk}):wpAny (model X.prog X.w) A (call (.builtin "isinstance") [u,c]) Q E s:=by cases ty with|non=>cases(show u=Value.none from rx);exact PySem.W.kia_one PySem.W.kitx_none I.kIn True.intro e (λz=>nomatch z) h;|bl y=>cases(show u=Value.bool y from rx);exact PySem.W.kia_one PySem.W.kitx_bool I.kIn True.intro e (λz=>nomatch z) h;|int i=>obtain⟨t,q⟩:=(show∃t,u=Value.int i t from rx);cases q;exact PySem.W.kia_one PySem.W.kitx_int I.kIn True.intro e (λz=>nomatch z) h;|str y=>obtain⟨t,q⟩:=(show∃t,u=Value.str y t from rx);cases q;exact PySem.W.kia_one PySem.W.kitx_str I.kIn True.intro e (λz=>nomatch z) h;|flt y=>obtain⟨t,q⟩:=(show∃t,u=Value.float y t from rx);cases q;exact PySem.W.kia_one PySem.W.kitx_float I.kIn True.intro e (λz=>nomatch z) h;|@lst a xs ea=>cases(show u=Value.ref a from rx);obtain⟨_,_,n,_,h1⟩:=(show Ö X.prog X.w H s.heap a (.lst xs)from I.hok a _ ea);exact PySem.W.kia_one PySem.W.kitx_list I.kIn ⟨_,h1,rfl⟩ e (λz=>nomatch z) h;|@frz a ob xs ea=>cases(show u=Value.ref a from rx);obtain⟨_,_,_,n,_,h1⟩:=(show Ö X.prog X.w H s.heap a (.frz ob (.lst xs))from I.hok a _ ea);exact PySem.W.kia_one PySem.W.kitx_list I.kIn ⟨_,h1,rfl⟩ e (λz=>nomatch z) h;|@tup a xs ea=>cases(show u=Value.ref a from rx);obtain⟨_,_,_,p⟩:=(show Ö X.prog X.w H s.heap a (.tup xs)from I.hok a _ ea);obtain⟨o,h1,h2,_⟩:=p;exact PySem.W.kia_one PySem.W.kitx_tuple I.kIn ⟨o,h1,h2⟩ e (λz=>nomatch z) h;|@dK a kvs ea=>cases(show u=Value.ref a from rx);obtain⟨_,_,vs,_,p⟩:=(show Ö X.prog X.w H s.heap a (.dK kvs)from I.hok a _ ea);obtain⟨o,es,ep,h1,h2,_⟩:=p;exact PySem.W.kia_one PySem.W.kitx_dict I.kIn ⟨o,h1,h2.1⟩ e (λz=>nomatch z) h;|@dT a kvs ea=>cases(show u=Value.ref a from rx);obtain⟨_,_,xs,_,o,es,ep,h1,h2,_⟩:=(show Ö X.prog X.w H s.heap a (.dT kvs)from I.hok a _ ea);exact PySem.W.kia_one PySem.W.kitx_dict I.kIn ⟨o,h1,h2.1⟩ e (λz=>nomatch z) h;|@ins a C dx fs ea cl ha hn tw hm=>cases(show u=Value.ref a from rx);obtain⟨mA,O,_⟩:=HJ I.hok ea;obtain⟨od,J,_⟩:=O.look;exact PySem.W.kia_one (PySem.W.kitx_own (cl.get _) cl.hd ha hn tw hm) I.kIn J e (λz=>nomatch z) h
end
structure à(k:Nat)(A:Around):Prop where
 hd:A.handled=none
 dp:A.depth+3*k+5<recursionLimit
 un:A.units+16*k+200<cLine
 gd:A.guards=some []
theorem à.mono(r:à k A)(h:j<=k):à j A:=⟨r.hd,by have:=r.dp;omega,by have:=r.un;omega,r.gd⟩
theorem à.deeper(r:à (k+1) A)(env:Env):à k (A.deeper env):=⟨r.hd,by have:=r.dp;show A.depth+1+3*k+5<_;grind,by have:=r.un;show A.units+3+16*k+200<_;grind,r.gd⟩
theorem à.depth(r:à k A):A.depth<recursionLimit:=by have:=r.dp;lia
theorem à.units(r:à k A):A.units+64<cLine:=by have:=r.un;lia
def ie:TA:=λ_ H Q=>Q [] H
def bV(ta:TE)(tr:TA):TA:=λσ H Q=>ta σ H λx H1=>tr σ H1 λxs H2=>Q (x::xs) H2
section
theorem aj:PA X [] ie:=λ_ _ _ _ H Q I h=>Calls.spliced_nil ⟨[],H,I,.nil,h⟩
abbrev Qa8(X:Cx)(e:Expr)(es:List Expr):Prop:=starEach (e::es) X.env=(false,eval e X.env)::starEach es X.env
theorem aN(ha:PE X e te)(hr:PA X es t)(hs:Qa8 X e es:=by rfl):PA X (e::es) (bV te t):=by intro pos Â s σ H Q I h;rw[hs];show wpAny _ _ (spliced ((false,eval e X.env)::backTo pos (starEach es X.env))) _ _ s;refine Calls.spliced_cons (Ú (ha Â s σ H _ I h) λu s1=>?_);rintro⟨x,H1,I1,r1,q1⟩;exact Ú (hr pos Â s1 σ H1 _ I1 q1) λus s2=>by rintro⟨xs,H2,I2,r2,q2⟩;exact⟨x::xs,H2,I2,.cons r1 r2,q2⟩
def nM(t:TA):TE:=λσ H Q=>t σ H λxs H1=>xs.length<=sizeLine/\∀p,H1 p=none->Q (.ref p) (upd H1 p (.tup xs))
def yu(t:TA):TE:=λσ H Q=>t σ H λxs H1=>xs.length<=sizeLine/\∀p,H1 p=none->Q (.ref p) (upd H1 p (.lst xs))
theorem bB{x1}(h:PA X es t):PE X (.Tuple es x1 pos) (nM t):=by intro Â s σ H Q I hq;refine wpAny_Tuple_spliced (Ú (h pos Â s σ H _ I hq) λus s1⟨xs,H1,I1,r,z,q⟩=>⟨by rw[<-r.length];exact z,?_⟩);have hf:H1 s1.heap.objs.size=none:=I1.hok.fresh (Ø _);refine⟨.ref s1.heap.objs.size,upd H1 s1.heap.objs.size (.tup xs),I1.laid (t':=s1.toks) (λb u e=>ë _ e) (Ø _) ?_,rfl,q _ hf⟩;exact⟨z,us,r,⟨_,Ę _ rfl,rfl,_,rfl⟩⟩
theorem dJ(h:PA X es t):PE X (.List es pos) (yu t):=by intro Â s σ H Q I hq;refine wpAny_List_spliced (Ú (h pos Â s σ H _ I hq) λus s1⟨xs,H1,I1,r,z,q⟩=>⟨by rw[<-r.length];exact z,?_⟩);have hf:H1 s1.heap.objs.size=none:=I1.hok.fresh (Ø _);refine⟨.ref s1.heap.objs.size,upd H1 s1.heap.objs.size (.lst xs),I1.laid (t':=s1.toks) (λb u e=>ë _ e) (Ø _) ?_,rfl,q _ hf⟩;exact⟨z,us,0,r,Ę _ rfl⟩
end
abbrev Sp:=List V->Hp->VK->XK->Prop
abbrev CXT:=List Env->Hp->Shared->XK->Tc
structure ĺ(P:Program)(w:World)(K:Frag)(mg:Ti)(base:Heap)(A:Around)(outer:List Env)(s:Shared)(H:Hp):Prop where
 frames:A.frames=some outer
 mod:Mod K mg base
 bs:∀b o,base.get? b=some o->s.heap.get? b=some o/\H b=none
 bsz:base.objs.size<=s.heap.objs.size
 funs:s.heap.FunFrames base outer
 frf:∀b∈Ė outer,H b=none
 hok:û P w H s.heap
 bare:AllBare s.gens
def CE(outer:List Env)(P:Program)(w:World)(H:Hp)(s:Shared)(Q:VK)(u:Value)(s':Shared):Prop:=∃v H',s'.os=s.os/\AllBare s'.gens/\Un (Ė outer) [] H H' s.heap s'.heap/\û P w H' s'.heap/\Ñ v u/\Q v H'
def CR(CX:CXT)(outer:List Env)(P:Program)(w:World)(H:Hp)(s:Shared)(Q:VK)(E:XK)(r:Result)(s':Shared):Prop:=match r with|.ok (.ret u)=>CE outer P w H s Q u s'|.ok _=>False|.error e=>CX outer H s E e s'
structure Ê(P:Program)(w:World)(K:Frag)(mg:Ti)(base:Heap)(CX:CXT)(k:Nat)(f:Addr)(fd:FuncData)(ps:ó)(sp:Sp):Prop where
 len:∀vs H Q E,sp vs H Q E->vs.length=ps.length
 run:∀(A:Around)(outer:List Env)(s:Shared)(H:Hp)(args:Args)(us:â)(vs:List V)(Q:VK)(E:XK),à k A->ĺ P w K mg base A outer s H->BindsTo s fd args (ps.zip us)->Î vs us->sp vs H Q E->codeAny (model P w) A (.call (.ref f) args) (CR CX outer P w H s Q E) s
theorem Ê.mono{K:Frag}(F:Ê P w K mg base CX j f fd ps sp)(h:j<=k):Ê P w K mg base CX k f fd ps sp:=⟨F.len,λA outer s H args us vs Q E hr=>F.run A outer s H args us vs Q E (hr.mono h)⟩
theorem Ê.imp{K:Frag}(F:Ê P w K mg base CX k f fd ps sp)(h:∀vs H Q E,sp' vs H Q E->sp vs H Q E):Ê P w K mg base CX k f fd ps sp':=⟨λvs H Q E q=>F.len vs H Q E (h _ _ _ _ q),λA outer s H args us vs Q E hr he hb hv hs=>F.run A outer s H args us vs Q E hr he hb hv (h _ _ _ _ hs)⟩
section
variable{σ:St}
theorem Æ.env0(I:Æ X Â σ H s):ĺ X.prog X.w X.K X.mg X.base X.A X.stack s H:=⟨I.ok.frames,I.ok.mod,I.bs,ε I.ok.bsz I.sz,I.stack,I.stkFree,I.hok,I.bare⟩
theorem Æ.after(I:Æ X Â σ H s)(h:CE X.stack X.prog X.w H s Q u s'):EP X Â σ Q u s':=by obtain⟨v,H',os,bare,un,hok,r,q⟩:=h;obtain⟨hh,g,d,t,Th⟩:=s';obtain rfl:Th=s.os:=os;exact⟨v,H',I.call (h':=hh) (g':=g) (d':=d) (t':=t) (ch:=[]) un hok bare (λb z=>absurd z Ò),r,q⟩
end
def vV(sp:Sp)(tF:List V)(E:XK)(t:TA):TE:=λσ H Q=>t σ H λvs H1=>sp (vs++tF) H1 Q E
def ò(K:Frag)(fd:FuncData)(ps:ó)(ds:â):Prop:=∀(s:Shared)(us:â),K.In s.heap->(us++ds).length=ps.length->BindsTo s fd ⟨us,[]⟩ (ps.zip (us++ds))
theorem ò.all{K:Frag}(h:∀us:â,us.length=ps.length->bindArgs fd ⟨us,[]⟩=pure (ps.zip us)):ò K fd ps []:=λs us _ hl=>by rw[ļ]at hl⊢;exact .of_eq (h us hl)
def uz(CX:CXT)(X:Cx)(E:XK):Prop:=∀(Â:ZX)(σ:St)(H:Hp)(s:Shared)(e:Value)(s':Shared),Æ X Â σ H s->CX X.stack H s E e s'->X.xe e s'
section
variable{p pos apos:Pos}
theorem Ky{σ:St}(F:Ê X.prog X.w X.K X.mg X.base CX k f fd ps sp)(hr:à k X.A)(hb:ò X.K fd ps ds)(hd:Î tF ds)(hx:uz CX X E)(I:Æ X Â σ H s)(r:Î vs us)(h:sp (vs++tF) H Q E):wpAny (model X.prog X.w) X.A (call (.ref f) us) (EP X Â σ Q) X.xe s:=by
 have r2:Î (vs++tF) (us++ds):=r.append hd;have hl:(us++ds).length=ps.length:=by rw[<-r2.length];exact F.len _ _ _ _ h
 refine wpAny_call (codeAny_mono (F.run X.A X.stack s H ⟨us,[]⟩ (us++ds) (vs++tF) Q E hr I.env0 (hb s us I.kIn hl) r2 h) λr s' hq=>?_);cases r with|error e=>exact hx Â σ H s e s' I hq;|ok fl=>cases fl with|ret u=>exact I.after hq;|next=>exact False.elim hq;|brk=>exact False.elim hq;|cont=>exact False.elim hq
abbrev Qa9(X:Cx)(p:Pos)(es:List Expr):Prop:=(backTo p (starEach es X.env)).any (·.1)=false
theorem zq(F:Ê X.prog X.w X.K X.mg X.base CX k f fd ps sp)(hr:à k X.A)(hg:Gl X x)(hm:X.mg x=some (.ref f))(hk:PySem.W.keepIn X.K (.ref f)=true)(hb:ò X.K fd ps ds)(hd:Î tF ds)(hx:uz CX X E)(ha:PA X (e::es) t)(eW:Ţ x:=by decide)(he:Qa8 X e es:=by rfl)(dQ:Qa9 X pos es:=by rfl):PE X (.Call (.Name x p) (e::es) [] pos) (vV sp tF E t):=by intro Â s σ H Q I h;refine wpAny_Call_Name_kw (jO I hg hm ?_ eW);refine PySem.W.callWith_K (h₀:=X.base) I.ok.mod.kin hk (Ú (ha pos Â s σ H _ I h) λus s1⟨vs,H1,I1,r,q⟩=>⟨I1.kIn,?_⟩) he dQ;exact Ky F hr hb hd hx I1 r q
end
section
end
structure Ã(N P:ó)(sc:Scope):Prop where
 kind:sc.kind=.function
 co:sc.isCoroutine=false
 gen:sc.isGenerator=false
 nd:N.Nodup
 pre:N.take P.length=P
 par:∀x∈P,sc.names.lookup x=some .local\/sc.names.lookup x=some .cell
 nofree:∀y∈sc.names,y.2≠.free
theorem sJ{kindOf:Str->Option NameKind}:∀{binds:List (Str×Value)}{m:Ti},(∀v,(x,v)∉binds)->bindL kindOf binds m x=m x
 |[],_,_=>rfl|(n,v)::r,m,h=>by
  unfold bindL;rw[sJ λw hw=>h w (Zai _ hw)];split
  .have:x≠n:=by rintro rfl;exact h v ϫ
   simp[this]
  .rfl
theorem sO{kindOf:Str->Option NameKind}:∀{binds:List (Str×Value)}{m:Ti},(∀v,(x,v)∉binds)->bindC kindOf binds m x=m x
 |[],_,_=>rfl|(n,v)::r,m,h=>by
  unfold bindC;rw[sO λw hw=>h w (Zai _ hw)];split;.rfl
  .have:x≠n:=by rintro rfl;exact h v ϫ
   simp[this]
theorem sS{kindOf:Str->Option NameKind}:∀{P:ó}{vs:â}{i:Nat}{m:Ti},P.Nodup->P[i]?=some x->vs[i]?=some v->kindOf x=some .local->bindL kindOf (P.zip vs) m x=some v|[],_,_,_,_,h,_,_=>by simp at h;|_::_,[],_,_,_,_,h,_=>by simp at h;|p::P,w::vs,0,m,nd,h1,h2,hk=>by simp at h1 h2;subst h1;subst h2;show bindL kindOf ((p,w)::P.zip vs) m p=_;unfold bindL;rw[sJ λv hv=>(Zbf.mp nd).1 (Za6 hv).1,Í hk];simp;|p::P,w::vs,i+1,m,nd,h1,h2,hk=>by show bindL kindOf ((p,w)::P.zip vs) m x=_;unfold bindL;exact sS (i:=i) (Zbf.mp nd).2 (by simpa using h1) (by simpa using h2) hk
theorem sU{kindOf:Str->Option NameKind}:∀{P:ó}{vs:â}{i:Nat}{m:Ti},P.Nodup->P[i]?=some x->vs[i]?=some v->kindOf x≠some .local->bindC kindOf (P.zip vs) m x=some v|[],_,_,_,_,h,_,_=>by simp at h;|_::_,[],_,_,_,_,h,_=>by simp at h;|p::P,w::vs,0,m,nd,h1,h2,hk=>by simp at h1 h2;subst h1;subst h2;show bindC kindOf ((p,w)::P.zip vs) m p=_;unfold bindC;rw[sO λv hv=>(Zbf.mp nd).1 (Za6 hv).1,Ë hk];simp;|p::P,w::vs,i+1,m,nd,h1,h2,hk=>by show bindC kindOf ((p,w)::P.zip vs) m x=_;unfold bindC;exact sU (i:=i) (Zbf.mp nd).2 (by simpa using h1) (by simpa using h2) hk
def start(N:ó)(vs:List V):St:=vs.map some++List.replicate (N.length-vs.length) none
def iT(CX:CXT)(P:Program)(w:World)(K:Frag)(mg:Ti)(base:Heap)(N:ó)(qual:Str)(scope:Scope)(f:Addr)(cd:Value)(A:Around)(outer:List Env)(s:Shared)(H:Hp)(E:XK):Cx where prog:=P;w:=w;K:=K;mg:=mg;base:=base;A:=A.deeper (envOfC qual scope s.heap.objs.size f cd);N:=N;s₀:=s;H₀:=H;env:=envOfC qual scope s.heap.objs.size f cd;outer:=outer;stack:=envOfC qual scope s.heap.objs.size f cd::outer;ex:=[];calm:=true;fn:=λ_=>true;pn:=[];xe:=λe s'=>wpAny (model P w) (A.deeper (envOfC qual scope s.heap.objs.size f cd)) (leaving (envOfC qual scope s.heap.objs.size f cd) e) (λ_ lS=>CX outer H s E e lS) (λe' lS=>CX outer H s E e' lS) s'
theorem vW{sc:Scope}(h:sc.names.lookup x=some .cell):∃c,(cellsFrom n sc.names []).lookup x=some c:=by have q:=PySem.W.cellsFrom_some sc.names n [] (.inl h);exact Zay.mp q
theorem sV{K:Frag}(S:Ã N ps scope)(hd:A.handled=none)(e0:ĺ P w K mg base A outer s H)(hl:vs.length=ps.length)(r:Î vs us)(x:InCallC s s.heap.objs.size (bindL (envOfC qual scope s.heap.objs.size f cd).kindOf (ps.zip us) λ_=>none) (cellsFrom (s.heap.objs.size+1) scope.names []) (bindC (envOfC qual scope s.heap.objs.size f cd).kindOf (ps.zip us) λ_=>none) s1):Æ (iT CX P w K mg base N qual scope f cd A outer s H E) [] (start N vs) H s1:=by
 have dQ:ps.length<=N.length:=by have:=congrArg List.length S.pre;rw[İ]at this;lia
 obtain⟨h1,tk,rfl,hk⟩:=x.done;have Cc:∀b:Addr,b∉(iT CX P w K mg base N qual scope f cd A outer s H E).ex:=λb z=>absurd (show b∈([]:ă)from z) Ò;refine⟨⟨e0.mod,S.kind,rfl,rfl,Ø _,λy z c h1 h2=>?_,λy hy=>?_,λy c _ h=>?_,λ_=>hd,Around.frames_deeper e0.frames,.inr ⟨rfl,rfl⟩,λb z=>absurd z (Cc b),e0.bs,e0.bsz,λb _ _=>Cc b,λb z=>absurd z (Cc b),e0.funs,e0.frf⟩,rfl,e0.bare,Un.kept hk,⟨_,x.toInCall.ns,λi y v h1 h2 h3=>?_⟩,λy c h=>⟨_,x.cell y c h⟩,e0.hok.fresh (Ø _),λy c h=>?_,λp hp=>absurd (show p∈([]:ZX)from hp) Ò,e0.hok.kept hk,?_⟩;.exact name_of_addr x.apart (PySem.mem_of_lookup h1) (PySem.mem_of_lookup h2)
 .have hy:scope.names.lookup y=some .cell\/scope.names.lookup y=some .free:=hy;rcases hy with hy|hy;.exact vW hy
  .exact absurd rfl (S.nofree _ (PySem.mem_of_lookup hy))
 .exact Zbd (x.above y c (PySem.mem_of_lookup h))
 .have hi:i<vs.length:=by
   unfold start at h2;by_cases hi:i<vs.length;.exact hi
   .rw[zB9 (by simpa using hi)]at h2;rw[List.getElem?_replicate]at h2;split at h2<;>cases h2
  have ha:vs[i]?=some v:=by unfold start at h2;rw[zBa (by simpa using hi),ģ]at h2;cases e:vs[i]? with|none=>rw[e]at h2;cases h2;|some a=>rw[e]at h2;cases h2;rfl
  obtain⟨u,hu,rv⟩:=r.get ha;have hp:ps[i]?=some y:=by rw[<-S.pre,List.getElem?_take_of_lt À];exact h1
  have OA:ps.Nodup:=by rw[<-S.pre];exact S.nd.sublist (Zav _ _)
  refine⟨u,rv,?_⟩;rcases S.par y (Ŋ hp)with k|k;.exact .inl ⟨k,sS OA hp hu k⟩
  .obtain⟨c,e⟩:=vW (n:=s.heap.objs.size+1) k;refine .inr ⟨.inl k,c,e,?_⟩;have q:=x.cell y c e;rw[sU OA hp hu (by show scope.names.lookup y≠_;rw[k];decide)]at q;exact q
 .exact e0.hok.fresh (Zbd (x.above y c (PySem.mem_of_lookup h)))
 .unfold start;show _=N.length;rw[ý,Ý,Za7];lia
theorem DN{K:Frag}{name qual:Str}{params:Arguments}{body:List Stmt}{scope:Scope}{dV kV doc pm cdv ct oc:Value}{an od:Option Addr}{lT:Array (Φ)}{N ps:ó}{sp:Sp}(lk:K.lookup f=some ⟨oc,od,.func (PySem.W.fnOf name qual params body scope dV kV doc pm an cdv ct),lT⟩)(eR:PySem.W.codeIn K cdv qual=true)(S:Ã N ps scope)(len:∀vs H Q E,sp vs H Q E->vs.length=ps.length)(ar:∀(A:Around)(outer:List Env)(s:Shared)(H:Hp)(vs:List V)(Q:VK)(E:XK),à k (A.deeper (envOfC qual scope s.heap.objs.size f cdv))->sp vs H Q E->∃t,Ķ (iT CX P w K mg base N qual scope f cdv A outer s H E) body t/\t {nx:=λ_ H'=>Q .non H',rt:=Q} (start N vs) H):Ê P w K mg base CX (k+1) f (PySem.W.fnOf name qual params body scope dV kV doc pm an cdv ct) ps sp:=by
 refine⟨len,λA outer s H args us vs Q E hr e0 hb r iF=>?_⟩;have hl:=len _ _ _ _ iF;have KX:K.In s.heap:=e0.mod.kin.keeps λb o e=>(e0.bs b o e).1;have lim:s.heap.NoLimit:=e0.mod.nolimit.keeps λb o e=>(e0.bs b o e).1;have nr:∀y∈ps.zip us,scope.names.lookup y.1=some .local\/(scope.names.lookup y.1=some .cell/\((cellsFrom (s.heap.objs.size+1) scope.names []).lookup y.1).isSome=true):=λ⟨n,v⟩hy=>by
  rcases S.par n (Za6 hy).1 with q|q;.exact .inl q
  .exact .inr ⟨q,PySem.W.cellsFrom_some _ _ _ (.inl q)⟩
 refine codeAny_call_function hr.depth (KX _ _ lk) rfl S.co S.gen rfl (PySem.W.codeRec_of KX eR) (hb _ _ _ _ ?_);refine wpAny_newFunctionEnv_cells S.kind nr λenv he s1 x=>?_;subst he;refine⟨lim.keeps x.toInCall.keep,codeAny_func ?_⟩;obtain⟨t,ht,hq⟩:=ar A outer s H vs Q E (hr.deeper _) iF;have I:Æ (iT CX P w K mg base N qual scope f cdv A outer s H E) [] (start N vs) H s1:=sV S hr.hd e0 hl r x;refine wpAny_mono (ht [] s1 (start N vs) H _ I hq) (λfl s' hs=>?_) λe s' hs=>hs;have fin:∀{ah:St}{H':Hp}{v:V}{u:Value},Æ (iT CX P w K mg base N qual scope f cdv A outer s H E) [] ah H' s'->Ñ v u->Q v H'->CE outer P w H s Q u s':=λ{ah H' v u}J rv q=>⟨v,H',J.os,J.bare,J.base,J.hok,rv,q⟩;cases fl with|ret u=>obtain⟨v,ah,H',J,rv,q⟩:=hs;exact fin J rv q;|next=>obtain⟨ah,H',J,q⟩:=hs;exact fin (v:=V.non) (u:=Value.none) J rfl q;|brk=>obtain⟨_,_,_,q⟩:=hs;exact False.elim q;|cont=>obtain⟨_,_,_,q⟩:=hs;exact False.elim q
section
variable{p pos:Pos}{id T:String}{r:List V->Hp->VK->Prop}
def tCB(r:List V->Hp->VK->Prop)(t:TA):TE:=λσ H Q=>t σ H λvs H1=>r vs H1 Q
theorem aK(hc:dH X (.builtin id) r)(hg:Gl X x)(hm:X.mg x=none)(hv:bootBuiltins x=some (.builtin id))(ha:PA X (e::es) t)(hn:x≠"__name__":=by decide)(eW:Ţ x:=by decide)(he:Qa8 X e es:=by rfl)(dQ:Qa9 X pos es:=by rfl):PE X (.Call (.Name x p) (e::es) [] pos) (tCB r t):=by intro Â s σ H Q I h;refine wpAny_Call_Name_kw (jd I hg hm hv ?_ hn eW);exact PyProof.Rows.callWith_builtin1 (Ú (ha pos Â s σ H _ I h) λus s1=>by rintro⟨vs,H1,I1,r1,q1⟩;exact hc Â s1 σ H1 vs us Q I1 r1 q1) he dQ
theorem cH(hc:dH X (.type T) r)(hg:Gl X x)(hm:X.mg x=none)(hv:bootBuiltins x=some (.type T))(ha:PA X (e::es) t)(hn:x≠"__name__":=by decide)(eW:Ţ x:=by decide)(he:Qa8 X e es:=by rfl)(dQ:Qa9 X pos es:=by rfl):PE X (.Call (.Name x p) (e::es) [] pos) (tCB r t):=by intro Â s σ H Q I h;refine wpAny_Call_Name_kw (jd I hg hm hv ?_ hn eW);exact PyProof.Rows.callWith_type1 (Ú (ha pos Â s σ H _ I h) λus s1=>by rintro⟨vs,H1,I1,r1,q1⟩;exact hc Â s1 σ H1 vs us Q I1 r1 q1) he dQ
end
end L2
namespace HT
open PySem PyProof.Rows
def lexLt:VV->VV->Bool|[],[]=>false|[],_::_=>true|_::_,[]=>false|x::xs,y::ys=>if x=y then lexLt xs ys else decide (x<y)
theorem lexLt_cons(x y:Int)(xs ys:VV):lexLt (x::xs) (y::ys)=if x=y then lexLt xs ys else decide (x<y):=rfl
section
open PySem.SeqAt
open PySem.AutoSeq1 (wpAny_loadPart')
open PySem.MeetsSeq PySem.MeetsSeq2 PySem.MeetsSeq3
end
section
theorem cat_tup(ht:IsTup s.heap t vs.toArray)(hb:IsTup s.heap b ws.toArray)(hv:vs≠[])(h1:ws=[]->Q (.ref t) s)(h2:ws≠[]->Q (.ref s.heap.objs.size) {s with heap:=s.heap.push {cls:=.type "tuple",data:=.seq (vs++ws).toArray}})(hsz:vs.length+ws.length<=sizeLine):wpAny (model prog w) A (binaryOp .Add (.ref t) (.ref b)) Q E s:=by
 obtain⟨⟨cls,dd,data,sl⟩,ho,hc,n,hd⟩:=id ht;obtain⟨⟨IE,nv,data2,kN⟩,wc,we,n2,hd2⟩:=id hb;simp only at hc hd we hd2;subst hc hd we hd2;have e:vs.toArray++ws.toArray=(vs++ws).toArray:=by simp
 by_cases hw:ws=[];.exact concat_meets ⟨_,ho,rfl⟩ ⟨_,wc,rfl⟩ noFill_tuple_add seq_tuple_add PySem.F.slot_tuple_add PySem.F.entry_tuple_add (PySem.F.args_tuple_add_2 _ _) (tuple_addW1 t b vs.toArray ws.toArray n n2 dd nv sl kN (by simpa using hv) (by simp[hw])) ⟨ho,wc,h1 hw⟩
 .refine concat_meets ⟨_,ho,rfl⟩ ⟨_,wc,rfl⟩ noFill_tuple_add seq_tuple_add PySem.F.slot_tuple_add PySem.F.entry_tuple_add (PySem.F.args_tuple_add_2 _ _) (tuple_addW2 t b vs.toArray ws.toArray n n2 dd nv sl kN (by simpa using hv) (by simpa using hw) (by rw[ć];exact hsz)) ⟨ho,wc,?_⟩;rw[e];exact h2 hw
def sIx(n d:Nat):Option Int->Nat|none=>d|some v=>if v<0 then(v+(n:Int)).toNat else min v.toNat n
theorem sIx_none(n d:Nat):sIx n d none=d:=rfl
theorem sIx_nat(n d k:Nat):sIx n d (some (k:Int))=min k n:=by rfl
theorem Kz(n d:Nat)(hd:d<=n)(o:Option Int):sIx n d o<=n:=by cases o with|none=>exact hd;|some v=>
  show(if v<0 then(v+(n:Int)).toNat else min v.toNat n)<=n;by_cases hv:v<0;.rw[Í hv];lia
  .rw[Ë hv];exact Nat.min_le_right _ _
theorem pG(v:Int)(n d:Nat):(if v<0 then max (v+(n:Int)) 0 else min v (n:Int))=((sIx n d (some v):Nat):Int):=by
 show(if v<0 then max (v+(n:Int)) 0 else min v (n:Int))=(((if v<0 then(v+(n:Int)).toNat else min v.toNat n):Nat):Int);by_cases hv:v<0;.simp only[if_pos hv];simp
 .simp only[if_neg hv];grind
theorem yw(lo hi:Option Int)(n:Nat):Builtin.Slice.sliceAdjust lo hi 1 (n:Int)=(((sIx n 0 lo:Nat):Int),((sIx n n hi:Nat):Int)):=by
 refine Prod.ext ?_ ?_;.cases lo with|none=>rfl;|some v=>exact pG v n 0
 .cases hi with|none=>rfl;|some v=>exact pG v n n
theorem yx(i j:Nat):Builtin.Slice.slicePlaces (i:Int) (j:Int) 1=j-i:=by unfold Builtin.Slice.slicePlaces;split<;>omega
theorem qb(p:IsPart v o)(h:Q o s):wpAny (model prog w) A (Builtin.Slice.slicePartIndex v) Q E s:=by cases p with|none=>exact slicePart_none h;|int i t=>exact slicePart_int h
theorem iU{lo hi:Option Int}{Q:Int×Int×Nat->Shared->Prop}(hs:s.heap.IsSliceOf sl vl vu .none)(pl:IsPart vl lo)(pu:IsPart vu hi)(h:Q (((sIx n 0 lo:Nat):Int),1,sIx n n hi-sIx n 0 lo) s):wpAny (model prog w) A (Builtin.Slice.sliceApplied (.ref sl) (pure (n:Int))) Q E s:=by obtain⟨os,l9,iL,rh⟩:=id hs;unfold Builtin.Slice.sliceApplied Builtin.Slice.sliceFields;refine Ä (Ä (wpAny_field l9 rh (x:=vl) rfl (Ä (wpAny_field l9 rh (x:=vu) rfl (Ä (wpAny_field l9 rh (x:=.none) rfl (Ó ?_)))))));refine Ä (slicePart_none ?_);show wpAny _ _ (if((1:Int)==0)=true then _ else _) _ _ s;rw[Ë Ù];refine Ä (qb pl (Ä (qb pu (Ä (Ó ?_)))));show wpAny _ _ (match Builtin.Slice.sliceAdjust lo hi 1 (n:Int)with|(lo,hi)=>pure (lo,(1:Int),Builtin.Slice.slicePlaces lo hi 1)) _ _ s;rw[yw lo hi n];show wpAny _ _ (pure (((sIx n 0 lo:Nat):Int),(1:Int),Builtin.Slice.slicePlaces ((sIx n 0 lo:Nat):Int) ((sIx n n hi:Nat):Int) 1)) _ _ s;rw[yx];exact Ó h
theorem vX(xs:ĵ)(i k:Nat):((List.range k).filterMap λ(m:Nat)=>xs[((i:Int)+(m:Int)*1).toNat]?).toArray=((xs.toList.drop i).take k).toArray:=by
 have e:(λ(m:Nat)=>xs[((i:Int)+(m:Int)*1).toNat]?)=λm=>xs[i+m]?:=by grind
 rw[e];have:=pick_run xs i k;rw[List.filterMap_map]at this;have e2:((λx=>xs[x]?)∘λx=>i+x)=λm=>xs[i+m]?:=rfl;rw[e2]at this;rw[this]
theorem getItem_tuple_cut{lo hi:Option Int}(ht:IsTup s.heap t items)(hs:s.heap.IsSliceOf sl vl vu .none)(pl:IsPart vl lo)(pu:IsPart vu hi)(hw:¬(sIx items.size 0 lo=0/\sIx items.size items.size hi=items.size))(h:Q (.ref s.heap.objs.size) {s with heap:=s.heap.push {cls:=.type "tuple",data:=.seq ((items.toList.drop (sIx items.size 0 lo)).take (sIx items.size items.size hi-sIx items.size 0 lo)).toArray}})(hsz:items.size<=sizeLine):wpAny (model prog w) A (getItem (.ref t) (.ref sl)) Q E s:=by
 have cw:sizeOk (.seq ((items.toList.drop (sIx items.size 0 lo)).take (sIx items.size items.size hi-sIx items.size 0 lo)).toArray):=by show((items.toList.drop (sIx items.size 0 lo)).take (sIx items.size items.size hi-sIx items.size 0 lo)).toArray.size<=sizeLine;rw[ć,İ,Zat,Ě];omega
 have hj:sIx items.size items.size hi<=items.size:=Kz _ _ (Ø _) hi;obtain⟨os,l9,iL,rh⟩:=id hs;have Cf:s.TypeIs (.ref sl) "slice":=⟨os,l9,iL⟩;unfold getItem;try with_reducible refine wpAny_holding ?_
 first|refine Ä (Ó ?_)|skip
 refine Ä (wpAny_sequenceKey ht.typeIs Ù ?_);refine Ä (wpAny_callSpecial?_slot (name:=Str.ofString "__getitem__") ht.typeIs PyProof.Rows.slot_tuple_getitem (wpAny_call_entry PyProof.Rows.slot_tuple_getitem ht.typeIs entry_tuple_getitem ?_ (args_tuple_getitem _ _)));show wpAny _ _ (Builtin.Tuple.tupleItemsOf (.ref t)>>=_) _ _ s;refine Ä (tupleItemsOf_ ht ?_);refine Ä (wpAny_typeOf Cf ?_);rw[Í Ù];refine Ä (iU hs pl pu ?_);have IF:¬((((sIx items.size 0 lo:Nat):Int)==0&&(1:Int)==1&&(sIx items.size items.size hi-sIx items.size 0 lo)==items.size)=true):=by intro q;rw[ą,ą]at q;have q1:((sIx items.size 0 lo:Nat):Int)=0:=eq_of_beq q.1.1;have q2:sIx items.size items.size hi-sIx items.size 0 lo=items.size:=eq_of_beq q.2;exact hw ⟨À,(by grind)⟩
 show wpAny _ _ (if(((sIx items.size 0 lo:Nat):Int)==0&&(1:Int)==1&&(sIx items.size items.size hi-sIx items.size 0 lo)==items.size)=true then _ else _) _ _ s;rw[Ë IF,vX];first|exact Ä (m:=Builtin.Tuple.tupleExact _) (Κ (Ó ⟨_,rfl,Ó h⟩) cw);|exact Ä (m:=Builtin.Tuple.tupleExact _) (Κ (Ä (Ó (Ó ⟨_,rfl,Ó h⟩))) cw);|exact Ä (Ä (m:=Builtin.Tuple.tupleExact _) (Κ (Ó (Ó ⟨_,rfl,Ó h⟩)) cw));|exact Ä (Ä (m:=Builtin.Tuple.tupleExact _) (Κ (Ó ⟨_,rfl,Ó h⟩) cw))
end
end HT
namespace L2
open PySem PySem.Spec PyProof.Rows
abbrev TO:=St->Hp->(Option Int->Hp->Prop)->Prop
def PO(X:Cx)(e:Option Expr)(t:TO):Prop:=∀(Â:ZX)(s:Shared)(σ:St)(H:Hp)(Q:Option Int->Hp->Prop),Æ X Â σ H s->t σ H Q->wpAny (model X.prog X.w) X.A (evalPart e X.env) (λu s'=>∃o H',Æ X Â σ H' s'/\IsPart u o/\Q o H') X.xe s
def zr:TO:=λ_ H Q=>Q none H
def sW(t:TE):TO:=λσ H Q=>t σ H λx H1=>∃i,x=.int i/\Q (some i) H1
theorem ń{ns:VV}:∀{us:â},Î (ns.map V.int) us->IntsAre us ns:=by induction ns with|nil=>intro us r;rw[List.map_nil]at r;cases r;exact .nil;|cons n ns ih=>intro us r;cases r with|cons r1 r2=>obtain⟨t,e⟩:=r1;subst e;exact .cons n t (ih r2)
section
variable{lo hi:Option Expr}
theorem cU:PO X none zr:=by intro Â s σ H Q I h;exact Ó ⟨none,H,I,.none,h⟩
theorem cV(h:PE X e te):PO X (some e) (sW te):=by intro Â s σ H Q I hw;refine Ú (h Â s σ H _ I hw) λu s1=>?_;rintro⟨x,H1,I1,r1,q1⟩;obtain⟨i,rfl,q⟩:=q1;obtain⟨t,rfl⟩:=r1;exact⟨some i,H1,I1,.int i t,q⟩
def SlR(X:Cx)(r:V->Option Int->Option Int->Hp->VK->Prop):Prop:=∀(Â:ZX)(s:Shared)(σ:St)(H:Hp)(x:V)(v vl vu:Value)(lo hi:Option Int)(sl:Addr)(Q:VK),Æ X Â σ H s->Ñ x v->s.heap.IsSliceOf sl vl vu .none->IsPart vl lo->IsPart vu hi->r x lo hi H Q->∃T id,typeLookup (.type T) "__getitem__"=pure (some (.builtin id))/\s.TypeIs v T/\wpAny (model X.prog X.w) X.A (getItem v (.ref sl)) (EP X Â σ Q) X.xe s
def tSl(r:V->Option Int->Option Int->Hp->VK->Prop)(te:TE)(tl th:TO):TE:=λσ H Q=>te σ H λx H1=>tl σ H1 λl H2=>th σ H2 λu H3=>r x l u H3 Q
theorem cz(hr:SlR X r)(he:PE X e te)(hl:PO X lo tl)(hu:PO X hi th):PE X (.Subscript e (.Slice lo hi none p2) pos) (tSl r te tl th):=by intro Â s σ H Q I h;refine Subscript_ (Ú (he Â s σ H _ I h) λv s1=>?_);rintro⟨x,H1,I1,r1,q1⟩;refine wpAny_Slice (Ú (hl Â s1 σ H1 _ I1 q1) λvl s2⟨l,H2,I2,pl,q2⟩=>Ú (hu Â s2 σ H2 _ I2 q2) λvu s3=>?_);rintro⟨u,H3,I3,pu,q3⟩;refine Ó ?_;have I4:Æ X Â σ H3 {s3 with heap:=s3.heap.push {cls:=.type "slice",data:=.fields #[vl,vu,.none]}}:=I3.kept (t':=s3.toks) λb ob q=>ë _ q;obtain⟨T,id,hT,ht,hg⟩:=hr Â {s3 with heap:=s3.heap.push {cls:=.type "slice",data:=.fields #[vl,vu,.none]}} σ H3 x v vl vu l u s3.heap.objs.size Q I4 r1 (Heap.IsSliceOf.new ..) pl pu q3;exact tail_any (ops:=[.ref s3.heap.objs.size,v]) ht hT hg (by with_unfolding_all rfl)
def jx(xs:List V)(lo hi:Option Int):List V:=(xs.drop (HT.sIx xs.length 0 lo)).take (HT.sIx xs.length xs.length hi-HT.sIx xs.length 0 lo)
theorem gn(xs:List V)(lo hi:Option Int):(jx xs lo hi).length<=xs.length:=by unfold jx;rw[İ,Zat];lia
inductive Z09(K:Frag)(x:V)(lo:Option Int)(hi:Option Int)(H:Hp)(Q:VK):Prop|mk:∀a xs,(x=.ref a)->(Ì K H a xs)->(¬(HT.sIx xs.length 0 lo=0/\HT.sIx xs.length xs.length hi=xs.length))->(∀p,H p=none->Q (.ref p) (upd H p (.tup (jx xs lo hi))))->Z09 K x lo hi H Q
def Pz(K:Frag):V->Option Int->Option Int->Hp->VK->Prop:=λx lo hi H Q=>Z09 K x lo hi H Q
theorem KC:SlR X (Pz X.K):=by
 intro Â s σ H x v vl vu lo hi sl Q I rx hs pl pu h;obtain⟨a,xs,rfl,hx,hw,q⟩:=h;cases rx;obtain⟨its,r,ht,hz⟩:=I.tuple hx;have hlen:its.toArray.size=xs.length:=by rw[ć];exact r.length.symm
 refine⟨"tuple",_,PyProof.Rows.slot_tuple_getitem.lookup,ht.typeIs,?_⟩;refine HT.getItem_tuple_cut ht hs pl pu (by rw[hlen];exact hw) ?_ (by rw[hlen];exact hz);rw[hlen];refine⟨.ref s.heap.objs.size,_,I.laid (t':=s.toks) (o:=.tup (jx xs lo hi)) (λb ob q=>ë _ q) (Ø _) ?_,rfl,q _ (I.hok.fresh (Ø _))⟩;exact⟨ε (gn xs lo hi) hz,_,(r.drop (HT.sIx xs.length 0 lo)).take (HT.sIx xs.length xs.length hi-HT.sIx xs.length 0 lo),IsTup.new _ _⟩
inductive ϴ(K:Frag)(x:V)(y:V)(H:Hp)(Q:VK):Prop|mk:∀a b xs ys,(x=.ref a)->(y=.ref b)->(Ì K H a xs)->(Ì K H b ys)->(xs≠[])->(xs.length+ys.length<=sizeLine)->((ys=[]->Q (.ref a) H))->((ys≠[]->∀p,H p=none->Q (.ref p) (upd H p (.tup (xs++ys)))))->ϴ K x y H Q
def Ng(K:Frag):R2:=λx y H Q=>ϴ K x y H Q
theorem Î.nil_iff(r:Î xs us):us=[]↔xs=[]:=by cases r with|nil=>simp;|cons _ _=>simp
theorem zu:Ċ X (binaryOp .Add) (Ng X.K):=by intro Â s σ H x y v u Q I rx ry h;obtain⟨a,b,xs,ys,rfl,rfl,ha,hb,hx,hz,q1,q2⟩:=h;cases rx;cases ry;obtain⟨its,r1,p1,_⟩:=I.tuple ha;obtain⟨aS,r2,p2,_⟩:=I.tuple hb;refine HT.cat_tup p1 p2 (λz=>hx (r1.nil_iff.mp z)) (λz=>⟨.ref a,H,I,rfl,q1 (r2.nil_iff.mp z)⟩) (λz=>?_) (by rw[<-r1.length,<-r2.length];exact hz);refine⟨.ref s.heap.objs.size,_,I.laid (t':=s.toks) (o:=.tup (xs++ys)) (λb ob q=>ë _ q) (Ø _) ?_,rfl,q2 (λw=>z (r2.nil_iff.mpr w)) _ (I.hok.fresh (Ø _))⟩;exact⟨by rw[ý];exact hz,_,r1.append r2,IsTup.new _ _⟩
end
def ϒ(n:Nat)(i:Int):Option Nat:=if 0<=i then(if i<n then some i.toNat else none)else if-(n:Int)<=i then some (i+n).toNat else none
def ů{α:Type}(xs:List α)(i:Int):Option α:=(ϒ xs.length i).bind λj=>xs[j]?
theorem zF(h:ϒ n i=some j):seqIndex? i n=some j/\j<n/\-(n:Int)<=i/\i<n:=by
 unfold ϒ at h;by_cases h0:0<=i
 .rw[Í h0]at h;by_cases h1:i<n;.rw[Í h1]at h;have e:i.toNat=j:=ĭ h;exact⟨by rw[seqIndex_of h0 h1,e],z03,À,h1⟩
  .rw[Ë h1]at h;cases h
 .rw[Ë h0]at h;by_cases h1:-(n:Int)<=i;.rw[Í h1]at h;have e:(i+n).toNat=j:=ĭ h;exact⟨by rw[seqIndex_neg z03 h1,e],(by grind),h1,z03⟩
  .rw[Ë h1]at h;cases h
theorem zG{v:α}(h:ů xs i=some v):∃j,seqIndex? i xs.length=some j/\xs[j]?=some v/\j<xs.length/\-(xs.length:Int)<=i/\i<xs.length:=by unfold ů at h;cases e:ϒ xs.length i with|none=>rw[e]at h;cases h;|some j=>rw[e]at h;obtain⟨h1,h2,h3,h4⟩:=zF e;exact⟨j,h1,h,h2,h3,h4⟩
theorem dD{j:Nat}{v:α}(h:xs[j]?=some v):ů xs (j:Int)=some v:=by
 have hj:j<xs.length:=(ġ.mp h).1;have e:ϒ xs.length (j:Int)=some j:=by unfold ϒ;rw[Í Ò,Í À];simp
 unfold ů;rw[e];exact h
def uA(b:Expr):Prop:=∀o i,subscripted b false o i=operate [o,i] (getItem o i)
def IxR(X:Cx)(r:R2):Prop:=∀(value slice:Expr)(Â:ZX)(s:Shared)(σ:St)(H:Hp)(x y:V)(v u:Value)(Q:VK),Æ X Â σ H s->Ñ x v->Ñ y u->r x y H Q->subscripted slice false v u=operate [v,u] (getItem v u)->wpAny (model X.prog X.w) X.A (subscriptTail value slice v u) (EP X Â σ Q) X.xe s
def MtR(X:Cx)(id:String)(r:V->List V->Hp->VK->Prop):Prop:=∀(Â:ZX)(s:Shared)(σ:St)(H:Hp)(x:V)(xs:List V)(v:Value)(us:â)(Q:VK),Æ X Â σ H s->Ñ x v->Î xs us->r x xs H Q->wpAny (model X.prog X.w) X.A (call (.builtin id) (v::us)) (EP X Â σ Q) X.xe s
section
variable{ta tb:TE}
theorem JV(hr:IxR X r)(ha:PE X a ta)(hb:PE X b tb)(hs:uA b):PE X (.Subscript a b pos) (Į r ta tb):=by intro Â s σ H Q I h;exact Subscript_ (Kw ha hb I h λv u s2 x y H2 I2 rx ry q=>hr a b Â s2 σ H2 x y v u Q I2 rx ry q (hs _ _))
inductive Z0d(K:Frag)(x:V)(y:V)(H:Hp)(Q:VK):Prop|mk:∀p xs i v,(x=.ref p)->(y=.int i)->(Ï K H p xs)->(ů xs i=some v)->(Q v H)->Z0d K x y H Q
def KD(K:Frag):R2:=λx y H Q=>Z0d K x y H Q
inductive Z0c(K:Frag)(x:V)(y:V)(H:Hp)(Q:VK):Prop|mk:∀p xs i v,(x=.ref p)->(y=.int i)->(Ì K H p xs)->(ů xs i=some v)->(Q v H)->Z0c K x y H Q
def KH(K:Frag):R2:=λx y H Q=>Z0c K x y H Q
theorem bM:IxR X (KD X.K):=by
 intro value slice Â s σ H x y v u Q I rx ry h hs;obtain⟨p,xs,i,z,rfl,rfl,hq,he,q⟩:=h;cases rx;obtain⟨t,rfl⟩:=ry;obtain⟨its,r,pl,hz⟩:=I.list hq;obtain⟨j,h1,h2,h3,h4,h5⟩:=zG he;obtain⟨w,ew,iE⟩:=r.get h2;have hl:=r.length;have hn:=pZ;have fin:EP X Â σ Q w s:=⟨z,H,I,iE,q⟩;by_cases h0:0<=i
 .have hj:i.toNat=j:=by rw[seqIndex_of h0 h5]at h1;exact ĭ h1
  exact item_listR pl.isList h0 À (by rw[hj];simpa using ew) fin hs
 .have hj:(i+(its.toArray.size:Int)).toNat=j:=by rw[seqIndex_neg z03 h4]at h1;rw[ć,<-hl];exact ĭ h1
  exact subscriptTail_builtinR (x:=w) pl.isList.typeIs slot_list_getitem.lookup (wpAny_getItem_list_neg (Q:=λr s'=>r=w/\EP X Â σ Q r s') pl.isList À (by rw[ć]<;>omega) z03 (by rw[hj];simpa using ew) ⟨rfl,fin⟩) hs
theorem bu:IxR X (KH X.K):=by intro value slice Â s σ H x y v u Q I rx ry h hs;obtain⟨p,xs,i,z,rfl,rfl,hq,he,q⟩:=h;cases rx;obtain⟨t,rfl⟩:=ry;obtain⟨its,r,pl,hz⟩:=I.tuple hq;obtain⟨j,h1,h2,h3,h4,h5⟩:=zG he;obtain⟨w,ew,iE⟩:=r.get h2;have hl:=r.length;have hn:=pZ;have fin:EP X Â σ Q w s:=⟨z,H,I,iE,q⟩;exact subscriptTail_builtinR (x:=w) pl.typeIs slot_tuple_getitem.lookup (getItem_tuple (j:=j) (Q:=λr s'=>r=w/\EP X Â σ Q r s') pl À z03 (by rw[ć,<-hl];exact h1) (by simpa using ew) ⟨rfl,fin⟩) hs
theorem yz(its:â)(n j:Nat)(u:Value):Obj.mapSeq (·.setIfInBounds j u) {cls:=.type "list",data:=.seq its.toArray n}={cls:=.type "list",data:=.seq (its.set j u).toArray n}:=by simp[Obj.mapSeq]
theorem Æ.lst{σ:St}(I:Æ X Â σ H s)(h:H p=some (.lst xs)):∃(its:â)(n:Nat),Î xs its/\s.heap.get? p=some {cls:=.type "list",data:=.seq its.toArray n}/\xs.length<=sizeLine:=by obtain⟨z,its,n,r,e⟩:=I.hok p _ h;exact⟨its,n,r,e,z⟩
theorem Æ.lstUpd{σ:St}{its its':â}{n n':Nat}{f:Obj->Obj}(I:Æ X Â σ H s)(h:H p=some (.lst xs))(ho:s.heap.get? p=some {cls:=.type "list",data:=.seq its.toArray n})(hf:f {cls:=.type "list",data:=.seq its.toArray n}={cls:=.type "list",data:=.seq its'.toArray n'})(r:Î ys its')(hz:ys.length<=sizeLine)(t:Nat):Æ X Â σ (upd H p (.lst ys)) {s with heap:=s.heap.update p f,toks:=t}:=by
 have e:(s.heap.update p f).get? p=some {cls:=.type "list",data:=.seq its'.toArray n'}:=by rw[Heap.get?_update_self f ho (by rw[hf]<;>rfl),hf]
 refine I.write (x:=p) (e:=p) (by rw[h];trivial) (.inl rfl) (λb u hb q=>(Heap.get?_update_other _ _ (Ne.symm hb)).trans q) ⟨_,e⟩ ?_;exact⟨hz,its',n',r,e⟩
inductive ϰ(o:V)(i:V)(v:V)(H:Hp)(Q:Hp->Prop):Prop|mk:∀p xs k j,(o=.ref p)->(i=.int k)->(H p=some (.lst xs))->(ϒ xs.length k=some j)->(Q (upd H p (.lst (xs.set j v))))->ϰ  o i v H Q
def Nh:V->V->V->Hp->(Hp->Prop)->Prop:=λo i v H Q=>ϰ  o i v H Q
theorem æ:Ku X Nh:=by
 intro Â s σ H o i v ov iv u Q I ro ri rv h;obtain⟨p,xs,k,j,rfl,rfl,hp,hj,q⟩:=h;cases ro;obtain⟨t,rfl⟩:=ri;obtain⟨its,n,r,ho,hz⟩:=I.lst hp;obtain⟨h1,h2,h3,h4⟩:=zF hj;have hl:=r.length;have hn:=pZ;have I':Æ X Â σ (upd H p (.lst (xs.set j v))) {s with heap:=s.heap.update p (Obj.mapSeq (·.setIfInBounds j u))}:=I.lstUpd hp ho (yz its n j u) (r.set rv j) (by rw[Za2];exact hz) s.toks;by_cases h0:0<=k
 .have hk:k.toNat=j:=by rw[seqIndex_of h0 h4]at h1;exact ĭ h1
  exact PySem.W.ki_setAt ho h0 À (by rw[ć,<-hl];exact h4) (by rw[hk];exact⟨_,I',q⟩)
 .have hk:(k+(its.toArray.size:Int)).toNat=j:=by rw[seqIndex_neg À h3]at h1;rw[ć,<-hl];exact ĭ h1
  exact PySem.W.ki_setBack ho À (by rw[ć,<-hl];exact h3) À (by rw[hk];exact⟨_,I',q⟩)
theorem uB(lo hi:Option Int)(n:Nat):(sliceBounds lo hi none n).1=((HT.sIx n 0 lo:Nat):Int)/\(sliceBounds lo hi none n).2.1=((HT.sIx n n hi:Nat):Int)/\(sliceBounds lo hi none n).2.2=1:=by
 refine⟨?_,?_,rfl⟩;.cases lo with|none=>simp[sliceBounds,HT.sIx];|some i=>
   simp only[sliceBounds,HT.sIx,Option.getD_none,show(1:Int)>0 by decide,if_true];by_cases h:i<0;.simp only[h,if_true]<;>grind
   .simp only[h,if_false]<;>grind
 .cases hi with|none=>simp[sliceBounds,HT.sIx];|some i=>
   simp only[sliceBounds,HT.sIx,Option.getD_none,show(1:Int)>0 by decide,if_true];by_cases h:i<0;.simp only[h,if_true]<;>lia
   .simp only[h,if_false]<;>grind
theorem rG(its:â)(lo hi:Option Int):slicePick its.toArray lo hi none=((its.drop (HT.sIx its.length 0 lo)).take (HT.sIx its.length its.length hi-HT.sIx its.length 0 lo)).toArray:=by obtain⟨h1,h2,h3⟩:=uB lo hi its.toArray.size;unfold slicePick;rw[h1,h2,h3];simp only[sliceRange_one,pick_run]<;>rfl
inductive Z0a(K:Frag)(x:V)(lo:Option Int)(hi:Option Int)(H:Hp)(Q:VK):Prop|mk:∀a xs,(x=.ref a)->(Ï K H a xs)->(∀p,H p=none->Q (.ref p) (upd H p (.lst (jx xs lo hi))))->Z0a K x lo hi H Q
def PB(K:Frag):V->Option Int->Option Int->Hp->VK->Prop:=λx lo hi H Q=>Z0a K x lo hi H Q
theorem HN:SlR X (PB X.K):=by intro Â s σ H x v vl vu lo hi sl Q I rx hs pl pu h;obtain⟨a,xs,rfl,hx,q⟩:=h;cases rx;obtain⟨its,r,ht,hz⟩:=I.list hx;have hlen:=r.length;refine⟨"list",_,slot_list_getitem.lookup,ht.isList.typeIs,?_⟩;refine wpAny_getItem_list_slice ht.isList hs pl pu .none Ò ?_ (by rw[ć]<;>lia);rw[rG,<-hlen];refine⟨.ref s.heap.objs.size,_,I.laid (t':=s.toks) (o:=.lst (jx xs lo hi)) (λb ob q=>ë _ q) (Ø _) ?_,rfl,q _ (I.hok.fresh (Ø _))⟩;exact⟨ε (gn xs lo hi) hz,_,0,(r.drop (HT.sIx xs.length 0 lo)).take (HT.sIx xs.length xs.length hi-HT.sIx xs.length 0 lo),Ę _ rfl⟩
theorem bh:dH X (.builtin "len") (λxs H Q=>∃p ys,xs=[.ref p]/\(Ï X.K H p ys\/Ì X.K H p ys)/\Q (.int ys.length) H):=by
 intro Â s σ H xs us Q I r h;obtain⟨p,ys,rfl,hq,q⟩:=h;obtain⟨u,rfl,rx⟩:=þ r;cases rx;have hn:=pZ;rcases hq with hq|hq;.obtain⟨its,r',pl,hz⟩:=I.list hq;have hlen:=r'.length;exact Calls.call_len_list pl.isList (by simp only[List.size_toArray]<;>lia) ⟨.int ys.length,H,I.tok _,⟨s.toks+1,by rw[ć,hlen]⟩,q⟩
 .obtain⟨its,r',pl,hz⟩:=I.tuple hq;have hlen:=r'.length;exact len_tuple pl (by simp only[List.size_toArray]<;>lia) ⟨.int ys.length,H,I.tok _,⟨s.toks+1,by rw[ć,hlen]⟩,q⟩
theorem uC:dH X (.type "list") (λxs H Q=>∃p ys,xs=[.ref p]/\(Ï X.K H p ys\/Ì X.K H p ys)/\∀l,H l=none->Q (.ref l) (upd H l (.lst ys))):=by
 intro Â s σ H xs us Q I r h;obtain⟨p,ys,rfl,hq,q⟩:=h;obtain⟨u,rfl,rx⟩:=þ r;cases rx;have fin:∀(its:â),Î ys its->ys.length<=sizeLine->∀(h':Heap)(c':Nat),(∀b o',s.heap.get? b=some o'->h'.get? b=some o')->h'.get? s.heap.objs.size=some {cls:=.type "list",dict:=none,data:=.seq its.toArray c',slots:=#[]}->EP X Â σ Q (.ref s.heap.objs.size) {s with heap:=h'}:=λits r' hz h' c' kp e=>⟨.ref s.heap.objs.size,_,I.laid (t':=s.toks) kp (Ø _) (show Ö X.prog X.w _ h' _ (.lst ys)from⟨hz,its,c',r',e⟩),rfl,q _ (I.hok.fresh (Ø _))⟩;rcases hq with hq|hq;.obtain⟨its,r',pl,hz⟩:=I.list hq;have hlen:=r'.length;obtain⟨o,ho,hc,n,hd⟩:=pl.isList;exact call_list_seq p (.inl rfl) ho hc hd (λh' c' kp e=>fin its r' hz h' c' kp e) (by simp only[List.size_toArray]<;>lia)
 .obtain⟨its,r',pl,hz⟩:=I.tuple hq;have hlen:=r'.length;obtain⟨o,ho,hc,n,hd⟩:=pl;exact call_list_seq p (.inr rfl) ho hc hd (λh' c' kp e=>fin its r' hz h' c' kp e) (by simp only[List.size_toArray]<;>omega)
theorem cZ:dH X (.type "tuple") (λxs H Q=>∃p ys,xs=[.ref p]/\((Ï X.K H p ys/\∀l,H l=none->Q (.ref l) (upd H l (.tup ys)))\/(Ì X.K H p ys/\Q (.ref p) H))):=by
 intro Â s σ H xs us Q I r h;obtain⟨p,ys,rfl,h⟩:=h;obtain⟨u,rfl,rx⟩:=þ r;cases rx;rcases h with⟨hq,q⟩|⟨hq,q⟩;.obtain⟨its,r',pl,hz⟩:=I.list hq;have hlen:=r'.length;refine call_tuple_list pl.isList (λh' kp=>?_) (by simp only[List.size_toArray]<;>omega);have I1:Æ X Â σ H {s with heap:=h'}:=I.kept (t':=s.toks) kp;have I2:Æ X Â σ (upd H h'.objs.size (.tup ys)) {s with heap:=h'.push {cls:=.type "tuple",data:=.seq its.toArray}}:=I1.laid (t':=s.toks) (λb o e=>ë _ e) (Ø _) (⟨hz,its,r',IsTup.new _ _⟩);exact⟨.ref h'.objs.size,_,I2,rfl,q _ (I1.hok.fresh (Ø _))⟩
 .obtain⟨its,r',pl,hz⟩:=I.tuple hq;exact call_tuple_same pl ⟨.ref p,H,I,rfl,q⟩
def tyV(K:Frag)(T:String)(x:V)(H:Hp):Prop:=match x with|.str _=>T="str"|.int _=>T="int"|.ref p=>(T="list"/\∃xs,Ï K H p xs)\/(T="tuple"/\∃o,K.lookup p=some o/\o.cls=.type "tuple"/\o.dict=none)\/(T="dict"/\((∃kvs,H p=some (.dK kvs))\/∃kvs,H p=some (.dT kvs)))\/(T="set"/\∃S n,H p=some (.set S n))|_=>False
theorem KJ{σ:St}(I:Æ X Â σ H s)(r:Ñ x v)(ty:tyV X.K T x H):
 s.TypeIs v T/\∀a,v=.ref a->∃ob,s.heap.get? a=some ob/\ob.dict=none:=by cases x with|str z=>obtain⟨t,rfl⟩:=r;cases(ty);exact⟨typeIs_str s z t,λ_ e=>nomatch e⟩;|int i=>obtain⟨t,rfl⟩:=r;cases(ty);exact⟨typeIs_int s i t,λ_ e=>nomatch e⟩;|ref p=>
  cases r;rcases ty with⟨rfl,xs,hq⟩|⟨rfl,o,hk,hc,hd⟩|⟨rfl,hk⟩|⟨rfl,S,n,hk⟩;.obtain⟨its,_,pl,_⟩:=I.list hq;refine⟨pl.isList.typeIs,λa e=>?_⟩;cases e;obtain⟨o,n,e,c,hd,_⟩:=pl;exact⟨o,e,hd⟩
  .refine⟨⟨o,I.kIn p o hk,hc⟩,λa e=>?_⟩;cases e;exact⟨o,I.kIn _ o hk,hd⟩
  .have z:∃o,s.heap.get? p=some o/\o.ExactDict:=by
    rcases hk with⟨kvs,hk⟩|⟨kvs,hk⟩;.obtain⟨_,_,_,_,o,_,_,e,ex,_⟩:=I.hok p _ hk;exact⟨o,e,ex⟩
    .obtain⟨_,_,_,_,o,_,_,e,ex,_⟩:=I.hok p _ hk;exact⟨o,e,ex⟩
   obtain⟨o,e,ex⟩:=z;refine⟨⟨o,e,ex.1⟩,λa e2=>?_⟩;cases e2;exact⟨o,e,ex.2.1⟩
  .obtain⟨o,_,_,_,e,ex,_⟩:=I.hok p _ hk;refine⟨⟨o,e,ex.1⟩,λa e2=>?_⟩;cases e2;exact⟨o,e,ex.2.1⟩;|_=>exact False.elim ty
def tBM(K:Frag)(T:String)(r:V->List V->Hp->VK->Prop)(to:TE)(t:TA):TE:=λσ H Q=>to σ H λx H1=>tyV K T x H1/\t σ H1 λxs H2=>r x xs H2 Q
variable{apos dE:Pos}{T id:String}
theorem qd(pa:PlainAttrs T)(slot:Slot T name id)(Tj:typeOf (.builtin id)=pure (.type "method_descriptor"))(hm:MtR X id r)(ho:PE X o to)(ha:PA X (e::es) t)(Cn:attributeBase o name X.env (eval o X.env)=eval o X.env:=by rfl)(IG:((backTo dE (starEach (e::es) X.env)).all (λx=>!x.1)&&(backToKw dE (keywordEach [] X.env)).all (λx=>x.1.isSome)&&decide ((e::es).length+([]:List Keyword).length+(if([]:List Keyword).isEmpty then 0 else 1)<30))=true:=by rfl)(hline:(apos.endLine==dE.line)=true:=by rfl)(hs:Qa8 X e es:=by rfl)(IH:Qa9 X dE es:=by rfl):PE X (.Call (.Attribute o name apos) (e::es) [] dE) (tBM X.K T r to t):=by intro Â s σ H Q I h;refine wpAny_Call_method_late Cn IG hline rfl (Ú (ho Â s σ H _ I h) λv s1=>?_);rintro⟨x,H1,I1,r1,ty,q1⟩;obtain⟨h1,h2⟩:=KJ I1 r1 ty;refine⟨T,id,pa,slot,Tj,h1,h2,?_⟩;have hA:=ha dE Â s1 σ H1 _ I1 q1;rw[hs]at hA⊢;refine Calls.callWith_builtin (by assumption) (Calls.evalArgs_plain ?_);exact Ú hA λus s2=>by rintro⟨vs,H2,I2,r2,q2⟩;exact hm Â s2 σ H2 x vs v us Q I2 r1 r2 q2
end
def MtM(X:Cx)(id:String)(r:V->List V->Hp->VK->Prop):Prop:=∀(Â:ZX)(s:Shared)(σ:St)(H:Hp)(x:V)(xs:List V)(v:Value)(us:â)(Q:VK),Æ X Â σ H s->Ñ x v->Î xs us->r x xs H Q->wpAny (model X.prog X.w) X.A (call (.builtin id) (v::us)) (EP X Â σ Q) X.xe s
theorem Î.one:∀{x:V}{us:â},Î [x] us->∃u,us=[u]/\Ñ x u|_,_,.cons r .nil=>⟨_,rfl,r⟩
theorem Î.zero:∀{us:â},Î [] us->us=[]|_,.nil=>rfl
theorem Î.reverse(h:Î xs us):Î xs.reverse us.reverse:=by induction h with|nil=>exact .nil;|cons r t ih=>rw[List.reverse_cons,List.reverse_cons];exact Î.append ih (.cons r .nil)
theorem Î.rep(h:Î xs us):∀k:Nat,Î (List.replicate k xs).flatten (List.replicate k us).flatten|0=>.nil|k+1=>by exact Î.append h (Î.rep h k)
theorem č(its:â):∀(k:Nat)(acc:â),List.foldl (λx1 x2=>x1++x2) acc.toArray (List.replicate k its.toArray)=(acc++(List.replicate k its).flatten).toArray
 |0,acc=>by simp;|k+1,acc=>by
  have e:acc.toArray++its.toArray=(acc++its).toArray:=by simp
  have e2:(acc++its)++(List.replicate k its).flatten=acc++(List.replicate (k+1) its).flatten:=by rw[List.replicate_succ,List.flatten_cons,Ŧ]
  rw[<-e2,<-č its k (acc++its),<-e,List.replicate_succ,List.foldl_cons]
section
variable{σ:St}
theorem Æ.lset{its its':â}(I:Æ X Â σ H s)(hH:H l=some (.lst xs))(e:s.heap.get? l=some {cls:=.type "list",data:=.seq its.toArray n})(hf:f its.toArray=its'.toArray)(hv:Î ys its')(hz:ys.length<=sizeLine):Æ X Â σ (upd H l (.lst ys)) {s with heap:=s.heap.update l (Obj.mapSeq f),toks:=t'}:=by have q:=PySem.IsL.update e f;rw[hf]at q;refine I.write (x:=l) (e:=l) (by rw[hH];exact trivial) (.inl rfl) (λb' u hb hu=>(Heap.get?_update_other s.heap (Obj.mapSeq f) (Ne.symm hb)).trans hu) ⟨_,q⟩ ?_;exact⟨hz,its',_,hv,q⟩
theorem Æ.lnew(I:Æ X Â σ H s)(hv:Î ys its)(hz:ys.length<=sizeLine):Æ X Â σ (upd H s.heap.objs.size (.lst ys)) {s with heap:=s.heap.push {cls:=.type "list",data:=.seq its.toArray},toks:=t'}:=I.laid (λ_ _ q=>ë _ q) (Ø _) ⟨hz,its,0,hv,Ę _ rfl⟩
theorem Æ.fresh(I:Æ X Â σ H s):H s.heap.objs.size=none:=I.hok.fresh (Ø _)
theorem Æ.lstM(I:Æ X Â σ H s)(hH:H l=some (.lst xs)):xs.length<=sizeLine/\∃(its:â)(n:Nat),Î xs its/\xs.length=its.length/\s.heap.get? l=some {cls:=.type "list",data:=.seq its.toArray n}:=by obtain⟨z,its,n,r,e⟩:=I.hok l _ hH;exact⟨z,its,n,r,r.length,e⟩
theorem lV(h:n<=sizeLine):Builtin.List.listTooLong n=false:=by exact ĉ À
end
section
inductive Α(x:V)(vs:List V)(H:Hp)(Q:VK):Prop|mk:∀l xs y,(x=.ref l)->(vs=[y])->(H l=some (.lst xs))->(xs.length<sizeLine)->(Q .non (upd H l (.lst (xs++[y]))))->Α  x vs H Q
def HQ:V->List V->Hp->VK->Prop:=λx vs H Q=>Α  x vs H Q
theorem iV:MtM X "list.append" HQ:=by intro Â s σ H x vs v us Q I rx rv h;obtain⟨l,xs,y,rfl,rfl,hH,hz,q⟩:=h;cases rx;obtain⟨u,rfl,ru⟩:=rv.one;obtain⟨z,its,n,r,hl,e⟩:=I.lstM hH;refine call_meets F.slot_list_append ⟨_,e,rfl⟩ F.entry_list_append (F.args_list_append_2 _ _) (PySem.list_append l its.toArray n u (by rw[ć];lia)) ⟨e,?_⟩;refine⟨.non,_,I.lset (its':=its++[u]) hH e Ò (r.append (.cons ru .nil)) ?_,rfl,q⟩;rw[ý,List.length_singleton];lia
inductive ž(x:V)(vs:List V)(H:Hp)(Q:VK):Prop|mk:∀l b xs zs,(x=.ref l)->(vs=[.ref b])->(H l=some (.lst xs))->(H b=some (.lst zs))->(xs.length+zs.length<=sizeLine)->(Q .non (upd H l (.lst (xs++zs))))->ž  x vs H Q
def HR:V->List V->Hp->VK->Prop:=λx vs H Q=>ž  x vs H Q
theorem Mz:MtM X "list.extend" HR:=by
 intro Â s σ H x vs v us Q I rx rv h;obtain⟨l,b,xs,zs,rfl,rfl,hH,hB,hz,q⟩:=h;cases rx;obtain⟨u,rfl,ru⟩:=rv.one;cases ru;obtain⟨z,its,n,r,hl,e⟩:=I.lstM hH;obtain⟨z2,aS,n2,r2,cy,e2⟩:=I.lstM hB;have hsz:its.toArray.size+aS.toArray.size<=sizeLine:=by rw[ć,ć];omega
 have fe:¬(!its.toArray.isEmpty&&Builtin.List.listTooLong (its.toArray.size+aS.toArray.size))=true:=by rw[lV hsz,Bool.and_false];exact Ō
 refine call_meets F.slot_list_extend ⟨_,e,rfl⟩ F.entry_list_extend (F.args_list_extend_2 _ _) (AutoSeq1.list_extend_list_list_0 l its.toArray n b aS.toArray n2 fe (by rw[ć];omega) À) ⟨e,e2,?_⟩;refine⟨.non,_,I.lset (its':=its++aS) hH e Ò (r.append r2) ?_,rfl,q⟩;rw[ý];omega
inductive Z0e(x:V)(y:V)(H:Hp)(Q:VK):Prop|mk:∀l b xs zs,(x=.ref l)->(y=.ref b)->(H l=some (.lst xs))->(H b=some (.lst zs))->(xs.length+zs.length<=sizeLine)->(∀p,H p=none->Q (.ref p) (upd H p (.lst (xs++zs))))->Z0e  x y H Q
def PJ:R2:=λx y H Q=>Z0e  x y H Q
theorem jg:Ċ X (binaryOp .Add) PJ:=by
 intro Â s σ H x y v u Q I rx ry h;obtain⟨l,b,xs,zs,rfl,rfl,hH,hB,hz,q⟩:=h;cases rx;cases ry;obtain⟨z,its,n,r,hl,e⟩:=I.lstM hH;obtain⟨z2,aS,n2,r2,cy,e2⟩:=I.lstM hB;refine PySem.P.add_list e e2 ?_ (by rw[ć,ć];grind);have ea:its.toArray++aS.toArray=(its++aS).toArray:=by simp
 rw[ea];exact⟨.ref _,_,I.lnew (t':=s.toks) (r.append r2) (by rw[ý];omega),rfl,q _ I.fresh⟩
inductive Z0b(x:V)(y:V)(H:Hp)(Q:VK):Prop|mk:∀l k xs,(x=.ref l)->(y=.int k)->(H l=some (.lst xs))->(-(2^63)<=k)->(k<2^63)->(xs.length*k.toNat<=sizeLine)->(∀p,H p=none->Q (.ref p) (upd H p (.lst (List.replicate k.toNat xs).flatten)))->Z0b  x y H Q
def KN:R2:=λx y H Q=>Z0b  x y H Q
theorem Ŀ{α:Type}(xs:List α)(k:Nat):(List.replicate k xs).flatten.length=k*xs.length:=by simp
theorem DP:Ċ X (binaryOp .Mult) KN:=by
 intro Â s σ H x y v u Q I rx ry h;obtain⟨l,k,xs,rfl,rfl,hH,h1,h2,hz,q⟩:=h;cases rx;obtain⟨t,rfl⟩:=ry;obtain⟨z,its,n,r,hl,e⟩:=I.lstM hH;have hlen:its.toArray.size*k.toNat<=sizeLine:=by rw[ć,<-hl];exact hz
 have wm:¬its.toArray.size*k.toNat>(2^63-1)/8:=by
  have:(sizeLine:Nat)<=(2^63-1)/8:=by decide
  lia
 have wo:¬(!Builtin.List.listFitsIndex k)=true:=by rw[fitsIndex_both h1 h2];exact Ō
 have fe:¬Builtin.List.listTooLong (its.toArray.size*k.toNat)=true:=by rw[lV hlen];exact Ō
 have gE:List.foldl (λx1 x2=>x1++x2) #[] (List.replicate (if its.toArray.isEmpty=true then 0 else k.toNat) its.toArray)=(List.replicate k.toNat its).flatten.toArray:=by
  have f0:∀m:Nat,List.foldl (λx1 x2=>x1++x2) #[] (List.replicate m its.toArray)=(List.replicate m its).flatten.toArray:=λm=>by have:=č its m [];rw[List.nil_append]at this;exact this
  rw[f0];cases its with|nil=>simp;|cons a r'=>rw[Ë Ò]
 refine wpAny_binaryOp_repeat_ref (T:="list") (U:="int") Ù ⟨_,e,rfl⟩ (λs'=>typeIs_int s' k t) noFill_list_mul F.fills_int_mul F.slot_int_rmul repeat_list F.slot_int_index.lookup (call_meets F.slot_int_rmul (typeIs_int s k t) F.entry_int_rmul (F.args_int_rmul_2 _ _) (int___rmul___int_list k t l its.toArray n) ⟨e,rfl,⟨_,e,rfl⟩,call_meets F.slot_list_mul ⟨_,e,rfl⟩ F.entry_list_mul (F.args_list_mul_2 _ _) (AutoListH.list___mul___list_int_3 l its.toArray n k t wo wm fe) ⟨e,?_⟩⟩);rw[gE];exact⟨.ref _,_,I.lnew (t':=s.toks) (r.rep k.toNat) (by rw[Ŀ,Nat.mul_comm];exact hz),rfl,q _ I.fresh⟩
end
section
set_option maxRecDepth 100000 in
end
section
end
end L2
namespace Att
open PySem PySem.W PySem.Calls PyProof.Rows
theorem p8:∀(ns:VV)(vs:â),WellAll P h vs (ns.map WData.int)->IntsAre vs ns:=by intro ns;induction ns with|nil=>intro vs w;cases w;exact .nil;|cons n ns ih=>intro vs w;cases w with|cons a b=>cases a;exact .cons _ _ (ih _ b)
theorem By{l:OpenLaw}(hn:l.most=some n)(rj:l.row.toRowW.claim.pre args=true)(II:WellAll P h vals args):∃a vs ns,vals=[Value.ref a]/\args=[WData.list (ns.map WData.int)]/\h.get? a=some {cls:=.type "list",data:=.seq vs.toArray}/\IntsAre vs ns/\ns.length<=n:=by
 have To:WShape.hasAll [] args [.list .int]=true:=(pre_splitW rj).1;have hc:l.pre.holds [] {args:=args}=true:=(pre_splitW rj).2;obtain⟨d,r,rfl,h1,h2⟩:=hasAllW_cons To;obtain rfl:=hasAllW_nil h2;obtain⟨xs,rfl,h3⟩:=hasW_list h1;obtain⟨ns,rfl⟩:=items_int h3;have hlen:ns.length<=n:=by
  unfold OpenLaw.pre at hc;have h4:(WTm.not (.lt (.lit (.int (n:Int))) (.len (.arg 0)))).holds [] {args:=[.list (ns.map .int)]}=true:=by have h4:=(holds_andW hc).1;rw[hn]at h4;exact h4
  have h5:=condW_of h4 (w_not (w_lt w_lit (w_len_list (w_arg rfl))));rw[Ý]at h5;refine Nat.le_of_not_lt λq=>?_;have q':(n:Int)<((ns.length:Nat):Int):=À;first|(rw[è q']at h5;exact absurd h5 Ù);|(simp at h5;lia)
 cases II with|cons w1 w2=>cases w2;cases w1 with|list ho iN=>exact⟨_,_,ns,rfl,rfl,ho,p8 ns _ iN,hlen⟩
theorem BJ(l:OpenLaw)(args:List WData):l.row.toRowW.claim.post args (.bool true) args=true:=postW_of (r:=l.row.toRowW) (X:=(true==true)) (show WShape.has [] (.bool true) .bool=true by first|rfl|decide|simp[WShape.has]) (w_eq_bool (w_res rfl) w_lit) rfl
theorem attach_call{l:OpenLaw}(hn:l.most=some n)(rk:d.params.defaults=[])(call:∀(w:World)(s₀ s₁:Shared)(mg mb:Ti)(fa:Addr)(o:Obj)(pm cd doc:Value)(a:Addr)(vs:â)(ns:VV),Ground q loose [] XP w s₀ mg mb s₁.heap->YP w s₁.heap->s₁.heap.get? fa=some o->o.data=.func (docDef d.name d.params d.body d.scope pm cd doc)->s₁.heap.CodeRec cd d.name->mg d.name=some (.ref fa)->s₁.heap.get? a=some {cls:=.type "list",data:=.seq vs.toArray}->IntsAre vs ns->ns.length<=n->s₁.gens=#[]->codeAny (model l.prog w) callerA (.call (.ref fa) ⟨[.ref a],[]⟩) (λr s'=>r=.ok (.ret (.bool true))/\OldK s₁.heap s'.heap/\s'.os=s₁.os/\AllBare s'.gens) s₁):WalkO q loose XP YP l.row.toRowW d [] (λf vs=>PySem.call f vs):=by intro w s₀ s₁ mg mb G Y fa o pm cd doc dV kV ho hd eR hD hmg hg args vals as rj Tq ZZ II ff;obtain rfl:dV=.none:=Dflts.none hD rk;obtain rfl:kV=.none:=Dflts.noKw hD;obtain⟨a,vs,ns,rfl,rfl,wq,hints,hlen⟩:=By hn rj II;refine enter_call (codeAny_mono (call w s₀ s₁ mg mb fa o pm cd doc a vs ns G Y ho (fd_plain hd) eR hmg wq hints hlen hg) λr s' hq=>?_);obtain⟨rfl,h2,h3,h4⟩:=hq;exact⟨.inl ⟨.bool true,.bool true,[],rfl,λ_=>rfl,.bool true,BJ l _,λ_=>⟨List.Pairwise.nil,λ_ hm=>(nomatch hm)⟩⟩,h2,h3,h4⟩
section
end
end Att
namespace L2
open PySem PySem.Spec PyProof.Rows
theorem sX:∀{vs:â}{ns:VV},IntsAre vs ns->Î (ns.map V.int) vs|_,_,.nil=>.nil|_,_,.cons n t h=>.cons ⟨t,rfl⟩ (sX h)
def gJ(s:Stmt):Arguments:=match s with|.FunctionDef _ a _ _ _ _ _ _ _ _=>a|_=>{posonlyargs:=[],args:=[],vararg:=none,kwonlyargs:=[],kw_defaults:=[],kwarg:=none,defaults:=[]}
def cC(s:Stmt):List Stmt:=match s with|.FunctionDef _ _ b _ _ _ _ _ _ _=>b|_=>[]
def az(s:Stmt):Scope:=match s with|.FunctionDef _ _ _ _ _ _ sc _ _ _=>sc|_=>{kind:=.function,names:=[],isGenerator:=false,isCoroutine:=false}
abbrev Þ:CXT:=λ_ _ _ _ _ _=>False
abbrev E0:XK:=λ_ _ _=>False
theorem Ni:uz Þ X E0:=λ_ _ _ _ _ _ _ h=>h.elim
structure ß(K:Frag)(x qual:Str)(st:Stmt)(f:Addr)(fd:FuncData):Prop where
 ex:∃(oc:Value)(od:Option Addr)(kV doc pm:Value)(an:Option Addr)(cdv ct:Value)(lT:Array (Φ)),fd=PySem.W.fnOf x qual (gJ st) (cC st) (az st) .none kV doc pm an cdv ct/\K.lookup f=some ⟨oc,od,.func fd,lT⟩/\PySem.W.codeIn K cdv qual=true
 kp:PySem.W.keepIn K (.ref f)=true
section
variable{K:Frag}
theorem ß.ok{st:Stmt}(F:ß K x qual st f fd)(S:Ã N ps (az st))(len:∀vs H Q E,sp vs H Q E->vs.length=ps.length)(ar:∀(cdv:Value)(A:Around)(outer:List Env)(s:Shared)(H:Hp)(vs:List V)(Q:VK)(E:XK),à k (A.deeper (envOfC qual (az st) s.heap.objs.size f cdv))->sp vs H Q E->∃t,Ķ (iT Þ P w K mg base N qual (az st) f cdv A outer s H E).nox (cC st) t/\t {nx:=λ_ H'=>Q .non H',rt:=Q} (start N vs) H):Ê P w K mg base Þ (k+1) f fd ps sp:=by obtain⟨oc,od,kV,doc,pm,an,cdv,ct,lT,rfl,lk,eR⟩:=F.ex;refine DN lk eR S len λA outer s H vs Q E hr iF=>?_;obtain⟨t,h,q⟩:=ar cdv A outer s H vs Q E hr iF;exact⟨t,h.nox,q⟩
structure ό(sp:Sp)(ps:ó):Prop where h:∀vs H Q E,sp vs H Q E->vs.length=ps.length:=by intro _ _ _ _ h;first|(cases h;subst_vars;rfl)|(repeat(first|(subst_vars;rfl)|obtain⟨_,h⟩:=h))
theorem ß.oq{st:Stmt}(F:ß K x qual st f fd)(S:Ã N ps (az st))(ar:∀(cdv:Value)(A:Around)(outer:List Env)(s:Shared)(H:Hp)(vs:List V)(Q:VK)(E:XK),à k (A.deeper (envOfC qual (az st) s.heap.objs.size f cdv))->sp vs H Q E->∃t,Ķ (iT Þ P w K mg base N qual (az st) f cdv A outer s H E).nox (cC st) t/\t {nx:=λ_ H'=>Q .non H',rt:=Q} (start N vs) H)(len:ό sp ps:=by exact{}):Ê P w K mg base Þ (k+1) f fd ps sp:=F.ok S len.h ar
theorem ß.binds{st:Stmt}(F:ß K x qual st f fd)(h:∀(kV doc pm:Value)(an:Option Addr)(cdv ct:Value)(us:â),us.length=ps.length->bindArgs (PySem.W.fnOf x qual (gJ st) (cC st) (az st) .none kV doc pm an cdv ct) ⟨us,[]⟩=pure (ps.zip us)):ò K fd ps []:=by obtain⟨oc,od,kV,doc,pm,an,cdv,ct,lT,rfl,lk,eR⟩:=F.ex;exact .all (h kV doc pm an cdv ct)
theorem DQ{st:Stmt}{lT:Array (Φ)}{kV doc pm cdv ct:Value}(l:K.lookup f=some ⟨oc,od,.func (PySem.W.fnOf x qual (gJ st) (cC st) (az st) .none kV doc pm an cdv ct),lT⟩)(c:PySem.W.codeIn K cdv qual=true)(k:PySem.W.keepIn K (.ref f)=true):ß K x qual st f (PySem.W.fnOf x qual (gJ st) (cC st) (az st) .none kV doc pm an cdv ct):=⟨⟨oc,od,kV,doc,pm,an,cdv,ct,lT,rfl,l,c⟩,k⟩
end
theorem qe(hr:à k A):A.units+1<cLine:=Nat.lt_of_le_of_lt (Nat.add_le_add_left (by decide:1<=64) _) hr.units
section
variable{X:Cx}
theorem pv(i:Nat){pos:Pos}(hN:X.N[i]?=some x:=by rfl)(hv:Vis X.env.scope x:=by first|exact Or.inl rfl|exact Or.inr (Or.inl rfl)|exact Or.inr (Or.inr rfl))(hd:Ţ x:=by decide)(eR:(x==("__classdict__":Str))=false:=by decide):PE X (.Name x pos) (iH i):=yh hN hv hd eR
end
theorem aZ{A B:Prop}(h:B):if false=true then A else B:=by exact h
theorem bj{A B:Prop}(h:A):if true=true then A else B:=by exact h
theorem DR{c A B:Prop}[Decidable c](h1:c->A)(h2:¬c->B):if c then A else B:=by
 by_cases h:c;.rw[Í h];exact h1 h
 .rw[Ë h];exact h2 h
def Á(H H':Hp):Prop:=∀b o,H b=some o->H' b=some o
theorem Á.refl(H:Hp):Á H H:=λ_ _ h=>h
theorem Á.trans(a:Á H H1)(b:Á H1 H2):Á H H2:=λc o h=>b c o (a c o h)
theorem Á.free(e:Á H H')(h:H' l=Option.none):H l=Option.none:=by cases q:H l with|none=>rfl;|some o=>rw[e l o q]at h;cases h
end L2
inductive Xe3{A B C:Type}(p:A->B->C->Prop):Prop|mk:∀a b c,p a b c->Xe3 p
inductive Xe4{A B C D:Type}(p:A->B->C->D->Prop):Prop|mk:∀a b c d,p a b c d->Xe4 p
inductive Xe5{A B C D E:Type}(p:A->B->C->D->E->Prop):Prop|mk:∀a b c d e,p a b c d e->Xe5 p
inductive Xe6{A B C D E F:Type}(p:A->B->C->D->E->F->Prop):Prop|mk:∀a b c d e f,p a b c d e f->Xe6 p
inductive Xe7{A B C D E F G:Type}(p:A->B->C->D->E->F->G->Prop):Prop|mk:∀a b c d e f g,p a b c d e f g->Xe7 p
inductive Xe8{A B C D E F G H:Type}(p:A->B->C->D->E->F->G->H->Prop):Prop|mk:∀a b c d e f g h,p a b c d e f g h->Xe8 p
inductive Xe14{A B C D E F G H I J K L M N:Type}(p:A->B->C->D->E->F->G->H->I->J->K->L->M->N->Prop):Prop|mk:∀a b c d e f g h i j k l m n,p a b c d e f g h i j k l m n->Xe14 p
inductive Xe15{A B C D E F G H I J K L M N O:Type}(p:A->B->C->D->E->F->G->H->I->J->K->L->M->N->O->Prop):Prop|mk:∀a b c d e f g h i j k l m n o,p a b c d e f g h i j k l m n o->Xe15 p
inductive Xa2(a b:Prop):Prop|mk:a->b->Xa2 a b
inductive Xa3(a b c:Prop):Prop|mk:a->b->c->Xa3 a b c
inductive Xa4(a b c d:Prop):Prop|mk:a->b->c->d->Xa4 a b c d
inductive Xa5(a b c d e:Prop):Prop|mk:a->b->c->d->e->Xa5 a b c d e
inductive Xa6(a b c d e f:Prop):Prop|mk:a->b->c->d->e->f->Xa6 a b c d e f
inductive Xa7(a b c d e f g:Prop):Prop|mk:a->b->c->d->e->f->g->Xa7 a b c d e f g
inductive Xa8(a b c d e f g h:Prop):Prop|mk:a->b->c->d->e->f->g->h->Xa8 a b c d e f g h
namespace L2
open PySem PySem.Spec PyProof.Rows
def cM(cells:List (Str×Addr)):List (Str×NameKind)->List (Str×Addr)->List (Str×Addr)|[],acc=>acc|(n,k)::r,acc=>cM cells r (if k=.free then(n,(cells.lookup n).getD 0)::acc else acc)
theorem sY:∀(l:List (Str×NameKind))(acc:List (Str×Addr)),(∀p∈l,p.2=NameKind.free->(env.cells.lookup p.1).isSome=true)->(forIn l acc λ(x:Str×NameKind)(r:List (Str×Addr))=>(if(x.2==NameKind.free)=true then do let a<-cellOf env x.1;pure (ForInStep.yield ((x.1,a)::r))else pure (ForInStep.yield r):Sem (ForInStep (List (Str×Addr)))))=pure (cM env.cells l acc)
 |[],acc,_=>rfl|(n,k)::r,acc,h=>by
  rw[List.forIn_cons];have ih:=λa=>sY (env:=env) r a λp hp=>h p (Zai _ hp);by_cases hk:k=.free
  .subst hk;have hs:=h (n,.free) ϫ rfl;obtain⟨c,hc⟩:=Zay.mp hs;have e1:cellOf env n=pure c:=by unfold cellOf;rw[show env.cells.lookup n=some c from hc]
   have e2:cM env.cells ((n,.free)::r) acc=cM env.cells r ((n,c)::acc):=by show cM env.cells r (if NameKind.free=NameKind.free then(n,(env.cells.lookup n).getD 0)::acc else acc)=_;rw[Í rfl,show env.cells.lookup n=some c from hc];rfl
   rw[e2];simp only[if_true,e1,pure_bind];exact ih _
  .have hb:(k==NameKind.free)=false:=by simpa using hk
   have e2:cM env.cells ((n,k)::r) acc=cM env.cells r acc:=by show cM env.cells r (if k=NameKind.free then _ else acc)=_;rw[Ë hk]
   rw[e2];simp only[hb,if_false,pure_bind];exact ih _
theorem pH(h:∀p∈scope.names,p.2=NameKind.free->(env.cells.lookup p.1).isSome=true):closureFor scope env=pure (cM env.cells scope.names []):=by have e:=sY (env:=env) scope.names [] h;unfold closureFor;simp only[bind_pure];exact e
theorem jy:∀(l:List (Str×NameKind))(acc:List (Str×Addr)),(∀p∈l,p.2=NameKind.free->(cells.lookup p.1).isSome=true)->(cM cells l acc).lookup x=some c->acc.lookup x=some c\/cells.lookup x=some c
 |[],_,_,h=>.inl h|(n,k)::r,acc,hf,h=>by
  have h':(cM cells r (if k=.free then(n,(cells.lookup n).getD 0)::acc else acc)).lookup x=some c:=h;rcases jy r _ (λp hp=>hf p (Zai _ hp)) h' with e|e
  .by_cases hk:k=.free
   .rw[Í hk]at e;obtain⟨d,hd⟩:=Zay.mp (hf (n,k) ϫ hk);rw[show cells.lookup n=some d from hd]at e;rw[Zbc]at e
    cases hx:x==n with|true=>
     have:x=n:=by simpa using hx
     subst this;exact .inr (hd.trans (by simpa using e));|false=>rw[hx]at e;exact .inl e
   .rw[Ë hk]at e;exact .inl e
  .exact .inr e
theorem lW:∀(l:List (Str×NameKind))(acc:List (Str×Addr)),((∃k,(x,k)∈l/\k=NameKind.free)\/(∃c,acc.lookup x=some c))->∃c,(cM cells l acc).lookup x=some c
 |[],_,h=>by
  rcases h with⟨k,hk,_⟩|h;.exact absurd hk Ò
  .exact h;|(n,k)::r,acc,h=>by
  refine lW r _ ?_;rcases h with⟨k',hk,e⟩|⟨c,hc⟩
  .rcases Ļ.mp hk with z|z;.cases z;refine .inr ?_;rw[Í e];exact⟨_,by rw[Zbc,beq_self_eq_true]⟩
   .exact .inl ⟨k',z,e⟩
  .refine .inr ?_;by_cases hk:k=.free;.rw[Í hk,Zbc];cases hx:x==n with|true=>exact⟨_,rfl⟩;|false=>exact⟨c,hc⟩
   .rw[Ë hk];exact⟨c,hc⟩
theorem oR(hc:∀p∈scope.names,p.2≠NameKind.cell)(h:(relabel scope env).names.lookup x=some k)(hk:k=.cell\/k=.free):∃k',(x,k')∈scope.names/\k'=NameKind.free:=by
 have m:=PySem.mem_of_lookup h;obtain⟨⟨n,k0⟩,hm,e⟩:=Ā.mp m;dsimp only at e;split at e
 .rename_i c;cases e;have:(k0==NameKind.free)=true:=by simp_all
  exact⟨k0,hm,by simpa using this⟩
 .cases e;rcases hk with z|z;.exact absurd z (hc _ hm)
  .exact⟨_,hm,z⟩
def cxC(X:Cx)(scope:Scope)(Nc:ó)(C:Addr)(fp:ă)(Â:ZX)(s₂:Shared)(Ü:Hp):Cx where prog:=X.prog;w:=X.w;K:=X.K;mg:=X.mg;base:=X.base;A:=X.A;N:=Nc;s₀:=s₂;H₀:=Ü;env:=compEnvC scope (cM X.env.cells scope.names []) C X.env;outer:=X.stack;stack:=X.stack;ex:=fp;fn:=λ_=>false;calm:=X.calm;pn:=X.pn++Â;xe:=λ_ _=>False
def Ğ(X:Cx)(bg:Env):ó->List (Option Nat)->Prop|[],[]=>True|_::N,none::r=>Ğ X bg N r|x::N,some i::r=>(X.N[i]?=some x/\(X.env.kindOf x=some .cell\/X.env.kindOf x=some .free)/\bg.cells.lookup x=X.env.cells.lookup x/\(bg.kindOf x=some .cell\/bg.kindOf x=some .free))/\Ğ X bg N r|_,_=>False
def ĩ(σ:St)(src:List (Option Nat)):St:=src.map λo=>match o with|none=>none|some i=>(σ[i]?).join
theorem Ğ.len:∀{N:ó}{src:List (Option Nat)},Ğ X bg N src->src.length=N.length|[],[],_=>rfl|[],_::_,h=>h.elim|_::_,[],h=>h.elim|_::N,none::r,h=>by have h':Ğ X bg N r:=h;have:=Ğ.len (N:=N) (src:=r) h';simp[this];|_::N,some _::r,h=>by have:=Ğ.len (N:=N) (src:=r) h.2;simp[this]
theorem Ğ.get:∀{N:ó}{src:List (Option Nat)}{j i:Nat},Ğ X bg N src->N[j]?=some x->src[j]?=some (some i)->X.N[i]?=some x/\(X.env.kindOf x=some .cell\/X.env.kindOf x=some .free)/\bg.cells.lookup x=X.env.cells.lookup x/\(bg.kindOf x=some .cell\/bg.kindOf x=some .free)|[],[],_,_,_,e,_=>by simp at e;|[],_::_,_,_,h,_,_=>h.elim|_::_,[],_,_,h,_,_=>h.elim|_::_,none::_,0,_,_,_,e=>by simp at e;|_::N,none::r,j+1,_,h,e1,e2=>by have h':Ğ X bg N r:=h;exact Ğ.get (N:=N) (src:=r) (j:=j) h' (by simpa using e1) (by simpa using e2);|_::_,some _::_,0,_,h,e1,e2=>by simp at e1 e2;subst e1 e2;exact h.1;|_::_,some _::_,j+1,_,h,e1,e2=>Ğ.get (j:=j) h.2 (by simpa using e1) (by simpa using e2)
structure ē(X:Cx)(scope:Scope):Prop where
 kind:scope.kind=.function
 cell:scope.names.all (λp=>p.2 !=.cell)=true
 names:scope.names.all (λp=>p.2 !=.local||scope.names.lookup p.1==some .local)=true
 free:scope.names.all (λp=>p.2 !=.free||(X.env.cells.lookup p.1).isSome)=true
section
theorem ē.hcell(S:ē X scope):∀p∈scope.names,p.2≠NameKind.cell:=λp hp=>by have:=ŀ.mp S.cell p hp;simpa using this
theorem ē.hnames(S:ē X scope):∀p∈scope.names,p.2=.local->scope.names.lookup p.1=some .local:=λp hp e=>by have:=ŀ.mp S.names p hp;simpa[e]using this
theorem ē.hfree(S:ē X scope):∀p∈scope.names,p.2=NameKind.free->(X.env.cells.lookup p.1).isSome=true:=λp hp e=>by have:=ŀ.mp S.free p hp;simpa[e]using this
end
def PTs(X:Cx)(ifs:Qa3)(t:TT):Prop:=∀(Â:ZX)(s:Shared)(σ:St)(H:Hp)(Q:Bool->Hp->Prop),Æ X Â σ H s->t σ H Q->wpAny (model X.prog X.w) X.A (forIn ifs true λc r=>if r=true then do let ok<-isTrue c X.env (eval c X.env);pure (ForInStep.yield ok)else pure (ForInStep.yield r)) (TP X Â σ Q) X.xe s
def uD:TT:=λ_ H Q=>Q true H
theorem bW:PTs X [] uD:=λ_ _ _ H _ I h=>wpAny_tests_nil ⟨H,I,h⟩
theorem jT(h:PT X c t):PTs X [c] t:=λÂ s σ H Q I q=>wpAny_tests_one (h Â s σ H Q I q)
theorem uE(I:Nat->Shared->Prop)(turn:∀n s,I n s->wpAny (model prog w) A (pyNext it) (λr s₁=>match r with|none=>R (.ok .next) s₁|some v=>wpAny (model prog w) A (letOwnedTupleGo target it v) (λ_ tI=>wpAny (model prog w) A (assign target env v) (λ_ s₂=>wpAny (model prog w) A (forIn ifs true λc r=>if r=true then do let ok<-isTrue c env (eval c env);pure (ForInStep.yield ok)else pure (ForInStep.yield r)) (λok s₃=>if ok=true then wpAny (model prog w) A (eval elt env) (λx rl=>wpAny (model prog w) A (call (.builtin "list.append") [acc,x]) (λ_ Co=>∃m,m<n/\I m Co) (λ_ _=>False) rl) (λ_ _=>False) s₃ else∃m,m<n/\I m s₃) (λ_ _=>False) s₂) (λ_ _=>False) tI) (λ_ _=>False) s₁) (λ_ _=>False) s)(n:Nat)(h:I n s):codeAny (model prog w) A (.compLoop (.ListComp elt [⟨target,iter,ifs,0⟩] scope pos) 0 it acc env) R s:=by refine codeAny_loop rfl I (λn s hI=>?_) n h;refine wpAny_noted ?_;rw[compTurn_list];refine Ä (wpAny_standAt (Ä (wpAny_mono (turn n s hI) (λr s₁ h₁=>?_) λ_ _ h'=>h'.elim)));cases r with|none=>exact Ó h₁;|some v=>refine Ä (wpAny_mono h₁ (λ_ tI Ct=>?_) λ_ _ h'=>h'.elim);refine Ä (wpAny_mono Ct (λ_ s₂ nB=>Ä (wpAny_mono nB (λok s₃ rq=>?_) λ_ _ h'=>h'.elim)) λ_ _ h'=>h'.elim);cases ok with|false=>exact Ó ⟨rfl,rq⟩;|true=>exact Ä (Ä (wpAny_mono rq (λx rl IJ=>Ä (wpAny_mono IJ (λ_ Co IL=>Ó (Ó ⟨rfl,IL⟩)) λ_ _ h'=>h'.elim)) λ_ _ h'=>h'.elim))
def oU(J:It)(g:TG)(tt:TT)(te:TE)(Fin:List V->Hp->Prop)(fF:St)(H0:Hp):Prop:=∃W:Nat->Nat->List V->St->Hp->Prop,(∃m,W 0 m [] fF H0)/\∀i m ys σ H,W i m ys σ H->ys.length<sizeLine/\((J.stop i H/\Fin ys H)\/(J.go i H/\∀x H',J.yld i H x H'->g x σ H' λax H2=>tt ax H2 λb H3=>if b=true then te ax H3 λy H4=>∃m',m'<m/\W (i+1) m' (ys++[y]) ax H4 else∃m',m'<m/\W (i+1) m' ys ax H3))
theorem sZ(hc:X.calm=true)(S:ē X scope)(fN:∀C,Ğ X (compEnvC scope (cM X.env.cells scope.names []) C X.env) Nc src)(hb:∀C fp Â s₂ Ü,PG (cxC X scope Nc C fp Â s₂ Ü) tg g/\PTs (cxC X scope Nc C fp Â s₂ Ü) ifs tt/\PE (cxC X scope Nc C fp Â s₂ Ü) elt te){σ:St}{fp:ă}{tn:Nat->Heap->Prop}{J:It}(ai:Æ X Â σ Ü s₂)(T:š X.prog X.w X.K tg J fp it tn)(st:tn 0 s₂.heap)(hf:∀b∈fp,uq X Â Ü b){Fin:List V->Hp->Prop}(hW:oU J g tt te Fin (ĩ σ src) Ü){RR:Value->Addr->Result->Shared->Prop}{E:Tc}(Tu:∀D C s' ys H' m,Fin ys H'->H' D=none->Æ X Â σ (upd H' D (.lst ys)) s'->s'.heap.Ns C m->uq X Â (upd H' D (.lst ys)) C->RR (.ref D) C (.ok .next) s'):wpAny (model X.prog X.w) X.A (newList []) (λacc s₃=>wpAny (model X.prog X.w) X.A (newFunctionEnv scope X.env.globals (cM X.env.cells scope.names []) [] X.env.qual none .none (some X.env)) (λCA rl=>codeAny (model X.prog X.w) X.A (.compStart (.ListComp elt [⟨tg,iter,ifs,0⟩] scope pos) 0 (.ref it) acc {CA with scope:=relabel scope X.env}) (RR acc CA.locals) rl) E s₃) E s₂:=by
 refine Κ (wpAny_newFunctionEnv S.hcell (by intro y hy;simp at hy) (λh₁ fg cS=>?_) S.kind);dsimp only at fg cS⊢;generalize IM:s₂.heap.push {cls:=.type "list",dict:=none,data:=.seq ([]:â).toArray}=HH at fg cS⊢;generalize tJ:s₂.heap.objs.size=D at fg cS⊢;have hC:HH.objs.size=D+1:=by rw[<-IM,Heap.size_push,tJ]
 generalize Z0:HH.objs.size=C at fg cS hC⊢;have IP:D≠C:=À;have below:∀b,b<s₂.heap.objs.size->b≠C/\b≠D:=λb hb=>by rw[tJ]at hb;exact⟨by rw[hC];exact ė (Nat.lt_succ_of_lt hb),ė hb⟩
 have bo:∀{b o},s₂.heap.get? b=some o->b≠C/\b≠D:=λ{b o}e=>below b (í e);have old:∀b o,s₂.heap.get? b=some o->h₁.get? b=some o:=λb o e=>cS.extBut b o (bo e).1 (ë _ (IM▸ë _ e));have dP:h₁.get? D=some {cls:=.type "list",data:=.seq ([]:â).toArray}:=cS.extBut _ _ IP (ë _ (IM▸tJ▸Ę _ rfl));have Tw:∀b∈fp,∃o,s₂.heap.get? b=some o:=λb hb=>by obtain⟨o,e,_⟩:=T.obj _ _ st b hb;exact⟨o,e⟩
 have FH:∀b∈fp,b≠C/\b≠D:=λb hb=>by obtain⟨o,e⟩:=Tw b hb;exact bo e
 have sub:∀{x c},(cM X.env.cells scope.names []).lookup x=some c->X.env.cells.lookup x=some c:=λ{x c}e=>by
  rcases jy scope.names [] S.hfree e with z|z;.simp at z
  .exact z
 have Tx:∀{b o},s₂.heap.get? b=some o->b<D:=λ{b o}e=>by rw[<-tJ];exact í e
 have fresh:∀a,D<=a->Ü a=none:=λa ha=>ai.hok.fresh (by rw[tJ];exact ha);have tN:∀{x c},X.env.cells.lookup x=some c->∃o,s₂.heap.get? c=some o:=λ{x c}e=>by obtain⟨v,o,ho,_⟩:=ai.cell x c e;exact⟨o,ho⟩
 have IQ:∀b∈Ė X.stack,∃o,s₂.heap.get? b=some o:=λb hb=>by
  rcases Ļ.mp (ai.stkSub b hb)with e|hb;.rw[e];obtain⟨m,⟨o,_,_,ho,_⟩,_⟩:=ai.loc;exact⟨o,ho⟩
  .obtain⟨_,o,ho,_⟩:=ai.funs.mem hb;exact⟨o,ho⟩
 have TB:∀a,D<=a->a∉Ė X.stack:=λa ha hb=>by obtain⟨o,e⟩:=IQ a hb;exact absurd (ĸ (Tx e) ha) (Τ _)
 have OB:∀b∈fp,b∉Ė X.stack:=λb hb z=>by
  obtain⟨_,f1,f2,_⟩:=hf b hb;rcases Ļ.mp (ai.stkSub b z)with e|e;.exact f1 e
  .exact f2 e
 generalize gI:cxC X scope Nc C fp Â s₂ Ü=X';obtain⟨hg,ht,he⟩:=hb C fp Â s₂ Ü;rw[gI]at hg ht he;have IS:X'.Ok:=by
  subst gI;refine⟨ai.ok.mod,S.kind,ai.ok.glob,ai.ok.blt,?_,?_,?_,?_,ai.ok.hd,ai.ok.frames,.inl rfl,?_,ai.bs,ε ai.ok.bsz ai.sz,?_,OB,ai.stack,ai.stkFree⟩;.show s₂.heap.objs.size<=C;grind
  .exact λx y c e1 e2=>ai.ok.inj x y c (sub e1) (sub e2)
  .intro x hx;have hx:(relabel scope X.env).names.lookup x=some .cell\/(relabel scope X.env).names.lookup x=some .free:=hx;have:∃k',(x,k')∈scope.names/\k'=NameKind.free:=by
    rcases hx with z|z;.exact oR S.hcell z (.inl rfl)
    .exact oR S.hcell z (.inr rfl)
   exact lW scope.names [] (.inl this)
  .intro x c z;exact absurd z (by show¬(false=true);simp)
  .intro b hb;exact⟨(FH b hb).1,λx c e=>(hf b hb).2.2.2.2.1 x c (sub e)⟩
  .intro b o e hb;obtain⟨_,_,_,f3,_⟩:=hf b hb;rcases f3 with z|z;.exact ai.ok.noex b o e z
   .exact absurd (ĸ (í (ai.ok.bs b o e).1) z) (Τ _)
 have eP:X'.prog=X.prog:=by subst gI;rfl
 have ew:X'.w=X.w:=by subst gI;rfl
 have eK:X'.K=X.K:=by subst gI;rfl
 have eA:X'.A=X.A:=by subst gI;rfl
 have eE:X'.xe=λ_ _=>False:=by subst gI;rfl
 have eL:X'.env.locals=C:=by subst gI;rfl
 have eN:X'.env=compEnvC scope (cM X.env.cells scope.names []) C X.env:=by subst gI;rfl
 have ec:X'.calm=true:=by subst gI;exact hc
 have eS:X'.s₀=s₂:=by subst gI;rfl
 have eH:X'.H₀=Ü:=by subst gI;rfl
 have ef:X'.fs=Ė X.stack:=by subst gI;rfl
 have ex:X'.ex=fp:=by subst gI;rfl
 have ep:X'.pn=X.pn++Â:=by subst gI;rfl
 have I0:Æ X' [] (ĩ σ src) Ü {s₂ with heap:=h₁,toks:=s₂.toks+([]:List (Str×Value)).length}:=by
  refine⟨IS,by rw[eS],ai.bare,by rw[eS,eH];exact Un.kept old,⟨_,by rw[eL];exact fg,?_⟩,?_,by rw[eL];exact fresh _ À,?_,?_,by rw[eP,ew];exact ai.hok.kept old,?_⟩
  .intro j x v e1 e2 e3;have e1:Nc[j]?=some x:=by subst gI;exact e1
   have e4:∃i,src[j]?=some (some i)/\(σ[i]?).join=some v:=by unfold ĩ at e2;rw[ģ]at e2;cases q:src[j]? with|none=>rw[q]at e2;cases e2;|some o=>rw[q]at e2;cases o with|none=>simp at e2;|some i=>exact⟨i,rfl,by simpa using e2⟩
   obtain⟨i,e5,e6⟩:=e4;obtain⟨c1,c2,c3,c4⟩:=(fN C).get e1 e5;have e7:σ[i]?=some (some v):=by cases q:σ[i]? with|none=>rw[q]at e6;simp at e6;|some o=>rw[q]at e6;simp at e6;rw[e6]
   obtain⟨m,_,hl⟩:=ai.loc;obtain⟨u,r,l⟩:=hl i x v c1 e7 (.inr (by rcases c2 with z|z;exact .inl z;exact .inr z));refine⟨u,r,?_⟩;rcases l with⟨k,_⟩|⟨_,c,e,z⟩;.rcases c2 with c2|c2<;>(rw[k]at c2;cases c2)
   .refine .inr ⟨by rw[eN];exact c4,c,by rw[eN];exact c3.trans e,?_⟩;obtain⟨o,ho,hd⟩:=z;exact⟨o,old c o ho,hd⟩
  .intro x c e;rw[eN]at e;obtain⟨v,o,ho,hd⟩:=ai.cell x c (sub e);exact⟨v,o,old c o ho,hd⟩
  .intro x c e;rw[eN]at e;exact ai.freeC x c (sub e)
  .intro p hp;rw[ep,ļ]at hp;obtain⟨e,n,ne,nf,d⟩:=ai.pin p hp;refine⟨old _ _ e,n,by rw[eL];exact(bo e).1,?_,d⟩;rw[ef];intro z;rcases Ļ.mp (ai.stkSub _ z)with q|q;.exact ne q
   .exact nf q
  .have:=(fN C).len;subst gI;show(ĩ σ src).length=Nc.length;unfold ĩ;rw[Ý,this]
 have TC:∀p∈X'.pn,p.1≠D:=λp hp=>by rw[ep]at hp;exact(bo (ai.pin p hp).1).2
 have CB:∀x c,X'.env.cells.lookup x=some c->c≠D:=λx c e=>by rw[eN]at e;obtain⟨o,ho⟩:=tN (sub e);exact(bo ho).2
 have IT:∀{P:ZX}{H:Hp},(∀p∈P,p.1=D)->(∀b∈fp,H b=none)->∀b∈fp,uq X' P H b:=λ{P H}hP hn b hb=>by
  refine⟨hn b hb,by rw[eL];exact(FH b hb).1,by rw[ef];exact OB b hb,.inl (by rw[ex];exact hb),λx c e=>?_,λp hp=>?_⟩;.rw[eN]at e;exact(hf b hb).2.2.2.2.1 x c (sub e)
  .rcases Ą.mp hp with z|z;.rw[ep]at z;exact(hf b hb).2.2.2.2.2 p z
   .rw[hP p z];exact(FH b hb).2.symm
 obtain⟨W,⟨m0,w0⟩,step⟩:=hW;have loop:∀s₃:Shared,s₃={s₂ with heap:=h₁,toks:=s₂.toks+([]:List (Str×Value)).length}->codeAny (model X.prog X.w) X.A (.compLoop (.ListComp elt [⟨tg,iter,ifs,0⟩] scope pos) 0 (.ref it) (.ref D) (compEnvC scope (cM X.env.cells scope.names []) C X.env)) (RR (.ref D) C) s₃:=by
  rintro s₃ rfl;refine uE (λn s'=>∃i ys us k ah H',Æ X' [] ah H' s'/\tn i s'.heap/\(∀b∈fp,H' b=none)/\H' D=none/\s'.heap.get? D=some {cls:=.type "list",data:=.seq (List.toArray us) k}/\Î ys us/\W i n ys ah H') ?_ m0 ⟨0,[],[],_,_,_,I0,T.keep _ _ _ st λb _ o e=>old b o e,λb hb=>(hf b hb).1,fresh _ (Ø _),dP,.nil,w0⟩;rintro n s3⟨i,ys,us,k,mT,H3,I3,ip,Cb,AI,Z4,FI,w3⟩;obtain⟨hsz,wt⟩:=step i n ys mT H3 w3;have OC:Æ X' [(D,{cls:=.type "list",data:=.seq us.toArray k})] mT H3 s3:=I3.pins_of λp hp=>by grind
  have wx:∀p∈[(D,({cls:=.type "list",data:=.seq us.toArray k}:Obj))],p.1=D:=λp hp=>by rw[Ũ.mp hp]
  rcases wt with⟨stop,fin⟩|⟨go,turn⟩;·--the end
   have hd:=T.done X' eP ew eK ec i _ s3 mT H3 (λ_ _=>False) OC (IT wx Cb) ip stop;rw[eA]at hd;refine Ú hd λr s4=>?_;rintro⟨hr,I4⟩;subst hr;have pD:=I4.pin (D,{cls:=.type "list",data:=.seq us.toArray k}) (ϛ _ (Ũ.mpr rfl));obtain⟨mC,OE,_⟩:=I4.loc;rw[eL]at OE;have tT:=I4.base;rw[eS,eH,ef,ex]at tT;have hlen:ys.length<=sizeLine:=Zbd hsz;have IU:û X.prog X.w (upd H3 D (.lst ys)) s4.heap:=λb u e=>by
    by_cases hb:b=D;.subst hb;rw[aa]at e;cases e;exact⟨hlen,us,k,FI,pD.1⟩
    .rw[aA hb]at e;have z:=I4.hok b u e;rw[eP,ew]at z;exact z.stay (λc v _ q=>q) (λc q=>by rw[aA (aD q AI)];exact q) λc xs q=>by rw[aA (aD q AI)];exact q
   have un:Un (Ė X.stack) fp Ü (upd H3 D (.lst ys)) s₂.heap s4.heap:=⟨tT.keep,tT.slot,λb o e n hx=>by rw[aA (bo e).2];exact tT.free b o e n hx,tT.there,λb xs e=>by have z:=tT.tups b xs e;rw[aA (aD z AI)];exact z,λb o u e=>by have z:=tT.frzs b o u e;rw[aA (aD z AI)];exact z,λb ps e=>by obtain⟨mo,z⟩:=tT.tbls b ps e;exact⟨mo,by rw[aA (aD z AI)];exact z⟩⟩;have J4:Æ X Â σ (upd H3 D (.lst ys)) s4:=ai.call' (ch:=fp) (by have:=I4.os;rw[eS]at this;exact this) un IU I4.bare λb hb=>by obtain⟨_,f1,f2,f3,f4,f5⟩:=hf b hb;exact⟨f3,f1,f4,f5⟩
   refine Tu D C s4 ys H3 mC fin AI J4 OE ⟨?_,?_,?_,.inr ?_,?_,?_⟩;.rw[aA IP.symm];have:=I4.free;rw[eL]at this;exact this
   .have:=ai.lt;rw[tJ]at this;exact ϗ (ĸ this (by rw[hC];exact Nat.le_succ _))
   .intro z;obtain⟨_,o,ho,_⟩:=ai.funs.mem z;exact(bo ho).1 rfl
   .have:=ai.sz;rw[tJ]at this;lia
   .intro x c e z;obtain⟨o,ho⟩:=tN e;exact(bo ho).1 z
   .intro p hp z;exact(bo (ai.pin p hp).1).1 z
  ·--a turn
   have hd:=T.item X' eP ew eK ec i _ s3 mT H3 (λ_ _=>False) OC (IT wx Cb) ip go;rw[eA]at hd;refine Ú hd λr s4=>?_;rintro⟨u,hr,h4⟩;subst hr;refine Ú h4 λ_ s5=>?_;rintro⟨x,H5,I5,r5,y5,wa,IB⟩;have IC:=I5.pinned (IT wx IB) (T.obj _ _ wa);have OF:=hg _ s5 mT H5 x u _ IC r5 (turn x H5 y5);rw[eP,ew,eA,eE,eN]at OF;refine Ú OF λ_ s6=>?_;rintro⟨rg,H6,I6,q6⟩;have kP:=ht _ s6 rg H6 _ I6 q6;rw[eP,ew,eA,eE,eN]at kP;refine Ú kP λIX s7=>?_;rintro⟨H7,I7,q7⟩;have back:∀{H8:Hp}{s8:Shared},Æ X' ([(D,({cls:=.type "list",data:=.seq us.toArray k}:Obj))]++fG fp s5.heap) rg H8 s8->Æ X' [] rg H8 s8/\tn (i+1) s8.heap/\(∀b∈fp,H8 b=none)/\H8 D=none/\s8.heap.get? D=some {cls:=.type "list",data:=.seq us.toArray k}/\(∀b∈fp,∀o,s5.heap.get? b=some o->s8.heap.get? b=some o):=λ{H8 s8}I8=>by have pD:=I8.pin (D,{cls:=.type "list",data:=.seq us.toArray k}) (ϛ _ (Zba _ (Ũ.mpr rfl)));have pf:∀b∈fp,∀o,s5.heap.get? b=some o->s8.heap.get? b=some o:=λb hb o e=>(I8.pin (b,o) (ϛ _ (ϛ _ (jf hb e)))).1;refine⟨I8.pins_of λp hp=>absurd hp Ò,T.keep _ _ _ wa pf,λb hb=>?_,pD.2.1,pD.1,pf⟩;obtain⟨o,e,d⟩:=T.obj _ _ wa b hb;exact(I8.pin (b,o) (ϛ _ (ϛ _ (jf hb e)))).2.1
   cases IX with|false=>obtain⟨b1,b2,b3,b4,b5,_⟩:=back I7;obtain⟨m',hm,w7⟩:=q7;exact⟨m',hm,i+1,ys,us,k,rg,H7,b1,b2,b3,b4,b5,FI,w7⟩;|true=>
    have FK:=he _ s7 rg H7 _ I7 q7;rw[eP,ew,eA,eE,eN]at FK;show wpAny _ _ (eval elt _) _ _ s7;refine Ú FK λxv s8=>?_;rintro⟨y,H8,I8,r8,m',hm,w8⟩;obtain⟨b1,b2,b3,b4,b5,b6⟩:=back I8;refine append_at (hsz:=by rw[ć,<-FI.length];exact Zbd hsz) b5 λh9 OG TF=>?_;have I9:Æ X' [] rg H8 {s8 with heap:=h9}:=b1.turned (t':=s8.toks) (λb o hb e=>OG.extBut b o hb e) b4 (by rw[eL];exact IP) (.inr (by rw[eS,tJ];exact Ø _)) CB λp hp=>by rw[ļ]at hp;exact TC p hp
    refine⟨m',hm,i+1,ys++[y],us++[xv],k+1,rg,H8,I9,T.keep _ _ _ b2 λb hb o e=>OG.extBut b o (FH b hb).2 e,b3,b4,?_,FI.append (.cons r8 .nil),w8⟩;show h9.get? D=_;rw[TF,List.push_toArray]
 refine codeAny_compStart_list (loop _ rfl) ?_;exact T.self _ 0 _ _ _ (T.keep _ _ _ st λb _ o e=>old b o e) (loop _ rfl)
def vY(wi:TI)(src:List (Option Nat))(g:TG)(tt:TT)(te:TE):TE:=λσ H Q=>wi σ H λJ H1=>oU J g tt te (λys H'=>∀D,H' D=none->Q (.ref D) (upd H' D (.lst ys))) (ĩ σ src) H1
section
theorem bY(Nc:ó)(src:List (Option Nat))(hc:X.calm=true)(hi:PI X tg iter wi)(hb:∀C fp Â s₂ Ü,PG (cxC X scope Nc C fp Â s₂ Ü) tg g/\PTs (cxC X scope Nc C fp Â s₂ Ü) ifs tt/\PE (cxC X scope Nc C fp Â s₂ Ü) elt te)(fN:∀C,Ğ X (compEnvC scope (cM X.env.cells scope.names []) C X.env) Nc src)(S:ē X scope)(hs:∀x,foldedSetIterable iter X.env x=pure x:=by intro _;rfl):PE X (.ListComp elt [⟨tg,iter,ifs,0⟩] scope pos) (vY wi src g tt te):=by intro Â s σ H Q I h;refine wpAny_comprehension_free (use:=none) rfl hs (pH S.hfree) S.kind S.hnames ?_;refine Ú (hi Â s σ H _ I h) λv s1 h1=>Ú h1 λFG s2 h2=>?_;obtain⟨it,fp,tn,J,H2,e,I2,T,st2,f2,hW⟩:=h2;subst e;refine sZ (RR:=λacc C=>compPost (model X.prog X.w) X.A X.xe none (EP X Â σ Q) acc C) hc S fN hb I2 T st2 f2 hW ?_;intro D C s' ys H' m fin nD J' hn fC;obtain⟨f0,f1,_,f3,f4,f5⟩:=fC;refine⟨m,hn,λTH w9=>?_⟩;exact⟨.ref D,_,J'.turned (t':=s'.toks) (λb o hb e=>w9.extBut b o hb e) f0 f1 f3 f4 f5,rfl,fin D nD⟩
def KQ(wi:TI)(src:List (Option Nat))(g:TG)(tt:TT)(te:TE)(i:Nat):TS:=λD σ H=>vY wi src g tt te σ H λv H'=>D.nx (σ.set i (some v)) H'
theorem jU{pos' CC:Pos}(Nc:ó)(src:List (Option Nat))(hc:X.calm=true)(hN:X.N.Nodup)(kg:X.N[i]?=some x)(hx:Loc X.env.scope x)(hi:PI X tg iter wi)(hb:∀C fp Â s₂ Ü,PG (cxC X scope Nc C fp Â s₂ Ü) tg g/\PTs (cxC X scope Nc C fp Â s₂ Ü) ifs tt/\PE (cxC X scope Nc C fp Â s₂ Ü) elt te)(fN:∀C,Ğ X (compEnvC scope (cM X.env.cells scope.names []) C X.env) Nc src)(S:ē X scope)(TJ:swapsWith (.ListComp elt [⟨tg,iter,ifs,0⟩] scope pos) (some (.Name x pos')) CC.line X.env=pure true:=by rfl)(hf:X.fn x=true\/X.env.scope.names.lookup x=some .local:=by first|exact .inl rfl|exact .inr rfl|assumption)(hs:∀x,foldedSetIterable iter X.env x=pure x:=by intro _;rfl):PS X (.Assign [.Name x pos'] (.ListComp elt [⟨tg,iter,ifs,0⟩] scope pos) CC) (KQ wi src g tt te i):=by
 intro Â s σ H D I h;rw[exec_Assign_Name_used _ _ _ _ TJ];refine Ä (wpAny_standAt (Ä ?_));refine Ä (Ú (wpAny_comprehension_free (use:=some (assign (.Name x pos') X.env)) (Q:=λ_ s'=>∃ah H',Æ X Â ah H' s'/\D.nx ah H') rfl hs (pH S.hfree) S.kind S.hnames ?_) λ_ s' hq=>Ó (Ó hq));refine Ú (hi Â s σ H _ I h) λv s1 h1=>Ú h1 λFG s2 h2=>?_;obtain⟨it,fp,tn,J,H2,e,I2,T,st2,f2,hW⟩:=h2;subst e;refine sZ (RR:=λacc C=>compPost (model X.prog X.w) X.A X.xe (some (assign (.Name x pos') X.env)) (λ_ s'=>∃ah H',Æ X Â ah H' s'/\D.nx ah H') acc C) hc S fN hb I2 T st2 f2 hW ?_;intro A C s' ys H' m fin nD J' hn fC;obtain⟨f0,f1,Z5,f3,f4,f5⟩:=fC;refine wpAny_assign_Name (jN J' hN kg hx (v:=.ref A) rfl (λlS TK TL=>?_) hf);have xb:∃m',lS.heap.Ns C m':=by
  obtain⟨a,sb,ha⟩:=TL;have gL:C≠a:=by grind
  exact⟨m,hn.sameBut sb gL⟩
 obtain⟨m',xb⟩:=xb;refine⟨m',xb,λTH w9=>?_⟩;exact⟨_,_,TK.turned (t':=lS.toks) (λb o hb e=>w9.extBut b o hb e) f0 f1 f3 f4 f5,fin A nD⟩
end
section
theorem bK:dH X (.builtin "isinstance") (λxs H Q=>∃x t n b,xs=[x,.ty n]/\Ī X.K H x t/\PySem.W.kitOne X.K t (.type n)=some b/\Q (.bl b) H):=by intro Â s σ H xs us Q I r h;obtain⟨x,t,n,b,rfl,ty,e,q⟩:=h;obtain⟨u,c,rfl,ru,rc⟩:=Ő r;obtain rfl:c=Value.type n:=rc;exact Bx I ru ty e λtk=>⟨.bl b,H,I.tok _,rfl,q⟩
theorem vZ(bs:List Bool):TruthOf prog w A (λi v=>∃b,bs[i]?=some b/\v=Value.bool b) (λi=>(bs[i]?).getD false):=by intro i v s Q E hP hQ;obtain⟨b,hb,rfl⟩:=hP;dsimp only at hQ;rw[hb]at hQ;exact wpAny_truthy_bool hQ
theorem ϖ(bs:List Bool):(List.range bs.length).all (λi=>(bs[i]?).getD false)=bs.all id:=by
 apply Za0.mpr;rw[ŀ,ŀ];constructor;.intro h b hb;obtain⟨i,hi,e⟩:=Zaw hb;have:=h i (ϡ.mpr hi);rw[é hi,e]at this;exact this
 .intro h i hi;have hi:=ϡ.mp hi;rw[é hi];exact h _ (į hi)
theorem jh:∀{bs:List Bool}{us:â},Î (bs.map V.bl) us->us=bs.map Value.bool|[],_,.nil=>rfl|_::bs,_,.cons r t=>by rw[jh (bs:=bs) t,show _=Value.bool _ from r];rfl
theorem gq(hc:X.calm=true):dH X (.builtin "all") (λxs H Q=>∃(p:Addr)(bs:List Bool),xs=[.ref p]/\Ï X.K H p (bs.map V.bl)/\Q (.bl (bs.all id)) H):=by
 intro Â s σ H xs us Q I r h;obtain⟨p,bs,rfl,hq,q⟩:=h;obtain⟨u,rfl,ru⟩:=þ r;cases ru;obtain⟨its,rv,pl,hz⟩:=I.list hq;have ei:=jh rv;subst ei;have av:p<s.heap.objs.size:=by obtain⟨_,e,_⟩:=pl.isList;exact í e
 refine call_all_walk (wpAny_pyIter_list pl.isList ?_);have W:=Walks.list (prog:=X.prog) (w:=X.w) (A:=X.A.in1) (I.ok.hd hc) s.heap.objs.size p (ė av) (bs.map Value.bool).toArray;refine⟨_,_,_,_,_,_,_,rfl,{sub:=W.sub,frame:=W.frame,item:=λi s Q E hi st hQ=>W.item i s Q E hi st λv h' tk hP=>hQ v h' tk ?_,done:=W.done,self:=W.self},⟨⟨_,Ę _ rfl,rfl,rfl⟩,pl.isList.push _⟩,vZ bs,λh' tk k=>?_⟩;.have CD:(bs.map Value.bool).toArray[i]?=some v:=hP;rw[List.getElem?_toArray,ģ]at CD;cases e:bs[i]? with|none=>rw[e]at CD;cases CD;|some b=>rw[e]at CD;exact⟨b,rfl,(ĭ CD).symm⟩
 .have hsz:(bs.map Value.bool).toArray.size=bs.length:=by simp
  rw[hsz,ϖ];refine⟨.bl _,H,?_,rfl,q⟩;refine I.kept (h':=h') (t':=tk) λb o e=>k b o ?_ (ë _ e);intro z;have:b=s.heap.objs.size:=by simpa using z
  exact absurd (í e) (by rw[this];exact Τ _)
end
theorem nO{K:Frag}:PySem.W.kitOne K (.type "NoneType") (.type "int")=some false:=by kernel_rfl
theorem lZ{K:Frag}:PySem.W.kitOne K (.type "NoneType") (.type "bool")=some false:=by kernel_rfl
theorem lB{K:Frag}:PySem.W.kitOne K (.type "NoneType") (.type "tuple")=some false:=by kernel_rfl
theorem uF{K:Frag}:PySem.W.kitOne K (.type "bool") (.type "int")=some true:=by kernel_rfl
theorem rH{K:Frag}:PySem.W.kitOne K (.type "bool") (.type "bool")=some true:=by kernel_rfl
theorem qg{K:Frag}:PySem.W.kitOne K (.type "bool") (.type "tuple")=some false:=by kernel_rfl
theorem w5{K:Frag}:PySem.W.kitOne K (.type "int") (.type "int")=some true:=by kernel_rfl
theorem uG{K:Frag}:PySem.W.kitOne K (.type "int") (.type "bool")=some false:=by kernel_rfl
theorem rJ{K:Frag}:PySem.W.kitOne K (.type "int") (.type "tuple")=some false:=by kernel_rfl
theorem wg{K:Frag}:PySem.W.kitOne K (.type "str") (.type "int")=some false:=by kernel_rfl
theorem uH{K:Frag}:PySem.W.kitOne K (.type "str") (.type "bool")=some false:=by kernel_rfl
theorem rK{K:Frag}:PySem.W.kitOne K (.type "str") (.type "tuple")=some false:=by kernel_rfl
theorem uI{K:Frag}:PySem.W.kitOne K (.type "list") (.type "int")=some false:=by kernel_rfl
theorem rM{K:Frag}:PySem.W.kitOne K (.type "list") (.type "bool")=some false:=by kernel_rfl
theorem qi{K:Frag}:PySem.W.kitOne K (.type "list") (.type "tuple")=some false:=by kernel_rfl
theorem rN{K:Frag}:PySem.W.kitOne K (.type "tuple") (.type "int")=some false:=by kernel_rfl
theorem qj{K:Frag}:PySem.W.kitOne K (.type "tuple") (.type "bool")=some false:=by kernel_rfl
theorem ph{K:Frag}:PySem.W.kitOne K (.type "tuple") (.type "tuple")=some true:=by kernel_rfl
theorem uJ{K:Frag}:PySem.W.kitOne K (.type "dict") (.type "int")=some false:=by kernel_rfl
theorem rO{K:Frag}:PySem.W.kitOne K (.type "dict") (.type "bool")=some false:=by kernel_rfl
theorem ql{K:Frag}:PySem.W.kitOne K (.type "dict") (.type "tuple")=some false:=by kernel_rfl
section
variable{κ:Type}[DecidableEq κ]
def dM(kvs:List (κ×V))(k:κ):Option V:=(kvs.find? λkv=>decide (kv.1=k)).map (·.2)
def ā(kvs:List (κ×V))(k:κ)(v:V):List (κ×V):=if(kvs.any λkv=>decide (kv.1=k))=true then kvs.map (λkv=>if kv.1=k then(kv.1,v)else kv)else kvs++[(k,v)]
theorem di{k:κ}(e:p.1=k):dM (p::r) k=some p.2:=by simp[dM,e]
theorem dq{k:κ}(e:¬p.1=k):dM (p::r) k=dM r k:=by simp[dM,e]
theorem ig(k:κ):∀kvs:List (κ×V),(kvs.any λkv=>decide (kv.1=k))=(dM kvs k).isSome
 |[]=>rfl|p::r=>by
  rw[List.any_cons];by_cases e:p.1=k;.simp only[di e,decide_eq_true e,Bool.true_or,Option.isSome_some]
  .rw[dq e,ĉ e];exact ig k r
theorem wj(k j:κ)(y:V):∀kvs:List (κ×V),dM (kvs.map λkv=>if kv.1=k then(kv.1,y)else kv) j=(dM kvs j).map λx=>if j=k then y else x
 |[]=>rfl|p::r=>by
  have ih:=wj k j y r;rw[ϝ];by_cases h:p.1=k
  .rw[Í h];by_cases e:p.1=j;.rw[di (p:=(p.1,y)) e,di e,Option.map_some,Í (e.symm.trans h)]
   .rw[dq (p:=(p.1,y)) e,dq e,ih]
  .rw[Ë h];by_cases e:p.1=j;.rw[di (p:=p) e,di e,Option.map_some,Ë (λz=>h (e.trans z))]
   .rw[dq (p:=p) e,dq e,ih]
theorem tu(k j:κ)(y:V):∀kvs:List (κ×V),dM kvs k=none->dM (kvs++[(k,y)]) j=if j=k then some y else dM kvs j
 |[],_=>by
  by_cases e:k=j;.rw[Í e.symm];exact di (p:=(k,y)) e
  .rw[Ë (λz=>e z.symm)];exact dq (p:=(k,y)) e;|p::r,hn=>by
  rw[List.cons_append];have hk:¬p.1=k:=λz=>by rw[di z]at hn;cases hn
  rw[dq hk]at hn;have ih:=tu k j y r hn;by_cases e:p.1=j;.rw[di e,di e,Ë (λz=>hk (e.trans z))]
  .rw[dq e,dq e,ih]
theorem jz(kvs:List (κ×V))(k j:κ)(y:V):dM (ā kvs k y) j=if j=k then some y else dM kvs j:=by
 unfold ā;by_cases a:(kvs.any λkv=>decide (kv.1=k))=true
 .rw[Í a,wj];rw[ig]at a;by_cases e:j=k;.obtain⟨x,hx⟩:=Zay.mp a;rw[Í e,e,hx,Option.map_some,Í rfl]
  .rw[Ë e];cases dM kvs j with|none=>rfl;|some x=>rw[Option.map_some,Ë e]
 .rw[Ë a];refine tu k j y kvs ?_;rw[ig]at a;cases q:dM kvs k with|none=>rfl;|some x=>rw[q]at a;exact(a rfl).elim
theorem jA(kvs:List (κ×V))(k:κ)(v:V):(ā kvs k v).length<=kvs.length+1:=by
 unfold ā;split;.rw[Ý];simp
 .rw[ý,ľ,List.length_nil];simp
theorem qm{k:κ}(v:V)(h:dM kvs k=none):ā kvs k v=kvs++[(k,v)]:=by unfold ā;rw[ig,h];exact Ë Ù
theorem ņ.isSome_eq(r:ņ o u):o.isSome=u.isSome:=by cases o with
 |none=>cases u with|none=>rfl;|some _=>exact(r).elim
 |some _=>cases u with|none=>exact(r).elim;|some _=>rfl
theorem KV.val(r:KV kvs vs)(k:κ):ņ (dM kvs k) (valueAt vs k):=by induction r with|nil=>exact True.intro;|@cons p q ps qs h t ih=>
  obtain⟨h1,h2⟩:=h;by_cases e:p.1=k
  .have e':q.1=k:=h1.symm.trans e;have b:valueAt (q::qs) k=some q.2:=by simp[valueAt,e']
   rw[di e,b];exact h2
  .have e':¬q.1=k:=λz=>e (h1.trans z);have b:valueAt (q::qs) k=valueAt qs k:=by simp[valueAt,e']
   rw[dq e,b];exact ih
theorem KV.any(r:KV kvs vs)(k:κ):(kvs.any λkv=>decide (kv.1=k))=vs.any λkv=>decide (kv.1=k):=by induction r with|nil=>rfl;|cons h t ih=>rw[List.any_cons,List.any_cons,ih,h.1]
theorem KV.repl(r:KV kvs vs)(k:κ)(ry:Ñ y u):KV (kvs.map λkv=>if kv.1=k then(kv.1,y)else kv) (vs.map λkv=>if kv.1=k then(kv.1,u)else kv):=by induction r with|nil=>exact .nil;|@cons p q ps qs h t ih=>
  rw[ϝ,ϝ];refine .cons ?_ ih;obtain⟨h1,h2⟩:=h;by_cases e:p.1=k;.rw[Í e,Í (h1.symm.trans e)];exact⟨h1,ry⟩
  .rw[Ë e,Ë (λz=>e (h1.trans z))];exact⟨h1,h2⟩
theorem KV.put(r:KV kvs vs)(k:κ)(ry:Ñ y u):KV (ā kvs k y) (stored vs k u):=by
 unfold ā stored;rw[r.any k];by_cases e:(vs.any λkv=>decide (kv.1=k))=true;.rw[Í e,Í e];exact r.repl k ry
 .rw[Ë e,Ë e];exact Paired.snoc r ⟨rfl,ry⟩
theorem KV.length{vs:List (κ×Value)}(r:KV kvs vs):kvs.length=vs.length:=Paired.length r
end
theorem wu(r:Ñ (kV k) u):(cg P w).is k u=true:=by cases k with|inl i=>obtain⟨t,e⟩:=(r);subst e;exact vM P w i t;|inr x=>obtain⟨t,e⟩:=(r);subst e;exact vN P w x t
theorem tE:∀{ks:List Key}{us:â},Î (ks.map kV) us->ItemsAre (cg P w) ks us|[],_,r=>by rw[List.map_nil]at r;cases r;exact .nil;|k::ks,_,r=>by cases r with|cons h t=>exact .cons (wu h) (tE t)
abbrev KT(H:Hp):List (List Key×V)->List (List Key×Addr×Value)->Prop:=Paired λp q=>p.1=q.1/\H q.2.1=some (.tup (p.1.map kV))/\Ñ p.2 q.2.2
theorem KT.val(r:KT H kvs xs)(k:List Key):ņ (dM kvs k) ((atKey xs k).map (·.2)):=by induction r with|nil=>exact True.intro;|@cons p q ps qs h t ih=>
  obtain⟨h1,_,h2⟩:=h;by_cases e:p.1=k
  .have e':q.1=k:=h1.symm.trans e;have b:atKey (q::qs) k=some q.2:=by simp[atKey,e']
   rw[di e,b];exact h2
  .have e':¬q.1=k:=λz=>e (h1.trans z);have b:atKey (q::qs) k=atKey qs k:=by simp[atKey,e']
   rw[dq e,b];exact ih
theorem KT.repl(r:KT H kvs xs)(k:List Key)(ry:Ñ y u):KT H (kvs.map λkv=>if kv.1=k then(kv.1,y)else kv) (xs.map (putAt k u)):=by induction r with|nil=>exact .nil;|@cons p q ps qs h t ih=>
  rw[ϝ];refine .cons ?_ ih;obtain⟨h1,h2,h3⟩:=h;unfold putAt;by_cases e:p.1=k;.rw[Í e,Í (h1.symm.trans e)];exact⟨h1,h2,ry⟩
  .rw[Ë e,Ë (λz=>e (h1.trans z))];exact⟨h1,h2,h3⟩
theorem KT.put(r:KT H kvs xs)(k:List Key)(hb:H b=some (.tup (k.map kV)))(ry:Ñ y u):KT H (ā kvs k y) (storedH xs k b u):=by
 have e:(kvs.any λkv=>decide (kv.1=k))=(atKey xs k).isSome:=by rw[ig,(r.val k).isSome_eq,Option.isSome_map]
 unfold ā storedH;rw[e];by_cases q:(atKey xs k).isSome=true;.rw[Í q,Í q];exact r.repl k ry
 .rw[Ë q,Ë q];exact Paired.snoc r ⟨rfl,hb,ry⟩
theorem KT.keeps(r:KT H kvs xs)(ht:∀b ys,H b=some (.tup ys)->H' b=some (.tup ys)):KT H' kvs xs:=Paired.mapP r λ_ _ z=>⟨z.1,ht _ _ z.2.1,z.2.2⟩
section
theorem JW(ok:û P w H h)(e:Rd H a u):Ö P w H h a u:=e.ok ok
theorem zH(ok:û P w H h)(e:Rd H a (.dK kvs)):kvs.length<=sizeLine/\(a==sysModules)=false/\∃vs,KV kvs vs/\h.DictOf (cg P w) a vs:=show Ö P w H h a (.dK kvs)from JW ok e
theorem Nj(ok:û P w H h)(e:H a=some (.dK kvs)):kvs.length<=sizeLine/\(a==sysModules)=false/\∃vs,KV kvs vs/\h.DictOf (cg P w) a vs:=zH ok (.inl e)
theorem uK(ok:û P w H h)(e:H a=some (.tup (ks.map kV))):(tupleKind (cg P w)).is h ks a:=by obtain⟨_,its,r,o,h1,h2,n,h3⟩:=(ok a _ e);exact⟨o,its.toArray,n,h1,h2,h3,by simpa using tE r⟩
theorem zJ(ok:û P w H h)(e:Rd H a (.dT kvs)):kvs.length<=sizeLine/\(a==sysModules)=false/\∃xs,KT H kvs xs/\h.DictOfH (tupleKind (cg P w)) a xs:=by
 obtain⟨z,y,xs,r,o,es,ep,h1,h2,h3,h4,h5⟩:=(JW ok e);refine⟨z,y,xs,r,o,es,ep,h1,h2,h3,h4,λx hx=>?_,h5⟩;have all:∀{l:List (List Key×V)}{m:List (List Key×Addr×Value)},KT H l m->∀x∈m,(tupleKind (cg P w)).is h x.1 x.2.1:=by intro l m q;induction q with|nil=>intro x hx;exact nomatch hx;|@cons p q ps qs hq t ih=>
   intro x hx;rcases Ļ.mp hx with e|hx;.subst e;exact uK ok (by rw[<-hq.1];exact hq.2.1)
   .exact ih x hx
 exact all r x hx
theorem Nk(ok:û P w H h)(e:H a=some (.dT kvs)):kvs.length<=sizeLine/\(a==sysModules)=false/\∃xs,KT H kvs xs/\h.DictOfH (tupleKind (cg P w)) a xs:=zJ ok (.inl e)
end
def Ĳ(H:Hp)(a:Addr)(y:V)(r:Option V):Prop:=(∃kvs k,Rd H a (.dK kvs)/\y=kV k/\r=dM kvs k)\/∃kvs k b,Rd H a (.dT kvs)/\y=.ref b/\H b=some (.tup (k.map kV))/\r=dM kvs k
def ϵ(H:Hp)(a:Addr)(y v:V)(H':Hp):Prop:=(∃kvs k,H a=some (.dK kvs)/\y=kV k/\kvs.length<sizeLine/\H'=upd H a (.dK (ā kvs k v)))\/∃kvs k b,H a=some (.dT kvs)/\y=.ref b/\H b=some (.tup (k.map kV))/\kvs.length<sizeLine/\H'=upd H a (.dT (ā kvs k v))
theorem Ĳ.t(e:H a=some (.dT kvs))(eb:H b=some (.tup (k.map kV))):Ĳ H a (.ref b) (dM kvs k):=.inr ⟨kvs,k,b,.inl e,rfl,eb,rfl⟩
theorem ϵ.t(e:H a=some (.dT kvs))(eb:H b=some (.tup (k.map kV)))(hl:kvs.length<sizeLine):ϵ H a (.ref b) v (upd H a (.dT (ā kvs k v))):=.inr ⟨kvs,k,b,e,rfl,eb,hl,rfl⟩
section
variable{σ:St}
theorem Æ.big(I:Æ X Â σ H s):sysModules<s.heap.objs.size:=by have h:mainGlobals<s.heap.objs.size:=(I.mod.glob.keeps I.bk).lt;exact Nat.lt_trans Ù h
theorem BK(hu:A.units+1<cLine)(I:Æ X Â σ H s)(g:Ĳ H a y (some v))(ry:Ñ y u)(h:∀w' s',Æ X Â σ H s'->Ñ v w'->Q w' s'):wpAny (model X.prog X.w) A (getItem (.ref a) u) Q E s:=by
 rcases g with⟨kvs,k,e,ey,l⟩|⟨kvs,k,b,e,ey,eb,l⟩;.subst ey;obtain⟨z,hd,vs,rel,dd⟩:=zH I.hok e;obtain⟨w',hw,iE⟩:=ņ.some_of (v:=v) (o:=valueAt vs k) (by rw[l];exact rel.val k);exact wpAny_getItem_of (wu ry) dd.mapOf hw (h w' _ (I.tok _) iE)
 .subst ey;cases(ry);obtain⟨z,hd,xs,rel,dd⟩:=zJ I.hok e;obtain⟨w',hw,iE⟩:=ņ.some_of (v:=v) (o:=(atKey xs k).map (·.2)) (by rw[l];exact rel.val k);obtain⟨p,hp,ma⟩:=Option.map_eq_some_iff.mp hw;refine wpAny_getItem_heap (tupleKind_room_in1 hu) (uK I.hok eb) dd hp ?_;rw[ma];exact h w' _ (I.tok _) iE
theorem HS(hu:A.units+1<cLine)(I:Æ X Â σ H s)(g:Ĳ H a y o)(ry:Ñ y u)(h:∀s',Æ X Â σ H s'->Q (.bool (!o.isSome)) s'):wpAny (model X.prog X.w) A (compareOp .NotIn u (.ref a)) Q E s:=by
 rcases g with⟨kvs,k,e,ey,l⟩|⟨kvs,k,b,e,ey,eb,l⟩;.subst ey;obtain⟨z,hd,vs,rel,dd⟩:=zH I.hok e;refine wpAny_notIn_of (wu ry) hd dd.mapOf ?_;rw[<-(rel.val k).isSome_eq,<-l];exact h _ (I.tok _)
 .subst ey;cases(ry);obtain⟨z,hd,xs,rel,dd⟩:=zJ I.hok e;refine wpAny_notIn_heap (tupleKind_room_in1 hu) (uK I.hok eb) hd dd ?_;have q:=(rel.val k).isSome_eq;rw[Option.isSome_map]at q;rw[<-q,<-l];exact h _ (I.tok _)
theorem zK(I:Æ X Â σ H s)(mu:Mut (H a))(hs:Heap.SameBut a s.heap h')(he:∃q,h'.get? a=some q)(new:Ö X.prog X.w (upd H a ob) h' a ob):Æ X Â σ (upd H a ob) {s with heap:=h',toks:=t'}:=I.write (x:=a) (e:=a) mu (.inl rfl) (λb q hb z=>(hs.2 b hb).trans z) he new
theorem DW(z:kvs.length<=sizeLine)(hd:(a==sysModules)=false)(rel:KV kvs vs)(dd:h'.DictOf (cg P w) a vs):Ö P w H' h' a (.dK kvs):=⟨z,hd,vs,rel,dd⟩
theorem BL(hu:A.units+1<cLine)(I:Æ X Â σ H s)(g:ϵ H a y v H')(ry:Ñ y u)(rv:Ñ v r)(h:∀s',Æ X Â σ H' s'->Q () s'):wpAny (model X.prog X.w) A (setItem (.ref a) u r) Q E s:=by
 rcases g with⟨kvs,k,e,ey,l,eH⟩|⟨kvs,k,b,e,ey,eb,l,eH⟩
 .subst ey eH;obtain⟨z,hd,vs,rel,dd⟩:=Nj I.hok e;have hz:vs.length<=sizeLine:=by rw[<-rel.length];exact z
  have hl:(ā kvs k v).length<=sizeLine:=by have:=jA kvs k v;omega
  refine wpAny_setItem_pairs (hsz:=hz) (wu ry) dd λh' AJ hs=>h _ ?_;have he:∃q,h'.get? a=some q:=by obtain⟨q,_,_,hq,_⟩:=AJ;exact⟨q,hq⟩
  exact zK I (by rw[e];exact True.intro) hs he (DW hl hd (rel.put k rv) AJ)
 .subst ey eH;cases(ry);obtain⟨z,hd,xs,rel,dd⟩:=Nk I.hok e;have hz:xs.length<=sizeLine:=by rw[<-Paired.length rel];exact z
  have hl:(ā kvs k v).length<=sizeLine:=by have:=jA kvs k v;lia
  refine wpAny_setItem_heap (hsz:=hz) (tupleKind_room_in1 hu) (uK I.hok eb) dd λh' AJ hs=>h _ ?_;obtain⟨q,es,ep,hq,h2,h3,h4,_,h5⟩:=AJ;refine zK I (by rw[e];exact True.intro) hs ⟨q,hq⟩ ⟨hl,hd,_,(rel.put k eb rv).keeps λc ys ec=>?_,q,es,ep,hq,h2,h3,h4,h5⟩;rw[aA (MF ec e (λz=>nomatch z))];exact ec
end
section
end
def Nm(i:Expr):Prop:=∀ov iv,subscripted i false ov iv=operate [ov,iv] (getItem ov iv)
theorem HW{T id:String}(hl:typeLookup (.type T) "__getitem__"=pure (some (.builtin id)))(hs:Nm slice)(h:wpAny (model prog w) A (eval value env) (λo s₁=>wpAny (model prog w) A (eval slice env) (λi s₂=>s₂.TypeIs o T/\wpAny (model prog w) A (getItem o i) Q E s₂) E s₁) E s):wpAny (model prog w) A (eval (.Subscript value slice pos) env) Q E s:=by
 refine Subscript_ (wpAny_mono h (λo s₁ h₁=>wpAny_mono h₁ (λi s₂ nB=>?_) λ_ _ x=>x) λ_ _ x=>x);obtain⟨hT,nB⟩:=nB;refine Ä ?_;refine Ä (wpAny_specialOf hT hl ?_);have fin:wpAny (model prog w) A (subscripted slice false o i) (λr s₃=>wpAny (model prog w) A (letTemporaryGo value o r>>=λ_=>pure r) Q E s₃) E s₂:=by rw[hs o i];exact wpAny_operating (wpAny_mono nB (λr s₃ rq=>Ä (wpAny_letTemporaryGo (Ó rq))) λ_ _ x=>x)
 first|exact Ó (Ä fin);|exact Ä (Ó (Ä fin));|exact Ä fin
theorem wy{σ:St}(I:Æ X Â σ H s)(g:Ĳ H a y o):s.TypeIs (.ref a) "dict":=by
 rcases g with⟨kvs,k,e,_,_⟩|⟨kvs,k,b,e,_,_,_⟩;.obtain⟨_,_,vs,_,dd⟩:=zH I.hok e;exact dd.typeIs
 .obtain⟨_,_,xs,_,dd⟩:=zJ I.hok e;exact dd.typeIs
def Np(td ty:TE):TE:=λσ H Q=>td σ H λx H1=>ty σ H1 λy H2=>∃a v,x=.ref a/\Ĳ H2 a y (some v)/\Q v H2
def HX(ty td:TE):TE:=λσ H Q=>ty σ H λy H1=>td σ H1 λx H2=>∃a o,x=.ref a/\Ĳ H2 a y o/\Q (.bl (!o.isSome)) H2
def Nq(td ty tv:TE):TS:=λD σ H=>tv σ H λv H1=>td σ H1 λx H2=>ty σ H2 λy H3=>∃a H4,x=.ref a/\ϵ H3 a y v H4/\D.nx σ H4
section
theorem mj(hu:X.A.units+1<cLine)(ho:PE X o td)(hi:PE X i ty)(hs:Nm i):PE X (.Subscript o i pos) (Np td ty):=by intro Â s σ H Q I h;refine HW PySem.F.slot_dict_getitem.lookup hs (Ú (ho Â s σ H _ I h) λu s1⟨x,H1,I1,rx,q1⟩=>Ú (hi Â s1 σ H1 _ I1 q1) λiv s2=>?_);rintro⟨y,H2,I2,ry,a,v,ex,g,q2⟩;subst ex;obtain rfl:u=Value.ref a:=rx;exact⟨wy I2 g,BK hu I2 g ry λw' s3 I3 iE=>⟨v,H2,I3,iE,q2⟩⟩
theorem BP(hu:X.A.units+1<cLine)(hi:PE X i ty)(ho:PE X o td):PC X .NotIn i o (HX ty td):=by intro Â s σ H Q I h;refine Ú (hi Â s σ H _ I h) λiv s1⟨y,H1,I1,ry,q1⟩=>Ú (ho Â s1 σ H1 _ I1 q1) λu s2=>?_;rintro⟨x,H2,I2,rx,a,ov,ex,g,q2⟩;subst ex;obtain rfl:u=Value.ref a:=rx;exact HS hu I2 g ry λs3 I3=>⟨.bl (!ov.isSome),H2,I3,rfl,q2⟩
theorem HY(hu:X.A.units+1<cLine)(ho:PE X o td)(hi:PE X i ty)(hv:PE X value tv)(hs:swapsWith value (some (.Subscript o i pos')) pos.line X.env=pure false):PS X (.Assign [.Subscript o i pos'] value pos) (Nq td ty tv):=by intro Â s σ H D I h;refine wpAny_Assign_Subscript (Ú (hv Â s σ H _ I h) λr s1⟨v,H1,I1,rv,q1⟩=>Ú (ho Â s1 σ H1 _ I1 q1) λu s2⟨x,H2,I2,rx,q2⟩=>Ú (hi Â s2 σ H2 _ I2 q2) λiv s3=>?_) hs;rintro⟨y,H3,I3,ry,a,H4,ex,g,q3⟩;subst ex;obtain rfl:u=Value.ref a:=rx;exact BL hu I3 g ry rv λs4 I4=>⟨σ,H4,I4,q3⟩
end
theorem DX(h:Heap)(hb:sysModules<h.objs.size):Ö P w H (h.push {cls:=.type "dict",data:=.dict #[]}) h.objs.size (.dT []):=⟨ħ _,beq_eq_false_iff_ne.mpr (Ne.symm (ė hb)),[],.nil,_,#[],0,Ę _ rfl,⟨rfl,rfl,rfl⟩,rfl,rfl,List.nodup_nil⟩
def KR:TE:=λ_ H Q=>∀p,H p=none->Q (.ref p) (upd H p (.dT []))
section
theorem DY:PE X (.Dict [] [] pos) KR:=λÂ s σ H Q I h=>wpAny_Dict_empty ⟨.ref s.heap.objs.size,_,I.laid (a:=s.heap.objs.size) (o:=.dT []) (t':=s.toks) (λ_ _ q=>ë _ q) (Ø _) (DX s.heap I.big),rfl,h _ (I.hok.fresh (Ø _))⟩
end
def lC(kvs more:List (Key×V)):List (Key×V):=more.foldl (λacc kv=>ā acc kv.1 kv.2) kvs
theorem kI:∀(more kvs:List (Key×V)),(lC kvs more).length<=kvs.length+more.length|[],kvs=>by show kvs.length<=kvs.length+0;simp;|p::r,kvs=>by have h1:=kI r (ā kvs p.1 p.2);have h2:=jA kvs p.1 p.2;show(lC (ā kvs p.1 p.2) r).length<=_;rw[ľ];omega
section
end
section
end
section
end
section
end
def Ia:Key->PyData|.inl i=>.int i|.inr x=>.str x
mutual
inductive É(S:Addr->Prop)(H:Hp):V->PyData->Prop|non:É S H .non .none|bl(b:Bool):É S H (.bl b) (.bool b)|int(i:Int):É S H (.int i) (.int i)|str(x:Str):É S H (.str x) (.str x)|lst{a:Addr}{xs:List V}{ds:ü}(hs:S a)(e:H a=some (.lst xs))(r:Å S H xs ds):É S H (.ref a) (.list ds)|tup{a:Addr}{xs:List V}{ds:ü}(e:H a=some (.tup xs))(r:Å S H xs ds):É S H (.ref a) (.tuple ds)|dct{a:Addr}{ks:List (Key×Int)}(hs:S a)(e:H a=some (.dK (ks.map λp=>(p.1,V.int p.2)))):É S H (.ref a) (.dict (ks.map λp=>(Ia p.1,.int p.2)))
inductive Å(S:Addr->Prop)(H:Hp):List V->ü->Prop|nil:Å S H [] []|cons{v:V}{d:PyData}{vs:List V}{ds:ü}(h:É S H v d)(t:Å S H vs ds):Å S H (v::vs) (d::ds)
end
section
theorem Å.length:∀{vs:List V}{ds:ü},Å S H vs ds->vs.length=ds.length|_,_,.nil=>rfl|_,_,.cons _ t=>by rw[ľ,ľ,Å.length t]
theorem Å.get:∀{vs:List V}{ds:ü}{i:Nat}{v:V},Å S H vs ds->vs[i]?=some v->∃d,ds[i]?=some d/\É S H v d|_,_,_,_,.nil,e=>by simp at e;|_,_,0,_,.cons h _,e=>by simp at e;subst e;exact⟨_,rfl,h⟩;|_,_,i+1,v,.cons _ t,e=>by obtain⟨d,h1,h2⟩:=Å.get (i:=i) (v:=v) t (by simpa using e);exact⟨d,by simpa using h1,h2⟩
theorem Å.append:∀{vs ws:List V}{ds es:ü},Å S H vs ds->Å S H ws es->Å S H (vs++ws) (ds++es)|_,_,_,_,.nil,s=>s|_,_,_,_,.cons h t,s=>.cons h (Å.append t s)
theorem Å.take:∀{vs:List V}{ds:ü}(n:Nat),Å S H vs ds->Å S H (vs.take n) (ds.take n)|_,_,0,_=>.nil|_,_,_+1,.nil=>.nil|_,_,n+1,.cons h t=>.cons h (Å.take n t)
theorem Å.drop:∀{vs:List V}{ds:ü}(n:Nat),Å S H vs ds->Å S H (vs.drop n) (ds.drop n)|_,_,0,r=>r|_,_,_+1,.nil=>.nil|_,_,n+1,.cons _ t=>Å.drop n t
theorem Å.ints:∀(ns:VV),Å S H (ns.map V.int) (ns.map PyData.int)|[]=>.nil|n::ns=>.cons (.int n) (Å.ints ns)
mutual
theorem É.keep(ht:∀b xs,H b=some (.tup xs)->H' b=some (.tup xs))(hs:∀b o,S b->H b=some o->H' b=some o)(hS:∀b o,S b->H b=some o->S' b):∀{v:V}{d:PyData},É S H v d->É S' H' v d|_,_,.non=>.non|_,_,.bl b=>.bl b|_,_,.int i=>.int i|_,_,.str x=>.str x|_,_,.lst s e r=>.lst (hS _ _ s e) (hs _ _ s e) (Å.keep ht hs hS r)|_,_,.tup e r=>.tup (ht _ _ e) (Å.keep ht hs hS r)|_,_,.dct s e=>.dct (hS _ _ s e) (hs _ _ s e)
theorem Å.keep(ht:∀b xs,H b=some (.tup xs)->H' b=some (.tup xs))(hs:∀b o,S b->H b=some o->H' b=some o)(hS:∀b o,S b->H b=some o->S' b):∀{vs:List V}{ds:ü},Å S H vs ds->Å S' H' vs ds|_,_,.nil=>.nil|_,_,.cons h t=>.cons (É.keep ht hs hS h) (Å.keep ht hs hS t)
end
def tyD:PyData->String|.none=>"NoneType"|.bool _=>"bool"|.int _=>"int"|.str _=>"str"|.list _=>"list"|.tuple _=>"tuple"|.dict _=>"dict"
theorem É.ty{K:Frag}(h:É S H v d):Ī K H v (.type (tyD d)):=by cases h with|non=>exact .non;|bl b=>exact .bl b;|int i=>exact .int i;|str x=>exact .str x;|lst s e r=>exact .lst e;|tup e r=>exact .tup e;|dct s e=>exact .dK e
def nQ:PyData->Bool|.int _=>true|.bool _=>true|_=>false
def mq:PyData->Bool|.bool _=>true|_=>false
def du:PyData->Bool|.tuple _=>true|_=>false
theorem zM{K:Frag}(d:PyData):PySem.W.kitOne K (.type (tyD d)) (.type "int")=some (nQ d):=by
 cases d;.exact nO
 .exact uF
 .exact w5
 .exact wg
 .exact uI
 .exact rN
 .exact uJ
theorem wz{K:Frag}(d:PyData):PySem.W.kitOne K (.type (tyD d)) (.type "bool")=some (mq d):=by
 cases d;.exact lZ
 .exact rH
 .exact uG
 .exact uH
 .exact rM
 .exact qj
 .exact rO
theorem iw{K:Frag}(d:PyData):PySem.W.kitOne K (.type (tyD d)) (.type "tuple")=some (du d):=by
 cases d;.exact lB
 .exact qg
 .exact rJ
 .exact rK
 .exact qi
 .exact ph
 .exact ql
end
mutual
def sz:PyData->Nat|.none=>1|.bool _=>1|.int _=>1|.str _=>1|.list xs=>1+å xs|.tuple xs=>1+å xs|.dict kvs=>1+4*kvs.length
def å:ü->Nat|[]=>0|x::xs=>sz x+å xs
end
mutual
def ã:PyData->Bool|.none=>true|.bool _=>true|.int i=>decide (i.natAbs<2^128)|.str x=>decide (x.length<=10)&&x.cps.toList.all λc=>decide (c<16^8)|.list xs=>iW xs|.tuple xs=>iW xs|.dict kvs=>ji kvs
def iW:ü->Bool|[]=>true|x::xs=>ã x&&iW xs
def ji:List (PyData×PyData)->Bool|[]=>true|(.int i,.int j)::r=>decide (i.natAbs<2^128)&&decide (j.natAbs<2^128)&&ji r|(.str x,.int j)::r=>(decide (x.length<=10)&&x.cps.toList.all λc=>decide (c<16^8))&&decide (j.natAbs<2^128)&&ji r|_::_=>false
end
theorem pI{i:Int}(h:i.natAbs<2^128):(Str.ofString (toString i)).length<=130:=by
 have e:=int_text_length_le (a:=i) (k:=128) Ò (by
  by_cases h0:i.natAbs=0;.rw[h0];decide
  .exact(Nat.log2_lt h0).mpr h);rw[PySem.ofString_length];lia
theorem oV:∀(ts:ó)(k:Nat)(acc:Str),(textFrom k acc ts).length<=acc.length+piled ts
 |[],k,acc=>by show acc.length<=acc.length+0;simp;|t::r,k,acc=>by
  have h:=oV r (k+1) (acc++(if k>0 then", "else"":String)++t);have e:(acc++(if k>0 then", "else"":String)++t).length<=acc.length+2+t.length:=by
   rw[strLen_append,strLen_append];split;.show acc.length+2+t.length<=_;simp
   .show acc.length+0+t.length<=_;lia
  rw[piled_cons];show(textFrom (k+1) _ r).length<=_;omega
theorem wA(ts:ó):(listText ts).length<=piled ts+2:=by have h:=oV ts 0 "[";unfold listText;rw[strLen_append];have e1:(("[":Str)).length=1:=rfl;have e2:(("]":Str)).length=1:=rfl;lia
theorem zN(ts:ó):(Str.join ", " ts).length<=piled ts:=by
 by_cases h:ts=[];.subst h;show 0<=_;simp
 .have:=join_length_add ts h;omega
theorem uL(ts:ó):(tupleText ts).length<=piled ts+3:=by
 have h:=zN ts;unfold tupleText;rw[strLen_append,strLen_append];have e1:(("(":Str)).length=1:=rfl;have e2:((if ts.length==1 then",)"else")":String):Str).length<=2:=by
  split;.exact Ø 2
  .exact Nat.le_succ 1
 lia
theorem wB(ts:ó):(dictText ts).length<=piled ts+2:=by have h:=zN ts;unfold dictText;rw[strLen_append,strLen_append];have e1:(("{":Str)).length=1:=rfl;have e2:(("}":Str)).length=1:=rfl;lia
theorem qp{M:List (PyData×PyData)->Prop}(h0:M [])(h1:∀i j r,i.natAbs<2^128->j.natAbs<2^128->M r->M ((.int i,.int j)::r))(h2:∀x j r,(x.length<=10/\∀c∈x.cps.toList,c<16^8)->j.natAbs<2^128->M r->M ((.str x,.int j)::r)):∀kvs,ji kvs=true->M kvs
 |[],_=>h0|(k,v)::r,h=>by
  cases k<;>cases v<;>first|(simp[ji]at h;done)|skip
  all_goals simp only[ji,Bool.and_eq_true,ċ,List.all_eq_true]at h;first|exact h1 _ _ _ h.1.1 h.1.2 (qp h0 h1 h2 r h.2)|exact h2 _ _ _ h.1.1 h.1.2 (qp h0 h1 h2 r h.2)
theorem Λ:∀(kvs:List (PyData×PyData)),ji kvs=true->piled (PyData.shownKv kvs)<=400*kvs.length:=by
 have e1:((": ":Str)).length=2:=rfl;refine qp (Ø _) (λi j r a b ih=>?_) (λx j r a b ih=>?_);.have h1:=pI a;have h2:=pI b;show piled ((Str.ofString (toString i)++": "++Str.ofString (toString j))::PyData.shownKv r)<=_;rw[piled_cons,strLen_append,strLen_append,e1,ľ];omega
 .have h1:=StrLaws.reprText_len x a.2;have h2:=pI b;have:=a.1;show piled ((reprText x++": "++Str.ofString (toString j))::PyData.shownKv r)<=_;rw[piled_cons,strLen_append,strLen_append,e1,ľ];omega
mutual
theorem tG:∀(d:PyData),ã d=true->d.shown.length+2<=200*sz d
 |.none,_=>by decide+kernel;|.bool true,_=>by decide+kernel;|.bool false,_=>by decide+kernel;|.int i,h=>by have:=pI (i:=i) (by simpa[ã]using h);show(Str.ofString (toString i)).length+2<=200*1;lia;|.str x,h=>by
  have h':(decide (x.length<=10)&&x.cps.toList.all λc=>decide (c<16^8))=true:=h;rw[ą]at h';have h1:x.length<=10:=by simpa using h'.1
  have:=StrLaws.reprText_len x λc hc=>by simpa using ŀ.mp h'.2 c hc
  show(reprText x).length+2<=200*1;lia;|.list xs,h=>by have h1:=jj xs (by simpa[ã]using h);have h2:=wA (PyData.shownAll xs);show(listText (PyData.shownAll xs)).length+2<=200*(1+å xs);lia;|.tuple xs,h=>by have h1:=jj xs (by simpa[ã]using h);have h2:=uL (PyData.shownAll xs);show(tupleText (PyData.shownAll xs)).length+2<=200*(1+å xs);lia;|.dict kvs,h=>by have h1:=Λ kvs (by simpa[ã]using h);have h2:=wB (PyData.shownKv kvs);show(dictText (PyData.shownKv kvs)).length+2<=200*(1+4*kvs.length);lia
theorem jj:∀(xs:ü),iW xs=true->piled (PyData.shownAll xs)<=200*å xs|[],_=>by show 0<=_;lia;|x::xs,h=>by have h':(ã x&&iW xs)=true:=h;rw[ą]at h';have h1:=tG x h'.1;have h2:=jj xs h'.2;show piled (PyData.shown x::PyData.shownAll xs)<=200*(sz x+å xs);rw[piled_cons];lia
end
theorem rP:∀(kvs:List (PyData×PyData)),ji kvs=true->PyData.showableKv kvs=true:=by
 have big:∀{n:Int},n.natAbs<2^128->n.natAbs.log2<1920:=λ{n}hn=>by
  by_cases h0:n.natAbs=0;.rw[h0];decide
  .exact Nat.lt_trans ((Nat.log2_lt h0).mpr hn) Ò
 refine qp rfl (λi j r a b ih=>?_) (λx j r a b ih=>?_)<;>simp only[PyData.showableKv,PyData.showable,Bool.and_eq_true,ċ];.exact⟨⟨big a,big b⟩,ih⟩
 .exact⟨⟨trivial,big b⟩,ih⟩
mutual
theorem oW:∀(d:PyData),ã d=true->d.showable=true
 |.none,_=>rfl|.bool _,_=>rfl|.int i,h=>by
  have h':i.natAbs<2^128:=by simpa[ã]using h
  have:i.natAbs.log2<1920:=by
   by_cases h0:i.natAbs=0;.rw[h0];decide
   .exact Nat.lt_trans ((Nat.log2_lt h0).mpr h') Ù
  exact è this;|.str _,_=>rfl|.list xs,h=>by exact jk xs (by simpa[ã]using h);|.tuple xs,h=>by exact jk xs (by simpa[ã]using h);|.dict kvs,h=>by exact rP kvs (by simpa[ã]using h)
theorem jk:∀(xs:ü),iW xs=true->PyData.showableAll xs=true|[],_=>rfl|x::xs,h=>by have h':(ã x&&iW xs)=true:=h;rw[ą]at h';simp only[PyData.showableAll,Bool.and_eq_true];exact⟨oW x h'.1,jk xs h'.2⟩
end
theorem yC:∀(kvs:List (PyData×PyData)),ji kvs=true->PyData.depthKv kvs=0:=by refine qp rfl (λi j r a b ih=>?_) (λx j r a b ih=>?_)<;>simp only[PyData.depthKv,PyData.depth,ih]<;>rfl
mutual
theorem my:∀(d:PyData),ã d=true->d.depth<=sz d|.none,_=>ħ _|.bool _,_=>ħ _|.int i,_=>ħ _|.str _,_=>ħ _|.list xs,h=>by have:=nR xs (by simpa[ã]using h);simp only[PyData.depth,sz];lia;|.tuple xs,h=>by have:=nR xs (by simpa[ã]using h);simp only[PyData.depth,sz];lia;|.dict kvs,h=>by have:=yC kvs (by simpa[ã]using h);simp only[PyData.depth,sz];lia
theorem nR:∀(xs:ü),iW xs=true->PyData.depthAll xs<=å xs|[],_=>ħ _|x::xs,h=>by have h':(ã x&&iW xs)=true:=h;rw[ą]at h';have h1:=my x h'.1;have h2:=nR xs h'.2;simp only[PyData.depthAll,å];lia
end
section
variable{σ:St}{s:Shared}{S:Addr->Prop}
theorem qu:∀{ks:List (Key×Int)}{vs:List (Key×Value)}{es:List DictEntry},KV (ks.map λp=>(p.1,V.int p.2)) vs->Pairs (cg P w) es vs->(∃as,ReadsAll s.heap (es.map (·.key)) ((ks.map λp=>(Ia p.1,PyData.int p.2)).map (·.1)) as/\as=[])/\∃as,ReadsAll s.heap (es.map (·.val)) ((ks.map λp=>(Ia p.1,PyData.int p.2)).map (·.2)) as/\as=[]|[],vs,es,r,p=>by cases r;cases p;exact⟨⟨_,.nil,rfl⟩,⟨_,.nil,rfl⟩⟩;|(k,n)::ks,vs,es,r,p=>by cases r with|@cons a b l1 l2 h t=>cases p with|@cons e kv gv kvs' h1 h2 h3=>
    obtain⟨⟨_,i1,rfl⟩,⟨_,i2,rfl⟩⟩:=qu (ks:=ks) t h3;obtain⟨q1,q2⟩:=h;have OH:pO b.1 e.key=true:=h1;rw[<-q1]at OH;obtain⟨tv,TM⟩:∃t,b.2=Value.int n t:=q2;rw[TM]at h2;refine⟨⟨_,?_,rfl⟩,⟨_,?_,rfl⟩⟩
    .show ReadsAll s.heap (e.key::gv.map (·.key)) (Ia k::_) ([]++[]);rcases cu OH with⟨i,tk,ei,ev⟩|⟨x,tk,ei,ev⟩;.have ei:k=Sum.inl i:=ei;rw[ev,ei];exact .cons (.int _ _) i1
     .have ei:k=Sum.inr x:=ei;rw[ev,ei];exact .cons (.str _ _) i1
    .show ReadsAll s.heap (e.val::gv.map (·.val)) (PyData.int n::_) ([]++[]);rw[h2];exact .cons (.int _ _) i2
mutual
theorem É.reads(I:Æ X Â σ H s):∀{v:V}{d:PyData}{u:Value},É S H v d->Ñ v u->∃as,Reads s.heap u d as/\∀a∈as,S a
 |_,_,_,.non,r=>by cases(show _=Value.none from r);exact⟨[],.none,λ_ h=>nomatch h⟩;|_,_,_,.bl b,r=>by cases(show _=Value.bool b from r);exact⟨[],.bool b,λ_ h=>nomatch h⟩;|_,_,_,.int i,r=>by obtain⟨t,rfl⟩:=r;exact⟨[],.int i t,λ_ h=>nomatch h⟩;|_,_,_,.str x,r=>by obtain⟨t,rfl⟩:=r;exact⟨[],.str x t,λ_ h=>nomatch h⟩;|_,_,_,@É.lst _ _ a xs ds hs e t,r=>by
  cases(show _=Value.ref a from r);obtain⟨_,its,n,rv,ho⟩:=(I.hok a _ e);obtain⟨as,h1,h2⟩:=Å.reads I t rv;refine⟨a::as,.list ho rfl rfl (by simpa using h1),λb hb=>?_⟩;rcases Ļ.mp hb with z|z;.rw[z];exact hs
  .exact h2 b z;|_,_,_,@É.tup _ _ a xs ds e t,r=>by cases(show _=Value.ref a from r);obtain⟨_,its,rv,o,ho,hc,n,hd⟩:=(show Ö X.prog X.w H s.heap a (.tup xs)from I.hok a _ e);obtain⟨as,h1,h2⟩:=Å.reads I t rv;exact⟨as,.tuple ho hc hd (by simpa using h1),h2⟩;|_,_,_,@É.dct _ _ a ks hs e,r=>by cases(show _=Value.ref a from r);obtain⟨_,_,vs,rel,o,es,ep,ho,hx,hd,_,hp,_⟩:=(show Ö X.prog X.w H s.heap a (.dK _)from I.hok a _ e);obtain⟨⟨_,i1,rfl⟩,⟨_,i2,rfl⟩⟩:=qu (s:=s) rel hp;refine⟨a::[]++[],.dict ho hx.1 hd i1 i2,λb hb=>?_⟩;rw[show b=a by simpa using hb];exact hs
theorem Å.reads(I:Æ X Â σ H s):∀{vs:List V}{ds:ü}{us:â},Å S H vs ds->Î vs us->∃as,ReadsAll s.heap us ds as/\∀a∈as,S a|_,_,_,.nil,r=>by cases r;exact⟨[],.nil,λ_ h=>nomatch h⟩;|_,_,_,.cons h t,r=>by cases r with|cons r1 r2=>obtain⟨as,h1,h2⟩:=É.reads I h r1;obtain⟨bs,h3,h4⟩:=Å.reads I t r2;exact⟨as++bs,.cons h1 h3,λb hb=>(Ą.mp hb).elim (h2 b) (h4 b)⟩
end
theorem tH(hg:X.A.guards=some [])(hS:¬S sysModules):dH X (.builtin "repr") (λxs H Q=>∃v d,xs=[v]/\É S H v d/\ã d=true/\sz d<=4000/\X.A.units+(sz d+1)<cLine/\Q (.str d.shown) H):=by
 intro Â s σ H xs us Q I r h;obtain⟨v,d,rfl,th,tm,hz,hu,q⟩:=h;obtain⟨u,rfl,ru⟩:=þ r;have hl:=tG d tm;have hsz:d.shown.length<=sizeLine:=by rw[sizeLine_eq];lia
 have fin:∀t h' tk,(∀b o,s.heap.get? b=some o->h'.get? b=some o)->EP X Â σ Q (.str d.shown t) {s with heap:=h',toks:=tk}:=λt h' tk k=>⟨.str d.shown,H,I.kept k,⟨t,rfl⟩,q⟩
 have ki:=oW d tm;cases th with|non=>cases(show u=Value.none from ru);exact PySem.P.repr_of_none (fin _ s.heap _ λ_ _ e=>e);|bl b=>cases(ru);exact PySem.P.repr_of_bool (fin _ s.heap _ λ_ _ e=>e);|int i=>
  obtain⟨t,rfl⟩:=ru;have:i.natAbs.log2<1920:=by simpa[PyData.showable]using ki
  exact PySem.P.repr_of_int this (fin _ s.heap _ λ_ _ e=>e);|str x=>obtain⟨t,rfl⟩:=ru;exact PySem.P.repr_of_str (fin _ s.heap _ λ_ _ e=>e) hsz;|@lst a xs ds hs e t=>obtain⟨as,rd,ha⟩:=(É.lst hs e t).reads I ru;cases(show u=Value.ref a from ru);exact repr_of_reads' rd ki (λ_ hm=>hS (ha _ hm)) hg (by have:=my _ tm;lia) (λb o e=>e) (λh' t tk k=>fin t h' tk k) hsz;|@tup a xs ds e t=>obtain⟨as,rd,ha⟩:=(É.tup (S:=S) e t).reads I ru;cases(show u=Value.ref a from ru);exact repr_of_reads' rd ki (λ_ hm=>hS (ha _ hm)) hg (by have:=my _ tm;lia) (λb o e=>e) (λh' t tk k=>fin t h' tk k) hsz;|@dct a ks hs e=>obtain⟨as,rd,ha⟩:=(É.dct hs e).reads I ru;cases(show u=Value.ref a from ru);exact repr_of_reads' rd ki (λ_ hm=>hS (ha _ hm)) hg (by have:=my _ tm;grind) (λb o e=>e) (λh' t tk k=>fin t h' tk k) hsz
end
section
theorem tK(hu:X.A.units<cLine):Ċ X (compareOp .Eq) (λx y H Q=>∃a b xs,x=.ref a/\y=.ref b/\Ì X.K H a xs/\Ì X.K H b []/\Q (.bl xs.isEmpty) H):=by
 intro Â s σ H x y v u Q I rx ry h;obtain⟨a,b,xs,rfl,rfl,ha,hb,q⟩:=h;cases rx;cases ry;obtain⟨its,r1,p1,_⟩:=I.tuple ha;obtain⟨aS,r2,p2,_⟩:=I.tuple hb;have e2:aS=[]:=r2.zero;subst e2;refine PySem.SeqAt.eq_tupleAt (e:=λ_=>true) p1 p2 hu (λj h1 h2=>absurd h2 Ò) ?_;have e3:((List.range (min its.toArray.size ([]:â).toArray.size)).all (λ_=>true)&&its.toArray.size==([]:â).toArray.size)=xs.isEmpty:=by have:=r1.length;cases its with|nil=>cases r1;rfl;|cons a r=>cases xs with|nil=>simp at this;|cons b r'=>simp
 rw[e3];exact⟨.bl _,H,I,rfl,q⟩
end
section
theorem KY(hj:s.heap.IsTupleIter j t i)(ht:s.heap.IsTuple t its)(hx:its[i]?=some x)(hQ:∀h',h'.IsTupleIter j t (i+1)->Heap.SameBut j s.heap h'->Q x {s with heap:=h'}):wpAny (model prog w) A (Builtin.SmallTypes.nextOf (.ref j)) Q E s:=by obtain⟨o,ho,hc,hd⟩:=id hj;obtain⟨p,hp,_,m,hm⟩:=ht;refine Ä (wpAny_callSpecial?_slot (name:=Str.ofString "__next__") hj.typeIs F.slot_tuple_iterator_next (wpAny_call_entry F.slot_tuple_iterator_next hj.typeIs F.entry_tuple_iterator_next ?_ (F.args_tuple_iterator_next_1 _)));show wpAny _ _ (field (.ref j) 0>>=_) _ _ s;refine Ä (wpAny_field ho hd (x:=.ref t) rfl ?_);refine Ä (wpAny_field ho hd (x:=.int i 0) rfl (Ä (wpAny_seqItems hp hm ?_)));simp only[Int.toNat_natCast,hx];refine Ä (wpAny_setField ho hd Ò (Ó ⟨x,rfl,Ó (hQ _ ⟨_,Heap.get?_update_self _ ho (Obj.isFreed_of_fields (Obj.data_mapFields hd _)),(Obj.cls_mapFields ..).trans hc,by rw[Obj.data_mapFields hd];simp[rawInt]⟩ (Heap.SameBut.update ..))⟩))
theorem yD(hh:A.handled=none)(hj:s.heap.IsTupleIter j t i)(ht:s.heap.IsTuple t its)(hx:its[i]?=none)(hE:∀h' e,Heap.ExtBut j s.heap h'->(∃o,h'.get? e=some o/\o.cls=.type "StopIteration")->E (.ref e) {s with heap:=h'}):wpAny (model prog w) A (Builtin.SmallTypes.nextOf (.ref j)) Q E s:=by
 obtain⟨o,ho,hc,hd⟩:=id hj;obtain⟨p,hp,_,m,hm⟩:=ht;refine Ä (wpAny_callSpecial?_slot (name:=Str.ofString "__next__") hj.typeIs F.slot_tuple_iterator_next (wpAny_call_entry F.slot_tuple_iterator_next hj.typeIs F.entry_tuple_iterator_next ?_ (F.args_tuple_iterator_next_1 _)));show wpAny _ _ (field (.ref j) 0>>=_) _ _ s;refine Ä (wpAny_field ho hd (x:=.ref t) rfl ?_);refine Ä (wpAny_field ho hd (x:=.int i 0) rfl (Ä (wpAny_seqItems hp hm ?_)));simp only[Int.toNat_natCast,hx];refine Ä (wpAny_rule (Ä (wpAny_setField ho hd Ò ?_)));refine Ä ?_;refine Ä (Κ (Ä (m:=firstArgMember _ _) (wpAny_of_eq (a:=Value.none) (by first|rfl|(simp only[firstArgMember];rfl)) (Κ ?_ (by size_fits)))) (by size_fits));simp only[raiseNew];refine Ä (wpAny_handled ?_);first|rw[show A.in1.handled=none from hh];|rw[hh]
 exact Ä (Ó (wpAny_throw (hE _ _ (((Heap.SameBut.update ..).extBut.push _).push _) ⟨_,Ę _ rfl,rfl⟩)))
end
def Itz(K:Frag)(a b:Addr):It:=⟨λi H=>∃xs ys x y,Ì K H a xs/\Ï K H b ys/\xs[i]?=some x/\ys[i]?=some y,λi H v H'=>∃T,H T=none/\v=.ref T/\∀xs ys,Ì K H a xs->Ï K H b ys->∃x y,xs[i]?=some x/\ys[i]?=some y/\H'=upd H T (.tup [x,y]),λi H=>∃xs,Ì K H a xs/\xs.length<=i⟩
section
end
theorem É.same(h:É S H v d)(s:Á H H'):É S H' v d:=h.keep (λb xs e=>s b _ e) (λb o _ e=>s b o e) λ_ _ z _=>z
theorem Å.same(h:Å S H v d)(s:Á H H'):Å S H' v d:=h.keep (λb xs e=>s b _ e) (λb o _ e=>s b o e) λ_ _ z _=>z
theorem Á.upd(h:H D=none):Á H (upd H D o):=λb u e=>by rw[aA (aD e h)];exact e
theorem Á.updR(s:Á H H')(h:H' D=none):Á H (L2.upd H' D o):=s.trans (Á.upd h)
theorem oX{K:Frag}(f:PyData->Bool){j:Nat}{H0:Hp}{Fin:List V->Hp->Prop}(hT:H0 a=some (.tup xs))(th:Å S H0 xs ds)(hl:xs.length<sizeLine)(kQ:∀v d H Q,d∈ds->Á H0 H->É S H v d->(∀H',Á H H'->Q (.bl (f d)) H')->te (fF.set j (some v)) H Q)(fin:∀H',Á H0 H'->Fin (ds.map λd=>V.bl (f d)) H'):oU (Itt K a) (bH j) uD te Fin fF H0:=by
 have hlen:=th.length;refine⟨λi m ys σ H=>m=xs.length-i/\i<=xs.length/\ys=(ds.take i).map (λd=>V.bl (f d))/\(∀o,σ.set j o=fF.set j o)/\Á H0 H,⟨_,rfl,ħ _,rfl,λ_=>rfl,Á.refl _⟩,?_⟩;rintro i m ys σ H⟨rfl,hi,rfl,gx,hs⟩;have sq:Ì K H a xs:=Ì.of (hs _ _ hT);refine⟨by rw[Ý,İ];omega,?_⟩;by_cases av:i<xs.length;.refine .inr ⟨⟨xs,xs[i],sq,by simp[av]⟩,λx H' y=>?_⟩;obtain⟨e,y⟩:=y;subst e;have hx:=y xs sq;obtain⟨d,hd,ht⟩:=(th.same hs).get hx;show te (σ.set j (some x)) H' _;rw[gx];refine kQ x d H' _ (Ŋ hd) hs ht λH2 s2=>⟨xs.length-(i+1),À,rfl,av,?_,λo=>by rw[List.set_set],hs.trans s2⟩;rw[ŋ,hd];simp
 .have e:i=xs.length:=À;subst e;refine .inl ⟨⟨xs,sq,Ø _⟩,?_⟩;rw[hlen,Ľ];exact fin H hs
theorem wC{ds:ü}:ds.map (λd=>V.bl (f d))=(ds.map f).map V.bl:=by rw[zAr];rfl
theorem Ea{ds:ü}:(ds.map f).all id=ds.all f:=by rw[List.all_map];rfl
section
theorem kJ:dH X (.type "list") (λxs H Q=>∃p ys,xs=[.ref p]/\Ì X.K H p ys/\∀l,H l=none->l≠sysModules->Q (.ref l) (upd H l (.lst ys))):=by intro Â s σ H xs us Q I r h;obtain⟨p,ys,rfl,hq,q⟩:=h;obtain⟨u,rfl,rx⟩:=þ r;cases rx;obtain⟨its,r',pl,hz⟩:=I.tuple hq;have hlen:=r'.length;obtain⟨o,ho,hc,n,hd⟩:=pl;refine call_list_seq p (.inr rfl) ho hc hd (λh' c' kp e=>?_) (by simp only[List.size_toArray];lia);exact⟨.ref s.heap.objs.size,_,I.laid (t':=s.toks) kp (Ø _) (show Ö X.prog X.w _ h' _ (.lst ys)from⟨hz,its,c',r',e⟩),rfl,q _ (I.hok.fresh (Ø _)) (ϗ I.big)⟩
end
section
def zQ(r r' FO:R2)(ta tb tc td:TE):TE:=λσ H Q=>ta σ H λx H1=>tb σ H1 λy H2=>r x y H2 λz H3=>∃k,z=.bl k/\(if k=true then tc σ H3 λx2 H4=>r' y x2 H4 λz2 H5=>∃k2,z2=.bl k2/\(if k2=true then td σ H5 λx3 H6=>FO x2 x3 H6 Q else Q (.bl false) H5)else Q (.bl false) H3)
theorem BR(h1:Ċ X (compareOp o1) r)(h2:Ċ X (compareOp o2) r')(h3:Ċ X (compareOp o3) FO)(ha:PE X a ta)(hb:PE X b tb)(hc:PE X c tc)(hd:PE X d td)(hm:lastMarks [o1,o2,o3] [b,c,d]=false:=by with_unfolding_all rfl):PE X (.Compare a [o1,o2,o3] [b,c,d] pos) (zQ r r' FO ta tb tc td):=by intro Â s σ H Q I h;refine Compare_chain (Ú (ha Â s σ H _ I h) λv s1⟨x,H1,I1,r1,q1⟩=>chain_link (Ú (hb Â s1 σ H1 _ I1 q1) λu s2⟨y,H2,I2,r2,q2⟩=>Ú (h1 Â s2 σ H2 x y v u _ I2 r1 r2 q2) λg s3⟨z,H3,I3,r3,k,e,q3⟩=>?_)) hm;subst e;cases r3;refine wpAny_truthy_bool ?_;cases k with|false=>exact ite_ff ⟨.bl false,H3,I3,rfl,q3⟩;|true=>refine ite_tt (chain_link (Ú (hc Â s3 σ H3 _ I3 q3) λw' s4⟨z',H4,I4,r4,q4⟩=>Ú (h2 Â s4 σ H4 y z' u w' _ I4 r2 r4 q4) λg2 s5=>?_));rintro⟨z5,H5,I5,r5,k2,e2,q5⟩;subst e2;cases r5;refine wpAny_truthy_bool ?_;cases k2 with|false=>exact ite_ff ⟨.bl false,H5,I5,rfl,q5⟩;|true=>exact ite_tt (chain_last (Ú (hd Â s5 σ H5 _ I5 q5) λw6 s6=>by rintro⟨z6,H6,I6,r6,q6⟩;exact h3 Â s6 σ H6 z' z6 w' w6 Q I6 r4 r6 q6))
end
def Ev(σ:St)(H:Hp)(t:TE)(v:V):Prop:=∀Q:VK,Q v H->t σ H Q
section
theorem fJ:Ev σ H (tC v) v:=λ_ h=>h
theorem fU(h:σ[i]?=some (some v)):Ev σ H (iH i) v:=λ_ q=>⟨v,h,q⟩
theorem uM(a:Ev σ H ta (.int i))(b:Ev σ H tb (.int j)):Ev σ H (Į (Θ g) ta tb) (g i j):=λ_ q=>a _ (b _ ⟨i,j,rfl,rfl,q⟩)
theorem Eb(a:Ev σ H ta (.int i))(b:Ev σ H tb (.int j))(c:C i j):Ev σ H (Į (rI C g) ta tb) (g i j):=λ_ q=>a _ (b _ ⟨i,j,rfl,rfl,c,q⟩)
theorem cQ{p q:Int->Int->Bool}(a:Ev σ H ta (.int i))(b:Ev σ H tb (.int j))(c:Ev σ H tc (.int k)):Ev σ H (yt (Θ λi j=>.bl (p i j)) (Θ λi j=>.bl (q i j)) ta tb tc) (.bl (p i j&&q j k)):=λQ h=>a _ (b _ ⟨i,j,rfl,rfl,_,rfl,by cases e:p i j with|false=>rw[e]at h;exact aZ h;|true=>rw[e]at h;exact bj (c _ ⟨j,k,rfl,rfl,h⟩)⟩)
theorem BV{p q r:Int->Int->Bool}(a:Ev σ H ta (.int i))(b:Ev σ H tb (.int j))(c:Ev σ H tc (.int k))(d:Ev σ H td (.int l)):Ev σ H (zQ (Θ λi j=>.bl (p i j)) (Θ λi j=>.bl (q i j)) (Θ λi j=>.bl (r i j)) ta tb tc td) (.bl (p i j&&(q j k&&r k l))):=λQ h=>a _ (b _ ⟨i,j,rfl,rfl,_,rfl,by cases e:p i j with|false=>rw[e]at h;exact aZ h;|true=>rw[e]at h;refine bj (c _ ⟨j,k,rfl,rfl,_,rfl,?_⟩);cases e2:q j k with|false=>rw[e2]at h;exact aZ h;|true=>rw[e2]at h;exact bj (d _ ⟨k,l,rfl,rfl,h⟩)⟩)
theorem jB(x:Ev σ H ta (.bl b))(y:b=true->Ev σ H tb (.bl c)):Ev σ H (JR ta tb) (.bl (b&&c)):=λQ h=>x _ ⟨b,rfl,by cases e:b with|false=>rw[e]at h;exact aZ h;|true=>rw[e]at h;exact bj (y e _ h)⟩
end
structure Ď(e:Expr):Prop where eq:∀(es:Qa3)(env:Env),starEach (e::es) env=(false,eval e env)::starEach es env
theorem jC{c j p}:Ď (.Constant c j p):=⟨λ_ _=>rfl⟩
theorem lD{x p}:Ď (.Name x p):=⟨λ_ _=>rfl⟩
theorem jD{es k p}:Ď (.Tuple es k p):=⟨λ_ _=>rfl⟩
theorem lE{es p}:Ď (.List es p):=⟨λ_ _=>rfl⟩
theorem lF{f as ks p}:Ď (.Call f as ks p):=⟨λ_ _=>rfl⟩
theorem ı{a o b p}:Ď (.BinOp a o b p):=⟨λ_ _=>rfl⟩
theorem qw{o a p}:Ď (.UnaryOp o a p):=⟨λ_ _=>rfl⟩
theorem nU{a b p}:Ď (.Subscript a b p):=⟨λ_ _=>rfl⟩
theorem lG{a b c p}:Ď (.ListComp a b c p):=⟨λ_ _=>rfl⟩
theorem nW{a b c p}:Ď (.Compare a b c p):=⟨λ_ _=>rfl⟩
section
theorem aq(ha:PE X e te)(hr:PA X es t)(hp:Ď e:=by first|exact lD|exact jC|exact lF|exact jD|exact lE|exact ı|exact nU|exact qw|exact plain_dict|exact lG|exact nW):PA X (e::es) (bV te t):=aN ha hr (hp.eq _ _)
end
structure AA(X:Cx)(es:Qa3)(t:TA):Prop where run:PA X es t
section
theorem bw:AA X [] ie:=⟨aj⟩
theorem Ib(ha:PE X e te)(hr:AA X es t)(hp:Ď e:=by first|exact lD|exact jC|exact lF|exact jD|exact lE|exact ı|exact nU|exact qw|exact plain_dict|exact lG|exact nW):AA X (e::es) (bV te t):=⟨aN ha hr.run (hp.eq _ _)⟩
theorem zR{x1}(h:AA X es t):PE X (.Tuple es x1 pos) (nM t):=bB h.run
theorem Ie(h:AA X es t):PE X (.List es pos) (yu t):=dJ h.run
end
inductive Ň:Qa3->VV->Prop|nil:Ň [] []|cons{i:Int}{j:Nat}{p:Pos}{es:Qa3}{is:VV}:Ň es is->Ň (.Constant (.int i) j p::es) (i::is)
def tL(is:VV):TA:=λ_ H Q=>Q (is.map V.int) H
theorem mz:∀{es:Qa3}{is:VV},Ň es is->PA X es (tL is)|_,_,.nil=>λ_ _ _ _ H Q I h=>Calls.spliced_nil ⟨[],H,I,.nil,h⟩|_,_,@Ň.cons i j p es is r=>by have h:=aq (X:=X) (au (i:=i) (j:=j) (pos:=p)) (mz r);exact h
theorem KZ{a b c p q r}:PE X (.Tuple [.Constant (.int i) a p,.Constant (.int j) b q] c r) (nM (tL [i,j])):=bB (mz (.cons (.cons .nil)))
theorem Ig{a b c d p q q' r r'}:PE X (.Tuple [.Constant (.int i) a p,.BinOp (.Constant (.int j) b q) .Pow (.Constant (.int k) d q') r'] c r) (nM (bV (tC (.int i)) (bV (Į (rI yq λi j=>.int (i^j.toNat)) (tC (.int j)) (tC (.int k))) ie))):=bB (aq au (aq (aQ uv au au) aj))
theorem dX{k:Nat}{pos:Pos}{t:TGs}{K:Frag}{n:Nat}(hK:X.K=K)(hc:X.calm=true)(h:PGs X es t)(hn:(assignEach es X.env).length=n:=by rfl)(bq:(assignEach es X.env).findIdx? (·.1)=none:=by rfl):PG X (.Tuple es k pos) (lR K n t):=by subst hK;exact bR hc h hn bq
structure BE(X:Cx)(e:Expr)(t:TE):Prop where run:PE X e t
section
theorem aU(ha:BE X e te)(hr:AA X es t)(hp:Ď e:=by first|exact lD|exact jC|exact lF|exact jD|exact lE|exact ı|exact nU|exact qw|exact plain_dict|exact lG|exact nW):AA X (e::es) (bV te t):=Ib ha.run hr hp
theorem wF(h:BE X e te):PE X e te:=h.run
theorem fK{j}:BE X (.Constant (.int i) j pos) (tC (.int i)):=⟨au⟩
theorem tM{j}:BE X (.Constant (.bool b) j pos) (tC (.bl b)):=⟨iK⟩
theorem uN{j}:BE X (.Constant .none j pos) (tC .non):=⟨lu⟩
theorem d9{j}:BE X (.Constant (.str x) j pos) (tC (.str x)):=⟨dY⟩
theorem La{j q}:BE X (.UnaryOp .USub (.Constant (.int i) j q) pos) (tUn (rU λi=>.int (-i)) (tC (.int i))):=⟨vU pR au⟩
theorem Lb{j j' q q'}:BE X (.BinOp (.Constant (.int i) j q) .Pow (.Constant (.int k) j' q') pos) (Į (rI yq λi j=>.int (i^j.toNat)) (tC (.int i)) (tC (.int k))):=⟨aQ uv au au⟩
theorem ik{x1}(h:AA X es t):BE X (.Tuple es x1 pos) (nM t):=⟨bB h.run⟩
theorem cA(h:AA X es t):BE X (.List es pos) (yu t):=⟨dJ h.run⟩
theorem nY{a b c p q r}:BE X (.Tuple [.Constant (.int i) a p,.Constant (.int j) b q] c r) (nM (tL [i,j])):=⟨KZ⟩
theorem Ih{a b c d p q q' r r'}:BE X (.Tuple [.Constant (.int i) a p,.BinOp (.Constant (.int j) b q) .Pow (.Constant (.int k) d q') r'] c r) (nM (bV (tC (.int i)) (bV (Į (rI yq λi j=>.int (i^j.toNat)) (tC (.int j)) (tC (.int k))) ie))):=⟨Ig⟩
end
structure BS(X:Cx)(st:Stmt)(t:TS):Prop where run:PS X st t
structure BSs(X:Cx)(IA:List Stmt)(t:TS):Prop where run:Ķ X IA t
section
variable{st:Stmt}{pos:Pos}
theorem kW(h:BSs X rest t):Ķ X rest t:=h.run
theorem aH(h1:BS X st t)(h2:BSs X rest u):BSs X (st::rest) (HD t u):=⟨aB h1.run h2.run⟩
theorem bz(h1:BS X st t):BSs X [st] t:=⟨aF h1.run⟩
theorem yE(hN:X.N.Nodup)(hi:X.N[i]?=some x)(hx:Loc X.env.scope x)(he:BE X e te)(hs:swapsWith e (some (.Name x pos')) pos.line X.env=pure false:=by rfl)(hf:X.fn x=true\/X.env.scope.names.lookup x=some .local:=by first|exact .inl rfl|exact .inr rfl|assumption):BS X (.Assign [.Name x pos'] e pos) (yj te (bH i)):=⟨uo hN hi hx he.run hs hf⟩
theorem fW(he:BE X e te):BS X (.Return (some e) pos) (Ks te):=⟨aP he.run⟩
theorem iy(ho:Ċ X (binaryOp op) r)(ha:BE X a ta)(hb:BE X b tb):BE X (.BinOp a op b pos) (Į r ta tb):=⟨aQ ho ha.run hb.run⟩
theorem mD(hr:IxR X r)(ha:BE X a ta)(hb:BE X b tb)(hs:uA b):BE X (.Subscript a b pos) (Į r ta tb):=⟨JV hr ha.run hb.run hs⟩
end
theorem Ô{X:Cx}{pos:Pos}(i:Nat)(hN:X.N.Nodup)(hi:X.N[i]?=some x:=by rfl)(hx:Loc X.env.scope x:=by exact Or.inl rfl)(hf:X.fn x=true\/X.env.scope.names.lookup x=some .local:=by first|exact .inl rfl|exact .inr rfl):PG X (.Name x pos) (bH i):=bx hN hi hx hf
theorem ě{pos pos':Pos}(i:Nat)(hN:X.N.Nodup)(he:PE X e te)(hi:X.N[i]?=some x:=by rfl)(hx:Loc X.env.scope x:=by exact Or.inl rfl)(hs:swapsWith e (some (.Name x pos')) pos.line X.env=pure false:=by rfl)(hf:X.fn x=true\/X.env.scope.names.lookup x=some .local:=by first|exact .inl rfl|exact .inr rfl):PS X (.Assign [.Name x pos'] e pos) (yj te (bH i)):=uo hN hi hx he hs hf
theorem fX{pos pos':Pos}(i:Nat)(hN:X.N.Nodup)(he:BE X e te)(hi:X.N[i]?=some x:=by rfl)(hx:Loc X.env.scope x:=by exact Or.inl rfl)(hs:swapsWith e (some (.Name x pos')) pos.line X.env=pure false:=by rfl)(hf:X.fn x=true\/X.env.scope.names.lookup x=some .local:=by first|exact .inl rfl|exact .inr rfl):BS X (.Assign [.Name x pos'] e pos) (yj te (bH i)):=yE hN hi hx he hs hf
theorem pX(hr:IxR X r)(ha:PE X a ta)(hb:PE X b tb)(hs:uA b:=by exact λ_ _=>rfl):PE X (.Subscript a b pos) (Į r ta tb):=JV hr ha hb hs
theorem zL{n:Nat}(h:Nat.ble n 1000=true:=by rfl):n<=sizeLine:=ε (Nat.le_of_ble_eq_true h) Ù
theorem cI(h:Ğ X bg N r)(h1:X.N[i]?=some x:=by rfl)(h2:X.env.kindOf x=some .cell:=by rfl)(h3:bg.cells.lookup x=X.env.cells.lookup x:=by rfl)(h4:bg.kindOf x=some .cell:=by rfl):Ğ X bg (x::N) (some i::r):=⟨⟨h1,.inl h2,h3,.inl h4⟩,h⟩
theorem ú{N P:ó}{sc:Scope}(h1:sc.kind=.function:=by rfl)(h2:sc.isCoroutine=false:=by rfl)(h3:sc.isGenerator=false:=by rfl)(h4:N.Nodup:=by decide+kernel)(h5:N.take P.length=P:=by rfl)(h6:∀x∈P,sc.names.lookup x=some .local\/sc.names.lookup x=some .cell:=by decide+kernel)(h7:∀y∈sc.names,y.2≠.free:=by decide+kernel):Ã N P sc:=⟨h1,h2,h3,h4,h5,h6,h7⟩
section
end
def Υ(S:Addr->Prop)(σ:St)(H:Hp)(t:TE)(d:PyData):Prop:=∀H0,Á H H0->∀Q:VK,(∀v H',Á H0 H'->É S H' v d->Q v H')->t σ H0 Q
def ThA(S:Addr->Prop)(σ:St)(H:Hp)(t:TA)(ds:ü):Prop:=∀H0,Á H H0->∀Q:List V->Hp->Prop,(∀vs H',Á H0 H'->Å S H' vs ds->Q vs H')->t σ H0 Q
section
theorem Nr(h:∀H',É S H' v d):Υ S σ H (tC v) d:=λH0 _ Q q=>q v H0 (Á.refl _) (h H0)
theorem Ec:Υ S σ H (tC (.int i)) (.int i):=Nr λ_=>.int i
theorem Ld:Υ S σ H (tC .non) .none:=Nr λ_=>.non
theorem wG(h:∀H',Ev σ H' t (.int i)):Υ S σ H t (.int i):=λH0 _ Q q=>h H0 _ (q _ H0 (Á.refl _) (.int i))
theorem lH:ThA S σ H ie []:=λH0 _ Q q=>q [] H0 (Á.refl _) .nil
theorem bD(h1:Υ S σ H te d)(h2:ThA S σ H ta ds):ThA S σ H (bV te ta) (d::ds):=λH0 s0 Q q=>h1 H0 s0 _ λv H1 s1 t1=>h2 H1 (s0.trans s1) _ λvs H2 s2 t2=>q (v::vs) H2 (s1.trans s2) (.cons (t1.same s2) t2)
theorem Ii(is:VV):ThA S σ H (tL is) (is.map PyData.int):=λH0 _ Q q=>q _ H0 (Á.refl _) (Å.ints is)
theorem yF(h:ThA S σ H ta ds)(hl:ds.length<=4000):Υ S σ H (nM ta) (.tuple ds):=λH0 s0 Q q=>h H0 s0 _ λvs H1 s1 t1=>⟨by rw[t1.length,sizeLine_eq];lia,λp hp=>q _ _ (s1.updR hp) (.tup aa (t1.same (Á.upd hp)))⟩
end
section
theorem bN(h:D.nx σ H):Dw D σ H:=h
theorem aC(h:t {D with nx:=u D} σ H):HD t u D σ H:=h
theorem iz(h:∀c:St->Hp->Prop,(∀ah H',u D ah H'->c ah H')->t {D with nx:=c} σ H):HD t u D σ H:=h (u D) λ_ _ z=>z
theorem aR(h:te σ H λx H1=>g x σ H1 D.nx):yj te g D σ H:=h
theorem eF(h:te σ H D.rt):Ks te D σ H:=h
theorem fY(h:ta σ H λxs H1=>xs.length<=sizeLine/\∀p,H1 p=none->Q (.ref p) (upd H1 p (.lst xs))):yu ta σ H Q:=h
theorem aJ(h:R (σ.set i (some v)) H):bH i v σ H R:=h
end
theorem Ed{K:Frag}(f:PyData->PyData->Bool){fF:St}{H0:Hp}{Fin:List V->Hp->Prop}(inv:St->Prop)(h0:inv fF)(ea:H0 a=some (.tup xs))(eb:H0 b=some (.lst zs))(r1:Å S H0 xs ds)(r2:Å S' H0 zs es)(hl:ds.length=es.length)(hz:xs.length<sizeLine)(step:∀(T:Addr)x z d e σ H(R:St->VK),d∈ds->e∈es->inv σ->Á H0 H->H T=some (.tup [x,z])->É S H x d->É S' H z e->(∀ax H',inv ax->Á H H'->R ax (.bl (f d e)) H')->g (.ref T) σ H λax H2=>te ax H2 (R ax))(fin:∀H',Á H0 H'->Fin ((List.zipWith f ds es).map V.bl) H'):oU (Itz K a b) g uD te Fin fF H0:=by
 have l1:=r1.length;have l2:=r2.length;refine⟨λi m ys σ H=>m=xs.length-i/\i<=xs.length/\ys=((List.zipWith f ds es).take i).map V.bl/\inv σ/\Á H0 H,⟨_,rfl,ħ _,rfl,h0,Á.refl _⟩,?_⟩;rintro i m ys σ H⟨rfl,hi,rfl,gx,hs⟩;have q1:Ì K H a xs:=Ì.of (hs _ _ ea);have q2:Ï K H b zs:=Ï.of (hs _ _ eb);refine⟨by rw[Ý,İ];lia,?_⟩;by_cases av:i<xs.length
 .have IY:i<zs.length:=À;refine .inr ⟨⟨xs,zs,xs[i],zs[i],q1,q2,by simp[av],by simp[IY]⟩,λv H' y=>?_⟩;obtain⟨T,nT,rfl,y⟩:=y;obtain⟨x,z,ex,ez,rfl⟩:=y xs zs q1 q2;obtain⟨d,hd,td⟩:=(r1.same (hs.updR (o:=.tup [x,z]) nT)).get ex;obtain⟨e,he,t2⟩:=(r2.same (hs.updR (o:=.tup [x,z]) nT)).get ez;refine step T x z d e σ _ (λax y H4=>∃m',m'<xs.length-i/\m'=xs.length-(i+1)/\i+1<=xs.length/\((List.zipWith f ds es).take i).map V.bl++[y]=((List.zipWith f ds es).take (i+1)).map V.bl/\inv ax/\Á H0 H4) (Ŋ hd) (Ŋ he) gx (hs.updR nT) aa td t2 λax H2 i2 s2=>⟨xs.length-(i+1),(by grind),rfl,av,?_,i2,(hs.updR nT).trans s2⟩;have hz:(List.zipWith f ds es)[i]?=some (f d e):=by rw[List.getElem?_zipWith,hd,he]
  rw[ŋ,hz];simp
 .have e:i=xs.length:=À;subst e;refine .inl ⟨⟨xs,q1,Ø _⟩,?_⟩;rw[Zah (by rw[List.length_zipWith];grind)];exact fin H hs
section
end
theorem jE:fillsNumberSlot (.type "tuple") "mul"=pure false:=PySem.fillsNumberSlot_seq (id:="tuple.__mul__") (r:=some (.builtin "tuple.__rmul__")) F.slot_tuple_mul.lookup Ε F.slot_tuple_rmul.lookup Ε
theorem qx:seqRepeat? (.type "tuple")=pure (some (.builtin "tuple.__mul__")):=by rfl
open Builtin in
theorem mF(a:Int)(t:Tok)(l:Addr)(items:ĵ)(n:Nat)(dd:Option Addr)(sl:Array (Φ)):Meets (Builtin.«int.__rmul__» ⟨[.int a t,.ref l],[]⟩) (λ_ R s=>s.heap.get? l=some {cls:=.type "tuple",dict:=dd,data:=.seq items n,slots:=sl}/\R (.ok (.ret Value.notImplemented)) s):=by refine .of_wp λprog w A R s h=>?_;obtain⟨hl,h⟩:=h;wp_walk;exact⟨_,rfl,h⟩
open Builtin in
theorem Ef(l:Addr)(items:ĵ)(n:Nat)(u:Tok)(dd:Option Addr)(sl:Array (Φ)):Meets (Builtin.«tuple.__mul__» ⟨[.ref l,.int 1 u],[]⟩) (λ_ R s=>s.heap.get? l=some {cls:=.type "tuple",dict:=dd,data:=.seq items n,slots:=sl}/\R (.ok (.ret (.ref l))) s):=by refine .of_wp λprog w A R s h=>?_;obtain⟨hl,h⟩:=h;wp_walk;exact⟨_,rfl,h⟩
open Builtin in
theorem Eg(l:Addr)(items:ĵ)(n:Nat)(u:Tok)(dd:Option Addr)(sl:Array (Φ))(hi:items.isEmpty=false):Meets (Builtin.«tuple.__mul__» ⟨[.ref l,.int 0 u],[]⟩) (λ_ R s=>s.heap.get? l=some {cls:=.type "tuple",dict:=dd,data:=.seq items n,slots:=sl}/\R (.ok (.ret (.ref s.heap.objs.size))) {s with heap:=s.heap.push {cls:=.type "tuple",data:=.seq #[]}}):=by refine .of_wp λprog w A R s h=>?_;obtain⟨hl,h⟩:=h;wp_walk;exact⟨_,rfl,h⟩
open Builtin in
theorem Eh(l:Addr)(items:ĵ)(n:Nat)(k:Int)(u:Tok)(dd:Option Addr)(sl:Array (Φ))(hi:items.isEmpty=false)(h2:2<=k)(h3:k<=1000)(h4:items.size<=1000):Meets (Builtin.«tuple.__mul__» ⟨[.ref l,.int k u],[]⟩) (λ_ R s=>s.heap.get? l=some {cls:=.type "tuple",dict:=dd,data:=.seq items n,slots:=sl}/\R (.ok (.ret (.ref s.heap.objs.size))) {s with heap:=s.heap.push {cls:=.type "tuple",data:=.seq ((List.replicate k.toNat items).foldl (·++·) #[])}}):=by
 refine .of_wp λprog w A R s h=>?_;obtain⟨hp,g,d,tk,os⟩:=s;obtain⟨hl,h⟩:=h;have f1:=PySem.AutoSeq1.idx_int;have f2:=PySem.AutoSeq1.sub_tuple_tuple;have m1:items.size*k.toNat<=1000*1000:=Nat.mul_le_mul h4 À;have m2:(items.size:Int)*k=((items.size*k.toNat:Nat):Int):=by rw[Int.natCast_mul,Int.toNat_of_nonneg À]
 have c0:(decide (k< -2^63)||decide (k≥2^63))=false:=by rw[ĉ À,ĉ À];rfl
 have c1:(items.isEmpty||k==1)=false:=by rw[hi,show(k==1)=false from by simpa using(by lia:k≠1)];rfl
 have c2:(decide (k<=0)||items.isEmpty)=false:=by rw[hi,ĉ À];rfl
 have c3:¬((items.size:Int)*k>(2^63-1)/8):=by rw[m2];lia
 have c4:Builtin.Tuple.tupleTooMany ((items.size:Int)*k)=false:=by rw[m2];unfold Builtin.Tuple.tupleTooMany;refine ĉ ?_;rw[sizeLine_eq];lia
 wp_walk;have nf:∀{b:Bool},b=false->decide (b=true)=false:=λ{b}e=>by rw[e];rfl
 refine wpAny_ite_false (nf c0) ?_;wp_walk;refine wpAny_ite_false (nf c1) ?_;refine wpAny_ite_false (nf c2) ?_;refine wpAny_ite_false (ĉ c3) ?_;refine wpAny_ite_false (nf c4) ?_;have z:(List.foldl (λx1 x2=>x1++x2) #[] (List.replicate k.toNat items)).size<=sizeLine:=by have e:=č items.toList k.toNat [];rw[List.nil_append]at e;rw[e,ć,Ŀ,Ě,sizeLine_eq,Nat.mul_comm];lia
 wp_walk;exact⟨_,rfl,h⟩
def Nt(K:Frag):R2:=λx y H Q=>∃a k xs,x=.ref a/\y=.int k/\Ì K H a xs/\xs≠[]/\xs.length<=1000/\((k=1/\Q (.ref a) H)\/((k=0\/(2<=k/\k<=1000))/\∀p,H p=none->Q (.ref p) (upd H p (.tup (List.replicate k.toNat xs).flatten))))
theorem Ij:Ċ X (binaryOp .Mult) (Nt X.K):=by
 intro Â s σ H x y v u Q I rx ry h;obtain⟨a,k,xs,rfl,rfl,ha,hx,hl,h⟩:=h;cases rx;obtain⟨t,rfl⟩:=ry;obtain⟨its,r,p1,_⟩:=I.tuple ha;have hlen:=r.length;have hv:its≠[]:=λz=>hx (r.nil_iff.mp z);have OI:its.toArray.isEmpty=false:=by cases its with|nil=>exact absurd rfl hv;|cons _ _=>rfl
 obtain⟨⟨cls,dd,data,sl⟩,ho,hc,n,hd⟩:=id p1;simp only at hc hd;subst hc hd;refine wpAny_binaryOp_repeat_ref (T:="tuple") (U:="int") Ù ⟨_,ho,rfl⟩ (λs'=>typeIs_int s' k t) jE F.fills_int_mul F.slot_int_rmul qx F.slot_int_index.lookup (call_meets F.slot_int_rmul (typeIs_int s k t) F.entry_int_rmul (F.args_int_rmul_2 _ _) (mF k t a its.toArray n dd sl) ⟨ho,rfl,⟨_,ho,rfl⟩,?_⟩);rcases h with⟨rfl,q⟩|⟨rfl|⟨k2,k3⟩,q⟩;.exact call_meets F.slot_tuple_mul ⟨_,ho,rfl⟩ F.entry_tuple_mul (F.args_tuple_mul_2 _ _) (Ef a its.toArray n t dd sl) ⟨ho,.ref a,H,I,rfl,q⟩
 .refine call_meets F.slot_tuple_mul ⟨_,ho,rfl⟩ F.entry_tuple_mul (F.args_tuple_mul_2 _ _) (Eg a its.toArray n t dd sl OI) ⟨ho,?_⟩;exact⟨.ref s.heap.objs.size,_,I.laid (t':=s.toks) (o:=.tup []) (λb ob q=>ë _ q) (Ø _) ⟨ħ _,[],.nil,IsTup.new _ _⟩,rfl,q _ (I.hok.fresh (Ø _))⟩
 .refine call_meets F.slot_tuple_mul ⟨_,ho,rfl⟩ F.entry_tuple_mul (F.args_tuple_mul_2 _ _) (Eh a its.toArray n k t dd sl OI k2 k3 (by rw[ć];lia)) ⟨ho,?_⟩;have e:=č its k.toNat [];rw[e];refine⟨.ref s.heap.objs.size,_,I.laid (t':=s.toks) (o:=.tup (List.replicate k.toNat xs).flatten) (λb ob q=>ë _ q) (Ø _) ⟨?_,_,r.rep k.toNat,IsTup.new _ _⟩,rfl,q _ (I.hok.fresh (Ø _))⟩;rw[Ŀ,sizeLine_eq];have:=Nat.mul_le_mul (show k.toNat<=1000 by omega) hl;lia
end L2
namespace L2.ZT
open PySem PySem.Spec PyProof.Rows L2
def nm(t:Bool):String:=match t with|true=>"tuple_iterator"|false=>"list_iterator"
def tn(t:Bool):String:=match t with|true=>"tuple"|false=>"list"
def Io(t:Bool)(h:Heap)(a l:Addr)(i:Nat):Prop:=∃o,h.get? a=some o/\o.cls=.type (nm t)/\o.data=.fields #[.ref l,.int i 0]
def Sq(t:Bool)(h:Heap)(a:Addr)(items:ĵ):Prop:=∃o,h.get? a=some o/\o.cls=.type (tn t)/\∃n,o.data=.seq items n
def SQ(t:Bool)(K:Frag)(H:Hp)(a:Addr)(xs:List V):Prop:=match t with|true=>Ì K H a xs|false=>Ï K H a xs
theorem Io.at(x:Io t h a l i)(e:∀o,h.get? a=some o->h'.get? a=some o):Io t h' a l i:=by obtain⟨o,ho,r⟩:=x;exact⟨o,e _ ho,r⟩
theorem Io.extBut(x:Io t h a l i)(e:Heap.ExtBut b h h')(n:a≠b):Io t h' a l i:=x.at λo q=>e _ _ n q
theorem Sq.at(x:Sq t h a xs)(e:∀o,h.get? a=some o->h'.get? a=some o):Sq t h' a xs:=by obtain⟨o,ho,r⟩:=x;exact⟨o,e _ ho,r⟩
theorem Sq.extBut(x:Sq t h a xs)(e:Heap.ExtBut b h h')(n:a≠b):Sq t h' a xs:=x.at λo q=>e _ _ n q
theorem oY{σ:St}(I:Æ X Â σ H s)(h:SQ t X.K H a xs):∃its:â,Î xs its/\Sq t s.heap a its.toArray/\xs.length<=sizeLine:=by
 cases t;.obtain⟨its,r,p,z⟩:=I.list h;exact⟨its,r,p.isList,z⟩
 .exact I.tuple h
theorem yG{σ:St}(I:Æ X Â σ H s)(h:SQ t X.K H a xs)(h':SQ t X.K H a ys):xs=ys:=by
 cases t;.exact I.list_inj h h'
 .exact I.tuple_inj h h'
section
theorem nx(hj:Io t s.heap j l i)(ht:Sq t s.heap l its)(hx:its[i]?=some x)(hQ:∀h',Io t h' j l (i+1)->Heap.SameBut j s.heap h'->Q x {s with heap:=h'}):wpAny (model prog w) A (Builtin.SmallTypes.nextOf (.ref j)) Q E s:=by
 cases t;.exact wpAny_nextOf_list_item hj ht hx hQ
 .exact KY hj ht hx hQ
theorem yH(hh:A.handled=none)(hj:Io t s.heap j l i)(ht:Sq t s.heap l its)(hx:its[i]?=none)(hE:∀h' e,Heap.ExtBut j s.heap h'->(∃o,h'.get? e=some o/\o.cls=.type "StopIteration")->E (.ref e) {s with heap:=h'}):wpAny (model prog w) A (Builtin.SmallTypes.nextOf (.ref j)) Q E s:=by
 cases t;.exact wpAny_nextOf_list_end hh hj ht hx hE
 .exact yD hh hj ht hx hE
theorem qy(hl:Sq t s.heap l its)(hQ:Q (.ref s.heap.objs.size) {s with heap:=s.heap.push {cls:=.type (nm t),data:=.fields #[.ref l,.int 0 0]}}):wpAny (model prog w) A (pyIter (.ref l)) Q E s:=by
 cases t;.exact wpAny_pyIter_list hl hQ
 .exact wpAny_pyIter_tuple hl hQ
end
theorem Z0j(hh:A.handled=none)(it a:Addr)(gL:a≠it)(its:ĵ):Draws prog w A it [it,a] its.size (λi v=>its[i]?=some v) (λi h=>Io t h it a i/\Sq t h a its)where
 live:=λ_ _ st=>by obtain⟨o,ho,_⟩:=st.1;exact⟨o,ho⟩
 frame:=λ_ _ _ st hk=>⟨st.1.at λo e=>hk it Ò o e,st.2.at λo e=>hk a Ò o e⟩;item:=λi s Q E hi st hQ=>nx st.1 st.2 (x:=its[i]) (by simp[hi]) λh' h1 h2=>hQ _ h' s.toks (by simp[hi]) ⟨h1,st.2.extBut h2.extBut gL⟩ h2;done:=λs Q E st hE=>yH hh st.1 st.2 Ò hE
abbrev eA(t0:Bool)(h:Heap)(t:Addr):Heap:=h.push {cls:=.type (nm t0),data:=.fields #[.ref t,.int 0 0]}
theorem qz(t:Addr)(its:ĵ):Meets (Builtin.«enumerate.__new__» ⟨[.type "enumerate",.ref t],[]⟩) (λ_ R s=>Sq t0 s.heap t its/\R (.ok (.ret (.ref (eA t0 s.heap t).objs.size))) {s with heap:=(eA t0 s.heap t).push {cls:=.type "enumerate",data:=.fields #[.none,.bool false,.ref s.heap.objs.size,rawInt 0,.none,.none]}}):=.of_wp λprog w A R s h=>by
  obtain⟨hp,g,d,tk,os⟩:=s;obtain⟨ht,h⟩:=h;have CF:=sub_enumerate;have hT:Sq t0 (Shared.heap ⟨hp,g,d,tk,os⟩) t its:=ht;wp_walk;refine wpAny_stack_any λst=>Ó ?_;split
  .rename_i c _ _ _ _ _;cases(c==Value.type "enumerate");.wp_walk using qy hT;exact⟨_,rfl,h⟩
   .wp_walk using qy hT;exact⟨_,rfl,h⟩
  .wp_walk using qy hT;exact⟨_,rfl,h⟩
theorem rQ{s:Shared}(ht:Sq t0 s.heap t its)(h:∀h',IsEnum h' (s.heap.objs.size+1) s.heap.objs.size 0 .none->Io t0 h' s.heap.objs.size t 0->(∀c o,s.heap.get? c=some o->h'.get? c=some o)->Q (.ref (s.heap.objs.size+1)) {s with heap:=h'}):wpAny (model prog w) A (call (.type "enumerate") [.ref t]) Q E s:=by refine callType_new F.called_enumerate Ù (F.typeCall_enumerate_1 _) (F.newCall_enumerate_1 _) (λobj=>F.args_object_init_2 obj _) F.entry_enumerate_new (qz t its) ⟨ht,?_⟩;have e1:(eA t0 s.heap t).objs.size=s.heap.objs.size+1:=Heap.size_push ..;have g2:=Ę (eA t0 s.heap t) (o:={cls:=.type "enumerate",data:=.fields #[.none,.bool false,.ref s.heap.objs.size,rawInt 0,.none,.none]}) rfl;have g1:=ë {cls:=.type "enumerate",data:=.fields #[.none,.bool false,.ref s.heap.objs.size,rawInt 0,.none,.none]} (Ę s.heap (o:={cls:=.type (nm t0),data:=.fields #[.ref t,.int 0 0]}) rfl);rw[e1]at g2⊢;exact⟨⟨_,g2,rfl⟩,h _ g2 ⟨_,g1,rfl,rfl⟩ λc o x=>ë _ (ë _ x)⟩
def Ite(t0:Bool)(K:Frag)(a:Addr):It:=⟨λi H=>∃xs x,SQ t0 K H a xs/\xs[i]?=some x,λi H v H'=>∃T,H T=none/\v=.ref T/\∀xs,SQ t0 K H a xs->∃x,xs[i]?=some x/\H'=upd H T (.tup [.int i,x]),λi H=>∃xs,SQ t0 K H a xs/\xs.length<=i⟩
def tne(t0:Bool)(e it a:Addr)(i:Nat)(h:Heap):Prop:=(∃old,IsEnum h e it i old)/\Io t0 h it a i
theorem BW{K:Frag}(IZ:e≠it)(TN:e≠a)(TQ:a≠it):š P w K (.Tuple es k pos) (Ite t0 K a) [e,it] e (tne t0 e it a)where
 mem:=by simp
 obj:=λi h st c hc=>by
  obtain⟨⟨old,s1⟩,⟨o4,s4,c4,d4⟩⟩:=st;simp only[List.mem_cons,List.not_mem_nil,or_false]at hc;rcases hc with z|z<;>subst z;.exact⟨_,s1,λv q=>by cases q⟩
  .exact⟨_,s4,λv q=>by rw[d4]at q;cases q⟩
 keep:=λi h h' st kp=>by obtain⟨⟨old,s1⟩,s4⟩:=st;exact⟨⟨old,kp e Ò _ s1⟩,s4.at λo z=>kp it Ò o z⟩
 item:=by
  intro X hP hw hK hc i Â s σ H E I hf st hg;subst hP hw hK;obtain⟨⟨old,s1⟩,s4⟩:=st;obtain⟨xs,x,rL,hx⟩:=hg;obtain⟨its,rv,p,_⟩:=oY I rL;obtain⟨ux,FR,rx⟩:=rv.get hx;have av:i<its.toArray.size:=by have:=(ġ.mp FR).1;simpa using this
  have D:=Z0j (t:=t0) (prog:=X.prog) (w:=X.w) (A:=X.A.in1) (I.ok.hd hc) it a TQ its.toArray;refine wpAny_pyNext_enum_itemD D s1 ⟨s4,p⟩ av IZ (by simp[IZ,TN]) λu h1 tk hu g1 g3 g5 g6 kp=>?_;have eu:u=ux:=by have hu:its.toArray[i]?=some u:=hu;rw[List.getElem?_toArray,FR]at hu;exact(ĭ hu).symm
  subst eu;refine⟨_,rfl,?_⟩;refine wpAny_letOwnedTupleGo_enum g1 λh2 e1 sb=>?_;have live:∀c,c∈[e,it]->∃o,s.heap.get? c=some o:=λc aw=>by
   simp only[List.mem_cons,List.not_mem_nil,or_false]at aw;rcases aw with q|q<;>subst q;.exact⟨_,s1⟩
   .obtain⟨o,h,_⟩:=s4;exact⟨o,h⟩
  have ne:∀c,c∈[e,it]->c≠s.heap.objs.size:=λc aw z=>by obtain⟨o,ho⟩:=live c aw;exact absurd (í ho) (by rw[z];exact Τ _)
  have hT:H s.heap.objs.size=none:=I.hok.fresh (Ø _);have kept:∀c o,c∉[e,it]->s.heap.get? c=some o->h2.get? c=some o:=λc o aw z=>sb.extBut _ _ (λq=>aw (by simp[q])) (kp c o (λq=>aw (by simp[q])) (λq=>aw (by simp[q])) z);have trk:∀c o,H c=some o->c∉[e,it]:=λc o z aw=>by have:=(hf c aw).1;rw[z]at this;cases this
  have xh:h2.get? s.heap.objs.size=some {cls:=.type "tuple",data:=.seq #[.int i tk,u]}:=sb.extBut _ _ (Ne.symm (ne e Ò)) g5;have nE:û X.prog X.w (upd H s.heap.objs.size (.tup [.int i,x])) h2:=λc o z=>by
   by_cases hb:c=s.heap.objs.size;.subst hb;rw[aa]at z;cases z;exact⟨by show 2<=sizeLine;decide,[.int i tk,u],.cons ⟨tk,rfl⟩ (.cons rx .nil),_,xh,rfl,_,rfl⟩
   .rw[aA hb]at z;refine(I.hok c o z).stay (λd v hd q=>kept d v ?_ q) (λd q=>by rw[aA (aD q hT)];exact q) λd l q=>by rw[aA (aD q hT)];exact q
    rcases hd with e'|e';.rw[e'];exact trk c o z
    .exact trk d _ e'
  have I2:Æ X Â σ (upd H s.heap.objs.size (.tup [.int i,x])) {s with heap:=h2,toks:=tk+1}:=by
   refine I.step (g':=s.gens) (d':=s.drawn) (t':=tk+1) (ch:=[e,it]) (λc aw=>?_) (λc o _ _ hn z _=>kept c o hn z) (λc o _ _ hn z _=>⟨o.slots,kept c o hn z⟩) (λc o _ z n=>by rw[aA (ė (í z))];exact n) (λc o hn z=>⟨o,kept c o hn z⟩) (λc l z=>by rw[aA (aD z hT)];exact z) (λc o l z=>by rw[aA (aD z hT)];exact z) (λc l z=>⟨#[],by rw[aA (aD z hT),z];simp⟩) (λm hm=>?_) nE I.bare;.obtain⟨f0,f1,f2,f3,f4,f5⟩:=hf c aw;exact⟨f3,f1,f4,f5⟩
   .obtain⟨o,gv,ep,ho,r⟩:=hm;refine⟨o,gv,ep,kept _ o (λaw=>?_) ho,r⟩;exact(hf _ aw).2.1 rfl
  refine⟨.ref s.heap.objs.size,_,I2,rfl,⟨s.heap.objs.size,hT,rfl,λTR Jn=>⟨x,?_,rfl⟩⟩,⟨⟨u,?_⟩,?_⟩,λc aw=>?_⟩;.rw[yG I Jn rL];exact hx
  .have:=e1;rw[show(((i+1:Nat):Int))=(i:Int)+1 by lia];exact this
  .exact g3.1.extBut sb.extBut IZ.symm
  .rw[aA (ne c aw)];exact(hf c aw).1
 done:=by
  intro X hP hw hK hc i Â s σ H E I hf st hg;subst hP hw hK;obtain⟨⟨old,s1⟩,s4⟩:=st;obtain⟨xs,rL,hlen⟩:=hg;obtain⟨its,rv,p,_⟩:=oY I rL;have hl:=rv.length;have hT:s.TypeIs (.ref e) "enumerate":=⟨_,s1,rfl⟩;have fin:∀h',Heap.ExtBut it s.heap h'->Æ X Â σ H {s with heap:=h'}:=λh' kp=>by obtain⟨f0,f1,f2,f3,f4,f5⟩:=hf it Ò;exact I.turned (t':=s.toks) (λb o hb z=>kp b o hb z) f0 f1 f3 f4 f5
  unfold pyNext;refine Ä (wpAny_attempt (wpAny_callSpecial?_slot (name:=Str.ofString "__next__") hT F.slot_enumerate_next (wpAny_call_entry F.slot_enumerate_next hT F.entry_enumerate_next ?_ (F.args_enumerate_next_1 _))));show wpAny _ _ (field (.ref e) 2>>=_) _ _ _;refine Ä (wpAny_field s1 rfl (x:=.ref it) rfl ?_);refine Ä (yH (I.ok.hd hc) s4 p (by simp;lia) λh' x FK dv=>?_);obtain⟨o,ho,TU⟩:=dv;refine Ä (wpAny_isInstance (T:="StopIteration") (b:=true) ⟨o,ho,TU⟩ isSubtype_stop (Ó ⟨rfl,fin h' FK⟩))
 self:=λ_ _ _ _ _ st h=>wpAny_pyIter_enum st.1.choose_spec h
section
def Nu(t0:Bool)(K:Frag)(t:TA):TI:=λσ H R=>t σ H λvs H1=>∃a xs,vs=[.ref a]/\SQ t0 K H1 a xs/\R (Ite t0 K a) H1
theorem pi_enum(t0:Bool)(hg:Gl X "enumerate")(hm:X.mg "enumerate"=none)(ha:PA X [a] ta)(hs:starEach [a] X.env=[(false,eval a X.env)]:=by rfl):PI X (.Tuple es k tp) (.Call (.Name "enumerate" p) [a] [] pos) (Nu t0 X.K ta):=by
 intro Â s σ H R I h;refine Call_ (jd I hg hm boot_enumerate (PyProof.Rows.callWith_type1 (Ú (ha pos Â s σ H _ I h) λus s1=>?_) hs rfl));rintro⟨vs,H1,I1,r1,q1⟩;obtain⟨x,xs,e,hx,q⟩:=q1;subst e;obtain⟨u,rfl,ru⟩:=þ r1;cases ru;obtain⟨its,_,p1,_⟩:=oY I1 hx;refine rQ p1 λh' z1 z4 kp=>?_;refine wpAny_pyIter_enum z1 ?_;have lx:x<s1.heap.objs.size:=by obtain⟨_,e,_⟩:=p1;exact í e
 refine⟨_,_,_,_,H1,rfl,I1.kept (t':=s1.toks) kp,BW (e:=s1.heap.objs.size+1) (it:=s1.heap.objs.size) (a:=x) (Nat.succ_ne_self _) (ϗ (Nat.lt_succ_of_lt lx)) (ė lx),⟨⟨_,z1⟩,z4⟩,λc hc=>?_,q⟩;have hle:s1.heap.objs.size<=c:=by grind
 exact I1.fpOk hle (I1.hok.fresh hle)
end
theorem for_enum(t0:Bool){K:Frag}{g:TG}{tb:TS}{D:Ĥ}{σ:St}{H:Hp}(Pv:Nat->St->Hp->Prop)(h0:Pv 0 σ H)(hl:∀i σ H,i<=xs.length->Pv i σ H->SQ t0 K H a xs)(hs:∀i x σ H T,xs[i]?=some x->Pv i σ H->H T=none->g (.ref T) σ (upd H T (.tup [.int i,x])) λax H2=>tb {D with nx:=Pv (i+1),ct:=Pv (i+1),bk:=D.nx} ax H2)(hd:∀σ H,Pv xs.length σ H->D.nx σ H):∃W:Nat->Nat->St->Hp->Prop,(∃m,W 0 m σ H)/\∀i m σ H,W i m σ H->((Ite t0 K a).stop i H/\D.nx σ H)\/((Ite t0 K a).go i H/\∃N:St->Hp->Prop,(∀ah H',N ah H'->∃m',m'<m/\W (i+1) m' ah H')/\∀x H',(Ite t0 K a).yld i H x H'->g x σ H' λax H2=>tb {D with nx:=N,ct:=N,bk:=D.nx} ax H2):=by
 refine⟨λi m σ H=>m=xs.length-i/\i<=xs.length/\Pv i σ H,⟨xs.length,by simp,ħ _,h0⟩,?_⟩;rintro i m σ H⟨rfl,hi,p⟩;have q:=hl i σ H hi p;by_cases av:i<xs.length;.refine .inr ⟨⟨xs,xs[i],q,by simp[av]⟩,Pv (i+1),λah H' p'=>⟨xs.length-(i+1),z03,rfl,av,p'⟩,λx H' y=>?_⟩;obtain⟨T,nT,rfl,y⟩:=y;obtain⟨x,ex,rfl⟩:=y xs q;exact hs i x σ H T ex p nT
 .have e:i=xs.length:=z03;subst e;exact .inl ⟨⟨xs,q,Ø _⟩,hd σ H p⟩
end L2.ZT
namespace L2
open PySem PySem.Spec PyProof.Rows
section
theorem rR(hc:X.calm=true):dH X (.builtin "min") (λxs H Q=>∃(p:Addr)(ns:VV),xs=[.ref p]/\Ï X.K H p (ns.map V.int)/\ns≠[]/\∀M,M∈ns->(∀a∈ns,M<=a)->Q (.int M) H):=by
 intro Â s σ H xs us Q I r h;obtain⟨p,ns,rfl,hq,gL,q⟩:=h;obtain⟨u,rfl,ru⟩:=þ r;cases ru;obtain⟨its,rv,pl,hz⟩:=I.list hq;have hi:IntsAre its ns:=ń rv;obtain⟨zs,ez⟩:=(hi.allInts:AllInts its.toArray).items;have en:numsOf its=ns:=hi.numsOf;have hl:s.heap.IsList p (intItems zs):=ez▸pl.isList;have ay:0<zs.size:=by
  have e1:(intItems zs).size=its.length:=by rw[<-ez,ć]
  have e2:=rv.length;rw[Ý]at e2;have e3:0<ns.length:=List.length_pos_iff.mpr gL;simp only[intItems,Array.size_map]at e1;lia
 have hn:numsOf (intItems zs).toList=ns:=by rw[<-ez];exact en
 refine min_intList (I.ok.hd hc) hl ay λv h' tk hv hk=>?_;obtain⟨t,rfl⟩:=intItems_at hv;obtain⟨h1,h2⟩:=argBest_lt (numAt zs) (zs.size-1);rw[nums_intItems]at hn;refine⟨.int _,H,I.kept (t':=tk) hk,⟨t,rfl⟩,q _ ?_ λa ha=>?_⟩;.rw[<-hn,numAt_eq];exact getD_mem (by rw[Ý,Ě];omega)
 .rw[<-hn]at ha;obtain⟨j,hj,rfl⟩:=mem_getD ha;rw[Ý,Ě]at hj;rw[<-numAt_eq];exact h2 j À
inductive ϋ(K:Frag)(x:V)(y:V)(H:Hp)(Q:VK):Prop|mk:∀a b ys,(x=.ref a)->(y=.ref b)->(Ì K H a [])->(Ì K H b ys)->(Q (.ref b) H)->ϋ K x y H Q
def Le(K:Frag):R2:=λx y H Q=>ϋ K x y H Q
open Builtin in
theorem Ei(l b:Addr)(its:ĵ)(n m:Nat)(dd nv:Option Addr)(sl kN:Array (Φ)):Meets (Builtin.«tuple.__add__» ⟨[.ref l,.ref b],[]⟩) (λ_ R s=>s.heap.get? l=some {cls:=.type "tuple",dict:=dd,data:=.seq #[] n,slots:=sl}/\s.heap.get? b=some {cls:=.type "tuple",dict:=nv,data:=.seq its m,slots:=kN}/\R (.ok (.ret (.ref b))) s):=by refine .of_wp λprog w A R s h=>?_;obtain⟨hl,hb,h⟩:=h;have f2:=PySem.AutoSeq1.sub_tuple_tuple;wp_walk;exact⟨_,rfl,h⟩
theorem wH:Ċ X (binaryOp .Add) (Le X.K):=by intro Â s σ H x y v u Q I rx ry h;obtain⟨a,b,ys,rfl,rfl,ha,hb,q⟩:=h;cases rx;cases ry;obtain⟨its,r1,p1,_⟩:=I.tuple ha;obtain⟨aS,r2,p2,_⟩:=I.tuple hb;have e:its=[]:=r1.zero;subst e;obtain⟨⟨cls,dd,data,sl⟩,ho,hc,n,hd⟩:=id p1;obtain⟨⟨IE,nv,data2,kN⟩,wc,we,n2,hd2⟩:=id p2;simp only at hc hd we hd2;subst hc hd we hd2;exact concat_meets ⟨_,ho,rfl⟩ ⟨_,wc,rfl⟩ noFill_tuple_add seq_tuple_add PySem.F.slot_tuple_add PySem.F.entry_tuple_add (PySem.F.args_tuple_add_2 _ _) (Ei a b aS.toArray n n2 dd nv sl kN) ⟨ho,wc,.ref b,H,I,rfl,q⟩
theorem Ej:Ċ X (binaryOp .Add) (λx y H Q=>∃a b xs ys,x=.ref a/\y=.ref b/\Ì X.K H a xs/\Ì X.K H b ys/\ys≠[]/\xs.length+ys.length<=sizeLine/\(xs=[]->Q (.ref b) H)/\(xs≠[]->∀p,H p=none->Q (.ref p) (upd H p (.tup (xs++ys))))):=by
 intro Â s σ H x y v u Q I rx ry h;obtain⟨a,b,xs,ys,rfl,rfl,ha,hb,hy,hz,q1,q2⟩:=h;by_cases hx:xs=[];.subst hx;exact wH Â s σ H _ _ v u Q I rx ry ⟨a,b,ys,rfl,rfl,ha,hb,q1 rfl⟩
 .exact zu Â s σ H _ _ v u Q I rx ry ⟨a,b,xs,ys,rfl,rfl,ha,hb,hx,hz,λz=>absurd z hy,λ_=>q2 hx⟩
end
section
open HT in
theorem mG{lo hi:Option Int}(ht:IsTup s.heap t items)(hs:s.heap.IsSliceOf sl vl vu .none)(pl:IsPart vl lo)(pu:IsPart vu hi)(h1:sIx items.size 0 lo=0)(h2:sIx items.size items.size hi=items.size)(h:Q (.ref t) s):wpAny (model prog w) A (getItem (.ref t) (.ref sl)) Q E s:=by
 obtain⟨os,l9,iL,rh⟩:=id hs;have Cf:s.TypeIs (.ref sl) "slice":=⟨os,l9,iL⟩;unfold getItem;try with_reducible refine wpAny_holding ?_
 first|refine Ä (Ó ?_)|skip
 refine Ä (wpAny_sequenceKey ht.typeIs Ù ?_);refine Ä (wpAny_callSpecial?_slot (name:=Str.ofString "__getitem__") ht.typeIs PyProof.Rows.slot_tuple_getitem (wpAny_call_entry PyProof.Rows.slot_tuple_getitem ht.typeIs entry_tuple_getitem ?_ (args_tuple_getitem _ _)));show wpAny _ _ (Builtin.Tuple.tupleItemsOf (.ref t)>>=_) _ _ s;refine Ä (tupleItemsOf_ ht ?_);refine Ä (wpAny_typeOf Cf ?_);refine Ä (iU hs pl pu ?_);rw[h1,h2];show wpAny _ _ (if((((0:Nat):Int))==0&&(1:Int)==1&&(items.size-0)==items.size)=true then _ else _) _ _ s;rw[Í Ò];refine Ä (Ä (wpAny_typeOf ht.typeIs (Ó ?_)));rw[Í Ù];exact Ä (wpAny_rule (Ó ⟨_,rfl,Ó h⟩))
end
section
inductive Z08(K:Frag)(x:V)(lo:Option Int)(hi:Option Int)(H:Hp)(Q:VK):Prop|mk:∀a xs,(x=.ref a)->(Ì K H a xs)->(((HT.sIx xs.length 0 lo=0/\HT.sIx xs.length xs.length hi=xs.length)->Q (.ref a) H))->((¬(HT.sIx xs.length 0 lo=0/\HT.sIx xs.length xs.length hi=xs.length)->∀p,H p=none->Q (.ref p) (upd H p (.tup (jx xs lo hi)))))->Z08 K x lo hi H Q
def PK(K:Frag):V->Option Int->Option Int->Hp->VK->Prop:=λx lo hi H Q=>Z08 K x lo hi H Q
theorem zT:SlR X (PK X.K):=by
 intro Â s σ H x v vl vu lo hi sl Q I rx hs pl pu h;obtain⟨a,xs,rfl,hx,q1,q2⟩:=h;by_cases hw:HT.sIx xs.length 0 lo=0/\HT.sIx xs.length xs.length hi=xs.length
 .cases rx;obtain⟨its,r,ht,hz⟩:=I.tuple hx;have hlen:its.toArray.size=xs.length:=by rw[ć];exact r.length.symm
  refine⟨"tuple",_,PyProof.Rows.slot_tuple_getitem.lookup,ht.typeIs,?_⟩;exact mG ht hs pl pu (by rw[hlen];exact hw.1) (by rw[hlen];exact hw.2) ⟨.ref a,H,I,rfl,q1 hw⟩
 .exact KC Â s σ H _ v vl vu lo hi sl Q I rx hs pl pu ⟨a,xs,rfl,hx,hw,q2 hw⟩
end
section
open HT in
theorem Ek(xs:ĵ):((List.range xs.size).filterMap λ(k:Nat)=>xs[(((xs.size:Int)-1)+(k:Int)*(-1)).toNat]?).toArray=xs.toList.reverse.toArray:=by
 congr 1;have e:∀k∈List.range xs.size,xs[(((xs.size:Int)-1)+(k:Int)*(-1)).toNat]?=xs.toList.reverse.toArray[k]?:=λk hk=>by
  have hk:=ϡ.mp hk;have e2:xs.toList.reverse.toArray[k]?=xs.toList.reverse[k]?:=by simp only[List.getElem?_toArray]
  have e3:(((xs.size:Int)-1)+(k:Int)*(-1)).toNat=xs.size-1-k:=À;rw[e2,e3,List.getElem?_reverse (by rw[Ě];exact hk),Ě,<-Zal]
 have fc:∀(l:List Nat)(f g:Nat->Φ),(∀k∈l,f k=g k)->l.filterMap f=l.filterMap g:=λl f g h=>by induction l with|nil=>rfl;|cons a l ih=>rw[Zak,Zak,h a ϫ,ih λk hk=>h k (Zai _ hk)]
 rw[fc _ _ _ e];have:=vX xs.toList.reverse.toArray 0 xs.size;have e2:(λ(m:Nat)=>xs.toList.reverse.toArray[(((0:Nat):Int)+(m:Int)*1).toNat]?)=λm=>xs.toList.reverse.toArray[m]?:=by funext m;congr 1;lia
 rw[e2]at this;have this:=congrArg Array.toList this;rw[show(List.filterMap (λm=>xs.toList.reverse.toArray[m]?) (List.range xs.size)).toArray.toList=List.filterMap (λm=>xs.toList.reverse.toArray[m]?) (List.range xs.size)from rfl]at this;rw[this];show List.take xs.size (List.drop 0 xs.toList.reverse)=xs.toList.reverse;rw[List.drop_zero,Zah (by rw[List.length_reverse,Ě];exact Ø _)]
open HT in
theorem pq(ht:IsTup s.heap t items)(hs:s.heap.IsSliceOf sl .none .none (.int (-1) u))(hz:items.size<=sizeLine)(h:Q (.ref s.heap.objs.size) {s with heap:=s.heap.push {cls:=.type "tuple",data:=.seq items.toList.reverse.toArray}}):wpAny (model prog w) A (getItem (.ref t) (.ref sl)) Q E s:=by
 obtain⟨os,l9,iL,rh⟩:=id hs;have Cf:s.TypeIs (.ref sl) "slice":=⟨os,l9,iL⟩;unfold getItem;try with_reducible refine wpAny_holding ?_
 first|refine Ä (Ó ?_)|skip
 refine Ä (wpAny_sequenceKey ht.typeIs Ù ?_);refine Ä (wpAny_callSpecial?_slot (name:=Str.ofString "__getitem__") ht.typeIs PyProof.Rows.slot_tuple_getitem (wpAny_call_entry PyProof.Rows.slot_tuple_getitem ht.typeIs entry_tuple_getitem ?_ (args_tuple_getitem _ _)));show wpAny _ _ (Builtin.Tuple.tupleItemsOf (.ref t)>>=_) _ _ s;refine Ä (tupleItemsOf_ ht ?_);refine Ä (wpAny_typeOf Cf ?_);rw[Í Ù];unfold Builtin.Slice.sliceApplied Builtin.Slice.sliceFields;refine Ä (Ä (Ä (wpAny_field l9 rh (x:=.none) rfl (Ä (wpAny_field l9 rh (x:=.none) rfl (Ä (wpAny_field l9 rh (x:=.int (-1) u) rfl (Ó ?_))))))));refine Ä (slicePart_int ?_);show wpAny _ _ (if((-1:Int)==0)=true then _ else _) _ _ s;rw[Ë Ù];refine Ä (slicePart_none (Ä (slicePart_none (Ä (Ó ?_)))));have ea:Builtin.Slice.sliceAdjust none none (-1) (items.size:Int)=((items.size:Int)-1,-1):=rfl;show wpAny _ _ (match Builtin.Slice.sliceAdjust none none (-1) (items.size:Int)with|(lo,hi)=>pure (lo,(-1:Int),Builtin.Slice.slicePlaces lo hi (-1))) _ _ s;rw[ea];have ep:Builtin.Slice.slicePlaces ((items.size:Int)-1) (-1) (-1)=items.size:=by
  unfold Builtin.Slice.slicePlaces;rw[Ë Ù];by_cases h0:items.size=0;.rw[h0];rfl
  .rw[Í À];show(((items.size:Int)-1- -1-1)/1+1).toNat=items.size;simp
 show wpAny _ _ (pure ((items.size:Int)-1,(-1:Int),Builtin.Slice.slicePlaces ((items.size:Int)-1) (-1) (-1))) _ _ s;rw[ep];refine Ó ?_;show wpAny _ _ (if(((items.size:Int)-1)==0&&(-1:Int)==1&&items.size==items.size)=true then _ else _) _ _ s;rw[Ë Ò,Ek];have cw:sizeOk (.seq items.toList.reverse.toArray):=by show items.toList.reverse.toArray.size<=sizeLine;rw[ć,List.length_reverse,Ě];exact hz
 first|exact Ä (m:=Builtin.Tuple.tupleExact _) (Κ (Ó ⟨_,rfl,Ó h⟩) cw);|exact Ä (m:=Builtin.Tuple.tupleExact _) (Κ (Ä (Ó (Ó ⟨_,rfl,Ó h⟩))) cw);|exact Ä (Ä (m:=Builtin.Tuple.tupleExact _) (Κ (Ó (Ó ⟨_,rfl,Ó h⟩)) cw));|exact Ä (Ä (m:=Builtin.Tuple.tupleExact _) (Κ (Ó ⟨_,rfl,Ó h⟩) cw))
end
section
def Nv(K:Frag)(te:TE):TE:=λσ H Q=>te σ H λx H1=>∃a xs,x=.ref a/\Ì K H1 a xs/\∀p,H1 p=none->Q (.ref p) (upd H1 p (.tup xs.reverse))
theorem Lf(he:PE X e te):PE X (.Subscript e (.Slice none none (some (.UnaryOp .USub (.Constant (.int 1) j p4) p3)) p2) pos) (Nv X.K te):=by
 intro Â s σ H Q I h;refine Subscript_ (Ú (he Â s σ H _ I h) λv s1=>?_);rintro⟨x,H1,I1,r1,q1⟩;obtain⟨a,xs,rfl,hx,q⟩:=q1;cases r1;refine wpAny_Slice ?_;rw[evalPart_none];refine Ó (Ó ?_);rw[evalPart_some];refine Ú (vU (X:=X) (pos:=p3) pR (au (i:=1) (j:=j) (pos:=p4)) Â s1 σ H1 (λz H'=>z=V.int (-1)/\H'=H1) I1 ⟨1,rfl,rfl,rfl⟩) λu s2 hh=>?_;obtain⟨z,H2,I2,r2,e1,e2⟩:=hh;subst e1 e2;obtain⟨t,rfl⟩:=r2;have I4:Æ X Â σ H2 {s2 with heap:=s2.heap.push {cls:=.type "slice",data:=.fields #[.none,.none,.int (-1) t]}}:=I2.kept (t':=s2.toks) λb ob q=>ë _ q;obtain⟨its,r,ht,hz⟩:=I4.tuple hx;have hlen:its.toArray.size=xs.length:=by rw[ć];exact r.length.symm
 refine tail_any (ops:=[.ref a,.ref s2.heap.objs.size]) ht.typeIs PyProof.Rows.slot_tuple_getitem.lookup ?_ (by with_unfolding_all rfl);refine pq ht (Heap.IsSliceOf.new ..) (by rw[hlen];exact hz) ?_;refine⟨.ref (s2.heap.push {cls:=.type "slice",data:=.fields #[.none,.none,.int (-1) t]}).objs.size,_,I4.laid (t':=s2.toks) (o:=.tup xs.reverse) (λb ob q=>ë _ q) (Ø _) ?_,rfl,q _ (I4.hok.fresh (Ø _))⟩;exact⟨by rw[List.length_reverse];exact hz,_,r.reverse,IsTup.new _ _⟩
end
end L2
namespace L2.ZT
open PySem PySem.Spec PyProof.Rows L2
section
theorem wI{z TI TO i1 i2 l1 l2:Addr}(D:ZipApart z TI TO i1 i2 l1 l2)(hz:IsZip s.heap z TI TO .none)(rS:IsPair s.heap TI (.ref i1) (.ref i2))(FU:IsPair s.heap TO a b)(h1:Io t1 s.heap i1 l1 k)(h2:Io t2 s.heap i2 l2 k)(bX:Sq t1 s.heap l1 xs)(cy:Sq t2 s.heap l2 ys)(hx:xs[k]?=some x)(hy:ys[k]?=some y)(hQ:∀h',IsZip h' z TI TO (rawInt s.heap.objs.size)->IsPair h' TO x y->Io t1 h' i1 l1 (k+1)->Io t2 h' i2 l2 (k+1)->IsPair h' s.heap.objs.size x y->h'.objs.size=s.heap.objs.size+1->(∀c o,c≠z->c≠TO->c≠i1->c≠i2->s.heap.get? c=some o->h'.get? c=some o)->Q (some (.ref s.heap.objs.size)) {s with heap:=h'}):wpAny (model prog w) A (pyNext (.ref z)) Q E s:=by
 have hT:s.TypeIs (.ref z) "zip":=⟨_,hz,rfl⟩;unfold pyNext;refine Ä (wpAny_attempt (wpAny_callSpecial?_slot (name:=Str.ofString "__next__") hT F.slot_zip_next (wpAny_call_entry F.slot_zip_next hT F.entry_zip_next ?_ (F.args_zip_next_1 _))));show wpAny _ _ (field (.ref z) 2>>=_) _ _ _;refine Ä (wpAny_field hz rfl (x:=.bool false) rfl ?_);show wpAny _ _ (field (.ref z) 3>>=_) _ _ _;refine Ä (wpAny_field hz rfl (x:=.ref TI) rfl (Ä (wpAny_seqItems rS rfl ?_)));refine Ä ?_;unfold Builtin.SmallTypes.ownedTupleIsFree;refine Ä (wpAny_field hz rfl (x:=.none) rfl (Ó ?_));simp only[if_true];refine Ä (wpAny_rule (Ä (wpAny_field hz rfl (x:=.ref TO) rfl (Ä (wpAny_setField_rec hz Ò λg1 z1 s1=>?_)))));replace z1:IsZip g1 z TI TO .ellipsis:=z1;refine Ä ?_;simp only[List.zipIdx_cons,List.zipIdx_nil,List.forIn_cons,List.forIn_nil];refine Ä (Ä (wpAny_onRaise ?_));show wpAny _ _ (Builtin.SmallTypes.nextOf (.ref i1)>>=_) _ _ _;refine Ä (nx (h1.extBut s1.extBut D.i1z) (bX.extBut s1.extBut D.l1z) hx λg2 q1 s2=>Ó ?_);have o2:IsPair g2 TO a b:=s2.extBut _ _ D.TOi1 (s1.extBut _ _ D.TOz FU);refine Ä (wpAny_seqItems o2 rfl (Ä (wpAny_updateSeq_pair o2 λg3 o3 s3=>?_)));replace o3:IsPair g3 TO x b:=o3;refine Ä (wpAny_letGo (Ó (Ä (Ä (wpAny_onRaise ?_)))));show wpAny _ _ (Builtin.SmallTypes.nextOf (.ref i2)>>=_) _ _ _;refine Ä (nx (((h2.extBut s1.extBut D.i2z).extBut s2.extBut D.i12.symm).extBut s3.extBut D.TOi2.symm) (((cy.extBut s1.extBut D.l2z).extBut s2.extBut D.l2i1).extBut s3.extBut D.l2TO) hy λg4 q2 s4=>Ó ?_);have o4:IsPair g4 TO x b:=s4.extBut _ _ D.TOi2 o3;refine Ä (wpAny_seqItems o4 rfl (Ä (wpAny_updateSeq_pair o4 λg5 o5 s5=>?_)));replace o5:IsPair g5 TO x y:=o5;refine Ä (wpAny_letGo (Ó (Ó (Ä (wpAny_seqItems o5 rfl (Ä (wpAny_newTuple ?_)))))));have hsz:g5.objs.size=s.heap.objs.size:=by rw[s5.1,s4.1,s3.1,s2.1,s1.1]
 have z5:IsZip g5 z TI TO .ellipsis:=s5.extBut _ _ D.TOz.symm (s4.extBut _ _ D.i2z.symm (s3.extBut _ _ D.TOz.symm (s2.extBut _ _ D.i1z.symm z1)));have k5:∀c o,c≠z->c≠TO->c≠i1->c≠i2->s.heap.get? c=some o->g5.get? c=some o:=λc o c1 c2 c3 c4 e=>s5.extBut _ _ c2 (s4.extBut _ _ c4 (s3.extBut _ _ c2 (s2.extBut _ _ c3 (s1.extBut _ _ c1 e))));have p1:Io t1 g5 i1 l1 (k+1):=((q1.extBut s3.extBut D.TOi1.symm).extBut s4.extBut D.i12).extBut s5.extBut D.TOi1.symm;have p2:Io t2 g5 i2 l2 (k+1):=q2.extBut s5.extBut D.TOi2.symm;have OK:z<g5.objs.size:=í z5;refine Ä ?_;unfold Builtin.SmallTypes.ownedTupleHandOut;have z6:IsZip (g5.push {cls:=.type "tuple",data:=.seq #[x,y]}) z TI TO .ellipsis:=ë _ z5;refine Ä (wpAny_setField_rec z6 Ò λg7 z7 s7=>?_);replace z7:IsZip g7 z TI TO (rawInt g5.objs.size):=z7;refine wpAny_setField_rec z7 Ò λg8 z8 s8=>?_;replace z8:IsZip g8 z TI TO (rawInt g5.objs.size):=z8;have up:∀c o,c≠z->g5.get? c=some o->g8.get? c=some o:=λc o c1 e=>s8.extBut _ _ c1 (s7.extBut _ _ c1 (ë _ e));have t8:IsPair g8 g5.objs.size x y:=s8.extBut _ _ (ϗ OK) (s7.extBut _ _ (ϗ OK) (Ę _ rfl));have n8:g8.objs.size=g5.objs.size+1:=by rw[s8.1,s7.1,Heap.size_push]
 rw[hsz]at z8 t8 n8;refine Ó ⟨_,rfl,Ó ?_⟩;show Q (some (.ref g5.objs.size)) _;rw[hsz];exact hQ g8 z8 (up _ _ D.TOz o5) (p1.at λo e=>up _ o D.i1z e) (p2.at λo e=>up _ o D.i2z e) t8 n8 λc o c1 c2 c3 c4 e=>up c o c1 (k5 c o c1 c2 c3 c4 e)
theorem yI{z TI TO i1 i2 l1 l2:Addr}(hh:A.handled=none)(D:ZipApart z TI TO i1 i2 l1 l2)(hz:IsZip s.heap z TI TO .none)(rS:IsPair s.heap TI (.ref i1) (.ref i2))(FU:IsPair s.heap TO a b)(h1:Io t1 s.heap i1 l1 k)(bX:Sq t1 s.heap l1 xs)(hx:xs[k]?=none)(hQ:∀h',(∀c o,c≠z->c≠i1->s.heap.get? c=some o->h'.get? c=some o)->Q none {s with heap:=h'}):wpAny (model prog w) A (pyNext (.ref z)) Q E s:=by
 have hT:s.TypeIs (.ref z) "zip":=⟨_,hz,rfl⟩;refine Ä (wpAny_attempt (wpAny_callSpecial?_slot (name:=Str.ofString "__next__") hT F.slot_zip_next (wpAny_call_entry F.slot_zip_next hT F.entry_zip_next ?_ (F.args_zip_next_1 _))));show wpAny _ _ (field (.ref z) 2>>=_) _ _ _;refine Ä (wpAny_field hz rfl (x:=.bool false) rfl ?_);refine Ä (wpAny_field hz rfl (x:=.ref TI) rfl (Ä (wpAny_seqItems rS rfl ?_)));refine Ä ?_;refine Ä (wpAny_field hz rfl (x:=.none) rfl (Ó ?_));refine Ä (wpAny_rule (Ä (wpAny_field hz rfl (x:=.ref TO) rfl (Ä (wpAny_setField_rec hz Ò λg1 z1 s1=>?_)))));replace z1:IsZip g1 z TI TO .ellipsis:=z1;refine Ä ?_;refine Ä (Ä (wpAny_onRaise ?_));refine Ä (yH hh (h1.extBut s1.extBut D.i1z) (bX.extBut s1.extBut D.l1z) hx λg2 e s2 he=>?_);obtain⟨oe,JA,OL⟩:=he;have z2:IsZip g2 z TI TO .ellipsis:=s2 _ _ D.i1z.symm z1;have TV:e≠z:=λq=>by subst q;rw[z2]at JA;cases JA;simp at OL
 refine wpAny_setField_rec z2 Ò λg3 _ s3=>?_;refine Ä (wpAny_isInstance (T:="StopIteration") (b:=true) ⟨oe,s3.extBut _ _ TV JA,OL⟩ isSubtype_stop (Ó (hQ _ λc o c1 c2 q=>s3.extBut _ _ c1 (s2 _ _ c2 (s1.extBut _ _ c1 q)))))
end
abbrev zA(t1:Bool)(h:Heap)(t:Addr):Heap:=h.push {cls:=.type (nm t1),data:=.fields #[.ref t,.int 0 0]}
abbrev zB(t1 t2:Bool)(h:Heap)(t l:Addr):Heap:=(zA t1 h t).push {cls:=.type (nm t2),data:=.fields #[.ref l,.int 0 0]}
abbrev zC(t1 t2:Bool)(h:Heap)(t l:Addr):Heap:=(zB t1 t2 h t l).push {cls:=.type "tuple",data:=.seq #[.ref h.objs.size,.ref (zA t1 h t).objs.size]}
abbrev zD(t1 t2:Bool)(h:Heap)(t l:Addr):Heap:=(zC t1 t2 h t l).push {cls:=.type "tuple",data:=.seq #[.none,.none]}
abbrev zE(t1 t2:Bool)(h:Heap)(t l:Addr):Heap:=(zD t1 t2 h t l).push {cls:=.type "zip",data:=.fields #[.none,.bool false,.bool false,.ref (zB t1 t2 h t l).objs.size,.ref (zC t1 t2 h t l).objs.size]}
theorem uO(t l:Addr)(xs ys:ĵ):Meets (Builtin.«zip.__new__» ⟨[.type "zip",.ref t,.ref l],[]⟩) (λ_ R s=>Sq t1 s.heap t xs/\Sq t2 s.heap l ys/\R (.ok (.ret (.ref (zD t1 t2 s.heap t l).objs.size))) {s with heap:=zE t1 t2 s.heap t l}):=.of_wp λprog w A R s h=>by obtain⟨hp,g,d,tk,os⟩:=s;obtain⟨ht,hl,h⟩:=h;have CF:=sub_zip;have hT:Sq t1 (Shared.heap ⟨hp,g,d,tk,os⟩) t xs:=ht;have hL:Sq t2 (Shared.heap ⟨hp.push {cls:=.type (nm t1),data:=.fields #[.ref t,.int 0 0]},g,d,tk,os⟩) l ys:=hl.at λo e=>ë _ e;wp_walk using qy hT,qy hL;exact⟨_,rfl,h⟩
theorem wJ{s:Shared}(ht:Sq t1 s.heap t xs)(hl:Sq t2 s.heap l ys)(h:∀h',IsZip h' (s.heap.objs.size+4) (s.heap.objs.size+2) (s.heap.objs.size+3) .none->IsPair h' (s.heap.objs.size+2) (.ref s.heap.objs.size) (.ref (s.heap.objs.size+1))->IsPair h' (s.heap.objs.size+3) .none .none->Io t1 h' s.heap.objs.size t 0->Io t2 h' (s.heap.objs.size+1) l 0->(∀c o,s.heap.get? c=some o->h'.get? c=some o)->Q (.ref (s.heap.objs.size+4)) {s with heap:=h'}):wpAny (model prog w) A (call (.type "zip") [.ref t,.ref l]) Q E s:=by
 refine callType_new F.called_zip Ù (F.typeCall_zip_2 _ _) (F.newCall_zip_2 _ _) (λobj=>F.args_object_init_3 obj _ _) F.entry_zip_new (uO t l xs ys) ⟨ht,hl,?_⟩;have e1:(zA t1 s.heap t).objs.size=s.heap.objs.size+1:=Heap.size_push ..;have e2:(zB t1 t2 s.heap t l).objs.size=s.heap.objs.size+2:=by rw[Heap.size_push,e1]
 have e3:(zC t1 t2 s.heap t l).objs.size=s.heap.objs.size+3:=by rw[Heap.size_push,e2]
 have e4:(zD t1 t2 s.heap t l).objs.size=s.heap.objs.size+4:=by rw[Heap.size_push,e3]
 have OM:∀{c o},(zD t1 t2 s.heap t l).get? c=some o->(zE t1 t2 s.heap t l).get? c=some o:=λe=>ë _ e;have ON:∀{c o},(zC t1 t2 s.heap t l).get? c=some o->(zE t1 t2 s.heap t l).get? c=some o:=λe=>OM (ë _ e);have OO:∀{c o},(zB t1 t2 s.heap t l).get? c=some o->(zE t1 t2 s.heap t l).get? c=some o:=λe=>ON (ë _ e);have up1:∀{c o},(zA t1 s.heap t).get? c=some o->(zE t1 t2 s.heap t l).get? c=some o:=λe=>OO (ë _ e);have g5:(zE t1 t2 s.heap t l).get? (zD t1 t2 s.heap t l).objs.size=some _:=Ę _ rfl;have g4:(zE t1 t2 s.heap t l).get? (zC t1 t2 s.heap t l).objs.size=some _:=OM (Ę _ rfl);have g3:(zE t1 t2 s.heap t l).get? (zB t1 t2 s.heap t l).objs.size=some _:=ON (Ę _ rfl);have g2:(zE t1 t2 s.heap t l).get? (zA t1 s.heap t).objs.size=some _:=OO (Ę _ rfl);have g1:(zE t1 t2 s.heap t l).get? s.heap.objs.size=some _:=up1 (Ę _ rfl);rw[e4,e2,e3]at g5;rw[e2,e1]at g3;rw[e3]at g4;rw[e1]at g2;rw[e4];exact⟨⟨_,g5,rfl⟩,h _ g5 g3 g4 ⟨_,g1,rfl,rfl⟩ ⟨_,g2,rfl,rfl⟩ λc o x=>up1 (ë _ x)⟩
def Itz(t1 t2:Bool)(K:Frag)(a b:Addr):It:=⟨λi H=>∃xs ys x y,SQ t1 K H a xs/\SQ t2 K H b ys/\xs[i]?=some x/\ys[i]?=some y,λi H v H'=>∃T,H T=none/\v=.ref T/\∀xs ys,SQ t1 K H a xs->SQ t2 K H b ys->∃x y,xs[i]?=some x/\ys[i]?=some y/\H'=upd H T (.tup [x,y]),λi H=>∃xs,SQ t1 K H a xs/\xs.length<=i⟩
def tnz(t1 t2:Bool)(z TI TO i1 i2 a b:Addr)(i:Nat)(h:Heap):Prop:=IsZip h z TI TO .none/\IsPair h TI (.ref i1) (.ref i2)/\(∃u v,IsPair h TO u v)/\Io t1 h i1 a i/\Io t2 h i2 b i
theorem El{K:Frag}{pos:Pos}{z TI TO i1 i2 a b:Addr}(D:ZipApart z TI TO i1 i2 a b):š P w K (.Tuple es k pos) (Itz t1 t2 K a b) [z,TI,TO,i1,i2] z (tnz t1 t2 z TI TO i1 i2 a b)where
 mem:=by simp
 obj:=λi h st c hc=>by
  obtain⟨s1,s2,⟨u,v,s3⟩,⟨o4,s4,c4,d4⟩,⟨o5,s5,c5,d5⟩⟩:=st;simp only[List.mem_cons,List.not_mem_nil,or_false]at hc;rcases hc with e|e|e|e|e<;>subst e;.exact⟨_,s1,λv q=>by cases q⟩
  .exact⟨_,s2,λv q=>by cases q⟩
  .exact⟨_,s3,λv q=>by cases q⟩
  .exact⟨_,s4,λv q=>by rw[d4]at q;cases q⟩
  .exact⟨_,s5,λv q=>by rw[d5]at q;cases q⟩
 keep:=λi h h' st kp=>by obtain⟨s1,s2,⟨u,v,s3⟩,s4,s5⟩:=st;exact⟨kp z Ò _ s1,kp TI Ò _ s2,⟨u,v,kp TO Ò _ s3⟩,s4.at λo e=>kp i1 Ò o e,s5.at λo e=>kp i2 Ò o e⟩
 item:=by
  intro X hP hw hK hc i Â s σ H E I hf st hg;subst hP hw hK;obtain⟨s1,s2,⟨u,v,s3⟩,s4,s5⟩:=st;obtain⟨xs,ys,x,y,rL,OP,hx,hy⟩:=hg;obtain⟨its,rv,p,_⟩:=oY I rL;obtain⟨TX,iE,q,_⟩:=oY I OP;obtain⟨ux,FR,rx⟩:=rv.get hx;obtain⟨uy,TY,ry⟩:=iE.get hy;refine wI D s1 s2 s3 s4 s5 p q (x:=ux) (y:=uy) (by simpa using FR) (by simpa using TY) λh1 g1 g2 g3 g4 g5 g6 kp=>?_;refine⟨_,rfl,?_⟩;refine wpAny_letOwnedTupleGo_zip g1 λh2 e1 sb=>?_;have ne:∀c,c∈[z,TI,TO,i1,i2]->c≠s.heap.objs.size:=λc aw e=>by
   obtain⟨f0,f1,f2,f3,f4,f5⟩:=hf c aw;have:∃o,s.heap.get? c=some o:=by
    simp only[List.mem_cons,List.not_mem_nil,or_false]at aw;rcases aw with q|q|q|q|q<;>subst q;.exact⟨_,s1⟩
    .exact⟨_,s2⟩
    .exact⟨_,s3⟩
    .obtain⟨o,h,_⟩:=s4;exact⟨o,h⟩
    .obtain⟨o,h,_⟩:=s5;exact⟨o,h⟩
   obtain⟨o,ho⟩:=this;exact absurd (í ho) (by rw[e];exact Τ _)
  have hT:H s.heap.objs.size=none:=I.hok.fresh (Ø _);have kept:∀c o,c∉[z,TO,i1,i2]->s.heap.get? c=some o->h2.get? c=some o:=λc o aw e=>sb.extBut _ _ (λq=>aw (by simp[q])) (kp c o (λq=>aw (by simp[q])) (λq=>aw (by simp[q])) (λq=>aw (by simp[q])) (λq=>aw (by simp[q])) e);have CH:∀c,c∈[z,TO,i1,i2]->c∈[z,TI,TO,i1,i2]:=λc aw=>by simp only[List.mem_cons,List.not_mem_nil,or_false]at aw⊢;rcases aw with q|q|q|q<;>simp[q]
  have trk:∀c o,H c=some o->c∉[z,TO,i1,i2]:=λc o e aw=>by have:=(hf c (CH c aw)).1;rw[e]at this;cases this
  have xh:h2.get? s.heap.objs.size=some {cls:=.type "tuple",data:=.seq #[ux,uy]}:=sb.extBut _ _ (Ne.symm (ne z Ò)) g5;have nE:û X.prog X.w (upd H s.heap.objs.size (.tup [x,y])) h2:=λc o e=>by
   by_cases hb:c=s.heap.objs.size;.subst hb;rw[aa]at e;cases e;exact⟨by show 2<=sizeLine;decide,[ux,uy],.cons rx (.cons ry .nil),_,xh,rfl,_,rfl⟩
   .rw[aA hb]at e;refine(I.hok c o e).stay (λd v hd q=>kept d v ?_ q) (λd q=>by rw[aA (aD q hT)];exact q) λd l q=>by rw[aA (aD q hT)];exact q
    rcases hd with e'|e';.rw[e'];exact trk c o e
    .exact trk d _ e'
  have I2:Æ X Â σ (upd H s.heap.objs.size (.tup [x,y])) {s with heap:=h2}:=by
   refine I.step (g':=s.gens) (d':=s.drawn) (t':=s.toks) (ch:=[z,TO,i1,i2]) (λc aw=>?_) (λc o _ _ hn e _=>kept c o hn e) (λc o _ _ hn e _=>⟨o.slots,kept c o hn e⟩) (λc o _ e n=>by rw[aA (ė (í e))];exact n) (λc o hn e=>⟨o,kept c o hn e⟩) (λc l e=>by rw[aA (aD e hT)];exact e) (λc o l e=>by rw[aA (aD e hT)];exact e) (λc l e=>⟨#[],by rw[aA (aD e hT),e];simp⟩) (λm hm=>?_) nE I.bare;.obtain⟨f0,f1,f2,f3,f4,f5⟩:=hf c (CH c aw);exact⟨f3,f1,f4,f5⟩
   .obtain⟨o,gv,ep,ho,r⟩:=hm;refine⟨o,gv,ep,kept _ o (λaw=>?_) ho,r⟩;exact(hf _ (CH _ aw)).2.1 rfl
  refine⟨.ref s.heap.objs.size,_,I2,rfl,⟨s.heap.objs.size,hT,rfl,λTR ua Jn TZ=>⟨x,y,?_,?_,rfl⟩⟩,⟨e1,?_,?_,?_,?_⟩,λc aw=>?_⟩;.rw[yG I Jn rL];exact hx
  .rw[yG I TZ OP];exact hy
  .exact sb.extBut _ _ D.TIz (kp _ _ D.TIz D.TITO D.TIi1 D.TIi2 s2)
  .exact⟨_,_,sb.extBut _ _ D.TOz g2⟩
  .exact g3.extBut sb.extBut D.i1z
  .exact g4.extBut sb.extBut D.i2z
  .rw[aA (ne c aw)];exact(hf c aw).1
 done:=by
  intro X hP hw hK hc i Â s σ H E I hf st hg;subst hP hw hK;obtain⟨s1,s2,⟨u,v,s3⟩,s4,s5⟩:=st;obtain⟨xs,rL,hlen⟩:=hg;obtain⟨its,rv,p,_⟩:=oY I rL;have hl:=rv.length;refine yI (I.ok.hd hc) D s1 s2 s3 s4 p (by simp;lia) λh' kp=>⟨rfl,?_⟩;refine I.step (h':=h') (H':=H) (g':=s.gens) (d':=s.drawn) (t':=s.toks) (ch:=[z,i1]) (λc aw=>?_) (λc o _ _ hn e _=>kp c o (λq=>hn (by simp[q])) (λq=>hn (by simp[q])) e) (λc o _ _ hn e _=>⟨o.slots,kp c o (λq=>hn (by simp[q])) (λq=>hn (by simp[q])) e⟩) (λc o _ e n=>n) (λc o hn e=>⟨o,kp c o (λq=>hn (by simp[q])) (λq=>hn (by simp[q])) e⟩) (λ_ _ e=>e) (λ_ _ _ e=>e) (λc l e=>⟨#[],by rw[e];simp⟩) (λm hm=>?_) (λc o e=>?_) I.bare
  .have:c∈[z,TI,TO,i1,i2]:=by simp only[List.mem_cons,List.not_mem_nil,or_false]at aw⊢;rcases aw with q|q<;>simp[q]
   obtain⟨f0,f1,f2,f3,f4,f5⟩:=hf c this;exact⟨f3,f1,f4,f5⟩
  .obtain⟨o,gv,ep,ho,r⟩:=hm;exact⟨o,gv,ep,kp _ o (Ne.symm (hf z Ò).2.1) (Ne.symm (hf i1 Ò).2.1) ho,r⟩
  .have nn:∀d v c',c'∈[z,TI,TO,i1,i2]->H d=some v->d≠c':=λd v c' aw q e'=>by have:=(hf c' aw).1;rw[<-e',q]at this;cases this
   have nz:∀d v,H d=some v->d≠z/\d≠i1:=λd v q=>⟨nn d v z Ò q,nn d v i1 Ò q⟩;refine(I.hok c o e).stay (λd v hd q=>?_) (λ_ q=>q) λ_ _ q=>q;rcases hd with e'|e';.rw[e']at q⊢;exact kp c v (nz c o e).1 (nz c o e).2 q
   .exact kp d v (nz d _ e').1 (nz d _ e').2 q
 self:=λ_ _ _ _ _ st h=>wpAny_pyIter_zip st.1 h
section
def PL(t1 t2:Bool)(K:Frag)(t:TA):TI:=λσ H R=>t σ H λvs H1=>∃a b xs ys,vs=[.ref a,.ref b]/\SQ t1 K H1 a xs/\SQ t2 K H1 b ys/\R (Itz t1 t2 K a b) H1
theorem pi_zip(t1 t2:Bool){es:Qa3}{k:Nat}{tp:Pos}{ta:TA}{p pos:Pos}(hg:Gl X "zip")(hm:X.mg "zip"=none)(ha:PA X [a,b] ta)(hs:starEach [a,b] X.env=[(false,eval a X.env),(false,eval b X.env)]:=by rfl)(tq:starEach [b] X.env=[(false,eval b X.env)]:=by rfl):PI X (.Tuple es k tp) (.Call (.Name "zip" p) [a,b] [] pos) (PL t1 t2 X.K ta):=by
 intro Â s σ H R I h;refine Call_ (jd I hg hm boot_zip (PyProof.Rows.callWith_type1 (Ú (ha pos Â s σ H _ I h) λus s1=>?_) (by rw[hs,tq]) (by rw[tq];rfl)));rintro⟨vs,H1,I1,r1,q1⟩;obtain⟨x,y,xs,ys,e,hx,hy,q⟩:=q1;subst e;obtain⟨u,v,rfl,ru,rv⟩:=Ő r1;cases ru;cases rv;obtain⟨its,_,p1,_⟩:=oY I1 hx;obtain⟨TX,_,p2,_⟩:=oY I1 hy;refine wJ p1 p2 λh' z1 z2 z3 z4 z5 kp=>?_;refine wpAny_pyIter_zip z1 ?_;have lx:x<s1.heap.objs.size:=by obtain⟨_,e,_⟩:=p1;exact í e
 have ly:y<s1.heap.objs.size:=by obtain⟨_,e,_⟩:=p2;exact í e
 refine⟨_,_,_,_,H1,rfl,I1.kept (t':=s1.toks) kp,El (zipApart_new lx ly),⟨z1,z2,⟨_,_,z3⟩,z4,z5⟩,λc hc=>?_,q⟩;have hle:s1.heap.objs.size<=c:=by grind
 exact I1.fpOk hle (I1.hok.fresh hle)
end
end L2.ZT
namespace L2
open PySem PySem.Spec PyProof.Rows PySem.Calls
section
theorem gR(hc:X.calm=true):dH X (.builtin "sum") (λxs H Q=>∃(p:Addr)(ns:VV),xs=[.ref p]/\(Ï X.K H p (ns.map V.int)\/Ì X.K H p (ns.map V.int))/\Q (.int ns.sum) H):=by
 intro Â s σ H xs us Q I r h;obtain⟨p,ns,rfl,hq,q⟩:=h;obtain⟨u,rfl,ru⟩:=þ r;cases ru;have go:∀its:â,Î (ns.map V.int) its->∃zs:Array (Int×Tok),its.toArray=intItems zs/\preSum (numAt zs) zs.size=ns.sum:=λits rv=>by have hi:IntsAre its ns:=ń rv;obtain⟨zs,ez⟩:=(hi.allInts:AllInts its.toArray).items;refine⟨zs,ez,?_⟩;have en:numsOf its.toArray.toList=ns:=hi.numsOf;rw[ez,nums_intItems]at en;rw[preSum_eq,Zah Ò,en]
 rcases hq with hq|hq;.obtain⟨its,rv,pl,hz⟩:=I.list hq;obtain⟨zs,ez,es⟩:=go its rv;refine sum_intListG (I.ok.hd hc) (ez▸pl.isList) λh' tk t' hk=>?_;rw[es];exact⟨.int _,H,I.kept (t':=tk) hk,⟨t',rfl⟩,q⟩
 .obtain⟨its,rv,pl,hz⟩:=I.tuple hq;obtain⟨zs,ez,es⟩:=go its rv;have ht:s.heap.IsTuple p its.toArray:=pl;refine PySem.W.ktm_sumG (I.ok.hd hc) (ez▸ht) λh' tk t' hk=>?_;rw[es];exact⟨.int _,H,I.kept (t':=tk) hk,⟨t',rfl⟩,q⟩
end
section
open PySem.W
end
section
end
end L2
namespace Srt
open PySem PyProof.Rows
def iB:Bool->Keyed->Array Keyed->Nat->Nat->Nat->StateT SortSt Sem (Option Nat):=sortPriv%PySem.Builtin.gallop
section
def Nx(prog:Program)(w:World)(A:Around)(E:Tc)(s:Shared)(κ:gV)(st:SortSt):Prop:=∀(x y:Keyed)(a b:κ.α)(Q:Option Bool->SortSt->Prop),κ.keyOf x.1=some a->κ.keyOf y.1=some b->Q (some (κ.blt a b)) st->wpS (model prog w) A E s (lt' x y) Q st
theorem bA{st:SortSt}(e:arr[i]?=some p)(h:Q p st):wpS (model prog w) A E s (elem' arr i) Q st:=by rw[elem'_eq,e];exact ä h
def bey(κ:gV)(left:Bool)(k:κ.α)(x:κ.α):Bool:=if left then κ.blt x k else !(κ.blt k x)
theorem fZ{st:SortSt}(hL:Nx prog w A E s κ st)(hk:κ.keyOf key.1=some kk)(hn:h<n)(qr:∀i,i<n->∃p a,arr[b+i]?=some p/\κ.keyOf p.1=some a/\KK κ arr (b+i)=a)(hm:∀i j,i<=j->j<n->bey κ left kk (KK κ arr (b+j))=true->bey κ left kk (KK κ arr (b+i))=true)(q:∀k,k<=n->(∀i,i<k->bey κ left kk (KK κ arr (b+i))=true)->(∀i,k<=i->i<n->bey κ left kk (KK κ arr (b+i))=false)->Q (some k) st):wpS (model prog w) A E s (iB left key arr b n h) Q st:=by
 have kR:∀(i:Nat)(R:Option Bool->SortSt->Prop),i<n->R (some (bey κ left kk (KK κ arr (b+i)))) st->wpS (model prog w) A E s (do let x<-elem' arr (b+i)if left=true then lt' x key else do
    let r<-lt' key x
    pure (Option.map (λx=>!x) r)) R st:=λi R hi hR=>by obtain⟨p,a,e1,e2,e3⟩:=qr i hi;refine Û (bA e1 ?_);unfold bey at hR;rw[e3]at hR;cases left with|true=>rw[Í rfl];exact hL _ _ _ _ _ e2 hk hR;|false=>rw[Ë Ù];exact Û (hL _ _ _ _ _ hk e2 (ä hR))
 generalize T2:(λi=>bey κ left kk (KK κ arr (b+i)))=β;have JE:∀i,bey κ left kk (KK κ arr (b+i))=β i:=λi=>by rw[<-T2]
 simp only[JE]at kR hm q
 delta iB;refine Û (kR h _ hn ?_);cases e0:β h with|true=>
  dsimp only;rw[Í rfl];refine Û (wpS_mono (wpS_forRange (I:=λx c Ç=>Ç=st/\c.1=none/\c.2.1<c.2.2/\c.2.1<n-h/\x<c.2.2/\β (h+c.2.1)=true) (Q:=λc Ç=>Ç=st/\c.1=none/\c.2.1<c.2.2/\c.2.1<n-h/\β (h+c.2.1)=true/\(c.2.2≥n-h\/(c.2.2<n-h/\β (h+c.2.2)=false))) ?_ ?_ ⟨rfl,rfl,(by show 0<1;decide),(by show 0<n-h;lia),(by show 0<1;decide),(show β (h+0)=true from e0)⟩) ?_)
  .rintro x⟨c0,l,o⟩Ç _ hx⟨rfl,rfl,g1,g2,g3,g4⟩;dsimp only at g1 g2 g3 g4⊢;by_cases ho:o≥n-h;.rw[Í ho];exact ä ⟨rfl,rfl,g1,g2,g4,.inl ho⟩
   .rw[Ë ho];refine Û (kR (h+o) _ z03 ?_);cases eb:β (h+o)with|true=>dsimp only;rw[Ë Ù];exact ä ⟨rfl,rfl,by dsimp only;lia,by dsimp only;lia,by dsimp only;lia,eb⟩;|false=>dsimp only;rw[Í Ù];exact ä ⟨rfl,rfl,g1,g2,g4,.inr ⟨by dsimp only;lia,eb⟩⟩
  .rintro⟨c0,l,o⟩Ç⟨rfl,rfl,g1,g2,g3,g4⟩;dsimp only at g1 g2 g3 g4⊢;exact⟨rfl,rfl,g1,g2,g4,.inl À⟩
  .rintro⟨c0,l,o⟩Ç⟨rfl,rfl,g1,g2,g4,g5⟩;dsimp only at g1 g2 g4 g5⊢;have w4:∀i,h+min o (n-h)<=i->i<n->β i=false:=λi hi kS=>by grind
   obtain⟨lo,ff⟩:∃lo,lo=h+l+1:=⟨_,rfl⟩;obtain⟨hi,mf⟩:∃hi,hi=h+min o (n-h):=⟨_,rfl⟩;have w1:lo<=hi:=(by grind);have w2:hi<=n:=À;have w3:∀i,i<lo->β i=true:=λi hi=>hm i (h+l) À À g4;have w4:∀i,hi<=i->i<n->β i=false:=by rw[mf];exact w4
   rw[<-ff,<-mf];refine Û (wpS_mono (wpS_forRange (I:=λx c de=>de=Ç/\c.1=none/\c.2.1<=c.2.2/\c.2.2<=n/\c.2.2-c.2.1<=n-x/\(∀i,i<c.2.1->β i=true)/\(∀i,c.2.2<=i->i<n->β i=false)) (Q:=λc de=>de=Ç/\c.1=none/\c.2.2<=n/\(∀i,i<c.2.2->β i=true)/\(∀i,c.2.2<=i->i<n->β i=false)) ?_ ?_ ⟨rfl,rfl,w1,w2,(by show hi-lo<=n-0;omega),w3,w4⟩) ?_)
   .rintro x⟨c0,l,r⟩de _ hx⟨rfl,rfl,g1,g2,g3,g4,g5⟩;dsimp only at g1 g2 g3 g4 g5⊢;by_cases kU:l≥r;.rw[Í kU];have e:l=r:=À;exact ä ⟨rfl,rfl,g2,by rw[<-e];exact g4,g5⟩
    .rw[Ë kU];refine Û (kR (l+(r-l)/2) _ À ?_);cases eb:β (l+(r-l)/2)with|true=>dsimp only;rw[Í rfl];exact ä ⟨rfl,rfl,by dsimp only;grind,g2,by dsimp only;grind,λi hi=>hm i _ (by dsimp only at hi;lia) À eb,g5⟩;|false=>dsimp only;rw[Ë Ù];refine ä ⟨rfl,rfl,by dsimp only;simp,by dsimp only;grind,by dsimp only;grind,g4,λi hi kS=>?_⟩;cases e2:β i with|false=>rfl;|true=>have:=hm (l+(r-l)/2) i hi kS e2;rw[eb]at this;cases this
   .rintro⟨c0,l,r⟩de⟨rfl,rfl,g1,g2,g3,g4,g5⟩;dsimp only at g1 g2 g3 g4 g5⊢;have e:l=r:=À;exact⟨rfl,rfl,g2,by rw[<-e];exact g4,g5⟩
   .rintro⟨c0,l,r⟩de⟨rfl,rfl,g1,g2,g3⟩;exact ä (q _ g1 g2 g3);|false=>
  dsimp only;rw[Ë Ù];refine Û (wpS_mono (wpS_forRange (I:=λx c Ç=>Ç=st/\c.1=none/\c.2.1<c.2.2/\c.2.1<h+1/\x<c.2.2/\β (h-c.2.1)=false) (Q:=λc Ç=>Ç=st/\c.1=none/\c.2.1<c.2.2/\c.2.1<h+1/\β (h-c.2.1)=false/\(c.2.2≥h+1\/(c.2.2<h+1/\β (h-c.2.2)=true))) ?_ ?_ ⟨rfl,rfl,(by show 0<1;decide),(by show 0<h+1;simp),(by show 0<1;decide),(show β (h-0)=false from e0)⟩) ?_)
  .rintro x⟨c0,l,o⟩Ç _ hx⟨rfl,rfl,g1,g2,g3,g4⟩;dsimp only at g1 g2 g3 g4⊢;by_cases ho:o≥h+1;.rw[Í ho];exact ä ⟨rfl,rfl,g1,g2,g4,.inl ho⟩
   .rw[Ë ho];refine Û (kR (h-o) _ À ?_);cases eb:β (h-o)with|false=>dsimp only;rw[Ë Ù];exact ä ⟨rfl,rfl,by dsimp only;lia,by dsimp only;omega,by dsimp only;lia,eb⟩;|true=>dsimp only;rw[Í rfl];exact ä ⟨rfl,rfl,g1,g2,g4,.inr ⟨by dsimp only;grind,eb⟩⟩
  .rintro⟨c0,l,o⟩Ç⟨rfl,rfl,g1,g2,g3,g4⟩;dsimp only at g1 g2 g3 g4⊢;exact⟨rfl,rfl,g1,g2,g4,.inl À⟩
  .rintro⟨c0,l,o⟩Ç⟨rfl,rfl,g1,g2,g4,g5⟩;dsimp only at g1 g2 g4 g5⊢;have w3:∀i,i<h+1-min o (h+1)->β i=true:=λi hi=>by
    rcases g5 with g5|⟨g5,g6⟩;.lia
    .exact hm i (h-o) (by grind) z03 g6
   have w4:∀i,h-l<=i->i<n->β i=false:=λi hi kS=>by cases e2:β i with|false=>rfl;|true=>have:=hm (h-l) i hi kS e2;rw[g4]at this;cases this
   obtain⟨lo,ff⟩:∃lo,lo=h+1-min o (h+1):=⟨_,rfl⟩;obtain⟨hi,mf⟩:∃hi,hi=h-l:=⟨_,rfl⟩;have w1:lo<=hi:=(by grind);have w2:hi<=n:=z03;have w3:∀i,i<lo->β i=true:=by rw[ff];exact w3
   have w4:∀i,hi<=i->i<n->β i=false:=by rw[mf];exact w4
   rw[<-ff,<-mf];refine Û (wpS_mono (wpS_forRange (I:=λx c de=>de=Ç/\c.1=none/\c.2.1<=c.2.2/\c.2.2<=n/\c.2.2-c.2.1<=n-x/\(∀i,i<c.2.1->β i=true)/\(∀i,c.2.2<=i->i<n->β i=false)) (Q:=λc de=>de=Ç/\c.1=none/\c.2.2<=n/\(∀i,i<c.2.2->β i=true)/\(∀i,c.2.2<=i->i<n->β i=false)) ?_ ?_ ⟨rfl,rfl,w1,w2,(by show hi-lo<=n-0;grind),w3,w4⟩) ?_)
   .rintro x⟨c0,l,r⟩de _ hx⟨rfl,rfl,g1,g2,g3,g4,g5⟩;dsimp only at g1 g2 g3 g4 g5⊢;by_cases kU:l≥r;.rw[Í kU];have e:l=r:=À;exact ä ⟨rfl,rfl,g2,by rw[<-e];exact g4,g5⟩
    .rw[Ë kU];refine Û (kR (l+(r-l)/2) _ À ?_);cases eb:β (l+(r-l)/2)with|true=>dsimp only;rw[Í rfl];exact ä ⟨rfl,rfl,by dsimp only;grind,g2,by dsimp only;lia,λi hi=>hm i _ (by dsimp only at hi;lia) À eb,g5⟩;|false=>dsimp only;rw[Ë Ù];refine ä ⟨rfl,rfl,by dsimp only;simp,by dsimp only;grind,by dsimp only;lia,g4,λi hi kS=>?_⟩;cases e2:β i with|false=>rfl;|true=>have:=hm (l+(r-l)/2) i hi kS e2;rw[eb]at this;cases this
   .rintro⟨c0,l,r⟩de⟨rfl,rfl,g1,g2,g3,g4,g5⟩;dsimp only at g1 g2 g3 g4 g5⊢;have e:l=r:=À;exact⟨rfl,rfl,g2,by rw[<-e];exact g4,g5⟩
   .rintro⟨c0,l,r⟩de⟨rfl,rfl,g1,g2,g3⟩;exact ä (q _ g1 g2 g3)
end
abbrev Sm:=StateT SortSt Sem
def Ik(lo a m:Nat):Sm AscSt:=forIn [a:m] ((none,a):AscSt) λ_ c=>do let x<-ltAt' (lo+c.snd) (lo+c.snd-1)match x with|some b=>if b=true then pure (ForInStep.done (none,c.snd))else pure (ForInStep.yield (none,c.snd+1))|_=>pure (ForInStep.done (some none,c.snd))
def zU(lo n m:Nat):Sm (Option Nat):=do reverseSlice' lo (lo+n)let c<-Ik lo n m match c.fst with|some r=>pure r|none=>pure (some c.snd)
def Em(lo n m:Nat):Sm DescSt:=forIn [n:m] ((none,n,0):DescSt) λ_ c=>do let x<-ltAt' (lo+c.snd.fst) (lo+c.snd.fst-1)match x with
 |some b=>if b=true then if c.snd.snd>0 then do reverseSlice' (lo+c.snd.fst-(c.snd.snd+1)) (lo+c.snd.fst)pure (ForInStep.yield (none,c.snd.fst+1,0))else pure (ForInStep.yield (none,c.snd.fst+1,0))else do let y<-ltAt' (lo+c.snd.fst-1) (lo+c.snd.fst)match y with|some d=>if d=true then pure (ForInStep.done (none,c.snd.fst,c.snd.snd))else pure (ForInStep.yield (none,c.snd.fst+1,c.snd.snd+1))|_=>pure (ForInStep.done (some none,c.snd.fst,c.snd.snd))
  |_=>pure (ForInStep.done (some none,c.snd.fst,c.snd.snd))
def zV(lo n m:Nat):Sm (Option Nat):=do liftM (rule "list.sort.descending-run")let c<-Em lo (n+1) m match c.fst with|some r=>pure r|none=>if c.snd.snd>0 then do reverseSlice' (lo+c.snd.fst-(c.snd.snd+1)) (lo+c.snd.fst)zU lo c.snd.fst m else zU lo c.snd.fst m
theorem bc{f f':α->Sm β}(h:m=m')(h':f=f'):(m>>=f)=(m'>>=f'):=by rw[h,h']
theorem BX(lo m:Nat):countRun' lo m=(do let c<-Ik lo 1 m match c.fst with|some r=>pure r|none=>if(c.snd==m)=true then pure (some c.snd)else if c.snd>1 then do let x<-ltAt' lo (lo+c.snd-1)match x with|some b=>if b=true then pure (some c.snd)else do reverseSlice' lo (lo+c.snd)zV lo c.snd m|_=>pure none else zV lo c.snd m):=by
 have tl:∀n:Nat,((do
   reverseSlice' lo (lo+n)let mut n:=n
   for _ in[n:m]do
    let some smaller<-ltAt' (lo+n) (lo+n-1)|return none
    if smaller then break
    n:=n+1
   return some n):Sm (Option Nat))=zU lo n m:=λn=>by refine bc rfl (funext λu=>bc rfl (funext λc=>?_));obtain⟨r,n⟩:=c;cases r<;>rfl
 have pl:∀n:Nat,((do
   rule "list.sort.descending-run"let mut n:=n+1 let mut neq:=0
   for _ in[n:m]do
    let some smaller<-ltAt' (lo+n) (lo+n-1)|return none
    if smaller then
 if neq>0 then reverseSlice' (lo+n-(neq+1)) (lo+n)
     neq:=0 else
     let some larger<-ltAt' (lo+n-1) (lo+n)|return none
     if larger then break
     neq:=neq+1
    n:=n+1
   if neq>0 then reverseSlice' (lo+n-(neq+1)) (lo+n)
   reverseSlice' lo (lo+n)for _ in[n:m]do
    let some smaller<-ltAt' (lo+n) (lo+n-1)|return none
    if smaller then break
    n:=n+1
   return some n):Sm (Option Nat))=zV lo n m:=λn=>by refine bc rfl (funext λu=>bc rfl (funext λc=>?_));obtain⟨r,n2,q2⟩:=c;cases r with|some r=>rfl;|none=>
   dsimp only;split;.exact bc rfl (funext λu=>tl n2)
   .exact tl n2
 unfold Ik;refine bc rfl (funext λc=>?_);obtain⟨r,n⟩:=c;cases r with|some r=>rfl;|none=>
  dsimp only;split;.rfl
  .split;.refine bc rfl (funext λx=>?_);cases x with|none=>rfl;|some b=>
     dsimp only;split;.rfl
     .exact bc rfl (funext λu=>pl n)
   .exact pl n
structure SB(ks:SortKind)(ae:Array Keyed)(st:SortSt):Prop where
 kind:kindOf st=ks
 ok:failedOf st=none
 pm:(arrOf st).Perm ae
def Ĵ(κ:gV)(xs:Array Keyed)(a b:Nat):Prop:=∀i j,a<=i->i<=j->j<b->κ.kle (KK κ xs i) (KK κ xs j)
def Non(κ:gV)(xs:Array Keyed)(a b:Nat):Prop:=∀i j,a<=i->i<=j->j<b->κ.kle (KK κ xs j) (KK κ xs i)
structure Ł(st Ç:SortSt)(a b:Nat):Prop where
 out:∀k,(k<a\/b<=k)->(arrOf Ç)[k]?=(arrOf st)[k]?
 pend:pendingOf Ç=pendingOf st
theorem Ł.refl(st:SortSt)(a b:Nat):Ł st st a b:=⟨λ_ _=>rfl,rfl⟩
theorem Ł.trans{st gN st2:SortSt}(h:Ł st gN a b)(h':Ł gN st2 a b):Ł st st2 a b:=⟨λk hk=>(h'.out k hk).trans (h.out k hk),h'.pend.trans h.pend⟩
section
def LtAll(prog:Program)(w:World)(A:Around)(E:Tc)(s:Shared)(κ:gV)(ks:SortKind):Prop:=∀st,kindOf st=ks->Nx prog w A E s κ st
theorem SB.size{st:SortSt}(B:SB ks ae st):(arrOf st).size=ae.size:=B.pm.size_eq
theorem SB.item{st:SortSt}(B:SB ks ae st)(h0:KeysOf κ ae)(hi:i<ae.size):∃p a,(arrOf st)[i]?=some p/\κ.keyOf p.1=some a/\KK κ (arrOf st) i=a:=by
 have kg:i<(arrOf st).size:=by rw[B.size];exact hi
 have e:(arrOf st)[i]?=some (arrOf st)[i]:=Zao kg;have hm:(arrOf st)[i]∈ae.toList:=(Za9.mp B.pm).mem_iff.mp (Array.mem_toList_iff.mpr (Array.getElem_mem kg));obtain⟨a,ha⟩:=h0 _ hm;refine⟨_,a,e,ha,?_⟩;unfold KK;rw[e];dsimp only;rw[ha];rfl
theorem SB.arr{st:SortSt}(B:SB ks ae st)(h:xs.Perm (arrOf st)):SB ks ae (setArr st xs):=⟨B.kind,B.ok,h.trans B.pm⟩
theorem ltA(hL:LtAll prog w A E s κ ks){st:SortSt}(B:SB ks ae st)(h0:KeysOf κ ae)(hi:i<ae.size)(hj:j<ae.size)(h:Q (some (κ.blt (KK κ (arrOf st) i) (KK κ (arrOf st) j))) st):wpS (model prog w) A E s (ltAt' i j) Q st:=by obtain⟨p,a,e1,ka,ea⟩:=B.item (κ:=κ) h0 hi;obtain⟨q,b,e2,kb,eb⟩:=B.item (κ:=κ) h0 hj;rw[ea,eb]at h;refine Û (wpS_get (Û (bA e1 (Û (bA e2 ?_)))));exact hL st B.kind p q a b Q ka kb h
theorem uP{st:SortSt}(h:Q () (setArr st (mirror (arrOf st) i j ((j-i)/2)))):wpS (model prog w) A E s (reverseSlice' i j) Q st:=wpS_reverse h
theorem Ł.rev{st:SortSt}(hj:j<=(arrOf st).size)(h1:a<=i)(h2:j<=b):Ł st (setArr st (mirror (arrOf st) i j ((j-i)/2))) a b:=by refine⟨λk hk=>?_,rfl⟩;rw[getElem?_mirror_all hj,Ë À]
theorem zW(hL:LtAll prog w A E s κ ks)(h0:KeysOf κ ae){st:SortSt}{lo a m:Nat}(hn:lo+m<=ae.size)(ha:1<=a)(T3:a<=m)(B:SB ks ae st)(hs:Ĵ κ (arrOf st) lo (lo+a))(h:∀n,a<=n->n<=m->Ĵ κ (arrOf st) lo (lo+n)->(n=m\/κ.klt (KK κ (arrOf st) (lo+n)) (KK κ (arrOf st) (lo+n-1)))->Q (none,n) st):wpS (model prog w) A E s (Ik lo a m) Q st:=by
 refine wpS_forRange (I:=λx c Ç=>Ç=st/\c=(none,x)/\Ĵ κ (arrOf st) lo (lo+x)) ?_ ?_ ⟨rfl,rfl,hs⟩;.rintro x c Ç JI T4⟨rfl,rfl,cE⟩;refine Û (ltA hL B h0 À À ?_);cases e:κ.blt (KK κ (arrOf Ç) (lo+x)) (KK κ (arrOf Ç) (lo+x-1))with|true=>exact ä (h x JI À cE (.inr e));|false=>
   refine ä ⟨rfl,rfl,λi j hi cq hj=>?_⟩;by_cases CI:j<lo+x;.exact cE i j hi cq CI
   .have ej:j=lo+x:=À;subst ej;by_cases ei:i=lo+x;.rw[ei];exact KeyOrd.kle_refl _
    .exact KeyOrd.kle_trans (cE i (lo+x-1) hi À z03) e
 .rintro c Ç⟨rfl,rfl,cE⟩;rw[show max a m=m by lia]at cE⊢;exact h m T3 (Ø _) cE (.inl rfl)
theorem wK(hL:LtAll prog w A E s κ ks)(h0:KeysOf κ ae){st:SortSt}{lo n m:Nat}(hn:lo+m<=ae.size)(h1:1<=n)(rV:n<=m)(B:SB ks ae st)(hs:Non κ (arrOf st) lo (lo+n))(h:∀k Ç,SB ks ae Ç->Ł st Ç lo (lo+m)->1<=k->k<=m->Ĵ κ (arrOf Ç) lo (lo+k)->Q (some k) Ç):wpS (model prog w) A E s (zU lo n m) Q st:=by
 have hsz:lo+n<=(arrOf st).size:=by rw[B.size];lia
 refine Û (uP ?_);have B':=B.arr (mirror_perm (arrOf st) lo (lo+n) ((lo+n-lo)/2));refine Û (zW hL h0 hn h1 rV B' ?_ λk Z6 CL T5 _=>ä (h k _ B' (Ł.rev hsz (Ø _) À) À CL T5));intro i j hi cq hj;rw[KK_mirror hsz,KK_mirror hsz,Í À,Í À];exact hs _ _ z03 z03 z03
theorem En(hL:LtAll prog w A E s κ ks)(h0:KeysOf κ ae){st:SortSt}{lo n m:Nat}(hn:lo+m<=ae.size)(h1:1<=n)(rV:n<=m)(B:SB ks ae st)(hs:Non κ (arrOf st) lo (lo+n))(h:∀k q Ç,SB ks ae Ç->Ł st Ç lo (lo+m)->n<=k->k<=m->Non κ (arrOf Ç) lo (lo+k)->q+1<=k->(∀i,lo+k-(q+1)<=i->i<lo+k->KK κ (arrOf Ç) i=KK κ (arrOf Ç) (lo+k-1))->Q (none,k,q) Ç):wpS (model prog w) A E s (Em lo n m) Q st:=by
 unfold Em;refine wpS_forRange (I:=λx c Ç=>∃q,c=(none,x,q)/\SB ks ae Ç/\Ł st Ç lo (lo+m)/\Non κ (arrOf Ç) lo (lo+x)/\q+1<=x/\(∀i,lo+x-(q+1)<=i->i<lo+x->KK κ (arrOf Ç) i=KK κ (arrOf Ç) (lo+x-1))) ?_ ?_ ⟨0,rfl,B,Ł.refl _ _ _,hs,À,λi z1 z2=>by congr 1;lia⟩
 .rintro x c Ç JI T4⟨q,rfl,B',O',cE,hq,he⟩;dsimp only;have hsz:lo+x<=(arrOf Ç).size:=by rw[B'.size];lia
  refine Û (ltA hL B' h0 À À ?_)
  cases e:κ.blt (KK κ (arrOf Ç) (lo+x)) (KK κ (arrOf Ç) (lo+x-1))with|true=>
   dsimp only;rw[Í rfl];have more:∀xs:Array Keyed,(∀k,KK κ xs k=KK κ (arrOf Ç) k)->Non κ xs lo (lo+(x+1)):=λxs hk i j hi cq hj=>by
    rw[hk,hk];by_cases CI:j<lo+x;.exact cE i j hi cq CI
    .have ej:j=lo+x:=À;subst ej;by_cases ei:i=lo+x;.rw[ei];exact KeyOrd.kle_refl _
     .exact KeyOrd.kle_trans (KeyOrd.kle_of_klt e) (cE i (lo+x-1) hi À À)
   by_cases CM:q>0;.rw[Í CM];refine Û (uP (ä ⟨0,rfl,B'.arr (mirror_perm _ _ _ _),O'.trans (Ł.rev hsz À À),more _ (KK_mirror_equal hsz he),À,λi z1 z2=>by congr 1;lia⟩))
   .rw[Ë CM];exact ä ⟨0,rfl,B',O',more _ (λ_=>rfl),À,λi z1 z2=>by congr 1;lia⟩;|false=>dsimp only;refine Û (ltA hL B' h0 À À ?_);cases e2:κ.blt (KK κ (arrOf Ç) (lo+x-1)) (KK κ (arrOf Ç) (lo+x))with|true=>dsimp only;exact ä (h x q Ç B' O' JI À cE hq he);|false=>
    dsimp only;have ex:KK κ (arrOf Ç) (lo+x)=KK κ (arrOf Ç) (lo+x-1):=KeyOrd.kle_antisymm e2 e;refine ä ⟨q+1,rfl,B',O',λi j hi cq hj=>?_,À,λi z1 z2=>?_⟩
    .by_cases CI:j<lo+x;.exact cE i j hi cq CI
     .have ej:j=lo+x:=À;subst ej;by_cases ei:i=lo+x;.rw[ei];exact KeyOrd.kle_refl _
      .rw[ex];exact cE i (lo+x-1) hi À À
    .rw[show lo+(x+1)-1=lo+x by lia];by_cases ei:i=lo+x;.rw[ei]
     .rw[ex];exact he i À À
 .rintro c Ç⟨q,rfl,B',O',cE,hq,he⟩;rw[show max n m=m by lia]at cE hq he⊢;exact h m q Ç B' O' rV (Ø _) cE hq he
theorem wL(hL:LtAll prog w A E s κ ks)(h0:KeysOf κ ae){st:SortSt}{lo n m:Nat}(hn:lo+m<=ae.size)(rV:n+1<=m)(B:SB ks ae st)(hs:Non κ (arrOf st) lo (lo+(n+1)))(h:∀k Ç,SB ks ae Ç->Ł st Ç lo (lo+m)->1<=k->k<=m->Ĵ κ (arrOf Ç) lo (lo+k)->Q (some k) Ç):wpS (model prog w) A E s (zV lo n m) Q st:=by
 refine Û (wpS_lift (wpAny_rule ⟨rfl,?_⟩));refine Û (En hL h0 hn Ò rV B hs λk q Ç B' O' k1 k2 cE hq he=>?_);dsimp only;have hsz:lo+k<=(arrOf Ç).size:=by rw[B'.size];lia
 by_cases CM:q>0;.rw[Í CM];refine Û (uP (wK hL h0 hn À k2 (B'.arr (mirror_perm _ _ _ _)) ?_ λk' st2 B2 O2=>h k' st2 B2 ((O'.trans (Ł.rev hsz À À)).trans O2)));intro i j hi cq hj;rw[KK_mirror_equal hsz he,KK_mirror_equal hsz he];exact cE i j hi cq hj
 .rw[Ë CM];exact wK hL h0 hn À k2 B' cE λk' st2 B2 O2=>h k' st2 B2 (O'.trans O2)
theorem Eo(hL:LtAll prog w A E s κ ks)(h0:KeysOf κ ae){st:SortSt}{lo m:Nat}(hn:lo+m<=ae.size)(h1:1<=m)(B:SB ks ae st)(h:∀k Ç,SB ks ae Ç->Ł st Ç lo (lo+m)->1<=k->k<=m->Ĵ κ (arrOf Ç) lo (lo+k)->Q (some k) Ç):wpS (model prog w) A E s (countRun' lo m) Q st:=by
 rw[BX];refine Û (zW hL h0 hn (Ø 1) h1 B (λi j hi cq hj=>by have:i=j:=À;rw[this];exact KeyOrd.kle_refl _) λn n1 n2 FV T6=>?_);dsimp only;by_cases rV:n=m;.rw[Í (by simpa using rV)];exact ä (h n st B (Ł.refl _ _ _) n1 n2 FV)
 .rw[Ë (by simpa using rV)];have av:=T6.resolve_left rV;by_cases OQ:n>1;.rw[Í OQ];refine Û (ltA hL B h0 z03 À ?_);cases e:κ.blt (KK κ (arrOf st) lo) (KK κ (arrOf st) (lo+n-1))with|true=>dsimp only;exact ä (h n st B (Ł.refl _ _ _) n1 n2 FV);|false=>
    dsimp only;have hsz:lo+n<=(arrOf st).size:=by rw[B.size];lia
    have iN:∀k,lo<=k->k<lo+n->KK κ (arrOf st) k=KK κ (arrOf st) (lo+n-1):=λk AK hk=>by have a1:=FV lo k (Ø _) AK hk;have a2:=FV k (lo+n-1) AK À z03;exact KeyOrd.kle_antisymm a2 (KeyOrd.kle_trans e a1)
    refine Û (uP (wL hL h0 hn À (B.arr (mirror_perm _ _ _ _)) ?_ λk st2 B2 O2=>h k st2 B2 ((Ł.rev hsz (Ø _) À).trans O2)));intro i j hi cq hj;rw[KK_mirror_equal hsz iN,KK_mirror_equal hsz iN];by_cases T7:j<lo+n;.rw[iN i hi À,iN j À T7];exact KeyOrd.kle_refl _
    .have ej:j=lo+n:=À;subst ej;by_cases ei:i=lo+n;.rw[ei];exact KeyOrd.kle_refl _
     .rw[iN i hi À];exact KeyOrd.kle_of_klt av
  .rw[Ë OQ];have e1:n=1:=À;subst e1;refine wL hL h0 hn À B ?_ h;intro i j hi cq hj;by_cases ei:i=j;.rw[ei];exact KeyOrd.kle_refl _
   .have i0:i=lo:=À;have j1:j=lo+1:=À;rw[i0,j1];exact KeyOrd.kle_of_klt av
theorem Lg(hL:LtAll prog w A E s κ ks)(h0:KeysOf κ ae){st:SortSt}{lo n ok:Nat}(hn:lo+n<=ae.size)(hok:ok<=n)(B:SB ks ae st)(hs:Ĵ κ (arrOf st) lo (lo+ok))(h:∀Ç,SB ks ae Ç->Ł st Ç lo (lo+n)->Ĵ κ (arrOf Ç) lo (lo+n)->Q true Ç):wpS (model prog w) A E s (binarySort' lo n ok) Q st:=by
 rw[binarySort'_eq];refine Û (wpS_mono (wpS_forRange (I:=λk c Ç=>c=(none,())/\SB ks ae Ç/\Ł st Ç lo (lo+n)/\Ĵ κ (arrOf Ç) lo (lo+min k n)) (Q:=λc Ç=>c=(none,())/\SB ks ae Ç/\Ł st Ç lo (lo+n)/\Ĵ κ (arrOf Ç) lo (lo+n)) ?_ ?_ ?_) ?_)
 .rintro k c Ç AK Z7⟨rfl,B',O',cE⟩;refine Û (wpS_mono (wpS_forRange (I:=λx c st2=>st2=Ç/\∃l r,c=(none,l,r)/\l<=r/\r<=k/\r-l<=k-x/\(∀i,i<l->κ.kle (KK κ (arrOf Ç) (lo+i)) (KK κ (arrOf Ç) (lo+k)))/\(∀i,r<=i->i<k->κ.klt (KK κ (arrOf Ç) (lo+k)) (KK κ (arrOf Ç) (lo+i)))) (Q:=λc st2=>st2=Ç/\∃l r,c=(none,l,r)/\l<=k/\(∀i,i<l->κ.kle (KK κ (arrOf Ç) (lo+i)) (KK κ (arrOf Ç) (lo+k)))/\(∀i,l<=i->i<k->κ.klt (KK κ (arrOf Ç) (lo+k)) (KK κ (arrOf Ç) (lo+i)))) ?_ ?_ ?_) ?_)
  .rintro x c st2 _ Z8⟨rfl,l,r,rfl,kU,AL,hm,ff,mf⟩;dsimp only;by_cases mh:l≥r;.rw[Í mh];have e:l=r:=À;subst e;exact ä ⟨rfl,l,l,rfl,AL,ff,mf⟩
   .rw[Ë mh];refine Û (ltA hL B' h0 À À ?_);cases e:κ.blt (KK κ (arrOf st2) (lo+k)) (KK κ (arrOf st2) (lo+(l+r)/2))with|true=>dsimp only;rw[Í rfl];exact ä ⟨rfl,l,(l+r)/2,rfl,À,À,À,ff,λi z1 z2=>KeyOrd.klt_of_klt_of_kle e (cE (lo+(l+r)/2) (lo+i) Ò z03 À)⟩;|false=>dsimp only;rw[Ë Ù];exact ä ⟨rfl,(l+r)/2+1,r,rfl,À,À,z03,λi z1=>KeyOrd.kle_trans (cE (lo+i) (lo+(l+r)/2) Ò z03 À) (show κ.kle _ _ from e),mf⟩
  .rintro c st2⟨rfl,l,r,rfl,kU,AL,hm,ff,mf⟩;have e:l=r:=À;subst e;exact⟨rfl,l,l,rfl,AL,ff,mf⟩
  .exact⟨rfl,0,k,rfl,Ò,Ò,Ò,λi hi=>by lia,λi z1 z2=>by lia⟩
  .rintro c st2⟨rfl,l,r,rfl,AM,ff,mf⟩;show wpS _ _ _ _ (do moveDown' (lo+k) (lo+l);pure (ForInStep.yield (none,()))) _ _;rw[moveDown'_eq];have JJ:lo+k<(arrOf st2).size:=by rw[B'.size];lia
   refine Û (wpS_modify (ä ⟨rfl,B'.arr (bubble_perm _ _ _),O'.trans ⟨λz hz=>?_,rfl⟩,?_⟩));.show(bubble (arrOf st2) (lo+k) (lo+k-(lo+l)))[z]?=_;rw[getElem?_bubble JJ _ Ò,Ë À,Ë z03]
   .rw[show min (k+1) n=k+1 by lia];intro i j hi cq hj;rw[KK_bubble JJ Ò,KK_bubble JJ Ò];have JO:∀z,lo<=z->z<lo+l->κ.kle (KK κ (arrOf st2) z) (KK κ (arrOf st2) (lo+k)):=λz z1 z2=>by have:=ff (z-lo) À;rw[show lo+(z-lo)=z by simp_all]at this;exact this
    have JU:∀z,lo+l<=z->z<lo+k->κ.kle (KK κ (arrOf st2) (lo+k)) (KK κ (arrOf st2) z):=λz z1 z2=>by have:=mf (z-lo) z03 À;rw[show lo+(z-lo)=z by grind]at this;exact KeyOrd.kle_of_klt this
    repeat' split
    all_goals first|(exfalso;lia);|exact KeyOrd.kle_refl _;|exact JO _ À À;|exact JU _ À À;|exact cE _ _ z03 À z03
 .rintro c Ç⟨hc,B',O',cE⟩;refine⟨hc,B',O',?_⟩;rwa[show min (max (max ok 1) n) n=n by grind]at cE
 .refine⟨rfl,B,Ł.refl _ _ _,λi j hi cq hj=>?_⟩;by_cases z:ok=0;.have e:i=j:=À;rw[e];exact KeyOrd.kle_refl _
  .exact hs i j hi cq z03
 .rintro c Ç⟨rfl,B',O',cE⟩;exact ä (h Ç B' O' cE)
end
section
variable{α:Type}
structure MI(le:α->α->Prop)(la lb lo:List α)(ia ib:Nat):Prop where
 pm:lo.Perm (la.take ia++lb.take ib)sr:lo.Pairwise le
 be:∀x∈lo,∀y,y∈la.drop ia\/y∈lb.drop ib->le x y
theorem jF{l:List α}(cq:i<=j)(h:y∈l.drop j):y∈l.drop i:=by
 have:l.drop j=(l.drop i).drop (j-i):=by rw[List.drop_drop];congr 1;simp_all
 rw[this]at h;exact Za1 h
theorem zZ{l:List α}(h:l.Pairwise le)(cq:i<=j):∀x∈(l.drop i).take (j-i),∀y∈l.drop j,le x y:=by
 have e:l.drop i=(l.drop i).take (j-i)++l.drop j:=by have:=Ϧ (j-i) (l.drop i);rw[List.drop_drop]at this;rw[show i+(j-i)=j by lia]at this;exact this.symm
 have hp:(l.drop i).Pairwise le:=h.sublist (Zaq _ _);rw[e]at hp;exact λx hx y hy=>(Ű.mp hp).2.2 x hx y hy
theorem tO(l:List α)(i k:Nat):l.take (i+k)=l.take i++(l.drop i).take k:=List.take_add
theorem MI.segA{la lb lo:List α}(m:MI le la lb lo ia ib)(sa:la.Pairwise le)(h:∀x∈(la.drop ia).take k,∀y∈lb.drop ib,le x y):MI le la lb (lo++(la.drop ia).take k) (ia+k) ib:=by
 refine⟨?_,Ű.mpr ⟨m.sr,(sa.sublist (Zaq _ _)).sublist (Zav _ _),λx hx y hy=>m.be x hx y (.inl (Zan hy))⟩,λx hx y hy=>?_⟩;.rw[tO];refine(m.pm.append_right _).trans ?_;rw[Ŧ,Ŧ];exact List.Perm.append_left _ (List.perm_append_comm)
 .rcases Ą.mp hx with z|z;.exact m.be x z y (hy.imp (jF Ò) id)
  .rcases hy with hy|hy;.have:=zZ sa (i:=ia) (j:=ia+k) Ò x (by rw[show ia+k-ia=k by simp];exact z) y hy;exact this
   .exact h x z y hy
theorem MI.segB{la lb lo:List α}(m:MI le la lb lo ia ib)(sb:lb.Pairwise le)(h:∀x∈(lb.drop ib).take k,∀y∈la.drop ia,le x y):MI le la lb (lo++(lb.drop ib).take k) ia (ib+k):=by
 refine⟨?_,Ű.mpr ⟨m.sr,(sb.sublist (Zaq _ _)).sublist (Zav _ _),λx hx y hy=>m.be x hx y (.inr (Zan hy))⟩,λx hx y hy=>?_⟩;.rw[tO];refine(m.pm.append_right _).trans ?_;rw[Ŧ]
 .rcases Ą.mp hx with z|z;.exact m.be x z y (hy.imp id (jF Ò))
  .rcases hy with hy|hy;.exact h x z y hy
   .have:=zZ sb (i:=ib) (j:=ib+k) Ò x (by rw[show ib+k-ib=k by simp];exact z) y hy;exact this
structure Χ(le:α->α->Prop)(la lb lo:List α):Prop where pm:lo.Perm (la++lb)sr:lo.Pairwise le
theorem MI.endB{la lb lo:List α}(m:MI le la lb lo ia ib)(sa:la.Pairwise le)(hb:lb.length<=ib):Χ le la lb (lo++la.drop ia++lb.drop ib):=by have e:lb.drop ib=[]:=Zau hb;have e2:lb.take ib=lb:=Zah hb;rw[e,ļ];refine⟨?_,Ű.mpr ⟨m.sr,sa.sublist (Zaq _ _),λx hx y hy=>m.be x hx y (.inl hy)⟩⟩;have:=m.pm;rw[e2]at this;refine(this.append_right _).trans ?_;rw[Ŧ];refine(List.Perm.append_left _ List.perm_append_comm).trans ?_;rw[<-Ŧ,Ϧ]
theorem MI.endA{la lb lo:List α}(m:MI le la lb lo ia ib)(sb:lb.Pairwise le)(ha:la.length<=ia):Χ le la lb (lo++la.drop ia++lb.drop ib):=by have e:la.drop ia=[]:=Zau ha;have e2:la.take ia=la:=Zah ha;rw[e,ļ];refine⟨?_,Ű.mpr ⟨m.sr,sb.sublist (Zaq _ _),λx hx y hy=>m.be x hx y (.inr hy)⟩⟩;have:=m.pm;rw[e2]at this;refine(this.append_right _).trans ?_;rw[Ŧ,Ϧ]
theorem MI.last{la lb lo:List α}(m:MI le la lb lo ia ib)(sa:la.Pairwise le)(sb:lb.Pairwise le)(h:∀y∈lb.drop ib,∀x∈la.drop ia,le y x):Χ le la lb (lo++lb.drop ib++la.drop ia):=by
 refine⟨?_,Ű.mpr ⟨Ű.mpr ⟨m.sr,sb.sublist (Zaq _ _),λx hx y hy=>m.be x hx y (.inr hy)⟩,sa.sublist (Zaq _ _),λx hx y hy=>?_⟩⟩
 .refine((m.pm.append_right _).append_right _).trans ?_;have e:(la.take ia++lb.take ib++lb.drop ib++la.drop ia)=la.take ia++(lb++la.drop ia):=by rw[Ŧ (la.take ia),Ϧ,Ŧ]
  rw[e];refine(List.Perm.append_left _ List.perm_append_comm).trans ?_;rw[<-Ŧ,Ϧ]
 .rcases Ą.mp hx with z|z;.exact m.be x z y (.inl hy)
  .exact h x z y hy
end
def mH:Array Keyed->Array Keyed->Sm (Array Keyed):=sortPriv%PySem.Builtin.mergeLo
def mJ:Nat->Sm Unit:=sortPriv%PySem.Builtin.setMinGallop
abbrev C1:=Option (Array Keyed)×Array Keyed×Nat×Nat×Nat×Nat
abbrev C2:=Option (Array Keyed)×Array Keyed×Nat×Nat×Nat×Nat×Nat
abbrev C0:=Option (Array Keyed)×Array Keyed×Nat×Nat×Nat
def one(a b:Array Keyed)(g:Nat)(out:Array Keyed)(ia ib ac bc:Nat):Sm (ForInStep C1):=do let y<-elem' b ib let x<-elem' a ia let r<-lt' y x match r with|some w=>if w=true then do let y<-elem' b ib if(ib+1==b.size)=true then pure (ForInStep.done (some (out.push y++a.extract ia a.size++b.extract (ib+1) b.size),out.push y,ia,ib+1,0,bc+1))else if bc+1≥g then pure (ForInStep.done (none,out.push y,ia,ib+1,0,bc+1))else pure (ForInStep.yield (none,out.push y,ia,ib+1,0,bc+1))else do let x<-elem' a ia if(ia+1+1==a.size)=true then pure (ForInStep.done (some (out.push x++b.extract ib b.size++a.extract (ia+1) a.size),out.push x,ia+1,ib,ac+1,0))else if ac+1≥g then pure (ForInStep.done (none,out.push x,ia+1,ib,ac+1,0))else pure (ForInStep.yield (none,out.push x,ia+1,ib,ac+1,0))|_=>pure (ForInStep.done (some (out++a.extract ia a.size++b.extract ib b.size),out,ia,ib,ac,bc))
def gl4(a b:Array Keyed)(out:Array Keyed)(ia ib g k k1:Nat):Sm (ForInStep C2):=do let x<-elem' a ia if(ia+1+1==a.size)=true then pure (ForInStep.done (some (out.push x++b.extract ib b.size++a.extract (ia+1) a.size),out.push x,ia+1,ib,g,k,k1))else if(decide (k<7)&&decide (k1<7))=true then pure (ForInStep.done (none,out.push x,ia+1,ib,g,k,k1))else pure (ForInStep.yield (none,out.push x,ia+1,ib,g,k,k1))
def gl3(a b:Array Keyed)(out:Array Keyed)(ia ib g k bc:Nat):Sm (ForInStep C2):=do let x<-elem' a ia let r<-iB true x b ib (b.size-ib) 0 match r with|some k1=>if k1>0 then if(ib+k1==b.size)=true then pure (ForInStep.done (some (out++b.extract ib (ib+k1)++a.extract ia a.size++b.extract (ib+k1) b.size),out++b.extract ib (ib+k1),ia,ib+k1,g,k,k1))else gl4 a b (out++b.extract ib (ib+k1)) ia (ib+k1) g k k1 else gl4 a b out ia ib g k k1|_=>pure (ForInStep.done (some (out++a.extract ia a.size++b.extract ib b.size),out,ia,ib,g,k,bc))
def gl2(a b:Array Keyed)(out:Array Keyed)(ia ib g k bc:Nat):Sm (ForInStep C2):=do let y<-elem' b ib if(ib+1==b.size)=true then pure (ForInStep.done (some (out.push y++a.extract ia a.size++b.extract (ib+1) b.size),out.push y,ia,ib+1,g,k,bc))else gl3 a b (out.push y) ia (ib+1) g k bc
def ϟ(a b:Array Keyed)(out:Array Keyed)(ia ib g ac bc:Nat):Sm (ForInStep C2):=do mJ g let y<-elem' b ib let r<-iB false y a ia (a.size-ia) 0 match r with|some k=>if k>0 then if(ia+k+1==a.size)=true then pure (ForInStep.done (some (out++a.extract ia (ia+k)++b.extract ib b.size++a.extract (ia+k) a.size),out++a.extract ia (ia+k),ia+k,ib,g,k,bc))else if(ia+k==a.size)=true then pure (ForInStep.done (some (out++a.extract ia (ia+k)++a.extract (ia+k) a.size++b.extract ib b.size),out++a.extract ia (ia+k),ia+k,ib,g,k,bc))else gl2 a b (out++a.extract ia (ia+k)) (ia+k) ib g k bc else gl2 a b out ia ib g k bc|_=>pure (ForInStep.done (some (out++a.extract ia a.size++b.extract ib b.size),out,ia,ib,g,ac,bc))
def gal(a b:Array Keyed)(out:Array Keyed)(ia ib g ac bc:Nat):Sm (ForInStep C2):=if g>1 then ϟ a b out ia ib (g-1) ac bc else ϟ a b out ia ib g ac bc
def round(a b:Array Keyed)(out:Array Keyed)(ia ib g:Nat):Sm (ForInStep C0):=do let c<-forIn [0:a.size+b.size] ((none,out,ia,ib,0,0):C1) λ_ c=>one a b g c.2.1 c.2.2.1 c.2.2.2.1 c.2.2.2.2.1 c.2.2.2.2.2 match c.1 with|some r=>pure (ForInStep.done (some r,c.2.1,c.2.2.1,c.2.2.2.1,g))|none=>do liftM (rule "list.sort.gallop")let d<-forIn [0:a.size+b.size] ((none,c.2.1,c.2.2.1,c.2.2.2.1,g+1,c.2.2.2.2.1,c.2.2.2.2.2):C2) λ_ d=>gal a b d.2.1 d.2.2.1 d.2.2.2.1 d.2.2.2.2.1 d.2.2.2.2.2.1 d.2.2.2.2.2.2 match d.1 with|some r=>pure (ForInStep.done (some r,d.2.1,d.2.2.1,d.2.2.2.1,d.2.2.2.2.1))|none=>do mJ (d.2.2.2.2.1+1)pure (ForInStep.yield (none,d.2.1,d.2.2.1,d.2.2.2.1,d.2.2.2.2.1+1))
theorem fi{r:Std.Legacy.Range}{f f':Nat->β->Sm (ForInStep β)}(h:f=f'):(forIn r c f:Sm β)=forIn r c f':=by rw[h]
theorem ic{α:Type}[Decidable c]{x x' y y':α}(h:x=x')(h':y=y'):(if c then x else y)=if c then x' else y':=by rw[h,h']
theorem Ny(a b:Array Keyed):mH a b=(do liftM (rule "list.sort.merge-lo")let e<-elem' b 0 if(1==b.size)=true then pure (#[e]++a.extract 0 a.size++b.extract 1 b.size)else if(0+1==a.size)=true then pure (#[e]++b.extract 1 b.size++a.extract 0 a.size)else do let s<-get let c<-forIn [0:a.size+b.size] ((none,#[e],0,1,gallopOf s):C0) λ_ c=>round a b c.2.1 c.2.2.1 c.2.2.2.1 c.2.2.2.2 match c.1 with|some r=>pure r|none=>liftM (unsupported "internal:list.sort.merge-bound")):=by
 delta mH;refine bc rfl (funext λu=>bc rfl (funext λe=>ic rfl (ic rfl (bc rfl (funext λs=>bc (fi (funext λx=>funext λc=>?_)) (funext λc=>?_))))))
 .unfold round;refine bc (fi (funext λx=>funext λc1=>?_)) (funext λc1=>?_);.unfold one;refine bc rfl (funext λy=>bc rfl (funext λx=>bc rfl (funext λr=>?_)));cases r with|none=>rfl;|some w=>exact ic (bc rfl (funext λy=>ic rfl (ic rfl rfl))) (bc rfl (funext λy=>ic rfl (ic rfl rfl)))
  .obtain⟨r,c1⟩:=c1;cases r with|some r=>rfl;|none=>
    refine bc rfl (funext λu=>bc (fi (funext λx=>funext λd=>?_)) (funext λd=>?_));.unfold gal;refine ic ?_ ?_<;>(unfold ϟ;exact bc rfl (funext λu=>bc rfl (funext λy=>bc rfl (funext λr=>by rfl))))
    .obtain⟨r,d⟩:=d;cases r<;>rfl
 .obtain⟨r,c⟩:=c;cases r<;>rfl
def key(κ:gV)(p:Keyed):κ.α:=(κ.keyOf p.1).getD κ.dflt
def leK(κ:gV)(x y:Keyed):Prop:=κ.kle (key κ x) (key κ y)
theorem eZ(h:leK κ x y)(h':leK κ y z):leK κ x z:=KeyOrd.kle_trans h h'
structure SG(st Ç:SortSt):Prop where
 kind:kindOf Ç=kindOf st
 arr:arrOf Ç=arrOf st
 pend:pendingOf Ç=pendingOf st
 fail:failedOf Ç=failedOf st
theorem SG.refl(st:SortSt):SG st st:=⟨rfl,rfl,rfl,rfl⟩
structure ī(κ:gV)(a b:Array Keyed):Prop where
 ka:KeysOf κ a
 kb:KeysOf κ b
 sa:a.toList.Pairwise (leK κ)sb:b.toList.Pairwise (leK κ)
theorem item{κ:gV}(ka:KeysOf κ a)(hi:i<a.size):∃p,a[i]?=some p/\κ.keyOf p.1=some (key κ p)/\KK κ a i=key κ p/\a.toList.drop i=p::a.toList.drop (i+1):=by
 have e:a[i]?=some a[i]:=Zao hi;obtain⟨k,hk⟩:=ka a[i] (Array.mem_toList_iff.mpr (Array.getElem_mem hi));have ek:key κ a[i]=k:=by unfold key;rw[hk];rfl
 refine⟨a[i],e,by rw[ek];exact hk,?_,?_⟩;.unfold KK;rw[e,ek];dsimp only;rw[hk];rfl
 .have:=Zbb (l:=a.toList) (i:=i) (by simpa using hi);rw[this];simp
theorem mK{l r:List Keyed}(h:l.Pairwise (leK κ))(e:l.drop i=p::r):∀y∈l.drop i,leK κ p y:=by
 have hp:=h.sublist (Zaq i l);rw[e]at hp⊢;intro y hy;rcases Ļ.mp hy with z|z;.rw[z];exact KeyOrd.kle_refl _
 .exact(List.pairwise_cons.mp hp).1 y z
theorem jG(a:Array Keyed)(i j:Nat):(a.extract i j).toList=(a.toList.drop i).take (j-i):=by rw[Array.toList_extract]
theorem jV(a:Array Keyed)(i:Nat):(a.extract i a.size).toList=a.toList.drop i:=by rw[jG];refine Zah ?_;rw[Zat];exact Ø _
theorem mO(ka:KeysOf κ a)(h:x∈(a.toList.drop i).take k):∃j,j<k/\i+j<a.size/\KK κ a (i+j)=key κ x:=by
 obtain⟨j,hj,rfl⟩:=Zaw h;rw[İ,Zat,Ě]at hj;refine⟨j,À,(by grind),?_⟩;obtain⟨p,e1,e2,e3,e4⟩:=item ka (i:=i+j) (by grind);rw[e3,Za3,List.getElem_drop];have:a.toList[i+j]?=some p:=by rw[Zal];exact e1
 rw[é (by rw[Ě];grind)]at this;rw[ĭ this]
theorem qC(ka:KeysOf κ a)(h:x∈a.toList.drop i):∃j,i<=j/\j<a.size/\KK κ a j=key κ x:=by
 have h':x∈(a.toList.drop i).take (a.toList.drop i).length:=by rw[Ľ];exact h
 obtain⟨j,_,h2,h3⟩:=mO ka h';exact⟨i+j,Ò,h2,h3⟩
theorem mQ(ka:KeysOf κ a)(sa:a.toList.Pairwise (leK κ))(cq:i<=j)(hj:j<a.size):κ.kle (KK κ a i) (KK κ a j):=by
 obtain⟨p,_,_,e3,e4⟩:=item ka (i:=i) À;obtain⟨q,_,_,f3,f4⟩:=item ka (i:=j) hj;rw[e3,f3];refine mK sa e4 q ?_;have:q∈a.toList.drop j:=by rw[f4];exact ϫ
 exact jF cq this
section
theorem jW{st:SortSt}(h:∀Ç,SG st Ç->Q () Ç):wpS (model prog w) A E s (mJ g) Q st:=wpS_modify (h _ ⟨rfl,rfl,rfl,rfl⟩)
structure At(κ:gV)(a b out:Array Keyed)(ia ib:Nat):Prop where
 mi:MI (leK κ) a.toList b.toList out.toList ia ib
 ha:ia+1<a.size
 hb:ib<b.size
theorem At.pushA{out:Array Keyed}(T:ī κ a b)(m:MI (leK κ) a.toList b.toList out.toList ia ib)(e:a.toList.drop ia=x::a.toList.drop (ia+1))(h:∀y∈b.toList.drop ib,leK κ x y):MI (leK κ) a.toList b.toList (out.push x).toList (ia+1) ib:=by
 have:=m.segA (k:=1) T.sa λz hz y hy=>by simp_all
 rw[e]at this;rw[Array.toList_push];exact this
theorem At.pushB{out:Array Keyed}(T:ī κ a b)(m:MI (leK κ) a.toList b.toList out.toList ia ib)(e:b.toList.drop ib=x::b.toList.drop (ib+1))(h:∀y∈a.toList.drop ia,leK κ x y):MI (leK κ) a.toList b.toList (out.push x).toList ia (ib+1):=by
 have:=m.segB (k:=1) T.sb λz hz y hy=>by simp_all
 rw[e]at this;rw[Array.toList_push];exact this
theorem At.segA(T:ī κ a b)(m:MI (leK κ) a.toList b.toList out.toList ia ib)(h:∀x∈(a.toList.drop ia).take k,∀y∈b.toList.drop ib,leK κ x y):MI (leK κ) a.toList b.toList (out++a.extract ia (ia+k)).toList (ia+k) ib:=by have:=m.segA (k:=k) T.sa h;rw[Ι,jG,show ia+k-ia=k by simp];exact this
theorem At.segB(T:ī κ a b)(m:MI (leK κ) a.toList b.toList out.toList ia ib)(h:∀x∈(b.toList.drop ib).take k,∀y∈a.toList.drop ia,leK κ x y):MI (leK κ) a.toList b.toList (out++b.extract ib (ib+k)).toList ia (ib+k):=by have:=m.segB (k:=k) T.sb h;rw[Ι,jG,show ib+k-ib=k by simp];exact this
abbrev Rs(κ:gV)(a b:Array Keyed)(r:Array Keyed):Prop:=Χ (leK κ) a.toList b.toList r.toList
def kY(κ:gV)(a b:Array Keyed):Prop:=∀y∈b.toList,∀x∈a.toList.drop (a.size-1),leK κ y x
theorem Aa(T:ī κ a b)(m:MI (leK κ) a.toList b.toList out.toList ia ib)(h:ib=b.size):Rs κ a b (out++a.extract ia a.size++b.extract ib b.size):=by have:=m.endB T.sa (by rw[Ě];lia);unfold Rs;rw[Ι,Ι,jV,jV];exact this
theorem Nz(T:ī κ a b)(m:MI (leK κ) a.toList b.toList out.toList ia ib)(h:ia=a.size):Rs κ a b (out++a.extract ia a.size++b.extract ib b.size):=by have:=m.endA T.sb (by rw[Ě];lia);unfold Rs;rw[Ι,Ι,jV,jV];exact this
theorem Ab(T:ī κ a b)(L:kY κ a b)(m:MI (leK κ) a.toList b.toList out.toList ia ib)(h:ia+1=a.size):Rs κ a b (out++b.extract ib b.size++a.extract ia a.size):=by have:=m.last T.sa T.sb λy hy x hx=>L y (Za1 hy) x (by rw[show a.size-1=ia by lia];exact hx);unfold Rs;rw[Ι,Ι,jV,jV];exact this
theorem yJ(hL:LtAll prog w A E s κ ks)(T:ī κ a b)(L:kY κ a b){g ia ib ac bc:Nat}{st:SortSt}(hk:kindOf st=ks)(m:At κ a b out ia ib):wpS (model prog w) A E s (one a b g out ia ib ac bc) (λr Ç=>Ç=st/\match r with|.done c=>(∃z,c.1=some z/\Rs κ a b z)\/(c.1=none/\At κ a b c.2.1 c.2.2.1 c.2.2.2.1/\ia+ib+1=c.2.2.1+c.2.2.2.1)|.yield c=>c.1=none/\At κ a b c.2.1 c.2.2.1 c.2.2.2.1/\ia+ib+1=c.2.2.1+c.2.2.2.1) st:=by
 obtain⟨x,x1,x2,x3,x4⟩:=item T.ka (i:=ia) (by have:=m.ha;omega);obtain⟨y,y1,y2,y3,y4⟩:=item T.kb m.hb;unfold one;refine Û (bA y1 (Û (bA x1 (Û (hL st hk _ _ _ _ _ y2 x2 ?_)))))
 cases e:κ.blt (key κ y) (key κ x)with|true=>
  refine Û (bA y1 ?_);have m':=At.pushB T m.mi y4 λz hz=>eZ (KeyOrd.kle_of_klt e) (mK T.sa x4 z hz);by_cases hb:ib+1=b.size;.rw[Í (by simpa using hb)];exact ä ⟨rfl,.inl ⟨_,rfl,Aa T m' hb⟩⟩
  .rw[Ë (by simpa using hb)];have at':At κ a b (out.push y) ia (ib+1):=⟨m',m.ha,by have:=m.hb;lia⟩;split;.exact ä ⟨rfl,.inr ⟨rfl,at',by dsimp only;lia⟩⟩
   .exact ä ⟨rfl,rfl,at',by dsimp only;lia⟩;|false=>
  refine Û (bA x1 ?_);have m':=At.pushA T m.mi x4 λz hz=>eZ (e) (mK T.sb y4 z hz);by_cases ha:ia+1+1=a.size;.rw[Í (by simpa using ha)];exact ä ⟨rfl,.inl ⟨_,rfl,Ab T L m' ha⟩⟩
  .rw[Ë (by simpa using ha)];have at':At κ a b (out.push x) (ia+1) ib:=⟨m',by have:=m.ha;omega,m.hb⟩;split;.exact ä ⟨rfl,.inr ⟨rfl,at',by dsimp only;lia⟩⟩
   .exact ä ⟨rfl,rfl,at',by dsimp only;lia⟩
def G2(κ:gV)(a b:Array Keyed)(n:Nat)(st:SortSt)(r:ForInStep C2)(Ç:SortSt):Prop:=SG st Ç/\match r with|.done c=>(∃z,c.1=some z/\Rs κ a b z)\/(c.1=none/\At κ a b c.2.1 c.2.2.1 c.2.2.2.1/\n<=c.2.2.1+c.2.2.2.1)|.yield c=>c.1=none/\At κ a b c.2.1 c.2.2.1 c.2.2.2.1/\n<=c.2.2.1+c.2.2.2.1
theorem qD(T:ī κ a b)(L:kY κ a b){bE st:SortSt}(sg:SG bE st)(m:At κ a b out ia ib)(hn:n<=ia+ib+1)(h:∀y∈b.toList.drop ib,∀x,a[ia]?=some x->leK κ x y):wpS (model prog w) A E s (gl4 a b out ia ib g k k1) (G2 κ a b n bE) st:=by
 obtain⟨x,x1,x2,x3,x4⟩:=item T.ka (i:=ia) (by have:=m.ha;omega);refine Û (bA x1 ?_);have m':=At.pushA T m.mi x4 λz hz=>h z hz x x1;by_cases ha:ia+1+1=a.size;.rw[Í (by simpa using ha)];exact ä ⟨sg,.inl ⟨_,rfl,Ab T L m' ha⟩⟩
 .rw[Ë (by simpa using ha)];have at':At κ a b (out.push x) (ia+1) ib:=⟨m',by have:=m.ha;lia,m.hb⟩;split;.exact ä ⟨sg,.inr ⟨rfl,at',by dsimp only;lia⟩⟩
  .exact ä ⟨sg,rfl,at',by dsimp only;lia⟩
theorem yK(hL:LtAll prog w A E s κ ks)(T:ī κ a b)(L:kY κ a b){g ia ib k bc n:Nat}{bE st:SortSt}(hk:kindOf st=ks)(sg:SG bE st)(m:At κ a b out ia ib)(hn:n<=ia+ib+1):wpS (model prog w) A E s (gl3 a b out ia ib g k bc) (G2 κ a b n bE) st:=by
 obtain⟨x,x1,x2,x3,x4⟩:=item T.ka (i:=ia) (by have:=m.ha;lia);have hb:=m.hb;refine Û (bA x1 ?_);refine Û (fZ (κ:=κ) (kk:=key κ x) (hL st hk) x2 À (λi hi=>?_) (λi j cq hj kX=>?_) λk1 kn kt kf=>?_);.obtain⟨p,p1,p2,p3,_⟩:=item T.kb (i:=ib+i) À;exact⟨p,_,p1,p2,p3⟩
 .have mono:=mQ T.kb T.sb (i:=ib+i) (j:=ib+j) z03 À;exact KeyOrd.klt_of_kle_of_klt mono kX
 .have iO:∀y∈b.toList.drop (ib+k1),∀z,a[ia]?=some z->leK κ z y:=λy hy z hz=>by rw[x1]at hz;cases hz;obtain⟨j,j1,j2,j3⟩:=qC T.kb hy;have:=kf (j-ib) À À;rw[show ib+(j-ib)=j by lia,j3]at this;exact this
  by_cases h0:k1>0
  .dsimp only;rw[Í h0];have m':=At.segB (k:=k1) T m.mi λz hz y hy=>by obtain⟨j,j1,j2,j3⟩:=mO T.kb hz;have:=kt j j1;rw[j3]at this;exact eZ (KeyOrd.kle_of_klt this) (mK T.sa x4 y hy)
   by_cases e:ib+k1=b.size;.rw[Í (by simpa using e)];exact ä ⟨sg,.inl ⟨_,rfl,Aa T m' e⟩⟩
   .rw[Ë (by simpa using e)];exact qD T L sg ⟨m',m.ha,z03⟩ z03 iO
  .dsimp only;rw[Ë h0];have e:k1=0:=À;rw[e]at iO;exact qD T L sg m hn iO
theorem qF(hL:LtAll prog w A E s κ ks)(T:ī κ a b)(L:kY κ a b){g ia ib k bc n:Nat}{bE st:SortSt}(hk:kindOf st=ks)(sg:SG bE st)(m:At κ a b out ia ib)(hn:n<=ia+ib+1)(h:∀x∈a.toList.drop ia,∀y,b[ib]?=some y->leK κ y x):wpS (model prog w) A E s (gl2 a b out ia ib g k bc) (G2 κ a b n bE) st:=by
 obtain⟨y,y1,y2,y3,y4⟩:=item T.kb m.hb;refine Û (bA y1 ?_);have m':=At.pushB T m.mi y4 λz hz=>h z hz y y1;by_cases hb:ib+1=b.size;.rw[Í (by simpa using hb)];exact ä ⟨sg,.inl ⟨_,rfl,Aa T m' hb⟩⟩
 .rw[Ë (by simpa using hb)];exact yK hL T L hk sg ⟨m',m.ha,by have:=m.hb;lia⟩ À
theorem yL(hL:LtAll prog w A E s κ ks)(T:ī κ a b)(L:kY κ a b){g ia ib ac bc n:Nat}{bE st:SortSt}(hk:kindOf st=ks)(sg:SG bE st)(m:At κ a b out ia ib)(hn:n<=ia+ib+1):wpS (model prog w) A E s (ϟ a b out ia ib g ac bc) (G2 κ a b n bE) st:=by
 obtain⟨y,y1,y2,y3,y4⟩:=item T.kb m.hb;have ha:=m.ha;unfold ϟ;refine Û (jW λÇ gT=>?_);have eC:kindOf Ç=ks:=gT.kind.trans hk;have bP:SG bE Ç:=⟨gT.kind.trans sg.kind,gT.arr.trans sg.arr,gT.pend.trans sg.pend,gT.fail.trans sg.fail⟩;refine Û (bA y1 ?_);refine Û (fZ (κ:=κ) (kk:=key κ y) (hL Ç eC) y2 À (λi hi=>?_) (λi j cq hj kX=>?_) λk kn kt kf=>?_);.obtain⟨p,p1,p2,p3,_⟩:=item T.ka (i:=ia+i) (by grind);exact⟨p,_,p1,p2,p3⟩
 .have mono:=mQ T.ka T.sa (i:=ia+i) (j:=ia+j) À z03;have kX:(!κ.blt (key κ y) (KK κ a (ia+j)))=true:=kX;show(!κ.blt (key κ y) (KK κ a (ia+i)))=true;rw[Zaz]at kX⊢;exact KeyOrd.kle_trans mono kX
 .have iO:∀x∈a.toList.drop (ia+k),∀z,b[ib]?=some z->leK κ z x:=λx hx z hz=>by rw[y1]at hz;cases hz;obtain⟨j,j1,j2,j3⟩:=qC T.ka hx;have:=kf (j-ia) À À;rw[show ia+(j-ia)=j by omega,j3]at this;have this:(!κ.blt (key κ y) (key κ x))=false:=this;rw[Bool.not_eq_false']at this;exact KeyOrd.kle_of_klt this
  by_cases h0:k>0
  .dsimp only;rw[Í h0];have m':=At.segA (k:=k) T m.mi λz hz x hx=>by obtain⟨j,j1,j2,j3⟩:=mO T.ka hz;have:=kt j j1;rw[j3]at this;have this:(!κ.blt (key κ y) (key κ z))=true:=this;rw[Zaz]at this;exact eZ (this) (mK T.sb y4 x hx)
   by_cases e:ia+k+1=a.size;.rw[Í (by simpa using e)];exact ä ⟨bP,.inl ⟨_,rfl,Ab T L m' e⟩⟩
   .rw[Ë (by simpa using e)];by_cases e2:ia+k=a.size;.rw[Í (by simpa using e2)];exact ä ⟨bP,.inl ⟨_,rfl,Nz T m' e2⟩⟩
    .rw[Ë (by simpa using e2)];exact qF hL T L eC bP ⟨m',z03,m.hb⟩ z03 iO
  .dsimp only;rw[Ë h0];have e:k=0:=À;rw[e]at iO;exact qF hL T L eC bP m hn iO
theorem qG(hL:LtAll prog w A E s κ ks)(T:ī κ a b)(L:kY κ a b){bE st:SortSt}(hk:kindOf st=ks)(sg:SG bE st)(m:At κ a b out ia ib):wpS (model prog w) A E s (round a b out ia ib g) (λr Ç=>SG bE Ç/\match r with|.done c=>∃z,c.1=some z/\Rs κ a b z|.yield c=>c.1=none/\At κ a b c.2.1 c.2.2.1 c.2.2.2.1/\ia+ib+1<=c.2.2.1+c.2.2.2.1) st:=by
 have T8:0<a.size+b.size:=by have:=m.ha;lia
 refine Û (wpS_mono (wpS_forRange (I:=λx c Ç=>Ç=st/\c.1=none/\At κ a b c.2.1 c.2.2.1 c.2.2.2.1/\ia+ib+x=c.2.2.1+c.2.2.2.1) (Q:=λc Ç=>Ç=st/\((∃z,c.1=some z/\Rs κ a b z)\/(c.1=none/\At κ a b c.2.1 c.2.2.1 c.2.2.2.1/\ia+ib+1<=c.2.2.1+c.2.2.2.1))) ?_ ?_ ⟨rfl,rfl,m,rfl⟩) ?_)
 .rintro x⟨c0,o,i,j,ac,bc⟩Ç _ hx⟨rfl,rfl,m',e⟩;dsimp only at m' e⊢;refine wpS_mono (yJ hL T L hk m') λr st2 h2=>?_;obtain⟨rfl,h2⟩:=h2
  cases r with|done c=>
   rcases h2 with h2|⟨h2,h3,h4⟩;.exact⟨rfl,.inl h2⟩
   .exact⟨rfl,.inr ⟨h2,h3,z03⟩⟩;|yield c=>obtain⟨h2,h3,h4⟩:=h2;exact⟨rfl,h2,h3,z03⟩
 .rintro c Ç⟨rfl,h1,h2,h3⟩;exact⟨rfl,.inr ⟨h1,h2,À⟩⟩
 .rintro⟨c0,o,i,j,ac,bc⟩Ç⟨rfl,h⟩;dsimp only at h⊢;rcases h with⟨z,rfl,hz⟩|⟨rfl,m',cq⟩;.exact ä ⟨sg,z,rfl,hz⟩
  .dsimp only;refine Û (wpS_lift (wpAny_rule ⟨rfl,?_⟩));refine Û (wpS_mono (wpS_forRange (I:=λx c st2=>SG bE st2/\c.1=none/\At κ a b c.2.1 c.2.2.1 c.2.2.2.1/\ia+ib+1<=c.2.2.1+c.2.2.2.1) (Q:=λc st2=>SG bE st2/\((∃z,c.1=some z/\Rs κ a b z)\/(c.1=none/\At κ a b c.2.1 c.2.2.1 c.2.2.2.1/\ia+ib+1<=c.2.2.1+c.2.2.2.1))) ?_ ?_ ⟨sg,rfl,m',cq⟩) ?_)
   .rintro x⟨c0,o,i,j,g2,ac,bc⟩st2 _ hx⟨bP,rfl,m2,e2⟩;dsimp only at m2 e2⊢;have CL:kindOf st2=ks:=bP.kind.trans (sg.kind.symm.trans hk);have go:∀g',wpS (model prog w) A E s (ϟ a b o i j g' ac bc) (G2 κ a b (ia+ib+1) bE) st2:=λg'=>yL hL T L CL bP m2 À;unfold gal;split;.refine wpS_mono (go _) λr ip h3=>?_;obtain⟨h3,h4⟩:=h3;cases r with|done c=>exact⟨h3,h4⟩;|yield c=>exact⟨h3,h4⟩
    .refine wpS_mono (go _) λr ip h3=>?_;obtain⟨h3,h4⟩:=h3;cases r with|done c=>exact⟨h3,h4⟩;|yield c=>exact⟨h3,h4⟩
   .rintro c st2⟨h0,h1,h2,h3⟩;exact⟨h0,.inr ⟨h1,h2,h3⟩⟩
   .rintro⟨c0,o,i,j,g2,ac,bc⟩st2⟨bP,h⟩;dsimp only at h⊢;rcases h with⟨z,rfl,hz⟩|⟨rfl,m2,xi⟩;.exact ä ⟨bP,z,rfl,hz⟩
    .dsimp only;refine Û (jW λip rX=>ä ⟨⟨rX.kind.trans bP.kind,rX.arr.trans bP.arr,rX.pend.trans bP.pend,rX.fail.trans bP.fail⟩,rfl,m2,xi⟩)
theorem NB(hL:LtAll prog w A E s κ ks)(T:ī κ a b)(L:kY κ a b)(ha:0<a.size)(hb:0<b.size)(F:∀x∈a.toList,∀y,b[0]?=some y->leK κ y x){st:SortSt}(hk:kindOf st=ks)(h:∀r Ç,SG st Ç->Rs κ a b r->Q r Ç):wpS (model prog w) A E s (mH a b) Q st:=by
 rw[Ny];obtain⟨y,y1,y2,y3,y4⟩:=item T.kb hb;refine Û (wpS_lift (wpAny_rule ⟨rfl,?_⟩));refine Û (bA y1 ?_);have m0:MI (leK κ) a.toList b.toList ([]:List Keyed) 0 0:=⟨by simp,.nil,λx hx=>absurd hx Ò⟩;have m:MI (leK κ) a.toList b.toList (#[y]:Array Keyed).toList 0 1:=by have:=At.pushB (out:=#[]) T m0 y4 λz hz=>F z hz y y1;exact this
 by_cases e1:1=b.size;.rw[Í (by simpa using e1)];exact ä (h _ st (SG.refl _) (Aa T m e1))
 .rw[Ë (by simpa using e1)];by_cases e2:0+1=a.size;.rw[Í (by simpa using e2)];exact ä (h _ st (SG.refl _) (Ab T L m e2))
  .rw[Ë (by simpa using e2)];refine Û (wpS_get ?_);refine Û (wpS_mono (wpS_forRange (I:=λx c Ç=>SG st Ç/\c.1=none/\At κ a b c.2.1 c.2.2.1 c.2.2.2.1/\1+x<=c.2.2.1+c.2.2.2.1) (Q:=λc Ç=>SG st Ç/\∃z,c.1=some z/\Rs κ a b z) ?_ ?_ ⟨SG.refl _,rfl,⟨m,by dsimp only;lia,by dsimp only;lia⟩,by dsimp only;lia⟩) ?_);.rintro x⟨c0,o,i,j,g⟩Ç _ hx⟨sg,rfl,m',e⟩;dsimp only at m' e⊢;refine wpS_mono (qG hL T L (sg.kind.trans hk) sg m') λr st2 h2=>?_;obtain⟨bP,h2⟩:=h2;cases r with|done c=>exact⟨bP,h2⟩;|yield c=>obtain⟨h2,h3,h4⟩:=h2;exact⟨bP,h2,h3,À⟩
   .rintro c Ç⟨sg,h1,m',e⟩;have:=m'.ha;have:=m'.hb;exact absurd e À
   .rintro⟨c0,o,i,j,g⟩Ç⟨sg,z,e,hz⟩;rw[e];exact ä (h z Ç sg hz)
end
def mR:Array Keyed->Array Keyed->Sm (Array Keyed):=sortPriv%PySem.Builtin.mergeHi
namespace Hi
abbrev dn(a b out:Array Keyed)(na nb:Nat):Array Keyed:=a.extract 0 na++b.extract 0 nb++out.reverse
abbrev fb(a b out:Array Keyed)(na nb:Nat):Array Keyed:=b.extract 0 nb++a.extract 0 na++out.reverse
abbrev H1:=Option (Array Keyed)×Nat×Nat×Array Keyed×Nat×Nat
abbrev H2:=Option (Array Keyed)×Nat×Nat×Array Keyed×Nat×Nat×Nat
abbrev H0:=Option (Array Keyed)×Nat×Nat×Array Keyed×Nat
def one(a b:Array Keyed)(g:Nat)(na nb:Nat)(out:Array Keyed)(ac bc:Nat):Sm (ForInStep H1):=do let y<-elem' b (nb-1)let x<-elem' a (na-1)let r<-lt' y x match r with|some w=>if w=true then do let x<-elem' a (na-1)if(na-1==0)=true then pure (ForInStep.done (some (dn a b (out.push x) (na-1) nb),na-1,nb,out.push x,ac+1,0))else if ac+1≥g then pure (ForInStep.done (none,na-1,nb,out.push x,ac+1,0))else pure (ForInStep.yield (none,na-1,nb,out.push x,ac+1,0))else do let y<-elem' b (nb-1)if(nb-1==1)=true then pure (ForInStep.done (some (fb a b (out.push y) na (nb-1)),na,nb-1,out.push y,0,bc+1))else if bc+1≥g then pure (ForInStep.done (none,na,nb-1,out.push y,0,bc+1))else pure (ForInStep.yield (none,na,nb-1,out.push y,0,bc+1))|_=>pure (ForInStep.done (some (dn a b out na nb),na,nb,out,ac,bc))
def gl4(a b:Array Keyed)(na nb:Nat)(out:Array Keyed)(g k k1:Nat):Sm (ForInStep H2):=do let x<-elem' a (na-1)if(na-1==0)=true then pure (ForInStep.done (some (dn a b (out.push x) (na-1) nb),na-1,nb,out.push x,g,k,k1))else if(decide (k<7)&&decide (k1<7))=true then pure (ForInStep.done (none,na-1,nb,out.push x,g,k,k1))else pure (ForInStep.yield (none,na-1,nb,out.push x,g,k,k1))
def gl3(a b:Array Keyed)(na nb:Nat)(out:Array Keyed)(g k bc:Nat):Sm (ForInStep H2):=do let x<-elem' a (na-1)let r<-iB true x b 0 nb (nb-1)match r with|some t=>if nb-t>0 then if(t==1)=true then pure (ForInStep.done (some (fb a b (out++(b.extract t nb).reverse) na t),na,t,out++(b.extract t nb).reverse,g,k,nb-t))else if(t==0)=true then pure (ForInStep.done (some (dn a b (out++(b.extract t nb).reverse) na t),na,t,out++(b.extract t nb).reverse,g,k,nb-t))else gl4 a b na t (out++(b.extract t nb).reverse) g k (nb-t)else gl4 a b na nb out g k (nb-t)|_=>pure (ForInStep.done (some (dn a b out na nb),na,nb,out,g,k,bc))
def gl2(a b:Array Keyed)(na nb:Nat)(out:Array Keyed)(g k bc:Nat):Sm (ForInStep H2):=do let y<-elem' b (nb-1)if(nb-1==1)=true then pure (ForInStep.done (some (fb a b (out.push y) na (nb-1)),na,nb-1,out.push y,g,k,bc))else gl3 a b na (nb-1) (out.push y) g k bc
def ϟ(a b:Array Keyed)(na nb:Nat)(out:Array Keyed)(g ac bc:Nat):Sm (ForInStep H2):=do mJ g let y<-elem' b (nb-1)let r<-iB false y a 0 na (na-1)match r with|some t=>if na-t>0 then if(t==0)=true then pure (ForInStep.done (some (dn a b (out++(a.extract t na).reverse) t nb),t,nb,out++(a.extract t na).reverse,g,na-t,bc))else gl2 a b t nb (out++(a.extract t na).reverse) g (na-t) bc else gl2 a b na nb out g (na-t) bc|_=>pure (ForInStep.done (some (dn a b out na nb),na,nb,out,g,ac,bc))
def gal(a b:Array Keyed)(na nb:Nat)(out:Array Keyed)(g ac bc:Nat):Sm (ForInStep H2):=if g>1 then ϟ a b na nb out (g-1) ac bc else ϟ a b na nb out g ac bc
def round(a b:Array Keyed)(na nb:Nat)(out:Array Keyed)(g:Nat):Sm (ForInStep H0):=do let c<-forIn [0:a.size+b.size] ((none,na,nb,out,0,0):H1) λ_ c=>one a b g c.2.1 c.2.2.1 c.2.2.2.1 c.2.2.2.2.1 c.2.2.2.2.2 match c.1 with|some r=>pure (ForInStep.done (some r,c.2.1,c.2.2.1,c.2.2.2.1,g))|none=>do liftM (rule "list.sort.gallop")let d<-forIn [0:a.size+b.size] ((none,c.2.1,c.2.2.1,c.2.2.2.1,g+1,c.2.2.2.2.1,c.2.2.2.2.2):H2) λ_ d=>gal a b d.2.1 d.2.2.1 d.2.2.2.1 d.2.2.2.2.1 d.2.2.2.2.2.1 d.2.2.2.2.2.2 match d.1 with|some r=>pure (ForInStep.done (some r,d.2.1,d.2.2.1,d.2.2.2.1,d.2.2.2.2.1))|none=>do mJ (d.2.2.2.2.1+1)pure (ForInStep.yield (none,d.2.1,d.2.2.1,d.2.2.2.1,d.2.2.2.2.1+1))
theorem NK(a b:Array Keyed):mR a b=(do liftM (rule "list.sort.merge-hi")let e<-elem' a (a.size-1)if(a.size-1==0)=true then pure (dn a b #[e] (a.size-1) b.size)else if(b.size==1)=true then pure (fb a b #[e] (a.size-1) b.size)else do let s<-get let c<-forIn [0:a.size+b.size] ((none,a.size-1,b.size,#[e],gallopOf s):H0) λ_ c=>round a b c.2.1 c.2.2.1 c.2.2.2.1 c.2.2.2.2 match c.1 with|some r=>pure r|none=>liftM (unsupported "internal:list.sort.merge-bound")):=by
 delta mR;refine bc rfl (funext λu=>bc rfl (funext λe=>ic rfl (ic rfl (bc rfl (funext λs=>bc (fi (funext λx=>funext λc=>?_)) (funext λc=>?_))))))
 .unfold round;refine bc (fi (funext λx=>funext λc1=>?_)) (funext λc1=>?_);.unfold one;refine bc rfl (funext λy=>bc rfl (funext λx=>bc rfl (funext λr=>?_)));cases r with|none=>rfl;|some w=>exact ic (bc rfl (funext λy=>ic rfl (ic rfl rfl))) (bc rfl (funext λy=>ic rfl (ic rfl rfl)))
  .obtain⟨r,c1⟩:=c1;cases r with|some r=>rfl;|none=>
    refine bc rfl (funext λu=>bc (fi (funext λx=>funext λd=>?_)) (funext λd=>?_));.unfold gal;refine ic ?_ ?_<;>(unfold ϟ;exact bc rfl (funext λu=>bc rfl (funext λy=>bc rfl (funext λr=>by rfl))))
    .obtain⟨r,d⟩:=d;cases r<;>rfl
 .obtain⟨r,c⟩:=c;cases r<;>rfl
section
variable{α:Type}
structure MH(le:α->α->Prop)(la lb lo:List α)(na nb:Nat):Prop where
 pm:lo.Perm (la.drop na++lb.drop nb)sr:lo.Pairwise le
 be:∀x∈lo,∀y,y∈la.take na\/y∈lb.take nb->le y x
theorem Ac{l:List α}(h:i<=j)(hy:y∈l.take i):y∈l.take j:=by rw[show i=min i j by lia,<-List.take_take]at hy;exact Zan hy
theorem cut_drop{l:List α}(h:t<=n)(hn:n<=l.length):(l.take n).drop t++l.drop n=l.drop t:=by have e:=Ϧ n l;have:(l.take n++l.drop n).drop t=(l.take n).drop t++l.drop n:=List.drop_append_of_le_length (by rw[İ];simp_all);rw[e]at this;exact this.symm
theorem Ep{l:List α}(hp:l.Pairwise le)(h:t<=n):∀y∈l.take t,∀x∈(l.take n).drop t,le y x:=by have h2:(l.take n).Pairwise le:=hp.sublist (Zav _ _);have e:=Ϧ t (l.take n);rw[<-e]at h2;rw[List.take_take,show min t n=t by lia]at h2;exact λy hy x hx=>(Ű.mp h2).2.2 y hy x hx
theorem MH.segA{la lb lo:List α}(m:MH le la lb lo na nb)(sa:la.Pairwise le)(ht:t<=na)(hn:na<=la.length)(h:∀x∈(la.take na).drop t,∀y∈lb.take nb,le y x):MH le la lb ((la.take na).drop t++lo) t nb:=by
 refine⟨?_,Ű.mpr ⟨(sa.sublist (Zav _ _)).sublist (Zaq _ _),m.sr,λx hx y hy=>m.be y hy x (.inl (Za1 hx))⟩,λx hx y hy=>?_⟩;.refine(List.Perm.append_left _ m.pm).trans ?_;rw[<-Ŧ,cut_drop ht hn]
 .rcases Ą.mp hx with z|z
  .rcases hy with hy|hy;.exact Ep sa ht y hy x z
   .exact h x z y hy
  .exact m.be x z y (hy.imp (Ac ht) id)
theorem MH.segB{la lb lo:List α}(m:MH le la lb lo na nb)(sb:lb.Pairwise le)(ht:t<=nb)(hn:nb<=lb.length)(h:∀x∈(lb.take nb).drop t,∀y∈la.take na,le y x):MH le la lb ((lb.take nb).drop t++lo) na t:=by
 refine⟨?_,Ű.mpr ⟨(sb.sublist (Zav _ _)).sublist (Zaq _ _),m.sr,λx hx y hy=>m.be y hy x (.inr (Za1 hx))⟩,λx hx y hy=>?_⟩;.refine(List.Perm.append_left _ m.pm).trans ?_;refine(List.perm_append_comm_assoc _ _ _).trans ?_;rw[cut_drop ht hn]
 .rcases Ą.mp hx with z|z
  .rcases hy with hy|hy;.exact h x z y hy
   .exact Ep sb ht y hy x z
  .exact m.be x z y (hy.imp id (Ac ht))
theorem MH.first{la lb lo:List α}(m:MH le la lb lo na nb)(sa:la.Pairwise le)(sb:lb.Pairwise le)(h:∀y∈lb.take nb,∀x∈la.take na,le y x):Χ le la lb (lb.take nb++la.take na++lo):=by
 refine⟨?_,Ű.mpr ⟨Ű.mpr ⟨sb.sublist (Zav _ _),sa.sublist (Zav _ _),h⟩,m.sr,λx hx y hy=>m.be y hy x ((Ą.mp hx).symm)⟩⟩;refine(List.Perm.append_left _ m.pm).trans ?_;have e:lb.take nb++la.take na++(la.drop na++lb.drop nb)=lb.take nb++(la++lb.drop nb):=by rw[Ŧ,<-Ŧ (la.take na),Ϧ]
 rw[e];refine(List.perm_append_comm_assoc _ _ _).trans ?_;rw[Ϧ]
theorem MH.endA{la lb lo:List α}(m:MH le la lb lo 0 nb)(sa:la.Pairwise le)(sb:lb.Pairwise le):Χ le la lb (la.take 0++lb.take nb++lo):=by have:=m.first sa sb λy _ x hx=>absurd hx Ò;rw[List.take_zero,ļ]at this;exact this
theorem MH.endB{la lb lo:List α}(m:MH le la lb lo na 0)(sa:la.Pairwise le)(sb:lb.Pairwise le):Χ le la lb (la.take na++lb.take 0++lo):=by have:=m.first sa sb λy hy x _=>absurd hy Ò;rw[List.take_zero,ļ];exact this
end
section
theorem BZ(a:Array Keyed)(n:Nat):(a.extract 0 n).toList=a.toList.take n:=by simp
theorem ext_cut(a:Array Keyed)(t n:Nat):(a.extract t n).toList=(a.toList.take n).drop t:=by rw[jG,List.drop_take]
theorem wM(out:Array Keyed)(x:Keyed):(out.push x).reverse.toList=x::out.reverse.toList:=by simp
theorem Ad(out seg:Array Keyed):(out++seg.reverse).reverse.toList=seg.toList++out.reverse.toList:=by simp
abbrev Mh(κ:gV)(a b out:Array Keyed)(na nb:Nat):Prop:=MH (leK κ) a.toList b.toList out.reverse.toList na nb
structure At(κ:gV)(a b out:Array Keyed)(na nb:Nat):Prop where
 mi:Mh κ a b out na nb
 a1:1<=na
 a2:na<=a.size
 b1:2<=nb
 b2:nb<=b.size
theorem jl(ka:KeysOf κ a)(h1:1<=n)(h2:n<=a.size):∃p,a[n-1]?=some p/\κ.keyOf p.1=some (key κ p)/\KK κ a (n-1)=key κ p/\(a.toList.take n).drop (n-1)=[p]:=by obtain⟨p,p1,p2,p3,p4⟩:=item ka (i:=n-1) z03;refine⟨p,p1,p2,p3,?_⟩;rw[List.drop_take,p4,show n-(n-1)=1 by grind];rfl
theorem take_key(ka:KeysOf κ a)(h:x∈(a.toList.take n).drop t):∃j,t<=j/\j<n/\j<a.size/\KK κ a j=key κ x:=by rw[List.drop_take]at h;obtain⟨j,j1,j2,j3⟩:=mO ka h;exact⟨t+j,Ò,z03,j2,j3⟩
theorem take_key0(ka:KeysOf κ a)(h:x∈a.toList.take n):∃j,j<n/\j<a.size/\KK κ a j=key κ x:=by
 have h':x∈(a.toList.take n).drop 0:=by rw[List.drop_zero];exact h
 obtain⟨j,_,j1,j2,j3⟩:=take_key ka h';exact⟨j,j1,j2,j3⟩
theorem Ae(ka:KeysOf κ a)(sa:a.toList.Pairwise (leK κ))(h1:1<=n)(h2:n<=a.size)(e:KK κ a (n-1)=key κ p):∀y∈a.toList.take n,leK κ y p:=λy hy=>by obtain⟨j,j1,j2,j3⟩:=take_key0 ka hy;have:=mQ ka sa (i:=j) (j:=n-1) z03 À;rw[j3,e]at this;exact this
theorem pushA{out:Array Keyed}(T:ī κ a b)(m:Mh κ a b out na nb)(h1:1<=na)(h2:na<=a.size)(e:(a.toList.take na).drop (na-1)=[x])(h:∀y∈b.toList.take nb,leK κ y x):Mh κ a b (out.push x) (na-1) nb:=by
 have:=MH.segA (t:=na-1) m T.sa Ò (by rw[Ě];exact h2) λz hz y hy=>by rw[e]at hz;rw[Ũ.mp hz];exact h y hy
 rw[e]at this;unfold Mh;rw[wM];exact this
theorem pushB{out:Array Keyed}(T:ī κ a b)(m:Mh κ a b out na nb)(h1:1<=nb)(h2:nb<=b.size)(e:(b.toList.take nb).drop (nb-1)=[x])(h:∀y∈a.toList.take na,leK κ y x):Mh κ a b (out.push x) na (nb-1):=by
 have:=MH.segB (t:=nb-1) m T.sb Ò (by rw[Ě];exact h2) λz hz y hy=>by rw[e]at hz;rw[Ũ.mp hz];exact h y hy
 rw[e]at this;unfold Mh;rw[wM];exact this
theorem NQ(T:ī κ a b)(m:Mh κ a b out na nb)(ht:t<=na)(h2:na<=a.size)(h:∀x∈(a.toList.take na).drop t,∀y∈b.toList.take nb,leK κ y x):Mh κ a b (out++(a.extract t na).reverse) t nb:=by have:=MH.segA m T.sa ht (by rw[Ě];exact h2) h;unfold Mh;rw[Ad,ext_cut];exact this
theorem NT(T:ī κ a b)(m:Mh κ a b out na nb)(ht:t<=nb)(h2:nb<=b.size)(h:∀x∈(b.toList.take nb).drop t,∀y∈a.toList.take na,leK κ y x):Mh κ a b (out++(b.extract t nb).reverse) na t:=by have:=MH.segB m T.sb ht (by rw[Ě];exact h2) h;unfold Mh;rw[Ad,ext_cut];exact this
def FirstB(κ:gV)(a b:Array Keyed):Prop:=∀y∈b.toList.take 1,∀x∈a.toList,leK κ y x
theorem e_a(T:ī κ a b)(m:Mh κ a b out na nb)(h:na=0):Rs κ a b (dn a b out na nb):=by subst h;have:=MH.endA m T.sa T.sb;unfold Rs dn;rw[Ι,Ι,BZ,BZ];exact this
theorem e_b(T:ī κ a b)(m:Mh κ a b out na nb)(h:nb=0):Rs κ a b (dn a b out na nb):=by subst h;have:=MH.endB m T.sa T.sb;unfold Rs dn;rw[Ι,Ι,BZ,BZ];exact this
theorem e_f(T:ī κ a b)(F:FirstB κ a b)(m:Mh κ a b out na nb)(h:nb=1):Rs κ a b (fb a b out na nb):=by subst h;have:=MH.first m T.sa T.sb λy hy x hx=>F y hy x (Zan hx);unfold Rs fb;rw[Ι,Ι,BZ,BZ];exact this
theorem yJ(hL:LtAll prog w A E s κ ks)(T:ī κ a b)(F:FirstB κ a b){g na nb ac bc:Nat}{st:SortSt}(hk:kindOf st=ks)(m:At κ a b out na nb):wpS (model prog w) A E s (one a b g na nb out ac bc) (λr Ç=>Ç=st/\match r with|.done c=>(∃z,c.1=some z/\Rs κ a b z)\/(c.1=none/\At κ a b c.2.2.2.1 c.2.1 c.2.2.1/\c.2.1+c.2.2.1+1=na+nb)|.yield c=>c.1=none/\At κ a b c.2.2.2.1 c.2.1 c.2.2.1/\c.2.1+c.2.2.1+1=na+nb) st:=by
 obtain⟨mi,a1,a2,b1,b2⟩:=m;obtain⟨x,x1,x2,x3,x4⟩:=jl T.ka a1 a2;obtain⟨y,y1,y2,y3,y4⟩:=jl T.kb (show 1<=nb by lia) b2;unfold one;refine Û (bA y1 (Û (bA x1 (Û (hL st hk _ _ _ _ _ y2 x2 ?_)))))
 cases e:κ.blt (key κ y) (key κ x)with|true=>
  dsimp only;refine Û (bA x1 ?_);have m':=pushA T mi a1 a2 x4 λz hz=>eZ (Ae T.kb T.sb À b2 y3 z hz) (KeyOrd.kle_of_klt e);by_cases h0:na-1=0;.rw[Í (by simpa using h0)];exact ä ⟨rfl,.inl ⟨_,rfl,e_a T m' h0⟩⟩
  .rw[Ë (by simpa using h0)];have at':At κ a b (out.push x) (na-1) nb:=⟨m',À,À,b1,b2⟩;split;.exact ä ⟨rfl,.inr ⟨rfl,at',by dsimp only;lia⟩⟩
   .exact ä ⟨rfl,rfl,at',by dsimp only;lia⟩;|false=>
  dsimp only;refine Û (bA y1 ?_);have m':=pushB T mi z03 b2 y4 λz hz=>eZ (Ae T.ka T.sa a1 a2 x3 z hz) (e);by_cases h0:nb-1=1;.rw[Í (by simpa using h0)];exact ä ⟨rfl,.inl ⟨_,rfl,e_f T F m' h0⟩⟩
  .rw[Ë (by simpa using h0)];have at':At κ a b (out.push y) na (nb-1):=⟨m',a1,a2,À,z03⟩;split;.exact ä ⟨rfl,.inr ⟨rfl,at',by dsimp only;lia⟩⟩
   .exact ä ⟨rfl,rfl,at',by dsimp only;lia⟩
def G2(κ:gV)(a b:Array Keyed)(n:Nat)(st:SortSt)(r:ForInStep H2)(Ç:SortSt):Prop:=SG st Ç/\match r with|.done c=>(∃z,c.1=some z/\Rs κ a b z)\/(c.1=none/\At κ a b c.2.2.2.1 c.2.1 c.2.2.1/\c.2.1+c.2.2.1<n)|.yield c=>c.1=none/\At κ a b c.2.2.2.1 c.2.1 c.2.2.1/\c.2.1+c.2.2.1<n
theorem qD(T:ī κ a b){bE st:SortSt}(sg:SG bE st)(m:At κ a b out na nb)(hn:na+nb<=n)(h:∀y∈b.toList.take nb,∀x,a[na-1]?=some x->leK κ y x):wpS (model prog w) A E s (gl4 a b na nb out g k k1) (G2 κ a b n bE) st:=by
 obtain⟨mi,a1,a2,b1,b2⟩:=m;obtain⟨x,x1,x2,x3,x4⟩:=jl T.ka a1 a2;refine Û (bA x1 ?_);have m':=pushA T mi a1 a2 x4 λz hz=>h z hz x x1;by_cases h0:na-1=0;.rw[Í (by simpa using h0)];exact ä ⟨sg,.inl ⟨_,rfl,e_a T m' h0⟩⟩
 .rw[Ë (by simpa using h0)];have at':At κ a b (out.push x) (na-1) nb:=⟨m',À,À,b1,b2⟩;split;.exact ä ⟨sg,.inr ⟨rfl,at',by dsimp only;lia⟩⟩
  .exact ä ⟨sg,rfl,at',by dsimp only;lia⟩
theorem yK(hL:LtAll prog w A E s κ ks)(T:ī κ a b)(F:FirstB κ a b){g na nb k bc n:Nat}{bE st:SortSt}(hk:kindOf st=ks)(sg:SG bE st)(m:At κ a b out na nb)(hn:na+nb<=n):wpS (model prog w) A E s (gl3 a b na nb out g k bc) (G2 κ a b n bE) st:=by
 obtain⟨mi,a1,a2,b1,b2⟩:=id m;obtain⟨x,x1,x2,x3,x4⟩:=jl T.ka a1 a2;unfold gl3;refine Û (bA x1 ?_);refine Û (fZ (κ:=κ) (kk:=key κ x) (hL st hk) x2 z03 (λi hi=>?_) (λi j cq hj kX=>?_) λt kn kt kf=>?_);.obtain⟨p,p1,p2,p3,_⟩:=item T.kb (i:=0+i) À;exact⟨p,_,p1,p2,p3⟩
 .have mono:=mQ T.kb T.sb (i:=0+i) (j:=0+j) À z03;exact KeyOrd.klt_of_kle_of_klt mono kX
 .have early:∀y∈b.toList.take t,∀z,a[na-1]?=some z->leK κ y z:=λy hy z hz=>by rw[x1]at hz;cases hz;obtain⟨j,j1,j2,j3⟩:=take_key0 T.kb hy;have:=kt j j1;rw[Nat.zero_add,j3]at this;exact KeyOrd.kle_of_klt this
  by_cases h0:nb-t>0
  .dsimp only;rw[Í h0];have m':=NT T mi (show t<=nb by omega) b2 λz hz y hy=>by obtain⟨j,j1,j2,j3,j4⟩:=take_key T.kb hz;have:=kf j j1 j2;rw[Nat.zero_add,j4]at this;exact eZ (Ae T.ka T.sa a1 a2 x3 y hy) (this)
   by_cases e:t=1;.rw[Í (by simpa using e)];exact ä ⟨sg,.inl ⟨_,rfl,e_f T F m' e⟩⟩
   .rw[Ë (by simpa using e)];by_cases e2:t=0;.rw[Í (by simpa using e2)];exact ä ⟨sg,.inl ⟨_,rfl,e_b T m' e2⟩⟩
    .rw[Ë (by simpa using e2)];exact qD T sg ⟨m',a1,a2,À,À⟩ À early
  .dsimp only;rw[Ë h0];have e:t=nb:=À;rw[e]at early;exact qD T sg m hn early
theorem qF(hL:LtAll prog w A E s κ ks)(T:ī κ a b)(F:FirstB κ a b){g na nb k bc n:Nat}{bE st:SortSt}(hk:kindOf st=ks)(sg:SG bE st)(m:At κ a b out na nb)(hn:na+nb<=n)(h:∀x∈a.toList.take na,∀y,b[nb-1]?=some y->leK κ x y):wpS (model prog w) A E s (gl2 a b na nb out g k bc) (G2 κ a b n bE) st:=by
 obtain⟨mi,a1,a2,b1,b2⟩:=m;obtain⟨y,y1,y2,y3,y4⟩:=jl T.kb (show 1<=nb by lia) b2;refine Û (bA y1 ?_);have m':=pushB T mi À b2 y4 λz hz=>h z hz y y1;by_cases h0:nb-1=1;.rw[Í (by simpa using h0)];exact ä ⟨sg,.inl ⟨_,rfl,e_f T F m' h0⟩⟩
 .rw[Ë (by simpa using h0)];exact yK hL T F hk sg ⟨m',a1,a2,À,À⟩ À
theorem yL(hL:LtAll prog w A E s κ ks)(T:ī κ a b)(F:FirstB κ a b){g na nb ac bc n:Nat}{bE st:SortSt}(hk:kindOf st=ks)(sg:SG bE st)(m:At κ a b out na nb)(hn:na+nb<=n):wpS (model prog w) A E s (ϟ a b na nb out g ac bc) (G2 κ a b n bE) st:=by
 obtain⟨mi,a1,a2,b1,b2⟩:=id m;obtain⟨y,y1,y2,y3,y4⟩:=jl T.kb (show 1<=nb by lia) b2;refine Û (jW λÇ gT=>?_);have eC:kindOf Ç=ks:=gT.kind.trans hk;have bP:SG bE Ç:=⟨gT.kind.trans sg.kind,gT.arr.trans sg.arr,gT.pend.trans sg.pend,gT.fail.trans sg.fail⟩;refine Û (bA y1 ?_);refine Û (fZ (κ:=κ) (kk:=key κ y) (hL Ç eC) y2 À (λi hi=>?_) (λi j cq hj kX=>?_) λt kn kt kf=>?_);.obtain⟨p,p1,p2,p3,_⟩:=item T.ka (i:=0+i) À;exact⟨p,_,p1,p2,p3⟩
 .have mono:=mQ T.ka T.sa (i:=0+i) (j:=0+j) À À;have kX:(!κ.blt (key κ y) (KK κ a (0+j)))=true:=kX;show(!κ.blt (key κ y) (KK κ a (0+i)))=true;rw[Zaz]at kX⊢;exact KeyOrd.kle_trans mono kX
 .have early:∀x∈a.toList.take t,∀z,b[nb-1]?=some z->leK κ x z:=λx hx z hz=>by rw[y1]at hz;cases hz;obtain⟨j,j1,j2,j3⟩:=take_key0 T.ka hx;have:=kt j j1;rw[Nat.zero_add,j3]at this;have this:(!κ.blt (key κ y) (key κ x))=true:=this;rw[Zaz]at this;exact this
  by_cases h0:na-t>0
  .dsimp only;rw[Í h0];have m':=NQ T mi (show t<=na by omega) a2 λz hz x hx=>by obtain⟨j,j1,j2,j3,j4⟩:=take_key T.ka hz;have:=kf j j1 j2;rw[Nat.zero_add,j4]at this;have this:(!κ.blt (key κ y) (key κ z))=false:=this;rw[Bool.not_eq_false']at this;exact eZ (Ae T.kb T.sb À b2 y3 x hx) (KeyOrd.kle_of_klt this)
   by_cases e:t=0;.rw[Í (by simpa using e)];exact ä ⟨bP,.inl ⟨_,rfl,e_a T m' e⟩⟩
   .rw[Ë (by simpa using e)];exact qF hL T F eC bP ⟨m',z03,À,b1,b2⟩ À early
  .dsimp only;rw[Ë h0];have e:t=na:=À;rw[e]at early;exact qF hL T F eC bP m hn early
theorem qG(hL:LtAll prog w A E s κ ks)(T:ī κ a b)(F:FirstB κ a b){bE st:SortSt}(hk:kindOf st=ks)(sg:SG bE st)(m:At κ a b out na nb):wpS (model prog w) A E s (round a b na nb out g) (λr Ç=>SG bE Ç/\match r with|.done c=>∃z,c.1=some z/\Rs κ a b z|.yield c=>c.1=none/\At κ a b c.2.2.2.1 c.2.1 c.2.2.1/\c.2.1+c.2.2.1<na+nb) st:=by
 have T8:0<a.size+b.size:=by have:=m.a1;have:=m.a2;lia
 refine Û (wpS_mono (wpS_forRange (I:=λx c Ç=>Ç=st/\c.1=none/\At κ a b c.2.2.2.1 c.2.1 c.2.2.1/\c.2.1+c.2.2.1+x=na+nb) (Q:=λc Ç=>Ç=st/\((∃z,c.1=some z/\Rs κ a b z)\/(c.1=none/\At κ a b c.2.2.2.1 c.2.1 c.2.2.1/\c.2.1+c.2.2.1<na+nb))) ?_ ?_ ⟨rfl,rfl,m,rfl⟩) ?_)
 .rintro x⟨c0,i,j,o,ac,bc⟩Ç _ hx⟨rfl,rfl,m',e⟩;dsimp only at m' e⊢;refine wpS_mono (yJ hL T F hk m') λr st2 h2=>?_;obtain⟨rfl,h2⟩:=h2
  cases r with|done c=>
   rcases h2 with h2|⟨h2,h3,h4⟩;.exact⟨rfl,.inl h2⟩
   .exact⟨rfl,.inr ⟨h2,h3,À⟩⟩;|yield c=>obtain⟨h2,h3,h4⟩:=h2;exact⟨rfl,h2,h3,À⟩
 .rintro c Ç⟨rfl,h1,h2,h3⟩;exact⟨rfl,.inr ⟨h1,h2,À⟩⟩
 .rintro⟨c0,i,j,o,ac,bc⟩Ç⟨rfl,h⟩;dsimp only at h⊢;rcases h with⟨z,rfl,hz⟩|⟨rfl,m',cq⟩;.exact ä ⟨sg,z,rfl,hz⟩
  .dsimp only;refine Û (wpS_lift (wpAny_rule ⟨rfl,?_⟩));refine Û (wpS_mono (wpS_forRange (I:=λx c st2=>SG bE st2/\c.1=none/\At κ a b c.2.2.2.1 c.2.1 c.2.2.1/\c.2.1+c.2.2.1<na+nb) (Q:=λc st2=>SG bE st2/\((∃z,c.1=some z/\Rs κ a b z)\/(c.1=none/\At κ a b c.2.2.2.1 c.2.1 c.2.2.1/\c.2.1+c.2.2.1<na+nb))) ?_ ?_ ⟨sg,rfl,m',cq⟩) ?_)
   .rintro x⟨c0,i,j,o,g2,ac,bc⟩st2 _ hx⟨bP,rfl,m2,e2⟩;dsimp only at m2 e2⊢;have CL:kindOf st2=ks:=bP.kind.trans (sg.kind.symm.trans hk);have go:∀g',wpS (model prog w) A E s (ϟ a b i j o g' ac bc) (G2 κ a b (na+nb) bE) st2:=λg'=>yL hL T F CL bP m2 À;unfold gal;split;.refine wpS_mono (go _) λr ip h3=>?_;obtain⟨h3,h4⟩:=h3;cases r with|done c=>exact⟨h3,h4⟩;|yield c=>exact⟨h3,h4⟩
    .refine wpS_mono (go _) λr ip h3=>?_;obtain⟨h3,h4⟩:=h3;cases r with|done c=>exact⟨h3,h4⟩;|yield c=>exact⟨h3,h4⟩
   .rintro c st2⟨h0,h1,h2,h3⟩;exact⟨h0,.inr ⟨h1,h2,h3⟩⟩
   .rintro⟨c0,i,j,o,g2,ac,bc⟩st2⟨bP,h⟩;dsimp only at h⊢;rcases h with⟨z,rfl,hz⟩|⟨rfl,m2,xi⟩;.exact ä ⟨bP,z,rfl,hz⟩
    .dsimp only;refine Û (jW λip rX=>ä ⟨⟨rX.kind.trans bP.kind,rX.arr.trans bP.arr,rX.pend.trans bP.pend,rX.fail.trans bP.fail⟩,rfl,m2,xi⟩)
theorem hi_wp(hL:LtAll prog w A E s κ ks)(T:ī κ a b)(L:kY κ a b)(F:FirstB κ a b)(ha:0<a.size)(hb:0<b.size){st:SortSt}(hk:kindOf st=ks)(h:∀r Ç,SG st Ç->Rs κ a b r->Q r Ç):wpS (model prog w) A E s (mR a b) Q st:=by
 rw[NK];obtain⟨x,x1,x2,x3,x4⟩:=jl T.ka (n:=a.size) ha (Ø _);refine Û (wpS_lift (wpAny_rule ⟨rfl,?_⟩));refine Û (bA x1 ?_);have m0:Mh κ a b #[] a.size b.size:=by refine⟨?_,List.Pairwise.nil,λx hx=>absurd hx Ò⟩;rw[Zau (by rw[Ě];exact Ø _),Zau (by rw[Ě];exact Ø _)];exact List.Perm.nil
 have m:Mh κ a b #[x] (a.size-1) b.size:=pushA (out:=#[]) T m0 ha (Ø _) x4 λy hy=>L y (Zan hy) x (by rw[<-Ě,Ľ,Ě]at x4;rw[x4];exact ϫ);by_cases e1:a.size-1=0;.rw[Í (by simpa using e1)];exact ä (h _ st (SG.refl _) (e_a T m e1))
 .rw[Ë (by simpa using e1)];by_cases e2:b.size=1;.rw[Í (by simpa using e2)];exact ä (h _ st (SG.refl _) (e_f T F m e2))
  .rw[Ë (by simpa using e2)];refine Û (wpS_get ?_);refine Û (wpS_mono (wpS_forRange (I:=λx c Ç=>SG st Ç/\c.1=none/\At κ a b c.2.2.2.1 c.2.1 c.2.2.1/\c.2.1+c.2.2.1+x<a.size+b.size) (Q:=λc Ç=>SG st Ç/\∃z,c.1=some z/\Rs κ a b z) ?_ ?_ ⟨SG.refl _,rfl,⟨m,by dsimp only;lia,by dsimp only;lia,by dsimp only;omega,Ø _⟩,by dsimp only;lia⟩) ?_);.rintro x⟨c0,i,j,o,g⟩Ç _ hx⟨sg,rfl,m',e⟩;dsimp only at m' e⊢;refine wpS_mono (qG hL T F (sg.kind.trans hk) sg m') λr st2 h2=>?_;obtain⟨bP,h2⟩:=h2;cases r with|done c=>exact⟨bP,h2⟩;|yield c=>obtain⟨h2,h3,h4⟩:=h2;exact⟨bP,h2,h3,À⟩
   .rintro c Ç⟨sg,h1,m',e⟩;exact absurd e Ò
   .rintro⟨c0,i,j,o,g⟩Ç⟨sg,z,e,hz⟩;rw[e];exact ä (h z Ç sg hz)
end
end Hi
open PySem PyProof.Rows
def over(arr:Array Keyed)(n:Nat)(l:List Keyed):Array Keyed:=l.zipIdx.foldl (λa p=>a.setIfInBounds (n+p.2) p.1) arr
theorem uQ:∀(l:List Keyed)(j n:Nat)(arr:Array Keyed),n+j+l.length<=arr.size->(((l.zipIdx j).foldl (λa p=>a.setIfInBounds (n+p.2) p.1) arr).size=arr.size/\∀i,((l.zipIdx j).foldl (λa p=>a.setIfInBounds (n+p.2) p.1) arr)[i]?=if n+j<=i/\i<n+j+l.length then l[i-(n+j)]? else arr[i]?)
 |[],j,n,arr,_=>by refine⟨rfl,λi=>?_⟩;rw[Ë (by rw[List.length_nil];simp)];rfl;|p::l,j,n,arr,h=>by
  rw[ľ]at h;rw[List.zipIdx_cons,List.foldl_cons];obtain⟨h1,h2⟩:=uQ l (j+1) n (arr.setIfInBounds (n+j) p) (by rw[Array.size_setIfInBounds];lia);refine⟨by rw[h1,Array.size_setIfInBounds],λi=>?_⟩;rw[h2 i,ľ,Array.getElem?_setIfInBounds];by_cases e:n+j=i;.subst e;rw[Ë À,Í rfl,Í z03];simp
  .rw[Ë e];by_cases e2:n+(j+1)<=i/\i<n+(j+1)+l.length;.rw[Í e2,Í z03,show i-(n+j)=(i-(n+(j+1)))+1 by lia];rfl
   .rw[Ë e2,Ë À]
theorem Ca(h:n+l.length<=arr.size):(over arr n l).toList=arr.toList.take n++l++arr.toList.drop (n+l.length):=by
 obtain⟨h1,h2⟩:=uQ l 0 n arr z03;refine List.ext_getElem? λi=>?_;rw[Zal];show((l.zipIdx 0).foldl (λa p=>a.setIfInBounds (n+p.2) p.1) arr)[i]?=_;have hl:arr.toList.length=arr.size:=Ě;rw[h2 i,Ŧ,List.getElem?_append,İ,hl,show min n arr.size=n by lia,List.getElem?_append];by_cases e1:i<n;.rw[Ë À,Í e1,List.getElem?_take,Í e1,Zal]
 .rw[Ë e1];by_cases e2:i<n+l.length;.rw[Í À,Í À];rfl
  .rw[Ë À,Ë À,List.getElem?_drop,Zal];congr 1;lia
theorem pw_of_seg(ka:KeysOf κ arr){lo hi:Nat}(hh:hi<=arr.size)(h:Ĵ κ arr lo hi):((arr.toList.take hi).drop lo).Pairwise (leK κ):=by
 rw[List.pairwise_iff_getElem];intro i j kg ui cq;rw[Zat,İ]at kg ui;rw[List.getElem_drop,List.getElem_drop,Za3,Za3];have fh:∀k,(hk:k<arr.toList.length)->k<arr.size->key κ arr.toList[k]=KK κ arr k:=λk hk eC=>by
  obtain⟨p,p1,p2,p3,p4⟩:=item ka eC;rw[p3];have e:arr.toList[k]?=some p:=by rw[Zal];exact p1
  rw[é hk]at e;rw[ĭ e]
 unfold leK;rw[fh _ _ z03,fh _ _ À];exact h _ _ Ò À z03
theorem Cd(ka:KeysOf κ arr){lo hi:Nat}(hh:hi<=arr.size)(h:((arr.toList.take hi).drop lo).Pairwise (leK κ)):Ĵ κ arr lo hi:=by
 intro i j h1 h2 h3;by_cases e:i=j;.rw[e];exact KeyOrd.kle_refl _
 .rw[List.pairwise_iff_getElem]at h;have fh:∀k,(hk:k<arr.toList.length)->k<arr.size->key κ arr.toList[k]=KK κ arr k:=λk hk eC=>by
   obtain⟨p,p1,p2,p3,p4⟩:=item ka eC;rw[p3];have e:arr.toList[k]?=some p:=by rw[Zal];exact p1
   rw[é hk]at e;rw[ĭ e]
  have:=h (i-lo) (j-lo) (by rw[Zat,İ,Ě];grind) (by rw[Zat,İ,Ě];omega) À;rw[List.getElem_drop,List.getElem_drop,Za3,Za3]at this;unfold leK at this;rw[fh _ _ z03,fh _ _ À]at this;rw[show lo+(i-lo)=i by lia,show lo+(j-lo)=j by lia]at this;exact this
theorem NZ(i:Nat):mergeAt' i=(do let s<-get match(pendingOf s)[i]?,(pendingOf s)[i+1]? with
 |some p,some q=>do set (setPending s (((pendingOf s).setIfInBounds i (p.1,p.2.1+q.2.1,p.2.2)).eraseIdxIfInBounds (i+1)))let y<-elem' (arrOf s) q.1 let r<-iB false y (arrOf s) p.1 p.2.1 0 match r with
   |some k=>if(p.2.1-k==0)=true then pure true else do
 let x<-elem' (arrOf s) (p.1+k+(p.2.1-k)-1)let r<-iB true x (arrOf s) q.1 q.2.1 (q.2.1-1)
     match r with|some n=>if(n==0)=true then pure true else do
 let m<-if p.2.1-k<=n then mH ((arrOf s).extract (p.1+k) q.1) ((arrOf s).extract q.1 (q.1+n))else mR ((arrOf s).extract (p.1+k) q.1) ((arrOf s).extract q.1 (q.1+n))
       modify λs'=>setArr s' (over (arrOf s') (p.1+k) m.toList)let s'<-get
       pure (failedOf s').isNone|_=>pure false
   |_=>pure false
  |_,_=>liftM (unsupported "internal:list.sort.pending")):=by delta mergeAt';refine bc rfl (funext λs=>?_);generalize e1:(pendingOf s)[i]?=o1;generalize e2:(pendingOf s)[i+1]?=o2;cases o1 with|none=>cases o2<;>rfl;|some p=>cases o2 with|none=>rfl;|some q=>refine bc rfl (funext λu=>bc rfl (funext λy=>bc rfl (funext λr=>?_)));cases r with|none=>rfl;|some k=>refine ic rfl (bc rfl (funext λx=>bc rfl (funext λr=>?_)));cases r with|none=>rfl;|some n=>exact ic rfl (ic (bc rfl (funext λm=>rfl)) (bc rfl (funext λm=>rfl)))
theorem keys_perm(h0:KeysOf κ ae)(h:xs.Perm ae):KeysOf κ xs:=λp hp=>h0 p ((Za9.mp h).mem_iff.mp hp)
theorem wN(h0:KeysOf κ xs)(i j:Nat):KeysOf κ (xs.extract i j):=λp hp=>by rw[jG]at hp;exact h0 p (Za1 (Zan hp))
section
structure Mg(κ:gV)(ks:SortKind)(ae:Array Keyed)(st Ç:SortSt)(sa hi:Nat)(pend:Array (Nat×Nat×Nat)):Prop where
 base:SB ks ae Ç
 out:∀k,(k<sa\/hi<=k)->(arrOf Ç)[k]?=(arrOf st)[k]?
 seg:Ĵ κ (arrOf Ç) sa hi
 pend:pendingOf Ç=pend
theorem Er{l:List Keyed}(h1:i<=j)(h2:j<=k)(h3:k<=m)(h4:m<=l.length):(l.take m).drop i=(l.take j).drop i++((l.take k).drop j++(l.take m).drop k):=by
 have c:∀{x y z:Nat},x<=y->y<=z->z<=l.length->(l.take z).drop x=(l.take y).drop x++(l.take z).drop y:=λ{x y z}a b d=>by have:=Hi.cut_drop (l:=l.take z) (t:=x) (n:=y) a (by rw[İ];lia);rw[List.take_take,show min y z=y by lia]at this;exact this.symm
 rw[c h1 À h4,c h2 h3 h4]
theorem O4(hL:LtAll prog w A E s κ ks)(h0:KeysOf κ ae){st:SortSt}(B:SB ks ae st)(e1:(pendingOf st)[i]?=some (sa,na,pw))(e2:(pendingOf st)[i+1]?=some (sa+na,nb,OR))(n1:1<=na)(n2:1<=nb)(hz:sa+na+nb<=ae.size)(s1:Ĵ κ (arrOf st) sa (sa+na))(s2:Ĵ κ (arrOf st) (sa+na) (sa+na+nb))(h:∀Ç,Mg κ ks ae st Ç sa (sa+na+nb) (((pendingOf st).setIfInBounds i (sa,na+nb,pw)).eraseIdxIfInBounds (i+1))->Q true Ç):wpS (model prog w) A E s (mergeAt' i) Q st:=by
 rw[NZ];refine Û (wpS_get ?_);rw[e1,e2];dsimp only;have kA:KeysOf κ (arrOf st):=keys_perm h0 B.pm;have hsz:(arrOf st).size=ae.size:=B.size;have iP:(arrOf st).toList.length=ae.size:=by rw[Ě,hsz]
 obtain⟨P,eP⟩:∃P,P=((pendingOf st).setIfInBounds i (sa,na+nb,pw)).eraseIdxIfInBounds (i+1):=⟨_,rfl⟩;rw[<-eP]at h⊢;have JY:∀{R:PUnit->SortSt->Prop},R ⟨⟩ (setPending st P)->wpS (model prog w) A E s (set (setPending st P):Sm PUnit) R st:=λhR=>by unfold wpS;rw[StateT.run_set];exact Ó ⟨rfl,hR⟩
 refine Û (JY ?_);obtain⟨gN,nI⟩:∃gN,gN=setPending st P:=⟨_,rfl⟩;have k1:kindOf gN=ks:=by rw[nI];exact B.kind
 have a1:arrOf gN=arrOf st:=by rw[nI]
 have p1:pendingOf gN=P:=by rw[nI]
 have f1:failedOf gN=none:=by rw[nI];exact B.ok
 rw[<-nI];have all:Ĵ κ (arrOf st) sa (sa+na+nb)->Mg κ ks ae st gN sa (sa+na+nb) P:=λsg=>⟨⟨k1,f1,by rw[a1];exact B.pm⟩,λk _=>by rw[a1],by rw[a1];exact sg,p1⟩;obtain⟨y,y1,y2,y3,y4⟩:=item kA (i:=sa+na) À;refine Û (bA y1 ?_);refine Û (fZ (κ:=κ) (kk:=key κ y) (hL gN k1) y2 À (λj hj=>?_) (λj j' T9 ui hb=>?_) λk kn kt kf=>?_);.obtain⟨p,q1,q2,q3,_⟩:=item kA (i:=sa+j) z03;exact⟨p,_,q1,q2,q3⟩
 .have mono:=s1 (sa+j) (sa+j') Ò À z03;have hb:(!κ.blt (key κ y) (KK κ (arrOf st) (sa+j')))=true:=hb;show(!κ.blt (key κ y) (KK κ (arrOf st) (sa+j)))=true;rw[Zaz]at hb⊢;exact KeyOrd.kle_trans mono hb
 .have Kb:∀j,sa<=j->j<sa+k->κ.kle (KK κ (arrOf st) j) (KK κ (arrOf st) (sa+na)):=λj j1 j2=>by have:=kt (j-sa) À;rw[show sa+(j-sa)=j by grind]at this;have this:(!κ.blt (key κ y) (KK κ (arrOf st) j))=true:=this;rw[Zaz]at this;rw[y3];exact this
  have Ua:∀j,sa+k<=j->j<sa+na->κ.kle (KK κ (arrOf st) (sa+na)) (KK κ (arrOf st) j):=λj j1 j2=>by have:=kf (j-sa) À À;rw[show sa+(j-sa)=j by lia]at this;have this:(!κ.blt (key κ y) (KK κ (arrOf st) j))=false:=this;rw[Bool.not_eq_false']at this;rw[y3];exact KeyOrd.kle_of_klt this
  dsimp only;by_cases AK:na-k=0
  .rw[Í (by simpa using AK)];refine ä (h gN (all λu v hu CO hv=>?_));by_cases c1:v<sa+na;.exact s1 u v hu CO c1
   .by_cases c2:u<sa+na;.exact KeyOrd.kle_trans (Kb u hu À) (s2 (sa+na) v (Ø _) À hv)
    .exact s2 u v À CO hv
  .rw[Ë (by simpa using AK)];rw[show sa+k+(na-k)-1=sa+na-1 by lia];obtain⟨x,x1,x2,x3,x4⟩:=item kA (i:=sa+na-1) z03;refine Û (bA x1 ?_);refine Û (fZ (κ:=κ) (kk:=key κ x) (hL gN k1) x2 À (λj hj=>?_) (λj j' T9 ui hb=>?_) λn nn nt nf=>?_);.obtain⟨p,q1,q2,q3,_⟩:=item kA (i:=sa+na+j) z03;exact⟨p,_,q1,q2,q3⟩
   .exact KeyOrd.klt_of_kle_of_klt (s2 (sa+na+j) (sa+na+j') Ò À À) hb
   .have Ub:∀j,sa+na<=j->j<sa+na+n->κ.kle (KK κ (arrOf st) j) (KK κ (arrOf st) (sa+na-1)):=λj j1 j2=>by have:=nt (j-(sa+na)) À;rw[show sa+na+(j-(sa+na))=j by lia]at this;rw[x3];exact KeyOrd.kle_of_klt this
    have OS:∀j,sa+na+n<=j->j<sa+na+nb->κ.kle (KK κ (arrOf st) (sa+na-1)) (KK κ (arrOf st) j):=λj j1 j2=>by have:=nf (j-(sa+na)) À z03;rw[show sa+na+(j-(sa+na))=j by lia]at this;rw[x3];exact this
    dsimp only;by_cases OT:n=0
    .rw[Í (by simpa using OT)];refine ä (h gN (all λu v hu CO hv=>?_));by_cases c1:v<sa+na;.exact s1 u v hu CO c1
     .by_cases c2:u<sa+na;.exact KeyOrd.kle_trans (s1 u (sa+na-1) hu z03 z03) (OS v À hv)
      .exact s2 u v À CO hv
    .rw[Ë (by simpa using OT)];obtain⟨X,eX⟩:∃X,X=(arrOf st).extract (sa+k) (sa+na):=⟨_,rfl⟩;obtain⟨Y,eY⟩:∃Y,Y=(arrOf st).extract (sa+na) (sa+na+n):=⟨_,rfl⟩;rw[<-eX,<-eY];have lX:X.toList=((arrOf st).toList.take (sa+na)).drop (sa+k):=by rw[eX,Hi.ext_cut]
     have lY:Y.toList=((arrOf st).toList.take (sa+na+n)).drop (sa+na):=by rw[eY,Hi.ext_cut]
     have zX:X.size=na-k:=by rw[<-Ě,lX,Zat,İ,iP];grind
     have zY:Y.size=n:=by rw[<-Ě,lY,Zat,İ,iP];lia
     have pA:=pw_of_seg kA À s1;have pB:=pw_of_seg kA z03 s2;have eA:=Er (l:=(arrOf st).toList) (i:=sa) (j:=sa+k) (k:=sa+na) (m:=sa+na) Ò À (Ø _) (by rw[iP];lia);have eB:=Er (l:=(arrOf st).toList) (i:=sa+na) (j:=sa+na+n) (k:=sa+na+nb) (m:=sa+na+nb) Ò z03 (Ø _) (by rw[iP];omega);have Ki:((arrOf st).toList.take (sa+na)).drop (sa+na)=[]:=Zau (by rw[İ];lia);have Kj:((arrOf st).toList.take (sa+na+nb)).drop (sa+na+nb)=[]:=Zau (by rw[İ];simp_all);rw[Ki,ļ,<-lX]at eA;rw[Kj,ļ,<-lY]at eB;obtain⟨A1,Kk⟩:∃A1,A1=((arrOf st).toList.take (sa+k)).drop sa:=⟨_,rfl⟩;obtain⟨B2,Kn⟩:∃B2,B2=((arrOf st).toList.take (sa+na+nb)).drop (sa+na+n):=⟨_,rfl⟩;rw[<-Kk]at eA;rw[<-Kn]at eB;rw[eA]at pA;rw[eB]at pB;obtain⟨Uc,pX,Ud⟩:=Ű.mp pA;obtain⟨pY,Ue,Ug⟩:=Ű.mp pB;have OU:∀z∈X.toList,∃j,sa+k<=j/\j<sa+na/\KK κ (arrOf st) j=key κ z:=λz fk=>by rw[lX]at fk;obtain⟨j,j1,j2,_,j4⟩:=Hi.take_key kA fk;exact⟨j,j1,j2,j4⟩
     have OV:∀z∈Y.toList,∃j,sa+na<=j/\j<sa+na+n/\KK κ (arrOf st) j=key κ z:=λz fk=>by rw[lY]at fk;obtain⟨j,j1,j2,_,j4⟩:=Hi.take_key kA fk;exact⟨j,j1,j2,j4⟩
     have Uh:∀z∈A1,∃j,sa<=j/\j<sa+k/\KK κ (arrOf st) j=key κ z:=λz fk=>by rw[Kk]at fk;obtain⟨j,j1,j2,_,j4⟩:=Hi.take_key kA fk;exact⟨j,j1,j2,j4⟩
     have OW:∀z∈B2,∃j,sa+na+n<=j/\j<sa+na+nb/\KK κ (arrOf st) j=key κ z:=λz fk=>by rw[Kn]at fk;obtain⟨j,j1,j2,_,j4⟩:=Hi.take_key kA fk;exact⟨j,j1,j2,j4⟩
     have TT:ī κ X Y:=⟨by rw[eX];exact wN kA _ _,by rw[eY];exact wN kA _ _,pX,pY⟩;have LL:kY κ X Y:=λz fk v hv=>by
      obtain⟨j,j1,j2,j3⟩:=OV z fk;obtain⟨j',CS,CU,xt⟩:=qC TT.ka hv;have ej:j'=X.size-1:=À;have e:KK κ X j'=KK κ (arrOf st) (sa+na-1):=by refine KK_congr ?_;rw[eX,Array.getElem?_extract,Í À];congr 1;lia
      show κ.kle (key κ z) (key κ v);rw[<-j3,<-xt,e];exact Ub j j1 j2
     have F0:∀v∈X.toList,∀z,Y[0]?=some z->leK κ z v:=λv hv z fk=>by
      obtain⟨j,j1,j2,j3⟩:=OU v hv;have ez:z=y:=by rw[eY,Array.getElem?_extract,Í À,Nat.add_zero,y1]at fk;exact(ĭ fk).symm
      show κ.kle (key κ z) (key κ v);rw[ez,<-y3,<-j3];exact Ua j j1 j2
     have FB:Hi.FirstB κ X Y:=λz fk v hv=>by obtain⟨j,j1,j2,j3⟩:=Hi.take_key0 TT.kb fk;obtain⟨q,q1,q2,q3,_⟩:=item TT.kb (i:=0) À;have e0:j=0:=À;rw[e0,q3]at j3;have:=F0 v hv q q1;unfold leK at this⊢;rw[<-j3];exact this
     have fin:∀m st2,SG gN st2->Rs κ X Y m->wpS (model prog w) A E s (do
 modify λs'=>setArr s' (over (arrOf s') (sa+k) m.toList)let s'<-get
       pure (failedOf s').isNone) Q st2:=λm st2 sg D=>by
      refine Û (wpS_modify (Û (wpS_get (ä ?_))));have ft:(failedOf (setArr st2 (over (arrOf st2) (sa+k) m.toList))).isNone=true:=by show(failedOf st2).isNone=true;rw[sg.fail,f1];rfl
      rw[ft];have am:arrOf st2=arrOf st:=sg.arr.trans a1;have lm:m.toList.length=na-k+n:=by rw[D.pm.length_eq,ý,Ě,Ě,zX,zY]
      have ol:(over (arrOf st) (sa+k) m.toList).toList=(arrOf st).toList.take (sa+k)++m.toList++(arrOf st).toList.drop (sa+na+n):=by rw[Ca (by rw[lm,hsz];grind),lm,show sa+k+(na-k+n)=sa+na+n by lia]
      have CY:(over (arrOf st) (sa+k) m.toList).toList.Perm (arrOf st).toList:=by
       rw[ol];have e:(arrOf st).toList=(arrOf st).toList.take (sa+k)++(X.toList++Y.toList)++(arrOf st).toList.drop (sa+na+n):=by rw[lX,lY];have c1:=Hi.cut_drop (l:=(arrOf st).toList) (t:=sa+na) (n:=sa+na+n) Ò (by rw[iP];lia);have c2:=Hi.cut_drop (l:=(arrOf st).toList) (t:=sa+k) (n:=sa+na) À (by rw[iP];lia);rw[Ŧ,Ŧ,c1,c2,Ϧ]
       conv=>rhs;rw[e]
       exact List.Perm.append_right _ (List.Perm.append_left _ D.pm)
      have nK:(over (arrOf st) (sa+k) m.toList).Perm (arrOf st):=Za9.mpr CY;have kO:KeysOf κ (over (arrOf st) (sa+k) m.toList):=keys_perm kA nK;have zO:(over (arrOf st) (sa+k) m.toList).size=ae.size:=nK.size_eq.trans hsz;have og:∀j,(over (arrOf st) (sa+k) m.toList)[j]?=if sa+k+0<=j/\j<sa+k+0+m.toList.length then m.toList[j-(sa+k+0)]? else(arrOf st)[j]?:=(uQ m.toList 0 (sa+k) (arrOf st) (by rw[lm,hsz];lia)).2;refine h _ ⟨⟨sg.kind.trans k1,by show failedOf st2=none;rw[sg.fail,f1],?_⟩,λj hj=>?_,?_,?_⟩;.show(over (arrOf st2) (sa+k) m.toList).Perm ae;rw[am];exact nK.trans B.pm
      .show(over (arrOf st2) (sa+k) m.toList)[j]?=_;rw[am,og j,Ë (by rw[lm];lia)]
      .show Ĵ κ (over (arrOf st2) (sa+k) m.toList) sa (sa+na+nb);rw[am];refine Cd kO (by rw[zO];exact hz) ?_;have cut:((over (arrOf st) (sa+k) m.toList).toList.take (sa+na+nb)).drop sa=A1++(m.toList++B2):=by
        rw[ol,Kk,Kn];have tl:((arrOf st).toList.take (sa+k)).length=sa+k:=by rw[İ,iP];lia
        rw[Ŧ,List.take_append,tl,Zah (l:=(arrOf st).toList.take (sa+k)) (by rw[tl];lia),List.take_append,lm,Zah (l:=m.toList) (by rw[lm];lia)];rw[List.drop_append_of_le_length (by rw[tl];simp)];congr 2;rw[List.drop_take];congr 1;grind
       rw[cut];refine Ű.mpr ⟨Uc,Ű.mpr ⟨D.sr,Ue,λu hu v hv=>?_⟩,λu hu v hv=>?_⟩
       .rcases Ą.mp (D.pm.mem_iff.mp hu)with c|c;.obtain⟨j,j1,j2,j3⟩:=OU u c;obtain⟨j',CS,CU,xt⟩:=OW v hv;show κ.kle (key κ u) (key κ v);rw[<-j3,<-xt];exact KeyOrd.kle_trans (s1 j (sa+na-1) z03 À (by grind)) (OS j' CS CU)
        .exact Ug u c v hv
       .obtain⟨j,j1,j2,j3⟩:=Uh u hu;rcases Ą.mp hv with c|c
        .rcases Ą.mp (D.pm.mem_iff.mp c)with c|c;.exact Ud u hu v c
         .obtain⟨j',CS,CU,xt⟩:=OV v c;show κ.kle (key κ u) (key κ v);rw[<-j3,<-xt];exact KeyOrd.kle_trans (Kb j j1 j2) (s2 (sa+na) j' (Ø _) CS À)
        .obtain⟨j',CS,CU,xt⟩:=OW v c;show κ.kle (key κ u) (key κ v);rw[<-j3,<-xt];exact KeyOrd.kle_trans (Kb j j1 j2) (s2 (sa+na) j' (Ø _) z03 CU)
      .show pendingOf st2=P;rw[sg.pend,p1]
     by_cases hc:na-k<=n;.rw[Í hc];exact Û (NB hL TT LL z03 À F0 k1 λm st2 sg D=>fin m st2 sg D)
     .rw[Ë hc];exact Û (Hi.hi_wp hL TT LL FB À À k1 λm st2 sg D=>fin m st2 sg D)
end
abbrev Run:=Nat×Nat×Nat
def Ch(κ:gV)(arr:Array Keyed):List Run->Nat->Nat->Prop|[],a,b=>a=b|r::l,a,b=>r.1=a/\1<=r.2.1/\Ĵ κ arr a (a+r.2.1)/\Ch κ arr l (a+r.2.1) b
theorem Ch.le:∀{l:List Run}{a b:Nat},Ch κ arr l a b->a+l.length<=b|[],a,b,h=>by have h:a=b:=h;simp[h];|r::l,a,b,h=>by have:=Ch.le h.2.2.2;have:=h.2.1;rw[ľ];lia
theorem Ch.split:∀{l1 l2:List Run}{a b:Nat},Ch κ arr (l1++l2) a b↔∃m,Ch κ arr l1 a m/\Ch κ arr l2 m b
 |[],l2,a,b=>⟨λh=>⟨a,rfl,h⟩,λhZ=>by obtain⟨m,h1,h2⟩:=hZ;rw[h1];exact h2⟩|r::l1,l2,a,b=>by
  constructor;.intro h;obtain⟨m,h1,h2⟩:=Ch.split.mp h.2.2.2;exact⟨m,⟨h.1,h.2.1,h.2.2.1,h1⟩,h2⟩
  .rintro⟨m,h1,h2⟩;exact⟨h1.1,h1.2.1,h1.2.2.1,Ch.split.mpr ⟨m,h1.2.2.2,h2⟩⟩
theorem wO(h:Ĵ κ arr a b)(e:∀k,a<=k->k<b->nN[k]?=arr[k]?):Ĵ κ nN a b:=λi j h1 h2 h3=>by rw[KK_congr (e i h1 À),KK_congr (e j À h3)];exact h i j h1 h2 h3
theorem Ch.same:∀{l:List Run}{a b:Nat},Ch κ arr l a b->(∀k,a<=k->k<b->nN[k]?=arr[k]?)->Ch κ nN l a b|[],_,_,h,_=>h|r::l,a,b,h,e=>by have:=Ch.le h.2.2.2;exact⟨h.1,h.2.1,wO h.2.2.1 λk k1 k2=>e k k1 À,h.2.2.2.same λk k1 k2=>e k À k2⟩
theorem Ce{p:Array Run}(h:i+1<p.size):((p.setIfInBounds i v).eraseIdxIfInBounds (i+1)).toList=p.toList.take i++v::p.toList.drop (i+2):=by
 have hl:p.toList.length=p.size:=Ě;have e1:(p.setIfInBounds i v).eraseIdxIfInBounds (i+1)=(p.setIfInBounds i v).eraseIdx (i+1) (by rw[Array.size_setIfInBounds];exact h):=by grind
 rw[e1,Array.toList_eraseIdx,Array.toList_setIfInBounds,List.eraseIdx_eq_take_drop_succ,List.take_set,List.drop_set,Í À];have e2:p.toList.take (i+1)=p.toList.take i++[p.toList[i]'À]:=by rw[ŋ,é À];rfl
 rw[e2,List.set_append_right _ _ (by rw[İ];grind)];rw[İ,show i-min i p.toList.length=0 by lia];simp
section
variable{ks:SortKind}
structure St(κ:gV)(ks:SortKind)(ae:Array Keyed)(st:SortSt)(lo:Nat):Prop where
 base:SB ks ae st
 ch:Ch κ (arrOf st) (pendingOf st).toList 0 lo
 le:lo<=ae.size
theorem wQ(hL:LtAll prog w A E s κ ks)(h0:KeysOf κ ae){st:SortSt}{lo i:Nat}(S:St κ ks ae st lo)(hi:i+1<(pendingOf st).size)(h:∀Ç,St κ ks ae Ç lo->(pendingOf Ç).size+1=(pendingOf st).size->(∀k,lo<=k->(arrOf Ç)[k]?=(arrOf st)[k]?)->Q true Ç):wpS (model prog w) A E s (mergeAt' i) Q st:=by
 have hl:(pendingOf st).toList.length=(pendingOf st).size:=Ě;have d1:(pendingOf st).toList.drop i=(pendingOf st).toList[i]'À::(pendingOf st).toList.drop (i+1):=Zbb À;have d2:(pendingOf st).toList.drop (i+1)=(pendingOf st).toList[i+1]'À::(pendingOf st).toList.drop (i+2):=Zbb z03;have g1:(pendingOf st)[i]?=some ((pendingOf st).toList[i]'À):=by rw[<-Zal,é À]
 have g2:(pendingOf st)[i+1]?=some ((pendingOf st).toList[i+1]'À):=by rw[<-Zal,é z03]
 obtain⟨⟨sa,na,pw⟩,ep⟩:∃r,r=(pendingOf st).toList[i]'À:=⟨_,rfl⟩;obtain⟨⟨sb,nb,OR⟩,eq⟩:∃r,r=(pendingOf st).toList[i+1]'À:=⟨_,rfl⟩;rw[<-ep]at d1 g1;rw[<-eq]at d2 g2;have c:=S.ch;rw[<-Ϧ i (pendingOf st).toList,d1,d2]at c;obtain⟨m,c1,c2⟩:=Ch.split.mp c;obtain⟨q1,q2,q3,q4,q5,q6,q7⟩:=c2;dsimp only at q1 q2 q3 q4 q5 q6 q7;subst q1;subst q4;have lb:=Ch.le q7;refine O4 hL h0 S.base g1 g2 q2 q5 (by have:=S.le;grind) q3 q6 λÇ M=>?_;have pl:(pendingOf Ç).toList=(pendingOf st).toList.take i++(sa,na+nb,pw)::(pendingOf st).toList.drop (i+2):=by rw[M.pend,Ce hi]
 refine h Ç ⟨M.base,?_,S.le⟩ ?_ λk hk=>M.out k (.inr À)
 .rw[pl];refine Ch.split.mpr ⟨sa,c1.same λk _ k2=>M.out k (.inl k2),rfl,by dsimp only;lia,?_,?_⟩;.dsimp only;rw[<-Nat.add_assoc];exact M.seg
  .dsimp only;rw[<-Nat.add_assoc];exact q7.same λk k1 _=>M.out k (.inr k1)
 .rw[<-Ě,pl,ý,ľ,İ,Zat];grind
def rest(z lo n:Nat):Sm (ForInStep (Option Unit×Nat)):=do let s<-get match(pendingOf s).back? with
 |some (s1,n1,_)=>do
 let c<-forIn [0:z] ((none,()):Option Unit×Unit) λ_ _=>do let s<-get match(if(pendingOf s).size>1 then(pendingOf s)[(pendingOf s).size-2]? else none)with|some (_,_,older)=>if older<=power' z (2*s1+n1) (2*s1+n1+n1+n) z then pure (ForInStep.done (none,()))else do let b<-mergeAt' ((pendingOf s).size-2)if(!b)=true then pure (ForInStep.done (some (),()))else pure (ForInStep.yield (none,()))|_=>pure (ForInStep.done (none,()))
  match c.1 with|some r=>pure (ForInStep.done (some r,lo))|none=>do modify λs=>setPending s ((pendingOf s).modify ((pendingOf s).size-1) λx=>(x.1,x.2.1,power' z (2*s1+n1) (2*s1+n1+n1+n) z))modify λs=>setPending s ((pendingOf s).push (lo,n,0))pure (ForInStep.yield (none,lo+n))
 |_=>do modify λs=>setPending s ((pendingOf s).push (lo,n,0))pure (ForInStep.yield (none,lo+n))
theorem Ch.pw(f:Run->Run)(hf:∀r,(f r).1=r.1/\(f r).2.1=r.2.1):∀{l:List Run}{a b i:Nat},Ch κ arr l a b->Ch κ arr (l.modify i f) a b|[],a,b,i,h=>by cases i<;>exact h;|r::l,a,b,0,h=>by obtain⟨e1,e2⟩:=hf r;refine⟨e1.trans h.1,by rw[e2];exact h.2.1,by rw[e2];exact h.2.2.1,?_⟩;rw[e2];exact h.2.2.2;|r::l,a,b,i+1,h=>⟨h.1,h.2.1,h.2.2.1,Ch.pw f hf h.2.2.2⟩
theorem St.push{st:SortSt}{lo n:Nat}(S:St κ ks ae st lo)(n1:1<=n)(hn:lo+n<=ae.size)(sg:Ĵ κ (arrOf st) lo (lo+n)):St κ ks ae (setPending st ((pendingOf st).push (lo,n,0))) (lo+n):=by refine⟨⟨S.base.kind,S.base.ok,S.base.pm⟩,?_,hn⟩;rw[Array.toList_push];exact Ch.split.mpr ⟨lo,S.ch,rfl,n1,sg,rfl⟩
theorem St.pw{st:SortSt}{lo i:Nat}(S:St κ ks ae st lo)(f:Run->Run)(hf:∀r,(f r).1=r.1/\(f r).2.1=r.2.1):St κ ks ae (setPending st ((pendingOf st).modify i f)) lo:=by refine⟨⟨S.base.kind,S.base.ok,S.base.pm⟩,?_,S.le⟩;rw[Array.toList_modify];exact S.ch.pw f hf
theorem Af(hL:LtAll prog w A E s κ ks)(h0:KeysOf κ ae){st:SortSt}{lo n x:Nat}(S:St κ ks ae st lo)(n1:1<=n)(hn:lo+n<=ae.size)(sg:Ĵ κ (arrOf st) lo (lo+n))(hx:x<=lo)(h:∀Ç,St κ ks ae Ç (lo+n)->Q (.yield (none,lo+n)) Ç):wpS (model prog w) A E s (rest ae.size lo n) Q st:=by unfold rest;refine Û (wpS_get ?_);cases(pendingOf st).back? with|none=>exact Û (wpS_modify (ä (h _ (S.push n1 hn sg))));|some q=>
  obtain⟨s1,Kt,p1⟩:=q;refine Û (wpS_mono (wpS_forRange (I:=λ_ c Ç=>c=(none,())/\St κ ks ae Ç lo/\Ĵ κ (arrOf Ç) lo (lo+n)) (Q:=λc Ç=>c=(none,())/\St κ ks ae Ç lo/\Ĵ κ (arrOf Ç) lo (lo+n)) ?_ (λ_ _ z=>z) ⟨rfl,S,sg⟩) ?_)
  .rintro y c Ç _ _⟨rfl,S',gT⟩;refine Û (wpS_get ?_);by_cases h1:(pendingOf Ç).size>1
   .rw[Í h1];have hl:(pendingOf Ç).size-2<(pendingOf Ç).size:=À;rw[Zao hl];dsimp only;split;.exact ä ⟨rfl,S',gT⟩
    .refine Û (wQ hL h0 S' À λst2 S2 _ o2=>?_);exact ä ⟨rfl,S2,wO gT λk k1 _=>o2 k k1⟩
   .rw[Ë h1];exact ä ⟨rfl,S',gT⟩
  .rintro c Ç⟨rfl,S',gT⟩;refine Û (wpS_modify (Û (wpS_modify (ä (h _ ?_)))));exact(S'.pw (λx=>(x.1,x.2.1,power' ae.size (2*s1+Kt) (2*s1+Kt+Kt+n) ae.size)) λ_=>⟨rfl,rfl⟩).push n1 hn gT
theorem ifl(c:Prop)[Decidable c](n:Nat):(if c then n-1 else n)<=n:=by split<;>simp
theorem runs_wp(hL:LtAll prog w A E s κ ks)(h0:KeysOf κ ae){st:SortSt}(B:SB ks ae st)(hp:pendingOf st=#[])(h:∀Ç,SB ks ae Ç->Ĵ κ (arrOf Ç) 0 ae.size->Q () Ç):wpS (model prog w) A E s sortRuns' Q st:=by
 rw[sortRuns'_eq];refine Û (wpS_get ?_);dsimp only;rw[B.size];generalize minRun' ae.size ae.size 0=mr;refine Û (wpS_mono (wpS_forRange (I:=λx c Ç=>c.1=none/\St κ ks ae Ç c.2/\x<=c.2) (Q:=λc Ç=>c.1=none/\St κ ks ae Ç ae.size) ?_ ?_ ⟨rfl,⟨B,by rw[hp];rfl,ħ _⟩,Ø _⟩) ?_)
 .rintro x⟨c0,lo⟩Ç _ hx⟨rfl,S,ff⟩;dsimp only at S ff⊢;by_cases mh:lo≥ae.size
  .rw[Í mh];have e:lo=ae.size:=by have:=S.le;grind
   refine ä ⟨rfl,?_⟩;rw[<-e];exact S
  .rw[Ë mh];refine Û (Eo hL h0 À z03 S.base λn gN B1 O1 n1 n2 OX=>?_);dsimp only;have S1:St κ ks ae gN lo:=⟨B1,by rw[O1.pend];exact S.ch.same λk _ k2=>O1.out k (.inl k2),S.le⟩;have tr:∀{m m':Sm (ForInStep (Option Unit×Nat))}{R:ForInStep (Option Unit×Nat)->SortSt->Prop}{st2:SortSt},m=m'->wpS (model prog w) A E s m' R st2->wpS (model prog w) A E s m R st2:=λe h=>e▸h;by_cases hm:n<mr;.rw[Í hm];refine Û (wpS_lift (wpAny_rule ⟨rfl,?_⟩));refine Û (Lg hL h0 À z03 B1 OX λst2 B2 O2 bP=>?_);rw[Ë Ù];refine tr ?_ (Af hL h0 ⟨B2,by rw[O2.pend];exact S1.ch.same λk _ k2=>O2.out k (.inl k2),S.le⟩ À À bP ff λip S3=>⟨rfl,S3,by dsimp only;lia⟩);.skip;unfold rest;refine bc rfl (funext λs=>?_);cases(pendingOf s).back? with|none=>rfl;|some q=>
      obtain⟨s1,n1,p⟩:=q;refine bc (fi (funext λx=>funext λc=>bc rfl (funext λs=>?_))) (funext λc=>?_);.generalize(if(pendingOf s).size>1 then(pendingOf s)[(pendingOf s).size-2]? else none)=o;cases o with|none=>rfl;|some r=>obtain⟨r1,r2,r3⟩:=r;exact ic rfl (bc rfl (funext λb=>rfl))
      .obtain⟨r,u⟩:=c;cases r<;>rfl
   .rw[Ë hm];refine tr ?_ (Af hL h0 S1 n1 À OX ff λip S3=>⟨rfl,S3,by dsimp only;lia⟩);.skip;unfold rest;refine bc rfl (funext λs=>?_);cases(pendingOf s).back? with|none=>rfl;|some q=>
      obtain⟨s1,n1,p⟩:=q;refine bc (fi (funext λx=>funext λc=>bc rfl (funext λs=>?_))) (funext λc=>?_);.generalize(if(pendingOf s).size>1 then(pendingOf s)[(pendingOf s).size-2]? else none)=o;cases o with|none=>rfl;|some r=>obtain⟨r1,r2,r3⟩:=r;exact ic rfl (bc rfl (funext λb=>rfl))
      .obtain⟨r,u⟩:=c;cases r<;>rfl
 .rintro⟨c0,lo⟩Ç⟨h1,S,h2⟩;dsimp only at h1 S h2⊢;have e:lo=ae.size:=by have:=S.le;lia
  rw[<-e];exact⟨h1,S⟩
 .rintro⟨c0,lo⟩Ç⟨h1,S⟩;dsimp only at h1;subst h1;dsimp only;have one:∀{Ç:SortSt},St κ ks ae Ç ae.size->(pendingOf Ç).size<=1->Ĵ κ (arrOf Ç) 0 ae.size:=λ{Ç}S hs=>by have c:=S.ch;rw[<-Ě]at hs;cases e:(pendingOf Ç).toList with|nil=>rw[e]at c;have c:0=ae.size:=c;intro i j _ _ h3;grind;|cons r l=>
    rw[e]at c hs;have l0:l=[]:=by simp_all
    rw[l0]at c;obtain⟨_,_,sg,c4⟩:=c;rw[c4]at sg;exact sg
  have p0:(pendingOf Ç).size<=ae.size:=by have:=Ch.le S.ch;rw[Ě]at this;lia
  refine Û (wpS_mono (wpS_forRange (I:=λx c st2=>c=(none,())/\St κ ks ae st2 ae.size/\(pendingOf st2).size+x<=ae.size) (Q:=λc st2=>c=(none,())/\St κ ks ae st2 ae.size/\(pendingOf st2).size<=1) ?_ ?_ ⟨rfl,S,z03⟩) ?_)
  .rintro x c st2 _ hx⟨rfl,S2,ma⟩;refine Û (wpS_get ?_);by_cases h1:(pendingOf st2).size<=1;.rw[Í h1];exact ä ⟨rfl,S2,h1⟩
   .rw[Ë h1];refine Û (wQ hL h0 S2 (Nat.lt_of_le_of_lt (Nat.succ_le_succ (ifl _ _)) (show(pendingOf st2).size-2+1<(pendingOf st2).size by lia)) λip S3 z3 _=>?_);rw[Ë Ù];exact ä ⟨rfl,S3,À⟩
  .rintro c st2⟨rfl,S2,ma⟩;exact⟨rfl,S2,À⟩
  .rintro c st2⟨rfl,S2,ma⟩;exact ä (h st2 S2.base (one S2 ma))
end
end Srt
namespace L2
open PySem PySem.Spec PyProof.Rows PySem.Calls
theorem uR:∀a:VV,HT.lexLt a a=false|[]=>rfl|x::xs=>by rw[HT.lexLt_cons,Í rfl];exact uR xs
theorem pJ:∀a b:VV,HT.lexLt a b=false->HT.lexLt b a=false->a=b
 |[],[],_,_=>rfl|[],_::_,h,_=>by cases h;|_::_,[],_,h=>by cases h;|x::xs,y::ys,h1,h2=>by
  rw[HT.lexLt_cons]at h1 h2;by_cases e:x=y;.subst e;rw[Í rfl]at h1 h2;rw[pJ xs ys h1 h2]
  .rw[Ë e]at h1;rw[Ë (Ne.symm e)]at h2;have h1:=of_decide_eq_false h1;have h2:=of_decide_eq_false h2;lia
theorem uT:∀a b c:VV,HT.lexLt a b=true->HT.lexLt b c=true->HT.lexLt a c=true
 |[],[],_,h,_=>by cases h;|[],_::_,[],_,h=>by cases h;|[],_::_,_::_,_,_=>rfl|_::_,[],_,h,_=>by cases h;|_::_,_::_,[],_,h=>by cases h;|x::xs,y::ys,z::zs,h1,h2=>by
  rw[HT.lexLt_cons]at h1 h2⊢;by_cases e1:x=y
  .subst e1;rw[Í rfl]at h1;by_cases e2:x=z;.subst e2;rw[Í rfl]at h2⊢;exact uT xs ys zs h1 h2
   .rw[Ë e2]at h2⊢;exact h2
  .rw[Ë e1]at h1;have h1:=ώ h1;by_cases e2:y=z;.subst e2;rw[Ë e1];exact è h1
   .rw[Ë e2]at h2;have h2:=ώ h2;rw[Ë z03];exact è À
theorem Ag(a b c:VV)(h:HT.lexLt a c=true):HT.lexLt a b=true\/HT.lexLt b c=true:=by cases e1:HT.lexLt a b with|true=>exact .inl rfl;|false=>cases e2:HT.lexLt b a with|true=>exact .inr (uT b a c e2 h);|false=>exact .inr (by rw[<-pJ a b e1 e2];exact h)
def Il(ads:ă)(row:Addr->VV):gV where α:=VV;blt:=HT.lexLt;irrefl:=uR;trans:=uT;negTrans:=Ag;total:=pJ;keyOf:=λu=>match u with|.ref a=>if ads.contains a=true then some (row a)else none|_=>none;dflt:=[]
section
open PySem.W
theorem Es:∀{ns ms:VV}{us vs:â}{i:Nat},Î (ns.map V.int) us->Î (ms.map V.int) vs->Q (HT.lexLt ns ms) s->KatLex prog w A true (decide (ns.length<ms.length)) Q (us.zip vs) i s
 |[],[],_,_,_,.nil,.nil,h=>h|[],_::_,_,_,_,.nil,.cons _ _,h=>by refine kat_nil ?_;exact h;|_::_,[],_,_,_,.cons _ _,.nil,h=>by refine kat_nil ?_;exact h;|x::ns,y::ms,_,_,i,.cons r1 t1,.cons r2 t2,h=>by
  obtain⟨k1,rfl⟩:=r1;obtain⟨k2,rfl⟩:=r2;rw[HT.lexLt_cons]at h;refine kat_cons (wpAny_eqBool_int ?_);by_cases e:x=y;.subst e;rw[Í rfl]at h;rw[show(x==x)=true from beq_self_eq_true x];refine kat_yes ?_;have:=Es (prog:=prog) (w:=w) (A:=A) (s:=s) (Q:=Q) (i:=i+1) t1 t2 h;rw[show decide ((x::ns).length<(x::ms).length)=decide (ns.length<ms.length)by rw[ľ,ľ];exact decide_eq_decide.mpr Ò];exact this
  .rw[Ë e]at h;rw[show(x==y)=false from beq_false_of_ne e];refine kat_no ?_;cases hi:(true&&i==0)with|true=>exact oneLt_int h;|false=>exact kat_one _ _ (lt_int h)
theorem Im(hx:s.heap.get? x=some ox)(dx:ox.data=.seq us.toArray nx)(hy:s.heap.get? y=some oy)(dy:oy.data=.seq vs.toArray ny)(r1:Î (ns.map V.int) us)(r2:Î (ms.map V.int) vs)(h:Q (HT.lexLt ns ms) s):wpAny (model prog w) A (keyLt' (tuples' true) (.ref x) (.ref y)) Q E s:=by refine kat_lt hx dx hy dy ?_;have l1:=r1.length;have l2:=r2.length;rw[Ý]at l1 l2;have:=Es (prog:=prog) (w:=w) (A:=A) (s:=s) (Q:=Q) (i:=0) r1 r2 h;rw[ć,ć,<-l1,<-l2];exact this
theorem Ip{R:â->Prop}(lst:s.heap.IsList l vs.toArray)(fits:vs.length<=sizeLine)(small:vs.length<2->R vs)(big:2<=vs.length->∀g,(∀b o,s.heap.get? b=some o->g.get? b=some o)->wpAny (model prog w) A.in1.in1 (keyKind' vs.toArray) (λκ s1=>s1={s with heap:=g}/\wpS (model prog w) A.in1.in1 (λ_ _=>False) {s with heap:=g} sortRuns' (λ_ st=>failedOf st=none/\∃out,(arrOf st).map (·.2)=List.toArray out/\R out) (SortSt.mk' κ (vs.toArray.zip vs.toArray) #[] 7 none)) (λ_ _=>False) {s with heap:=g})(len:∀out,R out->out.length=vs.length)(fin:∀out,R out->∀h2 c,(∀b o,s.heap.get? b=some o->h2.get? b=some o)->h2.get? (s.heap.objs.size+1)=some (seqObj "list" out.toArray c)->Q (.ref (s.heap.objs.size+1)) {s with heap:=h2}):wpAny (model prog w) A (call (.builtin "sorted") [.ref l]) Q E s:=by
 refine call_function_entry kind_sorted plain_sorted entry_sorted (args_sorted1 _) ?_;unfold Builtin.«sorted»;refine Ä (m:=checkCount "sorted" 1 1 _) (Ó (Ä (collect_list lst ?_ fits)));refine Ä (wpAny_newList ?_ fits);have nV:((s.heap.push (seqObj "list" #[] 0)).update s.heap.objs.size (Obj.mapSeq (·++vs.toArray))).objs.size=s.heap.objs.size+1:=by rw[Heap.size_update,Heap.size_push]
 obtain⟨g1,uj⟩:∃g1,g1=((s.heap.push (seqObj "list" #[] 0)).update s.heap.objs.size (Obj.mapSeq (·++vs.toArray))).push (seqObj "list" vs.toArray 0):=⟨_,rfl⟩;have nX:g1.get? (s.heap.objs.size+1)=some (seqObj "list" vs.toArray 0):=by rw[uj,<-nV];exact Ę _ rfl
 have Dx:∀b o,s.heap.get? b=some o->g1.get? b=some o:=λb o q=>by have lt:b<s.heap.objs.size:=í q;rw[uj,Heap.get?_push_ne _ _ _ (by rw[nV];exact ė (Nat.lt_succ_of_lt lt)),Heap.get?_update_ne _ _ _ _ (ė lt),Heap.get?_push_ne _ _ _ (ė lt)];exact q
 show wpAny _ _ _ _ _ {s with heap:=_};rw[nV,show((s.heap.push (seqObj "list" #[] 0)).update s.heap.objs.size (Obj.mapSeq (·++vs.toArray))).push (seqObj "list" vs.toArray 0)=g1 from uj.symm];refine Ä (wpAny_holding (wpAny_call_entry slot_list_sort ⟨_,nX,rfl⟩ entry_list_sort ?body (args_list_sort _)));obtain⟨D,eD⟩:∃D,D=s.heap.objs.size+1:=⟨_,rfl⟩;rw[<-eD]at nX fin⊢;have apart:∀b o,s.heap.get? b=some o->b≠D:=λb o q e=>by have lt:b<s.heap.objs.size:=í q;rw[e,eD]at lt;exact absurd lt (Nat.not_lt_of_le (Nat.le_succ _))
 obtain⟨g2,Kx⟩:∃g2,g2=g1.update D (Obj.mapSeq λ_=>(#[]:ĵ)):=⟨_,rfl⟩;have FX:Heap.SameBut D g1 g2:=Kx▸Heap.SameBut.update g1 D _;obtain⟨e1,at2⟩:∃e1,g2.get? D=some (seqObj "list" #[] e1):=⟨_,Kx▸get?_update_seq nX λ_=>#[]⟩;obtain⟨g3,KA⟩:∃g3,g3=(g2.push (seqObj "tuple" vs.toArray 0)).push (seqObj "list" #[] 0):=⟨_,rfl⟩;have AN:g3.get? D=some (seqObj "list" #[] e1):=KA▸ë _ (ë _ at2);have iq:∀b o,s.heap.get? b=some o->g3.get? b=some o:=λb o q=>KA▸ë _ (ë _ ((FX.2 b (apart b o q)).trans (Dx b o q)));rw[list_sort_plain];refine Ä (listItems_at nX rfl (Ä (listUpdate_at nX rfl ?_ (by rw[ć];exact fits) (ħ _))));rw[<-Kx];refine Ä (seqEpoch_at at2 rfl (Ä (wpAny_newTuple (Ä (wpAny_newList (wpAny_holding ?_) (ħ _))) fits)));rw[<-KA];dsimp only;by_cases two:vs.toArray.size<2
 .have xw:vs.length<2:=by rw[ć]at two;exact two
  rw[Í two,Í two];refine Ä (Ó ?_);refine Ä (Ó ?_);dsimp only;have em:(vs.toArray.zip vs.toArray).map (·.2)=vs.toArray:=by apply Array.toList_inj.mp;simp only[Array.toList_map,Array.toList_zip];exact List.map_snd_zip (Ø _)
  rw[em];refine Ä (seqEpoch_at AN rfl (Ä (listUpdate_at AN rfl ?_ (ħ _) (by rw[ć];lia))));simp only[bne_self_eq_false,Bool.false_eq_true,if_false];have KG:=Heap.SameBut.update g3 D (Obj.mapSeq λ_=>vs.toArray);exact Ó ⟨_,rfl,Ó ⟨_,rfl,fin vs (small xw) _ _ (λb o z=>(KG.2 b (apart b o z)).trans (iq b o z)) (get?_update_seq AN _)⟩⟩
 .have xw:2<=vs.length:=by rw[ć]at two;lia
  rw[Ë two,Ë two];refine Ä (wpAny_mono (big xw g3 iq) (λκ s1=>?_) λ_ _ x=>x.elim);rintro⟨nI,run⟩;subst nI;refine Ä (wpAny_mono run ?_ λ_ _ x=>x.elim);rintro⟨⟨⟩,st⟩s2⟨Ui,OY,out,DA,hR⟩;subst Ui;dsimp only at OY DA⊢;rw[DA];refine Ä (seqEpoch_at AN rfl (Ä (listUpdate_at AN rfl ?_ (ħ _) (by rw[ć,len out hR];lia))));rw[OY];simp only[bne_self_eq_false,Bool.false_eq_true,if_false];have KG:=Heap.SameBut.update g3 D (Obj.mapSeq λ_=>out.toArray);exact Ó ⟨_,rfl,Ó ⟨_,rfl,fin out hR _ _ (λb o z=>(KG.2 b (apart b o z)).trans (iq b o z)) (get?_update_seq AN _)⟩⟩
theorem qH{ads:ă}{row:Addr->VV}:∀{l:ă},(∀a∈l,∃(us:â)(o:Obj)(n:Nat),g.get? a=some o/\o.cls=.type "tuple"/\o.data=.seq us.toArray n/\Î ((row a).map V.int) us/\row a≠[])->∃fs,KatTups g (l.map Value.ref) fs/\fs.length=l.length/\∀v∈fs,∃i t,v=.int i t|[],_=>⟨[],.nil,rfl,λ_ h=>absurd h Ò⟩|a::l,h=>by obtain⟨us,o,n,h1,h2,h3,h4,h5⟩:=h a (.head _);obtain⟨fs,k,hl,hi⟩:=qH (ads:=ads) (row:=row) (l:=l) λb hb=>h b (.tail _ hb);cases er:row a with|nil=>exact absurd er h5;|cons i r=>rw[er]at h4;cases h4 with|cons r1 t1=>
    obtain⟨t,rfl⟩:=r1;refine⟨_,.cons h1 h2 h3 (f:=.int i t) Ò k,by rw[ľ,ľ,hl],λv hv=>?_⟩;rcases Ļ.mp hv with z|z;.exact⟨i,t,z⟩
    .exact hi v z
theorem Ir{l:ă}{row:Addr->VV}(obj:∀a∈l,∃(us:â)(o:Obj)(n:Nat),s.heap.get? a=some o/\o.cls=.type "tuple"/\o.data=.seq us.toArray n/\Î ((row a).map V.int) us/\row a≠[])(hl:0<l.length)(h:Q (tuples' true) s):wpAny (model prog w) A (keyKind' (l.map Value.ref).toArray) Q E s:=by obtain⟨fs,kt,fl,fi⟩:=qH (ads:=l) (row:=row) obj;refine PySem.W.kat_kind (T:=.type "int") kt (by rw[fl];exact hl) (λv hv=>?_) Ù h;obtain⟨i,t,rfl⟩:=fi v hv;exact .now
theorem yM{row:Addr->VV}(obj:∀a∈l,∃(us:â)(o:Obj)(n:Nat),s.heap.get? a=some o/\o.cls=.type "tuple"/\o.data=.seq us.toArray n/\Î ((row a).map V.int) us/\row a≠[]):Srt.LtAll prog w A E s (Il l row) (tuples' true):=λst hk x y a b Q' ka kb hQ=>by obtain⟨x1,x2⟩:=x;obtain⟨y1,y2⟩:=y;cases x1 with
 |ref xa=>cases y1 with|ref ya=>
   have ka:(if l.contains xa=true then some (row xa)else none)=some a:=ka;have kb:(if l.contains ya=true then some (row ya)else none)=some b:=kb;by_cases c1:l.contains xa=true
   .rw[Í c1]at ka;by_cases c2:l.contains ya=true;.rw[Í c2]at kb;cases ka;cases kb;obtain⟨Z9,o1,n1,g1,_,d1,r1,_⟩:=obj xa (by simpa using c1);obtain⟨us2,o2,n2,g2,_,d2,r2,_⟩:=obj ya (by simpa using c2);rw[lt'_eq];refine Û (wpS_get ?_);rw[hk];refine Û (wpS_lift (wpAny_attempt (Im g1 d1 g2 d2 r1 r2 ⟨rfl,?_⟩)));exact ä hQ
    .rw[Ë c2]at kb;cases kb
   .rw[Ë c1]at ka;cases ka;|_=>cases kb
 |_=>cases ka
theorem wR(l:ă):((l.map Value.ref).toArray.zip (l.map Value.ref).toArray).toList=l.map λa=>(Value.ref a,Value.ref a):=by grind
theorem tQ(l:ă)(row:Addr->VV):KeysOf (Il l row) ((l.map Value.ref).toArray.zip (l.map Value.ref).toArray):=λz fk=>by rw[wR]at fk;obtain⟨a,ha,rfl⟩:=Ā.mp fk;refine⟨row a,?_⟩;show(if l.contains a=true then some (row a)else none)=some (row a);rw[Í (by simpa using ha)]
def Et(p:Keyed):Addr:=match p.1 with|.ref a=>a|_=>0
theorem wU(h:a∈l):Srt.key (Il l row) (Value.ref a,Value.ref a)=row a:=by show(if l.contains a=true then some (row a)else none).getD []=row a;rw[Í (by simpa using h)];rfl
theorem Cg{row:Addr->VV}(obj:∀a∈l,∃(us:â)(o:Obj)(n:Nat),s.heap.get? a=some o/\o.cls=.type "tuple"/\o.data=.seq us.toArray n/\Î ((row a).map V.int) us/\row a≠[])(h:∀st(l':ă),failedOf st=none->(arrOf st).map (·.2)=List.toArray (l'.map Value.ref)->l'.Perm l->l'.Pairwise (λa b=>HT.lexLt (row b) (row a)=false)->Q () st):wpS (model prog w) A E s sortRuns' Q (SortSt.mk' (tuples' true) ((l.map Value.ref).toArray.zip (l.map Value.ref).toArray) #[] 7 none):=by
 refine Srt.runs_wp (κ:=Il l row) (ks:=tuples' true) (yM obj) (tQ l row) ⟨rfl,rfl,.refl _⟩ rfl λÇ B sg=>?_;have AO:=Za9.mp B.pm;rw[wR]at AO;have e:(arrOf Ç).toList=((arrOf Ç).toList.map Et).map (λa=>(Value.ref a,Value.ref a)):=by
  rw[zAr];conv=>lhs;rw[<-List.map_id (arrOf Ç).toList]
  refine List.map_congr_left λz fk=>?_;obtain⟨a,ha,rfl⟩:=Ā.mp (AO.mem_iff.mp fk);rfl
 have pm:((arrOf Ç).toList.map Et).Perm l:=by have:=AO.map Et;rw[zAr]at this;rw[show(Et∘λa=>(Value.ref a,Value.ref a))=id from rfl,List.map_id]at this;exact this
 generalize(arrOf Ç).toList.map Et=l' at e pm;refine h Ç l' B.ok ?_ pm ?_;.apply Array.toList_inj.mp;rw[Array.toList_map,e,zAr];rfl
 .have ka:=Srt.keys_perm (tQ l row) B.pm;have:=Srt.pw_of_seg ka (by rw[B.size];exact Ø _) sg;rw[List.drop_zero,<-B.size,<-Ě,Ľ,e,List.pairwise_map]at this;refine this.imp_of_mem λ{a b}ha hb hle=>?_;unfold Srt.leK at hle;rw[wU (pm.mem_iff.mp ha),wU (pm.mem_iff.mp hb)]at hle;exact hle
end
section
theorem tR:∀{l:ă}{us:â},Î (l.map V.ref) us->us=l.map Value.ref|[],_,.nil=>rfl|a::l,_,.cons r t=>by rw[tR t,show _=Value.ref a from r];rfl
theorem Ah:∀(l:ă),Î (l.map V.ref) (l.map Value.ref)|[]=>.nil|_::l=>.cons rfl (Ah l)
theorem Eu{α:Type}{R:α->α->Prop}:∀{l:List α},l.length<2->l.Pairwise R|[],_=>.nil|[_],_=>List.pairwise_singleton _ _|_::_::_,h=>absurd h Ò
theorem iJ:dH X (.builtin "sorted") (λxs H Q=>∃(p:Addr)(l:ă)(row:Addr->VV),xs=[.ref p]/\Ï X.K H p (l.map V.ref)/\(∀a∈l,Ì X.K H a ((row a).map V.int)/\row a≠[])/\∀(q:Addr)(l':ă),H q=none->q≠sysModules->l'.Perm l->l'.Pairwise (λa b=>HT.lexLt (row b) (row a)=false)->Q (.ref q) (upd H q (.lst (l'.map V.ref)))):=by
 intro Â s σ H xs us Q I r h;obtain⟨p,l,row,rfl,hp,xy,q⟩:=h;obtain⟨u,rfl,ru⟩:=þ r;cases ru;obtain⟨its,rv,pl,hz⟩:=I.list hp;have ei:=tR rv;subst ei;have hlen:(l.map Value.ref).length<=sizeLine:=by rw[Ý]at hz⊢;exact hz
 have obj:∀a∈l,∃(us:â)(o:Obj)(n:Nat),s.heap.get? a=some o/\o.cls=.type "tuple"/\o.data=.seq us.toArray n/\Î ((row a).map V.int) us/\row a≠[]:=λa ha=>by obtain⟨ht,gL⟩:=xy a ha;obtain⟨as,ra,pa,_⟩:=I.tuple ht;obtain⟨oa,ga,ca,na,da⟩:=pa;exact⟨as,oa,na,ga,ca,da,ra,gL⟩
 refine Ip (R:=λout=>∃l':ă,out=l'.map Value.ref/\l'.Perm l/\l'.Pairwise λa b=>HT.lexLt (row b) (row a)=false) pl.isList hlen (λhs=>⟨l,rfl,.refl _,?_⟩) (λhb g kp=>?_) (λout⟨l',e,pm,_⟩=>by rw[e,Ý,Ý,pm.length_eq]) λout⟨l',e,pm,pw⟩h2 c se at2=>?_;.rw[Ý]at hs;exact Eu hs
 .have DB:∀a∈l,∃(us:â)(o:Obj)(n:Nat),g.get? a=some o/\o.cls=.type "tuple"/\o.data=.seq us.toArray n/\Î ((row a).map V.int) us/\row a≠[]:=λa ha=>by obtain⟨us,o,n,h1,h2⟩:=obj a ha;exact⟨us,o,n,kp _ _ h1,h2⟩
  refine Ir (s:={s with heap:=g}) DB (by rw[Ý]at hb;lia) ?_;refine⟨rfl,Cg (s:={s with heap:=g}) DB λst l' e1 e2 e3 e4=>⟨e1,l'.map Value.ref,e2,l',rfl,e3,e4⟩⟩
 .subst e;exact⟨.ref (s.heap.objs.size+1),_,I.laid (t':=s.toks) se (Nat.le_succ _) (show Ö X.prog X.w _ h2 _ (.lst (l'.map V.ref))from⟨by rw[Ý,pm.length_eq];rw[Ý]at hz;exact hz,_,c,Ah l',at2⟩),rfl,q _ l' (I.hok.fresh (Nat.le_succ _)) (ϗ (ĸ I.big (Nat.le_succ _))) pm pw⟩
theorem uU:dH X (.builtin "sorted") (λxs H Q=>∃(p:Addr)(l:ă)(row:Addr->VV),xs=[.ref p]/\Ï X.K H p (l.map V.ref)/\(∀a∈l,Ì X.K H a ((row a).map V.int)/\row a≠[])/\∀(q:Addr)(l':ă),H q=none->l'.Perm l->l'.Pairwise (λa b=>HT.lexLt (row b) (row a)=false)->Q (.ref q) (upd H q (.lst (l'.map V.ref)))):=by intro Â s σ H xs us Q I r h;obtain⟨p,l,row,e,hp,xy,q⟩:=h;exact iJ Â s σ H xs us Q I r ⟨p,l,row,e,hp,xy,λq' l' a _ b c=>q q' l' a b c⟩
end
theorem Ci:typeLookup (.type "list") "keys"=pure none:=by rw[typeLookup_type];kernel_rfl
theorem Cj(hx:s.heap.get? a=some {cls:=.type "list",data:=.seq xs k})(hA:A.handled=none)(h:∀h' tk,(∀b o,s.heap.get? b=some o->h'.get? b=some o)->Q none {s with heap:=h',toks:=tk}):wpAny (model prog w) A (getAttr? (.ref a) "keys") Q E s:=by
 obtain⟨hp,g,d,tk,os⟩:=s;have hT:∀AQ,(⟨hp,g,d,AQ,os⟩:Shared).TypeIs (.ref a) "list":=λ_=>⟨_,hx,rfl⟩;have f1:=sub_AttributeError;have f3:=F.slot_list_getattribute.lookup;have f4:=F.slot_list_getattribute.bind (.ref a);have f5:=am_list_getattr_none;repeat(any_goals(first|assumption|exact hT _|((with_reducible show wpAny _ _ (call (Value.builtin "list.__getattribute__") _ _) _ _ _);refine call_meets F.slot_list_getattribute (hT _) am_entry_list_getattribute (F.args_list_getattribute_2 _ _) (meets_getattribute_miss_list a xs k #[] "keys" _ Ci Ε (by size_fits)) ⟨hx,hA,λh' AQ e dv=>?_⟩)|wp_step))
 obtain⟨t',u',he⟩:=dv.there;unfold getattributeRaised;repeat(any_goals(first|assumption|wp_step))
 exact h _ _ dv.keeps
theorem tU:entryFor table "dict.update.loop"=some Builtin.«dict.update.loop»:=entryFor_of_tree (by kernel_rfl)
theorem tV:plainId "dict.update.loop"=true:=by decide+kernel
theorem tW(args:Args):(Code.builtin "dict.update.loop" args).quiet=true:=Code.quiet_builtin _ Ε
theorem Ck{K:Type}[DecidableEq K]{knd:PySem.KeyKind prog w K}{d it l:Addr}{its:â}{more:List (K×Value)}(hh:A.in1.handled=none)(KI:d≠it)(Uj:l≠it)(Uk:l≠d)(FY:more.length=its.length):∀(rest i:Nat)(s:Shared)(kvs:List (K×Value))(tk:Tok),its.length-i=rest->i<=its.length->s.heap.IsListIter it l i->s.heap.IsList l its.toArray->s.heap.DictOf knd d kvs->kvs.length+rest<=sizeLine->(∀j,i<=j->j<its.length->∃a c key k v,its[j]?=some (.ref a)/\a≠d/\a≠it/\(∃o,s.heap.get? a=some o/\o.cls=.type "tuple"/\o.data=.seq #[key,v] c)/\more[j]?=some (k,v)/\knd.is k key=true)->(∀h' AQ,h'.DictOf knd d ((more.drop i).foldl (λa kv=>stored a kv.1 kv.2) kvs)->(∀b o,b≠d->b≠it->s.heap.get? b=some o->h'.get? b=some o)->R (.ok (.ret .none)) {s with heap:=h',toks:=AQ})->codeAny (model prog w) A (.builtin "dict.update.loop" ⟨[.ref d,.ref it,.int i tk,.none],[]⟩) R s:=by intro rest;induction rest with|zero=>intro i s kvs tk hr hi st ls dd hz rows fin;have qr:i=its.length:=À;refine codeAny_builtin tU ?_;rw[Around.under_plainId tV _];refine Ä (wpAny_pyNext_list_end hh st ls (by simp[qr]) λh' eb=>?_);refine Ä (Ó (Ó ?_));refine fin h' s.toks ?_ λb o hb DC e=>eb b o DC e;rw[Zau À];exact dd.extBut eb KI;|succ rest ih=>
  intro i s kvs tk hr hi st ls dd hz rows fin;obtain⟨a,c,key,k,v,hx,KL,F2,⟨o,ho,hc,ko⟩,hm,hk⟩:=rows i (Ø _) À;refine codeAny_builtin tU ?_;rw[Around.under_plainId tV _];show wpAny _ A.in1 (pyNext (.ref it)>>=_) _ _ s;refine Ä (wpAny_pyNext_list_item st ls (x:=.ref a) (by simpa using hx) λh' Ç sb=>?_);have ij:h'.get? a=some o:=(sb.2 a F2).trans ho;dsimp only;refine Ä (wpAny_holding ?_);refine Ä (wpAny_tryCatch ?_);unfold Builtin.Dict.pairItems;refine Ä (wpAny_typeOf (s:={s with heap:=h'}) (T:="tuple") ⟨_,ij,hc⟩ ?_);rw[Í Ù];refine Ä (wpAny_seqItems (s:={s with heap:=h'}) ij ko (Ó ?_));refine wpAny_holding (wpAny_dictSet_pairs (s:={s with heap:=h'}) (kvs:=kvs) hk (dd.sameBut sb KI) (λh2 nv FX=>?_) À);refine Ó ⟨tW _,?_⟩;have e1:more.drop i=(k,v)::more.drop (i+1):=by have av:i<more.length:=(ġ.mp hm).1;rw[Zbb av,(ġ.mp hm).2]
  have kp:∀b o,b≠d->b≠it->s.heap.get? b=some o->h2.get? b=some o:=λb o h1 h3 e=>(FX.2 b h1).trans ((sb.2 b h3).trans e);have ec:((i:Int)+1)=((i+1:Nat):Int):=Ò;rw[ec];have lst:=(stored_length_le kvs k v);refine ih (i+1) {s with heap:=h2,toks:=s.toks+1} (stored kvs k v) 0 z03 À (Ç.at λo e=>(FX.2 it KI.symm).trans e) (let⟨o,e,r⟩:=ls;⟨o,kp l o Uk Uj e,r⟩) nv z03 (λj hj KO=>?_) (λh3 Ul Um iq=>?_);.obtain⟨a,c,key,k,v,hx,KL,F2,⟨o,ho,hc,ko⟩,hm,hk⟩:=rows j À KO;exact⟨a,c,key,k,v,hx,KL,F2,⟨o,kp a o KL F2 ho,hc,ko⟩,hm,hk⟩
  .refine fin h3 Ul ?_ λb o h1 h4 e=>iq b o h1 h4 (kp b o h1 h4 e);rw[e1];exact Um
theorem qI{K:Type}[DecidableEq K]{knd:PySem.KeyKind prog w K}{l:Addr}{its:â}{c:Nat}{more:List (K×Value)}{Q:Tc}(hA:A.handled=none)(ho:s.heap.get? l=some {cls:=.type "list",data:=.seq its.toArray c})(FY:more.length=its.length)(hz:its.length<=sizeLine)(rows:∀j,j<its.length->∃a c key k v,its[j]?=some (.ref a)/\(∃o,s.heap.get? a=some o/\o.cls=.type "tuple"/\o.data=.seq #[key,v] c)/\more[j]?=some (k,v)/\knd.is k key=true)(h:∀h' tk,h'.DictOf knd s.heap.objs.size (more.foldl (λa kv=>stored a kv.1 kv.2) [])->(∀b o,s.heap.get? b=some o->h'.get? b=some o)->Q (.ref s.heap.objs.size) {s with heap:=h',toks:=tk}):wpAny (model prog w) A (call (.type "dict") [.ref l]) Q E s:=by
 refine callType_codes (Q₁:=λobj s₁=>obj=.ref s.heap.objs.size/\s₁={s with heap:=s.heap.push {cls:=.type "dict",data:=.dict #[]}}) F.kt_called_dict (F.kt_typeCall_dict_1 _) F.entry_dict_init (kt_code_dict_new _ ⟨rfl,rfl⟩) ?_;rintro obj s₁⟨rfl,rfl⟩;have gE:(s.heap.push {cls:=.type "dict",data:=.dict #[]}).DictOf knd s.heap.objs.size []:=Heap.DictOf.new s.heap;obtain⟨g1,uj⟩:∃g1,g1=s.heap.push {cls:=.type "dict",data:=.dict #[]}:=⟨_,rfl⟩;have Dx:∀b o,s.heap.get? b=some o->g1.get? b=some o:=λb o e=>by rw[uj];exact ë _ e
 rw[<-uj]at gE⊢;refine⟨gE.typeIs,F.args_dict_init_2 _ _,?_⟩;unfold Builtin.«dict.__init__»;refine Ä ?_;unfold Builtin.Dict.selfAndRest;refine Ä (wpAny_notOrdered_dict gE.typeIs ?_);show wpAny _ _ (pure (s.heap.objs.size,[Value.ref l])) _ _ _;refine Ó ?_;show wpAny _ _ (Builtin.Dict.updateFrom "dict.__init__" s.heap.objs.size (.ref l) [] .none) _ _ _;unfold Builtin.Dict.updateFrom;refine Ä (wpAny_typeOf (s:={s with heap:=g1}) (T:="list") ⟨_,Dx _ _ ho,rfl⟩ ?_);rw[Í Ù];refine Ä (Cj (s:={s with heap:=g1}) (Dx _ _ ho) (by simp[hA]) λh2 OZ se=>?_);refine Ä (wpAny_rule ?_);have xA:∀b o,s.heap.get? b=some o->h2.get? b=some o:=λb o e=>se b o (Dx b o e);have cy:h2.IsList l its.toArray:=⟨_,xA _ _ ho,rfl,_,rfl⟩;refine Ä (wpAny_pyIter_list (s:={s with heap:=h2,toks:=OZ}) cy ?_);have nv:h2.DictOf knd s.heap.objs.size []:=by obtain⟨o,es,ep,e,r⟩:=gE;exact⟨o,es,ep,se _ _ e,r⟩
 have F3:s.heap.objs.size<h2.objs.size:=by obtain⟨o,es,ep,e,r⟩:=nv;exact í e
 have O0:l<s.heap.objs.size:=í ho;refine Ó ⟨tW _,?_⟩;obtain⟨h3,AR⟩:∃h3,h3=h2.push {cls:=.type "list_iterator",data:=.fields #[.ref l,.int 0 0]}:=⟨_,rfl⟩;have iq:∀b o,h2.get? b=some o->h3.get? b=some o:=λb o e=>by rw[AR];exact ë _ e
 have ip:h3.IsListIter h2.objs.size l 0:=by rw[AR];exact⟨_,Ę _ rfl,rfl,rfl⟩
 rw[<-AR];refine Ck (knd:=knd) (its:=its) (more:=more) (by simp[hA]) (ė F3) (ė (Nat.lt_trans O0 F3)) (ė O0) FY its.length 0 {s with heap:=h3,toks:=OZ} [] 0 Ò (ħ _) ip (let⟨o,e,r⟩:=cy;⟨o,iq l o e,r⟩) (let⟨o,es,ep,e,r⟩:=nv;⟨o,es,ep,iq _ _ e,r⟩) (by simpa using hz) (λj _ hj=>?_) λh' AQ AJ Uo=>?_;.obtain⟨a,c,key,k,v,hx,⟨o,ho,hc,ko⟩,hm,hk⟩:=rows j hj;have Pc:a<s.heap.objs.size:=í ho;exact⟨a,c,key,k,v,hx,ė Pc,ė (Nat.lt_trans Pc F3),⟨o,iq _ _ (xA _ _ ho),hc,ko⟩,hm,hk⟩
 .exact⟨rfl,h h' AQ AJ λb o e=>Uo b o (ė (í e)) (ė (Nat.lt_trans (í e) F3)) (iq _ _ (xA _ _ e))⟩
theorem KV.fold:∀{more:List (Key×V)}{rs:List (Key×Value)}{kvs:List (Key×V)}{vs:List (Key×Value)},KV more rs->KV kvs vs->KV (lC kvs more) (rs.foldl (λa kv=>stored a kv.1 kv.2) vs):=by intro more rs kvs vs r;induction r generalizing kvs vs with|nil=>intro q;exact q;|@cons p q ps qs h t ih=>
  intro r0;have e:KV (ā kvs p.1 p.2) (stored vs q.1 q.2):=by have:=r0.put p.1 h.2;rw[<-h.1];exact this
  exact ih e
section
theorem Ai{σ:St}(I:Æ X Â σ H s):∀(kvs:List (Key×V))(l:ă),(∀(j:Nat)(kv:Key×V),kvs[j]?=some kv->∃a,l[j]?=some a/\H a=some (.tup [kV kv.1,kv.2]))->∃rs:List (Key×Value),KV kvs rs/\rs.length=kvs.length/\∀(j:Nat)(k:Key)(v:Value),rs[j]?=some (k,v)->∃a c key,l[j]?=some a/\(∃o,s.heap.get? a=some o/\o.cls=.type "tuple"/\o.data=.seq #[key,v] c)/\(cg X.prog X.w).is k key=true
 |[],l,_=>⟨[],.nil,rfl,λj k v h=>by simp at h⟩|(k,v)::kvs,l,h=>by
  obtain⟨a,h1,h2⟩:=h 0 (k,v) rfl;obtain⟨_,its,rv,o,ho,hc,c,hd⟩:=(I.hok a _ h2);obtain⟨u1,u2,rfl,r1,r2⟩:=Ő rv;obtain⟨b,l,rfl⟩:∃b l',l=b::l':=by cases l with|nil=>simp at h1;|cons b l=>exact⟨b,l,rfl⟩
  have e:b=a:=by simpa using h1
  subst e;obtain⟨rs,hk,hl,hr⟩:=Ai I kvs l λj kv hj=>h (j+1) kv (by simpa using hj);refine⟨(k,u2)::rs,.cons ⟨rfl,r2⟩ hk,by simp[hl],λj k' v' hj=>?_⟩
  cases j with|zero=>
   have e:(k,u2)=(k',v'):=by simpa using hj
   cases e;exact⟨b,c,u1,rfl,⟨o,ho,hc,hd⟩,wu r1⟩;|succ j=>obtain⟨a,c,key,z1,z2,z3⟩:=hr j k' v' (by simpa using hj);exact⟨a,c,key,by simpa using z1,z2,z3⟩
theorem qJ(hc:X.calm=true):dH X (.type "dict") (λxs H Q=>∃(p:Addr)(l:ă)(kvs:List (Key×V)),xs=[.ref p]/\H p=some (.lst (l.map V.ref))/\kvs.length=l.length/\(∀(j:Nat)(kv:Key×V),kvs[j]?=some kv->∃a,l[j]?=some a/\H a=some (.tup [kV kv.1,kv.2]))/\∀q,H q=none->q≠sysModules->Q (.ref q) (upd H q (.dK (lC [] kvs)))):=by
 intro Â s σ H xs us Q I r h;obtain⟨p,l,kvs,rfl,hp,hl,rows,q⟩:=h;obtain⟨u,rfl,ru⟩:=þ r;cases ru;obtain⟨z,its,n,rv,hlen,e⟩:=I.lstM hp;rw[Ý]at hlen z;obtain⟨rs,Up,hrl,KP⟩:=Ai I kvs l rows;refine qI (knd:=cg X.prog X.w) (its:=its) (more:=rs) (I.ok.hd hc) e À À (λj hj=>?_) λh' tk dd kp=>?_;.obtain⟨⟨k,v⟩,Pd⟩:∃x,rs[j]?=some x:=⟨_,é À⟩;obtain⟨a,c,key,z1,z2,z3⟩:=KP j k v Pd;obtain⟨u,hu,ru⟩:=rv.get (x:=.ref a) (i:=j) (by rw[ģ,z1];rfl);cases ru;exact⟨a,c,key,k,v,hu,z2,Pd,z3⟩
 .have hn:H s.heap.objs.size=none:=I.hok.fresh (Ø _);have ns:s.heap.objs.size≠sysModules:=Ne.symm (ė I.big);refine⟨.ref s.heap.objs.size,_,I.laid (a:=s.heap.objs.size) (o:=.dK (lC [] kvs)) (t':=tk) kp (Ø _) (DW ?_ (beq_eq_false_iff_ne.mpr ns) (KV.fold Up .nil) dd),rfl,q _ hn ns⟩;have:=kI kvs [];rw[List.length_nil]at this;lia
def Itq(x:Str):It:=⟨λi _=>i<x.cps.size,λi H v H'=>H'=H/\∃c,x.cps[i]?=some c/\v=.str ⟨#[c]⟩,λi _=>x.cps.size<=i⟩
theorem Ex{K:Frag}(x:Str)(t:Tok)(it:Addr):š P w K tg (Itq x) [it] it (λi h=>h.IsStrIter it "str_ascii_iterator" x t i)where
 mem:=by simp
 obj:=λi h st b hb=>by
  have e:b=it:=by simpa using hb
  subst e;obtain⟨o,e,c,d⟩:=st;exact⟨o,e,λv z=>by rw[d]at z;cases z⟩
 keep:=λi h h' st k=>by obtain⟨o,e,r⟩:=st;exact⟨o,k it Ò o e,r⟩
 item:=by intro X hP hw hK hc i Â s σ H E I hf st hg;subst hP hw hK;have hg:i<x.cps.size:=hg;obtain⟨f0,f1,f2,f3,f4,f5⟩:=hf it Ò;have hx:x.cps[i]?=some x.cps[i]:=Zao hg;refine wpAny_pyNext_ascii_item st hx λh' Ç sb=>?_;have I1:Æ X Â σ H {s with heap:=h',toks:=s.toks+1}:=I.turned (t':=s.toks+1) (λb o hb e=>(sb.2 b hb).trans e) f0 f1 f3 f4 f5;obtain⟨o,e,c,d⟩:=id Ç;exact⟨_,rfl,vQ (s:={s with heap:=h',toks:=s.toks+1}) e c d Ù ⟨.str ⟨#[x.cps[i]]⟩,H,I1,⟨_,rfl⟩,⟨rfl,_,hx,rfl⟩,Ç,λb hb=>(hf b hb).1⟩⟩
 done:=by intro X hP hw hK hc i Â s σ H E I hf st hg;subst hP hw hK;have hg:x.cps.size<=i:=hg;obtain⟨f0,f1,f2,f3,f4,f5⟩:=hf it Ò;exact wpAny_pyNext_ascii_end (I.ok.hd hc) st (Array.getElem?_eq_none hg) λh' eb=>⟨rfl,I.turned (t':=s.toks) (λb o hb e=>eb b o hb e) f0 f1 f3 f4 f5⟩
 self:=λ_ _ _ _ _ st h=>wpAny_pyIter_striter_ascii st h
def O6(tl:TE):TI:=λσ H R=>tl σ H λv H1=>∃x,v=.str x/\x.cps.all (·<128)=true/\R (Itq x) H1
theorem Lh(hl:PE X l tl):PI X tg l (O6 tl):=by
 intro Â s σ H R I h;refine Ú (hl Â s σ H _ I h) λv s1=>?_;rintro⟨x,H1,I1,r1,q1⟩;obtain⟨x,e,ha,q⟩:=q1;subst e;obtain⟨t,rfl⟩:=r1;refine wpAny_pyIter_ascii ha ?_;refine⟨s1.heap.objs.size,[s1.heap.objs.size],_,_,H1,rfl,I1.kept (t':=s1.toks) λb o e=>ë _ e,Ex x t _,⟨_,Ę _ rfl,rfl,rfl⟩,λb hb=>?_,q⟩;have e:b=s1.heap.objs.size:=by simpa using hb
 subst e;exact I1.fpOk (Ø _) (I1.hok.fresh (Ø _))
end
inductive ϲ(x:V)(y:V)(H:Hp)(Q:VK):Prop|mk:∀l k xs,(x=.ref l)->(y=.int k)->(H l=some (.lst xs))->(-(2^63)<=k)->(k<2^63)->(xs.length*k.toNat<=sizeLine)->(∀p,H p=none->p≠sysModules->Q (.ref p) (upd H p (.lst (List.replicate k.toNat xs).flatten)))->ϲ  x y H Q
def O7:R2:=λx y H Q=>ϲ  x y H Q
theorem pK:Ċ X (binaryOp .Mult) O7:=by
 intro Â s σ H x y v u Q I rx ry h;obtain⟨l,k,xs,rfl,rfl,hH,h1,h2,hz,q⟩:=h;cases rx;obtain⟨t,rfl⟩:=ry;obtain⟨z,its,n,r,hl,e⟩:=I.lstM hH;have hlen:its.toArray.size*k.toNat<=sizeLine:=by rw[ć,<-hl];exact hz
 have wm:¬its.toArray.size*k.toNat>(2^63-1)/8:=by
  have:(sizeLine:Nat)<=(2^63-1)/8:=by decide
  grind
 have wo:¬(!Builtin.List.listFitsIndex k)=true:=by rw[fitsIndex_both h1 h2];exact Ō
 have fe:¬Builtin.List.listTooLong (its.toArray.size*k.toNat)=true:=by rw[lV hlen];exact Ō
 have gE:List.foldl (λx1 x2=>x1++x2) #[] (List.replicate (if its.toArray.isEmpty=true then 0 else k.toNat) its.toArray)=(List.replicate k.toNat its).flatten.toArray:=by
  have f0:∀m:Nat,List.foldl (λx1 x2=>x1++x2) #[] (List.replicate m its.toArray)=(List.replicate m its).flatten.toArray:=λm=>by have:=č its m [];rw[List.nil_append]at this;exact this
  rw[f0];cases its with|nil=>simp;|cons a r'=>rw[Ë Ò]
 refine wpAny_binaryOp_repeat_ref (T:="list") (U:="int") Ù ⟨_,e,rfl⟩ (λs'=>typeIs_int s' k t) noFill_list_mul F.fills_int_mul F.slot_int_rmul repeat_list F.slot_int_index.lookup (call_meets F.slot_int_rmul (typeIs_int s k t) F.entry_int_rmul (F.args_int_rmul_2 _ _) (int___rmul___int_list k t l its.toArray n) ⟨e,rfl,⟨_,e,rfl⟩,call_meets F.slot_list_mul ⟨_,e,rfl⟩ F.entry_list_mul (F.args_list_mul_2 _ _) (AutoListH.list___mul___list_int_3 l its.toArray n k t wo wm fe) ⟨e,?_⟩⟩);rw[gE];exact⟨.ref _,_,I.lnew (t':=s.toks) (r.rep k.toNat) (by rw[Ŀ,Nat.mul_comm];exact hz),rfl,q _ I.fresh (ϗ I.big)⟩
theorem Cm(ha:s.TypeIs a "list")(hb:s.TypeIs b "list")(hc:wpAny M A (call (.builtin "list.__iadd__") [a,b]) Q E s):wpAny M A (inplaceOp .Add a b) Q E s:=by
 unfold inplaceOp;refine wpAny_holding ?_;have hl:typeLookup (.type "list") (dunderI "add")=pure (some (.builtin "list.__iadd__")):=F.slot_list_iadd.lookup;have Uq:fillsInplaceSlot (.type "list") "add" (Operator.Add==.Add)=pure false:=by
  unfold fillsInplaceSlot;show(typeLookup (.type "list") (dunderI "add")>>=λfi=>pure (fi.isSome&&!isSeqSlot fi))=pure false;rw[hl];have:isSeqSlot (some (.builtin "list.__iadd__"))=true:=by decide+kernel
  show(pure (true&&!isSeqSlot (some (.builtin "list.__iadd__"))):Sem Bool)=_;rw[this];rfl
 have Pe:seqSlot? (.type "list") (dunderI "add")=pure (some (.builtin "list.__iadd__")):=PySem.seqSlot_of F.slot_list_iadd.lookup Ε;refine Ä (wpAny_typeOf ha (Ä (wpAny_of_eq Uq ?_)));show wpAny M A (if false=true then _ else _) Q E s;rw[Ë Ō];refine Ä (wpAny_binaryOp1_none (nm:="add") ha hb noFill_list_add ?_);refine Ä (wpAny_of_eq Pe ?_);exact Ä (wpAny_rule hc)
inductive ϳ(x:V)(y:V)(H:Hp)(Q:VK):Prop|mk:∀l b xs zs,(x=.ref l)->(y=.ref b)->(H l=some (.lst xs))->(H b=some (.lst zs))->(xs.length+zs.length<=sizeLine)->(Q (.ref l) (upd H l (.lst (xs++zs))))->ϳ  x y H Q
def O8:TIp:=λx y H Q=>ϳ  x y H Q
theorem nZ:PIp X .Add O8:=by
 intro Â s σ H x y v u Q I rx ru h;obtain⟨l,b,xs,zs,rfl,rfl,hH,hB,hz,q⟩:=h;cases rx;cases ru;obtain⟨z,its,n,r,hl,e⟩:=I.lstM hH;obtain⟨z2,aS,n2,r2,cy,e2⟩:=I.lstM hB;have hsz:its.toArray.size+aS.toArray.size<=sizeLine:=by rw[ć,ć];simp_all
 have fe:¬(!its.toArray.isEmpty&&Builtin.List.listTooLong (its.toArray.size+aS.toArray.size))=true:=by rw[lV hsz,Bool.and_false];exact Ō
 refine Cm ⟨_,e,rfl⟩ ⟨_,e2,rfl⟩ (call_meets F.slot_list_iadd ⟨_,e,rfl⟩ F.entry_list_iadd (F.args_list_iadd_2 _ _) (AutoSeq1.list___iadd___list_list_0 l its.toArray n b aS.toArray n2 fe (by rw[ć];lia) À) ⟨e,e2,?_⟩);refine⟨.ref l,_,I.lset (its':=its++aS) hH e Ò (r.append r2) ?_,rfl,q⟩;rw[ý];omega
section
theorem Iu(n1:(d==sysModules)=false)(g1:s.heap.get? d=some o)(g2:o.ExactDict)(g3:o.data=.dict es ep)(q:R (.ref s.heap.objs.size) {s with heap:=s.heap.push {cls:=.type "dict_keyiterator",data:=.fields #[.ref d,.int 0 0,.int es.size 0,.int ep 0]}}):wpAny (model prog w) A (pyIter (.ref d)) R E s:=by have ty:s.TypeIs (.ref d) "dict":=⟨o,g1,g2.1⟩;refine wpAny_pyIter_slot ty F.slot_dict_iter (wpAny_call_entry F.slot_dict_iter ty F.entry_dict_iter ?_ (F.args_dict_iter_1 _));refine Ä ?_;refine Ä (wpAny_notOrdered_dict ty (Ó ?_));show wpAny (model prog w) _ (Builtin.Dict.showsAll d>>=_) _ E s;unfold Builtin.Dict.showsAll;rw[n1];refine Ä (Ó (Ä (wpAny_dictEntries g1 g3 (Ä (wpAny_dictEpoch g1 g3 ?_)))));refine Ä (Κ (Ó ⟨_,rfl,"dict_keyiterator",_,⟨_,Ę _ rfl,rfl⟩,F.slot_dict_keyiterator_next.lookup,?_⟩));exact q
theorem Iv(st:s.heap.IsKeyIter it d i es.size ep)(g1:s.heap.get? d=some o)(g3:o.data=.dict es ep)(hx:es[i]?=some e)(q:∀h',h'.IsKeyIter it d (i+1) es.size ep->Heap.SameBut it s.heap h'->R (some e.key) {s with heap:=h'}):wpAny (model prog w) A (pyNext (.ref it)) R E s:=by obtain⟨oi,i1,i2,i3⟩:=id st;unfold pyNext;refine Ä (wpAny_attempt (wpAny_callSpecial?_slot (name:=Str.ofString "__next__") st.typeIs F.slot_dict_keyiterator_next (wpAny_call_entry F.slot_dict_keyiterator_next st.typeIs F.entry_dict_keyiterator_next ?_ (F.args_dict_keyiterator_next_1 _))));refine Ä (Ó (Ä (Ä ?_)));refine Ä (wpAny_typeNameOfWhole_keyiter st.typeIs (Ó (Ä (wpAny_fieldsOf i1 i3 ?_))));refine Ä (Ó (Ä (wpAny_dictEntries g1 g3 ?_)));rw[Ë Ò];refine Ä (Ó (Ä (wpAny_dictEpoch g1 g3 ?_)));rw[Ë Ò];refine Ó ?_;simp only[show¬((i:Int)<0)from by simp,if_false,Int.toNat_natCast,hx];refine Ä (Ä (wpAny_typeNameOfWhole_keyiter st.typeIs (Ó ?_)));refine Ä (wpAny_isOneOf_keyiter st.typeIs ?_);show wpAny (model prog w) _ (setField (.ref it) 1 (rawInt ((i:Int)+1))>>=_) _ _ s;refine Ä (wpAny_setField i1 i3 Ò ?_);have Ç:(s.heap.update it (Obj.mapFields (·.setIfInBounds 1 (rawInt ((i:Int)+1))))).IsKeyIter it d (i+1) es.size ep:=⟨_,Heap.get?_update_self _ i1 (Obj.isFreed_of_fields (Obj.data_mapFields i3 _)),(Obj.cls_mapFields ..).trans i2,by rw[Obj.data_mapFields i3];simp[rawInt]⟩;refine Ä (wpAny_holding (Ä (wpAny_isOneOf_keyiter (s:={s with heap:=s.heap.update it (Obj.mapFields (·.setIfInBounds 1 (rawInt ((i:Int)+1))))}) Ç.typeIs ?_)));exact Ó (Ó ⟨_,rfl,Ó (q _ Ç (Heap.SameBut.update ..))⟩)
theorem Li(hh:A.handled=none)(st:s.heap.IsKeyIter it d i es.size ep)(g1:s.heap.get? d=some o)(g3:o.data=.dict es ep)(hx:es.size<=i)(q:∀h',Heap.ExtBut it s.heap h'->R none {s with heap:=h'}):wpAny (model prog w) A (pyNext (.ref it)) R E s:=by obtain⟨oi,i1,i2,i3⟩:=id st;unfold pyNext;refine Ä (wpAny_attempt (wpAny_callSpecial?_slot (name:=Str.ofString "__next__") st.typeIs F.slot_dict_keyiterator_next (wpAny_call_entry F.slot_dict_keyiterator_next st.typeIs F.entry_dict_keyiterator_next ?_ (F.args_dict_keyiterator_next_1 _))));refine Ä (Ó (Ä (Ä ?_)));refine Ä (wpAny_typeNameOfWhole_keyiter st.typeIs (Ó (Ä (wpAny_fieldsOf i1 i3 ?_))));refine Ä (Ó (Ä (wpAny_dictEntries g1 g3 ?_)));rw[Ë Ò];refine Ä (Ó (Ä (wpAny_dictEpoch g1 g3 ?_)));rw[Ë Ò];refine Ó ?_;simp only[if_false,Int.toNat_natCast,Array.getElem?_eq_none hx];refine Ä (Ä (wpAny_typeNameOfWhole_keyiter st.typeIs (Ó ?_)));show wpAny (model prog w) _ (setField (.ref it) 0 .none>>=_) _ _ s;refine Ä (wpAny_setField i1 i3 Ò ?_);refine Ä ?_;refine Ä (Κ (Ä (m:=firstArgMember _ _) (wpAny_of_eq (a:=Value.none) (by first|rfl|(simp only[firstArgMember];rfl)) ?_)) (by size_fits));refine Κ ?_ (by size_fits);simp only[raiseNew];refine Ä (wpAny_handled ?_);rw[show A.in1.handled=none from hh];refine Ä (Ó (wpAny_throw ?_));refine Ä (wpAny_isInstance (b:=true) (T:="StopIteration") ⟨_,Ę _ rfl,rfl⟩ isSubtype_stop ?_);exact Ó (q _ (((Heap.SameBut.update ..).extBut.push _).push _))
end
def Itd(d:Addr)(o:Obj)(kvs:List (List Key×V)):It:=⟨λi H=>H d=some (.frz o (.dT kvs))/\i<kvs.length,λi H x H'=>H'=H/\∃b k v,x=.ref b/\kvs[i]?=some (k,v)/\H b=some (.tup (k.map kV)),λi H=>H d=some (.frz o (.dT kvs))/\kvs.length<=i⟩
theorem KT.get:∀{kvs:List (List Key×V)}{xs:List (List Key×Addr×Value)}{i:Nat}{k:List Key}{v:V},KT H kvs xs->kvs[i]?=some (k,v)->∃b u,xs[i]?=some (k,b,u)/\H b=some (.tup (k.map kV))|_,_,_,_,_,.nil,e=>by simp at e;|p::_,q::_,0,k,v,.cons r t,e=>by grind;|p::_,q::_,i+1,k,v,.cons r t,e=>by obtain⟨b,u,e1,e2⟩:=KT.get t e;exact⟨b,u,by rw[List.getElem?_cons_succ];exact e1,e2⟩
theorem KT.len:∀{kvs:List (List Key×V)}{xs:List (List Key×Addr×Value)},KT H kvs xs->xs.length=kvs.length|_,_,.nil=>rfl|_,_,.cons _ t=>by rw[ľ,ľ,KT.len t]
theorem Æ.frzT{σ:St}(I:Æ X Â σ H s)(e:H d=some (.frz o (.dT kvs))):s.heap.get? d=some o/\o.ExactDict/\(d==sysModules)=false/\∃es ep xs,o.data=.dict es ep/\KT H kvs xs/\es.toList=xs.map (entryOfKey (tupleKind (cg X.prog X.w))):=by obtain⟨e0,_,hs,xs,kt,o',es,ep,g1,g2,g3,g4,_⟩:=(I.hok _ _ e);rw[e0]at g1;cases g1;exact⟨e0,g2,hs,es,ep,xs,g3,kt,g4⟩
theorem Cp{es:Array DictEntry}(kt:KT H kvs xs)(e:es.toList=xs.map (entryOfKey (tupleKind (cg P w)))):es.size=kvs.length:=by rw[<-Ě,e,Ý,kt.len]
theorem Cq{K:Frag}(d it:Addr)(o:Obj)(kvs:List (List Key×V))(es:Array DictEntry)(ep:Nat)(od:o.data=.dict es ep)(hz:es.size=kvs.length):š P w K tg (Itd d o kvs) [it] it (λi h=>h.IsKeyIter it d i es.size ep)where
 mem:=by simp
 obj:=λi h st b hb=>by
  have e:b=it:=by simpa using hb
  subst e;obtain⟨o,e,c,d⟩:=st;exact⟨o,e,λv z=>by rw[d]at z;cases z⟩
 keep:=λi h h' st k=>st.at λo e=>k it Ò o e;item:=by
  intro X hP hw hK hc i Â s σ H E I hf st hg;subst hP hw hK;obtain⟨hq,hx⟩:=hg;obtain⟨e0,g2,hs,gv,B8,xs,g3,kt,g4⟩:=I.frzT hq;rw[od]at g3;cases g3;obtain⟨b,u,ex,eb⟩:=kt.get (k:=kvs[i].1) (v:=kvs[i].2) (é hx);have ee:es[i]?=some (entryOfKey (tupleKind (cg X.prog X.w)) (kvs[i].1,b,u)):=by rw[entry_at g4,ex];rfl
  obtain⟨f0,f1,f2,f3,f4,f5⟩:=hf it Ò;refine Iv st e0 od ee λh' Ç sb=>?_;have I1:Æ X Â σ H {s with heap:=h'}:=I.turned (t':=s.toks) (λb o hb e=>(sb.2 b hb).trans e) f0 f1 f3 f4 f5;obtain⟨o2,e2,c2,d2⟩:=id Ç;exact⟨.ref b,rfl,vQ (s:={s with heap:=h'}) e2 c2 d2 Ù ⟨.ref b,H,I1,rfl,⟨rfl,b,kvs[i].1,kvs[i].2,rfl,é hx,eb⟩,Ç,λb hb=>(hf b hb).1⟩⟩
 done:=by intro X hP hw hK hc i Â s σ H E I hf st hg;subst hP hw hK;obtain⟨hq,hx⟩:=hg;obtain⟨e0,g2,hs,gv,B8,xs,g3,kt,g4⟩:=I.frzT hq;rw[od]at g3;cases g3;obtain⟨f0,f1,f2,f3,f4,f5⟩:=hf it Ò;exact Li (I.ok.hd hc) st e0 od À λh' eb=>⟨rfl,I.turned (t':=s.toks) (λb o hb e=>eb b o hb e) f0 f1 f3 f4 f5⟩
 self:=λ_ _ _ _ _ st h=>wpAny_pyIter_keyiter st h
section
def O9(tl:TE):TI:=λσ H R=>tl σ H λx H1=>∃d o kvs,x=.ref d/\H1 d=some (.frz o (.dT kvs))/\R (Itd d o kvs) H1
theorem Iw(hl:PE X l tl):PI X tg l (O9 tl):=by
 intro Â s σ H R I h;refine Ú (hl Â s σ H _ I h) λv s1=>?_;rintro⟨x,H1,I1,r1,q1⟩;obtain⟨d,o,kvs,e,hq,q⟩:=q1;subst e;cases r1;obtain⟨e0,g2,hs,es,ep,xs,g3,kt,g4⟩:=I1.frzT hq;refine Iu hs e0 g2 g3 ?_;refine⟨s1.heap.objs.size,[s1.heap.objs.size],_,_,H1,rfl,I1.kept (t':=s1.toks) λb o e=>ë _ e,Cq d _ o kvs es ep g3 (Cp kt g4),⟨_,Ę _ rfl,rfl,rfl⟩,λb hb=>?_,q⟩;have e:b=s1.heap.objs.size:=by simpa using hb
 subst e;exact I1.fpOk (Ø _) (I1.hok.fresh (Ø _))
end
open PySem PyProof.Rows HT
section
inductive Ϭ(t:TS)(D:Ĥ)(σ:St)(H:Hp):Prop|mk:∀d kvs,(H d=some (.dT kvs))->(∀o,t {D with nx:=λah H'=>H' d=some (.frz o (.dT kvs))/\D.nx ah (upd H' d (.dT kvs)),bk:=λ_ _=>False,ct:=λ_ _=>False,rt:=λ_ _=>False} σ (upd H d (.frz o (.dT kvs))))->Ϭ t D σ H
def Oa(t:TS):TS:=λD σ H=>Ϭ t D σ H
theorem Lj(h:PS X e t):PS X e (Oa t):=by
 intro Â s σ H D I hq;obtain⟨d,kvs,ed,hq⟩:=hq;obtain⟨hz,hs,xs,kt,o,es,ep,g1,g⟩:=(show Ö X.prog X.w H s.heap d (.dT kvs)from I.hok _ _ ed);have nt:∀{b:Addr}{u:HO},H b=some u->u≠.dT kvs->b≠d:=λ{b u}e n z=>by rw[z,ed]at e;exact n (ĭ e).symm
 have I1:Æ X Â σ (upd H d (.frz o (.dT kvs))) {s with heap:=s.heap,toks:=s.toks}:=by
  refine I.un ⟨λb ob q _ _ _=>q,λb ob q _ _ _=>⟨ob.slots,q⟩,λb ob q n _=>?_,λb ob q _=>⟨ob,q⟩,λb xs q=>?_,λb ob u q=>?_,λb ps q=>⟨#[],?_⟩⟩ λb u e=>?_;.rw[aA λz=>by rw[z,ed]at n;cases n];exact n
  .rw[aA (nt q λz=>by cases z)];exact q
  .rw[aA (nt q λz=>by cases z)];exact q
  .rw[aA (nt q λz=>by cases z),q];simp
  .have gX:∀c xs,H c=some (.tup xs)->upd H d (.frz o (.dT kvs)) c=some (.tup xs):=λc xs q=>by rw[aA (nt q λz=>by cases z)];exact q
   by_cases hb:b=d;.subst hb;rw[aa]at e;cases e;exact⟨g1,(show Ö X.prog X.w H s.heap b (.dT kvs)from I.hok _ _ ed).stay (λ_ _ _ q=>q) (λc q=>by rw[aA (nt q λz=>by cases z)];exact q) gX⟩
   .rw[aA hb]at e;exact(I.hok b u e).stay (λ_ _ _ q=>q) (λc q=>by rw[aA (nt q λz=>by cases z)];exact q) gX
 refine Ú (h Â s σ _ _ I1 (hq o)) λfl s1 sf=>?_;cases fl with|brk=>obtain⟨_,_,_,z⟩:=sf;exact z.elim;|cont=>obtain⟨_,_,_,z⟩:=sf;exact z.elim;|ret u=>obtain⟨_,_,_,_,_,z⟩:=sf;exact z.elim;|next=>
 obtain⟨vF,H1,J,e1,q1⟩:=sf;have F4:∀{b:Addr}{u:HO},H1 b=some u->u≠.frz o (.dT kvs)->b≠d:=λ{b u}e n z=>by rw[z,e1]at e;exact n (ĭ e).symm
 have fr:∀b,H1 b=none->upd H1 d (.dT kvs) b=none:=λb n=>by rw[aA λz=>by rw[z,e1]at n;cases n];exact n
 refine⟨vF,upd H1 d (.dT kvs),⟨J.ok,J.os,J.bare,⟨J.base.keep,J.base.slot,λb ob q n hx=>fr b (J.base.free b ob q n hx),J.base.there,λb xs q=>?_,λb ob u q=>?_,λb ps q=>?_⟩,J.loc,J.cell,fr _ J.free,λy c e=>fr _ (J.freeC y c e),λp hp=>?_,λb u e=>?_,J.len⟩,q1⟩;.have:=J.base.tups b xs q;rw[aA (F4 this λz=>by cases z)];exact this
 .have h0:=I.base.frzs b ob u q;have:=J.base.frzs b ob u q;rw[aA (nt h0 λz=>by cases z)];exact this
 .obtain⟨m,e⟩:=J.base.tbls b ps q;exact⟨m,by rw[aA (F4 e λz=>by cases z)];exact e⟩
 .obtain⟨a,n,c⟩:=J.pin p hp;exact⟨a,fr _ n,c⟩
 .have gX:∀c xs,H1 c=some (.tup xs)->upd H1 d (.dT kvs) c=some (.tup xs):=λc xs q=>by rw[aA (F4 q λz=>by cases z)];exact q
  have uk:∀a c,H1 c=some (.own a)->upd H1 d (.dT kvs) c=some (.own a):=λa c q=>by rw[aA (F4 q λz=>by cases z)];exact q
  by_cases hb:b=d;.subst hb;rw[aa]at e;cases e;exact Ö.stay (show Ö X.prog X.w H1 s1.heap b (.dT kvs)from(show Ö X.prog X.w H1 s1.heap b (.frz o (.dT kvs))from J.hok _ _ e1).2) (λ_ _ _ q=>q) (uk b) gX
  .rw[aA hb]at e;exact(J.hok b u e).stay (λ_ _ _ q=>q) (uk b) gX
end
structure ϙ(h:Heap)(e:Addr)(C tb:Value):Prop where
 obj:∃oe vs,h.get? e=some oe/\oe.cls=C/\oe.data=.fields vs/\vs[1]?=some tb/\oe.dict=none
 tr:tb=.none\/∃T oT ts,tb=.ref T/\T≠e/\h.get? T=some oT/\oT.data=.fields ts/\ts[3]?=some .none
theorem Cr(f:ĵ->ĵ)(o:Obj):(Obj.mapFields f o).dict=o.dict:=by unfold Obj.mapFields;split<;>rfl
section
theorem wV(ml:A.frames=some (env::outer))(hl:s.heap.FunFrames base (env::outer))(hf:env.frame=some L)(he:s.heap.get? e=some oe)(hd:oe.data=.fields vs)(hz:1<vs.size)(uu:oe.dict=none)(h:∀h' T,s.heap.get? T=none->ϙ h' e oe.cls (.ref T)->(∀b o,s.heap.get? b=some o->b≠e->b∉Ė (env::outer)->h'.get? b=some o)->(∀b o,s.heap.get? b=some o->b≠e->∃sl,h'.get? b=some {o with slots:=sl})->Q () {s with heap:=h'}):wpAny M A (do let a<-frameOf env;let pl<-entryPlaceOf L si;let b<-EntryCells.newEntry head a .none (rawInt L) .none pl;setField (.ref e) 1 b) (λ_ s'=>wpAny M A (setFlight (.ref e) none) Q E s') E s:=by
 have ne:e∉Ė (env::outer):=λhm=>by obtain⟨_,o,ho,hn⟩:=hl.mem hm;rw[he]at ho;cases ho;exact hn vs hd
 refine Ä (wpAny_frameOf_fun ml hl hf λh1 sf=>?_);have e1:h1.get? e=some oe:=(sf.2.1 e ne).trans he;refine Ä (wpAny_entryPlaceOf λpl dQ=>?_);unfold EntryCells.newEntry newFields;refine Ä (Κ ?_ (dQ.sizeOk5 _ _ _ _ _));obtain⟨fs,Pf⟩:∃fs,fs=([head,.ref L,.none,rawInt L,.none]++(if pl.isEmpty then List.replicate 6 Value.none else pl)).toArray:=⟨_,rfl⟩;have fz:3<fs.size:=by rw[Pf,ć,ý];show 3<5+_;lia
 rw[<-Pf];obtain⟨h2,F5⟩:∃h2,h2=h1.push {cls:=.type "traceback",dict:=none,data:=.fields fs}:=⟨_,rfl⟩;have nT:h1.objs.size≠e:=ϗ (í e1);have t2:h2.get? h1.objs.size=some {cls:=.type "traceback",dict:=none,data:=.fields fs}:=by rw[F5];exact Ę h1 rfl
 have k2:∀b o,h1.get? b=some o->h2.get? b=some o:=λb o z=>by rw[F5];exact ë _ z
 refine wpAny_setField (s:={s with heap:=h1.push {cls:=.type "traceback",dict:=none,data:=.fields fs}}) (by rw[<-F5];exact k2 _ _ e1) hd hz ?_;rw[<-F5];obtain⟨h3,AR⟩:∃h3,h3=h2.update e (Obj.mapFields (·.setIfInBounds 1 (Value.ref h1.objs.size))):=⟨_,rfl⟩;have d3:=Obj.data_mapFields hd (·.setIfInBounds 1 (Value.ref h1.objs.size));have g3:=Heap.get?_update_self (Obj.mapFields (·.setIfInBounds 1 (Value.ref h1.objs.size))) (k2 _ _ e1) (Obj.isFreed_of_fields d3);have o3:∀b,b≠e->h3.get? b=h2.get? b:=λb hb=>by rw[AR];exact Heap.get?_update_other _ _ (Ne.symm hb)
 rw[<-AR]at g3⊢;unfold setFlight;have v1:(vs.setIfInBounds 1 (Value.ref h1.objs.size))[1]?=some (.ref h1.objs.size):=by simp[hz]
 refine Ä (wpAny_field (s:={s with heap:=h3}) g3 d3 v1 ?_);have t3:h3.get? h1.objs.size=some {cls:=.type "traceback",dict:=none,data:=.fields fs}:=(o3 _ nT).trans t2;refine wpAny_setField (s:={s with heap:=h3}) t3 rfl fz ?_;have kk:∀b o,b≠e->h1.get? b=some o->(h3.update h1.objs.size (Obj.mapFields (·.setIfInBounds 3 ((none:Option Addr).elim Value.none λf=>rawInt f)))).get? b=some o:=λb o hb z=>by rw[Heap.get?_update_other _ _ (ϗ (í z)),o3 b hb];exact k2 b o z
 refine h _ h1.objs.size ?_ ⟨⟨_,_,?_,Obj.cls_mapFields _ _,d3,v1,(Cr _ _).trans uu⟩,.inr ⟨h1.objs.size,_,_,rfl,nT,Heap.get?_update_self _ t3 (Obj.isFreed_of_fields (Obj.data_mapFields rfl _)),Obj.data_mapFields rfl _,by simp[fz]⟩⟩ (λb o z hb hn=>?_) λb o z hb=>?_;.cases z:s.heap.get? h1.objs.size with|none=>rfl;|some o=>obtain⟨sl,q⟩:=sf.2.2 _ o z;exact absurd (í q) (Τ _)
 .rw[Heap.get?_update_other _ _ nT];exact g3
 .exact kk b o hb ((sf.2.1 b hn).trans z)
 .obtain⟨sl,q⟩:=sf.2.2 b o z;exact⟨sl,kk b _ hb q⟩
theorem Aj(ml:A.frames=some (env::outer))(hl:s.heap.FunFrames base (env::outer))(hf:env.frame=some L)(fl:ϙ s.heap e C tb)(h:∀h' T,s.heap.get? T=none->ϙ h' e C (.ref T)->(∀b o,s.heap.get? b=some o->b≠e->tb≠.ref b->b∉Ė (env::outer)->h'.get? b=some o)->(∀b o,s.heap.get? b=some o->b≠e->tb≠.ref b->∃sl,h'.get? b=some {o with slots:=sl})->(∀b o,s.heap.get? b=some o->∃o',h'.get? b=some o')->Q () {s with heap:=h'}):wpAny M A (noteFrame (.ref e) env) (λ_ s'=>wpAny M A (setFlight (.ref e) none) Q E s') E s:=by
 obtain⟨⟨oe,vs,he,rfl,hd,h1,uu⟩,tr⟩:=fl;have hz:=(Array.getElem?_eq_some_iff.mp h1).1;unfold noteFrame;simp only[hf];refine Ä (wpAny_field he hd h1 ?_);rcases tr with rfl|⟨T0,oT,ts,rfl,nT,hT,qv,h3⟩
 .rw[Ë Ù];refine wV ml hl hf he hd hz uu λh' T nT iS k1 k2=>h h' T nT iS (λb o z hb _ hn=>k1 b o z hb hn) (λb o z hb _=>k2 b o z hb) λb o z=>?_;by_cases hb:b=e;.obtain⟨KS,_,q,_⟩:=iS.obj;exact⟨KS,hb▸q⟩
  .obtain⟨sl,q⟩:=k2 b o z hb;exact⟨_,q⟩
 .rw[Í (show(Value.ref T0 !=Value.none)=true by simp)];refine Ä (wpAny_field hT qv h3 ?_);refine Ä (wpAny_setField hT qv (Array.getElem?_eq_some_iff.mp h3).1 ?_);obtain⟨g,eg⟩:∃g,g=s.heap.update T0 (Obj.mapFields (·.setIfInBounds 3 Value.none)):=⟨_,rfl⟩;have og:∀b,b≠T0->g.get? b=s.heap.get? b:=λb hb=>by rw[eg];exact Heap.get?_update_other _ _ (Ne.symm hb)
  have tg:∃o,g.get? T0=some o:=⟨_,by rw[eg];exact Heap.get?_update_self _ hT (Obj.isFreed_of_fields (Obj.data_mapFields qv _))⟩;have cy:g.FunFrames base (env::outer):=hl.of_keeps λb o z hn=>⟨o,(og b λq=>by rw[q,hT]at z;cases z;exact hn ts qv).trans z,rfl⟩;rw[<-eg];refine wV (s:={s with heap:=g}) ml cy hf ((og e (Ne.symm nT)).trans he) hd hz uu λh' T DD iS k1 k2=>h h' T ?_ iS (λb o z hb ht hn=>k1 b o ((og b λq=>ht (by rw[q])).trans z) hb hn) (λb o z hb ht=>k2 b o ((og b λq=>ht (by rw[q])).trans z) hb) λb o z=>?_
  .have DD:g.get? T=none:=DD;by_cases q:T=T0;.obtain⟨o,e⟩:=tg;rw[q,e]at DD;cases DD
   .rw[<-og T q];exact DD
  .by_cases hb:b=e;.obtain⟨KS,_,q,_⟩:=iS.obj;exact⟨KS,hb▸q⟩
   .obtain⟨o2,e2⟩:∃o2,g.get? b=some o2:=by grind
    obtain⟨sl,q⟩:=k2 b o2 e2 hb;exact⟨_,q⟩
theorem wW(ml:A.frames=some (env::outer))(hl:s.heap.FunFrames base (env::outer))(hf:env.frame=some L)(fl:ϙ s.heap e C tb)(h:∀h' T,s.heap.get? T=none->ϙ h' e C (.ref T)->(∀b o,s.heap.get? b=some o->b≠e->tb≠.ref b->b∉Ė (env::outer)->h'.get? b=some o)->(∀b o,s.heap.get? b=some o->b≠e->tb≠.ref b->∃sl,h'.get? b=some {o with slots:=sl})->(∀b o,s.heap.get? b=some o->∃o',h'.get? b=some o')->Q () {s with heap:=h'}):wpAny M A (leaving env (.ref e)) Q E s:=by exact Ä (Aj ml hl hf fl h)
end
theorem Ö.there(x:Ö P w H h a o):∃ob,h.get? a=some ob:=by cases o with|lst xs=>obtain⟨_,_,_,_,e⟩:=x;exact⟨_,e⟩;|tup xs=>obtain⟨_,_,_,ob,e,_⟩:=x;exact⟨_,e⟩;|dK kvs=>obtain⟨_,_,_,_,o,_,_,e,_⟩:=x;exact⟨_,e⟩;|dT kvs=>obtain⟨_,_,_,_,o,_,_,e,_⟩:=x;exact⟨_,e⟩;|set S n=>obtain⟨o,_,_,_,e,_⟩:=x;exact⟨_,e⟩;|ins C dx fs=>obtain⟨_,_,_,e,_⟩:=x;exact⟨_,e⟩;|own y=>exact x;|xd fs=>obtain⟨_,⟨_,_,_,e,_⟩,_⟩:=x;exact⟨_,e⟩;|rng lo hi=>obtain⟨_,_,_,e⟩:=x;exact⟨_,e⟩;|frz ob u=>obtain⟨e,_⟩:=x;exact⟨_,e⟩;|tbl ps=>exact⟨_,(x)⟩;|met f y=>exact⟨_,(x)⟩;|ext φ=>obtain⟨_,e,_⟩:=x;exact e
theorem û.no(x:û P w H h)(e:h.get? a=none):H a=none:=by cases q:H a with|none=>rfl;|some o=>obtain⟨ob,z⟩:=(x a o q).there;rw[e]at z;cases z
def wX(X:Cx)(EX:Addr->Addr->Hp->Prop):Prop:=∀(Â:ZX)(σ:St)(H:Hp)(s:Shared)(a C:Addr)(tb:Value),Æ X Â σ H s->ϙ s.heap a (.ref C) tb->X.s₀.heap.get? a=none->H a=none->(∀T,tb=.ref T->X.s₀.heap.get? T=none/\H T=none)->(∀p∈X.pn++Â,p.1≠a/\tb≠.ref p.1)->EX a C H->X.xe (.ref a) s
def ĳ(P:Program)(w:World):CXT:=λouter H s E e s'=>∃a C H' T,e=.ref a/\s'.os=s.os/\AllBare s'.gens/\Un (Ė outer) [] H H' s.heap s'.heap/\û P w H' s'.heap/\s.heap.get? a=none/\s.heap.get? T=none/\H' a=none/\H' T=none/\ϙ s'.heap a (.ref C) (.ref T)/\E (.ref a) (some C) H'
section
theorem Æ.was{σ:St}(I:Æ X Â σ H s)(hx:X.ex=[])(e:s.heap.get? a=none):X.s₀.heap.get? a=none:=by cases q:X.s₀.heap.get? a with|none=>rfl;|some o=>obtain⟨o',z⟩:=I.base.there a o q (by rw[hx];simp);rw[e]at z;cases z
theorem JX(W:wX X λa C H=>E (.ref a) (some C) H)(hx:X.ex=[]):uz (ĳ X.prog X.w) X E:=by intro Â σ H s e s' I h;obtain⟨a,C,H',T,rfl,os,bare,un,hok,na,nT,fa,fT,fl,q⟩:=h;have J:Æ X Â σ H' s':=I.call' os un hok bare λb z=>absurd z Ò;refine W Â σ H' s' a C (.ref T) J fl (I.was hx na) fa (λT' eT=>by cases eT;exact⟨I.was hx nT,fT⟩) (λp hp=>?_) q;obtain⟨e,_⟩:=I.pin p hp;exact⟨λz=>(by rw[z,na]at e;cases e),λz=>(by cases z;rw[nT]at e;cases e)⟩
def Lk(C:Addr)(EX:Addr->Addr->Hp->Prop)(t:TA):TS:=λ_ σ H=>t σ H λvs H1=>vs.length<=sizeLine/\∀a,H1 a=none->EX a C H1
theorem wY{np dE pos:Pos}(O:OwnCls x C bm newId X.mg X.base)(FB:ExcBaseFacts B newId xB bm)(hc:X.calm=true)(hx:X.ex=[])(hg:Gl X x)(ha:PA X (e::es) t)(W:wX X EX)(eW:Ţ x:=by decide)(he:Qa8 X e es:=by rfl)(dQ:Qa9 X dE es:=by rfl):PS X (.Raise (some (.Call (.Name x np) (e::es) [] dE)) none pos) (Lk C EX t):=by intro Â s σ H D I h;obtain⟨tl,N,nm,q,bs,hdct,sn,sub,ab,col,dd,k0,k1,k2,k3,k5,mN,hC,hN,xC,T⟩:=O.obj;refine wpAny_Raise_call_subT (C:=C) (nm:=nm) (q:=q) (N:=N) (bs:=bs) (bm:=tl) (hdct:=hdct) (sn:=sn) (sub:=sub) (ab:=ab) (col:=col) (dd:=dd) (k0:=k0) (k1:=k1) (k2:=k2) (k3:=k3) (k5:=k5) FB (mN:=mN) (T.hasType FB.hasBase) (I.ok.hd hc) (by rw[he];show(false||(backTo dE (starEach es X.env)).any (·.1))=false;rw[dQ];rfl) xC ?_;refine jO I hg O.bound ⟨rfl,?_⟩ eW;have h2:=ha dE Â s σ H _ I h;rw[he]at h2⊢;refine Calls.evalArgs_plain (wpAny_mono h2 (λus s2 z=>?_) λ_ _ y=>y);obtain⟨vs,H1,I1,r1,hl,q1⟩:=z;have hlen:=r1.length;refine⟨rfl,by show us.length<=_;lia,I1.bk _ _ hC,hN.keeps I1.bk,T.keeps I1.bk,λh' a me=>?_⟩;obtain⟨tt,e1,e2,e3⟩:=me.there;have J:Æ X Â σ H1 {s2 with heap:=h'}:=I1.kept (t':=s2.toks) me.keeps;have fl:ϙ h' a (.ref C) .none:=⟨⟨_,_,e1,rfl,rfl,rfl,rfl⟩,.inl rfl⟩;refine W Â σ H1 _ a C .none J fl (I1.was hx me.new) (I1.hok.no me.new) (λT z=>by cases z) (λp hp=>?_) (q1 a (I1.hok.no me.new));obtain⟨e,_⟩:=I1.pin p hp;exact⟨λz=>(by rw[z,me.new]at e;cases e),λz=>(by cases z)⟩
end
theorem iC{K:Frag}:wX (iT (ĳ P w) P w K mg base N qual scope f cd A outer s H E) λa C H'=>E (.ref a) (some C) H':=by
 intro Â σ H' s' a C tb I fl na fa ft _ q;have bq:s'.heap.FunFrames base (envOfC qual scope s.heap.objs.size f cd::outer):=I.stack;have ml:(A.deeper (envOfC qual scope s.heap.objs.size f cd)).frames=some (envOfC qual scope s.heap.objs.size f cd::outer):=I.ok.frames;have xE:(envOfC qual scope s.heap.objs.size f cd).frame=some s.heap.objs.size:=by rfl
 have ub:Un (Ė outer) [] H H' s.heap s'.heap:=I.base;have na:s.heap.get? a=none:=na;have ft:∀T,tb=.ref T->s.heap.get? T=none/\H' T=none:=ft;refine wW ml bq xE fl λh' T nT iS k1 k2 k3=>?_;have apart:∀b o,s.heap.get? b=some o->b≠a/\tb≠.ref b:=λb o e=>⟨λz=>(by rw[z,na]at e;cases e),λz=>(by rw[(ft b z).1]at e;cases e)⟩;have KU:∀b o,s.heap.get? b=some o->b∉Ė outer->b∉Ė (envOfC qual scope s.heap.objs.size f cd::outer):=λb o e hn hm=>by
  unfold Ė at hm;rw[Zak,xE]at hm;rcases Ļ.mp hm with z|z;.exact absurd (í e) (by rw[z];exact Τ _)
  .exact hn z
 refine⟨a,C,H',T,rfl,I.os,I.bare,⟨λb o e n hb _=>?_,λb o e n hb _=>?_,ub.free,λb o e hx=>?_,ub.tups,ub.frzs,ub.tbls⟩,λc o e=>?_,na,?_,fa,I.hok.no nT,iS,q⟩;.exact k1 b o (ub.keep b o e n hb Ò) (apart b o e).1 (apart b o e).2 (KU b o e hb)
 .obtain⟨sl,e1⟩:=ub.slot b o e n hb Ò;obtain⟨kN,e2⟩:=k2 b _ e1 (apart b o e).1 (apart b o e).2;exact⟨kN,e2⟩
 .obtain⟨o',e1⟩:=ub.there b o e hx;exact k3 b o' e1
 .refine(I.hok c o e).stay (λd v hd z=>?_) (λ_ z=>z) λ_ _ z=>z;have DE:∃o',H' d=some o':=by grind
  obtain⟨o',eo⟩:=DE;refine k1 d v z (λy=>(by rw[y,fa]at eo;cases eo)) (λy=>(by rw[(ft d y).2]at eo;cases eo)) λhm=>?_;rw[I.stkFree d hm]at eo;cases eo
 .exact I.was rfl nT
theorem ß.okX{K:Frag}{st:Stmt}{f:Addr}{fd:FuncData}{N ps:ó}{k:Nat}{sp:Sp}(F:ß K x qual st f fd)(S:Ã N ps (az st))(len:∀vs H Q E,sp vs H Q E->vs.length=ps.length)(ar:∀(cdv:Value)(A:Around)(outer:List Env)(s:Shared)(H:Hp)(vs:List V)(Q:VK)(E:XK),à k (A.deeper (envOfC qual (az st) s.heap.objs.size f cdv))->sp vs H Q E->∃t,Ķ (iT (ĳ P w) P w K mg base N qual (az st) f cdv A outer s H E) (cC st) t/\t {nx:=λ_ H'=>Q .non H',rt:=Q} (start N vs) H):Ê P w K mg base (ĳ P w) (k+1) f fd ps sp:=by obtain⟨oc,od,kV,doc,pm,an,cdv,ct,lT,rfl,lk,eR⟩:=F.ex;exact DN lk eR S len λA outer s H vs Q E hr iF=>ar cdv A outer s H vs Q E hr iF
theorem ß.oqX{K:Frag}{st:Stmt}{f:Addr}{fd:FuncData}{N ps:ó}{k:Nat}{sp:Sp}(F:ß K x qual st f fd)(S:Ã N ps (az st))(ar:∀(cdv:Value)(A:Around)(outer:List Env)(s:Shared)(H:Hp)(vs:List V)(Q:VK)(E:XK),à k (A.deeper (envOfC qual (az st) s.heap.objs.size f cdv))->sp vs H Q E->∃t,Ķ (iT (ĳ P w) P w K mg base N qual (az st) f cdv A outer s H E) (cC st) t/\t {nx:=λ_ H'=>Q .non H',rt:=Q} (start N vs) H)(len:ό sp ps:=by exact{}):Ê P w K mg base (ĳ P w) (k+1) f fd ps sp:=F.okX S len.h ar
theorem Ey{K:Frag}(X:K.In h)(hm:mg x=some (.ref C))(q:PySem.W.excIn K C Pl newId=true):OwnCls x C Pl newId mg h:=by
 refine⟨hm,?_⟩;unfold PySem.W.excIn at q;split at q
 .rename_i dd cd sl ho;split at q;.rename_i C' bm k0 k1 k2 k3 n k5 hm' hs;simp only[Bool.and_eq_true,beq_iff_eq,Bool.not_eq_true']at q;obtain⟨⟨⟨⟨⟨rfl,rfl⟩,DF⟩,ht⟩,hok⟩,xC⟩:=q;obtain⟨nm,bs,mro,ns,qn,hd,sn,sub,ab,col,del⟩:=cd;dsimp only at hm' DF hok xC;subst hm' DF;obtain⟨l⟩:=sl;subst hs;exact⟨bm,ns,nm,qn,bs,hd,sn,sub,ab,col,dd,k0,k1,k2,k3,k5,_,X _ _ ho,.of_isNs (PySem.W.isNs_of_in X hok),PySem.W.nsMap_none_of_in X hok xC,PySem.W.tail_of_in X ht⟩
  .cases q
 .cases q
section
variable{σ:St}
theorem ϙ.ne(fl:ϙ h a C tb)(e:h.get? b=some o)(hd:∀vs,o.data≠.fields vs):b≠a/\tb≠.ref b:=by
 obtain⟨⟨oe,vs,he,_,hv,_,_⟩,tr⟩:=fl;refine⟨λz=>?_,λz=>?_⟩;.rw[z,he]at e;cases e;exact hd vs hv
 .rcases tr with q|⟨T,oT,ts,q,_,hT,qv,_⟩;.rw[q]at z;cases z
  .rw[q]at z;cases z;rw[hT]at e;cases e;exact hd ts qv
theorem Æ.left(I:Æ X Â σ H s)(hx:X.ex=[])(fl:ϙ s.heap a C tb)(na:X.s₀.heap.get? a=none)(fa:H a=none)(ft:∀T,tb=.ref T->X.s₀.heap.get? T=none/\H T=none)(hp:∀p∈X.pn++Â,p.1≠a/\tb≠.ref p.1)(k1:∀b o,s.heap.get? b=some o->b≠a->tb≠.ref b->b∉Ė X.stack->h'.get? b=some o)(k2:∀b o,s.heap.get? b=some o->b≠a->tb≠.ref b->∃sl,h'.get? b=some {o with slots:=sl})(k3:∀b o,s.heap.get? b=some o->∃o',h'.get? b=some o'):Æ X Â σ H {s with heap:=h',toks:=t'}:=by
 have tr:∀b u,H b=some u->b≠a/\tb≠.ref b/\b∉Ė X.stack:=λb u e=>⟨λz=>(by rw[z,fa]at e;cases e),λz=>(by rw[(ft b z).2]at e;cases e),λz=>(by rw[I.stkFree b z]at e;cases e)⟩;have old:∀b o,X.s₀.heap.get? b=some o->b≠a/\tb≠.ref b:=λb o e=>⟨λz=>(by rw[z,na]at e;cases e),λz=>(by rw[(ft b z).1]at e;cases e)⟩;have Fu:∀b o,X.s₀.heap.get? b=some o->b≠X.env.locals:=λb o e=>ė (ĸ (í e) I.ok.above);have Pm:∀b,b≠X.env.locals->b∉X.fs->b∉Ė X.stack:=λb h1 h2 z=>(Ļ.mp (I.stkSub b z)).elim h1 h2;have cellK:∀x c,X.env.cells.lookup x=some c->∀v,s.heap.IsCell c v->h'.IsCell c v:=λx c e v hZ=>by
  obtain⟨o,ho,hd⟩:=hZ;obtain⟨n1,n2⟩:=fl.ne ho λvs q=>by rw[hd]at q;cases q
  obtain⟨sl,q⟩:=k2 c o ho n1 n2;exact⟨_,q,hd⟩
 refine⟨I.ok,I.os,I.bare,⟨λb o e n hb dv=>?_,λb o e n hb dv=>?_,I.base.free,λb o e dv=>?_,I.base.tups,I.base.frzs,I.base.tbls⟩,?_,λx c e=>?_,I.free,I.freeC,λp iX=>?_,λc o e=>?_,I.len⟩;.exact k1 b o (I.base.keep b o e n hb dv) (old b o e).1 (old b o e).2 (Pm b (Fu b o e) hb)
 .obtain⟨sl,e1⟩:=I.base.slot b o e n hb dv;obtain⟨kN,e2⟩:=k2 b _ e1 (old b o e).1 (old b o e).2;exact⟨kN,e2⟩
 .obtain⟨o',e1⟩:=I.base.there b o e dv;exact k3 b o' e1
 .obtain⟨m,⟨o,es,ep,ho,hd,r⟩,hl⟩:=I.loc;obtain⟨n1,n2⟩:=fl.ne ho λvs q=>by rw[hd]at q;cases q
  obtain⟨sl,q⟩:=k2 _ o ho n1 n2;refine⟨m,⟨_,es,ep,q,hd,r⟩,λi x v e1 e2 e3=>?_⟩;obtain⟨u,rr,l⟩:=hl i x v e1 e2 e3;refine⟨u,rr,?_⟩;rcases l with l|⟨k,c,e,z⟩;.exact .inl l
  .exact .inr ⟨k,c,e,cellK x c e _ z⟩
 .obtain⟨v,z⟩:=I.cell x c e;exact⟨v,cellK x c e v z⟩
 .obtain⟨e,n,ne,nf,d⟩:=I.pin p iX;exact⟨k1 p.1 p.2 e (hp p iX).1 (hp p iX).2 (Pm p.1 ne nf),n,ne,nf,d⟩
 .refine(I.hok c o e).stay (λd v hd z=>?_) (λ_ z=>z) λ_ _ z=>z;have DE:∃o',H d=some o':=by grind
  obtain⟨o',eo⟩:=DE;obtain⟨t1,t2,t3⟩:=tr d o' eo;exact k1 d v z t1 t2 t3
end
structure ÿ(k:Nat)(A:Around):Prop where
 dp:A.depth+3*k+5<recursionLimit
 un:A.units+16*k+200<cLine
 gd:A.guards=some []
theorem à.toU(r:à k A):ÿ k A:=⟨r.dp,r.un,r.gd⟩
theorem ÿ.mono(r:ÿ k A)(h:j<=k):ÿ j A:=⟨by have:=r.dp;lia,by have:=r.un;lia,r.gd⟩
structure Ś(P:Program)(w:World)(K:Frag)(mg:Ti)(base:Heap)(CX:CXT)(k:Nat)(f:Addr)(fd:FuncData)(ps:ó)(sp:Sp):Prop where
 len:∀vs H Q E,sp vs H Q E->vs.length=ps.length
 run:∀(A:Around)(outer:List Env)(s:Shared)(H:Hp)(args:Args)(us:â)(vs:List V)(Q:VK)(E:XK),ÿ k A->ĺ P w K mg base A outer s H->BindsTo s fd args (ps.zip us)->Î vs us->sp vs H Q E->codeAny (model P w) A (.call (.ref f) args) (CR CX outer P w H s Q E) s
abbrev Cx.un(X:Cx)(A:Around):Cx:={X with A:=A,calm:=false}
theorem Æ.un'{σ:St}(I:Æ X Â σ H s)(A:Around)(hA:A.frames=X.A.frames):Æ (X.un A) Â σ H s:=⟨⟨I.ok.mod,I.ok.kind,I.ok.glob,I.ok.blt,I.ok.above,I.ok.inj,I.ok.has,I.ok.cab,λz=>(by cases z),hA.trans I.ok.frames,I.ok.stk,I.ok.exf,I.ok.bs,I.ok.bsz,I.ok.noex,I.ok.exfs,I.ok.funs,I.ok.frf⟩,I.os,I.bare,I.base,I.loc,I.cell,I.free,I.freeC,I.pin,I.hok,I.len⟩
def qt(A:Around):Around:={A with handled:=none}
theorem ĺ.qt{K:Frag}(e:ĺ P w K mg base A outer s H):ĺ P w K mg base (qt A) outer s H:=⟨e.frames,e.mod,e.bs,e.bsz,e.funs,e.frf,e.hok,e.bare⟩
theorem ÿ.mark(r:ÿ k A)(v:Φ):ÿ k (A.mark v):=⟨r.dp,r.un,r.gd⟩
theorem ÿ.deeper(r:ÿ (k+1) A)(env:Env):ÿ k (A.deeper env):=⟨by have:=r.dp;show A.depth+1+3*k+5<_;lia,by have:=r.un;show A.units+3+16*k+200<_;lia,r.gd⟩
theorem ß.okU{K:Frag}{st:Stmt}{f:Addr}{fd:FuncData}{N ps:ó}{k:Nat}{sp:Sp}(F:ß K x qual st f fd)(S:Ã N ps (az st))(len:∀vs H Q E,sp vs H Q E->vs.length=ps.length)(ar:∀(cdv:Value)(A:Around)(outer:List Env)(s:Shared)(H:Hp)(vs:List V)(Q:VK)(E:XK),ÿ k (A.deeper (envOfC qual (az st) s.heap.objs.size f cdv))->sp vs H Q E->∃t,Ķ (((iT Þ P w K mg base N qual (az st) f cdv (qt A) outer s H E).un (A.deeper (envOfC qual (az st) s.heap.objs.size f cdv))).nox) (cC st) t/\t {nx:=λ_ H'=>Q .non H',rt:=Q} (start N vs) H):Ś P w K mg base Þ (k+1) f fd ps sp:=by
 obtain⟨oc,od,kV,doc,pm,an,cdv,ct,lT,rfl,lk,eR⟩:=F.ex;refine⟨len,λA outer s H args us vs Q E hr e0 hb r iF=>?_⟩;have hl:=len _ _ _ _ iF;have KX:K.In s.heap:=e0.mod.kin.keeps λb o e=>(e0.bs b o e).1;have lim:s.heap.NoLimit:=e0.mod.nolimit.keeps λb o e=>(e0.bs b o e).1;have nr:∀y∈ps.zip us,(az st).names.lookup y.1=some .local\/((az st).names.lookup y.1=some .cell/\((cellsFrom (s.heap.objs.size+1) (az st).names []).lookup y.1).isSome=true):=λ⟨n,v⟩hy=>by
  rcases S.par n (Za6 hy).1 with q|q;.exact .inl q
  .exact .inr ⟨q,PySem.W.cellsFrom_some _ _ _ (.inl q)⟩
 refine codeAny_call_function (by have:=hr.dp;lia) (KX _ _ lk) rfl S.co S.gen rfl (PySem.W.codeRec_of KX eR) (hb _ _ _ _ ?_);refine wpAny_newFunctionEnv_cells S.kind nr λenv he s1 x=>?_;subst he;refine⟨lim.keeps x.toInCall.keep,codeAny_func ?_⟩;obtain⟨t,ht,hq⟩:=ar cdv A outer s H vs Q E (hr.deeper _) iF;have I:Æ (iT Þ P w K mg base N qual (az st) f cdv (qt A) outer s H E) [] (start N vs) H s1:=sV S rfl e0.qt hl r x;have J:=(I.un' (A.deeper (envOfC qual (az st) s.heap.objs.size f cdv)) rfl).wish λ_ _=>False;refine wpAny_mono (ht [] s1 (start N vs) H _ J hq) (λfl s' hs=>?_) λe s' hs=>hs.elim;have fin:∀{ah:St}{H':Hp}{v:V}{u:Value},Æ (((iT Þ P w K mg base N qual (az st) f cdv (qt A) outer s H E).un (A.deeper (envOfC qual (az st) s.heap.objs.size f cdv))).nox) [] ah H' s'->Ñ v u->Q v H'->CE outer P w H s Q u s':=λ{ah H' v u}J rv q=>⟨v,H',J.os,J.bare,J.base,J.hok,rv,q⟩;cases fl with|ret u=>obtain⟨v,ah,H',J,rv,q⟩:=hs;exact fin J rv q;|next=>obtain⟨ah,H',J,q⟩:=hs;exact fin (v:=V.non) (u:=Value.none) J rfl q;|brk=>obtain⟨_,_,_,q⟩:=hs;exact False.elim q;|cont=>obtain⟨_,_,_,q⟩:=hs;exact False.elim q
theorem ß.oqU{K:Frag}{st:Stmt}{f:Addr}{fd:FuncData}{N ps:ó}{k:Nat}{sp:Sp}(F:ß K x qual st f fd)(S:Ã N ps (az st))(ar:∀(cdv:Value)(A:Around)(outer:List Env)(s:Shared)(H:Hp)(vs:List V)(Q:VK)(E:XK),ÿ k (A.deeper (envOfC qual (az st) s.heap.objs.size f cdv))->sp vs H Q E->∃t,Ķ (((iT Þ P w K mg base N qual (az st) f cdv (qt A) outer s H E).un (A.deeper (envOfC qual (az st) s.heap.objs.size f cdv))).nox) (cC st) t/\t {nx:=λ_ H'=>Q .non H',rt:=Q} (start N vs) H)(len:ό sp ps:=by exact{}):Ś P w K mg base Þ (k+1) f fd ps sp:=F.okU S len.h ar
section
variable{p pos:Pos}
theorem Ez(F:Ś X.prog X.w X.K X.mg X.base Þ k f fd ps sp)(hr:ÿ k X.A)(hg:Gl X x)(hm:X.mg x=some (.ref f))(hk:PySem.W.keepIn X.K (.ref f)=true)(hb:ò X.K fd ps [])(ha:PA X (e::es) t)(eW:Ţ x:=by decide)(he:Qa8 X e es:=by rfl)(dQ:Qa9 X pos es:=by rfl):PE X (.Call (.Name x p) (e::es) [] pos) (vV sp [] E0 t):=by
 intro Â s σ H Q I h;refine wpAny_Call_Name_kw (jO I hg hm ?_ eW);refine PySem.W.callWith_K (h₀:=X.base) I.ok.mod.kin hk (Ú (ha pos Â s σ H _ I h) λus s1⟨vs,H1,I1,r,q⟩=>⟨I1.kIn,?_⟩) he dQ;have q:sp (vs++[]) H1 Q E0:=q;rw[ļ]at q;have hl:(us++[]).length=ps.length:=by rw[ļ,<-r.length];exact F.len _ _ _ _ q
 have DH:=hb s1 us I1.kIn hl;rw[ļ]at DH;refine wpAny_call (codeAny_mono (F.run X.A X.stack s1 H1 ⟨us,[]⟩ us vs Q E0 hr I1.env0 DH r q) λrr s' hq=>?_);cases rr with|error e=>exact(hq).elim;|ok fl=>cases fl with|ret u=>exact I1.after hq;|next=>exact False.elim hq;|brk=>exact False.elim hq;|cont=>exact False.elim hq
end
def ñ(a C:Addr)(h:Heap):Prop:=∃o vs,h.get? a=some o/\o.cls=.ref C/\o.data=.fields vs/\o.dict=none
theorem ñ.ok(x:ñ a C h):Ö P w H h a (.ext (ñ a C)):=⟨x,(let⟨o,_,e,_⟩:=x;⟨o,e⟩),λh1 h2 z k=>(let⟨o,vs,e,r⟩:=z;⟨o,vs,k o e,r⟩)⟩
theorem û.tracked(x:û P w H h)(n:H a=none)(new:Ö P w (upd H a o) h a o):û P w (upd H a o) h:=λb u e=>by
 by_cases z:b=a;.subst z;rw[aa]at e;cases e;exact new
 .rw[aA z]at e;exact(x b u e).stay (λ_ _ _ q=>q) (λc q=>by rw[aA (aD q n)];exact q) λc xs q=>by rw[aA (aD q n)];exact q
theorem Æ.track{σ:St}(I:Æ X Â σ H s)(hx:X.ex=[])(n:H a=none)(na:X.s₀.heap.get? a=none)(hL:a≠X.env.locals)(hc:∀x c,X.env.cells.lookup x=some c->c≠a)(hp:∀p∈X.pn++Â,p.1≠a)(new:Ö X.prog X.w (upd H a o) s.heap a o):Æ X Â σ (upd H a o) s:=⟨I.ok,I.os,I.bare,⟨I.base.keep,I.base.slot,λb ob e h1 h2=>(by rw[aA (λz=>(by rw[z,na]at e;cases e))];exact I.base.free b ob e h1 h2),I.base.there,λb xs e=>(have q:=I.base.tups b xs e;by rw[aA (aD q n)];exact q),λb ob u e=>(have q:=I.base.frzs b ob u e;by rw[aA (aD q n)];exact q),λb ps e=>(let⟨m,q⟩:=I.base.tbls b ps e;⟨m,by rw[aA (aD q n)];exact q⟩)⟩,I.loc,I.cell,(by rw[aA (Ne.symm hL)];exact I.free),λx c e=>(by rw[aA (hc x c e)];exact I.freeC x c e),λp iX=>(let⟨e,n1,r⟩:=I.pin p iX;⟨e,by rw[aA (hp p iX)];exact n1,r⟩),I.hok.tracked n new,I.len⟩
open PySem PySem.Spec PyProof.Rows PySem.Calls PySem.W
theorem Cu:entryFor table "BaseException.__getattribute__"=some Builtin.«object.__getattribute__»:=entryFor_alias (id':="object.__getattribute__") (by kernel_rfl) (by first|rfl|decide+kernel) Ε (by kernel_rfl)
section
variable{K:Frag}
theorem EY(hc:(clsIn K C).isSome=true)(ha:findIn K (.ref C) name=some (some a))(hg:specialIn K a "__get__"=some (some g))(ht:takesIn K a=some true):findObj K C none name=some (.bind g a):=by obtain⟨cd,hc⟩:=Zay.mp hc;unfold findObj;rw[hc,Option.bind_some,ha,Option.bind_some];simp[hg,ht]
theorem Ln(X:K.In s.heap)(I:InstAt s.heap x ox C none)(hf:findObj K C none "__class__"=some (.bind (.builtin "getset_descriptor.__get__") (.builtin "object.__class__")))(hm:mroIn K C (.type "object")=some true)(h:Q (.done (.ret (.ref C))) s):wpAny (model prog w) A (Builtin.«object.__getattribute__» ⟨[.ref x,.str "__class__" tk],[]⟩) Q E s:=by
 obtain⟨hh,g,d,t,os⟩:=s;have L0:=I.type (M:=model prog w);have L1:=looks_find (M:=model prog w) X I hf;unfold Builtin.«object.__getattribute__»;repeat lk
 refine wpAny_run (class_get X I hm ?_);repeat lk
 exact h
theorem Ŭ:Slot "BaseException" "__getattribute__" "BaseException.__getattribute__":=.of (owner:="BaseException") (n:="__getattribute__") (by rw[typeLookup_type,builtinLookup_eq_fast];kernel_rfl) Ε Ε Ε (by first|exact .inl Ε|exact .inr Ε) (by rw[isSubtype_type];kernel_rfl)
theorem Fb:builtinKind "BaseException.__getattribute__"=some .slot:=by decide+kernel
theorem Cv:splitId "BaseException.__getattribute__"=some ("BaseException","__getattribute__"):=by decide+kernel
theorem Iz:∃sig,Manifest.signature? "BaseException.__getattribute__"=sig/\∀a b:Value,(match sig with|none=>(pure ():Sem Unit)|some g=>Bind.checkArgs "BaseException.__getattribute__" g ⟨[a,b],[]⟩)=pure ():=⟨_,rfl,λa b=>by kernel_rfl⟩
theorem Cw(L:Looks (model prog w) s.heap (isInstance (.ref x) (.type "BaseException")) true)(h:Q () s):wpAny (model prog w) A (checkBuiltinCall "BaseException.__getattribute__" ⟨[.ref x,b],[]⟩) Q E s:=by simp only[checkBuiltinCall,Fb,Cv];refine Ä (L.at ?_);simp only[Bool.not_true,Bool.false_eq_true,if_false];obtain⟨sig,e,r⟩:=Iz;have r:=r (.ref x) b;rw[e];cases sig with|none=>exact Ó h;|some g=>show wpAny _ _ (Bind.checkArgs "BaseException.__getattribute__" g ⟨[.ref x,b],[]⟩) Q E s;have r:Bind.checkArgs "BaseException.__getattribute__" g ⟨[.ref x,b],[]⟩=pure ():=r;rw[r];exact Ó h
theorem Cy(X:K.In s.heap)(I:InstAt s.heap x ox C none)(Ur:findIn K (.ref C) "__getattribute__"=some (some (.builtin "BaseException.__getattribute__")))(Us:findIn K (.ref C) "__getattr__"=some none)(hf:findObj K C none "__class__"=some (.bind (.builtin "getset_descriptor.__get__") (.builtin "object.__class__")))(hm:mroIn K C (.type "object")=some true)(hb:mroIn K C (.type "BaseException")=some true)(h:Q (some (.ref C)) {s with toks:=s.toks+1}):wpAny (model prog w) A (getAttr? (.ref x) "__class__") Q E s:=by
 obtain⟨hh,g,d,t,os⟩:=s;have L0:=I.type (M:=model prog w);have L1:=looks_findIn (M:=model prog w) X Ur;have L2:=looks_findIn (M:=model prog w) X Us;have L3:=looks_mroIn (M:=model prog w) X hb;unfold getAttr? getAttrBy? getAttrBy;refine Ä (wpAny_mkText (Ä (wpAny_attempt (wpAny_holding (Ä (L0.at (Ä (L1.at ?_))))))));show wpAny _ _ (getAttrByItsOwn _ _ _ _ _ _) _ _ _;unfold getAttrByItsOwn hookBefore;refine Ä ?_;rw[Í (show onTheHeap (.ref C)=true from rfl)];refine L2.at ?_;refine Ä (wpAny_attempt (wpAny_holding ?_));show wpAny _ _ (boundAndCalled (.builtin "BaseException.__getattribute__") (.ref x) (.str "__class__" t)) _ _ _;unfold boundAndCalled;refine Ä (wpAny_of_eq (Ŭ.bind _) ?_);refine wpAny_call (codeAny_call_builtin Ŭ.plain Cu (Cw (s:=⟨hh,g,d,t+1,os⟩) (L0.andThen L3) ?_));refine Ln (s:=⟨hh,g,d,t+1,os⟩) X I hf hm ?_;show wpAny _ _ (handedOut (.ref C)) _ _ _;repeat lk
 exact h
end
structure Ϛ(K:Frag)(C:Addr):Prop where
 cl:(clsIn K C).isSome=true
 ga:findIn K (.ref C) "__getattribute__"=some (some (.builtin "BaseException.__getattribute__"))gb:findIn K (.ref C) "__getattr__"=some none
 fc:findIn K (.ref C) "__class__"=some (some (.builtin "object.__class__"))sg:specialIn K (.builtin "object.__class__") "__get__"=some (some (.builtin "getset_descriptor.__get__"))tk:takesIn K (.builtin "object.__class__")=some true
 ob:mroIn K C (.type "object")=some true
 be:mroIn K C (.type "BaseException")=some true
theorem ñ.inst(x:ñ a C h):∃ox,InstAt h a ox C none:=by obtain⟨o,vs,e,c,d,dd⟩:=x;refine⟨o,e,c,?_,by rw[dd];trivial⟩;unfold notCls;rw[d]
theorem wZ{K:Frag}(Z:Ϛ K C):KitX K (.ref a) (.ref C) (ñ a C)where
 ty:=λM h _ p=>(let⟨_,I⟩:=p.inst;I.type);it:=λM h X _=>by
  have z:=Z.cl;unfold clsIn at z;split at z;.rename_i c' d' cd' FC ho;intro A' Q' E' s' k q;unfold isType loadHead;exact Ä (wpAny_loadPart (k _ _ (X _ _ ho)) (Ó q))
  .cases z
 ne:=λh tp dd its n sl X e=>by
  refine Bool.eq_false_iff.mpr λq=>?_;have q:C=tp:=by have:=beq_iff_eq.mp q;injection this
  subst q;have z:=Z.cl;unfold clsIn at z;split at z;.rename_i c' d' cd' FC ho;have:=X _ _ ho;rw[e]at this;cases this
  .cases z
 ca:=λ{prog w A E Q s}X p h=>by obtain⟨ox,I⟩:=p.inst;exact Cy X I Z.ga Z.gb (EY Z.cl Z.fc Z.sg Z.tk) Z.ob Z.be h
theorem mU:dH X (.builtin "isinstance") (λxs H Q=>∃a C c b,xs=[.ref a,c]/\H a=some (.ext (ñ a C))/\Ϛ X.K C/\((∃D,c=.ref D/\kitOne X.K (.ref C) (.ref D)=some b)\/∃n,c=.ty n/\kitOne X.K (.ref C) (.type n)=some b)/\Q (.bl b) H):=by
 intro Â s σ H xs us Q I r h;obtain⟨a,C,c,b,rfl,e,Z,hk,q⟩:=h;obtain⟨u,v,rfl,ru,rv⟩:=Ő r;cases(show u=Value.ref a from ru);obtain⟨p,_⟩:=(show Ö X.prog X.w H s.heap a (.ext (ñ a C))from I.hok a _ e);rcases hk with⟨D,rfl,hk⟩|⟨n,rfl,hk⟩;.cases(show v=Value.ref D from rv);exact kia_one (wZ Z) I.kIn p hk (λz=>nomatch z) λtk=>⟨.bl b,H,I.tok _,rfl,q⟩
 .cases(show v=Value.type n from rv);exact kia_one (wZ Z) I.kIn p hk (λz=>nomatch z) λtk=>⟨.bl b,H,I.tok _,rfl,q⟩
section
variable{K:Frag}{s:Shared}{a C D:Addr}{ox:Obj}
structure Ť(K:Frag)(C D:Addr):Prop where
 nt:typeIn K (.ref D)=some (.type "type")ty:(clsIn K D).isSome=true
 be:subIn K (.ref D) (.type "BaseException")=some true
 su:subIn K (.ref C) (.ref D)=some true
theorem Cz(X:K.In s.heap)(h:(clsIn K D).isSome=true):Looks (model prog w) s.heap (isType (.ref D)) true:=by
 unfold clsIn at h;split at h;.rename_i c' d' cd' FC ho;intro A' Q' E' s' k q;exact Ä (wpAny_loadPart (k _ _ (X _ _ ho)) (Ó q))
 .cases h
theorem xf(X:K.In s.heap)(I:InstAt s.heap a ox C none)(Z:Ť K C D)(h:Q true s):wpAny (model prog w) A (excMatches (.ref a) (.ref D)) Q E s:=by
 have L0:=I.type (M:=model prog w);have L1:=looks_typeIn (M:=model prog w) X Z.nt;have L2:=Cz (prog:=prog) (w:=w) X Z.ty;have L3:=looks_subIn (M:=model prog w) X Z.be;have L4:=looks_subIn (M:=model prog w) X Z.su;have f:=tc_notTuple;repeat(first|with_reducible refine L1.at ?_|with_reducible refine L0.at ?_|with_reducible refine L2.at ?_|with_reducible refine L3.at ?_|with_reducible refine L4.at ?_|wp_step)
 exact h
end
theorem CG(fl:ϙ s.heap a C tb)(h:∀h',ϙ h' a C tb->(∀b o,s.heap.get? b=some o->tb≠.ref b->h'.get? b=some o)->(∀b o,s.heap.get? b=some o->∃o',h'.get? b=some o')->Q () {s with heap:=h'}):wpAny M A (setFlight (.ref a) none) Q E s:=by
 obtain⟨⟨oe,vs,he,hc,hd,h1,uu⟩,tr⟩:=id fl;refine Ä (wpAny_field he hd h1 ?_);rcases tr with rfl|⟨T,oT,ts,rfl,nT,hT,qv,h3⟩;.rw[Ë Ù];exact Ó (h s.heap fl (λb o e _=>e) λb o e=>⟨o,e⟩)
 .rw[Í (show(Value.ref T !=Value.none)=true by simp)];have z3:=(Array.getElem?_eq_some_iff.mp h3).1;refine wpAny_setField hT qv z3 ?_;have g3:=Heap.get?_update_self (Obj.mapFields (·.setIfInBounds 3 ((none:Option Addr).elim Value.none λf=>rawInt f))) hT (Obj.isFreed_of_fields (Obj.data_mapFields qv _));have o3:∀b,b≠T->(s.heap.update T (Obj.mapFields (·.setIfInBounds 3 ((none:Option Addr).elim Value.none λf=>rawInt f)))).get? b=s.heap.get? b:=λb hb=>Heap.get?_update_other _ _ (Ne.symm hb);refine h _ ⟨⟨oe,vs,(o3 a (Ne.symm nT)).trans he,hc,hd,h1,uu⟩,.inr ⟨T,_,_,rfl,nT,g3,Obj.data_mapFields qv _,by simp[z3]⟩⟩ (λb o e hb=>(o3 b λz=>hb (by rw[z])).trans e) λb o e=>?_;by_cases z:b=T;.rw[z];exact⟨_,g3⟩
  .exact⟨o,(o3 b z).trans e⟩
abbrev Cx.tr(X:Cx)(Â:ZX)(xe:Tc):Cx:={X with pn:=X.pn++Â,xe:=xe}
theorem Æ.tr{σ:St}(I:Æ X Â σ H s)(xe:Tc):Æ (X.tr Â xe) [] σ H s:=⟨⟨I.ok.mod,I.ok.kind,I.ok.glob,I.ok.blt,I.ok.above,I.ok.inj,I.ok.has,I.ok.cab,I.ok.hd,I.ok.frames,I.ok.stk,I.ok.exf,I.ok.bs,I.ok.bsz,I.ok.noex,I.ok.exfs,I.ok.funs,I.ok.frf⟩,I.os,I.bare,I.base,I.loc,I.cell,I.free,I.freeC,λp hp=>I.pin p (by simpa using hp),I.hok,I.len⟩
theorem Æ.untr{σ:St}(I:Æ (X.tr Â xe) gz σ H s):Æ X Â σ H s:=⟨⟨I.ok.mod,I.ok.kind,I.ok.glob,I.ok.blt,I.ok.above,I.ok.inj,I.ok.has,I.ok.cab,I.ok.hd,I.ok.frames,I.ok.stk,I.ok.exf,I.ok.bs,I.ok.bsz,I.ok.noex,I.ok.exfs,I.ok.funs,I.ok.frf⟩,I.os,I.bare,I.base,I.loc,I.cell,I.free,I.freeC,λp hp=>I.pin p (Zba _ hp),I.hok,I.len⟩
theorem Æ.drop{σ:St}(I:Æ X Â σ H s)(hN:X.N.Nodup)(hi:X.N[i]?=some x)(hl:∀(i:Nat)(x:Str)(v:V),X.N[i]?=some x->σ[i]?=some (some v)->Vis X.env.scope x->∃u,Ñ v u/\Look X.env s.heap m x u)(hn:h'.Ns X.env.locals λy=>if y=x then u else m y)(sb:Heap.SameBut X.env.locals s.heap h'):Æ X Â (σ.set i none) H {s with heap:=h'}:=by
 have nL:∀b o,X.s₀.heap.get? b=some o->b≠X.env.locals:=λb o e=>ė (ĸ (í e) I.ok.above);have cK:∀y c,X.env.cells.lookup y=some c->∀v,s.heap.IsCell c v->h'.IsCell c v:=λy c e v=>by rintro⟨o,ho,hd⟩;exact⟨o,(sb.2 c (I.cne y c e)).trans ho,hd⟩
 refine⟨I.ok,I.os,I.bare,⟨λb o e n hb hx=>(sb.2 b (nL b o e)).trans (I.base.keep b o e n hb hx),λb o e n hb hx=>?_,I.base.free,λb o e hx=>?_,I.base.tups,I.base.frzs,I.base.tbls⟩,⟨_,hn,λj y v e1 e2 e3=>?_⟩,λy c e=>?_,I.free,I.freeC,λp hp=>?_,λc o e=>?_,by rw[Za2];exact I.len⟩;.obtain⟨sl,e1⟩:=I.base.slot b o e n hb hx;exact⟨sl,(sb.2 b (nL b o e)).trans e1⟩
 .obtain⟨o',e1⟩:=I.base.there b o e hx;exact⟨o',(sb.2 b (nL b o e)).trans e1⟩
 .by_cases z:i=j
  .subst z;by_cases av:i<σ.length;.rw[Za4 av]at e2;cases e2
   .rw[Za8 (by rw[Za2];lia)]at e2;cases e2
  .rw[List.getElem?_set_ne z]at e2;obtain⟨u',r,l⟩:=hl j y v e1 e2 e3;refine⟨u',r,?_⟩;rcases l with⟨k,l⟩|⟨k,c,e,w'⟩
   .refine .inl ⟨k,?_⟩;show(if y=x then u else m y)=some u';rw[Ë λq=>z ?_];.exact l
    .rw[q]at e1;obtain⟨h1,g1⟩:=ġ.mp hi;obtain⟨h2,g2⟩:=ġ.mp e1;exact(List.getElem_inj hN).mp (g1.trans g2.symm)
   .exact .inr ⟨k,c,e,cK y c e _ w'⟩
 .obtain⟨v,w'⟩:=I.cell y c e;exact⟨v,cK y c e v w'⟩
 .obtain⟨e,n,ne,r⟩:=I.pin p hp;exact⟨(sb.2 p.1 ne).trans e,n,ne,r⟩
 .refine(I.hok c o e).stay (λd v hd z=>(sb.2 d λq=>?_).trans z) (λ_ z=>z) λ_ _ z=>z;rcases hd with y|y;.rw[y]at q;rw[q,I.free]at e;cases e
  .rw[q,I.free]at y;cases y
theorem jX{σ:St}(I:Æ X Â σ H s)(hN:X.N.Nodup)(hi:X.N[i]?=some x)(hx:X.env.scope.names.lookup x=some .local)(h:∀s',Æ X Â (σ.set i none) H s'->Q () s'):wpAny (model X.prog X.w) A (do bindName X.env x .none;unbindBehindTheSuite X.env x pos) Q E s:=by
 have Ut:i<X.N.length:=(ġ.mp hi).1;refine Ä (wpAny_bindName (jN (v:=.non) I hN hi (.inl hx) rfl (λs1 I1 _=>?_) (.inr hx)));obtain⟨m,hn,hl⟩:=id I1.loc;obtain⟨u,_,lk⟩:=hl i x .non hi (by rw[Za4 (by rw[I.len];exact Ut)]) (.inl hx);have hv:m x=some u:=by
  rcases lk with⟨_,z⟩|⟨k,_⟩;.exact z
  .have dv:X.env.kindOf x=some .local:=hx;rw[dv]at k;rcases k with k|k<;>cases k
 refine wpAny_onRaise (wpAny_unbindName_local hx hn hv (by rw[I.ok.kind];rfl) λh' u' Iq sb=>?_);have J:=I1.drop hN hi hl Iq sb;rw[List.set_set]at J;exact h _ J
theorem Æ.back{σ:St}(I:Æ ((X.un A).wish xe) Â σ H s)(ok:X.Ok):Æ X Â σ H s:=⟨ok,I.os,I.bare,I.base,I.loc,I.cell,I.free,I.freeC,I.pin,I.hok,I.len⟩
def Fd(D:Ĥ)(i:Nat):Ĥ:={nx:=λσ H=>D.nx (σ.set i none) H,rt:=D.rt,ct:=λσ H=>D.ct (σ.set i none) H,bk:=λσ H=>D.bk (σ.set i none) H}
def PN(n i:Nat)(ok:Addr->Prop)(tb:(Addr->Addr->Hp->Prop)->TS)(th:TS):TS:=λD σ H=>tb (λa C H'=>ok C/\∀ah:St,ah.length=n->H' a=none->th (Fd D i) (ah.set i (some (.ref a))) (upd H' a (.ext (ñ a C)))) D σ H
theorem Lp(hm:X.mg y=some (.ref Dc))(hg:Gl X y)(hN:X.N.Nodup)(hi:X.N[i]?=some n)(hl:X.env.scope.names.lookup n=some .local)(hx:X.ex=[])(hs:X.stack=X.env::X.outer)(ar:∀Â xe EX,wX (X.tr Â xe) EX->Ķ (X.tr Â xe) body (tb EX))(xI:∀v:Φ,Ķ ((X.un (X.A.mark v)).nox) (sj::kq) th)(eW:(y==("__debug__":Str))=false:=by decide):PS X (.Try body [.ExceptHandler (some (.Name y np)) (some n) (sj::kq) ay] [] [] pos) (PN X.N.length i (λC=>Ť X.K C Dc) tb th):=by
 intro Â s σ H D I h;refine wpAny_Try_except ?_;have W:wX (X.tr Â λe s₁=>wpAny (model X.prog X.w) X.A (noteFrame e X.env) (λ_ s₂=>wpAny (model X.prog X.w) X.A (setFlight e none) (λ_ s₃=>wpAny (model X.prog X.w) X.A (handleBy e X.env [.ExceptHandler (some (.Name y np)) (some n) (sj::kq) ay]) (SP X Â D) X.xe s₃) X.xe s₂) X.xe s₁) (λa C H'=>Ť X.K C Dc/\∀ah:St,ah.length=X.N.length->H' a=none->th (Fd D i) (ah.set i (some (.ref a))) (upd H' a (.ext (ñ a C)))):=by
  intro gz vF H1 s1 a C Uu I1 fl na fa ft hp q;obtain⟨Z,q⟩:=q;have J:=I1.untr;have ml:X.A.frames=some (X.env::X.outer):=by rw[<-hs];exact J.ok.frames
  have bq:s1.heap.FunFrames X.base (X.env::X.outer):=by rw[<-hs];exact J.stack
  have xE:X.env.frame=some X.env.locals:=by
   rcases J.ok.stk with z|z;.exact absurd (congrArg List.length (hs.symm.trans z)) Ò
   .exact z.2
  have ma:∀p∈X.pn++Â,p.1≠a/\Uu≠.ref p.1:=λp iX=>hp p (Zba _ iX);show wpAny (model X.prog X.w) X.A (noteFrame (.ref a) X.env) _ X.xe s1;refine Aj ml bq xE fl λh' T nT iS k1 k2 k3=>?_;have J2:Æ X Â vF H1 {s1 with heap:=h'}:=J.left (t':=s1.toks) hx fl na fa ft ma (by rw[hs];exact k1) k2 k3;have tf:∀T',Value.ref T=.ref T'->X.s₀.heap.get? T'=none/\H1 T'=none:=λT' z=>by cases z;exact⟨J.was hx nT,J.hok.no nT⟩
  have KW:∀p∈X.pn++Â,p.1≠a/\Value.ref T≠.ref p.1:=λp iX=>⟨(ma p iX).1,λz=>by cases z;obtain⟨e,_⟩:=J.pin p iX;rw[nT]at e;cases e⟩;obtain⟨oe,vs,he,hc,hd,_,uu⟩:=iS.obj;have inst:ñ a C h':=⟨oe,vs,he,hc,hd,uu⟩;refine wpAny_handleBy_cons (codeAny_handlers_test ?_) (by intro q;cases q);have J4:=J2.un' (X.A.mark (some (.ref a))) rfl;refine jO (X:=X.un (X.A.mark (some (.ref a)))) J4 hg hm ?_ eW;obtain⟨ox,ix⟩:=inst.inst;refine xf (s:={s1 with heap:=h'}) J2.kIn ix Z ?_;show codeAny _ _ (.handlers (.ref a) [.ExceptHandler none (some n) (sj::kq) ay] X.env) _ _;refine codeAny_handlers_suite_as ?_;refine CG (s:={s1 with heap:=h'}) iS λh2 qA j1 j2=>?_;have J5:Æ X Â vF H1 {s1 with heap:=h2}:=J2.left (t':=s1.toks) hx iS na fa tf KW (λb o e _ hb _=>j1 b o e hb) (λb o e _ hb=>⟨o.slots,j1 b o e hb⟩) j2;obtain⟨Uv,kr,Uw,we,hd2,_,K0⟩:=qA.obj;have DI:ñ a C h2:=⟨Uv,kr,Uw,we,hd2,K0⟩;have Ux:a≠X.env.locals:=by obtain⟨m,⟨o,es,ep,ho,ko,_⟩,_⟩:=J5.loc;exact Ne.symm (qA.ne ho λvs q=>by rw[ko]at q;cases q).1
  have Uy:∀x c,X.env.cells.lookup x=some c->c≠a:=λx c e=>by obtain⟨v,o,ho,ko⟩:=J5.cell x c e;exact(qA.ne ho λvs q=>by rw[ko]at q;cases q).1
  have J6:=J5.track (o:=.ext (ñ a C)) hx fa na Ux Uy (λp iX=>(ma p iX).1) (ñ.ok DI);refine jN (v:=.ref a) J6 hN hi (.inl hl) rfl (λs6 I6 _=>?_) (.inr hl);have hw:=q vF J.len fa;refine wpAny_mono (xI (some (.ref a)) Â s6 _ _ (Fd D i) ((I6.un' (X.A.mark (some (.ref a))) rfl).wish _) hw) (λf s7 sp=>?_) λe s' z=>z.elim;show wpAny (model X.prog X.w) X.A (do bindName X.env n .none;unbindBehindTheSuite X.env n ay) (λ_ s₃=>SP X Â D f s₃) X.xe s7;cases f with|ret u=>obtain⟨v,ah,H',K',rv,qq⟩:=sp;exact jX (K'.back J.ok) hN hi hl λs' K2=>⟨v,_,H',K2,rv,qq⟩;|next=>obtain⟨ah,H',K',qq⟩:=sp;exact jX (K'.back J.ok) hN hi hl λs' K2=>⟨_,H',K2,qq⟩;|brk=>obtain⟨ah,H',K',qq⟩:=sp;exact jX (K'.back J.ok) hN hi hl λs' K2=>⟨_,H',K2,qq⟩;|cont=>obtain⟨ah,H',K',qq⟩:=sp;exact jX (K'.back J.ok) hN hi hl λs' K2=>⟨_,H',K2,qq⟩
 have hb:=ar Â _ _ W [] s σ H D (I.tr _) h;refine wpAny_mono hb (λf s1 sp=>?_) λe s1 z=>z;cases f with|ret u=>obtain⟨v,ah,H',K',rv,qq⟩:=sp;exact⟨v,ah,H',K'.untr,rv,qq⟩;|next=>obtain⟨ah,H',K',qq⟩:=sp;exact wpAny_execs_nil ⟨ah,H',K'.untr,qq⟩;|brk=>obtain⟨ah,H',K',qq⟩:=sp;exact⟨ah,H',K'.untr,qq⟩;|cont=>obtain⟨ah,H',K',qq⟩:=sp;exact⟨ah,H',K'.untr,qq⟩
theorem xj(a b:Bool):MeetsSeq.EqGives (.bool a) (.bool b) (a==b):=λprog w A E s Q h=>PySem.SeqAt.EqAt.bool_bool (A:=A) (s:=s) a b prog w E Q h
def isB(k:Bool):Value->Bool|.bool n=>n==k|_=>false
theorem xm(bs:List Bool)(k:Bool):((bs.map Value.bool).toArray.toList.countP (isB k))=bs.count k:=by rw[List.toList_toArray,List.countP_map];rfl
inductive ſ(x:V)(vs:List V)(H:Hp)(Q:VK):Prop|mk:∀(l:Addr)(bs:List Bool)(k:Bool),(x=.ref l)->(vs=[.bl k])->(H l=some (.lst (bs.map V.bl)))->(Q (.int (bs.count k:Nat)) H)->ſ  x vs H Q
def uV:V->List V->Hp->VK->Prop:=λx vs H Q=>ſ  x vs H Q
section
theorem CJ:MtM X "list.count" uV:=by
 intro Â s σ H x vs v us Q I rx rv h;obtain⟨l,bs,k,rfl,rfl,hH,q⟩:=h;cases rx;obtain⟨u,rfl,ru⟩:=þ rv;cases(show u=Value.bool k from ru);obtain⟨z,its,n,r,hl,e⟩:=I.lstM hH;have ei:its=bs.map Value.bool:=jh r;subst ei;refine call_meets F.slot_list_count ⟨_,e,rfl⟩ F.entry_list_count (F.args_list_count_2 _ _) (MeetsSeq.list_count l (bs.map Value.bool).toArray n (.bool k) (isB k) (λy hy=>?_)) ⟨e,?_⟩;.obtain⟨b,_,rfl⟩:=Ā.mp (show y∈bs.map Value.bool by simpa using hy);exact xj b k
 .refine⟨.int (bs.count k:Nat),H,I.tok _,⟨s.toks,?_⟩,q⟩;rw[xm]
inductive Ž(x:V)(vs:List V)(H:Hp)(Q:VK):Prop|mk:∀(l:Addr)(bs:List Bool)(k:Bool)(j:Nat),(x=.ref l)->(vs=[.bl k])->(H l=some (.lst (bs.map V.bl)))->(bs[j]?=some k)->((∀i,i<j->bs[i]?≠some k))->(Q (.int j) H)->Ž  x vs H Q
def uW:V->List V->Hp->VK->Prop:=λx vs H Q=>Ž  x vs H Q
theorem CK:MtM X "list.index" uW:=by
 intro Â s σ H x vs v us Q I rx rv h;obtain⟨l,bs,k,j,rfl,rfl,hH,hj,IF,q⟩:=h;cases rx;obtain⟨u,rfl,ru⟩:=þ rv;cases(show u=Value.bool k from ru);obtain⟨z,its,n,r,hl,e⟩:=I.lstM hH;have ei:its=bs.map Value.bool:=jh r;subst ei;rw[Ý]at z;rw[sizeLine_eq]at z;have KO:=(ġ.mp hj).1;have gt:∀m(hm:m<(bs.map Value.bool).toArray.size),(bs.map Value.bool).toArray[m]=Value.bool (bs[m]'(by simpa using hm)):=λm hm=>by simp
 refine call_meets F.slot_list_index ⟨_,e,rfl⟩ F.entry_list_index (F.args_list_index_2 _ _) (MeetsSeq.list_index l (bs.map Value.bool).toArray n (.bool k) (isB k) (λy hy=>?_) j (by simpa using KO) À ?_ λm hm av=>?_) ⟨e,⟨.int j,H,I.tok _,⟨_,rfl⟩,q⟩⟩;.obtain⟨b,_,rfl⟩:=Ā.mp (show y∈bs.map Value.bool by simpa using hy);exact xj b k
 .rw[gt,(ġ.mp hj).2];exact beq_self_eq_true k
 .rw[gt];refine beq_false_of_ne λc=>IF m av ?_;rw[é (by simpa using hm),c]
end
def er(H:Hp)(cs:ZX):Hp:=λb=>if(cs.lookup b).isSome=true then none else H b
def fz(H:Hp)(cs:ZX):Hp:=λb=>match cs.lookup b with|some o=>some (.frz o (.ext λ_=>True))|none=>H b
section
theorem tX(e:cs.lookup b=some o):fz H cs b=some (.frz o (.ext λ_=>True)):=by unfold fz;rw[e]
theorem dR(e:cs.lookup b=none):fz H cs b=H b:=by unfold fz;rw[e]
theorem mV(e:cs.lookup b=some o):er H cs b=none:=by unfold er;rw[e];rfl
theorem gA(e:cs.lookup b=none):er H cs b=H b:=by unfold er;rw[e];rfl
def Β(H:Hp)(h:Heap)(fs:ă)(cs:ZX):Prop:=∀b o,cs.lookup b=some o->h.get? b=some o/\H b=none/\b∉fs
theorem Β.no(L:Β H h fs cs)(e:H b=some u):cs.lookup b=none:=by cases q:cs.lookup b with|none=>rfl;|some o=>rw[(L b o q).2.1]at e;cases e
theorem û.fz(x:û P w H h)(L:Β H h fs cs):û P w (L2.fz H cs) h:=λb u e=>by cases q:cs.lookup b with|some o=>rw[tX q]at e;cases e;have g:=(L b o q).1;exact⟨g,trivial,⟨o,g⟩,λ_ _ _ _=>trivial⟩;|none=>rw[dR q]at e;exact(x b u e).stay (λ_ _ _ z=>z) (λc z=>by rw[dR (L.no z)];exact z) λc xs z=>by rw[dR (L.no z)];exact z
theorem û.er(x:û P w H' h')(fr:∀b o,cs.lookup b=some o->H' b=some (.frz o (.ext λ_=>True))):û P w (L2.er H' cs) h':=λb u e=>by cases q:cs.lookup b with|some o=>rw[mV q]at e;cases e;|none=>
  rw[gA q]at e;have no:∀c u,(∀o,u≠HO.frz o (.ext λ_=>True))->H' c=some u->cs.lookup c=none:=λc u hu z=>by cases q:cs.lookup c with|none=>rfl;|some o=>rw[fr c o q]at z;cases z;exact absurd rfl (hu o)
  exact(x b u e).stay (λ_ _ _ z=>z) (λc z=>by rw[gA (no c _ (λo y=>by cases y) z)];exact z) λc xs z=>by rw[gA (no c _ (λo y=>by cases y) z)];exact z
theorem Un.held(u:Un fs [] (fz H cs) H' h h')(ok:û P w H' h')(L:Β H h fs cs):Un fs [] H (er H' cs) h h'/\û P w (er H' cs) h'/\∀b o,cs.lookup b=some o->h'.get? b=some o:=by
 have fr:∀b o,cs.lookup b=some o->H' b=some (.frz o (.ext λ_=>True)):=λb o q=>u.frzs b o _ (tX q);have kp:∀b o,cs.lookup b=some o->h'.get? b=some o:=λb o q=>(ok b _ (fr b o q)).1;have no:∀c v,(∀o,v≠HO.frz o (.ext λ_=>True))->H' c=some v->cs.lookup c=none:=λc v hv z=>by cases q:cs.lookup c with|none=>rfl;|some o=>rw[fr c o q]at z;cases z;exact absurd rfl (hv o)
 refine⟨⟨λb o e n hb hx=>?_,λb o e n hb hx=>?_,λb o e n hx=>?_,u.there,λb xs e=>?_,λb o v e=>?_,λb ps e=>?_⟩,ok.er fr,kp⟩;.cases q:cs.lookup b with|some o'=>have:=(L b o' q).1;rw[e]at this;cases this;exact kp b o q;|none=>exact u.keep b o e (by rw[dR q];exact n) hb hx
 .cases q:cs.lookup b with|some o'=>exact absurd hb (L b o' q).2.2;|none=>exact u.slot b o e (by rw[dR q];exact n) hb hx
 .cases q:cs.lookup b with|some o'=>exact mV q;|none=>rw[gA q];exact u.free b o e (by rw[dR q];exact n) hx
 .have z:=u.tups b xs (by rw[dR (L.no e)];exact e);rw[gA (no b _ (λo y=>by cases y) z)];exact z
 .have z:=u.frzs b o v (by rw[dR (L.no e)];exact e);rw[gA (L.no e)];exact z
 .obtain⟨m,z⟩:=u.tbls b ps (by rw[dR (L.no e)];exact e);exact⟨m,by rw[gA (L.no e)];exact z⟩
theorem Un.loose(u:Un fs [] (er H cs) H1 h h')(ok:û P w H1 h')(DJ:û P w H h)(fr:∀b o,cs.lookup b=some o->H b=some (.frz o (.ext λ_=>True))/\b∉fs):Un fs [] H (fz H1 cs) h h'/\û P w (fz H1 cs) h':=by
 have AS:∀b o,cs.lookup b=some o->h.get? b=some o:=λb o q=>(DJ b _ (fr b o q).1).1;have kp:∀b o,cs.lookup b=some o->h'.get? b=some o:=λb o q=>u.keep b o (AS b o q) (mV q) (fr b o q).2 Ò;have nn:∀b o,cs.lookup b=some o->H1 b=none:=λb o q=>u.free b o (AS b o q) (mV q) Ò;have no:∀c v,(∀o,v≠HO.frz o (.ext λ_=>True))->H c=some v->cs.lookup c=none:=λc v hv z=>by cases q:cs.lookup c with|none=>rfl;|some o=>rw[(fr c o q).1]at z;cases z;exact absurd rfl (hv o)
 refine⟨⟨λb o e n hb hx=>?_,λb o e n hb hx=>?_,λb o e n hx=>?_,u.there,λb xs e=>?_,λb o v e=>?_,λb ps e=>?_⟩,ok.fz (fs:=fs) λb o q=>⟨kp b o q,nn b o q,(fr b o q).2⟩⟩;.cases q:cs.lookup b with|some o'=>rw[(fr b o' q).1]at n;cases n;|none=>exact u.keep b o e (by rw[gA q];exact n) hb hx
 .cases q:cs.lookup b with|some o'=>exact absurd hb (fr b o' q).2;|none=>exact u.slot b o e (by rw[gA q];exact n) hb hx
 .cases q:cs.lookup b with|some o'=>rw[(fr b o' q).1]at n;cases n;|none=>rw[dR q];exact u.free b o e (by rw[gA q];exact n) hx
 .have q:=no b _ (λo y=>by cases y) e;rw[dR q];exact u.tups b xs (by rw[gA q];exact e)
 .cases q:cs.lookup b with|some o'=>have z:=(fr b o' q).1;rw[e]at z;cases z;exact tX q;|none=>rw[dR q];exact u.frzs b o v (by rw[gA q];exact e)
 .have q:=no b _ (λo y=>by cases y) e;obtain⟨m,z⟩:=u.tbls b ps (by rw[gA q];exact e);exact⟨m,by rw[dR q];exact z⟩
end
def rT(fd:FuncData)(fl L:Addr):Env:=newEnv fd.scope L fd.globals fd.closure (fd.qualname++".<locals>.") (some fl) fd.code none fd.builtins
def cxL(P:Program)(w:World)(K:Frag)(mg:Ti)(base:Heap)(N:ó)(fd:FuncData)(fl:Addr)(A:Around)(outer:List Env)(s:Shared)(H:Hp)(E:XK):Cx where prog:=P;w:=w;K:=K;mg:=mg;base:=base;A:=A.deeper (rT fd fl s.heap.objs.size);N:=N;s₀:=s;H₀:=H;env:=rT fd fl s.heap.objs.size;outer:=outer;stack:=rT fd fl s.heap.objs.size::outer;ex:=[];calm:=true;fn:=λ_=>false;pn:=[];xe:=λe s'=>wpAny (model P w) (A.deeper (rT fd fl s.heap.objs.size)) (leaving (rT fd fl s.heap.objs.size) e) (λ_ lS=>ĳ P w outer H s E e lS) (λe' lS=>ĳ P w outer H s E e' lS) s'
structure ķ(fd:FuncData)(body:Expr)(N:ó):Prop where
 bd:fd.body=.expr body
 gl:fd.globals=mainGlobals
 bl:fd.builtins=builtinsNs
 kd:fd.scope.kind=.function
 co:fd.scope.isCoroutine=false
 ge:fd.scope.isGenerator=false
 fr:∀p∈fd.scope.names,p.2≠.cell
 fl:∀x,fd.scope.names.lookup x=some .free->∃c,fd.closure.lookup x=some c
 nd:∀x y c,fd.closure.lookup x=some c->fd.closure.lookup y=some c->x=y
 ba:bindArgs fd ⟨[],[]⟩=pure []nm:∀x∈N,fd.scope.names.lookup x=some .free
theorem IK{K:Frag}{A:Around}{outer:List Env}{s:Shared}{H:Hp}{E:XK}{body:Expr}{vs:List V}{h1:Heap}{tk:Nat}(Z:ķ fd body N)(hd:A.handled=none)(e0:ĺ P w K mg base A outer s H)(hn:h1.Ns s.heap.objs.size λx=>([]:List (Str×Value)).reverse.lookup x)(hk:∀b o,s.heap.get? b=some o->h1.get? b=some o)(cell:∀x c,fd.closure.lookup x=some c->H c=none/\∃v,s.heap.IsCell c v)(val:∀(i:Nat)(x:Str)(v:V),N[i]?=some x->vs[i]?=some v->∃c u,fd.closure.lookup x=some c/\Ñ v u/\s.heap.IsCell c (some u))(hl:vs.length=N.length):Æ (cxL P w K mg base N fd fl A outer s H E) [] (vs.map some) H {s with heap:=h1,toks:=tk}:=by
 have ck:∀c v,s.heap.IsCell c v->h1.IsCell c v:=λc v=>by rintro⟨o,ho,z⟩;exact⟨o,hk c o ho,z⟩
 refine⟨⟨e0.mod,Z.kd,Z.gl,Z.bl,Ø _,Z.nd,λx hx=>?_,λx c z=>(by cases z),λ_=>hd,Around.frames_deeper e0.frames,.inr ⟨rfl,rfl⟩,λb z=>absurd (show b∈([]:ă)from z) Ò,e0.bs,e0.bsz,λb _ _ z=>absurd (show b∈([]:ă)from z) Ò,λb z=>absurd (show b∈([]:ă)from z) Ò,e0.funs,e0.frf⟩,rfl,e0.bare,Un.kept hk,⟨_,hn,λi x v e1 e2 e3=>?_⟩,λx c e=>?_,e0.hok.fresh (Ø _),λx c e=>(cell x c e).1,λp hp=>absurd (show p∈([]:ZX)from hp) Ò,e0.hok.kept hk,by rw[Ý];exact hl⟩
 .rcases hx with hx|hx;.exact absurd rfl (Z.fr _ (PySem.mem_of_lookup (hx)))
  .exact Z.fl x hx
 .rw[ģ]at e2;cases q:vs[i]? with|none=>rw[q]at e2;cases e2;|some v'=>
   rw[q]at e2;have e2:v'=v:=by simpa using e2
   subst e2;obtain⟨c,u,ec,r,z⟩:=val i x v' e1 q;exact⟨u,r,.inr ⟨.inr (Z.nm x (Ŋ e1)),c,ec,ck c _ z⟩⟩
 .obtain⟨_,v,z⟩:=cell x c e;exact⟨v,ck c v z⟩
theorem mW{K:Frag}:wX (cxL P w K mg base N fd fl A outer s H E) λa C H'=>E (.ref a) (some C) H':=by
 intro Â σ H' s' a C tb I Lc na fa ft _ q;have bq:s'.heap.FunFrames base (rT fd fl s.heap.objs.size::outer):=I.stack;have ml:(A.deeper (rT fd fl s.heap.objs.size)).frames=some (rT fd fl s.heap.objs.size::outer):=I.ok.frames;have xE:(rT fd fl s.heap.objs.size).frame=some s.heap.objs.size:=rfl;have ub:Un (Ė outer) [] H H' s.heap s'.heap:=I.base;have na:s.heap.get? a=none:=na;have ft:∀T,tb=.ref T->s.heap.get? T=none/\H' T=none:=ft;refine wW ml bq xE Lc λh' T nT iS k1 k2 k3=>?_;have apart:∀b o,s.heap.get? b=some o->b≠a/\tb≠.ref b:=λb o e=>⟨λz=>(by rw[z,na]at e;cases e),λz=>(by rw[(ft b z).1]at e;cases e)⟩;have KU:∀b o,s.heap.get? b=some o->b∉Ė outer->b∉Ė (rT fd fl s.heap.objs.size::outer):=λb o e hn hm=>by
  unfold Ė at hm;rw[Zak,xE]at hm;rcases Ļ.mp hm with z|z;.exact absurd (í e) (by rw[z];exact Τ _)
  .exact hn z
 refine⟨a,C,H',T,rfl,I.os,I.bare,⟨λb o e n hb _=>?_,λb o e n hb _=>?_,ub.free,λb o e hx=>?_,ub.tups,ub.frzs,ub.tbls⟩,λc o e=>?_,na,?_,fa,I.hok.no nT,iS,q⟩;.exact k1 b o (ub.keep b o e n hb Ò) (apart b o e).1 (apart b o e).2 (KU b o e hb)
 .obtain⟨sl,e1⟩:=ub.slot b o e n hb Ò;obtain⟨kN,e2⟩:=k2 b _ e1 (apart b o e).1 (apart b o e).2;exact⟨kN,e2⟩
 .obtain⟨o',e1⟩:=ub.there b o e hx;exact k3 b o' e1
 .refine(I.hok c o e).stay (λd v hd z=>?_) (λ_ z=>z) λ_ _ z=>z;have DE:∃o',H' d=some o':=by grind
  obtain⟨o',eo⟩:=DE;refine k1 d v z (λy=>(by rw[y,fa]at eo;cases eo)) (λy=>(by rw[(ft d y).2]at eo;cases eo)) λhm=>?_;rw[I.stkFree d hm]at eo;cases eo
 .exact I.was rfl nT
abbrev Ϙ(cs:ZX)(H:Hp):Prop:=∀b o,cs.lookup b=some o->H b=none
theorem ĳ.loose(DJ:û P w H s.heap)(fr:∀b o,cs.lookup b=some o->H b=some (.frz o (.ext λ_=>True))/\b∉Ė outer)(x:ĳ P w outer (er H cs) s (λe C H1=>Ϙ cs H1->E e C (fz H1 cs)) e s'):ĳ P w outer H s E e s':=by
 obtain⟨a,C,H1,T,rfl,os,bare,un,ok,na,nT,fa,fT,Lc,q⟩:=x;obtain⟨u,k⟩:=un.loose ok DJ fr;have no:∀b,s.heap.get? b=none->cs.lookup b=none:=λb z=>by cases y:cs.lookup b with|none=>rfl;|some o=>have:=(DJ b _ (fr b o y).1).1;rw[z]at this;cases this
 exact⟨a,C,_,T,rfl,os,bare,u,k,na,nT,by rw[dR (no a na)];exact fa,by rw[dR (no T nT)];exact fT,Lc,q λb o z=>un.free b o (DJ b _ (fr b o z).1).1 (mV z) Ò⟩
theorem IV{K:Frag}{outer:List Env}{s:Shared}{H:Hp}{Q:VK}{E:XK}{body:Expr}{vs:List V}{cs:ZX}{te:TE}{k:Nat}(Z:ķ fd body N)(hr:à k A)(e0:ĺ P w K mg base A outer s H)(DL:s.heap.get? fl=some ob)(ko:ob.data=.func fd)(eR:s.heap.CodeRec fd.code fd.qualname)(fr:∀b o,cs.lookup b=some o->H b=some (.frz o (.ext λ_=>True))/\b∉Ė outer)(cell:∀x c,fd.closure.lookup x=some c->∃o v,cs.lookup c=some o/\o.data=.cell v)(val:∀(i:Nat)(x:Str)(v:V),N[i]?=some x->vs[i]?=some v->∃c u o,fd.closure.lookup x=some c/\Ñ v u/\cs.lookup c=some o/\o.data=.cell (some u))(hl:vs.length=N.length)(kQ:PE (cxL P w K mg base N fd fl A outer s (er H cs) (λe C H1=>Ϙ cs H1->E e C (fz H1 cs))) body te)(h:te (vs.map some) (er H cs) λv H1=>Ϙ cs H1->Q v (fz H1 cs)):codeAny (model P w) A (.call (.ref fl) ⟨[],[]⟩) (CR (ĳ P w) outer P w H s Q E) s:=by
 have AS:∀b o,cs.lookup b=some o->s.heap.get? b=some o:=λb o q=>(e0.hok b _ (fr b o q).1).1;have Po:∀b,H b=none->er H cs b=none:=λb z=>by cases q:cs.lookup b with|some o=>exact mV q;|none=>rw[gA q];exact z
 have e1:ĺ P w K mg base A outer s (er H cs):=⟨e0.frames,e0.mod,λb o e=>⟨(e0.bs b o e).1,Po b (e0.bs b o e).2⟩,e0.bsz,e0.funs,λb hb=>Po b (e0.frf b hb),e0.hok.er λb o q=>(fr b o q).1,e0.bare⟩;refine kla_callFunE (by have:=hr.dp;lia) DL ko Z.co Z.ge Z.bd eR ?_;rw[Z.ba];refine Ó (wpAny_newFunctionEnv Z.fr (λx hx=>absurd hx Ò) (λh1 hn sb=>?_) Z.kd);have hk:∀b o,s.heap.get? b=some o->h1.get? b=some o:=λb o e=>(sb.2 b (ė (í e))).trans (ë _ e);refine⟨(e0.mod.nolimit.keeps λb o e=>(e0.bs b o e).1).keeps hk,?_⟩;have I:=IK (fl:=fl) (E:=λe C H1=>Ϙ cs H1->E e C (fz H1 cs)) (tk:=s.toks+0) Z hr.hd e1 hn hk (λx c e=>(let⟨o,v,q,d⟩:=cell x c e;⟨mV q,v,o,AS c o q,d⟩)) (λi x v e1 e2=>(let⟨c,u,o,a1,a2,a3,a4⟩:=val i x v e1 e2;⟨c,u,a1,a2,o,AS c o a3,a4⟩)) hl;refine kla_codeExpr (wpAny_mono (kQ [] _ _ _ _ I h) (λu s' hv=>?_) λe s' hx=>?_);.obtain⟨v,H1,J,r,q⟩:=hv;obtain⟨un,k⟩:=Un.loose (fs:=Ė outer) J.base J.hok e0.hok fr;exact⟨v,fz H1 cs,J.os,J.bare,un,k,r,q λb o z=>Un.free (fs:=Ė outer) (ex:=[]) J.base b o (AS b o z) (mV z) Ò⟩
 .exact wpAny_mono hx (λ_ lS z=>ĳ.loose e0.hok fr z) λe' lS z=>ĳ.loose e0.hok fr z
abbrev held(o:Obj):HO:=.frz o (.ext λ_=>True)
structure Ē(H:Hp)(fl:Addr)(fd:FuncData):Prop where
 ob:∃o,H fl=some (held o)/\o.data=.func fd
 cd:∃c oc vs t,fd.code=.ref c/\H c=some (held oc)/\oc.data=.fields vs/\vs[1]?=some (.str fd.qualname t)
def Lq(X:Cx)(i:Nat)(E:XK):TE:=λσ H Q=>∃(fl:Addr)(fd:FuncData)(body:Expr)(N:ó)(vs:List V)(cs:ZX)(te:TE),σ[i]?=some (some (.ref fl))/\Ē H fl fd/\ķ fd body N/\(∀b o,cs.lookup b=some o->H b=some (held o))/\(∀x c,fd.closure.lookup x=some c->∃o v,cs.lookup c=some o/\o.data=.cell v)/\(∀(i:Nat)(x:Str)(v:V),N[i]?=some x->vs[i]?=some v->∃c u o,fd.closure.lookup x=some c/\Ñ v u/\cs.lookup c=some o/\o.data=.cell (some u))/\vs.length=N.length/\(∀s,PE (cxL X.prog X.w X.K X.mg X.base N fd fl X.A X.stack s (er H cs) (λe C H1=>Ϙ cs H1->E e C (fz H1 cs))) body te)/\te (vs.map some) (er H cs) λv H1=>Ϙ cs H1->Q v (fz H1 cs)
theorem Lr{p pos:Pos}(hr:à k X.A)(hN:X.N[i]?=some x)(hv:Vis X.env.scope x)(W:wX X λa C H=>E (.ref a) (some C) H)(hx:X.ex=[])(hd:Ţ x:=by decide)(eR:(x==("__classdict__":Str))=false:=by decide):PE X (.Call (.Name x p) [] [] pos) (Lq X i E):=by
 intro Â s σ H Q I h;obtain⟨fl,fd,body,N,vs,cs,te,Ll,L,Z,fr,cell,val,hl,kQ,q⟩:=h;obtain⟨o,ho,ko⟩:=L.ob;have DL:s.heap.get? fl=some o:=(I.hok fl _ ho).1;refine wpAny_Call_Name_kw (Ú (yh (pos:=p) hN hv hd eR Â s σ H (λv H'=>v=.ref fl/\H'=H) I ⟨_,Ll,rfl,rfl⟩) λf s1=>?_);rintro⟨v,H1,I1,r1,z1,z2⟩;subst z1 z2;cases(show f=Value.ref fl from r1);have DL:s1.heap.get? fl=some o:=(I1.hok fl _ ho).1;refine callWith_F0 (by obtain⟨oc,od,dt,sl⟩:=o;exact⟨oc,od,fd,sl,by rw[DL];exact congrArg some (by rw[show dt=Data.func fd from ko])⟩) ?_;obtain⟨c,oc,ws,t,ec,hc,Lm,hw⟩:=L.cd;have Uz:s1.heap.CodeRec fd.code fd.qualname:=⟨c,oc,ws,t,ec,(I1.hok c _ hc).1,Lm,hw⟩;refine wpAny_call (codeAny_mono (IV (k:=k) Z hr I1.env0 DL ko Uz (λb ob e=>⟨fr b ob e,λhm=>?_⟩) cell val hl (kQ s1) q) λr s' hq=>?_);.have:=I1.stkFree b hm;rw[fr b ob e]at this;cases this
 .cases r with|error e=>exact JX W hx Â σ _ s1 e s' I1 hq;|ok iS=>cases iS with|ret u=>exact I1.after hq;|next=>exact False.elim hq;|brk=>exact False.elim hq;|cont=>exact False.elim hq
def Fe(H:Hp)(c:Addr)(q:Str):Prop:=∃oc vs t,H c=some (held oc)/\oc.data=.fields vs/\vs[1]?=some (.str q t)
def ç(H:Hp)(P:Addr)(q:Str):Prop:=∃ps,H P=some (.tbl ps)/\TriplesOk ps.toList/\∀l:Pos,codeAmong l ps.toList=none\/∃c,codeAmong l ps.toList=some (.ref c)/\Fe H c q
theorem ç.keep(x:ç H P q)(kp:∀ps,H P=some (.tbl ps)->H' P=some (.tbl ps))(kh:∀b o,H b=some (held o)->H' b=some (held o)):ç H' P q:=by
 obtain⟨ps,e,t,h⟩:=x;refine⟨ps,kp ps e,t,λl=>?_⟩;rcases h l with z|⟨c,z,oc,vs,t',y,r⟩;.exact .inl z
 .exact .inr ⟨c,z,oc,vs,t',kh _ _ y,r⟩
theorem ç.same(x:ç H P q)(s:Á H H'):ç H' P q:=x.keep (λ_=>s _ _) λ_ _=>s _ _
theorem CN:∀(a:â),TriplesOk a->codeAmong l (a++r)=(codeAmong l a).orElse λ_=>codeAmong l r:=λa h=>by fun_induction TriplesOk a with
 |case1=>simp[codeAmong];|case2 x t y u z rest ih=>
  simp only[List.cons_append,codeAmong];split;.rfl
  .exact ih h;|case3 a h1 h2=>exact h.elim
section
variable{T c fl:Addr}
theorem mX(e:h.get? b=some o):Ö P w H h b (held o):=⟨e,trivial,⟨o,e⟩,λ_ _ _ _=>trivial⟩
theorem Ob(hT:H T=some (.tbl ps))(ok:û P w H h)(k:∀b o,b≠T->h.get? b=some o->h'.get? b=some o)(hp:h'.get? T=some (tabObj (ps++more)))(hc:h.objs.size<=c)(hf:h.objs.size<=fl)(hcf:c≠fl)(ec:h'.get? c=some oc)(ef:h'.get? fl=some ob):Un fs [] H (upd (upd (upd H T (.tbl (ps++more))) c (held oc)) fl (held ob)) h h'/\û P w (upd (upd (upd H T (.tbl (ps++more))) c (held oc)) fl (held ob)) h':=by
 have nc:=ok.fresh hc;have nf:=ok.fresh hf;have lt:∀b u,H b=some u->b≠c/\b≠fl:=λb u e=>⟨aD e nc,aD e nf⟩;have nX:∀b u,b≠T->H b=some u->upd (upd (upd H T (.tbl (ps++more))) c (held oc)) fl (held ob) b=some u:=λb u n e=>by rw[aA (lt b u e).2,aA (lt b u e).1,aA n];exact e
 have atT:upd (upd (upd H T (.tbl (ps++more))) c (held oc)) fl (held ob) T=some (.tbl (ps++more)):=by rw[aA (lt T _ hT).2,aA (lt T _ hT).1,aa]
 have old:∀b o,h.get? b=some o->b≠c/\b≠fl:=λb o e=>⟨ė (ĸ (í e) hc),ė (ĸ (í e) hf)⟩;refine⟨⟨λb o e n _ _=>k b o (λz=>(by rw[z,hT]at n;cases n)) e,λb o e n _ _=>⟨o.slots,k b o (λz=>(by rw[z,hT]at n;cases n)) e⟩,λb o e n _=>?_,λb o e _=>?_,λb xs e=>nX b _ (λz=>(by rw[z,hT]at e;cases e)) e,λb o u e=>nX b _ (λz=>(by rw[z,hT]at e;cases e)) e,λb qs e=>?_⟩,λb u e=>?_⟩;.rw[aA (old b o e).2,aA (old b o e).1,aA λz=>(by rw[z,hT]at n;cases n)];exact n
 .by_cases z:b=T;.rw[z];exact⟨_,hp⟩
  .exact⟨o,k b o z e⟩
 .by_cases z:b=T;.subst z;rw[hT]at e;cases e;exact⟨more,atT⟩
  .exact⟨#[],by rw[Array.append_empty];exact nX b _ z e⟩
 .by_cases z1:b=fl;.subst z1;rw[aa]at e;cases e;exact mX ef
  .rw[aA z1]at e;by_cases z2:b=c;.subst z2;rw[aa]at e;cases e;exact mX ec
   .rw[aA z2]at e;by_cases z3:b=T;.subst z3;rw[aa]at e;cases e;exact hp
    .rw[aA z3]at e;refine(ok b u e).stay (λd v hd q=>k d v (λy=>?_) q) (λd q=>nX d _ (λy=>(by rw[y,hT]at q;cases q)) q) λd xs q=>nX d _ (λy=>(by rw[y,hT]at q;cases q)) q;subst y;rcases hd with y|y;.exact z3 y.symm
     .rw[hT]at y;cases y
end
def tMk(T:Addr)(q:Str)(params:Arguments)(body:Expr)(scope:Scope)(cl:List (Str×Addr))(N:ó):TE:=λ_ H Q=>ç H T q/\∀fl pm cv ct H1,(∀b o,b≠T->H b=some o->H1 b=some o)->ç H1 T q->H fl=none->Ē H1 fl (kla_fn "<lambda>" q params body scope cl pm cv ct)->ķ (kla_fn "<lambda>" q params body scope cl pm cv ct) body N->Q (.ref fl) H1
structure Z0k(X:Cx)(params:Arguments)(body:Expr)(scope:Scope)(N:ó):Prop where
 df:defaultsOf params X.env=([],[])kd:scope.kind=.function
 co:scope.isCoroutine=false
 ge:scope.isGenerator=false
 fr:∀p∈scope.names,p.2≠.cell
 fl:∀p∈scope.names,p.2=NameKind.free->X.env.kindOf p.1=some .cell\/X.env.kindOf p.1=some .free
 ba:∀qual cl pm cv ct,bindArgs (kla_fn "<lambda>" qual params body scope cl pm cv ct) ⟨[],[]⟩=pure []nm:∀x∈N,scope.names.lookup x=some .free
theorem xn(Z:Z0k X params body scope N)(dA:X.env.code=.ref cc)(hC:CodeHd X.base cc T)(hB:X.base.BuiltinsAt X.mg T):PE X (.Lambda params body scope aT) (tMk T (X.env.qual++"<lambda>") params body scope (cM X.env.cells scope.names []) N):=by
 intro Â s σ H Q I h;obtain⟨⟨ps,hT,tr,am⟩,q⟩:=h;have hs:∀p∈scope.names,p.2=NameKind.free->(X.env.cells.lookup p.1).isSome=true:=λp hp e=>by obtain⟨c,z⟩:=I.ok.has p.1 (Z.fl p hp e);rw[z];rfl
 have lam:∀qual pm cv ct,ķ (kla_fn "<lambda>" qual params body scope (cM X.env.cells scope.names []) pm cv ct) body N:=λqual pm cv ct=>⟨rfl,rfl,rfl,Z.kd,Z.co,Z.ge,Z.fr,λx hx=>lW _ _ (.inl ⟨_,PySem.mem_of_lookup hx,rfl⟩),λx y c h1 h2=>by
   rcases jy _ _ hs h1 with z|z;.cases z
   .rcases jy _ _ hs h2 with z2|z2;.cases z2
    .exact I.ok.inj x y c z z2,Z.ba _ _ _ _ _,Z.nm⟩;have hg:=I.mod.glob.keeps I.bk;have hP:s.heap.get? T=some (tabObj ps):=I.hok T _ hT;have UA:mainGlobals≠T:=λz=>by obtain⟨o,es,ep,e,_⟩:=I.mod.glob;have:=(I.bs _ _ e).2;rw[z,hT]at this;cases this
 have hb:s.heap.BuiltinsAt X.mg T:=by obtain⟨bm,o,b1,b2,b3,b4,b5,r⟩:=hB;exact⟨bm,o,b1,b2,b3,b4,I.bk _ _ b5,r⟩
 refine kla_eval Z.df ?_;rcases am aT with hn|⟨c,hf,oc,vs,t,hc,hd,hv⟩
 .refine kla_makeFunction (mg:=X.mg) (pH hs) I.ok.glob hg dA (hC.keeps I.bk) hP tr hn UA hb λc' sv h' tk hx mh av Lo DM=>?_;obtain⟨c₂,oc,vs,t,e2,FD,hd,hv⟩:=Lo;cases e2;obtain⟨un,ok⟩:=Ob (P:=X.prog) (w:=X.w) (fs:=Ė X.stack) (h':=h'.push (kla_obj "<lambda>" (X.env.qual++"<lambda>") params body scope (cM X.env.cells scope.names []) ((X.mg "__name__").getD .none) c' sv)) (fl:=h'.objs.size) hT I.hok (λb o n e=>ë _ (hx b o n e)) (ë _ DM) mh (ε mh (Zbd av)) (ė av) (ë _ FD) (Ę _ rfl);have J:=I.call (ch:=[]) (g':=s.gens) (t':=tk) (d':=s.drawn) un ok I.bare λb z=>absurd z Ò;have nc:H c'=none:=I.hok.fresh mh;have nf:H h'.objs.size=none:=I.hok.fresh (ε mh (Zbd av));have kp:∀b o,b≠T->H b=some o->upd (upd (upd H T (.tbl (ps++#[rawInt aT.line,rawInt aT.col,.ref c']))) c' (held oc)) h'.objs.size (held (kla_obj "<lambda>" (X.env.qual++"<lambda>") params body scope (cM X.env.cells scope.names []) ((X.mg "__name__").getD .none) c' sv)) b=some o:=λb o n e=>by rw[aA (aD e nf),aA (aD e nc),aA n];exact e
  have cd:Fe (upd (upd (upd H T (.tbl (ps++#[rawInt aT.line,rawInt aT.col,.ref c']))) c' (held oc)) h'.objs.size (held (kla_obj "<lambda>" (X.env.qual++"<lambda>") params body scope (cM X.env.cells scope.names []) ((X.mg "__name__").getD .none) c' sv))) c' (X.env.qual++"<lambda>"):=⟨oc,vs,t,by rw[aA (ė av),aa],hd,hv⟩;refine⟨.ref h'.objs.size,_,J,rfl,q _ ((X.mg "__name__").getD .none) (.ref c') sv _ kp ⟨ps++#[rawInt aT.line,rawInt aT.col,.ref c'],?_,?_,λl=>?_⟩ nf ⟨⟨_,aa,rfl⟩,?_⟩ (lam _ _ _ _)⟩;.rw[aA (aD hT nf),aA (aD hT nc),aa]
  .rw[Ι];exact TriplesOk_snoc _ _ _ _ tr
  .rw[Ι,CN _ tr];rcases am l with z|⟨c,z,UB,kr,t2,y,r⟩
   .rw[z];show codeAmong l [rawInt aT.line,rawInt aT.col,.ref c']=none\/_;simp only[codeAmong,rawInt];by_cases e:((aT.line:Int)==(l.line:Int)&&(aT.col:Int)==(l.col:Int))=true;.refine .inr ⟨c',?_,cd⟩;show codeAmong l [rawInt aT.line,rawInt aT.col,.ref c']=some (.ref c');simp only[codeAmong,rawInt];rw[Í e]
    .refine .inl ?_;rw[Ë e]
   .rw[z];exact .inr ⟨c,rfl,UB,kr,t2,kp _ _ (λw'=>by rw[w',hT]at y;cases y) y,r⟩
  .obtain⟨UC,UD,t3,a1,a2,a3⟩:=cd;exact⟨c',UC,UD,t3,rfl,a1,a2,a3⟩
 .refine kla_makeFunctionHit (mg:=X.mg) (pH hs) I.ok.glob hg dA (hC.keeps I.bk) hP tr hf hb λsv h' tk hk hsz=>?_;have J:=I.laid (a:=h'.objs.size) (o:=held (kla_obj "<lambda>" (X.env.qual++"<lambda>") params body scope (cM X.env.cells scope.names []) ((X.mg "__name__").getD .none) c sv)) (h':=h'.push (kla_obj "<lambda>" (X.env.qual++"<lambda>") params body scope (cM X.env.cells scope.names []) ((X.mg "__name__").getD .none) c sv)) (t':=tk) (λb u e=>ë _ (hk b u e)) hsz (mX (Ę _ rfl));have nf:H h'.objs.size=none:=I.hok.fresh hsz;have kp:Á H (upd H h'.objs.size (held (kla_obj "<lambda>" (X.env.qual++"<lambda>") params body scope (cM X.env.cells scope.names []) ((X.mg "__name__").getD .none) c sv))):=λb o e=>by rw[aA (aD e nf)];exact e
  exact⟨.ref h'.objs.size,_,J,rfl,q _ ((X.mg "__name__").getD .none) (.ref c) sv _ (λb o _ e=>kp b o e) (ç.same ⟨ps,hT,tr,am⟩ kp) nf ⟨⟨_,aa,rfl⟩,c,oc,vs,t,rfl,kp _ _ hc,hd,hv⟩ (lam _ _ _ _)⟩
structure ł(cl:List (Str×Addr))(N:ó)(vs:List V)(H:Hp)(cs:ZX):Prop where
 no:∀b o,cs.lookup b=some o->H b=none
 cell:∀x c,cl.lookup x=some c->∃o v,cs.lookup c=some o/\o.data=.cell v
 val:∀(i:Nat)(x:Str)(v:V),N[i]?=some x->vs[i]?=some v->∃c u o,cl.lookup x=some c/\Ñ v u/\cs.lookup c=some o/\o.data=.cell (some u)
theorem Oc:∀{l:ZX},l.lookup b=some o->(b,o)∈l|[],e=>by cases e;|(a,x)::r,e=>by rw[Zbc]at e;cases z:b==a with|true=>rw[z]at e;cases e;rw[eq_of_beq z];exact .head _;|false=>rw[z]at e;exact .tail _ (Oc e)
theorem tY:∀{fp:ă},(fG fp h).lookup b=some o->b∈fp/\h.get? b=some o:=λ{fp}e=>sI (p:=(b,o)) (Oc e)
theorem lJ(e:h.get? b=some o):∀{fp:ă},b∈fp->(fG fp h).lookup b=some o
 |[],z=>absurd z Ò|a::r,z=>by
  have un:fG (a::r) h=match(h.get? a).map (λo=>(a,o))with|some p=>p::fG r h|none=>fG r h:=by unfold fG;rw[Zak];cases(h.get? a).map (λo=>(a,o))<;>rfl
  rw[un];by_cases y:b=a;.subst y;rw[e];show List.lookup b ((b,o)::fG r h)=_;rw[Zbc,beq_self_eq_true]
  .have ih:=lJ e (fp:=r) ((Ļ.mp z).resolve_left y);cases q:h.get? a with|none=>exact ih;|some o'=>show List.lookup b ((a,o')::fG r h)=_;rw[Zbc,show(b==a)=false by simpa using y];exact ih
theorem xq:∀(l:List (Str×NameKind))(acc:List (Str×Addr)),q∈cM cells l acc->q∈acc\/∃k,(q.1,k)∈l/\k=NameKind.free/\q.2=(cells.lookup q.1).getD 0
 |[],_,h=>.inl h|(n,k)::r,acc,h=>by
  have h':q∈cM cells r (if k=.free then(n,(cells.lookup n).getD 0)::acc else acc):=h;rcases xq r _ h' with e|⟨k',e1,e2⟩
  .by_cases hk:k=.free
   .rw[Í hk]at e;rcases Ļ.mp e with z|z;.cases z;exact .inr ⟨k,ϫ,hk,rfl⟩
    .exact .inl z
   .rw[Ë hk]at e;exact .inl e
  .exact .inr ⟨k',Zai _ e1,e2⟩
def Ff(sp:Sp)(N:ó)(ix:List Nat)(cl:List (Str×Addr))(te:TE):TE:=λσ H Q=>te σ H λv H1=>∃vs:List V,vs.length=N.length/\(∀(j i:Nat)(u:V),ix[j]?=some i->vs[j]?=some u->σ[i]?=some (some u))/\∀cs,ł cl N vs H1 cs->sp [v] (fz H1 cs) (λv H2=>Q v (er H2 cs)) E0
theorem Ak{p pos:Pos}{scope:Scope}(F:Ê X.prog X.w X.K X.mg X.base Þ k f fd [y] sp)(hr:à k X.A)(hg:Gl X x)(hm:X.mg x=some (.ref f))(hk:PySem.W.keepIn X.K (.ref f)=true)(hb:ò X.K fd [y] [])(hx:X.ex=[])(hp:∀p∈scope.names,p.2=NameKind.free->X.env.kindOf p.1=some .cell/\X.fn p.1=true)(hN:∀(j:Nat)(x:Str),N[j]?=some x->∃i,ix[j]?=some i/\X.N[i]?=some x/\scope.names.lookup x=some .free)(ha:PE X arg te)(eW:Ţ x:=by decide)(he:starEach [arg] X.env=(false,eval arg X.env)::starEach [] X.env:=by rfl)(dQ:(backTo pos (starEach [] X.env)).any (·.1)=false:=by rfl):PE X (.Call (.Name x p) [arg] [] pos) (Ff sp N ix (cM X.env.cells scope.names []) te):=by
 intro Â s σ H Q I h;refine wpAny_Call_Name_kw (jO I hg hm ?_ eW);refine PySem.W.callWith_K (h₀:=X.base) I.ok.mod.kin hk (Ú (aN ha aj he pos Â s σ H (λvs H1=>∃ws:List V,ws.length=N.length/\(∀(j i:Nat)(u:V),ix[j]?=some i->ws[j]?=some u->σ[i]?=some (some u))/\∀cs,ł (cM X.env.cells scope.names []) N ws H1 cs->sp vs (fz H1 cs) (λv H2=>Q v (er H2 cs)) E0) I h) λus s1 z=>?_) he dQ;obtain⟨vs,H1,I1,r,ws,hw,gx,q⟩:=z;refine⟨I1.kIn,?_⟩;have hs:∀p∈scope.names,p.2=NameKind.free->(X.env.cells.lookup p.1).isSome=true:=λp iX e=>by obtain⟨c,z⟩:=I1.ok.has p.1 (.inl (hp p iX e).1);rw[z];rfl
 have sub:∀x c,(cM X.env.cells scope.names []).lookup x=some c->X.env.cells.lookup x=some c:=λx c e=>by
  rcases jy _ _ hs e with z|z;.cases z
  .exact z
 have at':∀b∈(cM X.env.cells scope.names []).map (·.2),∃x,X.env.cells.lookup x=some b/\X.fn x=true:=λb fq=>by
  obtain⟨q',UE,rfl⟩:=Ā.mp fq;rcases xq _ _ UE with z|⟨k',eC,rfl,e⟩;.cases z
  .obtain⟨c,hc⟩:=Zay.mp (hs _ eC rfl);refine⟨q'.1,?_,(hp _ eC rfl).2⟩;rw[e,show X.env.cells.lookup q'.1=some c from hc];rfl
 obtain⟨cs,F6⟩:∃cs,cs=fG ((cM X.env.cells scope.names []).map (·.2)) s1.heap:=⟨_,rfl⟩;have Pp:∀x c,(cM X.env.cells scope.names []).lookup x=some c->c∈(cM X.env.cells scope.names []).map (·.2):=λx c e=>Ā.mpr ⟨(x,c),PySem.mem_of_lookup e,rfl⟩;have L:Β H1 s1.heap (Ė X.stack) cs:=λb o e=>by
  rw[F6]at e;obtain⟨fq,e'⟩:=tY e;obtain⟨x',dv,mS⟩:=at' b fq;refine⟨e',I1.freeC x' b dv,λz=>?_⟩;rcases Ļ.mp (I1.stkSub b z)with y'|y';.exact I1.cne x' b dv y'
  .obtain⟨_,o',ij,_⟩:=I1.ok.funs.mem y';exact absurd (ĸ (í ij) (I1.ok.cab x' b mS dv)) (Τ _)
 have C:ł (cM X.env.cells scope.names []) N ws H1 cs:=by
  refine⟨λb o e=>(L b o e).2.1,λx' c e=>?_,λi x' v e1 e2=>?_⟩;.obtain⟨v,o,ho,hd⟩:=I1.cell x' c (sub x' c e);exact⟨o,v,by rw[F6];exact lJ ho (Pp x' c e),hd⟩
  .obtain⟨j,e3,e4,e5⟩:=hN i x' e1;obtain⟨m,hn,hl⟩:=I1.loc;have Pt:=(hp (x',.free) (PySem.mem_of_lookup e5) rfl).1;obtain⟨u,ru,lk⟩:=hl j x' v e4 (gx i j v e3 e2) (.inr (.inl Pt));rcases lk with⟨kl,_⟩|⟨_,c,ec,o,ho,hd⟩;.rw[Pt]at kl;cases kl
   .obtain⟨c',aw⟩:=lW (cells:=X.env.cells) (x:=x') scope.names [] (.inl ⟨_,PySem.mem_of_lookup e5,rfl⟩);have:=sub x' c' aw;rw[ec]at this;cases this;exact⟨c,u,o,aw,ru,by rw[F6];exact lJ ho (Pp x' c aw),hd⟩
 have q:=q cs C;have hok:=I1.hok.fz L;have e0:ĺ X.prog X.w X.K X.mg X.base X.A X.stack s1 (fz H1 cs):=by
  have e1:=I1.env0;refine⟨e1.frames,e1.mod,λb o e=>⟨(e1.bs b o e).1,?_⟩,e1.bsz,e1.funs,λb fq=>?_,hok,e1.bare⟩;.cases z:cs.lookup b with|none=>rw[dR z];exact(e1.bs b o e).2;|some o'=>have z':=z;rw[F6]at z';obtain⟨x',dv,mS⟩:=at' b (tY z').1;exact absurd (ĸ (í (I1.ok.bs b o e).1) (I1.ok.cab x' b mS dv)) (Τ _)
  .cases z:cs.lookup b with|none=>rw[dR z];exact e1.frf b fq;|some o'=>exact absurd fq (L b o' z).2.2
 have hl:(us++[]).length=[y].length:=by rw[ļ,<-r.length];exact F.len _ _ _ _ q
 have DH:=hb s1 us I1.kIn hl;rw[ļ]at DH;refine wpAny_call (codeAny_mono (F.run X.A X.stack s1 (fz H1 cs) ⟨us,[]⟩ us vs _ E0 hr e0 DH r q) λrr s' hq=>?_);cases rr with|error e=>exact(show False from hq).elim;|ok fl=>cases fl with|ret u=>obtain⟨v,H2,os,bare,un,nE,rv,qq⟩:=hq;obtain⟨un',IS,_⟩:=un.held nE L;exact I1.after (Q:=Q) ⟨v,er H2 cs,os,bare,un',IS,rv,qq⟩;|next=>exact False.elim hq;|brk=>exact False.elim hq;|cont=>exact False.elim hq
def qK(scope sc:Scope)(NX N:ó)(ix:List Nat):Bool:=decide (scope.kind=.function)&&!scope.isCoroutine&&!scope.isGenerator&&scope.names.all (λp=>decide (p.2≠NameKind.cell)&&(decide (p.2≠NameKind.free)||decide (sc.names.lookup p.1=some NameKind.cell)))&&(N.zip ix).all (λq=>decide (NX[q.2]?=some q.1)&&decide (scope.names.lookup q.1=some NameKind.free))&&decide (N.length=ix.length)
theorem Fg{p pos aT:Pos}(F:Ê X.prog X.w X.K X.mg X.base Þ k f fd [y] sp)(hr:à k X.A)(hg:Gl X x)(hm:X.mg x=some (.ref f))(hk:PySem.W.keepIn X.K (.ref f)=true)(hb:ò X.K fd [y] [])(hx:X.ex=[])(mS:∀x,X.fn x=true)(dA:X.env.code=.ref cc)(hC:CodeHd X.base cc T)(hB:X.base.BuiltinsAt X.mg T)(DO:X.env.scope=sc)(DS:X.N=NX)(rk:defaultsOf params X.env=([],[]))(Lu:∀qual cl pm cv ct,bindArgs (kla_fn "<lambda>" qual params body scope cl pm cv ct) ⟨[],[]⟩=pure [])(ok:qK scope sc NX N ix=true)(eW:Ţ x:=by decide)(he:starEach [.Lambda params body scope aT] X.env=(false,eval (.Lambda params body scope aT) X.env)::starEach [] X.env:=by rfl)(dQ:(backTo pos (starEach [] X.env)).any (·.1)=false:=by rfl):PE X (.Call (.Name x p) [.Lambda params body scope aT] [] pos) (Ff sp N ix (cM X.env.cells scope.names []) (tMk T (X.env.qual++"<lambda>") params body scope (cM X.env.cells scope.names []) N)):=by
 subst DO DS;unfold qK at ok;simp only[Bool.and_eq_true,ċ,Bool.not_eq_true',List.all_eq_true,Bool.or_eq_true]at ok;obtain⟨⟨⟨⟨⟨kd,co⟩,ge⟩,AU⟩,zs⟩,hl⟩:=ok;have kc:∀p∈scope.names,p.2=NameKind.free->X.env.kindOf p.1=some .cell:=λp hp e=>by
  rcases(AU p hp).2 with z|z;.exact absurd e z
  .exact z
 have hz:∀(j:Nat)(x:Str),N[j]?=some x->∃i,ix[j]?=some i/\X.N[i]?=some x/\scope.names.lookup x=some .free:=λj x e=>by have hj:=(ġ.mp e).1;have e2:ix[j]?=some (ix[j]'À):=é À;have:=zs (x,ix[j]'À) (Ŋ (i:=j) (by rw[List.getElem?_zip_eq_some];exact⟨e,e2⟩));exact⟨_,e2,this.1,this.2⟩
 refine Ak F hr hg hm hk hb hx (λp hp e=>⟨kc p hp e,mS _⟩) hz (xn ⟨rk,kd,co,ge,λp hp=>(AU p hp).1,λp hp e=>.inl (kc p hp e),Lu,λx hx=>?_⟩ dA hC hB) eW he dQ;obtain⟨j,e⟩:=List.mem_iff_getElem?.mp hx;obtain⟨_,_,_,z⟩:=hz j x e;exact z
theorem ß.okC{K:Frag}{st:Stmt}{f cc:Addr}{fd:FuncData}{N ps:ó}{k:Nat}{sp:Sp}(F:ß K x qual st f fd)(hc:fd.code=.ref cc)(S:Ã N ps (az st))(len:∀vs H Q E,sp vs H Q E->vs.length=ps.length)(ar:∀(A:Around)(outer:List Env)(s:Shared)(H:Hp)(vs:List V)(Q:VK)(E:XK),à k (A.deeper (envOfC qual (az st) s.heap.objs.size f (.ref cc)))->sp vs H Q E->∃t,Ķ (iT Þ P w K mg base N qual (az st) f (.ref cc) A outer s H E).nox (cC st) t/\t {nx:=λ_ H'=>Q .non H',rt:=Q} (start N vs) H):Ê P w K mg base Þ (k+1) f fd ps sp:=by obtain⟨oc,od,kV,doc,pm,an,cdv,ct,lT,rfl,lk,eR⟩:=F.ex;subst hc;refine DN lk eR S len λA outer s H vs Q E hr iF=>?_;obtain⟨t,h,q⟩:=ar A outer s H vs Q E hr iF;exact⟨t,h.nox,q⟩
theorem ß.oqC{K:Frag}{st:Stmt}{f cc:Addr}{fd:FuncData}{N ps:ó}{k:Nat}{sp:Sp}(F:ß K x qual st f fd)(hc:fd.code=.ref cc)(S:Ã N ps (az st))(ar:∀(A:Around)(outer:List Env)(s:Shared)(H:Hp)(vs:List V)(Q:VK)(E:XK),à k (A.deeper (envOfC qual (az st) s.heap.objs.size f (.ref cc)))->sp vs H Q E->∃t,Ķ (iT Þ P w K mg base N qual (az st) f (.ref cc) A outer s H E).nox (cC st) t/\t {nx:=λ_ H'=>Q .non H',rt:=Q} (start N vs) H)(len:ό sp ps:=by exact{}):Ê P w K mg base Þ (k+1) f fd ps sp:=F.okC hc S len.h ar
section
mutual
theorem É.kp(k:∀b o,(∀ps,o≠HO.tbl ps)->(∀ob u,o≠HO.frz ob u)->H b=some o->H' b=some o)(hS:∀b o,(∀ps,o≠HO.tbl ps)->(∀ob u,o≠HO.frz ob u)->S b->H b=some o->S' b):∀{v:V}{d:PyData},É S H v d->É S' H' v d|_,_,.non=>.non|_,_,.bl b=>.bl b|_,_,.int i=>.int i|_,_,.str x=>.str x|_,_,.lst s e r=>.lst (hS _ _ (λ_ z=>by cases z) (λ_ _ z=>by cases z) s e) (k _ _ (λ_ z=>by cases z) (λ_ _ z=>by cases z) e) (Å.kp k hS r)|_,_,.tup e r=>.tup (k _ _ (λ_ z=>by cases z) (λ_ _ z=>by cases z) e) (Å.kp k hS r)|_,_,.dct s e=>.dct (hS _ _ (λ_ z=>by cases z) (λ_ _ z=>by cases z) s e) (k _ _ (λ_ z=>by cases z) (λ_ _ z=>by cases z) e)
theorem Å.kp(k:∀b o,(∀ps,o≠HO.tbl ps)->(∀ob u,o≠HO.frz ob u)->H b=some o->H' b=some o)(hS:∀b o,(∀ps,o≠HO.tbl ps)->(∀ob u,o≠HO.frz ob u)->S b->H b=some o->S' b):∀{vs:List V}{ds:ü},Å S H vs ds->Å S' H' vs ds|_,_,.nil=>.nil|_,_,.cons h t=>.cons (É.kp k hS h) (Å.kp k hS t)
end
theorem É.tbl(h:É S H v d)(t:ç H T q)(k:∀b o,b≠T->H b=some o->H' b=some o):É S H' v d:=h.kp (λb o n1 _ e=>k b o (λz=>by obtain⟨ps,y,_⟩:=t;rw[z,y]at e;cases e;exact n1 _ rfl) e) λ_ _ _ _ s _=>s
theorem Od(no:Ϙ cs H):er (fz H cs) cs=H:=by funext b;cases q:cs.lookup b with|some o=>rw[mV q,no b o q];|none=>rw[gA q,dR q]
theorem Á.fz(s:Á H H'):Á (L2.fz H cs) (L2.fz H' cs):=λb o e=>by cases q:cs.lookup b with|some u=>rw[tX q]at e⊢;exact e;|none=>rw[dR q]at e⊢;exact s b o e
theorem Al(s:Á (fz H cs) H1)(n:∀ob u,o≠HO.frz ob u)(e:H1 b=some o):er H1 cs b=some o:=by cases q:cs.lookup b with|some u=>rw[s b _ (tX q)]at e;cases e;exact absurd rfl (n _ _);|none=>rw[gA q];exact e
theorem Á.er(s:Á (L2.fz H cs) H1)(no:Ϙ cs H):Á H (L2.er H1 cs):=λb o e=>by cases q:cs.lookup b with|some u=>rw[no b u q]at e;cases e;|none=>rw[gA q];exact s b o (by rw[dR q];exact e)
end
theorem CP{K:Frag}{fa a c T:Addr}{fd:FuncData}{x qn:Str}{sp:Sp}{s₁:Shared}{vs:â}{ns:VV}(KX:K.In s₁.heap)(Lv:s₁.heap.Ns mainGlobals mg)(hb:s₁.heap.Ns builtinsNs mb)(UG:∀x:Str,x≠"__name__"->mb x=bootBuiltins x)(LA:s₁.heap.NoLimit)(hg:s₁.gens=#[])(hC:CodeHd s₁.heap c T)(hT:s₁.heap.get? T=some (tabObj #[]))(hK:noTabs K=true)(bmain:∃bm ob,mg "__builtins__"=some (.ref bm)/\bm≠builtinsNs/\s₁.heap.get? bm=some ob/\ob.cls=.type "module"/\ob.dict=some builtinsNs/\ob.data=.plain)(ha:s₁.heap.get? a=some {cls:=.type "list",data:=.seq vs.toArray})(hi:IntsAre vs ns)(hl:ns.length<=sizeLine)(hr:à k callerA)(F:∀base:Heap,K.In base->base.Ns mainGlobals mg->CodeHd base c T->base.BuiltinsAt mg T->Ê P w K mg base CX k fa fd [x] sp)(DT:∀(s:Shared)(u:Value),BindsTo s fd ⟨[u],[]⟩ [(x,u)])(iF:∀H:Hp,Ï K H a (ns.map V.int)->ç H T qn->sp [.ref a] H (λv _=>v=.bl true) λ_ _ _=>False)(LB:∀(H:Hp)(e:Value)(s':Shared),CX [] H s₁ (λ_ _ _=>False) e s'->False):codeAny (model P w) callerA (.call (.ref fa) ⟨[.ref a],[]⟩) (λr s'=>r=.ok (.ret (.bool true))/\OldK s₁.heap s'.heap/\s'.os=s₁.os/\AllBare s'.gens) s₁:=by
 have rv:=sX hi;have LD:=hi.length;have neT:a≠T:=λz=>by rw[z,hT]at ha;cases ha
 have UH:K.lookup T=none:=by cases e:K.lookup T with|none=>rfl;|some o=>have h1:=KX _ _ e;rw[hT]at h1;cases h1;have h2:=ŀ.mp hK _ (mem_of_lookupK e);exact absurd (show false=true from h2) Ō
 have core:∀H:Hp,H T=some (.tbl #[])->(∀b,b≠T->H b=none\/∃o xs,H b=some (.frz o (.lst xs)))->Ï K H a (ns.map V.int)->û P w H s₁.heap->(∀b,H b≠none->b=a\/b=T)->(H a≠none->K.lookup a=none)->codeAny (model P w) callerA (.call (.ref fa) ⟨[.ref a],[]⟩) (λr s'=>r=.ok (.ret (.bool true))/\OldK s₁.heap s'.heap/\s'.os=s₁.os/\AllBare s'.gens) s₁:=by
  intro H eT hO hS hok hA UI;have eJ:∀{b:Addr}{o:Obj},s₁.heap.get? b=some o->H b=none->(pP s₁.heap H).get? b=some o:=λe n=>Du e n;have apart:∀{b:Addr}{o:Obj},s₁.heap.get? b=some o->(∀its n,o.data≠.seq its n)->o.cls≠.none->H b=none:=λ{b o}e h1 h2=>by grind
  have Cc:∀{b:Addr}{o:Obj}{es:Array DictEntry}{ep:Nat},s₁.heap.get? b=some o->o.data=.dict es ep->H b=none:=λ{b o es ep}e d=>by cases q:H b with|none=>rfl;|some u=>
    rcases hA b (by rw[q];simp)with z|z;.rw[z,ha]at e;cases e;cases d
    .rw[z,hT]at e;cases e;cases d
  have F7:∀{b:Addr}{m:Ti},s₁.heap.Ns b m->(pP s₁.heap H).Ns b m:=λ{b m}⟨o,es,ep,e,d,r⟩=>⟨o,es,ep,eJ e (Cc e d),d,r⟩;have Pw:K.In (pP s₁.heap H):=λb o e=>eJ (KX b o e) (by cases q:H b with|none=>rfl;|some u=>
    rcases hA b (by rw[q];simp)with z|z;.subst z;rw[UI (by rw[q];simp)]at e;cases e
    .rw[z,UH]at e;cases e);have hM:Mod K mg (pP s₁.heap H):=⟨Pw,F7 Lv,⟨mb,F7 hb,UG⟩,let⟨mc,h1,h2⟩:=LA;⟨mc,F7 h1,h2⟩⟩;have e0:ĺ P w K mg (pP s₁.heap H) callerA [] s₁ H:=⟨rfl,hM,λb o e=>Hy e,Nat.le_of_eq (Bt _ _),trivial,λb hb=>absurd (show b∈([]:ă)from hb) Ò,hok,.of_eq hg⟩;have UJ:CodeHd (pP s₁.heap H) c T:=by obtain⟨o,UK,file,tf,flags,tg,CH,text,tt,e,h1,h2,r⟩:=hC;exact⟨o,UK,file,tf,flags,tg,CH,text,tt,eJ e (apart e (λits n z=>by rw[h2]at z;cases z) λz=>by rw[h1]at z;cases z),h1,h2,r⟩
  have UL:(pP s₁.heap H).BuiltinsAt mg T:=by
   obtain⟨bm,ob,b1,b2,b3,b4,b5,b6⟩:=bmain;refine⟨bm,ob,b1,b2,λz=>?_,λz=>?_,eJ b3 (apart b3 (λits n z=>by rw[b6]at z;cases z) λz=>by rw[b4]at z;cases z),b4,b5,b6⟩;.obtain⟨o,es,ep,e,d,_⟩:=Lv;rw[z,e]at b3;cases b3;rw[d]at b6;cases b6
   .rw[z,hT]at b3;cases b3;cases b4
  refine codeAny_mono ((F _ Pw (F7 Lv) UJ UL).run callerA [] s₁ H ⟨[.ref a],[]⟩ [.ref a] [.ref a] _ _ hr e0 (DT s₁ (.ref a)) (.cons rfl .nil) (iF H hS ⟨#[],eT,trivial,λl=>.inl rfl⟩)) λr s' h=>?_;cases r with|error e=>exact(LB H e s' h).elim;|ok fl=>cases fl with|next=>exact False.elim h;|brk=>exact False.elim h;|cont=>exact False.elim h;|ret u=>
    obtain⟨v,H',os,bare,un,DU,r',q⟩:=h;have q':v=.bl true:=q;subst q';obtain rfl:u=Value.bool true:=r';have kept:∀b o,b≠T->s₁.heap.get? b=some o->s'.heap.get? b=some o:=λb o nb e=>by
     rcases hO b nb with z|⟨ob,xs,z⟩;.exact un.keep b o e z (by intro z;exact absurd (show b∈([]:ă)from z) Ò) Ò
     .have z2:=un.frzs b ob _ z;obtain⟨e1,_⟩:=hok b _ z;obtain⟨e2,_⟩:=DU b _ z2;rw[e]at e1;cases e1;exact e2
    obtain⟨more,UM⟩:=un.tbls T #[] eT;have PD:s'.heap.get? T=some (tabObj (#[]++more)):=DU T _ UM;refine⟨rfl,⟨λb o e=>?_,λb o e=>?_⟩,os,bare⟩
    .by_cases z:b=T;.subst z;rw[hT]at e;cases e;exact .inr (.inl ⟨(hC.tab hT).isCodeTable,rfl,#[],more,rfl,PD⟩)
     .exact .inl (kept b o z e)
    .by_cases z:b=T;.rw[z];exact⟨_,PD⟩
     .exact⟨o,kept b o z e⟩
 cases hk:K.lookup a with|some o=>
  have e:=KX a o hk;rw[ha]at e;cases e;refine core (λb=>if b=T then some (.tbl #[])else none) (Í rfl) (λb nb=>.inl (Ë nb)) (.inr ⟨_,vs.toArray,_,hk,rfl,rfl,rfl,by rw[ć,LD];exact hl,by simpa using rv⟩) (λb u z=>?_) (λb z=>?_) λz=>absurd (Ë neT) z
  .by_cases fq:b=T;.have z':=(Í fq).symm.trans z;cases z';subst fq;exact hT
   .have z':=(Ë fq).symm.trans z;cases z'
  .by_cases fq:b=T;.exact .inr fq
   .exact absurd (Ë fq) z;|none=>
  refine core (λb=>if b=T then some (.tbl #[])else if b=a then some (.frz {cls:=.type "list",data:=.seq vs.toArray} (.lst (ns.map V.int)))else none) (Í rfl) (λb nb=>?_) (.inl (.inr ⟨{cls:=.type "list",data:=.seq vs.toArray},(Ë neT).trans (Í rfl)⟩)) (λb u z=>?_) (λb z=>?_) λ_=>hk
  .by_cases fq:b=a;.exact .inr ⟨_,_,(Ë nb).trans (Í fq)⟩
   .exact .inl ((Ë nb).trans (Ë fq))
  .by_cases oj:b=T;.have z':=(Í oj).symm.trans z;cases z';subst oj;exact hT
   .by_cases fq:b=a;.have z':=((Ë oj).trans (Í fq)).symm.trans z;cases z';subst fq;exact⟨ha,by rw[Ý];exact hl,vs,_,rv,ha⟩
    .have z':=((Ë oj).trans (Ë fq)).symm.trans z;cases z'
  .by_cases oj:b=T;.exact .inr oj
   .by_cases fq:b=a;.exact .inl fq
    .exact absurd ((Ë oj).trans (Ë fq)) z
theorem walk_ofT{l:PySem.W.OpenLaw}{K:Params->Frag}{CX:World->CXT}{sp:World->Sp}{x nm qn:Str}{c T:Addr}(hn:l.most=some n)(xb:n<=sizeLine)(rk:d.params.defaults=[])(hr:à k callerA)(hY:∀(w:World)(h:Heap),YP w h->(K w.params).In h)(LF:(recsOf q).find? (λe=>e.name==nm)=some dr)(DM:∀p:Params,tabIn (K p) nm=some (c,T))(AV:∀p:Params,noTabs (K p)=true)(F:∀(w:World)(mg:Ti)(fa:Addr)(h:Heap),(K w.params).In h->h.Ns mainGlobals mg->mg d.name=some (.ref fa)->∃fd:FuncData,(∀(s:Shared)(u:Value),BindsTo s fd ⟨[u],[]⟩ [(x,u)])/\∀base:Heap,(K w.params).In base->base.Ns mainGlobals mg->CodeHd base c T->base.BuiltinsAt mg T->Ê l.prog w (K w.params) mg base (CX w) k fa fd [x] (sp w))(iF:∀(w:World)(H:Hp)(a:Addr)(ns:VV),ns.length<=n->Ï (K w.params) H a (ns.map V.int)->ç H T qn->sp w [.ref a] H (λv _=>v=.bl true) λ_ _ _=>False)(LB:∀(w:World)(H:Hp)(s:Shared)(e:Value)(s':Shared),CX w [] H s (λ_ _ _=>False) e s'->False):PySem.W.WalkO q loose XP YP l.row.toRowW d [] (λf vs=>PySem.call f vs):=by refine Att.attach_call hn rk λw s₀ s₁ mg mb fa o pm cd doc a vs ns G Y ho hd eR hmg wq hints hlen hg=>?_;have KX:=hY w _ Y;obtain⟨fd,hb,hF⟩:=F w mg fa _ KX G.T.g hmg;obtain⟨hC,hT⟩:=tab_of G.T KX LF (DM w.params);exact CP KX G.T.g G.T.b G.T.builtins G.T.nolimit hg hC hT (AV w.params) G.T.bmain wq hints (ε hlen xb) hr hF hb (λH hS UN=>iF w H a ns hlen hS UN) λH e s'=>LB w H s₁ e s'
end L2
namespace L2.Z3
open PySem PySem.Spec PyProof.Rows PySem.Calls
theorem tc3(a b c:Value):checkTypeCall "zip" ⟨[a,b,c],[]⟩=pure ():=by kernel_rfl
theorem nc3(a b c:Value):checkBuiltinCall "zip.__new__" ⟨[.type "zip",a,b,c],[]⟩=pure ():=by kernel_rfl
theorem oi4(a b c d:Value):argsOk "object.__init__" ⟨[a,b,c,d],[]⟩:=by rfl
theorem Ls:typeLookup (.type "zip") "__len__"=pure none:=by rw[typeLookup_type];kernel_rfl
theorem IW:typeLookup (.type "zip") "__length_hint__"=pure none:=by rw[typeLookup_type];kernel_rfl
abbrev Δ(h:Heap)(z TI TO:Addr)(f0 f1:Value):Prop:=h.get? z=some {cls:=.type "zip",dict:=none,data:=.fields #[f0,f1,.bool false,.ref TI,.ref TO],slots:=#[]}
abbrev iY(h:Heap)(T:Addr)(a b c:Value):Prop:=h.get? T=some {cls:=.type "tuple",data:=.seq #[a,b,c]}
theorem nn{a b:Nat}(h:a≠b):@Ne Addr a b:=h
structure ğ(l1 l2 l3 i1 i2 i3 TI TO z:Nat):Prop where
 a1:l1<i1
 a2:l2<i1
 a3:l3<i1
 b1:i1<i2
 b2:i2<i3
 b3:i3<TI
 b4:TI<TO
 b5:TO<z
structure St(l1 l2 l3 i1 i2 i3 TI TO z:Nat)(xs ys zs:ĵ)(S:Nat)(i:Nat)(h:Heap):Prop where
 z0:(i=0/\Δ h z TI TO .none (.bool false))\/∃(a:Nat)(oa:Obj)(f:Bool),Δ h z TI TO (rawInt a) (.bool f)/\h.get? a=some oa/\z<a/\a≠S
 ti:iY h TI (.ref i1) (.ref i2) (.ref i3)to:∃a b c,iY h TO a b c
 p1:h.IsListIter i1 l1 i
 p2:h.IsListIter i2 l2 i
 p3:h.IsListIter i3 l3 i
 q1:h.IsList l1 xs
 q2:h.IsList l2 ys
 q3:h.IsList l3 zs
section
variable{l1 l2 l3 i1 i2 i3 TI TO z:Nat}
theorem Lw(hT:iY s.heap T a b c)(h:∀h',h'.get? T=some {cls:=.type "tuple",data:=.seq ((#[a,b,c]:ĵ).setIfInBounds k x)}->Heap.SameBut T s.heap h'->Q () {s with heap:=h'}):wpAny (model prog w) A (updateSeq T (·.setIfInBounds k x)) Q E s:=by refine wpAny_updateSeq hT rfl (h _ ?_ (Heap.SameBut.update ..));rw[Heap.get?_update_self _ hT rfl];simp[Obj.mapSeq]
theorem J0{Q:Tc}(D:ğ l1 l2 l3 i1 i2 i3 TI TO z)(hz:Δ s.heap z TI TO .none (.bool false))(rS:iY s.heap TI (.ref i1) (.ref i2) (.ref i3))(FU:iY s.heap TO a b c)(h1:s.heap.IsListIter i1 l1 k)(h2:s.heap.IsListIter i2 l2 k)(h3:s.heap.IsListIter i3 l3 k)(q1:s.heap.IsList l1 xs)(q2:s.heap.IsList l2 ys)(q3:s.heap.IsList l3 zs)(hx:xs[k]?=some x)(hy:ys[k]?=some y)(hv:zs[k]?=some v)(hQ:∀h',Δ h' z TI TO (rawInt s.heap.objs.size) (.bool false)->iY h' TO x y v->h'.IsListIter i1 l1 (k+1)->h'.IsListIter i2 l2 (k+1)->h'.IsListIter i3 l3 (k+1)->iY h' s.heap.objs.size x y v->h'.objs.size=s.heap.objs.size+1->(∀c o,c≠z->c≠TO->c≠i1->c≠i2->c≠i3->s.heap.get? c=some o->h'.get? c=some o)->Q (.ref s.heap.objs.size) {s with heap:=h'}):wpAny (model prog w) A (Builtin.«zip.__next__» ⟨[.ref z],[]⟩) (λfin s'=>∃v,fin=.done (.ret v)/\Q v s') E s:=by
 obtain⟨a1,a2,a3,b1,b2,b3,b4,b5⟩:=D;show wpAny _ _ (field (.ref z) 2>>=_) _ _ _;refine Ä (wpAny_field hz rfl (x:=.bool false) rfl ?_);show wpAny _ _ (field (.ref z) 3>>=_) _ _ _;refine Ä (wpAny_field hz rfl (x:=.ref TI) rfl ?_);refine Ä (wpAny_seqItems rS rfl ?_);refine Ä ?_;unfold Builtin.SmallTypes.ownedTupleIsFree;refine Ä (wpAny_field hz rfl (x:=.none) rfl (Ó ?_));simp only[if_true];refine Ä (wpAny_rule ?_);refine Ä (wpAny_field hz rfl (x:=.ref TO) rfl ?_);refine Ä (wpAny_setField_rec hz Ò λg1 LG s1=>?_);replace LG:Δ g1 z TI TO .ellipsis (.bool false):=LG;refine Ä ?_;simp only[List.zipIdx_cons,List.zipIdx_nil,List.forIn_cons,List.forIn_nil];refine Ä (Ä (wpAny_onRaise ?_));show wpAny _ _ (Builtin.SmallTypes.nextOf (.ref i1)>>=_) _ _ _;refine Ä (wpAny_nextOf_list_item (h1.extBut s1.extBut (nn À)) (q1.extBut s1.extBut (nn À)) hx λg2 p1 s2=>Ó ?_);have t2:iY g2 TO a b c:=s2.extBut _ _ (nn À) (s1.extBut _ _ (nn À) FU);refine Ä (wpAny_seqItems t2 rfl ?_);refine Ä (Lw t2 λg3 t3 s3=>?_);replace t3:iY g3 TO x b c:=t3;refine Ä (wpAny_letGo (Ó ?_));have k3:∀d o,d≠z->d≠TO->d≠i1->s.heap.get? d=some o->g3.get? d=some o:=λd o n1 n2 n3 e=>s3.extBut _ _ n2 (s2.extBut _ _ n3 (s1.extBut _ _ n1 e));refine Ä (Ä (wpAny_onRaise ?_));show wpAny _ _ (Builtin.SmallTypes.nextOf (.ref i2)>>=_) _ _ _;refine Ä (wpAny_nextOf_list_item (h2.at λo e=>k3 _ o (nn À) (nn z03) (nn À) e) (q2.at λo e=>k3 _ o (nn À) (nn z03) (nn À) e) hy λg4 p2 s4=>Ó ?_);have t4:iY g4 TO x b c:=s4.extBut _ _ (nn À) t3;refine Ä (wpAny_seqItems t4 rfl ?_);refine Ä (Lw t4 λg5 t5 s5=>?_);replace t5:iY g5 TO x y c:=t5;refine Ä (wpAny_letGo (Ó ?_));have k5:∀d o,d≠TO->d≠i2->g3.get? d=some o->g5.get? d=some o:=λd o n1 n2 e=>s5.extBut _ _ n1 (s4.extBut _ _ n2 e);refine Ä (Ä (wpAny_onRaise ?_));show wpAny _ _ (Builtin.SmallTypes.nextOf (.ref i3)>>=_) _ _ _;refine Ä (wpAny_nextOf_list_item (h3.at λo e=>k5 _ o (nn À) (nn À) (k3 _ o (nn À) (nn À) (nn À) e)) (q3.at λo e=>k5 _ o (nn À) (nn À) (k3 _ o (nn À) (nn À) (nn À) e)) hv λg6 p3 s6=>Ó ?_);have t6:iY g6 TO x y c:=s6.extBut _ _ (nn À) t5;refine Ä (wpAny_seqItems t6 rfl ?_);refine Ä (Lw t6 λg7 t7 s7=>?_);replace t7:iY g7 TO x y v:=t7;refine Ä (wpAny_letGo (Ó (Ó ?_)));have k7:∀d o,d≠TO->d≠i3->g5.get? d=some o->g7.get? d=some o:=λd o n1 n2 e=>s7.extBut _ _ n1 (s6.extBut _ _ n2 e);refine Ä (wpAny_seqItems t7 rfl ?_);refine Ä (wpAny_newTuple ?_);have hsz:g7.objs.size=s.heap.objs.size:=by rw[s7.1,s6.1,s5.1,s4.1,s3.1,s2.1,s1.1]
 have z7:Δ g7 z TI TO .ellipsis (.bool false):=k7 _ _ (nn À) (nn À) (k5 _ _ (nn À) (nn À) (s3.extBut _ _ (nn À) (s2.extBut _ _ (nn z03) LG)));have zl:z<g7.objs.size:=í z7;refine Ä ?_;unfold Builtin.SmallTypes.ownedTupleHandOut;have z8:Δ (g7.push {cls:=.type "tuple",data:=.seq #[x,y,v]}) z TI TO .ellipsis (.bool false):=ë _ z7;refine Ä (wpAny_setField_rec z8 Ò λg9 z9 s9=>?_);replace z9:Δ g9 z TI TO (rawInt g7.objs.size) (.bool false):=z9;refine wpAny_setField_rec z9 Ò λh8 z10 mm=>?_;replace z10:Δ h8 z TI TO (rawInt g7.objs.size) (.bool false):=z10;have up:∀d o,d≠z->g7.get? d=some o->h8.get? d=some o:=λd o n e=>mm.extBut _ _ n (s9.extBut _ _ n (ë _ e));have tn:iY h8 g7.objs.size x y v:=mm.extBut _ _ (ϗ zl) (s9.extBut _ _ (ϗ zl) (Ę _ rfl));have DV:h8.objs.size=g7.objs.size+1:=by rw[mm.1,s9.1,Heap.size_push]
 rw[hsz]at z10 tn DV;refine Ó ⟨_,rfl,?_⟩;show Q (.ref g7.objs.size) _;rw[hsz];refine hQ h8 z10 (up _ _ (nn À) t7) (p1.at λo e=>up _ o (nn À) (k7 _ _ (nn À) (nn À) (k5 _ _ (nn À) (nn À) (s3.extBut _ _ (nn À) e)))) (p2.at λo e=>up _ o (nn À) (k7 _ _ (nn À) (nn À) (s5.extBut _ _ (nn À) e))) (p3.at λo e=>up _ o (nn À) (s7.extBut _ _ (nn À) e)) tn DV λd o n1 n2 n3 n4 n5 e=>up d o n1 (k7 _ _ n2 n5 (k5 _ _ n2 n4 (k3 _ _ n1 n2 n3 e)))
theorem Am{a:Nat}(hz:Δ s.heap z TI TO (rawInt a) (.bool f))(ha:s.heap.get? a=some oa):wpAny (model prog w) A (Builtin.SmallTypes.ownedTupleIsFree (.ref z)) (λb s'=>b=false/\∃g0,s'={s with heap:=g0}/\Δ g0 z TI TO (rawInt a) (.bool true)/\Heap.SameBut z s.heap g0) E s:=by refine Ä (wpAny_field hz rfl (x:=rawInt a) rfl ?_);refine Ä (PySem.W.kdx_alive ha ?_);refine Ä (wpAny_field hz rfl (x:=.bool f) rfl ?_);cases f with|true=>exact Ó ⟨rfl,s.heap,rfl,hz,Heap.SameBut.refl _ _⟩;|false=>exact Ä (wpAny_setField_rec hz Ò λg0 z0 s0=>Ó ⟨rfl,g0,rfl,z0,s0⟩)
theorem Lx{a:Nat}{f:Bool}{Q:Tc}(D:ğ l1 l2 l3 i1 i2 i3 TI TO z)(hz:Δ s.heap z TI TO (rawInt a) (.bool f))(ha:s.heap.get? a=some oa)(haz:z<a)(rS:iY s.heap TI (.ref i1) (.ref i2) (.ref i3))(h1:s.heap.IsListIter i1 l1 k)(h2:s.heap.IsListIter i2 l2 k)(h3:s.heap.IsListIter i3 l3 k)(q1:s.heap.IsList l1 xs)(q2:s.heap.IsList l2 ys)(q3:s.heap.IsList l3 zs)(hx:xs[k]?=some x)(hy:ys[k]?=some y)(hv:zs[k]?=some v)(hQ:∀h',Δ h' z TI TO (rawInt a) (.bool true)->h'.IsListIter i1 l1 (k+1)->h'.IsListIter i2 l2 (k+1)->h'.IsListIter i3 l3 (k+1)->iY h' s.heap.objs.size x y v->h'.objs.size=s.heap.objs.size+1->(∀c o,c≠z->c≠i1->c≠i2->c≠i3->s.heap.get? c=some o->h'.get? c=some o)->Q (.ref s.heap.objs.size) {s with heap:=h'}):wpAny (model prog w) A (Builtin.«zip.__next__» ⟨[.ref z],[]⟩) (λfin s'=>∃v,fin=.done (.ret v)/\Q v s') E s:=by
 obtain⟨a1,a2,a3,b1,b2,b3,b4,b5⟩:=D;show wpAny _ _ (field (.ref z) 2>>=_) _ _ _;refine Ä (wpAny_field hz rfl (x:=.bool false) rfl ?_);show wpAny _ _ (field (.ref z) 3>>=_) _ _ _;refine Ä (wpAny_field hz rfl (x:=.ref TI) rfl ?_);refine Ä (wpAny_seqItems rS rfl ?_);refine Ä (wpAny_mono (Am hz ha) (λb s' h=>?_) λ_ _ x=>x);obtain⟨rfl,g0,rfl,z0,s0⟩:=h;refine Ä (Ä (Ä (wpAny_holding ?_)));refine Ä (wpAny_nextOf_list_item (h1.extBut s0.extBut (nn z03)) (q1.extBut s0.extBut (nn À)) hx λg1 p1 s1=>Ó ?_);refine Ó ?_;have k1:∀d o,d≠z->d≠i1->s.heap.get? d=some o->g1.get? d=some o:=λd o n1 n2 e=>s1.extBut _ _ n2 (s0.extBut _ _ n1 e);refine Ä (Ä (wpAny_holding ?_));show wpAny _ _ (Builtin.SmallTypes.nextOf (.ref i2)>>=_) _ _ _;refine Ä (wpAny_nextOf_list_item (h2.at λo e=>k1 _ o (nn À) (nn À) e) (q2.at λo e=>k1 _ o (nn À) (nn À) e) hy λg2 p2 s2=>Ó ?_);refine Ó ?_;have k2:∀d o,d≠z->d≠i1->d≠i2->s.heap.get? d=some o->g2.get? d=some o:=λd o n1 n2 n3 e=>s2.extBut _ _ n3 (k1 _ _ n1 n2 e);refine Ä (Ä (wpAny_holding ?_));show wpAny _ _ (Builtin.SmallTypes.nextOf (.ref i3)>>=_) _ _ _;refine Ä (wpAny_nextOf_list_item (h3.at λo e=>k2 _ o (nn À) (nn À) (nn À) e) (q3.at λo e=>k2 _ o (nn z03) (nn À) (nn À) e) hv λg3 p3 s3=>Ó ?_);refine Ó (Ó ?_);have k3:∀d o,d≠z->d≠i1->d≠i2->d≠i3->s.heap.get? d=some o->g3.get? d=some o:=λd o n1 n2 n3 n4 e=>s3.extBut _ _ n4 (k2 _ _ n1 n2 n3 e);refine Ä (wpAny_newTuple (hsz:=by show 3<=sizeLine;decide) ?_);have hsz:g3.objs.size=s.heap.objs.size:=by rw[s3.1,s2.1,s1.1,s0.1]
 have z3:Δ g3 z TI TO (rawInt a) (.bool true):=s3.extBut _ _ (nn À) (s2.extBut _ _ (nn À) (s1.extBut _ _ (nn À) z0));have tn:iY (g3.push {cls:=.type "tuple",data:=.seq #[x,y,v]}) g3.objs.size x y v:=Ę _ rfl;have DV:(g3.push {cls:=.type "tuple",data:=.seq #[x,y,v]}).objs.size=g3.objs.size+1:=Heap.size_push ..;rw[hsz]at tn DV;refine Ó ⟨_,rfl,?_⟩;show Q (.ref g3.objs.size) _;rw[hsz];exact hQ _ (ë _ z3) (p1.at λo e=>ë _ (s3.extBut _ _ (nn À) (s2.extBut _ _ (nn À) e))) (p2.at λo e=>ë _ (s3.extBut _ _ (nn À) e)) (p3.at λo e=>ë _ e) tn DV λd o n1 n2 n3 n4 e=>ë _ (k3 _ _ n1 n2 n3 n4 e)
theorem LC{a:Nat}(hh:A.handled=none)(D:ğ l1 l2 l3 i1 i2 i3 TI TO z)(hz:Δ s.heap z TI TO (rawInt a) (.bool f))(ha:s.heap.get? a=some oa)(rS:iY s.heap TI (.ref i1) (.ref i2) (.ref i3))(h1:s.heap.IsListIter i1 l1 k)(q1:s.heap.IsList l1 xs)(hx:xs[k]?=none)(hE:∀h' e,(∀c o,c≠z->c≠i1->s.heap.get? c=some o->h'.get? c=some o)->(∃o,h'.get? e=some o/\o.cls=.type "StopIteration")->E (.ref e) {s with heap:=h'}):wpAny (model prog w) A (Builtin.«zip.__next__» ⟨[.ref z],[]⟩) Q E s:=by obtain⟨a1,a2,a3,b1,b2,b3,b4,b5⟩:=D;show wpAny _ _ (field (.ref z) 2>>=_) _ _ _;refine Ä (wpAny_field hz rfl (x:=.bool false) rfl ?_);refine Ä (wpAny_field hz rfl (x:=.ref TI) rfl ?_);refine Ä (wpAny_seqItems rS rfl ?_);refine Ä (wpAny_mono (Am hz ha) (λb s' h=>?_) λ_ _ x=>x);obtain⟨rfl,g0,rfl,z0,s0⟩:=h;refine Ä (Ä (Ä (wpAny_holding ?_)));refine Ä (wpAny_nextOf_list_end hh (h1.extBut s0.extBut (nn À)) (q1.extBut s0.extBut (nn À)) hx λg1 e s1 he=>hE g1 e (λd o n1 n2 x=>s1 _ _ n2 (s0.extBut _ _ n1 x)) he)
theorem St.keep(x:St l1 l2 l3 i1 i2 i3 TI TO z xs ys zs S i h)(D:ğ l1 l2 l3 i1 i2 i3 TI TO z)(hS:z<S)(hk:∀b o,b≠S->h.get? b=some o->h'.get? b=some o):St l1 l2 l3 i1 i2 i3 TI TO z xs ys zs S i h':=by
 obtain⟨a1,a2,a3,b1,b2,b3,b4,b5⟩:=D;obtain⟨z0,ti,⟨a,b,c,to⟩,p1,p2,p3,q1,q2,q3⟩:=x;refine⟨?_,hk _ _ (nn À) ti,⟨a,b,c,hk _ _ (nn À) to⟩,p1.at λo e=>hk _ o (nn À) e,p2.at λo e=>hk _ o (nn À) e,p3.at λo e=>hk _ o (nn À) e,q1.at λo e=>hk _ o (nn z03) e,q2.at λo e=>hk _ o (nn z03) e,q3.at λo e=>hk _ o (nn À) e⟩;rcases z0 with⟨e,hz⟩|⟨a,oa,f,hz,ha,h1,h2⟩;.exact .inl ⟨e,hk _ _ (nn À) hz⟩
 .exact .inr ⟨a,oa,f,hk _ _ (nn À) hz,hk _ _ h2 ha,h1,h2⟩
theorem item(D:ğ l1 l2 l3 i1 i2 i3 TI TO z)(st:St l1 l2 l3 i1 i2 i3 TI TO z xs ys zs S i s.heap)(hS:S<s.heap.objs.size)(hx:xs[i]?=some x)(hy:ys[i]?=some y)(hv:zs[i]?=some v)(hQ:∀h',St l1 l2 l3 i1 i2 i3 TI TO z xs ys zs S (i+1) h'->iY h' s.heap.objs.size x y v->h'.objs.size=s.heap.objs.size+1->(∀c o,c≠z->c≠TO->c≠i1->c≠i2->c≠i3->s.heap.get? c=some o->h'.get? c=some o)->Q (some (.ref s.heap.objs.size)) {s with heap:=h'}):wpAny (model prog w) A (pyNext (.ref z)) Q E s:=by
 obtain⟨a1,a2,a3,b1,b2,b3,b4,b5⟩:=id D;obtain⟨z0,ti,⟨a,b,c,to⟩,p1,p2,p3,q1,q2,q3⟩:=st;have zl:z<s.heap.objs.size:=by rcases z0 with⟨_,hz⟩|⟨_,_,_,hz,_⟩<;>exact í hz
 have hT:s.TypeIs (.ref z) "zip":=by rcases z0 with⟨_,hz⟩|⟨_,_,_,hz,_⟩<;>exact⟨_,hz,rfl⟩
 refine Ä (wpAny_attempt (wpAny_callSpecial?_slot (name:=Str.ofString "__next__") hT F.slot_zip_next (wpAny_call_entry F.slot_zip_next hT F.entry_zip_next ?_ (F.args_zip_next_1 _))));rcases z0 with⟨rfl,hz⟩|⟨a',oa,f,hz,ha,h1,h2⟩;.refine J0 D hz ti to p1 p2 p3 q1 q2 q3 hx hy hv λh' e1 e2 e3 e4 e5 e6 e7 k=>Ó (hQ h' ⟨.inr ⟨_,_,_,e1,e6,zl,nn À⟩,k _ _ (nn À) (nn À) (nn À) (nn À) (nn À) ti,⟨_,_,_,e2⟩,e3,e4,e5,q1.at λo e=>k _ o (nn À) (nn À) (nn À) (nn À) (nn À) e,q2.at λo e=>k _ o (nn À) (nn À) (nn À) (nn À) (nn À) e,q3.at λo e=>k _ o (nn À) (nn À) (nn À) (nn À) (nn À) e⟩ e6 e7 k)
 .refine Lx D hz ha h1 ti p1 p2 p3 q1 q2 q3 hx hy hv λh' e1 e3 e4 e5 e6 e7 k=>Ó (hQ h' ⟨.inr ⟨a',oa,true,e1,k _ _ (nn À) (nn À) (nn À) (nn À) ha,h1,h2⟩,k _ _ (nn À) (nn À) (nn z03) (nn À) ti,⟨_,_,_,k _ _ (nn À) (nn À) (nn À) (nn À) to⟩,e3,e4,e5,q1.at λo e=>k _ o (nn À) (nn À) (nn À) (nn À) e,q2.at λo e=>k _ o (nn (by grind)) (nn À) (nn À) (nn À) e,q3.at λo e=>k _ o (nn À) (nn À) (nn z03) (nn À) e⟩ e6 e7 λc o n1 _ n3 n4 n5 e=>k c o n1 n3 n4 n5 e)
theorem done(hh:A.handled=none)(D:ğ l1 l2 l3 i1 i2 i3 TI TO z)(st:St l1 l2 l3 i1 i2 i3 TI TO z xs ys zs S i s.heap)(hi:i≠0)(hx:xs[i]?=none)(hQ:∀h',(∀c o,c≠z->c≠i1->s.heap.get? c=some o->h'.get? c=some o)->Q none {s with heap:=h'}):wpAny (model prog w) A (pyNext (.ref z)) Q E s:=by
 obtain⟨z0,ti,⟨a,b,c,to⟩,p1,p2,p3,q1,q2,q3⟩:=st;rcases z0 with⟨e,_⟩|⟨a',oa,f,hz,ha,h1,h2⟩;.exact absurd e hi
 have hT:s.TypeIs (.ref z) "zip":=⟨_,hz,rfl⟩;refine Ä (wpAny_attempt (wpAny_callSpecial?_slot (name:=Str.ofString "__next__") hT F.slot_zip_next (wpAny_call_entry F.slot_zip_next hT F.entry_zip_next (LC hh D hz ha ti p1 q1 hx λh' e hk he=>?_) (F.args_zip_next_1 _))));obtain⟨o,ho,hc⟩:=he;exact Ä (wpAny_isInstance (T:="StopIteration") (b:=true) ⟨o,ho,hc⟩ isSubtype_stop (Ó (hQ _ hk)))
structure Gd(xs ys zs:ĵ)(lo:Nat)(h:Heap)(as:List Nat):Prop where
 rise:as.Pairwise (·<·)above:∀a∈as,lo<a
 rows:∀(j:Nat)(a:Nat),as[j]?=some a->∃x y v,xs[j]?=some x/\ys[j]?=some y/\zs[j]?=some v/\iY h a x y v
end
section
variable{s:Shared}{l1 l2 l3 i1 i2 i3 TI TO z:Nat}{xs ys zs:ĵ}{n:Nat}
theorem loop(hh:A.handled=none)(D:ğ l1 l2 l3 i1 i2 i3 TI TO z)(xS:z<S)(nx:xs.size=n)(ny:ys.size=n)(nz:zs.size=n)(n0:0<n)(hn:n<=sizeLine)(res:Value){h₁:Heap}(hR:∀h' tk acc c as,(∀b o,b≠S->b≠z->b≠TO->b≠i1->b≠i2->b≠i3->h₁.get? b=some o->h'.get? b=some o)->h'.get? S=some {cls:=.type "list",dict:=none,data:=.seq acc c,slots:=#[]}->as.length=n->Gd xs ys zs S h' as->acc.toList=as.map Value.ref->R (.ok (.ret res)) {s with heap:=h',toks:=tk}):∀(k i:Nat)(h:Heap)(tk c:Nat)(acc:ĵ)(as:List Nat),n-i=k->i<=n->St l1 l2 l3 i1 i2 i3 TI TO z xs ys zs S i h->(∀b o,b≠S->b≠z->b≠TO->b≠i1->b≠i2->b≠i3->h₁.get? b=some o->h.get? b=some o)->h.get? S=some {cls:=.type "list",dict:=none,data:=.seq acc c,slots:=#[]}->acc.toList=as.map Value.ref->as.length=i->Gd xs ys zs S h as->codeAny (model prog w) A (.builtin "list.extend.loop" ⟨[.ref S,.ref z,res],[]⟩) R {s with heap:=h,toks:=tk}:=by obtain⟨a1,a2,a3,b1,b2,b3,b4,b5⟩:=id D;intro k;induction k with|zero=>intro i h tk c acc as hk hi st om hS dP yb hG;refine codeAny_builtin PySem.F.entry_extend_loop ?_;show wpAny _ A.in1 (pyNext (.ref z)>>=_) _ _ _;refine Ä (done (s:={s with heap:=h,toks:=tk}) (A:=A.in1) hh D st À (Array.getElem?_eq_none À) λh' he=>?_);refine Ó (hR h' tk acc c as (λb o n1 n2 n3 n4 n5 n6 e=>he b o n2 n4 (om b o n1 n2 n3 n4 n5 n6 e)) (he S _ (nn À) (nn À) hS) À ⟨hG.rise,hG.above,λj a hj=>?_⟩ dP);obtain⟨x,y,v,e1,e2,e3,e4⟩:=hG.rows j a hj;have:=hG.above a (Ŋ hj);exact⟨x,y,v,e1,e2,e3,he a _ (nn À) (nn À) e4⟩;|succ k ih=>
  intro i h tk c acc as hk hi st om hS dP yb hG;have av:i<n:=À;obtain⟨x,hx⟩:∃x,xs[i]?=some x:=⟨xs[i],Zao À⟩;obtain⟨y,hy⟩:∃x,ys[i]?=some x:=⟨ys[i],Zao À⟩;obtain⟨v,hv⟩:∃x,zs[i]?=some x:=⟨zs[i],Zao À⟩;have hsz:acc.size=i:=by rw[<-Ě,dP,Ý,yb]
  have PF:S<h.objs.size:=í hS;refine codeAny_builtin PySem.F.entry_extend_loop ?_;rw[Around.under_plainId PySem.F.plain_extend_loop _];show wpAny _ A.in1 (pyNext (.ref z)>>=_) _ _ _;refine Ä (item (s:={s with heap:=h,toks:=tk}) D st PF hx hy hv λh' Ç ht hz F8=>?_);dsimp only at ht hz F8⊢;have AW:=F8 S _ (nn À) (nn À) (nn (by grind)) (nn z03) (nn À) hS;have up:∀b o,b≠S->h'.get? b=some o->(h'.update S (Obj.mapSeq (·.push (Value.ref h.objs.size)))).get? b=some o:=λb o hb e=>(Heap.get?_update_other _ _ (Ne.symm hb)).trans e;refine Ä ?_;refine wpAny_updateSeq AW rfl (Ó ⟨plainId_quiet PySem.F.plain_extend_loop _,ih (i+1) _ tk _ (acc.push (Value.ref h.objs.size)) (as++[h.objs.size]) À av (Ç.keep D xS up) (λb o n1 n2 n3 n4 n5 n6 e=>up b o n1 (F8 b o n2 n3 n4 n5 n6 (om b o n1 n2 n3 n4 n5 n6 e))) (Heap.get?_update_self _ AW rfl) (by rw[Array.toList_push,dP,Ħ];rfl) (by rw[ý,yb];rfl) ⟨?_,?_,?_⟩⟩) (by rw[hsz];lia) (by grind);.refine Ű.mpr ⟨hG.rise,List.pairwise_singleton _ _,λa ha b hb=>?_⟩;rw[Ũ.mp hb];obtain⟨j,hj⟩:=List.mem_iff_getElem?.mp ha;obtain⟨_,_,_,_,_,_,e⟩:=hG.rows j a hj;exact í e
  .intro a ha;rcases Ą.mp ha with ha|ha;.exact hG.above a ha
   .rw[Ũ.mp ha];exact PF
  .intro j b hj;rcases Nat.lt_trichotomy j as.length with h1|h1|h1;.rw[zBa h1]at hj;obtain⟨x',y',v',e1,e2,e3,e4⟩:=hG.rows j b hj;have hb:=hG.above b (Ŋ hj);exact⟨x',y',v',e1,e2,e3,up b _ (nn À) (F8 b _ (nn À) (nn À) (nn (by grind)) (nn À) (nn À) e4)⟩
   .subst h1;have hb:h.objs.size=b:=by simpa using hj
    subst hb;exact⟨x,y,v,by rw[yb];exact hx,by rw[yb];exact hy,by rw[yb];exact hv,up _ _ (nn À) ht⟩
   .have DZ:(as++[h.objs.size])[j]?=none:=Za8 (by rw[ý,List.length_singleton];omega);rw[DZ]at hj;cases hj
end
end L2.Z3
namespace L2
open PySem PyProof.Rows HT
theorem yN:bootBuiltins "list"=some (.type "list"):=by decide+kernel
section
end
end L2
namespace L2.Z3
open PySem PySem.Spec PyProof.Rows PySem.Calls
abbrev g1(h:Heap)(l:Addr):Heap:=h.push {cls:=.type "list_iterator",data:=.fields #[.ref l,.int 0 0]}
abbrev g3(h:Heap)(l1 l2 l3:Addr):Heap:=g1 (g1 (g1 h l1) l2) l3
abbrev g4(h:Heap)(l1 l2 l3:Addr):Heap:=(g3 h l1 l2 l3).push {cls:=.type "tuple",data:=.seq #[.ref h.objs.size,.ref (g1 h l1).objs.size,.ref (g1 (g1 h l1) l2).objs.size]}
abbrev g5(h:Heap)(l1 l2 l3:Addr):Heap:=(g4 h l1 l2 l3).push {cls:=.type "tuple",data:=.seq #[.none,.none,.none]}
abbrev g6(h:Heap)(l1 l2 l3:Addr):Heap:=(g5 h l1 l2 l3).push {cls:=.type "zip",data:=.fields #[.none,.bool false,.bool false,.ref (g3 h l1 l2 l3).objs.size,.ref (g4 h l1 l2 l3).objs.size]}
theorem LK(l1 l2 l3:Addr)(xs ys zs:ĵ):Meets (Builtin.«zip.__new__» ⟨[.type "zip",.ref l1,.ref l2,.ref l3],[]⟩) (λ_ R s=>s.heap.IsList l1 xs/\s.heap.IsList l2 ys/\s.heap.IsList l3 zs/\R (.ok (.ret (.ref (g5 s.heap l1 l2 l3).objs.size))) {s with heap:=g6 s.heap l1 l2 l3}):=.of_wp λprog w A R s h=>by obtain⟨hp,g,d,tk,os⟩:=s;obtain⟨bX,cy,D0,h⟩:=h;have CF:=sub_zip;have oo:Heap.IsList (Shared.heap ⟨hp,g,d,tk,os⟩) l1 xs:=bX;have F9:Heap.IsList (Shared.heap ⟨g1 hp l1,g,d,tk,os⟩) l2 ys:=Heap.IsList.push cy _;have GA:Heap.IsList (Shared.heap ⟨g1 (g1 hp l1) l2,g,d,tk,os⟩) l3 zs:=Heap.IsList.push (Heap.IsList.push D0 _) _;wp_walk using wpAny_pyIter_list oo,wpAny_pyIter_list F9,wpAny_pyIter_list GA;exact⟨_,rfl,h⟩
section
theorem Oe{l1 l2 l3:Nat}(bX:s.heap.IsList l1 xs)(cy:s.heap.IsList l2 ys)(D0:s.heap.IsList l3 zs)(h:∀h',ğ l1 l2 l3 s.heap.objs.size (s.heap.objs.size+1) (s.heap.objs.size+2) (s.heap.objs.size+3) (s.heap.objs.size+4) (s.heap.objs.size+5)->(∀S,s.heap.objs.size+5<S->St l1 l2 l3 s.heap.objs.size (s.heap.objs.size+1) (s.heap.objs.size+2) (s.heap.objs.size+3) (s.heap.objs.size+4) (s.heap.objs.size+5) xs ys zs S 0 h')->h'.objs.size=s.heap.objs.size+6->(∀c o,s.heap.get? c=some o->h'.get? c=some o)->Q (.ref (s.heap.objs.size+5)) {s with heap:=h'}):wpAny (model prog w) A (call (.type "zip") [.ref l1,.ref l2,.ref l3]) Q E s:=by
 refine callType_new F.called_zip Ù (tc3 _ _ _) (nc3 _ _ _) (λobj=>oi4 obj _ _ _) F.entry_zip_new (LK l1 l2 l3 xs ys zs) ⟨bX,cy,D0,?_⟩;have lt:∀{l:Addr}{zs:ĵ},s.heap.IsList l zs->l<s.heap.objs.size:=λh=>by obtain⟨_,e,_⟩:=h;exact í e
 have z1:(g1 s.heap l1).objs.size=s.heap.objs.size+1:=Heap.size_push ..;have z2:(g1 (g1 s.heap l1) l2).objs.size=s.heap.objs.size+2:=by rw[Heap.size_push,z1]
 have z3:(g3 s.heap l1 l2 l3).objs.size=s.heap.objs.size+3:=by rw[Heap.size_push,z2]
 have z4:(g4 s.heap l1 l2 l3).objs.size=s.heap.objs.size+4:=by rw[Heap.size_push,z3]
 have z5:(g5 s.heap l1 l2 l3).objs.size=s.heap.objs.size+5:=by rw[Heap.size_push,z4]
 have z6:(g6 s.heap l1 l2 l3).objs.size=s.heap.objs.size+6:=by rw[Heap.size_push,z5]
 have e6:(g6 s.heap l1 l2 l3).get? (g5 s.heap l1 l2 l3).objs.size=some _:=Ę _ rfl;have e5:(g6 s.heap l1 l2 l3).get? (g4 s.heap l1 l2 l3).objs.size=some _:=ë _ (Ę _ rfl);have e4:(g6 s.heap l1 l2 l3).get? (g3 s.heap l1 l2 l3).objs.size=some _:=ë _ (ë _ (Ę _ rfl));have k3:∀b o,(g3 s.heap l1 l2 l3).get? b=some o->(g6 s.heap l1 l2 l3).get? b=some o:=λb o e=>ë _ (ë _ (ë _ e));have e3:(g6 s.heap l1 l2 l3).get? (g1 (g1 s.heap l1) l2).objs.size=some _:=k3 _ _ (Ę _ rfl);have e2:(g6 s.heap l1 l2 l3).get? (g1 s.heap l1).objs.size=some _:=k3 _ _ (ë _ (Ę _ rfl));have e1:(g6 s.heap l1 l2 l3).get? s.heap.objs.size=some _:=k3 _ _ (ë _ (ë _ (Ę _ rfl)));have kp:∀c o,s.heap.get? c=some o->(g6 s.heap l1 l2 l3).get? c=some o:=λc o x=>k3 _ _ (ë _ (ë _ (ë _ x)));show _/\_;rw[z3,z4,z5]at e6;rw[z4]at e5;rw[z1,z2,z3]at e4;rw[z2]at e3;rw[z1]at e2;rw[z5];have n1:l1<s.heap.objs.size:=lt bX;have n2:l2<s.heap.objs.size:=lt cy;have n3:l3<s.heap.objs.size:=lt D0;exact⟨⟨_,e6,rfl⟩,h _ ⟨n1,n2,n3,Ò,Ò,Ò,Ò,Ò⟩ (λS _=>⟨.inl ⟨rfl,e6⟩,e4,⟨_,_,_,e5⟩,⟨_,e1,rfl,rfl⟩,⟨_,e2,rfl,rfl⟩,⟨_,e3,rfl,rfl⟩,bX.at λo e=>kp _ o e,cy.at λo e=>kp _ o e,D0.at λo e=>kp _ o e⟩) z6 kp⟩
end
section
variable{l1 l2 l3 i1 i2 i3 TI TO z:Nat}
theorem ext(hh:A.handled=none)(D:ğ l1 l2 l3 i1 i2 i3 TI TO z)(xS:z<S)(nx:xs.size=n)(ny:ys.size=n)(nz:zs.size=n)(n0:0<n)(hn:n<=sizeLine)(res:Value)(c₀:Nat)(st:St l1 l2 l3 i1 i2 i3 TI TO z xs ys zs S 0 s.heap)(hS:s.heap.get? S=some {cls:=.type "list",data:=.seq #[] c₀})(hR:∀h' tk acc c as,(∀b o,b≠S->b≠z->b≠TO->b≠i1->b≠i2->b≠i3->s.heap.get? b=some o->h'.get? b=some o)->h'.get? S=some {cls:=.type "list",dict:=none,data:=.seq acc c,slots:=#[]}->as.length=n->Gd xs ys zs S h' as->acc.toList=as.map Value.ref->R (.ok (.ret res)) {s with heap:=h',toks:=tk}):wpAny (model prog w) A.in1 (Builtin.List.listExtendWith (.ref S) (.ref z) res) (λfin s'=>match fin with|.done f=>R (.ok f) s'|.again c'=>c'.quiet=true/\codeAny (model prog w) A c' R s') (λe s'=>R (.error e) s') s:=by
 have hz:Δ s.heap z TI TO .none (.bool false)\/∃a f,Δ s.heap z TI TO (rawInt a) (.bool f):=by
  rcases st.z0 with⟨_,e⟩|⟨a,_,f,e,_⟩;.exact .inl e
  .exact .inr ⟨a,f,e⟩
 have hT:s.TypeIs (.ref z) "zip":=by rcases hz with e|⟨_,_,e⟩<;>exact⟨_,e,rfl⟩
 unfold Builtin.List.listExtendWith;refine Ä (wpAny_typeOf hT ?_);have h1:Builtin.List.listSameRef (.ref S) (.ref z)=false:=by have:(S:Addr)≠z:=nn À;simp[Builtin.List.listSameRef,this]
 have h2:(Value.type "zip"==Value.type "list")=false:=by decide
 have h3:(Value.type "zip"==Value.type "tuple")=false:=by decide
 simp only[h1,h2,h3,Bool.or_false,Bool.false_eq_true,if_false];have hit:∀{Q:Tc}{E:Tc},Q (.ref z) s->wpAny (model prog w) A.in1 (pyIter (.ref z)) Q E s:=λ{Q E}q=>by refine wpAny_pyIter_slot hT F.slot_zip_iter (wpAny_call_entry F.slot_zip_iter hT F.entry_zip_iter ?_ (F.args_zip_iter_1 _));show wpAny _ _ (ret (.ref z)) _ _ s;exact Ó ⟨_,rfl,"zip",_,hT,F.slot_zip_next.lookup,q⟩
 refine Ä (hit ?_);refine Ä (wpAny_holding ?_);unfold Builtin.List.listLengthHint;refine Ä (wpAny_specialOf hT Ls ?_);refine Ä (wpAny_specialOf hT IW ?_);refine Ó ?_;refine Ä (wpAny_rule ?_);refine Ä ?_;show wpAny _ A.in1 (updateSeq S (·.push .none)>>=λ_=>updateSeq S (·.pop)) _ _ _;refine Ä (wpAny_updateSeq hS rfl ?_);have ku:=Heap.get?_update_self (Obj.mapSeq (·.push Value.none)) hS rfl;refine wpAny_updateSeq (hz:=by seq_fits) ku rfl ?_;have D1:=Heap.get?_update_self (Obj.mapSeq (·.pop)) ku rfl;have D2:∀b o,b≠S->s.heap.get? b=some o->((s.heap.update S (Obj.mapSeq (·.push Value.none))).update S (Obj.mapSeq (·.pop))).get? b=some o:=λb o hb e=>(Heap.get?_update_other _ _ (Ne.symm hb)).trans ((Heap.get?_update_other _ _ (Ne.symm hb)).trans e);exact Ó ⟨plainId_quiet F.plain_extend_loop _,loop (s:=s) (h₁:=s.heap) hh D xS nx ny nz n0 hn res hR n 0 _ s.toks _ #[] [] (Nat.sub_zero _) (ħ _) (st.keep D xS D2) (λb o n1 _ _ _ _ _ e=>D2 b o n1 e) D1 rfl rfl ⟨List.Pairwise.nil,(λ_ ha=>nomatch ha),(λj a hj=>by simp at hj)⟩⟩
theorem init(hh:A.handled=none)(D:ğ l1 l2 l3 i1 i2 i3 TI TO z)(xS:z<S)(nx:xs.size=n)(ny:ys.size=n)(nz:zs.size=n)(n0:0<n)(hn:n<=sizeLine)(st:St l1 l2 l3 i1 i2 i3 TI TO z xs ys zs S 0 s.heap)(hS:s.heap.get? S=some {cls:=.type "list",data:=.seq #[]})(hR:∀h' tk acc c as,(∀b o,b≠S->b≠z->b≠TO->b≠i1->b≠i2->b≠i3->s.heap.get? b=some o->h'.get? b=some o)->h'.get? S=some {cls:=.type "list",dict:=none,data:=.seq acc c,slots:=#[]}->as.length=n->Gd xs ys zs S h' as->acc.toList=as.map Value.ref->R (.ok (.ret .none)) {s with heap:=h',toks:=tk}):wpAny (model prog w) A.in1 (Builtin.«list.__init__» ⟨[.ref S,.ref z],[]⟩) (λfin s'=>match fin with|.done f=>R (.ok f) s'|.again c'=>c'.quiet=true/\codeAny (model prog w) A c' R s') (λe s'=>R (.error e) s') s:=by refine Ä ?_;refine Ä (wpAny_seqItems hS rfl (Ó ?_));refine Ä (wpAny_updateSeq hS rfl ?_);have ku:=Heap.get?_update_self (Obj.mapSeq (λ_=>(#[]:ĵ))) hS rfl;have D2:∀b o,b≠S->s.heap.get? b=some o->(s.heap.update S (Obj.mapSeq (λ_=>(#[]:ĵ)))).get? b=some o:=λb o hb e=>(Heap.get?_update_other _ _ (Ne.symm hb)).trans e;refine Ä (wpAny_letGo ?_);refine ext hh D xS nx ny nz n0 hn .none _ (st.keep D xS D2) ku λh' tk acc c as hk AW hl hG dP=>?_;exact hR h' tk acc c as (λb o n1 n2 n3 n4 n5 n6 e=>hk b o n1 n2 n3 n4 n5 n6 (D2 b o n1 e)) AW hl hG dP
theorem Og(hh:A.handled=none)(D:ğ l1 l2 l3 i1 i2 i3 TI TO z)(nx:xs.size=n)(ny:ys.size=n)(nz:zs.size=n)(n0:0<n)(hn:n<=sizeLine)(zl:z<s.heap.objs.size)(st:∀S,z<S->St l1 l2 l3 i1 i2 i3 TI TO z xs ys zs S 0 s.heap)(hQ:∀h' tk acc c as,(∀b o,b≠z->b≠TO->b≠i1->b≠i2->b≠i3->s.heap.get? b=some o->h'.get? b=some o)->h'.get? s.heap.objs.size=some {cls:=.type "list",dict:=none,data:=.seq acc c,slots:=#[]}->as.length=n->Gd xs ys zs s.heap.objs.size h' as->acc.toList=as.map Value.ref->Q (.ref s.heap.objs.size) {s with heap:=h',toks:=tk}):wpAny (model prog w) A (call (.type "list") [.ref z]) Q E s:=by refine callType_codes (Q₁:=λobj s₁=>obj=.ref s.heap.objs.size/\s₁={s with heap:=s.heap.push {cls:=.type "list",data:=.seq #[]}}) PySem.F.called_list (PySem.F.typeCall_list_1 _) PySem.F.entry_list_init (code_list_new _ ⟨rfl,rfl⟩) λobj s₁ h₁=>?_;obtain⟨rfl,rfl⟩:=h₁;have hS:(s.heap.push {cls:=.type "list",data:=.seq #[]}).get? s.heap.objs.size=some {cls:=.type "list",data:=.seq #[]}:=Ę _ rfl;refine⟨⟨_,hS,rfl⟩,PySem.F.args_list_init_2 _ _,init (A:=A.in1) (s:={s with heap:=s.heap.push {cls:=.type "list",data:=.seq #[]}}) hh D zl nx ny nz n0 hn ((st _ zl).keep D zl λb o _ e=>ë _ e) hS (λh' tk acc c as hk AW hl hG dP=>?_)⟩;exact⟨rfl,hQ h' tk acc c as (λb o n2 n3 n4 n5 n6 e=>hk b o (ė (í e)) n2 n3 n4 n5 n6 (ë _ e)) AW hl hG dP⟩
end
theorem Fi{σ:L2.St}(I:Æ X Â σ H s)(k:∀b u,s.heap.get? b=some u->h'.get? b=some u)(old:∀b,b<s.heap.objs.size->H' b=H b)(new:∀b o,s.heap.objs.size<=b->H' b=some o->Ö X.prog X.w H' h' b o):Æ X Â σ H' {s with heap:=h',toks:=t'}:=by
 have ol:∀{b:Addr}{o:HO},H b=some o->H' b=some o:=λe=>by rw[old _ (I.hok.lt e)];exact e
 refine I.un ⟨λb o q _ _ _=>k b o q,λb o q _ _ _=>⟨o.slots,k b o q⟩,λb o q n _=>by rw[old _ (í q)];exact n,λb o q _=>⟨o,k b o q⟩,λb xs q=>ol q,λb o u q=>ol q,λb ps q=>⟨#[],by rw[ol q];simp⟩⟩ λb o e=>?_;by_cases hb:b<s.heap.objs.size;.rw[old _ hb]at e;exact(I.hok b o e).stay (λc v _ q=>k c v q) (λc q=>ol q) λc xs q=>ol q
 .exact new b o (Nat.le_of_not_lt hb) e
def Fj(xs ys zs:List V)(j:Nat):List V:=[xs.getD j .non,ys.getD j .non,zs.getD j .non]
def tLZ(K:Frag)(ta:TA):TE:=λσ H Q=>ta σ H λvs H1=>∃a b c xs ys zs,vs=[.ref a,.ref b,.ref c]/\Ï K H1 a xs/\Ï K H1 b ys/\Ï K H1 c zs/\ys.length=xs.length/\zs.length=xs.length/\0<xs.length/\∀(l:Addr)(as:ă)(H':Hp),Á H1 H'->H1 l=none->l≠sysModules->H' l=some (.lst (as.map V.ref))->as.length=xs.length->(∀j a,as[j]?=some a->H' a=some (.tup (Fj xs ys zs j)))->Q (.ref l) H'
theorem CQ:bootBuiltins "zip"=some (.type "zip"):=by decide+kernel
theorem Z0i:∀{a b c:V}{us:â},Î [a,b,c] us->∃u v w,us=[u,v,w]/\Ñ a u/\Ñ b v/\Ñ c w:=λh=>by cases h with|cons r1 h=>cases h with|cons r2 h=>cases h with|cons r3 h=>cases h;exact⟨_,_,_,rfl,r1,r2,r3⟩
theorem Fl{as:List Nat}(h:as.Pairwise (·<·)){i j:Nat}(hi:as[i]?=some a)(hj:as[j]?=some a):i=j:=by have nd:as.Nodup:=h.imp λ{x y}z=>ė z;obtain⟨h1,e1⟩:=ġ.mp hi;obtain⟨h2,e2⟩:=ġ.mp hj;exact(List.getElem_inj nd).mp (e1.trans e2.symm)
section
open Classical in
theorem pe_lzip3{p p2 p3 pos:Pos}(hd:X.A.handled=none)(UO:Gl X "list")(FY:X.mg "list"=none)(hg:Gl X "zip")(hm:X.mg "zip"=none)(ha:PA X [a,b,c] ta)(hs:starEach [a,b,c] X.env=[(false,eval a X.env),(false,eval b X.env),(false,eval c X.env)]:=by rfl)(tq:starEach [b,c] X.env=[(false,eval b X.env),(false,eval c X.env)]:=by rfl)(he:starEach [(.Call (.Name "zip" p2) [a,b,c] [] p3)] X.env=[(false,eval (.Call (.Name "zip" p2) [a,b,c] [] p3) X.env)]:=by rfl):PE X (.Call (.Name "list" p) [.Call (.Name "zip" p2) [a,b,c] [] p3] [] pos) (tLZ X.K ta):=by
 intro Â s σ H Q I h;refine wpAny_Call_Name_kw (jd I UO FY yN ?_ Ù Ù);refine PyProof.Rows.callWith_type1 ?_ he rfl;rw[he];refine Calls.spliced_cons ?_;refine Call_ (jd I hg hm CQ (PyProof.Rows.callWith_type1 (Ú (ha p3 Â s σ H _ I h) λus s1=>?_) (by rw[hs,tq]) (by rw[tq];rfl)));rintro⟨vs,H1,I1,r1,q1⟩;obtain⟨x,y,z,xs,ys,zs,e,hx,hy,hz,ly,lz,l0,q⟩:=q1;subst e;obtain⟨u1,u2,u3,rfl,UP,UQ,UR⟩:=Z0i r1;cases UP;cases UQ;cases UR;obtain⟨it1,v1,US,z1⟩:=I1.list hx;obtain⟨it2,v2,UT,z2⟩:=I1.list hy;obtain⟨it3,v3,UU,z3⟩:=I1.list hz;have n1:=v1.length;have n2:=v2.length;have n3:=v3.length;refine Oe (l1:=x) (l2:=y) (l3:=z) US.isList UT.isList UU.isList λg D st gs kp=>?_;refine Calls.spliced_nil ?_;refine Og (s:={s1 with heap:=g}) (n:=xs.length) hd D (by rw[ć];lia) (by rw[ć];lia) (by rw[ć];lia) l0 z1 (by show _<g.objs.size;simp_all) (λS hS=>st S hS) λh' tk acc cc as se at' hl hG dP=>?_;have UW:(Shared.heap {s1 with heap:=g}).objs.size=s1.heap.objs.size+6:=gs;have UX:∀b o,s1.heap.get? b=some o->h'.get? b=some o:=λb o e=>by obtain⟨b',rfl⟩:∃b':Nat,b'=b:=⟨b,rfl⟩;have hb:@LT.lt Nat instLTNat b' s1.heap.objs.size:=í e;exact se b' o (nn À) (nn À) (nn À) (nn À) (nn À) (kp b' o e)
 have big:@LT.lt Nat instLTNat sysModules s1.heap.objs.size:=I1.big;obtain⟨Lz,PH⟩:∃Lz:Nat,Lz=(Shared.heap {s1 with heap:=g}).objs.size:=⟨_,rfl⟩;rw[<-PH]at at' hG UW;show EP X Â σ Q (.ref (Shared.heap {s1 with heap:=g}).objs.size) _;rw[<-PH];let H':Hp:=λb=>if b=Lz then some (.lst (as.map V.ref))else if hj:∃j:Nat,as[j]?=some b then some (.tup (Fj xs ys zs hj.choose))else H1 b;have gL:∀{j a:Nat},as[j]?=some a->@LT.lt Nat instLTNat Lz a:=λ{j a}e=>hG.above a (Ŋ e);have eL:H' Lz=some (.lst (as.map V.ref)):=Í rfl;have eT:∀j a,as[j]?=some a->H' a=some (.tup (Fj xs ys zs j)):=λj a e=>by have hj:∃j:Nat,as[j]?=some a:=⟨j,e⟩;have n:¬(a=Lz):=ϗ (gL e);show(if a=Lz then _ else if hj:∃j:Nat,as[j]?=some a then some (HO.tup (Fj xs ys zs hj.choose))else H1 a)=_;rw[Ë n,dif_pos hj,Fl hG.rise hj.choose_spec e]
 have old:∀b,b<s1.heap.objs.size->H' b=H1 b:=λb hb=>by grind
 have fresh:∀b:Nat,@LE.le Nat instLENat s1.heap.objs.size b->H1 b=none:=λb hb=>I1.hok.fresh hb;have vr:∀l:List Nat,Î (l.map V.ref) (l.map Value.ref):=λl=>by induction l with|nil=>exact .nil;|cons x l ih=>exact .cons rfl ih
 have get:∀{ws:List V}{its:â}(v:Î ws its){j:Nat}{u:Value},its.toArray[j]?=some u->Ñ (ws.getD j .non) u:=λ{ws its}v{j u}e=>by
  have e':its[j]?=some u:=by simpa using e
  have hj:j<ws.length:=by rw[v.length];exact(ġ.mp e').1
  obtain⟨u',e1,r⟩:=v.get (é hj);rw[e']at e1;cases e1;rw[ŧ,é hj];exact r
 refine⟨.ref Lz,H',(show Æ X Â σ H' {s1 with heap:=h',toks:=tk}from Fi I1 UX old λb o hb e=>?_),rfl,q Lz as H' (λb o e=>by rw[old b (I1.hok.lt e)];exact e) (fresh _ À) (nn À) eL hl eT⟩;obtain⟨b',rfl⟩:∃b':Nat,b'=b:=⟨b,rfl⟩;by_cases h1:b'=Lz;.subst h1;rw[eL]at e;cases e;refine⟨by rw[Ý,hl];exact z1,as.map Value.ref,cc,vr as,?_⟩;rw[<-dP];simpa using at'
 .by_cases h2:∃j:Nat,as[j]?=some b';.obtain⟨j,hj⟩:=h2;rw[eT j b' hj]at e;cases e;obtain⟨u,v,w',e1,e2,e3,e4⟩:=hG.rows j b' hj;exact⟨(by show 3<=sizeLine;decide),[u,v,w'],.cons (get v1 e1) (.cons (get v2 e2) (.cons (get v3 e3) .nil)),_,e4,rfl,⟨_,rfl⟩⟩
  .exfalso;have:H' b'=H1 b':=by show(if b'=Lz then _ else if hj:∃j:Nat,as[j]?=some b' then some (HO.tup (Fj xs ys zs hj.choose))else H1 b')=_;rw[Ë h1,dif_neg h2]
   rw[this,fresh b' hb]at e;cases e
end
end L2.Z3
namespace L2
open PySem PySem.Spec PyProof.Rows PySem.SeqAt
theorem yO(hu:X.A.units<cLine):Ċ X (compareOp .NotEq) (λx y H Q=>∃a b xs,x=.ref a/\y=.ref b/\Ï X.K H a xs/\Ï X.K H b []/\Q (.bl (!xs.isEmpty)) H):=by intro Â s σ H x y v u Q I rx ry h;obtain⟨a,b,xs,rfl,rfl,ha,hb,q⟩:=h;cases rx;cases ry;obtain⟨its,r1,p1,_⟩:=I.list ha;obtain⟨aS,r2,p2,_⟩:=I.list hb;have e2:aS=[]:=r2.zero;subst e2;have hl:=r1.length;cases xs with|nil=>have e1:its=[]:=r1.zero;subst e1;exact RcNeAt.lists (e:=λ_=>true) p1.isList p2.isList rfl hu (λj h1 h2=>absurd h2 Ò) _ _ _ _ ⟨.bl _,H,I,rfl,q⟩;|cons z r=>exact RcNeAt.lists_lengths p1.isList p2.isList (by rw[ć,<-hl];simp) hu _ _ _ _ ⟨.bl _,H,I,rfl,q⟩
theorem yP(hu:X.A.units<cLine):Ċ X (compareOp .NotEq) (λx y H Q=>∃a b xs,x=.ref a/\y=.ref b/\Ì X.K H a xs/\Ì X.K H b []/\Q (.bl (!xs.isEmpty)) H):=by
 intro Â s σ H x y v u Q I rx ry h;obtain⟨a,b,xs,rfl,rfl,ha,hb,q⟩:=h;cases rx;cases ry;obtain⟨its,r1,p1,_⟩:=I.tuple ha;obtain⟨aS,r2,p2,_⟩:=I.tuple hb;have e2:aS=[]:=r2.zero;subst e2;have hl:=r1.length;have e3:((List.range (min its.toArray.size ([]:â).toArray.size)).all (λ_=>true)&&its.toArray.size==([]:â).toArray.size)=xs.isEmpty:=by cases its with|nil=>cases r1;rfl;|cons a r=>cases xs with|nil=>simp at hl;|cons b r'=>simp
 refine RcNeAt.tuples (e:=λ_=>true) p1 p2 hu (λj h1 h2=>absurd h2 Ò) _ _ _ _ ?_;rw[e3];exact⟨.bl _,H,I,rfl,q⟩
open PySem PySem.Spec PyProof.Rows PySem.Calls PySem.W
theorem Fo{X:Cx}(ok:qK scope X.env.scope X.N N ix=true):(∀p∈scope.names,p.2=NameKind.free->X.env.kindOf p.1=some .cell)/\∀(j:Nat)(x:Str),N[j]?=some x->∃i,ix[j]?=some i/\X.N[i]?=some x/\scope.names.lookup x=some .free:=by
 unfold qK at ok;simp only[Bool.and_eq_true,ċ,Bool.not_eq_true',List.all_eq_true,Bool.or_eq_true]at ok;obtain⟨⟨⟨⟨⟨kd,co⟩,ge⟩,AU⟩,zs⟩,hl⟩:=ok;refine⟨λp hp e=>?_,λj x e=>?_⟩
 .rcases(AU p hp).2 with z|z;.exact absurd e z
  .exact z
 .have hj:=(ġ.mp e).1;have e2:ix[j]?=some (ix[j]'À):=é À;have:=zs (x,ix[j]'À) (Ŋ (i:=j) (by rw[List.getElem?_zip_eq_some];exact⟨e,e2⟩));exact⟨_,e2,this.1,this.2⟩
theorem o8(ix:List Nat)(dA:X.env.code=.ref cc)(hC:CodeHd X.base cc T)(hB:X.base.BuiltinsAt X.mg T)(DO:X.env.scope=sc)(DS:X.N=NX)(rk:defaultsOf params X.env=([],[]))(Lu:∀qual cl pm cv ct,bindArgs (kla_fn "<lambda>" qual params body scope cl pm cv ct) ⟨[],[]⟩=pure [])(ok:qK scope sc NX N ix=true):PE X (.Lambda params body scope aT) (tMk T (X.env.qual++"<lambda>") params body scope (cM X.env.cells scope.names []) N):=by subst DO DS;obtain⟨kc,hz⟩:=Fo ok;unfold qK at ok;simp only[Bool.and_eq_true,ċ,Bool.not_eq_true',List.all_eq_true,Bool.or_eq_true]at ok;obtain⟨⟨⟨⟨⟨kd,co⟩,ge⟩,AU⟩,zs⟩,hl⟩:=ok;refine xn ⟨rk,kd,co,ge,λp hp=>(AU p hp).1,λp hp e=>.inl (kc p hp e),Lu,λx hx=>?_⟩ dA hC hB;obtain⟨j,e⟩:=List.mem_iff_getElem?.mp hx;obtain⟨_,_,_,z⟩:=hz j x e;exact z
theorem Fp{p pos:Pos}(scope:Scope)(F:Ê X.prog X.w X.K X.mg X.base Þ k f fd [y] sp)(hr:à k X.A)(hg:Gl X x)(hm:X.mg x=some (.ref f))(hk:PySem.W.keepIn X.K (.ref f)=true)(hb:ò X.K fd [y] [])(hx:X.ex=[])(mS:∀x,X.fn x=true)(DO:X.env.scope=sc)(DS:X.N=NX)(ok:qK scope sc NX N ix=true)(ha:PE X arg te)(eW:Ţ x:=by decide)(he:starEach [arg] X.env=(false,eval arg X.env)::starEach [] X.env:=by rfl)(dQ:(backTo pos (starEach [] X.env)).any (·.1)=false:=by rfl):PE X (.Call (.Name x p) [arg] [] pos) (Ff sp N ix (cM X.env.cells scope.names []) te):=by subst DO DS;obtain⟨kc,hz⟩:=Fo ok;exact Ak F hr hg hm hk hb hx (λp hp e=>⟨kc p hp e,mS _⟩) hz ha eW he dQ
theorem J1(hu:X.A.units<cLine):Ċ X (compareOp .Eq) (λx y H Q=>∃s,y=.str s/\((∃r,x=.str r/\Q (.bl (decide (r=s))) H)\/∃a xs,x=.ref a/\Ì X.K H a xs/\Q (.bl false) H)):=by
 intro Â st σ H x y v u Q I rx ry h;obtain⟨s,rfl,⟨r,rfl,q⟩|⟨a,xs,rfl,ha,q⟩⟩:=h;.exact iQ Â st σ H _ _ v u Q I rx ry ⟨rfl,by rw[show decide (V.str r=V.str s)=decide (r=s)by simp];exact q⟩
 .cases rx;obtain⟨t,rfl⟩:=ry;obtain⟨its,r1,p1,_⟩:=I.tuple ha;exact PySem.SeqAt.RcAt.tuple_str s t p1 hu _ _ _ _ ⟨.bl false,H,I,rfl,q⟩
open Builtin in
theorem Fq(l:Addr)(n:Nat)(k:Int)(u:Tok)(dd:Option Addr)(sl:Array (Φ))(h2:2<=k)(h3:k<=1000):Meets (Builtin.«tuple.__mul__» ⟨[.ref l,.int k u],[]⟩) (λ_ R s=>s.heap.get? l=some {cls:=.type "tuple",dict:=dd,data:=.seq #[] n,slots:=sl}/\R (.ok (.ret (.ref l))) s):=by
 refine .of_wp λprog w A R s h=>?_;obtain⟨hp,g,d,tk,os⟩:=s;obtain⟨hl,h⟩:=h;have f1:=PySem.AutoSeq1.idx_int;have f2:=PySem.AutoSeq1.sub_tuple_tuple;have c0:(decide (k< -2^63)||decide (k≥2^63))=false:=by rw[ĉ À,ĉ À];rfl
 have nf:∀{b:Bool},b=false->decide (b=true)=false:=λ{b}e=>by rw[e];rfl
 wp_walk;refine wpAny_ite_false (nf c0) ?_;wp_walk;exact⟨_,rfl,h⟩
inductive ϱ(x:V)(y:V)(H:Hp)(Q:VK):Prop|mk:∀a k xs,(x=.ref a)->(y=.int k)->(H a=some (.tup xs))->(xs.length<=1000)->(2<=k)->(k<=1000)->(∀p H',Á H H'->H' p=some (.tup (List.replicate k.toNat xs).flatten)->Q (.ref p) H')->ϱ  x y H Q
def Oh:R2:=λx y H Q=>ϱ  x y H Q
theorem An:Ċ X (binaryOp .Mult) Oh:=by
 intro Â s σ H x y v u Q I rx ry h;obtain⟨a,k,xs,rfl,rfl,ea,hl,k2,k3,q⟩:=h;have ha:Ì X.K H a xs:=Ì.of ea;by_cases hx:xs=[];.subst hx;cases rx;obtain⟨t,rfl⟩:=ry;obtain⟨its,r,p1,_⟩:=I.tuple ha;have e2:its=[]:=r.zero;subst e2;obtain⟨⟨cls,dd,data,sl⟩,ho,hc,n,hd⟩:=id p1;simp only at hc hd;subst hc hd;refine wpAny_binaryOp_repeat_ref (T:="tuple") (U:="int") Ù ⟨_,ho,rfl⟩ (λs'=>typeIs_int s' k t) jE F.fills_int_mul F.slot_int_rmul qx F.slot_int_index.lookup (call_meets F.slot_int_rmul (typeIs_int s k t) F.entry_int_rmul (F.args_int_rmul_2 _ _) (mF k t a _ n dd sl) ⟨ho,rfl,⟨_,ho,rfl⟩,?_⟩);exact call_meets F.slot_tuple_mul ⟨_,ho,rfl⟩ F.entry_tuple_mul (F.args_tuple_mul_2 _ _) (Fq a n k t dd sl k2 k3) ⟨ho,.ref a,H,I,rfl,q a H (Á.refl H) (by rw[ea];simp)⟩
 .exact Ij Â s σ H _ _ v u Q I rx ry ⟨a,k,xs,rfl,rfl,ha,hx,hl,.inr ⟨.inr ⟨k2,k3⟩,λp hp=>q p _ (Á.upd hp) aa⟩⟩
end L2
namespace K33P
open PySem L2
def top(i:Nat):Stmt:=PySem.Challenge.pw_woolyears_k33_owing_refused.main.body.getD i (.Pass ⟨0,0,0,0⟩)
def bF(d:PyData):Bool:=nQ d&&!mq d
def items:PyData->ü|.tuple ds=>ds|_=>[]
def ô:PyData->Int|.int i=>i|_=>0
def bI(d:PyData)(f m:Int):Bool:=du d&&(decide (f<=(items d).length)&&decide (((items d).length:Int)<=m))
theorem nd1(x:Str):([x]:ó).Nodup:=by simp
theorem Ft(d:PyData):1<=sz d:=by cases d<;>simp[sz]
theorem uX:∀(ds:ü),ds.length<=å ds|[]=>ħ _|d::ds=>by have:=uX ds;have:=Ft d;simp only[List.length_cons,å];lia
theorem uY:∀{ds:ü}{d:PyData},d∈ds->sz d<=å ds
 |x::ds,d,h=>by
  simp only[å];rcases Ļ.mp h with e|e;.rw[e];simp
  .have:=uY e;lia
theorem iD(h:d∈ds)(hz:sz (.tuple ds)<=4000):sz d<=4000:=by have:=uY h;simp only[sz]at hz;lia
theorem gF(r:Å S H xs ds)(hz:sz (.tuple ds)<=4000):xs.length<sizeLine:=by have:=uX ds;have:=r.length;simp only[sz]at hz;rw[sizeLine_eq];omega
def ō(f:PyData->Bool):Sp:=λvs H Q _=>∃S v d,vs=[v]/\É S H v d/\sz d<=4000/\∀H',Á H H'->Q (.bl (f d)) H'
def km(f:PyData->Int->Int->Bool):Sp:=λvs H Q _=>∃S v d n m,vs=[v,.int n,.int m]/\É S H v d/\sz d<=4000/\∀H',Á H H'->Q (.bl (f d n m)) H'
structure Mg(mg:Ti):Prop where
 isinstance:mg "isinstance"=none
 int:mg "int"=none
 bool:mg "bool"=none
 tuple:mg "tuple"=none
 len:mg "len"=none
 all:mg "all"=none
theorem Õ:bootBuiltins "tuple"=some (.type "tuple"):=by decide+kernel
theorem È:bootBuiltins "isinstance"=some (.builtin "isinstance"):=by decide+kernel
theorem õ:bootBuiltins "all"=some (.builtin "all"):=by decide+kernel
theorem eG(f:PyData->Bool)(gx:σ[i]?=some (some (.ref a)))(ea:H a=some (.tup xs))(r:Å S H xs ds)(hl:xs.length<sizeLine)(kQ:∀v d H1 Q1,d∈ds->Á H H1->É S H1 v d->(∀H',Á H1 H'->Q1 (.bl (f d)) H')->te ((ĩ σ src).set j (some v)) H1 Q1)(q:∀H',Á H H'->Q (.bl (ds.all f)) H'):tCB (λxs H Q=>∃(p:Addr)(bs:List Bool),xs=[.ref p]/\Ï K H p (bs.map V.bl)/\Q (.bl (bs.all id)) H) (bV (vY (Kv K (iH i)) src (bH j) uD te) ie) σ H Q:=by
 refine⟨_,gx,a,rfl,⟨xs,Ì.of ea⟩,oX (j:=j) f ea r hl kQ λH2 s2 D hD=>⟨D,ds.map f,rfl,?_,?_⟩⟩;.rw[<-wC];exact Ï.of aa
 .rw[Ea];exact q _ (s2.updR hD)
structure Nums(mg:Ti):Prop where many:∃t,mg "MOST_WEIGHTS"=some (.int 80 t)most:∃t,mg "MOST_WEIGHT"=some (.int 99 t)
def á(P:Program)(w:World)(K:Frag)(mg:Ti)(base:Heap)(k:Nat)(x:Str)(ps:ó)(sp:Sp):Prop:=∃f fd,Ê P w K mg base Þ k f fd ps sp/\mg x=some (.ref f)/\PySem.W.keepIn K (.ref f)=true/\ò K fd ps []
theorem aG{p pos:Pos}(c:á X.prog X.w X.K X.mg X.base j x ps sp)(hr:à k X.A)(ha:PA X (e::es) t)(hjk:j<=k:=by decide)(hg:Gl X x:=by exact rfl)(eW:Ţ x:=by decide)(he:Qa8 X e es:=by rfl)(dQ:Qa9 X pos es:=by rfl):PE X (.Call (.Name x p) (e::es) [] pos) (vV sp [] E0 t):=by obtain⟨f,fd,F,hm,hk,hb⟩:=c;exact zq F (hr.mono hjk) hg hm hk hb .nil Ni ha eW he dQ
def dN(d:PyData)(lo hi:Int):Bool:=bF d&&(decide (lo<=ô d)&&decide (ô d<=hi))
def jH(d:PyData):Bool:=bI d 1 80&&(items d).all λx=>dN x 1 99
theorem Ć:bootBuiltins "sorted"=some (.builtin "sorted"):=by decide+kernel
theorem Ă:bootBuiltins "sum"=some (.builtin "sum"):=by decide+kernel
theorem cX{Fin:List V->Hp->Prop}(n:Nat)(Pv:Nat->List V->St->Hp->Prop)(h0:Pv 0 [] fF H0)(hz:n<sizeLine)(step:∀i ys σ H,i<n->ys.length=i->Pv i ys σ H->J.go i H/\∀x H',J.yld i H x H'->∀R:V->St->Hp->Prop,(∀y ax H4,Pv (i+1) (ys++[y]) ax H4->R y ax H4)->g x σ H' λax H2=>te ax H2 λy H4=>R y ax H4)(fin:∀ys σ H,ys.length=n->Pv n ys σ H->J.stop n H/\Fin ys H):oU J g uD te Fin fF H0:=by
 refine⟨λi m ys σ H=>m=n-i/\i<=n/\ys.length=i/\Pv i ys σ H,⟨_,rfl,ħ _,rfl,h0⟩,?_⟩;rintro i m ys σ H⟨rfl,hi,hy,p⟩;refine⟨À,?_⟩;by_cases av:i<n;.obtain⟨go,st⟩:=step i ys σ H av hy p;exact .inr ⟨go,λx H' y=>st x H' y _ λy ax H4 p2=>⟨n-(i+1),z03,rfl,av,by rw[ý,hy];rfl,p2⟩⟩
 .have e:i=n:=À;subst e;exact .inl (fin ys σ H hy p)
theorem nd2(x y:Str)(h:x≠y):([x,y]:ó).Nodup:=by simp[h]
section
theorem sc1:Ã ["thing"] ["thing"] (az (top 20)):=ú
theorem PQ:Ã ["thing"] ["thing"] (az (top 48)):=ú
theorem ok_are_weights(F:ß K "are_weights" "are_weights" (top 48) f fd)(T:Mg mg)(N:Nums mg)(c1:á P w K mg base 2 "is_whole_from" ["thing","least","most"] (km dN))(c2:á P w K mg base 1 "is_tuple_of" ["thing","fewest","most"] (km bI)):Ê P w K mg base Þ 4 f fd ["thing"] (ō jH):=by refine F.oq PQ λcdv A outer s H vs Q E hr h=>?_;obtain⟨S,v,d,rfl,th,hz,q⟩:=h;obtain⟨t3,e3⟩:=N.many;obtain⟨t4,e4⟩:=N.most;refine⟨_,aF (aP (cF (aG c2 hr (aN (pv 0) (aN au (aN (bQ (v:=.int 80) rfl e3 ⟨_,rfl⟩) aj)))) (fD (aK (gq rfl) rfl T.all õ (aN (bY ["part"] [none] rfl (gG (pv 0)) (λC fp Â s₂ Ü=>⟨bx (i:=0) (nd1 _) rfl (Or.inl rfl),bW,aG c1 hr (aN (pv 0) (aN au (aN (bQ (v:=.int 99) rfl e4 ⟨_,rfl⟩) aj)))⟩) (λC=>trivial) ⟨rfl,rfl,rfl,rfl⟩) aj))))),?_⟩;refine⟨_,rfl,S,v,d,1,80,rfl,th,hz,λH1 s1=>⟨_,rfl,?_⟩⟩;have fR:=th.same s1;have fin:=λH'(s:Á H H')=>q H' s;unfold jH at fin;cases e:bI d 1 80 with|false=>rw[e]at fin;exact aZ (fin _ s1);|true=>rw[e]at fin;refine bj ?_;cases fR with|@tup a xs ds ea r=>exact eG (λx=>dN x 1 99) rfl ea r (gF r hz) (λv d H2 Q2 hm s2 t2 q2=>⟨_,rfl,S,v,d,1,99,rfl,t2,iD hm hz,q2⟩) λH2 s2=>fin _ (s1.trans s2);|_=>cases e
end
theorem gf:N6 X (λx y H Q=>Xe4 λp xs i v=>Xa6 (x=.ref p) (y=.int i) (Ï X.K H p xs) (0<=i) (xs[i.toNat]?=some v) (Q v H)):=by intro Â s σ H x y v u Q I rx ry h;obtain⟨p,xs,i,z,rfl,rfl,hq,h0,he,q⟩:=h;cases rx;obtain⟨t,rfl⟩:=ry;obtain⟨its,r,pl,hz⟩:=I.list hq;obtain⟨w,ew,iE⟩:=r.get he;have hn:=pZ;have hi:=(ġ.mp he).1;exact PySem.wpAny_getItem_list pl.isList h0 À (by simpa using ew) ⟨z,H,I,iE,q⟩
section
theorem Fv(hK:X.K=K)(hl:PE X l tl):PI X tg l (JS K tl):=by subst hK;exact dC hl
theorem ix_tupK(hK:X.K=K):IxR X (KH K):=by subst hK;exact bu
theorem qL(hK:X.K=K):dH X (.type "tuple") (λxs H Q=>∃p ys,xs=[.ref p]/\((Ï K H p ys/\∀l,H l=none->Q (.ref l) (upd H l (.tup ys)))\/(Ì K H p ys/\Q (.ref p) H))):=by subst hK;exact cZ
end
def iZ(H:Hp)(st:Addr):Prop:=∃a b c:Int,H st=some (.lst [.int a,.int b,.int c])/\0<=a/\0<=b/\b<4294967296
structure Dr(st:Addr)(H H':Hp):Prop where
 bt:∀b o,H b=some o->b≠st->H' b=some o
 sa:iZ H' st
theorem Dr.same(g:Dr st H H1)(s:Á H1 H2):Dr st H H2:=by obtain⟨a,b,c,e,h⟩:=g.sa;exact⟨λb' o' e' ne=>s _ _ (g.bt b' o' e' ne),a,b,c,s _ _ e,h⟩
theorem Dr.trans(g:Dr st H H1)(g':Dr st H1 H2):Dr st H H2:=⟨λb' o' e' ne=>g'.bt _ _ (g.bt b' o' e' ne) ne,g'.sa⟩
theorem Dr.refl(h:iZ H st):Dr st H H:=⟨λ_ _ e _=>e,h⟩
theorem Dr.draw(g:Dr st H H1)(h1:0<=a)(h2:0<=b)(h3:b<4294967296):Dr st H (upd H1 st (.lst [.int a,.int b,.int c])):=⟨λb' o' e' ne=>by rw[aA ne];exact g.bt _ _ e' ne,a,b,c,aa,h1,h2,h3⟩
theorem Dr.ne(g:Dr st H H1)(hp:H1 p=none):p≠st:=λz=>by obtain⟨a,b,c,e,_⟩:=g.sa;rw[z,e]at hp;cases hp
theorem Dr.tups(g:Dr st H H1)(h0:iZ H st):∀b xs,H b=some (.tup xs)->H1 b=some (.tup xs):=λb xs e=>g.bt _ _ e λz=>by obtain⟨_,_,_,e',_⟩:=h0;rw[z,e']at e;cases e
theorem Dr.ths(g:Dr st H H1)(h0:iZ H st)(t:Å (λ_=>False) H vs ds):Å (λ_=>False) H1 vs ds:=t.keep (g.tups h0) (λ_ _ z _=>z.elim) λ_ _ z _=>z.elim
inductive ψ(K:Frag)(vs:List V)(H:Hp)(Q:VK):Prop|mk:∀(a:Addr)(ns:VV)(k:Int),(vs=[.ref a,.int k])->(Ï K H a (ns.map V.int))->(0<=k)->(∀i,Q (.int i) H)->ψ K vs H Q
def Fw(K:Frag):Sp:=λvs H Q _=>ψ K vs H Q
inductive Ų(K:Frag)(vs:List V)(H:Hp)(Q:VK):Prop|mk:∀(a:Addr)(ns:VV)(k:Int),(vs=[.ref a,.int k])->(Ï K H a (ns.map V.int))->(0<=k)->(∀(p:Addr)(x y z:Int),H p=none->0<=x->0<=y->y<4294967296->Q (.ref p) (upd H p (.lst [.int x,.int y,.int z])))->Ų K vs H Q
def Ao(K:Frag):Sp:=λvs H Q _=>Ų K vs H Q
inductive ř(vs:List V)(H:Hp)(Q:VK):Prop|mk:∀(st:Addr)(n:Int),(vs=[.ref st,.int n])->(iZ H st)->(1<=n)->(n<1073741824)->(∀r a b c:Int,0<=r->r<n->0<=a->0<=b->b<4294967296->Q (.int r) (upd H st (.lst [.int a,.int b,.int c])))->ř  vs H Q
def dU:Sp:=λvs H Q _=>ř  vs H Q
theorem o9:bootBuiltins "max"=some (.builtin "max"):=by decide+kernel
theorem oh:bootBuiltins "min"=some (.builtin "min"):=by decide+kernel
section
theorem PX:Ã [ũ,ϸ] [ũ,ϸ] (az (top 72)):=ú
theorem ok_cell(F:ß K "_law_cell_at" "_law_cell_at" (top 72) f fd)(T:Mg mg):Ê P w K mg base Þ 1 f fd [ũ,ϸ] (Fw K):=by
 refine F.oq PX λcdv A outer s H vs Q E hr h=>?_;obtain⟨a,ns,k,rfl,hS,h0,q⟩:=h;refine⟨_,aB (bT (aY oO (pv 1) (aK bh rfl T.len PySem.boot_len (aN (pv 0) aj)) (aW _)) (aF (aP (pX bM (pv 0) (pv 1)))) bf) (aF (aP au)),?_⟩;refine⟨_,rfl,_,rfl,a,_,rfl,.inl hS,_,_,rfl,rfl,_,rfl,?_⟩;refine DR (λc=>?_) (λ_=>q 0);have c:=ώ c;rw[Ý]at c;have hk:k.toNat<ns.length:=À;refine⟨_,rfl,_,rfl,a,_,k,.int ns[k.toNat],rfl,rfl,hS,?_,q _⟩;have e:(ns.map V.int)[k.toNat]?=some (.int ns[k.toNat]):=by rw[ģ,é hk];rfl
 have:=dD e;rw[show((k.toNat:Nat):Int)=k by lia]at this;exact this
theorem sc26:Ã [ũ,ϸ,"_law_cell"] [ũ,ϸ] (az (top 73)):=ú
theorem ok_state(F:ß K "_law_state" "_law_state" (top 73) f fd)(Tm:mg "max"=none)(c1:á P w K mg base 1 "_law_cell_at" [ũ,ϸ] (Fw K)):Ê P w K mg base Þ 2 f fd [ũ,ϸ] (Ao K):=by
 refine F.oq sc26 λcdv A outer s H vs Q E hr h=>?_;obtain⟨a,ns,k,rfl,hS,h0,q⟩:=h;refine⟨_,aB (ě 2 sc26.nd (aG c1 hr (aN (pv 0) (aN (pv 1) aj)))) (aF (aP (dJ (aq (aK (jR rfl) rfl Tm o9 (aq au (aq (aQ dZ (pv 2) (aQ uv au au)) aj))) (aq (aQ bU (aQ lA (pv 2) au) au) (aq au aj)))))),?_⟩;refine⟨_,rfl,_,rfl,a,ns,k,rfl,hS,h0,λc=>?_⟩;refine⟨_,rfl,_,_,rfl,rfl,⟨by decide,by decide,by decide⟩,_,_,rfl,rfl,_,_,rfl,_,rfl,_,_,rfl,rfl,(by show(0:Int)<2147483629;decide),_,_,rfl,rfl,zL,λp hp=>?_⟩;refine q p _ _ _ hp ?_ ?_ ?_;.split<;>lia
 .show 0<=c%2147483629+1;lia
 .show c%2147483629+1<4294967296;lia
theorem Z00:Ã [ø,ύ,AAt,"_law_mixed"] [ø,ύ] (az (top 74)):=ú
theorem ok_choice(F:ß K Ϥ Ϥ (top 74) f fd):Ê P w K mg base Þ 1 f fd [ø,ύ] dU:=by
 refine F.oq Z00 λcdv A outer s H vs Q E hr h=>?_;obtain⟨st,n,rfl,⟨a,b,c,es,ha,hb,DC⟩,h1,h2,q⟩:=h;refine⟨_,aB (bT (aY jw (pX bM (pv 0) au) au (aW _)) (aB (ě 2 Z00.nd (aQ lA (pX bM (pv 0) au) (pv 1))) (aB (cP (aQ ut (pX bM (pv 0) au) (pv 1)) (nJ (pv 0) au æ)) (aF (aP (pv 2))))) bf) (aB (cP (aQ bU (pX bM (pv 0) au) au) (nJ (pv 0) au æ)) (aB (cP (aQ lA (aQ bU (aQ bU (aQ gZ (pX bM (pv 0) au) au) au) (pX bM (pv 0) au)) au) (nJ (pv 0) au æ)) (aB (ě 3 Z00.nd (aQ lA (aQ bU (aQ bU (aQ gZ (pX bM (pv 0) au) (pX bM (pv 0) au)) (aQ gZ au (pX bM (pv 0) au))) au) au)) (aB (ě 3 Z00.nd (aQ lA (aQ bU (aQ gZ (pv 3) (pv 3)) (aQ gZ au (pv 3))) au)) (aF (aP (aQ lA (aQ ut (pv 3) au) (pv 1)))))))),?_⟩;refine⟨_,rfl,st,_,0,.int a,rfl,rfl,Ï.of es,rfl,_,_,rfl,rfl,_,rfl,?_⟩;refine DR (λhc=>?_) (λ_=>?_);.refine⟨_,rfl,st,_,0,.int a,rfl,rfl,Ï.of es,rfl,_,rfl,_,_,rfl,rfl,(by show 0<n;lia),?_⟩;refine⟨_,rfl,st,_,0,.int a,rfl,rfl,Ï.of es,rfl,_,rfl,_,_,rfl,rfl,⟨À,h2⟩,_,rfl,st,_,0,0,rfl,rfl,es,rfl,_,rfl,?_⟩;exact q (a%n) (a/n) b c (Int.emod_nonneg a À) (Zbh a z03) (Int.ediv_nonneg ha À) hb DC
 .refine⟨_,rfl,st,_,2,.int c,rfl,rfl,Ï.of es,rfl,_,_,rfl,rfl,_,rfl,st,_,2,2,rfl,rfl,es,rfl,?_⟩;have eL:([V.int a,V.int b,V.int c].set 2 ((λi j:Int=>V.int (i+j)) c 1))=[V.int a,V.int b,V.int (c+1)]:=rfl;rw[eL];have nI:upd H st (.lst [.int a,.int b,.int (c+1)]) st=some (.lst [.int a,.int b,.int (c+1)]):=aa;refine⟨_,rfl,st,_,1,.int b,rfl,rfl,Ï.of nI,rfl,_,_,rfl,rfl,.inl ⟨z03,À⟩,_,_,rfl,rfl,_,rfl,st,_,2,.int (c+1),rfl,rfl,Ï.of nI,rfl,_,_,rfl,rfl,_,_,rfl,rfl,(by show(0:Int)<2147483647;decide),_,rfl,st,_,1,1,rfl,rfl,nI,rfl,?_⟩;have PM:0<=(b*48271+29+(c+1))%2147483647:=Int.emod_nonneg _ Ù;have UY:(b*48271+29+(c+1))%2147483647<2147483647:=Zbh _ Ò;obtain⟨m,hm⟩:∃m,m=(b*48271+29+(c+1))%2147483647:=⟨_,rfl⟩;rw[<-hm]at PM UY;have eL:([V.int a,V.int b,V.int (c+1)].set 1 ((λi j:Int=>V.int (i%j)) (b*48271+29+(c+1)) 2147483647))=[V.int a,V.int m,V.int (c+1)]:=by rw[hm];rfl
  rw[eL];have eu:upd (upd H st (.lst [.int a,.int b,.int (c+1)])) st (.lst [.int a,.int m,.int (c+1)])=upd H st (.lst [.int a,.int m,.int (c+1)]):=by
   funext z;by_cases hz:z=st;.rw[hz,aa,aa]
   .rw[aA hz,aA hz,aA hz]
  rw[eu];have gv:upd H st (.lst [.int a,.int m,.int (c+1)]) st=some (.lst [.int a,.int m,.int (c+1)]):=aa;refine⟨_,rfl,st,_,1,.int m,rfl,rfl,Ï.of gv,rfl,_,rfl,st,_,1,.int m,rfl,rfl,Ï.of gv,rfl,_,_,rfl,rfl,.inl ⟨z03,À⟩,_,rfl,st,_,1,.int m,rfl,rfl,Ï.of gv,rfl,_,_,rfl,rfl,.inl ⟨by decide,by decide⟩,_,_,rfl,rfl,_,_,rfl,rfl,_,_,rfl,rfl,(by show(0:Int)<2147483629;decide),?_⟩;have LH:0<=(m*m+39373*m+7)%2147483629:=Int.emod_nonneg _ Ù;have yi:(m*m+39373*m+7)%2147483629<2147483629:=Zbh _ Ò;refine⟨_,rfl,_,rfl,_,_,rfl,rfl,.inl ⟨Int.lt_of_lt_of_le Ò LH,Int.lt_trans yi Ò⟩,_,rfl,_,_,rfl,rfl,.inl ⟨by decide,by decide⟩,_,_,rfl,rfl,_,_,rfl,rfl,(by show(0:Int)<2147483587;decide),?_⟩;refine⟨_,rfl,_,_,rfl,rfl,⟨by decide,by decide⟩,_,rfl,_,_,rfl,rfl,(by show 0<n;lia),?_⟩;exact q _ a m (c+1) (Int.emod_nonneg _ À) (Zbh _ À) ha PM À
end
theorem ok_b{R:TS->Prop}(h:BSs X body t)(q:R t):∃t,Ķ X body t/\R t:=⟨t,h.run,q⟩
def rr(rs:VV)(i:Nat):Int:=rs.getD i 0
def bef(rs:VV)(i j:Nat):Bool:=decide (rr rs j<rr rs i)||(decide (rr rs i=rr rs j)&&decide (i<=j))
theorem mY:bef rs i j=true↔rr rs j<rr rs i\/(rr rs i=rr rs j/\i<=j):=by unfold bef;rw[Bool.or_eq_true,ą,decide_eq_true_iff,decide_eq_true_iff,decide_eq_true_iff]
structure Ϣ(rs:VV)(pl:List Nat):Prop where pm:pl.Perm (List.range rs.length)so:pl.Pairwise λi j=>bef rs i j=true
theorem jJ(rs:VV):∃pl,Ϣ rs pl:=by
 refine⟨(List.range rs.length).mergeSort (bef rs),List.mergeSort_perm _ _,List.pairwise_mergeSort (λa b c h1 h2=>?_) (λa b=>?_) _⟩;.rw[mY]at h1 h2⊢;omega
 .rw[Bool.or_eq_true,mY,mY];lia
theorem LQ(h:Ϣ rs p)(h':Ϣ rs q):p=q:=by refine List.Perm.eq_of_pairwise (λa b _ _ h1 h2=>?_) h.so h'.so (h.pm.trans h'.pm.symm);rw[mY]at h1 h2;lia
def fj(fs:VV)(pl:List Nat):VV:=pl.foldl (λl i=>l.set i (l.getD i 0+1)) fs
theorem yQ(fs:VV)(pl:List Nat)(i:Nat):fj fs (pl++[i])=(fj fs pl).set i ((fj fs pl).getD i 0+1):=by unfold fj;rw[List.foldl_append];rfl
theorem ou:∀(pl:List Nat)(fs:VV),(fj fs pl).length=fs.length|[],_=>rfl|i::pl,fs=>by show(fj (fs.set i _) pl).length=_;rw[ou pl,Za2]
def fs(n:Int)(ws:VV):VV:=ws.map λw=>n*w/ws.sum
def rs(n:Int)(ws:VV):VV:=ws.map λw=>n*w%ws.sum
def lf(n:Int)(ws:VV):Int:=n-(fs n ws).sum
def OkW(ws:VV):Prop:=1<=ws.length/\ws.length<=80/\∀w∈ws,1<=w/\w<=99
theorem uZ:∀{l:VV},(∀a∈l,a<=B)->l.sum<=B*l.length|[],_=>by simp;|a::l,h=>by have h1:=uZ (B:=B) (l:=l) λb hb=>h b (.tail _ hb);have h2:=h a (.head _);rw[ζ,ľ,show B*((l.length+1:Nat):Int)=B*l.length+B by rw[Int.natCast_add,Int.mul_add];simp];lia
theorem lK:∀{l:VV},(∀a∈l,0<=a)->0<=l.sum|[],_=>by simp;|a::l,h=>by have h1:=lK (l:=l) λb hb=>h b (.tail _ hb);have h2:=h a (.head _);rw[ζ];lia
theorem OkW.pos(h:OkW ws):1<=ws.sum:=by obtain⟨h1,_,h3⟩:=h;match ws,h1,h3 with
 |w::ws,_,h3=>
  have:=lK (l:=ws) λa ha=>by have:=h3 a (.tail _ ha);lia
  have:=h3 w (.head _);rw[ζ];lia
theorem OkW.top(h:OkW ws):ws.sum<=7920:=by have h1:=uZ (B:=99) λa ha=>(h.2.2 a ha).2;have:=h.2.1;lia
theorem divs(n T:Int):∀ws:VV,T*(ws.map λw=>n*w/T).sum+(ws.map λw=>n*w%T).sum=n*ws.sum|[]=>by simp;|w::ws=>by have h1:=divs n T ws;have h2:=Int.mul_ediv_add_emod (n*w) T;simp only[List.map_cons,List.sum_cons,Int.mul_add];lia
theorem LR(n:Int)(ws:VV):ws.sum*lf n ws=(rs n ws).sum:=by have h:=divs n ws.sum ws;unfold lf fs rs;rw[Int.mul_sub,Int.mul_comm ws.sum n];lia
theorem Oi(h:OkW ws):∀r∈rs n ws,0<=r:=λr hr=>by obtain⟨w,_,rfl⟩:=Ā.mp hr;have:=h.pos;exact Int.emod_nonneg _ À
theorem Oj(h:OkW ws):∀r∈rs n ws,r<=ws.sum:=λr hr=>by obtain⟨w,_,rfl⟩:=Ā.mp hr;have:=h.pos;exact Int.le_of_lt (Zbh _ À)
theorem v7(n:Int)(ws:VV):(fs n ws).length=ws.length:=Ý _
theorem oA(n:Int)(ws:VV):(rs n ws).length=ws.length:=Ý _
theorem Fx(h:OkW ws):0<=lf n ws:=by have h1:=LR n ws;have h2:=lK (Oi (n:=n) h);have h3:=h.pos;refine Int.le_of_not_gt λc=>?_;have:=Int.mul_le_mul_of_nonneg_left (c:=ws.sum) (show lf n ws<=-1 by lia) À;lia
theorem JZ(h:OkW ws):lf n ws<=ws.length:=by have h1:=LR n ws;have h2:=uZ (Oj (n:=n) h);rw[oA]at h2;have h3:=h.pos;refine Int.le_of_not_gt λc=>?_;have:=Int.mul_le_mul_of_nonneg_left (c:=ws.sum) (show(ws.length:Int)+1<=lf n ws by lia) À;rw[Int.mul_add]at this;lia
theorem M3(h:OkW ws):lf ws.sum ws=0:=by
 have h1:=LR ws.sum ws;have h2:(rs ws.sum ws).sum<=0:=by
  have:=uZ (B:=0) (l:=rs ws.sum ws) λr hr=>by obtain⟨w,_,rfl⟩:=Ā.mp hr;rw[Int.mul_emod_right];exact Za5 _
  simp_all
 have h3:=h.pos;have h4:=Fx (n:=ws.sum) h;refine Int.le_antisymm (Int.le_of_not_gt λc=>?_) h4;have:=Int.mul_le_mul_of_nonneg_left (c:=ws.sum) (show 1<=lf ws.sum ws by omega) À;grind
theorem tZ:∀(pl:List Nat)(l:VV)(i:Nat),i<l.length->(fj l pl).getD i 0=l.getD i 0+pl.count i
 |[],l,i,_=>by simp[fj];|j::pl,l,i,h=>by
  show(fj (l.set j (l.getD j 0+1)) pl).getD i 0=_;rw[tZ pl _ i (by rw[Za2];exact h),List.count_cons];by_cases e:j=i;.subst e;rw[ŧ,Za4 h,Option.getD_some,beq_self_eq_true,Í rfl];lia
  .rw[ŧ,List.getElem?_set_ne e,<-ŧ,Ë (by simp[e])];lia
theorem Ϣ.nd(h:Ϣ r pl):pl.Nodup:=h.pm.nodup_iff.mpr List.nodup_range
theorem Ϣ.len(h:Ϣ r pl):pl.length=r.length:=by rw[h.pm.length_eq,List.length_range]
theorem Ϣ.lt(h:Ϣ r pl):∀i∈pl,i<r.length:=λi hi=>ϡ.mp (h.pm.mem_iff.mp hi)
def res(n:Int)(ws:VV):VV:=fj (fs n ws) ((jJ (rs n ws)).choose.take (lf n ws).toNat)
theorem M4(h:Ϣ (rs n ws) pl):fj (fs n ws) (pl.take (lf n ws).toNat)=res n ws:=by unfold res;rw[LQ h (jJ (rs n ws)).choose_spec]
theorem res_len(n:Int)(ws:VV):(res n ws).length=ws.length:=by unfold res;rw[ou,v7]
theorem res_get(h:OkW ws)(n0:0<=n)(n1:n<=ws.sum){i:Nat}(hr:(res n ws)[i]?=some r)(hw:ws[i]?=some w):0<=r/\r<=w:=by
 have hi:i<ws.length:=(ġ.mp hw).1;have hp:=h.pos;have ww:=h.2.2 w (Ŋ hw);have e:r=n*w/ws.sum+((jJ (rs n ws)).choose.take (lf n ws).toNat).count i:=by
  have:=tZ ((jJ (rs n ws)).choose.take (lf n ws).toNat) (fs n ws) i (by rw[v7];exact hi);have e2:(fs n ws).getD i 0=n*w/ws.sum:=by unfold fs;rw[ŧ,ģ,hw];rfl
  rw[e2]at this;rw[<-this,show fj (fs n ws) _=res n ws from rfl,ŧ,hr];rfl
 have c1:((jJ (rs n ws)).choose.take (lf n ws).toNat).count i<=1:=List.nodup_iff_count.mp ((jJ (rs n ws)).choose_spec.nd.sublist (Zav _ _)) i;have q0:0<=n*w/ws.sum:=Int.ediv_nonneg (Int.mul_nonneg n0 z03) À;refine⟨z03,?_⟩;by_cases en:n=ws.sum
 .have:((jJ (rs n ws)).choose.take (lf n ws).toNat)=[]:=by rw[en,M3 h];rfl
  rw[this]at e;rw[en,Int.mul_ediv_cancel_left _ À]at e;simp at e;lia
 .have:n*w/ws.sum<w:=by refine Int.ediv_lt_of_lt_mul z03 ?_;rw[Int.mul_comm w];exact Int.mul_lt_mul_of_pos_right À À
  lia
theorem u5{ws:VV}{Fin:List V->Hp->Prop}(f:Int->Int)(ep:H0 p=some (.tup (ws.map V.int)))(hl:ws.length<sizeLine)(kQ:∀(z:Int)(Q:VK),z∈ws->Q (.int (f z)) H0->te (fF.set 0 (some (.int z))) H0 Q)(fin:Fin ((ws.map f).map V.int) H0):oU (Itt K p) (bH 0) uD te Fin fF H0:=by
 refine cX ws.length (λi ys σ H=>H=H0/\(∀o,σ.set 0 o=fF.set 0 o)/\ys=((ws.take i).map f).map V.int) ⟨rfl,λ_=>rfl,rfl⟩ hl ?_ ?_
 .rintro i ys σ H hi hy⟨rfl,gx,rfl⟩;have hz:(ws.map V.int)[i]?=some (.int ws[i]):=by rw[ģ,é hi];rfl
  refine⟨⟨_,_,Ì.of ep,hz⟩,λv H' y' R hR=>?_⟩;obtain⟨rfl,y'⟩:=y';have hv:=y' _ (Ì.of ep);rw[hz]at hv;cases hv;show te (σ.set 0 (some (.int ws[i]))) _ _;rw[gx];refine kQ ws[i] _ (į hi) (hR _ _ _ ⟨rfl,λo=>by rw[List.set_set],?_⟩);rw[ŋ,é hi,Ħ,Ħ];rfl
 .rintro ys σ H hy⟨rfl,gx,rfl⟩;refine⟨⟨_,Ì.of ep,by rw[Ý];exact Ø _⟩,?_⟩;rw[Ľ];exact fin
def wD(ws:VV):PyData:=.tuple (ws.map PyData.int)
theorem xu:∀(r:VV),å (r.map PyData.int)=r.length|[]=>rfl|_::r=>by show 1+å (r.map PyData.int)=r.length+1;rw[xu r,Nat.add_comm]
theorem Q0(ws:VV):sz (wD ws)=1+ws.length:=by show 1+å (ws.map PyData.int)=_;rw[xu]
theorem Q3(h:OkW ws):jH (wD ws)=true:=by
 unfold jH;rw[ą];refine⟨?_,ŀ.mpr λd hd=>?_⟩;.show(true&&(decide (1<=((ws.map PyData.int).length:Int))&&decide (((ws.map PyData.int).length:Int)<=80)))=true;have h1:=h.1;have h2:=h.2.1;rw[Ý,è À,è À];rfl
 .obtain⟨w,hw,rfl⟩:=Ā.mp hd;have:=h.2.2 w hw;show(true&&(decide (1<=w)&&decide (w<=99)))=true;rw[è this.1,è this.2];rfl
inductive Ŗ(vs:List V)(H:Hp)(Q:VK):Prop|mk:∀n p ws,(vs=[.int n,.ref p])->(H p=some (.tup (ws.map V.int)))->(OkW ws)->(0<=n)->(n<=ws.sum)->(∀H',Á H H'->Q .non H')->Ŗ  vs H Q
def xx:Sp:=λvs H Q _=>Ŗ  vs H Q
inductive ŗ(vs:List V)(H:Hp)(Q:VK):Prop|mk:∀p rests,(vs=[.ref p])->(H p=some (.lst ((rests:VV).map V.int)))->(rests.length<sizeLine)->(∀H' q pl,Ϣ rests pl->Á H H'->H q=none->H' q=some (.lst (pl.map λj:Nat=>V.int (j:Int)))->Q (.ref q) H')->ŗ  vs H Q
def xF:Sp:=λvs H Q _=>ŗ  vs H Q
inductive ŵ(vs:List V)(H:Hp)(Q:VK):Prop|mk:∀n p ws,(vs=[.int n,.ref p])->(H p=some (.tup (ws.map V.int)))->(OkW ws)->(0<=n)->(n<=ws.sum)->(∀H' q,Á H H'->H' q=some (.tup ((res n ws).map V.int))->Q (.ref q) H')->ŵ  vs H Q
def spParts:Sp:=λvs H Q _=>ŵ  vs H Q
def jr(H:Hp)(a:Addr):Nat:=match H a with|some (.tup [_,.int y])=>y.toNat|_=>0
def ő(H:Hp)(a:Addr):VV:=match H a with|some (.tup [.int x,.int y])=>[x,y]|_=>[]
theorem Ol(h:rests[i]?=some x):rr rests i=x:=by unfold rr;rw[ŧ,h];rfl
theorem J3(h:HT.lexLt [-(rr rests j),(j:Int)] [-(rr rests i),(i:Int)]=false):bef rests i j=true:=by
 rw[mY];rw[HT.lexLt_cons]at h;by_cases e:-(rr rests j)=-(rr rests i)
 .rw[Í e,HT.lexLt_cons]at h;by_cases e2:(j:Int)=(i:Int);.exact .inr ⟨z03,À⟩
  .rw[Ë e2]at h;have:=of_decide_eq_false h;exact .inr ⟨z03,À⟩
 .rw[Ë e]at h;have:=of_decide_eq_false h;exact .inl À
section
theorem Q4:Ã ["sacks","weights"] ["sacks","weights"] (az (top 49)):=ú
theorem ok_refuse(F:ß K "refuse_unpartable" "refuse_unpartable" (top 49) f fd)(Ts:mg "sum"=none)(c1:á P w K mg base 4 "are_weights" ["thing"] (ō jH))(c2:á P w K mg base 2 "is_whole_from" ["thing","least","most"] (km dN)):Ê P w K mg base Þ 5 f fd ["sacks","weights"] xx:=by
 refine F.oq Q4 λcdv A outer s H vs Q E hr h=>?_;obtain⟨n,p,ws,rfl,ep,ok,n0,n1,q⟩:=h;refine⟨_,aB (bT (cj (bL (aG c1 hr (aN (pv 1) aj)))) (aF dO) bf) (aF (bT (cj (bL (aG c2 hr (aN (pv 0) (aN au (aN (aK (gR rfl) rfl Ts Ă (aq (pv 1) aj)) aj)))))) (aF dO) bf)),?_⟩;refine aC ?_;refine⟨_,rfl,λ_=>False,_,wD ws,rfl,.tup ep (Å.ints ws),by rw[Q0];have:=ok.2.1;lia,λH1 s1=>⟨_,rfl,?_⟩⟩;rw[Q3 ok];refine aZ ?_;refine⟨_,rfl,_,rfl,p,ws,rfl,.inr (Ì.of (s1 _ _ ep)),λ_=>False,_,.int n,0,_,rfl,.int n,(by show 1<=4000;decide),λH2 s2=>⟨_,rfl,?_⟩⟩;have e:dN (.int n) 0 ws.sum=true:=by show(true&&(decide (0<=n)&&decide (n<=ws.sum)))=true;rw[è n0,è n1];rfl
 rw[e];exact aZ (q H2 (s1.trans s2))
theorem Z01:Ã ["rests","ranked"] ["rests"] (az (top 50)):=ú
theorem ok_places(F:ß K "places_by_rest" "places_by_rest" (top 50) f fd)(Te:mg "enumerate"=none)(Ts:mg "sorted"=none):Ê P w K mg base Þ 1 f fd ["rests"] xF:=by
 refine F.oq Z01 λcdv A outer s H vs Q E hr h=>?_;obtain⟨p,rests,rfl,ep,hz,q⟩:=h;refine⟨_,aB (ě 1 Z01.nd (aK uU rfl Ts Ć (aq (bY (g:=lR K 2 (bZ (bH 0) (bZ (bH 1) nH))) ["at","rest"] [none,none] rfl (ZT.pi_enum false rfl Te (aq (pv 0) aj)) (λC fp Â s₂ Ü=>⟨dX rfl rfl (ao (bx (i:=0) (nd2 _ _ Ù) rfl (Or.inl rfl) (Or.inr rfl)) (ao (bx (i:=1) (nd2 _ _ Ù) rfl (Or.inl rfl) (Or.inr rfl)) aX)),bW,bB (aq (vU pR (pv 1)) (aq (pv 0) aj))⟩) (λC=>trivial) ⟨rfl,rfl,rfl,rfl⟩) aj))) (aF (aP (bY (g:=lR K 2 (bZ (bH 0) (bZ (bH 1) nH))) ["minus","at"] [none,none] rfl (dC (pv 1)) (λC fp Â s₂ Ü=>⟨dX rfl rfl (ao (bx (i:=0) (nd2 _ _ Ù) rfl (Or.inl rfl) (Or.inr rfl)) (ao (bx (i:=1) (nd2 _ _ Ù) rfl (Or.inl rfl) (Or.inr rfl)) aX)),bW,pv 1⟩) (λC=>trivial) ⟨rfl,rfl,rfl,rfl⟩))),?_⟩;refine aC ?_;refine⟨_,rfl,p,_,rfl,Ï.of ep,cX rests.length (λi ys σ Hc=>Á H Hc/\(∃o1 o2,σ=[o1,o2])/\∃ts:ă,ys=ts.map V.ref/\∀j,j<i->∃a,ts[j]?=some a/\Hc a=some (.tup [.int (-(rr rests j)),.int (j:Int)])) ⟨Á.refl H,⟨_,_,rfl⟩,[],rfl,λj hj=>absurd hj (Nat.not_lt_zero _)⟩ hz ?_ ?_⟩
 .rintro i ys σ Hc hi hy⟨s1,⟨o1,o2,rfl⟩,ts,rfl,GB⟩;rw[Ý]at hy;have ot:Ï K Hc p (rests.map V.int):=Ï.of (s1 _ _ ep);have hx:(rests.map V.int)[i]?=some (.int (rr rests i)):=by rw[ģ,é hi,Ol (é hi)];rfl
  refine⟨⟨_,_,ot,hx⟩,λv H' y R hR=>?_⟩;obtain⟨T,nT,rfl,y⟩:=y;obtain⟨x',dv,rfl⟩:=y _ ot;rw[hx]at dv;cases dv;have s2:=s1.updR (o:=.tup [.int (i:Int),.int (rr rests i)]) nT;refine⟨T,_,rfl,Ì.of aa,rfl,_,_,rfl,_,_,rfl,rfl,_,rfl,rr rests i,rfl,_,rfl,zL,λt ht=>?_⟩;refine hR _ _ _ ⟨s2.updR ht,⟨_,_,rfl⟩,ts++[t],by rw[Ħ];rfl,λj hj=>?_⟩;by_cases e:j<i;.obtain⟨a,h1,h2⟩:=GB j e;refine⟨a,by rw[zBa À];exact h1,?_⟩;exact Á.upd ht _ _ (Á.upd nT _ _ h2)
  .have e:j=i:=À;subst e;refine⟨t,by rw[zB9 À,hy,Nat.sub_self];rfl,aa⟩
 .rintro ys σ Hc hy⟨s1,_,ts,rfl,GB⟩;rw[Ý]at hy;refine⟨⟨_,Ï.of (s1 _ _ ep),by rw[Ý];exact Ø _⟩,λD hD=>?_⟩;have s2:=s1.updR (o:=.lst (ts.map V.ref)) hD;have yn:∀j,j<rests.length->∃a,ts[j]?=some a/\upd Hc D (.lst (ts.map V.ref)) a=some (.tup [.int (-(rr rests j)),.int (j:Int)]):=λj hj=>by obtain⟨a,h1,h2⟩:=GB j hj;exact⟨a,h1,Á.upd hD _ _ h2⟩
  have eD:=aa (H:=Hc) (a:=D) (o:=.lst (ts.map V.ref));generalize upd Hc D (.lst (ts.map V.ref))=H2 at s2 yn eD⊢;clear GB hD s1;have mv:∀a∈ts,∃j,j<rests.length/\H2 a=some (.tup [.int (-(rr rests j)),.int (j:Int)]):=λa ha=>by obtain⟨j,hj,e⟩:=Zaw ha;obtain⟨b,h1,h2⟩:=yn j À;rw[é hj]at h1;injection h1 with h1;refine⟨j,À,?_⟩;rw[<-e,h1];exact h2
  refine⟨D,ts,ő H2,rfl,Ï.of eD,λa ha=>?_,λq' l' hq pm so=>?_⟩
  .obtain⟨j,hj,e⟩:=mv a ha;have er:ő H2 a=[-(rr rests j),(j:Int)]:=by unfold ő;rw[e]
   rw[er];exact⟨Ì.of e,by simp⟩
  have yy:∀a∈l',∃j,j<rests.length/\H2 a=some (.tup [.int (-(rr rests j)),.int (j:Int)]):=λa ha=>mv a (pm.mem_iff.mp ha);have sn:∀a∈l',H2 a=some (.tup [.int (-(rr rests (jr H2 a))),.int (jr H2 a:Int)])/\ő H2 a=[-(rr rests (jr H2 a)),(jr H2 a:Int)]:=λa ha=>by
   obtain⟨j,hj,e⟩:=yy a ha;have er:ő H2 a=[-(rr rests j),(j:Int)]:=by unfold ő;rw[e]
   have es:jr H2 a=j:=by unfold jr;rw[e];exact Ϟ j
   rw[er,es];exact⟨e,rfl⟩
  have ord:Ϣ rests (l'.map (jr H2)):=by
   refine⟨?_,?_⟩
   .refine(pm.map _).trans (List.Perm.of_eq (List.ext_getElem? λj=>?_));by_cases hj:j<rests.length;.obtain⟨a,h1,h2⟩:=yn j hj;rw[ģ,h1,List.getElem?_range hj];show some (jr H2 a)=some j;unfold jr;rw[h2];exact congrArg some (Ϟ j)
    .rw[Za8 (by rw[Ý];grind),Za8 (by rw[List.length_range];grind)]
   .refine List.pairwise_map.mpr (so.imp_of_mem λ{a b}ha hb h=>?_);rw[(sn a ha).2,(sn b hb).2]at h;exact J3 h
  have s3:=s2.updR (o:=.lst (l'.map V.ref)) hq;have ell:l'.length=rests.length:=by rw[pm.length_eq,hy]
  have D3:=aa (H:=H2) (a:=q') (o:=.lst (l'.map V.ref));have LI:∀a∈l',upd H2 q' (.lst (l'.map V.ref)) a=some (.tup [.int (-(rr rests (jr H2 a))),.int (jr H2 a:Int)]):=λa ha=>Á.upd hq _ _ (sn a ha).1;generalize jr H2=sd at ord LI;generalize upd H2 q' (.lst (l'.map V.ref))=H3 at s3 D3 LI⊢;dsimp only;refine eF ?_;refine⟨_,rfl,q',rfl,⟨_,Ï.of D3⟩,cX rests.length (λi ys σ Hc=>Á H3 Hc/\(∃o1 o2,σ=[o1,o2])/\ys=((l'.take i).map sd).map λj:Nat=>V.int (j:Int)) ⟨Á.refl H3,⟨_,_,rfl⟩,rfl⟩ hz ?_ ?_⟩
  .rintro i ys σ Hc hi hy⟨s4,⟨o1,o2,rfl⟩,rfl⟩;have kg:i<l'.length:=z03;have hu:(l'.map V.ref)[i]?=some (.ref l'[i]):=by rw[ģ,é kg];rfl
   refine⟨⟨_,_,Ï.of (s4 _ _ D3),hu⟩,λv H' y R hR=>?_⟩;obtain⟨rfl,y⟩:=y;have hv:=y _ (Ï.of (s4 _ _ D3));rw[hu]at hv;cases hv;refine⟨l'[i],_,rfl,Ì.of (s4 _ _ (LI _ (į kg))),rfl,_,_,rfl,_,_,rfl,rfl,_,rfl,hR _ _ _ ⟨s4,⟨_,_,rfl⟩,?_⟩⟩;rw[ŋ,é kg,Ħ,Ħ];rfl
  .rintro ys σ Hc uS⟨s4,_,rfl⟩;refine⟨⟨_,Ï.of (s4 _ _ D3),by rw[Ý];grind⟩,λD' PR=>?_⟩;have s5:=s3.trans s4;have hn:H D'=none:=s5.free PR;refine q _ D' _ ord (s5.updR PR) hn ?_;rw[aa,Zah À]
end
theorem qM{i:Nat}(h:i<=xs.length):jx xs none (some (i:Int))=xs.take i:=by unfold jx;rw[HT.sIx_none,HT.sIx_nat,List.drop_zero,Nat.min_eq_left h,Nat.sub_zero]
theorem J7(h:j<n):ϒ n (j:Int)=some j:=by unfold ϒ;rw[Í Ò,Í À,Ϟ]
theorem M5(ok:OkW ws):ws.length<sizeLine:=by have:=ok.2.1;rw[sizeLine_eq];lia
section
theorem Om:(["weight","sacks","together"]:ó).Nodup:=by decide+kernel
theorem ū:Ã ["sacks","weights","together","parts","rests","left","at"] ["sacks","weights"] (az (top 51)):=ú
theorem ok_parts(F:ß K "parts_of" "parts_of" (top 51) f fd)(T:Mg mg)(Ts:mg "sum"=none)(c1:á P w K mg base 1 "places_by_rest" ["rests"] xF):Ê P w K mg base Þ 2 f fd ["sacks","weights"] spParts:=by
 refine F.oq ū λcdv A outer s H vs Q E hr h=>?_;obtain⟨n,p,ws,rfl,ep,ok,n0,n1,q⟩:=h;refine⟨_,aB (uo (i:=2) ū.nd rfl (Or.inr rfl) (aK (gR rfl) rfl Ts Ă (aq (pv 1) aj))) (aB (jU (i:=3) ["weight","sacks","together"] [none,some 0,some 2] rfl ū.nd rfl (Or.inl rfl) (gG (pv 1)) (λC fp Â s₂ Ü=>⟨Ô 0 Om,bW,aQ ut (aQ gZ (pv 1) (pv 0)) (pv 2)⟩) (λC=>cI (cI trivial)) ⟨rfl,rfl,rfl,rfl⟩) (aB (jU (i:=4) ["weight","sacks","together"] [none,some 0,some 2] rfl ū.nd rfl (Or.inl rfl) (gG (pv 1)) (λC fp Â s₂ Ü=>⟨Ô 0 Om,bW,aQ lA (aQ gZ (pv 1) (pv 0)) (pv 2)⟩) (λC=>cI (cI trivial)) ⟨rfl,rfl,rfl,rfl⟩) (aB (ě 5 ū.nd (aQ dZ (pv 0) (aK (gR rfl) rfl Ts Ă (aq (pv 3) aj)))) (aB (cG ň rfl (dC (cz HN (aG c1 hr (aq (pv 4) aj)) cU (cV (pv 5)))) (Ô 6 ū.nd) (aF (jQ (pv 3) (pv 6) gf au pQ æ))) (aF (aP (cH cZ rfl T.tuple Õ (aq (pv 3) aj)))))))),?_⟩;have hp:=ok.pos;have ht:=ok.top;have D4:=M5 ok;refine aC ?_;refine⟨_,rfl,p,ws,rfl,.inr (Ì.of ep),?_⟩;dsimp only;refine aC ?_;refine⟨_,rfl,p,rfl,⟨_,Ì.of ep⟩,u5 (λz=>n*z/ws.sum) ep D4 (λz Q hz h=>⟨_,rfl,_,rfl,_,_,rfl,rfl,.inl ⟨À,z03⟩,_,rfl,_,_,rfl,rfl,⟨z03,z03⟩,h⟩) ?_⟩;rw[show ws.map (λz=>n*z/ws.sum)=fs n ws from rfl];intro l1 bX;have s1:=Á.upd (o:=.lst ((fs n ws).map V.int)) bX;have ŉ:=aa (H:=H) (a:=l1) (o:=.lst ((fs n ws).map V.int));generalize upd H l1 _=H1 at s1 ŉ⊢;dsimp only;refine aC ?_;refine⟨_,rfl,p,rfl,⟨_,Ì.of (s1 _ _ ep)⟩,u5 (λz=>n*z%ws.sum) (s1 _ _ ep) D4 (λz Q hz h=>⟨_,rfl,_,rfl,_,_,rfl,rfl,.inl ⟨z03,À⟩,_,rfl,_,_,rfl,rfl,(by show 0<ws.sum;lia),h⟩) ?_⟩;rw[show ws.map (λz=>n*z%ws.sum)=rs n ws from rfl];intro l2 cy;have s2:=s1.updR (o:=.lst ((rs n ws).map V.int)) cy;have Ş:=aa (H:=H1) (a:=l2) (o:=.lst ((rs n ws).map V.int));have oz:=Á.upd (o:=.lst ((rs n ws).map V.int)) cy _ _ ŉ;have qB:H l1=none:=bX;clear bX cy;generalize upd H1 l2 _=H2 at s2 Ş oz⊢;clear ŉ s1;dsimp only;refine aC ?_;refine⟨_,rfl,_,rfl,l1,fs n ws,rfl,.inl (Ï.of oz),_,_,rfl,rfl,?_⟩;show _;dsimp only;rw[show n-(fs n ws).sum=lf n ws from rfl];refine aC ?_;refine⟨_,rfl,l2,rs n ws,rfl,Ş,by rw[oA];exact D4,λH3 l3 pl ord s3 UZ Ϡ=>⟨_,rfl,_,rfl,l3,_,rfl,Ï.of Ϡ,λl4 u7=>⟨l4,rfl,⟨_,Ï.of aa⟩,?_⟩⟩⟩;have lnn:=Fx (n:=n) ok;have lle:=JZ (n:=n) ok;have U0:=ord.len;rw[oA]at U0;have LJ:jx (pl.map λj:Nat=>V.int (j:Int)) none (some (lf n ws))=(pl.take (lf n ws).toNat).map λj:Nat=>V.int (j:Int):=by rw[List.map_take,<-qM (i:=(lf n ws).toNat) (by rw[Ý];simp_all),show((lf n ws).toNat:Int)=lf n ws by lia]
 rw[LJ];have fin:=M4 ord;have inr:∀j∈pl.take (lf n ws).toNat,j<ws.length:=λj hj=>by have:=ord.lt j (Zan hj);rw[oA]at this;exact this
 generalize pl.take (lf n ws).toNat=pk at fin inr u7⊢;have s4:=(s2.trans s3).updR (o:=.lst (pk.map λj:Nat=>V.int (j:Int))) u7;have el4:=aa (H:=H3) (a:=l4) (o:=.lst (pk.map λj:Nat=>V.int (j:Int)));have D5:=Á.upd (o:=.lst (pk.map λj:Nat=>V.int (j:Int))) u7 _ _ (s3 _ _ oz);have n14:l4≠l1:=λz=>by rw[z,s3 _ _ oz]at u7;cases u7
 generalize upd H3 l4 (.lst (pk.map λj:Nat=>V.int (j:Int)))=H4 at s4 el4 D5⊢;clear u7 Ϡ UZ s3 oz Ş s2;refine gY (xs:=pk.map λj:Nat=>V.int (j:Int)) (λi σ Hc=>∃o6,σ=[some (.int n),some (.ref p),some (.int ws.sum),some (.ref l1),some (.ref l2),some (.int (lf n ws)),o6]/\Á H Hc/\Hc l4=some (.lst (pk.map λj:Nat=>V.int (j:Int)))/\Hc l1=some (.lst ((fj (fs n ws) (pk.take i)).map V.int))) ?_ ?_ ?_ ?_;.exact⟨none,rfl,s4,el4,D5⟩
 .rintro i σ Hc hi⟨o6,rfl,s5,e4,e1⟩;exact Ï.of e4
 .rintro i v σ Hc hv⟨o6,rfl,s5,e4,e1⟩;rw[ģ]at hv;cases hj:pk[i]? with|none=>rw[hj]at hv;cases hv;|some j=>
   rw[hj]at hv;cases hv;refine aJ ?_;have kp:∀o,Á H (upd Hc l1 o):=λo b u e=>by rw[aA (aD e qB)];exact s5 _ _ e
   have av:j<(fj (fs n ws) (pk.take i)).length:=by rw[ou,v7];exact inr j (Ŋ hj)
   have hx:((fj (fs n ws) (pk.take i)).map V.int)[((j:Nat):Int).toNat]?=some (.int ((fj (fs n ws) (pk.take i)).getD j 0)):=by simp_all
   refine⟨_,rfl,_,rfl,l1,_,(j:Int),_,rfl,rfl,Ï.of e1,Ò,hx,_,_,rfl,rfl,l1,_,(j:Int),j,rfl,rfl,e1,J7 (by rw[Ý];exact av),?_⟩;refine⟨_,rfl,kp _,by rw[aA n14];exact e4,?_⟩;rw[aa,ŋ,hj];show _=some (HO.lst ((fj (fs n ws) (pk.take i++[j])).map V.int));rw[yQ,List.map_set]
 .rintro σ Hc⟨o6,rfl,s5,e4,e1⟩;rw[Ý,Ľ,fin]at e1;dsimp only;refine eF ?_;exact⟨_,rfl,l1,_,rfl,.inl ⟨Ï.of e1,λt ht=>q _ t (s5.updR ht) aa⟩⟩
theorem ŝ:Ã ["sacks","weights"] ["sacks","weights"] (az (top 52)):=ú
theorem ok_parted(F:ß K "parted" "parted" (top 52) f fd)(c1:á P w K mg base 5 "refuse_unpartable" ["sacks","weights"] xx)(c2:á P w K mg base 2 "parts_of" ["sacks","weights"] spParts):Ê P w K mg base Þ 6 f fd ["sacks","weights"] spParts:=by refine F.oq ŝ λcdv A outer s H vs Q E hr h=>?_;obtain⟨n,p,ws,rfl,ep,ok,n0,n1,q⟩:=h;refine⟨_,aB (cB (aG c1 hr (aq (pv 0) (aq (pv 1) aj)))) (aF (aP (aG c2 hr (aq (pv 0) (aq (pv 1) aj))))),?_⟩;refine aC ?_;refine⟨_,rfl,_,rfl,n,p,ws,rfl,ep,ok,n0,n1,λH1 s1=>?_⟩;dsimp only;refine eF ?_;exact⟨_,rfl,_,rfl,n,p,ws,rfl,s1 _ _ ep,ok,n0,n1,λH2 t s2 et=>q H2 t (s1.trans s2) et⟩
end
def SS(st:Addr):Addr->Prop:=λa=>a≠st/\a≠sysModules
theorem Dr.thS(g:Dr st H H1)(h0:iZ H st)(t:É (SS st) H v d):É (SS st) H1 v d:=t.keep (g.tups h0) (λb o z e=>g.bt b o e z.1) λ_ _ z _=>z
theorem Dr.thsS(g:Dr st H H1)(h0:iZ H st)(t:Å (SS st) H vs ds):Å (SS st) H1 vs ds:=t.keep (g.tups h0) (λb o z e=>g.bt b o e z.1) λ_ _ z _=>z
section
theorem fM:Ċ X (binaryOp .Add) (λx y H Q=>Xe4 λa b xs ys=>Xa6 (x=.ref a) (y=.ref b) (H a=some (.tup xs)) (H b=some (.tup ys)) (xs.length+ys.length<=sizeLine) (∀c H',Á H H'->H' c=some (.tup (xs++ys))->Q (.ref c) H')):=by
 intro Â s σ H x y v u Q I rx ry h;obtain⟨a,b,xs,ys,rfl,rfl,ha,hb,hz,q⟩:=h;by_cases hx:xs=[];.subst hx;exact wH Â s σ H _ _ v u Q I rx ry ⟨a,b,ys,rfl,rfl,Ì.of ha,Ì.of hb,q b H (Á.refl H) hb⟩
 .refine zu Â s σ H _ _ v u Q I rx ry ⟨a,b,xs,ys,rfl,rfl,Ì.of ha,Ì.of hb,hx,hz,λe=>q a H (Á.refl H) ?_,λ_ p hp=>q p _ (Á.upd hp) aa⟩;rw[e,ļ];exact ha
theorem dF:SlR X (λx lo hi H Q=>∃a xs,x=.ref a/\H a=some (.tup xs)/\∀c H',Á H H'->H' c=some (.tup (jx xs lo hi))->Q (.ref c) H'):=by intro Â s σ H x v vl vu lo hi sl Q I rx hs pl pu h;obtain⟨a,xs,rfl,ha,q⟩:=h;refine zT Â s σ H _ v vl vu lo hi sl Q I rx hs pl pu ⟨a,xs,rfl,Ì.of ha,λhw=>q a H (Á.refl H) ?_,λ_ p hp=>q p _ (Á.upd hp) aa⟩;rw[ha];unfold jx;rw[hw.1,hw.2,List.drop_zero,Nat.sub_zero,Ľ]
end
abbrev K1:R2:=λx y H Q=>Xe4 λa b xs ys=>Xa6 (x=.ref a) (y=.ref b) (H a=some (.tup xs)) (H b=some (.tup ys)) (xs.length+ys.length<=sizeLine) (∀c H',Á H H'->H' c=some (.tup (xs++ys))->Q (.ref c) H')
abbrev Q5:V->Option Int->Option Int->Hp->VK->Prop:=λx lo hi H Q=>∃a xs,x=.ref a/\H a=some (.tup xs)/\∀c H',Á H H'->H' c=some (.tup (jx xs lo hi))->Q (.ref c) H'
def η(σ:St)(H:Hp)(t:TE)(vs:List V):Prop:=∀H0,Á H H0->∀Q:VK,(∀c H',Á H0 H'->H' c=some (.tup vs)->Q (.ref c) H')->t σ H0 Q
section
theorem qN(h:σ[i]?=some (some (.ref p)))(e:H p=some (.tup vs)):η σ H (iH i) vs:=λH0 s0 Q q=>⟨_,h,q p H0 (Á.refl _) (s0 _ _ e)⟩
theorem Fy(ha:η σ H ta xs)(hb:η σ H tb ys)(hz:xs.length+ys.length<=4000):η σ H (Į K1 ta tb) (xs++ys):=λH0 s0 Q q=>ha H0 s0 _ λc H1 s1 e1=>hb H1 (s0.trans s1) _ λc2 H2 s2 e2=>⟨c,c2,xs,ys,rfl,rfl,s2 _ _ e1,e2,by rw[sizeLine_eq];grind,λc3 H3 s3 e3=>q c3 H3 (s1.trans (s2.trans s3)) e3⟩
def PtE(σ:St)(H:Hp)(t:TO)(o:Option Int):Prop:=∀H0,Á H H0->∀Q:Option Int->Hp->Prop,Q o H0->t σ H0 Q
theorem gK:PtE σ H zr none:=λH0 _ Q q=>q
theorem v8(h:∀H',Ev σ H' te (.int i)):PtE σ H (sW te) (some i):=λH0 _ Q q=>h H0 _ ⟨i,rfl,q⟩
theorem mZ(ha:η σ H ta xs)(hl:PtE σ H tl lo)(hh:PtE σ H th hi):η σ H (tSl Q5 ta tl th) (jx xs lo hi):=λH0 s0 Q q=>ha H0 s0 _ λc H1 s1 e1=>hl H1 (s0.trans s1) _ (hh H1 (s0.trans s1) _ ⟨c,xs,rfl,e1,λc2 H2 s2 e2=>q c2 H2 (s1.trans s2) e2⟩)
theorem M6(ha:η σ H ta xs):η σ H (Nv K ta) xs.reverse:=λH0 s0 Q q=>ha H0 s0 _ λc H1 s1 e1=>⟨c,xs,rfl,Ì.of e1,λp hp=>q p _ (s1.updR hp) aa⟩
theorem Fz(h:∀H',Ev σ H' te v):η σ H (nM (bV te ie)) [v]:=λH0 s0 Q q=>h H0 _ ⟨by show 1<=sizeLine;decide,λp hp=>q p _ (Á.upd hp) aa⟩
theorem Oo(h:η σ H t vs)(ht:∀H',Å S H' vs ds):Υ S σ H t (.tuple ds):=λH0 s0 Q q=>h H0 s0 _ λc H' s e=>q _ H' s (.tup e (ht H'))
end
theorem oE:∀{ds:ü},(∀d∈ds,ã d=true)->iW ds=true|[],_=>rfl|d::ds,h=>by show(ã d&&iW ds)=true;rw[h d (.head _),oE λe he=>h e (.tail _ he)];rfl
theorem Œ:bootBuiltins "list"=some (.type "list"):=by decide+kernel
section
end
theorem ϔ:bootBuiltins "dict"=some (.type "dict"):=by decide+kernel
section
theorem CT(h:σ[i]?=some (some (.int n))):PtE σ H (sW (iH i)) (some n):=v8 λ_=>fU h
theorem Oq(h:σ[i]?=some (some (.int n))):PtE σ H (sW (Į (Θ λi j=>.int (i+j)) (iH i) (tC (.int 1)))) (some (n+1)):=v8 λ_=>uM (fU h) fJ
theorem Ot:PtE σ H (sW (tUn (rU λi=>.int (-i)) (tC (.int 1)))) (some (-1)):=λH0 _ Q q=>⟨1,rfl,_,rfl,q⟩
theorem Q6:PtE σ H (sW (tC (.int n))) (some n):=v8 λ_=>fJ
theorem ni(ha:η σ H ta xs)(hb:η σ H tb ys)(hx:xs.length<=1000)(hy:ys.length<=1000):η σ H (Į K1 ta tb) (xs++ys):=Fy ha hb z03
theorem jK(h:vs.length<=80):(jx vs lo hi).length<=1000:=by have:=gn vs lo hi;grind
end
theorem Ou(LM:ĩ σ src=[none])(hS:∀H',Á H H'->∀p,H' p=none->p≠sysModules->S p):Υ S σ H (tCB (λxs H Q=>∃(p:Addr)(l:ă)(kvs:List (Key×V)),xs=[.ref p]/\H p=some (.lst (l.map V.ref))/\kvs.length=l.length/\(∀(j:Nat)(kv:Key×V),kvs[j]?=some kv->∃a,l[j]?=some a/\H a=some (.tup [kV kv.1,kv.2]))/\∀q,H q=none->q≠sysModules->Q (.ref q) (upd H q (.dK (lC [] kvs)))) (bV (vY (O6 (tC (.str "ab"))) src (bH 0) uD (nM (bV (iH 0) (bV (tC (.int 1)) ie)))) ie)) (.dict [(.str "a",.int 1),(.str "b",.int 1)]):=λH0 s0 Q q=>by
 refine⟨"ab",rfl,by decide+kernel,?_⟩;rw[LM];have two:("ab":Str).cps.size=2:=by decide+kernel
 have l1:("ab":Str).cps[1]?=some 98:=by decide+kernel
 refine cX 2 (λi ys σ Hc=>Á H0 Hc/\(∃o,σ=[o])/\∃ts:ă,ys=ts.map V.ref/\(1<=i->∃a,ts[0]?=some a/\Hc a=some (.tup [.str ⟨#[97]⟩,.int 1]))/\(2<=i->∃a,ts[1]?=some a/\Hc a=some (.tup [.str ⟨#[98]⟩,.int 1]))) ⟨Á.refl _,⟨_,rfl⟩,[],rfl,λh=>absurd h Ù,λh=>absurd h Ù⟩ Ù ?_ ?_
 .rintro i ys σ Hc hi hy⟨s1,⟨o,rfl⟩,ts,rfl,h1,h2⟩;rw[Ý]at hy;refine⟨by show i<("ab":Str).cps.size;rw[two];exact hi,λv H' yl R hR=>?_⟩;obtain⟨eH,c,hc,rfl⟩:=yl;subst H';refine aJ ?_;refine⟨_,rfl,zL,λt ht=>hR _ _ _ ⟨s1.updR ht,⟨_,rfl⟩,ts++[t],by rw[Ħ];rfl,λ_=>?_,λ_=>?_⟩⟩
  .by_cases z:i=0;.subst z;cases hc;exact⟨t,by rw[zB9 À,hy];rfl,aa⟩
   .obtain⟨a,e1,e2⟩:=h1 À;exact⟨a,by rw[zBa À];exact e1,Á.upd ht _ _ e2⟩
  .have z:i=1:=À;subst z;rw[l1]at hc;cases hc;exact⟨t,by rw[zB9 À,hy];rfl,aa⟩
 .rintro ys σ Hc hy⟨s1,_,ts,rfl,h1,h2⟩;rw[Ý]at hy;refine⟨by show("ab":Str).cps.size<=2;rw[two];exact Ø _,λD hD=>?_⟩;obtain⟨a,e1,e2⟩:=h1 Ò;obtain⟨b,e3,e4⟩:=h2 Ò;have la:(⟨#[97]⟩:Str)="a":=by decide+kernel
  have lb:(⟨#[98]⟩:Str)="b":=by decide+kernel
  rw[la]at e2;rw[lb]at e4;have m:=Á.upd (o:=.lst (ts.map V.ref)) hD;refine⟨D,ts,[(.inr "a",.int 1),(.inr "b",.int 1)],rfl,aa,by rw[hy];rfl,λj kv hj=>?_,λp hp np=>?_⟩;.match j,hj with|0,hj=>cases hj;exact⟨a,e1,m _ _ e2⟩;|1,hj=>cases hj;exact⟨b,e3,m _ _ e4⟩;|j+2,hj=>simp at hj
  .refine q _ _ ((s1.updR hD).updR hp) ?_;have em:lC [] ([(.inr "a",.int 1),(.inr "b",.int 1)]:List (Key×V))=([(.inr "a",1),(.inr "b",1)]:List (Key×Int)).map λp=>(p.1,V.int p.2):=by decide+kernel
   rw[em];exact .dct (ks:=[(.inr "a",1),(.inr "b",1)]) (hS _ (s0.trans (s1.updR hD)) p hp np) aa
theorem qO(h:Å S H vs ds)(hi:i<ds.length):∃v d,vs[i]?=some v/\d∈ds/\É S H v d:=by have hl:=h.length;have hv:vs[i]?=some vs[i]:=é À;obtain⟨d,hd,t⟩:=h.get hv;exact⟨_,d,hv,Ŋ hd,t⟩
section
end
theorem Ů:bootBuiltins "str"=some (.type "str"):=by decide+kernel
theorem M7(hu:X.A.units+64<cLine):Ċ X (compareOp .NotEq) (λx y H Q=>Xe3 λ(a b:Addr)(ns:VV)=>Xa5 (x=.ref a) (y=.ref b) (H a=some (.tup (ns.map V.int))) (H b=some (.tup [])) (Q (.bl (!decide (ns=[]))) H)):=by
 intro Â s σ H x y v u Q I rx ry h;obtain⟨a,b,ns,rfl,rfl,ha,hb,q⟩:=h;obtain⟨as,ra,_⟩:=(É.tup (S:=λ_=>False) ha (Å.ints ns)).reads I rx;obtain⟨bs,rb,_⟩:=(É.tup (S:=λ_=>False) hb .nil).reads I ry;have h1:SeqAt.shaped (.tuple (ns.map PyData.int))=true:=by simp[SeqAt.shaped,PyData.canLay0,PyData.depth,PySem.W.ke_canLayAll0,PySem.W.ke_depthAll]
 have h2:SeqAt.shaped (.tuple [])=true:=rfl;have h3:SeqAt.noMix (.tuple (ns.map PyData.int)) (.tuple [])=true:=by cases ns<;>simp[SeqAt.noMix,SeqAt.noMixAll]
 have h4:PySem.Spec.same (.tuple (ns.map PyData.int)) (.tuple [])=decide (ns=[]):=by have:=PySem.W.ke_sameAll ns [];exact this
 refine PyProof.Rows.ne_dataH_same ra rb h1 h2 hu h3 ?_;rw[h4];exact⟨.bl _,H,I,rfl,q⟩
theorem v9(hr:à k A):A.units+64<cLine:=by have:=hr.un;omega
theorem J8:PySem.W.kitOne K (.type "int") (.type "str")=some false:=by kernel_rfl
theorem FJ(h:∀H',Ev σ H' t v)(hd:∀H',É S H' v d):Υ S σ H t d:=λH0 _ Q q=>h H0 _ (q _ H0 (Á.refl _) (hd H0))
theorem fO:∀{a b:ü},å (a++b)=å a+å b|[],b=>by show å b=0+å b;simp;|x::a,b=>by show sz x+å (a++b)=sz x+å a+å b;rw[fO];lia
section
theorem scC:Ã [ø,ď,AAl,"_law_at"] [ø,ď,AAl] (az (top 86)):=ú
end
end K33P
open K33P (top bF items ô bI nd1 Ft uX uY iD gF ō km Mg Õ È õ á aG sc1)
namespace K33
open PySem L2
def bG(d:PyData)(n:Int):Bool:=bI d n n&&(items d).all bF
def il(d:PyData):Bool:=bG d 3&&(items d).all λx=>decide (0<=ô x)&&decide (ô x<=999)
def gH(d:PyData):Bool:=bI d 1 20&&(items d).all il
def at_(d:PyData)(i:Nat):Int:=ô ((items d).getD i .none)
def qP(a b c d e f:Int):Bool:=(decide (0<=a)&&decide (a<8))&&((decide (0<=b)&&decide (b<3))&&((decide (0<=c)&&(decide (c<=d)&&decide (d<=19)))&&((decide (1<=e)&&decide (e<=99))&&(decide (0<=f)&&decide (f<=1000000)))))
def jt(d:PyData):Bool:=bG d 6&&qP (at_ d 0) (at_ d 1) (at_ d 2) (at_ d 3) (at_ d 4) (at_ d 5)
def eO(d:PyData):Bool:=bI d 0 10&&(items d).all jt
inductive Z07(f:PyData->Int->Bool)(vs:List V)(H:Hp)(Q:VK):Prop|mk:∀S v d n,(vs=[v,.int n])->(É S H v d)->(sz d<=4000)->(∀H',Á H H'->Q (.bl (f d n)) H')->Z07 f vs H Q
def J9(f:PyData->Int->Bool):Sp:=λvs H Q _=>Z07 f vs H Q
theorem Ņ:bootBuiltins "int"=some (.type "int"):=by decide+kernel
theorem œ:bootBuiltins "bool"=some (.type "bool"):=by decide+kernel
theorem eG(f:PyData->Bool)(gx:σ[i]?=some (some (.ref a)))(ea:H a=some (.tup xs))(r:Å S H xs ds)(hl:xs.length<sizeLine)(kQ:∀v d H1 Q1,d∈ds->Á H H1->É S H1 v d->(∀H',Á H1 H'->Q1 (.bl (f d)) H')->te ((ĩ σ src).set j (some v)) H1 Q1)(q:∀H',Á H H'->Q (.bl (ds.all f)) H'):tCB (λxs H Q=>∃(p:Addr)(bs:List Bool),xs=[.ref p]/\Ï K H p (bs.map V.bl)/\Q (.bl (bs.all id)) H) (bV (vY (Kv K (iH i)) src (bH j) uD te) ie) σ H Q:=by
 refine⟨_,gx,a,rfl,⟨xs,Ì.of ea⟩,oX (j:=j) f ea r hl kQ λH2 s2 D hD=>⟨D,ds.map f,rfl,?_,?_⟩⟩;.rw[<-wC];exact Ï.of aa
 .rw[Ea];exact q _ (s2.updR hD)
structure Nums(mg:Ti):Prop where sorts:∃t,mg "SORTS"=some (.int 3 t)holders:∃t,mg "HOLDERS"=some (.int 8 t)year:∃t,mg "LAST_YEAR"=some (.int 19 t)clips:∃t,mg "MOST_CLIPS"=some (.int 20 t)proms:∃t,mg "MOST_PROMISES"=some (.int 10 t)wool:∃t,mg "MOST_WOOL"=some (.int 999 t)sacks:∃t,mg "MOST_SACKS"=some (.int 99 t)price:∃t,mg "MOST_PRICE"=some (.int 1000000 t)
theorem oF(h:bG d n=true):bI d n n=true/\∀x∈items d,bF x=true:=by unfold bG at h;rw[ą]at h;exact⟨h.1,ŀ.mp h.2⟩
theorem oG(h:É S H v d)(e:bF d=true):∃i,v=.int i/\d=.int i:=by cases h with|int i=>exact⟨i,rfl,rfl⟩;|_=>cases e
theorem nj{α:Type}{l:List α}(h:l.length=n+1):∃a t,l=a::t/\t.length=n:=by cases l with|nil=>cases h;|cons a t=>exact⟨a,t,rfl,Nat.succ.inj h⟩
theorem Ov{α:Type}{l:List α}(h:l.length=5):∃a b c d e,l=[a,b,c,d,e]:=by obtain⟨a,l1,e1,h1⟩:=nj h;obtain⟨b,l2,e2,h2⟩:=nj h1;obtain⟨c,l3,e3,h3⟩:=nj h2;obtain⟨d,l4,e4,h4⟩:=nj h3;obtain⟨e,l5,e5,h5⟩:=nj h4;exact⟨a,b,c,d,e,by rw[e1,e2,e3,e4,e5,List.length_eq_zero_iff.mp h5]⟩
theorem M8{α:Type}{l:List α}(h:l.length=6):∃a b c d e f,l=[a,b,c,d,e,f]:=by obtain⟨a,l1,e1,h1⟩:=nj h;obtain⟨b,c,d,e,f,e2⟩:=Ov h1;exact⟨a,b,c,d,e,f,by rw[e1,e2]⟩
theorem j5(r:Å S H xs (d::ds))(e:bF d=true):∃i t,xs=.int i::t/\d=.int i/\Å S H t ds:=by cases r with|cons h1 r=>obtain⟨i,rfl,rfl⟩:=oG h1 e;exact⟨i,_,rfl,rfl,r⟩
theorem qQ(r:Å S H xs (d::ds)):∃v t,xs=v::t/\É S H v d/\Å S H t ds:=by cases r with|cons h1 r=>exact⟨_,_,rfl,h1,r⟩
theorem oH(r:Å S H xs ds)(hl:ds.length=3):∃v0 v1 v2 d0 d1 d2,xs=[v0,v1,v2]/\ds=[d0,d1,d2]/\É S H v0 d0/\É S H v1 d1/\É S H v2 d2:=by
 obtain⟨d0,l1,e1,h1⟩:=nj hl;obtain⟨d1,l2,e2,h2⟩:=nj h1;obtain⟨d2,l3,e3,h3⟩:=nj h2;have e:ds=[d0,d1,d2]:=by rw[e1,e2,e3,List.length_eq_zero_iff.mp h3]
 subst e;obtain⟨v0,t0,f0,i0,r0⟩:=qQ r;obtain⟨v1,t1,f1,i1,r1⟩:=qQ r0;obtain⟨v2,t2,f2,i2,r2⟩:=qQ r1;cases r2;exact⟨v0,v1,v2,d0,d1,d2,by rw[f0,f1,f2],rfl,i0,i1,i2⟩
theorem FN(r:Å S H xs ds)(hl:ds.length=6)(hw:∀x∈ds,bF x=true):∃i1 i2 i3 i4 i5 i6:Int,xs=[.int i1,.int i2,.int i3,.int i4,.int i5,.int i6]/\ds=[.int i1,.int i2,.int i3,.int i4,.int i5,.int i6]:=by obtain⟨d1,d2,d3,d4,d5,d6,rfl⟩:=M8 hl;obtain⟨i1,t1,e1,rfl,r1⟩:=j5 r (hw _ Ò);obtain⟨i2,t2,e2,rfl,r2⟩:=j5 r1 (hw _ Ò);obtain⟨i3,t3,e3,rfl,r3⟩:=j5 r2 (hw _ Ò);obtain⟨i4,t4,e4,rfl,r4⟩:=j5 r3 (hw _ Ò);obtain⟨i5,t5,e5,rfl,r5⟩:=j5 r4 (hw _ Ò);obtain⟨i6,t6,e6,rfl,r6⟩:=j5 r5 (hw _ Ò);cases r6;exact⟨i1,i2,i3,i4,i5,i6,by rw[e1,e2,e3,e4,e5,e6],rfl⟩
theorem CV(h:bI (.tuple ds) n m=true):n<=(ds.length:Int)/\(ds.length:Int)<=m:=by have h:(true&&(decide (n<=(ds.length:Int))&&decide ((ds.length:Int)<=m)))=true:=h;rw[Bool.true_and,ą]at h;exact⟨ώ h.1,ώ h.2⟩
theorem xG(F:ß K "is_whole" "is_whole" (top 20) f fd)(T:Mg mg):Ê P w K mg base Þ 1 f fd ["thing"] (ō bF):=by refine F.oq sc1 λcdv A outer s H vs Q E hr h=>?_;obtain⟨S,v,d,rfl,th,hz,q⟩:=h;refine⟨_,aF (aP (cF (aK bK rfl T.isinstance È (aN (pv 0) (aN (dh rfl T.int Ņ (v:=.ty "int") rfl) aj))) (fD (Dv (aK bK rfl T.isinstance È (aN (pv 0) (aN (dh rfl T.bool œ (v:=.ty "bool") rfl) aj))))))),?_⟩;refine⟨_,rfl,v,_,"int",nQ d,rfl,th.ty,zM d,_,rfl,?_⟩;have fin:=q H (Á.refl H);unfold bF at fin;cases e:nQ d with|false=>rw[e]at fin;exact aZ fin;|true=>rw[e]at fin;exact bj ⟨_,rfl,v,_,"bool",mq d,rfl,th.ty,wz d,_,rfl,fin⟩
theorem sc2:Ã ["thing","fewest","most"] ["thing","fewest","most"] (az (top 22)):=ú
theorem qR(F:ß K "is_tuple_of" "is_tuple_of" (top 22) f fd)(T:Mg mg):Ê P w K mg base Þ 1 f fd ["thing","fewest","most"] (km bI):=by refine F.oq sc2 λcdv A outer s H vs Q E hr h=>?_;obtain⟨S,v,d,n,m,rfl,th,hz,q⟩:=h;refine⟨_,aF (aP (cF (aK bK rfl T.isinstance È (aN (pv 0) (aN (dh rfl T.tuple Õ (v:=.ty "tuple") rfl) aj))) (fD (cW cD cD (pv 1) (aK bh rfl T.len PySem.boot_len (aN (pv 0) aj)) (pv 2))))),?_⟩;refine⟨_,rfl,v,_,"tuple",du d,rfl,th.ty,iw d,_,rfl,?_⟩;have fin:=q H (Á.refl H);unfold bI at fin;cases e:du d with|false=>rw[e]at fin;exact aZ fin;|true=>refine bj ?_;cases th with
 |@tup a xs ds ea r=>have hl:=r.length;refine⟨_,rfl,_,rfl,a,xs,rfl,.inr (Ì.of ea),_,_,rfl,rfl,_,rfl,?_⟩;rw[hl];have fin:Q (.bl (true&&(decide (n<=(ds.length:Int))&&decide ((ds.length:Int)<=m)))) H:=fin;cases e1:decide (n<=(ds.length:Int))with|false=>rw[e1]at fin;exact aZ fin;|true=>rw[e1]at fin;exact bj ⟨_,rfl,_,_,rfl,rfl,fin⟩
  |_=>cases e
theorem sc3:Ã ["thing","many"] ["thing","many"] (az (top 23)):=ú
theorem rW(F:ß K "are_wholes" "are_wholes" (top 23) f fd)(T:Mg mg)(c1:á P w K mg base 1 "is_whole" ["thing"] (ō bF))(c2:á P w K mg base 1 "is_tuple_of" ["thing","fewest","most"] (km bI)):Ê P w K mg base Þ 2 f fd ["thing","many"] (J9 bG):=by
 refine F.oq sc3 λcdv A outer s H vs Q E hr h=>?_;obtain⟨S,v,d,n,rfl,th,hz,q⟩:=h;refine⟨_,aF (aP (cF (aG c2 hr (aN (pv 0) (aN (pv 1) (aN (pv 1) aj)))) (fD (aK (gq rfl) rfl T.all õ (aN (bY ["part"] [none] rfl (gG (pv 0)) (λC fp Â s₂ Ü=>⟨bx (i:=0) (nd1 _) rfl (Or.inl rfl),bW,aG c1 hr (aN (pv 0) aj)⟩) (λC=>trivial) ⟨rfl,rfl,rfl,rfl⟩) aj))))),?_⟩;refine⟨_,rfl,_,rfl,_,rfl,S,v,d,n,n,rfl,th,hz,λH1 s1=>⟨_,rfl,?_⟩⟩;have fR:=th.same s1
 cases e:bI d n n with|false=>refine aZ ?_;have fin:=q H1 s1;unfold bG at fin;rw[e]at fin;exact fin;|true=>refine bj ?_;cases fR with|@tup a xs ds ea r=>
   have ew:bG (.tuple ds) n=ds.all bF:=by unfold bG;rw[e];rfl
   refine eG bF rfl ea r (gF r hz) (λv d H2 Q2 hm s2 t2 q2=>⟨_,rfl,S,v,d,rfl,t2,iD hm hz,q2⟩) λH2 s2=>?_;rw[<-ew];exact q _ (s1.trans s2);|_=>cases e
theorem Z01:Ã ["thing"] ["thing"] (az (top 34)):=ú
theorem yR(F:ß K "is_clip" "is_clip" (top 34) f fd)(T:Mg mg)(N:Nums mg)(c1:á P w K mg base 2 "are_wholes" ["thing","many"] (J9 bG)):Ê P w K mg base Þ 3 f fd ["thing"] (ō il):=by refine F.oq Z01 λcdv A outer s H vs Q E hr h=>?_;obtain⟨S,v,d,rfl,th,hz,q⟩:=h;obtain⟨t3,e3⟩:=N.sorts;obtain⟨t9,e9⟩:=N.wool;refine⟨_,aF (aP (cF (aG c1 hr (aN (pv 0) (aN (bQ (v:=.int 3) rfl e3 ⟨_,rfl⟩) aj))) (fD (aK (gq rfl) rfl T.all õ (aN (bY ["sacks"] [none] rfl (gG (pv 0)) (λC fp Â s₂ Ü=>⟨bx (i:=0) (nd1 _) rfl (Or.inl rfl),bW,cW cD cD au (pv 0) (bQ (v:=.int 999) rfl e9 ⟨_,rfl⟩)⟩) (λC=>trivial) ⟨rfl,rfl,rfl,rfl⟩) aj))))),?_⟩;refine⟨_,rfl,S,v,d,3,rfl,th,hz,λH1 s1=>⟨_,rfl,?_⟩⟩;have fR:=th.same s1;have fin:=λH'(s:Á H H')=>q H' s;unfold il at fin;cases e:bG d 3 with|false=>rw[e]at fin;exact aZ (fin _ s1);|true=>rw[e]at fin;refine bj ?_;obtain⟨e1,e2⟩:=oF e;cases fR with
 |@tup a xs ds ea r=>refine eG (λx=>decide (0<=ô x)&&decide (ô x<=999)) rfl ea r (gF r hz) (λv d H2 Q2 hm s2 t2 q2=>?_) λH2 s2=>fin _ (s1.trans s2);obtain⟨i,rfl,rfl⟩:=oG t2 (e2 d hm);refine⟨_,rfl,_,_,rfl,rfl,_,rfl,?_⟩;have q3:=q2 H2 (Á.refl _);cases e5:decide ((0:Int)<=i)with|false=>refine aZ ?_;have q3:Q2 (.bl (decide ((0:Int)<=i)&&decide (i<=999))) H2:=q3;rw[e5]at q3;exact q3;|true=>refine bj ⟨_,_,rfl,rfl,?_⟩;have q3:Q2 (.bl (decide ((0:Int)<=i)&&decide (i<=999))) H2:=q3;rw[e5]at q3;exact q3
  |_=>cases e1
theorem ū:Ã ["thing"] ["thing"] (az (top 35)):=ú
theorem vd(F:ß K "are_clips" "are_clips" (top 35) f fd)(T:Mg mg)(N:Nums mg)(c1:á P w K mg base 3 "is_clip" ["thing"] (ō il))(c2:á P w K mg base 1 "is_tuple_of" ["thing","fewest","most"] (km bI)):Ê P w K mg base Þ 4 f fd ["thing"] (ō gH):=by refine F.oq ū λcdv A outer s H vs Q E hr h=>?_;obtain⟨S,v,d,rfl,th,hz,q⟩:=h;obtain⟨t3,e3⟩:=N.clips;refine⟨_,aF (aP (cF (aG c2 hr (aN (pv 0) (aN au (aN (bQ (v:=.int 20) rfl e3 ⟨_,rfl⟩) aj)))) (fD (aK (gq rfl) rfl T.all õ (aN (bY ["part"] [none] rfl (gG (pv 0)) (λC fp Â s₂ Ü=>⟨bx (i:=0) (nd1 _) rfl (Or.inl rfl),bW,aG c1 hr (aN (pv 0) aj)⟩) (λC=>trivial) ⟨rfl,rfl,rfl,rfl⟩) aj))))),?_⟩;refine⟨_,rfl,S,v,d,1,20,rfl,th,hz,λH1 s1=>⟨_,rfl,?_⟩⟩;have fR:=th.same s1;have fin:=λH'(s:Á H H')=>q H' s;unfold gH at fin;cases e:bI d 1 20 with|false=>rw[e]at fin;exact aZ (fin _ s1);|true=>rw[e]at fin;refine bj ?_;cases fR with|@tup a xs ds ea r=>exact eG il rfl ea r (gF r hz) (λv d H2 Q2 hm s2 t2 q2=>⟨_,rfl,S,v,d,rfl,t2,iD hm hz,q2⟩) λH2 s2=>fin _ (s1.trans s2);|_=>cases e
theorem ŝ:Ã ["thing","holder","sort","first","last","sacks","price"] ["thing"] (az (top 36)):=ú
theorem rY(F:ß K "is_promise" "is_promise" (top 36) f fd)(T:Mg mg)(N:Nums mg)(c1:á P w K mg base 2 "are_wholes" ["thing","many"] (J9 bG)):Ê P w K mg base Þ 3 f fd ["thing"] (ō jt):=by
 refine F.oq ŝ λcdv A outer s H vs Q E hr h=>?_;obtain⟨S,v,d,rfl,th,hz,q⟩:=h;obtain⟨t1,e1⟩:=N.holders;obtain⟨t2,e2⟩:=N.sorts;obtain⟨t3,e3⟩:=N.year;obtain⟨t4,e4⟩:=N.sacks;obtain⟨t5,e5⟩:=N.price;refine⟨_,aB (bT (cj (bL (aG c1 hr (aN (pv 0) (aN au aj))))) (aF (aP iK)) bf) (aB (cP (pv 0) (bR rfl (ao (Ô 1 ŝ.nd) (ao (Ô 2 ŝ.nd) (ao (Ô 3 ŝ.nd) (ao (Ô 4 ŝ.nd) (ao (Ô 5 ŝ.nd) (ao (Ô 6 ŝ.nd) aX)))))))) (aF (aP (cF (cW cD oO au (pv 1) (bQ (v:=.int 8) rfl e1 ⟨_,rfl⟩)) (cF (cW cD oO au (pv 2) (bQ (v:=.int 3) rfl e2 ⟨_,rfl⟩)) (cF (BR cD cD cD au (pv 3) (pv 4) (bQ (v:=.int 19) rfl e3 ⟨_,rfl⟩)) (cF (cW cD cD au (pv 5) (bQ (v:=.int 99) rfl e4 ⟨_,rfl⟩)) (fD (cW cD cD au (pv 6) (bQ (v:=.int 1000000) rfl e5 ⟨_,rfl⟩)))))))))),?_⟩
 refine⟨_,rfl,S,v,d,6,rfl,th,hz,λH1 s1=>⟨_,rfl,?_⟩⟩;have fR:=th.same s1;have fin:=λH'(s:Á H H')=>q H' s;unfold jt at fin;cases e:bG d 6 with|false=>rw[e]at fin;exact bj (fin _ s1);|true=>refine aZ ?_;obtain⟨z1,z2⟩:=oF e;cases fR with|@tup a xs ds ea r=>
   have hl:ds.length=6:=by have:=CV z1;lia
   obtain⟨i1,i2,i3,i4,i5,i6,rfl,rfl⟩:=FN r hl z2;refine⟨_,rfl,a,_,rfl,Ì.of ea,rfl,_,_,rfl,_,_,rfl,_,_,rfl,_,_,rfl,_,_,rfl,_,_,rfl,rfl,?_⟩;refine jB (cQ fJ (fU rfl) fJ) (λ_=>jB (cQ fJ (fU rfl) fJ) λ_=>jB (BV fJ (fU rfl) (fU rfl) fJ) λ_=>jB (cQ fJ (fU rfl) fJ) λ_=>cQ fJ (fU rfl) fJ) _ ?_;exact fin H1 s1;|_=>cases z1
theorem Q7:Ã ["thing"] ["thing"] (az (top 37)):=ú
theorem pC(F:ß K "are_promises" "are_promises" (top 37) f fd)(T:Mg mg)(N:Nums mg)(c1:á P w K mg base 3 "is_promise" ["thing"] (ō jt))(c2:á P w K mg base 1 "is_tuple_of" ["thing","fewest","most"] (km bI)):Ê P w K mg base Þ 4 f fd ["thing"] (ō eO):=by refine F.oq Q7 λcdv A outer s H vs Q E hr h=>?_;obtain⟨S,v,d,rfl,th,hz,q⟩:=h;obtain⟨t3,e3⟩:=N.proms;refine⟨_,aF (aP (cF (aG c2 hr (aN (pv 0) (aN au (aN (bQ (v:=.int 10) rfl e3 ⟨_,rfl⟩) aj)))) (fD (aK (gq rfl) rfl T.all õ (aN (bY ["part"] [none] rfl (gG (pv 0)) (λC fp Â s₂ Ü=>⟨bx (i:=0) (nd1 _) rfl (Or.inl rfl),bW,aG c1 hr (aN (pv 0) aj)⟩) (λC=>trivial) ⟨rfl,rfl,rfl,rfl⟩) aj))))),?_⟩;refine⟨_,rfl,S,v,d,0,10,rfl,th,hz,λH1 s1=>⟨_,rfl,?_⟩⟩;have fR:=th.same s1;have fin:=λH'(s:Á H H')=>q H' s;unfold eO at fin;cases e:bI d 0 10 with|false=>rw[e]at fin;exact aZ (fin _ s1);|true=>rw[e]at fin;refine bj ?_;cases fR with|@tup a xs ds ea r=>exact eG jt rfl ea r (gF r hz) (λv d H2 Q2 hm s2 t2 q2=>⟨_,rfl,S,v,d,rfl,t2,iD hm hz,q2⟩) λH2 s2=>fin _ (s1.trans s2);|_=>cases e
end K33
open K33P (dN)
namespace K33
open PySem L2
def FP(d:PyData):Bool:=du d&&(decide ((items d).length=3)&&(items d).all λx=>dN x 0 999)
def bounds:ü:=[.tuple [.int 0,.int 7],.tuple [.int 0,.int 2],.tuple [.int 0,.int 19],.tuple [.int 0,.int 19],.tuple [.int 1,.int 99],.tuple [.int 0,.int 1000000]]
def jm(d e:PyData):Bool:=dN d (at_ e 0) (at_ e 1)
def yS(d:PyData):Bool:=du d&&(decide ((items d).length=6)&&((List.zipWith jm (items d) bounds).all id&&decide (at_ d 2<=at_ d 3)))
theorem M9(h:É S H z (.tuple [.int lo,.int hi])):∃t,z=.ref t/\H t=some (.tup [.int lo,.int hi]):=by cases h with|@tup a xs ds e r=>cases r with|cons h1 r=>cases r with|cons h2 r=>cases r;cases h1;cases h2;exact⟨a,rfl,e⟩
theorem CW(h:e∈bounds):∃lo hi,e=.tuple [.int lo,.int hi]:=by simp only[bounds,List.mem_cons,List.not_mem_nil,or_false]at h;rcases h with z|z|z|z|z|z<;>exact⟨_,_,z⟩
theorem Aq{α:Type}(p q:α->Bool):∀l:List α,(l.all λx=>p x&&q x)=(l.all p&&l.all q)|[]=>rfl|x::l=>by rw[List.all_cons,List.all_cons,List.all_cons,Aq p q l];cases p x<;>cases q x<;>cases l.all p<;>cases l.all q<;>rfl
theorem pG(d:PyData):il d=FP d:=by
 cases d with|tuple ds=>
  have e1:il (.tuple ds)=((((decide ((3:Int)<=(ds.length:Int))&&decide ((ds.length:Int)<=3)))&&ds.all bF)&&ds.all λx=>decide (0<=ô x)&&decide (ô x<=999)):=rfl;have e2:FP (.tuple ds)=(decide (ds.length=3)&&ds.all λx=>bF x&&(decide (0<=ô x)&&decide (ô x<=999))):=rfl;rw[e1,e2,Aq bF];have e3:(decide ((3:Int)<=(ds.length:Int))&&decide ((ds.length:Int)<=3))=decide (ds.length=3):=by rw[<-Bool.decide_and];exact decide_eq_decide.mpr z03
  rw[e3,Bool.and_assoc];|_=>rfl
theorem fu(d:PyData):(∃i,d=.int i)\/bF d=false:=by cases d with|int i=>exact .inl ⟨i,rfl⟩;|_=>exact .inr rfl
theorem Ja(d:PyData):jt d=yS d:=by cases d with|tuple ds=>
  have e1:jt (.tuple ds)=(((decide ((6:Int)<=(ds.length:Int))&&decide ((ds.length:Int)<=6))&&ds.all bF)&&qP (at_ (.tuple ds) 0) (at_ (.tuple ds) 1) (at_ (.tuple ds) 2) (at_ (.tuple ds) 3) (at_ (.tuple ds) 4) (at_ (.tuple ds) 5)):=rfl;have e2:yS (.tuple ds)=(decide (ds.length=6)&&((List.zipWith jm ds bounds).all id&&decide (at_ (.tuple ds) 2<=at_ (.tuple ds) 3))):=rfl;rw[e1,e2];have e3:(decide ((6:Int)<=(ds.length:Int))&&decide ((ds.length:Int)<=6))=decide (ds.length=6):=by rw[<-Bool.decide_and];exact decide_eq_decide.mpr À
  rw[e3];by_cases hl:ds.length=6
  .rw[è hl,Bool.true_and,Bool.true_and];obtain⟨d1,d2,d3,d4,d5,d6,rfl⟩:=M8 hl;have e4:(List.zipWith jm [d1,d2,d3,d4,d5,d6] bounds).all id=(dN d1 0 7&&(dN d2 0 2&&(dN d3 0 19&&(dN d4 0 19&&(dN d5 1 99&&(dN d6 0 1000000&&true)))))):=rfl;have e5:[d1,d2,d3,d4,d5,d6].all bF=(bF d1&&(bF d2&&(bF d3&&(bF d4&&(bF d5&&(bF d6&&true)))))):=rfl;rw[e4,e5];unfold dN;rcases fu d1 with⟨i1,rfl⟩|z
   .rcases fu d2 with⟨i2,rfl⟩|z
    .rcases fu d3 with⟨i3,rfl⟩|z
     .rcases fu d4 with⟨i4,rfl⟩|z
      .rcases fu d5 with⟨i5,rfl⟩|z
       .rcases fu d6 with⟨i6,rfl⟩|z;.show(true&&qP i1 i2 i3 i4 i5 i6)=((true&&(decide (0<=i1)&&decide (i1<=7)))&&((true&&(decide (0<=i2)&&decide (i2<=2)))&&((true&&(decide (0<=i3)&&decide (i3<=19)))&&((true&&(decide (0<=i4)&&decide (i4<=19)))&&((true&&(decide (1<=i5)&&decide (i5<=99)))&&((true&&(decide (0<=i6)&&decide (i6<=1000000)))&&true)))))&&decide (i3<=i4));unfold qP;simp only[Bool.true_and,Bool.and_true];apply Za0.mpr;simp only[Bool.and_eq_true,ċ];omega
        .rw[z];simp
       .rw[z];simp
      .rw[z];simp
     .rw[z];simp
    .rw[z];simp
   .rw[z];simp
  .rw[ĉ hl,Bool.false_and,Bool.false_and,Bool.false_and];|_=>rfl
theorem qT:bootBuiltins "repr"=some (.builtin "repr"):=by decide+kernel
theorem vf(hr:à k A)(hk:60<=k)(h:sz d<=1000):A.units+(sz d+1)<cLine:=by have:=hr.un;omega
theorem xH(hK:X.K=K):IxR X (KD K):=by subst hK;exact bM
theorem Ϫ:bootBuiltins "min"=some (.builtin "min"):=by decide+kernel
theorem room_un(hr:à k A):A.units<cLine:=by have:=hr.un;lia
def rowD(r:VV):PyData:=.tuple (r.map .int)
def fP(rs:UV):PyData:=.tuple (rs.map rowD)
def fl(r:VV)(i:Nat):Int:=r.getD i 0
def okP(r:VV):Prop:=r.length=6/\(0<=fl r 0/\fl r 0<8)/\(0<=fl r 1/\fl r 1<3)/\(0<=fl r 2/\fl r 2<=fl r 3/\fl r 3<=19)/\(1<=fl r 4/\fl r 4<=99)/\(0<=fl r 5/\fl r 5<=1000000)
def fQ(d:PyData):Bool:=bI d 0 12&&(items d).all λx=>bG x 5
def Ð(d:PyData):UV:=(items d).map λx=>(items x).map ô
theorem FQ:∀{ds:ü},(∀x∈ds,bF x=true)->ds=(ds.map ô).map PyData.int|[],_=>rfl|d::ds,h=>by rw[ϝ,ϝ,<-FQ λx hx=>h x (Zai _ hx)];have:=h d ϫ;cases d with|int i=>rfl;|_=>cases this
theorem ir{n:Nat}(h:bG x n=true):x=rowD ((items x).map ô)/\((items x).map ô).length=n:=by obtain⟨h1,h2⟩:=oF h;unfold bI at h1;rw[ą,ą,ċ,ċ]at h1;obtain⟨ht,bX,cy⟩:=h1;cases x with|tuple ds=>have bX:(n:Int)<=ds.length:=bX;have cy:(ds.length:Int)<=n:=cy;refine⟨?_,by show(ds.map ô).length=n;rw[Ý];lia⟩;exact congrArg PyData.tuple (FQ h2);|_=>cases ht
theorem pL{ds:ü}{n:Nat}(h:∀x∈ds,bG x n=true):ds=(ds.map λx=>(items x).map ô).map rowD:=by induction ds with|nil=>rfl;|cons d ds ih=>rw[ϝ,ϝ,<-ih λx hx=>h x (Zai _ hx),<-(ir (h d ϫ)).1]
theorem j6{f m:Int}(h:bI d f m=true):∃ds,d=.tuple ds/\f<=ds.length/\(ds.length:Int)<=m:=by unfold bI at h;rw[ą,ą,ċ,ċ]at h;cases d with|tuple ds=>exact⟨ds,rfl,h.2⟩;|_=>cases h.1
theorem kZ(r:VV)(i:Nat)(h:i<r.length):at_ (rowD r) i=fl r i:=by show ô ((r.map PyData.int).getD i .none)=r.getD i 0;rw[ŧ,ŧ,ģ,é h];rfl
theorem lM(h:eO d=true):d=fP (Ð d)/\(Ð d).length<=10/\∀r∈Ð d,okP r:=by
 unfold eO at h;rw[ą]at h;obtain⟨ds,rfl,_,hl⟩:=j6 h.1;have h2:∀x∈ds,jt x=true:=ŀ.mp h.2;have h3:∀x∈ds,bG x 6=true:=λx hx=>by have:=h2 x hx;unfold jt at this;rw[ą]at this;exact this.1
 refine⟨congrArg PyData.tuple (pL (n:=6) h3),by show(ds.map _).length<=10;rw[Ý];lia,λr hr=>?_⟩;obtain⟨x,hx,rfl⟩:=Ā.mp hr;obtain⟨e,LN⟩:=ir (n:=6) (h3 x hx);have:=h2 x hx;unfold jt at this;rw[ą]at this;have p:=this.2;rw[e]at p;rw[kZ _ 0 À,kZ _ 1 À,kZ _ 2 À,kZ _ 3 À,kZ _ 4 À,kZ _ 5 À]at p;unfold qP at p;simp only[Bool.and_eq_true,ċ]at p;obtain⟨⟨a1,a2⟩,⟨b1,b2⟩,⟨c1,c2,c3⟩,⟨d1,d2⟩,e1,e2⟩:=p;exact⟨LN,⟨a1,a2⟩,⟨b1,b2⟩,⟨c1,c2,c3⟩,⟨d1,d2⟩,e1,e2⟩
theorem lN(h:fQ d=true):d=fP (Ð d)/\(Ð d).length<=12/\∀r∈Ð d,r.length=5:=by unfold fQ at h;rw[ą]at h;obtain⟨ds,rfl,_,hl⟩:=j6 h.1;have h3:∀x∈ds,bG x 5=true:=ŀ.mp h.2;refine⟨congrArg PyData.tuple (pL (n:=5) h3),by show(ds.map _).length<=12;rw[Ý];lia,λr hr=>?_⟩;obtain⟨x,hx,rfl⟩:=Ā.mp hr;exact(ir (n:=5) (h3 x hx)).2
structure RowsAt(H:Hp)(a:Addr)(xs:List V)(rs:UV):Prop where
 e:H a=some (.tup xs)l:xs.length=rs.length
 g:∀(i:Nat)(r:VV),rs[i]?=some r->∃t,xs[i]?=some (V.ref t)/\H t=some (.tup (r.map V.int))
theorem RowsAt.keep(h:RowsAt H a xs rs)(k:∀b l,H b=some (.tup l)->H' b=some (.tup l)):RowsAt H' a xs rs:=⟨k _ _ h.e,h.l,λi r e=>by obtain⟨t,e1,e2⟩:=h.g i r e;exact⟨t,e1,k _ _ e2⟩⟩
theorem RowsAt.same(h:RowsAt H a xs rs)(s:Á H H'):RowsAt H' a xs rs:=h.keep λ_ _ e=>s _ _ e
theorem xJ:∀{r:VV}{xs:List V},Å S H xs (r.map .int)->xs=r.map V.int|[],_,.nil=>rfl|i::r,_,.cons h t=>by cases h;rw[xJ (r:=r) t];rfl
theorem Ma(h:É S H v (rowD r)):∃t,v=V.ref t/\H t=some (.tup (r.map V.int)):=by generalize hd:rowD r=d at h;cases h with|@tup a xs ds e t=>injection hd with hd;subst hd;rw[xJ t]at e;exact⟨a,rfl,e⟩;|_=>cases hd
theorem th_rows(h:É S H v (fP rs)):∃a xs,v=.ref a/\RowsAt H a xs rs:=by generalize hd:fP rs=d at h;cases h with|@tup a xs ds e t=>injection hd with hd;subst hd;refine⟨a,xs,rfl,e,by rw[t.length,Ý],λi r hr=>?_⟩;have hi:i<rs.length:=(ġ.mp hr).1;have hx:xs[i]?=some (xs[i]'(by rw[t.length,Ý];exact hi)):=é _;obtain⟨d,h1,h2⟩:=t.get hx;rw[ģ,hr]at h1;injection h1 with h1;subst h1;obtain⟨t',e1,e2⟩:=Ma h2;exact⟨t',by rw[hx,e1],e2⟩;|_=>cases hd
def gM(L:VV)(i:Int)(v:Int):VV:=L.set i.toNat (L.getD i.toNat 0+v)
def ï(n y:Int)(L:VV)(s:VV):VV:=if fl s 0=n/\fl s 4<=y then gM (gM L (fl s 1) (-(fl s 3))) (fl s 2) (fl s 3)else L
def ĝ(p:VV):VV:=(List.replicate 8 0).set (fl p 0).toNat (fl p 4)
def cO(p:VV)(ss:UV)(n y:Int):VV:=if fl p 2<=y/\y<=fl p 3 then ss.foldl (ï n y) (ĝ p)else List.replicate 8 0
def vg(ps:UV)(s:VV):VV:=ps.getD (fl s 0).toNat []
def xK(ps:UV)(s:VV):Bool:=(decide (0<=fl s 0)&&decide (fl s 0<ps.length))&&((decide (0<=fl s 1)&&decide (fl s 1<8))&&((decide (0<=fl s 2)&&decide (fl s 2<8))&&((!decide (fl s 1=fl s 2))&&((decide (1<=fl s 3)&&decide (fl s 3<=99))&&(decide (fl (vg ps s) 2<=fl s 4)&&decide (fl s 4<=fl (vg ps s) 3))))))
def years(a b:Int):VV:=(List.range (b+1-a).toNat).map λ(i:Nat)=>a+i
def cN(ps ss:UV)(s:VV):Bool:=xK ps s&&(years (fl s 4) (fl (vg ps s) 3)).all λy=>decide (fl s 3<=(cO (vg ps s) ss (fl s 0) y).getD (fl s 1).toNat 0)
def un(ps ss:UV):Option Nat:=(List.range ss.length).find? λi=>!cN ps (ss.take i) (ss.getD i [])
theorem j7(L:VV)(i v:Int):(gM L i v).length=L.length:=by unfold gM;rw[Za2]
theorem CZ(n y:Int)(L s:VV):(ï n y L s).length=L.length:=by
 unfold ï;split;.rw[j7,j7]
 .rfl
theorem gW(p:VV)(ss:UV)(n y:Int):(cO p ss n y).length=8:=by
 unfold cO;split
 .have:∀(ss:UV)(L:VV),L.length=8->(ss.foldl (ï n y) L).length=8:=by intro ss;induction ss with|nil=>exact λL h=>h;|cons s ss ih=>exact λL h=>ih _ (by rw[CZ];exact h)
  exact this ss _ (by unfold ĝ;rw[Za2,Za7])
 .rw[Za7]
end K33
open K33P (gf)
namespace K33
open PySem L2
theorem six_row(h:p.length=6):p=[fl p 0,fl p 1,fl p 2,fl p 3,fl p 4,fl p 5]:=by obtain⟨a,b,c,d,e,f,rfl⟩:=M8 h;rfl
theorem nq(h:p.length=5):p=[fl p 0,fl p 1,fl p 2,fl p 3,fl p 4]:=by obtain⟨a,b,c,d,e,rfl⟩:=Ov h;rfl
theorem jY(L:VV)(i:Nat)(v:Int):(L.map V.int).set i (.int v)=(L.set i v).map V.int:=by rw[List.map_set]
theorem jn{L:VV}(h:i<L.length):(L.map V.int)[i]?=some (.int (L.getD i 0)):=by simp_all
theorem qU{n:Nat}{i:Int}(h0:0<=i)(h1:i<n):ϒ n i=some i.toNat:=by unfold ϒ;rw[Í h0,Í h1]
def okS(s:VV):Prop:=s.length=5/\(0<=fl s 1/\fl s 1<8)/\(0<=fl s 2/\fl s 2<8)
inductive χ(vs:List V)(H:Hp)(Q:VK):Prop|mk:∀ap xp ps af xs ss n y,(vs=[.ref ap,.ref af,.int n,.int y])->(RowsAt H ap xp ps)->(RowsAt H af xs ss)->(0<=n)->(n<ps.length)->(okP (ps.getD n.toNat []))->(ss.length<=12)->((∀s∈ss,okS s))->(∀l H',Á H H'->H' l=some (.lst ((cO (ps.getD n.toNat []) ss n y).map V.int))->Q (.ref l) H')->χ  vs H Q
def yU:Sp:=λvs H Q _=>χ  vs H Q
structure MS(mg:Ti):Prop where sales:∃t,mg "MOST_SALES"=some (.int 12 t)
theorem Ow:Ã ["thing"] ["thing"] (az (top 38)):=ú
theorem vh(F:ß K "are_sales" "are_sales" (top 38) f fd)(T:Mg mg)(N:MS mg)(c1:á P w K mg base 2 "are_wholes" ["thing","many"] (J9 bG))(c2:á P w K mg base 1 "is_tuple_of" ["thing","fewest","most"] (km bI)):Ê P w K mg base Þ 3 f fd ["thing"] (ō fQ):=by refine F.oq Ow λcdv A outer s H vs Q E hr h=>?_;obtain⟨S,v,d,rfl,th,hz,q⟩:=h;obtain⟨t3,e3⟩:=N.sales;refine⟨_,aF (aP (cF (aG c2 hr (aq (pv 0) (aq au (aq (bQ (v:=.int 12) rfl e3 ⟨_,rfl⟩) aj)))) (fD (aK (gq rfl) rfl T.all õ (aq (bY ["part"] [none] rfl (gG (pv 0)) (λC fp Â s₂ Ü=>⟨bx (i:=0) (nd1 _) rfl (Or.inl rfl),bW,aG c1 hr (aq (pv 0) (aq au aj))⟩) (λC=>trivial) ⟨rfl,rfl,rfl,rfl⟩) aj))))),?_⟩;refine⟨_,rfl,S,v,d,0,12,rfl,th,hz,λH1 s1=>⟨_,rfl,?_⟩⟩;have fR:=th.same s1;have fin:=λH'(s:Á H H')=>q H' s;unfold fQ at fin;cases e:bI d 0 12 with|false=>rw[e]at fin;exact aZ (fin _ s1);|true=>rw[e]at fin;refine bj ?_;cases fR with|@tup a xs ds ea r=>exact eG (λx=>bG x 5) rfl ea r (gF r hz) (λv d H2 Q2 hm s2 t2 q2=>⟨_,rfl,S,v,d,5,rfl,t2,iD hm hz,q2⟩) λH2 s2=>fin _ (s1.trans s2);|_=>cases e
theorem Č:Ã ["promises","sales","number","year","holder","sort","first","last","sacks","price","held","promise","seller","buyer","sold","since"] ["promises","sales","number","year"] (az (top 39)):=ú
theorem Jb(F:ß K "held_in" "held_in" (top 39) f fd)(N:Nums mg):Ê P w K mg base Þ 1 f fd ["promises","sales","number","year"] yU:=by
 refine F.oq Č λcdv A outer s H vs Q E hr h=>?_;obtain⟨ap,xp,ps,af,xs,ss,n,y,rfl,rp,rs,n0,n1,okp,hl,eM,q⟩:=h;obtain⟨t1,e1⟩:=N.holders;refine⟨_,aB (cP (pX bu (pv 0) (pv 2)) (bR rfl (ao (Ô 4 Č.nd) (ao (Ô 5 Č.nd) (ao (Ô 6 Č.nd) (ao (Ô 7 Č.nd) (ao (Ô 8 Č.nd) (ao (Ô 9 Č.nd) aX)))))))) (aB (ě 10 Č.nd (aQ pK (dJ (aq au aj)) (bQ (v:=.int 8) rfl e1 ⟨_,rfl⟩))) (aB (bT (cj (pW cD cD (pv 6) (pv 3) (pv 7))) (aF (aP (pv 10))) bf) (aB (cP (pv 8) (nJ (pv 10) (pv 4) æ)) (aB (cG ň rfl (gG (pv 1)) (bR rfl (ao (Ô 11 Č.nd) (ao (Ô 12 Č.nd) (ao (Ô 13 Č.nd) (ao (Ô 14 Č.nd) (ao (Ô 15 Č.nd) aX)))))) (aF (bT (PW.pt (iI (aY iQ (pv 11) (pv 2) (aW _)) (jP (aY cD (pv 15) (pv 3) (aW _))))) (aB (jQ (pv 10) (pv 12) gf (pv 14) DG æ) (aF (jQ (pv 10) (pv 13) gf (pv 14) pQ æ))) bf))) (aF (aP (pv 10))))))),?_⟩;obtain⟨p,hp⟩:∃p,ps[n.toNat]?=some p:=⟨_,é À⟩;have ep:ps.getD n.toNat []=p:=by rw[ŧ,hp];rfl
 rw[ep]at okp q;obtain⟨t,ex,et⟩:=rp.g _ _ hp;have p6:=six_row okp.1;obtain⟨l6,⟨a1,a2⟩,b,⟨c1,c2,c3⟩,⟨d1,d2⟩,ee⟩:=id okp;have iA:ů xp n=some (.ref t):=by have:=dD ex;rw[show((n.toNat:Nat):Int)=n by lia]at this;exact this
 rw[p6]at et;refine aC ?_;refine⟨_,rfl,_,rfl,ap,xp,n,.ref t,rfl,rfl,Ì.of rp.e,iA,?_⟩;refine⟨t,_,rfl,Ì.of et,rfl,_,_,rfl,_,_,rfl,_,_,rfl,_,_,rfl,_,_,rfl,_,_,rfl,rfl,?_⟩;dsimp only;refine aC (aR ?_);refine⟨zL,λl0 oD=>⟨l0,8,_,rfl,rfl,aa,by decide,by decide,zL,λl1 bX _=>?_⟩⟩;have s1:Á H (upd (upd H l0 (.lst [V.int 0])) l1 (.lst (List.replicate (8:Int).toNat [V.int 0]).flatten)):=(Á.upd oD).updR bX;have ŉ:upd (upd H l0 (.lst [V.int 0])) l1 (.lst (List.replicate (8:Int).toNat [V.int 0]).flatten) l1=some (.lst ((List.replicate 8 (0:Int)).map V.int)):=aa;have qB:H l1=none:=(Á.upd oD).free bX;refine aJ ?_;dsimp only;refine aC ?_;refine cQ (p:=λi j=>decide (i<=j)) (q:=λi j=>decide (i<=j)) (i:=fl p 2) (j:=y) (k:=fl p 3) (fU rfl) (fU rfl) (fU rfl) _ ⟨_,rfl,?_⟩;by_cases qr:fl p 2<=y/\y<=fl p 3
 .rw[è qr.1,è qr.2];refine aZ (bN ?_);dsimp only;refine aC ?_;refine⟨_,rfl,_,rfl,_,rfl,l1,_,fl p 0,(fl p 0).toNat,rfl,rfl,ŉ,qU a1 (by show fl p 0<8;exact a2),?_⟩;rw[jY];dsimp only;refine aC ?_;have U1:af≠l1:=aD rs.e qB;refine⟨_,rfl,af,rfl,⟨xs,Ì.of (by rw[aA U1];exact s1 _ _ rs.e)⟩,?_⟩;have LO:∀{Hc:Hp}{o:HO},Á H Hc->Á H (upd Hc l1 o):=λ{Hc o}sm b u e=>by rw[aA (aD e qB)];exact sm _ _ e
  refine ur (xs:=xs) (λi σ Hc=>Xe5 λfS f7 gc gg gi=>Xa3 (σ=[some (.ref ap),some (.ref af),some (.int n),some (.int y),some (.int (fl p 0)),some (.int (fl p 1)),some (.int (fl p 2)),some (.int (fl p 3)),some (.int (fl p 4)),some (.int (fl p 5)),some (.ref l1),fS,f7,gc,gg,gi]) (Á H Hc) (Hc l1=some (.lst (((ss.take i).foldl (ï n y) (ĝ p)).map V.int)))) ?_ ?_ ?_ ?_;.exact⟨none,none,none,none,none,rfl,LO s1,aa⟩
  .rintro i σ Hc hi⟨fS,f7,gc,gg,gi,rfl,sm,el⟩;exact Ì.of (sm _ _ rs.e)
  .rintro i x σ Hc hx⟨fS,f7,gc,gg,gi,rfl,sm,el⟩;have hi:i<ss.length:=by have:=(ġ.mp hx).1;rw[rs.l]at this;exact this
   obtain⟨tr,fv,bp⟩:=rs.g i ss[i] (é hi);have:x=.ref tr:=by rw[hx]at fv;exact ĭ fv
   subst this;obtain⟨o1,⟨o2,o3⟩,o4,o5⟩:=eM ss[i] (į hi);have s5:=nq o1;have fI:ss.take (i+1)=ss.take i++[ss[i]]:=by rw[ŋ,é hi];rfl
   have D6:(ss.take (i+1)).foldl (ï n y) (ĝ p)=ï n y ((ss.take i).foldl (ï n y) (ĝ p)) ss[i]:=by rw[fI,List.foldl_append];rfl
   rw[D6];generalize hL:(ss.take i).foldl (ï n y) (ĝ p)=L at el⊢;have lL:L.length=8:=by have:=gW p (ss.take i) n y;unfold cO at this;rw[Í qr,hL]at this;exact this
   generalize ss[i]=r at bp s5 o2 o3 o4 o5⊢;rw[s5]at bp;refine⟨tr,_,rfl,Ì.of (sm _ _ bp),rfl,_,_,rfl,_,_,rfl,_,_,rfl,_,_,rfl,_,_,rfl,rfl,?_⟩;refine⟨_,rfl,_,rfl,rfl,_,rfl,?_⟩;by_cases hn:fl r 0=n
   .rw[è (show V.int (fl r 0)=V.int n by rw[hn])];refine bj ?_;refine⟨_,rfl,_,rfl,_,_,rfl,rfl,_,rfl,?_⟩;by_cases hy:fl r 4<=y
    .rw[è hy];refine bj ?_;have e1:ï n y L r=gM (gM L (fl r 1) (-(fl r 3))) (fl r 2) (fl r 3):=Í ⟨hn,hy⟩;rw[e1];refine aC ?_;refine⟨_,rfl,_,rfl,l1,_,fl r 1,_,rfl,rfl,Ï.of el,o2,jn À,_,rfl,_,_,rfl,rfl,l1,_,fl r 1,(fl r 1).toNat,rfl,rfl,el,qU o2 (by rw[Ý];lia),?_⟩;rw[jY];have e2:L.set (fl r 1).toNat (L.getD (fl r 1).toNat 0-fl r 3)=gM L (fl r 1) (-(fl r 3)):=by unfold gM;rw[Int.sub_eq_add_neg]
     rw[e2];generalize oo:gM L (fl r 1) (-(fl r 3))=L1;have lL1:L1.length=8:=by rw[<-oo,j7];exact lL
     refine⟨_,rfl,_,rfl,l1,_,fl r 2,_,rfl,rfl,Ï.of aa,o4,jn À,_,rfl,_,_,rfl,rfl,l1,_,fl r 2,(fl r 2).toNat,rfl,rfl,aa,qU o4 (by rw[Ý];lia),?_⟩;rw[jY];exact⟨_,_,_,_,_,rfl,LO (LO sm),aa⟩
    .rw[ĉ hy];refine aZ ?_;have e1:ï n y L r=L:=Ë λz=>hy z.2;rw[e1];exact⟨_,_,_,_,_,rfl,sm,el⟩
   .rw[ĉ (λz:V.int (fl r 0)=V.int n=>hn (by injection z))];refine aZ (aZ ?_);have e1:ï n y L r=L:=Ë λz=>hn z.1;rw[e1];exact⟨_,_,_,_,_,rfl,sm,el⟩
  .rintro σ Hc⟨fS,f7,gc,gg,gi,rfl,sm,el⟩;rw[rs.l,Ľ]at el;refine⟨_,rfl,q _ _ sm ?_⟩;unfold cO;rw[Í qr];exact el
 .have hb:(decide (fl p 2<=y)&&decide (y<=fl p 3))=false:=by cases e:(decide (fl p 2<=y)&&decide (y<=fl p 3))with|false=>rfl;|true=>rw[ą,ċ,ċ]at e;exact absurd e qr
  rw[hb];refine bj ⟨_,rfl,q _ _ s1 ?_⟩;unfold cO;rw[Ë qr];exact ŉ
theorem FT{Fin:List V->Hp->Prop}(Pv:List V->Hp->Prop)(h0:Pv [] H0)(hz:n<sizeLine)(step:∀i ys H Q,i<n->ys.length=i->Pv ys H->(∀y H',Pv (ys++[y]) H'->Q y H')->te (fF.set j (some (.int (lo+i)))) H Q)(fin:∀ys H,ys.length=n->Pv ys H->Fin ys H):oU (Itr lo n) (bH j) uD te Fin fF H0:=by
 refine⟨λi m ys σ H=>m=n-i/\i<=n/\ys.length=i/\(∀o,σ.set j o=fF.set j o)/\Pv ys H,⟨_,rfl,ħ _,rfl,λ_=>rfl,h0⟩,?_⟩;rintro i m ys σ H⟨rfl,hi,hy,gx,p⟩;refine⟨À,?_⟩;by_cases av:i<n;.refine .inr ⟨av,λx H' y=>?_⟩;obtain⟨e,e2⟩:=y;subst e;subst e2;show te (σ.set j (some (.int (lo+i)))) H' _;rw[gx];exact step i ys H' _ av hy p λy H2 p2=>⟨n-(i+1),À,rfl,av,by rw[ý,hy];rfl,λo=>by rw[List.set_set],p2⟩
 .have e:i=n:=À;subst e;exact .inl ⟨Ø _,fin ys H hy p⟩
theorem Ox(a:Ev σ H ta (.int i))(b:Ev σ H tb (.int j)):Ev σ H (Į rNe ta tb) (.bl (!decide (i=j))):=λQ q=>a _ (b _ ⟨rfl,by simp_all⟩)
theorem Dd(a b:Int):(years a b).length=(b+1-a).toNat:=by unfold years;rw[Ý,List.length_range]
theorem Df{i:Nat}(h:i<(b+1-a).toNat):(years a b)[i]?=some (a+i):=by unfold years;rw[ģ,List.getElem?_range h];rfl
theorem Dg{α β:Type}{l:List α}{f:α->β}{ys:List β}{x:α}(ey:ys=(l.take ys.length).map f)(hx:l[ys.length]?=some x):ys++[f x]=(l.take (ys++[f x]).length).map f:=by rw[ý,List.length_singleton,ŋ,hx,Ħ,<-ey];rfl
inductive ϊ(vs:List V)(H:Hp)(Q:VK):Prop|mk:∀ap xp ps t s,(vs=[.ref ap,.ref t])->(RowsAt H ap xp ps)->((∀r∈ps,okP r))->(H t=some (.tup (s.map V.int)))->(s.length=5)->(Q (.bl (xK ps s)) H)->ϊ  vs H Q
def FW:Sp:=λvs H Q _=>ϊ  vs H Q
inductive ŷ(vs:List V)(H:Hp)(Q:VK):Prop|mk:∀ap xp ps af xs ss t s,(vs=[.ref ap,.ref af,.ref t])->(RowsAt H ap xp ps)->((∀r∈ps,okP r))->(RowsAt H af xs ss)->(ss.length<=12)->((∀s∈ss,okS s))->(H t=some (.tup (s.map V.int)))->(s.length=5)->(∀H',Á H H'->Q (.bl (cN ps ss s)) H')->ŷ  vs H Q
def Ar:Sp:=λvs H Q _=>ŷ  vs H Q
def unV:Option Nat->V|none=>.non|some i=>.int i
inductive Ÿ(vs:List V)(H:Hp)(Q:VK):Prop|mk:∀S v d S' u e,(vs=[v,u])->(É S H v d)->(É S' H u e)->(eO d=true)->(fQ e=true)->(sz d<=4000)->(sz e<=4000)->(∀H',Á H H'->Q (unV (un (Ð d) (Ð e))) H')->Ÿ  vs H Q
def Av:Sp:=λvs H Q _=>Ÿ  vs H Q
theorem prom_ok{ps:UV}{n:Int}(h:∀r∈ps,okP r)(h0:0<=n)(h1:n<ps.length):∃p,ps[n.toNat]?=some p/\ps.getD n.toNat []=p/\okP p:=by simp_all
theorem rows_at{n:Int}{r:VV}(h:RowsAt H a xs rs)(h0:0<=n)(e:rs[n.toNat]?=some r):∃t,ů xs n=some (.ref t)/\H t=some (.tup (r.map V.int)):=by obtain⟨t,e1,e2⟩:=h.g _ _ e;refine⟨t,?_,e2⟩;have:=dD e1;rw[show((n.toNat:Nat):Int)=n by lia]at this;exact this
theorem Ĕ:Ã ["promises","sale","number","seller","buyer","sacks","year","holder","sort","first","last","due","price"] ["promises","sale"] (az (top 40)):=ú
theorem Jc(F:ß K "is_sale_between" "is_sale_between" (top 40) f fd)(T:Mg mg)(N:Nums mg):Ê P w K mg base Þ 1 f fd ["promises","sale"] FW:=by refine F.oq Ĕ λcdv A outer s H vs Q E hr h=>?_;obtain⟨ap,xp,ps,t,r,rfl,rp,okp,et,h5,q⟩:=h;obtain⟨t1,e1⟩:=N.holders;obtain⟨t4,e4⟩:=N.sacks;refine⟨_,aB (cP (pv 1) (bR rfl (ao (Ô 2 Ĕ.nd) (ao (Ô 3 Ĕ.nd) (ao (Ô 4 Ĕ.nd) (ao (Ô 5 Ĕ.nd) (ao (Ô 6 Ĕ.nd) aX))))))) (aB (bT (cj (pW cD oO au (pv 2) (aK bh rfl T.len PySem.boot_len (aq (pv 0) aj)))) (aF (aP iK)) bf) (aB (cP (pX bu (pv 0) (pv 2)) (bR rfl (ao (Ô 7 Ĕ.nd) (ao (Ô 8 Ĕ.nd) (ao (Ô 9 Ĕ.nd) (ao (Ô 10 Ĕ.nd) (ao (Ô 11 Ĕ.nd) (ao (Ô 12 Ĕ.nd) aX)))))))) (aF (aP (cF (cW cD oO au (pv 3) (bQ (v:=.int 8) rfl e1 ⟨_,rfl⟩)) (cF (cW cD oO au (pv 4) (bQ (v:=.int 8) rfl e1 ⟨_,rfl⟩)) (cF (gj lU (pv 3) (pv 4) (aW _)) (cF (cW cD cD au (pv 5) (bQ (v:=.int 99) rfl e4 ⟨_,rfl⟩)) (fD (cW cD cD (pv 9) (pv 6) (pv 10))))))))))),?_⟩;rw[nq h5]at et;refine aC ?_;refine⟨_,rfl,t,_,rfl,Ì.of et,rfl,_,_,rfl,_,_,rfl,_,_,rfl,_,_,rfl,_,_,rfl,rfl,?_⟩;dsimp only;refine aC ?_;refine cQ (p:=λi j=>decide (i<=j)) (q:=λi j=>decide (i<j)) (i:=0) (j:=fl r 0) (k:=(xp.length:Int)) fJ (fU rfl) (λQ h=>⟨_,rfl,ap,xp,rfl,.inr (Ì.of rp.e),h⟩) _ ⟨_,rfl,?_⟩;have fin:=q;unfold xK at fin;rw[rp.l];cases e:(decide (0<=fl r 0)&&decide (fl r 0<ps.length))with|false=>rw[e]at fin;exact bj fin;|true=>rw[e]at fin;rw[ą,ċ,ċ]at e;obtain⟨p,hp,ep,op⟩:=prom_ok okp e.1 e.2;obtain⟨tp,iA,kx⟩:=rows_at rp e.1 hp;rw[six_row op.1]at kx;refine aZ ?_;dsimp only;refine aC ?_;refine⟨_,rfl,_,rfl,ap,xp,_,.ref tp,rfl,rfl,Ì.of rp.e,iA,?_⟩;refine⟨tp,_,rfl,Ì.of kx,rfl,_,_,rfl,_,_,rfl,_,_,rfl,_,_,rfl,_,_,rfl,_,_,rfl,rfl,?_⟩;have yA:vg ps r=p:=ep;rw[yA]at fin;exact jB (cQ fJ (fU rfl) fJ) (λ_=>jB (cQ fJ (fU rfl) fJ) λ_=>jB (Ox (fU rfl) (fU rfl)) λ_=>jB (cQ fJ (fU rfl) fJ) λ_=>cQ (fU rfl) (fU rfl) (fU rfl)) _ fin
theorem Ń:Ã ["promises","ahead","sale","number","seller","buyer","sacks","year","last"] ["promises","ahead","sale"] (az (top 41)):=ú
theorem Q8:(["at","promises","ahead","number","seller","sacks"]:ó).Nodup:=by decide+kernel
theorem FZ(F:ß K "sale_holds" "sale_holds" (top 41) f fd)(T:Mg mg)(Tr:mg "range"=none)(c1:á P w K mg base 1 "is_sale_between" ["promises","sale"] FW)(c2:á P w K mg base 1 "held_in" ["promises","sales","number","year"] yU):Ê P w K mg base Þ 2 f fd ["promises","ahead","sale"] Ar:=by refine F.oq Ń λcdv A outer s H vs Q E hr h=>?_;obtain⟨ap,xp,ps,af,xs,ss,t,r,rfl,rp,okp,rs,hl,eM,et,h5,q⟩:=h;refine⟨_,aB (bT (cj (bL (aG c1 hr (aq (pv 0) (aq (pv 2) aj))))) (aF (aP iK)) bf) (aB (cP (pv 2) (bR rfl (ao (bx (i:=3) Ń.nd rfl (Or.inr rfl)) (ao (bx (i:=4) Ń.nd rfl (Or.inr rfl)) (ao (Ô 5 Ń.nd) (ao (bx (i:=6) Ń.nd rfl (Or.inr rfl)) (ao (Ô 7 Ń.nd) aX))))))) (aB (ě 8 Ń.nd (pX bu (pX bu (pv 0) (pv 3)) au)) (aF (aP (aK (gq rfl) rfl T.all õ (aq (bY ["at","promises","ahead","number","seller","sacks"] [none,some 0,some 1,some 3,some 4,some 6] rfl (sG rfl Tr (aq (pv 7) (aq (aQ bU (pv 8) au) aj))) (λC fp Â s₂ Ü=>⟨Ô 0 Q8,bW,gj JT (pX (xH (K:=K) rfl) (aG c2 hr (aq (pv 1) (aq (pv 2) (aq (pv 3) (aq (pv 0) aj))))) (pv 4)) (pv 5) (aW _)⟩) (λC=>cI (cI (cI (cI (cI trivial))))) ⟨rfl,rfl,rfl,rfl⟩) aj)))))),?_⟩;have fin:=q;unfold cN at fin;refine aC ?_;refine⟨_,rfl,_,rfl,ap,xp,ps,t,r,rfl,rp,okp,et,h5,_,rfl,?_⟩;cases e:xK ps r with|false=>rw[e]at fin;exact bj (fin _ (Á.refl _));|true=>
  rw[e]at fin;refine aZ (bN ?_);dsimp only;refine aC ?_;unfold xK at e;simp only[Bool.and_eq_true,ċ]at e;obtain⟨⟨n0,n1⟩,⟨b0,b1⟩,_,_,⟨k0,k1⟩,y0,y1⟩:=e;obtain⟨p,hp,ep,op⟩:=prom_ok okp n0 n1;have yA:vg ps r=p:=ep;rw[yA]at fin y0 y1;obtain⟨tp,iA,kx⟩:=rows_at rp n0 hp;rw[nq h5]at et;rw[six_row op.1]at kx;obtain⟨_,_,_,⟨g1,g2,g3⟩,_⟩:=id op;refine⟨_,rfl,t,_,rfl,Ì.of et,rfl,_,_,rfl,_,_,rfl,_,_,rfl,_,_,rfl,_,_,rfl,rfl,?_⟩;dsimp only;refine aC (aR ?_);refine⟨_,rfl,_,rfl,ap,xp,_,.ref tp,rfl,rfl,Ì.of rp.e,iA,tp,_,3,.int (fl p 3),rfl,rfl,Ì.of kx,rfl,?_⟩;refine aJ ?_;dsimp only;refine⟨_,rfl,_,rfl,_,_,rfl,rfl,fl r 4,fl p 3+1,rfl,⟨z03,À,À,À⟩,?_⟩;refine FT (λys Hc=>Á H Hc/\ys=((years (fl r 4) (fl p 3)).take ys.length).map λy=>V.bl (decide (fl r 3<=(cO p ss (fl r 0) y).getD (fl r 1).toNat 0))) ⟨Á.refl _,rfl⟩ ϻ ?_ ?_
  .rintro i ys Hc Qc hi hy⟨sc,ey⟩qc;refine⟨_,rfl,_,rfl,_,rfl,_,rfl,ap,xp,ps,af,xs,ss,fl r 0,fl r 4+i,rfl,rp.same sc,rs.same sc,n0,n1,by rw[ep];exact op,hl,eM,λl H' s' el=>?_⟩;rw[ep]at el;refine⟨_,rfl,l,_,fl r 1,.int ((cO p ss (fl r 0) (fl r 4+i)).getD (fl r 1).toNat 0),rfl,rfl,Ï.of el,?_,_,rfl,_,_,rfl,rfl,qc _ _ ⟨sc.trans s',?_⟩⟩;.unfold ů;rw[qU b0 (by rw[Ý,gW];lia)];exact jn (by rw[gW];lia)
   .have hx:(years (fl r 4) (fl p 3))[ys.length]?=some (fl r 4+(i:Int)):=by rw[hy];exact Df hi
    exact Dg ey hx
  .rintro ys Hc hy⟨sc,ey⟩D hD;rw[Zah (by rw[Dd,hy];exact Ø _)]at ey;refine⟨D,(years (fl r 4) (fl p 3)).map λy=>decide (fl r 3<=(cO p ss (fl r 0) y).getD (fl r 1).toNat 0),rfl,Ï.of (by rw[zAr];rw[ey];exact aa),?_⟩;rw[List.all_map];exact fin _ (sc.updR hD)
end K33
open K33P (qM)
namespace K33
open PySem L2
theorem RowsAt.cut(h:RowsAt H a xs rs)(i:Nat)(hp:H p=none):RowsAt (upd H p (.tup (xs.take i))) p (xs.take i) (rs.take i):=by
 refine⟨aa,by rw[İ,İ,h.l],λj r e=>?_⟩;have hj:j<i:=by
  rw[List.getElem?_take]at e;split at e;.assumption
  .cases e
 rw[List.getElem?_take_of_lt hj]at e;obtain⟨t,e1,e2⟩:=h.g j r e;exact⟨t,by rw[List.getElem?_take_of_lt hj];exact e1,Á.upd hp _ _ e2⟩
theorem Aw(h:∀j,j<i->cN ps (ss.take j) (ss.getD j [])=true)(hi:i<ss.length)(hn:cN ps (ss.take i) (ss.getD i [])=false):un ps ss=some i:=by unfold un;rw[List.find?_range_eq_some];exact⟨by rw[hn];rfl,ϡ.mpr hi,λj hj=>by rw[h j hj];rfl⟩
theorem Ax(h:∀j,j<ss.length->cN ps (ss.take j) (ss.getD j [])=true):un ps ss=none:=by unfold un;rw[List.find?_range_eq_none];exact λj hj=>by rw[h j hj];rfl
theorem qW(h5:s.length=5)(h:cN ps ss s=true):okS s:=by unfold cN xK at h;simp only[Bool.and_eq_true,ċ]at h;exact⟨h5,h.1.2.1,h.1.2.2.1⟩
theorem ð{ss:UV}(h:i<ss.length):ss.getD i []=ss[i]:=by rw[ŧ,é h];rfl
def part(d:PyData)(i:Nat):PyData:=(items d).getD i .none
def cR(d:PyData):Bool:=bI d 3 3&&(gH (part d 0)&&(eO (part d 1)&&(fQ (part d 2)&&(un (Ð (part d 1)) (Ð (part d 2))).isNone)))
theorem Ϩ:Ã ["promises","sales","at","sale"] ["promises","sales"] (az (top 42)):=ú
theorem G3(F:ß K "first_unheld" "first_unheld" (top 42) f fd)(Te:mg "enumerate"=none)(c1:á P w K mg base 4 "are_promises" ["thing"] (ō eO))(c2:á P w K mg base 3 "are_sales" ["thing"] (ō fQ))(c3:á P w K mg base 2 "sale_holds" ["promises","ahead","sale"] Ar):Ê P w K mg base Þ 5 f fd ["promises","sales"] Av:=by
 refine F.oq Ϩ λcdv A outer s H vs Q E hr h=>?_;obtain⟨S,v,d,S',u,e,rfl,PU,ths,hp,hs,zp,zs,q⟩:=h;refine⟨_,aB (bT (cj (bL (aG c1 hr (aq (pv 0) aj)))) gQ bf) (aB (bT (cj (bL (aG c2 hr (aq (pv 1) aj)))) gQ bf) (aB (cG ň rfl (ZT.pi_enum true rfl Te (aq (pv 1) aj)) (bR rfl (ao (Ô 2 Ϩ.nd) (ao (Ô 3 Ϩ.nd) aX))) (aF (bT (cj (bL (aG c3 hr (aq (pv 0) (aq (cz zT (pv 1) cU (cV (pv 2))) (aq (pv 3) aj)))))) (aF (aP (pv 2))) bf))) (aF (aP lu)))),?_⟩;refine aC ?_;refine⟨_,rfl,S,v,d,rfl,PU,zp,λH1 s1=>⟨_,rfl,?_⟩⟩;rw[hp];refine aZ (bN ?_);dsimp only;refine aC ?_;refine⟨_,rfl,S',u,e,rfl,ths.same s1,zs,λH2 s2=>⟨_,rfl,?_⟩⟩;rw[hs];refine aZ (bN ?_);dsimp only;have yB:=s1.trans s2;obtain⟨ep,lp,okp⟩:=lM hp;obtain⟨es,ls,eM⟩:=lN hs;have fR:=PU.same yB;have ja:=ths.same yB;rw[ep]at fR;rw[es]at ja;generalize Ð d=ps at q lp okp fR;generalize Ð e=ss at q ls eM ja;obtain⟨ap,xp,rfl,rp⟩:=th_rows fR;obtain⟨af,xs,rfl,rs⟩:=th_rows ja;refine aC ?_;refine⟨_,rfl,af,xs,rfl,Ì.of rs.e,?_⟩;refine ZT.for_enum true (xs:=xs) (λi σ Hc=>∃x2 x3,σ=[some (.ref ap),some (.ref af),x2,x3]/\Á H2 Hc/\∀j,j<i->cN ps (ss.take j) (ss.getD j [])=true) ?_ ?_ ?_ ?_;.exact⟨none,none,rfl,Á.refl _,λj hj=>absurd hj (Nat.not_lt_zero _)⟩
 .rintro i σ Hc hi⟨x2,x3,rfl,sm,hh⟩;exact Ì.of (sm _ _ rs.e)
 .rintro i x σ Hc T0 hx⟨x2,x3,rfl,sm,hh⟩nT;have hi:i<ss.length:=by have:=(ġ.mp hx).1;rw[rs.l]at this;exact this
  have AX:i<xs.length:=by rw[rs.l];exact hi
  obtain⟨tr,fv,bp⟩:=rs.g i ss[i] (é hi);have:x=.ref tr:=by rw[hx]at fv;exact ĭ fv
  subst this;have h5:=eM ss[i] (į hi);have sT:=sm.updR (o:=.tup [V.int i,V.ref tr]) nT;refine⟨T0,_,rfl,Ì.of aa,rfl,_,_,rfl,_,_,rfl,rfl,?_⟩;refine⟨_,rfl,_,rfl,_,rfl,i,rfl,af,xs,rfl,Ì.of (sT _ _ rs.e),λhw=>?_,λ_ p PV=>?_⟩;.have:=hw.2;rw[HT.sIx_nat]at this;exact absurd this À
  rw[qM (Zbd AX)];have sp:=sT.updR (o:=.tup (xs.take i)) PV;refine⟨_,rfl,ap,xp,ps,p,xs.take i,ss.take i,tr,ss[i],rfl,rp.same sp,okp,(rs.same sT).cut i PV,?_,?_,sp _ _ bp,h5,λH' s'=>⟨_,rfl,?_⟩⟩;.rw[İ];lia
  .intro s cE;obtain⟨j,hj,e'⟩:=Zaw cE;rw[İ]at hj;have U2:j<i:=À;have PY:j<ss.length:=À;have e2:ss[j]=s:=by rw[<-e',Za3]
   rw[<-e2];have:=hh j U2;rw[ð PY]at this;exact qW (eM _ (į PY)) this
  .cases eh:cN ps (ss.take i) ss[i]with|false=>refine bj ⟨_,rfl,?_⟩;have:=q H' (yB.trans (sp.trans s'));rw[Aw hh hi (by rw[ð hi];exact eh)]at this;exact this;|true=>
    refine aZ ⟨_,_,rfl,sp.trans s',λj hj=>?_⟩;rcases Nat.lt_succ_iff_lt_or_eq.mp hj with z|z;.exact hh j z
    .rw[z,ð hi];exact eh
 .rintro σ Hc⟨x2,x3,rfl,sm,hh⟩;have:=q Hc (yB.trans sm);rw[Ax λj hj=>hh j (by rw[rs.l];exact hj)]at this;exact this
theorem γ:Ã ["thing","clips","promises","sales"] ["thing"] (az (top 43)):=ú
theorem ok_book(F:ß K "is_book" "is_book" (top 43) f fd)(c0:á P w K mg base 1 "is_tuple_of" ["thing","fewest","most"] (km bI))(c1:á P w K mg base 4 "are_clips" ["thing"] (ō gH))(c2:á P w K mg base 4 "are_promises" ["thing"] (ō eO))(c3:á P w K mg base 3 "are_sales" ["thing"] (ō fQ))(c4:á P w K mg base 5 "first_unheld" ["promises","sales"] Av):Ê P w K mg base Þ 6 f fd ["thing"] (ō cR):=by refine F.oq γ λcdv A outer s H vs Q E hr h=>?_;obtain⟨S,v,d,rfl,th,hz,q⟩:=h;refine⟨_,aB (bT (cj (bL (aG c0 hr (aq (pv 0) (aq au (aq au aj)))))) (aF (aP iK)) bf) (aB (cP (pv 0) (bR rfl (ao (Ô 1 γ.nd) (ao (Ô 2 γ.nd) (ao (Ô 3 γ.nd) aX))))) (aF (aP (cF (aG c1 hr (aq (pv 1) aj)) (cF (aG c2 hr (aq (pv 2) aj)) (cF (aG c3 hr (aq (pv 3) aj)) (fD (gj yr (aG c4 hr (aq (pv 2) (aq (pv 3) aj))) lu (aW _))))))))),?_⟩;have fin:=q;unfold cR at fin;refine aC ?_;refine⟨_,rfl,S,v,d,3,3,rfl,th,hz,λH1 s1=>⟨_,rfl,?_⟩⟩;cases e:bI d 3 3 with|false=>rw[e]at fin;exact bj (fin _ s1);|true=>rw[e]at fin;refine aZ (bN ?_);dsimp only;obtain⟨ds,rfl,l1,l2⟩:=j6 e;have fR:=th.same s1;cases fR with|@tup a xs _ ea r=>obtain⟨v0,v1,v2,d0,d1,d2,rfl,rfl,h0,h1,h2⟩:=oH r (show ds.length=3 by lia);have z0:=iD (d:=d0) Ò hz;have z1:=iD (d:=d1) Ò hz;have z2:=iD (d:=d2) Ò hz;refine aC ?_;refine⟨_,rfl,a,_,rfl,Ì.of ea,rfl,_,_,rfl,_,_,rfl,_,_,rfl,rfl,?_⟩;dsimp only;have fin:∀H',Á H H'->Q (.bl (true&&(gH d0&&(eO d1&&(fQ d2&&(un (Ð d1) (Ð d2)).isNone))))) H':=fin;refine⟨_,rfl,S,_,d0,rfl,h0,z0,λH2 s2=>⟨_,rfl,?_⟩⟩;cases e0:gH d0 with|false=>rw[e0]at fin;exact aZ (fin _ (s1.trans s2));|true=>rw[e0]at fin;refine bj ?_;refine⟨_,rfl,S,_,d1,rfl,h1.same s2,z1,λH3 s3=>⟨_,rfl,?_⟩⟩;cases e1:eO d1 with|false=>rw[e1]at fin;exact aZ (fin _ ((s1.trans s2).trans s3));|true=>rw[e1]at fin;refine bj ?_;refine⟨_,rfl,S,_,d2,rfl,h2.same (s2.trans s3),z2,λH4 s4=>⟨_,rfl,?_⟩⟩;cases e2:fQ d2 with|false=>rw[e2]at fin;exact aZ (fin _ (((s1.trans s2).trans s3).trans s4));|true=>rw[e2]at fin;refine bj ?_;have LP:=(s2.trans s3).trans s4;refine⟨_,rfl,_,rfl,S,_,d1,S,_,d2,rfl,h1.same LP,h2.same LP,e1,e2,z1,z2,λH5 s5=>⟨rfl,?_⟩⟩;have:=fin H5 (s1.trans (LP.trans s5));cases eu:un (Ð d1) (Ð d2)with|none=>rw[eu]at this;exact this;|some i=>rw[eu]at this;exact this
end K33
open K33P (cX Ă)
namespace K33
open PySem L2
def î(H:Hp)(xs:List V)(rs:UV):Prop:=xs.length=rs.length/\∀(i:Nat)(r:VV),rs[i]?=some r->∃t,xs[i]?=some (V.ref t)/\H t=some (.tup (r.map V.int))
theorem î.keep(h:î H xs rs)(k:∀b l,H b=some (.tup l)->H' b=some (.tup l)):î H' xs rs:=⟨h.1,λi r e=>by obtain⟨t,e1,e2⟩:=h.2 i r e;exact⟨t,e1,k _ _ e2⟩⟩
theorem î.same(h:î H xs rs)(s:Á H H'):î H' xs rs:=h.keep λ_ _ e=>s _ _ e
theorem î.nil:î H [] []:=⟨rfl,λi r e=>by simp at e⟩
theorem î.app(h:î H xs rs)(g:î H ys qs):î H (xs++ys) (rs++qs):=by
 refine⟨by rw[ý,ý,h.1,g.1],λi r e=>?_⟩;by_cases hi:i<rs.length;.rw[zBa hi]at e;obtain⟨t,e1,e2⟩:=h.2 i r e;exact⟨t,by rw[zBa (by rw[h.1];exact hi)];exact e1,e2⟩
 .rw[zB9 À]at e;obtain⟨t,e1,e2⟩:=g.2 _ r e;exact⟨t,by rw[zB9 (by rw[h.1];lia),h.1];exact e1,e2⟩
theorem î.one{r:VV}(e:H t=some (.tup (r.map V.int))):î H [.ref t] [r]:=⟨rfl,λi q e'=>by cases i with|zero=>rw[List.getElem?_cons_zero]at e';cases e';exact⟨t,rfl,e⟩;|succ i=>simp at e'⟩
theorem dW(h:r.length=4):r=[fl r 0,fl r 1,fl r 2,fl r 3]:=by match r,h with|[a,b,c,d],_=>rfl
theorem rd_E{t:TS}{D:Ĥ}(h:∀D':Ĥ,(∀σ H,N σ H->D'.nx σ H)->t D' σ H):t {D with nx:=N,ct:=N,bk:=D.nx} σ H:=h _ λ_ _ z=>z
def Ģ(rs:UV):VV:=rs.map λr=>fl r 3
def gO(rs:UV):Int:=(Ģ rs).sum
inductive ų(vs:List V)(H:Hp)(Q:VK):Prop|mk:∀l xs rs,(vs=[.ref l])->(H l=some (.lst xs))->(î H xs rs)->((∀r∈rs,r.length=4))->(rs.length<=100000)->(∀H',Á H H'->Q (.int (gO rs)) H')->ų  vs H Q
def Ay:Sp:=λvs H Q _=>ų  vs H Q
theorem nd4:(["due","number","holder","sacks"]:ó).Nodup:=by decide+kernel
theorem Q9:Ã ["rows"] ["rows"] (az (top 54)):=ú
theorem G4(F:ß K "sacks_of" "sacks_of" (top 54) f fd)(Ts:mg "sum"=none):Ê P w K mg base Þ 1 f fd ["rows"] Ay:=by
 refine F.oq Q9 λcdv A outer s H vs Q E hr h=>?_;obtain⟨l,xs,rs,rfl,el,cm,h4,hz,q⟩:=h;refine⟨_,aF (aP (aK (gR rfl) rfl Ts Ă (aq (bY (g:=lR K 4 (bZ (bH 0) (bZ (bH 1) (bZ (bH 2) (bZ (bH 3) nH))))) ["due","number","holder","sacks"] [none,none,none,none] rfl (dC (pv 0)) (λC fp Â s₂ Ü=>⟨dX rfl rfl (ao (Ô 0 nd4) (ao (Ô 1 nd4) (ao (Ô 2 nd4) (ao (Ô 3 nd4) aX)))),bW,pv 3⟩) (λC=>trivial) ⟨rfl,rfl,rfl,rfl⟩) aj))),?_⟩;refine⟨_,rfl,l,rfl,⟨_,Ï.of el⟩,cX rs.length (λi ys σ Hc=>Á H Hc/\(∃o1 o2 o3 o4,σ=[o1,o2,o3,o4])/\ys=(Ģ (rs.take i)).map V.int) ⟨Á.refl H,⟨_,_,_,_,rfl⟩,rfl⟩ ϻ ?_ ?_⟩;.rintro i ys σ Hc hi hy⟨s1,⟨o1,o2,o3,o4,rfl⟩,rfl⟩;obtain⟨t,ex,et⟩:=cm.2 i rs[i] (é hi);rw[dW (h4 _ (į hi))]at et;refine⟨⟨_,_,Ï.of (s1 _ _ el),ex⟩,λv H' y R hR=>?_⟩;obtain⟨rfl,y⟩:=y;have hv:=y _ (Ï.of (s1 _ _ el));rw[ex]at hv;cases hv;refine⟨t,_,rfl,Ì.of (s1 _ _ et),rfl,_,_,rfl,_,_,rfl,_,_,rfl,_,_,rfl,rfl,_,rfl,hR _ _ _ ⟨s1,⟨_,_,_,_,rfl⟩,?_⟩⟩;unfold Ģ;rw[ŋ,é hi,Ħ,Ħ];rfl
 .rintro ys σ Hc hy⟨s1,_,rfl⟩;refine⟨⟨_,Ï.of (s1 _ _ el),by rw[cm.1];exact Ø _⟩,λD hD=>?_⟩;rw[Ľ];exact⟨D,Ģ rs,rfl,.inl (Ï.of aa),q _ (s1.updR hD)⟩
def dI:Int->UV->VV|_,[]=>[]|w,r::rs=>(if w<fl r 3 then w else fl r 3)::dI (w-(if w<fl r 3 then w else fl r 3)) rs
theorem lO:∀(w:Int)(rs:UV)(r:VV),dI w (rs++[r])=dI w rs++[if w-(dI w rs).sum<fl r 3 then w-(dI w rs).sum else fl r 3]|w,[],r=>by show[_]=[_];rw[show(dI w []).sum=0 from rfl,Int.sub_zero];|w,q::rs,r=>by rw[List.cons_append];unfold dI;rw[lO _ rs r,List.cons_append,ζ,show∀a b c:Int,a-b-c=a-(b+c)from λa b c=>by lia]
theorem j8:∀(w:Int)(rs:UV),(dI w rs).length=rs.length|_,[]=>rfl|w,r::rs=>by unfold dI;rw[ľ,ľ,j8]
inductive υ(vs:List V)(H:Hp)(Q:VK):Prop|mk:∀w l xs rs,(vs=[.int w,.ref l])->(H l=some (.lst xs))->(î H xs rs)->((∀r∈rs,r.length=4))->(rs.length<=100000)->(∀m H',Á H H'->H m=none->H' m=some (.lst ((dI w rs).map V.int))->Q (.ref m) H')->υ  vs H Q
def G5:Sp:=λvs H Q _=>υ  vs H Q
def bO(w:Int)(rs:UV):VV:=if(Ģ rs).sum<=w then Ģ rs else K33P.res w (Ģ rs)
inductive ŕ(vs:List V)(H:Hp)(Q:VK):Prop|mk:∀w l xs rs,(vs=[.int w,.ref l])->(H l=some (.lst xs))->(î H xs rs)->((∀r∈rs,r.length=4/\1<=fl r 3/\fl r 3<=99))->(rs.length<=80)->(0<=w)->(∀t H',Á H H'->H' t=some (.tup ((bO w rs).map V.int))->Q (.ref t) H')->ŕ  vs H Q
def xM:Sp:=λvs H Q _=>ŕ  vs H Q
theorem Ŝ:Ã ["wool","owed","shares","left","due","number","holder","sacks","share"] ["wool","owed"] (az (top 57)):=ú
theorem Jd(F:ß K "made_good" "made_good" (top 57) f fd)(Tn:mg "min"=none):Ê P w K mg base Þ 1 f fd ["wool","owed"] G5:=by
 refine F.oq Ŝ λcdv A outer s H vs Q E hr h=>?_;obtain⟨w0,l,xs,rs,rfl,el,cm,h4,hz,q⟩:=h;refine⟨_,aB (ě 2 Ŝ.nd (dJ aj)) (aB (ě 3 Ŝ.nd (pv 0)) (aB (cG ň rfl (dC (pv 1)) (bR rfl (ao (Ô 4 Ŝ.nd) (ao (Ô 5 Ŝ.nd) (ao (Ô 6 Ŝ.nd) (ao (Ô 7 Ŝ.nd) aX))))) (aB (ě 8 Ŝ.nd (aK (iR rfl) rfl Tn Ϫ (aq (pv 7) (aq (pv 3) aj)))) (aB (cB (qd zBb zBg zBf iV (pv 2) (aq (pv 8) aj))) (aF (lw (i:=3) Ŝ.nd rfl (Or.inl rfl) (pv 8) DG))))) (aF (aP (pv 2))))),?_⟩;refine aC (aR ?_);refine⟨zL,λm hm=>?_⟩;refine aJ ?_;dsimp only;refine aC (aR ?_);refine⟨_,rfl,?_⟩;refine aJ ?_;dsimp only;refine aC ?_;have s1:=Á.upd (o:=.lst []) hm;refine⟨_,rfl,l,rfl,⟨_,Ï.of (s1 _ _ el)⟩,?_⟩;refine gY (xs:=xs) (λi σ Hc=>Xe5 λx4 x5 x6 x7 x8=>Xa3 (σ=[some (.int w0),some (.ref l),some (.ref m),some (.int (w0-(dI w0 (rs.take i)).sum)),x4,x5,x6,x7,x8]) ((∀b o,H b=some o->Hc b=some o)) (Hc m=some (.lst ((dI w0 (rs.take i)).map V.int)))) ?_ ?_ ?_ ?_;.refine⟨none,none,none,none,none,?_,λb o e=>s1 _ _ e,aa⟩;rw[List.take_zero,show(dI w0 []).sum=0 from rfl,Int.sub_zero];rfl
 .rintro i σ Hc hi⟨x4,x5,x6,x7,x8,rfl,k,em⟩;exact Ï.of (k _ _ el)
 .rintro i x σ Hc hx⟨x4,x5,x6,x7,x8,rfl,k,em⟩;have hi:i<rs.length:=by have:=(ġ.mp hx).1;rw[cm.1]at this;exact this
  obtain⟨t,ex,et⟩:=cm.2 i rs[i] (é hi);rw[ex]at hx;cases hx;rw[dW (h4 _ (į hi))]at et;refine⟨t,_,rfl,Ì.of (k _ _ et),rfl,_,_,rfl,_,_,rfl,_,_,rfl,_,_,rfl,rfl,?_⟩;refine aC (aR ?_);refine⟨_,rfl,_,rfl,_,_,rfl,?_⟩;refine aJ ?_;dsimp only;refine aC ?_;refine⟨_,rfl,.inl ⟨rfl,_,Ï.of em⟩,_,rfl,m,_,_,rfl,rfl,em,?_,?_⟩;.rw[Ý,j8,İ,sizeLine_eq];grind
  have fI:rs.take (i+1)=rs.take i++[rs[i]]:=by rw[ŋ,é hi];rfl
  dsimp only;refine⟨_,rfl,_,rfl,_,_,rfl,rfl,some (.int (fl rs[i] 0)),some (.int (fl rs[i] 1)),some (.int (fl rs[i] 2)),some (.int (fl rs[i] 3)),some (.int (if w0-(dI w0 (rs.take i)).sum<fl rs[i] 3 then w0-(dI w0 (rs.take i)).sum else fl rs[i] 3)),?_,λb o e=>?_,?_⟩;.rw[fI,lO,List.sum_append,ζ,List.sum_nil,Int.add_zero,show∀a b c:Int,a-(b+c)=a-b-c from λa b c=>by lia];rfl
  .rw[aA (aD e hm)];exact k _ _ e
  .rw[aa,fI,lO,Ħ];rfl
 .rintro σ Hc⟨x4,x5,x6,x7,x8,rfl,k,em⟩;rw[show xs.length=rs.length from cm.1,Ľ]at em;exact⟨_,rfl,q m Hc (λb o e=>k b o e) hm em⟩
theorem scT2:Ã ["wool","claims","weights"] ["wool","claims"] (az (top 56)):=ú
theorem Dh(F:ß K "shares_of" "shares_of" (top 56) f fd)(T:Mg mg)(Ts:mg "sum"=none)(c1:á P w K mg base 6 "parted" ["sacks","weights"] K33P.spParts):Ê P w K mg base Þ 7 f fd ["wool","claims"] xM:=by
 refine F.oq scT2 λcdv A outer s H vs Q E hr h=>?_;obtain⟨w0,l,xs,rs,rfl,el,cm,h4,hz,hw,q⟩:=h;refine⟨_,aB (ě 2 scT2.nd (cH cZ rfl T.tuple Õ (aq (bY (g:=lR K 4 (bZ (bH 0) (bZ (bH 1) (bZ (bH 2) (bZ (bH 3) nH))))) ["due","number","holder","sacks"] [none,none,none,none] rfl (dC (pv 1)) (λC fp Â s₂ Ü=>⟨dX rfl rfl (ao (Ô 0 nd4) (ao (Ô 1 nd4) (ao (Ô 2 nd4) (ao (Ô 3 nd4) aX)))),bW,pv 3⟩) (λC=>trivial) ⟨rfl,rfl,rfl,rfl⟩) aj))) (aF (aP (vP (aY cD (aK (gR rfl) rfl Ts Ă (aq (pv 2) aj)) (pv 0) (aW _)) (pv 2) (aG c1 hr (aq (pv 0) (aq (pv 2) aj)))))),?_⟩;refine aC (aR ?_);refine⟨_,rfl,l,rfl,⟨_,Ï.of el⟩,cX rs.length (λi ys σ Hc=>Á H Hc/\(∃o1 o2 o3 o4,σ=[o1,o2,o3,o4])/\ys=(Ģ (rs.take i)).map V.int) ⟨Á.refl H,⟨_,_,_,_,rfl⟩,rfl⟩ ϻ ?_ ?_⟩;.rintro i ys σ Hc hi hy⟨s1,⟨o1,o2,o3,o4,rfl⟩,rfl⟩;obtain⟨t,ex,et⟩:=cm.2 i rs[i] (é hi);rw[dW (h4 _ (į hi)).1]at et;refine⟨⟨_,_,Ï.of (s1 _ _ el),ex⟩,λv H' y R hR=>?_⟩;obtain⟨rfl,y⟩:=y;have hv:=y _ (Ï.of (s1 _ _ el));rw[ex]at hv;cases hv;refine⟨t,_,rfl,Ì.of (s1 _ _ et),rfl,_,_,rfl,_,_,rfl,_,_,rfl,_,_,rfl,rfl,_,rfl,hR _ _ _ ⟨s1,⟨_,_,_,_,rfl⟩,?_⟩⟩;unfold Ģ;rw[ŋ,é hi,Ħ,Ħ];rfl
 .rintro ys σ Hc hy⟨s1,_,rfl⟩;refine⟨⟨_,Ï.of (s1 _ _ el),by rw[cm.1];exact Ø _⟩,λD hD=>?_⟩;rw[Ľ];refine⟨D,_,rfl,.inl ⟨Ï.of aa,λt ht=>?_⟩⟩;have s2:=(s1.updR (o:=.lst ((Ģ rs).map V.int)) hD).updR (o:=.tup ((Ģ rs).map V.int)) ht;have et:=aa (H:=upd Hc D (.lst ((Ģ rs).map V.int))) (a:=t) (o:=.tup ((Ģ rs).map V.int));generalize upd (upd Hc D (.lst ((Ģ rs).map V.int))) t (.tup ((Ģ rs).map V.int))=H2 at s2 et⊢;refine aJ ?_;dsimp only;refine⟨_,rfl,t,Ģ rs,rfl,.inr (Ì.of et),_,rfl,_,_,rfl,rfl,_,rfl,?_⟩;by_cases hs:(Ģ rs).sum<=w0;.rw[è hs];refine bj ⟨_,rfl,q t H2 s2 ?_⟩;unfold bO;rw[Í hs];exact et
  .rw[ĉ hs];refine aZ ⟨_,rfl,_,rfl,w0,t,Ģ rs,rfl,et,⟨?_,?_,λx hx=>?_⟩,hw,À,λH3 t3 s3 e3=>q t3 H3 (s2.trans s3) ?_⟩;.cases hJ:rs with|nil=>rw[hJ]at hs;exact absurd hw hs;|cons r AY=>unfold Ģ;rw[Ý,ľ];simp
   .unfold Ģ;rw[Ý];exact hz
   .obtain⟨r,hJ,rfl⟩:=Ā.mp hx;exact(h4 r hJ).2
   .unfold bO;rw[Ë hs];exact e3
theorem j9{Fin:List V->Hp->Prop}(n:Nat)(Pv:Nat->List V->St->Hp->Prop)(h0:Pv 0 [] fF H0)(hz:n<sizeLine)(step:∀i ys σ H,i<n->ys.length<=i->Pv i ys σ H->J.go i H/\∀x H',J.yld i H x H'->∀R:List V->St->Hp->Prop,(∀ua ax H4,ua.length<=i+1->Pv (i+1) ua ax H4->R ua ax H4)->g x σ H' λax H2=>tt ax H2 λb H3=>if b=true then te ax H3 λy H4=>R (ys++[y]) ax H4 else R ys ax H3)(fin:∀ys σ H,ys.length<=n->Pv n ys σ H->J.stop n H/\Fin ys H):oU J g tt te Fin fF H0:=by
 refine⟨λi m ys σ H=>m=n-i/\i<=n/\ys.length<=i/\Pv i ys σ H,⟨_,rfl,ħ _,Ø _,h0⟩,?_⟩;rintro i m ys σ H⟨rfl,hi,hy,p⟩;refine⟨z03,?_⟩;by_cases av:i<n;.obtain⟨go,st⟩:=step i ys σ H av hy p;exact .inr ⟨go,λx H' y=>st x H' y (λua ax H4=>∃m',m'<n-i/\m'=n-(i+1)/\i+1<=n/\ua.length<=i+1/\Pv (i+1) ua ax H4) λua ax H4 l2 p2=>⟨n-(i+1),z03,rfl,av,l2,p2⟩⟩
 .have e:i=n:=À;subst e;exact .inl (fin ys σ H hy p)
def iu(P:List (VV×Int)):UV:=(P.filter λp=>decide (0<p.2)).map λp=>[fl p.1 0,fl p.1 1,fl p.1 2,p.2]
def iG(P:List (VV×Int)):UV:=(P.filter λp=>decide (p.2<fl p.1 3)).map λp=>[fl p.1 0,fl p.1 1,fl p.1 2,fl p.1 3-p.2]
theorem u6(P:List (VV×Int))(p:VV×Int):iu (P++[p])=iu P++(if 0<p.2 then[[fl p.1 0,fl p.1 1,fl p.1 2,p.2]]else[]):=by
 unfold iu;rw[Zbg,Ħ];congr 1;by_cases h:0<p.2;.rw[Í h,zBd (p:=λ(p:VV×Int)=>decide (0<p.2)) (è h)];rfl
 .rw[Ë h,zBc (p:=λ(p:VV×Int)=>decide (0<p.2)) (by rw[ċ];exact h)];rfl
theorem qX(P:List (VV×Int))(p:VV×Int):iG (P++[p])=iG P++(if p.2<fl p.1 3 then[[fl p.1 0,fl p.1 1,fl p.1 2,fl p.1 3-p.2]]else[]):=by
 unfold iG;rw[Zbg,Ħ];congr 1;by_cases h:p.2<fl p.1 3;.rw[Í h,zBd (p:=λ(p:VV×Int)=>decide (p.2<fl p.1 3)) (è h)];rfl
 .rw[Ë h,zBc (p:=λ(p:VV×Int)=>decide (p.2<fl p.1 3)) (by rw[ċ];exact h)];rfl
theorem Đ{w:Int}:(bO w rs).length=rs.length:=by
 unfold bO;split;.unfold Ģ;rw[Ý]
 .rw[K33P.res_len];unfold Ģ;rw[Ý]
def ę(w:Int)(cl ow:UV):VV:=bO w cl++dI (w-(bO w cl).sum) ow
inductive ι(vs:List V)(H:Hp)(Q:VK):Prop|mk:∀w lc xc cl lo xo ow,(vs=[.int w,.ref lc,.ref lo])->(H lc=some (.lst xc))->(î H xc cl)->((∀r∈cl,r.length=4/\1<=fl r 3/\fl r 3<=99))->(cl.length<=80)->(0<=w)->(H lo=some (.lst xo))->(î H xo ow)->((∀r∈ow,r.length=4))->(ow.length<=10000)->(∀t g k xg xk H',Á H H'->H' t=some (.tup [.ref g,.ref k])->H g=none->H k=none->H' g=some (.lst xg)->î H' xg (iu ((cl++ow).zip (ę w cl ow)))->H' k=some (.lst xk)->î H' xk (iG ((cl++ow).zip (ę w cl ow)))->Q (.ref t) H')->ι  vs H Q
def G6:Sp:=λvs H Q _=>ι  vs H Q
theorem xN:bootBuiltins "list"=some (.type "list"):=by decide+kernel
theorem nd5:(["due","number","holder","sacks","share"]:ó).Nodup:=by decide+kernel
theorem ϐ:Ã ["wool","claims","owed","shares","rows","gifts","lacking"] ["wool","claims","owed"] (az (top 58)):=ú
theorem G7(F:ß K "sort_given" "sort_given" (top 58) f fd)(Ts:mg "sum"=none)(Tl:mg "list"=none)(Tz:mg "zip"=none)(c1:á P w K mg base 7 "shares_of" ["wool","claims"] xM)(c2:á P w K mg base 1 "made_good" ["wool","owed"] G5):Ê P w K mg base Þ 8 f fd ["wool","claims","owed"] G6:=by
 refine F.oq ϐ λcdv A outer s H vs Q E hr h=>?_;obtain⟨w0,lc,xc,cl,lo,xo,ow,rfl,ec,D7,PZ,U3,hw,eo,sx,P1,U4,q⟩:=h;refine⟨_,aB (ě 3 ϐ.nd (cH uC rfl Tl xN (aq (aG c1 hr (aq (pv 0) (aq (pv 1) aj))) aj))) (aB (ě 4 ϐ.nd (aQ jg (pv 1) (pv 2))) (aB (lw (i:=3) ϐ.nd rfl (Or.inl rfl) (aG c2 hr (aq (aQ dZ (pv 0) (aK (gR rfl) rfl Ts Ă (aq (pv 3) aj))) (aq (pv 2) aj))) nZ) (aB (jU (g:=lR K 2 (bZ (lR K 4 (bZ (bH 0) (bZ (bH 1) (bZ (bH 2) (bZ (bH 3) nH))))) (bZ (bH 4) nH))) (i:=5) ["due","number","holder","sacks","share"] [none,none,none,none,none] rfl ϐ.nd rfl (Or.inl rfl) (ZT.pi_zip false false rfl Tz (aq (pv 4) (aq (pv 3) aj))) (λC fp Â s₂ Ü=>⟨dX rfl rfl (ao (dX rfl rfl (ao (Ô 0 nd5) (ao (Ô 1 nd5) (ao (Ô 2 nd5) (ao (Ô 3 nd5) aX))))) (ao (Ô 4 nd5) aX)),jT (aY jw (pv 4) au (aW _)),bB (aq (pv 0) (aq (pv 1) (aq (pv 2) (aq (pv 4) aj))))⟩) (λC=>trivial) ⟨rfl,rfl,rfl,rfl⟩) (aB (jU (g:=lR K 2 (bZ (lR K 4 (bZ (bH 0) (bZ (bH 1) (bZ (bH 2) (bZ (bH 3) nH))))) (bZ (bH 4) nH))) (i:=6) ["due","number","holder","sacks","share"] [none,none,none,none,none] rfl ϐ.nd rfl (Or.inl rfl) (ZT.pi_zip false false rfl Tz (aq (pv 4) (aq (pv 3) aj))) (λC fp Â s₂ Ü=>⟨dX rfl rfl (ao (dX rfl rfl (ao (Ô 0 nd5) (ao (Ô 1 nd5) (ao (Ô 2 nd5) (ao (Ô 3 nd5) aX))))) (ao (Ô 4 nd5) aX)),jT (aY jw (pv 3) (pv 4) (aW _)),bB (aq (pv 0) (aq (pv 1) (aq (pv 2) (aq (aQ dZ (pv 3) (pv 4)) aj))))⟩) (λC=>trivial) ⟨rfl,rfl,rfl,rfl⟩) (aF (aP (bB (aq (pv 5) (aq (pv 6) aj))))))))),?_⟩;refine iz λc_ gy=>?_;refine aR ?_;refine⟨_,rfl,_,rfl,w0,lc,xc,cl,rfl,ec,D7,PZ,U3,hw,λt H1 s1 et=>⟨t,_,rfl,.inr (Ì.of et),λls D8=>?_⟩⟩;have s2:=s1.updR (o:=.lst ((bO w0 cl).map V.int)) D8;have U5:H ls=none:=s1.free D8;have cm:=aa (H:=H1) (a:=ls) (o:=.lst ((bO w0 cl).map V.int));generalize upd H1 ls (.lst ((bO w0 cl).map V.int))=H2 at s2 cm⊢;refine aJ ?_;refine gy _ _ ?_;clear gy c_;try dsimp only
 refine iz λc_ gy=>?_;refine aR ?_;refine⟨_,rfl,_,rfl,lc,lo,xc,xo,rfl,rfl,s2 _ _ ec,s2 _ _ eo,by rw[D7.1,sx.1,sizeLine_eq];lia,λlr kU=>?_⟩;have s3:=s2.updR (o:=.lst (xc++xo)) kU;have nlr:H lr=none:=s2.free kU;have sC:=Á.upd (o:=.lst (xc++xo)) kU _ _ cm;have LS:=aa (H:=H2) (a:=lr) (o:=.lst (xc++xo));have U6:lr≠ls:=λz=>by rw[z,cm]at kU;cases kU
 generalize upd H2 lr (.lst (xc++xo))=H3 at s3 sC LS⊢;refine aJ ?_;refine gy _ _ ?_;clear gy c_;try dsimp only
 refine iz λc_ gy=>?_;refine⟨_,rfl,_,rfl,_,rfl,ls,bO w0 cl,rfl,.inl (Ï.of sC),_,_,rfl,rfl,_,rfl,_,lo,xo,ow,rfl,s3 _ _ eo,sx.same s3,P1,À,λm H4 s4 nm em=>?_⟩;refine⟨ls,m,_,_,rfl,rfl,s4 _ _ sC,em,by rw[Ý,Ý,Đ,j8,sizeLine_eq];lia,?_⟩;have P2:(bO w0 cl).map V.int++(dI (w0-(bO w0 cl).sum) ow).map V.int=(ę w0 cl ow).map V.int:=by unfold ę;rw[Ħ]
 rw[P2];have yT:(ę w0 cl ow).length=(cl++ow).length:=by unfold ę;rw[ý,ý,Đ,j8]
 generalize ę w0 cl ow=SH at q yT;refine gy _ _ ?_;clear gy c_;try dsimp only
 have k5:Á H (upd H4 ls (.lst (SH.map V.int))):=λb o e=>by rw[aA (aD e U5)];exact s4 _ _ (s3 _ _ e)
 have oI:=aa (H:=H4) (a:=ls) (o:=.lst (SH.map V.int));have js:upd H4 ls (.lst (SH.map V.int)) lr=some (.lst (xc++xo)):=by rw[aA U6];exact s4 _ _ LS
 generalize upd H4 ls (.lst (SH.map V.int))=H5 at k5 oI js⊢;have AZ:î H (xc++xo) (cl++ow):=D7.app sx;have P4:∀r∈cl++ow,r.length=4:=λr hr=>(Ą.mp hr).elim (λz=>(PZ r z).1) (P1 r);have U7:(cl++ow).length<=20000:=by rw[ý];lia
 generalize xc++xo=xr at js AZ;generalize cl++ow=rr at q yT AZ P4 U7;clear cm sC LS P2 s1 s2 s3 s4 em et;obtain⟨ZP,P5⟩:∃ZP,ZP=rr.zip SH:=⟨_,rfl⟩;rw[<-P5]at q;have sF:ZP.length=rr.length:=by rw[P5,zAs,yT,Nat.min_self]
 have yY:∀i(h:i<ZP.length),rr[i]?=some ZP[i].1:=λi h=>by simp_all
 have D9:∀i(h:i<ZP.length),SH[i]?=some ZP[i].2:=λi h=>by simp_all
 have Ee:∀i(h:i<ZP.length),(ZP[i].1).length=4:=λi h=>P4 _ (Ŋ (yY i h));refine iz λc_ gy=>?_;refine⟨_,rfl,_,rfl,lr,ls,xr,_,rfl,Ï.of js,Ï.of oI,j9 rr.length (λi ys σ Hc=>Á H5 Hc/\(∃o1 o2 o3 o4 o5,σ=[o1,o2,o3,o4,o5])/\î Hc ys (iu (ZP.take i))) ⟨Á.refl _,⟨_,_,_,_,_,rfl⟩,î.nil⟩ ϻ ?_ ?_⟩
 .rintro i ys σ Hc hi hy⟨sc,⟨o1,o2,o3,o4,o5,rfl⟩,ht⟩;have hP:i<ZP.length:=by rw[sF];exact hi
  obtain⟨tr,ex,et⟩:=AZ.2 i ZP[i].1 (yY i hP);have er:Ï K Hc lr xr:=Ï.of (sc _ _ js);have es:Ï K Hc ls (SH.map V.int):=Ï.of (sc _ _ oI);have uS:(SH.map V.int)[i]?=some (.int ZP[i].2):=by rw[ģ,D9 i hP];rfl
  have fI:ZP.take (i+1)=ZP.take i++[ZP[i]]:=by rw[ŋ,é hP];rfl
  have EA:=sc _ _ (k5 _ _ et);rw[dW (Ee i hP)]at EA;refine⟨⟨_,_,_,_,er,es,ex,uS⟩,λx H' yv R hR=>?_⟩;obtain⟨T0,nT,rfl,yv⟩:=yv;obtain⟨x',y',yi,y6,rfl⟩:=yv _ _ er es;rw[ex]at yi;cases yi;rw[uS]at y6;cases y6;have va:=sc.updR (o:=.tup [.ref tr,.int ZP[i].2]) nT;refine⟨T0,_,rfl,Ì.of aa,rfl,_,_,rfl,?_⟩;refine⟨tr,_,rfl,Ì.of (Á.upd nT _ _ EA),rfl,_,_,rfl,_,_,rfl,_,_,rfl,_,_,rfl,rfl,?_⟩;refine⟨_,_,rfl,rfl,?_⟩;refine⟨_,rfl,_,_,rfl,rfl,_,rfl,?_⟩;by_cases ay:0<ZP[i].2;.rw[è ay];refine bj ⟨_,rfl,_,rfl,_,rfl,_,rfl,zL,λt kP=>hR _ _ _ (by rw[ý];show ys.length+1<=i+1;grind) ⟨va.updR kP,⟨_,_,_,_,_,rfl⟩,?_⟩⟩;rw[fI,u6,Í ay];exact(((ht.same (Á.upd nT)).same (Á.upd kP))).app (î.one aa)
  .rw[ĉ ay];refine aZ (hR _ _ _ À ⟨va,⟨_,_,_,_,_,rfl⟩,?_⟩);rw[fI,u6,Ë ay,ļ];exact ht.same (Á.upd nT)
 rintro ys σ Hc hy⟨sc,_,ht⟩;rw[<-sF,Ľ]at ht;refine⟨⟨_,Ï.of (sc _ _ js),by rw[AZ.1];exact Ø _⟩,λg hg=>?_⟩;have k6:=(k5.trans sc).updR (o:=.lst ys) hg;have ng:H g=none:=(k5.trans sc).free hg;have eg:=aa (H:=Hc) (a:=g) (o:=.lst ys);have mw:=ht.same (Á.upd (o:=.lst ys) hg);have sM:=Á.upd (o:=.lst ys) hg _ _ (sc _ _ js);have y7:=Á.upd (o:=.lst ys) hg _ _ (sc _ _ oI);generalize upd Hc g (.lst ys)=H6 at k6 eg mw sM y7⊢;clear sc ht hy oI js k5;refine gy _ _ ?_;clear gy c_;try dsimp only
 refine iz λc_ gy=>?_;refine⟨_,rfl,_,rfl,lr,ls,xr,_,rfl,Ï.of sM,Ï.of y7,j9 rr.length (λi ys σ Hc=>Á H6 Hc/\(∃o1 o2 o3 o4 o5,σ=[o1,o2,o3,o4,o5])/\î Hc ys (iG (ZP.take i))) ⟨Á.refl _,⟨_,_,_,_,_,rfl⟩,î.nil⟩ ϻ ?_ ?_⟩
 .rintro i ys σ Hc hi hy⟨sc,⟨o1,o2,o3,o4,o5,rfl⟩,ht⟩;have hP:i<ZP.length:=by rw[sF];exact hi
  obtain⟨tr,ex,et⟩:=AZ.2 i ZP[i].1 (yY i hP);have er:Ï K Hc lr xr:=Ï.of (sc _ _ sM);have es:Ï K Hc ls (SH.map V.int):=Ï.of (sc _ _ y7);have uS:(SH.map V.int)[i]?=some (.int ZP[i].2):=by rw[ģ,D9 i hP];rfl
  have fI:ZP.take (i+1)=ZP.take i++[ZP[i]]:=by rw[ŋ,é hP];rfl
  have EA:=sc _ _ (k6 _ _ et);rw[dW (Ee i hP)]at EA;refine⟨⟨_,_,_,_,er,es,ex,uS⟩,λx H' yv R hR=>?_⟩;obtain⟨T0,nT,rfl,yv⟩:=yv;obtain⟨x',y',yi,y6,rfl⟩:=yv _ _ er es;rw[ex]at yi;cases yi;rw[uS]at y6;cases y6;have va:=sc.updR (o:=.tup [.ref tr,.int ZP[i].2]) nT;refine⟨T0,_,rfl,Ì.of aa,rfl,_,_,rfl,?_⟩;refine⟨tr,_,rfl,Ì.of (Á.upd nT _ _ EA),rfl,_,_,rfl,_,_,rfl,_,_,rfl,_,_,rfl,rfl,?_⟩;refine⟨_,_,rfl,rfl,?_⟩;refine⟨_,rfl,_,rfl,_,_,rfl,rfl,_,rfl,?_⟩;by_cases ay:ZP[i].2<fl ZP[i].1 3;.rw[è ay];refine bj ⟨_,rfl,_,rfl,_,rfl,_,rfl,_,rfl,_,_,rfl,rfl,zL,λt kP=>hR _ _ _ (by rw[ý];show ys.length+1<=i+1;lia) ⟨va.updR kP,⟨_,_,_,_,_,rfl⟩,?_⟩⟩;rw[fI,qX,Í ay];exact(((ht.same (Á.upd nT)).same (Á.upd kP))).app (î.one aa)
  .rw[ĉ ay];refine aZ (hR _ _ _ À ⟨va,⟨_,_,_,_,_,rfl⟩,?_⟩);rw[fI,qX,Ë ay,ļ];exact ht.same (Á.upd nT)
 rintro LU σ Hc hy⟨sc,_,ht⟩;rw[<-sF,Ľ]at ht;refine⟨⟨_,Ï.of (sc _ _ sM),by rw[AZ.1];exact Ø _⟩,λk hk=>?_⟩;have k7:=(k6.trans sc).updR (o:=.lst LU) hk;have nk:H k=none:=(k6.trans sc).free hk;have sk:=Á.upd (o:=.lst LU) hk;refine gy _ _ ?_;clear gy c_;try dsimp only
 refine⟨_,rfl,_,rfl,zL,λt kP=>?_⟩;have st:=Á.upd (o:=.tup [.ref g,.ref k]) kP;exact q t g k ys LU _ (k7.trans st) aa ng nk (st _ _ (sk _ _ (sc _ _ eg))) (((mw.same sc).same sk).same st) (st _ _ aa) ((ht.same sk).same st)
abbrev ky(n y:Int):List Key:=[.inl n,.inl y]
theorem vm(h:ky n y=ky n' y'):n=n'/\y=y':=by injection h with h1 h2;injection h2 with h2 _;injection h1 with h1;injection h2 with h2;exact⟨h1,h2⟩
def Ρ(ps:UV)(n y:Int):Prop:=0<=n/\n<ps.length/\fl (ps.getD n.toNat []) 2<=y/\y<=fl (ps.getD n.toNat []) 3
def hl(ps ss:UV)(n y:Int):VV:=cO (ps.getD n.toNat []) ss n y
structure ţ(fo:Addr)(H0 H:Hp)(dm:Int->Int->Prop)(f:Int->Int->VV)(kvs:List (List Key×V)):Prop where
 sm:Á H0 H
 nf:H0 fo=none
 e:H fo=some (.dT kvs)g:∀n y,dm n y->∃d,dM kvs (ky n y)=some (.ref d)/\H d=some (.lst ((f n y).map V.int))no:∀n y,¬dm n y->dM kvs (ky n y)=none
 i:∀n y n' y' d,dM kvs (ky n y)=some (.ref d)->dM kvs (ky n' y')=some (.ref d)->n=n'/\y=y'
 fr:∀n y d,dM kvs (ky n y)=some (.ref d)->H0 d=none/\d≠fo
 kd:(kvs.map (·.1)).Nodup
 kk:∀k∈kvs.map (·.1),∃n y,k=ky n y/\dm n y
theorem Je{k:List Key}(h:dM kvs k=none):¬k∈kvs.map (·.1):=λhk=>by
 obtain⟨p,hp,e⟩:=Ā.mp hk;have:(dM kvs k).isSome=true:=by rw[<-ig,List.any_eq_true];exact⟨p,hp,è e⟩
 rw[h]at this;cases this
theorem G8{k:List Key}(hn:(kvs.map (·.1)).Nodup)(h:dM kvs k=none):((ā kvs k v).map (·.1)).Nodup:=by rw[qm _ h,Ħ,List.nodup_append];refine⟨hn,Ò,λa ha b hb z=>?_⟩;rw[Ũ.mp hb]at z;have z':a=k:=z;rw[z']at ha;exact Je h ha
section
theorem ţ.same(g:ţ fo H0 H dm f kvs)(s:Á H H'):ţ fo H0 H' dm f kvs:=⟨g.sm.trans s,g.nf,s _ _ g.e,λn y h=>by obtain⟨d,e1,e2⟩:=g.g n y h;exact⟨d,e1,s _ _ e2⟩,g.no,g.i,g.fr,g.kd,g.kk⟩
theorem ţ.wr(g:ţ fo H0 H dm f kvs)(hv:dM kvs (ky N Y)=some (.ref d))(h1:f' N Y=L)(h2:∀n y,dm n y->¬(n=N/\y=Y)->f' n y=f n y):ţ fo H0 (upd H d (.lst (L.map V.int))) dm f' kvs:=by
 obtain⟨w1,w2⟩:=g.fr _ _ _ hv;refine⟨λc o e=>by rw[aA (aD e w1)];exact g.sm _ _ e,g.nf,by rw[aA w2.symm];exact g.e,λn y hd=>?_,g.no,g.i,g.fr,g.kd,g.kk⟩;by_cases hk:n=N/\y=Y;.obtain⟨rfl,rfl⟩:=hk;exact⟨d,hv,by rw[aa,h1]⟩
 .obtain⟨d',q1,q2⟩:=g.g n y hd;have nd:d'≠d:=λz=>hk (g.i _ _ _ _ _ (z▸q1) hv);exact⟨d',q1,by rw[aA nd,h2 n y hd hk];exact q2⟩
theorem ţ.cast(g:ţ fo H0 H dm f kvs)(h:∀n y,dm n y->f' n y=f n y):ţ fo H0 H dm f' kvs:=⟨g.sm,g.nf,g.e,λn y hd=>by obtain⟨d,e1,e2⟩:=g.g n y hd;exact⟨d,e1,by rw[h n y hd];exact e2⟩,g.no,g.i,g.fr,g.kd,g.kk⟩
theorem ţ.put(g:ţ fo H0 H dm f kvs)(sH:Á H H')(EB:H d=none)(ed:H' d=some (.lst (L.map V.int)))(hL:f N Y=L)(hn:¬dm N Y)(EC:∀n y,P6 n y↔(dm n y\/(n=N/\y=Y))):ţ fo H0 (upd H' fo (.dT (ā kvs (ky N Y) (.ref d)))) P6 f (ā kvs (ky N Y) (.ref d)):=by
 have P7:d≠fo:=λz=>by rw[z,g.e]at EB;cases EB
 have kp:∀b o,b≠fo->H b=some o->upd H' fo (.dT (ā kvs (ky N Y) (.ref d))) b=some o:=λb o n e=>by rw[aA n];exact sH _ _ e
 have nn:=g.no N Y hn;refine⟨λb o e=>kp b o (aD e g.nf) (g.sm _ _ e),g.nf,aa,λn y z=>?_,λn y z=>?_,λn y n' y' d' z z'=>?_,λn y d' z=>?_,G8 g.kd nn,λk hk=>?_⟩
 .by_cases hk:ky n y=ky N Y;.obtain⟨rfl,rfl⟩:=vm hk;exact⟨d,by rw[jz,Í rfl],by rw[aA P7,hL];exact ed⟩
  .have hd:=((EC n y).mp z).resolve_right λw=>hk (by rw[w.1,w.2]);obtain⟨d',q1,q2⟩:=g.g n y hd;exact⟨d',by rw[jz,Ë hk];exact q1,kp _ _ (g.fr n y d' q1).2 q2⟩
 .have hk:¬ky n y=ky N Y:=λw=>z ((EC n y).mpr (.inr (vm w)));rw[jz,Ë hk];exact g.no n y λw=>z ((EC n y).mpr (.inl w))
 .have key:∀{n y},dM kvs (ky n y)=some (.ref d)->False:=λ{n y}w=>by
   by_cases hd:dm n y;.obtain⟨d'',q1,q2⟩:=g.g n y hd;rw[w]at q1;cases q1;rw[q2]at EB;cases EB
   .rw[g.no n y hd]at w;cases w
  rw[jz]at z z';by_cases h1:ky n y=ky N Y<;>by_cases h2:ky n' y'=ky N Y;.obtain⟨rfl,rfl⟩:=vm h1;obtain⟨rfl,rfl⟩:=vm h2;exact⟨rfl,rfl⟩
  .rw[Í h1]at z;rw[Ë h2]at z';cases z;exact(key z').elim
  .rw[Ë h1]at z;rw[Í h2]at z';cases z';exact(key z).elim
  .rw[Ë h1]at z;rw[Ë h2]at z';exact g.i _ _ _ _ _ z z'
 .rw[jz]at z;by_cases h1:ky n y=ky N Y;.rw[Í h1]at z;cases z;exact⟨g.sm.free EB,P7⟩
  .rw[Ë h1]at z;exact g.fr n y d' z
 .rw[qm _ nn,Ħ]at hk;rcases Ą.mp hk with z|z;.obtain⟨n,y,a,b⟩:=g.kk k z;exact⟨n,y,a,(EC n y).mpr (.inl b)⟩
  .rw[Ũ.mp z];exact⟨N,Y,rfl,(EC N Y).mpr (.inr ⟨rfl,rfl⟩)⟩
end
inductive ξ(vs:List V)(H:Hp)(Q:VK):Prop|mk:∀ap xp ps af xs ss,(vs=[.ref ap,.ref af])->(RowsAt H ap xp ps)->(ps.length<=10)->((∀r∈ps,okP r))->(RowsAt H af xs ss)->(ss.length<=100)->((∀s∈ss,s.length=5))->(∀t fo H',Á H H'->H' t=some (.tup [.ref fo,unV (un ps ss)])->(un ps ss=none->∃kvs,ţ fo H H' (Ρ ps) (hl ps ss) kvs)->Q (.ref t) H')->ξ  vs H Q
def spRows:Sp:=λvs H Q _=>ξ  vs H Q
def G9(p:VV):VV:=(List.range 8).map λi=>fl p 4*(if((i:Nat):Int)=fl p 0 then 1 else 0)
theorem Jf(op:okP (ps.getD n.toNat []))(hy:fl (ps.getD n.toNat []) 2<=y/\y<=fl (ps.getD n.toNat []) 3):hl ps [] n y=G9 (ps.getD n.toNat []):=by unfold hl cO;rw[Í hy];show ĝ (ps.getD n.toNat [])=G9 _;generalize ps.getD n.toNat []=p at op;obtain⟨_,⟨a,b⟩,_⟩:=op;unfold ĝ G9;obtain⟨h,eh⟩:∃h:Nat,fl p 0=h:=⟨(fl p 0).toNat,À⟩;rw[eh];have:h=0\/h=1\/h=2\/h=3\/h=4\/h=5\/h=6\/h=7:=À;rcases this with rfl|rfl|rfl|rfl|rfl|rfl|rfl|rfl<;>simp[List.range_succ,List.replicate]
theorem Ga(ps ss:UV)(n y:Int):(hl ps ss n y).length=8:=gW _ _ _ _
theorem Jg(hd:Ρ ps n y):hl ps (ss++[s]) n y=ï n y (hl ps ss n y) s:=by unfold hl cO;rw[Í hd.2.2,Í hd.2.2,List.foldl_append];rfl
theorem ϓ(ea:fl s 0=n)(eb:fl s 1=a)(ec:fl s 2=b)(ed:fl s 3=k)(ee:fl s 4=y):cN ps sa s=true↔(Ρ ps n y/\(0<=a/\a<8)/\(0<=b/\b<8)/\a≠b/\(1<=k/\k<=99))/\∀z,Ρ ps n z->y<=z->k<=(hl ps sa n z).getD a.toNat 0:=by
 have em:∀{u v z:Int},z∈years u v↔u<=z/\z<=v:=λ{u v z}=>by
  unfold years;rw[Ā];constructor;.rintro⟨i,hi,rfl⟩;have:=ϡ.mp hi;grind
  .rintro⟨h1,h2⟩;exact⟨(z-u).toNat,ϡ.mpr À,À⟩
 unfold cN xK vg;rw[ea,eb,ec,ed,ee];simp only[Bool.and_eq_true,ċ,Bool.not_eq_true',decide_eq_false_iff_not,List.all_eq_true];unfold Ρ;constructor;.rintro⟨⟨h1,h2,h3,h4,h5,h6⟩,h7⟩;exact⟨⟨⟨h1.1,h1.2,h6.1,h6.2⟩,h2,h3,h4,h5⟩,λz hz hy=>h7 z (em.mpr ⟨hy,hz.2.2.2⟩)⟩
 .rintro⟨⟨h1,h2,h3,h4,h5⟩,h7⟩;exact⟨⟨⟨h1.1,h1.2.1⟩,h2,h3,h4,h5,h1.2.2⟩,λz hz=>by obtain⟨q1,q2⟩:=em.mp hz;exact h7 z ⟨h1.1,h1.2.1,z03,q2⟩ q1⟩
def yk(n y:Int)(p:List Key×V):Option Int:=match p.1 with|[.inl n',.inl z]=>if n'=n/\y<=z then some z else none|_=>none
theorem u9:bootBuiltins "min"=some (.builtin "min"):=by decide+kernel
theorem Di:bootBuiltins "max"=some (.builtin "max"):=by decide+kernel
theorem Qa:([ϣ,ABa,"_law_holder"]:ó).Nodup:=by decide+kernel
theorem Oz:(["_law_number_of",ϣ,AAw,ť]:ó).Nodup:=by decide+kernel
theorem Qd:([ϣ,"_law_rows_here",AAw,"_law_seller"]:ó).Nodup:=by decide+kernel
theorem ś:Ã [ϥ,AAu,"_law_rows_here",AAw,"_law_holder","_law_sort","_law_first","_law_last",ABa,"_law_price",ť,"_law_at","_law_seller","_law_buyer",Ϻ,"_law_least",ϣ] [ϥ,AAu] (az (top 79)):=ú
theorem Jh(F:ß K "_law_rows" "_law_rows" (top 79) f fd)(T:Mg mg)(Te:mg "enumerate"=none)(Tr:mg "range"=none)(Tn:mg "min"=none)(Tm:mg "max"=none):Ê P w K mg base Þ 1 f fd [ϥ,AAu] spRows:=by
 refine F.oq ś λcdv A outer s H vs Q E hr h=>?_;obtain⟨ap,xp,ps,af,xs,ss,rfl,rp,lp,okp,rs,ls,h5,q⟩:=h;refine K33P.ok_b (aH (yE (i:=2) ś.nd rfl (Or.inr rfl) ⟨DY⟩) (aH ⟨cG ň rfl (ZT.pi_enum true rfl Te (aq (pv 0) aj)) (bR rfl (ao (bx (i:=3) ś.nd rfl (Or.inr rfl)) (ao (bR rfl (ao (bx (i:=4) ś.nd rfl (Or.inr rfl)) (ao (Ô 5 ś.nd) (ao (Ô 6 ś.nd) (ao (Ô 7 ś.nd) (ao (bx (i:=8) ś.nd rfl (Or.inr rfl)) (ao (Ô 9 ś.nd) aX))))))) aX))) (kW (bz ⟨cG ň rfl (sG rfl Tr (aq (pv 6) (aq (aQ bU (pv 7) au) aj))) (bx (i:=10) ś.nd rfl (Or.inr rfl)) (kW (bz ⟨HY (qe hr) (pv 2) (bB (aq (pv 3) (aq (pv 10) aj))) (bY [ϣ,ABa,"_law_holder"] [none,some 8,some 4] rfl (cY rfl Tr (aq au aj)) (λC fp Â s₂ Ü=>⟨Ô 0 Qa,bW,aQ gZ (pv 1) (cH Bv rfl T.int Ņ (aq (gj iQ (pv 0) (pv 2) (aW _)) aj))⟩) (λC=>cI (cI trivial)) ⟨rfl,rfl,rfl,rfl⟩) rfl⟩))⟩))⟩ (aH ⟨cG ň rfl (ZT.pi_enum true rfl Te (aq (pv 1) aj)) (bR rfl (ao (Ô 11 ś.nd) (ao (bR rfl (ao (bx (i:=3) ś.nd rfl (Or.inr rfl)) (ao (bx (i:=12) ś.nd rfl (Or.inr rfl)) (ao (Ô 13 ś.nd) (ao (bx (i:=8) ś.nd rfl (Or.inr rfl)) (ao (bx (i:=10) ś.nd rfl (Or.inr rfl)) aX)))))) aX))) (kW (aH ⟨bT (PW.pt (iM (aY iQ (pv 12) (pv 13) (aW _)) (iM (aY oO (aK (iR rfl) rfl Tn u9 (aq (pv 12) (aq (pv 13) aj))) au (aW _)) (iM (aY jw (aK (jR rfl) rfl Tm Di (aq (pv 12) (aq (pv 13) aj))) au (aW _)) (je (Kq (BP (qe hr) (bB (aq (pv 3) (aq (pv 10) aj))) (pv 2)))))))) (aF (aP (bB (aq (pv 2) (aq (pv 11) aj))))) bf⟩ (aH ⟨Lj (jU (i:=14) (g:=lR K 2 (bZ (bH 0) (bZ (bH 1) nH))) ["_law_number_of",ϣ,AAw,ť] [none,none,some 3,some 10] rfl ś.nd rfl (Or.inl rfl) (Iw (pv 2)) (λC fp Â s₂ Ü=>⟨dX rfl rfl (ao (Ô 0 Oz) (ao (Ô 1 Oz) aX)),jT (PW.pt (iI (aY iQ (pv 0) (pv 2) (aW _)) (jP (aY JT (pv 1) (pv 3) (aW _))))),pv 1⟩) (λC=>cI (cI trivial)) ⟨rfl,rfl,rfl,rfl⟩)⟩ (aH (fX 15 ś.nd ⟨aK (rR rfl) rfl Tn u9 (aN (bY [ϣ,"_law_rows_here",AAw,"_law_seller"] [none,some 2,some 3,some 12] rfl (dC (pv 14)) (λC fp Â s₂ Ü=>⟨Ô 0 Qd,bW,pX (xH (K:=K) rfl) (mj (qe hr) (pv 1) (bB (aq (pv 2) (aq (pv 0) aj))) (λ_ _=>rfl)) (pv 3)⟩) (λC=>cI (cI (cI trivial))) ⟨rfl,rfl,rfl,rfl⟩) aj)⟩) (aH ⟨bT (PW.pt (iM (cj (pW cD cD au (pv 8) au)) (je (aY oO (pv 15) (pv 8) (aW _))))) (aF (aP (bB (aq (pv 2) (aq (pv 11) aj))))) bf⟩ (bz ⟨cG ň rfl (dC (pv 14)) (Ô 16 ś.nd) (kW (aH ⟨cP (aQ dZ (pX bM (mj (qe hr) (pv 2) (bB (aq (pv 3) (aq (pv 16) aj))) (λ_ _=>rfl)) (pv 12)) (pv 8)) (nJ (mj (qe hr) (pv 2) (bB (aq (pv 3) (aq (pv 16) aj))) (λ_ _=>rfl)) (pv 12) æ)⟩ (bz ⟨cP (aQ bU (pX bM (mj (qe hr) (pv 2) (bB (aq (pv 3) (aq (pv 16) aj))) (λ_ _=>rfl)) (pv 13)) (pv 8)) (nJ (mj (qe hr) (pv 2) (bB (aq (pv 3) (aq (pv 16) aj))) (λ_ _=>rfl)) (pv 13) æ)⟩)))⟩))))))⟩ (bz (fW ⟨bB (aq (pv 2) (aq lu aj))⟩))))) ?_;refine aC (aR ?_);refine λfo P8=>?_;refine aJ ?_;dsimp only;have d0:ţ fo H (upd H fo (.dT [])) (λ_ _=>False) (hl ps []) []:=⟨Á.upd P8,P8,aa,λ_ _ z=>z.elim,λ_ _ _=>rfl,λ_ _ _ _ _ z=>(by cases z),λ_ _ _ z=>(by cases z),List.nodup_nil,λk hk=>(by cases hk)⟩;generalize upd H fo (.dT [])=H1 at d0⊢;refine aC ?_;refine⟨_,rfl,ap,xp,rfl,Ì.of (d0.sm _ _ rp.e),?_⟩;refine ZT.for_enum true (xs:=xp) (λi σ Hc=>Xe15 λx3 x4 x5 x6 x7 x8 x9 fw fS f7 gc gg gi jv kvs=>Xa3 (σ=[some (.ref ap),some (.ref af),some (.ref fo),x3,x4,x5,x6,x7,x8,x9,fw,fS,f7,gc,gg,gi,jv]) (ţ fo H Hc (λn y=>Ρ ps n y/\n<i) (hl ps []) kvs) (kvs.length<=20*i)) ?_ ?_ ?_ ?_;.exact⟨none,none,none,none,none,none,none,none,none,none,none,none,none,none,[],rfl,⟨d0.sm,d0.nf,d0.e,λn y z=>by have:=z.1.1;have:=z.2;lia,λn y _=>rfl,d0.i,d0.fr,d0.kd,λk hk=>(by cases hk)⟩,Ø _⟩
 .rintro i σ Hc hi⟨x3,x4,x5,x6,x7,x8,x9,fw,fS,f7,gc,gg,gi,jv,kvs,rfl,dt,lk⟩;exact Ì.of (dt.sm _ _ rp.e)
 .rintro i x σ Hc T0 hx⟨x3,x4,x5,x6,x7,x8,x9,fw,fS,f7,gc,gg,gi,jv,kvs,rfl,dt,lk⟩nT;have hi:i<ps.length:=by have:=(ġ.mp hx).1;rw[rp.l]at this;exact this
  obtain⟨tr,fv,bp⟩:=rp.g i ps[i] (é hi);have:x=.ref tr:=by rw[hx]at fv;exact ĭ fv
  subst this;have op:=okp ps[i] (į hi);have ep:ps.getD ((i:Int)).toNat []=ps[i]:=by rw[Ϟ];exact ð hi
  have dT:=dt.same (Á.upd (o:=.tup [V.int i,V.ref tr]) nT);generalize hpi:ps[i]=p at bp op ep;have A0:=dT.sm _ _ bp;rw[six_row op.1]at A0;have U8:=op;obtain⟨_,⟨a1,a2⟩,_,⟨c1,c2,c3⟩,⟨e1,e2⟩,_⟩:=op;refine⟨T0,_,rfl,Ì.of aa,rfl,_,_,rfl,_,_,rfl,?_⟩;refine⟨tr,_,rfl,Ì.of A0,rfl,_,_,rfl,_,_,rfl,_,_,rfl,_,_,rfl,_,_,rfl,_,_,rfl,rfl,rfl,?_⟩;refine rd_E λDe sN=>?_;refine⟨_,rfl,_,rfl,_,_,rfl,rfl,fl p 2,fl p 3+1,rfl,⟨À,À,À,À⟩,?_⟩;generalize upd Hc T0 (.tup [V.int i,V.ref tr])=H2 at dT⊢;refine eV (lo:=fl p 2) (n:=(fl p 3+1-fl p 2).toNat) (λj σ Hj=>∃fw kvs,σ=[some (.ref ap),some (.ref af),some (.ref fo),some (.int i),some (.int (fl p 0)),some (.int (fl p 1)),some (.int (fl p 2)),some (.int (fl p 3)),some (.int (fl p 4)),some (.int (fl p 5)),fw,fS,f7,gc,gg,gi,jv]/\ţ fo H Hj (λn y=>Ρ ps n y/\(n<i\/(n=i/\y<fl p 2+j))) (hl ps []) kvs/\kvs.length<=20*i+j) ?_ ?_ ?_
  .refine⟨fw,kvs,rfl,⟨dT.sm,dT.nf,dT.e,λn y z=>dT.g n y ⟨z.1,?_⟩,λn y z=>dT.no n y λz'=>z ⟨z'.1,.inl z'.2⟩,dT.i,dT.fr,dT.kd,λk hk=>?_⟩,lk⟩
   .rcases z.2 with z2|⟨z2,z3⟩;.exact z2
    .obtain⟨_,_,w1,_⟩:=z.1;rw[z2,ep]at w1;lia
   .obtain⟨n,y,a,b⟩:=dT.kk k hk;exact⟨n,y,a,b.1,.inl b.2⟩
  .rintro j σ Hj hj⟨fw,kvs,rfl,dj,lj⟩;refine aJ ?_;refine rd_E λDe2 xb=>?_;refine⟨8,rfl,by decide,by decide,cX 8 (λi ys σ Hc=>Hc=Hj/\(∃o1,σ=[o1,some (.int (fl p 4)),some (.int (fl p 0))])/\ys=(((List.range i).map λi=>fl p 4*(if((i:Nat):Int)=fl p 0 then 1 else 0)):VV).map V.int) ⟨rfl,⟨_,rfl⟩,rfl⟩ (by rw[sizeLine_eq];decide) ?_ ?_⟩
   .rintro i' ys σ Hc kg hy⟨rfl,⟨o1,rfl⟩,rfl⟩;refine⟨kg,λv H' y' R hR=>?_⟩;obtain⟨rfl,rfl⟩:=y';refine aJ ?_;have z0:(0:Int)+(i':Int)=i':=Ò;rw[z0];refine⟨_,rfl,_,rfl,_,rfl,rfl,.inr ⟨_,rfl,_,_,rfl,rfl,.inl ⟨À,À⟩,hR _ _ _ ⟨rfl,⟨_,rfl⟩,?_⟩⟩⟩;rw[List.range_succ,Ħ,Ħ];congr 1;show[V.int _]=[V.int _];congr 2;dsimp only;by_cases hh:(i':Int)=fl p 0;.rw[Í hh,è (by rw[hh])];rfl
    .rw[Ë hh,ĉ (λz=>hh (by injection z))];rfl
   rintro ys σ Hc hy⟨rfl,_,rfl⟩;refine⟨Ø _,λd hd=>?_⟩;have ud:=Á.upd (o:=.lst ((G9 p).map V.int)) hd;have ed:=aa (H:=Hc) (a:=d) (o:=.lst ((G9 p).map V.int));refine⟨_,rfl,_,rfl,_,rfl,zL,λt ht=>⟨fo,_,rfl,ϵ.t (k:=ky i (fl p 2+j)) (Á.upd ht _ _ (ud _ _ dj.e)) aa ϻ,?_⟩⟩;have u2:=ud.updR (o:=.tup [V.int i,V.int (fl p 2+j)]) ht;refine xb _ _ ⟨_,_,rfl,dj.put u2 hd (Á.upd ht _ _ ed) (Jf (by rw[ep];exact U8) (by rw[ep];lia)|>.trans (by rw[ep])) (λz=>by rcases z.2 with z2|⟨z2,z3⟩<;>simp_all) (λn y=>⟨λz=>?_,λz=>?_⟩),?_⟩
   .rcases z.2 with z2|⟨z2,z3⟩;.exact .inl ⟨z.1,.inl z2⟩
    .by_cases uS:y=fl p 2+j;.exact .inr ⟨z2,uS⟩
     .exact .inl ⟨z.1,.inr ⟨z2,À⟩⟩
   .rcases z with z|⟨rfl,rfl⟩;.exact⟨z.1,z.2.imp id λw=>⟨w.1,z03⟩⟩
    .exact⟨⟨Ò,À,by rw[ep];lia,by rw[ep];grind⟩,.inr ⟨rfl,À⟩⟩
   .rw[qm _ (dj.no _ _ λz=>by rcases z.2 with z2|⟨z2,z3⟩<;>lia),ý];show kvs.length+1<=20*i+(j+1);lia
  .rintro σ Hj⟨fw,kvs,rfl,dj,lj⟩;refine sN _ _ ⟨_,_,_,_,_,_,_,_,_,_,_,_,_,_,kvs,rfl,⟨dj.sm,dj.nf,dj.e,λn y z=>dj.g n y ⟨z.1,?_⟩,λn y z=>dj.no n y λz'=>z ⟨z'.1,?_⟩,dj.i,dj.fr,dj.kd,λk hk=>?_⟩,À⟩
   .by_cases hn:n<i;.exact .inl hn
    .have xC:n=i:=À;refine .inr ⟨xC,?_⟩;obtain⟨_,_,_,w⟩:=z.1;rw[xC,ep]at w;lia
   .rcases z'.2 with w|⟨w,_⟩<;>omega
   .obtain⟨n,y,a,b⟩:=dj.kk k hk;refine⟨n,y,a,b.1,?_⟩;rcases b.2 with w|⟨w,_⟩<;>lia
 rintro σ Hc⟨x3,x4,x5,x6,x7,x8,x9,fw,fS,f7,gc,gg,gi,jv,Ĉ,rfl,dt,lk⟩;have LV:ţ fo H Hc (Ρ ps) (hl ps []) Ĉ:=⟨dt.sm,dt.nf,dt.e,λn y z=>dt.g n y ⟨z,by rw[rp.l];exact z.2.1⟩,λn y z=>dt.no n y λw=>z w.1,dt.i,dt.fr,dt.kd,λk hk=>by obtain⟨n,y,a,b⟩:=dt.kk k hk;exact⟨n,y,a,b.1⟩⟩;have lk0:Ĉ.length<=200:=by rw[rp.l]at lk;lia
 clear dt lk d0;dsimp only;refine aC ?_;refine⟨_,rfl,af,xs,rfl,Ì.of (LV.sm _ _ rs.e),?_⟩;refine ZT.for_enum true (xs:=xs) (λi σ Hc=>Xe14 λx3 x4 x5 x6 x7 x8 x9 fw fS f7 gc gg gi jv=>Xa3 (σ=[some (.ref ap),some (.ref af),some (.ref fo),x3,x4,x5,x6,x7,x8,x9,fw,fS,f7,gc,gg,gi,jv]) (ţ fo H Hc (Ρ ps) (hl ps (ss.take i)) Ĉ) (∀j,j<i->cN ps (ss.take j) (ss.getD j [])=true)) ?_ ?_ ?_ ?_;.exact⟨_,_,_,_,_,_,_,_,_,_,_,_,_,_,rfl,by rw[List.take_zero];exact LV,λj hj=>z03⟩
 .rintro i σ Hc hi⟨x3,x4,x5,x6,x7,x8,x9,fw,fS,f7,gc,gg,gi,jv,rfl,dt,hh⟩;exact Ì.of (dt.sm _ _ rs.e)
 .clear LV;rintro i x σ Hc T0 hx⟨x3,x4,x5,x6,x7,x8,x9,fw,fS,f7,gc,gg,gi,jv,rfl,dt,hh⟩nT;have hi:i<ss.length:=by have:=(ġ.mp hx).1;rw[rs.l]at this;exact this
  obtain⟨tr,fv,bp⟩:=rs.g i ss[i] (é hi);have:x=.ref tr:=by rw[hx]at fv;exact ĭ fv
  subst this;have eg:ss.getD i []=ss[i]:=ð hi;have fI:ss.take (i+1)=ss.take i++[ss[i]]:=by rw[ŋ,é hi];rfl
  have l5:=h5 _ (į hi);have dT:=dt.same (Á.upd (o:=.tup [V.int i,V.ref tr]) nT);have A0:=dT.sm _ _ bp;generalize Pe:ss[i]=s at eg fI l5 A0;generalize U9:ss.take i=sa at dT fI;have hH:cN ps sa s=cN ps (ss.take i) (ss.getD i []):=by rw[U9,eg]
  obtain⟨n,ea⟩:∃n,fl s 0=n:=⟨_,rfl⟩;obtain⟨a,eb⟩:∃n,fl s 1=n:=⟨_,rfl⟩;obtain⟨b,ec⟩:∃n,fl s 2=n:=⟨_,rfl⟩;obtain⟨k,ed⟩:∃n,fl s 3=n:=⟨_,rfl⟩;obtain⟨y,ee⟩:∃n,fl s 4=n:=⟨_,rfl⟩;have P9:upd Hc T0 (.tup [V.int i,V.ref tr]) tr=some (.tup [.int n,.int a,.int b,.int k,.int y]):=by rw[A0,nq l5,ea,eb,ec,ed,ee];rfl
  refine⟨T0,_,rfl,Ì.of aa,rfl,_,_,rfl,_,_,rfl,?_⟩;refine⟨tr,_,rfl,Ì.of P9,rfl,_,_,rfl,_,_,rfl,_,_,rfl,_,_,rfl,_,_,rfl,rfl,rfl,?_⟩;generalize upd Hc T0 (.tup [V.int i,V.ref tr])=H2 at dT⊢;clear dt nT A0 P9 bp;have bad:∀{Hd:Hp},Á H Hd->cN ps sa s=false->∀t,Hd t=none->Q (.ref t) (upd Hd t (.tup [.ref fo,.int i])):=λ{Hd}sd hf t ht=>by have eu:un ps ss=some i:=Aw hh hi (by rw[<-hH];exact hf);refine q t fo _ (sd.updR ht) (by rw[aa,eu];rfl) λz=>?_;rw[eu]at z;cases z
  have Qb:=ϓ (ps:=ps) (sa:=sa) ea eb ec ed ee;have jI:¬((Ρ ps n y/\(0<=a/\a<8)/\(0<=b/\b<8)/\a≠b/\(1<=k/\k<=99))/\∀z,Ρ ps n z->y<=z->k<=(hl ps sa n z).getD a.toNat 0)->cN ps sa s=false:=λh=>by cases z:cN ps sa s with|false=>rfl;|true=>exact absurd (Qb.mp z) h
  refine aC ?_;refine⟨_,rfl,_,rfl,rfl,_,rfl,?_⟩;by_cases GH:a=b;.rw[è (by rw[GH])];exact bj (bj ⟨_,rfl,_,rfl,zL,λt ht=>bad dT.sm (jI λh=>h.1.2.2.2.1 GH) t ht⟩)
  rw[ĉ (λz=>GH (by injection z))];refine aZ ⟨_,rfl,_,rfl,_,_,rfl,_,_,rfl,rfl,_,rfl,?_⟩;by_cases oQ:(if b<a then b else a)<0;.rw[è oQ];refine bj (bj ⟨_,rfl,_,rfl,zL,λt ht=>bad dT.sm (jI λh=>?_) t ht⟩);have:=h.1.2.1;have:=h.1.2.2.1;split at oQ<;>omega
  rw[ĉ oQ];refine aZ ⟨_,rfl,_,rfl,_,_,rfl,_,_,rfl,rfl,_,rfl,?_⟩;by_cases pb:(if b>a then b else a)>7;.rw[è pb];refine bj (bj ⟨_,rfl,_,rfl,zL,λt ht=>bad dT.sm (jI λh=>?_) t ht⟩);have:=h.1.2.1;have:=h.1.2.2.1;split at pb<;>omega
  rw[ĉ pb];have ha:0<=a/\a<8:=by split at oQ<;>split at pb<;>lia
  have hb:0<=b/\b<8:=by split at oQ<;>split at pb<;>lia
  refine aZ ⟨_,rfl,_,rfl,zL,λtk tw=>?_⟩;have dK:=dT.same (Á.upd (o:=.tup [V.int n,V.int y]) tw);refine⟨_,rfl,fo,_,rfl,Ĳ.t (k:=ky n y) dK.e aa,_,rfl,?_⟩;generalize upd H2 tk (.tup [V.int n,V.int y])=H3 at dK⊢;by_cases hd:¬Ρ ps n y;.rw[dK.no n y hd];exact bj ⟨_,rfl,_,rfl,zL,λt ht=>bad dK.sm (jI λh=>hd h.1.1) t ht⟩
  have hd:=Classical.not_not.mp hd;obtain⟨d1,v1,_⟩:=dK.g n y hd;rw[v1];refine aZ (bN ?_);dsimp only;clear v1 dT tw;refine aC ?_;refine⟨fo,Ĉ,dK.e,λob=>?_⟩;have ez:=aa (H:=H3) (a:=fo) (o:=.frz ob (.dT Ĉ));have kz:∀b u,b≠fo->H3 b=some u->upd H3 fo (.frz ob (.dT Ĉ)) b=some u:=λb u n e=>by rw[aA n];exact e
  generalize upd H3 fo (.frz ob (.dT Ĉ))=Hz at ez kz⊢;refine⟨_,rfl,fo,ob,_,rfl,ez,j9 Ĉ.length (λj ys σ Hd=>Á Hz Hd/\(∃o1 o2,σ=[o1,o2,some (.int n),some (.int y)])/\ys=((Ĉ.take j).filterMap (yk n y)).map V.int) ⟨Á.refl _,⟨_,_,rfl⟩,rfl⟩ ϻ ?_ ?_⟩
  .rintro j ys σ Hd hj hy⟨sd,⟨o1,o2,rfl⟩,rfl⟩;refine⟨⟨sd _ _ ez,hj⟩,λx H' yv R hR=>?_⟩;obtain⟨rfl,bb,kk,vv,rfl,Qg,LW⟩:=yv;obtain⟨n',z',rfl,y8⟩:=dK.kk kk (Ā.mpr ⟨(kk,vv),Ŋ Qg,rfl⟩);have LW:H' bb=some (.tup [.int n',.int z']):=LW;have LX:(Ĉ.take (j+1)).filterMap (yk n y)=(Ĉ.take j).filterMap (yk n y)++(if n'=n/\y<=z' then[z']else[]):=by
    rw[ŋ,Qg,List.filterMap_append];congr 1;have e0:yk n y (ky n' z',vv)=if n'=n/\y<=z' then some z' else none:=rfl;show[(ky n' z',vv)].filterMap (yk n y)=_;rw[Zak,e0];by_cases hc:n'=n/\y<=z';.rw[Í hc,Í hc];rfl
    .rw[Ë hc,Ë hc];rfl
   refine⟨bb,_,rfl,Ì.of LW,rfl,_,_,rfl,_,_,rfl,rfl,?_⟩;refine⟨_,rfl,_,rfl,rfl,_,rfl,?_⟩;by_cases h1:n'=n
   .rw[è (by rw[h1])];refine bj ⟨_,rfl,_,rfl,_,_,rfl,rfl,_,rfl,?_⟩;by_cases h2:z'≥y;.rw[è h2];refine bj ⟨_,rfl,hR _ _ _ (by rw[ý];show _+1<=j+1;lia) ⟨sd,⟨_,_,rfl⟩,?_⟩⟩;rw[LX,Í ⟨h1,h2⟩,Ħ];rfl
    .rw[ĉ h2];refine aZ (hR _ _ _ À ⟨sd,⟨_,_,rfl⟩,?_⟩);rw[LX,Ë (λw=>h2 w.2),ļ]
   .rw[ĉ (λz=>h1 (by injection z))];refine aZ (aZ (hR _ _ _ À ⟨sd,⟨_,_,rfl⟩,?_⟩));rw[LX,Ë (λw=>h1 w.1),ļ]
  rintro ys σ Hd hy⟨sd,_,rfl⟩;rw[Ľ];refine⟨⟨sd _ _ ez,Ø _⟩,λLy y9=>⟨Á.upd y9 _ _ (sd _ _ ez),?_⟩⟩;obtain⟨zs,ED⟩:∃zs,zs=Ĉ.filterMap (yk n y):=⟨_,rfl⟩;have ze:∀z,z∈zs↔Ρ ps n z/\y<=z:=λz=>by
   rw[ED,List.mem_filterMap];constructor
   .rintro⟨⟨kk,vv⟩,hp,e⟩;obtain⟨n',z',rfl,y8⟩:=dK.kk kk (Ā.mpr ⟨_,hp,rfl⟩);have e:(if n'=n/\y<=z' then some z' else none)=some z:=e;by_cases hc:n'=n/\y<=z';.rw[Í hc]at e;cases e;obtain⟨rfl,h2⟩:=hc;exact⟨y8,h2⟩
    .rw[Ë hc]at e;cases e
   .rintro⟨h1,h2⟩;obtain⟨d,v,_⟩:=dK.g n z h1;have:(ky n z)∈Ĉ.map (·.1):=by
     have hs:(dM Ĉ (ky n z)).isSome=true:=by rw[v];rfl
     rw[<-ig,List.any_eq_true]at hs;obtain⟨p,hp,e⟩:=hs;exact Ā.mpr ⟨p,hp,ώ e⟩
    obtain⟨p,hp,e⟩:=Ā.mp this;refine⟨p,hp,?_⟩;unfold yk;rw[show p.1=ky n z from e];show(if n=n/\y<=z then some z else none)=some z;rw[Í ⟨rfl,h2⟩]
  have LY:zs.Nodup:=by
   rw[ED];have:∀{l:List (List Key×V)},(l.map (·.1)).Nodup->(∀k∈l.map (·.1),∃n y,k=ky n y)->(l.filterMap (yk n y)).Nodup:=λ{l}=>by induction l with|nil=>exact λ_ _=>List.nodup_nil;|cons p l ih=>intro nd kk;rw[ϝ,Zbf]at nd;have i1:=ih nd.2 λk hk=>kk k (Ā.mpr (by obtain⟨q,hq,e⟩:=Ā.mp hk;exact⟨q,.tail _ hq,e⟩));rw[Zak];obtain⟨n',z',e'⟩:=kk p.1 (Ā.mpr ⟨p,.head _,rfl⟩);cases e:yk n y p with|none=>exact i1;|some z=>
      refine Zbf.mpr ⟨λhm=>?_,i1⟩;obtain⟨q,hq,eq⟩:=List.mem_filterMap.mp hm;obtain⟨n2,z2,e2⟩:=kk q.1 (Ā.mpr ⟨q,.tail _ hq,rfl⟩);have key:∀{r:List Key×V}{n3 z3 z:Int},r.1=ky n3 z3->yk n y r=some z->n3=n/\z3=z:=λ{r n3 z3 z}h1 h2=>by
       unfold yk at h2;rw[h1]at h2;have h2:(if n3=n/\y<=z3 then some z3 else none)=some z:=h2;by_cases hc:n3=n/\y<=z3;.rw[Í hc]at h2;cases h2;exact⟨hc.1,rfl⟩
       .rw[Ë hc]at h2;cases h2
      obtain⟨w1,w2⟩:=key e' e;obtain⟨w3,w4⟩:=key e2 eq;exact nd.1 (Ā.mpr ⟨q,hq,by show q.1=p.1;rw[e',e2,w1,w2,w3,w4]⟩)
   exact this dK.kd λk hk=>by obtain⟨n,y,a,_⟩:=dK.kk k hk;exact⟨n,y,a⟩
  have lzs:zs.length<=200:=by rw[ED];have:=List.length_filterMap_le (yk n y) Ĉ;lia
  rw[<-ED];have nD:Ly≠fo:=λz=>by rw[z,sd _ _ ez]at y9;cases y9
  have S6:Á H3 (upd (upd Hd Ly (.lst (zs.map V.int))) fo (.dT Ĉ)):=λb u e=>by
   by_cases LZ:b=fo;.subst LZ;rw[dK.e]at e;cases e;exact aa
   .rw[aA LZ];exact Á.upd y9 _ _ (sd _ _ (kz _ _ LZ e))
  have zh:upd (upd Hd Ly (.lst (zs.map V.int))) fo (.dT Ĉ) Ly=some (.lst (zs.map V.int)):=by rw[aA nD];exact aa
  have d6:=dK.same S6;have L6:∀m z d,dM Ĉ (ky m z)=some (.ref d)->d≠Ly:=λm z d hv w=>by
   by_cases hm:Ρ ps m z;.obtain⟨d',q1,q2⟩:=dK.g m z hm;rw[hv]at q1;cases q1;rw[w]at q2;rw[sd _ _ (kz _ _ nD q2)]at y9;cases y9
   .rw[dK.no m z hm]at hv;cases hv
  generalize upd (upd Hd Ly (.lst (zs.map V.int))) fo (.dT Ĉ)=H6 at S6 zh d6⊢;clear S6 dK y9 sd ez kz hy ED;dsimp only;refine aC (aR ?_);refine⟨_,rfl,Ly,rfl,⟨_,Ï.of zh⟩,cX zs.length (λj ys σ Hc=>Á H6 Hc/\(∃o1,σ=[o1,some (.ref fo),some (.int n),some (.int a)])/\ys=(((zs.take j).map λz=>(hl ps sa n z).getD a.toNat 0):VV).map V.int) ⟨Á.refl _,⟨_,rfl⟩,rfl⟩ ϻ ?_ ?_⟩
  .rintro j ys σ Hc hj hy⟨sc,⟨o1,rfl⟩,rfl⟩;have ex:(zs.map V.int)[j]?=some (.int zs[j]):=by rw[ģ,é hj];rfl
   refine⟨⟨_,_,Ï.of (sc _ _ zh),ex⟩,λv H' y' R hR=>?_⟩;obtain⟨rfl,y'⟩:=y';have hv:=y' _ (Ï.of (sc _ _ zh));rw[ex]at hv;cases hv;refine aJ ?_;obtain⟨y8,_⟩:=(ze zs[j]).mp (į hj);obtain⟨d,v1,v2⟩:=(d6.same sc).g n zs[j] y8;refine⟨_,rfl,_,rfl,_,rfl,zL,λtk tw=>?_⟩;have u:=Á.upd (o:=.tup [V.int n,V.int zs[j]]) tw;have iA:ů ((hl ps sa n zs[j]).map V.int) a=some (.int ((hl ps sa n zs[j]).getD a.toNat 0)):=by
    have Qh:=Ga ps sa n zs[j];have:((hl ps sa n zs[j]).map V.int)[a.toNat]?=some (.int ((hl ps sa n zs[j]).getD a.toNat 0)):=by rw[ģ,ŧ,é z03];rfl
    have:=dD this;rw[show((a.toNat:Nat):Int)=a by lia]at this;exact this
   refine⟨fo,.ref d,rfl,v1▸Ĳ.t (k:=ky n zs[j]) (u _ _ (sc _ _ d6.e)) aa,_,rfl,d,_,a,_,rfl,rfl,Ï.of (u _ _ v2),iA,hR _ _ _ ⟨sc.updR tw,⟨_,rfl⟩,?_⟩⟩;rw[ŋ,é hj,Ħ,Ħ];rfl
  rintro ys σ Hc hy⟨sc,_,rfl⟩;rw[Ľ];refine⟨⟨_,Ï.of (sc _ _ zh),by rw[Ý];exact Ø _⟩,λD hD=>⟨D,_,rfl,Ï.of aa,?_,λM hM Va=>aJ ?_⟩⟩;.have:=(ze y).mpr ⟨hd,Za5 _⟩;intro z;rw[List.map_eq_nil_iff]at z;rw[z]at this;cases this
  have d7:=(d6.same sc).same (Á.upd (o:=.lst (((zs.map λz=>(hl ps sa n z).getD a.toNat 0):VV).map V.int)) hD);have zi:=Á.upd (o:=.lst (((zs.map λz=>(hl ps sa n z).getD a.toNat 0):VV).map V.int)) hD _ _ (sc _ _ zh);generalize upd Hc D (.lst (((zs.map λz=>(hl ps sa n z).getD a.toNat 0):VV).map V.int))=H7 at d7 zi⊢;clear d6 sc hD zh hy;dsimp only;refine aC ?_;refine cQ (p:=λi j=>decide (i<=j)) (q:=λi j=>decide (i<=j)) (i:=1) (j:=k) (k:=99) fJ (fU rfl) fJ _ ⟨_,rfl,?_⟩;dsimp only;cases ek:(decide (1<=k)&&decide (k<=99))with|false=>refine bj (bj ⟨_,rfl,_,rfl,zL,λt ht=>bad d7.sm (jI λh=>?_) t ht⟩);rw[è h.1.2.2.2.2.1,è h.1.2.2.2.2.2]at ek;cases ek;|true=>
  obtain⟨k1,k2⟩:=Bool.and_eq_true_iff.mp ek;have k1:=ώ k1;have k2:=ώ k2;refine aZ ⟨_,rfl,_,rfl,_,_,rfl,rfl,_,rfl,?_⟩;by_cases Qi:M<k;.rw[è Qi];refine bj ⟨_,rfl,_,rfl,zL,λt ht=>bad d7.sm (jI λh=>?_) t ht⟩;obtain⟨z,hz,rfl⟩:=Ā.mp hM;have:=h.2 z ((ze z).mp hz).1 ((ze z).mp hz).2;lia
  rw[ĉ Qi];refine aZ (bN ?_);dsimp only;have good:cN ps sa s=true:=Qb.mpr ⟨⟨hd,ha,hb,GH,k1,k2⟩,λz h1 h2=>by have:=Va _ (Ā.mpr ⟨z,(ze z).mpr ⟨h1,h2⟩,rfl⟩);grind⟩;clear bad jI;have fmD:∀(j:Nat),∃fm:Int->Int->VV,fm=λn' z'=>if n'=n/\z'∈zs.take j then ï n z' (hl ps sa n z') s else hl ps sa n' z':=λj=>⟨_,rfl⟩;refine⟨_,rfl,Ly,rfl,⟨_,Ï.of zi⟩,?_⟩;refine gY (xs:=zs.map V.int) (λj σ Hd=>∃jv,σ=[some (.ref ap),some (.ref af),some (.ref fo),some (.int n),x4,x5,x6,x7,some (.int k),x9,some (.int y),some (.int i),some (.int a),some (.int b),some (.ref Ly),some (.int M),jv]/\ţ fo H Hd (Ρ ps) (λn' z'=>if n'=n/\z'∈zs.take j then ï n z' (hl ps sa n z') s else hl ps sa n' z') Ĉ/\Hd Ly=some (.lst (zs.map V.int))) ?_ ?_ ?_ ?_;.refine⟨_,rfl,d7.cast λn' z' _=>?_,zi⟩;rw[List.take_zero,Ë (λw=>by cases w.2)]
  .rintro j σ Hd hj⟨jv,rfl,dj,eL⟩;exact Ï.of eL
  .rintro j v σ Hd hv⟨jv,rfl,dj,eL⟩;have hj:j<zs.length:=by have:=(ġ.mp hv).1;rw[Ý]at this;exact this
   have ev:v=.int zs[j]:=by rw[ģ,é hj]at hv;exact(ĭ hv).symm
   subst ev;obtain⟨y8,Qj⟩:=(ze zs[j]).mp (į hj);have AV:¬(zs[j]∈zs.take j):=λhm=>by obtain⟨j',ui,e⟩:=Zaw hm;rw[İ]at ui;rw[Za3]at e;exact List.pairwise_iff_getElem.mp LY j' j À hj À e
   generalize hz:zs[j]=z at y8 Qj AV⊢;obtain⟨L,L7⟩:∃L,L=hl ps sa n z:=⟨_,rfl⟩;have l8:L.length=8:=by rw[L7];exact Ga _ _ _ _
   obtain⟨d,v1,v2⟩:=dj.g n z y8;rw[Ë (λw=>AV w.2),<-L7]at v2;have Qk:=L6 n z d v1;have AX:∀{c:Int}{L:VV},L.length=8->0<=c/\c<8->ϒ (L.map V.int).length c=some c.toNat/\ů (L.map V.int) c=some (.int (L.getD c.toNat 0)):=λ{c L}l8 hc=>by
    refine⟨?_,?_⟩;.unfold ϒ;rw[Ý,l8,Í hc.1,Í z03]
    .have:(L.map V.int)[c.toNat]?=some (.int (L.getD c.toNat 0)):=by rw[ģ,ŧ,é À];rfl
     have:=dD this;rw[show((c.toNat:Nat):Int)=c by lia]at this;exact this
   refine aJ ?_;refine rd_E λDe sN=>?_;refine aC (aR ?_);refine⟨_,rfl,_,rfl,_,rfl,zL,λt1 h1=>?_⟩;have w1:=Á.upd (o:=.tup [V.int n,V.int z]) h1;refine⟨fo,.ref d,rfl,v1▸Ĳ.t (k:=ky n z) (w1 _ _ dj.e) aa,_,rfl,d,_,a,_,rfl,rfl,Ï.of (w1 _ _ v2),(AX l8 ha).2,_,rfl,_,_,rfl,rfl,?_⟩;have d1:=dj.same w1;have L8:=w1 _ _ v2;have sP:=w1 _ _ eL;generalize upd Hd t1 (.tup [V.int n,V.int z])=Ha at d1 L8 sP⊢;refine⟨_,rfl,_,rfl,_,rfl,zL,λt2 h2=>?_⟩;have w2:=Á.upd (o:=.tup [V.int n,V.int z]) h2;refine⟨fo,.ref d,rfl,v1▸Ĳ.t (k:=ky n z) (w2 _ _ d1.e) aa,_,rfl,d,_,a,_,rfl,rfl,w2 _ _ L8,(AX l8 ha).1,?_⟩;have d2:=d1.same w2;have L9:=w2 _ _ sP;generalize upd Ha t2 (.tup [V.int n,V.int z])=Hb at d2 L9⊢;rw[show(L.map V.int).set a.toNat (.int (L.getD a.toNat 0-k))=(gM L a (-k)).map V.int by unfold gM;rw[List.map_set];rfl];obtain⟨L1,zk⟩:∃L1,L1=gM L a (-k):=⟨_,rfl⟩;rw[<-zk];have Ql:L1.length=8:=by rw[zk,j7];exact l8
   have d3:=d2.wr (f':=λn' z'=>if n'=n/\z'=z then L1 else if n'=n/\z'∈zs.take j then ï n z' (hl ps sa n z') s else hl ps sa n' z') (L:=L1) v1 (by rw[Í ⟨rfl,rfl⟩]) λn' z' _ gL=>by rw[Ë gL]
   have e3:=aa (H:=Hb) (a:=d) (o:=.lst (L1.map V.int));have EE:upd Hb d (.lst (L1.map V.int)) Ly=some (.lst (zs.map V.int)):=by rw[aA Qk.symm];exact L9
   generalize upd Hb d (.lst (L1.map V.int))=Hc at d3 e3 EE⊢;clear d1 d2 L8 sP L9 w1 w2 h1 h2 dj v2 eL;dsimp only;refine aR ?_;refine⟨_,rfl,_,rfl,_,rfl,zL,λt1 h1=>?_⟩;have w1:=Á.upd (o:=.tup [V.int n,V.int z]) h1;refine⟨fo,.ref d,rfl,v1▸Ĳ.t (k:=ky n z) (w1 _ _ d3.e) aa,_,rfl,d,_,b,_,rfl,rfl,Ï.of (w1 _ _ e3),(AX Ql hb).2,_,rfl,_,_,rfl,rfl,?_⟩;have d4:=d3.same w1;have e4:=w1 _ _ e3;have Qm:=w1 _ _ EE;generalize upd Hc t1 (.tup [V.int n,V.int z])=Ha at d4 e4 Qm⊢;refine⟨_,rfl,_,rfl,_,rfl,zL,λt2 h2=>?_⟩;have w2:=Á.upd (o:=.tup [V.int n,V.int z]) h2;refine⟨fo,.ref d,rfl,v1▸Ĳ.t (k:=ky n z) (w2 _ _ d4.e) aa,_,rfl,d,_,b,_,rfl,rfl,w2 _ _ e4,(AX Ql hb).1,?_⟩;have d5:=d4.same w2;have EF:=w2 _ _ Qm;generalize upd Ha t2 (.tup [V.int n,V.int z])=Hb at d5 EF⊢;rw[show(L1.map V.int).set b.toNat (.int (L1.getD b.toNat 0+k))=(gM L1 b k).map V.int by unfold gM;rw[List.map_set]];have hs:ï n z L s=gM L1 b k:=by unfold ï;rw[ea,eb,ec,ed,ee,Í ⟨rfl,Qj⟩,zk]
   refine sN _ _ ⟨_,rfl,d5.wr (L:=gM L1 b k) v1 ?_ λn' z' _ gL=>?_,by rw[aA Qk.symm];exact EF⟩;.rw[Í ⟨rfl,by rw[ŋ,é hj,hz];exact Ą.mpr (.inr (.head _))⟩,<-hs,L7]
   .rw[Ë gL];have:(n'=n/\z'∈zs.take (j+1))↔(n'=n/\z'∈zs.take j):=by
     rw[ŋ,é hj,hz];constructor
     .rintro⟨g1,g2⟩;refine⟨g1,?_⟩;rcases Ą.mp g2 with w|w;.exact w
      .exact absurd ⟨g1,Ũ.mp w⟩ gL
     .rintro⟨g1,g2⟩;exact⟨g1,Ą.mpr (.inl g2)⟩
    by_cases hc:n'=n/\z'∈zs.take j;.rw[Í hc,Í (this.mpr hc)]
    .rw[Ë hc,Ë λw=>hc (this.mp w)]
  .rintro σ Hd⟨jv,rfl,dj,eL⟩;rw[Ý,Ľ]at dj;refine⟨_,_,_,_,_,_,_,_,_,_,_,_,_,_,rfl,dj.cast λn' z' Fs=>?_,λj' ui=>?_⟩
   .rw[fI,Jg Fs];by_cases hc:n'=n/\z'∈zs;.obtain⟨rfl,hc⟩:=hc;rw[Í ⟨rfl,hc⟩]
    .rw[Ë hc];unfold ï;rw[ea,ee,Ë λw=>hc ⟨w.1.symm,(ze z').mpr ⟨by rw[w.1];exact Fs,w.2⟩⟩]
   .by_cases av:j'<i;.exact hh j' av
    .have:j'=i:=À;rw[this,<-hH];exact good
 rintro σ Hc⟨x3,x4,x5,x6,x7,x8,x9,fw,fS,f7,gc,gg,gi,jv,rfl,dt,hh⟩;have hu:un ps ss=none:=Ax λj hj=>hh j (by rw[rs.l];exact hj);dsimp only;refine⟨_,rfl,zL,λt ht=>?_⟩;refine q t fo _ (dt.sm.updR ht) (by rw[aa,hu];rfl) λ_=>⟨Ĉ,?_⟩;have:=dt.same (Á.upd (o:=.tup [V.ref fo,V.non]) ht);rw[rs.l,Ľ]at this;exact this
end K33
namespace K33Q
open PySem L2 K33P
def okC(r:VV):Prop:=r.length=3/\∀x∈r,0<=x/\x<1000
def smR(s:VV):Prop:=s.length=5/\∀i∈s,-10<=i/\i<=2000000
inductive Ź(vs:List V)(H:Hp)(Q:VK):Prop|mk:∀st n,(vs=[.ref st,.int n])->(iZ H st)->(1<=n)->(n<=20)->(∀ac xc cs H',Dr st H H'->K33.RowsAt H' ac xc cs->1<=cs.length->(cs.length:Int)<=n->(∀r∈cs,okC r)->Q (.ref ac) H')->Ź  vs H Q
def Az:Sp:=λvs H Q _=>Ź  vs H Q
inductive ς(vs:List V)(H:Hp)(Q:VK):Prop|mk:∀st y,(vs=[.ref st,.int y])->(iZ H st)->(0<=y)->(y<=1000)->(∀t r H',Dr st H H'->H' t=some (.tup (r.map V.int))->K33.okP r->Q (.ref t) H')->ς  vs H Q
def Gb:Sp:=λvs H Q _=>ς  vs H Q
inductive μ(vs:List V)(H:Hp)(Q:VK):Prop|mk:∀st ap xp ps,(vs=[.ref st,.ref ap])->(iZ H st)->(K33.RowsAt H ap xp ps)->(ps.length<=10)->((∀r∈ps,K33.okP r))->(∀t s H',Dr st H H'->H' t=some (.tup (s.map V.int))->smR s->Q (.ref t) H')->μ  vs H Q
def Ge:Sp:=λvs H Q _=>μ  vs H Q
inductive ω(vs:List V)(H:Hp)(Q:VK):Prop|mk:∀(st:Addr)(y m:Int),(vs=[.ref st,.int y,.int m])->(iZ H st)->(1<=y)->(y<=20)->(0<=m)->(m<=10)->(∀a ac xc cs ap xp ps af xs ss H',Dr st H H'->H' a=some (.tup [.ref ac,.ref ap,.ref af])->K33.RowsAt H' ac xc cs->1<=cs.length->(cs.length:Int)<=y->(∀r∈cs,okC r)->K33.RowsAt H' ap xp ps->(ps.length:Int)<=m->(∀r∈ps,K33.okP r)->K33.RowsAt H' af xs ss->ss.length<=6->(∀s∈ss,smR s)->K33.un ps ss=none->Q (.ref a) H')->ω  vs H Q
def spBook:Sp:=λvs H Q _=>ω  vs H Q
theorem _root_.K33P.Dr.new(g:Dr st H H1)(hp:H1 p=none):Dr st H (upd H1 p o):=g.same (Á.upd hp)
theorem _root_.K33P.Dr.rows{rs:UV}(g:Dr st H H')(h0:iZ H st)(r:K33.RowsAt H a xs rs):K33.RowsAt H' a xs rs:=r.keep (g.tups h0)
theorem jL{a b c p q r pos}:BE X (.List [.Constant (.int i) a p,.Constant (.int j) b q,.Constant (.int k) c r] pos) (yu (tL [i,j,k])):=⟨dJ (mz (.cons (.cons (.cons .nil))))⟩
section
theorem ndC:([ť,ø,"_law_wide"]:ó).Nodup:=by decide+kernel
theorem scC:Ã [ø,Ψ,"_law_wide",ύ] [ø,Ψ] (az (top 80)):=ú
theorem ok_clips(F:ß K "_law_clips" "_law_clips" (top 80) f fd)(T:Mg mg)(Tr:mg "range"=none)(c1:á P w K mg base 1 Ϥ [ø,ύ] dU):Ê P w K mg base Þ 2 f fd [ø,Ψ] Az:=by
 refine F.oq scC λcdv A outer s H vs Q E hr h=>?_;obtain⟨st,n,rfl,bq,n0,n1,q⟩:=h;refine ok_b (aH (yE (i:=2) scC.nd rfl (Or.inr rfl) (mD bM (cA (aU jL (aU jL (aU jL (aU jL (aU jL bw)))))) ⟨aG c1 hr (aq (pv 0) (aq au aj))⟩ (λ_ _=>rfl))) (aH ⟨ě 3 scC.nd (aQ bU au (aG c1 hr (aq (pv 0) (aq (pv 1) aj))))⟩ (bz ⟨aP (cH cZ rfl T.tuple Õ (aq (bY [ť,ø,"_law_wide"] [none,some 0,some 2] rfl (cY rfl Tr (aq (pv 3) aj)) (λC fp Â s₂ Ü=>⟨Ô 0 ndC,bW,cH (qL (K:=K) rfl) rfl T.tuple Õ (aq (bY [ϣ,ø] [none,some 1] rfl (Fv (K:=K) rfl (pv 2)) (λC fp Â s₂ Ü=>⟨bx (i:=0) (nd2 _ _ Ù) rfl (Or.inl rfl),bW,aG c1 hr (aq (pv 1) (aq (pv 0) aj))⟩) (λC=>cI trivial) ⟨rfl,rfl,rfl,rfl⟩) aj)⟩) (λC=>cI (cI trivial)) ⟨rfl,rfl,rfl,rfl⟩) aj))⟩))) ?_;refine aC (aR ?_);refine⟨zL,λl1 h1=>⟨zL,λl2 h2=>⟨zL,λl3 h3=>⟨zL,λl4 h4=>⟨zL,λl5 h5=>⟨zL,λL hL=>?_⟩⟩⟩⟩⟩⟩;have m1:=Á.upd (o:=.lst (([3,3,3]:VV).map V.int)) h1;have m2:=Á.upd (o:=.lst (([12,30,30]:VV).map V.int)) h2;have m3:=Á.upd (o:=.lst (([60,3,200]:VV).map V.int)) h3;have m4:=Á.upd (o:=.lst (([1,1,1]:VV).map V.int)) h4;have m5:=Á.upd (o:=.lst (([1000,1000,1000]:VV).map V.int)) h5;have m6:=Á.upd (o:=.lst [V.ref l1,V.ref l2,V.ref l3,V.ref l4,V.ref l5]) hL;have f5:=m6 _ _ (aa (a:=l5) (o:=.lst (([1000,1000,1000]:VV).map V.int)));have f4:=m6 _ _ (m5 _ _ (aa (a:=l4) (o:=.lst (([1,1,1]:VV).map V.int))));have f3:=m6 _ _ (m5 _ _ (m4 _ _ (aa (a:=l3) (o:=.lst (([60,3,200]:VV).map V.int)))));have f2:=m6 _ _ (m5 _ _ (m4 _ _ (m3 _ _ (aa (a:=l2) (o:=.lst (([12,30,30]:VV).map V.int))))));have f1:=m6 _ _ (m5 _ _ (m4 _ _ (m3 _ _ (m2 _ _ (aa (a:=l1) (o:=.lst (([3,3,3]:VV).map V.int)))))));have ms:=m1.trans (m2.trans (m3.trans (m4.trans (m5.trans m6))));have fL:upd (upd (upd (upd (upd (upd H l1 (.lst (([3,3,3]:VV).map V.int))) l2 (.lst (([12,30,30]:VV).map V.int))) l3 (.lst (([60,3,200]:VV).map V.int))) l4 (.lst (([1,1,1]:VV).map V.int))) l5 (.lst (([1000,1000,1000]:VV).map V.int))) L (.lst [V.ref l1,V.ref l2,V.ref l3,V.ref l4,V.ref l5]) L=some (.lst [V.ref l1,V.ref l2,V.ref l3,V.ref l4,V.ref l5]):=aa;have old:∀b o,H b=some o->b≠l1/\b≠l2/\b≠l3/\b≠l4/\b≠l5/\b≠L:=λb o e=>⟨aD e h1,aD (m1 _ _ e) h2,aD (m2 _ _ (m1 _ _ e)) h3,aD (m3 _ _ (m2 _ _ (m1 _ _ e))) h4,aD (m4 _ _ (m3 _ _ (m2 _ _ (m1 _ _ e)))) h5,aD (m5 _ _ (m4 _ _ (m3 _ _ (m2 _ _ (m1 _ _ e))))) hL⟩;obtain⟨a0,b0,c0,Vb,_⟩:=id bq;obtain⟨v1,v2,v3,v4,v5,v6⟩:=old _ _ Vb;generalize upd (upd (upd (upd (upd (upd H l1 _) l2 _) l3 _) l4 _) l5 _) L _=H1 at f1 f2 f3 f4 f5 fL ms⊢;clear m1 m2 m3 m4 m5 m6 h1 h2 h3 h4 h5 hL old;have zo:iZ H1 st:=by obtain⟨a,b,c,e,h⟩:=bq;exact⟨a,b,c,ms _ _ e,h⟩
 have g1:Dr st H H1:=⟨λb o e _=>ms _ _ e,zo⟩;refine⟨_,rfl,st,5,rfl,zo,by decide,by decide,λr a b c r0 r1 a0 b0 b1=>?_⟩;have EG:∃wd ws,([V.ref l1,V.ref l2,V.ref l3,V.ref l4,V.ref l5]:List V)[r.toNat]?=some (.ref wd)/\H1 wd=some (.lst ((ws:VV).map V.int))/\wd≠st/\ws.length=3/\∀x∈ws,1<=x/\x<=1000:=by rcases(by lia:r=0\/r=1\/r=2\/r=3\/r=4)with rfl|rfl|rfl|rfl|rfl<;>exact⟨_,_,rfl,by assumption,Ne.symm (by assumption),rfl,by decide⟩
 obtain⟨wd,ws,ei,Qn,EH,Vc,bws⟩:=EG;have g2:Dr st H (upd H1 st (.lst [.int a,.int b,.int c])):=g1.draw a0 b0 b1;refine⟨L,_,r,.ref wd,rfl,rfl,Ï.of (by rw[aA v6.symm];exact fL),?_,?_⟩;.have:=dD ei;rw[show((r.toNat:Nat):Int)=r by lia]at this;exact this
 have zt:upd H1 st (.lst [.int a,.int b,.int c]) wd=some (.lst (ws.map V.int)):=by rw[aA EH];exact Qn
 generalize upd H1 st (.lst [.int a,.int b,.int c])=H2 at g2 zt⊢;clear f1 f2 f3 f4 f5 fL ms g1 zo Qn ei;refine aJ ?_;dsimp only;refine aC ?_;refine⟨_,rfl,_,rfl,st,n,rfl,g2.sa,n0,À,λm a b c m0 m1 a0 b0 b1=>⟨_,_,rfl,rfl,?_⟩⟩;have g3:=g2.draw (c:=c) a0 b0 b1;have EI:upd H2 st (.lst [.int a,.int b,.int c]) wd=some (.lst (ws.map V.int)):=by rw[aA EH];exact zt
 generalize upd H2 st (.lst [.int a,.int b,.int c])=H3 at g3 EI⊢;clear g2 zt;dsimp only;refine eF ?_;refine⟨_,rfl,1+m,rfl,À,À,?_⟩;have lz:(1+m).toNat<sizeLine:=by rw[sizeLine_eq];lia
 refine cX (1+m).toNat (λi ys σ Hc=>Dr st H3 Hc/\(∃o,σ=[o,some (.ref st),some (.ref wd)])/\∃rows:UV,rows.length=i/\(∀r∈rows,okC r)/\Å (λ_=>False) Hc ys (rows.map K33.rowD)) ⟨Dr.refl g3.sa,⟨_,rfl⟩,[],rfl,λ_ h=>(List.not_mem_nil h).elim,.nil⟩ lz ?_ ?_
 .rintro i ys σ Hc hi hy⟨g4,⟨o,rfl⟩,rows,kC,zw,it⟩;refine⟨hi,λv H' y R hR=>?_⟩;obtain⟨eH,rfl⟩:=y;subst H';refine aJ ?_;have zI:=g4.bt _ _ EI EH;refine⟨_,rfl,wd,rfl,⟨_,Ï.of zI⟩,cX 3 (λj zs σ H5=>Dr st Hc H5/\(∃o,σ=[o,some (.ref st)])/\∃r:VV,r.length=j/\(∀n∈r,0<=n/\n<1000)/\zs=r.map V.int) ⟨Dr.refl g4.sa,⟨_,rfl⟩,[],rfl,λ_ h=>(List.not_mem_nil h).elim,rfl⟩ Ù ?_ ?_⟩
  .rintro j zs σ H5 hj hz⟨g5,⟨o,rfl⟩,r,lr,br,rfl⟩;have EJ:=g5.bt _ _ zI EH;have Qo:j<ws.length:=À;have ex:(ws.map V.int)[j]?=some (.int ws[j]):=by rw[ģ,é Qo];rfl
   refine⟨⟨_,_,Ï.of EJ,ex⟩,λv H' y R hR=>?_⟩;obtain⟨eH,y⟩:=y;subst H';have hv:=y _ (Ï.of EJ);rw[ex]at hv;cases hv;have hb:=bws _ (į Qo);refine aJ ?_;refine⟨_,rfl,_,rfl,st,_,rfl,g5.sa,hb.1,À,λt a b c t0 t1 a0 b0 b1=>hR _ _ _ ⟨g5.draw a0 b0 b1,⟨_,rfl⟩,r++[t],by rw[ý,lr];rfl,λn hn=>?_,by rw[Ħ];rfl⟩⟩;rcases Ą.mp hn with z|z;.exact br n z
   .rw[Ũ.mp z];lia
  .rintro zs σ H5 hz⟨g5,_,r,lr,br,rfl⟩;refine⟨⟨_,Ï.of (g5.bt _ _ zI EH),by rw[Ý,Vc];exact Ø _⟩,λD hD=>⟨D,_,rfl,.inl ⟨Ï.of aa,λt ht=>?_⟩⟩⟩;have s6:=(Á.upd (o:=.lst (r.map V.int)) hD).updR (o:=.tup (r.map V.int)) ht;refine hR _ _ _ ⟨(g4.trans g5).same s6,⟨_,rfl⟩,rows++[r],by rw[ý,kC];rfl,λx hx=>?_,?_⟩
   .rcases Ą.mp hx with z|z;.exact zw x z
    .rw[Ũ.mp z];exact⟨lr,br⟩
   .rw[Ħ];exact((g5.ths g4.sa it).same s6).append (.cons (.tup aa (Å.ints r)) .nil)
 .rintro ys σ Hc hy⟨g4,_,rows,kC,zw,it⟩;refine⟨Ø _,λD hD=>⟨D,_,rfl,.inl ⟨Ï.of aa,λt ht=>?_⟩⟩⟩;have s6:=(Á.upd (o:=.lst ys) hD).updR (o:=.tup ys) ht;obtain⟨ac,xc,ev,rr⟩:=K33.th_rows (rs:=rows) (.tup aa (it.same s6));cases ev;exact q _ xc rows _ ((g3.trans g4).same s6) rr À z03 zw
end
section
theorem scP:Ã [ø,Ϻ,"_law_first","_law_last",ABa,"_law_price"] [ø,Ϻ] (az (top 81)):=ú
theorem ok_prom(F:ß K "_law_promise" "_law_promise" (top 81) f fd)(Tm:mg "min"=none)(c1:á P w K mg base 1 Ϥ [ø,ύ] dU):Ê P w K mg base Þ 2 f fd [ø,Ϻ] Gb:=by
 refine F.oq scP λcdv A outer s H vs Q E hr h=>?_;obtain⟨st,y,rfl,bq,y0,y1,q⟩:=h;refine ok_b (aH ⟨ě 2 scP.nd (aK (iR rfl) rfl Tm oh (aq au (aq (aG c1 hr (aq (pv 0) (aq (aQ bU (pv 1) au) aj))) aj)))⟩ (aH ⟨ě 3 scP.nd (aK (iR rfl) rfl Tm oh (aq au (aq (aQ bU (pv 2) (pX bM (Ie (Ib au (Ib (aG c1 hr (aq (pv 0) (aq au aj))) (Ib (aG c1 hr (aq (pv 0) (aq au aj))) bw)))) (aG c1 hr (aq (pv 0) (aq au aj))))) aj)))⟩ (aH ⟨ym (i:=4) (j:=5) rfl scP.nd rfl rfl Ù rfl rfl (aq (aQ bU au (aG c1 hr (aq (pv 0) (aq (pX bM (dJ (mz (by repeat constructor))) (aG c1 hr (aq (pv 0) (aq au aj)))) aj)))) (aq (aG c1 hr (aq (pv 0) (aq au aj))) aj)) rfl⟩ (bz ⟨aP (wF (ik (aU ⟨aG c1 hr (aq (pv 0) (aq au aj))⟩ (aU ⟨aG c1 hr (aq (pv 0) (aq au aj))⟩ (aU ⟨pv 2⟩ (aU ⟨pv 3⟩ (aU ⟨pv 4⟩ (aU ⟨pv 5⟩ bw))))))))⟩)))) ?_;have g0:Dr st H H:=Dr.refl bq;refine aC (aR ?_);refine⟨_,rfl,_,rfl,_,_,rfl,rfl,st,_,rfl,bq,À,À,λr1 a1 b1 vb Vd Ve k1 k2 k3=>⟨_,_,rfl,?_⟩⟩;have g1:=g0.draw (c:=vb) k1 k2 k3;obtain⟨fi,Vf,Vg,fi1⟩:∃fi:Int,fi=(if r1<19 then r1 else 19)/\0<=fi/\fi<=19:=⟨_,rfl,by split<;>lia,by split<;>lia⟩;rw[<-Vf];generalize upd H st (.lst [.int a1,.int b1,.int vb])=H1 at g1⊢;refine aJ ?_;dsimp only;refine aC (aR ?_);refine⟨_,rfl,_,rfl,st,4,rfl,g1.sa,by decide,by decide,λr2 a2 b2 c2 Mb Mc k4 k5 k6=>⟨_,rfl,st,20,rfl,(g1.draw k4 k5 k6).sa,by decide,by decide,λr3 a3 b3 c3 Vh Vi k7 k8 k9=>⟨zL,λp hp=>?_⟩⟩⟩;have g3:=(g1.draw (c:=c2) k4 k5 k6).draw (c:=c3) k7 k8 k9;have np:=g3.ne hp;have g4:=g3.new (o:=.lst [V.int 0,V.int r2,V.int r3]) hp;have ep:upd (upd (upd H1 st (.lst [.int a2,.int b2,.int c2])) st (.lst [.int a3,.int b3,.int c3])) p (.lst [V.int 0,V.int r2,V.int r3]) p=some (.lst [V.int 0,V.int r2,V.int r3]):=aa;generalize upd (upd (upd H1 st (.lst [.int a2,.int b2,.int c2])) st (.lst [.int a3,.int b3,.int c3])) p (.lst [V.int 0,V.int r2,V.int r3])=H2 at g4 ep⊢;refine⟨_,rfl,st,3,rfl,g4.sa,by decide,by decide,λr4 a4 b4 c4 r40 r41 k1 k2 k3=>?_⟩;obtain⟨d,hd,d0,d1⟩:∃d:Int,ů [V.int 0,V.int r2,V.int r3] r4=some (.int d)/\0<=d/\d<20:=by
  have:r4=0\/r4=1\/r4=2:=À;rcases this with rfl|rfl|rfl;.exact⟨_,rfl,by decide,by decide⟩
  .exact⟨_,rfl,Mb,À⟩
  .exact⟨_,rfl,Vh,Vi⟩
 refine⟨p,_,r4,.int d,rfl,rfl,Ï.of (by rw[aA np];exact ep),hd,_,_,rfl,rfl,_,_,rfl,?_⟩;have g5:=g4.draw (c:=c4) k1 k2 k3;obtain⟨la,GI,Vj,Vk⟩:∃la:Int,la=(if fi+d<19 then fi+d else 19)/\fi<=la/\la<=19:=⟨_,rfl,by split<;>lia,by split<;>lia⟩;rw[<-GI];clear ep np g3;generalize upd H2 st (.lst [.int a4,.int b4,.int c4])=H3 at g5⊢;refine aJ ?_;dsimp only;refine aC ?_;refine⟨_,rfl,zL,λp2 ma=>?_⟩;have Vl:=g5.ne ma;have g6:=g5.new (o:=.lst (([4,12,99]:VV).map V.int)) ma;have lh:upd H3 p2 (.lst (([4,12,99]:VV).map V.int)) p2=some (.lst (([4,12,99]:VV).map V.int)):=aa;generalize upd H3 p2 (.lst (([4,12,99]:VV).map V.int))=H4 at g6 lh⊢;refine⟨_,rfl,st,3,rfl,g6.sa,by decide,by decide,λr5 a5 b5 c5 r50 r51 k4 k5 k6=>?_⟩;obtain⟨wd,hw,w1,w2⟩:∃wd:Int,ů (([4,12,99]:VV).map V.int) r5=some (.int wd)/\1<=wd/\wd<=99:=by
  have:r5=0\/r5=1\/r5=2:=À;rcases this with rfl|rfl|rfl;.exact⟨4,rfl,by decide,by decide⟩
  .exact⟨12,rfl,by decide,by decide⟩
  .exact⟨99,rfl,by decide,by decide⟩
 have g7:=g6.draw (c:=c5) k4 k5 k6;refine⟨p2,_,r5,.int wd,rfl,rfl,Ï.of (by rw[aA Vl];exact lh),hw,st,wd,rfl,g7.sa,w1,À,λr6 a6 b6 c6 r60 r61 k7 k8 k9=>⟨_,_,rfl,rfl,?_⟩⟩;have g8:=g7.draw (c:=c6) k7 k8 k9;generalize upd (upd H4 st (.lst [.int a5,.int b5,.int c5])) st (.lst [.int a6,.int b6,.int c6])=H5 at g8⊢;refine⟨_,rfl,st,500,rfl,g8.sa,by decide,by decide,λr7 a7 b7 c7 Vm r71 k1 k2 k3=>⟨_,_,rfl,?_⟩⟩;have g9:=g8.draw (c:=c7) k1 k2 k3;dsimp only;refine eF ?_;refine⟨_,rfl,st,8,rfl,g9.sa,by decide,by decide,λr8 a8 b8 c8 Vn Vo k4 k5 k6=>⟨_,rfl,st,3,rfl,(g9.draw k4 k5 k6).sa,by decide,by decide,λr9 a9 b9 c9 Vp Vq k7 k8 k9=>⟨_,rfl,_,rfl,_,rfl,_,rfl,zL,λt ht=>?_⟩⟩⟩;have ga:=((g9.draw (c:=c8) k4 k5 k6).draw (c:=c9) k7 k8 k9).new (o:=.tup [V.int r8,V.int r9,V.int fi,V.int la,V.int (1+r6),V.int r7]) ht;exact q t [r8,r9,fi,la,1+r6,r7] _ ga aa ⟨rfl,⟨Vn,Vo⟩,⟨Vp,Vq⟩,⟨Vg,Vj,Vk⟩,⟨by show 1<=1+r6;lia,by show 1+r6<=99;lia⟩,⟨Vm,by show r7<=1000000;grind⟩⟩
theorem Η:Ã [ø,ϥ,AAw,"_law_holder","_law_sort","_law_first","_law_last",ABa,"_law_price","_law_seller",ť] [ø,ϥ] (az (top 82)):=ú
theorem ok_sale(F:ß K "_law_sale" "_law_sale" (top 82) f fd)(T:K33P.Mg mg)(Tm:mg "max"=none)(c1:á P w K mg base 1 Ϥ [ø,ύ] dU):Ê P w K mg base Þ 2 f fd [ø,ϥ] Ge:=by
 refine F.oq Η λcdv A outer s H vs Q E hr h=>?_;obtain⟨st,ap,xp,ps,rfl,bq,rp,lp,okp,q⟩:=h;refine⟨_,aB (ě 2 Η.nd (aG c1 hr (aq (pv 0) (aq (aK (jR rfl) rfl Tm o9 (aq au (aq (aK bh rfl T.len PySem.boot_len (aq (pv 1) aj)) aj))) aj)))) (aB (bT (aY (tK (K33.room_un hr)) (pv 1) (zR bw) (aW _)) (aF (aP (bB (mz (by repeat constructor))))) bf) (aB (cP (pX bu (pv 1) (pv 2)) (bR rfl (ao (Ô 3 Η.nd) (ao (Ô 4 Η.nd) (ao (Ô 5 Η.nd) (ao (Ô 6 Η.nd) (ao (Ô 7 Η.nd) (ao (Ô 8 Η.nd) aX)))))))) (aB (ě 9 Η.nd (pX bM (dJ (aq (pv 3) (aq (pv 3) (aq (aG c1 hr (aq (pv 0) (aq au aj))) aj)))) (aG c1 hr (aq (pv 0) (aq au aj))))) (aB (ě 10 Η.nd (aQ bU (pv 5) (aG c1 hr (aq (pv 0) (aq (aQ bU (aQ dZ (pv 6) (pv 5)) au) aj))))) (aF (aP (wF (ik (aU ⟨pv 2⟩ (aU ⟨pv 9⟩ (aU ⟨aG c1 hr (aq (pv 0) (aq au aj))⟩ (aU ⟨aQ bU au (aG c1 hr (aq (pv 0) (aq (pv 7) aj)))⟩ (aU ⟨pv 10⟩ bw))))))))))))),?_⟩;have g0:Dr st H H:=Dr.refl bq;have hxl:xp.length<=10:=by rw[rp.l];exact lp
 refine aC (aR ?_);refine⟨_,rfl,_,rfl,ap,xp,rfl,.inr (Ì.of rp.e),_,_,rfl,st,_,rfl,bq,?_,?_,λr1 a1 b1 vb r0 rn k1 k2 k3=>?_⟩;.split<;>grind
 .split<;>lia
 have g1:=g0.draw (c:=vb) k1 k2 k3;have Qp:=g1.rows bq rp;generalize upd H st (.lst [.int a1,.int b1,.int vb])=H1 at g1 Qp⊢;refine aJ ?_;dsimp only;refine aC ?_;refine⟨_,rfl,zL,λe0 vc=>?_⟩;have g2:=g1.new (o:=.tup []) vc;have m2:=Á.upd (o:=.tup []) vc;have Qq:upd H1 e0 (.tup []) e0=some (.tup []):=aa;have GL:=Qp.same m2;generalize upd H1 e0 (.tup [])=H2 at g2 m2 Qq GL⊢;refine⟨ap,e0,xp,rfl,rfl,Ì.of GL.e,Ì.of Qq,_,rfl,DR (λhb=>?_) λhb=>?_⟩;.refine⟨zL,λt ht=>?_⟩;exact q t [0,0,1,1,0] _ (g2.new ht) aa ⟨rfl,by decide⟩
 have px:0<xp.length:=by grind
 have rn2:r1.toNat<xp.length:=by split at rn<;>lia
 dsimp only;refine aC ?_;obtain⟨p,hp,_,op⟩:=K33.prom_ok (n:=r1) okp r0 (by rw[<-rp.l];simp_all);obtain⟨tp,iA,kx⟩:=K33.rows_at GL r0 hp;rw[K33.six_row op.1]at kx;obtain⟨_,⟨p1,p2⟩,_,⟨p3,p4,p5⟩,⟨p6,p7⟩,_⟩:=id op;refine⟨_,rfl,_,rfl,ap,_,r1,.ref tp,rfl,rfl,Ì.of GL.e,iA,?_⟩;refine⟨tp,_,rfl,Ì.of kx,rfl,_,_,rfl,_,_,rfl,_,_,rfl,_,_,rfl,_,_,rfl,_,_,rfl,rfl,?_⟩;dsimp only;refine aC (aR ?_);refine⟨_,rfl,_,rfl,_,rfl,st,8,rfl,g2.sa,by decide,by decide,λr2 a2 b2 c2 i0 i1 k4 k5 k6=>⟨zL,λl1 bX=>?_⟩⟩;have g4:=(g2.draw (c:=c2) k4 k5 k6).new (o:=.lst [V.int (K33.fl p 0),V.int (K33.fl p 0),V.int r2]) bX;have n4:=(g2.draw k4 k5 k6).ne bX;refine⟨_,rfl,st,3,rfl,g4.sa,by decide,by decide,λr3 a3 b3 c3 i2 i3 k7 k8 k9=>?_⟩;obtain⟨sl,Vr,sl1,kN⟩:∃sl:Int,ů [V.int (K33.fl p 0),V.int (K33.fl p 0),V.int r2] r3=some (.int sl)/\0<=sl/\sl<8:=by
  have:r3=0\/r3=1\/r3=2:=À;rcases this with rfl|rfl|rfl;.exact⟨_,rfl,p1,p2⟩
  .exact⟨_,rfl,p1,p2⟩
  .exact⟨_,rfl,i0,i1⟩
 have g5:=g4.draw (c:=c3) k7 k8 k9;refine⟨l1,_,r3,.int sl,rfl,rfl,Ï.of (by rw[aA n4];exact aa),Vr,?_⟩;refine aJ ?_;dsimp only;refine aC (aR ?_);refine⟨_,rfl,_,rfl,_,rfl,_,rfl,_,_,rfl,rfl,_,_,rfl,rfl,st,_,rfl,g5.sa,z03,À,λr5 a5 b5 c5 i6 i7 m4 m5 m6=>⟨_,_,rfl,rfl,?_⟩⟩;have g7:=g5.draw (c:=c5) m4 m5 m6;refine aJ ?_;dsimp only;refine⟨_,rfl,_,rfl,_,rfl,st,8,rfl,g7.sa,by decide,by decide,λr4 a4 b4 c4 i4 i5 m1 Qr m3=>⟨_,rfl,_,rfl,st,_,rfl,(g7.draw m1 Qr m3).sa,p6,À,λr6 a6 b6 c6 i8 i9 m7 m8 m9=>⟨_,_,rfl,rfl,_,rfl,zL,λt ht=>?_⟩⟩⟩;have g8:=(g7.draw (c:=c4) m1 Qr m3).draw (c:=c6) m7 m8 m9;refine q t [r1,sl,r4,1+r6,K33.fl p 2+r5] _ (g8.new ht) aa ⟨rfl,λi hi=>?_⟩;simp only[List.mem_cons,List.not_mem_nil,or_false]at hi;lia
end
theorem fM:Ċ X (binaryOp .Add) (λx y H Q=>Xe4 λa b xs ys=>Xa7 (x=.ref a) (y=.ref b) (H a=some (.tup xs)) (H b=some (.tup ys)) (ys≠[]) (xs.length+ys.length<=sizeLine) (∀c H',Á H H'->H' c=some (.tup (xs++ys))->Q (.ref c) H')):=by intro Â s σ H x y v u Q I rx ry h;obtain⟨a,b,xs,ys,rfl,rfl,ha,hb,hy,hz,q⟩:=h;refine Ej Â s σ H _ _ v u Q I rx ry ⟨a,b,xs,ys,rfl,rfl,Ì.of ha,Ì.of hb,hy,hz,λe=>q b H (Á.refl H) (by rw[e];exact hb),λ_ p hp=>q p _ (Á.upd hp) aa⟩
theorem uc{rs:UV}{r:VV}(h:K33.RowsAt H a xs rs)(et:H t=some (.tup (r.map V.int)))(eb:H b=some (.tup (xs++[V.ref t]))):K33.RowsAt H b (xs++[V.ref t]) (rs++[r]):=by
 refine⟨eb,by rw[ý,ý,h.l];rfl,λi r' e=>?_⟩;by_cases hi:i<rs.length;.rw[zBa hi]at e;rw[zBa (by rw[h.l];exact hi)];exact h.g i r' e
 .rw[zB9 À]at e;rw[zB9 (by rw[h.l];lia),h.l];cases hj:i-rs.length with|zero=>rw[hj]at e;injection e with e;subst e;exact⟨t,rfl,et⟩;|succ k=>rw[hj]at e;simp at e
theorem Gf(h:decide (K33.unV u=.non)=true):u=none:=by have:=ώ h;cases u with|none=>rfl;|some n=>cases this
theorem rZ(hK:X.K=K):dH X (.builtin "len") (λxs H Q=>∃p ys,xs=[.ref p]/\(Ï K H p ys\/Ì K H p ys)/\Q (.int ys.length) H):=by subst hK;exact bh
section
theorem ndB:(["_law_turn",ø,"_law_clips_here"]:ó).Nodup:=by decide+kernel
theorem scB:Ã [ø,Ϻ,Ψ,"_law_clips_here",ϥ,AAu,"_law_turn","_law_sale_here"] [ø,Ϻ,Ψ] (az (top 83)):=ú
theorem ok_book(F:ß K "_law_book" "_law_book" (top 83) f fd)(T:Mg mg)(Tr:mg "range"=none)(Tl:mg "len"=none)(c1:á P w K mg base 1 Ϥ [ø,ύ] dU)(c2:á P w K mg base 2 "_law_clips" [ø,Ψ] Az)(c3:á P w K mg base 2 "_law_promise" [ø,Ϻ] Gb)(c4:á P w K mg base 2 "_law_sale" [ø,ϥ] Ge)(c5:á P w K mg base 1 "_law_rows" [ϥ,AAu] K33.spRows):Ê P w K mg base Þ 3 f fd [ø,Ϻ,Ψ] spBook:=by
 refine F.oq scB λcdv A outer s H vs Q E hr h=>?_;obtain⟨st,y,m,rfl,bq,y1,y2,m1,m2,q⟩:=h;refine⟨_,aB (uo (i:=3) scB.nd rfl (Or.inr rfl) (aG c2 hr (aq (pv 0) (aq (pv 1) aj)))) (aB (ě 4 scB.nd (cH cZ rfl T.tuple Õ (aq (bY ["_law_turn",ø,"_law_clips_here"] [none,some 0,some 3] rfl (cY rfl Tr (aq (aG c1 hr (aq (pv 0) (aq (aQ bU (pv 2) au) aj))) aj)) (λC fp Â s₂ Ü=>⟨Ô 0 ndB,bW,aG c3 hr (aq (pv 1) (aq (aK (rZ (K:=K) rfl) rfl Tl PySem.boot_len (aq (pv 2) aj)) aj))⟩) (λC=>cI (cI trivial)) ⟨rfl,rfl,rfl,rfl⟩) aj))) (aB (ě 5 scB.nd (zR bw)) (aB (cG ň rfl (cY rfl Tr (aq (aG c1 hr (aq (pv 0) (aq au aj))) aj)) (Ô 6 scB.nd) (aB (ě 7 scB.nd (aG c4 hr (aq (pv 0) (aq (pv 4) aj)))) (aF (bT (aY yr (pX bu (aG c5 hr (aq (pv 4) (aq (aQ fM (pv 5) (bB (aq (pv 7) aj))) aj))) au) lu (aW _)) (aF (ě 5 scB.nd (aQ fM (pv 5) (bB (aq (pv 7) aj))))) bf)))) (aF (aP (bB (aq (pv 3) (aq (pv 4) (aq (pv 5) aj)))))))))  ,?_⟩;refine aC (aR ?_);refine⟨_,rfl,_,rfl,st,y,rfl,bq,y1,y2,λac xc cs H1 d1 rc Qs Qt okc=>?_⟩;refine aJ ?_;dsimp only;refine aC (aR ?_);refine⟨_,rfl,_,rfl,_,_,rfl,rfl,st,m+1,rfl,d1.sa,z03,z03,λr a1 b1 vb k0 kn k1 k2 k3=>⟨r,rfl,À,À,?_⟩⟩;have d2:=(Dr.refl d1.sa).draw (c:=vb) k1 k2 k3;have GN:=d2.rows d1.sa rc;have Md:=d1.trans d2;generalize upd H1 st (.lst [.int a1,.int b1,.int vb])=H2 at d2 Md GN⊢;have lz:r.toNat<sizeLine:=by rw[sizeLine_eq];grind
 refine cX r.toNat (λi ys σ Hc=>Dr st H2 Hc/\(∃o,σ=[o,some (.ref st),some (.ref ac)])/\∃rows:UV,rows.length=i/\(∀r∈rows,K33.okP r)/\Å (λ_=>False) Hc ys (rows.map K33.rowD)) ⟨Dr.refl d2.sa,⟨_,rfl⟩,[],rfl,λ_ h=>(List.not_mem_nil h).elim,.nil⟩ lz ?_ ?_
 .rintro i ys σ Hc hi hy⟨g4,⟨o,rfl⟩,rows,kC,zw,it⟩;refine⟨hi,λv H' y R hR=>?_⟩;obtain⟨eH,rfl⟩:=y;subst H';refine aJ ?_;have Vs:=g4.rows d2.sa GN;have:=rc.l;refine⟨_,rfl,_,rfl,ac,xc,rfl,.inr (Ì.of Vs.e),st,_,rfl,g4.sa,Ò,À,λt Qu H5 d5 et Vt=>hR _ _ _ ⟨g4.trans d5,⟨_,rfl⟩,rows++[Qu],by rw[ý,kC];rfl,λx hx=>?_,?_⟩⟩
  .rcases Ą.mp hx with z|z;.exact zw x z
   .rw[Ũ.mp z];exact Vt
  .rw[Ħ];exact(d5.ths g4.sa it).append (.cons (.tup et (Å.ints Qu)) .nil)
 rintro ys σ Hc hy⟨g4,_,ps,lps,okp,it⟩;refine⟨Ø _,λD hD=>⟨D,_,rfl,.inl ⟨Ï.of aa,λt ht=>?_⟩⟩⟩;have s6:=(Á.upd (o:=.lst ys) hD).updR (o:=.tup ys) ht;obtain⟨ap,xp,ev,rp⟩:=K33.th_rows (rs:=ps) (.tup aa (it.same s6));cases ev;have Qv:=(g4.rows d2.sa GN).same s6;have Qx:=(Md.trans g4).same s6;generalize upd (upd Hc D (.lst ys)) t (.tup ys)=H3 at rp Qv Qx⊢;clear GN d2 g4 it s6 ht hD Md rc d1;refine aJ ?_;dsimp only;refine aC (aR ?_);refine⟨zL,λe0 vc=>?_⟩;have d6:=Qx.new (o:=.tup []) vc;have r6:K33.RowsAt (upd H3 e0 (.tup [])) e0 [] []:=⟨aa,rfl,λi r e=>by simp at e⟩;have Qy:=rp.same (Á.upd (o:=.tup []) vc);have Qz:=Qv.same (Á.upd (o:=.tup []) vc);generalize upd H3 e0 (.tup [])=H4 at d6 r6 Qy Qz⊢;refine aJ ?_;dsimp only;refine aC ?_;refine⟨_,rfl,st,7,rfl,d6.sa,by decide,by decide,λr2 a2 b2 Vu q0 qn q1 q2 q3=>⟨r2,rfl,À,z03,?_⟩⟩;have d7:=(Dr.refl d6.sa).draw (c:=Vu) q1 q2 q3;have vi:=d7.rows d6.sa Qy;have Vv:=d7.rows d6.sa Qz;have r7:=d7.rows d6.sa r6;have Vw:=d6.trans d7;refine eV (lo:=0) (n:=r2.toNat) (λi σ Hc=>Xe5 λa xs ss x6 x7=>Xa8 (σ=[some (.ref st),some (.int y),some (.int m),some (.ref ac),some (.ref t),some (.ref a),x6,x7]) (Dr st H Hc) (K33.RowsAt Hc ac xc cs) (K33.RowsAt Hc t xp ps) (K33.RowsAt Hc a xs ss) (ss.length<=i) ((∀s∈ss,smR s)) (K33.un ps ss=none)) ?_ ?_ ?_;.exact⟨e0,[],[],none,none,rfl,Vw,Vv,vi,r7,Ø _,(λ_ h=>nomatch h),rfl⟩
 .rintro i σ Hc hi⟨a,xs,ss,x6,x7,rfl,g,rcc,GO,Me,ls,eM,Ap⟩;refine aJ (aC ?_);refine aR ?_;refine⟨_,rfl,_,rfl,st,t,xp,ps,rfl,g.sa,GO,À,okp,λt' s' H6 d8 et sm=>?_⟩;have QA:=d8.rows g.sa rcc;have Mn:=d8.rows g.sa GO;have A4:=d8.rows g.sa Me;have gd:=g.trans d8;refine aJ ?_;dsimp only;have QB:∀s∈ss++[s'],smR s:=λs hs=>by grind
  have l5:(ss++[s']).length<=i+1:=by rw[ý];show ss.length+1<=_;omega
  have D8:=A4.l;refine⟨_,rfl,_,rfl,_,rfl,zL,λt1 Vx=>?_⟩;have m4:=Á.upd (o:=.tup [V.ref t']) Vx;refine⟨a,t1,xs,_,rfl,rfl,m4 _ _ A4.e,aa,by simp,by rw[D8,sizeLine_eq];show _+1<=_;lia,λc H7 s7 ec=>?_⟩;have Vy:=uc ((A4.same m4).same s7) (s7 _ _ (m4 _ _ et)) ec;refine⟨t,xp,ps,c,_,ss++[s'],rfl,(Mn.same m4).same s7,(by grind),okp,Vy,(by grind),λs hs=>(QB s hs).1,λtt fo H8 s8 Vz _=>?_⟩;have A5:=(m4.trans s7).trans s8;refine⟨tt,_,1,K33.unV (K33.un ps (ss++[s'])),rfl,rfl,Ì.of Vz,rfl,rfl,_,rfl,DR (λhb=>?_) λ_=>?_⟩;.refine aR ?_;refine⟨_,rfl,_,rfl,zL,λt2 Mo=>?_⟩;have m9:=Á.upd (o:=.tup [V.ref t']) Mo;refine⟨a,t2,xs,_,rfl,rfl,m9 _ _ (A5 _ _ A4.e),aa,by simp,by rw[D8,sizeLine_eq];show _+1<=_;omega,λc' H9 s9 VA=>?_⟩;have sQ:=(A5.trans m9).trans s9;exact⟨c',_,ss++[s'],_,_,rfl,gd.same sQ,QA.same sQ,Mn.same sQ,uc (A4.same sQ) (sQ _ _ et) VA,l5,QB,Gf hb⟩
  .exact⟨a,xs,ss,_,_,rfl,gd.same A5,QA.same A5,Mn.same A5,A4.same A5,À,eM,Ap⟩
 .rintro σ Hc⟨a,xs,ss,x6,x7,rfl,g,rcc,GO,Me,ls,eM,Ap⟩;refine⟨_,rfl,_,rfl,_,rfl,zL,λb hb=>?_⟩;have mb:=Á.upd (o:=.tup [V.ref ac,V.ref t,V.ref a]) hb;exact q b ac xc cs t xp ps a xs ss _ (g.new hb) aa (rcc.same mb) Qs Qt okc (GO.same mb) À okp (Me.same mb) z03 eM Ap
end
end K33Q
namespace K33
open PySem L2
def jM(L:VV)(i:Nat):UV:=((List.range i).filter λh=>decide (0<L.getD h 0)).map λ(h:Nat)=>[(h:Int),L.getD h 0]
theorem oZ(L:VV)(i:Nat):jM L (i+1)=jM L i++(if 0<L.getD i 0 then[[(i:Int),L.getD i 0]]else[]):=by
 unfold jM;rw[List.range_succ,Zbg,Ħ];congr 1;by_cases h:0<L.getD i 0;.rw[Í h,zBd (p:=λh=>decide (0<L.getD h 0)) (è h)];rfl
 .rw[Ë h,zBc (p:=λh=>decide (0<L.getD h 0)) (by rw[ċ];exact h)];rfl
theorem yV(L:VV)(i:Nat):(jM L i).length<=i:=by unfold jM;rw[Ý];have:=List.length_filter_le (λh=>decide (0<L.getD h 0)) (List.range i);rw[List.length_range]at this;exact this
def vo(ps ss:UV)(sort year:Int)(n:Nat):UV:=if fl (ps.getD n []) 1=sort then(jM (cO (ps.getD n []) ss n year) 8).map (λr=>year::(n:Int)::r)else[]
def sy(ps ss:UV)(sort year:Int):Nat->UV|0=>[]|k+1=>sy ps ss sort year k++vo ps ss sort year k
def aM(ps ss:UV)(sort year:Int):UV:=sy ps ss sort year ps.length
theorem Gg(ps ss:UV)(sort year:Int)(n:Nat):(vo ps ss sort year n).length<=8:=by
 unfold vo;split;.rw[Ý];exact yV _ 8
 .exact ħ _
theorem qY(ps ss:UV)(sort year:Int):∀k,(sy ps ss sort year k).length<=8*k|0=>Ø _|k+1=>by unfold sy;rw[ý];have:=qY ps ss sort year k;have:=Gg ps ss sort year k;grind
inductive Ř(vs:List V)(H:Hp)(Q:VK):Prop|mk:∀ap xp ps af xs ss sort year,(vs=[.ref ap,.ref af,.int sort,.int year])->(RowsAt H ap xp ps)->(ps.length<=10)->((∀r∈ps,okP r))->(RowsAt H af xs ss)->(ss.length<=12)->((∀s∈ss,okS s))->(∀l xl H',Á H H'->H l=none->H' l=some (.lst xl)->î H' xl (aM ps ss sort year)->Q (.ref l) H')->Ř  vs H Q
def qZ:Sp:=λvs H Q _=>Ř  vs H Q
theorem ndV:(["holder","sacks","year","number"]:ó).Nodup:=by decide+kernel
theorem Ϗ:Ã ["promises","sales","sort","year","claims","number","promise","held"] ["promises","sales","sort","year"] (az (top 55)):=ú
theorem Dj(F:ß K "claims_in" "claims_in" (top 55) f fd)(Te:mg "enumerate"=none)(c1:á P w K mg base 1 "held_in" ["promises","sales","number","year"] yU):Ê P w K mg base Þ 2 f fd ["promises","sales","sort","year"] qZ:=by
 refine F.oq Ϗ λcdv A outer s H vs Q E hr h=>?_;obtain⟨ap,xp,ps,af,xs,ss,sort,year,rfl,rp,lp,okp,rs,ls,eM,q⟩:=h;refine⟨_,aB (ě 4 Ϗ.nd (dJ aj)) (aB (cG ň rfl (ZT.pi_enum true rfl Te (aq (pv 0) aj)) (bR rfl (ao (bx (i:=5) Ϗ.nd rfl (Or.inr rfl)) (ao (Ô 6 Ϗ.nd) aX))) (aF (bT (aY iQ (pX bu (pv 6) au) (pv 2) (aW _)) (aB (ě 7 Ϗ.nd (aG c1 hr (aq (pv 0) (aq (pv 1) (aq (pv 5) (aq (pv 3) aj)))))) (aF (lw (i:=4) Ϗ.nd rfl (Or.inl rfl) (bY (g:=lR K 2 (bZ (bH 0) (bZ (bH 1) nH))) ["holder","sacks","year","number"] [none,none,some 3,some 5] rfl (ZT.pi_enum false rfl Te (aq (pv 7) aj)) (λC fp Â s₂ Ü=>⟨dX rfl rfl (ao (Ô 0 ndV) (ao (Ô 1 ndV) aX)),jT (aY jw (pv 1) au (aW _)),bB (aq (pv 2) (aq (pv 3) (aq (pv 0) (aq (pv 1) aj))))⟩) (λC=>cI (cI trivial)) ⟨rfl,rfl,rfl,rfl⟩) nZ))) bf))) (aF (aP (pv 4)))),?_⟩;refine aC (aR ?_);refine⟨zL,λl hl=>?_⟩;refine aJ ?_;dsimp only;refine aC ?_;have s0:=Á.upd (o:=.lst []) hl;refine⟨_,rfl,ap,xp,rfl,Ì.of (s0 _ _ rp.e),?_⟩;refine ZT.for_enum true (xs:=xp) (λi σ Hc=>Xe4 λx5 x6 x7 xl=>Xa4 (σ=[some (.ref ap),some (.ref af),some (.int sort),some (.int year),some (.ref l),x5,x6,x7]) ((∀b o,H b=some o->Hc b=some o)) (Hc l=some (.lst xl)) (î Hc xl (sy ps ss sort year i))) ?_ ?_ ?_ ?_;.exact⟨none,none,none,[],rfl,λb o e=>s0 _ _ e,aa,î.nil⟩
 .rintro i σ Hc hi⟨x5,x6,x7,xl,rfl,k,el,ht⟩;exact Ì.of (k _ _ rp.e)
 .rintro i x σ Hc T0 hx⟨x5,x6,x7,xl,rfl,k,el,ht⟩nT;have hi:i<ps.length:=by have:=(ġ.mp hx).1;rw[rp.l]at this;exact this
  obtain⟨tr,fv,bp⟩:=rp.g i ps[i] (é hi);have:x=.ref tr:=by rw[hx]at fv;exact ĭ fv
  subst this;have op:=okp ps[i] (į hi);have ep:ps.getD i []=ps[i]:=ð hi;rw[six_row op.1]at bp;have sT:=Á.upd (o:=.tup [V.int i,V.ref tr]) nT;have kT:Á H (upd Hc T0 (.tup [V.int i,V.ref tr])):=λb o e=>sT _ _ (k _ _ e);have MA:=sT _ _ el;have MB:=ht.same sT;have eT:=aa (H:=Hc) (a:=T0) (o:=.tup [V.int i,V.ref tr]);generalize upd Hc T0 (.tup [V.int i,V.ref tr])=H1 at kT MA MB eT⊢;refine⟨T0,_,rfl,Ì.of eT,rfl,_,_,rfl,_,_,rfl,rfl,?_⟩;refine⟨_,rfl,tr,_,1,.int (fl ps[i] 1),rfl,rfl,Ì.of (kT _ _ bp),rfl,_,rfl,rfl,_,rfl,?_⟩;by_cases hs:fl ps[i] 1=sort
  .rw[è (by rw[hs])];refine bj (aC ?_);refine aR ?_;refine⟨_,rfl,_,rfl,_,rfl,_,rfl,ap,xp,ps,af,xs,ss,i,year,rfl,rp.same kT,rs.same kT,Ò,À,by rw[Ϟ,ep];exact op,ls,eM,λhd H2 s2 e2=>?_⟩;rw[Ϟ,ep]at e2;have Qh:=gW ps[i] ss i year;have QC:vo ps ss sort year i=(jM (cO ps[i] ss i year) 8).map (λr=>year::(i:Int)::r):=by unfold vo;rw[ep,Í hs]
   generalize cO ps[i] ss i year=L at e2 Qh QC;have k2:=kT.trans s2;have Ş:=s2 _ _ MA;have Mo:=MB.same s2;refine aJ ?_;dsimp only;refine⟨_,rfl,_,rfl,hd,_,rfl,Ï.of e2,j9 8 (λj ys σ Hj=>Á H2 Hj/\(∃o1 o2,σ=[o1,o2,some (.int year),some (.int i)])/\î Hj ys ((jM L j).map (λr=>year::(i:Int)::r))) ⟨Á.refl _,⟨_,_,rfl⟩,î.nil⟩ (by rw[sizeLine_eq];decide) ?_ ?_⟩
   .rintro j ys σ Hj hj hy⟨sc,⟨o1,o2,rfl⟩,qE⟩;have ot:Ï K Hj hd (L.map V.int):=Ï.of (sc _ _ e2);have QD:(L.map V.int)[j]?=some (.int (L.getD j 0)):=by simp_all
    refine⟨⟨_,_,ot,QD⟩,λx H' yv R hR=>?_⟩;obtain⟨T1,MC,rfl,yv⟩:=yv;obtain⟨x',dv,rfl⟩:=yv _ ot;rw[QD]at dv;cases dv;have va:=sc.updR (o:=.tup [.int (j:Int),.int (L.getD j 0)]) MC;refine⟨T1,_,rfl,Ì.of aa,rfl,_,_,rfl,_,_,rfl,rfl,?_⟩;refine⟨_,rfl,_,_,rfl,rfl,_,rfl,?_⟩;by_cases ay:0<L.getD j 0;.rw[è ay];refine bj ⟨_,rfl,_,rfl,_,rfl,_,rfl,zL,λt kP=>hR _ _ _ (by rw[ý];show ys.length+1<=j+1;omega) ⟨va.updR kP,⟨_,_,rfl⟩,?_⟩⟩;rw[oZ,Í ay,Ħ];exact((qE.same (Á.upd MC)).same (Á.upd kP)).app (î.one aa)
    .rw[ĉ ay];refine aZ (hR _ _ _ À ⟨va,⟨_,_,rfl⟩,?_⟩);rw[oZ,Ë ay,ļ];exact qE.same (Á.upd MC)
   .rintro ys σ Hj hy⟨sc,_,qE⟩;refine⟨⟨_,Ï.of (sc _ _ e2),by rw[Ý];lia⟩,λD hD=>?_⟩;have sD:=sc.updR (o:=.lst ys) hD;have nD:D≠l:=λz=>by rw[z,sc _ _ Ş]at hD;cases hD
    have ll:=qY ps ss sort year i;have:=ht.1;refine⟨l,D,xl,ys,rfl,rfl,sD _ _ Ş,aa,by rw[sizeLine_eq];lia,?_⟩;refine⟨_,_,_,xl++ys,rfl,λb o e=>?_,aa,?_⟩;.rw[aA (aD e hl)];exact sD _ _ (k2 _ _ e)
    .have e3:=(Mo.same sD).app (qE.same (Á.upd (o:=.lst ys) hD));rw[<-QC]at e3;refine e3.keep λb z e=>?_;rw[aA λw=>by rw[w,sD _ _ Ş]at e;cases e];exact e
  .rw[ĉ (λz=>hs (by injection z))];refine aZ ?_;refine⟨_,_,_,xl,rfl,λb o e=>kT _ _ e,MA,?_⟩;have:sy ps ss sort year (i+1)=sy ps ss sort year i:=by show sy ps ss sort year i++vo ps ss sort year i=_;unfold vo;rw[ep,Ë hs,ļ]
   rw[this];exact MB
 .rintro σ Hc⟨x5,x6,x7,xl,rfl,k,el,ht⟩;rw[show xp.length=ps.length from rp.l]at ht;exact⟨_,rfl,q l xl Hc (λb o e=>k b o e) hl el ht⟩
theorem Ġ:∀(L:VV)(i:Nat)(a:Int),i<L.length->(L.set i a).sum=L.sum-L.getD i 0+a|[],i,a,h=>by simp at h;|x::L,0,a,h=>by grind;|x::L,i+1,a,h=>by rw[List.set_cons_succ,ζ,ζ,List.getD_cons_succ,Ġ L i a (by simpa using h)];lia
theorem xO(h:i.toNat<L.length):(gM L i v).sum=L.sum+v:=by unfold gM;rw[Ġ _ _ _ h];lia
theorem lK:∀{L:VV},(∀x∈L,0<=x)->0<=L.sum/\∀x∈L,x<=L.sum
 |[],_=>⟨Za5 _,λx hx=>by cases hx⟩|y::L,h=>by
  obtain⟨h1,h2⟩:=lK (L:=L) λx hx=>h x (.tail _ hx);have hy:=h y (.head _);rw[ζ];refine⟨À,λx hx=>?_⟩;rcases Ļ.mp hx with z|z;.lia
  .have:=h2 x z;grind
theorem pM{L:VV}(h:∀x∈L,0<=x)(i:Nat):0<=L.getD i 0:=by rw[ŧ];cases e:L[i]? with|none=>exact Za5 _;|some y=>exact h y (Ŋ e)
theorem Ba(h:∀x∈L,0<=x)(hv:0<=L.getD i.toNat 0+v):∀x∈gM L i v,0<=x:=by
 intro x hx;rcases List.mem_or_eq_of_mem_set hx with z|z;.exact h x z
 .rw[z];exact hv
theorem Gh(h:un ps ss=none):∀j,j<ss.length->cN ps (ss.take j) (ss.getD j [])=true:=λj hj=>by have:=List.find?_eq_none.mp h j (ϡ.mpr hj);simpa using this
theorem mX(hu:un ps ss=none)(h5:∀s∈ss,s.length=5)(op:okP (ps.getD n [])):∀k,k<=ss.length->(∀x∈cO (ps.getD n []) (ss.take k) n y,0<=x)/\(cO (ps.getD n []) (ss.take k) n y).sum<=99:=by
 intro k;by_cases hy:fl (ps.getD n []) 2<=y/\y<=fl (ps.getD n []) 3
 .obtain⟨_,⟨a1,a2⟩,_,_,⟨e1,e2⟩,_⟩:=id op
  induction k with|zero=>
   intro _;rw[List.take_zero];unfold cO;rw[Í hy];show(∀x∈ĝ (ps.getD n []),0<=x)/\(ĝ (ps.getD n [])).sum<=99;unfold ĝ;refine⟨λx hx=>?_,?_⟩
   .rcases List.mem_or_eq_of_mem_set hx with z|z;.rw[Zbe z];exact Za5 _
    .lia
   .rw[Ġ _ _ _ (by rw[Za7];grind)];have:(List.replicate 8 (0:Int)).sum=0:=rfl;have e:(List.replicate 8 (0:Int)).getD (fl (ps.getD n []) 0).toNat 0=0:=by grind
    rw[this,e];lia;|succ k ih=>
   intro hk;have eC:k<ss.length:=À;obtain⟨i1,i2⟩:=ih À;have hB:=Gh hu k eC;rw[ð eC]at hB;have fI:ss.take (k+1)=ss.take k++[ss[k]]:=by rw[ŋ,é eC];rfl
   have eh:cO (ps.getD n []) (ss.take (k+1)) n y=ï n y (cO (ps.getD n []) (ss.take k) n y) ss[k]:=by unfold cO;rw[Í hy,Í hy,fI,List.foldl_append];rfl
   have VB:=qW (h5 _ (į eC)) hB;obtain⟨_,⟨b1,b2⟩,c1,c2⟩:=VB;have hl:=gW (ps.getD n []) (ss.take k) n y;rw[eh];unfold ï;by_cases hc:fl ss[k] 0=n/\fl ss[k] 4<=y
   .rw[Í hc];unfold cN at hB;rw[ą]at hB;obtain⟨oj,DC⟩:=hB;have ep:vg ps ss[k]=ps.getD n []:=by unfold vg;rw[hc.1,Ϟ]
    have mh:fl ss[k] 3<=(cO (ps.getD n []) (ss.take k) n y).getD (fl ss[k] 1).toNat 0:=by
     have:=ŀ.mp DC y (by
      unfold years;refine Ā.mpr ⟨(y-fl ss[k] 4).toNat,ϡ.mpr ?_,?_⟩;.rw[ep];lia
      .lia);have:=ώ this;rw[ep,hc.1]at this;exact this
    unfold xK at oj;simp only[Bool.and_eq_true,ċ,Bool.not_eq_true',decide_eq_false_iff_not]at oj;obtain⟨_,_,_,nab,⟨v1,v2⟩,_⟩:=oj;generalize cO (ps.getD n []) (ss.take k) n y=L at i1 i2 hl mh;have n1:=Ba (i:=fl ss[k] 1) (v:=-(fl ss[k] 3)) i1 À;refine⟨Ba n1 ?_,?_⟩;.have:=pM n1 (fl ss[k] 2).toNat;grind
    .rw[xO (by rw[j7];simp_all),xO (by grind)];lia
   .rw[Ë hc];exact⟨i1,i2⟩
 .intro _;unfold cO;rw[Ë hy];refine⟨λx hx=>by rw[Zbe hx];exact Za5 _,by decide⟩
theorem K4(hu:un ps ss=none)(h5:∀s∈ss,s.length=5)(okp:∀r∈ps,okP r):∀k,k<=ps.length->∀r∈sy ps ss sort year k,r.length=4/\1<=fl r 3/\fl r 3<=99/\fl r 0=year/\0<=fl r 1/\fl r 1<k:=by intro k;induction k with|zero=>intro _ r hr;cases hr;|succ k ih=>
  intro hk r hr;rcases Ą.mp (hr)with z|z;.obtain⟨h1,h2,h3,h4,h6,h7⟩:=ih z03 r z;exact⟨h1,h2,h3,h4,h6,À⟩
  .unfold vo at z;split at z
   .obtain⟨q,hq,rfl⟩:=Ā.mp z;obtain⟨h,hh,rfl⟩:=Ā.mp hq;have hp:=ώ (Ϝ.mp hh).2;have eC:k<ps.length:=À;obtain⟨a,b⟩:=mX (n:=k) (y:=year) hu h5 (by rw[ð eC];exact okp _ (į eC)) ss.length (Ø _);rw[Ľ]at a b;have le:(cO (ps.getD k []) ss k year).getD h 0<=99:=by rw[ŧ]at hp⊢;cases e:(cO (ps.getD k []) ss k year)[h]? with|none=>show(0:Int)<=99;decide;|some y=>have:=(lK a).2 y (Ŋ e);show y<=99;lia
    refine⟨rfl,?_,le,rfl,?_,?_⟩;.show 1<=(cO (ps.getD k []) ss k year).getD h 0;lia
    .show(0:Int)<=(k:Int);simp
    .show(k:Int)<((k+1:Nat):Int);grind
   .cases z
end K33
namespace K33P
open PySem L2
theorem Ġ:∀{l:VV}{i:Nat}{x:Int},i<l.length->(l.set i (l.getD i 0+x)).sum=l.sum+x|a::l,0,x,_=>by simp;lia;|a::l,i+1,x,h=>by have:=Ġ (l:=l) (i:=i) (x:=x) (by simpa using h);simp only[List.set_cons_succ,List.sum_cons,List.getD_cons_succ];lia
theorem ue:∀(pl:List Nat)(l:VV),(∀i∈pl,i<l.length)->(fj l pl).sum=l.sum+pl.length|[],l,_=>by simp[fj];|i::pl,l,h=>by show(fj (l.set i (l.getD i 0+1)) pl).sum=_;rw[ue pl _ λj hj=>by rw[Za2];exact h j (.tail _ hj),Ġ (h i (.head _)),ľ];lia
theorem res_sum(ok:OkW ws):(res n ws).sum=n:=by have o:=(jJ (rs n ws)).choose_spec;have hl:=o.len;rw[oA]at hl;have l0:=Fx (n:=n) ok;have l1:=JZ (n:=n) ok;unfold res;rw[ue _ _ λi hi=>by rw[v7];have:=o.lt i (Zan hi);rw[oA]at this;exact this,İ,Nat.min_eq_left À];have:lf n ws=n-(fs n ws).sum:=rfl;lia
end K33P
namespace K33
open PySem L2
theorem rm:∀{w:Int}{rs:UV},0<=w->(∀r∈rs,0<=fl r 3)->(∀x∈dI w rs,0<=x)/\0<=(dI w rs).sum/\(dI w rs).sum<=w
 |w,[],h,_=>⟨λx hx=>(by cases hx),Za5 _,h⟩|w,r::rs,h,hr=>by
  have h3:=hr r (.head _);unfold dI;by_cases hc:w<fl r 3
  .rw[Í hc];obtain⟨a,b,c⟩:=rm (w:=w-w) (rs:=rs) Ò λq hq=>hr q (.tail _ hq);refine⟨λx hx=>?_,by rw[ζ];lia,by rw[ζ];omega⟩;rcases Ļ.mp hx with z|z;.lia
   .exact a x z
  .rw[Ë hc];obtain⟨a,b,c⟩:=rm (w:=w-fl r 3) (rs:=rs) À λq hq=>hr q (.tail _ hq);refine⟨λx hx=>?_,by rw[ζ];lia,by rw[ζ];grind⟩;rcases Ļ.mp hx with z|z;.lia
   .exact a x z
theorem Bb:∀{rs:UV}{sh:VV},sh.length=rs.length->(∀x∈sh,0<=x)->gO (iu (rs.zip sh))=sh.sum
 |[],[],_,_=>rfl|[],_::_,h,_=>by simp at h;|_::_,[],h,_=>by simp at h;|r::rs,x::sh,h,hn=>by
  have ih:=Bb (rs:=rs) (sh:=sh) (by simpa using h) λy hy=>hn y (.tail _ hy);have hx:=hn x (.head _);rw[List.zip_cons_cons,ζ,<-ih];unfold iu;by_cases hp:0<x;.rw[zBd (p:=λ(p:VV×Int)=>decide (0<p.2)) (è hp),ϝ];unfold gO Ģ;rw[ϝ,ζ];rfl
  .rw[zBc (p:=λ(p:VV×Int)=>decide (0<p.2)) (by rw[ċ];exact hp)];have:x=0:=À;rw[this,Int.zero_add]
theorem Gi{cl ow:UV}(hw:0<=w)(hc:∀r∈cl,r.length=4/\1<=fl r 3/\fl r 3<=99)(hz:cl.length<=80)(ho:∀r∈ow,0<=fl r 3):(∀x∈ę w cl ow,0<=x)/\0<=(ę w cl ow).sum/\(ę w cl ow).sum<=w:=by
 have hs:(∀x∈bO w cl,0<=x)/\(bO w cl).sum<=w:=by
  unfold bO;by_cases h:(Ģ cl).sum<=w;.rw[Í h];refine⟨λx hx=>?_,h⟩;obtain⟨r,hr,rfl⟩:=Ā.mp hx;have:=(hc r hr).2.1;lia
  .rw[Ë h];have ok:K33P.OkW (Ģ cl):=by
    refine⟨?_,by unfold Ģ;rw[Ý];exact hz,λx hx=>?_⟩;.cases hJ:cl with|nil=>rw[hJ]at h;exact absurd hw h;|cons r AY=>unfold Ģ;rw[Ý,ľ];simp
    .obtain⟨r,hr,rfl⟩:=Ā.mp hx;exact(hc r hr).2
   refine⟨λx hx=>?_,by rw[K33P.res_sum ok];exact Za5 _⟩;obtain⟨i,hi,e⟩:=Zaw hx;have kg:i<(Ģ cl).length:=by rw[K33P.res_len]at hi;exact hi
   exact(K33P.res_get ok hw À (i:=i) (r:=x) (w:=(Ģ cl)[i]) (by rw[é hi,e]) (é kg)).1
 obtain⟨h1,h2⟩:=hs;have h3:=(lK h1).1;obtain⟨m1,m2,m3⟩:=rm (w:=w-(bO w cl).sum) (rs:=ow) À ho;unfold ę;refine⟨λx hx=>(Ą.mp hx).elim (h1 x) (m1 x),?_,?_⟩;.rw[List.sum_append];lia
 .rw[List.sum_append];lia
theorem Ji{cl ow:UV}(hw:0<=w)(hc:∀r∈cl,r.length=4/\1<=fl r 3/\fl r 3<=99)(hz:cl.length<=80)(ho:∀r∈ow,0<=fl r 3):gO (iu ((cl++ow).zip (ę w cl ow)))=(ę w cl ow).sum/\0<=w-gO (iu ((cl++ow).zip (ę w cl ow))):=by obtain⟨a,b,c⟩:=Gi hw hc hz ho;have e:=Bb (rs:=cl++ow) (sh:=ę w cl ow) (by unfold ę;rw[ý,ý,Đ,j8]) a;exact⟨e,by rw[e];grind⟩
def Ξ(a b:VV):Bool:=!HT.lexLt b a
theorem Mf(a b c:VV)(h1:Ξ a b=true)(h2:Ξ b c=true):Ξ a c=true:=by unfold Ξ at*;rw[Zaz]at*;cases h:HT.lexLt c a with|false=>rfl;|true=>
  rcases Ag c b a h with z|z;.rw[z]at h2;cases h2
  .rw[z]at h1;cases h1
theorem Jj(a b:VV):(Ξ a b||Ξ b a)=true:=by unfold Ξ;cases h:HT.lexLt b a with|false=>rfl;|true=>cases h':HT.lexLt a b with|false=>rfl;|true=>have:=uT a b a h' h;rw[uR]at this;cases this
def Ζ(rs:UV):UV:=rs.mergeSort Ξ
theorem Gj(pm:AY.Perm rs)(so:AY.Pairwise (λa b=>HT.lexLt b a=false)):AY=Ζ rs:=by
 have VC:AY.Pairwise (λa b=>Ξ a b=true):=so.imp λ{a b}h=>by unfold Ξ;rw[h];rfl
 refine List.Perm.eq_of_pairwise (le:=λa b=>Ξ a b=true) (λa b _ _ h1 h2=>?_) VC (List.pairwise_mergeSort Mf Jj rs) (pm.trans (List.mergeSort_perm rs Ξ).symm);unfold Ξ at h1 h2;rw[Zaz]at h1 h2;exact pJ a b h2 h1
structure Yr where
 g:UV
 k:UV
 l:VV
 d:Int
def aO(ps ow:UV)(sort:Int):UV:=ow.filter λr=>decide (fl (ps.getD (fl r 1).toNat []) 1=sort)
def OD(c:VV)(ps ss ow:UV)(y:Int)(a:Yr)(sort:Nat):Yr:=⟨a.g++iu ((aM ps ss sort y++aO ps ow sort).zip (ę (c.getD sort 0+a.d) (aM ps ss sort y) (aO ps ow sort))),a.k++iG ((aM ps ss sort y++aO ps ow sort).zip (ę (c.getD sort 0+a.d) (aM ps ss sort y) (aO ps ow sort))),a.l++[c.getD sort 0+a.d-gO (iu ((aM ps ss sort y++aO ps ow sort).zip (ę (c.getD sort 0+a.d) (aM ps ss sort y) (aO ps ow sort))))],c.getD sort 0+a.d-gO (iu ((aM ps ss sort y++aO ps ow sort).zip (ę (c.getD sort 0+a.d) (aM ps ss sort y) (aO ps ow sort))))⟩
def ê(c:VV)(ps ss ow:UV)(y:Int):Nat->Yr|0=>⟨[],[],[],0⟩|n+1=>OD c ps ss ow y (ê c ps ss ow y n) n
def okO(ps:UV)(r:VV):Prop:=r.length=4/\0<=fl r 1/\fl r 1<ps.length/\1<=fl r 3
theorem nu{ps ow:UV}(h:∀r∈ow,okO ps r):∀r∈aO ps ow sort,okO ps r:=λr hr=>h r (Ϝ.mp hr).1
theorem uf(ps ow:UV)(sort:Int):(aO ps ow sort).length<=ow.length:=List.length_filter_le _ _
theorem jZ(hu:un ps ss=none)(h5:∀s∈ss,s.length=5)(okp:∀r∈ps,okP r):∀r∈aM ps ss sort year,r.length=4/\1<=fl r 3/\fl r 3<=99:=λr hr=>by obtain⟨a,b,c,_⟩:=K4 (sort:=sort) (year:=year) hu h5 okp ps.length (Ø _) r hr;exact⟨a,b,c⟩
theorem eQ(h:ps.length<=10):(aM ps ss sort year).length<=80:=by have:=qY ps ss sort year ps.length;unfold aM;lia
theorem Mi{ps ss ow:UV}(hc:∀x∈c,0<=x)(hu:un ps ss=none)(h5:∀s∈ss,s.length=5)(okp:∀r∈ps,okP r)(hl:ps.length<=10)(ho:∀r∈ow,okO ps r):∀n,0<=(ê c ps ss ow y n).d
 |0=>Za5 _|n+1=>by
  have ih:=Mi (y:=y) hc hu h5 okp hl ho n;have hw:0<=c.getD n 0+(ê c ps ss ow y n).d:=by have:=pM hc n;omega
  exact(Ji hw (jZ hu h5 okp) (eQ hl) λr hr=>by have:=(nu ho r hr).2.2.2;lia).2
end K33
open K33P (Ć)
namespace K33
open PySem L2
theorem Bc(P:List (VV×Int)):(iu P).length<=P.length:=by unfold iu;rw[Ý];exact List.length_filter_le _ _
theorem rz(P:List (VV×Int)):(iG P).length<=P.length:=by unfold iG;rw[Ý];exact List.length_filter_le _ _
theorem Gk(hl:ps.length<=10):∀n,(ê c ps ss ow y n).g.length<=n*(80+ow.length)/\(ê c ps ss ow y n).k.length<=n*(80+ow.length)/\(ê c ps ss ow y n).l.length=n
 |0=>⟨ħ _,ħ _,rfl⟩|n+1=>by
  obtain⟨a,b,d⟩:=Gk (c:=c) (ss:=ss) (ow:=ow) (y:=y) hl n;have h1:=eQ (ss:=ss) (sort:=n) (year:=y) hl;have h2:=uf ps ow n;have hz:∀sh:VV,((aM ps ss n y++aO ps ow n).zip sh).length<=80+ow.length:=λsh=>by rw[zAs,ý];lia
  rw[Nat.succ_mul];refine⟨?_,?_,?_⟩;.show((ê c ps ss ow y n).g++iu _).length<=_;rw[ý];have:=Bc ((aM ps ss n y++aO ps ow n).zip (ę (c.getD n 0+(ê c ps ss ow y n).d) (aM ps ss n y) (aO ps ow n)));have:=hz (ę (c.getD n 0+(ê c ps ss ow y n).d) (aM ps ss n y) (aO ps ow n));lia
  .show((ê c ps ss ow y n).k++iG _).length<=_;rw[ý];have:=rz ((aM ps ss n y++aO ps ow n).zip (ę (c.getD n 0+(ê c ps ss ow y n).d) (aM ps ss n y) (aO ps ow n)));have:=hz (ę (c.getD n 0+(ê c ps ss ow y n).d) (aM ps ss n y) (aO ps ow n));lia
  .show((ê c ps ss ow y n).l++[_]).length=n+1;rw[ý,d];rfl
theorem Z03:∀n,(∀r∈(ê c ps ss ow y n).g,r.length=4)/\∀r∈(ê c ps ss ow y n).k,r.length=4
 |0=>⟨λr hr=>(by cases hr),λr hr=>(by cases hr)⟩|n+1=>by
  obtain⟨a,b⟩:=Z03 (c:=c) (ps:=ps) (ss:=ss) (ow:=ow) (y:=y) n;refine⟨λr hr=>?_,λr hr=>?_⟩
  .rcases Ą.mp (hr)with z|z;.exact a r z
   .obtain⟨p,_,rfl⟩:=Ā.mp z;rfl
  .rcases Ą.mp (hr)with z|z;.exact b r z
   .obtain⟨p,_,rfl⟩:=Ā.mp z;rfl
def vInt:V->Int|.int i=>i|_=>0
def oJ(H:Hp)(a:Addr):VV:=match H a with|some (.tup xs)=>xs.map vInt|_=>[]
theorem Jk(e:H a=some (.tup (r.map V.int))):oJ H a=r:=by unfold oJ;rw[e];show(r.map V.int).map vInt=r;rw[zAr];exact List.map_id _
theorem vp:∀{xs:List V}{rs:UV},î H xs rs->∃ads:ă,xs=ads.map V.ref/\rs=ads.map (oJ H)/\∀a∈ads,H a=some (.tup ((oJ H a).map V.int))
 |[],[],_=>⟨[],rfl,rfl,λa ha=>(by cases ha)⟩|[],_::_,h=>by have:=h.1;simp at this;|_::_,[],h=>by have:=h.1;simp at this;|x::xs,r::rs,h=>by
  obtain⟨t,e1,e2⟩:=h.2 0 r rfl;cases e1;obtain⟨ads,f1,f2,f3⟩:=vp (xs:=xs) (rs:=rs) ⟨by have:=h.1;simpa using this,λi q e=>by obtain⟨u,g1,g2⟩:=h.2 (i+1) q (by rw[List.getElem?_cons_succ];exact e);exact⟨u,g1,g2⟩⟩;have er:=Jk e2;refine⟨t::ads,by rw[f1];rfl,by rw[f2,ϝ,er],λa ha=>?_⟩;rcases Ļ.mp ha with z|z;.rw[z,er];exact e2
  .exact f3 a z
theorem Gm{l':ă}(h:∀a∈l',H' a=some (.tup ((oJ H a).map V.int))):î H' (l'.map V.ref) (l'.map (oJ H)):=by refine⟨by rw[Ý,Ý],λi r e=>?_⟩;rw[ģ]at e;cases z:l'[i]? with|none=>rw[z]at e;cases e;|some a=>rw[z]at e;cases e;exact⟨a,by rw[ģ,z];rfl,h a (Ŋ z)⟩
inductive θ(vs:List V)(H:Hp)(Q:VK):Prop|mk:∀bk y lo ac xc cs ap xp ps af xs ss xo ow,(vs=[.ref bk,.int y,.ref lo])->(H bk=some (.tup [.ref ac,.ref ap,.ref af]))->(RowsAt H ac xc cs)->((∀r∈cs,r.length=3/\∀x∈r,0<=x))->(0<=y)->(y<cs.length)->(RowsAt H ap xp ps)->(ps.length<=10)->((∀r∈ps,okP r))->(RowsAt H af xs ss)->(ss.length<=12)->((∀s∈ss,s.length=5))->(un ps ss=none)->(H lo=some (.lst xo))->(î H xo ow)->((∀r∈ow,okO ps r))->(ow.length<=10000)->(∀t g k tl xg xk H',Á H H'->H' t=some (.tup [.ref g,.ref k,.ref tl])->H g=none->H k=none->(g≠sysModules/\k≠sysModules)->H' g=some (.lst xg)->î H' xg (Ζ (ê (cs.getD y.toNat []) ps ss ow y 3).g)->H' k=some (.lst xk)->î H' xk (Ζ (ê (cs.getD y.toNat []) ps ss ow y 3).k)->H' tl=some (.tup ((ê (cs.getD y.toNat []) ps ss ow y 3).l.map V.int))->Q (.ref t) H')->θ  vs H Q
def Gn:Sp:=λvs H Q _=>θ  vs H Q
theorem Be(h:un ps ss=none)(h5:∀s∈ss,s.length=5):∀s∈ss,okS s:=λs hs=>by obtain⟨j,hj,e⟩:=Zaw hs;have:=Gh h j hj;rw[ð hj,e]at this;exact qW (h5 s hs) this
theorem gen_ts{tb:TS}(R:Hp->Prop)(h:R H)(g:∀H,R H->tb D σ H):tb D σ H:=g H h
theorem ndZ:(["row","promises","sort"]:ó).Nodup:=by decide+kernel
theorem Ĝ:Ã ["book","year","owed","clips","promises","sales","gifts","lacking","left","down","sort","wool","claims","ahead","given","lacked"] ["book","year","owed"] (az (top 59)):=ú
theorem Jl(F:ß K "year_given" "year_given" (top 59) f fd)(T:Mg mg)(N:Nums mg)(Tr:mg "range"=none)(Ts:mg "sorted"=none)(c1:á P w K mg base 2 "claims_in" ["promises","sales","sort","year"] qZ)(c2:á P w K mg base 8 "sort_given" ["wool","claims","owed"] G6)(c3:á P w K mg base 1 "sacks_of" ["rows"] Ay):Ê P w K mg base Þ 9 f fd ["book","year","owed"] Gn:=by
 refine F.oq Ĝ λcdv A outer s H vs Q E hr h=>?_;obtain⟨bk,y,lo,ac,xc,cs,ap,xp,ps,af,xs,ss,xo,ow,rfl,eb,rc,okc,y0,y1,rp,lp,okp,rs,ls,h5,hu,eo,sx,mB,U4,q⟩:=h;obtain⟨t3,e3⟩:=N.sorts;refine K33P.ok_b (aH ⟨cP (pv 0) (bR rfl (ao (Ô 3 Ĝ.nd) (ao (bx (i:=4) Ĝ.nd rfl (Or.inr rfl)) (ao (Ô 5 Ĝ.nd) aX))))⟩ (aH (fX 6 Ĝ.nd (cA bw)) (aH (fX 7 Ĝ.nd (cA bw)) (aH (fX 8 Ĝ.nd (cA bw)) (aH (fX 9 Ĝ.nd fK) (aH ⟨cG ň rfl (cY rfl Tr (aq (bQ (v:=.int 3) rfl e3 ⟨_,rfl⟩) aj)) (bx (i:=10) Ĝ.nd rfl (Or.inr rfl)) (kW (aH (fX 11 Ĝ.nd (iy bU (mD bu (mD bu ⟨pv 3⟩ ⟨pv 1⟩ (λ_ _=>rfl)) ⟨pv 10⟩ (λ_ _=>rfl)) ⟨pv 9⟩)) (aH (fX 12 Ĝ.nd ⟨aG c1 hr (aq (pv 4) (aq (pv 5) (aq (pv 10) (aq (pv 1) aj))))⟩) (aH ⟨jU (i:=13) ["row","promises","sort"] [none,some 4,some 10] rfl Ĝ.nd rfl (Or.inl rfl) (dC (pv 2)) (λC fp Â s₂ Ü=>⟨Ô 0 ndZ,jT (aY iQ (pX (K33P.ix_tupK (K:=K) rfl) (pX (K33P.ix_tupK (K:=K) rfl) (pv 1) (pX (K33P.ix_tupK (K:=K) rfl) (pv 0) au)) au) (pv 2) (aW _)),pv 0⟩) (λC=>cI (cI trivial)) ⟨rfl,rfl,rfl,rfl⟩⟩ (aH ⟨cP (aG c2 hr (aq (pv 11) (aq (pv 12) (aq (pv 13) aj)))) (bR rfl (ao (Ô 14 Ĝ.nd) (ao (Ô 15 Ĝ.nd) aX)))⟩ (aH (fX 9 Ĝ.nd (iy dZ ⟨pv 11⟩ ⟨aG c3 hr (aq (pv 14) aj)⟩)) (aH ⟨lw (i:=6) Ĝ.nd rfl (Or.inl rfl) (pv 14) nZ⟩ (aH ⟨lw (i:=7) Ĝ.nd rfl (Or.inl rfl) (pv 15) nZ⟩ (bz ⟨cB (qd zBb zBg zBf iV (pv 8) (aq (pv 9) aj))⟩)))))))))⟩ (bz (fW (ik (aU ⟨aK iJ rfl Ts Ć (aq (pv 6) aj)⟩ (aU ⟨aK iJ rfl Ts Ć (aq (pv 7) aj)⟩ (aU ⟨cH cZ rfl T.tuple Õ (aq (pv 8) aj)⟩ bw)))))))))))) ?_;refine aC ?_;refine⟨_,rfl,bk,_,rfl,Ì.of eb,rfl,_,_,rfl,_,_,rfl,_,_,rfl,rfl,?_⟩;dsimp only;refine aC (aR ?_);refine⟨zL,λlg MD=>?_⟩;refine aJ ?_;dsimp only;refine aC (aR ?_);refine⟨zL,λlk AM=>?_⟩;refine aJ ?_;dsimp only;refine aC (aR ?_);refine⟨zL,λll iP=>?_⟩;refine aJ ?_;dsimp only;refine aC (aR ?_);refine aJ ?_;dsimp only;have s1:=Á.upd (o:=.lst []) MD;have s2:=Á.upd (o:=.lst []) AM;have s3:=Á.upd (o:=.lst []) iP;have VD:H lg=none:=MD;have VF:H lk=none:=s1.free AM;have ME:H ll=none:=(s1.trans s2).free iP;have QE:lg≠lk:=λz=>by rw[<-z,aa]at AM;cases AM
 have QF:lk≠ll:=λz=>by rw[<-z,aa]at iP;cases iP
 have QG:lg≠ll:=λz=>by rw[<-z,s2 _ _ aa]at iP;cases iP
 refine gen_ts (λH1=>Á H H1/\H1 lg=some (.lst [])/\H1 lk=some (.lst [])/\H1 ll=some (.lst [])) ⟨(s1.trans s2).trans s3,s3 _ _ (s2 _ _ aa),s3 _ _ aa,aa⟩ λH1=>?_;rintro⟨k1,uj,VG,ŉ⟩;clear s1 s2 s3 MD AM iP;have MG:y.toNat<cs.length:=(by grind);obtain⟨tc,EK,QH⟩:=rows_at rc y0 (show cs[y.toNat]?=some cs[y.toNat]from é MG);have VH:cs.getD y.toNat []=cs[y.toNat]:=ð MG;have As:=okc _ (į MG);rw[VH]at q;generalize cs[y.toNat]=c at q QH As;have eM:=Be hu h5;refine aC ?_;refine⟨3,rfl,by decide,by decide,?_⟩;refine eV (lo:=0) (λi σ Hc=>Xe8 λfw fS f7 gc gg gi xg xk=>Xa7 (σ=[some (.ref bk),some (.int y),some (.ref lo),some (.ref ac),some (.ref ap),some (.ref af),some (.ref lg),some (.ref lk),some (.ref ll),some (.int (ê c ps ss ow y i).d),fw,fS,f7,gc,gg,gi]) (Á H Hc) (Hc lg=some (.lst xg)) (î Hc xg (ê c ps ss ow y i).g) (Hc lk=some (.lst xk)) (î Hc xk (ê c ps ss ow y i).k) (Hc ll=some (.lst ((ê c ps ss ow y i).l.map V.int)))) ?_ ?_ ?_;.exact⟨none,none,none,none,none,none,[],[],rfl,k1,uj,î.nil,VG,î.nil,ŉ⟩
 .rintro i σ Hc hi⟨fw,fS,f7,gc,gg,gi,xg,xk,rfl,k,eg,mw,ek,fx,el⟩;have hi:i<3:=hi;obtain⟨yl1,yl2,VI⟩:=Gk (c:=c) (ss:=ss) (ow:=ow) (y:=y) lp i;refine aJ ?_;have z0:(0:Int)+(i:Int)=i:=Ò;rw[z0];refine rd_E λDe ML=>?_;have VJ:(c.map V.int)[i]?=some (.int (c.getD i 0)):=by have eC:i<c.length:=À;rw[ģ,ŧ,é eC];rfl
  refine aC (aR ?_);refine⟨_,rfl,_,rfl,ac,xc,y,.ref tc,rfl,rfl,Ì.of (k _ _ rc.e),EK,_,rfl,tc,_,i,.int (c.getD i 0),rfl,rfl,Ì.of (k _ _ QH),dD VJ,_,rfl,_,_,rfl,rfl,?_⟩;refine aJ ?_;dsimp only;have dn:=Mi (c:=c) (y:=y) As.2 hu h5 okp lp mB i;have cn:=pM As.2 i;refine aC (aR ?_);refine⟨_,rfl,_,rfl,_,rfl,_,rfl,ap,xp,ps,af,xs,ss,i,y,rfl,rp.same k,lp,okp,rs.same k,ls,eM,λlc VL H2 s2 nlc D7 MM=>?_⟩;refine aJ ?_;dsimp only;have k2:=k.trans s2;refine aC ?_;refine⟨_,rfl,lo,rfl,⟨_,Ï.of (k2 _ _ eo)⟩,j9 ow.length (λj ys σ Hj=>Á H2 Hj/\(∃o1,σ=[o1,some (.ref ap),some (.int i)])/\î Hj ys (aO ps (ow.take j) i)) ⟨Á.refl _,⟨_,rfl⟩,î.nil⟩ ϻ ?_ ?_⟩
  .rintro j ys σ Hj hj hy⟨sc,⟨o1,rfl⟩,qE⟩;have kj:=k2.trans sc;have ot:Ï K Hj lo xo:=Ï.of (kj _ _ eo);obtain⟨tr,ex,bp⟩:=sx.2 j ow[j] (é hj);obtain⟨o4,o5,o6,o7⟩:=mB _ (į hj);have Au:=bp;rw[dW o4]at bp;obtain⟨p,hp,ep,op⟩:=prom_ok okp o5 o6;obtain⟨tp,iA,kx⟩:=rows_at rp o5 hp;rw[six_row op.1]at kx;have fI:aO ps (ow.take (j+1)) i=aO ps (ow.take j) i++(if fl p 1=i then[ow[j]]else[]):=by
    rw[ŋ,é hj];unfold aO;rw[show(some ow[j]).toList=[ow[j]]from rfl,Zbg];congr 1;by_cases h:fl p 1=i;.rw[Í h,zBd (by rw[ep];exact è h)];rfl
    .rw[Ë h,zBc (by rw[ep,ċ];exact h)];rfl
   refine⟨⟨_,_,ot,ex⟩,λx H' yv R hR=>?_⟩;obtain⟨rfl,yv⟩:=yv;have yv:=yv _ ot;rw[ex]at yv;cases yv;refine aJ ?_;refine⟨_,rfl,_,rfl,tr,_,1,.int (fl ow[j] 1),rfl,rfl,Ì.of (kj _ _ bp),rfl,ap,xp,_,.ref tp,rfl,rfl,Ì.of (kj _ _ rp.e),iA,tp,_,1,.int (fl p 1),rfl,rfl,Ì.of (kj _ _ kx),rfl,_,rfl,rfl,_,rfl,?_⟩;by_cases h:fl p 1=i;.rw[è (by rw[h])];refine bj ⟨_,rfl,hR _ _ _ (by rw[ý];show ys.length+1<=j+1;lia) ⟨sc,⟨_,rfl⟩,?_⟩⟩;rw[fI,Í h];exact qE.app (î.one (kj _ _ Au))
   .rw[ĉ (λz=>h (by injection z))];refine aZ (hR _ _ _ À ⟨sc,⟨_,rfl⟩,?_⟩);rw[fI,Ë h,ļ];exact qE
  rintro ya σ Hj hy⟨sc,_,mv⟩;rw[Ľ]at mv;refine⟨⟨_,Ï.of (sc _ _ (k2 _ _ eo)),by rw[sx.1];exact Ø _⟩,λla yy=>?_⟩;have sa:=sc.updR (o:=.lst ya) yy;have GI:=aa (H:=Hj) (a:=la) (o:=.lst ya);have mv:=mv.same (Á.upd (o:=.lst ya) yy);generalize upd Hj la (.lst ya)=H3 at sa GI mv⊢;have k3:=k2.trans sa;have sH:=s2.trans sa;dsimp only;have qS:=jZ (sort:=i) (year:=y) hu h5 okp;have D4:=eQ (ss:=ss) (sort:=i) (year:=y) lp;have VM:=nu (sort:=i) mB;have yb:=uf ps ow i;refine aC ?_;refine⟨_,rfl,_,rfl,_,rfl,c.getD i 0+(ê c ps ss ow y i).d,lc,VL,aM ps ss i y,la,ya,aO ps ow i,rfl,sa _ _ D7,MM.same sa,qS,D4,z03,GI,mv,λr hr=>(VM r hr).1,À,λt g kk pe sR H4 s4 et ng nk QI tj VN EL=>⟨t,_,rfl,Ì.of et,rfl,_,_,rfl,_,_,rfl,rfl,?_⟩⟩;have k4:=k3.trans s4;have VO:=sH.trans s4;have gl:=Bc ((aM ps ss i y++aO ps ow i).zip (ę (c.getD i 0+(ê c ps ss ow y i).d) (aM ps ss i y) (aO ps ow i)));have kl:=rz ((aM ps ss i y++aO ps ow i).zip (ę (c.getD i 0+(ê c ps ss ow y i).d) (aM ps ss i y) (aO ps ow i)));have zl:((aM ps ss i y++aO ps ow i).zip (ę (c.getD i 0+(ê c ps ss ow y i).d) (aM ps ss i y) (aO ps ow i))).length<=80+ow.length:=by rw[zAs,ý];lia
  have e1:(ê c ps ss ow y (i+1)).g=(ê c ps ss ow y i).g++iu ((aM ps ss i y++aO ps ow i).zip (ę (c.getD i 0+(ê c ps ss ow y i).d) (aM ps ss i y) (aO ps ow i))):=rfl;have e2:(ê c ps ss ow y (i+1)).k=(ê c ps ss ow y i).k++iG ((aM ps ss i y++aO ps ow i).zip (ę (c.getD i 0+(ê c ps ss ow y i).d) (aM ps ss i y) (aO ps ow i))):=rfl;have e3:(ê c ps ss ow y (i+1)).l=(ê c ps ss ow y i).l++[c.getD i 0+(ê c ps ss ow y i).d-gO (iu ((aM ps ss i y++aO ps ow i).zip (ę (c.getD i 0+(ê c ps ss ow y i).d) (aM ps ss i y) (aO ps ow i))))]:=rfl;have e4:(ê c ps ss ow y (i+1)).d=c.getD i 0+(ê c ps ss ow y i).d-gO (iu ((aM ps ss i y++aO ps ow i).zip (ę (c.getD i 0+(ê c ps ss ow y i).d) (aM ps ss i y) (aO ps ow i)))):=rfl;have g4:∀r∈iu ((aM ps ss i y++aO ps ow i).zip (ę (c.getD i 0+(ê c ps ss ow y i).d) (aM ps ss i y) (aO ps ow i))),r.length=4:=λr hr=>by obtain⟨p,_,rfl⟩:=Ā.mp hr;rfl
  rw[e1,e2,e3,e4]at ML;generalize iu ((aM ps ss i y++aO ps ow i).zip (ę (c.getD i 0+(ê c ps ss ow y i).d) (aM ps ss i y) (aO ps ow i)))=GG at tj g4 gl ML⊢;dsimp only;refine aC (aR ?_);refine⟨_,rfl,_,rfl,g,pe,GG,rfl,QI,tj,g4,À,λH5 s5=>⟨_,_,rfl,rfl,?_⟩⟩;refine aJ ?_;dsimp only;have k5:=k4.trans s5;have EM:=VO.trans s5;have ngl:g≠lg:=(aD (sH _ _ eg) ng).symm;have VP:kk≠lg:=(aD (sH _ _ eg) nk).symm;have QJ:=EM _ _ eg;have VQ:=EM _ _ ek;have el5:=EM _ _ el;refine aC ?_;refine⟨_,rfl,_,rfl,lg,g,xg,pe,rfl,rfl,QJ,s5 _ _ QI,by rw[mw.1,tj.1,sizeLine_eq];have:i*(80+ow.length)<=3*(80+ow.length):=Nat.mul_le_mul_right _ z03;grind,?_⟩;dsimp only;have MO:∀b z,H5 b=some (.tup z)->upd H5 lg (.lst (xg++pe)) b=some (.tup z):=λb z e=>by rw[aA λw=>by rw[w,QJ]at e;cases e];exact e
  have k6:Á H (upd H5 lg (.lst (xg++pe))):=λb o e=>by rw[aA (aD e VD)];exact k5 _ _ e
  have QK:=aa (H:=H5) (a:=lg) (o:=.lst (xg++pe));have EN:=((mw.same EM).app (tj.same s5)).keep MO;have MQ:upd H5 lg (.lst (xg++pe)) lk=some (.lst xk):=by rw[aA QE.symm];exact VQ
  have EO:upd H5 lg (.lst (xg++pe)) kk=some (.lst sR):=by rw[aA VP];exact s5 _ _ VN
  have QL:upd H5 lg (.lst (xg++pe)) ll=some (.lst ((ê c ps ss ow y i).l.map V.int)):=by rw[aA QG.symm];exact el5
  have ER:=(fx.same EM).keep MO;have vj:=(EL.same s5).keep MO;generalize upd H5 lg (.lst (xg++pe))=H6 at k6 QK EN MQ EO QL ER vj⊢;refine aC ?_;refine⟨_,rfl,_,rfl,lk,kk,xk,sR,rfl,rfl,MQ,EO,by rw[fx.1,EL.1,sizeLine_eq];have:i*(80+ow.length)<=3*(80+ow.length):=Nat.mul_le_mul_right _ À;lia,?_⟩;dsimp only;have QM:∀b z,H6 b=some (.tup z)->upd H6 lk (.lst (xk++sR)) b=some (.tup z):=λb z e=>by rw[aA λw=>by rw[w,MQ]at e;cases e];exact e
  have k7:Á H (upd H6 lk (.lst (xk++sR))):=λb o e=>by rw[aA (aD e VF)];exact k6 _ _ e
  have QN:upd H6 lk (.lst (xk++sR)) lg=some (.lst (xg++pe)):=by rw[aA QE];exact QK
  have ES:=EN.keep QM;have QO:=aa (H:=H6) (a:=lk) (o:=.lst (xk++sR));have ET:=(ER.app vj).keep QM;have AB:upd H6 lk (.lst (xk++sR)) ll=some (.lst ((ê c ps ss ow y i).l.map V.int)):=by rw[aA QF.symm];exact QL
  generalize upd H6 lk (.lst (xk++sR))=H7 at k7 QN ES QO ET AB⊢;refine⟨_,rfl,.inl ⟨rfl,_,Ï.of AB⟩,_,rfl,ll,_,_,rfl,rfl,AB,by rw[Ý,VI,sizeLine_eq];lia,?_⟩;have QP:∀{o:HO}b z,H7 b=some (.tup z)->upd H7 ll o b=some (.tup z):=λb z e=>by rw[aA λw=>by rw[w,AB]at e;cases e];exact e
  refine ML _ _ ⟨_,_,_,_,_,_,xg++pe,xk++sR,rfl,λb o e=>?_,?_,ES.keep QP,?_,ET.keep QP,?_⟩;.rw[aA (aD e ME)];exact k7 _ _ e
  .rw[aA QG];exact QN
  .rw[aA QF];exact QO
  .rw[aa,Ħ];rfl
 .rintro σ Hc⟨fw,fS,f7,gc,gg,gi,xg,xk,rfl,k,eg,mw,ek,fx,el⟩;obtain⟨VR,VS⟩:=Z03 (c:=c) (ps:=ps) (ss:=ss) (ow:=ow) (y:=y) 3;have mw:î Hc xg (ê c ps ss ow y 3).g:=mw;have fx:î Hc xk (ê c ps ss ow y 3).k:=fx;have el:Hc ll=some (.lst ((ê c ps ss ow y 3).l.map V.int)):=el;obtain⟨ag,VT,QQ,QR⟩:=vp mw;obtain⟨ak,VU,AL,QS⟩:=vp fx;subst VT VU;dsimp only;have nn:∀{rs:UV}{ads:ă},rs=ads.map (oJ Hc)->(∀r∈rs,r.length=4)->∀a∈ads,oJ Hc a≠[]:=λ{rs ads}h h4 a ha z=>by have:=h4 (oJ Hc a) (by rw[h];exact List.mem_map_of_mem ha);rw[z]at this;cases this
  refine⟨_,rfl,lg,ag,oJ Hc,rfl,Ï.of eg,λa ha=>⟨Ì.of (QR a ha),nn QQ VR a ha⟩,λg l1 hg MR MU VW=>?_⟩;have sg:=Á.upd (o:=.lst (l1.map V.ref)) hg;refine⟨_,rfl,lk,ak,oJ Hc,rfl,Ï.of (sg _ _ ek),λa ha=>⟨Ì.of (sg _ _ (QS a ha)),nn AL VS a ha⟩,λkk l2 hk QT MV VX=>?_⟩;have sk:=sg.updR (o:=.lst (l2.map V.ref)) hk;refine⟨_,rfl,ll,_,rfl,.inl ⟨Ï.of (sk _ _ el),λtl QU=>?_⟩⟩;have sl:=sk.updR (o:=.tup ((ê c ps ss ow y 3).l.map V.int)) QU;refine⟨zL,λt ht=>?_⟩;have st:=sl.updR (o:=.tup [.ref g,.ref kk,.ref tl]) ht;have u1:=Á.upd (o:=.lst (l2.map V.ref)) hk;have u2:=Á.upd (o:=.tup ((ê c ps ss ow y 3).l.map V.int)) QU;have u3:=Á.upd (o:=.tup [.ref g,.ref kk,.ref tl]) ht;have VY:l1.map (oJ Hc)=Ζ (ê c ps ss ow y 3).g:=Gj (by rw[QQ];exact MU.map _) (List.pairwise_map.mpr VW);have VZ:l2.map (oJ Hc)=Ζ (ê c ps ss ow y 3).k:=Gj (by rw[AL];exact MV.map _) (List.pairwise_map.mpr VX);refine q t g kk tl _ _ _ (k.trans st) aa (k.free hg) (k.free (sg.free hk)) ⟨MR,QT⟩ (u3 _ _ (u2 _ _ (u1 _ _ aa))) ?_ (u3 _ _ (u2 _ _ aa)) ?_ (u3 _ _ aa);.rw[<-VY];exact Gm λa ha=>st _ _ (QR a (MU.mem_iff.mp ha))
  .rw[<-VZ];exact Gm λa ha=>st _ _ (QS a (MV.mem_iff.mp ha))
def cnt(ps ow:UV):Nat->Nat|0=>0|n+1=>cnt ps ow n+(aO ps ow n).length
theorem δ(ps:UV):∀n,cnt ps [] n=0|0=>rfl|n+1=>by unfold cnt;rw[δ ps n];rfl
theorem ŭ(ps ow:UV)(r:VV):∀n,cnt ps (r::ow) n=cnt ps ow n+(if 0<=fl (ps.getD (fl r 1).toNat []) 1/\fl (ps.getD (fl r 1).toNat []) 1<n then 1 else 0)
 |0=>by rw[Ë À];rfl;|n+1=>by
  show cnt ps (r::ow) n+(aO ps (r::ow) n).length=cnt ps ow n+(aO ps ow n).length+_;rw[ŭ ps ow r n];unfold aO;by_cases h:fl (ps.getD (fl r 1).toNat []) 1=n;.rw[zBd (p:=λ(r:VV)=>decide (fl (ps.getD (fl r 1).toNat []) 1=(n:Int))) (è h),ľ,Ë À,Í À];lia
  .rw[zBc (p:=λ(r:VV)=>decide (fl (ps.getD (fl r 1).toNat []) 1=(n:Int))) (by rw[ċ];exact h)];by_cases h2:0<=fl (ps.getD (fl r 1).toNat []) 1/\fl (ps.getD (fl r 1).toNat []) 1<n;.rw[Í h2,Í À];lia
   .rw[Ë h2,Ë À];lia
theorem Gp(ps:UV)(n:Nat):∀ow:UV,cnt ps ow n<=ow.length|[]=>by rw[δ];exact Ø _;|r::ow=>by rw[ŭ,ľ];have:=Gp ps n ow;split<;>lia
theorem K6(hl:ps.length<=10):∀n,(ê c ps ss ow y n).k.length<=80*n+cnt ps ow n|0=>ħ _|n+1=>by have a:=K6 (c:=c) (ss:=ss) (ow:=ow) (y:=y) hl n;have h1:=eQ (ss:=ss) (sort:=n) (year:=y) hl;have h3:=rz ((aM ps ss n y++aO ps ow n).zip (ę (c.getD n 0+(ê c ps ss ow y n).d) (aM ps ss n y) (aO ps ow n)));show((ê c ps ss ow y n).k++iG _).length<=80*(n+1)+(cnt ps ow n+(aO ps ow n).length);rw[ý];rw[zAs,ý]at h3;lia
theorem OJ{ps ss ow:UV}(hu:un ps ss=none)(h5:∀s∈ss,s.length=5)(okp:∀r∈ps,okP r)(ho:∀r∈ow,okO ps r):∀n,∀r∈(ê c ps ss ow y n).k,okO ps r
 |0,r,hr=>by cases hr;|n+1,r,hr=>by
  rcases Ą.mp (show r∈(ê c ps ss ow y n).k++iG _ from hr)with z|z;.exact OJ (c:=c) (y:=y) hu h5 okp ho n r z
  .obtain⟨p,hp,rfl⟩:=Ā.mp z;obtain⟨h1,h2⟩:=Ϝ.mp hp;have h2:=ώ h2;have hm:p.1∈aM ps ss n y++aO ps ow n:=(Za6 (show(p.1,p.2)∈_ from h1)).1;have hn:0<=fl p.1 1/\fl p.1 1<ps.length:=by
    rcases Ą.mp hm with w|w;.obtain⟨_,_,_,_,a,b⟩:=K4 (sort:=n) (year:=y) hu h5 okp ps.length (Ø _) p.1 w;exact⟨a,b⟩
    .have:=nu ho p.1 w;exact⟨this.2.1,this.2.2.1⟩
   refine⟨rfl,hn.1,hn.2,?_⟩;show 1<=fl p.1 3-p.2;lia
def jo(cs ps ss:UV):Nat->UV|0=>[]|n+1=>Ζ (ê (cs.getD n []) ps ss (jo cs ps ss n) n 3).k
theorem xP(hl:ps.length<=10)(hu:un ps ss=none)(h5:∀s∈ss,s.length=5)(okp:∀r∈ps,okP r):∀n,(∀r∈jo cs ps ss n,okO ps r)/\(jo cs ps ss n).length<=240*n|0=>⟨λr hr=>(by cases hr),Ø _⟩|n+1=>by obtain⟨a,b⟩:=xP (cs:=cs) hl hu h5 okp n;have pm:=List.mergeSort_perm (ê (cs.getD n []) ps ss (jo cs ps ss n) n 3).k Ξ;refine⟨λr hr=>OJ (c:=cs.getD n []) (y:=n) hu h5 okp a 3 r (pm.mem_iff.mp hr),?_⟩;show(Ζ (ê (cs.getD n []) ps ss (jo cs ps ss n) n 3).k).length<=_;unfold Ζ;rw[pm.length_eq];have:=K6 (c:=cs.getD n []) (ss:=ss) (ow:=jo cs ps ss n) (y:=n) hl 3;have:=Gp ps 3 (jo cs ps ss n);lia
def vq(cs ps ss:UV)(j:Nat):Yr:=ê (cs.getD j []) ps ss (jo cs ps ss j) j 3
def YAt(H0:Hp)(l:Addr)(cs ps ss:UV)(H:Hp)(a:Addr)(j:Nat):Prop:=∃g k tl xg xk,H a=some (.tup [.ref g,.ref k,.ref tl])/\H0 g=none/\H0 k=none/\g≠l/\k≠l/\H g=some (.lst xg)/\î H xg (Ζ (vq cs ps ss j).g)/\H k=some (.lst xk)/\î H xk (jo cs ps ss (j+1))/\H tl=some (.tup ((vq cs ps ss j).l.map V.int))/\(g≠sysModules/\k≠sysModules)
theorem YAt.keep(h:YAt H0 l cs ps ss H a j)(k:∀b o,b≠l->H b=some o->H' b=some o)(hl:∃xs,H l=some (.lst xs)):YAt H0 l cs ps ss H' a j:=by
 obtain⟨xs,hl⟩:=hl;obtain⟨g,kk,tl,xg,xk,e1,n1,n2,d1,d2,e2,e3,e4,e5,e6,e7⟩:=h;have nt:∀b z,H b=some (.tup z)->b≠l:=λb z e w=>by rw[w,hl]at e;cases e
 exact⟨g,kk,tl,xg,xk,k _ _ (nt _ _ e1) e1,n1,n2,d1,d2,k _ _ d1 e2,e3.keep λb z e=>k _ _ (nt _ _ e) e,k _ _ d2 e4,e5.keep λb z e=>k _ _ (nt _ _ e) e,k _ _ (nt _ _ e6) e6,e7⟩
inductive ű(vs:List V)(H:Hp)(Q:VK):Prop|mk:∀bk y ac xc cs ap xp ps af xs ss,(vs=[.ref bk,.int y])->(H bk=some (.tup [.ref ac,.ref ap,.ref af]))->(RowsAt H ac xc cs)->((∀r∈cs,r.length=3/\∀x∈r,0<=x))->(cs.length<=20)->(0<=y)->(y<cs.length)->(RowsAt H ap xp ps)->(ps.length<=10)->((∀r∈ps,okP r))->(RowsAt H af xs ss)->(ss.length<=12)->((∀s∈ss,s.length=5))->(un ps ss=none)->(∀l(ts:ă)H',Á H H'->H l=none->H' l=some (.lst (ts.map V.ref))->(ts.length:Int)=y+1->(∀j a,ts[j]?=some a->YAt H l cs ps ss H' a j)->Q (.ref l) H')->ű  vs H Q
def vz:Sp:=λvs H Q _=>ű  vs H Q
theorem Μ:Ã ["book","year","years","owed","at","gifts","left"] ["book","year"] (az (top 60)):=ú
theorem Gq(F:ß K "years_given" "years_given" (top 60) f fd)(Tr:mg "range"=none)(c1:á P w K mg base 9 "year_given" ["book","year","owed"] Gn):Ê P w K mg base Þ 10 f fd ["book","year"] vz:=by
 refine F.oq Μ λcdv A outer s H vs Q E hr h=>?_;obtain⟨bk,y,ac,xc,cs,ap,xp,ps,af,xs,ss,rfl,eb,rc,okc,lc,y0,y1,rp,lp,okp,rs,ls,h5,hu,q⟩:=h;refine⟨_,aB (ě 2 Μ.nd (dJ aj)) (aB (ě 3 Μ.nd (dJ aj)) (aB (cG ň rfl (cY rfl Tr (aq (aQ bU (pv 1) au) aj)) (Ô 4 Μ.nd) (aB (cP (aG c1 hr (aq (pv 0) (aq (pv 4) (aq (pv 3) aj)))) (bR rfl (ao (Ô 5 Μ.nd) (ao (Ô 3 Μ.nd) (ao (Ô 6 Μ.nd) aX))))) (aF (cB (qd zBb zBg zBf iV (pv 2) (aq (bB (aq (pv 5) (aq (pv 3) (aq (pv 6) aj)))) aj)))))) (aF (aP (pv 2))))),?_⟩;refine aC (aR ?_);refine⟨zL,λl hl=>?_⟩;refine aJ ?_;dsimp only;refine aC (aR ?_);refine⟨zL,λMW ff=>?_⟩;refine aJ ?_;dsimp only;have s1:=Á.upd (o:=.lst []) hl;have s2:=Á.upd (o:=.lst []) ff;have V0:MW≠l:=λz=>by rw[z,aa]at ff;cases ff
 refine gen_ts (λH1=>Á H H1/\H1 l=some (.lst [])/\H1 MW=some (.lst [])) ⟨s1.trans s2,s2 _ _ aa,aa⟩ λH1=>?_;rintro⟨k1,ŉ,V1⟩;refine aC ?_;refine⟨_,rfl,_,_,rfl,rfl,y+1,rfl,À,À,?_⟩;refine eV (lo:=0) (λi σ Hc=>Xe6 λx4 x5 x6 lo xo(ts:ă)=>Xa8 (σ=[some (.ref bk),some (.int y),some (.ref l),some (.ref lo),x4,x5,x6]) (Á H Hc) (Hc l=some (.lst (ts.map V.ref))) (ts.length=i) ((∀j a,ts[j]?=some a->YAt H l cs ps ss Hc a j)) (lo≠l) (Hc lo=some (.lst xo)) (î Hc xo (jo cs ps ss i))) ?_ ?_ ?_;.exact⟨none,none,none,MW,[],[],rfl,k1,ŉ,rfl,λj a e=>(by simp at e),V0,V1,î.nil⟩
 .rintro i σ Hc hi⟨x4,x5,x6,lo,xo,ts,rfl,k,el,lt,hy,dl,eo,sx⟩;obtain⟨mB,V2⟩:=xP (cs:=cs) lp hu h5 okp i;refine aJ ?_;have z0:(0:Int)+(i:Int)=i:=À;rw[z0];refine aC ?_;refine⟨_,rfl,_,rfl,_,rfl,bk,i,lo,ac,xc,cs,ap,xp,ps,af,xs,ss,xo,jo cs ps ss i,rfl,k _ _ eb,rc.same k,okc,À,À,rp.same k,lp,okp,rs.same k,ls,h5,hu,eo,sx,mB,À,λt g kk tl xg xk H2 s2 et ng nk MR eg mw ek fx QV=>?_⟩;rw[Ϟ]at mw fx QV;refine⟨t,_,rfl,Ì.of et,rfl,_,_,rfl,_,_,rfl,_,_,rfl,rfl,?_⟩;dsimp only;have k2:=k.trans s2;have Ş:=s2 _ _ el;have dg:g≠l:=(aD el ng).symm;have dk:kk≠l:=(aD el nk).symm;refine⟨_,rfl,.inl ⟨rfl,_,Ï.of Ş⟩,_,rfl,_,rfl,_,rfl,zL,λtt GS=>⟨l,_,_,rfl,rfl,Á.upd GS _ _ Ş,by rw[Ý,lt,sizeLine_eq];lia,?_⟩⟩;have s3:=Á.upd (o:=.tup [.ref g,.ref kk,.ref tl]) GS;have nt:tt≠l:=λz=>by rw[z,Ş]at GS;cases GS
  have kp:∀{o:HO}b u,b≠l->H2 b=some u->upd (upd H2 tt (.tup [.ref g,.ref kk,.ref tl])) l o b=some u:=λb u n e=>by rw[aA n];exact s3 _ _ e
  have ke:∀{o:HO}b z,H2 b=some (.tup z)->upd (upd H2 tt (.tup [.ref g,.ref kk,.ref tl])) l o b=some (.tup z):=λb z e=>kp b _ (λw=>by rw[w,Ş]at e;cases e) e;refine⟨_,_,_,kk,xk,ts++[tt],rfl,λb o e=>?_,?_,by rw[ý,lt];rfl,λj a e=>?_,dk,kp _ _ dk ek,fx.keep ke⟩;.exact kp _ _ (aD e hl) (k2 _ _ e)
  .rw[aa,Ħ];rfl
  .by_cases hj:j<ts.length;.rw[zBa hj]at e;exact(hy j a e).keep (λb o n z=>kp _ _ n (s2 _ _ z)) ⟨_,el⟩
   .have ui:j=i:=by grind
    subst ui;rw[zB9 À,lt,Nat.sub_self]at e;cases e;exact⟨g,kk,tl,xg,xk,by rw[aA nt];exact aa,k.free ng,k.free nk,dg,dk,kp _ _ dg eg,mw.keep ke,kp _ _ dk ek,fx.keep ke,ke _ _ QV,MR⟩
 .rintro σ Hc⟨x4,x5,x6,lo,xo,ts,rfl,k,el,lt,hy,dl,eo,sx⟩;exact⟨_,rfl,q l ts Hc k hl el (by rw[lt];lia) hy⟩
theorem yW(h:gH d=true):d=fP (Ð d)/\(Ð d).length<=20/\∀r∈Ð d,r.length=3/\∀x∈r,0<=x:=by
 unfold gH at h;rw[ą]at h;obtain⟨ds,rfl,_,hl⟩:=j6 h.1;have h2:∀x∈ds,il x=true:=ŀ.mp h.2;have h3:∀x∈ds,bG x 3=true:=λx hx=>by have:=h2 x hx;unfold il at this;rw[ą]at this;exact this.1
 refine⟨congrArg PyData.tuple (pL (n:=3) h3),by show(ds.map _).length<=20;rw[Ý];lia,λr hr=>?_⟩;obtain⟨x,hx,rfl⟩:=Ā.mp hr;refine⟨(ir (n:=3) (h3 x hx)).2,λz hz=>?_⟩;obtain⟨u,hu,rfl⟩:=Ā.mp hz;have:=h2 x hx;unfold il at this;rw[ą]at this;have:=ŀ.mp this.2 u hu;simp only[Bool.and_eq_true,ċ]at this;exact this.1
theorem yX(h:cR d=true):∃d0 d1 d2,d=.tuple [d0,d1,d2]/\gH d0=true/\eO d1=true/\fQ d2=true/\un (Ð d1) (Ð d2)=none:=by unfold cR at h;rw[ą,ą,ą,ą]at h;obtain⟨h0,h1,h2,h3,h4⟩:=h;obtain⟨ds,rfl,l1,l2⟩:=j6 h0;match ds,l1,l2,h1,h2,h3,h4 with|[d0,d1,d2],_,_,h1,h2,h3,h4=>exact⟨d0,d1,d2,rfl,h1,h2,h3,by have h4:(un (Ð d1) (Ð d2)).isNone=true:=h4;cases z:un (Ð d1) (Ð d2)with|none=>rfl;|some i=>rw[z]at h4;cases h4⟩;|[],l1,_,_,_,_,_=>simp at l1;|[_],l1,_,_,_,_,_=>simp at l1;|[_,_],l1,_,_,_,_,_=>simp at l1;|_::_::_::_::_,_,l2,_,_,_,_=>simp at l2;grind
inductive ρ(vs:List V)(H:Hp)(Q:VK):Prop|mk:∀S v d,(vs=[v])->(É S H v d)->(sz d<=4000)->(cR d=true)->(∀H',Á H H'->Q .non H')->ρ  vs H Q
def yZ:Sp:=λvs H Q _=>ρ  vs H Q
inductive π(vs:List V)(H:Hp)(Q:VK):Prop|mk:∀ac xc cs y,(vs=[.ref ac,.int y])->(RowsAt H ac xc cs)->(0<=y)->(y<cs.length)->(∀H',Á H H'->Q .non H')->π  vs H Q
def Gr:Sp:=λvs H Q _=>π  vs H Q
theorem P0:Ã ["thing","least","most"] ["thing","least","most"] (az (top 21)):=ú
theorem sE(F:ß K "is_whole_from" "is_whole_from" (top 21) f fd)(c1:á P w K mg base 1 "is_whole" ["thing"] (ō bF)):Ê P w K mg base Þ 2 f fd ["thing","least","most"] (km dN):=by refine F.oq P0 λcdv A outer s H vs Q E hr h=>?_;obtain⟨S,v,d,n,m,rfl,th,hz,q⟩:=h;refine⟨_,aF (aP (cF (aG c1 hr (aN (pv 0) aj)) (fD (cW cD cD (pv 1) (pv 0) (pv 2))))),?_⟩;refine⟨_,rfl,S,v,d,rfl,th,hz,λH1 s1=>⟨_,rfl,?_⟩⟩;have fin:=q H1 s1;unfold dN at fin;cases e:bF d with|false=>rw[e]at fin;exact aZ fin;|true=>rw[e]at fin;obtain⟨i,rfl,rfl⟩:=oG th e;exact bj (cQ (fU rfl) (fU rfl) (fU rfl) _ fin)
theorem K7:Ã ["thing"] ["thing"] (az (top 44)):=ú
theorem Jm(F:ß K "refuse_no_book" "refuse_no_book" (top 44) f fd)(c1:á P w K mg base 6 "is_book" ["thing"] (ō cR)):Ê P w K mg base Þ 7 f fd ["thing"] yZ:=by refine F.oq K7 λcdv A outer s H vs Q E hr h=>?_;obtain⟨S,v,d,rfl,th,hz,hb,q⟩:=h;refine⟨_,aF (bT (cj (bL (aG c1 hr (aN (pv 0) aj)))) (aF dO) bf),?_⟩;refine⟨_,rfl,S,v,d,rfl,th,hz,λH1 s1=>⟨_,rfl,?_⟩⟩;rw[hb];exact aZ (q _ s1)
theorem K8:Ã ["clips","year"] ["clips","year"] (az (top 61)):=ú
theorem Jo(F:ß K "refuse_no_year_of" "refuse_no_year_of" (top 61) f fd)(T:Mg mg)(c1:á P w K mg base 2 "is_whole_from" ["thing","least","most"] (km dN)):Ê P w K mg base Þ 3 f fd ["clips","year"] Gr:=by
 refine F.oq K8 λcdv A outer s H vs Q E hr h=>?_;obtain⟨ac,xc,cs,y,rfl,rc,y0,y1,q⟩:=h;refine⟨_,aF (bT (cj (bL (aG c1 hr (aq (pv 1) (aq au (aq (aQ dZ (aK bh rfl T.len PySem.boot_len (aq (pv 0) aj)) au) aj)))))) (aF dO) bf),?_⟩;refine⟨_,rfl,_,rfl,ac,_,rfl,.inr (Ì.of rc.e),_,_,rfl,rfl,λ_=>False,.int y,.int y,0,_,rfl,.int _,(by show 1<=4000;decide),λH1 s1=>⟨_,rfl,?_⟩⟩;have e:dN (.int y) 0 ((xc.length:Int)-1)=true:=by show(true&&(decide (0<=y)&&decide (y<=(xc.length:Int)-1)))=true;rw[è y0,è (by rw[rc.l];lia)];rfl
 rw[e];exact aZ (q _ s1)
structure ĥ(H:Hp)(bk ac:Addr)(xc:List V)(cs:UV)(ap:Addr)(xp:List V)(ps:UV)(af:Addr)(xs:List V)(ss:UV):Prop where
 e:H bk=some (.tup [.ref ac,.ref ap,.ref af])rc:RowsAt H ac xc cs
 okc:∀r∈cs,r.length=3/\∀x∈r,0<=x
 lc:cs.length<=20
 rp:RowsAt H ap xp ps
 lp:ps.length<=10
 okp:∀r∈ps,okP r
 rs:RowsAt H af xs ss
 ls:ss.length<=12
 h5:∀s∈ss,s.length=5
 un:un ps ss=none
theorem ĥ.same(b:ĥ H bk ac xc cs ap xp ps af xs ss)(s:Á H H'):ĥ H' bk ac xc cs ap xp ps af xs ss:=⟨s _ _ b.e,b.rc.same s,b.okc,b.lc,b.rp.same s,b.lp,b.okp,b.rs.same s,b.ls,b.h5,b.un⟩
theorem pN(t:É S H v d)(h:cR d=true):∃bk ac xc cs ap xp ps af xs ss,v=.ref bk/\d=.tuple [fP cs,fP ps,fP ss]/\ĥ H bk ac xc cs ap xp ps af xs ss:=by obtain⟨d0,d1,d2,rfl,b0,b1,b2,b3⟩:=yX h;obtain⟨ec,lc,okc⟩:=yW b0;obtain⟨ep,lp,okp⟩:=lM b1;obtain⟨es,ls,eM⟩:=lN b2;cases t with|@tup a xs _ ea r=>obtain⟨v0,v1,v2,d0',d1',d2',rfl,ee,h0,h1,h2⟩:=oH r rfl;cases ee;rw[ec]at h0;rw[ep]at h1;rw[es]at h2;obtain⟨ac,xc,rfl,rc⟩:=th_rows h0;obtain⟨ap,xp,rfl,rp⟩:=th_rows h1;obtain⟨af,xs,rfl,rs⟩:=th_rows h2;exact⟨a,ac,xc,Ð d0,ap,xp,Ð d1,af,xs,Ð d2,rfl,by rw[<-ec,<-ep,<-es],⟨ea,rc,okc,lc,rp,lp,okp,rs,ls,eM,b3⟩⟩
def xQ(R:UV->UV->UV->Int->VK->Hp->Prop):Sp:=λvs H Q _=>∃S bk y d ac xc cs ap xp ps af xs ss,vs=[.ref bk,.int y]/\É S H (.ref bk) d/\sz d<=4000/\cR d=true/\ĥ H bk ac xc cs ap xp ps af xs ss/\0<=y/\y<cs.length/\R cs ps ss y Q H
def Jp:UV->UV->UV->Int->VK->Hp->Prop:=λ_ _ _ _ Q H=>∀H',Á H H'->Q .non H'
theorem K9:Ã ["book","year"] ["book","year"] (az (top 62)):=ú
theorem Gs(F:ß K "refuse_no_year" "refuse_no_year" (top 62) f fd)(c1:á P w K mg base 7 "refuse_no_book" ["thing"] yZ)(c2:á P w K mg base 3 "refuse_no_year_of" ["clips","year"] Gr):Ê P w K mg base Þ 8 f fd ["book","year"] (xQ Jp):=by refine F.oq K9 λcdv A outer s H vs Q E hr h=>?_;obtain⟨S,bk,y,d,ac,xc,cs,ap,xp,ps,af,xs,ss,rfl,th,hz,hb,B,y0,y1,q⟩:=h;refine⟨_,aB (cB (aG c1 hr (aq (pv 0) aj))) (aF (cB (aG c2 hr (aq (pX bu (pv 0) au) (aq (pv 1) aj))))),?_⟩;refine aC ?_;refine⟨_,rfl,S,_,d,rfl,th,hz,hb,λH1 s1=>?_⟩;dsimp only;have B1:=B.same s1;exact⟨_,rfl,bk,_,0,.ref ac,rfl,rfl,Ì.of B1.e,rfl,_,rfl,ac,xc,cs,y,rfl,B1.rc,y0,y1,λH2 s2=>q _ (s1.trans s2)⟩
def ug:UV->UV->UV->Int->VK->Hp->Prop:=λcs ps ss y Q H=>∀k xk H',Á H H'->H k=none->k≠sysModules->H' k=some (.lst xk)->î H' xk (jo cs ps ss (y.toNat+1))->Q (.ref k) H'
def Dk(R:UV->UV->UV->Int->VK->Hp->Prop):Sp:=λvs H Q _=>∃bk y ac xc cs ap xp ps af xs ss,vs=[.ref bk,.int y]/\ĥ H bk ac xc cs ap xp ps af xs ss/\0<=y/\y<cs.length/\R cs ps ss y Q H
theorem Ω:Ã ["book","year","gifts","owed","left"] ["book","year"] (az (top 64)):=ú
theorem Gu(F:ß K "owed_behind" "owed_behind" (top 64) f fd)(c2:á P w K mg base 10 "years_given" ["book","year"] vz):Ê P w K mg base Þ 11 f fd ["book","year"] (Dk ug):=by
 refine F.oq Ω λcdv A outer s H vs Q E hr h=>?_;obtain⟨bk,y,ac,xc,cs,ap,xp,ps,af,xs,ss,rfl,B,y0,y1,q⟩:=h;refine⟨_,aB (cP (pX bM (aG c2 hr (aq (pv 0) (aq (pv 1) aj))) (pv 1)) (bR rfl (ao (Ô 2 Ω.nd) (ao (Ô 3 Ω.nd) (ao (Ô 4 Ω.nd) aX))))) (aF (aP (pv 3))),?_⟩;refine aC ?_;refine⟨_,rfl,_,rfl,bk,y,ac,xc,cs,ap,xp,ps,af,xs,ss,rfl,B.e,B.rc,B.okc,B.lc,y0,y1,B.rp,B.lp,B.okp,B.rs,B.ls,B.h5,B.un,λl ts H2 s2 nl el lt hy=>?_⟩;have hl:y.toNat<ts.length:=À;obtain⟨g,k,tl,xg,xk,e1,n1,n2,d1,d2,e2,e3,e4,e5,e6,e7⟩:=hy y.toNat ts[y.toNat] (é hl);have iA:ů (ts.map V.ref) y=some (.ref ts[y.toNat]):=by
  have:(ts.map V.ref)[y.toNat]?=some (.ref ts[y.toNat]):=by rw[ģ,é hl];rfl
  have:=dD this;rw[show((y.toNat:Nat):Int)=y by lia]at this;exact this
 refine⟨_,rfl,l,_,y,.ref ts[y.toNat],rfl,rfl,Ï.of el,iA,ts[y.toNat],_,rfl,Ì.of e1,rfl,_,_,rfl,_,_,rfl,_,_,rfl,rfl,?_⟩;dsimp only;exact⟨_,rfl,q k xk H2 s2 n2 e7.2 e4 e5⟩
theorem Ka:Ã ["book","year"] ["book","year"] (az (top 67)):=ú
theorem Jq(F:ß K "owed_by" "owed_by" (top 67) f fd)(c1:á P w K mg base 8 "refuse_no_year" ["book","year"] (xQ Jp))(c2:á P w K mg base 11 "owed_behind" ["book","year"] (Dk ug)):Ê P w K mg base Þ 12 f fd ["book","year"] (xQ ug):=by refine F.oq Ka λcdv A outer s H vs Q E hr h=>?_;obtain⟨S,bk,y,d,ac,xc,cs,ap,xp,ps,af,xs,ss,rfl,th,hz,hb,B,y0,y1,q⟩:=h;refine⟨_,aB (cB (aG c1 hr (aq (pv 0) (aq (pv 1) aj)))) (aF (aP (aG c2 hr (aq (pv 0) (aq (pv 1) aj))))),?_⟩;refine aC ?_;refine⟨_,rfl,_,rfl,S,bk,y,d,ac,xc,cs,ap,xp,ps,af,xs,ss,rfl,th,hz,hb,B,y0,y1,λH1 s1=>?_⟩;dsimp only;exact⟨_,rfl,_,rfl,bk,y,ac,xc,cs,ap,xp,ps,af,xs,ss,rfl,B.same s1,y0,y1,λk xk H2 s2 n ns e1 e2=>q k xk H2 (s1.trans s2) (s1.free n) ns e1 e2⟩
def pF(P:Program)(w:World)(K:Frag)(mg:Ti)(base:Heap)(k:Nat)(x:Str)(ps:ó)(sp:Sp):Prop:=∃f fd,Ê P w K mg base (ĳ P w) k f fd ps sp/\mg x=some (.ref f)/\PySem.W.keepIn K (.ref f)=true/\ò K fd ps []
theorem gk{p pos:Pos}(c:pF X.prog X.w X.K X.mg X.base j x ps sp)(hr:à k X.A)(hjk:j<=k)(hg:Gl X x)(W:wX X λa C H=>E (.ref a) (some C) H)(hx:X.ex=[])(ha:PA X (e::es) t)(eW:Ţ x:=by decide)(he:Qa8 X e es:=by rfl)(dQ:Qa9 X pos es:=by rfl):PE X (.Call (.Name x p) (e::es) [] pos) (vV sp [] E t):=by obtain⟨f,fd,F,m,k',b⟩:=c;exact zq F (hr.mono hjk) hg m k' b .nil (JX W hx) ha eW he dQ
abbrev VE:â:=[.type "ValueError",.type "Exception",.type "BaseException",.type "object"]
def words:ó:=["clips","promises","sales","book","number","year","weights","paper","growth","promise","sort","clip","sale","deed","text","line"]
theorem cJ(h:te σ H λx H1=>tr σ H1 λxs H2=>Q (x::xs) H2):bV te tr σ H Q:=h
theorem Gv:PE X e (λ_ _ _=>False):=λ_ _ _ _ _ _ h=>h.elim
structure PTB(X:Cx)(e:Expr)(t:TT):Prop where run:PT X e t
section
theorem Gw{j}(hl:BE X (.Name y q') tl)(hline:(p.endLine==pos.line)=true:=by rfl):BE X (.Call (.Attribute (.Name y q') "count" p) [.Constant (.bool k) j q] [] pos) (tBM X.K "list" uV tl (bV (tC (.bl k)) ie)):=⟨qd zBb PySem.F.slot_list_count PySem.F.type_list_count CJ hl.run (aq iK aj) (hline:=hline)⟩
theorem Gx{j}(hl:BE X (.Name y q') tl)(hline:(p.endLine==pos.line)=true:=by rfl):BE X (.Call (.Attribute (.Name y q') "index" p) [.Constant (.bool k) j q] [] pos) (tBM X.K "list" uW tl (bV (tC (.bl k)) ie)):=⟨qd zBb PySem.F.slot_list_index PySem.F.type_list_index CK hl.run (aq iK aj) (hline:=hline)⟩
theorem Mj(h:BE X (.Subscript a b p) ta):PTB X (.Subscript a b p) (tB ta):=⟨bL h.run⟩
theorem Jr{es ks}(h:BE X (.Call a es ks p) ta):PTB X (.Call a es ks p) (tB ta):=⟨bL h.run⟩
theorem Ml(h:PTB X a t):PTB X (.UnaryOp .Not a pos) (MJ t):=⟨cj h.run⟩
theorem Mm(ha:PTB X a t)(hb:PTB X b u):PTB X (.BoolOp .Or [a,b] pos) (tOr t u):=⟨PW.pt (iM ha.run (je hb.run))⟩
theorem Pa{j}(ha:BE X a ta):PTB X (.Compare a [.NotEq] [.Constant (.int i) j q] pos) (pU (Į rNe ta (tC (.int i)))):=⟨aY lU ha.run au (aW _)⟩
theorem bs_if(hc:PTB X c t)(hx:BSs X x v)(hy:BSs X y z):BS X (.If c x y pos) (MT t v z):=⟨bT hc.run hx.run hy.run⟩
theorem bss_nil:BSs X [] Dw:=⟨bf⟩
end
structure Z02(mg:Ti)(Cs:Nat->Addr):Prop where n0:mg "NoClips"=some (.ref (Cs 0))n1:mg "NoPromises"=some (.ref (Cs 1))n2:mg "NoSales"=some (.ref (Cs 2))n3:mg "NoBook"=some (.ref (Cs 3))n4:mg "NoNumber"=some (.ref (Cs 4))n5:mg "NoYear"=some (.ref (Cs 5))n6:mg "NoWeights"=some (.ref (Cs 6))n7:mg "NoPaper"=some (.ref (Cs 7))n8:mg "NoGrowth"=some (.ref (Cs 8))n9:mg "NoPromise"=some (.ref (Cs 9))n10:mg "NoSort"=some (.ref (Cs 10))n11:mg "NoClip"=some (.ref (Cs 11))n12:mg "NoSale"=some (.ref (Cs 12))n13:mg "NoDeed"=some (.ref (Cs 13))n14:mg "NoText"=some (.ref (Cs 14))n15:mg "NoLine"=some (.ref (Cs 15))n16:mg "TooMany"=some (.ref (Cs 16))wool:mg "WoolError"=some (.ref (Cs 17))
structure Γ(K:Frag)(Cs:Nat->Addr)(j:Nat):Prop where
 lt:j<16
 ex:Ϛ K (Cs j)ca:Ť K (Cs j) (Cs 17)on:∀i,i<17->PySem.W.kitOne K (.ref (Cs j)) (.ref (Cs i))=some (decide (i=j))ve:PySem.W.kitOne K (.ref (Cs j)) (.type "ValueError")=some true
def Ĩ(j:Nat):List Bool:=(List.range 17).map λi=>decide (i=j)
theorem xR:∀j,j<17->(Ĩ j).count true=1:=by decide+kernel
theorem Gy(h:j<17):(Ĩ j)[j]?=some true:=by unfold Ĩ;rw[ģ,List.getElem?_range h];simp
theorem Gz(h:i<j):(Ĩ j)[i]?≠some true:=by
 unfold Ĩ;rw[ģ];by_cases hi:i<17;.rw[List.getElem?_range hi];simp;lia
 .rw[Za8 (by simp;simp_all)];simp
theorem Js:bootBuiltins "ValueError"=some (.type "ValueError"):=by decide+kernel
theorem GC{j:Nat}(h:j<16):ů (words.map V.str) (j:Int)=some (.str (words.getD j "")):=by
 have hl:words.length=16:=rfl;have:words[j]?=some (words.getD j ""):=by rw[ŧ,é À];rfl
 refine dD ?_;rw[ģ,this];rfl
theorem dw{p q r pos:Pos}(hN:X.N[i]?=some y)(hv:Vis X.env.scope y)(hI:Gl X "isinstance")(mI:X.mg "isinstance"=none)(hg:Gl X x)(hm:X.mg x=some (.ref D))(hd:(y==("__debug__":Str))=false:=by decide)(eR:(y==("__classdict__":Str))=false:=by decide)(hd2:Ţ x:=by decide):BE X (.Call (.Name "isinstance" p) [.Name y q,.Name x r] [] pos) (tCB (λxs H Q=>∃a C c b,xs=[.ref a,c]/\H a=some (.ext (ñ a C))/\Ϛ X.K C/\((∃D,c=.ref D/\PySem.W.kitOne X.K (.ref C) (.ref D)=some b)\/∃n,c=.ty n/\PySem.W.kitOne X.K (.ref C) (.type n)=some b)/\Q (.bl b) H) (bV (iH i) (bV (tC (.ref D)) ie))):=⟨aK mU hI mI È (aq (yh hN hv hd eR) (aq (bQ (v:=.ref D) hg hm rfl hd2) aj))⟩
theorem dB(Z:Γ K Cs j)(hi:i<17)(e:H a=some (.ext (ñ a (Cs j))))(gx:σ[0]?=some (some (.ref a)))(h:Q (.bl (decide (i=j))) H):tCB (λxs H Q=>∃a C c b,xs=[.ref a,c]/\H a=some (.ext (ñ a C))/\Ϛ K C/\((∃D,c=.ref D/\PySem.W.kitOne K (.ref C) (.ref D)=some b)\/∃n,c=.ty n/\PySem.W.kitOne K (.ref C) (.type n)=some b)/\Q (.bl b) H) (bV (iH 0) (bV (tC (.ref (Cs i))) ie)) σ H Q:=⟨_,gx,a,Cs j,.ref (Cs i),_,rfl,e,Z.ex,.inl ⟨_,rfl,Z.on i hi⟩,h⟩
def toE(EX:Addr->Addr->Hp->Prop):XK:=λe C H=>match e,C with|.ref a,some C'=>EX a C' H|_,_=>False
def Bf(P:Program)(w:World)(K:Frag)(mg:Ti)(base:Heap)(kk:Nat)(H:Hp)(fl:Addr)(Qw:VK)(Ew:Addr->Addr->Hp->Prop):Prop:=∃(fd:FuncData)(body:Expr)(N:ó)(vs:List V)(cs:ZX),Ē H fl fd/\ķ fd body N/\(∀b o,cs.lookup b=some o->H b=some (held o))/\(∀x c,fd.closure.lookup x=some c->∃o v,cs.lookup c=some o/\o.data=.cell v)/\(∀(i:Nat)(x:Str)(v:V),N[i]?=some x->vs[i]?=some v->∃c u o,fd.closure.lookup x=some c/\Ñ v u/\cs.lookup c=some o/\o.data=.cell (some u))/\vs.length=N.length/\∀(A:Around)(outer:List Env)(Q':VK)(E':XK),à kk A->(∀v H1,Qw v H1->Q' v H1)->(∀a C H1,Ew a C H1->E' (.ref a) (some C) H1)->∃te,(∀s,PE (cxL P w K mg base N fd fl A outer s (er H cs) (λe C H1=>Ϙ cs H1->E' e C (fz H1 cs))) body te)/\te (vs.map some) (er H cs) λv H1=>Ϙ cs H1->Q' v (fz H1 cs)
theorem Mp{fl:Addr}(Ll:σ[i]?=some (some (.ref fl)))(L:Bf X.prog X.w X.K X.mg X.base kk H fl Qw Ew)(hr:à kk X.A)(q1:∀v H1,Qw v H1->Q v H1)(q2:∀a C H1,Ew a C H1->E (.ref a) (some C) H1):Lq X i E σ H Q:=by obtain⟨fd,body,N,vs,cs,L,Z,fr,cell,val,hl,run⟩:=L;obtain⟨te,kQ,q⟩:=run X.A X.stack Q E hr q1 q2;exact⟨fl,fd,body,N,vs,cs,te,Ll,L,Z,fr,cell,val,hl,kQ,q⟩
def Jt(P:Program)(w:World)(K:Frag)(mg:Ti)(base:Heap)(k:Nat)(x:Str)(ps:ó)(sp:Sp):Prop:=∃f fd,Ś P w K mg base Þ k f fd ps sp/\mg x=some (.ref f)/\PySem.W.keepIn K (.ref f)=true/\ò K fd ps []
theorem Ju{p pos:Pos}(c:Jt X.prog X.w X.K X.mg X.base j x ps sp)(hr:ÿ k X.A)(hjk:j<=k)(hg:Gl X x)(ha:PA X (e::es) t)(eW:Ţ x:=by decide)(he:Qa8 X e es:=by rfl)(dQ:Qa9 X pos es:=by rfl):PE X (.Call (.Name x p) (e::es) [] pos) (vV sp [] E0 t):=by obtain⟨f,fd,F,m,k',b⟩:=c;exact Ez F (hr.mono hjk) hg m k' b ha eW he dQ
open PySem.W in
def Jv(K:Frag)(L:ă)(j:Nat):Bool:=decide (j<16)&&((clsIn K (L.getD j 0)).isSome&&(findIn K (.ref (L.getD j 0)) "__getattribute__"==some (some (.builtin "BaseException.__getattribute__"))&&(findIn K (.ref (L.getD j 0)) "__getattr__"==some none&&(findIn K (.ref (L.getD j 0)) "__class__"==some (some (.builtin "object.__class__"))&&(specialIn K (.builtin "object.__class__") "__get__"==some (some (.builtin "getset_descriptor.__get__"))&&(takesIn K (.builtin "object.__class__")==some true&&(mroIn K (L.getD j 0) (.type "object")==some true&&(mroIn K (L.getD j 0) (.type "BaseException")==some true&&(typeIn K (.ref (L.getD 17 0))==some (.type "type")&&((clsIn K (L.getD 17 0)).isSome&&(subIn K (.ref (L.getD 17 0)) (.type "BaseException")==some true&&(subIn K (.ref (L.getD j 0)) (.ref (L.getD 17 0))==some true&&((List.range 17).all (λi=>kitOne K (.ref (L.getD j 0)) (.ref (L.getD i 0))==some (decide (i=j)))&&kitOne K (.ref (L.getD j 0)) (.type "ValueError")==some true)))))))))))))
theorem Kc(h:Jv K L j=true):Γ K (λi=>L.getD i 0) j:=by unfold Jv at h;simp only[Bool.and_eq_true,beq_iff_eq,ċ]at h;obtain⟨h0,h1,h2,h3,h4,h5,h6,h7,h8,h9,V3,V4,V5,V6,V7⟩:=h;refine⟨h0,⟨h1,h2,h3,h4,h5,h6,h7,h8⟩,⟨h9,V3,V4,V5⟩,λi hi=>?_,V7⟩;have:=ŀ.mp V6 i (ϡ.mpr hi);simpa using this
theorem tab_mk(h1:PySem.W.nsIn K mainGlobals x=some (some (.ref f)))(h2:K.lookup f=some ⟨a1,b1,.func fd,s1⟩)(h3:fd.code=.ref c)(h4:K.lookup c=some ⟨a2,b2,.fields vs,s2⟩)(h5:vs[11]?=some (.ref T)):PySem.W.tabIn K x=some (c,T):=by unfold PySem.W.tabIn;rw[h1];show(match K.lookup f with|some ⟨_,_,.func fd,_⟩=>_|_=>none)=_;rw[h2];show(match fd.code with|.ref c=>_|_=>none)=_;rw[h3];show(match K.lookup c with|some ⟨_,_,.fields vs,_⟩=>_|_=>none)=_;rw[h4];show(match vs[11]? with|some (.ref P)=>some (c,P)|_=>none)=_;rw[h5]
inductive Ŷ(K:Frag)(Cs:Nat->Addr)(vs:List V)(H:Hp)(Q:VK):Prop|mk:∀a j,(vs=[.ref a])->(H a=some (.ext (ñ a (Cs j))))->(Γ K Cs j)->(∀p H',Á H H'->H' p=some (.lst ((Ĩ j).map V.bl))->Q (.ref p) H')->Ŷ K Cs vs H Q
def vA(K:Frag)(Cs:Nat->Addr):Sp:=λvs H Q _=>Ŷ K Cs vs H Q
inductive ν(P:Program)(w:World)(K:Frag)(mg:Ti)(base:Heap)(Cs:Nat->Addr)(kk:Nat)(vs:List V)(H:Hp)(Q:VK):Prop|mk:∀(fl:Addr)(Qw:VK)(Ew:Addr->Addr->Hp->Prop),(vs=[.ref fl])->(Bf P w K mg base kk H fl Qw Ew)->((∀v H1,Qw v H1->∀p,H1 p=none->Q (.ref p) (upd H1 p (.tup [.str "told",v]))))->((∀a C H1,Ew a C H1->∃j,C=Cs j/\Γ K Cs j/\(H1 a=none->∀H2,Á H1 H2->Q (.str (words.getD j "")) H2)))->ν P w K mg base Cs kk vs H Q
def za(P:Program)(w:World)(K:Frag)(mg:Ti)(base:Heap)(Cs:Nat->Addr)(kk:Nat):Sp:=λvs H Q _=>ν P w K mg base Cs kk vs H Q
theorem ϧ:Ã [Ϸ,"_law_some"] [Ϸ] (az (top 76)):=ú
theorem GD(F:ß K ABb ABb (top 76) f fd)(T:Mg mg)(L:Z02 mg Cs):Ś P w K mg base Þ 1 f fd [Ϸ] (vA K Cs):=by refine F.oqU ϧ λcdv A outer s H vs Q E hr h=>?_;obtain⟨a,j,rfl,ea,Z,q⟩:=h;refine K33P.ok_b (aH (fX 1 ϧ.nd (cA (aU (dw (i:=0) rfl (Or.inl rfl) rfl T.isinstance rfl L.n0) (aU (dw (i:=0) rfl (Or.inl rfl) rfl T.isinstance rfl L.n1) (aU (dw (i:=0) rfl (Or.inl rfl) rfl T.isinstance rfl L.n2) (aU (dw (i:=0) rfl (Or.inl rfl) rfl T.isinstance rfl L.n3) bw)))))) (aH (fX 1 ϧ.nd (iy jg ⟨pv 1⟩ (cA (aU (dw (i:=0) rfl (Or.inl rfl) rfl T.isinstance rfl L.n4) (aU (dw (i:=0) rfl (Or.inl rfl) rfl T.isinstance rfl L.n5) (aU (dw (i:=0) rfl (Or.inl rfl) rfl T.isinstance rfl L.n6) (aU (dw (i:=0) rfl (Or.inl rfl) rfl T.isinstance rfl L.n7) bw))))))) (aH (fX 1 ϧ.nd (iy jg ⟨pv 1⟩ (cA (aU (dw (i:=0) rfl (Or.inl rfl) rfl T.isinstance rfl L.n8) (aU (dw (i:=0) rfl (Or.inl rfl) rfl T.isinstance rfl L.n9) (aU (dw (i:=0) rfl (Or.inl rfl) rfl T.isinstance rfl L.n10) (aU (dw (i:=0) rfl (Or.inl rfl) rfl T.isinstance rfl L.n11) bw))))))) (aH (fX 1 ϧ.nd (iy jg ⟨pv 1⟩ (cA (aU (dw (i:=0) rfl (Or.inl rfl) rfl T.isinstance rfl L.n12) (aU (dw (i:=0) rfl (Or.inl rfl) rfl T.isinstance rfl L.n13) (aU (dw (i:=0) rfl (Or.inl rfl) rfl T.isinstance rfl L.n14) (aU (dw (i:=0) rfl (Or.inl rfl) rfl T.isinstance rfl L.n15) bw))))))) (bz (fW (iy jg ⟨pv 1⟩ (cA (aU (dw (i:=0) rfl (Or.inl rfl) rfl T.isinstance rfl L.n16) bw))))))))) ?_;refine aC (aR ?_);refine fY (cJ ?_);refine dB (i:=0) Z Ò ea rfl ?_;refine cJ ?_;refine dB (i:=1) Z Ò ea rfl ?_;refine cJ ?_;refine dB (i:=2) Z Ò ea rfl ?_;refine cJ ?_;refine dB (i:=3) Z Ò ea rfl ?_;refine⟨zL,λp3 KW=>?_⟩;refine aJ ?_;dsimp only;refine gen_ts (λH3=>Á H H3/\H3 p3=some (.lst ([decide (0=j),decide (1=j),decide (2=j),decide (3=j)].map V.bl))) ⟨Á.upd KW,aa⟩ λH3=>?_;rintro⟨s3,f3⟩;have GU:=s3 _ _ ea;refine aC (aR ?_);refine⟨_,rfl,?_⟩;refine fY (cJ ?_);refine dB (i:=4) Z Ò GU rfl ?_;refine cJ ?_;refine dB (i:=5) Z Ò GU rfl ?_;refine cJ ?_;refine dB (i:=6) Z Ò GU rfl ?_;refine cJ ?_;refine dB (i:=7) Z Ò GU rfl ?_;refine⟨zL,λp4 EU=>⟨p3,p4,_,_,rfl,rfl,Á.upd EU _ _ f3,aa,zL,λl4 u7=>?_⟩⟩;refine aJ ?_;dsimp only;refine gen_ts (λH4=>Á H H4/\H4 l4=some (.lst ([decide (0=j),decide (1=j),decide (2=j),decide (3=j),decide (4=j),decide (5=j),decide (6=j),decide (7=j)].map V.bl))) ⟨(s3.updR EU).updR u7,aa⟩ λH4=>?_;rintro⟨s4,f4⟩;have GV:=s4 _ _ ea;refine aC (aR ?_);refine⟨_,rfl,?_⟩;refine fY (cJ ?_);refine dB (i:=8) Z Ò GV rfl ?_;refine cJ ?_;refine dB (i:=9) Z Ò GV rfl ?_;refine cJ ?_;refine dB (i:=10) Z Ò GV rfl ?_;refine cJ ?_;refine dB (i:=11) Z Ò GV rfl ?_;refine⟨zL,λp5 A6=>⟨l4,p5,_,_,rfl,rfl,Á.upd A6 _ _ f4,aa,zL,λl5 GW=>?_⟩⟩;refine aJ ?_;dsimp only;refine gen_ts (λH5=>Á H H5/\H5 l5=some (.lst ([decide (0=j),decide (1=j),decide (2=j),decide (3=j),decide (4=j),decide (5=j),decide (6=j),decide (7=j),decide (8=j),decide (9=j),decide (10=j),decide (11=j)].map V.bl))) ⟨(s4.updR A6).updR GW,aa⟩ λH5=>?_;rintro⟨s5,f5⟩;have GY:=s5 _ _ ea;refine aC (aR ?_);refine⟨_,rfl,?_⟩;refine fY (cJ ?_);refine dB (i:=12) Z Ò GY rfl ?_;refine cJ ?_;refine dB (i:=13) Z Ò GY rfl ?_;refine cJ ?_;refine dB (i:=14) Z Ò GY rfl ?_;refine cJ ?_;refine dB (i:=15) Z Ò GY rfl ?_;refine⟨zL,λp6 QW=>⟨l5,p6,_,_,rfl,rfl,Á.upd QW _ _ f5,aa,zL,λl6 LN=>?_⟩⟩;refine aJ ?_;dsimp only;refine gen_ts (λH6=>Á H H6/\H6 l6=some (.lst ([decide (0=j),decide (1=j),decide (2=j),decide (3=j),decide (4=j),decide (5=j),decide (6=j),decide (7=j),decide (8=j),decide (9=j),decide (10=j),decide (11=j),decide (12=j),decide (13=j),decide (14=j),decide (15=j)].map V.bl))) ⟨(s5.updR QW).updR LN,aa⟩ λH6=>?_;rintro⟨s6,f6⟩;have V8:=s6 _ _ ea;refine eF ?_;refine⟨_,rfl,?_⟩;refine fY (cJ ?_);refine dB (i:=16) Z Ù V8 rfl ?_;refine⟨zL,λp7 QX=>⟨l6,p7,_,_,rfl,rfl,Á.upd QX _ _ f6,aa,zL,λl7 V9=>?_⟩⟩;exact q l7 _ ((s6.updR QX).updR V9) aa
theorem Η:Ã [AAm,AAt,Ϸ,AAs,ABc] [AAm] (az (top 77)):=ú
section
theorem Dl(hK:X.K=K){j}(hl:BE X (.Name y q') tl)(hline:(p.endLine==pos.line)=true:=by rfl):BE X (.Call (.Attribute (.Name y q') "count" p) [.Constant (.bool k) j q] [] pos) (tBM K "list" uV tl (bV (tC (.bl k)) ie)):=by subst hK;exact Gw hl hline
theorem Dm(hK:X.K=K){j}(hl:BE X (.Name y q') tl)(hline:(p.endLine==pos.line)=true:=by rfl):BE X (.Call (.Attribute (.Name y q') "index" p) [.Constant (.bool k) j q] [] pos) (tBM K "list" uW tl (bV (tC (.bl k)) ie)):=by subst hK;exact Gx hl hline
theorem xT(hK:X.K=K):IxR X (KD K):=by subst hK;exact bM
theorem vB(hK:X.K=K):dH X (.builtin "isinstance") (λxs H Q=>∃a C c b,xs=[.ref a,c]/\H a=some (.ext (ñ a C))/\Ϛ K C/\((∃D,c=.ref D/\PySem.W.kitOne K (.ref C) (.ref D)=some b)\/∃n,c=.ty n/\PySem.W.kitOne K (.ref C) (.type n)=some b)/\Q (.bl b) H):=by subst hK;exact mU
end
def Jw(st:Stmt):List Stmt:=match st with|.Try _ [.ExceptHandler _ _ b _] _ _ _=>b|_=>[]
theorem GF(hr:ÿ (k+1) (iT Þ P w K mg base [AAm,AAt,Ϸ,AAs,ABc] AAq (az (top 77)) f cdv A outer s H E).A)(T:Mg mg)(Tv:mg "ValueError"=none)(L:Z02 mg Cs)(c1:Jt P w K mg base 1 ABb [Ϸ] (vA K Cs)):∃th,(∀v:Φ,Ķ (((iT Þ P w K mg base [AAm,AAt,Ϸ,AAs,ABc] AAq (az (top 77)) f cdv A outer s H E).nox.un ((iT Þ P w K mg base [AAm,AAt,Ϸ,AAs,ABc] AAq (az (top 77)) f cdv A outer s H E).nox.A.mark v)).nox) (Jw ((cC (top 77)).getD 0 (.Pass ⟨0,0,0,0⟩))) th)/\∀(D:Ĥ)y0 y1 y3 y4 a j H1,H1 a=some (.ext (ñ a (Cs j)))->Γ K Cs j->(∀H2,Á H1 H2->D.rt (.str (words.getD j "")) H2)->th D [y0,y1,some (.ref a),y3,y4] H1:=by refine⟨_,λv=>kW (aH (fX 3 Η.nd ⟨Ju c1 (hr.mark v) Ò rfl (aq (pv 2) aj)⟩) (aH (bs_if (Mm (Ml (Jr ⟨aK (vB (K:=K) rfl) rfl T.isinstance È (aq (pv 2) (aq (dh rfl Tv Js (v:=.ty "ValueError") rfl) aj))⟩)) (Pa (Dl (K:=K) rfl ⟨pv 3⟩))) (bz (fW d9)) bss_nil) (aH (bs_if (Mj (mD (xT (K:=K) rfl) ⟨pv 3⟩ fK (λ_ _=>rfl))) (bz ⟨aP Gv⟩) bss_nil) (aH (fX 4 Η.nd (cA (aU d9 (aU d9 (aU d9 (aU d9 (aU d9 (aU d9 (aU d9 (aU d9 (aU d9 bw))))))))))) (bz (fW (mD (xT (K:=K) rfl) (iy jg ⟨pv 4⟩ (cA (aU d9 (aU d9 (aU d9 (aU d9 (aU d9 (aU d9 (aU d9 bw))))))))) (Dm (K:=K) rfl ⟨pv 3⟩) (λ_ _=>rfl)))))))),?_⟩;intro D y0 y1 y3 y4 a j H1 ea Z q3;have lt:=Z.lt;refine aC (aR ?_);refine⟨_,rfl,a,j,rfl,ea,Z,λp H2 s2 e2=>?_⟩;refine aJ ?_;have Wa:H2 a=some (.ext (ñ a (Cs j))):=s2 _ _ ea;refine aC ?_;refine⟨_,rfl,a,Cs j,.ty "ValueError",true,rfl,Wa,Z.ex,.inr ⟨_,rfl,Z.ve⟩,_,rfl,?_⟩;refine aZ ?_;refine⟨_,rfl,.inl ⟨rfl,_,Ï.of e2⟩,p,Ĩ j,true,rfl,rfl,e2,rfl,_,rfl,?_⟩;rw[xR j z03];refine aZ (aC ?_);refine⟨_,rfl,p,_,16,.bl (decide (16=j)),rfl,rfl,Ï.of e2,rfl,_,rfl,?_⟩;rw[ĉ (by omega:¬16=j)];refine aZ (bN ?_);dsimp only;refine aC ?_;refine⟨by decide,λp4 EU=>?_⟩;refine aJ ?_;dsimp only;refine gen_ts (λH4=>Á H1 H4/\H4 p=some (.lst ((Ĩ j).map V.bl))/\H4 p4=some (.lst [.str "clips",.str "promises",.str "sales",.str "book",.str "number",.str "year",.str "weights",.str "paper",.str "growth"])) ⟨s2.updR EU,Á.upd EU _ _ e2,aa⟩ λH4=>?_;rintro⟨s4,f4,e4⟩;refine eF ?_;refine⟨_,rfl,by decide,λp5 A6=>⟨p4,p5,_,_,rfl,rfl,Á.upd A6 _ _ e4,aa,by decide,λl5 GW=>?_⟩⟩;have f6:=Á.upd (o:=.lst (words.map V.str)) GW _ _ (Á.upd (o:=.lst [.str "promise",.str "sort",.str "clip",.str "sale",.str "deed",.str "text",.str "line"]) A6 _ _ f4);refine⟨_,rfl,.inl ⟨rfl,_,Ï.of f6⟩,p,Ĩ j,true,j,rfl,rfl,f6,Gy À,λi hi=>Gz hi,l5,words.map V.str,j,_,rfl,rfl,Ï.of aa,GC lt,?_⟩;exact q3 _ ((s4.updR A6).updR GW)
theorem Jx(F:ß K AAq AAq (top 77) f fd)(T:Mg mg)(Tv:mg "ValueError"=none)(L:Z02 mg Cs)(c1:Jt P w K mg base 1 ABb [Ϸ] (vA K Cs)):Ê P w K mg base Þ (kk+2) f fd [AAm] (za P w K mg base Cs kk):=by
 refine F.oq Η λcdv A outer s H vs Q E hr h=>?_;obtain⟨fl,Qw,Ew,rfl,S,q1,q2⟩:=h;obtain⟨th,Wb,Wc⟩:=GF (f:=f) (cdv:=cdv) (A:=A) (outer:=outer) (s:=s) (H:=H) (E:=E) (base:=base) (P:=P) (w:=w) (k:=kk) (K:=K) hr.toU T Tv L c1;refine⟨_,aB (Lp (i:=2) (tb:=λEX=>yj (Lq (iT Þ P w K mg base [AAm,AAt,Ϸ,AAs,ABc] AAq (az (top 77)) f cdv A outer s H E).nox 0 (toE EX)) (bH 1)) (th:=th) L.wool rfl Η.nd rfl rfl rfl rfl (λÂ xe EX W=>aF (ě 1 Η.nd (Lr (E:=toE EX) (k:=kk) (hr.mono Ò) rfl (Or.inl rfl) W rfl))) (λv=>Wb v)) (aF (aP (bB (aq dY (aq (pv 1) aj))))),?_⟩;refine aC (aR ?_);refine Mp (kk:=kk) rfl S (hr.mono Ò) (λv H1 hq=>?_) (λa C H1 hE=>?_);.refine aJ ?_;exact⟨_,rfl,zL,λp hp=>q1 v H1 hq p hp⟩
 .obtain⟨j,rfl,Z,q3⟩:=q2 a C H1 hE;refine⟨Z.ca,λah gx fa=>?_⟩;match ah,gx with|[y0,y1,y2,y3,y4],_=>exact Wc _ y0 y1 y3 y4 a j _ aa Z λH2 s2=>q3 fa H2 ((Á.upd fa).trans s2)
def Mq(ps:UV)(r:VV):Int:=fl (ps.getD (fl r 1).toNat []) 1
theorem rA(rs:UV):(Ζ rs).Perm rs:=List.mergeSort_perm rs Ξ
theorem GJ:∀{k:Nat}{r:VV},r∈sy ps ss sort year k->∃(j h:Nat)(x:Int),j<k/\h<8/\fl (ps.getD j []) 1=sort/\r=[year,j,h,x]
 |0,r,hr=>by cases hr;|k+1,r,hr=>by
  rcases Ą.mp (hr)with z|z;.obtain⟨j,h,x,a,b⟩:=GJ z;exact⟨j,h,x,À,b⟩
  .unfold vo at z;split at z;.rename_i hs;obtain⟨q,hq,rfl⟩:=Ā.mp z;obtain⟨h,hh,rfl⟩:=Ā.mp hq;have:=ϡ.mp (Ϝ.mp hh).1;exact⟨k,h,_,Ò,this,hs,rfl⟩
   .cases z
theorem vC{r:VV}(hr:r∈aM ps ss sort year):fl r 0=year/\Mq ps r=sort/\0<=fl r 1/\fl r 1<ps.length/\0<=fl r 2/\fl r 2<8:=by
 obtain⟨j,h,x,a1,a2,a3,rfl⟩:=GJ hr;refine⟨rfl,?_,?_,?_,?_,?_⟩;.show fl (ps.getD ((j:Int)).toNat []) 1=sort;exact a3
 .show(0:Int)<=j;simp
 .show(j:Int)<ps.length;omega
 .show(0:Int)<=h;simp
 .show(h:Int)<8;lia
theorem Pb{w:Int}{cl:UV}(hw:0<=w)(hc:∀r∈cl,r.length=4/\1<=fl r 3/\fl r 3<=99)(hz:cl.length<=80):∀p∈cl.zip (bO w cl),p.2<=fl p.1 3:=λp hp=>by
 obtain⟨i,hi⟩:=List.mem_iff_getElem?.mp hp;obtain⟨h1,h2⟩:=List.getElem?_zip_eq_some.mp hi;have e3:(Ģ cl)[i]?=some (fl p.1 3):=by unfold Ģ;rw[ģ,h1];rfl
 unfold bO at h2;split at h2;.rw[e3]at h2;rw[<-ĭ h2];exact Za5 _
 .rename_i hs;have ok:K33P.OkW (Ģ cl):=by
   refine⟨?_,?_,λx hx=>?_⟩;.have:=(ġ.mp e3).1;grind
   .unfold Ģ;rw[Ý];exact hz
   .obtain⟨r,hr,rfl⟩:=Ā.mp hx;exact(hc r hr).2
  exact(K33P.res_get ok hw À h2 e3).2
theorem uh:∀(is:VV),å (is.map PyData.int)=is.length|[]=>rfl|i::is=>by show 1+å (is.map PyData.int)=is.length+1;rw[uh is];lia
theorem rows_szs:∀{rs:UV},(∀r∈rs,r.length=k)->å (rs.map rowD)=(k+1)*rs.length|[],_=>rfl|r::rs,h=>by show(1+å (r.map PyData.int))+å (rs.map rowD)=(k+1)*(rs.length+1);rw[uh,h r (.head _),rows_szs λq hq=>h q (.tail _ hq),Nat.mul_add];lia
theorem okP_sm(h:okP r):∀i∈r,-10<=i/\i<=2000000:=by obtain⟨h0,h1,h2,h3,h4,h5⟩:=h;rw[six_row h0];intro i hi;simp only[List.mem_cons,List.not_mem_nil,or_false]at hi;rcases hi with rfl|rfl|rfl|rfl|rfl|rfl<;>lia
theorem els_ths:∀{xs:List V}{rs:UV},î H xs rs->Å S H xs (rs.map rowD)|[],[],_=>.nil|[],_::_,h=>by have:=h.1;simp at this;|_::_,[],h=>by have:=h.1;simp at this;|x::xs,r::rs,h=>by obtain⟨t,e1,e2⟩:=h.2 0 r rfl;cases e1;refine .cons (.tup e2 (Å.ints r)) (els_ths ⟨by have:=h.1;simpa using this,λi q e=>?_⟩);obtain⟨u,g1,g2⟩:=h.2 (i+1) q (by rw[List.getElem?_cons_succ];exact e);exact⟨u,g1,g2⟩
def bd(r:VV):Prop:=r.length=4/\∀x∈r,0<=x/\x<=99
theorem vD(ha:0<=a/\a<=99)(hb:0<=b/\b<=99)(hc:0<=c/\c<=99)(hd:0<=d/\d<=99):bd [a,b,c,d]:=by refine⟨rfl,λx hx=>?_⟩;simp only[List.mem_cons,List.not_mem_nil,or_false]at hx;rcases hx with rfl|rfl|rfl|rfl<;>assumption
theorem GK(h:bd r):(0<=fl r 0/\fl r 0<=99)/\(0<=fl r 1/\fl r 1<=99)/\(0<=fl r 2/\fl r 2<=99)/\(0<=fl r 3/\fl r 3<=99):=by obtain⟨h4,h⟩:=h;rw[dW h4]at h;exact⟨h _ Ò,h _ Ò,h _ Ò,h _ Ò⟩
theorem Pg:∀{w:Int}{S:UV},∀p∈S.zip (dI w S),p.2<=fl p.1 3:=λ{w S}=>by induction S generalizing w with|nil=>intro p hp;cases hp;|cons r S ih=>
  intro p hp;rcases Ļ.mp hp with z|z;.rw[z];show(if w<fl r 3 then w else fl r 3)<=fl r 3;split<;>lia
  .exact ih p z
theorem Mr{ps ss ow:UV}(y0:0<=y)(y1:y<=99)(hc:∀x∈c,0<=x)(hu:un ps ss=none)(h5:∀s∈ss,s.length=5)(okp:∀r∈ps,okP r)(hl:ps.length<=10)(ho:∀r∈ow,okO ps r)(hb:∀r∈ow,bd r):∀n,(∀r∈(ê c ps ss ow y n).g,bd r)/\∀r∈(ê c ps ss ow y n).k,bd r
 |0=>⟨λr hr=>(by cases hr),λr hr=>(by cases hr)⟩|n+1=>by
  obtain⟨a,b⟩:=Mr (c:=c) (y:=y) y0 y1 hc hu h5 okp hl ho hb n;have nn:=Mi (y:=y) hc hu h5 okp hl ho n;have hw:0<=c.getD n 0+(ê c ps ss ow y n).d:=by have:=pM hc n;grind
  have qS:=jZ (sort:=n) (year:=y) hu h5 okp;have QY:=eQ (ss:=ss) (sort:=n) (year:=y) hl;generalize QZ:c.getD n 0+(ê c ps ss ow y n).d=w at hw;have EV:∀p∈(aM ps ss n y++aO ps ow n).zip (ę w (aM ps ss n y) (aO ps ow n)),bd p.1/\0<=p.2/\p.2<=fl p.1 3:=λp hp=>by
   obtain⟨m1,m2⟩:=Za6 (show(p.1,p.2)∈_ from hp);have s0:=(Gi hw qS QY (λr hr=>by have:=(nu (sort:=n) ho r hr).2.2.2;grind)).1 p.2 m2;refine⟨?_,s0,?_⟩
   .rcases Ą.mp m1 with z|z;.obtain⟨a1,a2,a3,a4,a5,a6⟩:=vC z;obtain⟨b1,b2,b3⟩:=qS _ z;rw[dW b1];exact vD À À À À
    .exact hb _ (Ϝ.mp z).1
   .unfold ę at hp;rw[List.zip_append Đ.symm]at hp;rcases Ą.mp hp with z|z;.exact Pb hw qS QY p z
    .exact Pg p z
  refine⟨λr hr=>?_,λr hr=>?_⟩
  .rcases Ą.mp (show r∈(ê c ps ss ow y n).g++iu _ from hr)with z|z;.exact a r z
   .rw[QZ]at z;obtain⟨p,hp,rfl⟩:=Ā.mp z;obtain⟨b1,b2,b3⟩:=EV p (Ϝ.mp hp).1;obtain⟨g0,g1,g2,g3⟩:=GK b1;exact vD g0 g1 g2 À
  .rcases Ą.mp (show r∈(ê c ps ss ow y n).k++iG _ from hr)with z|z;.exact b r z
   .rw[QZ]at z;obtain⟨p,hp,rfl⟩:=Ā.mp z;obtain⟨b1,b2,b3⟩:=EV p (Ϝ.mp hp).1;obtain⟨g0,g1,g2,g3⟩:=GK b1;exact vD g0 g1 g2 À
theorem Kd{cs:UV}(h:∀r∈cs,r.length=3/\∀x∈r,0<=x)(n:Nat):∀x∈cs.getD n [],0<=x:=λx hx=>by grind
theorem Bg(iL:∀r∈cs,r.length=3/\∀x∈r,0<=x)(hl:ps.length<=10)(hu:un ps ss=none)(h5:∀s∈ss,s.length=5)(okp:∀r∈ps,okP r):∀n,n<=20->∀r∈jo cs ps ss n,bd r|0,_,r,hr=>by cases hr;|n+1,hn,r,hr=>by have ih:=Bg iL hl hu h5 okp n À;obtain⟨mB,_⟩:=xP (cs:=cs) hl hu h5 okp n;exact(Mr (y:=n) Ò À (Kd iL n) hu h5 okp hl mB ih 3).2 r ((rA _).mem_iff.mp hr)
def đ(h v:VV->Int)(rs:UV):VV:=rs.foldl (λL r=>gM L (h r) (v r)) (List.replicate 8 0)
theorem xU(h v:VV->Int):∀(rs:UV)(L:VV),(rs.foldl (λL r=>gM L (h r) (v r)) L).length=L.length|[],_=>rfl|r::rs,L=>by show(rs.foldl _ (gM L (h r) (v r))).length=_;rw[xU h v rs,j7]
theorem oK(h v:VV->Int)(rs:UV):(đ h v rs).length=8:=xU h v rs _
theorem Dn(h v:VV->Int)(rs:UV)(r:VV):đ h v (rs++[r])=gM (đ h v rs) (h r) (v r):=by unfold đ;rw[List.foldl_append];rfl
theorem oM{rs:UV}(hi:i<rs.length):đ h v (rs.take (i+1))=gM (đ h v (rs.take i)) (h rs[i]) (v rs[i]):=by rw[ŋ,é hi];exact Dn h v _ _
def hO(r:VV):Prop:=0<=fl r 2/\fl r 2<8
theorem y_h{ps ss ow:UV}(ho:∀r∈ow,hO r):∀n,(∀r∈(ê c ps ss ow y n).g,hO r)/\∀r∈(ê c ps ss ow y n).k,hO r
 |0=>⟨λr hr=>(by cases hr),λr hr=>(by cases hr)⟩|n+1=>by
  obtain⟨a,b⟩:=y_h (c:=c) (ps:=ps) (ss:=ss) (y:=y) ho n;have EV:∀w,∀p∈(aM ps ss n y++aO ps ow n).zip (ę w (aM ps ss n y) (aO ps ow n)),hO p.1:=λw p hp=>by
   obtain⟨m1,m2⟩:=Za6 (show(p.1,p.2)∈_ from hp);rcases Ą.mp m1 with z|z;.obtain⟨a1,a2,a3,a4,a5,a6⟩:=vC z;exact⟨a5,a6⟩
   .exact ho _ (Ϝ.mp z).1
  refine⟨λr hr=>?_,λr hr=>?_⟩
  .rcases Ą.mp (show r∈(ê c ps ss ow y n).g++iu _ from hr)with z|z;.exact a r z
   .obtain⟨p,hp,rfl⟩:=Ā.mp z;exact EV _ p (Ϝ.mp hp).1
  .rcases Ą.mp (show r∈(ê c ps ss ow y n).k++iG _ from hr)with z|z;.exact b r z
   .obtain⟨p,hp,rfl⟩:=Ā.mp z;exact EV _ p (Ϝ.mp hp).1
theorem Jy:∀n,∀r∈jo cs ps ss n,hO r|0,r,hr=>by cases hr;|n+1,r,hr=>(y_h (Jy n) 3).2 r ((rA _).mem_iff.mp hr)
theorem g_h(n:Nat):∀r∈Ζ (vq cs ps ss n).g,hO r:=λr hr=>(y_h (Jy n) 3).1 r ((rA _).mem_iff.mp hr)
inductive Ϯ(vs:List V)(H:Hp)(Q:VK):Prop|mk:∀l xs rs,(vs=[.ref l])->(H l=some (.lst xs))->(î H xs rs)->((∀r∈rs,r.length=4/\hO r))->(∀k H',Á H H'->H k=none->k≠sysModules->H' k=some (.lst ((đ (fl · 2) (fl · 3) rs).map V.int))->Q (.ref k) H')->Ϯ  vs H Q
def Ke:Sp:=λvs H Q _=>Ϯ  vs H Q
theorem ϑ:Ã ["rows","sums","due","number","holder","sacks"] ["rows"] (az (top 65)):=ú
theorem Ms(F:ß K "by_holder" "by_holder" (top 65) f fd)(N:Nums mg):Ê P w K mg base Þ 1 f fd ["rows"] Ke:=by
 refine F.oq ϑ λcdv A outer s H vs Q E hr h=>?_;obtain⟨l,xs,R,rfl,EW,fx,hh,q⟩:=h;obtain⟨t1,e1⟩:=N.holders;refine⟨_,aB (ě 1 ϑ.nd (aQ pK (dJ (aq au aj)) (bQ (v:=.int 8) rfl e1 ⟨_,rfl⟩))) (aB (cG ň rfl (dC (pv 0)) (bR rfl (ao (Ô 2 ϑ.nd) (ao (Ô 3 ϑ.nd) (ao (Ô 4 ϑ.nd) (ao (Ô 5 ϑ.nd) aX))))) (aF (jQ (pv 1) (pv 4) gf (pv 5) pQ æ))) (aF (aP (pv 1)))),?_⟩;refine aC (aR ?_);refine⟨zL,λl0 oD=>⟨l0,8,_,rfl,rfl,aa,by decide,by decide,zL,λl1 bX qB=>?_⟩⟩;have s2:Á H (upd (upd H l0 (.lst [V.int 0])) l1 (.lst (List.replicate (8:Int).toNat [V.int 0]).flatten)):=(Á.upd oD).updR bX;have ŉ:upd (upd H l0 (.lst [V.int 0])) l1 (.lst (List.replicate (8:Int).toNat [V.int 0]).flatten) l1=some (.lst ((đ (fl · 2) (fl · 3) []).map V.int)):=aa;have kD:H l1=none:=(Á.upd oD).free bX;refine aJ ?_;dsimp only;refine aC ?_;have ek:=s2 _ _ EW;have gL:l≠l1:=aD EW kD;refine⟨_,rfl,l,rfl,⟨_,Ï.of ek⟩,?_⟩;refine gY (xs:=xs) (λi σ Hc=>Xe4 λx6 x7 x8 x9=>Xa3 (σ=[some (.ref l),some (.ref l1),x6,x7,x8,x9]) (Á H Hc) (Hc l1=some (.lst ((đ (fl · 2) (fl · 3) (R.take i)).map V.int)))) ?_ ?_ ?_ ?_;.exact⟨none,none,none,none,rfl,s2,ŉ⟩
 .rintro i σ Hc hi⟨x6,x7,x8,x9,rfl,sm,el⟩;exact Ï.of (sm _ _ EW)
 .rintro i x σ Hc hx⟨x6,x7,x8,x9,rfl,sm,el⟩;have hi:i<R.length:=by have:=(ġ.mp hx).1;rw[fx.1]at this;exact this
  obtain⟨tr,fv,bp⟩:=fx.2 i R[i] (é hi);have:x=.ref tr:=by rw[hx]at fv;exact ĭ fv
  subst this;rw[oM hi];have l8:=oK (fl · 2) (fl · 3) (R.take i);obtain⟨o4,h0,h1⟩:=hh _ (į hi);generalize R[i]=r at bp h0 h1 o4⊢;rw[dW o4]at bp;refine⟨tr,_,rfl,Ì.of (sm _ _ bp),rfl,_,_,rfl,_,_,rfl,_,_,rfl,_,_,rfl,rfl,?_⟩;refine⟨_,rfl,_,rfl,l1,_,fl r 2,_,rfl,rfl,Ï.of el,h0,jn À,_,rfl,_,_,rfl,rfl,l1,_,fl r 2,(fl r 2).toNat,rfl,rfl,el,qU h0 (by rw[Ý];omega),?_⟩;rw[jY];exact⟨_,_,_,_,rfl,λb o e=>by rw[aA (aD e kD)];exact sm _ _ e,aa⟩
 .rintro σ Hc⟨x6,x7,x8,x9,rfl,sm,el⟩;dsimp only;rw[fx.1,Ľ]at el;exact⟨_,rfl,q l1 Hc sm kD qB el⟩
def clY(ps ss:UV)(y:Nat):Nat->UV|0=>[]|n+1=>clY ps ss y n++aM ps ss (n:Int) (y:Int)
def lq(ps ss:UV):Nat->UV|0=>[]|m+1=>lq ps ss m++clY ps ss m 3
def rB(cs ps ss:UV):Nat->UV|0=>[]|m+1=>rB cs ps ss m++Ζ (vq cs ps ss m).g
theorem vG(h:ps.length<=10):∀n,(clY ps ss y n).length<=80*n|0=>Ø _|n+1=>by show(clY ps ss y n++aM ps ss n y).length<=_;rw[ý];have:=vG (ss:=ss) (y:=y) h n;have:=eQ (ss:=ss) (sort:=(n:Int)) (year:=(y:Int)) h;lia
theorem ul(h:ps.length<=10):∀m,(lq ps ss m).length<=240*m|0=>Ø _|m+1=>by show(lq ps ss m++clY ps ss m 3).length<=_;rw[ý];have:=ul (ss:=ss) h m;have:=vG (ss:=ss) (y:=m) h 3;grind
theorem GP(hu:un ps ss=none)(h5:∀s∈ss,s.length=5)(okp:∀r∈ps,okP r):∀n,∀r∈clY ps ss y n,r.length=4/\hO r
 |0,r,hr=>by cases hr;|n+1,r,hr=>by
  rcases Ą.mp (hr)with z|z;.exact GP hu h5 okp n r z
  .obtain⟨_,_,_,_,a5,a6⟩:=vC z;exact⟨(jZ hu h5 okp r z).1,a5,a6⟩
theorem xV(hu:un ps ss=none)(h5:∀s∈ss,s.length=5)(okp:∀r∈ps,okP r):∀m,∀r∈lq ps ss m,r.length=4/\hO r
 |0,r,hr=>by cases hr;|m+1,r,hr=>by
  rcases Ą.mp (hr)with z|z;.exact xV hu h5 okp m r z
  .exact GP hu h5 okp 3 r z
theorem Kf(iL:∀r∈cs,r.length=3/\∀x∈r,0<=x)(hl:ps.length<=10)(hu:un ps ss=none)(h5:∀s∈ss,s.length=5)(okp:∀r∈ps,okP r)(hn:n<20):(∀r∈Ζ (vq cs ps ss n).g,bd r)/\(Ζ (vq cs ps ss n).g).length<=16000:=by obtain⟨mB,V2⟩:=xP (cs:=cs) hl hu h5 okp n;have hb:=Bg iL hl hu h5 okp n À;refine⟨λr hr=>(Mr (y:=n) Ò À (Kd iL n) hu h5 okp hl mB hb 3).1 r ((rA _).mem_iff.mp hr),?_⟩;rw[(rA _).length_eq];have:=(Gk (c:=cs.getD n []) (ss:=ss) (ow:=jo cs ps ss n) (y:=n) hl 3).1;unfold vq;grind
theorem GQ(iL:∀r∈cs,r.length=3/\∀x∈r,0<=x)(hl:ps.length<=10)(hu:un ps ss=none)(h5:∀s∈ss,s.length=5)(okp:∀r∈ps,okP r):∀m,m<=20->(∀r∈rB cs ps ss m,r.length=4/\hO r)/\(rB cs ps ss m).length<=16000*m
 |0,_=>⟨λr hr=>(by cases hr),Ø _⟩|m+1,h=>by
  obtain⟨a,b⟩:=GQ iL hl hu h5 okp m À;obtain⟨c,d⟩:=Kf (n:=m) iL hl hu h5 okp À;refine⟨λr hr=>?_,?_⟩
  .rcases Ą.mp (hr)with z|z;.exact a r z
   .exact⟨(c r z).1,g_h m r z⟩
  .show(rB cs ps ss m++Ζ (vq cs ps ss m).g).length<=_;rw[ý];lia
def Mt:UV->UV->UV->Int->VK->Hp->Prop:=λcs ps ss y Q H=>∀k xk H',Á H H'->H k=none->H' k=some (.lst xk)->î H' xk (lq ps ss (y.toNat+1))->Q (.ref k) H'
def Qe(A B C:VV)(j:Nat):VV:=[A.getD j 0,B.getD j 0,C.getD j 0]
def Qf(cs ps ss:UV)(m:Nat)(j:Nat):VV:=Qe (đ (fl · 2) (fl · 3) (lq ps ss m)) (đ (fl · 2) (fl · 3) (rB cs ps ss m)) (đ (fl · 2) (fl · 3) (jo cs ps ss m)) j
def Mu:UV->UV->UV->Int->VK->Hp->Prop:=λcs ps ss y Q H=>∀l(as:ă)H',Á H H'->H l=none->l≠sysModules->H' l=some (.lst (as.map V.ref))->as.length=8->(∀j a,as[j]?=some a->H' a=some (.tup ((Qf cs ps ss (y.toNat+1) j).map V.int)))->Q (.ref l) H'
theorem Ū:Ã ["book","year","clips","promises","sales","claims","at","sort"] ["book","year"] (az (top 66)):=ú
theorem Jz(F:ß K "claims_to" "claims_to" (top 66) f fd)(N:Nums mg)(Tr:mg "range"=none)(c3:á P w K mg base 2 "claims_in" ["promises","sales","sort","year"] qZ):Ê P w K mg base Þ 3 f fd ["book","year"] (Dk Mt):=by
 refine F.oq Ū λcdv A outer s H vs Q E hr h=>?_;obtain⟨bk,y,ac,xc,cs,ap,xp,ps,af,xs,ss,rfl,B,y0,y1,q⟩:=h;obtain⟨t1,e1⟩:=N.sorts;refine⟨_,aB (cP (pv 0) (bR rfl (ao (Ô 2 Ū.nd) (ao (Ô 3 Ū.nd) (ao (Ô 4 Ū.nd) aX))))) (aB (ě 5 Ū.nd (dJ aj)) (aB (cG ň rfl (cY rfl Tr (aq (aQ bU (pv 1) au) aj)) (Ô 6 Ū.nd) (aF (cG ň rfl (cY rfl Tr (aq (bQ (v:=.int 3) rfl e1 ⟨_,rfl⟩) aj)) (Ô 7 Ū.nd) (aF (lw (i:=5) Ū.nd rfl (Or.inl rfl) (aG c3 hr (aq (pv 3) (aq (pv 4) (aq (pv 7) (aq (pv 6) aj))))) nZ))))) (aF (aP (pv 5))))),?_⟩;obtain⟨n,rfl⟩:∃n:Nat,y=n:=⟨y.toNat,À⟩;unfold Mt at q;rw[Ϟ]at q;have hn:n<20:=by have:=B.lc;lia
 have eM:=Be B.un B.h5;refine aC ?_;refine⟨_,rfl,bk,_,rfl,Ì.of B.e,rfl,_,_,rfl,_,_,rfl,_,_,rfl,rfl,?_⟩;dsimp only;refine aC (aR ?_);refine⟨zL,λl hl=>?_⟩;have s0:=Á.upd (o:=.lst []) hl;have EW:upd H l (.lst []) l=some (.lst []):=aa;refine aJ ?_;dsimp only;refine aC ?_;refine⟨_,rfl,_,_,rfl,rfl,(n:Int)+1,rfl,À,À,?_⟩;refine eV (lo:=0) (λi σ Hc=>Xe3 λx6 x7 xl=>Xa4 (σ=[some (.ref bk),some (.int n),some (.ref ac),some (.ref ap),some (.ref af),some (.ref l),x6,x7]) (Á H Hc) (Hc l=some (.lst xl)) (î Hc xl (lq ps ss i))) ?_ ?_ ?_;.exact⟨none,none,[],rfl,s0,EW,î.nil⟩
 .rintro i σ Hc hi⟨x6,x7,xl,rfl,sc,el,cm⟩;refine aJ ?_;refine rd_E λDe sN=>?_;refine⟨3,rfl,by decide,by decide,?_⟩;refine eV (lo:=0) (n:=3) (λj σ Hd=>∃x7 xl,σ=[some (.ref bk),some (.int n),some (.ref ac),some (.ref ap),some (.ref af),some (.ref l),some (.int (0+(i:Int))),x7]/\Á H Hd/\Hd l=some (.lst xl)/\î Hd xl (lq ps ss i++clY ps ss i j)) ?_ ?_ ?_;.exact⟨_,xl,rfl,sc,el,by show î Hc xl (lq ps ss i++[]);rw[ļ];exact cm⟩
  .rintro j σ Hd hj⟨x7,xl,rfl,sd,el,cm⟩;refine aJ ?_;have B2:=B.same sd;refine⟨_,rfl,_,rfl,_,rfl,_,rfl,_,rfl,ap,xp,ps,af,xs,ss,_,_,rfl,B2.rp,B.lp,B.okp,B2.rs,B.ls,eM,λk xk H3 s3 nk ek fx=>?_⟩;have i0:(0:Int)+(i:Int)=(i:Int):=Int.zero_add _;have j0:(0:Int)+(j:Int)=(j:Int):=Int.zero_add _;rw[i0,j0]at fx;have a1:=cm.1;have a2:=fx.1;have b1:=ul (ss:=ss) B.lp i;have b2:=vG (ss:=ss) (y:=i) B.lp j;have b3:=eQ (ss:=ss) (sort:=(j:Int)) (year:=(i:Int)) B.lp;rw[ý]at a1;refine⟨l,k,xl,xk,rfl,rfl,s3 _ _ el,ek,by rw[sizeLine_eq];lia,?_⟩;refine⟨_,xl++xk,rfl,λb o e=>?_,aa,?_⟩;.rw[aA (aD e hl)];exact s3 _ _ (sd _ _ e)
   .have e3:=((cm.same s3).app fx).keep (H':=upd H3 l (.lst (xl++xk))) λb z e=>by
     rw[aA λw=>?_];.exact e
     .rw[w,s3 _ _ el]at e;cases e
    rw[Ŧ]at e3;exact e3
  .rintro σ Hd⟨x7,xl,rfl,sd,el,cm⟩;exact sN _ _ ⟨_,_,xl,rfl,sd,el,cm⟩
 .rintro σ Hc⟨x6,x7,xl,rfl,sc,el,cm⟩;dsimp only;exact⟨_,rfl,q l xl Hc sc hl el cm⟩
theorem Ν:Ã ["book","year","given","gifts","owed","left"] ["book","year"] (az (top 68)):=ú
theorem JB(F:ß K "sums_by" "sums_by" (top 68) f fd)(Tl:mg "list"=none)(Tz:mg "zip"=none)(c1:á P w K mg base 8 "refuse_no_year" ["book","year"] (xQ Jp))(c2:á P w K mg base 10 "years_given" ["book","year"] vz)(c3:á P w K mg base 3 "claims_to" ["book","year"] (Dk Mt))(c4:á P w K mg base 11 "owed_behind" ["book","year"] (Dk ug))(c5:á P w K mg base 1 "by_holder" ["rows"] Ke):Ê P w K mg base Þ 12 f fd ["book","year"] (xQ Mu):=by
 refine F.oq Ν λcdv A outer s H vs Q E hr h=>?_;obtain⟨S,bk,y,d,ac,xc,cs,ap,xp,ps,af,xs,ss,rfl,th,hz,hb,B,y0,y1,q⟩:=h;refine⟨_,aB (cB (aG c1 hr (aq (pv 0) (aq (pv 1) aj)))) (aB (ě 2 Ν.nd (dJ aj)) (aB (cG ň rfl (dC (aG c2 hr (aq (pv 0) (aq (pv 1) aj)))) (bR rfl (ao (Ô 3 Ν.nd) (ao (Ô 4 Ν.nd) (ao (Ô 5 Ν.nd) aX)))) (aF (lw (i:=2) Ν.nd rfl (Or.inl rfl) (pv 3) nZ))) (aF (aP (Z3.pe_lzip3 hr.hd rfl Tl rfl Tz (aq (aG c5 hr (aq (aG c3 hr (aq (pv 0) (aq (pv 1) aj))) aj)) (aq (aG c5 hr (aq (pv 2) aj)) (aq (aG c5 hr (aq (aG c4 hr (aq (pv 0) (aq (pv 1) aj))) aj)) aj)))))))),?_⟩;obtain⟨n,rfl⟩:∃n:Nat,y=n:=⟨y.toNat,À⟩;unfold Mu at q;rw[Ϟ]at q;have hn:n<20:=by have:=B.lc;lia
 refine aC ?_;refine⟨_,rfl,_,rfl,S,bk,(n:Int),d,ac,xc,cs,ap,xp,ps,af,xs,ss,rfl,th,hz,hb,B,y0,y1,λH1 s1=>?_⟩;dsimp only;refine aC (aR ?_);refine⟨zL,λl hl=>?_⟩;have s2:=s1.updR (o:=.lst []) hl;have Wd:H l=none:=s1.free hl;have Ş:upd H1 l (.lst []) l=some (.lst []):=aa;generalize upd H1 l (.lst [])=H2 at s2 Ş⊢;have B2:=B.same s2;refine aJ ?_;dsimp only;refine aC ?_;refine⟨_,rfl,_,rfl,bk,(n:Int),ac,xc,cs,ap,xp,ps,af,xs,ss,rfl,B2.e,B2.rc,B.okc,B.lc,y0,y1,B2.rp,B.lp,B.okp,B2.rs,B.ls,B.h5,B.un,λly ts H3 s3 Ra Rb lt hy=>⟨ly,rfl,⟨_,Ï.of Rb⟩,?_⟩⟩;have Ϡ:=s3 _ _ Ş;have ME:ly≠l:=λz=>by rw[z,Ş]at Ra;cases Ra
 refine gY (xs:=ts.map V.ref) (λi σ Hc=>Xe4 λx3 x4 x5 xl=>Xa4 (σ=[some (.ref bk),some (.int n),some (.ref l),x3,x4,x5]) ((∀b o,b≠l->H3 b=some o->Hc b=some o)) (Hc l=some (.lst xl)) (î Hc xl (rB cs ps ss i))) ?_ ?_ ?_ ?_;.exact⟨none,none,none,[],rfl,λ_ _ _ e=>e,Ϡ,î.nil⟩
 .rintro i σ Hc hi⟨x3,x4,x5,xl,rfl,sc,el,cm⟩;exact Ï.of (sc _ _ ME Rb)
 .rintro i x σ Hc hx⟨x3,x4,x5,xl,rfl,sc,el,cm⟩;rw[ģ]at hx;obtain⟨a,ha,rfl⟩:=Option.map_eq_some_iff.mp hx;have hi:i<n+1:=by have:=(ġ.mp ha).1;grind
  obtain⟨g,k,tl,xg,xk,e1,n1,n2,d1,d2,e2,e3,e4,e5,e6,e7⟩:=hy i a ha;have na:a≠l:=λz=>by rw[z,Ϡ]at e1;cases e1
  have ng:g≠l:=λz=>by rw[z,Ş]at n1;cases n1
  refine⟨a,_,rfl,Ì.of (sc _ _ na e1),rfl,_,_,rfl,_,_,rfl,_,_,rfl,rfl,?_⟩;have a1:=cm.1;have a2:=e3.1;have b1:=(GQ B.okc B.lp B.un B.h5 B.okp i À).2;have b2:=(Kf (n:=i) B.okc B.lp B.un B.h5 B.okp À).2;refine⟨_,rfl,_,rfl,l,g,xl,xg,rfl,rfl,el,sc _ _ ng e2,by rw[sizeLine_eq];grind,?_⟩;have kp:∀b z,Hc b=some (.tup z)->upd Hc l (.lst (xl++xg)) b=some (.tup z):=λb z e=>by
   rw[aA λw=>?_];.exact e
   .rw[w,el]at e;cases e
  refine⟨_,_,_,xl++xg,rfl,λb o nb e=>by rw[aA nb];exact sc _ _ nb e,aa,?_⟩;have ex:î Hc xg (Ζ (vq cs ps ss i).g):=e3.keep λb z e=>sc _ _ (λw=>by rw[w,Ϡ]at e;cases e) e;exact(cm.app ex).keep kp
 .rintro σ Hc⟨x3,x4,x5,xl,rfl,sc,el,cm⟩;rw[Ý,show ts.length=n+1 by lia]at cm;have sH:Á H Hc:=λb o e=>sc _ _ (aD e Wd) (s3 _ _ (s2 _ _ e));have BC:=B.same sH;dsimp only;refine eF ?_;refine⟨_,rfl,_,rfl,bk,(n:Int),ac,xc,cs,ap,xp,ps,af,xs,ss,rfl,BC,y0,y1,λk1 We H4 s4 n4 e4 el4=>?_⟩;rw[Ϟ]at el4;refine⟨k1,We,_,rfl,e4,el4,xV B.un B.h5 B.okp _,λr1 H5 s5 n5 ns5 e5=>?_⟩;have G0:=s4.trans s5;refine⟨_,rfl,l,xl,_,rfl,G0 _ _ el,cm.same G0,(GQ B.okc B.lp B.un B.h5 B.okp (n+1) À).1,λr2 H6 s6 n6 ns6 e6=>?_⟩;have Wf:=G0.trans s6;refine⟨_,rfl,_,rfl,bk,(n:Int),ac,xc,cs,ap,xp,ps,af,xs,ss,rfl,BC.same Wf,y0,y1,λk3 Wg H7 s7 n7 ns7 e7 AB=>?_⟩;rw[Ϟ]at AB;have G1:=Bg B.okc B.lp B.un B.h5 B.okp (n+1) À;refine⟨k3,Wg,_,rfl,e7,AB,λr hr=>⟨(G1 r hr).1,Jy _ r hr⟩,λr3 H8 s8 n8 ns8 e8=>?_⟩;have Rc:=(s6.trans s7).trans s8;have Rf:=G0.trans Rc;have A1:=oK (fl · 2) (fl · 3) (lq ps ss (n+1));have A2:=oK (fl · 2) (fl · 3) (rB cs ps ss (n+1));have A3:=oK (fl · 2) (fl · 3) (jo cs ps ss (n+1));refine⟨r1,r2,r3,_,_,_,rfl,Ï.of (Rc _ _ e5),Ï.of (s8 _ _ (s7 _ _ e6)),Ï.of e8,by rw[Ý,Ý,A1,A2],by rw[Ý,Ý,A1,A3],by rw[Ý,A1];decide,λlz as H9 s9 nz LY ez Wh hz=>?_⟩;refine q lz as H9 ((sH.trans Rf).trans s9) ((sH.trans Rf).free nz) LY ez (by rw[Wh,Ý,A1]) λj a ha=>?_;rw[hz j a ha];have hj:j<8:=by grind
  have gm:∀{L:VV},L.length=8->(L.map V.int).getD j .non=.int (L.getD j 0):=λ{L}hL=>by rw[ŧ,jn À];rfl
  show some (HO.tup [_,_,_])=some (HO.tup [_,_,_]);rw[gm A1,gm A2,gm A3]
def lQ(ps:UV)(r:VV):Int:=fl r 3*fl (ps.getD (fl r 1).toNat []) 5
def xW(r:VV):Int:=fl r 4*(fl r 3-fl r 2+1)*fl r 5
def zc:UV->UV->UV->Int->VK->Hp->Prop:=λcs ps ss y Q H=>∀k H',Á H H'->H k=none->k≠sysModules->H' k=some (.lst ((đ (fl · 2) (lQ ps) (jo cs ps ss (y.toNat+1))).map V.int))->Q (.ref k) H'
inductive τ(vs:List V)(H:Hp)(Q:VK):Prop|mk:∀S bk d ac xc cs ap xp ps af xs ss,(vs=[.ref bk])->(É S H (.ref bk) d)->(sz d<=4000)->(cR d=true)->(ĥ H bk ac xc cs ap xp ps af xs ss)->(∀k H',Á H H'->H k=none->k≠sysModules->H' k=some (.lst ((đ (fl · 0) xW ps).map V.int))->Q (.ref k) H')->τ  vs H Q
def GR:Sp:=λvs H Q _=>τ  vs H Q
theorem Ŏ:Ã ["book","year","clips","promises","sales","pence","due","number","holder","sacks"] ["book","year"] (az (top 69)):=ú
theorem GX(F:ß K "pence_owed" "pence_owed" (top 69) f fd)(N:Nums mg)(c1:á P w K mg base 8 "refuse_no_year" ["book","year"] (xQ Jp))(c2:á P w K mg base 11 "owed_behind" ["book","year"] (Dk ug)):Ê P w K mg base Þ 12 f fd ["book","year"] (xQ zc):=by
 refine F.oq Ŏ λcdv A outer s H vs Q E hr h=>?_;obtain⟨S,bk,y,d,ac,xc,cs,ap,xp,ps,af,xs,ss,rfl,th,hz,hb,B,y0,y1,q⟩:=h;obtain⟨t1,e1⟩:=N.holders;refine⟨_,aB (cB (aG c1 hr (aq (pv 0) (aq (pv 1) aj)))) (aB (cP (pv 0) (bR rfl (ao (Ô 2 Ŏ.nd) (ao (Ô 3 Ŏ.nd) (ao (Ô 4 Ŏ.nd) aX))))) (aB (ě 5 Ŏ.nd (aQ pK (dJ (aq au aj)) (bQ (v:=.int 8) rfl e1 ⟨_,rfl⟩))) (aB (cG ň rfl (dC (aG c2 hr (aq (pv 0) (aq (pv 1) aj)))) (bR rfl (ao (Ô 6 Ŏ.nd) (ao (Ô 7 Ŏ.nd) (ao (Ô 8 Ŏ.nd) (ao (Ô 9 Ŏ.nd) aX))))) (aF (jQ (pv 5) (pv 8) gf (aQ gZ (pv 9) (pX bu (pX bu (pv 3) (pv 7)) au)) pQ æ))) (aF (aP (pv 5)))))),?_⟩;refine aC ?_;refine⟨_,rfl,_,rfl,S,bk,y,d,ac,xc,cs,ap,xp,ps,af,xs,ss,rfl,th,hz,hb,B,y0,y1,λH1 s1=>?_⟩;dsimp only;have B1:=B.same s1;refine aC ?_;refine⟨_,rfl,bk,_,rfl,Ì.of B1.e,rfl,_,_,rfl,_,_,rfl,_,_,rfl,rfl,?_⟩;dsimp only;refine aC (aR ?_);refine⟨zL,λl0 oD=>⟨l0,8,_,rfl,rfl,aa,by decide,by decide,zL,λl1 bX qB=>?_⟩⟩;have s2:Á H1 (upd (upd H1 l0 (.lst [V.int 0])) l1 (.lst (List.replicate (8:Int).toNat [V.int 0]).flatten)):=(Á.upd oD).updR bX;have ŉ:upd (upd H1 l0 (.lst [V.int 0])) l1 (.lst (List.replicate (8:Int).toNat [V.int 0]).flatten) l1=some (.lst ((đ (fl · 2) (lQ ps) []).map V.int)):=aa;have kD:H1 l1=none:=(Á.upd oD).free bX;have fH:H l1=none:=s1.free kD;refine aJ ?_;dsimp only;refine aC ?_;refine⟨_,rfl,_,rfl,bk,y,ac,xc,cs,ap,xp,ps,af,xs,ss,rfl,B1.same s2,y0,y1,λk xk H3 s3 nk QT ek fx=>⟨k,rfl,⟨_,Ï.of ek⟩,?_⟩⟩;have gL:k≠l1:=λz=>by rw[z,ŉ]at nk;cases nk
 have B3:=(B1.same s2).same s3;have B0:∀b o,H b=some o->H3 b=some o:=λb o e=>s3 _ _ (s2 _ _ (s1 _ _ e));have Ϡ:=s3 _ _ ŉ;have G1:=Bg B.okc B.lp B.un B.h5 B.okp (y.toNat+1) (by have:=B.lc;lia);obtain⟨mB,_⟩:=xP (cs:=cs) B.lp B.un B.h5 B.okp (y.toNat+1);have hh:=Jy (cs:=cs) (ps:=ps) (ss:=ss) (y.toNat+1);unfold zc at q;generalize jo cs ps ss (y.toNat+1)=R at fx G1 mB hh q⊢;refine gY (xs:=xk) (λi σ Hc=>Xe4 λx6 x7 x8 x9=>Xa3 (σ=[some (.ref bk),some (.int y),some (.ref ac),some (.ref ap),some (.ref af),some (.ref l1),x6,x7,x8,x9]) ((∀b o,b≠l1->H3 b=some o->Hc b=some o)) (Hc l1=some (.lst ((đ (fl · 2) (lQ ps) (R.take i)).map V.int)))) ?_ ?_ ?_ ?_;.exact⟨none,none,none,none,rfl,λ_ _ _ e=>e,Ϡ⟩
 .rintro i σ Hc hi⟨x6,x7,x8,x9,rfl,sm,el⟩;exact Ï.of (sm _ _ gL ek)
 .rintro i x σ Hc hx⟨x6,x7,x8,x9,rfl,sm,el⟩;have hi:i<R.length:=by have:=(ġ.mp hx).1;rw[fx.1]at this;exact this
  obtain⟨tr,fv,bp⟩:=fx.2 i R[i] (é hi);have:x=.ref tr:=by rw[hx]at fv;exact ĭ fv
  subst this;rw[oM hi];have l8:=oK (fl · 2) (lQ ps) (R.take i);generalize đ (fl · 2) (lQ ps) (R.take i)=L at el l8⊢;have zw:=mB _ (į hi);have br:=G1 _ (į hi);obtain⟨h0,h1⟩:=hh _ (į hi);obtain⟨o4,o1,o2,o3⟩:=zw;obtain⟨p,hp,ep,okp⟩:=prom_ok (n:=fl R[i] 1) B.okp o1 o2;have Rp:RowsAt Hc ap xp ps:=B3.rp.keep λb l e=>sm _ _ (λz=>by rw[z,Ϡ]at e;cases e) e;obtain⟨tp,iA,kx⟩:=rows_at Rp o1 hp;have yA:lQ ps R[i]=fl R[i] 3*fl p 5:=by unfold lQ;rw[ep]
  rw[yA];generalize R[i]=r at bp h0 h1 o4 o1 o2 o3 br iA hp ep⊢;rw[dW o4]at bp;rw[six_row okp.1]at kx;have MX:tr≠l1:=λz=>by rw[z,Ϡ]at bp;cases bp
  refine⟨tr,_,rfl,Ì.of (sm _ _ MX bp),rfl,_,_,rfl,_,_,rfl,_,_,rfl,_,_,rfl,rfl,?_⟩;refine⟨_,rfl,_,rfl,l1,_,fl r 2,_,rfl,rfl,Ï.of el,h0,jn z03,_,rfl,_,rfl,_,rfl,ap,xp,fl r 1,.ref tp,rfl,rfl,Ì.of Rp.e,iA,tp,_,5,.int (fl p 5),rfl,rfl,Ì.of kx,rfl,_,_,rfl,rfl,?_,_,_,rfl,rfl,l1,_,fl r 2,(fl r 2).toNat,rfl,rfl,el,qU h0 (by rw[Ý];grind),?_⟩;.obtain⟨_,_,_,_,_,p5⟩:=okp;exact .inr À
  rw[jY];exact⟨_,_,_,_,rfl,λb o hb e=>by rw[aA hb];exact sm _ _ hb e,aa⟩
 .rintro σ Hc⟨x6,x7,x8,x9,rfl,sm,el⟩;dsimp only;rw[fx.1,Ľ]at el;exact⟨_,rfl,q l1 Hc (λb o e=>sm _ _ (aD e fH) (B0 _ _ e)) fH qB el⟩
theorem Ĺ:Ã ["book","clips","promises","sales","paid","holder","sort","first","last","sacks","price"] ["book"] (az (top 70)):=ú
theorem JC(F:ß K "paid_before" "paid_before" (top 70) f fd)(N:Nums mg)(c1:á P w K mg base 7 "refuse_no_book" ["thing"] yZ):Ê P w K mg base Þ 8 f fd ["book"] GR:=by
 refine F.oq Ĺ λcdv A outer s H vs Q E hr h=>?_;obtain⟨S,bk,d,ac,xc,cs,ap,xp,ps,af,xs,ss,rfl,th,hz,hb,B,q⟩:=h;obtain⟨t1,e1⟩:=N.holders;refine⟨_,aB (cB (aG c1 hr (aq (pv 0) aj))) (aB (cP (pv 0) (bR rfl (ao (Ô 1 Ĺ.nd) (ao (Ô 2 Ĺ.nd) (ao (Ô 3 Ĺ.nd) aX))))) (aB (ě 4 Ĺ.nd (aQ pK (dJ (aq au aj)) (bQ (v:=.int 8) rfl e1 ⟨_,rfl⟩))) (aB (cG ň rfl (gG (pv 2)) (bR rfl (ao (Ô 5 Ĺ.nd) (ao (Ô 6 Ĺ.nd) (ao (Ô 7 Ĺ.nd) (ao (Ô 8 Ĺ.nd) (ao (Ô 9 Ĺ.nd) (ao (Ô 10 Ĺ.nd) aX))))))) (aF (jQ (pv 4) (pv 5) gf (aQ gZ (aQ gZ (pv 9) (aQ bU (aQ dZ (pv 8) (pv 7)) au)) (pv 10)) pQ æ))) (aF (aP (pv 4)))))),?_⟩;refine aC ?_;refine⟨_,rfl,S,_,d,rfl,th,hz,hb,λH1 s1=>?_⟩;dsimp only;have B1:=B.same s1;refine aC ?_;refine⟨_,rfl,bk,_,rfl,Ì.of B1.e,rfl,_,_,rfl,_,_,rfl,_,_,rfl,rfl,?_⟩;dsimp only;refine aC (aR ?_);refine⟨zL,λl0 oD=>⟨l0,8,_,rfl,rfl,aa,by decide,by decide,zL,λl1 bX qB=>?_⟩⟩;have s2:Á H1 (upd (upd H1 l0 (.lst [V.int 0])) l1 (.lst (List.replicate (8:Int).toNat [V.int 0]).flatten)):=(Á.upd oD).updR bX;have ŉ:upd (upd H1 l0 (.lst [V.int 0])) l1 (.lst (List.replicate (8:Int).toNat [V.int 0]).flatten) l1=some (.lst ((đ (fl · 0) xW []).map V.int)):=aa;have kD:H1 l1=none:=(Á.upd oD).free bX;generalize upd (upd H1 l0 (.lst [V.int 0])) l1 (.lst (List.replicate (8:Int).toNat [V.int 0]).flatten)=H2 at s2 ŉ⊢;have fH:H l1=none:=s1.free kD;have B2:=B1.same s2;have B0:∀b o,H b=some o->H2 b=some o:=λb o e=>s2 _ _ (s1 _ _ e);have Wi:ap≠l1:=λz=>by have:=B2.rp.e;rw[z,ŉ]at this;cases this
 refine aJ ?_;dsimp only;refine aC ?_;refine⟨_,rfl,ap,rfl,⟨_,Ì.of B2.rp.e⟩,?_⟩;refine ur (xs:=xp) (λi σ Hc=>Xe6 λx5 x6 x7 x8 x9 fw=>Xa3 (σ=[some (.ref bk),some (.ref ac),some (.ref ap),some (.ref af),some (.ref l1),x5,x6,x7,x8,x9,fw]) ((∀b o,b≠l1->H2 b=some o->Hc b=some o)) (Hc l1=some (.lst ((đ (fl · 0) xW (ps.take i)).map V.int)))) ?_ ?_ ?_ ?_;.exact⟨none,none,none,none,none,none,rfl,λ_ _ _ e=>e,ŉ⟩
 .rintro i σ Hc hi⟨x5,x6,x7,x8,x9,fw,rfl,sm,el⟩;exact Ì.of (sm _ _ Wi B2.rp.e)
 .rintro i x σ Hc hx⟨x5,x6,x7,x8,x9,fw,rfl,sm,el⟩;have hi:i<ps.length:=by have:=(ġ.mp hx).1;rw[B.rp.l]at this;exact this
  obtain⟨tr,fv,bp⟩:=B2.rp.g i ps[i] (é hi);have:x=.ref tr:=by rw[hx]at fv;exact ĭ fv
  subst this;rw[oM hi];have l8:=oK (fl · 0) xW (ps.take i);obtain⟨p6,⟨a0,a1⟩,b,⟨c1,c2,c3⟩,⟨d1,d2⟩,ee⟩:=B.okp _ (į hi);have yA:xW ps[i]=fl ps[i] 4*(fl ps[i] 3-fl ps[i] 2+1)*fl ps[i] 5:=rfl;rw[yA];generalize ps[i]=r at bp p6 a0 a1 c1 c2 c3 d1 d2 ee⊢;rw[six_row p6]at bp;have MX:tr≠l1:=λz=>by rw[z,ŉ]at bp;cases bp
  refine⟨tr,_,rfl,Ì.of (sm _ _ MX bp),rfl,_,_,rfl,_,_,rfl,_,_,rfl,_,_,rfl,_,_,rfl,_,_,rfl,rfl,?_⟩;refine⟨_,rfl,_,rfl,l1,_,fl r 0,_,rfl,rfl,Ï.of el,a0,jn À,_,rfl,_,rfl,_,rfl,_,_,rfl,rfl,_,_,rfl,rfl,_,_,rfl,rfl,.inl À,_,rfl,_,_,rfl,rfl,.inr À,_,_,rfl,rfl,l1,_,fl r 0,(fl r 0).toNat,rfl,rfl,el,qU a0 (by rw[Ý];lia),?_⟩;rw[jY];exact⟨_,_,_,_,_,_,rfl,λb o hb e=>by rw[aA hb];exact sm _ _ hb e,aa⟩
 .rintro σ Hc⟨x5,x6,x7,x8,x9,fw,rfl,sm,el⟩;dsimp only;rw[B.rp.l,Ľ]at el;exact⟨_,rfl,q l1 Hc (λb o e=>sm _ _ (aD e fH) (B0 _ _ e)) fH qB el⟩
theorem either(F:Ê P w K mg base Þ k f fd ps Rg)(G:Ê P w K mg base CX k f fd ps Rh):Ê P w K mg base CX k f fd ps (λvs H Q E=>Rg vs H Q E\/Rh vs H Q E):=⟨λvs H Q E h=>h.elim (F.len vs H Q E) (G.len vs H Q E),λA outer s H args us vs Q E hr e b v h=>h.elim (λh=>codeAny_mono (F.run A outer s H args us vs Q E hr e b v h) λr s' hq=>by cases r with
 |ok o=>cases o with|ret u=>exact hq;|_=>exact(hq).elim
  |error x=>exact(hq).elim) λh=>G.run A outer s H args us vs Q E hr e b v h⟩
def GZ(Cs:Nat->Addr)(o:Option Nat)(R:VK->Hp->Prop)(H:Hp)(Q:VK)(E:XK):Prop:=(∀j,o=some j->∀a H',Á H H'->H' a=none->E (.ref a) (some (Cs j)) H')/\(o=none->R Q H)
def Š:VK->Hp->Prop:=λQ H=>∀v' H',Á H H'->Q v' H'
def xX:VK->Hp->Prop:=λQ H=>∀H',Á H H'->Q .non H'
def ĕ(d:PyData):Option Nat:=if cR d=false then some 3 else none
def fV(d y:PyData):Option Nat:=if cR d=false then some 3 else if dN y 0 ((items (part d 0)).length-1)=false then some 5 else none
def Hf(Cs:Nat->Addr)(R:VK->Hp->Prop):Sp:=λvs H Q E=>∃S v d,vs=[v]/\É S H v d/\sz d<=4000/\GZ Cs (ĕ d) R H Q E
def xY(Cs:Nat->Addr)(R:VK->Hp->Prop):Sp:=λvs H Q E=>∃S v d vy y,vs=[v,vy]/\É S H v d/\sz d<=4000/\É S H vy y/\sz y<=4000/\GZ Cs (fV d y) R H Q E
def Ph(Cs:Nat->Addr):Sp:=λvs H Q E=>∃S ac xc vy y,vs=[.ref ac,vy]/\H ac=some (.tup xc)/\É S H vy y/\sz y<=4000/\GZ Cs (if dN y 0 (xc.length-1)=false then some 5 else none) xX H Q E
def Bh(Cs:Nat->Addr):Sp:=λvs H Q E=>∃S v d vy y j,vs=[v,vy]/\É S H v d/\sz d<=4000/\É S H vy y/\sz y<=4000/\fV d y=some j/\∀a H',Á H H'->H' a=none->E (.ref a) (some (Cs j)) H'
theorem JD(h:dN d lo hi=true):∃i,d=.int i/\lo<=i/\i<=hi:=by unfold dN at h;rw[ą,ą,ċ,ċ]at h;obtain⟨h0,h1,h2⟩:=h;cases d with|int i=>exact⟨i,rfl,h1,h2⟩;|_=>cases h0
section
theorem Hg(F:ß K "refuse_no_book" "refuse_no_book" (top 44) f fd)(O3:PyProof.Rows.OwnCls "NoBook" (Cs 3) VE "ValueError.__new__" mg base)(c1:á P w K mg base 6 "is_book" ["thing"] (ō cR)):Ê P w K mg base (ĳ P w) 7 f fd ["thing"] (Hf Cs xX):=by refine F.oqX K7 λcdv A outer s H vs Q E hr h=>?_;obtain⟨S,v,d,rfl,th,hz,q1,q2⟩:=h;refine⟨_,aF (bT (cj (bL (aG c1 hr (aN (pv 0) aj)))) (aF (wY O3 PySem.F.excBase_ValueError rfl rfl rfl (aq dY aj) iC)) bf),?_⟩;refine⟨_,rfl,S,v,d,rfl,th,hz,λH1 s1=>⟨_,rfl,?_⟩⟩;cases e:cR d with|true=>exact aZ (q2 (Ë (by rw[e];decide)) _ s1);|false=>exact bj ⟨by decide,λa ha=>q1 3 (Í e) a _ s1 ha⟩
theorem Hh(F:ß K "refuse_no_year_of" "refuse_no_year_of" (top 61) f fd)(T:Mg mg)(O5:PyProof.Rows.OwnCls "NoYear" (Cs 5) VE "ValueError.__new__" mg base)(c1:á P w K mg base 2 "is_whole_from" ["thing","least","most"] (km dN)):Ê P w K mg base (ĳ P w) 3 f fd ["clips","year"] (Ph Cs):=by refine F.oqX K8 λcdv A outer s H vs Q E hr h=>?_;obtain⟨S,ac,xc,vy,y,rfl,ec,ty,zy,q1,q2⟩:=h;refine⟨_,aF (bT (cj (bL (aG c1 hr (aq (pv 1) (aq au (aq (aQ dZ (aK bh rfl T.len PySem.boot_len (aq (pv 0) aj)) au) aj)))))) (aF (wY O5 PySem.F.excBase_ValueError rfl rfl rfl (aq dY aj) iC)) bf),?_⟩;refine⟨_,rfl,_,rfl,ac,_,rfl,.inr (Ì.of ec),_,_,rfl,rfl,S,vy,y,0,_,rfl,ty,zy,λH1 s1=>⟨_,rfl,?_⟩⟩;cases e:dN y 0 ((xc.length:Int)-1)with|true=>exact aZ (q2 (Ë (by rw[e];decide)) _ s1);|false=>exact bj ⟨by decide,λa ha=>q1 5 (Í e) a _ s1 ha⟩
theorem Do(F:ß K "refuse_no_year" "refuse_no_year" (top 62) f fd)(c1:pF P w K mg base 7 "refuse_no_book" ["thing"] (Hf Cs xX))(c2:pF P w K mg base 3 "refuse_no_year_of" ["clips","year"] (Ph Cs)):Ê P w K mg base (ĳ P w) 8 f fd ["book","year"] (xY Cs xX):=by
 refine F.oqX K9 λcdv A outer s H vs Q E hr h=>?_;obtain⟨S,v,d,vy,y,rfl,th,hz,ty,zy,q1,q2⟩:=h;refine⟨_,aB (cB (gk (E:=E) c1 hr Ò rfl iC rfl (aq (pv 0) aj))) (aF (cB (gk (E:=E) c2 hr Ò rfl iC rfl (aq (pX bu (pv 0) au) (aq (pv 1) aj))))),?_⟩;refine aC ?_;unfold fV at q1 q2;refine⟨_,rfl,S,v,d,rfl,th,hz,λj hj a H' s' ha=>?_,λkn H1 s1=>?_⟩
 .unfold ĕ at hj;split at hj;.rename_i e;exact q1 j (by rw[Í e];exact hj) a H' s' ha
  .cases hj
 have hb:cR d=true:=by
  unfold ĕ at kn;split at kn;.cases kn
  .rename_i h;simpa using h
 rw[Ë (by rw[hb];decide)]at q1 q2;obtain⟨bk,ac,xc,cs,ap,xp,ps,af,xs,ss,rfl,rfl,B⟩:=pN (th.same s1) hb;have hl:(items (part (.tuple [fP cs,fP ps,fP ss]) 0)).length=xc.length:=by show(cs.map rowD).length=_;rw[Ý,B.rc.l]
 rw[hl]at q1 q2;exact⟨_,rfl,bk,_,0,.ref ac,rfl,rfl,Ì.of B.e,rfl,_,rfl,S,ac,xc,vy,y,rfl,B.rc.e,ty.same s1,zy,λj hj a H' s' ha=>q1 j hj a H' (s1.trans s') ha,λk H' s'=>q2 k H' (s1.trans s')⟩
theorem Hk(F:ß K "owed_by" "owed_by" (top 67) f fd)(c1:pF P w K mg base 8 "refuse_no_year" ["book","year"] (xY Cs xX)):Ê P w K mg base (ĳ P w) 12 f fd ["book","year"] (Bh Cs):=by refine F.oqX Ka λcdv A outer s H vs Q E hr h=>?_;obtain⟨S,v,d,vy,y,j,rfl,th,hz,ty,zy,kj,q1⟩:=h;exact⟨_,aB (cB (gk (E:=E) c1 hr Ò rfl iC rfl (aq (pv 0) (aq (pv 1) aj)))) gQ,aC ⟨_,rfl,_,rfl,S,v,d,vy,y,rfl,th,hz,ty,zy,λj' hj a H' s' ha=>by rw[kj]at hj;cases hj;exact q1 a H' s' ha,λkn=>by rw[kj]at kn;cases kn⟩⟩
theorem Hl(F:ß K "sums_by" "sums_by" (top 68) f fd)(c1:pF P w K mg base 8 "refuse_no_year" ["book","year"] (xY Cs xX)):Ê P w K mg base (ĳ P w) 12 f fd ["book","year"] (Bh Cs):=by refine F.oqX Ν λcdv A outer s H vs Q E hr h=>?_;obtain⟨S,v,d,vy,y,j,rfl,th,hz,ty,zy,kj,q1⟩:=h;exact⟨_,aB (cB (gk (E:=E) c1 hr Ò rfl iC rfl (aq (pv 0) (aq (pv 1) aj)))) gQ,aC ⟨_,rfl,_,rfl,S,v,d,vy,y,rfl,th,hz,ty,zy,λj' hj a H' s' ha=>by rw[kj]at hj;cases hj;exact q1 a H' s' ha,λkn=>by rw[kj]at kn;cases kn⟩⟩
theorem Dp(F:ß K "pence_owed" "pence_owed" (top 69) f fd)(c1:pF P w K mg base 8 "refuse_no_year" ["book","year"] (xY Cs xX)):Ê P w K mg base (ĳ P w) 12 f fd ["book","year"] (Bh Cs):=by refine F.oqX Ŏ λcdv A outer s H vs Q E hr h=>?_;obtain⟨S,v,d,vy,y,j,rfl,th,hz,ty,zy,kj,q1⟩:=h;exact⟨_,aB (cB (gk (E:=E) c1 hr Ò rfl iC rfl (aq (pv 0) (aq (pv 1) aj)))) gQ,aC ⟨_,rfl,_,rfl,S,v,d,vy,y,rfl,th,hz,ty,zy,λj' hj a H' s' ha=>by rw[kj]at hj;cases hj;exact q1 a H' s' ha,λkn=>by rw[kj]at kn;cases kn⟩⟩
theorem vH(hR:∀cs ps ss y Q H,Š Q H->R cs ps ss y Q H)(G:Ê P w K mg base Þ 12 f fd ["book","year"] (xQ R))(B:Ê P w K mg base (ĳ P w) 12 f fd ["book","year"] (Bh Cs)):Ê P w K mg base (ĳ P w) 12 f fd ["book","year"] (xY Cs Š):=by refine(either G B).imp λvs H Q E h=>?_;obtain⟨S,v,d,vy,y,rfl,th,hz,ty,zy,q1,q2⟩:=h;cases k:fV d y with|some j=>exact .inr ⟨S,v,d,vy,y,j,rfl,th,hz,ty,zy,k,q1 j k⟩;|none=>
  have q:=q2 k;unfold fV at k;split at k;.cases k
  rename_i hb;split at k;.cases k
  rename_i hy;have hb:cR d=true:=by simpa using hb
  obtain⟨bk,ac,xc,cs,ap,xp,ps,af,xs,ss,rfl,rfl,BA⟩:=pN th hb;obtain⟨i,rfl,i0,i1⟩:=JD (by simpa using hy:dN y 0 _=true);have hl:(items (part (.tuple [fP cs,fP ps,fP ss]) 0)).length=cs.length:=Ý _;cases ty;exact .inl ⟨S,bk,i,_,ac,xc,cs,ap,xp,ps,af,xs,ss,rfl,th,hz,hb,BA,i0,À,hR _ _ _ _ _ _ q⟩
theorem Hm(F:ß K "paid_before" "paid_before" (top 70) f fd)(c1:pF P w K mg base 7 "refuse_no_book" ["thing"] (Hf Cs xX)):Ê P w K mg base (ĳ P w) 8 f fd ["book"] (λvs H Q E=>Xe3 λS v d=>Xa5 (vs=[v]) (É S H v d) (sz d<=4000) (cR d=false) (∀a H',Á H H'->H' a=none->E (.ref a) (some (Cs 3)) H')):=by refine F.oqX Ĺ (λcdv A outer s H vs Q E hr h=>?_) ⟨by rintro _ _ _ _⟨_,_,_,rfl,_⟩;rfl⟩;obtain⟨S,v,d,rfl,th,hz,kj,q1⟩:=h;exact⟨_,aB (cB (gk (E:=E) c1 hr Ò rfl iC rfl (aq (pv 0) aj))) gQ,aC ⟨_,rfl,S,v,d,rfl,th,hz,λj' hj a H' s' ha=>by unfold ĕ at hj;rw[Í kj]at hj;cases hj;exact q1 a H' s' ha,λkn=>by unfold ĕ at kn;rw[Í kj]at kn;cases kn⟩⟩
theorem Dq(G:Ê P w K mg base Þ 8 f fd ["book"] GR)(B:Ê P w K mg base (ĳ P w) 8 f fd ["book"] (λvs H Q E=>Xe3 λS v d=>Xa5 (vs=[v]) (É S H v d) (sz d<=4000) (cR d=false) (∀a H',Á H H'->H' a=none->E (.ref a) (some (Cs 3)) H'))):Ê P w K mg base (ĳ P w) 8 f fd ["book"] (Hf Cs Š):=by refine(either G B).imp λvs H Q E h=>?_;obtain⟨S,v,d,rfl,th,hz,q1,q2⟩:=h;cases k:cR d with|false=>exact .inr ⟨S,v,d,rfl,th,hz,k,q1 3 (Í k)⟩;|true=>obtain⟨bk,ac,xc,cs,ap,xp,ps,af,xs,ss,rfl,rfl,BA⟩:=pN th k;exact .inl ⟨S,bk,_,ac,xc,cs,ap,xp,ps,af,xs,ss,rfl,th,hz,k,BA,λk' H' s' _ _ _=>q2 (Ë (by rw[k];decide)) _ H' s'⟩
end
def gh(bs:ü)(d:PyData):Bool:=du d&&(decide ((items d).length=bs.length)&&(List.zipWith jm (items d) bs).all id)
def kE(d:PyData)(m:Int)(bs:ü):Bool:=du d&&(decide (((items d).length:Int)<=m)&&(items d).all (gh bs))
inductive ϯ(vs:List V)(H:Hp)(Q:VK):Prop|mk:∀S v d m lb zb bs,(vs=[v,.int m,.ref lb])->(É S H v d)->(sz d<=4000)->(H lb=some (.lst zb))->(Å (λ_=>False) H zb bs)->(bs.length<=6)->((∀e∈bs,∃lo hi,e=.tuple [.int lo,.int hi]))->(∀H',Á H H'->Q (.bl (kE d m bs)) H')->ϯ  vs H Q
def Kg:Sp:=λvs H Q _=>ϯ  vs H Q
theorem qO:∀{xs:List V}{ds:ü}{i:Nat}{x:V}{d:PyData},Å S H xs ds->xs[i]?=some x->ds[i]?=some d->É S H x d|_,_,i,_,_,.nil,h,_=>by simp at h;|_,_,0,_,_,.cons t _,h,g=>by cases h;cases g;exact t;|_,_,i+1,_,_,.cons _ r,h,g=>qO r (by simpa using h) (by simpa using g)
theorem scW:Ã [ď,AAv,AAr] [ď,AAv,AAr] (az (top 87)):=ú
theorem Ds(F:ß K ABd ABd (top 87) f fd)(T:Mg mg):Ê P w K mg base Þ 1 f fd [ď,AAv,AAr] (km dN):=by refine F.oq scW λcdv A outer s H vs Q E hr h=>?_;obtain⟨S,v,d,n,m,rfl,th,hz,q⟩:=h;refine⟨_,aF (aP (cF (aK bK rfl T.isinstance È (aN (pv 0) (aN (dh rfl T.int Ņ (v:=.ty "int") rfl) aj))) (cF (Dv (aK bK rfl T.isinstance È (aN (pv 0) (aN (dh rfl T.bool œ (v:=.ty "bool") rfl) aj)))) (fD (cW cD cD (pv 1) (pv 0) (pv 2)))))),?_⟩;refine⟨_,rfl,v,_,"int",nQ d,rfl,th.ty,zM d,_,rfl,?_⟩;have fin:=q H (Á.refl H);unfold dN bF at fin;cases e:nQ d with|false=>rw[e]at fin;exact aZ fin;|true=>rw[e]at fin;refine bj ⟨_,rfl,v,_,"bool",mq d,rfl,th.ty,wz d,_,rfl,_,rfl,?_⟩;cases e2:mq d with|true=>rw[e2]at fin;exact aZ fin;|false=>refine bj ?_;cases d with|int i=>cases th;exact cQ (fU rfl) (fU rfl) (fU rfl) _ fin;|bool b=>cases e2;|_=>cases e
theorem scAr:Ã [ď,Ψ,AAx,"_law_row"] [ď,Ψ,AAx] (az (top 88)):=ú
theorem Mv:([ϣ,AAv,AAr]:ó).Nodup:=by decide+kernel
theorem Mw(F:ß K "_law_are" "_law_are" (top 88) f fd)(T:Mg mg)(Tz:mg "zip"=none)(c1:á P w K mg base 1 ABd [ď,AAv,AAr] (km dN)):Ê P w K mg base Þ 2 f fd [ď,Ψ,AAx] Kg:=by refine F.oq scAr λcdv A outer s H vs Q E hr h=>?_;obtain⟨S,v,d,m,lb,zb,bs,rfl,th,hz,eb,tb,lb6,IX,q⟩:=h;refine K33P.ok_b (aH ⟨bT (PW.pt (iM (cj (bL (aK bK rfl T.isinstance È (aq (pv 0) (aq (dh rfl T.tuple Õ (v:=.ty "tuple") rfl) aj))))) (je (aY jw (aK bh rfl T.len PySem.boot_len (aq (pv 0) aj)) (pv 1) (aW _))))) (aF (aP iK)) bf⟩ (aH ⟨cG ň rfl (gG (pv 0)) (Ô 3 scAr.nd) (kW (aH ⟨bT (PW.pt (iM (cj (bL (aK bK rfl T.isinstance È (aq (pv 3) (aq (dh rfl T.tuple Õ (v:=.ty "tuple") rfl) aj))))) (je (aY lU (aK bh rfl T.len PySem.boot_len (aq (pv 3) aj)) (aK bh rfl T.len PySem.boot_len (aq (pv 2) aj)) (aW _))))) (aF (aP iK)) bf⟩ (bz ⟨bT (cj (bL (aK (gq rfl) rfl T.all õ (aq (bY (g:=lR K 2 (bZ (bH 0) (bZ (lR K 2 (bZ (bH 1) (bZ (bH 2) nH))) nH))) [ϣ,AAv,AAr] [none,none,none] rfl (ZT.pi_zip true false rfl Tz (aq (pv 3) (aq (pv 2) aj))) (λC fp Â s₂ Ü=>⟨dX rfl rfl (ao (Ô 0 Mv) (ao (dX rfl rfl (ao (Ô 1 Mv) (ao (Ô 2 Mv) aX))) aX)),bW,aG c1 hr (aq (pv 0) (aq (pv 1) (aq (pv 2) aj)))⟩) (λC=>trivial) ⟨rfl,rfl,rfl,rfl⟩) aj)))) (aF (aP iK)) bf⟩)))⟩ (bz (fW tM)))) ?_;unfold kE at q;refine aC ?_;refine⟨_,rfl,v,_,"tuple",du d,rfl,th.ty,iw d,_,rfl,?_⟩;cases e:du d with
 |false=>rw[e]at q;exact bj (bj (q H (Á.refl H)))
 |true=>rw[e]at q;refine aZ ?_;cases th with|@tup a xs ds ea r=>
   have hl:=r.length;refine⟨_,rfl,a,xs,rfl,.inr (Ì.of ea),_,rfl,_,_,rfl,rfl,_,rfl,?_⟩;have q:∀H',Á H H'->Q (.bl (true&&(decide ((ds.length:Int)<=m)&&ds.all (gh bs)))) H':=q;by_cases e2:(xs.length:Int)>m;.rw[è e2];rw[ĉ À]at q;exact bj (q H (Á.refl H))
   .rw[ĉ e2];rw[è z03]at q;refine aZ (bN ?_);dsimp only;refine aC ?_;refine⟨_,rfl,a,rfl,⟨_,Ì.of ea⟩,?_⟩;refine ur (xs:=xs) (λi σ Hc=>∃x,σ=[some (.ref a),some (.int m),some (.ref lb),x]/\Á H Hc/\(ds.take i).all (gh bs)=true) ⟨_,rfl,Á.refl H,rfl⟩ ?_ ?_ ?_;.rintro i σ Hc hi⟨x,rfl,sc,_⟩;exact Ì.of (sc _ _ ea)
    .rintro i x σ Hc hx⟨x0,rfl,sc,al⟩;have hi:i<ds.length:=by rw[<-hl];exact(ġ.mp hx).1
     have bad:gh bs ds[i]=false->∀H',Á H H'->Q (.bl false) H':=λh H' s'=>by grind
     have good:gh bs ds[i]=true->(ds.take (i+1)).all (gh bs)=true:=λh=>by rw[List.take_succ_eq_append_getElem hi,List.all_append,al];simp[h]
     have tx:É S Hc x ds[i]:=(qO r hx (é hi)).same sc;have zx:sz ds[i]<=4000:=iD (į hi) hz;generalize ds[i]=dx at bad good tx zx;refine aJ (aC ?_);refine⟨_,rfl,x,_,"tuple",du dx,rfl,tx.ty,iw dx,_,rfl,?_⟩
     cases e3:du dx with|false=>exact bj (bj (bad (by unfold gh;rw[e3];rfl) Hc sc));|true=>refine aZ ?_;cases tx with|@tup b ys es ey ry=>
       have cy:=ry.length;refine⟨_,rfl,b,ys,rfl,.inr (Ì.of ey),_,rfl,lb,zb,rfl,.inl (Ï.of (sc _ _ eb)),rfl,_,rfl,?_⟩;have lz:=tb.length;by_cases e4:es.length=bs.length
       .rw[è (by rw[cy,lz,e4])];refine aZ (bN ?_);dsimp only;refine⟨_,rfl,_,rfl,b,lb,ys,zb,rfl,Ì.of ey,Ï.of (sc _ _ eb),Ed jm (λσ=>Xe3 λx y z=>σ=[x,y,z]) ⟨_,_,_,rfl⟩ ey (sc _ _ eb) ry (tb.same sc) e4 (gF ry zx) ?_ λH3 s3 D hD=>⟨D,List.zipWith jm es bs,rfl,Ï.of aa,_,rfl,?_⟩⟩;.rintro T x z dx dz σ H3 R hd he⟨y1,y2,y3,rfl⟩s3 eT tx tz hR;obtain⟨lo,hi,rfl⟩:=IX _ he;obtain⟨t,rfl,et⟩:=M9 tz;refine⟨T,_,rfl,Ì.of eT,rfl,_,_,rfl,_,_,rfl,⟨t,_,rfl,Ì.of et,rfl,_,_,rfl,_,_,rfl,rfl,rfl,?_⟩⟩;exact⟨_,rfl,_,rfl,_,rfl,S,x,dx,lo,hi,rfl,tx,iD hd zx,λH4 s4=>hR _ _ ⟨_,_,_,rfl⟩ s4⟩
        .have s4:Á H (upd H3 D (.lst ((List.zipWith jm es bs).map V.bl))):=(sc.trans s3).updR hD;have er:gh bs (.tuple es)=(List.zipWith jm es bs).all id:=by show(true&&(decide (es.length=bs.length)&&_))=_;rw[è e4];rfl
         cases e5:(List.zipWith jm es bs).all id with|false=>exact bj (bad (er.trans e5) _ s4);|true=>exact aZ ⟨_,rfl,s4,good (er.trans e5)⟩
       .rw[ĉ λz=>e4 (by injection z with z;lia)];exact bj (bad (by show(true&&(decide (es.length=bs.length)&&_))=false;rw[ĉ e4];rfl) Hc sc);|_=>cases e3
    .rintro σ Hc⟨x,rfl,sc,al⟩;rw[hl,Ľ]at al;rw[al]at q;exact q Hc sc;|_=>cases e
mutual
def lowD:PyData->Bool|.int i=>decide (i.natAbs<2^100)|.tuple xs=>lowDs xs|_=>true
def lowDs:ü->Bool|[]=>true|x::xs=>lowD x&&lowDs xs
end
theorem lowDs_all:∀{ds:ü},lowDs ds=true↔∀d∈ds,lowD d=true|[]=>⟨λ_ d h=>(List.not_mem_nil h).elim,λ_=>rfl⟩|x::xs=>by show(lowD x&&lowDs xs)=true↔_;rw[ą,lowDs_all (ds:=xs)];exact⟨λh d hd=>by cases hd with|head=>exact h.1;|tail _ hd=>exact h.2 d hd,λh=>⟨h x (.head _),λd hd=>h d (.tail _ hd)⟩⟩
abbrev bC:ü:=List.replicate 3 (.tuple [.int 0,.int 999])
abbrev bS:ü:=List.replicate 5 (.tuple [.int (-10^31),.int (10^31)])
theorem Bj(e:PyData):∀(ds:ü)(n:Nat),ds.length=n->(List.zipWith jm ds (List.replicate n e)).all id=ds.all λx=>jm x e|[],_,h=>by cases h;rfl;|d::ds,_,h=>by cases h;show(jm d e&&(List.zipWith jm ds (List.replicate ds.length e)).all id)=_;rw[Bj e ds _ rfl];rfl
theorem Bk(n:Nat)(e x:PyData):gh (List.replicate n e) x=(du x&&(decide ((items x).length=n)&&(items x).all λy=>jm y e)):=by
 unfold gh;rw[Za7];by_cases h:(items x).length=n;.rw[Bj e _ _ h]
 .rw[ĉ h];rfl
theorem Hn(x:PyData):gh bC x=il x:=by rw[Bk,pG];rfl
theorem Ho(x:PyData):(gh bounds x&&decide (at_ x 2<=at_ x 3))=jt x:=by rw[Ja];unfold gh yS;rw[Bool.and_assoc,Bool.and_assoc];rfl
theorem xZ(h:lowD x=true):gh bS x=bG x 5:=by
 rw[Bk];unfold bG bI;cases x with|tuple ds=>
  have h:∀d∈ds,lowD d=true:=lowDs_all.mp h;show(true&&(decide (ds.length=5)&&ds.all λy=>jm y (.tuple [.int (-10^31),.int (10^31)])))=((true&&(decide ((5:Int)<=ds.length)&&decide ((ds.length:Int)<=5)))&&ds.all bF);have e1:(ds.all λy=>jm y (.tuple [.int (-10^31),.int (10^31)]))=ds.all bF:=by
   rw[Za0,ŀ,ŀ];refine⟨λg d hd=>?_,λg d hd=>?_⟩;.have:=g d hd;unfold jm dN at this;rw[ą]at this;exact this.1
   .have g:=g d hd;have h:=h d hd;cases d with|int i=>have h:i.natAbs<2^100:=ώ h;show(true&&(decide (-10^31<=i)&&decide (i<=10^31)))=true;rw[è À,è z03];rfl;|_=>cases g
  rw[e1];by_cases e:ds.length=5;.rw[è e,è À,è À];rfl
  .rw[ĉ e];rcases Int.lt_or_le (ds.length:Int) 5 with z|z;.rw[ĉ (by lia:¬(5:Int)<=ds.length)];rfl
   .rw[ĉ (by lia:¬(ds.length:Int)<=5),Bool.and_false];rfl;|_=>rfl
theorem ϕ(d:PyData):(kE d 20 bC&&decide (1<=(items d).length))=gH d:=by unfold kE gH bI;rw[show gh bC=il from funext Hn];cases d with|tuple ds=>show((true&&(decide ((ds.length:Int)<=20)&&ds.all il))&&decide (1<=ds.length))=((true&&(decide ((1:Int)<=ds.length)&&decide ((ds.length:Int)<=20)))&&ds.all il);rw[show decide ((1:Int)<=ds.length)=decide (1<=ds.length)from decide_eq_decide.mpr À];cases decide ((ds.length:Int)<=20)<;>cases ds.all il<;>cases decide (1<=ds.length)<;>rfl;|_=>rfl
theorem um(d:PyData):(kE d 10 bounds&&(items d).all λx=>decide (at_ x 2<=at_ x 3))=eO d:=by
 unfold kE eO bI;rw[show jt=λx=>gh bounds x&&decide (at_ x 2<=at_ x 3)from funext λx=>(Ho x).symm];have e:∀ds:ü,(ds.all λx=>gh bounds x&&decide (at_ x 2<=at_ x 3))=(ds.all (gh bounds)&&ds.all λx=>decide (at_ x 2<=at_ x 3)):=λds=>by induction ds with|nil=>rfl;|cons x xs ih=>rw[List.all_cons,List.all_cons,List.all_cons,ih];cases gh bounds x<;>cases decide (at_ x 2<=at_ x 3)<;>cases xs.all (gh bounds)<;>rfl
 rw[e];cases d with|tuple ds=>show((true&&(decide ((ds.length:Int)<=10)&&ds.all (gh bounds)))&&ds.all λx=>decide (at_ x 2<=at_ x 3))=((true&&(decide ((0:Int)<=ds.length)&&decide ((ds.length:Int)<=10)))&&(ds.all (gh bounds)&&ds.all λx=>decide (at_ x 2<=at_ x 3)));rw[è (by simp:(0:Int)<=ds.length)];cases decide ((ds.length:Int)<=10)<;>cases ds.all (gh bounds)<;>rfl;|_=>rfl
theorem Ŕ(h:lowD d=true):kE d 12 bS=fQ d:=by unfold kE fQ bI;cases d with|tuple ds=>
  have h:∀d∈ds,lowD d=true:=lowDs_all.mp h;show(true&&(decide ((ds.length:Int)<=12)&&ds.all (gh bS)))=((true&&(decide ((0:Int)<=ds.length)&&decide ((ds.length:Int)<=12)))&&ds.all λx=>bG x 5);have e:ds.all (gh bS)=ds.all λx=>bG x 5:=by rw[Za0,ŀ,ŀ];exact⟨λg d hd=>(xZ (h d hd))▸g d hd,λg d hd=>(xZ (h d hd)).symm▸g d hd⟩
  rw[e,è (by simp:(0:Int)<=ds.length)];cases decide ((ds.length:Int)<=12)<;>rfl;|_=>rfl
end K33
namespace K33P
open PySem L2
def ş(ds:ü)(lo hi:Option Int):ü:=(ds.drop (HT.sIx ds.length 0 lo)).take (HT.sIx ds.length ds.length hi-HT.sIx ds.length 0 lo)
section
theorem dG(h:Å S H vs ds)(lo hi:Option Int):Å S H (jx vs lo hi) (ş ds lo hi):=by unfold jx ş;rw[h.length];exact(h.drop _).take _
theorem Bl:∀{vs:List V}{ds:ü},Å S H vs ds->Å S H vs.reverse ds.reverse|_,_,.nil=>.nil|_,_,.cons t r=>by rw[List.reverse_cons,List.reverse_cons];exact(Bl r).append (.cons t .nil)
theorem nA(h:d∈ş ds lo hi):d∈ds:=Za1 (Zan h)
theorem yc:∀(ds:ü)(n:Nat),å (ds.take n)<=å ds|[],n=>by rw[List.take_nil];exact Ø _;|d::ds,0=>ħ _|d::ds,n+1=>by show sz d+å (ds.take n)<=sz d+å ds;have:=yc ds n;lia
theorem yd:∀(ds:ü)(n:Nat),å (ds.drop n)<=å ds|[],n=>by rw[List.drop_nil];exact Ø _;|d::ds,0=>Ø _|d::ds,n+1=>by show å (ds.drop n)<=sz d+å ds;have:=yd ds n;lia
theorem nF(ds:ü)(lo hi:Option Int):å (ş ds lo hi)<=å ds:=ε (yc _ _) (yd _ _)
theorem Bm:∀ds:ü,å ds.reverse=å ds|[]=>rfl|d::ds=>by rw[List.reverse_cons,fO,Bm ds];show å ds+(sz d+0)=sz d+å ds;lia
theorem oN(h:η σ H t vs)(ht:Å S H vs ds):Υ S σ H t (.tuple ds):=λH0 s0 Q q=>h H0 s0 _ λc H' s e=>q _ H' s (.tup e (ht.same (s0.trans s)))
theorem JF(h:σ[i]?=some (some (.ref p)))(e:H p=some (.tup vs))(ht:Å S H vs ds)(hS:∀H',Á H H'->∀p,H' p=none->p≠sysModules->S p):Υ S σ H (tCB (λxs H Q=>∃p ys,xs=[.ref p]/\Ì K H p ys/\∀l,H l=none->l≠sysModules->Q (.ref l) (upd H l (.lst ys))) (bV (iH i) ie)) (.list ds):=λH0 s0 Q q=>⟨_,h,p,vs,rfl,Ì.of (s0 _ _ e),λl hl nl=>q _ _ (Á.upd hl) (.lst (hS H0 s0 l hl nl) aa ((ht.same s0).same (Á.upd hl)))⟩
end
def Gd(n:Nat)(d:PyData):Prop:=ã d=true/\K33.lowD d=true/\sz d<=n
theorem eU(h:∀d∈ds,ã d=true/\K33.lowD d=true)(hz:1+å ds<=n):Gd n (.tuple ds):=⟨oE λd hd=>(h d hd).1,K33.lowDs_all.mpr λd hd=>(h d hd).2,hz⟩
theorem Mx(h:∀d∈ds,ã d=true/\K33.lowD d=true)(hz:1+å ds<=n):Gd n (.list ds):=⟨oE λd hd=>(h d hd).1,rfl,hz⟩
inductive ο(vs:List V)(H:Hp)(Q:VK):Prop|mk:∀st p xs ds,(vs=[.ref st,.ref p])->(iZ H st)->(H p=some (.tup xs))->(Å (SS st) H xs ds)->(ds.length<=80)->((∀d∈ds,ã d=true/\K33.lowD d=true))->(∀v d H',Dr st H H'->Gd (2*å ds+20) d->É (SS st) H' v d->Q v H')->ο  vs H Q
def zf:Sp:=λvs H Q _=>ο  vs H Q
section
theorem scG:Ã [ø,AAy,"_law_kind","_law_at","_law_some"] [ø,AAy] (az (top 85)):=ú
theorem ok_rowG(F:ß K AAz AAz (top 85) f fd)(T:Mg mg)(Tl:mg "list"=none)(Td:mg "dict"=none)(c1:á P w K mg base 1 Ϥ [ø,ύ] dU):Ê P w K mg base Þ 2 f fd [ø,AAy] zf:=by
 refine F.oq scG λcdv A outer s H vs Q E hr h=>?_;obtain⟨st,p,xs,ds,rfl,bq,ep,th,l2,gd,q⟩:=h;refine ok_b (aH ⟨ym (i:=2) (j:=3) rfl scG.nd rfl rfl Ù rfl rfl (aq (aG c1 hr (aq (pv 0) (aq au aj))) (aq (aG c1 hr (aq (pv 0) (aq (aQ bU (aK bh rfl T.len PySem.boot_len (aq (pv 1) aj)) au) aj))) aj)) rfl⟩ (aH (fX 4 scG.nd (cA (aU ⟨cH kJ rfl Tl Œ (aq (pv 1) aj)⟩ (aU ⟨aQ fM (cz dF (pv 1) cU (cV (pv 3))) (cz dF (pv 1) (cV (aQ bU (pv 3) au)) cU)⟩ (aU ⟨Lf (pv 1)⟩ (aU ⟨aQ fM (pv 1) (cz dF (pv 1) (cV (vU pR au)) cU)⟩ (aU ⟨aQ fM (cz dF (pv 1) cU (cV (pv 3))) (cz dF (pv 1) cU (cV au))⟩ bw))))))) (aH (fX 4 scG.nd (iy jg ⟨pv 4⟩ (cA (aU ⟨aQ fM (cz dF (pv 1) (cV (pv 3)) cU) (cz dF (pv 1) cU (cV (pv 3)))⟩ (aU ⟨aQ fM (aQ fM (cz dF (pv 1) cU (cV (pv 3))) (bB (aq lu aj))) (cz dF (pv 1) (cV (pv 3)) cU)⟩ (aU ⟨cH (qJ rfl) rfl Td ϔ (aq (bY [ϣ] [none] rfl (Lh dY) (λC fp Â s₂ Ü=>⟨bx (i:=0) (nd1 _) rfl (Or.inl rfl),bW,bB (aq (pv 0) (aq au aj))⟩) (λC=>trivial) ⟨rfl,rfl,rfl,rfl⟩) aj)⟩ bw)))))) (bz (fW (mD bM (iy jg ⟨pv 4⟩ (cA (aU uN bw))) ⟨pv 2⟩ (λ_ _=>rfl))))))) ?_;have hlen:xs.length=ds.length:=th.length;refine aC ?_;refine⟨_,rfl,st,9,rfl,bq,by decide,by decide,λr1 a b c Vd Ve a0 b0 b1=>?_⟩;have g2:=(Dr.refl bq).draw (c:=c) a0 b0 b1;have lh:=g2.tups bq _ _ ep;have ja:=g2.thsS bq th;generalize upd H st (.lst [.int a,.int b,.int c])=H2 at g2 lh ja⊢;refine⟨_,rfl,_,rfl,p,_,rfl,.inr (Ì.of lh),_,_,rfl,rfl,st,_,rfl,g2.sa,by rw[hlen];lia,by rw[hlen];lia,λr2 a b c Mb Mc a0 b0 b1=>⟨_,_,rfl,?_⟩⟩;rw[hlen]at Mc;have g3:=g2.draw (c:=c) a0 b0 b1;have kF:=((Dr.refl g2.sa).draw (c:=c) a0 b0 b1).tups g2.sa _ _ lh;have lI:=((Dr.refl g2.sa).draw (c:=c) a0 b0 b1).thsS g2.sa ja;generalize upd H2 st (.lst [.int a,.int b,.int c])=H3 at g3 kF lI⊢;clear lh g2 ja;dsimp only;have hS:∀H',Á H3 H'->∀p,H' p=none->p≠sysModules->SS st p:=λH' s p hp np=>by obtain⟨a,b,c,e,_⟩:=g3.sa;refine⟨λz=>?_,np⟩;rw[z,s _ _ e]at hp;cases hp
 have cl:=λlo hi=>gn xs lo hi;refine aC (aR ?_);refine fY ?_;have vk:xs.length<=80:=by rw[hlen];exact l2
 have Wj:xs.length<=1000:=À;have A1:ThA (SS st) [some (.ref st),some (.ref p),some (.int r1),some (.int r2),none] H3 _ _:=bD (JF (K:=K) (i:=1) rfl kF lI hS) (bD (oN (ni (mZ (qN (i:=1) rfl kF) gK (CT (i:=3) rfl)) (mZ (qN (i:=1) rfl kF) (Oq (i:=3) rfl) gK) (jK vk) (jK vk)) ((dG lI _ _).append (dG lI _ _))) (bD (oN (M6 (K:=K) (qN (i:=1) rfl kF)) (Bl lI)) (bD (oN (ni (qN (i:=1) rfl kF) (mZ (qN (i:=1) rfl kF) Ot gK) Wj (jK vk)) (lI.append (dG lI _ _))) (bD (oN (ni (mZ (qN (i:=1) rfl kF) gK (CT (i:=3) rfl)) (mZ (qN (i:=1) rfl kF) gK (Q6 (n:=1))) (jK vk) (jK vk)) ((dG lI _ _).append (dG lI _ _))) lH))));refine A1 H3 (Á.refl _) _ λjS H4 s4 t4=>?_;refine⟨?_,λL1 oo=>?_⟩;.rw[t4.length];show 5<=sizeLine;decide
 refine aJ ?_;dsimp only;have s5:=s4.updR (o:=.lst jS) oo;have sP:=aa (H:=H4) (a:=L1) (o:=.lst jS);have t5:=t4.same (Á.upd (o:=.lst jS) oo);generalize upd H4 L1 _=H5 at s5 sP t5⊢;clear t4 s4 oo;have A7:=s5 _ _ kF;have A8:=lI.same s5;have Wl:∀H',Á H5 H'->∀p,H' p=none->p≠sysModules->SS st p:=λH' s=>hS H' (s5.trans s);refine aC (aR ?_);refine⟨_,rfl,?_⟩;refine fY ?_;have A2:ThA (SS st) [some (.ref st),some (.ref p),some (.int r1),some (.int r2),some (.ref L1)] H5 _ _:=bD (oN (ni (mZ (qN (i:=1) rfl A7) (CT (i:=3) rfl) gK) (mZ (qN (i:=1) rfl A7) gK (CT (i:=3) rfl)) (jK vk) (jK vk)) ((dG A8 _ _).append (dG A8 _ _))) (bD (oN (Fy (ni (mZ (qN (i:=1) rfl A7) gK (CT (i:=3) rfl)) (Fz (v:=.non) λH'=>fJ) (jK vk) (by show 1<=1000;decide)) (mZ (qN (i:=1) rfl A7) (CT (i:=3) rfl) gK) (by grind)) (((dG A8 _ _).append (.cons .non .nil)).append (dG A8 _ _))) (bD (Ou (src:=[none]) rfl Wl) lH));refine A2 H5 (Á.refl _) _ λkr H6 s6 t6=>?_;refine⟨?_,λL2 F9=>?_⟩;.rw[t6.length];show 3<=sizeLine;decide
 have m6:=Á.upd (o:=.lst kr) F9;have e1:=m6 _ _ (s6 _ _ sP);refine⟨L1,L2,jS,kr,rfl,rfl,e1,aa,?_,λL3 GA=>?_⟩;.rw[t5.length,t6.length];show 8<=sizeLine;decide
 have s7:=((s5.trans s6).updR (o:=.lst kr) F9).updR (o:=.lst (jS++kr)) GA;have t7:=((t5.same s6).append t6).same (m6.updR (o:=.lst (jS++kr)) GA);have EE:=aa (H:=upd H6 L2 (.lst kr)) (a:=L3) (o:=.lst (jS++kr));generalize upd (upd H6 L2 _) L3 _=H7 at s7 t7 EE⊢;refine aJ ?_;dsimp only;refine eF ?_;refine⟨_,rfl,zL,λL4 Ri=>?_⟩;have m8:=Á.upd (o:=.lst [V.non]) Ri;refine⟨L3,L4,_,_,rfl,rfl,m8 _ _ EE,aa,?_,λL5 Rj=>?_⟩;.rw[t7.length];show 9<=sizeLine;decide
 have s9:=(s7.updR (o:=.lst [V.non]) Ri).updR (o:=.lst (jS++kr++[V.non])) Rj;have t9:=(t7.append (.cons .non .nil)).same (m8.updR (o:=.lst (jS++kr++[V.non])) Rj);have EF:=aa (H:=upd H7 L4 (.lst [V.non])) (a:=L5) (o:=.lst (jS++kr++[V.non]));generalize upd (upd H7 L4 _) L5 _=H9 at s9 t9 EF⊢;obtain⟨v,d,hv,hd,tv⟩:=qO (i:=r1.toNat) t9 (by show r1.toNat<9;simp_all);have y1:=dD hv;rw[show((r1.toNat:Nat):Int)=r1 by omega]at y1;refine⟨_,rfl,L5,_,r1,v,rfl,rfl,Ï.of EF,y1,q v d H9 (g3.same s9) ?_ tv⟩;simp only[List.cons_append,List.nil_append,List.mem_cons,List.not_mem_nil,or_false]at hd;have m1:∀lo hi,∀d∈ş ds lo hi,ã d=true/\K33.lowD d=true:=λlo hi d hd=>gd d (nA hd);have m2:∀{es fs:ü},(∀d∈es,ã d=true/\K33.lowD d=true)->(∀d∈fs,ã d=true/\K33.lowD d=true)->∀d∈es++fs,ã d=true/\K33.lowD d=true:=λa b d hd=>(Ą.mp hd).elim (a d) (b d);have c:=nF ds;rcases hd with rfl|rfl|rfl|rfl|rfl|rfl|rfl|rfl|rfl;.exact Mx gd À
 .exact eU (m2 (m1 _ _) (m1 _ _)) (by rw[fO];have:=c none (some r2);have:=c (some (r2+1)) none;omega)
 .exact eU (λd hd=>gd d (List.mem_reverse.mp hd)) (by rw[Bm];lia)
 .exact eU (m2 gd (m1 _ _)) (by rw[fO];have:=c (some (-1)) none;lia)
 .exact eU (m2 (m1 _ _) (m1 _ _)) (by rw[fO];have:=c none (some r2);have:=c none (some 1);lia)
 .exact eU (m2 (m1 _ _) (m1 _ _)) (by rw[fO];have:=c (some r2) none;have:=c none (some r2);lia)
 .exact eU (m2 (m2 (m1 _ _) λd hd=>by rw[Ũ.mp hd];exact⟨rfl,rfl⟩) (m1 _ _)) (by rw[fO,fO];have:=c none (some r2);have:=c (some r2) none;show 1+(_+(1+0)+_)<=_;omega)
 .exact⟨by decide+kernel,rfl,ε (m:=20) Ù Ò⟩
 .exact⟨rfl,rfl,by show 1<=_;simp⟩
end
theorem JG(h0:-10<=i)(h1:i<=2000000):ã (.str (Str.ofString (toString i)))=true:=by have hl:=int_text_length_le10 (a:=i) (k:=8) Ò (by grind);show(decide ((Str.ofString (toString i)).length<=10)&&(Str.ofString (toString i)).cps.toList.all λc=>decide (c<16^8))=true;rw[ofString_length,è À,Str.ofString_eq_toList];refine ŀ.mpr λc hc=>?_;obtain⟨x,_,rfl⟩:=Ā.mp (by simpa using hc:c∈List.map Char.toNat (toString i).toList);exact è (ĸ x.val.toBitVec.isLt Ò)
theorem JH(h0:-10<=i)(h1:i<=2000000):i.natAbs.log2<1920:=by
 have:i.natAbs<2^128:=z03;by_cases z:i.natAbs=0;.rw[z];decide
 .exact Nat.lt_trans ((Nat.log2_lt z).mpr this) Ò
inductive ź(vs:List V)(H:Hp)(Q:VK):Prop|mk:∀st i k,(vs=[.ref st,.int i,.int k])->(iZ H st)->(-10<=i)->(i<=2000000)->(∀v d H',Dr st H H'->Gd 2 d->É (SS st) H' v d->Q v H')->ź  vs H Q
def JK:Sp:=λvs H Q _=>ź  vs H Q
section
theorem Hq(F:ß K AAn AAn (top 86) f fd)(T:Mg mg)(Tt:mg "str"=none)(c1:á P w K mg base 1 Ϥ [ø,ύ] dU):Ê P w K mg base Þ 2 f fd [ø,ď,AAl] JK:=by
 refine F.oq scC λcdv A outer s H vs Q E hr h=>?_;obtain⟨st,i,k,rfl,bq,i0,i1,q⟩:=h;refine ok_b (aH ⟨bT (PW.pt (iI (bL (aK bK rfl T.isinstance È (aq (pv 1) (aq (dh rfl T.tuple Õ (v:=.ty "tuple") rfl) aj)))) (iI (aY (M7 (v9 hr)) (pv 1) (bB aj) (aW _)) (iI (aY jw (pv 2) au (aW _)) (jP (aY jw (aG c1 hr (aq (pv 0) (aq au aj))) au (aW _))))))) (aB dO (aF dO)) bf⟩ (aH ⟨bT (bL (aK bK rfl T.isinstance È (aq (pv 1) (aq (dh rfl T.tuple Õ (v:=.ty "tuple") rfl) aj)))) (aF dO) bf⟩ (aH ⟨bT (bL (aK bK rfl T.isinstance È (aq (pv 1) (aq (dh rfl Tt Ů (v:=.ty "str") rfl) aj)))) (aF dO) bf⟩ (bz (fW (mD bM (cA (aU (iy bU ⟨pv 1⟩ fK) (aU (iy dZ ⟨pv 1⟩ fK) (aU (iy dZ fK ⟨pv 1⟩) (aU uN (aU ⟨cH uw rfl Tt Ů (aq (pv 1) aj)⟩ (aU ⟨gj iQ (pv 1) au (aW _)⟩ (aU ⟨bB (aq (pv 1) aj)⟩ (aU fK bw))))))))) ⟨aG c1 hr (aq (pv 0) (aq au aj))⟩ (λ_ _=>rfl))))))) ?_;refine aC ?_;refine⟨_,rfl,_,_,"tuple",false,rfl,(É.int (S:=SS st) (H:=H) i).ty,iw (.int i),_,rfl,?_⟩;refine aZ (aZ ?_);refine bN ?_;dsimp only;refine aC ?_;refine⟨_,rfl,_,_,"tuple",false,rfl,(É.int (S:=SS st) (H:=H) i).ty,iw (.int i),_,rfl,?_⟩;refine aZ (bN ?_);dsimp only;refine aC ?_;refine⟨_,rfl,_,_,"str",false,rfl,(É.int (S:=SS st) (H:=H) i).ty,J8,_,rfl,?_⟩;refine aZ (bN ?_);dsimp only;refine eF (fY ?_);have He:∀H',Ev [some (.ref st),some (.int i),some (.int k),none] H' (iH 1) (.int i):=λH'=>fU rfl;have A1:ThA (SS st) [some (.ref st),some (.int i),some (.int k),none] H _ _:=bD (wG (t:=Į (Θ λi j=>.int (i+j)) (iH 1) (tC (.int 1))) (i:=i+1) λH'=>uM (g:=λi j=>.int (i+j)) (He H') (fJ (v:=.int 1))) (bD (wG (i:=i-1) λH'=>uM (g:=λi j=>.int (i-j)) (He H') (fJ (v:=.int 1))) (bD (wG (i:=0-i) λH'=>uM (g:=λi j=>.int (i-j)) (fJ (v:=.int 0)) (He H')) (bD Ld (bD (FJ (t:=tCB (λxs H Q=>∃i,xs=[.int i]/\i.natAbs.log2<1920/\Q (.str (toString i)) H) (bV (iH 1) ie)) (v:=.str (toString i)) (λH' Q h=>⟨_,rfl,i,rfl,JH i0 i1,h⟩) (λH'=>.str _)) (bD (FJ (t:=Į rEq (iH 1) (tC (.int 1))) (v:=.bl (decide (V.int i=V.int 1))) (λH' Q h=>⟨_,rfl,rfl,h⟩) (λH'=>.bl _)) (bD (Oo (Fz He) λH'=>.cons (.int i) .nil) (bD (Ec (i:=7)) lH)))))));refine A1 H (Á.refl _) _ λjS H4 s4 t4=>?_;refine⟨?_,λL1 oo=>?_⟩;.rw[t4.length];show 8<=sizeLine;decide
 have g5:=(Dr.refl bq).same (s4.updR (o:=.lst jS) oo);have sP:=aa (H:=H4) (a:=L1) (o:=.lst jS);have t5:=t4.same (Á.upd (o:=.lst jS) oo);have Wm:L1≠st:=((Dr.refl bq).same s4).ne oo;generalize upd H4 L1 _=H5 at g5 sP t5⊢;refine⟨_,rfl,st,8,rfl,g5.sa,by decide,by decide,λr a b c r0 r1 a0 b0 b1=>?_⟩;have g6:=g5.draw (c:=c) a0 b0 b1;have t6:=Dr.thsS ((Dr.refl g5.sa).draw (c:=c) a0 b0 b1) g5.sa t5;have Rk:upd H5 st (.lst [.int a,.int b,.int c]) L1=some (.lst jS):=by rw[aA Wm];exact sP
 generalize upd H5 st (.lst [.int a,.int b,.int c])=H6 at g6 t6 Rk⊢;obtain⟨v,d,hv,hd,tv⟩:=qO (i:=r.toNat) t6 (by show r.toNat<8;simp_all);have y1:=dD hv;rw[show((r.toNat:Nat):Int)=r by lia]at y1;refine⟨L1,_,r,v,rfl,rfl,Ï.of Rk,y1,q v d H6 g6 ?_ tv⟩;simp only[List.mem_cons,List.not_mem_nil,or_false]at hd;have ti:∀j:Int,-2000100<=j->j<=2000100->Gd 2 (.int j):=λj h1 h2=>⟨è (show j.natAbs<2^128 by lia),è (show j.natAbs<2^100 by lia),by show 1<=2;decide⟩;rcases hd with rfl|rfl|rfl|rfl|rfl|rfl|rfl|rfl;.exact ti _ À À
 .exact ti _ À z03
 .exact ti _ z03 z03
 .exact⟨rfl,rfl,by decide⟩
 .exact⟨JG i0 i1,rfl,by show 1<=2;decide⟩
 .exact⟨rfl,rfl,by show 1<=2;decide⟩
 .exact eU (λd hd=>by rw[Ũ.mp hd];exact⟨(ti i À À).1,(ti i z03 À).2.1⟩) (by show 1+(1+0)<=2;decide)
 .exact ti _ Ò Ò
end
end K33P
namespace K33
open PySem L2
theorem ye{bs:ü}(hn:bs.length=n)(h:gh bs x=true):bG x n=true:=by unfold gh at h;rw[ą,ą,ċ]at h;obtain⟨h1,h2,h3⟩:=h;cases x with|tuple ds=>have h2:ds.length=bs.length:=h2;have h3:(List.zipWith jm ds bs).all id=true:=h3;show((true&&(decide ((n:Int)<=ds.length)&&decide ((ds.length:Int)<=n)))&&ds.all bF)=true;rw[è À,è À];show ds.all bF=true;refine ŀ.mpr λd hd=>?_;obtain⟨i,hi,rfl⟩:=Zaw hd;have hb:i<bs.length:=À;have:=ŀ.mp h3 (jm ds[i] bs[i]) (Ŋ (i:=i) (by rw[List.getElem?_zipWith,é hi,é hb]));have this:(bF ds[i]&&_)=true:=this;rw[ą]at this;exact this.1;|_=>cases h1
theorem Hr(h:kE d 10 bounds=true):d=fP (Ð d)/\(Ð d).length<=10/\∀r∈Ð d,r.length=6:=by unfold kE at h;rw[ą,ą,ċ]at h;obtain⟨h1,h2,h3⟩:=h;cases d with|tuple ds=>have h2:(ds.length:Int)<=10:=h2;have h3:∀x∈ds,bG x 6=true:=λx hx=>ye rfl (ŀ.mp h3 x hx);refine⟨congrArg PyData.tuple (pL (n:=6) h3),by show(ds.map _).length<=10;rw[Ý];lia,λr hr=>?_⟩;obtain⟨x,hx,rfl⟩:=Ā.mp hr;exact(ir (n:=6) (h3 x hx)).2;|_=>cases h1
def nG(rs:UV):UV:=rs.filter λr=>decide (fl r 2>fl r 3)
theorem Dt{rs:UV}(h:j<rs.length):nG (rs.take (j+1))=nG (rs.take j)++(if fl rs[j] 2>fl rs[j] 3 then[rs[j]]else[]):=by
 unfold nG;rw[List.take_succ_eq_append_getElem h,Zbg];congr 1;by_cases e:fl rs[j] 2>fl rs[j] 3;.rw[Í e,zBd (p:=λr:VV=>decide (fl r 2>fl r 3)) (è e)];rfl
 .rw[Ë e,zBc (p:=λr:VV=>decide (fl r 2>fl r 3)) (by rw[ċ];exact e)];rfl
theorem yf(h6:∀r∈rs,r.length=6):((items (fP rs)).all λx=>decide (at_ x 2<=at_ x 3))=(nG rs).isEmpty:=by
 show((rs.map rowD).all λx=>decide (at_ x 2<=at_ x 3))=_;rw[Za0,ŀ,List.isEmpty_iff];unfold nG;rw[List.filter_eq_nil_iff];refine⟨λg r hr=>?_,λg d hd=>?_⟩;.have:=g (rowD r) (List.mem_map_of_mem hr);rw[kZ r 2 (by rw[h6 r hr];decide),kZ r 3 (by rw[h6 r hr];decide),ċ]at this;rw[ċ];lia
 .obtain⟨r,hr,rfl⟩:=Ā.mp hd;have:=g r hr;rw[ċ]at this;rw[kZ r 2 (by rw[h6 r hr];decide),kZ r 3 (by rw[h6 r hr];decide),ċ];lia
theorem Bo(t:Å S H zs [e]):∀n,Å S H (List.replicate n zs).flatten (List.replicate n e)|0=>.nil|n+1=>by exact Å.append t (Bo t n)
theorem Hs(te:Υ (λ_=>False) σ H tt e)(k0:0<=k)(k1:k<=10)(h:∀p zs H2,Á H H2->H2 p=some (.lst zs)->Å (λ_=>False) H2 zs (List.replicate k.toNat e)->Q [.int n,.ref p] H2):bV (tC (.int n)) (bV (Į KN (yu (bV tt ie)) (tC (.int k))) ie) σ H Q:=by
 show yu (bV tt ie) σ H λx H1=>KN x (.int k) H1 λy H2=>Q [.int n,y] H2;refine fY ?_;refine bD te lH H (Á.refl H) _ λzs H1 s1 t=>?_;have lz:zs.length=1:=t.length;have hs:10<=sizeLine:=by decide
 refine⟨À,λl A9=>⟨l,k,zs,rfl,rfl,aa,À,À,by rw[lz];lia,λp hp=>?_⟩⟩;have yB:=(Á.upd (o:=.lst zs) A9).updR (o:=.lst (List.replicate k.toNat zs).flatten) hp;exact h p _ _ (s1.trans yB) aa (Bo (t.same yB) _)
theorem th_tupE(t:É S H v d)(h:du d=true):∃a xs ds,v=.ref a/\d=.tuple ds/\H a=some (.tup xs)/\Å S H xs ds:=by cases t with|@tup a xs ds e r=>exact⟨a,xs,ds,rfl,rfl,e,r⟩;|_=>cases h
inductive ϭ(vs:List V)(H:Hp)(Q:VK):Prop|mk:∀S v d,(vs=[v])->(É S H v d)->(sz d<=4000)->(lowD d=true)->(∀H',Á H H'->Q (.bl (cR d)) H')->ϭ  vs H Q
def Kh:Sp:=λvs H Q _=>ϭ  vs H Q
theorem scIB:Ã [ď,AAx] [ď] (az (top 89)):=ú
theorem v9(hr:à k A):A.units<cLine:=by have:=hr.un;lia
theorem My(F:ß K "_law_is_book" "_law_is_book" (top 89) f fd)(T:Mg mg)(c1:á P w K mg base 2 "_law_are" [ď,Ψ,AAx] Kg)(c2:á P w K mg base 1 "_law_rows" [ϥ,AAu] spRows):Ê P w K mg base Þ 3 f fd [ď] Kh:=by refine F.oq scIB λcdv A outer s H vs Q E hr h=>?_;obtain⟨S,v,d,rfl,th,hz,lo,q⟩:=h;refine K33P.ok_b (aH ⟨bT (PW.pt (iM (cj (bL (aK bK rfl T.isinstance È (aq (pv 0) (aq (dh rfl T.tuple Õ (v:=.ty "tuple") rfl) aj))))) (iM (aY lU (aK bh rfl T.len PySem.boot_len (aq (pv 0) aj)) au (aW _)) (je (cj (bL (aG c1 hr (aq (pX bu (pv 0) au) (aq au (aq (aQ DP (wF (cA (aU nY bw))) au) aj)))))))))) (aF (aP iK)) bf⟩ (aH (fX 1 scIB.nd (cA (aU nY (aU nY (aU nY (aU nY (aU nY (aU Ih bw)))))))) (aH ⟨bT (PW.pt (iM (aY (tK (v9 hr)) (pX bu (pv 0) au) (bB aj) (aW _)) (iM (cj (bL (aG c1 hr (aq (pX bu (pv 0) au) (aq au (aq (pv 1) aj)))))) (je (aY (yO (v9 hr)) (bY [ϣ] [none] rfl (gG (pX bu (pv 0) au)) (λC fp Â s₂ Ü=>⟨bx (i:=0) (nd1 _) rfl (Or.inl rfl),jT (aY jw (pX (K33P.ix_tupK (K:=K) rfl) (pv 0) au) (pX (K33P.ix_tupK (K:=K) rfl) (pv 0) au) (aW _)),pv 0⟩) (λC=>trivial) ⟨rfl,rfl,rfl,rfl⟩) (wF (cA bw)) (aW _)))))) (aF (aP iK)) bf⟩ (aH ⟨bT (cj (bL (aG c1 hr (aq (pX bu (pv 0) au) (aq au (aq (aQ DP (wF (cA (aU (ik (aU ⟨vU pR (aQ uv au au)⟩ (aU Lb bw))) bw))) au) aj)))))) (aF (aP iK)) bf⟩ (bz ⟨aP (gj yr (pX bu (aG c2 hr (aq (pX bu (pv 0) au) (aq (pX bu (pv 0) au) aj))) au) lu (aW _))⟩))))) ?_;have two:∀{i j:Int}{σ:L2.St}{H:Hp},Υ (λ_=>False) σ H (nM (tL [i,j])) (.tuple [.int i,.int j]):=λ{i j σ H}=>yF (Ii [i,j]) (by show 2<=4000;decide);have MY:∀{σ:L2.St}{H:Hp},Υ (λ_=>False) σ H (nM (bV (tC (.int 0)) (bV (Į (rI yq λi j=>.int (i^j.toNat)) (tC (.int 10)) (tC (.int 6))) ie))) (.tuple [.int 0,.int 1000000]):=λ{σ H}=>yF (bD Ec (bD (wG (i:=1000000) λH'=>Eb (g:=λi j=>V.int (i^j.toNat)) fJ fJ ⟨by decide,by decide,by decide⟩) lH)) (by show 2<=4000;decide);refine aC ?_;refine⟨_,rfl,v,_,"tuple",du d,rfl,th.ty,iw d,_,rfl,?_⟩;cases e:du d with
 |false=>rw[show cR d=false by unfold cR bI;rw[e];rfl]at q;exact bj (bj (q H (Á.refl H)))
 |true=>refine aZ ?_;cases th with|@tup a xs ds ea r=>
   have hl:=r.length;refine⟨_,rfl,a,xs,rfl,.inr (Ì.of ea),rfl,_,rfl,?_⟩;by_cases e3:ds.length=3;.rw[è (by rw[hl,e3];rfl)];refine aZ ?_;obtain⟨v0,v1,v2,d0,d1,d2,rfl,rfl,t0,t1,t2⟩:=oH r e3;have bk:cR (.tuple [d0,d1,d2])=(gH d0&&(eO d1&&(fQ d2&&(un (Ð d1) (Ð d2)).isNone))):=rfl;have Rl:lowD d2=true:=lowDs_all.mp lo d2 (.tail _ (.tail _ (.head _)));rw[bk,<-ϕ,<-um,<-Ŕ Rl]at q;have z0:sz d0<=4000:=iD (.head _) hz;have z1:sz d1<=4000:=iD (.tail _ (.head _)) hz;have z2:sz d2<=4000:=iD (.tail _ (.tail _ (.head _))) hz;refine⟨_,rfl,a,_,0,v0,rfl,rfl,Ì.of ea,rfl,?_⟩;refine Hs two Ò Ò λp zp H2' s2 ep tp=>?_;refine⟨S,v0,d0,20,p,_,bC,rfl,t0.same s2,z0,ep,tp,by decide,λe he=>⟨0,999,Zbe he⟩,λH2 s'=>⟨_,rfl,?_⟩⟩;have s3:=s2.trans s';clear s2 s' ep tp;cases e4:kE d0 20 bC with|false=>rw[e4]at q;exact bj (q H2 s3);|true=>
    rw[e4]at q;refine aZ (bN ?_);dsimp only;refine aC (aR ?_);refine fY ?_;refine bD two (bD two (bD two (bD two (bD two (bD MY lH))))) H2 (Á.refl H2) _ λzs H3 s4 t=>?_;have t:Å (λ_=>False) H3 zs bounds:=t;refine⟨by rw[t.length];show 6<=sizeLine;decide,λl A9=>?_⟩;have s5:=(s3.trans s4).updR (o:=.lst zs) A9;have eb:=aa (H:=H3) (a:=l) (o:=.lst zs);have tb:=t.same (Á.upd (o:=.lst zs) A9);generalize upd H3 l (.lst zs)=H5 at s5 eb tb⊢;clear s3 s4 t A9;refine aJ ?_;dsimp only;refine aC ?_;have i0:du d0=true:=by unfold kE at e4;rw[ą]at e4;exact e4.1
    obtain⟨a0,x0,MZ,rfl,rfl,Wn,r0⟩:=th_tupE t0 i0;have l0:=r0.length;refine⟨_,rfl,a,_,0,.ref a0,rfl,rfl,Ì.of (s5 _ _ ea),rfl,by show 0<=sizeLine;decide,λp hp=>?_⟩;have s6:=s5.updR (o:=.tup []) hp;refine⟨a0,p,x0,rfl,rfl,Ì.of (s6 _ _ Wn),Ì.of aa,_,rfl,?_⟩;have M0:=Á.upd (o:=.tup []) hp _ _ eb;have Na:=tb.same (Á.upd (o:=.tup []) hp);generalize upd H5 p (.tup [])=H6 at s6 M0 Na⊢;clear s5 eb tb hp;have q:∀H',Á H H'->Q (.bl ((true&&decide (1<=MZ.length))&&((kE d1 10 bounds&&(items d1).all λx=>decide (at_ x 2<=at_ x 3))&&(kE d2 12 bS&&(un (Ð d1) (Ð d2)).isNone)))) H':=q
    cases e5:x0.isEmpty with|true=>
     have:MZ.length=0:=by rw[<-l0,List.isEmpty_iff.mp e5];rfl
     rw[this]at q;exact bj (bj (q _ s6));|false=>
    refine aZ ?_;have:1<=MZ.length:=by rw[<-l0];cases x0 with|nil=>cases e5;|cons _ _=>exact Nat.succ_pos _
    rw[è this]at q;refine⟨_,rfl,a,_,1,v1,rfl,rfl,Ì.of (s6 _ _ ea),rfl,_,rfl,S,v1,d1,10,l,_,bounds,rfl,t1.same s6,z1,M0,Na,by decide,λe he=>CW he,λH7 s'=>⟨_,rfl,?_⟩⟩;have s7:=s6.trans s';clear s6 s' M0 Na;cases e6:kE d1 10 bounds with|false=>rw[e6]at q;exact bj (bj (q _ s7));|true=>
    rw[e6]at q;refine aZ ?_;obtain⟨ep,lp,h6⟩:=Hr e6;rw[ep]at t1;have e9:=yf h6;rw[<-ep]at e9;rw[e9]at q;clear e9;obtain⟨ap,xp,rfl,rp⟩:=th_rows t1;have vi:=rp.same s7;generalize KP:Ð d1=rs at ep lp h6 rp vi q t1;refine⟨_,rfl,a,_,1,.ref ap,rfl,rfl,Ì.of (s7 _ _ ea),rfl,ap,rfl,⟨_,Ì.of vi.e⟩,j9 rs.length (λj ys σ Hj=>Á H7 Hj/\(∃o1,σ=[o1])/\î Hj ys (nG (rs.take j))) ⟨Á.refl _,⟨_,rfl⟩,î.nil⟩ ϻ ?_ ?_⟩
    .rintro j ys σ Hj hj hy⟨sc,⟨o1,rfl⟩,qE⟩;obtain⟨tr,ex,bp⟩:=vi.g j rs[j] (é hj);have Au:=bp;rw[six_row (h6 _ (į hj))]at bp;have fI:=Dt hj;have ot:=Ì.of (K:=K) (sc _ _ vi.e);refine⟨⟨_,_,ot,ex⟩,λx H' yv R hR=>?_⟩;obtain⟨rfl,yv⟩:=yv;have yv:=yv _ ot;rw[ex]at yv;cases yv;refine aJ ?_;refine⟨_,rfl,tr,_,2,.int (fl rs[j] 2),rfl,rfl,Ì.of (sc _ _ bp),rfl,_,rfl,tr,_,3,.int (fl rs[j] 3),rfl,rfl,Ì.of (sc _ _ bp),rfl,_,_,rfl,rfl,_,rfl,?_⟩;by_cases h:fl rs[j] 2>fl rs[j] 3;.rw[è h];refine bj ⟨_,rfl,hR _ _ _ (by rw[ý];show ys.length+1<=j+1;lia) ⟨sc,⟨_,rfl⟩,?_⟩⟩;rw[fI,Í h];exact qE.app (î.one (sc _ _ Au))
     .rw[ĉ h];refine aZ (hR _ _ _ À ⟨sc,⟨_,rfl⟩,?_⟩);rw[fI,Ë h,ļ];exact qE
    rintro ya σ Hj hy⟨sc,_,mv⟩;rw[Ľ]at mv;refine⟨⟨_,Ì.of (sc _ _ vi.e),by rw[vi.l];exact Ø _⟩,λla yy=>⟨zL,λlb Rm=>?_⟩⟩;have s8:=Á.upd (o:=.lst []) Rm;have sa:=s7.trans ((sc.updR (o:=.lst ya) yy).trans s8);refine⟨la,lb,ya,rfl,rfl,Ï.of (s8 _ _ aa),Ï.of aa,_,rfl,?_⟩;have ey:ya.isEmpty=(nG rs).isEmpty:=by have:=mv.1;cases ya with|nil=>rw[List.length_eq_zero_iff.mp this.symm];rfl;|cons x xs=>cases hL:nG rs with|nil=>rw[hL]at this;cases this;|cons _ _=>rfl
    generalize upd (upd Hj la (.lst ya)) lb (.lst [])=H8 at sa⊢;clear s8 yy Rm sc mv;rw[ey];cases e7:(nG rs).isEmpty with|false=>rw[e7]at q;exact bj (q _ sa);|true=>rw[e7]at q;refine aZ (bN ?_);dsimp only;refine aC ?_;have Nd:∀{σ:L2.St}{H:Hp},Υ (λ_=>False) σ H (nM (bV (tUn (rU λi=>.int (-i)) (Į (rI yq λi j=>.int (i^j.toNat)) (tC (.int 10)) (tC (.int 31)))) (bV (Į (rI yq λi j=>.int (i^j.toNat)) (tC (.int 10)) (tC (.int 31))) ie))) (.tuple [.int (-10^31),.int (10^31)]):=λ{σ H}=>yF (bD (λH0 s0 Q q=>⟨_,_,rfl,rfl,⟨by decide,by decide,by decide⟩,_,rfl,q _ H0 (Á.refl _) (.int _)⟩) (bD (wG (i:=10^31) λH'=>Eb (g:=λi j=>V.int (i^j.toNat)) fJ fJ ⟨by decide,by decide,by decide⟩) lH)) (by show 2<=4000;decide);refine⟨_,rfl,a,_,2,v2,rfl,rfl,Ì.of (sa _ _ ea),rfl,?_⟩;refine Hs Nd Ò Ò λp zp H9' s9 Rn Ro=>?_;refine⟨S,v2,d2,12,p,_,bS,rfl,t2.same (sa.trans s9),z2,Rn,Ro,by decide,λe he=>⟨_,_,Zbe he⟩,λH9 s'=>⟨_,rfl,?_⟩⟩;have sb:=sa.trans (s9.trans s');clear sa s9 s' Rn Ro;cases e8:kE d2 12 bS with|false=>rw[e8]at q;exact bj (q _ sb);|true=>
    rw[e8]at q;refine aZ (bN ?_);dsimp only;refine eF ?_;have pd:eO d1=true:=by rw[<-um,e6,ep,yf h6,e7];rfl
    obtain⟨_,_,okp⟩:=lM pd;rw[KP]at okp;obtain⟨es,ls,h5⟩:=lN (by rw[<-Ŕ Rl];exact e8);rw[es]at t2;obtain⟨af,Wo,rfl,Wq⟩:=th_rows t2;refine⟨_,rfl,a,_,1,.ref ap,rfl,rfl,Ì.of (sb _ _ ea),rfl,_,rfl,a,_,2,.ref af,rfl,rfl,Ì.of (sb _ _ ea),rfl,ap,xp,rs,af,Wo,_,rfl,rp.same sb,lp,okp,Wq.same sb,À,h5,λt fo Nl mm et _=>⟨t,_,1,unV (un rs (Ð d2)),rfl,rfl,Ì.of et,rfl,rfl,?_⟩⟩;have:=q _ (sb.trans mm);rw[show decide (unV (un rs (Ð d2))=.non)=(un rs (Ð d2)).isNone by cases un rs (Ð d2)<;>rfl];exact this
   .rw[ĉ (λz=>e3 (by injection z with z;lia))];rw[show cR (.tuple ds)=false by
     unfold cR bI;show(true&&(decide ((3:Int)<=ds.length)&&decide ((ds.length:Int)<=3))&&_)=false;rcases Nat.lt_or_ge ds.length 3 with z|z;.rw[ĉ (by lia:¬(3:Int)<=ds.length)];rfl
     .rw[ĉ (by grind:¬(ds.length:Int)<=3),Bool.and_false];rfl]at q;exact bj (bj (q H (Á.refl H)));|_=>cases e
end K33
namespace K33P
open PySem L2
mutual
def okT:PyData->Bool|.int i=>decide (-10<=i)&&decide (i<=2000000)|.tuple xs=>decide (xs.length<=80)&&jb xs|_=>false
def jb:ü->Bool|[]=>true|x::xs=>okT x&&jb xs
end
mutual
theorem rC:∀{d:PyData},okT d=true->ã d=true/\K33.lowD d=true|.int i,h=>by have h:(decide (-10<=i)&&decide (i<=2000000))=true:=h;rw[ą,ċ,ċ]at h;exact⟨è (show i.natAbs<2^128 by lia),è (show i.natAbs<2^100 by lia)⟩;|.tuple xs,h=>by have h:(decide (xs.length<=80)&&jb xs)=true:=h;rw[ą]at h;exact Bp h.2;|.none,h=>by cases h;|.bool _,h=>by cases h;|.str _,h=>by cases h;|.list _,h=>by cases h;|.dict _,h=>by cases h
theorem Bp:∀{ds:ü},jb ds=true->iW ds=true/\K33.lowDs ds=true|[],_=>⟨rfl,rfl⟩|d::ds,h=>by have h:(okT d&&jb ds)=true:=h;rw[ą]at h;obtain⟨a,b⟩:=rC h.1;obtain⟨c,e⟩:=Bp h.2;exact⟨by show(ã d&&iW ds)=true;rw[a,c];rfl,by show(K33.lowD d&&K33.lowDs ds)=true;rw[b,e];rfl⟩
end
theorem jc:∀{ds:ü},jb ds=true->∀d∈ds,okT d=true|d::ds,h,x,hx=>by have h:(okT d&&jb ds)=true:=h;rw[ą]at h;cases hx with|head=>exact h.1;|tail _ hx=>exact jc h.2 x hx
theorem vI:∀{ds:ü}{d:PyData},d∈ds->sz d<=å ds|x::xs,d,h=>by show sz d<=sz x+å xs;cases h with|head=>simp;|tail _ h=>have:=vI h;lia
def bd(n s:Nat):Nat:=2*(n*s)+2*s+20+n
inductive Ż(n:Nat)(vs:List V)(H:Hp)(Q:VK):Prop|mk:∀st p xs ds,(vs=[.ref st,.ref p,.int n])->(iZ H st)->(H p=some (.tup xs))->(Å (SS st) H xs ds)->(ds.length<=80)->(jb ds=true)->(∀v d H',Dr st H H'->Gd (bd n (å ds)) d->É (SS st) H' v d->Q v H')->Ż n vs H Q
def JL(n:Nat):Sp:=λvs H Q _=>Ż n vs H Q
inductive ż(n:Nat)(vs:List V)(H:Hp)(Q:VK):Prop|mk:∀st v d,(vs=[.ref st,v,.int n])->(iZ H st)->(É (SS st) H v d)->(okT d=true)->(∀v' d' H',Dr st H H'->Gd (bd n (sz d)) d'->É (SS st) H' v' d'->Q v' H')->ż n vs H Q
def JM(n:Nat):Sp:=λvs H Q _=>ż n vs H Q
def spB:Nat->Sp|0=>λ_ _ _ _=>False|n+1=>JM n
section
theorem roomU(hr:à k A):A.units<cLine:=by have:=hr.un;omega
theorem Ht(F:ß K AAn AAn (top 86) f fd)(T:Mg mg)(c1:á P w K mg base 1 Ϥ [ø,ύ] dU)(c2:á P w K mg base 2 AAz [ø,AAy] zf)(c0:á P w K mg base (j+2) AAn [ø,ď,AAl] (spB n)):Ê P w K mg base Þ (j+3) f fd [ø,ď,AAl] (JL n):=by
 refine F.oq scC λcdv A outer s H vs Q E hr h=>?_;obtain⟨st,p,xs,ds,rfl,bq,ep,th,ld,ok,q⟩:=h;refine ok_b (aH ⟨bT (PW.pt (iI (bL (aK bK rfl T.isinstance È (aq (pv 1) (aq (dh rfl T.tuple Õ (v:=.ty "tuple") rfl) aj)))) (iI (aY (yP (roomU hr)) (pv 1) (bB aj) (aW _)) (iI (aY jw (pv 2) au (aW _)) (jP (aY jw (aG (hjk:=Ò) c1 hr (aq (pv 0) (aq au aj))) au (aW _))))))) (aB (ě 3 scC.nd (aG (hjk:=Ò) c1 hr (aq (pv 0) (aq (aK bh rfl T.len PySem.boot_len (aq (pv 1) aj)) aj)))) (aF (aP (aQ fM (aQ fM (cz dF (pv 1) cU (cV (pv 3))) (bB (aq (aG (hjk:=Ò) c0 hr (aq (pv 0) (aq (pX bu (pv 1) (pv 3)) (aq (aQ dZ (pv 2) au) aj)))) aj))) (cz dF (pv 1) (cV (aQ bU (pv 3) au)) cU))))) bf⟩ (aH ⟨bT (bL (aK bK rfl T.isinstance È (aq (pv 1) (aq (dh rfl T.tuple Õ (v:=.ty "tuple") rfl) aj)))) (aF (aP (aG (hjk:=Ò) c2 hr (aq (pv 0) (aq (pv 1) aj))))) bf⟩ (aH ⟨dO⟩ (bz ⟨dO⟩)))) ?_;have hl:=th.length;have ka:∀d∈ds,ã d=true/\K33.lowD d=true:=λd hd=>rC (jc ok d hd);refine iz λc_ gy=>?_;have rest:∀H2,Dr st H H2->c_ [some (.ref st),some (.ref p),some (.int n),none] H2:=λH2 g=>by have lh:=g.tups bq _ _ ep;have ja:=g.thsS bq th;refine gy _ _ ?_;refine aC ?_;refine⟨_,rfl,_,_,"tuple",true,rfl,(É.tup (S:=SS st) lh ja).ty,iw (.tuple ds),_,rfl,?_⟩;refine bj (eF ?_);exact⟨_,rfl,_,rfl,st,p,xs,ds,rfl,g.sa,lh,ja,ld,ka,λv d H' g' bb tv=>q v d H' (g.trans g') ⟨bb.1,bb.2.1,by have:=bb.2.2;unfold bd;lia⟩ tv⟩
 refine⟨_,rfl,_,_,"tuple",true,rfl,(É.tup (S:=SS st) ep th).ty,iw (.tuple ds),_,rfl,?_⟩;refine bj ?_;refine⟨_,rfl,zL,λe0 vc=>?_⟩;have s1:=Á.upd (o:=.tup []) vc;have ee:=aa (H:=H) (a:=e0) (o:=.tup []);have g1:=(Dr.refl bq).same s1;generalize upd H e0 (.tup [])=H1 at s1 ee g1⊢;refine⟨p,e0,xs,rfl,rfl,Ì.of (s1 _ _ ep),Ì.of ee,_,rfl,?_⟩;cases hx:xs.isEmpty with|true=>exact aZ (aZ (bN (rest H1 g1)));|false=>
 refine bj ?_;refine⟨_,rfl,_,_,rfl,rfl,_,rfl,?_⟩;by_cases n0:(n:Int)>0
 .rw[è n0];refine bj ?_;refine⟨_,rfl,st,4,rfl,g1.sa,by decide,by decide,λr a b c r0 r1 a0 b0 b1=>⟨_,_,rfl,rfl,_,rfl,?_⟩⟩;have g2:=g1.draw (c:=c) a0 b0 b1;generalize upd H1 st (.lst [.int a,.int b,.int c])=H2 at g2⊢;by_cases gr:0<r
  .rw[è gr];refine bj ?_;obtain⟨k,rfl⟩:∃k,n=k+1:=⟨n-1,À⟩;have lh:=g2.tups bq _ _ ep;have ja:=g2.thsS bq th;have ay:1<=xs.length:=by cases xs with|nil=>cases hx;|cons _ _=>exact Nat.succ_pos _
   refine aC (aR ?_);refine⟨_,rfl,_,rfl,p,_,rfl,.inr (Ì.of lh),st,_,rfl,g2.sa,À,À,λr2 a b c Mb Mc a0 b0 b1=>?_⟩;have d3:=(Dr.refl g2.sa).draw (c:=c) a0 b0 b1;have g3:=g2.draw (c:=c) a0 b0 b1;have kF:=d3.tups g2.sa _ _ lh;have lI:=d3.thsS g2.sa ja;generalize upd H2 st (.lst [.int a,.int b,.int c])=H3 at g3 kF lI⊢;refine aJ ?_;dsimp only;refine eF ?_;have i2:r2.toNat<xs.length:=À;have x2:xs[r2.toNat]?=some xs[r2.toNat]:=é i2;have y2:=dD x2;rw[show((r2.toNat:Nat):Int)=r2 by lia]at y2;refine⟨_,rfl,_,rfl,_,rfl,p,_,rfl,kF,λc4 H4 s4 e4=>?_⟩;have g4:=g3.same s4;have Rq:=s4 _ _ kF;have Rr:=lI.same s4;obtain⟨dx,Wr,tx⟩:=Rr.get x2;have mx:=Ŋ Wr;refine⟨_,rfl,_,rfl,_,rfl,p,_,r2,_,rfl,rfl,Ì.of Rq,y2,_,rfl,_,_,rfl,rfl,st,_,dx,Ò,g4.sa,tx,jc ok dx mx,λv d H5 g5 bb tv=>?_⟩;have e5:=g5.tups g4.sa _ _ e4;have A7:=g5.tups g4.sa _ _ Rq;have A8:=g5.thsS g4.sa Rr;have Ws:=g4.trans g5;refine⟨zL,λt6 Wt=>?_⟩;have m6:=Á.upd (o:=.tup [v]) Wt;have e6:=m6 _ _ e5;have Rt:=m6 _ _ A7;have Ru:=A8.same m6;have Rv:=aa (H:=H5) (a:=t6) (o:=.tup [v]);have g6:=Ws.same m6;have Rw:=tv.same m6;generalize upd H5 t6 (.tup [v])=H6 at e6 Rt Ru Rv g6 Rw⊢;have cl:=λlo hi=>gn xs lo hi;refine⟨c4,t6,_,_,rfl,rfl,e6,Rv,by have:=cl none (some r2);rw[sizeLine_eq];show _+1<=_;lia,λc7 H7 s7 e7=>?_⟩;refine⟨_,rfl,_,rfl,_,_,rfl,rfl,_,rfl,p,_,rfl,s7 _ _ Rt,λc8 H8 s8 e8=>?_⟩;refine⟨c7,c8,_,_,rfl,rfl,s8 _ _ e7,e8,by have:=cl none (some r2);have:=cl (some (r2+1)) none;rw[sizeLine_eq,ý];show _+1+_<=_;lia,λc9 H9 s9 e9=>?_⟩;have sQ:=s7.trans (s8.trans s9);have EZ:=Ru.same sQ;refine q (.ref c9) (.tuple (ş ds none (some r2)++[d]++ş ds (some (r2+1)) none)) H9 (g6.same sQ) ?_ (.tup e9 (((dG EZ _ _).append (.cons (Rw.same sQ) .nil)).append (dG EZ _ _)));refine eU (λy hy=>?_) ?_
   .rcases Ą.mp hy with z|z
    .rcases Ą.mp z with z|z;.exact ka y (nA z)
     .rw[Ũ.mp z];exact⟨bb.1,bb.2.1⟩
    .exact ka y (nA z)
   .rw[fO,fO];have b1:=nF ds none (some r2);have b2:=nF ds (some (r2+1)) none;have b3:=bb.2.2;have b4:=Nat.mul_le_mul_left k (vI mx);have b5:=vI mx;unfold bd at b3⊢;have b6:(k+1)*å ds=k*å ds+å ds:=Nat.succ_mul k _;show 1+(_+(sz d+0)+_)<=_;lia
  .rw[ĉ gr];exact aZ (bN (rest H2 g2))
 .rw[ĉ n0];exact aZ (aZ (bN (rest H1 g1)))
theorem ok_bent00:Ê P w K mg base Þ k f fd [ø,ď,AAl] (spB 0):=⟨λ_ _ _ _ h=>h.elim,λ_ _ _ _ _ _ _ _ _ _ _ _ _ h=>h.elim⟩
theorem ok_bentD(F:ß K AAn AAn (top 86) f fd)(T:Mg mg)(Tt:mg "str"=none)(c1:á P w K mg base 1 Ϥ [ø,ύ] dU)(c2:á P w K mg base 2 AAz [ø,AAy] zf)(c0:á P w K mg base (j+2) AAn [ø,ď,AAl] (spB n)):Ê P w K mg base Þ (j+3) f fd [ø,ď,AAl] (spB (n+1)):=by refine(K33.either (CX:=Þ) ((Hq F T Tt c1).mono (show 2<=j+3 by simp)) (Ht F T c1 c2 c0)).imp λvs H Q E h=>?_;obtain⟨st,v,d,rfl,bq,th,ok,q⟩:=h;cases d with|int i=>cases th;have ok:(decide (-10<=i)&&decide (i<=2000000))=true:=ok;rw[ą,ċ,ċ]at ok;exact .inl ⟨st,i,n,rfl,bq,ok.1,ok.2,λv d H' g b t=>q v d H' g ⟨b.1,b.2.1,by have:=b.2.2;unfold bd;lia⟩ t⟩;|tuple ds=>obtain⟨p,xs,ds',rfl,e,ep,r⟩:=K33.th_tupE th rfl;cases e;have ok:(decide (ds.length<=80)&&jb ds)=true:=ok;rw[ą,ċ]at ok;refine .inr ⟨st,p,xs,ds,rfl,bq,ep,r,ok.1,ok.2,λv d H' g b t=>q v d H' g ⟨b.1,b.2.1,?_⟩ t⟩;have b2:=b.2.2;have b3:n*å ds<=n*sz (.tuple ds):=Nat.mul_le_mul_left n (by show å ds<=1+å ds;lia);have b4:sz (.tuple ds)=1+å ds:=rfl;unfold bd at b2⊢;lia;|_=>cases ok
end
end K33P
namespace K33
open PySem L2
def Ĭ(o:Option Nat)(H:Hp)(v:V):Prop:=match o with|some j=>v=.str (words.getD j "")|none=>∃p x,v=.ref p/\H p=some (.tup [.str "told",x])
theorem Ĭ.keep(h:Ĭ o H v)(k:∀b xs,H b=some (.tup xs)->H' b=some (.tup xs)):Ĭ o H' v:=by cases o with|some j=>exact h;|none=>obtain⟨p,x,e,z⟩:=h;exact⟨p,x,e,k _ _ z⟩
theorem Bq:fV d y=some 3\/fV d y=some 5\/fV d y=none:=by
 unfold fV;split;.exact .inl rfl
 .split;.exact .inr (.inl rfl)
  .exact .inr (.inr rfl)
def rD(d y:PyData):Str:=match fV d y with|some j=>words.getD j ""|none=>""
theorem yg{fl:Addr}(kd:∀j,o=some j->Γ K Cs j)(L:Ē H2 fl fd)(Z:ķ fd body N)(C:ł fd.closure N vs H2 cs)(hN:vs.length=N.length)(run:∀A outer E Q,à kk A->GZ Cs o Š H2 Q E->∃te,(∀s,PE (cxL P w K mg base N fd fl A outer s H2 E) body te)/\te (vs.map some) H2 Q)(q:∀v H3,Á (fz H2 cs) H3->Ĭ o H3 v->Q v H3):za P w K mg base Cs kk [.ref fl] (fz H2 cs) Q E0:=by
 have no:Ϙ cs H2:=C.no;have Rx:∀b o,H2 b=some o->fz H2 cs b=some o:=λb o e=>by cases z:cs.lookup b with|some u=>rw[no b u z]at e;cases e;|none=>rw[dR z];exact e
 refine⟨fl,λv' H3=>o=none/\Á (fz H2 cs) H3,λa C' H3=>∃j,o=some j/\C'=Cs j/\Á (fz H2 cs) H3,rfl,⟨fd,body,N,vs,cs,?_,Z,λb o e=>tX e,C.cell,C.val,hN,λA' cb Q' E' hJ h1 h2=>?_⟩,?_,?_⟩;.obtain⟨⟨o,e1,e2⟩,c,oc,vs,t,a1,a2,a3⟩:=L;exact⟨⟨o,Rx _ _ e1,e2⟩,c,oc,vs,t,a1,Rx _ _ a2,a3⟩
 .rw[Od no];refine run A' cb _ _ hJ ⟨λj hj a H' s' na Wu=>?_,λkn v' H' s' Wu=>?_⟩;.exact h2 a (Cs j) (fz H' cs) ⟨j,hj,rfl,s'.fz⟩
  .exact h1 v' (fz H' cs) ⟨kn,s'.fz⟩
 .rintro v' H3⟨kn,s3⟩p hp;refine q _ _ (s3.updR hp) ?_;rw[kn];exact⟨p,v',rfl,aa⟩
 .rintro a C' H3⟨j,hj,rfl,s3⟩;refine⟨j,rfl,kd j hj,λfa H4 s4=>q _ _ (s3.trans s4) ?_⟩;rw[hj];rfl
theorem JN(h3:σ[3]?=some (some (.str (rD d y))))(h6:σ[6]?=some (some v))(f:Ĭ (fV d y) H v)(q:Q false H):tOr (Kr (pU (Į rNe (iH 3) (tC (.str "")))) (pU (Į rNe (iH 6) (iH 3)))) (Kr (pU (Į rEq (iH 3) (tC (.str "")))) (pU (Į rNe (Į (KH K) (iH 6) (tC (.int 0))) (tC (.str "told"))))) σ H Q:=by
 unfold rD at h3;rcases Bq (d:=d) (y:=y)with k|k|k;.rw[k]at f h3;cases(f);refine⟨_,h3,rfl,_,rfl,bj ⟨_,h6,_,h3,rfl,_,rfl,?_⟩⟩;exact aZ ⟨_,h3,rfl,_,rfl,aZ q⟩
 .rw[k]at f h3;cases(f);refine⟨_,h3,rfl,_,rfl,bj ⟨_,h6,_,h3,rfl,_,rfl,?_⟩⟩;exact aZ ⟨_,h3,rfl,_,rfl,aZ q⟩
 .rw[k]at f h3;obtain⟨p,x,rfl,ep⟩:=f;refine⟨_,h3,rfl,_,rfl,aZ (aZ ⟨_,h3,rfl,_,rfl,bj ⟨_,h6,p,_,0,.str "told",rfl,rfl,Ì.of ep,rfl,rfl,_,rfl,q⟩⟩)⟩
theorem kB3(h:ĕ d=some j):j=3:=by
 unfold ĕ at h;split at h;.cases h;rfl
 .cases h
def qnT:Str:=(PyProof.Rows.envOfC Ϲ (az (top 90)) 0 0 .none).qual++"<lambda>"
inductive Ŵ(T:Addr)(qn:Str)(vs:List V)(H:Hp)(Q:VK):Prop|mk:∀S v d vy y,(vs=[v,vy])->(¬S sysModules)->(É S H v d)->(É S H vy y)->(ã (.tuple [d,y])=true)->(sz (.tuple [d,y])<=1000)->(lowD d=true)->(ç H T qn)->(∀H',(∀b o,b≠T->H b=some o->H' b=some o)->ç H' T qn->Q (.bl true) H')->Ŵ T qn vs H Q
def spRight(T:Addr)(qn:Str):Sp:=λvs H Q _=>Ŵ T qn vs H Q
def Z04:Scope:={kind:=.function,names:=[(ď,.free),(ť,.free)],isGenerator:=false,isCoroutine:=false,more:=[]}
abbrev NR:ó:=[ď,ť,"_law_kept","_law_due","_law_calls",AAm,AAt]
structure ŏ(P:Program)(w:World)(K:Frag)(mg:Ti)(base:Heap)(Cs:Nat->Addr)(cl:List (Str×Addr))(d y:PyData)(v vy:V)(H:Hp)(x:V):Prop where ex:∃fl fd body,x=.ref fl/\Ē H fl fd/\ķ fd body [ď,ť]/\fd.closure=cl/\∀H2,(∃S,É S H2 v d/\É S H2 vy y)->∀A outer E Q,à 13 A->GZ Cs (fV d y) Š H2 Q E->∃te,(∀s,PE (cxL P w K mg base [ď,ť] fd fl A outer s H2 E) body te)/\te [some v,some vy] H2 Q
structure ù(T pS:Addr)(qn:Str)(R:Hp->V->Prop)(H0 H:Hp)(xs:List V):Prop where
 kp:∀b o,b≠T->H0 b=some o->H b=some o
 tb:ç H T qn
 el:H pS=some (.lst xs)nl:H0 pS=none
 it:∀x∈xs,R H x
theorem Ē.keep{fl:Addr}(L:Ē H fl fd)(k:∀b o,H b=some (held o)->H' b=some (held o)):Ē H' fl fd:=by obtain⟨⟨o,e1,e2⟩,c,oc,vs,t,a1,a2,a3⟩:=L;exact⟨⟨o,k _ _ e1,e2⟩,c,oc,vs,t,a1,k _ _ a2,a3⟩
theorem ŏ.keep(L:ŏ P w K mg base Cs cl d y v vy H x)(k:∀b o,H b=some (held o)->H' b=some (held o)):ŏ P w K mg base Cs cl d y v vy H' x:=by obtain⟨fl,fd,body,e,L,r⟩:=L.ex;exact⟨fl,fd,body,e,Ē.keep L k,r⟩
theorem ù.nt(c:ù T pS qn R H0 H xs):pS≠T:=λz=>by obtain⟨ps,e,_⟩:=c.tb;have:=c.el;rw[z,e]at this;cases this
theorem ù.push(hR:∀H H' x,R H x->(∀b o,H b=some (held o)->H' b=some (held o))->R H' x)(c:ù T pS qn R H0 H xs)(k:∀b o,b≠T->H b=some o->H' b=some o)(tb:ç H' T qn)(hx:R H' x):H' pS=some (.lst xs)/\ù T pS qn R H0 (upd H' pS (.lst (xs++[x]))) (xs++[x]):=by
 have e':=k _ _ c.nt c.el;have hh:∀b o,H' b=some (held o)->upd H' pS (.lst (xs++[x])) b=some (held o):=λb o e=>by rw[aA λz=>by rw[z,e']at e;cases e];exact e
 refine⟨e',λb o n e=>?_,tb.keep (λps e=>by rw[aA (Ne.symm c.nt)];exact e) hh,aa,c.nl,λz hz=>?_⟩;.rw[aA (aD e c.nl)];exact k b o n (c.kp b o n e)
 .rcases Ą.mp hz with hz|hz;.exact hR _ _ _ (c.it z hz) λb o e=>hh b o (k b _ (λz=>by obtain⟨ps,e2,_⟩:=c.tb;rw[z,e2]at e;cases e) e)
  .rw[Ũ.mp hz];exact hR _ _ _ hx hh
theorem ù.same(hR:∀H H' x,R H x->(∀b o,H b=some (held o)->H' b=some (held o))->R H' x)(c:ù T pS qn R H0 H xs)(s:Á H H'):ù T pS qn R H0 H' xs:=⟨λb o n e=>s _ _ (c.kp b o n e),c.tb.same s,s _ _ c.el,c.nl,λx hx=>hR _ _ _ (c.it x hx) λb o e=>s _ _ e⟩
theorem scR:Ã NR [ď,ť] (az (top 90)):=ú
theorem Hu(F:ß K Ϲ Ϲ (top 90) f fd)(hc:fd.code=.ref cc)(hC:PySem.W.CodeHd base cc T0)(hB:base.BuiltinsAt mg T0)(T:Mg mg)(Tp:mg "repr"=none)(kd:∀j,j=3\/j=5->Γ K Cs j)(c1:á P w K mg base 15 AAq [AAm] (za P w K mg base Cs 13))(c2:pF P w K mg base 12 "owed_by" ["book","year"] (xY Cs Š))(c3:pF P w K mg base 12 "sums_by" ["book","year"] (xY Cs Š))(c4:pF P w K mg base 12 "pence_owed" ["book","year"] (xY Cs Š))(c5:pF P w K mg base 8 "paid_before" ["book"] (Hf Cs Š))(c6:á P w K mg base 3 "_law_is_book" [ď] Kh)(c7:á P w K mg base 1 ABd [ď,AAv,AAr] (km dN)):Ê P w K mg base Þ 62 f fd [ď,ť] (spRight T0 qnT):=by
 refine F.oqC hc scR λA outer s H vs Q E hr h=>?_;obtain⟨S,v,d,vy,y,rfl,hS,th,ty,tm,hz,lo,tab,q⟩:=h;obtain⟨f1,fd1,F1,m1,k1,b1⟩:=id c1;have pj:à 15 (A.deeper (PyProof.Rows.envOfC Ϲ (az (top 90)) s.heap.objs.size f (.ref cc))):=hr.mono Ò;refine K33P.ok_b (aH ⟨ym (i:=2) (j:=3) rfl scR.nd rfl rfl Ù rfl rfl (aq (aK (tH (S:=S) hr.gd hS) rfl Tp qT (aq (bB (aq (pv 0) (aq (pv 1) aj))) aj)) (aq dY aj)) rfl⟩ (aH ⟨bT (bL (aG c6 hr (aq (pv 0) aj))) (aF (ě 3 scR.nd (vP (bL (aG c7 hr (aq (pv 1) (aq au (aq (aQ dZ (aK bh rfl T.len PySem.boot_len (aq (pX bu (pv 0) au) aj)) au) aj))))) dY dY))) bf⟩ (aH (fX 4 scR.nd (cA (aU ⟨o8 (N:=[ď,ť]) (sc:=az (top 90)) (NX:=NR) [0,1] rfl hC hB rfl rfl rfl (λ_ _ _ _ _=>rfl) Ε⟩ bw ⟨λ_ _=>rfl⟩))) (aH ⟨cB (qd zBb zBg zBf iV (pv 4) (aq (o8 (N:=[ď,ť]) (sc:=az (top 90)) (NX:=NR) [0,1] rfl hC hB rfl rfl rfl (λ_ _ _ _ _=>rfl) Ε) aj ⟨λ_ _=>rfl⟩))⟩ (aH ⟨cB (qd zBb zBg zBf iV (pv 4) (aq (o8 (N:=[ď,ť]) (sc:=az (top 90)) (NX:=NR) [0,1] rfl hC hB rfl rfl rfl (λ_ _ _ _ _=>rfl) Ε) aj ⟨λ_ _=>rfl⟩))⟩ (aH ⟨cG ň rfl (dC (pv 4)) (Ô 5 scR.nd) (kW (aH (fX 6 scR.nd ⟨Fp Z04 (N:=[ď,ť]) (ix:=[0,1]) (sc:=az (top 90)) (NX:=NR) F1 pj rfl m1 k1 b1 rfl (λ_=>rfl) rfl rfl Ε (pv 5)⟩) (bz (bs_if ⟨PW.pt (iM (PW.pt (iI (aY lU (pv 3) dY (aW _)) (jP (aY lU (pv 6) (pv 3) (aW _))))) (je (PW.pt (iI (aY iQ (pv 3) dY (aW _)) (jP (aY lU (pX bu (pv 6) au) dY (aW _)))))))⟩ (bz (fW tM)) bss_nil))))⟩ (aH (fX 6 scR.nd ⟨Fg (N:=[ď]) (ix:=[0]) (sc:=az (top 90)) (NX:=NR) F1 pj rfl m1 k1 b1 rfl (λ_=>rfl) rfl hC hB rfl rfl rfl (λ_ _ _ _ _=>rfl) Ε⟩) (aH (bs_if ⟨PW.pt (iM (aY lU (gj (J1 (K33P.roomU hr)) (pv 6) dY (aW _)) (gj iQ (pv 3) dY (aW _)) (aW _)) (je (aY lU (aK (tH (S:=S) hr.gd hS) rfl Tp qT (aq (bB (aq (pv 0) (aq (pv 1) aj))) aj)) (pv 2) (aW _))))⟩ (bz (fW tM)) bss_nil) (bz (fW ⟨MN (gj iQ (pv 3) dY (aW _)) (fD (gj iQ (pX bu (pv 6) au) dY (aW _)))⟩)))))))))) ?_;have zz:sz d<=4000/\sz y<=4000:=by have:1+(sz d+(sz y+0))<=1000:=hz;lia
 refine aC ?_;refine⟨_,rfl,_,rfl,zL,λp0 Wv=>?_⟩;have E1:=Á.upd (o:=.tup [v,vy]) Wv;refine⟨.ref p0,.tuple [d,y],rfl,.tup aa (.cons (th.same E1) (.cons (ty.same E1) .nil)),tm,À,vf hr Ò hz,⟨_,_,rfl,?_⟩⟩;dsimp only;generalize upd H p0 (.tup [v,vy])=H1 at E1⊢;refine iz λc_ gy=>?_;have rest:∀H2,Á H H2->c_ [some v,some vy,some (.str (PyData.tuple [d,y]).shown),some (.str (rD d y)),none,none,none] H2:=by
  intro H2 s2;have ja:=th.same s2;have Ry:=ty.same s2;have hU:=ç.same tab s2;have Ww:∀j,fV d y=some j->Γ K Cs j:=λj hj=>kd j (by
   rcases Bq (d:=d) (y:=y)with k|k|k;.rw[k]at hj;cases hj;simp
   .rw[k]at hj;cases hj;simp
   .rw[k]at hj;cases hj);have vals:∀(j' i':Nat)(z:V),([0,1]:List Nat)[j']?=some i'->([v,vy]:List V)[j']?=some z->∀(x:L2.St),(some v::some vy::x:L2.St)[i']?=some (some z):=by rintro(_|_|_) i z e1 e2 x<;>cases e1<;>cases e2<;>rfl
  refine gy _ _ ?_;refine aC (aR ?_);refine fY ?_;obtain⟨cl,qS⟩:∃cl,cl=cM (PyProof.Rows.envOfC Ϲ (az (top 90)) s.heap.objs.size f (.ref cc)).cells Z04.names []:=⟨_,rfl⟩;have hR:∀H H' x,ŏ P w K mg base Cs cl d y v vy H x->(∀b o,H b=some (held o)->H' b=some (held o))->ŏ P w K mg base Cs cl d y v vy H' x:=λ_ _ _ h k=>h.keep k;refine⟨hU,λkD MU cv1 ct1 H3 iq pz Wx L1 Z1=>?_⟩;have k1:ŏ P w K mg base Cs cl d y v vy H3 (.ref kD):=⟨kD,_,_,rfl,L1,Z1,by rw[qS];rfl,λH2 h A' cb E' Q' hJ out=>(let⟨S,t1,t2⟩:=h;⟨_,λs'=>gk c2 (hJ.deeper _) Ò rfl mW rfl (aq (pv 0) (aq (pv 1) aj)),⟨v,rfl,vy,rfl,S,v,d,vy,y,rfl,t1,zz.1,t2,zz.2,out⟩⟩)⟩;refine⟨zL,λpS vn=>?_⟩;refine aJ ?_;dsimp only;have nS:H2 pS=none:=by cases e:H2 pS with|none=>rfl;|some o=>
    by_cases z:pS=T0;.obtain⟨ps,e3,_⟩:=pz;rw[z,e3]at vn;cases vn
    .rw[iq _ _ z e]at vn;cases vn
  refine gen_ts (λHc=>ù T0 pS qnT (ŏ P w K mg base Cs cl d y v vy) H2 Hc [.ref kD]) ⟨λb o n e=>Á.upd vn _ _ (iq b o n e),pz.same (Á.upd vn),aa,nS,λx hx=>by rw[Ũ.mp hx];exact k1.keep λb o e=>Á.upd vn _ _ e⟩ λH4 HC=>?_;clear k1 L1 Z1 iq pz vn Wx;refine aC ?_;refine⟨_,rfl,.inl ⟨rfl,_,Ï.of HC.el⟩,?_⟩;refine⟨HC.tb,λqA MV cv2 ct2 H5 Rz E2 Wy L2 Z2=>?_⟩;have k2:ŏ P w K mg base Cs cl d y v vy H5 (.ref qA):=⟨qA,_,_,rfl,L2,Z2,by rw[qS];rfl,λH2 h A' cb E' Q' hJ out=>(let⟨S,t1,t2⟩:=h;⟨_,λs'=>gk c3 (hJ.deeper _) Ò rfl mW rfl (aq (pv 0) (aq (pv 1) aj)),⟨v,rfl,vy,rfl,S,v,d,vy,y,rfl,t1,zz.1,t2,zz.2,out⟩⟩)⟩;obtain⟨e5,E3⟩:=HC.push hR Rz E2 k2;refine⟨pS,_,.ref qA,rfl,rfl,e5,(by show 1<sizeLine;decide),?_⟩;dsimp only;generalize upd H5 pS (.lst ([.ref kD]++[.ref qA]))=H6 at E3⊢;clear k2 L2 Z2 Rz E2 Wy HC e5;refine aC ?_;refine⟨_,rfl,.inl ⟨rfl,_,Ï.of E3.el⟩,?_⟩;refine⟨E3.tb,λE4 pm3 cv3 ct3 H7 RA E5 Wz L3 Z3=>?_⟩;have k3:ŏ P w K mg base Cs cl d y v vy H7 (.ref E4):=⟨E4,_,_,rfl,L3,Z3,by rw[qS];rfl,λH2 h A' cb E' Q' hJ out=>(let⟨S,t1,t2⟩:=h;⟨_,λs'=>gk c4 (hJ.deeper _) Ò rfl mW rfl (aq (pv 0) (aq (pv 1) aj)),⟨v,rfl,vy,rfl,S,v,d,vy,y,rfl,t1,zz.1,t2,zz.2,out⟩⟩)⟩;obtain⟨e7,HE⟩:=E3.push hR RA E5 k3;refine⟨pS,_,.ref E4,rfl,rfl,e7,(by show 2<sizeLine;decide),?_⟩;dsimp only;generalize upd H7 pS (.lst ([.ref kD]++[.ref qA]++[.ref E4]))=H8 at HE⊢;clear k3 L3 Z3 RA E5 Wz E3 e7;generalize[V.ref kD]++[.ref qA]++[.ref E4]=xs at HE;refine aC ?_;refine⟨_,rfl,pS,rfl,⟨_,Ï.of HE.el⟩,?_⟩;refine gY (xs:=xs) (λk σ Hc=>∃x5 x6,σ=[some v,some vy,some (.str (PyData.tuple [d,y]).shown),some (.str (rD d y)),some (.ref pS),x5,x6]/\ù T0 pS qnT (ŏ P w K mg base Cs cl d y v vy) H2 Hc xs) ?_ ?_ ?_ ?_;.exact⟨_,_,rfl,HE⟩
  .rintro k σ Hc hk⟨x5,x6,rfl,ca⟩;exact Ï.of ca.el
  .rintro k x σ Hc hx⟨x5,x6,rfl,ca⟩;obtain⟨fl,fd',body,rfl,L,Z,Nn,run⟩:=(ca.it _ (Ŋ hx)).ex;have Nw:=ja.tbl hU ca.kp;have NA:=Ry.tbl hU ca.kp;refine aJ (aC ?_);refine aR ?_;refine⟨_,rfl,[v,vy],rfl,λj' i' z e1 e2=>vals j' i' z e1 e2 _,λcs C=>?_⟩;refine yg (vs:=[v,vy]) (o:=fV d y) Ww L Z (by rw[Nn,qS];exact C) rfl (λA' cb E' Q' hJ out=>run Hc ⟨S,Nw,NA⟩ A' cb E' Q' hJ out) λv1 H9 s9 f9=>?_;have no:Ϙ cs Hc:=C.no;have mm:=s9.er no;have RB:=f9.keep λb xs e=>Al s9 (λ_ _ z=>by cases z) e;have E6:=ca.same hR mm;refine aJ ?_;dsimp only;generalize er H9 cs=HB at mm RB E6⊢;refine JN (K:=K) rfl rfl RB ?_;refine aZ ?_;exact⟨_,_,rfl,E6⟩
  .rintro σ Hc⟨x5,x6,rfl,ca⟩;have Nw:=ja.tbl hU ca.kp;have NA:=Ry.tbl hU ca.kp;dsimp only;refine aC (aR ?_);refine⟨ca.tb,λfl pm cv ct H9 NC ND nf L Z=>⟨[v],rfl,λj' i' z e1 e2=>?_,λcs C=>?_⟩⟩
   .rcases j' with _|j';.cases e1;cases e2;rfl
    .simp at e1
   have EZ:=Nw.tbl ca.tb NC;have WA:=NA.tbl ca.tb NC;refine yg (o:=ĕ d) (λj hj=>kd j (.inl (kB3 hj))) L Z C rfl (λA' cb E' Q' hJ out=>⟨_,λs'=>gk c5 (hJ.deeper _) Ò rfl mW rfl (aq (pv 0) aj),⟨v,rfl,S,v,d,rfl,EZ,zz.1,out⟩⟩) λv1 HA sA fA=>?_;have no:Ϙ cs H9:=C.no;have sB:=sA.er no;have fB:=fA.keep λb xs e=>Al sA (λ_ _ z=>by cases z) e;refine aJ ?_;dsimp only;generalize er HA cs=HB at sB fB⊢;have WB:=EZ.same sB;have tyB:=WA.same sB;have E7:=ND.same sB;have kB:∀b o,b≠T0->H b=some o->HB b=some o:=λb o n e=>sB _ _ (NC b o n (ca.kp b o n (s2 _ _ e)));clear fA sA C L Z no
   have fin:∀p9,HB p9=none->Á HB (upd HB p9 (.tup [v,vy]))/\É S (upd HB p9 (.tup [v,vy])) (.ref p9) (.tuple [d,y]):=λp9 mE=>⟨Á.upd mE,.tup aa (.cons (WB.same (Á.upd mE)) (.cons (tyB.same (Á.upd mE)) .nil))⟩;refine aC ?_;cases hb:cR d with|false=>
    have e:rD d y="book":=by unfold rD fV;rw[Í hb];rfl
    rw[show ĕ d=some 3 by unfold ĕ;rw[Í hb]]at fB;cases(show v1=.str "book"from fB);rw[e];refine⟨_,rfl,"book",rfl,.inl ⟨"book",rfl,_,rfl,rfl,rfl,_,rfl,?_⟩⟩;refine aZ ⟨_,rfl,_,rfl,zL,λp9 mE=>⟨.ref p9,.tuple [d,y],rfl,(fin p9 mE).2,tm,À,vf hr Ò hz,_,rfl,rfl,_,rfl,?_⟩⟩;rw[è rfl];refine aZ (bN ?_);dsimp only;refine eF ?_;exact⟨_,rfl,rfl,_,rfl,bj (q _ (λb o n e=>(fin p9 mE).1 _ _ (kB b o n e)) (E7.same (fin p9 mE).1))⟩;|true=>
    have e:decide (V.str (rD d y)=V.str "book")=false:=by
     unfold rD fV;rw[hb,Ë Ù];by_cases hy:dN y 0 ((items (part d 0)).length-1)=false;.rw[Í hy];rfl
     .rw[Ë hy];rfl
    rw[show ĕ d=none by unfold ĕ;rw[hb];rfl]at fB;obtain⟨p,x,rfl,ep⟩:=fB;refine⟨_,rfl,"book",rfl,.inr ⟨p,_,rfl,Ì.of ep,_,rfl,rfl,rfl,_,rfl,?_⟩⟩;rw[e];refine aZ ⟨_,rfl,_,rfl,zL,λp9 mE=>⟨.ref p9,.tuple [d,y],rfl,(fin p9 mE).2,tm,À,vf hr Ò hz,_,rfl,rfl,_,rfl,?_⟩⟩;rw[è rfl];refine aZ (bN ?_);dsimp only;refine eF ?_;refine⟨_,rfl,rfl,_,rfl,?_⟩;rw[e];exact aZ ⟨_,rfl,p,_,0,.str "told",rfl,rfl,Ì.of ((fin p9 mE).1 _ _ ep),rfl,rfl,q _ (λb o n e=>(fin p9 mE).1 _ _ (kB b o n e)) (E7.same (fin p9 mE).1)⟩
 refine⟨_,rfl,S,v,d,rfl,th.same E1,zz.1,lo,λH2 s2=>⟨_,rfl,?_⟩⟩;have HG:=E1.trans s2
 cases hb:cR d with|false=>
  have e:rD d y="book":=by unfold rD fV;rw[Í hb];rfl
  refine aZ (bN ?_);have:=rest H2 HG;rw[e]at this;exact this;|true=>
  obtain⟨bk,ac,xc,cs,ap,xp,ps,af,xs,ss,rfl,rfl,B⟩:=pN (th.same HG) hb;have hl:(items (part (.tuple [fP cs,fP ps,fP ss]) 0)).length=xc.length:=by show(cs.map rowD).length=_;rw[Ý,B.rc.l]
  refine bj (aR ?_);refine⟨_,rfl,_,rfl,bk,_,0,.ref ac,rfl,rfl,Ì.of B.e,rfl,ac,_,rfl,.inr (Ì.of B.rc.e),_,_,rfl,rfl,S,vy,y,0,_,rfl,ty.same HG,zz.2,λH3 s3=>⟨_,rfl,?_⟩⟩;have:=rest H3 (HG.trans s3);unfold rD fV at this;rw[hb,Ë Ù,hl]at this;cases e:dN y 0 ((xc.length:Int)-1)with|true=>rw[e,Ë Ù]at this;exact bj (aJ this);|false=>rw[e,Í rfl]at this;exact aZ (aJ this)
end K33
namespace K33P
open PySem L2
theorem Hv{xs:List V}{r:Int}(h0:0<=r)(h1:r<xs.length):∃u,ů xs r=some u/\u∈xs:=by have hr:r.toNat<xs.length:=z03;have e:xs[r.toNat]?=some xs[r.toNat]:=é hr;have:=dD e;rw[show((r.toNat:Nat):Int)=r by grind]at this;exact⟨_,this,į hr⟩
theorem Hw(t:ç H T q)(sa:iZ H st)(g:Dr st H H'):ç H' T q:=by
 obtain⟨x,y,z,e,_⟩:=sa;refine t.keep (λps e'=>g.bt _ _ e' λz=>?_) λb o e'=>g.bt _ _ e' λz=>?_;.rw[z,e]at e';cases e'
 .rw[z,e]at e';cases e'
structure Wk(T st c ac ap af lo:Addr)(qn:Str)(xc its:List V)(d:PyData)(H0 H:Hp):Prop where
 kp:∀b o,b≠T->b≠st->H0 b=some o->H b=some o
 sa:iZ H st
 tb:ç H T qn
 eb:H c=some (.tup [.ref ac,.ref ap,.ref af])ec:H ac=some (.tup xc)th:É (SS st) H (.ref c) d
 el:H lo=some (.lst its)nl:lo≠st
 it:∀u∈its,∃d,É (SS st) H u d/\Gd 990 d
section
theorem Wk.dr(a:Wk T st c ac ap af lo qn xc its d H0 H)(g:Dr st H H'):Wk T st c ac ap af lo qn xc its d H0 H':=⟨λb o n1 n2 e=>g.bt _ _ (a.kp b o n1 n2 e) n2,g.sa,Hw a.tb a.sa g,g.tups a.sa _ _ a.eb,g.tups a.sa _ _ a.ec,g.thS a.sa a.th,g.bt _ _ a.el a.nl,a.nl,λu hu=>(let⟨d,t,b⟩:=a.it u hu;⟨d,g.thS a.sa t,b⟩)⟩
theorem Wk.same(a:Wk T st c ac ap af lo qn xc its d H0 H)(s:Á H H'):Wk T st c ac ap af lo qn xc its d H0 H':=a.dr (Dr.same (Dr.refl a.sa) s)
theorem Wk.right(a:Wk T st c ac ap af lo qn xc its d H0 H)(k:∀b o,b≠T->H b=some o->H' b=some o)(t:ç H' T qn):Wk T st c ac ap af lo qn xc its d H0 H':=by
 obtain⟨ps,e',_⟩:=id a.tb;have nn:∀{b o},H b=some o->(∀ps,o≠HO.tbl ps)->b≠T:=λe n z=>by rw[z,e']at e;cases e;exact n _ rfl
 refine⟨λb o n1 n2 e=>k b o n1 (a.kp b o n1 n2 e),?_,t,k _ _ (nn a.eb nofun) a.eb,k _ _ (nn a.ec nofun) a.ec,a.th.tbl a.tb k,k _ _ (nn a.el nofun) a.el,a.nl,λu hu=>(let⟨d,th,b⟩:=a.it u hu;⟨d,th.tbl a.tb k,b⟩)⟩;obtain⟨x,y,z,e,r⟩:=a.sa;exact⟨x,y,z,k _ _ (nn e nofun) e,r⟩
end
def Sc(u:V):Prop:=∃d,(∀S H,É S H u d)/\ã d=true/\sz d<=1
theorem Sc.int(h:i.natAbs<2^128):Sc (.int i):=⟨.int i,λ_ _=>.int i,è h,Ø _⟩
theorem Sc.non:Sc .non:=⟨.none,λ_ _=>.non,rfl,Ø _⟩
theorem Sc.bl(b:Bool):Sc (.bl b):=⟨.bool b,λ_ _=>.bl b,rfl,Ø _⟩
theorem Sc.str:Sc (.str "0"):=⟨.str "0",λ_ _=>.str _,by decide+kernel,Ø _⟩
theorem rE{rs:UV}(h:∀r∈rs,r.length<=80/\∀i∈r,-10<=i/\i<=2000000):jb (rs.map K33.rowD)=true:=by
 have E8:∀r:VV,(∀i∈r,-10<=i/\i<=2000000)->jb (r.map PyData.int)=true:=λr=>by induction r with|nil=>intro _;rfl;|cons i r ih=>intro h;have h1:=h i (.head _);show((decide (-10<=i)&&decide (i<=2000000))&&jb (r.map PyData.int))=true;rw[è h1.1,è h1.2,ih λj hj=>h j (.tail _ hj)];rfl
 induction rs with|nil=>rfl;|cons r rs ih=>have h1:=h r (.head _);show((decide ((r.map PyData.int).length<=80)&&jb (r.map PyData.int))&&jb (rs.map K33.rowD))=true;rw[Ý,è h1.1,E8 r h1.2,ih λq hq=>h q (.tail _ hq)];rfl
theorem vJ{α:Type}{xs:List α}{y:α}:∀{n:Nat},y∈(List.replicate n xs).flatten->y∈xs
 |0,h=>by cases h;|n+1,h=>by
  rcases Ą.mp h with h|h;.exact h
  .exact vJ h
theorem vK(ds:ü):∀n,å (List.replicate n ds).flatten=n*å ds|0=>by rw[Nat.zero_mul];rfl;|n+1=>by rw[List.replicate_succ,List.flatten_cons,fO,vK ds n,Nat.succ_mul,Nat.add_comm]
theorem vL(h:Å S H xs ds):∀n,Å S H (List.replicate n xs).flatten (List.replicate n ds).flatten|0=>.nil|n+1=>by exact h.append (vL h n)
theorem rF{rs:UV}(h:K33.RowsAt H a xs rs):Å S H xs (rs.map K33.rowD):=K33.els_ths ⟨h.l,h.g⟩
def _root_.K33.spLaw(K:Frag)(T:Addr):Sp:=λvs H Q _=>∃(a:Addr)(ns:VV),vs=[.ref a]/\Ï K H a (ns.map V.int)/\ns.length<=63/\ç H T K33.qnT/\∀H',Q (.bl true) H'
section
theorem scL:Ã [ũ,ϸ,ø,"_law_book_here","_law_odd","_law_turn",ď,ť] [ũ] (az (top 91)):=ú
theorem ok_law(F:ß K "law" "law" (top 91) f fd)(T:Mg mg)(Tr:mg "range"=none)(Tm:mg "max"=none)(Tn:mg "min"=none)(Tl:mg "list"=none)(c1:á P w K mg base 2 "_law_state" [ũ,ϸ] (Ao K))(c2:á P w K mg base 3 "_law_book" [ø,Ϻ,Ψ] K33Q.spBook)(c3:á P w K mg base 1 Ϥ [ø,ύ] dU)(c4:á P w K mg base 7 AAn [ø,ď,AAl] (spB 5))(c5:á P w K mg base 62 Ϲ [ď,ť] (K33.spRight T0 K33.qnT)):Ê P w K mg base Þ 63 f fd [ũ] (K33.spLaw K T0):=by
 refine F.oq scL λcdv A outer s H vs Q E hr h=>?_;obtain⟨a,ns,rfl,hS,hl,tab,q⟩:=h;refine ok_b (aH ⟨cG ň rfl (cY rfl Tr (aq (aK (jR rfl) rfl Tm o9 (aq au (aq (aK (iR rfl) rfl Tn oh (aq (aK bh rfl T.len PySem.boot_len (aq (pv 0) aj)) (aq au aj))) aj))) aj)) (Ô 1 scL.nd) (kW (aH (fX 2 scL.nd ⟨aG (hjk:=Ò) c1 hr (aq (pv 0) (aq (pv 1) aj))⟩) (aH (fX 3 scL.nd ⟨aG (hjk:=Ò) c2 hr (aq (pv 2) (aq au (aq au aj)))⟩) (aH (fX 4 scL.nd (cA (aU ⟨pv 3⟩ (aU ⟨pv 3⟩ (aU uN (aU ⟨cz dF (pv 3) cU (cV au)⟩ (aU ⟨cH kJ rfl Tl Œ (aq (pv 3) aj)⟩ (aU (ik (aU (ik bw) (aU ⟨pX bu (pv 3) au⟩ (aU ⟨pX bu (pv 3) au⟩ bw)))) (aU (ik (aU ⟨pX bu (pv 3) au⟩ (aU ⟨pX bu (pv 3) au⟩ (aU (ik (aU (ik (aU fK (aU fK (aU fK (aU fK (aU fK bw)))))) bw)) bw)))) bw))))))))) (aH (fX 4 scL.nd (iy jg ⟨pv 4⟩ (cA (aU (ik (aU ⟨pX bu (pv 3) au⟩ (aU ⟨pX bu (pv 3) au⟩ (aU (iy An ⟨pX bu (pv 3) au⟩ fK) bw)))) (aU (ik (aU ⟨cz dF (aQ An (pX bu (pv 3) au) au) cU (cV au)⟩ (aU ⟨pX bu (pv 3) au⟩ (aU ⟨pX bu (pv 3) au⟩ bw)))) bw))))) (bz ⟨cG ň rfl (cY rfl Tr (aq au aj)) (Ô 5 scL.nd) (kW (aH (fX 6 scL.nd (mD bM ⟨pv 4⟩ ⟨aG (hjk:=Ò) c3 hr (aq (pv 2) (aq au aj))⟩ (λ_ _=>rfl))) (aH (K33.bs_if ⟨aY iQ (aG (hjk:=Ò) c3 hr (aq (pv 2) (aq au aj))) au (aW _)⟩ (bz (fX 6 scL.nd ⟨aG (hjk:=Ò) c4 hr (aq (pv 2) (aq (pv 3) (aq au aj)))⟩)) K33.bss_nil) (aH (fX 7 scL.nd (mD bM (cA (aU fK (aU ⟨aQ dZ (aK bh rfl T.len PySem.boot_len (aq (pX bu (pv 3) au) aj)) au⟩ (aU ⟨aK bh rfl T.len PySem.boot_len (aq (pX bu (pv 3) au) aj)⟩ (aU La (aU uN (aU tM (aU d9 (aU fK bw))))))))) ⟨aG (hjk:=Ò) c3 hr (aq (pv 2) (aq au aj))⟩ (λ_ _=>rfl))) (bz (K33.bs_if ⟨cj (bL (aG (hjk:=Ò) c5 hr (aq (pv 6) (aq (pv 7) aj))))⟩ (bz (fW tM)) K33.bss_nil))))))⟩))))))⟩ (bz (fW tM))) ?_;refine aC ?_;have A9:(ns.map V.int).length<=63:=by rw[Ý];exact hl
 refine⟨_,rfl,a,_,rfl,.inl hS,_,_,rfl,_,_,rfl,_,rfl,?_,?_,?_⟩;.split<;>split<;>simp
 .split<;>split<;>lia
 refine eV (lo:=0) (λi σ Hc=>Xe7 λx1 x2 x3 x4 x5 x6 x7=>Xa3 (σ=[some (.ref a),x1,x2,x3,x4,x5,x6,x7]) ((∀b o,b≠T0->H b=some o->Hc b=some o)) (ç Hc T0 K33.qnT)) ?_ ?_ ?_;.exact⟨none,none,none,none,none,none,none,rfl,λ_ _ _ e=>e,tab⟩
 .rintro i σ H1 hi⟨x1,x2,x3,x4,x5,x6,x7,rfl,k1,AD⟩;have WC:Ï K H1 a (ns.map V.int):=by
   obtain⟨ps,eT,_⟩:=tab;rcases hS with(h|⟨o,h⟩)|h;.exact .inl (.inl (k1 _ _ (λz=>by rw[z,eT]at h;cases h) h))
   .exact .inl (.inr ⟨o,k1 _ _ (λz=>by rw[z,eT]at h;cases h) h⟩)
   .exact .inr h
  refine aJ ?_;refine K33.rd_E λDe sN=>?_;refine aC (aR ?_);refine⟨_,rfl,_,rfl,a,ns,_,rfl,WC,Ò,λst x y z hn LH WD y6=>?_⟩;have nT:st≠T0:=λz=>by obtain⟨ps,eT,_⟩:=AD;rw[z,eT]at hn;cases hn
  have WE:H st=none:=by cases e:H st with|none=>rfl;|some o=>rw[k1 st o nT e]at hn;cases hn
  refine aJ ?_;dsimp only;refine K33.gen_ts (λH2=>(∀b o,b≠T0->b≠st->H b=some o->H2 b=some o)/\iZ H2 st/\ç H2 T0 K33.qnT) ⟨λb o n1 n2 e=>by rw[aA n2];exact k1 b o n1 e,⟨x,y,z,aa,LH,WD,y6⟩,ç.same AD (Á.upd hn)⟩ λH2=>?_;rintro⟨se,NF,hU⟩;refine aC (aR ?_);refine⟨_,rfl,st,5,5,rfl,NF,by decide,by decide,by decide,by decide,λbk ac xc cs ap xp ps af xs ss H3 d3 eb rc Qs Qt okc rp lp okp rs ls eM Ap=>?_⟩;have oC:jb (cs.map K33.rowD)=true:=rE λr hr=>⟨by rw[(okc r hr).1];decide,λi hi=>by have:=(okc r hr).2 i hi;lia⟩;have oP:jb (ps.map K33.rowD)=true:=rE λr hr=>⟨by rw[(okp r hr).1];decide,K33.okP_sm (okp r hr)⟩;have oS:jb (ss.map K33.rowD)=true:=rE λr hr=>⟨by rw[(eM r hr).1];decide,(eM r hr).2⟩;have zC:å (cs.map K33.rowD)<=20:=by rw[K33.rows_szs λr hr=>(okc r hr).1];lia
  have zP:å (ps.map K33.rowD)<=35:=by rw[K33.rows_szs λr hr=>(okp r hr).1];lia
  have zS:å (ss.map K33.rowD)<=36:=by rw[K33.rows_szs λr hr=>(eM r hr).1];lia
  have nC:(cs.map K33.rowD).length<=80:=by rw[Ý];grind
  have nP:(ps.map K33.rowD).length<=80:=by rw[Ý];lia
  have nS:(ss.map K33.rowD).length<=80:=by rw[Ý];lia
  have lxc:xc.length=cs.length:=rc.l;have lxs:xs.length=ss.length:=rs.l;have tC:=rF (S:=SS st) rc;have tP:=rF (S:=SS st) rp;have tS:=rF (S:=SS st) rs;have ec:=rc.e;have ep:=rp.e;have es:=rs.e;clear rc rp rs okc okp eM Ap;generalize cs.map K33.rowD=C at oC zC nC tC;generalize ps.map K33.rowD=PP at oP zP nP tP;generalize ss.map K33.rowD=fy at oS zS nS tS;have gC:=λd hd=>rC (jc oC d hd);have gP:=λd hd=>rC (jc oP d hd);have gS:=λd hd=>rC (jc oS d hd);have iq:∀b o,b≠T0->b≠st->H b=some o->H3 b=some o:=λb o n1 n2 e=>d3.bt _ _ (se b o n1 n2 e) n2;have pz:=Hw hU NF d3;have NG:=d3.sa;refine aJ ?_;dsimp only;clear se NF hU d3;refine aC (aR ?_);refine fY ?_;have tD:∀{Hx},Á H3 Hx->Å (SS st) Hx [.ref ac,.ref ap,.ref af] [.tuple C,.tuple PP,.tuple fy]:=λm=>.cons (.tup (m _ _ ec) (tC.same m)) (.cons (.tup (m _ _ ep) (tP.same m)) (.cons (.tup (m _ _ es) (tS.same m)) .nil));have gU:∀{ds:ü},(∀d∈ds,ã d=true/\K33.lowD d=true)->ã (.tuple ds)=true/\K33.lowD (.tuple ds)=true:=λh=>(let g:=eU h (Ø _);⟨g.1,g.2.1⟩);have gD:∀d∈[PyData.tuple C,.tuple PP,.tuple fy],ã d=true/\K33.lowD d=true:=λd hd=>by grind
  have zD:å [PyData.tuple C,.tuple PP,.tuple fy]<=94:=by show(1+å C)+((1+å PP)+((1+å fy)+0))<=94;omega
  refine⟨_,rfl,_,rfl,_,rfl,2,rfl,bk,_,rfl,eb,λq4 H4 s4 e4=>?_⟩;refine⟨_,rfl,bk,_,rfl,Ì.of (s4 _ _ eb),λq5 HI WG=>?_⟩;have s5:=s4.updR (o:=.lst [.ref ac,.ref ap,.ref af]) HI;have e5:=aa (H:=H4) (a:=q5) (o:=.lst [.ref ac,.ref ap,.ref af]);replace e4:=Á.upd (o:=.lst [.ref ac,.ref ap,.ref af]) HI _ _ e4;have NH:q5≠st:=((Dr.refl NG).same s4).ne HI;generalize upd H4 q5 (.lst [.ref ac,.ref ap,.ref af])=H5 at s5 e5 e4⊢;clear s4 HI;refine⟨zL,λz6 RC=>?_⟩;have m6:=Á.upd (o:=.tup []) RC;have ϩ:=aa (H:=H5) (a:=z6) (o:=.tup []);generalize upd H5 z6 (.tup [])=H6 at m6 ϩ⊢;refine⟨_,rfl,bk,_,1,.ref ap,rfl,rfl,Ì.of (m6 _ _ (s5 _ _ eb)),rfl,_,rfl,bk,_,2,.ref af,rfl,rfl,Ì.of (m6 _ _ (s5 _ _ eb)),rfl,zL,λq6 NI=>?_⟩;have s6:=(s5.trans m6).updR (o:=.tup [.ref z6,.ref ap,.ref af]) NI;have e6:=aa (H:=H6) (a:=q6) (o:=.tup [.ref z6,.ref ap,.ref af]);have n6:=Á.upd (o:=.tup [.ref z6,.ref ap,.ref af]) NI;replace ϩ:=n6 _ _ ϩ;replace e4:=n6 _ _ (m6 _ _ e4);replace e5:=n6 _ _ (m6 _ _ e5);generalize upd H6 q6 (.tup [.ref z6,.ref ap,.ref af])=H7 at s6 e6 ϩ e4 e5⊢;clear m6 n6 s5 RC NI;refine⟨_,rfl,bk,_,0,.ref ac,rfl,rfl,Ì.of (s6 _ _ eb),rfl,_,rfl,bk,_,1,.ref ap,rfl,rfl,Ì.of (s6 _ _ eb),rfl,?_⟩;refine⟨zL,λr7 RD=>⟨zL,λt7 NJ=>⟨zL,λq7 HK=>?_⟩⟩⟩;have m8:=Á.upd (o:=.tup [.int 0,.int 0,.int 0,.int 1,.int 0]) RD;have er7:=aa (H:=H7) (a:=r7) (o:=.tup [.int 0,.int 0,.int 0,.int 1,.int 0]);generalize upd H7 r7 (.tup [.int 0,.int 0,.int 0,.int 1,.int 0])=H8 at m8 er7 NJ HK⊢;have m9:=Á.upd (o:=.tup [.ref r7]) NJ;have et7:=aa (H:=H8) (a:=t7) (o:=.tup [.ref r7]);generalize upd H8 t7 (.tup [.ref r7])=H9 at m9 et7 HK⊢;have E9:=Á.upd (o:=.tup [.ref ac,.ref ap,.ref t7]) HK;have e7:=aa (H:=H9) (a:=q7) (o:=.tup [.ref ac,.ref ap,.ref t7]);generalize upd H9 q7 (.tup [.ref ac,.ref ap,.ref t7])=Nl at E9 e7⊢;have lP:=m8.trans (m9.trans E9);have mm:=s6.trans lP;replace er7:=E9 _ _ (m9 _ _ er7);replace et7:=E9 _ _ et7;replace e4:=lP _ _ e4;replace e5:=lP _ _ e5;replace e6:=lP _ _ e6;replace ϩ:=lP _ _ ϩ;clear m8 m9 E9 lP s6 RD NJ HK;refine⟨zL,λL hL=>?_⟩;have RE:L≠st:=((Dr.refl NG).same mm).ne hL;have mL:=Á.upd (o:=.lst [.ref bk,.ref bk,.non,.ref q4,.ref q5,.ref q6,.ref q7]) hL;refine aJ ?_;dsimp only;have fE:=mm.trans mL;have gw:Wk T0 st bk ac ap af L K33.qnT xc [.ref bk,.ref bk,.non,.ref q4,.ref q5,.ref q6,.ref q7] (.tuple [.tuple C,.tuple PP,.tuple fy]) H (upd Nl L (.lst [.ref bk,.ref bk,.non,.ref q4,.ref q5,.ref q6,.ref q7])):=by
   refine⟨λb o n1 n2 e=>fE _ _ (iq b o n1 n2 e),((Dr.refl NG).same fE).sa,pz.same fE,fE _ _ eb,fE _ _ ec,.tup (fE _ _ eb) (tD fE),aa,RE,λu hu=>?_⟩;replace er7:=mL _ _ er7;replace et7:=mL _ _ et7;replace e4:=mL _ _ e4;replace e5:=mL _ _ e5;replace e6:=mL _ _ e6;replace e7:=mL _ _ e7;replace ϩ:=mL _ _ ϩ;have tD:=tD fE;generalize upd Nl L (.lst [.ref bk,.ref bk,.non,.ref q4,.ref q5,.ref q6,.ref q7])=RF at er7 et7 e4 e5 e6 e7 ϩ tD fE⊢;have gB:∃d,É (SS st) RF (.ref bk) d/\Gd 990 d:=⟨_,.tup (fE _ _ eb) tD,eU gD À⟩;simp only[List.mem_cons,List.not_mem_nil,or_false]at hu;rcases hu with rfl|rfl|rfl|rfl|rfl|rfl|rfl;.exact gB
   .exact gB
   .exact⟨.none,.non,rfl,rfl,by decide⟩
   .exact⟨_,.tup e4 (dG tD _ _),eU (λd hd=>gD d (nA hd)) (by have:=nF [PyData.tuple C,.tuple PP,.tuple fy] none (some 2);lia)⟩
   .exact⟨.list [.tuple C,.tuple PP,.tuple fy],.lst ⟨NH,WG⟩ e5 tD,(gU gD).1,rfl,by show 1+å [PyData.tuple C,.tuple PP,.tuple fy]<=990;lia⟩
   .refine⟨.tuple [.tuple [],.tuple PP,.tuple fy],.tup e6 (.cons (.tup ϩ .nil) (.cons (.tup (fE _ _ ep) (tP.same fE)) (.cons (.tup (fE _ _ es) (tS.same fE)) .nil))),eU (λd hd=>?_) ?_⟩
    .rcases Ļ.mp hd with rfl|hd;.exact⟨rfl,rfl⟩
     .exact gD d (.tail _ hd)
    .show 1+(1+((1+å PP)+((1+å fy)+0)))<=990;lia
   .refine⟨.tuple [.tuple C,.tuple PP,.tuple [.tuple [.int 0,.int 0,.int 0,.int 1,.int 0]]],.tup e7 (.cons (.tup (fE _ _ ec) (tC.same fE)) (.cons (.tup (fE _ _ ep) (tP.same fE)) (.cons (.tup et7 (.cons (.tup er7 (.cons (.int 0) (.cons (.int 0) (.cons (.int 0) (.cons (.int 1) (.cons (.int 0) .nil)))))) .nil)) .nil))),eU (λd hd=>?_) ?_⟩
    .simp only[List.mem_cons,List.not_mem_nil,or_false]at hd;rcases hd with rfl|rfl|rfl;.exact gU gC
     .exact gU gP
     .exact⟨by decide+kernel,by decide+kernel⟩
    .show 1+((1+å C)+((1+å PP)+(7+0)))<=990;lia
  generalize eI:[V.ref bk,.ref bk,.non,.ref q4,.ref q5,.ref q6,.ref q7]=its at gw⊢;have li:its.length=7:=by rw[<-eI];rfl
  refine K33.gen_ts (λHx=>Á H3 Hx/\Wk T0 st bk ac ap af L K33.qnT xc its (.tuple [.tuple C,.tuple PP,.tuple fy]) H Hx) ⟨by rw[<-eI];exact fE,gw⟩ λRF=>?_;rintro⟨fE,wk⟩;clear gw e4 e5 e6 e7 ϩ er7 et7 mL hL mm RE eI;refine aC (aR ?_);refine⟨_,rfl,?_⟩;refine fY ?_;refine⟨_,rfl,bk,_,0,.ref ac,rfl,rfl,Ì.of wk.eb,rfl,_,rfl,bk,_,1,.ref ap,rfl,rfl,Ì.of wk.eb,rfl,_,rfl,bk,_,2,.ref af,rfl,rfl,Ì.of wk.eb,rfl,af,13,xs,rfl,rfl,fE _ _ es,À,by decide,by decide,λp1 RG RH e12=>⟨zL,λq8 NL=>?_⟩⟩;have Fc:=RH.updR (o:=.tup [.ref ac,.ref ap,.ref p1]) NL;have e8:=aa (H:=RG) (a:=q8) (o:=.tup [.ref ac,.ref ap,.ref p1]);replace e12:=Á.upd (o:=.tup [.ref ac,.ref ap,.ref p1]) NL _ _ e12;generalize upd RG q8 (.tup [.ref ac,.ref ap,.ref p1])=H13 at Fc e8 e12⊢;clear RH NL;refine⟨_,rfl,bk,_,0,.ref ac,rfl,rfl,Ì.of (Fc _ _ wk.eb),rfl,ac,21,xc,rfl,rfl,Fc _ _ wk.ec,À,by decide,by decide,λp2 H14 NM RI=>⟨21,rfl,p2,_,rfl,RI,λp3 RJ NN e15=>?_⟩⟩;have kG:=Fc.trans (NM.trans NN);have pE:=NM.trans NN;refine⟨_,rfl,bk,_,1,.ref ap,rfl,rfl,Ì.of (kG _ _ wk.eb),rfl,_,rfl,bk,_,2,.ref af,rfl,rfl,Ì.of (kG _ _ wk.eb),rfl,zL,λq9 RK=>?_⟩;have Bi:=Á.upd (o:=.tup [.ref p3,.ref ap,.ref af]) RK;have e9:=aa (H:=RJ) (a:=q9) (o:=.tup [.ref p3,.ref ap,.ref af]);generalize upd RJ q9 (.tup [.ref p3,.ref ap,.ref af])=RL at Bi e9⊢;have pT:=kG.trans Bi;replace e15:=Bi _ _ e15;replace e12:=Bi _ _ (pE _ _ e12);replace e8:=Bi _ _ (pE _ _ e8);clear Fc NM NN kG pE Bi RK RI;refine⟨zL,λl2 cy=>⟨L,l2,_,[.ref q8,.ref q9],rfl,rfl,Á.upd cy _ _ (pT _ _ wk.el),aa,(by rw[li];show 9<=sizeLine;decide),λlo ff=>?_⟩⟩;have mL:=(Á.upd (o:=.lst [.ref q8,.ref q9]) cy).updR (o:=.lst (its++[.ref q8,.ref q9])) ff;have mA:=pT.trans mL;have mM:=fE.trans mA;have WH:lo≠st:=((Dr.refl wk.sa).same (pT.updR (o:=.lst [.ref q8,.ref q9]) cy)).ne ff;refine aJ ?_;dsimp only;have vt:=wk.same mA;have gw:Wk T0 st bk ac ap af lo K33.qnT xc (its++[.ref q8,.ref q9]) (.tuple [.tuple C,.tuple PP,.tuple fy]) H (upd (upd RL l2 (.lst [.ref q8,.ref q9])) lo (.lst (its++[.ref q8,.ref q9]))):=by
   refine⟨vt.kp,vt.sa,vt.tb,vt.eb,vt.ec,vt.th,aa,WH,λu hu=>?_⟩;rcases Ą.mp hu with hu|hu;.exact vt.it u hu
   replace e15:=mL _ _ e15;replace e12:=mL _ _ e12;replace e8:=mL _ _ e8;replace e9:=mL _ _ e9;generalize upd (upd RL l2 (.lst [.ref q8,.ref q9])) lo (.lst (its++[.ref q8,.ref q9]))=H17 at e15 e12 e8 e9 mM⊢;simp only[List.mem_cons,List.not_mem_nil,or_false]at hu;rcases hu with rfl|rfl
   .refine⟨.tuple [.tuple C,.tuple PP,.tuple (List.replicate 13 fy).flatten],.tup e8 (.cons (.tup (mM _ _ ec) (tC.same mM)) (.cons (.tup (mM _ _ ep) (tP.same mM)) (.cons (.tup e12 (vL (tS.same mM) 13)) .nil))),eU (λd hd=>?_) ?_⟩
    .simp only[List.mem_cons,List.not_mem_nil,or_false]at hd;rcases hd with rfl|rfl|rfl;.exact gU gC
     .exact gU gP
     .exact gU λd hd=>gS d (vJ hd)
    .have:=vK fy 13;show 1+((1+å C)+((1+å PP)+((1+å (List.replicate 13 fy).flatten)+0)))<=990;lia
   .refine⟨.tuple [.tuple (ş (List.replicate 21 C).flatten none (some 21)),.tuple PP,.tuple fy],.tup e9 (.cons (.tup e15 (dG (vL (tC.same mM) 21) _ _)) (.cons (.tup (mM _ _ ep) (tP.same mM)) (.cons (.tup (mM _ _ es) (tS.same mM)) .nil))),eU (λd hd=>?_) ?_⟩
    .rcases Ļ.mp hd with rfl|hd;.exact gU λd hd=>gC d (vJ (nA hd))
     .exact gD d (.tail _ hd)
    .have h1:=nF (List.replicate 21 C).flatten none (some 21);have h2:=vK C 21;show 1+((1+å (ş (List.replicate 21 C).flatten none (some 21)))+((1+å PP)+((1+å fy)+0)))<=990;lia
  have la:(its++[V.ref q8,.ref q9]).length=9:=by rw[ý,li];rfl
  have oB:okT (.tuple [.tuple C,.tuple PP,.tuple fy])=true:=by show(decide (3<=80)&&((decide (C.length<=80)&&jb C)&&((decide (PP.length<=80)&&jb PP)&&((decide (fy.length<=80)&&jb fy)&&true))))=true;rw[è nC,è nP,è nS,oC,oP,oS];rfl
  have zB:sz (.tuple [.tuple C,.tuple PP,.tuple fy])<=95:=by show 1+å [PyData.tuple C,.tuple PP,.tuple fy]<=95;lia
  generalize its++[V.ref q8,.ref q9]=AE at la gw⊢;generalize PyData.tuple [.tuple C,.tuple PP,.tuple fy]=d0 at gw oB zB;refine K33.gen_ts (λHx=>Wk T0 st bk ac ap af lo K33.qnT xc AE d0 H Hx) gw λH18 wk=>?_;clear gw vt mA mL mM fE e8 e9 e12 e15 tD gU gD zD tC tP tS gC gP gS oC oP oS zC zP zS nC nP nS;refine⟨8,rfl,by decide,by decide,?_⟩;refine eV (lo:=0) (λj σ Hc=>Xe4 λx1 x5 x6 x7=>Xa2 (σ=[some (.ref a),x1,some (.ref st),some (.ref bk),some (.ref lo),x5,x6,x7]) (Wk T0 st bk ac ap af lo K33.qnT xc AE d0 H Hc)) ?_ ?_ ?_;.exact⟨_,_,_,_,rfl,wk⟩
  .clear wk;rintro j σ H1 hj⟨x1,x5,x6,x7,rfl,wk⟩;refine aJ ?_;refine K33.rd_E λDe sN=>?_;refine aC (aR ?_);refine⟨_,rfl,_,rfl,st,9,rfl,wk.sa,by decide,by decide,λr a1 b1 e1 r0 WI h1 h2 h3=>?_⟩;have vw:=wk.dr ((Dr.refl wk.sa).draw (c:=e1) h1 h2 h3);obtain⟨u,hu,mu⟩:=Hv (xs:=AE) r0 (by rw[la];exact WI);refine⟨lo,AE,r,u,rfl,rfl,Ï.of vw.el,hu,?_⟩;refine aJ ?_;dsimp only;refine K33.gen_ts (λH2=>Wk T0 st bk ac ap af lo K33.qnT xc AE d0 H H2) vw λH2 vw=>?_;clear wk;obtain⟨d1,t1,WJ⟩:=vw.it u mu;refine iz λcont Fh=>?_;have rest:∀v d H3,Wk T0 st bk ac ap af lo K33.qnT xc AE d0 H H3->É (SS st) H3 v d->Gd 990 d->cont [some (.ref a),x1,some (.ref st),some (.ref bk),some (.ref lo),some (.int (0+j)),some v,x7] H3:=by
    intro v d H3 mP t3 WK;obtain⟨md,ld,zd⟩:=WK;refine Fh _ _ ?_;refine aC (aR ?_);refine⟨_,rfl,bk,_,0,.ref ac,rfl,rfl,Ì.of mP.eb,rfl,ac,xc,rfl,.inr (Ì.of mP.ec),_,_,rfl,rfl,_,rfl,bk,_,0,.ref ac,rfl,rfl,Ì.of mP.eb,rfl,ac,xc,rfl,.inr (Ì.of mP.ec),1,rfl,zL,λL hL=>?_⟩;have sL:=Á.upd (o:=.lst [.int 0,.int (xc.length-1),.int xc.length,.int (-1),.non,.bl true,.str "0",.int 20]) hL;have Fm:=mP.same sL;have nL:L≠st:=(Dr.refl mP.sa).ne hL;refine⟨_,rfl,st,8,rfl,Fm.sa,by decide,by decide,λr5 a5 b5 e5 k0 RM h4 h5 h6=>?_⟩;have g5:=(Dr.refl Fm.sa).draw (c:=e5) h4 h5 h6;have HL:=Fm.dr g5;have t5:=g5.thS Fm.sa (t3.same sL);obtain⟨un,Ap,RN⟩:=Hv (xs:=[V.int 0,.int (xc.length-1),.int xc.length,.int (-1),.non,.bl true,.str "0",.int 20]) k0 RM;refine⟨L,_,r5,un,rfl,rfl,Ï.of (by rw[aA nL];exact aa),Ap,?_⟩;have sc:Sc un:=by
     simp only[List.mem_cons,List.not_mem_nil,or_false]at RN;rcases RN with rfl|rfl|rfl|rfl|rfl|rfl|rfl|rfl;.exact Sc.int Ò
     .exact Sc.int À
     .exact Sc.int À
     .exact Sc.int Ù
     .exact Sc.non
     .exact Sc.bl true
     .exact Sc.str
     .exact Sc.int Ò
    obtain⟨nd,tn,mn,zn⟩:=sc;refine aJ ?_;dsimp only;refine K33.gen_ts (λH5=>Wk T0 st bk ac ap af lo K33.qnT xc AE d0 H H5/\É (SS st) H5 v d) ⟨HL,t5⟩ λH5=>?_;rintro⟨HL,t5⟩;clear mP Fm t3;refine⟨_,rfl,_,rfl,SS st,v,d,un,nd,rfl,λz=>z.2 rfl,t5,tn _ _,?_,?_,ld,HL.tb,λH' k' t'=>⟨true,rfl,?_⟩⟩;.show(ã d&&(ã nd&&true))=true;rw[md,mn];rfl
    .show 1+(sz d+(sz nd+0))<=1000;lia
    .refine aZ ?_;refine sN _ _ ?_;exact⟨_,_,_,_,rfl,HL.right k' t'⟩
   refine⟨_,rfl,st,3,rfl,vw.sa,by decide,by decide,λr3 a3 b3 e3 k0 RM h4 h5 h6=>⟨rfl,_,rfl,?_⟩⟩;have g3:=(Dr.refl vw.sa).draw (c:=e3) h4 h5 h6;have mP:=vw.dr g3;have t3:=g3.thS vw.sa t1;refine DR (λ_=>?_) (λ_=>bN (rest u d1 _ mP t3 WJ));refine⟨_,rfl,_,rfl,st,_,d0,rfl,mP.sa,mP.th,oB,λv d H4 g4 b4 t4=>?_⟩;exact aJ (rest v d H4 (mP.dr g4) t4 ⟨b4.1,b4.2.1,by have h:sz d<=2*(4*sz d0)+2*sz d0+20+4:=b4.2.2;lia⟩)
  .rintro σ Hc⟨x1,x5,x6,x7,rfl,wk⟩;refine sN _ _ ?_;exact⟨_,_,_,_,_,_,_,rfl,λb o n e=>wk.kp b o n (aD e WE) e,wk.tb⟩
 .rintro σ Hc⟨x1,x2,x3,x4,x5,x6,x7,rfl,k1,AD⟩;exact q _
end
end K33P
structure PySem.W.Fast:Prop where(tw17992522663333269536 tw5671199729343927328 tw13704159428182724640 tw9684121515173810304 tw16713097654840648832 tw8768805329655558336 tw10774344144810309920 tw3537456029683080512 tw11237782831773368736 tw5418593572784949792 tw628936629193363008 tw1023855184365388416 tw6476181547711538816 tw5904383444586739456 tw18009019231685405440 tw5798447452167786561 tw1531513418446482529 tw9870927575288942721 tw13550724808609787073 tw8168816660955712769 tw11773489796865328417 tw71723409991530817 tw4789583925774511457 tw9316752616989390177 tw11229722365504653697 tw16997470310018544001 tw6872577864106743265 tw15327049497606476257 tw1540575682316356097 tw8252773590102464033 tw11553553593902348929 tw117881919215424193 tw4279246628111492865 tw13756978022491035393 tw13530763888973026113 tw10683089344353310529 tw8047122681043340097 tw3517846704278164321 tw12791564915763473281 tw9682037770420271106 tw13474863474336744450 tw15793980403628538882 tw5090390359360337954 tw14546621028803900546 tw8032252009461263554 tw15190472990616956130 tw18108311915397553442 tw3855371864747323714 tw15318748472223117666 tw3935700181959260738 tw18123206465864005186 tw10751406916411724386 tw458883642442634914 tw1355461507394861730 tw15370915156633351138 tw9836272904241351683 tw9319541756446465123 tw10791440120441437347 tw16835081843852516579 tw4925647742557188355 tw10893882159245740419 tw15743258060280680835 tw5588709269388901955 tw9720363974813379203 tw7784706596827120291 tw1128209630145009443 tw823229695149725635 tw15318347867560449028 tw6662702941388369924 tw13746524447578993796 tw2301580401170206884 tw11078671975367735876 tw7534469238256430948 tw3975170925278900100 tw3203962072827032484 tw13621904749398025156 tw6822923240863200196 tw3892910348160310244 tw14906236455560354021 tw11347649747225135397 tw3437095283803165029 tw6718900715548538245 tw5831247592475052517 tw7047865165788442149 tw9529876593365742117 tw18412211619890029125 tw12002471105375787653 tw4229276548239947397 tw13974669507054505637 tw5362045177406423749 tw15497462945701755717 tw7558419453888574309 tw1495705352551533574 tw11562498367721979910 tw8929259037772106790 tw16572335695883594790 tw17859000182176826438 tw12158546531335825510 tw5045800447381924998 tw6002120264027119910 tw4370262476667627878 tw13347985465607337318 tw8507252486111202982 tw803675280908037830 tw11078249096774714118 tw3056885803541790566 tw15123546704351276199 tw12430203117323061447 tw12757578103894977767 tw12562787938652001575 tw10244568510811452711 tw3370619119372821831 tw17018770521890753095 tw7509196038443622055 tw14210052533949849319 tw7200605055684162311 tw7490534002449434375 tw17060212911006063431 tw2232651332994314055 tw6362450359184869255 tw3910611525021820839 tw8272446514015253479 tw1612126104887446503 tw15084171067189447655 tw10250182153024788520 tw6706692560576166152 tw12122567701533556104 tw12786536191879207368 tw6358582868160217576 tw15127722836207853064 tw10818479672196184648 tw13383534958449471144 tw13812766279745797800 tw3641316727357300552 tw12506428282068093832 tw2219128024830376936 tw11310264765296799753 tw9606621270909943849 tw16183916237428097065 tw17675545837534566473 tw10802009326215911497 tw8108579798284261513 tw15956654244952244457 tw13360595583593362697 tw3935276234739259753 tw14668028077444443017 tw3512752750976586826 tw198590783869573322 tw8903862880008350922 tw5571123755935302890 tw4480892256339308874 tw18435671127377887690 tw6057127099703139914 tw599417603412271722 tw849976338441073322 tw2182705551770539882 tw8463244789331226602 tw16620904775047657579 tw11874637413744327915 tw16153141672868856171 tw3696822222300706155 tw11919362131085972139 tw1583085398438189803 tw8438550466683920107 tw6205074353819699979 tw186871933537751883 tw13073249786203485003 tw8659879889895203691 tw3700515410352390091 tw8230628837815925868 tw6732410508176915660 tw17330337821312435628 tw18019969985420510860 tw2416627405033924460 tw4251179720767321036 tw5448038845504899052 tw16366117088112116749 tw15142356208198431981 tw17631857749271001357 tw5338208609138663725 tw18305972741286159053 tw9854295326531100397 tw2599591683591906125 tw11331255589316423629 tw15015558619771334926 tw4398744281832141102 tw14012773730405453166 tw11641543426818060686 tw9847402800035288494 tw6097293349796312590 tw9525846503056192174 tw7262539390626612910 tw12676442192436746958 tw9635742231136691279 tw1047352568201518191 tw4746781137251355759 tw10251653048883258639 tw3270870258264043823 tw8366896793226034543 tw14232541025785103727 tw12594872383058238927 tw8436220675170816559 tw17016400243384832623 tw2344035116862224047 tw12706324510019705615 tw10504849049793145711 tw11519393342523491279 tw12067834330328196079 tw3963259395085847568 tw9395164854662716496 tw14124177201068000400 tw15466824287054428432 tw14206236303989557584 tw5115615791791189328 tw1360082509648174480 tw1858423797029215313 tw4165290874283899025 tw13567734138181953713 tw8866209582794506481 tw6338265593967659281 tw10878119215779889489 tw6827836766454094193 tw8820427459499793777 tw11057560296215477873 tw12433113970413174385 tw13192674380793719441 tw14979172894075762353 tw13040570869411954449 tw5432508403000909617 tw1582986062750704497 tw4558521990528629713 tw4763370411066042418 tw9171913593976768562 tw8735689463341516882 tw10826210969748084914 tw6488751764972575954 tw3887283999960459634 tw5712775113289486738 tw13974413946861939122 tw139416688337692082 tw11228114992108946866 tw7750590803918666194 tw3234281804089943538 tw10379765129553347122 tw4665206271894492722 tw13124353890671380178 tw4062009667388137170 tw4952788914575541010 tw1993023827184821010 tw2799474290367329042 tw1387494434254693266 tw16158422719603845074 tw260476195121973331 tw11410192105047909619 tw15421021627512688947 tw3775127209951652211 tw7708878010879453683 tw1502320954107158099 tw11573585703158546035 tw15817017302381218515 tw16693512196889634611 tw6680671236390695092 tw3254391299157530964 tw15832859028974990740 tw14775190776070709652 tw11237459401253932468 tw656067627271204308 tw15406685353795823220 tw12114943753757712052 tw12046669127863595700 tw10017076386934528788 tw8449500110072230997 tw8994344833049172341 tw5760513549141467541 tw2234852379177507317 tw5828309416758427381 tw1304086494132296437 tw9095144860210789141 tw7149613249570299765 tw5762202076365336533 tw5965739736929918998 tw1443775012564170774 tw2503233293300673910 tw4023195606988040598 tw17734968671755056598 tw3862383403100450262 tw17782579431954878038 tw17826105928980907670 tw15754794279048379062 tw15391643815355891510 tw3241944757472227158 tw7974903437803148150 tw14164826519223672822 tw15097139681298870455 tw18035333545276162423 tw13791062898010220119 tw15322716974643028599 tw11705946275661617943 tw9479959373305089911 tw1681468072603661175 tw4712157322255807351 tw11689939019946596408 tw5868606643519783000 tw11450967443490616408 tw17179807593618948312 tw6076606002578155736 tw9733678034132430072 tw1151706685756302680 tw1255913626282910040 tw14500728702367861112 tw15339260382755866040 tw4011148802997524952 tw753010355316286040 tw10184618669053414168 tw2888121303305336600 tw143132399727924120 tw16832385944516606968 tw13323494308335457272 tw4046920083448247385 tw15235853481958113401 tw13586154047427851481 tw16666903972759295257 tw4065532578918452665 tw7853248804675392089 tw11645704766100328057 tw4150959492081814169 tw697151228685434649 tw9378172485752797081 tw10811987906298163290 tw16507448148381557082 tw14127029929490565530 tw13781548963194133946 tw2113343753714140666 tw7249009534498355802 tw206115031654896410 tw2315307709523290938 tw4166687304318032955 tw1615134501591473371 tw1393339846929363227 tw8298908121491900827 tw5856967984559997403 tw8003572130235537883 tw10917146525626113627 tw14969983294544303963 tw8032539029253835675 tw9161694919867593659 tw4344447168469268443 tw7541247113622755291 tw16733503486150605884 tw7290851923977238652 tw2831500239208101084 tw13229197637097465084 tw9980104197266349308 tw3677343231511444860 tw6117714050248796540 tw7184081279768090012 tw12785707073266376092 tw4672576916842317308 tw2782131973683844636 tw13486069221959332668 tw5858979201217090460 tw7278150765279577020 tw3357318018589619261 tw8458967196857539677 tw17877423281365456381 tw9006968825736164957 tw15163139057605340893 tw15033276861410708221 tw3682688734438422429 tw15975781759745892382 tw16134554090680166526 tw8830158614064497822 tw7131169908200072382 tw9639201019484810462 tw7582898733269686622 tw14276027340236798302 tw2483922718168024478 tw6720907565102038558 tw14162993732376100414 tw9603587191457247998 tw18098408778319340607 tw12929863579616871519 tw10713270790617089151 tw12540964447638352191 tw18272924508506680767 tw3482949763088880191 tw8100903541639533119 tw6514767935905031743 tw17341174091451825759 tw6090185096225290879 tw5127344379624617695 tw16720773675081735935 tw12099432070081688479 tw2567898781150076611:True)
namespace K33
open PySem L2
theorem elZ{C:â->Prop}(h:C []):∀us:â,us.length=0->C us:=by intro us e;cases us with|nil=>exact h;|cons _ _=>cases e
theorem Ο{C:â->Prop}(h:∀a,∀us:â,us.length=n->C (a::us)):∀us:â,us.length=n+1->C us:=by intro us e;cases us with|nil=>cases e;|cons a r=>exact h a r (Nat.succ.inj e)
theorem ŉ{C:â->Prop}(h:∀a0:Value,C [a0]):∀us:â,us.length=1->C us:=Ο (λa0=>elZ (h a0))
theorem Ş{C:â->Prop}(h:∀a0 a1:Value,C [a0,a1]):∀us:â,us.length=2->C us:=Ο (λa0=>Ο (λa1=>elZ (h a0 a1)))
theorem Ϡ{C:â->Prop}(h:∀a0 a1 a2:Value,C [a0,a1,a2]):∀us:â,us.length=3->C us:=Ο (λa0=>Ο (λa1=>Ο (λa2=>elZ (h a0 a1 a2))))
theorem el4{C:â->Prop}(h:∀a0 a1 a2 a3:Value,C [a0,a1,a2,a3]):∀us:â,us.length=4->C us:=Ο (λa0=>Ο (λa1=>Ο (λa2=>Ο (λa3=>elZ (h a0 a1 a2 a3)))))
theorem el5{C:â->Prop}(h:∀a0 a1 a2 a3 a4:Value,C [a0,a1,a2,a3,a4]):∀us:â,us.length=5->C us:=Ο (λa0=>Ο (λa1=>Ο (λa2=>Ο (λa3=>Ο (λa4=>elZ (h a0 a1 a2 a3 a4))))))
def ì(K:Frag)(x:Str)(st:Stmt):Prop:=∃(f:Addr)(od an:Option Addr)(sl:Array (Φ))(oc kV dc pm cd ct:Value),PySem.W.nsIn K mainGlobals x=some (some (.ref f))/\K.lookup f=some ⟨oc,od,.func (PySem.W.fnOf x x (gJ st) (cC st) (az st) .none kV dc pm an cd ct),sl⟩/\PySem.W.codeIn K cd x=true/\PySem.W.keepIn K (.ref f)=true
theorem has_mk{oc kV dc pm cd ct:Value}(a:PySem.W.nsIn K mainGlobals x=some (some (.ref f)))(l:K.lookup f=some ⟨oc,od,.func (PySem.W.fnOf x x (gJ st) (cC st) (az st) .none kV dc pm an cd ct),sl⟩)(c:PySem.W.codeIn K cd x=true)(k:PySem.W.keepIn K (.ref f)=true):ì K x st:=⟨f,od,an,sl,oc,kV,dc,pm,cd,ct,a,l,c,k⟩
theorem ì.get(H:ì K x st)(X:K.In h)(G:h.Ns mainGlobals mg):∃f fd,ß K x x st f fd/\mg x=some (.ref f):=by obtain⟨f,od,an,sl,oc,kV,dc,pm,cd,ct,a,l,c,k⟩:=H;exact⟨f,_,DQ (st:=st) l c k,PySem.W.mg_of X G a⟩
abbrev Bd(x:Str)(st:Stmt)(ps:ó)(us:â):Prop:=∀(kV doc pm:Value)(an:Option Addr)(cdv ct:Value),bindArgs (PySem.W.fnOf x x (gJ st) (cC st) (az st) .none kV doc pm an cdv ct) ⟨us,[]⟩=pure (ps.zip us)
theorem ì.g(H:ì K x st)(X:K.In h)(G:h.Ns mainGlobals mg)(ps:ó)(hb:∀us:â,us.length=ps.length->Bd x st ps us):∃f fd,ß K x x st f fd/\mg x=some (.ref f)/\ò K fd ps []:=by obtain⟨f,fd,F,m⟩:=H.get X G;exact⟨f,fd,F,m,F.binds λa b c d e g us l=>hb us l a b c d e g⟩
theorem aV(P:Program)(w:World)(base:Heap)(F:Ê P w K mg base Þ k f fd ps sp)(m:mg x=some (.ref f))(kp:PySem.W.keepIn K (.ref f)=true)(b:ò K fd ps []):á P w K mg base k x ps sp:=⟨f,fd,F,m,kp,b⟩
theorem jq(F:Ê P w K mg base (ĳ P w) k f fd ps sp)(m:mg x=some (.ref f))(kp:PySem.W.keepIn K (.ref f)=true)(b:ò K fd ps []):pF P w K mg base k x ps sp:=⟨f,fd,F,m,kp,b⟩
theorem JP(F:Ś P w K mg base Þ k f fd ps sp)(m:mg x=some (.ref f))(kp:PySem.W.keepIn K (.ref f)=true)(b:ò K fd ps []):Jt P w K mg base k x ps sp:=⟨f,fd,F,m,kp,b⟩
theorem JQ(X:K.In h)(G:h.Ns mainGlobals mg)(F:ß K x qual st f fd)(m:mg x=some (.ref f))(t:PySem.W.tabIn K x=some (c,T)):fd.code=.ref c:=by obtain⟨oc,od,kV,doc,pm,an,cdv,ct,lT,rfl,lk,_⟩:=F.ex;exact PySem.W.law_code X G t m (X _ _ lk) rfl
theorem ì.g1(H:ì K x st)(X:K.In h)(G:h.Ns mainGlobals mg)(a0:Str)(hb:∀u0,Bd x st [a0] [u0]:=by exact λ_ _ _ _ _ _ _=>rfl):∃f fd,ß K x x st f fd/\mg x=some (.ref f)/\ò K fd [a0] []:=H.g X G [a0] (ŉ hb)
theorem ì.g2(H:ì K x st)(X:K.In h)(G:h.Ns mainGlobals mg)(a0 a1:Str)(hb:∀u0 u1,Bd x st [a0,a1] [u0,u1]:=by exact λ_ _ _ _ _ _ _ _=>rfl):∃f fd,ß K x x st f fd/\mg x=some (.ref f)/\ò K fd [a0,a1] []:=H.g X G [a0,a1] (Ş hb)
theorem ì.g3(H:ì K x st)(X:K.In h)(G:h.Ns mainGlobals mg)(a0 a1 a2:Str)(hb:∀u0 u1 u2,Bd x st [a0,a1,a2] [u0,u1,u2]:=by exact λ_ _ _ _ _ _ _ _ _=>rfl):∃f fd,ß K x x st f fd/\mg x=some (.ref f)/\ò K fd [a0,a1,a2] []:=H.g X G [a0,a1,a2] (Ϡ hb)
theorem ì.g4(H:ì K x st)(X:K.In h)(G:h.Ns mainGlobals mg)(a0 a1 a2 a3:Str)(hb:∀u0 u1 u2 u3,Bd x st [a0,a1,a2,a3] [u0,u1,u2,u3]:=by exact λ_ _ _ _ _ _ _ _ _ _=>rfl):∃f fd,ß K x x st f fd/\mg x=some (.ref f)/\ò K fd [a0,a1,a2,a3] []:=H.g X G [a0,a1,a2,a3] (el4 hb)
theorem ì.g5(H:ì K x st)(X:K.In h)(G:h.Ns mainGlobals mg)(a0 a1 a2 a3 a4:Str)(hb:∀u0 u1 u2 u3 u4,Bd x st [a0,a1,a2,a3,a4] [u0,u1,u2,u3,u4]:=by exact λ_ _ _ _ _ _ _ _ _ _ _=>rfl):∃f fd,ß K x x st f fd/\mg x=some (.ref f)/\ò K fd [a0,a1,a2,a3,a4] []:=H.g X G [a0,a1,a2,a3,a4] (el5 hb)
theorem all_mk{l:PySem.W.OpenLaw}(X:K.In h)(G:h.Ns mainGlobals mg)(WO:mg "law"=some (.ref fa))(h20:ì K "is_whole" (top 20))(h21:ì K "is_whole_from" (top 21))(h22:ì K "is_tuple_of" (top 22))(h23:ì K "are_wholes" (top 23))(h34:ì K "is_clip" (top 34))(h35:ì K "are_clips" (top 35))(h36:ì K "is_promise" (top 36))(h37:ì K "are_promises" (top 37))(h38:ì K "are_sales" (top 38))(h39:ì K "held_in" (top 39))(h40:ì K "is_sale_between" (top 40))(h41:ì K "sale_holds" (top 41))(h42:ì K "first_unheld" (top 42))(h43:ì K "is_book" (top 43))(h44:ì K "refuse_no_book" (top 44))(h48:ì K "are_weights" (top 48))(h49:ì K "refuse_unpartable" (top 49))(h50:ì K "places_by_rest" (top 50))(h51:ì K "parts_of" (top 51))(h52:ì K "parted" (top 52))(h54:ì K "sacks_of" (top 54))(h55:ì K "claims_in" (top 55))(h56:ì K "shares_of" (top 56))(h57:ì K "made_good" (top 57))(h58:ì K "sort_given" (top 58))(h59:ì K "year_given" (top 59))(h60:ì K "years_given" (top 60))(h61:ì K "refuse_no_year_of" (top 61))(h62:ì K "refuse_no_year" (top 62))(h64:ì K "owed_behind" (top 64))(h65:ì K "by_holder" (top 65))(h66:ì K "claims_to" (top 66))(h67:ì K "owed_by" (top 67))(h68:ì K "sums_by" (top 68))(h69:ì K "pence_owed" (top 69))(h70:ì K "paid_before" (top 70))(h72:ì K "_law_cell_at" (top 72))(h73:ì K "_law_state" (top 73))(h74:ì K Ϥ (top 74))(h79:ì K "_law_rows" (top 79))(h80:ì K "_law_clips" (top 80))(h81:ì K "_law_promise" (top 81))(h82:ì K "_law_sale" (top 82))(h83:ì K "_law_book" (top 83))(h76:ì K ABb (top 76))(h77:ì K AAq (top 77))(h85:ì K AAz (top 85))(h86:ì K AAn (top 86))(h87:ì K ABd (top 87))(h88:ì K "_law_are" (top 88))(h89:ì K "_law_is_book" (top 89))(h90:ì K Ϲ (top 90))(aL:PySem.W.nsIn K mainGlobals "law"=some (some (.ref fL)))(lL:K.lookup fL=some ⟨WN,WL,.func (PySem.W.fnOf "law" "law" (gJ (top 91)) (cC (top 91)) (az (top 91)) .none RP RQ AO RO NO RS),WM⟩)(cL:PySem.W.codeIn K NO "law"=true)(kL:PySem.W.keepIn K (.ref fL)=true)(n0:PySem.W.nsIn K mainGlobals "SORTS"=some (some (.int 3 t0)))(n1:PySem.W.nsIn K mainGlobals "HOLDERS"=some (some (.int 8 t1)))(n2:PySem.W.nsIn K mainGlobals "LAST_YEAR"=some (some (.int 19 t2)))(n3:PySem.W.nsIn K mainGlobals "MOST_CLIPS"=some (some (.int 20 t3)))(n4:PySem.W.nsIn K mainGlobals "MOST_PROMISES"=some (some (.int 10 t4)))(n5:PySem.W.nsIn K mainGlobals "MOST_WOOL"=some (some (.int 999 t5)))(n6:PySem.W.nsIn K mainGlobals "MOST_SACKS"=some (some (.int 99 t6)))(n7:PySem.W.nsIn K mainGlobals "MOST_PRICE"=some (some (.int 1000000 t7)))(n8:PySem.W.nsIn K mainGlobals "MOST_SALES"=some (some (.int 12 t8)))(n9:PySem.W.nsIn K mainGlobals "MOST_WEIGHTS"=some (some (.int 80 t9)))(n10:PySem.W.nsIn K mainGlobals "MOST_WEIGHT"=some (some (.int 99 RT)))(cx:PySem.W.nsIn K mainGlobals "isinstance"=some none)(vx:PySem.W.nsIn K mainGlobals "int"=some none)(pV:PySem.W.nsIn K mainGlobals "bool"=some none)(kH:PySem.W.nsIn K mainGlobals "tuple"=some none)(qa:PySem.W.nsIn K mainGlobals "len"=some none)(vE:PySem.W.nsIn K mainGlobals "all"=some none)(aE:PySem.W.nsIn K mainGlobals "range"=some none)(gp:PySem.W.nsIn K mainGlobals "list"=some none)(kK:PySem.W.nsIn K mainGlobals "max"=some none)(kM:PySem.W.nsIn K mainGlobals "min"=some none)(qf:PySem.W.nsIn K mainGlobals "zip"=some none)(aI:PySem.W.nsIn K mainGlobals "enumerate"=some none)(hV:PySem.W.nsIn K mainGlobals "sorted"=some none)(hX:PySem.W.nsIn K mainGlobals "sum"=some none)(AF:PySem.W.nsIn K mainGlobals "repr"=some none)(AG:PySem.W.nsIn K mainGlobals "dict"=some none)(hZ:PySem.W.nsIn K mainGlobals "str"=some none)(gu:PySem.W.nsIn K mainGlobals "ValueError"=some none)(k0:PySem.W.nsIn K mainGlobals "NoClips"=some (some (.ref C0)))(k1:PySem.W.nsIn K mainGlobals "NoPromises"=some (some (.ref C1)))(k2:PySem.W.nsIn K mainGlobals "NoSales"=some (some (.ref C2)))(k3:PySem.W.nsIn K mainGlobals "NoBook"=some (some (.ref C3)))(k4:PySem.W.nsIn K mainGlobals "NoNumber"=some (some (.ref C4)))(k5:PySem.W.nsIn K mainGlobals "NoYear"=some (some (.ref C5)))(k6:PySem.W.nsIn K mainGlobals "NoWeights"=some (some (.ref C6)))(k7:PySem.W.nsIn K mainGlobals "NoPaper"=some (some (.ref C7)))(k8:PySem.W.nsIn K mainGlobals "NoGrowth"=some (some (.ref C8)))(k9:PySem.W.nsIn K mainGlobals "NoPromise"=some (some (.ref C9)))(k10:PySem.W.nsIn K mainGlobals "NoSort"=some (some (.ref Bn)))(k11:PySem.W.nsIn K mainGlobals "NoClip"=some (some (.ref Bz)))(k12:PySem.W.nsIn K mainGlobals "NoSale"=some (some (.ref BB)))(k13:PySem.W.nsIn K mainGlobals "NoDeed"=some (some (.ref BD)))(k14:PySem.W.nsIn K mainGlobals "NoText"=some (some (.ref BF)))(k15:PySem.W.nsIn K mainGlobals "NoLine"=some (some (.ref BG)))(k16:PySem.W.nsIn K mainGlobals "TooMany"=some (some (.ref BH)))(k17:PySem.W.nsIn K mainGlobals "WoolError"=some (some (.ref BI)))(e3:PySem.W.excIn K C3 VE "ValueError.__new__"=true)(d3:Jv K [C0,C1,C2,C3,C4,C5,C6,C7,C8,C9,Bn,Bz,BB,BD,BF,BG,BH,BI] 3=true)(e5:PySem.W.excIn K C5 VE "ValueError.__new__"=true)(d5:Jv K [C0,C1,C2,C3,C4,C5,C6,C7,C8,C9,Bn,Bz,BB,BD,BF,BG,BH,BI] 5=true)(tb:PySem.W.tabIn K Ϲ=some (cT,T0)):∃fd:FuncData,(∀(s:Shared)(v:Value),BindsTo s fd ⟨[v],[]⟩ [(ũ,v)])/\∀base:Heap,K.In base->base.Ns mainGlobals mg->PySem.W.CodeHd base cT T0->base.BuiltinsAt mg T0->Ê l.prog w K mg base Þ 63 fa fd [ũ] (spLaw K T0):=by have e:=WO.symm.trans (PySem.W.mg_of X G aL);cases e;have FL:=DQ (st:=top 91) lL cL kL;obtain⟨f20,WQ,RU,WR,WS⟩:=h20.g1 X G "thing";obtain⟨f21,WT,RV,WU,WV⟩:=h21.g3 X G "thing" "least" "most";obtain⟨f22,WW,RW,WX,WY⟩:=h22.g3 X G "thing" "fewest" "most";obtain⟨f23,WZ,RX,W0,W2⟩:=h23.g2 X G "thing" "many";obtain⟨f34,W3,RY,W4,W5⟩:=h34.g1 X G "thing";obtain⟨f35,W6,RZ,W7,W8⟩:=h35.g1 X G "thing";obtain⟨f36,W9,R0,Xa,Xb⟩:=h36.g1 X G "thing";obtain⟨f37,Xc,R1,Xd,Xe⟩:=h37.g1 X G "thing";obtain⟨f38,Xf,R3,Xg,Xh⟩:=h38.g1 X G "thing";obtain⟨f39,Xi,R4,Xj,Xk⟩:=h39.g4 X G "promises" "sales" "number" "year";obtain⟨f40,Xl,R5,Xm,Xn⟩:=h40.g2 X G "promises" "sale";obtain⟨f41,Xo,R6,Xp,Xq⟩:=h41.g3 X G "promises" "ahead" "sale";obtain⟨f42,Xr,R7,Xs,Xt⟩:=h42.g2 X G "promises" "sales";obtain⟨f43,Xu,R8,Xv,Xw⟩:=h43.g1 X G "thing";obtain⟨f44,Xx,HM,R9,Sa⟩:=h44.g1 X G "thing";obtain⟨f48,Xy,Sb,Xz,XA⟩:=h48.g1 X G "thing";obtain⟨f49,XC,Sd,XD,XE⟩:=h49.g2 X G "sacks" "weights";obtain⟨f50,XF,Se,XG,XH⟩:=h50.g1 X G "rests";obtain⟨f51,XI,Sf,XJ,XM⟩:=h51.g2 X G "sacks" "weights";obtain⟨f52,XN,Sg,XO,XQ⟩:=h52.g2 X G "sacks" "weights";obtain⟨f54,XR,Sh,XS,XT⟩:=h54.g1 X G "rows";obtain⟨f55,XU,Si,XW,XX⟩:=h55.g4 X G "promises" "sales" "sort" "year";obtain⟨f56,XY,Sj,XZ,X0⟩:=h56.g2 X G "wool" "claims";obtain⟨f57,X1,Sk,X2,X3⟩:=h57.g2 X G "wool" "owed";obtain⟨f58,X4,Sl,X5,X6⟩:=h58.g3 X G "wool" "claims" "owed";obtain⟨f59,X7,Sn,X8,X9⟩:=h59.g3 X G "book" "year" "owed";obtain⟨f60,Ya,So,Yb,Yc⟩:=h60.g2 X G "book" "year";obtain⟨f61,Yd,HP,Sr,Ss⟩:=h61.g2 X G "clips" "year";obtain⟨f62,Ye,HU,Su,Sv⟩:=h62.g2 X G "book" "year";obtain⟨f64,Yf,Sw,Yg,Yh⟩:=h64.g2 X G "book" "year";obtain⟨f65,Yi,Sx,Yj,Yk⟩:=h65.g1 X G "rows";obtain⟨f66,Yl,Sy,Ym,Yn⟩:=h66.g2 X G "book" "year";obtain⟨f67,Yo,NS,Yp,Yq⟩:=h67.g2 X G "book" "year";obtain⟨f68,Ys,NU,Yt,Yu⟩:=h68.g2 X G "book" "year";obtain⟨f69,Yv,NV,Yw,Yx⟩:=h69.g2 X G "book" "year";obtain⟨f70,Yy,NW,Yz,YA⟩:=h70.g1 X G "book";obtain⟨f72,YB,Sz,YC,YD⟩:=h72.g2 X G ũ ϸ;obtain⟨f73,YE,SA,YF,YG⟩:=h73.g2 X G ũ ϸ;obtain⟨f74,YH,SD,YI,YJ⟩:=h74.g2 X G ø ύ;obtain⟨f79,YK,SE,YL,YM⟩:=h79.g2 X G ϥ AAu;obtain⟨f80,YN,SF,YO,YQ⟩:=h80.g2 X G ø Ψ;obtain⟨f81,YR,SI,YS,YT⟩:=h81.g2 X G ø Ϻ;obtain⟨f82,YU,SJ,YV,YW⟩:=h82.g2 X G ø ϥ;obtain⟨f83,YX,SK,YY,YZ⟩:=h83.g3 X G ø Ϻ Ψ;obtain⟨f76,Y0,SM,Y1,Y2⟩:=h76.g1 X G Ϸ;obtain⟨f77,Y3,SN,Y4,Y5⟩:=h77.g1 X G AAm;obtain⟨f85,Y6,SO,Y7,Y8⟩:=h85.g2 X G ø AAy;obtain⟨Y9,NY,qh,BM,BN⟩:=h86.g3 X G ø ď AAl;obtain⟨f87,Za,SR,Zb,Zc⟩:=h87.g3 X G ď AAv AAr;obtain⟨f88,Zd,SU,Ze,Zf⟩:=h88.g3 X G ď Ψ AAx;obtain⟨f89,Zg,SV,Zh,Zi⟩:=h89.g1 X G ď;obtain⟨f90,Zj,N0,SW,Zk⟩:=h90.g2 X G ď ť;have T:Mg mg:=⟨(ö X G cx),(ö X G vx),(ö X G pV),(ö X G kH),(ö X G qa),(ö X G vE)⟩;have TP:K33P.Mg mg:=⟨(ö X G cx),(ö X G vx),(ö X G pV),(ö X G kH),(ö X G qa),(ö X G vE)⟩;have N:Nums mg:=⟨⟨t0,PySem.W.mg_of X G n0⟩,⟨t1,PySem.W.mg_of X G n1⟩,⟨t2,PySem.W.mg_of X G n2⟩,⟨t3,PySem.W.mg_of X G n3⟩,⟨t4,PySem.W.mg_of X G n4⟩,⟨t5,PySem.W.mg_of X G n5⟩,⟨t6,PySem.W.mg_of X G n6⟩,⟨t7,PySem.W.mg_of X G n7⟩⟩;have NP:K33P.Nums mg:=⟨⟨t9,PySem.W.mg_of X G n9⟩,⟨RT,PySem.W.mg_of X G n10⟩⟩;have N2:MS mg:=⟨⟨t8,PySem.W.mg_of X G n8⟩⟩;refine⟨PySem.W.fnOf "law" "law" (gJ (top 91)) (cC (top 91)) (az (top 91)) .none RP RQ AO RO NO RS,λs v=>.of_eq rfl,λbase kb _ hC hB=>?_⟩;have L:Z02 mg (λi=>[C0,C1,C2,C3,C4,C5,C6,C7,C8,C9,Bn,Bz,BB,BD,BF,BG,BH,BI].getD i 0):=⟨PySem.W.mg_of X G k0,PySem.W.mg_of X G k1,PySem.W.mg_of X G k2,PySem.W.mg_of X G k3,PySem.W.mg_of X G k4,PySem.W.mg_of X G k5,PySem.W.mg_of X G k6,PySem.W.mg_of X G k7,PySem.W.mg_of X G k8,PySem.W.mg_of X G k9,PySem.W.mg_of X G k10,PySem.W.mg_of X G k11,PySem.W.mg_of X G k12,PySem.W.mg_of X G k13,PySem.W.mg_of X G k14,PySem.W.mg_of X G k15,PySem.W.mg_of X G k16,PySem.W.mg_of X G k17⟩;have O3:=Ey (mg:=mg) kb L.n3 e3;have K3:=Kc d3;have O5:=Ey (mg:=mg) kb L.n5 e5;have K5:=Kc d5;have dA:=JQ X G N0 SW tb;have SX:=aV l.prog w base (xG RU T) WR RU.kp WS;have HV:=aV l.prog w base (sE RV SX) WU RV.kp WV;have BO:=aV l.prog w base (qR RW T) WX RW.kp WY;have N1:=aV l.prog w base (rW RX T SX BO) W0 RX.kp W2;have Zl:=aV l.prog w base (yR RY T N N1) W4 RY.kp W5;have Zm:=aV l.prog w base (vd RZ T N Zl BO) W7 RZ.kp W8;have Zn:=aV l.prog w base (rY R0 T N N1) Xa R0.kp Xb;have SY:=aV l.prog w base (pC R1 T N Zn BO) Xd R1.kp Xe;have S0:=aV l.prog w base (vh R3 T N2 N1 BO) Xg R3.kp Xh;have S4:=aV l.prog w base (Jb R4 N) Xj R4.kp Xk;have Zo:=aV l.prog w base (Jc R5 T N) Xm R5.kp Xn;have Zp:=aV l.prog w base (FZ R6 T (ö X G aE) Zo S4) Xp R6.kp Xq;have Zq:=aV l.prog w base (G3 R7 (ö X G aI) SY S0 Zp) Xs R7.kp Xt;have S5:=aV l.prog w base (ok_book R8 BO Zm SY S0 Zq) Xv R8.kp Xw;have S7:=aV l.prog w base (Jm HM S5) R9 HM.kp Sa;have XB:=jq (P:=l.prog) (w:=w) (base:=base) (Hg (Cs:=λi=>[C0,C1,C2,C3,C4,C5,C6,C7,C8,C9,Bn,Bz,BB,BD,BF,BG,BH,BI].getD i 0) HM O3 S5) R9 HM.kp Sa;have Zr:=aV l.prog w base (K33P.ok_are_weights Sb TP NP HV BO) Xz Sb.kp XA;have Zs:=aV l.prog w base (K33P.ok_refuse Sd (ö X G hX) Zr HV) XD Sd.kp XE;have Zt:=aV l.prog w base (K33P.ok_places Se (ö X G aI) (ö X G hV)) XG Se.kp XH;have Zu:=aV l.prog w base (K33P.ok_parts Sf TP (ö X G hX) Zt) XJ Sf.kp XM;have Zv:=aV l.prog w base (K33P.ok_parted Sg Zs Zu) XO Sg.kp XQ;have Zw:=aV l.prog w base (G4 Sh (ö X G hX)) XS Sh.kp XT;have S8:=aV l.prog w base (Dj Si (ö X G aI) S4) XW Si.kp XX;have Zx:=aV l.prog w base (Dh Sj T (ö X G hX) Zv) XZ Sj.kp X0;have Zy:=aV l.prog w base (Jd Sk (ö X G kM)) X2 Sk.kp X3;have Zz:=aV l.prog w base (G7 Sl (ö X G hX) (ö X G gp) (ö X G qf) Zx Zy) X5 Sl.kp X6;have ZA:=aV l.prog w base (Jl Sn T N (ö X G aE) (ö X G hV) S8 Zz Zw) X8 Sn.kp X9;have S9:=aV l.prog w base (Gq So (ö X G aE) ZA) Yb So.kp Yc;have ZC:=aV l.prog w base (Jo HP T HV) Sr HP.kp Ss;have ZD:=jq (P:=l.prog) (w:=w) (base:=base) (Hh (Cs:=λi=>[C0,C1,C2,C3,C4,C5,C6,C7,C8,C9,Bn,Bz,BB,BD,BF,BG,BH,BI].getD i 0) HP T O5 HV) Sr HP.kp Ss;have N3:=aV l.prog w base (Gs HU S7 ZC) Su HU.kp Sv;have N4:=jq (P:=l.prog) (w:=w) (base:=base) (Do HU XB ZD) Su HU.kp Sv;have N9:=aV l.prog w base (Gu Sw S9) Yg Sw.kp Yh;have ZE:=aV l.prog w base (Ms Sx N) Yj Sx.kp Yk;have ZF:=aV l.prog w base (Jz Sy N (ö X G aE) S8) Ym Sy.kp Yn;have ZG:=jq (P:=l.prog) (w:=w) (base:=base) (vH (R:=ug) (λ_ _ _ _ _ _ h _ _ H' s' _ _ _ _=>h _ H' s') (Jq NS N3 N9) (Hk NS N4)) Yp NS.kp Yq;have ZH:=jq (P:=l.prog) (w:=w) (base:=base) (vH (R:=Mu) (λ_ _ _ _ _ _ h _ _ H' s' _ _ _ _ _=>h _ H' s') (JB NU (ö X G gp) (ö X G qf) N3 S9 ZF N9 ZE) (Hl NU N4)) Yt NU.kp Yu;have ZI:=jq (P:=l.prog) (w:=w) (base:=base) (vH (R:=zc) (λ_ _ _ _ _ _ h _ H' s' _ _ _=>h _ H' s') (GX NV N N3 N9) (Dp NV N4)) Yw NV.kp Yx;have ZJ:=jq (P:=l.prog) (w:=w) (base:=base) (Dq (JC NW N S7) (Hm NW XB)) Yz NW.kp YA;have ZK:=aV l.prog w base (K33P.ok_cell Sz TP) YC Sz.kp YD;have ZL:=aV l.prog w base (K33P.ok_state SA (ö X G kK) ZK) YF SA.kp YG;have qk:=aV l.prog w base (K33P.ok_choice SD) YI SD.kp YJ;have Ta:=aV l.prog w base (Jh SE T (ö X G aI) (ö X G aE) (ö X G kM) (ö X G kK)) YL SE.kp YM;have ZM:=aV l.prog w base (K33Q.ok_clips SF TP (ö X G aE) qk) YO SF.kp YQ;have ZN:=aV l.prog w base (K33Q.ok_prom SI (ö X G kM) qk) YS SI.kp YT;have ZO:=aV l.prog w base (K33Q.ok_sale SJ T (ö X G kK) qk) YV SJ.kp YW;have ZQ:=aV l.prog w base (K33Q.ok_book SK TP (ö X G aE) (ö X G qa) qk ZM ZN ZO Ta) YY SK.kp YZ;have ZR:=JP (P:=l.prog) (w:=w) (base:=base) (GD SM T L) Y1 SM.kp Y2;have ZS:=aV l.prog w base (Jx (kk:=13) SN T (ö X G gu) L ZR) Y4 SN.kp Y5;have Fn:=aV l.prog w base (K33P.ok_rowG SO TP (ö X G gp) (ö X G AG) qk) Y7 SO.kp Y8;have B0:=aV l.prog w base (K33P.ok_bent00 (k:=2) (f:=Y9) (fd:=NY)) BM qh.kp BN;have B1:=aV l.prog w base (K33P.ok_bentD (n:=0) (j:=0) qh TP (ö X G hZ) qk Fn B0) BM qh.kp BN;have B2:=aV l.prog w base (K33P.ok_bentD (n:=1) (j:=1) qh TP (ö X G hZ) qk Fn B1) BM qh.kp BN;have B3:=aV l.prog w base (K33P.ok_bentD (n:=2) (j:=2) qh TP (ö X G hZ) qk Fn B2) BM qh.kp BN;have B4:=aV l.prog w base (K33P.ok_bentD (n:=3) (j:=3) qh TP (ö X G hZ) qk Fn B3) BM qh.kp BN;have B5:=aV l.prog w base (K33P.ok_bentD (n:=4) (j:=4) qh TP (ö X G hZ) qk Fn B4) BM qh.kp BN;have Tb:=aV l.prog w base (Ds SR T) Zb SR.kp Zc;have ZU:=aV l.prog w base (Mw SU T (ö X G qf) Tb) Ze SU.kp Zf;have ZV:=aV l.prog w base (My SV T ZU Ta) Zh SV.kp Zi;have ZW:=aV l.prog w base (Hu N0 dA hC hB T (ö X G AF) (λj hj=>by rcases hj with rfl|rfl;exact K3;exact K5) ZS ZG ZH ZI ZJ ZV Tb) SW N0.kp Zk;exact K33P.ok_law FL TP (ö X G aE) (ö X G kK) (ö X G kM) (ö X G gp) ZL ZQ qk B5 ZW
theorem walk{l:PySem.W.OpenLaw}{K:Params->Frag}{c T0:Addr}(hn:l.most=some 63)(rk:d.params.defaults=[])(hY:∀(w:World)(h:Heap),YP w h->(K w.params).In h)(LF:(PyProof.Rows.recsOf q).find? (λe=>e.name==(Ϲ:Str))=some dr)(DM:∀p:Params,PySem.W.tabIn (K p) Ϲ=some (c,T0))(AV:∀p:Params,PySem.W.noTabs (K p)=true)(F:∀(w:World)(mg:Ti)(fa:Addr)(h:Heap),(K w.params).In h->h.Ns mainGlobals mg->mg d.name=some (.ref fa)->∃fd:FuncData,(∀(s:Shared)(u:Value),BindsTo s fd ⟨[u],[]⟩ [(ũ,u)])/\∀base:Heap,(K w.params).In base->base.Ns mainGlobals mg->PySem.W.CodeHd base c T0->base.BuiltinsAt mg T0->Ê l.prog w (K w.params) mg base Þ 63 fa fd [ũ] (spLaw (K w.params) T0)):PySem.W.WalkO q loose XP YP l.row.toRowW d [] (λf vs=>PySem.call f vs):=L2.walk_ofT (n:=63) (k:=63) (x:=ũ) (nm:=Ϲ) (qn:=qnT) (CX:=λ_=>Þ) (sp:=λw=>spLaw (K w.params) T0) hn Ù rk ⟨rfl,by decide,by decide,rfl⟩ hY LF DM AV F (λ_ _ a ns hl hS hT=>⟨a,ns,rfl,hS,hl,hT,λ_=>rfl⟩) λ_ _ _ _ _ z=>z
end K33
open PySem PySem.W PyProof.Rows
set_option maxRecDepth 100000 in
set_option maxHeartbeats 0 in
theorem PySem.Challenge.cw_woolyears_k33_owing_refused_holds : PySem.Challenge.rw_woolyears_k33_owing_refused.Holds := by
 w_on;o_law;k_head;(case hw=>w_witness2);k_fill;refine' K33.walk (l:=PySem.Challenge.rw_woolyears_k33_owing_refused) rfl rfl (λw h Y=>PySem.W.km_in_of Y) ?fd ?tb ?nt ?F;case fd=>exact rfl
 case tb=>intro p;refine' K33.tab_mk ?a ?l ?c ?m ?v;(case a=>k_is);(case l=>k_is);(case c=>exact rfl);(case m=>k_is);(case v=>exact rfl)
 case nt=>intro p;kernel_rfl
 case F=>
  intro w mg fa h KX G hmg;refine' K33.all_mk KX G hmg ?h20 ?h21 ?h22 ?h23 ?h34 ?h35 ?h36 ?h37 ?h38 ?h39 ?h40 ?h41 ?h42 ?h43 ?h44 ?h48 ?h49 ?h50 ?h51 ?h52 ?h54 ?h55 ?h56 ?h57 ?h58 ?h59 ?h60 ?h61 ?h62 ?h64 ?h65 ?h66 ?h67 ?h68 ?h69 ?h70 ?h72 ?h73 ?h74 ?h79 ?h80 ?h81 ?h82 ?h83 ?h76 ?h77 ?h85 ?h86 ?h87 ?h88 ?h89 ?h90 ?aL ?lL ?cL ?kL ?n0 ?n1 ?n2 ?n3 ?n4 ?n5 ?n6 ?n7 ?n8 ?n9 ?n10 ?z0 ?z1 ?z2 ?z3 ?z4 ?z5 ?z6 ?z7 ?z8 ?z9 ?z10 ?z11 ?z12 ?z13 ?z14 ?z15 ?z16 ?z17 ?k0 ?k1 ?k2 ?k3 ?k4 ?k5 ?k6 ?k7 ?k8 ?k9 ?k10 ?k11 ?k12 ?k13 ?k14 ?k15 ?k16 ?k17 ?e3 ?d3 ?e5 ?d5 ?tb;case h20|h21|h22|h23|h34|h35|h36|h37|h38|h39|h40|h41|h42|h43|h44|h48|h49|h50|h51|h52|h54|h55|h56|h57|h58|h59|h60|h61|h62|h64|h65|h66|h67|h68|h69|h70|h72|h73|h74|h79|h80|h81|h82|h83|h76|h77|h85|h86|h87|h88|h89|h90=>refine' K33.has_mk ?a ?l ?c ?k;case a|l|c|k=>k_is
  case aL|lL|cL|kL|n0|n1|n2|n3|n4|n5|n6|n7|n8|n9|n10|z0|z1|z2|z3|z4|z5|z6|z7|z8|z9|z10|z11|z12|z13|z14|z15|z16|z17|k0|k1|k2|k3|k4|k5|k6|k7|k8|k9|k10|k11|k12|k13|k14|k15|k16|k17=>k_is
  case e3|d3|e5|d5=>kernel_rfl
  case tb=>refine' K33.tab_mk ?a ?l ?c ?m ?v;(case a=>k_is);(case l=>k_is);(case c=>exact rfl);(case m=>k_is);(case v=>exact rfl)
