import PyProof.Rows.All
import Wide.All
import OpenK.AllK
import Wide.FinOn
import Lean
import PyProof.EqAt
import PyProof.EqKinds
import PyProof.TupleCall
import PyProof.StrLawsRepr
import PyProof.ZipIter
import PySem.Challenge.RW_woolyears_k80_books_as_texts
import PyProof.SeqRoads
import PyProof.ListOps
import PyProof.DictUpdate
import PyProof.DictWalks
import PyProof.Rows.SortRunsK
import PyProof.AttrMissHeap
import PyProof.StationsW
import PyProof.StrCalls2
import PyProof.StrLawsTight
import PyProof.SliceStr2
import PyProof.Rows.StrCase
import PyProof.Rows.StrRev
import PyProof.Rows.StrMadeLen
import KE.KIntText
import KE.KRevSl
import KE.KRevIter
import PyProof.ListTruth
import PyProof.ListStr
import KE.KTupTruth
import PyProof.Draws
import PyProof.NeKinds
import PyProof.StrCalls6
import PyProof.StrOps
import PyProof.ExcBaseAll.ValueError
set_option compiler.extract_closed false
set_option Elab.async false
set_option linter.all false
set_option maxRecDepth 100000
set_option maxHeartbeats 4000000
noncomputable section
theorem Zz{p:Prop}(h:p:=by lia):p:=h
theorem Zy{p:Prop}(h:p:=by simp):p:=h
theorem Zx{p:Prop}(h:p:=by decide):p:=h
theorem Zw{p:Prop}(h:p:=by omega):p:=h
theorem Zv{p:Prop}(h:p:=by decide +kernel):p:=h
theorem Zu{p:Prop}(h:p:=by rw[sizeLine_eq];lia):p:=h
def Zq:=@decide_eq_true_eq
open PySem.W (Frag)
def zAt:=@PySem.wpAny_bind
def zAu:=@decide_eq_true
def zAv:=@PySem.Heap.get?_push_of_some
def zAw:=@PySem.wpAny_pure
def zAx:=@PySem.W.mg_none_of
def zAy:=@decide_eq_false
def zAz:=@PySem.Heap.lt_size
def zB0:=@if_neg
def zB1:=@PySem.Heap.get?_push_size
def zB2:=@Nat.lt_of_lt_of_le
def zB3:=@if_pos
def zB4:=@Nat.ne_of_lt
def zB5:=@List.mem_append_right
def zB6:=@List.mem_of_getElem?
def zB7:=@PySem.PassesOwn.never
def zB8:=@of_decide_eq_true
def zB9:=@List.getElem?_append_right
def zBa:=@List.getElem?_append_left
def zBb:=@PySem.F.plainAttrs_list
def zA0:=@List.getElem?_eq_getElem
def zA1:=@List.length_map
def zA2:=@List.length_append
def zA3:=@Nat.le_refl
def zA4:=@List.map_append
def zA5:=@List.mem_map
def zA6:=@List.mem_append
def zA7:=@List.getD_eq_getElem?_getD
def zA8:=@List.size_toArray
def zA9:=@Array.length_toList
def zAa:=@List.getElem?_eq_some_iff
def zAb:=@List.getElem?_map
def zAc:=@Bool.and_eq_true
def zAd:=@List.length_take
def zAe:=@List.length_cons
def zAf:=@List.append_assoc
def zAg:=@Bool.false_ne_true
def zAh:=@List.getElem_mem
def zAi:=@Int.toNat_natCast
def zAj:=@List.take_add_one
def zAk:=@List.map_cons
def zAl:=@Option.some.inj
def zAm:=@List.take_length
def zAn:=@List.append_nil
def zAo:=@List.mem_cons
def zAp:=@Nat.zero_le
def zAq:=@List.mem_filter
def zAr:=@List.map_map
def zAs:=@List.length_zip
namespace L2
open PySem PySem.Spec PyProof.Rows
abbrev Key:=Sum Int Str
def nO:Key->Value->Bool
 |.inl k,v=>Value.isInt k v
 |.inr x,v=>Value.isStrOf x v
def Ko(w:World):Key->Int
 |.inl k=>hashInt k
 |.inr x=>hashStr w x
theorem bV:∀{k:Key} {v:Value},nO k v=true->(∃i t,k=Sum.inl i/\v=Value.int i t)\/(∃x t,k=Sum.inr x/\v=Value.str x t)
 |.inl i,v,h=>by
  obtain⟨t,e⟩:=Value.isInt_shape (k:=i) (v:=v) h;exact .inl ⟨i,t,rfl,e⟩
 |.inr x,v,h=>by
  obtain⟨t,e⟩:=Value.isStrOf_shape (x:=x) (v:=v) h;exact .inr ⟨x,t,rfl,e⟩
theorem yE(i:Int)(t:Tok):nO (.inl i) (.int i t)=true:=by simp[nO,Value.isInt]
theorem yF(x:Str)(t:Tok):nO (.inr x) (.str x t)=true:=by simp[nO,Value.isStrOf]
theorem Hr(a b:Int):decide ((Sum.inl a:Key)=Sum.inl b)=(a==b):=by
 by_cases e:a=b
 .subst e;simp
 .have h:¬(Sum.inl a:Key)=Sum.inl b:=fun q=>e (Sum.inl.inj q);rw[zAy h];exact(beq_eq_false_iff_ne.mpr e).symm
theorem Hs(a b:Str):decide ((Sum.inr a:Key)=Sum.inr b)=decide (a=b):=by
 by_cases e:a=b
 .subst e;simp
 .have h:¬(Sum.inr a:Key)=Sum.inr b:=fun q=>e (Sum.inr.inj q);rw[zAy h,zAy e]
theorem Ht(a:Int)(b:Str):decide ((Sum.inl a:Key)=Sum.inr b)=false:=zAy (fun q=>nomatch q)
theorem Hu(a:Str)(b:Int):decide ((Sum.inr a:Key)=Sum.inl b)=false:=zAy (fun q=>nomatch q)
def cD(prog:Program)(w:World):PySem.KeyKind prog w Key where
 is:=nO
 hash:=Ko w
 inj:=fun v a b ha hb=>by
  rcases bV ha with⟨i,t,rfl,rfl⟩|⟨x,t,rfl,rfl⟩
  .rcases bV hb with⟨j,u,rfl,e⟩|⟨y,u,rfl,e⟩
   .injection e with e1 _;rw[e1]
   .exact nomatch e
  .rcases bV hb with⟨j,u,rfl,e⟩|⟨y,u,rfl,e⟩
   .exact nomatch e
   .injection e with e1 _;rw[e1]
 byValue:=fun k v h=>by
  rcases bV h with⟨i,t,rfl,rfl⟩|⟨x,t,rfl,rfl⟩<;>rfl
 pyHash:=fun hv h=>by
  rcases bV hv with⟨i,t,rfl,rfl⟩|⟨x,t,rfl,rfl⟩
  .exact wpAny_pyHash_int h
  .exact wpAny_pyHash_str h
 eqBool:=fun hu hv h=>by
  rcases bV hu with⟨i,t,rfl,rfl⟩|⟨x,t,rfl,rfl⟩
  .rcases bV hv with⟨j,u,rfl,rfl⟩|⟨y,u,rfl,rfl⟩
   .rw[Hr]at h;exact wpAny_eqBool_int h
   .rw[Ht]at h;exact SeqAt.EqAt.int_str i t y u _ _ _ _ h
  .rcases bV hv with⟨j,u,rfl,rfl⟩|⟨y,u,rfl,rfl⟩
   .rw[Hu]at h;exact SeqAt.EqAt.str_int x t j u _ _ _ _ h
   .rw[Hs]at h;exact wpAny_eqBool_str h
 «strs»:=fun k x t v h=>by
  rcases bV h with⟨i,u,rfl,e⟩|⟨y,u,rfl,e⟩
  .exact nomatch e
  .injection e with e1 _;subst e1;cases v<;>rfl
theorem tU(prog:Program)(w:World)(i:Int)(t:Tok):(cD prog w).is (.inl i) (.int i t)=true:=yE i t
theorem tV(prog:Program)(w:World)(x:Str)(t:Tok):(cD prog w).is (.inr x) (.str x t)=true:=yF x t
inductive V where
 |non|bl (b:Bool)|int (i:Int)|str (x:Str)|byt (b:Array UInt8)|flt (b:UInt64)|ref (a:Addr)|ty (n:String)
 deriving DecidableEq
def RelV:V->Value->Prop
 |.non,u=>u=Value.none
 |.bl b,u=>u=Value.bool b
 |.int i,u=>∃t,u=Value.int i t
 |.str x,u=>∃t,u=Value.str x t
 |.byt b,u=>∃t,u=Value.bytes b t
 |.flt b,u=>∃t,u=Value.float b t
 |.ref a,u=>u=Value.ref a
 |.ty n,u=>u=Value.type n
abbrev Vals:List V->List Value->Prop:=Paired RelV
theorem Vals.length{xs:List V}{us:List Value}(r:Vals xs us):xs.length=us.length:=Paired.length r
theorem Vals.get:∀{xs:List V} {us:List Value} {i:Nat} {x:V},Vals xs us->xs[i]?=some x->∃u,us[i]?=some u/\RelV x u
 |_,_,_,_,.nil,e=>by simp at e
 |_,_,0,_,.cons r _,e=>by simp at e;subst e;exact⟨_,rfl,r⟩
 |_,_,i+1,x,.cons _ t,e=>by
  obtain⟨u,h1,h2⟩:=Vals.get (i:=i) (x:=x) t (by simpa using e);exact⟨u,by simpa using h1,h2⟩
theorem Vals.set{x:V}{u:Value}(r:RelV x u):∀{xs:List V} {us:List Value} (i:Nat),Vals xs us->Vals (xs.set i x) (us.set i u)
 |_,_,_,.nil=>.nil
 |_,_,0,.cons _ t=>.cons r t
 |_,_,i+1,.cons q t=>.cons q (Vals.set r i t)
theorem Vals.append:∀{xs ys:List V} {us ws:List Value},Vals xs us->Vals ys ws->Vals (xs++ys) (us++ws)
 |_,_,_,_,.nil,s=>s
 |_,_,_,_,.cons r t,s=>.cons r (Vals.append t s)
theorem Vals.take:∀{xs:List V} {us:List Value} (n:Nat),Vals xs us->Vals (xs.take n) (us.take n)
 |_,_,0,_=>.nil
 |_,_,_+1,.nil=>.nil
 |_,_,n+1,.cons r t=>.cons r (Vals.take n t)
theorem Vals.drop:∀{xs:List V} {us:List Value} (n:Nat),Vals xs us->Vals (xs.drop n) (us.drop n)
 |_,_,0,r=>r
 |_,_,_+1,.nil=>.nil
 |_,_,n+1,.cons _ t=>Vals.drop n t
def RelO:Option V->Option Value->Prop
 |some v,some u=>RelV v u
 |none,none=>True
 |_,_=>False
def KV{κ:Type}:List (κ×V)->List (κ×Value)->Prop:=Paired fun(p:κ×V) (q:κ×Value)=>p.1=q.1/\RelV p.2 q.2
def kV:Key->V
 |.inl i=>.int i
 |.inr x=>.str x
inductive HO where
  |lst (xs:List V)
  |tup (xs:List V)
  |dK (Zs:List (Key×V))|dT (Zs:List (List Key×V))
  |set (S:Int->Bool) (n:Nat)
  |ins (C dx:Addr) (fs:List (Str×V))
  |own (x:Addr)
  |xd (fs:List (Str×V))
  |met (f x:Addr)
  |rng (lo hi:Int)
  |frz (o:Obj) (u:HO)
  |tbl (ps:Array Value)
  |ext (φ:Heap->Prop)
abbrev Hp:=Addr->Option HO
def upd(H:Hp)(a:Addr)(o:HO):Hp:=fun b=>if b=a then some o else H b
theorem aa{H:Hp}{a:Addr}{o:HO}:upd H a o a=some o:=by unfold upd;rw[zB3 rfl]
theorem aq{H:Hp}{a b:Addr}{o:HO}(h:b≠a):upd H a o b=H b:=by unfold upd;rw[zB0 h]
theorem Jp{H:Hp}{a b:Addr}{o u:HO}(h:H a=some o)(h':H b=some u)(d:o≠u):a≠b:=by
 intro e;subst e;rw[h]at h';exact d (zAl h')
theorem aA{H:Hp}{a b:Addr}{o:HO}(h:H a=some o)(h':H b=none):a≠b:=by
 intro e;subst e;rw[h]at h';cases h'
section
variable(P:Program)(w:World)
def ObjOk(H:Hp)(h:Heap)(a:Addr):HO->Prop
 |.lst xs=>xs.length<=sizeLine/\∃(Zr:List Value) (n:Nat),Vals xs Zr/\h.get? a=some {cls:=.type "list",data:=.seq Zr.toArray n}
 |.tup xs=>xs.length<=sizeLine/\∃Zr:List Value,Vals xs Zr/\IsTup h a Zr.toArray
 |.dK Zs=>Zs.length<=sizeLine/\(a==sysModules)=false/\∃vs,KV Zs vs/\h.DictOf (cD P w) a vs
 |.dT Zs=>Zs.length<=sizeLine/\(a==sysModules)=false/\∃xs:List (List Key×Addr×Value),
   Paired (fun(p:List Key×V) (q:List Key×Addr×Value)=>p.1=q.1/\H q.2.1=some (.tup (p.1.map kV))/\RelV p.2 q.2.2) Zs xs /\
   ∃o es ep,h.get? a=some o/\o.ExactDict/\o.data=.dict es ep/\es.toList=xs.map (entryOfKey (tupleKind (cD P w)))/\(xs.map (·.1)).Nodup
 |.set S n=>h.SetOf (intKind P w) a S n
 |.ins C dx fs=>H dx=some (.own a)/\fs.length<=1000/\dx≠a/\h.get? a=some (PySem.W.instObj C dx) /\
   ∃mA,h.Ns1 dx mA/\(∀f,RelO (fs.lookup f) (mA f))/\PySem.Within mA (fs.map (·.1))
 |.own _=>∃o,h.get? a=some o
 |.xd fs=>∃mA,h.Ns1 a mA/\∀f,RelO (fs.lookup f) (mA f)
 |.rng lo hi=>∃t u v,h.get? a=some {cls:=.type "range",data:=.fields #[.int lo t,.int hi u,.int 1 v]}
 |.frz o u=>h.get? a=some o/\ObjOk H h a u
 |.tbl ps=>h.get? a=some {cls:=.none,data:=.fields ps}
 |.met f x=>h.get? a=some (PySem.W.methodObj (.ref f) (.ref x))
 |.ext φ=>φ h/\(∃o,h.get? a=some o)/\∀h1 h2:Heap,φ h1->(∀o,h1.get? a=some o->h2.get? a=some o)->φ h2
def HOk(H:Hp)(h:Heap):Prop:=∀a o,H a=some o->ObjOk P w H h a o
end
section
variable{P:Program}{w:World}{H H':Hp}{h h':Heap}{a:Addr}{o:HO}
theorem ObjOk.lt(x:ObjOk P w H h a o):a<h.objs.size:=by
 cases o with
 |lst xs=>obtain⟨_,_,_,_,e⟩:=x;exact zAz e
 |tup xs=>obtain⟨_,_,_,p⟩:=x;exact p.lt
 |dK Zs=>obtain⟨_,_,_,_,o,_,_,e,_⟩:=x;exact zAz e
 |dT Zs=>obtain⟨_,_,_,_,o,_,_,e,_⟩:=x;exact zAz e
 |set S n=>obtain⟨o,_,_,_,e,_⟩:=x;exact zAz e
 |ins C dx fs=>obtain⟨_,_,_,e,_⟩:=x;exact zAz e
 |own y=>obtain⟨_,e⟩:=x;exact zAz e
 |xd fs=>obtain⟨_,⟨_,_,_,e,_⟩,_⟩:=x;exact zAz e
 |rng lo hi=>obtain⟨_,_,_,e⟩:=x;exact zAz e
 |frz ob u=>obtain⟨e,_⟩:=x;exact zAz e
 |tbl ps=>exact zAz (show h.get? a=some _ from x)
 |met f y=>exact zAz (show h.get? a=some _ from x)
 |ext φ=>obtain⟨_,⟨_,e⟩,_⟩:=x;exact zAz e
theorem Paired.mapP{α β:Type}{F G:α->β->Prop}:∀{vw:List α} {vx:List β},Paired F vw vx->(∀a b,F a b->G a b)->Paired G vw vx
 |_,_,.nil,_=>.nil
 |_,_,.cons r t,f=>.cons (f _ _ r) (Paired.mapP t f)
theorem ObjOk.stay(x:ObjOk P w H h a o)(k:∀b u,(b=a\/H b=some (.own a))->h.get? b=some u->h'.get? b=some u)
  (ho:∀b,H b=some (.own a)->H' b=some (.own a)) (ht:∀b xs,H b=some (.tup xs)->H' b=some (.tup xs)):ObjOk P w H' h' a o:=by
 induction o with
 |lst xs=>obtain⟨z,Zr,n,r,e⟩:=x;exact⟨z,Zr,n,r,k _ _ (.inl rfl) e⟩
 |tup xs=>obtain⟨z,Zr,r,ob,e,c⟩:=x;exact⟨z,Zr,r,ob,k _ _ (.inl rfl) e,c⟩
 |dK Zs=>obtain⟨z,y,vs,r,ob,es,ep,e,c⟩:=x;exact⟨z,y,vs,r,ob,es,ep,k _ _ (.inl rfl) e,c⟩
 |dT Zs=>
  obtain⟨z,y,xs,r,ob,es,ep,e,c⟩:=x;exact⟨z,y,xs,Paired.mapP r fun p q z=>⟨z.1,ht _ _ z.2.1,z.2.2⟩,ob,es,ep,k _ _ (.inl rfl) e,c⟩
 |set S n=>obtain⟨ob,es,ep,t,e,c⟩:=x;exact⟨ob,es,ep,t,k _ _ (.inl rfl) e,c⟩
 |ins C dx fs=>
  obtain⟨d,z,ne,e,mA,⟨od,es,ep,e2,c⟩,r⟩:=x;exact⟨ho _ d,z,ne,k _ _ (.inl rfl) e,mA,⟨od,es,ep,k _ _ (.inr d) e2,c⟩,r⟩
 |own y=>obtain⟨ob,e⟩:=x;exact⟨ob,k _ _ (.inl rfl) e⟩
 |xd fs=>obtain⟨mA,⟨od,es,ep,e,c⟩,r⟩:=x;exact⟨mA,⟨od,es,ep,k _ _ (.inl rfl) e,c⟩,r⟩
 |rng lo hi=>obtain⟨t,u,v,e⟩:=x;exact⟨t,u,v,k _ _ (.inl rfl) e⟩
 |frz ob u ih=>obtain⟨e,q⟩:=x;exact⟨k _ _ (.inl rfl) e,ih q⟩
 |tbl ps=>
  have e:h.get? a=some {cls:=.none,data:=.fields ps}:=x;show h'.get? a=some {cls:=.none,data:=.fields ps};exact k a _ (.inl rfl) e
 |met f y=>
  have e:h.get? a=some (PySem.W.methodObj (.ref f) (.ref y)):=x;show h'.get? a=some (PySem.W.methodObj (.ref f) (.ref y));exact k a _ (.inl rfl) e
 |ext φ=>obtain⟨p,⟨o,e⟩,st⟩:=x;exact⟨st _ _ p fun o q=>k _ _ (.inl rfl) q,⟨o,k _ _ (.inl rfl) e⟩,st⟩
theorem HOk.lt(x:HOk P w H h)(e:H a=some o):a<h.objs.size:=(x a o e).lt
theorem HOk.fresh(x:HOk P w H h)(e:h.objs.size<=a):H a=none:=by
 cases q:H a with
 |none=>rfl
 |some u=>exact absurd (zB2 (x.lt q) e) (Nat.lt_irrefl _)
theorem HOk.kept(x:HOk P w H h)(k:∀b u,h.get? b=some u->h'.get? b=some u):HOk P w H h':=fun a o e=>
 (x a o e).stay (fun b u _ q=>k b u q) (fun _ q=>q) fun _ _ q=>q
theorem HOk.laid(x:HOk P w H h)(k:∀b u,h.get? b=some u->h'.get? b=some u)(hp:h.objs.size<=a)(new:ObjOk P w (upd H a o) h' a o):HOk P w (upd H a o) h':=fun b u e=>by
 have hn:=x.fresh hp;by_cases hb:b=a
 .subst hb;rw[aa]at e;cases e;exact new
 .rw[aq hb]at e
  exact(x b u e).stay (fun c v _ q=>k c v q) (fun c q=>by rw[aq (aA q hn)];exact q) fun c xs q=>by rw[aq (aA q hn)];exact q
end
def Rd(H:Hp)(a:Addr)(u:HO):Prop:=H a=some u\/∃o,H a=some (.frz o u)
theorem Rd.ok{P:Program}{w:World}{H:Hp}{h:Heap}{a:Addr}{u:HO}(r:Rd H a u)(x:HOk P w H h):ObjOk P w H h a u:=by
 rcases r with r|⟨o,r⟩
 .exact x a u r
 .obtain⟨_,q⟩:=x a _ r;exact q
def Mut:Option HO->Prop
 |some (.lst _)=>True
 |some (.dK _)=>True
 |some (.dT _)=>True
 |some (.set _ _)=>True
 |some (.ins _ _ _)=>True
 |some (.ext _)=>True
 |_=>False
section
variable{P:Program}{w:World}{H:Hp}{h h':Heap}{x e:Addr}{o':HO}
theorem HOk.write(ok:HOk P w H h)(mu:Mut (H x))(he:e=x\/H e=some (.own x))(k:∀b u,b≠e->h.get? b=some u->h'.get? b=some u)(sR:∃u,h'.get? e=some u)
  (new:ObjOk P w (upd H x o') h' x o'):HOk P w (upd H x o') h':=fun b u q=>by
 have vE:∀c y,H c=some (.own y)->c≠x:=fun c y r z=>by subst z;rw[r]at mu;exact mu
 have B7:∀c xs,H c=some (.tup xs)->c≠x:=fun c xs r z=>by subst z;rw[r]at mu;exact mu
 by_cases hb:b=x
 .subst hb;rw[aa]at q;cases q;exact new
 .rw[aq hb]at q;by_cases pE:b=e
  .have q':H b=some (.own x):=by
    rcases he with z|z
    .exact absurd (pE.trans z) hb
    .rw[pE];exact z
   rw[q]at q';cases q';obtain⟨v,hv⟩:=sR;exact⟨v,by rw[pE];exact hv⟩
  .refine(ok b u q).stay (fun c v hc r=>k c v ?_ r) (fun c r=>by rw[aq (vE c b r)];exact r) fun c xs r=>by rw[aq (B7 c xs r)];exact r
   rcases hc with rfl|hc
   .exact pE
   .rintro rfl;rcases he with z|z
    .exact vE c b hc z
    .rw[hc]at z;cases z;exact hb rfl
end
structure Un(fs ex:List Addr)(H H':Hp)(h h':Heap):Prop where
 keep:∀b o,h.get? b=some o->H b=none->b∉fs->b∉ex->h'.get? b=some o
 slot:∀b o,h.get? b=some o->H b=none->b∈fs->b∉ex->∃sl,h'.get? b=some {o with slots:=sl}
 free:∀b o,h.get? b=some o->H b=none->b∉ex->H' b=none
 there:∀b o,h.get? b=some o->b∉ex->∃o',h'.get? b=some o'
 tups:∀b xs,H b=some (.tup xs)->H' b=some (.tup xs)
 frzs:∀b o u,H b=some (.frz o u)->H' b=some (.frz o u)
 tbls:∀b ps,H b=some (.tbl ps)->∃more,H' b=some (.tbl (ps++more))
section
variable{fs MG ex RW:List Addr}{H H1 H2:Hp}{h h1 h2 h':Heap}{a x e:Addr}{o:HO}
theorem Un.any(u:Un fs ex H H1 h h1){b:Addr}{ob:Obj}(q:h.get? b=some ob)(n:H b=none)(hx:b∉ex):∃sl,h1.get? b=some {ob with slots:=sl}:=by
 by_cases hb:b∈fs
 .exact u.slot b ob q n hb hx
 .exact⟨ob.slots,u.keep b ob q n hb hx⟩
theorem Un.kept(k:∀b u,h.get? b=some u->h'.get? b=some u):Un fs ex H H h h':=
 ⟨fun b ob q _ _ _=>k b ob q,fun b ob q _ _ _=>⟨ob.slots,k b ob q⟩,fun _ _ _ n _=>n,fun b ob q _=>⟨ob,k b ob q⟩,fun _ _ q=>q,fun _ _ _ q=>q,fun _ ps q=>⟨#[],by rw[q];simp⟩⟩
theorem Un.refl:Un fs ex H H h h:=Un.kept fun _ _ q=>q
theorem Un.laid(k:∀b u,h.get? b=some u->h'.get? b=some u)(hp:h.objs.size<=a)(hn:H a=none):Un fs ex H (upd H a o) h h' where
 keep:=fun b u q _ _ _=>k b u q
 slot:=fun b u q _ _ _=>⟨u.slots,k b u q⟩
 free:=fun b u q n _=>by rw[aq (zB4 (zB2 (zAz q) hp))];exact n
 there:=fun b u q _=>⟨u,k b u q⟩
 tups:=fun b xs q=>by rw[aq (aA q hn)];exact q
 frzs:=fun b u xs q=>by rw[aq (aA q hn)];exact q
 tbls:=fun b ps q=>⟨#[],by rw[aq (aA q hn),q];simp⟩
theorem Un.write(mu:Mut (H x))(he:e=x\/H e=some (.own x))(k:∀b u,b≠e->h.get? b=some u->h'.get? b=some u)(sR:∃u,h'.get? e=some u):Un fs ex H (upd H x o) h h':=by
 have hx:∀b,H b=none->b≠x:=fun b n z=>by subst z;rw[n]at mu;exact mu
 have hb:∀b,H b=none->b≠e:=fun b n z=>by
  subst z;rcases he with r|r
  .exact hx b n r
  .rw[n]at r;cases r
 have hm:∀b u,H b=some u->¬Mut (some u)->b≠x:=fun b u q nm z=>by subst z;rw[q]at mu;exact nm mu
 refine⟨fun b u q n _ _=>k b u (hb b n) q,fun b u q n _ _=>⟨u.slots,k b u (hb b n) q⟩,fun b u q n _=>by rw[aq (hx b n)];exact n,fun b u q _=>?_,
  fun b xs q=>by rw[aq (hm b _ q fun z=>z)];exact q,fun b u xs q=>by rw[aq (hm b _ q fun z=>z)];exact q,fun b ps q=>⟨#[],by rw[aq (hm b _ q fun z=>z),q];simp⟩⟩
 by_cases pE:b=e
 .subst pE;exact sR
 .exact⟨u,k b u pE q⟩
end
def trk(h:Heap)(H:Hp):List Addr:=(List.range h.objs.size).filter fun a=>(H a).isSome
def nP(h:Heap)(H:Hp):Heap:=PySem.W.hideAll h (trk h H)
theorem yG(h:Heap)(H:Hp):(nP h H).objs.size=h.objs.size:=PySem.W.hideAll_size _ _
theorem Ab{h:Heap}{H:Hp}{b:Addr}{o:Obj}(e:h.get? b=some o)(n:H b=none):(nP h H).get? b=some o:=
 PySem.W.hideAll_get _ e fun hm=>by
  have q:(H b).isSome=true:=(zAq.mp hm).2;rw[n]at q;simp at q
theorem Eh{h:Heap}{H:Hp}{b:Addr}{o:Obj}(e:(nP h H).get? b=some o):h.get? b=some o/\H b=none:=by
 have e':h.get? b=some o:=PySem.W.of_hideAll (trk h H) e;refine⟨e',?_⟩
 cases q:H b with
 |none=>rfl
 |some x=>
  have hm:b∈trk h H:=List.mem_filter.mpr ⟨List.mem_range.mpr (Heap.lt_size e'),by simp[q]⟩;have z:(nP h H).get? b=none:=PySem.W.hideAll_none (trk h H) hm;rw[z]at e;cases e
structure Mod(K:Frag)(mg:Str->Option Value)(base:Heap):Prop where
 kin:K.In base
 glob:base.Ns mainGlobals mg
 blt:∃mb,base.Ns builtinsNs mb/\∀x:Str,x≠"__name__"->mb x=bootBuiltins x
 nolimit:base.NoLimit
structure Cx where
 prog:Program
 w:World
 K:Frag
 mg:Str->Option Value
 base:Heap
 A:Around
 N:List Str
 s₀:Shared
 H₀:Hp
 env:Env
 outer:List Env
 stack:List Env
 ex:List Addr
 fn:Str->Bool
 calm:Bool
 pn:List (Addr×Obj)
 xe:Value->Shared->Prop
def frs(l:List Env):List Addr:=l.filterMap (·.frame)
abbrev Cx.fs(X:Cx):List Addr:=frs X.outer
def Vis(sc:Scope)(x:Str):Prop:=sc.names.lookup x=some .local\/sc.names.lookup x=some .cell\/sc.names.lookup x=some .free
def Loc(sc:Scope)(x:Str):Prop:=sc.names.lookup x=some .local\/sc.names.lookup x=some .cell
def Look(env:Env)(h:Heap)(m:Str->Option Value)(x:Str)(u:Value):Prop:=
 (env.kindOf x=some .local/\m x=some u)\/((env.kindOf x=some .cell\/env.kindOf x=some .free)/\∃c,env.cells.lookup x=some c/\h.IsCell c (some u))
structure Cx.Ok(X:Cx):Prop where
 mod:Mod X.K X.mg X.base
 kind:X.env.scope.kind=.function
 glob:X.env.globals=mainGlobals
 blt:X.env.builtins=builtinsNs
 above:X.s₀.heap.objs.size<=X.env.locals
 inj:∀x y c,X.env.cells.lookup x=some c->X.env.cells.lookup y=some c->x=y
 has:∀x,(X.env.kindOf x=some .cell\/X.env.kindOf x=some .free)->∃c,X.env.cells.lookup x=some c
 cab:∀x c,X.fn x=true->X.env.cells.lookup x=some c->X.s₀.heap.objs.size<=c
 hd:X.calm=true->X.A.handled=none
 frames:X.A.frames=some X.stack
 stk:X.stack=X.outer\/(X.stack=X.env::X.outer/\X.env.frame=some X.env.locals)
 exf:∀b∈X.ex,b≠X.env.locals/\∀x c,X.env.cells.lookup x=some c->c≠b
 bs:∀b o,X.base.get? b=some o->X.s₀.heap.get? b=some o/\X.H₀ b=none
 bsz:X.base.objs.size<=X.s₀.heap.objs.size
 noex:∀b o,X.base.get? b=some o->b∉X.ex
 exfs:∀b∈X.ex,b∉X.fs
 funs:X.s₀.heap.FunFrames X.base X.outer
 frf:∀b∈X.fs,X.H₀ b=none
structure Inv(X:Cx)(Zt:List (Addr×Obj))(σ:List (Option V))(H:Hp)(s:Shared):Prop where
 ok:X.Ok
 os:s.os=X.s₀.os
 bare:AllBare s.gens
 base:Un X.fs X.ex X.H₀ H X.s₀.heap s.heap
 loc:∃m,s.heap.Ns X.env.locals m/\∀(i:Nat) (x:Str) (v:V),X.N[i]?=some x->σ[i]?=some (some v)->Vis X.env.scope x->∃u,RelV v u/\Look X.env s.heap m x u
 cell:∀x c,X.env.cells.lookup x=some c->∃v,s.heap.IsCell c v
 free:H X.env.locals=none
 freeC:∀x c,X.env.cells.lookup x=some c->H c=none
 pin:∀p∈X.pn++Zt,s.heap.get? p.1=some p.2/\H p.1=none/\p.1≠X.env.locals/\p.1∉X.fs/\∀v,p.2.data≠.cell v
 hok:HOk X.prog X.w H s.heap
 len:σ.length=X.N.length
section
variable{X:Cx}{Zt:List (Addr×Obj)}{σ:List (Option V)}{H H':Hp}{s:Shared}{h':Heap}
theorem Cx.Ok.nofr(ok:X.Ok){b:Addr}{o:Obj}(e:X.base.get? b=some o):b∉X.fs:=fun hb=>by
 have:=(ok.funs.mem hb).1;rw[e]at this;cases this
theorem Inv.bs(I:Inv X Zt σ H s):∀b o,X.base.get? b=some o->s.heap.get? b=some o/\H b=none:=fun b o e=>
 ⟨I.base.keep b o (I.ok.bs b o e).1 (I.ok.bs b o e).2 (I.ok.nofr e) (I.ok.noex b o e),I.base.free b o (I.ok.bs b o e).1 (I.ok.bs b o e).2 (I.ok.noex b o e)⟩
theorem Inv.bk(I:Inv X Zt σ H s):∀b o,X.base.get? b=some o->s.heap.get? b=some o:=fun b o e=>(I.bs b o e).1
theorem Inv.mod(I:Inv X Zt σ H s):Mod X.K X.mg X.base:=I.ok.mod
theorem Inv.kIn(I:Inv X Zt σ H s):X.K.In s.heap:=I.ok.mod.kin.keeps I.bk
theorem Inv.lt(I:Inv X Zt σ H s):X.env.locals<s.heap.objs.size:=let⟨_,hn,_⟩:=I.loc;hn.lt
theorem Inv.sz(I:Inv X Zt σ H s):X.s₀.heap.objs.size<=s.heap.objs.size:=Nat.le_trans I.ok.above (Nat.le_of_lt I.lt)
theorem Inv.nofs(I:Inv X Zt σ H s){a:Addr}(h:s.heap.objs.size<=a):a∉X.fs:=fun hb=>by
 obtain⟨_,o,ho,_⟩:=I.ok.funs.mem hb;exact absurd (zB2 (zAz ho) (Nat.le_trans I.sz h)) (Nat.lt_irrefl _)
theorem Inv.cne(I:Inv X Zt σ H s):∀x c,X.env.cells.lookup x=some c->c≠X.env.locals:=fun x c e z=>by
 obtain⟨v,o,ho,hd⟩:=I.cell x c e;obtain⟨m,⟨o',es,ep,iX,tj,_⟩,_⟩:=I.loc;rw[z,iX]at ho;cases ho;rw[tj]at hd;cases hd
theorem Inv.funs(I:Inv X Zt σ H s):s.heap.FunFrames X.base X.outer:=by
 have all:∀(l:List Env),(∀b∈frs l,b∈X.fs)->X.s₀.heap.FunFrames X.base l->s.heap.FunFrames X.base l:=by
  intro l
  induction l with
  |nil=>intro _ _;trivial
  |cons env r ih=>
   intro hs hl;obtain⟨hk,⟨L,o,hf,hn,ho,hd⟩,hr⟩:=hl;have hL:L∈X.fs:=hs L (by unfold frs;rw[List.filterMap_cons,hf];exact List.mem_cons_self);obtain⟨sl,e⟩:=I.base.slot L o ho (I.ok.frf L hL) hL fun z=>I.ok.exfs L z hL;exact⟨hk,⟨L,_,hf,hn,e,hd⟩,ih (fun b hb=>hs b (by unfold frs;rw[List.filterMap_cons,hf];exact List.mem_cons_of_mem _ hb)) hr⟩
 exact all X.outer (fun _ hb=>hb) I.ok.funs
theorem Inv.stack(I:Inv X Zt σ H s):s.heap.FunFrames X.base X.stack:=by
 rcases I.ok.stk with e|⟨e,hf⟩
 .rw[e];exact I.funs
 .rw[e];obtain⟨m,hn,_⟩:=I.loc;refine .cons (by rw[I.ok.kind];decide) hf hn ?_ I.funs;exact Heap.get?_none_of_le (Nat.le_trans I.ok.bsz I.ok.above)
theorem Inv.stkSub(I:Inv X Zt σ H s):∀b∈frs X.stack,b∈X.env.locals::X.fs:=fun b hb=>by
 rcases I.ok.stk with e|⟨e,hf⟩
 .rw[e]at hb;exact List.mem_cons_of_mem _ hb
 .rw[e]at hb;unfold frs at hb;rw[List.filterMap_cons,hf]at hb;exact hb
theorem Inv.stkFree(I:Inv X Zt σ H s):∀b∈frs X.stack,H b=none:=fun b hb=>by
 rcases zAo.mp (I.stkSub b hb)with e|hb
 .rw[e];exact I.free
 .obtain⟨_,o,ho,_⟩:=I.ok.funs.mem hb;exact I.base.free b o ho (I.ok.frf b hb) fun z=>I.ok.exfs b z hb
theorem Inv.step{g':Array GenState}{t':Nat}{d':Drawn}{ch:List Addr}(I:Inv X Zt σ H s)
  (kg:∀b∈ch,(b∈X.ex\/X.s₀.heap.objs.size<=b)/\b≠X.env.locals/\(∀x c,X.env.cells.lookup x=some c->c≠b)/\∀p∈X.pn++Zt,p.1≠b)
  (keep:∀b o,b≠X.env.locals->b∉X.fs->b∉ch->s.heap.get? b=some o->H b=none->h'.get? b=some o)
  (slot:∀b o,b≠X.env.locals->b∈X.fs->b∉ch->s.heap.get? b=some o->H b=none->∃sl,h'.get? b=some {o with slots:=sl}) (free:∀b o,b∉ch->s.heap.get? b=some o->H b=none->H' b=none)
  (there:∀b o,b∉ch->s.heap.get? b=some o->∃o',h'.get? b=some o')
  (tups:∀b xs,H b=some (.tup xs)->H' b=some (.tup xs)) (frzs:∀b o u,H b=some (.frz o u)->H' b=some (.frz o u)) (tbls:∀b ps,H b=some (.tbl ps)->∃more,H' b=some (.tbl (ps++more)))
  (ns:∀m,s.heap.Ns X.env.locals m->h'.Ns X.env.locals m) (hok:HOk X.prog X.w H' h') (hg:AllBare g'):
  Inv X Zt σ H' {s with heap:=h',gens:=g',drawn:=d',toks:=t'}:=by
 have AY:∀b o,X.s₀.heap.get? b=some o->b≠X.env.locals:=fun b o e=>zB4 (zB2 (zAz e) I.ok.above)
 have AZ:∀b o,X.s₀.heap.get? b=some o->b∉X.ex->b∉ch:=fun b o e hx hb=>by
  rcases(kg b hb).1 with z|z
  .exact hx z
  .exact absurd (zB2 (zAz e) z) (Nat.lt_irrefl _)
 have cellK:∀x c,X.env.cells.lookup x=some c->∀v,s.heap.IsCell c v->h'.IsCell c v:=fun x c e v ⟨o,ho,hd⟩=>by
  have vF:c∉ch:=fun z=>(kg c z).2.2.1 x c e rfl;by_cases hc:c∈X.fs
  .obtain⟨sl,q⟩:=slot c o (I.cne x c e) hc vF ho (I.freeC x c e);exact⟨_,q,hd⟩
  .exact⟨o,keep c o (I.cne x c e) hc vF ho (I.freeC x c e),hd⟩
 refine⟨I.ok,I.os,hg,⟨fun b o e n hb hx=>?_,fun b o e n hb hx=>?_,fun b o e n hx=>?_,fun b o e hx=>?_,fun b xs e=>tups b xs (I.base.tups b xs e),fun b o xs e=>frzs b o xs (I.base.frzs b o xs e),fun b ps e=>?_⟩,?_,fun x c e=>?_,?_,fun x c e=>?_,fun p hp=>?_,hok,I.len⟩
 .exact keep b o (AY b o e) hb (AZ b o e hx) (I.base.keep b o e n hb hx) (I.base.free b o e n hx)
 .obtain⟨sl,e1⟩:=I.base.slot b o e n hb hx;obtain⟨A0,e2⟩:=slot b _ (AY b o e) hb (AZ b o e hx) e1 (I.base.free b o e n hx);exact⟨A0,e2⟩
 .obtain⟨o',e1⟩:=I.base.there b o e hx;exact free b o' (AZ b o e hx) e1 (I.base.free b o e n hx)
 .obtain⟨o',e1⟩:=I.base.there b o e hx;exact there b o' (AZ b o e hx) e1
 .obtain⟨m1,e1⟩:=I.base.tbls b ps e;obtain⟨m2,e2⟩:=tbls b _ e1;exact⟨m1++m2,by rw[e2,Array.append_assoc]⟩
 .obtain⟨m,hn,hl⟩:=I.loc;refine⟨m,ns m hn,fun i x v e1 e2 e3=>?_⟩;obtain⟨u,r,l⟩:=hl i x v e1 e2 e3;refine⟨u,r,?_⟩;rcases l with l|⟨k,c,e,z⟩
  .exact .inl l
  .exact .inr ⟨k,c,e,cellK x c e _ z⟩
 .obtain⟨v,z⟩:=I.cell x c e;exact⟨v,cellK x c e v z⟩
 .obtain⟨m,⟨o,_,_,ho,_⟩,_⟩:=I.loc;exact free _ o (fun z=>(kg _ z).2.1 rfl) ho I.free
 .obtain⟨v,o,ho,hd⟩:=I.cell x c e;exact free c o (fun z=>(kg c z).2.2.1 x c e rfl) ho (I.freeC x c e)
 .obtain⟨e,n,ne,nf,d⟩:=I.pin p hp;have vF:p.1∉ch:=fun z=>(kg p.1 z).2.2.2 p hp rfl;exact⟨keep p.1 p.2 ne nf vF e n,free p.1 p.2 vF e n,ne,nf,d⟩
theorem Inv.un{t':Nat}(I:Inv X Zt σ H s)(u:Un X.fs [] H H' s.heap h')(hok:HOk X.prog X.w H' h'):Inv X Zt σ H' {s with heap:=h',toks:=t'}:=by
 obtain⟨m,⟨o,es,ep,ho,r⟩,_⟩:=id I.loc;obtain⟨sl,hL⟩:=u.any ho I.free Zy
 exact I.step (g':=s.gens) (d':=s.drawn) (ch:=[]) (fun _ z=>nomatch z) (fun b o _ hb _ e n=>u.keep b o e n hb Zy) (fun b o _ hb _ e n=>u.slot b o e n hb Zy) (fun b o _ e n=>u.free b o e n Zy) (fun b o _ e=>u.there b o e Zy) u.tups u.frzs u.tbls (fun m' hm=>by
  obtain⟨o',eJ,vS,iX,r'⟩:=hm;rw[ho]at iX;cases iX
  exact⟨_,eJ,vS,hL,r'⟩) hok I.bare
theorem Inv.call{g':Array GenState}{t':Nat}{d':Drawn}{ch:List Addr}(I:Inv X Zt σ H s)(u:Un (frs X.stack) ch H H' s.heap h')(hok:HOk X.prog X.w H' h')(hg:AllBare g')
  (kg:∀b∈ch,(b∈X.ex\/X.s₀.heap.objs.size<=b)/\b≠X.env.locals/\(∀x c,X.env.cells.lookup x=some c->c≠b)/\∀p∈X.pn++Zt,p.1≠b):
  Inv X Zt σ H' {s with heap:=h',gens:=g',drawn:=d',toks:=t'}:=by
 obtain⟨m,⟨o,es,ep,ho,r⟩,_⟩:=id I.loc;obtain⟨sl,hL⟩:=u.any ho I.free fun z=>(kg _ z).2.1 rfl
 exact I.step (ch:=ch) kg (fun b o hL hb hc e n=>u.keep b o e n (fun z=>(zAo.mp (I.stkSub b z)).elim hL hb) hc) (fun b o _ _ hc e n=>u.any e n hc) (fun b o hc e n=>u.free b o e n hc) (fun b o hc e=>u.there b o e hc) u.tups u.frzs u.tbls (fun m' hm=>by
  obtain⟨o',eJ,vS,iX,r'⟩:=hm;rw[ho]at iX;cases iX
  exact⟨_,eJ,vS,hL,r'⟩) hok hg
theorem Inv.turned{t':Nat}{it:Addr}(I:Inv X Zt σ H s)(k:∀b o,b≠it->s.heap.get? b=some o->h'.get? b=some o)(hn:H it=none)(hL:it≠X.env.locals)
  (h1:it∈X.ex\/X.s₀.heap.objs.size<=it) (h2:∀x c,X.env.cells.lookup x=some c->c≠it) (h3:∀p∈X.pn++Zt,p.1≠it):Inv X Zt σ H {s with heap:=h',toks:=t'}:=by
 have G0:∀b u,H b=some u->b≠it:=fun b u e z=>by rw[z,hn]at e;cases e
 refine I.step (g':=s.gens) (d':=s.drawn) (ch:=[it]) (fun b hb=>?_) (fun b o _ _ hc e _=>k b o (fun z=>hc (by simp[z])) e) (fun b o _ _ hc e _=>⟨o.slots,k b o (fun z=>hc (by simp[z])) e⟩) (fun _ _ _ _ n=>n)
  (fun b o hc e=>⟨o,k b o (fun z=>hc (by simp[z])) e⟩) (fun _ _ e=>e) (fun _ _ _ e=>e) (fun b ps e=>⟨#[],by rw[e];simp⟩) (fun m hm=>?_) (fun b u e=>?_) I.bare
 .have e:b=it:=by simpa using hb
  subst e;exact⟨h1,hL,h2,h3⟩
 .obtain⟨o,es,ep,ho,r⟩:=hm;exact⟨o,es,ep,k _ o (Ne.symm hL) ho,r⟩
 .refine(I.hok b u e).stay (fun c v hc q=>k c v ?_ q) (fun _ q=>q) fun _ _ q=>q;rcases hc with z|z
  .rw[z];exact G0 b u e
  .exact G0 c _ z
theorem Inv.tok(I:Inv X Zt σ H s)(t:Nat):Inv X Zt σ H {s with toks:=t}:=I.un (h':=s.heap) (t':=t) Un.refl I.hok
theorem Inv.kept{t':Nat}(I:Inv X Zt σ H s)(k:∀b u,s.heap.get? b=some u->h'.get? b=some u):Inv X Zt σ H {s with heap:=h',toks:=t'}:=I.un (Un.kept k) (I.hok.kept k)
theorem Inv.laid{a:Addr}{o:HO}{t':Nat}(I:Inv X Zt σ H s)(k:∀b u,s.heap.get? b=some u->h'.get? b=some u)(hp:s.heap.objs.size<=a)(new:ObjOk X.prog X.w (upd H a o) h' a o):
  Inv X Zt σ (upd H a o) {s with heap:=h',toks:=t'}:=I.un (Un.laid k hp (I.hok.fresh hp)) (I.hok.laid k hp new)
theorem Inv.write{x e:Addr}{o:HO}{t':Nat}(I:Inv X Zt σ H s)(mu:Mut (H x))(he:e=x\/H e=some (.own x))(k:∀b u,b≠e->s.heap.get? b=some u->h'.get? b=some u)(sR:∃u,h'.get? e=some u)
  (new:ObjOk X.prog X.w (upd H x o) h' x o):Inv X Zt σ (upd H x o) {s with heap:=h',toks:=t'}:=I.un (Un.write mu he k sR) (I.hok.write mu he k sR new)
theorem Inv.pins_of{bE:List (Addr×Obj)}(I:Inv X Zt σ H s)(h:∀p∈bE,s.heap.get? p.1=some p.2/\H p.1=none/\p.1≠X.env.locals/\p.1∉X.fs/\∀v,p.2.data≠.cell v):Inv X bE σ H s:=
 ⟨I.ok,I.os,I.bare,I.base,I.loc,I.cell,I.free,I.freeC,fun p hp=>(zA6.mp hp).elim (fun z=>I.pin p (List.mem_append_left _ z)) (h p),I.hok,I.len⟩
theorem tW{N:List Str}(hN:N.Nodup){i j:Nat}{x:Str}(a:N[i]?=some x)(b:N[j]?=some x):i=j:=by
 obtain⟨h1,e1⟩:=zAa.mp a;obtain⟨h2,e2⟩:=zAa.mp b;exact(List.getElem_inj hN).mp (e1.trans e2.symm)
theorem jr{M:Model}{A:Around}{E:Value->Shared->Prop}{i:Nat}{x:Str}{v:V}{u:Value}{Q:Unit->Shared->Prop}(I:Inv X Zt σ H s)(hN:X.N.Nodup)(hi:X.N[i]?=some x)(hx:Loc X.env.scope x)(r:RelV v u)
  (h:∀s',Inv X Zt (σ.set i (some v)) H s'->(∃a,Heap.SameBut a s.heap s'.heap/\(a=X.env.locals\/X.env.cells.lookup x=some a))->Q () s') (hf:X.fn x=true\/X.env.scope.names.lookup x=some .local:=by first|exact .inl rfl|exact .inr rfl|assumption):wpAny M A (storeName X.env x u) Q E s:=by
 obtain⟨m,hn,hl⟩:=id I.loc;have B8:(X.env.scope.kind==.class||(X.env.scope.kind==.module&&X.env.locals != X.env.globals))=false:=by rw[I.ok.kind];rfl
 have vT:i<σ.length:=by rw[I.len];exact(zAa.mp hi).1
 have cne:=I.cne
 have tracked:∀{a:Addr} {h':Heap},(∃o,s.heap.get? a=some o/\H a=none)->Heap.SameBut a s.heap h'->HOk X.prog X.w H h':=fun{a h'} ha hs b ob e=>by
  obtain⟨_,_,hfree⟩:=ha;refine(I.hok b ob e).stay (fun c w' hc q=>(hs.2 c ?_).trans q) (fun _ q=>q) fun _ _ q=>q;rintro rfl;rcases hc with rfl|hc
  .rw[hfree]at e;cases e
  .rw[hfree]at hc;cases hc
 rcases hx with hk|hk
 .refine wpAny_storeName_local hk hn (fun h' B9 hs=>?_) B8;obtain⟨oL,_,_,MJ,_⟩:=id hn;refine h _ ⟨I.ok,I.os,I.bare,⟨fun b o e n hb hx=>?_,fun b o e n hb hx=>?_,I.base.free,fun b o e hx=>?_,I.base.tups,I.base.frzs,I.base.tbls⟩,⟨_,B9,fun j y v' e1 e2 e3=>?_⟩,fun y c e=>?_,I.free,I.freeC,fun p hp=>?_,tracked ⟨oL,MJ,I.free⟩ hs,by simpa using I.len⟩ ⟨_,hs,.inl rfl⟩
  .exact(hs.2 b (zB4 (zB2 (zAz e) I.ok.above))).trans (I.base.keep b o e n hb hx)
  .obtain⟨sl,e1⟩:=I.base.slot b o e n hb hx;exact⟨sl,(hs.2 b (zB4 (zB2 (zAz e) I.ok.above))).trans e1⟩
  .obtain⟨o',e1⟩:=I.base.there b o e hx;exact⟨o',(hs.2 b (zB4 (zB2 (zAz e) I.ok.above))).trans e1⟩
  .by_cases hj:j=i
   .subst hj;rw[hi]at e1;cases e1;rw[List.getElem?_set_self vT]at e2;cases e2;exact⟨u,r,.inl ⟨hk,by simp⟩⟩
   .rw[List.getElem?_set_ne (Ne.symm hj)]at e2;obtain⟨u',r',q⟩:=hl j y v' e1 e2 e3;refine⟨u',r',?_⟩;rcases q with⟨k,e⟩|⟨k,c,e,z⟩
    .refine .inl ⟨k,?_⟩;have:y≠x:=fun e=>hj (tW hN e1 (e▸hi));simp[this,e]
    .exact .inr ⟨k,c,e,z.sameBut hs (cne y c e)⟩
  .obtain⟨w',z⟩:=I.cell y c e;exact⟨w',z.sameBut hs (cne y c e)⟩
  .obtain⟨e,n,ne,nf,d⟩:=I.pin p hp;exact⟨(hs.2 p.1 ne).trans e,n,ne,nf,d⟩
 .have ma:X.fn x=true:=by
   rcases hf with z|z
   .exact z
   .rw[z]at hk;cases hk
  obtain⟨c,hc⟩:=I.ok.has x (.inl hk);obtain⟨w',z⟩:=I.cell x c hc;refine wpAny_storeName_cell I.ok.kind hk hc z (fun h' ah hs=>?_);obtain⟨oc,A3,Cb⟩:=id z;refine h {s with heap:=h'} ⟨I.ok,I.os,I.bare,⟨fun b o e n hb hx=>?_,fun b o e n hb hx=>?_,I.base.free,fun b o e hx=>?_,I.base.tups,I.base.frzs,I.base.tbls⟩,⟨m,hn.sameBut hs (Ne.symm (cne x c hc)),fun j y v' e1 e2 e3=>?_⟩,fun y c' e=>?_,I.free,I.freeC,fun p hp=>?_,tracked ⟨oc,A3,I.freeC x c hc⟩ hs,by simpa using I.len⟩ ⟨c,hs,.inr hc⟩
  .exact(hs.2 b (zB4 (zB2 (zAz e) (I.ok.cab x c ma hc)))).trans (I.base.keep b o e n hb hx)
  .obtain⟨sl,e1⟩:=I.base.slot b o e n hb hx;exact⟨sl,(hs.2 b (zB4 (zB2 (zAz e) (I.ok.cab x c ma hc)))).trans e1⟩
  .obtain⟨o',e1⟩:=I.base.there b o e hx;exact⟨o',(hs.2 b (zB4 (zB2 (zAz e) (I.ok.cab x c ma hc)))).trans e1⟩
  .by_cases hj:j=i
   .subst hj;rw[hi]at e1;cases e1;rw[List.getElem?_set_self vT]at e2;cases e2;exact⟨u,r,.inr ⟨.inl hk,c,hc,ah⟩⟩
   .rw[List.getElem?_set_ne (Ne.symm hj)]at e2;obtain⟨u',r',q⟩:=hl j y v' e1 e2 e3;refine⟨u',r',?_⟩;rcases q with q|⟨k,c',e,z'⟩
    .exact .inl q
    .refine .inr ⟨k,c',e,z'.sameBut hs ?_⟩;rintro rfl;exact hj (tW hN e1 (I.ok.inj _ _ _ e hc▸hi))
  .by_cases G1:c'=c
   .subst G1;exact⟨_,ah⟩
   .obtain⟨w2,z2⟩:=I.cell y c' e;exact⟨w2,z2.sameBut hs G1⟩
  .obtain⟨e,n,ne,nf,d⟩:=I.pin p hp;refine⟨(hs.2 p.1 ?_).trans e,n,ne,nf,d⟩;intro q;rw[q,A3]at e;have q':oc=p.2:=zAl e;exact d w' (by rw[<-q'];exact Cb)
theorem jW{M:Model}{A:Around}{E:Value->Shared->Prop}{i:Nat}{x:Str}{v:V}{u:Value}{Q:Unit->Shared->Prop}(I:Inv X Zt σ H s)(hN:X.N.Nodup)(hi:X.N[i]?=some x)(hx:Loc X.env.scope x)(r:RelV v u)
  (h:∀s',Inv X Zt (σ.set i (some v)) H s'->Q () s') (hf:X.fn x=true\/X.env.scope.names.lookup x=some .local:=by first|exact .inl rfl|exact .inr rfl|assumption):wpAny M A (storeName X.env x u) Q E s:=
 jr I hN hi hx r (fun s' I' _=>h s' I') hf
theorem Inv.call'{s':Shared}{ch:List Addr}(I:Inv X Zt σ H s)(ho:s'.os=s.os)(u:Un (frs X.stack) ch H H' s.heap s'.heap)(hok:HOk X.prog X.w H' s'.heap)(hg:AllBare s'.gens)
  (kg:∀b∈ch,(b∈X.ex\/X.s₀.heap.objs.size<=b)/\b≠X.env.locals/\(∀x c,X.env.cells.lookup x=some c->c≠b)/\∀p∈X.pn++Zt,p.1≠b):Inv X Zt σ H' s':=by
 obtain⟨h',g',d',t',o'⟩:=s';have e:o'=s.os:=ho;subst e;exact I.call (g':=g') (t':=t') (d':=d') u hok hg kg
end
abbrev XK:=Value->Option Addr->Hp->Prop
abbrev St:=List (Option V)
abbrev VK:=V->Hp->Prop
abbrev TE:=St->Hp->VK->Prop
abbrev TT:=St->Hp->(Bool->Hp->Prop)->Prop
abbrev TA:=St->Hp->(List V->Hp->Prop)->Prop
structure Ends where
 nx:St->Hp->Prop
 rt:VK
 bk:St->Hp->Prop:=fun _ _=>False
 ct:St->Hp->Prop:=fun _ _=>False
abbrev TS:=Ends->St->Hp->Prop
def EP(X:Cx)(Zt:List (Addr×Obj))(σ:St)(Q:VK)(u:Value)(s':Shared):Prop:=∃v H',Inv X Zt σ H' s'/\RelV v u/\Q v H'
def TP(X:Cx)(Zt:List (Addr×Obj))(σ:St)(Q:Bool->Hp->Prop)(b:Bool)(s':Shared):Prop:=∃H',Inv X Zt σ H' s'/\Q b H'
def AP(X:Cx)(Zt:List (Addr×Obj))(σ:St)(Q:List V->Hp->Prop)(us:List Value)(s':Shared):Prop:=∃vs H',Inv X Zt σ H' s'/\Vals vs us/\Q vs H'
def SP(X:Cx)(Zt:List (Addr×Obj))(D:Ends)(f:Flow)(s':Shared):Prop:=
 match f with
 |.next=>∃af H',Inv X Zt af H' s'/\D.nx af H'
 |.brk=>∃af H',Inv X Zt af H' s'/\D.bk af H'
 |.cont=>∃af H',Inv X Zt af H' s'/\D.ct af H'
 |.ret u=>∃v af H',Inv X Zt af H' s'/\RelV v u/\D.rt v H'
def PE(X:Cx)(e:Expr)(t:TE):Prop:=
 ∀(Zt:List (Addr×Obj)) (s:Shared) (σ:St) (H:Hp) (Q:VK),Inv X Zt σ H s->t σ H Q->wpAny (model X.prog X.w) X.A (eval e X.env) (EP X Zt σ Q) X.xe s
def PT(X:Cx)(e:Expr)(t:TT):Prop:=
 ∀(Zt:List (Addr×Obj)) (s:Shared) (σ:St) (H:Hp) (Q:Bool->Hp->Prop),Inv X Zt σ H s->t σ H Q->wpAny (model X.prog X.w) X.A (isTrue e X.env (eval e X.env)) (TP X Zt σ Q) X.xe s
def PW(X:Cx)(e:Expr)(t:TT):Prop:=
 ∀(whole:Sem Value) (Zt:List (Addr×Obj)) (s:Shared) (σ:St) (H:Hp) (Q:Bool->Hp->Prop),Inv X Zt σ H s->t σ H Q->wpAny (model X.prog X.w) X.A (isTrue e X.env whole) (TP X Zt σ Q) X.xe s
theorem PW.pt{X:Cx}{e:Expr}{t:TT}(h:PW X e t):PT X e t:=h _
def PA(X:Cx)(es:List Expr)(t:TA):Prop:=
 ∀(pos:Pos) (Zt:List (Addr×Obj)) (s:Shared) (σ:St) (H:Hp) (Q:List V->Hp->Prop),Inv X Zt σ H s->t σ H Q->wpAny (model X.prog X.w) X.A (spliced (backTo pos (starEach es X.env))) (AP X Zt σ Q) X.xe s
def PS(X:Cx)(st:Stmt)(t:TS):Prop:=
 ∀(Zt:List (Addr×Obj)) (s:Shared) (σ:St) (H:Hp) (D:Ends),Inv X Zt σ H s->t D σ H->wpAny (model X.prog X.w) X.A (exec st X.env) (SP X Zt D) X.xe s
def PSs(X:Cx)(st:List Stmt)(t:TS):Prop:=
 ∀(Zt:List (Addr×Obj)) (s:Shared) (σ:St) (H:Hp) (D:Ends),Inv X Zt σ H s->t D σ H->wpAny (model X.prog X.w) X.A (execs st X.env) (SP X Zt D) X.xe s
theorem thn{α:Type}{t:Sem α}{Q Q':α->Shared->Prop}{M:Model}{A:Around}{E:Value->Shared->Prop}{s:Shared}(h:wpAny M A t Q E s)(hQ:∀a s,Q a s->Q' a s):wpAny M A t Q' E s:=wpAny_mono h hQ fun _ _ x=>x
section
variable{X:Cx}
theorem bin{a b:Expr}{ta tb:TE}(ha:PE X a ta)(hb:PE X b tb){Zt:List (Addr×Obj)}{s:Shared}{σ:St}{H:Hp}{R:V->V->Hp->Prop}(I:Inv X Zt σ H s)(h:ta σ H fun x H1=>tb σ H1 fun y H2=>R x y H2)
  {α:Type} {Q:α->Shared->Prop} {f:Value->Value->Sem α}
  (hf:∀v u s2 x y H2,Inv X Zt σ H2 s2->RelV x v->RelV y u->R x y H2->wpAny (model X.prog X.w) X.A (f v u) Q X.xe s2):
  wpAny (model X.prog X.w) X.A (eval a X.env) (fun v s₁=>wpAny (model X.prog X.w) X.A (eval b X.env) (fun u s₂=>wpAny (model X.prog X.w) X.A (f v u) Q X.xe s₂) X.xe s₁) X.xe s:=by
 refine thn (ha Zt s σ H _ I h) fun v s1 ⟨x,H1,I1,r1,q1⟩=>?_;refine thn (hb Zt s1 σ H1 _ I1 q1) fun u s2 ⟨y,H2,I2,r2,q2⟩=>?_;exact hf v u s2 x y H2 I2 r1 r2 q2
inductive TVarI(i:Nat)(σ:St)(H:Hp)(Q:VK):Prop
 |mk:∀v,(σ[i]?=some (some v))->(Q v H)->TVarI i σ H Q
def iI(i:Nat):TE:=fun σ H Q=>TVarI i σ H Q
def tC(v:V):TE:=fun _ H Q=>Q v H
theorem vp{i:Nat}{x:Str}{pos:Pos}(hN:X.N[i]?=some x)(hv:Vis X.env.scope x)(hd:(x==("__debug__":Str))=false:=by decide)(cb:(x==("__classdict__":Str))=false:=by decide):PE X (.Name x pos) (iI i):=by
 intro Zt s σ H Q I h;obtain⟨v,e,h⟩:=h;obtain⟨m,hn,hl⟩:=I.loc;obtain⟨u,r,l⟩:=hl i x v hN e hv
 have fin:EP X Zt σ Q u s:=⟨v,H,I,r,h⟩
 rcases l with⟨hk,hm⟩|⟨hk,c,hc,hcell⟩
 .exact wpAny_Name (wpAny_loadName_local I.ok.kind hk hn hm fin) hd
 .rcases hk with hk|hk
  .exact wpAny_Name (wpAny_loadName_cell I.ok.kind hk hc hcell fin) hd
  .exact wpAny_Name (wpAny_loadName_free I.ok.kind hk hc hcell fin cb) hd
theorem ao{i j pos}:PE X (.Constant (.int i) j pos) (tC (.int i)):=fun _ _ _ H _ I h=>wpAny_Constant_int ⟨.int i,H,I.tok _,⟨_,rfl⟩,h⟩
theorem ig{b j pos}:PE X (.Constant (.bool b) j pos) (tC (.bl b)):=fun _ _ _ H _ I h=>Constant_bool ⟨.bl b,H,I,rfl,h⟩
theorem gn{j pos}:PE X (.Constant .none j pos) (tC .non):=fun _ _ _ H _ I h=>Constant_none ⟨.non,H,I,rfl,h⟩
theorem aX{x j pos}:PE X (.Constant (.str x) j pos) (tC (.str x)):=fun _ _ _ H _ I h=>Calls.Constant_str ⟨.str x,H,I.tok _,⟨_,rfl⟩,h⟩
def Gl(X:Cx)(x:Str):Prop:=X.env.kindOf x=some .globalImplicit
theorem jt{E:Value->Shared->Prop}{Zt:List (Addr×Obj)}{s:Shared}{σ:St}{H:Hp}{x:Str}{u:Value}{pos:Pos}{Q:Value->Shared->Prop}(I:Inv X Zt σ H s)(hg:Gl X x)(hm:X.mg x=some u)(h:Q u s)
  (hd:(x==("__debug__":Str))=false:=by decide):wpAny (model X.prog X.w) X.A (eval (.Name x pos) X.env) Q E s:=
 Calls.Name_function_global I.ok.kind hg (Calls.loadGlobal_global (by rw[I.ok.glob];exact I.mod.glob.keeps I.bk) hm h) hd
theorem j7{E:Value->Shared->Prop}{Zt:List (Addr×Obj)}{s:Shared}{σ:St}{H:Hp}{x:Str}{u:Value}{pos:Pos}{Q:Value->Shared->Prop}(I:Inv X Zt σ H s)(hg:Gl X x)(hm:X.mg x=none)(hv:bootBuiltins x=some u)(h:Q u s)
  (hn:x≠"__name__":=by decide) (hd:(x==("__debug__":Str))=false:=by decide):wpAny (model X.prog X.w) X.A (eval (.Name x pos) X.env) Q E s:=by
 obtain⟨mb,h1,h2⟩:=I.mod.blt;exact Calls.Name_function_global I.ok.kind hg (Calls.loadGlobal_builtin (by rw[I.ok.glob];exact I.mod.glob.keeps I.bk) hm (by rw[I.ok.blt];exact h1.keeps I.bk) ((h2 x hn).trans hv) h) hd
theorem bO{x:Str}{v:V}{u:Value}{pos:Pos}(hg:Gl X x)(hm:X.mg x=some u)(r:RelV v u)(hd:(x==("__debug__":Str))=false:=by decide):PE X (.Name x pos) (tC v):=
 fun _ _ _ H _ I h=>jt I hg hm ⟨v,H,I,r,h⟩ hd
theorem dO{x:Str}{v:V}{u:Value}{pos:Pos}(hg:Gl X x)(hm:X.mg x=none)(hv:bootBuiltins x=some u)(r:RelV v u)(hn:x≠"__name__":=by decide)(hd:(x==("__debug__":Str))=false:=by decide):PE X (.Name x pos) (tC v):=
 fun _ _ _ H _ I h=>j7 I hg hm hv ⟨v,H,I,r,h⟩ hn hd
variable{a b:Expr}{ta tb:TE}{pos:Pos}
def PC(X:Cx)(op:CmpOp)(a b:Expr)(t:TE):Prop:=
 ∀(Zt:List (Addr×Obj)) (s:Shared) (σ:St) (H:Hp) (Q:VK),Inv X Zt σ H s->t σ H Q->
  wpAny (model X.prog X.w) X.A (eval a X.env) (fun v s₁=>wpAny (model X.prog X.w) X.A (eval b X.env) (fun u s₂=>wpAny (model X.prog X.w) X.A (compareOp op v u) (EP X Zt σ Q) X.xe s₂) X.xe s₁) X.xe s
def tB(t:TE):TT:=fun σ H Q=>t σ H fun x H1=>∃c,x=.bl c/\Q c H1
theorem Hv{op:CmpOp}{t:TE}(h:PC X op a b t)(h1:behindInMarks op b=false:=by first|exact nobehind _ Zx Zx|rfl):PT X (.Compare a [op] [b] pos) (tB t):=by
 intro Zt s σ H Q I hw;refine wpAny_isTrue_Compare1 (thn (h Zt s σ H _ I hw) fun v s1 h1=>thn h1 fun u s2 h2=>thn h2 fun c s3 ⟨x,H1,I1,r1,q1⟩=>?_) h1;obtain⟨d,rfl,q⟩:=q1;cases r1;exact wpAny_truthy_bool ⟨H1,I1,q⟩
theorem bM{e:Expr}{t:TE}(h:PE X e t)(he:∀whole,isTrue e X.env whole=(do let v <-whole;standAt e.pos;holding [v] (truthy v)):=by intro _;rfl):PT X e (tB t):=by
 intro Zt s σ H Q I hw;refine isTrue_plain (thn (h Zt s σ H _ I hw) fun v s1 ⟨x,H1,I1,r1,q1⟩=>?_) (he _);obtain⟨d,rfl,q⟩:=q1;cases r1;exact wpAny_truthy_bool ⟨H1,I1,q⟩
variable{tA A4:TT}{rest:List Expr}
def Kp(t u:TT):TT:=fun σ H Q=>t σ H fun c H1=>if c=true then u σ H1 Q else Q false H1
def tOr(t u:TT):TT:=fun σ H Q=>t σ H fun c H1=>if c=true then Q true H1 else u σ H1 Q
def Jq(t:TT):TT:=fun σ H Q=>t σ H fun c H1=>Q (!c) H1
theorem qX(ha:PT X a tA):PW X (.BoolOp .And [a] pos) tA:=by
 intro wh Zt s σ H Q I h;refine isTrue_and (thn (ha Zt s σ H Q I h) fun c s1 e=>?_)
 cases c with
 |true=>exact isTrue_and_nil e
 |false=>exact e
theorem gQ(ha:PT X a tA):PW X (.BoolOp .Or [a] pos) tA:=by
 intro wh Zt s σ H Q I h;refine isTrue_or (thn (ha Zt s σ H Q I h) fun c s1 e=>?_)
 cases c with
 |false=>exact isTrue_or_nil e
 |true=>exact e
theorem vq(ha:PT X a tA)(hb:PW X (.BoolOp .And (b::rest) pos) A4):PW X (.BoolOp .And (a::b::rest) pos) (Kp tA A4):=by
 intro wh Zt s σ H Q I h;refine isTrue_and (thn (ha Zt s σ H _ I h) fun c s1 ⟨H1,I1,q1⟩=>?_)
 cases c with
 |true=>exact hb wh Zt s1 σ H1 Q I1 q1
 |false=>exact⟨H1,I1,q1⟩
theorem gG(ha:PT X a tA)(hb:PW X (.BoolOp .Or (b::rest) pos) A4):PW X (.BoolOp .Or (a::b::rest) pos) (tOr tA A4):=by
 intro wh Zt s σ H Q I h;refine isTrue_or (thn (ha Zt s σ H _ I h) fun c s1 ⟨H1,I1,q1⟩=>?_)
 cases c with
 |true=>exact⟨H1,I1,q1⟩
 |false=>exact hb wh Zt s1 σ H1 Q I1 q1
theorem bN(ha:PT X a tA):PT X (.UnaryOp .Not a pos) (Jq tA):=by
 intro Zt s σ H Q I h;exact isTrue_not (ha Zt s σ H (fun c H1=>Q (!c) H1) I h)
def Gy(ta tb:TE):TE:=fun σ H Q=>ta σ H fun x H1=>∃c,x=.bl c/\if c=true then tb σ H1 Q else Q (.bl false) H1
def Kq(ta tb:TE):TE:=fun σ H Q=>ta σ H fun x H1=>∃c,x=.bl c/\if c=true then Q (.bl true) H1 else tb σ H1 Q
def Jr(ta:TE):TE:=fun σ H Q=>ta σ H fun x H1=>∃c,x=.bl c/\Q (.bl (!c)) H1
theorem f9{op}{t:TE}(h:PE X a t):PE X (.BoolOp op [a] pos) t:=fun Zt s σ H Q I hw=>BoolOp_one (h Zt s σ H Q I hw)
theorem cC(ha:PE X a ta)(hb:PE X (.BoolOp .And (b::rest) pos) tb):PE X (.BoolOp .And (a::b::rest) pos) (Gy ta tb):=by
 intro Zt s σ H Q I h;refine BoolOp_and (thn (ha Zt s σ H _ I h) fun v s1 ⟨x,H1,I1,r1,q1⟩=>?_);obtain⟨c,rfl,q1⟩:=q1;cases r1;refine wpAny_truthy_bool ?_
 cases c with
 |true=>exact hb Zt s1 σ H1 Q I1 q1
 |false=>exact⟨.bl false,H1,I1,rfl,q1⟩
theorem Js(ha:PE X a ta)(hb:PE X (.BoolOp .Or (b::rest) pos) tb):PE X (.BoolOp .Or (a::b::rest) pos) (Kq ta tb):=by
 intro Zt s σ H Q I h;refine BoolOp_or (thn (ha Zt s σ H _ I h) fun v s1 ⟨x,H1,I1,r1,q1⟩=>?_);obtain⟨c,rfl,q1⟩:=q1;cases r1;refine wpAny_truthy_bool ?_
 cases c with
 |false=>exact hb Zt s1 σ H1 Q I1 q1
 |true=>exact⟨.bl true,H1,I1,rfl,q1⟩
theorem Ac(ha:PE X a ta):PE X (.UnaryOp .Not a pos) (Jr ta):=by
 intro Zt s σ H Q I h;refine UnaryOp_ (thn (ha Zt s σ H _ I h) fun v s1 ⟨x,H1,I1,r1,q1⟩=>?_);obtain⟨c,rfl,q1⟩:=q1;cases r1;exact not_of (wpAny_truthy_bool ⟨.bl (!c),H1,I1,rfl,q1⟩)
def tIf(t:TT)(ta tb:TE):TE:=fun σ H Q=>t σ H fun c H1=>if c=true then ta σ H1 Q else tb σ H1 Q
theorem ik{c:Expr}(hc:PT X c tA)(ha:PE X a ta)(hb:PE X b tb):PE X (.IfExp c a b pos) (tIf tA ta tb):=by
 intro Zt s σ H Q I h;refine wpAny_IfExp (thn (hc Zt s σ H _ I h) fun d s1 ⟨H1,I1,q1⟩=>?_)
 cases d with
 |true=>exact ha Zt s1 σ H1 Q I1 q1
 |false=>exact hb Zt s1 σ H1 Q I1 q1
end
def SqL(K:Frag)(H:Hp)(a:Addr)(xs:List V):Prop:=
 Rd H a (.lst xs) \/
  ∃(o:Obj) (Zr:Array Value) (n:Nat),K.lookup a=some o/\o.cls=.type "list"/\o.dict=none/\o.data=.seq Zr n/\Zr.size<=sizeLine/\Vals xs Zr.toList
def SqT(K:Frag)(H:Hp)(a:Addr)(xs:List V):Prop:=
 Rd H a (.tup xs) \/
  ∃(o:Obj) (Zr:Array Value) (n:Nat),K.lookup a=some o/\o.cls=.type "tuple"/\o.data=.seq Zr n/\Zr.size<=sizeLine/\Vals xs Zr.toList
def Kr:Value->Option V
 |.none=>some .non
 |.bool b=>some (.bl b)
 |.int i _=>some (.int i)
 |.str x _=>some (.str x)
 |.bytes b _=>some (.byt b)
 |.float b _=>some (.flt b)
 |.ref a=>some (.ref a)
 |.type n=>some (.ty n)
 |_=>none
theorem RelV.abs{x:V}{u:Value}(r:RelV x u):Kr u=some x:=by
 cases x with
 |non=>cases r;rfl
 |bl _=>cases r;rfl
 |int _=>obtain⟨t,rfl⟩:=r;rfl
 |str _=>obtain⟨t,rfl⟩:=r;rfl
 |byt _=>obtain⟨t,rfl⟩:=r;rfl
 |flt _=>obtain⟨t,rfl⟩:=r;rfl
 |ref _=>cases r;rfl
 |ty _=>cases r;rfl
theorem RelV.inj{x y:V}{u:Value}(r:RelV x u)(q:RelV y u):x=y:=zAl (r.abs.symm.trans q.abs)
theorem Vals.inj:∀{xs ys:List V} {us:List Value},Vals xs us->Vals ys us->xs=ys
 |_,_,_,.nil,.nil=>rfl
 |_,_,_,.cons r t,.cons r' t'=>by rw[r.inj r',Vals.inj t t']
section
variable{X:Cx}{Zt:List (Addr×Obj)}{σ:St}{H:Hp}{s:Shared}{a:Addr}{xs ys:List V}
theorem SqL.of{K:Frag}(h:H a=some (.lst xs)):SqL K H a xs:=.inl (.inl h)
theorem SqT.of{K:Frag}(h:H a=some (.tup xs)):SqT K H a xs:=.inl (.inl h)
theorem Inv.list(I:Inv X Zt σ H s)(h:SqL X.K H a xs):∃Zr:List Value,Vals xs Zr/\PlainL s.heap a Zr.toArray/\xs.length<=sizeLine:=by
 rcases h with h|⟨o,Zr,n,hk,hc,hd,hs,hz,r⟩
 .obtain⟨z,Zr,n,r,e⟩:=h.ok I.hok;exact⟨Zr,r,⟨_,n,e,rfl,rfl,rfl⟩,z⟩
 .refine⟨Zr.toList,r,⟨o,n,I.kIn a o hk,hc,hd,by simpa using hs⟩,?_⟩;have e:=r.length;simp only[Array.length_toList]at e;lia
theorem Inv.tuple(I:Inv X Zt σ H s)(h:SqT X.K H a xs):∃Zr:List Value,Vals xs Zr/\IsTup s.heap a Zr.toArray/\xs.length<=sizeLine:=by
 rcases h with h|⟨o,Zr,n,hk,hc,hs,hz,r⟩
 .obtain⟨z,Zr,r,p⟩:=h.ok I.hok;exact⟨Zr,r,p,z⟩
 .refine⟨Zr.toList,r,⟨o,I.kIn a o hk,hc,n,by simpa using hs⟩,?_⟩;have e:=r.length;simp only[Array.length_toList]at e;lia
theorem Inv.list_inj(I:Inv X Zt σ H s)(h:SqL X.K H a xs)(h':SqL X.K H a ys):xs=ys:=by
 obtain⟨Zr,r,⟨o,n,e,_,_,d⟩,_⟩:=I.list h;obtain⟨its',r',⟨o',n',e',_,_,d'⟩,_⟩:=I.list h';rw[e]at e';cases e';rw[d]at d';injection d' with d1 _;have:Zr=its':=by simpa using congrArg Array.toList d1
 subst this;exact r.inj r'
theorem Inv.tuple_inj(I:Inv X Zt σ H s)(h:SqT X.K H a xs)(h':SqT X.K H a ys):xs=ys:=by
 obtain⟨Zr,r,⟨o,e,_,n,d⟩,_⟩:=I.tuple h;obtain⟨its',r',⟨o',e',_,n',d'⟩,_⟩:=I.tuple h';rw[e]at e';cases e';rw[d]at d';injection d' with d1 _;have:Zr=its':=by simpa using congrArg Array.toList d1
 subst this;exact r.inj r'
end
abbrev Cx.wish(X:Cx)(E:Value->Shared->Prop):Cx:={X with xe:=E}
abbrev Cx.nox(X:Cx):Cx:=X.wish fun _ _=>False
theorem Cx.Ok.wish{X:Cx}(ok:X.Ok)(E:Value->Shared->Prop):(X.wish E).Ok:=
 ⟨ok.mod,ok.kind,ok.glob,ok.blt,ok.above,ok.inj,ok.has,ok.cab,ok.hd,ok.frames,ok.stk,ok.exf,ok.bs,ok.bsz,ok.noex,ok.exfs,ok.funs,ok.frf⟩
theorem Cx.Ok.unwish{X:Cx}{E:Value->Shared->Prop}(ok:(X.wish E).Ok):X.Ok:=
 ⟨ok.mod,ok.kind,ok.glob,ok.blt,ok.above,ok.inj,ok.has,ok.cab,ok.hd,ok.frames,ok.stk,ok.exf,ok.bs,ok.bsz,ok.noex,ok.exfs,ok.funs,ok.frf⟩
section
variable{X:Cx}{Zt:List (Addr×Obj)}{σ:St}{H:Hp}{s:Shared}{E:Value->Shared->Prop}
theorem Inv.wish(I:Inv X Zt σ H s)(E:Value->Shared->Prop):Inv (X.wish E) Zt σ H s:=⟨I.ok.wish E,I.os,I.bare,I.base,I.loc,I.cell,I.free,I.freeC,I.pin,I.hok,I.len⟩
theorem Inv.unwish(I:Inv (X.wish E) Zt σ H s):Inv X Zt σ H s:=⟨I.ok.unwish,I.os,I.bare,I.base,I.loc,I.cell,I.free,I.freeC,I.pin,I.hok,I.len⟩
theorem SP.unwish{D:Ends}{f:Flow}{s':Shared}(h:SP (X.wish E) Zt D f s'):SP X Zt D f s':=by
 cases f with
 |next=>obtain⟨af,H',I,q⟩:=h;exact⟨af,H',I.unwish,q⟩
 |brk=>obtain⟨af,H',I,q⟩:=h;exact⟨af,H',I.unwish,q⟩
 |cont=>obtain⟨af,H',I,q⟩:=h;exact⟨af,H',I.unwish,q⟩
 |ret u=>obtain⟨v,af,H',I,r,q⟩:=h;exact⟨v,af,H',I.unwish,r,q⟩
theorem PSs.nox{st:List Stmt}{t:TS}(h:PSs X.nox st t):PSs X st t:=fun Zt s σ H D I hw=>
 wpAny_mono (h Zt s σ H D (I.wish _) hw) (fun _ _ q=>q.unwish) fun _ _ z=>False.elim z
end
section
variable{X:Cx}{st:Stmt}{rest:List Stmt}{t u:TS}{e:Expr}{te:TE}{pos:Pos}
def Ad:TS:=fun D σ H=>D.nx σ H
def Ae(t u:TS):TS:=fun D σ H=>t {D with nx:=u D} σ H
theorem bc:PSs X [] Ad:=fun _ _ σ H _ I h=>wpAny_execs_nil ⟨σ,H,I,h⟩
theorem aJ(h1:PS X st t)(h2:PSs X rest u):PSs X (st::rest) (Ae t u):=by
 intro Zt s σ H D I h;refine wpAny_execs_cons (thn (h1 Zt s σ H {D with nx:=u D} I h) fun f s1 q=>?_)
 cases f with
 |next=>
  obtain⟨af,H',I',q⟩:=q;exact h2 Zt s1 af H' D I' q
 |ret v=>exact q
 |brk=>exact q
 |cont=>exact q
theorem aD(h1:PS X st t):PSs X [st] t:=by
 intro Zt s σ H D I h;refine wpAny_execs_cons (thn (h1 Zt s σ H D I h) fun f s1 q=>?_)
 cases f with
 |next=>exact wpAny_execs_nil q
 |ret v=>exact q
 |brk=>exact q
 |cont=>exact q
theorem Inv.quiet{Zt:List (Addr×Obj)}{σ:St}{H:Hp}{s:Shared}(I:Inv X Zt σ H s):interactive X.env=false:=by simp[interactive,I.ok.kind]
def Jt(te:TE):TS:=fun D σ H=>te σ H fun _ H1=>D.nx σ H1
theorem wG(he:PE X e te)(hs:swapsWith e none pos.line X.env=pure false:=by rfl):PS X (.Expr e pos) (Jt te):=by
 intro Zt s σ H D I h;exact wpAny_Expr_any (thn (he Zt s σ H _ I h) fun v s1 ⟨x,H1,I1,r1,q1⟩=>⟨σ,H1,I1,q1⟩) I.quiet hs
def Hw(te:TE):TS:=fun D σ H=>te σ H D.rt
theorem aO(he:PE X e te):PS X (.Return (some e) pos) (Hw te):=by
 intro Zt s σ H D I h;exact wpAny_Return_some (thn (he Zt s σ H _ I h) fun v s1 ⟨x,H1,I1,r1,q1⟩=>⟨x,σ,H1,I1,r1,q1⟩)
def Ju(c:TT)(t u:TS):TS:=fun D σ H=>c σ H fun b H1=>if b=true then t D σ H1 else u D σ H1
theorem bZ{c:Expr}{a b:List Stmt}{tc:TT}(hc:PT X c tc)(ha:PSs X a t)(hb:PSs X b u):PS X (.If c a b pos) (Ju tc t u):=by
 intro Zt s σ H D I h;refine wpAny_If (thn (hc Zt s σ H _ I h) fun d s1 ⟨H1,I1,q1⟩=>?_)
 cases d with
 |true=>exact ha Zt s1 σ H1 D I1 q1
 |false=>exact hb Zt s1 σ H1 D I1 q1
def Af:TS:=fun _ _ _=>False
theorem Ag:PS X st Af:=fun _ _ _ _ _ _ h=>h.elim
theorem lO{Cc:List Stmt}:PSs X Cc Af:=fun _ _ _ _ _ _ h=>h.elim
end
abbrev TG:=V->St->Hp->(St->Hp->Prop)->Prop
abbrev TGs:=List V->St->Hp->(St->Hp->Prop)->Prop
def PG(X:Cx)(target:Expr)(t:TG):Prop:=
 ∀(Zt:List (Addr×Obj)) (s:Shared) (σ:St) (H:Hp) (v:V) (u:Value) (Q:St->Hp->Prop),Inv X Zt σ H s->RelV v u->t v σ H Q->
  wpAny (model X.prog X.w) X.A (assign target X.env u) (fun _ s'=>∃af H',Inv X Zt af H' s'/\Q af H') X.xe s
def PGs(X:Cx)(ts:List Expr)(t:TGs):Prop:=
 ∀(Zt:List (Addr×Obj)) (s:Shared) (σ:St) (H:Hp) (vs:List V) (us:List Value) (Q:St->Hp->Prop),Inv X Zt σ H s->Vals vs us->t vs σ H Q->
  wpAny (model X.prog X.w) X.A (assignInOrder ((assignEach ts X.env).map (·.2)) us) (fun _ s'=>∃af H',Inv X Zt af H' s'/\Q af H') X.xe s
abbrev Ah:=V->V->V->Hp->(Hp->Prop)->Prop
def Hy(X:Cx)(t:Ah):Prop:=
 ∀(Zt:List (Addr×Obj)) (s:Shared) (σ:St) (H:Hp) (o i v:V) (ov iv u:Value) (Q:Hp->Prop),Inv X Zt σ H s->RelV o ov->RelV i iv->RelV v u->t o i v H Q->
  wpAny (model X.prog X.w) X.A (setItem ov iv u) (fun _ s'=>∃H',Inv X Zt σ H' s'/\Q H') X.xe s
abbrev TIp:=V->V->Hp->VK->Prop
def PIp(X:Cx)(op:Operator)(t:TIp):Prop:=
 ∀(Zt:List (Addr×Obj)) (s:Shared) (σ:St) (H:Hp) (x y:V) (v u:Value) (Q:VK),Inv X Zt σ H s->RelV x v->RelV y u->t x y H Q->
  wpAny (model X.prog X.w) X.A (inplaceOp op v u) (EP X Zt σ Q) X.xe s
section
variable{X:Cx}{pos:Pos}
def dH(i:Nat):TG:=fun v σ H Q=>Q (σ.set i (some v)) H
theorem bw{i:Nat}{x:Str}(hN:X.N.Nodup)(hi:X.N[i]?=some x)(hx:Loc X.env.scope x)(hf:X.fn x=true\/X.env.scope.names.lookup x=some .local:=by first|exact .inl rfl|exact .inr rfl|assumption):PG X (.Name x pos) (dH i):=by
 intro Zt s σ H v u Q I r h;exact wpAny_assign_Name (jW I hN hi hx r (fun s' I'=>⟨_,H,I',h⟩) hf)
def yH:TGs:=fun vs σ H Q=>vs=[]/\Q σ H
def j8(t:TG)(u:TGs):TGs:=fun vs σ H Q=>∃v r,vs=v::r/\t v σ H fun af H'=>u r af H' Q
theorem bT:PGs X [] yH:=by
 intro Zt s σ H vs us Q I r h;obtain⟨e,h⟩:=h;subst e;cases r;exact assignInOrder_nil ⟨σ,H,I,h⟩
theorem az{e:Expr}{es:List Expr}{t:TG}{u:TGs}(h1:PG X e t)(h2:PGs X es u)
  (hs:(assignEach (e::es) X.env).map (·.2)=assign e X.env::(assignEach es X.env).map (·.2):=by rfl):PGs X (e::es) (j8 t u):=by
 intro Zt s σ H vs us Q I r h;obtain⟨v,vr,e1,h⟩:=h;subst e1
 cases r with
 |cons r rr=>
  rw[hs];refine assignInOrder_cons (thn (h1 Zt s σ H _ _ _ I r h) fun _ s1 ⟨pS,H1,I1,q1⟩=>?_);exact h2 Zt s1 pS H1 _ _ Q I1 rr q1
inductive GTupI(K:Frag)(n:Nat)(t:TGs)(v:V)(σ:St)(H:Hp)(Q:St->Hp->Prop):Prop
 |mk:∀a xs,(v=.ref a)->(SqT K H a xs)->(xs.length=n)->(t xs σ H Q)->GTupI K n t v σ H Q
def vy(K:Frag)(n:Nat)(t:TGs):TG:=fun v σ H Q=>GTupI K n t v σ H Q
theorem dR{es:List Expr}{k:Nat}{t:TGs}{n:Nat}(hc:X.calm=true)(h:PGs X es t)
  (hn:(assignEach es X.env).length=n:=by rfl) (cn:(assignEach es X.env).findIdx? (·.1)=none:=by rfl):PG X (.Tuple es k pos) (vy X.K n t):=by
 intro Zt s σ H v u Q I r hw;obtain⟨a,xs,e1,hq,hl,hw⟩:=hw;subst e1;cases r;obtain⟨Zr,rv,ht,hz⟩:=I.tuple hq;refine assign_Tuple_tuple (I.ok.hd hc) ht (by simp[hn,<-hl,rv.length]) cn fun h' hx=>?_;have I1:Inv X Zt σ H {s with heap:=h'}:=I.kept (t':=s.toks) fun b o e=>hx b o (Nat.ne_of_lt (Heap.lt_size e)) e;exact h Zt _ σ H xs _ Q I1 (by simpa using rv) hw
def Ks(to ti:TE)(t:Ah):TG:=fun v σ H Q=>to σ H fun o H1=>ti σ H1 fun i H2=>t o i v H2 fun H3=>Q σ H3
theorem lQ{o i:Expr}{to ti:TE}{t:Ah}(ho:PE X o to)(hi:PE X i ti)(hs:Hy X t)
  (ha:∀v,assign (.Subscript o i pos) X.env v=(do
   let ov <-holding [v] (eval o X.env)
   let iv <-holding [v,ov] (eval i X.env)
   standAt pos
   holding [v,ov,iv] (setItem ov iv v)
   release [v,ov,iv] []):=by intro _;rfl):PG X (.Subscript o i pos) (Ks to ti t):=by
 intro Zt s σ H v u Q I r h;rw[ha];refine zAt (wpAny_holding (thn (ho Zt s σ H _ I h) fun ov s1 ⟨x,H1,I1,r1,q1⟩=>?_));refine zAt (wpAny_holding (thn (hi Zt s1 σ H1 _ I1 q1) fun iv s2 ⟨y,H2,I2,r2,q2⟩=>?_));refine zAt (wpAny_standAt (zAt (wpAny_holding (thn (hs Zt s2 σ H2 x y v ov iv u _ I2 r1 r2 r q2) fun _ s3 ⟨H3,I3,q3⟩=>?_))));exact wpAny_release ⟨σ,H3,I3,q3⟩
def vz(te:TE)(g:TG):TS:=fun D σ H=>te σ H fun x H1=>g x σ H1 D.nx
theorem dU{tg e:Expr}{te:TE}{g:TG}(he:PE X e te)(hg:PG X tg g)(hs:swapsWithSole [tg] e pos.line X.env=pure false:=by rfl)(hw:swappedStores [tg] e X.env=pure none:=by rfl)
  (h1:(assignEach [tg] X.env).map (·.2)=[assign tg X.env]:=by rfl):PS X (.Assign [tg] e pos) (vz te g):=by
 intro Zt s σ H D I h;refine wpAny_Assign_stores (thn (he Zt s σ H _ I h) fun v s1 ⟨x,H1,I1,r1,q1⟩=>?_) hs hw;rw[h1];exact thn (hg Zt s1 σ H1 x v _ I1 r1 q1) fun _ s2 q=>q
theorem qY{i:Nat}{x:Str}{e:Expr}{te:TE}{pos':Pos}(hN:X.N.Nodup)(hi:X.N[i]?=some x)(hx:Loc X.env.scope x)(he:PE X e te)(hs:swapsWith e (some (.Name x pos')) pos.line X.env=pure false:=by rfl)(hf:X.fn x=true\/X.env.scope.names.lookup x=some .local:=by first|exact .inl rfl|exact .inr rfl|assumption):
  PS X (.Assign [.Name x pos'] e pos) (vz te (dH i)):=by
 intro Zt s σ H D I h;refine wpAny_Assign_Name (thn (he Zt s σ H _ I h) fun v s1 ⟨y,H1,I1,r1,q1⟩=>?_) hs;exact jW I1 hN hi hx r1 (fun s2 I2=>⟨_,H1,I2,q1⟩) hf
def Ku(i j:Nat)(ta:TA):TS:=fun D σ H=>ta σ H fun vs H1=>∃v w,vs=[v,w]/\D.nx ((σ.set i (some v)).set j (some w)) H1
theorem qZ{i j:Nat}{x y:Str}{a b:Expr}{ta:TA}{px py pt:Pos}{kt k2 pt2}(hc:X.calm=true)(hN:X.N.Nodup)(hi:X.N[i]?=some x)(hj:X.N[j]?=some y)(MK:i≠j)
  (hx:X.env.scope.names.lookup x=some .local) (hy:X.env.scope.names.lookup y=some .local) (ha:PA X [a,b] ta)
  (hw:swappedStores [.Tuple [.Name x px,.Name y py] kt pt] (.Tuple [a,b] k2 pt2) X.env=pure (some [x,y]))
  (hs:swapsWithSole [.Tuple [.Name x px,.Name y py] kt pt] (.Tuple [a,b] k2 pt2) pos.line X.env=pure false:=by rfl):
  PS X (.Assign [.Tuple [.Name x px,.Name y py] kt pt] (.Tuple [a,b] k2 pt2) pos) (Ku i j ta):=by
 intro Zt s σ H D I h;rw[exec_Assign_arm];refine zAt (wpAny_standAt ?_);rw[hs];refine zAt (zAw ?_);rw[zB0 Zx];refine zAt (Tuple_ (thn (ha _ Zt s σ H _ I h) fun us s1 ⟨vs,H1,I1,r1,q1⟩=>?_));obtain⟨v,w,e1,q1⟩:=q1;subst e1
 obtain⟨u1,u2,rfl,rv,gu⟩:∃u1 u2,us=[u1,u2]/\RelV v u1/\RelV w u2:=by
  cases r1 with
  |cons p q=>
   cases q with
   |cons p' q'=>
    cases q';exact⟨_,_,rfl,p,p'⟩
 refine wpAny_newObj_type ?_ (by show 2<=sizeLine;decide);have I2:Inv X Zt σ H1 {s1 with heap:=s1.heap.push {cls:=.type "tuple",data:=.seq [u1,u2].toArray}}:=I1.kept (t':=s1.toks) fun b o e=>zAv _ e;rw[hw];refine zAt (zAw ?_);show wpAny (model X.prog X.w) X.A (do rule "assign.swapped-stores";let items <-unpackItems (.ref s1.heap.objs.size) 2 none;assignInOrder [fun v=>bindName X.env y v,fun v=>bindName X.env x v] items.reverse;pure Flow.next) _ _ _;refine zAt (wpAny_rule (zAt (unpackItems_tuple (items:=#[u1,u2]) (I.ok.hd hc) (IsTup.new s1.heap _) fun h' fE=>?_)));have I3:=I2.kept (h':=h') (t':=s1.toks) fun b o e=>fE b o (zB4 (zAz e)) e;show wpAny _ _ (assignInOrder [fun v=>bindName X.env y v,fun v=>bindName X.env x v] [u2,u1]>>=fun _=>pure Flow.next) _ _ _;refine zAt (assignInOrder_cons (wpAny_bindName (jW I3 hN hj (.inl hy) gu (fun s2 I4=>?_) (.inr hy))));refine assignInOrder_cons (wpAny_bindName (jW I4 hN hi (.inl hx) rv (fun s3 I5=>assignInOrder_nil (zAw ?_)) (.inr hx)));rw[List.set_comm _ _ (Ne.symm MK)]at I5;exact⟨_,H1,I5,q1⟩
def Jv(to ti te:TE)(md:V->V->Hp->VK->Prop)(A5:TIp)(mf:Ah):TS:=fun D σ H=>to σ H fun o H1=>ti σ H1 fun i H2=>md o i H2 fun x H3=>te σ H3 fun y H4=>A5 x y H4 fun z H5=>mf o i z H5 fun H6=>D.nx σ H6
def Jw(X:Cx)(t:V->V->Hp->VK->Prop):Prop:=
 ∀(Zt:List (Addr×Obj)) (s:Shared) (σ:St) (H:Hp) (o i:V) (ov iv:Value) (Q:VK),Inv X Zt σ H s->RelV o ov->RelV i iv->t o i H Q->
  wpAny (model X.prog X.w) X.A (getItem ov iv) (EP X Zt σ Q) X.xe s
theorem wH{o i e:Expr}{to ti te:TE}{md:V->V->Hp->VK->Prop}{A5:TIp}{mf:Ah}{op:Operator}{pV:Pos}(ho:PE X o to)(hi:PE X i ti)(hg:Jw X md)(he:PE X e te)(hp:PIp X op A5)(hs:Hy X mf)
  (ha:∀ov iv new,augStore i ov iv new=(do holding [new,ov,iv] (setItem ov iv new);release [new,ov,iv] [];pure .next):=by intros;rfl):PS X (.AugAssign (.Subscript o i pV) op e pos) (Jv to ti te md A5 mf):=by
 intro Zt s σ H D I h;refine wpAny_AugAssign_SubscriptAny (thn (ho Zt s σ H _ I h) fun ov s1 ⟨x1,H1,I1,r1,q1⟩=>?_) ha;refine thn (hi Zt s1 σ H1 _ I1 q1) fun iv s2 ⟨x2,H2,I2,r2,q2⟩=>?_;refine thn (hg Zt s2 σ H2 x1 x2 ov iv _ I2 r1 r2 q2) fun old s3 ⟨x3,H3,I3,r3,q3⟩=>?_;refine thn (he Zt s3 σ H3 _ I3 q3) fun v s4 ⟨x4,H4,I4,r4,q4⟩=>?_;refine thn (hp Zt s4 σ H4 x3 x4 old v _ I4 r3 r4 q4) fun new s5 ⟨x5,H5,I5,r5,q5⟩=>?_
 exact thn (hs Zt s5 σ H5 x1 x2 x5 ov iv new _ I5 r1 r2 r5 q5) fun _ s6 ⟨H6,I6,q6⟩=>⟨σ,H6,I6,q6⟩
def ipI(f:Int->Int->Int):TIp:=fun x y H Q=>∃i j,x=.int i/\y=.int j/\Q (.int (f i j)) H
theorem HD:PIp X .Add (ipI fun i j=>i+j):=by
 intro Zt s σ H x y v u Q I r1 r2 h;obtain⟨i,j,e1,e2,q⟩:=h;subst e1;subst e2;obtain⟨t,rfl⟩:=r1;obtain⟨t',rfl⟩:=r2;exact iadd_int ⟨.int _,H,I.tok _,⟨_,rfl⟩,q⟩
theorem HF:PIp X .Sub (ipI fun i j=>i-j):=by
 intro Zt s σ H x y v u Q I r1 r2 h;obtain⟨i,j,e1,e2,q⟩:=h;subst e1;subst e2;obtain⟨t,rfl⟩:=r1;obtain⟨t',rfl⟩:=r2;exact isub_int ⟨.int _,H,I.tok _,⟨_,rfl⟩,q⟩
end
section
variable{X:Cx}{pos:Pos}
end
structure It where
 go:Nat->Hp->Prop
 yld:Nat->Hp->V->Hp->Prop
 stop:Nat->Hp->Prop
def lR(X:Cx)(Zt:List (Addr×Obj))(H:Hp)(b:Addr):Prop:=
 H b=none/\b≠X.env.locals/\b∉X.fs/\(b∈X.ex\/X.s₀.heap.objs.size<=b)/\(∀x c,X.env.cells.lookup x=some c->c≠b)/\∀p∈X.pn++Zt,p.1≠b
theorem Inv.fpOk{X:Cx}{Zt:List (Addr×Obj)}{σ:St}{H H':Hp}{s:Shared}{b:Addr}(I:Inv X Zt σ H s)(hb:s.heap.objs.size<=b)(hn:H' b=none):lR X Zt H' b:=by
 refine⟨hn,Nat.ne_of_gt (zB2 I.lt hb),I.nofs hb,.inr (Nat.le_trans I.sz hb),fun x c e z=>?_,fun p hp z=>?_⟩
 .obtain⟨v,q⟩:=I.cell x c e;exact absurd (zB2 q.lt (by rw[z];exact hb)) (Nat.lt_irrefl _)
 .exact absurd (zB2 (zAz (I.pin p hp).1) (by rw[z];exact hb)) (Nat.lt_irrefl _)
structure Turn(P:Program)(w:World)(K:Frag)(tg:Expr)(J:It)(fp:List Addr)(it:Addr)(tn:Nat->Heap->Prop):Prop where
 mem:it∈fp
 obj:∀i h,tn i h->∀b∈fp,∃o,h.get? b=some o/\∀v,o.data≠.cell v
 keep:∀i h h',tn i h->(∀b∈fp,∀o,h.get? b=some o->h'.get? b=some o)->tn i h'
 item:∀(X:Cx),X.prog=P->X.w=w->X.K=K->X.calm=true->∀(i:Nat) (Zt:List (Addr×Obj)) (s:Shared) (σ:St) (H:Hp) (E:Value->Shared->Prop),Inv X Zt σ H s->(∀b∈fp,lR X Zt H b)->tn i s.heap->J.go i H->
  wpAny (model P w) X.A (pyNext (.ref it)) (fun r s1=>∃u,r=some u /\
   wpAny (model P w) X.A (letOwnedTupleGo tg (.ref it) u) (fun _ s2=>∃x H',Inv X Zt σ H' s2/\RelV x u/\J.yld i H x H'/\tn (i+1) s2.heap/\∀b∈fp,H' b=none) E s1) E s
 done:∀(X:Cx),X.prog=P->X.w=w->X.K=K->X.calm=true->∀(i:Nat) (Zt:List (Addr×Obj)) (s:Shared) (σ:St) (H:Hp) (E:Value->Shared->Prop),Inv X Zt σ H s->(∀b∈fp,lR X Zt H b)->tn i s.heap->J.stop i H->
  wpAny (model P w) X.A (pyNext (.ref it)) (fun r s1=>r=none/\Inv X Zt σ H s1) E s
 self:∀(A:Around) (i:Nat) (s:Shared) (Q:Value->Shared->Prop) (E:Value->Shared->Prop),tn i s.heap->Q (.ref it) s->wpAny (model P w) A (pyIter (.ref it)) Q E s
abbrev TI:=St->Hp->(It->Hp->Prop)->Prop
def PIE(X:Cx)(Zt:List (Addr×Obj))(σ:St)(tg:Expr)(R:It->Hp->Prop)(wa:Value)(s2:Shared):Prop:=
 ∃(it:Addr) (fp:List Addr) (tn:Nat->Heap->Prop) (J:It) (H':Hp),wa=.ref it/\Inv X Zt σ H' s2/\Turn X.prog X.w X.K tg J fp it tn/\tn 0 s2.heap/\(∀b∈fp,lR X Zt H' b)/\R J H'
def PI(X:Cx)(tg iter:Expr)(wi:TI):Prop:=
 ∀(Zt:List (Addr×Obj)) (s:Shared) (σ:St) (H:Hp) (R:It->Hp->Prop),Inv X Zt σ H s->wi σ H R->
  wpAny (model X.prog X.w) X.A (eval iter X.env) (fun v s1=>wpAny (model X.prog X.w) X.A (pyIter v) (PIE X Zt σ tg R) X.xe s1) X.xe s
theorem tX{M:Model}{A:Around}{E:Value->Shared->Prop}{s:Shared}{tg:Expr}{it:Addr}{u:Value}{o:Obj}{n:String}{vs:Array Value}{Q:Unit->Shared->Prop}(ho:s.heap.get? it=some o)(hc:o.cls=.type n)(hd:o.data=.fields vs)
  (hn:["enumerate","zip","dict_itemiterator","dict_reverseitemiterator","odict_iterator","itertools.zip_longest","itertools.pairwise"].contains n=false) (hQ:Q () s):wpAny M A (letOwnedTupleGo tg (.ref it) u) Q E s:=by
 unfold letOwnedTupleGo
 cases tg<;>first
  |exact zAw hQ
  | (cases u<;>first
    |exact zAw hQ
    | (refine zAt (wpAny_load ho ?_)
       rw[hc,hd];show wpAny M A (if(["enumerate","zip","dict_itemiterator","dict_reverseitemiterator","odict_iterator","itertools.zip_longest","itertools.pairwise"].contains n&&vs[0]?==some (rawInt _))=true then _ else _) Q E s;rw[zB0 (by intro h;rw[hn,Bool.false_and]at h;cases h)]
       exact zAw hQ))
def Itl(K:Frag)(a:Addr):It:=
 ⟨fun i H=>∃xs x,SqL K H a xs/\xs[i]?=some x,fun i H x H'=>H'=H/\∀xs,SqL K H a xs->xs[i]?=some x,fun i H=>∃xs,SqL K H a xs/\xs.length<=i⟩
def Itt(K:Frag)(a:Addr):It:=
 ⟨fun i H=>∃xs x,SqT K H a xs/\xs[i]?=some x,fun i H x H'=>H'=H/\∀xs,SqT K H a xs->xs[i]?=some x,fun i H=>∃xs,SqT K H a xs/\xs.length<=i⟩
def Itr(lo:Int)(n:Nat):It:=⟨fun i _=>i<n,fun i H x H'=>H'=H/\x=.int (lo+i),fun i _=>n<=i⟩
theorem yI{P:Program}{w:World}{K:Frag}{tg:Expr}(a it:Addr):Turn P w K tg (Itl K a) [it] it (fun i h=>h.IsListIter it a i) where
 mem:=by simp
 obj:=fun i h st b hb=>by
  have e:b=it:=by simpa using hb
  subst e;obtain⟨o,e,c,d⟩:=st;exact⟨o,e,fun v z=>by rw[d]at z;cases z⟩
 keep:=fun i h h' st k=>st.at fun o e=>k it Zy o e
 item:=by
  intro X hP hw hK hc i Zt s σ H E I hf st hg;subst hP hw hK;obtain⟨xs,x,hq,hx⟩:=hg;obtain⟨Zr,rv,p,hz⟩:=I.list hq;obtain⟨u,hu,ru⟩:=rv.get hx;obtain⟨f0,f1,f2,f3,f4,f5⟩:=hf it Zy;refine wpAny_pyNext_list_item st p.isList (x:=u) (by simpa using hu) fun h' fF sb=>?_;have I1:Inv X Zt σ H {s with heap:=h'}:=I.turned (t':=s.toks) (fun b o hb e=>(sb.2 b hb).trans e) f0 f1 f3 f4 f5;obtain⟨o,e,c,d⟩:=id fF;exact⟨u,rfl,tX (s:={s with heap:=h'}) e c d Zx ⟨x,H,I1,ru,⟨rfl,fun ys hy=>by rw[I.list_inj hy hq];exact hx⟩,fF,fun b hb=>(hf b hb).1⟩⟩
 done:=by
  intro X hP hw hK hc i Zt s σ H E I hf st hg;subst hP hw hK;obtain⟨xs,hq,hx⟩:=hg;obtain⟨Zr,rv,p,hz⟩:=I.list hq;obtain⟨f0,f1,f2,f3,f4,f5⟩:=hf it Zy;have hl:=rv.length
  exact wpAny_pyNext_list_end (I.ok.hd hc) st p.isList (by simp;lia) fun h' eb=>⟨rfl,I.turned (t':=s.toks) (fun b o hb e=>eb b o hb e) f0 f1 f3 f4 f5⟩
 self:=fun _ _ _ _ _ st h=>wpAny_pyIter_listiter st h
theorem vA{P:Program}{w:World}{K:Frag}{tg:Expr}(a it:Addr):Turn P w K tg (Itt K a) [it] it (fun i h=>h.IsTupleIter it a i) where
 mem:=by simp
 obj:=fun i h st b hb=>by
  have e:b=it:=by simpa using hb
  subst e;obtain⟨o,e,c,d⟩:=st;exact⟨o,e,fun v z=>by rw[d]at z;cases z⟩
 keep:=fun i h h' st k=>st.at fun o e=>k it Zy o e
 item:=by
  intro X hP hw hK hc i Zt s σ H E I hf st hg;subst hP hw hK;obtain⟨xs,x,hq,hx⟩:=hg;obtain⟨Zr,rv,p,hz⟩:=I.tuple hq;obtain⟨u,hu,ru⟩:=rv.get hx;obtain⟨f0,f1,f2,f3,f4,f5⟩:=hf it Zy;refine wpAny_pyNext_tuple_item st (show s.heap.IsTuple a Zr.toArray from p) (x:=u) (by simpa using hu) fun h' fF sb=>?_;have I1:Inv X Zt σ H {s with heap:=h'}:=I.turned (t':=s.toks) (fun b o hb e=>(sb.2 b hb).trans e) f0 f1 f3 f4 f5;obtain⟨o,e,c,d⟩:=id fF;exact⟨u,rfl,tX (s:={s with heap:=h'}) e c d Zx ⟨x,H,I1,ru,⟨rfl,fun ys hy=>by rw[I.tuple_inj hy hq];exact hx⟩,fF,fun b hb=>(hf b hb).1⟩⟩
 done:=by
  intro X hP hw hK hc i Zt s σ H E I hf st hg;subst hP hw hK;obtain⟨xs,hq,hx⟩:=hg;obtain⟨Zr,rv,p,hz⟩:=I.tuple hq;obtain⟨f0,f1,f2,f3,f4,f5⟩:=hf it Zy;have hl:=rv.length
  exact wpAny_pyNext_tuple_end (I.ok.hd hc) st (show s.heap.IsTuple a Zr.toArray from p) (by simp;lia) fun h' eb=>⟨rfl,I.turned (t':=s.toks) (fun b o hb e=>eb b o hb e) f0 f1 f3 f4 f5⟩
 self:=fun _ _ _ _ _ st h=>wpAny_pyIter_tupleiter st h
theorem vB{P:Program}{w:World}{K:Frag}{tg:Expr}(it:Addr)(lo:Int)(n:Nat):Turn P w K tg (Itr lo n) [it] it (fun i h=>IsRangeIter h it (lo+(i:Nat)*1) ((n:Int)-(i:Nat)) 1) where
 mem:=by simp
 obj:=fun i h st b hb=>by
  have e:b=it:=by simpa using hb
  subst e
  exact⟨_,st,fun v z=>by
   have z':Data.fields _=Data.cell v:=z
   cases z'⟩
 keep:=fun i h h' st k=>k it Zy _ st
 item:=by
  intro X hP hw hK hc i Zt s σ H E I hf st hg;subst hP hw hK;obtain⟨f0,f1,f2,f3,f4,f5⟩:=hf it Zy;have W:=Walks.range (prog:=X.prog) (w:=X.w) (I.ok.hd hc) it lo 1 n;refine W.item i s _ _ hg st fun v h' tk hv fF kk=>?_;obtain⟨t,rfl⟩:=hv;have I1:Inv X Zt σ H {s with heap:=h',toks:=tk}:=I.turned (fun b o hb e=>kk b o (by simpa using hb) e) f0 f1 f3 f4 f5;refine⟨_,rfl,tX (s:={s with heap:=h',toks:=tk}) (n:="range_iterator") fF rfl rfl Zx ⟨.int (lo+i),H,I1,⟨t,?_⟩,⟨rfl,rfl⟩,fF,fun b hb=>(hf b hb).1⟩⟩;rw[Int.mul_one]
 done:=by
  intro X hP hw hK hc i Zt s σ H E I hf st hg;subst hP hw hK;obtain⟨f0,f1,f2,f3,f4,f5⟩:=hf it Zy
  exact wpAny_pyNext_range_end (I.ok.hd hc) st (by have:n<=i:=hg;lia) fun h' eb=>⟨rfl,I.turned (t':=s.toks) (fun b o hb e=>eb b o hb e) f0 f1 f3 f4 f5⟩
 self:=fun _ _ _ _ _ st h=>wpAny_pyIter_rangeiter st h
section
variable{X:Cx}{tg:Expr}
def Ai(K:Frag)(tl:TE):TI:=fun σ H R=>tl σ H fun x H1=>∃a,x=.ref a/\(∃xs,SqL K H1 a xs)/\R (Itl K a) H1
def HJ(K:Frag)(tl:TE):TI:=fun σ H R=>tl σ H fun x H1=>∃a,x=.ref a/\(∃xs,SqT K H1 a xs)/\R (Itt K a) H1
theorem fJ{l:Expr}{tl:TE}(hl:PE X l tl):PI X tg l (Ai X.K tl):=by
 intro Zt s σ H R I h;refine thn (hl Zt s σ H _ I h) fun v s1 ⟨x,H1,I1,r1,q1⟩=>?_;obtain⟨a,e,⟨xs,hq⟩,q⟩:=q1;subst e;cases r1;obtain⟨Zr,rv,p,hz⟩:=I1.list hq;refine wpAny_pyIter_list p.isList ?_;refine⟨s1.heap.objs.size,[s1.heap.objs.size],_,_,H1,rfl,I1.kept (t':=s1.toks) fun b o e=>Heap.get?_push_of_some _ e,yI a _,⟨_,Heap.get?_push_size _ rfl,rfl,rfl⟩,fun b hb=>?_,q⟩;have e:b=s1.heap.objs.size:=by simpa using hb
 subst e;exact I1.fpOk (zA3 _) (I1.hok.fresh (zA3 _))
theorem fV{l:Expr}{tl:TE}(hl:PE X l tl):PI X tg l (HJ X.K tl):=by
 intro Zt s σ H R I h;refine thn (hl Zt s σ H _ I h) fun v s1 ⟨x,H1,I1,r1,q1⟩=>?_;obtain⟨a,e,⟨xs,hq⟩,q⟩:=q1;subst e;cases r1;obtain⟨Zr,rv,p,hz⟩:=I1.tuple hq;refine wpAny_pyIter_tuple (show s1.heap.IsTuple a Zr.toArray from p) ?_;refine⟨s1.heap.objs.size,[s1.heap.objs.size],_,_,H1,rfl,I1.kept (t':=s1.toks) fun b o e=>Heap.get?_push_of_some _ e,vA a _,⟨_,Heap.get?_push_size _ rfl,rfl,rfl⟩,fun b hb=>?_,q⟩;have e:b=s1.heap.objs.size:=by simpa using hb
 subst e;exact I1.fpOk (zA3 _) (I1.hok.fresh (zA3 _))
theorem tY{Zt:List (Addr×Obj)}{σ:St}{H:Hp}{s:Shared}{R:It->Hp->Prop}{E:Value->Shared->Prop}{lo hi:Int}{t u v:Tok}{tk:Nat}(I:Inv X Zt σ H s)(h1:-(2^62)<=lo)(h2:lo<2^62)(h3:-(2^62)<=hi)(h4:hi<2^62)
  (q:R (Itr lo (hi-lo).toNat) H):wpAny (model X.prog X.w) X.A (pyIter (.ref s.heap.objs.size)) (PIE X Zt σ tg R) E {s with heap:=s.heap.push {cls:=.type "range",data:=.fields #[.int lo t,.int hi u,.int 1 v]},toks:=tk}:=by
 refine wpAny_pyIter_range (IsRange.new ..) (small_one h1 h2 h3 h4) ?_;have I1:Inv X Zt σ H {s with heap:=s.heap.push {cls:=.type "range",data:=.fields #[.int lo t,.int hi u,.int 1 v]},toks:=tk}:=I.kept fun b o e=>zAv _ e
 refine⟨(s.heap.push {cls:=.type "range",data:=.fields #[.int lo t,.int hi u,.int 1 v]}).objs.size,[(s.heap.push {cls:=.type "range",data:=.fields #[.int lo t,.int hi u,.int 1 v]}).objs.size],_,_,H,rfl,
  I1.kept (t':=tk) fun b o e=>zAv _ e,vB _ lo (hi-lo).toNat,?_,fun b hb=>?_,q⟩
 .have e1:lo+((0:Nat):Int)*1=lo:=by simp
  have e2:(((hi-lo).toNat:Nat):Int)-((0:Nat):Int)=Builtin.Range.rangeSize lo hi 1:=by rw[rangeSize_one];split<;>lia
  show IsRangeIter _ _ (lo+((0:Nat):Int)*1) ((((hi-lo).toNat:Nat):Int)-((0:Nat):Int)) 1;rw[e1,e2];exact zB1 _ rfl
 .have e:b=(s.heap.push {cls:=.type "range",data:=.fields #[.int lo t,.int hi u,.int 1 v]}).objs.size:=by simpa using hb
  subst e;exact I1.fpOk (zA3 _) (I1.hok.fresh (zA3 _))
def Jx(ta:TA):TI:=fun σ H R=>ta σ H fun vs H1=>∃j:Int,vs=[.int j]/\-(2^62)<=j/\j<2^62/\R (Itr 0 j.toNat) H1
def Jy(ta:TA):TI:=fun σ H R=>ta σ H fun vs H1=>∃i j:Int,vs=[.int i,.int j]/\(-(2^62)<=i/\i<2^62/\-(2^62)<=j/\j<2^62)/\R (Itr i (j-i).toNat) H1
theorem gj{a:Expr}{ta:TA}{p pos:Pos}(hg:Gl X "range")(hm:X.mg "range"=none)(ha:PA X [a] ta)(hs:starEach [a] X.env=[(false,eval a X.env)]:=by rfl):PI X tg (.Call (.Name "range" p) [a] [] pos) (Jx ta):=by
 intro Zt s σ H R I h;refine Call_ (j7 I hg hm boot_range (PyProof.Rows.callWith_type1 (thn (ha pos Zt s σ H _ I h) fun us s1 ⟨vs,H1,I1,r1,q1⟩=>?_) hs rfl));obtain⟨j,e,q1,q2,q⟩:=q1;subst e
 cases r1 with
 |cons r rr=>
  cases rr;obtain⟨t,rfl⟩:=r;exact call_range_1 (tY I1 Zz Zz q1 q2 (by simpa using q))
theorem pY{a b:Expr}{ta:TA}{p pos:Pos}(hg:Gl X "range")(hm:X.mg "range"=none)(ha:PA X [a,b] ta)(hs:starEach [a,b] X.env=[(false,eval a X.env),(false,eval b X.env)]:=by rfl)(nk:starEach [b] X.env=[(false,eval b X.env)]:=by rfl):
  PI X tg (.Call (.Name "range" p) [a,b] [] pos) (Jy ta):=by
 intro Zt s σ H R I h;refine Call_ (j7 I hg hm boot_range (PyProof.Rows.callWith_type1 (thn (ha pos Zt s σ H _ I h) fun us s1 ⟨vs,H1,I1,r1,q1⟩=>?_) (by rw[hs,nk]) (by rw[nk];rfl)));obtain⟨i,j,e,⟨q1,q2,q3,q4⟩,q⟩:=q1;subst e
 cases r1 with
 |cons r rr=>
  cases rr with
  |cons r' rr=>
   cases rr;obtain⟨t,rfl⟩:=r;obtain⟨t',rfl⟩:=r';exact call_range_2 (tY I1 q1 q2 q3 q4 q)
def Kv(wi:TI)(g:TG)(tb:TS):TS:=fun D σ H=>wi σ H fun J H1=>∃W:Nat->Nat->St->Hp->Prop,(∃m,W 0 m σ H1)/\∀i m σ H,W i m σ H->
 (J.stop i H/\D.nx σ H)\/(J.go i H/\∃N:St->Hp->Prop,(∀af H',N af H'->∃m',m'<m/\W (i+1) m' af H')/\∀x H',J.yld i H x H'->g x σ H' fun ar H2=>tb {D with nx:=N,ct:=N,bk:=D.nx} ar H2)
def cW(fp:List Addr)(h:Heap):List (Addr×Obj):=fp.filterMap fun b=>(h.get? b).map fun o=>(b,o)
theorem dW{fp:List Addr}{h:Heap}{b:Addr}{o:Obj}(hb:b∈fp)(e:h.get? b=some o):(b,o)∈cW fp h:=List.mem_filterMap.mpr ⟨b,hb,by rw[e];rfl⟩
theorem pZ{fp:List Addr}{h:Heap}{p:Addr×Obj}(hp:p∈cW fp h):p.1∈fp/\h.get? p.1=some p.2:=by
 obtain⟨b,hb,e⟩:=List.mem_filterMap.mp hp
 cases q:h.get? b with
 |none=>rw[q]at e;cases e
 |some o=>
  rw[q]at e;have e':(b,o)=p:=zAl e;subst e';exact⟨hb,q⟩
theorem Inv.pinned{Zt:List (Addr×Obj)}{σ:St}{H:Hp}{s:Shared}{fp:List Addr}(I:Inv X Zt σ H s)(hf:∀b∈fp,lR X Zt H b)(ho:∀b∈fp,∃o,s.heap.get? b=some o/\∀v,o.data≠.cell v):Inv X (Zt++cW fp s.heap) σ H s:=
 I.pins_of fun p hp=>(zA6.mp hp).elim (fun z=>I.pin p (zB5 _ z)) fun z=>by
  obtain⟨hb,e⟩:=pZ z;obtain⟨f0,f1,f2,_⟩:=hf p.1 hb;obtain⟨o,e',d⟩:=ho p.1 hb;rw[e]at e';cases e';exact⟨e,f0,f1,f2,d⟩
theorem Inv.unpinned{Zt pl:List (Addr×Obj)}{σ:St}{H:Hp}{s:Shared}(I:Inv X (Zt++pl) σ H s):Inv X Zt σ H s:=I.pins_of fun p hp=>I.pin p (zB5 _ (List.mem_append_left _ hp))
theorem fW{iter:Expr}{body:List Stmt}{wi:TI}{g:TG}{tb:TS}{pos:Pos}(hp:PassesOwn (model X.prog X.w) X.A X.env X.xe)(hc:X.calm=true)(hi:PI X tg iter wi)(hg:PG X tg g)(hb:PSs X body tb)
  (hs:∀x,foldedSetIterable iter X.env x=pure x:=by intro _;rfl):PS X (.For tg iter body [] pos) (Kv wi g tb):=by
 intro Zt s σ H D I h;refine wpAny_For (thn (hi Zt s σ H _ I h) fun v s1 h1=>thn h1 fun wa s2 h2=>?_) hs;obtain⟨it,fp,tn,J,H2,e,I2,T,qa,f2,W,⟨m0,w0⟩,turn⟩:=h2;subst e
 have qf:∀{H':Hp},(∀b∈fp,H' b=none)->∀b∈fp,lR X Zt H' b:=fun hn b hb=>⟨hn b hb,(f2 b hb).2⟩
 refine codeAny_forLoop_any (fun n s'=>∃i af H',Inv X Zt af H' s'/\tn i s'.heap/\(∀b∈fp,H' b=none)/\W i n af H') ?_ m0 ⟨0,σ,H2,I2,qa,fun b hb=>(f2 b hb).1,w0⟩;rintro n s3 ⟨i,fI,H3,I3,nr,nv,w3⟩;rcases turn i n fI H3 w3 with⟨stop,qn⟩|⟨go,N,hN,step⟩
 .refine wpAny_passesOwn hp (thn (T.done X rfl rfl rfl hc i Zt s3 fI H3 X.xe I3 (qf nv) nr stop) fun r s4 ⟨hr,I4⟩=>?_);subst hr;exact wpAny_execs_nil ⟨fI,H3,I4,qn⟩
 .refine wpAny_passesOwn hp (thn (T.item X rfl rfl rfl hc i Zt s3 fI H3 X.xe I3 (qf nv) nr go) fun r s4 ⟨u,hr,h4⟩=>?_);subst hr;refine wpAny_passesOwn hp (thn h4 fun _ s5 ⟨x,H5,I5,r5,y5,ki,wb⟩=>?_);have wc:=I5.pinned (qf wb) (T.obj _ _ ki);refine wpAny_passesOwn hp (thn (hg _ s5 fI H5 x u _ wc r5 (step x H5 y5)) fun _ s6 ⟨eM,H6,I6,q6⟩=>?_);refine wpAny_passesOwn hp (thn (hb _ s6 eM H6 _ I6 q6) fun f s7 q7=>?_)
  have again:∀{kr:St} {H7:Hp},Inv X (Zt++cW fp s5.heap) kr H7 s7->N kr H7->∃m,m<n/\∃i af H',Inv X Zt af H' s7/\tn i s7.heap/\(∀b∈fp,H' b=none)/\W i m af H':=fun{kr H7} I7 n7=>by
   obtain⟨m',hm,w7⟩:=hN kr H7 n7;refine⟨m',hm,i+1,kr,H7,I7.unpinned,T.keep _ _ _ ki fun b hb o e=>(I7.pin (b,o) (zB5 _ (zB5 _ (dW hb e)))).1,fun b hb=>?_,w7⟩;obtain⟨o,e,d⟩:=T.obj _ _ ki b hb;exact(I7.pin (b,o) (zB5 _ (zB5 _ (dW hb e)))).2.1
  cases f with
  |next=>obtain⟨kr,H7,I7,n7⟩:=q7;exact again I7 n7
  |cont=>obtain⟨kr,H7,I7,n7⟩:=q7;exact again I7 n7
  |brk=>obtain⟨kr,H7,I7,q7⟩:=q7;exact⟨kr,H7,I7.unpinned,q7⟩
  |ret v=>obtain⟨x7,kr,H7,I7,r7,q7⟩:=q7;exact⟨x7,kr,H7,I7.unpinned,r7,q7⟩
end
theorem nQ{K:Frag}{a:Addr}{xs:List V}{g:TG}{tb:TS}{D:Ends}{σ:St}{H:Hp}(Pv:Nat->St->Hp->Prop)(h0:Pv 0 σ H)(hl:∀i σ H,i<=xs.length->Pv i σ H->SqL K H a xs)
  (hs:∀i x σ H,xs[i]?=some x->Pv i σ H->g x σ H fun ar H2=>tb {D with nx:=Pv (i+1),ct:=Pv (i+1),bk:=D.nx} ar H2) (hd:∀σ H,Pv xs.length σ H->D.nx σ H):
  ∃W:Nat->Nat->St->Hp->Prop,(∃m,W 0 m σ H)/\∀i m σ H,W i m σ H->
   ((Itl K a).stop i H/\D.nx σ H)\/((Itl K a).go i H/\∃N:St->Hp->Prop,(∀af H',N af H'->∃m',m'<m/\W (i+1) m' af H')/\∀x H',(Itl K a).yld i H x H'->g x σ H' fun ar H2=>tb {D with nx:=N,ct:=N,bk:=D.nx} ar H2):=by
 refine⟨fun i m σ H=>m=xs.length-i/\i<=xs.length/\Pv i σ H,⟨xs.length,by simp,Nat.zero_le _,h0⟩,?_⟩;rintro i m σ H ⟨rfl,hi,p⟩;have q:=hl i σ H hi p;by_cases aE:i<xs.length
 .refine .inr ⟨⟨xs,xs[i],q,by simp[aE]⟩,Pv (i+1),fun af H' p'=>⟨xs.length-(i+1),Zz,rfl,aE,p'⟩,fun x H' y=>?_⟩;obtain⟨e,y⟩:=y;subst e;exact hs i x σ _ (y xs q) p
 .have e:i=xs.length:=Zz
  subst e;exact .inl ⟨⟨xs,q,zA3 _⟩,hd σ H p⟩
theorem wI{K:Frag}{a:Addr}{xs:List V}{g:TG}{tb:TS}{D:Ends}{σ:St}{H:Hp}(Pv:Nat->St->Hp->Prop)(h0:Pv 0 σ H)(hl:∀i σ H,i<=xs.length->Pv i σ H->SqT K H a xs)
  (hs:∀i x σ H,xs[i]?=some x->Pv i σ H->g x σ H fun ar H2=>tb {D with nx:=Pv (i+1),ct:=Pv (i+1),bk:=D.nx} ar H2) (hd:∀σ H,Pv xs.length σ H->D.nx σ H):
  ∃W:Nat->Nat->St->Hp->Prop,(∃m,W 0 m σ H)/\∀i m σ H,W i m σ H->
   ((Itt K a).stop i H/\D.nx σ H)\/((Itt K a).go i H/\∃N:St->Hp->Prop,(∀af H',N af H'->∃m',m'<m/\W (i+1) m' af H')/\∀x H',(Itt K a).yld i H x H'->g x σ H' fun ar H2=>tb {D with nx:=N,ct:=N,bk:=D.nx} ar H2):=by
 refine⟨fun i m σ H=>m=xs.length-i/\i<=xs.length/\Pv i σ H,⟨xs.length,by simp,Nat.zero_le _,h0⟩,?_⟩;rintro i m σ H ⟨rfl,hi,p⟩;have q:=hl i σ H hi p;by_cases aE:i<xs.length
 .refine .inr ⟨⟨xs,xs[i],q,by simp[aE]⟩,Pv (i+1),fun af H' p'=>⟨xs.length-(i+1),Zz,rfl,aE,p'⟩,fun x H' y=>?_⟩;obtain⟨e,y⟩:=y;subst e;exact hs i x σ _ (y xs q) p
 .have e:i=xs.length:=Zz
  subst e;exact .inl ⟨⟨xs,q,zA3 _⟩,hd σ H p⟩
theorem ju{lo:Int}{n:Nat}{g:TG}{tb:TS}{D:Ends}{σ:St}{H:Hp}(Pv:Nat->St->Hp->Prop)(h0:Pv 0 σ H)
  (hs:∀i σ H,i<n->Pv i σ H->g (.int (lo+i)) σ H fun ar H2=>tb {D with nx:=Pv (i+1),ct:=Pv (i+1),bk:=D.nx} ar H2) (hd:∀σ H,Pv n σ H->D.nx σ H):
  ∃W:Nat->Nat->St->Hp->Prop,(∃m,W 0 m σ H)/\∀i m σ H,W i m σ H->
   ((Itr lo n).stop i H/\D.nx σ H)\/((Itr lo n).go i H/\∃N:St->Hp->Prop,(∀af H',N af H'->∃m',m'<m/\W (i+1) m' af H')/\∀x H',(Itr lo n).yld i H x H'->g x σ H' fun ar H2=>tb {D with nx:=N,ct:=N,bk:=D.nx} ar H2):=by
 refine⟨fun i m σ H=>m=n-i/\i<=n/\Pv i σ H,⟨n,by simp,Nat.zero_le _,h0⟩,?_⟩;rintro i m σ H ⟨rfl,hi,p⟩;by_cases aE:i<n
 .refine .inr ⟨aE,Pv (i+1),fun af H' p'=>⟨n-(i+1),Zz,rfl,aE,p'⟩,fun x H' y=>?_⟩;obtain⟨e,y⟩:=y;subst e y;exact hs i σ _ aE p
 .have e:i=n:=Zz
  subst e;exact .inl ⟨zA3 _,hd σ H p⟩
abbrev R2:=V->V->Hp->VK->Prop
def OpR(X:Cx)(f:Value->Value->Sem Value)(r:R2):Prop:=
 ∀(Zt:List (Addr×Obj)) (s:Shared) (σ:St) (H:Hp) (x y:V) (v u:Value) (Q:VK),Inv X Zt σ H s->RelV x v->RelV y u->r x y H Q->
  wpAny (model X.prog X.w) X.A (f v u) (EP X Zt σ Q) X.xe s
def UnR(X:Cx)(f:Value->Sem Value)(r:V->Hp->VK->Prop):Prop:=
 ∀(Zt:List (Addr×Obj)) (s:Shared) (σ:St) (H:Hp) (x:V) (v:Value) (Q:VK),Inv X Zt σ H s->RelV x v->r x H Q->
  wpAny (model X.prog X.w) X.A (f v) (EP X Zt σ Q) X.xe s
def dw(X:Cx)(f:Value)(r:List V->Hp->VK->Prop):Prop:=
 ∀(Zt:List (Addr×Obj)) (s:Shared) (σ:St) (H:Hp) (xs:List V) (us:List Value) (Q:VK),Inv X Zt σ H s->Vals xs us->r xs H Q->
  wpAny (model X.prog X.w) X.A (call f us) (EP X Zt σ Q) X.xe s
def tOp(r:R2)(ta tb:TE):TE:=fun σ H Q=>ta σ H fun x H1=>tb σ H1 fun y H2=>r x y H2 Q
def tUn(r:V->Hp->VK->Prop)(ta:TE):TE:=fun σ H Q=>ta σ H fun x H1=>r x H1 Q
inductive RII(C:Int->Int->Prop)(g:Int->Int->V)(x:V)(y:V)(H:Hp)(Q:VK):Prop
 |mk:∀i j,(x=.int i)->(y=.int j)->(C i j)->(Q (g i j) H)->RII C g x y H Q
def rI(C:Int->Int->Prop)(g:Int->Int->V):R2:=fun x y H Q=>RII C g x y H Q
inductive RI0I(g:Int->Int->V)(x:V)(y:V)(H:Hp)(Q:VK):Prop
 |mk:∀i j,(x=.int i)->(y=.int j)->(Q (g i j) H)->RI0I g x y H Q
def rI0(g:Int->Int->V):R2:=fun x y H Q=>RI0I g x y H Q
inductive RUI(g:Int->V)(x:V)(H:Hp)(Q:VK):Prop
 |mk:∀i,(x=.int i)->(Q (g i) H)->RUI g x H Q
def rU(g:Int->V):V->Hp->VK->Prop:=fun x H Q=>RUI g x H Q
section
variable{X:Cx}{a b c:Expr}{ta tb tc:TE}{pos:Pos}
theorem HN(ha:PE X a ta)(hb:PE X b tb){Zt:List (Addr×Obj)}{s:Shared}{σ:St}{H:Hp}{R:V->V->Hp->Prop}(I:Inv X Zt σ H s)
  (h:ta σ H fun x H1=>tb σ H1 fun y H2=>R x y H2) {Q:Value->Shared->Prop} {f:Value->Value->Sem Value}
  (hf:∀v u s2 x y H2,Inv X Zt σ H2 s2->RelV x v->RelV y u->R x y H2->wpAny (model X.prog X.w) X.A (f v u) Q X.xe s2):
  wpAny (model X.prog X.w) X.A (eval a X.env) (fun v s₁=>wpAny (model X.prog X.w) X.A (eval b X.env) (fun u s₂=>wpAny (model X.prog X.w) X.A (f v u) Q X.xe s₂) X.xe s₁) X.xe s:=by
 refine thn (ha Zt s σ H _ I h) fun v s1 ⟨x,H1,I1,r1,q1⟩=>?_;refine thn (hb Zt s1 σ H1 _ I1 q1) fun u s2 ⟨y,H2,I2,r2,q2⟩=>?_;exact hf v u s2 x y H2 I2 r1 r2 q2
theorem aR{op:Operator}{r:R2}(ho:OpR X (binaryOp op) r)(ha:PE X a ta)(hb:PE X b tb):PE X (.BinOp a op b pos) (tOp r ta tb):=by
 intro Zt s σ H Q I h;exact wpAny_BinOp (HN ha hb I h fun v u s2 x y H2 I2 rx ry q=>ho Zt s2 σ H2 x y v u Q I2 rx ry q)
theorem wJ{op:UnaryOp}{r:V->Hp->VK->Prop}(ho:UnR X (unaryOp op) r)(ha:PE X a ta):PE X (.UnaryOp op a pos) (tUn r ta):=by
 intro Zt s σ H Q I h;exact UnaryOp_ (thn (ha Zt s σ H _ I h) fun v s1 ⟨x,H1,I1,r1,q1⟩=>ho Zt s1 σ H1 x v Q I1 r1 q1)
theorem opI{f:Value->Value->Sem Value}{C:Int->Int->Prop}{g:Int->Int->Int}
  (rule:∀(i j:Int) (t u:Tok) (s:Shared) (Q:Value->Shared->Prop) (E:Value->Shared->Prop),C i j->Q (.int (g i j) s.toks) {s with toks:=s.toks+1}->wpAny (model X.prog X.w) X.A (f (.int i t) (.int j u)) Q E s):
  OpR X f (rI C fun i j=>.int (g i j)):=by
 intro Zt s σ H x y v u Q I rx ry h;obtain⟨i,j,rfl,rfl,hc,q⟩:=h;obtain⟨t,rfl⟩:=rx;obtain⟨t',rfl⟩:=ry;exact rule i j t t' s _ _ hc ⟨.int (g i j),H,I.tok _,⟨_,rfl⟩,q⟩
theorem Jz{f:Value->Value->Sem Value}{g:Int->Int->Int}
  (rule:∀(i j:Int) (t u:Tok) (s:Shared) (Q:Value->Shared->Prop) (E:Value->Shared->Prop),Q (.int (g i j) s.toks) {s with toks:=s.toks+1}->wpAny (model X.prog X.w) X.A (f (.int i t) (.int j u)) Q E s):
  OpR X f (rI0 fun i j=>.int (g i j)):=by
 intro Zt s σ H x y v u Q I rx ry h;obtain⟨i,j,rfl,rfl,q⟩:=h;obtain⟨t,rfl⟩:=rx;obtain⟨t',rfl⟩:=ry;exact rule i j t t' s _ _ ⟨.int (g i j),H,I.tok _,⟨_,rfl⟩,q⟩
theorem Ei{f:Value->Value->Sem Value}{g:Int->Int->Bool}
  (rule:∀(i j:Int) (t u:Tok) (s:Shared) (Q:Value->Shared->Prop) (E:Value->Shared->Prop),Q (.bool (g i j)) s->wpAny (model X.prog X.w) X.A (f (.int i t) (.int j u)) Q E s):
  OpR X f (rI0 fun i j=>.bl (g i j)):=by
 intro Zt s σ H x y v u Q I rx ry h;obtain⟨i,j,rfl,rfl,q⟩:=h;obtain⟨t,rfl⟩:=rx;obtain⟨t',rfl⟩:=ry;exact rule i j t t' s _ _ ⟨.bl (g i j),H,I,rfl,q⟩
def Kw(i j:Int):Prop:=0<j/\j<1073741824
def vC(i j:Int):Prop:=0<=j/\j<=1000000/\i.natAbs<2^64
def CMul(i j:Int):Prop:=(-(2^64)<i/\i<2^64)\/(-(2^64)<j/\j<2^64)
theorem CMul.ok{i j:Int}(h:CMul i j):IntMulOk i j:=by
 rcases h with⟨h1,h2⟩|⟨h1,h2⟩
 .exact .of_left (intBits_le_64 h1 h2)
 .exact .of_right (intBits_le_64 h1 h2)
theorem cg:OpR X (binaryOp .Add) (rI0 fun i j=>.int (i+j)):=Jz fun _ _ _ _ _ _ _ q=>add_int q
theorem vD:OpR X (binaryOp .Sub) (rI0 fun i j=>.int (i-j)):=Jz fun _ _ _ _ _ _ _ q=>sub_int q
theorem lU:OpR X (binaryOp .Mult) (rI CMul fun i j=>.int (i*j)):=opI fun _ _ _ _ _ _ _ hc q=>mul_int q hc.ok
theorem wK:OpR X (binaryOp .FloorDiv) (rI Kw fun i j=>.int (i / j)):=opI fun i j _ _ _ _ _ hc q=>by
 have h1:(0:Int)<j:=hc.1;have h2:j<1073741824:=hc.2;exact floordiv_int Zz (by rw[Int.fdiv_eq_ediv_of_nonneg i Zz];exact q) (.inl (PyProof.noPylong_small Zz))
theorem jK:OpR X (binaryOp .Mod) (rI (fun _ j=>0<j) fun i j=>.int (i % j)):=opI fun i j _ _ _ _ _ hc q=>by
 have h1:(0:Int)<j:=hc;exact mod_int' Zz (by rw[Int.fmod_eq_emod_of_nonneg i Zz];exact q)
theorem rm:OpR X (binaryOp .Pow) (rI vC fun i j=>.int (i^j.toNat)):=opI fun _ _ _ _ _ _ _ hc q=>pow_int_small hc.1 hc.2.1 hc.2.2 q
theorem unI{f:Value->Sem Value}{g:Int->Int}
  (rule:∀(i:Int) (t:Tok) (s:Shared) (Q:Value->Shared->Prop) (E:Value->Shared->Prop),Q (.int (g i) s.toks) {s with toks:=s.toks+1}->wpAny (model X.prog X.w) X.A (f (.int i t)) Q E s):
  UnR X f (rU fun i=>.int (g i)):=by
 intro Zt s σ H x v Q I rx h;obtain⟨i,rfl,q⟩:=h;obtain⟨t,rfl⟩:=rx;exact rule i t s _ _ ⟨.int (g i),H,I.tok _,⟨_,rfl⟩,q⟩
theorem rz:UnR X (unaryOp .USub) (rU fun i=>.int (-i)):=unI fun _ _ _ _ _ q=>neg_int q
end
def JB:V->V->Bool
 |.non,.non=>true|.non,.int _=>true|.int _,.non=>true|.non,.bl _=>true|.bl _,.non=>true|.non,.str _=>true|.str _,.non=>true
 |.int _,.int _=>true|.bl _,.bl _=>true|.str _,.str _=>true|.byt _,.byt _=>true
 |.int _,.str _=>true|.str _,.int _=>true|.bl _,.str _=>true|.str _,.bl _=>true
 |_,_=>false
def rEq:R2:=fun x y H Q=>JB x y=true/\Q (.bl (decide (x=y))) H
def rNe:R2:=fun x y H Q=>JB x y=true/\Q (.bl (!decide (x=y))) H
theorem wL{i j:Int}:decide (V.int i=V.int j)=(i==j):=by
 rw[Bool.eq_iff_iff];simp
theorem Aj{i j:Bool}:decide (V.bl i=V.bl j)=(i==j):=by
 rw[Bool.eq_iff_iff];simp
theorem wM{i j:Str}:decide (V.str i=V.str j)=(i==j):=by
 rw[Bool.eq_iff_iff];simp
theorem wN{i j:Array UInt8}:decide (V.byt i=V.byt j)=(i.toList==j.toList):=by
 rw[Bool.eq_iff_iff];cases i;cases j;simp
section
variable{X:Cx}{a b c:Expr}{ta tb tc:TE}{pos:Pos}
theorem bA{Zt:List (Addr×Obj)}{σ:St}{H:Hp}{s:Shared}{Q:VK}{k k':Bool}(I:Inv X Zt σ H s)(q:Q (.bl k) H)(e:k=k'):EP X Zt σ Q (.bool k') s:=by
 subst e;exact⟨.bl k,H,I,rfl,q⟩
theorem iW:OpR X (compareOp .Eq) rEq:=by
 intro Zt s σ H x y v u Q I rx ry h;obtain⟨hs,q⟩:=h
 cases x with
 |non=>
  cases rx
  cases y with
  |non=>cases ry;exact PySem.EqNone.eq_none_none (bA I q Zy)
  |bl j=>cases ry;exact PySem.EqNone.eq_none_bool (bA I q Zy)
  |int j=>obtain⟨t',rfl⟩:=ry;exact PySem.EqNone.eq_none_int (bA I q Zy)
  |str j=>obtain⟨t',rfl⟩:=ry;exact PySem.EqNone.eq_none_str (bA I q Zy)
  |_=>exact absurd (show false=true from hs) zAg
 |bl i=>
  cases rx
  cases y with
  |non=>cases ry;exact PySem.EqNone.eq_bool_none (bA I q Zy)
  |bl j=>cases ry;exact eq_bool (bA I q Aj)
  |str j=>obtain⟨t',rfl⟩:=ry;exact PySem.EqMixed.eq_bool_str (bA I q Zy)
  |_=>exact absurd (show false=true from hs) zAg
 |int i=>
  obtain⟨t,rfl⟩:=rx
  cases y with
  |non=>cases ry;exact PySem.EqNone.eq_int_none (bA I q Zy)
  |int j=>obtain⟨t',rfl⟩:=ry;exact eq_int (bA I q wL)
  |str j=>obtain⟨t',rfl⟩:=ry;exact PySem.EqMixed.eq_int_str (bA I q Zy)
  |_=>exact absurd (show false=true from hs) zAg
 |str i=>
  obtain⟨t,rfl⟩:=rx
  cases y with
  |non=>cases ry;exact PySem.EqNone.eq_str_none (bA I q Zy)
  |bl j=>cases ry;exact PySem.EqMixed.eq_str_bool (bA I q Zy)
  |int j=>obtain⟨t',rfl⟩:=ry;exact PySem.EqMixed.eq_str_int (bA I q Zy)
  |str j=>obtain⟨t',rfl⟩:=ry;exact eq_str (bA I q wM)
  |_=>exact absurd (show false=true from hs) zAg
 |byt i=>
  obtain⟨t,rfl⟩:=rx
  cases y with
  |byt j=>obtain⟨t',rfl⟩:=ry;exact PySem.W.eq_bytes (bA I q wN)
  |_=>exact absurd (show false=true from hs) zAg
 |_=>cases y<;>exact absurd (show false=true from hs) zAg
theorem nR:OpR X (compareOp .NotEq) rNe:=by
 intro Zt s σ H x y v u Q I rx ry h;obtain⟨hs,q⟩:=h
 cases x with
 |non=>
  cases rx
  cases y with
  |non=>cases ry;exact PySem.EqNone.ne_none_none (bA I q Zy)
  |bl j=>cases ry;exact PySem.EqNone.ne_none_bool (bA I q Zy)
  |int j=>obtain⟨t',rfl⟩:=ry;exact PySem.EqNone.ne_none_int (bA I q Zy)
  |str j=>obtain⟨t',rfl⟩:=ry;exact PySem.EqNone.ne_none_str (bA I q Zy)
  |_=>exact absurd (show false=true from hs) zAg
 |bl i=>
  cases rx
  cases y with
  |non=>cases ry;exact PySem.EqNone.ne_bool_none (bA I q Zy)
  |bl j=>cases ry;exact ne_bool (bA I q (congrArg not Aj))
  |str j=>obtain⟨t',rfl⟩:=ry;exact PySem.EqMixed.ne_bool_str (bA I q Zy)
  |_=>exact absurd (show false=true from hs) zAg
 |int i=>
  obtain⟨t,rfl⟩:=rx
  cases y with
  |non=>cases ry;exact PySem.EqNone.ne_int_none (bA I q Zy)
  |int j=>obtain⟨t',rfl⟩:=ry;exact ne_int (bA I q (congrArg not wL))
  |str j=>obtain⟨t',rfl⟩:=ry;exact PySem.EqMixed.ne_int_str (bA I q Zy)
  |_=>exact absurd (show false=true from hs) zAg
 |str i=>
  obtain⟨t,rfl⟩:=rx
  cases y with
  |non=>cases ry;exact PySem.EqNone.ne_str_none (bA I q Zy)
  |bl j=>cases ry;exact PySem.EqMixed.ne_str_bool (bA I q Zy)
  |int j=>obtain⟨t',rfl⟩:=ry;exact PySem.EqMixed.ne_str_int (bA I q Zy)
  |str j=>obtain⟨t',rfl⟩:=ry;exact ne_str (bA I q (congrArg not wM))
  |_=>exact absurd (show false=true from hs) zAg
 |byt i=>
  obtain⟨t,rfl⟩:=rx
  cases y with
  |byt j=>obtain⟨t',rfl⟩:=ry;exact PySem.W.ne_bytes (bA I q (congrArg not wN))
  |_=>exact absurd (show false=true from hs) zAg
 |_=>cases y<;>exact absurd (show false=true from hs) zAg
theorem mV:OpR X (compareOp .Lt) (rI0 fun i j=>.bl (decide (i<j))):=Ei fun _ _ _ _ _ _ _ q=>lt_int q
theorem cj:OpR X (compareOp .LtE) (rI0 fun i j=>.bl (decide (i<=j))):=Ei fun _ _ _ _ _ _ _ q=>le_int q
theorem tZ:OpR X (compareOp .Gt) (rI0 fun i j=>.bl (decide (j<i))):=Ei fun _ _ _ _ _ _ _ q=>gt_int q
theorem Gz:OpR X (compareOp .GtE) (rI0 fun i j=>.bl (decide (j<=i))):=Ei fun _ _ _ _ _ _ _ q=>ge_int q
theorem yJ:OpR X (compareOp .In) (fun x y H Q=>∃i j,x=.str i/\y=.str j/\Q (.bl (!(Builtin.Str.occurrences j i 0 j.length 1).isEmpty)) H):=by
 intro Zt s σ H x y v u Q I rx ry h;obtain⟨i,j,rfl,rfl,q⟩:=h;obtain⟨t,rfl⟩:=rx;obtain⟨t',rfl⟩:=ry;exact in_str (bA I q rfl)
theorem rA:OpR X (compareOp .Is) (fun x y H Q=>y=.non/\Q (.bl (decide (x=.non))) H):=by
 intro Zt s σ H x y v u Q I rx ry h;obtain⟨rfl,q⟩:=h;cases ry;refine is_none_gen (bA I q ?_)
 cases x<;>first
  | (cases rx;rfl)
  | (obtain⟨t,rfl⟩:=rx;rfl)
theorem rB:OpR X (compareOp .NotIn) (fun x y H Q=>∃i j,x=.str i/\y=.str j/\Q (.bl (!(!(Builtin.Str.occurrences j i 0 j.length 1).isEmpty))) H):=by
 intro Zt s σ H x y v u Q I rx ry h;obtain⟨i,j,rfl,rfl,q⟩:=h;obtain⟨t,rfl⟩:=rx;obtain⟨t',rfl⟩:=ry;exact notIn_str (bA I q rfl)
theorem bf(b:Expr){op:CmpOp}(h:op≠.In:=by decide)(h2:op≠.NotIn:=by decide):behindInMarks op b=false:=by
 have e1:(op==CmpOp.In)=false:=by cases op<;>first|rfl|exact absurd rfl h
 have e2:(op==CmpOp.NotIn)=false:=by cases op<;>first|rfl|exact absurd rfl h2
 cases b<;>simp[behindInMarks,e1,e2]
theorem dZ{op:CmpOp}{r:R2}(ho:OpR X (compareOp op) r)(ha:PE X a ta)(hb:PE X b tb)(hm:behindInMarks op b=false):PE X (.Compare a [op] [b] pos) (tOp r ta tb):=by
 intro Zt s σ H Q I h;exact wpAny_Compare1 (HN ha hb I h fun v u s2 x y H2 I2 rx ry q=>ho Zt s2 σ H2 x y v u Q I2 rx ry q) hm
def Ak(t:TE):TT:=fun σ H Q=>t σ H fun x H'=>∃k,x=.bl k/\Q k H'
theorem bj{op:CmpOp}{r:R2}(ho:OpR X (compareOp op) r)(ha:PE X a ta)(hb:PE X b tb)(hm:behindInMarks op b=false):PT X (.Compare a [op] [b] pos) (Ak (tOp r ta tb)):=by
 intro Zt s σ H Q I h
 refine wpAny_isTrue_Compare1 (thn (ha Zt s σ H _ I h) fun v s1 ⟨x,H1,I1,r1,q1⟩=>thn (hb Zt s1 σ H1 _ I1 q1) fun u s2 ⟨y,H2,I2,r2,q2⟩=>
  thn (ho Zt s2 σ H2 x y v u _ I2 r1 r2 q2) fun c s3 ⟨z,H3,I3,r3,k,e,q3⟩=>?_) hm
 subst e;cases r3;exact wpAny_truthy_bool ⟨H3,I3,q3⟩
def vG(r r':R2)(ta tb tc:TE):TE:=fun σ H Q=>ta σ H fun x H1=>tb σ H1 fun y H2=>r x y H2 fun z H3=>∃k,z=.bl k /\
 (if k=true then tc σ H3 fun w' H4=>r' y w' H4 Q else Q (.bl false) H3)
theorem cP{op qh:CmpOp}{r r':R2}(ho:OpR X (compareOp op) r)(iX:OpR X (compareOp qh) r')(ha:PE X a ta)(hb:PE X b tb)(hc:PE X c tc)
  (hm:lastMarks [op,qh] [b,c]=false:=by with_unfolding_all rfl):PE X (.Compare a [op,qh] [b,c] pos) (vG r r' ta tb tc):=by
 intro Zt s σ H Q I h
 refine Compare_chain (thn (ha Zt s σ H _ I h) fun v s1 ⟨x,H1,I1,r1,q1⟩=>chain_link (thn (hb Zt s1 σ H1 _ I1 q1) fun u s2 ⟨y,H2,I2,r2,q2⟩=>
  thn (ho Zt s2 σ H2 x y v u _ I2 r1 r2 q2) fun d s3 ⟨z,H3,I3,r3,k,e,q3⟩=>?_)) hm
 subst e;cases r3;refine wpAny_truthy_bool ?_
 cases k with
 |false=>exact ite_ff ⟨.bl false,H3,I3,rfl,q3⟩
 |true=>exact ite_tt (chain_last (thn (hc Zt s3 σ H3 _ I3 q3) fun w' s4 ⟨z',H4,I4,r4,q4⟩=>iX Zt s4 σ H4 y z' u w' Q I4 r2 r4 q4))
theorem jX{op qh:CmpOp}{r r':R2}(ho:OpR X (compareOp op) r)(iX:OpR X (compareOp qh) r')(ha:PE X a ta)(hb:PE X b tb)(hc:PE X c tc)
  (hm:lastMarks [op,qh] [b,c]=false:=by with_unfolding_all rfl):PT X (.Compare a [op,qh] [b,c] pos) (Ak (vG r r' ta tb tc)):=by
 intro Zt s σ H Q I h
 refine isTrue_chain (thn (ha Zt s σ H _ I h) fun v s1 ⟨x,H1,I1,r1,q1⟩=>test_link (thn (hb Zt s1 σ H1 _ I1 q1) fun u s2 ⟨y,H2,I2,r2,q2⟩=>
  thn (ho Zt s2 σ H2 x y v u _ I2 r1 r2 q2) fun d s3 ⟨z,H3,I3,r3,k,e,q3⟩=>?_)) hm
 subst e;cases r3;refine wpAny_truthy_bool ?_
 cases k with
 |false=>
  obtain⟨k',e',q'⟩:=q3;cases e';exact ite_ff ⟨H3,I3,q'⟩
 |true=>
  refine ite_tt (test_last (thn (hc Zt s3 σ H3 _ I3 q3) fun w' s4 ⟨z',H4,I4,r4,q4⟩=>thn (iX Zt s4 σ H4 y z' u w' _ I4 r2 r4 q4) fun d' s5 ⟨z2,H5,I5,r5,k2,e2,q5⟩=>?_));subst e2;cases r5;exact wpAny_truthy_bool ⟨H5,I5,q5⟩
theorem j9:(sizeLine:Nat)<2^63:=by rw[sizeLine_eq];decide
theorem cH:OpR X (binaryOp .Add) (fun x y H Q=>∃i j,x=.str i/\y=.str j/\i.length+j.length<=sizeLine/\Q (.str (i++j)) H):=by
 intro Zt s σ H x y v u Q I rx ry h;obtain⟨i,j,rfl,rfl,hz,q⟩:=h;obtain⟨t,rfl⟩:=rx;obtain⟨t',rfl⟩:=ry;exact add_str (fun t' tk=>⟨.str (i++j),H,I.tok _,⟨_,rfl⟩,q⟩) hz
theorem vals1{x:V}{us:List Value}(r:Vals [x] us):∃u,us=[u]/\RelV x u:=by
 cases r with
 |cons r1 r2=>cases r2;exact⟨_,rfl,r1⟩
theorem vals2{x y:V}{us:List Value}(r:Vals [x,y] us):∃u w',us=[u,w']/\RelV x u/\RelV y w':=by
 cases r with
 |cons r1 r2=>
  cases r2 with
  |cons r3 r4=>cases r4;exact⟨_,_,rfl,r1,r3⟩
theorem jw(hc:X.calm=true):dw X (.builtin "max") (fun xs H Q=>∃i j,xs=[.int i,.int j]/\Q (.int (if j>i then j else i)) H):=by
 intro Zt s σ H xs us Q I r h;obtain⟨i,j,rfl,q⟩:=h;obtain⟨u,w',rfl,⟨t,rfl⟩,⟨t',rfl⟩⟩:=vals2 r
 refine max_two_ints (I.ok.hd hc) fun h' tk k=>⟨_,H,I.kept k,?_,q⟩
 by_cases hj:j>i
 .rw[zB3 hj,zB3 hj];exact⟨_,rfl⟩
 .rw[zB0 hj,zB0 hj];exact⟨_,rfl⟩
theorem jx(hc:X.calm=true):dw X (.builtin "min") (fun xs H Q=>∃i j,xs=[.int i,.int j]/\Q (.int (if j<i then j else i)) H):=by
 intro Zt s σ H xs us Q I r h;obtain⟨i,j,rfl,q⟩:=h;obtain⟨u,w',rfl,⟨t,rfl⟩,⟨t',rfl⟩⟩:=vals2 r
 refine min_two_ints (I.ok.hd hc) fun h' tk k=>⟨_,H,I.kept k,?_,q⟩
 by_cases hj:j<i
 .rw[zB3 hj,zB3 hj];exact⟨_,rfl⟩
 .rw[zB0 hj,zB0 hj];exact⟨_,rfl⟩
theorem yK:dw X (.type "int") (fun xs H Q=>(∃i,xs=[.int i]/\Q (.int i) H)\/∃k,xs=[.bl k]/\Q (.int (if k then 1 else 0)) H):=by
 intro Zt s σ H xs us Q I r h;rcases h with⟨i,rfl,q⟩|⟨k,rfl,q⟩
 .obtain⟨u,rfl,t,rfl⟩:=vals1 r;exact call_int_int ⟨.int i,H,I,⟨_,rfl⟩,q⟩
 .obtain⟨u,rfl,r1⟩:=vals1 r;cases r1;exact call_int_bool ⟨.int (if k then 1 else 0),H,I.tok _,⟨_,rfl⟩,q⟩
theorem iJ:dw X (.type "str") (fun xs H Q=>∃i,xs=[.int i]/\i.natAbs.log2<1920/\Q (.str (toString i)) H):=by
 intro Zt s σ H xs us Q I r h;obtain⟨i,rfl,hz,q⟩:=h;obtain⟨u,rfl,t,rfl⟩:=vals1 r;exact PySem.P.str_of_int hz ⟨.str _,H,I.tok _,⟨_,rfl⟩,q⟩
end
structure ObjM(h:Heap)(x dx C:Addr)(mA:Str->Option Value):Prop where
 obj:h.get? x=some (PySem.W.instObj C dx)
 ns:h.Ns1 dx mA
 ne:dx≠x
theorem yL{h:Heap}{dx:Addr}{mA:Str->Option Value}(n:h.Ns1 dx mA):∃od,h.get? dx=some od/\∀name,PySem.W.lookIn name od=some (mA name):=by
 obtain⟨o,es,ep,ho,hd,hk,_,hm⟩:=n;refine⟨o,ho,fun name=>?_⟩;have e:=hm name;unfold nsFind findBy at e;rw[<-Array.find?_toList]at e;unfold PySem.W.lookIn;rw[hd];dsimp only;split
 .rename_i y q
  rw[q]at e;exact congrArg some e
 .rename_i q
  rw[q]at e
  have a:es.toList.any (·.refKey)=false:=by
   rw[List.any_eq_false];intro y hy;obtain⟨z,t,Cf⟩:=hk y (Array.mem_toList_iff.mp hy);simp[DictEntry.refKey,Cf]
  have a':¬es.toList.any (·.refKey)=true:=by rw[a];exact zAg
  rw[zB0 a'];exact congrArg some e
theorem ObjM.look{h:Heap}{x dx C:Addr}{mA:Str->Option Value}(I:ObjM h x dx C mA):∃od,PySem.W.InstAt h x (PySem.W.instObj C dx) C (some od)/\∀name,PySem.W.lookIn name od=some (mA name):=
 let⟨od,ho,hl⟩:=yL I.ns
 ⟨od,⟨I.obj,rfl,rfl,ho⟩,hl⟩
section
variable{prog:Program}{w:World}{A:Around}{E:Value->Shared->Prop}{s:Shared}{K:Frag}{x dx C f:Addr}{mA:Str->Option Value}{name:Str}{v:Value}
end
theorem RelO.some_of{v:V}{o:Option Value}(r:RelO (some v) o):∃u,o=some u/\RelV v u:=by
 cases o with
 |none=>exact(show False from r).elim
 |some u=>exact⟨u,rfl,r⟩
section
variable{P:Program}{w:World}{H H':Hp}{h h':Heap}{a C dx:Addr}{fs MG:List (Str×V)}
theorem Ej(hok:HOk P w H h)(e:H a=some (.ins C dx fs)):∃mA,ObjM h a dx C mA/\(∀f,RelO (fs.lookup f) (mA f))/\PySem.Within mA (fs.map (·.1))/\fs.length<=1000/\H dx=some (.own a):=by
 obtain⟨d,z,ne,ob,mA,n,r,q⟩:=(show ObjOk P w H h a (.ins C dx fs)from hok a _ e)
 exact⟨mA,⟨ob,n,ne⟩,r,q,z,d⟩
end
structure Cls(K:Frag)(C:Addr):Prop where
 pg:PySem.W.plainGet K C Str.empty=true
 hd:PySem.W.hasDictIn K C=true
 po:PySem.W.plainOver K C=true
 sa:PySem.W.findIn K (.ref C) "__setattr__"=some (some (.builtin "object.__setattr__"))
theorem Cls.get{K:Frag}{C:Addr}(c:Cls K C)(f:Str):PySem.W.plainGet K C f=true:=c.pg
section
variable{X:Cx}{Zt:List (Addr×Obj)}{σ:St}{H:Hp}{s:Shared}{a C dx:Addr}{fs:List (Str×V)}{f:Str}{v:V}{A:Around}{E:Value->Shared->Prop}
end
section
variable{X:Cx}{o e value:Expr}{f:Str}{pos pos' pV:Pos}{ta tv:TE}
end
section
variable{X:Cx}{Zt:List (Addr×Obj)}{σ:St}{H:Hp}{s:Shared}{A:Around}{E:Value->Shared->Prop}{Q:Value->Shared->Prop}{c:Value}{b:Bool}
inductive TyOf(K:Frag)(H:Hp):V->Value->Prop where
 |non:TyOf K H .non (.type "NoneType")
 |bl (x:Bool):TyOf K H (.bl x) (.type "bool")
 |int (i:Int):TyOf K H (.int i) (.type "int")
 |str (x:Str):TyOf K H (.str x) (.type "str")
 |flt (x:UInt64):TyOf K H (.flt x) (.type "float")
 |lst {a:Addr} {xs:List V} (e:H a=some (.lst xs)):TyOf K H (.ref a) (.type "list")
 |frz {a:Addr} {o:Obj} {xs:List V} (e:H a=some (.frz o (.lst xs))):TyOf K H (.ref a) (.type "list")
 |tup {a:Addr} {xs:List V} (e:H a=some (.tup xs)):TyOf K H (.ref a) (.type "tuple")
 |dK {a:Addr} {Zs:List (Key×V)} (e:H a=some (.dK Zs)):TyOf K H (.ref a) (.type "dict")
 |dT {a:Addr} {Zs:List (List Key×V)} (e:H a=some (.dT Zs)):TyOf K H (.ref a) (.type "dict")
 |ins {a C dx:Addr} {fs:List (Str×V)} (e:H a=some (.ins C dx fs)) (cl:Cls K C) (ha:PySem.W.findIn K (.ref C) "__class__"=some (some (.builtin "object.__class__")))
   (hn:PySem.W.specialIn K (.builtin "object.__class__") "__get__"=some (some (.builtin "getset_descriptor.__get__"))) (ny:PySem.W.takesIn K (.builtin "object.__class__")=some true)
   (hm:PySem.W.mroIn K C (.type "object")=some true):TyOf K H (.ref a) (.ref C)
theorem yM{x:V}{u t:Value}(I:Inv X Zt σ H s)(rx:RelV x u)(ty:TyOf X.K H x t)(e:PySem.W.kitOne X.K t c=some b)(h:∀tk,Q (.bool b) {s with toks:=tk}):
  wpAny (model X.prog X.w) A (call (.builtin "isinstance") [u,c]) Q E s:=by
 cases ty with
 |non=>cases(show u=Value.none from rx);exact PySem.W.kia_one PySem.W.kitx_none I.kIn True.intro e (fun z=>nomatch z) h
 |bl y=>cases(show u=Value.bool y from rx);exact PySem.W.kia_one PySem.W.kitx_bool I.kIn True.intro e (fun z=>nomatch z) h
 |int i=>obtain⟨t,q⟩:=(show ∃t,u=Value.int i t from rx);cases q;exact PySem.W.kia_one PySem.W.kitx_int I.kIn True.intro e (fun z=>nomatch z) h
 |str y=>obtain⟨t,q⟩:=(show ∃t,u=Value.str y t from rx);cases q;exact PySem.W.kia_one PySem.W.kitx_str I.kIn True.intro e (fun z=>nomatch z) h
 |flt y=>obtain⟨t,q⟩:=(show ∃t,u=Value.float y t from rx);cases q;exact PySem.W.kia_one PySem.W.kitx_float I.kIn True.intro e (fun z=>nomatch z) h
 |@lst a xs ea=>
  cases(show u=Value.ref a from rx)
  obtain⟨_,_,n,_,h1⟩:=(show ObjOk X.prog X.w H s.heap a (.lst xs)from I.hok a _ ea)
  exact PySem.W.kia_one PySem.W.kitx_list I.kIn ⟨_,h1,rfl⟩ e (fun z=>nomatch z) h
 |@frz a ob xs ea=>
  cases(show u=Value.ref a from rx)
  obtain⟨_,_,_,n,_,h1⟩:=(show ObjOk X.prog X.w H s.heap a (.frz ob (.lst xs))from I.hok a _ ea)
  exact PySem.W.kia_one PySem.W.kitx_list I.kIn ⟨_,h1,rfl⟩ e (fun z=>nomatch z) h
 |@tup a xs ea=>
  cases(show u=Value.ref a from rx)
  obtain⟨_,_,_,p⟩:=(show ObjOk X.prog X.w H s.heap a (.tup xs)from I.hok a _ ea)
  obtain⟨o,h1,h2,_⟩:=p;exact PySem.W.kia_one PySem.W.kitx_tuple I.kIn ⟨o,h1,h2⟩ e (fun z=>nomatch z) h
 |@dK a Zs ea=>
  cases(show u=Value.ref a from rx)
  obtain⟨_,_,vs,_,p⟩:=(show ObjOk X.prog X.w H s.heap a (.dK Zs)from I.hok a _ ea)
  obtain⟨o,es,ep,h1,h2,_⟩:=p;exact PySem.W.kia_one PySem.W.kitx_dict I.kIn ⟨o,h1,h2.1⟩ e (fun z=>nomatch z) h
 |@dT a Zs ea=>
  cases(show u=Value.ref a from rx)
  obtain⟨_,_,xs,_,o,es,ep,h1,h2,_⟩:=(show ObjOk X.prog X.w H s.heap a (.dT Zs)from I.hok a _ ea)
  exact PySem.W.kia_one PySem.W.kitx_dict I.kIn ⟨o,h1,h2.1⟩ e (fun z=>nomatch z) h
 |@ins a C dx fs ea cl ha hn ny hm=>
  cases(show u=Value.ref a from rx);obtain⟨mA,O,_⟩:=Ej I.hok ea;obtain⟨od,J,_⟩:=O.look;exact PySem.W.kia_one (PySem.W.kitx_own (cl.get _) cl.hd ha hn ny hm) I.kIn J e (fun z=>nomatch z) h
end
structure Room(k:Nat)(A:Around):Prop where
 hd:A.handled=none
 dp:A.depth+3*k+5<recursionLimit
 un:A.units+16*k+200<cLine
 gd:A.guards=some []
theorem Room.mono{j k:Nat}{A:Around}(r:Room k A)(h:j<=k):Room j A:=⟨r.hd,by have:=r.dp;lia,by have:=r.un;lia,r.gd⟩
theorem Room.deeper{k:Nat}{A:Around}(r:Room (k+1) A)(env:Env):Room k (A.deeper env):=
 ⟨r.hd,by have:=r.dp;show A.depth+1+3*k+5<_;lia,by have:=r.un;show A.units+3+16*k+200<_;lia,r.gd⟩
theorem Room.depth{k:Nat}{A:Around}(r:Room k A):A.depth<recursionLimit:=by have:=r.dp;lia
theorem Room.units{k:Nat}{A:Around}(r:Room k A):A.units+64<cLine:=by have:=r.un;lia
def il:TA:=fun _ H Q=>Q [] H
def cA(ta:TE)(tr:TA):TA:=fun σ H Q=>ta σ H fun x H1=>tr σ H1 fun xs H2=>Q (x::xs) H2
section
variable{X:Cx}{e:Expr}{es:List Expr}{te:TE}{t:TA}{pos:Pos}
theorem aj:PA X [] il:=fun _ _ _ _ H Q I h=>Calls.spliced_nil ⟨[],H,I,.nil,h⟩
theorem aP(ha:PE X e te)(hr:PA X es t)(hs:starEach (e::es) X.env=(false,eval e X.env)::starEach es X.env:=by rfl):PA X (e::es) (cA te t):=by
 intro pos Zt s σ H Q I h;rw[hs];show wpAny _ _ (spliced ((false,eval e X.env)::backTo pos (starEach es X.env))) _ _ s;refine Calls.spliced_cons (thn (ha Zt s σ H _ I h) fun u s1 ⟨x,H1,I1,r1,q1⟩=>?_)
 exact thn (hr pos Zt s1 σ H1 _ I1 q1) fun us s2 ⟨xs,H2,I2,r2,q2⟩=>⟨x::xs,H2,I2,.cons r1 r2,q2⟩
def nU(t:TA):TE:=fun σ H Q=>t σ H fun xs H1=>xs.length<=sizeLine/\∀p,H1 p=none->Q (.ref p) (upd H1 p (.tup xs))
def vH(t:TA):TE:=fun σ H Q=>t σ H fun xs H1=>xs.length<=sizeLine/\∀p,H1 p=none->Q (.ref p) (upd H1 p (.lst xs))
theorem bU{x1}(h:PA X es t):PE X (.Tuple es x1 pos) (nU t):=by
 intro Zt s σ H Q I hq;refine wpAny_Tuple_spliced (thn (h pos Zt s σ H _ I hq) fun us s1 ⟨xs,H1,I1,r,z,q⟩=>⟨by rw[<-r.length];exact z,?_⟩);have hf:H1 s1.heap.objs.size=none:=I1.hok.fresh (zA3 _);refine⟨.ref s1.heap.objs.size,upd H1 s1.heap.objs.size (.tup xs),I1.laid (t':=s1.toks) (fun b u e=>zAv _ e) (zA3 _) ?_,rfl,q _ hf⟩;exact⟨z,us,r,⟨_,zB1 _ rfl,rfl,_,rfl⟩⟩
theorem gU(h:PA X es t):PE X (.List es pos) (vH t):=by
 intro Zt s σ H Q I hq;refine wpAny_List_spliced (thn (h pos Zt s σ H _ I hq) fun us s1 ⟨xs,H1,I1,r,z,q⟩=>⟨by rw[<-r.length];exact z,?_⟩);have hf:H1 s1.heap.objs.size=none:=I1.hok.fresh (zA3 _);refine⟨.ref s1.heap.objs.size,upd H1 s1.heap.objs.size (.lst xs),I1.laid (t':=s1.toks) (fun b u e=>zAv _ e) (zA3 _) ?_,rfl,q _ hf⟩;exact⟨z,us,0,r,zB1 _ rfl⟩
end
abbrev Sp:=List V->Hp->VK->XK->Prop
abbrev CXT:=List Env->Hp->Shared->XK->Value->Shared->Prop
structure Env0(P:Program)(w:World)(K:Frag)(mg:Str->Option Value)(base:Heap)(A:Around)(outer:List Env)(s:Shared)(H:Hp):Prop where
 frames:A.frames=some outer
 mod:Mod K mg base
 bs:∀b o,base.get? b=some o->s.heap.get? b=some o/\H b=none
 bsz:base.objs.size<=s.heap.objs.size
 funs:s.heap.FunFrames base outer
 frf:∀b∈frs outer,H b=none
 hok:HOk P w H s.heap
 bare:AllBare s.gens
def CE(outer:List Env)(P:Program)(w:World)(H:Hp)(s:Shared)(Q:VK)(u:Value)(s':Shared):Prop:=
 ∃v H',s'.os=s.os/\AllBare s'.gens/\Un (frs outer) [] H H' s.heap s'.heap/\HOk P w H' s'.heap/\RelV v u/\Q v H'
def CR(CX:CXT)(outer:List Env)(P:Program)(w:World)(H:Hp)(s:Shared)(Q:VK)(E:XK)(r:Result)(s':Shared):Prop:=
 match r with
 |.ok (.ret u)=>CE outer P w H s Q u s'
 |.ok _=>False
 |.error e=>CX outer H s E e s'
structure FnOk(P:Program)(w:World)(K:Frag)(mg:Str->Option Value)(base:Heap)(CX:CXT)(k:Nat)(f:Addr)(fd:FuncData)(ps:List Str)(sp:Sp):Prop where
 len:∀vs H Q E,sp vs H Q E->vs.length=ps.length
 run:∀(A:Around) (outer:List Env) (s:Shared) (H:Hp) (args:Args) (us:List Value) (vs:List V) (Q:VK) (E:XK),Room k A->Env0 P w K mg base A outer s H->BindsTo s fd args (ps.zip us)->Vals vs us->sp vs H Q E->
  codeAny (model P w) A (.call (.ref f) args) (CR CX outer P w H s Q E) s
section
variable{X:Cx}{Zt:List (Addr×Obj)}{σ:St}{H:Hp}{s s':Shared}
theorem Inv.env0(I:Inv X Zt σ H s):Env0 X.prog X.w X.K X.mg X.base X.A X.stack s H:=
 ⟨I.ok.frames,I.ok.mod,I.bs,Nat.le_trans I.ok.bsz I.sz,I.stack,I.stkFree,I.hok,I.bare⟩
theorem Inv.after{Q:VK}{u:Value}(I:Inv X Zt σ H s)(h:CE X.stack X.prog X.w H s Q u s'):EP X Zt σ Q u s':=by
 obtain⟨v,H',os,bare,un,hok,r,q⟩:=h;obtain⟨hh,g,d,t,ML⟩:=s';obtain rfl:ML=s.os:=os;exact⟨v,H',I.call (h':=hh) (g':=g) (d':=d) (t':=t) (ch:=[]) un hok bare (fun b z=>absurd z Zy),r,q⟩
end
def u0(sp:Sp)(nB:List V)(E:XK)(t:TA):TE:=fun σ H Q=>t σ H fun vs H1=>sp (vs++nB) H1 Q E
def Binds(K:Frag)(fd:FuncData)(ps:List Str)(ds:List Value):Prop:=
 ∀(s:Shared) (us:List Value),K.In s.heap->(us++ds).length=ps.length->BindsTo s fd ⟨us,[]⟩ (ps.zip (us++ds))
theorem Binds.all{K:Frag}{fd:FuncData}{ps:List Str}(h:∀us:List Value,us.length=ps.length->bindArgs fd ⟨us,[]⟩=pure (ps.zip us)):Binds K fd ps []:=fun s us _ hl=>by
 rw[zAn]at hl⊢;exact .of_eq (h us hl)
def nW(CX:CXT)(X:Cx)(E:XK):Prop:=∀(Zt:List (Addr×Obj)) (σ:St) (H:Hp) (s:Shared) (e:Value) (s':Shared),Inv X Zt σ H s->CX X.stack H s E e s'->X.xe e s'
section
variable{X:Cx}{CX:CXT}{k:Nat}{f C:Addr}{fd:FuncData}{ps:List Str}{sp:Sp}{nB:List V}{ds:List Value}{E:XK}{x m:Str}{p pos apos:Pos}{e o:Expr}{es:List Expr}{ta:TE}{t:TA}
theorem HQ{Zt:List (Addr×Obj)}{σ:St}{H:Hp}{s:Shared}{Q:VK}{us:List Value}{vs:List V}(F:FnOk X.prog X.w X.K X.mg X.base CX k f fd ps sp)(hr:Room k X.A)(hb:Binds X.K fd ps ds)(hd:Vals nB ds)(hx:nW CX X E)
  (I:Inv X Zt σ H s) (r:Vals vs us) (h:sp (vs++nB) H Q E):wpAny (model X.prog X.w) X.A (call (.ref f) us) (EP X Zt σ Q) X.xe s:=by
 have r2:Vals (vs++nB) (us++ds):=r.append hd;have hl:(us++ds).length=ps.length:=by rw[<-r2.length];exact F.len _ _ _ _ h
 refine wpAny_call (codeAny_mono (F.run X.A X.stack s H ⟨us,[]⟩ (us++ds) (vs++nB) Q E hr I.env0 (hb s us I.kIn hl) r2 h) fun r s' hq=>?_)
 cases r with
 |error e=>exact hx Zt σ H s e s' I hq
 |ok fl=>
  cases fl with
  |ret u=>exact I.after hq
  |next=>exact False.elim hq
  |brk=>exact False.elim hq
  |cont=>exact False.elim hq
theorem rC(F:FnOk X.prog X.w X.K X.mg X.base CX k f fd ps sp)(hr:Room k X.A)(hg:Gl X x)(hm:X.mg x=some (.ref f))(hk:PySem.W.keepIn X.K (.ref f)=true)(hb:Binds X.K fd ps ds)(hd:Vals nB ds)(hx:nW CX X E)
  (ha:PA X (e::es) t) (eR:(x==("__debug__":Str))=false:=by decide) (he:starEach (e::es) X.env=(false,eval e X.env)::starEach es X.env:=by rfl) (dv:(backTo pos (starEach es X.env)).any (·.1)=false:=by rfl):
  PE X (.Call (.Name x p) (e::es) [] pos) (u0 sp nB E t):=by
 intro Zt s σ H Q I h;refine wpAny_Call_Name_kw (jt I hg hm ?_ eR);refine PySem.W.callWith_K (h₀:=X.base) I.ok.mod.kin hk (thn (ha pos Zt s σ H _ I h) fun us s1 ⟨vs,H1,I1,r,q⟩=>⟨I1.kIn,?_⟩) he dv;exact HQ F hr hb hd hx I1 r q
end
section
variable{X:Cx}{CX:CXT}{k:Nat}{f C:Addr}{fd:FuncData}{ps ks:List Str}{sp:Sp}{E:XK}{x m:Str}{p pos apos MM:Pos}{e o:Expr}{es:List Expr}{RX:List Keyword}{te ta:TE}{t tk:TA}{nm:Option Str}
variable{g:List Value->List Value->List Value}{gV:List V->List V->List V}
end
structure FnScope(N P:List Str)(sc:Scope):Prop where
 kind:sc.kind=.function
 co:sc.isCoroutine=false
 gen:sc.isGenerator=false
 nd:N.Nodup
 pre:N.take P.length=P
 par:∀x∈P,sc.names.lookup x=some .local\/sc.names.lookup x=some .cell
 nofree:∀y∈sc.names,y.2≠.free
theorem q8{kindOf:Str->Option NameKind}{x:Str}:∀{binds:List (Str×Value)} {m:Str->Option Value},(∀v,(x,v)∉binds)->bindL kindOf binds m x=m x
 |[],_,_=>rfl
 | (n,v)::r,m,h=>by
  unfold bindL;rw[q8 fun w hw=>h w (List.mem_cons_of_mem _ hw)];split
  .have:x≠n:=by rintro rfl;exact h v List.mem_cons_self
   simp[this]
  .rfl
theorem q9{kindOf:Str->Option NameKind}{x:Str}:∀{binds:List (Str×Value)} {m:Str->Option Value},(∀v,(x,v)∉binds)->bindC kindOf binds m x=m x
 |[],_,_=>rfl
 | (n,v)::r,m,h=>by
  unfold bindC;rw[q9 fun w hw=>h w (List.mem_cons_of_mem _ hw)];split
  .rfl
  .have:x≠n:=by rintro rfl;exact h v List.mem_cons_self
   simp[this]
theorem qb{kindOf:Str->Option NameKind}{x:Str}{v:Value}:∀{P:List Str} {vs:List Value} {i:Nat} {m:Str->Option Value},P.Nodup->P[i]?=some x->vs[i]?=some v->kindOf x=some .local->
  bindL kindOf (P.zip vs) m x=some v
 |[],_,_,_,_,h,_,_=>by simp at h
 |_::_,[],_,_,_,_,h,_=>by simp at h
 |p::P,w::vs,0,m,nd,h1,h2,hk=>by
  simp at h1 h2;subst h1;subst h2;show bindL kindOf ((p,w)::P.zip vs) m p=_;unfold bindL;rw[q8 fun v hv=>(List.nodup_cons.mp nd).1 (List.of_mem_zip hv).1,if_pos hk];simp
 |p::P,w::vs,i+1,m,nd,h1,h2,hk=>by
  show bindL kindOf ((p,w)::P.zip vs) m x=_;unfold bindL;exact qb (i:=i) (List.nodup_cons.mp nd).2 (by simpa using h1) (by simpa using h2) hk
theorem qd{kindOf:Str->Option NameKind}{x:Str}{v:Value}:∀{P:List Str} {vs:List Value} {i:Nat} {m:Str->Option Value},P.Nodup->P[i]?=some x->vs[i]?=some v->kindOf x≠some .local->
  bindC kindOf (P.zip vs) m x=some v
 |[],_,_,_,_,h,_,_=>by simp at h
 |_::_,[],_,_,_,_,h,_=>by simp at h
 |p::P,w::vs,0,m,nd,h1,h2,hk=>by
  simp at h1 h2;subst h1;subst h2;show bindC kindOf ((p,w)::P.zip vs) m p=_;unfold bindC;rw[q9 fun v hv=>(List.nodup_cons.mp nd).1 (List.of_mem_zip hv).1,if_neg hk];simp
 |p::P,w::vs,i+1,m,nd,h1,h2,hk=>by
  show bindC kindOf ((p,w)::P.zip vs) m x=_;unfold bindC;exact qd (i:=i) (List.nodup_cons.mp nd).2 (by simpa using h1) (by simpa using h2) hk
def start(N:List Str)(vs:List V):St:=vs.map some++List.replicate (N.length-vs.length) none
def jb(CX:CXT)(P:Program)(w:World)(K:Frag)(mg:Str->Option Value)(base:Heap)(N:List Str)(qual:Str)(scope:Scope)(f:Addr)(cd:Value)(A:Around)(outer:List Env)(s:Shared)(H:Hp)(E:XK):Cx where
 prog:=P
 w:=w
 K:=K
 mg:=mg
 base:=base
 A:=A.deeper (envOfC qual scope s.heap.objs.size f cd)
 N:=N
 s₀:=s
 H₀:=H
 env:=envOfC qual scope s.heap.objs.size f cd
 outer:=outer
 stack:=envOfC qual scope s.heap.objs.size f cd::outer
 ex:=[]
 calm:=true
 fn:=fun _=>true
 pn:=[]
 xe:=fun e s'=>wpAny (model P w) (A.deeper (envOfC qual scope s.heap.objs.size f cd)) (leaving (envOfC qual scope s.heap.objs.size f cd) e) (fun _ dy=>CX outer H s E e dy) (fun e' dy=>CX outer H s E e' dy) s'
theorem u5{sc:Scope}{n:Nat}{x:Str}(h:sc.names.lookup x=some .cell):∃c,(cellsFrom n sc.names []).lookup x=some c:=by
 have q:=PySem.W.cellsFrom_some sc.names n [] (.inl h);exact Option.isSome_iff_exists.mp q
theorem qe{CX:CXT}{P:Program}{w:World}{K:Frag}{mg:Str->Option Value}{base:Heap}{N ps:List Str}{qual:Str}{scope:Scope}{f:Addr}{cd:Value}{A:Around}{outer:List Env}{s s1:Shared}{H:Hp}{E:XK}{us:List Value}{vs:List V}
  (S:FnScope N ps scope) (hd:A.handled=none) (e0:Env0 P w K mg base A outer s H) (hl:vs.length=ps.length) (r:Vals vs us)
  (x:InCallC s s.heap.objs.size (bindL (envOfC qual scope s.heap.objs.size f cd).kindOf (ps.zip us) fun _=>none) (cellsFrom (s.heap.objs.size+1) scope.names []) (bindC (envOfC qual scope s.heap.objs.size f cd).kindOf (ps.zip us) fun _=>none) s1):
  Inv (jb CX P w K mg base N qual scope f cd A outer s H E) [] (start N vs) H s1:=by
 have dv:ps.length<=N.length:=by have:=congrArg List.length S.pre;rw[zAd]at this;lia
 obtain⟨h1,tk,rfl,hk⟩:=x.done;have we:∀b:Addr,b∉(jb CX P w K mg base N qual scope f cd A outer s H E).ex:=fun b z=>absurd (show b∈([]:List Addr)from z) Zy
 refine⟨⟨e0.mod,S.kind,rfl,rfl,zA3 _,fun y z c h1 h2=>?_,fun y hy=>?_,fun y c _ h=>?_,fun _=>hd,Around.frames_deeper e0.frames,.inr ⟨rfl,rfl⟩,fun b z=>absurd z (we b),e0.bs,e0.bsz,fun b _ _=>we b,fun b z=>absurd z (we b),e0.funs,e0.frf⟩,
  rfl,e0.bare,Un.kept hk,⟨_,x.toInCall.ns,fun i y v h1 h2 h3=>?_⟩,fun y c h=>⟨_,x.cell y c h⟩,e0.hok.fresh (Nat.le_refl _),fun y c h=>?_,fun p hp=>absurd (show p∈([]:List (Addr×Obj))from hp) Zy,e0.hok.kept hk,?_⟩
 .exact name_of_addr x.apart (PySem.mem_of_lookup h1) (PySem.mem_of_lookup h2)
 .have hy:scope.names.lookup y=some .cell\/scope.names.lookup y=some .free:=hy;rcases hy with hy|hy
  .exact u5 hy
  .exact absurd rfl (S.nofree _ (PySem.mem_of_lookup hy))
 .exact Nat.le_of_lt (x.above y c (PySem.mem_of_lookup h))
 .have hi:i<vs.length:=by
   unfold start at h2;by_cases hi:i<vs.length
   .exact hi
   .rw[List.getElem?_append_right (by simpa using hi)]at h2;rw[List.getElem?_replicate]at h2;split at h2<;>cases h2
  have ha:vs[i]?=some v:=by
   unfold start at h2;rw[List.getElem?_append_left (by simpa using hi),List.getElem?_map]at h2
   cases e:vs[i]? with
   |none=>rw[e]at h2;cases h2
   |some a=>rw[e]at h2;cases h2;rfl
  obtain⟨u,hu,rv⟩:=r.get ha
  have hp:ps[i]?=some y:=by
   rw[<-S.pre,List.getElem?_take_of_lt Zz];exact h1
  have HC:ps.Nodup:=by rw[<-S.pre];exact S.nd.sublist (List.take_sublist _ _)
  refine⟨u,rv,?_⟩;rcases S.par y (zB6 hp)with k|k
  .exact .inl ⟨k,qb HC hp hu k⟩
  .obtain⟨c,e⟩:=u5 (n:=s.heap.objs.size+1) k;refine .inr ⟨.inl k,c,e,?_⟩;have q:=x.cell y c e;rw[qd HC hp hu (by show scope.names.lookup y≠_;rw[k];decide)]at q;exact q
 .exact e0.hok.fresh (Nat.le_of_lt (x.above y c (PySem.mem_of_lookup h)))
 .unfold start;show _=N.length;rw[zA2,zA1,List.length_replicate];lia
theorem Al{CX:CXT}{P:Program}{w:World}{K:Frag}{mg:Str->Option Value}{base:Heap}{k:Nat}{f:Addr}{name qual:Str}{params:Arguments}{body:List Stmt}{scope:Scope}{dV kV doc pm cdv ct oc:Value}{an od:Option Addr}
  {ko:Array (Option Value)} {N ps:List Str} {sp:Sp} (lk:K.lookup f=some ⟨oc,od,.func (PySem.W.fnOf name qual params body scope dV kV doc pm an cdv ct),ko⟩) (cb:PySem.W.codeIn K cdv qual=true) (S:FnScope N ps scope)
  (len:∀vs H Q E,sp vs H Q E->vs.length=ps.length)
  (bP:∀(A:Around) (outer:List Env) (s:Shared) (H:Hp) (vs:List V) (Q:VK) (E:XK),Room k (A.deeper (envOfC qual scope s.heap.objs.size f cdv))->sp vs H Q E->
   ∃t,PSs (jb CX P w K mg base N qual scope f cdv A outer s H E) body t/\t {nx:=fun _ H'=>Q .non H',rt:=Q} (start N vs) H):
  FnOk P w K mg base CX (k+1) f (PySem.W.fnOf name qual params body scope dV kV doc pm an cdv ct) ps sp:=by
 refine⟨len,fun A outer s H args us vs Q E hr e0 hb r gv=>?_⟩;have hl:=len _ _ _ _ gv;have KX:K.In s.heap:=e0.mod.kin.keeps fun b o e=>(e0.bs b o e).1;have lim:s.heap.NoLimit:=e0.mod.nolimit.keeps fun b o e=>(e0.bs b o e).1
 have ku:∀y∈ps.zip us,scope.names.lookup y.1=some .local\/(scope.names.lookup y.1=some .cell/\((cellsFrom (s.heap.objs.size+1) scope.names []).lookup y.1).isSome=true):=fun⟨n,v⟩ hy=>by
  rcases S.par n (List.of_mem_zip hy).1 with q|q
  .exact .inl q
  .exact .inr ⟨q,PySem.W.cellsFrom_some _ _ _ (.inl q)⟩
 refine codeAny_call_function hr.depth (KX _ _ lk) rfl S.co S.gen rfl (PySem.W.codeRec_of KX cb) (hb _ _ _ _ ?_);refine wpAny_newFunctionEnv_cells S.kind ku fun env he s1 x=>?_;subst he;refine⟨lim.keeps x.toInCall.keep,codeAny_func ?_⟩;obtain⟨t,ht,hq⟩:=bP A outer s H vs Q E (hr.deeper _) gv;have I:Inv (jb CX P w K mg base N qual scope f cdv A outer s H E) [] (start N vs) H s1:=qe S hr.hd e0 hl r x;refine wpAny_mono (ht [] s1 (start N vs) H _ I hq) (fun fl s' hs=>?_) fun e s' hs=>hs
 have fin:∀{af:St} {H':Hp} {v:V} {u:Value},Inv (jb CX P w K mg base N qual scope f cdv A outer s H E) [] af H' s'->RelV v u->Q v H'->CE outer P w H s Q u s':=
  fun{af H' v u} J rv q=>⟨v,H',J.os,J.bare,J.base,J.hok,rv,q⟩
 cases fl with
 |ret u=>
  obtain⟨v,af,H',J,rv,q⟩:=hs;exact fin J rv q
 |next=>
  obtain⟨af,H',J,q⟩:=hs;exact fin (v:=V.non) (u:=Value.none) J rfl q
 |brk=>
  obtain⟨_,_,_,q⟩:=hs;exact False.elim q
 |cont=>
  obtain⟨_,_,_,q⟩:=hs;exact False.elim q
section
variable{X:Cx}{x:Str}{p pos:Pos}{e:Expr}{es:List Expr}{t:TA}{id T:String}{r:List V->Hp->VK->Prop}
def tCB(r:List V->Hp->VK->Prop)(t:TA):TE:=fun σ H Q=>t σ H fun vs H1=>r vs H1 Q
theorem aK(hc:dw X (.builtin id) r)(hg:Gl X x)(hm:X.mg x=none)(hv:bootBuiltins x=some (.builtin id))(ha:PA X (e::es) t)(hn:x≠"__name__":=by decide)(eR:(x==("__debug__":Str))=false:=by decide)
  (he:starEach (e::es) X.env=(false,eval e X.env)::starEach es X.env:=by rfl) (dv:(backTo pos (starEach es X.env)).any (·.1)=false:=by rfl):PE X (.Call (.Name x p) (e::es) [] pos) (tCB r t):=by
 intro Zt s σ H Q I h;refine wpAny_Call_Name_kw (j7 I hg hm hv ?_ hn eR);exact PyProof.Rows.callWith_builtin1 (thn (ha pos Zt s σ H _ I h) fun us s1 ⟨vs,H1,I1,r1,q1⟩=>hc Zt s1 σ H1 vs us Q I1 r1 q1) he dv
theorem bI(hc:dw X (.type T) r)(hg:Gl X x)(hm:X.mg x=none)(hv:bootBuiltins x=some (.type T))(ha:PA X (e::es) t)(hn:x≠"__name__":=by decide)(eR:(x==("__debug__":Str))=false:=by decide)
  (he:starEach (e::es) X.env=(false,eval e X.env)::starEach es X.env:=by rfl) (dv:(backTo pos (starEach es X.env)).any (·.1)=false:=by rfl):PE X (.Call (.Name x p) (e::es) [] pos) (tCB r t):=by
 intro Zt s σ H Q I h;refine wpAny_Call_Name_kw (j7 I hg hm hv ?_ hn eR);exact PyProof.Rows.callWith_type1 (thn (ha pos Zt s σ H _ I h) fun us s1 ⟨vs,H1,I1,r1,q1⟩=>hc Zt s1 σ H1 vs us Q I1 r1 q1) he dv
end
end L2
namespace HT
open PySem PyProof.Rows
section
open PySem.SeqAt
open PySem.AutoSeq1 (wpAny_loadPart')
open PySem.MeetsSeq PySem.MeetsSeq2 PySem.MeetsSeq3
end
section
variable{prog:Program}{w:World}{A:Around}{E:Value->Shared->Prop}{s:Shared}
theorem cat_tup{t b:Addr}{vs ws:List Value}{Q:Value->Shared->Prop}(ht:IsTup s.heap t vs.toArray)(hb:IsTup s.heap b ws.toArray)(hv:vs≠[])
  (h1:ws=[]->Q (.ref t) s) (h2:ws≠[]->Q (.ref s.heap.objs.size) {s with heap:=s.heap.push {cls:=.type "tuple",data:=.seq (vs++ws).toArray}})
  (hsz:vs.length+ws.length<=sizeLine):wpAny (model prog w) A (binaryOp .Add (.ref t) (.ref b)) Q E s:=by
 obtain⟨⟨cls,dd,data,sl⟩,ho,hc,n,hd⟩:=id ht;obtain⟨⟨Cn,tq,data2,fN⟩,qk,kx,n2,hd2⟩:=id hb;simp only at hc hd kx hd2;subst hc hd kx hd2;have e:vs.toArray++ws.toArray=(vs++ws).toArray:=by simp
 by_cases hw:ws=[]
 .exact concat_meets ⟨_,ho,rfl⟩ ⟨_,qk,rfl⟩ noFill_tuple_add seq_tuple_add PySem.F.slot_tuple_add PySem.F.entry_tuple_add (PySem.F.args_tuple_add_2 _ _)
   (tuple_addW1 t b vs.toArray ws.toArray n n2 dd tq sl fN (by simpa using hv) (by simp[hw])) ⟨ho,qk,h1 hw⟩
 .refine concat_meets ⟨_,ho,rfl⟩ ⟨_,qk,rfl⟩ noFill_tuple_add seq_tuple_add PySem.F.slot_tuple_add PySem.F.entry_tuple_add (PySem.F.args_tuple_add_2 _ _)
   (tuple_addW2 t b vs.toArray ws.toArray n n2 dd tq sl fN (by simpa using hv) (by simpa using hw) (by rw[List.size_toArray,List.size_toArray];exact hsz)) ⟨ho,qk,?_⟩
  rw[e];exact h2 hw
def sIx(n d:Nat):Option Int->Nat
 |none=>d
 |some v=>if v<0 then(v+(n:Int)).toNat else min v.toNat n
theorem sIx_none(n d:Nat):sIx n d none=d:=rfl
theorem sIx_nat(n d k:Nat):sIx n d (some (k:Int))=min k n:=by
 show(if(k:Int)<0 then((k:Int)+(n:Int)).toNat else min (k:Int).toNat n)=min k n;rw[zB0 Zz,zAi]
theorem HR(n d:Nat)(hd:d<=n)(o:Option Int):sIx n d o<=n:=by
 cases o with
 |none=>exact hd
 |some v=>
  show(if v<0 then(v+(n:Int)).toNat else min v.toNat n)<=n;by_cases hv:v<0
  .rw[zB3 hv];lia
  .rw[zB0 hv];exact Nat.min_le_right _ _
theorem nF(v:Int)(n d:Nat):(if v<0 then max (v+(n:Int)) 0 else min v (n:Int))=((sIx n d (some v):Nat):Int):=by
 show(if v<0 then max (v+(n:Int)) 0 else min v (n:Int))=(((if v<0 then(v+(n:Int)).toNat else min v.toNat n):Nat):Int);by_cases hv:v<0
 .simp only[if_pos hv];lia
 .simp only[if_neg hv];lia
theorem vI(lo hi:Option Int)(n:Nat):Builtin.Slice.sliceAdjust lo hi 1 (n:Int)=(((sIx n 0 lo:Nat):Int),((sIx n n hi:Nat):Int)):=by
 have h1:¬((1:Int)<0):=Zz
 unfold Builtin.Slice.sliceAdjust;simp only[h1,if_false];refine Prod.ext ?_ ?_
 .cases lo with
  |none=>rfl
  |some v=>exact nF v n 0
 .cases hi with
  |none=>rfl
  |some v=>exact nF v n n
theorem vJ(i j:Nat):Builtin.Slice.slicePlaces (i:Int) (j:Int) 1=j-i:=by
 unfold Builtin.Slice.slicePlaces;have h1:(1:Int)>0:=Zz
 simp only[h1,if_true,Int.ediv_one];split<;>lia
theorem nY{v:Value}{o:Option Int}{Q:Option Int->Shared->Prop}(p:IsPart v o)(h:Q o s):wpAny (model prog w) A (Builtin.Slice.slicePartIndex v) Q E s:=by
 cases p with
 |none=>exact slicePart_none h
 |int i t=>exact slicePart_int h
theorem ir{sl:Addr}{vl vu:Value}{lo hi:Option Int}{n:Nat}{Q:Int×Int×Nat->Shared->Prop}(hs:s.heap.IsSliceOf sl vl vu .none)(pl:IsPart vl lo)(pu:IsPart vu hi)
  (h:Q (((sIx n 0 lo:Nat):Int),1,sIx n n hi-sIx n 0 lo) s):wpAny (model prog w) A (Builtin.Slice.sliceApplied (.ref sl) (pure (n:Int))) Q E s:=by
 obtain⟨os,qo,A6,wm⟩:=id hs;unfold Builtin.Slice.sliceApplied Builtin.Slice.sliceFields;refine zAt (zAt (wpAny_field qo wm (x:=vl) rfl (zAt (wpAny_field qo wm (x:=vu) rfl (zAt (wpAny_field qo wm (x:=.none) rfl (zAw ?_)))))));refine zAt (slicePart_none ?_);show wpAny _ _ (if((1:Int)==0)=true then _ else _) _ _ s;rw[zB0 Zx];refine zAt (nY pl (zAt (nY pu (zAt (zAw ?_)))));show wpAny _ _ (match Builtin.Slice.sliceAdjust lo hi 1 (n:Int)with | (lo,hi)=>pure (lo,(1:Int),Builtin.Slice.slicePlaces lo hi 1)) _ _ s;rw[vI lo hi n];show wpAny _ _ (pure (((sIx n 0 lo:Nat):Int),(1:Int),Builtin.Slice.slicePlaces ((sIx n 0 lo:Nat):Int) ((sIx n n hi:Nat):Int) 1)) _ _ s;rw[vJ];exact zAw h
theorem Am(xs:Array Value)(i k:Nat):((List.range k).filterMap fun(m:Nat)=>xs[((i:Int)+(m:Int)*1).toNat]?).toArray=((xs.toList.drop i).take k).toArray:=by
 have e:(fun(m:Nat)=>xs[((i:Int)+(m:Int)*1).toNat]?)=fun m=>xs[i+m]?:=by
  funext m;have:((i:Int)+(m:Int)*1).toNat=i+m:=Zz
  rw[this]
 rw[e];have:=pick_run xs i k;rw[List.filterMap_map]at this;have e2:((fun x=>xs[x]?)∘fun x=>i+x)=fun m=>xs[i+m]?:=rfl;rw[e2]at this;rw[this]
theorem getItem_tuple_cut{t sl:Addr}{items:Array Value}{vl vu:Value}{lo hi:Option Int}{Q:Value->Shared->Prop}(ht:IsTup s.heap t items)(hs:s.heap.IsSliceOf sl vl vu .none)(pl:IsPart vl lo)(pu:IsPart vu hi)
  (hw:¬(sIx items.size 0 lo=0/\sIx items.size items.size hi=items.size))
  (h:Q (.ref s.heap.objs.size) {s with heap:=s.heap.push {cls:=.type "tuple",data:=.seq ((items.toList.drop (sIx items.size 0 lo)).take (sIx items.size items.size hi-sIx items.size 0 lo)).toArray}})
  (hsz:items.size<=sizeLine):wpAny (model prog w) A (getItem (.ref t) (.ref sl)) Q E s:=by
 have ip:sizeOk (.seq ((items.toList.drop (sIx items.size 0 lo)).take (sIx items.size items.size hi-sIx items.size 0 lo)).toArray):=by
  show((items.toList.drop (sIx items.size 0 lo)).take (sIx items.size items.size hi-sIx items.size 0 lo)).toArray.size<=sizeLine;rw[zA8,zAd,List.length_drop,zA9];lia
 have hj:sIx items.size items.size hi<=items.size:=HR _ _ (zA3 _) hi;obtain⟨os,qo,A6,wm⟩:=id hs
 have Co:s.TypeIs (.ref sl) "slice":=⟨os,qo,A6⟩
 unfold getItem
 try with_reducible refine wpAny_holding ?_
 first|refine zAt (zAw ?_)|skip
 refine zAt (wpAny_sequenceKey ht.typeIs Zx ?_)
 refine zAt (wpAny_callSpecial?_slot (name:=Str.ofString "__getitem__") ht.typeIs PyProof.Rows.slot_tuple_getitem
  (wpAny_call_entry PyProof.Rows.slot_tuple_getitem ht.typeIs entry_tuple_getitem ?_ (args_tuple_getitem _ _)))
 show wpAny _ _ (Builtin.Tuple.tupleItemsOf (.ref t)>>=_) _ _ s;refine zAt (tupleItemsOf_ ht ?_);refine zAt (wpAny_typeOf Co ?_);rw[zB3 Zx];refine zAt (ir hs pl pu ?_)
 have Ct:¬((((sIx items.size 0 lo:Nat):Int)==0&&(1:Int)==1&&(sIx items.size items.size hi-sIx items.size 0 lo)==items.size)=true):=by
  intro q;rw[zAc,zAc]at q;have q1:((sIx items.size 0 lo:Nat):Int)=0:=eq_of_beq q.1.1;have q2:sIx items.size items.size hi-sIx items.size 0 lo=items.size:=eq_of_beq q.2;exact hw ⟨Zz,Zz⟩
 show wpAny _ _ (if(((sIx items.size 0 lo:Nat):Int)==0&&(1:Int)==1&&(sIx items.size items.size hi-sIx items.size 0 lo)==items.size)=true then _ else _) _ _ s;rw[zB0 Ct,Am]
 first
  |exact zAt (m:=Builtin.Tuple.tupleExact _) (wpAny_newObj_type (zAw ⟨_,rfl,zAw h⟩) ip)
  |exact zAt (m:=Builtin.Tuple.tupleExact _) (wpAny_newObj_type (zAt (zAw (zAw ⟨_,rfl,zAw h⟩))) ip)
  |exact zAt (zAt (m:=Builtin.Tuple.tupleExact _) (wpAny_newObj_type (zAw (zAw ⟨_,rfl,zAw h⟩)) ip))
  |exact zAt (zAt (m:=Builtin.Tuple.tupleExact _) (wpAny_newObj_type (zAw ⟨_,rfl,zAw h⟩) ip))
end
end HT
namespace L2
open PySem PySem.Spec PyProof.Rows
abbrev TO:=St->Hp->(Option Int->Hp->Prop)->Prop
def PO(X:Cx)(e:Option Expr)(t:TO):Prop:=
 ∀(Zt:List (Addr×Obj)) (s:Shared) (σ:St) (H:Hp) (Q:Option Int->Hp->Prop),Inv X Zt σ H s->t σ H Q->
  wpAny (model X.prog X.w) X.A (evalPart e X.env) (fun u s'=>∃o H',Inv X Zt σ H' s'/\IsPart u o/\Q o H') X.xe s
def jy:TO:=fun _ H Q=>Q none H
def mW(t:TE):TO:=fun σ H Q=>t σ H fun x H1=>∃i,x=.int i/\Q (some i) H1
theorem intsAre_of{ns:List Int}:∀{us:List Value},Vals (ns.map V.int) us->IntsAre us ns:=by
 induction ns with
 |nil=>intro us r;rw[List.map_nil]at r;cases r;exact .nil
 |cons n ns ih=>
  intro us r;rw[zAk]at r
  cases r with
  |cons r1 r2=>
   obtain⟨t,e⟩:=r1;subst e;exact .cons n t (ih r2)
section
variable{X:Cx}{e:Expr}{te:TE}{lo hi:Option Expr}{tl th:TO}{pos p2:Pos}
theorem cM:PO X none jy:=by
 intro Zt s σ H Q I h;rw[evalPart_none];exact zAw ⟨none,H,I,.none,h⟩
theorem cz(h:PE X e te):PO X (some e) (mW te):=by
 intro Zt s σ H Q I hw;rw[evalPart_some];refine thn (h Zt s σ H _ I hw) fun u s1 ⟨x,H1,I1,r1,q1⟩=>?_;obtain⟨i,rfl,q⟩:=q1;obtain⟨t,rfl⟩:=r1;exact⟨some i,H1,I1,.int i t,q⟩
def SlR(X:Cx)(r:V->Option Int->Option Int->Hp->VK->Prop):Prop:=
 ∀(Zt:List (Addr×Obj)) (s:Shared) (σ:St) (H:Hp) (x:V) (v vl vu:Value) (lo hi:Option Int) (sl:Addr) (Q:VK),Inv X Zt σ H s->RelV x v->s.heap.IsSliceOf sl vl vu .none->IsPart vl lo->IsPart vu hi->r x lo hi H Q->
  ∃T id,typeLookup (.type T) "__getitem__"=pure (some (.builtin id))/\s.TypeIs v T/\wpAny (model X.prog X.w) X.A (getItem v (.ref sl)) (EP X Zt σ Q) X.xe s
def tSl(r:V->Option Int->Option Int->Hp->VK->Prop)(te:TE)(tl th:TO):TE:=fun σ H Q=>te σ H fun x H1=>tl σ H1 fun l H2=>th σ H2 fun u H3=>r x l u H3 Q
theorem bQ{r:V->Option Int->Option Int->Hp->VK->Prop}(hr:SlR X r)(he:PE X e te)(hl:PO X lo tl)(hu:PO X hi th):PE X (.Subscript e (.Slice lo hi none p2) pos) (tSl r te tl th):=by
 intro Zt s σ H Q I h;refine Subscript_ (thn (he Zt s σ H _ I h) fun v s1 ⟨x,H1,I1,r1,q1⟩=>?_);refine wpAny_Slice (thn (hl Zt s1 σ H1 _ I1 q1) fun vl s2 ⟨l,H2,I2,pl,q2⟩=>thn (hu Zt s2 σ H2 _ I2 q2) fun vu s3 ⟨u,H3,I3,pu,q3⟩=>?_);rw[evalPart_none];refine zAw ?_;have I4:Inv X Zt σ H3 {s3 with heap:=s3.heap.push {cls:=.type "slice",data:=.fields #[vl,vu,.none]}}:=I3.kept (t':=s3.toks) fun b ob q=>zAv _ q;obtain⟨T,id,hT,ht,hg⟩:=hr Zt {s3 with heap:=s3.heap.push {cls:=.type "slice",data:=.fields #[vl,vu,.none]}} σ H3 x v vl vu l u s3.heap.objs.size Q I4 r1 (Heap.IsSliceOf.new ..) pl pu q3;show wpAny (model X.prog X.w) X.A (subscriptTail e (.Slice lo hi none p2) v (.ref s3.heap.objs.size)) (EP X Zt σ Q) X.xe {s3 with heap:=s3.heap.push {cls:=.type "slice",data:=.fields #[vl,vu,.none]}};exact tail_any (ops:=[.ref s3.heap.objs.size,v]) ht hT hg (by with_unfolding_all rfl)
def lV(xs:List V)(lo hi:Option Int):List V:=(xs.drop (HT.sIx xs.length 0 lo)).take (HT.sIx xs.length xs.length hi-HT.sIx xs.length 0 lo)
theorem mX(xs:List V)(lo hi:Option Int):(lV xs lo hi).length<=xs.length:=by
 unfold lV;rw[zAd,List.length_drop];lia
inductive RSlTI(K:Frag)(x:V)(lo:Option Int)(hi:Option Int)(H:Hp)(Q:VK):Prop
 |mk:∀a xs,(x=.ref a)->(SqT K H a xs)->(¬(HT.sIx xs.length 0 lo=0/\HT.sIx xs.length xs.length hi=xs.length))->(∀p,H p=none->Q (.ref p) (upd H p (.tup (lV xs lo hi))))->RSlTI K x lo hi H Q
def Ky(K:Frag):V->Option Int->Option Int->Hp->VK->Prop:=fun x lo hi H Q=>RSlTI K x lo hi H Q
theorem HS:SlR X (Ky X.K):=by
 intro Zt s σ H x v vl vu lo hi sl Q I rx hs pl pu h;obtain⟨a,xs,rfl,hx,hw,q⟩:=h;cases rx;obtain⟨Zr,r,ht,hz⟩:=I.tuple hx;have hlen:Zr.toArray.size=xs.length:=by rw[zA8];exact r.length.symm
 refine⟨"tuple",_,PyProof.Rows.slot_tuple_getitem.lookup,ht.typeIs,?_⟩;refine HT.getItem_tuple_cut ht hs pl pu (by rw[hlen];exact hw) ?_ (by rw[hlen];exact hz);rw[hlen];refine⟨.ref s.heap.objs.size,_,I.laid (t':=s.toks) (o:=.tup (lV xs lo hi)) (fun b ob q=>zAv _ q) (zA3 _) ?_,rfl,q _ (I.hok.fresh (zA3 _))⟩;exact⟨Nat.le_trans (mX xs lo hi) hz,_,(r.drop (HT.sIx xs.length 0 lo)).take (HT.sIx xs.length xs.length hi-HT.sIx xs.length 0 lo),IsTup.new _ _⟩
inductive RCatTI(K:Frag)(x:V)(y:V)(H:Hp)(Q:VK):Prop
 |mk:∀a b xs ys,(x=.ref a)->(y=.ref b)->(SqT K H a xs)->(SqT K H b ys)->(xs≠[])->(xs.length+ys.length<=sizeLine)->((ys=[]->Q (.ref a) H))->((ys≠[]->∀p,H p=none->Q (.ref p) (upd H p (.tup (xs++ys)))))->RCatTI K x y H Q
def JC(K:Frag):R2:=fun x y H Q=>RCatTI K x y H Q
theorem Vals.nil_iff{xs:List V}{us:List Value}(r:Vals xs us):us=[]↔xs=[]:=by
 cases r with
 |nil=>simp
 |cons _ _=>simp
theorem Ek:OpR X (binaryOp .Add) (JC X.K):=by
 intro Zt s σ H x y v u Q I rx ry h;obtain⟨a,b,xs,ys,rfl,rfl,ha,hb,hx,hz,q1,q2⟩:=h;cases rx;cases ry;obtain⟨Zr,r1,p1,_⟩:=I.tuple ha;obtain⟨cw,r2,p2,_⟩:=I.tuple hb;refine HT.cat_tup p1 p2 (fun z=>hx (r1.nil_iff.mp z)) (fun z=>⟨.ref a,H,I,rfl,q1 (r2.nil_iff.mp z)⟩) (fun z=>?_) (by rw[<-r1.length,<-r2.length];exact hz);refine⟨.ref s.heap.objs.size,_,I.laid (t':=s.toks) (o:=.tup (xs++ys)) (fun b ob q=>zAv _ q) (zA3 _) ?_,rfl,q2 (fun w=>z (r2.nil_iff.mpr w)) _ (I.hok.fresh (zA3 _))⟩;exact⟨by rw[zA2];exact hz,_,r1.append r2,IsTup.new _ _⟩
end
def ixN(n:Nat)(i:Int):Option Nat:=if 0<=i then(if i<n then some i.toNat else none)else if -(n:Int)<=i then some (i+n).toNat else none
def atI{α:Type}(xs:List α)(i:Int):Option α:=(ixN xs.length i).bind fun j=>xs[j]?
theorem wO{n:Nat}{i:Int}{j:Nat}(h:ixN n i=some j):seqIndex? i n=some j/\j<n/\-(n:Int)<=i/\i<n:=by
 unfold ixN at h;by_cases h0:0<=i
 .rw[zB3 h0]at h;by_cases h1:i<n
  .rw[zB3 h1]at h;have e:i.toNat=j:=zAl h;exact⟨by rw[seqIndex_of h0 h1,e],Zz,Zz,h1⟩
  .rw[zB0 h1]at h;cases h
 .rw[zB0 h0]at h;by_cases h1:-(n:Int)<=i
  .rw[zB3 h1]at h;have e:(i+n).toNat=j:=zAl h;exact⟨by rw[seqIndex_neg Zz h1,e],Zz,h1,Zz⟩
  .rw[zB0 h1]at h;cases h
theorem rD{α:Type}{xs:List α}{i:Int}{v:α}(h:atI xs i=some v):∃j,seqIndex? i xs.length=some j/\xs[j]?=some v/\j<xs.length/\-(xs.length:Int)<=i/\i<xs.length:=by
 unfold atI at h
 cases e:ixN xs.length i with
 |none=>rw[e]at h;cases h
 |some j=>
  rw[e]at h;obtain⟨h1,h2,h3,h4⟩:=wO e;exact⟨j,h1,h,h2,h3,h4⟩
theorem eF{α:Type}{xs:List α}{j:Nat}{v:α}(h:xs[j]?=some v):atI xs (j:Int)=some v:=by
 have hj:j<xs.length:=(zAa.mp h).1
 have e:ixN xs.length (j:Int)=some j:=by
  unfold ixN;rw[if_pos Zz,if_pos Zz];simp
 unfold atI;rw[e];exact h
def rE(b:Expr):Prop:=∀o i,subscripted b false o i=operate [o,i] (getItem o i)
def IxR(X:Cx)(r:R2):Prop:=
 ∀(value slice:Expr) (Zt:List (Addr×Obj)) (s:Shared) (σ:St) (H:Hp) (x y:V) (v u:Value) (Q:VK),Inv X Zt σ H s->RelV x v->RelV y u->r x y H Q->
  subscripted slice false v u=operate [v,u] (getItem v u)->wpAny (model X.prog X.w) X.A (subscriptTail value slice v u) (EP X Zt σ Q) X.xe s
def MtR(X:Cx)(id:String)(r:V->List V->Hp->VK->Prop):Prop:=
 ∀(Zt:List (Addr×Obj)) (s:Shared) (σ:St) (H:Hp) (x:V) (xs:List V) (v:Value) (us:List Value) (Q:VK),Inv X Zt σ H s->RelV x v->Vals xs us->r x xs H Q->
  wpAny (model X.prog X.w) X.A (call (.builtin id) (v::us)) (EP X Zt σ Q) X.xe s
section
variable{X:Cx}{a b:Expr}{ta tb:TE}{pos:Pos}
theorem GC{r:R2}(hr:IxR X r)(ha:PE X a ta)(hb:PE X b tb)(hs:rE b):PE X (.Subscript a b pos) (tOp r ta tb):=by
 intro Zt s σ H Q I h;exact Subscript_ (HN ha hb I h fun v u s2 x y H2 I2 rx ry q=>hr a b Zt s2 σ H2 x y v u Q I2 rx ry q (hs _ _))
inductive RIxLI(K:Frag)(x:V)(y:V)(H:Hp)(Q:VK):Prop
 |mk:∀p xs i v,(x=.ref p)->(y=.int i)->(SqL K H p xs)->(atI xs i=some v)->(Q v H)->RIxLI K x y H Q
def HW(K:Frag):R2:=fun x y H Q=>RIxLI K x y H Q
inductive RIxTI(K:Frag)(x:V)(y:V)(H:Hp)(Q:VK):Prop
 |mk:∀p xs i v,(x=.ref p)->(y=.int i)->(SqT K H p xs)->(atI xs i=some v)->(Q v H)->RIxTI K x y H Q
def JD(K:Frag):R2:=fun x y H Q=>RIxTI K x y H Q
inductive RIxSI(x:V)(y:V)(H:Hp)(Q:VK):Prop
 |mk:∀z i c,(x=.str z)->(y=.int i)->(z.length<=sizeLine)->(atI z.cps.toList i=some c)->(Q (.str ⟨#[c]⟩) H)->RIxSI  x y H Q
def Kz:R2:=fun x y H Q=>RIxSI  x y H Q
theorem bL:IxR X (HW X.K):=by
 intro value slice Zt s σ H x y v u Q I rx ry h hs;obtain⟨p,xs,i,z,rfl,rfl,hq,he,q⟩:=h;cases rx;obtain⟨t,rfl⟩:=ry;obtain⟨Zr,r,pl,hz⟩:=I.list hq;obtain⟨j,h1,h2,h3,h4,h5⟩:=rD he;obtain⟨w,ew,gu⟩:=r.get h2;have hl:=r.length;have hn:=j9
 have fin:EP X Zt σ Q w s:=⟨z,H,I,gu,q⟩
 by_cases h0:0<=i
 .have hj:i.toNat=j:=by
   rw[seqIndex_of h0 h5]at h1;exact zAl h1
  exact item_listR pl.isList h0 Zz (by rw[hj];simpa using ew) fin hs
 .have hj:(i+(Zr.toArray.size:Int)).toNat=j:=by
   rw[seqIndex_neg Zz h4]at h1;rw[zA8,<-hl];exact zAl h1
  exact subscriptTail_builtinR (x:=w) pl.isList.typeIs slot_list_getitem.lookup
   (wpAny_getItem_list_neg (Q:=fun r s'=>r=w/\EP X Zt σ Q r s') pl.isList Zz (by rw[List.size_toArray]<;>lia) Zz (by rw[hj];simpa using ew) ⟨rfl,fin⟩) hs
theorem cY:IxR X (JD X.K):=by
 intro value slice Zt s σ H x y v u Q I rx ry h hs;obtain⟨p,xs,i,z,rfl,rfl,hq,he,q⟩:=h;cases rx;obtain⟨t,rfl⟩:=ry;obtain⟨Zr,r,pl,hz⟩:=I.tuple hq;obtain⟨j,h1,h2,h3,h4,h5⟩:=rD he;obtain⟨w,ew,gu⟩:=r.get h2;have hl:=r.length;have hn:=j9
 have fin:EP X Zt σ Q w s:=⟨z,H,I,gu,q⟩
 exact subscriptTail_builtinR (x:=w) pl.typeIs slot_tuple_getitem.lookup
  (getItem_tuple (j:=j) (Q:=fun r s'=>r=w/\EP X Zt σ Q r s') pl Zz Zz (by rw[List.size_toArray,<-hl];exact h1) (by simpa using ew) ⟨rfl,fin⟩) hs
theorem An:IxR X Kz:=by
 intro value slice Zt s σ H x y v u Q I rx ry h hs;obtain⟨z,i,c,rfl,rfl,hz,he,q⟩:=h;obtain⟨t,rfl⟩:=rx;obtain⟨t',rfl⟩:=ry;obtain⟨j,h1,h2,h3,h4,h5⟩:=rD he;have hl:z.cps.toList.length=z.length:=by simp[Str.length]
 rw[hl]at h1 h4 h5;have hn:=j9
 exact tail_any (typeIs_str s z t) slot_str_getitem.lookup (getItem_str (c:=c) (by
  have e1:decide (i < -(2^63:Int))=false:=zAy Zz;have e2:decide (i≥2^63)=false:=zAy Zz
  rw[e1,e2,Bool.or_false]) (by rw[h1];simpa using h2) ⟨.str ⟨#[c]⟩,H,I.tok _,⟨_,rfl⟩,q⟩) hs
theorem vK(Zr:List Value)(n j:Nat)(u:Value):Obj.mapSeq (·.setIfInBounds j u) {cls:=.type "list",data:=.seq Zr.toArray n}={cls:=.type "list",data:=.seq (Zr.set j u).toArray n}:=by
 simp[Obj.mapSeq]
theorem Inv.lst{Zt:List (Addr×Obj)}{σ:St}{H:Hp}{s:Shared}{p:Addr}{xs:List V}(I:Inv X Zt σ H s)(h:H p=some (.lst xs)):
  ∃(Zr:List Value) (n:Nat),Vals xs Zr/\s.heap.get? p=some {cls:=.type "list",data:=.seq Zr.toArray n}/\xs.length<=sizeLine:=by
 obtain⟨z,Zr,n,r,e⟩:=I.hok p _ h;exact⟨Zr,n,r,e,z⟩
theorem Inv.lstUpd{Zt:List (Addr×Obj)}{σ:St}{H:Hp}{s:Shared}{p:Addr}{xs ys:List V}{Zr its':List Value}{n n':Nat}{f:Obj->Obj}(I:Inv X Zt σ H s)(h:H p=some (.lst xs))
  (ho:s.heap.get? p=some {cls:=.type "list",data:=.seq Zr.toArray n}) (hf:f {cls:=.type "list",data:=.seq Zr.toArray n}={cls:=.type "list",data:=.seq its'.toArray n'}) (r:Vals ys its') (hz:ys.length<=sizeLine) (t:Nat):
  Inv X Zt σ (upd H p (.lst ys)) {s with heap:=s.heap.update p f,toks:=t}:=by
 have e:(s.heap.update p f).get? p=some {cls:=.type "list",data:=.seq its'.toArray n'}:=by
  rw[Heap.get?_update_self f ho (by rw[hf]<;>rfl),hf]
 refine I.write (x:=p) (e:=p) (by rw[h];trivial) (.inl rfl) (fun b u hb q=>(Heap.get?_update_other _ _ (Ne.symm hb)).trans q) ⟨_,e⟩ ?_;exact⟨hz,its',n',r,e⟩
inductive RSetLI(o:V)(i:V)(v:V)(H:Hp)(Q:Hp->Prop):Prop
 |mk:∀p xs k j,(o=.ref p)->(i=.int k)->(H p=some (.lst xs))->(ixN xs.length k=some j)->(Q (upd H p (.lst (xs.set j v))))->RSetLI  o i v H Q
def JF:V->V->V->Hp->(Hp->Prop)->Prop:=fun o i v H Q=>RSetLI  o i v H Q
theorem set_list:Hy X JF:=by
 intro Zt s σ H o i v ov iv u Q I ro ri rv h;obtain⟨p,xs,k,j,rfl,rfl,hp,hj,q⟩:=h;cases ro;obtain⟨t,rfl⟩:=ri;obtain⟨Zr,n,r,ho,hz⟩:=I.lst hp;obtain⟨h1,h2,h3,h4⟩:=wO hj;have hl:=r.length;have hn:=j9
 have I':Inv X Zt σ (upd H p (.lst (xs.set j v))) {s with heap:=s.heap.update p (Obj.mapSeq (·.setIfInBounds j u))}:=
  I.lstUpd hp ho (vK Zr n j u) (r.set rv j) (by rw[List.length_set];exact hz) s.toks
 by_cases h0:0<=k
 .have hk:k.toNat=j:=by
   rw[seqIndex_of h0 h4]at h1;exact zAl h1
  exact PySem.W.ki_setAt ho h0 Zz (by rw[zA8,<-hl];exact h4) (by rw[hk];exact⟨_,I',q⟩)
 .have hk:(k+(Zr.toArray.size:Int)).toNat=j:=by
   rw[seqIndex_neg Zz h3]at h1;rw[zA8,<-hl];exact zAl h1
  exact PySem.W.ki_setBack ho Zz (by rw[zA8,<-hl];exact h3) Zz (by rw[hk];exact⟨_,I',q⟩)
theorem rF(lo hi:Option Int)(n:Nat):(sliceBounds lo hi none n).1=((HT.sIx n 0 lo:Nat):Int)/\(sliceBounds lo hi none n).2.1=((HT.sIx n n hi:Nat):Int)/\(sliceBounds lo hi none n).2.2=1:=by
 refine⟨?_,?_,rfl⟩
 .cases lo with
  |none=>simp[sliceBounds,HT.sIx]
  |some i=>
   simp only[sliceBounds,HT.sIx,Option.getD_none,show(1:Int)>0 by decide,if_true];by_cases h:i<0
   .simp only[h,if_true]<;>lia
   .simp only[h,if_false]<;>lia
 .cases hi with
  |none=>simp[sliceBounds,HT.sIx]
  |some i=>
   simp only[sliceBounds,HT.sIx,Option.getD_none,show(1:Int)>0 by decide,if_true];by_cases h:i<0
   .simp only[h,if_true]<;>lia
   .simp only[h,if_false]<;>lia
theorem pF(Zr:List Value)(lo hi:Option Int):slicePick Zr.toArray lo hi none=((Zr.drop (HT.sIx Zr.length 0 lo)).take (HT.sIx Zr.length Zr.length hi-HT.sIx Zr.length 0 lo)).toArray:=by
 obtain⟨h1,h2,h3⟩:=rF lo hi Zr.toArray.size;unfold slicePick;rw[h1,h2,h3];simp only[sliceRange_one,pick_run,List.size_toArray]<;>rfl
inductive RSlLI(K:Frag)(x:V)(lo:Option Int)(hi:Option Int)(H:Hp)(Q:VK):Prop
 |mk:∀a xs,(x=.ref a)->(SqL K H a xs)->(∀p,H p=none->Q (.ref p) (upd H p (.lst (lV xs lo hi))))->RSlLI K x lo hi H Q
def JG(K:Frag):V->Option Int->Option Int->Hp->VK->Prop:=fun x lo hi H Q=>RSlLI K x lo hi H Q
theorem jz:SlR X (JG X.K):=by
 intro Zt s σ H x v vl vu lo hi sl Q I rx hs pl pu h;obtain⟨a,xs,rfl,hx,q⟩:=h;cases rx;obtain⟨Zr,r,ht,hz⟩:=I.list hx;have hlen:=r.length;refine⟨"list",_,slot_list_getitem.lookup,ht.isList.typeIs,?_⟩;refine wpAny_getItem_list_slice ht.isList hs pl pu .none Zy ?_ (by rw[List.size_toArray]<;>lia);rw[pF,<-hlen];refine⟨.ref s.heap.objs.size,_,I.laid (t':=s.toks) (o:=.lst (lV xs lo hi)) (fun b ob q=>Heap.get?_push_of_some _ q) (zA3 _) ?_,rfl,q _ (I.hok.fresh (zA3 _))⟩;exact⟨Nat.le_trans (mX xs lo hi) hz,_,0,(r.drop (HT.sIx xs.length 0 lo)).take (HT.sIx xs.length xs.length hi-HT.sIx xs.length 0 lo),Heap.get?_push_size _ rfl⟩
theorem bF:dw X (.builtin "len") (fun xs H Q=>∃p ys,xs=[.ref p]/\(SqL X.K H p ys\/SqT X.K H p ys)/\Q (.int ys.length) H):=by
 intro Zt s σ H xs us Q I r h;obtain⟨p,ys,rfl,hq,q⟩:=h;obtain⟨u,rfl,rx⟩:=vals1 r;cases rx;have hn:=j9;rcases hq with hq|hq
 .obtain⟨Zr,r',pl,hz⟩:=I.list hq;have hlen:=r'.length;exact Calls.call_len_list pl.isList (by simp only[List.size_toArray]<;>lia) ⟨.int ys.length,H,I.tok _,⟨s.toks+1,by rw[List.size_toArray,hlen]⟩,q⟩
 .obtain⟨Zr,r',pl,hz⟩:=I.tuple hq;have hlen:=r'.length;exact len_tuple pl (by simp only[List.size_toArray]<;>lia) ⟨.int ys.length,H,I.tok _,⟨s.toks+1,by rw[List.size_toArray,hlen]⟩,q⟩
theorem iK:dw X (.builtin "len") (fun xs H Q=>∃z,xs=[.str z]/\z.length<=sizeLine/\Q (.int z.length) H):=by
 intro Zt s σ H xs us Q I r h;obtain⟨z,rfl,hz,q⟩:=h;obtain⟨u,rfl,t,rfl⟩:=vals1 r;have hn:=j9;exact len_str Zz ⟨.int z.length,H,I.tok _,⟨_,rfl⟩,q⟩
theorem bW:dw X (.type "tuple") (fun xs H Q=>∃p ys,xs=[.ref p]/\((SqL X.K H p ys/\∀l,H l=none->Q (.ref l) (upd H l (.tup ys)))\/(SqT X.K H p ys/\Q (.ref p) H))):=by
 intro Zt s σ H xs us Q I r h;obtain⟨p,ys,rfl,h⟩:=h;obtain⟨u,rfl,rx⟩:=vals1 r;cases rx;rcases h with⟨hq,q⟩|⟨hq,q⟩
 .obtain⟨Zr,r',pl,hz⟩:=I.list hq;have hlen:=r'.length;refine call_tuple_list pl.isList (fun h' kp=>?_) (by simp only[List.size_toArray]<;>lia);have I1:Inv X Zt σ H {s with heap:=h'}:=I.kept (t':=s.toks) kp
  have I2:Inv X Zt σ (upd H h'.objs.size (.tup ys)) {s with heap:=h'.push {cls:=.type "tuple",data:=.seq Zr.toArray}}:=
   I1.laid (t':=s.toks) (fun b o e=>zAv _ e) (zA3 _) (show ObjOk X.prog X.w _ _ _ (.tup ys)from⟨hz,Zr,r',IsTup.new _ _⟩)
  exact⟨.ref h'.objs.size,_,I2,rfl,q _ (I1.hok.fresh (zA3 _))⟩
 .obtain⟨Zr,r',pl,hz⟩:=I.tuple hq;exact call_tuple_same pl ⟨.ref p,H,I,rfl,q⟩
def tyV(K:Frag)(T:String)(x:V)(H:Hp):Prop:=match x with
 |.str _=>T="str"
 |.int _=>T="int"
 |.ref p=>(T="list"/\∃xs,SqL K H p xs)\/(T="tuple"/\∃o,K.lookup p=some o/\o.cls=.type "tuple"/\o.dict=none) \/
   (T="dict"/\((∃Zs,H p=some (.dK Zs))\/∃Zs,H p=some (.dT Zs)))\/(T="set"/\∃S n,H p=some (.set S n))
 |_=>False
theorem Ao{Zt:List (Addr×Obj)}{σ:St}{H:Hp}{s:Shared}{T:String}{x:V}{v:Value}(I:Inv X Zt σ H s)(r:RelV x v)(ty:tyV X.K T x H):
  s.TypeIs v T/\∀a,v=.ref a->∃ob,s.heap.get? a=some ob/\ob.dict=none:=by
 cases x with
 |str z=>
  obtain⟨t,rfl⟩:=r;cases(show T="str" from ty);exact⟨typeIs_str s z t,fun _ e=>nomatch e⟩
 |int i=>
  obtain⟨t,rfl⟩:=r;cases(show T="int" from ty);exact⟨typeIs_int s i t,fun _ e=>nomatch e⟩
 |ref p=>
  cases r;rcases ty with⟨rfl,xs,hq⟩|⟨rfl,o,hk,hc,hd⟩|⟨rfl,hk⟩|⟨rfl,S,n,hk⟩
  .obtain⟨Zr,_,pl,_⟩:=I.list hq;refine⟨pl.isList.typeIs,fun a e=>?_⟩;cases e;obtain⟨o,n,e,c,hd,_⟩:=pl;exact⟨o,e,hd⟩
  .refine⟨⟨o,I.kIn p o hk,hc⟩,fun a e=>?_⟩;cases e;exact⟨o,I.kIn _ o hk,hd⟩
  .have z:∃o,s.heap.get? p=some o/\o.ExactDict:=by
    rcases hk with⟨Zs,hk⟩|⟨Zs,hk⟩
    .obtain⟨_,_,_,_,o,_,_,e,ex,_⟩:=I.hok p _ hk;exact⟨o,e,ex⟩
    .obtain⟨_,_,_,_,o,_,_,e,ex,_⟩:=I.hok p _ hk;exact⟨o,e,ex⟩
   obtain⟨o,e,ex⟩:=z;refine⟨⟨o,e,ex.1⟩,fun a e2=>?_⟩;cases e2;exact⟨o,e,ex.2.1⟩
  .obtain⟨o,_,_,_,e,ex,_⟩:=I.hok p _ hk;refine⟨⟨o,e,ex.1⟩,fun a e2=>?_⟩;cases e2;exact⟨o,e,ex.2.1⟩
 |_=>exact False.elim ty
def JH(K:Frag)(T:String)(r:V->List V->Hp->VK->Prop)(to:TE):TE:=fun σ H Q=>to σ H fun x H1=>tyV K T x H1/\r x [] H1 Q
def tBM(K:Frag)(T:String)(r:V->List V->Hp->VK->Prop)(to:TE)(t:TA):TE:=fun σ H Q=>to σ H fun x H1=>tyV K T x H1/\t σ H1 fun xs H2=>r x xs H2 Q
variable{o e:Expr}{es:List Expr}{to:TE}{t:TA}{name:Str}{apos av:Pos}{T id:String}{r:V->List V->Hp->VK->Prop}
theorem Aq(pa:PlainAttrs T)(slot:Slot T name id)(wo:typeOf (.builtin id)=pure (.type "method_descriptor"))(hm:MtR X id r)(ho:PE X o to)
  (dS:attributeBase o name X.env (eval o X.env)=eval o X.env:=by rfl) (hline:(apos.endLine==av.line)=true:=by rfl):PE X (.Call (.Attribute o name apos) [] [] av) (JH X.K T r to):=by
 intro Zt s σ H Q I h;refine wpAny_Call_method0_late dS hline (thn (ho Zt s σ H _ I h) fun v s1 ⟨x,H1,I1,r1,ty,q1⟩=>?_);obtain⟨h1,h2⟩:=Ao I1 r1 ty;exact⟨T,id,pa,slot,wo,h1,h2,Calls.callWith_builtin rfl (PySem.evalArgs_none (hm Zt s1 σ H1 x [] v [] Q I1 r1 .nil q1))⟩
theorem dI(pa:PlainAttrs T)(slot:Slot T name id)(wo:typeOf (.builtin id)=pure (.type "method_descriptor"))(hm:MtR X id r)(ho:PE X o to)(ha:PA X (e::es) t)
  (dS:attributeBase o name X.env (eval o X.env)=eval o X.env:=by rfl)
  (qr:((backTo av (starEach (e::es) X.env)).all (fun x=>!x.1)&&(backToKw av (keywordEach [] X.env)).all (fun x=>x.1.isSome)
   && decide ((e::es).length+([]:List Keyword).length+(if([]:List Keyword).isEmpty then 0 else 1)<30))=true:=by rfl)
  (hline:(apos.endLine==av.line)=true:=by rfl) (hs:starEach (e::es) X.env=(false,eval e X.env)::starEach es X.env:=by rfl) (gx:(backTo av (starEach es X.env)).any (·.1)=false:=by rfl):
  PE X (.Call (.Attribute o name apos) (e::es) [] av) (tBM X.K T r to t):=by
 intro Zt s σ H Q I h;refine wpAny_Call_method_late dS qr hline rfl (thn (ho Zt s σ H _ I h) fun v s1 ⟨x,H1,I1,r1,ty,q1⟩=>?_);obtain⟨h1,h2⟩:=Ao I1 r1 ty;refine⟨T,id,pa,slot,wo,h1,h2,?_⟩;have hA:=ha av Zt s1 σ H1 _ I1 q1;rw[hs]at hA⊢;refine Calls.callWith_builtin (by show(false||(backTo av (starEach es X.env)).any (·.1))=false;rw[gx]<;>rfl) (Calls.evalArgs_plain ?_);exact thn hA fun us s2 ⟨vs,H2,I2,r2,q2⟩=>hm Zt s2 σ H2 x vs v us Q I2 r1 r2 q2
end
def MtM(X:Cx)(id:String)(r:V->List V->Hp->VK->Prop):Prop:=
 ∀(Zt:List (Addr×Obj)) (s:Shared) (σ:St) (H:Hp) (x:V) (xs:List V) (v:Value) (us:List Value) (Q:VK),Inv X Zt σ H s->RelV x v->Vals xs us->r x xs H Q->
  wpAny (model X.prog X.w) X.A (call (.builtin id) (v::us)) (EP X Zt σ Q) X.xe s
theorem Vals.one:∀{x:V} {us:List Value},Vals [x] us->∃u,us=[u]/\RelV x u
 |_,_,.cons r .nil=>⟨_,rfl,r⟩
theorem Vals.zero:∀{us:List Value},Vals [] us->us=[]
 |_,.nil=>rfl
theorem Vals.reverse{xs:List V}{us:List Value}(h:Vals xs us):Vals xs.reverse us.reverse:=by
 induction h with
 |nil=>exact .nil
 |cons r t ih=>rw[List.reverse_cons,List.reverse_cons];exact Vals.append ih (.cons r .nil)
theorem Vals.rep{xs:List V}{us:List Value}(h:Vals xs us):∀k:Nat,Vals (List.replicate k xs).flatten (List.replicate k us).flatten
 |0=>.nil
 |k+1=>by
  rw[List.replicate_succ,List.replicate_succ,List.flatten_cons,List.flatten_cons];exact Vals.append h (Vals.rep h k)
theorem foldl_rep(Zr:List Value):∀(k:Nat) (acc:List Value),
  List.foldl (fun x1 x2=>x1++x2) acc.toArray (List.replicate k Zr.toArray)=(acc++(List.replicate k Zr).flatten).toArray
 |0,acc=>by simp
 |k+1,acc=>by
  have e:acc.toArray++Zr.toArray=(acc++Zr).toArray:=by simp
  have e2:(acc++Zr)++(List.replicate k Zr).flatten=acc++(List.replicate (k+1) Zr).flatten:=by
   rw[List.replicate_succ,List.flatten_cons,zAf]
  rw[<-e2,<-foldl_rep Zr k (acc++Zr),<-e,List.replicate_succ,List.foldl_cons]
section
variable{X:Cx}{Zt:List (Addr×Obj)}{σ:St}{H:Hp}{s:Shared}{l b:Addr}{xs ys zs:List V}
theorem Inv.lset{Zr its':List Value}{n:Nat}{f:Array Value->Array Value}{t':Nat}(I:Inv X Zt σ H s)(hH:H l=some (.lst xs))
  (e:s.heap.get? l=some {cls:=.type "list",data:=.seq Zr.toArray n}) (hf:f Zr.toArray=its'.toArray) (hv:Vals ys its') (hz:ys.length<=sizeLine):
  Inv X Zt σ (upd H l (.lst ys)) {s with heap:=s.heap.update l (Obj.mapSeq f),toks:=t'}:=by
 have q:=PySem.IsL.update e f;rw[hf]at q;refine I.write (x:=l) (e:=l) (by rw[hH];exact trivial) (.inl rfl) (fun b' u hb hu=>(Heap.get?_update_other s.heap (Obj.mapSeq f) (Ne.symm hb)).trans hu) ⟨_,q⟩ ?_;exact⟨hz,its',_,hv,q⟩
theorem Inv.lnew{Zr:List Value}{t':Nat}(I:Inv X Zt σ H s)(hv:Vals ys Zr)(hz:ys.length<=sizeLine):
  Inv X Zt σ (upd H s.heap.objs.size (.lst ys)) {s with heap:=s.heap.push {cls:=.type "list",data:=.seq Zr.toArray},toks:=t'}:=
 I.laid (fun _ _ q=>zAv _ q) (zA3 _) ⟨hz,Zr,0,hv,zB1 _ rfl⟩
theorem Inv.fresh(I:Inv X Zt σ H s):H s.heap.objs.size=none:=I.hok.fresh (zA3 _)
theorem Inv.lstM(I:Inv X Zt σ H s)(hH:H l=some (.lst xs)):xs.length<=sizeLine/\∃(Zr:List Value) (n:Nat),Vals xs Zr/\xs.length=Zr.length/\s.heap.get? l=some {cls:=.type "list",data:=.seq Zr.toArray n}:=by
 obtain⟨z,Zr,n,r,e⟩:=I.hok l _ hH;exact⟨z,Zr,n,r,r.length,e⟩
theorem u6{n:Nat}(h:n<=sizeLine):Builtin.List.listTooLong n=false:=by
 unfold Builtin.List.listTooLong;exact zAy Zz
end
section
variable{X:Cx}
inductive RExtendI(x:V)(vs:List V)(H:Hp)(Q:VK):Prop
 |mk:∀l b xs zs,(x=.ref l)->(vs=[.ref b])->(H l=some (.lst xs))->(H b=some (.lst zs))->(xs.length+zs.length<=sizeLine)->(Q .non (upd H l (.lst (xs++zs))))->RExtendI  x vs H Q
def El:V->List V->Hp->VK->Prop:=fun x vs H Q=>RExtendI  x vs H Q
theorem Jo:MtM X "list.extend" El:=by
 intro Zt s σ H x vs v us Q I rx rv h;obtain⟨l,b,xs,zs,rfl,rfl,hH,hB,hz,q⟩:=h;cases rx;obtain⟨u,rfl,ru⟩:=rv.one;cases ru;obtain⟨z,Zr,n,r,hl,e⟩:=I.lstM hH;obtain⟨z2,cw,n2,r2,cE,e2⟩:=I.lstM hB;have hsz:Zr.toArray.size+cw.toArray.size<=sizeLine:=by rw[zA8,zA8];lia
 have kA:¬(!Zr.toArray.isEmpty&&Builtin.List.listTooLong (Zr.toArray.size+cw.toArray.size))=true:=by
  rw[u6 hsz,Bool.and_false];exact zAg
 refine call_meets F.slot_list_extend ⟨_,e,rfl⟩ F.entry_list_extend (F.args_list_extend_2 _ _)
  (AutoSeq1.list_extend_list_list_0 l Zr.toArray n b cw.toArray n2 kA (by rw[zA8];lia) Zz) ⟨e,e2,?_⟩
 refine⟨.non,_,I.lset (its':=Zr++cw) hH e Zy (r.append r2) ?_,rfl,q⟩;rw[zA2];lia
inductive RCatI(x:V)(y:V)(H:Hp)(Q:VK):Prop
 |mk:∀l b xs zs,(x=.ref l)->(y=.ref b)->(H l=some (.lst xs))->(H b=some (.lst zs))->(xs.length+zs.length<=sizeLine)->(∀p,H p=none->Q (.ref p) (upd H p (.lst (xs++zs))))->RCatI  x y H Q
def JK:R2:=fun x y H Q=>RCatI  x y H Q
theorem fX:OpR X (binaryOp .Add) JK:=by
 intro Zt s σ H x y v u Q I rx ry h;obtain⟨l,b,xs,zs,rfl,rfl,hH,hB,hz,q⟩:=h;cases rx;cases ry;obtain⟨z,Zr,n,r,hl,e⟩:=I.lstM hH;obtain⟨z2,cw,n2,r2,cE,e2⟩:=I.lstM hB;refine PySem.P.add_list e e2 ?_ (by rw[zA8,zA8];lia);have ea:Zr.toArray++cw.toArray=(Zr++cw).toArray:=by simp
 rw[ea];exact⟨.ref _,_,I.lnew (t':=s.toks) (r.append r2) (by rw[zA2];lia),rfl,q _ I.fresh⟩
inductive RRepI(x:V)(y:V)(H:Hp)(Q:VK):Prop
 |mk:∀l k xs,(x=.ref l)->(y=.int k)->(H l=some (.lst xs))->(-(2^63)<=k)->(k<2^63)->(xs.length*k.toNat<=sizeLine)->(∀p,H p=none->Q (.ref p) (upd H p (.lst (List.replicate k.toNat xs).flatten)))->RRepI  x y H Q
def HX:R2:=fun x y H Q=>RRepI  x y H Q
theorem len_rep{α:Type}(xs:List α)(k:Nat):(List.replicate k xs).flatten.length=k*xs.length:=by
 induction k with
 |zero=>simp
 |succ k ih=>rw[List.replicate_succ,List.flatten_cons,zA2,ih,Nat.succ_mul,Nat.add_comm]
theorem vL:OpR X (binaryOp .Mult) HX:=by
 intro Zt s σ H x y v u Q I rx ry h;obtain⟨l,k,xs,rfl,rfl,hH,h1,h2,hz,q⟩:=h;cases rx;obtain⟨t,rfl⟩:=ry;obtain⟨z,Zr,n,r,hl,e⟩:=I.lstM hH;have hlen:Zr.toArray.size*k.toNat<=sizeLine:=by rw[zA8,<-hl];exact hz
 have CA:¬Zr.toArray.size*k.toNat>(2^63-1) / 8:=by
  have:(sizeLine:Nat)<=(2^63-1) / 8:=by decide
  lia
 have wq:¬(!Builtin.List.listFitsIndex k)=true:=by
  rw[fitsIndex_both h1 h2];exact zAg
 have kA:¬Builtin.List.listTooLong (Zr.toArray.size*k.toNat)=true:=by
  rw[u6 hlen];exact zAg
 have CB:List.foldl (fun x1 x2=>x1++x2) #[] (List.replicate (if Zr.toArray.isEmpty=true then 0 else k.toNat) Zr.toArray)=(List.replicate k.toNat Zr).flatten.toArray:=by
  have f0:∀m:Nat,List.foldl (fun x1 x2=>x1++x2) #[] (List.replicate m Zr.toArray)=(List.replicate m Zr).flatten.toArray:=fun m=>by
   have:=foldl_rep Zr m [];rw[List.nil_append]at this;exact this
  rw[f0]
  cases Zr with
  |nil=>simp
  |cons a r'=>rw[if_neg Zy]
 refine wpAny_binaryOp_repeat_ref (T:="list") (U:="int") Zx ⟨_,e,rfl⟩ (fun s'=>typeIs_int s' k t) noFill_list_mul F.fills_int_mul F.slot_int_rmul repeat_list F.slot_int_index.lookup
  (call_meets F.slot_int_rmul (typeIs_int s k t) F.entry_int_rmul (F.args_int_rmul_2 _ _) (int___rmul___int_list k t l Zr.toArray n)
   ⟨e,rfl,⟨_,e,rfl⟩,call_meets F.slot_list_mul ⟨_,e,rfl⟩ F.entry_list_mul (F.args_list_mul_2 _ _) (AutoListH.list___mul___list_int_3 l Zr.toArray n k t wq CA kA) ⟨e,?_⟩⟩)
 rw[CB];exact⟨.ref _,_,I.lnew (t':=s.toks) (r.rep k.toNat) (by rw[len_rep,Nat.mul_comm];exact hz),rfl,q _ I.fresh⟩
end
section
variable{prog:Program}{w:World}{A:Around}{E:Value->Shared->Prop}{s:Shared}
set_option maxRecDepth 100000 in
end
section
variable{X:Cx}
end
end L2
namespace Att
open PySem PySem.W PySem.Calls PyProof.Rows
theorem nq{P:Params}{h:Heap}:∀(ns:List Int) (vs:List Value),WellAll P h vs (ns.map WData.int)->IntsAre vs ns:=by
 intro ns
 induction ns with
 |nil=>
  intro vs w;rw[List.map_nil]at w;cases w;exact .nil
 |cons n ns ih=>
  intro vs w;rw[zAk]at w
  cases w with
  |cons a b=>
   cases a;exact .cons _ _ (ih _ b)
theorem yN{l:OpenLaw}{n:Nat}(hn:l.most=some n){P:Params}{h:Heap}{args:List WData}{vals:List Value}
  (mh:l.row.toRowW.claim.pre args=true) (CC:WellAll P h vals args):
  ∃a vs ns,vals=[Value.ref a]/\args=[WData.list (ns.map WData.int)]/\h.get? a=some {cls:=.type "list",data:=.seq vs.toArray}/\IntsAre vs ns/\ns.length<=n:=by
 have MN:WShape.hasAll [] args [.list .int]=true:=(pre_splitW mh).1;have hc:l.pre.holds [] {args:=args}=true:=(pre_splitW mh).2;obtain⟨d,r,rfl,h1,h2⟩:=hasAllW_cons MN;obtain rfl:=hasAllW_nil h2;obtain⟨xs,rfl,h3⟩:=hasW_list h1;obtain⟨ns,rfl⟩:=items_int h3
 have hlen:ns.length<=n:=by
  unfold OpenLaw.pre at hc
  have h4:(WTm.not (.lt (.lit (.int (n:Int))) (.len (.arg 0)))).holds [] {args:=[.list (ns.map .int)]}=true:=by
   have h4:=(holds_andW hc).1;rw[hn]at h4;exact h4
  have h5:=condW_of h4 (w_not (w_lt w_lit (w_len_list (w_arg rfl))));rw[zA1]at h5;refine Nat.le_of_not_lt fun q=>?_;have q':(n:Int)<((ns.length:Nat):Int):=Zz
  first
   | (rw[zAu q']at h5;exact absurd h5 Zx)
   | (simp at h5;lia)
 cases CC with
 |cons w1 w2=>
  cases w2
  cases w1 with
  |list ho qv=>exact⟨_,_,ns,rfl,rfl,ho,nq ns _ qv,hlen⟩
theorem yO(l:OpenLaw)(args:List WData):l.row.toRowW.claim.post args (.bool true) args=true:=
 postW_of (r:=l.row.toRowW) (X:=(true==true))
  (show WShape.has [] (.bool true) .bool=true by first|rfl|decide|simp[WShape.has,WShape.arms,WShape.armsAll])
  (show(WTm.eq .res (.lit (.bool true))).value [] {args:=args,res:=some (.bool true),after:=args}=some (.bool (true==true))from w_eq_bool (w_res rfl) w_lit) rfl
theorem attach_call{l:OpenLaw}{n:Nat}{q:Program}{loose:List Str}{XP:(Str->Option Value)->Heap->Prop}{YP:World->Heap->Prop}{d:DefRec}
  (hn:l.most=some n) (qA:d.params.defaults=[])
  (call:∀(w:World) (s₀ s₁:Shared) (mg mb:Str->Option Value) (fa:Addr) (o:Obj) (pm cd doc:Value) (a:Addr) (vs:List Value) (ns:List Int),
   Ground q loose [] XP w s₀ mg mb s₁.heap->YP w s₁.heap->
   s₁.heap.get? fa=some o->o.data=.func (docDef d.name d.params d.body d.scope pm cd doc)->s₁.heap.CodeRec cd d.name->mg d.name=some (.ref fa)->
   s₁.heap.get? a=some {cls:=.type "list",data:=.seq vs.toArray}->IntsAre vs ns->ns.length<=n->s₁.gens=#[]->
   codeAny (model l.prog w) callerA (.call (.ref fa) ⟨[.ref a],[]⟩) (fun r s'=>r=.ok (.ret (.bool true))/\OldK s₁.heap s'.heap/\s'.os=s₁.os/\AllBare s'.gens) s₁):
  WalkO q loose XP YP l.row.toRowW d [] (fun f vs=>PySem.call f vs):=by
 intro w s₀ s₁ mg mb G Y fa o pm cd doc dV kV ho hd cb hD hmg hg args vals as mh MO RY CC RZ;obtain rfl:dV=.none:=Dflts.none hD qA;obtain rfl:kV=.none:=Dflts.noKw hD;obtain⟨a,vs,ns,rfl,rfl,qB,hints,hlen⟩:=yN hn mh CC;refine enter_call (codeAny_mono (call w s₀ s₁ mg mb fa o pm cd doc a vs ns G Y ho (fd_plain hd) cb hmg qB hints hlen hg) fun r s' hq=>?_);obtain⟨rfl,h2,h3,h4⟩:=hq;exact⟨.inl ⟨.bool true,.bool true,[],rfl,fun _=>rfl,.bool true,yO l _,fun _=>⟨List.Pairwise.nil,fun _ hm=>(nomatch hm)⟩⟩,h2,h3,h4⟩
section
variable{prog:Program}{w:World}{A:Around}{E:Value->Shared->Prop}{s:Shared}{K:Frag}
end
end Att
namespace L2
open PySem PySem.Spec PyProof.Rows
theorem qg:∀{vs:List Value} {ns:List Int},IntsAre vs ns->Vals (ns.map V.int) vs
 |_,_,.nil=>.nil
 |_,_,.cons n t h=>.cons ⟨t,rfl⟩ (qg h)
def gH(s:Stmt):Arguments:=match s with
 |.FunctionDef _ a _ _ _ _ _ _ _ _=>a
 |_=>{posonlyargs:=[],args:=[],vararg:=none,kwonlyargs:=[],kw_defaults:=[],kwarg:=none,defaults:=[]}
def du(s:Stmt):List Stmt:=match s with
 |.FunctionDef _ _ b _ _ _ _ _ _ _=>b
 |_=>[]
def au(s:Stmt):Scope:=match s with
 |.FunctionDef _ _ _ _ _ _ sc _ _ _=>sc
 |_=>{kind:=.function,names:=[],isGenerator:=false,isCoroutine:=false}
abbrev CX0:CXT:=fun _ _ _ _ _ _=>False
abbrev E0:XK:=fun _ _ _=>False
theorem JL{X:Cx}:nW CX0 X E0:=fun _ _ _ _ _ _ _ h=>h.elim
structure Fun(K:Frag)(x qual:Str)(st:Stmt)(f:Addr)(fd:FuncData):Prop where
 ex:∃(oc:Value) (od:Option Addr) (kV doc pm:Value) (an:Option Addr) (cdv ct:Value) (ko:Array (Option Value)),
  fd=PySem.W.fnOf x qual (gH st) (du st) (au st) .none kV doc pm an cdv ct/\K.lookup f=some ⟨oc,od,.func fd,ko⟩/\PySem.W.codeIn K cdv qual=true
 kp:PySem.W.keepIn K (.ref f)=true
section
variable{P:Program}{w:World}{K:Frag}{mg:Str->Option Value}{base:Heap}{f:Addr}{fd:FuncData}
theorem Fun.ok{x qual:Str}{st:Stmt}{f:Addr}{fd:FuncData}{N ps:List Str}{k:Nat}{sp:Sp}(F:Fun K x qual st f fd)(S:FnScope N ps (au st))(len:∀vs H Q E,sp vs H Q E->vs.length=ps.length)
  (bP:∀(cdv:Value) (A:Around) (outer:List Env) (s:Shared) (H:Hp) (vs:List V) (Q:VK) (E:XK),Room k (A.deeper (envOfC qual (au st) s.heap.objs.size f cdv))->sp vs H Q E->
   ∃t,PSs (jb CX0 P w K mg base N qual (au st) f cdv A outer s H E).nox (du st) t/\t {nx:=fun _ H'=>Q .non H',rt:=Q} (start N vs) H):FnOk P w K mg base CX0 (k+1) f fd ps sp:=by
 obtain⟨oc,od,kV,doc,pm,an,cdv,ct,ko,rfl,lk,cb⟩:=F.ex;refine Al lk cb S len fun A outer s H vs Q E hr gv=>?_;obtain⟨t,h,q⟩:=bP cdv A outer s H vs Q E hr gv;exact⟨t,h.nox,q⟩
theorem Fun.binds{x qual:Str}{st:Stmt}{f:Addr}{fd:FuncData}{ps:List Str}(F:Fun K x qual st f fd)
  (h:∀(kV doc pm:Value) (an:Option Addr) (cdv ct:Value) (us:List Value),us.length=ps.length->bindArgs (PySem.W.fnOf x qual (gH st) (du st) (au st) .none kV doc pm an cdv ct) ⟨us,[]⟩=pure (ps.zip us)):Binds K fd ps []:=by
 obtain⟨oc,od,kV,doc,pm,an,cdv,ct,ko,rfl,lk,cb⟩:=F.ex;exact .all (h kV doc pm an cdv ct)
theorem Ar{x qual:Str}{st:Stmt}{f:Addr}{oc:Value}{od an:Option Addr}{ko:Array (Option Value)}{kV doc pm cdv ct:Value}(l:K.lookup f=some ⟨oc,od,.func (PySem.W.fnOf x qual (gH st) (du st) (au st) .none kV doc pm an cdv ct),ko⟩)
  (c:PySem.W.codeIn K cdv qual=true) (k:PySem.W.keepIn K (.ref f)=true):Fun K x qual st f (PySem.W.fnOf x qual (gH st) (du st) (au st) .none kV doc pm an cdv ct):=⟨⟨oc,od,kV,doc,pm,an,cdv,ct,ko,rfl,l,c⟩,k⟩
end
theorem nZ{A:Around}{k:Nat}(hr:Room k A):A.units+1<cLine:=Nat.lt_of_le_of_lt (Nat.add_le_add_left (by decide:1<=64) _) hr.units
section
variable{X:Cx}
theorem pv(i:Nat){x:Str}{pos:Pos}(hN:X.N[i]?=some x:=by rfl)(hv:Vis X.env.scope x:=by first|exact Or.inl rfl|exact Or.inr (Or.inl rfl)|exact Or.inr (Or.inr rfl))(hd:(x==("__debug__":Str))=false:=by decide)
  (cb:(x==("__classdict__":Str))=false:=by decide):PE X (.Name x pos) (iI i):=vp hN hv hd cb
end
theorem aW{A B:Prop}(h:B):if false=true then A else B:=by
 rw[zB0 zAg];exact h
theorem aY{A B:Prop}(h:A):if true=true then A else B:=by
 rw[zB3 rfl];exact h
theorem Em{c A B:Prop}[Decidable c](h1:c->A)(h2:¬c->B):if c then A else B:=by
 by_cases h:c
 .rw[zB3 h];exact h1 h
 .rw[zB0 h];exact h2 h
def Same(H H':Hp):Prop:=∀b o,H b=some o->H' b=some o
theorem Same.refl(H:Hp):Same H H:=fun _ _ h=>h
theorem Same.trans{H H1 H2:Hp}(a:Same H H1)(b:Same H1 H2):Same H H2:=fun c o h=>b c o (a c o h)
theorem Same.free{H H':Hp}(e:Same H H'){l:Addr}(h:H' l=Option.none):H l=Option.none:=by
 cases q:H l with
 |none=>rfl
 |some o=>
  rw[e l o q]at h;cases h
def bY(cells:List (Str×Addr)):List (Str×NameKind)->List (Str×Addr)->List (Str×Addr)
 |[],acc=>acc
 | (n,k)::r,acc=>bY cells r (if k=.free then(n,(cells.lookup n).getD 0)::acc else acc)
theorem qi{env:Env}:∀(l:List (Str×NameKind)) (acc:List (Str×Addr)),(∀p∈l,p.2=NameKind.free->(env.cells.lookup p.1).isSome=true)->
  (forIn l acc fun(x:Str×NameKind) (r:List (Str×Addr))=>(if(x.2==NameKind.free)=true then do let a <-cellOf env x.1;pure (ForInStep.yield ((x.1,a)::r))else pure (ForInStep.yield r):Sem (ForInStep (List (Str×Addr)))))=pure (bY env.cells l acc)
 |[],acc,_=>rfl
 | (n,k)::r,acc,h=>by
  rw[List.forIn_cons];have ih:=fun a=>qi (env:=env) r a fun p hp=>h p (List.mem_cons_of_mem _ hp);by_cases hk:k=.free
  .subst hk;have hs:=h (n,.free) List.mem_cons_self rfl;obtain⟨c,hc⟩:=Option.isSome_iff_exists.mp hs;have e1:cellOf env n=pure c:=by unfold cellOf;rw[show env.cells.lookup n=some c from hc]
   have e2:bY env.cells ((n,.free)::r) acc=bY env.cells r ((n,c)::acc):=by
    show bY env.cells r (if NameKind.free=NameKind.free then(n,(env.cells.lookup n).getD 0)::acc else acc)=_;rw[zB3 rfl,show env.cells.lookup n=some c from hc];rfl
   rw[e2];simp only[beq_self_eq_true,if_true,e1,pure_bind];exact ih _
  .have hb:(k==NameKind.free)=false:=by simpa using hk
   have e2:bY env.cells ((n,k)::r) acc=bY env.cells r acc:=by
    show bY env.cells r (if k=NameKind.free then _ else acc)=_;rw[zB0 hk]
   rw[e2];simp only[hb,Bool.false_eq_true,if_false,pure_bind];exact ih _
theorem jY{scope:Scope}{env:Env}(h:∀p∈scope.names,p.2=NameKind.free->(env.cells.lookup p.1).isSome=true):closureFor scope env=pure (bY env.cells scope.names []):=by
 have e:=qi (env:=env) scope.names [] h;unfold closureFor;simp only[bind_pure];exact e
theorem iu{cells:List (Str×Addr)}{x:Str}{c:Addr}:∀(l:List (Str×NameKind)) (acc:List (Str×Addr)),(∀p∈l,p.2=NameKind.free->(cells.lookup p.1).isSome=true)->(bY cells l acc).lookup x=some c->
  acc.lookup x=some c\/cells.lookup x=some c
 |[],_,_,h=>.inl h
 | (n,k)::r,acc,hf,h=>by
  have h':(bY cells r (if k=.free then(n,(cells.lookup n).getD 0)::acc else acc)).lookup x=some c:=h;rcases iu r _ (fun p hp=>hf p (List.mem_cons_of_mem _ hp)) h' with e|e
  .by_cases hk:k=.free
   .rw[zB3 hk]at e;obtain⟨d,hd⟩:=Option.isSome_iff_exists.mp (hf (n,k) List.mem_cons_self hk);rw[show cells.lookup n=some d from hd]at e;rw[List.lookup_cons]at e
    cases hx:x==n with
    |true=>
     rw[hx]at e;have:x=n:=by simpa using hx
     subst this;exact .inr (hd.trans (by simpa using e))
    |false=>
     rw[hx]at e;exact .inl e
   .rw[zB0 hk]at e;exact .inl e
  .exact .inr e
theorem jc{cells:List (Str×Addr)}{x:Str}:∀(l:List (Str×NameKind)) (acc:List (Str×Addr)),((∃k,(x,k)∈l/\k=NameKind.free)\/(∃c,acc.lookup x=some c))->∃c,(bY cells l acc).lookup x=some c
 |[],_,h=>by
  rcases h with⟨k,hk,_⟩|h
  .exact absurd hk Zy
  .exact h
 | (n,k)::r,acc,h=>by
  show ∃c,(bY cells r (if k=.free then(n,(cells.lookup n).getD 0)::acc else acc)).lookup x=some c;refine jc r _ ?_;rcases h with⟨k',hk,e⟩|⟨c,hc⟩
  .rcases zAo.mp hk with z|z
   .cases z;refine .inr ?_;rw[zB3 e];exact⟨_,by rw[List.lookup_cons,beq_self_eq_true]⟩
   .exact .inl ⟨k',z,e⟩
  .refine .inr ?_;by_cases hk:k=.free
   .rw[zB3 hk,List.lookup_cons]
    cases hx:x==n with
    |true=>exact⟨_,rfl⟩
    |false=>exact⟨c,hc⟩
   .rw[zB0 hk];exact⟨c,hc⟩
theorem gJ{scope:Scope}{env:Env}{x:Str}{k:NameKind}(hc:∀p∈scope.names,p.2≠NameKind.cell)(h:(relabel scope env).names.lookup x=some k)(hk:k=.cell\/k=.free):∃k',(x,k')∈scope.names/\k'=NameKind.free:=by
 have m:=PySem.mem_of_lookup h;obtain⟨⟨n,k0⟩,hm,e⟩:=zA5.mp m;dsimp only at e;split at e
 .rename_i c
  cases e
  have:(k0==NameKind.free)=true:=by
   cases q:(k0==NameKind.free)with
   |true=>rfl
   |false=>rw[q]at c;simp at c
  exact⟨k0,hm,by simpa using this⟩
 .cases e;rcases hk with z|z
  .exact absurd z (hc _ hm)
  .exact⟨_,hm,z⟩
def cxC(X:Cx)(scope:Scope)(Nc:List Str)(C:Addr)(fp:List Addr)(Zt:List (Addr×Obj))(s₂:Shared)(H₂:Hp):Cx where
 prog:=X.prog
 w:=X.w
 K:=X.K
 mg:=X.mg
 base:=X.base
 A:=X.A
 N:=Nc
 s₀:=s₂
 H₀:=H₂
 env:=compEnvC scope (bY X.env.cells scope.names []) C X.env
 outer:=X.stack
 stack:=X.stack
 ex:=fp
 fn:=fun _=>false
 calm:=X.calm
 pn:=X.pn++Zt
 xe:=fun _ _=>False
def Caps(X:Cx)(aI:Env):List Str->List (Option Nat)->Prop
 |[],[]=>True
 |_::N,none::r=>Caps X aI N r
 |x::N,some i::r=>(X.N[i]?=some x/\(X.env.kindOf x=some .cell\/X.env.kindOf x=some .free)/\aI.cells.lookup x=X.env.cells.lookup x/\(aI.kindOf x=some .cell\/aI.kindOf x=some .free))/\Caps X aI N r
 |_,_=>False
def capσ(σ:St)(src:List (Option Nat)):St:=src.map fun o=>match o with|none=>none|some i=>(σ[i]?).join
theorem Caps.len{X:Cx}{aI:Env}:∀{N:List Str} {src:List (Option Nat)},Caps X aI N src->src.length=N.length
 |[],[],_=>rfl
 |[],_::_,h=>h.elim
 |_::_,[],h=>h.elim
 |_::N,none::r,h=>by
  have h':Caps X aI N r:=h;have:=Caps.len (N:=N) (src:=r) h';simp[this]
 |_::N,some _::r,h=>by
  have:=Caps.len (N:=N) (src:=r) h.2;simp[this]
theorem Caps.get{X:Cx}{aI:Env}{x:Str}:∀{N:List Str} {src:List (Option Nat)} {j i:Nat},Caps X aI N src->N[j]?=some x->src[j]?=some (some i)->
  X.N[i]?=some x/\(X.env.kindOf x=some .cell\/X.env.kindOf x=some .free)/\aI.cells.lookup x=X.env.cells.lookup x/\(aI.kindOf x=some .cell\/aI.kindOf x=some .free)
 |[],[],_,_,_,e,_=>by simp at e
 |[],_::_,_,_,h,_,_=>h.elim
 |_::_,[],_,_,h,_,_=>h.elim
 |_::_,none::_,0,_,_,_,e=>by simp at e
 |_::N,none::r,j+1,_,h,e1,e2=>by
  have h':Caps X aI N r:=h;exact Caps.get (N:=N) (src:=r) (j:=j) h' (by simpa using e1) (by simpa using e2)
 |_::_,some _::_,0,_,h,e1,e2=>by
  simp at e1 e2;subst e1 e2;exact h.1
 |_::_,some _::_,j+1,_,h,e1,e2=>Caps.get (j:=j) h.2 (by simpa using e1) (by simpa using e2)
structure CScope(X:Cx)(scope:Scope):Prop where
 kind:scope.kind=.function
 cell:scope.names.all (fun p=>p.2 != .cell)=true
 names:scope.names.all (fun p=>p.2 != .local||scope.names.lookup p.1==some .local)=true
 free:scope.names.all (fun p=>p.2 != .free||(X.env.cells.lookup p.1).isSome)=true
section
variable{X:Cx}{scope:Scope}
theorem CScope.hcell(S:CScope X scope):∀p∈scope.names,p.2≠NameKind.cell:=fun p hp=>by
 have:=List.all_eq_true.mp S.cell p hp;simpa using this
theorem CScope.hnames(S:CScope X scope):∀p∈scope.names,p.2=.local->scope.names.lookup p.1=some .local:=fun p hp e=>by
 have:=List.all_eq_true.mp S.names p hp;simpa[e]using this
theorem CScope.hfree(S:CScope X scope):∀p∈scope.names,p.2=NameKind.free->(X.env.cells.lookup p.1).isSome=true:=fun p hp e=>by
 have:=List.all_eq_true.mp S.free p hp;simpa[e]using this
end
def PTs(X:Cx)(ifs:List Expr)(t:TT):Prop:=
 ∀(Zt:List (Addr×Obj)) (s:Shared) (σ:St) (H:Hp) (Q:Bool->Hp->Prop),Inv X Zt σ H s->t σ H Q->
  wpAny (model X.prog X.w) X.A (forIn ifs true fun c r=>if r=true then do let ok <-isTrue c X.env (eval c X.env);pure (ForInStep.yield ok)else pure (ForInStep.yield r)) (TP X Zt σ Q) X.xe s
def u9:TT:=fun _ H Q=>Q true H
theorem bJ{X:Cx}:PTs X [] u9:=fun _ _ _ H _ I h=>wpAny_tests_nil ⟨H,I,h⟩
theorem rG{X:Cx}{c:Expr}{t:TT}(h:PT X c t):PTs X [c] t:=fun Zt s σ H Q I q=>wpAny_tests_one (h Zt s σ H Q I q)
theorem rH{prog:Program}{w:World}{A:Around}{R:Result->Shared->Prop}{s:Shared}{elt target iter:Expr}{ifs:List Expr}{scope:Scope}{pos:Pos}{it acc:Value}{env:Env}(I:Nat->Shared->Prop)
  (turn:∀n s,I n s->wpAny (model prog w) A (pyNext it) (fun r s₁=>match r with
   |none=>R (.ok .next) s₁
   |some v=>wpAny (model prog w) A (letOwnedTupleGo target it v) (fun _ fR=>wpAny (model prog w) A (assign target env v) (fun _ s₂=>
     wpAny (model prog w) A (forIn ifs true fun c r=>if r=true then do let ok <-isTrue c env (eval c env);pure (ForInStep.yield ok)else pure (ForInStep.yield r)) (fun ok s₃=>
      if ok=true then wpAny (model prog w) A (eval elt env) (fun x fh=>
       wpAny (model prog w) A (call (.builtin "list.append") [acc,x]) (fun _ kC=>∃m,m<n/\I m kC) (fun _ _=>False) fh) (fun _ _=>False) s₃
      else ∃m,m<n/\I m s₃) (fun _ _=>False) s₂) (fun _ _=>False) fR) (fun _ _=>False) s₁) (fun _ _=>False) s)
  (n:Nat) (h:I n s):
  codeAny (model prog w) A (.compLoop (.ListComp elt [⟨target,iter,ifs,0⟩] scope pos) 0 it acc env) R s:=by
 refine codeAny_loop rfl I (fun n s hI=>?_) n h;show wpAny _ A ((compTurn (.ListComp elt [⟨target,iter,ifs,0⟩] scope pos) 0 it acc env).onRaise (fun x=>do noteFrame x env;theTreesLotGoes x)) _ _ s;refine wpAny_noted ?_;rw[compTurn_list];refine zAt (wpAny_standAt (zAt (wpAny_mono (turn n s hI) (fun r s₁ bg=>?_) fun _ _ h'=>h'.elim)))
 cases r with
 |none=>exact zAw bg
 |some v=>
  refine zAt (wpAny_mono bg (fun _ fR kD=>?_) fun _ _ h'=>h'.elim);refine zAt (wpAny_mono kD (fun _ s₂ ej=>zAt (wpAny_mono ej (fun ok s₃ gy=>?_) fun _ _ h'=>h'.elim)) fun _ _ h'=>h'.elim)
  cases ok with
  |false=>exact zAw ⟨rfl,gy⟩
  |true=>
   exact zAt (zAt (wpAny_mono gy (fun x fh qE=>zAt (wpAny_mono qE (fun _ kC qS=>zAw (zAw ⟨rfl,qS⟩)) fun _ _ h'=>h'.elim)) fun _ _ h'=>h'.elim))
def iw(J:It)(g:TG)(tt:TT)(te:TE)(Fin:List V->Hp->Prop)(eW:St)(H0:Hp):Prop:=
 ∃W:Nat->Nat->List V->St->Hp->Prop,(∃m,W 0 m [] eW H0)/\∀i m ys σ H,W i m ys σ H->ys.length<sizeLine /\
  ((J.stop i H/\Fin ys H)\/(J.go i H/\∀x H',J.yld i H x H'->g x σ H' fun ar H2=>tt ar H2 fun b H3=>
   if b=true then te ar H3 fun y H4=>∃m',m'<m/\W (i+1) m' (ys++[y]) ar H4 else ∃m',m'<m/\W (i+1) m' ys ar H3))
theorem qj{X:Cx}{tg iter elt:Expr}{ifs:List Expr}{scope:Scope}{pos:Pos}{Nc:List Str}{src:List (Option Nat)}{g:TG}{tt:TT}{te:TE}(hc:X.calm=true)(S:CScope X scope)
  (bX:∀C,Caps X (compEnvC scope (bY X.env.cells scope.names []) C X.env) Nc src)
  (hb:∀C fp Zt s₂ H₂,PG (cxC X scope Nc C fp Zt s₂ H₂) tg g/\PTs (cxC X scope Nc C fp Zt s₂ H₂) ifs tt/\PE (cxC X scope Nc C fp Zt s₂ H₂) elt te)
  {Zt:List (Addr×Obj)} {s₂:Shared} {σ:St} {H₂:Hp} {it:Addr} {fp:List Addr} {tn:Nat->Heap->Prop} {J:It} (ae:Inv X Zt σ H₂ s₂) (T:Turn X.prog X.w X.K tg J fp it tn) (st:tn 0 s₂.heap) (hf:∀b∈fp,lR X Zt H₂ b)
  {Fin:List V->Hp->Prop} (hW:iw J g tt te Fin (capσ σ src) H₂) {RR:Value->Addr->Result->Shared->Prop} {E:Value->Shared->Prop}
  (CD:∀D C s' ys H' m,Fin ys H'->H' D=none->Inv X Zt σ (upd H' D (.lst ys)) s'->s'.heap.Ns C m->lR X Zt (upd H' D (.lst ys)) C->RR (.ref D) C (.ok .next) s'):
  wpAny (model X.prog X.w) X.A (newList []) (fun acc s₃=>wpAny (model X.prog X.w) X.A (newFunctionEnv scope X.env.globals (bY X.env.cells scope.names []) [] X.env.qual none .none (some X.env)) (fun ja fh=>
   codeAny (model X.prog X.w) X.A (.compStart (.ListComp elt [⟨tg,iter,ifs,0⟩] scope pos) 0 (.ref it) acc {ja with scope:=relabel scope X.env}) (RR acc ja.locals) fh) E s₃) E s₂:=by
 refine wpAny_newObj_type (wpAny_newFunctionEnv S.hcell (by intro y hy;simp at hy) (fun bg aT aw=>?_) S.kind);dsimp only at aT aw⊢;generalize qV:s₂.heap.push {cls:=.type "list",dict:=none,data:=.seq ([]:List Value).toArray}=HH at aT aw⊢;generalize fw:s₂.heap.objs.size=D at aT aw⊢;have hC:HH.objs.size=D+1:=by rw[<-qV,Heap.size_push,fw]
 generalize MP:HH.objs.size=C at aT aw hC⊢;have ml:D≠C:=Zz
 have below:∀b,b<s₂.heap.objs.size->b≠C/\b≠D:=fun b hb=>by rw[fw]at hb;exact⟨by rw[hC];exact zB4 (Nat.lt_succ_of_lt hb),zB4 hb⟩
 have ai:∀{b o},s₂.heap.get? b=some o->b≠C/\b≠D:=fun{b o} e=>below b (zAz e);have old:∀b o,s₂.heap.get? b=some o->bg.get? b=some o:=fun b o e=>aw.extBut b o (ai e).1 (zAv _ (qV▸zAv _ e));have rb:bg.get? D=some {cls:=.type "list",data:=.seq ([]:List Value).toArray}:=aw.extBut _ _ ml (zAv _ (qV▸fw▸zB1 _ rfl))
 have CF:∀b∈fp,∃o,s₂.heap.get? b=some o:=fun b hb=>let⟨o,e,_⟩:=T.obj _ _ st b hb;⟨o,e⟩
 have mm:∀b∈fp,b≠C/\b≠D:=fun b hb=>let⟨o,e⟩:=CF b hb;ai e
 have sub:∀{x c},(bY X.env.cells scope.names []).lookup x=some c->X.env.cells.lookup x=some c:=fun{x c} e=>by
  rcases iu scope.names [] S.hfree e with z|z
  .simp at z
  .exact z
 have CH:∀{b o},s₂.heap.get? b=some o->b<D:=fun{b o} e=>by rw[<-fw];exact zAz e
 have fresh:∀a,D<=a->H₂ a=none:=fun a ha=>ae.hok.fresh (by rw[fw];exact ha)
 have fS:∀{x c},X.env.cells.lookup x=some c->∃o,s₂.heap.get? c=some o:=fun{x c} e=>let⟨v,o,ho,_⟩:=ae.cell x c e;⟨o,ho⟩
 have rf:∀b∈frs X.stack,∃o,s₂.heap.get? b=some o:=fun b hb=>by
  rcases zAo.mp (ae.stkSub b hb)with e|hb
  .rw[e];obtain⟨m,⟨o,_,_,ho,_⟩,_⟩:=ae.loc;exact⟨o,ho⟩
  .obtain⟨_,o,ho,_⟩:=ae.funs.mem hb;exact⟨o,ho⟩
 have rg:∀a,D<=a->a∉frs X.stack:=fun a ha hb=>by
  obtain⟨o,e⟩:=rf a hb;exact absurd (zB2 (CH e) ha) (Nat.lt_irrefl _)
 have wt:∀b∈fp,b∉frs X.stack:=fun b hb z=>by
  obtain⟨_,f1,f2,_⟩:=hf b hb;rcases zAo.mp (ae.stkSub b z)with e|e
  .exact f1 e
  .exact f2 e
 generalize bo:cxC X scope Nc C fp Zt s₂ H₂=X';obtain⟨hg,ht,he⟩:=hb C fp Zt s₂ H₂;rw[bo]at hg ht he
 have wx:X'.Ok:=by
  subst bo;refine⟨ae.ok.mod,S.kind,ae.ok.glob,ae.ok.blt,?_,?_,?_,?_,ae.ok.hd,ae.ok.frames,.inl rfl,?_,ae.bs,Nat.le_trans ae.ok.bsz ae.sz,?_,wt,ae.stack,ae.stkFree⟩
  .show s₂.heap.objs.size<=C;lia
  .exact fun x y c e1 e2=>ae.ok.inj x y c (sub e1) (sub e2)
  .intro x hx;have hx:(relabel scope X.env).names.lookup x=some .cell\/(relabel scope X.env).names.lookup x=some .free:=hx
   have:∃k',(x,k')∈scope.names/\k'=NameKind.free:=by
    rcases hx with z|z
    .exact gJ S.hcell z (.inl rfl)
    .exact gJ S.hcell z (.inr rfl)
   exact jc scope.names [] (.inl this)
  .intro x c z;exact absurd z (by show¬(false=true);simp)
  .intro b hb;exact⟨(mm b hb).1,fun x c e=>(hf b hb).2.2.2.2.1 x c (sub e)⟩
  .intro b o e hb;obtain⟨_,_,_,f3,_⟩:=hf b hb;rcases f3 with z|z
   .exact ae.ok.noex b o e z
   .exact absurd (zB2 (zAz (ae.ok.bs b o e).1) z) (Nat.lt_irrefl _)
 have eP:X'.prog=X.prog:=by subst bo;rfl
 have ew:X'.w=X.w:=by subst bo;rfl
 have eK:X'.K=X.K:=by subst bo;rfl
 have eA:X'.A=X.A:=by subst bo;rfl
 have eE:X'.xe=fun _ _=>False:=by subst bo;rfl
 have eL:X'.env.locals=C:=by subst bo;rfl
 have eN:X'.env=compEnvC scope (bY X.env.cells scope.names []) C X.env:=by subst bo;rfl
 have ec:X'.calm=true:=by subst bo;exact hc
 have eS:X'.s₀=s₂:=by subst bo;rfl
 have eH:X'.H₀=H₂:=by subst bo;rfl
 have ef:X'.fs=frs X.stack:=by subst bo;rfl
 have ex:X'.ex=fp:=by subst bo;rfl
 have ep:X'.pn=X.pn++Zt:=by subst bo;rfl
 have I0:Inv X' [] (capσ σ src) H₂ {s₂ with heap:=bg,toks:=s₂.toks+([]:List (Str×Value)).length}:=by
  refine⟨wx,by rw[eS],ae.bare,by rw[eS,eH];exact Un.kept old,⟨_,by rw[eL];exact aT,?_⟩,?_,by rw[eL];exact fresh _ Zz,?_,?_,by rw[eP,ew];exact ae.hok.kept old,?_⟩
  .intro j x v e1 e2 e3;have e1:Nc[j]?=some x:=by subst bo;exact e1
   have e4:∃i,src[j]?=some (some i)/\(σ[i]?).join=some v:=by
    unfold capσ at e2;rw[zAb]at e2
    cases q:src[j]? with
    |none=>rw[q]at e2;cases e2
    |some o=>
     rw[q]at e2
     cases o with
     |none=>simp at e2
     |some i=>exact⟨i,rfl,by simpa using e2⟩
   obtain⟨i,e5,e6⟩:=e4;obtain⟨c1,c2,c3,c4⟩:=(bX C).get e1 e5
   have e7:σ[i]?=some (some v):=by
    cases q:σ[i]? with
    |none=>rw[q]at e6;simp at e6
    |some o=>rw[q]at e6;simp at e6;rw[e6]
   obtain⟨m,_,hl⟩:=ae.loc;obtain⟨u,r,l⟩:=hl i x v c1 e7 (.inr (by rcases c2 with z|z;exact .inl z;exact .inr z));refine⟨u,r,?_⟩;rcases l with⟨k,_⟩|⟨_,c,e,z⟩
   .rcases c2 with c2|c2<;>(rw[k]at c2;cases c2)
   .refine .inr ⟨by rw[eN];exact c4,c,by rw[eN];exact c3.trans e,?_⟩;obtain⟨o,ho,hd⟩:=z;exact⟨o,old c o ho,hd⟩
  .intro x c e;rw[eN]at e;obtain⟨v,o,ho,hd⟩:=ae.cell x c (sub e);exact⟨v,o,old c o ho,hd⟩
  .intro x c e;rw[eN]at e;exact ae.freeC x c (sub e)
  .intro p hp;rw[ep,zAn]at hp;obtain⟨e,n,ne,nf,d⟩:=ae.pin p hp;refine⟨old _ _ e,n,by rw[eL];exact(ai e).1,?_,d⟩;rw[ef];intro z;rcases zAo.mp (ae.stkSub _ z)with q|q
   .exact ne q
   .exact nf q
  .have:=(bX C).len;subst bo;show(capσ σ src).length=Nc.length;unfold capσ;rw[zA1,this]
 have CI:∀p∈X'.pn,p.1≠D:=fun p hp=>by
  rw[ep]at hp;exact(ai (ae.pin p hp).1).2
 have kF:∀x c,X'.env.cells.lookup x=some c->c≠D:=fun x c e=>by
  rw[eN]at e;obtain⟨o,ho⟩:=fS (sub e);exact(ai ho).2
 have rh:∀{P:List (Addr×Obj)} {H:Hp},(∀p∈P,p.1=D)->(∀b∈fp,H b=none)->∀b∈fp,lR X' P H b:=fun{P H} hP hn b hb=>by
  refine⟨hn b hb,by rw[eL];exact(mm b hb).1,by rw[ef];exact wt b hb,.inl (by rw[ex];exact hb),fun x c e=>?_,fun p hp=>?_⟩
  .rw[eN]at e;exact(hf b hb).2.2.2.2.1 x c (sub e)
  .rcases zA6.mp hp with z|z
   .rw[ep]at z;exact(hf b hb).2.2.2.2.2 p z
   .rw[hP p z];exact(mm b hb).2.symm
 obtain⟨W,⟨m0,w0⟩,step⟩:=hW
 have loop:∀s₃:Shared,s₃={s₂ with heap:=bg,toks:=s₂.toks+([]:List (Str×Value)).length}->
   codeAny (model X.prog X.w) X.A (.compLoop (.ListComp elt [⟨tg,iter,ifs,0⟩] scope pos) 0 (.ref it) (.ref D) (compEnvC scope (bY X.env.cells scope.names []) C X.env)) (RR (.ref D) C) s₃:=by
  rintro s₃ rfl
  refine rH (fun n s'=>∃i ys us k af H',Inv X' [] af H' s'/\tn i s'.heap/\(∀b∈fp,H' b=none)/\H' D=none/\s'.heap.get? D=some {cls:=.type "list",data:=.seq (List.toArray us) k}/\Vals ys us/\W i n ys af H') ?_ m0
   ⟨0,[],[],_,_,_,I0,T.keep _ _ _ st fun b _ o e=>old b o e,fun b hb=>(hf b hb).1,fresh _ (zA3 _),rb,.nil,w0⟩
  rintro n s3 ⟨i,ys,us,k,fI,H3,I3,nr,nv,gz,CL,mn,w3⟩;obtain⟨hsz,gE⟩:=step i n ys fI H3 w3
  have w9:Inv X' [(D,{cls:=.type "list",data:=.seq us.toArray k})] fI H3 s3:=I3.pins_of fun p hp=>by
   rw[List.mem_singleton.mp hp];exact⟨CL,gz,by rw[eL];exact ml,by rw[ef];exact rg _ (zA3 _),fun v z=>by cases z⟩
  have gI:∀p∈[(D,({cls:=.type "list",data:=.seq us.toArray k}:Obj))],p.1=D:=fun p hp=>by rw[List.mem_singleton.mp hp]
  rcases gE with⟨stop,fin⟩|⟨go,turn⟩
  ·-- the end
   have hd:=T.done X' eP ew eK ec i _ s3 fI H3 (fun _ _=>False) w9 (rh gI nv) nr stop;rw[eA]at hd;refine thn hd fun r s4 ⟨hr,I4⟩=>?_;subst hr;have pD:=I4.pin (D,{cls:=.type "list",data:=.seq us.toArray k}) (zB5 _ (List.mem_singleton.mpr rfl));obtain⟨mC,xa,_⟩:=I4.loc;rw[eL]at xa;have f7:=I4.base;rw[eS,eH,ef,ex]at f7;have hlen:ys.length<=sizeLine:=Nat.le_of_lt hsz
   have rj:HOk X.prog X.w (upd H3 D (.lst ys)) s4.heap:=fun b u e=>by
    by_cases hb:b=D
    .subst hb;rw[aa]at e;cases e;exact⟨hlen,us,k,mn,pD.1⟩
    .rw[aq hb]at e;have z:=I4.hok b u e;rw[eP,ew]at z
     exact z.stay (fun c v _ q=>q) (fun c q=>by rw[aq (aA q gz)];exact q) fun c xs q=>by rw[aq (aA q gz)];exact q
   have un:Un (frs X.stack) fp H₂ (upd H3 D (.lst ys)) s₂.heap s4.heap:=⟨f7.keep,f7.slot,fun b o e n hx=>by rw[aq (ai e).2];exact f7.free b o e n hx,f7.there,
    fun b xs e=>by
     have z:=f7.tups b xs e
     rw[aq (aA z gz)];exact z,
    fun b o u e=>by
     have z:=f7.frzs b o u e
     rw[aq (aA z gz)];exact z,
    fun b ps e=>by
     obtain⟨mo,z⟩:=f7.tbls b ps e
     exact⟨mo,by rw[aq (aA z gz)];exact z⟩⟩
   have J4:Inv X Zt σ (upd H3 D (.lst ys)) s4:=ae.call' (ch:=fp) (by have:=I4.os;rw[eS]at this;exact this) un rj I4.bare fun b hb=>by
    obtain⟨_,f1,f2,f3,f4,f5⟩:=hf b hb;exact⟨f3,f1,f4,f5⟩
   refine CD D C s4 ys H3 mC fin gz J4 xa ⟨?_,?_,?_,.inr ?_,?_,?_⟩
   .rw[aq ml.symm];have:=I4.free;rw[eL]at this;exact this
   .have:=ae.lt;rw[fw]at this;exact Nat.ne_of_gt (zB2 this (by rw[hC];exact Nat.le_succ _))
   .intro z;obtain⟨_,o,ho,_⟩:=ae.funs.mem z;exact(ai ho).1 rfl
   .have:=ae.sz;rw[fw]at this;lia
   .intro x c e z;obtain⟨o,ho⟩:=fS e;exact(ai ho).1 z
   .intro p hp z;exact(ai (ae.pin p hp).1).1 z
  ·-- a turn
   have hd:=T.item X' eP ew eK ec i _ s3 fI H3 (fun _ _=>False) w9 (rh gI nv) nr go;rw[eA]at hd;refine thn hd fun r s4 ⟨u,hr,h4⟩=>?_;subst hr;refine thn h4 fun _ s5 ⟨x,H5,I5,r5,y5,ki,wb⟩=>?_;have wc:=I5.pinned (rh gI wb) (T.obj _ _ ki);have xb:=hg _ s5 fI H5 x u _ wc r5 (turn x H5 y5);rw[eP,ew,eA,eE,eN]at xb;refine thn xb fun _ s6 ⟨eM,H6,I6,q6⟩=>?_;have nE:=ht _ s6 eM H6 _ I6 q6;rw[eP,ew,eA,eE,eN]at nE;refine thn nE fun xh s7 ⟨H7,I7,q7⟩=>?_
   have back:∀{H8:Hp} {s8:Shared},Inv X' ([(D,({cls:=.type "list",data:=.seq us.toArray k}:Obj))]++cW fp s5.heap) eM H8 s8->
     Inv X' [] eM H8 s8/\tn (i+1) s8.heap/\(∀b∈fp,H8 b=none)/\H8 D=none/\s8.heap.get? D=some {cls:=.type "list",data:=.seq us.toArray k}/\(∀b∈fp,∀o,s5.heap.get? b=some o->s8.heap.get? b=some o):=fun{H8 s8} I8=>by
    have pD:=I8.pin (D,{cls:=.type "list",data:=.seq us.toArray k}) (List.mem_append_right _ (List.mem_append_left _ (List.mem_singleton.mpr rfl)));have pf:∀b∈fp,∀o,s5.heap.get? b=some o->s8.heap.get? b=some o:=fun b hb o e=>(I8.pin (b,o) (List.mem_append_right _ (List.mem_append_right _ (dW hb e)))).1;refine⟨I8.pins_of fun p hp=>absurd hp Zy,T.keep _ _ _ ki pf,fun b hb=>?_,pD.2.1,pD.1,pf⟩;obtain⟨o,e,d⟩:=T.obj _ _ ki b hb;exact(I8.pin (b,o) (List.mem_append_right _ (List.mem_append_right _ (dW hb e)))).2.1
   cases xh with
   |false=>
    obtain⟨b1,b2,b3,b4,b5,_⟩:=back I7;obtain⟨m',hm,w7⟩:=q7;exact⟨m',hm,i+1,ys,us,k,eM,H7,b1,b2,b3,b4,b5,mn,w7⟩
   |true=>
    have tw:=he _ s7 eM H7 _ I7 q7;rw[eP,ew,eA,eE,eN]at tw;show wpAny _ _ (eval elt _) _ _ s7;refine thn tw fun xv s8 ⟨y,H8,I8,r8,m',hm,w8⟩=>?_;obtain⟨b1,b2,b3,b4,b5,b6⟩:=back I8;refine append_at (hsz:=by rw[zA8,<-mn.length];exact Nat.le_of_lt hsz) b5 fun h9 xi CM=>?_
    have I9:Inv X' [] eM H8 {s8 with heap:=h9}:=b1.turned (t':=s8.toks) (fun b o hb e=>xi.extBut b o hb e) b4 (by rw[eL];exact ml) (.inr (by rw[eS,fw];exact zA3 _)) kF fun p hp=>by
     rw[zAn]at hp;exact CI p hp
    refine⟨m',hm,i+1,ys++[y],us++[xv],k+1,eM,H8,I9,T.keep _ _ _ b2 fun b hb o e=>xi.extBut b o (mm b hb).2 e,b3,b4,?_,mn.append (.cons r8 .nil),w8⟩;show h9.get? D=_;rw[CM,List.push_toArray]
 refine codeAny_compStart_list (loop _ rfl) ?_;exact T.self _ 0 _ _ _ (T.keep _ _ _ st fun b _ o e=>old b o e) (loop _ rfl)
def wQ(wi:TI)(src:List (Option Nat))(g:TG)(tt:TT)(te:TE):TE:=fun σ H Q=>wi σ H fun J H1=>iw J g tt te (fun ys H'=>∀D,H' D=none->Q (.ref D) (upd H' D (.lst ys))) (capσ σ src) H1
section
variable{X:Cx}{tg iter elt:Expr}{ifs:List Expr}{scope:Scope}{pos:Pos}{Nc:List Str}{wi:TI}{g:TG}{tt:TT}{te:TE}
theorem bG(Nc:List Str)(src:List (Option Nat))(hc:X.calm=true)(hi:PI X tg iter wi)
  (hb:∀C fp Zt s₂ H₂,PG (cxC X scope Nc C fp Zt s₂ H₂) tg g/\PTs (cxC X scope Nc C fp Zt s₂ H₂) ifs tt/\PE (cxC X scope Nc C fp Zt s₂ H₂) elt te)
  (bX:∀C,Caps X (compEnvC scope (bY X.env.cells scope.names []) C X.env) Nc src) (S:CScope X scope)
  (hs:∀x,foldedSetIterable iter X.env x=pure x:=by intro _;rfl):PE X (.ListComp elt [⟨tg,iter,ifs,0⟩] scope pos) (wQ wi src g tt te):=by
 intro Zt s σ H Q I h;rw[eval_ListComp];refine wpAny_comprehension_free (use:=none) rfl hs (jY S.hfree) S.kind S.hnames ?_;refine thn (hi Zt s σ H _ I h) fun v s1 h1=>thn h1 fun wa s2 h2=>?_;obtain⟨it,fp,tn,J,H2,e,I2,T,qa,f2,hW⟩:=h2;subst e;refine qj (RR:=fun acc C=>compPost (model X.prog X.w) X.A X.xe none (EP X Zt σ Q) acc C) hc S bX hb I2 T qa f2 hW ?_;intro D C s' ys H' m fin nD J' hn fC;obtain⟨f0,f1,_,f3,f4,f5⟩:=fC;refine⟨m,hn,fun HE kG=>?_⟩;exact⟨.ref D,_,J'.turned (t':=s'.toks) (fun b o hb e=>kG.extBut b o hb e) f0 f1 f3 f4 f5,rfl,fin D nD⟩
def HY(wi:TI)(src:List (Option Nat))(g:TG)(tt:TT)(te:TE)(i:Nat):TS:=fun D σ H=>wQ wi src g tt te σ H fun v H'=>D.nx (σ.set i (some v)) H'
theorem En{i:Nat}{x:Str}{pos' xk:Pos}(Nc:List Str)(src:List (Option Nat))(hc:X.calm=true)(hN:X.N.Nodup)(kH:X.N[i]?=some x)(hx:Loc X.env.scope x)(hi:PI X tg iter wi)
  (hb:∀C fp Zt s₂ H₂,PG (cxC X scope Nc C fp Zt s₂ H₂) tg g/\PTs (cxC X scope Nc C fp Zt s₂ H₂) ifs tt/\PE (cxC X scope Nc C fp Zt s₂ H₂) elt te)
  (bX:∀C,Caps X (compEnvC scope (bY X.env.cells scope.names []) C X.env) Nc src) (S:CScope X scope)
  (MQ:swapsWith (.ListComp elt [⟨tg,iter,ifs,0⟩] scope pos) (some (.Name x pos')) xk.line X.env=pure true:=by rfl)
  (hf:X.fn x=true\/X.env.scope.names.lookup x=some .local:=by first|exact .inl rfl|exact .inr rfl|assumption)
  (hs:∀x,foldedSetIterable iter X.env x=pure x:=by intro _;rfl):PS X (.Assign [.Name x pos'] (.ListComp elt [⟨tg,iter,ifs,0⟩] scope pos) xk) (HY wi src g tt te i):=by
 intro Zt s σ H D I h;rw[exec_Assign_Name_used _ _ _ _ MQ];refine zAt (wpAny_standAt (zAt ?_));show wpAny _ _ (do let _ <-comprehension (.ListComp elt [⟨tg,iter,ifs,0⟩] scope pos) scope X.env _ (newList []) false (eval iter X.env) (some (assign (.Name x pos') X.env))) _ _ s;refine zAt (thn (wpAny_comprehension_free (use:=some (assign (.Name x pos') X.env)) (Q:=fun _ s'=>∃af H',Inv X Zt af H' s'/\D.nx af H') rfl hs (jY S.hfree) S.kind S.hnames ?_) fun _ s' hq=>zAw (zAw hq));refine thn (hi Zt s σ H _ I h) fun v s1 h1=>thn h1 fun wa s2 h2=>?_;obtain⟨it,fp,tn,J,H2,e,I2,T,qa,f2,hW⟩:=h2;subst e;refine qj (RR:=fun acc C=>compPost (model X.prog X.w) X.A X.xe (some (assign (.Name x pos') X.env)) (fun _ s'=>∃af H',Inv X Zt af H' s'/\D.nx af H') acc C) hc S bX hb I2 T qa f2 hW ?_;intro A C s' ys H' m fin nD J' hn fC;obtain⟨f0,f1,R0,f3,f4,f5⟩:=fC;refine wpAny_assign_Name (jr J' hN kH hx (v:=.ref A) rfl (fun dy MR MT=>?_) hf)
 have nI:∃m',dy.heap.Ns C m':=by
  obtain⟨a,sb,ha⟩:=MT
  have bp:C≠a:=by
   rcases ha with z|z
   .rw[z];exact f1
   .exact fun q=>f4 x a z q.symm
  exact⟨m,hn.sameBut sb bp⟩
 obtain⟨m',nI⟩:=nI;refine⟨m',nI,fun HE kG=>?_⟩;exact⟨_,_,MR.turned (t':=dy.toks) (fun b o hb e=>kG.extBut b o hb e) f0 f1 f3 f4 f5,fin A nD⟩
end
section
variable{X:Cx}
theorem bR:dw X (.builtin "isinstance") (fun xs H Q=>∃x t n b,xs=[x,.ty n]/\TyOf X.K H x t/\PySem.W.kitOne X.K t (.type n)=some b/\Q (.bl b) H):=by
 intro Zt s σ H xs us Q I r h;obtain⟨x,t,n,b,rfl,ty,e,q⟩:=h;obtain⟨u,c,rfl,ru,rc⟩:=vals2 r;obtain rfl:c=Value.type n:=rc
 exact yM I ru ty e fun tk=>⟨.bl b,H,I.tok _,rfl,q⟩
theorem uc{prog:Program}{w:World}{A:Around}(bs:List Bool):TruthOf prog w A (fun i v=>∃b,bs[i]?=some b/\v=Value.bool b) (fun i=>(bs[i]?).getD false):=by
 intro i v s Q E hP hQ;obtain⟨b,hb,rfl⟩:=hP;dsimp only at hQ;rw[hb]at hQ;exact wpAny_truthy_bool hQ
theorem all_range(bs:List Bool):(List.range bs.length).all (fun i=>(bs[i]?).getD false)=bs.all id:=by
 apply Bool.eq_iff_iff.mpr;rw[List.all_eq_true,List.all_eq_true];constructor
 .intro h b hb;obtain⟨i,hi,e⟩:=List.getElem_of_mem hb;have:=h i (List.mem_range.mpr hi);rw[zA0 hi,e]at this;exact this
 .intro h i hi;have hi:=List.mem_range.mp hi;rw[zA0 hi];exact h _ (zAh hi)
theorem iM:∀{bs:List Bool} {us:List Value},Vals (bs.map V.bl) us->us=bs.map Value.bool
 |[],_,.nil=>rfl
 |_::bs,_,.cons r t=>by
  rw[iM (bs:=bs) t,show _=Value.bool _ from r];rfl
theorem eG(hc:X.calm=true):dw X (.builtin "all") (fun xs H Q=>∃(p:Addr) (bs:List Bool),xs=[.ref p]/\SqL X.K H p (bs.map V.bl)/\Q (.bl (bs.all id)) H):=by
 intro Zt s σ H xs us Q I r h;obtain⟨p,bs,rfl,hq,q⟩:=h;obtain⟨u,rfl,ru⟩:=vals1 r;cases ru;obtain⟨Zr,rv,pl,hz⟩:=I.list hq;have ei:=iM rv;subst ei;have aE:p<s.heap.objs.size:=by obtain⟨_,e,_⟩:=pl.isList;exact zAz e
 refine call_all_walk (wpAny_pyIter_list pl.isList ?_);have W:=Walks.list (prog:=X.prog) (w:=X.w) (A:=X.A.in1) (I.ok.hd hc) s.heap.objs.size p (zB4 aE) (bs.map Value.bool).toArray;refine⟨_,_,_,_,_,_,_,rfl,{sub:=W.sub,frame:=W.frame,item:=fun i s Q E hi st hQ=>W.item i s Q E hi st fun v h' tk hP=>hQ v h' tk ?_,done:=W.done,self:=W.self},⟨⟨_,zB1 _ rfl,rfl,rfl⟩,pl.isList.push _⟩,uc bs,fun h' tk k=>?_⟩
 .have xl:(bs.map Value.bool).toArray[i]?=some v:=hP;rw[List.getElem?_toArray,zAb]at xl
  cases e:bs[i]? with
  |none=>rw[e]at xl;cases xl
  |some b=>rw[e]at xl;exact⟨b,rfl,(zAl xl).symm⟩
 .have hsz:(bs.map Value.bool).toArray.size=bs.length:=by simp
  rw[hsz,all_range];refine⟨.bl _,H,?_,rfl,q⟩;refine I.kept (h':=h') (t':=tk) fun b o e=>k b o ?_ (Heap.get?_push_of_some _ e);intro z;have:b=s.heap.objs.size:=by simpa using z
  exact absurd (zAz e) (by rw[this];exact Nat.lt_irrefl _)
end
theorem lW{K:Frag}:PySem.W.kitOne K (.type "NoneType") (.type "int")=some false:=by kernel_rfl
theorem jZ{K:Frag}:PySem.W.kitOne K (.type "NoneType") (.type "bool")=some false:=by kernel_rfl
theorem jL{K:Frag}:PySem.W.kitOne K (.type "NoneType") (.type "tuple")=some false:=by kernel_rfl
theorem rJ{K:Frag}:PySem.W.kitOne K (.type "bool") (.type "int")=some true:=by kernel_rfl
theorem pG{K:Frag}:PySem.W.kitOne K (.type "bool") (.type "bool")=some true:=by kernel_rfl
theorem o6{K:Frag}:PySem.W.kitOne K (.type "bool") (.type "tuple")=some false:=by kernel_rfl
theorem ue{K:Frag}:PySem.W.kitOne K (.type "int") (.type "int")=some true:=by kernel_rfl
theorem rK{K:Frag}:PySem.W.kitOne K (.type "int") (.type "bool")=some false:=by kernel_rfl
theorem pH{K:Frag}:PySem.W.kitOne K (.type "int") (.type "tuple")=some false:=by kernel_rfl
theorem uf{K:Frag}:PySem.W.kitOne K (.type "str") (.type "int")=some false:=by kernel_rfl
theorem rM{K:Frag}:PySem.W.kitOne K (.type "str") (.type "bool")=some false:=by kernel_rfl
theorem pI{K:Frag}:PySem.W.kitOne K (.type "str") (.type "tuple")=some false:=by kernel_rfl
theorem rN{K:Frag}:PySem.W.kitOne K (.type "list") (.type "int")=some false:=by kernel_rfl
theorem pJ{K:Frag}:PySem.W.kitOne K (.type "list") (.type "bool")=some false:=by kernel_rfl
theorem o7{K:Frag}:PySem.W.kitOne K (.type "list") (.type "tuple")=some false:=by kernel_rfl
theorem pK{K:Frag}:PySem.W.kitOne K (.type "tuple") (.type "int")=some false:=by kernel_rfl
theorem o8{K:Frag}:PySem.W.kitOne K (.type "tuple") (.type "bool")=some false:=by kernel_rfl
theorem nu{K:Frag}:PySem.W.kitOne K (.type "tuple") (.type "tuple")=some true:=by kernel_rfl
theorem rO{K:Frag}:PySem.W.kitOne K (.type "dict") (.type "int")=some false:=by kernel_rfl
theorem pL{K:Frag}:PySem.W.kitOne K (.type "dict") (.type "bool")=some false:=by kernel_rfl
theorem o9{K:Frag}:PySem.W.kitOne K (.type "dict") (.type "tuple")=some false:=by kernel_rfl
section
variable{κ:Type}[DecidableEq κ]
def dF(Zs:List (κ×V))(k:κ):Option V:=(Zs.find? fun kv=>decide (kv.1=k)).map (·.2)
def putK(Zs:List (κ×V))(k:κ)(v:V):List (κ×V):=
 if(Zs.any fun kv=>decide (kv.1=k))=true then Zs.map (fun kv=>if kv.1=k then(kv.1,v)else kv)else Zs++[(k,v)]
theorem cZ{p:κ×V}{r:List (κ×V)}{k:κ}(e:p.1=k):dF (p::r) k=some p.2:=by simp[dF,List.find?_cons,e]
theorem d9{p:κ×V}{r:List (κ×V)}{k:κ}(e:¬p.1=k):dF (p::r) k=dF r k:=by simp[dF,List.find?_cons,e]
theorem gq(k:κ):∀Zs:List (κ×V),(Zs.any fun kv=>decide (kv.1=k))=(dF Zs k).isSome
 |[]=>rfl
 |p::r=>by
  rw[List.any_cons];by_cases e:p.1=k
  .simp only[cZ e,decide_eq_true e,Bool.true_or,Option.isSome_some]
  .rw[d9 e,zAy e,Bool.false_or];exact gq k r
theorem ug(k j:κ)(y:V):∀Zs:List (κ×V),dF (Zs.map fun kv=>if kv.1=k then(kv.1,y)else kv) j=(dF Zs j).map fun x=>if j=k then y else x
 |[]=>rfl
 |p::r=>by
  have ih:=ug k j y r;rw[zAk];by_cases h:p.1=k
  .rw[zB3 h];by_cases e:p.1=j
   .rw[cZ (p:=(p.1,y)) e,cZ e,Option.map_some,zB3 (e.symm.trans h)]
   .rw[d9 (p:=(p.1,y)) e,d9 e,ih]
  .rw[zB0 h];by_cases e:p.1=j
   .rw[cZ (p:=p) e,cZ e,Option.map_some,zB0 (fun z=>h (e.trans z))]
   .rw[d9 (p:=p) e,d9 e,ih]
theorem ql(k j:κ)(y:V):∀Zs:List (κ×V),dF Zs k=none->dF (Zs++[(k,y)]) j=if j=k then some y else dF Zs j
 |[],_=>by
  by_cases e:k=j
  .rw[zB3 e.symm];exact cZ (p:=(k,y)) e
  .rw[zB0 (fun z=>e z.symm)];exact d9 (p:=(k,y)) e
 |p::r,hn=>by
  rw[List.cons_append]
  have hk:¬p.1=k:=fun z=>by rw[cZ z]at hn;cases hn
  rw[d9 hk]at hn;have ih:=ql k j y r hn;by_cases e:p.1=j
  .rw[cZ e,cZ e,zB0 (fun z=>hk (e.trans z))]
  .rw[d9 e,d9 e,ih]
theorem jd(Zs:List (κ×V))(k j:κ)(y:V):dF (putK Zs k y) j=if j=k then some y else dF Zs j:=by
 unfold putK;by_cases a:(Zs.any fun kv=>decide (kv.1=k))=true
 .rw[zB3 a,ug];rw[gq]at a;by_cases e:j=k
  .obtain⟨x,hx⟩:=Option.isSome_iff_exists.mp a;rw[zB3 e,e,hx,Option.map_some,zB3 rfl]
  .rw[zB0 e]
   cases dF Zs j with
   |none=>rfl
   |some x=>rw[Option.map_some,zB0 e]
 .rw[zB0 a];refine ql k j y Zs ?_;rw[gq]at a
  cases q:dF Zs k with
  |none=>rfl
  |some x=>rw[q]at a;exact(a rfl).elim
theorem mY(Zs:List (κ×V))(k:κ)(v:V):(putK Zs k v).length<=Zs.length+1:=by
 unfold putK;split
 .rw[zA1];lia
 .rw[zA2,zAe,List.length_nil];lia
theorem oh{Zs:List (κ×V)}{k:κ}(v:V)(h:dF Zs k=none):putK Zs k v=Zs++[(k,v)]:=by
 unfold putK;rw[gq,h];exact zB0 Zx
theorem RelO.isSome_eq{o:Option V}{u:Option Value}(r:RelO o u):o.isSome=u.isSome:=by
 cases o with
 |none=>cases u with
  |none=>rfl
  |some _=>exact(show False from r).elim
 |some _=>cases u with
  |none=>exact(show False from r).elim
  |some _=>rfl
theorem KV.val{Zs:List (κ×V)}{vs:List (κ×Value)}(r:KV Zs vs)(k:κ):RelO (dF Zs k) (valueAt vs k):=by
 unfold KV at r
 induction r with
 |nil=>exact True.intro
 |@cons p q ps qs h t ih=>
  obtain⟨h1,h2⟩:=h;by_cases e:p.1=k
  .have e':q.1=k:=h1.symm.trans e;have b:valueAt (q::qs) k=some q.2:=by simp[valueAt,List.find?_cons,e']
   rw[cZ e,b];exact h2
  .have e':¬q.1=k:=fun z=>e (h1.trans z);have b:valueAt (q::qs) k=valueAt qs k:=by simp[valueAt,List.find?_cons,e']
   rw[d9 e,b];exact ih
theorem KV.any{Zs:List (κ×V)}{vs:List (κ×Value)}(r:KV Zs vs)(k:κ):(Zs.any fun kv=>decide (kv.1=k))=vs.any fun kv=>decide (kv.1=k):=by
 unfold KV at r
 induction r with
 |nil=>rfl
 |cons h t ih=>rw[List.any_cons,List.any_cons,ih,h.1]
theorem KV.repl{Zs:List (κ×V)}{vs:List (κ×Value)}(r:KV Zs vs)(k:κ){y:V}{u:Value}(ry:RelV y u):
  KV (Zs.map fun kv=>if kv.1=k then(kv.1,y)else kv) (vs.map fun kv=>if kv.1=k then(kv.1,u)else kv):=by
 unfold KV at r⊢
 induction r with
 |nil=>exact .nil
 |@cons p q ps qs h t ih=>
  rw[zAk,zAk];refine .cons ?_ ih;obtain⟨h1,h2⟩:=h;by_cases e:p.1=k
  .rw[zB3 e,zB3 (h1.symm.trans e)];exact⟨h1,ry⟩
  .rw[zB0 e,zB0 (fun z=>e (h1.trans z))];exact⟨h1,h2⟩
theorem KV.put{Zs:List (κ×V)}{vs:List (κ×Value)}(r:KV Zs vs)(k:κ){y:V}{u:Value}(ry:RelV y u):KV (putK Zs k y) (stored vs k u):=by
 unfold putK stored;rw[r.any k];by_cases e:(vs.any fun kv=>decide (kv.1=k))=true
 .rw[zB3 e,zB3 e];exact r.repl k ry
 .rw[zB0 e,zB0 e];exact Paired.snoc r ⟨rfl,ry⟩
theorem KV.length{Zs:List (κ×V)}{vs:List (κ×Value)}(r:KV Zs vs):Zs.length=vs.length:=Paired.length r
end
theorem wR{P:Program}{w:World}{k:Key}{u:Value}(r:RelV (kV k) u):(cD P w).is k u=true:=by
 cases k with
 |inl i=>obtain⟨t,e⟩:=(show ∃t,u=Value.int i t from r);subst e;exact tU P w i t
 |inr x=>obtain⟨t,e⟩:=(show ∃t,u=Value.str x t from r);subst e;exact tV P w x t
theorem qm{P:Program}{w:World}:∀{ks:List Key} {us:List Value},Vals (ks.map kV) us->ItemsAre (cD P w) ks us
 |[],_,r=>by rw[List.map_nil]at r;cases r;exact .nil
 |k::ks,_,r=>by
  rw[zAk]at r
  cases r with
  |cons h t=>exact .cons (wR h) (qm t)
abbrev KT(H:Hp):List (List Key×V)->List (List Key×Addr×Value)->Prop:=Paired fun p q=>p.1=q.1/\H q.2.1=some (.tup (p.1.map kV))/\RelV p.2 q.2.2
theorem KT.val{H:Hp}{Zs:List (List Key×V)}{xs:List (List Key×Addr×Value)}(r:KT H Zs xs)(k:List Key):RelO (dF Zs k) ((atKey xs k).map (·.2)):=by
 induction r with
 |nil=>exact True.intro
 |@cons p q ps qs h t ih=>
  obtain⟨h1,_,h2⟩:=h;by_cases e:p.1=k
  .have e':q.1=k:=h1.symm.trans e;have b:atKey (q::qs) k=some q.2:=by simp[atKey,List.find?_cons,e']
   rw[cZ e,b];exact h2
  .have e':¬q.1=k:=fun z=>e (h1.trans z);have b:atKey (q::qs) k=atKey qs k:=by simp[atKey,List.find?_cons,e']
   rw[d9 e,b];exact ih
theorem KT.repl{H:Hp}{Zs:List (List Key×V)}{xs:List (List Key×Addr×Value)}(r:KT H Zs xs)(k:List Key){y:V}{u:Value}(ry:RelV y u):
  KT H (Zs.map fun kv=>if kv.1=k then(kv.1,y)else kv) (xs.map (putAt k u)):=by
 induction r with
 |nil=>exact .nil
 |@cons p q ps qs h t ih=>
  rw[zAk,zAk];refine .cons ?_ ih;obtain⟨h1,h2,h3⟩:=h;unfold putAt;by_cases e:p.1=k
  .rw[zB3 e,zB3 (h1.symm.trans e)];exact⟨h1,h2,ry⟩
  .rw[zB0 e,zB0 (fun z=>e (h1.trans z))];exact⟨h1,h2,h3⟩
theorem KT.put{H:Hp}{Zs:List (List Key×V)}{xs:List (List Key×Addr×Value)}(r:KT H Zs xs)(k:List Key){b:Addr}{y:V}{u:Value}(hb:H b=some (.tup (k.map kV)))(ry:RelV y u):
  KT H (putK Zs k y) (storedH xs k b u):=by
 have e:(Zs.any fun kv=>decide (kv.1=k))=(atKey xs k).isSome:=by
  rw[gq,(r.val k).isSome_eq,Option.isSome_map]
 unfold putK storedH;rw[e];by_cases q:(atKey xs k).isSome=true
 .rw[zB3 q,zB3 q];exact r.repl k ry
 .rw[zB0 q,zB0 q];exact Paired.snoc r ⟨rfl,hb,ry⟩
theorem KT.keeps{H H':Hp}{Zs:List (List Key×V)}{xs:List (List Key×Addr×Value)}(r:KT H Zs xs)(ht:∀b ys,H b=some (.tup ys)->H' b=some (.tup ys)):KT H' Zs xs:=
 Paired.mapP r fun _ _ z=>⟨z.1,ht _ _ z.2.1,z.2.2⟩
section
variable{P:Program}{w:World}{H:Hp}{h:Heap}{a:Addr}
theorem GD{u:HO}(ok:HOk P w H h)(e:Rd H a u):ObjOk P w H h a u:=e.ok ok
theorem wU{Zs:List (Key×V)}(ok:HOk P w H h)(e:Rd H a (.dK Zs)):Zs.length<=sizeLine/\(a==sysModules)=false/\∃vs,KV Zs vs/\h.DictOf (cD P w) a vs:=
 show ObjOk P w H h a (.dK Zs)from GD ok e
theorem JM{Zs:List (Key×V)}(ok:HOk P w H h)(e:H a=some (.dK Zs)):Zs.length<=sizeLine/\(a==sysModules)=false/\∃vs,KV Zs vs/\h.DictOf (cD P w) a vs:=wU ok (.inl e)
theorem rP{ks:List Key}(ok:HOk P w H h)(e:H a=some (.tup (ks.map kV))):(tupleKind (cD P w)).is h ks a:=by
 obtain⟨_,Zr,r,o,h1,h2,n,h3⟩:=(show ObjOk P w H h a (.tup (ks.map kV))from ok a _ e)
 exact⟨o,Zr.toArray,n,h1,h2,h3,by simpa using qm r⟩
theorem wV{Zs:List (List Key×V)}(ok:HOk P w H h)(e:Rd H a (.dT Zs)):Zs.length<=sizeLine/\(a==sysModules)=false /\
  ∃xs,KT H Zs xs/\h.DictOfH (tupleKind (cD P w)) a xs:=by
 obtain⟨z,y,xs,r,o,es,ep,h1,h2,h3,h4,h5⟩:=(show ObjOk P w H h a (.dT Zs)from GD ok e)
 refine⟨z,y,xs,r,o,es,ep,h1,h2,h3,h4,fun x hx=>?_,h5⟩
 have all:∀{l:List (List Key×V)} {m:List (List Key×Addr×Value)},KT H l m->∀x∈m,(tupleKind (cD P w)).is h x.1 x.2.1:=by
  intro l m q
  induction q with
  |nil=>intro x hx;exact nomatch hx
  |@cons p q ps qs hq t ih=>
   intro x hx;rcases zAo.mp hx with e|hx
   .subst e;exact rP ok (by rw[<-hq.1];exact hq.2.1)
   .exact ih x hx
 exact all r x hx
theorem JN{Zs:List (List Key×V)}(ok:HOk P w H h)(e:H a=some (.dT Zs)):Zs.length<=sizeLine/\(a==sysModules)=false /\
  ∃xs,KT H Zs xs/\h.DictOfH (tupleKind (cD P w)) a xs:=wV ok (.inl e)
end
def DGet(H:Hp)(a:Addr)(y:V)(r:Option V):Prop:=
 (∃Zs k,Rd H a (.dK Zs)/\y=kV k/\r=dF Zs k)\/∃Zs k b,Rd H a (.dT Zs)/\y=.ref b/\H b=some (.tup (k.map kV))/\r=dF Zs k
def DPut(H:Hp)(a:Addr)(y v:V)(H':Hp):Prop:=
 (∃Zs k,H a=some (.dK Zs)/\y=kV k/\Zs.length<sizeLine/\H'=upd H a (.dK (putK Zs k v))) \/
 ∃Zs k b,H a=some (.dT Zs)/\y=.ref b/\H b=some (.tup (k.map kV))/\Zs.length<sizeLine/\H'=upd H a (.dT (putK Zs k v))
theorem DGet.t{H:Hp}{a b:Addr}{Zs:List (List Key×V)}{k:List Key}(e:H a=some (.dT Zs))(eb:H b=some (.tup (k.map kV))):DGet H a (.ref b) (dF Zs k):=.inr ⟨Zs,k,b,.inl e,rfl,eb,rfl⟩
theorem DPut.t{H:Hp}{a b:Addr}{Zs:List (List Key×V)}{k:List Key}{v:V}(e:H a=some (.dT Zs))(eb:H b=some (.tup (k.map kV)))(hl:Zs.length<sizeLine):
  DPut H a (.ref b) v (upd H a (.dT (putK Zs k v))):=.inr ⟨Zs,k,b,e,rfl,eb,hl,rfl⟩
section
variable{X:Cx}{Zt:List (Addr×Obj)}{σ:St}{H:Hp}{s:Shared}{a:Addr}{y v:V}{u r:Value}{o:Option V}{A:Around}{E:Value->Shared->Prop}
theorem Inv.big(I:Inv X Zt σ H s):sysModules<s.heap.objs.size:=by
 have h:mainGlobals<s.heap.objs.size:=(I.mod.glob.keeps I.bk).lt;exact Nat.lt_trans Zx h
theorem yP{Q:Value->Shared->Prop}(hu:A.units+1<cLine)(I:Inv X Zt σ H s)(g:DGet H a y (some v))(ry:RelV y u)(h:∀w' s',Inv X Zt σ H s'->RelV v w'->Q w' s'):
  wpAny (model X.prog X.w) A (getItem (.ref a) u) Q E s:=by
 rcases g with⟨Zs,k,e,ey,l⟩|⟨Zs,k,b,e,ey,eb,l⟩
 .subst ey;obtain⟨z,hd,vs,rel,dd⟩:=wU I.hok e;obtain⟨w',hw,gu⟩:=RelO.some_of (v:=v) (o:=valueAt vs k) (by rw[l];exact rel.val k);exact wpAny_getItem_of (wR ry) dd.mapOf hw (h w' _ (I.tok _) gu)
 .subst ey;cases(show u=Value.ref b from ry);obtain⟨z,hd,xs,rel,dd⟩:=wV I.hok e;obtain⟨w',hw,gu⟩:=RelO.some_of (v:=v) (o:=(atKey xs k).map (·.2)) (by rw[l];exact rel.val k);obtain⟨p,hp,nK⟩:=Option.map_eq_some_iff.mp hw;refine wpAny_getItem_heap (tupleKind_room_in1 hu) (rP I.hok eb) dd hp ?_;rw[nK];exact h w' _ (I.tok _) gu
theorem Eo{Q:Value->Shared->Prop}(hu:A.units+1<cLine)(I:Inv X Zt σ H s)(g:DGet H a y o)(ry:RelV y u)(h:∀s',Inv X Zt σ H s'->Q (.bool (!o.isSome)) s'):
  wpAny (model X.prog X.w) A (compareOp .NotIn u (.ref a)) Q E s:=by
 rcases g with⟨Zs,k,e,ey,l⟩|⟨Zs,k,b,e,ey,eb,l⟩
 .subst ey;obtain⟨z,hd,vs,rel,dd⟩:=wU I.hok e;refine wpAny_notIn_of (wR ry) hd dd.mapOf ?_;rw[<-(rel.val k).isSome_eq,<-l];exact h _ (I.tok _)
 .subst ey;cases(show u=Value.ref b from ry);obtain⟨z,hd,xs,rel,dd⟩:=wV I.hok e;refine wpAny_notIn_heap (tupleKind_room_in1 hu) (rP I.hok eb) hd dd ?_;have q:=(rel.val k).isSome_eq;rw[Option.isSome_map]at q;rw[<-q,<-l];exact h _ (I.tok _)
theorem wW{h':Heap}{t':Nat}{ob:HO}(I:Inv X Zt σ H s)(mu:Mut (H a))(hs:Heap.SameBut a s.heap h')(he:∃q,h'.get? a=some q)(new:ObjOk X.prog X.w (upd H a ob) h' a ob):
  Inv X Zt σ (upd H a ob) {s with heap:=h',toks:=t'}:=
 I.write (x:=a) (e:=a) mu (.inl rfl) (fun b q hb z=>(hs.2 b hb).trans z) he new
theorem Ia{P:Program}{w:World}{H':Hp}{h':Heap}{Zs:List (Key×V)}{vs:List (Key×Value)}(z:Zs.length<=sizeLine)(hd:(a==sysModules)=false)(rel:KV Zs vs)(dd:h'.DictOf (cD P w) a vs):
  ObjOk P w H' h' a (.dK Zs):=⟨z,hd,vs,rel,dd⟩
theorem yQ{H':Hp}{Q:Unit->Shared->Prop}(hu:A.units+1<cLine)(I:Inv X Zt σ H s)(g:DPut H a y v H')(ry:RelV y u)(rv:RelV v r)(h:∀s',Inv X Zt σ H' s'->Q () s'):
  wpAny (model X.prog X.w) A (setItem (.ref a) u r) Q E s:=by
 rcases g with⟨Zs,k,e,ey,l,eH⟩|⟨Zs,k,b,e,ey,eb,l,eH⟩
 .subst ey eH;obtain⟨z,hd,vs,rel,dd⟩:=JM I.hok e;have hz:vs.length<=sizeLine:=by rw[<-rel.length];exact z
  have hl:(putK Zs k v).length<=sizeLine:=by have:=mY Zs k v;lia
  refine wpAny_setItem_pairs (hsz:=hz) (wR ry) dd fun h' A7 hs=>h _ ?_
  have he:∃q,h'.get? a=some q:=let⟨q,_,_,hq,_⟩:=A7;⟨q,hq⟩
  exact wW I (by rw[e];exact True.intro) hs he (Ia hl hd (rel.put k rv) A7)
 .subst ey eH;cases(show u=Value.ref b from ry);obtain⟨z,hd,xs,rel,dd⟩:=JN I.hok e;have hz:xs.length<=sizeLine:=by rw[<-Paired.length rel];exact z
  have hl:(putK Zs k v).length<=sizeLine:=by have:=mY Zs k v;lia
  refine wpAny_setItem_heap (hsz:=hz) (tupleKind_room_in1 hu) (rP I.hok eb) dd fun h' A7 hs=>h _ ?_;obtain⟨q,es,ep,hq,h2,h3,h4,_,h5⟩:=A7;refine wW I (by rw[e];exact True.intro) hs ⟨q,hq⟩ ⟨hl,hd,_,(rel.put k eb rv).keeps fun c ys ec=>?_,q,es,ep,hq,h2,h3,h4,h5⟩;rw[aq (Jp ec e (fun z=>nomatch z))];exact ec
end
section
variable{X:Cx}{Zt:List (Addr×Obj)}{σ:St}{H:Hp}{s:Shared}{a:Addr}{Zs:List (Key×V)}{k:Key}{u:Value}{A:Around}{E:Value->Shared->Prop}
end
def JP(i:Expr):Prop:=∀ov iv,subscripted i false ov iv=operate [ov,iv] (getItem ov iv)
theorem Ep{prog:Program}{w:World}{A:Around}{E:Value->Shared->Prop}{s:Shared}{env:Env}{value slice:Expr}{pos:Pos}{T id:String}{Q:Value->Shared->Prop}
  (hl:typeLookup (.type T) "__getitem__"=pure (some (.builtin id))) (hs:JP slice)
  (h:wpAny (model prog w) A (eval value env) (fun o s₁=>wpAny (model prog w) A (eval slice env) (fun i s₂=>s₂.TypeIs o T/\wpAny (model prog w) A (getItem o i) Q E s₂) E s₁) E s):
  wpAny (model prog w) A (eval (.Subscript value slice pos) env) Q E s:=by
 refine Subscript_ (wpAny_mono h (fun o s₁ bg=>wpAny_mono bg (fun i s₂ ej=>?_) fun _ _ x=>x) fun _ _ x=>x);obtain⟨hT,ej⟩:=ej;unfold subscriptTail;refine zAt ?_;rw[getitemInPython_of_ne hT.not_modules];refine zAt (wpAny_specialOf hT hl ?_)
 have fin:wpAny (model prog w) A (subscripted slice false o i) (fun r s₃=>wpAny (model prog w) A (letTemporaryGo value o r>>=fun _=>pure r) Q E s₃) E s₂:=by
  rw[hs o i];exact wpAny_operating (wpAny_mono ej (fun r s₃ gy=>zAt (wpAny_letTemporaryGo (zAw gy))) fun _ _ x=>x)
 first
  |exact zAw (zAt fin)
  |exact zAt (zAw (zAt fin))
  |exact zAt fin
theorem uh{X:Cx}{Zt:List (Addr×Obj)}{σ:St}{H:Hp}{s:Shared}{a:Addr}{y:V}{o:Option V}(I:Inv X Zt σ H s)(g:DGet H a y o):s.TypeIs (.ref a) "dict":=by
 rcases g with⟨Zs,k,e,_,_⟩|⟨Zs,k,b,e,_,_,_⟩
 .obtain⟨_,_,vs,_,dd⟩:=wU I.hok e;exact dd.typeIs
 .obtain⟨_,_,xs,_,dd⟩:=wV I.hok e;exact dd.typeIs
def JQ(td ty:TE):TE:=fun σ H Q=>td σ H fun x H1=>ty σ H1 fun y H2=>∃a v,x=.ref a/\DGet H2 a y (some v)/\Q v H2
def Er(ty td:TE):TE:=fun σ H Q=>ty σ H fun y H1=>td σ H1 fun x H2=>∃a o,x=.ref a/\DGet H2 a y o/\Q (.bl (!o.isSome)) H2
def JR(td ty tv:TE):TS:=fun D σ H=>tv σ H fun v H1=>td σ H1 fun x H2=>ty σ H2 fun y H3=>∃a H4,x=.ref a/\DPut H3 a y v H4/\D.nx σ H4
section
variable{X:Cx}{o i e value:Expr}{pos pos' pV:Pos}{td ty tv:TE}
theorem km(hu:X.A.units+1<cLine)(ho:PE X o td)(hi:PE X i ty)(hs:JP i):PE X (.Subscript o i pos) (JQ td ty):=by
 intro Zt s σ H Q I h;refine Ep PySem.F.slot_dict_getitem.lookup hs (thn (ho Zt s σ H _ I h) fun u s1 ⟨x,H1,I1,rx,q1⟩=>thn (hi Zt s1 σ H1 _ I1 q1) fun iv s2 ⟨y,H2,I2,ry,a,v,ex,g,q2⟩=>?_);subst ex;obtain rfl:u=Value.ref a:=rx;exact⟨uh I2 g,yP hu I2 g ry fun w' s3 I3 gu=>⟨v,H2,I3,gu,q2⟩⟩
theorem yR(hu:X.A.units+1<cLine)(hi:PE X i ty)(ho:PE X o td):PC X .NotIn i o (Er ty td):=by
 intro Zt s σ H Q I h;refine thn (hi Zt s σ H _ I h) fun iv s1 ⟨y,H1,I1,ry,q1⟩=>thn (ho Zt s1 σ H1 _ I1 q1) fun u s2 ⟨x,H2,I2,rx,a,ov,ex,g,q2⟩=>?_;subst ex;obtain rfl:u=Value.ref a:=rx
 exact Eo hu I2 g ry fun s3 I3=>⟨.bl (!ov.isSome),H2,I3,rfl,q2⟩
theorem Es(hu:X.A.units+1<cLine)(ho:PE X o td)(hi:PE X i ty)(hv:PE X value tv)(hs:swapsWith value (some (.Subscript o i pos')) pos.line X.env=pure false):
  PS X (.Assign [.Subscript o i pos'] value pos) (JR td ty tv):=by
 intro Zt s σ H D I h;refine wpAny_Assign_Subscript (thn (hv Zt s σ H _ I h) fun r s1 ⟨v,H1,I1,rv,q1⟩=>thn (ho Zt s1 σ H1 _ I1 q1) fun u s2 ⟨x,H2,I2,rx,q2⟩=>thn (hi Zt s2 σ H2 _ I2 q2) fun iv s3 ⟨y,H3,I3,ry,a,H4,ex,g,q3⟩=>?_) hs;subst ex;obtain rfl:u=Value.ref a:=rx
 exact yQ hu I3 g ry rv fun s4 I4=>⟨σ,H4,I4,q3⟩
end
theorem Av{P:Program}{w:World}{H:Hp}(h:Heap)(hb:sysModules<h.objs.size):ObjOk P w H (h.push {cls:=.type "dict",data:=.dict #[]}) h.objs.size (.dT []):=
 ⟨zAp _,beq_eq_false_iff_ne.mpr (Ne.symm (zB4 hb)),[],.nil,_,#[],0,zB1 _ rfl,⟨rfl,rfl,rfl⟩,rfl,rfl,List.nodup_nil⟩
def Ib:TE:=fun _ H Q=>∀p,H p=none->Q (.ref p) (upd H p (.dT []))
section
variable{X:Cx}{pos:Pos}
theorem Aw:PE X (.Dict [] [] pos) Ib:=fun Zt s σ H Q I h=>
 wpAny_Dict_empty ⟨.ref s.heap.objs.size,_,I.laid (a:=s.heap.objs.size) (o:=.dT []) (t':=s.toks) (fun _ _ q=>zAv _ q) (zA3 _) (Av s.heap I.big),rfl,h _ (I.hok.fresh (zA3 _))⟩
end
section
variable{X:Cx}{Zt:List (Addr×Obj)}{σ:St}{H:Hp}{s:Shared}{a:Addr}{y d:V}{u r:Value}{o:Option V}{A:Around}{E:Value->Shared->Prop}
end
section
variable{X:Cx}{o e f:Expr}{apos av:Pos}{td ty tx:TE}
end
section
variable{X:Cx}{Zt:List (Addr×Obj)}{σ:St}{H:Hp}{s:Shared}{a:Addr}{Zs:List (Key×V)}{A:Around}{E:Value->Shared->Prop}
end
section
variable{X:Cx}{Zt:List (Addr×Obj)}{σ:St}{H:Hp}{s:Shared}{a:Addr}{y:V}{u:Value}{A:Around}{E:Value->Shared->Prop}
end
def Et:Key->PyData
 |.inl i=>.int i
 |.inr x=>.str x
mutual
inductive IsTh(S:Addr->Prop)(H:Hp):V->PyData->Prop
 |non:IsTh S H .non .none
 |bl (b:Bool):IsTh S H (.bl b) (.bool b)
 |int (i:Int):IsTh S H (.int i) (.int i)
 |str (x:Str):IsTh S H (.str x) (.str x)
 |lst {a:Addr} {xs:List V} {ds:List PyData} (hs:S a) (e:H a=some (.lst xs)) (r:IsThs S H xs ds):IsTh S H (.ref a) (.list ds)
 |tup {a:Addr} {xs:List V} {ds:List PyData} (e:H a=some (.tup xs)) (r:IsThs S H xs ds):IsTh S H (.ref a) (.tuple ds)
 |dct {a:Addr} {ks:List (Key×Int)} (hs:S a) (e:H a=some (.dK (ks.map fun p=>(p.1,V.int p.2)))):IsTh S H (.ref a) (.dict (ks.map fun p=>(Et p.1,.int p.2)))
inductive IsThs(S:Addr->Prop)(H:Hp):List V->List PyData->Prop
 |nil:IsThs S H [] []
 |cons {v:V} {d:PyData} {vs:List V} {ds:List PyData} (h:IsTh S H v d) (t:IsThs S H vs ds):IsThs S H (v::vs) (d::ds)
end
section
variable{S S':Addr->Prop}{H H':Hp}
theorem IsThs.length:∀{vs:List V} {ds:List PyData},IsThs S H vs ds->vs.length=ds.length
 |_,_,.nil=>rfl
 |_,_,.cons _ t=>by rw[zAe,zAe,IsThs.length t]
theorem IsThs.get:∀{vs:List V} {ds:List PyData} {i:Nat} {v:V},IsThs S H vs ds->vs[i]?=some v->∃d,ds[i]?=some d/\IsTh S H v d
 |_,_,_,_,.nil,e=>by simp at e
 |_,_,0,_,.cons h _,e=>by simp at e;subst e;exact⟨_,rfl,h⟩
 |_,_,i+1,v,.cons _ t,e=>by
  obtain⟨d,h1,h2⟩:=IsThs.get (i:=i) (v:=v) t (by simpa using e);exact⟨d,by simpa using h1,h2⟩
theorem IsThs.append:∀{vs ws:List V} {ds es:List PyData},IsThs S H vs ds->IsThs S H ws es->IsThs S H (vs++ws) (ds++es)
 |_,_,_,_,.nil,s=>s
 |_,_,_,_,.cons h t,s=>.cons h (IsThs.append t s)
theorem IsThs.take:∀{vs:List V} {ds:List PyData} (n:Nat),IsThs S H vs ds->IsThs S H (vs.take n) (ds.take n)
 |_,_,0,_=>.nil
 |_,_,_+1,.nil=>.nil
 |_,_,n+1,.cons h t=>.cons h (IsThs.take n t)
theorem IsThs.drop:∀{vs:List V} {ds:List PyData} (n:Nat),IsThs S H vs ds->IsThs S H (vs.drop n) (ds.drop n)
 |_,_,0,r=>r
 |_,_,_+1,.nil=>.nil
 |_,_,n+1,.cons _ t=>IsThs.drop n t
theorem IsThs.ints:∀(ns:List Int),IsThs S H (ns.map V.int) (ns.map PyData.int)
 |[]=>.nil
 |n::ns=>.cons (.int n) (IsThs.ints ns)
mutual
theorem IsTh.keep(ht:∀b xs,H b=some (.tup xs)->H' b=some (.tup xs))(hs:∀b o,S b->H b=some o->H' b=some o)(hS:∀b o,S b->H b=some o->S' b):∀{v:V} {d:PyData},IsTh S H v d->IsTh S' H' v d
 |_,_,.non=>.non
 |_,_,.bl b=>.bl b
 |_,_,.int i=>.int i
 |_,_,.str x=>.str x
 |_,_,.lst s e r=>.lst (hS _ _ s e) (hs _ _ s e) (IsThs.keep ht hs hS r)
 |_,_,.tup e r=>.tup (ht _ _ e) (IsThs.keep ht hs hS r)
 |_,_,.dct s e=>.dct (hS _ _ s e) (hs _ _ s e)
theorem IsThs.keep(ht:∀b xs,H b=some (.tup xs)->H' b=some (.tup xs))(hs:∀b o,S b->H b=some o->H' b=some o)(hS:∀b o,S b->H b=some o->S' b):∀{vs:List V} {ds:List PyData},IsThs S H vs ds->IsThs S' H' vs ds
 |_,_,.nil=>.nil
 |_,_,.cons h t=>.cons (IsTh.keep ht hs hS h) (IsThs.keep ht hs hS t)
end
def tyD:PyData->String
 |.none=>"NoneType"
 |.bool _=>"bool"
 |.int _=>"int"
 |.str _=>"str"
 |.list _=>"list"
 |.tuple _=>"tuple"
 |.dict _=>"dict"
theorem IsTh.ty{K:Frag}{v:V}{d:PyData}(h:IsTh S H v d):TyOf K H v (.type (tyD d)):=by
 cases h with
 |non=>exact .non
 |bl b=>exact .bl b
 |int i=>exact .int i
 |str x=>exact .str x
 |lst s e r=>exact .lst e
 |tup e r=>exact .tup e
 |dct s e=>exact .dK e
def lX:PyData->Bool
 |.int _=>true
 |.bool _=>true
 |_=>false
def kE:PyData->Bool
 |.bool _=>true
 |_=>false
def dg:PyData->Bool
 |.tuple _=>true
 |_=>false
theorem wX{K:Frag}(d:PyData):PySem.W.kitOne K (.type (tyD d)) (.type "int")=some (lX d):=by
 cases d
 .exact lW
 .exact rJ
 .exact ue
 .exact uf
 .exact rN
 .exact pK
 .exact rO
theorem ul{K:Frag}(d:PyData):PySem.W.kitOne K (.type (tyD d)) (.type "bool")=some (kE d):=by
 cases d
 .exact jZ
 .exact pG
 .exact rK
 .exact rM
 .exact pJ
 .exact o8
 .exact pL
theorem nG{K:Frag}(d:PyData):PySem.W.kitOne K (.type (tyD d)) (.type "tuple")=some (dg d):=by
 cases d
 .exact jL
 .exact o6
 .exact pH
 .exact pI
 .exact o7
 .exact nu
 .exact o9
end
mutual
def sz:PyData->Nat
 |.none=>1
 |.bool _=>1
 |.int _=>1
 |.str _=>1
 |.list xs=>1+szs xs
 |.tuple xs=>1+szs xs
 |.dict Zs=>1+4*Zs.length
def szs:List PyData->Nat
 |[]=>0
 |x::xs=>sz x+szs xs
end
mutual
def tame:PyData->Bool
 |.none=>true
 |.bool _=>true
 |.int i=>decide (i.natAbs<2^128)
 |.str x=>decide (x.length<=10)&&x.cps.toList.all fun c=>decide (c<16^8)
 |.list xs=>fM xs
 |.tuple xs=>fM xs
 |.dict Zs=>aN Zs
def fM:List PyData->Bool
 |[]=>true
 |x::xs=>tame x&&fM xs
def aN:List (PyData×PyData)->Bool
 |[]=>true
 | (.int i,.int j)::r=>decide (i.natAbs<2^128)&&decide (j.natAbs<2^128)&&aN r
 | (.str x,.int j)::r=>(decide (x.length<=10)&&x.cps.toList.all fun c=>decide (c<16^8))&&decide (j.natAbs<2^128)&&aN r
 |_::_=>false
end
theorem nH{i:Int}(h:i.natAbs<2^128):(Str.ofString (toString i)).length<=130:=by
 have e:=int_text_length_le (a:=i) (k:=128) Zx (by
  by_cases h0:i.natAbs=0
  .rw[h0];decide
  .exact(Nat.log2_lt h0).mpr h)
 rw[PySem.ofString_length];lia
theorem mZ:∀(ts:List Str) (k:Nat) (acc:Str),(textFrom k acc ts).length<=acc.length+piled ts
 |[],k,acc=>by show acc.length<=acc.length+0;lia
 |t::r,k,acc=>by
  have h:=mZ r (k+1) (acc++(if k>0 then ", " else "":String)++t)
  have e:(acc++(if k>0 then ", " else "":String)++t).length<=acc.length+2+t.length:=by
   rw[strLen_append,strLen_append];split
   .show acc.length+2+t.length<=_;lia
   .show acc.length+0+t.length<=_;lia
  rw[piled_cons];show(textFrom (k+1) _ r).length<=_;lia
theorem um(ts:List Str):(listText ts).length<=piled ts+2:=by
 have h:=mZ ts 0 "[";unfold listText;rw[strLen_append];have e1:(("[":Str)).length=1:=rfl;have e2:(("]":Str)).length=1:=rfl;lia
theorem wY(ts:List Str):(Str.join ", " ts).length<=piled ts:=by
 by_cases h:ts=[]
 .subst h;show 0<=_;lia
 .have:=join_length_add ts h;lia
theorem rQ(ts:List Str):(tupleText ts).length<=piled ts+3:=by
 have h:=wY ts;unfold tupleText;rw[strLen_append,strLen_append];have e1:(("(":Str)).length=1:=rfl
 have e2:((if ts.length==1 then ",)" else ")":String):Str).length<=2:=by
  split
  .exact zA3 2
  .exact Nat.le_succ 1
 lia
theorem uo(ts:List Str):(dictText ts).length<=piled ts+2:=by
 have h:=wY ts;unfold dictText;rw[strLen_append,strLen_append];have e1:(("{":Str)).length=1:=rfl;have e2:(("}":Str)).length=1:=rfl;lia
theorem shownKv_le:∀(Zs:List (PyData×PyData)),aN Zs=true->piled (PyData.shownKv Zs)<=400*Zs.length
 |[],_=>by show 0<=_;lia
 | (.int i,.int j)::r,h=>by
  have h':(decide (i.natAbs<2^128)&&decide (j.natAbs<2^128)&&aN r)=true:=h;simp only[Bool.and_eq_true,Zq]at h';have h1:=nH h'.1.1;have h2:=nH h'.1.2;have h3:=shownKv_le r h'.2;show piled ((PyData.shown (.int i)++": " ++ PyData.shown (.int j))::PyData.shownKv r)<=_;rw[piled_cons,strLen_append,strLen_append];have e1:((": ":Str)).length=2:=rfl;have e2:PyData.shown (.int i)=Str.ofString (toString i):=rfl;have e3:PyData.shown (.int j)=Str.ofString (toString j):=rfl;rw[e1,e2,e3,zAe];lia
 | (.none,_)::_,h=>by simp[aN]at h
 | (.bool _,_)::_,h=>by simp[aN]at h
 | (.str x,.int j)::r,h=>by
  have h':((decide (x.length<=10)&&x.cps.toList.all fun c=>decide (c<16^8))&&decide (j.natAbs<2^128)&&aN r)=true:=h;rw[zAc,zAc,zAc,Zq,Zq]at h';have h0:x.length<=10:=h'.1.1.1
  have h1:=StrLaws.reprText_len x fun c hc=>by simpa using List.all_eq_true.mp h'.1.1.2 c hc
  have h2:=nH h'.1.2;have h3:=shownKv_le r h'.2;show piled ((PyData.shown (.str x)++": " ++ PyData.shown (.int j))::PyData.shownKv r)<=_;rw[piled_cons,strLen_append,strLen_append];have e1:((": ":Str)).length=2:=rfl;have e2:PyData.shown (.str x)=reprText x:=rfl;have e3:PyData.shown (.int j)=Str.ofString (toString j):=rfl;rw[e1,e2,e3,zAe];lia
 | (.str _,.none)::_,h=>by simp[aN]at h
 | (.str _,.bool _)::_,h=>by simp[aN]at h
 | (.str _,.str _)::_,h=>by simp[aN]at h
 | (.str _,.list _)::_,h=>by simp[aN]at h
 | (.str _,.tuple _)::_,h=>by simp[aN]at h
 | (.str _,.dict _)::_,h=>by simp[aN]at h
 | (.list _,_)::_,h=>by simp[aN]at h
 | (.tuple _,_)::_,h=>by simp[aN]at h
 | (.dict _,_)::_,h=>by simp[aN]at h
 | (.int _,.none)::_,h=>by simp[aN]at h
 | (.int _,.bool _)::_,h=>by simp[aN]at h
 | (.int _,.str _)::_,h=>by simp[aN]at h
 | (.int _,.list _)::_,h=>by simp[aN]at h
 | (.int _,.tuple _)::_,h=>by simp[aN]at h
 | (.int _,.dict _)::_,h=>by simp[aN]at h
mutual
theorem qp:∀(d:PyData),tame d=true->d.shown.length+2<=200*sz d
 |.none,_=>by decide +kernel
 |.bool true,_=>by decide +kernel
 |.bool false,_=>by decide +kernel
 |.int i,h=>by
  have:=nH (i:=i) (by simpa[tame]using h);show(Str.ofString (toString i)).length+2<=200*1;lia
 |.str x,h=>by
  have h':(decide (x.length<=10)&&x.cps.toList.all fun c=>decide (c<16^8))=true:=h;rw[zAc]at h';have h1:x.length<=10:=by simpa using h'.1
  have:=StrLaws.reprText_len x fun c hc=>by simpa using List.all_eq_true.mp h'.2 c hc
  show(reprText x).length+2<=200*1;lia
 |.list xs,h=>by
  have h1:=iQ xs (by simpa[tame]using h);have h2:=um (PyData.shownAll xs);show(listText (PyData.shownAll xs)).length+2<=200*(1+szs xs);lia
 |.tuple xs,h=>by
  have h1:=iQ xs (by simpa[tame]using h);have h2:=rQ (PyData.shownAll xs);show(tupleText (PyData.shownAll xs)).length+2<=200*(1+szs xs);lia
 |.dict Zs,h=>by
  have h1:=shownKv_le Zs (by simpa[tame]using h);have h2:=uo (PyData.shownKv Zs);show(dictText (PyData.shownKv Zs)).length+2<=200*(1+4*Zs.length);lia
theorem iQ:∀(xs:List PyData),fM xs=true->piled (PyData.shownAll xs)<=200*szs xs
 |[],_=>by show 0<=_;lia
 |x::xs,h=>by
  have h':(tame x&&fM xs)=true:=h;rw[zAc]at h';have h1:=qp x h'.1;have h2:=iQ xs h'.2;show piled (PyData.shown x::PyData.shownAll xs)<=200*(sz x+szs xs);rw[piled_cons];lia
end
theorem gW:∀(Zs:List (PyData×PyData)),aN Zs=true->PyData.showableKv Zs=true
 |[],_=>rfl
 | (.int i,.int j)::r,h=>by
  have h':(decide (i.natAbs<2^128)&&decide (j.natAbs<2^128)&&aN r)=true:=h;simp only[Bool.and_eq_true,Zq]at h'
  have big:∀{n:Int},n.natAbs<2^128->n.natAbs.log2<1920:=fun{n} hn=>by
   by_cases h0:n.natAbs=0
   .rw[h0];decide
   .exact Nat.lt_trans ((Nat.log2_lt h0).mpr hn) Zx
  simp only[PyData.showableKv,PyData.showable,Bool.and_eq_true,Zq];exact⟨⟨big h'.1.1,big h'.1.2⟩,gW r h'.2⟩
 | (.none,_)::_,h=>by simp[aN]at h
 | (.bool _,_)::_,h=>by simp[aN]at h
 | (.str x,.int j)::r,h=>by
  have h':((decide (x.length<=10)&&x.cps.toList.all fun c=>decide (c<16^8))&&decide (j.natAbs<2^128)&&aN r)=true:=h;rw[zAc,zAc,Zq]at h'
  have big:∀{n:Int},n.natAbs<2^128->n.natAbs.log2<1920:=fun{n} hn=>by
   by_cases h0:n.natAbs=0
   .rw[h0];decide
   .exact Nat.lt_trans ((Nat.log2_lt h0).mpr hn) Zx
  simp only[PyData.showableKv,PyData.showable,Bool.and_eq_true,Zq];exact⟨⟨trivial,big h'.1.2⟩,gW r h'.2⟩
 | (.str _,.none)::_,h=>by simp[aN]at h
 | (.str _,.bool _)::_,h=>by simp[aN]at h
 | (.str _,.str _)::_,h=>by simp[aN]at h
 | (.str _,.list _)::_,h=>by simp[aN]at h
 | (.str _,.tuple _)::_,h=>by simp[aN]at h
 | (.str _,.dict _)::_,h=>by simp[aN]at h
 | (.list _,_)::_,h=>by simp[aN]at h
 | (.tuple _,_)::_,h=>by simp[aN]at h
 | (.dict _,_)::_,h=>by simp[aN]at h
 | (.int _,.none)::_,h=>by simp[aN]at h
 | (.int _,.bool _)::_,h=>by simp[aN]at h
 | (.int _,.str _)::_,h=>by simp[aN]at h
 | (.int _,.list _)::_,h=>by simp[aN]at h
 | (.int _,.tuple _)::_,h=>by simp[aN]at h
 | (.int _,.dict _)::_,h=>by simp[aN]at h
mutual
theorem ni:∀(d:PyData),tame d=true->d.showable=true
 |.none,_=>rfl
 |.bool _,_=>rfl
 |.int i,h=>by
  have h':i.natAbs<2^128:=by simpa[tame]using h
  have:i.natAbs.log2<1920:=by
   by_cases h0:i.natAbs=0
   .rw[h0];decide
   .exact Nat.lt_trans ((Nat.log2_lt h0).mpr h') Zx
  simp only[PyData.showable];exact decide_eq_true this
 |.str _,_=>rfl
 |.list xs,h=>by
  simp only[PyData.showable];exact iR xs (by simpa[tame]using h)
 |.tuple xs,h=>by
  simp only[PyData.showable];exact iR xs (by simpa[tame]using h)
 |.dict Zs,h=>by
  simp only[PyData.showable];exact gW Zs (by simpa[tame]using h)
theorem iR:∀(xs:List PyData),fM xs=true->PyData.showableAll xs=true
 |[],_=>rfl
 |x::xs,h=>by
  have h':(tame x&&fM xs)=true:=h;rw[zAc]at h';simp only[PyData.showableAll,Bool.and_eq_true];exact⟨ni x h'.1,iR xs h'.2⟩
end
theorem jM:∀(Zs:List (PyData×PyData)),aN Zs=true->PyData.depthKv Zs=0
 |[],_=>rfl
 | (.int i,.int j)::r,h=>by
  have h':(decide (i.natAbs<2^128)&&decide (j.natAbs<2^128)&&aN r)=true:=h;simp only[Bool.and_eq_true,Zq]at h';simp only[PyData.depthKv,PyData.depth,jM r h'.2];rfl
 | (.none,_)::_,h=>by simp[aN]at h
 | (.bool _,_)::_,h=>by simp[aN]at h
 | (.str x,.int j)::r,h=>by
  have h':((decide (x.length<=10)&&x.cps.toList.all fun c=>decide (c<16^8))&&decide (j.natAbs<2^128)&&aN r)=true:=h;rw[zAc]at h';simp only[PyData.depthKv,PyData.depth,jM r h'.2];rfl
 | (.str _,.none)::_,h=>by simp[aN]at h
 | (.str _,.bool _)::_,h=>by simp[aN]at h
 | (.str _,.str _)::_,h=>by simp[aN]at h
 | (.str _,.list _)::_,h=>by simp[aN]at h
 | (.str _,.tuple _)::_,h=>by simp[aN]at h
 | (.str _,.dict _)::_,h=>by simp[aN]at h
 | (.list _,_)::_,h=>by simp[aN]at h
 | (.tuple _,_)::_,h=>by simp[aN]at h
 | (.dict _,_)::_,h=>by simp[aN]at h
 | (.int _,.none)::_,h=>by simp[aN]at h
 | (.int _,.bool _)::_,h=>by simp[aN]at h
 | (.int _,.str _)::_,h=>by simp[aN]at h
 | (.int _,.list _)::_,h=>by simp[aN]at h
 | (.int _,.tuple _)::_,h=>by simp[aN]at h
 | (.int _,.dict _)::_,h=>by simp[aN]at h
mutual
theorem kI:∀(d:PyData),tame d=true->d.depth<=sz d
 |.none,_=>zAp _
 |.bool _,_=>zAp _
 |.int i,_=>zAp _
 |.str _,_=>zAp _
 |.list xs,h=>by
  have:=lY xs (by simpa[tame]using h);simp only[PyData.depth,sz];lia
 |.tuple xs,h=>by
  have:=lY xs (by simpa[tame]using h);simp only[PyData.depth,sz];lia
 |.dict Zs,h=>by
  have:=jM Zs (by simpa[tame]using h);simp only[PyData.depth,sz];lia
theorem lY:∀(xs:List PyData),fM xs=true->PyData.depthAll xs<=szs xs
 |[],_=>zAp _
 |x::xs,h=>by
  have h':(tame x&&fM xs)=true:=h;rw[zAc]at h';have h1:=kI x h'.1;have h2:=lY xs h'.2;simp only[PyData.depthAll,szs];lia
end
section
variable{X:Cx}{Zt:List (Addr×Obj)}{σ:St}{H:Hp}{s:Shared}{S:Addr->Prop}
theorem ou{P:Program}{w:World}:∀{ks:List (Key×Int)} {vs:List (Key×Value)} {es:List DictEntry},KV (ks.map fun p=>(p.1,V.int p.2)) vs->Pairs (cD P w) es vs->
  (∃as,ReadsAll s.heap (es.map (·.key)) ((ks.map fun p=>(Et p.1,PyData.int p.2)).map (·.1)) as/\as=[])/\∃as,ReadsAll s.heap (es.map (·.val)) ((ks.map fun p=>(Et p.1,PyData.int p.2)).map (·.2)) as/\as=[]
 |[],vs,es,r,p=>by
  cases r;cases p;exact⟨⟨_,.nil,rfl⟩,⟨_,.nil,rfl⟩⟩
 | (k,n)::ks,vs,es,r,p=>by
  cases r with
  |@cons a b l1 l2 h t=>
   cases p with
   |@cons e kv eJ kvs' h1 h2 h3=>
    obtain⟨⟨_,i1,rfl⟩,⟨_,i2,rfl⟩⟩:=ou (ks:=ks) t h3;obtain⟨q1,q2⟩:=h;have iq:nO b.1 e.key=true:=h1;rw[<-q1]at iq;obtain⟨tv,MU⟩:∃t,b.2=Value.int n t:=q2;rw[MU]at h2;refine⟨⟨_,?_,rfl⟩,⟨_,?_,rfl⟩⟩
    .show ReadsAll s.heap (e.key::eJ.map (·.key)) (Et k::_) ([]++[]);rcases bV iq with⟨i,tk,ei,ev⟩|⟨x,tk,ei,ev⟩
     .have ei:k=Sum.inl i:=ei;rw[ev,ei];exact .cons (.int _ _) i1
     .have ei:k=Sum.inr x:=ei;rw[ev,ei];exact .cons (.str _ _) i1
    .show ReadsAll s.heap (e.val::eJ.map (·.val)) (PyData.int n::_) ([]++[]);rw[h2];exact .cons (.int _ _) i2
mutual
theorem IsTh.reads(I:Inv X Zt σ H s):∀{v:V} {d:PyData} {u:Value},IsTh S H v d->RelV v u->∃as,Reads s.heap u d as/\∀a∈as,S a
 |_,_,_,.non,r=>by cases(show _=Value.none from r);exact⟨[],.none,fun _ h=>nomatch h⟩
 |_,_,_,.bl b,r=>by cases(show _=Value.bool b from r);exact⟨[],.bool b,fun _ h=>nomatch h⟩
 |_,_,_,.int i,r=>by obtain⟨t,rfl⟩:=r;exact⟨[],.int i t,fun _ h=>nomatch h⟩
 |_,_,_,.str x,r=>by obtain⟨t,rfl⟩:=r;exact⟨[],.str x t,fun _ h=>nomatch h⟩
 |_,_,_,@IsTh.lst _ _ a xs ds hs e t,r=>by
  cases(show _=Value.ref a from r)
  obtain⟨_,Zr,n,rv,ho⟩:=(show ObjOk X.prog X.w H s.heap a (.lst xs)from I.hok a _ e)
  obtain⟨as,h1,h2⟩:=IsThs.reads I t rv;refine⟨a::as,.list ho rfl rfl (by simpa using h1),fun b hb=>?_⟩;rcases zAo.mp hb with z|z
  .rw[z];exact hs
  .exact h2 b z
 |_,_,_,@IsTh.tup _ _ a xs ds e t,r=>by
  cases(show _=Value.ref a from r)
  obtain⟨_,Zr,rv,o,ho,hc,n,hd⟩:=(show ObjOk X.prog X.w H s.heap a (.tup xs)from I.hok a _ e)
  obtain⟨as,h1,h2⟩:=IsThs.reads I t rv;exact⟨as,.tuple ho hc hd (by simpa using h1),h2⟩
 |_,_,_,@IsTh.dct _ _ a ks hs e,r=>by
  cases(show _=Value.ref a from r)
  obtain⟨_,_,vs,rel,o,es,ep,ho,hx,hd,_,hp,_⟩:=(show ObjOk X.prog X.w H s.heap a (.dK _)from I.hok a _ e)
  obtain⟨⟨_,i1,rfl⟩,⟨_,i2,rfl⟩⟩:=ou (s:=s) rel hp;refine⟨a::[]++[],.dict ho hx.1 hd i1 i2,fun b hb=>?_⟩;rw[show b=a by simpa using hb];exact hs
theorem IsThs.reads(I:Inv X Zt σ H s):∀{vs:List V} {ds:List PyData} {us:List Value},IsThs S H vs ds->Vals vs us->∃as,ReadsAll s.heap us ds as/\∀a∈as,S a
 |_,_,_,.nil,r=>by cases r;exact⟨[],.nil,fun _ h=>nomatch h⟩
 |_,_,_,.cons h t,r=>by
  cases r with
  |cons r1 r2=>
   obtain⟨as,h1,h2⟩:=IsTh.reads I h r1;obtain⟨bs,h3,h4⟩:=IsThs.reads I t r2;exact⟨as++bs,.cons h1 h3,fun b hb=>(zA6.mp hb).elim (h2 b) (h4 b)⟩
end
theorem qu(hg:X.A.guards=some [])(hS:¬S sysModules):dw X (.builtin "repr") (fun xs H Q=>∃v d,xs=[v]/\IsTh S H v d/\tame d=true/\sz d<=4000/\X.A.units+(sz d+1)<cLine/\Q (.str d.shown) H):=by
 intro Zt s σ H xs us Q I r h;obtain⟨v,d,rfl,th,tm,hz,hu,q⟩:=h;obtain⟨u,rfl,ru⟩:=vals1 r;have hl:=qp d tm;have hsz:d.shown.length<=sizeLine:=by rw[sizeLine_eq];lia
 have fin:∀t h' tk,(∀b o,s.heap.get? b=some o->h'.get? b=some o)->EP X Zt σ Q (.str d.shown t) {s with heap:=h',toks:=tk}:=fun t h' tk k=>⟨.str d.shown,H,I.kept k,⟨t,rfl⟩,q⟩
 have iA:=ni d tm
 cases th with
 |non=>cases(show u=Value.none from ru);exact PySem.P.repr_of_none (fin _ s.heap _ fun _ _ e=>e)
 |bl b=>cases(show u=Value.bool b from ru);exact PySem.P.repr_of_bool (fin _ s.heap _ fun _ _ e=>e)
 |int i=>
  obtain⟨t,rfl⟩:=ru;have:i.natAbs.log2<1920:=by simpa[PyData.showable]using iA
  exact PySem.P.repr_of_int this (fin _ s.heap _ fun _ _ e=>e)
 |str x=>obtain⟨t,rfl⟩:=ru;exact PySem.P.repr_of_str (fin _ s.heap _ fun _ _ e=>e) hsz
 |@lst a xs ds hs e t=>
  obtain⟨as,rd,ha⟩:=(IsTh.lst hs e t).reads I ru;cases(show u=Value.ref a from ru);exact repr_of_reads' rd iA (fun _ hm=>hS (ha _ hm)) hg (by have:=kI _ tm;lia) (fun b o e=>e) (fun h' t tk k=>fin t h' tk k) hsz
 |@tup a xs ds e t=>
  obtain⟨as,rd,ha⟩:=(IsTh.tup (S:=S) e t).reads I ru;cases(show u=Value.ref a from ru);exact repr_of_reads' rd iA (fun _ hm=>hS (ha _ hm)) hg (by have:=kI _ tm;lia) (fun b o e=>e) (fun h' t tk k=>fin t h' tk k) hsz
 |@dct a ks hs e=>
  obtain⟨as,rd,ha⟩:=(IsTh.dct hs e).reads I ru;cases(show u=Value.ref a from ru);exact repr_of_reads' rd iA (fun _ hm=>hS (ha _ hm)) hg (by have:=kI _ tm;lia) (fun b o e=>e) (fun h' t tk k=>fin t h' tk k) hsz
end
section
variable{X:Cx}
theorem lZ(hu:X.A.units<cLine):OpR X (compareOp .Eq) (fun x y H Q=>∃a b xs,x=.ref a/\y=.ref b/\SqT X.K H a xs/\SqT X.K H b []/\Q (.bl xs.isEmpty) H):=by
 intro Zt s σ H x y v u Q I rx ry h;obtain⟨a,b,xs,rfl,rfl,ha,hb,q⟩:=h;cases rx;cases ry;obtain⟨Zr,r1,p1,_⟩:=I.tuple ha;obtain⟨cw,r2,p2,_⟩:=I.tuple hb;have e2:cw=[]:=r2.zero;subst e2;refine PySem.SeqAt.eq_tupleAt (e:=fun _=>true) p1 p2 hu (fun j h1 h2=>absurd h2 Zy) ?_
 have e3:((List.range (min Zr.toArray.size ([]:List Value).toArray.size)).all (fun _=>true)&&Zr.toArray.size==([]:List Value).toArray.size)=xs.isEmpty:=by
  have:=r1.length
  cases Zr with
  |nil=>
   cases r1;rfl
  |cons a r=>cases xs with
   |nil=>simp at this
   |cons b r'=>simp
 rw[e3];exact⟨.bl _,H,I,rfl,q⟩
end
section
variable{prog:Program}{w:World}{A:Around}{E:Value->Shared->Prop}{s:Shared}
theorem Ax{j t:Addr}{i:Nat}{Zr:Array Value}{x:Value}{Q:Value->Shared->Prop}(hj:s.heap.IsTupleIter j t i)(ht:s.heap.IsTuple t Zr)(hx:Zr[i]?=some x)
  (hQ:∀h',h'.IsTupleIter j t (i+1)->Heap.SameBut j s.heap h'->Q x {s with heap:=h'}):wpAny (model prog w) A (Builtin.SmallTypes.nextOf (.ref j)) Q E s:=by
 obtain⟨o,ho,hc,hd⟩:=id hj;obtain⟨p,hp,_,m,hm⟩:=ht;unfold Builtin.SmallTypes.nextOf;refine wpAny_bind (wpAny_callSpecial?_slot (name:=Str.ofString "__next__") hj.typeIs F.slot_tuple_iterator_next (wpAny_call_entry F.slot_tuple_iterator_next hj.typeIs F.entry_tuple_iterator_next ?_ (F.args_tuple_iterator_next_1 _)));show wpAny _ _ (field (.ref j) 0>>=_) _ _ s;refine wpAny_bind (wpAny_field ho hd (x:=.ref t) rfl ?_);show wpAny _ _ (if(Value.ref t==Value.none)=true then _ else _) _ _ s;rw[if_neg (show¬((Value.ref t==Value.none)=true) by intro z;exact zAg z)];show wpAny _ _ (field (.ref j) 1>>=_) _ _ s;refine wpAny_bind (wpAny_field ho hd (x:=.int i 0) rfl (wpAny_bind (wpAny_seqItems hp hm ?_)));simp only[Int.toNat_natCast,hx]
 refine wpAny_bind (wpAny_setField ho hd Zy (wpAny_pure ⟨x,rfl,wpAny_pure (hQ _ ⟨_,Heap.get?_update_self _ ho (Obj.isFreed_of_fields (Obj.data_mapFields hd _)),(Obj.cls_mapFields ..).trans hc,by
  rw[Obj.data_mapFields hd]
  simp[rawInt]⟩ (Heap.SameBut.update ..))⟩))
theorem oA{j t:Addr}{i:Nat}{Zr:Array Value}{Q:Value->Shared->Prop}(hh:A.handled=none)(hj:s.heap.IsTupleIter j t i)(ht:s.heap.IsTuple t Zr)(hx:Zr[i]?=none)
  (hE:∀h' e,Heap.ExtBut j s.heap h'->(∃o,h'.get? e=some o/\o.cls=.type "StopIteration")->E (.ref e) {s with heap:=h'}):wpAny (model prog w) A (Builtin.SmallTypes.nextOf (.ref j)) Q E s:=by
 obtain⟨o,ho,hc,hd⟩:=id hj;obtain⟨p,hp,_,m,hm⟩:=ht;unfold Builtin.SmallTypes.nextOf;refine wpAny_bind (wpAny_callSpecial?_slot (name:=Str.ofString "__next__") hj.typeIs F.slot_tuple_iterator_next (wpAny_call_entry F.slot_tuple_iterator_next hj.typeIs F.entry_tuple_iterator_next ?_ (F.args_tuple_iterator_next_1 _)));show wpAny _ _ (field (.ref j) 0>>=_) _ _ s;refine wpAny_bind (wpAny_field ho hd (x:=.ref t) rfl ?_);show wpAny _ _ (if(Value.ref t==Value.none)=true then _ else _) _ _ s;rw[if_neg (show¬((Value.ref t==Value.none)=true) by intro z;exact zAg z)];show wpAny _ _ (field (.ref j) 1>>=_) _ _ s;refine wpAny_bind (wpAny_field ho hd (x:=.int i 0) rfl (wpAny_bind (wpAny_seqItems hp hm ?_)));simp only[Int.toNat_natCast,hx];refine wpAny_bind (wpAny_rule (wpAny_bind (wpAny_setField ho hd Zy ?_)));show wpAny _ _ (newExc (.type "StopIteration") []>>=_) _ _ _;refine wpAny_bind ?_;simp only[newExc,newTuple];refine wpAny_bind (wpAny_newObj_type (wpAny_bind (m:=firstArgMember _ _) (wpAny_of_eq (a:=Value.none) (by first|rfl | (simp only[firstArgMember];rfl)) (wpAny_newObj_type ?_ (by size_fits)))) (by size_fits));simp only[raiseNew];refine wpAny_bind (wpAny_handled ?_)
 first
  |rw[show A.in1.handled=none from hh]
  |rw[hh]
 exact zAt (zAw (wpAny_throw (hE _ _ (((Heap.SameBut.update ..).extBut.push _).push _) ⟨_,zB1 _ rfl,rfl⟩)))
theorem uq{z TI TO i1 i2 l1 l2:Addr}{k:Nat}{xs ys:Array Value}{x y a b:Value}{Q:Option Value->Shared->Prop}(D:ZipApart z TI TO i1 i2 l1 l2)
  (hz:IsZip s.heap z TI TO .none) (rk:IsPair s.heap TI (.ref i1) (.ref i2)) (xo:IsPair s.heap TO a b)
  (h1:s.heap.IsTupleIter i1 l1 k) (h2:s.heap.IsListIter i2 l2 k) (dA:s.heap.IsTuple l1 xs) (cE:s.heap.IsList l2 ys) (hx:xs[k]?=some x) (hy:ys[k]?=some y)
  (hQ:∀h',IsZip h' z TI TO (rawInt s.heap.objs.size)->IsPair h' TO x y->h'.IsTupleIter i1 l1 (k+1)->h'.IsListIter i2 l2 (k+1)->IsPair h' s.heap.objs.size x y->h'.objs.size=s.heap.objs.size+1->
   (∀c o,c≠z->c≠TO->c≠i1->c≠i2->s.heap.get? c=some o->h'.get? c=some o)->Q (some (.ref s.heap.objs.size)) {s with heap:=h'}):
  wpAny (model prog w) A (pyNext (.ref z)) Q E s:=by
 have hT:s.TypeIs (.ref z) "zip":=⟨_,hz,rfl⟩
 unfold pyNext;refine wpAny_bind (wpAny_attempt (wpAny_callSpecial?_slot (name:=Str.ofString "__next__") hT F.slot_zip_next (wpAny_call_entry F.slot_zip_next hT F.entry_zip_next ?_ (F.args_zip_next_1 _))));show wpAny _ _ (field (.ref z) 2>>=_) _ _ _;refine wpAny_bind (wpAny_field hz rfl (x:=.bool false) rfl ?_);show wpAny _ _ (field (.ref z) 3>>=_) _ _ _;refine wpAny_bind (wpAny_field hz rfl (x:=.ref TI) rfl (wpAny_bind (wpAny_seqItems rk rfl ?_)));show wpAny _ _ (Builtin.SmallTypes.ownedTupleIsFree (.ref z)>>=_) _ _ _;refine wpAny_bind ?_;unfold Builtin.SmallTypes.ownedTupleIsFree;refine wpAny_bind (wpAny_field hz rfl (x:=.none) rfl (wpAny_pure ?_));simp only[if_true];refine wpAny_bind (wpAny_rule (wpAny_bind (wpAny_field hz rfl (x:=.ref TO) rfl (wpAny_bind (wpAny_setField_rec hz Zy fun g1 z1 s1=>?_)))))
 replace z1:IsZip g1 z TI TO .ellipsis:=z1
 refine wpAny_bind ?_;simp only[List.zipIdx_cons,List.zipIdx_nil,List.forIn_cons,List.forIn_nil];refine wpAny_bind (wpAny_bind (wpAny_onRaise ?_));show wpAny _ _ (Builtin.SmallTypes.nextOf (.ref i1)>>=_) _ _ _;refine wpAny_bind (Ax (h1.extBut s1.extBut D.i1z) (dA.extBut s1.extBut D.l1z) hx fun g2 q1 s2=>wpAny_pure ?_);have o2:IsPair g2 TO a b:=s2.extBut _ _ D.TOi1 (s1.extBut _ _ D.TOz xo);refine wpAny_bind (wpAny_seqItems o2 rfl (wpAny_bind (wpAny_updateSeq_pair o2 fun g3 o3 s3=>?_)))
 replace o3:IsPair g3 TO x b:=o3
 refine zAt (wpAny_letGo (zAw (zAt (zAt (wpAny_onRaise ?_)))));show wpAny _ _ (Builtin.SmallTypes.nextOf (.ref i2)>>=_) _ _ _;refine zAt (wpAny_nextOf_list_item (((h2.extBut s1.extBut D.i2z).extBut s2.extBut D.i12.symm).extBut s3.extBut D.TOi2.symm) (((cE.extBut s1.extBut D.l2z).extBut s2.extBut D.l2i1).extBut s3.extBut D.l2TO) hy fun g4 q2 s4=>zAw ?_);have o4:IsPair g4 TO x b:=s4.extBut _ _ D.TOi2 o3;refine zAt (wpAny_seqItems o4 rfl (zAt (wpAny_updateSeq_pair o4 fun g5 o5 s5=>?_)))
 replace o5:IsPair g5 TO x y:=o5
 refine zAt (wpAny_letGo (zAw (zAw (zAt (wpAny_seqItems o5 rfl (zAt (wpAny_newTuple ?_)))))));have hsz:g5.objs.size=s.heap.objs.size:=by rw[s5.1,s4.1,s3.1,s2.1,s1.1]
 have z5:IsZip g5 z TI TO .ellipsis:=s5.extBut _ _ D.TOz.symm (s4.extBut _ _ D.i2z.symm (s3.extBut _ _ D.TOz.symm (s2.extBut _ _ D.i1z.symm z1)));have k5:∀c o,c≠z->c≠TO->c≠i1->c≠i2->s.heap.get? c=some o->g5.get? c=some o:=fun c o c1 c2 c3 c4 e=>s5.extBut _ _ c2 (s4.extBut _ _ c4 (s3.extBut _ _ c2 (s2.extBut _ _ c3 (s1.extBut _ _ c1 e))));have p1:g5.IsTupleIter i1 l1 (k+1):=((q1.extBut s3.extBut D.TOi1.symm).extBut s4.extBut D.i12).extBut s5.extBut D.TOi1.symm;have p2:g5.IsListIter i2 l2 (k+1):=q2.extBut s5.extBut D.TOi2.symm;have xt:z<g5.objs.size:=Heap.lt_size z5;show wpAny _ _ (Builtin.SmallTypes.ownedTupleHandOut (.ref z) (.ref g5.objs.size)>>=_) _ _ _;refine wpAny_bind ?_;unfold Builtin.SmallTypes.ownedTupleHandOut;have z6:IsZip (g5.push {cls:=.type "tuple",data:=.seq #[x,y]}) z TI TO .ellipsis:=Heap.get?_push_of_some _ z5;refine wpAny_bind (wpAny_setField_rec z6 Zy fun g7 z7 s7=>?_)
 replace z7:IsZip g7 z TI TO (rawInt g5.objs.size):=z7
 refine wpAny_setField_rec z7 Zy fun g8 z8 s8=>?_
 replace z8:IsZip g8 z TI TO (rawInt g5.objs.size):=z8
 have up:∀c o,c≠z->g5.get? c=some o->g8.get? c=some o:=fun c o c1 e=>s8.extBut _ _ c1 (s7.extBut _ _ c1 (zAv _ e));have t8:IsPair g8 g5.objs.size x y:=s8.extBut _ _ (Nat.ne_of_gt xt) (s7.extBut _ _ (Nat.ne_of_gt xt) (zB1 _ rfl));have n8:g8.objs.size=g5.objs.size+1:=by rw[s8.1,s7.1,Heap.size_push]
 rw[hsz]at z8 t8 n8;refine zAw ⟨_,rfl,zAw ?_⟩;show Q (some (.ref g5.objs.size)) _;rw[hsz];exact hQ g8 z8 (up _ _ D.TOz o5) (p1.at fun o e=>up _ o D.i1z e) (p2.at fun o e=>up _ o D.i2z e) t8 n8 fun c o c1 c2 c3 c4 e=>up c o c1 (k5 c o c1 c2 c3 c4 e)
theorem vM{z TI TO i1 i2 l1 l2:Addr}{k:Nat}{xs:Array Value}{a b:Value}{Q:Option Value->Shared->Prop}(hh:A.handled=none)(D:ZipApart z TI TO i1 i2 l1 l2)
  (hz:IsZip s.heap z TI TO .none) (rk:IsPair s.heap TI (.ref i1) (.ref i2)) (xo:IsPair s.heap TO a b) (h1:s.heap.IsTupleIter i1 l1 k) (dA:s.heap.IsTuple l1 xs) (hx:xs[k]?=none)
  (hQ:∀h',(∀c o,c≠z->c≠i1->s.heap.get? c=some o->h'.get? c=some o)->Q none {s with heap:=h'}):wpAny (model prog w) A (pyNext (.ref z)) Q E s:=by
 have hT:s.TypeIs (.ref z) "zip":=⟨_,hz,rfl⟩
 unfold pyNext;refine wpAny_bind (wpAny_attempt (wpAny_callSpecial?_slot (name:=Str.ofString "__next__") hT F.slot_zip_next (wpAny_call_entry F.slot_zip_next hT F.entry_zip_next ?_ (F.args_zip_next_1 _))));show wpAny _ _ (field (.ref z) 2>>=_) _ _ _;refine wpAny_bind (wpAny_field hz rfl (x:=.bool false) rfl ?_);show wpAny _ _ (field (.ref z) 3>>=_) _ _ _;refine wpAny_bind (wpAny_field hz rfl (x:=.ref TI) rfl (wpAny_bind (wpAny_seqItems rk rfl ?_)));show wpAny _ _ (Builtin.SmallTypes.ownedTupleIsFree (.ref z)>>=_) _ _ _;refine wpAny_bind ?_;unfold Builtin.SmallTypes.ownedTupleIsFree;refine wpAny_bind (wpAny_field hz rfl (x:=.none) rfl (wpAny_pure ?_));simp only[if_true];refine wpAny_bind (wpAny_rule (wpAny_bind (wpAny_field hz rfl (x:=.ref TO) rfl (wpAny_bind (wpAny_setField_rec hz Zy fun g1 z1 s1=>?_)))))
 replace z1:IsZip g1 z TI TO .ellipsis:=z1
 refine wpAny_bind ?_;simp only[List.zipIdx_cons,List.zipIdx_nil,List.forIn_cons,List.forIn_nil];refine wpAny_bind (wpAny_bind (wpAny_onRaise ?_));show wpAny _ _ (Builtin.SmallTypes.nextOf (.ref i1)>>=_) _ _ _;refine wpAny_bind (oA hh (h1.extBut s1.extBut D.i1z) (dA.extBut s1.extBut D.l1z) hx fun g2 e s2 he=>?_);obtain⟨oe,rl,tF⟩:=he;have z2:IsZip g2 z TI TO .ellipsis:=s2 _ _ D.i1z.symm z1
 have CO:e≠z:=fun q=>by
  subst q;rw[z2]at rl;cases rl;simp at tF
 refine wpAny_setField_rec z2 Zy fun g3 _ s3=>?_;refine wpAny_bind (wpAny_isInstance (T:="StopIteration") (b:=true) ⟨oe,s3.extBut _ _ CO rl,tF⟩ isSubtype_stop (wpAny_pure (hQ _ fun c o c1 c2 q=>s3.extBut _ _ c1 (s2 _ _ c2 (s1.extBut _ _ c1 q)))))
end
abbrev zA(h:Heap)(t:Addr):Heap:=h.push {cls:=.type "tuple_iterator",data:=.fields #[.ref t,.int 0 0]}
abbrev zB(h:Heap)(t l:Addr):Heap:=(zA h t).push {cls:=.type "list_iterator",data:=.fields #[.ref l,.int 0 0]}
abbrev zC(h:Heap)(t l:Addr):Heap:=(zB h t l).push {cls:=.type "tuple",data:=.seq #[.ref h.objs.size,.ref (zA h t).objs.size]}
abbrev zD(h:Heap)(t l:Addr):Heap:=(zC h t l).push {cls:=.type "tuple",data:=.seq #[.none,.none]}
abbrev zE(h:Heap)(t l:Addr):Heap:=(zD h t l).push {cls:=.type "zip",data:=.fields #[.none,.bool false,.bool false,.ref (zB h t l).objs.size,.ref (zC h t l).objs.size]}
theorem rR(t l:Addr)(xs ys:Array Value):
  Meets (Builtin.«zip.__new__» ⟨[.type "zip",.ref t,.ref l],[]⟩) (fun _ R s=>s.heap.IsTuple t xs/\s.heap.IsList l ys/\R (.ok (.ret (.ref (zD s.heap t l).objs.size))) {s with heap:=zE s.heap t l}):=
 .of_wp fun prog w A R s h=>by
  obtain⟨hp,g,d,tk,os⟩:=s;obtain⟨ht,hl,h⟩:=h;have xw:=sub_zip;have hT:Heap.IsTuple (Shared.heap ⟨hp,g,d,tk,os⟩) t xs:=ht;have hL:Heap.IsList (Shared.heap ⟨hp.push {cls:=.type "tuple_iterator",data:=.fields #[.ref t,.int 0 0]},g,d,tk,os⟩) l ys:=Heap.IsList.push hl _
  wp_walk using wpAny_pyIter_tuple hT,wpAny_pyIter_list hL
  exact⟨_,rfl,h⟩
theorem ur{prog:Program}{w:World}{A:Around}{E:Value->Shared->Prop}{s:Shared}{t l:Addr}{xs ys:Array Value}{Q:Value->Shared->Prop}(ht:s.heap.IsTuple t xs)(hl:s.heap.IsList l ys)
  (h:∀h',IsZip h' (s.heap.objs.size+4) (s.heap.objs.size+2) (s.heap.objs.size+3) .none->IsPair h' (s.heap.objs.size+2) (.ref s.heap.objs.size) (.ref (s.heap.objs.size+1))->IsPair h' (s.heap.objs.size+3) .none .none->
   h'.IsTupleIter s.heap.objs.size t 0->h'.IsListIter (s.heap.objs.size+1) l 0->(∀c o,s.heap.get? c=some o->h'.get? c=some o)->Q (.ref (s.heap.objs.size+4)) {s with heap:=h'}):
  wpAny (model prog w) A (call (.type "zip") [.ref t,.ref l]) Q E s:=by
 refine callType_new F.called_zip Zx (F.typeCall_zip_2 _ _) (F.newCall_zip_2 _ _) (fun obj=>F.args_object_init_3 obj _ _) F.entry_zip_new (rR t l xs ys) ⟨ht,hl,?_⟩;have e1:(zA s.heap t).objs.size=s.heap.objs.size+1:=Heap.size_push ..;have e2:(zB s.heap t l).objs.size=s.heap.objs.size+2:=by rw[Heap.size_push,e1]
 have e3:(zC s.heap t l).objs.size=s.heap.objs.size+3:=by rw[Heap.size_push,e2]
 have e4:(zD s.heap t l).objs.size=s.heap.objs.size+4:=by rw[Heap.size_push,e3]
 have xy:∀{c o},(zD s.heap t l).get? c=some o->(zE s.heap t l).get? c=some o:=fun e=>zAv _ e;have xA:∀{c o},(zC s.heap t l).get? c=some o->(zE s.heap t l).get? c=some o:=fun e=>xy (zAv _ e);have xB:∀{c o},(zB s.heap t l).get? c=some o->(zE s.heap t l).get? c=some o:=fun e=>xA (zAv _ e);have up1:∀{c o},(zA s.heap t).get? c=some o->(zE s.heap t l).get? c=some o:=fun e=>xB (zAv _ e);have g5:(zE s.heap t l).get? (zD s.heap t l).objs.size=some _:=zB1 _ rfl;have g4:(zE s.heap t l).get? (zC s.heap t l).objs.size=some _:=xy (zB1 _ rfl);have g3:(zE s.heap t l).get? (zB s.heap t l).objs.size=some _:=xA (zB1 _ rfl);have g2:(zE s.heap t l).get? (zA s.heap t).objs.size=some _:=xB (zB1 _ rfl);have g1:(zE s.heap t l).get? s.heap.objs.size=some _:=up1 (zB1 _ rfl);show _/\_;rw[e4,e2,e3]at g5;rw[e2,e1]at g3;rw[e3]at g4;rw[e1]at g2;rw[e4];exact⟨⟨_,g5,rfl⟩,h _ g5 g3 g4 ⟨_,g1,rfl,rfl⟩ ⟨_,g2,rfl,rfl⟩ fun c o x=>up1 (zAv _ x)⟩
def Itz(K:Frag)(a b:Addr):It:=
 ⟨fun i H=>∃xs ys x y,SqT K H a xs/\SqL K H b ys/\xs[i]?=some x/\ys[i]?=some y,
  fun i H v H'=>∃T,H T=none/\v=.ref T/\∀xs ys,SqT K H a xs->SqL K H b ys->∃x y,xs[i]?=some x/\ys[i]?=some y/\H'=upd H T (.tup [x,y]),
  fun i H=>∃xs,SqT K H a xs/\xs.length<=i⟩
def tnz(z TI TO i1 i2 a b:Addr)(i:Nat)(h:Heap):Prop:=IsZip h z TI TO .none/\IsPair h TI (.ref i1) (.ref i2)/\(∃u v,IsPair h TO u v)/\h.IsTupleIter i1 a i/\h.IsListIter i2 b i
theorem oE{P:Program}{w:World}{K:Frag}{es:List Expr}{k:Nat}{pos:Pos}{z TI TO i1 i2 a b:Addr}(D:ZipApart z TI TO i1 i2 a b):
  Turn P w K (.Tuple es k pos) (Itz K a b) [z,TI,TO,i1,i2] z (tnz z TI TO i1 i2 a b) where
 mem:=by simp
 obj:=fun i h st c hc=>by
  obtain⟨s1,s2,⟨u,v,s3⟩,⟨o4,s4,c4,d4⟩,⟨o5,s5,c5,d5⟩⟩:=st;simp only[List.mem_cons,List.not_mem_nil,or_false]at hc;rcases hc with e|e|e|e|e<;>subst e
  .exact⟨_,s1,fun v q=>by cases q⟩
  .exact⟨_,s2,fun v q=>by cases q⟩
  .exact⟨_,s3,fun v q=>by cases q⟩
  .exact⟨_,s4,fun v q=>by rw[d4]at q;cases q⟩
  .exact⟨_,s5,fun v q=>by rw[d5]at q;cases q⟩
 keep:=fun i h h' st kp=>by
  obtain⟨s1,s2,⟨u,v,s3⟩,s4,s5⟩:=st;exact⟨kp z Zy _ s1,kp TI Zy _ s2,⟨u,v,kp TO Zy _ s3⟩,s4.at fun o e=>kp i1 Zy o e,s5.at fun o e=>kp i2 Zy o e⟩
 item:=by
  intro X hP hw hK hc i Zt s σ H E I hf st hg;subst hP hw hK;obtain⟨s1,s2,⟨u,v,s3⟩,s4,s5⟩:=st;obtain⟨xs,ys,x,y,iE,HG,hx,hy⟩:=hg;obtain⟨Zr,rv,p,_⟩:=I.tuple iE;obtain⟨MV,gu,q,_⟩:=I.list HG;obtain⟨ux,tI,rx⟩:=rv.get hx;obtain⟨uy,MW,ry⟩:=gu.get hy;refine uq D s1 s2 s3 s4 s5 (show s.heap.IsTuple a Zr.toArray from p) q.isList (x:=ux) (y:=uy) (by simpa using tI) (by simpa using MW) fun h1 g1 g2 g3 g4 g5 g6 kp=>?_;refine⟨_,rfl,?_⟩;refine wpAny_letOwnedTupleGo_zip g1 fun h2 e1 sb=>?_
  have ne:∀c,c∈[z,TI,TO,i1,i2]->c≠s.heap.objs.size:=fun c ah e=>by
   obtain⟨f0,f1,f2,f3,f4,f5⟩:=hf c ah
   have:∃o,s.heap.get? c=some o:=by
    simp only[List.mem_cons,List.not_mem_nil,or_false]at ah;rcases ah with q|q|q|q|q<;>subst q
    .exact⟨_,s1⟩
    .exact⟨_,s2⟩
    .exact⟨_,s3⟩
    .exact let⟨o,h,_⟩:=s4;⟨o,h⟩
    .exact let⟨o,h,_⟩:=s5;⟨o,h⟩
   obtain⟨o,ho⟩:=this;exact absurd (zAz ho) (by rw[e];exact Nat.lt_irrefl _)
  have hT:H s.heap.objs.size=none:=I.hok.fresh (zA3 _)
  have kept:∀c o,c∉[z,TO,i1,i2]->s.heap.get? c=some o->h2.get? c=some o:=fun c o ah e=>
   sb.extBut _ _ (fun q=>ah (by simp[q])) (kp c o (fun q=>ah (by simp[q])) (fun q=>ah (by simp[q])) (fun q=>ah (by simp[q])) (fun q=>ah (by simp[q])) e)
  have mr:∀c,c∈[z,TO,i1,i2]->c∈[z,TI,TO,i1,i2]:=fun c ah=>by
   simp only[List.mem_cons,List.not_mem_nil,or_false]at ah⊢;rcases ah with q|q|q|q<;>simp[q]
  have trk:∀c o,H c=some o->c∉[z,TO,i1,i2]:=fun c o e ah=>by
   have:=(hf c (mr c ah)).1;rw[e]at this;cases this
  have kK:h2.get? s.heap.objs.size=some {cls:=.type "tuple",data:=.seq #[ux,uy]}:=sb.extBut _ _ (Ne.symm (ne z Zy)) g5
  have gN:HOk X.prog X.w (upd H s.heap.objs.size (.tup [x,y])) h2:=fun c o e=>by
   by_cases hb:c=s.heap.objs.size
   .subst hb;rw[aa]at e;cases e;exact⟨by show 2<=sizeLine;decide,[ux,uy],.cons rx (.cons ry .nil),_,kK,rfl,_,rfl⟩
   .rw[aq hb]at e
    refine(I.hok c o e).stay (fun d v hd q=>kept d v ?_ q) (fun d q=>by rw[aq (aA q hT)];exact q) fun d l q=>by rw[aq (aA q hT)];exact q
    rcases hd with e'|e'
    .rw[e'];exact trk c o e
    .exact trk d _ e'
  have I2:Inv X Zt σ (upd H s.heap.objs.size (.tup [x,y])) {s with heap:=h2}:=by
   refine I.step (g':=s.gens) (d':=s.drawn) (t':=s.toks) (ch:=[z,TO,i1,i2]) (fun c ah=>?_) (fun c o _ _ hn e _=>kept c o hn e) (fun c o _ _ hn e _=>⟨o.slots,kept c o hn e⟩)
    (fun c o _ e n=>by rw[aq (zB4 (zAz e))];exact n) (fun c o hn e=>⟨o,kept c o hn e⟩) (fun c l e=>by rw[aq (aA e hT)];exact e) (fun c o l e=>by rw[aq (aA e hT)];exact e)
    (fun c l e=>⟨#[],by rw[aq (aA e hT),e];simp⟩) (fun m hm=>?_) gN I.bare
   .obtain⟨f0,f1,f2,f3,f4,f5⟩:=hf c (mr c ah);exact⟨f3,f1,f4,f5⟩
   .obtain⟨o,eJ,ep,ho,r⟩:=hm;refine⟨o,eJ,ep,kept _ o (fun ah=>?_) ho,r⟩;exact(hf _ (mr _ ah)).2.1 rfl
  refine⟨.ref s.heap.objs.size,_,I2,rfl,⟨s.heap.objs.size,hT,rfl,fun HI nN xC MX=>⟨x,y,?_,?_,rfl⟩⟩,⟨e1,?_,?_,?_,?_⟩,fun c ah=>?_⟩
  .rw[I.tuple_inj xC iE];exact hx
  .rw[I.list_inj MX HG];exact hy
  .exact sb.extBut _ _ D.TIz (kp _ _ D.TIz D.TITO D.TIi1 D.TIi2 s2)
  .exact⟨_,_,sb.extBut _ _ D.TOz g2⟩
  .exact g3.extBut sb.extBut D.i1z
  .exact g4.extBut sb.extBut D.i2z
  .rw[aq (ne c ah)];exact(hf c ah).1
 done:=by
  intro X hP hw hK hc i Zt s σ H E I hf st hg;subst hP hw hK;obtain⟨s1,s2,⟨u,v,s3⟩,s4,s5⟩:=st;obtain⟨xs,iE,hlen⟩:=hg;obtain⟨Zr,rv,p,_⟩:=I.tuple iE;have hl:=rv.length
  refine vM (I.ok.hd hc) D s1 s2 s3 s4 (show s.heap.IsTuple a Zr.toArray from p) (by simp;lia) fun h' kp=>⟨rfl,?_⟩
  refine I.step (h':=h') (H':=H) (g':=s.gens) (d':=s.drawn) (t':=s.toks) (ch:=[z,i1]) (fun c ah=>?_) (fun c o _ _ hn e _=>kp c o (fun q=>hn (by simp[q])) (fun q=>hn (by simp[q])) e)
   (fun c o _ _ hn e _=>⟨o.slots,kp c o (fun q=>hn (by simp[q])) (fun q=>hn (by simp[q])) e⟩) (fun c o _ e n=>n) (fun c o hn e=>⟨o,kp c o (fun q=>hn (by simp[q])) (fun q=>hn (by simp[q])) e⟩)
   (fun _ _ e=>e) (fun _ _ _ e=>e) (fun c l e=>⟨#[],by rw[e];simp⟩) (fun m hm=>?_) (fun c o e=>?_) I.bare
  .have:c∈[z,TI,TO,i1,i2]:=by
    simp only[List.mem_cons,List.not_mem_nil,or_false]at ah⊢;rcases ah with q|q<;>simp[q]
   obtain⟨f0,f1,f2,f3,f4,f5⟩:=hf c this;exact⟨f3,f1,f4,f5⟩
  .obtain⟨o,eJ,ep,ho,r⟩:=hm;exact⟨o,eJ,ep,kp _ o (Ne.symm (hf z Zy).2.1) (Ne.symm (hf i1 Zy).2.1) ho,r⟩
  .have nn:∀d v c',c'∈[z,TI,TO,i1,i2]->H d=some v->d≠c':=fun d v c' ah q e'=>by
    have:=(hf c' ah).1;rw[<-e',q]at this;cases this
   have nz:∀d v,H d=some v->d≠z/\d≠i1:=fun d v q=>⟨nn d v z Zy q,nn d v i1 Zy q⟩
   refine(I.hok c o e).stay (fun d v hd q=>?_) (fun _ q=>q) fun _ _ q=>q;rcases hd with e'|e'
   .rw[e']at q⊢;exact kp c v (nz c o e).1 (nz c o e).2 q
   .exact kp d v (nz d _ e').1 (nz d _ e').2 q
 self:=fun _ _ _ _ _ st h=>wpAny_pyIter_zip st.1 h
section
variable{X:Cx}
def Ie(K:Frag)(t:TA):TI:=fun σ H R=>t σ H fun vs H1=>∃a b xs ys,vs=[.ref a,.ref b]/\SqT K H1 a xs/\SqL K H1 b ys/\R (Itz K a b) H1
theorem pi_zip{es:List Expr}{k:Nat}{tp:Pos}{a b:Expr}{ta:TA}{p pos:Pos}(hg:Gl X "zip")(hm:X.mg "zip"=none)(ha:PA X [a,b] ta)(hs:starEach [a,b] X.env=[(false,eval a X.env),(false,eval b X.env)]:=by rfl)(nk:starEach [b] X.env=[(false,eval b X.env)]:=by rfl):
  PI X (.Tuple es k tp) (.Call (.Name "zip" p) [a,b] [] pos) (Ie X.K ta):=by
 intro Zt s σ H R I h;refine Call_ (j7 I hg hm boot_zip (PyProof.Rows.callWith_type1 (thn (ha pos Zt s σ H _ I h) fun us s1 ⟨vs,H1,I1,r1,q1⟩=>?_) (by rw[hs,nk]) (by rw[nk];rfl)));obtain⟨x,y,xs,ys,e,hx,hy,q⟩:=q1;subst e;obtain⟨u,v,rfl,ru,rv⟩:=vals2 r1;cases ru;cases rv;obtain⟨Zr,_,p1,_⟩:=I1.tuple hx;obtain⟨MV,_,p2,_⟩:=I1.list hy;refine ur (show s1.heap.IsTuple x Zr.toArray from p1) p2.isList fun h' z1 z2 z3 z4 z5 kp=>?_;refine wpAny_pyIter_zip z1 ?_;have lx:x<s1.heap.objs.size:=by obtain⟨_,e,_⟩:=(show s1.heap.IsTuple x Zr.toArray from p1);exact zAz e
 have ly:y<s1.heap.objs.size:=by obtain⟨_,e,_⟩:=p2.isList;exact zAz e
 refine⟨_,_,_,_,H1,rfl,I1.kept (t':=s1.toks) kp,oE (zipApart_new lx ly),⟨z1,z2,⟨_,_,z3⟩,z4,z5⟩,fun c hc=>?_,q⟩
 have hle:s1.heap.objs.size<=c:=by
  simp only[List.mem_cons,List.not_mem_nil,or_false]at hc;rcases hc with q|q|q|q|q<;>subst q
  .exact Nat.le_add_right _ 4
  .exact Nat.le_add_right _ 2
  .exact Nat.le_add_right _ 3
  .exact zA3 _
  .exact Nat.le_add_right _ 1
 exact I1.fpOk hle (I1.hok.fresh hle)
end
theorem IsTh.same{S:Addr->Prop}{H H':Hp}{v:V}{d:PyData}(h:IsTh S H v d)(s:Same H H'):IsTh S H' v d:=h.keep (fun b xs e=>s b _ e) (fun b o _ e=>s b o e) fun _ _ z _=>z
theorem IsThs.same{S:Addr->Prop}{H H':Hp}{v:List V}{d:List PyData}(h:IsThs S H v d)(s:Same H H'):IsThs S H' v d:=h.keep (fun b xs e=>s b _ e) (fun b o _ e=>s b o e) fun _ _ z _=>z
theorem Same.upd{H:Hp}{D:Addr}{o:HO}(h:H D=none):Same H (upd H D o):=fun b u e=>by rw[aq (aA e h)];exact e
theorem Same.updR{H H':Hp}{D:Addr}{o:HO}(s:Same H H')(h:H' D=none):Same H (L2.upd H' D o):=s.trans (Same.upd h)
theorem ut{K:Frag}{S:Addr->Prop}{te:TE}{a:Addr}{xs:List V}{ds:List PyData}(f:PyData->Bool){eW:St}{j:Nat}{H0:Hp}{Fin:List V->Hp->Prop}(hT:H0 a=some (.tup xs))(th:IsThs S H0 xs ds)(hl:xs.length<sizeLine)
  (mv:∀v d H Q,d∈ds->Same H0 H->IsTh S H v d->(∀H',Same H H'->Q (.bl (f d)) H')->te (eW.set j (some v)) H Q)
  (fin:∀H',Same H0 H'->Fin (ds.map fun d=>V.bl (f d)) H'):iw (Itt K a) (dH j) u9 te Fin eW H0:=by
 have hlen:=th.length;refine⟨fun i m ys σ H=>m=xs.length-i/\i<=xs.length/\ys=(ds.take i).map (fun d=>V.bl (f d))/\(∀o,σ.set j o=eW.set j o)/\Same H0 H,⟨_,rfl,zAp _,rfl,fun _=>rfl,Same.refl _⟩,?_⟩;rintro i m ys σ H ⟨rfl,hi,rfl,gS,hs⟩;have sq:SqT K H a xs:=SqT.of (hs _ _ hT);refine⟨by rw[zA1,zAd];lia,?_⟩;by_cases aE:i<xs.length
 .refine .inr ⟨⟨xs,xs[i],sq,by simp[aE]⟩,fun x H' y=>?_⟩;obtain⟨e,y⟩:=y;subst e;have hx:=y xs sq;obtain⟨d,hd,ht⟩:=(th.same hs).get hx;show te (σ.set j (some x)) H' _;rw[gS]
  refine mv x d H' _ (zB6 hd) hs ht fun H2 s2=>⟨xs.length-(i+1),Zz,rfl,aE,?_,fun o=>by rw[List.set_set],hs.trans s2⟩
  rw[zAj,hd];simp
 .have e:i=xs.length:=Zz
  subst e;refine .inl ⟨⟨xs,sq,zA3 _⟩,?_⟩;rw[hlen,zAm];exact fin H hs
theorem Ay{ds:List PyData}{f:PyData->Bool}:ds.map (fun d=>V.bl (f d))=(ds.map f).map V.bl:=by rw[zAr];rfl
theorem Ig{ds:List PyData}{f:PyData->Bool}:(ds.map f).all id=ds.all f:=by rw[List.all_map];rfl
section
variable{X:Cx}{es:List Expr}{t:TA}{pos:Pos}
theorem pM:dw X (.type "list") (fun xs H Q=>∃p ys,xs=[.ref p]/\SqT X.K H p ys/\∀l,H l=none->l≠sysModules->Q (.ref l) (upd H l (.lst ys))):=by
 intro Zt s σ H xs us Q I r h;obtain⟨p,ys,rfl,hq,q⟩:=h;obtain⟨u,rfl,rx⟩:=vals1 r;cases rx;obtain⟨Zr,r',pl,hz⟩:=I.tuple hq;have hlen:=r'.length;obtain⟨o,ho,hc,n,hd⟩:=pl;refine call_list_seq p (.inr rfl) ho hc hd (fun h' c' kp e=>?_) (by simp only[List.size_toArray];lia);exact⟨.ref s.heap.objs.size,_,I.laid (t':=s.toks) kp (zA3 _) (show ObjOk X.prog X.w _ h' _ (.lst ys)from⟨hz,Zr,c',r',e⟩),rfl,q _ (I.hok.fresh (zA3 _)) (Nat.ne_of_gt I.big)⟩
end
section
variable{X:Cx}{a b c d:Expr}{ta tb tc td:TE}{pos:Pos}
def wZ(r r' A8:R2)(ta tb tc td:TE):TE:=fun σ H Q=>ta σ H fun x H1=>tb σ H1 fun y H2=>r x y H2 fun z H3=>∃k,z=.bl k /\
 (if k=true then tc σ H3 fun x2 H4=>r' y x2 H4 fun z2 H5=>∃k2,z2=.bl k2/\(if k2=true then td σ H5 fun x3 H6=>A8 x2 x3 H6 Q else Q (.bl false) H5)else Q (.bl false) H3)
theorem yS{o1 o2 o3:CmpOp}{r r' A8:R2}(h1:OpR X (compareOp o1) r)(h2:OpR X (compareOp o2) r')(h3:OpR X (compareOp o3) A8)(ha:PE X a ta)(hb:PE X b tb)(hc:PE X c tc)(hd:PE X d td)
  (hm:lastMarks [o1,o2,o3] [b,c,d]=false:=by with_unfolding_all rfl):PE X (.Compare a [o1,o2,o3] [b,c,d] pos) (wZ r r' A8 ta tb tc td):=by
 intro Zt s σ H Q I h
 refine Compare_chain (thn (ha Zt s σ H _ I h) fun v s1 ⟨x,H1,I1,r1,q1⟩=>chain_link (thn (hb Zt s1 σ H1 _ I1 q1) fun u s2 ⟨y,H2,I2,r2,q2⟩=>
  thn (h1 Zt s2 σ H2 x y v u _ I2 r1 r2 q2) fun g s3 ⟨z,H3,I3,r3,k,e,q3⟩=>?_)) hm
 subst e;cases r3;refine wpAny_truthy_bool ?_
 cases k with
 |false=>exact ite_ff ⟨.bl false,H3,I3,rfl,q3⟩
 |true=>
  refine ite_tt (chain_link (thn (hc Zt s3 σ H3 _ I3 q3) fun w' s4 ⟨z',H4,I4,r4,q4⟩=>thn (h2 Zt s4 σ H4 y z' u w' _ I4 r2 r4 q4) fun g2 s5 ⟨z5,H5,I5,r5,k2,e2,q5⟩=>?_));subst e2;cases r5;refine wpAny_truthy_bool ?_
  cases k2 with
  |false=>exact ite_ff ⟨.bl false,H5,I5,rfl,q5⟩
  |true=>exact ite_tt (chain_last (thn (hd Zt s5 σ H5 _ I5 q5) fun w6 s6 ⟨z6,H6,I6,r6,q6⟩=>h3 Zt s6 σ H6 z' z6 w' w6 Q I6 r4 r6 q6))
end
def Ev(σ:St)(H:Hp)(t:TE)(v:V):Prop:=∀Q:VK,Q v H->t σ H Q
section
variable{σ:St}{H:Hp}{ta tb tc td:TE}
theorem gh{v:V}:Ev σ H (tC v) v:=fun _ h=>h
theorem gr{i:Nat}{v:V}(h:σ[i]?=some (some v)):Ev σ H (iI i) v:=fun _ q=>⟨v,h,q⟩
theorem Az{C:Int->Int->Prop}{g:Int->Int->V}{i j:Int}(a:Ev σ H ta (.int i))(b:Ev σ H tb (.int j))(c:C i j):Ev σ H (tOp (rI C g) ta tb) (g i j):=fun _ q=>a _ (b _ ⟨i,j,rfl,rfl,c,q⟩)
theorem cQ{p q:Int->Int->Bool}{i j k:Int}(a:Ev σ H ta (.int i))(b:Ev σ H tb (.int j))(c:Ev σ H tc (.int k)):
  Ev σ H (vG (rI0 fun i j=>.bl (p i j)) (rI0 fun i j=>.bl (q i j)) ta tb tc) (.bl (p i j&&q j k)):=fun Q h=>a _ (b _ ⟨i,j,rfl,rfl,_,rfl,by
 cases e:p i j with
 |false=>
  rw[e]at h;exact aW h
 |true=>
  rw[e]at h
  exact aY (c _ ⟨j,k,rfl,rfl,h⟩)⟩)
theorem yU{p q r:Int->Int->Bool}{i j k l:Int}(a:Ev σ H ta (.int i))(b:Ev σ H tb (.int j))(c:Ev σ H tc (.int k))(d:Ev σ H td (.int l)):
  Ev σ H (wZ (rI0 fun i j=>.bl (p i j)) (rI0 fun i j=>.bl (q i j)) (rI0 fun i j=>.bl (r i j)) ta tb tc td) (.bl (p i j&&(q j k&&r k l))):=fun Q h=>a _ (b _ ⟨i,j,rfl,rfl,_,rfl,by
 cases e:p i j with
 |false=>
  rw[e]at h;exact aW h
 |true=>
  rw[e]at h;refine aY (c _ ⟨j,k,rfl,rfl,_,rfl,?_⟩)
  cases e2:q j k with
  |false=>
   rw[e2]at h;exact aW h
  |true=>
   rw[e2]at h
   exact aY (d _ ⟨k,l,rfl,rfl,h⟩)⟩)
theorem je{b c:Bool}(x:Ev σ H ta (.bl b))(y:b=true->Ev σ H tb (.bl c)):Ev σ H (Gy ta tb) (.bl (b&&c)):=fun Q h=>x _ ⟨b,rfl,by
 cases e:b with
 |false=>
  rw[e]at h;exact aW h
 |true=>
  rw[e]at h
  exact aY (y e _ h)⟩
end
structure Plain(e:Expr):Prop where
 eq:∀(es:List Expr) (env:Env),starEach (e::es) env=(false,eval e env)::starEach es env
theorem jf{c j p}:Plain (.Constant c j p):=⟨fun _ _=>rfl⟩
theorem jN{x p}:Plain (.Name x p):=⟨fun _ _=>rfl⟩
theorem jg{es k p}:Plain (.Tuple es k p):=⟨fun _ _=>rfl⟩
theorem jO{es p}:Plain (.List es p):=⟨fun _ _=>rfl⟩
theorem jP{f as ks p}:Plain (.Call f as ks p):=⟨fun _ _=>rfl⟩
theorem plain_bin{a o b p}:Plain (.BinOp a o b p):=⟨fun _ _=>rfl⟩
theorem oF{o a p}:Plain (.UnaryOp o a p):=⟨fun _ _=>rfl⟩
theorem mj{a b p}:Plain (.Subscript a b p):=⟨fun _ _=>rfl⟩
theorem jQ{a b c p}:Plain (.ListComp a b c p):=⟨fun _ _=>rfl⟩
theorem mq{a b c p}:Plain (.Compare a b c p):=⟨fun _ _=>rfl⟩
section
variable{X:Cx}{e:Expr}{es:List Expr}{te:TE}{t:TA}
theorem ak(ha:PE X e te)(hr:PA X es t)(hp:Plain e:=by first|exact jN|exact jf|exact jP|exact jg|exact jO|exact plain_bin|exact mj|exact oF|exact plain_dict|exact jQ|exact mq):PA X (e::es) (cA te t):=
 aP ha hr (hp.eq _ _)
end
structure AA(X:Cx)(es:List Expr)(t:TA):Prop where
 run:PA X es t
section
variable{X:Cx}{e:Expr}{es:List Expr}{te:TE}{t:TA}{pos:Pos}
theorem bK:AA X [] il:=⟨aj⟩
theorem Eu(ha:PE X e te)(hr:AA X es t)(hp:Plain e:=by first|exact jN|exact jf|exact jP|exact jg|exact jO|exact plain_bin|exact mj|exact oF|exact plain_dict|exact jQ|exact mq):AA X (e::es) (cA te t):=
 ⟨aP ha hr.run (hp.eq _ _)⟩
theorem xf{x1}(h:AA X es t):PE X (.Tuple es x1 pos) (nU t):=bU h.run
theorem Ex(h:AA X es t):PE X (.List es pos) (vH t):=gU h.run
end
inductive IsInts:List Expr->List Int->Prop
 |nil:IsInts [] []
 |cons {i:Int} {j:Nat} {p:Pos} {es:List Expr} {is:List Int}:IsInts es is->IsInts (.Constant (.int i) j p::es) (i::is)
def qw(is:List Int):TA:=fun _ H Q=>Q (is.map V.int) H
theorem kJ{X:Cx}:∀{es:List Expr} {is:List Int},IsInts es is->PA X es (qw is)
 |_,_,.nil=>fun _ _ _ _ H Q I h=>Calls.spliced_nil ⟨[],H,I,.nil,h⟩
 |_,_,@IsInts.cons i j p es is r=>by
  have h:=ak (X:=X) (ao (i:=i) (j:=j) (pos:=p)) (kJ r);exact h
theorem Ih{X:Cx}{i j:Int}{a b c p q r}:PE X (.Tuple [.Constant (.int i) a p,.Constant (.int j) b q] c r) (nU (qw [i,j])):=bU (kJ (.cons (.cons .nil)))
theorem Ey{X:Cx}{i j k:Int}{a b c d p q q' r r'}:PE X (.Tuple [.Constant (.int i) a p,.BinOp (.Constant (.int j) b q) .Pow (.Constant (.int k) d q') r'] c r) (nU (cA (tC (.int i)) (cA (tOp (rI vC fun i j=>.int (i^j.toNat)) (tC (.int j)) (tC (.int k))) il))):=
 bU (ak ao (ak (aR rm ao ao) aj))
theorem kO{X:Cx}{es:List Expr}{k:Nat}{pos:Pos}{t:TGs}{K:Frag}{n:Nat}(hK:X.K=K)(hc:X.calm=true)(h:PGs X es t)(hn:(assignEach es X.env).length=n:=by rfl)(cn:(assignEach es X.env).findIdx? (·.1)=none:=by rfl):
  PG X (.Tuple es k pos) (vy K n t):=by
 subst hK;exact dR hc h hn cn
structure BE(X:Cx)(e:Expr)(t:TE):Prop where
 run:PE X e t
section
variable{X:Cx}{e:Expr}{es:List Expr}{te:TE}{t:TA}{pos:Pos}
theorem aU(ha:BE X e te)(hr:AA X es t)(hp:Plain e:=by first|exact jN|exact jf|exact jP|exact jg|exact jO|exact plain_bin|exact mj|exact oF|exact plain_dict|exact jQ|exact mq):AA X (e::es) (cA te t):=Eu ha.run hr hp
theorem uv(h:BE X e te):PE X e te:=h.run
theorem Ba{i:Int}{j}:BE X (.Constant (.int i) j pos) (tC (.int i)):=⟨ao⟩
theorem oG{b:Bool}{j}:BE X (.Constant (.bool b) j pos) (tC (.bl b)):=⟨ig⟩
theorem vN{j}:BE X (.Constant .none j pos) (tC .non):=⟨gn⟩
theorem cO{x:Str}{j}:BE X (.Constant (.str x) j pos) (tC (.str x)):=⟨aX⟩
theorem Ii{i k:Int}{j j' q q'}:BE X (.BinOp (.Constant (.int i) j q) .Pow (.Constant (.int k) j' q') pos) (tOp (rI vC fun i j=>.int (i^j.toNat)) (tC (.int i)) (tC (.int k))):=⟨aR rm ao ao⟩
theorem my{x1}(h:AA X es t):BE X (.Tuple es x1 pos) (nU t):=⟨bU h.run⟩
theorem cN(h:AA X es t):BE X (.List es pos) (vH t):=⟨gU h.run⟩
theorem mz{i j:Int}{a b c p q r}:BE X (.Tuple [.Constant (.int i) a p,.Constant (.int j) b q] c r) (nU (qw [i,j])):=⟨Ih⟩
theorem Ez{i j k:Int}{a b c d p q q' r r'}:BE X (.Tuple [.Constant (.int i) a p,.BinOp (.Constant (.int j) b q) .Pow (.Constant (.int k) d q') r'] c r) (nU (cA (tC (.int i)) (cA (tOp (rI vC fun i j=>.int (i^j.toNat)) (tC (.int j)) (tC (.int k))) il))):=⟨Ey⟩
end
structure BS(X:Cx)(st:Stmt)(t:TS):Prop where
 run:PS X st t
structure BSs(X:Cx)(Cc:List Stmt)(t:TS):Prop where
 run:PSs X Cc t
section
variable{X:Cx}{st:Stmt}{rest:List Stmt}{t u:TS}{pos:Pos}
theorem jH(h:BSs X rest t):PSs X rest t:=h.run
theorem aF(h1:BS X st t)(h2:BSs X rest u):BSs X (st::rest) (Ae t u):=⟨aJ h1.run h2.run⟩
theorem bx(h1:BS X st t):BSs X [st] t:=⟨aD h1.run⟩
theorem vO{i:Nat}{x:Str}{e:Expr}{te:TE}{pos':Pos}(hN:X.N.Nodup)(hi:X.N[i]?=some x)(hx:Loc X.env.scope x)(he:BE X e te)(hs:swapsWith e (some (.Name x pos')) pos.line X.env=pure false:=by rfl)(hf:X.fn x=true\/X.env.scope.names.lookup x=some .local:=by first|exact .inl rfl|exact .inr rfl|assumption):
  BS X (.Assign [.Name x pos'] e pos) (vz te (dH i)):=⟨qY hN hi hx he.run hs hf⟩
theorem fj{e:Expr}{te:TE}(he:BE X e te):BS X (.Return (some e) pos) (Hw te):=⟨aO he.run⟩
theorem kW{op:Operator}{r:R2}{a b:Expr}{ta tb:TE}(ho:OpR X (binaryOp op) r)(ha:BE X a ta)(hb:BE X b tb):BE X (.BinOp a op b pos) (tOp r ta tb):=⟨aR ho ha.run hb.run⟩
theorem uw{r:R2}{a b:Expr}{ta tb:TE}(hr:IxR X r)(ha:BE X a ta)(hb:BE X b tb)(hs:rE b):BE X (.Subscript a b pos) (tOp r ta tb):=⟨GC hr ha.run hb.run hs⟩
end
theorem pgn{X:Cx}{x:Str}{pos:Pos}(i:Nat)(hN:X.N.Nodup)(hi:X.N[i]?=some x:=by rfl)(hx:Loc X.env.scope x:=by exact Or.inl rfl)(hf:X.fn x=true\/X.env.scope.names.lookup x=some .local:=by first|exact .inl rfl|exact .inr rfl):PG X (.Name x pos) (dH i):=bw hN hi hx hf
theorem pss{X:Cx}{x:Str}{pos pos':Pos}{e:Expr}{te:TE}(i:Nat)(hN:X.N.Nodup)(he:PE X e te)(hi:X.N[i]?=some x:=by rfl)(hx:Loc X.env.scope x:=by exact Or.inl rfl)(hs:swapsWith e (some (.Name x pos')) pos.line X.env=pure false:=by rfl)(hf:X.fn x=true\/X.env.scope.names.lookup x=some .local:=by first|exact .inl rfl|exact .inr rfl):PS X (.Assign [.Name x pos'] e pos) (vz te (dH i)):=qY hN hi hx he hs hf
theorem gw{X:Cx}{x:Str}{pos pos':Pos}{e:Expr}{te:TE}(i:Nat)(hN:X.N.Nodup)(he:BE X e te)(hi:X.N[i]?=some x:=by rfl)(hx:Loc X.env.scope x:=by exact Or.inl rfl)(hs:swapsWith e (some (.Name x pos')) pos.line X.env=pure false:=by rfl)(hf:X.fn x=true\/X.env.scope.names.lookup x=some .local:=by first|exact .inl rfl|exact .inr rfl):BS X (.Assign [.Name x pos'] e pos) (vz te (dH i)):=vO hN hi hx he hs hf
theorem pX{X:Cx}{r:R2}{a b:Expr}{ta tb:TE}{pos:Pos}(hr:IxR X r)(ha:PE X a ta)(hb:PE X b tb)(hs:rE b:=by exact fun _ _=>rfl):PE X (.Subscript a b pos) (tOp r ta tb):=GC hr ha hb hs
theorem zL{n:Nat}(h:Nat.ble n 1000=true:=by rfl):n<=sizeLine:=Nat.le_trans (Nat.le_of_ble_eq_true h) Zx
theorem cI{X:Cx}{aI:Env}{x:Str}{i:Nat}{N:List Str}{r:List (Option Nat)}(h:Caps X aI N r)(h1:X.N[i]?=some x:=by rfl)(h2:X.env.kindOf x=some .cell:=by rfl)(h3:aI.cells.lookup x=X.env.cells.lookup x:=by rfl)(h4:aI.kindOf x=some .cell:=by rfl):Caps X aI (x::N) (some i::r):=⟨⟨h1,.inl h2,h3,.inl h4⟩,h⟩
theorem fQS{N P:List Str}{sc:Scope}(h1:sc.kind=.function:=by rfl)(h2:sc.isCoroutine=false:=by rfl)(h3:sc.isGenerator=false:=by rfl)(h4:N.Nodup:=by decide +kernel)(h5:N.take P.length=P:=by rfl)(h6:∀x∈P,sc.names.lookup x=some .local\/sc.names.lookup x=some .cell:=by decide +kernel)(h7:∀y∈sc.names,y.2≠.free:=by decide +kernel):FnScope N P sc:=⟨h1,h2,h3,h4,h5,h6,h7⟩
section
variable{X:Cx}{es:List Expr}{t:TA}{pos:Pos}
end
def ThE(S:Addr->Prop)(σ:St)(H:Hp)(t:TE)(d:PyData):Prop:=∀H0,Same H H0->∀Q:VK,(∀v H',Same H0 H'->IsTh S H' v d->Q v H')->t σ H0 Q
def ThA(S:Addr->Prop)(σ:St)(H:Hp)(t:TA)(ds:List PyData):Prop:=∀H0,Same H H0->∀Q:List V->Hp->Prop,(∀vs H',Same H0 H'->IsThs S H' vs ds->Q vs H')->t σ H0 Q
section
variable{S:Addr->Prop}{σ:St}{H:Hp}
theorem KC{v:V}{d:PyData}(h:∀H',IsTh S H' v d):ThE S σ H (tC v) d:=fun H0 _ Q q=>q v H0 (Same.refl _) (h H0)
theorem Ij{i:Int}:ThE S σ H (tC (.int i)) (.int i):=KC fun _=>.int i
theorem GF{t:TE}{i:Int}(h:∀H',Ev σ H' t (.int i)):ThE S σ H t (.int i):=fun H0 _ Q q=>h H0 _ (q _ H0 (Same.refl _) (.int i))
theorem rT:ThA S σ H il []:=fun H0 _ Q q=>q [] H0 (Same.refl _) .nil
theorem eO{te:TE}{ta:TA}{d:PyData}{ds:List PyData}(h1:ThE S σ H te d)(h2:ThA S σ H ta ds):ThA S σ H (cA te ta) (d::ds):=fun H0 s0 Q q=>
 h1 H0 s0 _ fun v H1 s1 t1=>h2 H1 (s0.trans s1) _ fun vs H2 s2 t2=>q (v::vs) H2 (s1.trans s2) (.cons (t1.same s2) t2)
theorem EY(is:List Int):ThA S σ H (qw is) (is.map PyData.int):=fun H0 _ Q q=>q _ H0 (Same.refl _) (IsThs.ints is)
theorem vP{ta:TA}{ds:List PyData}(h:ThA S σ H ta ds)(hl:ds.length<=4000):ThE S σ H (nU ta) (.tuple ds):=fun H0 s0 Q q=>
 h H0 s0 _ fun vs H1 s1 t1=>⟨by rw[t1.length,sizeLine_eq];lia,fun p hp=>q _ _ (s1.updR hp) (.tup aa (t1.same (Same.upd hp)))⟩
end
section
variable{D:Ends}{σ:St}{H:Hp}{t u:TS}{te:TE}{ta:TA}{g:TG}{Q:VK}
theorem bB(h:D.nx σ H):Ad D σ H:=h
theorem aB(h:t {D with nx:=u D} σ H):Ae t u D σ H:=h
theorem Fb(h:∀c:St->Hp->Prop,(∀af H',u D af H'->c af H')->t {D with nx:=c} σ H):Ae t u D σ H:=h (u D) fun _ _ z=>z
theorem aV(h:te σ H fun x H1=>g x σ H1 D.nx):vz te g D σ H:=h
theorem eQ(h:te σ H D.rt):Hw te D σ H:=h
theorem fY(h:ta σ H fun xs H1=>xs.length<=sizeLine/\∀p,H1 p=none->Q (.ref p) (upd H1 p (.lst xs))):vH ta σ H Q:=h
theorem aH{i:Nat}{v:V}{R:St->Hp->Prop}(h:R (σ.set i (some v)) H):dH i v σ H R:=h
end
theorem Bb{K:Frag}{S S':Addr->Prop}{g:TG}{te:TE}{a b:Addr}{xs zs:List V}{ds es:List PyData}(f:PyData->PyData->Bool){eW:St}{H0:Hp}{Fin:List V->Hp->Prop}(inv:St->Prop)(h0:inv eW)
  (ea:H0 a=some (.tup xs)) (eb:H0 b=some (.lst zs)) (r1:IsThs S H0 xs ds) (r2:IsThs S' H0 zs es) (hl:ds.length=es.length) (hz:xs.length<sizeLine)
  (step:∀(T:Addr) x z d e σ H (R:St->VK),d∈ds->e∈es->inv σ->Same H0 H->H T=some (.tup [x,z])->IsTh S H x d->IsTh S' H z e->(∀ar H',inv ar->Same H H'->R ar (.bl (f d e)) H')->g (.ref T) σ H fun ar H2=>te ar H2 (R ar))
  (fin:∀H',Same H0 H'->Fin ((List.zipWith f ds es).map V.bl) H'):iw (Itz K a b) g u9 te Fin eW H0:=by
 have l1:=r1.length;have l2:=r2.length;refine⟨fun i m ys σ H=>m=xs.length-i/\i<=xs.length/\ys=((List.zipWith f ds es).take i).map V.bl/\inv σ/\Same H0 H,⟨_,rfl,zAp _,rfl,h0,Same.refl _⟩,?_⟩;rintro i m ys σ H ⟨rfl,hi,rfl,gS,hs⟩;have q1:SqT K H a xs:=SqT.of (hs _ _ ea);have q2:SqL K H b zs:=SqL.of (hs _ _ eb);refine⟨by rw[zA1,zAd];lia,?_⟩;by_cases aE:i<xs.length
 .have CS:i<zs.length:=Zz
  refine .inr ⟨⟨xs,zs,xs[i],zs[i],q1,q2,by simp[aE],by simp[CS]⟩,fun v H' y=>?_⟩;obtain⟨T,nT,rfl,y⟩:=y;obtain⟨x,z,ex,ez,rfl⟩:=y xs zs q1 q2;obtain⟨d,hd,td⟩:=(r1.same (hs.updR (o:=.tup [x,z]) nT)).get ex;obtain⟨e,he,t2⟩:=(r2.same (hs.updR (o:=.tup [x,z]) nT)).get ez
  refine step T x z d e σ _ (fun ar y H4=>∃m',m'<xs.length-i/\m'=xs.length-(i+1)/\i+1<=xs.length/\((List.zipWith f ds es).take i).map V.bl++[y]=((List.zipWith f ds es).take (i+1)).map V.bl/\inv ar/\Same H0 H4) (zB6 hd) (zB6 he) gS (hs.updR nT) aa td t2 fun ar H2 i2 s2=>⟨xs.length-(i+1),Zz,rfl,aE,?_,i2,(hs.updR nT).trans s2⟩
  have hz:(List.zipWith f ds es)[i]?=some (f d e):=by rw[List.getElem?_zipWith,hd,he]
  rw[zAj,hz];simp
 .have e:i=xs.length:=Zz
  subst e;refine .inl ⟨⟨xs,q1,zA3 _⟩,?_⟩;rw[List.take_of_length_le (by rw[List.length_zipWith];lia)];exact fin H hs
end L2
namespace L2.ZT
open PySem PySem.Spec PyProof.Rows L2
def nm(t:Bool):String:=match t with|true=>"tuple_iterator"|false=>"list_iterator"
def tn(t:Bool):String:=match t with|true=>"tuple"|false=>"list"
def Io(t:Bool)(h:Heap)(a l:Addr)(i:Nat):Prop:=∃o,h.get? a=some o/\o.cls=.type (nm t)/\o.data=.fields #[.ref l,.int i 0]
def Sq(t:Bool)(h:Heap)(a:Addr)(items:Array Value):Prop:=∃o,h.get? a=some o/\o.cls=.type (tn t)/\∃n,o.data=.seq items n
def SQ(t:Bool)(K:Frag)(H:Hp)(a:Addr)(xs:List V):Prop:=match t with|true=>SqT K H a xs|false=>SqL K H a xs
theorem Io.at{t:Bool}{h h':Heap}{a l:Addr}{i:Nat}(x:Io t h a l i)(e:∀o,h.get? a=some o->h'.get? a=some o):Io t h' a l i:=let⟨o,ho,r⟩:=x;⟨o,e _ ho,r⟩
theorem Io.extBut{t:Bool}{h h':Heap}{a b l:Addr}{i:Nat}(x:Io t h a l i)(e:Heap.ExtBut b h h')(n:a≠b):Io t h' a l i:=x.at fun o q=>e _ _ n q
theorem Sq.at{t:Bool}{h h':Heap}{a:Addr}{xs:Array Value}(x:Sq t h a xs)(e:∀o,h.get? a=some o->h'.get? a=some o):Sq t h' a xs:=let⟨o,ho,r⟩:=x;⟨o,e _ ho,r⟩
theorem Sq.extBut{t:Bool}{h h':Heap}{a b:Addr}{xs:Array Value}(x:Sq t h a xs)(e:Heap.ExtBut b h h')(n:a≠b):Sq t h' a xs:=x.at fun o q=>e _ _ n q
theorem qx{t:Bool}{X:Cx}{Zt:List (Addr×Obj)}{σ:St}{H:Hp}{s:Shared}{a:Addr}{xs:List V}(I:Inv X Zt σ H s)(h:SQ t X.K H a xs):∃Zr:List Value,Vals xs Zr/\Sq t s.heap a Zr.toArray/\xs.length<=sizeLine:=by
 cases t
 .obtain⟨Zr,r,p,z⟩:=I.list h;exact⟨Zr,r,p.isList,z⟩
 .exact I.tuple h
theorem Bc{t:Bool}{X:Cx}{Zt:List (Addr×Obj)}{σ:St}{H:Hp}{s:Shared}{a:Addr}{xs ys:List V}(I:Inv X Zt σ H s)(h:SQ t X.K H a xs)(h':SQ t X.K H a ys):xs=ys:=by
 cases t
 .exact I.list_inj h h'
 .exact I.tuple_inj h h'
section
variable{prog:Program}{w:World}{A:Around}{E:Value->Shared->Prop}{s:Shared}
theorem nx{t:Bool}{j l:Addr}{i:Nat}{Zr:Array Value}{x:Value}{Q:Value->Shared->Prop}(hj:Io t s.heap j l i)(ht:Sq t s.heap l Zr)(hx:Zr[i]?=some x)
  (hQ:∀h',Io t h' j l (i+1)->Heap.SameBut j s.heap h'->Q x {s with heap:=h'}):wpAny (model prog w) A (Builtin.SmallTypes.nextOf (.ref j)) Q E s:=by
 cases t
 .exact wpAny_nextOf_list_item hj ht hx hQ
 .exact Ax hj ht hx hQ
theorem vQ{t:Bool}{j l:Addr}{i:Nat}{Zr:Array Value}{Q:Value->Shared->Prop}(hh:A.handled=none)(hj:Io t s.heap j l i)(ht:Sq t s.heap l Zr)(hx:Zr[i]?=none)
  (hE:∀h' e,Heap.ExtBut j s.heap h'->(∃o,h'.get? e=some o/\o.cls=.type "StopIteration")->E (.ref e) {s with heap:=h'}):wpAny (model prog w) A (Builtin.SmallTypes.nextOf (.ref j)) Q E s:=by
 cases t
 .exact wpAny_nextOf_list_end hh hj ht hx hE
 .exact oA hh hj ht hx hE
theorem rW{t:Bool}{l:Addr}{Zr:Array Value}{Q:Value->Shared->Prop}(hl:Sq t s.heap l Zr)
  (hQ:Q (.ref s.heap.objs.size) {s with heap:=s.heap.push {cls:=.type (nm t),data:=.fields #[.ref l,.int 0 0]}}):wpAny (model prog w) A (pyIter (.ref l)) Q E s:=by
 cases t
 .exact wpAny_pyIter_list hl hQ
 .exact wpAny_pyIter_tuple hl hQ
end
theorem draws{t:Bool}{prog:Program}{w:World}{A:Around}(hh:A.handled=none)(it a:Addr)(bp:a≠it)(Zr:Array Value):
  Draws prog w A it [it,a] Zr.size (fun i v=>Zr[i]?=some v) (fun i h=>Io t h it a i/\Sq t h a Zr) where
 live:=fun _ _ st=>let⟨o,ho,_⟩:=st.1;⟨o,ho⟩
 frame:=fun _ _ _ st hk=>⟨st.1.at fun o e=>hk it Zy o e,st.2.at fun o e=>hk a Zy o e⟩
 item:=fun i s Q E hi st hQ=>nx st.1 st.2 (x:=Zr[i]) (by simp[hi]) fun h' h1 h2=>hQ _ h' s.toks (by simp[hi]) ⟨h1,st.2.extBut h2.extBut bp⟩ h2
 done:=fun s Q E st hE=>vQ hh st.1 st.2 Zy hE
abbrev eA(t0:Bool)(h:Heap)(t:Addr):Heap:=h.push {cls:=.type (nm t0),data:=.fields #[.ref t,.int 0 0]}
theorem oH{t0:Bool}(t:Addr)(Zr:Array Value):
  Meets (Builtin.«enumerate.__new__» ⟨[.type "enumerate",.ref t],[]⟩) (fun _ R s=>Sq t0 s.heap t Zr /\
   R (.ok (.ret (.ref (eA t0 s.heap t).objs.size))) {s with heap:=(eA t0 s.heap t).push {cls:=.type "enumerate",data:=.fields #[.none,.bool false,.ref s.heap.objs.size,rawInt 0,.none,.none]}}):=
 .of_wp fun prog w A R s h=>by
  obtain⟨hp,g,d,tk,os⟩:=s;obtain⟨ht,h⟩:=h;have xw:=sub_enumerate;have hT:Sq t0 (Shared.heap ⟨hp,g,d,tk,os⟩) t Zr:=ht
  wp_walk
  refine wpAny_stack_any fun st=>zAw ?_;split
  .rename_i c _ _ _ _ _
   cases(c==Value.type "enumerate")
   .wp_walk using rW hT
    exact⟨_,rfl,h⟩
   .wp_walk using rW hT
    exact⟨_,rfl,h⟩
  .wp_walk using rW hT
   exact⟨_,rfl,h⟩
theorem pN{t0:Bool}{prog:Program}{w:World}{A:Around}{E:Value->Shared->Prop}{s:Shared}{t:Addr}{Zr:Array Value}{Q:Value->Shared->Prop}(ht:Sq t0 s.heap t Zr)
  (h:∀h',IsEnum h' (s.heap.objs.size+1) s.heap.objs.size 0 .none->Io t0 h' s.heap.objs.size t 0->(∀c o,s.heap.get? c=some o->h'.get? c=some o)->Q (.ref (s.heap.objs.size+1)) {s with heap:=h'}):
  wpAny (model prog w) A (call (.type "enumerate") [.ref t]) Q E s:=by
 refine callType_new F.called_enumerate Zx (F.typeCall_enumerate_1 _) (F.newCall_enumerate_1 _) (fun obj=>F.args_object_init_2 obj _) F.entry_enumerate_new (oH t Zr) ⟨ht,?_⟩;have e1:(eA t0 s.heap t).objs.size=s.heap.objs.size+1:=Heap.size_push ..;have g2:=zB1 (eA t0 s.heap t) (o:={cls:=.type "enumerate",data:=.fields #[.none,.bool false,.ref s.heap.objs.size,rawInt 0,.none,.none]}) rfl;have g1:=zAv {cls:=.type "enumerate",data:=.fields #[.none,.bool false,.ref s.heap.objs.size,rawInt 0,.none,.none]} (zB1 s.heap (o:={cls:=.type (nm t0),data:=.fields #[.ref t,.int 0 0]}) rfl);show _/\_;rw[e1]at g2⊢;exact⟨⟨_,g2,rfl⟩,h _ g2 ⟨_,g1,rfl,rfl⟩ fun c o x=>zAv _ (zAv _ x)⟩
def Ite(t0:Bool)(K:Frag)(a:Addr):It:=
 ⟨fun i H=>∃xs x,SQ t0 K H a xs/\xs[i]?=some x,
  fun i H v H'=>∃T,H T=none/\v=.ref T/\∀xs,SQ t0 K H a xs->∃x,xs[i]?=some x/\H'=upd H T (.tup [.int i,x]),
  fun i H=>∃xs,SQ t0 K H a xs/\xs.length<=i⟩
def tne(t0:Bool)(e it a:Addr)(i:Nat)(h:Heap):Prop:=(∃old,IsEnum h e it i old)/\Io t0 h it a i
theorem yV{t0:Bool}{P:Program}{w:World}{K:Frag}{es:List Expr}{k:Nat}{pos:Pos}{e it a:Addr}(CU:e≠it)(MY:e≠a)(MZ:a≠it):
  Turn P w K (.Tuple es k pos) (Ite t0 K a) [e,it] e (tne t0 e it a) where
 mem:=by simp
 obj:=fun i h st c hc=>by
  obtain⟨⟨old,s1⟩,⟨o4,s4,c4,d4⟩⟩:=st;simp only[List.mem_cons,List.not_mem_nil,or_false]at hc;rcases hc with z|z<;>subst z
  .exact⟨_,s1,fun v q=>by cases q⟩
  .exact⟨_,s4,fun v q=>by rw[d4]at q;cases q⟩
 keep:=fun i h h' st kp=>by
  obtain⟨⟨old,s1⟩,s4⟩:=st;exact⟨⟨old,kp e Zy _ s1⟩,s4.at fun o z=>kp it Zy o z⟩
 item:=by
  intro X hP hw hK hc i Zt s σ H E I hf st hg;subst hP hw hK;obtain⟨⟨old,s1⟩,s4⟩:=st;obtain⟨xs,x,iE,hx⟩:=hg;obtain⟨Zr,rv,p,_⟩:=qx I iE;obtain⟨ux,tI,rx⟩:=rv.get hx
  have aE:i<Zr.toArray.size:=by
   have:=(zAa.mp tI).1;simpa using this
  have D:=draws (t:=t0) (prog:=X.prog) (w:=X.w) (A:=X.A.in1) (I.ok.hd hc) it a MZ Zr.toArray;refine wpAny_pyNext_enum_itemD D s1 ⟨s4,p⟩ aE CU (by simp[CU,MY]) fun u h1 tk hu g1 g3 g5 g6 kp=>?_
  have eu:u=ux:=by
   have hu:Zr.toArray[i]?=some u:=hu;rw[List.getElem?_toArray,tI]at hu;exact(zAl hu).symm
  subst eu;refine⟨_,rfl,?_⟩;refine wpAny_letOwnedTupleGo_enum g1 fun h2 e1 sb=>?_
  have live:∀c,c∈[e,it]->∃o,s.heap.get? c=some o:=fun c ah=>by
   simp only[List.mem_cons,List.not_mem_nil,or_false]at ah;rcases ah with q|q<;>subst q
   .exact⟨_,s1⟩
   .exact let⟨o,h,_⟩:=s4;⟨o,h⟩
  have ne:∀c,c∈[e,it]->c≠s.heap.objs.size:=fun c ah z=>by
   obtain⟨o,ho⟩:=live c ah;exact absurd (zAz ho) (by rw[z];exact Nat.lt_irrefl _)
  have hT:H s.heap.objs.size=none:=I.hok.fresh (zA3 _)
  have kept:∀c o,c∉[e,it]->s.heap.get? c=some o->h2.get? c=some o:=fun c o ah z=>
   sb.extBut _ _ (fun q=>ah (by simp[q])) (kp c o (fun q=>ah (by simp[q])) (fun q=>ah (by simp[q])) z)
  have trk:∀c o,H c=some o->c∉[e,it]:=fun c o z ah=>by
   have:=(hf c ah).1;rw[z]at this;cases this
  have kK:h2.get? s.heap.objs.size=some {cls:=.type "tuple",data:=.seq #[.int i tk,u]}:=sb.extBut _ _ (Ne.symm (ne e Zy)) g5
  have gN:HOk X.prog X.w (upd H s.heap.objs.size (.tup [.int i,x])) h2:=fun c o z=>by
   by_cases hb:c=s.heap.objs.size
   .subst hb;rw[aa]at z;cases z;exact⟨by show 2<=sizeLine;decide,[.int i tk,u],.cons ⟨tk,rfl⟩ (.cons rx .nil),_,kK,rfl,_,rfl⟩
   .rw[aq hb]at z
    refine(I.hok c o z).stay (fun d v hd q=>kept d v ?_ q) (fun d q=>by rw[aq (aA q hT)];exact q) fun d l q=>by rw[aq (aA q hT)];exact q
    rcases hd with e'|e'
    .rw[e'];exact trk c o z
    .exact trk d _ e'
  have I2:Inv X Zt σ (upd H s.heap.objs.size (.tup [.int i,x])) {s with heap:=h2,toks:=tk+1}:=by
   refine I.step (g':=s.gens) (d':=s.drawn) (t':=tk+1) (ch:=[e,it]) (fun c ah=>?_) (fun c o _ _ hn z _=>kept c o hn z) (fun c o _ _ hn z _=>⟨o.slots,kept c o hn z⟩)
    (fun c o _ z n=>by rw[aq (zB4 (zAz z))];exact n) (fun c o hn z=>⟨o,kept c o hn z⟩) (fun c l z=>by rw[aq (aA z hT)];exact z) (fun c o l z=>by rw[aq (aA z hT)];exact z)
    (fun c l z=>⟨#[],by rw[aq (aA z hT),z];simp⟩) (fun m hm=>?_) gN I.bare
   .obtain⟨f0,f1,f2,f3,f4,f5⟩:=hf c ah;exact⟨f3,f1,f4,f5⟩
   .obtain⟨o,eJ,ep,ho,r⟩:=hm;refine⟨o,eJ,ep,kept _ o (fun ah=>?_) ho,r⟩;exact(hf _ ah).2.1 rfl
  refine⟨.ref s.heap.objs.size,_,I2,rfl,⟨s.heap.objs.size,hT,rfl,fun HI xC=>⟨x,?_,rfl⟩⟩,⟨⟨u,?_⟩,?_⟩,fun c ah=>?_⟩
  .rw[Bc I xC iE];exact hx
  .have:=e1;rw[show(((i+1:Nat):Int))=(i:Int)+1 by lia];exact this
  .exact g3.1.extBut sb.extBut CU.symm
  .rw[aq (ne c ah)];exact(hf c ah).1
 done:=by
  intro X hP hw hK hc i Zt s σ H E I hf st hg;subst hP hw hK;obtain⟨⟨old,s1⟩,s4⟩:=st;obtain⟨xs,iE,hlen⟩:=hg;obtain⟨Zr,rv,p,_⟩:=qx I iE;have hl:=rv.length
  have hT:s.TypeIs (.ref e) "enumerate":=⟨_,s1,rfl⟩
  have fin:∀h',Heap.ExtBut it s.heap h'->Inv X Zt σ H {s with heap:=h'}:=fun h' kp=>by
   obtain⟨f0,f1,f2,f3,f4,f5⟩:=hf it Zy;exact I.turned (t':=s.toks) (fun b o hb z=>kp b o hb z) f0 f1 f3 f4 f5
  unfold pyNext;refine wpAny_bind (wpAny_attempt (wpAny_callSpecial?_slot (name:=Str.ofString "__next__") hT F.slot_enumerate_next (wpAny_call_entry F.slot_enumerate_next hT F.entry_enumerate_next ?_ (F.args_enumerate_next_1 _))));show wpAny _ _ (field (.ref e) 2>>=_) _ _ _;refine wpAny_bind (wpAny_field s1 rfl (x:=.ref it) rfl ?_);refine wpAny_bind (vQ (I.ok.hd hc) s4 p (by simp;lia) fun h' x tw fE=>?_);obtain⟨o,ho,HK⟩:=fE;refine wpAny_bind (wpAny_isInstance (T:="StopIteration") (b:=true) ⟨o,ho,HK⟩ isSubtype_stop (wpAny_pure ⟨rfl,fin h' tw⟩))
 self:=fun _ _ _ _ _ st h=>wpAny_pyIter_enum st.1.choose_spec h
section
variable{X:Cx}
def JS(t0:Bool)(K:Frag)(t:TA):TI:=fun σ H R=>t σ H fun vs H1=>∃a xs,vs=[.ref a]/\SQ t0 K H1 a xs/\R (Ite t0 K a) H1
theorem pi_enum(t0:Bool){es:List Expr}{k:Nat}{tp:Pos}{a:Expr}{ta:TA}{p pos:Pos}(hg:Gl X "enumerate")(hm:X.mg "enumerate"=none)(ha:PA X [a] ta)(hs:starEach [a] X.env=[(false,eval a X.env)]:=by rfl):
  PI X (.Tuple es k tp) (.Call (.Name "enumerate" p) [a] [] pos) (JS t0 X.K ta):=by
 intro Zt s σ H R I h;refine Call_ (j7 I hg hm boot_enumerate (PyProof.Rows.callWith_type1 (thn (ha pos Zt s σ H _ I h) fun us s1 ⟨vs,H1,I1,r1,q1⟩=>?_) hs rfl));obtain⟨x,xs,e,hx,q⟩:=q1;subst e;obtain⟨u,rfl,ru⟩:=vals1 r1;cases ru;obtain⟨Zr,_,p1,_⟩:=qx I1 hx;refine pN p1 fun h' z1 z4 kp=>?_;refine wpAny_pyIter_enum z1 ?_;have lx:x<s1.heap.objs.size:=by obtain⟨_,e,_⟩:=p1;exact zAz e
 refine⟨_,_,_,_,H1,rfl,I1.kept (t':=s1.toks) kp,yV (e:=s1.heap.objs.size+1) (it:=s1.heap.objs.size) (a:=x) (Nat.succ_ne_self _) (Nat.ne_of_gt (Nat.lt_succ_of_lt lx)) (zB4 lx),⟨⟨_,z1⟩,z4⟩,fun c hc=>?_,q⟩
 have hle:s1.heap.objs.size<=c:=by
  simp only[List.mem_cons,List.not_mem_nil,or_false]at hc;rcases hc with q|q<;>subst q
  .exact Nat.le_add_right _ 1
  .exact zA3 _
 exact I1.fpOk hle (I1.hok.fresh hle)
end
theorem for_enum(t0:Bool){K:Frag}{a:Addr}{xs:List V}{g:TG}{tb:TS}{D:Ends}{σ:St}{H:Hp}(Pv:Nat->St->Hp->Prop)(h0:Pv 0 σ H)(hl:∀i σ H,i<=xs.length->Pv i σ H->SQ t0 K H a xs)
  (hs:∀i x σ H T,xs[i]?=some x->Pv i σ H->H T=none->g (.ref T) σ (upd H T (.tup [.int i,x])) fun ar H2=>tb {D with nx:=Pv (i+1),ct:=Pv (i+1),bk:=D.nx} ar H2) (hd:∀σ H,Pv xs.length σ H->D.nx σ H):
  ∃W:Nat->Nat->St->Hp->Prop,(∃m,W 0 m σ H)/\∀i m σ H,W i m σ H->
   ((Ite t0 K a).stop i H/\D.nx σ H)\/((Ite t0 K a).go i H/\∃N:St->Hp->Prop,(∀af H',N af H'->∃m',m'<m/\W (i+1) m' af H')/\∀x H',(Ite t0 K a).yld i H x H'->g x σ H' fun ar H2=>tb {D with nx:=N,ct:=N,bk:=D.nx} ar H2):=by
 refine⟨fun i m σ H=>m=xs.length-i/\i<=xs.length/\Pv i σ H,⟨xs.length,by simp,Nat.zero_le _,h0⟩,?_⟩;rintro i m σ H ⟨rfl,hi,p⟩;have q:=hl i σ H hi p;by_cases aE:i<xs.length
 .refine .inr ⟨⟨xs,xs[i],q,by simp[aE]⟩,Pv (i+1),fun af H' p'=>⟨xs.length-(i+1),Zz,rfl,aE,p'⟩,fun x H' y=>?_⟩;obtain⟨T,nT,rfl,y⟩:=y;obtain⟨x,ex,rfl⟩:=y xs q;exact hs i x σ H T ex p nT
 .have e:i=xs.length:=Zz
  subst e;exact .inl ⟨⟨xs,q,zA3 _⟩,hd σ H p⟩
end L2.ZT
namespace L2
open PySem PySem.Spec PyProof.Rows
section
variable{X:Cx}
theorem pO(hc:X.calm=true):dw X (.builtin "min") (fun xs H Q=>∃(p:Addr) (ns:List Int),xs=[.ref p]/\SqL X.K H p (ns.map V.int)/\ns≠[]/\∀M,M∈ns->(∀a∈ns,M<=a)->Q (.int M) H):=by
 intro Zt s σ H xs us Q I r h;obtain⟨p,ns,rfl,hq,bp,q⟩:=h;obtain⟨u,rfl,ru⟩:=vals1 r;cases ru;obtain⟨Zr,rv,pl,hz⟩:=I.list hq;have hi:IntsAre Zr ns:=intsAre_of rv;obtain⟨zs,ez⟩:=(hi.allInts:AllInts Zr.toArray).items;have en:numsOf Zr=ns:=hi.numsOf;have hl:s.heap.IsList p (intItems zs):=ez▸pl.isList
 have js:0<zs.size:=by
  have e1:(intItems zs).size=Zr.length:=by rw[<-ez,zA8]
  have e2:=rv.length;rw[zA1]at e2;have e3:0<ns.length:=List.length_pos_iff.mpr bp;simp only[intItems,Array.size_map]at e1;lia
 have hn:numsOf (intItems zs).toList=ns:=by rw[<-ez];exact en
 refine min_intList (I.ok.hd hc) hl js fun v h' tk hv hk=>?_;obtain⟨t,rfl⟩:=intItems_at hv;obtain⟨h1,h2⟩:=argBest_lt (numAt zs) (zs.size-1);rw[nums_intItems]at hn;refine⟨.int _,H,I.kept (t':=tk) hk,⟨t,rfl⟩,q _ ?_ fun a ha=>?_⟩
 .rw[<-hn,numAt_eq];exact getD_mem (by rw[zA1,zA9];lia)
 .rw[<-hn]at ha;obtain⟨j,hj,rfl⟩:=mem_getD ha;rw[zA1,zA9]at hj;rw[<-numAt_eq];exact h2 j Zz
inductive RCatT0I(K:Frag)(x:V)(y:V)(H:Hp)(Q:VK):Prop
 |mk:∀a b ys,(x=.ref a)->(y=.ref b)->(SqT K H a [])->(SqT K H b ys)->(Q (.ref b) H)->RCatT0I K x y H Q
def Ik(K:Frag):R2:=fun x y H Q=>RCatT0I K x y H Q
open Builtin in
theorem Bd(l b:Addr)(Zr:Array Value)(n m:Nat)(dd tq:Option Addr)(sl fN:Array (Option Value)):
  Meets (Builtin.«tuple.__add__» ⟨[.ref l,.ref b],[]⟩) (fun _ R s=>s.heap.get? l=some {cls:=.type "tuple",dict:=dd,data:=.seq #[] n,slots:=sl}/\s.heap.get? b=some {cls:=.type "tuple",dict:=tq,data:=.seq Zr m,slots:=fN}/\R (.ok (.ret (.ref b))) s):=by
 refine .of_wp fun prog w A R s h=>?_;obtain⟨hp,g,d,tk,os⟩:=s;obtain⟨hl,hb,h⟩:=h;have f2:=PySem.AutoSeq1.sub_tuple_tuple
 wp_walk
 exact⟨_,rfl,h⟩
theorem Be:OpR X (binaryOp .Add) (Ik X.K):=by
 intro Zt s σ H x y v u Q I rx ry h;obtain⟨a,b,ys,rfl,rfl,ha,hb,q⟩:=h;cases rx;cases ry;obtain⟨Zr,r1,p1,_⟩:=I.tuple ha;obtain⟨cw,r2,p2,_⟩:=I.tuple hb;have e:Zr=[]:=r1.zero;subst e;obtain⟨⟨cls,dd,data,sl⟩,ho,hc,n,hd⟩:=id p1;obtain⟨⟨Cn,tq,data2,fN⟩,qk,kx,n2,hd2⟩:=id p2;simp only at hc hd kx hd2;subst hc hd kx hd2;exact concat_meets ⟨_,ho,rfl⟩ ⟨_,qk,rfl⟩ noFill_tuple_add seq_tuple_add PySem.F.slot_tuple_add PySem.F.entry_tuple_add (PySem.F.args_tuple_add_2 _ _) (Bd a b cw.toArray n n2 dd tq sl fN) ⟨ho,qk,.ref b,H,I,rfl,q⟩
theorem Bf:OpR X (binaryOp .Add) (fun x y H Q=>∃a b xs ys,x=.ref a/\y=.ref b/\SqT X.K H a xs/\SqT X.K H b ys/\ys≠[]/\xs.length+ys.length<=sizeLine/\(xs=[]->Q (.ref b) H)/\(xs≠[]->∀p,H p=none->Q (.ref p) (upd H p (.tup (xs++ys))))):=by
 intro Zt s σ H x y v u Q I rx ry h;obtain⟨a,b,xs,ys,rfl,rfl,ha,hb,hy,hz,q1,q2⟩:=h;by_cases hx:xs=[]
 .subst hx;exact Be Zt s σ H _ _ v u Q I rx ry ⟨a,b,ys,rfl,rfl,ha,hb,q1 rfl⟩
 .exact Ek Zt s σ H _ _ v u Q I rx ry ⟨a,b,xs,ys,rfl,rfl,ha,hb,hx,hz,fun z=>absurd z hy,fun _=>q2 hx⟩
end
section
variable{prog:Program}{w:World}{A:Around}{E:Value->Shared->Prop}{s:Shared}
open HT in
theorem kY{t sl:Addr}{items:Array Value}{vl vu:Value}{lo hi:Option Int}{Q:Value->Shared->Prop}(ht:IsTup s.heap t items)(hs:s.heap.IsSliceOf sl vl vu .none)(pl:IsPart vl lo)(pu:IsPart vu hi)
  (h1:sIx items.size 0 lo=0) (h2:sIx items.size items.size hi=items.size) (h:Q (.ref t) s):wpAny (model prog w) A (getItem (.ref t) (.ref sl)) Q E s:=by
 obtain⟨os,qo,A6,wm⟩:=id hs
 have Co:s.TypeIs (.ref sl) "slice":=⟨os,qo,A6⟩
 unfold getItem
 try with_reducible refine wpAny_holding ?_
 first|refine zAt (zAw ?_)|skip
 refine zAt (wpAny_sequenceKey ht.typeIs Zx ?_)
 refine zAt (wpAny_callSpecial?_slot (name:=Str.ofString "__getitem__") ht.typeIs PyProof.Rows.slot_tuple_getitem
  (wpAny_call_entry PyProof.Rows.slot_tuple_getitem ht.typeIs entry_tuple_getitem ?_ (args_tuple_getitem _ _)))
 show wpAny _ _ (Builtin.Tuple.tupleItemsOf (.ref t)>>=_) _ _ s;refine wpAny_bind (tupleItemsOf_ ht ?_);refine wpAny_bind (wpAny_typeOf Co ?_);rw[if_pos Zx];refine wpAny_bind (ir hs pl pu ?_);rw[h1,h2];show wpAny _ _ (if((((0:Nat):Int))==0&&(1:Int)==1&&(items.size-0)==items.size)=true then _ else _) _ _ s;rw[if_pos Zy];unfold Builtin.Tuple.tupleIsExact;refine wpAny_bind (wpAny_bind (wpAny_typeOf ht.typeIs (wpAny_pure ?_)));rw[if_pos Zx];exact wpAny_bind (wpAny_rule (wpAny_pure ⟨_,rfl,wpAny_pure h⟩))
end
section
variable{X:Cx}
inductive RSlWI(K:Frag)(x:V)(lo:Option Int)(hi:Option Int)(H:Hp)(Q:VK):Prop
 |mk:∀a xs,(x=.ref a)->(SqT K H a xs)->(((HT.sIx xs.length 0 lo=0/\HT.sIx xs.length xs.length hi=xs.length)->Q (.ref a) H))->((¬(HT.sIx xs.length 0 lo=0/\HT.sIx xs.length xs.length hi=xs.length)->∀p,H p=none->Q (.ref p) (upd H p (.tup (lV xs lo hi)))))->RSlWI K x lo hi H Q
def KD(K:Frag):V->Option Int->Option Int->Hp->VK->Prop:=fun x lo hi H Q=>RSlWI K x lo hi H Q
theorem xg:SlR X (KD X.K):=by
 intro Zt s σ H x v vl vu lo hi sl Q I rx hs pl pu h;obtain⟨a,xs,rfl,hx,q1,q2⟩:=h;by_cases hw:HT.sIx xs.length 0 lo=0/\HT.sIx xs.length xs.length hi=xs.length
 .cases rx;obtain⟨Zr,r,ht,hz⟩:=I.tuple hx;have hlen:Zr.toArray.size=xs.length:=by rw[zA8];exact r.length.symm
  refine⟨"tuple",_,PyProof.Rows.slot_tuple_getitem.lookup,ht.typeIs,?_⟩;exact kY ht hs pl pu (by rw[hlen];exact hw.1) (by rw[hlen];exact hw.2) ⟨.ref a,H,I,rfl,q1 hw⟩
 .exact HS Zt s σ H _ v vl vu lo hi sl Q I rx hs pl pu ⟨a,xs,rfl,hx,hw,q2 hw⟩
end
section
variable{prog:Program}{w:World}{A:Around}{E:Value->Shared->Prop}{s:Shared}
end
section
variable{X:Cx}{e:Expr}{te:TE}{pos p2 p3 p4:Pos}{j:Nat}
end
section
variable{prog:Program}{w:World}{A:Around}{E:Value->Shared->Prop}{s:Shared}{d it:Addr}{o:Obj}{es:Array DictEntry}{ep i:Nat}
theorem Fd{R:Value->Shared->Prop}(n1:(d==sysModules)=false)(g1:s.heap.get? d=some o)(g2:o.ExactDict)(g3:o.data=.dict es ep)
  (q:R (.ref s.heap.objs.size) {s with heap:=s.heap.push {cls:=.type "dict_keyiterator",data:=.fields #[.ref d,.int 0 0,.int es.size 0,.int ep 0]}}):wpAny (model prog w) A (pyIter (.ref d)) R E s:=by
 have ty:s.TypeIs (.ref d) "dict":=⟨o,g1,g2.1⟩
 refine wpAny_pyIter_slot ty F.slot_dict_iter (wpAny_call_entry F.slot_dict_iter ty F.entry_dict_iter ?_ (F.args_dict_iter_1 _));unfold Builtin.«dict.__iter__»;refine zAt ?_;unfold Builtin.Dict.dictSlotNone;refine zAt (wpAny_notOrdered_dict ty (show wpAny _ _ (pure (Value.ref d)) _ _ s from zAw ?_));show wpAny (model prog w) _ (Builtin.Dict.showsAll d>>=_) _ E s;unfold Builtin.Dict.showsAll;rw[n1,zB0 zAg];refine zAt (zAw (zAt (wpAny_dictEntries g1 g3 (zAt (wpAny_dictEpoch g1 g3 ?_)))));refine zAt (wpAny_newObj_type (zAw ⟨_,rfl,"dict_keyiterator",_,⟨_,zB1 _ rfl,rfl⟩,F.slot_dict_keyiterator_next.lookup,?_⟩));exact q
theorem Fe{e:DictEntry}{R:Option Value->Shared->Prop}(st:s.heap.IsKeyIter it d i es.size ep)(g1:s.heap.get? d=some o)(g3:o.data=.dict es ep)(hx:es[i]?=some e)
  (q:∀h',h'.IsKeyIter it d (i+1) es.size ep->Heap.SameBut it s.heap h'->R (some e.key) {s with heap:=h'}):wpAny (model prog w) A (pyNext (.ref it)) R E s:=by
 obtain⟨oi,i1,i2,i3⟩:=id st;have hb:i<es.size:=(Array.getElem?_eq_some_iff.mp hx).1;unfold pyNext;refine zAt (wpAny_attempt (wpAny_callSpecial?_slot (name:=Str.ofString "__next__") st.typeIs F.slot_dict_keyiterator_next (wpAny_call_entry F.slot_dict_keyiterator_next st.typeIs F.entry_dict_keyiterator_next ?_ (F.args_dict_keyiterator_next_1 _))));refine zAt (zAw (zAt (zAt ?_)));refine zAt (wpAny_typeNameOfWhole_keyiter st.typeIs (zAw (zAt (wpAny_fieldsOf i1 i3 ?_))));have ow:Builtin.Dict_items.ownsTuple "dict_keyiterator"=false:=by decide
 simp only[ow,Bool.false_eq_true,if_false];show wpAny (model prog w) _ (if(Value.ref d==Value.none)=true then _ else _) _ _ s;rw[if_neg (show¬(Value.ref d==Value.none)=true from zAg)];refine wpAny_bind (wpAny_pure (wpAny_bind (wpAny_dictEntries g1 g3 ?_)));rw[if_neg Zy];refine wpAny_bind (wpAny_pure (wpAny_bind (wpAny_dictEpoch g1 g3 ?_)));rw[if_neg Zy];refine wpAny_pure ?_;simp only[show¬((i:Int)<0)from by lia,if_false,Int.toNat_natCast,hx];refine wpAny_bind (wpAny_bind (wpAny_typeNameOfWhole_keyiter st.typeIs (wpAny_pure ?_)));refine wpAny_bind (wpAny_isOneOf_keyiter st.typeIs ?_);show wpAny (model prog w) _ (setField (.ref it) 1 (rawInt ((i:Int)+1))>>=_) _ _ s;refine wpAny_bind (wpAny_setField i1 i3 Zy ?_)
 have fF:(s.heap.update it (Obj.mapFields (·.setIfInBounds 1 (rawInt ((i:Int)+1))))).IsKeyIter it d (i+1) es.size ep:=
  ⟨_,Heap.get?_update_self _ i1 (Obj.isFreed_of_fields (Obj.data_mapFields i3 _)),(Obj.cls_mapFields ..).trans i2,by rw[Obj.data_mapFields i3];simp[rawInt]⟩
 refine zAt (wpAny_holding (zAt (wpAny_isOneOf_keyiter (s:={s with heap:=s.heap.update it (Obj.mapFields (·.setIfInBounds 1 (rawInt ((i:Int)+1))))}) fF.typeIs ?_)));show wpAny (model prog w) _ (pure e.key) _ _ _;exact zAw (zAw ⟨_,rfl,zAw (q _ fF (Heap.SameBut.update ..))⟩)
theorem Il{R:Option Value->Shared->Prop}(hh:A.handled=none)(st:s.heap.IsKeyIter it d i es.size ep)(g1:s.heap.get? d=some o)(g3:o.data=.dict es ep)(hx:es.size<=i)
  (q:∀h',Heap.ExtBut it s.heap h'->R none {s with heap:=h'}):wpAny (model prog w) A (pyNext (.ref it)) R E s:=by
 obtain⟨oi,i1,i2,i3⟩:=id st;unfold pyNext;refine zAt (wpAny_attempt (wpAny_callSpecial?_slot (name:=Str.ofString "__next__") st.typeIs F.slot_dict_keyiterator_next (wpAny_call_entry F.slot_dict_keyiterator_next st.typeIs F.entry_dict_keyiterator_next ?_ (F.args_dict_keyiterator_next_1 _))));refine zAt (zAw (zAt (zAt ?_)));refine zAt (wpAny_typeNameOfWhole_keyiter st.typeIs (zAw (zAt (wpAny_fieldsOf i1 i3 ?_))));have ow:Builtin.Dict_items.ownsTuple "dict_keyiterator"=false:=by decide
 simp only[ow,Bool.false_eq_true,if_false];show wpAny (model prog w) _ (if(Value.ref d==Value.none)=true then _ else _) _ _ s;rw[if_neg (show¬(Value.ref d==Value.none)=true from zAg)];refine wpAny_bind (wpAny_pure (wpAny_bind (wpAny_dictEntries g1 g3 ?_)));rw[if_neg Zy];refine wpAny_bind (wpAny_pure (wpAny_bind (wpAny_dictEpoch g1 g3 ?_)));rw[if_neg Zy];refine wpAny_pure ?_;simp only[show¬((i:Int)<0)from by lia,if_false,Int.toNat_natCast,Array.getElem?_eq_none hx];refine wpAny_bind (wpAny_bind (wpAny_typeNameOfWhole_keyiter st.typeIs (wpAny_pure ?_)));show wpAny (model prog w) _ (setField (.ref it) 0 .none>>=_) _ _ s;refine wpAny_bind (wpAny_setField i1 i3 Zy ?_);show wpAny (model prog w) _ (newExc (.type "StopIteration") []>>=_) _ _ _;refine wpAny_bind ?_;simp only[newExc,newTuple];refine wpAny_bind (wpAny_newObj_type (wpAny_bind (m:=firstArgMember _ _) (wpAny_of_eq (a:=Value.none) (by first|rfl | (simp only[firstArgMember];rfl)) ?_)) (by size_fits));refine wpAny_newObj_type ?_ (by size_fits);simp only[raiseNew];refine wpAny_bind (wpAny_handled ?_);rw[show A.in1.handled=none from hh];refine wpAny_bind (wpAny_pure (wpAny_throw ?_));refine wpAny_bind (wpAny_isInstance (b:=true) (T:="StopIteration") ⟨_,Heap.get?_push_size _ rfl,rfl⟩ isSubtype_stop ?_);exact wpAny_pure (q _ (((Heap.SameBut.update ..).extBut.push _).push _))
end
def Itd(d:Addr)(o:Obj)(Zs:List (List Key×V)):It:=
 ⟨fun i H=>H d=some (.frz o (.dT Zs))/\i<Zs.length,fun i H x H'=>H'=H/\∃b k v,x=.ref b/\Zs[i]?=some (k,v)/\H b=some (.tup (k.map kV)),fun i H=>H d=some (.frz o (.dT Zs))/\Zs.length<=i⟩
theorem KT.get{H:Hp}:∀{Zs:List (List Key×V)} {xs:List (List Key×Addr×Value)} {i:Nat} {k:List Key} {v:V},KT H Zs xs->Zs[i]?=some (k,v)->∃b u,xs[i]?=some (k,b,u)/\H b=some (.tup (k.map kV))
 |_,_,_,_,_,.nil,e=>by simp at e
 |p::_,q::_,0,k,v,.cons r t,e=>by
  rw[List.getElem?_cons_zero]at e;cases e;obtain⟨h1,h2,_⟩:=r;refine⟨q.2.1,q.2.2,?_,h2⟩;rw[List.getElem?_cons_zero];show some q=some (k,q.2.1,q.2.2);rw[show k=q.1 from h1]
 |p::_,q::_,i+1,k,v,.cons r t,e=>by
  rw[List.getElem?_cons_succ]at e;obtain⟨b,u,e1,e2⟩:=KT.get t e;exact⟨b,u,by rw[List.getElem?_cons_succ];exact e1,e2⟩
theorem KT.len{H:Hp}:∀{Zs:List (List Key×V)} {xs:List (List Key×Addr×Value)},KT H Zs xs->xs.length=Zs.length
 |_,_,.nil=>rfl
 |_,_,.cons _ t=>by rw[zAe,zAe,KT.len t]
theorem Inv.frzT{X:Cx}{Zt:List (Addr×Obj)}{σ:St}{H:Hp}{s:Shared}{d:Addr}{o:Obj}{Zs:List (List Key×V)}(I:Inv X Zt σ H s)(e:H d=some (.frz o (.dT Zs))):s.heap.get? d=some o/\o.ExactDict/\(d==sysModules)=false /\
  ∃es ep xs,o.data=.dict es ep/\KT H Zs xs/\es.toList=xs.map (entryOfKey (tupleKind (cD X.prog X.w))):=by
 obtain⟨e0,_,hs,xs,kt,o',es,ep,g1,g2,g3,g4,_⟩:=(show ObjOk X.prog X.w H s.heap d (.frz o (.dT Zs))from I.hok _ _ e)
 rw[e0]at g1;cases g1;exact⟨e0,g2,hs,es,ep,xs,g3,kt,g4⟩
theorem yW{P:Program}{w:World}{H:Hp}{Zs:List (List Key×V)}{xs:List (List Key×Addr×Value)}{es:Array DictEntry}(kt:KT H Zs xs)(e:es.toList=xs.map (entryOfKey (tupleKind (cD P w)))):es.size=Zs.length:=by
 rw[<-zA9,e,zA1,kt.len]
theorem yX{P:Program}{w:World}{K:Frag}{tg:Expr}(d it:Addr)(o:Obj)(Zs:List (List Key×V))(es:Array DictEntry)(ep:Nat)(od:o.data=.dict es ep)(hz:es.size=Zs.length):Turn P w K tg (Itd d o Zs) [it] it (fun i h=>h.IsKeyIter it d i es.size ep) where
 mem:=by simp
 obj:=fun i h st b hb=>by
  have e:b=it:=by simpa using hb
  subst e;obtain⟨o,e,c,d⟩:=st;exact⟨o,e,fun v z=>by rw[d]at z;cases z⟩
 keep:=fun i h h' st k=>st.at fun o e=>k it Zy o e
 item:=by
  intro X hP hw hK hc i Zt s σ H E I hf st hg;subst hP hw hK;obtain⟨hq,hx⟩:=hg;obtain⟨e0,g2,hs,eJ,vS,xs,g3,kt,g4⟩:=I.frzT hq;rw[od]at g3;cases g3;obtain⟨b,u,ex,eb⟩:=kt.get (k:=Zs[i].1) (v:=Zs[i].2) (zA0 hx);have ee:es[i]?=some (entryOfKey (tupleKind (cD X.prog X.w)) (Zs[i].1,b,u)):=by rw[entry_at g4,ex];rfl
  obtain⟨f0,f1,f2,f3,f4,f5⟩:=hf it Zy;refine Fe st e0 od ee fun h' fF sb=>?_;have I1:Inv X Zt σ H {s with heap:=h'}:=I.turned (t':=s.toks) (fun b o hb e=>(sb.2 b hb).trans e) f0 f1 f3 f4 f5;obtain⟨o2,e2,c2,d2⟩:=id fF;exact⟨.ref b,rfl,tX (s:={s with heap:=h'}) e2 c2 d2 Zx ⟨.ref b,H,I1,rfl,⟨rfl,b,Zs[i].1,Zs[i].2,rfl,zA0 hx,eb⟩,fF,fun b hb=>(hf b hb).1⟩⟩
 done:=by
  intro X hP hw hK hc i Zt s σ H E I hf st hg;subst hP hw hK;obtain⟨hq,hx⟩:=hg;obtain⟨e0,g2,hs,eJ,vS,xs,g3,kt,g4⟩:=I.frzT hq;rw[od]at g3;cases g3;obtain⟨f0,f1,f2,f3,f4,f5⟩:=hf it Zy
  exact Il (I.ok.hd hc) st e0 od Zz fun h' eb=>⟨rfl,I.turned (t':=s.toks) (fun b o hb e=>eb b o hb e) f0 f1 f3 f4 f5⟩
 self:=fun _ _ _ _ _ st h=>wpAny_pyIter_keyiter st h
section
variable{X:Cx}{tg:Expr}
def JT(tl:TE):TI:=fun σ H R=>tl σ H fun x H1=>∃d o Zs,x=.ref d/\H1 d=some (.frz o (.dT Zs))/\R (Itd d o Zs) H1
theorem Ff{l:Expr}{tl:TE}(hl:PE X l tl):PI X tg l (JT tl):=by
 intro Zt s σ H R I h;refine thn (hl Zt s σ H _ I h) fun v s1 ⟨x,H1,I1,r1,q1⟩=>?_;obtain⟨d,o,Zs,e,hq,q⟩:=q1;subst e;cases r1;obtain⟨e0,g2,hs,es,ep,xs,g3,kt,g4⟩:=I1.frzT hq;refine Fd hs e0 g2 g3 ?_;refine⟨s1.heap.objs.size,[s1.heap.objs.size],_,_,H1,rfl,I1.kept (t':=s1.toks) fun b o e=>Heap.get?_push_of_some _ e,yX d _ o Zs es ep g3 (yW kt g4),⟨_,Heap.get?_push_size _ rfl,rfl,rfl⟩,fun b hb=>?_,q⟩;have e:b=s1.heap.objs.size:=by simpa using hb
 subst e;exact I1.fpOk (zA3 _) (I1.hok.fresh (zA3 _))
end
open PySem PyProof.Rows HT
section
variable{X:Cx}{tg:Expr}
inductive TFrzSI(t:TS)(D:Ends)(σ:St)(H:Hp):Prop
 |mk:∀d Zs,(H d=some (.dT Zs))->(∀o,t {D with nx:=fun af H'=>H' d=some (.frz o (.dT Zs))/\D.nx af (upd H' d (.dT Zs)),bk:=fun _ _=>False,ct:=fun _ _=>False,rt:=fun _ _=>False} σ (upd H d (.frz o (.dT Zs))))->TFrzSI t D σ H
def JV(t:TS):TS:=fun D σ H=>TFrzSI t D σ H
theorem Im{e:Stmt}{t:TS}(h:PS X e t):PS X e (JV t):=by
 intro Zt s σ H D I hq;obtain⟨d,Zs,ed,hq⟩:=hq
 obtain⟨hz,hs,xs,kt,o,es,ep,g1,g⟩:=(show ObjOk X.prog X.w H s.heap d (.dT Zs)from I.hok _ _ ed)
 have nt:∀{b:Addr} {u:HO},H b=some u->u≠.dT Zs->b≠d:=fun{b u} e n z=>by
  rw[z,ed]at e;exact n (zAl e).symm
 have I1:Inv X Zt σ (upd H d (.frz o (.dT Zs))) {s with heap:=s.heap,toks:=s.toks}:=by
  refine I.un ⟨fun b ob q _ _ _=>q,fun b ob q _ _ _=>⟨ob.slots,q⟩,fun b ob q n _=>?_,fun b ob q _=>⟨ob,q⟩,fun b xs q=>?_,fun b ob u q=>?_,fun b ps q=>⟨#[],?_⟩⟩ fun b u e=>?_
  .rw[aq fun z=>by rw[z,ed]at n;cases n];exact n
  .rw[aq (nt q fun z=>by cases z)];exact q
  .rw[aq (nt q fun z=>by cases z)];exact q
  .rw[aq (nt q fun z=>by cases z),q];simp
  .have gc:∀c xs,H c=some (.tup xs)->upd H d (.frz o (.dT Zs)) c=some (.tup xs):=fun c xs q=>by
    rw[aq (nt q fun z=>by cases z)];exact q
   by_cases hb:b=d
   .subst hb;rw[aa]at e;cases e;exact⟨g1,(show ObjOk X.prog X.w H s.heap b (.dT Zs)from I.hok _ _ ed).stay (fun _ _ _ q=>q) (fun c q=>by rw[aq (nt q fun z=>by cases z)];exact q) gc⟩
   .rw[aq hb]at e;exact(I.hok b u e).stay (fun _ _ _ q=>q) (fun c q=>by rw[aq (nt q fun z=>by cases z)];exact q) gc
 refine thn (h Zt s σ _ _ I1 (hq o)) fun fl s1 iF=>?_
 cases fl with
 |brk=>obtain⟨_,_,_,z⟩:=iF;exact z.elim
 |cont=>obtain⟨_,_,_,z⟩:=iF;exact z.elim
 |ret u=>obtain⟨_,_,_,_,_,z⟩:=iF;exact z.elim
 |next=>
 obtain⟨pS,H1,J,e1,q1⟩:=iF
 have A9:∀{b:Addr} {u:HO},H1 b=some u->u≠.frz o (.dT Zs)->b≠d:=fun{b u} e n z=>by
  rw[z,e1]at e;exact n (zAl e).symm
 have fr:∀b,H1 b=none->upd H1 d (.dT Zs) b=none:=fun b n=>by
  rw[aq fun z=>by rw[z,e1]at n;cases n];exact n
 refine⟨pS,upd H1 d (.dT Zs),⟨J.ok,J.os,J.bare,⟨J.base.keep,J.base.slot,fun b ob q n hx=>fr b (J.base.free b ob q n hx),J.base.there,fun b xs q=>?_,fun b ob u q=>?_,fun b ps q=>?_⟩,J.loc,J.cell,fr _ J.free,fun y c e=>fr _ (J.freeC y c e),fun p hp=>?_,fun b u e=>?_,J.len⟩,q1⟩
 .have:=J.base.tups b xs q;rw[aq (A9 this fun z=>by cases z)];exact this
 .have h0:=I.base.frzs b ob u q;have:=J.base.frzs b ob u q;rw[aq (nt h0 fun z=>by cases z)];exact this
 .obtain⟨m,e⟩:=J.base.tbls b ps q;exact⟨m,by rw[aq (A9 e fun z=>by cases z)];exact e⟩
 .obtain⟨a,n,c⟩:=J.pin p hp;exact⟨a,fr _ n,c⟩
 .have gc:∀c xs,H1 c=some (.tup xs)->upd H1 d (.dT Zs) c=some (.tup xs):=fun c xs q=>by
   rw[aq (A9 q fun z=>by cases z)];exact q
  have nS:∀a c,H1 c=some (.own a)->upd H1 d (.dT Zs) c=some (.own a):=fun a c q=>by
   rw[aq (A9 q fun z=>by cases z)];exact q
  by_cases hb:b=d
  .subst hb;rw[aa]at e;cases e;exact ObjOk.stay (show ObjOk X.prog X.w H1 s1.heap b (.dT Zs)from(show ObjOk X.prog X.w H1 s1.heap b (.frz o (.dT Zs))from J.hok _ _ e1).2) (fun _ _ _ q=>q) (nS b) gc
  .rw[aq hb]at e;exact(J.hok b u e).stay (fun _ _ _ q=>q) (nS b) gc
end
open PySem PySem.Spec PyProof.Rows PySem.Calls
section
variable{X:Cx}
def Itq(x:Str):It:=⟨fun i _=>i<x.cps.size,fun i H v H'=>H'=H/\∃c,x.cps[i]?=some c/\v=.str ⟨#[c]⟩,fun i _=>x.cps.size<=i⟩
theorem Bg{P:Program}{w:World}{K:Frag}{tg:Expr}(x:Str)(t:Tok)(it:Addr):Turn P w K tg (Itq x) [it] it (fun i h=>h.IsStrIter it "str_ascii_iterator" x t i) where
 mem:=by simp
 obj:=fun i h st b hb=>by
  have e:b=it:=by simpa using hb
  subst e;obtain⟨o,e,c,d⟩:=st;exact⟨o,e,fun v z=>by rw[d]at z;cases z⟩
 keep:=fun i h h' st k=>let⟨o,e,r⟩:=st;⟨o,k it Zy o e,r⟩
 item:=by
  intro X hP hw hK hc i Zt s σ H E I hf st hg;subst hP hw hK;have hg:i<x.cps.size:=hg;obtain⟨f0,f1,f2,f3,f4,f5⟩:=hf it Zy;have hx:x.cps[i]?=some x.cps[i]:=Array.getElem?_eq_getElem hg;refine wpAny_pyNext_ascii_item st hx fun h' fF sb=>?_;have I1:Inv X Zt σ H {s with heap:=h',toks:=s.toks+1}:=I.turned (t':=s.toks+1) (fun b o hb e=>(sb.2 b hb).trans e) f0 f1 f3 f4 f5;obtain⟨o,e,c,d⟩:=id fF;exact⟨_,rfl,tX (s:={s with heap:=h',toks:=s.toks+1}) e c d Zx ⟨.str ⟨#[x.cps[i]]⟩,H,I1,⟨_,rfl⟩,⟨rfl,_,hx,rfl⟩,fF,fun b hb=>(hf b hb).1⟩⟩
 done:=by
  intro X hP hw hK hc i Zt s σ H E I hf st hg;subst hP hw hK;have hg:x.cps.size<=i:=hg;obtain⟨f0,f1,f2,f3,f4,f5⟩:=hf it Zy
  exact wpAny_pyNext_ascii_end (I.ok.hd hc) st (Array.getElem?_eq_none hg) fun h' eb=>⟨rfl,I.turned (t':=s.toks) (fun b o hb e=>eb b o hb e) f0 f1 f3 f4 f5⟩
 self:=fun _ _ _ _ _ st h=>wpAny_pyIter_striter_ascii st h
def KH(tl:TE):TI:=fun σ H R=>tl σ H fun v H1=>∃x,v=.str x/\x.cps.all (· < 128)=true/\R (Itq x) H1
theorem Bh{tg l:Expr}{tl:TE}(hl:PE X l tl):PI X tg l (KH tl):=by
 intro Zt s σ H R I h;refine thn (hl Zt s σ H _ I h) fun v s1 ⟨x,H1,I1,r1,q1⟩=>?_;obtain⟨x,e,ha,q⟩:=q1;subst e;obtain⟨t,rfl⟩:=r1;refine wpAny_pyIter_ascii ha ?_;refine⟨s1.heap.objs.size,[s1.heap.objs.size],_,_,H1,rfl,I1.kept (t':=s1.toks) fun b o e=>Heap.get?_push_of_some _ e,Bg x t _,⟨_,Heap.get?_push_size _ rfl,rfl,rfl⟩,fun b hb=>?_,q⟩;have e:b=s1.heap.objs.size:=by simpa using hb
 subst e;exact I1.fpOk (zA3 _) (I1.hok.fresh (zA3 _))
end
structure Fly(h:Heap)(e:Addr)(C tb:Value):Prop where
 obj:∃oe vs,h.get? e=some oe/\oe.cls=C/\oe.data=.fields vs/\vs[1]?=some tb/\oe.dict=none
 tr:tb=.none\/∃T oT ts,tb=.ref T/\T≠e/\h.get? T=some oT/\oT.data=.fields ts/\ts[3]?=some .none
theorem qy(f:Array Value->Array Value)(o:Obj):(Obj.mapFields f o).dict=o.dict:=by
 unfold Obj.mapFields;split<;>rfl
section
variable{M:Model}{A:Around}{E:Value->Shared->Prop}{s:Shared}
theorem oJ{base:Heap}{env:Env}{outer:List Env}{L e:Addr}{oe:Obj}{vs:Array Value}{head:Value}{fk:Bool}{Q:Unit->Shared->Prop}
  (eB:A.frames=some (env::outer)) (hl:s.heap.FunFrames base (env::outer)) (hf:env.frame=some L) (he:s.heap.get? e=some oe) (hd:oe.data=.fields vs) (hz:1<vs.size) (fx:oe.dict=none)
  (h:∀h' T,s.heap.get? T=none->Fly h' e oe.cls (.ref T)->(∀b o,s.heap.get? b=some o->b≠e->b∉frs (env::outer)->h'.get? b=some o)->(∀b o,s.heap.get? b=some o->b≠e->∃sl,h'.get? b=some {o with slots:=sl})->Q () {s with heap:=h'}):
  wpAny M A (do let a <-frameOf env;let pl <-entryPlaceOf L fk;let b <-EntryCells.newEntry head a .none (rawInt L) .none pl;setField (.ref e) 1 b) (fun _ s'=>wpAny M A (setFlight (.ref e) none) Q E s') E s:=by
 have ne:e∉frs (env::outer):=fun hm=>by
  obtain⟨_,o,ho,hn⟩:=hl.mem hm;rw[he]at ho;cases ho;exact hn vs hd
 refine zAt (wpAny_frameOf_fun eB hl hf fun h1 iF=>?_);have e1:h1.get? e=some oe:=(iF.2.1 e ne).trans he;refine zAt (wpAny_entryPlaceOf fun pl dv=>?_);unfold EntryCells.newEntry newFields;refine zAt (wpAny_newObj_type ?_ (dv.sizeOk5 _ _ _ _ _))
 obtain⟨fs,xD⟩:∃fs,fs=([head,.ref L,.none,rawInt L,.none]++(if pl.isEmpty then List.replicate 6 Value.none else pl)).toArray:=⟨_,rfl⟩
 have fz:3<fs.size:=by
  rw[xD,zA8,zA2];show 3<5+_;lia
 rw[<-xD]
 obtain⟨h2,mw⟩:∃h2,h2=h1.push {cls:=.type "traceback",dict:=none,data:=.fields fs}:=⟨_,rfl⟩
 have nT:h1.objs.size≠e:=Nat.ne_of_gt (zAz e1);have t2:h2.get? h1.objs.size=some {cls:=.type "traceback",dict:=none,data:=.fields fs}:=by rw[mw];exact zB1 h1 rfl
 have k2:∀b o,h1.get? b=some o->h2.get? b=some o:=fun b o z=>by rw[mw];exact zAv _ z
 refine wpAny_setField (s:={s with heap:=h1.push {cls:=.type "traceback",dict:=none,data:=.fields fs}}) (by rw[<-mw];exact k2 _ _ e1) hd hz ?_;rw[<-mw]
 obtain⟨h3,xE⟩:∃h3,h3=h2.update e (Obj.mapFields (·.setIfInBounds 1 (Value.ref h1.objs.size))):=⟨_,rfl⟩
 have d3:=Obj.data_mapFields hd (·.setIfInBounds 1 (Value.ref h1.objs.size));have g3:=Heap.get?_update_self (Obj.mapFields (·.setIfInBounds 1 (Value.ref h1.objs.size))) (k2 _ _ e1) (Obj.isFreed_of_fields d3)
 have o3:∀b,b≠e->h3.get? b=h2.get? b:=fun b hb=>by rw[xE];exact Heap.get?_update_other _ _ (Ne.symm hb)
 show wpAny M A (setFlight (.ref e) none) Q E {s with heap:=h2.update e (Obj.mapFields (·.setIfInBounds 1 (Value.ref h1.objs.size)))};rw[<-xE]at g3⊢;unfold setFlight;have v1:(vs.setIfInBounds 1 (Value.ref h1.objs.size))[1]?=some (.ref h1.objs.size):=by simp[hz]
 refine wpAny_bind (wpAny_field (s:={s with heap:=h3}) g3 d3 v1 ?_);rw[if_pos (show(Value.ref h1.objs.size != Value.none)=true by simp)];have t3:h3.get? h1.objs.size=some {cls:=.type "traceback",dict:=none,data:=.fields fs}:=(o3 _ nT).trans t2;refine wpAny_setField (s:={s with heap:=h3}) t3 rfl fz ?_
 have kk:∀b o,b≠e->h1.get? b=some o->(h3.update h1.objs.size (Obj.mapFields (·.setIfInBounds 3 ((none:Option Addr).elim Value.none fun f=>rawInt f)))).get? b=some o:=fun b o hb z=>by
  rw[Heap.get?_update_other _ _ (Nat.ne_of_gt (zAz z)),o3 b hb];exact k2 b o z
 refine h _ h1.objs.size ?_ ⟨⟨_,_,?_,Obj.cls_mapFields _ _,d3,v1,(qy _ _).trans fx⟩,.inr ⟨h1.objs.size,_,_,rfl,nT,Heap.get?_update_self _ t3 (Obj.isFreed_of_fields (Obj.data_mapFields rfl _)),Obj.data_mapFields rfl _,by simp[fz]⟩⟩ (fun b o z hb hn=>?_) fun b o z hb=>?_
 .cases z:s.heap.get? h1.objs.size with
  |none=>rfl
  |some o=>
   obtain⟨sl,q⟩:=iF.2.2 _ o z;exact absurd (zAz q) (Nat.lt_irrefl _)
 .rw[Heap.get?_update_other _ _ nT];exact g3
 .exact kk b o hb ((iF.2.1 b hn).trans z)
 .obtain⟨sl,q⟩:=iF.2.2 b o z;exact⟨sl,kk b _ hb q⟩
theorem xj{base:Heap}{env:Env}{outer:List Env}{L e:Addr}{C tb:Value}{Q:Unit->Shared->Prop}
  (eB:A.frames=some (env::outer)) (hl:s.heap.FunFrames base (env::outer)) (hf:env.frame=some L) (fl:Fly s.heap e C tb)
  (h:∀h' T,s.heap.get? T=none->Fly h' e C (.ref T)->(∀b o,s.heap.get? b=some o->b≠e->tb≠.ref b->b∉frs (env::outer)->h'.get? b=some o)->(∀b o,s.heap.get? b=some o->b≠e->tb≠.ref b->∃sl,h'.get? b=some {o with slots:=sl})->(∀b o,s.heap.get? b=some o->∃o',h'.get? b=some o')->Q () {s with heap:=h'}):
  wpAny M A (noteFrame (.ref e) env) (fun _ s'=>wpAny M A (setFlight (.ref e) none) Q E s') E s:=by
 obtain⟨⟨oe,vs,he,rfl,hd,h1,fx⟩,tr⟩:=fl;have hz:=(Array.getElem?_eq_some_iff.mp h1).1;unfold noteFrame;simp only[hf];refine wpAny_bind (wpAny_field he hd h1 ?_);rcases tr with rfl|⟨T0,oT,ts,rfl,nT,hT,dE,h3⟩
 .rw[zB0 Zx];refine oJ eB hl hf he hd hz fx fun h' T nT cq k1 k2=>h h' T nT cq (fun b o z hb _ hn=>k1 b o z hb hn) (fun b o z hb _=>k2 b o z hb) fun b o z=>?_;by_cases hb:b=e
  .obtain⟨mx,_,q,_⟩:=cq.obj;exact⟨mx,hb▸q⟩
  .obtain⟨sl,q⟩:=k2 b o z hb;exact⟨_,q⟩
 .rw[if_pos (show(Value.ref T0 != Value.none)=true by simp)];refine wpAny_bind (wpAny_field hT dE h3 ?_);rw[if_neg (show¬((Value.none==rawInt L)=true) by simp[rawInt])];refine wpAny_bind (wpAny_setField hT dE (Array.getElem?_eq_some_iff.mp h3).1 ?_)
  obtain⟨g,eg⟩:∃g,g=s.heap.update T0 (Obj.mapFields (·.setIfInBounds 3 Value.none)):=⟨_,rfl⟩
  have og:∀b,b≠T0->g.get? b=s.heap.get? b:=fun b hb=>by rw[eg];exact Heap.get?_update_other _ _ (Ne.symm hb)
  have tg:∃o,g.get? T0=some o:=⟨_,by rw[eg];exact Heap.get?_update_self _ hT (Obj.isFreed_of_fields (Obj.data_mapFields dE _))⟩
  have cE:g.FunFrames base (env::outer):=hl.of_keeps fun b o z hn=>⟨o,(og b fun q=>by rw[q,hT]at z;cases z;exact hn ts dE).trans z,rfl⟩
  show wpAny M A _ _ E {s with heap:=s.heap.update T0 (Obj.mapFields (·.setIfInBounds 3 Value.none))};rw[<-eg];refine oJ (s:={s with heap:=g}) eB cE hf ((og e (Ne.symm nT)).trans he) hd hz fx fun h' T gg cq k1 k2=>h h' T ?_ cq (fun b o z hb ht hn=>k1 b o ((og b fun q=>ht (by rw[q])).trans z) hb hn) (fun b o z hb ht=>k2 b o ((og b fun q=>ht (by rw[q])).trans z) hb) fun b o z=>?_
  .have gg:g.get? T=none:=gg;by_cases q:T=T0
   .obtain⟨o,e⟩:=tg;rw[q,e]at gg;cases gg
   .rw[<-og T q];exact gg
  .by_cases hb:b=e
   .obtain⟨mx,_,q,_⟩:=cq.obj;exact⟨mx,hb▸q⟩
   .obtain⟨o2,e2⟩:∃o2,g.get? b=some o2:=by
     by_cases q:b=T0
     .rw[q];exact tg
     .exact⟨o,(og b q).trans z⟩
    obtain⟨sl,q⟩:=k2 b o2 e2 hb;exact⟨_,q⟩
theorem uz{base:Heap}{env:Env}{outer:List Env}{L e:Addr}{C tb:Value}{Q:Unit->Shared->Prop}
  (eB:A.frames=some (env::outer)) (hl:s.heap.FunFrames base (env::outer)) (hf:env.frame=some L) (fl:Fly s.heap e C tb)
  (h:∀h' T,s.heap.get? T=none->Fly h' e C (.ref T)->(∀b o,s.heap.get? b=some o->b≠e->tb≠.ref b->b∉frs (env::outer)->h'.get? b=some o)->(∀b o,s.heap.get? b=some o->b≠e->tb≠.ref b->∃sl,h'.get? b=some {o with slots:=sl})->(∀b o,s.heap.get? b=some o->∃o',h'.get? b=some o')->Q () {s with heap:=h'}):
  wpAny M A (leaving env (.ref e)) Q E s:=by
 unfold leaving;exact zAt (xj eB hl hf fl h)
end
theorem ObjOk.there{P:Program}{w:World}{H:Hp}{h:Heap}{a:Addr}{o:HO}(x:ObjOk P w H h a o):∃ob,h.get? a=some ob:=by
 cases o with
 |lst xs=>obtain⟨_,_,_,_,e⟩:=x;exact⟨_,e⟩
 |tup xs=>obtain⟨_,_,_,ob,e,_⟩:=x;exact⟨_,e⟩
 |dK Zs=>obtain⟨_,_,_,_,o,_,_,e,_⟩:=x;exact⟨_,e⟩
 |dT Zs=>obtain⟨_,_,_,_,o,_,_,e,_⟩:=x;exact⟨_,e⟩
 |set S n=>obtain⟨o,_,_,_,e,_⟩:=x;exact⟨_,e⟩
 |ins C dx fs=>obtain⟨_,_,_,e,_⟩:=x;exact⟨_,e⟩
 |own y=>exact x
 |xd fs=>obtain⟨_,⟨_,_,_,e,_⟩,_⟩:=x;exact⟨_,e⟩
 |rng lo hi=>obtain⟨_,_,_,e⟩:=x;exact⟨_,e⟩
 |frz ob u=>obtain⟨e,_⟩:=x;exact⟨_,e⟩
 |tbl ps=>exact⟨_,(show h.get? a=some _ from x)⟩
 |met f y=>exact⟨_,(show h.get? a=some _ from x)⟩
 |ext φ=>obtain⟨_,e,_⟩:=x;exact e
theorem HOk.no{P:Program}{w:World}{H:Hp}{h:Heap}{a:Addr}(x:HOk P w H h)(e:h.get? a=none):H a=none:=by
 cases q:H a with
 |none=>rfl
 |some o=>
  obtain⟨ob,z⟩:=(x a o q).there;rw[e]at z;cases z
def uA(X:Cx)(EX:Addr->Addr->Hp->Prop):Prop:=∀(Zt:List (Addr×Obj)) (σ:St) (H:Hp) (s:Shared) (a C:Addr) (tb:Value),Inv X Zt σ H s->Fly s.heap a (.ref C) tb->X.s₀.heap.get? a=none->H a=none->
 (∀T,tb=.ref T->X.s₀.heap.get? T=none/\H T=none)->(∀p∈X.pn++Zt,p.1≠a/\tb≠.ref p.1)->EX a C H->X.xe (.ref a) s
def CX1(P:Program)(w:World):CXT:=fun outer H s E e s'=>∃a C H' T,e=.ref a/\s'.os=s.os/\AllBare s'.gens/\Un (frs outer) [] H H' s.heap s'.heap/\HOk P w H' s'.heap/\s.heap.get? a=none/\s.heap.get? T=none/\H' a=none/\H' T=none/\Fly s'.heap a (.ref C) (.ref T)/\E (.ref a) (some C) H'
section
variable{X:Cx}
theorem Inv.was{Zt:List (Addr×Obj)}{σ:St}{H:Hp}{s:Shared}{a:Addr}(I:Inv X Zt σ H s)(hx:X.ex=[])(e:s.heap.get? a=none):X.s₀.heap.get? a=none:=by
 cases q:X.s₀.heap.get? a with
 |none=>rfl
 |some o=>
  obtain⟨o',z⟩:=I.base.there a o q (by rw[hx];simp);rw[e]at z;cases z
theorem GJ{E:XK}(W:uA X fun a C H=>E (.ref a) (some C) H)(hx:X.ex=[]):nW (CX1 X.prog X.w) X E:=by
 intro Zt σ H s e s' I h;obtain⟨a,C,H',T,rfl,os,bare,un,hok,na,nT,fa,fT,fl,q⟩:=h;have J:Inv X Zt σ H' s':=I.call' os un hok bare fun b z=>absurd z Zy;refine W Zt σ H' s' a C (.ref T) J fl (I.was hx na) fa (fun T' eT=>by cases eT;exact⟨I.was hx nT,fT⟩) (fun p hp=>?_) q;obtain⟨e,_⟩:=I.pin p hp;exact⟨fun z=>(by rw[z,na]at e;cases e),fun z=>(by cases z;rw[nT]at e;cases e)⟩
def Ip(C:Addr)(EX:Addr->Addr->Hp->Prop)(t:TA):TS:=fun _ σ H=>t σ H fun vs H1=>vs.length<=sizeLine/\∀a,H1 a=none->EX a C H1
theorem kZ{x:Str}{C:Addr}{B newId rq:String}{bm:List Value}{EX:Addr->Addr->Hp->Prop}{np av pos:Pos}{e:Expr}{es:List Expr}{t:TA}(O:OwnCls x C bm newId X.mg X.base)(FB:ExcBaseFacts B newId rq bm)(hc:X.calm=true)(hx:X.ex=[])(hg:Gl X x)(ha:PA X (e::es) t)(W:uA X EX)
  (eR:(x==("__debug__":Str))=false:=by decide) (he:starEach (e::es) X.env=(false,eval e X.env)::starEach es X.env:=by rfl) (dv:(backTo av (starEach es X.env)).any (·.1)=false:=by rfl):
  PS X (.Raise (some (.Call (.Name x np) (e::es) [] av)) none pos) (Ip C EX t):=by
 intro Zt s σ H D I h;obtain⟨tl,N,nm,q,bs,hdct,sn,sub,ab,col,dd,k0,k1,k2,k3,k5,mN,hC,hN,rL,T⟩:=O.obj
 refine wpAny_Raise_call_subT (C:=C) (nm:=nm) (q:=q) (N:=N) (bs:=bs) (bm:=tl) (hdct:=hdct) (sn:=sn) (sub:=sub) (ab:=ab) (col:=col) (dd:=dd) (k0:=k0) (k1:=k1) (k2:=k2) (k3:=k3) (k5:=k5)
  FB (mN:=mN) (T.hasType FB.hasBase) (I.ok.hd hc) (by rw[he];show(false||(backTo av (starEach es X.env)).any (·.1))=false;rw[dv];rfl) rL ?_
 refine jt I hg O.bound ⟨rfl,?_⟩ eR;have h2:=ha av Zt s σ H _ I h;rw[he]at h2⊢;refine Calls.evalArgs_plain (wpAny_mono h2 (fun us s2 z=>?_) fun _ _ y=>y);obtain⟨vs,H1,I1,r1,hl,q1⟩:=z;have hlen:=r1.length;refine⟨rfl,by show us.length<=_;lia,I1.bk _ _ hC,hN.keeps I1.bk,T.keeps I1.bk,fun h' a me=>?_⟩;obtain⟨tt,e1,e2,e3⟩:=me.there;have J:Inv X Zt σ H1 {s2 with heap:=h'}:=I1.kept (t':=s2.toks) me.keeps
 have fl:Fly h' a (.ref C) .none:=⟨⟨_,_,e1,rfl,rfl,rfl,rfl⟩,.inl rfl⟩
 refine W Zt σ H1 _ a C .none J fl (I1.was hx me.new) (I1.hok.no me.new) (fun T z=>by cases z) (fun p hp=>?_) (q1 a (I1.hok.no me.new));obtain⟨e,_⟩:=I1.pin p hp;exact⟨fun z=>(by rw[z,me.new]at e;cases e),fun z=>(by cases z)⟩
end
theorem gK{P:Program}{w:World}{K:Frag}{mg:Str->Option Value}{base:Heap}{N:List Str}{qual:Str}{scope:Scope}{f:Addr}{cd:Value}{A:Around}{outer:List Env}{s:Shared}{H:Hp}{E:XK} :
  uA (jb (CX1 P w) P w K mg base N qual scope f cd A outer s H E) fun a C H'=>E (.ref a) (some C) H':=by
 intro Zt σ H' s' a C tb I fl na fa ft _ q;show wpAny (model P w) (A.deeper (envOfC qual scope s.heap.objs.size f cd)) (leaving (envOfC qual scope s.heap.objs.size f cd) (.ref a)) (fun _ dy=>CX1 P w outer H s E (.ref a) dy) (fun e' dy=>CX1 P w outer H s E e' dy) s';have cn:s'.heap.FunFrames base (envOfC qual scope s.heap.objs.size f cd::outer):=I.stack;have eB:(A.deeper (envOfC qual scope s.heap.objs.size f cd)).frames=some (envOfC qual scope s.heap.objs.size f cd::outer):=I.ok.frames
 have jv:(envOfC qual scope s.heap.objs.size f cd).frame=some s.heap.objs.size:=by
  rcases I.ok.stk with z|z
  .exact absurd (congrArg List.length (show(envOfC qual scope s.heap.objs.size f cd::outer)=outer from z)) Zy
  .exact z.2
 have ub:Un (frs outer) [] H H' s.heap s'.heap:=I.base;have na:s.heap.get? a=none:=na;have ft:∀T,tb=.ref T->s.heap.get? T=none/\H' T=none:=ft;refine uz eB cn jv fl fun h' T nT cq k1 k2 k3=>?_
 have apart:∀b o,s.heap.get? b=some o->b≠a/\tb≠.ref b:=fun b o e=>⟨fun z=>(by rw[z,na]at e;cases e),fun z=>(by rw[(ft b z).1]at e;cases e)⟩
 have xI:∀b o,s.heap.get? b=some o->b∉frs outer->b∉frs (envOfC qual scope s.heap.objs.size f cd::outer):=fun b o e hn hm=>by
  unfold frs at hm;rw[List.filterMap_cons,jv]at hm;rcases zAo.mp hm with z|z
  .exact absurd (zAz e) (by rw[z];exact Nat.lt_irrefl _)
  .exact hn z
 refine⟨a,C,H',T,rfl,I.os,I.bare,⟨fun b o e n hb _=>?_,fun b o e n hb _=>?_,ub.free,fun b o e hx=>?_,ub.tups,ub.frzs,ub.tbls⟩,fun c o e=>?_,na,?_,fa,I.hok.no nT,cq,q⟩
 .exact k1 b o (ub.keep b o e n hb Zy) (apart b o e).1 (apart b o e).2 (xI b o e hb)
 .obtain⟨sl,e1⟩:=ub.slot b o e n hb Zy;obtain⟨fN,e2⟩:=k2 b _ e1 (apart b o e).1 (apart b o e).2;exact⟨fN,e2⟩
 .obtain⟨o',e1⟩:=ub.there b o e hx;exact k3 b o' e1
 .refine(I.hok c o e).stay (fun d v hd z=>?_) (fun _ z=>z) fun _ _ z=>z
  have mB:∃o',H' d=some o':=by
   rcases hd with z|z
   .exact⟨o,by rw[z];exact e⟩
   .exact⟨_,z⟩
  obtain⟨o',eo⟩:=mB;refine k1 d v z (fun y=>(by rw[y,fa]at eo;cases eo)) (fun y=>(by rw[(ft d y).2]at eo;cases eo)) fun hm=>?_;rw[I.stkFree d hm]at eo;cases eo
 .exact I.was rfl nT
theorem Fun.okX{P:Program}{w:World}{K:Frag}{mg:Str->Option Value}{base:Heap}{x qual:Str}{st:Stmt}{f:Addr}{fd:FuncData}{N ps:List Str}{k:Nat}{sp:Sp}(F:Fun K x qual st f fd)(S:FnScope N ps (au st))(len:∀vs H Q E,sp vs H Q E->vs.length=ps.length)
  (bP:∀(cdv:Value) (A:Around) (outer:List Env) (s:Shared) (H:Hp) (vs:List V) (Q:VK) (E:XK),Room k (A.deeper (envOfC qual (au st) s.heap.objs.size f cdv))->sp vs H Q E->
   ∃t,PSs (jb (CX1 P w) P w K mg base N qual (au st) f cdv A outer s H E) (du st) t/\t {nx:=fun _ H'=>Q .non H',rt:=Q} (start N vs) H):FnOk P w K mg base (CX1 P w) (k+1) f fd ps sp:=by
 obtain⟨oc,od,kV,doc,pm,an,cdv,ct,ko,rfl,lk,cb⟩:=F.ex;exact Al lk cb S len fun A outer s H vs Q E hr gv=>bP cdv A outer s H vs Q E hr gv
theorem Bj{K:Frag}{h:Heap}{mg:Str->Option Value}{x:Str}{C:Addr}{HL:List Value}{newId:String}(X:K.In h)(hm:mg x=some (.ref C))(q:PySem.W.excIn K C HL newId=true):OwnCls x C HL newId mg h:=by
 refine⟨hm,?_⟩;unfold PySem.W.excIn at q;split at q
 .rename_i dd cd sl ho
  split at q
  .rename_i C' bm k0 k1 k2 k3 n k5 hm' hs
   simp only[Bool.and_eq_true,beq_iff_eq,Bool.not_eq_true']at q;obtain⟨⟨⟨⟨⟨rfl,rfl⟩,xS⟩,ht⟩,hok⟩,rL⟩:=q;obtain⟨nm,bs,mro,ns,qn,hd,sn,sub,ab,col,del⟩:=cd;dsimp only at hm' xS hok rL;subst hm' xS;obtain⟨l⟩:=sl;have hs:l=_:=hs;subst hs;exact⟨bm,ns,nm,qn,bs,hd,sn,sub,ab,col,dd,k0,k1,k2,k3,k5,_,X _ _ ho,.of_isNs (PySem.W.isNs_of_in X hok),PySem.W.nsMap_none_of_in X hok rL,PySem.W.tail_of_in X ht⟩
  .cases q
 .cases q
section
variable{X:Cx}{Zt:List (Addr×Obj)}{σ:St}{H:Hp}{s:Shared}{h':Heap}
theorem Fly.ne{h:Heap}{a:Addr}{C tb:Value}(fl:Fly h a C tb){b:Addr}{o:Obj}(e:h.get? b=some o)(hd:∀vs,o.data≠.fields vs):b≠a/\tb≠.ref b:=by
 obtain⟨⟨oe,vs,he,_,hv,_,_⟩,tr⟩:=fl;refine⟨fun z=>?_,fun z=>?_⟩
 .rw[z,he]at e;cases e;exact hd vs hv
 .rcases tr with q|⟨T,oT,ts,q,_,hT,dE,_⟩
  .rw[q]at z;cases z
  .rw[q]at z;cases z;rw[hT]at e;cases e;exact hd ts dE
theorem Inv.left{a:Addr}{C tb:Value}{t':Nat}(I:Inv X Zt σ H s)(hx:X.ex=[])(fl:Fly s.heap a C tb)(na:X.s₀.heap.get? a=none)(fa:H a=none)(ft:∀T,tb=.ref T->X.s₀.heap.get? T=none/\H T=none)(hp:∀p∈X.pn++Zt,p.1≠a/\tb≠.ref p.1)
  (k1:∀b o,s.heap.get? b=some o->b≠a->tb≠.ref b->b∉frs X.stack->h'.get? b=some o) (k2:∀b o,s.heap.get? b=some o->b≠a->tb≠.ref b->∃sl,h'.get? b=some {o with slots:=sl}) (k3:∀b o,s.heap.get? b=some o->∃o',h'.get? b=some o'):Inv X Zt σ H {s with heap:=h',toks:=t'}:=by
 have tr:∀b u,H b=some u->b≠a/\tb≠.ref b/\b∉frs X.stack:=fun b u e=>⟨fun z=>(by rw[z,fa]at e;cases e),fun z=>(by rw[(ft b z).2]at e;cases e),fun z=>(by rw[I.stkFree b z]at e;cases e)⟩
 have old:∀b o,X.s₀.heap.get? b=some o->b≠a/\tb≠.ref b:=fun b o e=>⟨fun z=>(by rw[z,na]at e;cases e),fun z=>(by rw[(ft b z).1]at e;cases e)⟩
 have AY:∀b o,X.s₀.heap.get? b=some o->b≠X.env.locals:=fun b o e=>zB4 (zB2 (zAz e) I.ok.above);have HM:∀b,b≠X.env.locals->b∉X.fs->b∉frs X.stack:=fun b h1 h2 z=>(zAo.mp (I.stkSub b z)).elim h1 h2
 have cellK:∀x c,X.env.cells.lookup x=some c->∀v,s.heap.IsCell c v->h'.IsCell c v:=fun x c e v ⟨o,ho,hd⟩=>by
  obtain⟨n1,n2⟩:=fl.ne ho fun vs q=>by rw[hd]at q;cases q
  obtain⟨sl,q⟩:=k2 c o ho n1 n2;exact⟨_,q,hd⟩
 refine⟨I.ok,I.os,I.bare,⟨fun b o e n hb fE=>?_,fun b o e n hb fE=>?_,I.base.free,fun b o e fE=>?_,I.base.tups,I.base.frzs,I.base.tbls⟩,?_,fun x c e=>?_,I.free,I.freeC,fun p gT=>?_,fun c o e=>?_,I.len⟩
 .exact k1 b o (I.base.keep b o e n hb fE) (old b o e).1 (old b o e).2 (HM b (AY b o e) hb)
 .obtain⟨sl,e1⟩:=I.base.slot b o e n hb fE;obtain⟨fN,e2⟩:=k2 b _ e1 (old b o e).1 (old b o e).2;exact⟨fN,e2⟩
 .obtain⟨o',e1⟩:=I.base.there b o e fE;exact k3 b o' e1
 .obtain⟨m,⟨o,es,ep,ho,hd,r⟩,hl⟩:=I.loc
  obtain⟨n1,n2⟩:=fl.ne ho fun vs q=>by rw[hd]at q;cases q
  obtain⟨sl,q⟩:=k2 _ o ho n1 n2;refine⟨m,⟨_,es,ep,q,hd,r⟩,fun i x v e1 e2 e3=>?_⟩;obtain⟨u,rr,l⟩:=hl i x v e1 e2 e3;refine⟨u,rr,?_⟩;rcases l with l|⟨k,c,e,z⟩
  .exact .inl l
  .exact .inr ⟨k,c,e,cellK x c e _ z⟩
 .obtain⟨v,z⟩:=I.cell x c e;exact⟨v,cellK x c e v z⟩
 .obtain⟨e,n,ne,nf,d⟩:=I.pin p gT;exact⟨k1 p.1 p.2 e (hp p gT).1 (hp p gT).2 (HM p.1 ne nf),n,ne,nf,d⟩
 .refine(I.hok c o e).stay (fun d v hd z=>?_) (fun _ z=>z) fun _ _ z=>z
  have mB:∃o',H d=some o':=by
   rcases hd with z|z
   .exact⟨o,by rw[z];exact e⟩
   .exact⟨_,z⟩
  obtain⟨o',eo⟩:=mB;obtain⟨t1,t2,t3⟩:=tr d o' eo;exact k1 d v z t1 t2 t3
end
structure RoomU(k:Nat)(A:Around):Prop where
 dp:A.depth+3*k+5<recursionLimit
 un:A.units+16*k+200<cLine
 gd:A.guards=some []
theorem Room.toU{k:Nat}{A:Around}(r:Room k A):RoomU k A:=⟨r.dp,r.un,r.gd⟩
theorem RoomU.mono{j k:Nat}{A:Around}(r:RoomU k A)(h:j<=k):RoomU j A:=⟨by have:=r.dp;lia,by have:=r.un;lia,r.gd⟩
structure FnOkU(P:Program)(w:World)(K:Frag)(mg:Str->Option Value)(base:Heap)(CX:CXT)(k:Nat)(f:Addr)(fd:FuncData)(ps:List Str)(sp:Sp):Prop where
 len:∀vs H Q E,sp vs H Q E->vs.length=ps.length
 run:∀(A:Around) (outer:List Env) (s:Shared) (H:Hp) (args:Args) (us:List Value) (vs:List V) (Q:VK) (E:XK),RoomU k A->Env0 P w K mg base A outer s H->BindsTo s fd args (ps.zip us)->Vals vs us->sp vs H Q E->
  codeAny (model P w) A (.call (.ref f) args) (CR CX outer P w H s Q E) s
abbrev Cx.un(X:Cx)(A:Around):Cx:={X with A:=A,calm:=false}
theorem Inv.un'{X:Cx}{Zt:List (Addr×Obj)}{σ:St}{H:Hp}{s:Shared}(I:Inv X Zt σ H s)(A:Around)(hA:A.frames=X.A.frames):Inv (X.un A) Zt σ H s:=
 ⟨⟨I.ok.mod,I.ok.kind,I.ok.glob,I.ok.blt,I.ok.above,I.ok.inj,I.ok.has,I.ok.cab,fun z=>(by cases z),hA.trans I.ok.frames,I.ok.stk,I.ok.exf,I.ok.bs,I.ok.bsz,I.ok.noex,I.ok.exfs,I.ok.funs,I.ok.frf⟩,I.os,I.bare,I.base,I.loc,I.cell,I.free,I.freeC,I.pin,I.hok,I.len⟩
def qt(A:Around):Around:={A with handled:=none}
theorem Env0.qt{P:Program}{w:World}{K:Frag}{mg:Str->Option Value}{base:Heap}{A:Around}{outer:List Env}{s:Shared}{H:Hp}(e:Env0 P w K mg base A outer s H):Env0 P w K mg base (qt A) outer s H:=
 ⟨e.frames,e.mod,e.bs,e.bsz,e.funs,e.frf,e.hok,e.bare⟩
theorem RoomU.mark{k:Nat}{A:Around}(r:RoomU k A)(v:Option Value):RoomU k (A.mark v):=⟨r.dp,r.un,r.gd⟩
theorem RoomU.deeper{k:Nat}{A:Around}(r:RoomU (k+1) A)(env:Env):RoomU k (A.deeper env):=
 ⟨by have:=r.dp;show A.depth+1+3*k+5<_;lia,by have:=r.un;show A.units+3+16*k+200<_;lia,r.gd⟩
theorem Fun.okU{P:Program}{w:World}{K:Frag}{mg:Str->Option Value}{base:Heap}{x qual:Str}{st:Stmt}{f:Addr}{fd:FuncData}{N ps:List Str}{k:Nat}{sp:Sp}(F:Fun K x qual st f fd)(S:FnScope N ps (au st))(len:∀vs H Q E,sp vs H Q E->vs.length=ps.length)
  (bP:∀(cdv:Value) (A:Around) (outer:List Env) (s:Shared) (H:Hp) (vs:List V) (Q:VK) (E:XK),RoomU k (A.deeper (envOfC qual (au st) s.heap.objs.size f cdv))->sp vs H Q E->
   ∃t,PSs (((jb CX0 P w K mg base N qual (au st) f cdv (qt A) outer s H E).un (A.deeper (envOfC qual (au st) s.heap.objs.size f cdv))).nox) (du st) t/\t {nx:=fun _ H'=>Q .non H',rt:=Q} (start N vs) H):
  FnOkU P w K mg base CX0 (k+1) f fd ps sp:=by
 obtain⟨oc,od,kV,doc,pm,an,cdv,ct,ko,rfl,lk,cb⟩:=F.ex;refine⟨len,fun A outer s H args us vs Q E hr e0 hb r gv=>?_⟩;have hl:=len _ _ _ _ gv;have KX:K.In s.heap:=e0.mod.kin.keeps fun b o e=>(e0.bs b o e).1;have lim:s.heap.NoLimit:=e0.mod.nolimit.keeps fun b o e=>(e0.bs b o e).1
 have ku:∀y∈ps.zip us,(au st).names.lookup y.1=some .local\/((au st).names.lookup y.1=some .cell/\((cellsFrom (s.heap.objs.size+1) (au st).names []).lookup y.1).isSome=true):=fun⟨n,v⟩ hy=>by
  rcases S.par n (List.of_mem_zip hy).1 with q|q
  .exact .inl q
  .exact .inr ⟨q,PySem.W.cellsFrom_some _ _ _ (.inl q)⟩
 refine codeAny_call_function (by have:=hr.dp;lia) (KX _ _ lk) rfl S.co S.gen rfl (PySem.W.codeRec_of KX cb) (hb _ _ _ _ ?_);refine wpAny_newFunctionEnv_cells S.kind ku fun env he s1 x=>?_;subst he;refine⟨lim.keeps x.toInCall.keep,codeAny_func ?_⟩;obtain⟨t,ht,hq⟩:=bP cdv A outer s H vs Q E (hr.deeper _) gv;have I:Inv (jb CX0 P w K mg base N qual (au st) f cdv (qt A) outer s H E) [] (start N vs) H s1:=qe S rfl e0.qt hl r x;have J:=(I.un' (A.deeper (envOfC qual (au st) s.heap.objs.size f cdv)) rfl).wish fun _ _=>False;refine wpAny_mono (ht [] s1 (start N vs) H _ J hq) (fun fl s' hs=>?_) fun e s' hs=>hs.elim
 have fin:∀{af:St} {H':Hp} {v:V} {u:Value},Inv (((jb CX0 P w K mg base N qual (au st) f cdv (qt A) outer s H E).un (A.deeper (envOfC qual (au st) s.heap.objs.size f cdv))).nox) [] af H' s'->RelV v u->Q v H'->CE outer P w H s Q u s':=
  fun{af H' v u} J rv q=>⟨v,H',J.os,J.bare,J.base,J.hok,rv,q⟩
 cases fl with
 |ret u=>
  obtain⟨v,af,H',J,rv,q⟩:=hs;exact fin J rv q
 |next=>
  obtain⟨af,H',J,q⟩:=hs;exact fin (v:=V.non) (u:=Value.none) J rfl q
 |brk=>
  obtain⟨_,_,_,q⟩:=hs;exact False.elim q
 |cont=>
  obtain⟨_,_,_,q⟩:=hs;exact False.elim q
section
variable{X:Cx}{k:Nat}{f:Addr}{fd:FuncData}{ps:List Str}{sp:Sp}{x:Str}{p pos:Pos}{e:Expr}{es:List Expr}{t:TA}
theorem Bk(F:FnOkU X.prog X.w X.K X.mg X.base CX0 k f fd ps sp)(hr:RoomU k X.A)(hg:Gl X x)(hm:X.mg x=some (.ref f))(hk:PySem.W.keepIn X.K (.ref f)=true)(hb:Binds X.K fd ps [])(ha:PA X (e::es) t)
  (eR:(x==("__debug__":Str))=false:=by decide) (he:starEach (e::es) X.env=(false,eval e X.env)::starEach es X.env:=by rfl) (dv:(backTo pos (starEach es X.env)).any (·.1)=false:=by rfl):
  PE X (.Call (.Name x p) (e::es) [] pos) (u0 sp [] E0 t):=by
 intro Zt s σ H Q I h;refine wpAny_Call_Name_kw (jt I hg hm ?_ eR);refine PySem.W.callWith_K (h₀:=X.base) I.ok.mod.kin hk (thn (ha pos Zt s σ H _ I h) fun us s1 ⟨vs,H1,I1,r,q⟩=>⟨I1.kIn,?_⟩) he dv;have q:sp (vs++[]) H1 Q E0:=q;rw[zAn]at q;have hl:(us++[]).length=ps.length:=by rw[zAn,<-r.length];exact F.len _ _ _ _ q
 have yb:=hb s1 us I1.kIn hl;rw[zAn]at yb;refine wpAny_call (codeAny_mono (F.run X.A X.stack s1 H1 ⟨us,[]⟩ us vs Q E0 hr I1.env0 yb r q) fun rr s' hq=>?_)
 cases rr with
 |error e=>exact(show False from hq).elim
 |ok fl=>
  cases fl with
  |ret u=>exact I1.after hq
  |next=>exact False.elim hq
  |brk=>exact False.elim hq
  |cont=>exact False.elim hq
end
def excAt(a C:Addr)(h:Heap):Prop:=∃o vs,h.get? a=some o/\o.cls=.ref C/\o.data=.fields vs/\o.dict=none
theorem excAt.ok{P:Program}{w:World}{H:Hp}{h:Heap}{a C:Addr}(x:excAt a C h):ObjOk P w H h a (.ext (excAt a C)):=
 ⟨x,(let⟨o,_,e,_⟩:=x;⟨o,e⟩),fun h1 h2 z k=>(let⟨o,vs,e,r⟩:=z;⟨o,vs,k o e,r⟩)⟩
theorem HOk.tracked{P:Program}{w:World}{H:Hp}{h:Heap}{a:Addr}{o:HO}(x:HOk P w H h)(n:H a=none)(new:ObjOk P w (upd H a o) h a o):HOk P w (upd H a o) h:=fun b u e=>by
 by_cases z:b=a
 .subst z;rw[aa]at e;cases e;exact new
 .rw[aq z]at e
  exact(x b u e).stay (fun _ _ _ q=>q) (fun c q=>by rw[aq (aA q n)];exact q) fun c xs q=>by rw[aq (aA q n)];exact q
theorem Inv.track{X:Cx}{Zt:List (Addr×Obj)}{σ:St}{H:Hp}{s:Shared}{a:Addr}{o:HO}(I:Inv X Zt σ H s)(hx:X.ex=[])(n:H a=none)(na:X.s₀.heap.get? a=none)(hL:a≠X.env.locals)(hc:∀x c,X.env.cells.lookup x=some c->c≠a)(hp:∀p∈X.pn++Zt,p.1≠a)(new:ObjOk X.prog X.w (upd H a o) s.heap a o):
  Inv X Zt σ (upd H a o) s:=
 ⟨I.ok,I.os,I.bare,⟨I.base.keep,I.base.slot,fun b ob e h1 h2=>(by rw[aq (fun z=>(by rw[z,na]at e;cases e))];exact I.base.free b ob e h1 h2),I.base.there,fun b xs e=>(have q:=I.base.tups b xs e;by rw[aq (aA q n)];exact q),fun b ob u e=>(have q:=I.base.frzs b ob u e;by rw[aq (aA q n)];exact q),
  fun b ps e=>(let⟨m,q⟩:=I.base.tbls b ps e;⟨m,by rw[aq (aA q n)];exact q⟩)⟩,I.loc,I.cell,(by rw[aq (Ne.symm hL)];exact I.free),fun x c e=>(by rw[aq (hc x c e)];exact I.freeC x c e),
  fun p gT=>(let⟨e,n1,r⟩:=I.pin p gT;⟨e,by rw[aq (hp p gT)];exact n1,r⟩),I.hok.tracked n new,I.len⟩
open PySem PySem.Spec PyProof.Rows PySem.Calls PySem.W
theorem yZ:entryFor table "BaseException.__getattribute__"=some Builtin.«object.__getattribute__» :=
 entryFor_alias (id':="object.__getattribute__") (by kernel_rfl) (by first|rfl|decide +kernel) Zv (by kernel_rfl)
section
variable{K:Frag}{prog:Program}{w:World}{A:Around}{E:Value->Shared->Prop}{s:Shared}{x C:Addr}{ox:Obj}
theorem Bl{a g:Value}{name:Str}(hc:(clsIn K C).isSome=true)(ha:findIn K (.ref C) name=some (some a))(hg:specialIn K a "__get__"=some (some g))(ht:takesIn K a=some true):findObj K C none name=some (.bind g a):=by
 obtain⟨cd,hc⟩:=Option.isSome_iff_exists.mp hc;unfold findObj;rw[hc,Option.bind_some,ha,Option.bind_some];simp[hg,ht]
theorem Ir{tk:Tok}{Q:Fin->Shared->Prop}(X:K.In s.heap)(I:InstAt s.heap x ox C none)(hf:findObj K C none "__class__"=some (.bind (.builtin "getset_descriptor.__get__") (.builtin "object.__class__")))(hm:mroIn K C (.type "object")=some true)
  (h:Q (.done (.ret (.ref C))) s):wpAny (model prog w) A (Builtin.«object.__getattribute__» ⟨[.ref x,.str "__class__" tk],[]⟩) Q E s:=by
 obtain⟨hh,g,d,t,os⟩:=s;have L0:=I.type (M:=model prog w);have L1:=looks_find (M:=model prog w) X I hf;unfold Builtin.«object.__getattribute__»
 repeat lk
 refine wpAny_run (class_get X I hm ?_)
 repeat lk
 exact h
theorem exc_slot:Slot "BaseException" "__getattribute__" "BaseException.__getattribute__":=
 .of (owner:="BaseException") (n:="__getattribute__") (by rw[typeLookup_type,builtinLookup_eq_fast];kernel_rfl) Zv Zv Zv
  (by first|exact .inl Zv|exact .inr Zv) (by rw[isSubtype_type];kernel_rfl)
theorem Bm:builtinKind "BaseException.__getattribute__"=some .slot:=by decide +kernel
theorem za:splitId "BaseException.__getattribute__"=some ("BaseException","__getattribute__"):=by decide +kernel
theorem Fg:∃sig,Manifest.signature? "BaseException.__getattribute__"=sig/\∀a b:Value,(match sig with|none=>(pure ():Sem Unit)|some g=>Bind.checkArgs "BaseException.__getattribute__" g ⟨[a,b],[]⟩)=pure ():=⟨_,rfl,fun a b=>by kernel_rfl⟩
theorem zc{Q:Unit->Shared->Prop}{b:Value}(L:Looks (model prog w) s.heap (isInstance (.ref x) (.type "BaseException")) true)(h:Q () s):wpAny (model prog w) A (checkBuiltinCall "BaseException.__getattribute__" ⟨[.ref x,b],[]⟩) Q E s:=by
 simp only[checkBuiltinCall,Bm,za];refine wpAny_bind (L.at ?_);simp only[Bool.not_true,Bool.false_eq_true,if_false];obtain⟨sig,e,r⟩:=Fg;have r:=r (.ref x) b;rw[e]
 cases sig with
 |none=>exact zAw h
 |some g=>
  show wpAny _ _ (Bind.checkArgs "BaseException.__getattribute__" g ⟨[.ref x,b],[]⟩) Q E s;have r:Bind.checkArgs "BaseException.__getattribute__" g ⟨[.ref x,b],[]⟩=pure ():=r;rw[r];exact zAw h
theorem zf{Q:Option Value->Shared->Prop}(X:K.In s.heap)(I:InstAt s.heap x ox C none)(M0:findIn K (.ref C) "__getattribute__"=some (some (.builtin "BaseException.__getattribute__")))(M3:findIn K (.ref C) "__getattr__"=some none)
  (hf:findObj K C none "__class__"=some (.bind (.builtin "getset_descriptor.__get__") (.builtin "object.__class__"))) (hm:mroIn K C (.type "object")=some true) (hb:mroIn K C (.type "BaseException")=some true) (h:Q (some (.ref C)) {s with toks:=s.toks+1}):
  wpAny (model prog w) A (getAttr? (.ref x) "__class__") Q E s:=by
 obtain⟨hh,g,d,t,os⟩:=s;have L0:=I.type (M:=model prog w);have L1:=looks_findIn (M:=model prog w) X M0;have L2:=looks_findIn (M:=model prog w) X M3;have L3:=looks_mroIn (M:=model prog w) X hb;unfold getAttr? getAttrBy? getAttrBy;refine zAt (wpAny_mkText (zAt (wpAny_attempt (wpAny_holding (zAt (L0.at (zAt (L1.at ?_))))))));show wpAny _ _ (getAttrByItsOwn _ _ _ _ _ _) _ _ _;unfold getAttrByItsOwn hookBefore;refine zAt ?_;rw[zB3 (show onTheHeap (.ref C)=true from rfl)];refine L2.at ?_;refine zAt (wpAny_attempt (wpAny_holding ?_));show wpAny _ _ (boundAndCalled (.builtin "BaseException.__getattribute__") (.ref x) (.str "__class__" t)) _ _ _;unfold boundAndCalled;refine zAt (wpAny_of_eq (exc_slot.bind _) ?_);refine wpAny_call (codeAny_call_builtin exc_slot.plain yZ (zc (s:=⟨hh,g,d,t+1,os⟩) (L0.andThen L3) ?_));refine Ir (s:=⟨hh,g,d,t+1,os⟩) X I hf hm ?_;show wpAny _ _ (handedOut (.ref C)) _ _ _
 repeat lk
 exact h
end
structure ExcC(K:Frag)(C:Addr):Prop where
 cl:(clsIn K C).isSome=true
 ga:findIn K (.ref C) "__getattribute__"=some (some (.builtin "BaseException.__getattribute__"))
 gb:findIn K (.ref C) "__getattr__"=some none
 fc:findIn K (.ref C) "__class__"=some (some (.builtin "object.__class__"))
 sg:specialIn K (.builtin "object.__class__") "__get__"=some (some (.builtin "getset_descriptor.__get__"))
 tk:takesIn K (.builtin "object.__class__")=some true
 ob:mroIn K C (.type "object")=some true
 be:mroIn K C (.type "BaseException")=some true
theorem excAt.inst{a C:Addr}{h:Heap}(x:excAt a C h):∃ox,InstAt h a ox C none:=by
 obtain⟨o,vs,e,c,d,dd⟩:=x;refine⟨o,e,c,?_,by rw[dd];trivial⟩;unfold notCls;rw[d]
theorem uB{K:Frag}{a C:Addr}(Z:ExcC K C):KitX K (.ref a) (.ref C) (excAt a C) where
 ty:=fun M h _ p=>(let⟨_,I⟩:=p.inst;I.type)
 it:=fun M h X _=>by
  have z:=Z.cl;unfold clsIn at z;split at z
  .rename_i c' d' cd' A0 ho
   intro A' Q' E' s' k q;unfold isType loadHead;exact zAt (wpAny_loadPart (k _ _ (X _ _ ho)) (zAw q))
  .cases z
 ne:=fun h tp dd Zr n sl X e=>by
  refine Bool.eq_false_iff.mpr fun q=>?_
  have q:C=tp:=by
   have:=beq_iff_eq.mp q;injection this
  subst q;have z:=Z.cl;unfold clsIn at z;split at z
  .rename_i c' d' cd' A0 ho
   have:=X _ _ ho;rw[e]at this;cases this
  .cases z
 ca:=fun{prog w A E Q s} X p h=>by
  obtain⟨ox,I⟩:=p.inst;exact zf X I Z.ga Z.gb (Bl Z.cl Z.fc Z.sg Z.tk) Z.ob Z.be h
theorem lg{X:Cx}:dw X (.builtin "isinstance") (fun xs H Q=>∃a C c b,xs=[.ref a,c]/\H a=some (.ext (excAt a C))/\ExcC X.K C/\((∃D,c=.ref D/\kitOne X.K (.ref C) (.ref D)=some b)\/∃n,c=.ty n/\kitOne X.K (.ref C) (.type n)=some b)/\Q (.bl b) H):=by
 intro Zt s σ H xs us Q I r h;obtain⟨a,C,c,b,rfl,e,Z,hk,q⟩:=h;obtain⟨u,v,rfl,ru,rv⟩:=vals2 r;cases(show u=Value.ref a from ru)
 obtain⟨p,_⟩:=(show ObjOk X.prog X.w H s.heap a (.ext (excAt a C))from I.hok a _ e)
 rcases hk with⟨D,rfl,hk⟩|⟨n,rfl,hk⟩
 .cases(show v=Value.ref D from rv)
  exact kia_one (uB Z) I.kIn p hk (fun z=>nomatch z) fun tk=>⟨.bl b,H,I.tok _,rfl,q⟩
 .cases(show v=Value.type n from rv)
  exact kia_one (uB Z) I.kIn p hk (fun z=>nomatch z) fun tk=>⟨.bl b,H,I.tok _,rfl,q⟩
section
variable{K:Frag}{prog:Program}{w:World}{A:Around}{E:Value->Shared->Prop}{s:Shared}{a C D:Addr}{ox:Obj}
structure CatchC(K:Frag)(C D:Addr):Prop where
 nt:typeIn K (.ref D)=some (.type "type")
 ty:(clsIn K D).isSome=true
 be:subIn K (.ref D) (.type "BaseException")=some true
 su:subIn K (.ref C) (.ref D)=some true
theorem zg(X:K.In s.heap)(h:(clsIn K D).isSome=true):Looks (model prog w) s.heap (isType (.ref D)) true:=by
 unfold clsIn at h;split at h
 .rename_i c' d' cd' A0 ho
  intro A' Q' E' s' k q;unfold isType loadHead;exact zAt (wpAny_loadPart (k _ _ (X _ _ ho)) (zAw q))
 .cases h
theorem uC{Q:Bool->Shared->Prop}(X:K.In s.heap)(I:InstAt s.heap a ox C none)(Z:CatchC K C D)(h:Q true s):wpAny (model prog w) A (excMatches (.ref a) (.ref D)) Q E s:=by
 obtain⟨hh,g,d,t,os⟩:=s;have L0:=I.type (M:=model prog w);have L1:=looks_typeIn (M:=model prog w) X Z.nt;have L2:=zg (prog:=prog) (w:=w) X Z.ty;have L3:=looks_subIn (M:=model prog w) X Z.be;have L4:=looks_subIn (M:=model prog w) X Z.su;have f:=tc_notTuple;unfold excMatches isExcClass
 repeat (first|with_reducible refine L1.at ?_|with_reducible refine L0.at ?_|with_reducible refine L2.at ?_|with_reducible refine L3.at ?_|with_reducible refine L4.at ?_|wp_step)
 exact h
end
theorem zj{M:Model}{A:Around}{E:Value->Shared->Prop}{s:Shared}{a:Addr}{C tb:Value}{Q:Unit->Shared->Prop}(fl:Fly s.heap a C tb)
  (h:∀h',Fly h' a C tb->(∀b o,s.heap.get? b=some o->tb≠.ref b->h'.get? b=some o)->(∀b o,s.heap.get? b=some o->∃o',h'.get? b=some o')->Q () {s with heap:=h'}):wpAny M A (setFlight (.ref a) none) Q E s:=by
 obtain⟨⟨oe,vs,he,hc,hd,h1,fx⟩,tr⟩:=id fl;unfold setFlight;refine zAt (wpAny_field he hd h1 ?_);rcases tr with rfl|⟨T,oT,ts,rfl,nT,hT,dE,h3⟩
 .rw[zB0 Zx];exact zAw (h s.heap fl (fun b o e _=>e) fun b o e=>⟨o,e⟩)
 .rw[if_pos (show(Value.ref T != Value.none)=true by simp)];have z3:=(Array.getElem?_eq_some_iff.mp h3).1;refine wpAny_setField hT dE z3 ?_;have g3:=Heap.get?_update_self (Obj.mapFields (·.setIfInBounds 3 ((none:Option Addr).elim Value.none fun f=>rawInt f))) hT (Obj.isFreed_of_fields (Obj.data_mapFields dE _));have o3:∀b,b≠T->(s.heap.update T (Obj.mapFields (·.setIfInBounds 3 ((none:Option Addr).elim Value.none fun f=>rawInt f)))).get? b=s.heap.get? b:=fun b hb=>Heap.get?_update_other _ _ (Ne.symm hb);refine h _ ⟨⟨oe,vs,(o3 a (Ne.symm nT)).trans he,hc,hd,h1,fx⟩,.inr ⟨T,_,_,rfl,nT,g3,Obj.data_mapFields dE _,by simp[z3]⟩⟩ (fun b o e hb=>(o3 b fun z=>hb (by rw[z])).trans e) fun b o e=>?_;by_cases z:b=T
  .rw[z];exact⟨_,g3⟩
  .exact⟨o,(o3 b z).trans e⟩
abbrev Cx.tr(X:Cx)(Zt:List (Addr×Obj))(xe:Value->Shared->Prop):Cx:={X with pn:=X.pn++Zt,xe:=xe}
theorem Inv.tr{X:Cx}{Zt:List (Addr×Obj)}{σ:St}{H:Hp}{s:Shared}(I:Inv X Zt σ H s)(xe:Value->Shared->Prop):Inv (X.tr Zt xe) [] σ H s:=
 ⟨⟨I.ok.mod,I.ok.kind,I.ok.glob,I.ok.blt,I.ok.above,I.ok.inj,I.ok.has,I.ok.cab,I.ok.hd,I.ok.frames,I.ok.stk,I.ok.exf,I.ok.bs,I.ok.bsz,I.ok.noex,I.ok.exfs,I.ok.funs,I.ok.frf⟩,I.os,I.bare,I.base,I.loc,I.cell,I.free,I.freeC,fun p hp=>I.pin p (by simpa using hp),I.hok,I.len⟩
theorem Inv.untr{X:Cx}{Zt bE:List (Addr×Obj)}{σ:St}{H:Hp}{s:Shared}{xe:Value->Shared->Prop}(I:Inv (X.tr Zt xe) bE σ H s):Inv X Zt σ H s:=
 ⟨⟨I.ok.mod,I.ok.kind,I.ok.glob,I.ok.blt,I.ok.above,I.ok.inj,I.ok.has,I.ok.cab,I.ok.hd,I.ok.frames,I.ok.stk,I.ok.exf,I.ok.bs,I.ok.bsz,I.ok.noex,I.ok.exfs,I.ok.funs,I.ok.frf⟩,I.os,I.bare,I.base,I.loc,I.cell,I.free,I.freeC,fun p hp=>I.pin p (List.mem_append_left _ hp),I.hok,I.len⟩
theorem Inv.drop{X:Cx}{Zt:List (Addr×Obj)}{σ:St}{H:Hp}{s:Shared}{i:Nat}{x:Str}{h':Heap}{u:Option Value}{m:Str->Option Value}(I:Inv X Zt σ H s)(hN:X.N.Nodup)(hi:X.N[i]?=some x)
  (hl:∀(i:Nat) (x:Str) (v:V),X.N[i]?=some x->σ[i]?=some (some v)->Vis X.env.scope x->∃u,RelV v u/\Look X.env s.heap m x u) (hn:h'.Ns X.env.locals fun y=>if y=x then u else m y) (sb:Heap.SameBut X.env.locals s.heap h'):Inv X Zt (σ.set i none) H {s with heap:=h'}:=by
 have nL:∀b o,X.s₀.heap.get? b=some o->b≠X.env.locals:=fun b o e=>zB4 (zB2 (zAz e) I.ok.above)
 have cK:∀y c,X.env.cells.lookup y=some c->∀v,s.heap.IsCell c v->h'.IsCell c v:=fun y c e v ⟨o,ho,hd⟩=>⟨o,(sb.2 c (I.cne y c e)).trans ho,hd⟩
 refine⟨I.ok,I.os,I.bare,⟨fun b o e n hb hx=>(sb.2 b (nL b o e)).trans (I.base.keep b o e n hb hx),fun b o e n hb hx=>?_,I.base.free,fun b o e hx=>?_,I.base.tups,I.base.frzs,I.base.tbls⟩,⟨_,hn,fun j y v e1 e2 e3=>?_⟩,fun y c e=>?_,I.free,I.freeC,fun p hp=>?_,fun c o e=>?_,by rw[List.length_set];exact I.len⟩
 .obtain⟨sl,e1⟩:=I.base.slot b o e n hb hx;exact⟨sl,(sb.2 b (nL b o e)).trans e1⟩
 .obtain⟨o',e1⟩:=I.base.there b o e hx;exact⟨o',(sb.2 b (nL b o e)).trans e1⟩
 .by_cases z:i=j
  .subst z;by_cases aE:i<σ.length
   .rw[List.getElem?_set_self aE]at e2;cases e2
   .rw[List.getElem?_eq_none (by rw[List.length_set];lia)]at e2;cases e2
  .rw[List.getElem?_set_ne z]at e2;obtain⟨u',r,l⟩:=hl j y v e1 e2 e3;refine⟨u',r,?_⟩;rcases l with⟨k,l⟩|⟨k,c,e,w'⟩
   .refine .inl ⟨k,?_⟩;show(if y=x then u else m y)=some u';rw[zB0 fun q=>z ?_]
    .exact l
    .rw[q]at e1;obtain⟨h1,g1⟩:=zAa.mp hi;obtain⟨h2,g2⟩:=zAa.mp e1;exact(List.getElem_inj hN).mp (g1.trans g2.symm)
   .exact .inr ⟨k,c,e,cK y c e _ w'⟩
 .obtain⟨v,w'⟩:=I.cell y c e;exact⟨v,cK y c e v w'⟩
 .obtain⟨e,n,ne,r⟩:=I.pin p hp;exact⟨(sb.2 p.1 ne).trans e,n,ne,r⟩
 .refine(I.hok c o e).stay (fun d v hd z=>(sb.2 d fun q=>?_).trans z) (fun _ z=>z) fun _ _ z=>z;rcases hd with y|y
  .rw[y]at q;rw[q,I.free]at e;cases e
  .rw[q,I.free]at y;cases y
theorem jA{X:Cx}{Zt:List (Addr×Obj)}{σ:St}{H:Hp}{s:Shared}{i:Nat}{x:Str}{pos:Pos}{A:Around}{E:Value->Shared->Prop}{Q:Unit->Shared->Prop}(I:Inv X Zt σ H s)(hN:X.N.Nodup)(hi:X.N[i]?=some x)(hx:X.env.scope.names.lookup x=some .local)
  (h:∀s',Inv X Zt (σ.set i none) H s'->Q () s'):wpAny (model X.prog X.w) A (do bindName X.env x .none;unbindBehindTheSuite X.env x pos) Q E s:=by
 have M4:i<X.N.length:=(zAa.mp hi).1;refine zAt (wpAny_bindName (jr (v:=.non) I hN hi (.inl hx) rfl (fun s1 I1 _=>?_) (.inr hx)));obtain⟨m,hn,hl⟩:=id I1.loc;obtain⟨u,_,lk⟩:=hl i x .non hi (by rw[List.getElem?_set_self (by rw[I.len];exact M4)]) (.inl hx)
 have hv:m x=some u:=by
  rcases lk with⟨_,z⟩|⟨k,_⟩
  .exact z
  .have fE:X.env.kindOf x=some .local:=hx;rw[fE]at k;rcases k with k|k<;>cases k
 unfold unbindBehindTheSuite;refine wpAny_onRaise (wpAny_unbindName_local hx hn hv (by rw[I.ok.kind];rfl) fun h' u' B9 sb=>?_);have J:=I1.drop hN hi hl B9 sb;rw[List.set_set]at J;exact h _ J
theorem Inv.back{X:Cx}{A:Around}{xe:Value->Shared->Prop}{Zt:List (Addr×Obj)}{σ:St}{H:Hp}{s:Shared}(I:Inv ((X.un A).wish xe) Zt σ H s)(ok:X.Ok):Inv X Zt σ H s:=
 ⟨ok,I.os,I.bare,I.base,I.loc,I.cell,I.free,I.freeC,I.pin,I.hok,I.len⟩
def Bo(D:Ends)(i:Nat):Ends:={nx:=fun σ H=>D.nx (σ.set i none) H,rt:=D.rt,ct:=fun σ H=>D.ct (σ.set i none) H,bk:=fun σ H=>D.bk (σ.set i none) H}
def KJ(n i:Nat)(ok:Addr->Prop)(tb:(Addr->Addr->Hp->Prop)->TS)(th:TS):TS:=fun D σ H=>
 tb (fun a C H'=>ok C/\∀af:St,af.length=n->H' a=none->th (Bo D i) (af.set i (some (.ref a))) (upd H' a (.ext (excAt a C)))) D σ H
theorem Iu{X:Cx}{y n:Str}{Dc:Addr}{i:Nat}{np js pos:Pos}{body iL:List Stmt}{mE:Stmt}{tb:(Addr->Addr->Hp->Prop)->TS}{th:TS}(hm:X.mg y=some (.ref Dc))(hg:Gl X y)(hN:X.N.Nodup)(hi:X.N[i]?=some n)(hl:X.env.scope.names.lookup n=some .local)(hx:X.ex=[])(hs:X.stack=X.env::X.outer)
  (bP:∀Zt xe EX,uA (X.tr Zt xe) EX->PSs (X.tr Zt xe) body (tb EX)) (rS:∀v:Option Value,PSs ((X.un (X.A.mark v)).nox) (mE::iL) th) (eR:(y==("__debug__":Str))=false:=by decide):
  PS X (.Try body [.ExceptHandler (some (.Name y np)) (some n) (mE::iL) js] [] [] pos) (KJ X.N.length i (fun C=>CatchC X.K C Dc) tb th):=by
 intro Zt s σ H D I h;refine wpAny_Try_except ?_
 have W:uA (X.tr Zt fun e s₁=>wpAny (model X.prog X.w) X.A (noteFrame e X.env) (fun _ s₂=>wpAny (model X.prog X.w) X.A (setFlight e none) (fun _ s₃=>wpAny (model X.prog X.w) X.A (handleBy e X.env [.ExceptHandler (some (.Name y np)) (some n) (mE::iL) js]) (SP X Zt D) X.xe s₃) X.xe s₂) X.xe s₁)
   (fun a C H'=>CatchC X.K C Dc/\∀af:St,af.length=X.N.length->H' a=none->th (Bo D i) (af.set i (some (.ref a))) (upd H' a (.ext (excAt a C)))):=by
  intro bE pS H1 s1 a C M5 I1 fl na fa ft hp q;obtain⟨Z,q⟩:=q;have J:=I1.untr;have eB:X.A.frames=some (X.env::X.outer):=by rw[<-hs];exact J.ok.frames
  have cn:s1.heap.FunFrames X.base (X.env::X.outer):=by rw[<-hs];exact J.stack
  have jv:X.env.frame=some X.env.locals:=by
   rcases J.ok.stk with z|z
   .exact absurd (congrArg List.length (hs.symm.trans z)) Zy
   .exact z.2
  have nK:∀p∈X.pn++Zt,p.1≠a/\M5≠.ref p.1:=fun p gT=>hp p (List.mem_append_left _ gT);show wpAny (model X.prog X.w) X.A (noteFrame (.ref a) X.env) _ X.xe s1;refine xj eB cn jv fl fun h' T nT cq k1 k2 k3=>?_;have J2:Inv X Zt pS H1 {s1 with heap:=h'}:=J.left (t':=s1.toks) hx fl na fa ft nK (by rw[hs];exact k1) k2 k3
  have tf:∀T',Value.ref T=.ref T'->X.s₀.heap.get? T'=none/\H1 T'=none:=fun T' z=>by
   cases z;exact⟨J.was hx nT,J.hok.no nT⟩
  have CY:∀p∈X.pn++Zt,p.1≠a/\Value.ref T≠.ref p.1:=fun p gT=>⟨(nK p gT).1,fun z=>by
   cases z;obtain⟨e,_⟩:=J.pin p gT;rw[nT]at e
   cases e⟩
  obtain⟨oe,vs,he,hc,hd,_,fx⟩:=cq.obj
  have inst:excAt a C h':=⟨oe,vs,he,hc,hd,fx⟩
  refine wpAny_handleBy_cons (codeAny_handlers_test ?_) (by intro q;cases q);have J4:=J2.un' (X.A.mark (some (.ref a))) rfl;refine jt (X:=X.un (X.A.mark (some (.ref a)))) J4 hg hm ?_ eR;obtain⟨ox,ix⟩:=inst.inst;refine uC (s:={s1 with heap:=h'}) J2.kIn ix Z ?_;show codeAny _ _ (.handlers (.ref a) [.ExceptHandler none (some n) (mE::iL) js] X.env) _ _;refine codeAny_handlers_suite_as ?_;refine zj (s:={s1 with heap:=h'}) cq fun h2 Dx j1 j2=>?_;have J5:Inv X Zt pS H1 {s1 with heap:=h2}:=J2.left (t':=s1.toks) hx cq na fa tf CY (fun b o e _ hb _=>j1 b o e hb) (fun b o e _ hb=>⟨o.slots,j1 b o e hb⟩) j2;obtain⟨M6,DA,M7,kx,hd2,_,DB⟩:=Dx.obj
  have yi:excAt a C h2:=⟨M6,DA,M7,kx,hd2,DB⟩
  have M8:a≠X.env.locals:=by
   obtain⟨m,⟨o,es,ep,ho,nV,_⟩,_⟩:=J5.loc;exact Ne.symm (Dx.ne ho fun vs q=>by rw[nV]at q;cases q).1
  have M9:∀x c,X.env.cells.lookup x=some c->c≠a:=fun x c e=>by
   obtain⟨v,o,ho,nV⟩:=J5.cell x c e;exact(Dx.ne ho fun vs q=>by rw[nV]at q;cases q).1
  have J6:=J5.track (o:=.ext (excAt a C)) hx fa na M8 M9 (fun p gT=>(nK p gT).1) (excAt.ok yi);refine jr (v:=.ref a) J6 hN hi (.inl hl) rfl (fun s6 I6 _=>?_) (.inr hl);have hw:=q pS J.len fa;refine wpAny_mono (rS (some (.ref a)) Zt s6 _ _ (Bo D i) ((I6.un' (X.A.mark (some (.ref a))) rfl).wish _) hw) (fun f s7 sp=>?_) fun e s' z=>z.elim;show wpAny (model X.prog X.w) X.A (do bindName X.env n .none;unbindBehindTheSuite X.env n js) (fun _ s₃=>SP X Zt D f s₃) X.xe s7
  cases f with
  |ret u=>
   obtain⟨v,af,H',K',rv,qq⟩:=sp
   exact jA (K'.back J.ok) hN hi hl fun s' K2=>⟨v,_,H',K2,rv,qq⟩
  |next=>
   obtain⟨af,H',K',qq⟩:=sp
   exact jA (K'.back J.ok) hN hi hl fun s' K2=>⟨_,H',K2,qq⟩
  |brk=>
   obtain⟨af,H',K',qq⟩:=sp
   exact jA (K'.back J.ok) hN hi hl fun s' K2=>⟨_,H',K2,qq⟩
  |cont=>
   obtain⟨af,H',K',qq⟩:=sp
   exact jA (K'.back J.ok) hN hi hl fun s' K2=>⟨_,H',K2,qq⟩
 have hb:=bP Zt _ _ W [] s σ H D (I.tr _) h;refine wpAny_mono hb (fun f s1 sp=>?_) fun e s1 z=>z
 cases f with
 |ret u=>
  obtain⟨v,af,H',K',rv,qq⟩:=sp;exact⟨v,af,H',K'.untr,rv,qq⟩
 |next=>
  obtain⟨af,H',K',qq⟩:=sp;exact wpAny_execs_nil ⟨af,H',K'.untr,qq⟩
 |brk=>
  obtain⟨af,H',K',qq⟩:=sp;exact⟨af,H',K'.untr,qq⟩
 |cont=>
  obtain⟨af,H',K',qq⟩:=sp;exact⟨af,H',K'.untr,qq⟩
theorem uD(a b:Bool):MeetsSeq.EqGives (.bool a) (.bool b) (a==b):=fun prog w A E s Q h=>PySem.SeqAt.EqAt.bool_bool (A:=A) (s:=s) a b prog w E Q h
def isB(k:Bool):Value->Bool
 |.bool n=>n==k
 |_=>false
theorem uE(bs:List Bool)(k:Bool):((bs.map Value.bool).toArray.toList.countP (isB k))=bs.count k:=by
 rw[List.toList_toArray,List.countP_map];rfl
inductive RCountBI(x:V)(vs:List V)(H:Hp)(Q:VK):Prop
 |mk:∀(l:Addr) (bs:List Bool) (k:Bool),(x=.ref l)->(vs=[.bl k])->(H l=some (.lst (bs.map V.bl)))->(Q (.int (bs.count k:Nat)) H)->RCountBI  x vs H Q
def rY:V->List V->Hp->VK->Prop:=fun x vs H Q=>RCountBI  x vs H Q
section
variable{X:Cx}
theorem zm:MtM X "list.count" rY:=by
 intro Zt s σ H x vs v us Q I rx rv h;obtain⟨l,bs,k,rfl,rfl,hH,q⟩:=h;cases rx;obtain⟨u,rfl,ru⟩:=vals1 rv;cases(show u=Value.bool k from ru);obtain⟨z,Zr,n,r,hl,e⟩:=I.lstM hH;have ei:Zr=bs.map Value.bool:=iM r;subst ei;refine call_meets F.slot_list_count ⟨_,e,rfl⟩ F.entry_list_count (F.args_list_count_2 _ _) (MeetsSeq.list_count l (bs.map Value.bool).toArray n (.bool k) (isB k) (fun y hy=>?_)) ⟨e,?_⟩
 .obtain⟨b,_,rfl⟩:=List.mem_map.mp (show y∈bs.map Value.bool by simpa using hy);exact uD b k
 .refine⟨.int (bs.count k:Nat),H,I.tok _,⟨s.toks,?_⟩,q⟩;rw[uE]
inductive RIndexBI(x:V)(vs:List V)(H:Hp)(Q:VK):Prop
 |mk:∀(l:Addr) (bs:List Bool) (k:Bool) (j:Nat),(x=.ref l)->(vs=[.bl k])->(H l=some (.lst (bs.map V.bl)))->(bs[j]?=some k)->((∀i,i<j->bs[i]?≠some k))->(Q (.int j) H)->RIndexBI  x vs H Q
def rZ:V->List V->Hp->VK->Prop:=fun x vs H Q=>RIndexBI  x vs H Q
theorem zq:MtM X "list.index" rZ:=by
 intro Zt s σ H x vs v us Q I rx rv h;obtain⟨l,bs,k,j,rfl,rfl,hH,hj,Ct,q⟩:=h;cases rx;obtain⟨u,rfl,ru⟩:=vals1 rv;cases(show u=Value.bool k from ru);obtain⟨z,Zr,n,r,hl,e⟩:=I.lstM hH;have ei:Zr=bs.map Value.bool:=iM r;subst ei;rw[zA1]at z;rw[sizeLine_eq]at z;have Na:=(zAa.mp hj).1
 have gt:∀m (hm:m<(bs.map Value.bool).toArray.size),(bs.map Value.bool).toArray[m]=Value.bool (bs[m]'(by simpa using hm)):=fun m hm=>by simp
 refine call_meets F.slot_list_index ⟨_,e,rfl⟩ F.entry_list_index (F.args_list_index_2 _ _) (MeetsSeq.list_index l (bs.map Value.bool).toArray n (.bool k) (isB k) (fun y hy=>?_) j (by simpa using Na) Zz ?_ fun m hm aE=>?_) ⟨e,⟨.int j,H,I.tok _,⟨_,rfl⟩,q⟩⟩
 .obtain⟨b,_,rfl⟩:=List.mem_map.mp (show y∈bs.map Value.bool by simpa using hy);exact uD b k
 .rw[gt,(zAa.mp hj).2];exact beq_self_eq_true k
 .rw[gt];refine beq_false_of_ne fun c=>Ct m aE ?_;rw[List.getElem?_eq_getElem (by simpa using hm),c]
end
def er(H:Hp)(cs:List (Addr×Obj)):Hp:=fun b=>if(cs.lookup b).isSome=true then none else H b
def fz(H:Hp)(cs:List (Addr×Obj)):Hp:=fun b=>match cs.lookup b with
 |some o=>some (.frz o (.ext fun _=>True))
 |none=>H b
section
variable{P:Program}{w:World}{H H':Hp}{h h':Heap}{cs:List (Addr×Obj)}{fs:List Addr}
theorem qz{b:Addr}{o:Obj}(e:cs.lookup b=some o):fz H cs b=some (.frz o (.ext fun _=>True)):=by unfold fz;rw[e]
theorem dB{b:Addr}(e:cs.lookup b=none):fz H cs b=H b:=by unfold fz;rw[e]
theorem lq{b:Addr}{o:Obj}(e:cs.lookup b=some o):er H cs b=none:=by unfold er;rw[e];rfl
theorem fO{b:Addr}(e:cs.lookup b=none):er H cs b=H b:=by unfold er;rw[e];rfl
def Loose(H:Hp)(h:Heap)(fs:List Addr)(cs:List (Addr×Obj)):Prop:=∀b o,cs.lookup b=some o->h.get? b=some o/\H b=none/\b∉fs
theorem Loose.no{b:Addr}{u:HO}(L:Loose H h fs cs)(e:H b=some u):cs.lookup b=none:=by
 cases q:cs.lookup b with
 |none=>rfl
 |some o=>
  rw[(L b o q).2.1]at e;cases e
theorem HOk.fz(x:HOk P w H h)(L:Loose H h fs cs):HOk P w (L2.fz H cs) h:=fun b u e=>by
 cases q:cs.lookup b with
 |some o=>
  rw[qz q]at e;cases e;have g:=(L b o q).1;exact⟨g,trivial,⟨o,g⟩,fun _ _ _ _=>trivial⟩
 |none=>
  rw[dB q]at e
  exact(x b u e).stay (fun _ _ _ z=>z) (fun c z=>by rw[dB (L.no z)];exact z) fun c xs z=>by rw[dB (L.no z)];exact z
theorem HOk.er(x:HOk P w H' h')(fr:∀b o,cs.lookup b=some o->H' b=some (.frz o (.ext fun _=>True))):HOk P w (L2.er H' cs) h':=fun b u e=>by
 cases q:cs.lookup b with
 |some o=>
  rw[lq q]at e;cases e
 |none=>
  rw[fO q]at e
  have no:∀c u,(∀o,u≠HO.frz o (.ext fun _=>True))->H' c=some u->cs.lookup c=none:=fun c u hu z=>by
   cases q:cs.lookup c with
   |none=>rfl
   |some o=>
    rw[fr c o q]at z;cases z;exact absurd rfl (hu o)
  exact(x b u e).stay (fun _ _ _ z=>z) (fun c z=>by rw[fO (no c _ (fun o y=>by cases y) z)];exact z) fun c xs z=>by rw[fO (no c _ (fun o y=>by cases y) z)];exact z
theorem Un.held(u:Un fs [] (fz H cs) H' h h')(ok:HOk P w H' h')(L:Loose H h fs cs):Un fs [] H (er H' cs) h h'/\HOk P w (er H' cs) h'/\∀b o,cs.lookup b=some o->h'.get? b=some o:=by
 have fr:∀b o,cs.lookup b=some o->H' b=some (.frz o (.ext fun _=>True)):=fun b o q=>u.frzs b o _ (qz q);have kp:∀b o,cs.lookup b=some o->h'.get? b=some o:=fun b o q=>(ok b _ (fr b o q)).1
 have no:∀c v,(∀o,v≠HO.frz o (.ext fun _=>True))->H' c=some v->cs.lookup c=none:=fun c v hv z=>by
  cases q:cs.lookup c with
  |none=>rfl
  |some o=>
   rw[fr c o q]at z;cases z;exact absurd rfl (hv o)
 refine⟨⟨fun b o e n hb hx=>?_,fun b o e n hb hx=>?_,fun b o e n hx=>?_,u.there,fun b xs e=>?_,fun b o v e=>?_,fun b ps e=>?_⟩,ok.er fr,kp⟩
 .cases q:cs.lookup b with
  |some o'=>
   have:=(L b o' q).1;rw[e]at this;cases this;exact kp b o q
  |none=>exact u.keep b o e (by rw[dB q];exact n) hb hx
 .cases q:cs.lookup b with
  |some o'=>exact absurd hb (L b o' q).2.2
  |none=>exact u.slot b o e (by rw[dB q];exact n) hb hx
 .cases q:cs.lookup b with
  |some o'=>exact lq q
  |none=>
   rw[fO q];exact u.free b o e (by rw[dB q];exact n) hx
 .have z:=u.tups b xs (by rw[dB (L.no e)];exact e);rw[fO (no b _ (fun o y=>by cases y) z)];exact z
 .have z:=u.frzs b o v (by rw[dB (L.no e)];exact e);rw[fO (L.no e)];exact z
 .obtain⟨m,z⟩:=u.tbls b ps (by rw[dB (L.no e)];exact e);exact⟨m,by rw[fO (L.no e)];exact z⟩
theorem Un.loose{H1:Hp}(u:Un fs [] (er H cs) H1 h h')(ok:HOk P w H1 h')(yn:HOk P w H h)(fr:∀b o,cs.lookup b=some o->H b=some (.frz o (.ext fun _=>True))/\b∉fs):Un fs [] H (fz H1 cs) h h'/\HOk P w (fz H1 cs) h':=by
 have tJ:∀b o,cs.lookup b=some o->h.get? b=some o:=fun b o q=>(yn b _ (fr b o q).1).1;have kp:∀b o,cs.lookup b=some o->h'.get? b=some o:=fun b o q=>u.keep b o (tJ b o q) (lq q) (fr b o q).2 Zy;have nn:∀b o,cs.lookup b=some o->H1 b=none:=fun b o q=>u.free b o (tJ b o q) (lq q) Zy
 have no:∀c v,(∀o,v≠HO.frz o (.ext fun _=>True))->H c=some v->cs.lookup c=none:=fun c v hv z=>by
  cases q:cs.lookup c with
  |none=>rfl
  |some o=>
   rw[(fr c o q).1]at z;cases z;exact absurd rfl (hv o)
 refine⟨⟨fun b o e n hb hx=>?_,fun b o e n hb hx=>?_,fun b o e n hx=>?_,u.there,fun b xs e=>?_,fun b o v e=>?_,fun b ps e=>?_⟩,ok.fz (fs:=fs) fun b o q=>⟨kp b o q,nn b o q,(fr b o q).2⟩⟩
 .cases q:cs.lookup b with
  |some o'=>
   rw[(fr b o' q).1]at n;cases n
  |none=>exact u.keep b o e (by rw[fO q];exact n) hb hx
 .cases q:cs.lookup b with
  |some o'=>exact absurd hb (fr b o' q).2
  |none=>exact u.slot b o e (by rw[fO q];exact n) hb hx
 .cases q:cs.lookup b with
  |some o'=>
   rw[(fr b o' q).1]at n;cases n
  |none=>
   rw[dB q];exact u.free b o e (by rw[fO q];exact n) hx
 .have q:=no b _ (fun o y=>by cases y) e;rw[dB q];exact u.tups b xs (by rw[fO q];exact e)
 .cases q:cs.lookup b with
  |some o'=>
   have z:=(fr b o' q).1;rw[e]at z;cases z;exact qz q
  |none=>
   rw[dB q];exact u.frzs b o v (by rw[fO q];exact e)
 .have q:=no b _ (fun o y=>by cases y) e;obtain⟨m,z⟩:=u.tbls b ps (by rw[fO q];exact e);exact⟨m,by rw[dB q];exact z⟩
end
def nA(fd:FuncData)(fl L:Addr):Env:=newEnv fd.scope L fd.globals fd.closure (fd.qualname++".<locals>.") (some fl) fd.code none fd.builtins
def cxL(P:Program)(w:World)(K:Frag)(mg:Str->Option Value)(base:Heap)(N:List Str)(fd:FuncData)(fl:Addr)(A:Around)(outer:List Env)(s:Shared)(H:Hp)(E:XK):Cx where
 prog:=P
 w:=w
 K:=K
 mg:=mg
 base:=base
 A:=A.deeper (nA fd fl s.heap.objs.size)
 N:=N
 s₀:=s
 H₀:=H
 env:=nA fd fl s.heap.objs.size
 outer:=outer
 stack:=nA fd fl s.heap.objs.size::outer
 ex:=[]
 calm:=true
 fn:=fun _=>false
 pn:=[]
 xe:=fun e s'=>wpAny (model P w) (A.deeper (nA fd fl s.heap.objs.size)) (leaving (nA fd fl s.heap.objs.size) e) (fun _ dy=>CX1 P w outer H s E e dy) (fun e' dy=>CX1 P w outer H s E e' dy) s'
structure LamAt(fd:FuncData)(body:Expr)(N:List Str):Prop where
 bd:fd.body=.expr body
 gl:fd.globals=mainGlobals
 bl:fd.builtins=builtinsNs
 kd:fd.scope.kind=.function
 co:fd.scope.isCoroutine=false
 ge:fd.scope.isGenerator=false
 fr:∀p∈fd.scope.names,p.2≠.cell
 fl:∀x,fd.scope.names.lookup x=some .free->∃c,fd.closure.lookup x=some c
 nd:∀x y c,fd.closure.lookup x=some c->fd.closure.lookup y=some c->x=y
 ba:bindArgs fd ⟨[],[]⟩=pure []
 nm:∀x∈N,fd.scope.names.lookup x=some .free
theorem Fi{P:Program}{w:World}{K:Frag}{mg:Str->Option Value}{base:Heap}{N:List Str}{fd:FuncData}{fl:Addr}{A:Around}{outer:List Env}{s:Shared}{H:Hp}{E:XK}{body:Expr}{vs:List V}{h1:Heap}{tk:Nat}
  (Z:LamAt fd body N) (hd:A.handled=none) (e0:Env0 P w K mg base A outer s H) (hn:h1.Ns s.heap.objs.size fun x=>([]:List (Str×Value)).reverse.lookup x) (hk:∀b o,s.heap.get? b=some o->h1.get? b=some o)
  (cell:∀x c,fd.closure.lookup x=some c->H c=none/\∃v,s.heap.IsCell c v) (val:∀(i:Nat) (x:Str) (v:V),N[i]?=some x->vs[i]?=some v->∃c u,fd.closure.lookup x=some c/\RelV v u/\s.heap.IsCell c (some u)) (hl:vs.length=N.length):
  Inv (cxL P w K mg base N fd fl A outer s H E) [] (vs.map some) H {s with heap:=h1,toks:=tk}:=by
 have ck:∀c v,s.heap.IsCell c v->h1.IsCell c v:=fun c v ⟨o,ho,z⟩=>⟨o,hk c o ho,z⟩
 refine⟨⟨e0.mod,Z.kd,Z.gl,Z.bl,Nat.le_refl _,Z.nd,fun x hx=>?_,fun x c z=>(by cases z),fun _=>hd,Around.frames_deeper e0.frames,.inr ⟨rfl,rfl⟩,fun b z=>absurd (show b∈([]:List Addr)from z) Zy,e0.bs,e0.bsz,fun b _ _ z=>absurd (show b∈([]:List Addr)from z) Zy,fun b z=>absurd (show b∈([]:List Addr)from z) Zy,e0.funs,e0.frf⟩,
  rfl,e0.bare,Un.kept hk,⟨_,hn,fun i x v e1 e2 e3=>?_⟩,fun x c e=>?_,e0.hok.fresh (Nat.le_refl _),fun x c e=>(cell x c e).1,fun p hp=>absurd (show p∈([]:List (Addr×Obj))from hp) Zy,e0.hok.kept hk,by rw[List.length_map];exact hl⟩
 .rcases hx with hx|hx
  .exact absurd rfl (Z.fr _ (PySem.mem_of_lookup (show fd.scope.names.lookup x=some .cell from hx)))
  .exact Z.fl x hx
 .rw[zAb]at e2
  cases q:vs[i]? with
  |none=>rw[q]at e2;cases e2
  |some v'=>
   rw[q]at e2;have e2:v'=v:=by simpa using e2
   subst e2;obtain⟨c,u,ec,r,z⟩:=val i x v' e1 q;exact⟨u,r,.inr ⟨.inr (Z.nm x (zB6 e1)),c,ec,ck c _ z⟩⟩
 .obtain⟨_,v,z⟩:=cell x c e;exact⟨v,ck c v z⟩
theorem uF{P:Program}{w:World}{K:Frag}{mg:Str->Option Value}{base:Heap}{N:List Str}{fd:FuncData}{fl:Addr}{A:Around}{outer:List Env}{s:Shared}{H:Hp}{E:XK} :
  uA (cxL P w K mg base N fd fl A outer s H E) fun a C H'=>E (.ref a) (some C) H':=by
 intro Zt σ H' s' a C tb I DC na fa ft _ q;show wpAny (model P w) (A.deeper (nA fd fl s.heap.objs.size)) (leaving (nA fd fl s.heap.objs.size) (.ref a)) (fun _ dy=>CX1 P w outer H s E (.ref a) dy) (fun e' dy=>CX1 P w outer H s E e' dy) s';have cn:s'.heap.FunFrames base (nA fd fl s.heap.objs.size::outer):=I.stack;have eB:(A.deeper (nA fd fl s.heap.objs.size)).frames=some (nA fd fl s.heap.objs.size::outer):=I.ok.frames;have jv:(nA fd fl s.heap.objs.size).frame=some s.heap.objs.size:=rfl;have ub:Un (frs outer) [] H H' s.heap s'.heap:=I.base;have na:s.heap.get? a=none:=na;have ft:∀T,tb=.ref T->s.heap.get? T=none/\H' T=none:=ft;refine uz eB cn jv DC fun h' T nT cq k1 k2 k3=>?_
 have apart:∀b o,s.heap.get? b=some o->b≠a/\tb≠.ref b:=fun b o e=>⟨fun z=>(by rw[z,na]at e;cases e),fun z=>(by rw[(ft b z).1]at e;cases e)⟩
 have xI:∀b o,s.heap.get? b=some o->b∉frs outer->b∉frs (nA fd fl s.heap.objs.size::outer):=fun b o e hn hm=>by
  unfold frs at hm;rw[List.filterMap_cons,jv]at hm;rcases zAo.mp hm with z|z
  .exact absurd (zAz e) (by rw[z];exact Nat.lt_irrefl _)
  .exact hn z
 refine⟨a,C,H',T,rfl,I.os,I.bare,⟨fun b o e n hb _=>?_,fun b o e n hb _=>?_,ub.free,fun b o e hx=>?_,ub.tups,ub.frzs,ub.tbls⟩,fun c o e=>?_,na,?_,fa,I.hok.no nT,cq,q⟩
 .exact k1 b o (ub.keep b o e n hb Zy) (apart b o e).1 (apart b o e).2 (xI b o e hb)
 .obtain⟨sl,e1⟩:=ub.slot b o e n hb Zy;obtain⟨fN,e2⟩:=k2 b _ e1 (apart b o e).1 (apart b o e).2;exact⟨fN,e2⟩
 .obtain⟨o',e1⟩:=ub.there b o e hx;exact k3 b o' e1
 .refine(I.hok c o e).stay (fun d v hd z=>?_) (fun _ z=>z) fun _ _ z=>z
  have mB:∃o',H' d=some o':=by
   rcases hd with z|z
   .exact⟨o,by rw[z];exact e⟩
   .exact⟨_,z⟩
  obtain⟨o',eo⟩:=mB;refine k1 d v z (fun y=>(by rw[y,fa]at eo;cases eo)) (fun y=>(by rw[(ft d y).2]at eo;cases eo)) fun hm=>?_;rw[I.stkFree d hm]at eo;cases eo
 .exact I.was rfl nT
abbrev NoC(cs:List (Addr×Obj))(H:Hp):Prop:=∀b o,cs.lookup b=some o->H b=none
theorem CX1.loose{P:Program}{w:World}{outer:List Env}{H:Hp}{s s':Shared}{E:XK}{e:Value}{cs:List (Addr×Obj)}(yn:HOk P w H s.heap)(fr:∀b o,cs.lookup b=some o->H b=some (.frz o (.ext fun _=>True))/\b∉frs outer)
  (x:CX1 P w outer (er H cs) s (fun e C H1=>NoC cs H1->E e C (fz H1 cs)) e s'):CX1 P w outer H s E e s':=by
 obtain⟨a,C,H1,T,rfl,os,bare,un,ok,na,nT,fa,fT,DC,q⟩:=x;obtain⟨u,k⟩:=un.loose ok yn fr
 have no:∀b,s.heap.get? b=none->cs.lookup b=none:=fun b z=>by
  cases y:cs.lookup b with
  |none=>rfl
  |some o=>
   have:=(yn b _ (fr b o y).1).1;rw[z]at this;cases this
 exact⟨a,C,_,T,rfl,os,bare,u,k,na,nT,by rw[dB (no a na)];exact fa,by rw[dB (no T nT)];exact fT,DC,q fun b o z=>un.free b o (yn b _ (fr b o z).1).1 (lq z) Zy⟩
theorem Fj{P:Program}{w:World}{K:Frag}{mg:Str->Option Value}{base:Heap}{N:List Str}{fd:FuncData}{fl:Addr}{ob:Obj}{A:Around}{outer:List Env}{s:Shared}{H:Hp}{Q:VK}{E:XK}{body:Expr}{vs:List V}{cs:List (Addr×Obj)}{te:TE}{k:Nat}
  (Z:LamAt fd body N) (hr:Room k A) (e0:Env0 P w K mg base A outer s H) (yA:s.heap.get? fl=some ob) (nV:ob.data=.func fd) (cb:s.heap.CodeRec fd.code fd.qualname)
  (fr:∀b o,cs.lookup b=some o->H b=some (.frz o (.ext fun _=>True))/\b∉frs outer) (cell:∀x c,fd.closure.lookup x=some c->∃o v,cs.lookup c=some o/\o.data=.cell v)
  (val:∀(i:Nat) (x:Str) (v:V),N[i]?=some x->vs[i]?=some v->∃c u o,fd.closure.lookup x=some c/\RelV v u/\cs.lookup c=some o/\o.data=.cell (some u)) (hl:vs.length=N.length)
  (mv:PE (cxL P w K mg base N fd fl A outer s (er H cs) (fun e C H1=>NoC cs H1->E e C (fz H1 cs))) body te) (h:te (vs.map some) (er H cs) fun v H1=>NoC cs H1->Q v (fz H1 cs)):
  codeAny (model P w) A (.call (.ref fl) ⟨[],[]⟩) (CR (CX1 P w) outer P w H s Q E) s:=by
 have tJ:∀b o,cs.lookup b=some o->s.heap.get? b=some o:=fun b o q=>(e0.hok b _ (fr b o q).1).1
 have HP:∀b,H b=none->er H cs b=none:=fun b z=>by
  cases q:cs.lookup b with
  |some o=>exact lq q
  |none=>rw[fO q];exact z
 have e1:Env0 P w K mg base A outer s (er H cs):=⟨e0.frames,e0.mod,fun b o e=>⟨(e0.bs b o e).1,HP b (e0.bs b o e).2⟩,e0.bsz,e0.funs,fun b hb=>HP b (e0.frf b hb),e0.hok.er fun b o q=>(fr b o q).1,e0.bare⟩
 refine kla_callFunE (by have:=hr.dp;lia) yA nV Z.co Z.ge Z.bd cb ?_;rw[Z.ba];refine wpAny_pure (wpAny_newFunctionEnv Z.fr (fun x hx=>absurd hx Zy) (fun h1 hn sb=>?_) Z.kd);have hk:∀b o,s.heap.get? b=some o->h1.get? b=some o:=fun b o e=>(sb.2 b (Nat.ne_of_lt (Heap.lt_size e))).trans (Heap.get?_push_of_some _ e);refine⟨(e0.mod.nolimit.keeps fun b o e=>(e0.bs b o e).1).keeps hk,?_⟩;have I:=Fi (fl:=fl) (E:=fun e C H1=>NoC cs H1->E e C (fz H1 cs)) (tk:=s.toks+0) Z hr.hd e1 hn hk (fun x c e=>(let⟨o,v,q,d⟩:=cell x c e;⟨lq q,v,o,tJ c o q,d⟩)) (fun i x v e1 e2=>(let⟨c,u,o,a1,a2,a3,a4⟩:=val i x v e1 e2;⟨c,u,a1,a2,o,tJ c o a3,a4⟩)) hl;refine kla_codeExpr (wpAny_mono (mv [] _ _ _ _ I h) (fun u s' hv=>?_) fun e s' hx=>?_)
 .obtain⟨v,H1,J,r,q⟩:=hv;obtain⟨un,k⟩:=Un.loose (fs:=frs outer) J.base J.hok e0.hok fr;exact⟨v,fz H1 cs,J.os,J.bare,un,k,r,q fun b o z=>Un.free (fs:=frs outer) (ex:=[]) J.base b o (tJ b o z) (lq z) Zy⟩
 .exact wpAny_mono hx (fun _ dy z=>CX1.loose e0.hok fr z) fun e' dy z=>CX1.loose e0.hok fr z
abbrev held(o:Obj):HO:=.frz o (.ext fun _=>True)
structure LamObj(H:Hp)(fl:Addr)(fd:FuncData):Prop where
 ob:∃o,H fl=some (held o)/\o.data=.func fd
 cd:∃c oc vs t,fd.code=.ref c/\H c=some (held oc)/\oc.data=.fields vs/\vs[1]?=some (.str fd.qualname t)
def Iv(X:Cx)(i:Nat)(E:XK):TE:=fun σ H Q=>∃(fl:Addr) (fd:FuncData) (body:Expr) (N:List Str) (vs:List V) (cs:List (Addr×Obj)) (te:TE),σ[i]?=some (some (.ref fl))/\LamObj H fl fd/\LamAt fd body N/\(∀b o,cs.lookup b=some o->H b=some (held o))/\(∀x c,fd.closure.lookup x=some c->∃o v,cs.lookup c=some o/\o.data=.cell v) /\
 (∀(i:Nat) (x:Str) (v:V),N[i]?=some x->vs[i]?=some v->∃c u o,fd.closure.lookup x=some c/\RelV v u/\cs.lookup c=some o/\o.data=.cell (some u))/\vs.length=N.length /\
 (∀s,PE (cxL X.prog X.w X.K X.mg X.base N fd fl X.A X.stack s (er H cs) (fun e C H1=>NoC cs H1->E e C (fz H1 cs))) body te)/\te (vs.map some) (er H cs) fun v H1=>NoC cs H1->Q v (fz H1 cs)
theorem Iw{X:Cx}{i k:Nat}{x:Str}{p pos:Pos}{E:XK}(hr:Room k X.A)(hN:X.N[i]?=some x)(hv:Vis X.env.scope x)(W:uA X fun a C H=>E (.ref a) (some C) H)(hx:X.ex=[])(hd:(x==("__debug__":Str))=false:=by decide)(cb:(x==("__classdict__":Str))=false:=by decide):
  PE X (.Call (.Name x p) [] [] pos) (Iv X i E):=by
 intro Zt s σ H Q I h;obtain⟨fl,fd,body,N,vs,cs,te,DD,L,Z,fr,cell,val,hl,mv,q⟩:=h;obtain⟨o,ho,nV⟩:=L.ob;have yA:s.heap.get? fl=some o:=(I.hok fl _ ho).1;refine wpAny_Call_Name_kw (thn (vp (pos:=p) hN hv hd cb Zt s σ H (fun v H'=>v=.ref fl/\H'=H) I ⟨_,DD,rfl,rfl⟩) fun f s1 ⟨v,H1,I1,r1,z1,z2⟩=>?_);subst z1 z2;cases(show f=Value.ref fl from r1);have yA:s1.heap.get? fl=some o:=(I1.hok fl _ ho).1;refine callWith_F0 (by obtain⟨oc,od,dt,sl⟩:=o;exact⟨oc,od,fd,sl,by rw[yA];exact congrArg some (by rw[show dt=Data.func fd from nV])⟩) ?_;obtain⟨c,oc,ws,t,ec,hc,DE,hw⟩:=L.cd
 have Nb:s1.heap.CodeRec fd.code fd.qualname:=⟨c,oc,ws,t,ec,(I1.hok c _ hc).1,DE,hw⟩
 refine wpAny_call (codeAny_mono (Fj (k:=k) Z hr I1.env0 yA nV Nb (fun b ob e=>⟨fr b ob e,fun hm=>?_⟩) cell val hl (mv s1) q) fun r s' hq=>?_)
 .have:=I1.stkFree b hm;rw[fr b ob e]at this;cases this
 .cases r with
  |error e=>exact GJ W hx Zt σ _ s1 e s' I1 hq
  |ok cq=>
   cases cq with
   |ret u=>exact I1.after hq
   |next=>exact False.elim hq
   |brk=>exact False.elim hq
   |cont=>exact False.elim hq
def Bp(H:Hp)(c:Addr)(q:Str):Prop:=∃oc vs t,H c=some (held oc)/\oc.data=.fields vs/\vs[1]?=some (.str q t)
def TabOk(H:Hp)(P:Addr)(q:Str):Prop:=∃ps,H P=some (.tbl ps)/\TriplesOk ps.toList/\∀l:Pos,codeAmong l ps.toList=none\/∃c,codeAmong l ps.toList=some (.ref c)/\Bp H c q
theorem TabOk.keep{H H':Hp}{P:Addr}{q:Str}(x:TabOk H P q)(kp:∀ps,H P=some (.tbl ps)->H' P=some (.tbl ps))(kh:∀b o,H b=some (held o)->H' b=some (held o)):TabOk H' P q:=by
 obtain⟨ps,e,t,h⟩:=x;refine⟨ps,kp ps e,t,fun l=>?_⟩;rcases h l with z|⟨c,z,oc,vs,t',y,r⟩
 .exact .inl z
 .exact .inr ⟨c,z,oc,vs,t',kh _ _ y,r⟩
theorem TabOk.same{H H':Hp}{P:Addr}{q:Str}(x:TabOk H P q)(s:Same H H'):TabOk H' P q:=x.keep (fun _=>s _ _) fun _ _=>s _ _
theorem zr{l:Pos}{r:List Value}:∀(a:List Value),TriplesOk a->codeAmong l (a++r)=(codeAmong l a).orElse fun _=>codeAmong l r:=fun a h=>by
 fun_induction TriplesOk a with
 |case1=>simp[codeAmong]
 |case2 x t y u z rest ih=>
  simp only[List.cons_append,codeAmong];split
  .rfl
  .exact ih h
 |case3 a h1 h2=>exact h.elim
section
variable{P:Program}{w:World}{fs:List Addr}{H:Hp}{h h':Heap}{T c fl:Addr}{ps more:Array Value}{oc ob:Obj}
theorem sr{H:Hp}{h:Heap}{b:Addr}{o:Obj}(e:h.get? b=some o):ObjOk P w H h b (held o):=⟨e,trivial,⟨o,e⟩,fun _ _ _ _=>trivial⟩
theorem JW(hT:H T=some (.tbl ps))(ok:HOk P w H h)(k:∀b o,b≠T->h.get? b=some o->h'.get? b=some o)(hp:h'.get? T=some (tabObj (ps++more)))(hc:h.objs.size<=c)(hf:h.objs.size<=fl)(R1:c≠fl)(ec:h'.get? c=some oc)(ef:h'.get? fl=some ob):
  Un fs [] H (upd (upd (upd H T (.tbl (ps++more))) c (held oc)) fl (held ob)) h h'/\HOk P w (upd (upd (upd H T (.tbl (ps++more))) c (held oc)) fl (held ob)) h':=by
 have nc:=ok.fresh hc;have nf:=ok.fresh hf
 have lt:∀b u,H b=some u->b≠c/\b≠fl:=fun b u e=>⟨aA e nc,aA e nf⟩
 have yB:∀b u,b≠T->H b=some u->upd (upd (upd H T (.tbl (ps++more))) c (held oc)) fl (held ob) b=some u:=fun b u n e=>by
  rw[aq (lt b u e).2,aq (lt b u e).1,aq n];exact e
 have atT:upd (upd (upd H T (.tbl (ps++more))) c (held oc)) fl (held ob) T=some (.tbl (ps++more)):=by
  rw[aq (lt T _ hT).2,aq (lt T _ hT).1,aa]
 have old:∀b o,h.get? b=some o->b≠c/\b≠fl:=fun b o e=>⟨zB4 (zB2 (zAz e) hc),zB4 (zB2 (zAz e) hf)⟩
 refine⟨⟨fun b o e n _ _=>k b o (fun z=>(by rw[z,hT]at n;cases n)) e,fun b o e n _ _=>⟨o.slots,k b o (fun z=>(by rw[z,hT]at n;cases n)) e⟩,fun b o e n _=>?_,fun b o e _=>?_,fun b xs e=>yB b _ (fun z=>(by rw[z,hT]at e;cases e)) e,fun b o u e=>yB b _ (fun z=>(by rw[z,hT]at e;cases e)) e,fun b qs e=>?_⟩,fun b u e=>?_⟩
 .rw[aq (old b o e).2,aq (old b o e).1,aq fun z=>(by rw[z,hT]at n;cases n)];exact n
 .by_cases z:b=T
  .rw[z];exact⟨_,hp⟩
  .exact⟨o,k b o z e⟩
 .by_cases z:b=T
  .subst z;rw[hT]at e;cases e;exact⟨more,atT⟩
  .exact⟨#[],by rw[Array.append_empty];exact yB b _ z e⟩
 .by_cases z1:b=fl
  .subst z1;rw[aa]at e;cases e;exact sr ef
  .rw[aq z1]at e;by_cases z2:b=c
   .subst z2;rw[aa]at e;cases e;exact sr ec
   .rw[aq z2]at e;by_cases z3:b=T
    .subst z3;rw[aa]at e;cases e;exact hp
    .rw[aq z3]at e;refine(ok b u e).stay (fun d v hd q=>k d v (fun y=>?_) q) (fun d q=>yB d _ (fun y=>(by rw[y,hT]at q;cases q)) q) fun d xs q=>yB d _ (fun y=>(by rw[y,hT]at q;cases q)) q;subst y;rcases hd with y|y
     .exact z3 y.symm
     .rw[hT]at y;cases y
end
def tMk(T:Addr)(q:Str)(params:Arguments)(body:Expr)(scope:Scope)(cl:List (Str×Addr))(N:List Str):TE:=fun _ H Q=>TabOk H T q /\
 ∀fl pm cv ct H1,(∀b o,b≠T->H b=some o->H1 b=some o)->TabOk H1 T q->H fl=none->LamObj H1 fl (kla_fn "<lambda>" q params body scope cl pm cv ct)->LamAt (kla_fn "<lambda>" q params body scope cl pm cv ct) body N->Q (.ref fl) H1
structure LamTx(X:Cx)(params:Arguments)(body:Expr)(scope:Scope)(N:List Str):Prop where
 df:defaultsOf params X.env=([],[])
 kd:scope.kind=.function
 co:scope.isCoroutine=false
 ge:scope.isGenerator=false
 fr:∀p∈scope.names,p.2≠.cell
 fl:∀p∈scope.names,p.2=NameKind.free->X.env.kindOf p.1=some .cell\/X.env.kindOf p.1=some .free
 ba:∀qual cl pm cv ct,bindArgs (kla_fn "<lambda>" qual params body scope cl pm cv ct) ⟨[],[]⟩=pure []
 nm:∀x∈N,scope.names.lookup x=some .free
theorem Bq{X:Cx}{T cc:Addr}{params:Arguments}{body:Expr}{scope:Scope}{bq:Pos}{N:List Str}(Z:LamTx X params body scope N)(fe:X.env.code=.ref cc)(hC:CodeHd X.base cc T)(hB:X.base.BuiltinsAt X.mg T):
  PE X (.Lambda params body scope bq) (tMk T (X.env.qual++"<lambda>") params body scope (bY X.env.cells scope.names []) N):=by
 intro Zt s σ H Q I h;obtain⟨⟨ps,hT,tr,am⟩,q⟩:=h
 have hs:∀p∈scope.names,p.2=NameKind.free->(X.env.cells.lookup p.1).isSome=true:=fun p hp e=>by
  obtain⟨c,z⟩:=I.ok.has p.1 (Z.fl p hp e);rw[z];rfl
 have lam:∀qual pm cv ct,LamAt (kla_fn "<lambda>" qual params body scope (bY X.env.cells scope.names []) pm cv ct) body N:=fun qual pm cv ct=>
  ⟨rfl,rfl,rfl,Z.kd,Z.co,Z.ge,Z.fr,fun x hx=>jc _ _ (.inl ⟨_,PySem.mem_of_lookup hx,rfl⟩),fun x y c h1 h2=>by
   rcases iu _ _ hs h1 with z|z
   .cases z
   .rcases iu _ _ hs h2 with z2|z2
    .cases z2
    .exact I.ok.inj x y c z z2,Z.ba _ _ _ _ _,Z.nm⟩
 have hg:=I.mod.glob.keeps I.bk;have hP:s.heap.get? T=some (tabObj ps):=I.hok T _ hT
 have Nd:mainGlobals≠T:=fun z=>by
  obtain⟨o,es,ep,e,_⟩:=I.mod.glob;have:=(I.bs _ _ e).2;rw[z,hT]at this;cases this
 have hb:s.heap.BuiltinsAt X.mg T:=let⟨bm,o,b1,b2,b3,b4,b5,r⟩:=hB;⟨bm,o,b1,b2,b3,b4,I.bk _ _ b5,r⟩
 refine kla_eval Z.df ?_;rcases am bq with hn|⟨c,hf,oc,vs,t,hc,hd,hv⟩
 .refine kla_makeFunction (mg:=X.mg) (jY hs) I.ok.glob hg fe (hC.keeps I.bk) hP tr hn Nd hb fun c' mM h' tk hx Bi aE DF yT=>?_;obtain⟨c₂,oc,vs,t,e2,A3,hd,hv⟩:=DF;cases e2
  obtain⟨un,ok⟩:=JW (P:=X.prog) (w:=X.w) (fs:=frs X.stack) (h':=h'.push (kla_obj "<lambda>" (X.env.qual++"<lambda>") params body scope (bY X.env.cells scope.names []) ((X.mg "__name__").getD .none) c' mM)) (fl:=h'.objs.size) hT I.hok
   (fun b o n e=>zAv _ (hx b o n e)) (zAv _ yT) Bi (Nat.le_trans Bi (Nat.le_of_lt aE)) (zB4 aE) (zAv _ A3) (zB1 _ rfl)
  have J:=I.call (ch:=[]) (g':=s.gens) (t':=tk) (d':=s.drawn) un ok I.bare fun b z=>absurd z Zy;have nc:H c'=none:=I.hok.fresh Bi;have nf:H h'.objs.size=none:=I.hok.fresh (Nat.le_trans Bi (Nat.le_of_lt aE))
  have kp:∀b o,b≠T->H b=some o->upd (upd (upd H T (.tbl (ps++#[rawInt bq.line,rawInt bq.col,.ref c']))) c' (held oc)) h'.objs.size (held (kla_obj "<lambda>" (X.env.qual++"<lambda>") params body scope (bY X.env.cells scope.names []) ((X.mg "__name__").getD .none) c' mM)) b=some o:=fun b o n e=>by
   rw[aq (aA e nf),aq (aA e nc),aq n];exact e
  have cd:Bp (upd (upd (upd H T (.tbl (ps++#[rawInt bq.line,rawInt bq.col,.ref c']))) c' (held oc)) h'.objs.size (held (kla_obj "<lambda>" (X.env.qual++"<lambda>") params body scope (bY X.env.cells scope.names []) ((X.mg "__name__").getD .none) c' mM))) c' (X.env.qual++"<lambda>"):=
   ⟨oc,vs,t,by rw[aq (zB4 aE),aa],hd,hv⟩
  refine⟨.ref h'.objs.size,_,J,rfl,q _ ((X.mg "__name__").getD .none) (.ref c') mM _ kp ⟨ps++#[rawInt bq.line,rawInt bq.col,.ref c'],?_,?_,fun l=>?_⟩ nf ⟨⟨_,aa,rfl⟩,?_⟩ (lam _ _ _ _)⟩
  .rw[aq (aA hT nf),aq (aA hT nc),aa]
  .rw[Array.toList_append];exact TriplesOk_snoc _ _ _ _ tr
  .rw[Array.toList_append,zr _ tr];rcases am l with z|⟨c,z,Nf,DA,t2,y,r⟩
   .rw[z];show codeAmong l [rawInt bq.line,rawInt bq.col,.ref c']=none\/_;simp only[codeAmong,rawInt];by_cases e:((bq.line:Int)==(l.line:Int)&&(bq.col:Int)==(l.col:Int))=true
    .refine .inr ⟨c',?_,cd⟩;show codeAmong l [rawInt bq.line,rawInt bq.col,.ref c']=some (.ref c');simp only[codeAmong,rawInt];rw[if_pos e]
    .refine .inl ?_;rw[zB0 e]
   .rw[z];exact .inr ⟨c,rfl,Nf,DA,t2,kp _ _ (fun w'=>by rw[w',hT]at y;cases y) y,r⟩
  .obtain⟨Ng,Nh,t3,a1,a2,a3⟩:=cd;exact⟨c',Ng,Nh,t3,rfl,a1,a2,a3⟩
 .refine kla_makeFunctionHit (mg:=X.mg) (jY hs) I.ok.glob hg fe (hC.keeps I.bk) hP tr hf hb fun mM h' tk hk hsz=>?_
  have J:=I.laid (a:=h'.objs.size) (o:=held (kla_obj "<lambda>" (X.env.qual++"<lambda>") params body scope (bY X.env.cells scope.names []) ((X.mg "__name__").getD .none) c mM)) (h':=h'.push (kla_obj "<lambda>" (X.env.qual++"<lambda>") params body scope (bY X.env.cells scope.names []) ((X.mg "__name__").getD .none) c mM)) (t':=tk)
   (fun b u e=>zAv _ (hk b u e)) hsz (sr (zB1 _ rfl))
  have nf:H h'.objs.size=none:=I.hok.fresh hsz
  have kp:Same H (upd H h'.objs.size (held (kla_obj "<lambda>" (X.env.qual++"<lambda>") params body scope (bY X.env.cells scope.names []) ((X.mg "__name__").getD .none) c mM))):=fun b o e=>by
   rw[aq (aA e nf)];exact e
  exact⟨.ref h'.objs.size,_,J,rfl,q _ ((X.mg "__name__").getD .none) (.ref c) mM _ (fun b o _ e=>kp b o e) (TabOk.same ⟨ps,hT,tr,am⟩ kp) nf ⟨⟨_,aa,rfl⟩,c,oc,vs,t,rfl,kp _ _ hc,hd,hv⟩ (lam _ _ _ _)⟩
structure CellsOf(cl:List (Str×Addr))(N:List Str)(vs:List V)(H:Hp)(cs:List (Addr×Obj)):Prop where
 no:∀b o,cs.lookup b=some o->H b=none
 cell:∀x c,cl.lookup x=some c->∃o v,cs.lookup c=some o/\o.data=.cell v
 val:∀(i:Nat) (x:Str) (v:V),N[i]?=some x->vs[i]?=some v->∃c u o,cl.lookup x=some c/\RelV v u/\cs.lookup c=some o/\o.data=.cell (some u)
theorem JX{o:Obj}{b:Addr}:∀{l:List (Addr×Obj)},l.lookup b=some o->(b,o)∈l
 |[],e=>by cases e
 | (a,x)::r,e=>by
  rw[List.lookup_cons]at e
  cases z:b==a with
  |true=>rw[z]at e;cases e;rw[eq_of_beq z];exact .head _
  |false=>rw[z]at e;exact .tail _ (JX e)
theorem qC{h:Heap}{b:Addr}{o:Obj}:∀{fp:List Addr},(cW fp h).lookup b=some o->b∈fp/\h.get? b=some o:=fun{fp} e=>pZ (p:=(b,o)) (JX e)
theorem jR{h:Heap}{b:Addr}{o:Obj}(e:h.get? b=some o):∀{fp:List Addr},b∈fp->(cW fp h).lookup b=some o
 |[],z=>absurd z Zy
 |a::r,z=>by
  have un:cW (a::r) h=match(h.get? a).map (fun o=>(a,o))with|some p=>p::cW r h|none=>cW r h:=by
   unfold cW;rw[List.filterMap_cons];cases(h.get? a).map (fun o=>(a,o))<;>rfl
  rw[un];by_cases y:b=a
  .subst y;rw[e];show List.lookup b ((b,o)::cW r h)=_;rw[List.lookup_cons,beq_self_eq_true]
  .have ih:=jR e (fp:=r) ((zAo.mp z).resolve_left y)
   cases q:h.get? a with
   |none=>exact ih
   |some o'=>
    show List.lookup b ((a,o')::cW r h)=_;rw[List.lookup_cons,show(b==a)=false by simpa using y];exact ih
theorem uG{cells:List (Str×Addr)}{q:Str×Addr}:∀(l:List (Str×NameKind)) (acc:List (Str×Addr)),q∈bY cells l acc->q∈acc\/∃k,(q.1,k)∈l/\k=NameKind.free/\q.2=(cells.lookup q.1).getD 0
 |[],_,h=>.inl h
 | (n,k)::r,acc,h=>by
  have h':q∈bY cells r (if k=.free then(n,(cells.lookup n).getD 0)::acc else acc):=h;rcases uG r _ h' with e|⟨k',e1,e2⟩
  .by_cases hk:k=.free
   .rw[zB3 hk]at e;rcases zAo.mp e with z|z
    .cases z;exact .inr ⟨k,List.mem_cons_self,hk,rfl⟩
    .exact .inl z
   .rw[zB0 hk]at e;exact .inl e
  .exact .inr ⟨k',List.mem_cons_of_mem _ e1,e2⟩
def GK(sp:Sp)(N:List Str)(ix:List Nat)(cl:List (Str×Addr))(te:TE):TE:=fun σ H Q=>te σ H fun v H1=>∃vs:List V,vs.length=N.length/\(∀(j i:Nat) (u:V),ix[j]?=some i->vs[j]?=some u->σ[i]?=some (some u)) /\
 ∀cs,CellsOf cl N vs H1 cs->sp [v] (fz H1 cs) (fun v H2=>Q v (er H2 cs)) E0
theorem Fl{X:Cx}{k:Nat}{f:Addr}{fd:FuncData}{y x:Str}{sp:Sp}{p pos:Pos}{arg:Expr}{scope:Scope}{N:List Str}{ix:List Nat}{te:TE}(F:FnOk X.prog X.w X.K X.mg X.base CX0 k f fd [y] sp)(hr:Room k X.A)(hg:Gl X x)(hm:X.mg x=some (.ref f))
  (hk:PySem.W.keepIn X.K (.ref f)=true) (hb:Binds X.K fd [y] []) (hx:X.ex=[]) (hp:∀p∈scope.names,p.2=NameKind.free->X.env.kindOf p.1=some .cell/\X.fn p.1=true) (hN:∀(j:Nat) (x:Str),N[j]?=some x->∃i,ix[j]?=some i/\X.N[i]?=some x/\scope.names.lookup x=some .free)
  (ha:PE X arg te) (eR:(x==("__debug__":Str))=false:=by decide) (he:starEach [arg] X.env=(false,eval arg X.env)::starEach [] X.env:=by rfl) (dv:(backTo pos (starEach [] X.env)).any (·.1)=false:=by rfl):
  PE X (.Call (.Name x p) [arg] [] pos) (GK sp N ix (bY X.env.cells scope.names []) te):=by
 intro Zt s σ H Q I h;refine wpAny_Call_Name_kw (jt I hg hm ?_ eR)
 refine PySem.W.callWith_K (h₀:=X.base) I.ok.mod.kin hk (thn (aP ha aj he pos Zt s σ H (fun vs H1=>∃ws:List V,ws.length=N.length/\(∀(j i:Nat) (u:V),ix[j]?=some i->ws[j]?=some u->σ[i]?=some (some u)) /\
  ∀cs,CellsOf (bY X.env.cells scope.names []) N ws H1 cs->sp vs (fz H1 cs) (fun v H2=>Q v (er H2 cs)) E0) I h) fun us s1 z=>?_) he dv
 obtain⟨vs,H1,I1,r,ws,hw,gS,q⟩:=z;refine⟨I1.kIn,?_⟩
 have hs:∀p∈scope.names,p.2=NameKind.free->(X.env.cells.lookup p.1).isSome=true:=fun p gT e=>by
  obtain⟨c,z⟩:=I1.ok.has p.1 (.inl (hp p gT e).1);rw[z];rfl
 have sub:∀x c,(bY X.env.cells scope.names []).lookup x=some c->X.env.cells.lookup x=some c:=fun x c e=>by
  rcases iu _ _ hs e with z|z
  .cases z
  .exact z
 have at':∀b∈(bY X.env.cells scope.names []).map (·.2),∃x,X.env.cells.lookup x=some b/\X.fn x=true:=fun b eC=>by
  obtain⟨q',Ni,rfl⟩:=zA5.mp eC;rcases uG _ _ Ni with z|⟨k',HU,rfl,e⟩
  .cases z
  .obtain⟨c,hc⟩:=Option.isSome_iff_exists.mp (hs _ HU rfl);refine⟨q'.1,?_,(hp _ HU rfl).2⟩;rw[e,show X.env.cells.lookup q'.1=some c from hc];rfl
 obtain⟨cs,Bn⟩:∃cs,cs=cW ((bY X.env.cells scope.names []).map (·.2)) s1.heap:=⟨_,rfl⟩
 have HV:∀x c,(bY X.env.cells scope.names []).lookup x=some c->c∈(bY X.env.cells scope.names []).map (·.2):=fun x c e=>zA5.mpr ⟨(x,c),PySem.mem_of_lookup e,rfl⟩
 have L:Loose H1 s1.heap (frs X.stack) cs:=fun b o e=>by
  rw[Bn]at e;obtain⟨eC,e'⟩:=qC e;obtain⟨x',fE,ma⟩:=at' b eC;refine⟨e',I1.freeC x' b fE,fun z=>?_⟩;rcases zAo.mp (I1.stkSub b z)with y'|y'
  .exact I1.cne x' b fE y'
  .obtain⟨_,o',iX,_⟩:=I1.ok.funs.mem y';exact absurd (zB2 (zAz iX) (I1.ok.cab x' b ma fE)) (Nat.lt_irrefl _)
 have C:CellsOf (bY X.env.cells scope.names []) N ws H1 cs:=by
  refine⟨fun b o e=>(L b o e).2.1,fun x' c e=>?_,fun i x' v e1 e2=>?_⟩
  .obtain⟨v,o,ho,hd⟩:=I1.cell x' c (sub x' c e);exact⟨o,v,by rw[Bn];exact jR ho (HV x' c e),hd⟩
  .obtain⟨j,e3,e4,e5⟩:=hN i x' e1;obtain⟨m,hn,hl⟩:=I1.loc;have HZ:=(hp (x',.free) (PySem.mem_of_lookup e5) rfl).1;obtain⟨u,ru,lk⟩:=hl j x' v e4 (gS i j v e3 e2) (.inr (.inl HZ));rcases lk with⟨kl,_⟩|⟨_,c,ec,o,ho,hd⟩
   .rw[HZ]at kl;cases kl
   .obtain⟨c',ah⟩:=jc (cells:=X.env.cells) (x:=x') scope.names [] (.inl ⟨_,PySem.mem_of_lookup e5,rfl⟩);have:=sub x' c' ah;rw[ec]at this;cases this;exact⟨c,u,o,ah,ru,by rw[Bn];exact jR ho (HV x' c ah),hd⟩
 have q:=q cs C;have hok:=I1.hok.fz L
 have e0:Env0 X.prog X.w X.K X.mg X.base X.A X.stack s1 (fz H1 cs):=by
  have e1:=I1.env0;refine⟨e1.frames,e1.mod,fun b o e=>⟨(e1.bs b o e).1,?_⟩,e1.bsz,e1.funs,fun b eC=>?_,hok,e1.bare⟩
  .cases z:cs.lookup b with
   |none=>rw[dB z];exact(e1.bs b o e).2
   |some o'=>
    have z':=z;rw[Bn]at z';obtain⟨x',fE,ma⟩:=at' b (qC z').1;exact absurd (zB2 (zAz (I1.ok.bs b o e).1) (I1.ok.cab x' b ma fE)) (Nat.lt_irrefl _)
  .cases z:cs.lookup b with
   |none=>rw[dB z];exact e1.frf b eC
   |some o'=>exact absurd eC (L b o' z).2.2
 have hl:(us++[]).length=[y].length:=by rw[zAn,<-r.length];exact F.len _ _ _ _ q
 have yb:=hb s1 us I1.kIn hl;rw[zAn]at yb;refine wpAny_call (codeAny_mono (F.run X.A X.stack s1 (fz H1 cs) ⟨us,[]⟩ us vs _ E0 hr e0 yb r q) fun rr s' hq=>?_)
 cases rr with
 |error e=>exact(show False from hq).elim
 |ok fl=>
  cases fl with
  |ret u=>
   obtain⟨v,H2,os,bare,un,gN,rv,qq⟩:=hq;obtain⟨un',wx,_⟩:=un.held gN L;exact I1.after (Q:=Q) ⟨v,er H2 cs,os,bare,un',wx,rv,qq⟩
  |next=>exact False.elim hq
  |brk=>exact False.elim hq
  |cont=>exact False.elim hq
def GP(scope sc:Scope)(NX N:List Str)(ix:List Nat):Bool:=
 decide (scope.kind=.function)&&!scope.isCoroutine&&!scope.isGenerator&&scope.names.all (fun p=>decide (p.2≠NameKind.cell)&&(decide (p.2≠NameKind.free)||decide (sc.names.lookup p.1=some NameKind.cell))) &&
 (N.zip ix).all (fun q=>decide (NX[q.2]?=some q.1)&&decide (scope.names.lookup q.1=some NameKind.free))&&decide (N.length=ix.length)
theorem uH{X:Cx}{k:Nat}{f T cc:Addr}{fd:FuncData}{y x:Str}{sp:Sp}{p pos bq:Pos}{params:Arguments}{body:Expr}{scope sc:Scope}{N NX:List Str}{ix:List Nat}(F:FnOk X.prog X.w X.K X.mg X.base CX0 k f fd [y] sp)(hr:Room k X.A)(hg:Gl X x)(hm:X.mg x=some (.ref f))
  (hk:PySem.W.keepIn X.K (.ref f)=true) (hb:Binds X.K fd [y] []) (hx:X.ex=[]) (ma:∀x,X.fn x=true) (fe:X.env.code=.ref cc) (hC:CodeHd X.base cc T) (hB:X.base.BuiltinsAt X.mg T) (Nj:X.env.scope=sc) (Nk:X.N=NX)
  (qA:defaultsOf params X.env=([],[])) (Nl:∀qual cl pm cv ct,bindArgs (kla_fn "<lambda>" qual params body scope cl pm cv ct) ⟨[],[]⟩=pure []) (ok:GP scope sc NX N ix=true) (eR:(x==("__debug__":Str))=false:=by decide)
  (he:starEach [.Lambda params body scope bq] X.env=(false,eval (.Lambda params body scope bq) X.env)::starEach [] X.env:=by rfl) (dv:(backTo pos (starEach [] X.env)).any (·.1)=false:=by rfl):
  PE X (.Call (.Name x p) [.Lambda params body scope bq] [] pos) (GK sp N ix (bY X.env.cells scope.names []) (tMk T (X.env.qual++"<lambda>") params body scope (bY X.env.cells scope.names []) N)):=by
 subst Nj Nk;unfold GP at ok;simp only[Bool.and_eq_true,Zq,Bool.not_eq_true',List.all_eq_true,Bool.or_eq_true]at ok;obtain⟨⟨⟨⟨⟨kd,co⟩,ge⟩,Ic⟩,zs⟩,hl⟩:=ok
 have kc:∀p∈scope.names,p.2=NameKind.free->X.env.kindOf p.1=some .cell:=fun p hp e=>by
  rcases(Ic p hp).2 with z|z
  .exact absurd e z
  .exact z
 have hz:∀(j:Nat) (x:Str),N[j]?=some x->∃i,ix[j]?=some i/\X.N[i]?=some x/\scope.names.lookup x=some .free:=fun j x e=>by
  have hj:=(zAa.mp e).1;have e2:ix[j]?=some (ix[j]'Zz):=zA0 Zz;have:=zs (x,ix[j]'Zz) (zB6 (i:=j) (by rw[List.getElem?_zip_eq_some];exact⟨e,e2⟩));exact⟨_,e2,this.1,this.2⟩
 refine Fl F hr hg hm hk hb hx (fun p hp e=>⟨kc p hp e,ma _⟩) hz (Bq ⟨qA,kd,co,ge,fun p hp=>(Ic p hp).1,fun p hp e=>.inl (kc p hp e),Nl,fun x hx=>?_⟩ fe hC hB) eR he dv;obtain⟨j,e⟩:=List.mem_iff_getElem?.mp hx;obtain⟨_,_,_,z⟩:=hz j x e;exact z
theorem Fun.okC{P:Program}{w:World}{K:Frag}{mg:Str->Option Value}{base:Heap}{x qual:Str}{st:Stmt}{f cc:Addr}{fd:FuncData}{N ps:List Str}{k:Nat}{sp:Sp}(F:Fun K x qual st f fd)(hc:fd.code=.ref cc)(S:FnScope N ps (au st))(len:∀vs H Q E,sp vs H Q E->vs.length=ps.length)
  (bP:∀(A:Around) (outer:List Env) (s:Shared) (H:Hp) (vs:List V) (Q:VK) (E:XK),Room k (A.deeper (envOfC qual (au st) s.heap.objs.size f (.ref cc)))->sp vs H Q E->
   ∃t,PSs (jb CX0 P w K mg base N qual (au st) f (.ref cc) A outer s H E).nox (du st) t/\t {nx:=fun _ H'=>Q .non H',rt:=Q} (start N vs) H):FnOk P w K mg base CX0 (k+1) f fd ps sp:=by
 obtain⟨oc,od,kV,doc,pm,an,cdv,ct,ko,rfl,lk,cb⟩:=F.ex;have hc:cdv=.ref cc:=hc;subst hc;refine Al lk cb S len fun A outer s H vs Q E hr gv=>?_;obtain⟨t,h,q⟩:=bP A outer s H vs Q E hr gv;exact⟨t,h.nox,q⟩
section
variable{S S':Addr->Prop}{H H':Hp}{cs:List (Addr×Obj)}
mutual
theorem IsTh.kp(k:∀b o,(∀ps,o≠HO.tbl ps)->(∀ob u,o≠HO.frz ob u)->H b=some o->H' b=some o)(hS:∀b o,(∀ps,o≠HO.tbl ps)->(∀ob u,o≠HO.frz ob u)->S b->H b=some o->S' b):∀{v:V} {d:PyData},IsTh S H v d->IsTh S' H' v d
 |_,_,.non=>.non
 |_,_,.bl b=>.bl b
 |_,_,.int i=>.int i
 |_,_,.str x=>.str x
 |_,_,.lst s e r=>.lst (hS _ _ (fun _ z=>by cases z) (fun _ _ z=>by cases z) s e) (k _ _ (fun _ z=>by cases z) (fun _ _ z=>by cases z) e) (IsThs.kp k hS r)
 |_,_,.tup e r=>.tup (k _ _ (fun _ z=>by cases z) (fun _ _ z=>by cases z) e) (IsThs.kp k hS r)
 |_,_,.dct s e=>.dct (hS _ _ (fun _ z=>by cases z) (fun _ _ z=>by cases z) s e) (k _ _ (fun _ z=>by cases z) (fun _ _ z=>by cases z) e)
theorem IsThs.kp(k:∀b o,(∀ps,o≠HO.tbl ps)->(∀ob u,o≠HO.frz ob u)->H b=some o->H' b=some o)(hS:∀b o,(∀ps,o≠HO.tbl ps)->(∀ob u,o≠HO.frz ob u)->S b->H b=some o->S' b):∀{vs:List V} {ds:List PyData},IsThs S H vs ds->IsThs S' H' vs ds
 |_,_,.nil=>.nil
 |_,_,.cons h t=>.cons (IsTh.kp k hS h) (IsThs.kp k hS t)
end
theorem IsTh.tbl{T:Addr}{q:Str}{v:V}{d:PyData}(h:IsTh S H v d)(t:TabOk H T q)(k:∀b o,b≠T->H b=some o->H' b=some o):IsTh S H' v d:=
 h.kp (fun b o n1 _ e=>k b o (fun z=>by obtain⟨ps,y,_⟩:=t;rw[z,y]at e;cases e;exact n1 _ rfl) e) fun _ _ _ _ s _=>s
theorem JZ(no:NoC cs H):er (fz H cs) cs=H:=by
 funext b
 cases q:cs.lookup b with
 |some o=>rw[lq q,no b o q]
 |none=>rw[fO q,dB q]
theorem Same.fz(s:Same H H'):Same (L2.fz H cs) (L2.fz H' cs):=fun b o e=>by
 cases q:cs.lookup b with
 |some u=>
  rw[qz q]at e⊢;exact e
 |none=>
  rw[dB q]at e⊢;exact s b o e
theorem IsTh.fz{v:V}{d:PyData}(h:IsTh S H v d)(no:NoC cs H):IsTh S (L2.fz H cs) v d:=
 h.kp (fun b o _ _ e=>by
  cases q:cs.lookup b with
  |some u=>rw[no b u q]at e;cases e
  |none=>rw[dB q];exact e) fun _ _ _ _ s _=>s
theorem Fo{H1:Hp}(s:Same (fz H cs) H1){b:Addr}{o:HO}(n:∀ob u,o≠HO.frz ob u)(e:H1 b=some o):er H1 cs b=some o:=by
 cases q:cs.lookup b with
 |some u=>
  rw[s b _ (qz q)]at e;cases e;exact absurd rfl (n _ _)
 |none=>rw[fO q];exact e
theorem IsTh.er{H1:Hp}{v:V}{d:PyData}(h:IsTh S H1 v d)(s:Same (L2.fz H cs) H1):IsTh S (L2.er H1 cs) v d:=h.kp (fun b o _ n e=>Fo s n e) fun _ _ _ _ s _=>s
theorem Same.er{H1:Hp}(s:Same (L2.fz H cs) H1)(no:NoC cs H):Same H (L2.er H1 cs):=fun b o e=>by
 cases q:cs.lookup b with
 |some u=>rw[no b u q]at e;cases e
 |none=>
  rw[fO q];exact s b o (by rw[dB q];exact e)
end
structure SubT(z' z:Str):Prop where
 m:∀c∈z'.cps.toList,c∈z.cps.toList
 l:z'.length<=z.length
theorem SubT.refl(z:Str):SubT z z:=⟨fun _ h=>h,zA3 _⟩
theorem qD:∀(l:List (Str×Tok)),Vals ((l.map (·.1)).map V.str) (strValues l)
 |[]=>.nil
 |p::l=>.cons ⟨p.2,rfl⟩ (qD l)
theorem qF:∀{ts:List Str} {Zr:List Value},Vals (ts.map V.str) Zr->∃l:List (Str×Tok),Zr=strValues l/\l.map (·.1)=ts
 |[],Zr,h=>by cases h;exact⟨[],rfl,rfl⟩
 |t::ts,Zr,h=>by
  cases h with
  |cons r h=>
   obtain⟨u,rfl⟩:=r;obtain⟨l,rfl,e⟩:=qF h;exact⟨(t,u)::l,rfl,by rw[<-e];rfl⟩
section
variable{prog:Program}{w:World}{A:Around}{E:Value->Shared->Prop}{s:Shared}{x y:Str}{t u:Tok}{Q:Value->Shared->Prop}
open Builtin Builtin.Str in
theorem Br(hy:(y.length==0)=false)(hq:∀l tk,l.map (·.1)=Txt.split x y->Q (.ref s.heap.objs.size) {s with toks:=tk,heap:=s.heap.push {cls:=.type "list",data:=.seq (strValues l).toArray}})
  (hsz:x.length<=sizeLine) (DH:(partsBetween x (occurrences x y 0 x.length (x.length+1)) y.length).length<=sizeLine):wpAny (model prog w) A (call (.builtin "str.split") [.str x t,.str y u]) Q E s:=by
 cases h1:(decide (x.length<y.length)||decide (strKind x<strKind y))
 .cases hf:(occurrences x y 0 x.length (x.length+1)).isEmpty
  .refine call_meets F.slot_str_split (typeIs_str _ _ _) F.entry_str_split (F.args_str_split_2 _ _) (meets_str_split_sep x y t u h1 hy hf hsz DH) ?_;show wants Q E _ {s with toks:=_,heap:=s.heap.push {cls:=.type "list",data:=.seq (strsFrom s.toks (partsBetween x (occurrences x y 0 x.length (x.length+1)) y.length)).toArray}};rw[strsFrom_eq];exact hq (numbered s.toks _) _ ((numbered_texts _ _).trans ((zB0 (ne_true_of_eq_false h1)).trans (zB0 (ne_true_of_eq_false hf))).symm)
  .exact call_meets F.slot_str_split (typeIs_str _ _ _) F.entry_str_split (F.args_str_split_2 _ _) (meets_str_split_not_found x y t u h1 hy hf)
    (hq [(x,t)] s.toks ((zB0 (ne_true_of_eq_false h1)).trans (zB3 hf)).symm)
 .exact call_meets F.slot_str_split (typeIs_str _ _ _) F.entry_str_split (F.args_str_split_2 _ _) (meets_str_split_cannot_occur x y t u h1)
   (hq [(x,t)] s.toks (zB3 h1).symm)
end
open Builtin Builtin.Str in
theorem mD(x:Str)(w:Nat):∀(fq:List Nat) (a:Nat),(StrLaws.partsFrom x w a fq).length=fq.length+1
 |[],a=>rfl
 |c::fq,a=>by
  show(_::StrLaws.partsFrom x w (c+w) fq).length=_;rw[zAe,mD x w fq,zAe]
open Builtin Builtin.Str in
theorem split_count(x:Str)(c:Nat):((Txt.split x ⟨#[c]⟩).length:Int)=Txt.count x ⟨#[c]⟩+1/\(Txt.split x ⟨#[c]⟩).length<=x.length+2:=by
 have ho:(occurrences x ⟨#[c]⟩ 0 x.length (x.length+1)).length<=x.length+1:=StrLaws.occ_length_le x ⟨#[c]⟩ 0 x.length (x.length+1)
 have none_:c∉x.cps.toList->occurrences x ⟨#[c]⟩ 0 x.length (x.length+1)=[]:=fun hn=>by
  obtain⟨f,hG,_⟩:=StrLaws.occ_tight x ⟨#[c]⟩ (zA3 1)
  cases e:occurrences x ⟨#[c]⟩ 0 x.length (x.length+1)with
  |nil=>rfl
  |cons i r=>
   rw[e]at hG;exact absurd (zB6 ((StrLaws.subAt_one x c i).mp hG.2.1)) hn
 unfold Txt.count;unfold Txt.split;split
 .rename_i hc
  have hn:c∉x.cps.toList:=fun hm=>by
   obtain⟨j,hj⟩:=List.getElem?_of_mem hm;have hA:=(StrLaws.subAt_one x c j).mpr hj;rw[Bool.or_eq_true,Zq,Zq]at hc;rcases hc with h|h
   .have:=hA.1;lia
   .exact absurd hm (StrLaws.kind_free x c h)
  rw[none_ hn];exact⟨rfl,by show 1<=_;lia⟩
 .split
  .rename_i he
   rw[List.isEmpty_iff.mp he];exact⟨rfl,by show 1<=_;lia⟩
  .rw[StrLaws.partsBetween_eq,mD];exact⟨Zz,Zz⟩
section
variable{X:Cx}
theorem eU:MtM X "str.split" (fun x vs H Q=>∃z c,x=.str z/\vs=[.str ⟨#[c]⟩]/\z.length+2<=sizeLine/\∀l,H l=none->l≠sysModules->Q (.ref l) (upd H l (.lst ((Txt.split z ⟨#[c]⟩).map V.str)))):=by
 intro Zt s σ H x vs v us Q I rx rv h;obtain⟨z,c,rfl,rfl,hz,q⟩:=h;obtain⟨t,rfl⟩:=rx;obtain⟨u,rfl,ru⟩:=rv.one;obtain⟨t',rfl⟩:=ru
 have hp:(Builtin.Str.partsBetween z (Builtin.Str.occurrences z ⟨#[c]⟩ 0 z.length (z.length+1)) (⟨#[c]⟩:Str).length).length<=z.length+2:=by
  rw[StrLaws.partsBetween_eq,mD];have:=StrLaws.occ_length_le z ⟨#[c]⟩ 0 z.length (z.length+1);lia
 refine Br rfl (fun l tk hl=>?_) Zz Zz;have:=(split_count z c).2;refine⟨.ref s.heap.objs.size,_,I.lnew (ys:=(Txt.split z ⟨#[c]⟩).map V.str) (by rw[<-hl];exact qD l) (by rw[zA1];lia),rfl,q _ I.fresh (Ne.symm (zB4 I.big))⟩
theorem fK:MtM X "str.join" (fun x vs H Q=>∃z l ts,x=.str z/\vs=[.ref l]/\SqL X.K H l (ts.map V.str)/\JoinOk z ts=true/\Q (.str (Txt.join z ts)) H):=by
 intro Zt s σ H x vs v us Q I rx rv h;obtain⟨z,l,ts,rfl,rfl,hl,hj,q⟩:=h;obtain⟨t,rfl⟩:=rx;obtain⟨u,rfl,ru⟩:=rv.one;cases ru;obtain⟨Zr,r,ht,_⟩:=I.list hl;obtain⟨l',rfl,e⟩:=qF r
 exact SC.join ht.isList e hj fun t' k=>⟨.str (Txt.join z ts),H,I.tok k,⟨_,rfl⟩,q⟩
theorem Bs:MtM X "str.count" (fun x vs H Q=>∃z y,x=.str z/\vs=[.str y]/\Q (.int (Txt.count z y)) H):=by
 intro Zt s σ H x vs v us Q I rx rv h;obtain⟨z,y,rfl,rfl,q⟩:=h;obtain⟨t,rfl⟩:=rx;obtain⟨u,rfl,ru⟩:=rv.one;obtain⟨t',rfl⟩:=ru;exact SC.count ⟨.int _,H,I.tok _,⟨_,rfl⟩,q⟩
theorem gY:dw X (.type "int") (fun xs H Q=>∃z n,xs=[.str z]/\PySem.intText? z=some n/\z.length<=640/\Q (.int n) H):=by
 intro Zt s σ H xs us Q I r h;obtain⟨z,n,rfl,hn,hl,q⟩:=h;obtain⟨u,rfl,t,rfl⟩:=vals1 r;exact PySem.W.KIN.call_text hn hl ⟨.int n,H,I.tok _,⟨_,rfl⟩,q⟩
end
section
variable{X:Cx}{tg:Expr}
end
section
variable{X:Cx}{e:Expr}{te:TE}{p2 p3 p4 pos:Pos}{j:Nat}
def Bt(K:Frag)(te:TE):TE:=fun σ H Q=>te σ H fun x H2=>∃a xs,x=.ref a/\SqL K H2 a xs/\∀p,H2 p=none->Q (.ref p) (upd H2 p (.lst xs.reverse))
theorem Fp(he:PE X e te):PE X (.Subscript e (.Slice none none (some (.UnaryOp .USub (.Constant (.int 1) j p4) p3)) p2) pos) (Bt X.K te):=by
 intro Zt s σ H Q I h;refine Subscript_ (thn (he Zt s σ H _ I h) fun v s1 ⟨x,H1,I1,r1,q1⟩=>?_);refine wpAny_Slice ?_;rw[evalPart_none,evalPart_some];refine zAw (zAw ?_);refine thn (wJ rz ao Zt s1 σ H1 (fun y H'=>H'=H1/\y=.int (-1)) I1 ⟨_,rfl,rfl,rfl⟩) fun vk s3 ⟨y,H3,I3,ry,e3,ey⟩=>?_;subst e3;subst ey;obtain⟨a,xs,rfl,hx,q⟩:=q1;cases r1;obtain⟨t,rfl⟩:=ry;have I4:Inv X Zt σ H3 {s3 with heap:=s3.heap.push {cls:=.type "slice",data:=.fields #[.none,.none,.int (-1) t]}}:=I3.kept (t':=s3.toks) fun b ob q=>zAv _ q;obtain⟨its',r',nE,kq⟩:=I4.list hx;have Iq:=r'.length;show wpAny (model X.prog X.w) X.A (subscriptTail e (.Slice none none (some (.UnaryOp .USub (.Constant (.int 1) j p4) p3)) p2) (.ref a) (.ref s3.heap.objs.size)) (EP X Zt σ Q) X.xe {s3 with heap:=s3.heap.push {cls:=.type "slice",data:=.fields #[.none,.none,.int (-1) t]}};refine tail_any (T:="list") (ops:=[.ref a,.ref s3.heap.objs.size]) nE.isList.typeIs slot_list_getitem.lookup ?_ (by with_unfolding_all rfl);refine wpAny_getItem_list_slice nE.isList (Heap.IsSliceOf.new ..) .none .none (.int (-1) t) Zx ?_ (by rw[zA8]<;>lia);rw[PySem.W.krv_pick];refine⟨.ref _,_,I4.laid (t':=s3.toks) (o:=.lst xs.reverse) (fun b ob q=>zAv _ q) (zA3 _) ?_,rfl,q _ (I4.hok.fresh (zA3 _))⟩;exact⟨by rw[List.length_reverse];exact kq,_,0,r'.reverse,zB1 _ rfl⟩
end
section
variable{prog:Program}{w:World}{A:Around}{E:Value->Shared->Prop}{s:Shared}{t:Addr}
end
section
variable{X:Cx}
end
theorem oK(x:Str)(l:List Nat)(h:l.length<=x.length):SubT ⟨(l.filterMap (x.cps[·]?)).toArray⟩ x:=by
 refine⟨fun c hc=>?_,?_⟩
 .obtain⟨i,_,e⟩:=List.mem_filterMap.mp (show c∈l.filterMap (x.cps[·]?) by simpa using hc);exact List.mem_of_getElem? (i:=i) (by rw[Array.getElem?_toList];exact e)
 .show(l.filterMap (x.cps[·]?)).toArray.size<=_;rw[zA8];exact Nat.le_trans (List.length_filterMap_le _ _) h
theorem Bu{x:Str}{t:Tok}{l u st:Option (Int×Tok)}{s:Shared}{Q:Value->Shared->Prop}(hz:x.length<=sizeLine)(hl:(slicePicked x l u st).length<=x.length)(q:∀z t' k,SubT z x->Q (.str z t') {s with toks:=k}):(sliceMade x t l u st).post Q s:=by
 unfold sliceMade;have e:=oK x (slicePicked x l u st) hl;by_cases h:((st.map (·.1)).getD 1==1&&(slicePicked x l u st).length==x.length)=true
 .rw[zB3 h];exact q x t s.toks (SubT.refl x)
 .rw[zB0 h];exact⟨Nat.le_trans e.l hz,q _ _ _ e⟩
section
variable{prog:Program}{w:World}{A:Around}{E:Value->Shared->Prop}{s:Shared}{t:Addr}
theorem vR{items:Array Value}{Q:Bool->Shared->Prop}(ht:IsTup s.heap t items)(wq:(items.size:Int)<2^63)(h:Q (!items.isEmpty) {s with toks:=s.toks+1+1}):wpAny (model prog w) A (truthy (.ref t)) Q E s:=by
 have hT:=ht.typeIs
 have bp:((items.size:Int) != 0)=!items.isEmpty:=by
  unfold Array.isEmpty;rcases Nat.eq_zero_or_pos items.size with e|e
  .rw[e];rfl
  .have h2:items.size≠0:=Zz
   have h1:((items.size:Int) != 0)=true:=bne_iff_ne.mpr Zz;rw[h1,zAy h2];rfl
 have key:wpAny (model prog w) A (runValue (.builtin "len" ⟨[.ref t],[]⟩)) (fun r s'=>r=.int items.size (s.toks+1)/\Q (!items.isEmpty) s') E s:=by
  refine wpAny_runValue (codeAny_builtin entry_len ?_);rw[Around.under_plainId plain_len _];unfold Builtin.«len»;refine zAt (m:=oneArg "len" _) (zAw ?_);refine zAt (m:=callSpecial? (.ref t) (Str.ofString "__len__")) (wpAny_callSpecial?_slot (name:=Str.ofString "__len__") hT slot_tuple_len (wpAny_call_entry slot_tuple_len hT entry_tuple_len ?_ (args_tuple_len _)));show wpAny _ _ (do retInt (<-Builtin.Tuple.tupleItemsOf (.ref t)).size) _ _ s;refine zAt (tupleItemsOf_ ht ?_);refine zAt (wpAny_mkInt (zAw ⟨_,rfl,?_⟩));refine zAt (wpAny_holding (zAw ?_));refine zAt (wpAny_letGo ?_);show wpAny _ _ (if((items.size:Nat):Int)<0 then _ else _) _ _ _;rw[zB0 Zz];show wpAny _ _ (if((items.size:Nat):Int)≥2^63 then _ else _) _ _ _;rw[zB0 Zz];exact zAt (wpAny_mkInt (zAw ⟨rfl,h⟩))
 unfold truthy
 first
  |refine zAt (wpAny_callSpecial?_none (name:=Str.ofString "__bool__") hT PySem.W.ktl_noBool ?_)
  |refine zAt (zAw (zAt (wpAny_callSpecial?_none (name:=Str.ofString "__bool__") hT PySem.W.ktl_noBool ?_)))
 first
  |refine zAt (wpAny_specialOf (name:=Str.ofString "__len__") hT PySem.F.slot_tuple_len.lookup ?_)
  |refine zAt (zAw (zAt (wpAny_specialOf (name:=Str.ofString "__len__") hT PySem.F.slot_tuple_len.lookup ?_)))
 first
  |exact zAt (wpAny_mono key (fun r s' h'=>by obtain⟨rfl,hq⟩:=h';exact zAw (bp▸hq)) fun _ _ e=>e)
  |exact zAt (zAw (zAt (wpAny_mono key (fun r s' h'=>by obtain⟨rfl,hq⟩:=h';exact zAw (bp▸hq)) fun _ _ e=>e)))
end
section
variable{X:Cx}
def GQ(te:TE):TE:=fun σ H Q=>te σ H fun x H2=>∃z,x=.str z/\z.length<=sizeLine/\∀z',SubT z' z->Q (.str z') H2
variable{e:Expr}{te:TE}{p2 p3 p4 pos:Pos}{j:Nat}
theorem Fq(he:PE X e te):PE X (.Subscript e (.Slice none none (some (.UnaryOp .USub (.Constant (.int 1) j p4) p3)) p2) pos) (GQ te):=by
 intro Zt s σ H Q I h;refine Subscript_ (thn (he Zt s σ H _ I h) fun v s1 ⟨x,H1,I1,r1,q1⟩=>?_);refine wpAny_Slice ?_;rw[evalPart_none,evalPart_some];refine zAw (zAw ?_);refine thn (wJ rz ao Zt s1 σ H1 (fun y H'=>H'=H1/\y=.int (-1)) I1 ⟨_,rfl,rfl,rfl⟩) fun vk s3 ⟨y,H3,I3,ry,e3,ey⟩=>?_;subst e3;subst ey;obtain⟨z,rfl,hz,q⟩:=q1;obtain⟨tz,rfl⟩:=r1;obtain⟨t,rfl⟩:=ry;have I4:Inv X Zt σ H3 {s3 with heap:=s3.heap.push {cls:=.type "slice",data:=.fields #[.none,.none,.int (-1) t]}}:=I3.kept (t':=s3.toks) fun b ob q=>zAv _ q;show wpAny (model X.prog X.w) X.A (subscriptTail e (.Slice none none (some (.UnaryOp .USub (.Constant (.int 1) j p4) p3)) p2) (.str z tz) (.ref s3.heap.objs.size)) (EP X Zt σ Q) X.xe {s3 with heap:=s3.heap.push {cls:=.type "slice",data:=.fields #[.none,.none,.int (-1) t]}};refine tail_any (T:="str") (ops:=[.str z tz,.ref s3.heap.objs.size]) (typeIs_str _ z tz) F.slot_str_getitem.lookup ?_ (by with_unfolding_all rfl);refine wpAny_getItem_str_slice (l:=none) (u:=none) (st:=some (-1,t)) (Heap.IsSliceOf.new ..) rfl (Bu hz ?_ fun z' t' k e=>?_)
 .show(Builtin.Str.strSliceIndices none none (-1) z.length).length<=_;rw[picked_rev,zA1,List.length_range];exact zA3 _
 .exact⟨.str z',H3,I4.tok k,⟨_,rfl⟩,q z' e⟩
theorem uI:MtM X "str.upper" (fun x vs H Q=>∃z,x=.str z/\vs=[]/\(∀c∈z.cps.toList,c<128)/\z.length<=sizeLine/\∀z',(∀c∈z'.cps.toList,c<128)->z'.length=z.length->Q (.str z') H):=by
 intro Zt s σ H x vs v us Q I rx rv h;obtain⟨z,rfl,rfl,ha,hz,q⟩:=h;obtain⟨t,rfl⟩:=rx;cases rv.zero;have e:=upper_ascii ha
 have el:(Txt.upper z).length=z.length:=by
  rw[e];show(z.cps.map up1).size=_;rw[Array.size_map];rfl
 refine SC.upper (by unfold Builtin.Str.tooLong;exact decide_eq_false Zz) ⟨.str _,H,I.tok _,⟨_,rfl⟩,q _ ?_ el⟩;rw[e];intro c hc;obtain⟨d,hd,rfl⟩:=List.mem_map.mp (show c∈z.cps.toList.map up1 by simpa using hc);have:=ha d hd
 revert this
 revert d
 have:∀d,d<128->up1 d<128:=by decide +kernel
 exact fun d _ _ h=>this d h
theorem Bv{e:Expr}{t:TE}(h:PE X e t)(he:∀whole,isTrue e X.env whole=(do let v <-whole;standAt e.pos;holding [v] (truthy v)):=by intro _;rfl):PT X e (fun σ H Q=>t σ H fun x H1=>∃a xs,x=.ref a/\H1 a=some (.tup xs)/\Q (!xs.isEmpty) H1):=by
 intro Zt s σ H Q I hw;refine isTrue_plain (thn (h Zt s σ H _ I hw) fun v s1 ⟨x,H1,I1,r1,q1⟩=>?_) (he _);obtain⟨a,xs,rfl,ha,q⟩:=q1;cases r1;obtain⟨Zr,r,p1,hz⟩:=I1.tuple (SqT.of ha);have hl:=r.length
 have e1:Zr.toArray.isEmpty=xs.isEmpty:=by
  cases Zr with
  |nil=>cases r;rfl
  |cons a r'=>cases xs with
   |nil=>simp at hl
   |cons b r'=>rfl
 exact vR p1 (by rw[zA8];have:=j9;lia) ⟨H1,I1.tok _,by rw[e1];exact q⟩
theorem oM{X:Cx}(hc:X.calm=true):dw X (.type "list") (fun xs H Q=>∃z,xs=[.str z]/\z.length<=sizeLine/\∀l,H l=none->l≠sysModules->Q (.ref l) (upd H l (.lst (z.cps.toList.map fun c=>V.str ⟨#[c]⟩)))):=by
 intro Zt s σ H xs us Q I r h;obtain⟨z,rfl,hz,q⟩:=h;obtain⟨u,rfl,t,rfl⟩:=vals1 r;refine PySem.call_list_str (I.ok.hd hc) z t (fun h' tk acc c' hk hS ha=>?_) hz;obtain⟨hsz,hit⟩:=ha
 have vals_of:∀(xs:List V) (us:List Value),xs.length=us.length->(∀i x u,xs[i]?=some x->us[i]?=some u->RelV x u)->Vals xs us:=fun xs=>by
  induction xs with
  |nil=>intro us hl _;cases us with|nil=>exact .nil|cons _ _=>simp at hl
  |cons x xs ih=>
   intro us hl hr
   cases us with
   |nil=>simp at hl
   |cons u us=>exact .cons (hr 0 x u rfl rfl) (ih us (by simpa using hl) fun i x u e1 e2=>hr (i+1) x u (by simpa using e1) (by simpa using e2))
 have rv:Vals (z.cps.toList.map fun c=>V.str ⟨#[c]⟩) acc.toList:=by
  refine vals_of _ _ (by rw[zA1,zA9,zA9,hsz]) fun i x u e1 e2=>?_;rw[Array.getElem?_toList]at e2;obtain⟨c,t',h1,rfl⟩:=hit i u e2;rw[zAb,Array.getElem?_toList,h1]at e1;cases e1;exact⟨_,rfl⟩
 exact⟨.ref s.heap.objs.size,_,I.laid (a:=s.heap.objs.size) (o:=.lst (z.cps.toList.map fun c=>V.str ⟨#[c]⟩)) (t':=tk) hk (zA3 _) ⟨by rw[zA1,zA9];exact hz,acc.toList,c',rv,by rw[Array.toArray_toList];exact hS⟩,rfl,q _ I.fresh (Ne.symm (zB4 I.big))⟩
theorem jh{X:Cx}:dw X (.builtin "repr") (fun xs H Q=>∃z,xs=[.str z]/\(∀c∈z.cps.toList,c<128)/\z.length<=100000/\Q (.str (reprText z)) H):=by
 intro Zt s σ H xs us Q I r h;obtain⟨z,rfl,ha,hz,q⟩:=h;obtain⟨u,rfl,t,rfl⟩:=vals1 r;have:=StrLaws.reprText_len z fun c hc=>Nat.lt_trans (ha c hc) Zx;exact P.repr_of_str ⟨.str _,H,I.tok _,⟨_,rfl⟩,q⟩ Zu
end
end L2
namespace L2.ZS
open PySem PySem.Spec PyProof.Rows L2 L2.ZT
def So(h:Heap)(a:Addr)(z:Str)(t:Tok)(i:Nat):Prop:=h.IsStrIter a "str_ascii_iterator" z t i
theorem So.at{h h':Heap}{a:Addr}{z:Str}{t:Tok}{i:Nat}(x:So h a z t i)(e:∀o,h.get? a=some o->h'.get? a=some o):So h' a z t i:=let⟨o,ho,r⟩:=x;⟨o,e _ ho,r⟩
theorem So.extBut{h h':Heap}{a b:Addr}{z:Str}{t:Tok}{i:Nat}(x:So h a z t i)(e:Heap.ExtBut b h h')(n:a≠b):So h' a z t i:=x.at fun o q=>e _ _ n q
section
variable{prog:Program}{w:World}{A:Around}{E:Value->Shared->Prop}{s:Shared}
theorem uK{t1:Bool}{z TI TO i1 i2 l1:Addr}{k c:Nat}{xs:Array Value}{zt:Str}{tk:Tok}{x a b:Value}{Q:Option Value->Shared->Prop}(D:ZipApart z TI TO i1 i2 l1 l1)
  (hz:IsZip s.heap z TI TO .none) (rk:IsPair s.heap TI (.ref i1) (.ref i2)) (xo:IsPair s.heap TO a b)
  (h1:Io t1 s.heap i1 l1 k) (h2:So s.heap i2 zt tk k) (dA:Sq t1 s.heap l1 xs) (hx:xs[k]?=some x) (hy:zt.cps[k]?=some c)
  (hQ:∀h',IsZip h' z TI TO (rawInt s.heap.objs.size)->IsPair h' TO x (.str ⟨#[c]⟩ s.toks)->Io t1 h' i1 l1 (k+1)->So h' i2 zt tk (k+1)->IsPair h' s.heap.objs.size x (.str ⟨#[c]⟩ s.toks)->h'.objs.size=s.heap.objs.size+1->
   (∀c o,c≠z->c≠TO->c≠i1->c≠i2->s.heap.get? c=some o->h'.get? c=some o)->Q (some (.ref s.heap.objs.size)) {s with heap:=h',toks:=s.toks+1}):
  wpAny (model prog w) A (pyNext (.ref z)) Q E s:=by
 have hT:s.TypeIs (.ref z) "zip":=⟨_,hz,rfl⟩
 unfold pyNext;refine wpAny_bind (wpAny_attempt (wpAny_callSpecial?_slot (name:=Str.ofString "__next__") hT F.slot_zip_next (wpAny_call_entry F.slot_zip_next hT F.entry_zip_next ?_ (F.args_zip_next_1 _))));show wpAny _ _ (field (.ref z) 2>>=_) _ _ _;refine wpAny_bind (wpAny_field hz rfl (x:=.bool false) rfl ?_);show wpAny _ _ (field (.ref z) 3>>=_) _ _ _;refine wpAny_bind (wpAny_field hz rfl (x:=.ref TI) rfl (wpAny_bind (wpAny_seqItems rk rfl ?_)));show wpAny _ _ (Builtin.SmallTypes.ownedTupleIsFree (.ref z)>>=_) _ _ _;refine wpAny_bind ?_;unfold Builtin.SmallTypes.ownedTupleIsFree;refine wpAny_bind (wpAny_field hz rfl (x:=.none) rfl (wpAny_pure ?_));simp only[if_true];refine wpAny_bind (wpAny_rule (wpAny_bind (wpAny_field hz rfl (x:=.ref TO) rfl (wpAny_bind (wpAny_setField_rec hz Zy fun g1 z1 s1=>?_)))))
 replace z1:IsZip g1 z TI TO .ellipsis:=z1
 refine wpAny_bind ?_;simp only[List.zipIdx_cons,List.zipIdx_nil,List.forIn_cons,List.forIn_nil];refine wpAny_bind (wpAny_bind (wpAny_onRaise ?_));show wpAny _ _ (Builtin.SmallTypes.nextOf (.ref i1)>>=_) _ _ _;refine wpAny_bind (nx (h1.extBut s1.extBut D.i1z) (dA.extBut s1.extBut D.l1z) hx fun g2 q1 s2=>wpAny_pure ?_);have o2:IsPair g2 TO a b:=s2.extBut _ _ D.TOi1 (s1.extBut _ _ D.TOz xo);refine wpAny_bind (wpAny_seqItems o2 rfl (wpAny_bind (wpAny_updateSeq_pair o2 fun g3 o3 s3=>?_)))
 replace o3:IsPair g3 TO x b:=o3
 refine zAt (wpAny_letGo (zAw (zAt (zAt (wpAny_onRaise ?_)))));show wpAny _ _ (Builtin.SmallTypes.nextOf (.ref i2)>>=_) _ _ _;refine zAt (wpAny_nextOf_ascii_item (((h2.extBut s1.extBut D.i2z).extBut s2.extBut D.i12.symm).extBut s3.extBut D.TOi2.symm) hy fun g4 q2 s4=>zAw ?_)
 obtain⟨y,ey⟩:∃y,y=Value.str ⟨#[c]⟩ s.toks:=⟨_,rfl⟩
 replace q2:So g4 i2 zt tk (k+1):=q2
 show wpAny _ _ _ _ _ {s with heap:=g4,toks:=s.toks+1};rw[<-ey]at hQ⊢;have o4:IsPair g4 TO x b:=s4.extBut _ _ D.TOi2 o3;refine zAt (wpAny_seqItems o4 rfl (zAt (wpAny_updateSeq_pair o4 fun g5 o5 s5=>?_)))
 replace o5:IsPair g5 TO x y:=o5
 refine zAt (wpAny_letGo (zAw (zAw (zAt (wpAny_seqItems o5 rfl (zAt (wpAny_newTuple ?_)))))));have hsz:g5.objs.size=s.heap.objs.size:=by rw[s5.1,s4.1,s3.1,s2.1,s1.1]
 have z5:IsZip g5 z TI TO .ellipsis:=s5.extBut _ _ D.TOz.symm (s4.extBut _ _ D.i2z.symm (s3.extBut _ _ D.TOz.symm (s2.extBut _ _ D.i1z.symm z1)));have k5:∀c o,c≠z->c≠TO->c≠i1->c≠i2->s.heap.get? c=some o->g5.get? c=some o:=fun c o c1 c2 c3 c4 e=>s5.extBut _ _ c2 (s4.extBut _ _ c4 (s3.extBut _ _ c2 (s2.extBut _ _ c3 (s1.extBut _ _ c1 e))));have p1:Io t1 g5 i1 l1 (k+1):=((q1.extBut s3.extBut D.TOi1.symm).extBut s4.extBut D.i12).extBut s5.extBut D.TOi1.symm;have p2:So g5 i2 zt tk (k+1):=q2.extBut s5.extBut D.TOi2.symm;have xt:z<g5.objs.size:=Heap.lt_size z5;show wpAny _ _ (Builtin.SmallTypes.ownedTupleHandOut (.ref z) (.ref g5.objs.size)>>=_) _ _ _;refine wpAny_bind ?_;unfold Builtin.SmallTypes.ownedTupleHandOut;have z6:IsZip (g5.push {cls:=.type "tuple",data:=.seq #[x,y]}) z TI TO .ellipsis:=Heap.get?_push_of_some _ z5;refine wpAny_bind (wpAny_setField_rec z6 Zy fun g7 z7 s7=>?_)
 replace z7:IsZip g7 z TI TO (rawInt g5.objs.size):=z7
 refine wpAny_setField_rec z7 Zy fun g8 z8 s8=>?_
 replace z8:IsZip g8 z TI TO (rawInt g5.objs.size):=z8
 have up:∀c o,c≠z->g5.get? c=some o->g8.get? c=some o:=fun c o c1 e=>s8.extBut _ _ c1 (s7.extBut _ _ c1 (zAv _ e));have t8:IsPair g8 g5.objs.size x y:=s8.extBut _ _ (Nat.ne_of_gt xt) (s7.extBut _ _ (Nat.ne_of_gt xt) (zB1 _ rfl));have n8:g8.objs.size=g5.objs.size+1:=by rw[s8.1,s7.1,Heap.size_push]
 rw[hsz]at z8 t8 n8;refine zAw ⟨_,rfl,zAw ?_⟩;show Q (some (.ref g5.objs.size)) _;rw[hsz];exact hQ g8 z8 (up _ _ D.TOz o5) (p1.at fun o e=>up _ o D.i1z e) (p2.at fun o e=>up _ o D.i2z e) t8 n8 fun c o c1 c2 c3 c4 e=>up c o c1 (k5 c o c1 c2 c3 c4 e)
theorem vU{t1:Bool}{z TI TO i1 i2 l1:Addr}{k:Nat}{xs:Array Value}{a b:Value}{Q:Option Value->Shared->Prop}(hh:A.handled=none)(D:ZipApart z TI TO i1 i2 l1 l1)
  (hz:IsZip s.heap z TI TO .none) (rk:IsPair s.heap TI (.ref i1) (.ref i2)) (xo:IsPair s.heap TO a b) (h1:Io t1 s.heap i1 l1 k) (dA:Sq t1 s.heap l1 xs) (hx:xs[k]?=none)
  (hQ:∀h',(∀c o,c≠z->c≠i1->s.heap.get? c=some o->h'.get? c=some o)->Q none {s with heap:=h'}):wpAny (model prog w) A (pyNext (.ref z)) Q E s:=by
 have hT:s.TypeIs (.ref z) "zip":=⟨_,hz,rfl⟩
 unfold pyNext;refine wpAny_bind (wpAny_attempt (wpAny_callSpecial?_slot (name:=Str.ofString "__next__") hT F.slot_zip_next (wpAny_call_entry F.slot_zip_next hT F.entry_zip_next ?_ (F.args_zip_next_1 _))));show wpAny _ _ (field (.ref z) 2>>=_) _ _ _;refine wpAny_bind (wpAny_field hz rfl (x:=.bool false) rfl ?_);show wpAny _ _ (field (.ref z) 3>>=_) _ _ _;refine wpAny_bind (wpAny_field hz rfl (x:=.ref TI) rfl (wpAny_bind (wpAny_seqItems rk rfl ?_)));show wpAny _ _ (Builtin.SmallTypes.ownedTupleIsFree (.ref z)>>=_) _ _ _;refine wpAny_bind ?_;unfold Builtin.SmallTypes.ownedTupleIsFree;refine wpAny_bind (wpAny_field hz rfl (x:=.none) rfl (wpAny_pure ?_));simp only[if_true];refine wpAny_bind (wpAny_rule (wpAny_bind (wpAny_field hz rfl (x:=.ref TO) rfl (wpAny_bind (wpAny_setField_rec hz Zy fun g1 z1 s1=>?_)))))
 replace z1:IsZip g1 z TI TO .ellipsis:=z1
 refine wpAny_bind ?_;simp only[List.zipIdx_cons,List.zipIdx_nil,List.forIn_cons,List.forIn_nil];refine wpAny_bind (wpAny_bind (wpAny_onRaise ?_));show wpAny _ _ (Builtin.SmallTypes.nextOf (.ref i1)>>=_) _ _ _;refine wpAny_bind (vQ hh (h1.extBut s1.extBut D.i1z) (dA.extBut s1.extBut D.l1z) hx fun g2 e s2 he=>?_);obtain⟨oe,rl,tF⟩:=he;have z2:IsZip g2 z TI TO .ellipsis:=s2 _ _ D.i1z.symm z1
 have CO:e≠z:=fun q=>by
  subst q;rw[z2]at rl;cases rl;simp at tF
 refine wpAny_setField_rec z2 Zy fun g3 _ s3=>?_;refine wpAny_bind (wpAny_isInstance (T:="StopIteration") (b:=true) ⟨oe,s3.extBut _ _ CO rl,tF⟩ isSubtype_stop (wpAny_pure (hQ _ fun c o c1 c2 q=>s3.extBut _ _ c1 (s2 _ _ c2 (s1.extBut _ _ c1 q)))))
end
abbrev zA(t1:Bool)(h:Heap)(t:Addr):Heap:=h.push {cls:=.type (nm t1),data:=.fields #[.ref t,.int 0 0]}
abbrev zB(t1:Bool)(h:Heap)(t:Addr)(l:Str)(tk:Tok):Heap:=(zA t1 h t).push {cls:=.type "str_ascii_iterator",data:=.fields #[.str l tk,.int 0 0]}
abbrev zC(t1:Bool)(h:Heap)(t:Addr)(l:Str)(tk:Tok):Heap:=(zB t1 h t l tk).push {cls:=.type "tuple",data:=.seq #[.ref h.objs.size,.ref (zA t1 h t).objs.size]}
abbrev zD(t1:Bool)(h:Heap)(t:Addr)(l:Str)(tk:Tok):Heap:=(zC t1 h t l tk).push {cls:=.type "tuple",data:=.seq #[.none,.none]}
abbrev zE(t1:Bool)(h:Heap)(t:Addr)(l:Str)(tk:Tok):Heap:=(zD t1 h t l tk).push {cls:=.type "zip",data:=.fields #[.none,.bool false,.bool false,.ref (zB t1 h t l tk).objs.size,.ref (zC t1 h t l tk).objs.size]}
theorem uL{t1:Bool}(t:Addr)(v:Value)(io:Obj)(xs:Array Value)(hv:∀{prog:Program} {w:World} {A:Around} {E:Value->Shared->Prop} {s:Shared} {Q:Value->Shared->Prop},Q (.ref s.heap.objs.size) {s with heap:=s.heap.push io}->wpAny (model prog w) A (pyIter v) Q E s):
  Meets (Builtin.«zip.__new__» ⟨[.type "zip",.ref t,v],[]⟩) (fun _ R s=>Sq t1 s.heap t xs/\R (.ok (.ret (.ref ((((zA t1 s.heap t).push io).push {cls:=.type "tuple",data:=.seq #[.ref s.heap.objs.size,.ref (zA t1 s.heap t).objs.size]}).push {cls:=.type "tuple",data:=.seq #[.none,.none]}).objs.size))) {s with heap:=((((zA t1 s.heap t).push io).push {cls:=.type "tuple",data:=.seq #[.ref s.heap.objs.size,.ref (zA t1 s.heap t).objs.size]}).push {cls:=.type "tuple",data:=.seq #[.none,.none]}).push {cls:=.type "zip",data:=.fields #[.none,.bool false,.bool false,.ref ((zA t1 s.heap t).push io).objs.size,.ref (((zA t1 s.heap t).push io).push {cls:=.type "tuple",data:=.seq #[.ref s.heap.objs.size,.ref (zA t1 s.heap t).objs.size]}).objs.size]}}):=
 .of_wp fun prog w A R s h=>by
  obtain⟨hp,g,d,Nm,os⟩:=s;obtain⟨ht,h⟩:=h;have xw:=sub_zip;have hT:Sq t1 (Shared.heap ⟨hp,g,d,Nm,os⟩) t xs:=ht
  wp_walk using rW hT,hv
  exact⟨_,rfl,h⟩
theorem sy{t1:Bool}(t:Addr)(l:Str)(tk:Tok)(xs:Array Value)(hl:l.cps.all (· < 128)=true):
  Meets (Builtin.«zip.__new__» ⟨[.type "zip",.ref t,.str l tk],[]⟩) (fun _ R s=>Sq t1 s.heap t xs/\R (.ok (.ret (.ref (zD t1 s.heap t l tk).objs.size))) {s with heap:=zE t1 s.heap t l tk}):=
 uL t (.str l tk) _ xs fun h=>wpAny_pyIter_ascii hl h
theorem uM{t1:Bool}{prog:Program}{w:World}{A:Around}{E:Value->Shared->Prop}{s:Shared}{t:Addr}{l:Str}{tk:Tok}{xs:Array Value}{Q:Value->Shared->Prop}(ht:Sq t1 s.heap t xs)(hl:l.cps.all (· < 128)=true)
  (h:∀h',IsZip h' (s.heap.objs.size+4) (s.heap.objs.size+2) (s.heap.objs.size+3) .none->IsPair h' (s.heap.objs.size+2) (.ref s.heap.objs.size) (.ref (s.heap.objs.size+1))->IsPair h' (s.heap.objs.size+3) .none .none->
   Io t1 h' s.heap.objs.size t 0->So h' (s.heap.objs.size+1) l tk 0->(∀c o,s.heap.get? c=some o->h'.get? c=some o)->Q (.ref (s.heap.objs.size+4)) {s with heap:=h'}):
  wpAny (model prog w) A (call (.type "zip") [.ref t,.str l tk]) Q E s:=by
 refine callType_new F.called_zip Zx (F.typeCall_zip_2 _ _) (F.newCall_zip_2 _ _) (fun obj=>F.args_object_init_3 obj _ _) F.entry_zip_new (sy t l tk xs hl) ⟨ht,?_⟩;have e1:(zA t1 s.heap t).objs.size=s.heap.objs.size+1:=Heap.size_push ..;have e2:(zB t1 s.heap t l tk).objs.size=s.heap.objs.size+2:=by rw[Heap.size_push,e1]
 have e3:(zC t1 s.heap t l tk).objs.size=s.heap.objs.size+3:=by rw[Heap.size_push,e2]
 have e4:(zD t1 s.heap t l tk).objs.size=s.heap.objs.size+4:=by rw[Heap.size_push,e3]
 have xy:∀{c o},(zD t1 s.heap t l tk).get? c=some o->(zE t1 s.heap t l tk).get? c=some o:=fun e=>zAv _ e;have xA:∀{c o},(zC t1 s.heap t l tk).get? c=some o->(zE t1 s.heap t l tk).get? c=some o:=fun e=>xy (zAv _ e);have xB:∀{c o},(zB t1 s.heap t l tk).get? c=some o->(zE t1 s.heap t l tk).get? c=some o:=fun e=>xA (zAv _ e);have up1:∀{c o},(zA t1 s.heap t).get? c=some o->(zE t1 s.heap t l tk).get? c=some o:=fun e=>xB (zAv _ e);have g5:(zE t1 s.heap t l tk).get? (zD t1 s.heap t l tk).objs.size=some _:=zB1 _ rfl;have g4:(zE t1 s.heap t l tk).get? (zC t1 s.heap t l tk).objs.size=some _:=xy (zB1 _ rfl);have g3:(zE t1 s.heap t l tk).get? (zB t1 s.heap t l tk).objs.size=some _:=xA (zB1 _ rfl);have g2:(zE t1 s.heap t l tk).get? (zA t1 s.heap t).objs.size=some _:=xB (zB1 _ rfl);have g1:(zE t1 s.heap t l tk).get? s.heap.objs.size=some _:=up1 (zB1 _ rfl);show _/\_;rw[e4,e2,e3]at g5;rw[e2,e1]at g3;rw[e3]at g4;rw[e1]at g2;rw[e4];exact⟨⟨_,g5,rfl⟩,h _ g5 g3 g4 ⟨_,g1,rfl,rfl⟩ ⟨_,g2,rfl,rfl⟩ fun c o x=>up1 (zAv _ x)⟩
def Itz(t1:Bool)(K:Frag)(a:Addr)(b:Str):It:=
 ⟨fun i H=>∃xs x c,SQ t1 K H a xs/\xs[i]?=some x/\b.cps[i]?=some c,
  fun i H v H'=>∃T,H T=none/\v=.ref T/\∀xs,SQ t1 K H a xs->∃x c,xs[i]?=some x/\b.cps[i]?=some c/\H'=upd H T (.tup [x,.str ⟨#[c]⟩]),
  fun i H=>∃xs,SQ t1 K H a xs/\xs.length<=i⟩
def tnz(t1:Bool)(z TI TO i1 i2 a:Addr)(b:Str)(tk:Tok)(i:Nat)(h:Heap):Prop:=IsZip h z TI TO .none/\IsPair h TI (.ref i1) (.ref i2)/\(∃u v,IsPair h TO u v)/\Io t1 h i1 a i/\So h i2 b tk i
theorem oE{t1:Bool}{P:Program}{w:World}{K:Frag}{es:List Expr}{k:Nat}{pos:Pos}{z TI TO i1 i2 a:Addr}{b:Str}{tk:Tok}(D:ZipApart z TI TO i1 i2 a a):
  Turn P w K (.Tuple es k pos) (Itz t1 K a b) [z,TI,TO,i1,i2] z (tnz t1 z TI TO i1 i2 a b tk) where
 mem:=by simp
 obj:=fun i h st c hc=>by
  obtain⟨s1,s2,⟨u,v,s3⟩,⟨o4,s4,c4,d4⟩,⟨o5,s5,c5,d5⟩⟩:=st;simp only[List.mem_cons,List.not_mem_nil,or_false]at hc;rcases hc with e|e|e|e|e<;>subst e
  .exact⟨_,s1,fun v q=>by cases q⟩
  .exact⟨_,s2,fun v q=>by cases q⟩
  .exact⟨_,s3,fun v q=>by cases q⟩
  .exact⟨_,s4,fun v q=>by rw[d4]at q;cases q⟩
  .exact⟨_,s5,fun v q=>by rw[d5]at q;cases q⟩
 keep:=fun i h h' st kp=>by
  obtain⟨s1,s2,⟨u,v,s3⟩,s4,s5⟩:=st;exact⟨kp z Zy _ s1,kp TI Zy _ s2,⟨u,v,kp TO Zy _ s3⟩,s4.at fun o e=>kp i1 Zy o e,s5.at fun o e=>kp i2 Zy o e⟩
 item:=by
  intro X hP hw hK hc i Zt s σ H E I hf st hg;subst hP hw hK;obtain⟨s1,s2,⟨u,v,s3⟩,s4,s5⟩:=st;obtain⟨xs,x,c0,iE,hx,hy⟩:=hg;obtain⟨Zr,rv,p,_⟩:=qx I iE;obtain⟨ux,tI,rx⟩:=rv.get hx
  obtain⟨uy,Iy⟩:∃uy,uy=Value.str ⟨#[c0]⟩ s.toks:=⟨_,rfl⟩
  have ry:RelV (.str ⟨#[c0]⟩) uy:=⟨_,Iy⟩
  obtain⟨y,ey⟩:∃y,y=V.str ⟨#[c0]⟩:=⟨_,rfl⟩
  rw[<-ey]at ry;refine uK D s1 s2 s3 s4 s5 p (x:=ux) (by simpa using tI) hy fun h1 g1 g2 g3 g4 g5 g6 kp=>?_;rw[<-Iy]at g2 g5;refine⟨_,rfl,?_⟩;refine wpAny_letOwnedTupleGo_zip g1 fun h2 e1 sb=>?_
  have ne:∀c,c∈[z,TI,TO,i1,i2]->c≠s.heap.objs.size:=fun c ah e=>by
   obtain⟨f0,f1,f2,f3,f4,f5⟩:=hf c ah
   have:∃o,s.heap.get? c=some o:=by
    simp only[List.mem_cons,List.not_mem_nil,or_false]at ah;rcases ah with q|q|q|q|q<;>subst q
    .exact⟨_,s1⟩
    .exact⟨_,s2⟩
    .exact⟨_,s3⟩
    .exact let⟨o,h,_⟩:=s4;⟨o,h⟩
    .exact let⟨o,h,_⟩:=s5;⟨o,h⟩
   obtain⟨o,ho⟩:=this;exact absurd (zAz ho) (by rw[e];exact Nat.lt_irrefl _)
  have hT:H s.heap.objs.size=none:=I.hok.fresh (zA3 _)
  have kept:∀c o,c∉[z,TO,i1,i2]->s.heap.get? c=some o->h2.get? c=some o:=fun c o ah e=>
   sb.extBut _ _ (fun q=>ah (by simp[q])) (kp c o (fun q=>ah (by simp[q])) (fun q=>ah (by simp[q])) (fun q=>ah (by simp[q])) (fun q=>ah (by simp[q])) e)
  have mr:∀c,c∈[z,TO,i1,i2]->c∈[z,TI,TO,i1,i2]:=fun c ah=>by
   simp only[List.mem_cons,List.not_mem_nil,or_false]at ah⊢;rcases ah with q|q|q|q<;>simp[q]
  have trk:∀c o,H c=some o->c∉[z,TO,i1,i2]:=fun c o e ah=>by
   have:=(hf c (mr c ah)).1;rw[e]at this;cases this
  have kK:h2.get? s.heap.objs.size=some {cls:=.type "tuple",data:=.seq #[ux,uy]}:=sb.extBut _ _ (Ne.symm (ne z Zy)) g5
  have gN:HOk X.prog X.w (upd H s.heap.objs.size (.tup [x,y])) h2:=fun c o e=>by
   by_cases hb:c=s.heap.objs.size
   .subst hb;rw[aa]at e;cases e;exact⟨by show 2<=sizeLine;decide,[ux,uy],.cons rx (.cons ry .nil),_,kK,rfl,_,rfl⟩
   .rw[aq hb]at e
    refine(I.hok c o e).stay (fun d v hd q=>kept d v ?_ q) (fun d q=>by rw[aq (aA q hT)];exact q) fun d l q=>by rw[aq (aA q hT)];exact q
    rcases hd with e'|e'
    .rw[e'];exact trk c o e
    .exact trk d _ e'
  have I2:Inv X Zt σ (upd H s.heap.objs.size (.tup [x,y])) {s with heap:=h2,toks:=s.toks+1}:=by
   refine I.step (g':=s.gens) (d':=s.drawn) (t':=s.toks+1) (ch:=[z,TO,i1,i2]) (fun c ah=>?_) (fun c o _ _ hn e _=>kept c o hn e) (fun c o _ _ hn e _=>⟨o.slots,kept c o hn e⟩)
    (fun c o _ e n=>by rw[aq (zB4 (zAz e))];exact n) (fun c o hn e=>⟨o,kept c o hn e⟩) (fun c l e=>by rw[aq (aA e hT)];exact e) (fun c o l e=>by rw[aq (aA e hT)];exact e)
    (fun c l e=>⟨#[],by rw[aq (aA e hT),e];simp⟩) (fun m hm=>?_) gN I.bare
   .obtain⟨f0,f1,f2,f3,f4,f5⟩:=hf c (mr c ah);exact⟨f3,f1,f4,f5⟩
   .obtain⟨o,eJ,ep,ho,r⟩:=hm;refine⟨o,eJ,ep,kept _ o (fun ah=>?_) ho,r⟩;exact(hf _ (mr _ ah)).2.1 rfl
  refine⟨.ref s.heap.objs.size,_,I2,rfl,⟨s.heap.objs.size,hT,rfl,fun HI xC=>⟨x,c0,?_,hy,by rw[ey]⟩⟩,⟨e1,?_,?_,?_,?_⟩,fun c ah=>?_⟩
  .rw[Bc I xC iE];exact hx
  .exact sb.extBut _ _ D.TIz (kp _ _ D.TIz D.TITO D.TIi1 D.TIi2 s2)
  .exact⟨_,_,sb.extBut _ _ D.TOz g2⟩
  .exact g3.extBut sb.extBut D.i1z
  .exact g4.extBut sb.extBut D.i2z
  .rw[aq (ne c ah)];exact(hf c ah).1
 done:=by
  intro X hP hw hK hc i Zt s σ H E I hf st hg;subst hP hw hK;obtain⟨s1,s2,⟨u,v,s3⟩,s4,s5⟩:=st;obtain⟨xs,iE,hlen⟩:=hg;obtain⟨Zr,rv,p,_⟩:=qx I iE;have hl:=rv.length
  refine vU (I.ok.hd hc) D s1 s2 s3 s4 p (by simp;lia) fun h' kp=>⟨rfl,?_⟩
  refine I.step (h':=h') (H':=H) (g':=s.gens) (d':=s.drawn) (t':=s.toks) (ch:=[z,i1]) (fun c ah=>?_) (fun c o _ _ hn e _=>kp c o (fun q=>hn (by simp[q])) (fun q=>hn (by simp[q])) e)
   (fun c o _ _ hn e _=>⟨o.slots,kp c o (fun q=>hn (by simp[q])) (fun q=>hn (by simp[q])) e⟩) (fun c o _ e n=>n) (fun c o hn e=>⟨o,kp c o (fun q=>hn (by simp[q])) (fun q=>hn (by simp[q])) e⟩)
   (fun _ _ e=>e) (fun _ _ _ e=>e) (fun c l e=>⟨#[],by rw[e];simp⟩) (fun m hm=>?_) (fun c o e=>?_) I.bare
  .have:c∈[z,TI,TO,i1,i2]:=by
    simp only[List.mem_cons,List.not_mem_nil,or_false]at ah⊢;rcases ah with q|q<;>simp[q]
   obtain⟨f0,f1,f2,f3,f4,f5⟩:=hf c this;exact⟨f3,f1,f4,f5⟩
  .obtain⟨o,eJ,ep,ho,r⟩:=hm;exact⟨o,eJ,ep,kp _ o (Ne.symm (hf z Zy).2.1) (Ne.symm (hf i1 Zy).2.1) ho,r⟩
  .have nn:∀d v c',c'∈[z,TI,TO,i1,i2]->H d=some v->d≠c':=fun d v c' ah q e'=>by
    have:=(hf c' ah).1;rw[<-e',q]at this;cases this
   have nz:∀d v,H d=some v->d≠z/\d≠i1:=fun d v q=>⟨nn d v z Zy q,nn d v i1 Zy q⟩
   refine(I.hok c o e).stay (fun d v hd q=>?_) (fun _ q=>q) fun _ _ q=>q;rcases hd with e'|e'
   .rw[e']at q⊢;exact kp c v (nz c o e).1 (nz c o e).2 q
   .exact kp d v (nz d _ e').1 (nz d _ e').2 q
 self:=fun _ _ _ _ _ st h=>wpAny_pyIter_zip st.1 h
section
variable{X:Cx}
def Ie(t1:Bool)(K:Frag)(t:TA):TI:=fun σ H R=>t σ H fun vs H1=>∃a b xs,vs=[.ref a,.str b]/\SQ t1 K H1 a xs/\b.cps.all (· < 128)=true/\R (Itz t1 K a b) H1
theorem pi_zip(t1:Bool){es:List Expr}{k:Nat}{tp:Pos}{a b:Expr}{ta:TA}{p pos:Pos}(hg:Gl X "zip")(hm:X.mg "zip"=none)(ha:PA X [a,b] ta)(hs:starEach [a,b] X.env=[(false,eval a X.env),(false,eval b X.env)]:=by rfl)(nk:starEach [b] X.env=[(false,eval b X.env)]:=by rfl):
  PI X (.Tuple es k tp) (.Call (.Name "zip" p) [a,b] [] pos) (Ie t1 X.K ta):=by
 intro Zt s σ H R I h;refine Call_ (j7 I hg hm boot_zip (PyProof.Rows.callWith_type1 (thn (ha pos Zt s σ H _ I h) fun us s1 ⟨vs,H1,I1,r1,q1⟩=>?_) (by rw[hs,nk]) (by rw[nk];rfl)));obtain⟨x,y,xs,e,hx,hy,q⟩:=q1;subst e;obtain⟨u,v,rfl,ru,rv⟩:=vals2 r1;cases ru;obtain⟨tk,rfl⟩:=rv;obtain⟨Zr,_,p1,_⟩:=qx I1 hx;refine uM p1 hy fun h' z1 z2 z3 z4 z5 kp=>?_;refine wpAny_pyIter_zip z1 ?_;have lx:x<s1.heap.objs.size:=by obtain⟨_,e,_⟩:=p1;exact zAz e
 refine⟨_,_,_,_,H1,rfl,I1.kept (t':=s1.toks) kp,oE (zipApart_new lx lx),⟨z1,z2,⟨_,_,z3⟩,z4,z5⟩,fun c hc=>?_,q⟩
 have hle:s1.heap.objs.size<=c:=by
  simp only[List.mem_cons,List.not_mem_nil,or_false]at hc;rcases hc with q|q|q|q|q<;>subst q
  .exact Nat.le_add_right _ 4
  .exact Nat.le_add_right _ 2
  .exact Nat.le_add_right _ 3
  .exact zA3 _
  .exact Nat.le_add_right _ 1
 exact I1.fpOk hle (I1.hok.fresh hle)
end
end L2.ZS
namespace L2
open PySem PySem.Spec PyProof.Rows PySem.Calls
structure FlyF(h:Heap)(e:Addr)(C:Value)(T:Addr)(f:Value):Prop where
 obj:∃oe vs,h.get? e=some oe/\oe.cls=C/\oe.data=.fields vs/\vs[1]?=some (.ref T)/\oe.dict=none
 tr:T≠e/\∃oT ts,h.get? T=some oT/\oT.data=.fields ts/\ts[3]?=some f
section
variable{M:Model}{A:Around}{E:Value->Shared->Prop}{s:Shared}
theorem qG{base:Heap}{env aI:Env}{outer:List Env}{L e:Addr}{oe:Obj}{vs:Array Value}{head:Value}{fk:Bool}{Q:Unit->Shared->Prop}
  (eB:A.frames=some (env::outer)) (hl:s.heap.FunFrames base (env::outer)) (hf:env.frame=some L) (yY:aI.frame=some L) (he:s.heap.get? e=some oe) (hd:oe.data=.fields vs) (hz:1<vs.size) (fx:oe.dict=none)
  (h:∀h' T,s.heap.get? T=none->FlyF h' e oe.cls T (rawInt L)->(∀b o,s.heap.get? b=some o->b≠e->b∉frs (env::outer)->h'.get? b=some o)->(∀b o,s.heap.get? b=some o->b≠e->∃sl,h'.get? b=some {o with slots:=sl})->Q () {s with heap:=h'}):
  wpAny M A (do let a <-frameOf aI;let pl <-entryPlaceOf L fk;let b <-EntryCells.newEntry head a .none (rawInt L) .none pl;setField (.ref e) 1 b) Q E s:=by
 have ne:e∉frs (env::outer):=fun hm=>by
  obtain⟨_,o,ho,hn⟩:=hl.mem hm;rw[he]at ho;cases ho;exact hn vs hd
 have Bz:PySem.frameOf aI=PySem.frameOf env:=by
  unfold PySem.frameOf;rw[hf,yY]
 rw[Bz];refine zAt (wpAny_frameOf_fun eB hl hf fun h1 iF=>?_);have e1:h1.get? e=some oe:=(iF.2.1 e ne).trans he;refine zAt (wpAny_entryPlaceOf fun pl dv=>?_);unfold EntryCells.newEntry newFields;refine zAt (wpAny_newObj_type ?_ (dv.sizeOk5 _ _ _ _ _))
 obtain⟨fs,xD⟩:∃fs,fs=([head,.ref L,.none,rawInt L,.none]++(if pl.isEmpty then List.replicate 6 Value.none else pl)).toArray:=⟨_,rfl⟩
 have fz:fs[3]?=some (rawInt L):=by
  rw[xD];rfl
 rw[<-xD]
 obtain⟨h2,mw⟩:∃h2,h2=h1.push {cls:=.type "traceback",dict:=none,data:=.fields fs}:=⟨_,rfl⟩
 have nT:h1.objs.size≠e:=Nat.ne_of_gt (zAz e1);have t2:h2.get? h1.objs.size=some {cls:=.type "traceback",dict:=none,data:=.fields fs}:=by rw[mw];exact zB1 h1 rfl
 have k2:∀b o,h1.get? b=some o->h2.get? b=some o:=fun b o z=>by rw[mw];exact zAv _ z
 refine wpAny_setField (s:={s with heap:=h1.push {cls:=.type "traceback",dict:=none,data:=.fields fs}}) (by rw[<-mw];exact k2 _ _ e1) hd hz ?_;rw[<-mw]
 obtain⟨h3,xE⟩:∃h3,h3=h2.update e (Obj.mapFields (·.setIfInBounds 1 (Value.ref h1.objs.size))):=⟨_,rfl⟩
 have d3:=Obj.data_mapFields hd (·.setIfInBounds 1 (Value.ref h1.objs.size));have g3:=Heap.get?_update_self (Obj.mapFields (·.setIfInBounds 1 (Value.ref h1.objs.size))) (k2 _ _ e1) (Obj.isFreed_of_fields d3)
 have o3:∀b,b≠e->h3.get? b=h2.get? b:=fun b hb=>by rw[xE];exact Heap.get?_update_other _ _ (Ne.symm hb)
 show Q () {s with heap:=h2.update e (Obj.mapFields (·.setIfInBounds 1 (Value.ref h1.objs.size)))};rw[<-xE]at g3⊢;have v1:(vs.setIfInBounds 1 (Value.ref h1.objs.size))[1]?=some (.ref h1.objs.size):=by simp[hz]
 refine h _ h1.objs.size ?_ ⟨⟨_,_,g3,Obj.cls_mapFields _ _,d3,v1,(qy _ _).trans fx⟩,nT,_,fs,(o3 _ nT).trans t2,rfl,fz⟩ (fun b o z hb hn=>?_) fun b o z hb=>?_
 .cases z:s.heap.get? h1.objs.size with
  |none=>rfl
  |some o=>
   obtain⟨sl,q⟩:=iF.2.2 _ o z;exact absurd (zAz q) (Nat.lt_irrefl _)
 .rw[o3 b hb];exact k2 b o ((iF.2.1 b hn).trans z)
 .obtain⟨sl,q⟩:=iF.2.2 b o z;refine⟨sl,?_⟩;rw[o3 b hb];exact k2 b _ q
theorem Bw{base:Heap}{env aI:Env}{outer:List Env}{L e:Addr}{C tb:Value}{Q:Unit->Shared->Prop}
  (eB:A.frames=some (env::outer)) (hl:s.heap.FunFrames base (env::outer)) (hf:env.frame=some L) (yY:aI.frame=some L) (fl:Fly s.heap e C tb)
  (h:∀h' T,s.heap.get? T=none->FlyF h' e C T (rawInt L)->(∀b o,s.heap.get? b=some o->b≠e->tb≠.ref b->b∉frs (env::outer)->h'.get? b=some o)->(∀b o,s.heap.get? b=some o->b≠e->tb≠.ref b->∃sl,h'.get? b=some {o with slots:=sl})->(∀b o,s.heap.get? b=some o->∃o',h'.get? b=some o')->Q () {s with heap:=h'}):
  wpAny M A (noteFrame (.ref e) aI) Q E s:=by
 obtain⟨⟨oe,vs,he,rfl,hd,h1,fx⟩,tr⟩:=fl;have hz:=(Array.getElem?_eq_some_iff.mp h1).1;unfold noteFrame;simp only[yY];refine wpAny_bind (wpAny_field he hd h1 ?_);rcases tr with rfl|⟨T0,oT,ts,rfl,nT,hT,dE,h3⟩
 .rw[zB0 Zx];refine qG eB hl hf yY he hd hz fx fun h' T nT cq k1 k2=>h h' T nT cq (fun b o z hb _ hn=>k1 b o z hb hn) (fun b o z hb _=>k2 b o z hb) fun b o z=>?_;by_cases hb:b=e
  .obtain⟨mx,_,q,_⟩:=cq.obj;exact⟨mx,hb▸q⟩
  .obtain⟨sl,q⟩:=k2 b o z hb;exact⟨_,q⟩
 .rw[if_pos (show(Value.ref T0 != Value.none)=true by simp)];refine wpAny_bind (wpAny_field hT dE h3 ?_);rw[if_neg (show¬((Value.none==rawInt L)=true) by simp[rawInt])];refine wpAny_bind (wpAny_setField hT dE (Array.getElem?_eq_some_iff.mp h3).1 ?_)
  obtain⟨g,eg⟩:∃g,g=s.heap.update T0 (Obj.mapFields (·.setIfInBounds 3 Value.none)):=⟨_,rfl⟩
  have og:∀b,b≠T0->g.get? b=s.heap.get? b:=fun b hb=>by rw[eg];exact Heap.get?_update_other _ _ (Ne.symm hb)
  have tg:∃o,g.get? T0=some o:=⟨_,by rw[eg];exact Heap.get?_update_self _ hT (Obj.isFreed_of_fields (Obj.data_mapFields dE _))⟩
  have cE:g.FunFrames base (env::outer):=hl.of_keeps fun b o z hn=>⟨o,(og b fun q=>by rw[q,hT]at z;cases z;exact hn ts dE).trans z,rfl⟩
  show wpAny M A _ _ E {s with heap:=s.heap.update T0 (Obj.mapFields (·.setIfInBounds 3 Value.none))};rw[<-eg];refine qG (s:={s with heap:=g}) eB cE hf yY ((og e (Ne.symm nT)).trans he) hd hz fx fun h' T gg cq k1 k2=>h h' T ?_ cq (fun b o z hb ht hn=>k1 b o ((og b fun q=>ht (by rw[q])).trans z) hb hn) (fun b o z hb ht=>k2 b o ((og b fun q=>ht (by rw[q])).trans z) hb) fun b o z=>?_
  .have gg:g.get? T=none:=gg;by_cases q:T=T0
   .obtain⟨o,e⟩:=tg;rw[q,e]at gg;cases gg
   .rw[<-og T q];exact gg
  .by_cases hb:b=e
   .obtain⟨mx,_,q,_⟩:=cq.obj;exact⟨mx,hb▸q⟩
   .obtain⟨o2,e2⟩:∃o2,g.get? b=some o2:=by
     by_cases q:b=T0
     .rw[q];exact tg
     .exact⟨o,(og b q).trans z⟩
    obtain⟨sl,q⟩:=k2 b o2 e2 hb;exact⟨_,q⟩
theorem xm{e T:Addr}{C f:Value}{fr:Option Addr}{Q:Unit->Shared->Prop}(fl:FlyF s.heap e C T f)
  (h:∀h',FlyF h' e C T (fr.elim .none fun f=>rawInt f)->(∀b o,b≠T->s.heap.get? b=some o->h'.get? b=some o)->(∃o,h'.get? T=some o)->Q () {s with heap:=h'}):wpAny M A (setFlight (.ref e) fr) Q E s:=by
 obtain⟨⟨oe,vs,he,rfl,hd,h1,fx⟩,nT,oT,ts,hT,dE,h3⟩:=fl;unfold setFlight;refine wpAny_bind (wpAny_field he hd h1 ?_);rw[if_pos (show(Value.ref T != Value.none)=true by simp)];have hz:=(Array.getElem?_eq_some_iff.mp h3).1;refine wpAny_setField hT dE hz ?_;have g:=Heap.get?_update_self (Obj.mapFields (·.setIfInBounds 3 (fr.elim Value.none fun f=>rawInt f))) hT (Obj.isFreed_of_fields (Obj.data_mapFields dE _));have og:∀b,b≠T->(s.heap.update T (Obj.mapFields (·.setIfInBounds 3 (fr.elim Value.none fun f=>rawInt f)))).get? b=s.heap.get? b:=fun b hb=>Heap.get?_update_other _ _ (Ne.symm hb);exact h _ ⟨⟨oe,vs,(og e (Ne.symm nT)).trans he,rfl,hd,h1,fx⟩,nT,_,_,g,Obj.data_mapFields dE _,by simp[hz]⟩ (fun b o hb e=>(og b hb).trans e) ⟨_,g⟩
theorem Ft{α:Type}{DI:String}{env:Env}{e T:Addr}{C f:Value}{Q:α->Shared->Prop}(fl:FlyF s.heap e C T f)
  (h:∀h' f',FlyF h' e C T f'->(∀b o,b≠T->s.heap.get? b=some o->h'.get? b=some o)->(∃o,h'.get? T=some o)->E (.ref e) {s with heap:=h'}):wpAny M A (PySem.passOn DI (.ref e) env:Sem α) Q E s:=by
 unfold PySem.passOn;obtain⟨oe,vs,he,rfl,hd,h1,fx⟩:=id fl.obj;refine wpAny_bind (wpAny_field he hd h1 ?_);rw[if_neg Zy];refine wpAny_bind (xm (fr:=env.frame) fl fun h' cq k t=>?_);exact wpAny_throw (h h' _ cq k t)
theorem Fv{base:Heap}{env:Env}{outer:List Env}{L e T0:Addr}{C f:Value}{Q:Unit->Shared->Prop}
  (eB:A.frames=some (env::outer)) (hl:s.heap.FunFrames base (env::outer)) (hf:env.frame=some L) (fl:FlyF s.heap e C T0 f)
  (h:∀h' T,(s.heap.get? T=none\/T=T0)->Fly h' e C (.ref T)->(∀b o,s.heap.get? b=some o->b≠e->b≠T0->b∉frs (env::outer)->h'.get? b=some o)->(∀b o,s.heap.get? b=some o->b≠e->b≠T0->∃sl,h'.get? b=some {o with slots:=sl})->(∀b o,s.heap.get? b=some o->∃o',h'.get? b=some o')->Q () {s with heap:=h'}):
  wpAny M A (leaving env (.ref e)) Q E s:=by
 have y6:∀{h':Heap} {T:Addr},FlyF h' e C T .none->Fly h' e C (.ref T):=fun{h' T} x=>by
  obtain⟨o,nT,oT,ts,a1,a2,a3⟩:=x;exact⟨o,.inr ⟨T,oT,ts,rfl,nT,a1,a2,a3⟩⟩
 unfold leaving;obtain⟨⟨oe,vs,he,ec,hd,h1,fx⟩,nT,oT,ts,hT,dE,h3⟩:=id fl;have hz:=(Array.getElem?_eq_some_iff.mp h1).1;refine wpAny_bind ?_;unfold noteFrame;simp only[hf];refine wpAny_bind (wpAny_field he hd h1 ?_);rw[if_pos (show(Value.ref T0 != Value.none)=true by simp)];refine wpAny_bind (wpAny_field hT dE h3 ?_);by_cases hq:(f==rawInt L)=true
 .rw[zB3 hq];refine zAw (xm (fr:=none) fl fun h' cq k t=>h h' T0 (.inr rfl) (y6 cq) (fun b o z hb DJ _=>k b o DJ z) (fun b o z hb DJ=>⟨o.slots,k b o DJ z⟩) fun b o z=>?_);by_cases hb:b=T0
  .rw[hb];exact t
  .exact⟨o,k b o hb z⟩
 .rw[zB0 hq];refine zAt (wpAny_setField hT dE (Array.getElem?_eq_some_iff.mp h3).1 ?_)
  obtain⟨g,eg⟩:∃g,g=s.heap.update T0 (Obj.mapFields (·.setIfInBounds 3 Value.none)):=⟨_,rfl⟩
  have og:∀b,b≠T0->g.get? b=s.heap.get? b:=fun b hb=>by rw[eg];exact Heap.get?_update_other _ _ (Ne.symm hb)
  have tg:∃o,g.get? T0=some o:=⟨_,by rw[eg];exact Heap.get?_update_self _ hT (Obj.isFreed_of_fields (Obj.data_mapFields dE _))⟩
  have cE:g.FunFrames base (env::outer):=hl.of_keeps fun b o z hn=>⟨o,(og b fun q=>by rw[q,hT]at z;cases z;exact hn ts dE).trans z,rfl⟩
  show wpAny M A _ _ E {s with heap:=s.heap.update T0 (Obj.mapFields (·.setIfInBounds 3 Value.none))};rw[<-eg];subst ec;refine oJ (s:={s with heap:=g}) eB cE hf ((og e (Ne.symm nT)).trans he) hd hz fx fun h' T gg cq k1 k2=>h h' T (.inl ?_) cq (fun b o z hb ht hn=>k1 b o ((og b ht).trans z) hb hn) (fun b o z hb ht=>k2 b o ((og b ht).trans z) hb) fun b o z=>?_
  .have gg:g.get? T=none:=gg;by_cases q:T=T0
   .obtain⟨o,e⟩:=tg;rw[q,e]at gg;cases gg
   .rw[<-og T q];exact gg
  .by_cases hb:b=e
   .obtain⟨mx,_,q,_⟩:=cq.obj;exact⟨mx,hb▸q⟩
   .obtain⟨o2,e2⟩:∃o2,g.get? b=some o2:=by
     by_cases q:b=T0
     .rw[q];exact tg
     .exact⟨o,(og b q).trans z⟩
    obtain⟨sl,q⟩:=k2 b o2 e2 hb;exact⟨_,q⟩
end
def xn(X:Cx)(EX:Addr->Addr->Hp->Prop):Prop:=∀(Zt:List (Addr×Obj)) (σ:St) (H:Hp) (s:Shared) (a C T:Addr) (f:Value),Inv X Zt σ H s->FlyF s.heap a (.ref C) T f->X.s₀.heap.get? a=none->H a=none->
 X.s₀.heap.get? T=none->H T=none->EX a C H->X.xe (.ref a) s
theorem Bx{P:Program}{w:World}{K:Frag}{mg:Str->Option Value}{base:Heap}{N:List Str}{qual:Str}{scope:Scope}{f:Addr}{cd:Value}{A:Around}{outer:List Env}{s:Shared}{H:Hp}{E:XK} :
  xn (jb (CX1 P w) P w K mg base N qual scope f cd A outer s H E) fun a C H'=>E (.ref a) (some C) H':=by
 intro Zt σ H' s' a C T0 ff I fl na fa BA IA q;show wpAny (model P w) (A.deeper (envOfC qual scope s.heap.objs.size f cd)) (leaving (envOfC qual scope s.heap.objs.size f cd) (.ref a)) (fun _ dy=>CX1 P w outer H s E (.ref a) dy) (fun e' dy=>CX1 P w outer H s E e' dy) s';have cn:s'.heap.FunFrames base (envOfC qual scope s.heap.objs.size f cd::outer):=I.stack;have eB:(A.deeper (envOfC qual scope s.heap.objs.size f cd)).frames=some (envOfC qual scope s.heap.objs.size f cd::outer):=I.ok.frames
 have jv:(envOfC qual scope s.heap.objs.size f cd).frame=some s.heap.objs.size:=by
  rcases I.ok.stk with z|z
  .exact absurd (congrArg List.length (show(envOfC qual scope s.heap.objs.size f cd::outer)=outer from z)) Zy
  .exact z.2
 have ub:Un (frs outer) [] H H' s.heap s'.heap:=I.base;have na:s.heap.get? a=none:=na;have BA:s.heap.get? T0=none:=BA;refine Fv eB cn jv fl fun h' T nT cq k1 k2 k3=>?_
 have apart:∀b o,s.heap.get? b=some o->b≠a/\b≠T0:=fun b o e=>⟨fun z=>(by rw[z,na]at e;cases e),fun z=>(by rw[z,BA]at e;cases e)⟩
 have xI:∀b o,s.heap.get? b=some o->b∉frs outer->b∉frs (envOfC qual scope s.heap.objs.size f cd::outer):=fun b o e hn hm=>by
  unfold frs at hm;rw[List.filterMap_cons,jv]at hm;rcases zAo.mp hm with z|z
  .exact absurd (zAz e) (by rw[z];exact Nat.lt_irrefl _)
  .exact hn z
 refine⟨a,C,H',T,rfl,I.os,I.bare,⟨fun b o e n hb _=>?_,fun b o e n hb _=>?_,ub.free,fun b o e hx=>?_,ub.tups,ub.frzs,ub.tbls⟩,fun c o e=>?_,na,?_,fa,?_,cq,q⟩
 .exact k1 b o (ub.keep b o e n hb Zy) (apart b o e).1 (apart b o e).2 (xI b o e hb)
 .obtain⟨sl,e1⟩:=ub.slot b o e n hb Zy;obtain⟨fN,e2⟩:=k2 b _ e1 (apart b o e).1 (apart b o e).2;exact⟨fN,e2⟩
 .obtain⟨o',e1⟩:=ub.there b o e hx;exact k3 b o' e1
 .refine(I.hok c o e).stay (fun d v hd z=>?_) (fun _ z=>z) fun _ _ z=>z
  have mB:∃o',H' d=some o':=by
   rcases hd with z|z
   .exact⟨o,by rw[z];exact e⟩
   .exact⟨_,z⟩
  obtain⟨o',eo⟩:=mB;refine k1 d v z (fun y=>(by rw[y,fa]at eo;cases eo)) (fun y=>(by rw[y,IA]at eo;cases eo)) fun hm=>?_;rw[I.stkFree d hm]at eo;cases eo
 .rcases nT with nT|rfl
  .exact I.was rfl nT
  .exact BA
 .rcases nT with nT|rfl
  .exact I.hok.no nT
  .exact IA
def exC(X Y:Cx)(E:XK):Value->Shared->Prop:=fun e s'=>∃Zt σ H s,Inv Y Zt σ H s/\CX1 X.prog X.w X.stack H s E e s'
theorem vV{X:Cx}{scope:Scope}{Nc:List Str}{C:Addr}{fp:List Addr}{pT Zt bE:List (Addr×Obj)}{s₂ s s':Shared}{H₂ H:Hp}{σ af:St}{e acc:Value}{E:XK}{use:Option (Value->Sem Unit)}{Q:Value->Shared->Prop}{E0:Value->Shared->Prop}(hs:X.stack=X.env::X.outer)(hx:X.ex=[])(ae:Inv X Zt σ H₂ s₂)(hf:∀b∈fp,lR X Zt H₂ b)(Nn:∀b∈fp,∃o,s.heap.get? b=some o)
  (hC:s₂.heap.objs.size<=C) (It:Inv (cxC X scope Nc C fp pT s₂ H₂) bE af H s) (x:CX1 X.prog X.w X.stack H s E e s') (WF:xn X fun a C H=>E (.ref a) (some C) H):
  wpAny (model X.prog X.w) X.A (noteFrame e (compEnvC scope (bY X.env.cells scope.names []) C X.env)) (fun _ s9=>compPost (model X.prog X.w) X.A X.xe use Q acc C (.error e) s9) E0 s':=by
 obtain⟨a,Ce,H',T,rfl,os,bare,un,hok,na,nT,fa,fT,fl,q⟩:=x;have J:Inv (cxC X scope Nc C fp pT s₂ H₂) bE af H' s':=It.call' os un hok bare fun b z=>absurd z Zy;have cn:s'.heap.FunFrames X.base (X.env::X.outer):=by rw[<-hs];exact J.stack
 have eB:X.A.frames=some (X.env::X.outer):=by rw[<-hs];exact ae.ok.frames
 have jv:X.env.frame=some X.env.locals:=by
  rcases ae.ok.stk with z|z
  .rw[hs]at z;exact absurd (congrArg List.length z) Zy
  .exact z.2
 have old:∀b o,s₂.heap.get? b=some o->(∃o',s.heap.get? b=some o')/\∃o',s'.heap.get? b=some o':=fun b o e=>by
  have h1:∃o',s.heap.get? b=some o':=by
   by_cases hb:b∈fp
   .exact Nn b hb
   .exact It.base.there b o e hb
  obtain⟨o',e'⟩:=h1;exact⟨⟨o',e'⟩,un.there b o' e' Zy⟩
 have fresh:∀b,(s.heap.get? b=none\/s'.heap.get? b=none)->s₂.heap.get? b=none:=fun b hb=>by
  cases z:s₂.heap.get? b with
  |none=>rfl
  |some o=>
   obtain⟨⟨o1,e1⟩,o2,e2⟩:=old b o z;rcases hb with hb|hb
   .rw[e1]at hb;cases hb
   .rw[e2]at hb;cases hb
 obtain⟨m,hn,_⟩:=J.loc;have hn:s'.heap.Ns C m:=hn;have Np:H' C=none:=J.free;obtain⟨oC,es,ep,gC,dC,sk,fd⟩:=id hn
 have aC:C≠a:=fun z=>by
  obtain⟨oe,vs,h1,_,h2,_⟩:=fl.obj;rw[z,h1]at gC;cases gC;rw[h2]at dC;cases dC
 have TC:(Value.ref T:Value)≠.ref C:=fun z=>by
  cases z;rcases fl.tr with z|⟨T',oT,ts,e',_,h1,h2,_⟩
  .cases z
  .cases e';rw[h1]at gC;cases gC;rw[h2]at dC;cases dC
 refine Bw eB cn jv jv fl fun h9 T9 BB Nq k1 k2 k3=>?_
 have n9:h9.Ns C m:=by
  obtain⟨sl,g⟩:=k2 C oC gC aC TC;exact⟨_,es,ep,g,dC,sk,fd⟩
 show ∃m,h9.Ns C m/\_;refine⟨m,n9,fun BC sb ja tF=>?_⟩
 have Nr:T9≠C:=fun z=>by rw[z,gC]at BB;cases BB
 have DL:FlyF BC a (.ref Ce) T9 (rawInt X.env.locals):=by
  obtain⟨⟨oe,vs,e1,e2,e3,e4,e5⟩,f1,oT,ts,e6,e7,e8⟩:=Nq;exact⟨⟨oe,vs,(sb.2 a (Ne.symm aC)).trans e1,e2,e3,e4,e5⟩,f1,oT,ts,(sb.2 T9 Nr).trans e6,e7,e8⟩
 refine Ft (s:={s' with heap:=BC}) DL fun h11 f' DM k11 DO=>?_;have IB:H' T9=none:=J.hok.no BB;have IC:s₂.heap.get? a=none:=fresh a (.inl na);have ID:s₂.heap.get? T9=none:=fresh T9 (.inr BB);have DS:s₂.heap.get? T=none:=fresh T (.inl nT)
 have ap:∀b o,s₂.heap.get? b=some o->b≠a/\(Value.ref T:Value)≠.ref b/\b≠C/\b≠T9:=fun b o e=>⟨fun z=>(by rw[z,IC]at e;cases e),fun z=>(by cases z;rw[DS]at e;cases e),fun z=>absurd (zB2 (zAz e) hC) (by rw[z];exact Nat.lt_irrefl _),fun z=>(by rw[z,ID]at e;cases e)⟩
 have uJ:Un (frs X.stack) fp H₂ H' s₂.heap s'.heap:=J.base
 have un':Un (frs X.stack) fp H₂ H' s₂.heap h11:=by
  refine⟨fun b o e n hb hx=>?_,fun b o e n hb hx=>?_,uJ.free,fun b o e hx=>?_,uJ.tups,uJ.frzs,uJ.tbls⟩
  .obtain⟨a1,a2,a3,a4⟩:=ap b o e;exact k11 b o a4 ((sb.2 b a3).trans (k1 b o (uJ.keep b o e n hb hx) a1 a2 (by rw[<-hs];exact hb)))
  .obtain⟨a1,a2,a3,a4⟩:=ap b o e;obtain⟨sl,e1⟩:=uJ.slot b o e n hb hx;obtain⟨fN,e2⟩:=k2 b _ e1 a1 a2;exact⟨fN,k11 b _ a4 ((sb.2 b a3).trans e2)⟩
  .obtain⟨a1,a2,a3,a4⟩:=ap b o e;obtain⟨o1,e1⟩:=uJ.there b o e hx;obtain⟨o2,e2⟩:=k3 b o1 e1;exact⟨o2,k11 b o2 a4 ((sb.2 b a3).trans e2)⟩
 have kM:HOk X.prog X.w H' h11:=fun c o e=>by
  refine(J.hok c o e).stay (fun d v hd z=>?_) (fun _ z=>z) fun _ _ z=>z
  have mB:∃o',H' d=some o':=by
   rcases hd with z|z
   .exact⟨o,by rw[z];exact e⟩
   .exact⟨_,z⟩
  obtain⟨o',eo⟩:=mB;refine k11 d v (fun y=>(by rw[y,IB]at eo;cases eo)) ((sb.2 d fun y=>(by rw[y,Np]at eo;cases eo)).trans (k1 d v z (fun y=>(by rw[y,fa]at eo;cases eo)) (fun y=>(by cases y;rw[fT]at eo;cases eo)) fun hm=>?_));rw[J.stkFree d (show d∈frs X.stack by rw[hs];exact hm)]at eo;cases eo
 have K:Inv X Zt σ H' {s' with heap:=h11}:=ae.call' (s':={s' with heap:=h11}) (ch:=fp) J.os un' kM J.bare fun b hb=>by
  obtain⟨_,f1,f2,f3,f4,f5⟩:=hf b hb;exact⟨f3,f1,f4,f5⟩
 exact WF Zt σ H' _ a Ce T9 f' K DM (ae.was hx IC) fa (ae.was hx ID) IB q
theorem pP{prog:Program}{w:World}{A:Around}{R:Result->Shared->Prop}{s:Shared}{elt target iter:Expr}{ifs:List Expr}{scope:Scope}{pos:Pos}{it acc:Value}{env:Env}(I:Nat->Shared->Prop)
  (turn:∀n s,I n s->wpAny (model prog w) A (pyNext it) (fun r s₁=>match r with
   |none=>R (.ok .next) s₁
   |some v=>wpAny (model prog w) A (letOwnedTupleGo target it v) (fun _ fR=>wpAny (model prog w) A (assign target env v) (fun _ s₂=>
     wpAny (model prog w) A (forIn ifs true fun c r=>if r=true then do let ok <-isTrue c env (eval c env);pure (ForInStep.yield ok)else pure (ForInStep.yield r)) (fun ok s₃=>
      if ok=true then wpAny (model prog w) A (eval elt env) (fun x fh=>
       wpAny (model prog w) A (call (.builtin "list.append") [acc,x]) (fun _ kC=>∃m,m<n/\I m kC) (fun _ _=>False) fh) (notedBy (model prog w) A env fun e s'=>R (.error e) s') s₃
      else ∃m,m<n/\I m s₃) (fun _ _=>False) s₂) (fun _ _=>False) fR) (fun _ _=>False) s₁) (fun _ _=>False) s)
  (n:Nat) (h:I n s):
  codeAny (model prog w) A (.compLoop (.ListComp elt [⟨target,iter,ifs,0⟩] scope pos) 0 it acc env) R s:=by
 refine codeAny_loop rfl I (fun n s hI=>?_) n h;show wpAny _ A ((compTurn (.ListComp elt [⟨target,iter,ifs,0⟩] scope pos) 0 it acc env).onRaise (fun x=>do noteFrame x env;theTreesLotGoes x)) _ _ s;refine wpAny_noted ?_;rw[compTurn_list];refine zAt (wpAny_standAt (zAt (wpAny_mono (turn n s hI) (fun r s₁ bg=>?_) fun _ _ h'=>h'.elim)))
 cases r with
 |none=>exact zAw bg
 |some v=>
  refine zAt (wpAny_mono bg (fun _ fR kD=>?_) fun _ _ h'=>h'.elim);refine zAt (wpAny_mono kD (fun _ s₂ ej=>zAt (wpAny_mono ej (fun ok s₃ gy=>?_) fun _ _ h'=>h'.elim)) fun _ _ h'=>h'.elim)
  cases ok with
  |false=>exact zAw ⟨rfl,gy⟩
  |true=>
   exact zAt (zAt (wpAny_mono gy (fun x fh qE=>zAt (wpAny_mono qE (fun _ kC qS=>zAw (zAw ⟨rfl,qS⟩)) fun _ _ h'=>h'.elim)) fun _ _ h'=>h'))
theorem vW{X:Cx}{tg iter elt:Expr}{ifs:List Expr}{scope:Scope}{pos:Pos}{Nc:List Str}{src:List (Option Nat)}{g:TG}{tt:TT}{te:TE}{EX:XK}(hc:X.calm=true)(S:CScope X scope)
  (bX:∀C,Caps X (compEnvC scope (bY X.env.cells scope.names []) C X.env) Nc src)
  (hb:∀C fp Zt s₂ H₂,PG (cxC X scope Nc C fp Zt s₂ H₂) tg g/\PTs (cxC X scope Nc C fp Zt s₂ H₂) ifs tt/\PE ((cxC X scope Nc C fp Zt s₂ H₂).wish (exC X (cxC X scope Nc C fp Zt s₂ H₂) EX)) elt te)
  {Zt:List (Addr×Obj)} {s₂:Shared} {σ:St} {H₂:Hp} {it:Addr} {fp:List Addr} {tn:Nat->Heap->Prop} {J:It} (ae:Inv X Zt σ H₂ s₂) (T:Turn X.prog X.w X.K tg J fp it tn) (st:tn 0 s₂.heap) (hf:∀b∈fp,lR X Zt H₂ b)
  {Q:Value->Shared->Prop} (DT:X.stack=X.env::X.outer) (DU:X.ex=[]) (WF:xn X fun a C H=>EX (.ref a) (some C) H) {Fin:List V->Hp->Prop} (hW:iw J g tt te Fin (capσ σ src) H₂) {E:Value->Shared->Prop}
  (CD:∀D C s' ys H' m,Fin ys H'->H' D=none->Inv X Zt σ (upd H' D (.lst ys)) s'->s'.heap.Ns C m->lR X Zt (upd H' D (.lst ys)) C->compPost (model X.prog X.w) X.A X.xe none Q (.ref D) C (.ok .next) s'):
  wpAny (model X.prog X.w) X.A (newList []) (fun acc s₃=>wpAny (model X.prog X.w) X.A (newFunctionEnv scope X.env.globals (bY X.env.cells scope.names []) [] X.env.qual none .none (some X.env)) (fun ja fh=>
   codeAny (model X.prog X.w) X.A (.compStart (.ListComp elt [⟨tg,iter,ifs,0⟩] scope pos) 0 (.ref it) acc {ja with scope:=relabel scope X.env}) (compPost (model X.prog X.w) X.A X.xe none Q acc ja.locals) fh) E s₃) E s₂:=by
 refine wpAny_newObj_type (wpAny_newFunctionEnv S.hcell (by intro y hy;simp at hy) (fun bg aT aw=>?_) S.kind);dsimp only at aT aw⊢;generalize qV:s₂.heap.push {cls:=.type "list",dict:=none,data:=.seq ([]:List Value).toArray}=HH at aT aw⊢;generalize fw:s₂.heap.objs.size=D at aT aw⊢;have hC:HH.objs.size=D+1:=by rw[<-qV,Heap.size_push,fw]
 generalize MP:HH.objs.size=C at aT aw hC⊢;have ml:D≠C:=Zz
 have below:∀b,b<s₂.heap.objs.size->b≠C/\b≠D:=fun b hb=>by rw[fw]at hb;exact⟨by rw[hC];exact zB4 (Nat.lt_succ_of_lt hb),zB4 hb⟩
 have ai:∀{b o},s₂.heap.get? b=some o->b≠C/\b≠D:=fun{b o} e=>below b (zAz e);have old:∀b o,s₂.heap.get? b=some o->bg.get? b=some o:=fun b o e=>aw.extBut b o (ai e).1 (zAv _ (qV▸zAv _ e));have rb:bg.get? D=some {cls:=.type "list",data:=.seq ([]:List Value).toArray}:=aw.extBut _ _ ml (zAv _ (qV▸fw▸zB1 _ rfl))
 have CF:∀b∈fp,∃o,s₂.heap.get? b=some o:=fun b hb=>let⟨o,e,_⟩:=T.obj _ _ st b hb;⟨o,e⟩
 have mm:∀b∈fp,b≠C/\b≠D:=fun b hb=>let⟨o,e⟩:=CF b hb;ai e
 have sub:∀{x c},(bY X.env.cells scope.names []).lookup x=some c->X.env.cells.lookup x=some c:=fun{x c} e=>by
  rcases iu scope.names [] S.hfree e with z|z
  .simp at z
  .exact z
 have CH:∀{b o},s₂.heap.get? b=some o->b<D:=fun{b o} e=>by rw[<-fw];exact zAz e
 have fresh:∀a,D<=a->H₂ a=none:=fun a ha=>ae.hok.fresh (by rw[fw];exact ha)
 have fS:∀{x c},X.env.cells.lookup x=some c->∃o,s₂.heap.get? c=some o:=fun{x c} e=>let⟨v,o,ho,_⟩:=ae.cell x c e;⟨o,ho⟩
 have rf:∀b∈frs X.stack,∃o,s₂.heap.get? b=some o:=fun b hb=>by
  rcases zAo.mp (ae.stkSub b hb)with e|hb
  .rw[e];obtain⟨m,⟨o,_,_,ho,_⟩,_⟩:=ae.loc;exact⟨o,ho⟩
  .obtain⟨_,o,ho,_⟩:=ae.funs.mem hb;exact⟨o,ho⟩
 have rg:∀a,D<=a->a∉frs X.stack:=fun a ha hb=>by
  obtain⟨o,e⟩:=rf a hb;exact absurd (zB2 (CH e) ha) (Nat.lt_irrefl _)
 have wt:∀b∈fp,b∉frs X.stack:=fun b hb z=>by
  obtain⟨_,f1,f2,_⟩:=hf b hb;rcases zAo.mp (ae.stkSub b z)with e|e
  .exact f1 e
  .exact f2 e
 generalize bo:cxC X scope Nc C fp Zt s₂ H₂=X';obtain⟨hg,ht,_⟩:=hb C fp Zt s₂ H₂;rw[bo]at hg ht
 have wx:X'.Ok:=by
  subst bo;refine⟨ae.ok.mod,S.kind,ae.ok.glob,ae.ok.blt,?_,?_,?_,?_,ae.ok.hd,ae.ok.frames,.inl rfl,?_,ae.bs,Nat.le_trans ae.ok.bsz ae.sz,?_,wt,ae.stack,ae.stkFree⟩
  .show s₂.heap.objs.size<=C;lia
  .exact fun x y c e1 e2=>ae.ok.inj x y c (sub e1) (sub e2)
  .intro x hx;have hx:(relabel scope X.env).names.lookup x=some .cell\/(relabel scope X.env).names.lookup x=some .free:=hx
   have:∃k',(x,k')∈scope.names/\k'=NameKind.free:=by
    rcases hx with z|z
    .exact gJ S.hcell z (.inl rfl)
    .exact gJ S.hcell z (.inr rfl)
   exact jc scope.names [] (.inl this)
  .intro x c z;exact absurd z (by show¬(false=true);simp)
  .intro b hb;exact⟨(mm b hb).1,fun x c e=>(hf b hb).2.2.2.2.1 x c (sub e)⟩
  .intro b o e hb;obtain⟨_,_,_,f3,_⟩:=hf b hb;rcases f3 with z|z
   .exact ae.ok.noex b o e z
   .exact absurd (zB2 (zAz (ae.ok.bs b o e).1) z) (Nat.lt_irrefl _)
 have eP:X'.prog=X.prog:=by subst bo;rfl
 have ew:X'.w=X.w:=by subst bo;rfl
 have eK:X'.K=X.K:=by subst bo;rfl
 have eA:X'.A=X.A:=by subst bo;rfl
 have eE:X'.xe=fun _ _=>False:=by subst bo;rfl
 have eL:X'.env.locals=C:=by subst bo;rfl
 have eN:X'.env=compEnvC scope (bY X.env.cells scope.names []) C X.env:=by subst bo;rfl
 have ec:X'.calm=true:=by subst bo;exact hc
 have eS:X'.s₀=s₂:=by subst bo;rfl
 have eH:X'.H₀=H₂:=by subst bo;rfl
 have ef:X'.fs=frs X.stack:=by subst bo;rfl
 have ex:X'.ex=fp:=by subst bo;rfl
 have ep:X'.pn=X.pn++Zt:=by subst bo;rfl
 have I0:Inv X' [] (capσ σ src) H₂ {s₂ with heap:=bg,toks:=s₂.toks+([]:List (Str×Value)).length}:=by
  refine⟨wx,by rw[eS],ae.bare,by rw[eS,eH];exact Un.kept old,⟨_,by rw[eL];exact aT,?_⟩,?_,by rw[eL];exact fresh _ Zz,?_,?_,by rw[eP,ew];exact ae.hok.kept old,?_⟩
  .intro j x v e1 e2 e3;have e1:Nc[j]?=some x:=by subst bo;exact e1
   have e4:∃i,src[j]?=some (some i)/\(σ[i]?).join=some v:=by
    unfold capσ at e2;rw[zAb]at e2
    cases q:src[j]? with
    |none=>rw[q]at e2;cases e2
    |some o=>
     rw[q]at e2
     cases o with
     |none=>simp at e2
     |some i=>exact⟨i,rfl,by simpa using e2⟩
   obtain⟨i,e5,e6⟩:=e4;obtain⟨c1,c2,c3,c4⟩:=(bX C).get e1 e5
   have e7:σ[i]?=some (some v):=by
    cases q:σ[i]? with
    |none=>rw[q]at e6;simp at e6
    |some o=>rw[q]at e6;simp at e6;rw[e6]
   obtain⟨m,_,hl⟩:=ae.loc;obtain⟨u,r,l⟩:=hl i x v c1 e7 (.inr (by rcases c2 with z|z;exact .inl z;exact .inr z));refine⟨u,r,?_⟩;rcases l with⟨k,_⟩|⟨_,c,e,z⟩
   .rcases c2 with c2|c2<;>(rw[k]at c2;cases c2)
   .refine .inr ⟨by rw[eN];exact c4,c,by rw[eN];exact c3.trans e,?_⟩;obtain⟨o,ho,hd⟩:=z;exact⟨o,old c o ho,hd⟩
  .intro x c e;rw[eN]at e;obtain⟨v,o,ho,hd⟩:=ae.cell x c (sub e);exact⟨v,o,old c o ho,hd⟩
  .intro x c e;rw[eN]at e;exact ae.freeC x c (sub e)
  .intro p hp;rw[ep,zAn]at hp;obtain⟨e,n,ne,nf,d⟩:=ae.pin p hp;refine⟨old _ _ e,n,by rw[eL];exact(ai e).1,?_,d⟩;rw[ef];intro z;rcases zAo.mp (ae.stkSub _ z)with q|q
   .exact ne q
   .exact nf q
  .have:=(bX C).len;subst bo;show(capσ σ src).length=Nc.length;unfold capσ;rw[zA1,this]
 have CI:∀p∈X'.pn,p.1≠D:=fun p hp=>by
  rw[ep]at hp;exact(ai (ae.pin p hp).1).2
 have kF:∀x c,X'.env.cells.lookup x=some c->c≠D:=fun x c e=>by
  rw[eN]at e;obtain⟨o,ho⟩:=fS (sub e);exact(ai ho).2
 have rh:∀{P:List (Addr×Obj)} {H:Hp},(∀p∈P,p.1=D)->(∀b∈fp,H b=none)->∀b∈fp,lR X' P H b:=fun{P H} hP hn b hb=>by
  refine⟨hn b hb,by rw[eL];exact(mm b hb).1,by rw[ef];exact wt b hb,.inl (by rw[ex];exact hb),fun x c e=>?_,fun p hp=>?_⟩
  .rw[eN]at e;exact(hf b hb).2.2.2.2.1 x c (sub e)
  .rcases zA6.mp hp with z|z
   .rw[ep]at z;exact(hf b hb).2.2.2.2.2 p z
   .rw[hP p z];exact(mm b hb).2.symm
 obtain⟨W,⟨m0,w0⟩,step⟩:=hW
 have loop:∀s₃:Shared,s₃={s₂ with heap:=bg,toks:=s₂.toks+([]:List (Str×Value)).length}->
   codeAny (model X.prog X.w) X.A (.compLoop (.ListComp elt [⟨tg,iter,ifs,0⟩] scope pos) 0 (.ref it) (.ref D) (compEnvC scope (bY X.env.cells scope.names []) C X.env)) (compPost (model X.prog X.w) X.A X.xe none Q (.ref D) C) s₃:=by
  rintro s₃ rfl
  refine pP (fun n s'=>∃i ys us k af H',Inv X' [] af H' s'/\tn i s'.heap/\(∀b∈fp,H' b=none)/\H' D=none/\s'.heap.get? D=some {cls:=.type "list",data:=.seq (List.toArray us) k}/\Vals ys us/\W i n ys af H') ?_ m0
   ⟨0,[],[],_,_,_,I0,T.keep _ _ _ st fun b _ o e=>old b o e,fun b hb=>(hf b hb).1,fresh _ (zA3 _),rb,.nil,w0⟩
  rintro n s3 ⟨i,ys,us,k,fI,H3,I3,nr,nv,gz,CL,mn,w3⟩;obtain⟨hsz,gE⟩:=step i n ys fI H3 w3
  have w9:Inv X' [(D,{cls:=.type "list",data:=.seq us.toArray k})] fI H3 s3:=I3.pins_of fun p hp=>by
   rw[List.mem_singleton.mp hp];exact⟨CL,gz,by rw[eL];exact ml,by rw[ef];exact rg _ (zA3 _),fun v z=>by cases z⟩
  have gI:∀p∈[(D,({cls:=.type "list",data:=.seq us.toArray k}:Obj))],p.1=D:=fun p hp=>by rw[List.mem_singleton.mp hp]
  rcases gE with⟨stop,fin⟩|⟨go,turn⟩
  ·-- the end
   have hd:=T.done X' eP ew eK ec i _ s3 fI H3 (fun _ _=>False) w9 (rh gI nv) nr stop;rw[eA]at hd;refine thn hd fun r s4 ⟨hr,I4⟩=>?_;subst hr;have pD:=I4.pin (D,{cls:=.type "list",data:=.seq us.toArray k}) (zB5 _ (List.mem_singleton.mpr rfl));obtain⟨mC,xa,_⟩:=I4.loc;rw[eL]at xa;have f7:=I4.base;rw[eS,eH,ef,ex]at f7;have hlen:ys.length<=sizeLine:=Nat.le_of_lt hsz
   have rj:HOk X.prog X.w (upd H3 D (.lst ys)) s4.heap:=fun b u e=>by
    by_cases hb:b=D
    .subst hb;rw[aa]at e;cases e;exact⟨hlen,us,k,mn,pD.1⟩
    .rw[aq hb]at e;have z:=I4.hok b u e;rw[eP,ew]at z
     exact z.stay (fun c v _ q=>q) (fun c q=>by rw[aq (aA q gz)];exact q) fun c xs q=>by rw[aq (aA q gz)];exact q
   have un:Un (frs X.stack) fp H₂ (upd H3 D (.lst ys)) s₂.heap s4.heap:=⟨f7.keep,f7.slot,fun b o e n hx=>by rw[aq (ai e).2];exact f7.free b o e n hx,f7.there,
    fun b xs e=>by
     have z:=f7.tups b xs e
     rw[aq (aA z gz)];exact z,
    fun b o u e=>by
     have z:=f7.frzs b o u e
     rw[aq (aA z gz)];exact z,
    fun b ps e=>by
     obtain⟨mo,z⟩:=f7.tbls b ps e
     exact⟨mo,by rw[aq (aA z gz)];exact z⟩⟩
   have J4:Inv X Zt σ (upd H3 D (.lst ys)) s4:=ae.call' (ch:=fp) (by have:=I4.os;rw[eS]at this;exact this) un rj I4.bare fun b hb=>by
    obtain⟨_,f1,f2,f3,f4,f5⟩:=hf b hb;exact⟨f3,f1,f4,f5⟩
   refine CD D C s4 ys H3 mC fin gz J4 xa ⟨?_,?_,?_,.inr ?_,?_,?_⟩
   .rw[aq ml.symm];have:=I4.free;rw[eL]at this;exact this
   .have:=ae.lt;rw[fw]at this;exact Nat.ne_of_gt (zB2 this (by rw[hC];exact Nat.le_succ _))
   .intro z;obtain⟨_,o,ho,_⟩:=ae.funs.mem z;exact(ai ho).1 rfl
   .have:=ae.sz;rw[fw]at this;lia
   .intro x c e z;obtain⟨o,ho⟩:=fS e;exact(ai ho).1 z
   .intro p hp z;exact(ai (ae.pin p hp).1).1 z
  ·-- a turn
   have hd:=T.item X' eP ew eK ec i _ s3 fI H3 (fun _ _=>False) w9 (rh gI nv) nr go;rw[eA]at hd;refine thn hd fun r s4 ⟨u,hr,h4⟩=>?_;subst hr;refine thn h4 fun _ s5 ⟨x,H5,I5,r5,y5,ki,wb⟩=>?_;have wc:=I5.pinned (rh gI wb) (T.obj _ _ ki);have xb:=hg _ s5 fI H5 x u _ wc r5 (turn x H5 y5);rw[eP,ew,eA,eE,eN]at xb;refine thn xb fun _ s6 ⟨eM,H6,I6,q6⟩=>?_;have nE:=ht _ s6 eM H6 _ I6 q6;rw[eP,ew,eA,eE,eN]at nE;refine thn nE fun xh s7 ⟨H7,I7,q7⟩=>?_
   have back:∀{H8:Hp} {s8:Shared},Inv X' ([(D,({cls:=.type "list",data:=.seq us.toArray k}:Obj))]++cW fp s5.heap) eM H8 s8->
     Inv X' [] eM H8 s8/\tn (i+1) s8.heap/\(∀b∈fp,H8 b=none)/\H8 D=none/\s8.heap.get? D=some {cls:=.type "list",data:=.seq us.toArray k}/\(∀b∈fp,∀o,s5.heap.get? b=some o->s8.heap.get? b=some o):=fun{H8 s8} I8=>by
    have pD:=I8.pin (D,{cls:=.type "list",data:=.seq us.toArray k}) (List.mem_append_right _ (List.mem_append_left _ (List.mem_singleton.mpr rfl)));have pf:∀b∈fp,∀o,s5.heap.get? b=some o->s8.heap.get? b=some o:=fun b hb o e=>(I8.pin (b,o) (List.mem_append_right _ (List.mem_append_right _ (dW hb e)))).1;refine⟨I8.pins_of fun p hp=>absurd hp Zy,T.keep _ _ _ ki pf,fun b hb=>?_,pD.2.1,pD.1,pf⟩;obtain⟨o,e,d⟩:=T.obj _ _ ki b hb;exact(I8.pin (b,o) (List.mem_append_right _ (List.mem_append_right _ (dW hb e)))).2.1
   cases xh with
   |false=>
    obtain⟨b1,b2,b3,b4,b5,_⟩:=back I7;obtain⟨m',hm,w7⟩:=q7;exact⟨m',hm,i+1,ys,us,k,eM,H7,b1,b2,b3,b4,b5,mn,w7⟩
   |true=>
    obtain⟨pT,DV⟩:∃pT,pT=Zt++([(D,({cls:=.type "list",data:=.seq us.toArray k}:Obj))]++cW fp s5.heap):=⟨_,rfl⟩
    have toT:∀{H8:Hp} {s8:Shared},Inv X' ([(D,({cls:=.type "list",data:=.seq us.toArray k}:Obj))]++cW fp s5.heap) eM H8 s8->Inv (cxC X scope Nc C fp pT s₂ H₂) [] eM H8 s8:=fun{H8 s8} I=>by
     subst bo DV;exact⟨⟨I.ok.mod,I.ok.kind,I.ok.glob,I.ok.blt,I.ok.above,I.ok.inj,I.ok.has,I.ok.cab,I.ok.hd,I.ok.frames,I.ok.stk,I.ok.exf,I.ok.bs,I.ok.bsz,I.ok.noex,I.ok.exfs,I.ok.funs,I.ok.frf⟩,I.os,I.bare,I.base,I.loc,I.cell,I.free,I.freeC,fun p hp=>I.pin p (by simpa[cxC]using hp),I.hok,I.len⟩
    have ofT:∀{H8:Hp} {s8:Shared},Inv (cxC X scope Nc C fp pT s₂ H₂) [] eM H8 s8->Inv X' ([(D,({cls:=.type "list",data:=.seq us.toArray k}:Obj))]++cW fp s5.heap) eM H8 s8:=fun{H8 s8} I=>by
     subst bo DV;exact⟨⟨I.ok.mod,I.ok.kind,I.ok.glob,I.ok.blt,I.ok.above,I.ok.inj,I.ok.has,I.ok.cab,I.ok.hd,I.ok.frames,I.ok.stk,I.ok.exf,I.ok.bs,I.ok.bsz,I.ok.noex,I.ok.exfs,I.ok.funs,I.ok.frf⟩,I.os,I.bare,I.base,I.loc,I.cell,I.free,I.freeC,fun p hp=>I.pin p (by simpa[cxC]using hp),I.hok,I.len⟩
    have tw:=(hb C fp pT s₂ H₂).2.2 [] s7 eM H7 _ ((toT I7).wish _) q7;show wpAny _ _ (eval elt _) _ _ s7;refine wpAny_mono tw (fun xv s8 ⟨y,H8,I8,r8,m',hm,w8⟩=>?_) fun e s8 ⟨bE,af,H8,s9,IT,x⟩=>?_
    rotate_left
    .refine vV (pT:=pT) DT DU ae hf (fun b hb=>?_) (by rw[fw,hC];exact Nat.le_succ _) IT x WF;obtain⟨o,e,_⟩:=T.obj _ _ ki b hb
     exact⟨o,(IT.pin (b,o) (by
      subst DV
      exact List.mem_append_left _ (zB5 _ (zB5 _ (zB5 _ (dW hb e)))))).1⟩
    replace I8:=ofT I8.unwish
    obtain⟨b1,b2,b3,b4,b5,b6⟩:=back I8;refine append_at (hsz:=by rw[zA8,<-mn.length];exact Nat.le_of_lt hsz) b5 fun h9 xi CM=>?_
    have I9:Inv X' [] eM H8 {s8 with heap:=h9}:=b1.turned (t':=s8.toks) (fun b o hb e=>xi.extBut b o hb e) b4 (by rw[eL];exact ml) (.inr (by rw[eS,fw];exact zA3 _)) kF fun p hp=>by
     rw[zAn]at hp;exact CI p hp
    refine⟨m',hm,i+1,ys++[y],us++[xv],k+1,eM,H8,I9,T.keep _ _ _ b2 fun b hb o e=>xi.extBut b o (mm b hb).2 e,b3,b4,?_,mn.append (.cons r8 .nil),w8⟩;show h9.get? D=_;rw[CM,List.push_toArray]
 refine codeAny_compStart_list (loop _ rfl) ?_;exact T.self _ 0 _ _ _ (T.keep _ _ _ st fun b _ o e=>old b o e) (loop _ rfl)
section
variable{X:Cx}{tg iter elt:Expr}{ifs:List Expr}{scope:Scope}{pos:Pos}{Nc:List Str}{wi:TI}{g:TG}{tt:TT}{te:TE}{EX:XK}
theorem By(Nc:List Str)(src:List (Option Nat))(hc:X.calm=true)(DT:X.stack=X.env::X.outer)(DU:X.ex=[])(WF:xn X fun a C H=>EX (.ref a) (some C) H)(hi:PI X tg iter wi)
  (hb:∀C fp Zt s₂ H₂,PG (cxC X scope Nc C fp Zt s₂ H₂) tg g/\PTs (cxC X scope Nc C fp Zt s₂ H₂) ifs tt/\PE ((cxC X scope Nc C fp Zt s₂ H₂).wish (exC X (cxC X scope Nc C fp Zt s₂ H₂) EX)) elt te)
  (bX:∀C,Caps X (compEnvC scope (bY X.env.cells scope.names []) C X.env) Nc src) (S:CScope X scope)
  (hs:∀x,foldedSetIterable iter X.env x=pure x:=by intro _;rfl):PE X (.ListComp elt [⟨tg,iter,ifs,0⟩] scope pos) (wQ wi src g tt te):=by
 intro Zt s σ H Q I h;rw[eval_ListComp];refine wpAny_comprehension_free (use:=none) rfl hs (jY S.hfree) S.kind S.hnames ?_;refine thn (hi Zt s σ H _ I h) fun v s1 h1=>thn h1 fun wa s2 h2=>?_;obtain⟨it,fp,tn,J,H2,e,I2,T,qa,f2,hW⟩:=h2;subst e;refine vW (Q:=EP X Zt σ Q) hc S bX hb I2 T qa f2 DT DU WF hW ?_;intro D C s' ys H' m fin nD J' hn fC;obtain⟨f0,f1,_,f3,f4,f5⟩:=fC;refine⟨m,hn,fun HE kG=>?_⟩;exact⟨.ref D,_,J'.turned (t':=s'.toks) (fun b o hb e=>kG.extBut b o hb e) f0 f1 f3 f4 f5,rfl,fin D nD⟩
theorem K1{C:Addr}{fp:List Addr}{Zt:List (Addr×Obj)}{s₂:Shared}{H₂:Hp}:nW (CX1 X.prog X.w) ((cxC X scope Nc C fp Zt s₂ H₂).wish (exC X (cxC X scope Nc C fp Zt s₂ H₂) EX)) EX:=
 fun bE σ H s e s' I x=>⟨bE,σ,H,s,I.unwish,x⟩
end
end L2
namespace TxP
open PySem PySem.NumText PySem.W
abbrev sg(c:Nat):Str:=⟨#[c]⟩
def ji(w:Str):Bool:=w.cps.toList.all fun c=>decide (48<=c)&&decide (c<=57)
def cF(w:Str):Bool:=decide (1<=w.length)&&(decide (w.length<=30)&&(ji w&&(decide (w=sg 48)||decide (w.cps.toList.head?≠some 48))))
def gA(w:Str):Int:=(digitsVal w.cps.toList:Nat)
abbrev cX(n:Int):Str:=Str.ofString (toString n)
theorem lu{a b:Str}(h:a.cps.toList=b.cps.toList):a=b:=by
 obtain⟨⟨x⟩⟩:=a;obtain⟨⟨y⟩⟩:=b;cases h;rfl
theorem vX{w:Str}(h:ji w=true):AllDigits w.cps.toList:=fun c hc=>by
 have:=List.all_eq_true.mp h c hc;simpa using this
theorem len_list(w:Str):w.cps.toList.length=w.length:=zA9
theorem uN:∀(n:Nat) (l:List Nat),l.length=n->AllDigits l->l≠[]->(l.head?≠some 48\/l=[48])->(Nat.toDigits 10 (digitsVal l)).map Char.toNat=l/\(l.head?≠some 48->0<digitsVal l):=by
 intro n
 induction n using Nat.strongRecOn with
 |_ n ih=>
  intro l hl hd bp hh;have e:=List.dropLast_concat_getLast bp
  have dc:∀c,48<=c/\c<=57->(Nat.digitChar (c-48)).toNat=c/\c-48<10:=by
   intro c hc
   obtain⟨k,rfl⟩:∃k,c=48+k:=⟨c-48,Zz⟩
   have:k<10:=Zz
   rw[Nat.add_sub_cancel_left];refine⟨?_,this⟩
   revert this
   revert k
   intro k _ h
   match k,h with
   |0,_=>rfl
   |1,_=>rfl
   |2,_=>rfl
   |3,_=>rfl
   |4,_=>rfl
   |5,_=>rfl
   |6,_=>rfl
   |7,_=>rfl
   |8,_=>rfl
   |9,_=>rfl
  have y7:=hd _ (List.getLast_mem bp);obtain⟨q1,q2⟩:=dc _ y7;by_cases h0:l.dropLast=[]
  .rw[h0,List.nil_append]at e;rw[<-e]
   have ev:digitsVal [l.getLast bp]=l.getLast bp-48:=by
    show 0*10+_=_;lia
   rw[ev,Nat.toDigits_of_lt_base q2];refine⟨by show[_]=_;rw[q1],fun h=>?_⟩;have:l.getLast bp≠48:=fun z=>h (by rw[z];rfl);lia
  .have cE:l.length≠1:=fun z=>h0 (by
    match l,z with
    |[a],_=>rfl)
   have tj:AllDigits l.dropLast:=fun c hc=>hd c (List.dropLast_subset l hc)
   have Nt:l.head?≠some 48:=by
    rcases hh with h|h
    .exact h
    .exact absurd (by rw[h];rfl) cE
   have IE:l.dropLast.head?≠some 48:=by
    cases l with
    |nil=>exact absurd rfl bp
    |cons a r=>cases r with
     |nil=>exact absurd rfl h0
     |cons b r'=>exact Nt
   obtain⟨r1,r2⟩:=ih l.dropLast.length (by rw[List.length_dropLast];have:=List.length_pos_iff.mpr bp;lia) l.dropLast rfl tj h0 (.inl IE);have pos:=r2 IE
   have ev:digitsVal l=digitsVal l.dropLast*10+(l.getLast bp-48):=by
    conv=>lhs;rw[<-e]
    exact digitsVal_snoc _ _
   have t:Nat.toDigits 10 (digitsVal l.dropLast)++Nat.toDigits 10 (l.getLast bp-48)=Nat.toDigits 10 (10*digitsVal l.dropLast+(l.getLast bp-48)):=Nat.toDigits_append_toDigits Zx pos q2;refine⟨?_,fun _=>by rw[ev];lia⟩;rw[ev,Nat.mul_comm,<-t,zA4,r1,Nat.toDigits_of_lt_base q2];show l.dropLast++[(Nat.digitChar (l.getLast bp-48)).toNat]=l;rw[q1];exact e
theorem uO:∀m:Nat,0<m->((Nat.toDigits 10 m).map Char.toNat).head?≠some 48:=by
 intro m
 induction m using Nat.strongRecOn with
 |_ m ih=>
  intro h;by_cases hm:m<10
  .rw[Nat.toDigits_of_lt_base hm]
   match m,hm,h with
   |1,_,_=>decide
   |2,_,_=>decide
   |3,_,_=>decide
   |4,_,_=>decide
   |5,_,_=>decide
   |6,_,_=>decide
   |7,_,_=>decide
   |8,_,_=>decide
   |9,_,_=>decide
  .have aE:m % 10<10:=Nat.mod_lt m Zx;have t:Nat.toDigits 10 (m / 10)++Nat.toDigits 10 (m % 10)=Nat.toDigits 10 (10*(m / 10)+m % 10):=Nat.toDigits_append_toDigits Zx Zz aE;rw[Nat.div_add_mod]at t;have:=ih (m / 10) Zz Zz;rw[<-t,zA4]
   cases e:(Nat.toDigits 10 (m / 10)).map Char.toNat with
   |nil=>
    have h:=toDigits_len_ge 10 (m / 10);rw[List.map_eq_nil_iff.mp e]at h;exact absurd h Zx
   |cons a r=>
    rw[e]at this;exact this
theorem xq{w:Str}(h1:1<=w.length)(h2:ji w=true):(cX (gA w)=w)↔(w=sg 48\/w.cps.toList.head?≠some 48):=by
 have hd:=vX h2
 have bp:w.cps.toList≠[]:=fun e=>by
  have:=len_list w;rw[e]at this;simp at this;lia
 have es:(cX (gA w)).cps.toList=(Nat.toDigits 10 (digitsVal w.cps.toList)).map Char.toNat:=KIN.signs_num _;constructor
 .intro e;by_cases hh:w.cps.toList.head?=some 48
  .left;have e2:(Nat.toDigits 10 (digitsVal w.cps.toList)).map Char.toNat=w.cps.toList:=by rw[<-es,e]
   by_cases hz:digitsVal w.cps.toList=0
   .rw[hz]at e2;exact lu e2.symm
   .exact absurd (by rw[e2];exact hh) (uO _ (Nat.pos_of_ne_zero hz))
  .exact .inr hh
 .intro h;refine lu ?_;rw[es];refine(uN _ _ rfl hd bp ?_).1;rcases h with h|h
  .exact .inr (by rw[h])
  .exact .inl h
theorem uP{w:Str}(h1:1<=w.length)(h3:w.length<=30)(h2:ji w=true):PySem.intText? w=some (gA w):=by
 refine intText_digits (vX h2) (fun e=>?_) Zz;have:=len_list w;rw[e]at this;simp at this;lia
theorem xr{w:Str}(h3:w.length<=30)(h2:ji w=true):0<=gA w/\gA w<10^30:=by
 have hb:∀l:List Nat,AllDigits l->digitsVal l<10^l.length:=by
  suffices ∀(n:Nat) (l:List Nat),l.length=n->AllDigits l->digitsVal l<10^n from fun l h=>this _ l rfl h
  intro n
  induction n with
  |zero=>
   intro l hl _;rw[List.length_eq_zero_iff.mp hl];decide
  |succ n ih=>
   intro l hl h
   have bp:l≠[]:=fun z=>by rw[z]at hl;simp at hl
   have e:=List.dropLast_concat_getLast bp;have h1:=ih l.dropLast (by rw[List.length_dropLast];lia) fun d hd=>h d (List.dropLast_subset l hd);have h2:=h _ (List.getLast_mem bp);rw[<-e,digitsVal_snoc,Nat.pow_succ];lia
 refine⟨Int.natCast_nonneg _,?_⟩;have h4:=hb _ (vX h2);rw[len_list]at h4;have h5:10^w.length<=10^30:=Nat.pow_le_pow_right Zx h3;unfold gA;lia
theorem dX{n:Int}(h0:0<=n)(h1:n<10^10):cF (cX n)=true/\gA (cX n)=n/\(cX n).length<=10/\∀c∈(cX n).cps.toList,48<=c/\c<=57:=by
 have hl:(cX n).length<=10:=KT.len_num h0 h1;obtain⟨m,rfl⟩:=Int.eq_ofNat_of_zero_le h0;have es:(cX (m:Int)).cps.toList=(Nat.toDigits 10 m).map Char.toNat:=KIN.signs_num m
 have hd:AllDigits (cX (m:Int)).cps.toList:=by
  intro c hc;rw[es]at hc;obtain⟨ch,kg,e⟩:=zA5.mp hc;have r:=PyProof.Rows.digit_range (Nat.isDigit_of_mem_toDigits Zx Zx kg);rw[<-e];exact r
 have hv:gA (cX (m:Int))=m:=by
  unfold gA;rw[es,KIN.val_back]
 have iq:1<=(cX (m:Int)).length:=by
  rw[<-len_list,es,zA1];exact toDigits_len_ge 10 m
 have ha:ji (cX (m:Int))=true:=List.all_eq_true.mpr fun c hc=>by
  have:=hd c hc;simpa using this
 refine⟨?_,hv,Zz,hd⟩;have:=(xq iq ha).mp (by rw[hv]);unfold cF;rw[zAu iq,zAu (by lia:(cX (m:Int)).length<=30),ha];rcases this with h|h
 .rw[zAu h];rfl
 .rw[zAu h,Bool.or_true];rfl
def aM(c:Nat)(w:Str):List Str:=Txt.split w (sg c)
abbrev jn(c:Nat)(ws:List Str):Str:=Txt.join (sg c) ws
theorem uQ(c:Nat)(ws:List Str):jn c ws=Str.join (sg c) ws:=StrLaws.glued_eq_join _ _
theorem jB(c:Nat)(x y:Str)(r:List Str):(jn c (x::y::r)).cps.toList=x.cps.toList++c::(jn c (y::r)).cps.toList:=by
 rw[uQ,uQ];show(x++sg c++Str.join (sg c) (y::r)).cps.toList=_;simp[Str.cps_append]
theorem jT(c:Nat)(x:Str):jn c [x]=x:=by rw[uQ];rfl
theorem qH{c:Nat}:∀{x p A B:List Nat},c∉x->c∉p->x++c::A=p++c::B->x=p/\A=B
 |[],[],A,B,_,_,h=>by cases h;exact⟨rfl,rfl⟩
 |[],q::p,A,B,_,hp,h=>by
  have h:c::A=q::(p++c::B):=h;injection h with h1 _;exact absurd (by rw[h1];exact List.mem_cons_self) hp
 |a::x,[],A,B,hx,_,h=>by
  have h:a::(x++c::A)=c::B:=h;injection h with h1 _;exact absurd (by rw[h1];exact List.mem_cons_self) hx
 |a::x,q::p,A,B,hx,hp,h=>by
  have h:a::(x++c::A)=q::(p++c::B):=h;injection h with h1 h2;obtain⟨h3,h4⟩:=qH (fun z=>hx (.tail _ z)) (fun z=>hp (.tail _ z)) h2;exact⟨by rw[h1,h3],h4⟩
theorem BJ{c:Nat}:∀{ws ps:List Str},ws≠[]->ps≠[]->(∀w∈ws,c∉w.cps.toList)->(∀w∈ps,c∉w.cps.toList)->jn c ws=jn c ps->ws=ps
 |[],_,h,_,_,_,_=>absurd rfl h
 |_,[],_,h,_,_,_=>absurd rfl h
 |[x],[p],_,_,_,_,h=>by rw[jT,jT]at h;rw[h]
 |[x],p::q::r,_,_,h1,_,h=>by
  rw[jT]at h;refine absurd ?_ (h1 x (.head _));rw[h,jB];simp
 |x::y::r,[p],_,_,_,h2,h=>by
  rw[jT]at h;refine absurd ?_ (h2 p (.head _));rw[<-h,jB];simp
 |x::y::r,p::q::r',_,_,h1,h2,h=>by
  have e:=congrArg (fun z:Str=>z.cps.toList) h;simp only[jB]at e;obtain⟨e1,e2⟩:=qH (h1 x (.head _)) (h2 p (.head _)) e;rw[lu e1,BJ (ws:=y::r) (ps:=q::r') Zy Zy (fun w hw=>h1 w (.tail _ hw)) (fun w hw=>h2 w (.tail _ hw)) (lu e2)]
theorem sE(c:Nat)(w:Str):aM c w≠[]:=fun e=>by
 have:=(L2.split_count w c).1;unfold aM at e;rw[e]at this;unfold Txt.count at this;simp at this;lia
theorem sI(c:Nat)(w:Str):jn c (aM c w)=w:=by rw[uQ];exact StrLaws.join_split w (sg c)
theorem sJ{c:Nat}{ws:List Str}(h:ws≠[])(hf:∀w∈ws,c∉w.cps.toList):aM c (jn c ws)=ws:=
 BJ (sE c _) h (StrLaws.split_free _ c) hf (sI c _)
def lsum(ws:List Str):Nat:=(ws.map (·.length)).sum
theorem jj(c:Nat):∀{ws:List Str},ws≠[]->(jn c ws).length+1=lsum ws+ws.length
 |[],h=>absurd rfl h
 |[x],_=>by rw[jT];show _=(x.length+0)+1;lia
 |x::y::r,_=>by
  have ih:=jj c (ws:=y::r) Zy;have e:=congrArg List.length (jB c x y r);rw[len_list,zA2,zAe,len_list,len_list]at e;show _=(x.length+lsum (y::r))+((y::r).length+1);lia
theorem dJ(c:Nat)(w:Str):lsum (aM c w)+(aM c w).length=w.length+1:=by
 have:=jj c (sE c w);rw[sI]at this;lia
theorem mF{c d:Nat}:∀{ws:List Str},d∈(jn c ws).cps.toList->d=c\/∃w∈ws,d∈w.cps.toList
 |[],h=>by rw[uQ]at h;cases h
 |[x],h=>by rw[jT]at h;exact .inr ⟨x,.head _,h⟩
 |x::y::r,h=>by
  rw[jB]at h;rcases zA6.mp h with h|h
  .exact .inr ⟨x,.head _,h⟩
  .rcases zAo.mp h with h|h
   .exact .inl h
   .rcases mF h with h|⟨w,hw,h⟩
    .exact .inl h
    .exact .inr ⟨w,.tail _ hw,h⟩
theorem BK{c d:Nat}:∀{ws:List Str} {w:Str},w∈ws->d∈w.cps.toList->d∈(jn c ws).cps.toList
 |[x],w,h,hd=>by rw[jT,<-List.mem_singleton.mp h];exact hd
 |x::y::r,w,h,hd=>by
  rw[jB];rcases zAo.mp h with h|h
  .exact List.mem_append_left _ (h▸hd)
  .exact zB5 _ (.tail _ (BK h hd))
theorem BL{c d:Nat}{w p:Str}(hp:p∈aM c w)(hd:d∈p.cps.toList):d∈w.cps.toList:=by
 have:=BK (c:=c) hp hd;rw[sI]at this;exact this
theorem jC{c:Nat}{w p:Str}(hp:p∈aM c w):p.length<=w.length:=by
 have h:=dJ c w
 have hm:∀{ws:List Str},p∈ws->p.length+1<=lsum ws+ws.length:=fun{ws}=>by
  induction ws with
  |nil=>intro h;cases h
  |cons x r ih=>
   intro h;show _<=(x.length+lsum r)+(r.length+1);rcases zAo.mp h with h|h
   .rw[h];lia
   .have:=ih h;lia
 have:=hm hp;lia
def dM(c:Nat)(r:List Int):Str:=jn c (r.map cX)
def bD(c:Nat)(rs:List (List Int)):Str:=if rs=[]then sg 45 else jn 32 (rs.map (dM c))
def gM(cs ps ss:List (List Int)):Str:=jn 10 [bD 47 cs,bD 44 ps,bD 44 ss]
def okW(c:Nat)(w:Str):Bool:=(aM c w).all cF
def jU(c:Nat)(w:Str):List Int:=(aM c w).map gA
def okL(c:Nat)(l:Str):Bool:=decide (l=sg 45)||(aM 32 l).all (okW c)
def dN(c:Nat)(l:Str):List (List Int):=if l=sg 45 then[]else(aM 32 l).map (jU c)
def okR(rs:List (List Int)):Prop:=∀r∈rs,r≠[]/\∀n∈r,0<=n/\n<10^10
section
variable{c:Nat}{rs:List (List Int)}
theorem oN{r:List Int}{d:Nat}(h:∀n∈r,0<=n/\n<10^10)(hd:d∈(dM c r).cps.toList):d=c\/(48<=d/\d<=57):=by
 rcases mF hd with hd|⟨w,hw,hd⟩
 .exact .inl hd
 .obtain⟨n,hn,rfl⟩:=zA5.mp hw;exact .inr ((dX (h n hn).1 (h n hn).2).2.2.2 d hd)
theorem gk{d:Nat}(h:okR rs)(hd:d∈(bD c rs).cps.toList):d=45\/d=32\/d=c\/(48<=d/\d<=57):=by
 unfold bD at hd;split at hd
 .exact .inl (by simpa using hd)
 .rcases mF hd with hd|⟨w,hw,hd⟩
  .exact .inr (.inl hd)
  .obtain⟨r,hr,rfl⟩:=zA5.mp hw;exact .inr (.inr (oN (h r hr).2 hd))
theorem uR{r:List Int}(hc:c<48\/57<c)(bp:r≠[])(h:∀n∈r,0<=n/\n<10^10):okW c (dM c r)=true/\jU c (dM c r)=r:=by
 have e:aM c (dM c r)=r.map cX:=sJ (by simpa using bp) fun w hw=>by
  obtain⟨n,hn,rfl⟩:=zA5.mp hw;intro hm;have:=(dX (h n hn).1 (h n hn).2).2.2.2 c hm;lia
 unfold okW jU;rw[e];refine⟨List.all_eq_true.mpr fun w hw=>?_,?_⟩
 .obtain⟨n,hn,rfl⟩:=zA5.mp hw;exact(dX (h n hn).1 (h n hn).2).1
 .rw[zAr]
  conv=>rhs;rw[<-List.map_id r]
  exact List.map_congr_left fun n hn=>(dX (h n hn).1 (h n hn).2).2.1
theorem mG(hc:c=47\/c=44)(h:okR rs):okL c (bD c rs)=true/\dN c (bD c rs)=rs:=by
 by_cases h0:rs=[]
 .subst h0;exact⟨rfl,rfl⟩
 .have e0:bD c rs=jn 32 (rs.map (dM c)):=zB0 h0
  have ns:bD c rs≠sg 45:=fun z=>by
   have hm:(45:Nat)∈(bD c rs).cps.toList:=by rw[z];simp
   rw[e0]at hm;rcases mF hm with hm|⟨w,hw,hm⟩
   .cases hm
   .obtain⟨r,hr,rfl⟩:=zA5.mp hw;rcases oN (h r hr).2 hm with z|z
    .rcases hc with rfl|rfl<;>cases z
    .lia
  have e:aM 32 (bD c rs)=rs.map (dM c):=by
   rw[e0];refine sJ (by simpa using h0) fun w hw hm=>?_;obtain⟨r,hr,rfl⟩:=zA5.mp hw;rcases oN (h r hr).2 hm with z|z
   .rcases hc with rfl|rfl<;>cases z
   .lia
  unfold okL dN;rw[zB0 ns,e,zAy ns];refine⟨List.all_eq_true.mpr fun w hw=>?_,?_⟩
  .obtain⟨r,hr,rfl⟩:=zA5.mp hw;exact(uR Zz (h r hr).1 (h r hr).2).1
  .rw[zAr]
   conv=>rhs;rw[<-List.map_id rs]
   exact List.map_congr_left fun r hr=>(uR Zz (h r hr).1 (h r hr).2).2
theorem vY{cs ps ss:List (List Int)}(h1:okR cs)(h2:okR ps)(h3:okR ss):aM 10 (gM cs ps ss)=[bD 47 cs,bD 44 ps,bD 44 ss]:=by
 refine sJ Zy fun w hw hm=>?_;simp only[List.mem_cons,List.not_mem_nil,or_false]at hw;rcases hw with rfl|rfl|rfl
 .have:=gk h1 hm;lia
 .have:=gk h2 hm;lia
 .have:=gk h3 hm;lia
theorem zy{cs ps ss:List (List Int)}(h1:okR cs)(h2:okR ps)(h3:okR ss){d:Nat}(hd:d∈(gM cs ps ss).cps.toList):d<128:=by
 rcases mF hd with hd|⟨w,hw,hm⟩
 .lia
 .simp only[List.mem_cons,List.not_mem_nil,or_false]at hw;rcases hw with rfl|rfl|rfl
  .have:=gk h1 hm;lia
  .have:=gk h2 hm;lia
  .have:=gk h3 hm;lia
end
end TxP
namespace L2
open PySem PySem.Spec PyProof.Rows
section
variable{prog:Program}{w:World}{A:Around}{E:Value->Shared->Prop}{s:Shared}
theorem qI{it t:Addr}{items:Array Value}(bp:t≠it):∀(n i:Nat) (s:Shared) (Q:List Value->Shared->Prop),s.heap.IsListIter it t i->s.heap.IsList t items->i+n<=items.size->
  (∀h',h'.IsListIter it t (i+n)->Heap.SameBut it s.heap h'->Q ((items.toList.drop i).take n) {s with heap:=h'})->wpAny (model prog w) A (draw (.ref it) n) Q E s
 |0,i,s,Q,hit,_,_,hQ=>by
  show wpAny _ _ (pure []) Q E s;exact wpAny_pure (by simpa using hQ s.heap hit (Heap.SameBut.refl ..))
 |n+1,i,s,Q,hit,ht,hle,hQ=>by
  have aE:i<items.size:=Zz
  show wpAny _ _ (pyNext (.ref it)>>=_) Q E s;refine wpAny_bind (wpAny_pyNext_list_item hit ht (x:=items[i]) (by simp[aE]) fun bg gX gi=>?_);refine wpAny_bind (wpAny_holding (qI bp n (i+1) _ _ gX (ht.extBut gi.extBut bp) Zz fun ej rV y8=>wpAny_pure ?_));have hd:items.toList.drop i=items[i]::items.toList.drop (i+1):=by simp[List.drop_eq_getElem_cons,aE]
  have:=hQ ej (by rw[show i+(n+1)=i+1+n by lia];exact rV) (gi.trans y8);rw[hd,List.take_succ_cons]at this;exact this
theorem uT{t:Addr}{items:Array Value}{Q:List Value->Shared->Prop}(hh:A.handled=none)(ht:s.heap.IsList t items)
  (hQ:∀h',Heap.ExtBut s.heap.objs.size s.heap h'->Q items.toList {s with heap:=h'}):wpAny (model prog w) A (unpackItems (.ref t) items.size none) Q E s:=by
 have aE:t≠s.heap.objs.size:=by obtain⟨o,ho,_⟩:=ht;exact zB4 (zAz ho)
 unfold unpackItems;refine wpAny_bind ?_;unfold notIterableAtAll;refine wpAny_bind (wpAny_specialOf ht.typeIs F.slot_list_iter.lookup ?_);refine wpAny_pure ?_;simp only[Bool.false_eq_true,if_false];refine wpAny_bind (wpAny_holding (wpAny_pyIter_list ht ?_));refine wpAny_bind (wpAny_holding (qI aE items.size 0 _ _ ⟨_,Heap.get?_push_size _ rfl,rfl,rfl⟩ (ht.push _) Zz fun bg gX gi=>?_))
 have qv:List.take items.size (List.drop 0 items.toList)=items.toList:=by
  rw[List.drop_zero];exact List.take_of_length_le Zy
 rw[qv];rw[if_neg Zy];have y9:bg.IsList t items:=(ht.push _).extBut gi.extBut aE;refine wpAny_bind (wpAny_holding (wpAny_pyNext_list_end hh gX y9 Zy fun ej zd=>?_));simp only[Option.isSome_none,Bool.false_eq_true,if_false];refine wpAny_pure (hQ ej fun b o hb e=>zd b o hb (gi.extBut b o hb (Heap.get?_push_of_some _ e)))
end
section
variable{X:Cx}{pos:Pos}
inductive GLstI(K:Frag)(n:Nat)(t:TGs)(v:V)(σ:St)(H:Hp)(Q:St->Hp->Prop):Prop
 |mk:∀a xs,(v=.ref a)->(SqL K H a xs)->(xs.length=n)->(t xs σ H Q)->GLstI K n t v σ H Q
def KN(K:Frag)(n:Nat)(t:TGs):TG:=fun v σ H Q=>GLstI K n t v σ H Q
theorem Iz{es:List Expr}{k:Nat}{t:TGs}{n:Nat}(hc:X.calm=true)(h:PGs X es t)
  (hn:(assignEach es X.env).length=n:=by rfl) (cn:(assignEach es X.env).findIdx? (·.1)=none:=by rfl):PG X (.Tuple es k pos) (KN X.K n t):=by
 intro Zt s σ H v u Q I r hw;obtain⟨a,xs,e1,hq,hl,hw⟩:=hw;subst e1;cases r;obtain⟨Zr,rv,ht,hz⟩:=I.list hq;rw[arm_assign_Tuple];refine wpAny_bind (wpAny_standAt ?_);unfold unpack;rw[show(assignEach es X.env).length=Zr.toArray.size by simp[hn,<-hl,rv.length],cn];refine wpAny_bind (wpAny_holding (uT (I.ok.hd hc) ht.isList fun h' hx=>?_));have I1:Inv X Zt σ H {s with heap:=h'}:=I.kept (t':=s.toks) fun b o e=>hx b o (Nat.ne_of_lt (Heap.lt_size e)) e;exact h Zt _ σ H xs _ Q I1 (by simpa using rv) hw
end
section
variable{X:Cx}{K:Frag}{o e:Expr}{es:List Expr}{to:TE}{t:TA}{name:Str}{apos av:Pos}{T id:String}{r:V->List V->Hp->VK->Prop}
theorem BP(hK:X.K=K)(pa:PlainAttrs T)(slot:Slot T name id)(wo:typeOf (.builtin id)=pure (.type "method_descriptor"))(hm:MtR X id r)(ho:PE X o to)(ha:PA X (e::es) t)
  (dS:attributeBase o name X.env (eval o X.env)=eval o X.env:=by rfl)
  (qr:((backTo av (starEach (e::es) X.env)).all (fun x=>!x.1)&&(backToKw av (keywordEach [] X.env)).all (fun x=>x.1.isSome)
   && decide ((e::es).length+([]:List Keyword).length+(if([]:List Keyword).isEmpty then 0 else 1)<30))=true:=by rfl)
  (hline:(apos.endLine==av.line)=true:=by rfl) (hs:starEach (e::es) X.env=(false,eval e X.env)::starEach es X.env:=by rfl) (gx:(backTo av (starEach es X.env)).any (·.1)=false:=by rfl):
  PE X (.Call (.Attribute o name apos) (e::es) [] av) (tBM K T r to t):=by
 subst hK;exact dI pa slot wo hm ho ha dS qr hline hs gx
theorem BR(hK:X.K=K):MtM X "str.join" (fun x vs H Q=>∃z l ts,x=.str z/\vs=[.ref l]/\SqL K H l (ts.map V.str)/\JoinOk z ts=true/\Q (.str (Txt.join z ts)) H):=by
 subst hK;exact fK
theorem Fw(hK:X.K=K){tg l:Expr}{tl:TE}(hl:PE X l tl):PI X tg l (HJ K tl):=by
 subst hK;exact fV hl
theorem BV(hK:X.K=K){tg l:Expr}{tl:TE}(hl:PE X l tl):PI X tg l (Ai K tl):=by
 subst hK;exact fJ hl
theorem oO(hK:X.K=K):dw X (.type "tuple") (fun xs H Q=>∃p ys,xs=[.ref p]/\((SqL K H p ys/\∀l,H l=none->Q (.ref l) (upd H l (.tup ys)))\/(SqT K H p ys/\Q (.ref p) H))):=by
 subst hK;exact bW
end
open PySem PySem.Spec PyProof.Rows PySem.SeqAt
theorem oR{X:Cx}(hu:X.A.units<cLine):OpR X (compareOp .NotEq) (fun x y H Q=>∃a b xs,x=.ref a/\y=.ref b/\SqL X.K H a xs/\SqL X.K H b []/\Q (.bl (!xs.isEmpty)) H):=by
 intro Zt s σ H x y v u Q I rx ry h;obtain⟨a,b,xs,rfl,rfl,ha,hb,q⟩:=h;cases rx;cases ry;obtain⟨Zr,r1,p1,_⟩:=I.list ha;obtain⟨cw,r2,p2,_⟩:=I.list hb;have e2:cw=[]:=r2.zero;subst e2;have hl:=r1.length
 cases xs with
 |nil=>
  have e1:Zr=[]:=r1.zero;subst e1;exact RcNeAt.lists (e:=fun _=>true) p1.isList p2.isList rfl hu (fun j h1 h2=>absurd h2 Zy) _ _ _ _ ⟨.bl _,H,I,rfl,q⟩
 |cons z r=>
  exact RcNeAt.lists_lengths p1.isList p2.isList (by rw[List.size_toArray,<-hl];simp) hu _ _ _ _ ⟨.bl _,H,I,rfl,q⟩
open PySem PySem.Spec PyProof.Rows PySem.Calls PySem.Builtin PySem.Builtin.Str
theorem zF{x:Str}{t:Tok}{l u st:Option (Int×Tok)}{s:Shared}{Q:Value->Shared->Prop}(hz:x.length<=sizeLine)(hl:(slicePicked x l u st).length<=x.length)(q:∀z t' k,SubT z x->z.length<=(slicePicked x l u st).length->Q (.str z t') {s with toks:=k}):(sliceMade x t l u st).post Q s:=by
 unfold sliceMade;have e:=oK x (slicePicked x l u st) hl;by_cases h:((st.map (·.1)).getD 1==1&&(slicePicked x l u st).length==x.length)=true
 .rw[zB3 h];rw[zAc,beq_iff_eq,beq_iff_eq]at h;exact q x t s.toks (SubT.refl x) (Nat.le_of_eq h.2.symm)
 .rw[zB0 h];refine⟨Nat.le_trans e.l hz,q _ _ _ e ?_⟩;show(List.filterMap _ _).toArray.size<=_;rw[zA8];exact List.length_filterMap_le _ _
def vZ(lo hi:Option Int)(n:Nat):Nat:=(strSliceIndices lo hi 1 n).length
theorem Fx{i:Int}{n:Nat}(h:0<=i):vZ none (some i) n<=i.toNat:=by
 unfold vZ strSliceIndices sliceRange;simp only[show(1:Int)>0 by decide,if_true,List.length_map,List.length_range];split<;>(try split)<;>(try split)<;>(try simp only[Int.ediv_one])<;>lia
theorem xu{i:Int}{n:Nat}(h:0<=i):vZ (some i) none n<=n-i.toNat:=by
 unfold vZ strSliceIndices sliceRange;simp only[show(1:Int)>0 by decide,if_true,List.length_map,List.length_range];split<;>(try split)<;>(try split)<;>(try simp only[Int.ediv_one])<;>lia
theorem Fy{n:Nat}:vZ (some (-1)) none n<=1:=by
 unfold vZ strSliceIndices sliceRange;simp only[show(1:Int)>0 by decide,if_true,List.length_map,List.length_range];split<;>(try split)<;>(try split)<;>(try simp only[Int.ediv_one])<;>lia
inductive RSlXI(x:V)(lo:Option Int)(hi:Option Int)(H:Hp)(Q:VK):Prop
 |mk:∀z,(x=.str z)->(z.length<=sizeLine)->(∀z',SubT z' z->z'.length<=vZ lo hi z.length->Q (.str z') H)->RSlXI  x lo hi H Q
def BW:V->Option Int->Option Int->Hp->VK->Prop:=fun x lo hi H Q=>RSlXI  x lo hi H Q
section
variable{X:Cx}
theorem eX:SlR X BW:=by
 intro Zt s σ H x v vl vu lo hi sl Q I rx hs pl pu h;obtain⟨z,rfl,hz,q⟩:=h;obtain⟨t,rfl⟩:=rx;refine⟨"str",_,F.slot_str_getitem.lookup,typeIs_str s z t,?_⟩
 obtain⟨l,rfl,el⟩:∃l:Option (Int×Tok),vl=partValue l/\l.map (·.1)=lo:=by
  cases pl with
  |none=>exact⟨none,rfl,rfl⟩
  |int i t=>exact⟨some (i,t),rfl,rfl⟩
 obtain⟨u,rfl,eu⟩:∃l:Option (Int×Tok),vu=partValue l/\l.map (·.1)=hi:=by
  cases pu with
  |none=>exact⟨none,rfl,rfl⟩
  |int i t=>exact⟨some (i,t),rfl,rfl⟩
 refine wpAny_getItem_str_slice (l:=l) (u:=u) (st:=none) hs rfl (zF hz (indices_len_le _ _ _) fun z' t' k e e2=>?_);refine⟨.str z',H,I.tok k,⟨_,rfl⟩,q z' e ?_⟩;unfold slicePicked at e2;rw[el,eu]at e2;exact e2
end
structure RepT(r x z:Str):Prop where
 m:∀c∈r.cps.toList,c∈x.cps.toList\/c∈z.cps.toList
 l:r.length<=2*x.length+z.length
theorem BX{x z:Str}{fq:List Nat}{k:Nat}(h:fq.length<=1):RepT (glued z (partsBetween x fq k)) x z:=by
 have sub:∀i j,(∀c∈(strSub x i j).cps.toList,c∈x.cps.toList)/\(strSub x i j).cps.size<=x.length:=fun i j=>⟨fun c hc=>by
  have hc:c∈List.take (j-i) (List.drop i x.cps.toList):=by simpa[strSub]using hc
  exact List.mem_of_mem_drop (List.mem_of_mem_take hc),by
  show(x.cps.extract i j).size<=x.cps.size;rw[Array.size_extract]
  lia⟩
 match fq,h with
 |[],_=>
  have e:glued z (partsBetween x [] k)=strSub x 0 x.length:=rfl;rw[e];exact⟨fun c hc=>.inl ((sub _ _).1 c hc),by have:=(sub 0 x.length).2;show(strSub x 0 x.length).cps.size<=_;lia⟩
 |[i],_=>
  have e:(glued z (partsBetween x [i] k)).cps=(strSub x 0 i).cps++z.cps++(strSub x (i+k) x.length).cps:=rfl;refine⟨fun c hc=>?_,?_⟩
  .rw[e]at hc;simp only[Array.toList_append,List.mem_append]at hc;rcases hc with(hc|hc)|hc
   .exact .inl ((sub _ _).1 c hc)
   .exact .inr hc
   .exact .inl ((sub _ _).1 c hc)
  .show(glued z (partsBetween x [i] k)).cps.size<=_;rw[e,Array.size_append,Array.size_append];have a:=(sub 0 i).2;have b:=(sub (i+k) x.length).2;show _+z.length+_<=_;lia
 |_::_::_,h=>exact absurd h Zy
theorem w5(x y z:Str)(t u v k:Tok)(h0:(u==0||v==0)=false)(DZ:(u==v)=false)(nX:(y==z)=false)(hl:tooLong (x.length+(occurrences x y 0 x.length 1).length*z.length)=false):
  Gives («str.replace» ⟨[.str x t,.str y u,.str z v,.int 1 k],[]⟩) (if((occurrences x y 0 x.length 1).isEmpty||(y.length==0&&z.length==0))=true then .val (.str x t)else .str (glued z (partsBetween x (occurrences x y 0 x.length 1) y.length))):=by
 show Gives (countLimit "str.replace" (some (.int 1 k)) (x.length+1)>>=fun limit=>if((occurrences x y 0 x.length limit).isEmpty||(y.length==0&&z.length==0))=true then(rule "str.replace.nothing">>=fun _=>ret (.str x t))else(isSame (.str y u) (.str z v)>>=fun same=>if same=true then(rule "str.replace.old-is-new">>=fun _=>ret (.str x t))else if tooLong (x.length+(occurrences x y 0 x.length limit).length*z.length)=true then unsupported "str.replace:memory" else retStr (glued z (partsBetween x (occurrences x y 0 x.length limit) y.length)))) _
 have e:countLimit "str.replace" (some (.int 1 k)) (x.length+1)=pure 1:=by
  show(asSsize "str.replace" (.int 1 k)>>=fun i=>pure (if i<0 then x.length+1 else i.toNat):Sem Nat)=_;rw[asSsize_int _ _ _ Zx];rfl
 rw[e];show Gives (if((occurrences x y 0 x.length 1).isEmpty||(y.length==0&&z.length==0))=true then(rule "str.replace.nothing">>=fun _=>ret (.str x t))else(isSame (.str y u) (.str z v)>>=fun same=>if same=true then(rule "str.replace.old-is-new">>=fun _=>ret (.str x t))else if tooLong (x.length+(occurrences x y 0 x.length 1).length*z.length)=true then unsupported "str.replace:memory" else retStr (glued z (partsBetween x (occurrences x y 0 x.length 1) y.length)))) _;cases hc:((occurrences x y 0 x.length 1).isEmpty||(y.length==0&&z.length==0))
 .rw[isSame_str_other y z u v h0 DZ nX,hl];exact .of_eq rfl
 .exact .rule (.of_eq rfl)
section
variable{prog:Program}{w:World}{A:Around}{E:Value->Shared->Prop}{s:Shared}{x y z:Str}{t u v k:Tok}{Q:Value->Shared->Prop}
theorem zG(hu:u≠0)(hv:v≠0)(DZ:u≠v)(nX:(y==z)=false)(hb:2*x.length+z.length<=100000)(hq:∀r t' k,RepT r x z->s.toks<=k->Q (.str r t') {s with toks:=k}):
  wpAny (model prog w) A (call (.builtin "str.replace") [.str x t,.str y u,.str z v,.int 1 k]) Q E s:=by
 have h1:=StrLaws.occ_length_le x y 0 x.length 1;have h2:(occurrences x y 0 x.length 1).length*z.length<=1*z.length:=Nat.mul_le_mul_right _ h1;have e:=BX (x:=x) (z:=z) (k:=y.length) h1
 refine call_gives F.slot_str_replace (typeIs_str _ _ _) F.entry_str_replace (F.args_str_replace_4 _ _ _ _)
  (w5 x y z t u v k (by simp[hu,hv]) (by simp[DZ]) nX (by unfold tooLong;rw[sizeLine_eq];exact decide_eq_false Zz)) ?_
 cases hc:((occurrences x y 0 x.length 1).isEmpty||(y.length==0&&z.length==0))
 .simp only[Bool.false_eq_true,if_false];have:=e.l;exact⟨by rw[sizeLine_eq];lia,hq _ _ _ e (Nat.le_succ _)⟩
 .simp only[if_true];exact hq x t s.toks ⟨fun c hc=>.inl hc,Zz⟩ (zA3 _)
end
section
variable{X:Cx}{i:Nat}{nm:Str}
theorem BZ{Zt:List (Addr×Obj)}{s:Shared}{σ:St}{H:Hp}{v:V}{pos:Pos}{Q:Value->Shared->Prop}(hN:X.N[i]?=some nm)(hv:Vis X.env.scope nm)(hd:(nm==("__debug__":Str))=false)(cb:(nm==("__classdict__":Str))=false)(I:Inv X Zt σ H s)(e:σ[i]?=some (some v))(q:∀u,RelV v u->Q u s):
  wpAny (model X.prog X.w) X.A (eval (.Name nm pos) X.env) Q X.xe s:=by
 obtain⟨m,hn,hl⟩:=I.loc;obtain⟨u,r,l⟩:=hl i nm v hN e hv;rcases l with⟨hk,hm⟩|⟨hk,c,hc,hcell⟩
 .exact wpAny_Name (wpAny_loadName_local I.ok.kind hk hn hm (q u r)) hd
 .rcases hk with hk|hk
  .exact wpAny_Name (wpAny_loadName_cell I.ok.kind hk hc hcell (q u r)) hd
  .exact wpAny_Name (wpAny_loadName_free I.ok.kind hk hc hcell (q u r) cb) hd
theorem Fz{Zt:List (Addr×Obj)}{s:Shared}{σ:St}{H:Hp}{z a:Str}{j:Nat}{p1 p2 p3:Pos}{Q:Value->Shared->Prop}(hN:X.N[i]?=some nm)(hv:Vis X.env.scope nm)(hd:(nm==("__debug__":Str))=false)(cb:(nm==("__classdict__":Str))=false)(I:Inv X Zt σ H s)(e:σ[i]?=some (some (.str z)))(ha:(a.length==0)=false)(hz:a.length+z.length<=sizeLine)
  (q:∀r t k,(∀c∈r.cps.toList,c∈a.cps.toList\/c∈z.cps.toList)->r.length=a.length+z.length->1<=k->Q (.str r t) {s with toks:=k}):wpAny (model X.prog X.w) X.A (eval (.BinOp (.Constant (.str a) j p1) .Add (.Name nm p2) p3) X.env) Q X.xe s:=by
 refine wpAny_BinOp (Calls.Constant_str (BZ hN hv hd cb (I.tok _) e fun u ⟨t,eu⟩=>?_));subst eu;refine PySem.P.add_str ?_;rw[ha];simp only[Bool.false_eq_true,if_false];by_cases h0:(z.length==0)=true
 .rw[zB3 h0];exact q _ _ _ (fun c hc=>.inl hc) (by have:=eq_of_beq h0;lia) (Nat.le_add_left _ _)
 .rw[zB0 h0];refine⟨?_,q _ _ _ (fun c hc=>?_) ?_ (by show 1<=s.toks+1+1;lia)⟩
  .show(a.cps++z.cps).size<=_;rw[Array.size_append];exact hz
  .have hc:c∈(a.cps++z.cps).toList:=hc;rw[Array.toList_append]at hc;exact zA6.mp hc
  .show(a.cps++z.cps).size=_;rw[Array.size_append];rfl
theorem xx{Zt:List (Addr×Obj)}{s:Shared}{σ:St}{H:Hp}{x y z:Str}{j1 j2 j3:Nat}{p0 p1 p2 p3 apos av:Pos}{Q:Value->Shared->Prop}(hN:X.N[i]?=some nm)(hv:Vis X.env.scope nm)(hd:(nm==("__debug__":Str))=false)(cb:(nm==("__classdict__":Str))=false)(I:Inv X Zt σ H s)(e:σ[i]?=some (some (.str x)))(nX:(y==z)=false)(hz:2*x.length+z.length<=100000)(h1:1<=s.toks)
  (q:∀r t k,RepT r x z->1<=k->Q (.str r t) {s with toks:=k})
  (dS:attributeBase (.Name nm p0) "replace" X.env (eval (.Name nm p0) X.env)=eval (.Name nm p0) X.env:=by rfl) (hline:(apos.endLine==av.line)=true:=by rfl):
  wpAny (model X.prog X.w) X.A (eval (.Call (.Attribute (.Name nm p0) "replace" apos) [.Constant (.str y) j1 p1,.Constant (.str z) j2 p2,.Constant (.int 1) j3 p3] [] av) X.env) Q X.xe s:=by
 refine wpAny_Call_method_late dS rfl hline rfl (BZ hN hv hd cb I e fun u ⟨t,eu⟩=>?_);subst eu;refine⟨"str",_,F.plainAttrs_str,F.slot_str_replace,F.type_str_replace,typeIs_str s x t,fun a (h:Value.str x t=Value.ref a)=>Value.noConfusion h,?_⟩;refine Calls.callWith_builtin rfl (Calls.evalArgs_plain ?_);show wpAny _ _ (spliced ((false,eval (.Constant (.str y) j1 p1) X.env)::backTo av (starEach [.Constant (.str z) j2 p2,.Constant (.int 1) j3 p3] X.env))) _ _ s;refine Calls.spliced_cons (Calls.Constant_str ?_);show wpAny _ _ (spliced ((false,eval (.Constant (.str z) j2 p2) X.env)::backTo av (starEach [.Constant (.int 1) j3 p3] X.env))) _ _ _;refine Calls.spliced_cons (Calls.Constant_str ?_);show wpAny _ _ (spliced ((false,eval (.Constant (.int 1) j3 p3) X.env)::backTo av (starEach [] X.env))) _ _ _;refine Calls.spliced_cons (wpAny_Constant_int ?_);refine zAw ?_;exact zG (by show s.toks≠0;lia) (by show s.toks+1≠0;lia) (by show s.toks≠s.toks+1;lia) nX hz fun r t' k e hk=>q r t' k e (by have:s.toks+1+1+1<=k:=hk;lia)
def KQ(r a z:Str):Prop:=(∀c∈r.cps.toList,c∈a.cps.toList\/c∈z.cps.toList)/\r.length=a.length+z.length
inductive TRepI(i:Nat)(a z1 z2:Str)(σ:St)(H:Hp)(Q:VK):Prop
 |mk:∀z,(σ[i]?=some (some (.str z)))->(2*z.length+(a.length+z1.length+z2.length)<=100000)->(∀r1 r2 r3,KQ r1 a z->RepT r2 z z1->RepT r3 z z2->∀l,H l=none->Q (.ref l) (upd H l (.lst [.str r1,.str r2,.str r3])))->TRepI i a z1 z2 σ H Q
def KR(i:Nat)(a z1 z2:Str):TE:=fun σ H Q=>TRepI i a z1 z2 σ H Q
theorem FJ{a y1 z1 y2 z2:Str}{j j1 j2 j3 j4 j5 j6:Nat}{p1 p2 p3 p4 p5 p6 p7 p8 p9 q1 q2 q3 q4 q5 q6 pos:Pos}(hN:X.N[i]?=some nm)(hv:Vis X.env.scope nm)(ha:(a.length==0)=false)(h1:(y1==z1)=false)(h2:(y2==z2)=false)(dA:(p5.endLine==p6.line)=true:=by rfl)(cE:(q2.endLine==q3.line)=true:=by rfl)
  (jI:attributeBase (.Name nm p4) "replace" X.env (eval (.Name nm p4) X.env)=eval (.Name nm p4) X.env:=by rfl) (rX:attributeBase (.Name nm q1) "replace" X.env (eval (.Name nm q1) X.env)=eval (.Name nm q1) X.env:=by rfl) (hd:(nm==("__debug__":Str))=false:=by decide) (cb:(nm==("__classdict__":Str))=false:=by decide):
  PE X (.List [.BinOp (.Constant (.str a) j p1) .Add (.Name nm p2) p3,.Call (.Attribute (.Name nm p4) "replace" p5) [.Constant (.str y1) j1 p7,.Constant (.str z1) j2 p8,.Constant (.int 1) j3 p9] [] p6,.Call (.Attribute (.Name nm q1) "replace" q2) [.Constant (.str y2) j4 q4,.Constant (.str z2) j5 q5,.Constant (.int 1) j6 q6] [] q3] pos) (KR i a z1 z2):=by
 intro Zt s σ H Q I hq;obtain⟨z,e,hz,q⟩:=hq;refine wpAny_List_spliced ?_;show wpAny _ _ (spliced ((false,eval (.BinOp (.Constant (.str a) j p1) .Add (.Name nm p2) p3) X.env)::backTo pos (starEach [.Call (.Attribute (.Name nm p4) "replace" p5) [.Constant (.str y1) j1 p7,.Constant (.str z1) j2 p8,.Constant (.int 1) j3 p9] [] p6,.Call (.Attribute (.Name nm q1) "replace" q2) [.Constant (.str y2) j4 q4,.Constant (.str z2) j5 q5,.Constant (.int 1) j6 q6] [] q3] X.env))) _ _ s;refine Calls.spliced_cons (Fz hN hv hd cb I e ha Zu fun r1 t1 k1 m1 l1 Nu=>?_);show wpAny _ _ (spliced ((false,eval (.Call (.Attribute (.Name nm p4) "replace" p5) [.Constant (.str y1) j1 p7,.Constant (.str z1) j2 p8,.Constant (.int 1) j3 p9] [] p6) X.env)::backTo pos (starEach [.Call (.Attribute (.Name nm q1) "replace" q2) [.Constant (.str y2) j4 q4,.Constant (.str z2) j5 q5,.Constant (.int 1) j6 q6] [] q3] X.env))) _ _ _;refine Calls.spliced_cons (xx hN hv hd cb (I.tok k1) e h1 Zz Nu (fun r2 t2 k2 m2 Nv=>?_) jI dA);show wpAny _ _ (spliced ((false,eval (.Call (.Attribute (.Name nm q1) "replace" q2) [.Constant (.str y2) j4 q4,.Constant (.str z2) j5 q5,.Constant (.int 1) j6 q6] [] q3) X.env)::backTo pos (starEach [] X.env))) _ _ _;refine Calls.spliced_cons (xx hN hv hd cb ((I.tok k1).tok k2) e h2 Zz Nv (fun r3 t3 k3 m3 R3=>?_) rX cE);refine zAw ⟨by show 3<=sizeLine;decide,?_⟩;have I1:Inv X Zt σ H {s with toks:=k3}:=I.tok k3;have hf:H s.heap.objs.size=none:=I1.hok.fresh (zA3 _);refine⟨.ref s.heap.objs.size,upd H s.heap.objs.size (.lst [.str r1,.str r2,.str r3]),I1.laid (t':=k3) (fun b u e=>zAv _ e) (zA3 _) ?_,rfl,q r1 r2 r3 ⟨m1,l1⟩ m2 m3 _ hf⟩;exact⟨by show 3<=sizeLine;decide,_,0,.cons ⟨_,rfl⟩ (.cons ⟨_,rfl⟩ (.cons ⟨_,rfl⟩ .nil)),zB1 _ rfl⟩
end
open PySem PySem.Spec PyProof.Rows PySem.W
theorem wg{P:Program}{w:World}{K:Frag}{mg mb:Str->Option Value}{CX:CXT}{k:Nat}{fa a c T c2 T2:Addr}{fd:FuncData}{x qn qn2:Str}{sp:Sp}{s₁:Shared}{vs:List Value}{ns:List Int}
  (KX:K.In s₁.heap) (D0:s₁.heap.Ns mainGlobals mg) (hb:s₁.heap.Ns builtinsNs mb) (Nw:∀x:Str,x≠"__name__"->mb x=bootBuiltins x) (D1:s₁.heap.NoLimit) (hg:s₁.gens=#[])
  (hC:CodeHd s₁.heap c T) (hT:s₁.heap.get? T=some (tabObj #[])) (tN:CodeHd s₁.heap c2 T2) (iN:s₁.heap.get? T2=some (tabObj #[])) (n12:T≠T2) (hK:noTabs K=true) (bmain:∃bm ob,mg "__builtins__"=some (.ref bm)/\bm≠builtinsNs/\s₁.heap.get? bm=some ob/\ob.cls=.type "module"/\ob.dict=some builtinsNs/\ob.data=.plain)
  (ha:s₁.heap.get? a=some {cls:=.type "list",data:=.seq vs.toArray}) (hi:IntsAre vs ns) (hl:ns.length<=sizeLine) (hr:Room k callerA)
  (F:∀base:Heap,K.In base->base.Ns mainGlobals mg->CodeHd base c T->base.BuiltinsAt mg T->CodeHd base c2 T2->base.BuiltinsAt mg T2->FnOk P w K mg base CX k fa fd [x] sp) (ze:∀(s:Shared) (u:Value),BindsTo s fd ⟨[u],[]⟩ [(x,u)])
  (gv:∀H:Hp,SqL K H a (ns.map V.int)->TabOk H T qn->TabOk H T2 qn2->sp [.ref a] H (fun v _=>v=.bl true) fun _ _ _=>False) (D3:∀(H:Hp) (e:Value) (s':Shared),CX [] H s₁ (fun _ _ _=>False) e s'->False):
  codeAny (model P w) callerA (.call (.ref fa) ⟨[.ref a],[]⟩) (fun r s'=>r=.ok (.ret (.bool true))/\OldK s₁.heap s'.heap/\s'.os=s₁.os/\AllBare s'.gens) s₁:=by
 have rv:=qg hi;have D5:=hi.length
 have neT:∀{U:Addr},s₁.heap.get? U=some (tabObj #[])->a≠U:=fun hT z=>by
  rw[z,hT]at ha;cases ha
 have IF:∀{U:Addr},s₁.heap.get? U=some (tabObj #[])->K.lookup U=none:=fun{U} hT=>by
  cases e:K.lookup U with
  |none=>rfl
  |some o=>
   have h1:=KX _ _ e;rw[hT]at h1;cases h1;have h2:=List.all_eq_true.mp hK _ (mem_of_lookupK e);exact absurd (show false=true from h2) zAg
 have core:∀H:Hp,H T=some (.tbl #[])->H T2=some (.tbl #[])->(∀b,b≠T->b≠T2->H b=none\/∃o xs,H b=some (.frz o (.lst xs)))->SqL K H a (ns.map V.int)->HOk P w H s₁.heap->(∀b,H b≠none->b=a\/b=T\/b=T2)->(H a≠none->K.lookup a=none)->
   codeAny (model P w) callerA (.call (.ref fa) ⟨[.ref a],[]⟩) (fun r s'=>r=.ok (.ret (.bool true))/\OldK s₁.heap s'.heap/\s'.os=s₁.os/\AllBare s'.gens) s₁:=by
  intro H eT IG hO hS hok hA Nx;have dP:∀{b:Addr} {o:Obj},s₁.heap.get? b=some o->H b=none->(nP s₁.heap H).get? b=some o:=fun e n=>Ab e n
  have apart:∀{b:Addr} {o:Obj},s₁.heap.get? b=some o->(∀Zr n,o.data≠.seq Zr n)->o.cls≠.none->H b=none:=fun{b o} e h1 h2=>by
   cases q:H b with
   |none=>rfl
   |some u=>
    rcases hA b (by rw[q];simp)with z|z|z
    .rw[z,ha]at e;cases e;exact absurd rfl (h1 _ _)
    .rw[z,hT]at e;cases e;exact absurd rfl h2
    .rw[z,iN]at e;cases e;exact absurd rfl h2
  have we:∀{b:Addr} {o:Obj} {es:Array DictEntry} {ep:Nat},s₁.heap.get? b=some o->o.data=.dict es ep->H b=none:=fun{b o es ep} e d=>by
   cases q:H b with
   |none=>rfl
   |some u=>
    rcases hA b (by rw[q];simp)with z|z|z
    .rw[z,ha]at e;cases e;cases d
    .rw[z,hT]at e;cases e;cases d
    .rw[z,iN]at e;cases e;cases d
  have BD:∀{b:Addr} {m:Str->Option Value},s₁.heap.Ns b m->(nP s₁.heap H).Ns b m:=fun{b m} ⟨o,es,ep,e,d,r⟩=>⟨o,es,ep,dP e (we e d),d,r⟩
  have IH:K.In (nP s₁.heap H):=fun b o e=>dP (KX b o e) (by
   cases q:H b with
   |none=>rfl
   |some u=>
    rcases hA b (by rw[q];simp)with z|z|z
    .subst z;rw[Nx (by rw[q];simp)]at e;cases e
    .rw[z,IF hT]at e;cases e
    .rw[z,IF iN]at e
     cases e)
  have hM:Mod K mg (nP s₁.heap H):=⟨IH,BD D0,⟨mb,BD hb,Nw⟩,let⟨mc,h1,h2⟩:=D1;⟨mc,BD h1,h2⟩⟩
  have e0:Env0 P w K mg (nP s₁.heap H) callerA [] s₁ H:=⟨rfl,hM,fun b o e=>Eh e,Nat.le_of_eq (yG _ _),trivial,fun b hb=>absurd (show b∈([]:List Addr)from hb) Zy,hok,.of_eq hg⟩
  have II:∀{c U:Addr},CodeHd s₁.heap c U->CodeHd (nP s₁.heap H) c U:=fun hC=>by
   obtain⟨o,Ny,file,tf,flags,tg,mr,text,tt,e,h1,h2,r⟩:=hC;exact⟨o,Ny,file,tf,flags,tg,mr,text,tt,dP e (apart e (fun Zr n z=>by rw[h2]at z;cases z) fun z=>by rw[h1]at z;cases z),h1,h2,r⟩
  have IJ:∀{U:Addr},s₁.heap.get? U=some (tabObj #[])->(nP s₁.heap H).BuiltinsAt mg U:=fun{U} hT=>by
   obtain⟨bm,ob,b1,b2,b3,b4,b5,b6⟩:=bmain;refine⟨bm,ob,b1,b2,fun z=>?_,fun z=>?_,dP b3 (apart b3 (fun Zr n z=>by rw[b6]at z;cases z) fun z=>by rw[b4]at z;cases z),b4,b5,b6⟩
   .obtain⟨o,es,ep,e,d,_⟩:=D0;rw[z,e]at b3;cases b3;rw[d]at b6;cases b6
   .rw[z,hT]at b3;cases b3;cases b4
  refine codeAny_mono ((F _ IH (BD D0) (II hC) (IJ hT) (II tN) (IJ iN)).run callerA [] s₁ H ⟨[.ref a],[]⟩ [.ref a] [.ref a] _ _ hr e0 (ze s₁ (.ref a)) (.cons rfl .nil) (gv H hS ⟨#[],eT,trivial,fun l=>.inl rfl⟩ ⟨#[],IG,trivial,fun l=>.inl rfl⟩)) fun r s' h=>?_
  cases r with
  |error e=>exact(D3 H e s' h).elim
  |ok fl=>
   cases fl with
   |next=>exact False.elim h
   |brk=>exact False.elim h
   |cont=>exact False.elim h
   |ret u=>
    obtain⟨v,H',os,bare,un,kM,r',q⟩:=h;have q':v=.bl true:=q;subst q';obtain rfl:u=Value.bool true:=r'
    have kept:∀b o,b≠T->b≠T2->s₁.heap.get? b=some o->s'.heap.get? b=some o:=fun b o nb tP e=>by
     rcases hO b nb tP with z|⟨ob,xs,z⟩
     .exact un.keep b o e z (by intro z;exact absurd (show b∈([]:List Addr)from z) Zy) Zy
     .have z2:=un.frzs b ob _ z;obtain⟨e1,_⟩:=hok b _ z;obtain⟨e2,_⟩:=kM b _ z2;rw[e]at e1;cases e1;exact e2
    obtain⟨more,Nz⟩:=un.tbls T #[] eT;have IL:s'.heap.get? T=some (tabObj (#[]++more)):=kM T _ Nz;obtain⟨oa,D6⟩:=un.tbls T2 #[] IG;have zh:s'.heap.get? T2=some (tabObj (#[]++oa)):=kM T2 _ D6;refine⟨rfl,⟨fun b o e=>?_,fun b o e=>?_⟩,os,bare⟩
    .by_cases z:b=T
     .subst z;rw[hT]at e;cases e;exact .inr (.inl ⟨(hC.tab hT).isCodeTable,rfl,#[],more,rfl,IL⟩)
     .by_cases z2:b=T2
      .subst z2;rw[iN]at e;cases e;exact .inr (.inl ⟨(tN.tab iN).isCodeTable,rfl,#[],oa,rfl,zh⟩)
      .exact .inl (kept b o z z2 e)
    .by_cases z:b=T
     .rw[z];exact⟨_,IL⟩
     .by_cases z2:b=T2
      .rw[z2];exact⟨_,zh⟩
      .exact⟨o,kept b o z z2 e⟩
 cases hk:K.lookup a with
 |some o=>
  have e:=KX a o hk;rw[ha]at e;cases e;refine core (fun b=>if b=T\/b=T2 then some (.tbl #[])else none) (if_pos (.inl rfl)) (if_pos (.inr rfl)) (fun b nb tP=>.inl (if_neg fun z=>z.elim nb tP)) (.inr ⟨_,vs.toArray,_,hk,rfl,rfl,rfl,by rw[List.size_toArray,D5];exact hl,by simpa using rv⟩) (fun b u z=>?_) (fun b z=>?_) fun z=>absurd (if_neg fun y=>y.elim (neT hT) (neT iN)) z
  .by_cases eC:b=T\/b=T2
   .have z':=(zB3 eC).symm.trans z;cases z';rcases eC with rfl|rfl
    .exact hT
    .exact iN
   .have z':=(zB0 eC).symm.trans z;cases z'
  .by_cases eC:b=T\/b=T2
   .exact .inr eC
   .exact absurd (zB0 eC) z
 |none=>
  refine core (fun b=>if b=T\/b=T2 then some (.tbl #[])else if b=a then some (.frz {cls:=.type "list",data:=.seq vs.toArray} (.lst (ns.map V.int)))else none) (zB3 (.inl rfl)) (zB3 (.inr rfl)) (fun b nb tP=>?_) (.inl (.inr ⟨{cls:=.type "list",data:=.seq vs.toArray},(zB0 fun y=>y.elim (neT hT) (neT iN)).trans (zB3 rfl)⟩)) (fun b u z=>?_) (fun b z=>?_) fun _=>hk
  .by_cases eC:b=a
   .exact .inr ⟨_,_,(zB0 fun z=>z.elim nb tP).trans (zB3 eC)⟩
   .exact .inl ((zB0 fun z=>z.elim nb tP).trans (zB0 eC))
  .by_cases jI:b=T\/b=T2
   .have z':=(zB3 jI).symm.trans z;cases z';rcases jI with rfl|rfl
    .exact hT
    .exact iN
   .by_cases eC:b=a
    .have z':=((zB0 jI).trans (zB3 eC)).symm.trans z;cases z';subst eC;exact⟨ha,by rw[zA1];exact hl,vs,_,rv,ha⟩
    .have z':=((zB0 jI).trans (zB0 eC)).symm.trans z;cases z'
  .by_cases jI:b=T\/b=T2
   .exact .inr jI
   .by_cases eC:b=a
    .exact .inl eC
    .exact absurd ((zB0 jI).trans (zB0 eC)) z
theorem walk_ofT2{l:PySem.W.OpenLaw}{n k:Nat}{q:Program}{loose:List Str}{XP:(Str->Option Value)->Heap->Prop}{YP:World->Heap->Prop}{d dr D7:DefRec}{K:Params->Frag}{CX:World->CXT}{sp:World->Sp}{x nm nm2 qn qn2:Str}{c T c2 T2:Addr}
  (hn:l.most=some n) (nI:n<=sizeLine) (qA:d.params.defaults=[]) (hr:Room k callerA)
  (hY:∀(w:World) (h:Heap),YP w h->(K w.params).In h)
  (D8:(recsOf q).find? (fun e=>e.name==nm)=some dr) (yT:∀p:Params,tabIn (K p) nm=some (c,T)) (se:(recsOf q).find? (fun e=>e.name==nm2)=some D7) (sh:∀p:Params,tabIn (K p) nm2=some (c2,T2)) (n12:T≠T2) (tS:∀p:Params,noTabs (K p)=true)
  (F:∀(w:World) (mg:Str->Option Value) (fa:Addr) (h:Heap),(K w.params).In h->h.Ns mainGlobals mg->mg d.name=some (.ref fa)->
   ∃fd:FuncData,(∀(s:Shared) (u:Value),BindsTo s fd ⟨[u],[]⟩ [(x,u)]) /\
    ∀base:Heap,(K w.params).In base->base.Ns mainGlobals mg->CodeHd base c T->base.BuiltinsAt mg T->CodeHd base c2 T2->base.BuiltinsAt mg T2->FnOk l.prog w (K w.params) mg base (CX w) k fa fd [x] (sp w))
  (gv:∀(w:World) (H:Hp) (a:Addr) (ns:List Int),ns.length<=n->SqL (K w.params) H a (ns.map V.int)->TabOk H T qn->TabOk H T2 qn2->sp w [.ref a] H (fun v _=>v=.bl true) fun _ _ _=>False)
  (D3:∀(w:World) (H:Hp) (s:Shared) (e:Value) (s':Shared),CX w [] H s (fun _ _ _=>False) e s'->False):
  PySem.W.WalkO q loose XP YP l.row.toRowW d [] (fun f vs=>PySem.call f vs):=by
 refine Att.attach_call hn qA fun w s₀ s₁ mg mb fa o pm cd doc a vs ns G Y ho hd cb hmg qB hints hlen hg=>?_;have KX:=hY w _ Y;obtain⟨fd,hb,hF⟩:=F w mg fa _ KX G.T.g hmg;obtain⟨hC,hT⟩:=tab_of G.T KX D8 (yT w.params);obtain⟨tN,iN⟩:=tab_of G.T KX se (sh w.params);exact wg KX G.T.g G.T.b G.T.builtins G.T.nolimit hg hC hT tN iN n12 (tS w.params) G.T.bmain qB hints (Nat.le_trans hlen nI) hr hF hb (fun H hS NA D9=>gv w H a ns hlen hS NA D9) fun H e s'=>D3 w H s₁ e s'
end L2
namespace K80
open PySem L2
def top(i:Nat):Stmt:=PySem.Challenge.pw_woolyears_k80_books_as_texts.main.body.getD i (.Pass ⟨0,0,0,0⟩)
def bH(d:PyData):Bool:=lX d&&!kE d
def items:PyData->List PyData
 |.tuple ds=>ds
 |_=>[]
def intOf:PyData->Int
 |.int i=>i
 |_=>0
def bz(d:PyData)(f m:Int):Bool:=dg d&&(decide (f<=(items d).length)&&decide (((items d).length:Int)<=m))
def aZ(d:PyData)(n:Int):Bool:=bz d n n&&(items d).all bH
def gf(d:PyData):Bool:=aZ d 3&&(items d).all fun x=>decide (0<=intOf x)&&decide (intOf x<=999)
def eY(d:PyData):Bool:=bz d 1 20&&(items d).all gf
def at_(d:PyData)(i:Nat):Int:=intOf ((items d).getD i .none)
def jV(a b c d e f:Int):Bool:=
 (decide (0<=a)&&decide (a<8))&&((decide (0<=b)&&decide (b<3))&&((decide (0<=c)&&(decide (c<=d)&&decide (d<=19)))&&((decide (1<=e)&&decide (e<=99))&&(decide (0<=f)&&decide (f<=1000000)))))
def iy(d:PyData):Bool:=aZ d 6&&jV (at_ d 0) (at_ d 1) (at_ d 2) (at_ d 3) (at_ d 4) (at_ d 5)
def dh(d:PyData):Bool:=bz d 0 10&&(items d).all iy
theorem nd1(x:Str):([x]:List Str).Nodup:=by simp
theorem IK(d:PyData):1<=sz d:=by cases d<;>simp[sz]
theorem xF:∀(ds:List PyData),ds.length<=szs ds
 |[]=>zAp _
 |d::ds=>by
  have:=xF ds;have:=IK d;simp only[List.length_cons,szs];lia
theorem xG:∀{ds:List PyData} {d:PyData},d∈ds->sz d<=szs ds
 |x::ds,d,h=>by
  simp only[szs];rcases zAo.mp h with e|e
  .rw[e];lia
  .have:=xG e;lia
theorem iY{ds:List PyData}{d:PyData}(h:d∈ds)(hz:sz (.tuple ds)<=4000):sz d<=4000:=by
 have:=xG h;simp only[sz]at hz;lia
theorem iz{S:Addr->Prop}{H:Hp}{xs:List V}{ds:List PyData}(r:IsThs S H xs ds)(hz:sz (.tuple ds)<=4000):xs.length<sizeLine:=by
 have:=xF ds;have:=r.length;simp only[sz]at hz;rw[sizeLine_eq];lia
def spT(f:PyData->Bool):Sp:=fun vs H Q _=>∃S v d,vs=[v]/\IsTh S H v d/\sz d<=4000/\∀H',Same H H'->Q (.bl (f d)) H'
inductive SpT1I(f:PyData->Int->Bool)(vs:List V)(H:Hp)(Q:VK):Prop
 |mk:∀S v d n,(vs=[v,.int n])->(IsTh S H v d)->(sz d<=4000)->(∀H',Same H H'->Q (.bl (f d n)) H')->SpT1I f vs H Q
def FN(f:PyData->Int->Bool):Sp:=fun vs H Q _=>SpT1I f vs H Q
def uU(f:PyData->Int->Int->Bool):Sp:=fun vs H Q _=>∃S v d n m,vs=[v,.int n,.int m]/\IsTh S H v d/\sz d<=4000/\∀H',Same H H'->Q (.bl (f d n m)) H'
structure Mg(mg:Str->Option Value):Prop where
 isinstance:mg "isinstance"=none
 int:mg "int"=none
 bool:mg "bool"=none
 tuple:mg "tuple"=none
 len:mg "len"=none
 all:mg "all"=none
theorem boot_int:bootBuiltins "int"=some (.type "int"):=by decide +kernel
theorem boot_bool:bootBuiltins "bool"=some (.type "bool"):=by decide +kernel
theorem boot_tuple:bootBuiltins "tuple"=some (.type "tuple"):=by decide +kernel
theorem boot_isinstance:bootBuiltins "isinstance"=some (.builtin "isinstance"):=by decide +kernel
theorem boot_all:bootBuiltins "all"=some (.builtin "all"):=by decide +kernel
theorem gB{K:Frag}{S:Addr->Prop}{te:TE}{src:List (Option Nat)}{i j:Nat}{σ:St}{H:Hp}{Q:VK}{a:Addr}{xs:List V}{ds:List PyData}(f:PyData->Bool)(gS:σ[i]?=some (some (.ref a)))(ea:H a=some (.tup xs))(r:IsThs S H xs ds)(hl:xs.length<sizeLine)
  (mv:∀v d H1 Q1,d∈ds->Same H H1->IsTh S H1 v d->(∀H',Same H1 H'->Q1 (.bl (f d)) H')->te ((capσ σ src).set j (some v)) H1 Q1) (q:∀H',Same H H'->Q (.bl (ds.all f)) H'):
  tCB (fun xs H Q=>∃(p:Addr) (bs:List Bool),xs=[.ref p]/\SqL K H p (bs.map V.bl)/\Q (.bl (bs.all id)) H) (cA (wQ (HJ K (iI i)) src (dH j) u9 te) il) σ H Q:=by
 refine⟨_,gS,a,rfl,⟨xs,SqT.of ea⟩,ut (j:=j) f ea r hl mv fun H2 s2 D hD=>⟨D,ds.map f,rfl,?_,?_⟩⟩
 .rw[<-Ay];exact SqL.of aa
 .rw[Ig];exact q _ (s2.updR hD)
structure Nums(mg:Str->Option Value):Prop where
 sorts:∃t,mg "SORTS"=some (.int 3 t)
 holders:∃t,mg "HOLDERS"=some (.int 8 t)
 year:∃t,mg "LAST_YEAR"=some (.int 19 t)
 clips:∃t,mg "MOST_CLIPS"=some (.int 20 t)
 proms:∃t,mg "MOST_PROMISES"=some (.int 10 t)
 wool:∃t,mg "MOST_WOOL"=some (.int 999 t)
 sacks:∃t,mg "MOST_SACKS"=some (.int 99 t)
 price:∃t,mg "MOST_PRICE"=some (.int 1000000 t)
theorem mH{d:PyData}{n:Int}(h:aZ d n=true):bz d n n=true/\∀x∈items d,bH x=true:=by
 unfold aZ at h;rw[zAc]at h;exact⟨h.1,List.all_eq_true.mp h.2⟩
theorem qJ{S:Addr->Prop}{H:Hp}{v:V}{d:PyData}(h:IsTh S H v d)(e:bH d=true):∃i,v=.int i/\d=.int i:=by
 cases h with
 |int i=>exact⟨i,rfl,rfl⟩
 |_=>cases e
theorem lw{α:Type}{n:Nat}{l:List α}(h:l.length=n+1):∃a t,l=a::t/\t.length=n:=by
 cases l with
 |nil=>cases h
 |cons a t=>exact⟨a,t,rfl,Nat.succ.inj h⟩
theorem K4{α:Type}{l:List α}(h:l.length=5):∃a b c d e,l=[a,b,c,d,e]:=by
 obtain⟨a,l1,e1,h1⟩:=lw h;obtain⟨b,l2,e2,h2⟩:=lw h1;obtain⟨c,l3,e3,h3⟩:=lw h2;obtain⟨d,l4,e4,h4⟩:=lw h3;obtain⟨e,l5,e5,h5⟩:=lw h4;exact⟨a,b,c,d,e,by rw[e1,e2,e3,e4,e5,List.length_eq_zero_iff.mp h5]⟩
theorem IV{α:Type}{l:List α}(h:l.length=6):∃a b c d e f,l=[a,b,c,d,e,f]:=by
 obtain⟨a,l1,e1,h1⟩:=lw h;obtain⟨b,c,d,e,f,e2⟩:=K4 h1;exact⟨a,b,c,d,e,f,by rw[e1,e2]⟩
theorem iC{S:Addr->Prop}{H:Hp}{xs:List V}{d:PyData}{ds:List PyData}(r:IsThs S H xs (d::ds))(e:bH d=true):∃i t,xs=.int i::t/\d=.int i/\IsThs S H t ds:=by
 cases r with
 |cons h1 r=>
  obtain⟨i,rfl,rfl⟩:=qJ h1 e;exact⟨i,_,rfl,rfl,r⟩
theorem oU{S:Addr->Prop}{H:Hp}{xs:List V}{d:PyData}{ds:List PyData}(r:IsThs S H xs (d::ds)):∃v t,xs=v::t/\IsTh S H v d/\IsThs S H t ds:=by
 cases r with
 |cons h1 r=>exact⟨_,_,rfl,h1,r⟩
theorem qK{S:Addr->Prop}{H:Hp}{xs:List V}{ds:List PyData}(r:IsThs S H xs ds)(hl:ds.length=3):∃v0 v1 v2 d0 d1 d2,xs=[v0,v1,v2]/\ds=[d0,d1,d2]/\IsTh S H v0 d0/\IsTh S H v1 d1/\IsTh S H v2 d2:=by
 obtain⟨d0,l1,e1,h1⟩:=lw hl;obtain⟨d1,l2,e2,h2⟩:=lw h1;obtain⟨d2,l3,e3,h3⟩:=lw h2;have e:ds=[d0,d1,d2]:=by rw[e1,e2,e3,List.length_eq_zero_iff.mp h3]
 subst e;obtain⟨v0,t0,f0,i0,r0⟩:=oU r;obtain⟨v1,t1,f1,i1,r1⟩:=oU r0;obtain⟨v2,t2,f2,i2,r2⟩:=oU r1;cases r2;exact⟨v0,v1,v2,d0,d1,d2,by rw[f0,f1,f2],rfl,i0,i1,i2⟩
theorem Ca{S:Addr->Prop}{H:Hp}{xs:List V}{ds:List PyData}(r:IsThs S H xs ds)(hl:ds.length=6)(hw:∀x∈ds,bH x=true):
  ∃i1 i2 i3 i4 i5 i6:Int,xs=[.int i1,.int i2,.int i3,.int i4,.int i5,.int i6]/\ds=[.int i1,.int i2,.int i3,.int i4,.int i5,.int i6]:=by
 obtain⟨d1,d2,d3,d4,d5,d6,rfl⟩:=IV hl;obtain⟨i1,t1,e1,rfl,r1⟩:=iC r (hw _ Zy);obtain⟨i2,t2,e2,rfl,r2⟩:=iC r1 (hw _ Zy);obtain⟨i3,t3,e3,rfl,r3⟩:=iC r2 (hw _ Zy);obtain⟨i4,t4,e4,rfl,r4⟩:=iC r3 (hw _ Zy);obtain⟨i5,t5,e5,rfl,r5⟩:=iC r4 (hw _ Zy);obtain⟨i6,t6,e6,rfl,r6⟩:=iC r5 (hw _ Zy);cases r6;exact⟨i1,i2,i3,i4,i5,i6,by rw[e1,e2,e3,e4,e5,e6],rfl⟩
theorem zH{ds:List PyData}{n m:Int}(h:bz (.tuple ds) n m=true):n<=(ds.length:Int)/\(ds.length:Int)<=m:=by
 have h:(true&&(decide (n<=(ds.length:Int))&&decide ((ds.length:Int)<=m)))=true:=h;rw[Bool.true_and,zAc]at h;exact⟨zB8 h.1,zB8 h.2⟩
def Cal(P:Program)(w:World)(K:Frag)(mg:Str->Option Value)(base:Heap)(k:Nat)(x:Str)(ps:List Str)(sp:Sp):Prop:=
 ∃f fd,FnOk P w K mg base CX0 k f fd ps sp/\mg x=some (.ref f)/\PySem.W.keepIn K (.ref f)=true/\Binds K fd ps []
theorem aG{X:Cx}{k j:Nat}{x:Str}{ps:List Str}{sp:Sp}{p pos:Pos}{e:Expr}{es:List Expr}{t:TA}(c:Cal X.prog X.w X.K X.mg X.base j x ps sp)(hr:Room k X.A)(ha:PA X (e::es) t)(zi:j<=k:=by decide)(hg:Gl X x:=by exact rfl)
  (eR:(x==("__debug__":Str))=false:=by decide) (he:starEach (e::es) X.env=(false,eval e X.env)::starEach es X.env:=by rfl) (dv:(backTo pos (starEach es X.env)).any (·.1)=false:=by rfl):
  PE X (.Call (.Name x p) (e::es) [] pos) (u0 sp [] E0 t):=by
 obtain⟨f,fd,F,hm,hk,hb⟩:=c;exact rC F (hr.mono zi) hg hm hk hb .nil JL ha eR he dv
variable{P:Program}{w:World}{K:Frag}{mg:Str->Option Value}{base:Heap}{f:Addr}{fd:FuncData}
theorem sc1:FnScope ["thing"] ["thing"] (au (top 20)):=fQS
theorem uV(F:Fun K "is_whole" "is_whole" (top 20) f fd)(T:Mg mg):FnOk P w K mg base CX0 1 f fd ["thing"] (spT bH):=by
 refine F.ok sc1 (fun vs H Q E h=>?_) (fun cdv A outer s H vs Q E hr h=>?_)
 .obtain⟨S,v,d,rfl,_⟩:=h;rfl
 .obtain⟨S,v,d,rfl,th,hz,q⟩:=h
  refine⟨_,aD (aO (cC (aK bR rfl T.isinstance boot_isinstance (aP (pv 0) (aP (dO rfl T.int boot_int (v:=.ty "int") rfl) aj)))
   (f9 (Ac (aK bR rfl T.isinstance boot_isinstance (aP (pv 0) (aP (dO rfl T.bool boot_bool (v:=.ty "bool") rfl) aj))))))),?_⟩
  refine⟨_,rfl,v,_,"int",lX d,rfl,th.ty,wX d,_,rfl,?_⟩;have fin:=q H (Same.refl H);unfold bH at fin
  cases e:lX d with
  |false=>
   rw[e]at fin;exact aW fin
  |true=>
   rw[e]at fin;exact aY ⟨_,rfl,v,_,"bool",kE d,rfl,th.ty,ul d,_,rfl,fin⟩
theorem sc2:FnScope ["thing","fewest","most"] ["thing","fewest","most"] (au (top 21)):=fQS
theorem oV(F:Fun K "is_tuple_of" "is_tuple_of" (top 21) f fd)(T:Mg mg):FnOk P w K mg base CX0 1 f fd ["thing","fewest","most"] (uU bz):=by
 refine F.ok sc2 (fun vs H Q E h=>?_) (fun cdv A outer s H vs Q E hr h=>?_)
 .obtain⟨S,v,d,n,m,rfl,_⟩:=h;rfl
 .obtain⟨S,v,d,n,m,rfl,th,hz,q⟩:=h
  refine⟨_,aD (aO (cC (aK bR rfl T.isinstance boot_isinstance (aP (pv 0) (aP (dO rfl T.tuple boot_tuple (v:=.ty "tuple") rfl) aj)))
   (f9 (cP cj cj (pv 1) (aK bF rfl T.len PySem.boot_len (aP (pv 0) aj)) (pv 2))))),?_⟩
  refine⟨_,rfl,v,_,"tuple",dg d,rfl,th.ty,nG d,_,rfl,?_⟩;have fin:=q H (Same.refl H);unfold bz at fin
  cases e:dg d with
  |false=>
   rw[e]at fin;exact aW fin
  |true=>
   rw[e]at fin;refine aY ?_
   cases th with
   |@tup a xs ds ea r=>
    have hl:=r.length;refine⟨_,rfl,_,rfl,a,xs,rfl,.inr (SqT.of ea),_,_,rfl,rfl,_,rfl,?_⟩;rw[hl];have fin:Q (.bl (true&&(decide (n<=(ds.length:Int))&&decide ((ds.length:Int)<=m)))) H:=fin
    cases e1:decide (n<=(ds.length:Int))with
    |false=>
     rw[e1]at fin;exact aW fin
    |true=>
     rw[e1]at fin;exact aY ⟨_,rfl,_,_,rfl,rfl,fin⟩
   |_=>cases e
theorem sc3:FnScope ["thing","many"] ["thing","many"] (au (top 22)):=fQS
theorem pQ(F:Fun K "are_wholes" "are_wholes" (top 22) f fd)(T:Mg mg)(c1:Cal P w K mg base 1 "is_whole" ["thing"] (spT bH))(c2:Cal P w K mg base 1 "is_tuple_of" ["thing","fewest","most"] (uU bz)):
  FnOk P w K mg base CX0 2 f fd ["thing","many"] (FN aZ):=by
 refine F.ok sc3 (fun vs H Q E h=>?_) (fun cdv A outer s H vs Q E hr h=>?_)
 .obtain⟨S,v,d,n,rfl,_⟩:=h;rfl
 .obtain⟨S,v,d,n,rfl,th,hz,q⟩:=h
  refine⟨_,aD (aO (cC (aG c2 hr (aP (pv 0) (aP (pv 1) (aP (pv 1) aj))))
   (f9 (aK (eG rfl) rfl T.all boot_all (aP (bG ["part"] [none] rfl (fV (pv 0))
    (fun C fp Zt s₂ H₂=>⟨bw (i:=0) (nd1 _) rfl (Or.inl rfl),bJ,aG c1 hr (aP (pv 0) aj)⟩) (fun C=>trivial) ⟨rfl,rfl,rfl,rfl⟩) aj))))),?_⟩
  refine⟨_,rfl,_,rfl,_,rfl,S,v,d,n,n,rfl,th,hz,fun H1 s1=>⟨_,rfl,?_⟩⟩;have gp:=th.same s1
  cases e:bz d n n with
  |false=>
   refine aW ?_;have fin:=q H1 s1;unfold aZ at fin;rw[e]at fin;exact fin
  |true=>
   refine aY ?_
   cases gp with
   |@tup a xs ds ea r=>
    have ew:aZ (.tuple ds) n=ds.all bH:=by unfold aZ;rw[e];rfl
    refine gB bH rfl ea r (iz r hz) (fun v d H2 Q2 hm s2 t2 q2=>⟨_,rfl,S,v,d,rfl,t2,iY hm hz,q2⟩) fun H2 s2=>?_;rw[<-ew];exact q _ (s1.trans s2)
   |_=>cases e
theorem KY:FnScope ["thing"] ["thing"] (au (top 33)):=fQS
theorem wj(F:Fun K "is_clip" "is_clip" (top 33) f fd)(T:Mg mg)(N:Nums mg)(c1:Cal P w K mg base 2 "are_wholes" ["thing","many"] (FN aZ)):
  FnOk P w K mg base CX0 3 f fd ["thing"] (spT gf):=by
 refine F.ok KY (fun vs H Q E h=>?_) (fun cdv A outer s H vs Q E hr h=>?_)
 .obtain⟨S,v,d,rfl,_⟩:=h;rfl
 .obtain⟨S,v,d,rfl,th,hz,q⟩:=h;obtain⟨t3,e3⟩:=N.sorts;obtain⟨t9,e9⟩:=N.wool
  refine⟨_,aD (aO (cC (aG c1 hr (aP (pv 0) (aP (bO (v:=.int 3) rfl e3 ⟨_,rfl⟩) aj)))
   (f9 (aK (eG rfl) rfl T.all boot_all (aP (bG ["sacks"] [none] rfl (fV (pv 0))
    (fun C fp Zt s₂ H₂=>⟨bw (i:=0) (nd1 _) rfl (Or.inl rfl),bJ,cP cj cj ao (pv 0) (bO (v:=.int 999) rfl e9 ⟨_,rfl⟩)⟩) (fun C=>trivial) ⟨rfl,rfl,rfl,rfl⟩) aj))))),?_⟩
  refine⟨_,rfl,S,v,d,3,rfl,th,hz,fun H1 s1=>⟨_,rfl,?_⟩⟩;have gp:=th.same s1;have fin:=fun H' (s:Same H H')=>q H' s;unfold gf at fin
  cases e:aZ d 3 with
  |false=>
   rw[e]at fin;exact aW (fin _ s1)
  |true=>
   rw[e]at fin;refine aY ?_;obtain⟨e1,e2⟩:=mH e
   cases gp with
   |@tup a xs ds ea r=>
    refine gB (fun x=>decide (0<=intOf x)&&decide (intOf x<=999)) rfl ea r (iz r hz) (fun v d H2 Q2 hm s2 t2 q2=>?_) fun H2 s2=>fin _ (s1.trans s2);obtain⟨i,rfl,rfl⟩:=qJ t2 (e2 d hm);refine⟨_,rfl,_,_,rfl,rfl,_,rfl,?_⟩;have q3:=q2 H2 (Same.refl _);show if decide ((0:Int)<=i)=true then _ else _
    cases e5:decide ((0:Int)<=i)with
    |false=>
     refine aW ?_;have q3:Q2 (.bl (decide ((0:Int)<=i)&&decide (i<=999))) H2:=q3;rw[e5]at q3;exact q3
    |true=>
     refine aY ⟨_,_,rfl,rfl,?_⟩;have q3:Q2 (.bl (decide ((0:Int)<=i)&&decide (i<=999))) H2:=q3;rw[e5]at q3;exact q3
   |_=>cases e1
theorem KZ:FnScope ["thing"] ["thing"] (au (top 34)):=fQS
theorem sO(F:Fun K "are_clips" "are_clips" (top 34) f fd)(T:Mg mg)(N:Nums mg)(c1:Cal P w K mg base 3 "is_clip" ["thing"] (spT gf))(c2:Cal P w K mg base 1 "is_tuple_of" ["thing","fewest","most"] (uU bz)):
  FnOk P w K mg base CX0 4 f fd ["thing"] (spT eY):=by
 refine F.ok KZ (fun vs H Q E h=>?_) (fun cdv A outer s H vs Q E hr h=>?_)
 .obtain⟨S,v,d,rfl,_⟩:=h;rfl
 .obtain⟨S,v,d,rfl,th,hz,q⟩:=h;obtain⟨t3,e3⟩:=N.clips
  refine⟨_,aD (aO (cC (aG c2 hr (aP (pv 0) (aP ao (aP (bO (v:=.int 20) rfl e3 ⟨_,rfl⟩) aj))))
   (f9 (aK (eG rfl) rfl T.all boot_all (aP (bG ["part"] [none] rfl (fV (pv 0))
    (fun C fp Zt s₂ H₂=>⟨bw (i:=0) (nd1 _) rfl (Or.inl rfl),bJ,aG c1 hr (aP (pv 0) aj)⟩) (fun C=>trivial) ⟨rfl,rfl,rfl,rfl⟩) aj))))),?_⟩
  refine⟨_,rfl,S,v,d,1,20,rfl,th,hz,fun H1 s1=>⟨_,rfl,?_⟩⟩;have gp:=th.same s1;have fin:=fun H' (s:Same H H')=>q H' s;unfold eY at fin
  cases e:bz d 1 20 with
  |false=>
   rw[e]at fin;exact aW (fin _ s1)
  |true=>
   rw[e]at fin;refine aY ?_
   cases gp with
   |@tup a xs ds ea r=>exact gB gf rfl ea r (iz r hz) (fun v d H2 Q2 hm s2 t2 q2=>⟨_,rfl,S,v,d,rfl,t2,iY hm hz,q2⟩) fun H2 s2=>fin _ (s1.trans s2)
   |_=>cases e
theorem sc15:FnScope ["thing","holder","sort","first","last","sacks","price"] ["thing"] (au (top 35)):=fQS
theorem pR(F:Fun K "is_promise" "is_promise" (top 35) f fd)(T:Mg mg)(N:Nums mg)(c1:Cal P w K mg base 2 "are_wholes" ["thing","many"] (FN aZ)):
  FnOk P w K mg base CX0 3 f fd ["thing"] (spT iy):=by
 refine F.ok sc15 (fun vs H Q E h=>?_) (fun cdv A outer s H vs Q E hr h=>?_)
 .obtain⟨S,v,d,rfl,_⟩:=h;rfl
 .obtain⟨S,v,d,rfl,th,hz,q⟩:=h;obtain⟨t1,e1⟩:=N.holders;obtain⟨t2,e2⟩:=N.sorts;obtain⟨t3,e3⟩:=N.year;obtain⟨t4,e4⟩:=N.sacks;obtain⟨t5,e5⟩:=N.price
  refine⟨_,aJ (bZ (bN (bM (aG c1 hr (aP (pv 0) (aP ao aj))))) (aD (aO ig)) bc)
   (aJ (dU (pv 0) (dR rfl (az (pgn 1 sc15.nd) (az (pgn 2 sc15.nd) (az (pgn 3 sc15.nd)
    (az (pgn 4 sc15.nd) (az (pgn 5 sc15.nd) (az (pgn 6 sc15.nd) bT))))))))
   (aD (aO (cC (cP cj mV ao (pv 1) (bO (v:=.int 8) rfl e1 ⟨_,rfl⟩)) (cC (cP cj mV ao (pv 2) (bO (v:=.int 3) rfl e2 ⟨_,rfl⟩))
    (cC (yS cj cj cj ao (pv 3) (pv 4) (bO (v:=.int 19) rfl e3 ⟨_,rfl⟩)) (cC (cP cj cj ao (pv 5) (bO (v:=.int 99) rfl e4 ⟨_,rfl⟩))
     (f9 (cP cj cj ao (pv 6) (bO (v:=.int 1000000) rfl e5 ⟨_,rfl⟩)))))))))),?_⟩
  refine⟨_,rfl,S,v,d,6,rfl,th,hz,fun H1 s1=>⟨_,rfl,?_⟩⟩;have gp:=th.same s1;have fin:=fun H' (s:Same H H')=>q H' s;unfold iy at fin
  cases e:aZ d 6 with
  |false=>
   rw[e]at fin;exact aY (fin _ s1)
  |true=>
   rw[e]at fin;refine aW ?_;obtain⟨z1,z2⟩:=mH e
   cases gp with
   |@tup a xs ds ea r=>
    have hl:ds.length=6:=by
     have:=zH z1;lia
    obtain⟨i1,i2,i3,i4,i5,i6,rfl,rfl⟩:=Ca r hl z2;refine⟨_,rfl,a,_,rfl,SqT.of ea,rfl,_,_,rfl,_,_,rfl,_,_,rfl,_,_,rfl,_,_,rfl,_,_,rfl,rfl,?_⟩;refine je (cQ gh (gr rfl) gh) (fun _=>je (cQ gh (gr rfl) gh) fun _=>je (yU gh (gr rfl) (gr rfl) gh) fun _=>je (cQ gh (gr rfl) gh) fun _=>cQ gh (gr rfl) gh) _ ?_;exact fin H1 s1
   |_=>cases z1
theorem La:FnScope ["thing"] ["thing"] (au (top 36)):=fQS
theorem nC(F:Fun K "are_promises" "are_promises" (top 36) f fd)(T:Mg mg)(N:Nums mg)(c1:Cal P w K mg base 3 "is_promise" ["thing"] (spT iy))(c2:Cal P w K mg base 1 "is_tuple_of" ["thing","fewest","most"] (uU bz)):
  FnOk P w K mg base CX0 4 f fd ["thing"] (spT dh):=by
 refine F.ok La (fun vs H Q E h=>?_) (fun cdv A outer s H vs Q E hr h=>?_)
 .obtain⟨S,v,d,rfl,_⟩:=h;rfl
 .obtain⟨S,v,d,rfl,th,hz,q⟩:=h;obtain⟨t3,e3⟩:=N.proms
  refine⟨_,aD (aO (cC (aG c2 hr (aP (pv 0) (aP ao (aP (bO (v:=.int 10) rfl e3 ⟨_,rfl⟩) aj))))
   (f9 (aK (eG rfl) rfl T.all boot_all (aP (bG ["part"] [none] rfl (fV (pv 0))
    (fun C fp Zt s₂ H₂=>⟨bw (i:=0) (nd1 _) rfl (Or.inl rfl),bJ,aG c1 hr (aP (pv 0) aj)⟩) (fun C=>trivial) ⟨rfl,rfl,rfl,rfl⟩) aj))))),?_⟩
  refine⟨_,rfl,S,v,d,0,10,rfl,th,hz,fun H1 s1=>⟨_,rfl,?_⟩⟩;have gp:=th.same s1;have fin:=fun H' (s:Same H H')=>q H' s;unfold dh at fin
  cases e:bz d 0 10 with
  |false=>
   rw[e]at fin;exact aW (fin _ s1)
  |true=>
   rw[e]at fin;refine aY ?_
   cases gp with
   |@tup a xs ds ea r=>exact gB iy rfl ea r (iz r hz) (fun v d H2 Q2 hm s2 t2 q2=>⟨_,rfl,S,v,d,rfl,t2,iY hm hz,q2⟩) fun H2 s2=>fin _ (s1.trans s2)
   |_=>cases e
def mJ(d:PyData)(lo hi:Int):Bool:=bH d&&(decide (lo<=intOf d)&&decide (intOf d<=hi))
def Cd(d:PyData):Bool:=dg d&&(decide ((items d).length=3)&&(items d).all fun x=>mJ x 0 999)
def bounds:List PyData:=[.tuple [.int 0,.int 7],.tuple [.int 0,.int 2],.tuple [.int 0,.int 19],.tuple [.int 0,.int 19],.tuple [.int 1,.int 99],.tuple [.int 0,.int 1000000]]
def iT(d e:PyData):Bool:=mJ d (at_ e 0) (at_ e 1)
def wu(d:PyData):Bool:=dg d&&(decide ((items d).length=6)&&((List.zipWith iT (items d) bounds).all id&&decide (at_ d 2<=at_ d 3)))
theorem IW{S:Addr->Prop}{H:Hp}{z:V}{lo hi:Int}(h:IsTh S H z (.tuple [.int lo,.int hi])):∃t,z=.ref t/\H t=some (.tup [.int lo,.int hi]):=by
 cases h with
 |@tup a xs ds e r=>
  cases r with
  |cons h1 r=>cases r with
   |cons h2 r=>
    cases r;cases h1;cases h2;exact⟨a,rfl,e⟩
theorem zJ{e:PyData}(h:e∈bounds):∃lo hi,e=.tuple [.int lo,.int hi]:=by
 simp only[bounds,List.mem_cons,List.not_mem_nil,or_false]at h;rcases h with z|z|z|z|z|z<;>exact⟨_,_,z⟩
theorem xH{α:Type}(p q:α->Bool):∀l:List α,(l.all fun x=>p x&&q x)=(l.all p&&l.all q)
 |[]=>rfl
 |x::l=>by
  rw[List.all_cons,List.all_cons,List.all_cons,xH p q l];cases p x<;>cases q x<;>cases l.all p<;>cases l.all q<;>rfl
theorem nF(d:PyData):gf d=Cd d:=by
 cases d with
 |tuple ds=>
  have e1:gf (.tuple ds)=((((decide ((3:Int)<=(ds.length:Int))&&decide ((ds.length:Int)<=3)))&&ds.all bH)&&ds.all fun x=>decide (0<=intOf x)&&decide (intOf x<=999)):=rfl;have e2:Cd (.tuple ds)=(decide (ds.length=3)&&ds.all fun x=>bH x&&(decide (0<=intOf x)&&decide (intOf x<=999))):=rfl;rw[e1,e2,xH bH]
  have e3:(decide ((3:Int)<=(ds.length:Int))&&decide ((ds.length:Int)<=3))=decide (ds.length=3):=by
   rw[<-Bool.decide_and];exact decide_eq_decide.mpr Zw
  rw[e3,Bool.and_assoc]
 |_=>rfl
theorem dY(d:PyData):(∃i,d=.int i)\/bH d=false:=by
 cases d with
 |int i=>exact .inl ⟨i,rfl⟩
 |_=>exact .inr rfl
theorem FP(d:PyData):iy d=wu d:=by
 cases d with
 |tuple ds=>
  have e1:iy (.tuple ds)=(((decide ((6:Int)<=(ds.length:Int))&&decide ((ds.length:Int)<=6))&&ds.all bH)&&jV (at_ (.tuple ds) 0) (at_ (.tuple ds) 1) (at_ (.tuple ds) 2) (at_ (.tuple ds) 3) (at_ (.tuple ds) 4) (at_ (.tuple ds) 5)):=rfl;have e2:wu (.tuple ds)=(decide (ds.length=6)&&((List.zipWith iT ds bounds).all id&&decide (at_ (.tuple ds) 2<=at_ (.tuple ds) 3))):=rfl;rw[e1,e2]
  have e3:(decide ((6:Int)<=(ds.length:Int))&&decide ((ds.length:Int)<=6))=decide (ds.length=6):=by
   rw[<-Bool.decide_and];exact decide_eq_decide.mpr Zw
  rw[e3];by_cases hl:ds.length=6
  .rw[zAu hl,Bool.true_and,Bool.true_and];obtain⟨d1,d2,d3,d4,d5,d6,rfl⟩:=IV hl;have e4:(List.zipWith iT [d1,d2,d3,d4,d5,d6] bounds).all id=(mJ d1 0 7&&(mJ d2 0 2&&(mJ d3 0 19&&(mJ d4 0 19&&(mJ d5 1 99&&(mJ d6 0 1000000&&true)))))):=rfl;have e5:[d1,d2,d3,d4,d5,d6].all bH=(bH d1&&(bH d2&&(bH d3&&(bH d4&&(bH d5&&(bH d6&&true)))))):=rfl;rw[e4,e5];unfold mJ;rcases dY d1 with⟨i1,rfl⟩|z
   .rcases dY d2 with⟨i2,rfl⟩|z
    .rcases dY d3 with⟨i3,rfl⟩|z
     .rcases dY d4 with⟨i4,rfl⟩|z
      .rcases dY d5 with⟨i5,rfl⟩|z
       .rcases dY d6 with⟨i6,rfl⟩|z
        .show(true&&jV i1 i2 i3 i4 i5 i6)=((true&&(decide (0<=i1)&&decide (i1<=7)))&&((true&&(decide (0<=i2)&&decide (i2<=2)))&&((true&&(decide (0<=i3)&&decide (i3<=19)))&&((true&&(decide (0<=i4)&&decide (i4<=19)))&&((true&&(decide (1<=i5)&&decide (i5<=99)))&&((true&&(decide (0<=i6)&&decide (i6<=1000000)))&&true)))))&&decide (i3<=i4));unfold jV;simp only[Bool.true_and,Bool.and_true];apply Bool.eq_iff_iff.mpr;simp only[Bool.and_eq_true,Zq];omega
        .rw[z];simp
       .rw[z];simp
      .rw[z];simp
     .rw[z];simp
    .rw[z];simp
   .rw[z];simp
  .rw[zAy hl,Bool.false_and,Bool.false_and,Bool.false_and]
 |_=>rfl
theorem iU:bootBuiltins "repr"=some (.builtin "repr"):=by decide +kernel
inductive SpSameI(vs:List V)(H:Hp)(Q:VK):Prop
 |mk:∀S v u d e,(vs=[v,u])->(¬S sysModules)->(IsTh S H v d)->(IsTh S H u e)->(tame d=true)->(tame e=true)->(sz d<=1000)->(sz e<=1000)->(Q (.bl (decide (V.str d.shown=V.str e.shown))) H)->SpSameI  vs H Q
def spSame:Sp:=fun vs H Q _=>SpSameI  vs H Q
theorem xJ{A:Around}{k:Nat}(hr:Room k A)(hk:60<=k){d:PyData}(h:sz d<=1000):A.units+(sz d+1)<cLine:=by
 have:=hr.un;lia
theorem K5:FnScope ["_law_found","_law_due"] ["_law_found","_law_due"] (au (top 59)):=fQS
theorem ok_same(F:Fun K "_law_same" "_law_same" (top 59) f fd)(Tr:mg "repr"=none):FnOk P w K mg base CX0 61 f fd ["_law_found","_law_due"] spSame:=by
 refine F.ok K5 (fun vs H Q E h=>?_) (fun cdv A outer s H vs Q E hr h=>?_)
 .obtain⟨S,v,u,d,e,rfl,_⟩:=h;rfl
 .obtain⟨S,v,u,d,e,rfl,hS,t1,t2,m1,m2,z1,z2,q⟩:=h;refine⟨_,aD (aO (dZ iW (aK (qu (S:=S) hr.gd hS) rfl Tr iU (aP (pv 0) aj)) (aK (qu (S:=S) hr.gd hS) rfl Tr iU (aP (pv 1) aj)) (bf _))),?_⟩;exact⟨_,rfl,v,d,rfl,t1,m1,Zz,xJ hr (zA3 _) z1,_,rfl,u,e,rfl,t2,m2,Zz,xJ hr (zA3 _) z2,rfl,q⟩
theorem uW{X:Cx}{K:Frag}(hK:X.K=K):IxR X (HW K):=by
 subst hK;exact bL
theorem room_un{A:Around}{k:Nat}(hr:Room k A):A.units<cLine:=by
 have:=hr.un;lia
def rowD(r:List Int):PyData:=.tuple (r.map .int)
def aQ(rs:List (List Int)):PyData:=.tuple (rs.map rowD)
def fl(r:List Int)(i:Nat):Int:=r.getD i 0
def okP(r:List Int):Prop:=r.length=6/\(0<=fl r 0/\fl r 0<8)/\(0<=fl r 1/\fl r 1<3)/\(0<=fl r 2/\fl r 2<=fl r 3/\fl r 3<=19)/\(1<=fl r 4/\fl r 4<=99)/\(0<=fl r 5/\fl r 5<=1000000)
def dG(d:PyData):Bool:=bz d 0 12&&(items d).all fun x=>aZ x 5
def rowsOf(d:PyData):List (List Int):=(items d).map fun x=>(items x).map intOf
theorem Cg:∀{ds:List PyData},(∀x∈ds,bH x=true)->ds=(ds.map intOf).map PyData.int
 |[],_=>rfl
 |d::ds,h=>by
  rw[zAk,zAk,<-Cg fun x hx=>h x (List.mem_cons_of_mem _ hx)];have:=h d List.mem_cons_self
  cases d with
  |int i=>rfl
  |_=>cases this
theorem gD{x:PyData}{n:Nat}(h:aZ x n=true):x=rowD ((items x).map intOf)/\((items x).map intOf).length=n:=by
 obtain⟨h1,h2⟩:=mH h;unfold bz at h1;rw[zAc,zAc,Zq,Zq]at h1;obtain⟨ht,dA,cE⟩:=h1
 cases x with
 |tuple ds=>
  have dA:(n:Int)<=ds.length:=dA;have cE:(ds.length:Int)<=n:=cE;refine⟨?_,by show(ds.map intOf).length=n;rw[zA1];lia⟩;exact congrArg PyData.tuple (Cg h2)
 |_=>cases ht
theorem nJ{ds:List PyData}{n:Nat}(h:∀x∈ds,aZ x n=true):ds=(ds.map fun x=>(items x).map intOf).map rowD:=by
 induction ds with
 |nil=>rfl
 |cons d ds ih=>
  rw[zAk,zAk,<-ih fun x hx=>h x (List.mem_cons_of_mem _ hx),<-(gD (h d List.mem_cons_self)).1]
theorem iD{d:PyData}{f m:Int}(h:bz d f m=true):∃ds,d=.tuple ds/\f<=ds.length/\(ds.length:Int)<=m:=by
 unfold bz at h;rw[zAc,zAc,Zq,Zq]at h
 cases d with
 |tuple ds=>exact⟨ds,rfl,h.2⟩
 |_=>cases h.1
theorem jJ(r:List Int)(i:Nat)(h:i<r.length):at_ (rowD r) i=fl r i:=by
 show intOf ((r.map PyData.int).getD i .none)=r.getD i 0;rw[zA7,zA7,zAb,zA0 h];rfl
theorem fu{d:PyData}(h:dh d=true):d=aQ (rowsOf d)/\(rowsOf d).length<=10/\∀r∈rowsOf d,okP r:=by
 unfold dh at h;rw[zAc]at h;obtain⟨ds,rfl,_,hl⟩:=iD h.1;have h2:∀x∈ds,iy x=true:=List.all_eq_true.mp h.2
 have h3:∀x∈ds,aZ x 6=true:=fun x hx=>by
  have:=h2 x hx;unfold iy at this;rw[zAc]at this;exact this.1
 refine⟨congrArg PyData.tuple (nJ (n:=6) h3),by show(ds.map _).length<=10;rw[zA1];lia,fun r hr=>?_⟩;obtain⟨x,hx,rfl⟩:=zA5.mp hr;have hx:x∈ds:=hx;obtain⟨e,Ee⟩:=gD (n:=6) (h3 x hx);have:=h2 x hx;unfold iy at this;rw[zAc]at this;have p:=this.2;rw[e]at p;rw[jJ _ 0 Zz,jJ _ 1 Zz,jJ _ 2 Zz,jJ _ 3 Zz,jJ _ 4 Zz,jJ _ 5 Zz]at p;unfold jV at p;simp only[Bool.and_eq_true,Zq]at p;obtain⟨⟨a1,a2⟩,⟨b1,b2⟩,⟨c1,c2,c3⟩,⟨d1,d2⟩,e1,e2⟩:=p;exact⟨Ee,⟨a1,a2⟩,⟨b1,b2⟩,⟨c1,c2,c3⟩,⟨d1,d2⟩,e1,e2⟩
theorem fD{d:PyData}(h:dG d=true):d=aQ (rowsOf d)/\(rowsOf d).length<=12/\∀r∈rowsOf d,r.length=5:=by
 unfold dG at h;rw[zAc]at h;obtain⟨ds,rfl,_,hl⟩:=iD h.1;have h3:∀x∈ds,aZ x 5=true:=List.all_eq_true.mp h.2;refine⟨congrArg PyData.tuple (nJ (n:=5) h3),by show(ds.map _).length<=12;rw[zA1];lia,fun r hr=>?_⟩;obtain⟨x,hx,rfl⟩:=zA5.mp hr;exact(gD (n:=5) (h3 x hx)).2
structure RowsAt(H:Hp)(a:Addr)(xs:List V)(rs:List (List Int)):Prop where
 e:H a=some (.tup xs)
 l:xs.length=rs.length
 g:∀(i:Nat) (r:List Int),rs[i]?=some r->∃t,xs[i]?=some (V.ref t)/\H t=some (.tup (r.map V.int))
theorem RowsAt.keep{H H':Hp}{a:Addr}{xs:List V}{rs:List (List Int)}(h:RowsAt H a xs rs)(k:∀b l,H b=some (.tup l)->H' b=some (.tup l)):RowsAt H' a xs rs:=
 ⟨k _ _ h.e,h.l,fun i r e=>by
  obtain⟨t,e1,e2⟩:=h.g i r e
  exact⟨t,e1,k _ _ e2⟩⟩
theorem RowsAt.same{H H':Hp}{a:Addr}{xs:List V}{rs:List (List Int)}(h:RowsAt H a xs rs)(s:Same H H'):RowsAt H' a xs rs:=h.keep fun _ _ e=>s _ _ e
theorem uX{S:Addr->Prop}{H:Hp}:∀{r:List Int} {xs:List V},IsThs S H xs (r.map .int)->xs=r.map V.int
 |[],_,.nil=>rfl
 |i::r,_,.cons h t=>by
  cases h;rw[uX (r:=r) t];rfl
theorem J0{S:Addr->Prop}{H:Hp}{v:V}{r:List Int}(h:IsTh S H v (rowD r)):∃t,v=V.ref t/\H t=some (.tup (r.map V.int)):=by
 generalize hd:rowD r=d at h
 cases h with
 |@tup a xs ds e t=>
  injection hd with hd;subst hd;rw[uX t]at e;exact⟨a,rfl,e⟩
 |_=>cases hd
theorem th_rows{S:Addr->Prop}{H:Hp}{v:V}{rs:List (List Int)}(h:IsTh S H v (aQ rs)):∃a xs,v=.ref a/\RowsAt H a xs rs:=by
 generalize hd:aQ rs=d at h
 cases h with
 |@tup a xs ds e t=>
  injection hd with hd;subst hd;refine⟨a,xs,rfl,e,by rw[t.length,zA1],fun i r hr=>?_⟩;have hi:i<rs.length:=(zAa.mp hr).1;have hx:xs[i]?=some (xs[i]'(by rw[t.length,zA1];exact hi)):=zA0 _;obtain⟨d,h1,h2⟩:=t.get hx;rw[zAb,hr]at h1;injection h1 with h1;subst h1;obtain⟨t',e1,e2⟩:=J0 h2;exact⟨t',by rw[hx,e1],e2⟩
 |_=>cases hd
theorem RowsAt.th{H:Hp}{a:Addr}:∀{rs:List (List Int)} {xs:List V},RowsAt H a xs rs->IsTh (fun _=>False) H (.ref a) (aQ rs):=by
 intro rs xs h;refine .tup h.e ?_
 have gen:∀(rs:List (List Int)) (xs:List V),xs.length=rs.length->(∀(i:Nat) (r:List Int),rs[i]?=some r->∃t,xs[i]?=some (V.ref t)/\H t=some (.tup (r.map V.int)))->IsThs (fun _=>False) H xs (rs.map rowD):=by
  intro rs
  induction rs with
  |nil=>
   intro xs hl _;have:xs=[]:=List.length_eq_zero_iff.mp hl;subst this;exact .nil
  |cons r rs ih=>
   intro xs hl hg
   cases xs with
   |nil=>simp at hl
   |cons x xs=>
    obtain⟨t,e1,e2⟩:=hg 0 r rfl;have e1:x=.ref t:=by simpa using e1
    subst e1;exact .cons (.tup e2 (IsThs.ints r)) (ih xs (by simpa using hl) fun i r' e=>hg (i+1) r' (by simpa using e))
 exact gen rs xs h.l h.g
def jF(L:List Int)(i:Int)(v:Int):List Int:=L.set i.toNat (L.getD i.toNat 0+v)
def hstep(n y:Int)(L:List Int)(s:List Int):List Int:=if fl s 0=n/\fl s 4<=y then jF (jF L (fl s 1) (-(fl s 3))) (fl s 2) (fl s 3)else L
def base0(p:List Int):List Int:=(List.replicate 8 0).set (fl p 0).toNat (fl p 4)
def iG(p:List Int)(ss:List (List Int))(n y:Int):List Int:=if fl p 2<=y/\y<=fl p 3 then ss.foldl (hstep n y) (base0 p)else List.replicate 8 0
def pU(ps:List (List Int))(s:List Int):List Int:=ps.getD (fl s 0).toNat []
def uY(ps:List (List Int))(s:List Int):Bool:=(decide (0<=fl s 0)&&decide (fl s 0<ps.length))&&((decide (0<=fl s 1)&&decide (fl s 1<8))&&((decide (0<=fl s 2)&&decide (fl s 2<8))&&((!decide (fl s 1=fl s 2))&&((decide (1<=fl s 3)&&decide (fl s 3<=99))&&(decide (fl (pU ps s) 2<=fl s 4)&&decide (fl s 4<=fl (pU ps s) 3))))))
def years(a b:Int):List Int:=(List.range (b+1-a).toNat).map fun(i:Nat)=>a+i
def cJ(ps ss:List (List Int))(s:List Int):Bool:=uY ps s&&(years (fl s 4) (fl (pU ps s) 3)).all fun y=>decide (fl s 3<=(iG (pU ps s) ss (fl s 0) y).getD (fl s 1).toNat 0)
def un(ps ss:List (List Int)):Option Nat:=(List.range ss.length).find? fun i=>!cJ ps (ss.take i) (ss.getD i [])
theorem lA(L:List Int)(i v:Int):(jF L i v).length=L.length:=by unfold jF;rw[List.length_set]
theorem zK(n y:Int)(L s:List Int):(hstep n y L s).length=L.length:=by
 unfold hstep;split
 .rw[lA,lA]
 .rfl
theorem jD(p:List Int)(ss:List (List Int))(n y:Int):(iG p ss n y).length=8:=by
 unfold iG;split
 .have:∀(ss:List (List Int)) (L:List Int),L.length=8->(ss.foldl (hstep n y) L).length=8:=by
   intro ss
   induction ss with
   |nil=>exact fun L h=>h
   |cons s ss ih=>exact fun L h=>ih _ (by rw[zK];exact h)
  exact this ss _ (by unfold base0;rw[List.length_set,List.length_replicate])
 .rw[List.length_replicate]
theorem qL{X:Cx}:Jw X (fun x y H Q=>∃p xs i v,x=.ref p/\y=.int i/\SqL X.K H p xs/\0<=i/\xs[i.toNat]?=some v/\Q v H):=by
 intro Zt s σ H x y v u Q I rx ry h;obtain⟨p,xs,i,z,rfl,rfl,hq,h0,he,q⟩:=h;cases rx;obtain⟨t,rfl⟩:=ry;obtain⟨Zr,r,pl,hz⟩:=I.list hq;obtain⟨w,ew,gu⟩:=r.get he;have hn:=j9;have hl:=r.length;have hi:=(zAa.mp he).1;exact PySem.wpAny_getItem_list pl.isList h0 Zz (by simpa using ew) ⟨z,H,I,gu,q⟩
theorem six_row{p:List Int}(h:p.length=6):p=[fl p 0,fl p 1,fl p 2,fl p 3,fl p 4,fl p 5]:=by
 obtain⟨a,b,c,d,e,f,rfl⟩:=IV h;rfl
theorem lB{p:List Int}(h:p.length=5):p=[fl p 0,fl p 1,fl p 2,fl p 3,fl p 4]:=by
 obtain⟨a,b,c,d,e,rfl⟩:=K4 h;rfl
theorem sS(L:List Int)(i:Nat)(v:Int):(L.map V.int).set i (.int v)=(L.set i v).map V.int:=by rw[List.map_set]
theorem sU{L:List Int}{i:Nat}(h:i<L.length):(L.map V.int)[i]?=some (.int (L.getD i 0)):=by
 rw[zAb,zA0 h,zA7,zA0 h];rfl
theorem xK{n:Nat}{i:Int}(h0:0<=i)(h1:i<n):ixN n i=some i.toNat:=by
 unfold ixN;rw[zB3 h0,zB3 h1]
def okS(s:List Int):Prop:=s.length=5/\(0<=fl s 1/\fl s 1<8)/\(0<=fl s 2/\fl s 2<8)
inductive SpHeldI(vs:List V)(H:Hp)(Q:VK):Prop
 |mk:∀ap xp ps ag xs ss n y,(vs=[.ref ap,.ref ag,.int n,.int y])->(RowsAt H ap xp ps)->(RowsAt H ag xs ss)->(0<=n)->(n<ps.length)->(okP (ps.getD n.toNat []))->(ss.length<=12)->((∀s∈ss,okS s))->(∀l H',Same H H'->H' l=some (.lst ((iG (ps.getD n.toNat []) ss n y).map V.int))->Q (.ref l) H')->SpHeldI  vs H Q
def Ci:Sp:=fun vs H Q _=>SpHeldI  vs H Q
structure MS(mg:Str->Option Value):Prop where
 sales:∃t,mg "MOST_SALES"=some (.int 12 t)
theorem K6:FnScope ["thing"] ["thing"] (au (top 37)):=fQS
theorem sV(F:Fun K "are_sales" "are_sales" (top 37) f fd)(T:Mg mg)(N:MS mg)(c1:Cal P w K mg base 2 "are_wholes" ["thing","many"] (FN aZ))(c2:Cal P w K mg base 1 "is_tuple_of" ["thing","fewest","most"] (uU bz)):
  FnOk P w K mg base CX0 3 f fd ["thing"] (spT dG):=by
 refine F.ok K6 (fun vs H Q E h=>?_) (fun cdv A outer s H vs Q E hr h=>?_)
 .obtain⟨S,v,d,rfl,_⟩:=h;rfl
 .obtain⟨S,v,d,rfl,th,hz,q⟩:=h;obtain⟨t3,e3⟩:=N.sales
  refine⟨_,aD (aO (cC (aG c2 hr (ak (pv 0) (ak ao (ak (bO (v:=.int 12) rfl e3 ⟨_,rfl⟩) aj))))
   (f9 (aK (eG rfl) rfl T.all boot_all (ak (bG ["part"] [none] rfl (fV (pv 0))
    (fun C fp Zt s₂ H₂=>⟨bw (i:=0) (nd1 _) rfl (Or.inl rfl),bJ,aG c1 hr (ak (pv 0) (ak ao aj))⟩) (fun C=>trivial) ⟨rfl,rfl,rfl,rfl⟩) aj))))),?_⟩
  refine⟨_,rfl,S,v,d,0,12,rfl,th,hz,fun H1 s1=>⟨_,rfl,?_⟩⟩;have gp:=th.same s1;have fin:=fun H' (s:Same H H')=>q H' s;unfold dG at fin
  cases e:bz d 0 12 with
  |false=>
   rw[e]at fin;exact aW (fin _ s1)
  |true=>
   rw[e]at fin;refine aY ?_
   cases gp with
   |@tup a xs ds ea r=>exact gB (fun x=>aZ x 5) rfl ea r (iz r hz) (fun v d H2 Q2 hm s2 t2 q2=>⟨_,rfl,S,v,d,5,rfl,t2,iY hm hz,q2⟩) fun H2 s2=>fin _ (s1.trans s2)
   |_=>cases e
theorem sc23s:FnScope ["promises","sales","number","year","holder","sort","first","last","sacks","price","held","promise","seller","buyer","sold","since"] ["promises","sales","number","year"] (au (top 38)):=fQS
theorem FQ(F:Fun K "held_in" "held_in" (top 38) f fd)(N:Nums mg):FnOk P w K mg base CX0 1 f fd ["promises","sales","number","year"] Ci:=by
 refine F.ok sc23s (fun vs H Q E h=>?_) (fun cdv A outer s H vs Q E hr h=>?_)
 .obtain⟨ap,xp,ps,ag,xs,ss,n,y,rfl,_⟩:=h;rfl
 .obtain⟨ap,xp,ps,ag,xs,ss,n,y,rfl,rp,rs,n0,n1,cm,hl,dQ,q⟩:=h;obtain⟨t1,e1⟩:=N.holders
  refine⟨_,aJ (dU (pX cY (pv 0) (pv 2)) (dR rfl (az (pgn 4 sc23s.nd) (az (pgn 5 sc23s.nd) (az (pgn 6 sc23s.nd)
    (az (pgn 7 sc23s.nd) (az (pgn 8 sc23s.nd) (az (pgn 9 sc23s.nd) bT))))))))
   (aJ (pss 10 sc23s.nd (aR vL (gU (ak ao aj)) (bO (v:=.int 8) rfl e1 ⟨_,rfl⟩)))
   (aJ (bZ (bN (jX cj cj (pv 6) (pv 3) (pv 7))) (aD (aO (pv 10))) bc)
   (aJ (dU (pv 8) (lQ (pv 10) (pv 4) set_list))
   (aJ (fW zB7 rfl (fV (pv 1)) (dR rfl (az (pgn 11 sc23s.nd) (az (pgn 12 sc23s.nd) (az (pgn 13 sc23s.nd)
     (az (pgn 14 sc23s.nd) (az (pgn 15 sc23s.nd) bT))))))
    (aD (bZ (PW.pt (vq (bj iW (pv 11) (pv 2) (bf _)) (qX (bj cj (pv 15) (pv 3) (bf _)))))
     (aJ (wH (pv 10) (pv 12) qL (pv 14) HF set_list) (aD (wH (pv 10) (pv 13) qL (pv 14) HD set_list))) bc)))
   (aD (aO (pv 10))))))),?_⟩
  obtain⟨p,hp⟩:∃p,ps[n.toNat]?=some p:=⟨_,zA0 Zz⟩
  have ep:ps.getD n.toNat []=p:=by rw[zA7,hp];rfl
  rw[ep]at cm q;obtain⟨t,ex,et⟩:=rp.g _ _ hp;have p6:=six_row cm.1;obtain⟨l6,⟨a1,a2⟩,b,⟨c1,c2,c3⟩,⟨d1,d2⟩,ee⟩:=id cm
  have mP:atI xp n=some (.ref t):=by
   have:=eF ex;rw[show((n.toNat:Nat):Int)=n by lia]at this;exact this
  rw[p6]at et;refine aB ?_;refine⟨_,rfl,_,rfl,ap,xp,n,.ref t,rfl,rfl,SqT.of rp.e,mP,?_⟩;refine⟨t,_,rfl,SqT.of et,rfl,_,_,rfl,_,_,rfl,_,_,rfl,_,_,rfl,_,_,rfl,_,_,rfl,rfl,?_⟩;dsimp only;refine aB (aV ?_);refine⟨zL,fun l0 tT=>⟨l0,8,_,rfl,rfl,aa,by decide,by decide,zL,fun l1 dA=>?_⟩⟩;have s1:Same H (upd (upd H l0 (.lst [V.int 0])) l1 (.lst (List.replicate (8:Int).toNat [V.int 0]).flatten)):=(Same.upd tT).updR dA;have el1:upd (upd H l0 (.lst [V.int 0])) l1 (.lst (List.replicate (8:Int).toNat [V.int 0]).flatten) l1=some (.lst ((List.replicate 8 (0:Int)).map V.int)):=aa;have IM:H l1=none:=(Same.upd tT).free dA;generalize upd (upd H l0 (.lst [V.int 0])) l1 (.lst (List.replicate (8:Int).toNat [V.int 0]).flatten)=H1 at s1 el1⊢;refine aH ?_;dsimp only;refine aB ?_;refine cQ (p:=fun i j=>decide (i<=j)) (q:=fun i j=>decide (i<=j)) (i:=fl p 2) (j:=y) (k:=fl p 3) (gr rfl) (gr rfl) (gr rfl) _ ⟨_,rfl,?_⟩;by_cases ua:fl p 2<=y/\y<=fl p 3
  .rw[decide_eq_true ua.1,decide_eq_true ua.2];refine aW (bB ?_);dsimp only;refine aB ?_;refine⟨_,rfl,_,rfl,_,rfl,l1,_,fl p 0,(fl p 0).toNat,rfl,rfl,el1,xK a1 (by show fl p 0<8;exact a2),?_⟩;rw[sS];dsimp only;refine aB ?_;have NB:ag≠l1:=aA rs.e IM;refine⟨_,rfl,ag,rfl,⟨xs,SqT.of (by rw[aq NB];exact s1 _ _ rs.e)⟩,?_⟩
   have EA:∀{Hc:Hp} {o:HO},Same H Hc->Same H (upd Hc l1 o):=fun{Hc o} sm b u e=>by
    rw[aq (aA e IM)];exact sm _ _ e
   refine wI (xs:=xs) (fun i σ Hc=>∃da de hJ hU hV,σ=[some (.ref ap),some (.ref ag),some (.int n),some (.int y),some (.int (fl p 0)),some (.int (fl p 1)),some (.int (fl p 2)),some (.int (fl p 3)),some (.int (fl p 4)),some (.int (fl p 5)),some (.ref l1),da,de,hJ,hU,hV]/\Same H Hc/\Hc l1=some (.lst (((ss.take i).foldl (hstep n y) (base0 p)).map V.int))) ?_ ?_ ?_ ?_
   .exact⟨none,none,none,none,none,rfl,EA s1,aa⟩
   .rintro i σ Hc hi ⟨da,de,hJ,hU,hV,rfl,sm,el⟩;exact SqT.of (sm _ _ rs.e)
   .rintro i x σ Hc hx ⟨da,de,hJ,hU,hV,rfl,sm,el⟩
    have hi:i<ss.length:=by
     have:=(zAa.mp hx).1;rw[rs.l]at this;exact this
    obtain⟨tr,kN,gs⟩:=rs.g i ss[i] (zA0 hi)
    have:x=.ref tr:=by
     rw[hx]at kN;exact zAl kN
    subst this;obtain⟨o1,⟨o2,o3⟩,o4,o5⟩:=dQ ss[i] (zAh hi);have s5:=lB o1;have oj:ss.take (i+1)=ss.take i++[ss[i]]:=by rw[zAj,zA0 hi];rfl
    have zk:(ss.take (i+1)).foldl (hstep n y) (base0 p)=hstep n y ((ss.take i).foldl (hstep n y) (base0 p)) ss[i]:=by rw[oj,List.foldl_append];rfl
    rw[zk];generalize hL:(ss.take i).foldl (hstep n y) (base0 p)=L at el⊢
    have lL:L.length=8:=by
     have:=jD p (ss.take i) n y;unfold iG at this;rw[zB3 ua,hL]at this;exact this
    generalize ss[i]=r at gs s5 o2 o3 o4 o5⊢;rw[s5]at gs;refine⟨tr,_,rfl,SqT.of (sm _ _ gs),rfl,_,_,rfl,_,_,rfl,_,_,rfl,_,_,rfl,_,_,rfl,rfl,?_⟩;refine⟨_,rfl,_,rfl,rfl,_,rfl,?_⟩;by_cases hn:fl r 0=n
    .rw[zAu (show V.int (fl r 0)=V.int n by rw[hn])];refine aY ?_;refine⟨_,rfl,_,rfl,_,_,rfl,rfl,_,rfl,?_⟩;by_cases hy:fl r 4<=y
     .rw[zAu hy];refine aY ?_;have e1:hstep n y L r=jF (jF L (fl r 1) (-(fl r 3))) (fl r 2) (fl r 3):=zB3 ⟨hn,hy⟩;rw[e1];refine aB ?_;refine⟨_,rfl,_,rfl,l1,_,fl r 1,_,rfl,rfl,SqL.of el,o2,sU Zz,_,rfl,_,_,rfl,rfl,l1,_,fl r 1,(fl r 1).toNat,rfl,rfl,el,xK o2 (by rw[zA1];lia),?_⟩;rw[sS]
      have e2:L.set (fl r 1).toNat (L.getD (fl r 1).toNat 0-fl r 3)=jF L (fl r 1) (-(fl r 3)):=by
       unfold jF;rw[Int.sub_eq_add_neg]
      rw[e2];generalize zl:jF L (fl r 1) (-(fl r 3))=L1;have R4:L1.length=8:=by rw[<-zl,lA];exact lL
      refine⟨_,rfl,_,rfl,l1,_,fl r 2,_,rfl,rfl,SqL.of aa,o4,sU Zz,_,rfl,_,_,rfl,rfl,l1,_,fl r 2,(fl r 2).toNat,rfl,rfl,aa,xK o4 (by rw[zA1];lia),?_⟩;rw[sS];exact⟨_,_,_,_,_,rfl,EA (EA sm),aa⟩
     .rw[zAy hy];refine aW ?_;have e1:hstep n y L r=L:=zB0 fun z=>hy z.2;rw[e1];exact⟨_,_,_,_,_,rfl,sm,el⟩
    .rw[zAy (fun z:V.int (fl r 0)=V.int n=>hn (by injection z))];refine aW (aW ?_);have e1:hstep n y L r=L:=zB0 fun z=>hn z.1;rw[e1];exact⟨_,_,_,_,_,rfl,sm,el⟩
   .rintro σ Hc ⟨da,de,hJ,hU,hV,rfl,sm,el⟩;rw[rs.l,zAm]at el;refine⟨_,rfl,q _ _ sm ?_⟩;unfold iG;rw[zB3 ua];exact el
  .have hb:(decide (fl p 2<=y)&&decide (y<=fl p 3))=false:=by
    cases e:(decide (fl p 2<=y)&&decide (y<=fl p 3))with
    |false=>rfl
    |true=>
     rw[zAc,Zq,Zq]at e;exact absurd e ua
   rw[hb];refine aY ⟨_,rfl,q _ _ s1 ?_⟩;unfold iG;rw[zB0 ua];exact el1
theorem Cj{te:TE}{lo:Int}{n:Nat}{eW:St}{j:Nat}{H0:Hp}{Fin:List V->Hp->Prop}(Pv:List V->Hp->Prop)(h0:Pv [] H0)(hz:n<sizeLine)
  (step:∀i ys H Q,i<n->ys.length=i->Pv ys H->(∀y H',Pv (ys++[y]) H'->Q y H')->te (eW.set j (some (.int (lo+i)))) H Q)
  (fin:∀ys H,ys.length=n->Pv ys H->Fin ys H):iw (Itr lo n) (dH j) u9 te Fin eW H0:=by
 refine⟨fun i m ys σ H=>m=n-i/\i<=n/\ys.length=i/\(∀o,σ.set j o=eW.set j o)/\Pv ys H,⟨_,rfl,zAp _,rfl,fun _=>rfl,h0⟩,?_⟩;rintro i m ys σ H ⟨rfl,hi,hy,gS,p⟩;refine⟨Zz,?_⟩;by_cases aE:i<n
 .refine .inr ⟨aE,fun x H' y=>?_⟩;obtain⟨e,e2⟩:=y;subst e;subst e2;show te (σ.set j (some (.int (lo+i)))) H' _;rw[gS]
  exact step i ys H' _ aE hy p fun y H2 p2=>⟨n-(i+1),Zz,rfl,aE,by rw[zA2,hy];rfl,fun o=>by rw[List.set_set],p2⟩
 .have e:i=n:=Zz
  subst e;exact .inl ⟨zA3 _,fin ys H hy p⟩
theorem K7{σ:St}{H:Hp}{ta tb:TE}{i j:Int}(a:Ev σ H ta (.int i))(b:Ev σ H tb (.int j)):Ev σ H (tOp rNe ta tb) (.bl (!decide (i=j))):=fun Q q=>a _ (b _ ⟨rfl,by
 have ed:decide (V.int i=V.int j)=decide (i=j):=decide_eq_decide.mpr ⟨fun z=>by injection z,fun z=>by rw[z]⟩;rw[ed]
 exact q⟩)
theorem zM(a b:Int):(years a b).length=(b+1-a).toNat:=by unfold years;rw[zA1,List.length_range]
theorem zN{a b:Int}{i:Nat}(h:i<(b+1-a).toNat):(years a b)[i]?=some (a+i):=by
 unfold years;rw[zAb,List.getElem?_range h];rfl
theorem zO{α β:Type}{l:List α}{f:α->β}{ys:List β}{x:α}(ey:ys=(l.take ys.length).map f)(hx:l[ys.length]?=some x):ys++[f x]=(l.take (ys++[f x]).length).map f:=by
 rw[zA2,List.length_singleton,zAj,hx,zA4,<-ey];rfl
inductive SpBetwI(vs:List V)(H:Hp)(Q:VK):Prop
 |mk:∀ap xp ps t s,(vs=[.ref ap,.ref t])->(RowsAt H ap xp ps)->((∀r∈ps,okP r))->(H t=some (.tup (s.map V.int)))->(s.length=5)->(Q (.bl (uY ps s)) H)->SpBetwI  vs H Q
def Ck:Sp:=fun vs H Q _=>SpBetwI  vs H Q
inductive SpHoldsI(vs:List V)(H:Hp)(Q:VK):Prop
 |mk:∀ap xp ps ag xs ss t s,(vs=[.ref ap,.ref ag,.ref t])->(RowsAt H ap xp ps)->((∀r∈ps,okP r))->(RowsAt H ag xs ss)->(ss.length<=12)->((∀s∈ss,okS s))->(H t=some (.tup (s.map V.int)))->(s.length=5)->(∀H',Same H H'->Q (.bl (cJ ps ss s)) H')->SpHoldsI  vs H Q
def xM:Sp:=fun vs H Q _=>SpHoldsI  vs H Q
def unV:Option Nat->V
 |none=>.non
 |some i=>.int i
inductive SpFirstI(vs:List V)(H:Hp)(Q:VK):Prop
 |mk:∀S v d S' u e,(vs=[v,u])->(IsTh S H v d)->(IsTh S' H u e)->(dh d=true)->(dG e=true)->(sz d<=4000)->(sz e<=4000)->(∀H',Same H H'->Q (unV (un (rowsOf d) (rowsOf e))) H')->SpFirstI  vs H Q
def xN:Sp:=fun vs H Q _=>SpFirstI  vs H Q
theorem prom_ok{ps:List (List Int)}{n:Int}(h:∀r∈ps,okP r)(h0:0<=n)(h1:n<ps.length):∃p,ps[n.toNat]?=some p/\ps.getD n.toNat []=p/\okP p:=by
 have hn:n.toNat<ps.length:=Zz
 refine⟨ps[n.toNat],zA0 hn,?_,h _ (zAh hn)⟩;rw[zA7,zA0 hn];rfl
theorem rows_at{H:Hp}{a:Addr}{xs:List V}{rs:List (List Int)}{n:Int}{r:List Int}(h:RowsAt H a xs rs)(h0:0<=n)(e:rs[n.toNat]?=some r):∃t,atI xs n=some (.ref t)/\H t=some (.tup (r.map V.int)):=by
 obtain⟨t,e1,e2⟩:=h.g _ _ e;refine⟨t,?_,e2⟩;have:=eF e1;rw[show((n.toNat:Nat):Int)=n by lia]at this;exact this
theorem sc24s:FnScope ["promises","sale","number","seller","buyer","sacks","year","holder","sort","first","last","due","price"] ["promises","sale"] (au (top 39)):=fQS
theorem FT(F:Fun K "is_sale_between" "is_sale_between" (top 39) f fd)(T:Mg mg)(N:Nums mg):FnOk P w K mg base CX0 1 f fd ["promises","sale"] Ck:=by
 refine F.ok sc24s (fun vs H Q E h=>?_) (fun cdv A outer s H vs Q E hr h=>?_)
 .obtain⟨ap,xp,ps,t,r,rfl,_⟩:=h;rfl
 .obtain⟨ap,xp,ps,t,r,rfl,rp,cm,et,h5,q⟩:=h;obtain⟨t1,e1⟩:=N.holders;obtain⟨t4,e4⟩:=N.sacks
  refine⟨_,aJ (dU (pv 1) (dR rfl (az (pgn 2 sc24s.nd) (az (pgn 3 sc24s.nd) (az (pgn 4 sc24s.nd) (az (pgn 5 sc24s.nd) (az (pgn 6 sc24s.nd) bT)))))))
   (aJ (bZ (bN (jX cj mV ao (pv 2) (aK bF rfl T.len PySem.boot_len (ak (pv 0) aj)))) (aD (aO ig)) bc)
   (aJ (dU (pX cY (pv 0) (pv 2)) (dR rfl (az (pgn 7 sc24s.nd) (az (pgn 8 sc24s.nd) (az (pgn 9 sc24s.nd)
    (az (pgn 10 sc24s.nd) (az (pgn 11 sc24s.nd) (az (pgn 12 sc24s.nd) bT))))))))
   (aD (aO (cC (cP cj mV ao (pv 3) (bO (v:=.int 8) rfl e1 ⟨_,rfl⟩)) (cC (cP cj mV ao (pv 4) (bO (v:=.int 8) rfl e1 ⟨_,rfl⟩)) (cC (dZ nR (pv 3) (pv 4) (bf _))
    (cC (cP cj cj ao (pv 5) (bO (v:=.int 99) rfl e4 ⟨_,rfl⟩)) (f9 (cP cj cj (pv 9) (pv 6) (pv 10))))))))))),?_⟩
  rw[lB h5]at et;refine aB ?_;refine⟨_,rfl,t,_,rfl,SqT.of et,rfl,_,_,rfl,_,_,rfl,_,_,rfl,_,_,rfl,_,_,rfl,rfl,?_⟩;dsimp only;refine aB ?_;refine cQ (p:=fun i j=>decide (i<=j)) (q:=fun i j=>decide (i<j)) (i:=0) (j:=fl r 0) (k:=(xp.length:Int)) gh (gr rfl) (fun Q h=>⟨_,rfl,ap,xp,rfl,.inr (SqT.of rp.e),h⟩) _ ⟨_,rfl,?_⟩;have fin:=q;unfold uY at fin;rw[rp.l]
  cases e:(decide (0<=fl r 0)&&decide (fl r 0<ps.length))with
  |false=>
   rw[e]at fin;exact aY fin
  |true=>
   rw[e]at fin;rw[zAc,Zq,Zq]at e;obtain⟨p,hp,ep,op⟩:=prom_ok cm e.1 e.2;obtain⟨tp,mP,om⟩:=rows_at rp e.1 hp;rw[six_row op.1]at om;refine aW (bB ?_);dsimp only;refine aB ?_;refine⟨_,rfl,_,rfl,ap,xp,_,.ref tp,rfl,rfl,SqT.of rp.e,mP,?_⟩;refine⟨tp,_,rfl,SqT.of om,rfl,_,_,rfl,_,_,rfl,_,_,rfl,_,_,rfl,_,_,rfl,_,_,rfl,rfl,?_⟩;have EB:pU ps r=p:=ep;rw[EB]at fin;exact je (cQ gh (gr rfl) gh) (fun _=>je (cQ gh (gr rfl) gh) fun _=>je (K7 (gr rfl) (gr rfl)) fun _=>je (cQ gh (gr rfl) gh) fun _=>cQ (gr rfl) (gr rfl) (gr rfl)) _ fin
theorem sc25s:FnScope ["promises","ahead","sale","number","seller","buyer","sacks","year","last"] ["promises","ahead","sale"] (au (top 40)):=fQS
theorem Lb:(["at","promises","ahead","number","seller","sacks"]:List Str).Nodup:=by decide +kernel
theorem Cm(F:Fun K "sale_holds" "sale_holds" (top 40) f fd)(T:Mg mg)(Tr:mg "range"=none)(c1:Cal P w K mg base 1 "is_sale_between" ["promises","sale"] Ck)(c2:Cal P w K mg base 1 "held_in" ["promises","sales","number","year"] Ci):
  FnOk P w K mg base CX0 2 f fd ["promises","ahead","sale"] xM:=by
 refine F.ok sc25s (fun vs H Q E h=>?_) (fun cdv A outer s H vs Q E hr h=>?_)
 .obtain⟨ap,xp,ps,ag,xs,ss,t,r,rfl,_⟩:=h;rfl
 .obtain⟨ap,xp,ps,ag,xs,ss,t,r,rfl,rp,cm,rs,hl,dQ,et,h5,q⟩:=h
  refine⟨_,aJ (bZ (bN (bM (aG c1 hr (ak (pv 0) (ak (pv 2) aj))))) (aD (aO ig)) bc)
   (aJ (dU (pv 2) (dR rfl (az (bw (i:=3) sc25s.nd rfl (Or.inr rfl)) (az (bw (i:=4) sc25s.nd rfl (Or.inr rfl)) (az (pgn 5 sc25s.nd) (az (bw (i:=6) sc25s.nd rfl (Or.inr rfl)) (az (pgn 7 sc25s.nd) bT)))))))
   (aJ (pss 8 sc25s.nd (pX cY (pX cY (pv 0) (pv 3)) ao))
   (aD (aO (aK (eG rfl) rfl T.all boot_all (ak (bG ["at","promises","ahead","number","seller","sacks"] [none,some 0,some 1,some 3,some 4,some 6] rfl (pY rfl Tr (ak (pv 7) (ak (aR cg (pv 8) ao) aj)))
    (fun C fp Zt s₂ H₂=>⟨pgn 0 Lb,bJ,dZ Gz (pX (uW (K:=K) rfl) (aG c2 hr (ak (pv 1) (ak (pv 2) (ak (pv 3) (ak (pv 0) aj))))) (pv 4)) (pv 5) (bf _)⟩)
    (fun C=>cI (cI (cI (cI (cI trivial))))) ⟨rfl,rfl,rfl,rfl⟩) aj)))))),?_⟩
  have fin:=q;unfold cJ at fin;refine aB ?_;refine⟨_,rfl,_,rfl,ap,xp,ps,t,r,rfl,rp,cm,et,h5,_,rfl,?_⟩
  cases e:uY ps r with
  |false=>
   rw[e]at fin;exact aY (fin _ (Same.refl _))
  |true=>
   rw[e]at fin;refine aW (bB ?_);dsimp only;refine aB ?_;unfold uY at e;simp only[Bool.and_eq_true,Zq]at e;obtain⟨⟨n0,n1⟩,⟨b0,b1⟩,_,_,⟨k0,k1⟩,y0,y1⟩:=e;obtain⟨p,hp,ep,op⟩:=prom_ok cm n0 n1;have EB:pU ps r=p:=ep;rw[EB]at fin y0 y1;obtain⟨tp,mP,om⟩:=rows_at rp n0 hp;rw[lB h5]at et;rw[six_row op.1]at om;obtain⟨_,_,_,⟨g1,g2,g3⟩,_⟩:=id op;refine⟨_,rfl,t,_,rfl,SqT.of et,rfl,_,_,rfl,_,_,rfl,_,_,rfl,_,_,rfl,_,_,rfl,rfl,?_⟩;dsimp only;refine aB (aV ?_);refine⟨_,rfl,_,rfl,ap,xp,_,.ref tp,rfl,rfl,SqT.of rp.e,mP,tp,_,3,.int (fl p 3),rfl,rfl,SqT.of om,rfl,?_⟩;refine aH ?_;dsimp only;refine⟨_,rfl,_,rfl,_,_,rfl,rfl,fl r 4,fl p 3+1,rfl,⟨Zz,Zz,Zz,Zz⟩,?_⟩;refine Cj (fun ys Hc=>Same H Hc/\ys=((years (fl r 4) (fl p 3)).take ys.length).map fun y=>V.bl (decide (fl r 3<=(iG p ss (fl r 0) y).getD (fl r 1).toNat 0))) ⟨Same.refl _,rfl⟩ Zu ?_ ?_
   .rintro i ys Hc Qc hi hy ⟨sc,ey⟩ qc;refine⟨_,rfl,_,rfl,_,rfl,_,rfl,ap,xp,ps,ag,xs,ss,fl r 0,fl r 4+i,rfl,rp.same sc,rs.same sc,n0,n1,by rw[ep];exact op,hl,dQ,fun l H' s' el=>?_⟩;rw[ep]at el;refine⟨_,rfl,l,_,fl r 1,.int ((iG p ss (fl r 0) (fl r 4+i)).getD (fl r 1).toNat 0),rfl,rfl,SqL.of el,?_,_,rfl,_,_,rfl,rfl,qc _ _ ⟨sc.trans s',?_⟩⟩
    .unfold atI;rw[xK b0 (by rw[zA1,jD];lia)];exact sU (by rw[jD];lia)
    .have hx:(years (fl r 4) (fl p 3))[ys.length]?=some (fl r 4+(i:Int)):=by
      rw[hy];exact zN hi
     exact zO ey hx
   .rintro ys Hc hy ⟨sc,ey⟩ D hD;rw[List.take_of_length_le (by rw[zM,hy];exact zA3 _)]at ey;refine⟨D,(years (fl r 4) (fl p 3)).map fun y=>decide (fl r 3<=(iG p ss (fl r 0) y).getD (fl r 1).toNat 0),rfl,SqL.of (by rw[zAr];rw[ey];exact aa),?_⟩;rw[List.all_map];exact fin _ (sc.updR hD)
theorem Cp{xs:List V}{i:Nat}(h:i<=xs.length):lV xs none (some (i:Int))=xs.take i:=by
 unfold lV;rw[HT.sIx_none,HT.sIx_nat,List.drop_zero,Nat.min_eq_left h,Nat.sub_zero]
theorem RowsAt.cut{H:Hp}{a p:Addr}{xs:List V}{rs:List (List Int)}(h:RowsAt H a xs rs)(i:Nat)(hp:H p=none):RowsAt (upd H p (.tup (xs.take i))) p (xs.take i) (rs.take i):=by
 refine⟨aa,by rw[zAd,zAd,h.l],fun j r e=>?_⟩
 have hj:j<i:=by
  rw[List.getElem?_take]at e;split at e
  .assumption
  .cases e
 rw[List.getElem?_take_of_lt hj]at e;obtain⟨t,e1,e2⟩:=h.g j r e;exact⟨t,by rw[List.getElem?_take_of_lt hj];exact e1,Same.upd hp _ _ e2⟩
theorem xO{ps ss:List (List Int)}{i:Nat}(h:∀j,j<i->cJ ps (ss.take j) (ss.getD j [])=true)(hi:i<ss.length)(hn:cJ ps (ss.take i) (ss.getD i [])=false):un ps ss=some i:=by
 unfold un;rw[List.find?_range_eq_some];exact⟨by rw[hn];rfl,List.mem_range.mpr hi,fun j hj=>by rw[h j hj];rfl⟩
theorem xP{ps ss:List (List Int)}(h:∀j,j<ss.length->cJ ps (ss.take j) (ss.getD j [])=true):un ps ss=none:=by
 unfold un;rw[List.find?_range_eq_none]
 exact fun j hj=>by rw[h j hj];rfl
theorem Cq{ps ss:List (List Int)}{s:List Int}(h5:s.length=5)(h:cJ ps ss s=true):okS s:=by
 unfold cJ uY at h;simp only[Bool.and_eq_true,Zq]at h;exact⟨h5,h.1.2.1,h.1.2.2.1⟩
theorem getD_get{ss:List (List Int)}{i:Nat}(h:i<ss.length):ss.getD i []=ss[i]:=by
 rw[zA7,zA0 h];rfl
def part(d:PyData)(i:Nat):PyData:=(items d).getD i .none
def cu(d:PyData):Bool:=bz d 3 3&&(eY (part d 0)&&(dh (part d 1)&&(dG (part d 2)&&(un (rowsOf (part d 1)) (rowsOf (part d 2))).isNone)))
theorem sc26s:FnScope ["promises","sales","at","sale"] ["promises","sales"] (au (top 41)):=fQS
theorem Cr(F:Fun K "first_unheld" "first_unheld" (top 41) f fd)(Te:mg "enumerate"=none)(c1:Cal P w K mg base 4 "are_promises" ["thing"] (spT dh))(c2:Cal P w K mg base 3 "are_sales" ["thing"] (spT dG))(c3:Cal P w K mg base 2 "sale_holds" ["promises","ahead","sale"] xM):
  FnOk P w K mg base CX0 5 f fd ["promises","sales"] xN:=by
 refine F.ok sc26s (fun vs H Q E h=>?_) (fun cdv A outer s H vs Q E hr h=>?_)
 .obtain⟨S,v,d,S',u,e,rfl,_⟩:=h;rfl
 .obtain⟨S,v,d,S',u,e,rfl,IP,ths,hp,hs,zp,zs,q⟩:=h
  refine⟨_,aJ (bZ (bN (bM (aG c1 hr (ak (pv 0) aj)))) lO bc)
   (aJ (bZ (bN (bM (aG c2 hr (ak (pv 1) aj)))) lO bc)
   (aJ (fW zB7 rfl (ZT.pi_enum true rfl Te (ak (pv 1) aj)) (dR rfl (az (pgn 2 sc26s.nd) (az (pgn 3 sc26s.nd) bT)))
    (aD (bZ (bN (bM (aG c3 hr (ak (pv 0) (ak (bQ xg (pv 1) cM (cz (pv 2))) (ak (pv 3) aj)))))) (aD (aO (pv 2))) bc)))
   (aD (aO gn)))),?_⟩
  refine aB ?_;refine⟨_,rfl,S,v,d,rfl,IP,zp,fun H1 s1=>⟨_,rfl,?_⟩⟩;rw[hp];refine aW (bB ?_);dsimp only;refine aB ?_;refine⟨_,rfl,S',u,e,rfl,ths.same s1,zs,fun H2 s2=>⟨_,rfl,?_⟩⟩;rw[hs];refine aW (bB ?_);dsimp only;have si:=s1.trans s2;obtain⟨ep,lp,cm⟩:=fu hp;obtain⟨es,ls,dQ⟩:=fD hs;have gp:=IP.same si;have zo:=ths.same si;rw[ep]at gp;rw[es]at zo;generalize rowsOf d=ps at q lp cm gp;generalize rowsOf e=ss at q ls dQ zo;obtain⟨ap,xp,rfl,rp⟩:=th_rows gp;obtain⟨ag,xs,rfl,rs⟩:=th_rows zo;refine aB ?_;refine⟨_,rfl,ag,xs,rfl,SqT.of rs.e,?_⟩;refine ZT.for_enum true (xs:=xs) (fun i σ Hc=>∃x2 x3,σ=[some (.ref ap),some (.ref ag),x2,x3]/\Same H2 Hc/\∀j,j<i->cJ ps (ss.take j) (ss.getD j [])=true) ?_ ?_ ?_ ?_
  .exact⟨none,none,rfl,Same.refl _,fun j hj=>absurd hj (Nat.not_lt_zero _)⟩
  .rintro i σ Hc hi ⟨x2,x3,rfl,sm,hh⟩;exact SqT.of (sm _ _ rs.e)
  .rintro i x σ Hc T0 hx ⟨x2,x3,rfl,sm,hh⟩ nT
   have hi:i<ss.length:=by
    have:=(zAa.mp hx).1;rw[rs.l]at this;exact this
   have ui:i<xs.length:=by rw[rs.l];exact hi
   obtain⟨tr,kN,gs⟩:=rs.g i ss[i] (zA0 hi)
   have:x=.ref tr:=by
    rw[hx]at kN;exact zAl kN
   subst this;have h5:=dQ ss[i] (zAh hi);have sT:=sm.updR (o:=.tup [V.int i,V.ref tr]) nT;refine⟨T0,_,rfl,SqT.of aa,rfl,_,_,rfl,_,_,rfl,rfl,?_⟩;refine⟨_,rfl,_,rfl,_,rfl,i,rfl,ag,xs,rfl,SqT.of (sT _ _ rs.e),fun hw=>?_,fun _ p IQ=>?_⟩
   .have:=hw.2;rw[HT.sIx_nat]at this;exact absurd this Zz
   rw[Cp (Nat.le_of_lt ui)];have sp:=sT.updR (o:=.tup (xs.take i)) IQ;refine⟨_,rfl,ap,xp,ps,p,xs.take i,ss.take i,tr,ss[i],rfl,rp.same sp,cm,(rs.same sT).cut i IQ,?_,?_,sp _ _ gs,h5,fun H' s'=>⟨_,rfl,?_⟩⟩
   .rw[zAd];lia
   .intro s NC;obtain⟨j,hj,e'⟩:=List.getElem_of_mem NC;rw[zAd]at hj;have ND:j<i:=Zz
    have IS:j<ss.length:=Zz
    have e2:ss[j]=s:=by rw[<-e',List.getElem_take]
    rw[<-e2];have:=hh j ND;rw[getD_get IS]at this;exact Cq (dQ _ (zAh IS)) this
   .cases eh:cJ ps (ss.take i) ss[i]with
    |false=>
     refine aY ⟨_,rfl,?_⟩;have:=q H' (si.trans (sp.trans s'));rw[xO hh hi (by rw[getD_get hi];exact eh)]at this;exact this
    |true=>
     refine aW ⟨_,_,rfl,sp.trans s',fun j hj=>?_⟩;rcases Nat.lt_succ_iff_lt_or_eq.mp hj with z|z
     .exact hh j z
     .rw[z,getD_get hi];exact eh
  .rintro σ Hc ⟨x2,x3,rfl,sm,hh⟩;have:=q Hc (si.trans sm);rw[xP fun j hj=>hh j (by rw[rs.l];exact hj)]at this;exact this
theorem sc27s:FnScope ["thing","clips","promises","sales"] ["thing"] (au (top 42)):=fQS
theorem ok_book(F:Fun K "is_book" "is_book" (top 42) f fd)(c0:Cal P w K mg base 1 "is_tuple_of" ["thing","fewest","most"] (uU bz))(c1:Cal P w K mg base 4 "are_clips" ["thing"] (spT eY))(c2:Cal P w K mg base 4 "are_promises" ["thing"] (spT dh))(c3:Cal P w K mg base 3 "are_sales" ["thing"] (spT dG))(c4:Cal P w K mg base 5 "first_unheld" ["promises","sales"] xN):
  FnOk P w K mg base CX0 6 f fd ["thing"] (spT cu):=by
 refine F.ok sc27s (fun vs H Q E h=>?_) (fun cdv A outer s H vs Q E hr h=>?_)
 .obtain⟨S,v,d,rfl,_⟩:=h;rfl
 .obtain⟨S,v,d,rfl,th,hz,q⟩:=h
  refine⟨_,aJ (bZ (bN (bM (aG c0 hr (ak (pv 0) (ak ao (ak ao aj)))))) (aD (aO ig)) bc)
   (aJ (dU (pv 0) (dR rfl (az (pgn 1 sc27s.nd) (az (pgn 2 sc27s.nd) (az (pgn 3 sc27s.nd) bT)))))
   (aD (aO (cC (aG c1 hr (ak (pv 1) aj)) (cC (aG c2 hr (ak (pv 2) aj)) (cC (aG c3 hr (ak (pv 3) aj)) (f9 (dZ rA (aG c4 hr (ak (pv 2) (ak (pv 3) aj))) gn (bf _))))))))),?_⟩
  have fin:=q;unfold cu at fin;refine aB ?_;refine⟨_,rfl,S,v,d,3,3,rfl,th,hz,fun H1 s1=>⟨_,rfl,?_⟩⟩
  cases e:bz d 3 3 with
  |false=>
   rw[e]at fin;exact aY (fin _ s1)
  |true=>
   rw[e]at fin;refine aW (bB ?_);dsimp only;obtain⟨ds,rfl,l1,l2⟩:=iD e;have gp:=th.same s1
   cases gp with
   |@tup a xs _ ea r=>
    obtain⟨v0,v1,v2,d0,d1,d2,rfl,rfl,h0,h1,h2⟩:=qK r (show ds.length=3 by lia);have z0:=iY (d:=d0) Zy hz;have z1:=iY (d:=d1) Zy hz;have z2:=iY (d:=d2) Zy hz;refine aB ?_;refine⟨_,rfl,a,_,rfl,SqT.of ea,rfl,_,_,rfl,_,_,rfl,_,_,rfl,rfl,?_⟩;dsimp only;have fin:∀H',Same H H'->Q (.bl (true&&(eY d0&&(dh d1&&(dG d2&&(un (rowsOf d1) (rowsOf d2)).isNone))))) H':=fin;refine⟨_,rfl,S,_,d0,rfl,h0,z0,fun H2 s2=>⟨_,rfl,?_⟩⟩
    cases e0:eY d0 with
    |false=>
     rw[e0]at fin;exact aW (fin _ (s1.trans s2))
    |true=>
     rw[e0]at fin;refine aY ?_;refine⟨_,rfl,S,_,d1,rfl,h1.same s2,z1,fun H3 s3=>⟨_,rfl,?_⟩⟩
     cases e1:dh d1 with
     |false=>
      rw[e1]at fin;exact aW (fin _ ((s1.trans s2).trans s3))
     |true=>
      rw[e1]at fin;refine aY ?_;refine⟨_,rfl,S,_,d2,rfl,h2.same (s2.trans s3),z2,fun H4 s4=>⟨_,rfl,?_⟩⟩
      cases e2:dG d2 with
      |false=>
       rw[e2]at fin;exact aW (fin _ (((s1.trans s2).trans s3).trans s4))
      |true=>
       rw[e2]at fin;refine aY ?_;have EC:=(s2.trans s3).trans s4;refine⟨_,rfl,_,rfl,S,_,d1,S,_,d2,rfl,h1.same EC,h2.same EC,e1,e2,z1,z2,fun H5 s5=>⟨rfl,?_⟩⟩;have:=fin H5 (s1.trans (EC.trans s5))
       cases eu:un (rowsOf d1) (rowsOf d2)with
       |none=>
        rw[eu]at this;exact this
       |some i=>
        rw[eu]at this;exact this
end K80
open K80 (top Mg boot_tuple boot_isinstance Cal aG)
namespace K80P
open PySem L2
theorem cV{J:It}{g:TG}{te:TE}{eW:St}{H0:Hp}{Fin:List V->Hp->Prop}(n:Nat)(Pv:Nat->List V->St->Hp->Prop)(h0:Pv 0 [] eW H0)(hz:n<sizeLine)
  (step:∀i ys σ H,i<n->ys.length=i->Pv i ys σ H->J.go i H/\∀x H',J.yld i H x H'->∀R:V->St->Hp->Prop,(∀y ar H4,Pv (i+1) (ys++[y]) ar H4->R y ar H4)->g x σ H' fun ar H2=>te ar H2 fun y H4=>R y ar H4)
  (fin:∀ys σ H,ys.length=n->Pv n ys σ H->J.stop n H/\Fin ys H):iw J g u9 te Fin eW H0:=by
 refine⟨fun i m ys σ H=>m=n-i/\i<=n/\ys.length=i/\Pv i ys σ H,⟨_,rfl,zAp _,rfl,h0⟩,?_⟩;rintro i m ys σ H ⟨rfl,hi,hy,p⟩;refine⟨Zz,?_⟩;by_cases aE:i<n
 .obtain⟨go,st⟩:=step i ys σ H aE hy p;exact .inr ⟨go,fun x H' y=>st x H' y _ fun y ar H4 p2=>⟨n-(i+1),Zz,rfl,aE,by rw[zA2,hy];rfl,p2⟩⟩
 .have e:i=n:=Zz
  subst e;exact .inl (fin ys σ H hy p)
theorem nd2(x y:Str)(h:x≠y):([x,y]:List Str).Nodup:=by simp[h]
section
variable{P:Program}{w:World}{K:Frag}{mg:Str->Option Value}{base:Heap}{f:Addr}{fd:FuncData}
end
section
variable{X:Cx}{K:Frag}{tg l:Expr}{tl:TE}
theorem Cu(hK:X.K=K)(hl:PE X l tl):PI X tg l (Ai K tl):=by
 subst hK;exact fJ hl
theorem ix_tupK(hK:X.K=K):IxR X (JD K):=by
 subst hK;exact cY
theorem oW(hK:X.K=K):dw X (.type "tuple") (fun xs H Q=>∃p ys,xs=[.ref p]/\((SqL K H p ys/\∀l,H l=none->Q (.ref l) (upd H l (.tup ys)))\/(SqT K H p ys/\Q (.ref p) H))):=by
 subst hK;exact bW
end
def StAt(H:Hp)(st:Addr):Prop:=∃a b c:Int,H st=some (.lst [.int a,.int b,.int c])/\0<=a/\0<=b/\b<4294967296
structure Dr(st:Addr)(H H':Hp):Prop where
 bt:∀b o,H b=some o->b≠st->H' b=some o
 sa:StAt H' st
theorem Dr.same{st:Addr}{H H1 H2:Hp}(g:Dr st H H1)(s:Same H1 H2):Dr st H H2:=by
 obtain⟨a,b,c,e,h⟩:=g.sa;exact⟨fun b' o' e' ne=>s _ _ (g.bt b' o' e' ne),a,b,c,s _ _ e,h⟩
theorem Dr.trans{st:Addr}{H H1 H2:Hp}(g:Dr st H H1)(g':Dr st H1 H2):Dr st H H2:=⟨fun b' o' e' ne=>g'.bt _ _ (g.bt b' o' e' ne) ne,g'.sa⟩
theorem Dr.refl{st:Addr}{H:Hp}(h:StAt H st):Dr st H H:=⟨fun _ _ e _=>e,h⟩
theorem Dr.draw{st:Addr}{H H1:Hp}(g:Dr st H H1){a b c:Int}(h1:0<=a)(h2:0<=b)(h3:b<4294967296):Dr st H (upd H1 st (.lst [.int a,.int b,.int c])):=
 ⟨fun b' o' e' ne=>by rw[aq ne];exact g.bt _ _ e' ne,a,b,c,aa,h1,h2,h3⟩
theorem Dr.ne{st p:Addr}{H H1:Hp}(g:Dr st H H1)(hp:H1 p=none):p≠st:=fun z=>by
 obtain⟨a,b,c,e,_⟩:=g.sa;rw[z,e]at hp;cases hp
theorem Dr.tups{st:Addr}{H H1:Hp}(g:Dr st H H1)(h0:StAt H st):∀b xs,H b=some (.tup xs)->H1 b=some (.tup xs):=fun b xs e=>g.bt _ _ e fun z=>by
 obtain⟨_,_,_,e',_⟩:=h0;rw[z,e']at e;cases e
theorem Dr.ths{st:Addr}{H H1:Hp}{vs:List V}{ds:List PyData}(g:Dr st H H1)(h0:StAt H st)(t:IsThs (fun _=>False) H vs ds):IsThs (fun _=>False) H1 vs ds:=t.keep (g.tups h0) (fun _ _ z _=>z.elim) fun _ _ z _=>z.elim
inductive SpCellI(K:Frag)(vs:List V)(H:Hp)(Q:VK):Prop
 |mk:∀(a:Addr) (ns:List Int) (k:Int),(vs=[.ref a,.int k])->(SqL K H a (ns.map V.int))->(0<=k)->(∀i,Q (.int i) H)->SpCellI K vs H Q
def Cv(K:Frag):Sp:=fun vs H Q _=>SpCellI K vs H Q
inductive SpStateI(K:Frag)(vs:List V)(H:Hp)(Q:VK):Prop
 |mk:∀(a:Addr) (ns:List Int) (k:Int),(vs=[.ref a,.int k])->(SqL K H a (ns.map V.int))->(0<=k)->(∀(p:Addr) (x y z:Int),H p=none->0<=x->0<=y->y<4294967296->Q (.ref p) (upd H p (.lst [.int x,.int y,.int z])))->SpStateI K vs H Q
def xQ(K:Frag):Sp:=fun vs H Q _=>SpStateI K vs H Q
inductive SpChoiceI(vs:List V)(H:Hp)(Q:VK):Prop
 |mk:∀(st:Addr) (n:Int),(vs=[.ref st,.int n])->(StAt H st)->(1<=n)->(n<1073741824)->(∀r a b c:Int,0<=r->r<n->0<=a->0<=b->b<4294967296->Q (.int r) (upd H st (.lst [.int a,.int b,.int c])))->SpChoiceI  vs H Q
def spChoice:Sp:=fun vs H Q _=>SpChoiceI  vs H Q
theorem mK:bootBuiltins "max"=some (.builtin "max"):=by decide +kernel
theorem mL:bootBuiltins "min"=some (.builtin "min"):=by decide +kernel
section
variable{P:Program}{w:World}{K:Frag}{mg:Str->Option Value}{base:Heap}{f:Addr}{fd:FuncData}
theorem Ld:FnScope ["_law_script","_law_k"] ["_law_script","_law_k"] (au (top 56)):=fQS
theorem ok_cell(F:Fun K "_law_cell_at" "_law_cell_at" (top 56) f fd)(T:Mg mg):FnOk P w K mg base CX0 1 f fd ["_law_script","_law_k"] (Cv K):=by
 refine F.ok Ld (fun vs H Q E h=>?_) (fun cdv A outer s H vs Q E hr h=>?_)
 .obtain⟨a,ns,k,rfl,_⟩:=h;rfl
 .obtain⟨a,ns,k,rfl,hS,h0,q⟩:=h;refine⟨_,aJ (bZ (bj mV (pv 1) (aK bF rfl T.len PySem.boot_len (aP (pv 0) aj)) (bf _)) (aD (aO (pX bL (pv 0) (pv 1)))) bc) (aD (aO ao)),?_⟩;refine⟨_,rfl,_,rfl,a,_,rfl,.inl hS,_,_,rfl,rfl,_,rfl,?_⟩;refine Em (fun c=>?_) (fun _=>q 0);have c:=zB8 c;rw[zA1]at c;have hk:k.toNat<ns.length:=Zz
  refine⟨_,rfl,_,rfl,a,_,k,.int ns[k.toNat],rfl,rfl,hS,?_,q _⟩;have e:(ns.map V.int)[k.toNat]?=some (.int ns[k.toNat]):=by rw[zAb,zA0 hk];rfl
  have:=eF e;rw[show((k.toNat:Nat):Int)=k by lia]at this;exact this
theorem sc26:FnScope ["_law_script","_law_k","_law_cell"] ["_law_script","_law_k"] (au (top 57)):=fQS
theorem ok_state(F:Fun K "_law_state" "_law_state" (top 57) f fd)(Tm:mg "max"=none)(c1:Cal P w K mg base 1 "_law_cell_at" ["_law_script","_law_k"] (Cv K)):FnOk P w K mg base CX0 2 f fd ["_law_script","_law_k"] (xQ K):=by
 refine F.ok sc26 (fun vs H Q E h=>?_) (fun cdv A outer s H vs Q E hr h=>?_)
 .obtain⟨a,ns,k,rfl,_⟩:=h;rfl
 .obtain⟨a,ns,k,rfl,hS,h0,q⟩:=h
  refine⟨_,aJ (pss 2 sc26.nd (aG c1 hr (aP (pv 0) (aP (pv 1) aj))))
   (aD (aO (gU (ak (aK (jw rfl) rfl Tm mK (ak ao (ak (aR vD (pv 2) (aR rm ao ao)) aj))) (ak (aR cg (aR jK (pv 2) ao) ao) (ak ao aj)))))),?_⟩
  refine⟨_,rfl,_,rfl,a,ns,k,rfl,hS,h0,fun c=>?_⟩;refine⟨_,rfl,_,_,rfl,rfl,⟨by decide,by decide,by decide⟩,_,_,rfl,rfl,_,_,rfl,_,rfl,_,_,rfl,rfl,(by show(0:Int)<2147483629;decide),_,_,rfl,rfl,zL,fun p hp=>?_⟩;refine q p _ _ _ hp ?_ ?_ ?_
  .split<;>lia
  .show 0<=c % 2147483629+1;lia
  .show c % 2147483629+1<4294967296;lia
theorem sc27:FnScope ["_law_state_here","_law_many","_law_found","_law_mixed"] ["_law_state_here","_law_many"] (au (top 58)):=fQS
theorem ok_choice(F:Fun K "_law_choice" "_law_choice" (top 58) f fd):FnOk P w K mg base CX0 1 f fd ["_law_state_here","_law_many"] spChoice:=by
 refine F.ok sc27 (fun vs H Q E h=>?_) (fun cdv A outer s H vs Q E hr h=>?_)
 .obtain⟨st,n,rfl,_⟩:=h;rfl
 .obtain⟨st,n,rfl,⟨a,b,c,es,ha,hb,rX⟩,h1,h2,q⟩:=h
  refine⟨_,aJ (bZ (bj tZ (pX bL (pv 0) ao) ao (bf _))
    (aJ (pss 2 sc27.nd (aR jK (pX bL (pv 0) ao) (pv 1)))
     (aJ (dU (aR wK (pX bL (pv 0) ao) (pv 1)) (lQ (pv 0) ao set_list)) (aD (aO (pv 2))))) bc)
   (aJ (dU (aR cg (pX bL (pv 0) ao) ao) (lQ (pv 0) ao set_list))
   (aJ (dU (aR jK (aR cg (aR cg (aR lU (pX bL (pv 0) ao) ao) ao) (pX bL (pv 0) ao)) ao) (lQ (pv 0) ao set_list))
   (aJ (pss 3 sc27.nd (aR jK (aR cg (aR cg (aR lU (pX bL (pv 0) ao) (pX bL (pv 0) ao)) (aR lU ao (pX bL (pv 0) ao))) ao) ao))
   (aJ (pss 3 sc27.nd (aR jK (aR cg (aR lU (pv 3) (pv 3)) (aR lU ao (pv 3))) ao))
   (aD (aO (aR jK (aR wK (pv 3) ao) (pv 1)))))))),?_⟩
  refine⟨_,rfl,st,_,0,.int a,rfl,rfl,SqL.of es,rfl,_,_,rfl,rfl,_,rfl,?_⟩;refine Em (fun hc=>?_) (fun _=>?_)
  .refine⟨_,rfl,st,_,0,.int a,rfl,rfl,SqL.of es,rfl,_,rfl,_,_,rfl,rfl,(by show 0<n;lia),?_⟩;refine⟨_,rfl,st,_,0,.int a,rfl,rfl,SqL.of es,rfl,_,rfl,_,_,rfl,rfl,⟨Zz,h2⟩,_,rfl,st,_,0,0,rfl,rfl,es,rfl,_,rfl,?_⟩;exact q (a % n) (a / n) b c (Int.emod_nonneg a Zz) (Int.emod_lt_of_pos a Zz) (Int.ediv_nonneg ha Zz) hb rX
  .refine⟨_,rfl,st,_,2,.int c,rfl,rfl,SqL.of es,rfl,_,_,rfl,rfl,_,rfl,st,_,2,2,rfl,rfl,es,rfl,?_⟩;have eL:([V.int a,V.int b,V.int c].set 2 ((fun i j:Int=>V.int (i+j)) c 1))=[V.int a,V.int b,V.int (c+1)]:=rfl;rw[eL];have ED:upd H st (.lst [.int a,.int b,.int (c+1)]) st=some (.lst [.int a,.int b,.int (c+1)]):=aa;refine⟨_,rfl,st,_,1,.int b,rfl,rfl,SqL.of ED,rfl,_,_,rfl,rfl,.inl ⟨Zz,Zz⟩,_,_,rfl,rfl,_,rfl,st,_,2,.int (c+1),rfl,rfl,SqL.of ED,rfl,_,_,rfl,rfl,_,_,rfl,rfl,(by show(0:Int)<2147483647;decide),_,rfl,st,_,1,1,rfl,rfl,ED,rfl,?_⟩;have IU:0<=(b*48271+29+(c+1)) % 2147483647:=Int.emod_nonneg _ Zx;have NF:(b*48271+29+(c+1)) % 2147483647<2147483647:=Int.emod_lt_of_pos _ Zx
   obtain⟨m,hm⟩:∃m,m=(b*48271+29+(c+1)) % 2147483647:=⟨_,rfl⟩
   rw[<-hm]at IU NF;have eL:([V.int a,V.int b,V.int (c+1)].set 1 ((fun i j:Int=>V.int (i % j)) (b*48271+29+(c+1)) 2147483647))=[V.int a,V.int m,V.int (c+1)]:=by rw[hm];rfl
   rw[eL]
   have eu:upd (upd H st (.lst [.int a,.int b,.int (c+1)])) st (.lst [.int a,.int m,.int (c+1)])=upd H st (.lst [.int a,.int m,.int (c+1)]):=by
    funext z;by_cases hz:z=st
    .rw[hz,aa,aa]
    .rw[aq hz,aq hz,aq hz]
   rw[eu];have eJ:upd H st (.lst [.int a,.int m,.int (c+1)]) st=some (.lst [.int a,.int m,.int (c+1)]):=aa;refine⟨_,rfl,st,_,1,.int m,rfl,rfl,SqL.of eJ,rfl,_,rfl,st,_,1,.int m,rfl,rfl,SqL.of eJ,rfl,_,_,rfl,rfl,.inl ⟨Zz,Zz⟩,_,rfl,st,_,1,.int m,rfl,rfl,SqL.of eJ,rfl,_,_,rfl,rfl,.inl ⟨by decide,by decide⟩,_,_,rfl,rfl,_,_,rfl,rfl,_,_,rfl,rfl,(by show(0:Int)<2147483629;decide),?_⟩;have EE:0<=(m*m+39373*m+7) % 2147483629:=Int.emod_nonneg _ Zx;have EF:(m*m+39373*m+7) % 2147483629<2147483629:=Int.emod_lt_of_pos _ Zx;refine⟨_,rfl,_,rfl,_,_,rfl,rfl,.inl ⟨Int.lt_of_lt_of_le Zx EE,Int.lt_trans EF Zx⟩,_,rfl,_,_,rfl,rfl,.inl ⟨by decide,by decide⟩,_,_,rfl,rfl,_,_,rfl,rfl,(by show(0:Int)<2147483587;decide),?_⟩;refine⟨_,rfl,_,_,rfl,rfl,⟨by decide,by decide⟩,_,rfl,_,_,rfl,rfl,(by show 0<n;lia),?_⟩;exact q _ a m (c+1) (Int.emod_nonneg _ Zz) (Int.emod_lt_of_pos _ Zz) ha IU Zz
end
theorem ok_b{X:Cx}{body:List Stmt}{t:TS}{R:TS->Prop}(h:BSs X body t)(q:R t):∃t,PSs X body t/\R t:=⟨t,h.run,q⟩
end K80P
namespace K80
open PySem L2
theorem oX{J:It}{g:TG}{tt:TT}{te:TE}{eW:St}{H0:Hp}{Fin:List V->Hp->Prop}(n:Nat)(Pv:Nat->List V->St->Hp->Prop)(h0:Pv 0 [] eW H0)(hz:n<sizeLine)
  (step:∀i ys σ H,i<n->ys.length<=i->Pv i ys σ H->J.go i H/\∀x H',J.yld i H x H'->∀R:List V->St->Hp->Prop,(∀nN ar H4,nN.length<=i+1->Pv (i+1) nN ar H4->R nN ar H4)->g x σ H' fun ar H2=>tt ar H2 fun b H3=>if b=true then te ar H3 fun y H4=>R (ys++[y]) ar H4 else R ys ar H3)
  (fin:∀ys σ H,ys.length<=n->Pv n ys σ H->J.stop n H/\Fin ys H):iw J g tt te Fin eW H0:=by
 refine⟨fun i m ys σ H=>m=n-i/\i<=n/\ys.length<=i/\Pv i ys σ H,⟨_,rfl,zAp _,zA3 _,h0⟩,?_⟩;rintro i m ys σ H ⟨rfl,hi,hy,p⟩;refine⟨Zz,?_⟩;by_cases aE:i<n
 .obtain⟨go,st⟩:=step i ys σ H aE hy p;exact .inr ⟨go,fun x H' y=>st x H' y (fun nN ar H4=>∃m',m'<n-i/\m'=n-(i+1)/\i+1<=n/\nN.length<=i+1/\Pv (i+1) nN ar H4) fun nN ar H4 l2 p2=>⟨n-(i+1),Zz,rfl,aE,l2,p2⟩⟩
 .have e:i=n:=Zz
  subst e;exact .inl (fin ys σ H hy p)
theorem rd_E{t:TS}{D:Ends}{N:L2.St->Hp->Prop}{σ:L2.St}{H:Hp}(h:∀D':Ends,(∀σ H,N σ H->D'.nx σ H)->t D' σ H):t {D with nx:=N,ct:=N,bk:=D.nx} σ H:=h _ fun _ _ z=>z
theorem cV{J:It}{g:TG}{te:TE}{eW:St}{H0:Hp}{Fin:List V->Hp->Prop}(n:Nat)(Pv:Nat->List V->St->Hp->Prop)(h0:Pv 0 [] eW H0)(hz:n<sizeLine)
  (step:∀i ys σ H,i<n->ys.length=i->Pv i ys σ H->J.go i H/\∀x H',J.yld i H x H'->∀R:V->St->Hp->Prop,(∀y ar H4,Pv (i+1) (ys++[y]) ar H4->R y ar H4)->g x σ H' fun ar H2=>te ar H2 fun y H4=>R y ar H4)
  (fin:∀ys σ H,ys.length=n->Pv n ys σ H->J.stop n H/\Fin ys H):iw J g u9 te Fin eW H0:=by
 refine⟨fun i m ys σ H=>m=n-i/\i<=n/\ys.length=i/\Pv i ys σ H,⟨_,rfl,zAp _,rfl,h0⟩,?_⟩;rintro i m ys σ H ⟨rfl,hi,hy,p⟩;refine⟨Zz,?_⟩;by_cases aE:i<n
 .obtain⟨go,st⟩:=step i ys σ H aE hy p;exact .inr ⟨go,fun x H' y=>st x H' y _ fun y ar H4 p2=>⟨n-(i+1),Zz,rfl,aE,by rw[zA2,hy];rfl,p2⟩⟩
 .have e:i=n:=Zz
  subst e;exact .inl (fin ys σ H hy p)
abbrev ky(n y:Int):List Key:=[.inl n,.inl y]
theorem sW{n y n' y':Int}(h:ky n y=ky n' y'):n=n'/\y=y':=by
 injection h with h1 h2;injection h2 with h2 _;injection h1 with h1;injection h2 with h2;exact⟨h1,h2⟩
def dom(ps:List (List Int))(n y:Int):Prop:=0<=n/\n<ps.length/\fl (ps.getD n.toNat []) 2<=y/\y<=fl (ps.getD n.toNat []) 3
def hl(ps ss:List (List Int))(n y:Int):List Int:=iG (ps.getD n.toNat []) ss n y
structure Lts(fo:Addr)(H0 H:Hp)(dm:Int->Int->Prop)(f:Int->Int->List Int)(Zs:List (List Key×V)):Prop where
 sm:Same H0 H
 nf:H0 fo=none
 e:H fo=some (.dT Zs)
 g:∀n y,dm n y->∃d,dF Zs (ky n y)=some (.ref d)/\H d=some (.lst ((f n y).map V.int))
 no:∀n y,¬dm n y->dF Zs (ky n y)=none
 i:∀n y n' y' d,dF Zs (ky n y)=some (.ref d)->dF Zs (ky n' y')=some (.ref d)->n=n'/\y=y'
 fr:∀n y d,dF Zs (ky n y)=some (.ref d)->H0 d=none/\d≠fo
 kd:(Zs.map (·.1)).Nodup
 kk:∀k∈Zs.map (·.1),∃n y,k=ky n y/\dm n y
theorem FW{Zs:List (List Key×V)}{k:List Key}(h:dF Zs k=none):¬k∈Zs.map (·.1):=fun hk=>by
 obtain⟨p,hp,e⟩:=zA5.mp hk
 have:(dF Zs k).isSome=true:=by
  rw[<-gq,List.any_eq_true];exact⟨p,hp,zAu e⟩
 rw[h]at this;cases this
theorem Cw{Zs:List (List Key×V)}{k:List Key}{v:V}(hn:(Zs.map (·.1)).Nodup)(h:dF Zs k=none):((putK Zs k v).map (·.1)).Nodup:=by
 rw[oh _ h,zA4,List.nodup_append];refine⟨hn,Zy,fun a ha b hb z=>?_⟩;rw[List.mem_singleton.mp hb]at z;have z':a=k:=z;rw[z']at ha;exact FW h ha
section
variable{fo:Addr}{H0 H H':Hp}{dm:Int->Int->Prop}{f f':Int->Int->List Int}{Zs:List (List Key×V)}
theorem Lts.same(g:Lts fo H0 H dm f Zs)(s:Same H H'):Lts fo H0 H' dm f Zs:=
 ⟨g.sm.trans s,g.nf,s _ _ g.e,fun n y h=>by
  obtain⟨d,e1,e2⟩:=g.g n y h
  exact⟨d,e1,s _ _ e2⟩,g.no,g.i,g.fr,g.kd,g.kk⟩
theorem Lts.wr{d:Addr}{N Y:Int}{L:List Int}(g:Lts fo H0 H dm f Zs)(hv:dF Zs (ky N Y)=some (.ref d))(h1:f' N Y=L)(h2:∀n y,dm n y->¬(n=N/\y=Y)->f' n y=f n y):Lts fo H0 (upd H d (.lst (L.map V.int))) dm f' Zs:=by
 obtain⟨w1,w2⟩:=g.fr _ _ _ hv;refine⟨fun c o e=>by rw[aq (aA e w1)];exact g.sm _ _ e,g.nf,by rw[aq w2.symm];exact g.e,fun n y hd=>?_,g.no,g.i,g.fr,g.kd,g.kk⟩;by_cases hk:n=N/\y=Y
 .obtain⟨rfl,rfl⟩:=hk;exact⟨d,hv,by rw[aa,h1]⟩
 .obtain⟨d',q1,q2⟩:=g.g n y hd;have nd:d'≠d:=fun z=>hk (g.i _ _ _ _ _ (z▸q1) hv);exact⟨d',q1,by rw[aq nd,h2 n y hd hk];exact q2⟩
theorem Lts.cast(g:Lts fo H0 H dm f Zs)(h:∀n y,dm n y->f' n y=f n y):Lts fo H0 H dm f' Zs:=
 ⟨g.sm,g.nf,g.e,fun n y hd=>by
  obtain⟨d,e1,e2⟩:=g.g n y hd
  exact⟨d,e1,by rw[h n y hd];exact e2⟩,g.no,g.i,g.fr,g.kd,g.kk⟩
theorem Lts.put{d:Addr}{N Y:Int}{L:List Int}{IX:Int->Int->Prop}(g:Lts fo H0 H dm f Zs)(sH:Same H H')(zv:H d=none)(ed:H' d=some (.lst (L.map V.int)))(hL:f N Y=L)(hn:¬dm N Y)(zw:∀n y,IX n y↔(dm n y\/(n=N/\y=Y))):Lts fo H0 (upd H' fo (.dT (putK Zs (ky N Y) (.ref d)))) IX f (putK Zs (ky N Y) (.ref d)):=by
 have IY:d≠fo:=fun z=>by rw[z,g.e]at zv;cases zv
 have kp:∀b o,b≠fo->H b=some o->upd H' fo (.dT (putK Zs (ky N Y) (.ref d))) b=some o:=fun b o n e=>by
  rw[aq n];exact sH _ _ e
 have nn:=g.no N Y hn;refine⟨fun b o e=>kp b o (aA e g.nf) (g.sm _ _ e),g.nf,aa,fun n y z=>?_,fun n y z=>?_,fun n y n' y' d' z z'=>?_,fun n y d' z=>?_,Cw g.kd nn,fun k hk=>?_⟩
 .by_cases hk:ky n y=ky N Y
  .obtain⟨rfl,rfl⟩:=sW hk;exact⟨d,by rw[jd,zB3 rfl],by rw[aq IY,hL];exact ed⟩
  .have hd:=((zw n y).mp z).resolve_right fun w=>hk (by rw[w.1,w.2]);obtain⟨d',q1,q2⟩:=g.g n y hd;exact⟨d',by rw[jd,zB0 hk];exact q1,kp _ _ (g.fr n y d' q1).2 q2⟩
 .have hk:¬ky n y=ky N Y:=fun w=>z ((zw n y).mpr (.inr (sW w)));rw[jd,zB0 hk];exact g.no n y fun w=>z ((zw n y).mpr (.inl w))
 .have key:∀{n y},dF Zs (ky n y)=some (.ref d)->False:=fun{n y} w=>by
   by_cases hd:dm n y
   .obtain⟨R5,q1,q2⟩:=g.g n y hd;rw[w]at q1;cases q1;rw[q2]at zv;cases zv
   .rw[g.no n y hd]at w;cases w
  rw[jd]at z z';by_cases h1:ky n y=ky N Y<;>by_cases h2:ky n' y'=ky N Y
  .obtain⟨rfl,rfl⟩:=sW h1;obtain⟨rfl,rfl⟩:=sW h2;exact⟨rfl,rfl⟩
  .rw[zB3 h1]at z;rw[zB0 h2]at z';cases z;exact(key z').elim
  .rw[zB0 h1]at z;rw[zB3 h2]at z';cases z';exact(key z).elim
  .rw[zB0 h1]at z;rw[zB0 h2]at z';exact g.i _ _ _ _ _ z z'
 .rw[jd]at z;by_cases h1:ky n y=ky N Y
  .rw[zB3 h1]at z;cases z;exact⟨g.sm.free zv,IY⟩
  .rw[zB0 h1]at z;exact g.fr n y d' z
 .rw[oh _ nn,zA4]at hk;rcases zA6.mp hk with z|z
  .obtain⟨n,y,a,b⟩:=g.kk k z;exact⟨n,y,a,(zw n y).mpr (.inl b)⟩
  .rw[List.mem_singleton.mp z];exact⟨N,Y,rfl,(zw N Y).mpr (.inr ⟨rfl,rfl⟩)⟩
end
inductive SpRowsI(vs:List V)(H:Hp)(Q:VK):Prop
 |mk:∀ap xp ps ag xs ss,(vs=[.ref ap,.ref ag])->(RowsAt H ap xp ps)->(ps.length<=10)->((∀r∈ps,okP r))->(RowsAt H ag xs ss)->(ss.length<=100)->((∀s∈ss,s.length=5))->(∀t fo H',Same H H'->H' t=some (.tup [.ref fo,unV (un ps ss)])->(un ps ss=none->∃Zs,Lts fo H H' (dom ps) (hl ps ss) Zs)->Q (.ref t) H')->SpRowsI  vs H Q
def spRows:Sp:=fun vs H Q _=>SpRowsI  vs H Q
def Cy(p:List Int):List Int:=(List.range 8).map fun i=>fl p 4*(if((i:Nat):Int)=fl p 0 then 1 else 0)
theorem FZ{ps:List (List Int)}{n y:Int}(op:okP (ps.getD n.toNat []))(hy:fl (ps.getD n.toNat []) 2<=y/\y<=fl (ps.getD n.toNat []) 3):hl ps [] n y=Cy (ps.getD n.toNat []):=by
 unfold hl iG;rw[zB3 hy];show base0 (ps.getD n.toNat [])=Cy _;generalize ps.getD n.toNat []=p at op;obtain⟨_,⟨a,b⟩,_⟩:=op;unfold base0 Cy
 obtain⟨h,eh⟩:∃h:Nat,fl p 0=h:=⟨(fl p 0).toNat,Zz⟩
 rw[eh,zAi];have hb:h<8:=Zz
 generalize fl p 4=k;have:h=0\/h=1\/h=2\/h=3\/h=4\/h=5\/h=6\/h=7:=Zz
 rcases this with rfl|rfl|rfl|rfl|rfl|rfl|rfl|rfl<;>simp[List.range_succ,List.replicate]
theorem Cz(ps ss:List (List Int))(n y:Int):(hl ps ss n y).length=8:=jD _ _ _ _
theorem G3{ps ss:List (List Int)}{s:List Int}{n y:Int}(hd:dom ps n y):hl ps (ss++[s]) n y=hstep n y (hl ps ss n y) s:=by
 unfold hl iG;rw[zB3 hd.2.2,zB3 hd.2.2,List.foldl_append];rfl
theorem holds_iff{ps sa:List (List Int)}{s:List Int}{n a b k y:Int}(ea:fl s 0=n)(eb:fl s 1=a)(ec:fl s 2=b)(ed:fl s 3=k)(ee:fl s 4=y):cJ ps sa s=true↔(dom ps n y/\(0<=a/\a<8)/\(0<=b/\b<8)/\a≠b/\(1<=k/\k<=99))/\∀z,dom ps n z->y<=z->k<=(hl ps sa n z).getD a.toNat 0:=by
 have em:∀{u v z:Int},z∈years u v↔u<=z/\z<=v:=fun{u v z}=>by
  unfold years;rw[zA5];constructor
  .rintro⟨i,hi,rfl⟩;have:=List.mem_range.mp hi;lia
  .rintro⟨h1,h2⟩;exact⟨(z-u).toNat,List.mem_range.mpr Zz,Zz⟩
 unfold cJ uY pU;rw[ea,eb,ec,ed,ee];simp only[Bool.and_eq_true,Zq,Bool.not_eq_true',decide_eq_false_iff_not,List.all_eq_true];unfold dom;constructor
 .rintro⟨⟨h1,h2,h3,h4,h5,h6⟩,h7⟩;exact⟨⟨⟨h1.1,h1.2,h6.1,h6.2⟩,h2,h3,h4,h5⟩,fun z hz hy=>h7 z (em.mpr ⟨hy,hz.2.2.2⟩)⟩
 .rintro⟨⟨h1,h2,h3,h4,h5⟩,h7⟩
  exact⟨⟨⟨h1.1,h1.2.1⟩,h2,h3,h4,h5,h1.2.2⟩,fun z hz=>by
   obtain⟨q1,q2⟩:=em.mp hz
   exact h7 z ⟨h1.1,h1.2.1,Zz,q2⟩ q1⟩
def yk(n y:Int)(p:List Key×V):Option Int:=match p.1 with
 |[.inl n',.inl z]=>if n'=n/\y<=z then some z else none
 |_=>none
variable{P:Program}{w:World}{K:Frag}{mg:Str->Option Value}{base:Heap}{f:Addr}{fd:FuncData}
theorem qM:bootBuiltins "min"=some (.builtin "min"):=by decide +kernel
theorem zP:bootBuiltins "max"=some (.builtin "max"):=by decide +kernel
theorem Le:(["_law_one","_law_sacks","_law_holder"]:List Str).Nodup:=by decide +kernel
theorem K8:(["_law_number_of","_law_one","_law_number_here","_law_year"]:List Str).Nodup:=by decide +kernel
theorem Lf:(["_law_one","_law_rows_here","_law_number_here","_law_seller"]:List Str).Nodup:=by decide +kernel
theorem scX:FnScope ["_law_promises","_law_sales","_law_rows_here","_law_number_here","_law_holder","_law_sort","_law_first","_law_last","_law_sacks","_law_price","_law_year","_law_at","_law_seller","_law_buyer","_law_years","_law_least","_law_one"] ["_law_promises","_law_sales"] (au (top 63)):=fQS
theorem G4(F:Fun K "_law_rows" "_law_rows" (top 63) f fd)(T:Mg mg)(Te:mg "enumerate"=none)(Tr:mg "range"=none)(Tn:mg "min"=none)(Tm:mg "max"=none):FnOk P w K mg base CX0 1 f fd ["_law_promises","_law_sales"] spRows:=by
 refine F.ok scX (fun vs H Q E h=>?_) (fun cdv A outer s H vs Q E hr h=>?_)
 .obtain⟨ap,xp,ps,ag,xs,ss,rfl,_⟩:=h;rfl
 .obtain⟨ap,xp,ps,ag,xs,ss,rfl,rp,lp,cm,rs,ls,h5,q⟩:=h
  refine K80P.ok_b (aF (vO (i:=2) scX.nd rfl (Or.inr rfl) ⟨Aw⟩)
   (aF ⟨fW zB7 rfl (ZT.pi_enum true rfl Te (ak (pv 0) aj)) (dR rfl (az (bw (i:=3) scX.nd rfl (Or.inr rfl)) (az (dR rfl (az (bw (i:=4) scX.nd rfl (Or.inr rfl)) (az (pgn 5 scX.nd) (az (pgn 6 scX.nd)
     (az (pgn 7 scX.nd) (az (bw (i:=8) scX.nd rfl (Or.inr rfl)) (az (pgn 9 scX.nd) bT))))))) bT)))
    (jH (bx ⟨fW zB7 rfl (pY rfl Tr (ak (pv 6) (ak (aR cg (pv 7) ao) aj))) (bw (i:=10) scX.nd rfl (Or.inr rfl))
     (jH (bx ⟨Es (nZ hr) (pv 2) (bU (ak (pv 3) (ak (pv 10) aj))) (bG ["_law_one","_law_sacks","_law_holder"] [none,some 8,some 4] rfl (gj rfl Tr (ak ao aj)) (fun C fp Zt s₂ H₂=>⟨pgn 0 Le,bJ,aR lU (pv 1) (bI yK rfl T.int boot_int (ak (dZ iW (pv 0) (pv 2) (bf _)) aj))⟩) (fun C=>cI (cI trivial)) ⟨rfl,rfl,rfl,rfl⟩) rfl⟩))⟩))⟩
   (aF ⟨fW zB7 rfl (ZT.pi_enum true rfl Te (ak (pv 1) aj)) (dR rfl (az (pgn 11 scX.nd) (az (dR rfl (az (bw (i:=3) scX.nd rfl (Or.inr rfl)) (az (bw (i:=12) scX.nd rfl (Or.inr rfl)) (az (pgn 13 scX.nd)
     (az (bw (i:=8) scX.nd rfl (Or.inr rfl)) (az (bw (i:=10) scX.nd rfl (Or.inr rfl)) bT)))))) bT)))
    (jH (aF ⟨bZ (PW.pt (gG (bj iW (pv 12) (pv 13) (bf _)) (gG (bj mV (aK (jx rfl) rfl Tn qM (ak (pv 12) (ak (pv 13) aj))) ao (bf _)) (gG (bj tZ (aK (jw rfl) rfl Tm zP (ak (pv 12) (ak (pv 13) aj))) ao (bf _)) (gQ (Hv (yR (nZ hr) (bU (ak (pv 3) (ak (pv 10) aj))) (pv 2)))))))) (aD (aO (bU (ak (pv 2) (ak (pv 11) aj))))) bc⟩
    (aF ⟨Im (En (i:=14) (g:=vy K 2 (j8 (dH 0) (j8 (dH 1) yH))) ["_law_number_of","_law_one","_law_number_here","_law_year"] [none,none,some 3,some 10] rfl scX.nd rfl (Or.inl rfl) (Ff (pv 2)) (fun C fp Zt s₂ H₂=>⟨kO rfl rfl (az (pgn 0 K8) (az (pgn 1 K8) bT)),rG (PW.pt (vq (bj iW (pv 0) (pv 2) (bf _)) (qX (bj Gz (pv 1) (pv 3) (bf _))))),pv 1⟩) (fun C=>cI (cI trivial)) ⟨rfl,rfl,rfl,rfl⟩)⟩
    (aF (gw 15 scX.nd ⟨aK (pO rfl) rfl Tn qM (aP (bG ["_law_one","_law_rows_here","_law_number_here","_law_seller"] [none,some 2,some 3,some 12] rfl (fJ (pv 14)) (fun C fp Zt s₂ H₂=>⟨pgn 0 Lf,bJ,pX (uW (K:=K) rfl) (km (nZ hr) (pv 1) (bU (ak (pv 2) (ak (pv 0) aj))) (fun _ _=>rfl)) (pv 3)⟩) (fun C=>cI (cI (cI trivial))) ⟨rfl,rfl,rfl,rfl⟩) aj)⟩)
    (aF ⟨bZ (PW.pt (gG (bN (jX cj cj ao (pv 8) ao)) (gQ (bj mV (pv 15) (pv 8) (bf _))))) (aD (aO (bU (ak (pv 2) (ak (pv 11) aj))))) bc⟩
    (bx ⟨fW zB7 rfl (fJ (pv 14)) (pgn 16 scX.nd)
     (jH (aF ⟨dU (aR vD (pX bL (km (nZ hr) (pv 2) (bU (ak (pv 3) (ak (pv 16) aj))) (fun _ _=>rfl)) (pv 12)) (pv 8)) (lQ (km (nZ hr) (pv 2) (bU (ak (pv 3) (ak (pv 16) aj))) (fun _ _=>rfl)) (pv 12) set_list)⟩
     (bx ⟨dU (aR cg (pX bL (km (nZ hr) (pv 2) (bU (ak (pv 3) (ak (pv 16) aj))) (fun _ _=>rfl)) (pv 13)) (pv 8)) (lQ (km (nZ hr) (pv 2) (bU (ak (pv 3) (ak (pv 16) aj))) (fun _ _=>rfl)) (pv 13) set_list)⟩)))⟩))))))⟩
   (bx (fj ⟨bU (ak (pv 2) (ak gn aj))⟩))))) ?_
  refine aB (aV ?_);refine fun fo Bz=>?_;refine aH ?_;dsimp only
  have d0:Lts fo H (upd H fo (.dT [])) (fun _ _=>False) (hl ps []) []:=⟨Same.upd Bz,Bz,aa,fun _ _ z=>z.elim,fun _ _ _=>rfl,fun _ _ _ _ _ z=>(by cases z),fun _ _ _ z=>(by cases z),List.nodup_nil,fun k hk=>(by cases hk)⟩
  generalize upd H fo (.dT [])=H1 at d0⊢;refine aB ?_;refine⟨_,rfl,ap,xp,rfl,SqT.of (d0.sm _ _ rp.e),?_⟩;refine ZT.for_enum true (xs:=xp) (fun i σ Hc=>∃x3 x4 x5 x6 x7 x8 x9 fg da de hJ hU hV hX Zs,σ=[some (.ref ap),some (.ref ag),some (.ref fo),x3,x4,x5,x6,x7,x8,x9,fg,da,de,hJ,hU,hV,hX]/\Lts fo H Hc (fun n y=>dom ps n y/\n<i) (hl ps []) Zs/\Zs.length<=20*i) ?_ ?_ ?_ ?_
  .exact⟨none,none,none,none,none,none,none,none,none,none,none,none,none,none,[],rfl,⟨d0.sm,d0.nf,d0.e,fun n y z=>by
    have:=z.1.1;have:=z.2
    lia,fun n y _=>rfl,d0.i,d0.fr,d0.kd,fun k hk=>(by cases hk)⟩,zA3 _⟩
  .rintro i σ Hc hi ⟨x3,x4,x5,x6,x7,x8,x9,fg,da,de,hJ,hU,hV,hX,Zs,rfl,dt,lk⟩;exact SqT.of (dt.sm _ _ rp.e)
  .rintro i x σ Hc T0 hx ⟨x3,x4,x5,x6,x7,x8,x9,fg,da,de,hJ,hU,hV,hX,Zs,rfl,dt,lk⟩ nT
   have hi:i<ps.length:=by
    have:=(zAa.mp hx).1;rw[rp.l]at this;exact this
   obtain⟨tr,kN,gs⟩:=rp.g i ps[i] (zA0 hi)
   have:x=.ref tr:=by
    rw[hx]at kN;exact zAl kN
   subst this;have op:=cm ps[i] (zAh hi)
   have ep:ps.getD ((i:Int)).toNat []=ps[i]:=by
    rw[zAi];exact getD_get hi
   have dT:=dt.same (Same.upd (o:=.tup [V.int i,V.ref tr]) nT);generalize R6:ps[i]=p at gs op ep;have uj:=dT.sm _ _ gs;rw[six_row op.1]at uj;have NG:=op;obtain⟨_,⟨a1,a2⟩,_,⟨c1,c2,c3⟩,⟨e1,e2⟩,_⟩:=op;refine⟨T0,_,rfl,SqT.of aa,rfl,_,_,rfl,_,_,rfl,?_⟩;refine⟨tr,_,rfl,SqT.of uj,rfl,_,_,rfl,_,_,rfl,_,_,rfl,_,_,rfl,_,_,rfl,_,_,rfl,rfl,rfl,?_⟩;refine rd_E fun De zI=>?_;refine⟨_,rfl,_,rfl,_,_,rfl,rfl,fl p 2,fl p 3+1,rfl,⟨Zz,Zz,Zz,Zz⟩,?_⟩;generalize upd Hc T0 (.tup [V.int i,V.ref tr])=H2 at dT⊢;refine ju (lo:=fl p 2) (n:=(fl p 3+1-fl p 2).toNat) (fun j σ Hj=>∃fg Zs,σ=[some (.ref ap),some (.ref ag),some (.ref fo),some (.int i),some (.int (fl p 0)),some (.int (fl p 1)),some (.int (fl p 2)),some (.int (fl p 3)),some (.int (fl p 4)),some (.int (fl p 5)),fg,da,de,hJ,hU,hV,hX]/\Lts fo H Hj (fun n y=>dom ps n y/\(n<i\/(n=i/\y<fl p 2+j))) (hl ps []) Zs/\Zs.length<=20*i+j) ?_ ?_ ?_
   .refine⟨fg,Zs,rfl,⟨dT.sm,dT.nf,dT.e,fun n y z=>dT.g n y ⟨z.1,?_⟩,fun n y z=>dT.no n y fun z'=>z ⟨z'.1,.inl z'.2⟩,dT.i,dT.fr,dT.kd,fun k hk=>?_⟩,lk⟩
    .rcases z.2 with z2|⟨z2,z3⟩
     .exact z2
     .obtain⟨_,_,w1,_⟩:=z.1;rw[z2,ep]at w1;lia
    .obtain⟨n,y,a,b⟩:=dT.kk k hk;exact⟨n,y,a,b.1,.inl b.2⟩
   .rintro j σ Hj hj ⟨fg,Zs,rfl,dj,lj⟩;refine aH ?_;refine rd_E fun NH nI=>?_;refine⟨8,rfl,by decide,by decide,cV 8 (fun i ys σ Hc=>Hc=Hj/\(∃o1,σ=[o1,some (.int (fl p 4)),some (.int (fl p 0))])/\ys=(((List.range i).map fun i=>fl p 4*(if((i:Nat):Int)=fl p 0 then 1 else 0)):List Int).map V.int) ⟨rfl,⟨_,rfl⟩,rfl⟩ (by rw[sizeLine_eq];decide) ?_ ?_⟩
    .rintro i' ys σ Hc kH hy ⟨rfl,⟨o1,rfl⟩,rfl⟩;refine⟨kH,fun v H' y' R hR=>?_⟩;obtain⟨rfl,rfl⟩:=y';refine aH ?_;have z0:(0:Int)+(i':Int)=i':=Zz
     rw[z0];refine⟨_,rfl,_,rfl,_,rfl,rfl,.inr ⟨_,rfl,_,_,rfl,rfl,.inl ⟨Zz,Zz⟩,hR _ _ _ ⟨rfl,⟨_,rfl⟩,?_⟩⟩⟩;rw[List.range_succ,zA4,zA4];congr 1;show[V.int _]=[V.int _];congr 2;dsimp only;by_cases hh:(i':Int)=fl p 0
     .rw[zB3 hh,zAu (by rw[hh])];rfl
     .rw[zB0 hh,zAy (fun z=>hh (by injection z))];rfl
    rintro ys σ Hc hy ⟨rfl,_,rfl⟩;refine⟨zA3 _,fun d hd=>?_⟩;have ud:=Same.upd (o:=.lst ((Cy p).map V.int)) hd;have ed:=aa (H:=Hc) (a:=d) (o:=.lst ((Cy p).map V.int));refine⟨_,rfl,_,rfl,_,rfl,zL,fun t ht=>⟨fo,_,rfl,DPut.t (k:=ky i (fl p 2+j)) (Same.upd ht _ _ (ud _ _ dj.e)) aa Zu,?_⟩⟩;have u2:=ud.updR (o:=.tup [V.int i,V.int (fl p 2+j)]) ht
    refine nI _ _ ⟨_,_,rfl,dj.put u2 hd (Same.upd ht _ _ ed) (FZ (by rw[ep];exact NG) (by rw[ep];lia) |>.trans (by rw[ep])) (fun z=>by
     rcases z.2 with z2|⟨z2,z3⟩<;>lia) (fun n y=>⟨fun z=>?_,fun z=>?_⟩),?_⟩
    .rcases z.2 with z2|⟨z2,z3⟩
     .exact .inl ⟨z.1,.inl z2⟩
     .by_cases NI:y=fl p 2+j
      .exact .inr ⟨z2,NI⟩
      .exact .inl ⟨z.1,.inr ⟨z2,Zz⟩⟩
    .rcases z with z|⟨rfl,rfl⟩
     .exact⟨z.1,z.2.imp id fun w=>⟨w.1,Zz⟩⟩
     .exact⟨⟨Zz,Zz,by rw[ep];lia,by rw[ep];lia⟩,.inr ⟨rfl,Zz⟩⟩
    .rw[oh _ (dj.no _ _ fun z=>by rcases z.2 with z2|⟨z2,z3⟩<;>lia),zA2];show Zs.length+1<=20*i+(j+1);lia
   .rintro σ Hj ⟨fg,Zs,rfl,dj,lj⟩;refine zI _ _ ⟨_,_,_,_,_,_,_,_,_,_,_,_,_,_,Zs,rfl,⟨dj.sm,dj.nf,dj.e,fun n y z=>dj.g n y ⟨z.1,?_⟩,fun n y z=>dj.no n y fun z'=>z ⟨z'.1,?_⟩,dj.i,dj.fr,dj.kd,fun k hk=>?_⟩,Zz⟩
    .by_cases hn:n<i
     .exact .inl hn
     .have rL:n=i:=Zz
      refine .inr ⟨rL,?_⟩;obtain⟨_,_,_,w⟩:=z.1;rw[rL,ep]at w;lia
    .rcases z'.2 with w|⟨w,_⟩<;>lia
    .obtain⟨n,y,a,b⟩:=dj.kk k hk;refine⟨n,y,a,b.1,?_⟩;rcases b.2 with w|⟨w,_⟩<;>lia
  rintro σ Hc ⟨x3,x4,x5,x6,x7,x8,x9,fg,da,de,hJ,hU,hV,hX,kvs0,rfl,dt,lk⟩
  have EG:Lts fo H Hc (dom ps) (hl ps []) kvs0:=⟨dt.sm,dt.nf,dt.e,fun n y z=>dt.g n y ⟨z,by rw[rp.l];exact z.2.1⟩,fun n y z=>dt.no n y fun w=>z w.1,dt.i,dt.fr,dt.kd,fun k hk=>by
   obtain⟨n,y,a,b⟩:=dt.kk k hk
   exact⟨n,y,a,b.1⟩⟩
  have R7:kvs0.length<=200:=by
   rw[rp.l]at lk;lia
  clear dt lk d0;dsimp only;refine aB ?_;refine⟨_,rfl,ag,xs,rfl,SqT.of (EG.sm _ _ rs.e),?_⟩;refine ZT.for_enum true (xs:=xs) (fun i σ Hc=>∃x3 x4 x5 x6 x7 x8 x9 fg da de hJ hU hV hX,σ=[some (.ref ap),some (.ref ag),some (.ref fo),x3,x4,x5,x6,x7,x8,x9,fg,da,de,hJ,hU,hV,hX]/\Lts fo H Hc (dom ps) (hl ps (ss.take i)) kvs0/\∀j,j<i->cJ ps (ss.take j) (ss.getD j [])=true) ?_ ?_ ?_ ?_
  .exact⟨_,_,_,_,_,_,_,_,_,_,_,_,_,_,rfl,by rw[List.take_zero];exact EG,fun j hj=>Zz⟩
  .rintro i σ Hc hi ⟨x3,x4,x5,x6,x7,x8,x9,fg,da,de,hJ,hU,hV,hX,rfl,dt,hh⟩;exact SqT.of (dt.sm _ _ rs.e)
  .clear EG;rintro i x σ Hc T0 hx ⟨x3,x4,x5,x6,x7,x8,x9,fg,da,de,hJ,hU,hV,hX,rfl,dt,hh⟩ nT
   have hi:i<ss.length:=by
    have:=(zAa.mp hx).1;rw[rs.l]at this;exact this
   obtain⟨tr,kN,gs⟩:=rs.g i ss[i] (zA0 hi)
   have:x=.ref tr:=by
    rw[hx]at kN;exact zAl kN
   subst this;have eg:ss.getD i []=ss[i]:=getD_get hi
   have oj:ss.take (i+1)=ss.take i++[ss[i]]:=by
    rw[zAj,zA0 hi];rfl
   have l5:=h5 _ (zAh hi);have dT:=dt.same (Same.upd (o:=.tup [V.int i,V.ref tr]) nT);have uj:=dT.sm _ _ gs;generalize R8:ss[i]=s at eg oj l5 uj;generalize NJ:ss.take i=sa at dT oj;have hH:cJ ps sa s=cJ ps (ss.take i) (ss.getD i []):=by rw[NJ,eg]
   obtain⟨n,ea⟩:∃n,fl s 0=n:=⟨_,rfl⟩
   obtain⟨a,eb⟩:∃n,fl s 1=n:=⟨_,rfl⟩
   obtain⟨b,ec⟩:∃n,fl s 2=n:=⟨_,rfl⟩
   obtain⟨k,ed⟩:∃n,fl s 3=n:=⟨_,rfl⟩
   obtain⟨y,ee⟩:∃n,fl s 4=n:=⟨_,rfl⟩
   have IZ:upd Hc T0 (.tup [V.int i,V.ref tr]) tr=some (.tup [.int n,.int a,.int b,.int k,.int y]):=by
    rw[uj,lB l5,ea,eb,ec,ed,ee];rfl
   refine⟨T0,_,rfl,SqT.of aa,rfl,_,_,rfl,_,_,rfl,?_⟩;refine⟨tr,_,rfl,SqT.of IZ,rfl,_,_,rfl,_,_,rfl,_,_,rfl,_,_,rfl,_,_,rfl,rfl,rfl,?_⟩;generalize upd Hc T0 (.tup [V.int i,V.ref tr])=H2 at dT⊢;clear dt nT uj IZ gs
   have bad:∀{Hd:Hp},Same H Hd->cJ ps sa s=false->∀t,Hd t=none->Q (.ref t) (upd Hd t (.tup [.ref fo,.int i])):=fun{Hd} sd hf t ht=>by
    have eu:un ps ss=some i:=xO hh hi (by rw[<-hH];exact hf);refine q t fo _ (sd.updR ht) (by rw[aa,eu];rfl) fun z=>?_;rw[eu]at z;cases z
   have Jn:=holds_iff (ps:=ps) (sa:=sa) ea eb ec ed ee
   have hZ:¬((dom ps n y/\(0<=a/\a<8)/\(0<=b/\b<8)/\a≠b/\(1<=k/\k<=99))/\∀z,dom ps n z->y<=z->k<=(hl ps sa n z).getD a.toNat 0)->cJ ps sa s=false:=fun h=>by
    cases z:cJ ps sa s with
    |false=>rfl
    |true=>exact absurd (Jn.mp z) h
   refine aB ?_;refine⟨_,rfl,_,rfl,rfl,_,rfl,?_⟩;by_cases BF:a=b
   .rw[zAu (by rw[BF])];exact aY (aY ⟨_,rfl,_,rfl,zL,fun t ht=>bad dT.sm (hZ fun h=>h.1.2.2.2.1 BF) t ht⟩)
   rw[zAy (fun z=>BF (by injection z))];refine aW ⟨_,rfl,_,rfl,_,_,rfl,_,_,rfl,rfl,_,rfl,?_⟩;by_cases kP:(if b<a then b else a)<0
   .rw[zAu kP];refine aY (aY ⟨_,rfl,_,rfl,zL,fun t ht=>bad dT.sm (hZ fun h=>?_) t ht⟩);have:=h.1.2.1;have:=h.1.2.2.1;split at kP<;>lia
   rw[zAy kP];refine aW ⟨_,rfl,_,rfl,_,_,rfl,_,_,rfl,rfl,_,rfl,?_⟩;by_cases kQ:(if b>a then b else a)>7
   .rw[zAu kQ];refine aY (aY ⟨_,rfl,_,rfl,zL,fun t ht=>bad dT.sm (hZ fun h=>?_) t ht⟩);have:=h.1.2.1;have:=h.1.2.2.1;split at kQ<;>lia
   rw[zAy kQ];have ha:0<=a/\a<8:=by split at kP<;>split at kQ<;>lia
   have hb:0<=b/\b<8:=by split at kP<;>split at kQ<;>lia
   refine aW ⟨_,rfl,_,rfl,zL,fun tk ny=>?_⟩;have dK:=dT.same (Same.upd (o:=.tup [V.int n,V.int y]) ny);refine⟨_,rfl,fo,_,rfl,DGet.t (k:=ky n y) dK.e aa,_,rfl,?_⟩;generalize upd H2 tk (.tup [V.int n,V.int y])=H3 at dK⊢;by_cases hd:¬dom ps n y
   .rw[dK.no n y hd];exact aY ⟨_,rfl,_,rfl,zL,fun t ht=>bad dK.sm (hZ fun h=>hd h.1.1) t ht⟩
   have hd:=Classical.not_not.mp hd;obtain⟨d1,v1,_⟩:=dK.g n y hd;rw[v1];refine aW (bB ?_);dsimp only;clear v1 dT ny;refine aB ?_;refine⟨fo,kvs0,dK.e,fun ob=>?_⟩;have ez:=aa (H:=H3) (a:=fo) (o:=.frz ob (.dT kvs0))
   have kz:∀b u,b≠fo->H3 b=some u->upd H3 fo (.frz ob (.dT kvs0)) b=some u:=fun b u n e=>by
    rw[aq n];exact e
   generalize upd H3 fo (.frz ob (.dT kvs0))=Hz at ez kz⊢;refine⟨_,rfl,fo,ob,_,rfl,ez,oX kvs0.length (fun j ys σ Hd=>Same Hz Hd/\(∃o1 o2,σ=[o1,o2,some (.int n),some (.int y)])/\ys=((kvs0.take j).filterMap (yk n y)).map V.int) ⟨Same.refl _,⟨_,_,rfl⟩,rfl⟩ Zu ?_ ?_⟩
   .rintro j ys σ Hd hj hy ⟨sd,⟨o1,o2,rfl⟩,rfl⟩;refine⟨⟨sd _ _ ez,hj⟩,fun x H' yv R hR=>?_⟩;obtain⟨rfl,bb,kk,vv,rfl,JA,EH⟩:=yv;obtain⟨n',z',rfl,sj⟩:=dK.kk kk (zA5.mpr ⟨(kk,vv),zB6 JA,rfl⟩);have EH:H' bb=some (.tup [.int n',.int z']):=EH
    have EI:(kvs0.take (j+1)).filterMap (yk n y)=(kvs0.take j).filterMap (yk n y)++(if n'=n/\y<=z' then[z']else[]):=by
     rw[zAj,JA,List.filterMap_append];congr 1;have e0:yk n y (ky n' z',vv)=if n'=n/\y<=z' then some z' else none:=rfl;show[(ky n' z',vv)].filterMap (yk n y)=_;rw[List.filterMap_cons,e0];by_cases hc:n'=n/\y<=z'
     .rw[zB3 hc,zB3 hc];rfl
     .rw[zB0 hc,zB0 hc];rfl
    refine⟨bb,_,rfl,SqT.of EH,rfl,_,_,rfl,_,_,rfl,rfl,?_⟩;refine⟨_,rfl,_,rfl,rfl,_,rfl,?_⟩;by_cases h1:n'=n
    .rw[zAu (by rw[h1])];refine aY ⟨_,rfl,_,rfl,_,_,rfl,rfl,_,rfl,?_⟩;by_cases h2:z'≥y
     .rw[zAu h2];refine aY ⟨_,rfl,hR _ _ _ (by rw[zA2];show _+1<=j+1;lia) ⟨sd,⟨_,_,rfl⟩,?_⟩⟩;rw[EI,zB3 ⟨h1,h2⟩,zA4];rfl
     .rw[zAy h2];refine aW (hR _ _ _ Zz ⟨sd,⟨_,_,rfl⟩,?_⟩);rw[EI,zB0 (fun w=>h2 w.2),zAn]
    .rw[zAy (fun z=>h1 (by injection z))];refine aW (aW (hR _ _ _ Zz ⟨sd,⟨_,_,rfl⟩,?_⟩));rw[EI,zB0 (fun w=>h1 w.1),zAn]
   rintro ys σ Hd hy ⟨sd,_,rfl⟩;rw[zAm];refine⟨⟨sd _ _ ez,zA3 _⟩,fun Ly mS=>⟨Same.upd mS _ _ (sd _ _ ez),?_⟩⟩
   obtain⟨zs,zS⟩:∃zs,zs=kvs0.filterMap (yk n y):=⟨_,rfl⟩
   have so:∀z,z∈zs↔dom ps n z/\y<=z:=fun z=>by
    rw[zS,List.mem_filterMap];constructor
    .rintro⟨⟨kk,vv⟩,hp,e⟩;obtain⟨n',z',rfl,sj⟩:=dK.kk kk (zA5.mpr ⟨_,hp,rfl⟩);have e:(if n'=n/\y<=z' then some z' else none)=some z:=e;by_cases hc:n'=n/\y<=z'
     .rw[zB3 hc]at e;cases e;obtain⟨rfl,h2⟩:=hc;exact⟨sj,h2⟩
     .rw[zB0 hc]at e;cases e
    .rintro⟨h1,h2⟩;obtain⟨d,v,_⟩:=dK.g n z h1
     have:(ky n z)∈kvs0.map (·.1):=by
      have hs:(dF kvs0 (ky n z)).isSome=true:=by rw[v];rfl
      rw[<-gq,List.any_eq_true]at hs;obtain⟨p,hp,e⟩:=hs;exact zA5.mpr ⟨p,hp,zB8 e⟩
     obtain⟨p,hp,e⟩:=zA5.mp this;refine⟨p,hp,?_⟩;unfold yk;rw[show p.1=ky n z from e];show(if n=n/\y<=z then some z else none)=some z;rw[zB3 ⟨rfl,h2⟩]
   have NK:zs.Nodup:=by
    rw[zS]
    have:∀{l:List (List Key×V)},(l.map (·.1)).Nodup->(∀k∈l.map (·.1),∃n y,k=ky n y)->(l.filterMap (yk n y)).Nodup:=fun{l}=>by
     induction l with
     |nil=>exact fun _ _=>List.nodup_nil
     |cons p l ih=>
      intro nd kk;rw[zAk,List.nodup_cons]at nd
      have i1:=ih nd.2 fun k hk=>kk k (zA5.mpr (by
       obtain⟨q,hq,e⟩:=zA5.mp hk
       exact⟨q,.tail _ hq,e⟩))
      rw[List.filterMap_cons];obtain⟨n',z',e'⟩:=kk p.1 (zA5.mpr ⟨p,.head _,rfl⟩)
      cases e:yk n y p with
      |none=>exact i1
      |some z=>
       refine List.nodup_cons.mpr ⟨fun hm=>?_,i1⟩;obtain⟨q,hq,eq⟩:=List.mem_filterMap.mp hm;obtain⟨n2,z2,e2⟩:=kk q.1 (zA5.mpr ⟨q,.tail _ hq,rfl⟩)
       have key:∀{r:List Key×V} {n3 z3 z:Int},r.1=ky n3 z3->yk n y r=some z->n3=n/\z3=z:=fun{r n3 z3 z} h1 h2=>by
        unfold yk at h2;rw[h1]at h2;have h2:(if n3=n/\y<=z3 then some z3 else none)=some z:=h2;by_cases hc:n3=n/\y<=z3
        .rw[zB3 hc]at h2;cases h2;exact⟨hc.1,rfl⟩
        .rw[zB0 hc]at h2;cases h2
       obtain⟨w1,w2⟩:=key e' e;obtain⟨w3,w4⟩:=key e2 eq;exact nd.1 (zA5.mpr ⟨q,hq,by show q.1=p.1;rw[e',e2,w1,w2,w3,w4]⟩)
    exact this dK.kd fun k hk=>by
     obtain⟨n,y,a,_⟩:=dK.kk k hk;exact⟨n,y,a⟩
   have R9:zs.length<=200:=by
    rw[zS];have:=List.length_filterMap_le (yk n y) kvs0;lia
   rw[<-zS]
   have nD:Ly≠fo:=fun z=>by rw[z,sd _ _ ez]at mS;cases mS
   have S6:Same H3 (upd (upd Hd Ly (.lst (zs.map V.int))) fo (.dT kvs0)):=fun b u e=>by
    by_cases uk:b=fo
    .subst uk;rw[dK.e]at e;cases e;exact aa
    .rw[aq uk];exact Same.upd mS _ _ (sd _ _ (kz _ _ uk e))
   have sv:upd (upd Hd Ly (.lst (zs.map V.int))) fo (.dT kvs0) Ly=some (.lst (zs.map V.int)):=by rw[aq nD];exact aa
   have d6:=dK.same S6
   have NM:H Ly=none:=by
    cases z:H Ly with
    |none=>rfl
    |some o=>
     by_cases uk:Ly=fo
     .exact absurd uk nD
     .rw[sd _ _ (kz _ _ uk (dK.sm _ _ z))]at mS;cases mS
   have EJ:∀m z d,dF kvs0 (ky m z)=some (.ref d)->d≠Ly:=fun m z d hv w=>by
    by_cases hm:dom ps m z
    .obtain⟨d',q1,q2⟩:=dK.g m z hm;rw[hv]at q1;cases q1;rw[w]at q2;rw[sd _ _ (kz _ _ nD q2)]at mS;cases mS
    .rw[dK.no m z hm]at hv;cases hv
   generalize upd (upd Hd Ly (.lst (zs.map V.int))) fo (.dT kvs0)=H6 at S6 sv d6⊢;clear S6 dK mS sd ez kz hy zS;dsimp only;refine aB (aV ?_);refine⟨_,rfl,Ly,rfl,⟨_,SqL.of sv⟩,cV zs.length (fun j ys σ Hc=>Same H6 Hc/\(∃o1,σ=[o1,some (.ref fo),some (.int n),some (.int a)])/\ys=(((zs.take j).map fun z=>(hl ps sa n z).getD a.toNat 0):List Int).map V.int) ⟨Same.refl _,⟨_,rfl⟩,rfl⟩ Zu ?_ ?_⟩
   .rintro j ys σ Hc hj hy ⟨sc,⟨o1,rfl⟩,rfl⟩;have ex:(zs.map V.int)[j]?=some (.int zs[j]):=by rw[zAb,zA0 hj];rfl
    refine⟨⟨_,_,SqL.of (sc _ _ sv),ex⟩,fun v H' y' R hR=>?_⟩;obtain⟨rfl,y'⟩:=y';have hv:=y' _ (SqL.of (sc _ _ sv));rw[ex]at hv;cases hv;refine aH ?_;obtain⟨sj,_⟩:=(so zs[j]).mp (zAh hj);obtain⟨d,v1,v2⟩:=(d6.same sc).g n zs[j] sj;refine⟨_,rfl,_,rfl,_,rfl,zL,fun tk ny=>?_⟩;have u:=Same.upd (o:=.tup [V.int n,V.int zs[j]]) ny
    have mP:atI ((hl ps sa n zs[j]).map V.int) a=some (.int ((hl ps sa n zs[j]).getD a.toNat 0)):=by
     have Sa:=Cz ps sa n zs[j]
     have:((hl ps sa n zs[j]).map V.int)[a.toNat]?=some (.int ((hl ps sa n zs[j]).getD a.toNat 0)):=by
      rw[zAb,zA7,zA0 Zz];rfl
     have:=eF this;rw[show((a.toNat:Nat):Int)=a by lia]at this;exact this
    refine⟨fo,.ref d,rfl,v1▸DGet.t (k:=ky n zs[j]) (u _ _ (sc _ _ d6.e)) aa,_,rfl,d,_,a,_,rfl,rfl,SqL.of (u _ _ v2),mP,hR _ _ _ ⟨sc.updR ny,⟨_,rfl⟩,?_⟩⟩;rw[zAj,zA0 hj,zA4,zA4];rfl
   rintro ys σ Hc hy ⟨sc,_,rfl⟩;rw[zAm];refine⟨⟨_,SqL.of (sc _ _ sv),by rw[zA1];exact zA3 _⟩,fun D hD=>⟨D,_,rfl,SqL.of aa,?_,fun M hM NN=>aH ?_⟩⟩
   .have:=(so y).mpr ⟨hd,Int.le_refl _⟩;intro z;rw[List.map_eq_nil_iff]at z;rw[z]at this;cases this
   have d7:=(d6.same sc).same (Same.upd (o:=.lst (((zs.map fun z=>(hl ps sa n z).getD a.toNat 0):List Int).map V.int)) hD);have sx:=Same.upd (o:=.lst (((zs.map fun z=>(hl ps sa n z).getD a.toNat 0):List Int).map V.int)) hD _ _ (sc _ _ sv);generalize upd Hc D (.lst (((zs.map fun z=>(hl ps sa n z).getD a.toNat 0):List Int).map V.int))=H7 at d7 sx⊢;clear d6 sc hD sv hy;dsimp only;refine aB ?_;refine cQ (p:=fun i j=>decide (i<=j)) (q:=fun i j=>decide (i<=j)) (i:=1) (j:=k) (k:=99) gh (gr rfl) gh _ ⟨_,rfl,?_⟩;dsimp only
   cases ek:(decide (1<=k)&&decide (k<=99))with
   |false=>
    refine aY (aY ⟨_,rfl,_,rfl,zL,fun t ht=>bad d7.sm (hZ fun h=>?_) t ht⟩);rw[zAu h.1.2.2.2.2.1,zAu h.1.2.2.2.2.2]at ek;cases ek
   |true=>
   obtain⟨k1,k2⟩:=Bool.and_eq_true_iff.mp ek;have k1:=zB8 k1;have k2:=zB8 k2;refine aW ⟨_,rfl,_,rfl,_,_,rfl,rfl,_,rfl,?_⟩;by_cases JE:M<k
   .rw[zAu JE];refine aY ⟨_,rfl,_,rfl,zL,fun t ht=>bad d7.sm (hZ fun h=>?_) t ht⟩;obtain⟨z,hz,rfl⟩:=zA5.mp hM;have:=h.2 z ((so z).mp hz).1 ((so z).mp hz).2;lia
   rw[decide_eq_false JE];refine aW (bB ?_);dsimp only
   have good:cJ ps sa s=true:=Jn.mpr ⟨⟨hd,ha,hb,BF,k1,k2⟩,fun z h1 h2=>by
    have:=NN _ (zA5.mpr ⟨z,(so z).mpr ⟨h1,h2⟩,rfl⟩)
    lia⟩
   clear bad hZ
   have Sb:∀(j:Nat),∃fm:Int->Int->List Int,fm=fun n' z'=>if n'=n/\z'∈zs.take j then hstep n z' (hl ps sa n z') s else hl ps sa n' z':=fun j=>⟨_,rfl⟩
   refine⟨_,rfl,Ly,rfl,⟨_,SqL.of sx⟩,?_⟩;refine nQ (xs:=zs.map V.int) (fun j σ Hd=>∃hX,σ=[some (.ref ap),some (.ref ag),some (.ref fo),some (.int n),x4,x5,x6,x7,some (.int k),x9,some (.int y),some (.int i),some (.int a),some (.int b),some (.ref Ly),some (.int M),hX]/\Lts fo H Hd (dom ps) (fun n' z'=>if n'=n/\z'∈zs.take j then hstep n z' (hl ps sa n z') s else hl ps sa n' z') kvs0/\Hd Ly=some (.lst (zs.map V.int))) ?_ ?_ ?_ ?_
   .refine⟨_,rfl,d7.cast fun n' z' _=>?_,sx⟩;rw[List.take_zero,zB0 (fun w=>by cases w.2)]
   .rintro j σ Hd hj ⟨hX,rfl,dj,eL⟩;exact SqL.of eL
   .rintro j v σ Hd hv ⟨hX,rfl,dj,eL⟩
    have hj:j<zs.length:=by
     have:=(zAa.mp hv).1;rw[zA1]at this;exact this
    have ev:v=.int zs[j]:=by
     rw[zAb,zA0 hj]at hv;exact(zAl hv).symm
    subst ev;obtain⟨sj,nX⟩:=(so zs[j]).mp (zAh hj)
    have tS:¬(zs[j]∈zs.take j):=fun hm=>by
     obtain⟨j',JI,e⟩:=List.getElem_of_mem hm;rw[zAd]at JI;rw[List.getElem_take]at e;exact List.pairwise_iff_getElem.mp NK j' j Zz hj Zz e
    generalize hz:zs[j]=z at sj nX tS⊢
    obtain⟨L,EK⟩:∃L,L=hl ps sa n z:=⟨_,rfl⟩
    have l8:L.length=8:=by rw[EK];exact Cz _ _ _ _
    obtain⟨d,v1,v2⟩:=dj.g n z sj;rw[zB0 (fun w=>tS w.2),<-EK]at v2;have JJ:=EJ n z d v1
    have ui:∀{c:Int} {L:List Int},L.length=8->0<=c/\c<8->ixN (L.map V.int).length c=some c.toNat/\atI (L.map V.int) c=some (.int (L.getD c.toNat 0)):=fun{c L} l8 hc=>by
     refine⟨?_,?_⟩
     .unfold ixN;rw[zA1,l8,zB3 hc.1,zB3 Zz]
     .have:(L.map V.int)[c.toNat]?=some (.int (L.getD c.toNat 0)):=by
       rw[zAb,zA7,zA0 Zz];rfl
      have:=eF this;rw[show((c.toNat:Nat):Int)=c by lia]at this;exact this
    refine aH ?_;refine rd_E fun De zI=>?_;refine aB (aV ?_);refine⟨_,rfl,_,rfl,_,rfl,zL,fun t1 h1=>?_⟩;have w1:=Same.upd (o:=.tup [V.int n,V.int z]) h1;refine⟨fo,.ref d,rfl,v1▸DGet.t (k:=ky n z) (w1 _ _ dj.e) aa,_,rfl,d,_,a,_,rfl,rfl,SqL.of (w1 _ _ v2),(ui l8 ha).2,_,rfl,_,_,rfl,rfl,?_⟩;have d1:=dj.same w1;have EL:=w1 _ _ v2;have uu:=w1 _ _ eL;generalize upd Hd t1 (.tup [V.int n,V.int z])=Ha at d1 EL uu⊢;refine⟨_,rfl,_,rfl,_,rfl,zL,fun t2 h2=>?_⟩;have w2:=Same.upd (o:=.tup [V.int n,V.int z]) h2;refine⟨fo,.ref d,rfl,v1▸DGet.t (k:=ky n z) (w2 _ _ d1.e) aa,_,rfl,d,_,a,_,rfl,rfl,w2 _ _ EL,(ui l8 ha).1,?_⟩;have d2:=d1.same w2;have oo:=w2 _ _ uu;generalize upd Ha t2 (.tup [V.int n,V.int z])=Hb at d2 oo⊢;rw[show(L.map V.int).set a.toNat (.int (L.getD a.toNat 0-k))=(jF L a (-k)).map V.int by unfold jF;rw[List.map_set];rfl]
    obtain⟨L1,sC⟩:∃L1,L1=jF L a (-k):=⟨_,rfl⟩
    rw[<-sC];have JO:L1.length=8:=by rw[sC,lA];exact l8
    have d3:=d2.wr (f':=fun n' z'=>if n'=n/\z'=z then L1 else if n'=n/\z'∈zs.take j then hstep n z' (hl ps sa n z') s else hl ps sa n' z') (L:=L1) v1 (by rw[zB3 ⟨rfl,rfl⟩]) fun n' z' _ bp=>by rw[zB0 bp]
    have e3:=aa (H:=Hb) (a:=d) (o:=.lst (L1.map V.int));have lP:upd Hb d (.lst (L1.map V.int)) Ly=some (.lst (zs.map V.int)):=by rw[aq JJ.symm];exact oo
    generalize upd Hb d (.lst (L1.map V.int))=Hc at d3 e3 lP⊢;clear d1 d2 EL uu oo w1 w2 h1 h2 dj v2 eL;dsimp only;refine aV ?_;refine⟨_,rfl,_,rfl,_,rfl,zL,fun t1 h1=>?_⟩;have w1:=Same.upd (o:=.tup [V.int n,V.int z]) h1;refine⟨fo,.ref d,rfl,v1▸DGet.t (k:=ky n z) (w1 _ _ d3.e) aa,_,rfl,d,_,b,_,rfl,rfl,SqL.of (w1 _ _ e3),(ui JO hb).2,_,rfl,_,_,rfl,rfl,?_⟩;have d4:=d3.same w1;have e4:=w1 _ _ e3;have JU:=w1 _ _ lP;generalize upd Hc t1 (.tup [V.int n,V.int z])=Ha at d4 e4 JU⊢;refine⟨_,rfl,_,rfl,_,rfl,zL,fun t2 h2=>?_⟩;have w2:=Same.upd (o:=.tup [V.int n,V.int z]) h2;refine⟨fo,.ref d,rfl,v1▸DGet.t (k:=ky n z) (w2 _ _ d4.e) aa,_,rfl,d,_,b,_,rfl,rfl,w2 _ _ e4,(ui JO hb).1,?_⟩;have d5:=d4.same w2;have sD:=w2 _ _ JU;generalize upd Ha t2 (.tup [V.int n,V.int z])=Hb at d5 sD⊢;rw[show(L1.map V.int).set b.toNat (.int (L1.getD b.toNat 0+k))=(jF L1 b k).map V.int by unfold jF;rw[List.map_set]]
    have hs:hstep n z L s=jF L1 b k:=by
     unfold hstep;rw[ea,eb,ec,ed,ee,zB3 ⟨rfl,nX⟩,sC]
    refine zI _ _ ⟨_,rfl,d5.wr (L:=jF L1 b k) v1 ?_ fun n' z' _ bp=>?_,by rw[aq JJ.symm];exact sD⟩
    .rw[zB3 ⟨rfl,by rw[zAj,zA0 hj,hz];exact zA6.mpr (.inr (.head _))⟩,<-hs,EK]
    .rw[zB0 bp]
     have:(n'=n/\z'∈zs.take (j+1))↔(n'=n/\z'∈zs.take j):=by
      rw[zAj,zA0 hj,hz];constructor
      .rintro⟨g1,g2⟩;refine⟨g1,?_⟩;rcases zA6.mp g2 with w|w
       .exact w
       .exact absurd ⟨g1,List.mem_singleton.mp w⟩ bp
      .rintro⟨g1,g2⟩;exact⟨g1,zA6.mpr (.inl g2)⟩
     by_cases hc:n'=n/\z'∈zs.take j
     .rw[zB3 hc,zB3 (this.mpr hc)]
     .rw[zB0 hc,zB0 fun w=>hc (this.mp w)]
   .rintro σ Hd ⟨hX,rfl,dj,eL⟩;rw[zA1,zAm]at dj;refine⟨_,_,_,_,_,_,_,_,_,_,_,_,_,_,rfl,dj.cast fun n' z' tj=>?_,fun j' JI=>?_⟩
    .rw[oj,G3 tj];by_cases hc:n'=n/\z'∈zs
     .obtain⟨rfl,hc⟩:=hc;rw[zB3 ⟨rfl,hc⟩]
     .rw[zB0 hc];unfold hstep;rw[ea,ee,zB0 fun w=>hc ⟨w.1.symm,(so z').mpr ⟨by rw[w.1];exact tj,w.2⟩⟩]
    .by_cases aE:j'<i
     .exact hh j' aE
     .have:j'=i:=Zz
      rw[this,<-hH];exact good
  rintro σ Hc ⟨x3,x4,x5,x6,x7,x8,x9,fg,da,de,hJ,hU,hV,hX,rfl,dt,hh⟩;have hu:un ps ss=none:=xP fun j hj=>hh j (by rw[rs.l];exact hj);dsimp only;refine⟨_,rfl,zL,fun t ht=>?_⟩
  refine q t fo _ (dt.sm.updR ht) (by rw[aa,hu];rfl) fun _=>⟨kvs0,?_⟩
  have:=dt.same (Same.upd (o:=.tup [V.ref fo,V.non]) ht);rw[rs.l,zAm]at this;exact this
end K80
namespace K80Q
open PySem L2 K80P
def okC(r:List Int):Prop:=r.length=3/\∀x∈r,0<=x/\x<1000
def smR(s:List Int):Prop:=s.length=5/\∀i∈s,-10<=i/\i<=2000000
inductive SpClipsI(vs:List V)(H:Hp)(Q:VK):Prop
 |mk:∀st n,(vs=[.ref st,.int n])->(StAt H st)->(1<=n)->(n<=20)->(∀ac xc cs H',Dr st H H'->K80.RowsAt H' ac xc cs->1<=cs.length->(cs.length:Int)<=n->(∀r∈cs,okC r)->Q (.ref ac) H')->SpClipsI  vs H Q
def xR:Sp:=fun vs H Q _=>SpClipsI  vs H Q
inductive SpPromI(vs:List V)(H:Hp)(Q:VK):Prop
 |mk:∀st y,(vs=[.ref st,.int y])->(StAt H st)->(0<=y)->(y<=1000)->(∀t r H',Dr st H H'->H' t=some (.tup (r.map V.int))->K80.okP r->Q (.ref t) H')->SpPromI  vs H Q
def CG:Sp:=fun vs H Q _=>SpPromI  vs H Q
inductive SpSaleI(vs:List V)(H:Hp)(Q:VK):Prop
 |mk:∀st ap xp ps,(vs=[.ref st,.ref ap])->(StAt H st)->(K80.RowsAt H ap xp ps)->(ps.length<=10)->((∀r∈ps,K80.okP r))->(∀t s H',Dr st H H'->H' t=some (.tup (s.map V.int))->smR s->Q (.ref t) H')->SpSaleI  vs H Q
def CJ:Sp:=fun vs H Q _=>SpSaleI  vs H Q
inductive SpBookI(vs:List V)(H:Hp)(Q:VK):Prop
 |mk:∀(st:Addr) (y m:Int),(vs=[.ref st,.int y,.int m])->(StAt H st)->(1<=y)->(y<=20)->(0<=m)->(m<=10)->(∀a ac xc cs ap xp ps ag xs ss H',Dr st H H'->H' a=some (.tup [.ref ac,.ref ap,.ref ag])->K80.RowsAt H' ac xc cs->1<=cs.length->(cs.length:Int)<=y->(∀r∈cs,okC r)->K80.RowsAt H' ap xp ps->(ps.length:Int)<=m->(∀r∈ps,K80.okP r)->K80.RowsAt H' ag xs ss->ss.length<=6->(∀s∈ss,smR s)->K80.un ps ss=none->Q (.ref a) H')->SpBookI  vs H Q
def spBook:Sp:=fun vs H Q _=>SpBookI  vs H Q
theorem _root_.K80P.Dr.new{st p:Addr}{o:HO}{H H1:Hp}(g:Dr st H H1)(hp:H1 p=none):Dr st H (upd H1 p o):=g.same (Same.upd hp)
theorem _root_.K80P.Dr.rows{st a:Addr}{H H':Hp}{xs:List V}{rs:List (List Int)}(g:Dr st H H')(h0:StAt H st)(r:K80.RowsAt H a xs rs):K80.RowsAt H' a xs rs:=r.keep (g.tups h0)
theorem jk{X:Cx}{i j k:Int}{a b c p q r pos}:BE X (.List [.Constant (.int i) a p,.Constant (.int j) b q,.Constant (.int k) c r] pos) (vH (qw [i,j,k])):=⟨gU (kJ (.cons (.cons (.cons .nil))))⟩
section
variable{P:Program}{w:World}{K:Frag}{mg:Str->Option Value}{base:Heap}{f:Addr}{fd:FuncData}
theorem ndC:(["_law_year","_law_state_here","_law_wide"]:List Str).Nodup:=by decide +kernel
theorem scC:FnScope ["_law_state_here","_law_most","_law_wide","_law_many"] ["_law_state_here","_law_most"] (au (top 64)):=fQS
theorem ok_clips(F:Fun K "_law_clips" "_law_clips" (top 64) f fd)(T:Mg mg)(Tr:mg "range"=none)(c1:Cal P w K mg base 1 "_law_choice" ["_law_state_here","_law_many"] spChoice):FnOk P w K mg base CX0 2 f fd ["_law_state_here","_law_most"] xR:=by
 refine F.ok scC (fun vs H Q E h=>?_) (fun cdv A outer s H vs Q E hr h=>?_)
 .obtain⟨st,n,rfl,_⟩:=h;rfl
 .obtain⟨st,n,rfl,cn,n0,n1,q⟩:=h
  refine ok_b (aF (vO (i:=2) scC.nd rfl (Or.inr rfl) (uw bL (cN (aU jk (aU jk (aU jk (aU jk (aU jk bK)))))) ⟨aG c1 hr (ak (pv 0) (ak ao aj))⟩ (fun _ _=>rfl)))
   (aF ⟨pss 3 scC.nd (aR cg ao (aG c1 hr (ak (pv 0) (ak (pv 1) aj))))⟩
   (bx ⟨aO (bI bW rfl T.tuple boot_tuple (ak (bG ["_law_year","_law_state_here","_law_wide"] [none,some 0,some 2] rfl (gj rfl Tr (ak (pv 3) aj))
    (fun C fp Zt s₂ H₂=>⟨pgn 0 ndC,bJ,bI (oW (K:=K) rfl) rfl T.tuple boot_tuple (ak
     (bG ["_law_one","_law_state_here"] [none,some 1] rfl (Cu (K:=K) rfl (pv 2)) (fun C fp Zt s₂ H₂=>⟨bw (i:=0) (nd2 _ _ Zx) rfl (Or.inl rfl),bJ,aG c1 hr (ak (pv 1) (ak (pv 0) aj))⟩)
      (fun C=>cI trivial) ⟨rfl,rfl,rfl,rfl⟩) aj)⟩)
    (fun C=>cI (cI trivial)) ⟨rfl,rfl,rfl,rfl⟩) aj))⟩))) ?_
  refine aB (aV ?_);refine⟨zL,fun l1 h1=>⟨zL,fun l2 h2=>⟨zL,fun l3 h3=>⟨zL,fun l4 h4=>⟨zL,fun l5 h5=>⟨zL,fun L hL=>?_⟩⟩⟩⟩⟩⟩;have m1:=Same.upd (o:=.lst (([3,3,3]:List Int).map V.int)) h1;have m2:=Same.upd (o:=.lst (([12,30,30]:List Int).map V.int)) h2;have m3:=Same.upd (o:=.lst (([60,3,200]:List Int).map V.int)) h3;have m4:=Same.upd (o:=.lst (([1,1,1]:List Int).map V.int)) h4;have m5:=Same.upd (o:=.lst (([1000,1000,1000]:List Int).map V.int)) h5;have m6:=Same.upd (o:=.lst [V.ref l1,V.ref l2,V.ref l3,V.ref l4,V.ref l5]) hL;have f5:=m6 _ _ (aa (a:=l5) (o:=.lst (([1000,1000,1000]:List Int).map V.int)));have f4:=m6 _ _ (m5 _ _ (aa (a:=l4) (o:=.lst (([1,1,1]:List Int).map V.int))));have f3:=m6 _ _ (m5 _ _ (m4 _ _ (aa (a:=l3) (o:=.lst (([60,3,200]:List Int).map V.int)))));have f2:=m6 _ _ (m5 _ _ (m4 _ _ (m3 _ _ (aa (a:=l2) (o:=.lst (([12,30,30]:List Int).map V.int))))));have f1:=m6 _ _ (m5 _ _ (m4 _ _ (m3 _ _ (m2 _ _ (aa (a:=l1) (o:=.lst (([3,3,3]:List Int).map V.int)))))));have ms:=m1.trans (m2.trans (m3.trans (m4.trans (m5.trans m6))));have fL:upd (upd (upd (upd (upd (upd H l1 (.lst (([3,3,3]:List Int).map V.int))) l2 (.lst (([12,30,30]:List Int).map V.int))) l3 (.lst (([60,3,200]:List Int).map V.int))) l4 (.lst (([1,1,1]:List Int).map V.int))) l5 (.lst (([1000,1000,1000]:List Int).map V.int))) L (.lst [V.ref l1,V.ref l2,V.ref l3,V.ref l4,V.ref l5]) L=some (.lst [V.ref l1,V.ref l2,V.ref l3,V.ref l4,V.ref l5]):=aa
  have old:∀b o,H b=some o->b≠l1/\b≠l2/\b≠l3/\b≠l4/\b≠l5/\b≠L:=fun b o e=>⟨aA e h1,aA (m1 _ _ e) h2,aA (m2 _ _ (m1 _ _ e)) h3,aA (m3 _ _ (m2 _ _ (m1 _ _ e))) h4,aA (m4 _ _ (m3 _ _ (m2 _ _ (m1 _ _ e)))) h5,aA (m5 _ _ (m4 _ _ (m3 _ _ (m2 _ _ (m1 _ _ e))))) hL⟩
  obtain⟨a0,b0,c0,NO,_⟩:=id cn;obtain⟨v1,v2,v3,v4,v5,v6⟩:=old _ _ NO;generalize upd (upd (upd (upd (upd (upd H l1 _) l2 _) l3 _) l4 _) l5 _) L _=H1 at f1 f2 f3 f4 f5 fL ms⊢;clear m1 m2 m3 m4 m5 m6 h1 h2 h3 h4 h5 hL old
  have sF:StAt H1 st:=by
   obtain⟨a,b,c,e,h⟩:=cn;exact⟨a,b,c,ms _ _ e,h⟩
  have g1:Dr st H H1:=⟨fun b o e _=>ms _ _ e,sF⟩
  refine⟨_,rfl,st,5,rfl,sF,by decide,by decide,fun r a b c r0 r1 a0 b0 b1=>?_⟩
  have Ap:∃wd ws,([V.ref l1,V.ref l2,V.ref l3,V.ref l4,V.ref l5]:List V)[r.toNat]?=some (.ref wd)/\H1 wd=some (.lst ((ws:List Int).map V.int))/\wd≠st/\ws.length=3/\∀x∈ws,1<=x/\x<=1000:=by
   have:r.toNat=0\/r.toNat=1\/r.toNat=2\/r.toNat=3\/r.toNat=4:=Zz
   rcases this with z|z|z|z|z<;>rw[z]
   .exact⟨l1,_,rfl,f1,v1.symm,rfl,by decide⟩
   .exact⟨l2,_,rfl,f2,v2.symm,rfl,by decide⟩
   .exact⟨l3,_,rfl,f3,v3.symm,rfl,by decide⟩
   .exact⟨l4,_,rfl,f4,v4.symm,rfl,by decide⟩
   .exact⟨l5,_,rfl,f5,v5.symm,rfl,by decide⟩
  obtain⟨wd,ws,ei,JY,As,NP,bws⟩:=Ap;have g2:Dr st H (upd H1 st (.lst [.int a,.int b,.int c])):=g1.draw a0 b0 b1;refine⟨L,_,r,.ref wd,rfl,rfl,SqL.of (by rw[aq v6.symm];exact fL),?_,?_⟩
  .have:=eF ei;rw[show((r.toNat:Nat):Int)=r by lia]at this;exact this
  have sM:upd H1 st (.lst [.int a,.int b,.int c]) wd=some (.lst (ws.map V.int)):=by
   rw[aq As];exact JY
  generalize upd H1 st (.lst [.int a,.int b,.int c])=H2 at g2 sM⊢;clear f1 f2 f3 f4 f5 fL ms g1 sF JY ei;refine aH ?_;dsimp only;refine aB ?_;refine⟨_,rfl,_,rfl,st,n,rfl,g2.sa,n0,Zz,fun m a b c m0 m1 a0 b0 b1=>⟨_,_,rfl,rfl,?_⟩⟩;have g3:=g2.draw (c:=c) a0 b0 b1
  have Au:upd H2 st (.lst [.int a,.int b,.int c]) wd=some (.lst (ws.map V.int)):=by
   rw[aq As];exact sM
  generalize upd H2 st (.lst [.int a,.int b,.int c])=H3 at g3 Au⊢;clear g2 sM;dsimp only;refine eQ ?_;refine⟨_,rfl,1+m,rfl,Zz,Zz,?_⟩
  have lz:(1+m).toNat<sizeLine:=by
   rw[sizeLine_eq];lia
  refine cV (1+m).toNat (fun i ys σ Hc=>Dr st H3 Hc/\(∃o,σ=[o,some (.ref st),some (.ref wd)])/\∃rows:List (List Int),rows.length=i/\(∀r∈rows,okC r)/\IsThs (fun _=>False) Hc ys (rows.map K80.rowD)) ⟨Dr.refl g3.sa,⟨_,rfl⟩,[],rfl,fun _ h=>(List.not_mem_nil h).elim,.nil⟩ lz ?_ ?_
  .rintro i ys σ Hc hi hy ⟨g4,⟨o,rfl⟩,rows,iO,kR,it⟩;refine⟨hi,fun v H' y R hR=>?_⟩;obtain⟨eH,rfl⟩:=y;subst H';refine aH ?_;have sN:=g4.bt _ _ Au As;refine⟨_,rfl,wd,rfl,⟨_,SqL.of sN⟩,cV 3 (fun j zs σ H5=>Dr st Hc H5/\(∃o,σ=[o,some (.ref st)])/\∃r:List Int,r.length=j/\(∀n∈r,0<=n/\n<1000)/\zs=r.map V.int) ⟨Dr.refl g4.sa,⟨_,rfl⟩,[],rfl,fun _ h=>(List.not_mem_nil h).elim,rfl⟩ Zx ?_ ?_⟩
   .rintro j zs σ H5 hj hz ⟨g5,⟨o,rfl⟩,r,lr,br,rfl⟩;have AB:=g5.bt _ _ sN As;have Kb:j<ws.length:=Zz
    have ex:(ws.map V.int)[j]?=some (.int ws[j]):=by rw[zAb,zA0 Kb];rfl
    refine⟨⟨_,_,SqL.of AB,ex⟩,fun v H' y R hR=>?_⟩;obtain⟨eH,y⟩:=y;subst H';have hv:=y _ (SqL.of AB);rw[ex]at hv;cases hv;have hb:=bws _ (zAh Kb);refine aH ?_;refine⟨_,rfl,_,rfl,st,_,rfl,g5.sa,hb.1,Zz,fun t a b c t0 t1 a0 b0 b1=>hR _ _ _ ⟨g5.draw a0 b0 b1,⟨_,rfl⟩,r++[t],by rw[zA2,lr];rfl,fun n hn=>?_,by rw[zA4];rfl⟩⟩;rcases zA6.mp hn with z|z
    .exact br n z
    .rw[List.mem_singleton.mp z];lia
   .rintro zs σ H5 hz ⟨g5,_,r,lr,br,rfl⟩;refine⟨⟨_,SqL.of (g5.bt _ _ sN As),by rw[zA1,NP];exact zA3 _⟩,fun D hD=>⟨D,_,rfl,.inl ⟨SqL.of aa,fun t ht=>?_⟩⟩⟩;have s6:=(Same.upd (o:=.lst (r.map V.int)) hD).updR (o:=.tup (r.map V.int)) ht;refine hR _ _ _ ⟨(g4.trans g5).same s6,⟨_,rfl⟩,rows++[r],by rw[zA2,iO];rfl,fun x hx=>?_,?_⟩
    .rcases zA6.mp hx with z|z
     .exact kR x z
     .rw[List.mem_singleton.mp z];exact⟨lr,br⟩
    .rw[zA4];exact((g5.ths g4.sa it).same s6).append (.cons (.tup aa (IsThs.ints r)) .nil)
  .rintro ys σ Hc hy ⟨g4,_,rows,iO,kR,it⟩;refine⟨zA3 _,fun D hD=>⟨D,_,rfl,.inl ⟨SqL.of aa,fun t ht=>?_⟩⟩⟩;have s6:=(Same.upd (o:=.lst ys) hD).updR (o:=.tup ys) ht;obtain⟨ac,xc,ev,rr⟩:=K80.th_rows (rs:=rows) (.tup aa (it.same s6));cases ev;exact q _ xc rows _ ((g3.trans g4).same s6) rr Zz Zz kR
end
section
variable{P:Program}{w:World}{K:Frag}{mg:Str->Option Value}{base:Heap}{f:Addr}{fd:FuncData}
theorem scP:FnScope ["_law_state_here","_law_years","_law_first","_law_last","_law_sacks","_law_price"] ["_law_state_here","_law_years"] (au (top 65)):=fQS
theorem ok_prom(F:Fun K "_law_promise" "_law_promise" (top 65) f fd)(Tm:mg "min"=none)(c1:Cal P w K mg base 1 "_law_choice" ["_law_state_here","_law_many"] spChoice):FnOk P w K mg base CX0 2 f fd ["_law_state_here","_law_years"] CG:=by
 refine F.ok scP (fun vs H Q E h=>?_) (fun cdv A outer s H vs Q E hr h=>?_)
 .obtain⟨st,y,rfl,_⟩:=h;rfl
 .obtain⟨st,y,rfl,cn,y0,y1,q⟩:=h
  refine ok_b (aF ⟨pss 2 scP.nd (aK (jx rfl) rfl Tm mL (ak ao (ak (aG c1 hr (ak (pv 0) (ak (aR cg (pv 1) ao) aj))) aj)))⟩
   (aF ⟨pss 3 scP.nd (aK (jx rfl) rfl Tm mL (ak ao (ak (aR cg (pv 2) (pX bL (Ex (Eu ao (Eu (aG c1 hr (ak (pv 0) (ak ao aj))) (Eu (aG c1 hr (ak (pv 0) (ak ao aj))) bK)))) (aG c1 hr (ak (pv 0) (ak ao aj))))) aj)))⟩
   (aF ⟨qZ (i:=4) (j:=5) rfl scP.nd rfl rfl Zx rfl rfl (ak (aR cg ao (aG c1 hr (ak (pv 0) (ak (pX bL (gU (kJ (by repeat constructor))) (aG c1 hr (ak (pv 0) (ak ao aj)))) aj)))) (ak (aG c1 hr (ak (pv 0) (ak ao aj))) aj)) rfl⟩
   (bx ⟨aO (uv (my (aU ⟨aG c1 hr (ak (pv 0) (ak ao aj))⟩ (aU ⟨aG c1 hr (ak (pv 0) (ak ao aj))⟩ (aU ⟨pv 2⟩ (aU ⟨pv 3⟩ (aU ⟨pv 4⟩ (aU ⟨pv 5⟩ bK))))))))⟩)))) ?_
  have g0:Dr st H H:=Dr.refl cn;refine aB (aV ?_);refine⟨_,rfl,_,rfl,_,_,rfl,rfl,st,_,rfl,cn,Zz,Zz,fun r1 a1 b1 oq NQ NS k1 k2 k3=>⟨_,_,rfl,?_⟩⟩;have g1:=g0.draw (c:=oq) k1 k2 k3
  obtain⟨fi,NT,NU,Sd⟩:∃fi:Int,fi=(if r1<19 then r1 else 19)/\0<=fi/\fi<=19:=⟨_,rfl,by split<;>lia,by split<;>lia⟩
  rw[<-NT];generalize upd H st (.lst [.int a1,.int b1,.int oq])=H1 at g1⊢;refine aH ?_;dsimp only;refine aB (aV ?_);refine⟨_,rfl,_,rfl,st,4,rfl,g1.sa,by decide,by decide,fun r2 a2 b2 c2 lT NV k4 k5 k6=>⟨_,rfl,st,20,rfl,(g1.draw k4 k5 k6).sa,by decide,by decide,fun r3 a3 b3 c3 Ki Kj k7 k8 k9=>⟨zL,fun p hp=>?_⟩⟩⟩;have g3:=(g1.draw (c:=c2) k4 k5 k6).draw (c:=c3) k7 k8 k9;have np:=g3.ne hp;have g4:=g3.new (o:=.lst [V.int 0,V.int r2,V.int r3]) hp;have ep:upd (upd (upd H1 st (.lst [.int a2,.int b2,.int c2])) st (.lst [.int a3,.int b3,.int c3])) p (.lst [V.int 0,V.int r2,V.int r3]) p=some (.lst [V.int 0,V.int r2,V.int r3]):=aa;generalize upd (upd (upd H1 st (.lst [.int a2,.int b2,.int c2])) st (.lst [.int a3,.int b3,.int c3])) p (.lst [V.int 0,V.int r2,V.int r3])=H2 at g4 ep⊢;refine⟨_,rfl,st,3,rfl,g4.sa,by decide,by decide,fun r4 a4 b4 c4 NW NY k1 k2 k3=>?_⟩
  obtain⟨d,hd,d0,d1⟩:∃d:Int,atI [V.int 0,V.int r2,V.int r3] r4=some (.int d)/\0<=d/\d<20:=by
   have:r4=0\/r4=1\/r4=2:=Zz
   rcases this with rfl|rfl|rfl
   .exact⟨_,rfl,by decide,by decide⟩
   .exact⟨_,rfl,lT,Zz⟩
   .exact⟨_,rfl,Ki,Kj⟩
  refine⟨p,_,r4,.int d,rfl,rfl,SqL.of (by rw[aq np];exact ep),hd,_,_,rfl,rfl,_,_,rfl,?_⟩;have g5:=g4.draw (c:=c4) k1 k2 k3
  obtain⟨la,NZ,N0,N1⟩:∃la:Int,la=(if fi+d<19 then fi+d else 19)/\fi<=la/\la<=19:=⟨_,rfl,by split<;>lia,by split<;>lia⟩
  rw[<-NZ];clear ep np g3;generalize upd H2 st (.lst [.int a4,.int b4,.int c4])=H3 at g5⊢;refine aH ?_;dsimp only;refine aB ?_;refine⟨_,rfl,zL,fun p2 nK=>?_⟩;have N3:=g5.ne nK;have g6:=g5.new (o:=.lst (([4,12,99]:List Int).map V.int)) nK;have Kk:upd H3 p2 (.lst (([4,12,99]:List Int).map V.int)) p2=some (.lst (([4,12,99]:List Int).map V.int)):=aa;generalize upd H3 p2 (.lst (([4,12,99]:List Int).map V.int))=H4 at g6 Kk⊢;refine⟨_,rfl,st,3,rfl,g6.sa,by decide,by decide,fun r5 a5 b5 c5 Se Sf k4 k5 k6=>?_⟩
  obtain⟨wd,hw,w1,w2⟩:∃wd:Int,atI (([4,12,99]:List Int).map V.int) r5=some (.int wd)/\1<=wd/\wd<=99:=by
   have:r5=0\/r5=1\/r5=2:=Zz
   rcases this with rfl|rfl|rfl
   .exact⟨4,rfl,by decide,by decide⟩
   .exact⟨12,rfl,by decide,by decide⟩
   .exact⟨99,rfl,by decide,by decide⟩
  have g7:=g6.draw (c:=c5) k4 k5 k6;refine⟨p2,_,r5,.int wd,rfl,rfl,SqL.of (by rw[aq N3];exact Kk),hw,st,wd,rfl,g7.sa,w1,Zz,fun r6 a6 b6 c6 Sg Sh k7 k8 k9=>⟨_,_,rfl,rfl,?_⟩⟩;have g8:=g7.draw (c:=c6) k7 k8 k9;generalize upd (upd H4 st (.lst [.int a5,.int b5,.int c5])) st (.lst [.int a6,.int b6,.int c6])=H5 at g8⊢;refine⟨_,rfl,st,500,rfl,g8.sa,by decide,by decide,fun r7 a7 b7 c7 N4 Si k1 k2 k3=>⟨_,_,rfl,?_⟩⟩;have g9:=g8.draw (c:=c7) k1 k2 k3;generalize upd H5 st (.lst [.int a7,.int b7,.int c7])=H6 at g9⊢;dsimp only;refine eQ ?_;refine⟨_,rfl,st,8,rfl,g9.sa,by decide,by decide,fun r8 a8 b8 c8 N5 N6 k4 k5 k6=>⟨_,rfl,st,3,rfl,(g9.draw k4 k5 k6).sa,by decide,by decide,fun r9 a9 b9 c9 N7 N8 k7 k8 k9=>⟨_,rfl,_,rfl,_,rfl,_,rfl,zL,fun t ht=>?_⟩⟩⟩;have ga:=((g9.draw (c:=c8) k4 k5 k6).draw (c:=c9) k7 k8 k9).new (o:=.tup [V.int r8,V.int r9,V.int fi,V.int la,V.int (1+r6),V.int r7]) ht;exact q t [r8,r9,fi,la,1+r6,r7] _ ga aa ⟨rfl,⟨N5,N6⟩,⟨N7,N8⟩,⟨NU,N0,N1⟩,⟨by show 1<=1+r6;lia,by show 1+r6<=99;lia⟩,⟨N4,by show r7<=1000000;lia⟩⟩
theorem scS:FnScope ["_law_state_here","_law_promises","_law_number_here","_law_holder","_law_sort","_law_first","_law_last","_law_sacks","_law_price","_law_seller","_law_year"] ["_law_state_here","_law_promises"] (au (top 66)):=fQS
theorem ok_sale(F:Fun K "_law_sale" "_law_sale" (top 66) f fd)(T:K80.Mg mg)(Tm:mg "max"=none)(c1:Cal P w K mg base 1 "_law_choice" ["_law_state_here","_law_many"] spChoice):FnOk P w K mg base CX0 2 f fd ["_law_state_here","_law_promises"] CJ:=by
 refine F.ok scS (fun vs H Q E h=>?_) (fun cdv A outer s H vs Q E hr h=>?_)
 .obtain⟨st,ap,xp,ps,rfl,_⟩:=h;rfl
 .obtain⟨st,ap,xp,ps,rfl,cn,rp,lp,cm,q⟩:=h
  refine⟨_,aJ (pss 2 scS.nd (aG c1 hr (ak (pv 0) (ak (aK (jw rfl) rfl Tm mK (ak ao (ak (aK bF rfl T.len PySem.boot_len (ak (pv 1) aj)) aj))) aj))))
   (aJ (bZ (bj (lZ (K80.room_un hr)) (pv 1) (xf bK) (bf _)) (aD (aO (bU (kJ (by repeat constructor))))) bc)
   (aJ (dU (pX cY (pv 1) (pv 2)) (dR rfl (az (pgn 3 scS.nd) (az (pgn 4 scS.nd) (az (pgn 5 scS.nd)
    (az (pgn 6 scS.nd) (az (pgn 7 scS.nd) (az (pgn 8 scS.nd) bT))))))))
   (aJ (pss 9 scS.nd (pX bL (gU (ak (pv 3) (ak (pv 3) (ak (aG c1 hr (ak (pv 0) (ak ao aj))) aj)))) (aG c1 hr (ak (pv 0) (ak ao aj)))))
   (aJ (pss 10 scS.nd (aR cg (pv 5) (aG c1 hr (ak (pv 0) (ak (aR cg (aR vD (pv 6) (pv 5)) ao) aj)))))
   (aD (aO (uv (my (aU ⟨pv 2⟩ (aU ⟨pv 9⟩ (aU ⟨aG c1 hr (ak (pv 0) (ak ao aj))⟩ (aU ⟨aR cg ao (aG c1 hr (ak (pv 0) (ak (pv 7) aj)))⟩ (aU ⟨pv 10⟩ bK))))))))))))),?_⟩
  have g0:Dr st H H:=Dr.refl cn;have Sj:xp.length<=10:=by rw[rp.l];exact lp
  refine aB (aV ?_);refine⟨_,rfl,_,rfl,ap,xp,rfl,.inr (SqT.of rp.e),_,_,rfl,st,_,rfl,cn,?_,?_,fun r1 a1 b1 oq r0 rn k1 k2 k3=>?_⟩
  .split<;>lia
  .split<;>lia
  have g1:=g0.draw (c:=oq) k1 k2 k3;have Kn:=g1.rows cn rp;generalize upd H st (.lst [.int a1,.int b1,.int oq])=H1 at g1 Kn⊢;refine aH ?_;dsimp only;refine aB ?_;refine⟨_,rfl,zL,fun e0 mT=>?_⟩;have g2:=g1.new (o:=.tup []) mT;have m2:=Same.upd (o:=.tup []) mT;have Kt:upd H1 e0 (.tup []) e0=some (.tup []):=aa;have ot:=Kn.same m2;generalize upd H1 e0 (.tup [])=H2 at g2 m2 Kt ot⊢;refine⟨ap,e0,xp,rfl,rfl,SqT.of ot.e,SqT.of Kt,_,rfl,Em (fun hb=>?_) fun hb=>?_⟩
  .refine⟨zL,fun t ht=>?_⟩;exact q t [0,0,1,1,0] _ (g2.new ht) aa ⟨rfl,by decide⟩
  have px:0<xp.length:=by
   cases xp with
   |nil=>exact absurd rfl hb
   |cons a l=>exact Nat.succ_pos _
  have Sk:r1.toNat<xp.length:=by split at rn<;>lia
  dsimp only;refine aB ?_;obtain⟨p,hp,_,op⟩:=K80.prom_ok (n:=r1) cm r0 (by rw[<-rp.l];lia);obtain⟨tp,mP,om⟩:=K80.rows_at ot r0 hp;rw[K80.six_row op.1]at om;obtain⟨_,⟨p1,p2⟩,_,⟨p3,p4,p5⟩,⟨p6,p7⟩,_⟩:=id op;refine⟨_,rfl,_,rfl,ap,_,r1,.ref tp,rfl,rfl,SqT.of ot.e,mP,?_⟩;refine⟨tp,_,rfl,SqT.of om,rfl,_,_,rfl,_,_,rfl,_,_,rfl,_,_,rfl,_,_,rfl,_,_,rfl,rfl,?_⟩;dsimp only;refine aB (aV ?_);refine⟨_,rfl,_,rfl,_,rfl,st,8,rfl,g2.sa,by decide,by decide,fun r2 a2 b2 c2 i0 i1 k4 k5 k6=>⟨zL,fun l1 dA=>?_⟩⟩;have g4:=(g2.draw (c:=c2) k4 k5 k6).new (o:=.lst [V.int (K80.fl p 0),V.int (K80.fl p 0),V.int r2]) dA;have n4:=(g2.draw k4 k5 k6).ne dA;refine⟨_,rfl,st,3,rfl,g4.sa,by decide,by decide,fun r3 a3 b3 c3 i2 i3 k7 k8 k9=>?_⟩
  obtain⟨sl,N9,Sl,fN⟩:∃sl:Int,atI [V.int (K80.fl p 0),V.int (K80.fl p 0),V.int r2] r3=some (.int sl)/\0<=sl/\sl<8:=by
   have:r3=0\/r3=1\/r3=2:=Zz
   rcases this with rfl|rfl|rfl
   .exact⟨_,rfl,p1,p2⟩
   .exact⟨_,rfl,p1,p2⟩
   .exact⟨_,rfl,i0,i1⟩
  have g5:=g4.draw (c:=c3) k7 k8 k9;refine⟨l1,_,r3,.int sl,rfl,rfl,SqL.of (by rw[aq n4];exact aa),N9,?_⟩;refine aH ?_;dsimp only;refine aB (aV ?_);refine⟨_,rfl,_,rfl,_,rfl,_,rfl,_,_,rfl,rfl,_,_,rfl,rfl,st,_,rfl,g5.sa,Zz,Zz,fun r5 a5 b5 c5 i6 i7 m4 m5 m6=>⟨_,_,rfl,rfl,?_⟩⟩;have g7:=g5.draw (c:=c5) m4 m5 m6;refine aH ?_;dsimp only;refine⟨_,rfl,_,rfl,_,rfl,st,8,rfl,g7.sa,by decide,by decide,fun r4 a4 b4 c4 i4 i5 m1 Kx m3=>⟨_,rfl,_,rfl,st,_,rfl,(g7.draw m1 Kx m3).sa,p6,Zz,fun r6 a6 b6 c6 i8 i9 m7 m8 m9=>⟨_,_,rfl,rfl,_,rfl,zL,fun t ht=>?_⟩⟩⟩;have g8:=(g7.draw (c:=c4) m1 Kx m3).draw (c:=c6) m7 m8 m9;refine q t [r1,sl,r4,1+r6,K80.fl p 2+r5] _ (g8.new ht) aa ⟨rfl,fun i hi=>?_⟩;simp only[List.mem_cons,List.not_mem_nil,or_false]at hi;lia
end
theorem xT{X:Cx}:OpR X (binaryOp .Add) (fun x y H Q=>∃a b xs ys,x=.ref a/\y=.ref b/\H a=some (.tup xs)/\H b=some (.tup ys)/\ys≠[]/\xs.length+ys.length<=sizeLine/\∀c H',Same H H'->H' c=some (.tup (xs++ys))->Q (.ref c) H'):=by
 intro Zt s σ H x y v u Q I rx ry h;obtain⟨a,b,xs,ys,rfl,rfl,ha,hb,hy,hz,q⟩:=h;refine Bf Zt s σ H _ _ v u Q I rx ry ⟨a,b,xs,ys,rfl,rfl,SqT.of ha,SqT.of hb,hy,hz,fun e=>q b H (Same.refl H) (by rw[e];exact hb),fun _ p hp=>q p _ (Same.upd hp) aa⟩
theorem qN{H:Hp}{a b t:Addr}{xs:List V}{rs:List (List Int)}{r:List Int}(h:K80.RowsAt H a xs rs)(et:H t=some (.tup (r.map V.int)))(eb:H b=some (.tup (xs++[V.ref t]))):K80.RowsAt H b (xs++[V.ref t]) (rs++[r]):=by
 refine⟨eb,by rw[zA2,zA2,h.l];rfl,fun i r' e=>?_⟩;by_cases hi:i<rs.length
 .rw[zBa hi]at e;rw[zBa (by rw[h.l];exact hi)];exact h.g i r' e
 .rw[zB9 Zz]at e;rw[zB9 (by rw[h.l];lia),h.l]
  cases hj:i-rs.length with
  |zero=>
   rw[hj]at e;injection e with e;subst e;exact⟨t,rfl,et⟩
  |succ k=>
   rw[hj]at e;simp at e
theorem CK{u:Option Nat}(h:decide (K80.unV u=.non)=true):u=none:=by
 have:=zB8 h
 cases u with
 |none=>rfl
 |some n=>cases this
theorem pW{X:Cx}{K:Frag}(hK:X.K=K):dw X (.builtin "len") (fun xs H Q=>∃p ys,xs=[.ref p]/\(SqL K H p ys\/SqT K H p ys)/\Q (.int ys.length) H):=by
 subst hK;exact bF
section
variable{P:Program}{w:World}{K:Frag}{mg:Str->Option Value}{base:Heap}{f:Addr}{fd:FuncData}
theorem ndB:(["_law_turn","_law_state_here","_law_clips_here"]:List Str).Nodup:=by decide +kernel
theorem scB:FnScope ["_law_state_here","_law_years","_law_most","_law_clips_here","_law_promises","_law_sales","_law_turn","_law_sale_here"] ["_law_state_here","_law_years","_law_most"] (au (top 67)):=fQS
theorem ok_book(F:Fun K "_law_book" "_law_book" (top 67) f fd)(T:Mg mg)(Tr:mg "range"=none)(Tl:mg "len"=none)(c1:Cal P w K mg base 1 "_law_choice" ["_law_state_here","_law_many"] spChoice)(c2:Cal P w K mg base 2 "_law_clips" ["_law_state_here","_law_most"] xR)(c3:Cal P w K mg base 2 "_law_promise" ["_law_state_here","_law_years"] CG)(c4:Cal P w K mg base 2 "_law_sale" ["_law_state_here","_law_promises"] CJ)(c5:Cal P w K mg base 1 "_law_rows" ["_law_promises","_law_sales"] K80.spRows):
  FnOk P w K mg base CX0 3 f fd ["_law_state_here","_law_years","_law_most"] spBook:=by
 refine F.ok scB (fun vs H Q E h=>?_) (fun cdv A outer s H vs Q E hr h=>?_)
 .obtain⟨st,y,m,rfl,_⟩:=h;rfl
 .obtain⟨st,y,m,rfl,cn,y1,y2,m1,m2,q⟩:=h
  refine⟨_,aJ (qY (i:=3) scB.nd rfl (Or.inr rfl) (aG c2 hr (ak (pv 0) (ak (pv 1) aj))))
   (aJ (pss 4 scB.nd (bI bW rfl T.tuple boot_tuple (ak (bG ["_law_turn","_law_state_here","_law_clips_here"] [none,some 0,some 3] rfl (gj rfl Tr (ak (aG c1 hr (ak (pv 0) (ak (aR cg (pv 2) ao) aj))) aj))
    (fun C fp Zt s₂ H₂=>⟨pgn 0 ndB,bJ,aG c3 hr (ak (pv 1) (ak (aK (pW (K:=K) rfl) rfl Tl PySem.boot_len (ak (pv 2) aj)) aj))⟩)
    (fun C=>cI (cI trivial)) ⟨rfl,rfl,rfl,rfl⟩) aj)))
   (aJ (pss 5 scB.nd (xf bK))
   (aJ (fW zB7 rfl (gj rfl Tr (ak (aG c1 hr (ak (pv 0) (ak ao aj))) aj)) (pgn 6 scB.nd)
    (aJ (pss 7 scB.nd (aG c4 hr (ak (pv 0) (ak (pv 4) aj))))
    (aD (bZ (bj rA (pX cY (aG c5 hr (ak (pv 4) (ak (aR xT (pv 5) (bU (ak (pv 7) aj))) aj))) ao) gn (bf _)) (aD (pss 5 scB.nd (aR xT (pv 5) (bU (ak (pv 7) aj))))) bc))))
   (aD (aO (bU (ak (pv 3) (ak (pv 4) (ak (pv 5) aj)))))))))  ,?_⟩
  refine aB (aV ?_);refine⟨_,rfl,_,rfl,st,y,rfl,cn,y1,y2,fun ac xc cs H1 d1 rc uS KA l9=>?_⟩;refine aH ?_;dsimp only;refine aB (aV ?_);refine⟨_,rfl,_,rfl,_,_,rfl,rfl,st,m+1,rfl,d1.sa,Zz,Zz,fun r a1 b1 oq k0 kn k1 k2 k3=>⟨r,rfl,Zz,Zz,?_⟩⟩;have d2:=(Dr.refl d1.sa).draw (c:=oq) k1 k2 k3;have BG:=d2.rows d1.sa rc;have EM:=d1.trans d2;generalize upd H1 st (.lst [.int a1,.int b1,.int oq])=H2 at d2 EM BG⊢
  have lz:r.toNat<sizeLine:=by
   rw[sizeLine_eq];lia
  refine cV r.toNat (fun i ys σ Hc=>Dr st H2 Hc/\(∃o,σ=[o,some (.ref st),some (.ref ac)])/\∃rows:List (List Int),rows.length=i/\(∀r∈rows,K80.okP r)/\IsThs (fun _=>False) Hc ys (rows.map K80.rowD)) ⟨Dr.refl d2.sa,⟨_,rfl⟩,[],rfl,fun _ h=>(List.not_mem_nil h).elim,.nil⟩ lz ?_ ?_
  .rintro i ys σ Hc hi hy ⟨g4,⟨o,rfl⟩,rows,iO,kR,it⟩;refine⟨hi,fun v H' y R hR=>?_⟩;obtain⟨eH,rfl⟩:=y;subst H';refine aH ?_;have Oa:=g4.rows d2.sa BG;have:=rc.l;refine⟨_,rfl,_,rfl,ac,xc,rfl,.inr (SqT.of Oa.e),st,_,rfl,g4.sa,Zz,Zz,fun t KG H5 d5 et Ob=>hR _ _ _ ⟨g4.trans d5,⟨_,rfl⟩,rows++[KG],by rw[zA2,iO];rfl,fun x hx=>?_,?_⟩⟩
   .rcases zA6.mp hx with z|z
    .exact kR x z
    .rw[List.mem_singleton.mp z];exact Ob
   .rw[zA4];exact(d5.ths g4.sa it).append (.cons (.tup et (IsThs.ints KG)) .nil)
  rintro ys σ Hc hy ⟨g4,_,ps,Sn,cm,it⟩;refine⟨zA3 _,fun D hD=>⟨D,_,rfl,.inl ⟨SqL.of aa,fun t ht=>?_⟩⟩⟩;have s6:=(Same.upd (o:=.lst ys) hD).updR (o:=.tup ys) ht;obtain⟨ap,xp,ev,rp⟩:=K80.th_rows (rs:=ps) (.tup aa (it.same s6));cases ev;have KI:=(g4.rows d2.sa BG).same s6;have KL:=(EM.trans g4).same s6;generalize upd (upd Hc D (.lst ys)) t (.tup ys)=H3 at rp KI KL⊢;clear BG d2 g4 it s6 ht hD EM rc d1;refine aH ?_;dsimp only;refine aB (aV ?_);refine⟨zL,fun e0 mT=>?_⟩;have d6:=KL.new (o:=.tup []) mT
  have r6:K80.RowsAt (upd H3 e0 (.tup [])) e0 [] []:=⟨aa,rfl,fun i r e=>by simp at e⟩
  have KO:=rp.same (Same.upd (o:=.tup []) mT);have KP:=KI.same (Same.upd (o:=.tup []) mT);generalize upd H3 e0 (.tup [])=H4 at d6 r6 KO KP⊢;refine aH ?_;dsimp only;refine aB ?_;refine⟨_,rfl,st,7,rfl,d6.sa,by decide,by decide,fun r2 a2 b2 KS q0 qn q1 q2 q3=>⟨r2,rfl,Zz,Zz,?_⟩⟩;have d7:=(Dr.refl d6.sa).draw (c:=KS) q1 q2 q3;have ng:=d7.rows d6.sa KO;have KU:=d7.rows d6.sa KP;have r7:=d7.rows d6.sa r6;have KW:=d6.trans d7;generalize upd H4 st (.lst [.int a2,.int b2,.int KS])=H5 at KW ng KU r7⊢;refine ju (lo:=0) (n:=r2.toNat) (fun i σ Hc=>∃a xs ss x6 x7,σ=[some (.ref st),some (.int y),some (.int m),some (.ref ac),some (.ref t),some (.ref a),x6,x7]/\Dr st H Hc/\K80.RowsAt Hc ac xc cs/\K80.RowsAt Hc t xp ps/\K80.RowsAt Hc a xs ss/\ss.length<=i/\(∀s∈ss,smR s)/\K80.un ps ss=none) ?_ ?_ ?_
  .exact⟨e0,[],[],none,none,rfl,KW,KU,ng,r7,zA3 _,(fun _ h=>nomatch h),rfl⟩
  .rintro i σ Hc hi ⟨a,xs,ss,x6,x7,rfl,g,rcc,BH,EN,ls,dQ,u3⟩;refine aH (aB ?_);refine aV ?_;refine⟨_,rfl,_,rfl,st,t,xp,ps,rfl,g.sa,BH,Zz,cm,fun t' s' H6 d8 et sm=>?_⟩;have K0:=d8.rows g.sa rcc;have EO:=d8.rows g.sa BH;have u4:=d8.rows g.sa EN;have gd:=g.trans d8;refine aH ?_;dsimp only
   have Lc:∀s∈ss++[s'],smR s:=fun s hs=>by
    rcases zA6.mp hs with z|z
    .exact dQ s z
    .rw[List.mem_singleton.mp z];exact sm
   have l5:(ss++[s']).length<=i+1:=by rw[zA2];show ss.length+1<=_;lia
   have Ll:=u4.l;refine⟨_,rfl,_,rfl,_,rfl,zL,fun t1 Oc=>?_⟩;have m4:=Same.upd (o:=.tup [V.ref t']) Oc;refine⟨a,t1,xs,_,rfl,rfl,m4 _ _ u4.e,aa,by simp,by rw[Ll,sizeLine_eq];show _+1<=_;lia,fun c H7 s7 ec=>?_⟩;have Od:=qN ((u4.same m4).same s7) (s7 _ _ (m4 _ _ et)) ec;refine⟨t,xp,ps,c,_,ss++[s'],rfl,(EO.same m4).same s7,Zz,cm,Od,Zz,fun s hs=>(Lc s hs).1,fun tt fo H8 s8 Oe _=>?_⟩;have u7:=(m4.trans s7).trans s8;refine⟨tt,_,1,K80.unV (K80.un ps (ss++[s'])),rfl,rfl,SqT.of Oe,rfl,rfl,_,rfl,Em (fun hb=>?_) fun _=>?_⟩
   .refine aV ?_;refine⟨_,rfl,_,rfl,zL,fun t2 Of=>?_⟩;have m9:=Same.upd (o:=.tup [V.ref t']) Of;refine⟨a,t2,xs,_,rfl,rfl,m9 _ _ (u7 _ _ u4.e),aa,by simp,by rw[Ll,sizeLine_eq];show _+1<=_;lia,fun c' H9 s9 Og=>?_⟩;have AD:=(u7.trans m9).trans s9;exact⟨c',_,ss++[s'],_,_,rfl,gd.same AD,K0.same AD,EO.same AD,qN (u4.same AD) (AD _ _ et) Og,l5,Lc,CK hb⟩
   .exact⟨a,xs,ss,_,_,rfl,gd.same u7,K0.same u7,EO.same u7,u4.same u7,Zz,dQ,u3⟩
  .rintro σ Hc ⟨a,xs,ss,x6,x7,rfl,g,rcc,BH,EN,ls,dQ,u3⟩;refine⟨_,rfl,_,rfl,_,rfl,zL,fun b hb=>?_⟩;have mb:=Same.upd (o:=.tup [V.ref ac,V.ref t,V.ref a]) hb;exact q b ac xc cs t xp ps a xs ss _ (g.new hb) aa (rcc.same mb) uS KA l9 (BH.same mb) Zz cm (EN.same mb) Zz dQ u3
end
end K80Q
namespace K80
open PySem L2
theorem iV{d:PyData}(h:eY d=true):d=aQ (rowsOf d)/\(rowsOf d).length<=20/\∀r∈rowsOf d,r.length=3/\∀x∈r,0<=x:=by
 unfold eY at h;rw[zAc]at h;obtain⟨ds,rfl,_,hl⟩:=iD h.1;have h2:∀x∈ds,gf x=true:=List.all_eq_true.mp h.2
 have h3:∀x∈ds,aZ x 3=true:=fun x hx=>by
  have:=h2 x hx;unfold gf at this;rw[zAc]at this;exact this.1
 refine⟨congrArg PyData.tuple (nJ (n:=3) h3),by show(ds.map _).length<=20;rw[zA1];lia,fun r hr=>?_⟩;obtain⟨x,hx,rfl⟩:=zA5.mp hr;refine⟨(gD (n:=3) (h3 x hx)).2,fun z hz=>?_⟩;obtain⟨u,hu,rfl⟩:=zA5.mp hz;have:=h2 x hx;unfold gf at this;rw[zAc]at this;have:=List.all_eq_true.mp this.2 u hu;simp only[Bool.and_eq_true,Zq]at this;exact this.1
theorem oY{d:PyData}(h:cu d=true):∃d0 d1 d2,d=.tuple [d0,d1,d2]/\eY d0=true/\dh d1=true/\dG d2=true/\un (rowsOf d1) (rowsOf d2)=none:=by
 unfold cu at h;rw[zAc,zAc,zAc,zAc]at h;obtain⟨h0,h1,h2,h3,h4⟩:=h;obtain⟨ds,rfl,l1,l2⟩:=iD h0
 match ds,l1,l2,h1,h2,h3,h4 with
 |[d0,d1,d2],_,_,h1,h2,h3,h4=>exact⟨d0,d1,d2,rfl,h1,h2,h3,by
   have h4:(un (rowsOf d1) (rowsOf d2)).isNone=true:=h4
   cases z:un (rowsOf d1) (rowsOf d2)with
   |none=>rfl
   |some i=>rw[z]at h4;cases h4⟩
 |[],l1,_,_,_,_,_=>simp at l1
 |[_],l1,_,_,_,_,_=>simp at l1
 |[_,_],l1,_,_,_,_,_=>simp at l1
 |_::_::_::_::_,_,l2,_,_,_,_=>simp at l2;lia
inductive SpRefBI(vs:List V)(H:Hp)(Q:VK):Prop
 |mk:∀S v d,(vs=[v])->(IsTh S H v d)->(sz d<=4000)->(cu d=true)->(∀H',Same H H'->Q .non H')->SpRefBI  vs H Q
def CN:Sp:=fun vs H Q _=>SpRefBI  vs H Q
variable{P:Program}{w:World}{K:Frag}{mg:Str->Option Value}{base:Heap}{f:Addr}{fd:FuncData}
theorem GR:FnScope ["thing"] ["thing"] (au (top 43)):=fQS
theorem G5(F:Fun K "refuse_no_book" "refuse_no_book" (top 43) f fd)(c1:Cal P w K mg base 6 "is_book" ["thing"] (spT cu)):FnOk P w K mg base CX0 7 f fd ["thing"] CN:=by
 refine F.ok GR (fun vs H Q E h=>?_) (fun cdv A outer s H vs Q E hr h=>?_)
 .obtain⟨S,v,d,rfl,_⟩:=h;rfl
 .obtain⟨S,v,d,rfl,th,hz,hb,q⟩:=h;refine⟨_,aD (bZ (bN (bM (aG c1 hr (aP (pv 0) aj)))) (aD Ag) bc),?_⟩;refine⟨_,rfl,S,v,d,rfl,th,hz,fun H1 s1=>⟨_,rfl,?_⟩⟩;rw[hb];exact aW (q _ s1)
theorem gen_ts{D:Ends}{tb:TS}{σ:L2.St}{H:Hp}(R:Hp->Prop)(h:R H)(g:∀H,R H->tb D σ H):tb D σ H:=g H h
def ww(P:Program)(w:World)(K:Frag)(mg:Str->Option Value)(base:Heap)(k:Nat)(x:Str)(ps:List Str)(sp:Sp):Prop:=
 ∃f fd,FnOk P w K mg base (CX1 P w) k f fd ps sp/\mg x=some (.ref f)/\PySem.W.keepIn K (.ref f)=true/\Binds K fd ps []
theorem jE{X:Cx}{k j:Nat}{x:Str}{ps:List Str}{sp:Sp}{E:XK}{p pos:Pos}{e:Expr}{es:List Expr}{t:TA}(c:ww X.prog X.w X.K X.mg X.base j x ps sp)(hr:Room k X.A)(zi:j<=k)(hg:Gl X x)(W:uA X fun a C H=>E (.ref a) (some C) H)(hx:X.ex=[])(ha:PA X (e::es) t)
  (eR:(x==("__debug__":Str))=false:=by decide) (he:starEach (e::es) X.env=(false,eval e X.env)::starEach es X.env:=by rfl) (dv:(backTo pos (starEach es X.env)).any (·.1)=false:=by rfl):
  PE X (.Call (.Name x p) (e::es) [] pos) (u0 sp [] E t):=by
 obtain⟨f,fd,F,m,k',b⟩:=c;exact rC F (hr.mono zi) hg m k' b .nil (GJ W hx) ha eR he dv
abbrev VE:List Value:=[.type "ValueError",.type "Exception",.type "BaseException",.type "object"]
def words:List Str:=["clips","promises","sales","book","number","year","weights","paper","growth","promise","sort","clip","sale","deed","text","line"]
theorem cG{te:TE}{tr:TA}{σ:L2.St}{H:Hp}{Q:List V->Hp->Prop}(h:te σ H fun x H1=>tr σ H1 fun xs H2=>Q (x::xs) H2):cA te tr σ H Q:=h
theorem CP{X:Cx}{e:Expr}:PE X e (fun _ _ _=>False):=fun _ _ _ _ _ _ h=>h.elim
structure PTB(X:Cx)(e:Expr)(t:TT):Prop where
 run:PT X e t
section
variable{X:Cx}{a b c l:Expr}{ta tb tl:TE}{t u:TT}{pos p q:Pos}
theorem CQ{k:Bool}{j}{y:Str}{q':Pos}(hl:BE X (.Name y q') tl)(hline:(p.endLine==pos.line)=true:=by rfl):BE X (.Call (.Attribute (.Name y q') "count" p) [.Constant (.bool k) j q] [] pos) (tBM X.K "list" rY tl (cA (tC (.bl k)) il)):=⟨dI zBb PySem.F.slot_list_count PySem.F.type_list_count zm hl.run (ak ig aj) (hline:=hline)⟩
theorem CT{k:Bool}{j}{y:Str}{q':Pos}(hl:BE X (.Name y q') tl)(hline:(p.endLine==pos.line)=true:=by rfl):BE X (.Call (.Attribute (.Name y q') "index" p) [.Constant (.bool k) j q] [] pos) (tBM X.K "list" rZ tl (cA (tC (.bl k)) il)):=⟨dI zBb PySem.F.slot_list_index PySem.F.type_list_index zq hl.run (ak ig aj) (hline:=hline)⟩
theorem J1(h:BE X (.Subscript a b p) ta):PTB X (.Subscript a b p) (tB ta):=⟨bM h.run⟩
theorem G6{es ks}(h:BE X (.Call a es ks p) ta):PTB X (.Call a es ks p) (tB ta):=⟨bM h.run⟩
theorem J3(h:PTB X a t):PTB X (.UnaryOp .Not a pos) (Jq t):=⟨bN h.run⟩
theorem J7(ha:PTB X a t)(hb:PTB X b u):PTB X (.BoolOp .Or [a,b] pos) (tOr t u):=⟨PW.pt (gG ha.run (gQ hb.run))⟩
theorem K9{i:Int}{j}(ha:BE X a ta):PTB X (.Compare a [.NotEq] [.Constant (.int i) j q] pos) (Ak (tOp rNe ta (tC (.int i)))):=⟨bj nR ha.run ao (bf _)⟩
theorem bs_if{x y:List Stmt}{v z:TS}(hc:PTB X c t)(hx:BSs X x v)(hy:BSs X y z):BS X (.If c x y pos) (Ju t v z):=⟨bZ hc.run hx.run hy.run⟩
theorem bss_nil:BSs X [] Ad:=⟨bc⟩
end
structure Clss(mg:Str->Option Value)(Cs:Nat->Addr):Prop where
 n0:mg "NoClips"=some (.ref (Cs 0))
 n1:mg "NoPromises"=some (.ref (Cs 1))
 n2:mg "NoSales"=some (.ref (Cs 2))
 n3:mg "NoBook"=some (.ref (Cs 3))
 n4:mg "NoNumber"=some (.ref (Cs 4))
 n5:mg "NoYear"=some (.ref (Cs 5))
 n6:mg "NoWeights"=some (.ref (Cs 6))
 n7:mg "NoPaper"=some (.ref (Cs 7))
 n8:mg "NoGrowth"=some (.ref (Cs 8))
 n9:mg "NoPromise"=some (.ref (Cs 9))
 n10:mg "NoSort"=some (.ref (Cs 10))
 n11:mg "NoClip"=some (.ref (Cs 11))
 n12:mg "NoSale"=some (.ref (Cs 12))
 n13:mg "NoDeed"=some (.ref (Cs 13))
 n14:mg "NoText"=some (.ref (Cs 14))
 n15:mg "NoLine"=some (.ref (Cs 15))
 n16:mg "TooMany"=some (.ref (Cs 16))
 wool:mg "WoolError"=some (.ref (Cs 17))
structure Kind(K:Frag)(Cs:Nat->Addr)(j:Nat):Prop where
 lt:j<16
 ex:ExcC K (Cs j)
 ca:CatchC K (Cs j) (Cs 17)
 on:∀i,i<17->PySem.W.kitOne K (.ref (Cs j)) (.ref (Cs i))=some (decide (i=j))
 ve:PySem.W.kitOne K (.ref (Cs j)) (.type "ValueError")=some true
def marks(j:Nat):List Bool:=(List.range 17).map fun i=>decide (i=j)
theorem uZ:∀j,j<17->(marks j).count true=1:=by decide +kernel
theorem CV{j:Nat}(h:j<17):(marks j)[j]?=some true:=by
 unfold marks;rw[zAb,List.getElem?_range h];simp
theorem CW{j i:Nat}(h:i<j):(marks j)[i]?≠some true:=by
 unfold marks;rw[zAb];by_cases hi:i<17
 .rw[List.getElem?_range hi];simp;lia
 .rw[List.getElem?_eq_none (by simp;lia)];simp
theorem G7:bootBuiltins "ValueError"=some (.type "ValueError"):=by decide +kernel
theorem CZ{j:Nat}(h:j<16):atI (words.map V.str) (j:Int)=some (.str (words.getD j "")):=by
 have hl:words.length=16:=rfl
 have:words[j]?=some (words.getD j ""):=by
  rw[zA7,zA0 Zz];rfl
 refine eF ?_;rw[zAb,this];rfl
theorem di{X:Cx}{x:Str}{D:Addr}{p q r pos:Pos}{y:Str}{i:Nat}(hN:X.N[i]?=some y)(hv:Vis X.env.scope y)(hI:Gl X "isinstance")(mI:X.mg "isinstance"=none)(hg:Gl X x)(hm:X.mg x=some (.ref D))(hd:(y==("__debug__":Str))=false:=by decide)(cb:(y==("__classdict__":Str))=false:=by decide)(hd2:(x==("__debug__":Str))=false:=by decide):
  BE X (.Call (.Name "isinstance" p) [.Name y q,.Name x r] [] pos) (tCB (fun xs H Q=>∃a C c b,xs=[.ref a,c]/\H a=some (.ext (excAt a C))/\ExcC X.K C/\((∃D,c=.ref D/\PySem.W.kitOne X.K (.ref C) (.ref D)=some b)\/∃n,c=.ty n/\PySem.W.kitOne X.K (.ref C) (.type n)=some b)/\Q (.bl b) H) (cA (iI i) (cA (tC (.ref D)) il))):=
 ⟨aK lg hI mI boot_isinstance (ak (vp hN hv hd cb) (ak (bO (v:=.ref D) hg hm rfl hd2) aj))⟩
theorem dq{K:Frag}{σ:L2.St}{H:Hp}{a:Addr}{Cs:Nat->Addr}{i j:Nat}{Q:VK}(Z:Kind K Cs j)(hi:i<17)(e:H a=some (.ext (excAt a (Cs j))))(gS:σ[0]?=some (some (.ref a)))(h:Q (.bl (decide (i=j))) H):
  tCB (fun xs H Q=>∃a C c b,xs=[.ref a,c]/\H a=some (.ext (excAt a C))/\ExcC K C/\((∃D,c=.ref D/\PySem.W.kitOne K (.ref C) (.ref D)=some b)\/∃n,c=.ty n/\PySem.W.kitOne K (.ref C) (.type n)=some b)/\Q (.bl b) H) (cA (iI 0) (cA (tC (.ref (Cs i))) il)) σ H Q:=
 ⟨_,gS,a,Cs j,.ref (Cs i),_,rfl,e,Z.ex,.inl ⟨_,rfl,Z.on i hi⟩,h⟩
def toE(EX:Addr->Addr->Hp->Prop):XK:=fun e C H=>match e,C with
 |.ref a,some C'=>EX a C' H
 |_,_=>False
def xU(P:Program)(w:World)(K:Frag)(mg:Str->Option Value)(base:Heap)(kk:Nat)(H:Hp)(fl:Addr)(Qw:VK)(Ew:Addr->Addr->Hp->Prop):Prop:=
 ∃(fd:FuncData) (body:Expr) (N:List Str) (vs:List V) (cs:List (Addr×Obj)),LamObj H fl fd/\LamAt fd body N/\(∀b o,cs.lookup b=some o->H b=some (held o))/\(∀x c,fd.closure.lookup x=some c->∃o v,cs.lookup c=some o/\o.data=.cell v) /\
  (∀(i:Nat) (x:Str) (v:V),N[i]?=some x->vs[i]?=some v->∃c u o,fd.closure.lookup x=some c/\RelV v u/\cs.lookup c=some o/\o.data=.cell (some u))/\vs.length=N.length /\
  ∀(A:Around) (outer:List Env) (Q':VK) (E':XK),Room kk A->(∀v H1,Qw v H1->Q' v H1)->(∀a C H1,Ew a C H1->E' (.ref a) (some C) H1)->
   ∃te,(∀s,PE (cxL P w K mg base N fd fl A outer s (er H cs) (fun e C H1=>NoC cs H1->E' e C (fz H1 cs))) body te)/\te (vs.map some) (er H cs) fun v H1=>NoC cs H1->Q' v (fz H1 cs)
theorem J8{X:Cx}{i kk:Nat}{E:XK}{σ:L2.St}{H:Hp}{Q:VK}{fl:Addr}{Qw:VK}{Ew:Addr->Addr->Hp->Prop}(DD:σ[i]?=some (some (.ref fl)))(L:xU X.prog X.w X.K X.mg X.base kk H fl Qw Ew)(hr:Room kk X.A)(q1:∀v H1,Qw v H1->Q v H1)(q2:∀a C H1,Ew a C H1->E (.ref a) (some C) H1):Iv X i E σ H Q:=by
 obtain⟨fd,body,N,vs,cs,L,Z,fr,cell,val,hl,run⟩:=L;obtain⟨te,mv,q⟩:=run X.A X.stack Q E hr q1 q2;exact⟨fl,fd,body,N,vs,cs,te,DD,L,Z,fr,cell,val,hl,mv,q⟩
def G8(P:Program)(w:World)(K:Frag)(mg:Str->Option Value)(base:Heap)(k:Nat)(x:Str)(ps:List Str)(sp:Sp):Prop:=
 ∃f fd,FnOkU P w K mg base CX0 k f fd ps sp/\mg x=some (.ref f)/\PySem.W.keepIn K (.ref f)=true/\Binds K fd ps []
theorem G9{X:Cx}{k j:Nat}{x:Str}{ps:List Str}{sp:Sp}{p pos:Pos}{e:Expr}{es:List Expr}{t:TA}(c:G8 X.prog X.w X.K X.mg X.base j x ps sp)(hr:RoomU k X.A)(zi:j<=k)(hg:Gl X x)(ha:PA X (e::es) t)
  (eR:(x==("__debug__":Str))=false:=by decide) (he:starEach (e::es) X.env=(false,eval e X.env)::starEach es X.env:=by rfl) (dv:(backTo pos (starEach es X.env)).any (·.1)=false:=by rfl):
  PE X (.Call (.Name x p) (e::es) [] pos) (u0 sp [] E0 t):=by
 obtain⟨f,fd,F,m,k',b⟩:=c;exact Bk F (hr.mono zi) hg m k' b ha eR he dv
open PySem.W in
def Ga(K:Frag)(L:List Addr)(j:Nat):Bool:=
 decide (j<16)&&((clsIn K (L.getD j 0)).isSome&&(findIn K (.ref (L.getD j 0)) "__getattribute__"==some (some (.builtin "BaseException.__getattribute__"))&&(findIn K (.ref (L.getD j 0)) "__getattr__"==some none&&(findIn K (.ref (L.getD j 0)) "__class__"==some (some (.builtin "object.__class__")) &&
 (specialIn K (.builtin "object.__class__") "__get__"==some (some (.builtin "getset_descriptor.__get__"))&&(takesIn K (.builtin "object.__class__")==some true&&(mroIn K (L.getD j 0) (.type "object")==some true&&(mroIn K (L.getD j 0) (.type "BaseException")==some true &&
 (typeIn K (.ref (L.getD 17 0))==some (.type "type")&&((clsIn K (L.getD 17 0)).isSome&&(subIn K (.ref (L.getD 17 0)) (.type "BaseException")==some true&&(subIn K (.ref (L.getD j 0)) (.ref (L.getD 17 0))==some true &&
 ((List.range 17).all (fun i=>kitOne K (.ref (L.getD j 0)) (.ref (L.getD i 0))==some (decide (i=j)))&&kitOne K (.ref (L.getD j 0)) (.type "ValueError")==some true)))))))))))))
theorem GX{K:Frag}{L:List Addr}{j:Nat}(h:Ga K L j=true):Kind K (fun i=>L.getD i 0) j:=by
 unfold Ga at h;simp only[Bool.and_eq_true,beq_iff_eq,Zq]at h;obtain⟨h0,h1,h2,h3,h4,h5,h6,h7,h8,h9,BC,h11,Oh,Oi,Oj⟩:=h;refine⟨h0,⟨h1,h2,h3,h4,h5,h6,h7,h8⟩,⟨h9,BC,h11,Oh⟩,fun i hi=>?_,Oj⟩;have:=List.all_eq_true.mp Oi i (List.mem_range.mpr hi);simpa using this
theorem tab_mk{K:Frag}{x:Str}{f c T:Addr}{a1 a2:Value}{b1 b2:Option Addr}{s1 s2:Array (Option Value)}{fd:FuncData}{vs:Array Value}(h1:PySem.W.nsIn K mainGlobals x=some (some (.ref f)))(h2:K.lookup f=some ⟨a1,b1,.func fd,s1⟩)(h3:fd.code=.ref c)(h4:K.lookup c=some ⟨a2,b2,.fields vs,s2⟩)(h5:vs[11]?=some (.ref T)):
  PySem.W.tabIn K x=some (c,T):=by
 unfold PySem.W.tabIn;rw[h1];show(match K.lookup f with|some ⟨_,_,.func fd,_⟩=>_|_=>none)=_;rw[h2];show(match fd.code with|.ref c=>_|_=>none)=_;rw[h3];show(match K.lookup c with|some ⟨_,_,.fields vs,_⟩=>_|_=>none)=_;rw[h4];show(match vs[11]? with|some (.ref P)=>some (c,P)|_=>none)=_;rw[h5]
inductive SpMarksI(K:Frag)(Cs:Nat->Addr)(vs:List V)(H:Hp)(Q:VK):Prop
 |mk:∀a j,(vs=[.ref a])->(H a=some (.ext (excAt a (Cs j))))->(Kind K Cs j)->(∀p H',Same H H'->H' p=some (.lst ((marks j).map V.bl))->Q (.ref p) H')->SpMarksI K Cs vs H Q
def sX(K:Frag)(Cs:Nat->Addr):Sp:=fun vs H Q _=>SpMarksI K Cs vs H Q
inductive SpSaidI(P:Program)(w:World)(K:Frag)(mg:Str->Option Value)(base:Heap)(Cs:Nat->Addr)(kk:Nat)(vs:List V)(H:Hp)(Q:VK):Prop
 |mk:∀(fl:Addr) (Qw:VK) (Ew:Addr->Addr->Hp->Prop),(vs=[.ref fl])->(xU P w K mg base kk H fl Qw Ew)->((∀v H1,Qw v H1->∀p,H1 p=none->Q (.ref p) (upd H1 p (.tup [.str "told",v]))))->((∀a C H1,Ew a C H1->∃j,C=Cs j/\Kind K Cs j/\(H1 a=none->∀H2,Same H1 H2->Q (.str (words.getD j "")) H2)))->SpSaidI P w K mg base Cs kk vs H Q
def sY(P:Program)(w:World)(K:Frag)(mg:Str->Option Value)(base:Heap)(Cs:Nat->Addr)(kk:Nat):Sp:=fun vs H Q _=>SpSaidI P w K mg base Cs kk vs H Q
theorem scM1:FnScope ["_law_e","_law_some"] ["_law_e"] (au (top 60)):=fQS
theorem Dd{f:Addr}{Cs:Nat->Addr}{fd:FuncData}(F:Fun K "_law_marks" "_law_marks" (top 60) f fd)(T:Mg mg)(L:Clss mg Cs):FnOkU P w K mg base CX0 1 f fd ["_law_e"] (sX K Cs):=by
 refine F.okU scM1 (fun vs H Q E h=>?_) (fun cdv A outer s H vs Q E hr h=>?_)
 .obtain⟨a,j,rfl,_⟩:=h;rfl
 .obtain⟨a,j,rfl,ea,Z,q⟩:=h
  refine K80P.ok_b (aF (gw 1 scM1.nd (cN (aU (di (i:=0) rfl (Or.inl rfl) rfl T.isinstance rfl L.n0) (aU (di (i:=0) rfl (Or.inl rfl) rfl T.isinstance rfl L.n1) (aU (di (i:=0) rfl (Or.inl rfl) rfl T.isinstance rfl L.n2) (aU (di (i:=0) rfl (Or.inl rfl) rfl T.isinstance rfl L.n3) bK))))))
   (aF (gw 1 scM1.nd (kW fX ⟨pv 1⟩ (cN (aU (di (i:=0) rfl (Or.inl rfl) rfl T.isinstance rfl L.n4) (aU (di (i:=0) rfl (Or.inl rfl) rfl T.isinstance rfl L.n5) (aU (di (i:=0) rfl (Or.inl rfl) rfl T.isinstance rfl L.n6) (aU (di (i:=0) rfl (Or.inl rfl) rfl T.isinstance rfl L.n7) bK)))))))
   (aF (gw 1 scM1.nd (kW fX ⟨pv 1⟩ (cN (aU (di (i:=0) rfl (Or.inl rfl) rfl T.isinstance rfl L.n8) (aU (di (i:=0) rfl (Or.inl rfl) rfl T.isinstance rfl L.n9) (aU (di (i:=0) rfl (Or.inl rfl) rfl T.isinstance rfl L.n10) (aU (di (i:=0) rfl (Or.inl rfl) rfl T.isinstance rfl L.n11) bK)))))))
   (aF (gw 1 scM1.nd (kW fX ⟨pv 1⟩ (cN (aU (di (i:=0) rfl (Or.inl rfl) rfl T.isinstance rfl L.n12) (aU (di (i:=0) rfl (Or.inl rfl) rfl T.isinstance rfl L.n13) (aU (di (i:=0) rfl (Or.inl rfl) rfl T.isinstance rfl L.n14) (aU (di (i:=0) rfl (Or.inl rfl) rfl T.isinstance rfl L.n15) bK)))))))
   (bx (fj (kW fX ⟨pv 1⟩ (cN (aU (di (i:=0) rfl (Or.inl rfl) rfl T.isinstance rfl L.n16) bK))))))))) ?_
  refine aB (aV ?_);refine fY (cG ?_);refine dq (i:=0) Z Zx ea rfl ?_;refine cG ?_;refine dq (i:=1) Z Zx ea rfl ?_;refine cG ?_;refine dq (i:=2) Z Zx ea rfl ?_;refine cG ?_;refine dq (i:=3) Z Zx ea rfl ?_;refine⟨zL,fun p3 CY=>?_⟩;refine aH ?_;dsimp only;refine gen_ts (fun H3=>Same H H3/\H3 p3=some (.lst ([decide (0=j),decide (1=j),decide (2=j),decide (3=j)].map V.bl))) ⟨Same.upd CY,aa⟩ fun H3 ⟨s3,f3⟩=>?_;have BI:=s3 _ _ ea;refine aB (aV ?_);refine⟨_,rfl,?_⟩;refine fY (cG ?_);refine dq (i:=4) Z Zx BI rfl ?_;refine cG ?_;refine dq (i:=5) Z Zx BI rfl ?_;refine cG ?_;refine dq (i:=6) Z Zx BI rfl ?_;refine cG ?_;refine dq (i:=7) Z Zx BI rfl ?_;refine⟨zL,fun p4 AE=>⟨p3,p4,_,_,rfl,rfl,Same.upd AE _ _ f3,aa,zL,fun l4 Ol=>?_⟩⟩;refine aH ?_;dsimp only;refine gen_ts (fun H4=>Same H H4/\H4 l4=some (.lst ([decide (0=j),decide (1=j),decide (2=j),decide (3=j),decide (4=j),decide (5=j),decide (6=j),decide (7=j)].map V.bl))) ⟨(s3.updR AE).updR Ol,aa⟩ fun H4 ⟨s4,f4⟩=>?_;have BM:=s4 _ _ ea;refine aB (aV ?_);refine⟨_,rfl,?_⟩;refine fY (cG ?_);refine dq (i:=8) Z Zx BM rfl ?_;refine cG ?_;refine dq (i:=9) Z Zx BM rfl ?_;refine cG ?_;refine dq (i:=10) Z Zx BM rfl ?_;refine cG ?_;refine dq (i:=11) Z Zx BM rfl ?_;refine⟨zL,fun p5 va=>⟨l4,p5,_,_,rfl,rfl,Same.upd va _ _ f4,aa,zL,fun l5 BN=>?_⟩⟩;refine aH ?_;dsimp only;refine gen_ts (fun H5=>Same H H5/\H5 l5=some (.lst ([decide (0=j),decide (1=j),decide (2=j),decide (3=j),decide (4=j),decide (5=j),decide (6=j),decide (7=j),decide (8=j),decide (9=j),decide (10=j),decide (11=j)].map V.bl))) ⟨(s4.updR va).updR BN,aa⟩ fun H5 ⟨s5,f5⟩=>?_;have BO:=s5 _ _ ea;refine aB (aV ?_);refine⟨_,rfl,?_⟩;refine fY (cG ?_);refine dq (i:=12) Z Zx BO rfl ?_;refine cG ?_;refine dq (i:=13) Z Zx BO rfl ?_;refine cG ?_;refine dq (i:=14) Z Zx BO rfl ?_;refine cG ?_;refine dq (i:=15) Z Zx BO rfl ?_;refine⟨zL,fun p6 Lo=>⟨l5,p6,_,_,rfl,rfl,Same.upd Lo _ _ f5,aa,zL,fun l6 Ee=>?_⟩⟩;refine aH ?_;dsimp only;refine gen_ts (fun H6=>Same H H6/\H6 l6=some (.lst ([decide (0=j),decide (1=j),decide (2=j),decide (3=j),decide (4=j),decide (5=j),decide (6=j),decide (7=j),decide (8=j),decide (9=j),decide (10=j),decide (11=j),decide (12=j),decide (13=j),decide (14=j),decide (15=j)].map V.bl))) ⟨(s5.updR Lo).updR Ee,aa⟩ fun H6 ⟨s6,f6⟩=>?_;have Om:=s6 _ _ ea;refine eQ ?_;refine⟨_,rfl,?_⟩;refine fY (cG ?_);refine dq (i:=16) Z Zx Om rfl ?_;refine⟨zL,fun p7 Lu=>⟨l6,p7,_,_,rfl,rfl,Same.upd Lu _ _ f6,aa,zL,fun l7 Oo=>?_⟩⟩;exact q l7 _ ((s6.updR Lu).updR Oo) aa
theorem scS:FnScope ["_law_call","_law_found","_law_e","_law_marks_here","_law_words"] ["_law_call"] (au (top 61)):=fQS
section
variable{X:Cx}{K:Frag}{tl:TE}{pos p q:Pos}
theorem zQ(hK:X.K=K){k:Bool}{j}{y:Str}{q':Pos}(hl:BE X (.Name y q') tl)(hline:(p.endLine==pos.line)=true:=by rfl):BE X (.Call (.Attribute (.Name y q') "count" p) [.Constant (.bool k) j q] [] pos) (tBM K "list" rY tl (cA (tC (.bl k)) il)):=by
 subst hK;exact CQ hl hline
theorem zR(hK:X.K=K){k:Bool}{j}{y:Str}{q':Pos}(hl:BE X (.Name y q') tl)(hline:(p.endLine==pos.line)=true:=by rfl):BE X (.Call (.Attribute (.Name y q') "index" p) [.Constant (.bool k) j q] [] pos) (tBM K "list" rZ tl (cA (tC (.bl k)) il)):=by
 subst hK;exact CT hl hline
theorem v7(hK:X.K=K):IxR X (HW K):=by
 subst hK;exact bL
theorem sZ(hK:X.K=K):dw X (.builtin "isinstance") (fun xs H Q=>∃a C c b,xs=[.ref a,c]/\H a=some (.ext (excAt a C))/\ExcC K C/\((∃D,c=.ref D/\PySem.W.kitOne K (.ref C) (.ref D)=some b)\/∃n,c=.ty n/\PySem.W.kitOne K (.ref C) (.type n)=some b)/\Q (.bl b) H):=by
 subst hK;exact lg
end
def Gb(st:Stmt):List Stmt:=match st with
 |.Try _ [.ExceptHandler _ _ b _] _ _ _=>b
 |_=>[]
theorem Df{f:Addr}{Cs:Nat->Addr}{cdv:Value}{A:Around}{outer:List Env}{s:Shared}{H:Hp}{E:XK}{k:Nat}(hr:RoomU (k+1) (jb CX0 P w K mg base ["_law_call","_law_found","_law_e","_law_marks_here","_law_words"] "_law_said" (au (top 61)) f cdv A outer s H E).A)(T:Mg mg)(Tv:mg "ValueError"=none)(L:Clss mg Cs)(c1:G8 P w K mg base 1 "_law_marks" ["_law_e"] (sX K Cs)):
  ∃th,(∀v:Option Value,PSs (((jb CX0 P w K mg base ["_law_call","_law_found","_law_e","_law_marks_here","_law_words"] "_law_said" (au (top 61)) f cdv A outer s H E).nox.un ((jb CX0 P w K mg base ["_law_call","_law_found","_law_e","_law_marks_here","_law_words"] "_law_said" (au (top 61)) f cdv A outer s H E).nox.A.mark v)).nox) (Gb ((du (top 61)).getD 0 (.Pass ⟨0,0,0,0⟩))) th) /\
   ∀(D:Ends) y0 y1 y3 y4 a j H1,H1 a=some (.ext (excAt a (Cs j)))->Kind K Cs j->(∀H2,Same H1 H2->D.rt (.str (words.getD j "")) H2)->th D [y0,y1,some (.ref a),y3,y4] H1:=by
 refine⟨_,fun v=>jH (aF (gw 3 scS.nd ⟨G9 c1 (hr.mark v) Zz rfl (ak (pv 2) aj)⟩)
     (aF (bs_if (J7 (J3 (G6 ⟨aK (sZ (K:=K) rfl) rfl T.isinstance boot_isinstance (ak (pv 2) (ak (dO rfl Tv G7 (v:=.ty "ValueError") rfl) aj))⟩)) (K9 (zQ (K:=K) rfl ⟨pv 3⟩))) (bx (fj cO)) bss_nil)
     (aF (bs_if (J1 (uw (v7 (K:=K) rfl) ⟨pv 3⟩ Ba (fun _ _=>rfl))) (bx ⟨aO CP⟩) bss_nil)
     (aF (gw 4 scS.nd (cN (aU cO (aU cO (aU cO (aU cO (aU cO (aU cO (aU cO (aU cO (aU cO bK)))))))))))
     (bx (fj (uw (v7 (K:=K) rfl) (kW fX ⟨pv 4⟩ (cN (aU cO (aU cO (aU cO (aU cO (aU cO (aU cO (aU cO bK))))))))) (zR (K:=K) rfl ⟨pv 3⟩) (fun _ _=>rfl)))))))),?_⟩
 intro D y0 y1 y3 y4 a j H1 ea Z q3;have lt:=Z.lt;refine aB (aV ?_);refine⟨_,rfl,a,j,rfl,ea,Z,fun p H2 s2 e2=>?_⟩;refine aH ?_;dsimp only;have Oq:H2 a=some (.ext (excAt a (Cs j))):=s2 _ _ ea;refine aB ?_;refine⟨_,rfl,a,Cs j,.ty "ValueError",true,rfl,Oq,Z.ex,.inr ⟨_,rfl,Z.ve⟩,_,rfl,?_⟩;refine aW ?_;refine⟨_,rfl,.inl ⟨rfl,_,SqL.of e2⟩,p,marks j,true,rfl,rfl,e2,rfl,_,rfl,?_⟩;rw[uZ j Zz];refine aW (bB ?_);dsimp only;refine aB ?_;refine⟨_,rfl,p,_,16,.bl (decide (16=j)),rfl,rfl,SqL.of e2,rfl,_,rfl,?_⟩;rw[decide_eq_false (by lia:¬16=j)];refine aW (bB ?_);dsimp only;refine aB ?_;refine⟨by decide,fun p4 AE=>?_⟩;refine aH ?_;dsimp only;refine gen_ts (fun H4=>Same H1 H4/\H4 p=some (.lst ((marks j).map V.bl))/\H4 p4=some (.lst [.str "clips",.str "promises",.str "sales",.str "book",.str "number",.str "year",.str "weights",.str "paper",.str "growth"])) ⟨s2.updR AE,Same.upd AE _ _ e2,aa⟩ fun H4 ⟨s4,f4,e4⟩=>?_;refine eQ ?_;refine⟨_,rfl,by decide,fun p5 va=>⟨p4,p5,_,_,rfl,rfl,Same.upd va _ _ e4,aa,by decide,fun l5 BN=>?_⟩⟩;have f6:=Same.upd (o:=.lst (words.map V.str)) BN _ _ (Same.upd (o:=.lst [.str "promise",.str "sort",.str "clip",.str "sale",.str "deed",.str "text",.str "line"]) va _ _ f4);refine⟨_,rfl,.inl ⟨rfl,_,SqL.of f6⟩,p,marks j,true,j,rfl,rfl,f6,CV Zz,fun i hi=>CW hi,l5,words.map V.str,j,_,rfl,rfl,SqL.of aa,CZ lt,?_⟩;exact q3 _ ((s4.updR va).updR BN)
theorem Gd{f:Addr}{Cs:Nat->Addr}{fd:FuncData}{kk:Nat}(F:Fun K "_law_said" "_law_said" (top 61) f fd)(T:Mg mg)(Tv:mg "ValueError"=none)(L:Clss mg Cs)(c1:G8 P w K mg base 1 "_law_marks" ["_law_e"] (sX K Cs)):FnOk P w K mg base CX0 (kk+2) f fd ["_law_call"] (sY P w K mg base Cs kk):=by
 refine F.ok scS (fun vs H Q E h=>?_) (fun cdv A outer s H vs Q E hr h=>?_)
 .obtain⟨fl,Qw,Ew,rfl,_⟩:=h;rfl
 .obtain⟨fl,Qw,Ew,rfl,S,q1,q2⟩:=h;obtain⟨th,Ot,Ou⟩:=Df (f:=f) (cdv:=cdv) (A:=A) (outer:=outer) (s:=s) (H:=H) (E:=E) (base:=base) (P:=P) (w:=w) (k:=kk) (K:=K) hr.toU T Tv L c1
  refine⟨_,aJ (Iu (i:=2) (tb:=fun EX=>vz (Iv (jb CX0 P w K mg base ["_law_call","_law_found","_law_e","_law_marks_here","_law_words"] "_law_said" (au (top 61)) f cdv A outer s H E).nox 0 (toE EX)) (dH 1)) (th:=th) L.wool rfl scS.nd rfl rfl rfl rfl
    (fun Zt xe EX W=>aD (qY (i:=1) scS.nd (rfl) (Or.inl rfl) (Iw (x:="_law_call") (i:=0) (E:=toE EX) (k:=kk) (hr.mono Zz) rfl (Or.inl rfl) W rfl)))
    (fun v=>Ot v))
   (aD (aO (bU (ak aX (ak (pv 1) aj))))),?_⟩
  refine aB (aV ?_);refine J8 (kk:=kk) rfl S (hr.mono Zz) (fun v H1 hq=>?_) (fun a C H1 hE=>?_)
  .refine aH ?_;exact⟨_,rfl,zL,fun p hp=>q1 v H1 hq p hp⟩
  .obtain⟨j,rfl,Z,q3⟩:=q2 a C H1 hE;refine⟨Z.ca,fun af gS fa=>?_⟩;have gS:af.length=5:=gS
   match af,gS with
   |[y0,y1,y2,y3,y4],_=>exact Ou _ y0 y1 y3 y4 a j _ aa Z fun H2 s2=>q3 fa H2 ((Same.upd fa).trans s2)
def Els(H:Hp)(xs:List V)(rs:List (List Int)):Prop:=xs.length=rs.length/\∀(i:Nat) (r:List Int),rs[i]?=some r->∃t,xs[i]?=some (V.ref t)/\H t=some (.tup (r.map V.int))
theorem Els.keep{H H':Hp}{xs:List V}{rs:List (List Int)}(h:Els H xs rs)(k:∀b l,H b=some (.tup l)->H' b=some (.tup l)):Els H' xs rs:=
 ⟨h.1,fun i r e=>by
  obtain⟨t,e1,e2⟩:=h.2 i r e
  exact⟨t,e1,k _ _ e2⟩⟩
theorem Els.same{H H':Hp}{xs:List V}{rs:List (List Int)}(h:Els H xs rs)(s:Same H H'):Els H' xs rs:=h.keep fun _ _ e=>s _ _ e
theorem Els.nil{H:Hp}:Els H [] []:=⟨rfl,fun i r e=>by simp at e⟩
theorem Els.app{H:Hp}{xs ys:List V}{rs qs:List (List Int)}(h:Els H xs rs)(g:Els H ys qs):Els H (xs++ys) (rs++qs):=by
 refine⟨by rw[zA2,zA2,h.1,g.1],fun i r e=>?_⟩;by_cases hi:i<rs.length
 .rw[zBa hi]at e;obtain⟨t,e1,e2⟩:=h.2 i r e;exact⟨t,by rw[zBa (by rw[h.1];exact hi)];exact e1,e2⟩
 .rw[zB9 Zz]at e;obtain⟨t,e1,e2⟩:=g.2 _ r e;exact⟨t,by rw[zB9 (by rw[h.1];lia),h.1];exact e1,e2⟩
theorem Els.one{H:Hp}{t:Addr}{r:List Int}(e:H t=some (.tup (r.map V.int))):Els H [.ref t] [r]:=⟨rfl,fun i q e'=>by
 cases i with
 |zero=>
  rw[List.getElem?_cons_zero]at e';cases e';exact⟨t,rfl,e⟩
 |succ i=>simp at e'⟩
def Lg(Cs:Nat->Addr)(o:Option Nat)(R:VK->Hp->Prop)(H:Hp)(Q:VK)(E:XK):Prop:=(∀j,o=some j->∀a H',Same H H'->H' a=none->E (.ref a) (some (Cs j)) H')/\(o=none->R Q H)
def Ka:VK->Hp->Prop:=fun Q H=>∀H',Same H H'->Q .non H'
def kindB(d:PyData):Option Nat:=if cu d=false then some 3 else none
def Kc(Cs:Nat->Addr)(R:VK->Hp->Prop):Sp:=fun vs H Q E=>∃S v d,vs=[v]/\IsTh S H v d/\sz d<=4000/\Lg Cs (kindB d) R H Q E
section
variable{P:Program}{w:World}{K:Frag}{mg:Str->Option Value}{base:Heap}{Cs:Nat->Addr}{f:Addr}{fd:FuncData}
theorem Dg(F:Fun K "refuse_no_book" "refuse_no_book" (top 43) f fd)(O3:PyProof.Rows.OwnCls "NoBook" (Cs 3) VE "ValueError.__new__" mg base)(c1:Cal P w K mg base 6 "is_book" ["thing"] (spT cu)):FnOk P w K mg base (CX1 P w) 7 f fd ["thing"] (Kc Cs Ka):=by
 refine F.okX GR (fun vs H Q E h=>?_) (fun cdv A outer s H vs Q E hr h=>?_)
 .obtain⟨S,v,d,rfl,_⟩:=h;rfl
 .obtain⟨S,v,d,rfl,th,hz,q1,q2⟩:=h;refine⟨_,aD (bZ (bN (bM (aG c1 hr (aP (pv 0) aj)))) (aD (kZ O3 PySem.F.excBase_ValueError rfl rfl rfl (ak aX aj) gK)) bc),?_⟩;refine⟨_,rfl,S,v,d,rfl,th,hz,fun H1 s1=>⟨_,rfl,?_⟩⟩;unfold kindB at q1 q2
  cases e:cu d with
  |true=>exact aW (q2 (zB0 (by rw[e];decide)) _ s1)
  |false=>exact aY ⟨by decide,fun a ha=>q1 3 (zB3 e) a _ s1 ha⟩
end
end K80
namespace K80P
open PySem L2
def SS(st:Addr):Addr->Prop:=fun a=>a≠st/\a≠sysModules
theorem Dr.thsS{st:Addr}{H H1:Hp}{vs:List V}{ds:List PyData}(g:Dr st H H1)(h0:StAt H st)(t:IsThs (SS st) H vs ds):IsThs (SS st) H1 vs ds:=t.keep (g.tups h0) (fun b o z e=>g.bt b o e z.1) fun _ _ z _=>z
section
variable{X:Cx}
theorem Ge:SlR X (fun x lo hi H Q=>∃a xs,x=.ref a/\H a=some (.tup xs)/\∀c H',Same H H'->H' c=some (.tup (lV xs lo hi))->Q (.ref c) H'):=by
 intro Zt s σ H x v vl vu lo hi sl Q I rx hs pl pu h;obtain⟨a,xs,rfl,ha,q⟩:=h;refine xg Zt s σ H _ v vl vu lo hi sl Q I rx hs pl pu ⟨a,xs,rfl,SqT.of ha,fun hw=>q a H (Same.refl H) ?_,fun _ p hp=>q p _ (Same.upd hp) aa⟩;rw[ha];unfold lV;rw[hw.1,hw.2,List.drop_zero,Nat.sub_zero,zAm]
end
section
variable{σ:St}{H:Hp}{S:Addr->Prop}
def PtE(σ:St)(H:Hp)(t:TO)(o:Option Int):Prop:=∀H0,Same H H0->∀Q:Option Int->Hp->Prop,Q o H0->t σ H0 Q
theorem lD:PtE σ H jy none:=fun H0 _ Q q=>q
theorem tD{te:TE}{i:Int}(h:∀H',Ev σ H' te (.int i)):PtE σ H (mW te) (some i):=fun H0 _ Q q=>h H0 _ ⟨i,rfl,q⟩
end
theorem boot_list:bootBuiltins "list"=some (.type "list"):=by decide +kernel
section
variable{P:Program}{w:World}{K:Frag}{mg:Str->Option Value}{base:Heap}{f:Addr}{fd:FuncData}
end
end K80P
namespace K80
open PySem L2 TxP
structure Txs(mg:Str->Option Value):Prop where
 fig:∃t,mg "FIGURES"=some (.str "0123456789" t)
 most:∃t,mg "MOST_FIGURES"=some (.int 30 t)
 none_:∃t,mg "NONE_THERE"=some (.str "-" t)
def Asc(z:Str):Prop:=∀c∈z.cps.toList,c<128
theorem Asc.all{z:Str}(h:Asc z):z.cps.all (· < 128)=true:=by
 rw[Array.all_eq_true_iff_forall_mem];intro c hc;exact decide_eq_true (h c (by simpa using hc))
inductive SpNumI(vs:List V)(H:Hp)(Q:VK):Prop
 |mk:∀z,(vs=[.str z])->(Asc z)->(z.length<=4000)->(∀H',Same H H'->Q (.bl (cF z)) H')->SpNumI  vs H Q
def GZ:Sp:=fun vs H Q _=>SpNumI  vs H Q
theorem Dh(c:Nat):(!(Builtin.Str.occurrences (Str.ofString "0123456789") (sg c) 0 (Str.ofString "0123456789").length 1).isEmpty)=(decide (48<=c)&&decide (c<=57)):=by
 rw[StrLaws.found_one];have e:(Str.ofString "0123456789").cps.toList=[48,49,50,51,52,53,54,55,56,57]:=by decide +kernel
 rw[e,Bool.eq_iff_iff];simp only[Zq,List.mem_cons,List.not_mem_nil,or_false,Bool.and_eq_true];omega
theorem qO:bootBuiltins "all"=some (.builtin "all"):=by decide +kernel
variable{P:Program}{w:World}{K:Frag}{mg:Str->Option Value}{base:Heap}{f:Addr}{fd:FuncData}
theorem scN:FnScope ["word"] ["word"] (au (top 48)):=fQS
theorem J9(F:Fun K "is_number" "is_number" (top 48) f fd)(T:Mg mg)(X:Txs mg):FnOk P w K mg base CX0 1 f fd ["word"] GZ:=by
 refine F.ok scN (fun vs H Q E h=>?_) (fun cdv A outer s H vs Q E hr h=>?_)
 .obtain⟨z,rfl,_⟩:=h;rfl
 .obtain⟨z,rfl,ha,hz,q⟩:=h;obtain⟨t1,e1⟩:=X.fig;obtain⟨t2,e2⟩:=X.most;have kq:z.length<=sizeLine:=by rw[sizeLine_eq];omega
  refine⟨_,aD (aO (cC (cP cj cj ao (aK iK rfl T.len PySem.boot_len (ak (pv 0) aj)) (bO (v:=.int 30) rfl e2 ⟨_,rfl⟩))
   (cC (aK (eG rfl) rfl T.all qO (ak (bG ["sign"] [none] rfl (Bh (pv 0)) (fun C fp Zt s₂ H₂=>⟨bw (i:=0) (nd1 _) rfl (Or.inl rfl),bJ,dZ yJ (pv 0) (bO (v:=.str "0123456789") rfl e1 ⟨_,rfl⟩) rfl⟩) (fun C=>trivial) ⟨rfl,rfl,rfl,rfl⟩) aj))
   (f9 (Js (dZ iW (pv 0) aX (bf _)) (f9 (dZ nR (pX An (pv 0) ao) aX (bf _)))))))),?_⟩
  refine⟨_,rfl,z,rfl,kq,_,_,rfl,rfl,_,rfl,?_⟩;have fin:=q;unfold cF at fin;by_cases h1:(1:Int)<=z.length
  .have iq:1<=z.length:=by omega
   rw[zAu h1]at *;rw[zAu iq]at fin;refine aY ⟨_,_,rfl,rfl,_,rfl,?_⟩;by_cases h2:(z.length:Int)<=30
   .have oz:z.length<=30:=by omega
    rw[zAu h2];rw[zAu oz]at fin;refine aY ?_;refine⟨_,rfl,z,rfl,ha.all,cV z.cps.size (fun j ys σ Hd=>Same H Hd/\(∃o1,σ=[o1])/\ys=((z.cps.toList.take j).map fun c=>V.bl (decide (48<=c)&&decide (c<=57)))) ⟨Same.refl _,⟨_,rfl⟩,rfl⟩ (by rw[sizeLine_eq];have:z.cps.size=z.length:=rfl;omega) ?_ ?_⟩
    .rintro i ys σ Hd hi hy ⟨sm,⟨o1,rfl⟩,rfl⟩;refine⟨hi,fun x H' y R hR=>?_⟩;obtain⟨rfl,c,hc,rfl⟩:=y;refine aH ?_;refine⟨_,rfl,_,_,rfl,rfl,?_⟩;rw[Dh];refine hR _ _ _ ⟨sm,⟨_,rfl⟩,?_⟩;have ah:z.cps.toList[i]?=some c:=by rw[Array.getElem?_toList];exact hc
     rw[zAj,ah];simp
    .rintro ys σ Hd hy ⟨sm,_,rfl⟩;refine⟨zA3 _,fun D hD=>⟨D,(z.cps.toList.map fun c=>(decide (48<=c)&&decide (c<=57))),rfl,SqL.of (by rw[aa,zAr,List.take_of_length_le (by rw[zA9];exact zA3 _)];rfl),_,rfl,?_⟩⟩
     have ER:((z.cps.toList.map fun c=>(decide (48<=c)&&decide (c<=57))).all id)=ji z:=by
      rw[List.all_map];rfl
     rw[ER];have vb:=sm.updR (o:=.lst ((z.cps.toList.take z.cps.size).map fun c=>V.bl (decide (48<=c)&&decide (c<=57)))) hD
     cases e3:ji z with
     |false=>
      rw[e3]at fin;exact aW (fin _ vb)
     |true=>
      rw[e3]at fin;refine aY ⟨_,rfl,rfl,_,rfl,?_⟩;rw[show decide (V.str z=V.str (Str.ofString "0"))=decide (z=sg 48) by rw[show(Str.ofString "0")=sg 48 by decide +kernel];simp];by_cases h4:z=sg 48
      .rw[zAu h4]at fin⊢;exact aY (fin _ vb)
      .rw[zAy h4]at fin⊢;refine aW ?_
       obtain⟨c,r,ec⟩:∃c r,z.cps.toList=c::r:=by
        cases e:z.cps.toList with
        |nil=>have:=len_list z;rw[e]at this;simp at this;omega
        |cons c r=>exact⟨c,r,rfl⟩
       refine⟨_,rfl,z,0,c,rfl,rfl,kq,by rw[ec];exact eF (j:=0) rfl,rfl,?_⟩
       have e5:(!decide (V.str (sg c)=V.str (Str.ofString "0")))=decide (z.cps.toList.head?≠some 48):=by
        rw[show(Str.ofString "0")=sg 48 by decide +kernel,ec];by_cases hc:c=48
        .subst hc;simp
        .have:V.str (sg c)≠V.str (sg 48):=fun z=>hc (by injection z with z;injection z with z;simpa using z);rw[decide_eq_false this];simp[hc]
       rw[e5];exact fin _ vb
   .have oz:¬z.length<=30:=by omega
    rw[zAy h2];rw[zAy oz]at fin;exact aW (fin H (Same.refl H))
  .have iq:¬1<=z.length:=by omega
   rw[zAy iq]at fin;rw[zAy h1];exact aW ⟨_,rfl,aW (fin H (Same.refl H))⟩
theorem gF{J:It}(n:Nat)(it F:Nat->V){te:TE}{Fin:List V->Hp->Prop}{rest:L2.St}{o0:Option V}{H0:Hp}(hn:n<sizeLine)
  (Ov:∀i H,i<n->Same H0 H->J.go i H/\∀x H',J.yld i H x H'->H'=H/\x=it i) (AF:∀H,Same H0 H->J.stop n H)
  (he:∀i H Q,i<n->Same H0 H->(∀H',Same H H'->Q (F i) H')->te (some (it i)::rest) H Q) (fin:∀H,Same H0 H->Fin ((List.range n).map F) H):iw J (dH 0) u9 te Fin (o0::rest) H0:=by
 refine cV n (fun i ys σ H=>Same H0 H/\(∃o,σ=o::rest)/\ys=(List.range i).map F) ⟨Same.refl _,⟨_,rfl⟩,rfl⟩ hn ?_ ?_
 .rintro i ys σ H hi hy ⟨sm,⟨o,rfl⟩,rfl⟩;obtain⟨g1,g2⟩:=Ov i H hi sm;refine⟨g1,fun x H' y R hR=>?_⟩;obtain⟨rfl,rfl⟩:=g2 x H' y;refine aH ?_;refine he i H' _ hi sm fun H2 s2=>hR _ _ _ ⟨sm.trans s2,⟨_,rfl⟩,?_⟩;rw[List.range_succ,zA4];rfl
 .rintro ys σ H hy ⟨sm,_,rfl⟩;exact⟨AF H sm,fin H sm⟩
section
variable{K:Frag}{H0:Hp}{a:Addr}{xs:List V}
theorem jl(hx:H0 a=some (.lst xs)):(∀i H,i<xs.length->Same H0 H->(Itl K a).go i H/\∀x H',(Itl K a).yld i H x H'->H'=H/\x=xs.getD i .non)/\∀H,Same H0 H->(Itl K a).stop xs.length H:=
 ⟨fun i H hi sm=>⟨⟨xs,_,SqL.of (sm _ _ hx),zA0 hi⟩,fun x H' h=>⟨h.1,by
  have:=h.2 xs (SqL.of (sm _ _ hx));rw[zA7,this]
  rfl⟩⟩,fun H sm=>⟨xs,SqL.of (sm _ _ hx),zA3 _⟩⟩
theorem jm(hx:H0 a=some (.tup xs)):(∀i H,i<xs.length->Same H0 H->(Itt K a).go i H/\∀x H',(Itt K a).yld i H x H'->H'=H/\x=xs.getD i .non)/\∀H,Same H0 H->(Itt K a).stop xs.length H:=
 ⟨fun i H hi sm=>⟨⟨xs,_,SqT.of (sm _ _ hx),zA0 hi⟩,fun x H' h=>⟨h.1,by
  have:=h.2 xs (SqT.of (sm _ _ hx));rw[zA7,this]
  rfl⟩⟩,fun H sm=>⟨xs,SqT.of (sm _ _ hx),zA3 _⟩⟩
end
theorem fG{α β:Type}(xs:List α)(d:α)(f:α->β)(n:Nat)(h:n=xs.length):((List.range n).map fun i=>f (xs.getD i d))=xs.map f:=by
 subst h;refine List.ext_getElem Zy fun i h1 h2=>?_;simp at h1;simp[List.getElem?_eq_getElem h1]
theorem oZ{z:Str}{ts:List Str}{B:Nat}(hB:∀y∈ts,y.length<=B)(h:ts.length*B+ts.length*z.length<=16777216):JoinOk z ts=true:=by
 unfold JoinOk;rw[StrLaws.joinFits hB h];rfl
def okN(r:List Int):Prop:=r≠[]/\r.length<=20/\∀n∈r,0<=n/\n<10^10
theorem xV{c:Nat}{r:List Int}(h:okN r):(dM c r).length<=220:=by
 have h1:=jj c (ws:=r.map cX) (by simpa using h.1)
 have h2:∀r:List Int,(∀n∈r,0<=n/\n<10^10)->lsum (r.map cX)<=r.length*10:=fun r=>by
  induction r with
  |nil=>intro _;exact zAp _
  |cons n r ih=>
   intro h;have:=ih fun m hm=>h m (.tail _ hm);have h3:=(dX (h n (.head _)).1 (h n (.head _)).2).2.2.1;show(cX n).length+lsum (r.map cX)<=_;rw[zAe,Nat.succ_mul];lia
 have:=h2 r h.2.2;have:=h.2.1;rw[zA1]at h1;unfold dM;have:r.length*10<=20*10:=Nat.mul_le_mul_right _ h.2.1;lia
inductive SpRowTI(vs:List V)(H:Hp)(Q:VK):Prop
 |mk:∀p r c,(vs=[.ref p,.str (sg c)])->(H p=some (.tup ((r:List Int).map V.int)))->(okN r)->(∀H',Same H H'->Q (.str (dM c r)) H')->SpRowTI  vs H Q
def Di:Sp:=fun vs H Q _=>SpRowTI  vs H Q
theorem gm:bootBuiltins "str"=some (.type "str"):=by decide +kernel
theorem Lh:FnScope ["row","sign"] ["row","sign"] (au (top 49)):=fQS
theorem qP{n:Int}(h:0<=n/\n<10^10):n.natAbs.log2<1920:=by
 have h1:n.natAbs<2^40:=Zz
 by_cases h0:n.natAbs=0
 .rw[h0];decide
 .have:=(Nat.log2_lt h0).mpr h1;lia
theorem Gf(F:Fun K "row_text" "row_text" (top 49) f fd)(Ts:mg "str"=none):FnOk P w K mg base CX0 1 f fd ["row","sign"] Di:=by
 refine F.ok Lh (fun vs H Q E h=>?_) (fun cdv A outer s H vs Q E hr h=>?_)
 .obtain⟨p,r,c,rfl,_⟩:=h;rfl
 .obtain⟨p,r,c,rfl,ep,ok,q⟩:=h;refine⟨_,aD (aO (dI PySem.F.plainAttrs_str PySem.F.slot_str_join PySem.F.type_str_join fK (pv 1) (ak (bG ["number"] [none] rfl (fV (pv 0)) (fun C fp Zt s₂ H₂=>⟨bw (i:=0) (nd1 _) rfl (Or.inl rfl),bJ,bI iJ rfl Ts gm (ak (pv 0) aj)⟩) (fun C=>trivial) ⟨rfl,rfl,rfl,rfl⟩) aj))),?_⟩;have hl:=ok.2.1;refine⟨_,rfl,rfl,_,rfl,p,rfl,⟨_,SqT.of ep⟩,gF (r.map V.int).length (fun i=>(r.map V.int).getD i .non) (fun i=>V.str (cX (r.getD i 0))) (by rw[zA1,sizeLine_eq];lia) (jm ep).1 (jm ep).2 ?_ ?_⟩
  .intro i H1 Q1 hi sm q1;rw[zA1]at hi
   have e1:(r.map V.int).getD i .non=V.int (r.getD i 0):=by
    rw[zA7,zAb,zA7,zA0 hi];rfl
   rw[e1]
   have hm:r.getD i 0∈r:=by
    rw[zA7,zA0 hi];exact zAh hi
   exact⟨_,rfl,_,rfl,qP (ok.2.2 _ hm),q1 _ (Same.refl _)⟩
  .intro H1 sm D hD
   have e2:(List.range (r.map V.int).length).map (fun i=>V.str (cX (r.getD i 0)))=(r.map cX).map V.str:=by
    rw[zAr];exact fG r 0 (fun n=>V.str (cX n)) _ (by rw[zA1])
   rw[e2];refine⟨sg c,D,r.map cX,rfl,rfl,SqL.of aa,oZ (B:=10) (fun y hy=>?_) ?_,q _ (sm.updR hD)⟩
   .obtain⟨n,hn,rfl⟩:=zA5.mp hy;exact(dX (ok.2.2 n hn).1 (ok.2.2 n hn).2).2.2.1
   .rw[zA1];show r.length*10+r.length*1<=_;lia
theorem RowsAt.row{H:Hp}{a:Addr}{xs:List V}{rs:List (List Int)}(h:RowsAt H a xs rs){i:Nat}(hi:i<rs.length):∃t,xs.getD i .non=V.ref t/\H t=some (.tup ((rs.getD i []).map V.int)):=by
 obtain⟨t,e1,e2⟩:=h.g i _ (zA0 hi);refine⟨t,by rw[zA7,e1];rfl,?_⟩;rw[e2,zA7,zA0 hi];rfl
def okNs(rs:List (List Int)):Prop:=rs.length<=20/\∀r∈rs,okN r
theorem okNs.okR{rs:List (List Int)}(h:okNs rs):okR rs:=fun r hr=>⟨(h.2 r hr).1,(h.2 r hr).2.2⟩
inductive SpRowsTI(vs:List V)(H:Hp)(Q:VK):Prop
 |mk:∀a xs rs c,(vs=[.ref a,.str (sg c),.str (sg 45)])->(RowsAt H a xs rs)->(okNs rs)->(∀H',Same H H'->Q (.str (bD c rs)) H')->SpRowsTI  vs H Q
def xW:Sp:=fun vs H Q _=>SpRowsTI  vs H Q
theorem Li:(["row","sign"]:List Str).Nodup:=by decide +kernel
theorem Lj:FnScope ["rows","sign","without"] ["rows","sign","without"] (au (top 50)):=fQS
theorem qQ{c:Nat}{rs:List (List Int)}(h:okNs rs):JoinOk (sg 32) (rs.map (dM c))=true:=by
 have:=h.1;refine oZ (B:=220) (fun y hy=>?_) ?_
 .obtain⟨r,hr,rfl⟩:=zA5.mp hy;exact xV (h.2 r hr)
 .rw[zA1];show rs.length*220+rs.length*1<=_;lia
theorem Dj(F:Fun K "rows_text" "rows_text" (top 50) f fd)(c1:Cal P w K mg base 1 "row_text" ["row","sign"] Di):FnOk P w K mg base CX0 2 f fd ["rows","sign","without"] xW:=by
 refine F.ok Lj (fun vs H Q E h=>?_) (fun cdv A outer s H vs Q E hr h=>?_)
 .obtain⟨a,xs,rs,c,rfl,_⟩:=h;rfl
 .obtain⟨a,xs,rs,c,rfl,ra,ok,q⟩:=h;refine⟨_,aD (aO (ik (Bv (pv 0)) (dI PySem.F.plainAttrs_str PySem.F.slot_str_join PySem.F.type_str_join fK aX (ak (bG ["row","sign"] [none,some 1] rfl (fV (pv 0)) (fun C fp Zt s₂ H₂=>⟨pgn 0 Li,bJ,aG c1 hr (ak (pv 0) (ak (pv 1) aj))⟩) (fun C=>cI trivial) ⟨rfl,rfl,rfl,rfl⟩) aj)) (pv 2))),?_⟩;have hl:=ok.1;have hx:=ra.l;refine⟨_,rfl,a,xs,rfl,ra.e,?_⟩;by_cases h0:rs=[]
  .subst h0;have ex:xs=[]:=List.length_eq_zero_iff.mp hx;subst ex;exact aW ⟨_,rfl,q H (Same.refl H)⟩
  .have ex:(!xs.isEmpty)=true:=by
    cases xs with
    |nil=>exact absurd (List.length_eq_zero_iff.mp hx.symm) h0
    |cons _ _=>rfl
   rw[ex];refine aY ?_;refine⟨rfl,_,rfl,a,rfl,⟨_,SqT.of ra.e⟩,gF xs.length (fun i=>xs.getD i .non) (fun i=>V.str (dM c (rs.getD i []))) Zu (jm ra.e).1 (jm ra.e).2 ?_ ?_⟩
   .intro i H1 Q1 hi sm q1;have kH:i<rs.length:=Zz
    obtain⟨t,e1,e2⟩:=ra.row kH;rw[e1]
    have hm:rs.getD i []∈rs:=by
     rw[zA7,zA0 kH];exact zAh kH
    exact⟨_,rfl,_,rfl,t,_,c,rfl,sm _ _ e2,ok.2 _ hm,q1⟩
   .intro H1 sm D hD
    have e2:(List.range xs.length).map (fun i=>V.str (dM c (rs.getD i [])))=(rs.map (dM c)).map V.str:=by
     rw[zAr];exact fG rs [] (fun r=>V.str (dM c r)) _ hx
    rw[e2];refine⟨sg 32,D,rs.map (dM c),by rw[show(Str.ofString " ")=sg 32 by decide +kernel],rfl,SqL.of aa,qQ ok,?_⟩;have:=q _ (sm.updR (o:=.lst ((rs.map (dM c)).map V.str)) hD);unfold bD at this;rw[zB0 h0]at this;exact this
theorem mO{c:Nat}{rs:List (List Int)}(h:okNs rs):(bD c rs).length<=4420:=by
 unfold bD;split
 .show 1<=_;decide
 .rename_i h0
  have h1:=jj 32 (ws:=rs.map (dM c)) (by simpa using h0)
  have h2:∀rs:List (List Int),(∀r∈rs,okN r)->lsum (rs.map (dM c))<=rs.length*220:=fun rs=>by
   induction rs with
   |nil=>intro _;exact zAp _
   |cons n r ih=>
    intro h;have:=ih fun m hm=>h m (.tail _ hm);have h3:=xV (c:=c) (h n (.head _));show(dM c n).length+lsum (r.map (dM c))<=_;rw[zAe,Nat.succ_mul];lia
  have h3:=h2 rs h.2;have h4:rs.length*220<=20*220:=Nat.mul_le_mul_right _ h.1;have:=h.1;rw[zA1]at h1;lia
structure BkT(H:Hp)(bk ac:Addr)(xc:List V)(cs:List (List Int))(ap:Addr)(xp:List V)(ps:List (List Int))(ag:Addr)(xs:List V)(ss:List (List Int)):Prop where
 e:H bk=some (.tup [.ref ac,.ref ap,.ref ag])
 rc:RowsAt H ac xc cs
 rp:RowsAt H ap xp ps
 rs:RowsAt H ag xs ss
 oc:okNs cs
 op:okNs ps
 os:okNs ss
theorem BkT.same{H H':Hp}{bk ac:Addr}{xc:List V}{cs:List (List Int)}{ap:Addr}{xp:List V}{ps:List (List Int)}{ag:Addr}{xs:List V}{ss:List (List Int)}(b:BkT H bk ac xc cs ap xp ps ag xs ss)(s:Same H H'):BkT H' bk ac xc cs ap xp ps ag xs ss:=
 ⟨s _ _ b.e,b.rc.same s,b.rp.same s,b.rs.same s,b.oc,b.op,b.os⟩
inductive SpBookTI(vs:List V)(H:Hp)(Q:VK):Prop
 |mk:∀S bk d ac xc cs ap xp ps ag xs ss,(vs=[.ref bk])->(IsTh S H (.ref bk) d)->(sz d<=4000)->(cu d=true)->(BkT H bk ac xc cs ap xp ps ag xs ss)->(∀H',Same H H'->Q (.str (gM cs ps ss)) H')->SpBookTI  vs H Q
def xX:Sp:=fun vs H Q _=>SpBookTI  vs H Q
theorem qR{cs ps ss:List (List Int)}(h1:okNs cs)(h2:okNs ps)(h3:okNs ss):JoinOk (sg 10) [bD 47 cs,bD 44 ps,bD 44 ss]=true:=by
 refine oZ (B:=4420) (fun y hy=>?_) (by show 3*4420+3*1<=_;decide);simp only[List.mem_cons,List.not_mem_nil,or_false]at hy;rcases hy with rfl|rfl|rfl
 .exact mO h1
 .exact mO h2
 .exact mO h3
theorem Gg{a b:V}:[a,V.str (Str.ofString "/"),b]=[a,V.str (sg 47),b]:=by rw[show(Str.ofString "/")=sg 47 by decide +kernel]
theorem xY{a b:V}:[a,V.str (Str.ofString ","),b]=[a,V.str (sg 44),b]:=by rw[show(Str.ofString ",")=sg 44 by decide +kernel]
theorem scBT:FnScope ["book","clips","promises","sales","lines"] ["book"] (au (top 51)):=fQS
theorem Dk(F:Fun K "book_text" "book_text" (top 51) f fd)(X:Txs mg)(c1:Cal P w K mg base 7 "refuse_no_book" ["thing"] CN)(c2:Cal P w K mg base 2 "rows_text" ["rows","sign","without"] xW):FnOk P w K mg base CX0 8 f fd ["book"] xX:=by
 refine F.ok scBT (fun vs H Q E h=>?_) (fun cdv A outer s H vs Q E hr h=>?_)
 .obtain⟨S,bk,d,ac,xc,cs,ap,xp,ps,ag,xs,ss,rfl,_⟩:=h;rfl
 .obtain⟨S,bk,d,ac,xc,cs,ap,xp,ps,ag,xs,ss,rfl,th,hz,hb,B,q⟩:=h;obtain⟨t1,e1⟩:=X.none_;have e1:mg "NONE_THERE"=some (.str (sg 45) t1):=by rw[e1,show(Str.ofString "-")=sg 45 by decide +kernel]
  refine K80P.ok_b (aF ⟨wG (aG c1 hr (ak (pv 0) aj))⟩
   (aF ⟨dU (pv 0) (dR rfl (az (pgn 1 scBT.nd) (az (pgn 2 scBT.nd) (az (pgn 3 scBT.nd) bT))))⟩
   (aF (gw 4 scBT.nd (cN (aU ⟨aG c2 hr (ak (pv 1) (ak aX (ak (bO (v:=.str (sg 45)) rfl e1 ⟨_,rfl⟩) aj)))⟩ (aU ⟨aG c2 hr (ak (pv 2) (ak aX (ak (bO (v:=.str (sg 45)) rfl e1 ⟨_,rfl⟩) aj)))⟩ (aU ⟨aG c2 hr (ak (pv 3) (ak aX (ak (bO (v:=.str (sg 45)) rfl e1 ⟨_,rfl⟩) aj)))⟩ bK)))))
   (bx ⟨aO (dI PySem.F.plainAttrs_str PySem.F.slot_str_join PySem.F.type_str_join fK aX (ak (pv 4) aj))⟩)))) ?_
  refine aB ?_;refine⟨_,rfl,S,_,d,rfl,th,hz,hb,fun H1 s1=>?_⟩;dsimp only;have B1:=B.same s1;refine aB ?_;refine⟨_,rfl,bk,_,rfl,SqT.of B1.e,rfl,_,_,rfl,_,_,rfl,_,_,rfl,rfl,?_⟩;dsimp only;refine aB (aV ?_);refine fY ?_;refine⟨_,rfl,ac,xc,cs,47,Gg,B1.rc,B.oc,fun H2 s2=>?_⟩;refine⟨_,rfl,ap,xp,ps,44,xY,(B1.same s2).rp,B.op,fun H3 s3=>?_⟩;refine⟨_,rfl,ag,xs,ss,44,xY,(B1.same (s2.trans s3)).rs,B.os,fun H4 s4=>⟨zL,fun L hL=>?_⟩⟩;refine aH ?_;dsimp only;refine eQ ?_;refine⟨rfl,_,rfl,sg 10,L,[bD 47 cs,bD 44 ps,bD 44 ss],by rw[show(Str.ofString "\n")=sg 10 by decide +kernel],rfl,SqL.of aa,qR B.oc B.op B.os,?_⟩;exact q _ (((s1.trans (s2.trans (s3.trans s4)))).updR hL)
theorem calm{k:Nat}{f:Addr}{fd:FuncData}{ps:List Str}{sp sp':Sp}(G:FnOk P w K mg base (CX1 P w) k f fd ps sp)(h:∀vs H Q E,sp' vs H Q E->sp vs H Q fun _ _ _=>False):FnOk P w K mg base CX0 k f fd ps sp':=
 ⟨fun vs H Q E x=>G.len _ _ _ _ (h vs H Q E x),fun A outer s H args us vs Q E hr e b v x=>codeAny_mono (G.run A outer s H args us vs Q _ hr e b v (h vs H Q E x)) fun r s' hq=>by
  cases r with
  |ok o=>
   cases o with
   |ret u=>exact hq
   |_=>exact(show False from hq).elim
  |error x=>
   obtain⟨a,C,H',T,_,_,_,_,_,_,_,_,_,_,q⟩:=hq
   exact q.elim⟩
def Ja(Cs:Nat->Addr)(b:Bool)(R:VK->Hp->Prop)(H:Hp)(Q:VK)(E:XK):Prop:=(b=true->R Q H)/\(b=false->∀a H',Same H H'->H' a=none->E (.ref a) (some (Cs 14)) H')
def Dl(Cs:Nat->Addr):Sp:=fun vs H Q E=>∃z c,vs=[.str z,.str (sg c)]/\Asc z/\z.length<=4000/\Ja Cs (okW c z) (fun Q H=>∀p H',Same H H'->H' p=some (.tup ((jU c z).map V.int))->Q (.ref p) H') H Q E
theorem scRR:FnScope ["word","sign","numbers"] ["word","sign"] (au (top 52)):=fQS
theorem mQ:bootBuiltins "int"=some (.type "int"):=by decide +kernel
theorem fP:bootBuiltins "tuple"=some (.type "tuple"):=by decide +kernel
theorem fQ{c:Nat}{z p:Str}(ha:Asc z)(hp:p∈aM c z):Asc p:=fun d hd=>ha d (BL hp hd)
theorem fH{c:Nat}{z:Str}:(aM c z).length<=z.length+1:=by
 have:=dJ c z;lia
theorem Gh{f:Addr}{Cs:Nat->Addr}{fd:FuncData}(F:Fun K "row_read" "row_read" (top 52) f fd)(T:Mg mg)(oB:PyProof.Rows.OwnCls "NoText" (Cs 14) VE "ValueError.__new__" mg base)(c1:Cal P w K mg base 1 "is_number" ["word"] GZ):FnOk P w K mg base (CX1 P w) 2 f fd ["word","sign"] (Dl Cs):=by
 refine F.okX scRR (fun vs H Q E h=>?_) (fun cdv A outer s H vs Q E hr h=>?_)
 .obtain⟨z,c,rfl,_⟩:=h;rfl
 .obtain⟨z,c,rfl,ha,hz,q1,q2⟩:=h
  refine⟨_,aJ (pss 2 scRR.nd (dI PySem.F.plainAttrs_str PySem.F.slot_str_split PySem.F.type_str_split eU (pv 0) (ak (pv 1) aj)))
   (aJ (bZ (bN (bM (aK (eG rfl) rfl T.all qO (ak (bG ["number"] [none] rfl (fJ (pv 2)) (fun C fp Zt s₂ H₂=>⟨bw (i:=0) (nd1 _) rfl (Or.inl rfl),bJ,aG c1 hr (ak (pv 0) aj)⟩) (fun C=>trivial) ⟨rfl,rfl,rfl,rfl⟩) aj)))) (aD (kZ oB PySem.F.excBase_ValueError rfl rfl rfl (ak aX aj) gK)) bc)
   (aD (aO (bI bW rfl T.tuple fP (ak (bG ["number"] [none] rfl (fJ (pv 2)) (fun C fp Zt s₂ H₂=>⟨bw (i:=0) (nd1 _) rfl (Or.inl rfl),bJ,bI gY rfl T.int mQ (ak (pv 0) aj)⟩) (fun C=>trivial) ⟨rfl,rfl,rfl,rfl⟩) aj))))),?_⟩
  have hc:=fH (c:=c) (z:=z);refine aB (aV ?_);refine⟨_,rfl,rfl,_,rfl,z,c,rfl,rfl,by rw[sizeLine_eq];lia,fun l hl nl=>?_⟩;have s1:=Same.upd (o:=.lst ((aM c z).map V.str)) hl;have el:=aa (H:=H) (a:=l) (o:=.lst ((aM c z).map V.str));refine aH ?_;dsimp only;show Ae _ _ _ _ (upd H l (.lst ((aM c z).map V.str)));generalize upd H l (.lst ((aM c z).map V.str))=H1 at s1 el⊢
  have AG:∀i,i<(aM c z).length->((aM c z).map V.str).getD i .non=V.str ((aM c z).getD i (sg 0))/\(aM c z).getD i (sg 0)∈aM c z:=fun i hi=>by
   rw[zA7,zAb,zA7,zA0 hi];exact⟨rfl,zAh hi⟩
  refine aB ?_;refine⟨_,rfl,l,rfl,⟨_,SqL.of el⟩,gF ((aM c z).map V.str).length (fun i=>((aM c z).map V.str).getD i .non) (fun i=>V.bl (cF ((aM c z).getD i (sg 0)))) (by rw[zA1,sizeLine_eq];lia) (jl el).1 (jl el).2 ?_ ?_⟩
  .intro i H2 Q2 hi sm q3;rw[zA1]at hi;obtain⟨e1,e2⟩:=AG i hi;rw[e1];exact⟨_,rfl,_,rfl,fQ ha e2,by have:=jC e2;lia,q3⟩
  .intro H2 sm D hD
   have e2:(List.range ((aM c z).map V.str).length).map (fun i=>V.bl (cF ((aM c z).getD i (sg 0))))=((aM c z).map cF).map V.bl:=by
    rw[zAr];exact fG (aM c z) (sg 0) (fun n=>V.bl (cF n)) _ (by rw[zA1])
   rw[e2];refine⟨D,(aM c z).map cF,rfl,SqL.of aa,_,rfl,?_⟩
   have e3:((aM c z).map cF).all id=okW c z:=by
    rw[List.all_map];rfl
   rw[e3];have s2:=(s1.trans sm).updR (o:=.lst (((aM c z).map cF).map V.bl)) hD;have el2:=Same.upd (o:=.lst (((aM c z).map cF).map V.bl)) hD _ _ (sm _ _ el);generalize upd H2 D (.lst (((aM c z).map cF).map V.bl))=H3 at s2 el2⊢
   cases hb:okW c z with
   |false=>exact aY ⟨by decide,fun a ha=>q2 hb a _ s2 ha⟩
   |true=>
    refine aW (bB ?_);dsimp only;refine eQ ?_;have hn:∀p∈aM c z,cF p=true:=List.all_eq_true.mp hb;refine⟨_,rfl,l,rfl,⟨_,SqL.of el2⟩,gF ((aM c z).map V.str).length (fun i=>((aM c z).map V.str).getD i .non) (fun i=>V.int (gA ((aM c z).getD i (sg 0)))) (by rw[zA1,sizeLine_eq];lia) (jl el2).1 (jl el2).2 ?_ ?_⟩
    .intro i H4 Q4 hi Lv q4;rw[zA1]at hi;obtain⟨e1,e2⟩:=AG i hi;rw[e1];have hx:=hn _ e2;unfold cF at hx;simp only[Bool.and_eq_true,Zq]at hx;exact⟨_,rfl,_,_,rfl,uP hx.1 hx.2.1 hx.2.2.1,Zz,q4 _ (Same.refl _)⟩
    .intro H4 Lv D4 Ow
     have e5:(List.range ((aM c z).map V.str).length).map (fun i=>V.int (gA ((aM c z).getD i (sg 0))))=(jU c z).map V.int:=by
      unfold jU;rw[zAr];exact fG (aM c z) (sg 0) (fun n=>V.int (gA n)) _ (by rw[zA1])
     rw[e5];refine⟨D4,_,rfl,.inl ⟨SqL.of aa,fun p hp=>?_⟩⟩;exact q1 hb p _ (((s2.trans Lv).updR Ow).updR hp) aa
def xZ(Cs:Nat->Addr):Sp:=fun vs H Q E=>∃z c,vs=[.str z,.str (sg c)]/\Asc z/\z.length<=4000/\Ja Cs (okL c z) (fun Q H=>∀a xs H',Same H H'->RowsAt H' a xs (dN c z)->Q (.ref a) H') H Q E
theorem Lk:FnScope ["line","sign"] ["line","sign"] (au (top 53)):=fQS
theorem Ln:(["word","sign"]:List Str).Nodup:=by decide +kernel
theorem Dm{f:Addr}{Cs:Nat->Addr}{fd:FuncData}(F:Fun K "rows_read" "rows_read" (top 53) f fd)(T:Mg mg)(X:Txs mg)(c1:ww P w K mg base 2 "row_read" ["word","sign"] (Dl Cs)):FnOk P w K mg base (CX1 P w) 3 f fd ["line","sign"] (xZ Cs):=by
 refine F.okX Lk (fun vs H Q E h=>?_) (fun cdv A outer s H vs Q E hr h=>?_)
 .obtain⟨z,c,rfl,_⟩:=h;rfl
 .obtain⟨z,c,rfl,ha,hz,q1,q2⟩:=h;obtain⟨t1,e1⟩:=X.none_;have e1:mg "NONE_THERE"=some (.str (sg 45) t1):=by rw[e1,show(Str.ofString "-")=sg 45 by decide +kernel]
  obtain⟨f1,LA,F1,m1,k1,b1⟩:=c1
  refine⟨_,aD (aO (ik (bj iW (pv 0) (bO (v:=.str (sg 45)) rfl e1 ⟨_,rfl⟩) (bf _)) (bU aj)
   (bI bW rfl T.tuple fP (ak (By (EX:=E) ["word","sign"] [none,some 1] rfl rfl rfl Bx (fJ (dI PySem.F.plainAttrs_str PySem.F.slot_str_split PySem.F.type_str_split eU (pv 0) (ak aX aj)))
    (fun C fp Zt s₂ H₂=>⟨pgn 0 Ln,bJ,rC F1 (hr.mono Zx) rfl m1 k1 b1 .nil K1 (ak (pv 0) (ak (pv 1) aj))⟩) (fun C=>cI trivial) ⟨rfl,rfl,rfl,rfl⟩) aj)))),?_⟩
  refine⟨_,rfl,rfl,_,rfl,?_⟩;by_cases hd:z=sg 45
  .subst hd;rw[decide_eq_true rfl];refine aY ⟨zL,fun p hp=>?_⟩;exact q1 rfl p [] _ (Same.upd hp) ⟨aa,rfl,fun i r e=>by simp[dN]at e⟩
  .rw[zAy (fun z=>hd (by injection z))];refine aW ?_;have hc:=fH (c:=32) (z:=z);have eL:okL c z=(aM 32 z).all (okW c):=by unfold okL;rw[zAy hd];rfl
   have eV:dN c z=(aM 32 z).map (jU c):=zB0 hd;refine⟨_,rfl,rfl,z,32,rfl,by rw[show(Str.ofString " ")=sg 32 by decide +kernel],by rw[sizeLine_eq];lia,fun l hl nl=>⟨l,rfl,⟨_,SqL.of aa⟩,?_⟩⟩;have s1:=Same.upd (o:=.lst ((aM 32 z).map V.str)) hl;have el:=aa (H:=H) (a:=l) (o:=.lst ((aM 32 z).map V.str));show iw _ _ _ _ _ _ (upd H l (.lst ((aM 32 z).map V.str)));generalize upd H l (.lst ((aM 32 z).map V.str))=H1 at s1 el⊢;have G:=jl (K:=K) el;rw[zA1]at G;refine cV (aM 32 z).length (fun i ys σ Hd=>Same H1 Hd/\(∃o,σ=[o,some (.str (sg c))])/\Els Hd ys (((aM 32 z).take i).map (jU c))/\∀p∈(aM 32 z).take i,okW c p=true) ⟨Same.refl _,⟨_,rfl⟩,Els.nil,fun p hp=>by cases hp⟩ Zu ?_ ?_
   .rintro i ys σ Hd hi hy ⟨sm,⟨o,rfl⟩,AH,dQ⟩;obtain⟨g1,g2⟩:=G.1 i Hd hi sm;refine⟨g1,fun x H' y R hR=>?_⟩;obtain⟨rfl,rfl⟩:=g2 x H' y
    have e2:((aM 32 z).map V.str).getD i .non=V.str (aM 32 z)[i]:=by
     rw[zA7,zAb,zA0 hi];rfl
    rw[e2];have hm:(aM 32 z)[i]∈aM 32 z:=zAh hi;refine aH ?_;refine⟨_,rfl,_,rfl,(aM 32 z)[i],c,rfl,fQ ha hm,by have:=jC hm;lia,fun hb p H2 s2 ep=>?_,fun hb a H2 s2 ES=>?_⟩
    .refine hR _ _ _ ⟨sm.trans s2,⟨_,rfl⟩,?_,?_⟩
     .rw[zAj,zA0 hi,zA4];exact(AH.same s2).app (Els.one ep)
     .intro p hp;rw[zAj,zA0 hi]at hp;rcases zA6.mp hp with hp|hp
      .exact dQ p hp
      .rw[List.mem_singleton.mp hp];exact hb
    .refine q2 ?_ a H2 ((s1.trans sm).trans s2) ES;rw[eL]
     cases e:(aM 32 z).all (okW c)with
     |false=>rfl
     |true=>
      have:=List.all_eq_true.mp e _ hm;rw[hb]at this;cases this
   .rintro ys σ Hd hy ⟨sm,_,AH,dQ⟩;refine⟨G.2 Hd sm,fun D hD=>⟨D,ys,rfl,.inl ⟨SqL.of aa,fun p hp=>?_⟩⟩⟩;rw[List.take_of_length_le (zA3 _)]at AH dQ;refine q1 (by rw[eL];exact List.all_eq_true.mpr dQ) p ys _ (((s1.trans sm).updR hD).updR hp) ⟨aa,?_,?_⟩
    .rw[eV];exact AH.1
    .rw[eV];intro j r e;obtain⟨t,e3,e4⟩:=AH.2 j r e;exact⟨t,e3,Same.upd hp _ _ (Same.upd hD _ _ e4)⟩
def ln(x:Str)(i:Nat):Str:=(aM 10 x).getD i (sg 0)
def fU(x:Str):PyData:=.tuple [aQ (dN 47 (ln x 0)),aQ (dN 44 (ln x 1)),aQ (dN 44 (ln x 2))]
def okB(x:Str):Bool:=decide ((aM 10 x).length=3)&&(okL 47 (ln x 0)&&(okL 44 (ln x 1)&&(okL 44 (ln x 2)&&cu (fU x))))
def okD:PyData->Bool
 |.str x=>okB x
 |_=>false
def jo:PyData->PyData
 |.str x=>fU x
 |d=>d
def tE:PyData->Bool
 |.str _=>true
 |_=>false
theorem ph{K:Frag}(d:PyData):PySem.W.kitOne K (.type (tyD d)) (.type "str")=some (tE d):=by
 cases d<;>kernel_rfl
def okX(d:PyData):Prop:=sz d<=4000/\∀x,d=.str x->Asc x/\x.length<=1990
def wy(Cs:Nat->Addr):Sp:=fun vs H Q E=>∃S v d,vs=[v]/\IsTh S H v d/\okX d/\Ja Cs (okD d) (fun Q H=>∀b H',Same H H'->IsTh (fun _=>False) H' (.ref b) (jo d)->Q (.ref b) H') H Q E
theorem tG(c:Nat)(l:Str):szs ((dN c l).map rowD)<=2*l.length+2:=by
 unfold dN;split
 .exact zAp _
 .have h1:=dJ 32 l
  have h2:∀ws:List Str,szs ((ws.map (jU c)).map rowD)<=lsum ws+2*ws.length:=fun ws=>by
   induction ws with
   |nil=>exact zAp _
   |cons w ws ih=>
    have h3:=dJ c w;show(1+szs ((jU c w).map PyData.int))+szs ((ws.map (jU c)).map rowD)<=(w.length+lsum ws)+2*(ws.length+1)
    have h4:szs ((jU c w).map PyData.int)=(aM c w).length:=by
     have:∀l:List Int,szs (l.map PyData.int)=l.length:=fun l=>by
      induction l with
      |nil=>rfl
      |cons a l ih=>show 1+szs (l.map PyData.int)=l.length+1;lia
     rw[this];unfold jU;rw[zA1]
    lia
  have:=h2 (aM 32 l);lia
theorem tH{x:Str}(h:(aM 10 x).length=3):aM 10 x=[ln x 0,ln x 1,ln x 2]:=by
 match e:aM 10 x,h with
 |[a,b,c],_=>
  unfold ln;rw[e];rfl
theorem tK{x:Str}(h:(aM 10 x).length=3){i:Nat}(hi:i<3):ln x i∈aM 10 x:=by
 unfold ln;rw[zA7,zA0 Zz];exact zAh _
theorem Gi{x:Str}(h:(aM 10 x).length=3):sz (fU x)<=2*x.length+10:=by
 have h1:=dJ 10 x;rw[tH h]at h1;have h1:(ln x 0).length+((ln x 1).length+((ln x 2).length+0))+3=x.length+1:=h1;have a:=tG 47 (ln x 0);have b:=tG 44 (ln x 1);have c:=tG 44 (ln x 2);show 1+((1+szs ((dN 47 (ln x 0)).map rowD))+((1+szs ((dN 44 (ln x 1)).map rowD))+((1+szs ((dN 44 (ln x 2)).map rowD))+0)))<=_;lia
theorem scRB:FnScope ["text","clips","promises","sales","book"] ["text"] (au (top 54)):=fQS
theorem Jb{a:V}:[a,V.str (Str.ofString "/")]=[a,V.str (sg 47)]:=by rw[show(Str.ofString "/")=sg 47 by decide +kernel]
theorem Dn{a:V}:[a,V.str (Str.ofString ",")]=[a,V.str (sg 44)]:=by rw[show(Str.ofString ",")=sg 44 by decide +kernel]
theorem v8{f:Addr}{Cs:Nat->Addr}{fd:FuncData}(F:Fun K "read_book" "read_book" (top 54) f fd)(T:Mg mg)(Ts:mg "str"=none)(oB:PyProof.Rows.OwnCls "NoText" (Cs 14) VE "ValueError.__new__" mg base)(c1:ww P w K mg base 3 "rows_read" ["line","sign"] (xZ Cs))(c2:Cal P w K mg base 6 "is_book" ["thing"] (spT cu)):FnOk P w K mg base (CX1 P w) 7 f fd ["text"] (wy Cs):=by
 refine F.okX scRB (fun vs H Q E h=>?_) (fun cdv A outer s H vs Q E hr h=>?_)
 .obtain⟨S,v,d,rfl,_⟩:=h;rfl
 .obtain⟨S,v,d,rfl,th,ok,q1,q2⟩:=h
  refine⟨_,aJ (bZ (PW.pt (gG (bN (bM (aK bR rfl T.isinstance boot_isinstance (ak (pv 0) (ak (dO rfl Ts gm (v:=.ty "str") rfl) aj))))) (gQ (bj nR (dI PySem.F.plainAttrs_str PySem.F.slot_str_count PySem.F.type_str_count Bs (pv 0) (ak aX aj)) ao (bf _))))) (aD (kZ oB PySem.F.excBase_ValueError rfl rfl rfl (ak aX aj) gK)) bc)
   (aJ (dU (dI PySem.F.plainAttrs_str PySem.F.slot_str_split PySem.F.type_str_split eU (pv 0) (ak aX aj)) (Iz rfl (az (pgn 1 scRB.nd) (az (pgn 2 scRB.nd) (az (pgn 3 scRB.nd) bT)))))
   (aJ (pss 4 scRB.nd (bU (ak (jE (E:=E) c1 hr Zx rfl gK rfl (ak (pv 1) (ak aX aj))) (ak (jE (E:=E) c1 hr Zx rfl gK rfl (ak (pv 2) (ak aX aj))) (ak (jE (E:=E) c1 hr Zx rfl gK rfl (ak (pv 3) (ak aX aj))) aj)))))
   (aJ (bZ (bN (bM (aG c2 hr (ak (pv 4) aj)))) (aD (kZ oB PySem.F.excBase_ValueError rfl rfl rfl (ak aX aj) gK)) bc)
   (aD (aO (pv 4)))))),?_⟩
  refine aB ?_;refine⟨_,rfl,v,_,"str",tE d,rfl,th.ty,ph d,_,rfl,?_⟩
  cases d with
  |str x=>
   cases th;obtain⟨ha,hz⟩:=ok.2 x rfl;refine aW ?_;refine⟨_,rfl,rfl,_,_,rfl,rfl,rfl,_,rfl,?_⟩;have LB:=(split_count x 10).1;have LB:((aM 10 x).length:Int)=Txt.count x (sg 10)+1:=LB;have jS:(Str.ofString "\n")=sg 10:=by decide +kernel
   rw[show Txt.count x (Str.ofString "\n")=Txt.count x (sg 10) by rw[jS]];by_cases h3:(aM 10 x).length=3
   .have kx:Txt.count x (sg 10)=2:=Zz
    rw[kx];refine aW (bB ?_);dsimp only;refine aB (aV ?_);refine⟨_,rfl,rfl,x,10,rfl,by rw[jS],by rw[sizeLine_eq];lia,fun l hl nl=>⟨l,_,rfl,SqL.of aa,by rw[zA1];exact h3,?_⟩⟩;have e3:(Txt.split x ⟨#[10]⟩)=[ln x 0,ln x 1,ln x 2]:=tH h3;rw[e3];refine⟨_,_,rfl,_,_,rfl,_,_,rfl,rfl,?_⟩;have s1:=Same.upd (o:=.lst ([ln x 0,ln x 1,ln x 2].map V.str)) hl;dsimp only;generalize upd H l (.lst ([ln x 0,ln x 1,ln x 2].map V.str))=H1 at s1⊢
    have ag:∀i,i<3->Asc (ln x i)/\(ln x i).length<=4000:=fun i hi=>⟨fQ ha (tK h3 hi),by have:=jC (tK h3 hi);lia⟩
    have eo:okD (.str x)=(okL 47 (ln x 0)&&(okL 44 (ln x 1)&&(okL 44 (ln x 2)&&cu (fU x)))):=by
     show okB x=_;unfold okB;rw[zAu h3];rfl
    refine aB (aV ?_);refine⟨_,rfl,ln x 0,47,Jb,(ag 0 Zx).1,(ag 0 Zx).2,fun h0 a1 x1 H2 s2 r1=>?_,fun h0 a H2 s2 ES=>q2 (by rw[eo,h0];rfl) a H2 (s1.trans s2) ES⟩;refine⟨_,rfl,ln x 1,44,Dn,(ag 1 Zx).1,(ag 1 Zx).2,fun h1 a2 x2 H3 s3 r2=>?_,fun h1 a H3 s3 Ox=>q2 (by rw[eo,h0,h1];rfl) a H3 ((s1.trans s2).trans s3) Ox⟩;refine⟨_,rfl,ln x 2,44,Dn,(ag 2 Zx).1,(ag 2 Zx).2,fun h2 a3 x3 H4 s4 r3=>⟨zL,fun bk BQ=>?_⟩,fun h2 a H4 s4 Oy=>q2 (by rw[eo,h0,h1,h2];rfl) a H4 (((s1.trans s2).trans s3).trans s4) Oy⟩;have s5:=Same.upd (o:=.tup [.ref a1,.ref a2,.ref a3]) BQ;have tb:IsTh (fun _=>False) (upd H4 bk (.tup [.ref a1,.ref a2,.ref a3])) (.ref bk) (fU x):=.tup aa (.cons (((r1.same (s3.trans s4)).same s5).th) (.cons ((r2.same s4).same s5).th (.cons (r3.same s5).th .nil)));have sA:=(((s1.trans s2).trans s3).trans s4).trans s5;refine aH ?_;dsimp only;generalize upd H4 bk (.tup [.ref a1,.ref a2,.ref a3])=H5 at tb sA⊢;refine aB ?_;refine⟨_,rfl,_,_,_,rfl,tb,by have:=Gi h3;lia,fun H6 s6=>⟨_,rfl,?_⟩⟩;rw[h0,h1,h2]at eo
    cases hb:cu (fU x)with
    |false=>
     rw[hb]at eo;exact aY ⟨by decide,fun a ha=>q2 eo a _ (sA.trans s6) ha⟩
    |true=>
     rw[hb]at eo;refine aW (bB ?_);dsimp only;refine eQ ?_;exact⟨_,rfl,q1 eo bk H6 (sA.trans s6) (tb.same s6)⟩
   .have kx:Txt.count x (sg 10)≠2:=Zz
    rw[zAy (fun z=>kx (by injection z))];refine aY ⟨by decide,fun a ha=>q2 ?_ a _ (Same.refl _) ha⟩;show okB x=false;unfold okB;rw[zAy h3];rfl
  |_=>
   refine aY ⟨by decide,fun a ha=>q2 rfl a _ (Same.refl _) ha⟩
def eZ(bs:List PyData)(d:PyData):Bool:=dg d&&(decide ((items d).length=bs.length)&&(List.zipWith iT (items d) bs).all id)
def jG(d:PyData)(m:Int)(bs:List PyData):Bool:=dg d&&(decide (((items d).length:Int)<=m)&&(items d).all (eZ bs))
inductive SpAreI(vs:List V)(H:Hp)(Q:VK):Prop
 |mk:∀S v d m lb zb bs,(vs=[v,.int m,.ref lb])->(IsTh S H v d)->(sz d<=4000)->(H lb=some (.lst zb))->(IsThs (fun _=>False) H zb bs)->(bs.length<=6)->((∀e∈bs,∃lo hi,e=.tuple [.int lo,.int hi]))->(∀H',Same H H'->Q (.bl (jG d m bs)) H')->SpAreI  vs H Q
def Hk:Sp:=fun vs H Q _=>SpAreI  vs H Q
theorem wz{S:Addr->Prop}{H:Hp}:∀{xs:List V} {ds:List PyData} {i:Nat} {x:V} {d:PyData},IsThs S H xs ds->xs[i]?=some x->ds[i]?=some d->IsTh S H x d
 |_,_,i,_,_,.nil,h,_=>by simp at h
 |_,_,0,_,_,.cons t _,h,g=>by cases h;cases g;exact t
 |_,_,i+1,_,_,.cons _ r,h,g=>wz r (by simpa using h) (by simpa using g)
theorem scW:FnScope ["_law_thing","_law_low","_law_high"] ["_law_thing","_law_low","_law_high"] (au (top 72)):=fQS
theorem zT(F:Fun K "_law_whole" "_law_whole" (top 72) f fd)(T:Mg mg):FnOk P w K mg base CX0 1 f fd ["_law_thing","_law_low","_law_high"] (uU mJ):=by
 refine F.ok scW (fun vs H Q E h=>?_) (fun cdv A outer s H vs Q E hr h=>?_)
 .obtain⟨S,v,d,n,m,rfl,_⟩:=h;rfl
 .obtain⟨S,v,d,n,m,rfl,th,hz,q⟩:=h
  refine⟨_,aD (aO (cC (aK bR rfl T.isinstance boot_isinstance (aP (pv 0) (aP (dO rfl T.int boot_int (v:=.ty "int") rfl) aj)))
   (cC (Ac (aK bR rfl T.isinstance boot_isinstance (aP (pv 0) (aP (dO rfl T.bool boot_bool (v:=.ty "bool") rfl) aj)))) (f9 (cP cj cj (pv 1) (pv 0) (pv 2)))))),?_⟩
  refine⟨_,rfl,v,_,"int",lX d,rfl,th.ty,wX d,_,rfl,?_⟩;have fin:=q H (Same.refl H);unfold mJ bH at fin
  cases e:lX d with
  |false=>
   rw[e]at fin;exact aW fin
  |true=>
   rw[e]at fin;refine aY ⟨_,rfl,v,_,"bool",kE d,rfl,th.ty,ul d,_,rfl,_,rfl,?_⟩
   cases e2:kE d with
   |true=>
    rw[e2]at fin;exact aW fin
   |false=>
    rw[e2]at fin;refine aY ?_
    cases d with
    |int i=>
     cases th;exact cQ (gr rfl) (gr rfl) (gr rfl) _ fin
    |bool b=>cases e2
    |_=>cases e
theorem scAr:FnScope ["_law_thing","_law_most","_law_bounds","_law_row"] ["_law_thing","_law_most","_law_bounds"] (au (top 73)):=fQS
theorem Jc:(["_law_one","_law_low","_law_high"]:List Str).Nodup:=by decide +kernel
theorem Jd(F:Fun K "_law_are" "_law_are" (top 73) f fd)(T:Mg mg)(Tz:mg "zip"=none)(c1:Cal P w K mg base 1 "_law_whole" ["_law_thing","_law_low","_law_high"] (uU mJ)):
  FnOk P w K mg base CX0 2 f fd ["_law_thing","_law_most","_law_bounds"] Hk:=by
 refine F.ok scAr (fun vs H Q E h=>?_) (fun cdv A outer s H vs Q E hr h=>?_)
 .obtain⟨S,v,d,m,lb,zb,bs,rfl,_⟩:=h;rfl
 .obtain⟨S,v,d,m,lb,zb,bs,rfl,th,hz,eb,tb,Sr,xh,q⟩:=h
  refine K80P.ok_b (aF ⟨bZ (PW.pt (gG (bN (bM (aK bR rfl T.isinstance boot_isinstance (ak (pv 0) (ak (dO rfl T.tuple boot_tuple (v:=.ty "tuple") rfl) aj)))))
    (gQ (bj tZ (aK bF rfl T.len PySem.boot_len (ak (pv 0) aj)) (pv 1) (bf _))))) (aD (aO ig)) bc⟩
   (aF ⟨fW zB7 rfl (fV (pv 0)) (pgn 3 scAr.nd)
    (jH (aF ⟨bZ (PW.pt (gG (bN (bM (aK bR rfl T.isinstance boot_isinstance (ak (pv 3) (ak (dO rfl T.tuple boot_tuple (v:=.ty "tuple") rfl) aj)))))
      (gQ (bj nR (aK bF rfl T.len PySem.boot_len (ak (pv 3) aj)) (aK bF rfl T.len PySem.boot_len (ak (pv 2) aj)) (bf _))))) (aD (aO ig)) bc⟩
     (bx ⟨bZ (bN (bM (aK (eG rfl) rfl T.all boot_all (ak (bG (g:=vy K 2 (j8 (dH 0) (j8 (vy K 2 (j8 (dH 1) (j8 (dH 2) yH))) yH))) ["_law_one","_law_low","_law_high"] [none,none,none] rfl (pi_zip rfl Tz (ak (pv 3) (ak (pv 2) aj)))
      (fun C fp Zt s₂ H₂=>⟨kO rfl rfl (az (pgn 0 Jc) (az (kO rfl rfl (az (pgn 1 Jc) (az (pgn 2 Jc) bT))) bT)),bJ,
       aG c1 hr (ak (pv 0) (ak (pv 1) (ak (pv 2) aj)))⟩) (fun C=>trivial) ⟨rfl,rfl,rfl,rfl⟩) aj)))) (aD (aO ig)) bc⟩)))⟩
   (bx (fj oG)))) ?_
  unfold jG at q;refine aB ?_;refine⟨_,rfl,v,_,"tuple",dg d,rfl,th.ty,nG d,_,rfl,?_⟩
  cases e:dg d with
  |false=>
   rw[e]at q;exact aY (aY (q H (Same.refl H)))
  |true=>
   rw[e]at q;refine aW ?_
   cases th with
   |@tup a xs ds ea r=>
    have hl:=r.length;refine⟨_,rfl,a,xs,rfl,.inr (SqT.of ea),_,rfl,_,_,rfl,rfl,_,rfl,?_⟩;have q:∀H',Same H H'->Q (.bl (true&&(decide ((ds.length:Int)<=m)&&ds.all (eZ bs)))) H':=q;by_cases e2:(xs.length:Int)>m
    .rw[zAu e2];rw[zAy Zz]at q;exact aY (q H (Same.refl H))
    .rw[decide_eq_false e2];rw[decide_eq_true Zz]at q;refine aW (bB ?_);dsimp only;refine aB ?_;refine⟨_,rfl,a,rfl,⟨_,SqT.of ea⟩,?_⟩;refine wI (xs:=xs) (fun i σ Hc=>∃x,σ=[some (.ref a),some (.int m),some (.ref lb),x]/\Same H Hc/\(ds.take i).all (eZ bs)=true) ⟨_,rfl,Same.refl H,rfl⟩ ?_ ?_ ?_
     .rintro i σ Hc hi ⟨x,rfl,sc,_⟩;exact SqT.of (sc _ _ ea)
     .rintro i x σ Hc hx ⟨x0,rfl,sc,al⟩;have hi:i<ds.length:=by rw[<-hl];exact(zAa.mp hx).1
      have bad:eZ bs ds[i]=false->∀H',Same H H'->Q (.bl false) H':=fun h H' s'=>by
       have:=q H' s';rw[show ds.all (eZ bs)=false from List.all_eq_false.mpr ⟨ds[i],zAh hi,by rw[h];decide⟩]at this;exact this
      have good:eZ bs ds[i]=true->(ds.take (i+1)).all (eZ bs)=true:=fun h=>by
       rw[List.take_succ_eq_append_getElem hi,List.all_append,al];simp[h]
      have tx:IsTh S Hc x ds[i]:=(wz r hx (zA0 hi)).same sc;have zx:sz ds[i]<=4000:=iY (zAh hi) hz;generalize ds[i]=dx at bad good tx zx;refine aH (aB ?_);refine⟨_,rfl,x,_,"tuple",dg dx,rfl,tx.ty,nG dx,_,rfl,?_⟩
      cases e3:dg dx with
      |false=>exact aY (aY (bad (by unfold eZ;rw[e3];rfl) Hc sc))
      |true=>
       refine aW ?_
       cases tx with
       |@tup b ys es ey ry=>
        have cE:=ry.length;refine⟨_,rfl,b,ys,rfl,.inr (SqT.of ey),_,rfl,lb,zb,rfl,.inl (SqL.of (sc _ _ eb)),rfl,_,rfl,?_⟩;have lz:=tb.length;by_cases e4:es.length=bs.length
        .rw[decide_eq_true (by rw[cE,lz,e4])];refine aW (bB ?_);dsimp only;refine⟨_,rfl,_,rfl,b,lb,ys,zb,rfl,SqT.of ey,SqL.of (sc _ _ eb),Bb iT (fun σ=>∃x y z,σ=[x,y,z]) ⟨_,_,_,rfl⟩ ey (sc _ _ eb) ry (tb.same sc) e4 (iz ry zx) ?_ fun H3 s3 D hD=>⟨D,List.zipWith iT es bs,rfl,SqL.of aa,_,rfl,?_⟩⟩
         .rintro T x z dx dz σ H3 R hd he ⟨y1,y2,y3,rfl⟩ s3 eT tx tz hR;obtain⟨lo,hi,rfl⟩:=xh _ he;obtain⟨t,rfl,et⟩:=IW tz;refine⟨T,_,rfl,SqT.of eT,rfl,_,_,rfl,_,_,rfl,⟨t,_,rfl,SqT.of et,rfl,_,_,rfl,_,_,rfl,rfl,rfl,?_⟩⟩;exact⟨_,rfl,_,rfl,_,rfl,S,x,dx,lo,hi,rfl,tx,iY hd zx,fun H4 s4=>hR _ _ ⟨_,_,_,rfl⟩ s4⟩
         .have s4:Same H (upd H3 D (.lst ((List.zipWith iT es bs).map V.bl))):=(sc.trans s3).updR hD
          have er:eZ bs (.tuple es)=(List.zipWith iT es bs).all id:=by
           show(true&&(decide (es.length=bs.length)&&_))=_;rw[zAu e4];rfl
          cases e5:(List.zipWith iT es bs).all id with
          |false=>exact aY (bad (er.trans e5) _ s4)
          |true=>exact aW ⟨_,rfl,s4,good (er.trans e5)⟩
        .rw[zAy fun z=>e4 (by injection z with z;lia)];exact aY (bad (by show(true&&(decide (es.length=bs.length)&&_))=false;rw[zAy e4];rfl) Hc sc)
       |_=>cases e3
     .rintro σ Hc ⟨x,rfl,sc,al⟩;rw[hl,zAm]at al;rw[al]at q;exact q Hc sc
   |_=>cases e
mutual
def pq:PyData->Bool
 |.int i=>decide (i.natAbs<2^100)
 |.tuple xs=>iZ xs
 |_=>true
def iZ:List PyData->Bool
 |[]=>true
 |x::xs=>pq x&&iZ xs
end
theorem lowDs_all:∀{ds:List PyData},iZ ds=true↔∀d∈ds,pq d=true
 |[]=>⟨fun _ d h=>(List.not_mem_nil h).elim,fun _=>rfl⟩
 |x::xs=>by
  show(pq x&&iZ xs)=true↔_;rw[zAc,lowDs_all (ds:=xs)]
  exact⟨fun h d hd=>by
   cases hd with
   |head=>exact h.1
   |tail _ hd=>exact h.2 d hd,fun h=>⟨h x (.head _),fun d hd=>h d (.tail _ hd)⟩⟩
abbrev bC:List PyData:=List.replicate 3 (.tuple [.int 0,.int 999])
abbrev bS:List PyData:=List.replicate 5 (.tuple [.int (-10^31),.int (10^31)])
theorem yc(e:PyData):∀(ds:List PyData) (n:Nat),ds.length=n->(List.zipWith iT ds (List.replicate n e)).all id=ds.all fun x=>iT x e
 |[],_,h=>by cases h;rfl
 |d::ds,_,h=>by
  cases h;show(iT d e&&(List.zipWith iT ds (List.replicate ds.length e)).all id)=_;rw[yc e ds _ rfl];rfl
theorem yd(n:Nat)(e x:PyData):eZ (List.replicate n e) x=(dg x&&(decide ((items x).length=n)&&(items x).all fun y=>iT y e)):=by
 unfold eZ;rw[List.length_replicate];by_cases h:(items x).length=n
 .rw[yc e _ _ h]
 .rw[zAy h];rfl
theorem Do(x:PyData):eZ bC x=gf x:=by
 rw[yd,nF];rfl
theorem Dp(x:PyData):(eZ bounds x&&decide (at_ x 2<=at_ x 3))=iy x:=by
 rw[FP];unfold eZ wu;rw[Bool.and_assoc,Bool.and_assoc];rfl
theorem v9{x:PyData}(h:pq x=true):eZ bS x=aZ x 5:=by
 rw[yd];unfold aZ bz
 cases x with
 |tuple ds=>
  have h:∀d∈ds,pq d=true:=lowDs_all.mp h;show(true&&(decide (ds.length=5)&&ds.all fun y=>iT y (.tuple [.int (-10^31),.int (10^31)])))=((true&&(decide ((5:Int)<=ds.length)&&decide ((ds.length:Int)<=5)))&&ds.all bH)
  have e1:(ds.all fun y=>iT y (.tuple [.int (-10^31),.int (10^31)]))=ds.all bH:=by
   rw[Bool.eq_iff_iff,List.all_eq_true,List.all_eq_true];refine⟨fun g d hd=>?_,fun g d hd=>?_⟩
   .have:=g d hd;unfold iT mJ at this;rw[zAc]at this;exact this.1
   .have g:=g d hd;have h:=h d hd
    cases d with
    |int i=>
     have h:i.natAbs<2^100:=zB8 h;show(true&&(decide (-10^31<=i)&&decide (i<=10^31)))=true;rw[zAu Zz,zAu Zz];rfl
    |_=>cases g
  rw[e1];by_cases e:ds.length=5
  .rw[zAu e,zAu Zz,zAu Zz];rfl
  .rw[zAy e];rcases Int.lt_or_le (ds.length:Int) 5 with z|z
   .rw[zAy (by lia:¬(5:Int)<=ds.length)];rfl
   .rw[zAy (by lia:¬(ds.length:Int)<=5),Bool.and_false];rfl
 |_=>rfl
theorem are_clips(d:PyData):(jG d 20 bC&&decide (1<=(items d).length))=eY d:=by
 unfold jG eY bz;rw[show eZ bC=gf from funext Do]
 cases d with
 |tuple ds=>
  show((true&&(decide ((ds.length:Int)<=20)&&ds.all gf))&&decide (1<=ds.length))=((true&&(decide ((1:Int)<=ds.length)&&decide ((ds.length:Int)<=20)))&&ds.all gf);rw[show decide ((1:Int)<=ds.length)=decide (1<=ds.length)from decide_eq_decide.mpr Zz];cases decide ((ds.length:Int)<=20)<;>cases ds.all gf<;>cases decide (1<=ds.length)<;>rfl
 |_=>rfl
theorem qT(d:PyData):(jG d 10 bounds&&(items d).all fun x=>decide (at_ x 2<=at_ x 3))=dh d:=by
 unfold jG dh bz;rw[show iy=fun x=>eZ bounds x&&decide (at_ x 2<=at_ x 3)from funext fun x=>(Dp x).symm]
 have e:∀ds:List PyData,(ds.all fun x=>eZ bounds x&&decide (at_ x 2<=at_ x 3))=(ds.all (eZ bounds)&&ds.all fun x=>decide (at_ x 2<=at_ x 3)):=fun ds=>by
  induction ds with
  |nil=>rfl
  |cons x xs ih=>
   rw[List.all_cons,List.all_cons,List.all_cons,ih];cases eZ bounds x<;>cases decide (at_ x 2<=at_ x 3)<;>cases xs.all (eZ bounds)<;>rfl
 rw[e]
 cases d with
 |tuple ds=>
  show((true&&(decide ((ds.length:Int)<=10)&&ds.all (eZ bounds)))&&ds.all fun x=>decide (at_ x 2<=at_ x 3))=((true&&(decide ((0:Int)<=ds.length)&&decide ((ds.length:Int)<=10)))&&(ds.all (eZ bounds)&&ds.all fun x=>decide (at_ x 2<=at_ x 3)));rw[zAu (by lia:(0:Int)<=ds.length)];cases decide ((ds.length:Int)<=10)<;>cases ds.all (eZ bounds)<;>rfl
 |_=>rfl
theorem are_sales{d:PyData}(h:pq d=true):jG d 12 bS=dG d:=by
 unfold jG dG bz
 cases d with
 |tuple ds=>
  have h:∀d∈ds,pq d=true:=lowDs_all.mp h;show(true&&(decide ((ds.length:Int)<=12)&&ds.all (eZ bS)))=((true&&(decide ((0:Int)<=ds.length)&&decide ((ds.length:Int)<=12)))&&ds.all fun x=>aZ x 5)
  have e:ds.all (eZ bS)=ds.all fun x=>aZ x 5:=by
   rw[Bool.eq_iff_iff,List.all_eq_true,List.all_eq_true];exact⟨fun g d hd=>(v9 (h d hd))▸g d hd,fun g d hd=>(v9 (h d hd)).symm▸g d hd⟩
  rw[e,zAu (by lia:(0:Int)<=ds.length)];cases decide ((ds.length:Int)<=12)<;>rfl
 |_=>rfl
theorem vd{n:Nat}{bs:List PyData}{x:PyData}(hn:bs.length=n)(h:eZ bs x=true):aZ x n=true:=by
 unfold eZ at h;rw[zAc,zAc,Zq]at h;obtain⟨h1,h2,h3⟩:=h
 cases x with
 |tuple ds=>
  have h2:ds.length=bs.length:=h2;have h3:(List.zipWith iT ds bs).all id=true:=h3;show((true&&(decide ((n:Int)<=ds.length)&&decide ((ds.length:Int)<=n)))&&ds.all bH)=true;rw[zAu Zz,zAu Zz];show ds.all bH=true;refine List.all_eq_true.mpr fun d hd=>?_;obtain⟨i,hi,rfl⟩:=List.getElem_of_mem hd;have hb:i<bs.length:=Zz
  have:=List.all_eq_true.mp h3 (iT ds[i] bs[i]) (zB6 (i:=i) (by rw[List.getElem?_zipWith,zA0 hi,zA0 hb]));have this:(bH ds[i]&&_)=true:=this;rw[zAc]at this;exact this.1
 |_=>cases h1
theorem Dq{d:PyData}(h:jG d 10 bounds=true):d=aQ (rowsOf d)/\(rowsOf d).length<=10/\∀r∈rowsOf d,r.length=6:=by
 unfold jG at h;rw[zAc,zAc,Zq]at h;obtain⟨h1,h2,h3⟩:=h
 cases d with
 |tuple ds=>
  have h2:(ds.length:Int)<=10:=h2;have h3:∀x∈ds,aZ x 6=true:=fun x hx=>vd rfl (List.all_eq_true.mp h3 x hx);refine⟨congrArg PyData.tuple (nJ (n:=6) h3),by show(ds.map _).length<=10;rw[zA1];lia,fun r hr=>?_⟩;obtain⟨x,hx,rfl⟩:=zA5.mp hr;exact(gD (n:=6) (h3 x hx)).2
 |_=>cases h1
def lE(rs:List (List Int)):List (List Int):=rs.filter fun r=>decide (fl r 2>fl r 3)
theorem zU{rs:List (List Int)}{j:Nat}(h:j<rs.length):lE (rs.take (j+1))=lE (rs.take j)++(if fl rs[j] 2>fl rs[j] 3 then[rs[j]]else[]):=by
 unfold lE;rw[List.take_succ_eq_append_getElem h,List.filter_append];congr 1;by_cases e:fl rs[j] 2>fl rs[j] 3
 .rw[zB3 e,List.filter_cons_of_pos (p:=fun r:List Int=>decide (fl r 2>fl r 3)) (zAu e)];rfl
 .rw[zB0 e,List.filter_cons_of_neg (p:=fun r:List Int=>decide (fl r 2>fl r 3)) (by rw[Zq];exact e)];rfl
theorem vf{rs:List (List Int)}(h6:∀r∈rs,r.length=6):((items (aQ rs)).all fun x=>decide (at_ x 2<=at_ x 3))=(lE rs).isEmpty:=by
 show((rs.map rowD).all fun x=>decide (at_ x 2<=at_ x 3))=_;rw[Bool.eq_iff_iff,List.all_eq_true,List.isEmpty_iff];unfold lE;rw[List.filter_eq_nil_iff];refine⟨fun g r hr=>?_,fun g d hd=>?_⟩
 .have:=g (rowD r) (List.mem_map_of_mem hr);rw[jJ r 2 (by rw[h6 r hr];decide),jJ r 3 (by rw[h6 r hr];decide),Zq]at this;rw[Zq];lia
 .obtain⟨r,hr,rfl⟩:=zA5.mp hd;have:=g r hr;rw[Zq]at this;rw[jJ r 2 (by rw[h6 r hr];decide),jJ r 3 (by rw[h6 r hr];decide),Zq];lia
theorem ye{S:Addr->Prop}{H:Hp}{zs:List V}{e:PyData}(t:IsThs S H zs [e]):∀n,IsThs S H (List.replicate n zs).flatten (List.replicate n e)
 |0=>.nil
 |n+1=>by
  rw[List.replicate_succ,List.replicate_succ,List.flatten_cons];exact IsThs.append t (ye t n)
theorem Ds{tt:TE}{k n:Int}{σ:L2.St}{H:Hp}{Q:List V->Hp->Prop}{e:PyData}(te:ThE (fun _=>False) σ H tt e)(k0:0<=k)(k1:k<=10)(h:∀p zs H2,Same H H2->H2 p=some (.lst zs)->IsThs (fun _=>False) H2 zs (List.replicate k.toNat e)->Q [.int n,.ref p] H2):
  cA (tC (.int n)) (cA (tOp HX (vH (cA tt il)) (tC (.int k))) il) σ H Q:=by
 show vH (cA tt il) σ H fun x H1=>HX x (.int k) H1 fun y H2=>Q [.int n,y] H2;refine fY ?_;refine eO te rT H (Same.refl H) _ fun zs H1 s1 t=>?_;have lz:zs.length=1:=t.length;have hs:10<=sizeLine:=by decide
 refine⟨Zz,fun l vc=>⟨l,k,zs,rfl,rfl,aa,Zz,Zz,by rw[lz];lia,fun p hp=>?_⟩⟩;have si:=(Same.upd (o:=.lst zs) vc).updR (o:=.lst (List.replicate k.toNat zs).flatten) hp;exact h p _ _ (s1.trans si) aa (ye (t.same si) _)
theorem Gj{S:Addr->Prop}{H:Hp}{v:V}{d:PyData}(t:IsTh S H v d)(h:dg d=true):∃a xs ds,v=.ref a/\d=.tuple ds/\H a=some (.tup xs)/\IsThs S H xs ds:=by
 cases t with
 |@tup a xs ds e r=>exact⟨a,xs,ds,rfl,rfl,e,r⟩
 |_=>cases h
inductive SpIsBI(vs:List V)(H:Hp)(Q:VK):Prop
 |mk:∀S v d,(vs=[v])->(IsTh S H v d)->(sz d<=4000)->(pq d=true)->(∀H',Same H H'->Q (.bl (cu d)) H')->SpIsBI  vs H Q
def Hl:Sp:=fun vs H Q _=>SpIsBI  vs H Q
theorem scIB:FnScope ["_law_thing","_law_bounds"] ["_law_thing"] (au (top 74)):=fQS
theorem Dt{A:Around}{k:Nat}(hr:Room k A):A.units<cLine:=by
 have:=hr.un;lia
theorem Je(F:Fun K "_law_is_book" "_law_is_book" (top 74) f fd)(T:Mg mg)(c1:Cal P w K mg base 2 "_law_are" ["_law_thing","_law_most","_law_bounds"] Hk)(c2:Cal P w K mg base 1 "_law_rows" ["_law_promises","_law_sales"] spRows):
  FnOk P w K mg base CX0 3 f fd ["_law_thing"] Hl:=by
 refine F.ok scIB (fun vs H Q E h=>?_) (fun cdv A outer s H vs Q E hr h=>?_)
 .obtain⟨S,v,d,rfl,_⟩:=h;rfl
 .obtain⟨S,v,d,rfl,th,hz,lo,q⟩:=h
  refine K80P.ok_b (aF ⟨bZ (PW.pt (gG (bN (bM (aK bR rfl T.isinstance boot_isinstance (ak (pv 0) (ak (dO rfl T.tuple boot_tuple (v:=.ty "tuple") rfl) aj)))))
    (gG (bj nR (aK bF rfl T.len PySem.boot_len (ak (pv 0) aj)) ao (bf _)) (gQ (bN (bM (aG c1 hr (ak (pX cY (pv 0) ao) (ak ao (ak (aR vL (uv (cN (aU mz bK))) ao) aj)))))))))) (aD (aO ig)) bc⟩
   (aF (gw 1 scIB.nd (cN (aU mz (aU mz (aU mz (aU mz (aU mz (aU Ez bK))))))))
   (aF ⟨bZ (PW.pt (gG (bj (lZ (Dt hr)) (pX cY (pv 0) ao) (bU aj) (bf _))
    (gG (bN (bM (aG c1 hr (ak (pX cY (pv 0) ao) (ak ao (ak (pv 1) aj))))))
    (gQ (bj (oR (Dt hr)) (bG ["_law_one"] [none] rfl (fV (pX cY (pv 0) ao)) (fun C fp Zt s₂ H₂=>⟨bw (i:=0) (nd1 _) rfl (Or.inl rfl),rG (bj tZ (pX (K80P.ix_tupK (K:=K) rfl) (pv 0) ao) (pX (K80P.ix_tupK (K:=K) rfl) (pv 0) ao) (bf _)),pv 0⟩) (fun C=>trivial) ⟨rfl,rfl,rfl,rfl⟩) (uv (cN bK)) (bf _)))))) (aD (aO ig)) bc⟩
   (aF ⟨bZ (bN (bM (aG c1 hr (ak (pX cY (pv 0) ao) (ak ao (ak (aR vL (uv (cN (aU (my (aU ⟨wJ rz (aR rm ao ao)⟩ (aU Ii bK))) bK))) ao) aj)))))) (aD (aO ig)) bc⟩
   (bx ⟨aO (dZ rA (pX cY (aG c2 hr (ak (pX cY (pv 0) ao) (ak (pX cY (pv 0) ao) aj))) ao) gn (bf _))⟩))))) ?_
  have two:∀{i j:Int} {σ:L2.St} {H:Hp},ThE (fun _=>False) σ H (nU (qw [i,j])) (.tuple [.int i,.int j]):=fun{i j σ H}=>vP (EY [i,j]) (by show 2<=4000;decide)
  have ET:∀{σ:L2.St} {H:Hp},ThE (fun _=>False) σ H (nU (cA (tC (.int 0)) (cA (tOp (rI vC fun i j=>.int (i^j.toNat)) (tC (.int 10)) (tC (.int 6))) il))) (.tuple [.int 0,.int 1000000]):=fun{σ H}=>
   vP (eO Ij (eO (GF (i:=1000000) fun H'=>Az (g:=fun i j=>V.int (i^j.toNat)) gh gh ⟨by decide,by decide,by decide⟩) rT)) (by show 2<=4000;decide)
  refine aB ?_;refine⟨_,rfl,v,_,"tuple",dg d,rfl,th.ty,nG d,_,rfl,?_⟩
  cases e:dg d with
  |false=>
   rw[show cu d=false by unfold cu bz;rw[e];rfl]at q;exact aY (aY (q H (Same.refl H)))
  |true=>
   refine aW ?_
   cases th with
   |@tup a xs ds ea r=>
    have hl:=r.length;refine⟨_,rfl,a,xs,rfl,.inr (SqT.of ea),rfl,_,rfl,?_⟩;by_cases e3:ds.length=3
    .rw[zAu (by rw[hl,e3];rfl)];refine aW ?_;obtain⟨v0,v1,v2,d0,d1,d2,rfl,rfl,t0,t1,t2⟩:=qK r e3;have bk:cu (.tuple [d0,d1,d2])=(eY d0&&(dh d1&&(dG d2&&(un (rowsOf d1) (rowsOf d2)).isNone))):=rfl;have LC:pq d2=true:=lowDs_all.mp lo d2 (.tail _ (.tail _ (.head _)));rw[bk,<-are_clips,<-qT,<-are_sales LC]at q;have z0:sz d0<=4000:=iY (.head _) hz;have z1:sz d1<=4000:=iY (.tail _ (.head _)) hz;have z2:sz d2<=4000:=iY (.tail _ (.tail _ (.head _))) hz;refine⟨_,rfl,a,_,0,v0,rfl,rfl,SqT.of ea,rfl,?_⟩;refine Ds two Zx Zx fun p zp Ss s2 ep tp=>?_;refine⟨S,v0,d0,20,p,_,bC,rfl,t0.same s2,z0,ep,tp,by decide,fun e he=>⟨0,999,List.eq_of_mem_replicate he⟩,fun H2 s'=>⟨_,rfl,?_⟩⟩;have s3:=s2.trans s';clear s2 s' ep tp
     cases e4:jG d0 20 bC with
     |false=>
      rw[e4]at q;exact aY (q H2 s3)
     |true=>
     rw[e4]at q;refine aW (bB ?_);dsimp only;refine aB (aV ?_);refine fY ?_;refine eO two (eO two (eO two (eO two (eO two (eO ET rT))))) H2 (Same.refl H2) _ fun zs H3 s4 t=>?_;have t:IsThs (fun _=>False) H3 zs bounds:=t;refine⟨by rw[t.length];show 6<=sizeLine;decide,fun l vc=>?_⟩;have s5:=(s3.trans s4).updR (o:=.lst zs) vc;have eb:=aa (H:=H3) (a:=l) (o:=.lst zs);have tb:=t.same (Same.upd (o:=.lst zs) vc);generalize upd H3 l (.lst zs)=H5 at s5 eb tb⊢;clear s3 s4 t vc;refine aH ?_;dsimp only;refine aB ?_
     have i0:dg d0=true:=by
      unfold jG at e4;rw[zAc]at e4;exact e4.1
     obtain⟨a0,x0,EU,rfl,rfl,Oz,r0⟩:=Gj t0 i0;have l0:=r0.length;refine⟨_,rfl,a,_,0,.ref a0,rfl,rfl,SqT.of (s5 _ _ ea),rfl,by show 0<=sizeLine;decide,fun p hp=>?_⟩;have s6:=s5.updR (o:=.tup []) hp;refine⟨a0,p,x0,rfl,rfl,SqT.of (s6 _ _ Oz),SqT.of aa,_,rfl,?_⟩;have EV:=Same.upd (o:=.tup []) hp _ _ eb;have EW:=tb.same (Same.upd (o:=.tup []) hp);generalize upd H5 p (.tup [])=H6 at s6 EV EW⊢;clear s5 eb tb hp;have q:∀H',Same H H'->Q (.bl ((true&&decide (1<=EU.length))&&((jG d1 10 bounds&&(items d1).all fun x=>decide (at_ x 2<=at_ x 3))&&(jG d2 12 bS&&(un (rowsOf d1) (rowsOf d2)).isNone)))) H':=q
     cases e5:x0.isEmpty with
     |true=>
      have:EU.length=0:=by rw[<-l0,List.isEmpty_iff.mp e5];rfl
      rw[this]at q;exact aY (aY (q _ s6))
     |false=>
     refine aW ?_
     have:1<=EU.length:=by
      rw[<-l0]
      cases x0 with
      |nil=>cases e5
      |cons _ _=>exact Nat.succ_pos _
     rw[zAu this]at q;refine⟨_,rfl,a,_,1,v1,rfl,rfl,SqT.of (s6 _ _ ea),rfl,_,rfl,S,v1,d1,10,l,_,bounds,rfl,t1.same s6,z1,EV,EW,by decide,fun e he=>zJ he,fun H7 s'=>⟨_,rfl,?_⟩⟩;have s7:=s6.trans s';clear s6 s' EV EW
     cases e6:jG d1 10 bounds with
     |false=>
      rw[e6]at q;exact aY (aY (q _ s7))
     |true=>
     rw[e6]at q;refine aW ?_;obtain⟨ep,lp,h6⟩:=Dq e6;rw[ep]at t1;have e9:=vf h6;rw[<-ep]at e9;rw[e9]at q;clear e9;obtain⟨ap,xp,rfl,rp⟩:=th_rows t1;have ng:=rp.same s7;generalize OA:rowsOf d1=rs at ep lp h6 rp ng q t1;refine⟨_,rfl,a,_,1,.ref ap,rfl,rfl,SqT.of (s7 _ _ ea),rfl,ap,rfl,⟨_,SqT.of ng.e⟩,oX rs.length (fun j ys σ Hj=>Same H7 Hj/\(∃o1,σ=[o1])/\Els Hj ys (lE (rs.take j))) ⟨Same.refl _,⟨_,rfl⟩,Els.nil⟩ Zu ?_ ?_⟩
     .rintro j ys σ Hj hj hy ⟨sc,⟨o1,rfl⟩,LD⟩;obtain⟨tr,ex,gs⟩:=ng.g j rs[j] (zA0 hj);have EZ:=gs;rw[six_row (h6 _ (zAh hj))]at gs;have oj:=zU hj;have LF:=SqT.of (K:=K) (sc _ _ ng.e);refine⟨⟨_,_,LF,ex⟩,fun x H' yv R hR=>?_⟩;obtain⟨rfl,yv⟩:=yv;have yv:=yv _ LF;rw[ex]at yv;cases yv;refine aH ?_;refine⟨_,rfl,tr,_,2,.int (fl rs[j] 2),rfl,rfl,SqT.of (sc _ _ gs),rfl,_,rfl,tr,_,3,.int (fl rs[j] 3),rfl,rfl,SqT.of (sc _ _ gs),rfl,_,_,rfl,rfl,_,rfl,?_⟩;by_cases h:fl rs[j] 2>fl rs[j] 3
      .rw[zAu h];refine aY ⟨_,rfl,hR _ _ _ (by rw[zA2];show ys.length+1<=j+1;lia) ⟨sc,⟨_,rfl⟩,?_⟩⟩;rw[oj,zB3 h];exact LD.app (Els.one (sc _ _ EZ))
      .rw[zAy h];refine aW (hR _ _ _ Zz ⟨sc,⟨_,rfl⟩,?_⟩);rw[oj,zB0 h,zAn];exact LD
     rintro ya σ Hj hy ⟨sc,_,E1⟩;rw[zAm]at E1;refine⟨⟨_,SqT.of (sc _ _ ng.e),by rw[ng.l];exact zA3 _⟩,fun la LG=>⟨zL,fun lb LH=>?_⟩⟩;have s8:=Same.upd (o:=.lst []) LH;have sa:=s7.trans ((sc.updR (o:=.lst ya) LG).trans s8);refine⟨la,lb,ya,rfl,rfl,SqL.of (s8 _ _ aa),SqL.of aa,_,rfl,?_⟩
     have ey:ya.isEmpty=(lE rs).isEmpty:=by
      have:=E1.1
      cases ya with
      |nil=>rw[List.length_eq_zero_iff.mp this.symm];rfl
      |cons x xs=>
       cases hL:lE rs with
       |nil=>rw[hL]at this;cases this
       |cons _ _=>rfl
     generalize upd (upd Hj la (.lst ya)) lb (.lst [])=H8 at sa⊢;clear s8 LG LH sc E1;rw[ey]
     cases e7:(lE rs).isEmpty with
     |false=>
      rw[e7]at q;exact aY (q _ sa)
     |true=>
     rw[e7]at q;refine aW (bB ?_);dsimp only;refine aB ?_
     have E2:∀{σ:L2.St} {H:Hp},ThE (fun _=>False) σ H (nU (cA (tUn (rU fun i=>.int (-i)) (tOp (rI vC fun i j=>.int (i^j.toNat)) (tC (.int 10)) (tC (.int 31)))) (cA (tOp (rI vC fun i j=>.int (i^j.toNat)) (tC (.int 10)) (tC (.int 31))) il))) (.tuple [.int (-10^31),.int (10^31)]):=fun{σ H}=>
      vP (eO (fun H0 s0 Q q=>⟨_,_,rfl,rfl,⟨by decide,by decide,by decide⟩,_,rfl,q _ H0 (Same.refl _) (.int _)⟩) (eO (GF (i:=10^31) fun H'=>Az (g:=fun i j=>V.int (i^j.toNat)) gh gh ⟨by decide,by decide,by decide⟩) rT)) (by show 2<=4000;decide)
     refine⟨_,rfl,a,_,2,v2,rfl,rfl,SqT.of (sa _ _ ea),rfl,?_⟩;refine Ds E2 Zx Zx fun p zp Su s9 LI LJ=>?_;refine⟨S,v2,d2,12,p,_,bS,rfl,t2.same (sa.trans s9),z2,LI,LJ,by decide,fun e he=>⟨_,_,List.eq_of_mem_replicate he⟩,fun H9 s'=>⟨_,rfl,?_⟩⟩;have sb:=sa.trans (s9.trans s');clear sa s9 s' LI LJ
     cases e8:jG d2 12 bS with
     |false=>
      rw[e8]at q;exact aY (q _ sb)
     |true=>
     rw[e8]at q;refine aW (bB ?_);dsimp only;refine eQ ?_
     have pd:dh d1=true:=by
      rw[<-qT,e6,ep,vf h6,e7];rfl
     obtain⟨_,_,cm⟩:=fu pd;rw[OA]at cm;obtain⟨es,ls,h5⟩:=fD (by rw[<-are_sales LC];exact e8);rw[es]at t2;obtain⟨ag,OB,rfl,OC⟩:=th_rows t2;refine⟨_,rfl,a,_,1,.ref ap,rfl,rfl,SqT.of (sb _ _ ea),rfl,_,rfl,a,_,2,.ref ag,rfl,rfl,SqT.of (sb _ _ ea),rfl,ap,xp,rs,ag,OB,_,rfl,rp.same sb,lp,cm,OC.same sb,Zz,h5,fun t fo Sv OD et _=>⟨t,_,1,unV (un rs (rowsOf d2)),rfl,rfl,SqT.of et,rfl,rfl,?_⟩⟩;have:=q _ (sb.trans OD);rw[show decide (unV (un rs (rowsOf d2))=.non)=(un rs (rowsOf d2)).isNone by cases un rs (rowsOf d2)<;>rfl];exact this
    .rw[zAy (fun z=>e3 (by injection z with z;lia))]
     rw[show cu (.tuple ds)=false by
      unfold cu bz;show(true&&(decide ((3:Int)<=ds.length)&&decide ((ds.length:Int)<=3))&&_)=false;rcases Nat.lt_or_ge ds.length 3 with z|z
      .rw[zAy (by lia:¬(3:Int)<=ds.length)];rfl
      .rw[zAy (by lia:¬(ds.length:Int)<=3),Bool.and_false]
       rfl]at q
     exact aY (aY (q H (Same.refl H)))
   |_=>cases e
inductive SpLRowsTI(vs:List V)(H:Hp)(Q:VK):Prop
 |mk:∀a xs rs c,(vs=[.ref a,.str (sg c)])->(RowsAt H a xs rs)->(okNs rs)->(∀H',Same H H'->Q (.str (bD c rs)) H')->SpLRowsTI  vs H Q
def vg:Sp:=fun vs H Q _=>SpLRowsTI  vs H Q
theorem Lp:FnScope ["_law_rows_here","_law_sign"] ["_law_rows_here","_law_sign"] (au (top 69)):=fQS
theorem Lq:(["_law_row","_law_sign"]:List Str).Nodup:=by decide +kernel
theorem zV(F:Fun K "_law_rows_text" "_law_rows_text" (top 69) f fd)(Ts:mg "str"=none):FnOk P w K mg base CX0 1 f fd ["_law_rows_here","_law_sign"] vg:=by
 refine F.ok Lp (fun vs H Q E h=>?_) (fun cdv A outer s H vs Q E hr h=>?_)
 .obtain⟨a,xs,rs,c,rfl,_⟩:=h;rfl
 .obtain⟨a,xs,rs,c,rfl,ra,ok,q⟩:=h
  refine⟨_,aJ (bZ (bj (lZ (room_un hr)) (pv 0) (bU aj) (bf _)) (aD (aO aX)) bc)
   (aD (aO (dI PySem.F.plainAttrs_str PySem.F.slot_str_join PySem.F.type_str_join fK aX (ak (bG ["_law_row","_law_sign"] [none,some 1] rfl (fV (pv 0)) (fun C fp Zt s₂ H₂=>⟨pgn 0 Lq,bJ,
    BP (K:=K) rfl PySem.F.plainAttrs_str PySem.F.slot_str_join PySem.F.type_str_join (BR (K:=K) rfl) (pv 1) (ak (bG ["_law_number_here"] [none] rfl (Fw (K:=K) rfl (pv 0)) (fun C fp Zt s₂ H₂=>⟨bw (i:=0) (nd1 _) rfl (Or.inl rfl),bJ,bI iJ rfl Ts gm (ak (pv 0) aj)⟩) (fun C=>trivial) ⟨rfl,rfl,rfl,rfl⟩) aj)⟩)
    (fun C=>cI trivial) ⟨rfl,rfl,rfl,rfl⟩) aj)))),?_⟩
  have hl:=ok.1;have hx:=ra.l;refine aB ?_;refine⟨_,rfl,zL,fun e0 mT=>⟨a,e0,xs,rfl,rfl,SqT.of (Same.upd mT _ _ ra.e),SqT.of aa,_,rfl,?_⟩⟩;have s0:=Same.upd (o:=.tup []) mT;generalize upd H e0 (.tup [])=H0 at s0⊢;have BU:=ra.same s0;by_cases h0:rs=[]
  .subst h0;have ex:xs=[]:=List.length_eq_zero_iff.mp hx;subst ex;refine aY ?_;have:=q H0 s0;exact this
  .have ex:xs.isEmpty=false:=by
    cases xs with
    |nil=>exact absurd (List.length_eq_zero_iff.mp hx.symm) h0
    |cons _ _=>rfl
   rw[ex];refine aW (bB ?_);dsimp only;refine eQ ?_;refine⟨rfl,_,rfl,a,rfl,⟨_,SqT.of BU.e⟩,gF xs.length (fun i=>xs.getD i .non) (fun i=>V.str (dM c (rs.getD i []))) Zu (jm BU.e).1 (jm BU.e).2 ?_ ?_⟩
   .intro i H1 Q1 hi sm q1;have kH:i<rs.length:=Zz
    obtain⟨t,e1,e2⟩:=BU.row kH;rw[e1]
    have hm:rs.getD i []∈rs:=by
     rw[zA7,zA0 kH];exact zAh kH
    have kR:=ok.2 _ hm;generalize rs.getD i []=r at e2 hm kR q1⊢;have e2:=sm _ _ e2;have Sw:=kR.2.1;refine⟨_,rfl,rfl,_,rfl,t,rfl,⟨_,SqT.of e2⟩,gF (r.map V.int).length (fun i=>(r.map V.int).getD i .non) (fun i=>V.str (cX (r.getD i 0))) (by rw[zA1,sizeLine_eq];lia) (jm e2).1 (jm e2).2 ?_ ?_⟩
    .intro j H2 Q2 hj vb q2;rw[zA1]at hj
     have e3:(r.map V.int).getD j .non=V.int (r.getD j 0):=by
      rw[zA7,zAb,zA7,zA0 hj];rfl
     rw[e3]
     have hm:r.getD j 0∈r:=by
      rw[zA7,zA0 hj];exact zAh hj
     exact⟨_,rfl,_,rfl,qP (kR.2.2 _ hm),q2 _ (Same.refl _)⟩
    .intro H2 vb D hD
     have e4:(List.range (r.map V.int).length).map (fun i=>V.str (cX (r.getD i 0)))=(r.map cX).map V.str:=by
      rw[zAr];exact fG r 0 (fun n=>V.str (cX n)) _ (by rw[zA1])
     rw[e4];refine⟨sg c,D,r.map cX,rfl,rfl,SqL.of aa,oZ (B:=10) (fun y hy=>?_) ?_,q1 _ (vb.updR hD)⟩
     .obtain⟨n,hn,rfl⟩:=zA5.mp hy;exact(dX (kR.2.2 n hn).1 (kR.2.2 n hn).2).2.2.1
     .rw[zA1];show r.length*10+r.length*1<=_;lia
   .intro H1 sm D hD
    have e2:(List.range xs.length).map (fun i=>V.str (dM c (rs.getD i [])))=(rs.map (dM c)).map V.str:=by
     rw[zAr];exact fG rs [] (fun r=>V.str (dM c r)) _ hx
    rw[e2];refine⟨sg 32,D,rs.map (dM c),by rw[show(Str.ofString " ")=sg 32 by decide +kernel],rfl,SqL.of aa,qQ ok,?_⟩;have:=q _ ((s0.trans sm).updR (o:=.lst ((rs.map (dM c)).map V.str)) hD);unfold bD at this;rw[zB0 h0]at this;exact this
inductive SpLBookTI(vs:List V)(H:Hp)(Q:VK):Prop
 |mk:∀bk ac xc cs ap xp ps ag xs ss,(vs=[.ref bk])->(BkT H bk ac xc cs ap xp ps ag xs ss)->(∀H',Same H H'->Q (.str (gM cs ps ss)) H')->SpLBookTI  vs H Q
def vh:Sp:=fun vs H Q _=>SpLBookTI  vs H Q
theorem Lr:FnScope ["_law_book_here"] ["_law_book_here"] (au (top 70)):=fQS
theorem Kd:(["_law_rows_here","_law_sign"]:List Str).Nodup:=by decide +kernel
theorem zW(F:Fun K "_law_book_text" "_law_book_text" (top 70) f fd)(Tz:mg "zip"=none)(c1:Cal P w K mg base 1 "_law_rows_text" ["_law_rows_here","_law_sign"] vg):FnOk P w K mg base CX0 2 f fd ["_law_book_here"] vh:=by
 refine F.ok Lr (fun vs H Q E h=>?_) (fun cdv A outer s H vs Q E hr h=>?_)
 .obtain⟨bk,ac,xc,cs,ap,xp,ps,ag,xs,ss,rfl,_⟩:=h;rfl
 .obtain⟨bk,ac,xc,cs,ap,xp,ps,ag,xs,ss,rfl,B,q⟩:=h
  refine⟨_,aD (aO (dI PySem.F.plainAttrs_str PySem.F.slot_str_join PySem.F.type_str_join fK aX (ak (bG (g:=vy K 2 (j8 (dH 0) (j8 (dH 1) yH))) ["_law_rows_here","_law_sign"] [none,none] rfl (ZS.pi_zip true rfl Tz (ak (pv 0) (ak aX aj)))
   (fun C fp Zt s₂ H₂=>⟨kO rfl rfl (az (pgn 0 Kd) (az (pgn 1 Kd) bT)),bJ,aG c1 hr (ak (pv 0) (ak (pv 1) aj))⟩) (fun C=>trivial) ⟨rfl,rfl,rfl,rfl⟩) aj))),?_⟩
  refine⟨rfl,_,rfl,bk,_,_,rfl,SqT.of B.e,by decide +kernel,?_⟩;have ez:(Str.ofString "/,,").cps=#[47,44,44]:=by decide +kernel
  have go:∀i H1,Same H H1->∀x c,([.ref ac,.ref ap,.ref ag]:List V)[i]?=some x->(Str.ofString "/,,").cps[i]?=some c->∀(g:TG) (te:TE) (R:V->L2.St->Hp->Prop) (σ:L2.St),(∀T,H1 T=none->g (.ref T) σ (upd H1 T (.tup [x,.str (sg c)])) fun ar H2=>te ar H2 fun y H4=>R y ar H4)->
    (ZS.Itz true K bk (Str.ofString "/,,")).go i H1/\∀v H',(ZS.Itz true K bk (Str.ofString "/,,")).yld i H1 v H'->g v σ H' fun ar H2=>te ar H2 fun y H4=>R y ar H4:=by
   intro i H1 sm x c hx hc g te R σ hg;refine⟨⟨_,x,c,SqT.of (sm _ _ B.e),hx,hc⟩,fun v H' y=>?_⟩;obtain⟨T,nT,rfl,y⟩:=y;obtain⟨x',c',e1,e2,rfl⟩:=y _ (SqT.of (sm _ _ B.e));rw[hx]at e1;cases e1;rw[hc]at e2;cases e2;exact hg T nT
  refine cV 3 (fun i ys σ H1=>Same H H1/\(∃o1 o2,σ=[o1,o2])/\ys=([bD 47 cs,bD 44 ps,bD 44 ss].take i).map V.str) ⟨Same.refl _,⟨_,_,rfl⟩,rfl⟩ Zx ?_ ?_
  .rintro i ys σ H1 hi hy ⟨sm,⟨o1,o2,rfl⟩,rfl⟩;rcases i with _|_|_|i
   .refine⟨⟨_,.ref ac,47,SqT.of (sm _ _ B.e),rfl,by rw[ez];rfl⟩,fun v H' y R hR=>(go 0 H1 sm (.ref ac) 47 rfl (by rw[ez];rfl) _ _ R _ fun T nT=>?_).2 v H' y⟩;have s2:=sm.updR (o:=.tup [.ref ac,.str (sg 47)]) nT;refine⟨T,_,rfl,SqT.of aa,rfl,_,_,rfl,_,_,rfl,rfl,_,rfl,_,rfl,ac,xc,cs,47,rfl,B.rc.same s2,B.oc,fun H3 s3=>hR _ _ _ ⟨s2.trans s3,⟨_,_,rfl⟩,rfl⟩⟩
   .refine⟨⟨_,.ref ap,44,SqT.of (sm _ _ B.e),rfl,by rw[ez];rfl⟩,fun v H' y R hR=>(go 1 H1 sm (.ref ap) 44 rfl (by rw[ez];rfl) _ _ R _ fun T nT=>?_).2 v H' y⟩;have s2:=sm.updR (o:=.tup [.ref ap,.str (sg 44)]) nT;refine⟨T,_,rfl,SqT.of aa,rfl,_,_,rfl,_,_,rfl,rfl,_,rfl,_,rfl,ap,xp,ps,44,rfl,B.rp.same s2,B.op,fun H3 s3=>hR _ _ _ ⟨s2.trans s3,⟨_,_,rfl⟩,rfl⟩⟩
   .refine⟨⟨_,.ref ag,44,SqT.of (sm _ _ B.e),rfl,by rw[ez];rfl⟩,fun v H' y R hR=>(go 2 H1 sm (.ref ag) 44 rfl (by rw[ez];rfl) _ _ R _ fun T nT=>?_).2 v H' y⟩;have s2:=sm.updR (o:=.tup [.ref ag,.str (sg 44)]) nT;refine⟨T,_,rfl,SqT.of aa,rfl,_,_,rfl,_,_,rfl,rfl,_,rfl,_,rfl,ag,xs,ss,44,rfl,B.rs.same s2,B.os,fun H3 s3=>hR _ _ _ ⟨s2.trans s3,⟨_,_,rfl⟩,rfl⟩⟩
   .lia
  .rintro ys σ H1 hy ⟨sm,_,rfl⟩;refine⟨⟨_,SqT.of (sm _ _ B.e),zA3 _⟩,fun D hD=>?_⟩;refine⟨sg 10,D,[bD 47 cs,bD 44 ps,bD 44 ss],by rw[show(Str.ofString "\n")=sg 10 by decide +kernel],rfl,SqL.of aa,qR B.oc B.op B.os,?_⟩;exact q _ (sm.updR hD)
def fZ(z:Str):V:=if cF z then .int (gA z)else .non
def lF(z:Str):PyData:=if cF z then .int (gA z)else .none
inductive SpLNumI(vs:List V)(H:Hp)(Q:VK):Prop
 |mk:∀z,(vs=[.str z])->(Asc z)->(z.length<=4000)->(∀H',Same H H'->Q (fZ z) H')->SpLNumI  vs H Q
def Du:Sp:=fun vs H Q _=>SpLNumI  vs H Q
theorem Gk{z:Str}(h3:z.length<=30)(h2:ji z=true):(gA z).natAbs.log2<1920:=by
 have h:=xr h3 h2;have h1:(gA z).natAbs<2^100:=Zz
 by_cases h0:(gA z).natAbs=0
 .rw[h0];decide
 .have:=(Nat.log2_lt h0).mpr h1;lia
theorem Gm(l:List Nat):((l.filter fun c=>!(decide (48<=c)&&decide (c<=57))).isEmpty)=l.all fun c=>decide (48<=c)&&decide (c<=57):=by
 induction l with
 |nil=>rfl
 |cons c l ih=>
  rw[List.filter_cons,List.all_cons]
  cases h:(decide (48<=c)&&decide (c<=57))with
  |true=>exact ih
  |false=>rfl
theorem Ls:FnScope ["_law_word"] ["_law_word"] (au (top 71)):=fQS
theorem Gn(F:Fun K "_law_number" "_law_number" (top 71) f fd)(T:Mg mg)(Ts:mg "str"=none):FnOk P w K mg base CX0 1 f fd ["_law_word"] Du:=by
 refine F.ok Ls (fun vs H Q E h=>?_) (fun cdv A outer s H vs Q E hr h=>?_)
 .obtain⟨z,rfl,_⟩:=h;rfl
 .obtain⟨z,rfl,ha,hz,q⟩:=h;have kq:z.length<=sizeLine:=by rw[sizeLine_eq];lia
  refine⟨_,aJ (bZ (PW.pt (gG (bN (jX cj cj ao (aK iK rfl T.len PySem.boot_len (ak (pv 0) aj)) ao))
    (gQ (bj (oR (room_un hr)) (bG ["_law_sign"] [none] rfl (Bh (pv 0)) (fun C fp Zt s₂ H₂=>⟨bw (i:=0) (nd1 _) rfl (Or.inl rfl),rG (bj rB (pv 0) aX rfl),pv 0⟩) (fun C=>trivial) ⟨rfl,rfl,rfl,rfl⟩) (gU aj) (bf _))))) (aD (aO gn)) bc)
   (aD (aO (ik (bj iW (bI iJ rfl Ts gm (ak (bI gY rfl T.int mQ (ak (pv 0) aj)) aj)) (pv 0) (bf _)) (bI gY rfl T.int mQ (ak (pv 0) aj)) gn))),?_⟩
  have bad:cF z=false->∀H',Same H H'->Q .non H':=fun h H' s'=>by
   have:=q H' s';unfold fZ at this;rw[h]at this;exact this
  refine aB ?_;refine⟨_,rfl,z,rfl,kq,_,_,rfl,rfl,_,rfl,?_⟩;by_cases h1:(1:Int)<=z.length
  .rw[zAu h1];refine aY ⟨_,_,rfl,rfl,_,rfl,?_⟩;by_cases h2:(z.length:Int)<=30
   .rw[zAu h2];refine aW ?_;have iq:1<=z.length:=Zz
    have oz:z.length<=30:=Zz
    refine⟨_,rfl,z,rfl,ha.all,oX z.cps.size (fun j ys σ Hd=>Same H Hd/\(∃o1,σ=[o1])/\ys=(((z.cps.toList.take j).filter fun c=>!(decide (48<=c)&&decide (c<=57))).map fun c=>V.str (sg c))) ⟨Same.refl _,⟨_,rfl⟩,rfl⟩ (by rw[sizeLine_eq];have:z.cps.size=z.length:=rfl;lia) ?_ ?_⟩
    .rintro i ys σ Hd hi hy ⟨sm,⟨o1,rfl⟩,rfl⟩;refine⟨hi,fun x H' y R hR=>?_⟩;obtain⟨rfl,c,hc,rfl⟩:=y;refine aH ?_;refine⟨_,rfl,_,_,rfl,rfl,_,rfl,?_⟩;rw[Dh];have ah:z.cps.toList[i]?=some c:=by rw[Array.getElem?_toList];exact hc
     have et:z.cps.toList.take (i+1)=z.cps.toList.take i++[c]:=by rw[zAj,ah];rfl
     cases hd:(decide (48<=c)&&decide (c<=57))with
     |true=>
      refine aW (hR _ _ _ ?_ ⟨sm,⟨_,rfl⟩,?_⟩)
      .rw[zA1];exact Nat.le_succ_of_le (Nat.le_trans (List.length_filter_le _ _) (by rw[zAd];exact Nat.min_le_left _ _))
      .rw[et,List.filter_append,zA4,List.filter_cons];simp[hd]
     |false=>
      refine aY ⟨_,rfl,hR _ _ _ ?_ ⟨sm,⟨_,rfl⟩,?_⟩⟩
      .rw[zA2,zA1];exact Nat.succ_le_succ (Nat.le_trans (List.length_filter_le _ _) (by rw[zAd];exact Nat.min_le_left _ _))
      .rw[et,List.filter_append,zA4,List.filter_cons];simp[hd]
    .rintro ys σ Hd hy ⟨sm,_,rfl⟩;refine⟨zA3 _,fun D hD=>⟨zL,fun D2 LK=>⟨D,D2,_,rfl,rfl,SqL.of (Same.upd LK _ _ aa),SqL.of aa,_,rfl,?_⟩⟩⟩;have s2:=(sm.updR (o:=.lst (((z.cps.toList.take z.cps.size).filter fun c=>!(decide (48<=c)&&decide (c<=57))).map fun c=>V.str (sg c))) hD).updR (o:=.lst []) LK
     have e1:(((z.cps.toList.take z.cps.size).filter fun c=>!(decide (48<=c)&&decide (c<=57))).map fun c=>V.str (sg c)).isEmpty=ji z:=by
      rw[List.take_of_length_le (by rw[zA9];exact zA3 _),List.isEmpty_map];exact Gm _
     rw[e1]
     cases hd:ji z with
     |false=>
      refine aY (bad ?_ _ s2);unfold cF;rw[hd,zAu iq,zAu oz];rfl
     |true=>
      refine aW (bB ?_);dsimp only;refine eQ ?_;have et:=uP iq oz hd;refine⟨_,rfl,z,_,rfl,et,Zz,_,rfl,Gk oz hd,_,rfl,rfl,_,rfl,?_⟩
      have ei:cF z=decide (V.str (Str.ofString (toString (gA z)))=V.str z):=by
       unfold cF;rw[hd,decide_eq_true iq,decide_eq_true oz];show(decide (z=sg 48)||decide (z.cps.toList.head?≠some 48))=_;rw[Bool.eq_iff_iff];simp only[Bool.or_eq_true,Zq];rw[<-xq iq hd];exact⟨fun h=>by rw[show Str.ofString (toString (gA z))=z from h],fun h=>by injection h⟩
      have fin:=q _ s2;unfold fZ at fin;rw[ei]at fin
      cases hn:decide (V.str (Str.ofString (toString (gA z)))=V.str z)with
      |true=>
       rw[hn]at fin;exact aY ⟨_,rfl,z,_,rfl,et,Zz,fin⟩
      |false=>
       rw[hn]at fin;exact aW fin
   .rw[zAy h2];refine aY (bad ?_ _ (Same.refl _));unfold cF;rw[zAy (by lia:¬z.length<=30),Bool.false_and,Bool.and_false]
  .rw[zAy h1];refine aW ⟨_,rfl,?_⟩;refine aY (bad ?_ _ (Same.refl _));unfold cF;rw[zAy (by lia:¬1<=z.length),Bool.false_and]
def jq(c:Nat)(x:Str):PyData:=.tuple ((aM c x).map lF)
def dD(c:Nat)(l:Str):PyData:=if l=sg 45 then .tuple []else .tuple ((aM 32 l).map (jq c))
theorem Jf{S:Addr->Prop}{H:Hp}(z:Str):IsTh S H (fZ z) (lF z):=by
 unfold fZ lF;split
 .exact .int _
 .exact .non
theorem yf{S:Addr->Prop}{H:Hp}:∀zs:List Str,IsThs S H (zs.map fZ) (zs.map lF)
 |[]=>.nil
 |z::zs=>.cons (Jf z) (yf zs)
inductive SpLInI(vs:List V)(H:Hp)(Q:VK):Prop
 |mk:∀z c,(vs=[.str z,.str (sg c)])->(Asc z)->(z.length<=4000)->(∀a H',Same H H'->IsTh (fun _=>False) H' (.ref a) (dD c z)->Q (.ref a) H')->SpLInI  vs H Q
def Hm:Sp:=fun vs H Q _=>SpLInI  vs H Q
theorem yg{ws:List Str}{i:Nat}(hi:i<ws.length):(ws.map V.str).getD i .non=V.str ws[i]:=by
 rw[zA7,zAb,zA0 hi];rfl
theorem zX{X:Cx}(hK:X.K=K):MtM X "str.split" (fun x vs H Q=>∃z c,x=.str z/\vs=[.str ⟨#[c]⟩]/\z.length+2<=sizeLine/\∀l,H l=none->l≠sysModules->Q (.ref l) (upd H l (.lst ((Txt.split z ⟨#[c]⟩).map V.str)))):=eU
theorem Lw:FnScope ["_law_line","_law_sign"] ["_law_line","_law_sign"] (au (top 75)):=fQS
theorem Lx:(["_law_word","_law_sign"]:List Str).Nodup:=by decide +kernel
theorem Jg(F:Fun K "_law_rows_in" "_law_rows_in" (top 75) f fd)(T:Mg mg)(c1:Cal P w K mg base 1 "_law_number" ["_law_word"] Du):FnOk P w K mg base CX0 2 f fd ["_law_line","_law_sign"] Hm:=by
 refine F.ok Lw (fun vs H Q E h=>?_) (fun cdv A outer s H vs Q E hr h=>?_)
 .obtain⟨z,c,rfl,_⟩:=h;rfl
 .obtain⟨z,c,rfl,ha,hz,q⟩:=h
  refine⟨_,aJ (bZ (bj iW (pv 0) aX (bf _)) (aD (aO (bU aj))) bc)
   (aD (aO (bI bW rfl T.tuple fP (ak (bG ["_law_word","_law_sign"] [none,some 1] rfl (fJ (dI PySem.F.plainAttrs_str PySem.F.slot_str_split PySem.F.type_str_split eU (pv 0) (ak aX aj)))
    (fun C fp Zt s₂ H₂=>⟨pgn 0 Lx,bJ,bI (oO (K:=K) rfl) rfl T.tuple fP (ak (bG ["_law_part"] [none] rfl (BV (K:=K) rfl (BP (K:=K) rfl PySem.F.plainAttrs_str PySem.F.slot_str_split PySem.F.type_str_split (zX (K:=K) rfl) (pv 0) (ak (pv 1) aj)))
     (fun C fp Zt s₂ H₂=>⟨bw (i:=0) (nd1 _) rfl (Or.inl rfl),bJ,aG c1 hr (ak (pv 0) aj)⟩) (fun C=>trivial) ⟨rfl,rfl,rfl,rfl⟩) aj)⟩) (fun C=>cI trivial) ⟨rfl,rfl,rfl,rfl⟩) aj)))),?_⟩
  refine aB ?_;refine⟨_,rfl,rfl,_,rfl,?_⟩;rw[show(Str.ofString "-")=sg 45 by decide +kernel];by_cases hd:z=sg 45
  .subst hd;rw[zAu rfl];refine aY ⟨zL,fun p hp=>?_⟩;exact q p _ (Same.upd hp) (.tup aa .nil)
  .rw[decide_eq_false (fun z=>hd (by injection z))];refine aW (bB ?_);dsimp only;refine eQ ?_;have hc:=fH (c:=32) (z:=z);have eD:dD c z=.tuple ((aM 32 z).map (jq c)):=if_neg hd;rw[eD]at q;refine⟨_,rfl,rfl,z,32,rfl,by rw[show(Str.ofString " ")=sg 32 by decide +kernel],by rw[sizeLine_eq];lia,fun l hl nl=>⟨l,rfl,⟨_,SqL.of aa⟩,?_⟩⟩;have s1:=Same.upd (o:=.lst ((aM 32 z).map V.str)) hl;have el:=aa (H:=H) (a:=l) (o:=.lst ((aM 32 z).map V.str));show iw _ _ _ _ _ _ (upd H l (.lst ((aM 32 z).map V.str)));generalize upd H l (.lst ((aM 32 z).map V.str))=H1 at s1 el⊢;have G:=jl (K:=K) el;rw[zA1]at G;refine cV (aM 32 z).length (fun i ys σ Hd=>Same H1 Hd/\(∃o,σ=[o,some (.str (sg c))])/\IsThs (fun _=>False) Hd ys (((aM 32 z).take i).map (jq c))) ⟨Same.refl _,⟨_,rfl⟩,.nil⟩ Zu ?_ ?_
   .rintro i ys σ Hd hi hy ⟨sm,⟨o,rfl⟩,ths⟩;obtain⟨g1,g2⟩:=G.1 i Hd hi sm;refine⟨g1,fun x H' y R hR=>?_⟩;obtain⟨rfl,rfl⟩:=g2 x H' y;rw[yg hi];have hm:(aM 32 z)[i]∈aM 32 z:=zAh hi;have et:(aM 32 z).take (i+1)=(aM 32 z).take i++[(aM 32 z)[i]]:=by rw[zAj,zA0 hi];rfl
    rw[et]at hR;generalize(aM 32 z)[i]=x at hm hR⊢;have hx:x.length<=4000:=by have:=jC hm;lia
    have OE:=fQ ha hm;have HK:=fH (c:=c) (z:=x);refine aH ?_;refine⟨_,rfl,rfl,_,rfl,x,c,rfl,rfl,by rw[sizeLine_eq];lia,fun l2 cE OF=>⟨l2,rfl,⟨_,SqL.of aa⟩,?_⟩⟩;have s2:=Same.upd (o:=.lst ((aM c x).map V.str)) cE;have el2:=aa (H:=H') (a:=l2) (o:=.lst ((aM c x).map V.str));show iw _ _ _ _ _ _ (upd H' l2 (.lst ((aM c x).map V.str)));generalize upd H' l2 (.lst ((aM c x).map V.str))=H2 at s2 el2⊢;refine gF ((aM c x).map V.str).length (fun i=>((aM c x).map V.str).getD i .non) (fun i=>fZ ((aM c x).getD i (sg 0))) (by rw[zA1,sizeLine_eq];lia) (jl el2).1 (jl el2).2 ?_ ?_
    .intro j H3 Q3 hj LL q3;rw[zA1]at hj;rw[yg hj];have LM:(aM c x)[j]∈aM c x:=zAh hj;have eg:(aM c x).getD j (sg 0)=(aM c x)[j]:=by rw[zA7,zA0 hj];rfl
     rw[eg]at q3;exact⟨_,rfl,_,rfl,fQ OE LM,by have:=jC LM;lia,q3⟩
    .intro H3 LL D hD;have e2:(List.range ((aM c x).map V.str).length).map (fun i=>fZ ((aM c x).getD i (sg 0)))=(aM c x).map fZ:=fG (aM c x) (sg 0) fZ _ (by rw[zA1]);rw[e2];refine⟨D,_,rfl,.inl ⟨SqL.of aa,fun p hp=>?_⟩⟩;have s4:=((s2.trans LL).updR (o:=.lst ((aM c x).map fZ)) hD).updR (o:=.tup ((aM c x).map fZ)) hp;refine hR _ _ _ ⟨sm.trans s4,⟨_,rfl⟩,?_⟩;rw[zA4];exact(ths.same s4).append (.cons (.tup aa (yf _)) .nil)
   .rintro ys σ Hd hy ⟨sm,_,ths⟩;rw[zAm]at ths;refine⟨G.2 Hd sm,fun D hD=>⟨D,_,rfl,.inl ⟨SqL.of aa,fun p hp=>?_⟩⟩⟩;have s5:=(Same.upd (o:=.lst ys) hD).updR (o:=.tup ys) hp;exact q p _ ((s1.trans sm).trans s5) (.tup aa (ths.same s5))
def tL(x:Str):PyData:=.tuple [dD 47 (ln x 0),dD 44 (ln x 1),dD 44 (ln x 2)]
theorem Gp{c:Nat}{z:Str}(h:okW c z=true):jq c z=rowD (jU c z):=by
 have h1:∀p∈aM c z,cF p=true:=List.all_eq_true.mp h;unfold jq rowD jU;rw[zAr];congr 1;refine List.map_congr_left fun p hp=>?_;show(if cF p then PyData.int (gA p)else .none)=_;rw[h1 p hp];rfl
theorem Dv{c:Nat}{z:Str}{r:List Int}(h:jq c z=rowD r):okW c z=true:=by
 refine List.all_eq_true.mpr fun p hp=>?_;have h1:(aM c z).map lF=r.map PyData.int:=by injection h
 have h2:lF p∈r.map PyData.int:=by rw[<-h1];exact zA5.mpr ⟨p,hp,rfl⟩
 obtain⟨n,_,e⟩:=zA5.mp h2;unfold lF at e
 cases hn:cF p with
 |true=>rfl
 |false=>rw[hn]at e;exact absurd e Zy
theorem tM{c:Nat}{l:Str}(h:okL c l=true):dD c l=aQ (dN c l):=by
 unfold dD dN;by_cases hd:l=sg 45
 .rw[zB3 hd,zB3 hd];rfl
 .rw[zB0 hd,zB0 hd];unfold okL at h;rw[zAy hd,Bool.false_or]at h;have h1:∀p∈aM 32 l,okW c p=true:=List.all_eq_true.mp h;unfold aQ;rw[zAr];congr 1;exact List.map_congr_left fun p hp=>Gp (h1 p hp)
theorem pA{c:Nat}{l:Str}{rs:List (List Int)}(h:dD c l=aQ rs):okL c l=true:=by
 unfold dD at h;unfold okL;by_cases hd:l=sg 45
 .rw[zAu hd];rfl
 .rw[zB0 hd]at h;rw[zAy hd,Bool.false_or];refine List.all_eq_true.mpr fun p hp=>?_;have h1:(aM 32 l).map (jq c)=rs.map rowD:=by injection h
  have h2:jq c p∈rs.map rowD:=by rw[<-h1];exact zA5.mpr ⟨p,hp,rfl⟩
  obtain⟨r,_,e⟩:=zA5.mp h2;exact Dv e.symm
theorem Dw{x:Str}(h0:okL 47 (ln x 0)=true)(h1:okL 44 (ln x 1)=true)(h2:okL 44 (ln x 2)=true):tL x=fU x:=by
 unfold tL fU;rw[tM h0,tM h1,tM h2]
theorem zY{x:Str}(h3:(aM 10 x).length=3):cu (tL x)=okB x:=by
 unfold okB;rw[zAu h3,Bool.true_and];by_cases h:okL 47 (ln x 0)=true/\okL 44 (ln x 1)=true/\okL 44 (ln x 2)=true
 .obtain⟨a,b,c⟩:=h;rw[Dw a b c,a,b,c];rfl
 .have e:cu (tL x)=false:=by
   cases hb:cu (tL x)with
   |false=>rfl
   |true=>
    obtain⟨d0,d1,d2,e,c,p,s,_⟩:=oY hb;have e:[dD 47 (ln x 0),dD 44 (ln x 1),dD 44 (ln x 2)]=[d0,d1,d2]:=by injection e
    simp only[List.cons.injEq,and_true]at e;obtain⟨e0,e1,e2⟩:=e;exact absurd ⟨pA (e0.trans (iV c).1),pA (e1.trans (fu p).1),pA (e2.trans (fD s).1)⟩ h
  rw[e]
  cases a:okL 47 (ln x 0)with
  |false=>rfl
  |true=>
   cases b:okL 44 (ln x 1)with
   |false=>rfl
   |true=>
    cases c:okL 44 (ln x 2)with
    |false=>rfl
    |true=>exact absurd ⟨a,b,c⟩ h
theorem vm{x:Str}(h:okB x=true):tL x=fU x:=by
 unfold okB at h;simp only[Bool.and_eq_true]at h;exact Dw h.2.1 h.2.2.1 h.2.2.2.1
theorem Dy(c:Nat)(l:Str):pq (dD c l)=true:=by
 unfold dD;split
 .rfl
 .refine lowDs_all.mpr fun d hd=>?_;obtain⟨p,_,rfl⟩:=zA5.mp hd;refine lowDs_all.mpr fun d hd=>?_;obtain⟨q,_,rfl⟩:=zA5.mp hd;unfold lF
  cases h:cF q with
  |false=>rfl
  |true=>
   unfold cF at h;simp only[Bool.and_eq_true,Zq]at h;have:=xr h.2.1 h.2.2.1;show decide ((gA q).natAbs<2^100)=true;exact decide_eq_true Zz
theorem yh(x:Str):pq (tL x)=true:=by
 refine lowDs_all.mpr fun d hd=>?_;simp only[List.mem_cons,List.not_mem_nil,or_false]at hd;rcases hd with rfl|rfl|rfl<;>exact Dy _ _
theorem tO(c:Nat)(l:Str):sz (dD c l)<=2*l.length+3:=by
 unfold dD;split
 .exact Nat.le_trans (by decide:sz (.tuple [])<=3) (Nat.le_add_left _ _)
 .have h1:=dJ 32 l
  have h2:∀ws:List Str,szs (ws.map (jq c))<=lsum ws+2*ws.length:=fun ws=>by
   induction ws with
   |nil=>exact zAp _
   |cons w ws ih=>
    have h3:=dJ c w;show(1+szs ((aM c w).map lF))+szs (ws.map (jq c))<=(w.length+lsum ws)+2*(ws.length+1)
    have h4:∀l:List Str,szs (l.map lF)=l.length:=fun l=>by
     induction l with
     |nil=>rfl
     |cons a l ih=>
      have:sz (lF a)=1:=by unfold lF;split<;>rfl
      show sz (lF a)+szs (l.map lF)=l.length+1;lia
    have:=h4 (aM c w);lia
  have:=h2 (aM 32 l);show 1+szs ((aM 32 l).map (jq c))<=_;lia
theorem Jh{x:Str}(h:(aM 10 x).length=3):sz (tL x)<=2*x.length+10:=by
 have h1:=dJ 10 x;rw[tH h]at h1;have h1:(ln x 0).length+((ln x 1).length+((ln x 2).length+0))+3=x.length+1:=h1;have a:=tO 47 (ln x 0);have b:=tO 44 (ln x 1);have c:=tO 44 (ln x 2);show 1+(sz (dD 47 (ln x 0))+(sz (dD 44 (ln x 1))+(sz (dD 44 (ln x 2))+0)))<=_;lia
theorem yj:∀{r:List Int},iZ (r.map PyData.int)=true->fM (r.map PyData.int)=true
 |[],_=>rfl
 |n::r,h=>by
  have h:(decide (n.natAbs<2^100)&&iZ (r.map PyData.int))=true:=h;rw[zAc]at h;show(decide (n.natAbs<2^128)&&fM (r.map PyData.int))=true;have h1:=zB8 h.1;rw[yj h.2,zAu Zz];rfl
theorem lG:∀{rs:List (List Int)},iZ (rs.map rowD)=true->fM (rs.map rowD)=true
 |[],_=>rfl
 |r::rs,h=>by
  have h:(iZ (r.map PyData.int)&&iZ (rs.map rowD))=true:=h;rw[zAc]at h;show(fM (r.map PyData.int)&&fM (rs.map rowD))=true;rw[yj h.1,lG h.2];rfl
theorem Dz:∀r:List Int,szs (r.map PyData.int)=r.length
 |[]=>rfl
 |n::r=>by
  show 1+szs (r.map PyData.int)=r.length+1;rw[Dz r,Nat.add_comm]
theorem yl{k:Nat}:∀{rs:List (List Int)},(∀r∈rs,r.length<=k)->szs (rs.map rowD)<=rs.length*(1+k)
 |[],_=>zAp _
 |r::rs,h=>by
  have h1:=h r (.head _);have h2:=yl (rs:=rs) fun x hx=>h x (.tail _ hx);have h3:=Dz r;show(1+szs (r.map PyData.int))+szs (rs.map rowD)<=(rs.length+1)*(1+k);rw[Nat.succ_mul];lia
theorem zZ{d:PyData}{rs:List (List Int)}(h:d=aQ rs):sz d=1+szs (rs.map rowD):=by rw[h];rfl
theorem pB{d:PyData}{m k:Nat}(e:d=aQ (rowsOf d))(hl:(rowsOf d).length<=m)(hr:∀r∈rowsOf d,r.length<=k):sz d<=1+m*(1+k):=by
 have h1:=zZ e;have h2:=yl hr;have h3:=Nat.mul_le_mul_right (1+k) hl;lia
theorem vo{d:PyData}(h:cu d=true):sz d<=230:=by
 obtain⟨d0,d1,d2,rfl,c,p,s,_⟩:=oY h;have a:=pB (m:=20) (k:=3) (iV c).1 (iV c).2.1 fun r hr=>Nat.le_of_eq ((iV c).2.2 r hr).1;have b:=pB (m:=10) (k:=6) (fu p).1 (fu p).2.1 fun r hr=>Nat.le_of_eq ((fu p).2.2 r hr).1;have g:=pB (m:=12) (k:=5) (fD s).1 (fD s).2.1 fun r hr=>Nat.le_of_eq ((fD s).2.2 r hr);show 1+(sz d0+(sz d1+(sz d2+0)))<=230;lia
theorem pC{x:Str}(h:okB x=true):tame (fU x)=true:=by
 have lo:=yh x;rw[vm h]at lo;have lo:(iZ ((dN 47 (ln x 0)).map rowD)&&(iZ ((dN 44 (ln x 1)).map rowD)&&(iZ ((dN 44 (ln x 2)).map rowD)&&true)))=true:=lo;simp only[Bool.and_eq_true]at lo;show(fM ((dN 47 (ln x 0)).map rowD)&&(fM ((dN 44 (ln x 1)).map rowD)&&(fM ((dN 44 (ln x 2)).map rowD)&&true)))=true;rw[lG lo.1,lG lo.2.1,lG lo.2.2.1];rfl
theorem DG{x:Str}(h:okB x=true):cu (fU x)=true:=by
 unfold okB at h;simp only[Bool.and_eq_true]at h;exact h.2.2.2.2
theorem Gq{d:PyData}(h:okD d=true):tame (.tuple [.str "told",jo d])=true/\sz (.tuple [.str "told",jo d])<=1000:=by
 cases d with
 |str x=>
  have h:okB x=true:=h;have z:=vo (DG h);refine⟨?_,?_⟩
  .show(tame (.str "told")&&(tame (fU x)&&true))=true;rw[pC h,show tame (.str "told")=true by decide +kernel];rfl
  .show 1+(1+(sz (fU x)+0))<=1000;lia
 |_=>cases h
def Lz(Cs:Nat->Addr)(j:Nat)(b:Bool)(D:PyData)(H:Hp)(Q:VK)(E:XK):Prop:=(b=true->∀a H',Same H H'->IsTh (fun _=>False) H' (.ref a) D->Q (.ref a) H')/\(b=false->∀a H',Same H H'->H' a=none->E (.ref a) (some (Cs j)) H')
def FoundB(j:Nat)(b:Bool)(D:PyData)(H:Hp)(v:V):Prop:=match b with
 |false=>v=.str (words.getD j "")
 |true=>IsTh (fun _=>False) H v (.tuple [.str "told",D])
theorem FoundB.er{j:Nat}{b:Bool}{D:PyData}{H H1:Hp}{v:V}{cs:List (Addr×Obj)}(h:FoundB j b D H1 v)(s:Same (fz H cs) H1):FoundB j b D (er H1 cs) v:=by
 cases b with
 |false=>exact h
 |true=>exact IsTh.er h s
theorem DK{Cs:Nat->Addr}{kk j:Nat}{b:Bool}{D:PyData}{fl:Addr}{fd:FuncData}{body:Expr}{N:List Str}{vs:List V}{cs:List (Addr×Obj)}{H2:Hp}{Q:VK}(kd:Kind K Cs j)(L:LamObj H2 fl fd)(Z:LamAt fd body N)(C:CellsOf fd.closure N vs H2 cs)(hN:vs.length=N.length)
  (run:∀A outer E Q,Room kk A->Lz Cs j b D H2 Q E->∃te,(∀s,PE (cxL P w K mg base N fd fl A outer s H2 E) body te)/\te (vs.map some) H2 Q)
  (q:∀v H3,Same (fz H2 cs) H3->FoundB j b D H3 v->Q v H3):sY P w K mg base Cs kk [.ref fl] (fz H2 cs) Q E0:=by
 have no:NoC cs H2:=C.no
 have LN:∀b o,H2 b=some o->fz H2 cs b=some o:=fun b o e=>by
  cases z:cs.lookup b with
  |some u=>rw[no b u z]at e;cases e
  |none=>rw[dB z];exact e
 refine⟨fl,fun v' H3=>b=true/\Same (fz H2 cs) H3/\IsTh (fun _=>False) H3 v' D,fun a C' H3=>b=false/\C'=Cs j/\Same (fz H2 cs) H3,rfl,
  ⟨fd,body,N,vs,cs,?_,Z,fun b o e=>qz e,C.cell,C.val,hN,fun A' ia Q' E' AI h1 h2=>?_⟩,?_,?_⟩
 .obtain⟨⟨o,e1,e2⟩,c,oc,vs,t,a1,a2,a3⟩:=L;exact⟨⟨o,LN _ _ e1,e2⟩,c,oc,vs,t,a1,LN _ _ a2,a3⟩
 .rw[JZ no];refine run A' ia _ _ AI ⟨fun kn a H' s' th LO=>?_,fun hj a H' s' na LO=>?_⟩
  .exact h1 _ (fz H' cs) ⟨kn,s'.fz,th.fz LO⟩
  .exact h2 a (Cs j) (fz H' cs) ⟨hj,rfl,s'.fz⟩
 .rintro v' H3 ⟨kn,s3,th⟩ p hp;refine q _ _ (s3.updR hp) ?_;rw[kn];exact .tup aa (.cons (.str _) (.cons (th.same (Same.upd hp)) .nil))
 .rintro a C' H3 ⟨hj,rfl,s3⟩;refine⟨j,rfl,kd,fun fa H4 s4=>q _ _ (s3.trans s4) ?_⟩;rw[hj];rfl
def qnT:Str:=(PyProof.Rows.envOfC "_law_right" (au (top 76)) 0 0 .none).qual++"<lambda>"
inductive SpRightI(T:Addr)(qn:Str)(vs:List V)(H:Hp)(Q:VK):Prop
 |mk:∀S v d,(vs=[v])->(IsTh S H v d)->(okX d)->(TabOk H T qn)->(∀H',(∀b o,b≠T->H b=some o->H' b=some o)->TabOk H' T qn->Q (.bl true) H')->SpRightI T qn vs H Q
def ym(T:Addr)(qn:Str):Sp:=fun vs H Q _=>SpRightI T qn vs H Q
abbrev NR:List Str:=["_law_thing","_law_due","_law_said_here"]
theorem scR:FnScope NR ["_law_thing"] (au (top 76)):=fQS
theorem Ke:(["_law_line","_law_sign"]:List Str).Nodup:=by decide +kernel
theorem DN{f T0 cc:Addr}{Cs:Nat->Addr}{fd:FuncData}(F:Fun K "_law_right" "_law_right" (top 76) f fd)(hc:fd.code=.ref cc)(hC:PySem.W.CodeHd base cc T0)(hB:base.BuiltinsAt mg T0)(T:Mg mg)(Ts:mg "str"=none)(Tz:mg "zip"=none)(kd:Kind K Cs 14)
  (c1:Cal P w K mg base 15 "_law_said" ["_law_call"] (sY P w K mg base Cs 13)) (c2:ww P w K mg base 7 "read_book" ["text"] (wy Cs)) (c3:Cal P w K mg base 2 "_law_rows_in" ["_law_line","_law_sign"] Hm)
  (c6:Cal P w K mg base 3 "_law_is_book" ["_law_thing"] Hl) (c7:Cal P w K mg base 61 "_law_same" ["_law_found","_law_due"] spSame):
  FnOk P w K mg base CX0 62 f fd ["_law_thing"] (ym T0 qnT):=by
 refine F.okC hc scR (fun vs H Q E h=>?_) (fun A outer s H vs Q E hr h=>?_)
 .obtain⟨S,v,d,rfl,_⟩:=h;rfl
 .obtain⟨S,v,d,rfl,th,ok,tab,q⟩:=h;obtain⟨f1,LA,F1,m1,k1,b1⟩:=id c1;have ib:Room 15 (A.deeper (PyProof.Rows.envOfC "_law_right" (au (top 76)) s.heap.objs.size f (.ref cc))):=hr.mono Zx
  refine K80P.ok_b (aF (gw 1 scR.nd ⟨gn⟩)
   (aF ⟨bZ (PW.pt (vq (bM (aK bR rfl T.isinstance boot_isinstance (ak (pv 0) (ak (dO rfl Ts gm (v:=.ty "str") rfl) aj)))) (qX (bj iW (aK bF rfl T.len PySem.boot_len (ak (dI PySem.F.plainAttrs_str PySem.F.slot_str_split PySem.F.type_str_split eU (pv 0) (ak aX aj)) aj)) ao (bf _)))))
     (aJ (pss 1 scR.nd (bI bW rfl T.tuple fP (ak (bG (g:=vy K 2 (j8 (dH 0) (j8 (dH 1) yH))) ["_law_line","_law_sign"] [none,none] rfl (ZS.pi_zip false rfl Tz (ak (dI PySem.F.plainAttrs_str PySem.F.slot_str_split PySem.F.type_str_split eU (pv 0) (ak aX aj)) (ak aX aj)))
      (fun C fp Zt s₂ H₂=>⟨kO rfl rfl (az (pgn 0 Ke) (az (pgn 1 Ke) bT)),bJ,aG c3 hr (ak (pv 0) (ak (pv 1) aj))⟩) (fun C=>trivial) ⟨rfl,rfl,rfl,rfl⟩) aj)))
     (aD (pss 1 scR.nd (ik (bM (aG c6 hr (ak (pv 1) aj))) (pv 1) gn)))) bc⟩
   (aF (gw 2 scR.nd ⟨uH (N:=["_law_thing"]) (ix:=[0]) (sc:=au (top 76)) (NX:=NR) F1 ib rfl m1 k1 b1 rfl (fun _=>rfl) rfl hC hB rfl rfl rfl (fun _ _ _ _ _=>rfl) Zv⟩)
   (bx (fj ⟨ik (bj rA (pv 1) gn (bf _)) (dZ iW (pv 2) aX (bf _)) (aG c7 hr (ak (pv 2) (ak (bU (ak aX (ak (pv 1) aj))) aj)))⟩))))) ?_
  refine aB (aV ?_);refine aH ?_;dsimp only;refine Fb fun c_ OG=>?_
  have rest:∀H2 x1,Same H H2->((okD d=false/\x1=V.non)\/(okD d=true/\∃a,x1=V.ref a/\IsTh (fun _=>False) H2 (.ref a) (jo d)))->c_ [some v,some x1,none] H2:=by
   intro H2 x1 s2 EF;have zo:=th.same s2;have ij:=TabOk.same tab s2;refine OG _ _ ?_;refine aB (aV ?_);refine⟨ij,fun fl pm cv ct H9 oD sP nf L Z=>⟨[v],rfl,fun j' i' z e1 e2=>?_,fun cs C=>?_⟩⟩
   .rcases j' with _|j'
    .cases e1;cases e2;rfl
    .simp at e1
   have OH:=zo.tbl ij oD;refine DK (j:=14) (b:=okD d) (D:=jo d) kd L Z C rfl (fun A' ia E' Q' AI out=>⟨_,fun s'=>jE c2 (AI.deeper _) Zx rfl uF rfl (ak (pv 0) aj),⟨v,rfl,S,v,d,rfl,OH,ok,out⟩⟩) fun v1 HA sA fA=>?_;have no:NoC cs H9:=C.no;have sB:=sA.er no;have fB:=fA.er sA;refine aH ?_;dsimp only;generalize er HA cs=HB at sB fB⊢;have AJ:=sP.same sB;have kB:∀b o,b≠T0->H b=some o->HB b=some o:=fun b o n e=>sB _ _ (oD b o n (s2 _ _ e));clear fA sA C L Z no;refine eQ ?_;rcases EF with⟨h0,rfl⟩|⟨h1,a,rfl,ta⟩
   .rw[h0]at fB;cases(show v1=.str (words.getD 14 "")from fB);refine⟨_,rfl,rfl,_,rfl,aY ⟨_,rfl,rfl,?_⟩⟩;rw[zAu (show V.str (words.getD 14 "")=V.str "text" from rfl)];exact q _ kB AJ
   .rw[h1]at fB;have fB:IsTh (fun _=>False) HB v1 (.tuple [.str "told",jo d]):=fB;have OI:=(ta.tbl ij oD).same sB;obtain⟨tm,hz⟩:=Gq h1;refine⟨_,rfl,rfl,_,rfl,aW ⟨_,rfl,_,rfl,zL,fun p hp=>?_⟩⟩;have sp:=Same.upd (o:=.tup [.str "told",.ref a]) hp;refine⟨fun _=>False,v1,.ref p,.tuple [.str "told",jo d],.tuple [.str "told",jo d],rfl,id,fB.same sp,.tup aa (.cons (.str _) (.cons (OI.same sp) .nil)),tm,tm,hz,hz,?_⟩;rw[zAu rfl];exact q _ (fun b o n e=>sp _ _ (kB b o n e)) (AJ.same sp)
  refine⟨_,rfl,v,_,"str",tE d,rfl,th.ty,ph d,_,rfl,?_⟩
  cases d with
  |str x=>
   cases th;obtain⟨ha,hz⟩:=ok.2 x rfl;have hc:=fH (c:=10) (z:=x);have jS:(Str.ofString "\n")=sg 10:=by decide +kernel
   refine aY ⟨_,rfl,rfl,x,10,rfl,by rw[jS],by rw[sizeLine_eq];lia,fun l hl nl=>⟨l,_,rfl,.inl (SqL.of aa),rfl,_,rfl,?_⟩⟩;have s1:=Same.upd (o:=.lst ((aM 10 x).map V.str)) hl;rw[zA1];have e3:okD (.str x)=okB x:=rfl;rw[e3]at rest;by_cases h3:(aM 10 x).length=3
   .rw[zAu (show V.int ((Txt.split x ⟨#[10]⟩).length:Nat)=V.int 3 by rw[show(Txt.split x ⟨#[10]⟩).length=3 from h3];rfl)];refine aY ?_;have s1:Same H (upd H l (.lst ((Txt.split x ⟨#[10]⟩).map V.str))):=s1;generalize upd H l (.lst ((Txt.split x ⟨#[10]⟩).map V.str))=H1 at s1⊢;refine aB (aV ?_);refine⟨_,rfl,rfl,x,10,rfl,by rw[jS],by rw[sizeLine_eq];lia,fun l2 cE OF=>⟨l2,_,_,rfl,SqL.of aa,by decide +kernel,?_⟩⟩
    have el:upd H1 l2 (.lst ((Txt.split x ⟨#[10]⟩).map V.str)) l2=some (.lst [.str (ln x 0),.str (ln x 1),.str (ln x 2)]):=by
     rw[show Txt.split x ⟨#[10]⟩=[ln x 0,ln x 1,ln x 2]from tH h3];exact aa
    have s2:=s1.trans (Same.upd (o:=.lst ((Txt.split x ⟨#[10]⟩).map V.str)) cE);generalize upd H1 l2 (.lst ((Txt.split x ⟨#[10]⟩).map V.str))=H2 at s2 el⊢;have ez:(Str.ofString "/,,").cps=#[47,44,44]:=by decide +kernel
    have ag:∀i,i<3->Asc (ln x i)/\(ln x i).length<=4000:=fun i hi=>⟨fQ ha (tK h3 hi),by have:=jC (tK h3 hi);lia⟩
    have go:∀i Hd,Same H2 Hd->∀y c,([.str (ln x 0),.str (ln x 1),.str (ln x 2)]:List V)[i]?=some y->(Str.ofString "/,,").cps[i]?=some c->∀(g:TG) (te:TE) (R:V->L2.St->Hp->Prop) (σ:L2.St),(∀T,Hd T=none->g (.ref T) σ (upd Hd T (.tup [y,.str (sg c)])) fun ar H2=>te ar H2 fun y H4=>R y ar H4)->
      (ZS.Itz false K l2 (Str.ofString "/,,")).go i Hd/\∀v H',(ZS.Itz false K l2 (Str.ofString "/,,")).yld i Hd v H'->g v σ H' fun ar H2=>te ar H2 fun y H4=>R y ar H4:=by
     intro i Hd sm y c hx hc g te R σ hg;refine⟨⟨_,y,c,SqL.of (sm _ _ el),hx,hc⟩,fun v H' yy=>?_⟩;obtain⟨T,nT,rfl,yy⟩:=yy;obtain⟨x',c',e1,e2,rfl⟩:=yy _ (SqL.of (sm _ _ el));rw[hx]at e1;cases e1;rw[hc]at e2;cases e2;exact hg T nT
    refine cV 3 (fun i ys σ Hd=>Same H2 Hd/\(∃o1 o2,σ=[o1,o2])/\IsThs (fun _=>False) Hd ys ([dD 47 (ln x 0),dD 44 (ln x 1),dD 44 (ln x 2)].take i)) ⟨Same.refl _,⟨_,_,rfl⟩,.nil⟩ Zx ?_ ?_
    .rintro i ys σ Hd hi hy ⟨sm,⟨o1,o2,rfl⟩,ths⟩;rcases i with _|_|_|i
     .refine⟨⟨_,.str (ln x 0),47,SqL.of (sm _ _ el),rfl,by rw[ez];rfl⟩,fun v H' y R hR=>(go 0 Hd sm (.str (ln x 0)) 47 rfl (by rw[ez];rfl) _ _ R _ fun T nT=>?_).2 v H' y⟩;have s3:=Same.upd (o:=.tup [.str (ln x 0),.str (sg 47)]) nT;refine⟨T,_,rfl,SqT.of aa,rfl,_,_,rfl,_,_,rfl,rfl,_,rfl,_,rfl,ln x 0,47,rfl,(ag 0 Zx).1,(ag 0 Zx).2,fun a H3 s4 t4=>hR _ _ _ ⟨(sm.trans s3).trans s4,⟨_,_,rfl⟩,(ths.same (s3.trans s4)).append (.cons t4 .nil)⟩⟩
     .refine⟨⟨_,.str (ln x 1),44,SqL.of (sm _ _ el),rfl,by rw[ez];rfl⟩,fun v H' y R hR=>(go 1 Hd sm (.str (ln x 1)) 44 rfl (by rw[ez];rfl) _ _ R _ fun T nT=>?_).2 v H' y⟩;have s3:=Same.upd (o:=.tup [.str (ln x 1),.str (sg 44)]) nT;refine⟨T,_,rfl,SqT.of aa,rfl,_,_,rfl,_,_,rfl,rfl,_,rfl,_,rfl,ln x 1,44,rfl,(ag 1 Zx).1,(ag 1 Zx).2,fun a H3 s4 t4=>hR _ _ _ ⟨(sm.trans s3).trans s4,⟨_,_,rfl⟩,(ths.same (s3.trans s4)).append (.cons t4 .nil)⟩⟩
     .refine⟨⟨_,.str (ln x 2),44,SqL.of (sm _ _ el),rfl,by rw[ez];rfl⟩,fun v H' y R hR=>(go 2 Hd sm (.str (ln x 2)) 44 rfl (by rw[ez];rfl) _ _ R _ fun T nT=>?_).2 v H' y⟩;have s3:=Same.upd (o:=.tup [.str (ln x 2),.str (sg 44)]) nT;refine⟨T,_,rfl,SqT.of aa,rfl,_,_,rfl,_,_,rfl,rfl,_,rfl,_,rfl,ln x 2,44,rfl,(ag 2 Zx).1,(ag 2 Zx).2,fun a H3 s4 t4=>hR _ _ _ ⟨(sm.trans s3).trans s4,⟨_,_,rfl⟩,(ths.same (s3.trans s4)).append (.cons t4 .nil)⟩⟩
     .lia
    .rintro ys σ Hd hy ⟨sm,_,ths⟩;refine⟨⟨_,SqL.of (sm _ _ el),zA3 _⟩,fun D hD=>⟨D,_,rfl,.inl ⟨SqL.of aa,fun p hp=>?_⟩⟩⟩;have s5:=(Same.upd (o:=.lst ys) hD).updR (o:=.tup ys) hp;have tp:IsTh (fun _=>False) (upd (upd Hd D (.lst ys)) p (.tup ys)) (.ref p) (tL x):=.tup aa (ths.same s5);have s6:=(s2.trans sm).trans s5;refine aH ?_;dsimp only;generalize upd (upd Hd D (.lst ys)) p (.tup ys)=H6 at tp s6⊢;refine aV ?_;refine⟨_,rfl,_,_,_,rfl,tp,by have:=Jh h3;lia,yh x,fun H7 s7=>⟨_,rfl,?_⟩⟩;rw[zY h3]
     cases hb:okB x with
     |false=>exact aW (aH (rest H7 .non (s6.trans s7) (.inl ⟨hb,rfl⟩)))
     |true=>
      have LP:=tp.same s7;rw[vm hb]at LP;exact aY ⟨_,rfl,aH (rest H7 (.ref p) (s6.trans s7) (.inr ⟨hb,p,rfl,LP⟩))⟩
   .rw[zAy (fun z=>h3 (by injection z with z;exact Int.ofNat.inj z))];refine aW (bB ?_);refine rest _ .non s1 (.inl ⟨?_,rfl⟩);unfold okB;rw[zAy h3];rfl
  |_=>
   refine aW (aW (bB ?_));exact rest H .non (Same.refl _) (.inl ⟨rfl,rfl⟩)
def TxE(n:Nat)(σ:L2.St)(H:Hp)(t:TE):Prop:=∀Q:VK,(∀z,Asc z->z.length<=n->Q (.str z) H)->t σ H Q
def TxA(n k:Nat)(σ:L2.St)(H:Hp)(t:TA):Prop:=∀Q:List V->Hp->Prop,(∀zs:List Str,zs.length=k->(∀z∈zs,Asc z/\z.length<=n)->Q (zs.map V.str) H)->t σ H Q
abbrev Kf:R2:=fun x y H Q=>∃i j,x=.str i/\y=.str j/\i.length+j.length<=sizeLine/\Q (.str (i++j)) H
abbrev rUp:V->List V->Hp->VK->Prop:=fun x vs H Q=>∃z,x=.str z/\vs=[]/\(∀c∈z.cps.toList,c<128)/\z.length<=sizeLine/\∀z',(∀c∈z'.cps.toList,c<128)->z'.length=z.length->Q (.str z') H
theorem yo{x y:Str}(h:Asc x)(g:Asc y):Asc (x++y)/\(x++y).length=x.length+y.length:=by
 refine⟨fun c hc=>?_,?_⟩
 .have hc:c∈(x.cps++y.cps).toList:=hc;rw[Array.toList_append]at hc;exact(zA6.mp hc).elim (h c) (g c)
 .show(x.cps++y.cps).size=_;rw[Array.size_append];rfl
theorem lH{x y:Str}(h:SubT x y)(g:Asc y):Asc x:=fun c hc=>g c (h.m c hc)
section
variable{σ:L2.St}{H:Hp}{i j n m a b k:Nat}{z:Str}{t ta tb:TE}{ts:TA}{K:Frag}
theorem wA(h:σ[i]?=some (some (.str z)))(ha:Asc z)(hn:z.length<=n):TxE n σ H (iI i):=fun Q q=>⟨_,h,q z ha hn⟩
theorem yp(h:σ[i]?=some (some (.str z)))(ha:Asc z)(hz:z.length<=1000){r:Int}(hj:σ[j]?=some (some (.int r)))(h0:0<=r)(hn:r.toNat<=n):TxE n σ H (tSl BW (iI i) jy (mW (iI j))):=fun Q q=>
 ⟨_,h,_,hj,r,rfl,z,rfl,by rw[sizeLine_eq];lia,fun z' s l=>q z' (lH s ha) (Nat.le_trans l (Nat.le_trans (Fx h0) hn))⟩
theorem Hn(h:σ[i]?=some (some (.str z)))(ha:Asc z)(hz:z.length<=1000){r:Int}(hj:σ[j]?=some (some (.int r)))(h0:0<=r)(hn:z.length-r.toNat<=n):TxE n σ H (tSl BW (iI i) (mW (iI j)) jy):=fun Q q=>
 ⟨_,h,_,hj,r,rfl,z,rfl,by rw[sizeLine_eq];lia,fun z' s l=>q z' (lH s ha) (Nat.le_trans l (Nat.le_trans (xu h0) hn))⟩
theorem DP(h:σ[i]?=some (some (.str z)))(ha:Asc z)(hz:z.length<=1000){r:Int}(hj:σ[j]?=some (some (.int r)))(h0:0<=r)(hn:z.length-r.toNat<=n):TxE n σ H (tSl BW (iI i) (mW (tOp (rI0 fun i j=>.int (i+j)) (iI j) (tC (.int 1)))) jy):=fun Q q=>
 ⟨_,h,_,hj,_,_,rfl,rfl,r+1,rfl,z,rfl,by rw[sizeLine_eq];lia,fun z' s l=>q z' (lH s ha) (Nat.le_trans l (Nat.le_trans (xu Zz) Zz))⟩
theorem Kg(h:σ[i]?=some (some (.str z)))(ha:Asc z)(hz:z.length<=1000):TxE 1 σ H (tSl BW (iI i) (mW (tUn (rU fun i=>.int (-i)) (tC (.int 1)))) jy):=fun Q q=>
 ⟨_,h,_,rfl,-1,rfl,z,rfl,by rw[sizeLine_eq];lia,fun z' s l=>q z' (lH s ha) (Nat.le_trans l Fy)⟩
theorem Ji(h:σ[i]?=some (some (.str z)))(ha:Asc z)(hz:z.length<=1000)(hn:z.length<=n):TxE n σ H (GQ (iI i)):=fun Q q=>
 ⟨_,h,z,rfl,by rw[sizeLine_eq];lia,fun z' s=>q z' (lH s ha) (Nat.le_trans s.l hn)⟩
theorem Ho(h:σ[i]?=some (some (.str z)))(ha:Asc z)(hz:z.length<=1000)(hn:z.length<=n):TxE n σ H (JH K "str" rUp (iI i)):=fun Q q=>
 ⟨_,h,rfl,z,rfl,rfl,ha,by rw[sizeLine_eq];lia,fun z' s l=>q z' s Zz⟩
theorem gZ(ha:TxE a σ H ta)(hb:TxE b σ H tb)(hn:a+b<=n)(nI:n<=100000):TxE n σ H (tOp Kf ta tb):=fun Q q=>
 ha _ fun x ax lx=>hb _ fun y ay ly=>⟨x,y,rfl,rfl,by rw[sizeLine_eq];lia,q _ (yo ax ay).1 (by rw[(yo ax ay).2];lia)⟩
theorem DQ:TxA n 0 σ H il:=fun Q q=>q [] rfl fun z hz=>by cases hz
theorem gO(h:TxE n σ H t)(hs:TxA n k σ H ts):TxA n (k+1) σ H (cA t ts):=fun Q q=>
 h _ fun z ha hl=>hs _ fun zs e g=>q (z::zs) (by rw[zAe,e]) fun y hy=>by
  rcases zAo.mp hy with rfl|hy
  .exact⟨ha,hl⟩
  .exact g y hy
end
def okY(n:Nat)(d:PyData):Prop:=sz d<=4000/\∀x,d=.str x->Asc x/\x.length<=n+1
inductive SpTBI(vs:List V)(H:Hp)(Q:VK):Prop
 |mk:∀st z,(vs=[.ref st,.str z])->(K80P.StAt H st)->(Asc z)->(z.length<=990)->(∀v d H',K80P.Dr st H H'->IsTh (K80P.SS st) H' v d->okY z.length d->Q v H')->SpTBI  vs H Q
def Kh:Sp:=fun vs H Q _=>SpTBI  vs H Q
theorem yq{S:Addr->Prop}{H:Hp}:∀zs:List Nat,IsThs S H (zs.map fun c=>V.str ⟨#[c]⟩) (zs.map fun c=>PyData.str ⟨#[c]⟩)
 |[]=>.nil
 |c::zs=>.cons (.str _) (yq zs)
theorem yr:∀zs:List Nat,szs (zs.map fun c=>PyData.str ⟨#[c]⟩)=zs.length
 |[]=>rfl
 |c::zs=>by
  show 1+szs (zs.map fun c=>PyData.str ⟨#[c]⟩)=zs.length+1;rw[yr zs,Nat.add_comm]
theorem scTB:FnScope ["_law_state_here","_law_text","_law_kind","_law_signs","_law_at","_law_sign","_law_some"] ["_law_state_here","_law_text"] (au (top 68)):=fQS
theorem DR(F:Fun K "_law_text_bent" "_law_text_bent" (top 68) f fd)(T:Mg mg)(Tl:mg "list"=none)(c1:Cal P w K mg base 1 "_law_choice" ["_law_state_here","_law_many"] K80P.spChoice):FnOk P w K mg base CX0 2 f fd ["_law_state_here","_law_text"] Kh:=by
 refine F.ok scTB (fun vs H Q E h=>?_) (fun cdv A outer s H vs Q E hr h=>?_)
 .obtain⟨st,z,rfl,_⟩:=h;rfl
 .obtain⟨st,z,rfl,cn,ha,hz,q⟩:=h
  refine K80P.ok_b (aF ⟨qZ (i:=2) (j:=3) rfl scTB.nd rfl rfl Zx rfl rfl (ak (aG c1 hr (ak (pv 0) (ak ao aj))) (ak aX aj)) rfl⟩
   (aF ⟨qZ (i:=4) (j:=5) rfl scTB.nd rfl rfl Zx rfl rfl (ak (aG c1 hr (ak (pv 0) (ak (aR cg (aK iK rfl T.len PySem.boot_len (ak (pv 1) aj)) ao) aj))) (ak (pX An (pv 3) (aG c1 hr (ak (pv 0) (ak ao aj)))) aj)) rfl⟩
   (aF (bs_if ⟨bj tZ (pv 2) ao (bf _)⟩ (bx (fj (uw bL (cN (aU vN (aU Ba (aU oG (aU ⟨bI (oM rfl) rfl Tl K80P.boot_list (ak (pv 1) aj)⟩ (aU (my (aU ⟨pv 1⟩ bK)) bK)))))) ⟨aG c1 hr (ak (pv 0) (ak ao aj))⟩ (fun _ _=>rfl)))) bss_nil)
   (aF (gw 6 scTB.nd (cN (aU ⟨aR cH (aR cH (bQ eX (pv 1) cM (cz (pv 4))) (pv 5)) (bQ eX (pv 1) (cz (pv 4)) cM)⟩
     (aU ⟨aR cH (bQ eX (pv 1) cM (cz (pv 4))) (bQ eX (pv 1) (cz (aR cg (pv 4) ao)) cM)⟩
     (aU ⟨Fq (pv 1)⟩ (aU ⟨aR cH (pv 1) (bQ eX (pv 1) (cz (wJ rz ao)) cM)⟩
     (aU ⟨Aq PySem.F.plainAttrs_str PySem.F.slot_str_upper PySem.F.type_str_upper uI (pv 1)⟩ bK)))))))
   (bx (fj (uw bL (kW fX ⟨pv 6⟩ (cN (aU ⟨pv 5⟩ (aU ⟨aR cH (bQ eX (pv 1) (cz (pv 4)) cM) (bQ eX (pv 1) cM (cz (pv 4)))⟩
     (aU ⟨aR cH (aR cH (bQ eX (pv 1) cM (cz (pv 4))) (pv 5)) (bQ eX (pv 1) (cz (aR cg (pv 4) ao)) cM)⟩ bK))))) ⟨pv 2⟩ (fun _ _=>rfl)))))))) ?_
  have kq:z.length<=sizeLine:=by rw[sizeLine_eq];lia
  refine aB ?_;refine⟨_,rfl,st,10,rfl,cn,by decide,by decide,fun r1 a b c NQ NS a0 b0 b1=>⟨_,_,rfl,?_⟩⟩;have g2:=(K80P.Dr.refl cn).draw (c:=c) a0 b0 b1;generalize upd H st (.lst [.int a,.int b,.int c])=H2 at g2⊢;dsimp only;refine aB ?_;refine⟨_,rfl,_,rfl,z,rfl,kq,_,_,rfl,rfl,st,_,rfl,g2.sa,Zz,Zz,fun r2 a b c lT NV a0 b0 b1=>?_⟩;have g3:=g2.draw (c:=c) a0 b0 b1;generalize upd H2 st (.lst [.int a,.int b,.int c])=H3 at g3⊢;refine⟨_,rfl,_,rfl,st,30,rfl,g3.sa,by decide,by decide,fun r3 a b c Ki Kj a0 b0 b1=>?_⟩;have g4:=g3.draw (c:=c) a0 b0 b1;generalize upd H3 st (.lst [.int a,.int b,.int c])=H4 at g4⊢
  obtain⟨sn,e1,hs⟩:∃sn,atI (Str.ofString "abcdefghijxzABCH-_>:/,. 0189\t\n").cps.toList r3=some sn/\sn<128:=by
   have hl:(Str.ofString "abcdefghijxzABCH-_>:/,. 0189\t\n").cps.toList.length=30:=by decide +kernel
   have hA:∀c∈(Str.ofString "abcdefghijxzABCH-_>:/,. 0189\t\n").cps.toList,c<128:=by decide +kernel
   generalize(Str.ofString "abcdefghijxzABCH-_>:/,. 0189\t\n").cps.toList=l at hl hA⊢;have hr:r3.toNat<l.length:=Zz
   have e:l[r3.toNat]?=some l[r3.toNat]:=zA0 hr;have:=eF e;rw[show((r3.toNat:Nat):Int)=r3 by lia]at this;exact⟨_,this,hA _ (zAh hr)⟩
  refine⟨_,r3,sn,rfl,rfl,Zv,e1,_,_,rfl,?_⟩
  have E3:Asc (sg sn):=fun c hc=>by
   have:c=sn:=by simpa[sg]using hc
   lia
  dsimp only;refine aB ?_;refine⟨_,rfl,_,_,rfl,rfl,_,rfl,?_⟩;by_cases h7:r1>7
  .rw[zAu h7];refine aY (eQ ?_);refine⟨_,rfl,z,rfl,kq,fun l hl nl=>⟨_,rfl,zL,fun p hp=>⟨zL,fun L hL=>?_⟩⟩⟩
   have BY:∀{Hx:Hp},Same H4 Hx->∀{p},Hx p=none->p≠st:=fun s p hp z=>by
    obtain⟨a,b,c,e,_⟩:=g4.sa;rw[z,s _ _ e]at hp;cases hp
   have s1:=Same.upd (o:=.lst (z.cps.toList.map fun c=>V.str ⟨#[c]⟩)) hl;have s2:=Same.upd (o:=.tup [.str z]) hp;have s3:=Same.upd (o:=.lst [.non,.int 7,.bl true,.ref l,.ref p]) hL
   have th:IsThs (K80P.SS st) (upd (upd (upd H4 l (.lst (z.cps.toList.map fun c=>V.str ⟨#[c]⟩))) p (.tup [.str z])) L (.lst [.non,.int 7,.bl true,.ref l,.ref p])) [.non,.int 7,.bl true,.ref l,.ref p] [.none,.int 7,.bool true,.list (z.cps.toList.map fun c=>.str ⟨#[c]⟩),.tuple [.str z]]:=
    .cons .non (.cons (.int 7) (.cons (.bl true) (.cons ((IsTh.lst ⟨BY (Same.refl _) hl,nl⟩ aa (yq _)).same (s2.trans s3)) (.cons ((IsTh.tup aa (.cons (.str z) .nil)).same s3) .nil))))
   have eL:=aa (H:=upd (upd H4 l (.lst (z.cps.toList.map fun c=>V.str ⟨#[c]⟩))) p (.tup [.str z])) (a:=L) (o:=.lst [.non,.int 7,.bl true,.ref l,.ref p]);have g5:=g4.same ((s1.trans s2).trans s3);have nL:=BY (s1.trans s2) hL;generalize upd (upd (upd H4 l (.lst (z.cps.toList.map fun c=>V.str ⟨#[c]⟩))) p (.tup [.str z])) L (.lst [.non,.int 7,.bl true,.ref l,.ref p])=H5 at th eL g5⊢;refine⟨_,rfl,st,5,rfl,g5.sa,by decide,by decide,fun r4 a b c NW NY a0 b0 b1=>?_⟩;have gd:=(K80P.Dr.refl g5.sa).draw (c:=c) a0 b0 b1;have LQ:=gd.thsS g5.sa th;have LR:=gd.bt _ _ eL nL;have g6:=g5.trans gd;generalize upd H5 st (.lst [.int a,.int b,.int c])=H6 at LQ LR g6⊢
   obtain⟨d,hd⟩:∃d,([.none,.int 7,.bool true,.list (z.cps.toList.map fun c=>.str ⟨#[c]⟩),.tuple [.str z]]:List PyData)[r4.toNat]?=some d:=⟨_,zA0 (by show r4.toNat<5;lia)⟩
   obtain⟨v,hv⟩:∃v,([.non,.int 7,.bl true,.ref l,.ref p]:List V)[r4.toNat]?=some v:=⟨_,zA0 (by show r4.toNat<5;lia)⟩
   have y1:=eF hv;rw[show((r4.toNat:Nat):Int)=r4 by lia]at y1;refine⟨L,_,r4,v,rfl,rfl,SqL.of LR,y1,q v d H6 g6 (wz LQ hv hd) ?_⟩;have hm:=List.mem_of_getElem? hd;simp only[List.mem_cons,List.not_mem_nil,or_false]at hm;rcases hm with rfl|rfl|rfl|rfl|rfl
   .exact⟨by decide,fun x e=>by cases e⟩
   .exact⟨by decide,fun x e=>by cases e⟩
   .exact⟨by decide,fun x e=>by cases e⟩
   .refine⟨?_,fun x e=>by cases e⟩;show 1+szs _<=4000;rw[yr];have:z.cps.toList.length=z.length:=zA9;lia
   .exact⟨(by show 1+(1+0)<=4000;decide),fun x e=>by cases e⟩
  .rw[decide_eq_false h7];refine aW (bB ?_);dsimp only;refine aB (aV ?_);refine fY ?_;have kf:z.length<=1000:=Zz
   have E4:(sg sn).length=1:=rfl
   have A1:TxA (z.length+1) 5 [some (.ref st),some (.str z),some (.int r1),some (.str (Str.ofString "abcdefghijxzABCH-_>:/,. 0189\t\n")),some (.int r2),some (.str (sg sn)),none] H4 _:=
    gO (gZ (gZ (yp (i:=1) (j:=4) rfl ha kf rfl lT (zA3 _)) (wA (i:=5) rfl E3 (Nat.le_of_eq E4)) (zA3 _) Zz) (Hn (i:=1) (j:=4) rfl ha kf rfl lT (zA3 _)) Zz Zz)
    (gO (gZ (yp (i:=1) (j:=4) rfl ha kf rfl lT (zA3 _)) (DP (i:=1) (j:=4) rfl ha kf rfl lT (zA3 _)) Zz Zz)
    (gO (Ji (i:=1) rfl ha kf Zz) (gO (gZ (wA (i:=1) rfl ha (zA3 _)) (Kg (i:=1) rfl ha kf) (zA3 _) Zz) (gO (Ho (K:=K) (i:=1) rfl ha kf Zz) DQ))))
   refine A1 _ fun fy l1 h1=>⟨by rw[zA1,l1];decide,fun L1 zl=>?_⟩
   refine aH ?_;dsimp only;have s5:=Same.upd (o:=.lst (fy.map V.str)) zl;have uu:=aa (H:=H4) (a:=L1) (o:=.lst (fy.map V.str));generalize upd H4 L1 (.lst (fy.map V.str))=H5 at s5 uu⊢;refine eQ ?_;refine⟨_,rfl,?_⟩
   have A2:TxA (z.length+1) 3 [some (.ref st),some (.str z),some (.int r1),some (.str (Str.ofString "abcdefghijxzABCH-_>:/,. 0189\t\n")),some (.int r2),some (.str (sg sn)),some (.ref L1)] H5 _:=
    gO (wA (i:=5) rfl E3 (by rw[E4];lia))
    (gO (gZ (Hn (i:=1) (j:=4) rfl ha kf rfl lT (zA3 _)) (yp (i:=1) (j:=4) rfl ha kf rfl lT (zA3 _)) Zz Zz)
    (gO (gZ (gZ (yp (i:=1) (j:=4) rfl ha kf rfl lT (zA3 _)) (wA (i:=5) rfl E3 (Nat.le_of_eq E4)) (zA3 _) Zz) (DP (i:=1) (j:=4) rfl ha kf rfl lT (zA3 _)) Zz Zz) DQ))
   refine A2 _ fun zs2 l2 h2=>⟨by rw[zA1,l2];decide,fun L2 E5=>?_⟩
   have s6:=Same.upd (o:=.lst (zs2.map V.str)) E5;refine⟨L1,L2,_,_,rfl,rfl,s6 _ _ uu,aa,by rw[zA1,zA1,l1,l2];decide,fun L3 B0=>?_⟩;have s7:=s6.updR (o:=.lst (fy.map V.str++zs2.map V.str)) B0;have lP:=aa (H:=upd H5 L2 (.lst (zs2.map V.str))) (a:=L3) (o:=.lst (fy.map V.str++zs2.map V.str));have g7:=g4.same (s5.trans s7);generalize upd (upd H5 L2 (.lst (zs2.map V.str))) L3 (.lst (fy.map V.str++zs2.map V.str))=H7 at lP g7⊢;have hr:r1.toNat<(fy++zs2).length:=by rw[zA2,l1,l2];lia
   have ev:(fy.map V.str++zs2.map V.str)[r1.toNat]?=some (.str (fy++zs2)[r1.toNat]):=by
    rw[<-zA4,zAb,zA0 hr];rfl
   have hm:(fy++zs2)[r1.toNat]∈fy++zs2:=zAh hr;generalize(fy++zs2)[r1.toNat]=y at ev hm;have y1:=eF ev;rw[show((r1.toNat:Nat):Int)=r1 by lia]at y1;have hy:=(zA6.mp hm).elim (h1 y) (h2 y);exact⟨_,rfl,L3,_,r1,_,rfl,rfl,SqL.of lP,y1,q _ (.str y) H7 g7 (.str y) ⟨by show 1<=4000;decide,fun x e=>by cases e;exact hy⟩⟩
open PySem L2 TxP K80Q
theorem nj(rs:List (List Int)):rowsOf (aQ rs)=rs:=by
 show(rs.map rowD).map (fun x=>(items x).map intOf)=rs;rw[zAr];refine(List.map_congr_left fun r _=>?_).trans (List.map_id rs);show((r.map PyData.int)).map intOf=r;rw[zAr];exact List.map_id r
theorem mR{r:List Int}{n:Nat}(h:r.length=n):aZ (rowD r) n=true:=by
 show(bz (.tuple (r.map PyData.int)) n n&&(r.map PyData.int).all bH)=true;rw[zAc];refine⟨?_,List.all_eq_true.mpr fun x hx=>?_⟩
 .show(true&&(decide ((n:Int)<=(r.map PyData.int).length)&&decide (((r.map PyData.int).length:Int)<=n)))=true;rw[zA1,h,zAu (Int.le_refl _)];rfl
 .obtain⟨i,_,rfl⟩:=zA5.mp hx;rfl
theorem wB{ds:List PyData}{a b:Int}(h1:a<=ds.length)(h2:(ds.length:Int)<=b):bz (.tuple ds) a b=true:=by
 show(true&&(decide (a<=(ds.length:Int))&&decide ((ds.length:Int)<=b)))=true;rw[zAu h1,zAu h2];rfl
theorem Gr{cs ps ss:List (List Int)}(uS:1<=cs.length)(lc:cs.length<=20)(l9:∀r∈cs,okC r)(lp:ps.length<=10)(cm:∀r∈ps,okP r)(ls:ss.length<=12)(h5:∀s∈ss,s.length=5)(hu:un ps ss=none):cu (.tuple [aQ cs,aQ ps,aQ ss])=true:=by
 have b0:eY (aQ cs)=true:=by
  show(bz (.tuple (cs.map rowD)) 1 20&&(cs.map rowD).all gf)=true;rw[wB (by rw[zA1];lia) (by rw[zA1];lia),Bool.true_and];refine List.all_eq_true.mpr fun x hx=>?_;obtain⟨r,hr,rfl⟩:=zA5.mp hx;obtain⟨h3,hb⟩:=l9 r hr;show(aZ (rowD r) 3&&(r.map PyData.int).all fun x=>decide (0<=intOf x)&&decide (intOf x<=999))=true;rw[show aZ (rowD r) 3=true from mR h3,Bool.true_and];refine List.all_eq_true.mpr fun x hx=>?_;obtain⟨i,hi,rfl⟩:=zA5.mp hx;have:=hb i hi;show(decide (0<=i)&&decide (i<=999))=true;rw[zAu Zz,zAu Zz];rfl
 have b1:dh (aQ ps)=true:=by
  show(bz (.tuple (ps.map rowD)) 0 10&&(ps.map rowD).all iy)=true;rw[wB Zz (by rw[zA1];lia),Bool.true_and];refine List.all_eq_true.mpr fun x hx=>?_;obtain⟨r,hr,rfl⟩:=zA5.mp hx;obtain⟨h6,h1,h2,h3,h4,OJ⟩:=cm r hr;show(aZ (rowD r) 6&&jV (at_ (rowD r) 0) (at_ (rowD r) 1) (at_ (rowD r) 2) (at_ (rowD r) 3) (at_ (rowD r) 4) (at_ (rowD r) 5))=true;rw[show aZ (rowD r) 6=true from mR h6,Bool.true_and]
  have ea:∀i,i<6->at_ (rowD r) i=fl r i:=fun i hi=>by
   unfold at_ fl;show intOf ((r.map PyData.int).getD i .none)=r.getD i 0;rw[zA7,zA7,zAb,zA0 Zz];rfl
  rw[ea 0 Zx,ea 1 Zx,ea 2 Zx,ea 3 Zx,ea 4 Zx,ea 5 Zx];unfold jV;simp only[Bool.and_eq_true,Zq];exact⟨h1,h2,⟨h3.1,h3.2.1,h3.2.2⟩,h4,OJ⟩
 have b2:dG (aQ ss)=true:=by
  show(bz (.tuple (ss.map rowD)) 0 12&&(ss.map rowD).all fun x=>aZ x 5)=true;rw[wB Zz (by rw[zA1];lia),Bool.true_and];refine List.all_eq_true.mpr fun x hx=>?_;obtain⟨r,hr,rfl⟩:=zA5.mp hx;exact mR (h5 r hr)
 show(bz (.tuple [aQ cs,aQ ps,aQ ss]) 3 3&&(eY (aQ cs)&&(dh (aQ ps)&&(dG (aQ ss)&&(un (rowsOf (aQ ps)) (rowsOf (aQ ss))).isNone))))=true;rw[b0,b1,b2,nj,nj,hu];rfl
theorem Jj{ps ss:List (List Int)}(h:un ps ss=none):∀j,j<ss.length->cJ ps (ss.take j) (ss.getD j [])=true:=fun j hj=>by
 unfold un at h;have:=List.find?_eq_none.mp h j (List.mem_range.mpr hj);simpa using this
theorem Gs{ps ss:List (List Int)}(h:un ps ss=none)(cm:∀r∈ps,okP r)(dQ:∀s∈ss,smR s):∀s∈ss,s.length=5/\∀n∈s,0<=n/\n<10^7:=fun s hs=>by
 obtain⟨h5,hb⟩:=dQ s hs;refine⟨h5,?_⟩;obtain⟨j,hj,e⟩:=List.getElem_of_mem hs;have hh:=Jj h j hj;rw[show ss.getD j []=s by rw[zA7,zA0 hj,e];rfl]at hh;unfold cJ uY at hh;simp only[Bool.and_eq_true,Zq]at hh;obtain⟨⟨⟨a0,a1⟩,⟨b0,_⟩,⟨c0,_⟩,_,⟨d0,_⟩,e0,_⟩,_⟩:=hh
 have hp:pU ps s∈ps:=by
  unfold pU;have:(fl s 0).toNat<ps.length:=Zz
  rw[zA7,zA0 this];exact zAh this
 have hP:=(cm _ hp).2.2.2.1.1
 match s,h5 with
 |[v,w,x,y,z],_=>
  have a0:0<=v:=a0;have b0:0<=w:=b0;have c0:0<=x:=c0;have d0:1<=y:=d0;have e0:fl (pU ps [v,w,x,y,z]) 2<=z:=e0;intro n hn;have:=hb n hn;simp only[List.mem_cons,List.not_mem_nil,or_false]at hn;rcases hn with rfl|rfl|rfl|rfl|rfl<;>exact⟨Zz,Zz⟩
theorem Gv{r:List Int}(h:okP r):r.length=6/\∀n∈r,0<=n/\n<10^7:=by
 obtain⟨h6,h0,h1,h2,h3,h4⟩:=h;refine⟨h6,?_⟩
 match r,h6 with
 |[u,v,w,x,y,z],_=>
  have h0:0<=u/\u<8:=h0;have h1:0<=v/\v<3:=h1;have h2:0<=w/\w<=x/\x<=19:=h2;have h3:1<=y/\y<=99:=h3;have h4:0<=z/\z<=1000000:=h4;intro n hn;simp only[List.mem_cons,List.not_mem_nil,or_false]at hn;rcases hn with rfl|rfl|rfl|rfl|rfl|rfl<;>exact⟨Zz,Zz⟩
theorem tQ{rs:List (List Int)}{m k:Nat}(hl:rs.length<=20)(hm:1<=m)(Sx:m<=20)(hk:k<=10)(h:∀r∈rs,r.length=m/\∀n∈r,0<=n/\n<10^k):okNs rs:=⟨hl,fun r hr=>by
 obtain⟨a,b⟩:=h r hr;refine⟨fun z=>by rw[z]at a;simp at a;lia,Zz,fun n hn=>⟨(b n hn).1,?_⟩⟩;have h1:=(b n hn).2;have h2:(10:Nat)^k<=10^10:=Nat.pow_le_pow_right Zx hk;have h3:((10:Int)^k)=((10^k:Nat):Int):=by simp
 lia⟩
theorem DW{n:Int}{k:Nat}(h0:0<=n)(h1:n<10^k)(hk:1<=k):(cX n).length<=k:=by
 obtain⟨m,rfl⟩:=Int.eq_ofNat_of_zero_le h0;have es:(cX (m:Int)).cps.toList=(Nat.toDigits 10 m).map Char.toNat:=PySem.W.KIN.signs_num m;rw[<-len_list,es,zA1];refine(Nat.length_toDigits_le_iff Zx hk).mpr ?_;have h3:((10:Int)^k)=((10^k:Nat):Int):=by simp
 lia
theorem DX{c m k:Nat}{r:List Int}(hl:r.length=m)(hm:1<=m)(hk:1<=k)(h:∀n∈r,0<=n/\n<10^k):(dM c r).length+1<=m*(k+1):=by
 have bp:r≠[]:=fun z=>by rw[z]at hl;simp at hl;lia
 have h1:=jj c (ws:=r.map cX) (by simpa using bp)
 have h2:∀r:List Int,(∀n∈r,0<=n/\n<10^k)->lsum (r.map cX)<=r.length*k:=fun r=>by
  induction r with
  |nil=>intro _;exact zAp _
  |cons n r ih=>
   intro h;have:=ih fun m hm=>h m (.tail _ hm);have h3:=DW (h n (.head _)).1 (h n (.head _)).2 hk;show(cX n).length+lsum (r.map cX)<=_;rw[zAe,Nat.succ_mul];lia
 have h3:=h2 r h;rw[zA1]at h1;rw[hl]at h1 h3;rw[Nat.mul_succ];show(jn c (r.map cX)).length+1<=_;lia
theorem mU{c m k N:Nat}{rs:List (List Int)}(hN:rs.length<=N)(OK:1<=N)(hm:1<=m)(hk:1<=k)(h:∀r∈rs,r.length=m/\∀n∈r,0<=n/\n<10^k):(bD c rs).length<=N*(m*(k+1)):=by
 have hb:1<=m*(k+1):=Nat.mul_pos hm Zz;unfold bD;by_cases h0:rs=[]
 .rw[zB3 h0];exact Nat.le_trans (show(sg 45).length<=1 from zA3 1) (Nat.mul_pos OK hb)
 .rw[if_neg h0];have h1:=jj 32 (ws:=rs.map (dM c)) (by simpa using h0)
  have h2:∀rs:List (List Int),(∀r∈rs,r.length=m/\∀n∈r,0<=n/\n<10^k)->lsum (rs.map (dM c))+rs.length<=rs.length*(m*(k+1)):=fun rs=>by
   induction rs with
   |nil=>intro _;exact zAp _
   |cons r rs ih=>
    intro h;have:=ih fun q hq=>h q (.tail _ hq);have h3:=DX (c:=c) (h r (.head _)).1 hm hk (h r (.head _)).2;show((dM c r).length+lsum (rs.map (dM c)))+(rs.length+1)<=_;rw[zAe,Nat.succ_mul];lia
  have h3:=h2 rs h;have h4:rs.length*(m*(k+1))<=N*(m*(k+1)):=Nat.mul_le_mul_right _ hN;rw[zA1]at h1;lia
structure Drawn(cs ps ss:List (List Int)):Prop where
 oc:okNs cs
 op:okNs ps
 os:okNs ss
 bk:cu (.tuple [aQ cs,aQ ps,aQ ss])=true
 len:(gM cs ps ss).length<=962
theorem DY{cs ps ss:List (List Int)}(uS:1<=cs.length)(lc:cs.length<=20)(l9:∀r∈cs,okC r)(lp:ps.length<=10)(cm:∀r∈ps,okP r)(ls:ss.length<=6)(dQ:∀s∈ss,smR s)(hu:un ps ss=none):Drawn cs ps ss:=by
 have hc:∀r∈cs,r.length=3/\∀n∈r,0<=n/\n<10^3:=fun r hr=>⟨(l9 r hr).1,fun n hn=>by have:=(l9 r hr).2 n hn;lia⟩
 have hp:∀r∈ps,r.length=6/\∀n∈r,0<=n/\n<10^7:=fun r hr=>Gv (cm r hr);have hs:=Gs hu cm dQ;refine⟨tQ lc Zx Zx Zx hc,tQ Zz Zx Zx Zx hp,tQ Zz Zx Zx Zx hs,Gr uS lc l9 lp cm Zz (fun s h=>(hs s h).1) hu,?_⟩;have a:=mU (c:=47) (N:=20) lc Zx Zx Zx hc;have b:=mU (c:=44) (N:=10) lp Zx Zx Zx hp;have c:=mU (c:=44) (N:=6) ls Zx Zx Zx hs;have d:=jj 10 (ws:=[bD 47 cs,bD 44 ps,bD 44 ss]) Zy;have d:(gM cs ps ss).length+1=((bD 47 cs).length+((bD 44 ps).length+((bD 44 ss).length+0)))+3:=d;lia
section
variable{cs ps ss:List (List Int)}
theorem Drawn.asc(h:Drawn cs ps ss):Asc (gM cs ps ss):=fun d hd=>zy h.oc.okR h.op.okR h.os.okR hd
theorem Drawn.back(h:Drawn cs ps ss):okB (gM cs ps ss)=true/\fU (gM cs ps ss)=.tuple [aQ cs,aQ ps,aQ ss]:=by
 have e:=vY h.oc.okR h.op.okR h.os.okR;have e0:ln (gM cs ps ss) 0=bD 47 cs:=by unfold ln;rw[e];rfl
 have e1:ln (gM cs ps ss) 1=bD 44 ps:=by unfold ln;rw[e];rfl
 have e2:ln (gM cs ps ss) 2=bD 44 ss:=by unfold ln;rw[e];rfl
 have a:=mG (c:=47) (.inl rfl) h.oc.okR;have b:=mG (c:=44) (.inr rfl) h.op.okR;have c:=mG (c:=44) (.inr rfl) h.os.okR
 have ev:fU (gM cs ps ss)=.tuple [aQ cs,aQ ps,aQ ss]:=by
  unfold fU;rw[e0,e1,e2,a.2,b.2,c.2]
 refine⟨?_,ev⟩;unfold okB;rw[ev,h.bk,e0,e1,e2,a.1,b.1,c.1,e];rfl
end
inductive SpSameTI(vs:List V)(H:Hp)(Q:VK):Prop
 |mk:∀z,(vs=[.str z,.str z])->(Asc z)->(z.length<=4000)->(Q (.bl true) H)->SpSameTI  vs H Q
def yt:Sp:=fun vs H Q _=>SpSameTI  vs H Q
inductive SpReadGI(vs:List V)(H:Hp)(Q:VK):Prop
 |mk:∀z,(vs=[.str z])->(Asc z)->(z.length<=1990)->(okB z=true)->(∀b H',Same H H'->IsTh (fun _=>False) H' (.ref b) (fU z)->Q (.ref b) H')->SpReadGI  vs H Q
def yu:Sp:=fun vs H Q _=>SpReadGI  vs H Q
def Ea(Cs:Nat->Addr):Sp:=fun vs H Q E=>∃S v d,vs=[v]/\IsTh S H v d/\sz d<=4000/\cu d=false/\∀a H',Same H H'->H' a=none->E (.ref a) (some (Cs 3)) H'
section
variable{P:Program}{w:World}{K:Frag}{mg:Str->Option Value}{base:Heap}{f:Addr}{fd:FuncData}{Cs:Nat->Addr}
theorem Eb(F:Fun K "_law_same" "_law_same" (top 59) f fd)(Tr:mg "repr"=none):FnOk P w K mg base CX0 61 f fd ["_law_found","_law_due"] yt:=by
 refine F.ok K5 (fun vs H Q E h=>?_) (fun cdv A outer s H vs Q E hr h=>?_)
 .obtain⟨z,rfl,_⟩:=h;rfl
 .obtain⟨z,rfl,ha,hz,q⟩:=h;refine⟨_,aD (aO (dZ iW (aK jh rfl Tr iU (aP (pv 0) aj)) (aK jh rfl Tr iU (aP (pv 1) aj)) (bf _))),?_⟩;refine⟨_,rfl,z,rfl,ha,Zz,_,rfl,z,rfl,ha,Zz,rfl,?_⟩;rw[zAu rfl];exact q
theorem Ec(G:FnOk P w K mg base (CX1 P w) 7 f fd ["text"] (wy Cs)):FnOk P w K mg base CX0 7 f fd ["text"] yu:=
 calm G fun vs H Q E h=>by
  obtain⟨z,rfl,ha,hz,hb,q⟩:=h;exact⟨fun _=>False,.str z,.str z,rfl,.str z,⟨by show 1<=4000;decide,fun x e=>by cases e;exact⟨ha,hz⟩⟩,fun _=>q,fun z'=>absurd (hb.symm.trans z') Zx⟩
theorem Aa(F:Fun K "book_text" "book_text" (top 51) f fd)(c1:ww P w K mg base 7 "refuse_no_book" ["thing"] (Kc Cs Ka)):FnOk P w K mg base (CX1 P w) 8 f fd ["book"] (Ea Cs):=by
 refine F.okX scBT (fun vs H Q E h=>?_) (fun cdv A outer s H vs Q E hr h=>?_)
 .obtain⟨S,v,d,rfl,_⟩:=h;rfl
 .obtain⟨S,v,d,rfl,th,hz,kj,q1⟩:=h;exact⟨_,aJ (wG (jE (E:=E) c1 hr Zx rfl gK rfl (ak (pv 0) aj))) lO,aB ⟨_,rfl,S,v,d,rfl,th,hz,fun j' hj a H' s' ha=>by unfold kindB at hj;rw[zB3 kj]at hj;cases hj;exact q1 a H' s' ha,fun kn=>by unfold kindB at kn;rw[zB3 kj]at kn;cases kn⟩⟩
end
def j0(ws:List Str)(lo hi:Option Int):List Str:=(ws.drop (HT.sIx ws.length 0 lo)).take (HT.sIx ws.length ws.length hi-HT.sIx ws.length 0 lo)
theorem cut_str(ws:List Str)(lo hi:Option Int):lV (ws.map V.str) lo hi=(j0 ws lo hi).map V.str:=by
 unfold lV j0;rw[zA1,<-List.map_drop,<-List.map_take]
theorem iH{ws:List Str}{lo hi:Option Int}{u:Str}(hu:u∈j0 ws lo hi):u∈ws:=List.mem_of_mem_drop (List.mem_of_mem_take hu)
def wsum(ws:List Str):Nat:=lsum ws+ws.length
theorem lJ(a b:List Str):wsum (a++b)=wsum a+wsum b:=by
 unfold wsum lsum;rw[zA4,List.sum_append,zA2];lia
theorem lK(ws:List Str)(n:Nat):wsum (ws.take n)+wsum (ws.drop n)=wsum ws:=by rw[<-lJ,List.take_append_drop]
theorem lM(ws:List Str)(lo hi:Option Int):wsum (j0 ws lo hi)<=wsum ws:=by
 unfold j0;have a:=lK ws (HT.sIx ws.length 0 lo);have b:=lK (ws.drop (HT.sIx ws.length 0 lo)) (HT.sIx ws.length ws.length hi-HT.sIx ws.length 0 lo);lia
theorem Ed(ws:List Str)(r:Int):wsum (j0 ws none (some r))+wsum (j0 ws (some r) none)<=wsum ws:=by
 have e:HT.sIx ws.length ws.length (some r)=HT.sIx ws.length 0 (some r):=rfl;have a:=lK ws (HT.sIx ws.length 0 (some r));have b:=lK (ws.drop (HT.sIx ws.length 0 (some r))) (HT.sIx ws.length ws.length none-HT.sIx ws.length 0 (some r))
 have c:j0 ws none (some r)=ws.take (HT.sIx ws.length 0 (some r)):=by
  unfold j0;rw[e];rfl
 have d:j0 ws (some r) none=(ws.drop (HT.sIx ws.length 0 (some r))).take (HT.sIx ws.length ws.length none-HT.sIx ws.length 0 (some r)):=rfl;rw[c,d];lia
theorem Ef(a:List Str):lsum a.reverse=lsum a:=by
 unfold lsum;rw[List.map_reverse,List.sum_reverse]
theorem Jk{c:Nat}{ws:List Str}(hc:c<128)(h:∀w∈ws,Asc w):Asc (jn c ws):=fun d hd=>by
 rcases mF hd with rfl|⟨w,hw,hd⟩
 .exact hc
 .exact h w hw d hd
theorem Kl{c:Nat}{ws:List Str}:(jn c ws).length<=lsum ws+ws.length:=by
 by_cases h:ws=[]
 .rw[h];exact Nat.le_of_eq rfl
 .have:=jj c h;lia
theorem yw:∀{ws:List Str} {w:Str},w∈ws->w.length<=lsum ws
 |_::_,_,.head _=>Nat.le_add_right _ _
 |a::l,w,.tail _ h=>Nat.le_trans (yw h) (Nat.le_add_left _ _)
theorem Km{c:Nat}{ws:List Str}{n:Nat}(h:lsum ws+ws.length<=n)(hn:n<=2000):JoinOk (sg c) ws=true:=by
 refine oZ (B:=n) (fun y hy=>by have:=yw hy;lia) ?_;have h1:ws.length*n<=2000*2000:=Nat.mul_le_mul Zz hn;show ws.length*n+ws.length*1<=16777216;lia
def TxG(n:Nat)(σ:L2.St)(H:Hp)(t:TE):Prop:=∀H0,Same H H0->∀Q:VK,(∀z H',Same H0 H'->Asc z->z.length<=n->Q (.str z) H')->t σ H0 Q
def TxB(n k:Nat)(σ:L2.St)(H:Hp)(t:TA):Prop:=∀H0,Same H H0->∀Q:List V->Hp->Prop,(∀(zs:List Str) H',Same H0 H'->zs.length=k->(∀z∈zs,Asc z/\z.length<=n)->Q (zs.map V.str) H')->t σ H0 Q
def WsE(ws:List Str)(σ:L2.St)(H:Hp)(t:TE):Prop:=∀H0,Same H H0->∀Q:VK,(∀l H',Same H0 H'->H' l=some (.lst (ws.map V.str))->Q (.ref l) H')->t σ H0 Q
abbrev rJoin(K:Frag):V->List V->Hp->VK->Prop:=fun x vs H Q=>∃z l ts,x=.str z/\vs=[.ref l]/\SqL K H l (ts.map V.str)/\JoinOk z ts=true/\Q (.str (Txt.join z ts)) H
section
variable{σ:L2.St}{H:Hp}{i j n m a b k:Nat}{W:List Str}{t ta tb:TE}{ts:TA}{K:Frag}
theorem yx(h:∀H0,TxE n σ H0 t):TxG n σ H t:=fun H0 _ Q q=>h H0 Q fun z ha hl=>q z H0 (Same.refl _) ha hl
theorem Eg:TxB n 0 σ H il:=fun H0 _ Q q=>q [] H0 (Same.refl _) rfl fun z hz=>by cases hz
theorem gP(h:TxG n σ H t)(hs:TxB n k σ H ts):TxB n (k+1) σ H (cA t ts):=fun H0 s0 Q q=>
 h H0 s0 _ fun z H1 s1 ha hl=>hs H1 (s0.trans s1) _ fun zs H2 s2 e g=>q (z::zs) H2 (s1.trans s2) (by rw[zAe,e]) fun y hy=>by
  rcases zAo.mp hy with rfl|hy
  .exact⟨ha,hl⟩
  .exact g y hy
theorem wC{l:Addr}(h:σ[i]?=some (some (.ref l)))(e:H l=some (.lst (W.map V.str))):WsE W σ H (iI i):=fun H0 s0 Q q=>⟨_,h,q l H0 (Same.refl _) (s0 _ _ e)⟩
theorem wD{U:List Str}(ha:WsE W σ H ta)(hb:WsE U σ H tb)(h2:W.length+U.length<=4000):WsE (W++U) σ H (tOp JK ta tb):=fun H0 s0 Q q=>
 ha H0 s0 _ fun l H1 s1 e1=>hb H1 (s0.trans s1) _ fun l2 H2 s2 e2=>⟨l,l2,_,_,rfl,rfl,s2 _ _ e1,e2,by rw[zA1,zA1,sizeLine_eq];lia,fun p hp=>q p _ ((s1.trans s2).updR hp) (by rw[zA4];exact aa)⟩
theorem qU{tl th:TO}{lo hi:Option Int}(ha:WsE W σ H ta)(hl:K80P.PtE σ H tl lo)(hh:K80P.PtE σ H th hi):WsE (j0 W lo hi) σ H (tSl (JG K) ta tl th):=fun H0 s0 Q q=>
 ha H0 s0 _ fun l H1 s1 e1=>hl H1 (s0.trans s1) _ (hh H1 (s0.trans s1) _ ⟨l,_,rfl,SqL.of e1,fun p hp=>q p _ (s1.updR hp) (by rw[cut_str];exact aa)⟩)
theorem Jl(ha:WsE W σ H ta):WsE W.reverse σ H (Bt K ta):=fun H0 s0 Q q=>
 ha H0 s0 _ fun l H1 s1 e1=>⟨l,_,rfl,SqL.of e1,fun p hp=>q p _ (s1.updR hp) (by rw[List.map_reverse];exact aa)⟩
theorem nM{z:Str}{c:Nat}(e:z=sg c)(hc:c<128)(h:WsE W σ H t)(hW:∀w∈W,Asc w)(hs:wsum W<=n)(hn:n<=2000):TxG n σ H (tBM K "str" (rJoin K) (tC (.str z)) (cA t il)):=fun H0 s0 Q q=>
 ⟨rfl,h H0 s0 _ fun l H1 s1 e1=>⟨sg c,l,W,by rw[e],rfl,SqL.of e1,Km hs hn,q (jn c W) H1 s1 (Jk hc hW) (Nat.le_trans Kl hs)⟩⟩
end
end K80
namespace K80P
open PySem L2 TxP K80
def _root_.K80.qnL:Str:=(PyProof.Rows.envOfC "law" (au (top 77)) 0 0 .none).qual++"<lambda>"
def _root_.K80.spLaw(K:Frag)(T T2:Addr):Sp:=fun vs H Q _=>∃(a:Addr) (ns:List Int),vs=[.ref a]/\SqL K H a (ns.map V.int)/\ns.length<=63/\TabOk H T qnT/\TabOk H T2 qnL/\∀H',Q (.bl true) H'
abbrev NL:List Str:=["_law_script","_law_k","_law_state_here","_law_book_here","_law_text","_law_bent","_law_turn","_law_lines","_law_words","_law_at","_law_things","_law_thing","_law_bad"]
theorem tR{T st:Addr}{q:Str}{H H':Hp}(t:TabOk H T q)(sa:StAt H st)(g:Dr st H H'):TabOk H' T q:=by
 obtain⟨x,y,z,e,_⟩:=sa;refine t.keep (fun ps e'=>g.bt _ _ e' fun z=>?_) fun b o e'=>g.bt _ _ e' fun z=>?_
 .rw[z,e]at e';cases e'
 .rw[z,e]at e';cases e'
theorem ie{T b:Addr}{q:Str}{H:Hp}{o:HO}(t:TabOk H T q)(e:H b=some o)(n:∀ps,o≠HO.tbl ps):b≠T:=fun z=>by
 obtain⟨ps,e',_⟩:=t;rw[z,e']at e;cases e;exact n _ rfl
theorem _root_.K80.BkT.keep{H H':Hp}{bk ac:Addr}{xc:List V}{cs:List (List Int)}{ap:Addr}{xp:List V}{ps:List (List Int)}{ag:Addr}{xs:List V}{ss:List (List Int)}(b:BkT H bk ac xc cs ap xp ps ag xs ss)(k:∀b l,H b=some (.tup l)->H' b=some (.tup l)):BkT H' bk ac xc cs ap xp ps ag xs ss:=
 ⟨k _ _ b.e,b.rc.keep k,b.rp.keep k,b.rs.keep k,b.oc,b.op,b.os⟩
theorem _root_.K80.BkT.th{S:Addr->Prop}{H:Hp}{bk ac:Addr}{xc:List V}{cs:List (List Int)}{ap:Addr}{xp:List V}{ps:List (List Int)}{ag:Addr}{xs:List V}{ss:List (List Int)}(b:BkT H bk ac xc cs ap xp ps ag xs ss):IsThs S H [.ref ac,.ref ap,.ref ag] [aQ cs,aQ ps,aQ ss]:=
 (IsThs.cons b.rc.th (.cons b.rp.th (.cons b.rs.th .nil))).keep (fun _ _ e=>e) (fun _ _ z _=>z.elim) fun _ _ z _=>z.elim
structure Wk(T1 T2 st bk ac:Addr)(xc:List V)(cs:List (List Int))(ap:Addr)(xp:List V)(ps:List (List Int))(ag:Addr)(xs:List V)(ss:List (List Int))(H0 H:Hp):Prop where
 kp:∀b o,b≠T1->b≠T2->b≠st->H0 b=some o->H b=some o
 sa:StAt H st
 t1:TabOk H T1 qnT
 t2:TabOk H T2 qnL
 bk:BkT H bk ac xc cs ap xp ps ag xs ss
section
variable{T1 T2 st bk ac:Addr}{xc:List V}{cs:List (List Int)}{ap:Addr}{xp:List V}{ps:List (List Int)}{ag:Addr}{xs:List V}{ss:List (List Int)}{H0 H H':Hp}
theorem Wk.dr(a:Wk T1 T2 st bk ac xc cs ap xp ps ag xs ss H0 H)(g:Dr st H H'):Wk T1 T2 st bk ac xc cs ap xp ps ag xs ss H0 H':=
 ⟨fun b o n1 n2 n3 e=>g.bt _ _ (a.kp b o n1 n2 n3 e) n3,g.sa,tR a.t1 a.sa g,tR a.t2 a.sa g,a.bk.keep (g.tups a.sa)⟩
theorem Wk.same(a:Wk T1 T2 st bk ac xc cs ap xp ps ag xs ss H0 H)(s:Same H H'):Wk T1 T2 st bk ac xc cs ap xp ps ag xs ss H0 H':=a.dr (Dr.same (Dr.refl a.sa) s)
theorem yz{T:Addr}{q:Str}(t:TabOk H T q)(sa:StAt H st)(k:∀b o,b≠T->H b=some o->H' b=some o):StAt H' st:=by
 obtain⟨x,y,z,e,r⟩:=sa;exact⟨x,y,z,k _ _ (ie t e nofun) e,r⟩
theorem qW{T U:Addr}{q q':Str}(t:TabOk H T q)(u:TabOk H U q')(n:U≠T)(k:∀b o,b≠T->H b=some o->H' b=some o):TabOk H' U q':=
 u.keep (fun ps e=>k _ _ n e) fun b o e=>k _ _ (ie t e nofun) e
theorem Wk.r1(a:Wk T1 T2 st bk ac xc cs ap xp ps ag xs ss H0 H)(n12:T1≠T2)(k:∀b o,b≠T1->H b=some o->H' b=some o)(t:TabOk H' T1 qnT):Wk T1 T2 st bk ac xc cs ap xp ps ag xs ss H0 H':=
 ⟨fun b o n1 n2 n3 e=>k b o n1 (a.kp b o n1 n2 n3 e),yz a.t1 a.sa k,t,qW a.t1 a.t2 n12.symm k,a.bk.keep fun b l e=>k _ _ (ie a.t1 e nofun) e⟩
theorem Wk.r2(a:Wk T1 T2 st bk ac xc cs ap xp ps ag xs ss H0 H)(n12:T1≠T2)(k:∀b o,b≠T2->H b=some o->H' b=some o)(t:TabOk H' T2 qnL):Wk T1 T2 st bk ac xc cs ap xp ps ag xs ss H0 H':=
 ⟨fun b o n1 n2 n3 e=>k b o n2 (a.kp b o n1 n2 n3 e),yz a.t2 a.sa k,qW a.t2 a.t1 n12 k,t,a.bk.keep fun b l e=>k _ _ (ie a.t2 e nofun) e⟩
end
theorem Jm{n:Nat}{σ:L2.St}{H:Hp}{c:Str}(ha:Asc c)(hn:c.length<=n):TxE n σ H (tC (.str c)):=fun Q q=>q c ha hn
theorem Gw{σ:L2.St}{H:Hp}{i:Nat}{r:Int}(h:σ[i]?=some (some (.int r))):PtE σ H (mW (iI i)) (some r):=tD fun H'=>gr h
theorem Hq{σ:L2.St}{H:Hp}{i:Nat}{r:Int}(h:σ[i]?=some (some (.int r))):PtE σ H (mW (tOp (rI0 fun i j=>.int (i+j)) (iI i) (tC (.int 1)))) (some (r+1)):=tD fun H' Q q=>⟨_,h,_,_,rfl,rfl,q⟩
def Gu(bk:Addr)(u:V):Prop:=(∃x,u=.str x/\Asc x/\x.length<=1990)\/u=.ref bk\/u=.non
theorem yC{bk:Addr}{zs:List Str}(h:∀z∈zs,Asc z/\z.length<=1990):∀u∈zs.map V.str,Gu bk u:=fun u hu=>by
 obtain⟨z,hz,rfl⟩:=zA5.mp hu;exact .inl ⟨z,rfl,(h z hz).1,(h z hz).2⟩
theorem wF{bk:Addr}{a b:List V}(h:∀u∈a,Gu bk u)(g:∀u∈b,Gu bk u):∀u∈a++b,Gu bk u:=fun u hu=>(zA6.mp hu).elim (h u) (g u)
section
variable{P:Program}{w:World}{K:Frag}{mg:Str->Option Value}{base:Heap}{f:Addr}{fd:FuncData}
theorem scL:FnScope NL ["_law_script"] (au (top 77)):=fQS
theorem ok_law{f T1 T2 cc:Addr}{Cs:Nat->Addr}{fd:FuncData}(F:Fun K "law" "law" (top 77) f fd)(hc:fd.code=.ref cc)(hC:PySem.W.CodeHd base cc T2)(hB:base.BuiltinsAt mg T2)(n12:T1≠T2)(T:Mg mg)(Tr:mg "range"=none)(Tm:mg "max"=none)(Tn:mg "min"=none)(Tl:mg "list"=none)(Ts:mg "str"=none)(kd:Kind K Cs 3)
  (c1:Cal P w K mg base 2 "_law_state" ["_law_script","_law_k"] (xQ K)) (c2:Cal P w K mg base 3 "_law_book" ["_law_state_here","_law_years","_law_most"] K80Q.spBook) (c3:Cal P w K mg base 1 "_law_choice" ["_law_state_here","_law_many"] spChoice)
  (OL:Cal P w K mg base 2 "_law_book_text" ["_law_book_here"] vh) (OM:Cal P w K mg base 61 "_law_same" ["_law_found","_law_due"] yt) (cS:Cal P w K mg base 61 "_law_same" ["_law_found","_law_due"] K80.spSame) (cB:Cal P w K mg base 8 "book_text" ["book"] xX) (cR:Cal P w K mg base 7 "read_book" ["text"] yu)
  (ON:Cal P w K mg base 2 "_law_text_bent" ["_law_state_here","_law_text"] Kh) (LS:Cal P w K mg base 62 "_law_right" ["_law_thing"] (ym T1 qnT)) (OO:Cal P w K mg base 15 "_law_said" ["_law_call"] (sY P w K mg base Cs 13)) (OP:ww P w K mg base 8 "book_text" ["book"] (Ea Cs)):
  FnOk P w K mg base CX0 63 f fd ["_law_script"] (spLaw K T1 T2):=by
 refine F.okC hc scL (fun vs H Q E h=>?_) (fun A outer s H vs Q E hr h=>?_)
 .obtain⟨a,ns,rfl,_⟩:=h;rfl
 .obtain⟨a,ns,rfl,hS,hl,tab,ij,q⟩:=h;obtain⟨f1,LA,F1,m1,k1,b1⟩:=id OO;have ib:Room 15 (A.deeper (PyProof.Rows.envOfC "law" (au (top 77)) s.heap.objs.size f (.ref cc))):=hr.mono Zx
  refine ok_b (aF ⟨fW zB7 rfl (gj rfl Tr (ak (aK (jw rfl) rfl Tm mK (ak ao (ak (aK (jx rfl) rfl Tn mL (ak (aK bF rfl T.len PySem.boot_len (ak (pv 0) aj)) (ak ao aj))) aj))) aj)) (pgn 1 scL.nd)
    (jH (aF (gw 2 scL.nd ⟨aG c1 hr (ak (pv 0) (ak (pv 1) aj))⟩)
    (aF (gw 3 scL.nd ⟨aG c2 hr (ak (pv 2) (ak (pX bL (gU (ak ao (ak ao aj))) (aG c3 hr (ak (pv 2) (ak ao aj)))) (ak ao aj)))⟩)
    (aF (gw 4 scL.nd ⟨aG OL hr (ak (pv 3) aj)⟩)
    (aF (K80.bs_if ⟨PW.pt (gG (bN (bM (aG OM hr (ak (aG cB hr (ak (pv 3) aj)) (ak (pv 4) aj))))) (gQ (bN (bM (aG cS hr (ak (aG cR hr (ak (pv 4) aj)) (ak (pv 3) aj)))))))⟩ (bx (fj oG)) K80.bss_nil)
    (aF (gw 5 scL.nd ⟨pv 4⟩)
    (aF ⟨fW zB7 rfl (gj rfl Tr (ak ao aj)) (pgn 6 scL.nd)
      (jH (aF (gw 5 scL.nd ⟨aG ON hr (ak (pv 2) (ak (pX bL (gU (ak (pv 5) (ak (pv 4) aj))) (aR jK (pv 6) ao)) aj))⟩)
      (aF (K80.bs_if ⟨bN (bM (aG LS hr (ak (pv 5) aj)))⟩ (bx (fj oG)) K80.bss_nil)
      (bx (gw 5 scL.nd ⟨ik (bM (aK bR rfl T.isinstance boot_isinstance (ak (pv 5) (ak (dO rfl Ts gm (v:=.ty "str") rfl) aj)))) (pv 5) (pv 4)⟩)))))⟩
    (aF ⟨qZ (i:=7) (j:=8) rfl scL.nd rfl rfl Zx rfl rfl (ak (dI PySem.F.plainAttrs_str PySem.F.slot_str_split PySem.F.type_str_split eU (pv 4) (ak aX aj)) (ak (dI PySem.F.plainAttrs_str PySem.F.slot_str_split PySem.F.type_str_split eU (pv 4) (ak aX aj)) aj)) rfl⟩
    (aF (gw 9 scL.nd ⟨aG c3 hr (ak (pv 2) (ak (aK bF rfl T.len PySem.boot_len (ak (pv 8) aj)) aj))⟩)
    (aF (gw 10 scL.nd (cN (aU ⟨dI PySem.F.plainAttrs_str PySem.F.slot_str_join PySem.F.type_str_join fK aX (ak (Fp (pv 7)) aj)⟩ (aU ⟨dI PySem.F.plainAttrs_str PySem.F.slot_str_join PySem.F.type_str_join fK aX (ak (bQ jz (pv 7) cM (cz ao)) aj)⟩
      (aU ⟨aR cH (pv 4) aX⟩ (aU ⟨aR cH aX (pv 4)⟩ (aU ⟨aR cH (pv 4) aX⟩ (aU ⟨Aq PySem.F.plainAttrs_str PySem.F.slot_str_upper PySem.F.type_str_upper uI (pv 4)⟩ bK))))))))
    (aF (gw 10 scL.nd (kW fX ⟨pv 10⟩ (cN (aU ⟨dI PySem.F.plainAttrs_str PySem.F.slot_str_join PySem.F.type_str_join fK aX (ak (aR fX (bQ jz (pv 8) cM (cz (pv 9))) (bQ jz (pv 8) (cz (aR cg (pv 9) ao)) cM)) aj)⟩
      (aU ⟨dI PySem.F.plainAttrs_str PySem.F.slot_str_join PySem.F.type_str_join fK aX (ak (aR fX (aR fX (bQ jz (pv 8) cM (cz (pv 9))) (bQ jz (pv 8) (cz (pv 9)) (cz (aR cg (pv 9) ao)))) (bQ jz (pv 8) (cz (pv 9)) cM)) aj)⟩ bK)))))
    (aF (gw 10 scL.nd (kW fX ⟨pv 10⟩ ⟨FJ (i:=4) rfl (Or.inl rfl) Zv Zv Zv⟩))
    (aF (gw 10 scL.nd (kW fX ⟨pv 10⟩ (cN (aU ⟨pv 3⟩ (aU vN (aU cO (aU cO bK)))))))
    (aF ⟨fW zB7 rfl (fJ (pv 10)) (pgn 11 scL.nd) (jH (bx (K80.bs_if ⟨bN (bM (aG LS hr (ak (pv 11) aj)))⟩ (bx (fj oG)) K80.bss_nil)))⟩
    (bx ⟨fW zB7 rfl (fJ (BE.run (cN (aU vN (aU ⟨bI pM rfl Tl boot_list (ak (pv 3) aj)⟩ (aU ⟨bQ Ge (pv 3) cM (cz ao)⟩ (aU (my (aU (my bK) (aU ⟨pX cY (pv 3) ao⟩ (aU ⟨pX cY (pv 3) ao⟩ bK)))) (aU ⟨pv 4⟩ bK)))))))) (bw (i:=12) scL.nd rfl (Or.inr rfl))
      (jH (bx (K80.bs_if ⟨bj nR (uH (N:=["_law_bad"]) (ix:=[12]) (sc:=au (top 77)) (NX:=NL) F1 ib rfl m1 k1 b1 rfl (fun _=>rfl) rfl hC hB rfl rfl rfl (fun _ _ _ _ _=>rfl) Zv) aX (bf _)⟩ (bx (fj oG)) K80.bss_nil)))⟩)))))))))))))))⟩
   (bx (fj oG))) ?_
  refine aB ?_;have vc:(ns.map V.int).length<=63:=by rw[zA1];exact hl
  refine⟨_,rfl,a,_,rfl,.inl hS,_,_,rfl,_,_,rfl,_,rfl,?_,?_,?_⟩
  .split<;>split<;>lia
  .split<;>split<;>lia
  refine ju (lo:=0) (fun i σ Hc=>∃x1 x2 x3 x4 x5 x6 x7 x8 x9 fg da de,σ=[some (.ref a),x1,x2,x3,x4,x5,x6,x7,x8,x9,fg,da,de]/\(∀b o,b≠T1->b≠T2->H b=some o->Hc b=some o)/\TabOk Hc T1 qnT/\TabOk Hc T2 qnL) ?_ ?_ ?_
  .exact⟨none,none,none,none,none,none,none,none,none,none,none,none,rfl,fun _ _ _ _ e=>e,tab,ij⟩
  .rintro i σ H1 hi ⟨x1,x2,x3,x4,x5,x6,x7,x8,x9,fg,da,de,rfl,AK,E6,tb2⟩
   have LU:SqL K H1 a (ns.map V.int):=by
    rcases hS with(h|⟨o,h⟩)|h
    .exact .inl (.inl (AK _ _ (ie tab h nofun) (ie ij h nofun) h))
    .exact .inl (.inr ⟨o,AK _ _ (ie tab h nofun) (ie ij h nofun) h⟩)
    .exact .inr h
   refine aH ?_;refine K80.rd_E fun De zI=>?_;refine aB (aV ?_);refine⟨_,rfl,_,rfl,a,ns,_,rfl,LU,Zz,fun st x y z hn EE OQ OR=>?_⟩
   have ne1:st≠T1:=fun z=>by
    obtain⟨ps,eT,_⟩:=E6;rw[z,eT]at hn;cases hn
   have ne2:st≠T2:=fun z=>by
    obtain⟨ps,eT,_⟩:=tb2;rw[z,eT]at hn;cases hn
   have BY:H st=none:=by
    cases e:H st with
    |none=>rfl
    |some o=>
     rw[AK st o ne1 ne2 e]at hn;cases hn
   refine aH ?_;dsimp only;refine K80.gen_ts (fun H2=>(∀b o,b≠T1->b≠T2->b≠st->H b=some o->H2 b=some o)/\StAt H2 st/\TabOk H2 T1 qnT/\TabOk H2 T2 qnL) ⟨fun b o n1 n2 n3 e=>by rw[aq n3];exact AK b o n1 n2 e,⟨x,y,z,aa,EE,OQ,OR⟩,TabOk.same E6 (Same.upd hn),TabOk.same tb2 (Same.upd hn)⟩ fun H2 ⟨LV,vi,LW,LX⟩=>?_;clear LU AK E6 tb2 hn;refine aB (aV ?_);refine⟨_,rfl,zL,fun l0 tT=>?_⟩;have sl:=Same.upd (o:=.lst [.int 20,.int 4]) tT;have OS:=(Dr.refl vi).ne tT;refine⟨_,rfl,st,2,rfl,((Dr.refl vi).same sl).sa,by decide,by decide,fun r a1 LY e1 r0 r1 h1 h2 h3=>?_⟩;have g0:=((Dr.refl vi).same sl).draw (c:=e1) h1 h2 h3
   obtain⟨y,ey,hy⟩:∃y:Int,atI ([.int 20,.int 4]:List V) r=some (.int y)/\1<=y/\y<=20:=by
    rcases(by lia:r=0\/r=1)with rfl|rfl
    .exact⟨20,rfl,by decide,by decide⟩
    .exact⟨4,rfl,by decide,by decide⟩
   refine⟨l0,_,r,.int y,rfl,rfl,SqL.of (by rw[aq OS];exact aa),ey,?_⟩;refine⟨st,y,10,rfl,g0.sa,hy.1,hy.2,by decide,by decide,fun bk ac xc cs ap xp ps ag xs ss H3 d3 eb rc uS KA l9 rp lp cm rs ls dQ u3=>?_⟩;have dr:Drawn cs ps ss:=DY uS Zz l9 Zz cm ls dQ u3;have g3:=g0.trans d3
   have wk:Wk T1 T2 st bk ac xc cs ap xp ps ag xs ss H H3:=⟨fun b o n1 n2 n3 e=>g3.bt _ _ (LV b o n1 n2 n3 e) n3,g3.sa,tR LW vi g3,tR LX vi g3,⟨eb,rc,rp,rs,dr.oc,dr.op,dr.os⟩⟩
   clear LV vi LW LX d3 g3 g0 sl tT eb rc rp rs l9 cm dQ u3;refine aH ?_;dsimp only;obtain⟨jI,rX⟩:=dr.back;have asc:=dr.asc;have hlen:=dr.len;have BQ:=dr.bk;have LZ:tame (.tuple [aQ cs,aQ ps,aQ ss])=true:=by rw[<-rX];exact pC jI
   have OT:=vo BQ;refine aB (aV ?_);refine⟨_,rfl,bk,ac,xc,cs,ap,xp,ps,ag,xs,ss,rfl,wk.bk,fun H4 s4=>?_⟩;refine aH ?_;dsimp only
   replace wk:=wk.same s4
   clear s4;refine aB ?_;refine⟨_,rfl,(fun _=>False),bk,_,ac,xc,cs,ap,xp,ps,ag,xs,ss,rfl,.tup wk.bk.e wk.bk.th,Zz,BQ,wk.bk,fun H5 s5=>?_⟩
   replace wk:=wk.same s5
   refine⟨_,rfl,_,rfl,asc,Zz,_,rfl,aW ?_⟩;refine⟨_,rfl,_,rfl,asc,Zz,jI,fun b6 H6 s6 t6=>?_⟩;rw[rX]at t6
   replace wk:=wk.same s6
   refine⟨_,rfl,(fun _=>False),_,_,_,_,rfl,id,t6,.tup wk.bk.e wk.bk.th,LZ,LZ,Zz,Zz,_,rfl,?_⟩;rw[decide_eq_true rfl];refine aW (bB ?_);dsimp only;clear s5 s6 t6;generalize ez:gM cs ps ss=z at jI rX asc hlen⊢;refine aB (aV ?_);refine⟨_,rfl,?_⟩;refine aH ?_;dsimp only;refine aB ?_;refine⟨4,rfl,by decide,by decide,?_⟩;refine ju (lo:=0) (fun j σ Hc=>∃x1 x6 y,σ=[some (.ref a),x1,some (.ref st),some (.ref bk),some (.str z),some (.str y),x6,x7,x8,x9,fg,da,de]/\Asc y/\y.length<=z.length+j/\Wk T1 T2 st bk ac xc cs ap xp ps ag xs ss H Hc) ?_ ?_ ?_
   .exact⟨_,_,z,rfl,asc,zA3 _,wk⟩
   .clear wk;rintro j σ Ha hj ⟨x1,x6,y,rfl,ay,ly,wk⟩;have hj:j<4:=hj;refine aH ?_;refine K80.rd_E fun NH AL=>?_;refine aB (aV ?_);refine⟨_,rfl,_,rfl,_,rfl,zL,fun l1 dA=>?_⟩;have s1:=Same.upd (o:=.lst [.str y,.str z]) dA;have el1:=aa (H:=Ha) (a:=l1) (o:=.lst [.str y,.str z])
    replace wk:=wk.same s1
    generalize upd Ha l1 (.lst [.str y,.str z])=Hb at wk el1⊢
    obtain⟨y2,OU,OV,Sy⟩:∃y2,atI ([.str y,.str z]:List V) ((0+(j:Int)) % 2)=some (.str y2)/\Asc y2/\y2.length<=z.length+j:=by
     rcases(by lia:(0+(j:Int)) % 2=0\/(0+(j:Int)) % 2=1)with e|e
     .rw[e];exact⟨y,rfl,ay,ly⟩
     .rw[e];exact⟨z,rfl,asc,Nat.le_add_right _ _⟩
    refine⟨_,rfl,_,_,rfl,rfl,(show(0:Int)<2 by decide),l1,_,_,_,rfl,rfl,SqL.of el1,OU,?_⟩;refine⟨st,y2,rfl,wk.sa,OV,Zz,fun v d Hd gd tv oy=>?_⟩
    replace wk:=wk.dr gd
    refine aH ?_;dsimp only;refine aB ?_;refine⟨_,rfl,SS st,v,d,rfl,tv,⟨oy.1,fun x e=>⟨(oy.2 x e).1,by have:=(oy.2 x e).2;lia⟩⟩,wk.t1,fun He ke te=>⟨_,rfl,aW (bB ?_)⟩⟩;have OW:=tv.tbl wk.t1 ke
    replace wk:=wk.r1 n12 ke te
    dsimp only;refine aV ?_;refine⟨_,rfl,v,_,"str",tE d,rfl,OW.ty,ph d,_,rfl,?_⟩
    cases d with
    |str x=>
     cases tv;exact aY ⟨_,rfl,aH (AL _ _ ⟨_,_,x,rfl,(oy.2 x rfl).1,by have:=(oy.2 x rfl).2;lia,wk⟩)⟩
    |_=>exact aW ⟨_,rfl,aH (AL _ _ ⟨_,_,z,rfl,asc,Nat.le_add_right _ _,wk⟩)⟩
   .clear wk;rintro σ Ha ⟨x1,x6,y,rfl,_,_,wk⟩;dsimp only;have kf:z.length<=1000:=Zz
    have kq:z.length+2<=sizeLine:=by rw[sizeLine_eq];lia
    have jS:(Str.ofString "\n")=sg 10:=by decide +kernel
    have AM:(Str.ofString " ")=sg 32:=by decide +kernel
    refine aB ?_;refine⟨_,rfl,rfl,z,10,rfl,by rw[jS],kq,fun l1 dA n1=>⟨_,rfl,rfl,z,32,rfl,by rw[AM],kq,fun l2 cE n2=>⟨_,_,rfl,?_⟩⟩⟩;dsimp only;have s1:=Same.upd (o:=.lst ((aM 10 z).map V.str)) dA;have s2:=Same.upd (o:=.lst ((aM 32 z).map V.str)) cE;have AN:l1≠st:=(Dr.refl wk.sa).ne dA;have AO:l2≠st:=((Dr.refl wk.sa).same s1).ne cE
    replace wk:=wk.same (s1.trans s2)
    refine K80.gen_ts (fun Hb=>Wk T1 T2 st bk ac xc cs ap xp ps ag xs ss H Hb/\Hb l1=some (.lst ((aM 10 z).map V.str))/\Hb l2=some (.lst ((aM 32 z).map V.str))) ⟨wk,s2 _ _ aa,aa⟩ fun Hb ⟨wk,el1,el2⟩=>?_;clear s1 s2 dA cE;have L8:wsum (aM 10 z)=z.length+1:=dJ 10 z;have OX:wsum (aM 32 z)=z.length+1:=dJ 32 z
    have OY:1<=(aM 32 z).length:=by
     cases e:aM 32 z with
     |nil=>exact absurd e (sE 32 z)
     |cons _ _=>exact Nat.succ_le_succ (zAp _)
    have OZ:(aM 32 z).length<=z.length+1:=fH;refine aB (aV ?_);refine⟨_,rfl,_,rfl,l2,_,rfl,.inl (SqL.of el2),st,_,rfl,wk.sa,by rw[zA1];lia,by rw[zA1];lia,fun r a1 LY e1 r0 r1 h1 h2 h3=>?_⟩;have gd:=(Dr.refl wk.sa).draw (c:=e1) h1 h2 h3
    replace wk:=wk.dr gd
    replace el1:=gd.bt _ _ el1 AN
    replace el2:=gd.bt _ _ el2 AO
    refine aH ?_;dsimp only;generalize upd Hb st (.lst [.int a1,.int LY,.int e1])=Hc at wk el1 el2⊢;have E7:∀w∈aM 10 z,Asc w:=fun w hw=>fQ asc hw;have vj:∀w∈aM 32 z,Asc w:=fun w hw=>fQ asc hw
    have E8:∀{c:Nat},c<128->Asc (sg c):=fun{c} hc d hd=>by
     have:d=c:=by simpa[sg]using hd
     lia
    refine aB (aV ?_);refine fY ?_
    have A1:TxB 1990 6 [some (.ref a),x1,some (.ref st),some (.ref bk),some (.str z),some (.str y),x6,some (.ref l1),some (.ref l2),some (.int r),fg,da,de] Hc _:=
     gP (nM (K:=K) jS Zx (Jl (K:=K) (wC (i:=7) rfl el1)) (fun w hw=>E7 w (List.mem_reverse.mp hw)) (by unfold wsum at L8⊢;rw[Ef,List.length_reverse];lia) Zx)
     (gP (nM (K:=K) jS Zx (qU (K:=K) (wC (i:=7) rfl el1) lD (tD (i:=2) fun H'=>gh)) (fun w hw=>E7 w (iH hw)) (by have:=lM (aM 10 z) none (some 2);lia) Zx)
     (gP (yx fun H0=>gZ (wA (i:=4) rfl asc (zA3 _)) (Jm (c:="\n") (n:=1) (by rw[jS];exact E8 Zx) (by rw[jS];exact zA3 1)) Zz Zx)
     (gP (yx fun H0=>gZ (Jm (c:="\n") (n:=1) (by rw[jS];exact E8 Zx) (by rw[jS];exact zA3 1)) (wA (i:=4) rfl asc (zA3 _)) Zz Zx)
     (gP (yx fun H0=>gZ (wA (i:=4) rfl asc (zA3 _)) (Jm (c:=" ") (n:=1) (by rw[AM];exact E8 Zx) (by rw[AM];exact zA3 1)) Zz Zx)
     (gP (yx fun H0=>Ho (K:=K) (i:=4) rfl asc kf Zz) Eg)))))
    refine A1 _ (Same.refl _) _ fun fy Hd sd g1 h1=>⟨by rw[zA1,g1];decide,fun L1 zl=>?_⟩
    refine aH ?_;dsimp only;have sL:=sd.updR (o:=.lst (fy.map V.str)) zl
    replace wk:=wk.same sL
    replace el2:=sL _ _ el2
    have eL:=aa (H:=Hd) (a:=L1) (o:=.lst (fy.map V.str));have gL:=yC (bk:=bk) h1;have lL:(fy.map V.str).length=6:=by rw[zA1,g1]
    generalize upd Hd L1 (.lst (fy.map V.str))=He at wk el2 eL⊢;generalize fy.map V.str=Zr at eL gL lL;clear sL sd h1 A1;refine aB (aV ?_);refine⟨_,rfl,?_⟩;refine fY ?_;have c1:=lM (aM 32 z) none (some r);have c2:=lM (aM 32 z) (some (r+1)) none;have c3:=Ed (aM 32 z) r;have c4:=lM (aM 32 z) (some r) (some (r+1));have c5:=lM (aM 32 z) (some r) none;have ll:∀ws:List Str,ws.length<=wsum ws:=fun ws=>Nat.le_add_left _ _
    have A2:TxB 1990 2 [some (.ref a),x1,some (.ref st),some (.ref bk),some (.str z),some (.str y),x6,some (.ref l1),some (.ref l2),some (.int r),some (.ref L1),da,de] He _:=
     gP (nM (K:=K) AM Zx (wD (qU (K:=K) (wC (i:=8) rfl el2) lD (Gw (i:=9) rfl)) (qU (K:=K) (wC (i:=8) rfl el2) (Hq (i:=9) rfl) lD) (by have:=ll (j0 (aM 32 z) none (some r));have:=ll (j0 (aM 32 z) (some (r+1)) none);lia)) (fun w hw=>(zA6.mp hw).elim (fun h=>vj w (iH h)) fun h=>vj w (iH h)) (by rw[lJ];lia) Zx)
     (gP (nM (K:=K) AM Zx (wD (wD (qU (K:=K) (wC (i:=8) rfl el2) lD (Gw (i:=9) rfl)) (qU (K:=K) (wC (i:=8) rfl el2) (Gw (i:=9) rfl) (Hq (i:=9) rfl)) (by have:=ll (j0 (aM 32 z) none (some r));have:=ll (j0 (aM 32 z) (some r) (some (r+1)));lia)) (qU (K:=K) (wC (i:=8) rfl el2) (Gw (i:=9) rfl) lD) (by have:=ll (j0 (aM 32 z) none (some r));have:=ll (j0 (aM 32 z) (some r) (some (r+1)));have:=ll (j0 (aM 32 z) (some r) none);rw[zA2];lia)) (fun w hw=>(zA6.mp hw).elim (fun hw=>(zA6.mp hw).elim (fun h=>vj w (iH h)) fun h=>vj w (iH h)) fun h=>vj w (iH h)) (by rw[lJ,lJ];lia) Zx) Eg)
    refine A2 _ (Same.refl _) _ fun zs2 Hf sf g2 h2=>⟨by rw[zA1,g2];decide,fun L2 E5=>?_⟩
    have sG:=Same.upd (o:=.lst (zs2.map V.str)) E5
    replace wk:=wk.same (sf.trans sG)
    replace eL:=sG _ _ (sf _ _ eL)
    have oo:=aa (H:=Hf) (a:=L2) (o:=.lst (zs2.map V.str));have E9:=yC (bk:=bk) h2;have B2:(zs2.map V.str).length=2:=by rw[zA1,g2]
    generalize upd Hf L2 (.lst (zs2.map V.str))=Hg at wk eL oo⊢;generalize zs2.map V.str=AQ at oo E9 B2;clear sG sf h2 A2 el1 el2 c1 c2 c3 c4 c5 L8 OX OY OZ E7 vj r1 AN AO;refine⟨L1,L2,_,_,rfl,rfl,eL,oo,by rw[lL,B2];decide,fun L3 B0=>?_⟩;refine aH ?_;dsimp only
    replace wk:=wk.same (Same.upd (o:=.lst (Zr++AQ)) B0)
    replace gL:=wF gL E9
    replace lL:(Zr++AQ).length=8:=by rw[zA2,lL,B2]
    have lP:=aa (H:=Hg) (a:=L3) (o:=.lst (Zr++AQ));generalize upd Hg L3 (.lst (Zr++AQ))=Hh at wk lP⊢;generalize Zr++AQ=AR at lP gL lL;clear eL oo E9 B2 B0;refine aB (aV ?_);refine⟨_,rfl,z,rfl,?_,fun r1 r2 r3 Fc ot Fh L4 L9=>?_⟩
    .have:(Str.ofString "0").length+(Str.ofString "/0").length+(Str.ofString ",1").length=5:=by decide +kernel
     lia
    have a0:∀c∈(Str.ofString "0").cps.toList,c<128:=by decide +kernel
    have aS:∀c∈(Str.ofString "/0").cps.toList,c<128:=by decide +kernel
    have aC:∀c∈(Str.ofString ",1").cps.toList,c<128:=by decide +kernel
    have l0:(Str.ofString "0").length=1:=by decide +kernel
    have lS:(Str.ofString "/0").length=2:=by decide +kernel
    have lC:(Str.ofString ",1").length=2:=by decide +kernel
    have gR:∀u∈[V.str r1,.str r2,.str r3],Gu bk u:=fun u hu=>by
     simp only[List.mem_cons,List.not_mem_nil,or_false]at hu;rcases hu with rfl|rfl|rfl
     .exact .inl ⟨r1,rfl,fun c hc=>(Fc.1 c hc).elim (a0 c) (asc c),by have:=Fc.2;lia⟩
     .exact .inl ⟨r2,rfl,fun c hc=>(ot.m c hc).elim (asc c) (aS c),by have:=ot.l;lia⟩
     .exact .inl ⟨r3,rfl,fun c hc=>(Fh.m c hc).elim (asc c) (aC c),by have:=Fh.l;lia⟩
    have s4:=Same.upd (o:=.lst [V.str r1,.str r2,.str r3]) L9;refine⟨L3,L4,_,_,rfl,rfl,s4 _ _ lP,aa,(by rw[lL];show 8+3<=sizeLine;decide),fun L5 Ma=>?_⟩;have s5:=s4.updR (o:=.lst (AR++[V.str r1,.str r2,.str r3])) Ma;refine aH ?_;dsimp only
    replace wk:=wk.same s5
    replace gL:=wF gL gR
    replace lL:(AR++[V.str r1,.str r2,.str r3]).length=11:=by rw[zA2,lL];rfl
    have sD:=aa (H:=upd Hh L4 (.lst [V.str r1,.str r2,.str r3])) (a:=L5) (o:=.lst (AR++[V.str r1,.str r2,.str r3]));generalize upd (upd Hh L4 (.lst [V.str r1,.str r2,.str r3])) L5 (.lst (AR++[V.str r1,.str r2,.str r3]))=Hi at wk sD⊢;generalize AR++[V.str r1,.str r2,.str r3]=B3 at sD gL lL;clear s4 s5 L9 Ma lP gR Fc ot Fh a0 aS aC l0 lS lC;refine aB (aV ?_);refine⟨_,rfl,?_⟩;refine fY ?_;refine⟨_,rfl,zL,fun L6 Mb=>?_⟩;have s6:=Same.upd (o:=.lst [V.ref bk,.non,.str "",.str "-\n-\n-"]) Mb;refine⟨L5,L6,_,_,rfl,rfl,s6 _ _ sD,aa,(by rw[lL];show 11+4<=sizeLine;decide),fun L7 Mc=>?_⟩;have s7:=s6.updR (o:=.lst (B3++[V.ref bk,.non,.str "",.str "-\n-\n-"])) Mc;refine aH ?_;dsimp only
    replace wk:=wk.same s7
    have gR:∀u∈[V.ref bk,.non,.str "",.str "-\n-\n-"],Gu bk u:=fun u hu=>by
     simp only[List.mem_cons,List.not_mem_nil,or_false]at hu;rcases hu with rfl|rfl|rfl|rfl
     .exact .inr (.inl rfl)
     .exact .inr (.inr rfl)
     .exact .inl ⟨_,rfl,(by decide +kernel:∀c∈(Str.ofString "").cps.toList,c<128),by decide +kernel⟩
     .exact .inl ⟨_,rfl,(by decide +kernel:∀c∈(Str.ofString "-\n-\n-").cps.toList,c<128),by decide +kernel⟩
    replace gL:=wF gL gR
    have vn:=aa (H:=upd Hi L6 (.lst [V.ref bk,.non,.str "",.str "-\n-\n-"])) (a:=L7) (o:=.lst (B3++[V.ref bk,.non,.str "",.str "-\n-\n-"]));generalize upd (upd Hi L6 (.lst [V.ref bk,.non,.str "",.str "-\n-\n-"])) L7 (.lst (B3++[V.ref bk,.non,.str "",.str "-\n-\n-"]))=Hj at wk vn⊢;generalize B3++[V.ref bk,.non,.str "",.str "-\n-\n-"]=Md at vn gL;clear s6 s7 Mb Mc sD gR lL;refine aB ?_;refine⟨_,rfl,L7,rfl,⟨_,SqL.of vn⟩,?_⟩;refine nQ (xs:=Md) (fun k σ Hc=>∃da,σ=[some (.ref a),x1,some (.ref st),some (.ref bk),some (.str z),some (.str y),x6,some (.ref l1),some (.ref l2),some (.int r),some (.ref L7),da,de]/\Wk T1 T2 st bk ac xc cs ap xp ps ag xs ss H Hc/\Hc L7=some (.lst Md)) ?_ ?_ ?_ ?_
    .exact⟨_,rfl,wk,vn⟩
    .rintro k σ Hc hk ⟨_,rfl,_,e⟩;exact SqL.of e
    .clear wk vn;rintro k u σ Hc hu ⟨_,rfl,wk,e⟩
     have fin:∀(S:Addr->Prop) d,IsTh S Hc u d->okX d->∃S v d,[u]=[v]/\IsTh S Hc v d/\okX d/\TabOk Hc T1 qnT:=fun S d t o=>⟨S,u,d,rfl,t,o,wk.t1⟩
     obtain⟨S,v,d,ev,tv,ov,t1⟩:∃S v d,[u]=[v]/\IsTh S Hc v d/\okX d/\TabOk Hc T1 qnT:=by
      rcases gL u (zB6 hu)with⟨x,rfl,hx,lx⟩|rfl|rfl
      .exact fin (fun _=>False) (.str x) (.str x) ⟨by show 1<=4000;decide,fun x' e=>by cases e;exact⟨hx,lx⟩⟩
      .exact fin (fun _=>False) _ (.tup wk.bk.e wk.bk.th) ⟨Zz,fun x' e=>by cases e⟩
      .exact fin (fun _=>False) .none .non ⟨by decide,fun x' e=>by cases e⟩
     refine aH ?_;refine⟨_,rfl,S,v,d,ev,tv,ov,t1,fun He ke te=>⟨_,rfl,aW ?_⟩⟩;exact⟨_,rfl,wk.r1 n12 ke te,ke _ _ (ie wk.t1 e nofun) e⟩
    .clear wk vn;rintro σ Hc ⟨da,rfl,wk,_⟩;clear gL;dsimp only;have eb:=wk.bk.e;refine⟨_,rfl,bk,_,rfl,SqT.of eb,fun q5 Fm O0=>?_⟩;have Fn:q5≠st:=(Dr.refl wk.sa).ne Fm;have m5:=Same.upd (o:=.lst [.ref ac,.ref ap,.ref ag]) Fm;have e5:=aa (H:=Hc) (a:=q5) (o:=.lst [.ref ac,.ref ap,.ref ag])
     replace wk:=wk.same m5
     generalize upd Hc q5 (.lst [.ref ac,.ref ap,.ref ag])=H5 at wk e5⊢;clear eb m5 Fm;refine⟨_,rfl,2,rfl,bk,_,rfl,wk.bk.e,fun q4 H6 m6 e4=>?_⟩
     replace wk:=wk.same m6
     replace e5:=m6 _ _ e5
     clear m6;refine⟨zL,fun z6 Me=>?_⟩;have m7:=Same.upd (o:=.tup []) Me;have ez6:=aa (H:=H6) (a:=z6) (o:=.tup [])
     replace wk:=wk.same m7
     replace e5:=m7 _ _ e5
     replace e4:=m7 _ _ e4
     generalize upd H6 z6 (.tup [])=H7 at wk e5 e4 ez6⊢;clear m7 Me;refine⟨_,rfl,bk,_,1,.ref ap,rfl,rfl,SqT.of wk.bk.e,rfl,_,rfl,bk,_,2,.ref ag,rfl,rfl,SqT.of wk.bk.e,rfl,zL,fun q6 Mf=>?_⟩;have m8:=Same.upd (o:=.tup [.ref z6,.ref ap,.ref ag]) Mf;have e6:=aa (H:=H7) (a:=q6) (o:=.tup [.ref z6,.ref ap,.ref ag])
     replace wk:=wk.same m8
     replace e5:=m8 _ _ e5
     replace e4:=m8 _ _ e4
     replace ez6:=m8 _ _ ez6
     generalize upd H7 q6 (.tup [.ref z6,.ref ap,.ref ag])=H8 at wk e5 e4 ez6 e6⊢;clear m8 Mf;refine⟨_,rfl,zL,fun L hL=>?_⟩;have m9:=Same.upd (o:=.lst [.non,.ref q5,.ref q4,.ref q6,.str z]) hL;have eL:=aa (H:=H8) (a:=L) (o:=.lst [.non,.ref q5,.ref q4,.ref q6,.str z])
     replace wk:=wk.same m9
     replace e5:=m9 _ _ e5
     replace e4:=m9 _ _ e4
     replace e6:=m9 _ _ e6
     replace ez6:=m9 _ _ ez6
     generalize upd H8 L (.lst [.non,.ref q5,.ref q4,.ref q6,.str z])=H9 at wk e5 e4 ez6 e6 eL⊢;clear m9 hL
     have iB:∀u∈[V.non,.ref q5,.ref q4,.ref q6,.str z],∃d,IsTh (SS st) H9 u d/\sz d<=4000/\cu d=false:=fun u hu=>by
      have Fs:=wk.bk.th (S:=SS st)
      have zz:sz (aQ cs)+(sz (aQ ps)+(sz (aQ ss)+0))<=230:=by
       have:1+(sz (aQ cs)+(sz (aQ ps)+(sz (aQ ss)+0)))<=230:=OT;lia
      simp only[List.mem_cons,List.not_mem_nil,or_false]at hu;rcases hu with rfl|rfl|rfl|rfl|rfl
      .exact⟨.none,.non,by decide,rfl⟩
      .exact⟨.list [aQ cs,aQ ps,aQ ss],.lst ⟨Fn,O0⟩ e5 Fs,by show 1+(sz (aQ cs)+(sz (aQ ps)+(sz (aQ ss)+0)))<=4000;lia,rfl⟩
      .refine⟨.tuple [aQ cs,aQ ps],.tup (show H9 q4=some (.tup [.ref ac,.ref ap])from e4) (Fs.take 2),by show 1+(sz (aQ cs)+(sz (aQ ps)+0))<=4000;lia,rfl⟩
      .refine⟨.tuple [.tuple [],aQ ps,aQ ss],.tup e6 (.cons (.tup ez6 .nil) (Fs.drop 1)),by show 1+(1+(sz (aQ ps)+(sz (aQ ss)+0)))<=4000;lia,rfl⟩
      .exact⟨.str z,.str z,by show 1<=4000;decide,rfl⟩
     generalize[V.non,.ref q5,.ref q4,.ref q6,.str z]=B4 at eL iB⊢;clear e5 e4 e6 ez6;refine⟨L,rfl,⟨_,SqL.of eL⟩,?_⟩;refine nQ (xs:=B4) (fun k σ Hc=>∃de,σ=[some (.ref a),x1,some (.ref st),some (.ref bk),some (.str z),some (.str y),x6,some (.ref l1),some (.ref l2),some (.int r),some (.ref L7),da,de]/\Wk T1 T2 st bk ac xc cs ap xp ps ag xs ss H Hc/\Hc L=some (.lst B4)/\∀u∈B4,∃d,IsTh (SS st) Hc u d/\sz d<=4000/\cu d=false) ?_ ?_ ?_ ?_
     .exact⟨_,rfl,wk,eL,iB⟩
     .rintro k σ Hc hk ⟨_,rfl,_,e,_⟩;exact SqL.of e
     .clear wk eL iB;rintro k u σ Hc hu ⟨_,rfl,wk,e,iB⟩;obtain⟨d,tu,zu,bu⟩:=iB u (zB6 hu);refine aH ?_;refine⟨wk.t2,fun fl pm cv ct H9 oD sP nf Lm Z=>⟨[u],rfl,fun j' i' z e1 e2=>?_,fun Mi C=>?_⟩⟩
      .rcases j' with _|j'
       .cases e1;cases e2;rfl
       .simp at e1
      have t9:=tu.tbl wk.t2 oD;refine DK (j:=3) (b:=false) (D:=.none) kd Lm Z C rfl (fun A' ia E' Q' AI out=>⟨_,fun s'=>jE OP (AI.deeper _) Zx rfl uF rfl (ak (pv 0) aj),⟨u,rfl,SS st,u,d,rfl,t9,zu,bu,out.2 rfl⟩⟩) fun v1 HA sA fA=>?_;have no:NoC Mi H9:=C.no;have sB:=sA.er no;cases(show v1=.str (words.getD 3 "")from fA);have O1:=(wk.r2 n12 oD sP).same sB;have e9:=sB _ _ (oD _ _ (ie wk.t2 e nofun) e)
      have O2:∀u∈B4,∃d,IsTh (SS st) (er HA Mi) u d/\sz d<=4000/\cu d=false:=fun u hu=>(let⟨d,t,r⟩:=iB u hu;⟨d,(t.tbl wk.t2 oD).same sB,r⟩)
      refine⟨rfl,_,rfl,?_⟩;rw[zAu (show V.str (words.getD 3 "")=V.str "book" from rfl)];refine aW ?_;exact⟨_,rfl,O1,e9,O2⟩
     .clear wk eL iB;rintro σ Hc ⟨de,rfl,wk,_,_⟩;exact zI _ _ ⟨_,_,_,_,_,_,_,_,_,_,_,_,rfl,fun b o n1 n2 e=>wk.kp b o n1 n2 (aA e BY) e,wk.t1,wk.t2⟩
  .rintro σ Hc ⟨x1,x2,x3,x4,x5,x6,x7,x8,x9,fg,da,de,rfl,_⟩;exact q _
end
end K80P
structure PySem.W.Fast:Prop where
 (tw18277836503850141696 tw3429943802481788960 tw3429560611129459808 tw15974448735308479584 tw5231016263640153344 tw3078606812210038048 tw2035204955783119136 tw16073975125880172928 tw9926724305273084352 tw7074376767411797504 tw8541175897845736096 tw6985911978564824736 tw864009398383582880 tw9511413159774788320 tw13653820561743994592 tw15329949757167510304 tw5830613391686419232 tw3886597464433117024 tw6736758598524671872 tw17774572648453401536 tw11402244042499526592 tw14125199945474763809 tw6272111753519808641 tw14856946746890793249 tw5712190513674709281 tw10168650906375209345 tw9122929834479839841 tw14082460316881350273 tw4297637572561767105 tw4208763086554808161 tw521876096192577409 tw12021573956804530081 tw16526122318023553985 tw15159275224777673730 tw12365946646137885794 tw4875880611765865602 tw15751057388686342306 tw13985857788551317826 tw4719377055481711938 tw7566296952348980578 tw14316430708984485250 tw9815942564180756994 tw8020863122727206434 tw1984556191654840962 tw5194397262610176642 tw10858681920848314082 tw7578454227729655618 tw14036165260882215778 tw15815648792206319554 tw1953090849897384963 tw8472347818328581379 tw2852458660211184963 tw16750716899809496451 tw14154018576061872547 tw6713524813013977507 tw2993378097836981699 tw10097155733348564547 tw15939711997924760131 tw3154718191275733635 tw143886133133339299 tw1031224333426490083 tw13869136684132740963 tw4872065455173049283 tw766593546838396867 tw13004400396730015812 tw12412588031850529892 tw13207733103005283428 tw7260239387143468292 tw12977661590680410436 tw17839759178613868868 tw17540876020584200548 tw13808067842361076132 tw5796584273786497540 tw11632452088435080772 tw3409199087735038596 tw7081766910335607620 tw14663677576711939940 tw10196402120062151524 tw14597441404205910117 tw5560698260990402661 tw10015790719304566917 tw832383216379805829 tw578570963365251365 tw9019084217501789509 tw16168865271233768805 tw6745906603246474725 tw17680880596770933253 tw9302260377897424453 tw7500599788522864197 tw6361398934330080965 tw12732746868084576005 tw13121221945421990853 tw2644476686137169861 tw17669821535972006885 tw8217939569571570661 tw6659617113442784262 tw4379253161119223846 tw9558174097203739718 tw11842565046096405670 tw9007184367608092134 tw7674402228190549638 tw2686959591700669062 tw11448666419382207270 tw11636121700676005670 tw5689928708773317606 tw18436795043963925511 tw9146922693514346567 tw16386966558176228487 tw11904251674570643751 tw17510908320559565223 tw2672657412526695879 tw11525783023252896455 tw16801253259193022311 tw16209802302126045063 tw14268944390005164999 tw15043080208933099528 tw11718356382473266248 tw11833253926593581224 tw11839816195931458792 tw14064282377719827720 tw15821007973962856808 tw9767266994725746120 tw12387783500606854888 tw17214424637146927848 tw9597670813392519944 tw2388596536541282088 tw5348007103270271145 tw2043748036348221641 tw2335872585695121673 tw10310352128734149961 tw10633940799278112073 tw5486158750285554025 tw3853383386387422569 tw8329548540170448265 tw4910161605553420745 tw11205502962170966505 tw9965392145335778825 tw15855213261659668169 tw9957597199940459209 tw9330890783167813449 tw2893360477748407113 tw14396125367073916777 tw6088106259706869609 tw3344717974170977193 tw18104120392246453193 tw14635570868019726313 tw11622244964684256298 tw16304760310137289866 tw3773634183352956170 tw16543403689998876074 tw15188691020899949066 tw18245609770096436778 tw16878578329792707146 tw8912917291939306186 tw1838769702692837066 tw17661188271860111082 tw9183195186416333546 tw16288058869097753354 tw10773390493653504906 tw8330877050187529227 tw107534135748642827 tw1222016554923342891 tw15581572828205893707 tw11958586195107834987 tw16530575995144147147 tw12704326948764118219 tw18114884149780948203 tw11646868680202393931 tw16174111669476323755 tw9412586075116182987 tw759827444354526667 tw11536645935269741067 tw15979589308531688011 tw8812854537044476619 tw3428315354118448907 tw5156171930652144427 tw1974552687798966316 tw144124220381654092 tw2687156818708548716 tw10884016583171366060 tw16633173190625748172 tw2621212640999872780 tw3396645861425013004 tw18103460025644235052 tw12220333278391604620 tw8666751995032138220 tw10915310779796682316 tw1083608879742950988 tw3536641925357345388 tw8810046345446847084 tw4564087895104750284 tw8204104530056290092 tw4187872665594257196 tw3170567119710815084 tw1746550319433656236 tw14360432487671624652 tw2168790634465286189 tw7558023529213081677 tw17335462850760938605 tw12960330553641071789 tw6416620479473926317 tw17699732728678503629 tw5432514571389028685 tw17025806821886811501 tw11105207058432355693 tw57272809710183885 tw267560327041113549 tw13946910937099473645 tw5263434920943873837 tw3665315505107965773 tw8564627248301641549 tw17265602445678388109 tw1986401832565460941 tw2089458021206053837 tw4081360252986431854 tw16234716393535354318 tw13880600683291533006 tw17185064394987068174 tw10256938076393508718 tw8612507922812955534 tw5205570643605549038 tw840586293619947535 tw6889441432289953839 tw7956130714383682735 tw13883754299651096879 tw4636870770211392847 tw12364060986063084975 tw12993599694090885615 tw8736785580464047631 tw3387189481075974671 tw78485015783928335 tw14665918698683561647 tw17842452666973521647 tw8105029682140038927 tw11323480382630647599 tw10071925213792519983 tw980398775198911311 tw8674329660947368783 tw15609025011960344624 tw15369436007323705424 tw12426105394906480816 tw13122928038949714096 tw9564646354997554704 tw15514151525854624368 tw7326114548898731696 tw12473705646913448624 tw13548092046789168880 tw1296038755200561201 tw3781767707353109585 tw4214161355189571793 tw8850149246874085649 tw14985191168012300593 tw8527056636634529105 tw4072001634670550353 tw10971799051190769073 tw10853974854301553105 tw15623853862145378961 tw5864433561530474193 tw9971406087425092337 tw17782946422165723985 tw12650875693587403601 tw12412096579910461361 tw9995680249473457105 tw2495371928221983826 tw1990315971199974610 tw11427830261205108978 tw13842055768892686610 tw5668971156903169330 tw833836140587281778 tw16511494173755107826 tw7358649271148543474 tw12429034621336010258 tw17124123893200991858 tw11173008738166559410 tw5464018153837933266 tw3058291810979998482 tw16309719607821314866 tw11682628673805126610 tw13452777712652868851 tw14253380115691926835 tw7469215394628716883 tw17122266356957551955 tw515216813929831987 tw10711939737181877843 tw1687312191723623251 tw2521753914033786739 tw13487671674947497108 tw13807837062315442324 tw1608059836488465716 tw18308516105541636404 tw13161406956949098804 tw4847457260300842324 tw799304339439070644 tw117897009137464756 tw5654413059169247668 tw2049985951442340308 tw12931059581606320660 tw13155129244810727956 tw565402843821548084 tw7473714101375290036 tw3269917196132479668 tw16179804384348941044 tw6711115394732375796 tw14446653715791404788 tw16094764606414686004 tw9242470986566909812 tw14974019932784091028 tw1279352417805861844 tw16366864976555080725 tw5213284862398641269 tw12393557423817713781 tw14283022724114814101 tw7320903005380228245 tw15668911080826376437 tw15215965470039837973 tw204669046643007797 tw1228125757159850389 tw1350490127711600085 tw13136785910527847061 tw14306598909727863445 tw10350793667143501525 tw3385421366694892277 tw17257686261789087509 tw17148820914586420085 tw4810864282294062997 tw619325560804458389 tw2626270256998777014 tw16524706941646167254 tw7543679650894427382 tw2820106997627934998 tw3399480104774279542 tw10467553686377446774 tw2593167775941268886 tw6546757647241561590 tw3216102669683691062 tw9942903640025102966 tw12706080058345283222 tw4680196774633795222 tw10037167886913959702 tw15622346477884344118 tw17926928520086548342 tw2226361261153513398 tw7978979623440708534 tw6727271676497057815 tw4134365844284120087 tw495972221895860343 tw2842942609892231319 tw17517806918424583415 tw7216688673592610103 tw31433534722718167 tw3188877295698330071 tw666086378962016759 tw16045642822103499351 tw14487227238926946967 tw215548217375226551 tw18236323602948150135 tw7745086337649506167 tw3986104201972022199 tw11895028782592375767 tw17320373330883721240 tw18209731319187173528 tw5632524429801606360 tw3350289686600379608 tw5762163025575338296 tw2409573721211438904 tw12878533763814917976 tw10626153909855344472 tw14374082035265637240 tw7009643960881100696 tw2396939256180186040 tw10624166698732402713 tw15790549625483205721 tw10585758790949870713 tw1819343069756076185 tw12159531305605678457 tw14012425518108374393 tw14571167161993142649 tw10412691199114387961 tw4614425549599478329 tw12222248643830105881 tw13520056275086955289 tw14821535148499493689 tw12712102480366869305 tw18386986091376652121 tw13814589652890789753 tw13859073788727082905 tw3536561952092990490 tw6647963535206682746 tw6752807401218933978 tw15855573701616306394 tw10012291132434431194 tw13039412237908600154 tw10196737542945336698 tw16144153313151658458 tw16786730320786343386 tw18317284935020860954 tw15825869474834112090 tw7137887665706617562 tw7177907228470820602 tw10311470994924402458 tw5883249061779491674 tw17645957858467093563 tw11336070139803639867 tw17936136746048329819 tw2766742248490408251 tw12182828256964191547 tw15181475919279355323 tw12570964383906287067 tw9481995389002453499 tw18277092863901540059 tw13455997256249621211 tw4212000152712051419 tw11476530871433901883 tw367354629576686459 tw17200017821515072443 tw1827990653772612636 tw15092336910078693436 tw948527737060678844 tw1090411450058625244 tw7750278357807388028 tw9262203488952534428 tw6900011210632544700 tw5916073983221571036 tw5874135056391580156 tw6109887861811534364 tw4405473770711171644 tw13165808120677211900 tw419292835789251420 tw10357517252594669436 tw4931230229677089660 tw4654468760270409628 tw3448764038042192892 tw3237386463577134301 tw12997501278702256445 tw1181166369205558621 tw17676181991936998781 tw1576593408139209117 tw13159694176913767837 tw13720903434378393085 tw16077812799323350557 tw2252400213360199261 tw17469204359532824189 tw11636537139465947837 tw10451152589455745757 tw5193329993459518205 tw7658636358318346109 tw4913194942521971870 tw18186973409527764254 tw15174339779767346590 tw2694065146933097950 tw17011194026009366014 tw13865258432777255422 tw17168951351269546654 tw17294544425672666814 tw12074947790697737950 tw805178714761232126 tw13111014365546516318 tw5180750354507968446 tw17972717072677361695 tw18088466475886650463 tw17818099099202006111 tw13376038828416444543 tw15174820334294960319 tw9152760555300750559 tw1127346520979372255 tw1947229248439711263 tw4294276944604795551 tw3407545272429530783 tw15020199126446525119 tw18207896091462699743 tw3138089998875586367 tw17417089044207674271 tw6972631057653173183 tw15114629944091677631 tw5650994501107835871 tw2043777869338720255 tw15780447486053709900:True)
namespace K80
open PySem L2
theorem el1{C:List Value->Prop}(h:∀a0:Value,C [a0]):∀us:List Value,us.length=1->C us:=fun us e=>match us,e with|[a0],_=>h a0
theorem el2{C:List Value->Prop}(h:∀a0 a1:Value,C [a0,a1]):∀us:List Value,us.length=2->C us:=fun us e=>match us,e with|[a0,a1],_=>h a0 a1
theorem el3{C:List Value->Prop}(h:∀a0 a1 a2:Value,C [a0,a1,a2]):∀us:List Value,us.length=3->C us:=fun us e=>match us,e with|[a0,a1,a2],_=>h a0 a1 a2
theorem el4{C:List Value->Prop}(h:∀a0 a1 a2 a3:Value,C [a0,a1,a2,a3]):∀us:List Value,us.length=4->C us:=fun us e=>match us,e with|[a0,a1,a2,a3],_=>h a0 a1 a2 a3
theorem el5{C:List Value->Prop}(h:∀a0 a1 a2 a3 a4:Value,C [a0,a1,a2,a3,a4]):∀us:List Value,us.length=5->C us:=fun us e=>match us,e with|[a0,a1,a2,a3,a4],_=>h a0 a1 a2 a3 a4
def Has(K:Frag)(x:Str)(st:Stmt):Prop:=∃(f:Addr) (od an:Option Addr) (sl:Array (Option Value)) (oc kV dc pm cd ct:Value),PySem.W.nsIn K mainGlobals x=some (some (.ref f)) /\
 K.lookup f=some ⟨oc,od,.func (PySem.W.fnOf x x (gH st) (du st) (au st) .none kV dc pm an cd ct),sl⟩/\PySem.W.codeIn K cd x=true/\PySem.W.keepIn K (.ref f)=true
theorem has_mk{K:Frag}{x:Str}{st:Stmt}{f:Addr}{od an:Option Addr}{sl:Array (Option Value)}{oc kV dc pm cd ct:Value}(a:PySem.W.nsIn K mainGlobals x=some (some (.ref f)))
  (l:K.lookup f=some ⟨oc,od,.func (PySem.W.fnOf x x (gH st) (du st) (au st) .none kV dc pm an cd ct),sl⟩) (c:PySem.W.codeIn K cd x=true) (k:PySem.W.keepIn K (.ref f)=true):Has K x st:=⟨f,od,an,sl,oc,kV,dc,pm,cd,ct,a,l,c,k⟩
theorem Has.get{K:Frag}{x:Str}{st:Stmt}{h:Heap}{mg:Str->Option Value}(H:Has K x st)(X:K.In h)(G:h.Ns mainGlobals mg):∃f fd,Fun K x x st f fd/\mg x=some (.ref f):=by
 obtain⟨f,od,an,sl,oc,kV,dc,pm,cd,ct,a,l,c,k⟩:=H;exact⟨f,_,Ar (st:=st) l c k,PySem.W.mg_of X G a⟩
theorem bh(P:Program)(w:World)(base:Heap){K:Frag}{mg:Str->Option Value}{k:Nat}{x:Str}{ps:List Str}{sp:Sp}{f:Addr}{fd:FuncData}(F:FnOk P w K mg base CX0 k f fd ps sp)(m:mg x=some (.ref f))(kp:PySem.W.keepIn K (.ref f)=true)(b:Binds K fd ps []):Cal P w K mg base k x ps sp:=⟨f,fd,F,m,kp,b⟩
theorem lN{P:Program}{w:World}{K:Frag}{mg:Str->Option Value}{base:Heap}{k:Nat}{x:Str}{ps:List Str}{sp:Sp}{f:Addr}{fd:FuncData}(F:FnOk P w K mg base (CX1 P w) k f fd ps sp)(m:mg x=some (.ref f))(kp:PySem.W.keepIn K (.ref f)=true)(b:Binds K fd ps []):ww P w K mg base k x ps sp:=⟨f,fd,F,m,kp,b⟩
theorem Gx{P:Program}{w:World}{K:Frag}{mg:Str->Option Value}{base:Heap}{k:Nat}{x:Str}{ps:List Str}{sp:Sp}{f:Addr}{fd:FuncData}(F:FnOkU P w K mg base CX0 k f fd ps sp)(m:mg x=some (.ref f))(kp:PySem.W.keepIn K (.ref f)=true)(b:Binds K fd ps []):G8 P w K mg base k x ps sp:=⟨f,fd,F,m,kp,b⟩
theorem yD{K:Frag}{x qual:Str}{st:Stmt}{f c T:Addr}{fd:FuncData}{h:Heap}{mg:Str->Option Value}(X:K.In h)(G:h.Ns mainGlobals mg)(F:Fun K x qual st f fd)(m:mg x=some (.ref f))(t:PySem.W.tabIn K x=some (c,T)):fd.code=.ref c:=by
 obtain⟨oc,od,kV,doc,pm,an,cdv,ct,ko,rfl,lk,_⟩:=F.ex;exact PySem.W.law_code X G t m (X _ _ lk) rfl
theorem all_mk{l:PySem.W.OpenLaw}{w:World}{K:Frag}{h:Heap}{mg:Str->Option Value}{fa fL:Addr}{O4 Mj:Option Addr}{O5:Array (Option Value)}{O6 Ml Mm Mn Fu Mo:Value}{t0 t1 t2 t3 t4 t5 t6 t7 t8 t9 Mp DO:Tok}{cT T0 cU U0:Addr}{C0 C1 C2 C3 C4 C5 C6 C7 C8 C9 oI oP oQ oS nh pb pe pj:Addr}(X:K.In h)(G:h.Ns mainGlobals mg)(Mq:mg "law"=some (.ref fa))
  (h20:Has K "is_whole" (top 20))
  (h21:Has K "is_tuple_of" (top 21))
  (h22:Has K "are_wholes" (top 22))
  (h33:Has K "is_clip" (top 33))
  (h34:Has K "are_clips" (top 34))
  (h35:Has K "is_promise" (top 35))
  (h36:Has K "are_promises" (top 36))
  (h37:Has K "are_sales" (top 37))
  (h38:Has K "held_in" (top 38))
  (h39:Has K "is_sale_between" (top 39))
  (h40:Has K "sale_holds" (top 40))
  (h41:Has K "first_unheld" (top 41))
  (h42:Has K "is_book" (top 42))
  (h43:Has K "refuse_no_book" (top 43))
  (h48:Has K "is_number" (top 48))
  (h49:Has K "row_text" (top 49))
  (h50:Has K "rows_text" (top 50))
  (h51:Has K "book_text" (top 51))
  (h52:Has K "row_read" (top 52))
  (h53:Has K "rows_read" (top 53))
  (h54:Has K "read_book" (top 54))
  (h56:Has K "_law_cell_at" (top 56))
  (h57:Has K "_law_state" (top 57))
  (h58:Has K "_law_choice" (top 58))
  (h59:Has K "_law_same" (top 59))
  (h63:Has K "_law_rows" (top 63))
  (h64:Has K "_law_clips" (top 64))
  (h65:Has K "_law_promise" (top 65))
  (h66:Has K "_law_sale" (top 66))
  (h67:Has K "_law_book" (top 67))
  (h60:Has K "_law_marks" (top 60))
  (h61:Has K "_law_said" (top 61))
  (h68:Has K "_law_text_bent" (top 68))
  (h69:Has K "_law_rows_text" (top 69))
  (h70:Has K "_law_book_text" (top 70))
  (h71:Has K "_law_number" (top 71))
  (h72:Has K "_law_whole" (top 72))
  (h73:Has K "_law_are" (top 73))
  (h74:Has K "_law_is_book" (top 74))
  (h75:Has K "_law_rows_in" (top 75))
  (h76:Has K "_law_right" (top 76))
  (aL:PySem.W.nsIn K mainGlobals "law"=some (some (.ref fL))) (lL:K.lookup fL=some ⟨O6,O4,.func (PySem.W.fnOf "law" "law" (gH (top 77)) (du (top 77)) (au (top 77)) .none Ml Mm Mn Mj Fu Mo),O5⟩) (cL:PySem.W.codeIn K Fu "law"=true) (kL:PySem.W.keepIn K (.ref fL)=true)
  (n0:PySem.W.nsIn K mainGlobals "SORTS"=some (some (.int 3 t0)))
  (n1:PySem.W.nsIn K mainGlobals "HOLDERS"=some (some (.int 8 t1)))
  (n2:PySem.W.nsIn K mainGlobals "LAST_YEAR"=some (some (.int 19 t2)))
  (n3:PySem.W.nsIn K mainGlobals "MOST_CLIPS"=some (some (.int 20 t3)))
  (n4:PySem.W.nsIn K mainGlobals "MOST_PROMISES"=some (some (.int 10 t4)))
  (n5:PySem.W.nsIn K mainGlobals "MOST_WOOL"=some (some (.int 999 t5)))
  (n6:PySem.W.nsIn K mainGlobals "MOST_SACKS"=some (some (.int 99 t6)))
  (n7:PySem.W.nsIn K mainGlobals "MOST_PRICE"=some (some (.int 1000000 t7)))
  (n8:PySem.W.nsIn K mainGlobals "MOST_SALES"=some (some (.int 12 t8)))
  (n9:PySem.W.nsIn K mainGlobals "FIGURES"=some (some (.str "0123456789" t9)))
  (n10:PySem.W.nsIn K mainGlobals "MOST_FIGURES"=some (some (.int 30 Mp)))
  (n11:PySem.W.nsIn K mainGlobals "NONE_THERE"=some (some (.str "-" DO)))
  (cx:PySem.W.nsIn K mainGlobals "isinstance"=some none)
  (pk:PySem.W.nsIn K mainGlobals "int"=some none)
  (kS:PySem.W.nsIn K mainGlobals "bool"=some none)
  (iP:PySem.W.nsIn K mainGlobals "tuple"=some none)
  (kT:PySem.W.nsIn K mainGlobals "len"=some none)
  (pz:PySem.W.nsIn K mainGlobals "all"=some none)
  (cy:PySem.W.nsIn K mainGlobals "range"=some none)
  (kU:PySem.W.nsIn K mainGlobals "list"=some none)
  (iS:PySem.W.nsIn K mainGlobals "max"=some none)
  (kX:PySem.W.nsIn K mainGlobals "min"=some none)
  (lh:PySem.W.nsIn K mainGlobals "zip"=some none)
  (dk:PySem.W.nsIn K mainGlobals "enumerate"=some none)
  (lI:PySem.W.nsIn K mainGlobals "repr"=some none)
  (eI:PySem.W.nsIn K mainGlobals "str"=some none)
  (fv:PySem.W.nsIn K mainGlobals "ValueError"=some none)
  (k0:PySem.W.nsIn K mainGlobals "NoClips"=some (some (.ref C0)))
  (k1:PySem.W.nsIn K mainGlobals "NoPromises"=some (some (.ref C1)))
  (k2:PySem.W.nsIn K mainGlobals "NoSales"=some (some (.ref C2)))
  (k3:PySem.W.nsIn K mainGlobals "NoBook"=some (some (.ref C3)))
  (k4:PySem.W.nsIn K mainGlobals "NoNumber"=some (some (.ref C4)))
  (k5:PySem.W.nsIn K mainGlobals "NoYear"=some (some (.ref C5)))
  (k6:PySem.W.nsIn K mainGlobals "NoWeights"=some (some (.ref C6)))
  (k7:PySem.W.nsIn K mainGlobals "NoPaper"=some (some (.ref C7)))
  (k8:PySem.W.nsIn K mainGlobals "NoGrowth"=some (some (.ref C8)))
  (k9:PySem.W.nsIn K mainGlobals "NoPromise"=some (some (.ref C9)))
  (k10:PySem.W.nsIn K mainGlobals "NoSort"=some (some (.ref oI)))
  (k11:PySem.W.nsIn K mainGlobals "NoClip"=some (some (.ref oP)))
  (k12:PySem.W.nsIn K mainGlobals "NoSale"=some (some (.ref oQ)))
  (k13:PySem.W.nsIn K mainGlobals "NoDeed"=some (some (.ref oS)))
  (k14:PySem.W.nsIn K mainGlobals "NoText"=some (some (.ref nh)))
  (k15:PySem.W.nsIn K mainGlobals "NoLine"=some (some (.ref pb)))
  (k16:PySem.W.nsIn K mainGlobals "TooMany"=some (some (.ref pe)))
  (k17:PySem.W.nsIn K mainGlobals "WoolError"=some (some (.ref pj)))
  (e3:PySem.W.excIn K C3 VE "ValueError.__new__"=true) (d3:Ga K [C0,C1,C2,C3,C4,C5,C6,C7,C8,C9,oI,oP,oQ,oS,nh,pb,pe,pj] 3=true)
  (e14:PySem.W.excIn K nh VE "ValueError.__new__"=true) (d14:Ga K [C0,C1,C2,C3,C4,C5,C6,C7,C8,C9,oI,oP,oQ,oS,nh,pb,pe,pj] 14=true)
  (tb:PySem.W.tabIn K "_law_right"=some (cT,T0)) (tb2:PySem.W.tabIn K "law"=some (cU,U0)) (n12:T0≠U0)
  : ∃fd:FuncData,(∀(s:Shared) (v:Value),BindsTo s fd ⟨[v],[]⟩ [("_law_script",v)])/\∀base:Heap,K.In base->base.Ns mainGlobals mg->PySem.W.CodeHd base cT T0->base.BuiltinsAt mg T0->PySem.W.CodeHd base cU U0->base.BuiltinsAt mg U0->FnOk l.prog w K mg base CX0 63 fa fd ["_law_script"] (spLaw K T0 U0):=by
 have e:=Mq.symm.trans (PySem.W.mg_of X G aL);cases e;have FL:=Ar (st:=top 77) lL cL kL;obtain⟨Sz,O7,FA,O8⟩:=h20.get X G;have O9:=FA.binds (ps:=["thing"]) fun _ _ _ _ _ _=>el1 fun _=>rfl;obtain⟨SA,Pa,FC,Pb⟩:=h21.get X G;have Pc:=FC.binds (ps:=["thing","fewest","most"]) fun _ _ _ _ _ _=>el3 fun _ _ _=>rfl;obtain⟨SD,Pd,FD,Pe⟩:=h22.get X G;have Pf:=FD.binds (ps:=["thing","many"]) fun _ _ _ _ _ _=>el2 fun _ _=>rfl;obtain⟨SE,Pg,FE,Ph⟩:=h33.get X G;have Pj:=FE.binds (ps:=["thing"]) fun _ _ _ _ _ _=>el1 fun _=>rfl;obtain⟨SF,Pk,FF,Pl⟩:=h34.get X G;have Pm:=FF.binds (ps:=["thing"]) fun _ _ _ _ _ _=>el1 fun _=>rfl;obtain⟨SH,Pn,FG,Po⟩:=h35.get X G;have Pp:=FG.binds (ps:=["thing"]) fun _ _ _ _ _ _=>el1 fun _=>rfl;obtain⟨SI,Pq,FH,Pr⟩:=h36.get X G;have Pt:=FH.binds (ps:=["thing"]) fun _ _ _ _ _ _=>el1 fun _=>rfl;obtain⟨SJ,Pu,FI,Pw⟩:=h37.get X G;have Px:=FI.binds (ps:=["thing"]) fun _ _ _ _ _ _=>el1 fun _=>rfl;obtain⟨SK,Py,FK,Pz⟩:=h38.get X G;have PB:=FK.binds (ps:=["promises","sales","number","year"]) fun _ _ _ _ _ _=>el4 fun _ _ _ _=>rfl;obtain⟨SM,PD,FO,PF⟩:=h39.get X G;have PH:=FO.binds (ps:=["promises","sale"]) fun _ _ _ _ _ _=>el2 fun _ _=>rfl;obtain⟨SN,PJ,FR,PL⟩:=h40.get X G;have PM:=FR.binds (ps:=["promises","ahead","sale"]) fun _ _ _ _ _ _=>el3 fun _ _ _=>rfl;obtain⟨SO,PN,FU,PQ⟩:=h41.get X G;have PR:=FU.binds (ps:=["promises","sales"]) fun _ _ _ _ _ _=>el2 fun _ _=>rfl;obtain⟨SR,PU,FV,PV⟩:=h42.get X G;have PX:=FV.binds (ps:=["thing"]) fun _ _ _ _ _ _=>el1 fun _=>rfl;obtain⟨SU,PY,AS,Mr⟩:=h43.get X G;have Ms:=AS.binds (ps:=["thing"]) fun _ _ _ _ _ _=>el1 fun _=>rfl;obtain⟨SV,PZ,FX,P0⟩:=h48.get X G;have P1:=FX.binds (ps:=["word"]) fun _ _ _ _ _ _=>el1 fun _=>rfl;obtain⟨SW,P2,FY,P4⟩:=h49.get X G;have P5:=FY.binds (ps:=["row","sign"]) fun _ _ _ _ _ _=>el2 fun _ _=>rfl;obtain⟨SX,P6,F0,P7⟩:=h50.get X G;have P8:=F0.binds (ps:=["rows","sign","without"]) fun _ _ _ _ _ _=>el3 fun _ _ _=>rfl;obtain⟨SY,P9,AU,Mt⟩:=h51.get X G;have Mu:=AU.binds (ps:=["book"]) fun _ _ _ _ _ _=>el1 fun _=>rfl;obtain⟨S0,Qa,F2,Qb⟩:=h52.get X G;have Qd:=F2.binds (ps:=["word","sign"]) fun _ _ _ _ _ _=>el2 fun _ _=>rfl;obtain⟨S1,Qe,F3,Qf⟩:=h53.get X G;have Qg:=F3.binds (ps:=["line","sign"]) fun _ _ _ _ _ _=>el2 fun _ _=>rfl;obtain⟨S2,Qh,AV,Mv⟩:=h54.get X G;have Mw:=AV.binds (ps:=["text"]) fun _ _ _ _ _ _=>el1 fun _=>rfl;obtain⟨S3,Qi,F4,Qj⟩:=h56.get X G;have Qk:=F4.binds (ps:=["_law_script","_law_k"]) fun _ _ _ _ _ _=>el2 fun _ _=>rfl;obtain⟨S4,Ql,F5,Qm⟩:=h57.get X G;have Qn:=F5.binds (ps:=["_law_script","_law_k"]) fun _ _ _ _ _ _=>el2 fun _ _=>rfl;obtain⟨S5,Qo,F6,Qp⟩:=h58.get X G;have Qq:=F6.binds (ps:=["_law_state_here","_law_many"]) fun _ _ _ _ _ _=>el2 fun _ _=>rfl;obtain⟨S7,Qr,AW,Mx⟩:=h59.get X G;have My:=AW.binds (ps:=["_law_found","_law_due"]) fun _ _ _ _ _ _=>el2 fun _ _=>rfl;obtain⟨S8,Qs,F7,Qt⟩:=h63.get X G;have Qu:=F7.binds (ps:=["_law_promises","_law_sales"]) fun _ _ _ _ _ _=>el2 fun _ _=>rfl;obtain⟨S9,Qv,F8,Qx⟩:=h64.get X G;have Qy:=F8.binds (ps:=["_law_state_here","_law_most"]) fun _ _ _ _ _ _=>el2 fun _ _=>rfl;obtain⟨Ta,Qz,F9,QA⟩:=h65.get X G;have QB:=F9.binds (ps:=["_law_state_here","_law_years"]) fun _ _ _ _ _ _=>el2 fun _ _=>rfl;obtain⟨Tb,QC,GA,QD⟩:=h66.get X G;have QE:=GA.binds (ps:=["_law_state_here","_law_promises"]) fun _ _ _ _ _ _=>el2 fun _ _=>rfl;obtain⟨Tc,QF,GB,QG⟩:=h67.get X G;have QH:=GB.binds (ps:=["_law_state_here","_law_years","_law_most"]) fun _ _ _ _ _ _=>el3 fun _ _ _=>rfl;obtain⟨Td,QI,GG,QJ⟩:=h60.get X G;have QK:=GG.binds (ps:=["_law_e"]) fun _ _ _ _ _ _=>el1 fun _=>rfl;obtain⟨Tf,QL,GH,QM⟩:=h61.get X G;have QN:=GH.binds (ps:=["_law_call"]) fun _ _ _ _ _ _=>el1 fun _=>rfl;obtain⟨Tg,QO,GI,QP⟩:=h68.get X G;have QQ:=GI.binds (ps:=["_law_state_here","_law_text"]) fun _ _ _ _ _ _=>el2 fun _ _=>rfl;obtain⟨Th,QR,GL,QS⟩:=h69.get X G;have QT:=GL.binds (ps:=["_law_rows_here","_law_sign"]) fun _ _ _ _ _ _=>el2 fun _ _=>rfl;obtain⟨Ti,QU,GN,QV⟩:=h70.get X G;have QW:=GN.binds (ps:=["_law_book_here"]) fun _ _ _ _ _ _=>el1 fun _=>rfl;obtain⟨Tj,QX,GO,QY⟩:=h71.get X G;have QZ:=GO.binds (ps:=["_law_word"]) fun _ _ _ _ _ _=>el1 fun _=>rfl;obtain⟨To,Q0,GS,Q5⟩:=h72.get X G;have Q6:=GS.binds (ps:=["_law_thing","_law_low","_law_high"]) fun _ _ _ _ _ _=>el3 fun _ _ _=>rfl;obtain⟨Tp,Q7,GU,Q8⟩:=h73.get X G;have Q9:=GU.binds (ps:=["_law_thing","_law_most","_law_bounds"]) fun _ _ _ _ _ _=>el3 fun _ _ _=>rfl;obtain⟨Tq,Ra,GV,Rb⟩:=h74.get X G;have Rc:=GV.binds (ps:=["_law_thing"]) fun _ _ _ _ _ _=>el1 fun _=>rfl;obtain⟨Tt,Rf,GW,Rg⟩:=h75.get X G;have Rh:=GW.binds (ps:=["_law_line","_law_sign"]) fun _ _ _ _ _ _=>el2 fun _ _=>rfl;obtain⟨Tu,Ri,B5,Mz⟩:=h76.get X G;have Rj:=B5.binds (ps:=["_law_thing"]) fun _ _ _ _ _ _=>el1 fun _=>rfl
 have T:Mg mg:=⟨(zAx X G cx),(zAx X G pk),(zAx X G kS),(zAx X G iP),(zAx X G kT),(zAx X G pz)⟩
 have TP:K80.Mg mg:=⟨(zAx X G cx),(zAx X G pk),(zAx X G kS),(zAx X G iP),(zAx X G kT),(zAx X G pz)⟩
 have N:Nums mg:=⟨⟨t0,PySem.W.mg_of X G n0⟩,⟨t1,PySem.W.mg_of X G n1⟩,⟨t2,PySem.W.mg_of X G n2⟩,⟨t3,PySem.W.mg_of X G n3⟩,⟨t4,PySem.W.mg_of X G n4⟩,⟨t5,PySem.W.mg_of X G n5⟩,⟨t6,PySem.W.mg_of X G n6⟩,⟨t7,PySem.W.mg_of X G n7⟩⟩
 have N2:MS mg:=⟨⟨t8,PySem.W.mg_of X G n8⟩⟩
 have XT:Txs mg:=⟨⟨t9,PySem.W.mg_of X G n9⟩,⟨Mp,PySem.W.mg_of X G n10⟩,⟨DO,PySem.W.mg_of X G n11⟩⟩
 refine⟨PySem.W.fnOf "law" "law" (gH (top 77)) (du (top 77)) (au (top 77)) .none Ml Mm Mn Mj Fu Mo,fun s v=>.of_eq rfl,fun base kb _ hC hB tN Rk=>?_⟩
 have L:Clss mg (fun i=>[C0,C1,C2,C3,C4,C5,C6,C7,C8,C9,oI,oP,oQ,oS,nh,pb,pe,pj].getD i 0):=⟨PySem.W.mg_of X G k0,PySem.W.mg_of X G k1,PySem.W.mg_of X G k2,PySem.W.mg_of X G k3,PySem.W.mg_of X G k4,PySem.W.mg_of X G k5,PySem.W.mg_of X G k6,PySem.W.mg_of X G k7,PySem.W.mg_of X G k8,PySem.W.mg_of X G k9,PySem.W.mg_of X G k10,PySem.W.mg_of X G k11,PySem.W.mg_of X G k12,PySem.W.mg_of X G k13,PySem.W.mg_of X G k14,PySem.W.mg_of X G k15,PySem.W.mg_of X G k16,PySem.W.mg_of X G k17⟩
 have O3:=Bj (mg:=mg) kb L.n3 e3;have K3:=GX d3;have oB:=Bj (mg:=mg) kb L.n14 e14;have Rl:=GX d14;have fe:=yD X G B5 Mz tb;have sQ:=yD X G FL Mq tb2;have Rm:=bh l.prog w base (uV FA T) O8 FA.kp O9;have AX:=bh l.prog w base (oV FC T) Pb FC.kp Pc;have GY:=bh l.prog w base (pQ FD T Rm AX) Pe FD.kp Pf;have Rn:=bh l.prog w base (wj FE T N GY) Ph FE.kp Pj;have Ro:=bh l.prog w base (sO FF T N Rn AX) Pl FF.kp Pm;have Rp:=bh l.prog w base (pR FG T N GY) Po FG.kp Pp;have MA:=bh l.prog w base (nC FH T N Rp AX) Pr FH.kp Pt;have MB:=bh l.prog w base (sV FI T N2 GY AX) Pw FI.kp Px;have Rq:=bh l.prog w base (FQ FK N) Pz FK.kp PB;have Rr:=bh l.prog w base (FT FO T N) PF FO.kp PH;have Rt:=bh l.prog w base (Cm FR T (zAx X G cy) Rr Rq) PL FR.kp PM;have Ru:=bh l.prog w base (Cr FU (zAx X G dk) MA MB Rt) PQ FU.kp PR;have B6:=bh l.prog w base (ok_book FV AX Ro MA MB Ru) PV FV.kp PX;have Rv:=bh l.prog w base (G5 AS B6) Mr AS.kp Ms;have XB:=lN (P:=l.prog) (w:=w) (base:=base) (Dg (Cs:=fun i=>[C0,C1,C2,C3,C4,C5,C6,C7,C8,C9,oI,oP,oQ,oS,nh,pb,pe,pj].getD i 0) AS O3 B6) Mr AS.kp Ms;have Rw:=bh l.prog w base (J9 FX T XT) P0 FX.kp P1;have Rx:=bh l.prog w base (Gf FY (zAx X G eI)) P4 FY.kp P5;have Ry:=bh l.prog w base (Dj F0 Rx) P7 F0.kp P8;have Rz:=bh l.prog w base (Dk AU XT Rv Ry) Mt AU.kp Mu;have RA:=lN (P:=l.prog) (w:=w) (base:=base) (Aa AU XB) Mt AU.kp Mu;have RB:=lN (P:=l.prog) (w:=w) (base:=base) (Gh (Cs:=fun i=>[C0,C1,C2,C3,C4,C5,C6,C7,C8,C9,oI,oP,oQ,oS,nh,pb,pe,pj].getD i 0) F2 T oB Rw) Qb F2.kp Qd;have MC:=lN (P:=l.prog) (w:=w) (base:=base) (Dm F3 T XT RB) Qf F3.kp Qg;have RC:=lN (P:=l.prog) (w:=w) (base:=base) (v8 (Cs:=fun i=>[C0,C1,C2,C3,C4,C5,C6,C7,C8,C9,oI,oP,oQ,oS,nh,pb,pe,pj].getD i 0) AV T (zAx X G eI) oB MC B6) Mv AV.kp Mw;have RD:=bh l.prog w base (Ec (v8 (Cs:=fun i=>[C0,C1,C2,C3,C4,C5,C6,C7,C8,C9,oI,oP,oQ,oS,nh,pb,pe,pj].getD i 0) AV T (zAx X G eI) oB MC B6)) Mv AV.kp Mw;have RE:=bh l.prog w base (K80P.ok_cell F4 TP) Qj F4.kp Qk;have RF:=bh l.prog w base (K80P.ok_state F5 (zAx X G iS) RE) Qm F5.kp Qn;have vt:=bh l.prog w base (K80P.ok_choice F6) Qp F6.kp Qq;have MD:=bh l.prog w base (K80.ok_same AW (zAx X G lI)) Mx AW.kp My;have RG:=bh l.prog w base (Eb AW (zAx X G lI)) Mx AW.kp My;have ME:=bh l.prog w base (G4 F7 T (zAx X G dk) (zAx X G cy) (zAx X G kX) (zAx X G iS)) Qt F7.kp Qu;have RH:=bh l.prog w base (K80Q.ok_clips F8 TP (zAx X G cy) vt) Qx F8.kp Qy;have RI:=bh l.prog w base (K80Q.ok_prom F9 (zAx X G kX) vt) QA F9.kp QB;have RJ:=bh l.prog w base (K80Q.ok_sale GA T (zAx X G iS) vt) QD GA.kp QE;have RK:=bh l.prog w base (K80Q.ok_book GB TP (zAx X G cy) (zAx X G kT) vt RH RI RJ ME) QG GB.kp QH;have RL:=Gx (P:=l.prog) (w:=w) (base:=base) (Dd GG T L) QJ GG.kp QK;have MF:=bh l.prog w base (Gd (kk:=13) GH T (zAx X G fv) L RL) QM GH.kp QN;have RM:=bh l.prog w base (DR GI T (zAx X G kU) vt) QP GI.kp QQ;have RN:=bh l.prog w base (zV GL (zAx X G eI)) QS GL.kp QT;have RO:=bh l.prog w base (zW GN (zAx X G lh) RN) QV GN.kp QW;have RP:=bh l.prog w base (Gn GO T (zAx X G eI)) QY GO.kp QZ;have RQ:=bh l.prog w base (zT GS T) Q5 GS.kp Q6;have RS:=bh l.prog w base (Jd GU T (zAx X G lh) RQ) Q8 GU.kp Q9;have RT:=bh l.prog w base (Je GV T RS ME) Rb GV.kp Rc;have RU:=bh l.prog w base (Jg GW T RP) Rg GW.kp Rh;have RV:=bh l.prog w base (DN B5 fe hC hB T (zAx X G eI) (zAx X G lh) Rl MF RC RU RT MD) Mz B5.kp Rj;exact K80P.ok_law FL sQ tN Rk n12 TP (zAx X G cy) (zAx X G iS) (zAx X G kX) (zAx X G kU) (zAx X G eI) K3 RF RK vt RO RG MD Rz RD RM RV MF RA
theorem walk{l:PySem.W.OpenLaw}{q:Program}{loose:List Str}{XP:(Str->Option Value)->Heap->Prop}{YP:World->Heap->Prop}{d dr D7:DefRec}{K:Params->Frag}{c T0 c2 U0:Addr}(hn:l.most=some 63)(qA:d.params.defaults=[])
  (hY:∀(w:World) (h:Heap),YP w h->(K w.params).In h) (D8:(PyProof.Rows.recsOf q).find? (fun e=>e.name==("_law_right":Str))=some dr) (yT:∀p:Params,PySem.W.tabIn (K p) "_law_right"=some (c,T0)) (se:(PyProof.Rows.recsOf q).find? (fun e=>e.name==("law":Str))=some D7) (sh:∀p:Params,PySem.W.tabIn (K p) "law"=some (c2,U0)) (n12:T0≠U0) (tS:∀p:Params,PySem.W.noTabs (K p)=true)
  (F:∀(w:World) (mg:Str->Option Value) (fa:Addr) (h:Heap),(K w.params).In h->h.Ns mainGlobals mg->mg d.name=some (.ref fa)->
   ∃fd:FuncData,(∀(s:Shared) (u:Value),BindsTo s fd ⟨[u],[]⟩ [("_law_script",u)])/\∀base:Heap,(K w.params).In base->base.Ns mainGlobals mg->PySem.W.CodeHd base c T0->base.BuiltinsAt mg T0->PySem.W.CodeHd base c2 U0->base.BuiltinsAt mg U0->FnOk l.prog w (K w.params) mg base CX0 63 fa fd ["_law_script"] (spLaw (K w.params) T0 U0)):
  PySem.W.WalkO q loose XP YP l.row.toRowW d [] (fun f vs=>PySem.call f vs):=
 L2.walk_ofT2 (n:=63) (k:=63) (x:="_law_script") (nm:="_law_right") (nm2:="law") (qn:=qnT) (qn2:=qnL) (CX:=fun _=>CX0) (sp:=fun w=>spLaw (K w.params) T0 U0) hn Zx qA ⟨rfl,by decide,by decide,rfl⟩ hY D8 yT se sh n12 tS F (fun _ _ a ns hl hS hT iN=>⟨a,ns,rfl,hS,hl,hT,iN,fun _=>rfl⟩) fun _ _ _ _ _ z=>z
end K80
open PySem PySem.W PyProof.Rows
set_option maxRecDepth 100000 in
set_option maxHeartbeats 0 in
theorem PySem.Challenge.cw_woolyears_k80_books_as_texts_holds : PySem.Challenge.rw_woolyears_k80_books_as_texts.Holds := by
 w_on;o_law;k_head;(case hw=>w_witness2)
 k_fill
 refine' K80.walk (l:=PySem.Challenge.rw_woolyears_k80_books_as_texts) rfl rfl (fun w h Y=>PySem.W.km_in_of Y) ?fd ?tb ?fd2 ?tb2 ?n12 ?nt ?F
 case fd=>exact rfl
 case fd2=>exact rfl
 case tb =>
  intro p
  refine' K80.tab_mk ?a ?l ?c ?m ?v
  (case a=>k_is);(case l=>k_is);(case c=>exact rfl);(case m=>k_is);(case v=>exact rfl)
 case tb2 =>
  intro p
  refine' K80.tab_mk ?a ?l ?c ?m ?v
  (case a=>k_is);(case l=>k_is);(case c=>exact rfl);(case m=>k_is);(case v=>exact rfl)
 case n12=>decide
 case nt =>
  intro p
  kernel_rfl
 case F =>
  intro w mg fa h KX G hmg
  refine' K80.all_mk KX G hmg ?h20 ?h21 ?h22 ?h33 ?h34 ?h35 ?h36 ?h37 ?h38 ?h39 ?h40 ?h41 ?h42 ?h43 ?h48 ?h49 ?h50 ?h51 ?h52 ?h53 ?h54 ?h56 ?h57 ?h58 ?h59 ?h63 ?h64 ?h65 ?h66 ?h67 ?h60 ?h61 ?h68 ?h69 ?h70 ?h71 ?h72 ?h73 ?h74 ?h75 ?h76 ?aL ?lL ?cL ?kL ?n0 ?n1 ?n2 ?n3 ?n4 ?n5 ?n6 ?n7 ?n8 ?n9 ?n10 ?n11 ?z0 ?z1 ?z2 ?z3 ?z4 ?z5 ?z6 ?z7 ?z8 ?z9 ?z10 ?z11 ?z12 ?z13 ?z14 ?k0 ?k1 ?k2 ?k3 ?k4 ?k5 ?k6 ?k7 ?k8 ?k9 ?k10 ?k11 ?k12 ?k13 ?k14 ?k15 ?k16 ?k17 ?e3 ?d3 ?e14 ?d14 ?tb ?tb2 ?n12
  case h20 =>
   refine' K80.has_mk ?a ?l ?c ?k
   (case a=>k_is);(case l=>k_is);(case c=>k_is);(case k=>k_is)
  case h21 =>
   refine' K80.has_mk ?a ?l ?c ?k
   (case a=>k_is);(case l=>k_is);(case c=>k_is);(case k=>k_is)
  case h22 =>
   refine' K80.has_mk ?a ?l ?c ?k
   (case a=>k_is);(case l=>k_is);(case c=>k_is);(case k=>k_is)
  case h33 =>
   refine' K80.has_mk ?a ?l ?c ?k
   (case a=>k_is);(case l=>k_is);(case c=>k_is);(case k=>k_is)
  case h34 =>
   refine' K80.has_mk ?a ?l ?c ?k
   (case a=>k_is);(case l=>k_is);(case c=>k_is);(case k=>k_is)
  case h35 =>
   refine' K80.has_mk ?a ?l ?c ?k
   (case a=>k_is);(case l=>k_is);(case c=>k_is);(case k=>k_is)
  case h36 =>
   refine' K80.has_mk ?a ?l ?c ?k
   (case a=>k_is);(case l=>k_is);(case c=>k_is);(case k=>k_is)
  case h37 =>
   refine' K80.has_mk ?a ?l ?c ?k
   (case a=>k_is);(case l=>k_is);(case c=>k_is);(case k=>k_is)
  case h38 =>
   refine' K80.has_mk ?a ?l ?c ?k
   (case a=>k_is);(case l=>k_is);(case c=>k_is);(case k=>k_is)
  case h39 =>
   refine' K80.has_mk ?a ?l ?c ?k
   (case a=>k_is);(case l=>k_is);(case c=>k_is);(case k=>k_is)
  case h40 =>
   refine' K80.has_mk ?a ?l ?c ?k
   (case a=>k_is);(case l=>k_is);(case c=>k_is);(case k=>k_is)
  case h41 =>
   refine' K80.has_mk ?a ?l ?c ?k
   (case a=>k_is);(case l=>k_is);(case c=>k_is);(case k=>k_is)
  case h42 =>
   refine' K80.has_mk ?a ?l ?c ?k
   (case a=>k_is);(case l=>k_is);(case c=>k_is);(case k=>k_is)
  case h43 =>
   refine' K80.has_mk ?a ?l ?c ?k
   (case a=>k_is);(case l=>k_is);(case c=>k_is);(case k=>k_is)
  case h48 =>
   refine' K80.has_mk ?a ?l ?c ?k
   (case a=>k_is);(case l=>k_is);(case c=>k_is);(case k=>k_is)
  case h49 =>
   refine' K80.has_mk ?a ?l ?c ?k
   (case a=>k_is);(case l=>k_is);(case c=>k_is);(case k=>k_is)
  case h50 =>
   refine' K80.has_mk ?a ?l ?c ?k
   (case a=>k_is);(case l=>k_is);(case c=>k_is);(case k=>k_is)
  case h51 =>
   refine' K80.has_mk ?a ?l ?c ?k
   (case a=>k_is);(case l=>k_is);(case c=>k_is);(case k=>k_is)
  case h52 =>
   refine' K80.has_mk ?a ?l ?c ?k
   (case a=>k_is);(case l=>k_is);(case c=>k_is);(case k=>k_is)
  case h53 =>
   refine' K80.has_mk ?a ?l ?c ?k
   (case a=>k_is);(case l=>k_is);(case c=>k_is);(case k=>k_is)
  case h54 =>
   refine' K80.has_mk ?a ?l ?c ?k
   (case a=>k_is);(case l=>k_is);(case c=>k_is);(case k=>k_is)
  case h56 =>
   refine' K80.has_mk ?a ?l ?c ?k
   (case a=>k_is);(case l=>k_is);(case c=>k_is);(case k=>k_is)
  case h57 =>
   refine' K80.has_mk ?a ?l ?c ?k
   (case a=>k_is);(case l=>k_is);(case c=>k_is);(case k=>k_is)
  case h58 =>
   refine' K80.has_mk ?a ?l ?c ?k
   (case a=>k_is);(case l=>k_is);(case c=>k_is);(case k=>k_is)
  case h59 =>
   refine' K80.has_mk ?a ?l ?c ?k
   (case a=>k_is);(case l=>k_is);(case c=>k_is);(case k=>k_is)
  case h63 =>
   refine' K80.has_mk ?a ?l ?c ?k
   (case a=>k_is);(case l=>k_is);(case c=>k_is);(case k=>k_is)
  case h64 =>
   refine' K80.has_mk ?a ?l ?c ?k
   (case a=>k_is);(case l=>k_is);(case c=>k_is);(case k=>k_is)
  case h65 =>
   refine' K80.has_mk ?a ?l ?c ?k
   (case a=>k_is);(case l=>k_is);(case c=>k_is);(case k=>k_is)
  case h66 =>
   refine' K80.has_mk ?a ?l ?c ?k
   (case a=>k_is);(case l=>k_is);(case c=>k_is);(case k=>k_is)
  case h67 =>
   refine' K80.has_mk ?a ?l ?c ?k
   (case a=>k_is);(case l=>k_is);(case c=>k_is);(case k=>k_is)
  case h60 =>
   refine' K80.has_mk ?a ?l ?c ?k
   (case a=>k_is);(case l=>k_is);(case c=>k_is);(case k=>k_is)
  case h61 =>
   refine' K80.has_mk ?a ?l ?c ?k
   (case a=>k_is);(case l=>k_is);(case c=>k_is);(case k=>k_is)
  case h68 =>
   refine' K80.has_mk ?a ?l ?c ?k
   (case a=>k_is);(case l=>k_is);(case c=>k_is);(case k=>k_is)
  case h69 =>
   refine' K80.has_mk ?a ?l ?c ?k
   (case a=>k_is);(case l=>k_is);(case c=>k_is);(case k=>k_is)
  case h70 =>
   refine' K80.has_mk ?a ?l ?c ?k
   (case a=>k_is);(case l=>k_is);(case c=>k_is);(case k=>k_is)
  case h71 =>
   refine' K80.has_mk ?a ?l ?c ?k
   (case a=>k_is);(case l=>k_is);(case c=>k_is);(case k=>k_is)
  case h72 =>
   refine' K80.has_mk ?a ?l ?c ?k
   (case a=>k_is);(case l=>k_is);(case c=>k_is);(case k=>k_is)
  case h73 =>
   refine' K80.has_mk ?a ?l ?c ?k
   (case a=>k_is);(case l=>k_is);(case c=>k_is);(case k=>k_is)
  case h74 =>
   refine' K80.has_mk ?a ?l ?c ?k
   (case a=>k_is);(case l=>k_is);(case c=>k_is);(case k=>k_is)
  case h75 =>
   refine' K80.has_mk ?a ?l ?c ?k
   (case a=>k_is);(case l=>k_is);(case c=>k_is);(case k=>k_is)
  case h76 =>
   refine' K80.has_mk ?a ?l ?c ?k
   (case a=>k_is);(case l=>k_is);(case c=>k_is);(case k=>k_is)
  (case aL=>k_is);(case lL=>k_is);(case cL=>k_is);(case kL=>k_is)
  (case n0=>k_is)
  (case n1=>k_is)
  (case n2=>k_is)
  (case n3=>k_is)
  (case n4=>k_is)
  (case n5=>k_is)
  (case n6=>k_is)
  (case n7=>k_is)
  (case n8=>k_is)
  (case n9=>k_is)
  (case n10=>k_is)
  (case n11=>k_is)
  (case z0=>k_is)
  (case z1=>k_is)
  (case z2=>k_is)
  (case z3=>k_is)
  (case z4=>k_is)
  (case z5=>k_is)
  (case z6=>k_is)
  (case z7=>k_is)
  (case z8=>k_is)
  (case z9=>k_is)
  (case z10=>k_is)
  (case z11=>k_is)
  (case z12=>k_is)
  (case z13=>k_is)
  (case z14=>k_is)
  (case k0=>k_is)
  (case k1=>k_is)
  (case k2=>k_is)
  (case k3=>k_is)
  (case k4=>k_is)
  (case k5=>k_is)
  (case k6=>k_is)
  (case k7=>k_is)
  (case k8=>k_is)
  (case k9=>k_is)
  (case k10=>k_is)
  (case k11=>k_is)
  (case k12=>k_is)
  (case k13=>k_is)
  (case k14=>k_is)
  (case k15=>k_is)
  (case k16=>k_is)
  (case k17=>k_is)
  (case e3=>kernel_rfl);(case d3=>kernel_rfl)
  (case e14=>kernel_rfl);(case d14=>kernel_rfl)
  case tb =>
   refine' K80.tab_mk ?a ?l ?c ?m ?v
   (case a=>k_is);(case l=>k_is);(case c=>exact rfl);(case m=>k_is);(case v=>exact rfl)
  case tb2 =>
   refine' K80.tab_mk ?a ?l ?c ?m ?v
   (case a=>k_is);(case l=>k_is);(case c=>exact rfl);(case m=>k_is);(case v=>exact rfl)
  case n12=>decide
