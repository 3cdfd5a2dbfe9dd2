import PyProof.Rows.All
import Wide.All
import OpenK.AllK
import Wide.FinOn
import Lean
import PyProof.EqAt
import PyProof.EqKinds
import PyProof.TupleCall
import PyProof.StrLawsRepr
import PyProof.ZipIter
import PySem.Challenge.RW_woolyears_k22_whole_each_sack_goes_where
import PyProof.Rows.SortRunsK
import PyProof.AttrMissHeap
import PyProof.SeqRoads
import PyProof.ListOps
import KE.KDictList
import PyProof.Rows.SortWalk
import PyProof.DictUpdate
import PyProof.DictWalks
import KE.KItemsList
import PyProof.ListNew
import KE.KDictOf
import PyProof.ListRange
set_option compiler.extract_closed false
set_option Elab.async false
set_option linter.all false
set_option maxRecDepth 100000
set_option maxHeartbeats 4000000
noncomputable section
theorem Zz{p:Prop}(h:p:=by lia):p:=h
theorem Zy{p:Prop}(h:p:=by simp):p:=h
theorem Zx{p:Prop}(h:p:=by decide):p:=h
theorem Zv{p:Prop}(h:p:=by decide +kernel):p:=h
theorem Zu{p:Prop}(h:p:=by rw[sizeLine_eq];lia):p:=h
def Zq:=@decide_eq_true_eq
open PySem.W (Frag)
def zAt:=@decide_eq_true
def zAu:=@PySem.wpAny_bind
def zAv:=@if_neg
def zAw:=@PySem.W.mg_none_of
def zAx:=@if_pos
def zAy:=@PySem.Heap.get?_push_of_some
def zAz:=@PySem.Heap.lt_size
def zB0:=@PySem.wpAny_pure
def zB1:=@PySem.Heap.get?_push_size
def zB2:=@of_decide_eq_true
def zB3:=@Nat.ne_of_lt
def zB4:=@PySem.PassesOwn.never
def zB5:=@Nat.lt_of_lt_of_le
def zB6:=@decide_eq_false
def zB7:=@List.filter_cons_of_pos
def zB8:=@List.filter_cons_of_neg
def zB9:=@List.mem_of_getElem?
def zBa:=@List.take_append_drop
def zBb:=@List.getElem?_append_left
def zBc:=@List.mem_append_right
def zBd:=@List.getElem?_append_right
def zBe:=@PySem.F.type_list_append
def zBf:=@PySem.F.slot_list_append
def zBg:=@PySem.F.plainAttrs_list
def zA0:=@List.getElem?_eq_getElem
def zA1:=@List.length_map
def zA2:=@List.length_append
def zA3:=@Nat.le_refl
def zA4:=@List.map_append
def zA5:=@List.mem_map
def zA6:=@List.mem_append
def zA7:=@List.getD_eq_getElem?_getD
def zA8:=@List.size_toArray
def zA9:=@Array.length_toList
def zAa:=@List.getElem?_eq_some_iff
def zAb:=@List.getElem?_map
def zAc:=@Bool.and_eq_true
def zAd:=@List.length_take
def zAe:=@List.length_cons
def zAf:=@List.append_assoc
def zAg:=@Bool.false_ne_true
def zAh:=@List.getElem_mem
def zAi:=@Int.toNat_natCast
def zAj:=@List.take_add_one
def zAk:=@List.map_cons
def zAl:=@Option.some.inj
def zAm:=@List.take_length
def zAn:=@List.append_nil
def zAo:=@List.mem_cons
def zAp:=@Nat.zero_le
def zAq:=@List.mem_filter
def zAr:=@List.map_map
def zAs:=@List.length_zip
namespace L2
open PySem PySem.Spec PyProof.Rows
abbrev Key:=Sum Int Str
def km:Key->Value->Bool
 |.inl k,v=>Value.isInt k v
 |.inr x,v=>Value.isStrOf x v
def Ib(w:World):Key->Int
 |.inl k=>hashInt k
 |.inr x=>hashStr w x
theorem bM:∀{k:Key} {v:Value},km k v=true->(∃i t,k=Sum.inl i/\v=Value.int i t)\/(∃x t,k=Sum.inr x/\v=Value.str x t)
 |.inl i,v,h=>by
  obtain⟨t,e⟩:=Value.isInt_shape (k:=i) (v:=v) h;exact .inl ⟨i,t,rfl,e⟩
 |.inr x,v,h=>by
  obtain⟨t,e⟩:=Value.isStrOf_shape (x:=x) (v:=v) h;exact .inr ⟨x,t,rfl,e⟩
theorem wC(i:Int)(t:Tok):km (.inl i) (.int i t)=true:=by simp[km,Value.isInt]
theorem wF(x:Str)(t:Tok):km (.inr x) (.str x t)=true:=by simp[km,Value.isStrOf]
theorem DX(a b:Int):decide ((Sum.inl a:Key)=Sum.inl b)=(a==b):=by
 by_cases e:a=b
 .subst e;simp
 .have h:¬(Sum.inl a:Key)=Sum.inl b:=fun q=>e (Sum.inl.inj q);rw[zB6 h];exact(beq_eq_false_iff_ne.mpr e).symm
theorem DY(a b:Str):decide ((Sum.inr a:Key)=Sum.inr b)=decide (a=b):=by
 by_cases e:a=b
 .subst e;simp
 .have h:¬(Sum.inr a:Key)=Sum.inr b:=fun q=>e (Sum.inr.inj q);rw[zB6 h,zB6 e]
theorem Ea(a:Int)(b:Str):decide ((Sum.inl a:Key)=Sum.inr b)=false:=zB6 (fun q=>nomatch q)
theorem Eb(a:Str)(b:Int):decide ((Sum.inr a:Key)=Sum.inl b)=false:=zB6 (fun q=>nomatch q)
def bL(prog:Program)(w:World):PySem.KeyKind prog w Key where
 is:=km
 hash:=Ib w
 inj:=fun v a b ha hb=>by
  rcases bM ha with⟨i,t,rfl,rfl⟩|⟨x,t,rfl,rfl⟩
  .rcases bM hb with⟨j,u,rfl,e⟩|⟨y,u,rfl,e⟩
   .injection e with e1 _;rw[e1]
   .exact nomatch e
  .rcases bM hb with⟨j,u,rfl,e⟩|⟨y,u,rfl,e⟩
   .exact nomatch e
   .injection e with e1 _;rw[e1]
 byValue:=fun k v h=>by
  rcases bM h with⟨i,t,rfl,rfl⟩|⟨x,t,rfl,rfl⟩<;>rfl
 pyHash:=fun hv h=>by
  rcases bM hv with⟨i,t,rfl,rfl⟩|⟨x,t,rfl,rfl⟩
  .exact wpAny_pyHash_int h
  .exact wpAny_pyHash_str h
 eqBool:=fun hu hv h=>by
  rcases bM hu with⟨i,t,rfl,rfl⟩|⟨x,t,rfl,rfl⟩
  .rcases bM hv with⟨j,u,rfl,rfl⟩|⟨y,u,rfl,rfl⟩
   .rw[DX]at h;exact wpAny_eqBool_int h
   .rw[Ea]at h;exact SeqAt.EqAt.int_str i t y u _ _ _ _ h
  .rcases bM hv with⟨j,u,rfl,rfl⟩|⟨y,u,rfl,rfl⟩
   .rw[Eb]at h;exact SeqAt.EqAt.str_int x t j u _ _ _ _ h
   .rw[DY]at h;exact wpAny_eqBool_str h
 «strs»:=fun k x t v h=>by
  rcases bM h with⟨i,u,rfl,e⟩|⟨y,u,rfl,e⟩
  .exact nomatch e
  .injection e with e1 _;subst e1;cases v<;>rfl
theorem qO(prog:Program)(w:World)(i:Int)(t:Tok):(bL prog w).is (.inl i) (.int i t)=true:=wC i t
theorem qP(prog:Program)(w:World)(x:Str)(t:Tok):(bL prog w).is (.inr x) (.str x t)=true:=wF x t
inductive V where
 |non|bl (b:Bool)|int (i:Int)|str (x:Str)|byt (b:Array UInt8)|flt (b:UInt64)|ref (a:Addr)|ty (n:String)
 deriving DecidableEq
def RelV:V->Value->Prop
 |.non,u=>u=Value.none
 |.bl b,u=>u=Value.bool b
 |.int i,u=>∃t,u=Value.int i t
 |.str x,u=>∃t,u=Value.str x t
 |.byt b,u=>∃t,u=Value.bytes b t
 |.flt b,u=>∃t,u=Value.float b t
 |.ref a,u=>u=Value.ref a
 |.ty n,u=>u=Value.type n
abbrev Vals:List V->List Value->Prop:=Paired RelV
theorem Vals.length{xs:List V}{us:List Value}(r:Vals xs us):xs.length=us.length:=Paired.length r
theorem Vals.get:∀{xs:List V} {us:List Value} {i:Nat} {x:V},Vals xs us->xs[i]?=some x->∃u,us[i]?=some u/\RelV x u
 |_,_,_,_,.nil,e=>by simp at e
 |_,_,0,_,.cons r _,e=>by simp at e;subst e;exact⟨_,rfl,r⟩
 |_,_,i+1,x,.cons _ t,e=>by
  obtain⟨u,h1,h2⟩:=Vals.get (i:=i) (x:=x) t (by simpa using e);exact⟨u,by simpa using h1,h2⟩
theorem Vals.set{x:V}{u:Value}(r:RelV x u):∀{xs:List V} {us:List Value} (i:Nat),Vals xs us->Vals (xs.set i x) (us.set i u)
 |_,_,_,.nil=>.nil
 |_,_,0,.cons _ t=>.cons r t
 |_,_,i+1,.cons q t=>.cons q (Vals.set r i t)
theorem Vals.append:∀{xs ys:List V} {us ws:List Value},Vals xs us->Vals ys ws->Vals (xs++ys) (us++ws)
 |_,_,_,_,.nil,s=>s
 |_,_,_,_,.cons r t,s=>.cons r (Vals.append t s)
theorem Vals.take:∀{xs:List V} {us:List Value} (n:Nat),Vals xs us->Vals (xs.take n) (us.take n)
 |_,_,0,_=>.nil
 |_,_,_+1,.nil=>.nil
 |_,_,n+1,.cons r t=>.cons r (Vals.take n t)
theorem Vals.drop:∀{xs:List V} {us:List Value} (n:Nat),Vals xs us->Vals (xs.drop n) (us.drop n)
 |_,_,0,r=>r
 |_,_,_+1,.nil=>.nil
 |_,_,n+1,.cons _ t=>Vals.drop n t
def RelO:Option V->Option Value->Prop
 |some v,some u=>RelV v u
 |none,none=>True
 |_,_=>False
def KV{κ:Type}:List (κ×V)->List (κ×Value)->Prop:=Paired fun(p:κ×V) (q:κ×Value)=>p.1=q.1/\RelV p.2 q.2
def kV:Key->V
 |.inl i=>.int i
 |.inr x=>.str x
inductive HO where
  |lst (xs:List V)
  |tup (xs:List V)
  |dK (kvs:List (Key×V))|dT (kvs:List (List Key×V))
  |set (S:Int->Bool) (n:Nat)
  |ins (C dx:Addr) (fs:List (Str×V))
  |own (x:Addr)
  |xd (fs:List (Str×V))
  |met (f x:Addr)
  |rng (lo hi:Int)
  |frz (o:Obj) (u:HO)
  |tbl (ps:Array Value)
  |ext (φ:Heap->Prop)
abbrev Hp:=Addr->Option HO
def upd(H:Hp)(a:Addr)(o:HO):Hp:=fun b=>if b=a then some o else H b
theorem ao{H:Hp}{a:Addr}{o:HO}:upd H a o a=some o:=by unfold upd;rw[zAx rfl]
theorem aF{H:Hp}{a b:Addr}{o:HO}(h:b≠a):upd H a o b=H b:=by unfold upd;rw[zAv h]
theorem FZ{H:Hp}{a b:Addr}{o u:HO}(h:H a=some o)(h':H b=some u)(d:o≠u):a≠b:=by
 intro e;subst e;rw[h]at h';exact d (zAl h')
theorem aH{H:Hp}{a b:Addr}{o:HO}(h:H a=some o)(h':H b=none):a≠b:=by
 intro e;subst e;rw[h]at h';cases h'
section
variable(P:Program)(w:World)
def ObjOk(H:Hp)(h:Heap)(a:Addr):HO->Prop
 |.lst xs=>xs.length<=sizeLine/\∃(Zs:List Value) (n:Nat),Vals xs Zs/\h.get? a=some {cls:=.type "list",data:=.seq Zs.toArray n}
 |.tup xs=>xs.length<=sizeLine/\∃Zs:List Value,Vals xs Zs/\IsTup h a Zs.toArray
 |.dK kvs=>kvs.length<=sizeLine/\(a==sysModules)=false/\∃vs,KV kvs vs/\h.DictOf (bL P w) a vs
 |.dT kvs=>kvs.length<=sizeLine/\(a==sysModules)=false/\∃xs:List (List Key×Addr×Value),
   Paired (fun(p:List Key×V) (q:List Key×Addr×Value)=>p.1=q.1/\H q.2.1=some (.tup (p.1.map kV))/\RelV p.2 q.2.2) kvs xs /\
   ∃o es ep,h.get? a=some o/\o.ExactDict/\o.data=.dict es ep/\es.toList=xs.map (entryOfKey (tupleKind (bL P w)))/\(xs.map (·.1)).Nodup
 |.set S n=>h.SetOf (intKind P w) a S n
 |.ins C dx fs=>H dx=some (.own a)/\fs.length<=1000/\dx≠a/\h.get? a=some (PySem.W.instObj C dx) /\
   ∃mA,h.Ns1 dx mA/\(∀f,RelO (fs.lookup f) (mA f))/\PySem.Within mA (fs.map (·.1))
 |.own _=>∃o,h.get? a=some o
 |.xd fs=>∃mA,h.Ns1 a mA/\∀f,RelO (fs.lookup f) (mA f)
 |.rng lo hi=>∃t u v,h.get? a=some {cls:=.type "range",data:=.fields #[.int lo t,.int hi u,.int 1 v]}
 |.frz o u=>h.get? a=some o/\ObjOk H h a u
 |.tbl ps=>h.get? a=some {cls:=.none,data:=.fields ps}
 |.met f x=>h.get? a=some (PySem.W.methodObj (.ref f) (.ref x))
 |.ext φ=>φ h/\(∃o,h.get? a=some o)/\∀h1 h2:Heap,φ h1->(∀o,h1.get? a=some o->h2.get? a=some o)->φ h2
def HOk(H:Hp)(h:Heap):Prop:=∀a o,H a=some o->ObjOk P w H h a o
end
section
variable{P:Program}{w:World}{H H':Hp}{h h':Heap}{a:Addr}{o:HO}
theorem ObjOk.lt(x:ObjOk P w H h a o):a<h.objs.size:=by
 cases o with
 |lst xs=>obtain⟨_,_,_,_,e⟩:=x;exact zAz e
 |tup xs=>obtain⟨_,_,_,p⟩:=x;exact p.lt
 |dK kvs=>obtain⟨_,_,_,_,o,_,_,e,_⟩:=x;exact zAz e
 |dT kvs=>obtain⟨_,_,_,_,o,_,_,e,_⟩:=x;exact zAz e
 |set S n=>obtain⟨o,_,_,_,e,_⟩:=x;exact zAz e
 |ins C dx fs=>obtain⟨_,_,_,e,_⟩:=x;exact zAz e
 |own y=>obtain⟨_,e⟩:=x;exact zAz e
 |xd fs=>obtain⟨_,⟨_,_,_,e,_⟩,_⟩:=x;exact zAz e
 |rng lo hi=>obtain⟨_,_,_,e⟩:=x;exact zAz e
 |frz ob u=>obtain⟨e,_⟩:=x;exact zAz e
 |tbl ps=>exact zAz (show h.get? a=some _ from x)
 |met f y=>exact zAz (show h.get? a=some _ from x)
 |ext φ=>obtain⟨_,⟨_,e⟩,_⟩:=x;exact zAz e
theorem Paired.mapP{α β:Type}{F G:α->β->Prop}:∀{uu:List α} {uS:List β},Paired F uu uS->(∀a b,F a b->G a b)->Paired G uu uS
 |_,_,.nil,_=>.nil
 |_,_,.cons r t,f=>.cons (f _ _ r) (Paired.mapP t f)
theorem ObjOk.stay(x:ObjOk P w H h a o)(k:∀b u,(b=a\/H b=some (.own a))->h.get? b=some u->h'.get? b=some u)
  (ho:∀b,H b=some (.own a)->H' b=some (.own a)) (ht:∀b xs,H b=some (.tup xs)->H' b=some (.tup xs)):ObjOk P w H' h' a o:=by
 induction o with
 |lst xs=>obtain⟨z,Zs,n,r,e⟩:=x;exact⟨z,Zs,n,r,k _ _ (.inl rfl) e⟩
 |tup xs=>obtain⟨z,Zs,r,ob,e,c⟩:=x;exact⟨z,Zs,r,ob,k _ _ (.inl rfl) e,c⟩
 |dK kvs=>obtain⟨z,y,vs,r,ob,es,ep,e,c⟩:=x;exact⟨z,y,vs,r,ob,es,ep,k _ _ (.inl rfl) e,c⟩
 |dT kvs=>
  obtain⟨z,y,xs,r,ob,es,ep,e,c⟩:=x;exact⟨z,y,xs,Paired.mapP r fun p q z=>⟨z.1,ht _ _ z.2.1,z.2.2⟩,ob,es,ep,k _ _ (.inl rfl) e,c⟩
 |set S n=>obtain⟨ob,es,ep,t,e,c⟩:=x;exact⟨ob,es,ep,t,k _ _ (.inl rfl) e,c⟩
 |ins C dx fs=>
  obtain⟨d,z,ne,e,mA,⟨od,es,ep,e2,c⟩,r⟩:=x;exact⟨ho _ d,z,ne,k _ _ (.inl rfl) e,mA,⟨od,es,ep,k _ _ (.inr d) e2,c⟩,r⟩
 |own y=>obtain⟨ob,e⟩:=x;exact⟨ob,k _ _ (.inl rfl) e⟩
 |xd fs=>obtain⟨mA,⟨od,es,ep,e,c⟩,r⟩:=x;exact⟨mA,⟨od,es,ep,k _ _ (.inl rfl) e,c⟩,r⟩
 |rng lo hi=>obtain⟨t,u,v,e⟩:=x;exact⟨t,u,v,k _ _ (.inl rfl) e⟩
 |frz ob u ih=>obtain⟨e,q⟩:=x;exact⟨k _ _ (.inl rfl) e,ih q⟩
 |tbl ps=>
  have e:h.get? a=some {cls:=.none,data:=.fields ps}:=x;show h'.get? a=some {cls:=.none,data:=.fields ps};exact k a _ (.inl rfl) e
 |met f y=>
  have e:h.get? a=some (PySem.W.methodObj (.ref f) (.ref y)):=x;show h'.get? a=some (PySem.W.methodObj (.ref f) (.ref y));exact k a _ (.inl rfl) e
 |ext φ=>obtain⟨p,⟨o,e⟩,st⟩:=x;exact⟨st _ _ p fun o q=>k _ _ (.inl rfl) q,⟨o,k _ _ (.inl rfl) e⟩,st⟩
theorem HOk.lt(x:HOk P w H h)(e:H a=some o):a<h.objs.size:=(x a o e).lt
theorem HOk.fresh(x:HOk P w H h)(e:h.objs.size<=a):H a=none:=by
 cases q:H a with
 |none=>rfl
 |some u=>exact absurd (zB5 (x.lt q) e) (Nat.lt_irrefl _)
theorem HOk.kept(x:HOk P w H h)(k:∀b u,h.get? b=some u->h'.get? b=some u):HOk P w H h':=fun a o e=>
 (x a o e).stay (fun b u _ q=>k b u q) (fun _ q=>q) fun _ _ q=>q
theorem HOk.laid(x:HOk P w H h)(k:∀b u,h.get? b=some u->h'.get? b=some u)(hp:h.objs.size<=a)(new:ObjOk P w (upd H a o) h' a o):HOk P w (upd H a o) h':=fun b u e=>by
 have hn:=x.fresh hp;by_cases hb:b=a
 .subst hb;rw[ao]at e;cases e;exact new
 .rw[aF hb]at e
  exact(x b u e).stay (fun c v _ q=>k c v q) (fun c q=>by rw[aF (aH q hn)];exact q) fun c xs q=>by rw[aF (aH q hn)];exact q
end
def Rd(H:Hp)(a:Addr)(u:HO):Prop:=H a=some u\/∃o,H a=some (.frz o u)
theorem Rd.ok{P:Program}{w:World}{H:Hp}{h:Heap}{a:Addr}{u:HO}(r:Rd H a u)(x:HOk P w H h):ObjOk P w H h a u:=by
 rcases r with r|⟨o,r⟩
 .exact x a u r
 .obtain⟨_,q⟩:=x a _ r;exact q
def Mut:Option HO->Prop
 |some (.lst _)=>True
 |some (.dK _)=>True
 |some (.dT _)=>True
 |some (.set _ _)=>True
 |some (.ins _ _ _)=>True
 |some (.ext _)=>True
 |_=>False
section
variable{P:Program}{w:World}{H:Hp}{h h':Heap}{x e:Addr}{o':HO}
theorem HOk.write(ok:HOk P w H h)(mu:Mut (H x))(he:e=x\/H e=some (.own x))(k:∀b u,b≠e->h.get? b=some u->h'.get? b=some u)(sP:∃u,h'.get? e=some u)
  (new:ObjOk P w (upd H x o') h' x o'):HOk P w (upd H x o') h':=fun b u q=>by
 have u7:∀c y,H c=some (.own y)->c≠x:=fun c y r z=>by subst z;rw[r]at mu;exact mu
 have BM:∀c xs,H c=some (.tup xs)->c≠x:=fun c xs r z=>by subst z;rw[r]at mu;exact mu
 by_cases hb:b=x
 .subst hb;rw[ao]at q;cases q;exact new
 .rw[aF hb]at q;by_cases oQ:b=e
  .have q':H b=some (.own x):=by
    rcases he with z|z
    .exact absurd (oQ.trans z) hb
    .rw[oQ];exact z
   rw[q]at q';cases q';obtain⟨v,hv⟩:=sP;exact⟨v,by rw[oQ];exact hv⟩
  .refine(ok b u q).stay (fun c v hc r=>k c v ?_ r) (fun c r=>by rw[aF (u7 c b r)];exact r) fun c xs r=>by rw[aF (BM c xs r)];exact r
   rcases hc with rfl|hc
   .exact oQ
   .rintro rfl;rcases he with z|z
    .exact u7 c b hc z
    .rw[hc]at z;cases z;exact hb rfl
end
structure Un(fs ex:List Addr)(H H':Hp)(h h':Heap):Prop where
 keep:∀b o,h.get? b=some o->H b=none->b∉fs->b∉ex->h'.get? b=some o
 slot:∀b o,h.get? b=some o->H b=none->b∈fs->b∉ex->∃sl,h'.get? b=some {o with slots:=sl}
 free:∀b o,h.get? b=some o->H b=none->b∉ex->H' b=none
 there:∀b o,h.get? b=some o->b∉ex->∃o',h'.get? b=some o'
 tups:∀b xs,H b=some (.tup xs)->H' b=some (.tup xs)
 frzs:∀b o u,H b=some (.frz o u)->H' b=some (.frz o u)
 tbls:∀b ps,H b=some (.tbl ps)->∃more,H' b=some (.tbl (ps++more))
section
variable{fs KG ex Qm:List Addr}{H H1 H2:Hp}{h h1 h2 h':Heap}{a x e:Addr}{o:HO}
theorem Un.any(u:Un fs ex H H1 h h1){b:Addr}{ob:Obj}(q:h.get? b=some ob)(n:H b=none)(hx:b∉ex):∃sl,h1.get? b=some {ob with slots:=sl}:=by
 by_cases hb:b∈fs
 .exact u.slot b ob q n hb hx
 .exact⟨ob.slots,u.keep b ob q n hb hx⟩
theorem Un.kept(k:∀b u,h.get? b=some u->h'.get? b=some u):Un fs ex H H h h':=
 ⟨fun b ob q _ _ _=>k b ob q,fun b ob q _ _ _=>⟨ob.slots,k b ob q⟩,fun _ _ _ n _=>n,fun b ob q _=>⟨ob,k b ob q⟩,fun _ _ q=>q,fun _ _ _ q=>q,fun _ ps q=>⟨#[],by rw[q];simp⟩⟩
theorem Un.refl:Un fs ex H H h h:=Un.kept fun _ _ q=>q
theorem Un.laid(k:∀b u,h.get? b=some u->h'.get? b=some u)(hp:h.objs.size<=a)(hn:H a=none):Un fs ex H (upd H a o) h h' where
 keep:=fun b u q _ _ _=>k b u q
 slot:=fun b u q _ _ _=>⟨u.slots,k b u q⟩
 free:=fun b u q n _=>by rw[aF (zB3 (zB5 (zAz q) hp))];exact n
 there:=fun b u q _=>⟨u,k b u q⟩
 tups:=fun b xs q=>by rw[aF (aH q hn)];exact q
 frzs:=fun b u xs q=>by rw[aF (aH q hn)];exact q
 tbls:=fun b ps q=>⟨#[],by rw[aF (aH q hn),q];simp⟩
theorem Un.write(mu:Mut (H x))(he:e=x\/H e=some (.own x))(k:∀b u,b≠e->h.get? b=some u->h'.get? b=some u)(sP:∃u,h'.get? e=some u):Un fs ex H (upd H x o) h h':=by
 have hx:∀b,H b=none->b≠x:=fun b n z=>by subst z;rw[n]at mu;exact mu
 have hb:∀b,H b=none->b≠e:=fun b n z=>by
  subst z;rcases he with r|r
  .exact hx b n r
  .rw[n]at r;cases r
 have hm:∀b u,H b=some u->¬Mut (some u)->b≠x:=fun b u q nm z=>by subst z;rw[q]at mu;exact nm mu
 refine⟨fun b u q n _ _=>k b u (hb b n) q,fun b u q n _ _=>⟨u.slots,k b u (hb b n) q⟩,fun b u q n _=>by rw[aF (hx b n)];exact n,fun b u q _=>?_,
  fun b xs q=>by rw[aF (hm b _ q fun z=>z)];exact q,fun b u xs q=>by rw[aF (hm b _ q fun z=>z)];exact q,fun b ps q=>⟨#[],by rw[aF (hm b _ q fun z=>z),q];simp⟩⟩
 by_cases oQ:b=e
 .subst oQ;exact sP
 .exact⟨u,k b u oQ q⟩
end
def trk(h:Heap)(H:Hp):List Addr:=(List.range h.objs.size).filter fun a=>(H a).isSome
def oX(h:Heap)(H:Hp):Heap:=PySem.W.hideAll h (trk h H)
theorem wG(h:Heap)(H:Hp):(oX h H).objs.size=h.objs.size:=PySem.W.hideAll_size _ _
theorem ye{h:Heap}{H:Hp}{b:Addr}{o:Obj}(e:h.get? b=some o)(n:H b=none):(oX h H).get? b=some o:=
 PySem.W.hideAll_get _ e fun hm=>by
  have q:(H b).isSome=true:=(zAq.mp hm).2;rw[n]at q;simp at q
theorem Av{h:Heap}{H:Hp}{b:Addr}{o:Obj}(e:(oX h H).get? b=some o):h.get? b=some o/\H b=none:=by
 have e':h.get? b=some o:=PySem.W.of_hideAll (trk h H) e;refine⟨e',?_⟩
 cases q:H b with
 |none=>rfl
 |some x=>
  have hm:b∈trk h H:=List.mem_filter.mpr ⟨List.mem_range.mpr (Heap.lt_size e'),by simp[q]⟩;have z:(oX h H).get? b=none:=PySem.W.hideAll_none (trk h H) hm;rw[z]at e;cases e
structure Mod(K:Frag)(mg:Str->Option Value)(base:Heap):Prop where
 kin:K.In base
 glob:base.Ns mainGlobals mg
 blt:∃mb,base.Ns builtinsNs mb/\∀x:Str,x≠"__name__"->mb x=bootBuiltins x
 nolimit:base.NoLimit
structure Cx where
 prog:Program
 w:World
 K:Frag
 mg:Str->Option Value
 base:Heap
 A:Around
 N:List Str
 s₀:Shared
 H₀:Hp
 env:Env
 outer:List Env
 stack:List Env
 ex:List Addr
 fn:Str->Bool
 calm:Bool
 pn:List (Addr×Obj)
 xe:Value->Shared->Prop
def frs(l:List Env):List Addr:=l.filterMap (·.frame)
abbrev Cx.fs(X:Cx):List Addr:=frs X.outer
def Vis(sc:Scope)(x:Str):Prop:=sc.names.lookup x=some .local\/sc.names.lookup x=some .cell\/sc.names.lookup x=some .free
def Loc(sc:Scope)(x:Str):Prop:=sc.names.lookup x=some .local\/sc.names.lookup x=some .cell
def Look(env:Env)(h:Heap)(m:Str->Option Value)(x:Str)(u:Value):Prop:=
 (env.kindOf x=some .local/\m x=some u)\/((env.kindOf x=some .cell\/env.kindOf x=some .free)/\∃c,env.cells.lookup x=some c/\h.IsCell c (some u))
structure Cx.Ok(X:Cx):Prop where
 mod:Mod X.K X.mg X.base
 kind:X.env.scope.kind=.function
 glob:X.env.globals=mainGlobals
 blt:X.env.builtins=builtinsNs
 above:X.s₀.heap.objs.size<=X.env.locals
 inj:∀x y c,X.env.cells.lookup x=some c->X.env.cells.lookup y=some c->x=y
 has:∀x,(X.env.kindOf x=some .cell\/X.env.kindOf x=some .free)->∃c,X.env.cells.lookup x=some c
 cab:∀x c,X.fn x=true->X.env.cells.lookup x=some c->X.s₀.heap.objs.size<=c
 hd:X.calm=true->X.A.handled=none
 frames:X.A.frames=some X.stack
 stk:X.stack=X.outer\/(X.stack=X.env::X.outer/\X.env.frame=some X.env.locals)
 exf:∀b∈X.ex,b≠X.env.locals/\∀x c,X.env.cells.lookup x=some c->c≠b
 bs:∀b o,X.base.get? b=some o->X.s₀.heap.get? b=some o/\X.H₀ b=none
 bsz:X.base.objs.size<=X.s₀.heap.objs.size
 noex:∀b o,X.base.get? b=some o->b∉X.ex
 exfs:∀b∈X.ex,b∉X.fs
 funs:X.s₀.heap.FunFrames X.base X.outer
 frf:∀b∈X.fs,X.H₀ b=none
structure Inv(X:Cx)(Zt:List (Addr×Obj))(σ:List (Option V))(H:Hp)(s:Shared):Prop where
 ok:X.Ok
 os:s.os=X.s₀.os
 bare:AllBare s.gens
 base:Un X.fs X.ex X.H₀ H X.s₀.heap s.heap
 loc:∃m,s.heap.Ns X.env.locals m/\∀(i:Nat) (x:Str) (v:V),X.N[i]?=some x->σ[i]?=some (some v)->Vis X.env.scope x->∃u,RelV v u/\Look X.env s.heap m x u
 cell:∀x c,X.env.cells.lookup x=some c->∃v,s.heap.IsCell c v
 free:H X.env.locals=none
 freeC:∀x c,X.env.cells.lookup x=some c->H c=none
 pin:∀p∈X.pn++Zt,s.heap.get? p.1=some p.2/\H p.1=none/\p.1≠X.env.locals/\p.1∉X.fs/\∀v,p.2.data≠.cell v
 hok:HOk X.prog X.w H s.heap
 len:σ.length=X.N.length
section
variable{X:Cx}{Zt:List (Addr×Obj)}{σ:List (Option V)}{H H':Hp}{s:Shared}{h':Heap}
theorem Cx.Ok.nofr(ok:X.Ok){b:Addr}{o:Obj}(e:X.base.get? b=some o):b∉X.fs:=fun hb=>by
 have:=(ok.funs.mem hb).1;rw[e]at this;cases this
theorem Inv.bs(I:Inv X Zt σ H s):∀b o,X.base.get? b=some o->s.heap.get? b=some o/\H b=none:=fun b o e=>
 ⟨I.base.keep b o (I.ok.bs b o e).1 (I.ok.bs b o e).2 (I.ok.nofr e) (I.ok.noex b o e),I.base.free b o (I.ok.bs b o e).1 (I.ok.bs b o e).2 (I.ok.noex b o e)⟩
theorem Inv.bk(I:Inv X Zt σ H s):∀b o,X.base.get? b=some o->s.heap.get? b=some o:=fun b o e=>(I.bs b o e).1
theorem Inv.mod(I:Inv X Zt σ H s):Mod X.K X.mg X.base:=I.ok.mod
theorem Inv.kIn(I:Inv X Zt σ H s):X.K.In s.heap:=I.ok.mod.kin.keeps I.bk
theorem Inv.lt(I:Inv X Zt σ H s):X.env.locals<s.heap.objs.size:=let⟨_,hn,_⟩:=I.loc;hn.lt
theorem Inv.sz(I:Inv X Zt σ H s):X.s₀.heap.objs.size<=s.heap.objs.size:=Nat.le_trans I.ok.above (Nat.le_of_lt I.lt)
theorem Inv.nofs(I:Inv X Zt σ H s){a:Addr}(h:s.heap.objs.size<=a):a∉X.fs:=fun hb=>by
 obtain⟨_,o,ho,_⟩:=I.ok.funs.mem hb;exact absurd (zB5 (zAz ho) (Nat.le_trans I.sz h)) (Nat.lt_irrefl _)
theorem Inv.cne(I:Inv X Zt σ H s):∀x c,X.env.cells.lookup x=some c->c≠X.env.locals:=fun x c e z=>by
 obtain⟨v,o,ho,hd⟩:=I.cell x c e;obtain⟨m,⟨o',es,ep,ip,KH,_⟩,_⟩:=I.loc;rw[z,ip]at ho;cases ho;rw[KH]at hd;cases hd
theorem Inv.funs(I:Inv X Zt σ H s):s.heap.FunFrames X.base X.outer:=by
 have all:∀(l:List Env),(∀b∈frs l,b∈X.fs)->X.s₀.heap.FunFrames X.base l->s.heap.FunFrames X.base l:=by
  intro l
  induction l with
  |nil=>intro _ _;trivial
  |cons env r ih=>
   intro hs hl;obtain⟨hk,⟨L,o,hf,hn,ho,hd⟩,hr⟩:=hl;have hL:L∈X.fs:=hs L (by unfold frs;rw[List.filterMap_cons,hf];exact List.mem_cons_self);obtain⟨sl,e⟩:=I.base.slot L o ho (I.ok.frf L hL) hL fun z=>I.ok.exfs L z hL;exact⟨hk,⟨L,_,hf,hn,e,hd⟩,ih (fun b hb=>hs b (by unfold frs;rw[List.filterMap_cons,hf];exact List.mem_cons_of_mem _ hb)) hr⟩
 exact all X.outer (fun _ hb=>hb) I.ok.funs
theorem Inv.stack(I:Inv X Zt σ H s):s.heap.FunFrames X.base X.stack:=by
 rcases I.ok.stk with e|⟨e,hf⟩
 .rw[e];exact I.funs
 .rw[e];obtain⟨m,hn,_⟩:=I.loc;refine .cons (by rw[I.ok.kind];decide) hf hn ?_ I.funs;exact Heap.get?_none_of_le (Nat.le_trans I.ok.bsz I.ok.above)
theorem Inv.stkSub(I:Inv X Zt σ H s):∀b∈frs X.stack,b∈X.env.locals::X.fs:=fun b hb=>by
 rcases I.ok.stk with e|⟨e,hf⟩
 .rw[e]at hb;exact List.mem_cons_of_mem _ hb
 .rw[e]at hb;unfold frs at hb;rw[List.filterMap_cons,hf]at hb;exact hb
theorem Inv.stkFree(I:Inv X Zt σ H s):∀b∈frs X.stack,H b=none:=fun b hb=>by
 rcases zAo.mp (I.stkSub b hb)with e|hb
 .rw[e];exact I.free
 .obtain⟨_,o,ho,_⟩:=I.ok.funs.mem hb;exact I.base.free b o ho (I.ok.frf b hb) fun z=>I.ok.exfs b z hb
theorem Inv.step{g':Array GenState}{t':Nat}{d':Drawn}{ch:List Addr}(I:Inv X Zt σ H s)
  (kF:∀b∈ch,(b∈X.ex\/X.s₀.heap.objs.size<=b)/\b≠X.env.locals/\(∀x c,X.env.cells.lookup x=some c->c≠b)/\∀p∈X.pn++Zt,p.1≠b)
  (keep:∀b o,b≠X.env.locals->b∉X.fs->b∉ch->s.heap.get? b=some o->H b=none->h'.get? b=some o)
  (slot:∀b o,b≠X.env.locals->b∈X.fs->b∉ch->s.heap.get? b=some o->H b=none->∃sl,h'.get? b=some {o with slots:=sl}) (free:∀b o,b∉ch->s.heap.get? b=some o->H b=none->H' b=none)
  (there:∀b o,b∉ch->s.heap.get? b=some o->∃o',h'.get? b=some o')
  (tups:∀b xs,H b=some (.tup xs)->H' b=some (.tup xs)) (frzs:∀b o u,H b=some (.frz o u)->H' b=some (.frz o u)) (tbls:∀b ps,H b=some (.tbl ps)->∃more,H' b=some (.tbl (ps++more)))
  (ns:∀m,s.heap.Ns X.env.locals m->h'.Ns X.env.locals m) (hok:HOk X.prog X.w H' h') (hg:AllBare g'):
  Inv X Zt σ H' {s with heap:=h',gens:=g',drawn:=d',toks:=t'}:=by
 have HP:∀b o,X.s₀.heap.get? b=some o->b≠X.env.locals:=fun b o e=>zB3 (zB5 (zAz e) I.ok.above)
 have AJ:∀b o,X.s₀.heap.get? b=some o->b∉X.ex->b∉ch:=fun b o e hx hb=>by
  rcases(kF b hb).1 with z|z
  .exact hx z
  .exact absurd (zB5 (zAz e) z) (Nat.lt_irrefl _)
 have cellK:∀x c,X.env.cells.lookup x=some c->∀v,s.heap.IsCell c v->h'.IsCell c v:=fun x c e v ⟨o,ho,hd⟩=>by
  have va:c∉ch:=fun z=>(kF c z).2.2.1 x c e rfl;by_cases hc:c∈X.fs
  .obtain⟨sl,q⟩:=slot c o (I.cne x c e) hc va ho (I.freeC x c e);exact⟨_,q,hd⟩
  .exact⟨o,keep c o (I.cne x c e) hc va ho (I.freeC x c e),hd⟩
 refine⟨I.ok,I.os,hg,⟨fun b o e n hb hx=>?_,fun b o e n hb hx=>?_,fun b o e n hx=>?_,fun b o e hx=>?_,fun b xs e=>tups b xs (I.base.tups b xs e),fun b o xs e=>frzs b o xs (I.base.frzs b o xs e),fun b ps e=>?_⟩,?_,fun x c e=>?_,?_,fun x c e=>?_,fun p hp=>?_,hok,I.len⟩
 .exact keep b o (HP b o e) hb (AJ b o e hx) (I.base.keep b o e n hb hx) (I.base.free b o e n hx)
 .obtain⟨sl,e1⟩:=I.base.slot b o e n hb hx;obtain⟨KI,e2⟩:=slot b _ (HP b o e) hb (AJ b o e hx) e1 (I.base.free b o e n hx);exact⟨KI,e2⟩
 .obtain⟨o',e1⟩:=I.base.there b o e hx;exact free b o' (AJ b o e hx) e1 (I.base.free b o e n hx)
 .obtain⟨o',e1⟩:=I.base.there b o e hx;exact there b o' (AJ b o e hx) e1
 .obtain⟨m1,e1⟩:=I.base.tbls b ps e;obtain⟨m2,e2⟩:=tbls b _ e1;exact⟨m1++m2,by rw[e2,Array.append_assoc]⟩
 .obtain⟨m,hn,hl⟩:=I.loc;refine⟨m,ns m hn,fun i x v e1 e2 e3=>?_⟩;obtain⟨u,r,l⟩:=hl i x v e1 e2 e3;refine⟨u,r,?_⟩;rcases l with l|⟨k,c,e,z⟩
  .exact .inl l
  .exact .inr ⟨k,c,e,cellK x c e _ z⟩
 .obtain⟨v,z⟩:=I.cell x c e;exact⟨v,cellK x c e v z⟩
 .obtain⟨m,⟨o,_,_,ho,_⟩,_⟩:=I.loc;exact free _ o (fun z=>(kF _ z).2.1 rfl) ho I.free
 .obtain⟨v,o,ho,hd⟩:=I.cell x c e;exact free c o (fun z=>(kF c z).2.2.1 x c e rfl) ho (I.freeC x c e)
 .obtain⟨e,n,ne,nf,d⟩:=I.pin p hp;have va:p.1∉ch:=fun z=>(kF p.1 z).2.2.2 p hp rfl;exact⟨keep p.1 p.2 ne nf va e n,free p.1 p.2 va e n,ne,nf,d⟩
theorem Inv.un{t':Nat}(I:Inv X Zt σ H s)(u:Un X.fs [] H H' s.heap h')(hok:HOk X.prog X.w H' h'):Inv X Zt σ H' {s with heap:=h',toks:=t'}:=by
 obtain⟨m,⟨o,es,ep,ho,r⟩,_⟩:=id I.loc;obtain⟨sl,hL⟩:=u.any ho I.free Zy
 exact I.step (g':=s.gens) (d':=s.drawn) (ch:=[]) (fun _ z=>nomatch z) (fun b o _ hb _ e n=>u.keep b o e n hb Zy) (fun b o _ hb _ e n=>u.slot b o e n hb Zy) (fun b o _ e n=>u.free b o e n Zy) (fun b o _ e=>u.there b o e Zy) u.tups u.frzs u.tbls (fun m' hm=>by
  obtain⟨o',fw,ve,ip,r'⟩:=hm;rw[ho]at ip;cases ip
  exact⟨_,fw,ve,hL,r'⟩) hok I.bare
theorem Inv.call{g':Array GenState}{t':Nat}{d':Drawn}{ch:List Addr}(I:Inv X Zt σ H s)(u:Un (frs X.stack) ch H H' s.heap h')(hok:HOk X.prog X.w H' h')(hg:AllBare g')
  (kF:∀b∈ch,(b∈X.ex\/X.s₀.heap.objs.size<=b)/\b≠X.env.locals/\(∀x c,X.env.cells.lookup x=some c->c≠b)/\∀p∈X.pn++Zt,p.1≠b):
  Inv X Zt σ H' {s with heap:=h',gens:=g',drawn:=d',toks:=t'}:=by
 obtain⟨m,⟨o,es,ep,ho,r⟩,_⟩:=id I.loc;obtain⟨sl,hL⟩:=u.any ho I.free fun z=>(kF _ z).2.1 rfl
 exact I.step (ch:=ch) kF (fun b o hL hb hc e n=>u.keep b o e n (fun z=>(zAo.mp (I.stkSub b z)).elim hL hb) hc) (fun b o _ _ hc e n=>u.any e n hc) (fun b o hc e n=>u.free b o e n hc) (fun b o hc e=>u.there b o e hc) u.tups u.frzs u.tbls (fun m' hm=>by
  obtain⟨o',fw,ve,ip,r'⟩:=hm;rw[ho]at ip;cases ip
  exact⟨_,fw,ve,hL,r'⟩) hok hg
theorem Inv.turned{t':Nat}{it:Addr}(I:Inv X Zt σ H s)(k:∀b o,b≠it->s.heap.get? b=some o->h'.get? b=some o)(hn:H it=none)(hL:it≠X.env.locals)
  (h1:it∈X.ex\/X.s₀.heap.objs.size<=it) (h2:∀x c,X.env.cells.lookup x=some c->c≠it) (h3:∀p∈X.pn++Zt,p.1≠it):Inv X Zt σ H {s with heap:=h',toks:=t'}:=by
 have HU:∀b u,H b=some u->b≠it:=fun b u e z=>by rw[z,hn]at e;cases e
 refine I.step (g':=s.gens) (d':=s.drawn) (ch:=[it]) (fun b hb=>?_) (fun b o _ _ hc e _=>k b o (fun z=>hc (by simp[z])) e) (fun b o _ _ hc e _=>⟨o.slots,k b o (fun z=>hc (by simp[z])) e⟩) (fun _ _ _ _ n=>n)
  (fun b o hc e=>⟨o,k b o (fun z=>hc (by simp[z])) e⟩) (fun _ _ e=>e) (fun _ _ _ e=>e) (fun b ps e=>⟨#[],by rw[e];simp⟩) (fun m hm=>?_) (fun b u e=>?_) I.bare
 .have e:b=it:=by simpa using hb
  subst e;exact⟨h1,hL,h2,h3⟩
 .obtain⟨o,es,ep,ho,r⟩:=hm;exact⟨o,es,ep,k _ o (Ne.symm hL) ho,r⟩
 .refine(I.hok b u e).stay (fun c v hc q=>k c v ?_ q) (fun _ q=>q) fun _ _ q=>q;rcases hc with z|z
  .rw[z];exact HU b u e
  .exact HU c _ z
theorem Inv.tok(I:Inv X Zt σ H s)(t:Nat):Inv X Zt σ H {s with toks:=t}:=I.un (h':=s.heap) (t':=t) Un.refl I.hok
theorem Inv.kept{t':Nat}(I:Inv X Zt σ H s)(k:∀b u,s.heap.get? b=some u->h'.get? b=some u):Inv X Zt σ H {s with heap:=h',toks:=t'}:=I.un (Un.kept k) (I.hok.kept k)
theorem Inv.laid{a:Addr}{o:HO}{t':Nat}(I:Inv X Zt σ H s)(k:∀b u,s.heap.get? b=some u->h'.get? b=some u)(hp:s.heap.objs.size<=a)(new:ObjOk X.prog X.w (upd H a o) h' a o):
  Inv X Zt σ (upd H a o) {s with heap:=h',toks:=t'}:=I.un (Un.laid k hp (I.hok.fresh hp)) (I.hok.laid k hp new)
theorem Inv.write{x e:Addr}{o:HO}{t':Nat}(I:Inv X Zt σ H s)(mu:Mut (H x))(he:e=x\/H e=some (.own x))(k:∀b u,b≠e->s.heap.get? b=some u->h'.get? b=some u)(sP:∃u,h'.get? e=some u)
  (new:ObjOk X.prog X.w (upd H x o) h' x o):Inv X Zt σ (upd H x o) {s with heap:=h',toks:=t'}:=I.un (Un.write mu he k sP) (I.hok.write mu he k sP new)
theorem Inv.pins_of{mw:List (Addr×Obj)}(I:Inv X Zt σ H s)(h:∀p∈mw,s.heap.get? p.1=some p.2/\H p.1=none/\p.1≠X.env.locals/\p.1∉X.fs/\∀v,p.2.data≠.cell v):Inv X mw σ H s:=
 ⟨I.ok,I.os,I.bare,I.base,I.loc,I.cell,I.free,I.freeC,fun p hp=>(zA6.mp hp).elim (fun z=>I.pin p (List.mem_append_left _ z)) (h p),I.hok,I.len⟩
theorem qQ{N:List Str}(hN:N.Nodup){i j:Nat}{x:Str}(a:N[i]?=some x)(b:N[j]?=some x):i=j:=by
 obtain⟨h1,e1⟩:=zAa.mp a;obtain⟨h2,e2⟩:=zAa.mp b;exact(List.getElem_inj hN).mp (e1.trans e2.symm)
theorem nu{M:Model}{A:Around}{E:Value->Shared->Prop}{i:Nat}{x:Str}{v:V}{u:Value}{Q:Unit->Shared->Prop}(I:Inv X Zt σ H s)(hN:X.N.Nodup)(hi:X.N[i]?=some x)(hx:Loc X.env.scope x)(r:RelV v u)
  (h:∀s',Inv X Zt (σ.set i (some v)) H s'->(∃a,Heap.SameBut a s.heap s'.heap/\(a=X.env.locals\/X.env.cells.lookup x=some a))->Q () s') (hf:X.fn x=true\/X.env.scope.names.lookup x=some .local:=by first|exact .inl rfl|exact .inr rfl|assumption):wpAny M A (storeName X.env x u) Q E s:=by
 obtain⟨m,hn,hl⟩:=id I.loc;have BN:(X.env.scope.kind==.class||(X.env.scope.kind==.module&&X.env.locals != X.env.globals))=false:=by rw[I.ok.kind];rfl
 have vi:i<σ.length:=by rw[I.len];exact(zAa.mp hi).1
 have cne:=I.cne
 have tracked:∀{a:Addr} {h':Heap},(∃o,s.heap.get? a=some o/\H a=none)->Heap.SameBut a s.heap h'->HOk X.prog X.w H h':=fun{a h'} ha hs b ob e=>by
  obtain⟨_,_,hfree⟩:=ha;refine(I.hok b ob e).stay (fun c w' hc q=>(hs.2 c ?_).trans q) (fun _ q=>q) fun _ _ q=>q;rintro rfl;rcases hc with rfl|hc
  .rw[hfree]at e;cases e
  .rw[hfree]at hc;cases hc
 rcases hx with hk|hk
 .refine wpAny_storeName_local hk hn (fun h' KJ hs=>?_) BN;obtain⟨oL,_,_,KL,_⟩:=id hn;refine h _ ⟨I.ok,I.os,I.bare,⟨fun b o e n hb hx=>?_,fun b o e n hb hx=>?_,I.base.free,fun b o e hx=>?_,I.base.tups,I.base.frzs,I.base.tbls⟩,⟨_,KJ,fun j y v' e1 e2 e3=>?_⟩,fun y c e=>?_,I.free,I.freeC,fun p hp=>?_,tracked ⟨oL,KL,I.free⟩ hs,by simpa using I.len⟩ ⟨_,hs,.inl rfl⟩
  .exact(hs.2 b (zB3 (zB5 (zAz e) I.ok.above))).trans (I.base.keep b o e n hb hx)
  .obtain⟨sl,e1⟩:=I.base.slot b o e n hb hx;exact⟨sl,(hs.2 b (zB3 (zB5 (zAz e) I.ok.above))).trans e1⟩
  .obtain⟨o',e1⟩:=I.base.there b o e hx;exact⟨o',(hs.2 b (zB3 (zB5 (zAz e) I.ok.above))).trans e1⟩
  .by_cases hj:j=i
   .subst hj;rw[hi]at e1;cases e1;rw[List.getElem?_set_self vi]at e2;cases e2;exact⟨u,r,.inl ⟨hk,by simp⟩⟩
   .rw[List.getElem?_set_ne (Ne.symm hj)]at e2;obtain⟨u',r',q⟩:=hl j y v' e1 e2 e3;refine⟨u',r',?_⟩;rcases q with⟨k,e⟩|⟨k,c,e,z⟩
    .refine .inl ⟨k,?_⟩;have:y≠x:=fun e=>hj (qQ hN e1 (e▸hi));simp[this,e]
    .exact .inr ⟨k,c,e,z.sameBut hs (cne y c e)⟩
  .obtain⟨w',z⟩:=I.cell y c e;exact⟨w',z.sameBut hs (cne y c e)⟩
  .obtain⟨e,n,ne,nf,d⟩:=I.pin p hp;exact⟨(hs.2 p.1 ne).trans e,n,ne,nf,d⟩
 .have BO:X.fn x=true:=by
   rcases hf with z|z
   .exact z
   .rw[z]at hk;cases hk
  obtain⟨c,hc⟩:=I.ok.has x (.inl hk);obtain⟨w',z⟩:=I.cell x c hc;refine wpAny_storeName_cell I.ok.kind hk hc z (fun h' ay hs=>?_);obtain⟨oc,HV,BQ⟩:=id z;refine h {s with heap:=h'} ⟨I.ok,I.os,I.bare,⟨fun b o e n hb hx=>?_,fun b o e n hb hx=>?_,I.base.free,fun b o e hx=>?_,I.base.tups,I.base.frzs,I.base.tbls⟩,⟨m,hn.sameBut hs (Ne.symm (cne x c hc)),fun j y v' e1 e2 e3=>?_⟩,fun y c' e=>?_,I.free,I.freeC,fun p hp=>?_,tracked ⟨oc,HV,I.freeC x c hc⟩ hs,by simpa using I.len⟩ ⟨c,hs,.inr hc⟩
  .exact(hs.2 b (zB3 (zB5 (zAz e) (I.ok.cab x c BO hc)))).trans (I.base.keep b o e n hb hx)
  .obtain⟨sl,e1⟩:=I.base.slot b o e n hb hx;exact⟨sl,(hs.2 b (zB3 (zB5 (zAz e) (I.ok.cab x c BO hc)))).trans e1⟩
  .obtain⟨o',e1⟩:=I.base.there b o e hx;exact⟨o',(hs.2 b (zB3 (zB5 (zAz e) (I.ok.cab x c BO hc)))).trans e1⟩
  .by_cases hj:j=i
   .subst hj;rw[hi]at e1;cases e1;rw[List.getElem?_set_self vi]at e2;cases e2;exact⟨u,r,.inr ⟨.inl hk,c,hc,ay⟩⟩
   .rw[List.getElem?_set_ne (Ne.symm hj)]at e2;obtain⟨u',r',q⟩:=hl j y v' e1 e2 e3;refine⟨u',r',?_⟩;rcases q with q|⟨k,c',e,z'⟩
    .exact .inl q
    .refine .inr ⟨k,c',e,z'.sameBut hs ?_⟩;rintro rfl;exact hj (qQ hN e1 (I.ok.inj _ _ _ e hc▸hi))
  .by_cases HZ:c'=c
   .subst HZ;exact⟨_,ay⟩
   .obtain⟨w2,z2⟩:=I.cell y c' e;exact⟨w2,z2.sameBut hs HZ⟩
  .obtain⟨e,n,ne,nf,d⟩:=I.pin p hp;refine⟨(hs.2 p.1 ?_).trans e,n,ne,nf,d⟩;intro q;rw[q,HV]at e;have q':oc=p.2:=zAl e;exact d w' (by rw[<-q'];exact BQ)
theorem dO{M:Model}{A:Around}{E:Value->Shared->Prop}{i:Nat}{x:Str}{v:V}{u:Value}{Q:Unit->Shared->Prop}(I:Inv X Zt σ H s)(hN:X.N.Nodup)(hi:X.N[i]?=some x)(hx:Loc X.env.scope x)(r:RelV v u)
  (h:∀s',Inv X Zt (σ.set i (some v)) H s'->Q () s') (hf:X.fn x=true\/X.env.scope.names.lookup x=some .local:=by first|exact .inl rfl|exact .inr rfl|assumption):wpAny M A (storeName X.env x u) Q E s:=
 nu I hN hi hx r (fun s' I' _=>h s' I') hf
theorem Inv.call'{s':Shared}{ch:List Addr}(I:Inv X Zt σ H s)(ho:s'.os=s.os)(u:Un (frs X.stack) ch H H' s.heap s'.heap)(hok:HOk X.prog X.w H' s'.heap)(hg:AllBare s'.gens)
  (kF:∀b∈ch,(b∈X.ex\/X.s₀.heap.objs.size<=b)/\b≠X.env.locals/\(∀x c,X.env.cells.lookup x=some c->c≠b)/\∀p∈X.pn++Zt,p.1≠b):Inv X Zt σ H' s':=by
 obtain⟨h',g',d',t',o'⟩:=s';have e:o'=s.os:=ho;subst e;exact I.call (g':=g') (t':=t') (d':=d') u hok hg kF
end
abbrev XK:=Value->Option Addr->Hp->Prop
abbrev St:=List (Option V)
abbrev VK:=V->Hp->Prop
abbrev TE:=St->Hp->VK->Prop
abbrev TT:=St->Hp->(Bool->Hp->Prop)->Prop
abbrev TA:=St->Hp->(List V->Hp->Prop)->Prop
structure Ends where
 nx:St->Hp->Prop
 rt:VK
 bk:St->Hp->Prop:=fun _ _=>False
 ct:St->Hp->Prop:=fun _ _=>False
abbrev TS:=Ends->St->Hp->Prop
def EP(X:Cx)(Zt:List (Addr×Obj))(σ:St)(Q:VK)(u:Value)(s':Shared):Prop:=∃v H',Inv X Zt σ H' s'/\RelV v u/\Q v H'
def TP(X:Cx)(Zt:List (Addr×Obj))(σ:St)(Q:Bool->Hp->Prop)(b:Bool)(s':Shared):Prop:=∃H',Inv X Zt σ H' s'/\Q b H'
def AP(X:Cx)(Zt:List (Addr×Obj))(σ:St)(Q:List V->Hp->Prop)(us:List Value)(s':Shared):Prop:=∃vs H',Inv X Zt σ H' s'/\Vals vs us/\Q vs H'
def SP(X:Cx)(Zt:List (Addr×Obj))(D:Ends)(f:Flow)(s':Shared):Prop:=
 match f with
 |.next=>∃ar H',Inv X Zt ar H' s'/\D.nx ar H'
 |.brk=>∃ar H',Inv X Zt ar H' s'/\D.bk ar H'
 |.cont=>∃ar H',Inv X Zt ar H' s'/\D.ct ar H'
 |.ret u=>∃v ar H',Inv X Zt ar H' s'/\RelV v u/\D.rt v H'
def PE(X:Cx)(e:Expr)(t:TE):Prop:=
 ∀(Zt:List (Addr×Obj)) (s:Shared) (σ:St) (H:Hp) (Q:VK),Inv X Zt σ H s->t σ H Q->wpAny (model X.prog X.w) X.A (eval e X.env) (EP X Zt σ Q) X.xe s
def PT(X:Cx)(e:Expr)(t:TT):Prop:=
 ∀(Zt:List (Addr×Obj)) (s:Shared) (σ:St) (H:Hp) (Q:Bool->Hp->Prop),Inv X Zt σ H s->t σ H Q->wpAny (model X.prog X.w) X.A (isTrue e X.env (eval e X.env)) (TP X Zt σ Q) X.xe s
def PW(X:Cx)(e:Expr)(t:TT):Prop:=
 ∀(whole:Sem Value) (Zt:List (Addr×Obj)) (s:Shared) (σ:St) (H:Hp) (Q:Bool->Hp->Prop),Inv X Zt σ H s->t σ H Q->wpAny (model X.prog X.w) X.A (isTrue e X.env whole) (TP X Zt σ Q) X.xe s
theorem PW.pt{X:Cx}{e:Expr}{t:TT}(h:PW X e t):PT X e t:=h _
def PA(X:Cx)(es:List Expr)(t:TA):Prop:=
 ∀(pos:Pos) (Zt:List (Addr×Obj)) (s:Shared) (σ:St) (H:Hp) (Q:List V->Hp->Prop),Inv X Zt σ H s->t σ H Q->wpAny (model X.prog X.w) X.A (spliced (backTo pos (starEach es X.env))) (AP X Zt σ Q) X.xe s
def PS(X:Cx)(st:Stmt)(t:TS):Prop:=
 ∀(Zt:List (Addr×Obj)) (s:Shared) (σ:St) (H:Hp) (D:Ends),Inv X Zt σ H s->t D σ H->wpAny (model X.prog X.w) X.A (exec st X.env) (SP X Zt D) X.xe s
def PSs(X:Cx)(st:List Stmt)(t:TS):Prop:=
 ∀(Zt:List (Addr×Obj)) (s:Shared) (σ:St) (H:Hp) (D:Ends),Inv X Zt σ H s->t D σ H->wpAny (model X.prog X.w) X.A (execs st X.env) (SP X Zt D) X.xe s
theorem thn{α:Type}{t:Sem α}{Q Q':α->Shared->Prop}{M:Model}{A:Around}{E:Value->Shared->Prop}{s:Shared}(h:wpAny M A t Q E s)(hQ:∀a s,Q a s->Q' a s):wpAny M A t Q' E s:=wpAny_mono h hQ fun _ _ x=>x
section
variable{X:Cx}
theorem bin{a b:Expr}{ta tb:TE}(ha:PE X a ta)(hb:PE X b tb){Zt:List (Addr×Obj)}{s:Shared}{σ:St}{H:Hp}{R:V->V->Hp->Prop}(I:Inv X Zt σ H s)(h:ta σ H fun x H1=>tb σ H1 fun y H2=>R x y H2)
  {α:Type} {Q:α->Shared->Prop} {f:Value->Value->Sem α}
  (hf:∀v u s2 x y H2,Inv X Zt σ H2 s2->RelV x v->RelV y u->R x y H2->wpAny (model X.prog X.w) X.A (f v u) Q X.xe s2):
  wpAny (model X.prog X.w) X.A (eval a X.env) (fun v s₁=>wpAny (model X.prog X.w) X.A (eval b X.env) (fun u s₂=>wpAny (model X.prog X.w) X.A (f v u) Q X.xe s₂) X.xe s₁) X.xe s:=by
 refine thn (ha Zt s σ H _ I h) fun v s1 ⟨x,H1,I1,r1,q1⟩=>?_;refine thn (hb Zt s1 σ H1 _ I1 q1) fun u s2 ⟨y,H2,I2,r2,q2⟩=>?_;exact hf v u s2 x y H2 I2 r1 r2 q2
inductive TVarI(i:Nat)(σ:St)(H:Hp)(Q:VK):Prop
 |mk:∀v,(σ[i]?=some (some v))->(Q v H)->TVarI i σ H Q
def Aw(i:Nat):TE:=fun σ H Q=>TVarI i σ H Q
def tC(v:V):TE:=fun _ H Q=>Q v H
theorem Ec{i:Nat}{x:Str}{pos:Pos}(hN:X.N[i]?=some x)(hv:Vis X.env.scope x)(hd:(x==("__debug__":Str))=false:=by decide)(iq:(x==("__classdict__":Str))=false:=by decide):PE X (.Name x pos) (Aw i):=by
 intro Zt s σ H Q I h;obtain⟨v,e,h⟩:=h;obtain⟨m,hn,hl⟩:=I.loc;obtain⟨u,r,l⟩:=hl i x v hN e hv
 have fin:EP X Zt σ Q u s:=⟨v,H,I,r,h⟩
 rcases l with⟨hk,hm⟩|⟨hk,c,hc,hcell⟩
 .exact wpAny_Name (wpAny_loadName_local I.ok.kind hk hn hm fin) hd
 .rcases hk with hk|hk
  .exact wpAny_Name (wpAny_loadName_cell I.ok.kind hk hc hcell fin) hd
  .exact wpAny_Name (wpAny_loadName_free I.ok.kind hk hc hcell fin iq) hd
theorem aB{i j pos}:PE X (.Constant (.int i) j pos) (tC (.int i)):=fun _ _ _ H _ I h=>wpAny_Constant_int ⟨.int i,H,I.tok _,⟨_,rfl⟩,h⟩
theorem gG{b j pos}:PE X (.Constant (.bool b) j pos) (tC (.bl b)):=fun _ _ _ H _ I h=>Constant_bool ⟨.bl b,H,I,rfl,h⟩
theorem oY{j pos}:PE X (.Constant .none j pos) (tC .non):=fun _ _ _ H _ I h=>Constant_none ⟨.non,H,I,rfl,h⟩
def Gl(X:Cx)(x:Str):Prop:=X.env.kindOf x=some .globalImplicit
theorem uT{E:Value->Shared->Prop}{Zt:List (Addr×Obj)}{s:Shared}{σ:St}{H:Hp}{x:Str}{u:Value}{pos:Pos}{Q:Value->Shared->Prop}(I:Inv X Zt σ H s)(hg:Gl X x)(hm:X.mg x=some u)(h:Q u s)
  (hd:(x==("__debug__":Str))=false:=by decide):wpAny (model X.prog X.w) X.A (eval (.Name x pos) X.env) Q E s:=
 Calls.Name_function_global I.ok.kind hg (Calls.loadGlobal_global (by rw[I.ok.glob];exact I.mod.glob.keeps I.bk) hm h) hd
theorem gj{E:Value->Shared->Prop}{Zt:List (Addr×Obj)}{s:Shared}{σ:St}{H:Hp}{x:Str}{u:Value}{pos:Pos}{Q:Value->Shared->Prop}(I:Inv X Zt σ H s)(hg:Gl X x)(hm:X.mg x=none)(hv:bootBuiltins x=some u)(h:Q u s)
  (hn:x≠"__name__":=by decide) (hd:(x==("__debug__":Str))=false:=by decide):wpAny (model X.prog X.w) X.A (eval (.Name x pos) X.env) Q E s:=by
 obtain⟨mb,h1,h2⟩:=I.mod.blt;exact Calls.Name_function_global I.ok.kind hg (Calls.loadGlobal_builtin (by rw[I.ok.glob];exact I.mod.glob.keeps I.bk) hm (by rw[I.ok.blt];exact h1.keeps I.bk) ((h2 x hn).trans hv) h) hd
theorem bT{x:Str}{v:V}{u:Value}{pos:Pos}(hg:Gl X x)(hm:X.mg x=some u)(r:RelV v u)(hd:(x==("__debug__":Str))=false:=by decide):PE X (.Name x pos) (tC v):=
 fun _ _ _ H _ I h=>uT I hg hm ⟨v,H,I,r,h⟩ hd
theorem oZ{x:Str}{v:V}{u:Value}{pos:Pos}(hg:Gl X x)(hm:X.mg x=none)(hv:bootBuiltins x=some u)(r:RelV v u)(hn:x≠"__name__":=by decide)(hd:(x==("__debug__":Str))=false:=by decide):PE X (.Name x pos) (tC v):=
 fun _ _ _ H _ I h=>gj I hg hm hv ⟨v,H,I,r,h⟩ hn hd
variable{a b:Expr}{ta tb:TE}{pos:Pos}
def PC(X:Cx)(op:CmpOp)(a b:Expr)(t:TE):Prop:=
 ∀(Zt:List (Addr×Obj)) (s:Shared) (σ:St) (H:Hp) (Q:VK),Inv X Zt σ H s->t σ H Q->
  wpAny (model X.prog X.w) X.A (eval a X.env) (fun v s₁=>wpAny (model X.prog X.w) X.A (eval b X.env) (fun u s₂=>wpAny (model X.prog X.w) X.A (compareOp op v u) (EP X Zt σ Q) X.xe s₂) X.xe s₁) X.xe s
def tB(t:TE):TT:=fun σ H Q=>t σ H fun x H1=>∃c,x=.bl c/\Q c H1
theorem Ie{op:CmpOp}{t:TE}(h:PC X op a b t)(h1:behindInMarks op b=false:=by first|exact nobehind _ Zx Zx|rfl):PT X (.Compare a [op] [b] pos) (tB t):=by
 intro Zt s σ H Q I hw;refine wpAny_isTrue_Compare1 (thn (h Zt s σ H _ I hw) fun v s1 h1=>thn h1 fun u s2 h2=>thn h2 fun c s3 ⟨x,H1,I1,r1,q1⟩=>?_) h1;obtain⟨d,rfl,q⟩:=q1;cases r1;exact wpAny_truthy_bool ⟨H1,I1,q⟩
theorem d8{e:Expr}{t:TE}(h:PE X e t)(he:∀whole,isTrue e X.env whole=(do let v <-whole;standAt e.pos;holding [v] (truthy v)):=by intro _;rfl):PT X e (tB t):=by
 intro Zt s σ H Q I hw;refine isTrue_plain (thn (h Zt s σ H _ I hw) fun v s1 ⟨x,H1,I1,r1,q1⟩=>?_) (he _);obtain⟨d,rfl,q⟩:=q1;cases r1;exact wpAny_truthy_bool ⟨H1,I1,q⟩
variable{tA AK:TT}{rest:List Expr}
def Ig(t u:TT):TT:=fun σ H Q=>t σ H fun c H1=>if c=true then u σ H1 Q else Q false H1
def tOr(t u:TT):TT:=fun σ H Q=>t σ H fun c H1=>if c=true then Q true H1 else u σ H1 Q
def Ih(t:TT):TT:=fun σ H Q=>t σ H fun c H1=>Q (!c) H1
theorem uU(ha:PT X a tA):PW X (.BoolOp .And [a] pos) tA:=by
 intro wh Zt s σ H Q I h;refine isTrue_and (thn (ha Zt s σ H Q I h) fun c s1 e=>?_)
 cases c with
 |true=>exact isTrue_and_nil e
 |false=>exact e
theorem p8(ha:PT X a tA):PW X (.BoolOp .Or [a] pos) tA:=by
 intro wh Zt s σ H Q I h;refine isTrue_or (thn (ha Zt s σ H Q I h) fun c s1 e=>?_)
 cases c with
 |false=>exact isTrue_or_nil e
 |true=>exact e
theorem yf(ha:PT X a tA)(hb:PW X (.BoolOp .And (b::rest) pos) AK):PW X (.BoolOp .And (a::b::rest) pos) (Ig tA AK):=by
 intro wh Zt s σ H Q I h;refine isTrue_and (thn (ha Zt s σ H _ I h) fun c s1 ⟨H1,I1,q1⟩=>?_)
 cases c with
 |true=>exact hb wh Zt s1 σ H1 Q I1 q1
 |false=>exact⟨H1,I1,q1⟩
theorem kE(ha:PT X a tA)(hb:PW X (.BoolOp .Or (b::rest) pos) AK):PW X (.BoolOp .Or (a::b::rest) pos) (tOr tA AK):=by
 intro wh Zt s σ H Q I h;refine isTrue_or (thn (ha Zt s σ H _ I h) fun c s1 ⟨H1,I1,q1⟩=>?_)
 cases c with
 |true=>exact⟨H1,I1,q1⟩
 |false=>exact hb wh Zt s1 σ H1 Q I1 q1
theorem bN(ha:PT X a tA):PT X (.UnaryOp .Not a pos) (Ih tA):=by
 intro Zt s σ H Q I h;exact isTrue_not (ha Zt s σ H (fun c H1=>Q (!c) H1) I h)
def Df(ta tb:TE):TE:=fun σ H Q=>ta σ H fun x H1=>∃c,x=.bl c/\if c=true then tb σ H1 Q else Q (.bl false) H1
def G3(ta:TE):TE:=fun σ H Q=>ta σ H fun x H1=>∃c,x=.bl c/\Q (.bl (!c)) H1
theorem dU{op}{t:TE}(h:PE X a t):PE X (.BoolOp op [a] pos) t:=fun Zt s σ H Q I hw=>BoolOp_one (h Zt s σ H Q I hw)
theorem cu(ha:PE X a ta)(hb:PE X (.BoolOp .And (b::rest) pos) tb):PE X (.BoolOp .And (a::b::rest) pos) (Df ta tb):=by
 intro Zt s σ H Q I h;refine BoolOp_and (thn (ha Zt s σ H _ I h) fun v s1 ⟨x,H1,I1,r1,q1⟩=>?_);obtain⟨c,rfl,q1⟩:=q1;cases r1;refine wpAny_truthy_bool ?_
 cases c with
 |true=>exact hb Zt s1 σ H1 Q I1 q1
 |false=>exact⟨.bl false,H1,I1,rfl,q1⟩
theorem Ed(ha:PE X a ta):PE X (.UnaryOp .Not a pos) (G3 ta):=by
 intro Zt s σ H Q I h;refine UnaryOp_ (thn (ha Zt s σ H _ I h) fun v s1 ⟨x,H1,I1,r1,q1⟩=>?_);obtain⟨c,rfl,q1⟩:=q1;cases r1;exact not_of (wpAny_truthy_bool ⟨.bl (!c),H1,I1,rfl,q1⟩)
def tIf(t:TT)(ta tb:TE):TE:=fun σ H Q=>t σ H fun c H1=>if c=true then ta σ H1 Q else tb σ H1 Q
theorem yg{c:Expr}(hc:PT X c tA)(ha:PE X a ta)(hb:PE X b tb):PE X (.IfExp c a b pos) (tIf tA ta tb):=by
 intro Zt s σ H Q I h;refine wpAny_IfExp (thn (hc Zt s σ H _ I h) fun d s1 ⟨H1,I1,q1⟩=>?_)
 cases d with
 |true=>exact ha Zt s1 σ H1 Q I1 q1
 |false=>exact hb Zt s1 σ H1 Q I1 q1
end
def SqL(K:Frag)(H:Hp)(a:Addr)(xs:List V):Prop:=
 Rd H a (.lst xs) \/
  ∃(o:Obj) (Zs:Array Value) (n:Nat),K.lookup a=some o/\o.cls=.type "list"/\o.dict=none/\o.data=.seq Zs n/\Zs.size<=sizeLine/\Vals xs Zs.toList
def SqT(K:Frag)(H:Hp)(a:Addr)(xs:List V):Prop:=
 Rd H a (.tup xs) \/
  ∃(o:Obj) (Zs:Array Value) (n:Nat),K.lookup a=some o/\o.cls=.type "tuple"/\o.data=.seq Zs n/\Zs.size<=sizeLine/\Vals xs Zs.toList
def Ij:Value->Option V
 |.none=>some .non
 |.bool b=>some (.bl b)
 |.int i _=>some (.int i)
 |.str x _=>some (.str x)
 |.bytes b _=>some (.byt b)
 |.float b _=>some (.flt b)
 |.ref a=>some (.ref a)
 |.type n=>some (.ty n)
 |_=>none
theorem RelV.abs{x:V}{u:Value}(r:RelV x u):Ij u=some x:=by
 cases x with
 |non=>cases r;rfl
 |bl _=>cases r;rfl
 |int _=>obtain⟨t,rfl⟩:=r;rfl
 |str _=>obtain⟨t,rfl⟩:=r;rfl
 |byt _=>obtain⟨t,rfl⟩:=r;rfl
 |flt _=>obtain⟨t,rfl⟩:=r;rfl
 |ref _=>cases r;rfl
 |ty _=>cases r;rfl
theorem RelV.inj{x y:V}{u:Value}(r:RelV x u)(q:RelV y u):x=y:=zAl (r.abs.symm.trans q.abs)
theorem Vals.inj:∀{xs ys:List V} {us:List Value},Vals xs us->Vals ys us->xs=ys
 |_,_,_,.nil,.nil=>rfl
 |_,_,_,.cons r t,.cons r' t'=>by rw[r.inj r',Vals.inj t t']
section
variable{X:Cx}{Zt:List (Addr×Obj)}{σ:St}{H:Hp}{s:Shared}{a:Addr}{xs ys:List V}
theorem SqL.of{K:Frag}(h:H a=some (.lst xs)):SqL K H a xs:=.inl (.inl h)
theorem SqT.of{K:Frag}(h:H a=some (.tup xs)):SqT K H a xs:=.inl (.inl h)
theorem Inv.list(I:Inv X Zt σ H s)(h:SqL X.K H a xs):∃Zs:List Value,Vals xs Zs/\PlainL s.heap a Zs.toArray/\xs.length<=sizeLine:=by
 rcases h with h|⟨o,Zs,n,hk,hc,hd,hs,hz,r⟩
 .obtain⟨z,Zs,n,r,e⟩:=h.ok I.hok;exact⟨Zs,r,⟨_,n,e,rfl,rfl,rfl⟩,z⟩
 .refine⟨Zs.toList,r,⟨o,n,I.kIn a o hk,hc,hd,by simpa using hs⟩,?_⟩;have e:=r.length;simp only[Array.length_toList]at e;lia
theorem Inv.tuple(I:Inv X Zt σ H s)(h:SqT X.K H a xs):∃Zs:List Value,Vals xs Zs/\IsTup s.heap a Zs.toArray/\xs.length<=sizeLine:=by
 rcases h with h|⟨o,Zs,n,hk,hc,hs,hz,r⟩
 .obtain⟨z,Zs,r,p⟩:=h.ok I.hok;exact⟨Zs,r,p,z⟩
 .refine⟨Zs.toList,r,⟨o,I.kIn a o hk,hc,n,by simpa using hs⟩,?_⟩;have e:=r.length;simp only[Array.length_toList]at e;lia
theorem Inv.list_inj(I:Inv X Zt σ H s)(h:SqL X.K H a xs)(h':SqL X.K H a ys):xs=ys:=by
 obtain⟨Zs,r,⟨o,n,e,_,_,d⟩,_⟩:=I.list h;obtain⟨its',r',⟨o',n',e',_,_,d'⟩,_⟩:=I.list h';rw[e]at e';cases e';rw[d]at d';injection d' with d1 _;have:Zs=its':=by simpa using congrArg Array.toList d1
 subst this;exact r.inj r'
theorem Inv.tuple_inj(I:Inv X Zt σ H s)(h:SqT X.K H a xs)(h':SqT X.K H a ys):xs=ys:=by
 obtain⟨Zs,r,⟨o,e,_,n,d⟩,_⟩:=I.tuple h;obtain⟨its',r',⟨o',e',_,n',d'⟩,_⟩:=I.tuple h';rw[e]at e';cases e';rw[d]at d';injection d' with d1 _;have:Zs=its':=by simpa using congrArg Array.toList d1
 subst this;exact r.inj r'
end
abbrev Cx.wish(X:Cx)(E:Value->Shared->Prop):Cx:={X with xe:=E}
abbrev Cx.nox(X:Cx):Cx:=X.wish fun _ _=>False
theorem Cx.Ok.wish{X:Cx}(ok:X.Ok)(E:Value->Shared->Prop):(X.wish E).Ok:=
 ⟨ok.mod,ok.kind,ok.glob,ok.blt,ok.above,ok.inj,ok.has,ok.cab,ok.hd,ok.frames,ok.stk,ok.exf,ok.bs,ok.bsz,ok.noex,ok.exfs,ok.funs,ok.frf⟩
theorem Cx.Ok.unwish{X:Cx}{E:Value->Shared->Prop}(ok:(X.wish E).Ok):X.Ok:=
 ⟨ok.mod,ok.kind,ok.glob,ok.blt,ok.above,ok.inj,ok.has,ok.cab,ok.hd,ok.frames,ok.stk,ok.exf,ok.bs,ok.bsz,ok.noex,ok.exfs,ok.funs,ok.frf⟩
section
variable{X:Cx}{Zt:List (Addr×Obj)}{σ:St}{H:Hp}{s:Shared}{E:Value->Shared->Prop}
theorem Inv.wish(I:Inv X Zt σ H s)(E:Value->Shared->Prop):Inv (X.wish E) Zt σ H s:=⟨I.ok.wish E,I.os,I.bare,I.base,I.loc,I.cell,I.free,I.freeC,I.pin,I.hok,I.len⟩
theorem Inv.unwish(I:Inv (X.wish E) Zt σ H s):Inv X Zt σ H s:=⟨I.ok.unwish,I.os,I.bare,I.base,I.loc,I.cell,I.free,I.freeC,I.pin,I.hok,I.len⟩
theorem SP.unwish{D:Ends}{f:Flow}{s':Shared}(h:SP (X.wish E) Zt D f s'):SP X Zt D f s':=by
 cases f with
 |next=>obtain⟨ar,H',I,q⟩:=h;exact⟨ar,H',I.unwish,q⟩
 |brk=>obtain⟨ar,H',I,q⟩:=h;exact⟨ar,H',I.unwish,q⟩
 |cont=>obtain⟨ar,H',I,q⟩:=h;exact⟨ar,H',I.unwish,q⟩
 |ret u=>obtain⟨v,ar,H',I,r,q⟩:=h;exact⟨v,ar,H',I.unwish,r,q⟩
theorem PSs.nox{st:List Stmt}{t:TS}(h:PSs X.nox st t):PSs X st t:=fun Zt s σ H D I hw=>
 wpAny_mono (h Zt s σ H D (I.wish _) hw) (fun _ _ q=>q.unwish) fun _ _ z=>False.elim z
end
section
variable{X:Cx}{st:Stmt}{rest:List Stmt}{t u:TS}{e:Expr}{te:TE}{pos:Pos}
def Dg:TS:=fun D σ H=>D.nx σ H
def Ax(t u:TS):TS:=fun D σ H=>t {D with nx:=u D} σ H
theorem aZ:PSs X [] Dg:=fun _ _ σ H _ I h=>wpAny_execs_nil ⟨σ,H,I,h⟩
theorem aA(h1:PS X st t)(h2:PSs X rest u):PSs X (st::rest) (Ax t u):=by
 intro Zt s σ H D I h;refine wpAny_execs_cons (thn (h1 Zt s σ H {D with nx:=u D} I h) fun f s1 q=>?_)
 cases f with
 |next=>
  obtain⟨ar,H',I',q⟩:=q;exact h2 Zt s1 ar H' D I' q
 |ret v=>exact q
 |brk=>exact q
 |cont=>exact q
theorem aD(h1:PS X st t):PSs X [st] t:=by
 intro Zt s σ H D I h;refine wpAny_execs_cons (thn (h1 Zt s σ H D I h) fun f s1 q=>?_)
 cases f with
 |next=>exact wpAny_execs_nil q
 |ret v=>exact q
 |brk=>exact q
 |cont=>exact q
theorem Inv.quiet{Zt:List (Addr×Obj)}{σ:St}{H:Hp}{s:Shared}(I:Inv X Zt σ H s):interactive X.env=false:=by simp[interactive,I.ok.kind]
def G6(te:TE):TS:=fun D σ H=>te σ H fun _ H1=>D.nx σ H1
theorem cW(he:PE X e te)(hs:swapsWith e none pos.line X.env=pure false:=by rfl):PS X (.Expr e pos) (G6 te):=by
 intro Zt s σ H D I h;exact wpAny_Expr_any (thn (he Zt s σ H _ I h) fun v s1 ⟨x,H1,I1,r1,q1⟩=>⟨σ,H1,I1,q1⟩) I.quiet hs
def Ef(te:TE):TS:=fun D σ H=>te σ H D.rt
theorem aP(he:PE X e te):PS X (.Return (some e) pos) (Ef te):=by
 intro Zt s σ H D I h;exact wpAny_Return_some (thn (he Zt s σ H _ I h) fun v s1 ⟨x,H1,I1,r1,q1⟩=>⟨x,σ,H1,I1,r1,q1⟩)
def Ik(c:TT)(t u:TS):TS:=fun D σ H=>c σ H fun b H1=>if b=true then t D σ H1 else u D σ H1
theorem cj{c:Expr}{a b:List Stmt}{tc:TT}(hc:PT X c tc)(ha:PSs X a t)(hb:PSs X b u):PS X (.If c a b pos) (Ik tc t u):=by
 intro Zt s σ H D I h;refine wpAny_If (thn (hc Zt s σ H _ I h) fun d s1 ⟨H1,I1,q1⟩=>?_)
 cases d with
 |true=>exact ha Zt s1 σ H1 D I1 q1
 |false=>exact hb Zt s1 σ H1 D I1 q1
def yh:TS:=fun _ _ _=>False
theorem fQ:PS X st yh:=fun _ _ _ _ _ _ h=>h.elim
theorem nA{BU:List Stmt}:PSs X BU yh:=fun _ _ _ _ _ _ h=>h.elim
end
abbrev TG:=V->St->Hp->(St->Hp->Prop)->Prop
abbrev TGs:=List V->St->Hp->(St->Hp->Prop)->Prop
def PG(X:Cx)(target:Expr)(t:TG):Prop:=
 ∀(Zt:List (Addr×Obj)) (s:Shared) (σ:St) (H:Hp) (v:V) (u:Value) (Q:St->Hp->Prop),Inv X Zt σ H s->RelV v u->t v σ H Q->
  wpAny (model X.prog X.w) X.A (assign target X.env u) (fun _ s'=>∃ar H',Inv X Zt ar H' s'/\Q ar H') X.xe s
def PGs(X:Cx)(ts:List Expr)(t:TGs):Prop:=
 ∀(Zt:List (Addr×Obj)) (s:Shared) (σ:St) (H:Hp) (vs:List V) (us:List Value) (Q:St->Hp->Prop),Inv X Zt σ H s->Vals vs us->t vs σ H Q->
  wpAny (model X.prog X.w) X.A (assignInOrder ((assignEach ts X.env).map (·.2)) us) (fun _ s'=>∃ar H',Inv X Zt ar H' s'/\Q ar H') X.xe s
abbrev yj:=V->V->V->Hp->(Hp->Prop)->Prop
def Eg(X:Cx)(t:yj):Prop:=
 ∀(Zt:List (Addr×Obj)) (s:Shared) (σ:St) (H:Hp) (o i v:V) (ov iv u:Value) (Q:Hp->Prop),Inv X Zt σ H s->RelV o ov->RelV i iv->RelV v u->t o i v H Q->
  wpAny (model X.prog X.w) X.A (setItem ov iv u) (fun _ s'=>∃H',Inv X Zt σ H' s'/\Q H') X.xe s
abbrev TIp:=V->V->Hp->VK->Prop
def PIp(X:Cx)(op:Operator)(t:TIp):Prop:=
 ∀(Zt:List (Addr×Obj)) (s:Shared) (σ:St) (H:Hp) (x y:V) (v u:Value) (Q:VK),Inv X Zt σ H s->RelV x v->RelV y u->t x y H Q->
  wpAny (model X.prog X.w) X.A (inplaceOp op v u) (EP X Zt σ Q) X.xe s
section
variable{X:Cx}{pos:Pos}
def bC(i:Nat):TG:=fun v σ H Q=>Q (σ.set i (some v)) H
theorem bF{i:Nat}{x:Str}(hN:X.N.Nodup)(hi:X.N[i]?=some x)(hx:Loc X.env.scope x)(hf:X.fn x=true\/X.env.scope.names.lookup x=some .local:=by first|exact .inl rfl|exact .inr rfl|assumption):PG X (.Name x pos) (bC i):=by
 intro Zt s σ H v u Q I r h;exact wpAny_assign_Name (dO I hN hi hx r (fun s' I'=>⟨_,H,I',h⟩) hf)
def kI:TGs:=fun vs σ H Q=>vs=[]/\Q σ H
def bY(t:TG)(u:TGs):TGs:=fun vs σ H Q=>∃v r,vs=v::r/\t v σ H fun ar H'=>u r ar H' Q
theorem aW:PGs X [] kI:=by
 intro Zt s σ H vs us Q I r h;obtain⟨e,h⟩:=h;subst e;cases r;exact assignInOrder_nil ⟨σ,H,I,h⟩
theorem aq{e:Expr}{es:List Expr}{t:TG}{u:TGs}(h1:PG X e t)(h2:PGs X es u)
  (hs:(assignEach (e::es) X.env).map (·.2)=assign e X.env::(assignEach es X.env).map (·.2):=by rfl):PGs X (e::es) (bY t u):=by
 intro Zt s σ H vs us Q I r h;obtain⟨v,vr,e1,h⟩:=h;subst e1
 cases r with
 |cons r rr=>
  rw[hs];refine assignInOrder_cons (thn (h1 Zt s σ H _ _ _ I r h) fun _ s1 ⟨KN,H1,I1,q1⟩=>?_);exact h2 Zt s1 KN H1 _ _ Q I1 rr q1
inductive GTupI(K:Frag)(n:Nat)(t:TGs)(v:V)(σ:St)(H:Hp)(Q:St->Hp->Prop):Prop
 |mk:∀a xs,(v=.ref a)->(SqT K H a xs)->(xs.length=n)->(t xs σ H Q)->GTupI K n t v σ H Q
def jR(K:Frag)(n:Nat)(t:TGs):TG:=fun v σ H Q=>GTupI K n t v σ H Q
theorem bI{es:List Expr}{k:Nat}{t:TGs}{n:Nat}(hc:X.calm=true)(h:PGs X es t)
  (hn:(assignEach es X.env).length=n:=by rfl) (fz:(assignEach es X.env).findIdx? (·.1)=none:=by rfl):PG X (.Tuple es k pos) (jR X.K n t):=by
 intro Zt s σ H v u Q I r hw;obtain⟨a,xs,e1,hq,hl,hw⟩:=hw;subst e1;cases r;obtain⟨Zs,rv,ht,hz⟩:=I.tuple hq;refine assign_Tuple_tuple (I.ok.hd hc) ht (by simp[hn,<-hl,rv.length]) fz fun h' hx=>?_;have I1:Inv X Zt σ H {s with heap:=h'}:=I.kept (t':=s.toks) fun b o e=>hx b o (Nat.ne_of_lt (Heap.lt_size e)) e;exact h Zt _ σ H xs _ Q I1 (by simpa using rv) hw
def Il(to ti:TE)(t:yj):TG:=fun v σ H Q=>to σ H fun o H1=>ti σ H1 fun i H2=>t o i v H2 fun H3=>Q σ H3
theorem tX{o i:Expr}{to ti:TE}{t:yj}(ho:PE X o to)(hi:PE X i ti)(hs:Eg X t)
  (ha:∀v,assign (.Subscript o i pos) X.env v=(do
   let ov <-holding [v] (eval o X.env)
   let iv <-holding [v,ov] (eval i X.env)
   standAt pos
   holding [v,ov,iv] (setItem ov iv v)
   release [v,ov,iv] []):=by intro _;rfl):PG X (.Subscript o i pos) (Il to ti t):=by
 intro Zt s σ H v u Q I r h;rw[ha];refine zAu (wpAny_holding (thn (ho Zt s σ H _ I h) fun ov s1 ⟨x,H1,I1,r1,q1⟩=>?_));refine zAu (wpAny_holding (thn (hi Zt s1 σ H1 _ I1 q1) fun iv s2 ⟨y,H2,I2,r2,q2⟩=>?_));refine zAu (wpAny_standAt (zAu (wpAny_holding (thn (hs Zt s2 σ H2 x y v ov iv u _ I2 r1 r2 r q2) fun _ s3 ⟨H3,I3,q3⟩=>?_))));exact wpAny_release ⟨σ,H3,I3,q3⟩
def wH(te:TE)(g:TG):TS:=fun D σ H=>te σ H fun x H1=>g x σ H1 D.nx
theorem cC{tg e:Expr}{te:TE}{g:TG}(he:PE X e te)(hg:PG X tg g)(hs:swapsWithSole [tg] e pos.line X.env=pure false:=by rfl)(hw:swappedStores [tg] e X.env=pure none:=by rfl)
  (h1:(assignEach [tg] X.env).map (·.2)=[assign tg X.env]:=by rfl):PS X (.Assign [tg] e pos) (wH te g):=by
 intro Zt s σ H D I h;refine wpAny_Assign_stores (thn (he Zt s σ H _ I h) fun v s1 ⟨x,H1,I1,r1,q1⟩=>?_) hs hw;rw[h1];exact thn (hg Zt s1 σ H1 x v _ I1 r1 q1) fun _ s2 q=>q
theorem ph{i:Nat}{x:Str}{e:Expr}{te:TE}{pos':Pos}(hN:X.N.Nodup)(hi:X.N[i]?=some x)(hx:Loc X.env.scope x)(he:PE X e te)(hs:swapsWith e (some (.Name x pos')) pos.line X.env=pure false:=by rfl)(hf:X.fn x=true\/X.env.scope.names.lookup x=some .local:=by first|exact .inl rfl|exact .inr rfl|assumption):
  PS X (.Assign [.Name x pos'] e pos) (wH te (bC i)):=by
 intro Zt s σ H D I h;refine wpAny_Assign_Name (thn (he Zt s σ H _ I h) fun v s1 ⟨y,H1,I1,r1,q1⟩=>?_) hs;exact dO I1 hN hi hx r1 (fun s2 I2=>⟨_,H1,I2,q1⟩) hf
def Im(i j:Nat)(ta:TA):TS:=fun D σ H=>ta σ H fun vs H1=>∃v w,vs=[v,w]/\D.nx ((σ.set i (some v)).set j (some w)) H1
theorem tY{i j:Nat}{x y:Str}{a b:Expr}{ta:TA}{px py pt:Pos}{kt k2 pt2}(hc:X.calm=true)(hN:X.N.Nodup)(hi:X.N[i]?=some x)(hj:X.N[j]?=some y)(bq:i≠j)
  (hx:X.env.scope.names.lookup x=some .local) (hy:X.env.scope.names.lookup y=some .local) (ha:PA X [a,b] ta)
  (hw:swappedStores [.Tuple [.Name x px,.Name y py] kt pt] (.Tuple [a,b] k2 pt2) X.env=pure (some [x,y]))
  (hs:swapsWithSole [.Tuple [.Name x px,.Name y py] kt pt] (.Tuple [a,b] k2 pt2) pos.line X.env=pure false:=by rfl):
  PS X (.Assign [.Tuple [.Name x px,.Name y py] kt pt] (.Tuple [a,b] k2 pt2) pos) (Im i j ta):=by
 intro Zt s σ H D I h;rw[exec_Assign_arm];refine zAu (wpAny_standAt ?_);rw[hs];refine zAu (zB0 ?_);rw[zAv Zx];refine zAu (Tuple_ (thn (ha _ Zt s σ H _ I h) fun us s1 ⟨vs,H1,I1,r1,q1⟩=>?_));obtain⟨v,w,e1,q1⟩:=q1;subst e1
 obtain⟨u1,u2,rfl,rv,dE⟩:∃u1 u2,us=[u1,u2]/\RelV v u1/\RelV w u2:=by
  cases r1 with
  |cons p q=>
   cases q with
   |cons p' q'=>
    cases q';exact⟨_,_,rfl,p,p'⟩
 refine wpAny_newObj_type ?_ (by show 2<=sizeLine;decide);have I2:Inv X Zt σ H1 {s1 with heap:=s1.heap.push {cls:=.type "tuple",data:=.seq [u1,u2].toArray}}:=I1.kept (t':=s1.toks) fun b o e=>zAy _ e;rw[hw];refine zAu (zB0 ?_);show wpAny (model X.prog X.w) X.A (do rule "assign.swapped-stores";let items <-unpackItems (.ref s1.heap.objs.size) 2 none;assignInOrder [fun v=>bindName X.env y v,fun v=>bindName X.env x v] items.reverse;pure Flow.next) _ _ _;refine zAu (wpAny_rule (zAu (unpackItems_tuple (items:=#[u1,u2]) (I.ok.hd hc) (IsTup.new s1.heap _) fun h' eJ=>?_)));have I3:=I2.kept (h':=h') (t':=s1.toks) fun b o e=>eJ b o (zB3 (zAz e)) e;show wpAny _ _ (assignInOrder [fun v=>bindName X.env y v,fun v=>bindName X.env x v] [u2,u1]>>=fun _=>pure Flow.next) _ _ _;refine zAu (assignInOrder_cons (wpAny_bindName (dO I3 hN hj (.inl hy) dE (fun s2 I4=>?_) (.inr hy))));refine assignInOrder_cons (wpAny_bindName (dO I4 hN hi (.inl hx) rv (fun s3 I5=>assignInOrder_nil (zB0 ?_)) (.inr hx)));rw[List.set_comm _ _ (Ne.symm bq)]at I5;exact⟨_,H1,I5,q1⟩
inductive TAugI(i:Nat)(te:TE)(ti:TIp)(D:Ends)(σ:St)(H:Hp):Prop
 |mk:∀x,(σ[i]?=some (some x))->(te σ H fun y H1=>ti x y H1 fun z H2=>D.nx (σ.set i (some z)) H2)->TAugI i te ti D σ H
def Ip(i:Nat)(te:TE)(ti:TIp):TS:=fun D σ H=>TAugI i te ti D σ H
theorem kJ{i:Nat}{x:Str}{e:Expr}{te:TE}{op:Operator}{ti:TIp}{pos':Pos}(hN:X.N.Nodup)(hi:X.N[i]?=some x)(hx:Loc X.env.scope x)(he:PE X e te)(ho:PIp X op ti)(hf:X.fn x=true\/X.env.scope.names.lookup x=some .local:=by first|exact .inl rfl|exact .inr rfl|assumption):
  PS X (.AugAssign (.Name x pos') op e pos) (Ip i te ti):=by
 intro Zt s σ H D I h;obtain⟨v,e1,h⟩:=h;obtain⟨m,hn,hl⟩:=I.loc;have KO:Vis X.env.scope x:=by rcases hx with k|k;exact .inl k;exact .inr (.inl k)
 obtain⟨u,r,l⟩:=hl i x v hi e1 KO;refine wpAny_AugAssign_Name ?_
 have go:wpAny (model X.prog X.w) X.A (eval e X.env) (fun w s₂=>wpAny (model X.prog X.w) X.A (inplaceOp op u w) (fun r s₃=>wpAny (model X.prog X.w) X.A (storeName X.env x r) (fun _=>SP X Zt D .next) X.xe s₃) X.xe s₂) X.xe s:=by
  refine thn (he Zt s σ H _ I h) fun w s1 ⟨y,H1,I1,r1,q1⟩=>?_;refine thn (ho Zt s1 σ H1 v y u w _ I1 r r1 q1) fun z s2 ⟨zv,H2,I2,r2,q2⟩=>?_;exact dO I2 hN hi hx r2 (fun s3 I3=>⟨_,H2,I3,q2⟩) hf
 rcases l with⟨hk,hm⟩|⟨hk,c,hc,hcell⟩
 .exact wpAny_loadName_local I.ok.kind hk hn hm go
 .rcases hk with hk|hk
  .exact wpAny_loadName_cell I.ok.kind hk hc hcell go
  .rcases hx with k|k
   .have:X.env.scope.names.lookup x=some .free:=hk;rw[k]at this;cases this
   .have:X.env.scope.names.lookup x=some .free:=hk;rw[k]at this;cases this
def G7(to ti te:TE)(kP:V->V->Hp->VK->Prop)(AL:TIp)(kQ:yj):TS:=fun D σ H=>to σ H fun o H1=>ti σ H1 fun i H2=>kP o i H2 fun x H3=>te σ H3 fun y H4=>AL x y H4 fun z H5=>kQ o i z H5 fun H6=>D.nx σ H6
def G8(X:Cx)(t:V->V->Hp->VK->Prop):Prop:=
 ∀(Zt:List (Addr×Obj)) (s:Shared) (σ:St) (H:Hp) (o i:V) (ov iv:Value) (Q:VK),Inv X Zt σ H s->RelV o ov->RelV i iv->t o i H Q->
  wpAny (model X.prog X.w) X.A (getItem ov iv) (EP X Zt σ Q) X.xe s
theorem pq{o i e:Expr}{to ti te:TE}{kP:V->V->Hp->VK->Prop}{AL:TIp}{kQ:yj}{op:Operator}{oS:Pos}(ho:PE X o to)(hi:PE X i ti)(hg:G8 X kP)(he:PE X e te)(hp:PIp X op AL)(hs:Eg X kQ)
  (ha:∀ov iv new,augStore i ov iv new=(do holding [new,ov,iv] (setItem ov iv new);release [new,ov,iv] [];pure .next):=by intros;rfl):PS X (.AugAssign (.Subscript o i oS) op e pos) (G7 to ti te kP AL kQ):=by
 intro Zt s σ H D I h;refine wpAny_AugAssign_SubscriptAny (thn (ho Zt s σ H _ I h) fun ov s1 ⟨x1,H1,I1,r1,q1⟩=>?_) ha;refine thn (hi Zt s1 σ H1 _ I1 q1) fun iv s2 ⟨x2,H2,I2,r2,q2⟩=>?_;refine thn (hg Zt s2 σ H2 x1 x2 ov iv _ I2 r1 r2 q2) fun old s3 ⟨x3,H3,I3,r3,q3⟩=>?_;refine thn (he Zt s3 σ H3 _ I3 q3) fun v s4 ⟨x4,H4,I4,r4,q4⟩=>?_;refine thn (hp Zt s4 σ H4 x3 x4 old v _ I4 r3 r4 q4) fun new s5 ⟨x5,H5,I5,r5,q5⟩=>?_
 exact thn (hs Zt s5 σ H5 x1 x2 x5 ov iv new _ I5 r1 r2 r5 q5) fun _ s6 ⟨H6,I6,q6⟩=>⟨σ,H6,I6,q6⟩
def ipI(f:Int->Int->Int):TIp:=fun x y H Q=>∃i j,x=.int i/\y=.int j/\Q (.int (f i j)) H
theorem yl:PIp X .Add (ipI fun i j=>i+j):=by
 intro Zt s σ H x y v u Q I r1 r2 h;obtain⟨i,j,e1,e2,q⟩:=h;subst e1;subst e2;obtain⟨t,rfl⟩:=r1;obtain⟨t',rfl⟩:=r2;exact iadd_int ⟨.int _,H,I.tok _,⟨_,rfl⟩,q⟩
theorem ym:PIp X .Sub (ipI fun i j=>i-j):=by
 intro Zt s σ H x y v u Q I r1 r2 h;obtain⟨i,j,e1,e2,q⟩:=h;subst e1;subst e2;obtain⟨t,rfl⟩:=r1;obtain⟨t',rfl⟩:=r2;exact isub_int ⟨.int _,H,I.tok _,⟨_,rfl⟩,q⟩
end
section
variable{X:Cx}{pos:Pos}
end
structure It where
 go:Nat->Hp->Prop
 yld:Nat->Hp->V->Hp->Prop
 stop:Nat->Hp->Prop
def pC(X:Cx)(Zt:List (Addr×Obj))(H:Hp)(b:Addr):Prop:=
 H b=none/\b≠X.env.locals/\b∉X.fs/\(b∈X.ex\/X.s₀.heap.objs.size<=b)/\(∀x c,X.env.cells.lookup x=some c->c≠b)/\∀p∈X.pn++Zt,p.1≠b
theorem Inv.fpOk{X:Cx}{Zt:List (Addr×Obj)}{σ:St}{H H':Hp}{s:Shared}{b:Addr}(I:Inv X Zt σ H s)(hb:s.heap.objs.size<=b)(hn:H' b=none):pC X Zt H' b:=by
 refine⟨hn,Nat.ne_of_gt (zB5 I.lt hb),I.nofs hb,.inr (Nat.le_trans I.sz hb),fun x c e z=>?_,fun p hp z=>?_⟩
 .obtain⟨v,q⟩:=I.cell x c e;exact absurd (zB5 q.lt (by rw[z];exact hb)) (Nat.lt_irrefl _)
 .exact absurd (zB5 (zAz (I.pin p hp).1) (by rw[z];exact hb)) (Nat.lt_irrefl _)
structure Turn(P:Program)(w:World)(K:Frag)(tg:Expr)(J:It)(fp:List Addr)(it:Addr)(tn:Nat->Heap->Prop):Prop where
 mem:it∈fp
 obj:∀i h,tn i h->∀b∈fp,∃o,h.get? b=some o/\∀v,o.data≠.cell v
 keep:∀i h h',tn i h->(∀b∈fp,∀o,h.get? b=some o->h'.get? b=some o)->tn i h'
 item:∀(X:Cx),X.prog=P->X.w=w->X.K=K->X.calm=true->∀(i:Nat) (Zt:List (Addr×Obj)) (s:Shared) (σ:St) (H:Hp) (E:Value->Shared->Prop),Inv X Zt σ H s->(∀b∈fp,pC X Zt H b)->tn i s.heap->J.go i H->
  wpAny (model P w) X.A (pyNext (.ref it)) (fun r s1=>∃u,r=some u /\
   wpAny (model P w) X.A (letOwnedTupleGo tg (.ref it) u) (fun _ s2=>∃x H',Inv X Zt σ H' s2/\RelV x u/\J.yld i H x H'/\tn (i+1) s2.heap/\∀b∈fp,H' b=none) E s1) E s
 done:∀(X:Cx),X.prog=P->X.w=w->X.K=K->X.calm=true->∀(i:Nat) (Zt:List (Addr×Obj)) (s:Shared) (σ:St) (H:Hp) (E:Value->Shared->Prop),Inv X Zt σ H s->(∀b∈fp,pC X Zt H b)->tn i s.heap->J.stop i H->
  wpAny (model P w) X.A (pyNext (.ref it)) (fun r s1=>r=none/\Inv X Zt σ H s1) E s
 self:∀(A:Around) (i:Nat) (s:Shared) (Q:Value->Shared->Prop) (E:Value->Shared->Prop),tn i s.heap->Q (.ref it) s->wpAny (model P w) A (pyIter (.ref it)) Q E s
abbrev TI:=St->Hp->(It->Hp->Prop)->Prop
def PIE(X:Cx)(Zt:List (Addr×Obj))(σ:St)(tg:Expr)(R:It->Hp->Prop)(vj:Value)(s2:Shared):Prop:=
 ∃(it:Addr) (fp:List Addr) (tn:Nat->Heap->Prop) (J:It) (H':Hp),vj=.ref it/\Inv X Zt σ H' s2/\Turn X.prog X.w X.K tg J fp it tn/\tn 0 s2.heap/\(∀b∈fp,pC X Zt H' b)/\R J H'
def PI(X:Cx)(tg iter:Expr)(wi:TI):Prop:=
 ∀(Zt:List (Addr×Obj)) (s:Shared) (σ:St) (H:Hp) (R:It->Hp->Prop),Inv X Zt σ H s->wi σ H R->
  wpAny (model X.prog X.w) X.A (eval iter X.env) (fun v s1=>wpAny (model X.prog X.w) X.A (pyIter v) (PIE X Zt σ tg R) X.xe s1) X.xe s
theorem yo{M:Model}{A:Around}{E:Value->Shared->Prop}{s:Shared}{tg:Expr}{it:Addr}{u:Value}{o:Obj}{n:String}{vs:Array Value}{Q:Unit->Shared->Prop}(ho:s.heap.get? it=some o)(hc:o.cls=.type n)(hd:o.data=.fields vs)
  (hn:["enumerate","zip","dict_itemiterator","dict_reverseitemiterator","odict_iterator","itertools.zip_longest","itertools.pairwise"].contains n=false) (hQ:Q () s):wpAny M A (letOwnedTupleGo tg (.ref it) u) Q E s:=by
 unfold letOwnedTupleGo
 cases tg<;>first
  |exact zB0 hQ
  | (cases u<;>first
    |exact zB0 hQ
    | (refine zAu (wpAny_load ho ?_)
       rw[hc,hd];show wpAny M A (if(["enumerate","zip","dict_itemiterator","dict_reverseitemiterator","odict_iterator","itertools.zip_longest","itertools.pairwise"].contains n&&vs[0]?==some (rawInt _))=true then _ else _) Q E s;rw[zAv (by intro h;rw[hn,Bool.false_and]at h;cases h)]
       exact zB0 hQ))
def Itl(K:Frag)(a:Addr):It:=
 ⟨fun i H=>∃xs x,SqL K H a xs/\xs[i]?=some x,fun i H x H'=>H'=H/\∀xs,SqL K H a xs->xs[i]?=some x,fun i H=>∃xs,SqL K H a xs/\xs.length<=i⟩
def Itt(K:Frag)(a:Addr):It:=
 ⟨fun i H=>∃xs x,SqT K H a xs/\xs[i]?=some x,fun i H x H'=>H'=H/\∀xs,SqT K H a xs->xs[i]?=some x,fun i H=>∃xs,SqT K H a xs/\xs.length<=i⟩
def Itr(lo:Int)(n:Nat):It:=⟨fun i _=>i<n,fun i H x H'=>H'=H/\x=.int (lo+i),fun i _=>n<=i⟩
theorem wI{P:Program}{w:World}{K:Frag}{tg:Expr}(a it:Addr):Turn P w K tg (Itl K a) [it] it (fun i h=>h.IsListIter it a i) where
 mem:=by simp
 obj:=fun i h st b hb=>by
  have e:b=it:=by simpa using hb
  subst e;obtain⟨o,e,c,d⟩:=st;exact⟨o,e,fun v z=>by rw[d]at z;cases z⟩
 keep:=fun i h h' st k=>st.at fun o e=>k it Zy o e
 item:=by
  intro X hP hw hK hc i Zt s σ H E I hf st hg;subst hP hw hK;obtain⟨xs,x,hq,hx⟩:=hg;obtain⟨Zs,rv,p,hz⟩:=I.list hq;obtain⟨u,hu,ru⟩:=rv.get hx;obtain⟨f0,f1,f2,f3,f4,f5⟩:=hf it Zy;refine wpAny_pyNext_list_item st p.isList (x:=u) (by simpa using hu) fun h' Zr sb=>?_;have I1:Inv X Zt σ H {s with heap:=h'}:=I.turned (t':=s.toks) (fun b o hb e=>(sb.2 b hb).trans e) f0 f1 f3 f4 f5;obtain⟨o,e,c,d⟩:=id Zr;exact⟨u,rfl,yo (s:={s with heap:=h'}) e c d Zx ⟨x,H,I1,ru,⟨rfl,fun ys hy=>by rw[I.list_inj hy hq];exact hx⟩,Zr,fun b hb=>(hf b hb).1⟩⟩
 done:=by
  intro X hP hw hK hc i Zt s σ H E I hf st hg;subst hP hw hK;obtain⟨xs,hq,hx⟩:=hg;obtain⟨Zs,rv,p,hz⟩:=I.list hq;obtain⟨f0,f1,f2,f3,f4,f5⟩:=hf it Zy;have hl:=rv.length
  exact wpAny_pyNext_list_end (I.ok.hd hc) st p.isList (by simp;lia) fun h' eb=>⟨rfl,I.turned (t':=s.toks) (fun b o hb e=>eb b o hb e) f0 f1 f3 f4 f5⟩
 self:=fun _ _ _ _ _ st h=>wpAny_pyIter_listiter st h
theorem tZ{P:Program}{w:World}{K:Frag}{tg:Expr}(a it:Addr):Turn P w K tg (Itt K a) [it] it (fun i h=>h.IsTupleIter it a i) where
 mem:=by simp
 obj:=fun i h st b hb=>by
  have e:b=it:=by simpa using hb
  subst e;obtain⟨o,e,c,d⟩:=st;exact⟨o,e,fun v z=>by rw[d]at z;cases z⟩
 keep:=fun i h h' st k=>st.at fun o e=>k it Zy o e
 item:=by
  intro X hP hw hK hc i Zt s σ H E I hf st hg;subst hP hw hK;obtain⟨xs,x,hq,hx⟩:=hg;obtain⟨Zs,rv,p,hz⟩:=I.tuple hq;obtain⟨u,hu,ru⟩:=rv.get hx;obtain⟨f0,f1,f2,f3,f4,f5⟩:=hf it Zy;refine wpAny_pyNext_tuple_item st (show s.heap.IsTuple a Zs.toArray from p) (x:=u) (by simpa using hu) fun h' Zr sb=>?_;have I1:Inv X Zt σ H {s with heap:=h'}:=I.turned (t':=s.toks) (fun b o hb e=>(sb.2 b hb).trans e) f0 f1 f3 f4 f5;obtain⟨o,e,c,d⟩:=id Zr;exact⟨u,rfl,yo (s:={s with heap:=h'}) e c d Zx ⟨x,H,I1,ru,⟨rfl,fun ys hy=>by rw[I.tuple_inj hy hq];exact hx⟩,Zr,fun b hb=>(hf b hb).1⟩⟩
 done:=by
  intro X hP hw hK hc i Zt s σ H E I hf st hg;subst hP hw hK;obtain⟨xs,hq,hx⟩:=hg;obtain⟨Zs,rv,p,hz⟩:=I.tuple hq;obtain⟨f0,f1,f2,f3,f4,f5⟩:=hf it Zy;have hl:=rv.length
  exact wpAny_pyNext_tuple_end (I.ok.hd hc) st (show s.heap.IsTuple a Zs.toArray from p) (by simp;lia) fun h' eb=>⟨rfl,I.turned (t':=s.toks) (fun b o hb e=>eb b o hb e) f0 f1 f3 f4 f5⟩
 self:=fun _ _ _ _ _ st h=>wpAny_pyIter_tupleiter st h
theorem u5{P:Program}{w:World}{K:Frag}{tg:Expr}(it:Addr)(lo:Int)(n:Nat):Turn P w K tg (Itr lo n) [it] it (fun i h=>IsRangeIter h it (lo+(i:Nat)*1) ((n:Int)-(i:Nat)) 1) where
 mem:=by simp
 obj:=fun i h st b hb=>by
  have e:b=it:=by simpa using hb
  subst e
  exact⟨_,st,fun v z=>by
   have z':Data.fields _=Data.cell v:=z
   cases z'⟩
 keep:=fun i h h' st k=>k it Zy _ st
 item:=by
  intro X hP hw hK hc i Zt s σ H E I hf st hg;subst hP hw hK;obtain⟨f0,f1,f2,f3,f4,f5⟩:=hf it Zy;have W:=Walks.range (prog:=X.prog) (w:=X.w) (I.ok.hd hc) it lo 1 n;refine W.item i s _ _ hg st fun v h' tk hv Zr kk=>?_;obtain⟨t,rfl⟩:=hv;have I1:Inv X Zt σ H {s with heap:=h',toks:=tk}:=I.turned (fun b o hb e=>kk b o (by simpa using hb) e) f0 f1 f3 f4 f5;refine⟨_,rfl,yo (s:={s with heap:=h',toks:=tk}) (n:="range_iterator") Zr rfl rfl Zx ⟨.int (lo+i),H,I1,⟨t,?_⟩,⟨rfl,rfl⟩,Zr,fun b hb=>(hf b hb).1⟩⟩;rw[Int.mul_one]
 done:=by
  intro X hP hw hK hc i Zt s σ H E I hf st hg;subst hP hw hK;obtain⟨f0,f1,f2,f3,f4,f5⟩:=hf it Zy
  exact wpAny_pyNext_range_end (I.ok.hd hc) st (by have:n<=i:=hg;lia) fun h' eb=>⟨rfl,I.turned (t':=s.toks) (fun b o hb e=>eb b o hb e) f0 f1 f3 f4 f5⟩
 self:=fun _ _ _ _ _ st h=>wpAny_pyIter_rangeiter st h
section
variable{X:Cx}{tg:Expr}
def G9(K:Frag)(tl:TE):TI:=fun σ H R=>tl σ H fun x H1=>∃a,x=.ref a/\(∃xs,SqL K H1 a xs)/\R (Itl K a) H1
def Ga(K:Frag)(tl:TE):TI:=fun σ H R=>tl σ H fun x H1=>∃a,x=.ref a/\(∃xs,SqT K H1 a xs)/\R (Itt K a) H1
theorem dz{l:Expr}{tl:TE}(hl:PE X l tl):PI X tg l (G9 X.K tl):=by
 intro Zt s σ H R I h;refine thn (hl Zt s σ H _ I h) fun v s1 ⟨x,H1,I1,r1,q1⟩=>?_;obtain⟨a,e,⟨xs,hq⟩,q⟩:=q1;subst e;cases r1;obtain⟨Zs,rv,p,hz⟩:=I1.list hq;refine wpAny_pyIter_list p.isList ?_;refine⟨s1.heap.objs.size,[s1.heap.objs.size],_,_,H1,rfl,I1.kept (t':=s1.toks) fun b o e=>Heap.get?_push_of_some _ e,wI a _,⟨_,Heap.get?_push_size _ rfl,rfl,rfl⟩,fun b hb=>?_,q⟩;have e:b=s1.heap.objs.size:=by simpa using hb
 subst e;exact I1.fpOk (zA3 _) (I1.hok.fresh (zA3 _))
theorem gm{l:Expr}{tl:TE}(hl:PE X l tl):PI X tg l (Ga X.K tl):=by
 intro Zt s σ H R I h;refine thn (hl Zt s σ H _ I h) fun v s1 ⟨x,H1,I1,r1,q1⟩=>?_;obtain⟨a,e,⟨xs,hq⟩,q⟩:=q1;subst e;cases r1;obtain⟨Zs,rv,p,hz⟩:=I1.tuple hq;refine wpAny_pyIter_tuple (show s1.heap.IsTuple a Zs.toArray from p) ?_;refine⟨s1.heap.objs.size,[s1.heap.objs.size],_,_,H1,rfl,I1.kept (t':=s1.toks) fun b o e=>Heap.get?_push_of_some _ e,tZ a _,⟨_,Heap.get?_push_size _ rfl,rfl,rfl⟩,fun b hb=>?_,q⟩;have e:b=s1.heap.objs.size:=by simpa using hb
 subst e;exact I1.fpOk (zA3 _) (I1.hok.fresh (zA3 _))
theorem qR{Zt:List (Addr×Obj)}{σ:St}{H:Hp}{s:Shared}{R:It->Hp->Prop}{E:Value->Shared->Prop}{lo hi:Int}{t u v:Tok}{tk:Nat}(I:Inv X Zt σ H s)(h1:-(2^62)<=lo)(h2:lo<2^62)(h3:-(2^62)<=hi)(h4:hi<2^62)
  (q:R (Itr lo (hi-lo).toNat) H):wpAny (model X.prog X.w) X.A (pyIter (.ref s.heap.objs.size)) (PIE X Zt σ tg R) E {s with heap:=s.heap.push {cls:=.type "range",data:=.fields #[.int lo t,.int hi u,.int 1 v]},toks:=tk}:=by
 refine wpAny_pyIter_range (IsRange.new ..) (small_one h1 h2 h3 h4) ?_;have I1:Inv X Zt σ H {s with heap:=s.heap.push {cls:=.type "range",data:=.fields #[.int lo t,.int hi u,.int 1 v]},toks:=tk}:=I.kept fun b o e=>zAy _ e
 refine⟨(s.heap.push {cls:=.type "range",data:=.fields #[.int lo t,.int hi u,.int 1 v]}).objs.size,[(s.heap.push {cls:=.type "range",data:=.fields #[.int lo t,.int hi u,.int 1 v]}).objs.size],_,_,H,rfl,
  I1.kept (t':=tk) fun b o e=>zAy _ e,u5 _ lo (hi-lo).toNat,?_,fun b hb=>?_,q⟩
 .have e1:lo+((0:Nat):Int)*1=lo:=by simp
  have e2:(((hi-lo).toNat:Nat):Int)-((0:Nat):Int)=Builtin.Range.rangeSize lo hi 1:=by rw[rangeSize_one];split<;>lia
  show IsRangeIter _ _ (lo+((0:Nat):Int)*1) ((((hi-lo).toNat:Nat):Int)-((0:Nat):Int)) 1;rw[e1,e2];exact zB1 _ rfl
 .have e:b=(s.heap.push {cls:=.type "range",data:=.fields #[.int lo t,.int hi u,.int 1 v]}).objs.size:=by simpa using hb
  subst e;exact I1.fpOk (zA3 _) (I1.hok.fresh (zA3 _))
def Gb(ta:TA):TI:=fun σ H R=>ta σ H fun vs H1=>∃j:Int,vs=[.int j]/\-(2^62)<=j/\j<2^62/\R (Itr 0 j.toNat) H1
def Gd(ta:TA):TI:=fun σ H R=>ta σ H fun vs H1=>∃i j:Int,vs=[.int i,.int j]/\(-(2^62)<=i/\i<2^62/\-(2^62)<=j/\j<2^62)/\R (Itr i (j-i).toNat) H1
theorem cz{a:Expr}{ta:TA}{p pos:Pos}(hg:Gl X "range")(hm:X.mg "range"=none)(ha:PA X [a] ta)(hs:starEach [a] X.env=[(false,eval a X.env)]:=by rfl):PI X tg (.Call (.Name "range" p) [a] [] pos) (Gb ta):=by
 intro Zt s σ H R I h;refine Call_ (gj I hg hm boot_range (PyProof.Rows.callWith_type1 (thn (ha pos Zt s σ H _ I h) fun us s1 ⟨vs,H1,I1,r1,q1⟩=>?_) hs rfl));obtain⟨j,e,q1,q2,q⟩:=q1;subst e
 cases r1 with
 |cons r rr=>
  cases rr;obtain⟨t,rfl⟩:=r;exact call_range_1 (qR I1 Zz Zz q1 q2 (by simpa using q))
theorem ir{a b:Expr}{ta:TA}{p pos:Pos}(hg:Gl X "range")(hm:X.mg "range"=none)(ha:PA X [a,b] ta)(hs:starEach [a,b] X.env=[(false,eval a X.env),(false,eval b X.env)]:=by rfl)(ix:starEach [b] X.env=[(false,eval b X.env)]:=by rfl):
  PI X tg (.Call (.Name "range" p) [a,b] [] pos) (Gd ta):=by
 intro Zt s σ H R I h;refine Call_ (gj I hg hm boot_range (PyProof.Rows.callWith_type1 (thn (ha pos Zt s σ H _ I h) fun us s1 ⟨vs,H1,I1,r1,q1⟩=>?_) (by rw[hs,ix]) (by rw[ix];rfl)));obtain⟨i,j,e,⟨q1,q2,q3,q4⟩,q⟩:=q1;subst e
 cases r1 with
 |cons r rr=>
  cases rr with
  |cons r' rr=>
   cases rr;obtain⟨t,rfl⟩:=r;obtain⟨t',rfl⟩:=r';exact call_range_2 (qR I1 q1 q2 q3 q4 q)
def Ir(wi:TI)(g:TG)(tb:TS):TS:=fun D σ H=>wi σ H fun J H1=>∃W:Nat->Nat->St->Hp->Prop,(∃m,W 0 m σ H1)/\∀i m σ H,W i m σ H->
 (J.stop i H/\D.nx σ H)\/(J.go i H/\∃N:St->Hp->Prop,(∀ar H',N ar H'->∃m',m'<m/\W (i+1) m' ar H')/\∀x H',J.yld i H x H'->g x σ H' fun aS H2=>tb {D with nx:=N,ct:=N,bk:=D.nx} aS H2)
def kW(fp:List Addr)(h:Heap):List (Addr×Obj):=fp.filterMap fun b=>(h.get? b).map fun o=>(b,o)
theorem gn{fp:List Addr}{h:Heap}{b:Addr}{o:Obj}(hb:b∈fp)(e:h.get? b=some o):(b,o)∈kW fp h:=List.mem_filterMap.mpr ⟨b,hb,by rw[e];rfl⟩
theorem wJ{fp:List Addr}{h:Heap}{p:Addr×Obj}(hp:p∈kW fp h):p.1∈fp/\h.get? p.1=some p.2:=by
 obtain⟨b,hb,e⟩:=List.mem_filterMap.mp hp
 cases q:h.get? b with
 |none=>rw[q]at e;cases e
 |some o=>
  rw[q]at e;have e':(b,o)=p:=zAl e;subst e';exact⟨hb,q⟩
theorem Inv.pinned{Zt:List (Addr×Obj)}{σ:St}{H:Hp}{s:Shared}{fp:List Addr}(I:Inv X Zt σ H s)(hf:∀b∈fp,pC X Zt H b)(ho:∀b∈fp,∃o,s.heap.get? b=some o/\∀v,o.data≠.cell v):Inv X (Zt++kW fp s.heap) σ H s:=
 I.pins_of fun p hp=>(zA6.mp hp).elim (fun z=>I.pin p (zBc _ z)) fun z=>by
  obtain⟨hb,e⟩:=wJ z;obtain⟨f0,f1,f2,_⟩:=hf p.1 hb;obtain⟨o,e',d⟩:=ho p.1 hb;rw[e]at e';cases e';exact⟨e,f0,f1,f2,d⟩
theorem Inv.unpinned{Zt pl:List (Addr×Obj)}{σ:St}{H:Hp}{s:Shared}(I:Inv X (Zt++pl) σ H s):Inv X Zt σ H s:=I.pins_of fun p hp=>I.pin p (zBc _ (List.mem_append_left _ hp))
theorem bV{iter:Expr}{body:List Stmt}{wi:TI}{g:TG}{tb:TS}{pos:Pos}(hp:PassesOwn (model X.prog X.w) X.A X.env X.xe)(hc:X.calm=true)(hi:PI X tg iter wi)(hg:PG X tg g)(hb:PSs X body tb)
  (hs:∀x,foldedSetIterable iter X.env x=pure x:=by intro _;rfl):PS X (.For tg iter body [] pos) (Ir wi g tb):=by
 intro Zt s σ H D I h;refine wpAny_For (thn (hi Zt s σ H _ I h) fun v s1 h1=>thn h1 fun vj s2 h2=>?_) hs;obtain⟨it,fp,tn,J,H2,e,I2,T,st2,f2,W,⟨m0,w0⟩,turn⟩:=h2;subst e
 have oT:∀{H':Hp},(∀b∈fp,H' b=none)->∀b∈fp,pC X Zt H' b:=fun hn b hb=>⟨hn b hb,(f2 b hb).2⟩
 refine codeAny_forLoop_any (fun n s'=>∃i ar H',Inv X Zt ar H' s'/\tn i s'.heap/\(∀b∈fp,H' b=none)/\W i n ar H') ?_ m0 ⟨0,σ,H2,I2,st2,fun b hb=>(f2 b hb).1,w0⟩;rintro n s3 ⟨i,iA,H3,I3,f6,vk,w3⟩;rcases turn i n iA H3 w3 with⟨stop,qn⟩|⟨go,N,hN,step⟩
 .refine wpAny_passesOwn hp (thn (T.done X rfl rfl rfl hc i Zt s3 iA H3 X.xe I3 (oT vk) f6 stop) fun r s4 ⟨hr,I4⟩=>?_);subst hr;exact wpAny_execs_nil ⟨iA,H3,I4,qn⟩
 .refine wpAny_passesOwn hp (thn (T.item X rfl rfl rfl hc i Zt s3 iA H3 X.xe I3 (oT vk) f6 go) fun r s4 ⟨u,hr,h4⟩=>?_);subst hr;refine wpAny_passesOwn hp (thn h4 fun _ s5 ⟨x,H5,I5,r5,y5,pd,BY⟩=>?_);have B0:=I5.pinned (oT BY) (T.obj _ _ pd);refine wpAny_passesOwn hp (thn (hg _ s5 iA H5 x u _ B0 r5 (step x H5 y5)) fun _ s6 ⟨kR,H6,I6,q6⟩=>?_);refine wpAny_passesOwn hp (thn (hb _ s6 kR H6 _ I6 q6) fun f s7 q7=>?_)
  have again:∀{iE:St} {H7:Hp},Inv X (Zt++kW fp s5.heap) iE H7 s7->N iE H7->∃m,m<n/\∃i ar H',Inv X Zt ar H' s7/\tn i s7.heap/\(∀b∈fp,H' b=none)/\W i m ar H':=fun{iE H7} I7 n7=>by
   obtain⟨m',hm,w7⟩:=hN iE H7 n7;refine⟨m',hm,i+1,iE,H7,I7.unpinned,T.keep _ _ _ pd fun b hb o e=>(I7.pin (b,o) (zBc _ (zBc _ (gn hb e)))).1,fun b hb=>?_,w7⟩;obtain⟨o,e,d⟩:=T.obj _ _ pd b hb;exact(I7.pin (b,o) (zBc _ (zBc _ (gn hb e)))).2.1
  cases f with
  |next=>obtain⟨iE,H7,I7,n7⟩:=q7;exact again I7 n7
  |cont=>obtain⟨iE,H7,I7,n7⟩:=q7;exact again I7 n7
  |brk=>obtain⟨iE,H7,I7,q7⟩:=q7;exact⟨iE,H7,I7.unpinned,q7⟩
  |ret v=>obtain⟨x7,iE,H7,I7,r7,q7⟩:=q7;exact⟨x7,iE,H7,I7.unpinned,r7,q7⟩
end
theorem gJ{K:Frag}{a:Addr}{xs:List V}{g:TG}{tb:TS}{D:Ends}{σ:St}{H:Hp}(Pv:Nat->St->Hp->Prop)(h0:Pv 0 σ H)(hl:∀i σ H,i<=xs.length->Pv i σ H->SqL K H a xs)
  (hs:∀i x σ H,xs[i]?=some x->Pv i σ H->g x σ H fun aS H2=>tb {D with nx:=Pv (i+1),ct:=Pv (i+1),bk:=D.nx} aS H2) (hd:∀σ H,Pv xs.length σ H->D.nx σ H):
  ∃W:Nat->Nat->St->Hp->Prop,(∃m,W 0 m σ H)/\∀i m σ H,W i m σ H->
   ((Itl K a).stop i H/\D.nx σ H)\/((Itl K a).go i H/\∃N:St->Hp->Prop,(∀ar H',N ar H'->∃m',m'<m/\W (i+1) m' ar H')/\∀x H',(Itl K a).yld i H x H'->g x σ H' fun aS H2=>tb {D with nx:=N,ct:=N,bk:=D.nx} aS H2):=by
 refine⟨fun i m σ H=>m=xs.length-i/\i<=xs.length/\Pv i σ H,⟨xs.length,by simp,Nat.zero_le _,h0⟩,?_⟩;rintro i m σ H ⟨rfl,hi,p⟩;have q:=hl i σ H hi p;by_cases ax:i<xs.length
 .refine .inr ⟨⟨xs,xs[i],q,by simp[ax]⟩,Pv (i+1),fun ar H' p'=>⟨xs.length-(i+1),Zz,rfl,ax,p'⟩,fun x H' y=>?_⟩;obtain⟨e,y⟩:=y;subst e;exact hs i x σ _ (y xs q) p
 .have e:i=xs.length:=Zz
  subst e;exact .inl ⟨⟨xs,q,zA3 _⟩,hd σ H p⟩
theorem Ay{K:Frag}{a:Addr}{xs:List V}{g:TG}{tb:TS}{D:Ends}{σ:St}{H:Hp}(Pv:Nat->St->Hp->Prop)(h0:Pv 0 σ H)(hl:∀i σ H,i<=xs.length->Pv i σ H->SqT K H a xs)
  (hs:∀i x σ H,xs[i]?=some x->Pv i σ H->g x σ H fun aS H2=>tb {D with nx:=Pv (i+1),ct:=Pv (i+1),bk:=D.nx} aS H2) (hd:∀σ H,Pv xs.length σ H->D.nx σ H):
  ∃W:Nat->Nat->St->Hp->Prop,(∃m,W 0 m σ H)/\∀i m σ H,W i m σ H->
   ((Itt K a).stop i H/\D.nx σ H)\/((Itt K a).go i H/\∃N:St->Hp->Prop,(∀ar H',N ar H'->∃m',m'<m/\W (i+1) m' ar H')/\∀x H',(Itt K a).yld i H x H'->g x σ H' fun aS H2=>tb {D with nx:=N,ct:=N,bk:=D.nx} aS H2):=by
 refine⟨fun i m σ H=>m=xs.length-i/\i<=xs.length/\Pv i σ H,⟨xs.length,by simp,Nat.zero_le _,h0⟩,?_⟩;rintro i m σ H ⟨rfl,hi,p⟩;have q:=hl i σ H hi p;by_cases ax:i<xs.length
 .refine .inr ⟨⟨xs,xs[i],q,by simp[ax]⟩,Pv (i+1),fun ar H' p'=>⟨xs.length-(i+1),Zz,rfl,ax,p'⟩,fun x H' y=>?_⟩;obtain⟨e,y⟩:=y;subst e;exact hs i x σ _ (y xs q) p
 .have e:i=xs.length:=Zz
  subst e;exact .inl ⟨⟨xs,q,zA3 _⟩,hd σ H p⟩
theorem bW{lo:Int}{n:Nat}{g:TG}{tb:TS}{D:Ends}{σ:St}{H:Hp}(Pv:Nat->St->Hp->Prop)(h0:Pv 0 σ H)
  (hs:∀i σ H,i<n->Pv i σ H->g (.int (lo+i)) σ H fun aS H2=>tb {D with nx:=Pv (i+1),ct:=Pv (i+1),bk:=D.nx} aS H2) (hd:∀σ H,Pv n σ H->D.nx σ H):
  ∃W:Nat->Nat->St->Hp->Prop,(∃m,W 0 m σ H)/\∀i m σ H,W i m σ H->
   ((Itr lo n).stop i H/\D.nx σ H)\/((Itr lo n).go i H/\∃N:St->Hp->Prop,(∀ar H',N ar H'->∃m',m'<m/\W (i+1) m' ar H')/\∀x H',(Itr lo n).yld i H x H'->g x σ H' fun aS H2=>tb {D with nx:=N,ct:=N,bk:=D.nx} aS H2):=by
 refine⟨fun i m σ H=>m=n-i/\i<=n/\Pv i σ H,⟨n,by simp,Nat.zero_le _,h0⟩,?_⟩;rintro i m σ H ⟨rfl,hi,p⟩;by_cases ax:i<n
 .refine .inr ⟨ax,Pv (i+1),fun ar H' p'=>⟨n-(i+1),Zz,rfl,ax,p'⟩,fun x H' y=>?_⟩;obtain⟨e,y⟩:=y;subst e y;exact hs i σ _ ax p
 .have e:i=n:=Zz
  subst e;exact .inl ⟨zA3 _,hd σ H p⟩
abbrev R2:=V->V->Hp->VK->Prop
def OpR(X:Cx)(f:Value->Value->Sem Value)(r:R2):Prop:=
 ∀(Zt:List (Addr×Obj)) (s:Shared) (σ:St) (H:Hp) (x y:V) (v u:Value) (Q:VK),Inv X Zt σ H s->RelV x v->RelV y u->r x y H Q->
  wpAny (model X.prog X.w) X.A (f v u) (EP X Zt σ Q) X.xe s
def UnR(X:Cx)(f:Value->Sem Value)(r:V->Hp->VK->Prop):Prop:=
 ∀(Zt:List (Addr×Obj)) (s:Shared) (σ:St) (H:Hp) (x:V) (v:Value) (Q:VK),Inv X Zt σ H s->RelV x v->r x H Q->
  wpAny (model X.prog X.w) X.A (f v) (EP X Zt σ Q) X.xe s
def fD(X:Cx)(f:Value)(r:List V->Hp->VK->Prop):Prop:=
 ∀(Zt:List (Addr×Obj)) (s:Shared) (σ:St) (H:Hp) (xs:List V) (us:List Value) (Q:VK),Inv X Zt σ H s->Vals xs us->r xs H Q->
  wpAny (model X.prog X.w) X.A (call f us) (EP X Zt σ Q) X.xe s
def tOp(r:R2)(ta tb:TE):TE:=fun σ H Q=>ta σ H fun x H1=>tb σ H1 fun y H2=>r x y H2 Q
def tUn(r:V->Hp->VK->Prop)(ta:TE):TE:=fun σ H Q=>ta σ H fun x H1=>r x H1 Q
inductive RII(C:Int->Int->Prop)(g:Int->Int->V)(x:V)(y:V)(H:Hp)(Q:VK):Prop
 |mk:∀i j,(x=.int i)->(y=.int j)->(C i j)->(Q (g i j) H)->RII C g x y H Q
def rI(C:Int->Int->Prop)(g:Int->Int->V):R2:=fun x y H Q=>RII C g x y H Q
inductive RI0I(g:Int->Int->V)(x:V)(y:V)(H:Hp)(Q:VK):Prop
 |mk:∀i j,(x=.int i)->(y=.int j)->(Q (g i j) H)->RI0I g x y H Q
def rI0(g:Int->Int->V):R2:=fun x y H Q=>RI0I g x y H Q
inductive RUI(g:Int->V)(x:V)(H:Hp)(Q:VK):Prop
 |mk:∀i,(x=.int i)->(Q (g i) H)->RUI g x H Q
def rU(g:Int->V):V->Hp->VK->Prop:=fun x H Q=>RUI g x H Q
section
variable{X:Cx}{a b c:Expr}{ta tb tc:TE}{pos:Pos}
theorem Eh(ha:PE X a ta)(hb:PE X b tb){Zt:List (Addr×Obj)}{s:Shared}{σ:St}{H:Hp}{R:V->V->Hp->Prop}(I:Inv X Zt σ H s)
  (h:ta σ H fun x H1=>tb σ H1 fun y H2=>R x y H2) {Q:Value->Shared->Prop} {f:Value->Value->Sem Value}
  (hf:∀v u s2 x y H2,Inv X Zt σ H2 s2->RelV x v->RelV y u->R x y H2->wpAny (model X.prog X.w) X.A (f v u) Q X.xe s2):
  wpAny (model X.prog X.w) X.A (eval a X.env) (fun v s₁=>wpAny (model X.prog X.w) X.A (eval b X.env) (fun u s₂=>wpAny (model X.prog X.w) X.A (f v u) Q X.xe s₂) X.xe s₁) X.xe s:=by
 refine thn (ha Zt s σ H _ I h) fun v s1 ⟨x,H1,I1,r1,q1⟩=>?_;refine thn (hb Zt s1 σ H1 _ I1 q1) fun u s2 ⟨y,H2,I2,r2,q2⟩=>?_;exact hf v u s2 x y H2 I2 r1 r2 q2
theorem aR{op:Operator}{r:R2}(ho:OpR X (binaryOp op) r)(ha:PE X a ta)(hb:PE X b tb):PE X (.BinOp a op b pos) (tOp r ta tb):=by
 intro Zt s σ H Q I h;exact wpAny_BinOp (Eh ha hb I h fun v u s2 x y H2 I2 rx ry q=>ho Zt s2 σ H2 x y v u Q I2 rx ry q)
theorem Ge{op:UnaryOp}{r:V->Hp->VK->Prop}(ho:UnR X (unaryOp op) r)(ha:PE X a ta):PE X (.UnaryOp op a pos) (tUn r ta):=by
 intro Zt s σ H Q I h;exact UnaryOp_ (thn (ha Zt s σ H _ I h) fun v s1 ⟨x,H1,I1,r1,q1⟩=>ho Zt s1 σ H1 x v Q I1 r1 q1)
theorem opI{f:Value->Value->Sem Value}{C:Int->Int->Prop}{g:Int->Int->Int}
  (rule:∀(i j:Int) (t u:Tok) (s:Shared) (Q:Value->Shared->Prop) (E:Value->Shared->Prop),C i j->Q (.int (g i j) s.toks) {s with toks:=s.toks+1}->wpAny (model X.prog X.w) X.A (f (.int i t) (.int j u)) Q E s):
  OpR X f (rI C fun i j=>.int (g i j)):=by
 intro Zt s σ H x y v u Q I rx ry h;obtain⟨i,j,rfl,rfl,hc,q⟩:=h;obtain⟨t,rfl⟩:=rx;obtain⟨t',rfl⟩:=ry;exact rule i j t t' s _ _ hc ⟨.int (g i j),H,I.tok _,⟨_,rfl⟩,q⟩
theorem Gf{f:Value->Value->Sem Value}{g:Int->Int->Int}
  (rule:∀(i j:Int) (t u:Tok) (s:Shared) (Q:Value->Shared->Prop) (E:Value->Shared->Prop),Q (.int (g i j) s.toks) {s with toks:=s.toks+1}->wpAny (model X.prog X.w) X.A (f (.int i t) (.int j u)) Q E s):
  OpR X f (rI0 fun i j=>.int (g i j)):=by
 intro Zt s σ H x y v u Q I rx ry h;obtain⟨i,j,rfl,rfl,q⟩:=h;obtain⟨t,rfl⟩:=rx;obtain⟨t',rfl⟩:=ry;exact rule i j t t' s _ _ ⟨.int (g i j),H,I.tok _,⟨_,rfl⟩,q⟩
theorem Az{f:Value->Value->Sem Value}{g:Int->Int->Bool}
  (rule:∀(i j:Int) (t u:Tok) (s:Shared) (Q:Value->Shared->Prop) (E:Value->Shared->Prop),Q (.bool (g i j)) s->wpAny (model X.prog X.w) X.A (f (.int i t) (.int j u)) Q E s):
  OpR X f (rI0 fun i j=>.bl (g i j)):=by
 intro Zt s σ H x y v u Q I rx ry h;obtain⟨i,j,rfl,rfl,q⟩:=h;obtain⟨t,rfl⟩:=rx;obtain⟨t',rfl⟩:=ry;exact rule i j t t' s _ _ ⟨.bl (g i j),H,I,rfl,q⟩
def Iu(i j:Int):Prop:=0<j/\j<1073741824
def Iv(i j:Int):Prop:=0<=j/\j<=1000000/\i.natAbs<2^64
def CMul(i j:Int):Prop:=(-(2^64)<i/\i<2^64)\/(-(2^64)<j/\j<2^64)
theorem CMul.ok{i j:Int}(h:CMul i j):IntMulOk i j:=by
 rcases h with⟨h1,h2⟩|⟨h1,h2⟩
 .exact .of_left (intBits_le_64 h1 h2)
 .exact .of_right (intBits_le_64 h1 h2)
theorem bz:OpR X (binaryOp .Add) (rI0 fun i j=>.int (i+j)):=Gf fun _ _ _ _ _ _ _ q=>add_int q
theorem fO:OpR X (binaryOp .Sub) (rI0 fun i j=>.int (i-j)):=Gf fun _ _ _ _ _ _ _ q=>sub_int q
theorem gK:OpR X (binaryOp .Mult) (rI CMul fun i j=>.int (i*j)):=opI fun _ _ _ _ _ _ _ hc q=>mul_int q hc.ok
theorem pF:OpR X (binaryOp .FloorDiv) (rI Iu fun i j=>.int (i / j)):=opI fun i j _ _ _ _ _ hc q=>by
 have h1:(0:Int)<j:=hc.1;have h2:j<1073741824:=hc.2;exact floordiv_int Zz (by rw[Int.fdiv_eq_ediv_of_nonneg i Zz];exact q) (.inl (PyProof.noPylong_small Zz))
theorem gq:OpR X (binaryOp .Mod) (rI (fun _ j=>0<j) fun i j=>.int (i % j)):=opI fun i j _ _ _ _ _ hc q=>by
 have h1:(0:Int)<j:=hc;exact mod_int' Zz (by rw[Int.fmod_eq_emod_of_nonneg i Zz];exact q)
theorem u6:OpR X (binaryOp .Pow) (rI Iv fun i j=>.int (i^j.toNat)):=opI fun _ _ _ _ _ _ _ hc q=>pow_int_small hc.1 hc.2.1 hc.2.2 q
theorem unI{f:Value->Sem Value}{g:Int->Int}
  (rule:∀(i:Int) (t:Tok) (s:Shared) (Q:Value->Shared->Prop) (E:Value->Shared->Prop),Q (.int (g i) s.toks) {s with toks:=s.toks+1}->wpAny (model X.prog X.w) X.A (f (.int i t)) Q E s):
  UnR X f (rU fun i=>.int (g i)):=by
 intro Zt s σ H x v Q I rx h;obtain⟨i,rfl,q⟩:=h;obtain⟨t,rfl⟩:=rx;exact rule i t s _ _ ⟨.int (g i),H,I.tok _,⟨_,rfl⟩,q⟩
theorem Ei:UnR X (unaryOp .USub) (rU fun i=>.int (-i)):=unI fun _ _ _ _ _ q=>neg_int q
end
def Gg:V->V->Bool
 |.non,.non=>true|.non,.int _=>true|.int _,.non=>true|.non,.bl _=>true|.bl _,.non=>true|.non,.str _=>true|.str _,.non=>true
 |.int _,.int _=>true|.bl _,.bl _=>true|.str _,.str _=>true|.byt _,.byt _=>true
 |.int _,.str _=>true|.str _,.int _=>true|.bl _,.str _=>true|.str _,.bl _=>true
 |_,_=>false
def rEq:R2:=fun x y H Q=>Gg x y=true/\Q (.bl (decide (x=y))) H
def rNe:R2:=fun x y H Q=>Gg x y=true/\Q (.bl (!decide (x=y))) H
theorem uV{i j:Int}:decide (V.int i=V.int j)=(i==j):=by
 rw[Bool.eq_iff_iff];simp
theorem yp{i j:Bool}:decide (V.bl i=V.bl j)=(i==j):=by
 rw[Bool.eq_iff_iff];simp
theorem uW{i j:Str}:decide (V.str i=V.str j)=(i==j):=by
 rw[Bool.eq_iff_iff];simp
theorem uX{i j:Array UInt8}:decide (V.byt i=V.byt j)=(i.toList==j.toList):=by
 rw[Bool.eq_iff_iff];cases i;cases j;simp
section
variable{X:Cx}{a b c:Expr}{ta tb tc:TE}{pos:Pos}
theorem bx{Zt:List (Addr×Obj)}{σ:St}{H:Hp}{s:Shared}{Q:VK}{k k':Bool}(I:Inv X Zt σ H s)(q:Q (.bl k) H)(e:k=k'):EP X Zt σ Q (.bool k') s:=by
 subst e;exact⟨.bl k,H,I,rfl,q⟩
theorem nC:OpR X (compareOp .Eq) rEq:=by
 intro Zt s σ H x y v u Q I rx ry h;obtain⟨hs,q⟩:=h
 cases x with
 |non=>
  cases rx
  cases y with
  |non=>cases ry;exact PySem.EqNone.eq_none_none (bx I q Zy)
  |bl j=>cases ry;exact PySem.EqNone.eq_none_bool (bx I q Zy)
  |int j=>obtain⟨t',rfl⟩:=ry;exact PySem.EqNone.eq_none_int (bx I q Zy)
  |str j=>obtain⟨t',rfl⟩:=ry;exact PySem.EqNone.eq_none_str (bx I q Zy)
  |_=>exact absurd (show false=true from hs) zAg
 |bl i=>
  cases rx
  cases y with
  |non=>cases ry;exact PySem.EqNone.eq_bool_none (bx I q Zy)
  |bl j=>cases ry;exact eq_bool (bx I q yp)
  |str j=>obtain⟨t',rfl⟩:=ry;exact PySem.EqMixed.eq_bool_str (bx I q Zy)
  |_=>exact absurd (show false=true from hs) zAg
 |int i=>
  obtain⟨t,rfl⟩:=rx
  cases y with
  |non=>cases ry;exact PySem.EqNone.eq_int_none (bx I q Zy)
  |int j=>obtain⟨t',rfl⟩:=ry;exact eq_int (bx I q uV)
  |str j=>obtain⟨t',rfl⟩:=ry;exact PySem.EqMixed.eq_int_str (bx I q Zy)
  |_=>exact absurd (show false=true from hs) zAg
 |str i=>
  obtain⟨t,rfl⟩:=rx
  cases y with
  |non=>cases ry;exact PySem.EqNone.eq_str_none (bx I q Zy)
  |bl j=>cases ry;exact PySem.EqMixed.eq_str_bool (bx I q Zy)
  |int j=>obtain⟨t',rfl⟩:=ry;exact PySem.EqMixed.eq_str_int (bx I q Zy)
  |str j=>obtain⟨t',rfl⟩:=ry;exact eq_str (bx I q uW)
  |_=>exact absurd (show false=true from hs) zAg
 |byt i=>
  obtain⟨t,rfl⟩:=rx
  cases y with
  |byt j=>obtain⟨t',rfl⟩:=ry;exact PySem.W.eq_bytes (bx I q uX)
  |_=>exact absurd (show false=true from hs) zAg
 |_=>cases y<;>exact absurd (show false=true from hs) zAg
theorem Dh:OpR X (compareOp .NotEq) rNe:=by
 intro Zt s σ H x y v u Q I rx ry h;obtain⟨hs,q⟩:=h
 cases x with
 |non=>
  cases rx
  cases y with
  |non=>cases ry;exact PySem.EqNone.ne_none_none (bx I q Zy)
  |bl j=>cases ry;exact PySem.EqNone.ne_none_bool (bx I q Zy)
  |int j=>obtain⟨t',rfl⟩:=ry;exact PySem.EqNone.ne_none_int (bx I q Zy)
  |str j=>obtain⟨t',rfl⟩:=ry;exact PySem.EqNone.ne_none_str (bx I q Zy)
  |_=>exact absurd (show false=true from hs) zAg
 |bl i=>
  cases rx
  cases y with
  |non=>cases ry;exact PySem.EqNone.ne_bool_none (bx I q Zy)
  |bl j=>cases ry;exact ne_bool (bx I q (congrArg not yp))
  |str j=>obtain⟨t',rfl⟩:=ry;exact PySem.EqMixed.ne_bool_str (bx I q Zy)
  |_=>exact absurd (show false=true from hs) zAg
 |int i=>
  obtain⟨t,rfl⟩:=rx
  cases y with
  |non=>cases ry;exact PySem.EqNone.ne_int_none (bx I q Zy)
  |int j=>obtain⟨t',rfl⟩:=ry;exact ne_int (bx I q (congrArg not uV))
  |str j=>obtain⟨t',rfl⟩:=ry;exact PySem.EqMixed.ne_int_str (bx I q Zy)
  |_=>exact absurd (show false=true from hs) zAg
 |str i=>
  obtain⟨t,rfl⟩:=rx
  cases y with
  |non=>cases ry;exact PySem.EqNone.ne_str_none (bx I q Zy)
  |bl j=>cases ry;exact PySem.EqMixed.ne_str_bool (bx I q Zy)
  |int j=>obtain⟨t',rfl⟩:=ry;exact PySem.EqMixed.ne_str_int (bx I q Zy)
  |str j=>obtain⟨t',rfl⟩:=ry;exact ne_str (bx I q (congrArg not uW))
  |_=>exact absurd (show false=true from hs) zAg
 |byt i=>
  obtain⟨t,rfl⟩:=rx
  cases y with
  |byt j=>obtain⟨t',rfl⟩:=ry;exact PySem.W.ne_bytes (bx I q (congrArg not uX))
  |_=>exact absurd (show false=true from hs) zAg
 |_=>cases y<;>exact absurd (show false=true from hs) zAg
theorem iI:OpR X (compareOp .Lt) (rI0 fun i j=>.bl (decide (i<j))):=Az fun _ _ _ _ _ _ _ q=>lt_int q
theorem bH:OpR X (compareOp .LtE) (rI0 fun i j=>.bl (decide (i<=j))):=Az fun _ _ _ _ _ _ _ q=>le_int q
theorem kY:OpR X (compareOp .Gt) (rI0 fun i j=>.bl (decide (j<i))):=Az fun _ _ _ _ _ _ _ q=>gt_int q
theorem yq:OpR X (compareOp .GtE) (rI0 fun i j=>.bl (decide (j<=i))):=Az fun _ _ _ _ _ _ _ q=>ge_int q
theorem yr:OpR X (compareOp .Is) (fun x y H Q=>y=.non/\Q (.bl (decide (x=.non))) H):=by
 intro Zt s σ H x y v u Q I rx ry h;obtain⟨rfl,q⟩:=h;cases ry;refine is_none_gen (bx I q ?_)
 cases x<;>first
  | (cases rx;rfl)
  | (obtain⟨t,rfl⟩:=rx;rfl)
theorem bD(b:Expr){op:CmpOp}(h:op≠.In:=by decide)(h2:op≠.NotIn:=by decide):behindInMarks op b=false:=by
 have e1:(op==CmpOp.In)=false:=by cases op<;>first|rfl|exact absurd rfl h
 have e2:(op==CmpOp.NotIn)=false:=by cases op<;>first|rfl|exact absurd rfl h2
 cases b<;>simp[behindInMarks,e1,e2]
theorem iu{op:CmpOp}{r:R2}(ho:OpR X (compareOp op) r)(ha:PE X a ta)(hb:PE X b tb)(hm:behindInMarks op b=false):PE X (.Compare a [op] [b] pos) (tOp r ta tb):=by
 intro Zt s σ H Q I h;exact wpAny_Compare1 (Eh ha hb I h fun v u s2 x y H2 I2 rx ry q=>ho Zt s2 σ H2 x y v u Q I2 rx ry q) hm
def Di(t:TE):TT:=fun σ H Q=>t σ H fun x H'=>∃k,x=.bl k/\Q k H'
theorem bG{op:CmpOp}{r:R2}(ho:OpR X (compareOp op) r)(ha:PE X a ta)(hb:PE X b tb)(hm:behindInMarks op b=false):PT X (.Compare a [op] [b] pos) (Di (tOp r ta tb)):=by
 intro Zt s σ H Q I h
 refine wpAny_isTrue_Compare1 (thn (ha Zt s σ H _ I h) fun v s1 ⟨x,H1,I1,r1,q1⟩=>thn (hb Zt s1 σ H1 _ I1 q1) fun u s2 ⟨y,H2,I2,r2,q2⟩=>
  thn (ho Zt s2 σ H2 x y v u _ I2 r1 r2 q2) fun c s3 ⟨z,H3,I3,r3,k,e,q3⟩=>?_) hm
 subst e;cases r3;exact wpAny_truthy_bool ⟨H3,I3,q3⟩
def u9(r r':R2)(ta tb tc:TE):TE:=fun σ H Q=>ta σ H fun x H1=>tb σ H1 fun y H2=>r x y H2 fun z H3=>∃k,z=.bl k /\
 (if k=true then tc σ H3 fun w' H4=>r' y w' H4 Q else Q (.bl false) H3)
theorem cR{op pe:CmpOp}{r r':R2}(ho:OpR X (compareOp op) r)(ip:OpR X (compareOp pe) r')(ha:PE X a ta)(hb:PE X b tb)(hc:PE X c tc)
  (hm:lastMarks [op,pe] [b,c]=false:=by with_unfolding_all rfl):PE X (.Compare a [op,pe] [b,c] pos) (u9 r r' ta tb tc):=by
 intro Zt s σ H Q I h
 refine Compare_chain (thn (ha Zt s σ H _ I h) fun v s1 ⟨x,H1,I1,r1,q1⟩=>chain_link (thn (hb Zt s1 σ H1 _ I1 q1) fun u s2 ⟨y,H2,I2,r2,q2⟩=>
  thn (ho Zt s2 σ H2 x y v u _ I2 r1 r2 q2) fun d s3 ⟨z,H3,I3,r3,k,e,q3⟩=>?_)) hm
 subst e;cases r3;refine wpAny_truthy_bool ?_
 cases k with
 |false=>exact ite_ff ⟨.bl false,H3,I3,rfl,q3⟩
 |true=>exact ite_tt (chain_last (thn (hc Zt s3 σ H3 _ I3 q3) fun w' s4 ⟨z',H4,I4,r4,q4⟩=>ip Zt s4 σ H4 y z' u w' Q I4 r2 r4 q4))
theorem dR{op pe:CmpOp}{r r':R2}(ho:OpR X (compareOp op) r)(ip:OpR X (compareOp pe) r')(ha:PE X a ta)(hb:PE X b tb)(hc:PE X c tc)
  (hm:lastMarks [op,pe] [b,c]=false:=by with_unfolding_all rfl):PT X (.Compare a [op,pe] [b,c] pos) (Di (u9 r r' ta tb tc)):=by
 intro Zt s σ H Q I h
 refine isTrue_chain (thn (ha Zt s σ H _ I h) fun v s1 ⟨x,H1,I1,r1,q1⟩=>test_link (thn (hb Zt s1 σ H1 _ I1 q1) fun u s2 ⟨y,H2,I2,r2,q2⟩=>
  thn (ho Zt s2 σ H2 x y v u _ I2 r1 r2 q2) fun d s3 ⟨z,H3,I3,r3,k,e,q3⟩=>?_)) hm
 subst e;cases r3;refine wpAny_truthy_bool ?_
 cases k with
 |false=>
  obtain⟨k',e',q'⟩:=q3;cases e';exact ite_ff ⟨H3,I3,q'⟩
 |true=>
  refine ite_tt (test_last (thn (hc Zt s3 σ H3 _ I3 q3) fun w' s4 ⟨z',H4,I4,r4,q4⟩=>thn (ip Zt s4 σ H4 y z' u w' _ I4 r2 r4 q4) fun d' s5 ⟨z2,H5,I5,r5,k2,e2,q5⟩=>?_));subst e2;cases r5;exact wpAny_truthy_bool ⟨H5,I5,q5⟩
theorem kZ:(sizeLine:Nat)<2^63:=by rw[sizeLine_eq];decide
theorem vals1{x:V}{us:List Value}(r:Vals [x] us):∃u,us=[u]/\RelV x u:=by
 cases r with
 |cons r1 r2=>cases r2;exact⟨_,rfl,r1⟩
theorem vals2{x y:V}{us:List Value}(r:Vals [x,y] us):∃u w',us=[u,w']/\RelV x u/\RelV y w':=by
 cases r with
 |cons r1 r2=>
  cases r2 with
  |cons r3 r4=>cases r4;exact⟨_,_,rfl,r1,r3⟩
theorem nF(hc:X.calm=true):fD X (.builtin "max") (fun xs H Q=>∃i j,xs=[.int i,.int j]/\Q (.int (if j>i then j else i)) H):=by
 intro Zt s σ H xs us Q I r h;obtain⟨i,j,rfl,q⟩:=h;obtain⟨u,w',rfl,⟨t,rfl⟩,⟨t',rfl⟩⟩:=vals2 r
 refine max_two_ints (I.ok.hd hc) fun h' tk k=>⟨_,H,I.kept k,?_,q⟩
 by_cases hj:j>i
 .rw[zAx hj,zAx hj];exact⟨_,rfl⟩
 .rw[zAv hj,zAv hj];exact⟨_,rfl⟩
theorem iw(hc:X.calm=true):fD X (.builtin "min") (fun xs H Q=>∃i j,xs=[.int i,.int j]/\Q (.int (if j<i then j else i)) H):=by
 intro Zt s σ H xs us Q I r h;obtain⟨i,j,rfl,q⟩:=h;obtain⟨u,w',rfl,⟨t,rfl⟩,⟨t',rfl⟩⟩:=vals2 r
 refine min_two_ints (I.ok.hd hc) fun h' tk k=>⟨_,H,I.kept k,?_,q⟩
 by_cases hj:j<i
 .rw[zAx hj,zAx hj];exact⟨_,rfl⟩
 .rw[zAv hj,zAv hj];exact⟨_,rfl⟩
theorem wK:fD X (.type "int") (fun xs H Q=>(∃i,xs=[.int i]/\Q (.int i) H)\/∃k,xs=[.bl k]/\Q (.int (if k then 1 else 0)) H):=by
 intro Zt s σ H xs us Q I r h;rcases h with⟨i,rfl,q⟩|⟨k,rfl,q⟩
 .obtain⟨u,rfl,t,rfl⟩:=vals1 r;exact call_int_int ⟨.int i,H,I,⟨_,rfl⟩,q⟩
 .obtain⟨u,rfl,r1⟩:=vals1 r;cases r1;exact call_int_bool ⟨.int (if k then 1 else 0),H,I.tok _,⟨_,rfl⟩,q⟩
end
structure ObjM(h:Heap)(x dx C:Addr)(mA:Str->Option Value):Prop where
 obj:h.get? x=some (PySem.W.instObj C dx)
 ns:h.Ns1 dx mA
 ne:dx≠x
theorem wL{h:Heap}{dx:Addr}{mA:Str->Option Value}(n:h.Ns1 dx mA):∃od,h.get? dx=some od/\∀name,PySem.W.lookIn name od=some (mA name):=by
 obtain⟨o,es,ep,ho,hd,hk,_,hm⟩:=n;refine⟨o,ho,fun name=>?_⟩;have e:=hm name;unfold nsFind findBy at e;rw[<-Array.find?_toList]at e;unfold PySem.W.lookIn;rw[hd];dsimp only;split
 .rename_i y q
  rw[q]at e;exact congrArg some e
 .rename_i q
  rw[q]at e
  have a:es.toList.any (·.refKey)=false:=by
   rw[List.any_eq_false];intro y hy;obtain⟨z,t,B6⟩:=hk y (Array.mem_toList_iff.mp hy);simp[DictEntry.refKey,B6]
  have a':¬es.toList.any (·.refKey)=true:=by rw[a];exact zAg
  rw[zAv a'];exact congrArg some e
theorem ObjM.look{h:Heap}{x dx C:Addr}{mA:Str->Option Value}(I:ObjM h x dx C mA):∃od,PySem.W.InstAt h x (PySem.W.instObj C dx) C (some od)/\∀name,PySem.W.lookIn name od=some (mA name):=
 let⟨od,ho,hl⟩:=wL I.ns
 ⟨od,⟨I.obj,rfl,rfl,ho⟩,hl⟩
section
variable{prog:Program}{w:World}{A:Around}{E:Value->Shared->Prop}{s:Shared}{K:Frag}{x dx C f:Addr}{mA:Str->Option Value}{name:Str}{v:Value}
end
theorem RelO.some_of{v:V}{o:Option Value}(r:RelO (some v) o):∃u,o=some u/\RelV v u:=by
 cases o with
 |none=>exact(show False from r).elim
 |some u=>exact⟨u,rfl,r⟩
section
variable{P:Program}{w:World}{H H':Hp}{h h':Heap}{a C dx:Addr}{fs KG:List (Str×V)}
theorem Ba(hok:HOk P w H h)(e:H a=some (.ins C dx fs)):∃mA,ObjM h a dx C mA/\(∀f,RelO (fs.lookup f) (mA f))/\PySem.Within mA (fs.map (·.1))/\fs.length<=1000/\H dx=some (.own a):=by
 obtain⟨d,z,ne,ob,mA,n,r,q⟩:=(show ObjOk P w H h a (.ins C dx fs)from hok a _ e)
 exact⟨mA,⟨ob,n,ne⟩,r,q,z,d⟩
end
structure Cls(K:Frag)(C:Addr):Prop where
 pg:PySem.W.plainGet K C Str.empty=true
 hd:PySem.W.hasDictIn K C=true
 po:PySem.W.plainOver K C=true
 sa:PySem.W.findIn K (.ref C) "__setattr__"=some (some (.builtin "object.__setattr__"))
theorem Cls.get{K:Frag}{C:Addr}(c:Cls K C)(f:Str):PySem.W.plainGet K C f=true:=c.pg
section
variable{X:Cx}{Zt:List (Addr×Obj)}{σ:St}{H:Hp}{s:Shared}{a C dx:Addr}{fs:List (Str×V)}{f:Str}{v:V}{A:Around}{E:Value->Shared->Prop}
end
section
variable{X:Cx}{o e value:Expr}{f:Str}{pos pos' oS:Pos}{ta tv:TE}
end
section
variable{X:Cx}{Zt:List (Addr×Obj)}{σ:St}{H:Hp}{s:Shared}{A:Around}{E:Value->Shared->Prop}{Q:Value->Shared->Prop}{c:Value}{b:Bool}
inductive TyOf(K:Frag)(H:Hp):V->Value->Prop where
 |non:TyOf K H .non (.type "NoneType")
 |bl (x:Bool):TyOf K H (.bl x) (.type "bool")
 |int (i:Int):TyOf K H (.int i) (.type "int")
 |str (x:Str):TyOf K H (.str x) (.type "str")
 |flt (x:UInt64):TyOf K H (.flt x) (.type "float")
 |lst {a:Addr} {xs:List V} (e:H a=some (.lst xs)):TyOf K H (.ref a) (.type "list")
 |frz {a:Addr} {o:Obj} {xs:List V} (e:H a=some (.frz o (.lst xs))):TyOf K H (.ref a) (.type "list")
 |tup {a:Addr} {xs:List V} (e:H a=some (.tup xs)):TyOf K H (.ref a) (.type "tuple")
 |dK {a:Addr} {kvs:List (Key×V)} (e:H a=some (.dK kvs)):TyOf K H (.ref a) (.type "dict")
 |dT {a:Addr} {kvs:List (List Key×V)} (e:H a=some (.dT kvs)):TyOf K H (.ref a) (.type "dict")
 |ins {a C dx:Addr} {fs:List (Str×V)} (e:H a=some (.ins C dx fs)) (cl:Cls K C) (ha:PySem.W.findIn K (.ref C) "__class__"=some (some (.builtin "object.__class__")))
   (hn:PySem.W.specialIn K (.builtin "object.__class__") "__get__"=some (some (.builtin "getset_descriptor.__get__"))) (Ic:PySem.W.takesIn K (.builtin "object.__class__")=some true)
   (hm:PySem.W.mroIn K C (.type "object")=some true):TyOf K H (.ref a) (.ref C)
theorem wM{x:V}{u t:Value}(I:Inv X Zt σ H s)(rx:RelV x u)(ty:TyOf X.K H x t)(e:PySem.W.kitOne X.K t c=some b)(h:∀tk,Q (.bool b) {s with toks:=tk}):
  wpAny (model X.prog X.w) A (call (.builtin "isinstance") [u,c]) Q E s:=by
 cases ty with
 |non=>cases(show u=Value.none from rx);exact PySem.W.kia_one PySem.W.kitx_none I.kIn True.intro e (fun z=>nomatch z) h
 |bl y=>cases(show u=Value.bool y from rx);exact PySem.W.kia_one PySem.W.kitx_bool I.kIn True.intro e (fun z=>nomatch z) h
 |int i=>obtain⟨t,q⟩:=(show ∃t,u=Value.int i t from rx);cases q;exact PySem.W.kia_one PySem.W.kitx_int I.kIn True.intro e (fun z=>nomatch z) h
 |str y=>obtain⟨t,q⟩:=(show ∃t,u=Value.str y t from rx);cases q;exact PySem.W.kia_one PySem.W.kitx_str I.kIn True.intro e (fun z=>nomatch z) h
 |flt y=>obtain⟨t,q⟩:=(show ∃t,u=Value.float y t from rx);cases q;exact PySem.W.kia_one PySem.W.kitx_float I.kIn True.intro e (fun z=>nomatch z) h
 |@lst a xs ea=>
  cases(show u=Value.ref a from rx)
  obtain⟨_,_,n,_,h1⟩:=(show ObjOk X.prog X.w H s.heap a (.lst xs)from I.hok a _ ea)
  exact PySem.W.kia_one PySem.W.kitx_list I.kIn ⟨_,h1,rfl⟩ e (fun z=>nomatch z) h
 |@frz a ob xs ea=>
  cases(show u=Value.ref a from rx)
  obtain⟨_,_,_,n,_,h1⟩:=(show ObjOk X.prog X.w H s.heap a (.frz ob (.lst xs))from I.hok a _ ea)
  exact PySem.W.kia_one PySem.W.kitx_list I.kIn ⟨_,h1,rfl⟩ e (fun z=>nomatch z) h
 |@tup a xs ea=>
  cases(show u=Value.ref a from rx)
  obtain⟨_,_,_,p⟩:=(show ObjOk X.prog X.w H s.heap a (.tup xs)from I.hok a _ ea)
  obtain⟨o,h1,h2,_⟩:=p;exact PySem.W.kia_one PySem.W.kitx_tuple I.kIn ⟨o,h1,h2⟩ e (fun z=>nomatch z) h
 |@dK a kvs ea=>
  cases(show u=Value.ref a from rx)
  obtain⟨_,_,vs,_,p⟩:=(show ObjOk X.prog X.w H s.heap a (.dK kvs)from I.hok a _ ea)
  obtain⟨o,es,ep,h1,h2,_⟩:=p;exact PySem.W.kia_one PySem.W.kitx_dict I.kIn ⟨o,h1,h2.1⟩ e (fun z=>nomatch z) h
 |@dT a kvs ea=>
  cases(show u=Value.ref a from rx)
  obtain⟨_,_,xs,_,o,es,ep,h1,h2,_⟩:=(show ObjOk X.prog X.w H s.heap a (.dT kvs)from I.hok a _ ea)
  exact PySem.W.kia_one PySem.W.kitx_dict I.kIn ⟨o,h1,h2.1⟩ e (fun z=>nomatch z) h
 |@ins a C dx fs ea cl ha hn Ic hm=>
  cases(show u=Value.ref a from rx);obtain⟨mA,O,_⟩:=Ba I.hok ea;obtain⟨od,J,_⟩:=O.look;exact PySem.W.kia_one (PySem.W.kitx_own (cl.get _) cl.hd ha hn Ic hm) I.kIn J e (fun z=>nomatch z) h
end
structure Room(k:Nat)(A:Around):Prop where
 hd:A.handled=none
 dp:A.depth+3*k+5<recursionLimit
 un:A.units+16*k+200<cLine
 gd:A.guards=some []
theorem Room.mono{j k:Nat}{A:Around}(r:Room k A)(h:j<=k):Room j A:=⟨r.hd,by have:=r.dp;lia,by have:=r.un;lia,r.gd⟩
theorem Room.deeper{k:Nat}{A:Around}(r:Room (k+1) A)(env:Env):Room k (A.deeper env):=
 ⟨r.hd,by have:=r.dp;show A.depth+1+3*k+5<_;lia,by have:=r.un;show A.units+3+16*k+200<_;lia,r.gd⟩
theorem Room.depth{k:Nat}{A:Around}(r:Room k A):A.depth<recursionLimit:=by have:=r.dp;lia
theorem Room.units{k:Nat}{A:Around}(r:Room k A):A.units+64<cLine:=by have:=r.un;lia
def Ej:TA:=fun _ H Q=>Q [] H
def qT(ta:TE)(tr:TA):TA:=fun σ H Q=>ta σ H fun x H1=>tr σ H1 fun xs H2=>Q (x::xs) H2
section
variable{X:Cx}{e:Expr}{es:List Expr}{te:TE}{t:TA}{pos:Pos}
theorem aj:PA X [] Ej:=fun _ _ _ _ H Q I h=>Calls.spliced_nil ⟨[],H,I,.nil,h⟩
theorem aQ(ha:PE X e te)(hr:PA X es t)(hs:starEach (e::es) X.env=(false,eval e X.env)::starEach es X.env:=by rfl):PA X (e::es) (qT te t):=by
 intro pos Zt s σ H Q I h;rw[hs];show wpAny _ _ (spliced ((false,eval e X.env)::backTo pos (starEach es X.env))) _ _ s;refine Calls.spliced_cons (thn (ha Zt s σ H _ I h) fun u s1 ⟨x,H1,I1,r1,q1⟩=>?_)
 exact thn (hr pos Zt s1 σ H1 _ I1 q1) fun us s2 ⟨xs,H2,I2,r2,q2⟩=>⟨x::xs,H2,I2,.cons r1 r2,q2⟩
def Ek(t:TA):TE:=fun σ H Q=>t σ H fun xs H1=>xs.length<=sizeLine/\∀p,H1 p=none->Q (.ref p) (upd H1 p (.tup xs))
def El(t:TA):TE:=fun σ H Q=>t σ H fun xs H1=>xs.length<=sizeLine/\∀p,H1 p=none->Q (.ref p) (upd H1 p (.lst xs))
theorem bO{x1}(h:PA X es t):PE X (.Tuple es x1 pos) (Ek t):=by
 intro Zt s σ H Q I hq;refine wpAny_Tuple_spliced (thn (h pos Zt s σ H _ I hq) fun us s1 ⟨xs,H1,I1,r,z,q⟩=>⟨by rw[<-r.length];exact z,?_⟩);have hf:H1 s1.heap.objs.size=none:=I1.hok.fresh (zA3 _);refine⟨.ref s1.heap.objs.size,upd H1 s1.heap.objs.size (.tup xs),I1.laid (t':=s1.toks) (fun b u e=>zAy _ e) (zA3 _) ?_,rfl,q _ hf⟩;exact⟨z,us,r,⟨_,zB1 _ rfl,rfl,_,rfl⟩⟩
theorem cT(h:PA X es t):PE X (.List es pos) (El t):=by
 intro Zt s σ H Q I hq;refine wpAny_List_spliced (thn (h pos Zt s σ H _ I hq) fun us s1 ⟨xs,H1,I1,r,z,q⟩=>⟨by rw[<-r.length];exact z,?_⟩);have hf:H1 s1.heap.objs.size=none:=I1.hok.fresh (zA3 _);refine⟨.ref s1.heap.objs.size,upd H1 s1.heap.objs.size (.lst xs),I1.laid (t':=s1.toks) (fun b u e=>zAy _ e) (zA3 _) ?_,rfl,q _ hf⟩;exact⟨z,us,0,r,zB1 _ rfl⟩
end
abbrev Sp:=List V->Hp->VK->XK->Prop
abbrev CXT:=List Env->Hp->Shared->XK->Value->Shared->Prop
structure Env0(P:Program)(w:World)(K:Frag)(mg:Str->Option Value)(base:Heap)(A:Around)(outer:List Env)(s:Shared)(H:Hp):Prop where
 frames:A.frames=some outer
 mod:Mod K mg base
 bs:∀b o,base.get? b=some o->s.heap.get? b=some o/\H b=none
 bsz:base.objs.size<=s.heap.objs.size
 funs:s.heap.FunFrames base outer
 frf:∀b∈frs outer,H b=none
 hok:HOk P w H s.heap
 bare:AllBare s.gens
def CE(outer:List Env)(P:Program)(w:World)(H:Hp)(s:Shared)(Q:VK)(u:Value)(s':Shared):Prop:=
 ∃v H',s'.os=s.os/\AllBare s'.gens/\Un (frs outer) [] H H' s.heap s'.heap/\HOk P w H' s'.heap/\RelV v u/\Q v H'
def CR(CX:CXT)(outer:List Env)(P:Program)(w:World)(H:Hp)(s:Shared)(Q:VK)(E:XK)(r:Result)(s':Shared):Prop:=
 match r with
 |.ok (.ret u)=>CE outer P w H s Q u s'
 |.ok _=>False
 |.error e=>CX outer H s E e s'
structure FnOk(P:Program)(w:World)(K:Frag)(mg:Str->Option Value)(base:Heap)(CX:CXT)(k:Nat)(f:Addr)(fd:FuncData)(ps:List Str)(sp:Sp):Prop where
 len:∀vs H Q E,sp vs H Q E->vs.length=ps.length
 run:∀(A:Around) (outer:List Env) (s:Shared) (H:Hp) (args:Args) (us:List Value) (vs:List V) (Q:VK) (E:XK),Room k A->Env0 P w K mg base A outer s H->BindsTo s fd args (ps.zip us)->Vals vs us->sp vs H Q E->
  codeAny (model P w) A (.call (.ref f) args) (CR CX outer P w H s Q E) s
theorem FnOk.imp{P:Program}{w:World}{K:Frag}{mg:Str->Option Value}{base:Heap}{CX:CXT}{k:Nat}{f:Addr}{fd:FuncData}{ps:List Str}{sp sp':Sp}(F:FnOk P w K mg base CX k f fd ps sp)
  (h:∀vs H Q E,sp' vs H Q E->sp vs H Q E):FnOk P w K mg base CX k f fd ps sp':=
 ⟨fun vs H Q E q=>F.len vs H Q E (h _ _ _ _ q),fun A outer s H args us vs Q E hr he hb hv hs=>F.run A outer s H args us vs Q E hr he hb hv (h _ _ _ _ hs)⟩
section
variable{X:Cx}{Zt:List (Addr×Obj)}{σ:St}{H:Hp}{s s':Shared}
theorem Inv.env0(I:Inv X Zt σ H s):Env0 X.prog X.w X.K X.mg X.base X.A X.stack s H:=
 ⟨I.ok.frames,I.ok.mod,I.bs,Nat.le_trans I.ok.bsz I.sz,I.stack,I.stkFree,I.hok,I.bare⟩
theorem Inv.after{Q:VK}{u:Value}(I:Inv X Zt σ H s)(h:CE X.stack X.prog X.w H s Q u s'):EP X Zt σ Q u s':=by
 obtain⟨v,H',os,bare,un,hok,r,q⟩:=h;obtain⟨hh,g,d,t,KP⟩:=s';obtain rfl:KP=s.os:=os;exact⟨v,H',I.call (h':=hh) (g':=g) (d':=d) (t':=t) (ch:=[]) un hok bare (fun b z=>absurd z Zy),r,q⟩
end
def Dj(sp:Sp)(mx:List V)(E:XK)(t:TA):TE:=fun σ H Q=>t σ H fun vs H1=>sp (vs++mx) H1 Q E
def Binds(K:Frag)(fd:FuncData)(ps:List Str)(ds:List Value):Prop:=
 ∀(s:Shared) (us:List Value),K.In s.heap->(us++ds).length=ps.length->BindsTo s fd ⟨us,[]⟩ (ps.zip (us++ds))
theorem Binds.all{K:Frag}{fd:FuncData}{ps:List Str}(h:∀us:List Value,us.length=ps.length->bindArgs fd ⟨us,[]⟩=pure (ps.zip us)):Binds K fd ps []:=fun s us _ hl=>by
 rw[zAn]at hl⊢;exact .of_eq (h us hl)
def uc(CX:CXT)(X:Cx)(E:XK):Prop:=∀(Zt:List (Addr×Obj)) (σ:St) (H:Hp) (s:Shared) (e:Value) (s':Shared),Inv X Zt σ H s->CX X.stack H s E e s'->X.xe e s'
section
variable{X:Cx}{CX:CXT}{k:Nat}{f C:Addr}{fd:FuncData}{ps:List Str}{sp:Sp}{mx:List V}{ds:List Value}{E:XK}{x m:Str}{p pos apos:Pos}{e o:Expr}{es:List Expr}{ta:TE}{t:TA}
theorem Em{Zt:List (Addr×Obj)}{σ:St}{H:Hp}{s:Shared}{Q:VK}{us:List Value}{vs:List V}(F:FnOk X.prog X.w X.K X.mg X.base CX k f fd ps sp)(hr:Room k X.A)(hb:Binds X.K fd ps ds)(hd:Vals mx ds)(hx:uc CX X E)
  (I:Inv X Zt σ H s) (r:Vals vs us) (h:sp (vs++mx) H Q E):wpAny (model X.prog X.w) X.A (call (.ref f) us) (EP X Zt σ Q) X.xe s:=by
 have r2:Vals (vs++mx) (us++ds):=r.append hd;have hl:(us++ds).length=ps.length:=by rw[<-r2.length];exact F.len _ _ _ _ h
 refine wpAny_call (codeAny_mono (F.run X.A X.stack s H ⟨us,[]⟩ (us++ds) (vs++mx) Q E hr I.env0 (hb s us I.kIn hl) r2 h) fun r s' hq=>?_)
 cases r with
 |error e=>exact hx Zt σ H s e s' I hq
 |ok fl=>
  cases fl with
  |ret u=>exact I.after hq
  |next=>exact False.elim hq
  |brk=>exact False.elim hq
  |cont=>exact False.elim hq
theorem Bb(F:FnOk X.prog X.w X.K X.mg X.base CX k f fd ps sp)(hr:Room k X.A)(hg:Gl X x)(hm:X.mg x=some (.ref f))(hk:PySem.W.keepIn X.K (.ref f)=true)(hb:Binds X.K fd ps ds)(hd:Vals mx ds)(hx:uc CX X E)
  (ha:PA X (e::es) t) (pj:(x==("__debug__":Str))=false:=by decide) (he:starEach (e::es) X.env=(false,eval e X.env)::starEach es X.env:=by rfl) (mB:(backTo pos (starEach es X.env)).any (·.1)=false:=by rfl):
  PE X (.Call (.Name x p) (e::es) [] pos) (Dj sp mx E t):=by
 intro Zt s σ H Q I h;refine wpAny_Call_Name_kw (uT I hg hm ?_ pj);refine PySem.W.callWith_K (h₀:=X.base) I.ok.mod.kin hk (thn (ha pos Zt s σ H _ I h) fun us s1 ⟨vs,H1,I1,r,q⟩=>⟨I1.kIn,?_⟩) he mB;exact Em F hr hb hd hx I1 r q
end
section
variable{X:Cx}{CX:CXT}{k:Nat}{f C:Addr}{fd:FuncData}{ps ks:List Str}{sp:Sp}{E:XK}{x m:Str}{p pos apos KQ:Pos}{e o:Expr}{es:List Expr}{Qn:List Keyword}{te ta:TE}{t tk:TA}{nm:Option Str}
variable{g:List Value->List Value->List Value}{gV:List V->List V->List V}
end
structure FnScope(N P:List Str)(sc:Scope):Prop where
 kind:sc.kind=.function
 co:sc.isCoroutine=false
 gen:sc.isGenerator=false
 nd:N.Nodup
 pre:N.take P.length=P
 par:∀x∈P,sc.names.lookup x=some .local\/sc.names.lookup x=some .cell
 nofree:∀y∈sc.names,y.2≠.free
theorem nG{kindOf:Str->Option NameKind}{x:Str}:∀{binds:List (Str×Value)} {m:Str->Option Value},(∀v,(x,v)∉binds)->bindL kindOf binds m x=m x
 |[],_,_=>rfl
 | (n,v)::r,m,h=>by
  unfold bindL;rw[nG fun w hw=>h w (List.mem_cons_of_mem _ hw)];split
  .have:x≠n:=by rintro rfl;exact h v List.mem_cons_self
   simp[this]
  .rfl
theorem nH{kindOf:Str->Option NameKind}{x:Str}:∀{binds:List (Str×Value)} {m:Str->Option Value},(∀v,(x,v)∉binds)->bindC kindOf binds m x=m x
 |[],_,_=>rfl
 | (n,v)::r,m,h=>by
  unfold bindC;rw[nH fun w hw=>h w (List.mem_cons_of_mem _ hw)];split
  .rfl
  .have:x≠n:=by rintro rfl;exact h v List.mem_cons_self
   simp[this]
theorem nJ{kindOf:Str->Option NameKind}{x:Str}{v:Value}:∀{P:List Str} {vs:List Value} {i:Nat} {m:Str->Option Value},P.Nodup->P[i]?=some x->vs[i]?=some v->kindOf x=some .local->
  bindL kindOf (P.zip vs) m x=some v
 |[],_,_,_,_,h,_,_=>by simp at h
 |_::_,[],_,_,_,_,h,_=>by simp at h
 |p::P,w::vs,0,m,nd,h1,h2,hk=>by
  simp at h1 h2;subst h1;subst h2;show bindL kindOf ((p,w)::P.zip vs) m p=_;unfold bindL;rw[nG fun v hv=>(List.nodup_cons.mp nd).1 (List.of_mem_zip hv).1,if_pos hk];simp
 |p::P,w::vs,i+1,m,nd,h1,h2,hk=>by
  show bindL kindOf ((p,w)::P.zip vs) m x=_;unfold bindL;exact nJ (i:=i) (List.nodup_cons.mp nd).2 (by simpa using h1) (by simpa using h2) hk
theorem nM{kindOf:Str->Option NameKind}{x:Str}{v:Value}:∀{P:List Str} {vs:List Value} {i:Nat} {m:Str->Option Value},P.Nodup->P[i]?=some x->vs[i]?=some v->kindOf x≠some .local->
  bindC kindOf (P.zip vs) m x=some v
 |[],_,_,_,_,h,_,_=>by simp at h
 |_::_,[],_,_,_,_,h,_=>by simp at h
 |p::P,w::vs,0,m,nd,h1,h2,hk=>by
  simp at h1 h2;subst h1;subst h2;show bindC kindOf ((p,w)::P.zip vs) m p=_;unfold bindC;rw[nH fun v hv=>(List.nodup_cons.mp nd).1 (List.of_mem_zip hv).1,if_neg hk];simp
 |p::P,w::vs,i+1,m,nd,h1,h2,hk=>by
  show bindC kindOf ((p,w)::P.zip vs) m x=_;unfold bindC;exact nM (i:=i) (List.nodup_cons.mp nd).2 (by simpa using h1) (by simpa using h2) hk
def start(N:List Str)(vs:List V):St:=vs.map some++List.replicate (N.length-vs.length) none
def wN(CX:CXT)(P:Program)(w:World)(K:Frag)(mg:Str->Option Value)(base:Heap)(N:List Str)(qual:Str)(scope:Scope)(f:Addr)(cd:Value)(A:Around)(outer:List Env)(s:Shared)(H:Hp)(E:XK):Cx where
 prog:=P
 w:=w
 K:=K
 mg:=mg
 base:=base
 A:=A.deeper (envOfC qual scope s.heap.objs.size f cd)
 N:=N
 s₀:=s
 H₀:=H
 env:=envOfC qual scope s.heap.objs.size f cd
 outer:=outer
 stack:=envOfC qual scope s.heap.objs.size f cd::outer
 ex:=[]
 calm:=true
 fn:=fun _=>true
 pn:=[]
 xe:=fun e s'=>wpAny (model P w) (A.deeper (envOfC qual scope s.heap.objs.size f cd)) (leaving (envOfC qual scope s.heap.objs.size f cd) e) (fun _ sQ=>CX outer H s E e sQ) (fun e' sQ=>CX outer H s E e' sQ) s'
theorem qU{sc:Scope}{n:Nat}{x:Str}(h:sc.names.lookup x=some .cell):∃c,(cellsFrom n sc.names []).lookup x=some c:=by
 have q:=PySem.W.cellsFrom_some sc.names n [] (.inl h);exact Option.isSome_iff_exists.mp q
theorem wO{CX:CXT}{P:Program}{w:World}{K:Frag}{mg:Str->Option Value}{base:Heap}{N ps:List Str}{qual:Str}{scope:Scope}{f:Addr}{cd:Value}{A:Around}{outer:List Env}{s s1:Shared}{H:Hp}{E:XK}{us:List Value}{vs:List V}
  (S:FnScope N ps scope) (hd:A.handled=none) (e0:Env0 P w K mg base A outer s H) (hl:vs.length=ps.length) (r:Vals vs us)
  (x:InCallC s s.heap.objs.size (bindL (envOfC qual scope s.heap.objs.size f cd).kindOf (ps.zip us) fun _=>none) (cellsFrom (s.heap.objs.size+1) scope.names []) (bindC (envOfC qual scope s.heap.objs.size f cd).kindOf (ps.zip us) fun _=>none) s1):
  Inv (wN CX P w K mg base N qual scope f cd A outer s H E) [] (start N vs) H s1:=by
 have mB:ps.length<=N.length:=by have:=congrArg List.length S.pre;rw[zAd]at this;lia
 obtain⟨h1,tk,rfl,hk⟩:=x.done;have vn:∀b:Addr,b∉(wN CX P w K mg base N qual scope f cd A outer s H E).ex:=fun b z=>absurd (show b∈([]:List Addr)from z) Zy
 refine⟨⟨e0.mod,S.kind,rfl,rfl,zA3 _,fun y z c h1 h2=>?_,fun y hy=>?_,fun y c _ h=>?_,fun _=>hd,Around.frames_deeper e0.frames,.inr ⟨rfl,rfl⟩,fun b z=>absurd z (vn b),e0.bs,e0.bsz,fun b _ _=>vn b,fun b z=>absurd z (vn b),e0.funs,e0.frf⟩,
  rfl,e0.bare,Un.kept hk,⟨_,x.toInCall.ns,fun i y v h1 h2 h3=>?_⟩,fun y c h=>⟨_,x.cell y c h⟩,e0.hok.fresh (Nat.le_refl _),fun y c h=>?_,fun p hp=>absurd (show p∈([]:List (Addr×Obj))from hp) Zy,e0.hok.kept hk,?_⟩
 .exact name_of_addr x.apart (PySem.mem_of_lookup h1) (PySem.mem_of_lookup h2)
 .have hy:scope.names.lookup y=some .cell\/scope.names.lookup y=some .free:=hy;rcases hy with hy|hy
  .exact qU hy
  .exact absurd rfl (S.nofree _ (PySem.mem_of_lookup hy))
 .exact Nat.le_of_lt (x.above y c (PySem.mem_of_lookup h))
 .have hi:i<vs.length:=by
   unfold start at h2;by_cases hi:i<vs.length
   .exact hi
   .rw[List.getElem?_append_right (by simpa using hi)]at h2;rw[List.getElem?_replicate]at h2;split at h2<;>cases h2
  have ha:vs[i]?=some v:=by
   unfold start at h2;rw[List.getElem?_append_left (by simpa using hi),List.getElem?_map]at h2
   cases e:vs[i]? with
   |none=>rw[e]at h2;cases h2
   |some a=>rw[e]at h2;cases h2;rfl
  obtain⟨u,hu,rv⟩:=r.get ha
  have hp:ps[i]?=some y:=by
   rw[<-S.pre,List.getElem?_take_of_lt Zz];exact h1
  have Iq:ps.Nodup:=by rw[<-S.pre];exact S.nd.sublist (List.take_sublist _ _)
  refine⟨u,rv,?_⟩;rcases S.par y (zB9 hp)with k|k
  .exact .inl ⟨k,nJ Iq hp hu k⟩
  .obtain⟨c,e⟩:=qU (n:=s.heap.objs.size+1) k;refine .inr ⟨.inl k,c,e,?_⟩;have q:=x.cell y c e;rw[nM Iq hp hu (by show scope.names.lookup y≠_;rw[k];decide)]at q;exact q
 .exact e0.hok.fresh (Nat.le_of_lt (x.above y c (PySem.mem_of_lookup h)))
 .unfold start;show _=N.length;rw[zA2,zA1,List.length_replicate];lia
theorem Gh{CX:CXT}{P:Program}{w:World}{K:Frag}{mg:Str->Option Value}{base:Heap}{k:Nat}{f:Addr}{name qual:Str}{params:Arguments}{body:List Stmt}{scope:Scope}{dV kV doc pm ah ct oc:Value}{an od:Option Addr}
  {mE:Array (Option Value)} {N ps:List Str} {sp:Sp} (lk:K.lookup f=some ⟨oc,od,.func (PySem.W.fnOf name qual params body scope dV kV doc pm an ah ct),mE⟩) (iq:PySem.W.codeIn K ah qual=true) (S:FnScope N ps scope)
  (len:∀vs H Q E,sp vs H Q E->vs.length=ps.length)
  (iF:∀(A:Around) (outer:List Env) (s:Shared) (H:Hp) (vs:List V) (Q:VK) (E:XK),Room k (A.deeper (envOfC qual scope s.heap.objs.size f ah))->sp vs H Q E->
   ∃t,PSs (wN CX P w K mg base N qual scope f ah A outer s H E) body t/\t {nx:=fun _ H'=>Q .non H',rt:=Q} (start N vs) H):
  FnOk P w K mg base CX (k+1) f (PySem.W.fnOf name qual params body scope dV kV doc pm an ah ct) ps sp:=by
 refine⟨len,fun A outer s H args us vs Q E hr e0 hb r mI=>?_⟩;have hl:=len _ _ _ _ mI;have KX:K.In s.heap:=e0.mod.kin.keeps fun b o e=>(e0.bs b o e).1;have lim:s.heap.NoLimit:=e0.mod.nolimit.keeps fun b o e=>(e0.bs b o e).1
 have vt:∀y∈ps.zip us,scope.names.lookup y.1=some .local\/(scope.names.lookup y.1=some .cell/\((cellsFrom (s.heap.objs.size+1) scope.names []).lookup y.1).isSome=true):=fun⟨n,v⟩ hy=>by
  rcases S.par n (List.of_mem_zip hy).1 with q|q
  .exact .inl q
  .exact .inr ⟨q,PySem.W.cellsFrom_some _ _ _ (.inl q)⟩
 refine codeAny_call_function hr.depth (KX _ _ lk) rfl S.co S.gen rfl (PySem.W.codeRec_of KX iq) (hb _ _ _ _ ?_);refine wpAny_newFunctionEnv_cells S.kind vt fun env he s1 x=>?_;subst he;refine⟨lim.keeps x.toInCall.keep,codeAny_func ?_⟩;obtain⟨t,ht,hq⟩:=iF A outer s H vs Q E (hr.deeper _) mI;have I:Inv (wN CX P w K mg base N qual scope f ah A outer s H E) [] (start N vs) H s1:=wO S hr.hd e0 hl r x;refine wpAny_mono (ht [] s1 (start N vs) H _ I hq) (fun fl s' hs=>?_) fun e s' hs=>hs
 have fin:∀{ar:St} {H':Hp} {v:V} {u:Value},Inv (wN CX P w K mg base N qual scope f ah A outer s H E) [] ar H' s'->RelV v u->Q v H'->CE outer P w H s Q u s':=
  fun{ar H' v u} J rv q=>⟨v,H',J.os,J.bare,J.base,J.hok,rv,q⟩
 cases fl with
 |ret u=>
  obtain⟨v,ar,H',J,rv,q⟩:=hs;exact fin J rv q
 |next=>
  obtain⟨ar,H',J,q⟩:=hs;exact fin (v:=V.non) (u:=Value.none) J rfl q
 |brk=>
  obtain⟨_,_,_,q⟩:=hs;exact False.elim q
 |cont=>
  obtain⟨_,_,_,q⟩:=hs;exact False.elim q
section
variable{X:Cx}{x:Str}{p pos:Pos}{e:Expr}{es:List Expr}{t:TA}{id T:String}{r:List V->Hp->VK->Prop}
def tCB(r:List V->Hp->VK->Prop)(t:TA):TE:=fun σ H Q=>t σ H fun vs H1=>r vs H1 Q
theorem aO(hc:fD X (.builtin id) r)(hg:Gl X x)(hm:X.mg x=none)(hv:bootBuiltins x=some (.builtin id))(ha:PA X (e::es) t)(hn:x≠"__name__":=by decide)(pj:(x==("__debug__":Str))=false:=by decide)
  (he:starEach (e::es) X.env=(false,eval e X.env)::starEach es X.env:=by rfl) (mB:(backTo pos (starEach es X.env)).any (·.1)=false:=by rfl):PE X (.Call (.Name x p) (e::es) [] pos) (tCB r t):=by
 intro Zt s σ H Q I h;refine wpAny_Call_Name_kw (gj I hg hm hv ?_ hn pj);exact PyProof.Rows.callWith_builtin1 (thn (ha pos Zt s σ H _ I h) fun us s1 ⟨vs,H1,I1,r1,q1⟩=>hc Zt s1 σ H1 vs us Q I1 r1 q1) he mB
theorem di(hc:fD X (.type T) r)(hg:Gl X x)(hm:X.mg x=none)(hv:bootBuiltins x=some (.type T))(ha:PA X (e::es) t)(hn:x≠"__name__":=by decide)(pj:(x==("__debug__":Str))=false:=by decide)
  (he:starEach (e::es) X.env=(false,eval e X.env)::starEach es X.env:=by rfl) (mB:(backTo pos (starEach es X.env)).any (·.1)=false:=by rfl):PE X (.Call (.Name x p) (e::es) [] pos) (tCB r t):=by
 intro Zt s σ H Q I h;refine wpAny_Call_Name_kw (gj I hg hm hv ?_ hn pj);exact PyProof.Rows.callWith_type1 (thn (ha pos Zt s σ H _ I h) fun us s1 ⟨vs,H1,I1,r1,q1⟩=>hc Zt s1 σ H1 vs us Q I1 r1 q1) he mB
end
end L2
namespace HT
open PySem PyProof.Rows
def lexLt:List Int->List Int->Bool
 |[],[]=>false
 |[],_::_=>true
 |_::_,[]=>false
 |x::xs,y::ys=>if x=y then lexLt xs ys else decide (x<y)
theorem lexLt_cons(x y:Int)(xs ys:List Int):lexLt (x::xs) (y::ys)=if x=y then lexLt xs ys else decide (x<y):=rfl
section
open PySem.SeqAt
open PySem.AutoSeq1 (wpAny_loadPart')
open PySem.MeetsSeq PySem.MeetsSeq2 PySem.MeetsSeq3
end
section
variable{prog:Program}{w:World}{A:Around}{E:Value->Shared->Prop}{s:Shared}
theorem cat_tup{t b:Addr}{vs ws:List Value}{Q:Value->Shared->Prop}(ht:IsTup s.heap t vs.toArray)(hb:IsTup s.heap b ws.toArray)(hv:vs≠[])
  (h1:ws=[]->Q (.ref t) s) (h2:ws≠[]->Q (.ref s.heap.objs.size) {s with heap:=s.heap.push {cls:=.type "tuple",data:=.seq (vs++ws).toArray}})
  (hsz:vs.length+ws.length<=sizeLine):wpAny (model prog w) A (binaryOp .Add (.ref t) (.ref b)) Q E s:=by
 obtain⟨⟨cls,dd,data,sl⟩,ho,hc,n,hd⟩:=id ht;obtain⟨⟨B7,mM,data2,pE⟩,kS,vv,n2,hd2⟩:=id hb;simp only at hc hd vv hd2;subst hc hd vv hd2;have e:vs.toArray++ws.toArray=(vs++ws).toArray:=by simp
 by_cases hw:ws=[]
 .exact concat_meets ⟨_,ho,rfl⟩ ⟨_,kS,rfl⟩ noFill_tuple_add seq_tuple_add PySem.F.slot_tuple_add PySem.F.entry_tuple_add (PySem.F.args_tuple_add_2 _ _)
   (tuple_addW1 t b vs.toArray ws.toArray n n2 dd mM sl pE (by simpa using hv) (by simp[hw])) ⟨ho,kS,h1 hw⟩
 .refine concat_meets ⟨_,ho,rfl⟩ ⟨_,kS,rfl⟩ noFill_tuple_add seq_tuple_add PySem.F.slot_tuple_add PySem.F.entry_tuple_add (PySem.F.args_tuple_add_2 _ _)
   (tuple_addW2 t b vs.toArray ws.toArray n n2 dd mM sl pE (by simpa using hv) (by simpa using hw) (by rw[List.size_toArray,List.size_toArray];exact hsz)) ⟨ho,kS,?_⟩
  rw[e];exact h2 hw
def sIx(n d:Nat):Option Int->Nat
 |none=>d
 |some v=>if v<0 then(v+(n:Int)).toNat else min v.toNat n
theorem sIx_none(n d:Nat):sIx n d none=d:=rfl
theorem sIx_nat(n d k:Nat):sIx n d (some (k:Int))=min k n:=by
 show(if(k:Int)<0 then((k:Int)+(n:Int)).toNat else min (k:Int).toNat n)=min k n;rw[zAv Zz,zAi]
theorem En(n d:Nat)(hd:d<=n)(o:Option Int):sIx n d o<=n:=by
 cases o with
 |none=>exact hd
 |some v=>
  show(if v<0 then(v+(n:Int)).toNat else min v.toNat n)<=n;by_cases hv:v<0
  .rw[zAx hv];lia
  .rw[zAv hv];exact Nat.min_le_right _ _
theorem uY(v:Int)(n d:Nat):(if v<0 then max (v+(n:Int)) 0 else min v (n:Int))=((sIx n d (some v):Nat):Int):=by
 show(if v<0 then max (v+(n:Int)) 0 else min v (n:Int))=(((if v<0 then(v+(n:Int)).toNat else min v.toNat n):Nat):Int);by_cases hv:v<0
 .simp only[if_pos hv];lia
 .simp only[if_neg hv];lia
theorem ud(lo hi:Option Int)(n:Nat):Builtin.Slice.sliceAdjust lo hi 1 (n:Int)=(((sIx n 0 lo:Nat):Int),((sIx n n hi:Nat):Int)):=by
 have h1:¬((1:Int)<0):=Zz
 unfold Builtin.Slice.sliceAdjust;simp only[h1,if_false];refine Prod.ext ?_ ?_
 .cases lo with
  |none=>rfl
  |some v=>exact uY v n 0
 .cases hi with
  |none=>rfl
  |some v=>exact uY v n n
theorem ue(i j:Nat):Builtin.Slice.slicePlaces (i:Int) (j:Int) 1=j-i:=by
 unfold Builtin.Slice.slicePlaces;have h1:(1:Int)>0:=Zz
 simp only[h1,if_true,Int.ediv_one];split<;>lia
theorem lq{v:Value}{o:Option Int}{Q:Option Int->Shared->Prop}(p:IsPart v o)(h:Q o s):wpAny (model prog w) A (Builtin.Slice.slicePartIndex v) Q E s:=by
 cases p with
 |none=>exact slicePart_none h
 |int i t=>exact slicePart_int h
theorem fU{sl:Addr}{vl vu:Value}{lo hi:Option Int}{n:Nat}{Q:Int×Int×Nat->Shared->Prop}(hs:s.heap.IsSliceOf sl vl vu .none)(pl:IsPart vl lo)(pu:IsPart vu hi)
  (h:Q (((sIx n 0 lo:Nat):Int),1,sIx n n hi-sIx n 0 lo) s):wpAny (model prog w) A (Builtin.Slice.sliceApplied (.ref sl) (pure (n:Int))) Q E s:=by
 obtain⟨os,pS,gI,vw⟩:=id hs;unfold Builtin.Slice.sliceApplied Builtin.Slice.sliceFields;refine zAu (zAu (wpAny_field pS vw (x:=vl) rfl (zAu (wpAny_field pS vw (x:=vu) rfl (zAu (wpAny_field pS vw (x:=.none) rfl (zB0 ?_)))))));refine zAu (slicePart_none ?_);show wpAny _ _ (if((1:Int)==0)=true then _ else _) _ _ s;rw[zAv Zx];refine zAu (lq pl (zAu (lq pu (zAu (zB0 ?_)))));show wpAny _ _ (match Builtin.Slice.sliceAdjust lo hi 1 (n:Int)with | (lo,hi)=>pure (lo,(1:Int),Builtin.Slice.slicePlaces lo hi 1)) _ _ s;rw[ud lo hi n];show wpAny _ _ (pure (((sIx n 0 lo:Nat):Int),(1:Int),Builtin.Slice.slicePlaces ((sIx n 0 lo:Nat):Int) ((sIx n n hi:Nat):Int) 1)) _ _ s;rw[ue];exact zB0 h
theorem yt(xs:Array Value)(i k:Nat):((List.range k).filterMap fun(m:Nat)=>xs[((i:Int)+(m:Int)*1).toNat]?).toArray=((xs.toList.drop i).take k).toArray:=by
 have e:(fun(m:Nat)=>xs[((i:Int)+(m:Int)*1).toNat]?)=fun m=>xs[i+m]?:=by
  funext m;have:((i:Int)+(m:Int)*1).toNat=i+m:=Zz
  rw[this]
 rw[e];have:=pick_run xs i k;rw[List.filterMap_map]at this;have e2:((fun x=>xs[x]?)∘fun x=>i+x)=fun m=>xs[i+m]?:=rfl;rw[e2]at this;rw[this]
theorem getItem_tuple_cut{t sl:Addr}{items:Array Value}{vl vu:Value}{lo hi:Option Int}{Q:Value->Shared->Prop}(ht:IsTup s.heap t items)(hs:s.heap.IsSliceOf sl vl vu .none)(pl:IsPart vl lo)(pu:IsPart vu hi)
  (hw:¬(sIx items.size 0 lo=0/\sIx items.size items.size hi=items.size))
  (h:Q (.ref s.heap.objs.size) {s with heap:=s.heap.push {cls:=.type "tuple",data:=.seq ((items.toList.drop (sIx items.size 0 lo)).take (sIx items.size items.size hi-sIx items.size 0 lo)).toArray}})
  (hsz:items.size<=sizeLine):wpAny (model prog w) A (getItem (.ref t) (.ref sl)) Q E s:=by
 have f7:sizeOk (.seq ((items.toList.drop (sIx items.size 0 lo)).take (sIx items.size items.size hi-sIx items.size 0 lo)).toArray):=by
  show((items.toList.drop (sIx items.size 0 lo)).take (sIx items.size items.size hi-sIx items.size 0 lo)).toArray.size<=sizeLine;rw[zA8,zAd,List.length_drop,zA9];lia
 have hj:sIx items.size items.size hi<=items.size:=En _ _ (zA3 _) hi;obtain⟨os,pS,gI,vw⟩:=id hs
 have B8:s.TypeIs (.ref sl) "slice":=⟨os,pS,gI⟩
 unfold getItem
 try with_reducible refine wpAny_holding ?_
 first|refine zAu (zB0 ?_)|skip
 refine zAu (wpAny_sequenceKey ht.typeIs Zx ?_)
 refine zAu (wpAny_callSpecial?_slot (name:=Str.ofString "__getitem__") ht.typeIs PyProof.Rows.slot_tuple_getitem
  (wpAny_call_entry PyProof.Rows.slot_tuple_getitem ht.typeIs entry_tuple_getitem ?_ (args_tuple_getitem _ _)))
 show wpAny _ _ (Builtin.Tuple.tupleItemsOf (.ref t)>>=_) _ _ s;refine zAu (tupleItemsOf_ ht ?_);refine zAu (wpAny_typeOf B8 ?_);rw[zAx Zx];refine zAu (fU hs pl pu ?_)
 have pT:¬((((sIx items.size 0 lo:Nat):Int)==0&&(1:Int)==1&&(sIx items.size items.size hi-sIx items.size 0 lo)==items.size)=true):=by
  intro q;rw[zAc,zAc]at q;have q1:((sIx items.size 0 lo:Nat):Int)=0:=eq_of_beq q.1.1;have q2:sIx items.size items.size hi-sIx items.size 0 lo=items.size:=eq_of_beq q.2;exact hw ⟨Zz,Zz⟩
 show wpAny _ _ (if(((sIx items.size 0 lo:Nat):Int)==0&&(1:Int)==1&&(sIx items.size items.size hi-sIx items.size 0 lo)==items.size)=true then _ else _) _ _ s;rw[zAv pT,yt]
 first
  |exact zAu (m:=Builtin.Tuple.tupleExact _) (wpAny_newObj_type (zB0 ⟨_,rfl,zB0 h⟩) f7)
  |exact zAu (m:=Builtin.Tuple.tupleExact _) (wpAny_newObj_type (zAu (zB0 (zB0 ⟨_,rfl,zB0 h⟩))) f7)
  |exact zAu (zAu (m:=Builtin.Tuple.tupleExact _) (wpAny_newObj_type (zB0 (zB0 ⟨_,rfl,zB0 h⟩)) f7))
  |exact zAu (zAu (m:=Builtin.Tuple.tupleExact _) (wpAny_newObj_type (zB0 ⟨_,rfl,zB0 h⟩) f7))
end
end HT
namespace L2
open PySem PySem.Spec PyProof.Rows
abbrev TO:=St->Hp->(Option Int->Hp->Prop)->Prop
def PO(X:Cx)(e:Option Expr)(t:TO):Prop:=
 ∀(Zt:List (Addr×Obj)) (s:Shared) (σ:St) (H:Hp) (Q:Option Int->Hp->Prop),Inv X Zt σ H s->t σ H Q->
  wpAny (model X.prog X.w) X.A (evalPart e X.env) (fun u s'=>∃o H',Inv X Zt σ H' s'/\IsPart u o/\Q o H') X.xe s
def Bc:TO:=fun _ H Q=>Q none H
def Gi(t:TE):TO:=fun σ H Q=>t σ H fun x H1=>∃i,x=.int i/\Q (some i) H1
theorem intsAre_of{ns:List Int}:∀{us:List Value},Vals (ns.map V.int) us->IntsAre us ns:=by
 induction ns with
 |nil=>intro us r;rw[List.map_nil]at r;cases r;exact .nil
 |cons n ns ih=>
  intro us r;rw[zAk]at r
  cases r with
  |cons r1 r2=>
   obtain⟨t,e⟩:=r1;subst e;exact .cons n t (ih r2)
section
variable{X:Cx}{e:Expr}{te:TE}{lo hi:Option Expr}{tl th:TO}{pos p2:Pos}
theorem uZ:PO X none Bc:=by
 intro Zt s σ H Q I h;rw[evalPart_none];exact zB0 ⟨none,H,I,.none,h⟩
theorem v5(h:PE X e te):PO X (some e) (Gi te):=by
 intro Zt s σ H Q I hw;rw[evalPart_some];refine thn (h Zt s σ H _ I hw) fun u s1 ⟨x,H1,I1,r1,q1⟩=>?_;obtain⟨i,rfl,q⟩:=q1;obtain⟨t,rfl⟩:=r1;exact⟨some i,H1,I1,.int i t,q⟩
def SlR(X:Cx)(r:V->Option Int->Option Int->Hp->VK->Prop):Prop:=
 ∀(Zt:List (Addr×Obj)) (s:Shared) (σ:St) (H:Hp) (x:V) (v vl vu:Value) (lo hi:Option Int) (sl:Addr) (Q:VK),Inv X Zt σ H s->RelV x v->s.heap.IsSliceOf sl vl vu .none->IsPart vl lo->IsPart vu hi->r x lo hi H Q->
  ∃T id,typeLookup (.type T) "__getitem__"=pure (some (.builtin id))/\s.TypeIs v T/\wpAny (model X.prog X.w) X.A (getItem v (.ref sl)) (EP X Zt σ Q) X.xe s
def tSl(r:V->Option Int->Option Int->Hp->VK->Prop)(te:TE)(tl th:TO):TE:=fun σ H Q=>te σ H fun x H1=>tl σ H1 fun l H2=>th σ H2 fun u H3=>r x l u H3 Q
theorem qW{r:V->Option Int->Option Int->Hp->VK->Prop}(hr:SlR X r)(he:PE X e te)(hl:PO X lo tl)(hu:PO X hi th):PE X (.Subscript e (.Slice lo hi none p2) pos) (tSl r te tl th):=by
 intro Zt s σ H Q I h;refine Subscript_ (thn (he Zt s σ H _ I h) fun v s1 ⟨x,H1,I1,r1,q1⟩=>?_);refine wpAny_Slice (thn (hl Zt s1 σ H1 _ I1 q1) fun vl s2 ⟨l,H2,I2,pl,q2⟩=>thn (hu Zt s2 σ H2 _ I2 q2) fun vu s3 ⟨u,H3,I3,pu,q3⟩=>?_);rw[evalPart_none];refine zB0 ?_;have I4:Inv X Zt σ H3 {s3 with heap:=s3.heap.push {cls:=.type "slice",data:=.fields #[vl,vu,.none]}}:=I3.kept (t':=s3.toks) fun b ob q=>zAy _ q;obtain⟨T,id,hT,ht,hg⟩:=hr Zt {s3 with heap:=s3.heap.push {cls:=.type "slice",data:=.fields #[vl,vu,.none]}} σ H3 x v vl vu l u s3.heap.objs.size Q I4 r1 (Heap.IsSliceOf.new ..) pl pu q3;show wpAny (model X.prog X.w) X.A (subscriptTail e (.Slice lo hi none p2) v (.ref s3.heap.objs.size)) (EP X Zt σ Q) X.xe {s3 with heap:=s3.heap.push {cls:=.type "slice",data:=.fields #[vl,vu,.none]}};exact tail_any (ops:=[.ref s3.heap.objs.size,v]) ht hT hg (by with_unfolding_all rfl)
def mK(xs:List V)(lo hi:Option Int):List V:=(xs.drop (HT.sIx xs.length 0 lo)).take (HT.sIx xs.length xs.length hi-HT.sIx xs.length 0 lo)
theorem jM(xs:List V)(lo hi:Option Int):(mK xs lo hi).length<=xs.length:=by
 unfold mK;rw[zAd,List.length_drop];lia
inductive RSlTI(K:Frag)(x:V)(lo:Option Int)(hi:Option Int)(H:Hp)(Q:VK):Prop
 |mk:∀a xs,(x=.ref a)->(SqT K H a xs)->(¬(HT.sIx xs.length 0 lo=0/\HT.sIx xs.length xs.length hi=xs.length))->(∀p,H p=none->Q (.ref p) (upd H p (.tup (mK xs lo hi))))->RSlTI K x lo hi H Q
def Iw(K:Frag):V->Option Int->Option Int->Hp->VK->Prop:=fun x lo hi H Q=>RSlTI K x lo hi H Q
theorem Eo:SlR X (Iw X.K):=by
 intro Zt s σ H x v vl vu lo hi sl Q I rx hs pl pu h;obtain⟨a,xs,rfl,hx,hw,q⟩:=h;cases rx;obtain⟨Zs,r,ht,hz⟩:=I.tuple hx;have hlen:Zs.toArray.size=xs.length:=by rw[zA8];exact r.length.symm
 refine⟨"tuple",_,PyProof.Rows.slot_tuple_getitem.lookup,ht.typeIs,?_⟩;refine HT.getItem_tuple_cut ht hs pl pu (by rw[hlen];exact hw) ?_ (by rw[hlen];exact hz);rw[hlen];refine⟨.ref s.heap.objs.size,_,I.laid (t':=s.toks) (o:=.tup (mK xs lo hi)) (fun b ob q=>zAy _ q) (zA3 _) ?_,rfl,q _ (I.hok.fresh (zA3 _))⟩;exact⟨Nat.le_trans (jM xs lo hi) hz,_,(r.drop (HT.sIx xs.length 0 lo)).take (HT.sIx xs.length xs.length hi-HT.sIx xs.length 0 lo),IsTup.new _ _⟩
inductive RCatTI(K:Frag)(x:V)(y:V)(H:Hp)(Q:VK):Prop
 |mk:∀a b xs ys,(x=.ref a)->(y=.ref b)->(SqT K H a xs)->(SqT K H b ys)->(xs≠[])->(xs.length+ys.length<=sizeLine)->((ys=[]->Q (.ref a) H))->((ys≠[]->∀p,H p=none->Q (.ref p) (upd H p (.tup (xs++ys)))))->RCatTI K x y H Q
def Gj(K:Frag):R2:=fun x y H Q=>RCatTI K x y H Q
theorem Vals.nil_iff{xs:List V}{us:List Value}(r:Vals xs us):us=[]↔xs=[]:=by
 cases r with
 |nil=>simp
 |cons _ _=>simp
theorem Be:OpR X (binaryOp .Add) (Gj X.K):=by
 intro Zt s σ H x y v u Q I rx ry h;obtain⟨a,b,xs,ys,rfl,rfl,ha,hb,hx,hz,q1,q2⟩:=h;cases rx;cases ry;obtain⟨Zs,r1,p1,_⟩:=I.tuple ha;obtain⟨br,r2,p2,_⟩:=I.tuple hb;refine HT.cat_tup p1 p2 (fun z=>hx (r1.nil_iff.mp z)) (fun z=>⟨.ref a,H,I,rfl,q1 (r2.nil_iff.mp z)⟩) (fun z=>?_) (by rw[<-r1.length,<-r2.length];exact hz);refine⟨.ref s.heap.objs.size,_,I.laid (t':=s.toks) (o:=.tup (xs++ys)) (fun b ob q=>zAy _ q) (zA3 _) ?_,rfl,q2 (fun w=>z (r2.nil_iff.mpr w)) _ (I.hok.fresh (zA3 _))⟩;exact⟨by rw[zA2];exact hz,_,r1.append r2,IsTup.new _ _⟩
end
def ixN(n:Nat)(i:Int):Option Nat:=if 0<=i then(if i<n then some i.toNat else none)else if -(n:Int)<=i then some (i+n).toNat else none
def atI{α:Type}(xs:List α)(i:Int):Option α:=(ixN xs.length i).bind fun j=>xs[j]?
theorem v6{n:Nat}{i:Int}{j:Nat}(h:ixN n i=some j):seqIndex? i n=some j/\j<n/\-(n:Int)<=i/\i<n:=by
 unfold ixN at h;by_cases h0:0<=i
 .rw[zAx h0]at h;by_cases h1:i<n
  .rw[zAx h1]at h;have e:i.toNat=j:=zAl h;exact⟨by rw[seqIndex_of h0 h1,e],Zz,Zz,h1⟩
  .rw[zAv h1]at h;cases h
 .rw[zAv h0]at h;by_cases h1:-(n:Int)<=i
  .rw[zAx h1]at h;have e:(i+n).toNat=j:=zAl h;exact⟨by rw[seqIndex_neg Zz h1,e],Zz,h1,Zz⟩
  .rw[zAv h1]at h;cases h
theorem v7{α:Type}{xs:List α}{i:Int}{v:α}(h:atI xs i=some v):∃j,seqIndex? i xs.length=some j/\xs[j]?=some v/\j<xs.length/\-(xs.length:Int)<=i/\i<xs.length:=by
 unfold atI at h
 cases e:ixN xs.length i with
 |none=>rw[e]at h;cases h
 |some j=>
  rw[e]at h;obtain⟨h1,h2,h3,h4⟩:=v6 e;exact⟨j,h1,h,h2,h3,h4⟩
theorem eF{α:Type}{xs:List α}{j:Nat}{v:α}(h:xs[j]?=some v):atI xs (j:Int)=some v:=by
 have hj:j<xs.length:=(zAa.mp h).1
 have e:ixN xs.length (j:Int)=some j:=by
  unfold ixN;rw[if_pos Zz,if_pos Zz];simp
 unfold atI;rw[e];exact h
def pG(b:Expr):Prop:=∀o i,subscripted b false o i=operate [o,i] (getItem o i)
def IxR(X:Cx)(r:R2):Prop:=
 ∀(value slice:Expr) (Zt:List (Addr×Obj)) (s:Shared) (σ:St) (H:Hp) (x y:V) (v u:Value) (Q:VK),Inv X Zt σ H s->RelV x v->RelV y u->r x y H Q->
  subscripted slice false v u=operate [v,u] (getItem v u)->wpAny (model X.prog X.w) X.A (subscriptTail value slice v u) (EP X Zt σ Q) X.xe s
def MtR(X:Cx)(id:String)(r:V->List V->Hp->VK->Prop):Prop:=
 ∀(Zt:List (Addr×Obj)) (s:Shared) (σ:St) (H:Hp) (x:V) (xs:List V) (v:Value) (us:List Value) (Q:VK),Inv X Zt σ H s->RelV x v->Vals xs us->r x xs H Q->
  wpAny (model X.prog X.w) X.A (call (.builtin id) (v::us)) (EP X Zt σ Q) X.xe s
section
variable{X:Cx}{a b:Expr}{ta tb:TE}{pos:Pos}
theorem Dk{r:R2}(hr:IxR X r)(ha:PE X a ta)(hb:PE X b tb)(hs:pG b):PE X (.Subscript a b pos) (tOp r ta tb):=by
 intro Zt s σ H Q I h;exact Subscript_ (Eh ha hb I h fun v u s2 x y H2 I2 rx ry q=>hr a b Zt s2 σ H2 x y v u Q I2 rx ry q (hs _ _))
inductive RIxLI(K:Frag)(x:V)(y:V)(H:Hp)(Q:VK):Prop
 |mk:∀p xs i v,(x=.ref p)->(y=.int i)->(SqL K H p xs)->(atI xs i=some v)->(Q v H)->RIxLI K x y H Q
def Gk(K:Frag):R2:=fun x y H Q=>RIxLI K x y H Q
inductive RIxTI(K:Frag)(x:V)(y:V)(H:Hp)(Q:VK):Prop
 |mk:∀p xs i v,(x=.ref p)->(y=.int i)->(SqT K H p xs)->(atI xs i=some v)->(Q v H)->RIxTI K x y H Q
def Gm(K:Frag):R2:=fun x y H Q=>RIxTI K x y H Q
theorem bU:IxR X (Gk X.K):=by
 intro value slice Zt s σ H x y v u Q I rx ry h hs;obtain⟨p,xs,i,z,rfl,rfl,hq,he,q⟩:=h;cases rx;obtain⟨t,rfl⟩:=ry;obtain⟨Zs,r,pl,hz⟩:=I.list hq;obtain⟨j,h1,h2,h3,h4,h5⟩:=v7 he;obtain⟨w,ew,dE⟩:=r.get h2;have hl:=r.length;have hn:=kZ
 have fin:EP X Zt σ Q w s:=⟨z,H,I,dE,q⟩
 by_cases h0:0<=i
 .have hj:i.toNat=j:=by
   rw[seqIndex_of h0 h5]at h1;exact zAl h1
  exact item_listR pl.isList h0 Zz (by rw[hj];simpa using ew) fin hs
 .have hj:(i+(Zs.toArray.size:Int)).toNat=j:=by
   rw[seqIndex_neg Zz h4]at h1;rw[zA8,<-hl];exact zAl h1
  exact subscriptTail_builtinR (x:=w) pl.isList.typeIs slot_list_getitem.lookup
   (wpAny_getItem_list_neg (Q:=fun r s'=>r=w/\EP X Zt σ Q r s') pl.isList Zz (by rw[List.size_toArray]<;>lia) Zz (by rw[hj];simpa using ew) ⟨rfl,fin⟩) hs
theorem bJ:IxR X (Gm X.K):=by
 intro value slice Zt s σ H x y v u Q I rx ry h hs;obtain⟨p,xs,i,z,rfl,rfl,hq,he,q⟩:=h;cases rx;obtain⟨t,rfl⟩:=ry;obtain⟨Zs,r,pl,hz⟩:=I.tuple hq;obtain⟨j,h1,h2,h3,h4,h5⟩:=v7 he;obtain⟨w,ew,dE⟩:=r.get h2;have hl:=r.length;have hn:=kZ
 have fin:EP X Zt σ Q w s:=⟨z,H,I,dE,q⟩
 exact subscriptTail_builtinR (x:=w) pl.typeIs slot_tuple_getitem.lookup
  (getItem_tuple (j:=j) (Q:=fun r s'=>r=w/\EP X Zt σ Q r s') pl Zz Zz (by rw[List.size_toArray,<-hl];exact h1) (by simpa using ew) ⟨rfl,fin⟩) hs
theorem uf(Zs:List Value)(n j:Nat)(u:Value):Obj.mapSeq (·.setIfInBounds j u) {cls:=.type "list",data:=.seq Zs.toArray n}={cls:=.type "list",data:=.seq (Zs.set j u).toArray n}:=by
 simp[Obj.mapSeq]
theorem Inv.lst{Zt:List (Addr×Obj)}{σ:St}{H:Hp}{s:Shared}{p:Addr}{xs:List V}(I:Inv X Zt σ H s)(h:H p=some (.lst xs)):
  ∃(Zs:List Value) (n:Nat),Vals xs Zs/\s.heap.get? p=some {cls:=.type "list",data:=.seq Zs.toArray n}/\xs.length<=sizeLine:=by
 obtain⟨z,Zs,n,r,e⟩:=I.hok p _ h;exact⟨Zs,n,r,e,z⟩
theorem Inv.lstUpd{Zt:List (Addr×Obj)}{σ:St}{H:Hp}{s:Shared}{p:Addr}{xs ys:List V}{Zs its':List Value}{n n':Nat}{f:Obj->Obj}(I:Inv X Zt σ H s)(h:H p=some (.lst xs))
  (ho:s.heap.get? p=some {cls:=.type "list",data:=.seq Zs.toArray n}) (hf:f {cls:=.type "list",data:=.seq Zs.toArray n}={cls:=.type "list",data:=.seq its'.toArray n'}) (r:Vals ys its') (hz:ys.length<=sizeLine) (t:Nat):
  Inv X Zt σ (upd H p (.lst ys)) {s with heap:=s.heap.update p f,toks:=t}:=by
 have e:(s.heap.update p f).get? p=some {cls:=.type "list",data:=.seq its'.toArray n'}:=by
  rw[Heap.get?_update_self f ho (by rw[hf]<;>rfl),hf]
 refine I.write (x:=p) (e:=p) (by rw[h];trivial) (.inl rfl) (fun b u hb q=>(Heap.get?_update_other _ _ (Ne.symm hb)).trans q) ⟨_,e⟩ ?_;exact⟨hz,its',n',r,e⟩
inductive RSetLI(o:V)(i:V)(v:V)(H:Hp)(Q:Hp->Prop):Prop
 |mk:∀p xs k j,(o=.ref p)->(i=.int k)->(H p=some (.lst xs))->(ixN xs.length k=some j)->(Q (upd H p (.lst (xs.set j v))))->RSetLI  o i v H Q
def Gn:V->V->V->Hp->(Hp->Prop)->Prop:=fun o i v H Q=>RSetLI  o i v H Q
theorem set_list:Eg X Gn:=by
 intro Zt s σ H o i v ov iv u Q I ro ri rv h;obtain⟨p,xs,k,j,rfl,rfl,hp,hj,q⟩:=h;cases ro;obtain⟨t,rfl⟩:=ri;obtain⟨Zs,n,r,ho,hz⟩:=I.lst hp;obtain⟨h1,h2,h3,h4⟩:=v6 hj;have hl:=r.length;have hn:=kZ
 have I':Inv X Zt σ (upd H p (.lst (xs.set j v))) {s with heap:=s.heap.update p (Obj.mapSeq (·.setIfInBounds j u))}:=
  I.lstUpd hp ho (uf Zs n j u) (r.set rv j) (by rw[List.length_set];exact hz) s.toks
 by_cases h0:0<=k
 .have hk:k.toNat=j:=by
   rw[seqIndex_of h0 h4]at h1;exact zAl h1
  exact PySem.W.ki_setAt ho h0 Zz (by rw[zA8,<-hl];exact h4) (by rw[hk];exact⟨_,I',q⟩)
 .have hk:(k+(Zs.toArray.size:Int)).toNat=j:=by
   rw[seqIndex_neg Zz h3]at h1;rw[zA8,<-hl];exact zAl h1
  exact PySem.W.ki_setBack ho Zz (by rw[zA8,<-hl];exact h3) Zz (by rw[hk];exact⟨_,I',q⟩)
theorem pH(lo hi:Option Int)(n:Nat):(sliceBounds lo hi none n).1=((HT.sIx n 0 lo:Nat):Int)/\(sliceBounds lo hi none n).2.1=((HT.sIx n n hi:Nat):Int)/\(sliceBounds lo hi none n).2.2=1:=by
 refine⟨?_,?_,rfl⟩
 .cases lo with
  |none=>simp[sliceBounds,HT.sIx]
  |some i=>
   simp only[sliceBounds,HT.sIx,Option.getD_none,show(1:Int)>0 by decide,if_true];by_cases h:i<0
   .simp only[h,if_true]<;>lia
   .simp only[h,if_false]<;>lia
 .cases hi with
  |none=>simp[sliceBounds,HT.sIx]
  |some i=>
   simp only[sliceBounds,HT.sIx,Option.getD_none,show(1:Int)>0 by decide,if_true];by_cases h:i<0
   .simp only[h,if_true]<;>lia
   .simp only[h,if_false]<;>lia
theorem mL(Zs:List Value)(lo hi:Option Int):slicePick Zs.toArray lo hi none=((Zs.drop (HT.sIx Zs.length 0 lo)).take (HT.sIx Zs.length Zs.length hi-HT.sIx Zs.length 0 lo)).toArray:=by
 obtain⟨h1,h2,h3⟩:=pH lo hi Zs.toArray.size;unfold slicePick;rw[h1,h2,h3];simp only[sliceRange_one,pick_run,List.size_toArray]<;>rfl
inductive RSlLI(K:Frag)(x:V)(lo:Option Int)(hi:Option Int)(H:Hp)(Q:VK):Prop
 |mk:∀a xs,(x=.ref a)->(SqL K H a xs)->(∀p,H p=none->Q (.ref p) (upd H p (.lst (mK xs lo hi))))->RSlLI K x lo hi H Q
def Iz(K:Frag):V->Option Int->Option Int->Hp->VK->Prop:=fun x lo hi H Q=>RSlLI K x lo hi H Q
theorem Bf:SlR X (Iz X.K):=by
 intro Zt s σ H x v vl vu lo hi sl Q I rx hs pl pu h;obtain⟨a,xs,rfl,hx,q⟩:=h;cases rx;obtain⟨Zs,r,ht,hz⟩:=I.list hx;have hlen:=r.length;refine⟨"list",_,slot_list_getitem.lookup,ht.isList.typeIs,?_⟩;refine wpAny_getItem_list_slice ht.isList hs pl pu .none Zy ?_ (by rw[List.size_toArray]<;>lia);rw[mL,<-hlen];refine⟨.ref s.heap.objs.size,_,I.laid (t':=s.toks) (o:=.lst (mK xs lo hi)) (fun b ob q=>Heap.get?_push_of_some _ q) (zA3 _) ?_,rfl,q _ (I.hok.fresh (zA3 _))⟩;exact⟨Nat.le_trans (jM xs lo hi) hz,_,0,(r.drop (HT.sIx xs.length 0 lo)).take (HT.sIx xs.length xs.length hi-HT.sIx xs.length 0 lo),Heap.get?_push_size _ rfl⟩
theorem bh:fD X (.builtin "len") (fun xs H Q=>∃p ys,xs=[.ref p]/\(SqL X.K H p ys\/SqT X.K H p ys)/\Q (.int ys.length) H):=by
 intro Zt s σ H xs us Q I r h;obtain⟨p,ys,rfl,hq,q⟩:=h;obtain⟨u,rfl,rx⟩:=vals1 r;cases rx;have hn:=kZ;rcases hq with hq|hq
 .obtain⟨Zs,r',pl,hz⟩:=I.list hq;have hlen:=r'.length;exact Calls.call_len_list pl.isList (by simp only[List.size_toArray]<;>lia) ⟨.int ys.length,H,I.tok _,⟨s.toks+1,by rw[List.size_toArray,hlen]⟩,q⟩
 .obtain⟨Zs,r',pl,hz⟩:=I.tuple hq;have hlen:=r'.length;exact len_tuple pl (by simp only[List.size_toArray]<;>lia) ⟨.int ys.length,H,I.tok _,⟨s.toks+1,by rw[List.size_toArray,hlen]⟩,q⟩
theorem pI:fD X (.type "list") (fun xs H Q=>∃p ys,xs=[.ref p]/\(SqL X.K H p ys\/SqT X.K H p ys)/\∀l,H l=none->Q (.ref l) (upd H l (.lst ys))):=by
 intro Zt s σ H xs us Q I r h;obtain⟨p,ys,rfl,hq,q⟩:=h;obtain⟨u,rfl,rx⟩:=vals1 r;cases rx
 have fin:∀(Zs:List Value),Vals ys Zs->ys.length<=sizeLine->∀(h':Heap) (c':Nat),(∀b o',s.heap.get? b=some o'->h'.get? b=some o')->
   h'.get? s.heap.objs.size=some {cls:=.type "list",dict:=none,data:=.seq Zs.toArray c',slots:=#[]}->EP X Zt σ Q (.ref s.heap.objs.size) {s with heap:=h'}:=fun Zs r' hz h' c' kp e=>
  ⟨.ref s.heap.objs.size,_,I.laid (t':=s.toks) kp (zA3 _) (show ObjOk X.prog X.w _ h' _ (.lst ys)from⟨hz,Zs,c',r',e⟩),rfl,q _ (I.hok.fresh (zA3 _))⟩
 rcases hq with hq|hq
 .obtain⟨Zs,r',pl,hz⟩:=I.list hq;have hlen:=r'.length;obtain⟨o,ho,hc,n,hd⟩:=pl.isList;exact call_list_seq p (.inl rfl) ho hc hd (fun h' c' kp e=>fin Zs r' hz h' c' kp e) (by simp only[List.size_toArray]<;>lia)
 .obtain⟨Zs,r',pl,hz⟩:=I.tuple hq;have hlen:=r'.length;obtain⟨o,ho,hc,n,hd⟩:=pl;exact call_list_seq p (.inr rfl) ho hc hd (fun h' c' kp e=>fin Zs r' hz h' c' kp e) (by simp only[List.size_toArray]<;>lia)
theorem cQ:fD X (.type "tuple") (fun xs H Q=>∃p ys,xs=[.ref p]/\((SqL X.K H p ys/\∀l,H l=none->Q (.ref l) (upd H l (.tup ys)))\/(SqT X.K H p ys/\Q (.ref p) H))):=by
 intro Zt s σ H xs us Q I r h;obtain⟨p,ys,rfl,h⟩:=h;obtain⟨u,rfl,rx⟩:=vals1 r;cases rx;rcases h with⟨hq,q⟩|⟨hq,q⟩
 .obtain⟨Zs,r',pl,hz⟩:=I.list hq;have hlen:=r'.length;refine call_tuple_list pl.isList (fun h' kp=>?_) (by simp only[List.size_toArray]<;>lia);have I1:Inv X Zt σ H {s with heap:=h'}:=I.kept (t':=s.toks) kp
  have I2:Inv X Zt σ (upd H h'.objs.size (.tup ys)) {s with heap:=h'.push {cls:=.type "tuple",data:=.seq Zs.toArray}}:=
   I1.laid (t':=s.toks) (fun b o e=>zAy _ e) (zA3 _) (show ObjOk X.prog X.w _ _ _ (.tup ys)from⟨hz,Zs,r',IsTup.new _ _⟩)
  exact⟨.ref h'.objs.size,_,I2,rfl,q _ (I1.hok.fresh (zA3 _))⟩
 .obtain⟨Zs,r',pl,hz⟩:=I.tuple hq;exact call_tuple_same pl ⟨.ref p,H,I,rfl,q⟩
def tyV(K:Frag)(T:String)(x:V)(H:Hp):Prop:=match x with
 |.str _=>T="str"
 |.int _=>T="int"
 |.ref p=>(T="list"/\∃xs,SqL K H p xs)\/(T="tuple"/\∃o,K.lookup p=some o/\o.cls=.type "tuple"/\o.dict=none) \/
   (T="dict"/\((∃kvs,H p=some (.dK kvs))\/∃kvs,H p=some (.dT kvs)))\/(T="set"/\∃S n,H p=some (.set S n))
 |_=>False
theorem Ep{Zt:List (Addr×Obj)}{σ:St}{H:Hp}{s:Shared}{T:String}{x:V}{v:Value}(I:Inv X Zt σ H s)(r:RelV x v)(ty:tyV X.K T x H):
  s.TypeIs v T/\∀a,v=.ref a->∃ob,s.heap.get? a=some ob/\ob.dict=none:=by
 cases x with
 |str z=>
  obtain⟨t,rfl⟩:=r;cases(show T="str" from ty);exact⟨typeIs_str s z t,fun _ e=>nomatch e⟩
 |int i=>
  obtain⟨t,rfl⟩:=r;cases(show T="int" from ty);exact⟨typeIs_int s i t,fun _ e=>nomatch e⟩
 |ref p=>
  cases r;rcases ty with⟨rfl,xs,hq⟩|⟨rfl,o,hk,hc,hd⟩|⟨rfl,hk⟩|⟨rfl,S,n,hk⟩
  .obtain⟨Zs,_,pl,_⟩:=I.list hq;refine⟨pl.isList.typeIs,fun a e=>?_⟩;cases e;obtain⟨o,n,e,c,hd,_⟩:=pl;exact⟨o,e,hd⟩
  .refine⟨⟨o,I.kIn p o hk,hc⟩,fun a e=>?_⟩;cases e;exact⟨o,I.kIn _ o hk,hd⟩
  .have z:∃o,s.heap.get? p=some o/\o.ExactDict:=by
    rcases hk with⟨kvs,hk⟩|⟨kvs,hk⟩
    .obtain⟨_,_,_,_,o,_,_,e,ex,_⟩:=I.hok p _ hk;exact⟨o,e,ex⟩
    .obtain⟨_,_,_,_,o,_,_,e,ex,_⟩:=I.hok p _ hk;exact⟨o,e,ex⟩
   obtain⟨o,e,ex⟩:=z;refine⟨⟨o,e,ex.1⟩,fun a e2=>?_⟩;cases e2;exact⟨o,e,ex.2.1⟩
  .obtain⟨o,_,_,_,e,ex,_⟩:=I.hok p _ hk;refine⟨⟨o,e,ex.1⟩,fun a e2=>?_⟩;cases e2;exact⟨o,e,ex.2.1⟩
 |_=>exact False.elim ty
def tBM(K:Frag)(T:String)(r:V->List V->Hp->VK->Prop)(to:TE)(t:TA):TE:=fun σ H Q=>to σ H fun x H1=>tyV K T x H1/\t σ H1 fun xs H2=>r x xs H2 Q
variable{o e:Expr}{es:List Expr}{to:TE}{t:TA}{name:Str}{apos aE:Pos}{T id:String}{r:V->List V->Hp->VK->Prop}
theorem qX(pa:PlainAttrs T)(slot:Slot T name id)(KR:typeOf (.builtin id)=pure (.type "method_descriptor"))(hm:MtR X id r)(ho:PE X o to)(ha:PA X (e::es) t)
  (iL:attributeBase o name X.env (eval o X.env)=eval o X.env:=by rfl)
  (B9:((backTo aE (starEach (e::es) X.env)).all (fun x=>!x.1)&&(backToKw aE (keywordEach [] X.env)).all (fun x=>x.1.isSome)
   && decide ((e::es).length+([]:List Keyword).length+(if([]:List Keyword).isEmpty then 0 else 1)<30))=true:=by rfl)
  (iN:(apos.endLine==aE.line)=true:=by rfl) (hs:starEach (e::es) X.env=(false,eval e X.env)::starEach es X.env:=by rfl) (pV:(backTo aE (starEach es X.env)).any (·.1)=false:=by rfl):
  PE X (.Call (.Attribute o name apos) (e::es) [] aE) (tBM X.K T r to t):=by
 intro Zt s σ H Q I h;refine wpAny_Call_method_late iL B9 iN rfl (thn (ho Zt s σ H _ I h) fun v s1 ⟨x,H1,I1,r1,ty,q1⟩=>?_);obtain⟨h1,h2⟩:=Ep I1 r1 ty;refine⟨T,id,pa,slot,KR,h1,h2,?_⟩;have hA:=ha aE Zt s1 σ H1 _ I1 q1;rw[hs]at hA⊢;refine Calls.callWith_builtin (by show(false||(backTo aE (starEach es X.env)).any (·.1))=false;rw[pV]<;>rfl) (Calls.evalArgs_plain ?_);exact thn hA fun us s2 ⟨vs,H2,I2,r2,q2⟩=>hm Zt s2 σ H2 x vs v us Q I2 r1 r2 q2
end
def MtM(X:Cx)(id:String)(r:V->List V->Hp->VK->Prop):Prop:=
 ∀(Zt:List (Addr×Obj)) (s:Shared) (σ:St) (H:Hp) (x:V) (xs:List V) (v:Value) (us:List Value) (Q:VK),Inv X Zt σ H s->RelV x v->Vals xs us->r x xs H Q->
  wpAny (model X.prog X.w) X.A (call (.builtin id) (v::us)) (EP X Zt σ Q) X.xe s
theorem Vals.one:∀{x:V} {us:List Value},Vals [x] us->∃u,us=[u]/\RelV x u
 |_,_,.cons r .nil=>⟨_,rfl,r⟩
theorem Vals.zero:∀{us:List Value},Vals [] us->us=[]
 |_,.nil=>rfl
theorem Vals.rep{xs:List V}{us:List Value}(h:Vals xs us):∀k:Nat,Vals (List.replicate k xs).flatten (List.replicate k us).flatten
 |0=>.nil
 |k+1=>by
  rw[List.replicate_succ,List.replicate_succ,List.flatten_cons,List.flatten_cons];exact Vals.append h (Vals.rep h k)
theorem foldl_rep(Zs:List Value):∀(k:Nat) (acc:List Value),
  List.foldl (fun x1 x2=>x1++x2) acc.toArray (List.replicate k Zs.toArray)=(acc++(List.replicate k Zs).flatten).toArray
 |0,acc=>by simp
 |k+1,acc=>by
  have e:acc.toArray++Zs.toArray=(acc++Zs).toArray:=by simp
  have e2:(acc++Zs)++(List.replicate k Zs).flatten=acc++(List.replicate (k+1) Zs).flatten:=by
   rw[List.replicate_succ,List.flatten_cons,zAf]
  rw[<-e2,<-foldl_rep Zs k (acc++Zs),<-e,List.replicate_succ,List.foldl_cons]
section
variable{X:Cx}{Zt:List (Addr×Obj)}{σ:St}{H:Hp}{s:Shared}{l b:Addr}{xs ys zs:List V}
theorem Inv.lset{Zs its':List Value}{n:Nat}{f:Array Value->Array Value}{t':Nat}(I:Inv X Zt σ H s)(hH:H l=some (.lst xs))
  (e:s.heap.get? l=some {cls:=.type "list",data:=.seq Zs.toArray n}) (hf:f Zs.toArray=its'.toArray) (hv:Vals ys its') (hz:ys.length<=sizeLine):
  Inv X Zt σ (upd H l (.lst ys)) {s with heap:=s.heap.update l (Obj.mapSeq f),toks:=t'}:=by
 have q:=PySem.IsL.update e f;rw[hf]at q;refine I.write (x:=l) (e:=l) (by rw[hH];exact trivial) (.inl rfl) (fun b' u hb hu=>(Heap.get?_update_other s.heap (Obj.mapSeq f) (Ne.symm hb)).trans hu) ⟨_,q⟩ ?_;exact⟨hz,its',_,hv,q⟩
theorem Inv.lnew{Zs:List Value}{t':Nat}(I:Inv X Zt σ H s)(hv:Vals ys Zs)(hz:ys.length<=sizeLine):
  Inv X Zt σ (upd H s.heap.objs.size (.lst ys)) {s with heap:=s.heap.push {cls:=.type "list",data:=.seq Zs.toArray},toks:=t'}:=
 I.laid (fun _ _ q=>zAy _ q) (zA3 _) ⟨hz,Zs,0,hv,zB1 _ rfl⟩
theorem Inv.fresh(I:Inv X Zt σ H s):H s.heap.objs.size=none:=I.hok.fresh (zA3 _)
theorem Inv.lstM(I:Inv X Zt σ H s)(hH:H l=some (.lst xs)):xs.length<=sizeLine/\∃(Zs:List Value) (n:Nat),Vals xs Zs/\xs.length=Zs.length/\s.heap.get? l=some {cls:=.type "list",data:=.seq Zs.toArray n}:=by
 obtain⟨z,Zs,n,r,e⟩:=I.hok l _ hH;exact⟨z,Zs,n,r,r.length,e⟩
theorem lu{n:Nat}(h:n<=sizeLine):Builtin.List.listTooLong n=false:=by
 unfold Builtin.List.listTooLong;exact zB6 Zz
end
section
variable{X:Cx}
inductive RAppendI(x:V)(vs:List V)(H:Hp)(Q:VK):Prop
 |mk:∀l xs y,(x=.ref l)->(vs=[y])->(H l=some (.lst xs))->(xs.length<sizeLine)->(Q .non (upd H l (.lst (xs++[y]))))->RAppendI  x vs H Q
def Bg:V->List V->Hp->VK->Prop:=fun x vs H Q=>RAppendI  x vs H Q
theorem fV:MtM X "list.append" Bg:=by
 intro Zt s σ H x vs v us Q I rx rv h;obtain⟨l,xs,y,rfl,rfl,hH,hz,q⟩:=h;cases rx;obtain⟨u,rfl,ru⟩:=rv.one;obtain⟨z,Zs,n,r,hl,e⟩:=I.lstM hH;refine call_meets F.slot_list_append ⟨_,e,rfl⟩ F.entry_list_append (F.args_list_append_2 _ _) (PySem.list_append l Zs.toArray n u (by rw[zA8];lia)) ⟨e,?_⟩;refine⟨.non,_,I.lset (its':=Zs++[u]) hH e Zy (r.append (.cons ru .nil)) ?_,rfl,q⟩;rw[zA2,List.length_singleton];lia
inductive RExtendI(x:V)(vs:List V)(H:Hp)(Q:VK):Prop
 |mk:∀l b xs zs,(x=.ref l)->(vs=[.ref b])->(H l=some (.lst xs))->(H b=some (.lst zs))->(xs.length+zs.length<=sizeLine)->(Q .non (upd H l (.lst (xs++zs))))->RExtendI  x vs H Q
def Bh:V->List V->Hp->VK->Prop:=fun x vs H Q=>RExtendI  x vs H Q
theorem FW:MtM X "list.extend" Bh:=by
 intro Zt s σ H x vs v us Q I rx rv h;obtain⟨l,b,xs,zs,rfl,rfl,hH,hB,hz,q⟩:=h;cases rx;obtain⟨u,rfl,ru⟩:=rv.one;cases ru;obtain⟨z,Zs,n,r,hl,e⟩:=I.lstM hH;obtain⟨z2,br,n2,r2,iO,e2⟩:=I.lstM hB;have hsz:Zs.toArray.size+br.toArray.size<=sizeLine:=by rw[zA8,zA8];lia
 have eM:¬(!Zs.toArray.isEmpty&&Builtin.List.listTooLong (Zs.toArray.size+br.toArray.size))=true:=by
  rw[lu hsz,Bool.and_false];exact zAg
 refine call_meets F.slot_list_extend ⟨_,e,rfl⟩ F.entry_list_extend (F.args_list_extend_2 _ _)
  (AutoSeq1.list_extend_list_list_0 l Zs.toArray n b br.toArray n2 eM (by rw[zA8];lia) Zz) ⟨e,e2,?_⟩
 refine⟨.non,_,I.lset (its':=Zs++br) hH e Zy (r.append r2) ?_,rfl,q⟩;rw[zA2];lia
inductive RCatI(x:V)(y:V)(H:Hp)(Q:VK):Prop
 |mk:∀l b xs zs,(x=.ref l)->(y=.ref b)->(H l=some (.lst xs))->(H b=some (.lst zs))->(xs.length+zs.length<=sizeLine)->(∀p,H p=none->Q (.ref p) (upd H p (.lst (xs++zs))))->RCatI  x y H Q
def IK:R2:=fun x y H Q=>RCatI  x y H Q
theorem Er:OpR X (binaryOp .Add) IK:=by
 intro Zt s σ H x y v u Q I rx ry h;obtain⟨l,b,xs,zs,rfl,rfl,hH,hB,hz,q⟩:=h;cases rx;cases ry;obtain⟨z,Zs,n,r,hl,e⟩:=I.lstM hH;obtain⟨z2,br,n2,r2,iO,e2⟩:=I.lstM hB;refine PySem.P.add_list e e2 ?_ (by rw[zA8,zA8];lia);have ea:Zs.toArray++br.toArray=(Zs++br).toArray:=by simp
 rw[ea];exact⟨.ref _,_,I.lnew (t':=s.toks) (r.append r2) (by rw[zA2];lia),rfl,q _ I.fresh⟩
inductive RRepI(x:V)(y:V)(H:Hp)(Q:VK):Prop
 |mk:∀l k xs,(x=.ref l)->(y=.int k)->(H l=some (.lst xs))->(-(2^63)<=k)->(k<2^63)->(xs.length*k.toNat<=sizeLine)->(∀p,H p=none->Q (.ref p) (upd H p (.lst (List.replicate k.toNat xs).flatten)))->RRepI  x y H Q
def IV:R2:=fun x y H Q=>RRepI  x y H Q
theorem len_rep{α:Type}(xs:List α)(k:Nat):(List.replicate k xs).flatten.length=k*xs.length:=by
 induction k with
 |zero=>simp
 |succ k ih=>rw[List.replicate_succ,List.flatten_cons,zA2,ih,Nat.succ_mul,Nat.add_comm]
theorem Es:OpR X (binaryOp .Mult) IV:=by
 intro Zt s σ H x y v u Q I rx ry h;obtain⟨l,k,xs,rfl,rfl,hH,h1,h2,hz,q⟩:=h;cases rx;obtain⟨t,rfl⟩:=ry;obtain⟨z,Zs,n,r,hl,e⟩:=I.lstM hH;have hlen:Zs.toArray.size*k.toNat<=sizeLine:=by rw[zA8,<-hl];exact hz
 have Cb:¬Zs.toArray.size*k.toNat>(2^63-1) / 8:=by
  have:(sizeLine:Nat)<=(2^63-1) / 8:=by decide
  lia
 have Cc:¬(!Builtin.List.listFitsIndex k)=true:=by
  rw[fitsIndex_both h1 h2];exact zAg
 have eM:¬Builtin.List.listTooLong (Zs.toArray.size*k.toNat)=true:=by
  rw[lu hlen];exact zAg
 have Cf:List.foldl (fun x1 x2=>x1++x2) #[] (List.replicate (if Zs.toArray.isEmpty=true then 0 else k.toNat) Zs.toArray)=(List.replicate k.toNat Zs).flatten.toArray:=by
  have f0:∀m:Nat,List.foldl (fun x1 x2=>x1++x2) #[] (List.replicate m Zs.toArray)=(List.replicate m Zs).flatten.toArray:=fun m=>by
   have:=foldl_rep Zs m [];rw[List.nil_append]at this;exact this
  rw[f0]
  cases Zs with
  |nil=>simp
  |cons a r'=>rw[if_neg Zy]
 refine wpAny_binaryOp_repeat_ref (T:="list") (U:="int") Zx ⟨_,e,rfl⟩ (fun s'=>typeIs_int s' k t) noFill_list_mul F.fills_int_mul F.slot_int_rmul repeat_list F.slot_int_index.lookup
  (call_meets F.slot_int_rmul (typeIs_int s k t) F.entry_int_rmul (F.args_int_rmul_2 _ _) (int___rmul___int_list k t l Zs.toArray n)
   ⟨e,rfl,⟨_,e,rfl⟩,call_meets F.slot_list_mul ⟨_,e,rfl⟩ F.entry_list_mul (F.args_list_mul_2 _ _) (AutoListH.list___mul___list_int_3 l Zs.toArray n k t Cc Cb eM) ⟨e,?_⟩⟩)
 rw[Cf];exact⟨.ref _,_,I.lnew (t':=s.toks) (r.rep k.toNat) (by rw[len_rep,Nat.mul_comm];exact hz),rfl,q _ I.fresh⟩
end
section
variable{prog:Program}{w:World}{A:Around}{E:Value->Shared->Prop}{s:Shared}
set_option maxRecDepth 100000 in
end
section
variable{X:Cx}
end
end L2
namespace Att
open PySem PySem.W PySem.Calls PyProof.Rows
theorem jT{P:Params}{h:Heap}:∀(ns:List Int) (vs:List Value),WellAll P h vs (ns.map WData.int)->IntsAre vs ns:=by
 intro ns
 induction ns with
 |nil=>
  intro vs w;rw[List.map_nil]at w;cases w;exact .nil
 |cons n ns ih=>
  intro vs w;rw[zAk]at w
  cases w with
  |cons a b=>
   cases a;exact .cons _ _ (ih _ b)
theorem wQ{l:OpenLaw}{n:Nat}(hn:l.most=some n){P:Params}{h:Heap}{args:List WData}{vals:List Value}
  (kU:l.row.toRowW.claim.pre args=true) (Cn:WellAll P h vals args):
  ∃a vs ns,vals=[Value.ref a]/\args=[WData.list (ns.map WData.int)]/\h.get? a=some {cls:=.type "list",data:=.seq vs.toArray}/\IntsAre vs ns/\ns.length<=n:=by
 have KS:WShape.hasAll [] args [.list .int]=true:=(pre_splitW kU).1;have hc:l.pre.holds [] {args:=args}=true:=(pre_splitW kU).2;obtain⟨d,r,rfl,h1,h2⟩:=hasAllW_cons KS;obtain rfl:=hasAllW_nil h2;obtain⟨xs,rfl,h3⟩:=hasW_list h1;obtain⟨ns,rfl⟩:=items_int h3
 have hlen:ns.length<=n:=by
  unfold OpenLaw.pre at hc
  have h4:(WTm.not (.lt (.lit (.int (n:Int))) (.len (.arg 0)))).holds [] {args:=[.list (ns.map .int)]}=true:=by
   have h4:=(holds_andW hc).1;rw[hn]at h4;exact h4
  have h5:=condW_of h4 (w_not (w_lt w_lit (w_len_list (w_arg rfl))));rw[zA1]at h5;refine Nat.le_of_not_lt fun q=>?_;have q':(n:Int)<((ns.length:Nat):Int):=Zz
  first
   | (rw[zAt q']at h5;exact absurd h5 Zx)
   | (simp at h5;lia)
 cases Cn with
 |cons w1 w2=>
  cases w2
  cases w1 with
  |list ho bE=>exact⟨_,_,ns,rfl,rfl,ho,jT ns _ bE,hlen⟩
theorem wR(l:OpenLaw)(args:List WData):l.row.toRowW.claim.post args (.bool true) args=true:=
 postW_of (r:=l.row.toRowW) (X:=(true==true))
  (show WShape.has [] (.bool true) .bool=true by first|rfl|decide|simp[WShape.has,WShape.arms,WShape.armsAll])
  (show(WTm.eq .res (.lit (.bool true))).value [] {args:=args,res:=some (.bool true),after:=args}=some (.bool (true==true))from w_eq_bool (w_res rfl) w_lit) rfl
theorem attach_call{l:OpenLaw}{n:Nat}{q:Program}{loose:List Str}{XP:(Str->Option Value)->Heap->Prop}{YP:World->Heap->Prop}{d:DefRec}
  (hn:l.most=some n) (vx:d.params.defaults=[])
  (call:∀(w:World) (s₀ s₁:Shared) (mg mb:Str->Option Value) (fa:Addr) (o:Obj) (pm cd doc:Value) (a:Addr) (vs:List Value) (ns:List Int),
   Ground q loose [] XP w s₀ mg mb s₁.heap->YP w s₁.heap->
   s₁.heap.get? fa=some o->o.data=.func (docDef d.name d.params d.body d.scope pm cd doc)->s₁.heap.CodeRec cd d.name->mg d.name=some (.ref fa)->
   s₁.heap.get? a=some {cls:=.type "list",data:=.seq vs.toArray}->IntsAre vs ns->ns.length<=n->s₁.gens=#[]->
   codeAny (model l.prog w) callerA (.call (.ref fa) ⟨[.ref a],[]⟩) (fun r s'=>r=.ok (.ret (.bool true))/\OldK s₁.heap s'.heap/\s'.os=s₁.os/\AllBare s'.gens) s₁):
  WalkO q loose XP YP l.row.toRowW d [] (fun f vs=>PySem.call f vs):=by
 intro w s₀ s₁ mg mb G Y fa o pm cd doc dV kV ho hd iq hD hmg hg args vals as kU KU Qo Cn de;obtain rfl:dV=.none:=Dflts.none hD vx;obtain rfl:kV=.none:=Dflts.noKw hD;obtain⟨a,vs,ns,rfl,rfl,p9,hints,hlen⟩:=wQ hn kU Cn;refine enter_call (codeAny_mono (call w s₀ s₁ mg mb fa o pm cd doc a vs ns G Y ho (fd_plain hd) iq hmg p9 hints hlen hg) fun r s' hq=>?_);obtain⟨rfl,h2,h3,h4⟩:=hq;exact⟨.inl ⟨.bool true,.bool true,[],rfl,fun _=>rfl,.bool true,wR l _,fun _=>⟨List.Pairwise.nil,fun _ hm=>(nomatch hm)⟩⟩,h2,h3,h4⟩
section
variable{prog:Program}{w:World}{A:Around}{E:Value->Shared->Prop}{s:Shared}{K:Frag}
end
end Att
namespace L2
open PySem PySem.Spec PyProof.Rows
theorem nO:∀{vs:List Value} {ns:List Int},IntsAre vs ns->Vals (ns.map V.int) vs
 |_,_,.nil=>.nil
 |_,_,.cons n t h=>.cons ⟨t,rfl⟩ (nO h)
def Only(H:Hp):Prop:=∀b,H b=none\/∃o xs,H b=some (.frz o (.lst xs))
theorem yu{P:Program}{w:World}{K:Frag}{mg mb:Str->Option Value}{CX:CXT}{k:Nat}{fa a:Addr}{fd:FuncData}{x:Str}{sp:Sp}{s₁:Shared}{vs:List Value}{ns:List Int}
  (KX:K.In s₁.heap) (Iy:s₁.heap.Ns mainGlobals mg) (hb:s₁.heap.Ns builtinsNs mb) (KW:∀x:Str,x≠"__name__"->mb x=bootBuiltins x) (Co:s₁.heap.NoLimit) (hg:s₁.gens=#[])
  (ha:s₁.heap.get? a=some {cls:=.type "list",data:=.seq vs.toArray}) (hi:IntsAre vs ns) (hl:ns.length<=sizeLine) (hr:Room k callerA)
  (F:∀base:Heap,K.In base->base.Ns mainGlobals mg->FnOk P w K mg base CX k fa fd [x] sp) (vE:∀(s:Shared) (u:Value),BindsTo s fd ⟨[u],[]⟩ [(x,u)])
  (mI:∀H:Hp,Only H->SqL K H a (ns.map V.int)->sp [.ref a] H (fun v _=>v=.bl true) fun _ _ _=>False)
  (Cs:∀H e s',CX [] H s₁ (fun _ _ _=>False) e s'->False):
  codeAny (model P w) callerA (.call (.ref fa) ⟨[.ref a],[]⟩) (fun r s'=>r=.ok (.ret (.bool true))/\OldK s₁.heap s'.heap/\s'.os=s₁.os/\AllBare s'.gens) s₁:=by
 have rv:=nO hi;have Ct:=hi.length
 have core:∀H:Hp,Only H->SqL K H a (ns.map V.int)->HOk P w H s₁.heap->(∀b,H b≠none->b=a)->(H a≠none->K.lookup a=none)->
   codeAny (model P w) callerA (.call (.ref fa) ⟨[.ref a],[]⟩) (fun r s'=>r=.ok (.ret (.bool true))/\OldK s₁.heap s'.heap/\s'.os=s₁.os/\AllBare s'.gens) s₁:=by
  intro H hO hS hok hA hK;have gi:∀{b:Addr} {o:Obj},s₁.heap.get? b=some o->H b=none->(oX s₁.heap H).get? b=some o:=fun e n=>ye e n
  have vn:∀{b:Addr} {o:Obj} {es:Array DictEntry} {ep:Nat},s₁.heap.get? b=some o->o.data=.dict es ep->H b=none:=fun{b o es ep} e d=>by
   cases q:H b with
   |none=>rfl
   |some u=>
    have e':b=a:=hA b (by rw[q];simp);subst e';rw[ha]at e;cases e;have d':Data.seq vs.toArray _=Data.dict es ep:=d;cases d'
  have AM:∀{b:Addr} {m:Str->Option Value},s₁.heap.Ns b m->(oX s₁.heap H).Ns b m:=fun{b m} ⟨o,es,ep,e,d,r⟩=>⟨o,es,ep,gi e (vn e d),d,r⟩
  have IA:K.In (oX s₁.heap H):=fun b o e=>gi (KX b o e) (by
   cases q:H b with
   |none=>rfl
   |some u=>
    have e':b=a:=hA b (by rw[q];simp);subst e'
    rw[hK (by rw[q];simp)]at e;cases e)
  have hM:Mod K mg (oX s₁.heap H):=⟨IA,AM Iy,⟨mb,AM hb,KW⟩,let⟨mc,h1,h2⟩:=Co;⟨mc,AM h1,h2⟩⟩
  have e0:Env0 P w K mg (oX s₁.heap H) callerA [] s₁ H:=⟨rfl,hM,fun b o e=>Av e,Nat.le_of_eq (wG _ _),trivial,fun b hb=>absurd (show b∈([]:List Addr)from hb) Zy,hok,.of_eq hg⟩
  refine codeAny_mono ((F _ IA (AM Iy)).run callerA [] s₁ H ⟨[.ref a],[]⟩ [.ref a] [.ref a] _ _ hr e0 (vE s₁ (.ref a)) (.cons rfl .nil) (mI H hO hS)) fun r s' h=>?_
  cases r with
  |error e=>exact(Cs H e s' h).elim
  |ok fl=>
   cases fl with
   |next=>exact False.elim h
   |brk=>exact False.elim h
   |cont=>exact False.elim h
   |ret u=>
    obtain⟨v,H',os,bare,un,CA,r',q⟩:=h;have q':v=.bl true:=q;subst q';obtain rfl:u=Value.bool true:=r';refine⟨rfl,OldK.of_keep fun b o e=>?_,os,bare⟩
    cases q:H b with
    |none=>exact un.keep b o e q (by intro z;exact absurd (show b∈([]:List Addr)from z) Zy) Zy
    |some u=>
     rcases hO b with z|⟨ob,xs,z⟩
     .rw[q]at z;cases z
     .have z2:=un.frzs b ob _ z;obtain⟨e1,_⟩:=hok b _ z;obtain⟨e2,_⟩:=CA b _ z2;rw[e]at e1;cases e1;exact e2
 cases hk:K.lookup a with
 |some o=>
  have e:=KX a o hk;rw[ha]at e;cases e;refine core (fun _=>none) (fun _=>.inl rfl) (.inr ⟨_,vs.toArray,_,hk,rfl,rfl,rfl,by rw[List.size_toArray,Ct];exact hl,by simpa using rv⟩) (fun b u z=>by have z':(none:Option HO)=some u:=z;cases z') (fun b z=>absurd rfl z) fun z=>absurd rfl z
 |none=>
  refine core (fun b=>if b=a then some (.frz {cls:=.type "list",data:=.seq vs.toArray} (.lst (ns.map V.int)))else none) (fun b=>?_) (.inl (.inr ⟨{cls:=.type "list",data:=.seq vs.toArray},zAx rfl⟩)) (fun b u z=>?_) (fun b z=>?_) fun _=>hk
  .by_cases hb:b=a
   .exact .inr ⟨_,_,zAx hb⟩
   .exact .inl (zAv hb)
  .by_cases hb:b=a
   .have z':=(zAx hb).symm.trans z;cases z';subst hb;exact⟨ha,by rw[zA1];exact hl,vs,_,rv,ha⟩
   .have z':=(zAv hb).symm.trans z;cases z'
  .by_cases hb:b=a
   .exact hb
   .exact absurd (zAv hb) z
theorem walk_of{l:PySem.W.OpenLaw}{n k:Nat}{q:Program}{loose:List Str}{XP:(Str->Option Value)->Heap->Prop}{YP:World->Heap->Prop}{d:DefRec}{K:Params->Frag}{CX:World->CXT}{sp:World->Sp}{x:Str}
  (hn:l.most=some n) (vF:n<=sizeLine) (vx:d.params.defaults=[]) (hr:Room k callerA)
  (hY:∀(w:World) (h:Heap),YP w h->(K w.params).In h)
  (F:∀(w:World) (mg:Str->Option Value) (fa:Addr) (h:Heap),(K w.params).In h->h.Ns mainGlobals mg->mg d.name=some (.ref fa)->
   ∃fd:FuncData,(∀(s:Shared) (u:Value),BindsTo s fd ⟨[u],[]⟩ [(x,u)]) /\
    ∀base:Heap,(K w.params).In base->base.Ns mainGlobals mg->FnOk l.prog w (K w.params) mg base (CX w) k fa fd [x] (sp w))
  (mI:∀(w:World) (H:Hp) (a:Addr) (ns:List Int),ns.length<=n->Only H->SqL (K w.params) H a (ns.map V.int)->sp w [.ref a] H (fun v _=>v=.bl true) fun _ _ _=>False)
  (Cs:∀(w:World) (H:Hp) (s:Shared) (e:Value) (s':Shared),CX w [] H s (fun _ _ _=>False) e s'->False):
  PySem.W.WalkO q loose XP YP l.row.toRowW d [] (fun f vs=>PySem.call f vs):=by
 refine Att.attach_call hn vx fun w s₀ s₁ mg mb fa o pm cd doc a vs ns G Y ho hd iq hmg p9 hints hlen hg=>?_;have KX:=hY w _ Y;obtain⟨fd,hb,hF⟩:=F w mg fa _ KX G.T.g hmg;exact yu KX G.T.g G.T.b G.T.builtins G.T.nolimit hg p9 hints (Nat.le_trans hlen vF) hr hF hb (fun H hO hS=>mI w H a ns hlen hO hS) fun H e s'=>Cs w H s₁ e s'
def fG(s:Stmt):Arguments:=match s with
 |.FunctionDef _ a _ _ _ _ _ _ _ _=>a
 |_=>{posonlyargs:=[],args:=[],vararg:=none,kwonlyargs:=[],kw_defaults:=[],kwarg:=none,defaults:=[]}
def eG(s:Stmt):List Stmt:=match s with
 |.FunctionDef _ _ b _ _ _ _ _ _ _=>b
 |_=>[]
def aK(s:Stmt):Scope:=match s with
 |.FunctionDef _ _ _ _ _ _ sc _ _ _=>sc
 |_=>{kind:=.function,names:=[],isGenerator:=false,isCoroutine:=false}
abbrev CX0:CXT:=fun _ _ _ _ _ _=>False
abbrev E0:XK:=fun _ _ _=>False
theorem Gp{X:Cx}:uc CX0 X E0:=fun _ _ _ _ _ _ _ h=>h.elim
structure Fun(K:Frag)(x qual:Str)(st:Stmt)(f:Addr)(fd:FuncData):Prop where
 ex:∃(oc:Value) (od:Option Addr) (kV doc pm:Value) (an:Option Addr) (ah ct:Value) (mE:Array (Option Value)),
  fd=PySem.W.fnOf x qual (fG st) (eG st) (aK st) .none kV doc pm an ah ct/\K.lookup f=some ⟨oc,od,.func fd,mE⟩/\PySem.W.codeIn K ah qual=true
 kp:PySem.W.keepIn K (.ref f)=true
section
variable{P:Program}{w:World}{K:Frag}{mg:Str->Option Value}{base:Heap}{f:Addr}{fd:FuncData}
theorem Fun.ok{x qual:Str}{st:Stmt}{f:Addr}{fd:FuncData}{N ps:List Str}{k:Nat}{sp:Sp}(F:Fun K x qual st f fd)(S:FnScope N ps (aK st))(len:∀vs H Q E,sp vs H Q E->vs.length=ps.length)
  (iF:∀(ah:Value) (A:Around) (outer:List Env) (s:Shared) (H:Hp) (vs:List V) (Q:VK) (E:XK),Room k (A.deeper (envOfC qual (aK st) s.heap.objs.size f ah))->sp vs H Q E->
   ∃t,PSs (wN CX0 P w K mg base N qual (aK st) f ah A outer s H E).nox (eG st) t/\t {nx:=fun _ H'=>Q .non H',rt:=Q} (start N vs) H):FnOk P w K mg base CX0 (k+1) f fd ps sp:=by
 obtain⟨oc,od,kV,doc,pm,an,ah,ct,mE,rfl,lk,iq⟩:=F.ex;refine Gh lk iq S len fun A outer s H vs Q E hr mI=>?_;obtain⟨t,h,q⟩:=iF ah A outer s H vs Q E hr mI;exact⟨t,h.nox,q⟩
theorem Fun.binds{x qual:Str}{st:Stmt}{f:Addr}{fd:FuncData}{ps:List Str}(F:Fun K x qual st f fd)
  (h:∀(kV doc pm:Value) (an:Option Addr) (ah ct:Value) (us:List Value),us.length=ps.length->bindArgs (PySem.W.fnOf x qual (fG st) (eG st) (aK st) .none kV doc pm an ah ct) ⟨us,[]⟩=pure (ps.zip us)):Binds K fd ps []:=by
 obtain⟨oc,od,kV,doc,pm,an,ah,ct,mE,rfl,lk,iq⟩:=F.ex;exact .all (h kV doc pm an ah ct)
theorem yw{x qual:Str}{st:Stmt}{f:Addr}{oc:Value}{od an:Option Addr}{mE:Array (Option Value)}{kV doc pm ah ct:Value}(l:K.lookup f=some ⟨oc,od,.func (PySem.W.fnOf x qual (fG st) (eG st) (aK st) .none kV doc pm an ah ct),mE⟩)
  (c:PySem.W.codeIn K ah qual=true) (k:PySem.W.keepIn K (.ref f)=true):Fun K x qual st f (PySem.W.fnOf x qual (fG st) (eG st) (aK st) .none kV doc pm an ah ct):=⟨⟨oc,od,kV,doc,pm,an,ah,ct,mE,rfl,l,c⟩,k⟩
end
theorem fH{A:Around}{k:Nat}(hr:Room k A):A.units+1<cLine:=Nat.lt_of_le_of_lt (Nat.add_le_add_left (by decide:1<=64) _) hr.units
section
variable{X:Cx}
theorem pv(i:Nat){x:Str}{pos:Pos}(hN:X.N[i]?=some x:=by rfl)(hv:Vis X.env.scope x:=by first|exact Or.inl rfl|exact Or.inr (Or.inl rfl)|exact Or.inr (Or.inr rfl))(hd:(x==("__debug__":Str))=false:=by decide)
  (iq:(x==("__classdict__":Str))=false:=by decide):PE X (.Name x pos) (Aw i):=Ec hN hv hd iq
end
theorem bA{A B:Prop}(h:B):if false=true then A else B:=by
 rw[zAv zAg];exact h
theorem bQ{A B:Prop}(h:A):if true=true then A else B:=by
 rw[zAx rfl];exact h
theorem Bj{c A B:Prop}[Decidable c](h1:c->A)(h2:¬c->B):if c then A else B:=by
 by_cases h:c
 .rw[zAx h];exact h1 h
 .rw[zAv h];exact h2 h
def Same(H H':Hp):Prop:=∀b o,H b=some o->H' b=some o
theorem Same.refl(H:Hp):Same H H:=fun _ _ h=>h
theorem Same.trans{H H1 H2:Hp}(a:Same H H1)(b:Same H1 H2):Same H H2:=fun c o h=>b c o (a c o h)
theorem Same.free{H H':Hp}(e:Same H H'){l:Addr}(h:H' l=Option.none):H l=Option.none:=by
 cases q:H l with
 |none=>rfl
 |some o=>
  rw[e l o q]at h;cases h
theorem Same.seq{K:Frag}{H H':Hp}{a:Addr}{xs:List V}(e:Same H H')(h:SqL K H a xs):SqL K H' a xs:=by
 rcases h with(h|⟨o,h⟩)|h
 .exact .inl (.inl (e _ _ h))
 .exact .inl (.inr ⟨o,e _ _ h⟩)
 .exact .inr h
def fu(cells:List (Str×Addr)):List (Str×NameKind)->List (Str×Addr)->List (Str×Addr)
 |[],acc=>acc
 | (n,k)::r,acc=>fu cells r (if k=.free then(n,(cells.lookup n).getD 0)::acc else acc)
theorem nP{env:Env}:∀(l:List (Str×NameKind)) (acc:List (Str×Addr)),(∀p∈l,p.2=NameKind.free->(env.cells.lookup p.1).isSome=true)->
  (forIn l acc fun(x:Str×NameKind) (r:List (Str×Addr))=>(if(x.2==NameKind.free)=true then do let a <-cellOf env x.1;pure (ForInStep.yield ((x.1,a)::r))else pure (ForInStep.yield r):Sem (ForInStep (List (Str×Addr)))))=pure (fu env.cells l acc)
 |[],acc,_=>rfl
 | (n,k)::r,acc,h=>by
  rw[List.forIn_cons];have ih:=fun a=>nP (env:=env) r a fun p hp=>h p (List.mem_cons_of_mem _ hp);by_cases hk:k=.free
  .subst hk;have hs:=h (n,.free) List.mem_cons_self rfl;obtain⟨c,hc⟩:=Option.isSome_iff_exists.mp hs;have e1:cellOf env n=pure c:=by unfold cellOf;rw[show env.cells.lookup n=some c from hc]
   have e2:fu env.cells ((n,.free)::r) acc=fu env.cells r ((n,c)::acc):=by
    show fu env.cells r (if NameKind.free=NameKind.free then(n,(env.cells.lookup n).getD 0)::acc else acc)=_;rw[zAx rfl,show env.cells.lookup n=some c from hc];rfl
   rw[e2];simp only[beq_self_eq_true,if_true,e1,pure_bind];exact ih _
  .have hb:(k==NameKind.free)=false:=by simpa using hk
   have e2:fu env.cells ((n,k)::r) acc=fu env.cells r acc:=by
    show fu env.cells r (if k=NameKind.free then _ else acc)=_;rw[zAv hk]
   rw[e2];simp only[hb,Bool.false_eq_true,if_false,pure_bind];exact ih _
theorem pJ{scope:Scope}{env:Env}(h:∀p∈scope.names,p.2=NameKind.free->(env.cells.lookup p.1).isSome=true):closureFor scope env=pure (fu env.cells scope.names []):=by
 have e:=nP (env:=env) scope.names [] h;unfold closureFor;simp only[bind_pure];exact e
theorem qY{cells:List (Str×Addr)}{x:Str}{c:Addr}:∀(l:List (Str×NameKind)) (acc:List (Str×Addr)),(∀p∈l,p.2=NameKind.free->(cells.lookup p.1).isSome=true)->(fu cells l acc).lookup x=some c->
  acc.lookup x=some c\/cells.lookup x=some c
 |[],_,_,h=>.inl h
 | (n,k)::r,acc,hf,h=>by
  have h':(fu cells r (if k=.free then(n,(cells.lookup n).getD 0)::acc else acc)).lookup x=some c:=h;rcases qY r _ (fun p hp=>hf p (List.mem_cons_of_mem _ hp)) h' with e|e
  .by_cases hk:k=.free
   .rw[zAx hk]at e;obtain⟨d,hd⟩:=Option.isSome_iff_exists.mp (hf (n,k) List.mem_cons_self hk);rw[show cells.lookup n=some d from hd]at e;rw[List.lookup_cons]at e
    cases hx:x==n with
    |true=>
     rw[hx]at e;have:x=n:=by simpa using hx
     subst this;exact .inr (hd.trans (by simpa using e))
    |false=>
     rw[hx]at e;exact .inl e
   .rw[zAv hk]at e;exact .inl e
  .exact .inr e
theorem qZ{cells:List (Str×Addr)}{x:Str}:∀(l:List (Str×NameKind)) (acc:List (Str×Addr)),((∃k,(x,k)∈l/\k=NameKind.free)\/(∃c,acc.lookup x=some c))->∃c,(fu cells l acc).lookup x=some c
 |[],_,h=>by
  rcases h with⟨k,hk,_⟩|h
  .exact absurd hk Zy
  .exact h
 | (n,k)::r,acc,h=>by
  show ∃c,(fu cells r (if k=.free then(n,(cells.lookup n).getD 0)::acc else acc)).lookup x=some c;refine qZ r _ ?_;rcases h with⟨k',hk,e⟩|⟨c,hc⟩
  .rcases zAo.mp hk with z|z
   .cases z;refine .inr ?_;rw[zAx e];exact⟨_,by rw[List.lookup_cons,beq_self_eq_true]⟩
   .exact .inl ⟨k',z,e⟩
  .refine .inr ?_;by_cases hk:k=.free
   .rw[zAx hk,List.lookup_cons]
    cases hx:x==n with
    |true=>exact⟨_,rfl⟩
    |false=>exact⟨c,hc⟩
   .rw[zAv hk];exact⟨c,hc⟩
theorem jN{scope:Scope}{env:Env}{x:Str}{k:NameKind}(hc:∀p∈scope.names,p.2≠NameKind.cell)(h:(relabel scope env).names.lookup x=some k)(hk:k=.cell\/k=.free):∃k',(x,k')∈scope.names/\k'=NameKind.free:=by
 have m:=PySem.mem_of_lookup h;obtain⟨⟨n,k0⟩,hm,e⟩:=zA5.mp m;dsimp only at e;split at e
 .rename_i c
  cases e
  have:(k0==NameKind.free)=true:=by
   cases q:(k0==NameKind.free)with
   |true=>rfl
   |false=>rw[q]at c;simp at c
  exact⟨k0,hm,by simpa using this⟩
 .cases e;rcases hk with z|z
  .exact absurd z (hc _ hm)
  .exact⟨_,hm,z⟩
def cxC(X:Cx)(scope:Scope)(Nc:List Str)(C:Addr)(fp:List Addr)(Zt:List (Addr×Obj))(s₂:Shared)(H₂:Hp):Cx where
 prog:=X.prog
 w:=X.w
 K:=X.K
 mg:=X.mg
 base:=X.base
 A:=X.A
 N:=Nc
 s₀:=s₂
 H₀:=H₂
 env:=compEnvC scope (fu X.env.cells scope.names []) C X.env
 outer:=X.stack
 stack:=X.stack
 ex:=fp
 fn:=fun _=>false
 calm:=X.calm
 pn:=X.pn++Zt
 xe:=fun _ _=>False
def Caps(X:Cx)(aT:Env):List Str->List (Option Nat)->Prop
 |[],[]=>True
 |_::N,none::r=>Caps X aT N r
 |x::N,some i::r=>(X.N[i]?=some x/\(X.env.kindOf x=some .cell\/X.env.kindOf x=some .free)/\aT.cells.lookup x=X.env.cells.lookup x/\(aT.kindOf x=some .cell\/aT.kindOf x=some .free))/\Caps X aT N r
 |_,_=>False
def capσ(σ:St)(src:List (Option Nat)):St:=src.map fun o=>match o with|none=>none|some i=>(σ[i]?).join
theorem Caps.len{X:Cx}{aT:Env}:∀{N:List Str} {src:List (Option Nat)},Caps X aT N src->src.length=N.length
 |[],[],_=>rfl
 |[],_::_,h=>h.elim
 |_::_,[],h=>h.elim
 |_::N,none::r,h=>by
  have h':Caps X aT N r:=h;have:=Caps.len (N:=N) (src:=r) h';simp[this]
 |_::N,some _::r,h=>by
  have:=Caps.len (N:=N) (src:=r) h.2;simp[this]
theorem Caps.get{X:Cx}{aT:Env}{x:Str}:∀{N:List Str} {src:List (Option Nat)} {j i:Nat},Caps X aT N src->N[j]?=some x->src[j]?=some (some i)->
  X.N[i]?=some x/\(X.env.kindOf x=some .cell\/X.env.kindOf x=some .free)/\aT.cells.lookup x=X.env.cells.lookup x/\(aT.kindOf x=some .cell\/aT.kindOf x=some .free)
 |[],[],_,_,_,e,_=>by simp at e
 |[],_::_,_,_,h,_,_=>h.elim
 |_::_,[],_,_,h,_,_=>h.elim
 |_::_,none::_,0,_,_,_,e=>by simp at e
 |_::N,none::r,j+1,_,h,e1,e2=>by
  have h':Caps X aT N r:=h;exact Caps.get (N:=N) (src:=r) (j:=j) h' (by simpa using e1) (by simpa using e2)
 |_::_,some _::_,0,_,h,e1,e2=>by
  simp at e1 e2;subst e1 e2;exact h.1
 |_::_,some _::_,j+1,_,h,e1,e2=>Caps.get (j:=j) h.2 (by simpa using e1) (by simpa using e2)
structure CScope(X:Cx)(scope:Scope):Prop where
 kind:scope.kind=.function
 cell:scope.names.all (fun p=>p.2 != .cell)=true
 names:scope.names.all (fun p=>p.2 != .local||scope.names.lookup p.1==some .local)=true
 free:scope.names.all (fun p=>p.2 != .free||(X.env.cells.lookup p.1).isSome)=true
section
variable{X:Cx}{scope:Scope}
theorem CScope.hcell(S:CScope X scope):∀p∈scope.names,p.2≠NameKind.cell:=fun p hp=>by
 have:=List.all_eq_true.mp S.cell p hp;simpa using this
theorem CScope.hnames(S:CScope X scope):∀p∈scope.names,p.2=.local->scope.names.lookup p.1=some .local:=fun p hp e=>by
 have:=List.all_eq_true.mp S.names p hp;simpa[e]using this
theorem CScope.hfree(S:CScope X scope):∀p∈scope.names,p.2=NameKind.free->(X.env.cells.lookup p.1).isSome=true:=fun p hp e=>by
 have:=List.all_eq_true.mp S.free p hp;simpa[e]using this
end
def PTs(X:Cx)(ifs:List Expr)(t:TT):Prop:=
 ∀(Zt:List (Addr×Obj)) (s:Shared) (σ:St) (H:Hp) (Q:Bool->Hp->Prop),Inv X Zt σ H s->t σ H Q->
  wpAny (model X.prog X.w) X.A (forIn ifs true fun c r=>if r=true then do let ok <-isTrue c X.env (eval c X.env);pure (ForInStep.yield ok)else pure (ForInStep.yield r)) (TP X Zt σ Q) X.xe s
def wU:TT:=fun _ H Q=>Q true H
theorem cD{X:Cx}:PTs X [] wU:=fun _ _ _ H _ I h=>wpAny_tests_nil ⟨H,I,h⟩
theorem gw{X:Cx}{c:Expr}{t:TT}(h:PT X c t):PTs X [c] t:=fun Zt s σ H Q I q=>wpAny_tests_one (h Zt s σ H Q I q)
theorem pK{prog:Program}{w:World}{A:Around}{R:Result->Shared->Prop}{s:Shared}{elt target iter:Expr}{ifs:List Expr}{scope:Scope}{pos:Pos}{it acc:Value}{env:Env}(I:Nat->Shared->Prop)
  (turn:∀n s,I n s->wpAny (model prog w) A (pyNext it) (fun r s₁=>match r with
   |none=>R (.ok .next) s₁
   |some v=>wpAny (model prog w) A (letOwnedTupleGo target it v) (fun _ mN=>wpAny (model prog w) A (assign target env v) (fun _ s₂=>
     wpAny (model prog w) A (forIn ifs true fun c r=>if r=true then do let ok <-isTrue c env (eval c env);pure (ForInStep.yield ok)else pure (ForInStep.yield r)) (fun ok s₃=>
      if ok=true then wpAny (model prog w) A (eval elt env) (fun x fA=>
       wpAny (model prog w) A (call (.builtin "list.append") [acc,x]) (fun _ iP=>∃m,m<n/\I m iP) (fun _ _=>False) fA) (fun _ _=>False) s₃
      else ∃m,m<n/\I m s₃) (fun _ _=>False) s₂) (fun _ _=>False) mN) (fun _ _=>False) s₁) (fun _ _=>False) s)
  (n:Nat) (h:I n s):
  codeAny (model prog w) A (.compLoop (.ListComp elt [⟨target,iter,ifs,0⟩] scope pos) 0 it acc env) R s:=by
 refine codeAny_loop rfl I (fun n s hI=>?_) n h;show wpAny _ A ((compTurn (.ListComp elt [⟨target,iter,ifs,0⟩] scope pos) 0 it acc env).onRaise (fun x=>do noteFrame x env;theTreesLotGoes x)) _ _ s;refine wpAny_noted ?_;rw[compTurn_list];refine zAu (wpAny_standAt (zAu (wpAny_mono (turn n s hI) (fun r s₁ h₁=>?_) fun _ _ h'=>h'.elim)))
 cases r with
 |none=>exact zB0 h₁
 |some v=>
  refine zAu (wpAny_mono h₁ (fun _ mN vS=>?_) fun _ _ h'=>h'.elim);refine zAu (wpAny_mono vS (fun _ s₂ cb=>zAu (wpAny_mono cb (fun ok s₃ bP=>?_) fun _ _ h'=>h'.elim)) fun _ _ h'=>h'.elim)
  cases ok with
  |false=>exact zB0 ⟨rfl,bP⟩
  |true=>
   exact zAu (zAu (wpAny_mono bP (fun x fA qa=>zAu (wpAny_mono qa (fun _ iP qf=>zB0 (zB0 ⟨rfl,qf⟩)) fun _ _ h'=>h'.elim)) fun _ _ h'=>h'.elim))
def jO(J:It)(g:TG)(tt:TT)(te:TE)(Fin:List V->Hp->Prop)(dP:St)(H0:Hp):Prop:=
 ∃W:Nat->Nat->List V->St->Hp->Prop,(∃m,W 0 m [] dP H0)/\∀i m ys σ H,W i m ys σ H->ys.length<sizeLine /\
  ((J.stop i H/\Fin ys H)\/(J.go i H/\∀x H',J.yld i H x H'->g x σ H' fun aS H2=>tt aS H2 fun b H3=>
   if b=true then te aS H3 fun y H4=>∃m',m'<m/\W (i+1) m' (ys++[y]) aS H4 else ∃m',m'<m/\W (i+1) m' ys aS H3))
theorem ju{X:Cx}{tg iter elt:Expr}{ifs:List Expr}{scope:Scope}{pos:Pos}{Nc:List Str}{src:List (Option Nat)}{g:TG}{tt:TT}{te:TE}(hc:X.calm=true)(S:CScope X scope)
  (cm:∀C,Caps X (compEnvC scope (fu X.env.cells scope.names []) C X.env) Nc src)
  (hb:∀C fp Zt s₂ H₂,PG (cxC X scope Nc C fp Zt s₂ H₂) tg g/\PTs (cxC X scope Nc C fp Zt s₂ H₂) ifs tt/\PE (cxC X scope Nc C fp Zt s₂ H₂) elt te)
  {Zt:List (Addr×Obj)} {s₂:Shared} {σ:St} {H₂:Hp} {it:Addr} {fp:List Addr} {tn:Nat->Heap->Prop} {J:It} (av:Inv X Zt σ H₂ s₂) (T:Turn X.prog X.w X.K tg J fp it tn) (st:tn 0 s₂.heap) (hf:∀b∈fp,pC X Zt H₂ b)
  {Fin:List V->Hp->Prop} (hW:jO J g tt te Fin (capσ σ src) H₂) {RR:Value->Addr->Result->Shared->Prop} {E:Value->Shared->Prop}
  (KY:∀D C s' ys H' m,Fin ys H'->H' D=none->Inv X Zt σ (upd H' D (.lst ys)) s'->s'.heap.Ns C m->pC X Zt (upd H' D (.lst ys)) C->RR (.ref D) C (.ok .next) s'):
  wpAny (model X.prog X.w) X.A (newList []) (fun acc s₃=>wpAny (model X.prog X.w) X.A (newFunctionEnv scope X.env.globals (fu X.env.cells scope.names []) [] X.env.qual none .none (some X.env)) (fun vT fA=>
   codeAny (model X.prog X.w) X.A (.compStart (.ListComp elt [⟨tg,iter,ifs,0⟩] scope pos) 0 (.ref it) acc {vT with scope:=relabel scope X.env}) (RR acc vT.locals) fA) E s₃) E s₂:=by
 refine wpAny_newObj_type (wpAny_newFunctionEnv S.hcell (by intro y hy;simp at hy) (fun h₁ cK cc=>?_) S.kind);dsimp only at cK cc⊢;generalize CB:s₂.heap.push {cls:=.type "list",dict:=none,data:=.seq ([]:List Value).toArray}=HH at cK cc⊢;generalize mP:s₂.heap.objs.size=D at cK cc⊢;have hC:HH.objs.size=D+1:=by rw[<-CB,Heap.size_push,mP]
 generalize Qp:HH.objs.size=C at cK cc hC⊢;have AN:D≠C:=Zz
 have below:∀b,b<s₂.heap.objs.size->b≠C/\b≠D:=fun b hb=>by rw[mP]at hb;exact⟨by rw[hC];exact zB3 (Nat.lt_succ_of_lt hb),zB3 hb⟩
 have bg:∀{b o},s₂.heap.get? b=some o->b≠C/\b≠D:=fun{b o} e=>below b (zAz e);have old:∀b o,s₂.heap.get? b=some o->h₁.get? b=some o:=fun b o e=>cc.extBut b o (bg e).1 (zAy _ (CB▸zAy _ e));have iS:h₁.get? D=some {cls:=.type "list",data:=.seq ([]:List Value).toArray}:=cc.extBut _ _ AN (zAy _ (CB▸mP▸zB1 _ rfl))
 have KZ:∀b∈fp,∃o,s₂.heap.get? b=some o:=fun b hb=>let⟨o,e,_⟩:=T.obj _ _ st b hb;⟨o,e⟩
 have AO:∀b∈fp,b≠C/\b≠D:=fun b hb=>let⟨o,e⟩:=KZ b hb;bg e
 have sub:∀{x c},(fu X.env.cells scope.names []).lookup x=some c->X.env.cells.lookup x=some c:=fun{x c} e=>by
  rcases qY scope.names [] S.hfree e with z|z
  .simp at z
  .exact z
 have K0:∀{b o},s₂.heap.get? b=some o->b<D:=fun{b o} e=>by rw[<-mP];exact zAz e
 have fresh:∀a,D<=a->H₂ a=none:=fun a ha=>av.hok.fresh (by rw[mP];exact ha)
 have mS:∀{x c},X.env.cells.lookup x=some c->∃o,s₂.heap.get? c=some o:=fun{x c} e=>let⟨v,o,ho,_⟩:=av.cell x c e;⟨o,ho⟩
 have CC:∀b∈frs X.stack,∃o,s₂.heap.get? b=some o:=fun b hb=>by
  rcases zAo.mp (av.stkSub b hb)with e|hb
  .rw[e];obtain⟨m,⟨o,_,_,ho,_⟩,_⟩:=av.loc;exact⟨o,ho⟩
  .obtain⟨_,o,ho,_⟩:=av.funs.mem hb;exact⟨o,ho⟩
 have CD:∀a,D<=a->a∉frs X.stack:=fun a ha hb=>by
  obtain⟨o,e⟩:=CC a hb;exact absurd (zB5 (K0 e) ha) (Nat.lt_irrefl _)
 have IB:∀b∈fp,b∉frs X.stack:=fun b hb z=>by
  obtain⟨_,f1,f2,_⟩:=hf b hb;rcases zAo.mp (av.stkSub b z)with e|e
  .exact f1 e
  .exact f2 e
 generalize eR:cxC X scope Nc C fp Zt s₂ H₂=X';obtain⟨hg,ht,he⟩:=hb C fp Zt s₂ H₂;rw[eR]at hg ht he
 have K1:X'.Ok:=by
  subst eR;refine⟨av.ok.mod,S.kind,av.ok.glob,av.ok.blt,?_,?_,?_,?_,av.ok.hd,av.ok.frames,.inl rfl,?_,av.bs,Nat.le_trans av.ok.bsz av.sz,?_,IB,av.stack,av.stkFree⟩
  .show s₂.heap.objs.size<=C;lia
  .exact fun x y c e1 e2=>av.ok.inj x y c (sub e1) (sub e2)
  .intro x hx;have hx:(relabel scope X.env).names.lookup x=some .cell\/(relabel scope X.env).names.lookup x=some .free:=hx
   have:∃k',(x,k')∈scope.names/\k'=NameKind.free:=by
    rcases hx with z|z
    .exact jN S.hcell z (.inl rfl)
    .exact jN S.hcell z (.inr rfl)
   exact qZ scope.names [] (.inl this)
  .intro x c z;exact absurd z (by show¬(false=true);simp)
  .intro b hb;exact⟨(AO b hb).1,fun x c e=>(hf b hb).2.2.2.2.1 x c (sub e)⟩
  .intro b o e hb;obtain⟨_,_,_,f3,_⟩:=hf b hb;rcases f3 with z|z
   .exact av.ok.noex b o e z
   .exact absurd (zB5 (zAz (av.ok.bs b o e).1) z) (Nat.lt_irrefl _)
 have eP:X'.prog=X.prog:=by subst eR;rfl
 have ew:X'.w=X.w:=by subst eR;rfl
 have eK:X'.K=X.K:=by subst eR;rfl
 have eA:X'.A=X.A:=by subst eR;rfl
 have eE:X'.xe=fun _ _=>False:=by subst eR;rfl
 have eL:X'.env.locals=C:=by subst eR;rfl
 have eN:X'.env=compEnvC scope (fu X.env.cells scope.names []) C X.env:=by subst eR;rfl
 have ec:X'.calm=true:=by subst eR;exact hc
 have eS:X'.s₀=s₂:=by subst eR;rfl
 have eH:X'.H₀=H₂:=by subst eR;rfl
 have ef:X'.fs=frs X.stack:=by subst eR;rfl
 have ex:X'.ex=fp:=by subst eR;rfl
 have ep:X'.pn=X.pn++Zt:=by subst eR;rfl
 have I0:Inv X' [] (capσ σ src) H₂ {s₂ with heap:=h₁,toks:=s₂.toks+([]:List (Str×Value)).length}:=by
  refine⟨K1,by rw[eS],av.bare,by rw[eS,eH];exact Un.kept old,⟨_,by rw[eL];exact cK,?_⟩,?_,by rw[eL];exact fresh _ Zz,?_,?_,by rw[eP,ew];exact av.hok.kept old,?_⟩
  .intro j x v e1 e2 e3;have e1:Nc[j]?=some x:=by subst eR;exact e1
   have e4:∃i,src[j]?=some (some i)/\(σ[i]?).join=some v:=by
    unfold capσ at e2;rw[zAb]at e2
    cases q:src[j]? with
    |none=>rw[q]at e2;cases e2
    |some o=>
     rw[q]at e2
     cases o with
     |none=>simp at e2
     |some i=>exact⟨i,rfl,by simpa using e2⟩
   obtain⟨i,e5,e6⟩:=e4;obtain⟨c1,c2,c3,c4⟩:=(cm C).get e1 e5
   have e7:σ[i]?=some (some v):=by
    cases q:σ[i]? with
    |none=>rw[q]at e6;simp at e6
    |some o=>rw[q]at e6;simp at e6;rw[e6]
   obtain⟨m,_,hl⟩:=av.loc;obtain⟨u,r,l⟩:=hl i x v c1 e7 (.inr (by rcases c2 with z|z;exact .inl z;exact .inr z));refine⟨u,r,?_⟩;rcases l with⟨k,_⟩|⟨_,c,e,z⟩
   .rcases c2 with c2|c2<;>(rw[k]at c2;cases c2)
   .refine .inr ⟨by rw[eN];exact c4,c,by rw[eN];exact c3.trans e,?_⟩;obtain⟨o,ho,hd⟩:=z;exact⟨o,old c o ho,hd⟩
  .intro x c e;rw[eN]at e;obtain⟨v,o,ho,hd⟩:=av.cell x c (sub e);exact⟨v,o,old c o ho,hd⟩
  .intro x c e;rw[eN]at e;exact av.freeC x c (sub e)
  .intro p hp;rw[ep,zAn]at hp;obtain⟨e,n,ne,nf,d⟩:=av.pin p hp;refine⟨old _ _ e,n,by rw[eL];exact(bg e).1,?_,d⟩;rw[ef];intro z;rcases zAo.mp (av.stkSub _ z)with q|q
   .exact ne q
   .exact nf q
  .have:=(cm C).len;subst eR;show(capσ σ src).length=Nc.length;unfold capσ;rw[zA1,this]
 have K2:∀p∈X'.pn,p.1≠D:=fun p hp=>by
  rw[ep]at hp;exact(bg (av.pin p hp).1).2
 have wa:∀x c,X'.env.cells.lookup x=some c->c≠D:=fun x c e=>by
  rw[eN]at e;obtain⟨o,ho⟩:=mS (sub e);exact(bg ho).2
 have CF:∀{P:List (Addr×Obj)} {H:Hp},(∀p∈P,p.1=D)->(∀b∈fp,H b=none)->∀b∈fp,pC X' P H b:=fun{P H} hP hn b hb=>by
  refine⟨hn b hb,by rw[eL];exact(AO b hb).1,by rw[ef];exact IB b hb,.inl (by rw[ex];exact hb),fun x c e=>?_,fun p hp=>?_⟩
  .rw[eN]at e;exact(hf b hb).2.2.2.2.1 x c (sub e)
  .rcases zA6.mp hp with z|z
   .rw[ep]at z;exact(hf b hb).2.2.2.2.2 p z
   .rw[hP p z];exact(AO b hb).2.symm
 obtain⟨W,⟨m0,w0⟩,step⟩:=hW
 have loop:∀s₃:Shared,s₃={s₂ with heap:=h₁,toks:=s₂.toks+([]:List (Str×Value)).length}->
   codeAny (model X.prog X.w) X.A (.compLoop (.ListComp elt [⟨tg,iter,ifs,0⟩] scope pos) 0 (.ref it) (.ref D) (compEnvC scope (fu X.env.cells scope.names []) C X.env)) (RR (.ref D) C) s₃:=by
  rintro s₃ rfl
  refine pK (fun n s'=>∃i ys us k ar H',Inv X' [] ar H' s'/\tn i s'.heap/\(∀b∈fp,H' b=none)/\H' D=none/\s'.heap.get? D=some {cls:=.type "list",data:=.seq (List.toArray us) k}/\Vals ys us/\W i n ys ar H') ?_ m0
   ⟨0,[],[],_,_,_,I0,T.keep _ _ _ st fun b _ o e=>old b o e,fun b hb=>(hf b hb).1,fresh _ (zA3 _),iS,.nil,w0⟩
  rintro n s3 ⟨i,ys,us,k,iA,H3,I3,f6,vk,qh,K3,AQ,w3⟩;obtain⟨hsz,qo⟩:=step i n ys iA H3 w3
  have IC:Inv X' [(D,{cls:=.type "list",data:=.seq us.toArray k})] iA H3 s3:=I3.pins_of fun p hp=>by
   rw[List.mem_singleton.mp hp];exact⟨K3,qh,by rw[eL];exact AN,by rw[ef];exact CD _ (zA3 _),fun v z=>by cases z⟩
  have qq:∀p∈[(D,({cls:=.type "list",data:=.seq us.toArray k}:Obj))],p.1=D:=fun p hp=>by rw[List.mem_singleton.mp hp]
  rcases qo with⟨stop,fin⟩|⟨go,turn⟩
  ·-- the end
   have hd:=T.done X' eP ew eK ec i _ s3 iA H3 (fun _ _=>False) IC (CF qq vk) f6 stop;rw[eA]at hd;refine thn hd fun r s4 ⟨hr,I4⟩=>?_;subst hr;have pD:=I4.pin (D,{cls:=.type "list",data:=.seq us.toArray k}) (zBc _ (List.mem_singleton.mpr rfl));obtain⟨mC,ID,_⟩:=I4.loc;rw[eL]at ID;have mT:=I4.base;rw[eS,eH,ef,ex]at mT;have hlen:ys.length<=sizeLine:=Nat.le_of_lt hsz
   have CH:HOk X.prog X.w (upd H3 D (.lst ys)) s4.heap:=fun b u e=>by
    by_cases hb:b=D
    .subst hb;rw[ao]at e;cases e;exact⟨hlen,us,k,AQ,pD.1⟩
    .rw[aF hb]at e;have z:=I4.hok b u e;rw[eP,ew]at z
     exact z.stay (fun c v _ q=>q) (fun c q=>by rw[aF (aH q qh)];exact q) fun c xs q=>by rw[aF (aH q qh)];exact q
   have un:Un (frs X.stack) fp H₂ (upd H3 D (.lst ys)) s₂.heap s4.heap:=⟨mT.keep,mT.slot,fun b o e n hx=>by rw[aF (bg e).2];exact mT.free b o e n hx,mT.there,
    fun b xs e=>by
     have z:=mT.tups b xs e
     rw[aF (aH z qh)];exact z,
    fun b o u e=>by
     have z:=mT.frzs b o u e
     rw[aF (aH z qh)];exact z,
    fun b ps e=>by
     obtain⟨mo,z⟩:=mT.tbls b ps e
     exact⟨mo,by rw[aF (aH z qh)];exact z⟩⟩
   have J4:Inv X Zt σ (upd H3 D (.lst ys)) s4:=av.call' (ch:=fp) (by have:=I4.os;rw[eS]at this;exact this) un CH I4.bare fun b hb=>by
    obtain⟨_,f1,f2,f3,f4,f5⟩:=hf b hb;exact⟨f3,f1,f4,f5⟩
   refine KY D C s4 ys H3 mC fin qh J4 ID ⟨?_,?_,?_,.inr ?_,?_,?_⟩
   .rw[aF AN.symm];have:=I4.free;rw[eL]at this;exact this
   .have:=av.lt;rw[mP]at this;exact Nat.ne_of_gt (zB5 this (by rw[hC];exact Nat.le_succ _))
   .intro z;obtain⟨_,o,ho,_⟩:=av.funs.mem z;exact(bg ho).1 rfl
   .have:=av.sz;rw[mP]at this;lia
   .intro x c e z;obtain⟨o,ho⟩:=mS e;exact(bg ho).1 z
   .intro p hp z;exact(bg (av.pin p hp).1).1 z
  ·-- a turn
   have hd:=T.item X' eP ew eK ec i _ s3 iA H3 (fun _ _=>False) IC (CF qq vk) f6 go;rw[eA]at hd;refine thn hd fun r s4 ⟨u,hr,h4⟩=>?_;subst hr;refine thn h4 fun _ s5 ⟨x,H5,I5,r5,y5,pd,BY⟩=>?_;have B0:=I5.pinned (CF qq BY) (T.obj _ _ pd);have IE:=hg _ s5 iA H5 x u _ B0 r5 (turn x H5 y5);rw[eP,ew,eA,eE,eN]at IE;refine thn IE fun _ s6 ⟨kR,H6,I6,q6⟩=>?_;have fx:=ht _ s6 kR H6 _ I6 q6;rw[eP,ew,eA,eE,eN]at fx;refine thn fx fun okb s7 ⟨H7,I7,q7⟩=>?_
   have back:∀{H8:Hp} {s8:Shared},Inv X' ([(D,({cls:=.type "list",data:=.seq us.toArray k}:Obj))]++kW fp s5.heap) kR H8 s8->
     Inv X' [] kR H8 s8/\tn (i+1) s8.heap/\(∀b∈fp,H8 b=none)/\H8 D=none/\s8.heap.get? D=some {cls:=.type "list",data:=.seq us.toArray k}/\(∀b∈fp,∀o,s5.heap.get? b=some o->s8.heap.get? b=some o):=fun{H8 s8} I8=>by
    have pD:=I8.pin (D,{cls:=.type "list",data:=.seq us.toArray k}) (List.mem_append_right _ (List.mem_append_left _ (List.mem_singleton.mpr rfl)));have pf:∀b∈fp,∀o,s5.heap.get? b=some o->s8.heap.get? b=some o:=fun b hb o e=>(I8.pin (b,o) (List.mem_append_right _ (List.mem_append_right _ (gn hb e)))).1;refine⟨I8.pins_of fun p hp=>absurd hp Zy,T.keep _ _ _ pd pf,fun b hb=>?_,pD.2.1,pD.1,pf⟩;obtain⟨o,e,d⟩:=T.obj _ _ pd b hb;exact(I8.pin (b,o) (List.mem_append_right _ (List.mem_append_right _ (gn hb e)))).2.1
   cases okb with
   |false=>
    obtain⟨b1,b2,b3,b4,b5,_⟩:=back I7;obtain⟨m',hm,w7⟩:=q7;exact⟨m',hm,i+1,ys,us,k,kR,H7,b1,b2,b3,b4,b5,AQ,w7⟩
   |true=>
    have AR:=he _ s7 kR H7 _ I7 q7;rw[eP,ew,eA,eE,eN]at AR;show wpAny _ _ (eval elt _) _ _ s7;refine thn AR fun xv s8 ⟨y,H8,I8,r8,m',hm,w8⟩=>?_;obtain⟨b1,b2,b3,b4,b5,b6⟩:=back I8;refine append_at (hsz:=by rw[zA8,<-AQ.length];exact Nat.le_of_lt hsz) b5 fun h9 IF K4=>?_
    have I9:Inv X' [] kR H8 {s8 with heap:=h9}:=b1.turned (t':=s8.toks) (fun b o hb e=>IF.extBut b o hb e) b4 (by rw[eL];exact AN) (.inr (by rw[eS,mP];exact zA3 _)) wa fun p hp=>by
     rw[zAn]at hp;exact K2 p hp
    refine⟨m',hm,i+1,ys++[y],us++[xv],k+1,kR,H8,I9,T.keep _ _ _ b2 fun b hb o e=>IF.extBut b o (AO b hb).2 e,b3,b4,?_,AQ.append (.cons r8 .nil),w8⟩;show h9.get? D=_;rw[K4,List.push_toArray]
 refine codeAny_compStart_list (loop _ rfl) ?_;exact T.self _ 0 _ _ _ (T.keep _ _ _ st fun b _ o e=>old b o e) (loop _ rfl)
def yx(wi:TI)(src:List (Option Nat))(g:TG)(tt:TT)(te:TE):TE:=fun σ H Q=>wi σ H fun J H1=>jO J g tt te (fun ys H'=>∀D,H' D=none->Q (.ref D) (upd H' D (.lst ys))) (capσ σ src) H1
section
variable{X:Cx}{tg iter elt:Expr}{ifs:List Expr}{scope:Scope}{pos:Pos}{Nc:List Str}{wi:TI}{g:TG}{tt:TT}{te:TE}
theorem cF(Nc:List Str)(src:List (Option Nat))(hc:X.calm=true)(hi:PI X tg iter wi)
  (hb:∀C fp Zt s₂ H₂,PG (cxC X scope Nc C fp Zt s₂ H₂) tg g/\PTs (cxC X scope Nc C fp Zt s₂ H₂) ifs tt/\PE (cxC X scope Nc C fp Zt s₂ H₂) elt te)
  (cm:∀C,Caps X (compEnvC scope (fu X.env.cells scope.names []) C X.env) Nc src) (S:CScope X scope)
  (hs:∀x,foldedSetIterable iter X.env x=pure x:=by intro _;rfl):PE X (.ListComp elt [⟨tg,iter,ifs,0⟩] scope pos) (yx wi src g tt te):=by
 intro Zt s σ H Q I h;rw[eval_ListComp];refine wpAny_comprehension_free (use:=none) rfl hs (pJ S.hfree) S.kind S.hnames ?_;refine thn (hi Zt s σ H _ I h) fun v s1 h1=>thn h1 fun vj s2 h2=>?_;obtain⟨it,fp,tn,J,H2,e,I2,T,st2,f2,hW⟩:=h2;subst e;refine ju (RR:=fun acc C=>compPost (model X.prog X.w) X.A X.xe none (EP X Zt σ Q) acc C) hc S cm hb I2 T st2 f2 hW ?_;intro D C s' ys H' m fin nD J' hn fC;obtain⟨f0,f1,_,f3,f4,f5⟩:=fC;refine⟨m,hn,fun IG iX=>?_⟩;exact⟨.ref D,_,J'.turned (t':=s'.toks) (fun b o hb e=>iX.extBut b o hb e) f0 f1 f3 f4 f5,rfl,fin D nD⟩
def Et(wi:TI)(src:List (Option Nat))(g:TG)(tt:TT)(te:TE)(i:Nat):TS:=fun D σ H=>yx wi src g tt te σ H fun v H'=>D.nx (σ.set i (some v)) H'
theorem iy{i:Nat}{x:Str}{pos' wb:Pos}(Nc:List Str)(src:List (Option Nat))(hc:X.calm=true)(hN:X.N.Nodup)(hX:X.N[i]?=some x)(hx:Loc X.env.scope x)(hi:PI X tg iter wi)
  (hb:∀C fp Zt s₂ H₂,PG (cxC X scope Nc C fp Zt s₂ H₂) tg g/\PTs (cxC X scope Nc C fp Zt s₂ H₂) ifs tt/\PE (cxC X scope Nc C fp Zt s₂ H₂) elt te)
  (cm:∀C,Caps X (compEnvC scope (fu X.env.cells scope.names []) C X.env) Nc src) (S:CScope X scope)
  (K5:swapsWith (.ListComp elt [⟨tg,iter,ifs,0⟩] scope pos) (some (.Name x pos')) wb.line X.env=pure true:=by rfl)
  (hf:X.fn x=true\/X.env.scope.names.lookup x=some .local:=by first|exact .inl rfl|exact .inr rfl|assumption)
  (hs:∀x,foldedSetIterable iter X.env x=pure x:=by intro _;rfl):PS X (.Assign [.Name x pos'] (.ListComp elt [⟨tg,iter,ifs,0⟩] scope pos) wb) (Et wi src g tt te i):=by
 intro Zt s σ H D I h;rw[exec_Assign_Name_used _ _ _ _ K5];refine zAu (wpAny_standAt (zAu ?_));show wpAny _ _ (do let _ <-comprehension (.ListComp elt [⟨tg,iter,ifs,0⟩] scope pos) scope X.env _ (newList []) false (eval iter X.env) (some (assign (.Name x pos') X.env))) _ _ s;refine zAu (thn (wpAny_comprehension_free (use:=some (assign (.Name x pos') X.env)) (Q:=fun _ s'=>∃ar H',Inv X Zt ar H' s'/\D.nx ar H') rfl hs (pJ S.hfree) S.kind S.hnames ?_) fun _ s' hq=>zB0 (zB0 hq));refine thn (hi Zt s σ H _ I h) fun v s1 h1=>thn h1 fun vj s2 h2=>?_;obtain⟨it,fp,tn,J,H2,e,I2,T,st2,f2,hW⟩:=h2;subst e;refine ju (RR:=fun acc C=>compPost (model X.prog X.w) X.A X.xe (some (assign (.Name x pos') X.env)) (fun _ s'=>∃ar H',Inv X Zt ar H' s'/\D.nx ar H') acc C) hc S cm hb I2 T st2 f2 hW ?_;intro A C s' ys H' m fin nD J' hn fC;obtain⟨f0,f1,Qq,f3,f4,f5⟩:=fC;refine wpAny_assign_Name (nu J' hN hX hx (v:=.ref A) rfl (fun sQ K6 K7=>?_) hf)
 have vF:∃m',sQ.heap.Ns C m':=by
  obtain⟨a,sb,ha⟩:=K7
  have kX:C≠a:=by
   rcases ha with z|z
   .rw[z];exact f1
   .exact fun q=>f4 x a z q.symm
  exact⟨m,hn.sameBut sb kX⟩
 obtain⟨m',vF⟩:=vF;refine⟨m',vF,fun IG iX=>?_⟩;exact⟨_,_,K6.turned (t':=sQ.toks) (fun b o hb e=>iX.extBut b o hb e) f0 f1 f3 f4 f5,fin A nD⟩
end
section
variable{X:Cx}
theorem gM:fD X (.builtin "isinstance") (fun xs H Q=>∃x t n b,xs=[x,.ty n]/\TyOf X.K H x t/\PySem.W.kitOne X.K t (.type n)=some b/\Q (.bl b) H):=by
 intro Zt s σ H xs us Q I r h;obtain⟨x,t,n,b,rfl,ty,e,q⟩:=h;obtain⟨u,c,rfl,ru,rc⟩:=vals2 r;obtain rfl:c=Value.type n:=rc
 exact wM I ru ty e fun tk=>⟨.bl b,H,I.tok _,rfl,q⟩
theorem rm{prog:Program}{w:World}{A:Around}(bs:List Bool):TruthOf prog w A (fun i v=>∃b,bs[i]?=some b/\v=Value.bool b) (fun i=>(bs[i]?).getD false):=by
 intro i v s Q E hP hQ;obtain⟨b,hb,rfl⟩:=hP;dsimp only at hQ;rw[hb]at hQ;exact wpAny_truthy_bool hQ
theorem all_range(bs:List Bool):(List.range bs.length).all (fun i=>(bs[i]?).getD false)=bs.all id:=by
 apply Bool.eq_iff_iff.mpr;rw[List.all_eq_true,List.all_eq_true];constructor
 .intro h b hb;obtain⟨i,hi,e⟩:=List.getElem_of_mem hb;have:=h i (List.mem_range.mpr hi);rw[zA0 hi,e]at this;exact this
 .intro h i hi;have hi:=List.mem_range.mp hi;rw[zA0 hi];exact h _ (zAh hi)
theorem lw:∀{bs:List Bool} {us:List Value},Vals (bs.map V.bl) us->us=bs.map Value.bool
 |[],_,.nil=>rfl
 |_::bs,_,.cons r t=>by
  rw[lw (bs:=bs) t,show _=Value.bool _ from r];rfl
theorem eV(hc:X.calm=true):fD X (.builtin "all") (fun xs H Q=>∃(p:Addr) (bs:List Bool),xs=[.ref p]/\SqL X.K H p (bs.map V.bl)/\Q (.bl (bs.all id)) H):=by
 intro Zt s σ H xs us Q I r h;obtain⟨p,bs,rfl,hq,q⟩:=h;obtain⟨u,rfl,ru⟩:=vals1 r;cases ru;obtain⟨Zs,rv,pl,hz⟩:=I.list hq;have ei:=lw rv;subst ei;have ax:p<s.heap.objs.size:=by obtain⟨_,e,_⟩:=pl.isList;exact zAz e
 refine call_all_walk (wpAny_pyIter_list pl.isList ?_);have W:=Walks.list (prog:=X.prog) (w:=X.w) (A:=X.A.in1) (I.ok.hd hc) s.heap.objs.size p (zB3 ax) (bs.map Value.bool).toArray;refine⟨_,_,_,_,_,_,_,rfl,{sub:=W.sub,frame:=W.frame,item:=fun i s Q E hi st hQ=>W.item i s Q E hi st fun v h' tk hP=>hQ v h' tk ?_,done:=W.done,self:=W.self},⟨⟨_,zB1 _ rfl,rfl,rfl⟩,pl.isList.push _⟩,rm bs,fun h' tk k=>?_⟩
 .have wc:(bs.map Value.bool).toArray[i]?=some v:=hP;rw[List.getElem?_toArray,zAb]at wc
  cases e:bs[i]? with
  |none=>rw[e]at wc;cases wc
  |some b=>rw[e]at wc;exact⟨b,rfl,(zAl wc).symm⟩
 .have hsz:(bs.map Value.bool).toArray.size=bs.length:=by simp
  rw[hsz,all_range];refine⟨.bl _,H,?_,rfl,q⟩;refine I.kept (h':=h') (t':=tk) fun b o e=>k b o ?_ (Heap.get?_push_of_some _ e);intro z;have:b=s.heap.objs.size:=by simpa using z
  exact absurd (zAz e) (by rw[this];exact Nat.lt_irrefl _)
end
theorem jw{K:Frag}:PySem.W.kitOne K (.type "NoneType") (.type "int")=some false:=by kernel_rfl
theorem j5{K:Frag}:PySem.W.kitOne K (.type "NoneType") (.type "bool")=some false:=by kernel_rfl
theorem iM{K:Frag}:PySem.W.kitOne K (.type "NoneType") (.type "tuple")=some false:=by kernel_rfl
theorem pL{K:Frag}:PySem.W.kitOne K (.type "bool") (.type "int")=some true:=by kernel_rfl
theorem mO{K:Frag}:PySem.W.kitOne K (.type "bool") (.type "bool")=some true:=by kernel_rfl
theorem lA{K:Frag}:PySem.W.kitOne K (.type "bool") (.type "tuple")=some false:=by kernel_rfl
theorem rA{K:Frag}:PySem.W.kitOne K (.type "int") (.type "int")=some true:=by kernel_rfl
theorem pM{K:Frag}:PySem.W.kitOne K (.type "int") (.type "bool")=some false:=by kernel_rfl
theorem mQ{K:Frag}:PySem.W.kitOne K (.type "int") (.type "tuple")=some false:=by kernel_rfl
theorem rB{K:Frag}:PySem.W.kitOne K (.type "str") (.type "int")=some false:=by kernel_rfl
theorem pN{K:Frag}:PySem.W.kitOne K (.type "str") (.type "bool")=some false:=by kernel_rfl
theorem mR{K:Frag}:PySem.W.kitOne K (.type "str") (.type "tuple")=some false:=by kernel_rfl
theorem pO{K:Frag}:PySem.W.kitOne K (.type "list") (.type "int")=some false:=by kernel_rfl
theorem mU{K:Frag}:PySem.W.kitOne K (.type "list") (.type "bool")=some false:=by kernel_rfl
theorem lB{K:Frag}:PySem.W.kitOne K (.type "list") (.type "tuple")=some false:=by kernel_rfl
theorem mV{K:Frag}:PySem.W.kitOne K (.type "tuple") (.type "int")=some false:=by kernel_rfl
theorem lC{K:Frag}:PySem.W.kitOne K (.type "tuple") (.type "bool")=some false:=by kernel_rfl
theorem jU{K:Frag}:PySem.W.kitOne K (.type "tuple") (.type "tuple")=some true:=by kernel_rfl
theorem pP{K:Frag}:PySem.W.kitOne K (.type "dict") (.type "int")=some false:=by kernel_rfl
theorem mW{K:Frag}:PySem.W.kitOne K (.type "dict") (.type "bool")=some false:=by kernel_rfl
theorem lD{K:Frag}:PySem.W.kitOne K (.type "dict") (.type "tuple")=some false:=by kernel_rfl
section
variable{κ:Type}[DecidableEq κ]
def bZ(kvs:List (κ×V))(k:κ):Option V:=(kvs.find? fun kv=>decide (kv.1=k)).map (·.2)
def putK(kvs:List (κ×V))(k:κ)(v:V):List (κ×V):=
 if(kvs.any fun kv=>decide (kv.1=k))=true then kvs.map (fun kv=>if kv.1=k then(kv.1,v)else kv)else kvs++[(k,v)]
theorem cJ{p:κ×V}{r:List (κ×V)}{k:κ}(e:p.1=k):bZ (p::r) k=some p.2:=by simp[bZ,List.find?_cons,e]
theorem cM{p:κ×V}{r:List (κ×V)}{k:κ}(e:¬p.1=k):bZ (p::r) k=bZ r k:=by simp[bZ,List.find?_cons,e]
theorem j6(k:κ):∀kvs:List (κ×V),(kvs.any fun kv=>decide (kv.1=k))=(bZ kvs k).isSome
 |[]=>rfl
 |p::r=>by
  rw[List.any_cons];by_cases e:p.1=k
  .simp only[cJ e,decide_eq_true e,Bool.true_or,Option.isSome_some]
  .rw[cM e,zB6 e,Bool.false_or];exact j6 k r
theorem rC(k j:κ)(y:V):∀kvs:List (κ×V),bZ (kvs.map fun kv=>if kv.1=k then(kv.1,y)else kv) j=(bZ kvs j).map fun x=>if j=k then y else x
 |[]=>rfl
 |p::r=>by
  have ih:=rC k j y r;rw[zAk];by_cases h:p.1=k
  .rw[zAx h];by_cases e:p.1=j
   .rw[cJ (p:=(p.1,y)) e,cJ e,Option.map_some,zAx (e.symm.trans h)]
   .rw[cM (p:=(p.1,y)) e,cM e,ih]
  .rw[zAv h];by_cases e:p.1=j
   .rw[cJ (p:=p) e,cJ e,Option.map_some,zAv (fun z=>h (e.trans z))]
   .rw[cM (p:=p) e,cM e,ih]
theorem nQ(k j:κ)(y:V):∀kvs:List (κ×V),bZ kvs k=none->bZ (kvs++[(k,y)]) j=if j=k then some y else bZ kvs j
 |[],_=>by
  by_cases e:k=j
  .rw[zAx e.symm];exact cJ (p:=(k,y)) e
  .rw[zAv (fun z=>e z.symm)];exact cM (p:=(k,y)) e
 |p::r,hn=>by
  rw[List.cons_append]
  have hk:¬p.1=k:=fun z=>by rw[cJ z]at hn;cases hn
  rw[cM hk]at hn;have ih:=nQ k j y r hn;by_cases e:p.1=j
  .rw[cJ e,cJ e,zAv (fun z=>hk (e.trans z))]
  .rw[cM e,cM e,ih]
theorem dB(kvs:List (κ×V))(k j:κ)(y:V):bZ (putK kvs k y) j=if j=k then some y else bZ kvs j:=by
 unfold putK;by_cases a:(kvs.any fun kv=>decide (kv.1=k))=true
 .rw[zAx a,rC];rw[j6]at a;by_cases e:j=k
  .obtain⟨x,hx⟩:=Option.isSome_iff_exists.mp a;rw[zAx e,e,hx,Option.map_some,zAx rfl]
  .rw[zAv e]
   cases bZ kvs j with
   |none=>rfl
   |some x=>rw[Option.map_some,zAv e]
 .rw[zAv a];refine nQ k j y kvs ?_;rw[j6]at a
  cases q:bZ kvs k with
  |none=>rfl
  |some x=>rw[q]at a;exact(a rfl).elim
theorem cA(kvs:List (κ×V))(k:κ)(v:V):(putK kvs k v).length<=kvs.length+1:=by
 unfold putK;split
 .rw[zA1];lia
 .rw[zA2,zAe,List.length_nil];lia
theorem RelO.isSome_eq{o:Option V}{u:Option Value}(r:RelO o u):o.isSome=u.isSome:=by
 cases o with
 |none=>cases u with
  |none=>rfl
  |some _=>exact(show False from r).elim
 |some _=>cases u with
  |none=>exact(show False from r).elim
  |some _=>rfl
theorem RelO.getD{o:Option V}{u:Option Value}{d:V}{d':Value}(r:RelO o u)(rd:RelV d d'):RelV (o.getD d) (u.getD d'):=by
 cases o with
 |none=>cases u with
  |none=>exact rd
  |some _=>exact(show False from r).elim
 |some _=>cases u with
  |none=>exact(show False from r).elim
  |some _=>exact r
theorem KV.val{kvs:List (κ×V)}{vs:List (κ×Value)}(r:KV kvs vs)(k:κ):RelO (bZ kvs k) (valueAt vs k):=by
 unfold KV at r
 induction r with
 |nil=>exact True.intro
 |@cons p q ps qs h t ih=>
  obtain⟨h1,h2⟩:=h;by_cases e:p.1=k
  .have e':q.1=k:=h1.symm.trans e;have b:valueAt (q::qs) k=some q.2:=by simp[valueAt,List.find?_cons,e']
   rw[cJ e,b];exact h2
  .have e':¬q.1=k:=fun z=>e (h1.trans z);have b:valueAt (q::qs) k=valueAt qs k:=by simp[valueAt,List.find?_cons,e']
   rw[cM e,b];exact ih
theorem KV.any{kvs:List (κ×V)}{vs:List (κ×Value)}(r:KV kvs vs)(k:κ):(kvs.any fun kv=>decide (kv.1=k))=vs.any fun kv=>decide (kv.1=k):=by
 unfold KV at r
 induction r with
 |nil=>rfl
 |cons h t ih=>rw[List.any_cons,List.any_cons,ih,h.1]
theorem KV.repl{kvs:List (κ×V)}{vs:List (κ×Value)}(r:KV kvs vs)(k:κ){y:V}{u:Value}(ry:RelV y u):
  KV (kvs.map fun kv=>if kv.1=k then(kv.1,y)else kv) (vs.map fun kv=>if kv.1=k then(kv.1,u)else kv):=by
 unfold KV at r⊢
 induction r with
 |nil=>exact .nil
 |@cons p q ps qs h t ih=>
  rw[zAk,zAk];refine .cons ?_ ih;obtain⟨h1,h2⟩:=h;by_cases e:p.1=k
  .rw[zAx e,zAx (h1.symm.trans e)];exact⟨h1,ry⟩
  .rw[zAv e,zAv (fun z=>e (h1.trans z))];exact⟨h1,h2⟩
theorem KV.put{kvs:List (κ×V)}{vs:List (κ×Value)}(r:KV kvs vs)(k:κ){y:V}{u:Value}(ry:RelV y u):KV (putK kvs k y) (stored vs k u):=by
 unfold putK stored;rw[r.any k];by_cases e:(vs.any fun kv=>decide (kv.1=k))=true
 .rw[zAx e,zAx e];exact r.repl k ry
 .rw[zAv e,zAv e];exact Paired.snoc r ⟨rfl,ry⟩
theorem KV.length{kvs:List (κ×V)}{vs:List (κ×Value)}(r:KV kvs vs):kvs.length=vs.length:=Paired.length r
end
theorem rD{P:Program}{w:World}{k:Key}{u:Value}(r:RelV (kV k) u):(bL P w).is k u=true:=by
 cases k with
 |inl i=>obtain⟨t,e⟩:=(show ∃t,u=Value.int i t from r);subst e;exact qO P w i t
 |inr x=>obtain⟨t,e⟩:=(show ∃t,u=Value.str x t from r);subst e;exact qP P w x t
theorem nR{P:Program}{w:World}:∀{ks:List Key} {us:List Value},Vals (ks.map kV) us->ItemsAre (bL P w) ks us
 |[],_,r=>by rw[List.map_nil]at r;cases r;exact .nil
 |k::ks,_,r=>by
  rw[zAk]at r
  cases r with
  |cons h t=>exact .cons (rD h) (nR t)
abbrev KT(H:Hp):List (List Key×V)->List (List Key×Addr×Value)->Prop:=Paired fun p q=>p.1=q.1/\H q.2.1=some (.tup (p.1.map kV))/\RelV p.2 q.2.2
theorem KT.val{H:Hp}{kvs:List (List Key×V)}{xs:List (List Key×Addr×Value)}(r:KT H kvs xs)(k:List Key):RelO (bZ kvs k) ((atKey xs k).map (·.2)):=by
 induction r with
 |nil=>exact True.intro
 |@cons p q ps qs h t ih=>
  obtain⟨h1,_,h2⟩:=h;by_cases e:p.1=k
  .have e':q.1=k:=h1.symm.trans e;have b:atKey (q::qs) k=some q.2:=by simp[atKey,List.find?_cons,e']
   rw[cJ e,b];exact h2
  .have e':¬q.1=k:=fun z=>e (h1.trans z);have b:atKey (q::qs) k=atKey qs k:=by simp[atKey,List.find?_cons,e']
   rw[cM e,b];exact ih
theorem KT.repl{H:Hp}{kvs:List (List Key×V)}{xs:List (List Key×Addr×Value)}(r:KT H kvs xs)(k:List Key){y:V}{u:Value}(ry:RelV y u):
  KT H (kvs.map fun kv=>if kv.1=k then(kv.1,y)else kv) (xs.map (putAt k u)):=by
 induction r with
 |nil=>exact .nil
 |@cons p q ps qs h t ih=>
  rw[zAk,zAk];refine .cons ?_ ih;obtain⟨h1,h2,h3⟩:=h;unfold putAt;by_cases e:p.1=k
  .rw[zAx e,zAx (h1.symm.trans e)];exact⟨h1,h2,ry⟩
  .rw[zAv e,zAv (fun z=>e (h1.trans z))];exact⟨h1,h2,h3⟩
theorem KT.put{H:Hp}{kvs:List (List Key×V)}{xs:List (List Key×Addr×Value)}(r:KT H kvs xs)(k:List Key){b:Addr}{y:V}{u:Value}(hb:H b=some (.tup (k.map kV)))(ry:RelV y u):
  KT H (putK kvs k y) (storedH xs k b u):=by
 have e:(kvs.any fun kv=>decide (kv.1=k))=(atKey xs k).isSome:=by
  rw[j6,(r.val k).isSome_eq,Option.isSome_map]
 unfold putK storedH;rw[e];by_cases q:(atKey xs k).isSome=true
 .rw[zAx q,zAx q];exact r.repl k ry
 .rw[zAv q,zAv q];exact Paired.snoc r ⟨rfl,hb,ry⟩
theorem KT.keeps{H H':Hp}{kvs:List (List Key×V)}{xs:List (List Key×Addr×Value)}(r:KT H kvs xs)(ht:∀b ys,H b=some (.tup ys)->H' b=some (.tup ys)):KT H' kvs xs:=
 Paired.mapP r fun _ _ z=>⟨z.1,ht _ _ z.2.1,z.2.2⟩
section
variable{P:Program}{w:World}{H:Hp}{h:Heap}{a:Addr}
theorem Dl{u:HO}(ok:HOk P w H h)(e:Rd H a u):ObjOk P w H h a u:=e.ok ok
theorem rE{kvs:List (Key×V)}(ok:HOk P w H h)(e:Rd H a (.dK kvs)):kvs.length<=sizeLine/\(a==sysModules)=false/\∃vs,KV kvs vs/\h.DictOf (bL P w) a vs:=
 show ObjOk P w H h a (.dK kvs)from Dl ok e
theorem Dm{kvs:List (Key×V)}(ok:HOk P w H h)(e:H a=some (.dK kvs)):kvs.length<=sizeLine/\(a==sysModules)=false/\∃vs,KV kvs vs/\h.DictOf (bL P w) a vs:=rE ok (.inl e)
theorem pQ{ks:List Key}(ok:HOk P w H h)(e:H a=some (.tup (ks.map kV))):(tupleKind (bL P w)).is h ks a:=by
 obtain⟨_,Zs,r,o,h1,h2,n,h3⟩:=(show ObjOk P w H h a (.tup (ks.map kV))from ok a _ e)
 exact⟨o,Zs.toArray,n,h1,h2,h3,by simpa using nR r⟩
theorem rF{kvs:List (List Key×V)}(ok:HOk P w H h)(e:Rd H a (.dT kvs)):kvs.length<=sizeLine/\(a==sysModules)=false /\
  ∃xs,KT H kvs xs/\h.DictOfH (tupleKind (bL P w)) a xs:=by
 obtain⟨z,y,xs,r,o,es,ep,h1,h2,h3,h4,h5⟩:=(show ObjOk P w H h a (.dT kvs)from Dl ok e)
 refine⟨z,y,xs,r,o,es,ep,h1,h2,h3,h4,fun x hx=>?_,h5⟩
 have all:∀{l:List (List Key×V)} {m:List (List Key×Addr×Value)},KT H l m->∀x∈m,(tupleKind (bL P w)).is h x.1 x.2.1:=by
  intro l m q
  induction q with
  |nil=>intro x hx;exact nomatch hx
  |@cons p q ps qs hq t ih=>
   intro x hx;rcases zAo.mp hx with e|hx
   .subst e;exact pQ ok (by rw[<-hq.1];exact hq.2.1)
   .exact ih x hx
 exact all r x hx
theorem v8{kvs:List (List Key×V)}(ok:HOk P w H h)(e:H a=some (.dT kvs)):kvs.length<=sizeLine/\(a==sysModules)=false /\
  ∃xs,KT H kvs xs/\h.DictOfH (tupleKind (bL P w)) a xs:=rF ok (.inl e)
end
def DGet(H:Hp)(a:Addr)(y:V)(r:Option V):Prop:=
 (∃kvs k,Rd H a (.dK kvs)/\y=kV k/\r=bZ kvs k)\/∃kvs k b,Rd H a (.dT kvs)/\y=.ref b/\H b=some (.tup (k.map kV))/\r=bZ kvs k
def DPut(H:Hp)(a:Addr)(y v:V)(H':Hp):Prop:=
 (∃kvs k,H a=some (.dK kvs)/\y=kV k/\kvs.length<sizeLine/\H'=upd H a (.dK (putK kvs k v))) \/
 ∃kvs k b,H a=some (.dT kvs)/\y=.ref b/\H b=some (.tup (k.map kV))/\kvs.length<sizeLine/\H'=upd H a (.dT (putK kvs k v))
theorem DGet.k{H:Hp}{a:Addr}{kvs:List (Key×V)}{k:Key}(e:H a=some (.dK kvs)):DGet H a (kV k) (bZ kvs k):=.inl ⟨kvs,k,.inl e,rfl,rfl⟩
theorem DGet.t{H:Hp}{a b:Addr}{kvs:List (List Key×V)}{k:List Key}(e:H a=some (.dT kvs))(eb:H b=some (.tup (k.map kV))):DGet H a (.ref b) (bZ kvs k):=.inr ⟨kvs,k,b,.inl e,rfl,eb,rfl⟩
theorem DPut.k{H:Hp}{a:Addr}{kvs:List (Key×V)}{k:Key}{v:V}(e:H a=some (.dK kvs))(hl:kvs.length<sizeLine):DPut H a (kV k) v (upd H a (.dK (putK kvs k v))):=.inl ⟨kvs,k,e,rfl,hl,rfl⟩
theorem DPut.t{H:Hp}{a b:Addr}{kvs:List (List Key×V)}{k:List Key}{v:V}(e:H a=some (.dT kvs))(eb:H b=some (.tup (k.map kV)))(hl:kvs.length<sizeLine):
  DPut H a (.ref b) v (upd H a (.dT (putK kvs k v))):=.inr ⟨kvs,k,b,e,rfl,eb,hl,rfl⟩
section
variable{X:Cx}{Zt:List (Addr×Obj)}{σ:St}{H:Hp}{s:Shared}{a:Addr}{y v:V}{u r:Value}{o:Option V}{A:Around}{E:Value->Shared->Prop}
theorem Inv.big(I:Inv X Zt σ H s):sysModules<s.heap.objs.size:=by
 have h:mainGlobals<s.heap.objs.size:=(I.mod.glob.keeps I.bk).lt;exact Nat.lt_trans Zx h
theorem wV{Q:Value->Shared->Prop}(hu:A.units+1<cLine)(I:Inv X Zt σ H s)(g:DGet H a y (some v))(ry:RelV y u)(h:∀w' s',Inv X Zt σ H s'->RelV v w'->Q w' s'):
  wpAny (model X.prog X.w) A (getItem (.ref a) u) Q E s:=by
 rcases g with⟨kvs,k,e,ey,l⟩|⟨kvs,k,b,e,ey,eb,l⟩
 .subst ey;obtain⟨z,hd,vs,rel,dd⟩:=rE I.hok e;obtain⟨w',hw,dE⟩:=RelO.some_of (v:=v) (o:=valueAt vs k) (by rw[l];exact rel.val k);exact wpAny_getItem_of (rD ry) dd.mapOf hw (h w' _ (I.tok _) dE)
 .subst ey;cases(show u=Value.ref b from ry);obtain⟨z,hd,xs,rel,dd⟩:=rF I.hok e;obtain⟨w',hw,dE⟩:=RelO.some_of (v:=v) (o:=(atKey xs k).map (·.2)) (by rw[l];exact rel.val k);obtain⟨p,hp,we⟩:=Option.map_eq_some_iff.mp hw;refine wpAny_getItem_heap (tupleKind_room_in1 hu) (pQ I.hok eb) dd hp ?_;rw[we];exact h w' _ (I.tok _) dE
theorem pR{h':Heap}{t':Nat}{ob:HO}(I:Inv X Zt σ H s)(mu:Mut (H a))(hs:Heap.SameBut a s.heap h')(he:∃q,h'.get? a=some q)(new:ObjOk X.prog X.w (upd H a ob) h' a ob):
  Inv X Zt σ (upd H a ob) {s with heap:=h',toks:=t'}:=
 I.write (x:=a) (e:=a) mu (.inl rfl) (fun b q hb z=>(hs.2 b hb).trans z) he new
theorem yz{P:Program}{w:World}{H':Hp}{h':Heap}{kvs:List (Key×V)}{vs:List (Key×Value)}(z:kvs.length<=sizeLine)(hd:(a==sysModules)=false)(rel:KV kvs vs)(dd:h'.DictOf (bL P w) a vs):
  ObjOk P w H' h' a (.dK kvs):=⟨z,hd,vs,rel,dd⟩
theorem wW{H':Hp}{Q:Unit->Shared->Prop}(hu:A.units+1<cLine)(I:Inv X Zt σ H s)(g:DPut H a y v H')(ry:RelV y u)(rv:RelV v r)(h:∀s',Inv X Zt σ H' s'->Q () s'):
  wpAny (model X.prog X.w) A (setItem (.ref a) u r) Q E s:=by
 rcases g with⟨kvs,k,e,ey,l,eH⟩|⟨kvs,k,b,e,ey,eb,l,eH⟩
 .subst ey eH;obtain⟨z,hd,vs,rel,dd⟩:=Dm I.hok e;have hz:vs.length<=sizeLine:=by rw[<-rel.length];exact z
  have hl:(putK kvs k v).length<=sizeLine:=by have:=cA kvs k v;lia
  refine wpAny_setItem_pairs (hsz:=hz) (rD ry) dd fun h' lh hs=>h _ ?_
  have he:∃q,h'.get? a=some q:=let⟨q,_,_,hq,_⟩:=lh;⟨q,hq⟩
  exact pR I (by rw[e];exact True.intro) hs he (yz hl hd (rel.put k rv) lh)
 .subst ey eH;cases(show u=Value.ref b from ry);obtain⟨z,hd,xs,rel,dd⟩:=v8 I.hok e;have hz:xs.length<=sizeLine:=by rw[<-Paired.length rel];exact z
  have hl:(putK kvs k v).length<=sizeLine:=by have:=cA kvs k v;lia
  refine wpAny_setItem_heap (hsz:=hz) (tupleKind_room_in1 hu) (pQ I.hok eb) dd fun h' lh hs=>h _ ?_;obtain⟨q,es,ep,hq,h2,h3,h4,_,h5⟩:=lh;refine pR I (by rw[e];exact True.intro) hs ⟨q,hq⟩ ⟨hl,hd,_,(rel.put k eb rv).keeps fun c ys ec=>?_,q,es,ep,hq,h2,h3,h4,h5⟩;rw[aF (FZ ec e (fun z=>nomatch z))];exact ec
end
section
variable{X:Cx}{Zt:List (Addr×Obj)}{σ:St}{H:Hp}{s:Shared}{a:Addr}{kvs:List (Key×V)}{k:Key}{u:Value}{A:Around}{E:Value->Shared->Prop}
end
def Gq(i:Expr):Prop:=∀ov iv,subscripted i false ov iv=operate [ov,iv] (getItem ov iv)
theorem Bk{prog:Program}{w:World}{A:Around}{E:Value->Shared->Prop}{s:Shared}{env:Env}{value slice:Expr}{pos:Pos}{T id:String}{Q:Value->Shared->Prop}
  (hl:typeLookup (.type T) "__getitem__"=pure (some (.builtin id))) (hs:Gq slice)
  (h:wpAny (model prog w) A (eval value env) (fun o s₁=>wpAny (model prog w) A (eval slice env) (fun i s₂=>s₂.TypeIs o T/\wpAny (model prog w) A (getItem o i) Q E s₂) E s₁) E s):
  wpAny (model prog w) A (eval (.Subscript value slice pos) env) Q E s:=by
 refine Subscript_ (wpAny_mono h (fun o s₁ h₁=>wpAny_mono h₁ (fun i s₂ cb=>?_) fun _ _ x=>x) fun _ _ x=>x);obtain⟨hT,cb⟩:=cb;unfold subscriptTail;refine zAu ?_;rw[getitemInPython_of_ne hT.not_modules];refine zAu (wpAny_specialOf hT hl ?_)
 have fin:wpAny (model prog w) A (subscripted slice false o i) (fun r s₃=>wpAny (model prog w) A (letTemporaryGo value o r>>=fun _=>pure r) Q E s₃) E s₂:=by
  rw[hs o i];exact wpAny_operating (wpAny_mono cb (fun r s₃ bP=>zAu (wpAny_letTemporaryGo (zB0 bP))) fun _ _ x=>x)
 first
  |exact zB0 (zAu fin)
  |exact zAu (zB0 (zAu fin))
  |exact zAu fin
theorem rG{X:Cx}{Zt:List (Addr×Obj)}{σ:St}{H:Hp}{s:Shared}{a:Addr}{y:V}{o:Option V}(I:Inv X Zt σ H s)(g:DGet H a y o):s.TypeIs (.ref a) "dict":=by
 rcases g with⟨kvs,k,e,_,_⟩|⟨kvs,k,b,e,_,_,_⟩
 .obtain⟨_,_,vs,_,dd⟩:=rE I.hok e;exact dd.typeIs
 .obtain⟨_,_,xs,_,dd⟩:=rF I.hok e;exact dd.typeIs
def Gr(td ty:TE):TE:=fun σ H Q=>td σ H fun x H1=>ty σ H1 fun y H2=>∃a v,x=.ref a/\DGet H2 a y (some v)/\Q v H2
def Gu(td ty tv:TE):TS:=fun D σ H=>tv σ H fun v H1=>td σ H1 fun x H2=>ty σ H2 fun y H3=>∃a H4,x=.ref a/\DPut H3 a y v H4/\D.nx σ H4
section
variable{X:Cx}{o i e value:Expr}{pos pos' oS:Pos}{td ty tv:TE}
theorem pU(hu:X.A.units+1<cLine)(ho:PE X o td)(hi:PE X i ty)(hs:Gq i):PE X (.Subscript o i pos) (Gr td ty):=by
 intro Zt s σ H Q I h;refine Bk PySem.F.slot_dict_getitem.lookup hs (thn (ho Zt s σ H _ I h) fun u s1 ⟨x,H1,I1,rx,q1⟩=>thn (hi Zt s1 σ H1 _ I1 q1) fun iv s2 ⟨y,H2,I2,ry,a,v,ex,g,q2⟩=>?_);subst ex;obtain rfl:u=Value.ref a:=rx;exact⟨rG I2 g,wV hu I2 g ry fun w' s3 I3 dE=>⟨v,H2,I3,dE,q2⟩⟩
theorem iz(hu:X.A.units+1<cLine)(ho:PE X o td)(hi:PE X i ty)(hv:PE X value tv)(hs:swapsWith value (some (.Subscript o i pos')) pos.line X.env=pure false):
  PS X (.Assign [.Subscript o i pos'] value pos) (Gu td ty tv):=by
 intro Zt s σ H D I h;refine wpAny_Assign_Subscript (thn (hv Zt s σ H _ I h) fun r s1 ⟨v,H1,I1,rv,q1⟩=>thn (ho Zt s1 σ H1 _ I1 q1) fun u s2 ⟨x,H2,I2,rx,q2⟩=>thn (hi Zt s2 σ H2 _ I2 q2) fun iv s3 ⟨y,H3,I3,ry,a,H4,ex,g,q3⟩=>?_) hs;subst ex;obtain rfl:u=Value.ref a:=rx
 exact wW hu I3 g ry rv fun s4 I4=>⟨σ,H4,I4,q3⟩
end
theorem yC{P:Program}{w:World}{H:Hp}(h:Heap)(hb:sysModules<h.objs.size):ObjOk P w H (h.push {cls:=.type "dict",data:=.dict #[]}) h.objs.size (.dK []):=
 ⟨zAp _,beq_eq_false_iff_ne.mpr (Ne.symm (zB3 hb)),[],.nil,Heap.DictOf.new h⟩
theorem yD{P:Program}{w:World}{H:Hp}(h:Heap)(hb:sysModules<h.objs.size):ObjOk P w H (h.push {cls:=.type "dict",data:=.dict #[]}) h.objs.size (.dT []):=
 ⟨zAp _,beq_eq_false_iff_ne.mpr (Ne.symm (zB3 hb)),[],.nil,_,#[],0,zB1 _ rfl,⟨rfl,rfl,rfl⟩,rfl,rfl,List.nodup_nil⟩
def Eu:TE:=fun _ H Q=>∀p,H p=none->Q (.ref p) (upd H p (.dT []))
section
variable{X:Cx}{pos:Pos}
theorem lE:PE X (.Dict [] [] pos) Eu:=fun Zt s σ H Q I h=>
 wpAny_Dict_empty ⟨.ref s.heap.objs.size,_,I.laid (a:=s.heap.objs.size) (o:=.dT []) (t':=s.toks) (fun _ _ q=>zAy _ q) (zA3 _) (yD s.heap I.big),rfl,h _ (I.hok.fresh (zA3 _))⟩
end
def ug:List (TE×TE)->St->Hp->(List (V×V)->Hp->Prop)->Prop
 |[],_,H,Q=>Q [] H
 | (tk,tv)::r,σ,H,Q=>tk σ H fun x H1=>tv σ H1 fun y H2=>ug r σ H2 fun ps H3=>Q ((x,y)::ps) H3
abbrev VV:List (V×V)->List (Value×Value)->Prop:=Paired fun p q=>RelV p.1 q.1/\RelV p.2 q.2
def PPs(X:Cx)(pos:Pos)(keys:List (Option Expr))(values:List Expr)(lP:List (TE×TE)):Prop:=
 ∀(Zt:List (Addr×Obj)) (s:Shared) (σ:St) (H:Hp) (Q:List (V×V)->Hp->Prop),Inv X Zt σ H s->ug lP σ H Q->
  wpAny (model X.prog X.w) X.A (evalPairs (pairTrees keys values X.env pos)) (fun vs s'=>∃ps H',Inv X Zt σ H' s'/\VV ps vs/\Q ps H') X.xe s
theorem Bl{X:Cx}{pos:Pos}:PPs X pos [] [] []:=fun Zt s σ H Q I h=>pairTrees_nil_walk ⟨[],H,I,.nil,h⟩
theorem yE{X:Cx}{pos:Pos}{k v:Expr}{ks:List (Option Expr)}{vs:List Expr}{tk tv:TE}{lP:List (TE×TE)}(hk:PE X k tk)(hv:PE X v tv)(hr:PPs X pos ks vs lP):
  PPs X pos (some k::ks) (v::vs) ((tk,tv)::lP):=fun Zt s σ H Q I h=>
 pairTrees_cons_walk (thn (hk Zt s σ H _ I h) fun u s1 ⟨x,H1,I1,rx,q1⟩=>thn (hv Zt s1 σ H1 _ I1 q1) fun w2 s2 ⟨y,H2,I2,ry,q2⟩=>
  thn (hr Zt s2 σ H2 _ I2 q2) fun ws s3 ⟨ps,H3,I3,rel,q3⟩=>⟨(x,y)::ps,H3,I3,.cons ⟨rx,ry⟩ rel,q3⟩)
def gO(kvs more:List (Key×V)):List (Key×V):=more.foldl (fun acc kv=>putK acc kv.1 kv.2) kvs
theorem KV.merge:∀{more:List (Key×V)} {rs:List (Key×Value)} {kvs:List (Key×V)} {vs:List (Key×Value)},KV more rs->KV kvs vs->KV (gO kvs more) (merged vs rs):=by
 intro more rs kvs vs r;unfold KV at r
 induction r generalizing kvs vs with
 |nil=>intro q;exact q
 |@cons p q ps qs h t ih=>
  intro r0
  have e:KV (putK kvs p.1 p.2) (stored vs q.1 q.2):=by
   have:=r0.put p.1 h.2;rw[<-h.1];exact this
  exact ih e
theorem iJ:∀(more kvs:List (Key×V)),(gO kvs more).length<=kvs.length+more.length
 |[],kvs=>by show kvs.length<=kvs.length+0;lia
 |p::r,kvs=>by
  have h1:=iJ r (putK kvs p.1 p.2);have h2:=cA kvs p.1 p.2;show(gO (putK kvs p.1 p.2) r).length<=_;rw[zAe];lia
theorem lF{P:Program}{w:World}:∀{kvs:List (Key×V)} {ws:List (Value×Value)},VV (kvs.map fun kv=>(kV kv.1,kv.2)) ws->∃rs,Carries (bL P w) ws rs/\KV kvs rs
 |[],_,r=>by rw[List.map_nil]at r;cases r;exact⟨[],True.intro,.nil⟩
 |p::kvs,_,r=>by
  rw[zAk]at r
  cases r with
  |@cons a b as bs h t=>
   obtain⟨rs,c,q⟩:=lF (P:=P) (w:=w) t;obtain⟨b1,b2⟩:=b;exact⟨(p.1,b2)::rs,⟨rD h.1,rfl,c⟩,.cons ⟨rfl,h.2⟩ q⟩
def Gv(lP:List (TE×TE)):TE:=fun σ H Q=>∀p,H p=none->ug lP σ (upd H p (.dK [])) fun ps H2=>H2 p=some (.dK [])/\∃kvs:List (Key×V),ps=kvs.map (fun kv=>(kV kv.1,kv.2))/\kvs.length<=15/\Q (.ref p) (upd H2 p (.dK (gO [] kvs)))
theorem Bm{X:Cx}{pos:Pos}{keys:List (Option Expr)}{values:List Expr}{lP:List (TE×TE)}(h:PPs X pos keys values lP)(bE:keys.all (·.isSome)=true)(hl:keys.length=values.length)(h0:keys≠[])
  (K8:keys.length<=15):PE X (.Dict keys values pos) (Gv lP):=by
 intro Zt s σ H Q I q;have hn:=I.hok.fresh (zA3 s.heap.objs.size);have I1:=I.laid (a:=s.heap.objs.size) (o:=.dK []) (h':=s.heap.push {cls:=.type "dict",data:=.dict #[]}) (t':=s.toks) (fun _ _ q=>zAy _ q) (zA3 _) (yC s.heap I.big);refine wpAny_Dict_walk (knd:=bL X.prog X.w) bE hl h0 K8 (thn (h Zt _ σ _ _ I1 (q _ hn)) fun ws s2 ⟨ps,H2,I2,rel,e,kvs,ep,lk,q2⟩=>?_);subst ep;obtain⟨rs,c,rk⟩:=lF (P:=X.prog) (w:=X.w) rel;obtain⟨z,hd,Qr,r0,dd⟩:=Dm I2.hok e;cases r0;refine⟨rs,c,dd,fun h' lh hs=>⟨.ref s.heap.objs.size,_,?_,rfl,q2⟩⟩
 have hz:(gO [] kvs).length<=sizeLine:=by
  have h1:=iJ kvs [];rw[List.length_nil]at h1;rw[sizeLine_eq];lia
 have he:∃q,h'.get? s.heap.objs.size=some q:=let⟨q,_,_,hq,_⟩:=lh;⟨q,hq⟩
 exact pR I2 (by rw[e];exact True.intro) hs he (yz hz hd (rk.merge .nil) lh)
structure M2(X:Cx)(o:Expr)(m:Str)(apos:Pos)(e f:Expr)(aE:Pos):Prop where
 base:attributeBase o m X.env (eval o X.env)=eval o X.env
 few:((backTo aE (starEach [e,f] X.env)).all (fun x=>!x.1)&&(backToKw aE (keywordEach [] X.env)).all (fun x=>x.1.isSome)
  && decide (([e,f]:List Expr).length+([]:List Keyword).length+(if([]:List Keyword).isEmpty then 0 else 1)<30))=true
 line:(apos.endLine==aE.line)=true
 trees:backTo aE (starEach [e,f] X.env)=[(false,eval e X.env),(false,eval f X.env)]
def IsD(H:Hp)(a:Addr):Prop:=(∃kvs,Rd H a (.dK kvs))\/∃kvs,Rd H a (.dT kvs)
theorem Ew{X:Cx}{Zt:List (Addr×Obj)}{σ:St}{H:Hp}{s:Shared}{a:Addr}(I:Inv X Zt σ H s)(d:IsD H a):
  s.TypeIs (.ref a) "dict"/\(∀b,Value.ref a=.ref b->∃ob,s.heap.get? b=some ob/\ob.dict=none)/\(a==sysModules)=false:=by
 rcases d with⟨kvs,e⟩|⟨kvs,e⟩
 .obtain⟨_,hd,vs,_,dd⟩:=rE I.hok e;refine⟨dd.typeIs,fun b q=>?_,hd⟩;cases q;obtain⟨ob,_,_,h1,h2,_⟩:=dd;exact⟨ob,h1,h2.2.1⟩
 .obtain⟨_,hd,xs,_,dd⟩:=rF I.hok e;refine⟨dd.typeIs,fun b q=>?_,hd⟩;cases q;obtain⟨ob,_,_,h1,h2,_⟩:=dd;exact⟨ob,h1,h2.2.1⟩
section
variable{X:Cx}{Zt:List (Addr×Obj)}{σ:St}{H:Hp}{s:Shared}{a:Addr}{y d:V}{u r:Value}{o:Option V}{A:Around}{E:Value->Shared->Prop}
theorem Ex{Q:Value->Shared->Prop}(hu:A.units+1<cLine)(I:Inv X Zt σ H s)(g:DGet H a y o)(ry:RelV y u)(rd:RelV d r)(h:∀w' s',Inv X Zt σ H s'->RelV (o.getD d) w'->Q w' s'):
  wpAny (model X.prog X.w) A (call (.builtin "dict.get") [.ref a,u,r]) Q E s:=by
 rcases g with⟨kvs,k,e,ey,l⟩|⟨kvs,k,b,e,ey,eb,l⟩
 .subst ey;obtain⟨z,hd,vs,rel,dd⟩:=rE I.hok e;refine call_meetsIn PySem.F.slot_dict_get dd.typeIs PySem.F.entry_dict_get (PySem.F.args_dict_get_3 _ _ _) (meets_dict_get_default (bL X.prog X.w) a (rD ry) hd r) ⟨_,dd.mapOf,h _ _ (I.tok _) ?_⟩;rw[l];exact(rel.val k).getD rd
 .subst ey;cases(show u=Value.ref b from ry);obtain⟨z,hd,xs,rel,dd⟩:=rF I.hok e;refine call_meetsIn PySem.F.slot_dict_get dd.typeIs PySem.F.entry_dict_get (PySem.F.args_dict_get_3 _ _ _) (meetsH_dict_get_default (tupleKind (bL X.prog X.w)) a b hd r) ⟨tupleKind_room_in1 hu,k,xs,pQ I.hok eb,dd,h _ _ (I.tok _) ?_⟩;rw[l];exact(rel.val k).getD rd
end
def Ey(td ty tx:TE):TE:=fun σ H Q=>td σ H fun x H1=>∃a,x=.ref a/\IsD H1 a/\ty σ H1 fun y H2=>tx σ H2 fun z H3=>∃o,DGet H3 a y o/\Q (o.getD z) H3
section
variable{X:Cx}{o e f:Expr}{apos aE:Pos}{td ty tx:TE}
theorem j7(hu:X.A.units+1<cLine)(ho:PE X o td)(he:PE X e ty)(hf:PE X f tx)(m:M2 X o "get" apos e f aE):PE X (.Call (.Attribute o "get" apos) [e,f] [] aE) (Ey td ty tx):=by
 intro Zt s σ H Q I h;refine wpAny_Call_method m.base m.few m.line PySem.F.plainAttrs_dict PySem.F.slot_dict_get PySem.F.type_dict_get (thn (ho Zt s σ H _ I h) fun u s1 ⟨x,H1,I1,rx,a,ex,d,q1⟩=>?_);subst ex;obtain rfl:u=Value.ref a:=rx;obtain⟨t1,t2,_⟩:=Ew I1 d;refine⟨t1,t2,?_⟩;rw[m.trees]
 refine Calls.callWith_builtin rfl (Calls.evalArgs_plain (Calls.spliced_cons (thn (he Zt s1 σ H1 _ I1 q1) fun iv s2 ⟨y,H2,I2,ry,q2⟩=>
  Calls.spliced_cons (thn (hf Zt s2 σ H2 _ I2 q2) fun fv s3 ⟨z,H3,I3,rz,ov,g,q3⟩=>Calls.spliced_nil ?_))))
 exact Ex hu I3 g ry rz fun w' s4 I4 dE=>⟨_,H3,I4,dE,q3⟩
end
section
variable{X:Cx}{Zt:List (Addr×Obj)}{σ:St}{H:Hp}{s:Shared}{a:Addr}{kvs:List (Key×V)}{A:Around}{E:Value->Shared->Prop}
end
section
variable{X:Cx}{Zt:List (Addr×Obj)}{σ:St}{H:Hp}{s:Shared}{a:Addr}{y:V}{u:Value}{A:Around}{E:Value->Shared->Prop}
end
def Bo:Key->PyData
 |.inl i=>.int i
 |.inr x=>.str x
mutual
inductive IsTh(S:Addr->Prop)(H:Hp):V->PyData->Prop
 |non:IsTh S H .non .none
 |bl (b:Bool):IsTh S H (.bl b) (.bool b)
 |int (i:Int):IsTh S H (.int i) (.int i)
 |str (x:Str):IsTh S H (.str x) (.str x)
 |lst {a:Addr} {xs:List V} {ds:List PyData} (hs:S a) (e:H a=some (.lst xs)) (r:IsThs S H xs ds):IsTh S H (.ref a) (.list ds)
 |tup {a:Addr} {xs:List V} {ds:List PyData} (e:H a=some (.tup xs)) (r:IsThs S H xs ds):IsTh S H (.ref a) (.tuple ds)
 |dct {a:Addr} {ks:List (Key×Int)} (hs:S a) (e:H a=some (.dK (ks.map fun p=>(p.1,V.int p.2)))):IsTh S H (.ref a) (.dict (ks.map fun p=>(Bo p.1,.int p.2)))
inductive IsThs(S:Addr->Prop)(H:Hp):List V->List PyData->Prop
 |nil:IsThs S H [] []
 |cons {v:V} {d:PyData} {vs:List V} {ds:List PyData} (h:IsTh S H v d) (t:IsThs S H vs ds):IsThs S H (v::vs) (d::ds)
end
section
variable{S S':Addr->Prop}{H H':Hp}
theorem IsThs.length:∀{vs:List V} {ds:List PyData},IsThs S H vs ds->vs.length=ds.length
 |_,_,.nil=>rfl
 |_,_,.cons _ t=>by rw[zAe,zAe,IsThs.length t]
theorem IsThs.get:∀{vs:List V} {ds:List PyData} {i:Nat} {v:V},IsThs S H vs ds->vs[i]?=some v->∃d,ds[i]?=some d/\IsTh S H v d
 |_,_,_,_,.nil,e=>by simp at e
 |_,_,0,_,.cons h _,e=>by simp at e;subst e;exact⟨_,rfl,h⟩
 |_,_,i+1,v,.cons _ t,e=>by
  obtain⟨d,h1,h2⟩:=IsThs.get (i:=i) (v:=v) t (by simpa using e);exact⟨d,by simpa using h1,h2⟩
theorem IsThs.append:∀{vs ws:List V} {ds es:List PyData},IsThs S H vs ds->IsThs S H ws es->IsThs S H (vs++ws) (ds++es)
 |_,_,_,_,.nil,s=>s
 |_,_,_,_,.cons h t,s=>.cons h (IsThs.append t s)
theorem IsThs.ints:∀(ns:List Int),IsThs S H (ns.map V.int) (ns.map PyData.int)
 |[]=>.nil
 |n::ns=>.cons (.int n) (IsThs.ints ns)
mutual
theorem IsTh.keep(ht:∀b xs,H b=some (.tup xs)->H' b=some (.tup xs))(hs:∀b o,S b->H b=some o->H' b=some o)(hS:∀b o,S b->H b=some o->S' b):∀{v:V} {d:PyData},IsTh S H v d->IsTh S' H' v d
 |_,_,.non=>.non
 |_,_,.bl b=>.bl b
 |_,_,.int i=>.int i
 |_,_,.str x=>.str x
 |_,_,.lst s e r=>.lst (hS _ _ s e) (hs _ _ s e) (IsThs.keep ht hs hS r)
 |_,_,.tup e r=>.tup (ht _ _ e) (IsThs.keep ht hs hS r)
 |_,_,.dct s e=>.dct (hS _ _ s e) (hs _ _ s e)
theorem IsThs.keep(ht:∀b xs,H b=some (.tup xs)->H' b=some (.tup xs))(hs:∀b o,S b->H b=some o->H' b=some o)(hS:∀b o,S b->H b=some o->S' b):∀{vs:List V} {ds:List PyData},IsThs S H vs ds->IsThs S' H' vs ds
 |_,_,.nil=>.nil
 |_,_,.cons h t=>.cons (IsTh.keep ht hs hS h) (IsThs.keep ht hs hS t)
end
def tyD:PyData->String
 |.none=>"NoneType"
 |.bool _=>"bool"
 |.int _=>"int"
 |.str _=>"str"
 |.list _=>"list"
 |.tuple _=>"tuple"
 |.dict _=>"dict"
theorem IsTh.ty{K:Frag}{v:V}{d:PyData}(h:IsTh S H v d):TyOf K H v (.type (tyD d)):=by
 cases h with
 |non=>exact .non
 |bl b=>exact .bl b
 |int i=>exact .int i
 |str x=>exact .str x
 |lst s e r=>exact .lst e
 |tup e r=>exact .tup e
 |dct s e=>exact .dK e
def pW:PyData->Bool
 |.int _=>true
 |.bool _=>true
 |_=>false
def pZ:PyData->Bool
 |.bool _=>true
 |_=>false
def q8:PyData->Bool
 |.tuple _=>true
 |_=>false
theorem Bp{K:Frag}(d:PyData):PySem.W.kitOne K (.type (tyD d)) (.type "int")=some (pW d):=by
 cases d
 .exact jw
 .exact pL
 .exact rA
 .exact rB
 .exact pO
 .exact mV
 .exact pP
theorem yF{K:Frag}(d:PyData):PySem.W.kitOne K (.type (tyD d)) (.type "bool")=some (pZ d):=by
 cases d
 .exact j5
 .exact mO
 .exact pM
 .exact pN
 .exact mU
 .exact lC
 .exact mW
theorem Bq{K:Frag}(d:PyData):PySem.W.kitOne K (.type (tyD d)) (.type "tuple")=some (q8 d):=by
 cases d
 .exact iM
 .exact lA
 .exact mQ
 .exact mR
 .exact lB
 .exact jU
 .exact lD
end
mutual
def sz:PyData->Nat
 |.none=>1
 |.bool _=>1
 |.int _=>1
 |.str _=>1
 |.list xs=>1+szs xs
 |.tuple xs=>1+szs xs
 |.dict kvs=>1+4*kvs.length
def szs:List PyData->Nat
 |[]=>0
 |x::xs=>sz x+szs xs
end
section
variable{X:Cx}{Zt:List (Addr×Obj)}{σ:St}{H:Hp}{s:Shared}{S:Addr->Prop}
theorem lG{P:Program}{w:World}:∀{ks:List (Key×Int)} {vs:List (Key×Value)} {es:List DictEntry},KV (ks.map fun p=>(p.1,V.int p.2)) vs->Pairs (bL P w) es vs->
  (∃as,ReadsAll s.heap (es.map (·.key)) ((ks.map fun p=>(Bo p.1,PyData.int p.2)).map (·.1)) as/\as=[])/\∃as,ReadsAll s.heap (es.map (·.val)) ((ks.map fun p=>(Bo p.1,PyData.int p.2)).map (·.2)) as/\as=[]
 |[],vs,es,r,p=>by
  cases r;cases p;exact⟨⟨_,.nil,rfl⟩,⟨_,.nil,rfl⟩⟩
 | (k,n)::ks,vs,es,r,p=>by
  cases r with
  |@cons a b l1 l2 h t=>
   cases p with
   |@cons e kv fw dQ h1 h2 h3=>
    obtain⟨⟨_,i1,rfl⟩,⟨_,i2,rfl⟩⟩:=lG (ks:=ks) t h3;obtain⟨q1,q2⟩:=h;have IH:km b.1 e.key=true:=h1;rw[<-q1]at IH;obtain⟨tv,K9⟩:∃t,b.2=Value.int n t:=q2;rw[K9]at h2;refine⟨⟨_,?_,rfl⟩,⟨_,?_,rfl⟩⟩
    .show ReadsAll s.heap (e.key::fw.map (·.key)) (Bo k::_) ([]++[]);rcases bM IH with⟨i,tk,ei,ev⟩|⟨x,tk,ei,ev⟩
     .have ei:k=Sum.inl i:=ei;rw[ev,ei];exact .cons (.int _ _) i1
     .have ei:k=Sum.inr x:=ei;rw[ev,ei];exact .cons (.str _ _) i1
    .show ReadsAll s.heap (e.val::fw.map (·.val)) (PyData.int n::_) ([]++[]);rw[h2];exact .cons (.int _ _) i2
mutual
theorem IsTh.reads(I:Inv X Zt σ H s):∀{v:V} {d:PyData} {u:Value},IsTh S H v d->RelV v u->∃as,Reads s.heap u d as/\∀a∈as,S a
 |_,_,_,.non,r=>by cases(show _=Value.none from r);exact⟨[],.none,fun _ h=>nomatch h⟩
 |_,_,_,.bl b,r=>by cases(show _=Value.bool b from r);exact⟨[],.bool b,fun _ h=>nomatch h⟩
 |_,_,_,.int i,r=>by obtain⟨t,rfl⟩:=r;exact⟨[],.int i t,fun _ h=>nomatch h⟩
 |_,_,_,.str x,r=>by obtain⟨t,rfl⟩:=r;exact⟨[],.str x t,fun _ h=>nomatch h⟩
 |_,_,_,@IsTh.lst _ _ a xs ds hs e t,r=>by
  cases(show _=Value.ref a from r)
  obtain⟨_,Zs,n,rv,ho⟩:=(show ObjOk X.prog X.w H s.heap a (.lst xs)from I.hok a _ e)
  obtain⟨as,h1,h2⟩:=IsThs.reads I t rv;refine⟨a::as,.list ho rfl rfl (by simpa using h1),fun b hb=>?_⟩;rcases zAo.mp hb with z|z
  .rw[z];exact hs
  .exact h2 b z
 |_,_,_,@IsTh.tup _ _ a xs ds e t,r=>by
  cases(show _=Value.ref a from r)
  obtain⟨_,Zs,rv,o,ho,hc,n,hd⟩:=(show ObjOk X.prog X.w H s.heap a (.tup xs)from I.hok a _ e)
  obtain⟨as,h1,h2⟩:=IsThs.reads I t rv;exact⟨as,.tuple ho hc hd (by simpa using h1),h2⟩
 |_,_,_,@IsTh.dct _ _ a ks hs e,r=>by
  cases(show _=Value.ref a from r)
  obtain⟨_,_,vs,rel,o,es,ep,ho,hx,hd,_,hp,_⟩:=(show ObjOk X.prog X.w H s.heap a (.dK _)from I.hok a _ e)
  obtain⟨⟨_,i1,rfl⟩,⟨_,i2,rfl⟩⟩:=lG (s:=s) rel hp;refine⟨a::[]++[],.dict ho hx.1 hd i1 i2,fun b hb=>?_⟩;rw[show b=a by simpa using hb];exact hs
theorem IsThs.reads(I:Inv X Zt σ H s):∀{vs:List V} {ds:List PyData} {us:List Value},IsThs S H vs ds->Vals vs us->∃as,ReadsAll s.heap us ds as/\∀a∈as,S a
 |_,_,_,.nil,r=>by cases r;exact⟨[],.nil,fun _ h=>nomatch h⟩
 |_,_,_,.cons h t,r=>by
  cases r with
  |cons r1 r2=>
   obtain⟨as,h1,h2⟩:=IsTh.reads I h r1;obtain⟨bs,h3,h4⟩:=IsThs.reads I t r2;exact⟨as++bs,.cons h1 h3,fun b hb=>(zA6.mp hb).elim (h2 b) (h4 b)⟩
end
end
section
variable{X:Cx}
end
section
variable{prog:Program}{w:World}{A:Around}{E:Value->Shared->Prop}{s:Shared}
theorem Ez{j t:Addr}{i:Nat}{Zs:Array Value}{x:Value}{Q:Value->Shared->Prop}(hj:s.heap.IsTupleIter j t i)(ht:s.heap.IsTuple t Zs)(hx:Zs[i]?=some x)
  (hQ:∀h',h'.IsTupleIter j t (i+1)->Heap.SameBut j s.heap h'->Q x {s with heap:=h'}):wpAny (model prog w) A (Builtin.SmallTypes.nextOf (.ref j)) Q E s:=by
 obtain⟨o,ho,hc,hd⟩:=id hj;obtain⟨p,hp,_,m,hm⟩:=ht;unfold Builtin.SmallTypes.nextOf;refine wpAny_bind (wpAny_callSpecial?_slot (name:=Str.ofString "__next__") hj.typeIs F.slot_tuple_iterator_next (wpAny_call_entry F.slot_tuple_iterator_next hj.typeIs F.entry_tuple_iterator_next ?_ (F.args_tuple_iterator_next_1 _)));show wpAny _ _ (field (.ref j) 0>>=_) _ _ s;refine wpAny_bind (wpAny_field ho hd (x:=.ref t) rfl ?_);show wpAny _ _ (if(Value.ref t==Value.none)=true then _ else _) _ _ s;rw[if_neg (show¬((Value.ref t==Value.none)=true) by intro z;exact zAg z)];show wpAny _ _ (field (.ref j) 1>>=_) _ _ s;refine wpAny_bind (wpAny_field ho hd (x:=.int i 0) rfl (wpAny_bind (wpAny_seqItems hp hm ?_)));simp only[Int.toNat_natCast,hx]
 refine wpAny_bind (wpAny_setField ho hd Zy (wpAny_pure ⟨x,rfl,wpAny_pure (hQ _ ⟨_,Heap.get?_update_self _ ho (Obj.isFreed_of_fields (Obj.data_mapFields hd _)),(Obj.cls_mapFields ..).trans hc,by
  rw[Obj.data_mapFields hd]
  simp[rawInt]⟩ (Heap.SameBut.update ..))⟩))
theorem uh{j t:Addr}{i:Nat}{Zs:Array Value}{Q:Value->Shared->Prop}(hh:A.handled=none)(hj:s.heap.IsTupleIter j t i)(ht:s.heap.IsTuple t Zs)(hx:Zs[i]?=none)
  (hE:∀h' e,Heap.ExtBut j s.heap h'->(∃o,h'.get? e=some o/\o.cls=.type "StopIteration")->E (.ref e) {s with heap:=h'}):wpAny (model prog w) A (Builtin.SmallTypes.nextOf (.ref j)) Q E s:=by
 obtain⟨o,ho,hc,hd⟩:=id hj;obtain⟨p,hp,_,m,hm⟩:=ht;unfold Builtin.SmallTypes.nextOf;refine wpAny_bind (wpAny_callSpecial?_slot (name:=Str.ofString "__next__") hj.typeIs F.slot_tuple_iterator_next (wpAny_call_entry F.slot_tuple_iterator_next hj.typeIs F.entry_tuple_iterator_next ?_ (F.args_tuple_iterator_next_1 _)));show wpAny _ _ (field (.ref j) 0>>=_) _ _ s;refine wpAny_bind (wpAny_field ho hd (x:=.ref t) rfl ?_);show wpAny _ _ (if(Value.ref t==Value.none)=true then _ else _) _ _ s;rw[if_neg (show¬((Value.ref t==Value.none)=true) by intro z;exact zAg z)];show wpAny _ _ (field (.ref j) 1>>=_) _ _ s;refine wpAny_bind (wpAny_field ho hd (x:=.int i 0) rfl (wpAny_bind (wpAny_seqItems hp hm ?_)));simp only[Int.toNat_natCast,hx];refine wpAny_bind (wpAny_rule (wpAny_bind (wpAny_setField ho hd Zy ?_)));show wpAny _ _ (newExc (.type "StopIteration") []>>=_) _ _ _;refine wpAny_bind ?_;simp only[newExc,newTuple];refine wpAny_bind (wpAny_newObj_type (wpAny_bind (m:=firstArgMember _ _) (wpAny_of_eq (a:=Value.none) (by first|rfl | (simp only[firstArgMember];rfl)) (wpAny_newObj_type ?_ (by size_fits)))) (by size_fits));simp only[raiseNew];refine wpAny_bind (wpAny_handled ?_)
 first
  |rw[show A.in1.handled=none from hh]
  |rw[hh]
 exact zAu (zB0 (wpAny_throw (hE _ _ (((Heap.SameBut.update ..).extBut.push _).push _) ⟨_,zB1 _ rfl,rfl⟩)))
end
section
variable{X:Cx}
end
theorem IsTh.same{S:Addr->Prop}{H H':Hp}{v:V}{d:PyData}(h:IsTh S H v d)(s:Same H H'):IsTh S H' v d:=h.keep (fun b xs e=>s b _ e) (fun b o _ e=>s b o e) fun _ _ z _=>z
theorem IsThs.same{S:Addr->Prop}{H H':Hp}{v:List V}{d:List PyData}(h:IsThs S H v d)(s:Same H H'):IsThs S H' v d:=h.keep (fun b xs e=>s b _ e) (fun b o _ e=>s b o e) fun _ _ z _=>z
theorem Same.upd{H:Hp}{D:Addr}{o:HO}(h:H D=none):Same H (upd H D o):=fun b u e=>by rw[aF (aH e h)];exact e
theorem Same.updR{H H':Hp}{D:Addr}{o:HO}(s:Same H H')(h:H' D=none):Same H (L2.upd H' D o):=s.trans (Same.upd h)
theorem rH{K:Frag}{S:Addr->Prop}{te:TE}{a:Addr}{xs:List V}{ds:List PyData}(f:PyData->Bool){dP:St}{j:Nat}{H0:Hp}{Fin:List V->Hp->Prop}(hT:H0 a=some (.tup xs))(th:IsThs S H0 xs ds)(hl:xs.length<sizeLine)
  (wm:∀v d H Q,d∈ds->Same H0 H->IsTh S H v d->(∀H',Same H H'->Q (.bl (f d)) H')->te (dP.set j (some v)) H Q)
  (fin:∀H',Same H0 H'->Fin (ds.map fun d=>V.bl (f d)) H'):jO (Itt K a) (bC j) wU te Fin dP H0:=by
 have hlen:=th.length;refine⟨fun i m ys σ H=>m=xs.length-i/\i<=xs.length/\ys=(ds.take i).map (fun d=>V.bl (f d))/\(∀o,σ.set j o=dP.set j o)/\Same H0 H,⟨_,rfl,zAp _,rfl,fun _=>rfl,Same.refl _⟩,?_⟩;rintro i m ys σ H ⟨rfl,hi,rfl,nc,hs⟩;have sq:SqT K H a xs:=SqT.of (hs _ _ hT);refine⟨by rw[zA1,zAd];lia,?_⟩;by_cases ax:i<xs.length
 .refine .inr ⟨⟨xs,xs[i],sq,by simp[ax]⟩,fun x H' y=>?_⟩;obtain⟨e,y⟩:=y;subst e;have hx:=y xs sq;obtain⟨d,hd,ht⟩:=(th.same hs).get hx;show te (σ.set j (some x)) H' _;rw[nc]
  refine wm x d H' _ (zB9 hd) hs ht fun H2 s2=>⟨xs.length-(i+1),Zz,rfl,ax,?_,fun o=>by rw[List.set_set],hs.trans s2⟩
  rw[zAj,hd];simp
 .have e:i=xs.length:=Zz
  subst e;refine .inl ⟨⟨xs,sq,zA3 _⟩,?_⟩;rw[hlen,zAm];exact fin H hs
theorem yG{ds:List PyData}{f:PyData->Bool}:ds.map (fun d=>V.bl (f d))=(ds.map f).map V.bl:=by rw[zAr];rfl
theorem EY{ds:List PyData}{f:PyData->Bool}:(ds.map f).all id=ds.all f:=by rw[List.all_map];rfl
section
variable{X:Cx}{es:List Expr}{t:TA}{pos:Pos}
end
section
variable{X:Cx}{a b c d:Expr}{ta tb tc td:TE}{pos:Pos}
def v9(r r' AS:R2)(ta tb tc td:TE):TE:=fun σ H Q=>ta σ H fun x H1=>tb σ H1 fun y H2=>r x y H2 fun z H3=>∃k,z=.bl k /\
 (if k=true then tc σ H3 fun x2 H4=>r' y x2 H4 fun z2 H5=>∃k2,z2=.bl k2/\(if k2=true then td σ H5 fun x3 H6=>AS x2 x3 H6 Q else Q (.bl false) H5)else Q (.bl false) H3)
theorem wX{o1 o2 o3:CmpOp}{r r' AS:R2}(h1:OpR X (compareOp o1) r)(h2:OpR X (compareOp o2) r')(h3:OpR X (compareOp o3) AS)(ha:PE X a ta)(hb:PE X b tb)(hc:PE X c tc)(hd:PE X d td)
  (hm:lastMarks [o1,o2,o3] [b,c,d]=false:=by with_unfolding_all rfl):PE X (.Compare a [o1,o2,o3] [b,c,d] pos) (v9 r r' AS ta tb tc td):=by
 intro Zt s σ H Q I h
 refine Compare_chain (thn (ha Zt s σ H _ I h) fun v s1 ⟨x,H1,I1,r1,q1⟩=>chain_link (thn (hb Zt s1 σ H1 _ I1 q1) fun u s2 ⟨y,H2,I2,r2,q2⟩=>
  thn (h1 Zt s2 σ H2 x y v u _ I2 r1 r2 q2) fun g s3 ⟨z,H3,I3,r3,k,e,q3⟩=>?_)) hm
 subst e;cases r3;refine wpAny_truthy_bool ?_
 cases k with
 |false=>exact ite_ff ⟨.bl false,H3,I3,rfl,q3⟩
 |true=>
  refine ite_tt (chain_link (thn (hc Zt s3 σ H3 _ I3 q3) fun w' s4 ⟨z',H4,I4,r4,q4⟩=>thn (h2 Zt s4 σ H4 y z' u w' _ I4 r2 r4 q4) fun g2 s5 ⟨z5,H5,I5,r5,k2,e2,q5⟩=>?_));subst e2;cases r5;refine wpAny_truthy_bool ?_
  cases k2 with
  |false=>exact ite_ff ⟨.bl false,H5,I5,rfl,q5⟩
  |true=>exact ite_tt (chain_last (thn (hd Zt s5 σ H5 _ I5 q5) fun w6 s6 ⟨z6,H6,I6,r6,q6⟩=>h3 Zt s6 σ H6 z' z6 w' w6 Q I6 r4 r6 q6))
end
def Ev(σ:St)(H:Hp)(t:TE)(v:V):Prop:=∀Q:VK,Q v H->t σ H Q
section
variable{σ:St}{H:Hp}{ta tb tc td:TE}
theorem dW{v:V}:Ev σ H (tC v) v:=fun _ h=>h
theorem d7{i:Nat}{v:V}(h:σ[i]?=some (some v)):Ev σ H (Aw i) v:=fun _ q=>⟨v,h,q⟩
theorem bK{p q:Int->Int->Bool}{i j k:Int}(a:Ev σ H ta (.int i))(b:Ev σ H tb (.int j))(c:Ev σ H tc (.int k)):
  Ev σ H (u9 (rI0 fun i j=>.bl (p i j)) (rI0 fun i j=>.bl (q i j)) ta tb tc) (.bl (p i j&&q j k)):=fun Q h=>a _ (b _ ⟨i,j,rfl,rfl,_,rfl,by
 cases e:p i j with
 |false=>
  rw[e]at h;exact bA h
 |true=>
  rw[e]at h
  exact bQ (c _ ⟨j,k,rfl,rfl,h⟩)⟩)
theorem wY{p q r:Int->Int->Bool}{i j k l:Int}(a:Ev σ H ta (.int i))(b:Ev σ H tb (.int j))(c:Ev σ H tc (.int k))(d:Ev σ H td (.int l)):
  Ev σ H (v9 (rI0 fun i j=>.bl (p i j)) (rI0 fun i j=>.bl (q i j)) (rI0 fun i j=>.bl (r i j)) ta tb tc td) (.bl (p i j&&(q j k&&r k l))):=fun Q h=>a _ (b _ ⟨i,j,rfl,rfl,_,rfl,by
 cases e:p i j with
 |false=>
  rw[e]at h;exact bA h
 |true=>
  rw[e]at h;refine bQ (c _ ⟨j,k,rfl,rfl,_,rfl,?_⟩)
  cases e2:q j k with
  |false=>
   rw[e2]at h;exact bA h
  |true=>
   rw[e2]at h
   exact bQ (d _ ⟨k,l,rfl,rfl,h⟩)⟩)
theorem gP{b c:Bool}(x:Ev σ H ta (.bl b))(y:b=true->Ev σ H tb (.bl c)):Ev σ H (Df ta tb) (.bl (b&&c)):=fun Q h=>x _ ⟨b,rfl,by
 cases e:b with
 |false=>
  rw[e]at h;exact bA h
 |true=>
  rw[e]at h
  exact bQ (y e _ h)⟩
end
structure Plain(e:Expr):Prop where
 eq:∀(es:List Expr) (env:Env),starEach (e::es) env=(false,eval e env)::starEach es env
theorem gQ{c j p}:Plain (.Constant c j p):=⟨fun _ _=>rfl⟩
theorem iQ{x p}:Plain (.Name x p):=⟨fun _ _=>rfl⟩
theorem gR{es k p}:Plain (.Tuple es k p):=⟨fun _ _=>rfl⟩
theorem iR{es p}:Plain (.List es p):=⟨fun _ _=>rfl⟩
theorem iT{ks vs p}:Plain (.Dict ks vs p):=⟨fun _ _=>rfl⟩
theorem iU{f as ks p}:Plain (.Call f as ks p):=⟨fun _ _=>rfl⟩
theorem plain_bin{a o b p}:Plain (.BinOp a o b p):=⟨fun _ _=>rfl⟩
theorem lH{o a p}:Plain (.UnaryOp o a p):=⟨fun _ _=>rfl⟩
theorem jx{a b p}:Plain (.Subscript a b p):=⟨fun _ _=>rfl⟩
theorem iV{a b c p}:Plain (.ListComp a b c p):=⟨fun _ _=>rfl⟩
theorem jy{a b c p}:Plain (.Compare a b c p):=⟨fun _ _=>rfl⟩
section
variable{X:Cx}{e:Expr}{es:List Expr}{te:TE}{t:TA}
theorem az(ha:PE X e te)(hr:PA X es t)(hp:Plain e:=by first|exact iQ|exact gQ|exact iU|exact gR|exact iR|exact plain_bin|exact jx|exact lH|exact iT|exact iV|exact jy):PA X (e::es) (qT te t):=
 aQ ha hr (hp.eq _ _)
end
structure AA(X:Cx)(es:List Expr)(t:TA):Prop where
 run:PA X es t
section
variable{X:Cx}{e:Expr}{es:List Expr}{te:TE}{t:TA}{pos:Pos}
theorem gA:AA X [] Ej:=⟨aj⟩
theorem q9(ha:PE X e te)(hr:AA X es t)(hp:Plain e:=by first|exact iQ|exact gQ|exact iU|exact gR|exact iR|exact plain_bin|exact jx|exact lH|exact iT|exact iV|exact jy):AA X (e::es) (qT te t):=
 ⟨aQ ha hr.run (hp.eq _ _)⟩
theorem Br{x1}(h:AA X es t):PE X (.Tuple es x1 pos) (Ek t):=bO h.run
theorem vd(h:AA X es t):PE X (.List es pos) (El t):=cT h.run
end
inductive IsInts:List Expr->List Int->Prop
 |nil:IsInts [] []
 |cons {i:Int} {j:Nat} {p:Pos} {es:List Expr} {is:List Int}:IsInts es is->IsInts (.Constant (.int i) j p::es) (i::is)
def Gw(is:List Int):TA:=fun _ H Q=>Q (is.map V.int) H
theorem j8{X:Cx}:∀{es:List Expr} {is:List Int},IsInts es is->PA X es (Gw is)
 |_,_,.nil=>fun _ _ _ _ H Q I h=>Calls.spliced_nil ⟨[],H,I,.nil,h⟩
 |_,_,@IsInts.cons i j p es is r=>by
  have h:=az (X:=X) (aB (i:=i) (j:=j) (pos:=p)) (j8 r);exact h
theorem dJ{X:Cx}{es:List Expr}{k:Nat}{pos:Pos}{t:TGs}{K:Frag}{n:Nat}(hK:X.K=K)(hc:X.calm=true)(h:PGs X es t)(hn:(assignEach es X.env).length=n:=by rfl)(fz:(assignEach es X.env).findIdx? (·.1)=none:=by rfl):
  PG X (.Tuple es k pos) (jR K n t):=by
 subst hK;exact bI hc h hn fz
structure BE(X:Cx)(e:Expr)(t:TE):Prop where
 run:PE X e t
section
variable{X:Cx}{e:Expr}{es:List Expr}{te:TE}{t:TA}{pos:Pos}
theorem j9(ha:BE X e te)(hr:AA X es t)(hp:Plain e:=by first|exact iQ|exact gQ|exact iU|exact gR|exact iR|exact plain_bin|exact jx|exact lH|exact iT|exact iV|exact jy):AA X (e::es) (qT te t):=q9 ha.run hr hp
theorem Dn(h:BE X e te):PE X e te:=h.run
theorem Fb{i:Int}{j}:BE X (.Constant (.int i) j pos) (tC (.int i)):=⟨aB⟩
theorem Do{b:Bool}{j}:BE X (.Constant (.bool b) j pos) (tC (.bl b)):=⟨gG⟩
theorem ul{x1}(h:AA X es t):BE X (.Tuple es x1 pos) (Ek t):=⟨bO h.run⟩
theorem um(h:AA X es t):BE X (.List es pos) (El t):=⟨cT h.run⟩
end
structure BS(X:Cx)(st:Stmt)(t:TS):Prop where
 run:PS X st t
structure BSs(X:Cx)(BU:List Stmt)(t:TS):Prop where
 run:PSs X BU t
section
variable{X:Cx}{st:Stmt}{rest:List Stmt}{t u:TS}{pos:Pos}
theorem vf(h:BSs X rest t):PSs X rest t:=h.run
theorem aV(h1:BS X st t)(h2:BSs X rest u):BSs X (st::rest) (Ax t u):=⟨aA h1.run h2.run⟩
theorem fJ(h1:BS X st t):BSs X [st] t:=⟨aD h1.run⟩
theorem Fd{i:Nat}{x:Str}{e:Expr}{te:TE}{pos':Pos}(hN:X.N.Nodup)(hi:X.N[i]?=some x)(hx:Loc X.env.scope x)(he:BE X e te)(hs:swapsWith e (some (.Name x pos')) pos.line X.env=pure false:=by rfl)(hf:X.fn x=true\/X.env.scope.names.lookup x=some .local:=by first|exact .inl rfl|exact .inr rfl|assumption):
  BS X (.Assign [.Name x pos'] e pos) (wH te (bC i)):=⟨ph hN hi hx he.run hs hf⟩
theorem uo{e:Expr}{te:TE}(he:BE X e te):BS X (.Return (some e) pos) (Ef te):=⟨aP he.run⟩
theorem Dp{op:Operator}{r:R2}{a b:Expr}{ta tb:TE}(ho:OpR X (binaryOp op) r)(ha:BE X a ta)(hb:BE X b tb):BE X (.BinOp a op b pos) (tOp r ta tb):=⟨aR ho ha.run hb.run⟩
theorem Dq{r:R2}{a b:Expr}{ta tb:TE}(hr:IxR X r)(ha:BE X a ta)(hb:BE X b tb)(hs:pG b):BE X (.Subscript a b pos) (tOp r ta tb):=⟨Dk hr ha.run hb.run hs⟩
end
theorem pgn{X:Cx}{x:Str}{pos:Pos}(i:Nat)(hN:X.N.Nodup)(hi:X.N[i]?=some x:=by rfl)(hx:Loc X.env.scope x:=by exact Or.inl rfl)(hf:X.fn x=true\/X.env.scope.names.lookup x=some .local:=by first|exact .inl rfl|exact .inr rfl):PG X (.Name x pos) (bC i):=bF hN hi hx hf
theorem pss{X:Cx}{x:Str}{pos pos':Pos}{e:Expr}{te:TE}(i:Nat)(hN:X.N.Nodup)(he:PE X e te)(hi:X.N[i]?=some x:=by rfl)(hx:Loc X.env.scope x:=by exact Or.inl rfl)(hs:swapsWith e (some (.Name x pos')) pos.line X.env=pure false:=by rfl)(hf:X.fn x=true\/X.env.scope.names.lookup x=some .local:=by first|exact .inl rfl|exact .inr rfl):PS X (.Assign [.Name x pos'] e pos) (wH te (bC i)):=ph hN hi hx he hs hf
theorem jz{X:Cx}{x:Str}{pos pos':Pos}{e:Expr}{te:TE}(i:Nat)(hN:X.N.Nodup)(he:BE X e te)(hi:X.N[i]?=some x:=by rfl)(hx:Loc X.env.scope x:=by exact Or.inl rfl)(hs:swapsWith e (some (.Name x pos')) pos.line X.env=pure false:=by rfl)(hf:X.fn x=true\/X.env.scope.names.lookup x=some .local:=by first|exact .inl rfl|exact .inr rfl):BS X (.Assign [.Name x pos'] e pos) (wH te (bC i)):=Fd hN hi hx he hs hf
theorem pX{X:Cx}{r:R2}{a b:Expr}{ta tb:TE}{pos:Pos}(hr:IxR X r)(ha:PE X a ta)(hb:PE X b tb)(hs:pG b:=by exact fun _ _=>rfl):PE X (.Subscript a b pos) (tOp r ta tb):=Dk hr ha hb hs
theorem zL{n:Nat}(h:Nat.ble n 1000=true:=by rfl):n<=sizeLine:=Nat.le_trans (Nat.le_of_ble_eq_true h) Zx
theorem cI{X:Cx}{aT:Env}{x:Str}{i:Nat}{N:List Str}{r:List (Option Nat)}(h:Caps X aT N r)(h1:X.N[i]?=some x:=by rfl)(h2:X.env.kindOf x=some .cell:=by rfl)(h3:aT.cells.lookup x=X.env.cells.lookup x:=by rfl)(h4:aT.kindOf x=some .cell:=by rfl):Caps X aT (x::N) (some i::r):=⟨⟨h1,.inl h2,h3,.inl h4⟩,h⟩
theorem fQS{N P:List Str}{sc:Scope}(h1:sc.kind=.function:=by rfl)(h2:sc.isCoroutine=false:=by rfl)(h3:sc.isGenerator=false:=by rfl)(h4:N.Nodup:=by decide +kernel)(h5:N.take P.length=P:=by rfl)(h6:∀x∈P,sc.names.lookup x=some .local\/sc.names.lookup x=some .cell:=by decide +kernel)(h7:∀y∈sc.names,y.2≠.free:=by decide +kernel):FnScope N P sc:=⟨h1,h2,h3,h4,h5,h6,h7⟩
section
variable{X:Cx}{es:List Expr}{t:TA}{pos:Pos}
end
section
variable{S:Addr->Prop}{σ:St}{H:Hp}
end
section
variable{D:Ends}{σ:St}{H:Hp}{t u:TS}{te:TE}{ta:TA}{g:TG}{Q:VK}
theorem cG(h:D.nx σ H):Dg D σ H:=h
theorem aG(h:t {D with nx:=u D} σ H):Ax t u D σ H:=h
theorem jb(h:∀c:St->Hp->Prop,(∀ar H',u D ar H'->c ar H')->t {D with nx:=c} σ H):Ax t u D σ H:=h (u D) fun _ _ z=>z
theorem aX(h:te σ H fun x H1=>g x σ H1 D.nx):wH te g D σ H:=h
theorem qb(h:te σ H D.rt):Ef te D σ H:=h
theorem aM{i:Nat}{v:V}{R:St->Hp->Prop}(h:R (σ.set i (some v)) H):bC i v σ H R:=h
end
section
variable{X:Cx}{pos:Pos}
def Gx(i j k:Nat)(ta:TA):TS:=fun D σ H=>ta σ H fun vs H1=>∃v w u,vs=[v,w,u]/\D.nx (((σ.set i (some v)).set j (some w)).set k (some u)) H1
theorem Bs{i j k:Nat}{x y z:Str}{a b c:Expr}{ta:TA}{px py pz pt:Pos}{kt k2 pt2}(hc:X.calm=true)(hN:X.N.Nodup)(hi:X.N[i]?=some x)(hj:X.N[j]?=some y)(hk:X.N[k]?=some z)(bq:i≠j)(La:i≠k)(CI:j≠k)
  (hx:X.env.scope.names.lookup x=some .local) (hy:X.env.scope.names.lookup y=some .local) (hz:X.env.scope.names.lookup z=some .local) (ha:PA X [a,b,c] ta)
  (hw:swappedStores [.Tuple [.Name x px,.Name y py,.Name z pz] kt pt] (.Tuple [a,b,c] k2 pt2) X.env=pure (some [x,y,z]))
  (hs:swapsWithSole [.Tuple [.Name x px,.Name y py,.Name z pz] kt pt] (.Tuple [a,b,c] k2 pt2) pos.line X.env=pure false:=by rfl):
  PS X (.Assign [.Tuple [.Name x px,.Name y py,.Name z pz] kt pt] (.Tuple [a,b,c] k2 pt2) pos) (Gx i j k ta):=by
 intro Zt s σ H D I h;refine Assign_Tuple_swapped (names:=[x,y,z]) (Tuple_ (thn (ha _ Zt s σ H _ I h) fun us s1 ⟨vs,H1,I1,r1,q1⟩=>?_)) hs hw;obtain⟨v,w,u,e1,q1⟩:=q1;subst e1
 obtain⟨u1,u2,u3,rfl,rv,dE,ru⟩:∃u1 u2 u3,us=[u1,u2,u3]/\RelV v u1/\RelV w u2/\RelV u u3:=by
  cases r1 with
  |cons p q=>
   cases q with
   |cons p' q'=>
    cases q' with
    |cons p2 q2=>
     cases q2;exact⟨_,_,_,rfl,p,p',p2⟩
 refine wpAny_newObj_type ?_ (by show 3<=sizeLine;decide);have I2:Inv X Zt σ H1 {s1 with heap:=s1.heap.push {cls:=.type "tuple",data:=.seq [u1,u2,u3].toArray}}:=I1.kept (t':=s1.toks) fun b o e=>zAy _ e;refine unpackItems_tuple (items:=#[u1,u2,u3]) (I.ok.hd hc) (IsTup.new s1.heap _) fun h' eJ=>?_;have I3:=I2.kept (h':=h') (t':=s1.toks) fun b o e=>eJ b o (zB3 (zAz e)) e;show wpAny _ _ (assignInOrder [fun v=>bindName X.env z v,fun v=>bindName X.env y v,fun v=>bindName X.env x v] [u3,u2,u1]) _ _ _;refine assignInOrder_cons (wpAny_bindName (dO I3 hN hk (.inl hz) ru (fun s2 I4=>?_) (.inr hz)));refine assignInOrder_cons (wpAny_bindName (dO I4 hN hj (.inl hy) dE (fun s3 I5=>?_) (.inr hy)));refine assignInOrder_cons (wpAny_bindName (dO I5 hN hi (.inl hx) rv (fun s4 I6=>assignInOrder_nil ?_) (.inr hx)));rw[List.set_comm _ _ (Ne.symm bq),List.set_comm _ _ (Ne.symm La),List.set_comm _ _ (Ne.symm CI)]at I6;exact⟨_,H1,I6,q1⟩
end
end L2
namespace L2.ZT
open PySem PySem.Spec PyProof.Rows L2
def nm(t:Bool):String:=match t with|true=>"tuple_iterator"|false=>"list_iterator"
def tn(t:Bool):String:=match t with|true=>"tuple"|false=>"list"
def Io(t:Bool)(h:Heap)(a l:Addr)(i:Nat):Prop:=∃o,h.get? a=some o/\o.cls=.type (nm t)/\o.data=.fields #[.ref l,.int i 0]
def Sq(t:Bool)(h:Heap)(a:Addr)(items:Array Value):Prop:=∃o,h.get? a=some o/\o.cls=.type (tn t)/\∃n,o.data=.seq items n
def SQ(t:Bool)(K:Frag)(H:Hp)(a:Addr)(xs:List V):Prop:=match t with|true=>SqT K H a xs|false=>SqL K H a xs
theorem Io.at{t:Bool}{h h':Heap}{a l:Addr}{i:Nat}(x:Io t h a l i)(e:∀o,h.get? a=some o->h'.get? a=some o):Io t h' a l i:=let⟨o,ho,r⟩:=x;⟨o,e _ ho,r⟩
theorem Io.extBut{t:Bool}{h h':Heap}{a b l:Addr}{i:Nat}(x:Io t h a l i)(e:Heap.ExtBut b h h')(n:a≠b):Io t h' a l i:=x.at fun o q=>e _ _ n q
theorem Sq.at{t:Bool}{h h':Heap}{a:Addr}{xs:Array Value}(x:Sq t h a xs)(e:∀o,h.get? a=some o->h'.get? a=some o):Sq t h' a xs:=let⟨o,ho,r⟩:=x;⟨o,e _ ho,r⟩
theorem Sq.extBut{t:Bool}{h h':Heap}{a b:Addr}{xs:Array Value}(x:Sq t h a xs)(e:Heap.ExtBut b h h')(n:a≠b):Sq t h' a xs:=x.at fun o q=>e _ _ n q
theorem jP{t:Bool}{X:Cx}{Zt:List (Addr×Obj)}{σ:St}{H:Hp}{s:Shared}{a:Addr}{xs:List V}(I:Inv X Zt σ H s)(h:SQ t X.K H a xs):∃Zs:List Value,Vals xs Zs/\Sq t s.heap a Zs.toArray/\xs.length<=sizeLine:=by
 cases t
 .obtain⟨Zs,r,p,z⟩:=I.list h;exact⟨Zs,r,p.isList,z⟩
 .exact I.tuple h
theorem uq{t:Bool}{X:Cx}{Zt:List (Addr×Obj)}{σ:St}{H:Hp}{s:Shared}{a:Addr}{xs ys:List V}(I:Inv X Zt σ H s)(h:SQ t X.K H a xs)(h':SQ t X.K H a ys):xs=ys:=by
 cases t
 .exact I.list_inj h h'
 .exact I.tuple_inj h h'
section
variable{prog:Program}{w:World}{A:Around}{E:Value->Shared->Prop}{s:Shared}
theorem nx{t:Bool}{j l:Addr}{i:Nat}{Zs:Array Value}{x:Value}{Q:Value->Shared->Prop}(hj:Io t s.heap j l i)(ht:Sq t s.heap l Zs)(hx:Zs[i]?=some x)
  (hQ:∀h',Io t h' j l (i+1)->Heap.SameBut j s.heap h'->Q x {s with heap:=h'}):wpAny (model prog w) A (Builtin.SmallTypes.nextOf (.ref j)) Q E s:=by
 cases t
 .exact wpAny_nextOf_list_item hj ht hx hQ
 .exact Ez hj ht hx hQ
theorem lJ{t:Bool}{j l:Addr}{i:Nat}{Zs:Array Value}{Q:Value->Shared->Prop}(hh:A.handled=none)(hj:Io t s.heap j l i)(ht:Sq t s.heap l Zs)(hx:Zs[i]?=none)
  (hE:∀h' e,Heap.ExtBut j s.heap h'->(∃o,h'.get? e=some o/\o.cls=.type "StopIteration")->E (.ref e) {s with heap:=h'}):wpAny (model prog w) A (Builtin.SmallTypes.nextOf (.ref j)) Q E s:=by
 cases t
 .exact wpAny_nextOf_list_end hh hj ht hx hE
 .exact uh hh hj ht hx hE
theorem lK{t:Bool}{l:Addr}{Zs:Array Value}{Q:Value->Shared->Prop}(hl:Sq t s.heap l Zs)
  (hQ:Q (.ref s.heap.objs.size) {s with heap:=s.heap.push {cls:=.type (nm t),data:=.fields #[.ref l,.int 0 0]}}):wpAny (model prog w) A (pyIter (.ref l)) Q E s:=by
 cases t
 .exact wpAny_pyIter_list hl hQ
 .exact wpAny_pyIter_tuple hl hQ
end
theorem draws{t:Bool}{prog:Program}{w:World}{A:Around}(hh:A.handled=none)(it a:Addr)(kX:a≠it)(Zs:Array Value):
  Draws prog w A it [it,a] Zs.size (fun i v=>Zs[i]?=some v) (fun i h=>Io t h it a i/\Sq t h a Zs) where
 live:=fun _ _ st=>let⟨o,ho,_⟩:=st.1;⟨o,ho⟩
 frame:=fun _ _ _ st hk=>⟨st.1.at fun o e=>hk it Zy o e,st.2.at fun o e=>hk a Zy o e⟩
 item:=fun i s Q E hi st hQ=>nx st.1 st.2 (x:=Zs[i]) (by simp[hi]) fun h' h1 h2=>hQ _ h' s.toks (by simp[hi]) ⟨h1,st.2.extBut h2.extBut kX⟩ h2
 done:=fun s Q E st hE=>lJ hh st.1 st.2 Zy hE
abbrev eA(t0:Bool)(h:Heap)(t:Addr):Heap:=h.push {cls:=.type (nm t0),data:=.fields #[.ref t,.int 0 0]}
theorem lM{t0:Bool}(t:Addr)(Zs:Array Value):
  Meets (Builtin.«enumerate.__new__» ⟨[.type "enumerate",.ref t],[]⟩) (fun _ R s=>Sq t0 s.heap t Zs /\
   R (.ok (.ret (.ref (eA t0 s.heap t).objs.size))) {s with heap:=(eA t0 s.heap t).push {cls:=.type "enumerate",data:=.fields #[.none,.bool false,.ref s.heap.objs.size,rawInt 0,.none,.none]}}):=
 .of_wp fun prog w A R s h=>by
  obtain⟨hp,g,d,tk,os⟩:=s;obtain⟨ht,h⟩:=h;have CL:=sub_enumerate;have hT:Sq t0 (Shared.heap ⟨hp,g,d,tk,os⟩) t Zs:=ht
  wp_walk
  refine wpAny_stack_any fun st=>zB0 ?_;split
  .rename_i c _ _ _ _ _
   cases(c==Value.type "enumerate")
   .wp_walk using lK hT
    exact⟨_,rfl,h⟩
   .wp_walk using lK hT
    exact⟨_,rfl,h⟩
  .wp_walk using lK hT
   exact⟨_,rfl,h⟩
theorem mX{t0:Bool}{prog:Program}{w:World}{A:Around}{E:Value->Shared->Prop}{s:Shared}{t:Addr}{Zs:Array Value}{Q:Value->Shared->Prop}(ht:Sq t0 s.heap t Zs)
  (h:∀h',IsEnum h' (s.heap.objs.size+1) s.heap.objs.size 0 .none->Io t0 h' s.heap.objs.size t 0->(∀c o,s.heap.get? c=some o->h'.get? c=some o)->Q (.ref (s.heap.objs.size+1)) {s with heap:=h'}):
  wpAny (model prog w) A (call (.type "enumerate") [.ref t]) Q E s:=by
 refine callType_new F.called_enumerate Zx (F.typeCall_enumerate_1 _) (F.newCall_enumerate_1 _) (fun obj=>F.args_object_init_2 obj _) F.entry_enumerate_new (lM t Zs) ⟨ht,?_⟩;have e1:(eA t0 s.heap t).objs.size=s.heap.objs.size+1:=Heap.size_push ..;have g2:=zB1 (eA t0 s.heap t) (o:={cls:=.type "enumerate",data:=.fields #[.none,.bool false,.ref s.heap.objs.size,rawInt 0,.none,.none]}) rfl;have g1:=zAy {cls:=.type "enumerate",data:=.fields #[.none,.bool false,.ref s.heap.objs.size,rawInt 0,.none,.none]} (zB1 s.heap (o:={cls:=.type (nm t0),data:=.fields #[.ref t,.int 0 0]}) rfl);show _/\_;rw[e1]at g2⊢;exact⟨⟨_,g2,rfl⟩,h _ g2 ⟨_,g1,rfl,rfl⟩ fun c o x=>zAy _ (zAy _ x)⟩
def Ite(t0:Bool)(K:Frag)(a:Addr):It:=
 ⟨fun i H=>∃xs x,SQ t0 K H a xs/\xs[i]?=some x,
  fun i H v H'=>∃T,H T=none/\v=.ref T/\∀xs,SQ t0 K H a xs->∃x,xs[i]?=some x/\H'=upd H T (.tup [.int i,x]),
  fun i H=>∃xs,SQ t0 K H a xs/\xs.length<=i⟩
def tne(t0:Bool)(e it a:Addr)(i:Nat)(h:Heap):Prop:=(∃old,IsEnum h e it i old)/\Io t0 h it a i
theorem wZ{t0:Bool}{P:Program}{w:World}{K:Frag}{es:List Expr}{k:Nat}{pos:Pos}{e it a:Addr}(CM:e≠it)(Lb:e≠a)(Lc:a≠it):
  Turn P w K (.Tuple es k pos) (Ite t0 K a) [e,it] e (tne t0 e it a) where
 mem:=by simp
 obj:=fun i h st c hc=>by
  obtain⟨⟨old,s1⟩,⟨o4,s4,c4,d4⟩⟩:=st;simp only[List.mem_cons,List.not_mem_nil,or_false]at hc;rcases hc with z|z<;>subst z
  .exact⟨_,s1,fun v q=>by cases q⟩
  .exact⟨_,s4,fun v q=>by rw[d4]at q;cases q⟩
 keep:=fun i h h' st kp=>by
  obtain⟨⟨old,s1⟩,s4⟩:=st;exact⟨⟨old,kp e Zy _ s1⟩,s4.at fun o z=>kp it Zy o z⟩
 item:=by
  intro X hP hw hK hc i Zt s σ H E I hf st hg;subst hP hw hK;obtain⟨⟨old,s1⟩,s4⟩:=st;obtain⟨xs,x,lT,hx⟩:=hg;obtain⟨Zs,rv,p,_⟩:=jP I lT;obtain⟨ux,AU,rx⟩:=rv.get hx
  have ax:i<Zs.toArray.size:=by
   have:=(zAa.mp AU).1;simpa using this
  have D:=draws (t:=t0) (prog:=X.prog) (w:=X.w) (A:=X.A.in1) (I.ok.hd hc) it a Lc Zs.toArray;refine wpAny_pyNext_enum_itemD D s1 ⟨s4,p⟩ ax CM (by simp[CM,Lb]) fun u h1 tk hu g1 g3 g5 g6 kp=>?_
  have eu:u=ux:=by
   have hu:Zs.toArray[i]?=some u:=hu;rw[List.getElem?_toArray,AU]at hu;exact(zAl hu).symm
  subst eu;refine⟨_,rfl,?_⟩;refine wpAny_letOwnedTupleGo_enum g1 fun h2 e1 sb=>?_
  have live:∀c,c∈[e,it]->∃o,s.heap.get? c=some o:=fun c ay=>by
   simp only[List.mem_cons,List.not_mem_nil,or_false]at ay;rcases ay with q|q<;>subst q
   .exact⟨_,s1⟩
   .exact let⟨o,h,_⟩:=s4;⟨o,h⟩
  have ne:∀c,c∈[e,it]->c≠s.heap.objs.size:=fun c ay z=>by
   obtain⟨o,ho⟩:=live c ay;exact absurd (zAz ho) (by rw[z];exact Nat.lt_irrefl _)
  have hT:H s.heap.objs.size=none:=I.hok.fresh (zA3 _)
  have kept:∀c o,c∉[e,it]->s.heap.get? c=some o->h2.get? c=some o:=fun c o ay z=>
   sb.extBut _ _ (fun q=>ay (by simp[q])) (kp c o (fun q=>ay (by simp[q])) (fun q=>ay (by simp[q])) z)
  have trk:∀c o,H c=some o->c∉[e,it]:=fun c o z ay=>by
   have:=(hf c ay).1;rw[z]at this;cases this
  have qr:h2.get? s.heap.objs.size=some {cls:=.type "tuple",data:=.seq #[.int i tk,u]}:=sb.extBut _ _ (Ne.symm (ne e Zy)) g5
  have qv:HOk X.prog X.w (upd H s.heap.objs.size (.tup [.int i,x])) h2:=fun c o z=>by
   by_cases hb:c=s.heap.objs.size
   .subst hb;rw[ao]at z;cases z;exact⟨by show 2<=sizeLine;decide,[.int i tk,u],.cons ⟨tk,rfl⟩ (.cons rx .nil),_,qr,rfl,_,rfl⟩
   .rw[aF hb]at z
    refine(I.hok c o z).stay (fun d v hd q=>kept d v ?_ q) (fun d q=>by rw[aF (aH q hT)];exact q) fun d l q=>by rw[aF (aH q hT)];exact q
    rcases hd with e'|e'
    .rw[e'];exact trk c o z
    .exact trk d _ e'
  have I2:Inv X Zt σ (upd H s.heap.objs.size (.tup [.int i,x])) {s with heap:=h2,toks:=tk+1}:=by
   refine I.step (g':=s.gens) (d':=s.drawn) (t':=tk+1) (ch:=[e,it]) (fun c ay=>?_) (fun c o _ _ hn z _=>kept c o hn z) (fun c o _ _ hn z _=>⟨o.slots,kept c o hn z⟩)
    (fun c o _ z n=>by rw[aF (zB3 (zAz z))];exact n) (fun c o hn z=>⟨o,kept c o hn z⟩) (fun c l z=>by rw[aF (aH z hT)];exact z) (fun c o l z=>by rw[aF (aH z hT)];exact z)
    (fun c l z=>⟨#[],by rw[aF (aH z hT),z];simp⟩) (fun m hm=>?_) qv I.bare
   .obtain⟨f0,f1,f2,f3,f4,f5⟩:=hf c ay;exact⟨f3,f1,f4,f5⟩
   .obtain⟨o,fw,ep,ho,r⟩:=hm;refine⟨o,fw,ep,kept _ o (fun ay=>?_) ho,r⟩;exact(hf _ ay).2.1 rfl
  refine⟨.ref s.heap.objs.size,_,I2,rfl,⟨s.heap.objs.size,hT,rfl,fun Ld sR=>⟨x,?_,rfl⟩⟩,⟨⟨u,?_⟩,?_⟩,fun c ay=>?_⟩
  .rw[uq I sR lT];exact hx
  .have:=e1;rw[show(((i+1:Nat):Int))=(i:Int)+1 by lia];exact this
  .exact g3.1.extBut sb.extBut CM.symm
  .rw[aF (ne c ay)];exact(hf c ay).1
 done:=by
  intro X hP hw hK hc i Zt s σ H E I hf st hg;subst hP hw hK;obtain⟨⟨old,s1⟩,s4⟩:=st;obtain⟨xs,lT,hlen⟩:=hg;obtain⟨Zs,rv,p,_⟩:=jP I lT;have hl:=rv.length
  have hT:s.TypeIs (.ref e) "enumerate":=⟨_,s1,rfl⟩
  have fin:∀h',Heap.ExtBut it s.heap h'->Inv X Zt σ H {s with heap:=h'}:=fun h' kp=>by
   obtain⟨f0,f1,f2,f3,f4,f5⟩:=hf it Zy;exact I.turned (t':=s.toks) (fun b o hb z=>kp b o hb z) f0 f1 f3 f4 f5
  unfold pyNext;refine wpAny_bind (wpAny_attempt (wpAny_callSpecial?_slot (name:=Str.ofString "__next__") hT F.slot_enumerate_next (wpAny_call_entry F.slot_enumerate_next hT F.entry_enumerate_next ?_ (F.args_enumerate_next_1 _))));show wpAny _ _ (field (.ref e) 2>>=_) _ _ _;refine wpAny_bind (wpAny_field s1 rfl (x:=.ref it) rfl ?_);refine wpAny_bind (lJ (I.ok.hd hc) s4 p (by simp;lia) fun h' x AR eJ=>?_);obtain⟨o,ho,Le⟩:=eJ;refine wpAny_bind (wpAny_isInstance (T:="StopIteration") (b:=true) ⟨o,ho,Le⟩ isSubtype_stop (wpAny_pure ⟨rfl,fin h' AR⟩))
 self:=fun _ _ _ _ _ st h=>wpAny_pyIter_enum st.1.choose_spec h
section
variable{X:Cx}
def Gy(t0:Bool)(K:Frag)(t:TA):TI:=fun σ H R=>t σ H fun vs H1=>∃a xs,vs=[.ref a]/\SQ t0 K H1 a xs/\R (Ite t0 K a) H1
theorem pi_enum(t0:Bool){es:List Expr}{k:Nat}{tp:Pos}{a:Expr}{ta:TA}{p pos:Pos}(hg:Gl X "enumerate")(hm:X.mg "enumerate"=none)(ha:PA X [a] ta)(hs:starEach [a] X.env=[(false,eval a X.env)]:=by rfl):
  PI X (.Tuple es k tp) (.Call (.Name "enumerate" p) [a] [] pos) (Gy t0 X.K ta):=by
 intro Zt s σ H R I h;refine Call_ (gj I hg hm boot_enumerate (PyProof.Rows.callWith_type1 (thn (ha pos Zt s σ H _ I h) fun us s1 ⟨vs,H1,I1,r1,q1⟩=>?_) hs rfl));obtain⟨x,xs,e,hx,q⟩:=q1;subst e;obtain⟨u,rfl,ru⟩:=vals1 r1;cases ru;obtain⟨Zs,_,p1,_⟩:=jP I1 hx;refine mX p1 fun h' z1 z4 kp=>?_;refine wpAny_pyIter_enum z1 ?_;have lx:x<s1.heap.objs.size:=by obtain⟨_,e,_⟩:=p1;exact zAz e
 refine⟨_,_,_,_,H1,rfl,I1.kept (t':=s1.toks) kp,wZ (e:=s1.heap.objs.size+1) (it:=s1.heap.objs.size) (a:=x) (Nat.succ_ne_self _) (Nat.ne_of_gt (Nat.lt_succ_of_lt lx)) (zB3 lx),⟨⟨_,z1⟩,z4⟩,fun c hc=>?_,q⟩
 have hle:s1.heap.objs.size<=c:=by
  simp only[List.mem_cons,List.not_mem_nil,or_false]at hc;rcases hc with q|q<;>subst q
  .exact Nat.le_add_right _ 1
  .exact zA3 _
 exact I1.fpOk hle (I1.hok.fresh hle)
end
theorem for_enum(t0:Bool){K:Frag}{a:Addr}{xs:List V}{g:TG}{tb:TS}{D:Ends}{σ:St}{H:Hp}(Pv:Nat->St->Hp->Prop)(h0:Pv 0 σ H)(hl:∀i σ H,i<=xs.length->Pv i σ H->SQ t0 K H a xs)
  (hs:∀i x σ H T,xs[i]?=some x->Pv i σ H->H T=none->g (.ref T) σ (upd H T (.tup [.int i,x])) fun aS H2=>tb {D with nx:=Pv (i+1),ct:=Pv (i+1),bk:=D.nx} aS H2) (hd:∀σ H,Pv xs.length σ H->D.nx σ H):
  ∃W:Nat->Nat->St->Hp->Prop,(∃m,W 0 m σ H)/\∀i m σ H,W i m σ H->
   ((Ite t0 K a).stop i H/\D.nx σ H)\/((Ite t0 K a).go i H/\∃N:St->Hp->Prop,(∀ar H',N ar H'->∃m',m'<m/\W (i+1) m' ar H')/\∀x H',(Ite t0 K a).yld i H x H'->g x σ H' fun aS H2=>tb {D with nx:=N,ct:=N,bk:=D.nx} aS H2):=by
 refine⟨fun i m σ H=>m=xs.length-i/\i<=xs.length/\Pv i σ H,⟨xs.length,by simp,Nat.zero_le _,h0⟩,?_⟩;rintro i m σ H ⟨rfl,hi,p⟩;have q:=hl i σ H hi p;by_cases ax:i<xs.length
 .refine .inr ⟨⟨xs,xs[i],q,by simp[ax]⟩,Pv (i+1),fun ar H' p'=>⟨xs.length-(i+1),Zz,rfl,ax,p'⟩,fun x H' y=>?_⟩;obtain⟨T,nT,rfl,y⟩:=y;obtain⟨x,ex,rfl⟩:=y xs q;exact hs i x σ H T ex p nT
 .have e:i=xs.length:=Zz
  subst e;exact .inl ⟨⟨xs,q,zA3 _⟩,hd σ H p⟩
end L2.ZT
namespace L2
open PySem PySem.Spec PyProof.Rows
section
variable{X:Cx}
theorem mY(hc:X.calm=true):fD X (.builtin "min") (fun xs H Q=>∃(p:Addr) (ns:List Int),xs=[.ref p]/\SqL X.K H p (ns.map V.int)/\ns≠[]/\∀M,M∈ns->(∀a∈ns,M<=a)->Q (.int M) H):=by
 intro Zt s σ H xs us Q I r h;obtain⟨p,ns,rfl,hq,kX,q⟩:=h;obtain⟨u,rfl,ru⟩:=vals1 r;cases ru;obtain⟨Zs,rv,pl,hz⟩:=I.list hq;have hi:IntsAre Zs ns:=intsAre_of rv;obtain⟨zs,ez⟩:=(hi.allInts:AllInts Zs.toArray).items;have en:numsOf Zs=ns:=hi.numsOf;have hl:s.heap.IsList p (intItems zs):=ez▸pl.isList
 have aI:0<zs.size:=by
  have e1:(intItems zs).size=Zs.length:=by rw[<-ez,zA8]
  have e2:=rv.length;rw[zA1]at e2;have e3:0<ns.length:=List.length_pos_iff.mpr kX;simp only[intItems,Array.size_map]at e1;lia
 have hn:numsOf (intItems zs).toList=ns:=by rw[<-ez];exact en
 refine min_intList (I.ok.hd hc) hl aI fun v h' tk hv hk=>?_;obtain⟨t,rfl⟩:=intItems_at hv;obtain⟨h1,h2⟩:=argBest_lt (numAt zs) (zs.size-1);rw[nums_intItems]at hn;refine⟨.int _,H,I.kept (t':=tk) hk,⟨t,rfl⟩,q _ ?_ fun a ha=>?_⟩
 .rw[<-hn,numAt_eq];exact getD_mem (by rw[zA1,zA9];lia)
 .rw[<-hn]at ha;obtain⟨j,hj,rfl⟩:=mem_getD ha;rw[zA1,zA9]at hj;rw[<-numAt_eq];exact h2 j Zz
inductive RCatT0I(K:Frag)(x:V)(y:V)(H:Hp)(Q:VK):Prop
 |mk:∀a b ys,(x=.ref a)->(y=.ref b)->(SqT K H a [])->(SqT K H b ys)->(Q (.ref b) H)->RCatT0I K x y H Q
def Fe(K:Frag):R2:=fun x y H Q=>RCatT0I K x y H Q
open Builtin in
theorem yH(l b:Addr)(Zs:Array Value)(n m:Nat)(dd mM:Option Addr)(sl pE:Array (Option Value)):
  Meets (Builtin.«tuple.__add__» ⟨[.ref l,.ref b],[]⟩) (fun _ R s=>s.heap.get? l=some {cls:=.type "tuple",dict:=dd,data:=.seq #[] n,slots:=sl}/\s.heap.get? b=some {cls:=.type "tuple",dict:=mM,data:=.seq Zs m,slots:=pE}/\R (.ok (.ret (.ref b))) s):=by
 refine .of_wp fun prog w A R s h=>?_;obtain⟨hp,g,d,tk,os⟩:=s;obtain⟨hl,hb,h⟩:=h;have f2:=PySem.AutoSeq1.sub_tuple_tuple
 wp_walk
 exact⟨_,rfl,h⟩
theorem yI:OpR X (binaryOp .Add) (Fe X.K):=by
 intro Zt s σ H x y v u Q I rx ry h;obtain⟨a,b,ys,rfl,rfl,ha,hb,q⟩:=h;cases rx;cases ry;obtain⟨Zs,r1,p1,_⟩:=I.tuple ha;obtain⟨br,r2,p2,_⟩:=I.tuple hb;have e:Zs=[]:=r1.zero;subst e;obtain⟨⟨cls,dd,data,sl⟩,ho,hc,n,hd⟩:=id p1;obtain⟨⟨B7,mM,data2,pE⟩,kS,vv,n2,hd2⟩:=id p2;simp only at hc hd vv hd2;subst hc hd vv hd2;exact concat_meets ⟨_,ho,rfl⟩ ⟨_,kS,rfl⟩ noFill_tuple_add seq_tuple_add PySem.F.slot_tuple_add PySem.F.entry_tuple_add (PySem.F.args_tuple_add_2 _ _) (yH a b br.toArray n n2 dd mM sl pE) ⟨ho,kS,.ref b,H,I,rfl,q⟩
theorem yJ:OpR X (binaryOp .Add) (fun x y H Q=>∃a b xs ys,x=.ref a/\y=.ref b/\SqT X.K H a xs/\SqT X.K H b ys/\ys≠[]/\xs.length+ys.length<=sizeLine/\(xs=[]->Q (.ref b) H)/\(xs≠[]->∀p,H p=none->Q (.ref p) (upd H p (.tup (xs++ys))))):=by
 intro Zt s σ H x y v u Q I rx ry h;obtain⟨a,b,xs,ys,rfl,rfl,ha,hb,hy,hz,q1,q2⟩:=h;by_cases hx:xs=[]
 .subst hx;exact yI Zt s σ H _ _ v u Q I rx ry ⟨a,b,ys,rfl,rfl,ha,hb,q1 rfl⟩
 .exact Be Zt s σ H _ _ v u Q I rx ry ⟨a,b,xs,ys,rfl,rfl,ha,hb,hx,hz,fun z=>absurd z hy,fun _=>q2 hx⟩
end
section
variable{prog:Program}{w:World}{A:Around}{E:Value->Shared->Prop}{s:Shared}
open HT in
theorem jc{t sl:Addr}{items:Array Value}{vl vu:Value}{lo hi:Option Int}{Q:Value->Shared->Prop}(ht:IsTup s.heap t items)(hs:s.heap.IsSliceOf sl vl vu .none)(pl:IsPart vl lo)(pu:IsPart vu hi)
  (h1:sIx items.size 0 lo=0) (h2:sIx items.size items.size hi=items.size) (h:Q (.ref t) s):wpAny (model prog w) A (getItem (.ref t) (.ref sl)) Q E s:=by
 obtain⟨os,pS,gI,vw⟩:=id hs
 have B8:s.TypeIs (.ref sl) "slice":=⟨os,pS,gI⟩
 unfold getItem
 try with_reducible refine wpAny_holding ?_
 first|refine zAu (zB0 ?_)|skip
 refine zAu (wpAny_sequenceKey ht.typeIs Zx ?_)
 refine zAu (wpAny_callSpecial?_slot (name:=Str.ofString "__getitem__") ht.typeIs PyProof.Rows.slot_tuple_getitem
  (wpAny_call_entry PyProof.Rows.slot_tuple_getitem ht.typeIs entry_tuple_getitem ?_ (args_tuple_getitem _ _)))
 show wpAny _ _ (Builtin.Tuple.tupleItemsOf (.ref t)>>=_) _ _ s;refine wpAny_bind (tupleItemsOf_ ht ?_);refine wpAny_bind (wpAny_typeOf B8 ?_);rw[if_pos Zx];refine wpAny_bind (fU hs pl pu ?_);rw[h1,h2];show wpAny _ _ (if((((0:Nat):Int))==0&&(1:Int)==1&&(items.size-0)==items.size)=true then _ else _) _ _ s;rw[if_pos Zy];unfold Builtin.Tuple.tupleIsExact;refine wpAny_bind (wpAny_bind (wpAny_typeOf ht.typeIs (wpAny_pure ?_)));rw[if_pos Zx];exact wpAny_bind (wpAny_rule (wpAny_pure ⟨_,rfl,wpAny_pure h⟩))
end
section
variable{X:Cx}
inductive RSlWI(K:Frag)(x:V)(lo:Option Int)(hi:Option Int)(H:Hp)(Q:VK):Prop
 |mk:∀a xs,(x=.ref a)->(SqT K H a xs)->(((HT.sIx xs.length 0 lo=0/\HT.sIx xs.length xs.length hi=xs.length)->Q (.ref a) H))->((¬(HT.sIx xs.length 0 lo=0/\HT.sIx xs.length xs.length hi=xs.length)->∀p,H p=none->Q (.ref p) (upd H p (.tup (mK xs lo hi)))))->RSlWI K x lo hi H Q
def IW(K:Frag):V->Option Int->Option Int->Hp->VK->Prop:=fun x lo hi H Q=>RSlWI K x lo hi H Q
theorem Bu:SlR X (IW X.K):=by
 intro Zt s σ H x v vl vu lo hi sl Q I rx hs pl pu h;obtain⟨a,xs,rfl,hx,q1,q2⟩:=h;by_cases hw:HT.sIx xs.length 0 lo=0/\HT.sIx xs.length xs.length hi=xs.length
 .cases rx;obtain⟨Zs,r,ht,hz⟩:=I.tuple hx;have hlen:Zs.toArray.size=xs.length:=by rw[zA8];exact r.length.symm
  refine⟨"tuple",_,PyProof.Rows.slot_tuple_getitem.lookup,ht.typeIs,?_⟩;exact jc ht hs pl pu (by rw[hlen];exact hw.1) (by rw[hlen];exact hw.2) ⟨.ref a,H,I,rfl,q1 hw⟩
 .exact Eo Zt s σ H _ v vl vu lo hi sl Q I rx hs pl pu ⟨a,xs,rfl,hx,hw,q2 hw⟩
end
section
variable{prog:Program}{w:World}{A:Around}{E:Value->Shared->Prop}{s:Shared}
end
section
variable{X:Cx}{e:Expr}{te:TE}{pos p2 p3 p4:Pos}{j:Nat}
end
end L2
namespace L2.ZT
open PySem PySem.Spec PyProof.Rows L2
section
variable{prog:Program}{w:World}{A:Around}{E:Value->Shared->Prop}{s:Shared}
theorem rJ{t1 t2:Bool}{z TI TO i1 i2 l1 l2:Addr}{k:Nat}{xs ys:Array Value}{x y a b:Value}{Q:Option Value->Shared->Prop}(D:ZipApart z TI TO i1 i2 l1 l2)
  (hz:IsZip s.heap z TI TO .none) (CO:IsPair s.heap TI (.ref i1) (.ref i2)) (II:IsPair s.heap TO a b)
  (h1:Io t1 s.heap i1 l1 k) (h2:Io t2 s.heap i2 l2 k) (fy:Sq t1 s.heap l1 xs) (iO:Sq t2 s.heap l2 ys) (hx:xs[k]?=some x) (hy:ys[k]?=some y)
  (hQ:∀h',IsZip h' z TI TO (rawInt s.heap.objs.size)->IsPair h' TO x y->Io t1 h' i1 l1 (k+1)->Io t2 h' i2 l2 (k+1)->IsPair h' s.heap.objs.size x y->h'.objs.size=s.heap.objs.size+1->
   (∀c o,c≠z->c≠TO->c≠i1->c≠i2->s.heap.get? c=some o->h'.get? c=some o)->Q (some (.ref s.heap.objs.size)) {s with heap:=h'}):
  wpAny (model prog w) A (pyNext (.ref z)) Q E s:=by
 have hT:s.TypeIs (.ref z) "zip":=⟨_,hz,rfl⟩
 unfold pyNext;refine wpAny_bind (wpAny_attempt (wpAny_callSpecial?_slot (name:=Str.ofString "__next__") hT F.slot_zip_next (wpAny_call_entry F.slot_zip_next hT F.entry_zip_next ?_ (F.args_zip_next_1 _))));show wpAny _ _ (field (.ref z) 2>>=_) _ _ _;refine wpAny_bind (wpAny_field hz rfl (x:=.bool false) rfl ?_);show wpAny _ _ (field (.ref z) 3>>=_) _ _ _;refine wpAny_bind (wpAny_field hz rfl (x:=.ref TI) rfl (wpAny_bind (wpAny_seqItems CO rfl ?_)));show wpAny _ _ (Builtin.SmallTypes.ownedTupleIsFree (.ref z)>>=_) _ _ _;refine wpAny_bind ?_;unfold Builtin.SmallTypes.ownedTupleIsFree;refine wpAny_bind (wpAny_field hz rfl (x:=.none) rfl (wpAny_pure ?_));simp only[if_true];refine wpAny_bind (wpAny_rule (wpAny_bind (wpAny_field hz rfl (x:=.ref TO) rfl (wpAny_bind (wpAny_setField_rec hz Zy fun g1 z1 s1=>?_)))))
 replace z1:IsZip g1 z TI TO .ellipsis:=z1
 refine wpAny_bind ?_;simp only[List.zipIdx_cons,List.zipIdx_nil,List.forIn_cons,List.forIn_nil];refine wpAny_bind (wpAny_bind (wpAny_onRaise ?_));show wpAny _ _ (Builtin.SmallTypes.nextOf (.ref i1)>>=_) _ _ _;refine wpAny_bind (nx (h1.extBut s1.extBut D.i1z) (fy.extBut s1.extBut D.l1z) hx fun g2 q1 s2=>wpAny_pure ?_);have o2:IsPair g2 TO a b:=s2.extBut _ _ D.TOi1 (s1.extBut _ _ D.TOz II);refine wpAny_bind (wpAny_seqItems o2 rfl (wpAny_bind (wpAny_updateSeq_pair o2 fun g3 o3 s3=>?_)))
 replace o3:IsPair g3 TO x b:=o3
 refine zAu (wpAny_letGo (zB0 (zAu (zAu (wpAny_onRaise ?_)))));show wpAny _ _ (Builtin.SmallTypes.nextOf (.ref i2)>>=_) _ _ _;refine zAu (nx (((h2.extBut s1.extBut D.i2z).extBut s2.extBut D.i12.symm).extBut s3.extBut D.TOi2.symm) (((iO.extBut s1.extBut D.l2z).extBut s2.extBut D.l2i1).extBut s3.extBut D.l2TO) hy fun g4 q2 s4=>zB0 ?_);have o4:IsPair g4 TO x b:=s4.extBut _ _ D.TOi2 o3;refine zAu (wpAny_seqItems o4 rfl (zAu (wpAny_updateSeq_pair o4 fun g5 o5 s5=>?_)))
 replace o5:IsPair g5 TO x y:=o5
 refine zAu (wpAny_letGo (zB0 (zB0 (zAu (wpAny_seqItems o5 rfl (zAu (wpAny_newTuple ?_)))))));have hsz:g5.objs.size=s.heap.objs.size:=by rw[s5.1,s4.1,s3.1,s2.1,s1.1]
 have z5:IsZip g5 z TI TO .ellipsis:=s5.extBut _ _ D.TOz.symm (s4.extBut _ _ D.i2z.symm (s3.extBut _ _ D.TOz.symm (s2.extBut _ _ D.i1z.symm z1)));have k5:∀c o,c≠z->c≠TO->c≠i1->c≠i2->s.heap.get? c=some o->g5.get? c=some o:=fun c o c1 c2 c3 c4 e=>s5.extBut _ _ c2 (s4.extBut _ _ c4 (s3.extBut _ _ c2 (s2.extBut _ _ c3 (s1.extBut _ _ c1 e))));have p1:Io t1 g5 i1 l1 (k+1):=((q1.extBut s3.extBut D.TOi1.symm).extBut s4.extBut D.i12).extBut s5.extBut D.TOi1.symm;have p2:Io t2 g5 i2 l2 (k+1):=q2.extBut s5.extBut D.TOi2.symm;have IJ:z<g5.objs.size:=Heap.lt_size z5;show wpAny _ _ (Builtin.SmallTypes.ownedTupleHandOut (.ref z) (.ref g5.objs.size)>>=_) _ _ _;refine wpAny_bind ?_;unfold Builtin.SmallTypes.ownedTupleHandOut;have z6:IsZip (g5.push {cls:=.type "tuple",data:=.seq #[x,y]}) z TI TO .ellipsis:=Heap.get?_push_of_some _ z5;refine wpAny_bind (wpAny_setField_rec z6 Zy fun g7 z7 s7=>?_)
 replace z7:IsZip g7 z TI TO (rawInt g5.objs.size):=z7
 refine wpAny_setField_rec z7 Zy fun g8 z8 s8=>?_
 replace z8:IsZip g8 z TI TO (rawInt g5.objs.size):=z8
 have up:∀c o,c≠z->g5.get? c=some o->g8.get? c=some o:=fun c o c1 e=>s8.extBut _ _ c1 (s7.extBut _ _ c1 (zAy _ e));have t8:IsPair g8 g5.objs.size x y:=s8.extBut _ _ (Nat.ne_of_gt IJ) (s7.extBut _ _ (Nat.ne_of_gt IJ) (zB1 _ rfl));have n8:g8.objs.size=g5.objs.size+1:=by rw[s8.1,s7.1,Heap.size_push]
 rw[hsz]at z8 t8 n8;refine zB0 ⟨_,rfl,zB0 ?_⟩;show Q (some (.ref g5.objs.size)) _;rw[hsz];exact hQ g8 z8 (up _ _ D.TOz o5) (p1.at fun o e=>up _ o D.i1z e) (p2.at fun o e=>up _ o D.i2z e) t8 n8 fun c o c1 c2 c3 c4 e=>up c o c1 (k5 c o c1 c2 c3 c4 e)
theorem ur{t1:Bool}{z TI TO i1 i2 l1 l2:Addr}{k:Nat}{xs:Array Value}{a b:Value}{Q:Option Value->Shared->Prop}(hh:A.handled=none)(D:ZipApart z TI TO i1 i2 l1 l2)
  (hz:IsZip s.heap z TI TO .none) (CO:IsPair s.heap TI (.ref i1) (.ref i2)) (II:IsPair s.heap TO a b) (h1:Io t1 s.heap i1 l1 k) (fy:Sq t1 s.heap l1 xs) (hx:xs[k]?=none)
  (hQ:∀h',(∀c o,c≠z->c≠i1->s.heap.get? c=some o->h'.get? c=some o)->Q none {s with heap:=h'}):wpAny (model prog w) A (pyNext (.ref z)) Q E s:=by
 have hT:s.TypeIs (.ref z) "zip":=⟨_,hz,rfl⟩
 unfold pyNext;refine wpAny_bind (wpAny_attempt (wpAny_callSpecial?_slot (name:=Str.ofString "__next__") hT F.slot_zip_next (wpAny_call_entry F.slot_zip_next hT F.entry_zip_next ?_ (F.args_zip_next_1 _))));show wpAny _ _ (field (.ref z) 2>>=_) _ _ _;refine wpAny_bind (wpAny_field hz rfl (x:=.bool false) rfl ?_);show wpAny _ _ (field (.ref z) 3>>=_) _ _ _;refine wpAny_bind (wpAny_field hz rfl (x:=.ref TI) rfl (wpAny_bind (wpAny_seqItems CO rfl ?_)));show wpAny _ _ (Builtin.SmallTypes.ownedTupleIsFree (.ref z)>>=_) _ _ _;refine wpAny_bind ?_;unfold Builtin.SmallTypes.ownedTupleIsFree;refine wpAny_bind (wpAny_field hz rfl (x:=.none) rfl (wpAny_pure ?_));simp only[if_true];refine wpAny_bind (wpAny_rule (wpAny_bind (wpAny_field hz rfl (x:=.ref TO) rfl (wpAny_bind (wpAny_setField_rec hz Zy fun g1 z1 s1=>?_)))))
 replace z1:IsZip g1 z TI TO .ellipsis:=z1
 refine wpAny_bind ?_;simp only[List.zipIdx_cons,List.zipIdx_nil,List.forIn_cons,List.forIn_nil];refine wpAny_bind (wpAny_bind (wpAny_onRaise ?_));show wpAny _ _ (Builtin.SmallTypes.nextOf (.ref i1)>>=_) _ _ _;refine wpAny_bind (lJ hh (h1.extBut s1.extBut D.i1z) (fy.extBut s1.extBut D.l1z) hx fun g2 e s2 he=>?_);obtain⟨oe,CU,IL⟩:=he;have z2:IsZip g2 z TI TO .ellipsis:=s2 _ _ D.i1z.symm z1
 have Lf:e≠z:=fun q=>by
  subst q;rw[z2]at CU;cases CU;simp at IL
 refine wpAny_setField_rec z2 Zy fun g3 _ s3=>?_;refine wpAny_bind (wpAny_isInstance (T:="StopIteration") (b:=true) ⟨oe,s3.extBut _ _ Lf CU,IL⟩ isSubtype_stop (wpAny_pure (hQ _ fun c o c1 c2 q=>s3.extBut _ _ c1 (s2 _ _ c2 (s1.extBut _ _ c1 q)))))
end
abbrev zA(t1:Bool)(h:Heap)(t:Addr):Heap:=h.push {cls:=.type (nm t1),data:=.fields #[.ref t,.int 0 0]}
abbrev zB(t1 t2:Bool)(h:Heap)(t l:Addr):Heap:=(zA t1 h t).push {cls:=.type (nm t2),data:=.fields #[.ref l,.int 0 0]}
abbrev zC(t1 t2:Bool)(h:Heap)(t l:Addr):Heap:=(zB t1 t2 h t l).push {cls:=.type "tuple",data:=.seq #[.ref h.objs.size,.ref (zA t1 h t).objs.size]}
abbrev zD(t1 t2:Bool)(h:Heap)(t l:Addr):Heap:=(zC t1 t2 h t l).push {cls:=.type "tuple",data:=.seq #[.none,.none]}
abbrev zE(t1 t2:Bool)(h:Heap)(t l:Addr):Heap:=(zD t1 t2 h t l).push {cls:=.type "zip",data:=.fields #[.none,.bool false,.bool false,.ref (zB t1 t2 h t l).objs.size,.ref (zC t1 t2 h t l).objs.size]}
theorem qd{t1 t2:Bool}(t l:Addr)(xs ys:Array Value):
  Meets (Builtin.«zip.__new__» ⟨[.type "zip",.ref t,.ref l],[]⟩) (fun _ R s=>Sq t1 s.heap t xs/\Sq t2 s.heap l ys/\R (.ok (.ret (.ref (zD t1 t2 s.heap t l).objs.size))) {s with heap:=zE t1 t2 s.heap t l}):=
 .of_wp fun prog w A R s h=>by
  obtain⟨hp,g,d,tk,os⟩:=s;obtain⟨ht,hl,h⟩:=h;have CL:=sub_zip;have hT:Sq t1 (Shared.heap ⟨hp,g,d,tk,os⟩) t xs:=ht;have hL:Sq t2 (Shared.heap ⟨hp.push {cls:=.type (nm t1),data:=.fields #[.ref t,.int 0 0]},g,d,tk,os⟩) l ys:=hl.at fun o e=>zAy _ e
  wp_walk using lK hT,lK hL
  exact⟨_,rfl,h⟩
theorem rK{t1 t2:Bool}{prog:Program}{w:World}{A:Around}{E:Value->Shared->Prop}{s:Shared}{t l:Addr}{xs ys:Array Value}{Q:Value->Shared->Prop}(ht:Sq t1 s.heap t xs)(hl:Sq t2 s.heap l ys)
  (h:∀h',IsZip h' (s.heap.objs.size+4) (s.heap.objs.size+2) (s.heap.objs.size+3) .none->IsPair h' (s.heap.objs.size+2) (.ref s.heap.objs.size) (.ref (s.heap.objs.size+1))->IsPair h' (s.heap.objs.size+3) .none .none->
   Io t1 h' s.heap.objs.size t 0->Io t2 h' (s.heap.objs.size+1) l 0->(∀c o,s.heap.get? c=some o->h'.get? c=some o)->Q (.ref (s.heap.objs.size+4)) {s with heap:=h'}):
  wpAny (model prog w) A (call (.type "zip") [.ref t,.ref l]) Q E s:=by
 refine callType_new F.called_zip Zx (F.typeCall_zip_2 _ _) (F.newCall_zip_2 _ _) (fun obj=>F.args_object_init_3 obj _ _) F.entry_zip_new (qd t l xs ys) ⟨ht,hl,?_⟩;have e1:(zA t1 s.heap t).objs.size=s.heap.objs.size+1:=Heap.size_push ..;have e2:(zB t1 t2 s.heap t l).objs.size=s.heap.objs.size+2:=by rw[Heap.size_push,e1]
 have e3:(zC t1 t2 s.heap t l).objs.size=s.heap.objs.size+3:=by rw[Heap.size_push,e2]
 have e4:(zD t1 t2 s.heap t l).objs.size=s.heap.objs.size+4:=by rw[Heap.size_push,e3]
 have IM:∀{c o},(zD t1 t2 s.heap t l).get? c=some o->(zE t1 t2 s.heap t l).get? c=some o:=fun e=>zAy _ e;have IP:∀{c o},(zC t1 t2 s.heap t l).get? c=some o->(zE t1 t2 s.heap t l).get? c=some o:=fun e=>IM (zAy _ e);have IQ:∀{c o},(zB t1 t2 s.heap t l).get? c=some o->(zE t1 t2 s.heap t l).get? c=some o:=fun e=>IP (zAy _ e);have up1:∀{c o},(zA t1 s.heap t).get? c=some o->(zE t1 t2 s.heap t l).get? c=some o:=fun e=>IQ (zAy _ e);have g5:(zE t1 t2 s.heap t l).get? (zD t1 t2 s.heap t l).objs.size=some _:=zB1 _ rfl;have g4:(zE t1 t2 s.heap t l).get? (zC t1 t2 s.heap t l).objs.size=some _:=IM (zB1 _ rfl);have g3:(zE t1 t2 s.heap t l).get? (zB t1 t2 s.heap t l).objs.size=some _:=IP (zB1 _ rfl);have g2:(zE t1 t2 s.heap t l).get? (zA t1 s.heap t).objs.size=some _:=IQ (zB1 _ rfl);have g1:(zE t1 t2 s.heap t l).get? s.heap.objs.size=some _:=up1 (zB1 _ rfl);show _/\_;rw[e4,e2,e3]at g5;rw[e2,e1]at g3;rw[e3]at g4;rw[e1]at g2;rw[e4];exact⟨⟨_,g5,rfl⟩,h _ g5 g3 g4 ⟨_,g1,rfl,rfl⟩ ⟨_,g2,rfl,rfl⟩ fun c o x=>up1 (zAy _ x)⟩
def Itz(t1 t2:Bool)(K:Frag)(a b:Addr):It:=
 ⟨fun i H=>∃xs ys x y,SQ t1 K H a xs/\SQ t2 K H b ys/\xs[i]?=some x/\ys[i]?=some y,
  fun i H v H'=>∃T,H T=none/\v=.ref T/\∀xs ys,SQ t1 K H a xs->SQ t2 K H b ys->∃x y,xs[i]?=some x/\ys[i]?=some y/\H'=upd H T (.tup [x,y]),
  fun i H=>∃xs,SQ t1 K H a xs/\xs.length<=i⟩
def tnz(t1 t2:Bool)(z TI TO i1 i2 a b:Addr)(i:Nat)(h:Heap):Prop:=IsZip h z TI TO .none/\IsPair h TI (.ref i1) (.ref i2)/\(∃u v,IsPair h TO u v)/\Io t1 h i1 a i/\Io t2 h i2 b i
theorem yK{t1 t2:Bool}{P:Program}{w:World}{K:Frag}{es:List Expr}{k:Nat}{pos:Pos}{z TI TO i1 i2 a b:Addr}(D:ZipApart z TI TO i1 i2 a b):
  Turn P w K (.Tuple es k pos) (Itz t1 t2 K a b) [z,TI,TO,i1,i2] z (tnz t1 t2 z TI TO i1 i2 a b) where
 mem:=by simp
 obj:=fun i h st c hc=>by
  obtain⟨s1,s2,⟨u,v,s3⟩,⟨o4,s4,c4,d4⟩,⟨o5,s5,c5,d5⟩⟩:=st;simp only[List.mem_cons,List.not_mem_nil,or_false]at hc;rcases hc with e|e|e|e|e<;>subst e
  .exact⟨_,s1,fun v q=>by cases q⟩
  .exact⟨_,s2,fun v q=>by cases q⟩
  .exact⟨_,s3,fun v q=>by cases q⟩
  .exact⟨_,s4,fun v q=>by rw[d4]at q;cases q⟩
  .exact⟨_,s5,fun v q=>by rw[d5]at q;cases q⟩
 keep:=fun i h h' st kp=>by
  obtain⟨s1,s2,⟨u,v,s3⟩,s4,s5⟩:=st;exact⟨kp z Zy _ s1,kp TI Zy _ s2,⟨u,v,kp TO Zy _ s3⟩,s4.at fun o e=>kp i1 Zy o e,s5.at fun o e=>kp i2 Zy o e⟩
 item:=by
  intro X hP hw hK hc i Zt s σ H E I hf st hg;subst hP hw hK;obtain⟨s1,s2,⟨u,v,s3⟩,s4,s5⟩:=st;obtain⟨xs,ys,x,y,lT,IS,hx,hy⟩:=hg;obtain⟨Zs,rv,p,_⟩:=jP I lT;obtain⟨Lg,dE,q,_⟩:=jP I IS;obtain⟨ux,AU,rx⟩:=rv.get hx;obtain⟨uy,Lh,ry⟩:=dE.get hy;refine rJ D s1 s2 s3 s4 s5 p q (x:=ux) (y:=uy) (by simpa using AU) (by simpa using Lh) fun h1 g1 g2 g3 g4 g5 g6 kp=>?_;refine⟨_,rfl,?_⟩;refine wpAny_letOwnedTupleGo_zip g1 fun h2 e1 sb=>?_
  have ne:∀c,c∈[z,TI,TO,i1,i2]->c≠s.heap.objs.size:=fun c ay e=>by
   obtain⟨f0,f1,f2,f3,f4,f5⟩:=hf c ay
   have:∃o,s.heap.get? c=some o:=by
    simp only[List.mem_cons,List.not_mem_nil,or_false]at ay;rcases ay with q|q|q|q|q<;>subst q
    .exact⟨_,s1⟩
    .exact⟨_,s2⟩
    .exact⟨_,s3⟩
    .exact let⟨o,h,_⟩:=s4;⟨o,h⟩
    .exact let⟨o,h,_⟩:=s5;⟨o,h⟩
   obtain⟨o,ho⟩:=this;exact absurd (zAz ho) (by rw[e];exact Nat.lt_irrefl _)
  have hT:H s.heap.objs.size=none:=I.hok.fresh (zA3 _)
  have kept:∀c o,c∉[z,TO,i1,i2]->s.heap.get? c=some o->h2.get? c=some o:=fun c o ay e=>
   sb.extBut _ _ (fun q=>ay (by simp[q])) (kp c o (fun q=>ay (by simp[q])) (fun q=>ay (by simp[q])) (fun q=>ay (by simp[q])) (fun q=>ay (by simp[q])) e)
  have CY:∀c,c∈[z,TO,i1,i2]->c∈[z,TI,TO,i1,i2]:=fun c ay=>by
   simp only[List.mem_cons,List.not_mem_nil,or_false]at ay⊢;rcases ay with q|q|q|q<;>simp[q]
  have trk:∀c o,H c=some o->c∉[z,TO,i1,i2]:=fun c o e ay=>by
   have:=(hf c (CY c ay)).1;rw[e]at this;cases this
  have qr:h2.get? s.heap.objs.size=some {cls:=.type "tuple",data:=.seq #[ux,uy]}:=sb.extBut _ _ (Ne.symm (ne z Zy)) g5
  have qv:HOk X.prog X.w (upd H s.heap.objs.size (.tup [x,y])) h2:=fun c o e=>by
   by_cases hb:c=s.heap.objs.size
   .subst hb;rw[ao]at e;cases e;exact⟨by show 2<=sizeLine;decide,[ux,uy],.cons rx (.cons ry .nil),_,qr,rfl,_,rfl⟩
   .rw[aF hb]at e
    refine(I.hok c o e).stay (fun d v hd q=>kept d v ?_ q) (fun d q=>by rw[aF (aH q hT)];exact q) fun d l q=>by rw[aF (aH q hT)];exact q
    rcases hd with e'|e'
    .rw[e'];exact trk c o e
    .exact trk d _ e'
  have I2:Inv X Zt σ (upd H s.heap.objs.size (.tup [x,y])) {s with heap:=h2}:=by
   refine I.step (g':=s.gens) (d':=s.drawn) (t':=s.toks) (ch:=[z,TO,i1,i2]) (fun c ay=>?_) (fun c o _ _ hn e _=>kept c o hn e) (fun c o _ _ hn e _=>⟨o.slots,kept c o hn e⟩)
    (fun c o _ e n=>by rw[aF (zB3 (zAz e))];exact n) (fun c o hn e=>⟨o,kept c o hn e⟩) (fun c l e=>by rw[aF (aH e hT)];exact e) (fun c o l e=>by rw[aF (aH e hT)];exact e)
    (fun c l e=>⟨#[],by rw[aF (aH e hT),e];simp⟩) (fun m hm=>?_) qv I.bare
   .obtain⟨f0,f1,f2,f3,f4,f5⟩:=hf c (CY c ay);exact⟨f3,f1,f4,f5⟩
   .obtain⟨o,fw,ep,ho,r⟩:=hm;refine⟨o,fw,ep,kept _ o (fun ay=>?_) ho,r⟩;exact(hf _ (CY _ ay)).2.1 rfl
  refine⟨.ref s.heap.objs.size,_,I2,rfl,⟨s.heap.objs.size,hT,rfl,fun Ld nh sR Li=>⟨x,y,?_,?_,rfl⟩⟩,⟨e1,?_,?_,?_,?_⟩,fun c ay=>?_⟩
  .rw[uq I sR lT];exact hx
  .rw[uq I Li IS];exact hy
  .exact sb.extBut _ _ D.TIz (kp _ _ D.TIz D.TITO D.TIi1 D.TIi2 s2)
  .exact⟨_,_,sb.extBut _ _ D.TOz g2⟩
  .exact g3.extBut sb.extBut D.i1z
  .exact g4.extBut sb.extBut D.i2z
  .rw[aF (ne c ay)];exact(hf c ay).1
 done:=by
  intro X hP hw hK hc i Zt s σ H E I hf st hg;subst hP hw hK;obtain⟨s1,s2,⟨u,v,s3⟩,s4,s5⟩:=st;obtain⟨xs,lT,hlen⟩:=hg;obtain⟨Zs,rv,p,_⟩:=jP I lT;have hl:=rv.length
  refine ur (I.ok.hd hc) D s1 s2 s3 s4 p (by simp;lia) fun h' kp=>⟨rfl,?_⟩
  refine I.step (h':=h') (H':=H) (g':=s.gens) (d':=s.drawn) (t':=s.toks) (ch:=[z,i1]) (fun c ay=>?_) (fun c o _ _ hn e _=>kp c o (fun q=>hn (by simp[q])) (fun q=>hn (by simp[q])) e)
   (fun c o _ _ hn e _=>⟨o.slots,kp c o (fun q=>hn (by simp[q])) (fun q=>hn (by simp[q])) e⟩) (fun c o _ e n=>n) (fun c o hn e=>⟨o,kp c o (fun q=>hn (by simp[q])) (fun q=>hn (by simp[q])) e⟩)
   (fun _ _ e=>e) (fun _ _ _ e=>e) (fun c l e=>⟨#[],by rw[e];simp⟩) (fun m hm=>?_) (fun c o e=>?_) I.bare
  .have:c∈[z,TI,TO,i1,i2]:=by
    simp only[List.mem_cons,List.not_mem_nil,or_false]at ay⊢;rcases ay with q|q<;>simp[q]
   obtain⟨f0,f1,f2,f3,f4,f5⟩:=hf c this;exact⟨f3,f1,f4,f5⟩
  .obtain⟨o,fw,ep,ho,r⟩:=hm;exact⟨o,fw,ep,kp _ o (Ne.symm (hf z Zy).2.1) (Ne.symm (hf i1 Zy).2.1) ho,r⟩
  .have nn:∀d v c',c'∈[z,TI,TO,i1,i2]->H d=some v->d≠c':=fun d v c' ay q e'=>by
    have:=(hf c' ay).1;rw[<-e',q]at this;cases this
   have nz:∀d v,H d=some v->d≠z/\d≠i1:=fun d v q=>⟨nn d v z Zy q,nn d v i1 Zy q⟩
   refine(I.hok c o e).stay (fun d v hd q=>?_) (fun _ q=>q) fun _ _ q=>q;rcases hd with e'|e'
   .rw[e']at q⊢;exact kp c v (nz c o e).1 (nz c o e).2 q
   .exact kp d v (nz d _ e').1 (nz d _ e').2 q
 self:=fun _ _ _ _ _ st h=>wpAny_pyIter_zip st.1 h
section
variable{X:Cx}
def J0(t1 t2:Bool)(K:Frag)(t:TA):TI:=fun σ H R=>t σ H fun vs H1=>∃a b xs ys,vs=[.ref a,.ref b]/\SQ t1 K H1 a xs/\SQ t2 K H1 b ys/\R (Itz t1 t2 K a b) H1
theorem pi_zip(t1 t2:Bool){es:List Expr}{k:Nat}{tp:Pos}{a b:Expr}{ta:TA}{p pos:Pos}(hg:Gl X "zip")(hm:X.mg "zip"=none)(ha:PA X [a,b] ta)(hs:starEach [a,b] X.env=[(false,eval a X.env),(false,eval b X.env)]:=by rfl)(ix:starEach [b] X.env=[(false,eval b X.env)]:=by rfl):
  PI X (.Tuple es k tp) (.Call (.Name "zip" p) [a,b] [] pos) (J0 t1 t2 X.K ta):=by
 intro Zt s σ H R I h;refine Call_ (gj I hg hm boot_zip (PyProof.Rows.callWith_type1 (thn (ha pos Zt s σ H _ I h) fun us s1 ⟨vs,H1,I1,r1,q1⟩=>?_) (by rw[hs,ix]) (by rw[ix];rfl)));obtain⟨x,y,xs,ys,e,hx,hy,q⟩:=q1;subst e;obtain⟨u,v,rfl,ru,rv⟩:=vals2 r1;cases ru;cases rv;obtain⟨Zs,_,p1,_⟩:=jP I1 hx;obtain⟨Lg,_,p2,_⟩:=jP I1 hy;refine rK p1 p2 fun h' z1 z2 z3 z4 z5 kp=>?_;refine wpAny_pyIter_zip z1 ?_;have lx:x<s1.heap.objs.size:=by obtain⟨_,e,_⟩:=p1;exact zAz e
 have ly:y<s1.heap.objs.size:=by obtain⟨_,e,_⟩:=p2;exact zAz e
 refine⟨_,_,_,_,H1,rfl,I1.kept (t':=s1.toks) kp,yK (zipApart_new lx ly),⟨z1,z2,⟨_,_,z3⟩,z4,z5⟩,fun c hc=>?_,q⟩
 have hle:s1.heap.objs.size<=c:=by
  simp only[List.mem_cons,List.not_mem_nil,or_false]at hc;rcases hc with q|q|q|q|q<;>subst q
  .exact Nat.le_add_right _ 4
  .exact Nat.le_add_right _ 2
  .exact Nat.le_add_right _ 3
  .exact zA3 _
  .exact Nat.le_add_right _ 1
 exact I1.fpOk hle (I1.hok.fresh hle)
end
end L2.ZT
namespace L2
open PySem PySem.Spec PyProof.Rows PySem.Calls
section
variable{X:Cx}
theorem dD(hc:X.calm=true):fD X (.builtin "sum") (fun xs H Q=>∃(p:Addr) (ns:List Int),xs=[.ref p]/\(SqL X.K H p (ns.map V.int)\/SqT X.K H p (ns.map V.int))/\Q (.int ns.sum) H):=by
 intro Zt s σ H xs us Q I r h;obtain⟨p,ns,rfl,hq,q⟩:=h;obtain⟨u,rfl,ru⟩:=vals1 r;cases ru
 have go:∀Zs:List Value,Vals (ns.map V.int) Zs->∃zs:Array (Int×Tok),Zs.toArray=intItems zs/\preSum (numAt zs) zs.size=ns.sum:=fun Zs rv=>by
  have hi:IntsAre Zs ns:=intsAre_of rv;obtain⟨zs,ez⟩:=(hi.allInts:AllInts Zs.toArray).items;refine⟨zs,ez,?_⟩;have en:numsOf Zs.toArray.toList=ns:=hi.numsOf;rw[ez,nums_intItems]at en;rw[preSum_eq,List.take_of_length_le Zy,en]
 rcases hq with hq|hq
 .obtain⟨Zs,rv,pl,hz⟩:=I.list hq;obtain⟨zs,ez,es⟩:=go Zs rv;refine sum_intListG (I.ok.hd hc) (ez▸pl.isList) fun h' tk t' hk=>?_;rw[es];exact⟨.int _,H,I.kept (t':=tk) hk,⟨t',rfl⟩,q⟩
 .obtain⟨Zs,rv,pl,hz⟩:=I.tuple hq;obtain⟨zs,ez,es⟩:=go Zs rv;have ht:s.heap.IsTuple p Zs.toArray:=pl;refine PySem.W.ktm_sumG (I.ok.hd hc) (ez▸ht) fun h' tk t' hk=>?_;rw[es];exact⟨.int _,H,I.kept (t':=tk) hk,⟨t',rfl⟩,q⟩
end
section
open PySem.W
variable{prog:Program}{w:World}{A:Around}{E:Value->Shared->Prop}{s:Shared}
end
section
variable{X:Cx}
end
end L2
namespace Srt
open PySem PyProof.Rows
def fK:Bool->Keyed->Array Keyed->Nat->Nat->Nat->StateT SortSt Sem (Option Nat):=sortPriv% PySem.Builtin.gallop
section
variable{prog:Program}{w:World}{A:Around}{E:Value->Shared->Prop}{s:Shared}{κ:PyProof.Rows.KeyKind}
def Gz(prog:Program)(w:World)(A:Around)(E:Value->Shared->Prop)(s:Shared)(κ:PyProof.Rows.KeyKind)(st:SortSt):Prop:=
 ∀(x y:Keyed) (a b:κ.α) (Q:Option Bool->SortSt->Prop),κ.keyOf x.1=some a->κ.keyOf y.1=some b->Q (some (κ.blt a b)) st->wpS (model prog w) A E s (lt' x y) Q st
theorem bf{arr:Array Keyed}{i:Nat}{p:Keyed}{Q:Keyed->SortSt->Prop}{st:SortSt}(e:arr[i]?=some p)(h:Q p st):wpS (model prog w) A E s (elem' arr i) Q st:=by
 rw[elem'_eq,e];exact wpS_pure h
def bey(κ:PyProof.Rows.KeyKind)(left:Bool)(k:κ.α)(x:κ.α):Bool:=if left then κ.blt x k else !(κ.blt k x)
theorem dF{left:Bool}{key:Keyed}{arr:Array Keyed}{b n h:Nat}{Q:Option Nat->SortSt->Prop}{st:SortSt}{kk:κ.α}(hL:Gz prog w A E s κ st)(hk:κ.keyOf key.1=some kk)(hn:h<n)
  (fE:∀i,i<n->∃p a,arr[b+i]?=some p/\κ.keyOf p.1=some a/\KK κ arr (b+i)=a) (hm:∀i j,i<=j->j<n->bey κ left kk (KK κ arr (b+j))=true->bey κ left kk (KK κ arr (b+i))=true)
  (q:∀k,k<=n->(∀i,i<k->bey κ left kk (KK κ arr (b+i))=true)->(∀i,k<=i->i<n->bey κ left kk (KK κ arr (b+i))=false)->Q (some k) st):
  wpS (model prog w) A E s (fK left key arr b n h) Q st:=by
 have gL:∀(i:Nat) (R:Option Bool->SortSt->Prop),i<n->R (some (bey κ left kk (KK κ arr (b+i)))) st->wpS (model prog w) A E s (do
   let x <-elem' arr (b+i)
   if left=true then lt' x key else do
    let r <-lt' key x
    pure (Option.map (fun x=>!x) r)) R st:=fun i R hi hR=>by
  obtain⟨p,a,e1,e2,e3⟩:=fE i hi;refine wpS_bind (bf e1 ?_);unfold bey at hR;rw[e3]at hR
  cases left with
  |true=>
   rw[zAx rfl];exact hL _ _ _ _ _ e2 hk hR
  |false=>
   rw[zAv Zx];exact wpS_bind (hL _ _ _ _ _ hk e2 (wpS_pure hR))
 generalize Lj:(fun i=>bey κ left kk (KK κ arr (b+i)))=β
 have C3:∀i,bey κ left kk (KK κ arr (b+i))=β i:=fun i=>by rw[<-Lj]
 simp only[C3]at gL hm q
 delta fK
 refine wpS_bind (gL h _ hn ?_)
 cases e0:β h with
 |true=>
  dsimp only;rw[if_pos rfl]
  refine wpS_bind (wpS_mono (wpS_forRange (I:=fun x c Zr=>Zr=st/\c.1=none/\c.2.1<c.2.2/\c.2.1<n-h/\x<c.2.2/\β (h+c.2.1)=true)
   (Q:=fun c Zr=>Zr=st/\c.1=none/\c.2.1<c.2.2/\c.2.1<n-h/\β (h+c.2.1)=true/\(c.2.2≥n-h\/(c.2.2<n-h/\β (h+c.2.2)=false))) ?_ ?_ ⟨rfl,rfl,(by show 0<1;decide),(by show 0<n-h;lia),(by show 0<1;decide),(show β (h+0)=true from e0)⟩) ?_)
  .rintro x ⟨c0,l,o⟩ Zr _ hx ⟨rfl,rfl,g1,g2,g3,g4⟩;dsimp only at g1 g2 g3 g4⊢;by_cases ho:o≥n-h
   .rw[zAx ho];exact wpS_pure ⟨rfl,rfl,g1,g2,g4,.inl ho⟩
   .rw[zAv ho];refine wpS_bind (gL (h+o) _ Zz ?_)
    cases eb:β (h+o)with
    |true=>
     dsimp only;rw[if_neg Zx];exact wpS_pure ⟨rfl,rfl,by dsimp only;lia,by dsimp only;lia,by dsimp only;lia,eb⟩
    |false=>
     dsimp only;rw[if_pos Zx];exact wpS_pure ⟨rfl,rfl,g1,g2,g4,.inr ⟨by dsimp only;lia,eb⟩⟩
  .rintro⟨c0,l,o⟩ Zr ⟨rfl,rfl,g1,g2,g3,g4⟩;dsimp only at g1 g2 g3 g4⊢;exact⟨rfl,rfl,g1,g2,g4,.inl Zz⟩
  .rintro⟨c0,l,o⟩ Zr ⟨rfl,rfl,g1,g2,g4,g5⟩;dsimp only at g1 g2 g4 g5⊢
   have w4:∀i,h+min o (n-h)<=i->i<n->β i=false:=fun i hi fF=>by
    rcases g5 with g5|⟨g5,g6⟩
    .lia
    .cases e2:β i with
     |false=>rfl
     |true=>
      have:=hm (h+o) i Zz fF e2;rw[g6]at this;cases this
   obtain⟨lo,de⟩:∃lo,lo=h+l+1:=⟨_,rfl⟩
   obtain⟨hi,hZ⟩:∃hi,hi=h+min o (n-h):=⟨_,rfl⟩
   have w1:lo<=hi:=Zz
   have w2:hi<=n:=Zz
   have w3:∀i,i<lo->β i=true:=fun i hi=>hm i (h+l) Zz Zz g4;have w4:∀i,hi<=i->i<n->β i=false:=by rw[hZ];exact w4
   rw[<-de,<-hZ]
   refine wpS_bind (wpS_mono (wpS_forRange (I:=fun x c ck=>ck=Zr/\c.1=none/\c.2.1<=c.2.2/\c.2.2<=n/\c.2.2-c.2.1<=n-x/\(∀i,i<c.2.1->β i=true)/\(∀i,c.2.2<=i->i<n->β i=false))
    (Q:=fun c ck=>ck=Zr/\c.1=none/\c.2.2<=n/\(∀i,i<c.2.2->β i=true)/\(∀i,c.2.2<=i->i<n->β i=false)) ?_ ?_ ⟨rfl,rfl,w1,w2,(by show hi-lo<=n-0;lia),w3,w4⟩) ?_)
   .rintro x ⟨c0,l,r⟩ ck _ hx ⟨rfl,rfl,g1,g2,g3,g4,g5⟩;dsimp only at g1 g2 g3 g4 g5⊢;by_cases gN:l≥r
    .rw[zAx gN];have e:l=r:=Zz
     exact wpS_pure ⟨rfl,rfl,g2,by rw[<-e];exact g4,g5⟩
    .rw[zAv gN];refine wpS_bind (gL (l+(r-l) / 2) _ Zz ?_)
     cases eb:β (l+(r-l) / 2)with
     |true=>
      dsimp only;rw[if_pos rfl];exact wpS_pure ⟨rfl,rfl,by dsimp only;lia,g2,by dsimp only;lia,fun i hi=>hm i _ (by dsimp only at hi;lia) Zz eb,g5⟩
     |false=>
      dsimp only;rw[if_neg Zx];refine wpS_pure ⟨rfl,rfl,by dsimp only;lia,by dsimp only;lia,by dsimp only;lia,g4,fun i hi fF=>?_⟩
      cases e2:β i with
      |false=>rfl
      |true=>
       have:=hm (l+(r-l) / 2) i hi fF e2;rw[eb]at this;cases this
   .rintro⟨c0,l,r⟩ ck ⟨rfl,rfl,g1,g2,g3,g4,g5⟩;dsimp only at g1 g2 g3 g4 g5⊢;have e:l=r:=Zz
    exact⟨rfl,rfl,g2,by rw[<-e];exact g4,g5⟩
   .rintro⟨c0,l,r⟩ ck ⟨rfl,rfl,g1,g2,g3⟩;exact wpS_pure (q _ g1 g2 g3)
 |false=>
  dsimp only;rw[if_neg Zx]
  refine wpS_bind (wpS_mono (wpS_forRange (I:=fun x c Zr=>Zr=st/\c.1=none/\c.2.1<c.2.2/\c.2.1<h+1/\x<c.2.2/\β (h-c.2.1)=false)
   (Q:=fun c Zr=>Zr=st/\c.1=none/\c.2.1<c.2.2/\c.2.1<h+1/\β (h-c.2.1)=false/\(c.2.2≥h+1\/(c.2.2<h+1/\β (h-c.2.2)=true))) ?_ ?_ ⟨rfl,rfl,(by show 0<1;decide),(by show 0<h+1;lia),(by show 0<1;decide),(show β (h-0)=false from e0)⟩) ?_)
  .rintro x ⟨c0,l,o⟩ Zr _ hx ⟨rfl,rfl,g1,g2,g3,g4⟩;dsimp only at g1 g2 g3 g4⊢;by_cases ho:o≥h+1
   .rw[zAx ho];exact wpS_pure ⟨rfl,rfl,g1,g2,g4,.inl ho⟩
   .rw[zAv ho];refine wpS_bind (gL (h-o) _ Zz ?_)
    cases eb:β (h-o)with
    |false=>
     dsimp only;rw[if_neg Zx];exact wpS_pure ⟨rfl,rfl,by dsimp only;lia,by dsimp only;lia,by dsimp only;lia,eb⟩
    |true=>
     dsimp only;rw[if_pos rfl];exact wpS_pure ⟨rfl,rfl,g1,g2,g4,.inr ⟨by dsimp only;lia,eb⟩⟩
  .rintro⟨c0,l,o⟩ Zr ⟨rfl,rfl,g1,g2,g3,g4⟩;dsimp only at g1 g2 g3 g4⊢;exact⟨rfl,rfl,g1,g2,g4,.inl Zz⟩
  .rintro⟨c0,l,o⟩ Zr ⟨rfl,rfl,g1,g2,g4,g5⟩;dsimp only at g1 g2 g4 g5⊢
   have w3:∀i,i<h+1-min o (h+1)->β i=true:=fun i hi=>by
    rcases g5 with g5|⟨g5,g6⟩
    .lia
    .exact hm i (h-o) Zz Zz g6
   have w4:∀i,h-l<=i->i<n->β i=false:=fun i hi fF=>by
    cases e2:β i with
    |false=>rfl
    |true=>
     have:=hm (h-l) i hi fF e2;rw[g4]at this;cases this
   obtain⟨lo,de⟩:∃lo,lo=h+1-min o (h+1):=⟨_,rfl⟩
   obtain⟨hi,hZ⟩:∃hi,hi=h-l:=⟨_,rfl⟩
   have w1:lo<=hi:=Zz
   have w2:hi<=n:=Zz
   have w3:∀i,i<lo->β i=true:=by rw[de];exact w3
   have w4:∀i,hi<=i->i<n->β i=false:=by rw[hZ];exact w4
   rw[<-de,<-hZ]
   refine wpS_bind (wpS_mono (wpS_forRange (I:=fun x c ck=>ck=Zr/\c.1=none/\c.2.1<=c.2.2/\c.2.2<=n/\c.2.2-c.2.1<=n-x/\(∀i,i<c.2.1->β i=true)/\(∀i,c.2.2<=i->i<n->β i=false))
    (Q:=fun c ck=>ck=Zr/\c.1=none/\c.2.2<=n/\(∀i,i<c.2.2->β i=true)/\(∀i,c.2.2<=i->i<n->β i=false)) ?_ ?_ ⟨rfl,rfl,w1,w2,(by show hi-lo<=n-0;lia),w3,w4⟩) ?_)
   .rintro x ⟨c0,l,r⟩ ck _ hx ⟨rfl,rfl,g1,g2,g3,g4,g5⟩;dsimp only at g1 g2 g3 g4 g5⊢;by_cases gN:l≥r
    .rw[zAx gN];have e:l=r:=Zz
     exact wpS_pure ⟨rfl,rfl,g2,by rw[<-e];exact g4,g5⟩
    .rw[zAv gN];refine wpS_bind (gL (l+(r-l) / 2) _ Zz ?_)
     cases eb:β (l+(r-l) / 2)with
     |true=>
      dsimp only;rw[if_pos rfl];exact wpS_pure ⟨rfl,rfl,by dsimp only;lia,g2,by dsimp only;lia,fun i hi=>hm i _ (by dsimp only at hi;lia) Zz eb,g5⟩
     |false=>
      dsimp only;rw[if_neg Zx];refine wpS_pure ⟨rfl,rfl,by dsimp only;lia,by dsimp only;lia,by dsimp only;lia,g4,fun i hi fF=>?_⟩
      cases e2:β i with
      |false=>rfl
      |true=>
       have:=hm (l+(r-l) / 2) i hi fF e2;rw[eb]at this;cases this
   .rintro⟨c0,l,r⟩ ck ⟨rfl,rfl,g1,g2,g3,g4,g5⟩;dsimp only at g1 g2 g3 g4 g5⊢;have e:l=r:=Zz
    exact⟨rfl,rfl,g2,by rw[<-e];exact g4,g5⟩
   .rintro⟨c0,l,r⟩ ck ⟨rfl,rfl,g1,g2,g3⟩;exact wpS_pure (q _ g1 g2 g3)
end
abbrev Sm:=StateT SortSt Sem
def xf(lo a m:Nat):Sm AscSt:=
 forIn [a:m] ((none,a):AscSt) fun _ c=>do
  let x <-ltAt' (lo+c.snd) (lo+c.snd-1)
  match x with
  |some b=>if b=true then pure (ForInStep.done (none,c.snd))else pure (ForInStep.yield (none,c.snd+1))
  |_=>pure (ForInStep.done (some none,c.snd))
def nU(lo n m:Nat):Sm (Option Nat):=do
 reverseSlice' lo (lo+n)
 let c <-xf lo n m
 match c.fst with
 |some r=>pure r
 |none=>pure (some c.snd)
def vg(lo n m:Nat):Sm DescSt:=
 forIn [n:m] ((none,n,0):DescSt) fun _ c=>do
  let x <-ltAt' (lo+c.snd.fst) (lo+c.snd.fst-1)
  match x with
  |some b=>
   if b=true then
    if c.snd.snd>0 then do
     reverseSlice' (lo+c.snd.fst-(c.snd.snd+1)) (lo+c.snd.fst)
     pure (ForInStep.yield (none,c.snd.fst+1,0))
    else pure (ForInStep.yield (none,c.snd.fst+1,0))
   else do
    let y <-ltAt' (lo+c.snd.fst-1) (lo+c.snd.fst)
    match y with
    |some d=>
     if d=true then pure (ForInStep.done (none,c.snd.fst,c.snd.snd))
     else pure (ForInStep.yield (none,c.snd.fst+1,c.snd.snd+1))
    |_=>pure (ForInStep.done (some none,c.snd.fst,c.snd.snd))
  |_=>pure (ForInStep.done (some none,c.snd.fst,c.snd.snd))
def nW(lo n m:Nat):Sm (Option Nat):=do
 liftM (rule "list.sort.descending-run")
 let c <-vg lo (n+1) m
 match c.fst with
 |some r=>pure r
 |none=>
  if c.snd.snd>0 then do
   reverseSlice' (lo+c.snd.fst-(c.snd.snd+1)) (lo+c.snd.fst)
   nU lo c.snd.fst m
  else nU lo c.snd.fst m
theorem bc{α β:Type}{m m':Sm α}{f f':α->Sm β}(h:m=m')(h':f=f'):(m>>=f)=(m'>>=f'):=by rw[h,h']
theorem xj(lo m:Nat):countRun' lo m=(do
  let c <-xf lo 1 m
  match c.fst with
  |some r=>pure r
  |none=>
   if(c.snd==m)=true then pure (some c.snd)
   else if c.snd>1 then do
    let x <-ltAt' lo (lo+c.snd-1)
    match x with
    |some b=>if b=true then pure (some c.snd)else do
      reverseSlice' lo (lo+c.snd)
      nW lo c.snd m
    |_=>pure none
   else nW lo c.snd m):=by
 rw[countRun'_eq]
 have tl:∀n:Nat,((do
   reverseSlice' lo (lo+n)
   let mut n:=n
   for _ in[n:m]do
    let some smaller <-ltAt' (lo+n) (lo+n-1)|return none
    if smaller then break
    n:=n+1
   return some n):Sm (Option Nat))=nU lo n m:=fun n=>by
  unfold nU xf;refine bc rfl (funext fun u=>bc rfl (funext fun c=>?_));obtain⟨r,n⟩:=c;cases r<;>rfl
 have pl:∀n:Nat,((do
   rule "list.sort.descending-run"
   let mut n:=n+1
   let mut neq:=0
   for _ in[n:m]do
    let some smaller <-ltAt' (lo+n) (lo+n-1)|return none
    if smaller then
     if neq>0 then reverseSlice' (lo+n-(neq+1)) (lo+n)
     neq:=0
    else
     let some larger <-ltAt' (lo+n-1) (lo+n)|return none
     if larger then break
     neq:=neq+1
    n:=n+1
   if neq>0 then reverseSlice' (lo+n-(neq+1)) (lo+n)
   reverseSlice' lo (lo+n)
   for _ in[n:m]do
    let some smaller <-ltAt' (lo+n) (lo+n-1)|return none
    if smaller then break
    n:=n+1
   return some n):Sm (Option Nat))=nW lo n m:=fun n=>by
  unfold nW vg;refine bc rfl (funext fun u=>bc rfl (funext fun c=>?_));obtain⟨r,n2,q2⟩:=c
  cases r with
  |some r=>rfl
  |none=>
   dsimp only;split
   .exact bc rfl (funext fun u=>tl n2)
   .exact tl n2
 unfold xf;refine bc rfl (funext fun c=>?_);obtain⟨r,n⟩:=c
 cases r with
 |some r=>rfl
 |none=>
  dsimp only;split
  .rfl
  .split
   .refine bc rfl (funext fun x=>?_)
    cases x with
    |none=>rfl
    |some b=>
     dsimp only;split
     .rfl
     .exact bc rfl (funext fun u=>pl n)
   .exact pl n
structure SB(ks:SortKind)(ae:Array Keyed)(st:SortSt):Prop where
 kind:kindOf st=ks
 ok:failedOf st=none
 pm:(arrOf st).Perm ae
def Seg(κ:PyProof.Rows.KeyKind)(xs:Array Keyed)(a b:Nat):Prop:=∀i j,a<=i->i<=j->j<b->κ.kle (KK κ xs i) (KK κ xs j)
def Non(κ:PyProof.Rows.KeyKind)(xs:Array Keyed)(a b:Nat):Prop:=∀i j,a<=i->i<=j->j<b->κ.kle (KK κ xs j) (KK κ xs i)
structure Out(st Zr:SortSt)(a b:Nat):Prop where
 out:∀k,(k<a\/b<=k)->(arrOf Zr)[k]?=(arrOf st)[k]?
 pend:pendingOf Zr=pendingOf st
theorem Out.refl(st:SortSt)(a b:Nat):Out st st a b:=⟨fun _ _=>rfl,rfl⟩
theorem Out.trans{st eW st2:SortSt}{a b:Nat}(h:Out st eW a b)(h':Out eW st2 a b):Out st st2 a b:=⟨fun k hk=>(h'.out k hk).trans (h.out k hk),h'.pend.trans h.pend⟩
section
variable{prog:Program}{w:World}{A:Around}{E:Value->Shared->Prop}{s:Shared}{κ:PyProof.Rows.KeyKind}{ks:SortKind}{ae:Array Keyed}
def LtAll(prog:Program)(w:World)(A:Around)(E:Value->Shared->Prop)(s:Shared)(κ:PyProof.Rows.KeyKind)(ks:SortKind):Prop:=∀st,kindOf st=ks->Gz prog w A E s κ st
theorem SB.size{st:SortSt}(B:SB ks ae st):(arrOf st).size=ae.size:=B.pm.size_eq
theorem SB.item{st:SortSt}(B:SB ks ae st)(h0:KeysOf κ ae){i:Nat}(hi:i<ae.size):∃p a,(arrOf st)[i]?=some p/\κ.keyOf p.1=some a/\KK κ (arrOf st) i=a:=by
 have hX:i<(arrOf st).size:=by rw[B.size];exact hi
 have e:(arrOf st)[i]?=some (arrOf st)[i]:=Array.getElem?_eq_getElem hX;have hm:(arrOf st)[i]∈ae.toList:=(Array.perm_iff_toList_perm.mp B.pm).mem_iff.mp (Array.mem_toList_iff.mpr (Array.getElem_mem hX));obtain⟨a,ha⟩:=h0 _ hm;refine⟨_,a,e,ha,?_⟩;unfold KK;rw[e];dsimp only;rw[ha];rfl
theorem SB.arr{st:SortSt}(B:SB ks ae st){xs:Array Keyed}(h:xs.Perm (arrOf st)):SB ks ae (setArr st xs):=⟨B.kind,B.ok,h.trans B.pm⟩
theorem ltA(hL:LtAll prog w A E s κ ks){st:SortSt}{i j:Nat}{Q:Option Bool->SortSt->Prop}(B:SB ks ae st)(h0:KeysOf κ ae)(hi:i<ae.size)(hj:j<ae.size)(h:Q (some (κ.blt (KK κ (arrOf st) i) (KK κ (arrOf st) j))) st):
  wpS (model prog w) A E s (ltAt' i j) Q st:=by
 obtain⟨p,a,e1,ka,ea⟩:=B.item (κ:=κ) h0 hi;obtain⟨q,b,e2,kb,eb⟩:=B.item (κ:=κ) h0 hj;rw[ea,eb]at h;rw[ltAt'_eq];refine wpS_bind (wpS_get (wpS_bind (bf e1 (wpS_bind (bf e2 ?_)))));exact hL st B.kind p q a b Q ka kb h
theorem qe{st:SortSt}{i j:Nat}{Q:Unit->SortSt->Prop}(h:Q () (setArr st (mirror (arrOf st) i j ((j-i) / 2)))):wpS (model prog w) A E s (reverseSlice' i j) Q st:=wpS_reverse h
theorem Out.rev{st:SortSt}{i j a b:Nat}(hj:j<=(arrOf st).size)(h1:a<=i)(h2:j<=b):Out st (setArr st (mirror (arrOf st) i j ((j-i) / 2))) a b:=by
 refine⟨fun k hk=>?_,rfl⟩;show(mirror (arrOf st) i j ((j-i) / 2))[k]?=_;rw[getElem?_mirror_all hj,zAv Zz]
theorem vh(hL:LtAll prog w A E s κ ks)(h0:KeysOf κ ae){st:SortSt}{lo a m:Nat}{Q:AscSt->SortSt->Prop}(hn:lo+m<=ae.size)(ha:1<=a)(Lk:a<=m)(B:SB ks ae st)(hs:Seg κ (arrOf st) lo (lo+a))
  (h:∀n,a<=n->n<=m->Seg κ (arrOf st) lo (lo+n)->(n=m\/κ.klt (KK κ (arrOf st) (lo+n)) (KK κ (arrOf st) (lo+n-1)))->Q (none,n) st):wpS (model prog w) A E s (xf lo a m) Q st:=by
 unfold xf;refine wpS_forRange (I:=fun x c Zr=>Zr=st/\c=(none,x)/\Seg κ (arrOf st) lo (lo+x)) ?_ ?_ ⟨rfl,rfl,hs⟩
 .rintro x c Zr C4 Ll ⟨rfl,rfl,bS⟩;dsimp only;refine wpS_bind (ltA hL B h0 Zz Zz ?_)
  cases e:κ.blt (KK κ (arrOf Zr) (lo+x)) (KK κ (arrOf Zr) (lo+x-1))with
  |true=>
   dsimp only;rw[if_pos rfl];exact wpS_pure (h x C4 Zz bS (.inr e))
  |false=>
   dsimp only;rw[if_neg Zx];refine wpS_pure ⟨rfl,rfl,fun i j hi bq hj=>?_⟩;by_cases wo:j<lo+x
   .exact bS i j hi bq wo
   .have ej:j=lo+x:=Zz
    subst ej;by_cases ei:i=lo+x
    .rw[ei];exact KeyOrd.kle_refl _
    .exact KeyOrd.kle_trans (bS i (lo+x-1) hi Zz Zz) e
 .rintro c Zr ⟨rfl,rfl,bS⟩;rw[show max a m=m by lia]at bS⊢;exact h m Lk (zA3 _) bS (.inl rfl)
theorem rM(hL:LtAll prog w A E s κ ks)(h0:KeysOf κ ae){st:SortSt}{lo n m:Nat}{Q:Option Nat->SortSt->Prop}(hn:lo+m<=ae.size)(h1:1<=n)(l7:n<=m)(B:SB ks ae st)(hs:Non κ (arrOf st) lo (lo+n))
  (h:∀k Zr,SB ks ae Zr->Out st Zr lo (lo+m)->1<=k->k<=m->Seg κ (arrOf Zr) lo (lo+k)->Q (some k) Zr):wpS (model prog w) A E s (nU lo n m) Q st:=by
 unfold nU;have hsz:lo+n<=(arrOf st).size:=by rw[B.size];lia
 refine wpS_bind (qe ?_);have B':=B.arr (mirror_perm (arrOf st) lo (lo+n) ((lo+n-lo) / 2));refine wpS_bind (vh hL h0 hn h1 l7 B' ?_ fun k Qs wq Lm _=>wpS_pure (h k _ B' (Out.rev hsz (zA3 _) Zz) Zz wq Lm));intro i j hi bq hj;show κ.kle (KK κ (mirror (arrOf st) lo (lo+n) ((lo+n-lo) / 2)) i) (KK κ (mirror (arrOf st) lo (lo+n) ((lo+n-lo) / 2)) j);rw[KK_mirror hsz,KK_mirror hsz,zAx Zz,zAx Zz];exact hs _ _ Zz Zz Zz
theorem yL(hL:LtAll prog w A E s κ ks)(h0:KeysOf κ ae){st:SortSt}{lo n m:Nat}{Q:DescSt->SortSt->Prop}(hn:lo+m<=ae.size)(h1:1<=n)(l7:n<=m)(B:SB ks ae st)(hs:Non κ (arrOf st) lo (lo+n))
  (h:∀k q Zr,SB ks ae Zr->Out st Zr lo (lo+m)->n<=k->k<=m->Non κ (arrOf Zr) lo (lo+k)->q+1<=k->(∀i,lo+k-(q+1)<=i->i<lo+k->KK κ (arrOf Zr) i=KK κ (arrOf Zr) (lo+k-1))->Q (none,k,q) Zr):
  wpS (model prog w) A E s (vg lo n m) Q st:=by
 unfold vg
 refine wpS_forRange (I:=fun x c Zr=>∃q,c=(none,x,q)/\SB ks ae Zr/\Out st Zr lo (lo+m)/\Non κ (arrOf Zr) lo (lo+x)/\q+1<=x/\(∀i,lo+x-(q+1)<=i->i<lo+x->KK κ (arrOf Zr) i=KK κ (arrOf Zr) (lo+x-1))) ?_ ?_
  ⟨0,rfl,B,Out.refl _ _ _,hs,Zz,fun i z1 z2=>by congr 1;lia⟩
 .rintro x c Zr C4 Ll ⟨q,rfl,B',O',bS,hq,he⟩;dsimp only;have hsz:lo+x<=(arrOf Zr).size:=by rw[B'.size];lia
  refine wpS_bind (ltA hL B' h0 Zz Zz ?_)
  cases e:κ.blt (KK κ (arrOf Zr) (lo+x)) (KK κ (arrOf Zr) (lo+x-1))with
  |true=>
   dsimp only;rw[if_pos rfl]
   have more:∀xs:Array Keyed,(∀k,KK κ xs k=KK κ (arrOf Zr) k)->Non κ xs lo (lo+(x+1)):=fun xs hk i j hi bq hj=>by
    rw[hk,hk];by_cases wo:j<lo+x
    .exact bS i j hi bq wo
    .have ej:j=lo+x:=Zz
     subst ej;by_cases ei:i=lo+x
     .rw[ei];exact KeyOrd.kle_refl _
     .exact KeyOrd.kle_trans (KeyOrd.kle_of_klt e) (bS i (lo+x-1) hi Zz Zz)
   by_cases wt:q>0
   .rw[zAx wt];refine wpS_bind (qe (wpS_pure ⟨0,rfl,B'.arr (mirror_perm _ _ _ _),O'.trans (Out.rev hsz Zz Zz),more _ (KK_mirror_equal hsz he),Zz,fun i z1 z2=>by congr 1;lia⟩))
   .rw[zAv wt];exact wpS_pure ⟨0,rfl,B',O',more _ (fun _=>rfl),Zz,fun i z1 z2=>by congr 1;lia⟩
  |false=>
   dsimp only;rw[if_neg Zx];refine wpS_bind (ltA hL B' h0 Zz Zz ?_)
   cases e2:κ.blt (KK κ (arrOf Zr) (lo+x-1)) (KK κ (arrOf Zr) (lo+x))with
   |true=>
    dsimp only;rw[if_pos rfl];exact wpS_pure (h x q Zr B' O' C4 Zz bS hq he)
   |false=>
    dsimp only;rw[if_neg Zx];have ex:KK κ (arrOf Zr) (lo+x)=KK κ (arrOf Zr) (lo+x-1):=KeyOrd.kle_antisymm e2 e;refine wpS_pure ⟨q+1,rfl,B',O',fun i j hi bq hj=>?_,Zz,fun i z1 z2=>?_⟩
    .by_cases wo:j<lo+x
     .exact bS i j hi bq wo
     .have ej:j=lo+x:=Zz
      subst ej;by_cases ei:i=lo+x
      .rw[ei];exact KeyOrd.kle_refl _
      .rw[ex];exact bS i (lo+x-1) hi Zz Zz
    .rw[show lo+(x+1)-1=lo+x by lia];by_cases ei:i=lo+x
     .rw[ei]
     .rw[ex];exact he i Zz Zz
 .rintro c Zr ⟨q,rfl,B',O',bS,hq,he⟩;rw[show max n m=m by lia]at bS hq he⊢;exact h m q Zr B' O' l7 (zA3 _) bS hq he
theorem rN(hL:LtAll prog w A E s κ ks)(h0:KeysOf κ ae){st:SortSt}{lo n m:Nat}{Q:Option Nat->SortSt->Prop}(hn:lo+m<=ae.size)(l7:n+1<=m)(B:SB ks ae st)(hs:Non κ (arrOf st) lo (lo+(n+1)))
  (h:∀k Zr,SB ks ae Zr->Out st Zr lo (lo+m)->1<=k->k<=m->Seg κ (arrOf Zr) lo (lo+k)->Q (some k) Zr):wpS (model prog w) A E s (nW lo n m) Q st:=by
 unfold nW;refine wpS_bind (wpS_lift (wpAny_rule ⟨rfl,?_⟩));refine wpS_bind (yL hL h0 hn Zz l7 B hs fun k q Zr B' O' k1 k2 bS hq he=>?_);dsimp only;have hsz:lo+k<=(arrOf Zr).size:=by rw[B'.size];lia
 by_cases wt:q>0
 .rw[zAx wt];refine wpS_bind (qe (rM hL h0 hn Zz k2 (B'.arr (mirror_perm _ _ _ _)) ?_ fun k' st2 B2 O2=>h k' st2 B2 ((O'.trans (Out.rev hsz Zz Zz)).trans O2)));intro i j hi bq hj;show κ.kle (KK κ (mirror (arrOf Zr) _ _ _) j) (KK κ (mirror (arrOf Zr) _ _ _) i);rw[KK_mirror_equal hsz he,KK_mirror_equal hsz he];exact bS i j hi bq hj
 .rw[zAv wt];exact rM hL h0 hn Zz k2 B' bS fun k' st2 B2 O2=>h k' st2 B2 (O'.trans O2)
theorem yM(hL:LtAll prog w A E s κ ks)(h0:KeysOf κ ae){st:SortSt}{lo m:Nat}{Q:Option Nat->SortSt->Prop}(hn:lo+m<=ae.size)(h1:1<=m)(B:SB ks ae st)
  (h:∀k Zr,SB ks ae Zr->Out st Zr lo (lo+m)->1<=k->k<=m->Seg κ (arrOf Zr) lo (lo+k)->Q (some k) Zr):wpS (model prog w) A E s (countRun' lo m) Q st:=by
 rw[xj];refine wpS_bind (vh hL h0 hn (zA3 1) h1 B (fun i j hi bq hj=>by have:i=j:=Zz;rw[this];exact KeyOrd.kle_refl _) fun n n1 n2 AV Ln=>?_);dsimp only;by_cases l7:n=m
 .rw[if_pos (by simpa using l7)];exact wpS_pure (h n st B (Out.refl _ _ _) n1 n2 AV)
 .rw[if_neg (by simpa using l7)];have ax:=Ln.resolve_left l7;by_cases IT:n>1
  .rw[zAx IT];refine wpS_bind (ltA hL B h0 Zz Zz ?_)
   cases e:κ.blt (KK κ (arrOf st) lo) (KK κ (arrOf st) (lo+n-1))with
   |true=>
    dsimp only;rw[if_pos rfl];exact wpS_pure (h n st B (Out.refl _ _ _) n1 n2 AV)
   |false=>
    dsimp only;rw[if_neg Zx];have hsz:lo+n<=(arrOf st).size:=by rw[B.size];lia
    have bE:∀k,lo<=k->k<lo+n->KK κ (arrOf st) k=KK κ (arrOf st) (lo+n-1):=fun k s9 hk=>by
     have a1:=AV lo k (zA3 _) s9 hk;have a2:=AV k (lo+n-1) s9 Zz Zz;exact KeyOrd.kle_antisymm a2 (KeyOrd.kle_trans e a1)
    refine wpS_bind (qe (rN hL h0 hn Zz (B.arr (mirror_perm _ _ _ _)) ?_ fun k st2 B2 O2=>h k st2 B2 ((Out.rev hsz (zA3 _) Zz).trans O2)));intro i j hi bq hj;show κ.kle (KK κ (mirror (arrOf st) _ _ _) j) (KK κ (mirror (arrOf st) _ _ _) i);rw[KK_mirror_equal hsz bE,KK_mirror_equal hsz bE];by_cases Lo:j<lo+n
    .rw[bE i hi Zz,bE j Zz Lo];exact KeyOrd.kle_refl _
    .have ej:j=lo+n:=Zz
     subst ej;by_cases ei:i=lo+n
     .rw[ei];exact KeyOrd.kle_refl _
     .rw[bE i hi Zz];exact KeyOrd.kle_of_klt ax
  .rw[zAv IT];have e1:n=1:=Zz
   subst e1;refine rN hL h0 hn Zz B ?_ h;intro i j hi bq hj;by_cases ei:i=j
   .rw[ei];exact KeyOrd.kle_refl _
   .have i0:i=lo:=Zz
    have j1:j=lo+1:=Zz
    rw[i0,j1];exact KeyOrd.kle_of_klt ax
theorem Ff(hL:LtAll prog w A E s κ ks)(h0:KeysOf κ ae){st:SortSt}{lo n ok:Nat}{Q:Bool->SortSt->Prop}(hn:lo+n<=ae.size)(hok:ok<=n)(B:SB ks ae st)(hs:Seg κ (arrOf st) lo (lo+ok))
  (h:∀Zr,SB ks ae Zr->Out st Zr lo (lo+n)->Seg κ (arrOf Zr) lo (lo+n)->Q true Zr):wpS (model prog w) A E s (binarySort' lo n ok) Q st:=by
 rw[binarySort'_eq]
 refine wpS_bind (wpS_mono (wpS_forRange (I:=fun k c Zr=>c=(none,())/\SB ks ae Zr/\Out st Zr lo (lo+n)/\Seg κ (arrOf Zr) lo (lo+min k n))
  (Q:=fun c Zr=>c=(none,())/\SB ks ae Zr/\Out st Zr lo (lo+n)/\Seg κ (arrOf Zr) lo (lo+n)) ?_ ?_ ?_) ?_)
 .rintro k c Zr s9 Qt ⟨rfl,B',O',bS⟩;rw[show min k n=k by lia]at bS
  refine wpS_bind (wpS_mono (wpS_forRange (I:=fun x c st2=>st2=Zr/\∃l r,c=(none,l,r)/\l<=r/\r<=k/\r-l<=k-x/\(∀i,i<l->κ.kle (KK κ (arrOf Zr) (lo+i)) (KK κ (arrOf Zr) (lo+k)))/\(∀i,r<=i->i<k->κ.klt (KK κ (arrOf Zr) (lo+k)) (KK κ (arrOf Zr) (lo+i))))
   (Q:=fun c st2=>st2=Zr/\∃l r,c=(none,l,r)/\l<=k/\(∀i,i<l->κ.kle (KK κ (arrOf Zr) (lo+i)) (KK κ (arrOf Zr) (lo+k)))/\(∀i,l<=i->i<k->κ.klt (KK κ (arrOf Zr) (lo+k)) (KK κ (arrOf Zr) (lo+i)))) ?_ ?_ ?_) ?_)
  .rintro x c st2 _ Qu ⟨rfl,l,r,rfl,gN,tf,hm,de,hZ⟩;dsimp only;by_cases nr:l≥r
   .rw[zAx nr];have e:l=r:=Zz
    subst e;exact wpS_pure ⟨rfl,l,l,rfl,tf,de,hZ⟩
   .rw[zAv nr];refine wpS_bind (ltA hL B' h0 Zz Zz ?_)
    cases e:κ.blt (KK κ (arrOf st2) (lo+k)) (KK κ (arrOf st2) (lo+(l+r) / 2))with
    |true=>
     dsimp only;rw[if_pos rfl];exact wpS_pure ⟨rfl,l,(l+r) / 2,rfl,Zz,Zz,Zz,de,fun i z1 z2=>KeyOrd.klt_of_klt_of_kle e (bS (lo+(l+r) / 2) (lo+i) Zz Zz Zz)⟩
    |false=>
     dsimp only;rw[if_neg Zx];exact wpS_pure ⟨rfl,(l+r) / 2+1,r,rfl,Zz,Zz,Zz,fun i z1=>KeyOrd.kle_trans (bS (lo+i) (lo+(l+r) / 2) Zz Zz Zz) (show κ.kle _ _ from e),hZ⟩
  .rintro c st2 ⟨rfl,l,r,rfl,gN,tf,hm,de,hZ⟩;have e:l=r:=Zz
   subst e;exact⟨rfl,l,l,rfl,tf,de,hZ⟩
  .exact⟨rfl,0,k,rfl,Zz,Zz,Zz,fun i hi=>by lia,fun i z1 z2=>by lia⟩
  .rintro c st2 ⟨rfl,l,r,rfl,tj,de,hZ⟩;show wpS _ _ _ _ (do moveDown' (lo+k) (lo+l);pure (ForInStep.yield (none,()))) _ _;rw[moveDown'_eq];have C5:lo+k<(arrOf st2).size:=by rw[B'.size];lia
   refine wpS_bind (wpS_modify (wpS_pure ⟨rfl,B'.arr (bubble_perm _ _ _),O'.trans ⟨fun z hz=>?_,rfl⟩,?_⟩))
   .show(bubble (arrOf st2) (lo+k) (lo+k-(lo+l)))[z]?=_;rw[getElem?_bubble C5 _ Zz,zAv Zz,zAv Zz]
   .rw[show min (k+1) n=k+1 by lia];intro i j hi bq hj;show κ.kle (KK κ (bubble (arrOf st2) (lo+k) (lo+k-(lo+l))) i) (KK κ (bubble (arrOf st2) (lo+k) (lo+k-(lo+l))) j);rw[KK_bubble C5 Zz,KK_bubble C5 Zz,show lo+k-(lo+k-(lo+l))=lo+l by lia]
    have C6:∀z,lo<=z->z<lo+l->κ.kle (KK κ (arrOf st2) z) (KK κ (arrOf st2) (lo+k)):=fun z z1 z2=>by
     have:=de (z-lo) Zz;rw[show lo+(z-lo)=z by lia]at this;exact this
    have C7:∀z,lo+l<=z->z<lo+k->κ.kle (KK κ (arrOf st2) (lo+k)) (KK κ (arrOf st2) z):=fun z z1 z2=>by
     have:=hZ (z-lo) Zz Zz;rw[show lo+(z-lo)=z by lia]at this;exact KeyOrd.kle_of_klt this
    repeat' split
    all_goals first
     | (exfalso;lia)
     |exact KeyOrd.kle_refl _
     |exact C6 _ Zz Zz
     |exact C7 _ Zz Zz
     |exact bS _ _ Zz Zz Zz
 .rintro c Zr ⟨hc,B',O',bS⟩;refine⟨hc,B',O',?_⟩
  rwa [show min (max (max ok 1) n) n=n by lia]at bS
 .refine⟨rfl,B,Out.refl _ _ _,fun i j hi bq hj=>?_⟩;by_cases z:ok=0
  .have e:i=j:=Zz
   rw[e];exact KeyOrd.kle_refl _
  .exact hs i j hi bq Zz
 .rintro c Zr ⟨rfl,B',O',bS⟩;exact wpS_pure (h Zr B' O' bS)
end
section
variable{α:Type}{le:α->α->Prop}
structure MI(le:α->α->Prop)(la lb lo:List α)(ia ib:Nat):Prop where
 pm:lo.Perm (la.take ia++lb.take ib)
 sr:lo.Pairwise le
 be:∀x∈lo,∀y,y∈la.drop ia\/y∈lb.drop ib->le x y
theorem gU{l:List α}{i j:Nat}{y:α}(bq:i<=j)(h:y∈l.drop j):y∈l.drop i:=by
 have:l.drop j=(l.drop i).drop (j-i):=by rw[List.drop_drop];congr 1;lia
 rw[this]at h;exact List.mem_of_mem_drop h
theorem vm{l:List α}(h:l.Pairwise le){i j:Nat}(bq:i<=j):∀x∈(l.drop i).take (j-i),∀y∈l.drop j,le x y:=by
 have e:l.drop i=(l.drop i).take (j-i)++l.drop j:=by
  have:=zBa (j-i) (l.drop i);rw[List.drop_drop]at this;rw[show i+(j-i)=j by lia]at this;exact this.symm
 have hp:(l.drop i).Pairwise le:=h.sublist (List.drop_sublist _ _);rw[e]at hp;exact fun x hx y hy=>(List.pairwise_append.mp hp).2.2 x hx y hy
theorem nY(l:List α)(i k:Nat):l.take (i+k)=l.take i++(l.drop i).take k:=List.take_add
theorem MI.segA{la lb lo:List α}{ia ib k:Nat}(m:MI le la lb lo ia ib)(sa:la.Pairwise le)(h:∀x∈(la.drop ia).take k,∀y∈lb.drop ib,le x y):MI le la lb (lo++(la.drop ia).take k) (ia+k) ib:=by
 refine⟨?_,List.pairwise_append.mpr ⟨m.sr,(sa.sublist (List.drop_sublist _ _)).sublist (List.take_sublist _ _),fun x hx y hy=>m.be x hx y (.inl (List.mem_of_mem_take hy))⟩,fun x hx y hy=>?_⟩
 .rw[nY];refine(m.pm.append_right _).trans ?_;rw[zAf,zAf];exact List.Perm.append_left _ (List.perm_append_comm)
 .rcases zA6.mp hx with z|z
  .exact m.be x z y (hy.imp (gU Zz) id)
  .rcases hy with hy|hy
   .have:=vm sa (i:=ia) (j:=ia+k) Zz x (by rw[show ia+k-ia=k by lia];exact z) y hy;exact this
   .exact h x z y hy
theorem MI.segB{la lb lo:List α}{ia ib k:Nat}(m:MI le la lb lo ia ib)(sb:lb.Pairwise le)(h:∀x∈(lb.drop ib).take k,∀y∈la.drop ia,le x y):MI le la lb (lo++(lb.drop ib).take k) ia (ib+k):=by
 refine⟨?_,List.pairwise_append.mpr ⟨m.sr,(sb.sublist (List.drop_sublist _ _)).sublist (List.take_sublist _ _),fun x hx y hy=>m.be x hx y (.inr (List.mem_of_mem_take hy))⟩,fun x hx y hy=>?_⟩
 .rw[nY];refine(m.pm.append_right _).trans ?_;rw[zAf]
 .rcases zA6.mp hx with z|z
  .exact m.be x z y (hy.imp id (gU Zz))
  .rcases hy with hy|hy
   .exact h x z y hy
   .have:=vm sb (i:=ib) (j:=ib+k) Zz x (by rw[show ib+k-ib=k by lia];exact z) y hy;exact this
structure Done(le:α->α->Prop)(la lb lo:List α):Prop where
 pm:lo.Perm (la++lb)
 sr:lo.Pairwise le
theorem MI.endB{la lb lo:List α}{ia ib:Nat}(m:MI le la lb lo ia ib)(sa:la.Pairwise le)(hb:lb.length<=ib):Done le la lb (lo++la.drop ia++lb.drop ib):=by
 have e:lb.drop ib=[]:=List.drop_of_length_le hb;have e2:lb.take ib=lb:=List.take_of_length_le hb;rw[e,zAn];refine⟨?_,List.pairwise_append.mpr ⟨m.sr,sa.sublist (List.drop_sublist _ _),fun x hx y hy=>m.be x hx y (.inl hy)⟩⟩;have:=m.pm;rw[e2]at this;refine(this.append_right _).trans ?_;rw[zAf];refine(List.Perm.append_left _ List.perm_append_comm).trans ?_;rw[<-zAf,zBa]
theorem MI.endA{la lb lo:List α}{ia ib:Nat}(m:MI le la lb lo ia ib)(sb:lb.Pairwise le)(ha:la.length<=ia):Done le la lb (lo++la.drop ia++lb.drop ib):=by
 have e:la.drop ia=[]:=List.drop_of_length_le ha;have e2:la.take ia=la:=List.take_of_length_le ha;rw[e,zAn];refine⟨?_,List.pairwise_append.mpr ⟨m.sr,sb.sublist (List.drop_sublist _ _),fun x hx y hy=>m.be x hx y (.inr hy)⟩⟩;have:=m.pm;rw[e2]at this;refine(this.append_right _).trans ?_;rw[zAf,zBa]
theorem MI.last{la lb lo:List α}{ia ib:Nat}(m:MI le la lb lo ia ib)(sa:la.Pairwise le)(sb:lb.Pairwise le)(h:∀y∈lb.drop ib,∀x∈la.drop ia,le y x):Done le la lb (lo++lb.drop ib++la.drop ia):=by
 refine⟨?_,List.pairwise_append.mpr ⟨List.pairwise_append.mpr ⟨m.sr,sb.sublist (List.drop_sublist _ _),fun x hx y hy=>m.be x hx y (.inr hy)⟩,sa.sublist (List.drop_sublist _ _),fun x hx y hy=>?_⟩⟩
 .refine((m.pm.append_right _).append_right _).trans ?_
  have e:(la.take ia++lb.take ib++lb.drop ib++la.drop ia)=la.take ia++(lb++la.drop ia):=by
   rw[zAf (la.take ia),zBa,zAf]
  rw[e];refine(List.Perm.append_left _ List.perm_append_comm).trans ?_;rw[<-zAf,zBa]
 .rcases zA6.mp hx with z|z
  .exact m.be x z y (.inl hy)
  .exact h x z y hy
end
def jd:Array Keyed->Array Keyed->Sm (Array Keyed):=sortPriv% PySem.Builtin.mergeLo
def je:Nat->Sm Unit:=sortPriv% PySem.Builtin.setMinGallop
abbrev C1:=Option (Array Keyed)×Array Keyed×Nat×Nat×Nat×Nat
abbrev C2:=Option (Array Keyed)×Array Keyed×Nat×Nat×Nat×Nat×Nat
abbrev C0:=Option (Array Keyed)×Array Keyed×Nat×Nat×Nat
def one(a b:Array Keyed)(g:Nat)(out:Array Keyed)(ia ib ac bc:Nat):Sm (ForInStep C1):=do
 let y <-elem' b ib
 let x <-elem' a ia
 let r <-lt' y x
 match r with
 |some w=>
  if w=true then do
   let y <-elem' b ib
   if(ib+1==b.size)=true then pure (ForInStep.done (some (out.push y++a.extract ia a.size++b.extract (ib+1) b.size),out.push y,ia,ib+1,0,bc+1))
   else if bc+1≥g then pure (ForInStep.done (none,out.push y,ia,ib+1,0,bc+1))else pure (ForInStep.yield (none,out.push y,ia,ib+1,0,bc+1))
  else do
   let x <-elem' a ia
   if(ia+1+1==a.size)=true then pure (ForInStep.done (some (out.push x++b.extract ib b.size++a.extract (ia+1) a.size),out.push x,ia+1,ib,ac+1,0))
   else if ac+1≥g then pure (ForInStep.done (none,out.push x,ia+1,ib,ac+1,0))else pure (ForInStep.yield (none,out.push x,ia+1,ib,ac+1,0))
 |_=>pure (ForInStep.done (some (out++a.extract ia a.size++b.extract ib b.size),out,ia,ib,ac,bc))
def gl4(a b:Array Keyed)(out:Array Keyed)(ia ib g k k1:Nat):Sm (ForInStep C2):=do
 let x <-elem' a ia
 if(ia+1+1==a.size)=true then pure (ForInStep.done (some (out.push x++b.extract ib b.size++a.extract (ia+1) a.size),out.push x,ia+1,ib,g,k,k1))
 else if(decide (k<7)&&decide (k1<7))=true then pure (ForInStep.done (none,out.push x,ia+1,ib,g,k,k1))else pure (ForInStep.yield (none,out.push x,ia+1,ib,g,k,k1))
def gl3(a b:Array Keyed)(out:Array Keyed)(ia ib g k bc:Nat):Sm (ForInStep C2):=do
 let x <-elem' a ia
 let r <-fK true x b ib (b.size-ib) 0
 match r with
 |some k1=>
  if k1>0 then
   if(ib+k1==b.size)=true then pure (ForInStep.done (some (out++b.extract ib (ib+k1)++a.extract ia a.size++b.extract (ib+k1) b.size),out++b.extract ib (ib+k1),ia,ib+k1,g,k,k1))
   else gl4 a b (out++b.extract ib (ib+k1)) ia (ib+k1) g k k1
  else gl4 a b out ia ib g k k1
 |_=>pure (ForInStep.done (some (out++a.extract ia a.size++b.extract ib b.size),out,ia,ib,g,k,bc))
def gl2(a b:Array Keyed)(out:Array Keyed)(ia ib g k bc:Nat):Sm (ForInStep C2):=do
 let y <-elem' b ib
 if(ib+1==b.size)=true then pure (ForInStep.done (some (out.push y++a.extract ia a.size++b.extract (ib+1) b.size),out.push y,ia,ib+1,g,k,bc))
 else gl3 a b (out.push y) ia (ib+1) g k bc
def gl1(a b:Array Keyed)(out:Array Keyed)(ia ib g ac bc:Nat):Sm (ForInStep C2):=do
 je g
 let y <-elem' b ib
 let r <-fK false y a ia (a.size-ia) 0
 match r with
 |some k=>
  if k>0 then
   if(ia+k+1==a.size)=true then pure (ForInStep.done (some (out++a.extract ia (ia+k)++b.extract ib b.size++a.extract (ia+k) a.size),out++a.extract ia (ia+k),ia+k,ib,g,k,bc))
   else if(ia+k==a.size)=true then pure (ForInStep.done (some (out++a.extract ia (ia+k)++a.extract (ia+k) a.size++b.extract ib b.size),out++a.extract ia (ia+k),ia+k,ib,g,k,bc))
   else gl2 a b (out++a.extract ia (ia+k)) (ia+k) ib g k bc
  else gl2 a b out ia ib g k bc
 |_=>pure (ForInStep.done (some (out++a.extract ia a.size++b.extract ib b.size),out,ia,ib,g,ac,bc))
def gal(a b:Array Keyed)(out:Array Keyed)(ia ib g ac bc:Nat):Sm (ForInStep C2):=if g>1 then gl1 a b out ia ib (g-1) ac bc else gl1 a b out ia ib g ac bc
def round(a b:Array Keyed)(out:Array Keyed)(ia ib g:Nat):Sm (ForInStep C0):=do
 let c <-forIn [0:a.size+b.size] ((none,out,ia,ib,0,0):C1) fun _ c=>one a b g c.2.1 c.2.2.1 c.2.2.2.1 c.2.2.2.2.1 c.2.2.2.2.2
 match c.1 with
 |some r=>pure (ForInStep.done (some r,c.2.1,c.2.2.1,c.2.2.2.1,g))
 |none=>do
  liftM (rule "list.sort.gallop")
  let d <-forIn [0:a.size+b.size] ((none,c.2.1,c.2.2.1,c.2.2.2.1,g+1,c.2.2.2.2.1,c.2.2.2.2.2):C2) fun _ d=>gal a b d.2.1 d.2.2.1 d.2.2.2.1 d.2.2.2.2.1 d.2.2.2.2.2.1 d.2.2.2.2.2.2
  match d.1 with
  |some r=>pure (ForInStep.done (some r,d.2.1,d.2.2.1,d.2.2.2.1,d.2.2.2.2.1))
  |none=>do
   je (d.2.2.2.2.1+1)
   pure (ForInStep.yield (none,d.2.1,d.2.2.1,d.2.2.2.1,d.2.2.2.2.1+1))
theorem fi{β:Type}{r:Std.Legacy.Range}{c:β}{f f':Nat->β->Sm (ForInStep β)}(h:f=f'):(forIn r c f:Sm β)=forIn r c f':=by rw[h]
theorem ic{α:Type}{c:Prop}[Decidable c]{x x' y y':α}(h:x=x')(h':y=y'):(if c then x else y)=if c then x' else y':=by rw[h,h']
theorem GC(a b:Array Keyed):jd a b=(do
  liftM (rule "list.sort.merge-lo")
  let e <-elem' b 0
  if(1==b.size)=true then pure (#[e]++a.extract 0 a.size++b.extract 1 b.size)
  else if(0+1==a.size)=true then pure (#[e]++b.extract 1 b.size++a.extract 0 a.size)
  else do
   let s <-get
   let c <-forIn [0:a.size+b.size] ((none,#[e],0,1,gallopOf s):C0) fun _ c=>round a b c.2.1 c.2.2.1 c.2.2.2.1 c.2.2.2.2
   match c.1 with
   |some r=>pure r
   |none=>liftM (unsupported "internal:list.sort.merge-bound")):=by
 delta jd
 refine bc rfl (funext fun u=>bc rfl (funext fun e=>ic rfl (ic rfl (bc rfl (funext fun s=>bc (fi (funext fun x=>funext fun c=>?_)) (funext fun c=>?_))))))
 .unfold round;refine bc (fi (funext fun x=>funext fun c1=>?_)) (funext fun c1=>?_)
  .unfold one;refine bc rfl (funext fun y=>bc rfl (funext fun x=>bc rfl (funext fun r=>?_)))
   cases r with
   |none=>rfl
   |some w=>exact ic (bc rfl (funext fun y=>ic rfl (ic rfl rfl))) (bc rfl (funext fun y=>ic rfl (ic rfl rfl)))
  .obtain⟨r,c1⟩:=c1
   cases r with
   |some r=>rfl
   |none=>
    refine bc rfl (funext fun u=>bc (fi (funext fun x=>funext fun d=>?_)) (funext fun d=>?_))
    .unfold gal;refine ic ?_ ?_
     .unfold gl1;exact bc rfl (funext fun u=>bc rfl (funext fun y=>bc rfl (funext fun r=>by cases r with|none=>rfl|some k=>exact ic (ic rfl (ic rfl (by unfold gl2;exact bc rfl (funext fun y=>ic rfl (by unfold gl3;exact bc rfl (funext fun x=>bc rfl (funext fun r=>by cases r with|none=>rfl|some k1=>exact ic (ic rfl (by unfold gl4;exact bc rfl (funext fun x=>ic rfl (ic rfl rfl)))) (by unfold gl4;exact bc rfl (funext fun x=>ic rfl (ic rfl rfl)))))))))) (by unfold gl2;exact bc rfl (funext fun y=>ic rfl (by unfold gl3;exact bc rfl (funext fun x=>bc rfl (funext fun r=>by cases r with|none=>rfl|some k1=>exact ic (ic rfl (by unfold gl4;exact bc rfl (funext fun x=>ic rfl (ic rfl rfl)))) (by unfold gl4;exact bc rfl (funext fun x=>ic rfl (ic rfl rfl)))))))))))
     .unfold gl1;exact bc rfl (funext fun u=>bc rfl (funext fun y=>bc rfl (funext fun r=>by cases r with|none=>rfl|some k=>exact ic (ic rfl (ic rfl (by unfold gl2;exact bc rfl (funext fun y=>ic rfl (by unfold gl3;exact bc rfl (funext fun x=>bc rfl (funext fun r=>by cases r with|none=>rfl|some k1=>exact ic (ic rfl (by unfold gl4;exact bc rfl (funext fun x=>ic rfl (ic rfl rfl)))) (by unfold gl4;exact bc rfl (funext fun x=>ic rfl (ic rfl rfl)))))))))) (by unfold gl2;exact bc rfl (funext fun y=>ic rfl (by unfold gl3;exact bc rfl (funext fun x=>bc rfl (funext fun r=>by cases r with|none=>rfl|some k1=>exact ic (ic rfl (by unfold gl4;exact bc rfl (funext fun x=>ic rfl (ic rfl rfl)))) (by unfold gl4;exact bc rfl (funext fun x=>ic rfl (ic rfl rfl)))))))))))
    .obtain⟨r,d⟩:=d;cases r<;>rfl
 .obtain⟨r,c⟩:=c;cases r<;>rfl
def key(κ:PyProof.Rows.KeyKind)(p:Keyed):κ.α:=(κ.keyOf p.1).getD κ.dflt
def leK(κ:PyProof.Rows.KeyKind)(x y:Keyed):Prop:=κ.kle (key κ x) (key κ y)
theorem dq{κ:PyProof.Rows.KeyKind}{x y z:Keyed}(h:leK κ x y)(h':leK κ y z):leK κ x z:=KeyOrd.kle_trans h h'
structure SG(st Zr:SortSt):Prop where
 kind:kindOf Zr=kindOf st
 arr:arrOf Zr=arrOf st
 pend:pendingOf Zr=pendingOf st
 fail:failedOf Zr=failedOf st
theorem SG.refl(st:SortSt):SG st st:=⟨rfl,rfl,rfl,rfl⟩
structure Two(κ:PyProof.Rows.KeyKind)(a b:Array Keyed):Prop where
 ka:KeysOf κ a
 kb:KeysOf κ b
 sa:a.toList.Pairwise (leK κ)
 sb:b.toList.Pairwise (leK κ)
theorem item{κ:PyProof.Rows.KeyKind}{a:Array Keyed}(ka:KeysOf κ a){i:Nat}(hi:i<a.size):∃p,a[i]?=some p/\κ.keyOf p.1=some (key κ p)/\KK κ a i=key κ p/\a.toList.drop i=p::a.toList.drop (i+1):=by
 have e:a[i]?=some a[i]:=Array.getElem?_eq_getElem hi;obtain⟨k,hk⟩:=ka a[i] (Array.mem_toList_iff.mpr (Array.getElem_mem hi))
 have ek:key κ a[i]=k:=by
  unfold key;rw[hk];rfl
 refine⟨a[i],e,by rw[ek];exact hk,?_,?_⟩
 .unfold KK;rw[e,ek];dsimp only;rw[hk];rfl
 .have:=List.drop_eq_getElem_cons (l:=a.toList) (i:=i) (by simpa using hi);rw[this];simp
theorem jf{κ:PyProof.Rows.KeyKind}{l r:List Keyed}{p:Keyed}{i:Nat}(h:l.Pairwise (leK κ))(e:l.drop i=p::r):∀y∈l.drop i,leK κ p y:=by
 have hp:=h.sublist (List.drop_sublist i l);rw[e]at hp⊢;intro y hy;rcases zAo.mp hy with z|z
 .rw[z];exact KeyOrd.kle_refl _
 .exact(List.pairwise_cons.mp hp).1 y z
theorem fW(a:Array Keyed)(i j:Nat):(a.extract i j).toList=(a.toList.drop i).take (j-i):=by
 rw[Array.toList_extract]
theorem iB(a:Array Keyed)(i:Nat):(a.extract i a.size).toList=a.toList.drop i:=by
 rw[fW];refine List.take_of_length_le ?_;rw[List.length_drop,zA9];exact zA3 _
theorem jg{κ:PyProof.Rows.KeyKind}{a:Array Keyed}(ka:KeysOf κ a){i k:Nat}{x:Keyed}(h:x∈(a.toList.drop i).take k):∃j,j<k/\i+j<a.size/\KK κ a (i+j)=key κ x:=by
 obtain⟨j,hj,rfl⟩:=List.getElem_of_mem h;rw[zAd,List.length_drop,zA9]at hj;refine⟨j,Zz,Zz,?_⟩;obtain⟨p,e1,e2,e3,e4⟩:=item ka (i:=i+j) Zz;rw[e3,List.getElem_take,List.getElem_drop]
 have:a.toList[i+j]?=some p:=by
  rw[Array.getElem?_toList];exact e1
 rw[zA0 (by rw[zA9];lia)]at this;rw[zAl this]
theorem lN{κ:PyProof.Rows.KeyKind}{a:Array Keyed}(ka:KeysOf κ a){i:Nat}{x:Keyed}(h:x∈a.toList.drop i):∃j,i<=j/\j<a.size/\KK κ a j=key κ x:=by
 have h':x∈(a.toList.drop i).take (a.toList.drop i).length:=by rw[zAm];exact h
 obtain⟨j,_,h2,h3⟩:=jg ka h';exact⟨i+j,Zz,h2,h3⟩
theorem jh{κ:PyProof.Rows.KeyKind}{a:Array Keyed}(ka:KeysOf κ a)(sa:a.toList.Pairwise (leK κ)){i j:Nat}(bq:i<=j)(hj:j<a.size):κ.kle (KK κ a i) (KK κ a j):=by
 obtain⟨p,_,_,e3,e4⟩:=item ka (i:=i) Zz;obtain⟨q,_,_,f3,f4⟩:=item ka (i:=j) hj;rw[e3,f3];refine jf sa e4 q ?_;have:q∈a.toList.drop j:=by rw[f4];exact List.mem_cons_self
 exact gU bq this
section
variable{prog:Program}{w:World}{A:Around}{E:Value->Shared->Prop}{s:Shared}{κ:PyProof.Rows.KeyKind}{ks:SortKind}{a b:Array Keyed}
theorem iC{g:Nat}{Q:Unit->SortSt->Prop}{st:SortSt}(h:∀Zr,SG st Zr->Q () Zr):wpS (model prog w) A E s (je g) Q st:=wpS_modify (h _ ⟨rfl,rfl,rfl,rfl⟩)
structure At(κ:PyProof.Rows.KeyKind)(a b out:Array Keyed)(ia ib:Nat):Prop where
 mi:MI (leK κ) a.toList b.toList out.toList ia ib
 ha:ia+1<a.size
 hb:ib<b.size
theorem At.pushA{out:Array Keyed}{ia ib:Nat}{x:Keyed}(T:Two κ a b)(m:MI (leK κ) a.toList b.toList out.toList ia ib)(e:a.toList.drop ia=x::a.toList.drop (ia+1))(h:∀y∈b.toList.drop ib,leK κ x y):
  MI (leK κ) a.toList b.toList (out.push x).toList (ia+1) ib:=by
 have:=m.segA (k:=1) T.sa fun z hz y hy=>by
  rw[e]at hz;have:z=x:=by simpa using hz
  rw[this];exact h y hy
 rw[e]at this;rw[Array.toList_push];exact this
theorem At.pushB{out:Array Keyed}{ia ib:Nat}{x:Keyed}(T:Two κ a b)(m:MI (leK κ) a.toList b.toList out.toList ia ib)(e:b.toList.drop ib=x::b.toList.drop (ib+1))(h:∀y∈a.toList.drop ia,leK κ x y):
  MI (leK κ) a.toList b.toList (out.push x).toList ia (ib+1):=by
 have:=m.segB (k:=1) T.sb fun z hz y hy=>by
  rw[e]at hz;have:z=x:=by simpa using hz
  rw[this];exact h y hy
 rw[e]at this;rw[Array.toList_push];exact this
theorem At.segA{out:Array Keyed}{ia ib k:Nat}(T:Two κ a b)(m:MI (leK κ) a.toList b.toList out.toList ia ib)(h:∀x∈(a.toList.drop ia).take k,∀y∈b.toList.drop ib,leK κ x y):MI (leK κ) a.toList b.toList (out++a.extract ia (ia+k)).toList (ia+k) ib:=by
 have:=m.segA (k:=k) T.sa h;rw[Array.toList_append,fW,show ia+k-ia=k by lia];exact this
theorem At.segB{out:Array Keyed}{ia ib k:Nat}(T:Two κ a b)(m:MI (leK κ) a.toList b.toList out.toList ia ib)(h:∀x∈(b.toList.drop ib).take k,∀y∈a.toList.drop ia,leK κ x y):MI (leK κ) a.toList b.toList (out++b.extract ib (ib+k)).toList ia (ib+k):=by
 have:=m.segB (k:=k) T.sb h;rw[Array.toList_append,fW,show ib+k-ib=k by lia];exact this
abbrev Rs(κ:PyProof.Rows.KeyKind)(a b:Array Keyed)(r:Array Keyed):Prop:=Done (leK κ) a.toList b.toList r.toList
def iK(κ:PyProof.Rows.KeyKind)(a b:Array Keyed):Prop:=∀y∈b.toList,∀x∈a.toList.drop (a.size-1),leK κ y x
theorem vo{out:Array Keyed}{ia ib:Nat}(T:Two κ a b)(m:MI (leK κ) a.toList b.toList out.toList ia ib)(h:ib=b.size):Rs κ a b (out++a.extract ia a.size++b.extract ib b.size):=by
 have:=m.endB T.sa (by rw[zA9];lia);unfold Rs;rw[Array.toList_append,Array.toList_append,iB,iB];exact this
theorem GD{out:Array Keyed}{ia ib:Nat}(T:Two κ a b)(m:MI (leK κ) a.toList b.toList out.toList ia ib)(h:ia=a.size):Rs κ a b (out++a.extract ia a.size++b.extract ib b.size):=by
 have:=m.endA T.sb (by rw[zA9];lia);unfold Rs;rw[Array.toList_append,Array.toList_append,iB,iB];exact this
theorem vq{out:Array Keyed}{ia ib:Nat}(T:Two κ a b)(L:iK κ a b)(m:MI (leK κ) a.toList b.toList out.toList ia ib)(h:ia+1=a.size):Rs κ a b (out++b.extract ib b.size++a.extract ia a.size):=by
 have:=m.last T.sa T.sb fun y hy x hx=>L y (List.mem_of_mem_drop hy) x (by rw[show a.size-1=ia by lia];exact hx);unfold Rs;rw[Array.toList_append,Array.toList_append,iB,iB];exact this
theorem ut(hL:LtAll prog w A E s κ ks)(T:Two κ a b)(L:iK κ a b){g ia ib ac bc:Nat}{out:Array Keyed}{st:SortSt}(hk:kindOf st=ks)(m:At κ a b out ia ib):
  wpS (model prog w) A E s (one a b g out ia ib ac bc) (fun r Zr=>Zr=st/\match r with
   |.done c=>(∃z,c.1=some z/\Rs κ a b z)\/(c.1=none/\At κ a b c.2.1 c.2.2.1 c.2.2.2.1/\ia+ib+1=c.2.2.1+c.2.2.2.1)
   |.yield c=>c.1=none/\At κ a b c.2.1 c.2.2.1 c.2.2.2.1/\ia+ib+1=c.2.2.1+c.2.2.2.1) st:=by
 obtain⟨x,x1,x2,x3,x4⟩:=item T.ka (i:=ia) (by have:=m.ha;lia);obtain⟨y,y1,y2,y3,y4⟩:=item T.kb m.hb;unfold one;refine wpS_bind (bf y1 (wpS_bind (bf x1 (wpS_bind (hL st hk _ _ _ _ _ y2 x2 ?_)))))
 cases e:κ.blt (key κ y) (key κ x)with
 |true=>
  dsimp only;rw[if_pos rfl];refine wpS_bind (bf y1 ?_);have m':=At.pushB T m.mi y4 fun z hz=>dq (KeyOrd.kle_of_klt e) (jf T.sa x4 z hz);by_cases hb:ib+1=b.size
  .rw[if_pos (by simpa using hb)];exact wpS_pure ⟨rfl,.inl ⟨_,rfl,vo T m' hb⟩⟩
  .rw[if_neg (by simpa using hb)]
   have at':At κ a b (out.push y) ia (ib+1):=⟨m',m.ha,by have:=m.hb;lia⟩
   split
   .exact wpS_pure ⟨rfl,.inr ⟨rfl,at',by dsimp only;lia⟩⟩
   .exact wpS_pure ⟨rfl,rfl,at',by dsimp only;lia⟩
 |false=>
  dsimp only;rw[if_neg Zx];refine wpS_bind (bf x1 ?_);have m':=At.pushA T m.mi x4 fun z hz=>dq (show leK κ x y from e) (jf T.sb y4 z hz);by_cases ha:ia+1+1=a.size
  .rw[if_pos (by simpa using ha)];exact wpS_pure ⟨rfl,.inl ⟨_,rfl,vq T L m' ha⟩⟩
  .rw[if_neg (by simpa using ha)]
   have at':At κ a b (out.push x) (ia+1) ib:=⟨m',by have:=m.ha;lia,m.hb⟩
   split
   .exact wpS_pure ⟨rfl,.inr ⟨rfl,at',by dsimp only;lia⟩⟩
   .exact wpS_pure ⟨rfl,rfl,at',by dsimp only;lia⟩
def G2(κ:PyProof.Rows.KeyKind)(a b:Array Keyed)(n:Nat)(st:SortSt)(r:ForInStep C2)(Zr:SortSt):Prop:=SG st Zr/\match r with
 |.done c=>(∃z,c.1=some z/\Rs κ a b z)\/(c.1=none/\At κ a b c.2.1 c.2.2.1 c.2.2.2.1/\n<=c.2.2.1+c.2.2.2.1)
 |.yield c=>c.1=none/\At κ a b c.2.1 c.2.2.1 c.2.2.2.1/\n<=c.2.2.1+c.2.2.2.1
theorem lO(T:Two κ a b)(L:iK κ a b){g ia ib k k1 n:Nat}{out:Array Keyed}{bo st:SortSt}(sg:SG bo st)(m:At κ a b out ia ib)(hn:n<=ia+ib+1)(h:∀y∈b.toList.drop ib,∀x,a[ia]?=some x->leK κ x y):
  wpS (model prog w) A E s (gl4 a b out ia ib g k k1) (G2 κ a b n bo) st:=by
 obtain⟨x,x1,x2,x3,x4⟩:=item T.ka (i:=ia) (by have:=m.ha;lia);unfold gl4;refine wpS_bind (bf x1 ?_);have m':=At.pushA T m.mi x4 fun z hz=>h z hz x x1;by_cases ha:ia+1+1=a.size
 .rw[if_pos (by simpa using ha)];exact wpS_pure ⟨sg,.inl ⟨_,rfl,vq T L m' ha⟩⟩
 .rw[if_neg (by simpa using ha)]
  have at':At κ a b (out.push x) (ia+1) ib:=⟨m',by have:=m.ha;lia,m.hb⟩
  split
  .exact wpS_pure ⟨sg,.inr ⟨rfl,at',by dsimp only;lia⟩⟩
  .exact wpS_pure ⟨sg,rfl,at',by dsimp only;lia⟩
theorem uv(hL:LtAll prog w A E s κ ks)(T:Two κ a b)(L:iK κ a b){g ia ib k bc n:Nat}{out:Array Keyed}{bo st:SortSt}(hk:kindOf st=ks)(sg:SG bo st)(m:At κ a b out ia ib)(hn:n<=ia+ib+1):
  wpS (model prog w) A E s (gl3 a b out ia ib g k bc) (G2 κ a b n bo) st:=by
 obtain⟨x,x1,x2,x3,x4⟩:=item T.ka (i:=ia) (by have:=m.ha;lia);have hb:=m.hb;unfold gl3;refine wpS_bind (bf x1 ?_);refine wpS_bind (dF (κ:=κ) (kk:=key κ x) (hL st hk) x2 Zz (fun i hi=>?_) (fun i j bq hj gS=>?_) fun k1 kn kt kf=>?_)
 .obtain⟨p,p1,p2,p3,_⟩:=item T.kb (i:=ib+i) Zz;exact⟨p,_,p1,p2,p3⟩
 .have mono:=jh T.kb T.sb (i:=ib+i) (j:=ib+j) Zz Zz;exact KeyOrd.klt_of_kle_of_klt mono gS
 .have fI:∀y∈b.toList.drop (ib+k1),∀z,a[ia]?=some z->leK κ z y:=fun y hy z hz=>by
   rw[x1]at hz;cases hz;obtain⟨j,j1,j2,j3⟩:=lN T.kb hy;have:=kf (j-ib) Zz Zz;rw[show ib+(j-ib)=j by lia,j3]at this;exact this
  by_cases h0:k1>0
  .dsimp only;rw[if_pos h0]
   have m':=At.segB (k:=k1) T m.mi fun z hz y hy=>by
    obtain⟨j,j1,j2,j3⟩:=jg T.kb hz;have:=kt j j1;rw[j3]at this;exact dq (KeyOrd.kle_of_klt this) (jf T.sa x4 y hy)
   by_cases e:ib+k1=b.size
   .rw[if_pos (by simpa using e)];exact wpS_pure ⟨sg,.inl ⟨_,rfl,vo T m' e⟩⟩
   .rw[if_neg (by simpa using e)];exact lO T L sg ⟨m',m.ha,Zz⟩ Zz fI
  .dsimp only;rw[if_neg h0];have e:k1=0:=Zz
   rw[e]at fI;exact lO T L sg m hn fI
theorem lQ(hL:LtAll prog w A E s κ ks)(T:Two κ a b)(L:iK κ a b){g ia ib k bc n:Nat}{out:Array Keyed}{bo st:SortSt}(hk:kindOf st=ks)(sg:SG bo st)(m:At κ a b out ia ib)(hn:n<=ia+ib+1)(h:∀x∈a.toList.drop ia,∀y,b[ib]?=some y->leK κ y x):
  wpS (model prog w) A E s (gl2 a b out ia ib g k bc) (G2 κ a b n bo) st:=by
 obtain⟨y,y1,y2,y3,y4⟩:=item T.kb m.hb;unfold gl2;refine wpS_bind (bf y1 ?_);have m':=At.pushB T m.mi y4 fun z hz=>h z hz y y1;by_cases hb:ib+1=b.size
 .rw[if_pos (by simpa using hb)];exact wpS_pure ⟨sg,.inl ⟨_,rfl,vo T m' hb⟩⟩
 .rw[if_neg (by simpa using hb)];exact uv hL T L hk sg ⟨m',m.ha,by have:=m.hb;lia⟩ Zz
theorem uw(hL:LtAll prog w A E s κ ks)(T:Two κ a b)(L:iK κ a b){g ia ib ac bc n:Nat}{out:Array Keyed}{bo st:SortSt}(hk:kindOf st=ks)(sg:SG bo st)(m:At κ a b out ia ib)(hn:n<=ia+ib+1):
  wpS (model prog w) A E s (gl1 a b out ia ib g ac bc) (G2 κ a b n bo) st:=by
 obtain⟨y,y1,y2,y3,y4⟩:=item T.kb m.hb;have ha:=m.ha;unfold gl1;refine wpS_bind (iC fun Zr fe=>?_);have cw:kindOf Zr=ks:=fe.kind.trans hk
 have bp:SG bo Zr:=⟨fe.kind.trans sg.kind,fe.arr.trans sg.arr,fe.pend.trans sg.pend,fe.fail.trans sg.fail⟩
 refine wpS_bind (bf y1 ?_);refine wpS_bind (dF (κ:=κ) (kk:=key κ y) (hL Zr cw) y2 Zz (fun i hi=>?_) (fun i j bq hj gS=>?_) fun k kn kt kf=>?_)
 .obtain⟨p,p1,p2,p3,_⟩:=item T.ka (i:=ia+i) Zz;exact⟨p,_,p1,p2,p3⟩
 .have mono:=jh T.ka T.sa (i:=ia+i) (j:=ia+j) Zz Zz;have gS:(!κ.blt (key κ y) (KK κ a (ia+j)))=true:=gS;show(!κ.blt (key κ y) (KK κ a (ia+i)))=true;rw[Bool.not_eq_true']at gS⊢;exact KeyOrd.kle_trans mono gS
 .have fI:∀x∈a.toList.drop (ia+k),∀z,b[ib]?=some z->leK κ z x:=fun x hx z hz=>by
   rw[y1]at hz;cases hz;obtain⟨j,j1,j2,j3⟩:=lN T.ka hx;have:=kf (j-ia) Zz Zz;rw[show ia+(j-ia)=j by lia,j3]at this;have this:(!κ.blt (key κ y) (key κ x))=false:=this;rw[Bool.not_eq_false']at this;exact KeyOrd.kle_of_klt this
  by_cases h0:k>0
  .dsimp only;rw[if_pos h0]
   have m':=At.segA (k:=k) T m.mi fun z hz x hx=>by
    obtain⟨j,j1,j2,j3⟩:=jg T.ka hz;have:=kt j j1;rw[j3]at this;have this:(!κ.blt (key κ y) (key κ z))=true:=this;rw[Bool.not_eq_true']at this;exact dq (show leK κ z y from this) (jf T.sb y4 x hx)
   by_cases e:ia+k+1=a.size
   .rw[if_pos (by simpa using e)];exact wpS_pure ⟨bp,.inl ⟨_,rfl,vq T L m' e⟩⟩
   .rw[if_neg (by simpa using e)];by_cases e2:ia+k=a.size
    .rw[if_pos (by simpa using e2)];exact wpS_pure ⟨bp,.inl ⟨_,rfl,GD T m' e2⟩⟩
    .rw[if_neg (by simpa using e2)];exact lQ hL T L cw bp ⟨m',Zz,m.hb⟩ Zz fI
  .dsimp only;rw[if_neg h0];have e:k=0:=Zz
   rw[e]at fI;exact lQ hL T L cw bp m hn fI
theorem lU(hL:LtAll prog w A E s κ ks)(T:Two κ a b)(L:iK κ a b){g ia ib:Nat}{out:Array Keyed}{bo st:SortSt}(hk:kindOf st=ks)(sg:SG bo st)(m:At κ a b out ia ib):
  wpS (model prog w) A E s (round a b out ia ib g) (fun r Zr=>SG bo Zr/\match r with
   |.done c=>∃z,c.1=some z/\Rs κ a b z
   |.yield c=>c.1=none/\At κ a b c.2.1 c.2.2.1 c.2.2.2.1/\ia+ib+1<=c.2.2.1+c.2.2.2.1) st:=by
 unfold round;have Lp:0<a.size+b.size:=by have:=m.ha;lia
 refine wpS_bind (wpS_mono (wpS_forRange (I:=fun x c Zr=>Zr=st/\c.1=none/\At κ a b c.2.1 c.2.2.1 c.2.2.2.1/\ia+ib+x=c.2.2.1+c.2.2.2.1)
  (Q:=fun c Zr=>Zr=st/\((∃z,c.1=some z/\Rs κ a b z)\/(c.1=none/\At κ a b c.2.1 c.2.2.1 c.2.2.2.1/\ia+ib+1<=c.2.2.1+c.2.2.2.1))) ?_ ?_ ⟨rfl,rfl,m,rfl⟩) ?_)
 .rintro x ⟨c0,o,i,j,ac,bc⟩ Zr _ hx ⟨rfl,rfl,m',e⟩;dsimp only at m' e⊢;refine wpS_mono (ut hL T L hk m') fun r st2 h2=>?_;obtain⟨rfl,h2⟩:=h2
  cases r with
  |done c=>
   rcases h2 with h2|⟨h2,h3,h4⟩
   .exact⟨rfl,.inl h2⟩
   .exact⟨rfl,.inr ⟨h2,h3,Zz⟩⟩
  |yield c=>
   obtain⟨h2,h3,h4⟩:=h2;exact⟨rfl,h2,h3,Zz⟩
 .rintro c Zr ⟨rfl,h1,h2,h3⟩;exact⟨rfl,.inr ⟨h1,h2,Zz⟩⟩
 .rintro⟨c0,o,i,j,ac,bc⟩ Zr ⟨rfl,h⟩;dsimp only at h⊢;rcases h with⟨z,rfl,hz⟩|⟨rfl,m',bq⟩
  .exact wpS_pure ⟨sg,z,rfl,hz⟩
  .dsimp only;refine wpS_bind (wpS_lift (wpAny_rule ⟨rfl,?_⟩))
   refine wpS_bind (wpS_mono (wpS_forRange (I:=fun x c st2=>SG bo st2/\c.1=none/\At κ a b c.2.1 c.2.2.1 c.2.2.2.1/\ia+ib+1<=c.2.2.1+c.2.2.2.1)
    (Q:=fun c st2=>SG bo st2/\((∃z,c.1=some z/\Rs κ a b z)\/(c.1=none/\At κ a b c.2.1 c.2.2.1 c.2.2.2.1/\ia+ib+1<=c.2.2.1+c.2.2.2.1))) ?_ ?_ ⟨sg,rfl,m',bq⟩) ?_)
   .rintro x ⟨c0,o,i,j,g2,ac,bc⟩ st2 _ hx ⟨bp,rfl,m2,e2⟩;dsimp only at m2 e2⊢;have wq:kindOf st2=ks:=bp.kind.trans (sg.kind.symm.trans hk);have go:∀g',wpS (model prog w) A E s (gl1 a b o i j g' ac bc) (G2 κ a b (ia+ib+1) bo) st2:=fun g'=>uw hL T L wq bp m2 Zz;unfold gal;split
    .refine wpS_mono (go _) fun r f6 h3=>?_;obtain⟨h3,h4⟩:=h3
     cases r with
     |done c=>exact⟨h3,h4⟩
     |yield c=>exact⟨h3,h4⟩
    .refine wpS_mono (go _) fun r f6 h3=>?_;obtain⟨h3,h4⟩:=h3
     cases r with
     |done c=>exact⟨h3,h4⟩
     |yield c=>exact⟨h3,h4⟩
   .rintro c st2 ⟨h0,h1,h2,h3⟩;exact⟨h0,.inr ⟨h1,h2,h3⟩⟩
   .rintro⟨c0,o,i,j,g2,ac,bc⟩ st2 ⟨bp,h⟩;dsimp only at h⊢;rcases h with⟨z,rfl,hz⟩|⟨rfl,m2,qA⟩
    .exact wpS_pure ⟨bp,z,rfl,hz⟩
    .dsimp only;refine wpS_bind (iC fun f6 l8=>wpS_pure ⟨⟨l8.kind.trans bp.kind,l8.arr.trans bp.arr,l8.pend.trans bp.pend,l8.fail.trans bp.fail⟩,rfl,m2,qA⟩)
theorem GF(hL:LtAll prog w A E s κ ks)(T:Two κ a b)(L:iK κ a b)(ha:0<a.size)(hb:0<b.size)(F:∀x∈a.toList,∀y,b[0]?=some y->leK κ y x){st:SortSt}(hk:kindOf st=ks){Q:Array Keyed->SortSt->Prop}
  (h:∀r Zr,SG st Zr->Rs κ a b r->Q r Zr):wpS (model prog w) A E s (jd a b) Q st:=by
 rw[GC];obtain⟨y,y1,y2,y3,y4⟩:=item T.kb hb;refine wpS_bind (wpS_lift (wpAny_rule ⟨rfl,?_⟩));refine wpS_bind (bf y1 ?_)
 have m0:MI (leK κ) a.toList b.toList ([]:List Keyed) 0 0:=⟨by simp,.nil,fun x hx=>absurd hx Zy⟩
 have m:MI (leK κ) a.toList b.toList (#[y]:Array Keyed).toList 0 1:=by
  have:=At.pushB (out:=#[]) T m0 y4 fun z hz=>F z hz y y1;exact this
 by_cases e1:1=b.size
 .rw[if_pos (by simpa using e1)];exact wpS_pure (h _ st (SG.refl _) (vo T m e1))
 .rw[if_neg (by simpa using e1)];by_cases e2:0+1=a.size
  .rw[if_pos (by simpa using e2)];exact wpS_pure (h _ st (SG.refl _) (vq T L m e2))
  .rw[if_neg (by simpa using e2)];refine wpS_bind (wpS_get ?_)
   refine wpS_bind (wpS_mono (wpS_forRange (I:=fun x c Zr=>SG st Zr/\c.1=none/\At κ a b c.2.1 c.2.2.1 c.2.2.2.1/\1+x<=c.2.2.1+c.2.2.2.1)
    (Q:=fun c Zr=>SG st Zr/\∃z,c.1=some z/\Rs κ a b z) ?_ ?_ ⟨SG.refl _,rfl,⟨m,by dsimp only;lia,by dsimp only;lia⟩,by dsimp only;lia⟩) ?_)
   .rintro x ⟨c0,o,i,j,g⟩ Zr _ hx ⟨sg,rfl,m',e⟩;dsimp only at m' e⊢;refine wpS_mono (lU hL T L (sg.kind.trans hk) sg m') fun r st2 h2=>?_;obtain⟨bp,h2⟩:=h2
    cases r with
    |done c=>exact⟨bp,h2⟩
    |yield c=>
     obtain⟨h2,h3,h4⟩:=h2;exact⟨bp,h2,h3,Zz⟩
   .rintro c Zr ⟨sg,h1,m',e⟩;have:=m'.ha;have:=m'.hb;exact absurd e Zz
   .rintro⟨c0,o,i,j,g⟩ Zr ⟨sg,z,e,hz⟩;dsimp only at e;rw[e];exact wpS_pure (h z Zr sg hz)
end
def ji:Array Keyed->Array Keyed->Sm (Array Keyed):=sortPriv% PySem.Builtin.mergeHi
namespace Hi
abbrev dn(a b out:Array Keyed)(na nb:Nat):Array Keyed:=a.extract 0 na++b.extract 0 nb++out.reverse
abbrev fb(a b out:Array Keyed)(na nb:Nat):Array Keyed:=b.extract 0 nb++a.extract 0 na++out.reverse
abbrev H1:=Option (Array Keyed)×Nat×Nat×Array Keyed×Nat×Nat
abbrev H2:=Option (Array Keyed)×Nat×Nat×Array Keyed×Nat×Nat×Nat
abbrev H0:=Option (Array Keyed)×Nat×Nat×Array Keyed×Nat
def one(a b:Array Keyed)(g:Nat)(na nb:Nat)(out:Array Keyed)(ac bc:Nat):Sm (ForInStep H1):=do
 let y <-elem' b (nb-1)
 let x <-elem' a (na-1)
 let r <-lt' y x
 match r with
 |some w=>
  if w=true then do
   let x <-elem' a (na-1)
   if(na-1==0)=true then pure (ForInStep.done (some (dn a b (out.push x) (na-1) nb),na-1,nb,out.push x,ac+1,0))
   else if ac+1≥g then pure (ForInStep.done (none,na-1,nb,out.push x,ac+1,0))else pure (ForInStep.yield (none,na-1,nb,out.push x,ac+1,0))
  else do
   let y <-elem' b (nb-1)
   if(nb-1==1)=true then pure (ForInStep.done (some (fb a b (out.push y) na (nb-1)),na,nb-1,out.push y,0,bc+1))
   else if bc+1≥g then pure (ForInStep.done (none,na,nb-1,out.push y,0,bc+1))else pure (ForInStep.yield (none,na,nb-1,out.push y,0,bc+1))
 |_=>pure (ForInStep.done (some (dn a b out na nb),na,nb,out,ac,bc))
def gl4(a b:Array Keyed)(na nb:Nat)(out:Array Keyed)(g k k1:Nat):Sm (ForInStep H2):=do
 let x <-elem' a (na-1)
 if(na-1==0)=true then pure (ForInStep.done (some (dn a b (out.push x) (na-1) nb),na-1,nb,out.push x,g,k,k1))
 else if(decide (k<7)&&decide (k1<7))=true then pure (ForInStep.done (none,na-1,nb,out.push x,g,k,k1))else pure (ForInStep.yield (none,na-1,nb,out.push x,g,k,k1))
def gl3(a b:Array Keyed)(na nb:Nat)(out:Array Keyed)(g k bc:Nat):Sm (ForInStep H2):=do
 let x <-elem' a (na-1)
 let r <-fK true x b 0 nb (nb-1)
 match r with
 |some t=>
  if nb-t>0 then
   if(t==1)=true then pure (ForInStep.done (some (fb a b (out++(b.extract t nb).reverse) na t),na,t,out++(b.extract t nb).reverse,g,k,nb-t))
   else if(t==0)=true then pure (ForInStep.done (some (dn a b (out++(b.extract t nb).reverse) na t),na,t,out++(b.extract t nb).reverse,g,k,nb-t))
   else gl4 a b na t (out++(b.extract t nb).reverse) g k (nb-t)
  else gl4 a b na nb out g k (nb-t)
 |_=>pure (ForInStep.done (some (dn a b out na nb),na,nb,out,g,k,bc))
def gl2(a b:Array Keyed)(na nb:Nat)(out:Array Keyed)(g k bc:Nat):Sm (ForInStep H2):=do
 let y <-elem' b (nb-1)
 if(nb-1==1)=true then pure (ForInStep.done (some (fb a b (out.push y) na (nb-1)),na,nb-1,out.push y,g,k,bc))
 else gl3 a b na (nb-1) (out.push y) g k bc
def gl1(a b:Array Keyed)(na nb:Nat)(out:Array Keyed)(g ac bc:Nat):Sm (ForInStep H2):=do
 je g
 let y <-elem' b (nb-1)
 let r <-fK false y a 0 na (na-1)
 match r with
 |some t=>
  if na-t>0 then
   if(t==0)=true then pure (ForInStep.done (some (dn a b (out++(a.extract t na).reverse) t nb),t,nb,out++(a.extract t na).reverse,g,na-t,bc))
   else gl2 a b t nb (out++(a.extract t na).reverse) g (na-t) bc
  else gl2 a b na nb out g (na-t) bc
 |_=>pure (ForInStep.done (some (dn a b out na nb),na,nb,out,g,ac,bc))
def gal(a b:Array Keyed)(na nb:Nat)(out:Array Keyed)(g ac bc:Nat):Sm (ForInStep H2):=if g>1 then gl1 a b na nb out (g-1) ac bc else gl1 a b na nb out g ac bc
def round(a b:Array Keyed)(na nb:Nat)(out:Array Keyed)(g:Nat):Sm (ForInStep H0):=do
 let c <-forIn [0:a.size+b.size] ((none,na,nb,out,0,0):H1) fun _ c=>one a b g c.2.1 c.2.2.1 c.2.2.2.1 c.2.2.2.2.1 c.2.2.2.2.2
 match c.1 with
 |some r=>pure (ForInStep.done (some r,c.2.1,c.2.2.1,c.2.2.2.1,g))
 |none=>do
  liftM (rule "list.sort.gallop")
  let d <-forIn [0:a.size+b.size] ((none,c.2.1,c.2.2.1,c.2.2.2.1,g+1,c.2.2.2.2.1,c.2.2.2.2.2):H2) fun _ d=>gal a b d.2.1 d.2.2.1 d.2.2.2.1 d.2.2.2.2.1 d.2.2.2.2.2.1 d.2.2.2.2.2.2
  match d.1 with
  |some r=>pure (ForInStep.done (some r,d.2.1,d.2.2.1,d.2.2.2.1,d.2.2.2.2.1))
  |none=>do
   je (d.2.2.2.2.1+1)
   pure (ForInStep.yield (none,d.2.1,d.2.2.1,d.2.2.2.1,d.2.2.2.2.1+1))
theorem GJ(a b:Array Keyed):ji a b=(do
  liftM (rule "list.sort.merge-hi")
  let e <-elem' a (a.size-1)
  if(a.size-1==0)=true then pure (dn a b #[e] (a.size-1) b.size)
  else if(b.size==1)=true then pure (fb a b #[e] (a.size-1) b.size)
  else do
   let s <-get
   let c <-forIn [0:a.size+b.size] ((none,a.size-1,b.size,#[e],gallopOf s):H0) fun _ c=>round a b c.2.1 c.2.2.1 c.2.2.2.1 c.2.2.2.2
   match c.1 with
   |some r=>pure r
   |none=>liftM (unsupported "internal:list.sort.merge-bound")):=by
 delta ji
 refine bc rfl (funext fun u=>bc rfl (funext fun e=>ic rfl (ic rfl (bc rfl (funext fun s=>bc (fi (funext fun x=>funext fun c=>?_)) (funext fun c=>?_))))))
 .unfold round;refine bc (fi (funext fun x=>funext fun c1=>?_)) (funext fun c1=>?_)
  .unfold one;refine bc rfl (funext fun y=>bc rfl (funext fun x=>bc rfl (funext fun r=>?_)))
   cases r with
   |none=>rfl
   |some w=>exact ic (bc rfl (funext fun y=>ic rfl (ic rfl rfl))) (bc rfl (funext fun y=>ic rfl (ic rfl rfl)))
  .obtain⟨r,c1⟩:=c1
   cases r with
   |some r=>rfl
   |none=>
    refine bc rfl (funext fun u=>bc (fi (funext fun x=>funext fun d=>?_)) (funext fun d=>?_))
    .unfold gal;refine ic ?_ ?_
     .unfold gl1;exact bc rfl (funext fun u=>bc rfl (funext fun y=>bc rfl (funext fun r=>by cases r with|none=>rfl|some k=>exact ic (ic rfl (by unfold gl2;exact bc rfl (funext fun y=>ic rfl (by unfold gl3;exact bc rfl (funext fun x=>bc rfl (funext fun r=>by cases r with|none=>rfl|some k1=>exact ic (ic rfl (ic rfl (by unfold gl4;exact bc rfl (funext fun x=>ic rfl (ic rfl rfl))))) (by unfold gl4;exact bc rfl (funext fun x=>ic rfl (ic rfl rfl))))))))) (by unfold gl2;exact bc rfl (funext fun y=>ic rfl (by unfold gl3;exact bc rfl (funext fun x=>bc rfl (funext fun r=>by cases r with|none=>rfl|some k1=>exact ic (ic rfl (ic rfl (by unfold gl4;exact bc rfl (funext fun x=>ic rfl (ic rfl rfl))))) (by unfold gl4;exact bc rfl (funext fun x=>ic rfl (ic rfl rfl)))))))))))
     .unfold gl1;exact bc rfl (funext fun u=>bc rfl (funext fun y=>bc rfl (funext fun r=>by cases r with|none=>rfl|some k=>exact ic (ic rfl (by unfold gl2;exact bc rfl (funext fun y=>ic rfl (by unfold gl3;exact bc rfl (funext fun x=>bc rfl (funext fun r=>by cases r with|none=>rfl|some k1=>exact ic (ic rfl (ic rfl (by unfold gl4;exact bc rfl (funext fun x=>ic rfl (ic rfl rfl))))) (by unfold gl4;exact bc rfl (funext fun x=>ic rfl (ic rfl rfl))))))))) (by unfold gl2;exact bc rfl (funext fun y=>ic rfl (by unfold gl3;exact bc rfl (funext fun x=>bc rfl (funext fun r=>by cases r with|none=>rfl|some k1=>exact ic (ic rfl (ic rfl (by unfold gl4;exact bc rfl (funext fun x=>ic rfl (ic rfl rfl))))) (by unfold gl4;exact bc rfl (funext fun x=>ic rfl (ic rfl rfl)))))))))))
    .obtain⟨r,d⟩:=d;cases r<;>rfl
 .obtain⟨r,c⟩:=c;cases r<;>rfl
section
variable{α:Type}{le:α->α->Prop}
structure MH(le:α->α->Prop)(la lb lo:List α)(na nb:Nat):Prop where
 pm:lo.Perm (la.drop na++lb.drop nb)
 sr:lo.Pairwise le
 be:∀x∈lo,∀y,y∈la.take na\/y∈lb.take nb->le y x
theorem vy{l:List α}{i j:Nat}{y:α}(h:i<=j)(hy:y∈l.take i):y∈l.take j:=by
 rw[show i=min i j by lia,<-List.take_take]at hy;exact List.mem_of_mem_take hy
theorem cut_drop{l:List α}{t n:Nat}(h:t<=n)(hn:n<=l.length):(l.take n).drop t++l.drop n=l.drop t:=by
 have e:=zBa n l;have:(l.take n++l.drop n).drop t=(l.take n).drop t++l.drop n:=List.drop_append_of_le_length (by rw[zAd];lia);rw[e]at this;exact this.symm
theorem yN{l:List α}(hp:l.Pairwise le){t n:Nat}(h:t<=n):∀y∈l.take t,∀x∈(l.take n).drop t,le y x:=by
 have h2:(l.take n).Pairwise le:=hp.sublist (List.take_sublist _ _);have e:=zBa t (l.take n);rw[<-e]at h2;rw[List.take_take,show min t n=t by lia]at h2;exact fun y hy x hx=>(List.pairwise_append.mp h2).2.2 y hy x hx
theorem MH.segA{la lb lo:List α}{na nb t:Nat}(m:MH le la lb lo na nb)(sa:la.Pairwise le)(ht:t<=na)(hn:na<=la.length)(h:∀x∈(la.take na).drop t,∀y∈lb.take nb,le y x):MH le la lb ((la.take na).drop t++lo) t nb:=by
 refine⟨?_,List.pairwise_append.mpr ⟨(sa.sublist (List.take_sublist _ _)).sublist (List.drop_sublist _ _),m.sr,fun x hx y hy=>m.be y hy x (.inl (List.mem_of_mem_drop hx))⟩,fun x hx y hy=>?_⟩
 .refine(List.Perm.append_left _ m.pm).trans ?_;rw[<-zAf,cut_drop ht hn]
 .rcases zA6.mp hx with z|z
  .rcases hy with hy|hy
   .exact yN sa ht y hy x z
   .exact h x z y hy
  .exact m.be x z y (hy.imp (vy ht) id)
theorem MH.segB{la lb lo:List α}{na nb t:Nat}(m:MH le la lb lo na nb)(sb:lb.Pairwise le)(ht:t<=nb)(hn:nb<=lb.length)(h:∀x∈(lb.take nb).drop t,∀y∈la.take na,le y x):MH le la lb ((lb.take nb).drop t++lo) na t:=by
 refine⟨?_,List.pairwise_append.mpr ⟨(sb.sublist (List.take_sublist _ _)).sublist (List.drop_sublist _ _),m.sr,fun x hx y hy=>m.be y hy x (.inr (List.mem_of_mem_drop hx))⟩,fun x hx y hy=>?_⟩
 .refine(List.Perm.append_left _ m.pm).trans ?_;refine(List.perm_append_comm_assoc _ _ _).trans ?_;rw[cut_drop ht hn]
 .rcases zA6.mp hx with z|z
  .rcases hy with hy|hy
   .exact h x z y hy
   .exact yN sb ht y hy x z
  .exact m.be x z y (hy.imp id (vy ht))
theorem MH.first{la lb lo:List α}{na nb:Nat}(m:MH le la lb lo na nb)(sa:la.Pairwise le)(sb:lb.Pairwise le)(h:∀y∈lb.take nb,∀x∈la.take na,le y x):Done le la lb (lb.take nb++la.take na++lo):=by
 refine⟨?_,List.pairwise_append.mpr ⟨List.pairwise_append.mpr ⟨sb.sublist (List.take_sublist _ _),sa.sublist (List.take_sublist _ _),h⟩,m.sr,fun x hx y hy=>m.be y hy x ((zA6.mp hx).symm)⟩⟩;refine(List.Perm.append_left _ m.pm).trans ?_
 have e:lb.take nb++la.take na++(la.drop na++lb.drop nb)=lb.take nb++(la++lb.drop nb):=by
  rw[zAf,<-zAf (la.take na),zBa]
 rw[e];refine(List.perm_append_comm_assoc _ _ _).trans ?_;rw[zBa]
theorem MH.endA{la lb lo:List α}{nb:Nat}(m:MH le la lb lo 0 nb)(sa:la.Pairwise le)(sb:lb.Pairwise le):Done le la lb (la.take 0++lb.take nb++lo):=by
 have:=m.first sa sb fun y _ x hx=>absurd hx Zy
 rw[List.take_zero,zAn]at this;rw[List.take_zero,List.nil_append];exact this
theorem MH.endB{la lb lo:List α}{na:Nat}(m:MH le la lb lo na 0)(sa:la.Pairwise le)(sb:lb.Pairwise le):Done le la lb (la.take na++lb.take 0++lo):=by
 have:=m.first sa sb fun y hy x _=>absurd hy Zy
 rw[List.take_zero,List.nil_append]at this;rw[List.take_zero,zAn];exact this
end
section
variable{prog:Program}{w:World}{A:Around}{E:Value->Shared->Prop}{s:Shared}{κ:PyProof.Rows.KeyKind}{ks:SortKind}{a b:Array Keyed}
theorem xm(a:Array Keyed)(n:Nat):(a.extract 0 n).toList=a.toList.take n:=by
 rw[fW];simp
theorem ext_cut(a:Array Keyed)(t n:Nat):(a.extract t n).toList=(a.toList.take n).drop t:=by
 rw[fW,List.drop_take]
theorem rO(out:Array Keyed)(x:Keyed):(out.push x).reverse.toList=x::out.reverse.toList:=by simp
theorem vz(out seg:Array Keyed):(out++seg.reverse).reverse.toList=seg.toList++out.reverse.toList:=by simp
abbrev Mh(κ:PyProof.Rows.KeyKind)(a b out:Array Keyed)(na nb:Nat):Prop:=MH (leK κ) a.toList b.toList out.reverse.toList na nb
structure At(κ:PyProof.Rows.KeyKind)(a b out:Array Keyed)(na nb:Nat):Prop where
 mi:Mh κ a b out na nb
 a1:1<=na
 a2:na<=a.size
 b1:2<=nb
 b2:nb<=b.size
theorem gB{κ:PyProof.Rows.KeyKind}{a:Array Keyed}(ka:KeysOf κ a){n:Nat}(h1:1<=n)(h2:n<=a.size):∃p,a[n-1]?=some p/\κ.keyOf p.1=some (key κ p)/\KK κ a (n-1)=key κ p/\(a.toList.take n).drop (n-1)=[p]:=by
 obtain⟨p,p1,p2,p3,p4⟩:=item ka (i:=n-1) Zz;refine⟨p,p1,p2,p3,?_⟩;rw[List.drop_take,p4,show n-(n-1)=1 by lia];rfl
theorem take_key{κ:PyProof.Rows.KeyKind}{a:Array Keyed}(ka:KeysOf κ a){n t:Nat}{x:Keyed}(h:x∈(a.toList.take n).drop t):∃j,t<=j/\j<n/\j<a.size/\KK κ a j=key κ x:=by
 rw[List.drop_take]at h;obtain⟨j,j1,j2,j3⟩:=jg ka h;exact⟨t+j,Zz,Zz,j2,j3⟩
theorem take_key0{κ:PyProof.Rows.KeyKind}{a:Array Keyed}(ka:KeysOf κ a){n:Nat}{x:Keyed}(h:x∈a.toList.take n):∃j,j<n/\j<a.size/\KK κ a j=key κ x:=by
 have h':x∈(a.toList.take n).drop 0:=by rw[List.drop_zero];exact h
 obtain⟨j,_,j1,j2,j3⟩:=take_key ka h';exact⟨j,j1,j2,j3⟩
theorem vA{κ:PyProof.Rows.KeyKind}{a:Array Keyed}(ka:KeysOf κ a)(sa:a.toList.Pairwise (leK κ)){n:Nat}{p:Keyed}(h1:1<=n)(h2:n<=a.size)(e:KK κ a (n-1)=key κ p):∀y∈a.toList.take n,leK κ y p:=fun y hy=>by
 obtain⟨j,j1,j2,j3⟩:=take_key0 ka hy;have:=jh ka sa (i:=j) (j:=n-1) Zz Zz;rw[j3,e]at this;exact this
theorem pushA{out:Array Keyed}{na nb:Nat}{x:Keyed}(T:Two κ a b)(m:Mh κ a b out na nb)(h1:1<=na)(h2:na<=a.size)(e:(a.toList.take na).drop (na-1)=[x])(h:∀y∈b.toList.take nb,leK κ y x):Mh κ a b (out.push x) (na-1) nb:=by
 have:=MH.segA (t:=na-1) m T.sa Zz (by rw[zA9];exact h2) fun z hz y hy=>by
  rw[e]at hz;rw[List.mem_singleton.mp hz];exact h y hy
 rw[e]at this;unfold Mh;rw[rO];exact this
theorem pushB{out:Array Keyed}{na nb:Nat}{x:Keyed}(T:Two κ a b)(m:Mh κ a b out na nb)(h1:1<=nb)(h2:nb<=b.size)(e:(b.toList.take nb).drop (nb-1)=[x])(h:∀y∈a.toList.take na,leK κ y x):Mh κ a b (out.push x) na (nb-1):=by
 have:=MH.segB (t:=nb-1) m T.sb Zz (by rw[zA9];exact h2) fun z hz y hy=>by
  rw[e]at hz;rw[List.mem_singleton.mp hz];exact h y hy
 rw[e]at this;unfold Mh;rw[rO];exact this
theorem GK{out:Array Keyed}{na nb t:Nat}(T:Two κ a b)(m:Mh κ a b out na nb)(ht:t<=na)(h2:na<=a.size)(h:∀x∈(a.toList.take na).drop t,∀y∈b.toList.take nb,leK κ y x):Mh κ a b (out++(a.extract t na).reverse) t nb:=by
 have:=MH.segA m T.sa ht (by rw[zA9];exact h2) h;unfold Mh;rw[vz,ext_cut];exact this
theorem GP{out:Array Keyed}{na nb t:Nat}(T:Two κ a b)(m:Mh κ a b out na nb)(ht:t<=nb)(h2:nb<=b.size)(h:∀x∈(b.toList.take nb).drop t,∀y∈a.toList.take na,leK κ y x):Mh κ a b (out++(b.extract t nb).reverse) na t:=by
 have:=MH.segB m T.sb ht (by rw[zA9];exact h2) h;unfold Mh;rw[vz,ext_cut];exact this
def FirstB(κ:PyProof.Rows.KeyKind)(a b:Array Keyed):Prop:=∀y∈b.toList.take 1,∀x∈a.toList,leK κ y x
theorem e_a{out:Array Keyed}{na nb:Nat}(T:Two κ a b)(m:Mh κ a b out na nb)(h:na=0):Rs κ a b (dn a b out na nb):=by
 subst h;have:=MH.endA m T.sa T.sb;unfold Rs dn;rw[Array.toList_append,Array.toList_append,xm,xm];exact this
theorem e_b{out:Array Keyed}{na nb:Nat}(T:Two κ a b)(m:Mh κ a b out na nb)(h:nb=0):Rs κ a b (dn a b out na nb):=by
 subst h;have:=MH.endB m T.sa T.sb;unfold Rs dn;rw[Array.toList_append,Array.toList_append,xm,xm];exact this
theorem e_f{out:Array Keyed}{na nb:Nat}(T:Two κ a b)(F:FirstB κ a b)(m:Mh κ a b out na nb)(h:nb=1):Rs κ a b (fb a b out na nb):=by
 subst h
 have:=MH.first m T.sa T.sb fun y hy x hx=>F y hy x (List.mem_of_mem_take hx)
 unfold Rs fb;rw[Array.toList_append,Array.toList_append,xm,xm];exact this
theorem ut(hL:LtAll prog w A E s κ ks)(T:Two κ a b)(F:FirstB κ a b){g na nb ac bc:Nat}{out:Array Keyed}{st:SortSt}(hk:kindOf st=ks)(m:At κ a b out na nb):
  wpS (model prog w) A E s (one a b g na nb out ac bc) (fun r Zr=>Zr=st/\match r with
   |.done c=>(∃z,c.1=some z/\Rs κ a b z)\/(c.1=none/\At κ a b c.2.2.2.1 c.2.1 c.2.2.1/\c.2.1+c.2.2.1+1=na+nb)
   |.yield c=>c.1=none/\At κ a b c.2.2.2.1 c.2.1 c.2.2.1/\c.2.1+c.2.2.1+1=na+nb) st:=by
 obtain⟨mi,a1,a2,b1,b2⟩:=m;obtain⟨x,x1,x2,x3,x4⟩:=gB T.ka a1 a2;obtain⟨y,y1,y2,y3,y4⟩:=gB T.kb (show 1<=nb by lia) b2;unfold one;refine wpS_bind (bf y1 (wpS_bind (bf x1 (wpS_bind (hL st hk _ _ _ _ _ y2 x2 ?_)))))
 cases e:κ.blt (key κ y) (key κ x)with
 |true=>
  dsimp only;rw[if_pos rfl];refine wpS_bind (bf x1 ?_);have m':=pushA T mi a1 a2 x4 fun z hz=>dq (vA T.kb T.sb Zz b2 y3 z hz) (KeyOrd.kle_of_klt e);by_cases h0:na-1=0
  .rw[if_pos (by simpa using h0)];exact wpS_pure ⟨rfl,.inl ⟨_,rfl,e_a T m' h0⟩⟩
  .rw[if_neg (by simpa using h0)]
   have at':At κ a b (out.push x) (na-1) nb:=⟨m',Zz,Zz,b1,b2⟩
   split
   .exact wpS_pure ⟨rfl,.inr ⟨rfl,at',by dsimp only;lia⟩⟩
   .exact wpS_pure ⟨rfl,rfl,at',by dsimp only;lia⟩
 |false=>
  dsimp only;rw[if_neg Zx];refine wpS_bind (bf y1 ?_);have m':=pushB T mi Zz b2 y4 fun z hz=>dq (vA T.ka T.sa a1 a2 x3 z hz) (show leK κ x y from e);by_cases h0:nb-1=1
  .rw[if_pos (by simpa using h0)];exact wpS_pure ⟨rfl,.inl ⟨_,rfl,e_f T F m' h0⟩⟩
  .rw[if_neg (by simpa using h0)]
   have at':At κ a b (out.push y) na (nb-1):=⟨m',a1,a2,Zz,Zz⟩
   split
   .exact wpS_pure ⟨rfl,.inr ⟨rfl,at',by dsimp only;lia⟩⟩
   .exact wpS_pure ⟨rfl,rfl,at',by dsimp only;lia⟩
def G2(κ:PyProof.Rows.KeyKind)(a b:Array Keyed)(n:Nat)(st:SortSt)(r:ForInStep H2)(Zr:SortSt):Prop:=SG st Zr/\match r with
 |.done c=>(∃z,c.1=some z/\Rs κ a b z)\/(c.1=none/\At κ a b c.2.2.2.1 c.2.1 c.2.2.1/\c.2.1+c.2.2.1<n)
 |.yield c=>c.1=none/\At κ a b c.2.2.2.1 c.2.1 c.2.2.1/\c.2.1+c.2.2.1<n
theorem lO(T:Two κ a b){g na nb k k1 n:Nat}{out:Array Keyed}{bo st:SortSt}(sg:SG bo st)(m:At κ a b out na nb)(hn:na+nb<=n)(h:∀y∈b.toList.take nb,∀x,a[na-1]?=some x->leK κ y x):
  wpS (model prog w) A E s (gl4 a b na nb out g k k1) (G2 κ a b n bo) st:=by
 obtain⟨mi,a1,a2,b1,b2⟩:=m;obtain⟨x,x1,x2,x3,x4⟩:=gB T.ka a1 a2;unfold gl4;refine wpS_bind (bf x1 ?_);have m':=pushA T mi a1 a2 x4 fun z hz=>h z hz x x1;by_cases h0:na-1=0
 .rw[if_pos (by simpa using h0)];exact wpS_pure ⟨sg,.inl ⟨_,rfl,e_a T m' h0⟩⟩
 .rw[if_neg (by simpa using h0)]
  have at':At κ a b (out.push x) (na-1) nb:=⟨m',Zz,Zz,b1,b2⟩
  split
  .exact wpS_pure ⟨sg,.inr ⟨rfl,at',by dsimp only;lia⟩⟩
  .exact wpS_pure ⟨sg,rfl,at',by dsimp only;lia⟩
theorem uv(hL:LtAll prog w A E s κ ks)(T:Two κ a b)(F:FirstB κ a b){g na nb k bc n:Nat}{out:Array Keyed}{bo st:SortSt}(hk:kindOf st=ks)(sg:SG bo st)(m:At κ a b out na nb)(hn:na+nb<=n):
  wpS (model prog w) A E s (gl3 a b na nb out g k bc) (G2 κ a b n bo) st:=by
 obtain⟨mi,a1,a2,b1,b2⟩:=id m;obtain⟨x,x1,x2,x3,x4⟩:=gB T.ka a1 a2;unfold gl3;refine wpS_bind (bf x1 ?_);refine wpS_bind (dF (κ:=κ) (kk:=key κ x) (hL st hk) x2 Zz (fun i hi=>?_) (fun i j bq hj gS=>?_) fun t kn kt kf=>?_)
 .obtain⟨p,p1,p2,p3,_⟩:=item T.kb (i:=0+i) Zz;exact⟨p,_,p1,p2,p3⟩
 .have mono:=jh T.kb T.sb (i:=0+i) (j:=0+j) Zz Zz;exact KeyOrd.klt_of_kle_of_klt mono gS
 .have early:∀y∈b.toList.take t,∀z,a[na-1]?=some z->leK κ y z:=fun y hy z hz=>by
   rw[x1]at hz;cases hz;obtain⟨j,j1,j2,j3⟩:=take_key0 T.kb hy;have:=kt j j1;rw[Nat.zero_add,j3]at this;exact KeyOrd.kle_of_klt this
  by_cases h0:nb-t>0
  .dsimp only;rw[if_pos h0]
   have m':=GP T mi (show t<=nb by lia) b2 fun z hz y hy=>by
    obtain⟨j,j1,j2,j3,j4⟩:=take_key T.kb hz;have:=kf j j1 j2;rw[Nat.zero_add,j4]at this;exact dq (vA T.ka T.sa a1 a2 x3 y hy) (show leK κ x z from this)
   by_cases e:t=1
   .rw[if_pos (by simpa using e)];exact wpS_pure ⟨sg,.inl ⟨_,rfl,e_f T F m' e⟩⟩
   .rw[if_neg (by simpa using e)];by_cases e2:t=0
    .rw[if_pos (by simpa using e2)];exact wpS_pure ⟨sg,.inl ⟨_,rfl,e_b T m' e2⟩⟩
    .rw[if_neg (by simpa using e2)];exact lO T sg ⟨m',a1,a2,Zz,Zz⟩ Zz early
  .dsimp only;rw[if_neg h0];have e:t=nb:=Zz
   rw[e]at early;exact lO T sg m hn early
theorem lQ(hL:LtAll prog w A E s κ ks)(T:Two κ a b)(F:FirstB κ a b){g na nb k bc n:Nat}{out:Array Keyed}{bo st:SortSt}(hk:kindOf st=ks)(sg:SG bo st)(m:At κ a b out na nb)(hn:na+nb<=n)(h:∀x∈a.toList.take na,∀y,b[nb-1]?=some y->leK κ x y):
  wpS (model prog w) A E s (gl2 a b na nb out g k bc) (G2 κ a b n bo) st:=by
 obtain⟨mi,a1,a2,b1,b2⟩:=m;obtain⟨y,y1,y2,y3,y4⟩:=gB T.kb (show 1<=nb by lia) b2;unfold gl2;refine wpS_bind (bf y1 ?_);have m':=pushB T mi Zz b2 y4 fun z hz=>h z hz y y1;by_cases h0:nb-1=1
 .rw[if_pos (by simpa using h0)];exact wpS_pure ⟨sg,.inl ⟨_,rfl,e_f T F m' h0⟩⟩
 .rw[if_neg (by simpa using h0)];exact uv hL T F hk sg ⟨m',a1,a2,Zz,Zz⟩ Zz
theorem uw(hL:LtAll prog w A E s κ ks)(T:Two κ a b)(F:FirstB κ a b){g na nb ac bc n:Nat}{out:Array Keyed}{bo st:SortSt}(hk:kindOf st=ks)(sg:SG bo st)(m:At κ a b out na nb)(hn:na+nb<=n):
  wpS (model prog w) A E s (gl1 a b na nb out g ac bc) (G2 κ a b n bo) st:=by
 obtain⟨mi,a1,a2,b1,b2⟩:=id m;obtain⟨y,y1,y2,y3,y4⟩:=gB T.kb (show 1<=nb by lia) b2;unfold gl1;refine wpS_bind (iC fun Zr fe=>?_);have cw:kindOf Zr=ks:=fe.kind.trans hk
 have bp:SG bo Zr:=⟨fe.kind.trans sg.kind,fe.arr.trans sg.arr,fe.pend.trans sg.pend,fe.fail.trans sg.fail⟩
 refine wpS_bind (bf y1 ?_);refine wpS_bind (dF (κ:=κ) (kk:=key κ y) (hL Zr cw) y2 Zz (fun i hi=>?_) (fun i j bq hj gS=>?_) fun t kn kt kf=>?_)
 .obtain⟨p,p1,p2,p3,_⟩:=item T.ka (i:=0+i) Zz;exact⟨p,_,p1,p2,p3⟩
 .have mono:=jh T.ka T.sa (i:=0+i) (j:=0+j) Zz Zz;have gS:(!κ.blt (key κ y) (KK κ a (0+j)))=true:=gS;show(!κ.blt (key κ y) (KK κ a (0+i)))=true;rw[Bool.not_eq_true']at gS⊢;exact KeyOrd.kle_trans mono gS
 .have early:∀x∈a.toList.take t,∀z,b[nb-1]?=some z->leK κ x z:=fun x hx z hz=>by
   rw[y1]at hz;cases hz;obtain⟨j,j1,j2,j3⟩:=take_key0 T.ka hx;have:=kt j j1;rw[Nat.zero_add,j3]at this;have this:(!κ.blt (key κ y) (key κ x))=true:=this;rw[Bool.not_eq_true']at this;exact this
  by_cases h0:na-t>0
  .dsimp only;rw[if_pos h0]
   have m':=GK T mi (show t<=na by lia) a2 fun z hz x hx=>by
    obtain⟨j,j1,j2,j3,j4⟩:=take_key T.ka hz;have:=kf j j1 j2;rw[Nat.zero_add,j4]at this;have this:(!κ.blt (key κ y) (key κ z))=false:=this;rw[Bool.not_eq_false']at this;exact dq (vA T.kb T.sb Zz b2 y3 x hx) (KeyOrd.kle_of_klt this)
   by_cases e:t=0
   .rw[if_pos (by simpa using e)];exact wpS_pure ⟨bp,.inl ⟨_,rfl,e_a T m' e⟩⟩
   .rw[if_neg (by simpa using e)];exact lQ hL T F cw bp ⟨m',Zz,Zz,b1,b2⟩ Zz early
  .dsimp only;rw[if_neg h0];have e:t=na:=Zz
   rw[e]at early;exact lQ hL T F cw bp m hn early
theorem lU(hL:LtAll prog w A E s κ ks)(T:Two κ a b)(F:FirstB κ a b){g na nb:Nat}{out:Array Keyed}{bo st:SortSt}(hk:kindOf st=ks)(sg:SG bo st)(m:At κ a b out na nb):
  wpS (model prog w) A E s (round a b na nb out g) (fun r Zr=>SG bo Zr/\match r with
   |.done c=>∃z,c.1=some z/\Rs κ a b z
   |.yield c=>c.1=none/\At κ a b c.2.2.2.1 c.2.1 c.2.2.1/\c.2.1+c.2.2.1<na+nb) st:=by
 unfold round
 have Lp:0<a.size+b.size:=by
  have:=m.a1;have:=m.a2;lia
 refine wpS_bind (wpS_mono (wpS_forRange (I:=fun x c Zr=>Zr=st/\c.1=none/\At κ a b c.2.2.2.1 c.2.1 c.2.2.1/\c.2.1+c.2.2.1+x=na+nb)
  (Q:=fun c Zr=>Zr=st/\((∃z,c.1=some z/\Rs κ a b z)\/(c.1=none/\At κ a b c.2.2.2.1 c.2.1 c.2.2.1/\c.2.1+c.2.2.1<na+nb))) ?_ ?_ ⟨rfl,rfl,m,rfl⟩) ?_)
 .rintro x ⟨c0,i,j,o,ac,bc⟩ Zr _ hx ⟨rfl,rfl,m',e⟩;dsimp only at m' e⊢;refine wpS_mono (ut hL T F hk m') fun r st2 h2=>?_;obtain⟨rfl,h2⟩:=h2
  cases r with
  |done c=>
   rcases h2 with h2|⟨h2,h3,h4⟩
   .exact⟨rfl,.inl h2⟩
   .exact⟨rfl,.inr ⟨h2,h3,Zz⟩⟩
  |yield c=>
   obtain⟨h2,h3,h4⟩:=h2;exact⟨rfl,h2,h3,Zz⟩
 .rintro c Zr ⟨rfl,h1,h2,h3⟩;exact⟨rfl,.inr ⟨h1,h2,Zz⟩⟩
 .rintro⟨c0,i,j,o,ac,bc⟩ Zr ⟨rfl,h⟩;dsimp only at h⊢;rcases h with⟨z,rfl,hz⟩|⟨rfl,m',bq⟩
  .exact wpS_pure ⟨sg,z,rfl,hz⟩
  .dsimp only;refine wpS_bind (wpS_lift (wpAny_rule ⟨rfl,?_⟩))
   refine wpS_bind (wpS_mono (wpS_forRange (I:=fun x c st2=>SG bo st2/\c.1=none/\At κ a b c.2.2.2.1 c.2.1 c.2.2.1/\c.2.1+c.2.2.1<na+nb)
    (Q:=fun c st2=>SG bo st2/\((∃z,c.1=some z/\Rs κ a b z)\/(c.1=none/\At κ a b c.2.2.2.1 c.2.1 c.2.2.1/\c.2.1+c.2.2.1<na+nb))) ?_ ?_ ⟨sg,rfl,m',bq⟩) ?_)
   .rintro x ⟨c0,i,j,o,g2,ac,bc⟩ st2 _ hx ⟨bp,rfl,m2,e2⟩;dsimp only at m2 e2⊢;have wq:kindOf st2=ks:=bp.kind.trans (sg.kind.symm.trans hk);have go:∀g',wpS (model prog w) A E s (gl1 a b i j o g' ac bc) (G2 κ a b (na+nb) bo) st2:=fun g'=>uw hL T F wq bp m2 Zz;unfold gal;split
    .refine wpS_mono (go _) fun r f6 h3=>?_;obtain⟨h3,h4⟩:=h3
     cases r with
     |done c=>exact⟨h3,h4⟩
     |yield c=>exact⟨h3,h4⟩
    .refine wpS_mono (go _) fun r f6 h3=>?_;obtain⟨h3,h4⟩:=h3
     cases r with
     |done c=>exact⟨h3,h4⟩
     |yield c=>exact⟨h3,h4⟩
   .rintro c st2 ⟨h0,h1,h2,h3⟩;exact⟨h0,.inr ⟨h1,h2,h3⟩⟩
   .rintro⟨c0,i,j,o,g2,ac,bc⟩ st2 ⟨bp,h⟩;dsimp only at h⊢;rcases h with⟨z,rfl,hz⟩|⟨rfl,m2,qA⟩
    .exact wpS_pure ⟨bp,z,rfl,hz⟩
    .dsimp only;refine wpS_bind (iC fun f6 l8=>wpS_pure ⟨⟨l8.kind.trans bp.kind,l8.arr.trans bp.arr,l8.pend.trans bp.pend,l8.fail.trans bp.fail⟩,rfl,m2,qA⟩)
theorem hi_wp(hL:LtAll prog w A E s κ ks)(T:Two κ a b)(L:iK κ a b)(F:FirstB κ a b)(ha:0<a.size)(hb:0<b.size){st:SortSt}(hk:kindOf st=ks){Q:Array Keyed->SortSt->Prop}
  (h:∀r Zr,SG st Zr->Rs κ a b r->Q r Zr):wpS (model prog w) A E s (ji a b) Q st:=by
 rw[GJ];obtain⟨x,x1,x2,x3,x4⟩:=gB T.ka (n:=a.size) ha (zA3 _);refine wpS_bind (wpS_lift (wpAny_rule ⟨rfl,?_⟩));refine wpS_bind (bf x1 ?_)
 have m0:Mh κ a b #[] a.size b.size:=by
  refine⟨?_,List.Pairwise.nil,fun x hx=>absurd hx Zy⟩;rw[List.drop_of_length_le (by rw[zA9];exact zA3 _),List.drop_of_length_le (by rw[zA9];exact zA3 _)];exact List.Perm.nil
 have m:Mh κ a b #[x] (a.size-1) b.size:=pushA (out:=#[]) T m0 ha (zA3 _) x4 fun y hy=>L y (List.mem_of_mem_take hy) x (by
  rw[<-zA9,zAm,zA9]at x4;rw[x4]
  exact List.mem_cons_self)
 by_cases e1:a.size-1=0
 .rw[if_pos (by simpa using e1)];exact wpS_pure (h _ st (SG.refl _) (e_a T m e1))
 .rw[if_neg (by simpa using e1)];by_cases e2:b.size=1
  .rw[if_pos (by simpa using e2)];exact wpS_pure (h _ st (SG.refl _) (e_f T F m e2))
  .rw[if_neg (by simpa using e2)];refine wpS_bind (wpS_get ?_)
   refine wpS_bind (wpS_mono (wpS_forRange (I:=fun x c Zr=>SG st Zr/\c.1=none/\At κ a b c.2.2.2.1 c.2.1 c.2.2.1/\c.2.1+c.2.2.1+x<a.size+b.size)
    (Q:=fun c Zr=>SG st Zr/\∃z,c.1=some z/\Rs κ a b z) ?_ ?_ ⟨SG.refl _,rfl,⟨m,by dsimp only;lia,by dsimp only;lia,by dsimp only;lia,Nat.le_refl _⟩,by dsimp only;lia⟩) ?_)
   .rintro x ⟨c0,i,j,o,g⟩ Zr _ hx ⟨sg,rfl,m',e⟩;dsimp only at m' e⊢;refine wpS_mono (lU hL T F (sg.kind.trans hk) sg m') fun r st2 h2=>?_;obtain⟨bp,h2⟩:=h2
    cases r with
    |done c=>exact⟨bp,h2⟩
    |yield c=>
     obtain⟨h2,h3,h4⟩:=h2;exact⟨bp,h2,h3,Zz⟩
   .rintro c Zr ⟨sg,h1,m',e⟩;exact absurd e Zz
   .rintro⟨c0,i,j,o,g⟩ Zr ⟨sg,z,e,hz⟩;dsimp only at e;rw[e];exact wpS_pure (h z Zr sg hz)
end
end Hi
open PySem PyProof.Rows
def over(arr:Array Keyed)(n:Nat)(l:List Keyed):Array Keyed:=l.zipIdx.foldl (fun a p=>a.setIfInBounds (n+p.2) p.1) arr
theorem qg:∀(l:List Keyed) (j n:Nat) (arr:Array Keyed),n+j+l.length<=arr.size->
  (((l.zipIdx j).foldl (fun a p=>a.setIfInBounds (n+p.2) p.1) arr).size=arr.size/\∀i,((l.zipIdx j).foldl (fun a p=>a.setIfInBounds (n+p.2) p.1) arr)[i]?=if n+j<=i/\i<n+j+l.length then l[i-(n+j)]? else arr[i]?)
 |[],j,n,arr,_=>by
  refine⟨rfl,fun i=>?_⟩;rw[zAv (by rw[List.length_nil];lia)];rfl
 |p::l,j,n,arr,h=>by
  rw[zAe]at h;rw[List.zipIdx_cons,List.foldl_cons];obtain⟨h1,h2⟩:=qg l (j+1) n (arr.setIfInBounds (n+j) p) (by rw[Array.size_setIfInBounds];lia);refine⟨by rw[h1,Array.size_setIfInBounds],fun i=>?_⟩;rw[h2 i,zAe,Array.getElem?_setIfInBounds];by_cases e:n+j=i
  .subst e;rw[if_neg Zz,if_pos rfl,if_pos Zz,if_pos Zz];simp
  .rw[zAv e];by_cases e2:n+(j+1)<=i/\i<n+(j+1)+l.length
   .rw[zAx e2,zAx Zz,show i-(n+j)=(i-(n+(j+1)))+1 by lia];rfl
   .rw[zAv e2,zAv Zz]
theorem xn{arr:Array Keyed}{n:Nat}{l:List Keyed}(h:n+l.length<=arr.size):(over arr n l).toList=arr.toList.take n++l++arr.toList.drop (n+l.length):=by
 obtain⟨h1,h2⟩:=qg l 0 n arr Zz;refine List.ext_getElem? fun i=>?_;rw[Array.getElem?_toList];show((l.zipIdx 0).foldl (fun a p=>a.setIfInBounds (n+p.2) p.1) arr)[i]?=_;have hl:arr.toList.length=arr.size:=zA9;rw[h2 i,zAf,List.getElem?_append,zAd,hl,show min n arr.size=n by lia,List.getElem?_append];by_cases e1:i<n
 .rw[zAv Zz,zAx e1,List.getElem?_take,zAx e1,Array.getElem?_toList]
 .rw[zAv e1];by_cases e2:i<n+l.length
  .rw[zAx Zz,zAx Zz];rfl
  .rw[zAv Zz,zAv Zz,List.getElem?_drop,Array.getElem?_toList];congr 1;lia
theorem pw_of_seg{κ:PyProof.Rows.KeyKind}{arr:Array Keyed}(ka:KeysOf κ arr){lo hi:Nat}(hh:hi<=arr.size)(h:Seg κ arr lo hi):((arr.toList.take hi).drop lo).Pairwise (leK κ):=by
 rw[List.pairwise_iff_getElem];intro i j hX wx bq;rw[List.length_drop,zAd,zA9]at hX wx;rw[List.getElem_drop,List.getElem_drop,List.getElem_take,List.getElem_take]
 have cS:∀k,(hk:k<arr.toList.length)->k<arr.size->key κ arr.toList[k]=KK κ arr k:=fun k hk cw=>by
  obtain⟨p,p1,p2,p3,p4⟩:=item ka cw;rw[p3]
  have e:arr.toList[k]?=some p:=by
   rw[Array.getElem?_toList];exact p1
  rw[zA0 hk]at e;rw[zAl e]
 unfold leK;rw[cS _ _ Zz,cS _ _ Zz];exact h _ _ Zz Zz Zz
theorem xq{κ:PyProof.Rows.KeyKind}{arr:Array Keyed}(ka:KeysOf κ arr){lo hi:Nat}(hh:hi<=arr.size)(h:((arr.toList.take hi).drop lo).Pairwise (leK κ)):Seg κ arr lo hi:=by
 intro i j h1 h2 h3;by_cases e:i=j
 .rw[e];exact KeyOrd.kle_refl _
 .rw[List.pairwise_iff_getElem]at h
  have cS:∀k,(hk:k<arr.toList.length)->k<arr.size->key κ arr.toList[k]=KK κ arr k:=fun k hk cw=>by
   obtain⟨p,p1,p2,p3,p4⟩:=item ka cw;rw[p3]
   have e:arr.toList[k]?=some p:=by
    rw[Array.getElem?_toList];exact p1
   rw[zA0 hk]at e;rw[zAl e]
  have:=h (i-lo) (j-lo) (by rw[List.length_drop,zAd,zA9];lia) (by rw[List.length_drop,zAd,zA9];lia) Zz;rw[List.getElem_drop,List.getElem_drop,List.getElem_take,List.getElem_take]at this;unfold leK at this;rw[cS _ _ Zz,cS _ _ Zz]at this;rw[show lo+(i-lo)=i by lia,show lo+(j-lo)=j by lia]at this;exact this
theorem GQ(i:Nat):mergeAt' i=(do
  let s <-get
  match(pendingOf s)[i]?,(pendingOf s)[i+1]? with
  |some p,some q=>do
   set (setPending s (((pendingOf s).setIfInBounds i (p.1,p.2.1+q.2.1,p.2.2)).eraseIdxIfInBounds (i+1)))
   let y <-elem' (arrOf s) q.1
   let r <-fK false y (arrOf s) p.1 p.2.1 0
   match r with
   |some k=>
    if(p.2.1-k==0)=true then pure true
    else do
     let x <-elem' (arrOf s) (p.1+k+(p.2.1-k)-1)
     let r <-fK true x (arrOf s) q.1 q.2.1 (q.2.1-1)
     match r with
     |some n=>
      if(n==0)=true then pure true
      else do
       let m <-if p.2.1-k<=n then jd ((arrOf s).extract (p.1+k) q.1) ((arrOf s).extract q.1 (q.1+n))else ji ((arrOf s).extract (p.1+k) q.1) ((arrOf s).extract q.1 (q.1+n))
       modify fun s'=>setArr s' (over (arrOf s') (p.1+k) m.toList)
       let s' <-get
       pure (failedOf s').isNone
     |_=>pure false
   |_=>pure false
  |_,_=>liftM (unsupported "internal:list.sort.pending")):=by
 delta mergeAt'
 refine bc rfl (funext fun s=>?_);generalize e1:(pendingOf s)[i]?=o1;generalize e2:(pendingOf s)[i+1]?=o2
 cases o1 with
 |none=>cases o2<;>rfl
 |some p=>
  obtain⟨sa,na,pw⟩:=p
  cases o2 with
  |none=>rfl
  |some q=>
   obtain⟨sb,nb,C8⟩:=q;refine bc rfl (funext fun u=>bc rfl (funext fun y=>bc rfl (funext fun r=>?_)))
   cases r with
   |none=>rfl
   |some k=>
    refine ic rfl (bc rfl (funext fun x=>bc rfl (funext fun r=>?_)))
    cases r with
    |none=>rfl
    |some n=>exact ic rfl (ic (bc rfl (funext fun m=>rfl)) (bc rfl (funext fun m=>rfl)))
theorem keys_perm{κ:PyProof.Rows.KeyKind}{ae xs:Array Keyed}(h0:KeysOf κ ae)(h:xs.Perm ae):KeysOf κ xs:=fun p hp=>h0 p ((Array.perm_iff_toList_perm.mp h).mem_iff.mp hp)
theorem rP{κ:PyProof.Rows.KeyKind}{xs:Array Keyed}(h0:KeysOf κ xs)(i j:Nat):KeysOf κ (xs.extract i j):=fun p hp=>by
 rw[fW]at hp;exact h0 p (List.mem_of_mem_drop (List.mem_of_mem_take hp))
section
variable{prog:Program}{w:World}{A:Around}{E:Value->Shared->Prop}{s:Shared}{κ:PyProof.Rows.KeyKind}{ks:SortKind}{ae:Array Keyed}
structure Mg(κ:PyProof.Rows.KeyKind)(ks:SortKind)(ae:Array Keyed)(st Zr:SortSt)(sa hi:Nat)(pend:Array (Nat×Nat×Nat)):Prop where
 base:SB ks ae Zr
 out:∀k,(k<sa\/hi<=k)->(arrOf Zr)[k]?=(arrOf st)[k]?
 seg:Seg κ (arrOf Zr) sa hi
 pend:pendingOf Zr=pend
theorem yO{l:List Keyed}{i j k m:Nat}(h1:i<=j)(h2:j<=k)(h3:k<=m)(h4:m<=l.length):(l.take m).drop i=(l.take j).drop i++((l.take k).drop j++(l.take m).drop k):=by
 have c:∀{x y z:Nat},x<=y->y<=z->z<=l.length->(l.take z).drop x=(l.take y).drop x++(l.take z).drop y:=fun{x y z} a b d=>by
  have:=Hi.cut_drop (l:=l.take z) (t:=x) (n:=y) a (by rw[zAd];lia);rw[List.take_take,show min y z=y by lia]at this;exact this.symm
 rw[c h1 Zz h4,c h2 h3 h4]
theorem GR(hL:LtAll prog w A E s κ ks)(h0:KeysOf κ ae){st:SortSt}(B:SB ks ae st){i sa na pw nb C8:Nat}(e1:(pendingOf st)[i]?=some (sa,na,pw))(e2:(pendingOf st)[i+1]?=some (sa+na,nb,C8))
  (n1:1<=na) (n2:1<=nb) (hz:sa+na+nb<=ae.size) (s1:Seg κ (arrOf st) sa (sa+na)) (s2:Seg κ (arrOf st) (sa+na) (sa+na+nb)) {Q:Bool->SortSt->Prop}
  (h:∀Zr,Mg κ ks ae st Zr sa (sa+na+nb) (((pendingOf st).setIfInBounds i (sa,na+nb,pw)).eraseIdxIfInBounds (i+1))->Q true Zr):wpS (model prog w) A E s (mergeAt' i) Q st:=by
 rw[GQ];refine wpS_bind (wpS_get ?_);rw[e1,e2];dsimp only;have kA:KeysOf κ (arrOf st):=keys_perm h0 B.pm;have hsz:(arrOf st).size=ae.size:=B.size;have fN:(arrOf st).toList.length=ae.size:=by rw[zA9,hsz]
 obtain⟨P,eP⟩:∃P,P=((pendingOf st).setIfInBounds i (sa,na+nb,pw)).eraseIdxIfInBounds (i+1):=⟨_,rfl⟩
 rw[<-eP]at h⊢
 have Dx:∀{R:PUnit->SortSt->Prop},R ⟨⟩ (setPending st P)->wpS (model prog w) A E s (set (setPending st P):Sm PUnit) R st:=fun hR=>by
  unfold wpS;rw[StateT.run_set];exact zB0 ⟨rfl,hR⟩
 refine wpS_bind (Dx ?_)
 obtain⟨eW,l9⟩:∃eW,eW=setPending st P:=⟨_,rfl⟩
 have k1:kindOf eW=ks:=by rw[l9];exact B.kind
 have a1:arrOf eW=arrOf st:=by rw[l9]
 have p1:pendingOf eW=P:=by rw[l9]
 have f1:failedOf eW=none:=by rw[l9];exact B.ok
 rw[<-l9]
 have all:Seg κ (arrOf st) sa (sa+na+nb)->Mg κ ks ae st eW sa (sa+na+nb) P:=fun sg=>⟨⟨k1,f1,by rw[a1];exact B.pm⟩,fun k _=>by rw[a1],by rw[a1];exact sg,p1⟩
 obtain⟨y,y1,y2,y3,y4⟩:=item kA (i:=sa+na) Zz;refine wpS_bind (bf y1 ?_);refine wpS_bind (dF (κ:=κ) (kk:=key κ y) (hL eW k1) y2 Zz (fun j hj=>?_) (fun j j' Lq wx hb=>?_) fun k kn kt kf=>?_)
 .obtain⟨p,q1,q2,q3,_⟩:=item kA (i:=sa+j) Zz;exact⟨p,_,q1,q2,q3⟩
 .have mono:=s1 (sa+j) (sa+j') Zz Zz Zz;have hb:(!κ.blt (key κ y) (KK κ (arrOf st) (sa+j')))=true:=hb;show(!κ.blt (key κ y) (KK κ (arrOf st) (sa+j)))=true;rw[Bool.not_eq_true']at hb⊢;exact KeyOrd.kle_trans mono hb
 .have DA:∀j,sa<=j->j<sa+k->κ.kle (KK κ (arrOf st) j) (KK κ (arrOf st) (sa+na)):=fun j j1 j2=>by
   have:=kt (j-sa) Zz;rw[show sa+(j-sa)=j by lia]at this;have this:(!κ.blt (key κ y) (KK κ (arrOf st) j))=true:=this;rw[Bool.not_eq_true']at this;rw[y3];exact this
  have Lr:∀j,sa+k<=j->j<sa+na->κ.kle (KK κ (arrOf st) (sa+na)) (KK κ (arrOf st) j):=fun j j1 j2=>by
   have:=kf (j-sa) Zz Zz;rw[show sa+(j-sa)=j by lia]at this;have this:(!κ.blt (key κ y) (KK κ (arrOf st) j))=false:=this;rw[Bool.not_eq_false']at this;rw[y3];exact KeyOrd.kle_of_klt this
  dsimp only;by_cases s9:na-k=0
  .rw[if_pos (by simpa using s9)];refine wpS_pure (h eW (all fun u v hu w9 hv=>?_));by_cases c1:v<sa+na
   .exact s1 u v hu w9 c1
   .by_cases c2:u<sa+na
    .exact KeyOrd.kle_trans (DA u hu Zz) (s2 (sa+na) v (zA3 _) Zz hv)
    .exact s2 u v Zz w9 hv
  .rw[if_neg (by simpa using s9)];rw[show sa+k+(na-k)-1=sa+na-1 by lia];obtain⟨x,x1,x2,x3,x4⟩:=item kA (i:=sa+na-1) Zz;refine wpS_bind (bf x1 ?_);refine wpS_bind (dF (κ:=κ) (kk:=key κ x) (hL eW k1) x2 Zz (fun j hj=>?_) (fun j j' Lq wx hb=>?_) fun n nn nt nf=>?_)
   .obtain⟨p,q1,q2,q3,_⟩:=item kA (i:=sa+na+j) Zz;exact⟨p,_,q1,q2,q3⟩
   .exact KeyOrd.klt_of_kle_of_klt (s2 (sa+na+j) (sa+na+j') Zz Zz Zz) hb
   .have Ls:∀j,sa+na<=j->j<sa+na+n->κ.kle (KK κ (arrOf st) j) (KK κ (arrOf st) (sa+na-1)):=fun j j1 j2=>by
     have:=nt (j-(sa+na)) Zz;rw[show sa+na+(j-(sa+na))=j by lia]at this;rw[x3];exact KeyOrd.kle_of_klt this
    have IU:∀j,sa+na+n<=j->j<sa+na+nb->κ.kle (KK κ (arrOf st) (sa+na-1)) (KK κ (arrOf st) j):=fun j j1 j2=>by
     have:=nf (j-(sa+na)) Zz Zz;rw[show sa+na+(j-(sa+na))=j by lia]at this;rw[x3];exact this
    dsimp only;by_cases AW:n=0
    .rw[if_pos (by simpa using AW)];refine wpS_pure (h eW (all fun u v hu w9 hv=>?_));by_cases c1:v<sa+na
     .exact s1 u v hu w9 c1
     .by_cases c2:u<sa+na
      .exact KeyOrd.kle_trans (s1 u (sa+na-1) hu Zz Zz) (IU v Zz hv)
      .exact s2 u v Zz w9 hv
    .rw[if_neg (by simpa using AW)]
     obtain⟨X,eX⟩:∃X,X=(arrOf st).extract (sa+k) (sa+na):=⟨_,rfl⟩
     obtain⟨Y,eY⟩:∃Y,Y=(arrOf st).extract (sa+na) (sa+na+n):=⟨_,rfl⟩
     rw[<-eX,<-eY];have lX:X.toList=((arrOf st).toList.take (sa+na)).drop (sa+k):=by rw[eX,Hi.ext_cut]
     have lY:Y.toList=((arrOf st).toList.take (sa+na+n)).drop (sa+na):=by rw[eY,Hi.ext_cut]
     have zX:X.size=na-k:=by rw[<-zA9,lX,List.length_drop,zAd,fN];lia
     have zY:Y.size=n:=by rw[<-zA9,lY,List.length_drop,zAd,fN];lia
     have pA:=pw_of_seg kA Zz s1;have pB:=pw_of_seg kA Zz s2;have eA:=yO (l:=(arrOf st).toList) (i:=sa) (j:=sa+k) (k:=sa+na) (m:=sa+na) Zz Zz (zA3 _) (by rw[fN];lia);have eB:=yO (l:=(arrOf st).toList) (i:=sa+na) (j:=sa+na+n) (k:=sa+na+nb) (m:=sa+na+nb) Zz Zz (zA3 _) (by rw[fN];lia);have DB:((arrOf st).toList.take (sa+na)).drop (sa+na)=[]:=List.drop_of_length_le (by rw[zAd];lia);have DC:((arrOf st).toList.take (sa+na+nb)).drop (sa+na+nb)=[]:=List.drop_of_length_le (by rw[zAd];lia);rw[DB,zAn,<-lX]at eA;rw[DC,zAn,<-lY]at eB
     obtain⟨A1,DD⟩:∃A1,A1=((arrOf st).toList.take (sa+k)).drop sa:=⟨_,rfl⟩
     obtain⟨B2,DE⟩:∃B2,B2=((arrOf st).toList.take (sa+na+nb)).drop (sa+na+n):=⟨_,rfl⟩
     rw[<-DD]at eA;rw[<-DE]at eB;rw[eA]at pA;rw[eB]at pB;obtain⟨Lu,pX,Lv⟩:=List.pairwise_append.mp pA;obtain⟨pY,Lw,Lx⟩:=List.pairwise_append.mp pB
     have IX:∀z∈X.toList,∃j,sa+k<=j/\j<sa+na/\KK κ (arrOf st) j=key κ z:=fun z c6=>by
      rw[lX]at c6;obtain⟨j,j1,j2,_,j4⟩:=Hi.take_key kA c6;exact⟨j,j1,j2,j4⟩
     have IY:∀z∈Y.toList,∃j,sa+na<=j/\j<sa+na+n/\KK κ (arrOf st) j=key κ z:=fun z c6=>by
      rw[lY]at c6;obtain⟨j,j1,j2,_,j4⟩:=Hi.take_key kA c6;exact⟨j,j1,j2,j4⟩
     have Ly:∀z∈A1,∃j,sa<=j/\j<sa+k/\KK κ (arrOf st) j=key κ z:=fun z c6=>by
      rw[DD]at c6;obtain⟨j,j1,j2,_,j4⟩:=Hi.take_key kA c6;exact⟨j,j1,j2,j4⟩
     have IZ:∀z∈B2,∃j,sa+na+n<=j/\j<sa+na+nb/\KK κ (arrOf st) j=key κ z:=fun z c6=>by
      rw[DE]at c6;obtain⟨j,j1,j2,_,j4⟩:=Hi.take_key kA c6;exact⟨j,j1,j2,j4⟩
     have TT:Two κ X Y:=⟨by rw[eX];exact rP kA _ _,by rw[eY];exact rP kA _ _,pX,pY⟩
     have LL:iK κ X Y:=fun z c6 v hv=>by
      obtain⟨j,j1,j2,j3⟩:=IY z c6;obtain⟨j',xb,xh,qB⟩:=lN TT.ka hv;have ej:j'=X.size-1:=Zz
      have e:KK κ X j'=KK κ (arrOf st) (sa+na-1):=by
       refine KK_congr ?_;rw[eX,Array.getElem?_extract,zAx Zz];congr 1;lia
      show κ.kle (key κ z) (key κ v);rw[<-j3,<-qB,e];exact Ls j j1 j2
     have F0:∀v∈X.toList,∀z,Y[0]?=some z->leK κ z v:=fun v hv z c6=>by
      obtain⟨j,j1,j2,j3⟩:=IX v hv
      have ez:z=y:=by
       rw[eY,Array.getElem?_extract,zAx Zz,Nat.add_zero,y1]at c6;exact(zAl c6).symm
      show κ.kle (key κ z) (key κ v);rw[ez,<-y3,<-j3];exact Lr j j1 j2
     have FB:Hi.FirstB κ X Y:=fun z c6 v hv=>by
      obtain⟨j,j1,j2,j3⟩:=Hi.take_key0 TT.kb c6;obtain⟨q,q1,q2,q3,_⟩:=item TT.kb (i:=0) Zz;have e0:j=0:=Zz
      rw[e0,q3]at j3;have:=F0 v hv q q1;unfold leK at this⊢;rw[<-j3];exact this
     have fin:∀m st2,SG eW st2->Rs κ X Y m->wpS (model prog w) A E s (do
       modify fun s'=>setArr s' (over (arrOf s') (sa+k) m.toList)
       let s' <-get
       pure (failedOf s').isNone) Q st2:=fun m st2 sg D=>by
      refine wpS_bind (wpS_modify (wpS_bind (wpS_get (wpS_pure ?_))))
      have ft:(failedOf (setArr st2 (over (arrOf st2) (sa+k) m.toList))).isNone=true:=by
       show(failedOf st2).isNone=true;rw[sg.fail,f1];rfl
      rw[ft];have am:arrOf st2=arrOf st:=sg.arr.trans a1
      have lm:m.toList.length=na-k+n:=by
       rw[D.pm.length_eq,zA2,zA9,zA9,zX,zY]
      have ol:(over (arrOf st) (sa+k) m.toList).toList=(arrOf st).toList.take (sa+k)++m.toList++(arrOf st).toList.drop (sa+na+n):=by
       rw[xn (by rw[lm,hsz];lia),lm,show sa+k+(na-k+n)=sa+na+n by lia]
      have xi:(over (arrOf st) (sa+k) m.toList).toList.Perm (arrOf st).toList:=by
       rw[ol]
       have e:(arrOf st).toList=(arrOf st).toList.take (sa+k)++(X.toList++Y.toList)++(arrOf st).toList.drop (sa+na+n):=by
        rw[lX,lY];have c1:=Hi.cut_drop (l:=(arrOf st).toList) (t:=sa+na) (n:=sa+na+n) Zz (by rw[fN];lia);have c2:=Hi.cut_drop (l:=(arrOf st).toList) (t:=sa+k) (n:=sa+na) Zz (by rw[fN];lia);rw[zAf,zAf,c1,c2,zBa]
       conv=>rhs;rw[e]
       exact List.Perm.append_right _ (List.Perm.append_left _ D.pm)
      have ja:(over (arrOf st) (sa+k) m.toList).Perm (arrOf st):=Array.perm_iff_toList_perm.mpr xi;have kO:KeysOf κ (over (arrOf st) (sa+k) m.toList):=keys_perm kA ja;have zO:(over (arrOf st) (sa+k) m.toList).size=ae.size:=ja.size_eq.trans hsz;have og:∀j,(over (arrOf st) (sa+k) m.toList)[j]?=if sa+k+0<=j/\j<sa+k+0+m.toList.length then m.toList[j-(sa+k+0)]? else(arrOf st)[j]?:=(qg m.toList 0 (sa+k) (arrOf st) (by rw[lm,hsz];lia)).2;refine h _ ⟨⟨sg.kind.trans k1,by show failedOf st2=none;rw[sg.fail,f1],?_⟩,fun j hj=>?_,?_,?_⟩
      .show(over (arrOf st2) (sa+k) m.toList).Perm ae;rw[am];exact ja.trans B.pm
      .show(over (arrOf st2) (sa+k) m.toList)[j]?=_;rw[am,og j,zAv (by rw[lm];lia)]
      .show Seg κ (over (arrOf st2) (sa+k) m.toList) sa (sa+na+nb);rw[am];refine xq kO (by rw[zO];exact hz) ?_
       have cut:((over (arrOf st) (sa+k) m.toList).toList.take (sa+na+nb)).drop sa=A1++(m.toList++B2):=by
        rw[ol,DD,DE];have tl:((arrOf st).toList.take (sa+k)).length=sa+k:=by rw[zAd,fN];lia
        rw[zAf,List.take_append,tl,List.take_of_length_le (l:=(arrOf st).toList.take (sa+k)) (by rw[tl];lia),List.take_append,lm,List.take_of_length_le (l:=m.toList) (by rw[lm];lia)];rw[List.drop_append_of_le_length (by rw[tl];lia)];congr 2;rw[List.drop_take];congr 1;lia
       rw[cut];refine List.pairwise_append.mpr ⟨Lu,List.pairwise_append.mpr ⟨D.sr,Lw,fun u hu v hv=>?_⟩,fun u hu v hv=>?_⟩
       .rcases zA6.mp (D.pm.mem_iff.mp hu)with c|c
        .obtain⟨j,j1,j2,j3⟩:=IX u c;obtain⟨j',xb,xh,qB⟩:=IZ v hv;show κ.kle (key κ u) (key κ v);rw[<-j3,<-qB];exact KeyOrd.kle_trans (s1 j (sa+na-1) Zz Zz Zz) (IU j' xb xh)
        .exact Lx u c v hv
       .obtain⟨j,j1,j2,j3⟩:=Ly u hu;rcases zA6.mp hv with c|c
        .rcases zA6.mp (D.pm.mem_iff.mp c)with c|c
         .exact Lv u hu v c
         .obtain⟨j',xb,xh,qB⟩:=IY v c;show κ.kle (key κ u) (key κ v);rw[<-j3,<-qB];exact KeyOrd.kle_trans (DA j j1 j2) (s2 (sa+na) j' (zA3 _) xb Zz)
        .obtain⟨j',xb,xh,qB⟩:=IZ v c;show κ.kle (key κ u) (key κ v);rw[<-j3,<-qB];exact KeyOrd.kle_trans (DA j j1 j2) (s2 (sa+na) j' (zA3 _) Zz xh)
      .show pendingOf st2=P;rw[sg.pend,p1]
     by_cases hc:na-k<=n
     .rw[zAx hc];exact wpS_bind (GF hL TT LL Zz Zz F0 k1 fun m st2 sg D=>fin m st2 sg D)
     .rw[zAv hc];exact wpS_bind (Hi.hi_wp hL TT LL FB Zz Zz k1 fun m st2 sg D=>fin m st2 sg D)
end
abbrev Run:=Nat×Nat×Nat
def Ch(κ:PyProof.Rows.KeyKind)(arr:Array Keyed):List Run->Nat->Nat->Prop
 |[],a,b=>a=b
 |r::l,a,b=>r.1=a/\1<=r.2.1/\Seg κ arr a (a+r.2.1)/\Ch κ arr l (a+r.2.1) b
theorem Ch.le{κ:PyProof.Rows.KeyKind}{arr:Array Keyed}:∀{l:List Run} {a b:Nat},Ch κ arr l a b->a+l.length<=b
 |[],a,b,h=>by
  have h:a=b:=h;simp[h]
 |r::l,a,b,h=>by
  have:=Ch.le h.2.2.2;have:=h.2.1;rw[zAe];lia
theorem Ch.split{κ:PyProof.Rows.KeyKind}{arr:Array Keyed}:∀{l1 l2:List Run} {a b:Nat},Ch κ arr (l1++l2) a b↔∃m,Ch κ arr l1 a m/\Ch κ arr l2 m b
 |[],l2,a,b=>⟨fun h=>⟨a,rfl,h⟩,fun⟨m,h1,h2⟩=>by
  have h1:a=m:=h1;rw[h1]
  exact h2⟩
 |r::l1,l2,a,b=>by
  constructor
  .intro h;obtain⟨m,h1,h2⟩:=Ch.split.mp h.2.2.2;exact⟨m,⟨h.1,h.2.1,h.2.2.1,h1⟩,h2⟩
  .rintro⟨m,h1,h2⟩;exact⟨h1.1,h1.2.1,h1.2.2.1,Ch.split.mpr ⟨m,h1.2.2.2,h2⟩⟩
theorem rQ{κ:PyProof.Rows.KeyKind}{arr js:Array Keyed}{a b:Nat}(h:Seg κ arr a b)(e:∀k,a<=k->k<b->js[k]?=arr[k]?):Seg κ js a b:=fun i j h1 h2 h3=>by
 rw[KK_congr (e i h1 Zz),KK_congr (e j Zz h3)];exact h i j h1 h2 h3
theorem Ch.same{κ:PyProof.Rows.KeyKind}{arr js:Array Keyed}:∀{l:List Run} {a b:Nat},Ch κ arr l a b->(∀k,a<=k->k<b->js[k]?=arr[k]?)->Ch κ js l a b
 |[],_,_,h,_=>h
 |r::l,a,b,h,e=>by
  have:=Ch.le h.2.2.2;exact⟨h.1,h.2.1,rQ h.2.2.1 fun k k1 k2=>e k k1 Zz,h.2.2.2.same fun k k1 k2=>e k Zz k2⟩
theorem xu{p:Array Run}{i:Nat}{v:Run}(h:i+1<p.size):((p.setIfInBounds i v).eraseIdxIfInBounds (i+1)).toList=p.toList.take i++v::p.toList.drop (i+2):=by
 have hl:p.toList.length=p.size:=zA9
 have e1:(p.setIfInBounds i v).eraseIdxIfInBounds (i+1)=(p.setIfInBounds i v).eraseIdx (i+1) (by rw[Array.size_setIfInBounds];exact h):=by
  rw[Array.eraseIdxIfInBounds,dif_pos (by rw[Array.size_setIfInBounds];exact h)]
 rw[e1,Array.toList_eraseIdx,Array.toList_setIfInBounds,List.eraseIdx_eq_take_drop_succ,List.take_set,List.drop_set,zAx Zz]
 have e2:p.toList.take (i+1)=p.toList.take i++[p.toList[i]'Zz]:=by
  rw[zAj,zA0 Zz];rfl
 rw[e2,List.set_append_right _ _ (by rw[zAd];lia)];rw[zAd,show i-min i p.toList.length=0 by lia];simp
section
variable{prog:Program}{w:World}{A:Around}{E:Value->Shared->Prop}{s:Shared}{κ:PyProof.Rows.KeyKind}{ks:SortKind}{ae:Array Keyed}
structure St(κ:PyProof.Rows.KeyKind)(ks:SortKind)(ae:Array Keyed)(st:SortSt)(lo:Nat):Prop where
 base:SB ks ae st
 ch:Ch κ (arrOf st) (pendingOf st).toList 0 lo
 le:lo<=ae.size
theorem rR(hL:LtAll prog w A E s κ ks)(h0:KeysOf κ ae){st:SortSt}{lo i:Nat}(S:St κ ks ae st lo)(hi:i+1<(pendingOf st).size){Q:Bool->SortSt->Prop}
  (h:∀Zr,St κ ks ae Zr lo->(pendingOf Zr).size+1=(pendingOf st).size->(∀k,lo<=k->(arrOf Zr)[k]?=(arrOf st)[k]?)->Q true Zr):wpS (model prog w) A E s (mergeAt' i) Q st:=by
 have hl:(pendingOf st).toList.length=(pendingOf st).size:=zA9;have d1:(pendingOf st).toList.drop i=(pendingOf st).toList[i]'Zz::(pendingOf st).toList.drop (i+1):=List.drop_eq_getElem_cons Zz;have d2:(pendingOf st).toList.drop (i+1)=(pendingOf st).toList[i+1]'Zz::(pendingOf st).toList.drop (i+2):=List.drop_eq_getElem_cons Zz;have g1:(pendingOf st)[i]?=some ((pendingOf st).toList[i]'Zz):=by rw[<-Array.getElem?_toList,zA0 Zz]
 have g2:(pendingOf st)[i+1]?=some ((pendingOf st).toList[i+1]'Zz):=by rw[<-Array.getElem?_toList,zA0 Zz]
 obtain⟨⟨sa,na,pw⟩,ep⟩:∃r,r=(pendingOf st).toList[i]'Zz:=⟨_,rfl⟩
 obtain⟨⟨sb,nb,C8⟩,eq⟩:∃r,r=(pendingOf st).toList[i+1]'Zz:=⟨_,rfl⟩
 rw[<-ep]at d1 g1;rw[<-eq]at d2 g2;have c:=S.ch;rw[<-List.take_append_drop i (pendingOf st).toList,d1,d2]at c;obtain⟨m,c1,c2⟩:=Ch.split.mp c;obtain⟨q1,q2,q3,q4,q5,q6,q7⟩:=c2;dsimp only at q1 q2 q3 q4 q5 q6 q7;subst q1;subst q4;have lb:=Ch.le q7;have lm:=Ch.le c1;refine GR hL h0 S.base g1 g2 q2 q5 (by have:=S.le;lia) q3 q6 fun Zr M=>?_;have pl:(pendingOf Zr).toList=(pendingOf st).toList.take i++(sa,na+nb,pw)::(pendingOf st).toList.drop (i+2):=by rw[M.pend,xu hi]
 refine h Zr ⟨M.base,?_,S.le⟩ ?_ fun k hk=>M.out k (.inr Zz)
 .rw[pl];refine Ch.split.mpr ⟨sa,c1.same fun k _ k2=>M.out k (.inl k2),rfl,by dsimp only;lia,?_,?_⟩
  .dsimp only;rw[<-Nat.add_assoc];exact M.seg
  .dsimp only;rw[<-Nat.add_assoc];exact q7.same fun k k1 _=>M.out k (.inr k1)
 .rw[<-zA9,pl,zA2,zAe,zAd,List.length_drop];lia
def rest(z lo n:Nat):Sm (ForInStep (Option Unit×Nat)):=do
 let s <-get
 match(pendingOf s).back? with
 |some (s1,n1,_)=>do
  let c <-forIn [0:z] ((none,()):Option Unit×Unit) fun _ _=>do
    let s <-get
    match(if(pendingOf s).size>1 then(pendingOf s)[(pendingOf s).size-2]? else none)with
    |some (_,_,nv)=>
     if nv<=power' z (2*s1+n1) (2*s1+n1+n1+n) z then pure (ForInStep.done (none,()))
     else do
      let b <-mergeAt' ((pendingOf s).size-2)
      if(!b)=true then pure (ForInStep.done (some (),()))else pure (ForInStep.yield (none,()))
    |_=>pure (ForInStep.done (none,()))
  match c.1 with
  |some r=>pure (ForInStep.done (some r,lo))
  |none=>do
   modify fun s=>setPending s ((pendingOf s).modify ((pendingOf s).size-1) fun x=>(x.1,x.2.1,power' z (2*s1+n1) (2*s1+n1+n1+n) z))
   modify fun s=>setPending s ((pendingOf s).push (lo,n,0))
   pure (ForInStep.yield (none,lo+n))
 |_=>do
  modify fun s=>setPending s ((pendingOf s).push (lo,n,0))
  pure (ForInStep.yield (none,lo+n))
theorem Ch.pw{κ:PyProof.Rows.KeyKind}{arr:Array Keyed}(f:Run->Run)(hf:∀r,(f r).1=r.1/\(f r).2.1=r.2.1):∀{l:List Run} {a b i:Nat},Ch κ arr l a b->Ch κ arr (l.modify i f) a b
 |[],a,b,i,h=>by
  cases i<;>exact h
 |r::l,a,b,0,h=>by
  obtain⟨e1,e2⟩:=hf r;refine⟨e1.trans h.1,by rw[e2];exact h.2.1,by rw[e2];exact h.2.2.1,?_⟩;rw[e2];exact h.2.2.2
 |r::l,a,b,i+1,h=>⟨h.1,h.2.1,h.2.2.1,Ch.pw f hf h.2.2.2⟩
theorem St.push{st:SortSt}{lo n:Nat}(S:St κ ks ae st lo)(n1:1<=n)(hn:lo+n<=ae.size)(sg:Seg κ (arrOf st) lo (lo+n)):St κ ks ae (setPending st ((pendingOf st).push (lo,n,0))) (lo+n):=by
 refine⟨⟨S.base.kind,S.base.ok,S.base.pm⟩,?_,hn⟩;show Ch κ (arrOf st) ((pendingOf st).push (lo,n,0)).toList 0 (lo+n);rw[Array.toList_push];exact Ch.split.mpr ⟨lo,S.ch,rfl,n1,sg,rfl⟩
theorem St.pw{st:SortSt}{lo i:Nat}(S:St κ ks ae st lo)(f:Run->Run)(hf:∀r,(f r).1=r.1/\(f r).2.1=r.2.1):St κ ks ae (setPending st ((pendingOf st).modify i f)) lo:=by
 refine⟨⟨S.base.kind,S.base.ok,S.base.pm⟩,?_,S.le⟩;show Ch κ (arrOf st) ((pendingOf st).modify i f).toList 0 lo;rw[Array.toList_modify];exact S.ch.pw f hf
theorem vB(hL:LtAll prog w A E s κ ks)(h0:KeysOf κ ae){st:SortSt}{lo n x:Nat}(S:St κ ks ae st lo)(n1:1<=n)(hn:lo+n<=ae.size)(sg:Seg κ (arrOf st) lo (lo+n))(hx:x<=lo){Q:ForInStep (Option Unit×Nat)->SortSt->Prop}
  (h:∀Zr,St κ ks ae Zr (lo+n)->Q (.yield (none,lo+n)) Zr):wpS (model prog w) A E s (rest ae.size lo n) Q st:=by
 unfold rest;refine wpS_bind (wpS_get ?_)
 cases(pendingOf st).back? with
 |none=>exact wpS_bind (wpS_modify (wpS_pure (h _ (S.push n1 hn sg))))
 |some q=>
  obtain⟨s1,DF,p1⟩:=q;dsimp only;refine wpS_bind (wpS_mono (wpS_forRange (I:=fun _ c Zr=>c=(none,())/\St κ ks ae Zr lo/\Seg κ (arrOf Zr) lo (lo+n)) (Q:=fun c Zr=>c=(none,())/\St κ ks ae Zr lo/\Seg κ (arrOf Zr) lo (lo+n)) ?_ (fun _ _ z=>z) ⟨rfl,S,sg⟩) ?_)
  .rintro y c Zr _ _ ⟨rfl,S',fe⟩;refine wpS_bind (wpS_get ?_);by_cases h1:(pendingOf Zr).size>1
   .rw[zAx h1];have hl:(pendingOf Zr).size-2<(pendingOf Zr).size:=Zz
    rw[Array.getElem?_eq_getElem hl]
    obtain⟨⟨a1,a2,nv⟩,eo⟩:∃r,r=(pendingOf Zr)[(pendingOf Zr).size-2]:=⟨_,rfl⟩
    rw[<-eo];dsimp only;split
    .exact wpS_pure ⟨rfl,S',fe⟩
    .refine wpS_bind (rR hL h0 S' Zz fun st2 S2 _ o2=>?_);rw[zAv Zx];exact wpS_pure ⟨rfl,S2,rQ fe fun k k1 _=>o2 k k1⟩
   .rw[zAv h1];exact wpS_pure ⟨rfl,S',fe⟩
  .rintro c Zr ⟨rfl,S',fe⟩;dsimp only;refine wpS_bind (wpS_modify (wpS_bind (wpS_modify (wpS_pure (h _ ?_)))));exact(S'.pw (fun x=>(x.1,x.2.1,power' ae.size (2*s1+DF) (2*s1+DF+DF+n) ae.size)) fun _=>⟨rfl,rfl⟩).push n1 hn fe
theorem ifl(c:Prop)[Decidable c](n:Nat):(if c then n-1 else n)<=n:=by split<;>lia
theorem runs_wp(hL:LtAll prog w A E s κ ks)(h0:KeysOf κ ae){st:SortSt}(B:SB ks ae st)(hp:pendingOf st=#[]){Q:Unit->SortSt->Prop}
  (h:∀Zr,SB ks ae Zr->Seg κ (arrOf Zr) 0 ae.size->Q () Zr):wpS (model prog w) A E s sortRuns' Q st:=by
 rw[sortRuns'_eq];refine wpS_bind (wpS_get ?_);dsimp only;rw[B.size];generalize minRun' ae.size ae.size 0=mr;refine wpS_bind (wpS_mono (wpS_forRange (I:=fun x c Zr=>c.1=none/\St κ ks ae Zr c.2/\x<=c.2) (Q:=fun c Zr=>c.1=none/\St κ ks ae Zr ae.size) ?_ ?_ ⟨rfl,⟨B,by rw[hp];rfl,zAp _⟩,zA3 _⟩) ?_)
 .rintro x ⟨c0,lo⟩ Zr _ hx ⟨rfl,S,de⟩;dsimp only at S de⊢;by_cases nr:lo≥ae.size
  .rw[zAx nr]
   have e:lo=ae.size:=by
    have:=S.le;lia
   refine wpS_pure ⟨rfl,?_⟩;rw[<-e];exact S
  .rw[if_neg nr];refine wpS_bind (yM hL h0 Zz Zz S.base fun n eW B1 O1 n1 n2 Jd=>?_);dsimp only
   have S1:St κ ks ae eW lo:=⟨B1,by rw[O1.pend];exact S.ch.same fun k _ k2=>O1.out k (.inl k2),S.le⟩
   have tr:∀{m m':Sm (ForInStep (Option Unit×Nat))} {R:ForInStep (Option Unit×Nat)->SortSt->Prop} {st2:SortSt},m=m'->wpS (model prog w) A E s m' R st2->wpS (model prog w) A E s m R st2:=fun e h=>e▸h;by_cases hm:n<mr
   .rw[if_pos hm];refine wpS_bind (wpS_lift (wpAny_rule ⟨rfl,?_⟩));refine wpS_bind (Ff hL h0 Zz Zz B1 Jd fun st2 B2 O2 bp=>?_);rw[if_neg Zx];refine tr ?_ (vB hL h0 ⟨B2,by rw[O2.pend];exact S1.ch.same fun k _ k2=>O2.out k (.inl k2),S.le⟩ Zz Zz bp de fun f6 S3=>⟨rfl,S3,by dsimp only;lia⟩)
    .skip
     unfold rest;refine bc rfl (funext fun s=>?_)
     cases(pendingOf s).back? with
     |none=>rfl
     |some q=>
      obtain⟨s1,n1,p⟩:=q;refine bc (fi (funext fun x=>funext fun c=>bc rfl (funext fun s=>?_))) (funext fun c=>?_)
      .generalize(if(pendingOf s).size>1 then(pendingOf s)[(pendingOf s).size-2]? else none)=o
       cases o with
       |none=>rfl
       |some r=>
        obtain⟨r1,r2,r3⟩:=r;exact ic rfl (bc rfl (funext fun b=>rfl))
      .obtain⟨r,u⟩:=c;cases r<;>rfl
   .rw[if_neg hm];refine tr ?_ (vB hL h0 S1 n1 Zz Jd de fun f6 S3=>⟨rfl,S3,by dsimp only;lia⟩)
    .skip
     unfold rest;refine bc rfl (funext fun s=>?_)
     cases(pendingOf s).back? with
     |none=>rfl
     |some q=>
      obtain⟨s1,n1,p⟩:=q;refine bc (fi (funext fun x=>funext fun c=>bc rfl (funext fun s=>?_))) (funext fun c=>?_)
      .generalize(if(pendingOf s).size>1 then(pendingOf s)[(pendingOf s).size-2]? else none)=o
       cases o with
       |none=>rfl
       |some r=>
        obtain⟨r1,r2,r3⟩:=r;exact ic rfl (bc rfl (funext fun b=>rfl))
      .obtain⟨r,u⟩:=c;cases r<;>rfl
 .rintro⟨c0,lo⟩ Zr ⟨h1,S,h2⟩;dsimp only at h1 S h2⊢
  have e:lo=ae.size:=by
   have:=S.le;lia
  rw[<-e];exact⟨h1,S⟩
 .rintro⟨c0,lo⟩ Zr ⟨h1,S⟩;dsimp only at h1;subst h1;dsimp only
  have one:∀{Zr:SortSt},St κ ks ae Zr ae.size->(pendingOf Zr).size<=1->Seg κ (arrOf Zr) 0 ae.size:=fun{Zr} S hs=>by
   have c:=S.ch;rw[<-zA9]at hs
   cases e:(pendingOf Zr).toList with
   |nil=>
    rw[e]at c;have c:0=ae.size:=c;intro i j _ _ h3;lia
   |cons r l=>
    rw[e]at c hs
    have l0:l=[]:=by
     cases l with
     |nil=>rfl
     |cons _ _=>rw[zAe,zAe]at hs;lia
    rw[l0]at c;obtain⟨_,_,sg,c4⟩:=c;have c4:0+r.2.1=ae.size:=c4;rw[c4]at sg;exact sg
  have p0:(pendingOf Zr).size<=ae.size:=by
   have:=Ch.le S.ch;rw[zA9]at this;lia
  refine wpS_bind (wpS_mono (wpS_forRange (I:=fun x c st2=>c=(none,())/\St κ ks ae st2 ae.size/\(pendingOf st2).size+x<=ae.size) (Q:=fun c st2=>c=(none,())/\St κ ks ae st2 ae.size/\(pendingOf st2).size<=1) ?_ ?_ ⟨rfl,S,Zz⟩) ?_)
  .rintro x c st2 _ hx ⟨rfl,S2,we⟩;refine wpS_bind (wpS_get ?_);by_cases h1:(pendingOf st2).size<=1
   .rw[zAx h1];exact wpS_pure ⟨rfl,S2,h1⟩
   .rw[zAv h1];have hz:2<=(pendingOf st2).size:=Zz
    refine wpS_bind (rR hL h0 S2 (Nat.lt_of_le_of_lt (Nat.succ_le_succ (ifl _ _)) (show(pendingOf st2).size-2+1<(pendingOf st2).size by lia)) fun f6 S3 z3 _=>?_);rw[zAv Zx];exact wpS_pure ⟨rfl,S3,Zz⟩
  .rintro c st2 ⟨rfl,S2,we⟩;exact⟨rfl,S2,Zz⟩
  .rintro c st2 ⟨rfl,S2,we⟩;exact wpS_pure (h st2 S2.base (one S2 we))
end
end Srt
namespace L2
open PySem PySem.Spec PyProof.Rows PySem.Calls
theorem qi:∀a:List Int,HT.lexLt a a=false
 |[]=>rfl
 |x::xs=>by
  rw[HT.lexLt_cons,zAx rfl];exact qi xs
theorem jY:∀a b:List Int,HT.lexLt a b=false->HT.lexLt b a=false->a=b
 |[],[],_,_=>rfl
 |[],_::_,h,_=>by cases h
 |_::_,[],_,h=>by cases h
 |x::xs,y::ys,h1,h2=>by
  rw[HT.lexLt_cons]at h1 h2;by_cases e:x=y
  .subst e;rw[zAx rfl]at h1 h2;rw[jY xs ys h1 h2]
  .rw[zAv e]at h1;rw[zAv (Ne.symm e)]at h2;have h1:=of_decide_eq_false h1;have h2:=of_decide_eq_false h2;lia
theorem qj:∀a b c:List Int,HT.lexLt a b=true->HT.lexLt b c=true->HT.lexLt a c=true
 |[],[],_,h,_=>by cases h
 |[],_::_,[],_,h=>by cases h
 |[],_::_,_::_,_,_=>rfl
 |_::_,[],_,h,_=>by cases h
 |_::_,_::_,[],_,h=>by cases h
 |x::xs,y::ys,z::zs,h1,h2=>by
  rw[HT.lexLt_cons]at h1 h2⊢;by_cases e1:x=y
  .subst e1;rw[zAx rfl]at h1;by_cases e2:x=z
   .subst e2;rw[zAx rfl]at h2⊢;exact qj xs ys zs h1 h2
   .rw[zAv e2]at h2⊢;exact h2
  .rw[zAv e1]at h1;have h1:=zB2 h1;by_cases e2:y=z
   .subst e2;rw[zAv e1];exact zAt h1
   .rw[zAv e2]at h2;have h2:=zB2 h2;rw[zAv Zz];exact zAt Zz
theorem vC(a b c:List Int)(h:HT.lexLt a c=true):HT.lexLt a b=true\/HT.lexLt b c=true:=by
 cases e1:HT.lexLt a b with
 |true=>exact .inl rfl
 |false=>
  cases e2:HT.lexLt b a with
  |true=>exact .inr (qj b a c e2 h)
  |false=>exact .inr (by rw[<-jY a b e1 e2];exact h)
def Bv(ads:List Addr)(row:Addr->List Int):PyProof.Rows.KeyKind where
 α:=List Int
 blt:=HT.lexLt
 irrefl:=qi
 trans:=qj
 negTrans:=vC
 total:=jY
 keyOf:=fun u=>match u with
  |.ref a=>if ads.contains a=true then some (row a)else none
  |_=>none
 dflt:=[]
section
open PySem.W
variable{prog:Program}{w:World}{A:Around}{E:Value->Shared->Prop}{s:Shared}
theorem yP{Q:Bool->Shared->Prop}:∀{ns ms:List Int} {us vs:List Value} {i:Nat},Vals (ns.map V.int) us->Vals (ms.map V.int) vs->Q (HT.lexLt ns ms) s->KatLex prog w A true (decide (ns.length<ms.length)) Q (us.zip vs) i s
 |[],[],_,_,_,.nil,.nil,h=>h
 |[],_::_,_,_,_,.nil,.cons _ _,h=>by
  refine kat_nil ?_;rw[decide_eq_true Zy];exact h
 |_::_,[],_,_,_,.cons _ _,.nil,h=>by
  refine kat_nil ?_;rw[decide_eq_false Zy];exact h
 |x::ns,y::ms,_,_,i,.cons r1 t1,.cons r2 t2,h=>by
  obtain⟨k1,rfl⟩:=r1;obtain⟨k2,rfl⟩:=r2;rw[HT.lexLt_cons]at h;refine kat_cons (wpAny_eqBool_int ?_);by_cases e:x=y
  .subst e;rw[zAx rfl]at h;rw[show(x==x)=true from beq_self_eq_true x];refine kat_yes ?_;have:=yP (i:=i+1) t1 t2 h;rw[show decide ((x::ns).length<(x::ms).length)=decide (ns.length<ms.length) by rw[zAe,zAe];exact decide_eq_decide.mpr Zz];exact this
  .rw[zAv e]at h;rw[show(x==y)=false from beq_false_of_ne e];refine kat_no ?_
   cases hi:(true&&i==0)with
   |true=>exact oneLt_int h
   |false=>exact kat_one _ _ (lt_int h)
theorem Bw{x y:Addr}{ox oy:Obj}{nx ny:Nat}{ns ms:List Int}{us vs:List Value}{Q:Bool->Shared->Prop}(hx:s.heap.get? x=some ox)(dx:ox.data=.seq us.toArray nx)(hy:s.heap.get? y=some oy)(dy:oy.data=.seq vs.toArray ny)
  (r1:Vals (ns.map V.int) us) (r2:Vals (ms.map V.int) vs) (h:Q (HT.lexLt ns ms) s):wpAny (model prog w) A (keyLt' (tuples' true) (.ref x) (.ref y)) Q E s:=by
 refine kat_lt hx dx hy dy ?_;have l1:=r1.length;have l2:=r2.length;rw[zA1]at l1 l2;have:=yP (prog:=prog) (w:=w) (A:=A) (s:=s) (Q:=Q) (i:=0) r1 r2 h;rw[zA8,zA8,<-l1,<-l2];exact this
theorem Bx{l:Addr}{vs:List Value}{Q:Value->Shared->Prop}{R:List Value->Prop}(lst:s.heap.IsList l vs.toArray)(fits:vs.length<=sizeLine)(small:vs.length<2->R vs)
  (big:2<=vs.length->∀g,(∀b o,s.heap.get? b=some o->g.get? b=some o)->wpAny (model prog w) A.in1.in1 (keyKind' vs.toArray) (fun κ s1=>s1={s with heap:=g} /\
    wpS (model prog w) A.in1.in1 (fun _ _=>False) {s with heap:=g} sortRuns' (fun _ st=>failedOf st=none/\∃out,(arrOf st).map (·.2)=List.toArray out/\R out) (SortSt.mk' κ (vs.toArray.zip vs.toArray) #[] 7 none)) (fun _ _=>False) {s with heap:=g})
  (len:∀out,R out->out.length=vs.length)
  (fin:∀out,R out->∀h2 c,(∀b o,s.heap.get? b=some o->h2.get? b=some o)->h2.get? (s.heap.objs.size+1)=some (seqObj "list" out.toArray c)->Q (.ref (s.heap.objs.size+1)) {s with heap:=h2}):
  wpAny (model prog w) A (call (.builtin "sorted") [.ref l]) Q E s:=by
 refine call_function_entry kind_sorted plain_sorted entry_sorted (args_sorted1 _) ?_;unfold Builtin.«sorted»;refine zAu (m:=checkCount "sorted" 1 1 _) (zB0 (zAu (collect_list lst ?_ fits)));refine zAu (wpAny_newList ?_ fits);have jv:((s.heap.push (seqObj "list" #[] 0)).update s.heap.objs.size (Obj.mapSeq (·++vs.toArray))).objs.size=s.heap.objs.size+1:=by rw[Heap.size_update,Heap.size_push]
 obtain⟨g1,xt⟩:∃g1,g1=((s.heap.push (seqObj "list" #[] 0)).update s.heap.objs.size (Obj.mapSeq (·++vs.toArray))).push (seqObj "list" vs.toArray 0):=⟨_,rfl⟩
 have xw:g1.get? (s.heap.objs.size+1)=some (seqObj "list" vs.toArray 0):=by rw[xt,<-jv];exact zB1 _ rfl
 have Lz:∀b o,s.heap.get? b=some o->g1.get? b=some o:=fun b o q=>by
  have lt:b<s.heap.objs.size:=zAz q;rw[xt,Heap.get?_push_ne _ _ _ (by rw[jv];exact zB3 (Nat.lt_succ_of_lt lt)),Heap.get?_update_ne _ _ _ _ (zB3 lt),Heap.get?_push_ne _ _ _ (zB3 lt)];exact q
 show wpAny _ _ _ _ _ {s with heap:=_};rw[jv,show((s.heap.push (seqObj "list" #[] 0)).update s.heap.objs.size (Obj.mapSeq (·++vs.toArray))).push (seqObj "list" vs.toArray 0)=g1 from xt.symm];refine zAu (wpAny_holding (wpAny_call_entry slot_list_sort ⟨_,xw,rfl⟩ entry_list_sort ?body (args_list_sort _)))
 obtain⟨D,eD⟩:∃D,D=s.heap.objs.size+1:=⟨_,rfl⟩
 rw[<-eD]at xw fin⊢
 have apart:∀b o,s.heap.get? b=some o->b≠D:=fun b o q e=>by
  have lt:b<s.heap.objs.size:=zAz q;rw[e,eD]at lt;exact absurd lt (Nat.not_lt_of_le (Nat.le_succ _))
 obtain⟨g2,DH⟩:∃g2,g2=g1.update D (Obj.mapSeq fun _=>(#[]:Array Value)):=⟨_,rfl⟩
 have LA:Heap.SameBut D g1 g2:=DH▸Heap.SameBut.update g1 D _
 obtain⟨e1,at2⟩:∃e1,g2.get? D=some (seqObj "list" #[] e1):=⟨_,DH▸get?_update_seq xw fun _=>#[]⟩
 obtain⟨g3,DJ⟩:∃g3,g3=(g2.push (seqObj "tuple" vs.toArray 0)).push (seqObj "list" #[] 0):=⟨_,rfl⟩
 have tq:g3.get? D=some (seqObj "list" #[] e1):=DJ▸Heap.get?_push_of_some _ (Heap.get?_push_of_some _ at2);have DL:∀b o,s.heap.get? b=some o->g3.get? b=some o:=fun b o q=>DJ▸Heap.get?_push_of_some _ (Heap.get?_push_of_some _ ((LA.2 b (apart b o q)).trans (Lz b o q)));rw[list_sort_plain];refine wpAny_bind (listItems_at xw rfl (wpAny_bind (listUpdate_at xw rfl ?_ (by rw[zA8];exact fits) (zAp _))));rw[<-DH];refine wpAny_bind (seqEpoch_at at2 rfl (wpAny_bind (wpAny_newTuple (wpAny_bind (wpAny_newList (wpAny_holding ?_) (zAp _))) fits)));show wpAny (model prog w) A.in1.in1 _ _ _ {s with heap:=(g2.push (seqObj "tuple" vs.toArray 0)).push (seqObj "list" #[] 0)};rw[<-DJ];dsimp only;by_cases two:vs.toArray.size<2
 .have qE:vs.length<2:=by rw[zA8]at two;exact two
  rw[if_pos two,if_pos two];refine wpAny_bind (wpAny_pure ?_);show wpAny _ _ (do let r <-(pure ((),SortSt.mk' general' (vs.toArray.zip vs.toArray) #[] 7 none):Sem (Unit×SortSt));_) _ _ _;refine wpAny_bind (wpAny_pure ?_);dsimp only
  have em:(vs.toArray.zip vs.toArray).map (·.2)=vs.toArray:=by
   apply Array.toList_inj.mp;simp only[Array.toList_map,Array.toList_zip];exact List.map_snd_zip (zA3 _)
  rw[em];refine wpAny_bind (seqEpoch_at tq rfl (wpAny_bind (listUpdate_at tq rfl ?_ (zAp _) (by rw[zA8];lia))));simp only[bne_self_eq_false,Bool.false_eq_true,if_false];have DM:=Heap.SameBut.update g3 D (Obj.mapSeq fun _=>vs.toArray);exact wpAny_pure ⟨_,rfl,wpAny_pure ⟨_,rfl,fin vs (small qE) _ _ (fun b o z=>(DM.2 b (apart b o z)).trans (DL b o z)) (get?_update_seq tq _)⟩⟩
 .have qE:2<=vs.length:=by rw[zA8]at two;lia
  rw[if_neg two,if_neg two];refine wpAny_bind (wpAny_mono (big qE g3 DL) (fun κ s1 ⟨l9,run⟩=>?_) fun _ _ x=>x.elim);subst l9;refine wpAny_bind (wpAny_mono run ?_ fun _ _ x=>x.elim);rintro⟨⟨⟩,st⟩ s2 ⟨DO,Je,out,xy,hR⟩;subst DO;dsimp only at Je xy⊢;rw[xy];refine wpAny_bind (seqEpoch_at tq rfl (wpAny_bind (listUpdate_at tq rfl ?_ (zAp _) (by rw[zA8,len out hR];lia))));rw[Je];simp only[bne_self_eq_false,Bool.false_eq_true,if_false];have DM:=Heap.SameBut.update g3 D (Obj.mapSeq fun _=>out.toArray);exact wpAny_pure ⟨_,rfl,wpAny_pure ⟨_,rfl,fin out hR _ _ (fun b o z=>(DM.2 b (apart b o z)).trans (DL b o z)) (get?_update_seq tq _)⟩⟩
theorem lV{g:Heap}{ads:List Addr}{row:Addr->List Int}:∀{l:List Addr},(∀a∈l,∃(us:List Value) (o:Obj) (n:Nat),g.get? a=some o/\o.cls=.type "tuple"/\o.data=.seq us.toArray n/\Vals ((row a).map V.int) us/\row a≠[])->∃fs,KatTups g (l.map Value.ref) fs/\fs.length=l.length/\∀v∈fs,∃i t,v=.int i t
 |[],_=>⟨[],.nil,rfl,fun _ h=>absurd h Zy⟩
 |a::l,h=>by
  obtain⟨us,o,n,h1,h2,h3,h4,h5⟩:=h a (.head _);obtain⟨fs,k,hl,hi⟩:=lV (ads:=ads) (row:=row) (l:=l) fun b hb=>h b (.tail _ hb)
  cases er:row a with
  |nil=>exact absurd er h5
  |cons i r=>
   rw[er]at h4
   cases h4 with
   |cons r1 t1=>
    obtain⟨t,rfl⟩:=r1;refine⟨_,.cons h1 h2 h3 (f:=.int i t) Zy k,by rw[List.length_cons,List.length_cons,hl],fun v hv=>?_⟩;rcases zAo.mp hv with z|z
    .exact⟨i,t,z⟩
    .exact hi v z
theorem By{l:List Addr}{row:Addr->List Int}{Q:SortKind->Shared->Prop}(obj:∀a∈l,∃(us:List Value) (o:Obj) (n:Nat),s.heap.get? a=some o/\o.cls=.type "tuple"/\o.data=.seq us.toArray n/\Vals ((row a).map V.int) us/\row a≠[])(hl:0<l.length)(h:Q (tuples' true) s):
  wpAny (model prog w) A (keyKind' (l.map Value.ref).toArray) Q E s:=by
 obtain⟨fs,kt,fl,fi⟩:=lV (ads:=l) (row:=row) obj;refine PySem.W.kat_kind (T:=.type "int") kt (by rw[fl];exact hl) (fun v hv=>?_) Zx h;obtain⟨i,t,rfl⟩:=fi v hv;exact .now
theorem uz{l:List Addr}{row:Addr->List Int}(obj:∀a∈l,∃(us:List Value) (o:Obj) (n:Nat),s.heap.get? a=some o/\o.cls=.type "tuple"/\o.data=.seq us.toArray n/\Vals ((row a).map V.int) us/\row a≠[]):
  Srt.LtAll prog w A E s (Bv l row) (tuples' true):=fun st hk x y a b Q' ka kb hQ=>by
 obtain⟨x1,x2⟩:=x;obtain⟨y1,y2⟩:=y
 cases x1 with
 |ref xa=>
  cases y1 with
  |ref ya=>
   have ka:(if l.contains xa=true then some (row xa)else none)=some a:=ka;have kb:(if l.contains ya=true then some (row ya)else none)=some b:=kb;by_cases c1:l.contains xa=true
   .rw[zAx c1]at ka;by_cases c2:l.contains ya=true
    .rw[if_pos c2]at kb;cases ka;cases kb;obtain⟨Qv,o1,n1,g1,_,d1,r1,_⟩:=obj xa (by simpa using c1);obtain⟨Qw,o2,n2,g2,_,d2,r2,_⟩:=obj ya (by simpa using c2);rw[lt'_eq];refine wpS_bind (wpS_get ?_);rw[hk];refine wpS_bind (wpS_lift (wpAny_attempt (Bw g1 d1 g2 d2 r1 r2 ⟨rfl,?_⟩)));exact wpS_pure hQ
    .rw[zAv c2]at kb;cases kb
   .rw[zAv c1]at ka;cases ka
  |_=>cases kb
 |_=>cases ka
theorem rT(l:List Addr):((l.map Value.ref).toArray.zip (l.map Value.ref).toArray).toList=l.map fun a=>(Value.ref a,Value.ref a):=by
 rw[Array.toList_zip];show(l.map Value.ref).zip (l.map Value.ref)=_;rw[List.zip_map']
theorem nZ(l:List Addr)(row:Addr->List Int):KeysOf (Bv l row) ((l.map Value.ref).toArray.zip (l.map Value.ref).toArray):=fun z c6=>by
 rw[rT]at c6;obtain⟨a,ha,rfl⟩:=zA5.mp c6;refine⟨row a,?_⟩;show(if l.contains a=true then some (row a)else none)=some (row a);rw[if_pos (by simpa using ha)]
def yQ(p:Keyed):Addr:=match p.1 with
 |.ref a=>a
 |_=>0
theorem rW{l:List Addr}{row:Addr->List Int}{a:Addr}(h:a∈l):Srt.key (Bv l row) (Value.ref a,Value.ref a)=row a:=by
 show(if l.contains a=true then some (row a)else none).getD []=row a;rw[if_pos (by simpa using h)];rfl
theorem xx{l:List Addr}{row:Addr->List Int}(obj:∀a∈l,∃(us:List Value) (o:Obj) (n:Nat),s.heap.get? a=some o/\o.cls=.type "tuple"/\o.data=.seq us.toArray n/\Vals ((row a).map V.int) us/\row a≠[]){Q:Unit->SortSt->Prop}
  (h:∀st (l':List Addr),failedOf st=none->(arrOf st).map (·.2)=List.toArray (l'.map Value.ref)->l'.Perm l->l'.Pairwise (fun a b=>HT.lexLt (row b) (row a)=false)->Q () st):
  wpS (model prog w) A E s sortRuns' Q (SortSt.mk' (tuples' true) ((l.map Value.ref).toArray.zip (l.map Value.ref).toArray) #[] 7 none):=by
 refine Srt.runs_wp (κ:=Bv l row) (ks:=tuples' true) (uz obj) (nZ l row) ⟨rfl,rfl,.refl _⟩ rfl fun Zr B sg=>?_;have tw:=Array.perm_iff_toList_perm.mp B.pm;rw[rT]at tw
 have e:(arrOf Zr).toList=((arrOf Zr).toList.map yQ).map (fun a=>(Value.ref a,Value.ref a)):=by
  rw[zAr]
  conv=>lhs;rw[<-List.map_id (arrOf Zr).toList]
  refine List.map_congr_left fun z c6=>?_;obtain⟨a,ha,rfl⟩:=zA5.mp (tw.mem_iff.mp c6);rfl
 have pm:((arrOf Zr).toList.map yQ).Perm l:=by
  have:=tw.map yQ;rw[zAr]at this;rw[show(yQ∘fun a=>(Value.ref a,Value.ref a))=id from rfl,List.map_id]at this;exact this
 generalize(arrOf Zr).toList.map yQ=l' at e pm;refine h Zr l' B.ok ?_ pm ?_
 .apply Array.toList_inj.mp;rw[Array.toList_map,e,zAr];rfl
 .have ka:=Srt.keys_perm (nZ l row) B.pm;have:=Srt.pw_of_seg ka (by rw[B.size];exact zA3 _) sg;rw[List.drop_zero,<-B.size,<-zA9,zAm,e,List.pairwise_map]at this;refine this.imp_of_mem fun{a b} ha hb hle=>?_;unfold Srt.leK at hle;rw[rW (pm.mem_iff.mp ha),rW (pm.mem_iff.mp hb)]at hle;exact hle
end
section
variable{X:Cx}
theorem o8:∀{l:List Addr} {us:List Value},Vals (l.map V.ref) us->us=l.map Value.ref
 |[],_,.nil=>rfl
 |a::l,_,.cons r t=>by
  rw[o8 t,show _=Value.ref a from r];rfl
theorem vD:∀(l:List Addr),Vals (l.map V.ref) (l.map Value.ref)
 |[]=>.nil
 |_::l=>.cons rfl (vD l)
theorem yR{α:Type}{R:α->α->Prop}:∀{l:List α},l.length<2->l.Pairwise R
 |[],_=>.nil
 |[_],_=>List.pairwise_singleton _ _
 |_::_::_,h=>absurd h Zy
theorem fP:fD X (.builtin "sorted") (fun xs H Q=>∃(p:Addr) (l:List Addr) (row:Addr->List Int),xs=[.ref p]/\SqL X.K H p (l.map V.ref)/\(∀a∈l,SqT X.K H a ((row a).map V.int)/\row a≠[]) /\
  ∀(q:Addr) (l':List Addr),H q=none->q≠sysModules->l'.Perm l->l'.Pairwise (fun a b=>HT.lexLt (row b) (row a)=false)->Q (.ref q) (upd H q (.lst (l'.map V.ref)))):=by
 intro Zt s σ H xs us Q I r h;obtain⟨p,l,row,rfl,hp,qS,q⟩:=h;obtain⟨u,rfl,ru⟩:=vals1 r;cases ru;obtain⟨Zs,rv,pl,hz⟩:=I.list hp;have ei:=o8 rv;subst ei
 have hlen:(l.map Value.ref).length<=sizeLine:=by
  rw[zA1]at hz⊢;exact hz
 have obj:∀a∈l,∃(us:List Value) (o:Obj) (n:Nat),s.heap.get? a=some o/\o.cls=.type "tuple"/\o.data=.seq us.toArray n/\Vals ((row a).map V.int) us/\row a≠[]:=fun a ha=>by
  obtain⟨ht,kX⟩:=qS a ha;obtain⟨as,ra,pa,_⟩:=I.tuple ht;obtain⟨oa,ga,ca,na,da⟩:=pa;exact⟨as,oa,na,ga,ca,da,ra,kX⟩
 refine Bx (R:=fun out=>∃l':List Addr,out=l'.map Value.ref/\l'.Perm l/\l'.Pairwise fun a b=>HT.lexLt (row b) (row a)=false) pl.isList hlen (fun hs=>⟨l,rfl,.refl _,?_⟩) (fun hb g kp=>?_) (fun out ⟨l',e,pm,_⟩=>by rw[e,zA1,zA1,pm.length_eq]) fun out ⟨l',e,pm,pw⟩ h2 c DS at2=>?_
 .rw[zA1]at hs;exact yR hs
 .have xA:∀a∈l,∃(us:List Value) (o:Obj) (n:Nat),g.get? a=some o/\o.cls=.type "tuple"/\o.data=.seq us.toArray n/\Vals ((row a).map V.int) us/\row a≠[]:=fun a ha=>by
   obtain⟨us,o,n,h1,h2⟩:=obj a ha;exact⟨us,o,n,kp _ _ h1,h2⟩
  refine By (s:={s with heap:=g}) xA (by rw[zA1]at hb;lia) ?_;refine⟨rfl,xx (s:={s with heap:=g}) xA fun st l' e1 e2 e3 e4=>⟨e1,l'.map Value.ref,e2,l',rfl,e3,e4⟩⟩
 .subst e;exact⟨.ref (s.heap.objs.size+1),_,I.laid (t':=s.toks) DS (Nat.le_succ _) (show ObjOk X.prog X.w _ h2 _ (.lst (l'.map V.ref))from⟨by rw[zA1,pm.length_eq];rw[zA1]at hz;exact hz,_,c,vD l',at2⟩),rfl,q _ l' (I.hok.fresh (Nat.le_succ _)) (Nat.ne_of_gt (zB5 I.big (Nat.le_succ _))) pm pw⟩
theorem ql:fD X (.builtin "sorted") (fun xs H Q=>∃(p:Addr) (l:List Addr) (row:Addr->List Int),xs=[.ref p]/\SqL X.K H p (l.map V.ref)/\(∀a∈l,SqT X.K H a ((row a).map V.int)/\row a≠[]) /\
  ∀(q:Addr) (l':List Addr),H q=none->l'.Perm l->l'.Pairwise (fun a b=>HT.lexLt (row b) (row a)=false)->Q (.ref q) (upd H q (.lst (l'.map V.ref)))):=by
 intro Zt s σ H xs us Q I r h;obtain⟨p,l,row,e,hp,qS,q⟩:=h;exact fP Zt s σ H xs us Q I r ⟨p,l,row,e,hp,qS,fun q' l' a _ b c=>q q' l' a b c⟩
end
theorem xF{M:Model}{A:Around}{E:Value->Shared->Prop}{s:Shared}{a b:Value}{Q:Value->Shared->Prop}(ha:s.TypeIs a "list")(hb:s.TypeIs b "list")(hc:wpAny M A (call (.builtin "list.__iadd__") [a,b]) Q E s):wpAny M A (inplaceOp .Add a b) Q E s:=by
 unfold inplaceOp;refine wpAny_holding ?_;have hl:typeLookup (.type "list") (dunderI "add")=pure (some (.builtin "list.__iadd__")):=F.slot_list_iadd.lookup
 have LB:fillsInplaceSlot (.type "list") "add" (Operator.Add==.Add)=pure false:=by
  unfold fillsInplaceSlot;show(typeLookup (.type "list") (dunderI "add")>>=fun fi=>pure (fi.isSome&&!isSeqSlot fi))=pure false;rw[hl];have:isSeqSlot (some (.builtin "list.__iadd__"))=true:=by decide +kernel
  show(pure (true&&!isSeqSlot (some (.builtin "list.__iadd__"))):Sem Bool)=_;rw[this];rfl
 have LC:seqSlot? (.type "list") (dunderI "add")=pure (some (.builtin "list.__iadd__")):=PySem.seqSlot_of F.slot_list_iadd.lookup Zv;refine zAu (wpAny_typeOf ha (zAu (wpAny_of_eq LB ?_)));show wpAny M A (if false=true then _ else _) Q E s;rw[zAv zAg];refine zAu (wpAny_binaryOp1_none (nm:="add") ha hb noFill_list_add ?_);refine zAu (wpAny_of_eq LC ?_);exact zAu (wpAny_rule hc)
inductive RICatI(x:V)(y:V)(H:Hp)(Q:VK):Prop
 |mk:∀l b xs zs,(x=.ref l)->(y=.ref b)->(H l=some (.lst xs))->(H b=some (.lst zs))->(xs.length+zs.length<=sizeLine)->(Q (.ref l) (upd H l (.lst (xs++zs))))->RICatI  x y H Q
def GX:TIp:=fun x y H Q=>RICatI  x y H Q
theorem qm{X:Cx}:PIp X .Add GX:=by
 intro Zt s σ H x y v u Q I rx ru h;obtain⟨l,b,xs,zs,rfl,rfl,hH,hB,hz,q⟩:=h;cases rx;cases ru;obtain⟨z,Zs,n,r,hl,e⟩:=I.lstM hH;obtain⟨z2,br,n2,r2,iO,e2⟩:=I.lstM hB;have hsz:Zs.toArray.size+br.toArray.size<=sizeLine:=by rw[zA8,zA8];lia
 have eM:¬(!Zs.toArray.isEmpty&&Builtin.List.listTooLong (Zs.toArray.size+br.toArray.size))=true:=by
  rw[lu hsz,Bool.and_false];exact zAg
 refine xF ⟨_,e,rfl⟩ ⟨_,e2,rfl⟩ (call_meets F.slot_list_iadd ⟨_,e,rfl⟩ F.entry_list_iadd (F.args_list_iadd_2 _ _)
  (AutoSeq1.list___iadd___list_list_0 l Zs.toArray n b br.toArray n2 eM (by rw[zA8];lia) Zz) ⟨e,e2,?_⟩)
 refine⟨.ref l,_,I.lset (its':=Zs++br) hH e Zy (r.append r2) ?_,rfl,q⟩;rw[zA2];lia
open PySem PySem.Spec PyProof.Rows PySem.SeqAt
theorem Fg{X:Cx}{S:Addr->Prop}(hu:X.A.units+64<cLine):OpR X (compareOp .NotEq) (fun x y H Q=>∃d,IsTh S H x d/\IsTh S H y d/\shaped d=true/\noMix d d=true/\Q (.bl false) H):=by
 intro Zt s σ H x y v u Q I rx ry h;obtain⟨d,t1,t2,sh,nm,q⟩:=h;obtain⟨as,r1,_⟩:=t1.reads I rx;obtain⟨bs,r2,_⟩:=t2.reads I ry;refine ne_dataH_same r1 r2 sh sh hu nm ⟨.bl false,H,I,?_,q⟩;rw[Spec.same_self];rfl
theorem rY{M:Model}{A:Around}{Q:Value->Shared->Prop}{E:Value->Shared->Prop}{s:Shared}(h:wpAny M A (newList []) Q E s):wpAny M A (newList []) (fun v s'=>v=.ref s.heap.objs.size/\Q v s') E s:=by
 intro Γ p fE;exact⟨rfl,h Γ p fE⟩
def Fi(wi:TI)(src:List (Option Nat))(g:TG)(tt:TT)(te:TE):TE:=fun σ H Q=>wi σ H fun J H1=>jO J g tt te (fun ys H'=>∀D,H' D=none->D≠sysModules->Q (.ref D) (upd H' D (.lst ys))) (capσ σ src) H1
section
variable{X:Cx}{tg iter elt:Expr}{ifs:List Expr}{scope:Scope}{pos:Pos}{Nc:List Str}{wi:TI}{g:TG}{tt:TT}{te:TE}
theorem yS(Nc:List Str)(src:List (Option Nat))(hc:X.calm=true)(hi:PI X tg iter wi)
  (hb:∀C fp Zt s₂ H₂,PG (cxC X scope Nc C fp Zt s₂ H₂) tg g/\PTs (cxC X scope Nc C fp Zt s₂ H₂) ifs tt/\PE (cxC X scope Nc C fp Zt s₂ H₂) elt te)
  (cm:∀C,Caps X (compEnvC scope (fu X.env.cells scope.names []) C X.env) Nc src) (S:CScope X scope)
  (hs:∀x,foldedSetIterable iter X.env x=pure x:=by intro _;rfl):PE X (.ListComp elt [⟨tg,iter,ifs,0⟩] scope pos) (Fi wi src g tt te):=by
 intro Zt s σ H Q I h;rw[eval_ListComp];refine wpAny_comprehension_free (use:=none) rfl hs (pJ S.hfree) S.kind S.hnames ?_;refine thn (hi Zt s σ H _ I h) fun v s1 h1=>thn h1 fun vj s2 h2=>?_;obtain⟨it,fp,tn,J,H2,e,I2,T,st2,f2,hW⟩:=h2;subst e;have big:=I2.big
 have key:=rY (ju (iter:=iter) (pos:=pos) (E:=X.xe) (RR:=fun acc C r s'=>acc≠.ref sysModules->compPost (model X.prog X.w) X.A X.xe none (EP X Zt σ Q) acc C r s') hc S cm hb I2 T st2 f2 hW (fun D C s' ys H' m fin nD J' hn fC ne=>by
  obtain⟨f0,f1,_,f3,f4,f5⟩:=fC;refine⟨m,hn,fun IG iX=>?_⟩
  exact⟨.ref D,_,J'.turned (t':=s'.toks) (fun b o hb e=>iX.extBut b o hb e) f0 f1 f3 f4 f5,rfl,fin D nD fun z=>ne (by rw[z])⟩))
 refine wpAny_mono key (fun acc s3 ⟨ea,hq⟩=>?_) fun _ _ x=>x
 have ne:acc≠.ref sysModules:=fun z=>by
  rw[ea]at z;injection z with z;exact absurd z (Nat.ne_of_gt big)
 have er:(fun(C:Addr) (r:Result) (s':Shared)=>acc≠.ref sysModules->compPost (model X.prog X.w) X.A X.xe none (EP X Zt σ Q) acc C r s')=compPost (model X.prog X.w) X.A X.xe none (EP X Zt σ Q) acc:=by
  funext C r s';exact propext ⟨fun z=>z ne,fun z _=>z⟩
 have Jf:=hq;simp only[ne,ne_eq,not_false_eq_true,forall_const]at Jf;exact Jf
end
section
variable{prog:Program}{w:World}{A:Around}{E:Value->Shared->Prop}{s:Shared}{d it:Addr}{o:Obj}{es:Array DictEntry}{ep i:Nat}
end
theorem KT.len{H:Hp}:∀{kvs:List (List Key×V)} {xs:List (List Key×Addr×Value)},KT H kvs xs->xs.length=kvs.length
 |_,_,.nil=>rfl
 |_,_,.cons _ t=>by rw[zAe,zAe,KT.len t]
section
variable{X:Cx}{tg:Expr}
end
section
variable{prog:Program}{w:World}{K:Type}[DecidableEq K]{knd:HeapKind prog w K}{A:Around}{E:Value->Shared->Prop}{s:Shared}
end
section
variable{prog:Program}{w:World}{K:Type}[DecidableEq K]{knd:KeyKind prog w K}{A:Around}{E:Value->Shared->Prop}{s:Shared}
end
section
variable{X:Cx}
theorem KT.keys{H:Hp}:∀{kvs:List (List Key×V)} {xs:List (List Key×Addr×Value)},KT H kvs xs->xs.map (·.1)=kvs.map (·.1)
 |_,_,.nil=>rfl
 |_,_,.cons r t=>by rw[zAk,zAk,KT.keys t,r.1]
end
section
variable{prog:Program}{w:World}{KK:Type}[DecidableEq KK]{knd:HeapKind prog w KK}{A:Around}{E:Value->Shared->Prop}{s:Shared}
theorem uA{nm:String}{a b:Addr}{xs ys:List (KK×Addr×Value)}{Q:Bool->Shared->Prop}(na:(a==sysModules)=false)(nb:(b==sysModules)=false)(da:s.heap.DictOfH knd a xs)(db:s.heap.DictOfH knd b ys)(hu:knd.room A)(hl:xs.length=ys.length)
  (hit:∀x∈xs,∃(j:Nat) (p:Addr×Value),ys[j]?=some (x.1,p)/\EqAt A s x.2.2 p.2 true) (q:Q true s):wpAny (model prog w) A (Builtin.Dict.samePairs nm a b) Q E s:=by
 obtain⟨oa,ea,pa,ga,_,ta,la,ia,_⟩:=da;obtain⟨ob,eb,pb,gb,_,tb,lb,ib,nd⟩:=db;have za:=size_of_entries la;have zb:=size_of_entries lb;unfold Builtin.Dict.samePairs Builtin.Dict.showsAll;rw[if_neg (by rw[na];decide),if_neg (by rw[nb];decide)];refine wpAny_bind (wpAny_pure (wpAny_bind (wpAny_pure (wpAny_bind (wpAny_dictEntries ga ta ?_)))));dsimp only;refine wpAny_bind (wpAny_dictEntries gb tb ?_);rw[if_neg (by rw[za,zb,hl];simp)];refine wpAny_bind (wpAny_dictEpoch ga ta (wpAny_bind ?_));rw[Std.Legacy.Range.forIn_eq_forIn_range'];simp only[Std.Legacy.Range.size,Nat.sub_zero,Nat.add_sub_cancel,Nat.div_one];refine wpAny_forIn_list _ (fun rest r s'=>s'=s/\r=(none,())/\∃i,rest=List.range' i (ea.size-i)/\i<=ea.size) _ ?_ ?_ _ _ ⟨rfl,rfl,0,by simp,Nat.zero_le _⟩
 .rintro x rest r s' ⟨rfl,rfl,i,er,hi⟩
  have ax:i<ea.size:=by
   rcases Nat.lt_or_ge i ea.size with z|z
   .exact z
   .rw[Nat.sub_eq_zero_of_le z]at er;simp at er
  rw[show ea.size-i=(ea.size-(i+1))+1 by lia,List.range'_succ]at er;injection er with e1 e2;subst e1;have hx:x<xs.length:=Zz
  have ee:ea[x]?=some (entryOfKey knd xs[x]):=by rw[entry_at la,zA0 hx];rfl
  refine zAu (wpAny_dictEntries ga ta ?_);rw[ee];obtain⟨j,p,ej,eq⟩:=hit _ (zAh hx);show wpAny _ _ (holding [(entryOfKey knd xs[x]).key,(entryOfKey knd xs[x]).val] _>>=_) _ _ _;refine zAu (wpAny_holding (zAu (wpAny_dictFind_heap hu (ia _ (zAh hx)) gb tb lb ib nd (fun z=>(z j p ej).elim) fun j' p' LD=>?_)));have:j'=j:=idxH_unique nd LD ej;subst this;refine zAu (wpAny_dictEntries gb tb ?_);have LF:eb[j']?=some (entryOfKey knd (xs[x].1,p)):=by rw[entry_at lb,ej];rfl
  rw[LF];refine wpAny_holding (eq prog w _ _ ?_);show wpAny _ _ (if(!true)=true then _ else _) _ _ _;rw[if_neg Zx];refine wpAny_bind (wpAny_dictEpoch ga ta ?_);rw[if_neg Zy];exact wpAny_pure ⟨rfl,rfl,x+1,e2,ax⟩
 .rintro r s' ⟨rfl,rfl,_⟩;exact zB0 q
end
theorem o9{KK:Type}[DecidableEq KK]{k:KK}{p:Addr×Value}:∀{xs:List (KK×Addr×Value)},atKey xs k=some p->∃j:Nat,xs[j]?=some (k,p)
 |[],h=>by simp[atKey]at h
 |x::xs,h=>by
  by_cases e:x.1=k
  .refine⟨0,?_⟩;unfold atKey at h;rw[List.find?_cons_of_pos (p:=fun(x:KK×Addr×Value)=>decide (x.1=k)) (decide_eq_true e)]at h;have h:x.2=p:=by simpa using h
   rw[List.getElem?_cons_zero,<-e,<-h]
  .unfold atKey at h;rw[List.find?_cons_of_neg (p:=fun(x:KK×Addr×Value)=>decide (x.1=k)) (by simpa using e)]at h;obtain⟨j,ej⟩:=o9 (xs:=xs) h;exact⟨j+1,by rw[List.getElem?_cons_succ];exact ej⟩
inductive REqTI(x:V)(y:V)(H:Hp)(Q:VK):Prop
 |mk:∀a b ka kb,(x=.ref a)->(y=.ref b)->(H a=some (.dT ka))->(H b=some (.dT kb))->(((ka.map (·.1)).Nodup->(kb.map (·.1)).Nodup->ka.length=kb.length))->((∀k v,bZ ka k=some v->∃n:Int,v=.int n/\bZ kb k=some v))->(Q (.bl true) H)->REqTI  x y H Q
def J1:R2:=fun x y H Q=>REqTI  x y H Q
theorem Fj{X:Cx}(hu:X.A.units+1<cLine):OpR X (compareOp .Eq) J1:=by
 intro Zt s σ H x y v u Q I rx ry h;obtain⟨a,b,ka,kb,rfl,rfl,ea,eb,hl,hv,q⟩:=h;cases rx;cases ry;obtain⟨_,na,xs,ra,da⟩:=v8 I.hok ea;obtain⟨_,nb,ys,rb,db⟩:=v8 I.hok eb
 have nd:(xs.map (·.1)).Nodup:=by
  obtain⟨_,_,_,_,_,_,_,_,nd⟩:=id da;exact nd
 have nd2:(ys.map (·.1)).Nodup:=by
  obtain⟨_,_,_,_,_,_,_,_,nd⟩:=id db;exact nd
 have hl:=hl (by rw[<-KT.keys ra];exact nd) (by rw[<-KT.keys rb];exact nd2);refine wpAny_richCompare_same_room (op:=.Eq) da.typeIs db.typeIs PySem.F.slot_dict_eq (wpAny_call_entry PySem.F.slot_dict_eq da.typeIs PySem.F.entry_dict_eq ?_ (PySem.F.args_dict_eq_2 _ _)) Zz;show wpAny _ _ (Builtin.Dict.dictSlotArgs "__eq__" ⟨[.ref a,.ref b],[]⟩>>=_) _ _ s;unfold Builtin.Dict.dictSlotArgs;refine wpAny_bind (wpAny_bind (wpAny_notOrdered_dict da.typeIs (show wpAny _ _ (pure (Value.ref a,Value.ref b)) _ _ s from wpAny_pure (wpAny_bind (wpAny_isInstance (T:="dict") db.typeIs PySem.F.sub_dict_dict ?_)))));simp only[Bool.not_true,if_neg Bool.false_ne_true]
 have hit:∀x∈xs,∃(j:Nat) (p:Addr×Value),ys[j]?=some (x.1,p)/\EqAt X.A.in1 s x.2.2 p.2 true:=fun x hx=>by
  obtain⟨i,hi,ex⟩:=List.getElem_of_mem hx;have e1:=atKey_of_get nd (i:=i) (k:=x.1) (p:=x.2) (by rw[zA0 hi,ex]);have r1:=ra.val x.1;rw[e1]at r1
  cases ev:bZ ka x.1 with
  |none=>
   rw[ev]at r1;exact r1.elim
  |some v=>
   rw[ev]at r1;obtain⟨n,rfl,e2⟩:=hv _ _ ev;have r2:=rb.val x.1;rw[e2]at r2
   cases ep:atKey ys x.1 with
   |none=>
    rw[ep]at r2;exact r2.elim
   |some p=>
    rw[ep]at r2;obtain⟨j,ej⟩:=o9 ep
    obtain⟨t1,w1⟩:=(show ∃t,x.2.2=.int n t from r1)
    obtain⟨t2,w2⟩:=(show ∃t,p.2=.int n t from r2)
    refine⟨j,p,ej,?_⟩;rw[w1,w2];have:=EqAt.int_int (A:=X.A.in1) (s:=s) n t1 n t2;rw[beq_self_eq_true]at this;exact this
 refine zAu (zB0 (zAu (zB0 (zAu (uA na nb da db (tupleKind_room_in1 hu) ?_ hit ?_)))))
 .rw[<-ra.length,<-rb.length];exact hl
 .exact zB0 ⟨_,rfl,(fun x=>nomatch x),(⟨.bl true,H,I,rfl,q⟩:EP X Zt σ Q (Value.bool true) s)⟩
end L2
namespace L2.DI
open PySem PySem.Spec PyProof.Rows PySem.Calls PySem.W
abbrev Ii(h:Heap)(it d:Addr)(r b:Value)(i n ep:Nat)(ok ov:Value):Prop:=
 h.get? it=some {cls:=.type "dict_itemiterator",dict:=none,data:=.fields #[r,b,.ref d,.int i 0,.int n 0,.int ep 0,ok,ov],slots:=#[]}
section
variable{prog:Program}{w:World}{A:Around}{E:Value->Shared->Prop}{s:Shared}{it d:Addr}{r b ok ov:Value}{od:Obj}{es:Array DictEntry}{e:DictEntry}{i ep:Nat}
theorem yU{Q:Option Value->Shared->Prop}{p:Addr}(hit:Ii s.heap it d r b i es.size ep ok ov)(g1:s.heap.get? d=some od)(g3:od.data=.dict es ep)(hx:es[i]?=some e)
  (q:∀h₁,Ii h₁ it d r b (i+1) es.size ep ok ov->Heap.SameBut it s.heap h₁->∀(R:Value->Shared->Prop) (E':Value->Shared->Prop),(∀s',Q (some (.ref p)) s'->R (.ref p) s')->
   wpAny (model prog w) A.in1 (Builtin.Dict_items.pairFromOwner (.ref it) 6 e.key e.val) R E' {s with heap:=h₁}):wpAny (model prog w) A (pyNext (.ref it)) Q E s:=by
 have ty:s.TypeIs (.ref it) "dict_itemiterator":=⟨_,hit,rfl⟩
 have ow:Builtin.Dict_items.ownsTuple "dict_itemiterator"=true:=by decide
 unfold pyNext;refine wpAny_bind (wpAny_attempt (wpAny_callSpecial?_slot (name:=Str.ofString "__next__") ty PySem.F.slot_dict_itemiterator_next (wpAny_call_entry PySem.F.slot_dict_itemiterator_next ty PySem.F.entry_dict_itemiterator_next ?_ (PySem.F.args_dict_itemiterator_next_1 _))));refine wpAny_bind (wpAny_pure (wpAny_bind (wpAny_bind (wpAny_bind (wpAny_typeNameOfWhole_itemiter ty (wpAny_pure (wpAny_bind (wpAny_fieldsOf hit rfl ?_))))))));simp only[ow,if_true];show wpAny (model prog w) A.in1 (if(Value.ref d==Value.none)=true then _ else _) _ _ s;rw[if_neg (show¬(Value.ref d==Value.none)=true from zAg)];refine wpAny_bind (wpAny_pure (wpAny_bind (wpAny_dictEntries g1 g3 ?_)));rw[if_neg Zy];refine wpAny_bind (wpAny_pure (wpAny_bind (wpAny_dictEpoch g1 g3 ?_)));rw[if_neg Zy];refine wpAny_pure ?_;simp only[show¬((i:Int)<0)from by lia,if_false,Int.toNat_natCast,hx];refine wpAny_bind (wpAny_bind (wpAny_typeNameOfWhole_itemiter ty (wpAny_pure (wpAny_bind (wpAny_isOneOf_itemiter ty ?_)))));show wpAny (model prog w) A.in1 (setField (.ref it) 3 (rawInt ((i:Int)+1))>>=_) _ _ s;refine wpAny_bind (wpAny_setField_rec hit Zy fun h₁ ff sb=>?_)
 have ff:Ii h₁ it d r b (i+1) es.size ep ok ov:=by
  have e:((i+1:Nat):Int)=(i:Int)+1:=Zz
  unfold Ii;rw[e];simpa[rawInt]using ff
 have nB:Shared.TypeIs {s with heap:=h₁} (.ref it) "dict_itemiterator":=⟨_,ff,rfl⟩
 refine zAu (wpAny_holding (zAu (wpAny_isOneOf_itemiter nB (zAu (wpAny_isOneOf_itemiter nB ?_)))));exact q h₁ ff sb _ _ fun s' z=>zB0 ⟨_,rfl,zB0 z⟩
def St(h:Heap)(it d S:Addr)(i n ep:Nat):Prop:=
 (i=0/\∃ok ov,Ii h it d .none (.bool false) 0 n ep ok ov)\/∃(ok ov:Value) (a:Addr) (f:Bool) (oa:Obj),Ii h it d (rawInt a) (.bool f) i n ep ok ov/\h.get? a=some oa/\a≠it/\a≠S
theorem St.keep{h h':Heap}{S:Addr}{n:Nat}(x:St h it d S i n ep)(hk:∀b o,b≠S->h.get? b=some o->h'.get? b=some o)(hI:it≠S):St h' it d S i n ep:=by
 rcases x with⟨z,ok,ov,hit⟩|⟨ok,ov,a,f,oa,hit,ha,tF,AX⟩
 .exact .inl ⟨z,ok,ov,hk _ _ hI hit⟩
 .exact .inr ⟨ok,ov,a,f,oa,hk _ _ hI hit,hk _ _ AX ha,tF,AX⟩
abbrev lW(e:DictEntry):Obj:={cls:=.type "tuple",data:=.seq #[e.key,e.val]}
theorem BJ{S:Addr}{Q:Option Value->Shared->Prop}(st:St s.heap it d S i es.size ep)(hS:S<s.heap.objs.size)(g1:s.heap.get? d=some od)(g3:od.data=.dict es ep)(hx:es[i]?=some e)
  (q:∀h',St h' it d S (i+1) es.size ep->h'.get? s.heap.objs.size=some (lW e)->h'.objs.size=s.heap.objs.size+1->(∀b o,b≠it->s.heap.get? b=some o->h'.get? b=some o)->Q (some (.ref s.heap.objs.size)) {s with heap:=h'}):
  wpAny (model prog w) A (pyNext (.ref it)) Q E s:=by
 have go:∀{r b ok ov:Value} {h₁:Heap},Ii h₁ it d r b (i+1) es.size ep ok ov->Heap.SameBut it s.heap h₁->it<s.heap.objs.size/\h₁.objs.size=s.heap.objs.size/\Ii (h₁.push (lW e)) it d r b (i+1) es.size ep ok ov /\
   (h₁.push (lW e)).get? s.heap.objs.size=some (lW e)/\(h₁.push (lW e)).objs.size=s.heap.objs.size+1/\∀b o,b≠it->s.heap.get? b=some o->(h₁.push (lW e)).get? b=some o:=fun{r b ok ov h₁} z sb=>by
  have l:it<h₁.objs.size:=zAz z;refine⟨by rw[<-sb.1];exact l,sb.1,zAy _ z,?_,by rw[Heap.size_push,sb.1],fun b o n x=>zAy _ (sb.extBut b o n x)⟩;rw[<-sb.1];exact zB1 _ rfl
 rcases st with⟨z,ok,ov,hit⟩|⟨ok,ov,a,f,oa,hit,ha,tF,AX⟩
 .subst z;refine yU (p:=s.heap.objs.size) hit g1 g3 hx fun h₁ ff sb R E' hR=>?_;obtain⟨l,zs,c8,jI,jS,k₂⟩:=go ff sb;unfold Builtin.Dict_items.pairFromOwner;refine wpAny_bind (wpAny_newTuple ?_);show wpAny (model prog w) A.in1 (Builtin.Dict_items.ownedTupleIsFree (.ref it)>>=_) _ _ {s with heap:=h₁.push (lW e)};rw[show(Shared.heap {s with heap:=h₁}).objs.size=s.heap.objs.size from zs];generalize h₁.push (lW e)=cb at c8 jI jS k₂⊢;refine wpAny_bind ?_;unfold Builtin.Dict_items.ownedTupleIsFree;refine wpAny_bind (wpAny_field c8 rfl (x:=.none) rfl (wpAny_pure ?_));simp only[if_true];refine wpAny_bind (wpAny_field c8 rfl (x:=ok) rfl (wpAny_bind (wpAny_field c8 rfl (x:=ov) rfl (wpAny_bind (wpAny_setField_rec c8 Zy fun bP fR s₃=>?_)))))
  replace fR:Ii bP it d .none (.bool false) (0+1) es.size ep e.key ov:=fR
  refine wpAny_bind (wpAny_setField_rec fR Zy fun qa qV fA=>?_)
  replace qV:Ii qa it d .none (.bool false) (0+1) es.size ep e.key e.val:=qV
  refine wpAny_bind (wpAny_setField_rec qV Zy fun qf rf iP=>?_)
  replace rf:Ii qf it d (rawInt s.heap.objs.size) (.bool false) (0+1) es.size ep e.key e.val:=rf
  refine wpAny_bind (wpAny_setField_rec rf Zy fun rg rh xB=>?_)
  replace rh:Ii rg it d (rawInt s.heap.objs.size) (.bool false) (0+1) es.size ep e.key e.val:=rh
  have up:∀b o,b≠it->cb.get? b=some o->rg.get? b=some o:=fun b o n x=>xB.extBut b o n (iP.extBut b o n (fA.extBut b o n (s₃.extBut b o n x)));have xC:=up _ _ (Nat.ne_of_gt l) jI;refine zAu (wpAny_letGo (zB0 (hR _ (q rg (.inr ⟨_,_,s.heap.objs.size,false,_,rh,xC,Nat.ne_of_gt l,Nat.ne_of_gt hS⟩) xC ?_ fun b o n x=>up b o n (k₂ b o n x)))));rw[xB.1,iP.1,fA.1,s₃.1,jS]
 .refine yU (p:=s.heap.objs.size) hit g1 g3 hx fun h₁ ff sb R E' hR=>?_;obtain⟨l,zs,c8,jI,jS,k₂⟩:=go ff sb;unfold Builtin.Dict_items.pairFromOwner;refine wpAny_bind (wpAny_newTuple ?_);show wpAny (model prog w) A.in1 (Builtin.Dict_items.ownedTupleIsFree (.ref it)>>=_) _ _ {s with heap:=h₁.push (lW e)};rw[show(Shared.heap {s with heap:=h₁}).objs.size=s.heap.objs.size from zs];generalize h₁.push (lW e)=cb at c8 jI jS k₂⊢;refine wpAny_bind ?_;unfold Builtin.Dict_items.ownedTupleIsFree;refine wpAny_bind (wpAny_field c8 rfl (x:=rawInt a) rfl ?_);show wpAny (model prog w) A.in1 (loadIfAlive ((a:Int).toNat)>>=_) _ _ {s with heap:=cb};rw[zAi];refine wpAny_bind (kdx_alive (k₂ a oa tF ha) ?_);simp only[Option.isNone_some,Bool.false_eq_true,if_false];refine wpAny_bind (wpAny_field c8 rfl (x:=.bool f) rfl ?_)
  have fin:∀bP:Heap,Ii bP it d (rawInt a) (.bool true) (i+1) es.size ep ok ov->Heap.SameBut it cb bP->R (.ref s.heap.objs.size) {s with heap:=bP}:=fun bP fR s₃=>
   hR _ (q bP (.inr ⟨ok,ov,a,true,oa,fR,s₃.extBut _ _ tF (k₂ a oa tF ha),tF,AX⟩) (s₃.extBut _ _ (Nat.ne_of_gt l) jI) (by rw[s₃.1,jS]) fun b o n x=>s₃.extBut b o n (k₂ b o n x))
  cases f with
  |true=>
   rw[if_neg (show¬(Value.bool true != Value.bool true)=true from zAg)];refine wpAny_pure ?_;simp only[Bool.false_eq_true,if_false];exact wpAny_pure (fin cb c8 (Heap.SameBut.refl _ _))
  |false=>
   rw[if_pos (show(Value.bool false != Value.bool true)=true from rfl)];refine wpAny_bind (wpAny_setField_rec c8 Zy fun bP fR s₃=>wpAny_pure ?_);simp only[Bool.false_eq_true,if_false];exact wpAny_pure (fin bP fR s₃)
theorem lJ{S:Addr}{Q:Option Value->Shared->Prop}(hh:A.handled=none)(st:St s.heap it d S i es.size ep)(g1:s.heap.get? d=some od)(g3:od.data=.dict es ep)(hx:es.size<=i)
  (q:∀h',Heap.ExtBut it s.heap h'->Q none {s with heap:=h'}):wpAny (model prog w) A (pyNext (.ref it)) Q E s:=by
 obtain⟨r,b,ok,ov,hit⟩:∃r b ok ov,Ii s.heap it d r b i es.size ep ok ov:=by
  rcases st with⟨z,ok,ov,hit⟩|⟨ok,ov,a,f,oa,hit,_⟩
  .subst z;exact⟨_,_,ok,ov,hit⟩
  .exact⟨_,_,ok,ov,hit⟩
 have ty:s.TypeIs (.ref it) "dict_itemiterator":=⟨_,hit,rfl⟩
 have ow:Builtin.Dict_items.ownsTuple "dict_itemiterator"=true:=by decide
 unfold pyNext;refine wpAny_bind (wpAny_attempt (wpAny_callSpecial?_slot (name:=Str.ofString "__next__") ty PySem.F.slot_dict_itemiterator_next (wpAny_call_entry PySem.F.slot_dict_itemiterator_next ty PySem.F.entry_dict_itemiterator_next ?_ (PySem.F.args_dict_itemiterator_next_1 _))));refine wpAny_bind (wpAny_pure (wpAny_bind (wpAny_bind (wpAny_bind (wpAny_typeNameOfWhole_itemiter ty (wpAny_pure (wpAny_bind (wpAny_fieldsOf hit rfl ?_))))))));simp only[ow,if_true];show wpAny (model prog w) A.in1 (if(Value.ref d==Value.none)=true then _ else _) _ _ s;rw[if_neg (show¬(Value.ref d==Value.none)=true from zAg)];refine wpAny_bind (wpAny_pure (wpAny_bind (wpAny_dictEntries g1 g3 ?_)));rw[if_neg Zy];refine wpAny_bind (wpAny_pure (wpAny_bind (wpAny_dictEpoch g1 g3 ?_)));rw[if_neg Zy];refine wpAny_pure ?_;simp only[show¬((i:Int)<0)from by lia,if_false,Int.toNat_natCast,Array.getElem?_eq_none hx];refine wpAny_bind (wpAny_bind (wpAny_typeNameOfWhole_itemiter ty (wpAny_pure ?_)));show wpAny (model prog w) A.in1 (setField (.ref it) 2 .none>>=_) _ _ s;refine wpAny_bind (wpAny_setField hit rfl Zy ?_);show wpAny (model prog w) A.in1 (newExc (.type "StopIteration") []>>=_) _ _ _;refine wpAny_bind ?_;simp only[newExc,newTuple];refine wpAny_bind (wpAny_newObj_type (wpAny_bind (m:=firstArgMember _ _) (wpAny_of_eq (a:=Value.none) (by first|rfl | (simp only[firstArgMember];rfl)) ?_)) (by size_fits));refine wpAny_newObj_type ?_ (by size_fits);simp only[raiseNew];refine wpAny_bind (wpAny_handled ?_);rw[show A.in1.handled=none from hh];refine wpAny_bind (wpAny_pure (wpAny_throw ?_));refine wpAny_bind (wpAny_isInstance (b:=true) (T:="StopIteration") ⟨_,Heap.get?_push_size _ rfl,rfl⟩ isSubtype_stop ?_);exact wpAny_pure (q _ (((Heap.SameBut.update ..).extBut.push _).push _))
end
structure G(es:Array DictEntry)(lo:Addr)(h:Heap)(as:List Addr):Prop where
 rise:as.Pairwise (· < ·)
 above:∀a∈as,lo<a
 pairs:∀(j:Nat) (a:Addr),as[j]?=some a->∃e,es[j]?=some e/\h.get? a=some (lW e)
section
variable{prog:Program}{w:World}{A:Around}{s:Shared}{R:Result->Shared->Prop}{od:Obj}{es:Array DictEntry}{ep:Nat}{S I d:Addr}
theorem iter{v:Addr}{Q E:Value->Shared->Prop}(hv:s.heap.IsItemsView v d)(g1:s.heap.get? d=some od)(g3:od.data=.dict es ep)
  (q:Q (.ref s.heap.objs.size) {s with heap:=s.heap.push {cls:=.type "dict_itemiterator",data:=.fields #[.none,.bool false,.ref d,.int 0 0,.int es.size 0,.int ep 0,.none,.none]}}):wpAny (model prog w) A (pyIter (.ref v)) Q E s:=by
 obtain⟨o,e1,e2,e3⟩:=id hv;have ow:Builtin.Dict_items.ownsTuple "dict_itemiterator"=true:=by decide
 refine wpAny_pyIter_slot hv.typeIs PySem.F.slot_dict_items_iter (wpAny_call_entry PySem.F.slot_dict_items_iter hv.typeIs PySem.F.entry_dict_items_iter ?_ (PySem.F.args_dict_items_iter_1 _));unfold Builtin.«dict_items.__iter__» Builtin.Dict_items.dictOf Builtin.Dict_items.newIterator;refine wpAny_bind (wpAny_pure (wpAny_bind (wpAny_bind (wpAny_field e1 e3 (x:=.ref d) rfl (wpAny_pure (wpAny_bind (wpAny_bind (wpAny_dictEntries g1 g3 (wpAny_bind (wpAny_dictEpoch g1 g3 ?_))))))))));simp only[ow,if_true]
 refine wpAny_newObj_type (zB0 ⟨_,rfl,"dict_itemiterator",_,⟨_,zB1 _ rfl,rfl⟩,PySem.F.slot_dict_itemiterator_next.lookup,?_⟩)
  (by simp only[sizeOk,Builtin.Dict_items.ownedTupleFields,List.size_toArray,List.length_append,List.length_cons,List.length_nil,sizeLine_eq];lia)
 simpa[rawInt,Builtin.Dict_items.ownedTupleFields]using q
theorem loop(hh:A.handled=none)(Jg:S<I)(dS:d≠S)(dI:d≠I)(g3:od.data=.dict es ep)(hn:es.size<=sizeLine)(res:Value){h₁:Heap}
  (hR:∀h' tk acc c as,(∀b o,b≠S->b≠I->h₁.get? b=some o->h'.get? b=some o)->h'.get? S=some {cls:=.type "list",dict:=none,data:=.seq acc c,slots:=#[]}->as.length=es.size->G es I h' as->
   acc.toList=as.map Value.ref->R (.ok (.ret res)) {s with heap:=h',toks:=tk}):
  ∀(k i:Nat) (h:Heap) (tk c:Nat) (acc:Array Value) (as:List Addr),es.size-i=k->i<=es.size->St h I d S i es.size ep->h.get? d=some od->(∀b o,b≠S->b≠I->h₁.get? b=some o->h.get? b=some o)->
   h.get? S=some {cls:=.type "list",dict:=none,data:=.seq acc c,slots:=#[]}->acc.toList=as.map Value.ref->as.length=i->G es I h as->I<h.objs.size->
   codeAny (model prog w) A (.builtin "list.extend.loop" ⟨[.ref S,.ref I,res],[]⟩) R {s with heap:=h,toks:=tk}:=by
 have ne:S≠I:=zB3 Jg;intro k
 induction k with
 |zero=>
  intro i h tk c acc as hk hi st g1 kp eS ea la g lI;refine codeAny_builtin PySem.F.entry_extend_loop ?_;rw[Around.under_plainId PySem.F.plain_extend_loop _];show wpAny (model prog w) A.in1 (pyNext (.ref I)>>=_) _ _ _;refine zAu (lJ (s:={s with heap:=h,toks:=tk}) (A:=A.in1) hh st g1 g3 Zz fun h' x=>zB0 (hR h' tk acc c as (fun b o n1 n2 e=>x b o n2 (kp b o n1 n2 e)) (x S _ ne eS) Zz ⟨g.rise,g.above,fun j a hj=>?_⟩ ea));obtain⟨e,x1,x2⟩:=g.pairs j a hj;exact⟨e,x1,x a _ (Nat.ne_of_gt (g.above a (zB9 hj))) x2⟩
 |succ k ih=>
  intro i h tk c acc as hk hi st g1 kp eS ea la g lI;have ax:i<es.size:=Zz
  have hx:es[i]?=some es[i]:=Array.getElem?_eq_getElem ax;have xE:acc.size=i:=by rw[<-zA9,ea,zA1,la]
  have lS:S<h.objs.size:=Heap.lt_size eS;refine codeAny_builtin PySem.F.entry_extend_loop ?_;rw[Around.under_plainId PySem.F.plain_extend_loop _];show wpAny (model prog w) A.in1 (pyNext (.ref I)>>=_) _ _ _;refine wpAny_bind (BJ (s:={s with heap:=h,toks:=tk}) (S:=S) st lS g1 g3 hx fun h' Zr ht hz xI=>?_);dsimp only at ht hz xI⊢;have AY:=xI S _ ne eS;have up:∀b o,b≠S->h'.get? b=some o->(h'.update S (Obj.mapSeq (·.push (Value.ref h.objs.size)))).get? b=some o:=fun b o n e=>(Heap.get?_update_other _ _ (Ne.symm n)).trans e;have hN:=up _ _ (Nat.ne_of_gt lS) ht;show wpAny (model prog w) A.in1 (updateSeq S (·.push (Value.ref h.objs.size))>>=_) _ _ _
  refine zAu (wpAny_updateSeq AY rfl (zB0 ⟨plainId_quiet PySem.F.plain_extend_loop _,ih (i+1) _ tk _ (acc.push (Value.ref h.objs.size)) (as++[h.objs.size]) Zz ax (Zr.keep up (Ne.symm ne)) (up d _ dS (xI d _ dI g1))
   (fun b o n1 n2 e=>up b o n1 (xI b o n2 (kp b o n1 n2 e))) (Heap.get?_update_self _ AY rfl) (by rw[Array.toList_push,ea,zA4];rfl) (by rw[zA2,la];rfl) ⟨?_,?_,?_⟩ (Nat.lt_trans lI (zAz hN))⟩) (by rw[xE];lia) (by show(acc.push (Value.ref h.objs.size)).size<=sizeLine+1;rw[Array.size_push,xE];lia))
  .refine List.pairwise_append.mpr ⟨g.rise,List.pairwise_singleton _ _,fun a ha b hb=>?_⟩;obtain⟨j,hj⟩:=List.mem_iff_getElem?.mp ha;obtain⟨e,_,x2⟩:=g.pairs j a hj;rw[List.mem_singleton.mp hb];exact zAz x2
  .intro a ha;rcases zA6.mp ha with ha|ha
   .exact g.above a ha
   .rw[List.mem_singleton.mp ha];exact lI
  .intro j b hj;by_cases h1:j<as.length
   .rw[zBb h1]at hj;obtain⟨e,x1,x2⟩:=g.pairs j b hj;have hb:=g.above b (zB9 hj);exact⟨e,x1,up b _ (Nat.ne_of_gt (Nat.lt_trans Jg hb)) (xI b _ (Nat.ne_of_gt hb) x2)⟩
   .rw[List.getElem?_append_right Zz]at hj;obtain⟨h2,h3⟩:=zAa.mp hj;have e0:j-as.length=0:=by simpa using h2
    have e1:j=i:=Zz
    subst e1;simp only[e0,List.getElem_cons_zero]at h3;subst h3;exact⟨_,hx,hN⟩
theorem ext{r:Addr}(hh:A.handled=none)(hv:s.heap.IsItemsView r d)(g1:s.heap.get? d=some od)(g3:od.data=.dict es ep)(hn:es.size<=sizeLine)(Sr:S≠r)(dS:d≠S)(res:Value)(c₀:Nat)(eS:s.heap.get? S=some {cls:=.type "list",data:=.seq #[] c₀})
  (hR:∀h' tk acc c as,(∀b o,b≠S->s.heap.get? b=some o->h'.get? b=some o)->h'.get? S=some {cls:=.type "list",dict:=none,data:=.seq acc c,slots:=#[]}->as.length=es.size->G es s.heap.objs.size h' as->
   acc.toList=as.map Value.ref->R (.ok (.ret res)) {s with heap:=h',toks:=tk}):
  wpAny (model prog w) A.in1 (Builtin.List.listExtendWith (.ref S) (.ref r) res)
   (fun fin s'=>match fin with|.done f=>R (.ok f) s'|.again c'=>c'.quiet=true/\codeAny (model prog w) A c' R s') (fun e s'=>R (.error e) s') s:=by
 have lS:S<s.heap.objs.size:=zAz eS
 have go:∀(h:Heap) (c₁ tk:Nat),(∀b o,b≠S->(s.heap.push {cls:=.type "dict_itemiterator",data:=.fields #[.none,.bool false,.ref d,.int 0 0,.int es.size 0,.int ep 0,.none,.none]}).get? b=some o->h.get? b=some o)->
   h.get? S=some {cls:=.type "list",data:=.seq #[] c₁}->codeAny (model prog w) A (.builtin "list.extend.loop" ⟨[.ref S,.ref s.heap.objs.size,res],[]⟩) R {s with heap:=h,toks:=tk}:=by
  intro h c₁ tk hk fg;have hI:=hk s.heap.objs.size _ (Nat.ne_of_gt lS) (zB1 _ rfl)
  exact loop (s:=s) (h₁:=s.heap) hh lS dS (zB3 (zAz g1)) g3 hn res (fun h' tI acc c as x=>hR h' tI acc c as fun b o n e=>x b o n (zB3 (zAz e)) e)
   es.size 0 h tk c₁ #[] [] (Nat.sub_zero _) (zAp _) (.inl ⟨rfl,.none,.none,hI⟩) (hk d _ dS (zAy _ g1)) (fun b o n _ e=>hk b o n (zAy _ e)) fg rfl rfl
   ⟨List.Pairwise.nil,(fun _ ha=>nomatch ha),(fun j a hj=>by simp at hj)⟩ (Heap.lt_size hI)
 unfold Builtin.List.listExtendWith;refine wpAny_bind (wpAny_typeOf (T:="dict_items") hv.typeIs ?_);simp only[show Builtin.List.listSameRef (.ref S) (.ref r)=false by simp[Builtin.List.listSameRef,Sr],show(Value.type "dict_items"==Value.type "list")=false by decide,show(Value.type "dict_items"==Value.type "tuple")=false by decide,Bool.or_false,Bool.false_eq_true,if_false];have fg:=Heap.get?_push_of_some {cls:=.type "dict_itemiterator",data:=.fields #[.none,.bool false,.ref d,.int 0 0,.int es.size 0,.int ep 0,.none,.none]} eS;refine wpAny_bind (iter hv g1 g3 (wpAny_bind (wpAny_holding (kdx_hint (let⟨o,ho,hc,_⟩:=hv;⟨o,Heap.get?_push_of_some _ ho,hc⟩) ?_))));refine wpAny_ite_split (fun _=>?_) (fun _=>wpAny_pure ⟨plainId_quiet PySem.F.plain_extend_loop _,go _ c₀ _ (fun b o _ e=>e) fg⟩);refine wpAny_bind (wpAny_rule (wpAny_bind ?_));show wpAny (model prog w) A.in1 (updateSeq S (·.push .none)>>=fun _=>updateSeq S (·.pop)) _ _ _;refine wpAny_bind (wpAny_updateSeq fg rfl ?_);have fh:=Heap.get?_update_self (Obj.mapSeq (·.push Value.none)) fg rfl;refine wpAny_updateSeq (hz:=by seq_fits) fh rfl (wpAny_pure ⟨plainId_quiet PySem.F.plain_extend_loop _,go _ _ _ (fun b o n e=>?_) (Heap.get?_update_self (Obj.mapSeq (·.pop)) fh rfl)⟩);exact(Heap.get?_update_other _ _ (Ne.symm n)).trans ((Heap.get?_update_other _ _ (Ne.symm n)).trans e)
theorem GZ{r:Addr}{Q E:Value->Shared->Prop}(hh:A.handled=none)(hv:s.heap.IsItemsView r d)(g1:s.heap.get? d=some od)(g3:od.data=.dict es ep)(hn:es.size<=sizeLine)
  (hQ:∀h' tk acc c as,(∀b o,s.heap.get? b=some o->h'.get? b=some o)->h'.get? s.heap.objs.size=some {cls:=.type "list",dict:=none,data:=.seq acc c,slots:=#[]}->as.length=es.size->G es s.heap.objs.size h' as->
   acc.toList=as.map Value.ref->Q (.ref s.heap.objs.size) {s with heap:=h',toks:=tk}):wpAny (model prog w) A (call (.type "list") [.ref r]) Q E s:=by
 refine callType_codes (Q₁:=fun obj s₁=>obj=.ref s.heap.objs.size/\s₁={s with heap:=s.heap.push {cls:=.type "list",data:=.seq #[]}}) PySem.F.called_list (PySem.F.typeCall_list_1 _) PySem.F.entry_list_init (code_list_new _ ⟨rfl,rfl⟩) fun obj s₁ h₁=>?_;obtain⟨rfl,rfl⟩:=h₁;have eS:(s.heap.push {cls:=.type "list",data:=.seq #[]}).get? s.heap.objs.size=some {cls:=.type "list",data:=.seq #[]}:=zB1 _ rfl
 have lr:r<s.heap.objs.size:=let⟨_,ho,_⟩:=hv;zAz ho
 have ld:d<s.heap.objs.size:=zAz g1;refine⟨⟨_,eS,rfl⟩,PySem.F.args_list_init_2 _ _,?_⟩;generalize hg:s.heap.push {cls:=.type "list",data:=.seq #[]}=g at eS⊢
 have up:∀b o,s.heap.get? b=some o->g.get? b=some o:=fun b o e=>by rw[<-hg];exact zAy _ e
 show wpAny (model prog w) A.in1.in1 (do let old <-Builtin.List.listItems (.ref s.heap.objs.size);Builtin.List.listUpdate (.ref s.heap.objs.size) (fun _=>#[]);letGo old.toList.reverse;Builtin.List.listExtendWith (.ref s.heap.objs.size) (.ref r) .none) _ _ {s with heap:=g};refine zAu ?_;unfold Builtin.List.listItems;refine zAu (wpAny_seqItems eS rfl (zB0 ?_));show wpAny (model prog w) A.in1.in1 (updateSeq s.heap.objs.size (fun _=>#[])>>=fun _=>letGo (#[]:Array Value).toList.reverse>>=fun _=>Builtin.List.listExtendWith (.ref s.heap.objs.size) (.ref r) .none) _ _ {s with heap:=g};refine zAu (wpAny_updateSeq eS rfl (zAu (wpAny_letGo ?_)));have fh:=Heap.get?_update_self (Obj.mapSeq (fun _=>(#[]:Array Value))) eS rfl;have DT:∀b o,b≠s.heap.objs.size->g.get? b=some o->(g.update s.heap.objs.size (Obj.mapSeq (fun _=>(#[]:Array Value)))).get? b=some o:=fun b o n e=>(Heap.get?_update_other _ _ (Ne.symm n)).trans e;refine ext (A:=A.in1) (S:=s.heap.objs.size) (r:=r) (d:=d) hh (let⟨o,ho,x⟩:=hv;⟨o,DT r o (zB3 lr) (up _ _ ho),x⟩) (DT d _ (zB3 ld) (up _ _ g1)) g3 hn (Nat.ne_of_gt lr) (zB3 ld) .none _ fh fun h' tk acc c as hk AY hl g' iS=>?_;refine⟨rfl,hQ h' tk acc c as (fun b o e=>hk b o (zB3 (zAz e)) (DT b o (zB3 (zAz e)) (up b o e))) AY hl ⟨g'.rise,fun a ha=>Nat.lt_trans (zAz fh) (g'.above a ha),g'.pairs⟩ iS⟩
end
section
variable{prog:Program}{w:World}{A:Around}{E:Value->Shared->Prop}{s:Shared}
theorem xG:typeLookup (.type "list") "keys"=pure none:=by rw[typeLookup_type,builtinLookup_eq_fast];kernel_rfl
theorem BK{a:Addr}{xs:Array Value}{k:Nat}{Q:Option Value->Shared->Prop}(hx:s.heap.get? a=some {cls:=.type "list",dict:=none,data:=.seq xs k,slots:=#[]})(hA:A.handled=none)
  (q:∀h' tk,(∀b o,s.heap.get? b=some o->h'.get? b=some o)->Q none {s with heap:=h',toks:=tk}):wpAny (model prog w) A (getAttr? (.ref a) "keys") Q E s:=by
 obtain⟨hp,g,d,tk,os⟩:=s
 have hT:∀tI,(⟨hp,g,d,tI,os⟩:Shared).TypeIs (.ref a) "list":=fun _=>⟨_,hx,rfl⟩
 have f3:=F.slot_list_getattribute.lookup;have f4:=F.slot_list_getattribute.bind (.ref a);have f5:=am_list_getattr_none;have f1:=sub_AttributeError;unfold getAttr? getAttrBy? getAttrBy
 repeat (any_goals (first|assumption|exact hT _ | ((with_reducible show wpAny _ _ (call (Value.builtin "list.__getattribute__") _ _) _ _ _);refine call_meets F.slot_list_getattribute (hT _) am_entry_list_getattribute (F.args_list_getattribute_2 _ _) (meets_getattribute_miss_list a xs k #[] "keys" _ xG Zv (by size_fits)) ⟨hx,hA,fun h' tI e eJ=>?_⟩)|wp_step))
 obtain⟨t',u',he⟩:=eJ.there;show wpAny _ _ (getattributeRaised _ _ _ _ _ _ _) _ _ _;unfold getattributeRaised
 repeat (any_goals (first|assumption|wp_step))
 exact q _ _ eJ.of.keeps
end
theorem oh:entryFor table "dict.update.loop"=some Builtin.«dict.update.loop»:=entryFor_of_tree (by kernel_rfl)
theorem iD:plainId "dict.update.loop"=true:=by decide +kernel
theorem BL{KK:Type}[DecidableEq KK]{xs:List (KK×Addr×Value)}{k:KK}(h:∀x∈xs,x.1≠k):atKey xs k=none:=by
 unfold atKey;rw[List.find?_eq_none.mpr fun x hx=>by simpa using h x hx];rfl
section
variable{prog:Program}{w:World}{KK:Type}[DecidableEq KK]{knd:HeapKind prog w KK}{A:Around}{s:Shared}{R:Result->Shared->Prop}{n I l:Addr}{xs:List (KK×Addr×Value)}{as:List Addr}{h₀:Heap}
theorem pairs(hh:A.handled=none)(hu:knd.room A.in1)(hz:xs.length<=sizeLine)(nd:(xs.map (·.1)).Nodup)(mono:∀x∈xs,∀h:Heap,(∀c o,h₀.get? c=some o->h.get? c=some o)->knd.is h x.1 x.2.1)(eL:h₀.IsList l (as.map Value.ref).toArray)(la:as.length=xs.length)
  (eP:∀(j:Nat) a x,as[j]?=some a->xs[j]?=some x->h₀.get? a=some {cls:=.type "tuple",data:=.seq #[.ref x.2.1,x.2.2]}) (nn:h₀.get? n=none) (nI:h₀.get? I=none) (DU:n≠I)
  (hR:∀h' tk,(∀c o,h₀.get? c=some o->h'.get? c=some o)->h'.DictOfH knd n xs->R (.ok (.ret .none)) {s with heap:=h',toks:=tk}):
  ∀(m i:Nat) (h:Heap) (tk:Nat),xs.length-i=m->i<=xs.length->h.IsListIter I l i->(∀c o,h₀.get? c=some o->h.get? c=some o)->h.DictOfH knd n (xs.take i)->
   codeAny (model prog w) A (.builtin "dict.update.loop" ⟨[.ref n,.ref I,rawInt i,.none],[]⟩) R {s with heap:=h,toks:=tk}:=by
 have sI:∀{h h':Heap},Heap.ExtBut I h h'->(∀c o,h₀.get? c=some o->h.get? c=some o)->∀c o,h₀.get? c=some o->h'.get? c=some o:=fun x k c o e=>x c o (fun z=>by rw[z,nI]at e;cases e) (k c o e);intro m
 induction m with
 |zero=>
  intro i h tk hm hi it kp dd;refine codeAny_builtin oh ?_;rw[Around.under_plainId iD _];show wpAny (model prog w) A.in1 (pyNext (.ref I)>>=_) _ _ _;refine zAu (wpAny_pyNext_list_end (s:={s with heap:=h,toks:=tk}) (A:=A.in1) hh it (eL.at fun o e=>kp _ o e) (by rw[List.getElem?_toArray,List.getElem?_eq_none (by rw[zA1];lia)]) fun h' x=>?_)
  have lh:h'.DictOfH knd n xs:=by
   rw[List.take_of_length_le Zz]at dd;obtain⟨o,es,ep,g1,g2,g3,g4,g5,g6⟩:=dd;exact⟨o,es,ep,x _ _ DU g1,g2,g3,g4,fun y hy=>mono y hy h' (sI x kp),g6⟩
  exact zAu (zB0 (zB0 (hR h' tk (sI x kp) lh)))
 |succ m ih=>
  intro i h tk hm hi it kp dd;have ax:i<xs.length:=Zz
  have rj:i<as.length:=Zz
  refine codeAny_builtin oh ?_;rw[Around.under_plainId iD _];show wpAny (model prog w) A.in1 (pyNext (.ref I)>>=_) _ _ _;refine zAu (wpAny_pyNext_list_item (s:={s with heap:=h,toks:=tk}) (A:=A.in1) (x:=.ref as[i]) it (eL.at fun o e=>kp _ o e) (by rw[List.getElem?_toArray,zAb,zA0 rj];rfl) fun h₁ it₁ sb=>?_);have gs:=sI sb.extBut kp;have eT:=gs _ _ (eP i as[i] xs[i] (zA0 rj) (zA0 ax))
  have ty:Shared.TypeIs {s with heap:=h₁,toks:=tk} (.ref as[i]) "tuple":=⟨_,eT,rfl⟩
  have xS:h₁.DictOfH knd n (xs.take i):=by
   obtain⟨o,es,ep,g1,g2,g3,g4,g5,g6⟩:=dd;exact⟨o,es,ep,sb.extBut _ _ DU g1,g2,g3,g4,fun y hy=>mono y (List.mem_of_mem_take hy) h₁ gs,g6⟩
  refine zAu (wpAny_holding (zAu (wpAny_tryCatch ?_)));unfold Builtin.Dict.pairItems;refine zAu (wpAny_typeOf ty ?_);rw[zAx Zx];refine zAu (wpAny_seqItems eT rfl (zB0 ?_));show wpAny (model prog w) A.in1 (holding [Value.ref xs[i].2.1,xs[i].2.2] (dictSet n (.ref xs[i].2.1) xs[i].2.2)) _ _ _;refine wpAny_holding (wpAny_dictSet_heap (hsz:=by rw[zAd];lia) hu (mono _ (zAh ax) h₁ gs) xS fun cb nE nK=>?_)
  have e2:storedH (xs.take i) xs[i].1 xs[i].2.1 xs[i].2.2=xs.take (i+1):=by
   rw[storedH_new (BL fun x hx z=>?_),zAj,zA0 ax]
   .rfl
   .obtain⟨j,hj,e⟩:=List.getElem_of_mem hx;rw[zAd]at hj;rw[List.getElem_take]at e;have l1:j<(xs.map (·.1)).length:=by rw[zA1];lia
    have l2:i<(xs.map (·.1)).length:=by rw[zA1];exact ax
    have:j=i:=(List.getElem_inj (h₀:=l1) (h₁:=l2) nd).mp (by simp only[List.getElem_map];rw[e];exact z);lia
  rw[e2]at nE;refine zB0 ⟨plainId_quiet iD _,?_⟩;have:=ih (i+1) cb (tk+knd.draws xs[i].1) Zz ax (it₁.at fun o e=>nK.extBut _ _ (Ne.symm DU) e) (fun c o e=>nK.extBut c o (fun z=>by rw[z,nn]at e;cases e) (gs c o e)) nE;rw[show rawInt ((i+1:Nat):Int)=rawInt ((i:Int)+1)from rfl]at this;exact this
end
section
variable{prog:Program}{w:World}{KK:Type}[DecidableEq KK]{knd:HeapKind prog w KK}{A:Around}{E Q:Value->Shared->Prop}{s:Shared}{l:Addr}{xs:List (KK×Addr×Value)}{as:List Addr}
theorem H9{c:Nat}(hh:A.handled=none)(hu:knd.room A.in1.in1)(hz:xs.length<=sizeLine)(nd:(xs.map (·.1)).Nodup)(mono:∀x∈xs,∀h:Heap,(∀c o,s.heap.get? c=some o->h.get? c=some o)->knd.is h x.1 x.2.1)(eL:s.heap.get? l=some {cls:=.type "list",dict:=none,data:=.seq (as.map Value.ref).toArray c,slots:=#[]})(la:as.length=xs.length)
  (eP:∀(j:Nat) a x,as[j]?=some a->xs[j]?=some x->s.heap.get? a=some {cls:=.type "tuple",data:=.seq #[.ref x.2.1,x.2.2]})
  (hQ:∀h' tk,(∀c o,s.heap.get? c=some o->h'.get? c=some o)->h'.DictOfH knd s.heap.objs.size xs->Q (.ref s.heap.objs.size) {s with heap:=h',toks:=tk}):wpAny (model prog w) A (call (.type "dict") [.ref l]) Q E s:=by
 refine callType_codes (Q₁:=fun obj s₁=>obj=.ref s.heap.objs.size/\s₁={s with heap:=s.heap.push {cls:=.type "dict",data:=.dict #[]}}) F.kt_called_dict (F.kt_typeCall_dict_1 _) F.entry_dict_init (kt_code_dict_new _ ⟨rfl,rfl⟩) ?_;rintro obj s₁ ⟨rfl,rfl⟩;have dn:(s.heap.push {cls:=.type "dict",data:=.dict #[]}).DictOfH knd s.heap.objs.size []:=Heap.DictOfH.new s.heap;have nn:s.heap.get? s.heap.objs.size=none:=Heap.get?_none_of_le (zA3 _);refine⟨dn.typeIs,F.args_dict_init_2 _ _,?_⟩;have up:∀b o,s.heap.get? b=some o->(s.heap.push {cls:=.type "dict",data:=.dict #[]}).get? b=some o:=fun b o e=>Heap.get?_push_of_some _ e;have zz:(s.heap.push {cls:=.type "dict",data:=.dict #[]}).objs.size=s.heap.objs.size+1:=Heap.size_push ..;generalize s.heap.push {cls:=.type "dict",data:=.dict #[]}=g at dn up zz⊢;unfold Builtin.«dict.__init__»;refine wpAny_bind ?_;unfold Builtin.Dict.selfAndRest;refine wpAny_bind (wpAny_notOrdered_dict dn.typeIs ?_);show wpAny (model prog w) A.in1.in1 (pure (s.heap.objs.size,[Value.ref l])) _ _ _;refine wpAny_pure ?_;show wpAny (model prog w) A.in1.in1 (Builtin.Dict.updateFrom "dict.__init__" s.heap.objs.size (.ref l) [] .none) _ _ _;unfold Builtin.Dict.updateFrom;refine wpAny_bind (wpAny_typeOf (s:={s with heap:=g}) (T:="list") ⟨_,up _ _ eL,rfl⟩ ?_);rw[if_pos Zx];refine wpAny_bind (BK (s:={s with heap:=g}) (A:=A.in1.in1) (up _ _ eL) hh fun h₁ tk kp=>?_);simp only[Option.isNone_none,if_true];obtain⟨o,es,ep,d1,d2,d3,d4,d5,d6⟩:=dn;have Jh:=kp _ _ d1;have ln:s.heap.objs.size<h₁.objs.size:=Heap.lt_size Jh
 have hl:h₁.IsList l (as.map Value.ref).toArray:=⟨_,kp _ _ (up _ _ eL),rfl,_,rfl⟩
 refine zAu (wpAny_rule (zAu (wpAny_pyIter_list (s:={s with heap:=h₁,toks:=tk}) hl (zB0 ⟨plainId_quiet iD _,?_⟩))))
 exact pairs (A:=A.in1) (s:=s) (h₀:=s.heap) hh hu hz nd mono ⟨_,eL,rfl,_,rfl⟩ la eP nn (Heap.get?_none_of_le (Nat.le_of_lt ln)) (zB3 ln) (fun h' tI k' dd=>⟨rfl,hQ h' tI k' dd⟩)
  xs.length 0 _ tk (Nat.sub_zero _) (zAp _) ⟨_,zB1 _ rfl,rfl,rfl⟩ (fun c o e=>zAy _ (kp _ _ (up _ _ e))) ⟨o,es,ep,zAy _ Jh,d2,d3,d4,(fun _ hx=>nomatch hx),d6⟩
end
theorem nn{a b:Nat}(h:a≠b):@Ne Addr a b:=h
theorem uB:bootBuiltins "dict"=some (.type "dict"):=by decide +kernel
theorem uC:bootBuiltins "list"=some (.type "list"):=by decide +kernel
section
variable{prog:Program}{w:World}
theorem rZ(d:Addr)(hd:(d==sysModules)=false):MeetsIn prog w (Builtin.«dict.items» ⟨[.ref d],[]⟩) (fun _ R s=>s.TypeIs (.ref d) "dict"/\R (.ok (.ret (.ref s.heap.objs.size))) {s with heap:=s.heap.push {cls:=.type "dict_items",data:=.fields #[.ref d]}}):=
 .of_wp fun A R s ⟨ty,h⟩=>by
  unfold Builtin.«dict.items» Builtin.Dict.noArgs;refine zAu (zAu (wpAny_notOrdered_dict ty (show wpAny _ _ (pure d) _ _ s from zB0 ?_)));show wpAny (model prog w) _ (Builtin.Dict.showsAll d>>=_) _ _ s;unfold Builtin.Dict.showsAll;rw[zAv (by rw[hd];exact zAg)];exact zAu (zB0 (zAu (wpAny_newObj_type (zB0 ⟨_,rfl,h⟩))))
end
def Ha(to:TE):TE:=fun σ H Q=>to σ H fun x H1=>∃d kvs,x=.ref d/\H1 d=some (.dT kvs)/\∀n,H1 n=none->n≠sysModules->Q (.ref n) (upd H1 n (.dT kvs))
section
variable{X:Cx}
theorem pe_copy{o:Expr}{to:TE}{p p2 apos aE rl pos:Pos}(hd:X.A.handled=none)(hu:X.A.units+64<cLine)(AZ:Gl X "dict")(LG:X.mg "dict"=none)(LH:Gl X "list")(LI:X.mg "list"=none)(ho:PE X o to)
  (iL:attributeBase o "items" X.env (eval o X.env)=eval o X.env:=by rfl) (iN:(apos.endLine==aE.line)=true:=by rfl)
  (Ji:starEach [(.Call (.Name "list" p2) [.Call (.Attribute o "items" apos) [] [] aE] [] rl)] X.env=[(false,eval (.Call (.Name "list" p2) [.Call (.Attribute o "items" apos) [] [] aE] [] rl) X.env)]:=by rfl)
  (Jj:starEach [(.Call (.Attribute o "items" apos) [] [] aE)] X.env=[(false,eval (.Call (.Attribute o "items" apos) [] [] aE) X.env)]:=by rfl):
  PE X (.Call (.Name "dict" p) [.Call (.Name "list" p2) [.Call (.Attribute o "items" apos) [] [] aE] [] rl] [] pos) (Ha to):=by
 intro Zt s σ H Q I h;refine wpAny_Call_Name_kw (gj I AZ LG uB ?_ Zx Zx);refine PyProof.Rows.callWith_type1 ?_ Ji rfl;rw[Ji];refine Calls.spliced_cons ?_;refine wpAny_Call_Name_kw (gj I LH LI uC ?_ Zx Zx);refine PyProof.Rows.callWith_type1 ?_ Jj rfl;rw[Jj];refine Calls.spliced_cons ?_;refine wpAny_Call_method0_late iL iN (thn (ho Zt s σ H _ I h) fun v s1 ⟨x,H1,I1,r1,q1⟩=>?_);obtain⟨d,kvs,rfl,ed,q⟩:=q1;cases r1;obtain⟨hz,hs,xs,kt,dd⟩:=v8 I1.hok ed;have ty:=dd.typeIs;obtain⟨od,es,ep,g1,g2,g3,g4,g5,g6⟩:=dd;refine⟨"dict","dict.items",PySem.F.plainAttrs_dict,PySem.F.slot_dict_items,PySem.F.type_dict_items,ty,(fun a e=>by cases e;exact⟨od,g1,g2.2.1⟩),Calls.callWith_builtin rfl (PySem.evalArgs_none ?_)⟩;refine call_meetsIn PySem.F.slot_dict_items ty PySem.F.entry_dict_items (PySem.F.args_dict_items_1 _) (rZ d hs) ⟨ty,?_⟩;refine Calls.spliced_nil ?_;have Qx:es.size=xs.length:=by rw[<-zA9,g4,zA1]
 have zk:=kt.len;have ld:d<s1.heap.objs.size:=zAz g1;refine GZ (d:=d) (od:=od) (es:=es) (ep:=ep) hd ⟨_,zB1 _ rfl,rfl,rfl⟩ (zAy _ g1) g3 Zz fun h' tk acc c as kp at' hl hG iS=>?_;refine Calls.spliced_nil ?_;have Jk:∀b o,s1.heap.get? b=some o->h'.get? b=some o:=fun b o e=>kp b o (zAy _ e);have DV:acc=(as.map Value.ref).toArray:=by rw[<-iS]
 rw[DV]at at';refine H9 (s:={s1 with heap:=h',toks:=tk}) (knd:=tupleKind (bL X.prog X.w)) (xs:=xs) (as:=as) hd (show X.A.units+1+1<cLine by lia) Zz g6 (fun x hx g kg=>?_) at' Zz (fun j a x ha hx=>?_) fun h2 LJ DS mM=>?_
 .obtain⟨o,Zs,n,a1,a2,a3,a4⟩:=g5 x hx;exact⟨o,Zs,n,kg _ _ (Jk _ _ a1),a2,a3,a4⟩
 .obtain⟨e,e1,e2⟩:=hG.pairs j a ha;rw[entry_at g4,hx]at e1;cases e1;exact e2
 have LK:∀b o,s1.heap.get? b=some o->h2.get? b=some o:=fun b o e=>DS b o (Jk b o e)
 have lz:@LE.le Nat instLENat s1.heap.objs.size h'.objs.size:=by
  have:=zAz at';have z2:(Shared.heap {s1 with heap:=s1.heap.push {cls:=.type "dict_items",data:=.fields #[.ref d]}}).objs.size=s1.heap.objs.size+1:=Heap.size_push ..;have this:@LT.lt Nat instLTNat (Shared.heap {s1 with heap:=s1.heap.push {cls:=.type "dict_items",data:=.fields #[.ref d]}}).objs.size h'.objs.size:=this;lia
 have nN:H1 h'.objs.size=none:=I1.hok.fresh lz;have sm:@LT.lt Nat instLTNat sysModules s1.heap.objs.size:=I1.big;obtain⟨o2,DO,LM,b1,b2,b3,b4,_,b6⟩:=mM
 have ns:(h'.objs.size==sysModules)=false:=by
  rw[beq_eq_false_iff_ne];exact nn Zz
 refine⟨.ref h'.objs.size,upd H1 h'.objs.size (.dT kvs),I1.laid (t':=LJ) LK lz ⟨hz,ns,xs,kt.keeps fun b ys e=>?_,o2,DO,LM,b1,b2,b3,b4,b6⟩,rfl,q _ nN (nn Zz)⟩;rw[aF (aH e nN)];exact e
end
end L2.DI
namespace K22
open PySem L2
def top(i:Nat):Stmt:=PySem.Challenge.pw_woolyears_k22_whole_each_sack_goes_where.main.body.getD i (.Pass ⟨0,0,0,0⟩)
def cY(d:PyData):Bool:=pW d&&!pZ d
def items:PyData->List PyData
 |.tuple ds=>ds
 |_=>[]
def intOf:PyData->Int
 |.int i=>i
 |_=>0
def bu(d:PyData)(f m:Int):Bool:=q8 d&&(decide (f<=(items d).length)&&decide (((items d).length:Int)<=m))
def bw(d:PyData)(n:Int):Bool:=bu d n n&&(items d).all cY
def ou(d:PyData):Bool:=bw d 3&&(items d).all fun x=>decide (0<=intOf x)&&decide (intOf x<=999)
def gW(d:PyData):Bool:=bu d 1 20&&(items d).all ou
def at_(d:PyData)(i:Nat):Int:=intOf ((items d).getD i .none)
def qp(a b c d e f:Int):Bool:=
 (decide (0<=a)&&decide (a<8))&&((decide (0<=b)&&decide (b<3))&&((decide (0<=c)&&(decide (c<=d)&&decide (d<=19)))&&((decide (1<=e)&&decide (e<=99))&&(decide (0<=f)&&decide (f<=1000000)))))
def jj(d:PyData):Bool:=bw d 6&&qp (at_ d 0) (at_ d 1) (at_ d 2) (at_ d 3) (at_ d 4) (at_ d 5)
def dX(d:PyData):Bool:=bu d 0 10&&(items d).all jj
theorem nd1(x:Str):([x]:List Str).Nodup:=by simp
theorem yV(d:PyData):1<=sz d:=by cases d<;>simp[sz]
theorem qt:∀(ds:List PyData),ds.length<=szs ds
 |[]=>zAp _
 |d::ds=>by
  have:=qt ds;have:=yV d;simp only[List.length_cons,szs];lia
theorem qu:∀{ds:List PyData} {d:PyData},d∈ds->sz d<=szs ds
 |x::ds,d,h=>by
  simp only[szs];rcases zAo.mp h with e|e
  .rw[e];lia
  .have:=qu e;lia
theorem jk{ds:List PyData}{d:PyData}(h:d∈ds)(hz:sz (.tuple ds)<=4000):sz d<=4000:=by
 have:=qu h;simp only[sz]at hz;lia
theorem eZ{S:Addr->Prop}{H:Hp}{xs:List V}{ds:List PyData}(r:IsThs S H xs ds)(hz:sz (.tuple ds)<=4000):xs.length<sizeLine:=by
 have:=qt ds;have:=r.length;simp only[sz]at hz;rw[sizeLine_eq];lia
def spT(f:PyData->Bool):Sp:=fun vs H Q _=>∃S v d,vs=[v]/\IsTh S H v d/\sz d<=4000/\∀H',Same H H'->Q (.bl (f d)) H'
inductive SpT1I(f:PyData->Int->Bool)(vs:List V)(H:Hp)(Q:VK):Prop
 |mk:∀S v d n,(vs=[v,.int n])->(IsTh S H v d)->(sz d<=4000)->(∀H',Same H H'->Q (.bl (f d n)) H')->SpT1I f vs H Q
def BP(f:PyData->Int->Bool):Sp:=fun vs H Q _=>SpT1I f vs H Q
def jA(f:PyData->Int->Int->Bool):Sp:=fun vs H Q _=>∃S v d n m,vs=[v,.int n,.int m]/\IsTh S H v d/\sz d<=4000/\∀H',Same H H'->Q (.bl (f d n m)) H'
structure Mg(mg:Str->Option Value):Prop where
 isinstance:mg "isinstance"=none
 int:mg "int"=none
 bool:mg "bool"=none
 tuple:mg "tuple"=none
 len:mg "len"=none
 all:mg "all"=none
theorem boot_int:bootBuiltins "int"=some (.type "int"):=by decide +kernel
theorem boot_bool:bootBuiltins "bool"=some (.type "bool"):=by decide +kernel
theorem boot_tuple:bootBuiltins "tuple"=some (.type "tuple"):=by decide +kernel
theorem boot_isinstance:bootBuiltins "isinstance"=some (.builtin "isinstance"):=by decide +kernel
theorem boot_all:bootBuiltins "all"=some (.builtin "all"):=by decide +kernel
theorem d9{K:Frag}{S:Addr->Prop}{te:TE}{src:List (Option Nat)}{i j:Nat}{σ:St}{H:Hp}{Q:VK}{a:Addr}{xs:List V}{ds:List PyData}(f:PyData->Bool)(nc:σ[i]?=some (some (.ref a)))(ea:H a=some (.tup xs))(r:IsThs S H xs ds)(hl:xs.length<sizeLine)
  (wm:∀v d H1 Q1,d∈ds->Same H H1->IsTh S H1 v d->(∀H',Same H1 H'->Q1 (.bl (f d)) H')->te ((capσ σ src).set j (some v)) H1 Q1) (q:∀H',Same H H'->Q (.bl (ds.all f)) H'):
  tCB (fun xs H Q=>∃(p:Addr) (bs:List Bool),xs=[.ref p]/\SqL K H p (bs.map V.bl)/\Q (.bl (bs.all id)) H) (qT (yx (Ga K (Aw i)) src (bC j) wU te) Ej) σ H Q:=by
 refine⟨_,nc,a,rfl,⟨xs,SqT.of ea⟩,rH (j:=j) f ea r hl wm fun H2 s2 D hD=>⟨D,ds.map f,rfl,?_,?_⟩⟩
 .rw[<-yG];exact SqL.of ao
 .rw[EY];exact q _ (s2.updR hD)
structure Nums(mg:Str->Option Value):Prop where
 sorts:∃t,mg "SORTS"=some (.int 3 t)
 holders:∃t,mg "HOLDERS"=some (.int 8 t)
 year:∃t,mg "LAST_YEAR"=some (.int 19 t)
 clips:∃t,mg "MOST_CLIPS"=some (.int 20 t)
 proms:∃t,mg "MOST_PROMISES"=some (.int 10 t)
 wool:∃t,mg "MOST_WOOL"=some (.int 999 t)
 sacks:∃t,mg "MOST_SACKS"=some (.int 99 t)
 price:∃t,mg "MOST_PRICE"=some (.int 1000000 t)
theorem jB{d:PyData}{n:Int}(h:bw d n=true):bu d n n=true/\∀x∈items d,cY x=true:=by
 unfold bw at h;rw[zAc]at h;exact⟨h.1,List.all_eq_true.mp h.2⟩
theorem jC{S:Addr->Prop}{H:Hp}{v:V}{d:PyData}(h:IsTh S H v d)(e:cY d=true):∃i,v=.int i/\d=.int i:=by
 cases h with
 |int i=>exact⟨i,rfl,rfl⟩
 |_=>cases e
theorem jl{α:Type}{n:Nat}{l:List α}(h:l.length=n+1):∃a t,l=a::t/\t.length=n:=by
 cases l with
 |nil=>cases h
 |cons a t=>exact⟨a,t,rfl,Nat.succ.inj h⟩
theorem Hb{α:Type}{l:List α}(h:l.length=5):∃a b c d e,l=[a,b,c,d,e]:=by
 obtain⟨a,l1,e1,h1⟩:=jl h;obtain⟨b,l2,e2,h2⟩:=jl h1;obtain⟨c,l3,e3,h3⟩:=jl h2;obtain⟨d,l4,e4,h4⟩:=jl h3;obtain⟨e,l5,e5,h5⟩:=jl h4;exact⟨a,b,c,d,e,by rw[e1,e2,e3,e4,e5,List.length_eq_zero_iff.mp h5]⟩
theorem Hh{α:Type}{l:List α}(h:l.length=6):∃a b c d e f,l=[a,b,c,d,e,f]:=by
 obtain⟨a,l1,e1,h1⟩:=jl h;obtain⟨b,c,d,e,f,e2⟩:=Hb h1;exact⟨a,b,c,d,e,f,by rw[e1,e2]⟩
theorem fX{S:Addr->Prop}{H:Hp}{xs:List V}{d:PyData}{ds:List PyData}(r:IsThs S H xs (d::ds))(e:cY d=true):∃i t,xs=.int i::t/\d=.int i/\IsThs S H t ds:=by
 cases r with
 |cons h1 r=>
  obtain⟨i,rfl,rfl⟩:=jC h1 e;exact⟨i,_,rfl,rfl,r⟩
theorem lZ{S:Addr->Prop}{H:Hp}{xs:List V}{d:PyData}{ds:List PyData}(r:IsThs S H xs (d::ds)):∃v t,xs=v::t/\IsTh S H v d/\IsThs S H t ds:=by
 cases r with
 |cons h1 r=>exact⟨_,_,rfl,h1,r⟩
theorem xH{S:Addr->Prop}{H:Hp}{xs:List V}{ds:List PyData}(r:IsThs S H xs ds)(hl:ds.length=3):∃v0 v1 v2 d0 d1 d2,xs=[v0,v1,v2]/\ds=[d0,d1,d2]/\IsTh S H v0 d0/\IsTh S H v1 d1/\IsTh S H v2 d2:=by
 obtain⟨d0,l1,e1,h1⟩:=jl hl;obtain⟨d1,l2,e2,h2⟩:=jl h1;obtain⟨d2,l3,e3,h3⟩:=jl h2;have e:ds=[d0,d1,d2]:=by rw[e1,e2,e3,List.length_eq_zero_iff.mp h3]
 subst e;obtain⟨v0,t0,f0,i0,r0⟩:=lZ r;obtain⟨v1,t1,f1,i1,r1⟩:=lZ r0;obtain⟨v2,t2,f2,i2,r2⟩:=lZ r1;cases r2;exact⟨v0,v1,v2,d0,d1,d2,by rw[f0,f1,f2],rfl,i0,i1,i2⟩
theorem yW{S:Addr->Prop}{H:Hp}{xs:List V}{ds:List PyData}(r:IsThs S H xs ds)(hl:ds.length=6)(hw:∀x∈ds,cY x=true):
  ∃i1 i2 i3 i4 i5 i6:Int,xs=[.int i1,.int i2,.int i3,.int i4,.int i5,.int i6]/\ds=[.int i1,.int i2,.int i3,.int i4,.int i5,.int i6]:=by
 obtain⟨d1,d2,d3,d4,d5,d6,rfl⟩:=Hh hl;obtain⟨i1,t1,e1,rfl,r1⟩:=fX r (hw _ Zy);obtain⟨i2,t2,e2,rfl,r2⟩:=fX r1 (hw _ Zy);obtain⟨i3,t3,e3,rfl,r3⟩:=fX r2 (hw _ Zy);obtain⟨i4,t4,e4,rfl,r4⟩:=fX r3 (hw _ Zy);obtain⟨i5,t5,e5,rfl,r5⟩:=fX r4 (hw _ Zy);obtain⟨i6,t6,e6,rfl,r6⟩:=fX r5 (hw _ Zy);cases r6;exact⟨i1,i2,i3,i4,i5,i6,by rw[e1,e2,e3,e4,e5,e6],rfl⟩
theorem xJ{ds:List PyData}{n m:Int}(h:bu (.tuple ds) n m=true):n<=(ds.length:Int)/\(ds.length:Int)<=m:=by
 have h:(true&&(decide (n<=(ds.length:Int))&&decide ((ds.length:Int)<=m)))=true:=h;rw[Bool.true_and,zAc]at h;exact⟨zB2 h.1,zB2 h.2⟩
def Cal(P:Program)(w:World)(K:Frag)(mg:Str->Option Value)(base:Heap)(k:Nat)(x:Str)(ps:List Str)(sp:Sp):Prop:=
 ∃f fd,FnOk P w K mg base CX0 k f fd ps sp/\mg x=some (.ref f)/\PySem.W.keepIn K (.ref f)=true/\Binds K fd ps []
theorem aJ{X:Cx}{k j:Nat}{x:Str}{ps:List Str}{sp:Sp}{p pos:Pos}{e:Expr}{es:List Expr}{t:TA}(c:Cal X.prog X.w X.K X.mg X.base j x ps sp)(hr:Room k X.A)(ha:PA X (e::es) t)(CI:j<=k:=by decide)(hg:Gl X x:=by exact rfl)
  (pj:(x==("__debug__":Str))=false:=by decide) (he:starEach (e::es) X.env=(false,eval e X.env)::starEach es X.env:=by rfl) (mB:(backTo pos (starEach es X.env)).any (·.1)=false:=by rfl):
  PE X (.Call (.Name x p) (e::es) [] pos) (Dj sp [] E0 t):=by
 obtain⟨f,fd,F,hm,hk,hb⟩:=c;exact Bb F (hr.mono CI) hg hm hk hb .nil Gp ha pj he mB
variable{P:Program}{w:World}{K:Frag}{mg:Str->Option Value}{base:Heap}{f:Addr}{fd:FuncData}
theorem sc1:FnScope ["thing"] ["thing"] (aK (top 9)):=fQS
theorem su(F:Fun K "is_whole" "is_whole" (top 9) f fd)(T:Mg mg):FnOk P w K mg base CX0 1 f fd ["thing"] (spT cY):=by
 refine F.ok sc1 (fun vs H Q E h=>?_) (fun ah A outer s H vs Q E hr h=>?_)
 .obtain⟨S,v,d,rfl,_⟩:=h;rfl
 .obtain⟨S,v,d,rfl,th,hz,q⟩:=h
  refine⟨_,aD (aP (cu (aO gM rfl T.isinstance boot_isinstance (aQ (pv 0) (aQ (oZ rfl T.int boot_int (v:=.ty "int") rfl) aj)))
   (dU (Ed (aO gM rfl T.isinstance boot_isinstance (aQ (pv 0) (aQ (oZ rfl T.bool boot_bool (v:=.ty "bool") rfl) aj))))))),?_⟩
  refine⟨_,rfl,v,_,"int",pW d,rfl,th.ty,Bp d,_,rfl,?_⟩;have fin:=q H (Same.refl H);unfold cY at fin
  cases e:pW d with
  |false=>
   rw[e]at fin;exact bA fin
  |true=>
   rw[e]at fin;exact bQ ⟨_,rfl,v,_,"bool",pZ d,rfl,th.ty,yF d,_,rfl,fin⟩
theorem sc2:FnScope ["thing","fewest","most"] ["thing","fewest","most"] (aK (top 11)):=fQS
theorem mj(F:Fun K "is_tuple_of" "is_tuple_of" (top 11) f fd)(T:Mg mg):FnOk P w K mg base CX0 1 f fd ["thing","fewest","most"] (jA bu):=by
 refine F.ok sc2 (fun vs H Q E h=>?_) (fun ah A outer s H vs Q E hr h=>?_)
 .obtain⟨S,v,d,n,m,rfl,_⟩:=h;rfl
 .obtain⟨S,v,d,n,m,rfl,th,hz,q⟩:=h
  refine⟨_,aD (aP (cu (aO gM rfl T.isinstance boot_isinstance (aQ (pv 0) (aQ (oZ rfl T.tuple boot_tuple (v:=.ty "tuple") rfl) aj)))
   (dU (cR bH bH (pv 1) (aO bh rfl T.len PySem.boot_len (aQ (pv 0) aj)) (pv 2))))),?_⟩
  refine⟨_,rfl,v,_,"tuple",q8 d,rfl,th.ty,Bq d,_,rfl,?_⟩;have fin:=q H (Same.refl H);unfold bu at fin
  cases e:q8 d with
  |false=>
   rw[e]at fin;exact bA fin
  |true=>
   rw[e]at fin;refine bQ ?_
   cases th with
   |@tup a xs ds ea r=>
    have hl:=r.length;refine⟨_,rfl,_,rfl,a,xs,rfl,.inr (SqT.of ea),_,_,rfl,rfl,_,rfl,?_⟩;rw[hl];have fin:Q (.bl (true&&(decide (n<=(ds.length:Int))&&decide ((ds.length:Int)<=m)))) H:=fin
    cases e1:decide (n<=(ds.length:Int))with
    |false=>
     rw[e1]at fin;exact bA fin
    |true=>
     rw[e1]at fin;exact bQ ⟨_,rfl,_,_,rfl,rfl,fin⟩
   |_=>cases e
theorem sc3:FnScope ["thing","many"] ["thing","many"] (aK (top 12)):=fQS
theorem mZ(F:Fun K "are_wholes" "are_wholes" (top 12) f fd)(T:Mg mg)(c1:Cal P w K mg base 1 "is_whole" ["thing"] (spT cY))(c2:Cal P w K mg base 1 "is_tuple_of" ["thing","fewest","most"] (jA bu)):
  FnOk P w K mg base CX0 2 f fd ["thing","many"] (BP bw):=by
 refine F.ok sc3 (fun vs H Q E h=>?_) (fun ah A outer s H vs Q E hr h=>?_)
 .obtain⟨S,v,d,n,rfl,_⟩:=h;rfl
 .obtain⟨S,v,d,n,rfl,th,hz,q⟩:=h
  refine⟨_,aD (aP (cu (aJ c2 hr (aQ (pv 0) (aQ (pv 1) (aQ (pv 1) aj))))
   (dU (aO (eV rfl) rfl T.all boot_all (aQ (cF ["part"] [none] rfl (gm (pv 0))
    (fun C fp Zt s₂ H₂=>⟨bF (i:=0) (nd1 _) rfl (Or.inl rfl),cD,aJ c1 hr (aQ (pv 0) aj)⟩) (fun C=>trivial) ⟨rfl,rfl,rfl,rfl⟩) aj))))),?_⟩
  refine⟨_,rfl,_,rfl,_,rfl,S,v,d,n,n,rfl,th,hz,fun H1 s1=>⟨_,rfl,?_⟩⟩;have eC:=th.same s1
  cases e:bu d n n with
  |false=>
   refine bA ?_;have fin:=q H1 s1;unfold bw at fin;rw[e]at fin;exact fin
  |true=>
   refine bQ ?_
   cases eC with
   |@tup a xs ds ea r=>
    have ew:bw (.tuple ds) n=ds.all cY:=by unfold bw;rw[e];rfl
    refine d9 cY rfl ea r (eZ r hz) (fun v d H2 Q2 hm s2 t2 q2=>⟨_,rfl,S,v,d,rfl,t2,jk hm hz,q2⟩) fun H2 s2=>?_;rw[<-ew];exact q _ (s1.trans s2)
   |_=>cases e
theorem sc13:FnScope ["thing"] ["thing"] (aK (top 23)):=fQS
theorem uD(F:Fun K "is_clip" "is_clip" (top 23) f fd)(T:Mg mg)(N:Nums mg)(c1:Cal P w K mg base 2 "are_wholes" ["thing","many"] (BP bw)):
  FnOk P w K mg base CX0 3 f fd ["thing"] (spT ou):=by
 refine F.ok sc13 (fun vs H Q E h=>?_) (fun ah A outer s H vs Q E hr h=>?_)
 .obtain⟨S,v,d,rfl,_⟩:=h;rfl
 .obtain⟨S,v,d,rfl,th,hz,q⟩:=h;obtain⟨t3,e3⟩:=N.sorts;obtain⟨t9,e9⟩:=N.wool
  refine⟨_,aD (aP (cu (aJ c1 hr (aQ (pv 0) (aQ (bT (v:=.int 3) rfl e3 ⟨_,rfl⟩) aj)))
   (dU (aO (eV rfl) rfl T.all boot_all (aQ (cF ["sacks"] [none] rfl (gm (pv 0))
    (fun C fp Zt s₂ H₂=>⟨bF (i:=0) (nd1 _) rfl (Or.inl rfl),cD,cR bH bH aB (pv 0) (bT (v:=.int 999) rfl e9 ⟨_,rfl⟩)⟩) (fun C=>trivial) ⟨rfl,rfl,rfl,rfl⟩) aj))))),?_⟩
  refine⟨_,rfl,S,v,d,3,rfl,th,hz,fun H1 s1=>⟨_,rfl,?_⟩⟩;have eC:=th.same s1;have fin:=fun H' (s:Same H H')=>q H' s;unfold ou at fin
  cases e:bw d 3 with
  |false=>
   rw[e]at fin;exact bA (fin _ s1)
  |true=>
   rw[e]at fin;refine bQ ?_;obtain⟨e1,e2⟩:=jB e
   cases eC with
   |@tup a xs ds ea r=>
    refine d9 (fun x=>decide (0<=intOf x)&&decide (intOf x<=999)) rfl ea r (eZ r hz) (fun v d H2 Q2 hm s2 t2 q2=>?_) fun H2 s2=>fin _ (s1.trans s2);obtain⟨i,rfl,rfl⟩:=jC t2 (e2 d hm);refine⟨_,rfl,_,_,rfl,rfl,_,rfl,?_⟩;have q3:=q2 H2 (Same.refl _);show if decide ((0:Int)<=i)=true then _ else _
    cases e5:decide ((0:Int)<=i)with
    |false=>
     refine bA ?_;have q3:Q2 (.bl (decide ((0:Int)<=i)&&decide (i<=999))) H2:=q3;rw[e5]at q3;exact q3
    |true=>
     refine bQ ⟨_,_,rfl,rfl,?_⟩;have q3:Q2 (.bl (decide ((0:Int)<=i)&&decide (i<=999))) H2:=q3;rw[e5]at q3;exact q3
   |_=>cases e1
theorem sc14:FnScope ["thing"] ["thing"] (aK (top 24)):=fQS
theorem qw(F:Fun K "are_clips" "are_clips" (top 24) f fd)(T:Mg mg)(N:Nums mg)(c1:Cal P w K mg base 3 "is_clip" ["thing"] (spT ou))(c2:Cal P w K mg base 1 "is_tuple_of" ["thing","fewest","most"] (jA bu)):
  FnOk P w K mg base CX0 4 f fd ["thing"] (spT gW):=by
 refine F.ok sc14 (fun vs H Q E h=>?_) (fun ah A outer s H vs Q E hr h=>?_)
 .obtain⟨S,v,d,rfl,_⟩:=h;rfl
 .obtain⟨S,v,d,rfl,th,hz,q⟩:=h;obtain⟨t3,e3⟩:=N.clips
  refine⟨_,aD (aP (cu (aJ c2 hr (aQ (pv 0) (aQ aB (aQ (bT (v:=.int 20) rfl e3 ⟨_,rfl⟩) aj))))
   (dU (aO (eV rfl) rfl T.all boot_all (aQ (cF ["part"] [none] rfl (gm (pv 0))
    (fun C fp Zt s₂ H₂=>⟨bF (i:=0) (nd1 _) rfl (Or.inl rfl),cD,aJ c1 hr (aQ (pv 0) aj)⟩) (fun C=>trivial) ⟨rfl,rfl,rfl,rfl⟩) aj))))),?_⟩
  refine⟨_,rfl,S,v,d,1,20,rfl,th,hz,fun H1 s1=>⟨_,rfl,?_⟩⟩;have eC:=th.same s1;have fin:=fun H' (s:Same H H')=>q H' s;unfold gW at fin
  cases e:bu d 1 20 with
  |false=>
   rw[e]at fin;exact bA (fin _ s1)
  |true=>
   rw[e]at fin;refine bQ ?_
   cases eC with
   |@tup a xs ds ea r=>exact d9 ou rfl ea r (eZ r hz) (fun v d H2 Q2 hm s2 t2 q2=>⟨_,rfl,S,v,d,rfl,t2,jk hm hz,q2⟩) fun H2 s2=>fin _ (s1.trans s2)
   |_=>cases e
theorem sc15:FnScope ["thing","holder","sort","first","last","sacks","price"] ["thing"] (aK (top 25)):=fQS
theorem ni(F:Fun K "is_promise" "is_promise" (top 25) f fd)(T:Mg mg)(N:Nums mg)(c1:Cal P w K mg base 2 "are_wholes" ["thing","many"] (BP bw)):
  FnOk P w K mg base CX0 3 f fd ["thing"] (spT jj):=by
 refine F.ok sc15 (fun vs H Q E h=>?_) (fun ah A outer s H vs Q E hr h=>?_)
 .obtain⟨S,v,d,rfl,_⟩:=h;rfl
 .obtain⟨S,v,d,rfl,th,hz,q⟩:=h;obtain⟨t1,e1⟩:=N.holders;obtain⟨t2,e2⟩:=N.sorts;obtain⟨t3,e3⟩:=N.year;obtain⟨t4,e4⟩:=N.sacks;obtain⟨t5,e5⟩:=N.price
  refine⟨_,aA (cj (bN (d8 (aJ c1 hr (aQ (pv 0) (aQ aB aj))))) (aD (aP gG)) aZ)
   (aA (cC (pv 0) (bI rfl (aq (pgn 1 sc15.nd) (aq (pgn 2 sc15.nd) (aq (pgn 3 sc15.nd)
    (aq (pgn 4 sc15.nd) (aq (pgn 5 sc15.nd) (aq (pgn 6 sc15.nd) aW))))))))
   (aD (aP (cu (cR bH iI aB (pv 1) (bT (v:=.int 8) rfl e1 ⟨_,rfl⟩)) (cu (cR bH iI aB (pv 2) (bT (v:=.int 3) rfl e2 ⟨_,rfl⟩))
    (cu (wX bH bH bH aB (pv 3) (pv 4) (bT (v:=.int 19) rfl e3 ⟨_,rfl⟩)) (cu (cR bH bH aB (pv 5) (bT (v:=.int 99) rfl e4 ⟨_,rfl⟩))
     (dU (cR bH bH aB (pv 6) (bT (v:=.int 1000000) rfl e5 ⟨_,rfl⟩)))))))))),?_⟩
  refine⟨_,rfl,S,v,d,6,rfl,th,hz,fun H1 s1=>⟨_,rfl,?_⟩⟩;have eC:=th.same s1;have fin:=fun H' (s:Same H H')=>q H' s;unfold jj at fin
  cases e:bw d 6 with
  |false=>
   rw[e]at fin;exact bQ (fin _ s1)
  |true=>
   rw[e]at fin;refine bA ?_;obtain⟨z1,z2⟩:=jB e
   cases eC with
   |@tup a xs ds ea r=>
    have hl:ds.length=6:=by
     have:=xJ z1;lia
    obtain⟨i1,i2,i3,i4,i5,i6,rfl,rfl⟩:=yW r hl z2;refine⟨_,rfl,a,_,rfl,SqT.of ea,rfl,_,_,rfl,_,_,rfl,_,_,rfl,_,_,rfl,_,_,rfl,_,_,rfl,rfl,?_⟩;refine gP (bK dW (d7 rfl) dW) (fun _=>gP (bK dW (d7 rfl) dW) fun _=>gP (wY dW (d7 rfl) (d7 rfl) dW) fun _=>gP (bK dW (d7 rfl) dW) fun _=>bK dW (d7 rfl) dW) _ ?_;exact fin H1 s1
   |_=>cases z1
theorem J2:FnScope ["thing"] ["thing"] (aK (top 26)):=fQS
theorem jV(F:Fun K "are_promises" "are_promises" (top 26) f fd)(T:Mg mg)(N:Nums mg)(c1:Cal P w K mg base 3 "is_promise" ["thing"] (spT jj))(c2:Cal P w K mg base 1 "is_tuple_of" ["thing","fewest","most"] (jA bu)):
  FnOk P w K mg base CX0 4 f fd ["thing"] (spT dX):=by
 refine F.ok J2 (fun vs H Q E h=>?_) (fun ah A outer s H vs Q E hr h=>?_)
 .obtain⟨S,v,d,rfl,_⟩:=h;rfl
 .obtain⟨S,v,d,rfl,th,hz,q⟩:=h;obtain⟨t3,e3⟩:=N.proms
  refine⟨_,aD (aP (cu (aJ c2 hr (aQ (pv 0) (aQ aB (aQ (bT (v:=.int 10) rfl e3 ⟨_,rfl⟩) aj))))
   (dU (aO (eV rfl) rfl T.all boot_all (aQ (cF ["part"] [none] rfl (gm (pv 0))
    (fun C fp Zt s₂ H₂=>⟨bF (i:=0) (nd1 _) rfl (Or.inl rfl),cD,aJ c1 hr (aQ (pv 0) aj)⟩) (fun C=>trivial) ⟨rfl,rfl,rfl,rfl⟩) aj))))),?_⟩
  refine⟨_,rfl,S,v,d,0,10,rfl,th,hz,fun H1 s1=>⟨_,rfl,?_⟩⟩;have eC:=th.same s1;have fin:=fun H' (s:Same H H')=>q H' s;unfold dX at fin
  cases e:bu d 0 10 with
  |false=>
   rw[e]at fin;exact bA (fin _ s1)
  |true=>
   rw[e]at fin;refine bQ ?_
   cases eC with
   |@tup a xs ds ea r=>exact d9 jj rfl ea r (eZ r hz) (fun v d H2 Q2 hm s2 t2 q2=>⟨_,rfl,S,v,d,rfl,t2,jk hm hz,q2⟩) fun H2 s2=>fin _ (s1.trans s2)
   |_=>cases e
def jW(d:PyData)(lo hi:Int):Bool:=cY d&&(decide (lo<=intOf d)&&decide (intOf d<=hi))
def jm(H:Hp)(st:Addr):Prop:=∃a b:Int,H st=some (.lst [.int a,.int b])/\0<=a/\0<=b/\b<4294967296
def But(st:Addr)(H H':Hp):Prop:=∀b o,H b=some o->b≠st->H' b=some o
inductive SpCellI(K:Frag)(vs:List V)(H:Hp)(Q:VK):Prop
 |mk:∀(a:Addr) (ns:List Int) (k:Int),(vs=[.ref a,.int k])->(SqL K H a (ns.map V.int))->(0<=k)->(∀i,Q (.int i) H)->SpCellI K vs H Q
def yX(K:Frag):Sp:=fun vs H Q _=>SpCellI K vs H Q
inductive SpStateI(K:Frag)(vs:List V)(H:Hp)(Q:VK):Prop
 |mk:∀(a:Addr) (ns:List Int) (k:Int),(vs=[.ref a,.int k])->(SqL K H a (ns.map V.int))->(0<=k)->(∀(p:Addr) (x y:Int),H p=none->0<=x->0<=y->y<4294967296->Q (.ref p) (upd H p (.lst [.int x,.int y])))->SpStateI K vs H Q
def vG(K:Frag):Sp:=fun vs H Q _=>SpStateI K vs H Q
inductive SpTakeI(vs:List V)(H:Hp)(Q:VK):Prop
 |mk:∀(st:Addr) (n:Int),(vs=[.ref st,.int n])->(jm H st)->(1<=n)->(n<1073741824)->(∀r a' b':Int,0<=r->r<n->0<=a'->0<=b'->b'<4294967296->Q (.int r) (upd H st (.lst [.int a',.int b'])))->SpTakeI  vs H Q
def mq:Sp:=fun vs H Q _=>SpTakeI  vs H Q
theorem J3:FnScope ["_law_script","_law_k"] ["_law_script","_law_k"] (aK (top 59)):=fQS
theorem BR(F:Fun K "_law_cell_at" "_law_cell_at" (top 59) f fd)(T:Mg mg):FnOk P w K mg base CX0 1 f fd ["_law_script","_law_k"] (yX K):=by
 refine F.ok J3 (fun vs H Q E h=>?_) (fun ah A outer s H vs Q E hr h=>?_)
 .obtain⟨a,ns,k,rfl,_⟩:=h;rfl
 .obtain⟨a,ns,k,rfl,hS,h0,q⟩:=h;refine⟨_,aA (cj (bG iI (pv 1) (aO bh rfl T.len PySem.boot_len (aQ (pv 0) aj)) (bD _)) (aD (aP (pX bU (pv 0) (pv 1)))) aZ) (aD (aP aB)),?_⟩;refine⟨_,rfl,_,rfl,a,_,rfl,.inl hS,_,_,rfl,rfl,_,rfl,?_⟩;refine Bj (fun c=>?_) (fun _=>q 0);have c:=zB2 c;rw[zA1]at c;have hk:k.toNat<ns.length:=Zz
  refine⟨_,rfl,_,rfl,a,_,k,.int ns[k.toNat],rfl,rfl,hS,?_,q _⟩;have e:(ns.map V.int)[k.toNat]?=some (.int ns[k.toNat]):=by rw[zAb,zA0 hk];rfl
  have:=eF e;rw[show((k.toNat:Nat):Int)=k by lia]at this;exact this
theorem sc19:FnScope ["_law_script","_law_k","_law_cell"] ["_law_script","_law_k"] (aK (top 60)):=fQS
theorem yZ(F:Fun K "_law_state" "_law_state" (top 60) f fd)(c1:Cal P w K mg base 1 "_law_cell_at" ["_law_script","_law_k"] (yX K)):FnOk P w K mg base CX0 2 f fd ["_law_script","_law_k"] (vG K):=by
 refine F.ok sc19 (fun vs H Q E h=>?_) (fun ah A outer s H vs Q E hr h=>?_)
 .obtain⟨a,ns,k,rfl,_⟩:=h;rfl
 .obtain⟨a,ns,k,rfl,hS,h0,q⟩:=h
  refine⟨_,aA (pss 2 sc19.nd (aJ c1 hr (aQ (pv 0) (aQ (pv 1) aj))))
   (aA (cj (bG yq (pv 2) (aR u6 aB aB) (bD _)) (aD (aP (cT (az (aR fO (pv 2) (aR u6 aB aB)) (az (aR bz (aR gq (pv 2) aB) aB) aj))))) aZ)
   (aD (aP (cT (az aB (az (aR bz (aR gq (pv 2) aB) aB) aj)))))),?_⟩
  refine⟨_,rfl,_,rfl,a,ns,k,rfl,hS,h0,fun c=>?_⟩;refine⟨_,rfl,_,_,rfl,rfl,⟨by decide,by decide,by decide⟩,_,_,rfl,rfl,_,rfl,?_⟩;refine Bj (fun hc=>?_) (fun _=>?_)
  .have hc:=zB2 hc;refine⟨_,rfl,_,_,rfl,rfl,⟨by decide,by decide,by decide⟩,_,_,rfl,rfl,_,rfl,_,_,rfl,rfl,(by show(0:Int)<2147483629;decide),_,_,rfl,rfl,zL,fun p hp=>?_⟩;refine q p _ _ hp ?_ ?_ ?_
   .show 0<=c-(10:Int)^18;have hc:(10:Int)^18<=c:=hc;lia
   .show 0<=c % 2147483629+1;lia
   .show c % 2147483629+1<4294967296;lia
  .refine⟨_,rfl,_,_,rfl,rfl,(by show(0:Int)<2147483647;decide),_,_,rfl,rfl,zL,fun p hp=>?_⟩;refine q p _ _ hp (Int.le_refl 0) ?_ ?_
   .show 0<=c % 2147483647+1;lia
   .show c % 2147483647+1<4294967296;lia
theorem sc20:FnScope ["_law_state_here","_law_many","_law_found","_law_stirred"] ["_law_state_here","_law_many"] (aK (top 61)):=fQS
theorem BV(F:Fun K "_law_take" "_law_take" (top 61) f fd):FnOk P w K mg base CX0 1 f fd ["_law_state_here","_law_many"] mq:=by
 refine F.ok sc20 (fun vs H Q E h=>?_) (fun ah A outer s H vs Q E hr h=>?_)
 .obtain⟨st,n,rfl,_⟩:=h;rfl
 .obtain⟨st,n,rfl,⟨a,b,es,ha,hb,kG⟩,h1,h2,q⟩:=h
  refine⟨_,aA (cj (bG kY (pX bU (pv 0) aB) aB (bD _))
    (aA (pss 2 sc20.nd (aR gq (pX bU (pv 0) aB) (pv 1)))
     (aA (cC (aR pF (pX bU (pv 0) aB) (pv 1)) (tX (pv 0) aB set_list)) (aD (aP (pv 2))))) aZ)
   (aA (cC (aR gq (aR bz (aR gK (pX bU (pv 0) aB) aB) aB) aB) (tX (pv 0) aB set_list))
   (aA (pss 3 sc20.nd (aR gq (aR bz (aR bz (aR gK (pX bU (pv 0) aB) (pX bU (pv 0) aB)) (aR gK aB (pX bU (pv 0) aB))) aB) aB))
   (aA (pss 3 sc20.nd (aR gq (aR bz (aR bz (aR gK (pv 3) (pv 3)) (aR gK aB (pv 3))) aB) aB))
   (aD (aP (aR gq (aR pF (pv 3) aB) (pv 1))))))),?_⟩
  refine⟨_,rfl,st,_,0,.int a,rfl,rfl,SqL.of es,rfl,_,_,rfl,rfl,_,rfl,?_⟩;refine Bj (fun hc=>?_) (fun _=>?_)
  .refine⟨_,rfl,st,_,0,.int a,rfl,rfl,SqL.of es,rfl,_,rfl,_,_,rfl,rfl,(by show 0<n;lia),?_⟩;refine⟨_,rfl,st,_,0,.int a,rfl,rfl,SqL.of es,rfl,_,rfl,_,_,rfl,rfl,⟨Zz,h2⟩,_,rfl,st,_,0,0,rfl,rfl,es,rfl,_,rfl,?_⟩;exact q (a % n) (a / n) b (Int.emod_nonneg a Zz) (Int.emod_lt_of_pos a Zz) (Int.ediv_nonneg ha Zz) hb kG
  .refine⟨_,rfl,st,_,1,.int b,rfl,rfl,SqL.of es,rfl,_,_,rfl,rfl,.inl ⟨Zz,Zz⟩,_,_,rfl,rfl,_,_,rfl,rfl,(by show(0:Int)<2147483647;decide),_,rfl,st,_,1,1,rfl,rfl,es,rfl,?_⟩;have yb:0<=(b*48271+29) % 2147483647:=Int.emod_nonneg _ Zx;have LN:(b*48271+29) % 2147483647<2147483647:=Int.emod_lt_of_pos _ Zx
   obtain⟨m,hm⟩:∃m,m=(b*48271+29) % 2147483647:=⟨_,rfl⟩
   rw[<-hm]at yb LN;have eL:([V.int a,V.int b].set 1 ((fun i j:Int=>V.int (i % j)) (b*48271+29) 2147483647))=[V.int a,V.int m]:=by rw[hm];rfl
   rw[eL];have fw:upd H st (.lst [.int a,.int m]) st=some (.lst [.int a,.int m]):=ao;refine⟨_,rfl,st,_,1,.int m,rfl,rfl,SqL.of fw,rfl,_,rfl,st,_,1,.int m,rfl,rfl,SqL.of fw,rfl,_,_,rfl,rfl,.inl ⟨Zz,Zz⟩,_,rfl,st,_,1,.int m,rfl,rfl,SqL.of fw,rfl,_,_,rfl,rfl,.inl ⟨by decide,by decide⟩,_,_,rfl,rfl,_,_,rfl,rfl,_,_,rfl,rfl,(by show(0:Int)<2147483629;decide),?_⟩;have DZ:0<=(m*m+39373*m+7) % 2147483629:=Int.emod_nonneg _ Zx;have rq:(m*m+39373*m+7) % 2147483629<2147483629:=Int.emod_lt_of_pos _ Zx;refine⟨_,rfl,_,rfl,_,_,rfl,rfl,.inl ⟨Int.lt_of_lt_of_le Zx DZ,Int.lt_trans rq Zx⟩,_,rfl,_,_,rfl,rfl,.inl ⟨by decide,by decide⟩,_,_,rfl,rfl,_,_,rfl,rfl,_,_,rfl,rfl,(by show(0:Int)<2147483587;decide),?_⟩;refine⟨_,rfl,_,_,rfl,rfl,⟨by decide,by decide⟩,_,rfl,_,_,rfl,rfl,(by show 0<n;lia),?_⟩;exact q _ a m (Int.emod_nonneg _ Zz) (Int.emod_lt_of_pos _ Zz) ha yb Zz
theorem sy{X:Cx}{K:Frag}(hK:X.K=K):IxR X (Gk K):=by
 subst hK;exact bU
theorem J5:(["_law_sort","_law_state_here","_law_wide"]:List Str).Nodup:=by decide +kernel
theorem sc21:FnScope ["_law_state_here","_law_most","_law_wide","_law_found","_law_turn"] ["_law_state_here","_law_most"] (aK (top 62)):=fQS
structure Mk3(st p3:Addr)(xs:List V)(ds:List PyData)(H H':Hp):Prop where
 bt:But st H H'
 sa:jm H' st
 e3:H' p3=some (.lst xs)
 ts:IsThs (fun _=>False) H' xs ds
theorem Mk3.take{st p3:Addr}{xs:List V}{ds:List PyData}{H H':Hp}(g:Mk3 st p3 xs ds H H')(np:p3≠st){a b:Int}(h1:0<=a)(h2:0<=b)(h3:b<4294967296):Mk3 st p3 xs ds H (upd H' st (.lst [.int a,.int b])):=by
 refine⟨fun b' o' e' ne=>?_,⟨a,b,ao,h1,h2,h3⟩,by rw[aF np];exact g.e3,g.ts.keep (fun c l e=>?_) (fun _ _ z _=>z.elim) fun _ _ z _=>z.elim⟩
 .rw[aF ne];exact g.bt b' o' e' ne
 .obtain⟨x,y,e7,_⟩:=g.sa
  have:c≠st:=fun z=>by
   rw[z,e7]at e;cases e
  rw[aF this];exact e
theorem Mk3.new{st p3 p:Addr}{xs:List V}{ds:List PyData}{H H':Hp}{o:HO}(g:Mk3 st p3 xs ds H H')(hp:H' p=none):Mk3 st p3 xs ds H (upd H' p o):=by
 obtain⟨x,y,e7,k⟩:=g.sa;exact⟨fun b' o' e' ne=>Same.upd hp _ _ (g.bt b' o' e' ne),⟨x,y,Same.upd hp _ _ e7,k⟩,Same.upd hp _ _ g.e3,g.ts.same (Same.upd hp)⟩
theorem boot_min:bootBuiltins "min"=some (.builtin "min"):=by decide +kernel
theorem sc22:FnScope ["_law_state_here","_law_most","_law_years","_law_found","_law_wide","_law_turn","_law_first","_law_last","_law_price","_law_holder"] ["_law_state_here","_law_most","_law_years"] (aK (top 63)):=fQS
structure Dr(st:Addr)(H H':Hp):Prop where
 bt:But st H H'
 sa:jm H' st
theorem But.refl{st:Addr}{H:Hp}:But st H H:=fun _ _ e _=>e
theorem Dr.same{st:Addr}{H H1 H2:Hp}(g:Dr st H H1)(s:Same H1 H2):Dr st H H2:=by
 obtain⟨a,b,e,k⟩:=g.sa;exact⟨fun b' o' e' ne=>s _ _ (g.bt b' o' e' ne),a,b,s _ _ e,k⟩
theorem Dr.trans{st:Addr}{H H1 H2:Hp}(g:Dr st H H1)(g':Dr st H1 H2):Dr st H H2:=⟨fun b' o' e' ne=>g'.bt _ _ (g.bt b' o' e' ne) ne,g'.sa⟩
theorem Dr.take{st:Addr}{H H1:Hp}(g:Dr st H H1){a b:Int}(h1:0<=a)(h2:0<=b)(h3:b<4294967296):Dr st H (upd H1 st (.lst [.int a,.int b])):=
 ⟨fun b' o' e' ne=>by rw[aF ne];exact g.bt b' o' e' ne,a,b,ao,h1,h2,h3⟩
theorem Dr.new{st p:Addr}{o:HO}{H H1:Hp}(g:Dr st H H1)(hp:H1 p=none):Dr st H (upd H1 p o):=g.same (Same.upd hp)
theorem Dr.ne{st p:Addr}{H H1:Hp}(g:Dr st H H1)(hp:H1 p=none):p≠st:=fun z=>by
 obtain⟨a,b,e,_⟩:=g.sa;rw[z,e]at hp;cases hp
def cX(r:List Int):PyData:=.tuple (r.map .int)
def bR(rs:List (List Int)):PyData:=.tuple (rs.map cX)
def fl(r:List Int)(i:Nat):Int:=r.getD i 0
def okP(r:List Int):Prop:=r.length=6/\(0<=fl r 0/\fl r 0<8)/\(0<=fl r 1/\fl r 1<3)/\(0<=fl r 2/\fl r 2<=fl r 3/\fl r 3<=19)/\(1<=fl r 4/\fl r 4<=99)/\(0<=fl r 5/\fl r 5<=1000000)
def dY(d:PyData):Bool:=bu d 0 12&&(items d).all fun x=>bw x 5
def rowsOf(d:PyData):List (List Int):=(items d).map fun x=>(items x).map intOf
theorem zc:∀{ds:List PyData},(∀x∈ds,cY x=true)->ds=(ds.map intOf).map PyData.int
 |[],_=>rfl
 |d::ds,h=>by
  rw[zAk,zAk,<-zc fun x hx=>h x (List.mem_cons_of_mem _ hx)];have:=h d List.mem_cons_self
  cases d with
  |int i=>rfl
  |_=>cases this
theorem iW{x:PyData}{n:Nat}(h:bw x n=true):x=cX ((items x).map intOf)/\((items x).map intOf).length=n:=by
 obtain⟨h1,h2⟩:=jB h;unfold bu at h1;rw[zAc,zAc,Zq,Zq]at h1;obtain⟨ht,fy,iO⟩:=h1
 cases x with
 |tuple ds=>
  have fy:(n:Int)<=ds.length:=fy;have iO:(ds.length:Int)<=n:=iO;refine⟨?_,by show(ds.map intOf).length=n;rw[zA1];lia⟩;exact congrArg PyData.tuple (zc h2)
 |_=>cases ht
theorem vH{ds:List PyData}{n:Nat}(h:∀x∈ds,bw x n=true):ds=(ds.map fun x=>(items x).map intOf).map cX:=by
 induction ds with
 |nil=>rfl
 |cons d ds ih=>
  rw[zAk,zAk,<-ih fun x hx=>h x (List.mem_cons_of_mem _ hx),<-(iW (h d List.mem_cons_self)).1]
theorem jD{d:PyData}{f m:Int}(h:bu d f m=true):∃ds,d=.tuple ds/\f<=ds.length/\(ds.length:Int)<=m:=by
 unfold bu at h;rw[zAc,zAc,Zq,Zq]at h
 cases d with
 |tuple ds=>exact⟨ds,rfl,h.2⟩
 |_=>cases h.1
theorem oA(r:List Int)(i:Nat)(h:i<r.length):at_ (cX r) i=fl r i:=by
 show intOf ((r.map PyData.int).getD i .none)=r.getD i 0;rw[zA7,zA7,zAb,zA0 h];rfl
theorem uE{d:PyData}(h:dX d=true):d=bR (rowsOf d)/\(rowsOf d).length<=10/\∀r∈rowsOf d,okP r:=by
 unfold dX at h;rw[zAc]at h;obtain⟨ds,rfl,_,hl⟩:=jD h.1;have h2:∀x∈ds,jj x=true:=List.all_eq_true.mp h.2
 have h3:∀x∈ds,bw x 6=true:=fun x hx=>by
  have:=h2 x hx;unfold jj at this;rw[zAc]at this;exact this.1
 refine⟨congrArg PyData.tuple (vH (n:=6) h3),by show(ds.map _).length<=10;rw[zA1];lia,fun r hr=>?_⟩;obtain⟨x,hx,rfl⟩:=zA5.mp hr;have hx:x∈ds:=hx;obtain⟨e,LO⟩:=iW (n:=6) (h3 x hx);have:=h2 x hx;unfold jj at this;rw[zAc]at this;have p:=this.2;rw[e]at p;rw[oA _ 0 Zz,oA _ 1 Zz,oA _ 2 Zz,oA _ 3 Zz,oA _ 4 Zz,oA _ 5 Zz]at p;unfold qp at p;simp only[Bool.and_eq_true,Zq]at p;obtain⟨⟨a1,a2⟩,⟨b1,b2⟩,⟨c1,c2,c3⟩,⟨d1,d2⟩,e1,e2⟩:=p;exact⟨LO,⟨a1,a2⟩,⟨b1,b2⟩,⟨c1,c2,c3⟩,⟨d1,d2⟩,e1,e2⟩
theorem uF{d:PyData}(h:dY d=true):d=bR (rowsOf d)/\(rowsOf d).length<=12/\∀r∈rowsOf d,r.length=5:=by
 unfold dY at h;rw[zAc]at h;obtain⟨ds,rfl,_,hl⟩:=jD h.1;have h3:∀x∈ds,bw x 5=true:=List.all_eq_true.mp h.2;refine⟨congrArg PyData.tuple (vH (n:=5) h3),by show(ds.map _).length<=12;rw[zA1];lia,fun r hr=>?_⟩;obtain⟨x,hx,rfl⟩:=zA5.mp hr;exact(iW (n:=5) (h3 x hx)).2
structure RowsAt(H:Hp)(a:Addr)(xs:List V)(rs:List (List Int)):Prop where
 e:H a=some (.tup xs)
 l:xs.length=rs.length
 g:∀(i:Nat) (r:List Int),rs[i]?=some r->∃t,xs[i]?=some (V.ref t)/\H t=some (.tup (r.map V.int))
theorem RowsAt.keep{H H':Hp}{a:Addr}{xs:List V}{rs:List (List Int)}(h:RowsAt H a xs rs)(k:∀b l,H b=some (.tup l)->H' b=some (.tup l)):RowsAt H' a xs rs:=
 ⟨k _ _ h.e,h.l,fun i r e=>by
  obtain⟨t,e1,e2⟩:=h.g i r e
  exact⟨t,e1,k _ _ e2⟩⟩
theorem RowsAt.same{H H':Hp}{a:Addr}{xs:List V}{rs:List (List Int)}(h:RowsAt H a xs rs)(s:Same H H'):RowsAt H' a xs rs:=h.keep fun _ _ e=>s _ _ e
theorem sJ{S:Addr->Prop}{H:Hp}:∀{r:List Int} {xs:List V},IsThs S H xs (r.map .int)->xs=r.map V.int
 |[],_,.nil=>rfl
 |i::r,_,.cons h t=>by
  cases h;rw[sJ (r:=r) t];rfl
theorem Fl{S:Addr->Prop}{H:Hp}{v:V}{r:List Int}(h:IsTh S H v (cX r)):∃t,v=V.ref t/\H t=some (.tup (r.map V.int)):=by
 generalize hd:cX r=d at h
 cases h with
 |@tup a xs ds e t=>
  injection hd with hd;subst hd;rw[sJ t]at e;exact⟨a,rfl,e⟩
 |_=>cases hd
theorem jZ{S:Addr->Prop}{H:Hp}{v:V}{rs:List (List Int)}(h:IsTh S H v (bR rs)):∃a xs,v=.ref a/\RowsAt H a xs rs:=by
 generalize hd:bR rs=d at h
 cases h with
 |@tup a xs ds e t=>
  injection hd with hd;subst hd;refine⟨a,xs,rfl,e,by rw[t.length,zA1],fun i r hr=>?_⟩;have hi:i<rs.length:=(zAa.mp hr).1;have hx:xs[i]?=some (xs[i]'(by rw[t.length,zA1];exact hi)):=zA0 _;obtain⟨d,h1,h2⟩:=t.get hx;rw[zAb,hr]at h1;injection h1 with h1;subst h1;obtain⟨t',e1,e2⟩:=Fl h2;exact⟨t',by rw[hx,e1],e2⟩
 |_=>cases hd
theorem RowsAt.th{H:Hp}{a:Addr}:∀{rs:List (List Int)} {xs:List V},RowsAt H a xs rs->IsTh (fun _=>False) H (.ref a) (bR rs):=by
 intro rs xs h;refine .tup h.e ?_
 have gen:∀(rs:List (List Int)) (xs:List V),xs.length=rs.length->(∀(i:Nat) (r:List Int),rs[i]?=some r->∃t,xs[i]?=some (V.ref t)/\H t=some (.tup (r.map V.int)))->IsThs (fun _=>False) H xs (rs.map cX):=by
  intro rs
  induction rs with
  |nil=>
   intro xs hl _;have:xs=[]:=List.length_eq_zero_iff.mp hl;subst this;exact .nil
  |cons r rs ih=>
   intro xs hl hg
   cases xs with
   |nil=>simp at hl
   |cons x xs=>
    obtain⟨t,e1,e2⟩:=hg 0 r rfl;have e1:x=.ref t:=by simpa using e1
    subst e1;exact .cons (.tup e2 (IsThs.ints r)) (ih xs (by simpa using hl) fun i r' e=>hg (i+1) r' (by simpa using e))
 exact gen rs xs h.l h.g
def iY(L:List Int)(i:Int)(v:Int):List Int:=L.set i.toNat (L.getD i.toNat 0+v)
def hstep(n y:Int)(L:List Int)(s:List Int):List Int:=if fl s 0=n/\fl s 4<=y then iY (iY L (fl s 1) (-(fl s 3))) (fl s 2) (fl s 3)else L
def base0(p:List Int):List Int:=(List.replicate 8 0).set (fl p 0).toNat (fl p 4)
def aY(p:List Int)(ss:List (List Int))(n y:Int):List Int:=if fl p 2<=y/\y<=fl p 3 then ss.foldl (hstep n y) (base0 p)else List.replicate 8 0
def my(ps:List (List Int))(s:List Int):List Int:=ps.getD (fl s 0).toNat []
def nj(ps:List (List Int))(s:List Int):Bool:=(decide (0<=fl s 0)&&decide (fl s 0<ps.length))&&((decide (0<=fl s 1)&&decide (fl s 1<8))&&((decide (0<=fl s 2)&&decide (fl s 2<8))&&((!decide (fl s 1=fl s 2))&&((decide (1<=fl s 3)&&decide (fl s 3<=99))&&(decide (fl (my ps s) 2<=fl s 4)&&decide (fl s 4<=fl (my ps s) 3))))))
def years(a b:Int):List Int:=(List.range (b+1-a).toNat).map fun(i:Nat)=>a+i
def dh(ps ss:List (List Int))(s:List Int):Bool:=nj ps s&&(years (fl s 4) (fl (my ps s) 3)).all fun y=>decide (fl s 3<=(aY (my ps s) ss (fl s 0) y).getD (fl s 1).toNat 0)
def un(ps ss:List (List Int)):Option Nat:=(List.range ss.length).find? fun i=>!dh ps (ss.take i) (ss.getD i [])
theorem gY(L:List Int)(i v:Int):(iY L i v).length=L.length:=by unfold iY;rw[List.length_set]
theorem xK(n y:Int)(L s:List Int):(hstep n y L s).length=L.length:=by
 unfold hstep;split
 .rw[gY,gY]
 .rfl
theorem dG(p:List Int)(ss:List (List Int))(n y:Int):(aY p ss n y).length=8:=by
 unfold aY;split
 .have:∀(ss:List (List Int)) (L:List Int),L.length=8->(ss.foldl (hstep n y) L).length=8:=by
   intro ss
   induction ss with
   |nil=>exact fun L h=>h
   |cons s ss ih=>exact fun L h=>ih _ (by rw[xK];exact h)
  exact this ss _ (by unfold base0;rw[List.length_set,List.length_replicate])
 .rw[List.length_replicate]
theorem iG{X:Cx}:G8 X (fun x y H Q=>∃p xs i v,x=.ref p/\y=.int i/\SqL X.K H p xs/\0<=i/\xs[i.toNat]?=some v/\Q v H):=by
 intro Zt s σ H x y v u Q I rx ry h;obtain⟨p,xs,i,z,rfl,rfl,hq,h0,he,q⟩:=h;cases rx;obtain⟨t,rfl⟩:=ry;obtain⟨Zs,r,pl,hz⟩:=I.list hq;obtain⟨w,ew,dE⟩:=r.get he;have hn:=kZ;have hl:=r.length;have hi:=(zAa.mp he).1;exact PySem.wpAny_getItem_list pl.isList h0 Zz (by simpa using ew) ⟨z,H,I,dE,q⟩
theorem dM{p:List Int}(h:p.length=6):p=[fl p 0,fl p 1,fl p 2,fl p 3,fl p 4,fl p 5]:=by
 obtain⟨a,b,c,d,e,f,rfl⟩:=Hh h;rfl
theorem gZ{p:List Int}(h:p.length=5):p=[fl p 0,fl p 1,fl p 2,fl p 3,fl p 4]:=by
 obtain⟨a,b,c,d,e,rfl⟩:=Hb h;rfl
theorem qx(L:List Int)(i:Nat)(v:Int):(L.map V.int).set i (.int v)=(L.set i v).map V.int:=by rw[List.map_set]
theorem jn{L:List Int}{i:Nat}(h:i<L.length):(L.map V.int)[i]?=some (.int (L.getD i 0)):=by
 rw[zAb,zA0 h,zA7,zA0 h];rfl
theorem vI{n:Nat}{i:Int}(h0:0<=i)(h1:i<n):ixN n i=some i.toNat:=by
 unfold ixN;rw[zAx h0,zAx h1]
def okS(s:List Int):Prop:=s.length=5/\(0<=fl s 1/\fl s 1<8)/\(0<=fl s 2/\fl s 2<8)
inductive SpHeldI(vs:List V)(H:Hp)(Q:VK):Prop
 |mk:∀ap xp ps af xs ss n y,(vs=[.ref ap,.ref af,.int n,.int y])->(RowsAt H ap xp ps)->(RowsAt H af xs ss)->(0<=n)->(n<ps.length)->(okP (ps.getD n.toNat []))->(ss.length<=12)->((∀s∈ss,okS s))->(∀l H',Same H H'->H' l=some (.lst ((aY (ps.getD n.toNat []) ss n y).map V.int))->Q (.ref l) H')->SpHeldI  vs H Q
def qy:Sp:=fun vs H Q _=>SpHeldI  vs H Q
structure MS(mg:Str->Option Value):Prop where
 sales:∃t,mg "MOST_SALES"=some (.int 12 t)
theorem Hk:FnScope ["thing"] ["thing"] (aK (top 27)):=fQS
theorem qz(F:Fun K "are_sales" "are_sales" (top 27) f fd)(T:Mg mg)(N:MS mg)(c1:Cal P w K mg base 2 "are_wholes" ["thing","many"] (BP bw))(c2:Cal P w K mg base 1 "is_tuple_of" ["thing","fewest","most"] (jA bu)):
  FnOk P w K mg base CX0 3 f fd ["thing"] (spT dY):=by
 refine F.ok Hk (fun vs H Q E h=>?_) (fun ah A outer s H vs Q E hr h=>?_)
 .obtain⟨S,v,d,rfl,_⟩:=h;rfl
 .obtain⟨S,v,d,rfl,th,hz,q⟩:=h;obtain⟨t3,e3⟩:=N.sales
  refine⟨_,aD (aP (cu (aJ c2 hr (az (pv 0) (az aB (az (bT (v:=.int 12) rfl e3 ⟨_,rfl⟩) aj))))
   (dU (aO (eV rfl) rfl T.all boot_all (az (cF ["part"] [none] rfl (gm (pv 0))
    (fun C fp Zt s₂ H₂=>⟨bF (i:=0) (nd1 _) rfl (Or.inl rfl),cD,aJ c1 hr (az (pv 0) (az aB aj))⟩) (fun C=>trivial) ⟨rfl,rfl,rfl,rfl⟩) aj))))),?_⟩
  refine⟨_,rfl,S,v,d,0,12,rfl,th,hz,fun H1 s1=>⟨_,rfl,?_⟩⟩;have eC:=th.same s1;have fin:=fun H' (s:Same H H')=>q H' s;unfold dY at fin
  cases e:bu d 0 12 with
  |false=>
   rw[e]at fin;exact bA (fin _ s1)
  |true=>
   rw[e]at fin;refine bQ ?_
   cases eC with
   |@tup a xs ds ea r=>exact d9 (fun x=>bw x 5) rfl ea r (eZ r hz) (fun v d H2 Q2 hm s2 t2 q2=>⟨_,rfl,S,v,d,5,rfl,t2,jk hm hz,q2⟩) fun H2 s2=>fin _ (s1.trans s2)
   |_=>cases e
theorem sc23s:FnScope ["promises","sales","number","year","holder","sort","first","last","sacks","price","held","promise","seller","buyer","sold","since"] ["promises","sales","number","year"] (aK (top 28)):=fQS
theorem BW(F:Fun K "held_in" "held_in" (top 28) f fd)(N:Nums mg):FnOk P w K mg base CX0 1 f fd ["promises","sales","number","year"] qy:=by
 refine F.ok sc23s (fun vs H Q E h=>?_) (fun ah A outer s H vs Q E hr h=>?_)
 .obtain⟨ap,xp,ps,af,xs,ss,n,y,rfl,_⟩:=h;rfl
 .obtain⟨ap,xp,ps,af,xs,ss,n,y,rfl,rp,rs,n0,n1,okp,hl,cx,q⟩:=h;obtain⟨t1,e1⟩:=N.holders
  refine⟨_,aA (cC (pX bJ (pv 0) (pv 2)) (bI rfl (aq (pgn 4 sc23s.nd) (aq (pgn 5 sc23s.nd) (aq (pgn 6 sc23s.nd)
    (aq (pgn 7 sc23s.nd) (aq (pgn 8 sc23s.nd) (aq (pgn 9 sc23s.nd) aW))))))))
   (aA (pss 10 sc23s.nd (aR Es (cT (az aB aj)) (bT (v:=.int 8) rfl e1 ⟨_,rfl⟩)))
   (aA (cj (bN (dR bH bH (pv 6) (pv 3) (pv 7))) (aD (aP (pv 10))) aZ)
   (aA (cC (pv 8) (tX (pv 10) (pv 4) set_list))
   (aA (bV zB4 rfl (gm (pv 1)) (bI rfl (aq (pgn 11 sc23s.nd) (aq (pgn 12 sc23s.nd) (aq (pgn 13 sc23s.nd)
     (aq (pgn 14 sc23s.nd) (aq (pgn 15 sc23s.nd) aW))))))
    (aD (cj (PW.pt (yf (bG nC (pv 11) (pv 2) (bD _)) (uU (bG bH (pv 15) (pv 3) (bD _)))))
     (aA (pq (pv 10) (pv 12) iG (pv 14) ym set_list) (aD (pq (pv 10) (pv 13) iG (pv 14) yl set_list))) aZ)))
   (aD (aP (pv 10))))))),?_⟩
  obtain⟨p,hp⟩:∃p,ps[n.toNat]?=some p:=⟨_,zA0 Zz⟩
  have ep:ps.getD n.toNat []=p:=by rw[zA7,hp];rfl
  rw[ep]at okp q;obtain⟨t,ex,et⟩:=rp.g _ _ hp;have p6:=dM okp.1;obtain⟨l6,⟨a1,a2⟩,b,⟨c1,c2,c3⟩,⟨d1,d2⟩,ee⟩:=id okp
  have cq:atI xp n=some (.ref t):=by
   have:=eF ex;rw[show((n.toNat:Nat):Int)=n by lia]at this;exact this
  rw[p6]at et;refine aG ?_;refine⟨_,rfl,_,rfl,ap,xp,n,.ref t,rfl,rfl,SqT.of rp.e,cq,?_⟩;refine⟨t,_,rfl,SqT.of et,rfl,_,_,rfl,_,_,rfl,_,_,rfl,_,_,rfl,_,_,rfl,_,_,rfl,rfl,?_⟩;dsimp only;refine aG (aX ?_);refine⟨zL,fun l0 Jl=>⟨l0,8,_,rfl,rfl,ao,by decide,by decide,zL,fun l1 fy=>?_⟩⟩;have s1:Same H (upd (upd H l0 (.lst [V.int 0])) l1 (.lst (List.replicate (8:Int).toNat [V.int 0]).flatten)):=(Same.upd Jl).updR fy;have el1:upd (upd H l0 (.lst [V.int 0])) l1 (.lst (List.replicate (8:Int).toNat [V.int 0]).flatten) l1=some (.lst ((List.replicate 8 (0:Int)).map V.int)):=ao;have A0:H l1=none:=(Same.upd Jl).free fy;generalize upd (upd H l0 (.lst [V.int 0])) l1 (.lst (List.replicate (8:Int).toNat [V.int 0]).flatten)=H1 at s1 el1⊢;refine aM ?_;dsimp only;refine aG ?_;refine bK (p:=fun i j=>decide (i<=j)) (q:=fun i j=>decide (i<=j)) (i:=fl p 2) (j:=y) (k:=fl p 3) (d7 rfl) (d7 rfl) (d7 rfl) _ ⟨_,rfl,?_⟩;by_cases fE:fl p 2<=y/\y<=fl p 3
  .rw[decide_eq_true fE.1,decide_eq_true fE.2];refine bA (cG ?_);dsimp only;refine aG ?_;refine⟨_,rfl,_,rfl,_,rfl,l1,_,fl p 0,(fl p 0).toNat,rfl,rfl,el1,vI a1 (by show fl p 0<8;exact a2),?_⟩;rw[qx];dsimp only;refine aG ?_;have LP:af≠l1:=aH rs.e A0;refine⟨_,rfl,af,rfl,⟨xs,SqT.of (by rw[aF LP];exact s1 _ _ rs.e)⟩,?_⟩
   have D0:∀{Hc:Hp} {o:HO},Same H Hc->Same H (upd Hc l1 o):=fun{Hc o} sm b u e=>by
    rw[aF (aH e A0)];exact sm _ _ e
   refine Ay (xs:=xs) (fun i σ Hc=>∃gT gX hJ nL nS,σ=[some (.ref ap),some (.ref af),some (.int n),some (.int y),some (.int (fl p 0)),some (.int (fl p 1)),some (.int (fl p 2)),some (.int (fl p 3)),some (.int (fl p 4)),some (.int (fl p 5)),some (.ref l1),gT,gX,hJ,nL,nS]/\Same H Hc/\Hc l1=some (.lst (((ss.take i).foldl (hstep n y) (base0 p)).map V.int))) ?_ ?_ ?_ ?_
   .exact⟨none,none,none,none,none,rfl,D0 s1,ao⟩
   .rintro i σ Hc hi ⟨gT,gX,hJ,nL,nS,rfl,sm,el⟩;exact SqT.of (sm _ _ rs.e)
   .rintro i x σ Hc hx ⟨gT,gX,hJ,nL,nS,rfl,sm,el⟩
    have hi:i<ss.length:=by
     have:=(zAa.mp hx).1;rw[rs.l]at this;exact this
    obtain⟨tr,df,cv⟩:=rs.g i ss[i] (zA0 hi)
    have:x=.ref tr:=by
     rw[hx]at df;exact zAl df
    subst this;obtain⟨o1,⟨o2,o3⟩,o4,o5⟩:=cx ss[i] (zAh hi);have s5:=gZ o1;have dv:ss.take (i+1)=ss.take i++[ss[i]]:=by rw[zAj,zA0 hi];rfl
    have yi:(ss.take (i+1)).foldl (hstep n y) (base0 p)=hstep n y ((ss.take i).foldl (hstep n y) (base0 p)) ss[i]:=by rw[dv,List.foldl_append];rfl
    rw[yi];generalize hL:(ss.take i).foldl (hstep n y) (base0 p)=L at el⊢
    have lL:L.length=8:=by
     have:=dG p (ss.take i) n y;unfold aY at this;rw[zAx fE,hL]at this;exact this
    generalize ss[i]=r at cv s5 o2 o3 o4 o5⊢;rw[s5]at cv;refine⟨tr,_,rfl,SqT.of (sm _ _ cv),rfl,_,_,rfl,_,_,rfl,_,_,rfl,_,_,rfl,_,_,rfl,rfl,?_⟩;refine⟨_,rfl,_,rfl,rfl,_,rfl,?_⟩;by_cases hn:fl r 0=n
    .rw[zAt (show V.int (fl r 0)=V.int n by rw[hn])];refine bQ ?_;refine⟨_,rfl,_,rfl,_,_,rfl,rfl,_,rfl,?_⟩;by_cases hy:fl r 4<=y
     .rw[zAt hy];refine bQ ?_;have e1:hstep n y L r=iY (iY L (fl r 1) (-(fl r 3))) (fl r 2) (fl r 3):=zAx ⟨hn,hy⟩;rw[e1];refine aG ?_;refine⟨_,rfl,_,rfl,l1,_,fl r 1,_,rfl,rfl,SqL.of el,o2,jn Zz,_,rfl,_,_,rfl,rfl,l1,_,fl r 1,(fl r 1).toNat,rfl,rfl,el,vI o2 (by rw[zA1];lia),?_⟩;rw[qx]
      have e2:L.set (fl r 1).toNat (L.getD (fl r 1).toNat 0-fl r 3)=iY L (fl r 1) (-(fl r 3)):=by
       unfold iY;rw[Int.sub_eq_add_neg]
      rw[e2];generalize LQ:iY L (fl r 1) (-(fl r 3))=L1;have Qy:L1.length=8:=by rw[<-LQ,gY];exact lL
      refine⟨_,rfl,_,rfl,l1,_,fl r 2,_,rfl,rfl,SqL.of ao,o4,jn Zz,_,rfl,_,_,rfl,rfl,l1,_,fl r 2,(fl r 2).toNat,rfl,rfl,ao,vI o4 (by rw[zA1];lia),?_⟩;rw[qx];exact⟨_,_,_,_,_,rfl,D0 (D0 sm),ao⟩
     .rw[zB6 hy];refine bA ?_;have e1:hstep n y L r=L:=zAv fun z=>hy z.2;rw[e1];exact⟨_,_,_,_,_,rfl,sm,el⟩
    .rw[zB6 (fun z:V.int (fl r 0)=V.int n=>hn (by injection z))];refine bA (bA ?_);have e1:hstep n y L r=L:=zAv fun z=>hn z.1;rw[e1];exact⟨_,_,_,_,_,rfl,sm,el⟩
   .rintro σ Hc ⟨gT,gX,hJ,nL,nS,rfl,sm,el⟩;rw[rs.l,zAm]at el;refine⟨_,rfl,q _ _ sm ?_⟩;unfold aY;rw[zAx fE];exact el
  .have hb:(decide (fl p 2<=y)&&decide (y<=fl p 3))=false:=by
    cases e:(decide (fl p 2<=y)&&decide (y<=fl p 3))with
    |false=>rfl
    |true=>
     rw[zAc,Zq,Zq]at e;exact absurd e fE
   rw[hb];refine bQ ⟨_,rfl,q _ _ s1 ?_⟩;unfold aY;rw[zAv fE];exact el1
theorem sO{te:TE}{lo:Int}{n:Nat}{dP:St}{j:Nat}{H0:Hp}{Fin:List V->Hp->Prop}(Pv:List V->Hp->Prop)(h0:Pv [] H0)(hz:n<sizeLine)
  (step:∀i ys H Q,i<n->ys.length=i->Pv ys H->(∀y H',Pv (ys++[y]) H'->Q y H')->te (dP.set j (some (.int (lo+i)))) H Q)
  (fin:∀ys H,ys.length=n->Pv ys H->Fin ys H):jO (Itr lo n) (bC j) wU te Fin dP H0:=by
 refine⟨fun i m ys σ H=>m=n-i/\i<=n/\ys.length=i/\(∀o,σ.set j o=dP.set j o)/\Pv ys H,⟨_,rfl,zAp _,rfl,fun _=>rfl,h0⟩,?_⟩;rintro i m ys σ H ⟨rfl,hi,hy,nc,p⟩;refine⟨Zz,?_⟩;by_cases ax:i<n
 .refine .inr ⟨ax,fun x H' y=>?_⟩;obtain⟨e,e2⟩:=y;subst e;subst e2;show te (σ.set j (some (.int (lo+i)))) H' _;rw[nc]
  exact step i ys H' _ ax hy p fun y H2 p2=>⟨n-(i+1),Zz,rfl,ax,by rw[zA2,hy];rfl,fun o=>by rw[List.set_set],p2⟩
 .have e:i=n:=Zz
  subst e;exact .inl ⟨zA3 _,fin ys H hy p⟩
theorem Hl{σ:St}{H:Hp}{ta tb:TE}{i j:Int}(a:Ev σ H ta (.int i))(b:Ev σ H tb (.int j)):Ev σ H (tOp rNe ta tb) (.bl (!decide (i=j))):=fun Q q=>a _ (b _ ⟨rfl,by
 have ed:decide (V.int i=V.int j)=decide (i=j):=decide_eq_decide.mpr ⟨fun z=>by injection z,fun z=>by rw[z]⟩;rw[ed]
 exact q⟩)
theorem jE(a b:Int):(years a b).length=(b+1-a).toNat:=by unfold years;rw[zA1,List.length_range]
theorem jF{a b:Int}{i:Nat}(h:i<(b+1-a).toNat):(years a b)[i]?=some (a+i):=by
 unfold years;rw[zAb,List.getElem?_range h];rfl
theorem oE{α β:Type}{l:List α}{f:α->β}{ys:List β}{x:α}(ey:ys=(l.take ys.length).map f)(hx:l[ys.length]?=some x):ys++[f x]=(l.take (ys++[f x]).length).map f:=by
 rw[zA2,List.length_singleton,zAj,hx,zA4,<-ey];rfl
inductive SpBetwI(vs:List V)(H:Hp)(Q:VK):Prop
 |mk:∀ap xp ps t s,(vs=[.ref ap,.ref t])->(RowsAt H ap xp ps)->((∀r∈ps,okP r))->(H t=some (.tup (s.map V.int)))->(s.length=5)->(Q (.bl (nj ps s)) H)->SpBetwI  vs H Q
def zf:Sp:=fun vs H Q _=>SpBetwI  vs H Q
inductive SpHoldsI(vs:List V)(H:Hp)(Q:VK):Prop
 |mk:∀ap xp ps af xs ss t s,(vs=[.ref ap,.ref af,.ref t])->(RowsAt H ap xp ps)->((∀r∈ps,okP r))->(RowsAt H af xs ss)->(ss.length<=12)->((∀s∈ss,okS s))->(H t=some (.tup (s.map V.int)))->(s.length=5)->(∀H',Same H H'->Q (.bl (dh ps ss s)) H')->SpHoldsI  vs H Q
def vJ:Sp:=fun vs H Q _=>SpHoldsI  vs H Q
def unV:Option Nat->V
 |none=>.non
 |some i=>.int i
inductive SpFirstI(vs:List V)(H:Hp)(Q:VK):Prop
 |mk:∀S v d S' u e,(vs=[v,u])->(IsTh S H v d)->(IsTh S' H u e)->(dX d=true)->(dY e=true)->(sz d<=4000)->(sz e<=4000)->(∀H',Same H H'->Q (unV (un (rowsOf d) (rowsOf e))) H')->SpFirstI  vs H Q
def vK:Sp:=fun vs H Q _=>SpFirstI  vs H Q
theorem dN{ps:List (List Int)}{n:Int}(h:∀r∈ps,okP r)(h0:0<=n)(h1:n<ps.length):∃p,ps[n.toNat]?=some p/\ps.getD n.toNat []=p/\okP p:=by
 have hn:n.toNat<ps.length:=Zz
 refine⟨ps[n.toNat],zA0 hn,?_,h _ (zAh hn)⟩;rw[zA7,zA0 hn];rfl
theorem eO{H:Hp}{a:Addr}{xs:List V}{rs:List (List Int)}{n:Int}{r:List Int}(h:RowsAt H a xs rs)(h0:0<=n)(e:rs[n.toNat]?=some r):∃t,atI xs n=some (.ref t)/\H t=some (.tup (r.map V.int)):=by
 obtain⟨t,e1,e2⟩:=h.g _ _ e;refine⟨t,?_,e2⟩;have:=eF e1;rw[show((n.toNat:Nat):Int)=n by lia]at this;exact this
theorem sc24s:FnScope ["promises","sale","number","seller","buyer","sacks","year","holder","sort","first","last","due","price"] ["promises","sale"] (aK (top 29)):=fQS
theorem BX(F:Fun K "is_sale_between" "is_sale_between" (top 29) f fd)(T:Mg mg)(N:Nums mg):FnOk P w K mg base CX0 1 f fd ["promises","sale"] zf:=by
 refine F.ok sc24s (fun vs H Q E h=>?_) (fun ah A outer s H vs Q E hr h=>?_)
 .obtain⟨ap,xp,ps,t,r,rfl,_⟩:=h;rfl
 .obtain⟨ap,xp,ps,t,r,rfl,rp,okp,et,h5,q⟩:=h;obtain⟨t1,e1⟩:=N.holders;obtain⟨t4,e4⟩:=N.sacks
  refine⟨_,aA (cC (pv 1) (bI rfl (aq (pgn 2 sc24s.nd) (aq (pgn 3 sc24s.nd) (aq (pgn 4 sc24s.nd) (aq (pgn 5 sc24s.nd) (aq (pgn 6 sc24s.nd) aW)))))))
   (aA (cj (bN (dR bH iI aB (pv 2) (aO bh rfl T.len PySem.boot_len (az (pv 0) aj)))) (aD (aP gG)) aZ)
   (aA (cC (pX bJ (pv 0) (pv 2)) (bI rfl (aq (pgn 7 sc24s.nd) (aq (pgn 8 sc24s.nd) (aq (pgn 9 sc24s.nd)
    (aq (pgn 10 sc24s.nd) (aq (pgn 11 sc24s.nd) (aq (pgn 12 sc24s.nd) aW))))))))
   (aD (aP (cu (cR bH iI aB (pv 3) (bT (v:=.int 8) rfl e1 ⟨_,rfl⟩)) (cu (cR bH iI aB (pv 4) (bT (v:=.int 8) rfl e1 ⟨_,rfl⟩)) (cu (iu Dh (pv 3) (pv 4) (bD _))
    (cu (cR bH bH aB (pv 5) (bT (v:=.int 99) rfl e4 ⟨_,rfl⟩)) (dU (cR bH bH (pv 9) (pv 6) (pv 10))))))))))),?_⟩
  rw[gZ h5]at et;refine aG ?_;refine⟨_,rfl,t,_,rfl,SqT.of et,rfl,_,_,rfl,_,_,rfl,_,_,rfl,_,_,rfl,_,_,rfl,rfl,?_⟩;dsimp only;refine aG ?_;refine bK (p:=fun i j=>decide (i<=j)) (q:=fun i j=>decide (i<j)) (i:=0) (j:=fl r 0) (k:=(xp.length:Int)) dW (d7 rfl) (fun Q h=>⟨_,rfl,ap,xp,rfl,.inr (SqT.of rp.e),h⟩) _ ⟨_,rfl,?_⟩;have fin:=q;unfold nj at fin;rw[rp.l]
  cases e:(decide (0<=fl r 0)&&decide (fl r 0<ps.length))with
  |false=>
   rw[e]at fin;exact bQ fin
  |true=>
   rw[e]at fin;rw[zAc,Zq,Zq]at e;obtain⟨p,hp,ep,op⟩:=dN okp e.1 e.2;obtain⟨tp,cq,cy⟩:=eO rp e.1 hp;rw[dM op.1]at cy;refine bA (cG ?_);dsimp only;refine aG ?_;refine⟨_,rfl,_,rfl,ap,xp,_,.ref tp,rfl,rfl,SqT.of rp.e,cq,?_⟩;refine⟨tp,_,rfl,SqT.of cy,rfl,_,_,rfl,_,_,rfl,_,_,rfl,_,_,rfl,_,_,rfl,_,_,rfl,rfl,?_⟩;have rL:my ps r=p:=ep;rw[rL]at fin;exact gP (bK dW (d7 rfl) dW) (fun _=>gP (bK dW (d7 rfl) dW) fun _=>gP (Hl (d7 rfl) (d7 rfl)) fun _=>gP (bK dW (d7 rfl) dW) fun _=>bK (d7 rfl) (d7 rfl) (d7 rfl)) _ fin
theorem sc25s:FnScope ["promises","ahead","sale","number","seller","buyer","sacks","year","last"] ["promises","ahead","sale"] (aK (top 30)):=fQS
theorem J6:(["at","promises","ahead","number","seller","sacks"]:List Str).Nodup:=by decide +kernel
theorem zg(F:Fun K "sale_holds" "sale_holds" (top 30) f fd)(T:Mg mg)(Tr:mg "range"=none)(c1:Cal P w K mg base 1 "is_sale_between" ["promises","sale"] zf)(c2:Cal P w K mg base 1 "held_in" ["promises","sales","number","year"] qy):
  FnOk P w K mg base CX0 2 f fd ["promises","ahead","sale"] vJ:=by
 refine F.ok sc25s (fun vs H Q E h=>?_) (fun ah A outer s H vs Q E hr h=>?_)
 .obtain⟨ap,xp,ps,af,xs,ss,t,r,rfl,_⟩:=h;rfl
 .obtain⟨ap,xp,ps,af,xs,ss,t,r,rfl,rp,okp,rs,hl,cx,et,h5,q⟩:=h
  refine⟨_,aA (cj (bN (d8 (aJ c1 hr (az (pv 0) (az (pv 2) aj))))) (aD (aP gG)) aZ)
   (aA (cC (pv 2) (bI rfl (aq (bF (i:=3) sc25s.nd rfl (Or.inr rfl)) (aq (bF (i:=4) sc25s.nd rfl (Or.inr rfl)) (aq (pgn 5 sc25s.nd) (aq (bF (i:=6) sc25s.nd rfl (Or.inr rfl)) (aq (pgn 7 sc25s.nd) aW)))))))
   (aA (pss 8 sc25s.nd (pX bJ (pX bJ (pv 0) (pv 3)) aB))
   (aD (aP (aO (eV rfl) rfl T.all boot_all (az (cF ["at","promises","ahead","number","seller","sacks"] [none,some 0,some 1,some 3,some 4,some 6] rfl (ir rfl Tr (az (pv 7) (az (aR bz (pv 8) aB) aj)))
    (fun C fp Zt s₂ H₂=>⟨pgn 0 J6,cD,iu yq (pX (sy (K:=K) rfl) (aJ c2 hr (az (pv 1) (az (pv 2) (az (pv 3) (az (pv 0) aj))))) (pv 4)) (pv 5) (bD _)⟩)
    (fun C=>cI (cI (cI (cI (cI trivial))))) ⟨rfl,rfl,rfl,rfl⟩) aj)))))),?_⟩
  have fin:=q;unfold dh at fin;refine aG ?_;refine⟨_,rfl,_,rfl,ap,xp,ps,t,r,rfl,rp,okp,et,h5,_,rfl,?_⟩
  cases e:nj ps r with
  |false=>
   rw[e]at fin;exact bQ (fin _ (Same.refl _))
  |true=>
   rw[e]at fin;refine bA (cG ?_);dsimp only;refine aG ?_;unfold nj at e;simp only[Bool.and_eq_true,Zq]at e;obtain⟨⟨n0,n1⟩,⟨b0,b1⟩,_,_,⟨k0,k1⟩,y0,y1⟩:=e;obtain⟨p,hp,ep,op⟩:=dN okp n0 n1;have rL:my ps r=p:=ep;rw[rL]at fin y0 y1;obtain⟨tp,cq,cy⟩:=eO rp n0 hp;rw[gZ h5]at et;rw[dM op.1]at cy;obtain⟨_,_,_,⟨g1,g2,g3⟩,_⟩:=id op;refine⟨_,rfl,t,_,rfl,SqT.of et,rfl,_,_,rfl,_,_,rfl,_,_,rfl,_,_,rfl,_,_,rfl,rfl,?_⟩;dsimp only;refine aG (aX ?_);refine⟨_,rfl,_,rfl,ap,xp,_,.ref tp,rfl,rfl,SqT.of rp.e,cq,tp,_,3,.int (fl p 3),rfl,rfl,SqT.of cy,rfl,?_⟩;refine aM ?_;dsimp only;refine⟨_,rfl,_,rfl,_,_,rfl,rfl,fl r 4,fl p 3+1,rfl,⟨Zz,Zz,Zz,Zz⟩,?_⟩;refine sO (fun ys Hc=>Same H Hc/\ys=((years (fl r 4) (fl p 3)).take ys.length).map fun y=>V.bl (decide (fl r 3<=(aY p ss (fl r 0) y).getD (fl r 1).toNat 0))) ⟨Same.refl _,rfl⟩ Zu ?_ ?_
   .rintro i ys Hc Qc hi hy ⟨sc,ey⟩ qc;refine⟨_,rfl,_,rfl,_,rfl,_,rfl,ap,xp,ps,af,xs,ss,fl r 0,fl r 4+i,rfl,rp.same sc,rs.same sc,n0,n1,by rw[ep];exact op,hl,cx,fun l H' s' el=>?_⟩;rw[ep]at el;refine⟨_,rfl,l,_,fl r 1,.int ((aY p ss (fl r 0) (fl r 4+i)).getD (fl r 1).toNat 0),rfl,rfl,SqL.of el,?_,_,rfl,_,_,rfl,rfl,qc _ _ ⟨sc.trans s',?_⟩⟩
    .unfold atI;rw[vI b0 (by rw[zA1,dG];lia)];exact jn (by rw[dG];lia)
    .have hx:(years (fl r 4) (fl p 3))[ys.length]?=some (fl r 4+(i:Int)):=by
      rw[hy];exact jF hi
     exact oE ey hx
   .rintro ys Hc hy ⟨sc,ey⟩ D hD;rw[List.take_of_length_le (by rw[jE,hy];exact zA3 _)]at ey;refine⟨D,(years (fl r 4) (fl p 3)).map fun y=>decide (fl r 3<=(aY p ss (fl r 0) y).getD (fl r 1).toNat 0),rfl,SqL.of (by rw[zAr];rw[ey];exact ao),?_⟩;rw[List.all_map];exact fin _ (sc.updR hD)
theorem mz{xs:List V}{i:Nat}(h:i<=xs.length):mK xs none (some (i:Int))=xs.take i:=by
 unfold mK;rw[HT.sIx_none,HT.sIx_nat,List.drop_zero,Nat.min_eq_left h,Nat.sub_zero]
theorem RowsAt.cut{H:Hp}{a p:Addr}{xs:List V}{rs:List (List Int)}(h:RowsAt H a xs rs)(i:Nat)(hp:H p=none):RowsAt (upd H p (.tup (xs.take i))) p (xs.take i) (rs.take i):=by
 refine⟨ao,by rw[zAd,zAd,h.l],fun j r e=>?_⟩
 have hj:j<i:=by
  rw[List.getElem?_take]at e;split at e
  .assumption
  .cases e
 rw[List.getElem?_take_of_lt hj]at e;obtain⟨t,e1,e2⟩:=h.g j r e;exact⟨t,by rw[List.getElem?_take_of_lt hj];exact e1,Same.upd hp _ _ e2⟩
theorem qC{ps ss:List (List Int)}{i:Nat}(h:∀j,j<i->dh ps (ss.take j) (ss.getD j [])=true)(hi:i<ss.length)(hn:dh ps (ss.take i) (ss.getD i [])=false):un ps ss=some i:=by
 unfold un;rw[List.find?_range_eq_some];exact⟨by rw[hn];rfl,List.mem_range.mpr hi,fun j hj=>by rw[h j hj];rfl⟩
theorem vL{ps ss:List (List Int)}(h:∀j,j<ss.length->dh ps (ss.take j) (ss.getD j [])=true):un ps ss=none:=by
 unfold un;rw[List.find?_range_eq_none]
 exact fun j hj=>by rw[h j hj];rfl
theorem jo{ps ss:List (List Int)}{s:List Int}(h5:s.length=5)(h:dh ps ss s=true):okS s:=by
 unfold dh nj at h;simp only[Bool.and_eq_true,Zq]at h;exact⟨h5,h.1.2.1,h.1.2.2.1⟩
theorem getD_get{ss:List (List Int)}{i:Nat}(h:i<ss.length):ss.getD i []=ss[i]:=by
 rw[zA7,zA0 h];rfl
def part(d:PyData)(i:Nat):PyData:=(items d).getD i .none
def jQ(d:PyData):Bool:=bu d 3 3&&(gW (part d 0)&&(dX (part d 1)&&(dY (part d 2)&&(un (rowsOf (part d 1)) (rowsOf (part d 2))).isNone)))
theorem sc26s:FnScope ["promises","sales","at","sale"] ["promises","sales"] (aK (top 31)):=fQS
theorem zj(F:Fun K "first_unheld" "first_unheld" (top 31) f fd)(Te:mg "enumerate"=none)(c1:Cal P w K mg base 4 "are_promises" ["thing"] (spT dX))(c2:Cal P w K mg base 3 "are_sales" ["thing"] (spT dY))(c3:Cal P w K mg base 2 "sale_holds" ["promises","ahead","sale"] vJ):
  FnOk P w K mg base CX0 5 f fd ["promises","sales"] vK:=by
 refine F.ok sc26s (fun vs H Q E h=>?_) (fun ah A outer s H vs Q E hr h=>?_)
 .obtain⟨S,v,d,S',u,e,rfl,_⟩:=h;rfl
 .obtain⟨S,v,d,S',u,e,rfl,A2,ths,hp,hs,zp,zs,q⟩:=h
  refine⟨_,aA (cj (bN (d8 (aJ c1 hr (az (pv 0) aj)))) nA aZ)
   (aA (cj (bN (d8 (aJ c2 hr (az (pv 1) aj)))) nA aZ)
   (aA (bV zB4 rfl (ZT.pi_enum true rfl Te (az (pv 1) aj)) (bI rfl (aq (pgn 2 sc26s.nd) (aq (pgn 3 sc26s.nd) aW)))
    (aD (cj (bN (d8 (aJ c3 hr (az (pv 0) (az (qW Bu (pv 1) uZ (v5 (pv 2))) (az (pv 3) aj)))))) (aD (aP (pv 2))) aZ)))
   (aD (aP oY)))),?_⟩
  refine aG ?_;refine⟨_,rfl,S,v,d,rfl,A2,zp,fun H1 s1=>⟨_,rfl,?_⟩⟩;rw[hp];refine bA (cG ?_);dsimp only;refine aG ?_;refine⟨_,rfl,S',u,e,rfl,ths.same s1,zs,fun H2 s2=>⟨_,rfl,?_⟩⟩;rw[hs];refine bA (cG ?_);dsimp only;have A3:=s1.trans s2;obtain⟨ep,lp,okp⟩:=uE hp;obtain⟨es,ls,cx⟩:=uF hs;have eC:=A2.same A3;have D6:=ths.same A3;rw[ep]at eC;rw[es]at D6;generalize rowsOf d=ps at q lp okp eC;generalize rowsOf e=ss at q ls cx D6;obtain⟨ap,xp,rfl,rp⟩:=jZ eC;obtain⟨af,xs,rfl,rs⟩:=jZ D6;refine aG ?_;refine⟨_,rfl,af,xs,rfl,SqT.of rs.e,?_⟩;refine ZT.for_enum true (xs:=xs) (fun i σ Hc=>∃x2 x3,σ=[some (.ref ap),some (.ref af),x2,x3]/\Same H2 Hc/\∀j,j<i->dh ps (ss.take j) (ss.getD j [])=true) ?_ ?_ ?_ ?_
  .exact⟨none,none,rfl,Same.refl _,fun j hj=>absurd hj (Nat.not_lt_zero _)⟩
  .rintro i σ Hc hi ⟨x2,x3,rfl,sm,hh⟩;exact SqT.of (sm _ _ rs.e)
  .rintro i x σ Hc T0 hx ⟨x2,x3,rfl,sm,hh⟩ nT
   have hi:i<ss.length:=by
    have:=(zAa.mp hx).1;rw[rs.l]at this;exact this
   have LR:i<xs.length:=by rw[rs.l];exact hi
   obtain⟨tr,df,cv⟩:=rs.g i ss[i] (zA0 hi)
   have:x=.ref tr:=by
    rw[hx]at df;exact zAl df
   subst this;have h5:=cx ss[i] (zAh hi);have sT:=sm.updR (o:=.tup [V.int i,V.ref tr]) nT;refine⟨T0,_,rfl,SqT.of ao,rfl,_,_,rfl,_,_,rfl,rfl,?_⟩;refine⟨_,rfl,_,rfl,_,rfl,i,rfl,af,xs,rfl,SqT.of (sT _ _ rs.e),fun hw=>?_,fun _ p Jm=>?_⟩
   .have:=hw.2;rw[HT.sIx_nat]at this;exact absurd this Zz
   rw[mz (Nat.le_of_lt LR)];have sp:=sT.updR (o:=.tup (xs.take i)) Jm;refine⟨_,rfl,ap,xp,ps,p,xs.take i,ss.take i,tr,ss[i],rfl,rp.same sp,okp,(rs.same sT).cut i Jm,?_,?_,sp _ _ cv,h5,fun H' s'=>⟨_,rfl,?_⟩⟩
   .rw[zAd];lia
   .intro s bS;obtain⟨j,hj,e'⟩:=List.getElem_of_mem bS;rw[zAd]at hj;have LS:j<i:=Zz
    have Jn:j<ss.length:=Zz
    have e2:ss[j]=s:=by rw[<-e',List.getElem_take]
    rw[<-e2];have:=hh j LS;rw[getD_get Jn]at this;exact jo (cx _ (zAh Jn)) this
   .cases eh:dh ps (ss.take i) ss[i]with
    |false=>
     refine bQ ⟨_,rfl,?_⟩;have:=q H' (A3.trans (sp.trans s'));rw[qC hh hi (by rw[getD_get hi];exact eh)]at this;exact this
    |true=>
     refine bA ⟨_,_,rfl,sp.trans s',fun j hj=>?_⟩;rcases Nat.lt_succ_iff_lt_or_eq.mp hj with z|z
     .exact hh j z
     .rw[z,getD_get hi];exact eh
  .rintro σ Hc ⟨x2,x3,rfl,sm,hh⟩;have:=q Hc (A3.trans sm);rw[vL fun j hj=>hh j (by rw[rs.l];exact hj)]at this;exact this
theorem sc27s:FnScope ["thing","clips","promises","sales"] ["thing"] (aK (top 32)):=fQS
theorem BZ(F:Fun K "is_book" "is_book" (top 32) f fd)(c0:Cal P w K mg base 1 "is_tuple_of" ["thing","fewest","most"] (jA bu))(c1:Cal P w K mg base 4 "are_clips" ["thing"] (spT gW))(c2:Cal P w K mg base 4 "are_promises" ["thing"] (spT dX))(c3:Cal P w K mg base 3 "are_sales" ["thing"] (spT dY))(c4:Cal P w K mg base 5 "first_unheld" ["promises","sales"] vK):
  FnOk P w K mg base CX0 6 f fd ["thing"] (spT jQ):=by
 refine F.ok sc27s (fun vs H Q E h=>?_) (fun ah A outer s H vs Q E hr h=>?_)
 .obtain⟨S,v,d,rfl,_⟩:=h;rfl
 .obtain⟨S,v,d,rfl,th,hz,q⟩:=h
  refine⟨_,aA (cj (bN (d8 (aJ c0 hr (az (pv 0) (az aB (az aB aj)))))) (aD (aP gG)) aZ)
   (aA (cC (pv 0) (bI rfl (aq (pgn 1 sc27s.nd) (aq (pgn 2 sc27s.nd) (aq (pgn 3 sc27s.nd) aW)))))
   (aD (aP (cu (aJ c1 hr (az (pv 1) aj)) (cu (aJ c2 hr (az (pv 2) aj)) (cu (aJ c3 hr (az (pv 3) aj)) (dU (iu yr (aJ c4 hr (az (pv 2) (az (pv 3) aj))) oY (bD _))))))))),?_⟩
  have fin:=q;unfold jQ at fin;refine aG ?_;refine⟨_,rfl,S,v,d,3,3,rfl,th,hz,fun H1 s1=>⟨_,rfl,?_⟩⟩
  cases e:bu d 3 3 with
  |false=>
   rw[e]at fin;exact bQ (fin _ s1)
  |true=>
   rw[e]at fin;refine bA (cG ?_);dsimp only;obtain⟨ds,rfl,l1,l2⟩:=jD e;have eC:=th.same s1
   cases eC with
   |@tup a xs _ ea r=>
    obtain⟨v0,v1,v2,d0,d1,d2,rfl,rfl,h0,h1,h2⟩:=xH r (show ds.length=3 by lia);have z0:=jk (d:=d0) Zy hz;have z1:=jk (d:=d1) Zy hz;have z2:=jk (d:=d2) Zy hz;refine aG ?_;refine⟨_,rfl,a,_,rfl,SqT.of ea,rfl,_,_,rfl,_,_,rfl,_,_,rfl,rfl,?_⟩;dsimp only;have fin:∀H',Same H H'->Q (.bl (true&&(gW d0&&(dX d1&&(dY d2&&(un (rowsOf d1) (rowsOf d2)).isNone))))) H':=fin;refine⟨_,rfl,S,_,d0,rfl,h0,z0,fun H2 s2=>⟨_,rfl,?_⟩⟩
    cases e0:gW d0 with
    |false=>
     rw[e0]at fin;exact bA (fin _ (s1.trans s2))
    |true=>
     rw[e0]at fin;refine bQ ?_;refine⟨_,rfl,S,_,d1,rfl,h1.same s2,z1,fun H3 s3=>⟨_,rfl,?_⟩⟩
     cases e1:dX d1 with
     |false=>
      rw[e1]at fin;exact bA (fin _ ((s1.trans s2).trans s3))
     |true=>
      rw[e1]at fin;refine bQ ?_;refine⟨_,rfl,S,_,d2,rfl,h2.same (s2.trans s3),z2,fun H4 s4=>⟨_,rfl,?_⟩⟩
      cases e2:dY d2 with
      |false=>
       rw[e2]at fin;exact bA (fin _ (((s1.trans s2).trans s3).trans s4))
      |true=>
       rw[e2]at fin;refine bQ ?_;have D7:=(s2.trans s3).trans s4;refine⟨_,rfl,_,rfl,S,_,d1,S,_,d2,rfl,h1.same D7,h2.same D7,e1,e2,z1,z2,fun H5 s5=>⟨rfl,?_⟩⟩;have:=fin H5 (s1.trans (D7.trans s5))
       cases eu:un (rowsOf d1) (rowsOf d2)with
       |none=>
        rw[eu]at this;exact this
       |some i=>
        rw[eu]at this;exact this
def Els(H:Hp)(xs:List V)(rs:List (List Int)):Prop:=xs.length=rs.length/\∀(i:Nat) (r:List Int),rs[i]?=some r->∃t,xs[i]?=some (V.ref t)/\H t=some (.tup (r.map V.int))
theorem Els.keep{H H':Hp}{xs:List V}{rs:List (List Int)}(h:Els H xs rs)(k:∀b l,H b=some (.tup l)->H' b=some (.tup l)):Els H' xs rs:=
 ⟨h.1,fun i r e=>by
  obtain⟨t,e1,e2⟩:=h.2 i r e
  exact⟨t,e1,k _ _ e2⟩⟩
theorem Els.same{H H':Hp}{xs:List V}{rs:List (List Int)}(h:Els H xs rs)(s:Same H H'):Els H' xs rs:=h.keep fun _ _ e=>s _ _ e
theorem Els.nil{H:Hp}:Els H [] []:=⟨rfl,fun i r e=>by simp at e⟩
theorem Els.app{H:Hp}{xs ys:List V}{rs qs:List (List Int)}(h:Els H xs rs)(g:Els H ys qs):Els H (xs++ys) (rs++qs):=by
 refine⟨by rw[zA2,zA2,h.1,g.1],fun i r e=>?_⟩;by_cases hi:i<rs.length
 .rw[zBb hi]at e;obtain⟨t,e1,e2⟩:=h.2 i r e;exact⟨t,by rw[zBb (by rw[h.1];exact hi)];exact e1,e2⟩
 .rw[zBd Zz]at e;obtain⟨t,e1,e2⟩:=g.2 _ r e;exact⟨t,by rw[zBd (by rw[h.1];lia),h.1];exact e1,e2⟩
theorem Els.one{H:Hp}{t:Addr}{r:List Int}(e:H t=some (.tup (r.map V.int))):Els H [.ref t] [r]:=⟨rfl,fun i q e'=>by
 cases i with
 |zero=>
  rw[List.getElem?_cons_zero]at e';cases e';exact⟨t,rfl,e⟩
 |succ i=>simp at e'⟩
theorem cN{r:List Int}(h:r.length=4):r=[fl r 0,fl r 1,fl r 2,fl r 3]:=by
 match r,h with
 |[a,b,c,d],_=>rfl
theorem xM{t:TS}{D:Ends}{N:L2.St->Hp->Prop}{σ:L2.St}{H:Hp}(h:∀D':Ends,(∀σ H,N σ H->D'.nx σ H)->t D' σ H):t {D with nx:=N,ct:=N,bk:=D.nx} σ H:=h _ fun _ _ z=>z
theorem fY{J:It}{g:TG}{te:TE}{dP:St}{H0:Hp}{Fin:List V->Hp->Prop}(n:Nat)(Pv:Nat->List V->St->Hp->Prop)(h0:Pv 0 [] dP H0)(hz:n<sizeLine)
  (step:∀i ys σ H,i<n->ys.length=i->Pv i ys σ H->J.go i H/\∀x H',J.yld i H x H'->∀R:V->St->Hp->Prop,(∀y aS H4,Pv (i+1) (ys++[y]) aS H4->R y aS H4)->g x σ H' fun aS H2=>te aS H2 fun y H4=>R y aS H4)
  (fin:∀ys σ H,ys.length=n->Pv n ys σ H->J.stop n H/\Fin ys H):jO J g wU te Fin dP H0:=by
 refine⟨fun i m ys σ H=>m=n-i/\i<=n/\ys.length=i/\Pv i ys σ H,⟨_,rfl,zAp _,rfl,h0⟩,?_⟩;rintro i m ys σ H ⟨rfl,hi,hy,p⟩;refine⟨Zz,?_⟩;by_cases ax:i<n
 .obtain⟨go,st⟩:=step i ys σ H ax hy p;exact .inr ⟨go,fun x H' y=>st x H' y _ fun y aS H4 p2=>⟨n-(i+1),Zz,rfl,ax,by rw[zA2,hy];rfl,p2⟩⟩
 .have e:i=n:=Zz
  subst e;exact .inl (fin ys σ H hy p)
def wts(rs:List (List Int)):List Int:=rs.map fun r=>fl r 3
def aN(rs:List (List Int)):Int:=(wts rs).sum
inductive SpSacksI(vs:List V)(H:Hp)(Q:VK):Prop
 |mk:∀l xs rs,(vs=[.ref l])->(H l=some (.lst xs))->(Els H xs rs)->((∀r∈rs,r.length=4))->(rs.length<=100000)->(∀H',Same H H'->Q (.int (aN rs)) H')->SpSacksI  vs H Q
def vM:Sp:=fun vs H Q _=>SpSacksI  vs H Q
theorem boot_sum:bootBuiltins "sum"=some (.builtin "sum"):=by decide +kernel
theorem nd4:(["due","number","holder","sacks"]:List Str).Nodup:=by decide +kernel
theorem J7:FnScope ["rows"] ["rows"] (aK (top 44)):=fQS
theorem zm(F:Fun K "sacks_of" "sacks_of" (top 44) f fd)(Ts:mg "sum"=none):FnOk P w K mg base CX0 1 f fd ["rows"] vM:=by
 refine F.ok J7 (fun vs H Q E h=>?_) (fun ah A outer s H vs Q E hr h=>?_)
 .obtain⟨l,xs,rs,rfl,_⟩:=h;rfl
 .obtain⟨l,xs,rs,rfl,el,eI,h4,hz,q⟩:=h
  refine⟨_,aD (aP (aO (dD rfl) rfl Ts boot_sum (az (cF (g:=jR K 4 (bY (bC 0) (bY (bC 1) (bY (bC 2) (bY (bC 3) kI))))) ["due","number","holder","sacks"] [none,none,none,none] rfl (dz (pv 0))
   (fun C fp Zt s₂ H₂=>⟨dJ rfl rfl (aq (pgn 0 nd4) (aq (pgn 1 nd4) (aq (pgn 2 nd4) (aq (pgn 3 nd4) aW)))),cD,pv 3⟩) (fun C=>trivial) ⟨rfl,rfl,rfl,rfl⟩) aj))),?_⟩
  refine⟨_,rfl,l,rfl,⟨_,SqL.of el⟩,fY rs.length (fun i ys σ Hc=>Same H Hc/\(∃o1 o2 o3 o4,σ=[o1,o2,o3,o4])/\ys=(wts (rs.take i)).map V.int) ⟨Same.refl H,⟨_,_,_,_,rfl⟩,rfl⟩ Zu ?_ ?_⟩
  .rintro i ys σ Hc hi hy ⟨s1,⟨o1,o2,o3,o4,rfl⟩,rfl⟩;obtain⟨t,ex,et⟩:=eI.2 i rs[i] (zA0 hi);rw[cN (h4 _ (zAh hi))]at et;refine⟨⟨_,_,SqL.of (s1 _ _ el),ex⟩,fun v H' y R hR=>?_⟩;obtain⟨rfl,y⟩:=y;have hv:=y _ (SqL.of (s1 _ _ el));rw[ex]at hv;cases hv;refine⟨t,_,rfl,SqT.of (s1 _ _ et),rfl,_,_,rfl,_,_,rfl,_,_,rfl,_,_,rfl,rfl,_,rfl,hR _ _ _ ⟨s1,⟨_,_,_,_,rfl⟩,?_⟩⟩;unfold wts;rw[zAj,zA0 hi,zA4,zA4];rfl
  .rintro ys σ Hc hy ⟨s1,_,rfl⟩;refine⟨⟨_,SqL.of (s1 _ _ el),by rw[eI.1];exact zA3 _⟩,fun D hD=>?_⟩;rw[zAm];exact⟨D,wts rs,rfl,.inl (SqL.of ao),q _ (s1.updR hD)⟩
end K22
open K22 (top cY items intOf bu nd1 yV qt qu jk eZ spT jA Mg boot_tuple boot_all d9 Cal aJ jW boot_sum fY sc1 iG mz)
namespace K22P
open PySem L2
structure Nums(mg:Str->Option Value):Prop where
 many:∃t,mg "MOST_WEIGHTS"=some (.int 80 t)
 most:∃t,mg "MOST_WEIGHT"=some (.int 99 t)
def ie(d:PyData):Bool:=bu d 1 80&&(items d).all fun x=>jW x 1 99
theorem boot_sorted:bootBuiltins "sorted"=some (.builtin "sorted"):=by decide +kernel
theorem nd2(x y:Str)(h:x≠y):([x,y]:List Str).Nodup:=by simp[h]
section
variable{P:Program}{w:World}{K:Frag}{mg:Str->Option Value}{base:Heap}{f:Addr}{fd:FuncData}
theorem sc19:FnScope ["thing"] ["thing"] (aK (top 38)):=fQS
theorem ok_are_weights(F:Fun K "are_weights" "are_weights" (top 38) f fd)(T:Mg mg)(N:Nums mg)(c1:Cal P w K mg base 2 "is_whole_from" ["thing","least","most"] (jA jW))(c2:Cal P w K mg base 1 "is_tuple_of" ["thing","fewest","most"] (jA bu)):
  FnOk P w K mg base CX0 4 f fd ["thing"] (spT ie):=by
 refine F.ok sc19 (fun vs H Q E h=>?_) (fun ah A outer s H vs Q E hr h=>?_)
 .obtain⟨S,v,d,rfl,_⟩:=h;rfl
 .obtain⟨S,v,d,rfl,th,hz,q⟩:=h;obtain⟨t3,e3⟩:=N.many;obtain⟨t4,e4⟩:=N.most
  refine⟨_,aD (aP (cu (aJ c2 hr (aQ (pv 0) (aQ aB (aQ (bT (v:=.int 80) rfl e3 ⟨_,rfl⟩) aj))))
   (dU (aO (eV rfl) rfl T.all boot_all (aQ (cF ["part"] [none] rfl (gm (pv 0))
    (fun C fp Zt s₂ H₂=>⟨bF (i:=0) (nd1 _) rfl (Or.inl rfl),cD,aJ c1 hr (aQ (pv 0) (aQ aB (aQ (bT (v:=.int 99) rfl e4 ⟨_,rfl⟩) aj)))⟩) (fun C=>trivial) ⟨rfl,rfl,rfl,rfl⟩) aj))))),?_⟩
  refine⟨_,rfl,S,v,d,1,80,rfl,th,hz,fun H1 s1=>⟨_,rfl,?_⟩⟩;have eC:=th.same s1;have fin:=fun H' (s:Same H H')=>q H' s;unfold ie at fin
  cases e:bu d 1 80 with
  |false=>
   rw[e]at fin;exact bA (fin _ s1)
  |true=>
   rw[e]at fin;refine bQ ?_
   cases eC with
   |@tup a xs ds ea r=>exact d9 (fun x=>jW x 1 99) rfl ea r (eZ r hz) (fun v d H2 Q2 hm s2 t2 q2=>⟨_,rfl,S,v,d,1,99,rfl,t2,jk hm hz,q2⟩) fun H2 s2=>fin _ (s1.trans s2)
   |_=>cases e
end
section
variable{X:Cx}{K:Frag}{tg l:Expr}{tl:TE}
theorem ix_tupK(hK:X.K=K):IxR X (Gm K):=by
 subst hK;exact bJ
end
section
variable{P:Program}{w:World}{K:Frag}{mg:Str->Option Value}{base:Heap}{f:Addr}{fd:FuncData}
end
theorem ok_b{X:Cx}{body:List Stmt}{t:TS}{R:TS->Prop}(h:BSs X body t)(q:R t):∃t,PSs X body t/\R t:=⟨t,h.run,q⟩
def rr(rs:List Int)(i:Nat):Int:=rs.getD i 0
def bef(rs:List Int)(i j:Nat):Bool:=decide (rr rs j<rr rs i)||(decide (rr rs i=rr rs j)&&decide (i<=j))
theorem jq{rs:List Int}{i j:Nat}:bef rs i j=true↔rr rs j<rr rs i\/(rr rs i=rr rs j/\i<=j):=by
 unfold bef;rw[Bool.or_eq_true,zAc,decide_eq_true_iff,decide_eq_true_iff,decide_eq_true_iff]
structure Ord(rs:List Int)(pl:List Nat):Prop where
 pm:pl.Perm (List.range rs.length)
 so:pl.Pairwise fun i j=>bef rs i j=true
theorem ig(rs:List Int):∃pl,Ord rs pl:=by
 refine⟨(List.range rs.length).mergeSort (bef rs),List.mergeSort_perm _ _,List.pairwise_mergeSort (fun a b c h1 h2=>?_) (fun a b=>?_) _⟩
 .rw[jq]at h1 h2⊢;lia
 .rw[Bool.or_eq_true,jq,jq];lia
theorem Fo{rs:List Int}{p q:List Nat}(h:Ord rs p)(h':Ord rs q):p=q:=by
 refine List.Perm.eq_of_pairwise (fun a b _ _ h1 h2=>?_) h.so h'.so (h.pm.trans h'.pm.symm);rw[jq]at h1 h2;lia
def dw(fs:List Int)(pl:List Nat):List Int:=pl.foldl (fun l i=>l.set i (l.getD i 0+1)) fs
theorem uG(fs:List Int)(pl:List Nat)(i:Nat):dw fs (pl++[i])=(dw fs pl).set i ((dw fs pl).getD i 0+1):=by
 unfold dw;rw[List.foldl_append];rfl
theorem jG:∀(pl:List Nat) (fs:List Int),(dw fs pl).length=fs.length
 |[],_=>rfl
 |i::pl,fs=>by
  show(dw (fs.set i _) pl).length=_;rw[jG pl,List.length_set]
def fs(n:Int)(ws:List Int):List Int:=ws.map fun w=>n*w / ws.sum
def rs(n:Int)(ws:List Int):List Int:=ws.map fun w=>n*w % ws.sum
def lf(n:Int)(ws:List Int):Int:=n-(fs n ws).sum
def OkW(ws:List Int):Prop:=1<=ws.length/\ws.length<=80/\∀w∈ws,1<=w/\w<=99
theorem qD{B:Int}:∀{l:List Int},(∀a∈l,a<=B)->l.sum<=B*l.length
 |[],_=>by simp
 |a::l,h=>by
  have h1:=qD (B:=B) (l:=l) fun b hb=>h b (.tail _ hb);have h2:=h a (.head _);rw[List.sum_cons,List.length_cons,show B*((l.length+1:Nat):Int)=B*l.length+B by rw[Int.natCast_add,Int.mul_add];simp];lia
theorem gC:∀{l:List Int},(∀a∈l,0<=a)->0<=l.sum
 |[],_=>by simp
 |a::l,h=>by
  have h1:=gC (l:=l) fun b hb=>h b (.tail _ hb);have h2:=h a (.head _);rw[List.sum_cons];lia
theorem OkW.pos{ws:List Int}(h:OkW ws):1<=ws.sum:=by
 obtain⟨h1,_,h3⟩:=h
 match ws,h1,h3 with
 |w::ws,_,h3=>
  have:=gC (l:=ws) fun a ha=>by have:=h3 a (.tail _ ha);lia
  have:=h3 w (.head _);rw[List.sum_cons];lia
theorem OkW.top{ws:List Int}(h:OkW ws):ws.sum<=7920:=by
 have h1:=qD (B:=99) fun a ha=>(h.2.2 a ha).2;have:=h.2.1;lia
theorem divs(n T:Int):∀ws:List Int,T*(ws.map fun w=>n*w / T).sum+(ws.map fun w=>n*w % T).sum=n*ws.sum
 |[]=>by simp
 |w::ws=>by
  have h1:=divs n T ws;have h2:=Int.mul_ediv_add_emod (n*w) T;simp only[List.map_cons,List.sum_cons,Int.mul_add];lia
theorem Fp(n:Int)(ws:List Int):ws.sum*lf n ws=(rs n ws).sum:=by
 have h:=divs n ws.sum ws;unfold lf fs rs;rw[Int.mul_sub,Int.mul_comm ws.sum n];lia
theorem Hm{n:Int}{ws:List Int}(h:OkW ws):∀r∈rs n ws,0<=r:=fun r hr=>by
 obtain⟨w,_,rfl⟩:=zA5.mp hr;have:=h.pos;exact Int.emod_nonneg _ Zz
theorem Hn{n:Int}{ws:List Int}(h:OkW ws):∀r∈rs n ws,r<=ws.sum:=fun r hr=>by
 obtain⟨w,_,rfl⟩:=zA5.mp hr;have:=h.pos;exact Int.le_of_lt (Int.emod_lt_of_pos _ Zz)
theorem qF(n:Int)(ws:List Int):(fs n ws).length=ws.length:=zA1 _
theorem jH(n:Int)(ws:List Int):(rs n ws).length=ws.length:=zA1 _
theorem zq{n:Int}{ws:List Int}(h:OkW ws):0<=lf n ws:=by
 have h1:=Fp n ws;have h2:=gC (Hm (n:=n) h);have h3:=h.pos;refine Int.le_of_not_gt fun c=>?_;have:=Int.mul_le_mul_of_nonneg_left (c:=ws.sum) (show lf n ws<=-1 by lia) Zz;lia
theorem Ds{n:Int}{ws:List Int}(h:OkW ws):lf n ws<=ws.length:=by
 have h1:=Fp n ws;have h2:=qD (Hn (n:=n) h);rw[jH]at h2;have h3:=h.pos;refine Int.le_of_not_gt fun c=>?_;have:=Int.mul_le_mul_of_nonneg_left (c:=ws.sum) (show(ws.length:Int)+1<=lf n ws by lia) Zz;rw[Int.mul_add]at this;lia
theorem Fq{ws:List Int}(h:OkW ws):lf ws.sum ws=0:=by
 have h1:=Fp ws.sum ws
 have h2:(rs ws.sum ws).sum<=0:=by
  have:=qD (B:=0) (l:=rs ws.sum ws) fun r hr=>by
   obtain⟨w,_,rfl⟩:=zA5.mp hr;rw[Int.mul_emod_right];exact Int.le_refl _
  lia
 have h3:=h.pos;have h4:=zq (n:=ws.sum) h;refine Int.le_antisymm (Int.le_of_not_gt fun c=>?_) h4;have:=Int.mul_le_mul_of_nonneg_left (c:=ws.sum) (show 1<=lf ws.sum ws by lia) Zz;lia
theorem oF:∀(pl:List Nat) (l:List Int) (i:Nat),i<l.length->(dw l pl).getD i 0=l.getD i 0+pl.count i
 |[],l,i,_=>by simp[dw]
 |j::pl,l,i,h=>by
  show(dw (l.set j (l.getD j 0+1)) pl).getD i 0=_;rw[oF pl _ i (by rw[List.length_set];exact h),List.count_cons];by_cases e:j=i
  .subst e;rw[zA7,List.getElem?_set_self h,Option.getD_some,beq_self_eq_true,zAx rfl];lia
  .rw[List.getD_eq_getElem?_getD,List.getElem?_set_ne e,<-List.getD_eq_getElem?_getD,if_neg (by simp[e])];lia
theorem Ord.nd{r:List Int}{pl:List Nat}(h:Ord r pl):pl.Nodup:=h.pm.nodup_iff.mpr List.nodup_range
theorem Ord.len{r:List Int}{pl:List Nat}(h:Ord r pl):pl.length=r.length:=by rw[h.pm.length_eq,List.length_range]
theorem Ord.lt{r:List Int}{pl:List Nat}(h:Ord r pl):∀i∈pl,i<r.length:=fun i hi=>List.mem_range.mp (h.pm.mem_iff.mp hi)
def res(n:Int)(ws:List Int):List Int:=dw (fs n ws) ((ig (rs n ws)).choose.take (lf n ws).toNat)
theorem Ft{n:Int}{ws:List Int}{pl:List Nat}(h:Ord (rs n ws) pl):dw (fs n ws) (pl.take (lf n ws).toNat)=res n ws:=by
 unfold res;rw[Fo h (ig (rs n ws)).choose_spec]
theorem res_len(n:Int)(ws:List Int):(res n ws).length=ws.length:=by
 unfold res;rw[jG,qF]
theorem res_get{n:Int}{ws:List Int}(h:OkW ws)(n0:0<=n)(n1:n<=ws.sum){i:Nat}{r w:Int}(hr:(res n ws)[i]?=some r)(hw:ws[i]?=some w):0<=r/\r<=w:=by
 have hi:i<ws.length:=(zAa.mp hw).1;have hp:=h.pos;have ww:=h.2.2 w (zB9 hw)
 have e:r=n*w / ws.sum+((ig (rs n ws)).choose.take (lf n ws).toNat).count i:=by
  have:=oF ((ig (rs n ws)).choose.take (lf n ws).toNat) (fs n ws) i (by rw[qF];exact hi)
  have e2:(fs n ws).getD i 0=n*w / ws.sum:=by
   unfold fs;rw[zA7,zAb,hw];rfl
  rw[e2]at this;rw[<-this,show dw (fs n ws) _=res n ws from rfl,zA7,hr];rfl
 have c1:((ig (rs n ws)).choose.take (lf n ws).toNat).count i<=1:=List.nodup_iff_count.mp ((ig (rs n ws)).choose_spec.nd.sublist (List.take_sublist _ _)) i;have q0:0<=n*w / ws.sum:=Int.ediv_nonneg (Int.mul_nonneg n0 Zz) Zz;refine⟨Zz,?_⟩;by_cases en:n=ws.sum
 .have:((ig (rs n ws)).choose.take (lf n ws).toNat)=[]:=by
   rw[en,Fq h];rfl
  rw[this]at e;rw[en,Int.mul_ediv_cancel_left _ Zz]at e;simp at e;lia
 .have:n*w / ws.sum<w:=by
   refine Int.ediv_lt_of_lt_mul Zz ?_;rw[Int.mul_comm w];exact Int.mul_lt_mul_of_pos_right Zz Zz
  lia
theorem oG{K:Frag}{te:TE}{p:Addr}{ws:List Int}{dP:St}{H0:Hp}{Fin:List V->Hp->Prop}(f:Int->Int)(ep:H0 p=some (.tup (ws.map V.int)))(hl:ws.length<sizeLine)
  (wm:∀(z:Int) (Q:VK),z∈ws->Q (.int (f z)) H0->te (dP.set 0 (some (.int z))) H0 Q) (fin:Fin ((ws.map f).map V.int) H0):jO (Itt K p) (bC 0) wU te Fin dP H0:=by
 refine fY ws.length (fun i ys σ H=>H=H0/\(∀o,σ.set 0 o=dP.set 0 o)/\ys=((ws.take i).map f).map V.int) ⟨rfl,fun _=>rfl,rfl⟩ hl ?_ ?_
 .rintro i ys σ H hi hy ⟨rfl,nc,rfl⟩;have hz:(ws.map V.int)[i]?=some (.int ws[i]):=by rw[zAb,zA0 hi];rfl
  refine⟨⟨_,_,SqT.of ep,hz⟩,fun v H' y' R hR=>?_⟩;obtain⟨rfl,y'⟩:=y';have hv:=y' _ (SqT.of ep);rw[hz]at hv;cases hv;show te (σ.set 0 (some (.int ws[i]))) _ _;rw[nc];refine wm ws[i] _ (zAh hi) (hR _ _ _ ⟨rfl,fun o=>by rw[List.set_set],?_⟩);rw[zAj,zA0 hi,zA4,zA4];rfl
 .rintro ys σ H hy ⟨rfl,nc,rfl⟩;refine⟨⟨_,SqT.of ep,by rw[zA1];exact zA3 _⟩,?_⟩;rw[zAm];exact fin
def wD(ws:List Int):PyData:=.tuple (ws.map PyData.int)
theorem sS:∀(r:List Int),szs (r.map PyData.int)=r.length
 |[]=>rfl
 |_::r=>by
  show 1+szs (r.map PyData.int)=r.length+1;rw[sS r,Nat.add_comm]
theorem J8(ws:List Int):sz (wD ws)=1+ws.length:=by
 show 1+szs (ws.map PyData.int)=_;rw[sS]
theorem J9{ws:List Int}(h:OkW ws):ie (wD ws)=true:=by
 unfold ie;rw[zAc];refine⟨?_,List.all_eq_true.mpr fun d hd=>?_⟩
 .show(true&&(decide (1<=((ws.map PyData.int).length:Int))&&decide (((ws.map PyData.int).length:Int)<=80)))=true;have h1:=h.1;have h2:=h.2.1;rw[zA1,zAt Zz,zAt Zz];rfl
 .obtain⟨w,hw,rfl⟩:=zA5.mp hd;have:=h.2.2 w hw;show(true&&(decide (1<=w)&&decide (w<=99)))=true;rw[zAt this.1,zAt this.2];rfl
inductive SpRefuseI(vs:List V)(H:Hp)(Q:VK):Prop
 |mk:∀n p ws,(vs=[.int n,.ref p])->(H p=some (.tup (ws.map V.int)))->(OkW ws)->(0<=n)->(n<=ws.sum)->(∀H',Same H H'->Q .non H')->SpRefuseI  vs H Q
def sU:Sp:=fun vs H Q _=>SpRefuseI  vs H Q
inductive SpPlacesI(vs:List V)(H:Hp)(Q:VK):Prop
 |mk:∀p rests,(vs=[.ref p])->(H p=some (.lst ((rests:List Int).map V.int)))->(rests.length<sizeLine)->(∀H' q pl,Ord rests pl->Same H H'->H q=none->H' q=some (.lst (pl.map fun j:Nat=>V.int (j:Int)))->Q (.ref q) H')->SpPlacesI  vs H Q
def sV:Sp:=fun vs H Q _=>SpPlacesI  vs H Q
inductive SpPartsI(vs:List V)(H:Hp)(Q:VK):Prop
 |mk:∀n p ws,(vs=[.int n,.ref p])->(H p=some (.tup (ws.map V.int)))->(OkW ws)->(0<=n)->(n<=ws.sum)->(∀H' q,Same H H'->H' q=some (.tup ((res n ws).map V.int))->Q (.ref q) H')->SpPartsI  vs H Q
def spParts:Sp:=fun vs H Q _=>SpPartsI  vs H Q
def gH(H:Hp)(a:Addr):Nat:=match H a with
 |some (.tup [_,.int y])=>y.toNat
 |_=>0
def rowAt(H:Hp)(a:Addr):List Int:=match H a with
 |some (.tup [.int x,.int y])=>[x,y]
 |_=>[]
theorem Ho{rests:List Int}{i:Nat}{x:Int}(h:rests[i]?=some x):rr rests i=x:=by
 unfold rr;rw[zA7,h];rfl
theorem Ca{rests:List Int}{i j:Nat}(h:HT.lexLt [-(rr rests j),(j:Int)] [-(rr rests i),(i:Int)]=false):bef rests i j=true:=by
 rw[jq];rw[HT.lexLt_cons]at h;by_cases e:-(rr rests j)=-(rr rests i)
 .rw[zAx e,HT.lexLt_cons]at h;by_cases e2:(j:Int)=(i:Int)
  .exact .inr ⟨Zz,Zz⟩
  .rw[zAv e2]at h;have:=of_decide_eq_false h;exact .inr ⟨Zz,Zz⟩
 .rw[zAv e]at h;have:=of_decide_eq_false h;exact .inl Zz
section
variable{P:Program}{w:World}{K:Frag}{mg:Str->Option Value}{base:Heap}{f:Addr}{fd:FuncData}
theorem Ja:FnScope ["sacks","weights"] ["sacks","weights"] (aK (top 39)):=fQS
theorem ok_refuse(F:Fun K "refuse_unpartable" "refuse_unpartable" (top 39) f fd)(Ts:mg "sum"=none)(c1:Cal P w K mg base 4 "are_weights" ["thing"] (spT ie))(c2:Cal P w K mg base 2 "is_whole_from" ["thing","least","most"] (jA jW)):
  FnOk P w K mg base CX0 5 f fd ["sacks","weights"] sU:=by
 refine F.ok Ja (fun vs H Q E h=>?_) (fun ah A outer s H vs Q E hr h=>?_)
 .obtain⟨n,p,ws,rfl,_⟩:=h;rfl
 .obtain⟨n,p,ws,rfl,ep,ok,n0,n1,q⟩:=h
  refine⟨_,aA (cj (bN (d8 (aJ c1 hr (aQ (pv 1) aj)))) (aD fQ) aZ)
   (aD (cj (bN (d8 (aJ c2 hr (aQ (pv 0) (aQ aB (aQ (aO (dD rfl) rfl Ts boot_sum (az (pv 1) aj)) aj)))))) (aD fQ) aZ)),?_⟩
  refine aG ?_;refine⟨_,rfl,fun _=>False,_,wD ws,rfl,.tup ep (IsThs.ints ws),by rw[J8];have:=ok.2.1;lia,fun H1 s1=>⟨_,rfl,?_⟩⟩;rw[J9 ok];refine bA ?_;dsimp only;refine⟨_,rfl,_,rfl,p,ws,rfl,.inr (SqT.of (s1 _ _ ep)),fun _=>False,_,.int n,0,_,rfl,.int n,(by show 1<=4000;decide),fun H2 s2=>⟨_,rfl,?_⟩⟩
  have e:jW (.int n) 0 ws.sum=true:=by
   show(true&&(decide (0<=n)&&decide (n<=ws.sum)))=true;rw[zAt n0,zAt n1];rfl
  rw[e];exact bA (q H2 (s1.trans s2))
theorem sc13:FnScope ["rests","ranked"] ["rests"] (aK (top 40)):=fQS
theorem ok_places(F:Fun K "places_by_rest" "places_by_rest" (top 40) f fd)(Te:mg "enumerate"=none)(Ts:mg "sorted"=none):FnOk P w K mg base CX0 1 f fd ["rests"] sV:=by
 refine F.ok sc13 (fun vs H Q E h=>?_) (fun ah A outer s H vs Q E hr h=>?_)
 .obtain⟨p,rests,rfl,_⟩:=h;rfl
 .obtain⟨p,rests,rfl,ep,hz,q⟩:=h
  refine⟨_,aA (pss 1 sc13.nd (aO ql rfl Ts boot_sorted (az (cF (g:=jR K 2 (bY (bC 0) (bY (bC 1) kI))) ["at","rest"] [none,none] rfl (ZT.pi_enum false rfl Te (az (pv 0) aj))
    (fun C fp Zt s₂ H₂=>⟨dJ rfl rfl (aq (bF (i:=0) (nd2 _ _ Zx) rfl (Or.inl rfl) (Or.inr rfl)) (aq (bF (i:=1) (nd2 _ _ Zx) rfl (Or.inl rfl) (Or.inr rfl)) aW)),cD,
     bO (az (Ge Ei (pv 1)) (az (pv 0) aj))⟩) (fun C=>trivial) ⟨rfl,rfl,rfl,rfl⟩) aj)))
   (aD (aP (cF (g:=jR K 2 (bY (bC 0) (bY (bC 1) kI))) ["minus","at"] [none,none] rfl (dz (pv 1))
    (fun C fp Zt s₂ H₂=>⟨dJ rfl rfl (aq (bF (i:=0) (nd2 _ _ Zx) rfl (Or.inl rfl) (Or.inr rfl)) (aq (bF (i:=1) (nd2 _ _ Zx) rfl (Or.inl rfl) (Or.inr rfl)) aW)),cD,
     pv 1⟩) (fun C=>trivial) ⟨rfl,rfl,rfl,rfl⟩))),?_⟩
  refine aG ?_;refine⟨_,rfl,p,_,rfl,SqL.of ep,fY rests.length (fun i ys σ Hc=>Same H Hc/\(∃o1 o2,σ=[o1,o2])/\∃ts:List Addr,ys=ts.map V.ref/\∀j,j<i->∃a,ts[j]?=some a/\Hc a=some (.tup [.int (-(rr rests j)),.int (j:Int)])) ⟨Same.refl H,⟨_,_,rfl⟩,[],rfl,fun j hj=>absurd hj (Nat.not_lt_zero _)⟩ hz ?_ ?_⟩
  .rintro i ys σ Hc hi hy ⟨s1,⟨o1,o2,rfl⟩,ts,rfl,A4⟩;rw[zA1]at hy;have kc:SqL K Hc p (rests.map V.int):=SqL.of (s1 _ _ ep)
   have hx:(rests.map V.int)[i]?=some (.int (rr rests i)):=by
    rw[zAb,zA0 hi,Ho (zA0 hi)];rfl
   refine⟨⟨_,_,kc,hx⟩,fun v H' y R hR=>?_⟩;obtain⟨T,nT,rfl,y⟩:=y;obtain⟨x',eJ,rfl⟩:=y _ kc;rw[hx]at eJ;cases eJ;have s2:=s1.updR (o:=.tup [.int (i:Int),.int (rr rests i)]) nT;refine⟨T,_,rfl,SqT.of ao,rfl,_,_,rfl,_,_,rfl,rfl,_,rfl,rr rests i,rfl,_,rfl,zL,fun t ht=>?_⟩;refine hR _ _ _ ⟨s2.updR ht,⟨_,_,rfl⟩,ts++[t],by rw[zA4];rfl,fun j hj=>?_⟩;by_cases e:j<i
   .obtain⟨a,h1,h2⟩:=A4 j e;refine⟨a,by rw[zBb Zz];exact h1,?_⟩;exact Same.upd ht _ _ (Same.upd nT _ _ h2)
   .have e:j=i:=Zz
    subst e;refine⟨t,by rw[zBd Zz,hy,Nat.sub_self];rfl,ao⟩
  .rintro ys σ Hc hy ⟨s1,_,ts,rfl,A4⟩;rw[zA1]at hy;refine⟨⟨_,SqL.of (s1 _ _ ep),by rw[zA1];exact zA3 _⟩,fun D hD=>?_⟩;have s2:=s1.updR (o:=.lst (ts.map V.ref)) hD
   have rS:∀j,j<rests.length->∃a,ts[j]?=some a/\upd Hc D (.lst (ts.map V.ref)) a=some (.tup [.int (-(rr rests j)),.int (j:Int)]):=fun j hj=>by
    obtain⟨a,h1,h2⟩:=A4 j hj;exact⟨a,h1,Same.upd hD _ _ h2⟩
   have eD:=ao (H:=Hc) (a:=D) (o:=.lst (ts.map V.ref));generalize upd Hc D (.lst (ts.map V.ref))=H2 at s2 rS eD⊢;clear A4 hD s1
   have nV:∀a∈ts,∃j,j<rests.length/\H2 a=some (.tup [.int (-(rr rests j)),.int (j:Int)]):=fun a ha=>by
    obtain⟨j,hj,e⟩:=List.getElem_of_mem ha;obtain⟨b,h1,h2⟩:=rS j Zz;rw[zA0 hj]at h1;injection h1 with h1;refine⟨j,Zz,?_⟩;rw[<-e,h1];exact h2
   refine⟨D,ts,rowAt H2,rfl,SqL.of eD,fun a ha=>?_,fun q' l' hq pm so=>?_⟩
   .obtain⟨j,hj,e⟩:=nV a ha;have er:rowAt H2 a=[-(rr rests j),(j:Int)]:=by unfold rowAt;rw[e]
    rw[er];exact⟨SqT.of e,by simp⟩
   have rj:∀a∈l',∃j,j<rests.length/\H2 a=some (.tup [.int (-(rr rests j)),.int (j:Int)]):=fun a ha=>nV a (pm.mem_iff.mp ha)
   have sn:∀a∈l',H2 a=some (.tup [.int (-(rr rests (gH H2 a))),.int (gH H2 a:Int)])/\rowAt H2 a=[-(rr rests (gH H2 a)),(gH H2 a:Int)]:=fun a ha=>by
    obtain⟨j,hj,e⟩:=rj a ha;have er:rowAt H2 a=[-(rr rests j),(j:Int)]:=by unfold rowAt;rw[e]
    have es:gH H2 a=j:=by unfold gH;rw[e];exact zAi j
    rw[er,es];exact⟨e,rfl⟩
   have ord:Ord rests (l'.map (gH H2)):=by
    refine⟨?_,?_⟩
    .refine(pm.map _).trans (List.Perm.of_eq (List.ext_getElem? fun j=>?_));by_cases hj:j<rests.length
     .obtain⟨a,h1,h2⟩:=rS j hj;rw[zAb,h1,List.getElem?_range hj];show some (gH H2 a)=some j;unfold gH;rw[h2];exact congrArg some (zAi j)
     .rw[List.getElem?_eq_none (by rw[zA1];lia),List.getElem?_eq_none (by rw[List.length_range];lia)]
    .refine List.pairwise_map.mpr (so.imp_of_mem fun{a b} ha hb h=>?_);rw[(sn a ha).2,(sn b hb).2]at h;exact Ca h
   have s3:=s2.updR (o:=.lst (l'.map V.ref)) hq;have Qz:l'.length=rests.length:=by rw[pm.length_eq,hy]
   have yk:=ao (H:=H2) (a:=q') (o:=.lst (l'.map V.ref));have D8:∀a∈l',upd H2 q' (.lst (l'.map V.ref)) a=some (.tup [.int (-(rr rests (gH H2 a))),.int (gH H2 a:Int)]):=fun a ha=>Same.upd hq _ _ (sn a ha).1;generalize gH H2=sd at ord D8;generalize upd H2 q' (.lst (l'.map V.ref))=H3 at s3 yk D8⊢;dsimp only;refine qb ?_;refine⟨_,rfl,q',rfl,⟨_,SqL.of yk⟩,fY rests.length (fun i ys σ Hc=>Same H3 Hc/\(∃o1 o2,σ=[o1,o2])/\ys=((l'.take i).map sd).map fun j:Nat=>V.int (j:Int)) ⟨Same.refl H3,⟨_,_,rfl⟩,rfl⟩ hz ?_ ?_⟩
   .rintro i ys σ Hc hi hy ⟨s4,⟨o1,o2,rfl⟩,rfl⟩;have hX:i<l'.length:=Zz
    have hu:(l'.map V.ref)[i]?=some (.ref l'[i]):=by rw[zAb,zA0 hX];rfl
    refine⟨⟨_,_,SqL.of (s4 _ _ yk),hu⟩,fun v H' y R hR=>?_⟩;obtain⟨rfl,y⟩:=y;have hv:=y _ (SqL.of (s4 _ _ yk));rw[hu]at hv;cases hv;refine⟨l'[i],_,rfl,SqT.of (s4 _ _ (D8 _ (zAh hX))),rfl,_,_,rfl,_,_,rfl,rfl,_,rfl,hR _ _ _ ⟨s4,⟨_,_,rfl⟩,?_⟩⟩;rw[zAj,zA0 hX,zA4,zA4];rfl
   .rintro ys σ Hc tJ ⟨s4,_,rfl⟩;refine⟨⟨_,SqL.of (s4 _ _ yk),by rw[zA1];lia⟩,fun D' Jo=>?_⟩;have s5:=s3.trans s4;have hn:H D'=none:=s5.free Jo;refine q _ D' _ ord (s5.updR Jo) hn ?_;rw[ao,List.take_of_length_le Zz]
end
theorem Cd{n j:Nat}(h:j<n):ixN n (j:Int)=some j:=by
 unfold ixN;rw[zAx Zz,zAx Zz,zAi]
theorem Fv{ws:List Int}(ok:OkW ws):ws.length<sizeLine:=by
 have:=ok.2.1;rw[sizeLine_eq];lia
section
variable{P:Program}{w:World}{K:Frag}{mg:Str->Option Value}{base:Heap}{f:Addr}{fd:FuncData}
theorem Hq:(["weight","sacks","together"]:List Str).Nodup:=by decide +kernel
theorem sc14:FnScope ["sacks","weights","together","parts","rests","left","at"] ["sacks","weights"] (aK (top 41)):=fQS
theorem ok_parts(F:Fun K "parts_of" "parts_of" (top 41) f fd)(T:Mg mg)(Ts:mg "sum"=none)(c1:Cal P w K mg base 1 "places_by_rest" ["rests"] sV):FnOk P w K mg base CX0 2 f fd ["sacks","weights"] spParts:=by
 refine F.ok sc14 (fun vs H Q E h=>?_) (fun ah A outer s H vs Q E hr h=>?_)
 .obtain⟨n,p,ws,rfl,_⟩:=h;rfl
 .obtain⟨n,p,ws,rfl,ep,ok,n0,n1,q⟩:=h
  refine⟨_,aA (ph (i:=2) sc14.nd rfl (Or.inr rfl) (aO (dD rfl) rfl Ts boot_sum (az (pv 1) aj)))
   (aA (iy (i:=3) ["weight","sacks","together"] [none,some 0,some 2] rfl sc14.nd rfl (Or.inl rfl) (gm (pv 1))
    (fun C fp Zt s₂ H₂=>⟨pgn 0 Hq,cD,aR pF (aR gK (pv 1) (pv 0)) (pv 2)⟩) (fun C=>cI (cI trivial)) ⟨rfl,rfl,rfl,rfl⟩)
   (aA (iy (i:=4) ["weight","sacks","together"] [none,some 0,some 2] rfl sc14.nd rfl (Or.inl rfl) (gm (pv 1))
    (fun C fp Zt s₂ H₂=>⟨pgn 0 Hq,cD,aR gq (aR gK (pv 1) (pv 0)) (pv 2)⟩) (fun C=>cI (cI trivial)) ⟨rfl,rfl,rfl,rfl⟩)
   (aA (pss 5 sc14.nd (aR fO (pv 0) (aO (dD rfl) rfl Ts boot_sum (az (pv 3) aj))))
   (aA (bV zB4 rfl (dz (qW Bf (aJ c1 hr (az (pv 4) aj)) uZ (v5 (pv 5)))) (pgn 6 sc14.nd)
    (aD (pq (pv 3) (pv 6) iG aB yl set_list)))
   (aD (aP (di cQ rfl T.tuple boot_tuple (az (pv 3) aj)))))))),?_⟩
  have hp:=ok.pos;have ht:=ok.top;have yn:=Fv ok;refine aG ?_;refine⟨_,rfl,p,ws,rfl,.inr (SqT.of ep),?_⟩;dsimp only;refine aG ?_;refine⟨_,rfl,p,rfl,⟨_,SqT.of ep⟩,oG (fun z=>n*z / ws.sum) ep yn (fun z Q hz h=>⟨_,rfl,_,rfl,_,_,rfl,rfl,.inl ⟨Zz,Zz⟩,_,rfl,_,_,rfl,rfl,⟨Zz,Zz⟩,h⟩) ?_⟩;rw[show ws.map (fun z=>n*z / ws.sum)=fs n ws from rfl];intro l1 fy;have s1:=Same.upd (o:=.lst ((fs n ws).map V.int)) fy;have el1:=ao (H:=H) (a:=l1) (o:=.lst ((fs n ws).map V.int));generalize upd H l1 _=H1 at s1 el1⊢;dsimp only;refine aG ?_;refine⟨_,rfl,p,rfl,⟨_,SqT.of (s1 _ _ ep)⟩,oG (fun z=>n*z % ws.sum) (s1 _ _ ep) yn (fun z Q hz h=>⟨_,rfl,_,rfl,_,_,rfl,rfl,.inl ⟨Zz,Zz⟩,_,rfl,_,_,rfl,rfl,(by show 0<ws.sum;lia),h⟩) ?_⟩;rw[show ws.map (fun z=>n*z % ws.sum)=rs n ws from rfl];intro l2 iO;have s2:=s1.updR (o:=.lst ((rs n ws).map V.int)) iO;have el2:=ao (H:=H1) (a:=l2) (o:=.lst ((rs n ws).map V.int));have ki:=Same.upd (o:=.lst ((rs n ws).map V.int)) iO _ _ el1;have A0:H l1=none:=fy;clear fy iO;generalize upd H1 l2 _=H2 at s2 el2 ki⊢;clear el1 s1;dsimp only;refine aG ?_;refine⟨_,rfl,_,rfl,l1,fs n ws,rfl,.inl (SqL.of ki),_,_,rfl,rfl,?_⟩;show _;dsimp only;rw[show n-(fs n ws).sum=lf n ws from rfl];refine aG ?_;refine⟨_,rfl,l2,rs n ws,rfl,el2,by rw[jH];exact yn,fun H3 l3 pl ord s3 yy el3=>⟨_,rfl,_,rfl,l3,_,rfl,SqL.of el3,fun l4 kH=>⟨l4,rfl,⟨_,SqL.of ao⟩,?_⟩⟩⟩;have QA:=zq (n:=n) ok;have QB:=Ds (n:=n) ok;have LU:=ord.len;rw[jH]at LU
  have D9:mK (pl.map fun j:Nat=>V.int (j:Int)) none (some (lf n ws))=(pl.take (lf n ws).toNat).map fun j:Nat=>V.int (j:Int):=by
   rw[List.map_take,<-mz (i:=(lf n ws).toNat) (by rw[zA1];lia),show((lf n ws).toNat:Int)=lf n ws by lia]
  rw[D9];have fin:=Ft ord
  have inr:∀j∈pl.take (lf n ws).toNat,j<ws.length:=fun j hj=>by
   have:=ord.lt j (List.mem_of_mem_take hj);rw[jH]at this;exact this
  generalize pl.take (lf n ws).toNat=pk at fin inr kH⊢;have s4:=(s2.trans s3).updR (o:=.lst (pk.map fun j:Nat=>V.int (j:Int))) kH;have el4:=ao (H:=H3) (a:=l4) (o:=.lst (pk.map fun j:Nat=>V.int (j:Int)));have yA:=Same.upd (o:=.lst (pk.map fun j:Nat=>V.int (j:Int))) kH _ _ (s3 _ _ ki)
  have LV:l4≠l1:=fun z=>by
   rw[z,s3 _ _ ki]at kH;cases kH
  generalize upd H3 l4 (.lst (pk.map fun j:Nat=>V.int (j:Int)))=H4 at s4 el4 yA⊢;clear kH el3 yy s3 ki el2 s2;refine gJ (xs:=pk.map fun j:Nat=>V.int (j:Int)) (fun i σ Hc=>∃o6,σ=[some (.int n),some (.ref p),some (.int ws.sum),some (.ref l1),some (.ref l2),some (.int (lf n ws)),o6]/\Same H Hc/\Hc l4=some (.lst (pk.map fun j:Nat=>V.int (j:Int)))/\Hc l1=some (.lst ((dw (fs n ws) (pk.take i)).map V.int))) ?_ ?_ ?_ ?_
  .exact⟨none,rfl,s4,el4,yA⟩
  .rintro i σ Hc hi ⟨o6,rfl,s5,e4,e1⟩;exact SqL.of e4
  .rintro i v σ Hc hv ⟨o6,rfl,s5,e4,e1⟩;rw[zAb]at hv
   cases hj:pk[i]? with
   |none=>rw[hj]at hv;cases hv
   |some j=>
    rw[hj]at hv;cases hv;refine aM ?_
    have kp:∀o,Same H (upd Hc l1 o):=fun o b u e=>by
     rw[aF (aH e A0)];exact s5 _ _ e
    have ax:j<(dw (fs n ws) (pk.take i)).length:=by
     rw[jG,qF];exact inr j (zB9 hj)
    have hx:((dw (fs n ws) (pk.take i)).map V.int)[((j:Nat):Int).toNat]?=some (.int ((dw (fs n ws) (pk.take i)).getD j 0)):=by
     rw[zAi,zAb,zA0 ax,zA7,zA0 ax];rfl
    refine⟨_,rfl,_,rfl,l1,_,(j:Int),_,rfl,rfl,SqL.of e1,Zz,hx,_,_,rfl,rfl,l1,_,(j:Int),j,rfl,rfl,e1,Cd (by rw[zA1];exact ax),?_⟩;refine⟨_,rfl,kp _,by rw[aF LV];exact e4,?_⟩;rw[ao,zAj,hj];show _=some (HO.lst ((dw (fs n ws) (pk.take i++[j])).map V.int));rw[uG,List.map_set]
  .rintro σ Hc ⟨o6,rfl,s5,e4,e1⟩;rw[zA1,zAm,fin]at e1;dsimp only;refine qb ?_;exact⟨_,rfl,l1,_,rfl,.inl ⟨SqL.of e1,fun t ht=>q _ t (s5.updR ht) ao⟩⟩
theorem sc15:FnScope ["sacks","weights"] ["sacks","weights"] (aK (top 42)):=fQS
theorem ok_parted(F:Fun K "parted" "parted" (top 42) f fd)(c1:Cal P w K mg base 5 "refuse_unpartable" ["sacks","weights"] sU)(c2:Cal P w K mg base 2 "parts_of" ["sacks","weights"] spParts):FnOk P w K mg base CX0 6 f fd ["sacks","weights"] spParts:=by
 refine F.ok sc15 (fun vs H Q E h=>?_) (fun ah A outer s H vs Q E hr h=>?_)
 .obtain⟨n,p,ws,rfl,_⟩:=h;rfl
 .obtain⟨n,p,ws,rfl,ep,ok,n0,n1,q⟩:=h;refine⟨_,aA (cW (aJ c1 hr (az (pv 0) (az (pv 1) aj)))) (aD (aP (aJ c2 hr (az (pv 0) (az (pv 1) aj))))),?_⟩;refine aG ?_;refine⟨_,rfl,_,rfl,n,p,ws,rfl,ep,ok,n0,n1,fun H1 s1=>?_⟩;dsimp only;refine qb ?_;exact⟨_,rfl,_,rfl,n,p,ws,rfl,s1 _ _ ep,ok,n0,n1,fun H2 t s2 et=>q H2 t (s1.trans s2) et⟩
end
end K22P
namespace K22
open PySem L2
def cO:Int->List (List Int)->List Int
 |_,[]=>[]
 |w,r::rs=>(if w<fl r 3 then w else fl r 3)::cO (w-(if w<fl r 3 then w else fl r 3)) rs
theorem iZ:∀(w:Int) (rs:List (List Int)) (r:List Int),cO w (rs++[r])=cO w rs++[if w-(cO w rs).sum<fl r 3 then w-(cO w rs).sum else fl r 3]
 |w,[],r=>by
  show[_]=[_];rw[show(cO w []).sum=0 from rfl,Int.sub_zero]
 |w,q::rs,r=>by
  rw[List.cons_append];unfold cO;rw[iZ _ rs r,List.cons_append,List.sum_cons,show ∀a b c:Int,a-b-c=a-(b+c)from fun a b c=>by lia]
theorem dH:∀(w:Int) (rs:List (List Int)),(cO w rs).length=rs.length
 |_,[]=>rfl
 |w,r::rs=>by
  unfold cO;rw[zAe,zAe,dH]
inductive SpMadeI(vs:List V)(H:Hp)(Q:VK):Prop
 |mk:∀w l xs rs,(vs=[.int w,.ref l])->(H l=some (.lst xs))->(Els H xs rs)->((∀r∈rs,r.length=4))->(rs.length<=100000)->(∀m H',Same H H'->H m=none->H' m=some (.lst ((cO w rs).map V.int))->Q (.ref m) H')->SpMadeI  vs H Q
def zr:Sp:=fun vs H Q _=>SpMadeI  vs H Q
def bj(w:Int)(rs:List (List Int)):List Int:=if(wts rs).sum<=w then wts rs else K22P.res w (wts rs)
inductive SpSharesI(vs:List V)(H:Hp)(Q:VK):Prop
 |mk:∀w l xs rs,(vs=[.int w,.ref l])->(H l=some (.lst xs))->(Els H xs rs)->((∀r∈rs,r.length=4/\1<=fl r 3/\fl r 3<=99))->(rs.length<=80)->(0<=w)->(∀t H',Same H H'->H' t=some (.tup ((bj w rs).map V.int))->Q (.ref t) H')->SpSharesI  vs H Q
def sW:Sp:=fun vs H Q _=>SpSharesI  vs H Q
variable{P:Program}{w:World}{K:Frag}{mg:Str->Option Value}{base:Heap}{f:Addr}{fd:FuncData}
theorem scT1:FnScope ["wool","owed","shares","left","due","number","holder","sacks","share"] ["wool","owed"] (aK (top 47)):=fQS
theorem Ce(F:Fun K "made_good" "made_good" (top 47) f fd)(Tn:mg "min"=none):FnOk P w K mg base CX0 1 f fd ["wool","owed"] zr:=by
 refine F.ok scT1 (fun vs H Q E h=>?_) (fun ah A outer s H vs Q E hr h=>?_)
 .obtain⟨w0,l,xs,rs,rfl,_⟩:=h;rfl
 .obtain⟨w0,l,xs,rs,rfl,el,eI,h4,hz,q⟩:=h
  refine⟨_,aA (pss 2 scT1.nd (cT aj))
   (aA (pss 3 scT1.nd (pv 0))
   (aA (bV zB4 rfl (dz (pv 1)) (bI rfl (aq (pgn 4 scT1.nd) (aq (pgn 5 scT1.nd) (aq (pgn 6 scT1.nd) (aq (pgn 7 scT1.nd) aW)))))
    (aA (pss 8 scT1.nd (aO (iw rfl) rfl Tn boot_min (az (pv 7) (az (pv 3) aj))))
    (aA (cW (qX zBg zBf zBe fV (pv 2) (az (pv 8) aj)))
    (aD (kJ (i:=3) scT1.nd rfl (Or.inl rfl) (pv 8) ym)))))
   (aD (aP (pv 2))))),?_⟩
  refine aG (aX ?_);refine⟨zL,fun m hm=>?_⟩;refine aM ?_;dsimp only;refine aG (aX ?_);refine⟨_,rfl,?_⟩;refine aM ?_;dsimp only;refine aG ?_;have s1:=Same.upd (o:=.lst []) hm;have nl:l≠m:=aH el hm;refine⟨_,rfl,l,rfl,⟨_,SqL.of (s1 _ _ el)⟩,?_⟩;refine gJ (xs:=xs) (fun i σ Hc=>∃x4 x5 x6 x7 x8,σ=[some (.int w0),some (.ref l),some (.ref m),some (.int (w0-(cO w0 (rs.take i)).sum)),x4,x5,x6,x7,x8]/\(∀b o,H b=some o->Hc b=some o)/\Hc m=some (.lst ((cO w0 (rs.take i)).map V.int))) ?_ ?_ ?_ ?_
  .refine⟨none,none,none,none,none,?_,fun b o e=>s1 _ _ e,ao⟩;rw[List.take_zero,show(cO w0 []).sum=0 from rfl,Int.sub_zero];rfl
  .rintro i σ Hc hi ⟨x4,x5,x6,x7,x8,rfl,k,em⟩;exact SqL.of (k _ _ el)
  .rintro i x σ Hc hx ⟨x4,x5,x6,x7,x8,rfl,k,em⟩
   have hi:i<rs.length:=by
    have:=(zAa.mp hx).1;rw[eI.1]at this;exact this
   obtain⟨t,ex,et⟩:=eI.2 i rs[i] (zA0 hi);rw[ex]at hx;cases hx;rw[cN (h4 _ (zAh hi))]at et;refine⟨t,_,rfl,SqT.of (k _ _ et),rfl,_,_,rfl,_,_,rfl,_,_,rfl,_,_,rfl,rfl,?_⟩;refine aG (aX ?_);refine⟨_,rfl,_,rfl,_,_,rfl,?_⟩;refine aM ?_;dsimp only;refine aG ?_;refine⟨_,rfl,.inl ⟨rfl,_,SqL.of em⟩,_,rfl,m,_,_,rfl,rfl,em,?_,?_⟩
   .rw[zA1,dH,zAd,sizeLine_eq];lia
   have dv:rs.take (i+1)=rs.take i++[rs[i]]:=by rw[zAj,zA0 hi];rfl
   dsimp only;refine⟨_,rfl,_,rfl,_,_,rfl,rfl,some (.int (fl rs[i] 0)),some (.int (fl rs[i] 1)),some (.int (fl rs[i] 2)),some (.int (fl rs[i] 3)),some (.int (if w0-(cO w0 (rs.take i)).sum<fl rs[i] 3 then w0-(cO w0 (rs.take i)).sum else fl rs[i] 3)),?_,fun b o e=>?_,?_⟩
   .rw[dv,iZ,List.sum_append,List.sum_cons,List.sum_nil,Int.add_zero,show ∀a b c:Int,a-(b+c)=a-b-c from fun a b c=>by lia];rfl
   .rw[aF (aH e hm)];exact k _ _ e
   .rw[ao,dv,iZ,zA4];rfl
  .rintro σ Hc ⟨x4,x5,x6,x7,x8,rfl,k,em⟩;rw[show xs.length=rs.length from eI.1,zAm]at em;exact⟨_,rfl,q m Hc (fun b o e=>k b o e) hm em⟩
theorem scT2:FnScope ["wool","claims","weights"] ["wool","claims"] (aK (top 46)):=fQS
theorem xN(F:Fun K "shares_of" "shares_of" (top 46) f fd)(T:Mg mg)(Ts:mg "sum"=none)(c1:Cal P w K mg base 6 "parted" ["sacks","weights"] K22P.spParts):FnOk P w K mg base CX0 7 f fd ["wool","claims"] sW:=by
 refine F.ok scT2 (fun vs H Q E h=>?_) (fun ah A outer s H vs Q E hr h=>?_)
 .obtain⟨w0,l,xs,rs,rfl,_⟩:=h;rfl
 .obtain⟨w0,l,xs,rs,rfl,el,eI,h4,hz,hw,q⟩:=h
  refine⟨_,aA (pss 2 scT2.nd (di cQ rfl T.tuple boot_tuple (az (cF (g:=jR K 4 (bY (bC 0) (bY (bC 1) (bY (bC 2) (bY (bC 3) kI))))) ["due","number","holder","sacks"] [none,none,none,none] rfl (dz (pv 1))
    (fun C fp Zt s₂ H₂=>⟨dJ rfl rfl (aq (pgn 0 nd4) (aq (pgn 1 nd4) (aq (pgn 2 nd4) (aq (pgn 3 nd4) aW)))),cD,pv 3⟩) (fun C=>trivial) ⟨rfl,rfl,rfl,rfl⟩) aj)))
   (aD (aP (yg (bG bH (aO (dD rfl) rfl Ts boot_sum (az (pv 2) aj)) (pv 0) (bD _)) (pv 2) (aJ c1 hr (az (pv 0) (az (pv 2) aj)))))),?_⟩
  refine aG (aX ?_);refine⟨_,rfl,l,rfl,⟨_,SqL.of el⟩,fY rs.length (fun i ys σ Hc=>Same H Hc/\(∃o1 o2 o3 o4,σ=[o1,o2,o3,o4])/\ys=(wts (rs.take i)).map V.int) ⟨Same.refl H,⟨_,_,_,_,rfl⟩,rfl⟩ Zu ?_ ?_⟩
  .rintro i ys σ Hc hi hy ⟨s1,⟨o1,o2,o3,o4,rfl⟩,rfl⟩;obtain⟨t,ex,et⟩:=eI.2 i rs[i] (zA0 hi);rw[cN (h4 _ (zAh hi)).1]at et;refine⟨⟨_,_,SqL.of (s1 _ _ el),ex⟩,fun v H' y R hR=>?_⟩;obtain⟨rfl,y⟩:=y;have hv:=y _ (SqL.of (s1 _ _ el));rw[ex]at hv;cases hv;refine⟨t,_,rfl,SqT.of (s1 _ _ et),rfl,_,_,rfl,_,_,rfl,_,_,rfl,_,_,rfl,rfl,_,rfl,hR _ _ _ ⟨s1,⟨_,_,_,_,rfl⟩,?_⟩⟩;unfold wts;rw[zAj,zA0 hi,zA4,zA4];rfl
  .rintro ys σ Hc hy ⟨s1,_,rfl⟩;refine⟨⟨_,SqL.of (s1 _ _ el),by rw[eI.1];exact zA3 _⟩,fun D hD=>?_⟩;rw[zAm];refine⟨D,_,rfl,.inl ⟨SqL.of ao,fun t ht=>?_⟩⟩;have s2:=(s1.updR (o:=.lst ((wts rs).map V.int)) hD).updR (o:=.tup ((wts rs).map V.int)) ht;have et:=ao (H:=upd Hc D (.lst ((wts rs).map V.int))) (a:=t) (o:=.tup ((wts rs).map V.int));generalize upd (upd Hc D (.lst ((wts rs).map V.int))) t (.tup ((wts rs).map V.int))=H2 at s2 et⊢;refine aM ?_;dsimp only;refine⟨_,rfl,t,wts rs,rfl,.inr (SqT.of et),_,rfl,_,_,rfl,rfl,_,rfl,?_⟩;by_cases hs:(wts rs).sum<=w0
   .rw[zAt hs];refine bQ ⟨_,rfl,q t H2 s2 ?_⟩;unfold bj;rw[zAx hs];exact et
   .rw[zB6 hs];refine bA ⟨_,rfl,_,rfl,w0,t,wts rs,rfl,et,⟨?_,?_,fun x hx=>?_⟩,hw,Zz,fun H3 t3 s3 e3=>q t3 H3 (s2.trans s3) ?_⟩
    .cases gu:rs with
     |nil=>
      rw[gu]at hs;exact absurd hw hs
     |cons r rV=>
      unfold wts;rw[zA1,zAe];lia
    .unfold wts;rw[zA1];exact hz
    .obtain⟨r,gu,rfl⟩:=zA5.mp hx;exact(h4 r gu).2
    .unfold bj;rw[zAv hs];exact e3
theorem fc{J:It}{g:TG}{tt:TT}{te:TE}{dP:St}{H0:Hp}{Fin:List V->Hp->Prop}(n:Nat)(Pv:Nat->List V->St->Hp->Prop)(h0:Pv 0 [] dP H0)(hz:n<sizeLine)
  (step:∀i ys σ H,i<n->ys.length<=i->Pv i ys σ H->J.go i H/\∀x H',J.yld i H x H'->∀R:List V->St->Hp->Prop,(∀nh aS H4,nh.length<=i+1->Pv (i+1) nh aS H4->R nh aS H4)->g x σ H' fun aS H2=>tt aS H2 fun b H3=>if b=true then te aS H3 fun y H4=>R (ys++[y]) aS H4 else R ys aS H3)
  (fin:∀ys σ H,ys.length<=n->Pv n ys σ H->J.stop n H/\Fin ys H):jO J g tt te Fin dP H0:=by
 refine⟨fun i m ys σ H=>m=n-i/\i<=n/\ys.length<=i/\Pv i ys σ H,⟨_,rfl,zAp _,zA3 _,h0⟩,?_⟩;rintro i m ys σ H ⟨rfl,hi,hy,p⟩;refine⟨Zz,?_⟩;by_cases ax:i<n
 .obtain⟨go,st⟩:=step i ys σ H ax hy p;exact .inr ⟨go,fun x H' y=>st x H' y (fun nh aS H4=>∃m',m'<n-i/\m'=n-(i+1)/\i+1<=n/\nh.length<=i+1/\Pv (i+1) nh aS H4) fun nh aS H4 l2 p2=>⟨n-(i+1),Zz,rfl,ax,l2,p2⟩⟩
 .have e:i=n:=Zz
  subst e;exact .inl (fin ys σ H hy p)
def cP(P:List (List Int×Int)):List (List Int):=(P.filter fun p=>decide (0<p.2)).map fun p=>[fl p.1 0,fl p.1 1,fl p.1 2,p.2]
def bB(P:List (List Int×Int)):List (List Int):=(P.filter fun p=>decide (p.2<fl p.1 3)).map fun p=>[fl p.1 0,fl p.1 1,fl p.1 2,fl p.1 3-p.2]
theorem oH(P:List (List Int×Int))(p:List Int×Int):cP (P++[p])=cP P++(if 0<p.2 then[[fl p.1 0,fl p.1 1,fl p.1 2,p.2]]else[]):=by
 unfold cP;rw[List.filter_append,zA4];congr 1;by_cases h:0<p.2
 .rw[zAx h,zB7 (p:=fun(p:List Int×Int)=>decide (0<p.2)) (zAt h)];rfl
 .rw[zAv h,zB8 (p:=fun(p:List Int×Int)=>decide (0<p.2)) (by rw[Zq];exact h)];rfl
theorem mD(P:List (List Int×Int))(p:List Int×Int):bB (P++[p])=bB P++(if p.2<fl p.1 3 then[[fl p.1 0,fl p.1 1,fl p.1 2,fl p.1 3-p.2]]else[]):=by
 unfold bB;rw[List.filter_append,zA4];congr 1;by_cases h:p.2<fl p.1 3
 .rw[zAx h,zB7 (p:=fun(p:List Int×Int)=>decide (p.2<fl p.1 3)) (zAt h)];rfl
 .rw[zAv h,zB8 (p:=fun(p:List Int×Int)=>decide (p.2<fl p.1 3)) (by rw[Zq];exact h)];rfl
theorem shares_len{w:Int}{rs:List (List Int)}:(bj w rs).length=rs.length:=by
 unfold bj;split
 .unfold wts;rw[zA1]
 .rw[K22P.res_len];unfold wts;rw[zA1]
def shr(w:Int)(cl ow:List (List Int)):List Int:=bj w cl++cO (w-(bj w cl).sum) ow
inductive SpSortI(vs:List V)(H:Hp)(Q:VK):Prop
 |mk:∀w lc xc cl lo xo ow,(vs=[.int w,.ref lc,.ref lo])->(H lc=some (.lst xc))->(Els H xc cl)->((∀r∈cl,r.length=4/\1<=fl r 3/\fl r 3<=99))->(cl.length<=80)->(0<=w)->(H lo=some (.lst xo))->(Els H xo ow)->((∀r∈ow,r.length=4))->(ow.length<=10000)->(∀t g k xg xk H',Same H H'->H' t=some (.tup [.ref g,.ref k])->H g=none->H k=none->H' g=some (.lst xg)->Els H' xg (cP ((cl++ow).zip (shr w cl ow)))->H' k=some (.lst xk)->Els H' xk (bB ((cl++ow).zip (shr w cl ow)))->Q (.ref t) H')->SpSortI  vs H Q
def zu:Sp:=fun vs H Q _=>SpSortI  vs H Q
theorem sX:bootBuiltins "list"=some (.type "list"):=by decide +kernel
theorem nd5:(["due","number","holder","sacks","share"]:List Str).Nodup:=by decide +kernel
theorem scU1:FnScope ["wool","claims","owed","shares","rows","gifts","lacking"] ["wool","claims","owed"] (aK (top 48)):=fQS
theorem zx(F:Fun K "sort_given" "sort_given" (top 48) f fd)(Ts:mg "sum"=none)(Tl:mg "list"=none)(Tz:mg "zip"=none)(c1:Cal P w K mg base 7 "shares_of" ["wool","claims"] sW)(c2:Cal P w K mg base 1 "made_good" ["wool","owed"] zr):FnOk P w K mg base CX0 8 f fd ["wool","claims","owed"] zu:=by
 refine F.ok scU1 (fun vs H Q E h=>?_) (fun ah A outer s H vs Q E hr h=>?_)
 .obtain⟨w0,lc,xc,cl,lo,xo,ow,rfl,_⟩:=h;rfl
 .obtain⟨w0,lc,xc,cl,lo,xo,ow,rfl,ec,yB,Jp,LW,hw,eo,c9,Jq,LX,q⟩:=h
  refine⟨_,aA (pss 3 scU1.nd (di pI rfl Tl sX (az (aJ c1 hr (az (pv 0) (az (pv 1) aj))) aj)))
   (aA (pss 4 scU1.nd (aR Er (pv 1) (pv 2)))
   (aA (kJ (i:=3) scU1.nd rfl (Or.inl rfl) (aJ c2 hr (az (aR fO (pv 0) (aO (dD rfl) rfl Ts boot_sum (az (pv 3) aj))) (az (pv 2) aj))) qm)
   (aA (iy (g:=jR K 2 (bY (jR K 4 (bY (bC 0) (bY (bC 1) (bY (bC 2) (bY (bC 3) kI))))) (bY (bC 4) kI))) (i:=5) ["due","number","holder","sacks","share"] [none,none,none,none,none] rfl scU1.nd rfl (Or.inl rfl) (ZT.pi_zip false false rfl Tz (az (pv 4) (az (pv 3) aj))) (fun C fp Zt s₂ H₂=>⟨dJ rfl rfl (aq (dJ rfl rfl (aq (pgn 0 nd5) (aq (pgn 1 nd5) (aq (pgn 2 nd5) (aq (pgn 3 nd5) aW))))) (aq (pgn 4 nd5) aW)),gw (bG kY (pv 4) aB (bD _)),bO (az (pv 0) (az (pv 1) (az (pv 2) (az (pv 4) aj))))⟩) (fun C=>trivial) ⟨rfl,rfl,rfl,rfl⟩)
   (aA (iy (g:=jR K 2 (bY (jR K 4 (bY (bC 0) (bY (bC 1) (bY (bC 2) (bY (bC 3) kI))))) (bY (bC 4) kI))) (i:=6) ["due","number","holder","sacks","share"] [none,none,none,none,none] rfl scU1.nd rfl (Or.inl rfl) (ZT.pi_zip false false rfl Tz (az (pv 4) (az (pv 3) aj))) (fun C fp Zt s₂ H₂=>⟨dJ rfl rfl (aq (dJ rfl rfl (aq (pgn 0 nd5) (aq (pgn 1 nd5) (aq (pgn 2 nd5) (aq (pgn 3 nd5) aW))))) (aq (pgn 4 nd5) aW)),gw (bG kY (pv 3) (pv 4) (bD _)),bO (az (pv 0) (az (pv 1) (az (pv 2) (az (aR fO (pv 3) (pv 4)) aj))))⟩) (fun C=>trivial) ⟨rfl,rfl,rfl,rfl⟩)
   (aD (aP (bO (az (pv 5) (az (pv 6) aj))))))))),?_⟩
  refine jb fun c_ gx=>?_;refine aX ?_;refine⟨_,rfl,_,rfl,w0,lc,xc,cl,rfl,ec,yB,Jp,LW,hw,fun t H1 s1 et=>⟨t,_,rfl,.inr (SqT.of et),fun ls Jr=>?_⟩⟩;have s2:=s1.updR (o:=.lst ((bj w0 cl).map V.int)) Jr;have Js:H ls=none:=s1.free Jr;have eI:=ao (H:=H1) (a:=ls) (o:=.lst ((bj w0 cl).map V.int));generalize upd H1 ls (.lst ((bj w0 cl).map V.int))=H2 at s2 eI⊢;refine aM ?_;refine gx _ _ ?_;clear gx c_
  try dsimp only
  refine jb fun c_ gx=>?_;refine aX ?_;refine⟨_,rfl,_,rfl,lc,lo,xc,xo,rfl,rfl,s2 _ _ ec,s2 _ _ eo,by rw[yB.1,c9.1,sizeLine_eq];lia,fun lr gN=>?_⟩;have s3:=s2.updR (o:=.lst (xc++xo)) gN;have QC:H lr=none:=s2.free gN;have md:=Same.upd (o:=.lst (xc++xo)) gN _ _ eI;have Ee:=ao (H:=H2) (a:=lr) (o:=.lst (xc++xo))
  have LY:lr≠ls:=fun z=>by rw[z,eI]at gN;cases gN
  generalize upd H2 lr (.lst (xc++xo))=H3 at s3 md Ee⊢;refine aM ?_;refine gx _ _ ?_;clear gx c_
  try dsimp only
  refine jb fun c_ gx=>?_;refine⟨_,rfl,_,rfl,_,rfl,ls,bj w0 cl,rfl,.inl (SqL.of md),_,_,rfl,rfl,_,rfl,_,lo,xo,ow,rfl,s3 _ _ eo,c9.same s3,Jq,Zz,fun m H4 s4 nm em=>?_⟩;refine⟨ls,m,_,_,rfl,rfl,s4 _ _ md,em,by rw[zA1,zA1,shares_len,dH,sizeLine_eq];lia,?_⟩;have Jt:(bj w0 cl).map V.int++(cO (w0-(bj w0 cl).sum) ow).map V.int=(shr w0 cl ow).map V.int:=by unfold shr;rw[zA4]
  rw[Jt]
  have rX:(shr w0 cl ow).length=(cl++ow).length:=by
   unfold shr;rw[zA2,zA2,shares_len,dH]
  generalize shr w0 cl ow=SH at q rX;refine gx _ _ ?_;clear gx c_
  try dsimp only
  have k5:Same H (upd H4 ls (.lst (SH.map V.int))):=fun b o e=>by
   rw[aF (aH e Js)];exact s4 _ _ (s3 _ _ e)
  have ko:=ao (H:=H4) (a:=ls) (o:=.lst (SH.map V.int));have fT:upd H4 ls (.lst (SH.map V.int)) lr=some (.lst (xc++xo)):=by rw[aF LY];exact s4 _ _ Ee
  generalize upd H4 ls (.lst (SH.map V.int))=H5 at k5 ko fT⊢;have tN:Els H (xc++xo) (cl++ow):=yB.app c9;have Ju:∀r∈cl++ow,r.length=4:=fun r hr=>(zA6.mp hr).elim (fun z=>(Jp r z).1) (Jq r);have LZ:(cl++ow).length<=20000:=by rw[zA2];lia
  generalize xc++xo=xr at fT tN;generalize cl++ow=rr at q rX tN Ju LZ;clear eI md Ee Jt s1 s2 s3 s4 em et
  obtain⟨ZP,A5⟩:∃ZP,ZP=rr.zip SH:=⟨_,rfl⟩
  rw[<-A5]at q;have me:ZP.length=rr.length:=by rw[A5,zAs,rX,Nat.min_self]
  have se:∀i (h:i<ZP.length),rr[i]?=some ZP[i].1:=fun i h=>by
   have hi:i<rr.length:=Zz
   rw[zA0 hi];congr 1;simp only[A5,List.getElem_zip]
  have yT:∀i (h:i<ZP.length),SH[i]?=some ZP[i].2:=fun i h=>by
   have hi:i<SH.length:=Zz
   rw[zA0 hi];congr 1;simp only[A5,List.getElem_zip]
  have yY:∀i (h:i<ZP.length),(ZP[i].1).length=4:=fun i h=>Ju _ (zB9 (se i h));refine jb fun c_ gx=>?_;refine⟨_,rfl,_,rfl,lr,ls,xr,_,rfl,SqL.of fT,SqL.of ko,fc rr.length (fun i ys σ Hc=>Same H5 Hc/\(∃o1 o2 o3 o4 o5,σ=[o1,o2,o3,o4,o5])/\Els Hc ys (cP (ZP.take i))) ⟨Same.refl _,⟨_,_,_,_,_,rfl⟩,Els.nil⟩ Zu ?_ ?_⟩
  .rintro i ys σ Hc hi hy ⟨sc,⟨o1,o2,o3,o4,o5,rfl⟩,ht⟩;have hP:i<ZP.length:=by rw[me];exact hi
   obtain⟨tr,ex,et⟩:=tN.2 i ZP[i].1 (se i hP);have er:SqL K Hc lr xr:=SqL.of (sc _ _ fT);have es:SqL K Hc ls (SH.map V.int):=SqL.of (sc _ _ ko);have tJ:(SH.map V.int)[i]?=some (.int ZP[i].2):=by rw[zAb,yT i hP];rfl
   have dv:ZP.take (i+1)=ZP.take i++[ZP[i]]:=by rw[zAj,zA0 hP];rfl
   have y7:=sc _ _ (k5 _ _ et);rw[cN (yY i hP)]at y7;refine⟨⟨_,_,_,_,er,es,ex,tJ⟩,fun x H' yv R hR=>?_⟩;obtain⟨T0,nT,rfl,yv⟩:=yv;obtain⟨x',y',rq,sf,rfl⟩:=yv _ _ er es;rw[ex]at rq;cases rq;rw[tJ]at sf;cases sf;have kq:=sc.updR (o:=.tup [.ref tr,.int ZP[i].2]) nT;refine⟨T0,_,rfl,SqT.of ao,rfl,_,_,rfl,?_⟩;refine⟨tr,_,rfl,SqT.of (Same.upd nT _ _ y7),rfl,_,_,rfl,_,_,rfl,_,_,rfl,_,_,rfl,rfl,?_⟩;refine⟨_,_,rfl,rfl,?_⟩;refine⟨_,rfl,_,_,rfl,rfl,_,rfl,?_⟩;by_cases aI:0<ZP[i].2
   .rw[zAt aI];refine bQ ⟨_,rfl,_,rfl,_,rfl,_,rfl,zL,fun t fx=>hR _ _ _ (by rw[zA2];show ys.length+1<=i+1;lia) ⟨kq.updR fx,⟨_,_,_,_,_,rfl⟩,?_⟩⟩;rw[dv,oH,zAx aI];exact(((ht.same (Same.upd nT)).same (Same.upd fx))).app (Els.one ao)
   .rw[zB6 aI];refine bA (hR _ _ _ Zz ⟨kq,⟨_,_,_,_,_,rfl⟩,?_⟩);rw[dv,oH,zAv aI,zAn];exact ht.same (Same.upd nT)
  rintro ys σ Hc hy ⟨sc,_,ht⟩;rw[<-me,zAm]at ht;refine⟨⟨_,SqL.of (sc _ _ fT),by rw[tN.1];exact zA3 _⟩,fun g hg=>?_⟩;have k6:=(k5.trans sc).updR (o:=.lst ys) hg;have ng:H g=none:=(k5.trans sc).free hg;have eg:=ao (H:=Hc) (a:=g) (o:=.lst ys);have cE:=ht.same (Same.upd (o:=.lst ys) hg);have mf:=Same.upd (o:=.lst ys) hg _ _ (sc _ _ fT);have si:=Same.upd (o:=.lst ys) hg _ _ (sc _ _ ko);generalize upd Hc g (.lst ys)=H6 at k6 eg cE mf si⊢;clear sc ht hy ko fT k5;refine gx _ _ ?_;clear gx c_
  try dsimp only
  refine jb fun c_ gx=>?_;refine⟨_,rfl,_,rfl,lr,ls,xr,_,rfl,SqL.of mf,SqL.of si,fc rr.length (fun i ys σ Hc=>Same H6 Hc/\(∃o1 o2 o3 o4 o5,σ=[o1,o2,o3,o4,o5])/\Els Hc ys (bB (ZP.take i))) ⟨Same.refl _,⟨_,_,_,_,_,rfl⟩,Els.nil⟩ Zu ?_ ?_⟩
  .rintro i ys σ Hc hi hy ⟨sc,⟨o1,o2,o3,o4,o5,rfl⟩,ht⟩;have hP:i<ZP.length:=by rw[me];exact hi
   obtain⟨tr,ex,et⟩:=tN.2 i ZP[i].1 (se i hP);have er:SqL K Hc lr xr:=SqL.of (sc _ _ mf);have es:SqL K Hc ls (SH.map V.int):=SqL.of (sc _ _ si);have tJ:(SH.map V.int)[i]?=some (.int ZP[i].2):=by rw[zAb,yT i hP];rfl
   have dv:ZP.take (i+1)=ZP.take i++[ZP[i]]:=by rw[zAj,zA0 hP];rfl
   have y7:=sc _ _ (k6 _ _ et);rw[cN (yY i hP)]at y7;refine⟨⟨_,_,_,_,er,es,ex,tJ⟩,fun x H' yv R hR=>?_⟩;obtain⟨T0,nT,rfl,yv⟩:=yv;obtain⟨x',y',rq,sf,rfl⟩:=yv _ _ er es;rw[ex]at rq;cases rq;rw[tJ]at sf;cases sf;have kq:=sc.updR (o:=.tup [.ref tr,.int ZP[i].2]) nT;refine⟨T0,_,rfl,SqT.of ao,rfl,_,_,rfl,?_⟩;refine⟨tr,_,rfl,SqT.of (Same.upd nT _ _ y7),rfl,_,_,rfl,_,_,rfl,_,_,rfl,_,_,rfl,rfl,?_⟩;refine⟨_,_,rfl,rfl,?_⟩;refine⟨_,rfl,_,rfl,_,_,rfl,rfl,_,rfl,?_⟩;by_cases aI:ZP[i].2<fl ZP[i].1 3
   .rw[zAt aI];refine bQ ⟨_,rfl,_,rfl,_,rfl,_,rfl,_,rfl,_,_,rfl,rfl,zL,fun t fx=>hR _ _ _ (by rw[zA2];show ys.length+1<=i+1;lia) ⟨kq.updR fx,⟨_,_,_,_,_,rfl⟩,?_⟩⟩;rw[dv,mD,zAx aI];exact(((ht.same (Same.upd nT)).same (Same.upd fx))).app (Els.one ao)
   .rw[zB6 aI];refine bA (hR _ _ _ Zz ⟨kq,⟨_,_,_,_,_,rfl⟩,?_⟩);rw[dv,mD,zAv aI,zAn];exact ht.same (Same.upd nT)
  rintro EA σ Hc hy ⟨sc,_,ht⟩;rw[<-me,zAm]at ht;refine⟨⟨_,SqL.of (sc _ _ mf),by rw[tN.1];exact zA3 _⟩,fun k hk=>?_⟩;have k7:=(k6.trans sc).updR (o:=.lst EA) hk;have nk:H k=none:=(k6.trans sc).free hk;have sk:=Same.upd (o:=.lst EA) hk;refine gx _ _ ?_;clear gx c_
  try dsimp only
  refine⟨_,rfl,_,rfl,zL,fun t fx=>?_⟩;have st:=Same.upd (o:=.tup [.ref g,.ref k]) fx;exact q t g k ys EA _ (k7.trans st) ao ng nk (st _ _ (sk _ _ (sc _ _ eg))) (((cE.same sc).same sk).same st) (st _ _ ao) ((ht.same sk).same st)
def c7(L:List Int)(i:Nat):List (List Int):=((List.range i).filter fun h=>decide (0<L.getD h 0)).map fun(h:Nat)=>[(h:Int),L.getD h 0]
theorem fM(L:List Int)(i:Nat):c7 L (i+1)=c7 L i++(if 0<L.getD i 0 then[[(i:Int),L.getD i 0]]else[]):=by
 unfold c7;rw[List.range_succ,List.filter_append,zA4];congr 1;by_cases h:0<L.getD i 0
 .rw[zAx h,zB7 (p:=fun h=>decide (0<L.getD h 0)) (zAt h)];rfl
 .rw[zAv h,zB8 (p:=fun h=>decide (0<L.getD h 0)) (by rw[Zq];exact h)];rfl
theorem uH(L:List Int)(i:Nat):(c7 L i).length<=i:=by
 unfold c7;rw[zA1];have:=List.length_filter_le (fun h=>decide (0<L.getD h 0)) (List.range i);rw[List.length_range]at this;exact this
def fZ(ps ss:List (List Int))(sort year:Int)(n:Nat):List (List Int):=if fl (ps.getD n []) 1=sort then(c7 (aY (ps.getD n []) ss n year) 8).map (fun r=>year::(n:Int)::r)else[]
def fB(ps ss:List (List Int))(sort year:Int):Nat->List (List Int)
 |0=>[]
 |k+1=>fB ps ss sort year k++fZ ps ss sort year k
def aC(ps ss:List (List Int))(sort year:Int):List (List Int):=fB ps ss sort year ps.length
theorem zy(ps ss:List (List Int))(sort year:Int)(n:Nat):(fZ ps ss sort year n).length<=8:=by
 unfold fZ;split
 .rw[zA1];exact uH _ 8
 .exact zAp _
theorem mF(ps ss:List (List Int))(sort year:Int):∀k,(fB ps ss sort year k).length<=8*k
 |0=>zA3 _
 |k+1=>by
  unfold fB;rw[zA2];have:=mF ps ss sort year k;have:=zy ps ss sort year k;lia
inductive SpClaimsI(vs:List V)(H:Hp)(Q:VK):Prop
 |mk:∀ap xp ps af xs ss sort year,(vs=[.ref ap,.ref af,.int sort,.int year])->(RowsAt H ap xp ps)->(ps.length<=10)->((∀r∈ps,okP r))->(RowsAt H af xs ss)->(ss.length<=12)->((∀s∈ss,okS s))->(∀l xl H',Same H H'->H l=none->H' l=some (.lst xl)->Els H' xl (aC ps ss sort year)->Q (.ref l) H')->SpClaimsI  vs H Q
def sY:Sp:=fun vs H Q _=>SpClaimsI  vs H Q
theorem ndV:(["holder","sacks","year","number"]:List Str).Nodup:=by decide +kernel
theorem scV1:FnScope ["promises","sales","sort","year","claims","number","promise","held"] ["promises","sales","sort","year"] (aK (top 45)):=fQS
theorem xO(F:Fun K "claims_in" "claims_in" (top 45) f fd)(Te:mg "enumerate"=none)(c1:Cal P w K mg base 1 "held_in" ["promises","sales","number","year"] qy):FnOk P w K mg base CX0 2 f fd ["promises","sales","sort","year"] sY:=by
 refine F.ok scV1 (fun vs H Q E h=>?_) (fun ah A outer s H vs Q E hr h=>?_)
 .obtain⟨ap,xp,ps,af,xs,ss,sort,year,rfl,_⟩:=h;rfl
 .obtain⟨ap,xp,ps,af,xs,ss,sort,year,rfl,rp,lp,okp,rs,ls,cx,q⟩:=h
  refine⟨_,aA (pss 4 scV1.nd (cT aj))
   (aA (bV zB4 rfl (ZT.pi_enum true rfl Te (az (pv 0) aj)) (bI rfl (aq (bF (i:=5) scV1.nd rfl (Or.inr rfl)) (aq (pgn 6 scV1.nd) aW)))
    (aD (cj (bG nC (pX bJ (pv 6) aB) (pv 2) (bD _))
     (aA (pss 7 scV1.nd (aJ c1 hr (az (pv 0) (az (pv 1) (az (pv 5) (az (pv 3) aj))))))
     (aD (kJ (i:=4) scV1.nd rfl (Or.inl rfl) (cF (g:=jR K 2 (bY (bC 0) (bY (bC 1) kI))) ["holder","sacks","year","number"] [none,none,some 3,some 5] rfl (ZT.pi_enum false rfl Te (az (pv 7) aj))
      (fun C fp Zt s₂ H₂=>⟨dJ rfl rfl (aq (pgn 0 ndV) (aq (pgn 1 ndV) aW)),gw (bG kY (pv 1) aB (bD _)),bO (az (pv 2) (az (pv 3) (az (pv 0) (az (pv 1) aj))))⟩)
      (fun C=>cI (cI trivial)) ⟨rfl,rfl,rfl,rfl⟩) qm))) aZ)))
   (aD (aP (pv 4)))),?_⟩
  refine aG (aX ?_);refine⟨zL,fun l hl=>?_⟩;refine aM ?_;dsimp only;refine aG ?_;have s0:=Same.upd (o:=.lst []) hl;refine⟨_,rfl,ap,xp,rfl,SqT.of (s0 _ _ rp.e),?_⟩;refine ZT.for_enum true (xs:=xp) (fun i σ Hc=>∃x5 x6 x7 xl,σ=[some (.ref ap),some (.ref af),some (.int sort),some (.int year),some (.ref l),x5,x6,x7]/\(∀b o,H b=some o->Hc b=some o)/\Hc l=some (.lst xl)/\Els Hc xl (fB ps ss sort year i)) ?_ ?_ ?_ ?_
  .exact⟨none,none,none,[],rfl,fun b o e=>s0 _ _ e,ao,Els.nil⟩
  .rintro i σ Hc hi ⟨x5,x6,x7,xl,rfl,k,el,ht⟩;exact SqT.of (k _ _ rp.e)
  .rintro i x σ Hc T0 hx ⟨x5,x6,x7,xl,rfl,k,el,ht⟩ nT
   have hi:i<ps.length:=by
    have:=(zAa.mp hx).1;rw[rp.l]at this;exact this
   obtain⟨tr,df,cv⟩:=rp.g i ps[i] (zA0 hi)
   have:x=.ref tr:=by
    rw[hx]at df;exact zAl df
   subst this;have op:=okp ps[i] (zAh hi);have ep:ps.getD i []=ps[i]:=getD_get hi;rw[dM op.1]at cv;have sT:=Same.upd (o:=.tup [V.int i,V.ref tr]) nT;have kT:Same H (upd Hc T0 (.tup [V.int i,V.ref tr])):=fun b o e=>sT _ _ (k _ _ e);have EB:=sT _ _ el;have EC:=ht.same sT;have eT:=ao (H:=Hc) (a:=T0) (o:=.tup [V.int i,V.ref tr]);generalize upd Hc T0 (.tup [V.int i,V.ref tr])=H1 at kT EB EC eT⊢;refine⟨T0,_,rfl,SqT.of eT,rfl,_,_,rfl,_,_,rfl,rfl,?_⟩;refine⟨_,rfl,tr,_,1,.int (fl ps[i] 1),rfl,rfl,SqT.of (kT _ _ cv),rfl,_,rfl,rfl,_,rfl,?_⟩;by_cases hs:fl ps[i] 1=sort
   .rw[zAt (by rw[hs])];refine bQ (aG ?_);refine aX ?_;refine⟨_,rfl,_,rfl,_,rfl,_,rfl,ap,xp,ps,af,xs,ss,i,year,rfl,rp.same kT,rs.same kT,Zz,Zz,by rw[zAi,ep];exact op,ls,cx,fun hd H2 s2 e2=>?_⟩;rw[zAi,ep]at e2;have ED:=dG ps[i] ss i year
    have Jv:fZ ps ss sort year i=(c7 (aY ps[i] ss i year) 8).map (fun r=>year::(i:Int)::r):=by
     unfold fZ;rw[ep,zAx hs]
    generalize aY ps[i] ss i year=L at e2 ED Jv;have k2:=kT.trans s2;have el2:=s2 _ _ EB;have sj:=EC.same s2;refine aM ?_;dsimp only;refine⟨_,rfl,_,rfl,hd,_,rfl,SqL.of e2,fc 8 (fun j ys σ Hj=>Same H2 Hj/\(∃o1 o2,σ=[o1,o2,some (.int year),some (.int i)])/\Els Hj ys ((c7 L j).map (fun r=>year::(i:Int)::r))) ⟨Same.refl _,⟨_,_,rfl⟩,Els.nil⟩ (by rw[sizeLine_eq];decide) ?_ ?_⟩
    .rintro j ys σ Hj hj hy ⟨sc,⟨o1,o2,rfl⟩,ij⟩;have kc:SqL K Hj hd (L.map V.int):=SqL.of (sc _ _ e2)
     have y8:(L.map V.int)[j]?=some (.int (L.getD j 0)):=by
      have cw:j<L.length:=Zz
      rw[zAb,zA7,zA0 cw];rfl
     refine⟨⟨_,_,kc,y8⟩,fun x H' yv R hR=>?_⟩;obtain⟨T1,sv,rfl,yv⟩:=yv;obtain⟨x',eJ,rfl⟩:=yv _ kc;rw[y8]at eJ;cases eJ;have kq:=sc.updR (o:=.tup [.int (j:Int),.int (L.getD j 0)]) sv;refine⟨T1,_,rfl,SqT.of ao,rfl,_,_,rfl,_,_,rfl,rfl,?_⟩;refine⟨_,rfl,_,_,rfl,rfl,_,rfl,?_⟩;by_cases aI:0<L.getD j 0
     .rw[zAt aI];refine bQ ⟨_,rfl,_,rfl,_,rfl,_,rfl,zL,fun t fx=>hR _ _ _ (by rw[zA2];show ys.length+1<=j+1;lia) ⟨kq.updR fx,⟨_,_,rfl⟩,?_⟩⟩;rw[fM,zAx aI,zA4];exact((ij.same (Same.upd sv)).same (Same.upd fx)).app (Els.one ao)
     .rw[zB6 aI];refine bA (hR _ _ _ Zz ⟨kq,⟨_,_,rfl⟩,?_⟩);rw[fM,zAv aI,zAn];exact ij.same (Same.upd sv)
    .rintro ys σ Hj hy ⟨sc,_,ij⟩;refine⟨⟨_,SqL.of (sc _ _ e2),by rw[zA1];lia⟩,fun D hD=>?_⟩;have sD:=sc.updR (o:=.lst ys) hD
     have nD:D≠l:=fun z=>by rw[z,sc _ _ el2]at hD;cases hD
     have ll:=mF ps ss sort year i;have:=ht.1;refine⟨l,D,xl,ys,rfl,rfl,sD _ _ el2,ao,by rw[sizeLine_eq];lia,?_⟩;refine⟨_,_,_,xl++ys,rfl,fun b o e=>?_,ao,?_⟩
     .rw[aF (aH e hl)];exact sD _ _ (k2 _ _ e)
     .have e3:=(sj.same sD).app (ij.same (Same.upd (o:=.lst ys) hD));rw[<-Jv]at e3;refine e3.keep fun b z e=>?_;rw[aF fun w=>by rw[w,sD _ _ el2]at e;cases e];exact e
   .rw[zB6 (fun z=>hs (by injection z))];refine bA ?_;refine⟨_,_,_,xl,rfl,fun b o e=>kT _ _ e,EB,?_⟩
    have:fB ps ss sort year (i+1)=fB ps ss sort year i:=by
     show fB ps ss sort year i++fZ ps ss sort year i=_;unfold fZ;rw[ep,zAv hs,zAn]
    rw[this];exact EC
  .rintro σ Hc ⟨x5,x6,x7,xl,rfl,k,el,ht⟩;rw[show xp.length=ps.length from rp.l]at ht;exact⟨_,rfl,q l xl Hc (fun b o e=>k b o e) hl el ht⟩
theorem sum_set:∀(L:List Int) (i:Nat) (a:Int),i<L.length->(L.set i a).sum=L.sum-L.getD i 0+a
 |[],i,a,h=>by simp at h
 |x::L,0,a,h=>by
  rw[List.set_cons_zero,List.sum_cons,List.sum_cons,List.getD_cons_zero];lia
 |x::L,i+1,a,h=>by
  rw[List.set_cons_succ,List.sum_cons,List.sum_cons,List.getD_cons_succ,sum_set L i a (by simpa using h)];lia
theorem sZ{L:List Int}{i v:Int}(h:i.toNat<L.length):(iY L i v).sum=L.sum+v:=by
 unfold iY;rw[sum_set _ _ _ h];lia
theorem gC:∀{L:List Int},(∀x∈L,0<=x)->0<=L.sum/\∀x∈L,x<=L.sum
 |[],_=>⟨Int.le_refl _,fun x hx=>by cases hx⟩
 |y::L,h=>by
  obtain⟨h1,h2⟩:=gC (L:=L) fun x hx=>h x (.tail _ hx);have hy:=h y (.head _);rw[List.sum_cons];refine⟨Zz,fun x hx=>?_⟩;rcases zAo.mp hx with z|z
  .lia
  .have:=h2 x z;lia
theorem iH{L:List Int}(h:∀x∈L,0<=x)(i:Nat):0<=L.getD i 0:=by
 rw[zA7]
 cases e:L[i]? with
 |none=>exact Int.le_refl _
 |some y=>exact h y (zB9 e)
theorem vN{L:List Int}{i v:Int}(h:∀x∈L,0<=x)(hv:0<=L.getD i.toNat 0+v):∀x∈iY L i v,0<=x:=by
 intro x hx;unfold iY at hx;rcases List.mem_or_eq_of_mem_set hx with z|z
 .exact h x z
 .rw[z];exact hv
theorem zF{ps ss:List (List Int)}(h:un ps ss=none):∀j,j<ss.length->dh ps (ss.take j) (ss.getD j [])=true:=fun j hj=>by
 unfold un at h;have:=List.find?_eq_none.mp h j (List.mem_range.mpr hj);simpa using this
theorem Cg{ps ss:List (List Int)}{n:Nat}{y:Int}(hu:un ps ss=none)(h5:∀s∈ss,s.length=5)(op:okP (ps.getD n [])):
  ∀k,k<=ss.length->(∀x∈aY (ps.getD n []) (ss.take k) n y,0<=x)/\(aY (ps.getD n []) (ss.take k) n y).sum<=99:=by
 intro k;by_cases hy:fl (ps.getD n []) 2<=y/\y<=fl (ps.getD n []) 3
 .obtain⟨_,⟨a1,a2⟩,_,_,⟨e1,e2⟩,_⟩:=id op
  induction k with
  |zero=>
   intro _;rw[List.take_zero];unfold aY;rw[zAx hy];show(∀x∈base0 (ps.getD n []),0<=x)/\(base0 (ps.getD n [])).sum<=99;unfold base0;refine⟨fun x hx=>?_,?_⟩
   .rcases List.mem_or_eq_of_mem_set hx with z|z
    .rw[List.eq_of_mem_replicate z];exact Int.le_refl _
    .lia
   .rw[sum_set _ _ _ (by rw[List.length_replicate];lia)];have:(List.replicate 8 (0:Int)).sum=0:=rfl
    have e:(List.replicate 8 (0:Int)).getD (fl (ps.getD n []) 0).toNat 0=0:=by
     rw[zA7,List.getElem?_replicate,zAx Zz];rfl
    rw[this,e];lia
  |succ k ih=>
   intro hk;have cw:k<ss.length:=Zz
   obtain⟨i1,i2⟩:=ih Zz;have hB:=zF hu k cw;rw[getD_get cw]at hB;have dv:ss.take (k+1)=ss.take k++[ss[k]]:=by rw[zAj,zA0 cw];rfl
   have eh:aY (ps.getD n []) (ss.take (k+1)) n y=hstep n y (aY (ps.getD n []) (ss.take k) n y) ss[k]:=by
    unfold aY;rw[zAx hy,zAx hy,dv,List.foldl_append];rfl
   have L0:=jo (h5 _ (zAh cw)) hB;obtain⟨_,⟨b1,b2⟩,c1,c2⟩:=L0;have hl:=dG (ps.getD n []) (ss.take k) n y;rw[eh];unfold hstep;by_cases hc:fl ss[k] 0=n/\fl ss[k] 4<=y
   .rw[zAx hc];unfold dh at hB;rw[zAc]at hB;obtain⟨EE,kG⟩:=hB
    have ep:my ps ss[k]=ps.getD n []:=by
     unfold my;rw[hc.1,zAi]
    have nr:fl ss[k] 3<=(aY (ps.getD n []) (ss.take k) n y).getD (fl ss[k] 1).toNat 0:=by
     have:=List.all_eq_true.mp kG y (by
      unfold years;refine zA5.mpr ⟨(y-fl ss[k] 4).toNat,List.mem_range.mpr ?_,?_⟩
      .rw[ep];lia
      .lia)
     have:=zB2 this;rw[ep,hc.1]at this;exact this
    unfold nj at EE;simp only[Bool.and_eq_true,Zq,Bool.not_eq_true',decide_eq_false_iff_not]at EE;obtain⟨_,_,_,EF,⟨v1,v2⟩,_⟩:=EE;generalize aY (ps.getD n []) (ss.take k) n y=L at i1 i2 hl nr;have n1:=vN (i:=fl ss[k] 1) (v:=-(fl ss[k] 3)) i1 Zz;refine⟨vN n1 ?_,?_⟩
    .have:=iH n1 (fl ss[k] 2).toNat;lia
    .rw[sZ (by rw[gY];lia),sZ Zz];lia
   .rw[zAv hc];exact⟨i1,i2⟩
 .intro _;unfold aY;rw[zAv hy];refine⟨fun x hx=>by rw[List.eq_of_mem_replicate hx];exact Int.le_refl _,by decide⟩
theorem Dt{ps ss:List (List Int)}{sort year:Int}(hu:un ps ss=none)(h5:∀s∈ss,s.length=5)(okp:∀r∈ps,okP r):∀k,k<=ps.length->∀r∈fB ps ss sort year k,r.length=4/\1<=fl r 3/\fl r 3<=99/\fl r 0=year/\0<=fl r 1/\fl r 1<k:=by
 intro k
 induction k with
 |zero=>intro _ r hr;cases hr
 |succ k ih=>
  intro hk r hr;rcases zA6.mp (show r∈fB ps ss sort year k++fZ ps ss sort year k from hr)with z|z
  .obtain⟨h1,h2,h3,h4,h6,h7⟩:=ih Zz r z;exact⟨h1,h2,h3,h4,h6,Zz⟩
  .unfold fZ at z;split at z
   .obtain⟨q,hq,rfl⟩:=zA5.mp z;unfold c7 at hq;obtain⟨h,hh,rfl⟩:=zA5.mp hq;have hp:=zB2 (zAq.mp hh).2;have cw:k<ps.length:=Zz
    obtain⟨a,b⟩:=Cg (n:=k) (y:=year) hu h5 (by rw[getD_get cw];exact okp _ (zAh cw)) ss.length (zA3 _);rw[zAm]at a b
    have le:(aY (ps.getD k []) ss k year).getD h 0<=99:=by
     rw[zA7]at hp⊢
     cases e:(aY (ps.getD k []) ss k year)[h]? with
     |none=>show(0:Int)<=99;decide
     |some y=>
      have:=(gC a).2 y (zB9 e);show y<=99;lia
    refine⟨rfl,?_,le,rfl,?_,?_⟩
    .show 1<=(aY (ps.getD k []) ss k year).getD h 0;lia
    .show(0:Int)<=(k:Int);lia
    .show(k:Int)<((k+1:Nat):Int);lia
   .cases z
end K22
namespace K22P
open PySem L2
theorem sum_set:∀{l:List Int} {i:Nat} {x:Int},i<l.length->(l.set i (l.getD i 0+x)).sum=l.sum+x
 |a::l,0,x,_=>by simp;lia
 |a::l,i+1,x,h=>by
  have:=sum_set (l:=l) (i:=i) (x:=x) (by simpa using h);simp only[List.set_cons_succ,List.sum_cons,List.getD_cons_succ];lia
theorem oJ:∀(pl:List Nat) (l:List Int),(∀i∈pl,i<l.length)->(dw l pl).sum=l.sum+pl.length
 |[],l,_=>by simp[dw]
 |i::pl,l,h=>by
  show(dw (l.set i (l.getD i 0+1)) pl).sum=_;rw[oJ pl _ fun j hj=>by rw[List.length_set];exact h j (.tail _ hj),sum_set (h i (.head _)),zAe];lia
theorem res_sum{n:Int}{ws:List Int}(ok:OkW ws):(res n ws).sum=n:=by
 have o:=(ig (rs n ws)).choose_spec;have hl:=o.len;rw[jH]at hl;have l0:=zq (n:=n) ok;have l1:=Ds (n:=n) ok;unfold res;rw[oJ _ _ fun i hi=>by rw[qF];have:=o.lt i (List.mem_of_mem_take hi);rw[jH]at this;exact this,zAd,Nat.min_eq_left Zz];have:lf n ws=n-(fs n ws).sum:=rfl;lia
end K22P
namespace K22
open PySem L2
theorem mG:∀{w:Int} {rs:List (List Int)},0<=w->(∀r∈rs,0<=fl r 3)->(∀x∈cO w rs,0<=x)/\0<=(cO w rs).sum/\(cO w rs).sum<=w
 |w,[],h,_=>⟨fun x hx=>(by cases hx),Int.le_refl _,h⟩
 |w,r::rs,h,hr=>by
  have h3:=hr r (.head _);unfold cO;by_cases hc:w<fl r 3
  .rw[zAx hc];obtain⟨a,b,c⟩:=mG (w:=w-w) (rs:=rs) Zz fun q hq=>hr q (.tail _ hq);refine⟨fun x hx=>?_,by rw[List.sum_cons];lia,by rw[List.sum_cons];lia⟩;rcases zAo.mp hx with z|z
   .lia
   .exact a x z
  .rw[zAv hc];obtain⟨a,b,c⟩:=mG (w:=w-fl r 3) (rs:=rs) Zz fun q hq=>hr q (.tail _ hq);refine⟨fun x hx=>?_,by rw[List.sum_cons];lia,by rw[List.sum_cons];lia⟩;rcases zAo.mp hx with z|z
   .lia
   .exact a x z
theorem vO:∀{rs:List (List Int)} {sh:List Int},sh.length=rs.length->(∀x∈sh,0<=x)->aN (cP (rs.zip sh))=sh.sum
 |[],[],_,_=>rfl
 |[],_::_,h,_=>by simp at h
 |_::_,[],h,_=>by simp at h
 |r::rs,x::sh,h,hn=>by
  have ih:=vO (rs:=rs) (sh:=sh) (by simpa using h) fun y hy=>hn y (.tail _ hy);have hx:=hn x (.head _);rw[List.zip_cons_cons,List.sum_cons,<-ih];unfold cP;by_cases hp:0<x
  .rw[zB7 (p:=fun(p:List Int×Int)=>decide (0<p.2)) (zAt hp),zAk];unfold aN wts;rw[zAk,List.sum_cons];rfl
  .rw[zB8 (p:=fun(p:List Int×Int)=>decide (0<p.2)) (by rw[Zq];exact hp)];have:x=0:=Zz
   rw[this,Int.zero_add]
theorem uI{w:Int}{cl ow:List (List Int)}(hw:0<=w)(hc:∀r∈cl,r.length=4/\1<=fl r 3/\fl r 3<=99)(hz:cl.length<=80)(ho:∀r∈ow,0<=fl r 3):(∀x∈shr w cl ow,0<=x)/\0<=(shr w cl ow).sum/\(shr w cl ow).sum<=w:=by
 have hs:(∀x∈bj w cl,0<=x)/\(bj w cl).sum<=w:=by
  unfold bj;by_cases h:(wts cl).sum<=w
  .rw[zAx h];refine⟨fun x hx=>?_,h⟩;obtain⟨r,hr,rfl⟩:=zA5.mp hx;have:=(hc r hr).2.1;lia
  .rw[zAv h]
   have ok:K22P.OkW (wts cl):=by
    refine⟨?_,by unfold wts;rw[zA1];exact hz,fun x hx=>?_⟩
    .cases gu:cl with
     |nil=>
      rw[gu]at h;exact absurd hw h
     |cons r rV=>
      unfold wts;rw[zA1,zAe];lia
    .obtain⟨r,hr,rfl⟩:=zA5.mp hx;exact(hc r hr).2
   refine⟨fun x hx=>?_,by rw[K22P.res_sum ok];exact Int.le_refl _⟩;obtain⟨i,hi,e⟩:=List.getElem_of_mem hx;have hX:i<(wts cl).length:=by rw[K22P.res_len]at hi;exact hi
   exact(K22P.res_get ok hw Zz (i:=i) (r:=x) (w:=(wts cl)[i]) (by rw[zA0 hi,e]) (zA0 hX)).1
 obtain⟨h1,h2⟩:=hs;have h3:=(gC h1).1;obtain⟨m1,m2,m3⟩:=mG (w:=w-(bj w cl).sum) (rs:=ow) Zz ho;unfold shr;refine⟨fun x hx=>(zA6.mp hx).elim (h1 x) (m1 x),?_,?_⟩
 .rw[List.sum_append];lia
 .rw[List.sum_append];lia
theorem vP{w:Int}{cl ow:List (List Int)}(hw:0<=w)(hc:∀r∈cl,r.length=4/\1<=fl r 3/\fl r 3<=99)(hz:cl.length<=80)(ho:∀r∈ow,0<=fl r 3):aN (cP ((cl++ow).zip (shr w cl ow)))=(shr w cl ow).sum/\0<=w-aN (cP ((cl++ow).zip (shr w cl ow))):=by
 obtain⟨a,b,c⟩:=uI hw hc hz ho;have e:=vO (rs:=cl++ow) (sh:=shr w cl ow) (by unfold shr;rw[zA2,zA2,shares_len,dH]) a;exact⟨e,by rw[e];lia⟩
def rle(a b:List Int):Bool:=!HT.lexLt b a
theorem Fw(a b c:List Int)(h1:rle a b=true)(h2:rle b c=true):rle a c=true:=by
 unfold rle at *;rw[Bool.not_eq_true']at *
 cases h:HT.lexLt c a with
 |false=>rfl
 |true=>
  rcases vC c b a h with z|z
  .rw[z]at h2;cases h2
  .rw[z]at h1;cases h1
theorem Ci(a b:List Int):(rle a b||rle b a)=true:=by
 unfold rle
 cases h:HT.lexLt b a with
 |false=>rfl
 |true=>
  cases h':HT.lexLt a b with
  |false=>rfl
  |true=>
   have:=qj a b a h' h;rw[qi]at this;cases this
def srt(rs:List (List Int)):List (List Int):=rs.mergeSort rle
theorem zG{rs rV:List (List Int)}(pm:rV.Perm rs)(so:rV.Pairwise (fun a b=>HT.lexLt b a=false)):rV=srt rs:=by
 have L3:rV.Pairwise (fun a b=>rle a b=true):=so.imp fun{a b} h=>by unfold rle;rw[h];rfl
 refine List.Perm.eq_of_pairwise (le:=fun a b=>rle a b=true) (fun a b _ _ h1 h2=>?_) L3 (List.pairwise_mergeSort Fw Ci rs) (pm.trans (List.mergeSort_perm rs rle).symm);unfold rle at h1 h2;rw[Bool.not_eq_true']at h1 h2;exact jY a b h2 h1
structure Yr where
 g:List (List Int)
 k:List (List Int)
 l:List Int
 d:Int
def au(ps ow:List (List Int))(sort:Int):List (List Int):=ow.filter fun r=>decide (fl (ps.getD (fl r 1).toNat []) 1=sort)
def Hr(c:List Int)(ps ss ow:List (List Int))(y:Int)(a:Yr)(sort:Nat):Yr:=
 ⟨a.g++cP ((aC ps ss sort y++au ps ow sort).zip (shr (c.getD sort 0+a.d) (aC ps ss sort y) (au ps ow sort))),
  a.k++bB ((aC ps ss sort y++au ps ow sort).zip (shr (c.getD sort 0+a.d) (aC ps ss sort y) (au ps ow sort))),
  a.l++[c.getD sort 0+a.d-aN (cP ((aC ps ss sort y++au ps ow sort).zip (shr (c.getD sort 0+a.d) (aC ps ss sort y) (au ps ow sort))))],
  c.getD sort 0+a.d-aN (cP ((aC ps ss sort y++au ps ow sort).zip (shr (c.getD sort 0+a.d) (aC ps ss sort y) (au ps ow sort))))⟩
def yTo(c:List Int)(ps ss ow:List (List Int))(y:Int):Nat->Yr
 |0=>⟨[],[],[],0⟩
 |n+1=>Hr c ps ss ow y (yTo c ps ss ow y n) n
def okO(ps:List (List Int))(r:List Int):Prop:=r.length=4/\0<=fl r 1/\fl r 1<ps.length/\1<=fl r 3
theorem fj{ps ow:List (List Int)}{sort:Int}(h:∀r∈ow,okO ps r):∀r∈au ps ow sort,okO ps r:=fun r hr=>h r (zAq.mp hr).1
theorem oK(ps ow:List (List Int))(sort:Int):(au ps ow sort).length<=ow.length:=List.length_filter_le _ _
theorem eQ{ps ss:List (List Int)}{sort year:Int}(hu:un ps ss=none)(h5:∀s∈ss,s.length=5)(okp:∀r∈ps,okP r):∀r∈aC ps ss sort year,r.length=4/\1<=fl r 3/\fl r 3<=99:=fun r hr=>by
 obtain⟨a,b,c,_⟩:=Dt (sort:=sort) (year:=year) hu h5 okp ps.length (zA3 _) r hr;exact⟨a,b,c⟩
theorem cU{ps ss:List (List Int)}{sort year:Int}(h:ps.length<=10):(aC ps ss sort year).length<=80:=by
 have:=mF ps ss sort year ps.length;unfold aC;lia
theorem xP{c:List Int}{ps ss ow:List (List Int)}{y:Int}(hc:∀x∈c,0<=x)(hu:un ps ss=none)(h5:∀s∈ss,s.length=5)(okp:∀r∈ps,okP r)(hl:ps.length<=10)(ho:∀r∈ow,okO ps r):∀n,0<=(yTo c ps ss ow y n).d
 |0=>Int.le_refl _
 |n+1=>by
  have ih:=xP (y:=y) hc hu h5 okp hl ho n
  have hw:0<=c.getD n 0+(yTo c ps ss ow y n).d:=by
   have:=iH hc n;lia
  exact(vP hw (eQ hu h5 okp) (cU hl) fun r hr=>by have:=(fj ho r hr).2.2.2;lia).2
theorem vQ(P:List (List Int×Int)):(cP P).length<=P.length:=by
 unfold cP;rw[zA1];exact List.length_filter_le _ _
theorem mH(P:List (List Int×Int)):(bB P).length<=P.length:=by
 unfold bB;rw[zA1];exact List.length_filter_le _ _
theorem zH{c:List Int}{ps ss ow:List (List Int)}{y:Int}(hl:ps.length<=10):∀n,(yTo c ps ss ow y n).g.length<=n*(80+ow.length)/\(yTo c ps ss ow y n).k.length<=n*(80+ow.length)/\(yTo c ps ss ow y n).l.length=n
 |0=>⟨zAp _,zAp _,rfl⟩
 |n+1=>by
  obtain⟨a,b,d⟩:=zH (c:=c) (ss:=ss) (ow:=ow) (y:=y) hl n;have h1:=cU (ss:=ss) (sort:=n) (year:=y) hl;have h2:=oK ps ow n
  have hz:∀sh:List Int,((aC ps ss n y++au ps ow n).zip sh).length<=80+ow.length:=fun sh=>by
   rw[zAs,zA2];lia
  rw[Nat.succ_mul];refine⟨?_,?_,?_⟩
  .show((yTo c ps ss ow y n).g++cP _).length<=_;rw[zA2];have:=vQ ((aC ps ss n y++au ps ow n).zip (shr (c.getD n 0+(yTo c ps ss ow y n).d) (aC ps ss n y) (au ps ow n)));have:=hz (shr (c.getD n 0+(yTo c ps ss ow y n).d) (aC ps ss n y) (au ps ow n));lia
  .show((yTo c ps ss ow y n).k++bB _).length<=_;rw[zA2];have:=mH ((aC ps ss n y++au ps ow n).zip (shr (c.getD n 0+(yTo c ps ss ow y n).d) (aC ps ss n y) (au ps ow n)));have:=hz (shr (c.getD n 0+(yTo c ps ss ow y n).d) (aC ps ss n y) (au ps ow n));lia
  .show((yTo c ps ss ow y n).l++[_]).length=n+1;rw[zA2,d];rfl
theorem y_row{c:List Int}{ps ss ow:List (List Int)}{y:Int}:∀n,(∀r∈(yTo c ps ss ow y n).g,r.length=4)/\∀r∈(yTo c ps ss ow y n).k,r.length=4
 |0=>⟨fun r hr=>(by cases hr),fun r hr=>(by cases hr)⟩
 |n+1=>by
  obtain⟨a,b⟩:=y_row (c:=c) (ps:=ps) (ss:=ss) (ow:=ow) (y:=y) n;refine⟨fun r hr=>?_,fun r hr=>?_⟩
  .rcases zA6.mp (show r∈(yTo c ps ss ow y n).g++cP _ from hr)with z|z
   .exact a r z
   .obtain⟨p,_,rfl⟩:=zA5.mp z;rfl
  .rcases zA6.mp (show r∈(yTo c ps ss ow y n).k++bB _ from hr)with z|z
   .exact b r z
   .obtain⟨p,_,rfl⟩:=zA5.mp z;rfl
def vInt:V->Int
 |.int i=>i
 |_=>0
def jJ(H:Hp)(a:Addr):List Int:=match H a with
 |some (.tup xs)=>xs.map vInt
 |_=>[]
theorem Cj{H:Hp}{a:Addr}{r:List Int}(e:H a=some (.tup (r.map V.int))):jJ H a=r:=by
 unfold jJ;rw[e];show(r.map V.int).map vInt=r;rw[zAr];exact List.map_id _
theorem qG{H:Hp}:∀{xs:List V} {rs:List (List Int)},Els H xs rs->∃ads:List Addr,xs=ads.map V.ref/\rs=ads.map (jJ H)/\∀a∈ads,H a=some (.tup ((jJ H a).map V.int))
 |[],[],_=>⟨[],rfl,rfl,fun a ha=>(by cases ha)⟩
 |[],_::_,h=>by have:=h.1;simp at this
 |_::_,[],h=>by have:=h.1;simp at this
 |x::xs,r::rs,h=>by
  obtain⟨t,e1,e2⟩:=h.2 0 r rfl;rw[List.getElem?_cons_zero]at e1;cases e1
  obtain⟨ads,f1,f2,f3⟩:=qG (xs:=xs) (rs:=rs) ⟨by have:=h.1;simpa using this,fun i q e=>by
   obtain⟨u,g1,g2⟩:=h.2 (i+1) q (by rw[List.getElem?_cons_succ];exact e);rw[List.getElem?_cons_succ]at g1
   exact⟨u,g1,g2⟩⟩
  have er:=Cj e2;refine⟨t::ads,by rw[f1];rfl,by rw[f2,zAk,er,<-f2],fun a ha=>?_⟩;rcases zAo.mp ha with z|z
  .rw[z,er];exact e2
  .exact f3 a z
theorem zJ{H H':Hp}{l':List Addr}(h:∀a∈l',H' a=some (.tup ((jJ H a).map V.int))):Els H' (l'.map V.ref) (l'.map (jJ H)):=by
 refine⟨by rw[zA1,zA1],fun i r e=>?_⟩;rw[zAb]at e
 cases z:l'[i]? with
 |none=>rw[z]at e;cases e
 |some a=>
  rw[z]at e;cases e;exact⟨a,by rw[zAb,z];rfl,h a (zB9 z)⟩
inductive SpYearI(vs:List V)(H:Hp)(Q:VK):Prop
 |mk:∀bk y lo ac xc cs ap xp ps af xs ss xo ow,(vs=[.ref bk,.int y,.ref lo])->(H bk=some (.tup [.ref ac,.ref ap,.ref af]))->(RowsAt H ac xc cs)->((∀r∈cs,r.length=3/\∀x∈r,0<=x))->(0<=y)->(y<cs.length)->(RowsAt H ap xp ps)->(ps.length<=10)->((∀r∈ps,okP r))->(RowsAt H af xs ss)->(ss.length<=12)->((∀s∈ss,s.length=5))->(un ps ss=none)->(H lo=some (.lst xo))->(Els H xo ow)->((∀r∈ow,okO ps r))->(ow.length<=10000)->(∀t g k tl xg xk H',Same H H'->H' t=some (.tup [.ref g,.ref k,.ref tl])->H g=none->H k=none->(g≠sysModules/\k≠sysModules)->H' g=some (.lst xg)->Els H' xg (srt (yTo (cs.getD y.toNat []) ps ss ow y 3).g)->H' k=some (.lst xk)->Els H' xk (srt (yTo (cs.getD y.toNat []) ps ss ow y 3).k)->H' tl=some (.tup ((yTo (cs.getD y.toNat []) ps ss ow y 3).l.map V.int))->Q (.ref t) H')->SpYearI  vs H Q
def zK:Sp:=fun vs H Q _=>SpYearI  vs H Q
theorem vR{ps ss:List (List Int)}(h:un ps ss=none)(h5:∀s∈ss,s.length=5):∀s∈ss,okS s:=fun s hs=>by
 obtain⟨j,hj,e⟩:=List.getElem_of_mem hs;have:=zF h j hj;rw[getD_get hj,e]at this;exact jo (h5 s hs) this
theorem zM{D:Ends}{tb:TS}{σ:L2.St}{H:Hp}(R:Hp->Prop)(h:R H)(g:∀H,R H->tb D σ H):tb D σ H:=g H h
variable{P:Program}{w:World}{K:Frag}{mg:Str->Option Value}{base:Heap}{f:Addr}{fd:FuncData}
theorem boot_sorted:bootBuiltins "sorted"=some (.builtin "sorted"):=by decide +kernel
theorem ndZ:(["row","promises","sort"]:List Str).Nodup:=by decide +kernel
theorem scZ1:FnScope ["book","year","owed","clips","promises","sales","gifts","lacking","left","down","sort","wool","claims","ahead","given","lacked"] ["book","year","owed"] (aK (top 49)):=fQS
theorem Ck(F:Fun K "year_given" "year_given" (top 49) f fd)(T:Mg mg)(N:Nums mg)(Tr:mg "range"=none)(Ts:mg "sorted"=none)(c1:Cal P w K mg base 2 "claims_in" ["promises","sales","sort","year"] sY)(c2:Cal P w K mg base 8 "sort_given" ["wool","claims","owed"] zu)(c3:Cal P w K mg base 1 "sacks_of" ["rows"] vM):FnOk P w K mg base CX0 9 f fd ["book","year","owed"] zK:=by
 refine F.ok scZ1 (fun vs H Q E h=>?_) (fun ah A outer s H vs Q E hr h=>?_)
 .obtain⟨bk,y,lo,ac,xc,cs,ap,xp,ps,af,xs,ss,xo,ow,rfl,_⟩:=h;rfl
 .obtain⟨bk,y,lo,ac,xc,cs,ap,xp,ps,af,xs,ss,xo,ow,rfl,eb,rc,okc,y0,y1,rp,lp,okp,rs,ls,h5,hu,eo,c9,mh,LX,q⟩:=h;obtain⟨t3,e3⟩:=N.sorts
  refine K22P.ok_b (aV ⟨cC (pv 0) (bI rfl (aq (pgn 3 scZ1.nd) (aq (bF (i:=4) scZ1.nd rfl (Or.inr rfl)) (aq (pgn 5 scZ1.nd) aW))))⟩
   (aV (jz 6 scZ1.nd (um gA))
   (aV (jz 7 scZ1.nd (um gA))
   (aV (jz 8 scZ1.nd (um gA))
   (aV (jz 9 scZ1.nd Fb)
   (aV ⟨bV zB4 rfl (cz rfl Tr (az (bT (v:=.int 3) rfl e3 ⟨_,rfl⟩) aj)) (bF (i:=10) scZ1.nd rfl (Or.inr rfl))
    (vf (aV (jz 11 scZ1.nd (Dp bz (Dq bJ (Dq bJ ⟨pv 3⟩ ⟨pv 1⟩ (fun _ _=>rfl)) ⟨pv 10⟩ (fun _ _=>rfl)) ⟨pv 9⟩))
    (aV (jz 12 scZ1.nd ⟨aJ c1 hr (az (pv 4) (az (pv 5) (az (pv 10) (az (pv 1) aj))))⟩)
    (aV ⟨iy (i:=13) ["row","promises","sort"] [none,some 4,some 10] rfl scZ1.nd rfl (Or.inl rfl) (dz (pv 2)) (fun C fp Zt s₂ H₂=>⟨pgn 0 ndZ,gw (bG nC (pX (K22P.ix_tupK (K:=K) rfl) (pX (K22P.ix_tupK (K:=K) rfl) (pv 1) (pX (K22P.ix_tupK (K:=K) rfl) (pv 0) aB)) aB) (pv 2) (bD _)),pv 0⟩) (fun C=>cI (cI trivial)) ⟨rfl,rfl,rfl,rfl⟩⟩
    (aV ⟨cC (aJ c2 hr (az (pv 11) (az (pv 12) (az (pv 13) aj)))) (bI rfl (aq (pgn 14 scZ1.nd) (aq (pgn 15 scZ1.nd) aW)))⟩
    (aV (jz 9 scZ1.nd (Dp fO ⟨pv 11⟩ ⟨aJ c3 hr (az (pv 14) aj)⟩))
    (aV ⟨kJ (i:=6) scZ1.nd rfl (Or.inl rfl) (pv 14) qm⟩
    (aV ⟨kJ (i:=7) scZ1.nd rfl (Or.inl rfl) (pv 15) qm⟩
    (fJ ⟨cW (qX zBg zBf zBe fV (pv 8) (az (pv 9) aj))⟩)))))))))⟩
   (fJ (uo (ul (j9 ⟨aO fP rfl Ts boot_sorted (az (pv 6) aj)⟩ (j9 ⟨aO fP rfl Ts boot_sorted (az (pv 7) aj)⟩ (j9 ⟨di cQ rfl T.tuple boot_tuple (az (pv 8) aj)⟩ gA)))))))))))) ?_
  refine aG ?_;refine⟨_,rfl,bk,_,rfl,SqT.of eb,rfl,_,_,rfl,_,_,rfl,_,_,rfl,rfl,?_⟩;dsimp only;refine aG (aX ?_);refine⟨zL,fun lg EG=>?_⟩;refine aM ?_;dsimp only;refine aG (aX ?_);refine⟨zL,fun lk tj=>?_⟩;refine aM ?_;dsimp only;refine aG (aX ?_);refine⟨zL,fun ll fN=>?_⟩;refine aM ?_;dsimp only;refine aG (aX ?_);refine aM ?_;dsimp only;have s1:=Same.upd (o:=.lst []) EG;have s2:=Same.upd (o:=.lst []) tj;have s3:=Same.upd (o:=.lst []) fN;have L4:H lg=none:=EG;have L5:H lk=none:=s1.free tj;have L6:H ll=none:=(s1.trans s2).free fN
  have Jw:lg≠lk:=fun z=>by rw[<-z,ao]at tj;cases tj
  have Jx:lk≠ll:=fun z=>by rw[<-z,ao]at fN;cases fN
  have Jy:lg≠ll:=fun z=>by rw[<-z,s2 _ _ ao]at fN;cases fN
  refine zM (fun H1=>Same H H1/\H1 lg=some (.lst [])/\H1 lk=some (.lst [])/\H1 ll=some (.lst [])) ⟨(s1.trans s2).trans s3,s3 _ _ (s2 _ _ ao),s3 _ _ ao,ao⟩ fun H1 ⟨k1,xt,L7,el1⟩=>?_;clear s1 s2 s3 EG tj fN;have EH:y.toNat<cs.length:=Zz
  obtain⟨tc,y9,tP⟩:=eO rc y0 (show cs[y.toNat]?=some cs[y.toNat]from zA0 EH);have L8:cs.getD y.toNat []=cs[y.toNat]:=getD_get EH;have sx:=okc _ (zAh EH);rw[L8]at q;generalize cs[y.toNat]=c at q tP sx;have cx:=vR hu h5;refine aG ?_;refine⟨3,rfl,by decide,by decide,?_⟩;refine bW (lo:=0) (fun i σ Hc=>∃nX gT gX hJ nL nS xg xk,σ=[some (.ref bk),some (.int y),some (.ref lo),some (.ref ac),some (.ref ap),some (.ref af),some (.ref lg),some (.ref lk),some (.ref ll),some (.int (yTo c ps ss ow y i).d),nX,gT,gX,hJ,nL,nS]/\Same H Hc/\Hc lg=some (.lst xg)/\Els Hc xg (yTo c ps ss ow y i).g/\Hc lk=some (.lst xk)/\Els Hc xk (yTo c ps ss ow y i).k/\Hc ll=some (.lst ((yTo c ps ss ow y i).l.map V.int))) ?_ ?_ ?_
  .exact⟨none,none,none,none,none,none,[],[],rfl,k1,xt,Els.nil,L7,Els.nil,el1⟩
  .rintro i σ Hc hi ⟨nX,gT,gX,hJ,nL,nS,xg,xk,rfl,k,eg,cE,ek,kK,el⟩;have hi:i<3:=hi;obtain⟨QD,QE,L9⟩:=zH (c:=c) (ss:=ss) (ow:=ow) (y:=y) lp i;refine aM ?_;have z0:(0:Int)+(i:Int)=i:=Zz
   rw[z0];refine xM fun De A6=>?_
   have Ma:(c.map V.int)[i]?=some (.int (c.getD i 0)):=by
    have cw:i<c.length:=Zz
    rw[zAb,zA7,zA0 cw];rfl
   refine aG (aX ?_);refine⟨_,rfl,_,rfl,ac,xc,y,.ref tc,rfl,rfl,SqT.of (k _ _ rc.e),y9,_,rfl,tc,_,i,.int (c.getD i 0),rfl,rfl,SqT.of (k _ _ tP),eF Ma,_,rfl,_,_,rfl,rfl,?_⟩;refine aM ?_;dsimp only;have dn:=xP (c:=c) (y:=y) sx.2 hu h5 okp lp mh i;have cn:=iH sx.2 i;refine aG (aX ?_);refine⟨_,rfl,_,rfl,_,rfl,_,rfl,ap,xp,ps,af,xs,ss,i,y,rfl,rp.same k,lp,okp,rs.same k,ls,cx,fun lc Mb H2 s2 QF yB EI=>?_⟩;refine aM ?_;dsimp only;have k2:=k.trans s2;refine aG ?_;refine⟨_,rfl,lo,rfl,⟨_,SqL.of (k2 _ _ eo)⟩,fc ow.length (fun j ys σ Hj=>Same H2 Hj/\(∃o1,σ=[o1,some (.ref ap),some (.int i)])/\Els Hj ys (au ps (ow.take j) i)) ⟨Same.refl _,⟨_,rfl⟩,Els.nil⟩ Zu ?_ ?_⟩
   .rintro j ys σ Hj hj hy ⟨sc,⟨o1,rfl⟩,ij⟩;have kj:=k2.trans sc;have kc:SqL K Hj lo xo:=SqL.of (kj _ _ eo);obtain⟨tr,ex,cv⟩:=c9.2 j ow[j] (zA0 hj);obtain⟨o4,o5,o6,o7⟩:=mh _ (zAh hj);have EJ:=cv;rw[cN o4]at cv;obtain⟨p,hp,ep,op⟩:=dN okp o5 o6;obtain⟨tp,cq,cy⟩:=eO rp o5 hp;rw[dM op.1]at cy
    have dv:au ps (ow.take (j+1)) i=au ps (ow.take j) i++(if fl p 1=i then[ow[j]]else[]):=by
     rw[zAj,zA0 hj];unfold au;rw[show(some ow[j]).toList=[ow[j]]from rfl,List.filter_append];congr 1;by_cases h:fl p 1=i
     .rw[zAx h,zB7 (by rw[ep];exact zAt h)];rfl
     .rw[zAv h,zB8 (by rw[ep,Zq];exact h)];rfl
    refine⟨⟨_,_,kc,ex⟩,fun x H' yv R hR=>?_⟩;obtain⟨rfl,yv⟩:=yv;have yv:=yv _ kc;rw[ex]at yv;cases yv;refine aM ?_;refine⟨_,rfl,_,rfl,tr,_,1,.int (fl ow[j] 1),rfl,rfl,SqT.of (kj _ _ cv),rfl,ap,xp,_,.ref tp,rfl,rfl,SqT.of (kj _ _ rp.e),cq,tp,_,1,.int (fl p 1),rfl,rfl,SqT.of (kj _ _ cy),rfl,_,rfl,rfl,_,rfl,?_⟩;by_cases h:fl p 1=i
    .rw[zAt (by rw[h])];refine bQ ⟨_,rfl,hR _ _ _ (by rw[zA2];show ys.length+1<=j+1;lia) ⟨sc,⟨_,rfl⟩,?_⟩⟩;rw[dv,zAx h];exact ij.app (Els.one (kj _ _ EJ))
    .rw[zB6 (fun z=>h (by injection z))];refine bA (hR _ _ _ Zz ⟨sc,⟨_,rfl⟩,?_⟩);rw[dv,zAv h,zAn];exact ij
   rintro ya σ Hj hy ⟨sc,_,nV⟩;rw[zAm]at nV;refine⟨⟨_,SqL.of (sc _ _ (k2 _ _ eo)),by rw[c9.1];exact zA3 _⟩,fun la rj=>?_⟩;have sa:=sc.updR (o:=.lst ya) rj;have zd:=ao (H:=Hj) (a:=la) (o:=.lst ya);have nV:=nV.same (Same.upd (o:=.lst ya) rj);generalize upd Hj la (.lst ya)=H3 at sa zd nV⊢;have k3:=k2.trans sa;have sH:=s2.trans sa;dsimp only;have gy:=eQ (sort:=i) (year:=y) hu h5 okp;have yn:=cU (ss:=ss) (sort:=i) (year:=y) lp;have Mc:=fj (sort:=i) mh;have QG:=oK ps ow i;refine aG ?_;refine⟨_,rfl,_,rfl,_,rfl,c.getD i 0+(yTo c ps ss ow y i).d,lc,Mb,aC ps ss i y,la,ya,au ps ow i,rfl,sa _ _ yB,EI.same sa,gy,yn,Zz,zd,nV,fun r hr=>(Mc r hr).1,Zz,fun t g kk ku ml H4 s4 et ng nk Jz mm Md sA=>⟨t,_,rfl,SqT.of et,rfl,_,_,rfl,_,_,rfl,rfl,?_⟩⟩;have k4:=k3.trans s4;have Me:=sH.trans s4;have gl:=vQ ((aC ps ss i y++au ps ow i).zip (shr (c.getD i 0+(yTo c ps ss ow y i).d) (aC ps ss i y) (au ps ow i)));have kl:=mH ((aC ps ss i y++au ps ow i).zip (shr (c.getD i 0+(yTo c ps ss ow y i).d) (aC ps ss i y) (au ps ow i)))
   have zl:((aC ps ss i y++au ps ow i).zip (shr (c.getD i 0+(yTo c ps ss ow y i).d) (aC ps ss i y) (au ps ow i))).length<=80+ow.length:=by
    rw[zAs,zA2];lia
   have e1:(yTo c ps ss ow y (i+1)).g=(yTo c ps ss ow y i).g++cP ((aC ps ss i y++au ps ow i).zip (shr (c.getD i 0+(yTo c ps ss ow y i).d) (aC ps ss i y) (au ps ow i))):=rfl;have e2:(yTo c ps ss ow y (i+1)).k=(yTo c ps ss ow y i).k++bB ((aC ps ss i y++au ps ow i).zip (shr (c.getD i 0+(yTo c ps ss ow y i).d) (aC ps ss i y) (au ps ow i))):=rfl;have e3:(yTo c ps ss ow y (i+1)).l=(yTo c ps ss ow y i).l++[c.getD i 0+(yTo c ps ss ow y i).d-aN (cP ((aC ps ss i y++au ps ow i).zip (shr (c.getD i 0+(yTo c ps ss ow y i).d) (aC ps ss i y) (au ps ow i))))]:=rfl;have e4:(yTo c ps ss ow y (i+1)).d=c.getD i 0+(yTo c ps ss ow y i).d-aN (cP ((aC ps ss i y++au ps ow i).zip (shr (c.getD i 0+(yTo c ps ss ow y i).d) (aC ps ss i y) (au ps ow i)))):=rfl
   have g4:∀r∈cP ((aC ps ss i y++au ps ow i).zip (shr (c.getD i 0+(yTo c ps ss ow y i).d) (aC ps ss i y) (au ps ow i))),r.length=4:=fun r hr=>by
    obtain⟨p,_,rfl⟩:=zA5.mp hr;rfl
   rw[e1,e2,e3,e4]at A6;generalize cP ((aC ps ss i y++au ps ow i).zip (shr (c.getD i 0+(yTo c ps ss ow y i).d) (aC ps ss i y) (au ps ow i)))=GG at mm g4 gl A6⊢;generalize bB ((aC ps ss i y++au ps ow i).zip (shr (c.getD i 0+(yTo c ps ss ow y i).d) (aC ps ss i y) (au ps ow i)))=KK at sA kl A6⊢;dsimp only;refine aG (aX ?_);refine⟨_,rfl,_,rfl,g,ku,GG,rfl,Jz,mm,g4,Zz,fun H5 s5=>⟨_,_,rfl,rfl,?_⟩⟩;refine aM ?_;dsimp only;have k5:=k4.trans s5;have ze:=Me.trans s5;have QH:g≠lg:=(aH (sH _ _ eg) ng).symm;have Mf:kk≠lg:=(aH (sH _ _ eg) nk).symm;have JA:=ze _ _ eg;have Mi:=ze _ _ ek;have el5:=ze _ _ el;refine aG ?_;refine⟨_,rfl,_,rfl,lg,g,xg,ku,rfl,rfl,JA,s5 _ _ Jz,by rw[cE.1,mm.1,sizeLine_eq];have:i*(80+ow.length)<=3*(80+ow.length):=Nat.mul_le_mul_right _ Zz;lia,?_⟩;dsimp only
   have EK:∀b z,H5 b=some (.tup z)->upd H5 lg (.lst (xg++ku)) b=some (.tup z):=fun b z e=>by
    rw[aF fun w=>by rw[w,JA]at e;cases e];exact e
   have k6:Same H (upd H5 lg (.lst (xg++ku))):=fun b o e=>by
    rw[aF (aH e L4)];exact k5 _ _ e
   have JB:=ao (H:=H5) (a:=lg) (o:=.lst (xg++ku));have zh:=((cE.same ze).app (mm.same s5)).keep EK;have EL:upd H5 lg (.lst (xg++ku)) lk=some (.lst xk):=by rw[aF Jw.symm];exact Mi
   have zi:upd H5 lg (.lst (xg++ku)) kk=some (.lst ml):=by rw[aF Mf];exact s5 _ _ Md
   have JC:upd H5 lg (.lst (xg++ku)) ll=some (.lst ((yTo c ps ss ow y i).l.map V.int)):=by rw[aF Jy.symm];exact el5
   have zo:=(kK.same ze).keep EK;have oi:=(sA.same s5).keep EK;generalize upd H5 lg (.lst (xg++ku))=H6 at k6 JB zh EL zi JC zo oi⊢;refine aG ?_;refine⟨_,rfl,_,rfl,lk,kk,xk,ml,rfl,rfl,EL,zi,by rw[kK.1,sA.1,sizeLine_eq];have:i*(80+ow.length)<=3*(80+ow.length):=Nat.mul_le_mul_right _ Zz;lia,?_⟩;dsimp only
   have JD:∀b z,H6 b=some (.tup z)->upd H6 lk (.lst (xk++ml)) b=some (.tup z):=fun b z e=>by
    rw[aF fun w=>by rw[w,EL]at e;cases e];exact e
   have k7:Same H (upd H6 lk (.lst (xk++ml))):=fun b o e=>by
    rw[aF (aH e L5)];exact k6 _ _ e
   have JE:upd H6 lk (.lst (xk++ml)) lg=some (.lst (xg++ku)):=by rw[aF Jw];exact JB
   have zt:=zh.keep JD;have JF:=ao (H:=H6) (a:=lk) (o:=.lst (xk++ml));have zw:=(zo.app oi).keep JD;have A7:upd H6 lk (.lst (xk++ml)) ll=some (.lst ((yTo c ps ss ow y i).l.map V.int)):=by rw[aF Jx.symm];exact JC
   generalize upd H6 lk (.lst (xk++ml))=H7 at k7 JE zt JF zw A7⊢;refine⟨_,rfl,.inl ⟨rfl,_,SqL.of A7⟩,_,rfl,ll,_,_,rfl,rfl,A7,by rw[zA1,L9,sizeLine_eq];lia,?_⟩
   have JG:∀{o:HO} b z,H7 b=some (.tup z)->upd H7 ll o b=some (.tup z):=fun b z e=>by
    rw[aF fun w=>by rw[w,A7]at e;cases e];exact e
   refine A6 _ _ ⟨_,_,_,_,_,_,xg++ku,xk++ml,rfl,fun b o e=>?_,?_,zt.keep JG,?_,zw.keep JG,?_⟩
   .rw[aF (aH e L6)];exact k7 _ _ e
   .rw[aF Jy];exact JE
   .rw[aF Jx];exact JF
   .rw[ao,zA4];rfl
  .rintro σ Hc ⟨nX,gT,gX,hJ,nL,nS,xg,xk,rfl,k,eg,cE,ek,kK,el⟩;obtain⟨Mj,Ml⟩:=y_row (c:=c) (ps:=ps) (ss:=ss) (ow:=ow) (y:=y) 3;have q:∀t g k tl xg xk H',Same H H'->H' t=some (.tup [.ref g,.ref k,.ref tl])->H g=none->H k=none->(g≠sysModules/\k≠sysModules)->H' g=some (.lst xg)->Els H' xg (srt (yTo c ps ss ow y 3).g)->H' k=some (.lst xk)->Els H' xk (srt (yTo c ps ss ow y 3).k)->H' tl=some (.tup ((yTo c ps ss ow y 3).l.map V.int))->Q (.ref t) H':=q;have cE:Els Hc xg (yTo c ps ss ow y 3).g:=cE;have kK:Els Hc xk (yTo c ps ss ow y 3).k:=kK;have el:Hc ll=some (.lst ((yTo c ps ss ow y 3).l.map V.int)):=el;obtain⟨ag,Mm,JH,JI⟩:=qG cE;obtain⟨ak,Mn,tf,JJ⟩:=qG kK;subst Mm Mn;dsimp only
   have nn:∀{rs:List (List Int)} {ads:List Addr},rs=ads.map (jJ Hc)->(∀r∈rs,r.length=4)->∀a∈ads,jJ Hc a≠[]:=fun{rs ads} h h4 a ha z=>by
    have:=h4 (jJ Hc a) (by rw[h];exact List.mem_map_of_mem ha);rw[z]at this;cases this
   refine⟨_,rfl,lg,ag,jJ Hc,rfl,SqL.of eg,fun a ha=>⟨SqT.of (JI a ha),nn JH Mj a ha⟩,fun g l1 hg zI JK Mo=>?_⟩;have sg:=Same.upd (o:=.lst (l1.map V.ref)) hg;refine⟨_,rfl,lk,ak,jJ Hc,rfl,SqL.of (sg _ _ ek),fun a ha=>⟨SqT.of (sg _ _ (JJ a ha)),nn tf Ml a ha⟩,fun kk l2 hk Mp JL Mq=>?_⟩;have sk:=sg.updR (o:=.lst (l2.map V.ref)) hk;refine⟨_,rfl,ll,_,rfl,.inl ⟨SqL.of (sk _ _ el),fun tl JM=>?_⟩⟩;have sl:=sk.updR (o:=.tup ((yTo c ps ss ow y 3).l.map V.int)) JM;refine⟨zL,fun t ht=>?_⟩;have st:=sl.updR (o:=.tup [.ref g,.ref kk,.ref tl]) ht;have u1:=Same.upd (o:=.lst (l2.map V.ref)) hk;have u2:=Same.upd (o:=.tup ((yTo c ps ss ow y 3).l.map V.int)) JM;have u3:=Same.upd (o:=.tup [.ref g,.ref kk,.ref tl]) ht;have Mr:l1.map (jJ Hc)=srt (yTo c ps ss ow y 3).g:=zG (by rw[JH];exact JK.map _) (List.pairwise_map.mpr Mo);have Ms:l2.map (jJ Hc)=srt (yTo c ps ss ow y 3).k:=zG (by rw[tf];exact JL.map _) (List.pairwise_map.mpr Mq);refine q t g kk tl _ _ _ (k.trans st) ao (k.free hg) (k.free (sg.free hk)) ⟨zI,Mp⟩ (u3 _ _ (u2 _ _ (u1 _ _ ao))) ?_ (u3 _ _ (u2 _ _ ao)) ?_ (u3 _ _ ao)
   .rw[<-Mr];exact zJ fun a ha=>st _ _ (JI a (JK.mem_iff.mp ha))
   .rw[<-Ms];exact zJ fun a ha=>st _ _ (JJ a (JL.mem_iff.mp ha))
def cnt(ps ow:List (List Int)):Nat->Nat
 |0=>0
 |n+1=>cnt ps ow n+(au ps ow n).length
theorem cnt_nil(ps:List (List Int)):∀n,cnt ps [] n=0
 |0=>rfl
 |n+1=>by
  unfold cnt;rw[cnt_nil ps n];rfl
theorem cnt_cons(ps ow:List (List Int))(r:List Int):∀n,cnt ps (r::ow) n=cnt ps ow n+(if 0<=fl (ps.getD (fl r 1).toNat []) 1/\fl (ps.getD (fl r 1).toNat []) 1<n then 1 else 0)
 |0=>by
  rw[zAv Zz];rfl
 |n+1=>by
  show cnt ps (r::ow) n+(au ps (r::ow) n).length=cnt ps ow n+(au ps ow n).length+_;rw[cnt_cons ps ow r n];unfold au;by_cases h:fl (ps.getD (fl r 1).toNat []) 1=n
  .rw[zB7 (p:=fun(r:List Int)=>decide (fl (ps.getD (fl r 1).toNat []) 1=(n:Int))) (zAt h),zAe,zAv Zz,zAx Zz];lia
  .rw[zB8 (p:=fun(r:List Int)=>decide (fl (ps.getD (fl r 1).toNat []) 1=(n:Int))) (by rw[Zq];exact h)];by_cases h2:0<=fl (ps.getD (fl r 1).toNat []) 1/\fl (ps.getD (fl r 1).toNat []) 1<n
   .rw[zAx h2,zAx Zz];lia
   .rw[zAv h2,zAv Zz];lia
theorem zN(ps:List (List Int))(n:Nat):∀ow:List (List Int),cnt ps ow n<=ow.length
 |[]=>by rw[cnt_nil];exact zA3 _
 |r::ow=>by
  rw[cnt_cons,zAe];have:=zN ps n ow;split<;>lia
theorem Du{c:List Int}{ps ss ow:List (List Int)}{y:Int}(hl:ps.length<=10):∀n,(yTo c ps ss ow y n).k.length<=80*n+cnt ps ow n
 |0=>zAp _
 |n+1=>by
  have a:=Du (c:=c) (ss:=ss) (ow:=ow) (y:=y) hl n;have h1:=cU (ss:=ss) (sort:=n) (year:=y) hl;have h3:=mH ((aC ps ss n y++au ps ow n).zip (shr (c.getD n 0+(yTo c ps ss ow y n).d) (aC ps ss n y) (au ps ow n)));show((yTo c ps ss ow y n).k++bB _).length<=80*(n+1)+(cnt ps ow n+(au ps ow n).length);rw[zA2];rw[zAs,zA2]at h3;lia
theorem Hs{c:List Int}{ps ss ow:List (List Int)}{y:Int}(hu:un ps ss=none)(h5:∀s∈ss,s.length=5)(okp:∀r∈ps,okP r)(ho:∀r∈ow,okO ps r):∀n,∀r∈(yTo c ps ss ow y n).k,okO ps r
 |0,r,hr=>by cases hr
 |n+1,r,hr=>by
  rcases zA6.mp (show r∈(yTo c ps ss ow y n).k++bB _ from hr)with z|z
  .exact Hs (c:=c) (y:=y) hu h5 okp ho n r z
  .obtain⟨p,hp,rfl⟩:=zA5.mp z;obtain⟨h1,h2⟩:=zAq.mp hp;have h2:=zB2 h2;have hm:p.1∈aC ps ss n y++au ps ow n:=(List.of_mem_zip (show(p.1,p.2)∈_ from h1)).1
   have hn:0<=fl p.1 1/\fl p.1 1<ps.length:=by
    rcases zA6.mp hm with w|w
    .obtain⟨_,_,_,_,a,b⟩:=Dt (sort:=n) (year:=y) hu h5 okp ps.length (zA3 _) p.1 w;exact⟨a,b⟩
    .have:=fj ho p.1 w;exact⟨this.2.1,this.2.2.1⟩
   refine⟨rfl,hn.1,hn.2,?_⟩;show 1<=fl p.1 3-p.2;lia
def cH(cs ps ss:List (List Int)):Nat->List (List Int)
 |0=>[]
 |n+1=>srt (yTo (cs.getD n []) ps ss (cH cs ps ss n) n 3).k
theorem gh{cs ps ss:List (List Int)}(hl:ps.length<=10)(hu:un ps ss=none)(h5:∀s∈ss,s.length=5)(okp:∀r∈ps,okP r):∀n,(∀r∈cH cs ps ss n,okO ps r)/\(cH cs ps ss n).length<=240*n
 |0=>⟨fun r hr=>(by cases hr),zA3 _⟩
 |n+1=>by
  obtain⟨a,b⟩:=gh (cs:=cs) hl hu h5 okp n;have pm:=List.mergeSort_perm (yTo (cs.getD n []) ps ss (cH cs ps ss n) n 3).k rle;refine⟨fun r hr=>Hs (c:=cs.getD n []) (y:=n) hu h5 okp a 3 r (pm.mem_iff.mp hr),?_⟩;show(srt (yTo (cs.getD n []) ps ss (cH cs ps ss n) n 3).k).length<=_;unfold srt;rw[pm.length_eq];have:=Du (c:=cs.getD n []) (ss:=ss) (ow:=cH cs ps ss n) (y:=n) hl 3;have:=zN ps 3 (cH cs ps ss n);lia
def ik(ps:List (List Int))(r:List Int):Int:=fl (ps.getD (fl r 1).toNat []) 1
def keyOf(r:List Int):List Int:=[fl r 0,fl r 1,fl r 2]
theorem dZ(rs:List (List Int)):(srt rs).Perm rs:=List.mergeSort_perm rs rle
theorem uJ{ps ss:List (List Int)}{sort year:Int}:∀{k:Nat} {r:List Int},r∈fB ps ss sort year k->∃(j h:Nat) (x:Int),j<k/\h<8/\fl (ps.getD j []) 1=sort/\r=[year,j,h,x]
 |0,r,hr=>by cases hr
 |k+1,r,hr=>by
  rcases zA6.mp (show r∈fB ps ss sort year k++fZ ps ss sort year k from hr)with z|z
  .obtain⟨j,h,x,a,b⟩:=uJ z;exact⟨j,h,x,Zz,b⟩
  .unfold fZ at z;split at z
   .rename_i hs
    obtain⟨q,hq,rfl⟩:=zA5.mp z;unfold c7 at hq;obtain⟨h,hh,rfl⟩:=zA5.mp hq;have:=List.mem_range.mp (zAq.mp hh).1;exact⟨k,h,_,Zz,this,hs,rfl⟩
   .cases z
theorem Dv{ps ss:List (List Int)}{sort year:Int}:∀k,((fB ps ss sort year k).map keyOf).Nodup
 |0=>List.nodup_nil
 |k+1=>by
  show((fB ps ss sort year k++fZ ps ss sort year k).map keyOf).Nodup;rw[zA4,List.nodup_append];refine⟨Dv k,?_,fun a ha b hb e=>?_⟩
  .unfold fZ;split
   .unfold c7;rw[zAr,zAr];refine List.Pairwise.map _ (R:=fun a b=>a≠b) (fun a b h e=>h ?_) (List.nodup_range.filter _);have e:[year,(k:Int),(a:Int)]=[year,(k:Int),(b:Int)]:=e;injection e with _ e;injection e with _ e;injection e with e;lia
   .exact List.nodup_nil
  .subst e;obtain⟨r,hr,e1⟩:=zA5.mp ha;obtain⟨j,h,x,a1,a2,a3,rfl⟩:=uJ hr;obtain⟨r',gu,e2⟩:=zA5.mp hb;unfold fZ at gu;split at gu
   .obtain⟨q,hq,rfl⟩:=zA5.mp gu;rw[<-e1]at e2;have e2:[year,(k:Int),_]=[year,(j:Int),(h:Int)]:=e2;injection e2 with _ e2;injection e2 with e2;lia
   .cases gu
theorem gD{ps ss:List (List Int)}{sort year:Int}{r:List Int}(hr:r∈aC ps ss sort year):fl r 0=year/\ik ps r=sort/\0<=fl r 1/\fl r 1<ps.length/\0<=fl r 2/\fl r 2<8:=by
 obtain⟨j,h,x,a1,a2,a3,rfl⟩:=uJ hr;refine⟨rfl,?_,?_,?_,?_,?_⟩
 .show fl (ps.getD ((j:Int)).toNat []) 1=sort;rw[zAi];exact a3
 .show(0:Int)<=j;lia
 .show(j:Int)<ps.length;lia
 .show(0:Int)<=h;lia
 .show(h:Int)<8;lia
theorem xQ{ps:List (List Int)}{Z:List (List Int×Int)}{n:Int}(h:∀p∈Z,ik ps p.1=n):∀r∈bB Z,ik ps r=n:=fun r hr=>by
 obtain⟨p,hp,rfl⟩:=zA5.mp hr;exact h p (zAq.mp hp).1
theorem Dw{w:Int}{cl:List (List Int)}(hw:0<=w)(hc:∀r∈cl,r.length=4/\1<=fl r 3/\fl r 3<=99)(hz:cl.length<=80):∀p∈cl.zip (bj w cl),p.2<=fl p.1 3:=fun p hp=>by
 obtain⟨i,hi⟩:=List.mem_iff_getElem?.mp hp;obtain⟨h1,h2⟩:=List.getElem?_zip_eq_some.mp hi;have e3:(wts cl)[i]?=some (fl p.1 3):=by unfold wts;rw[zAb,h1];rfl
 unfold bj at h2;split at h2
 .rw[e3]at h2;rw[<-zAl h2];exact Int.le_refl _
 .rename_i hs
  have ok:K22P.OkW (wts cl):=by
   refine⟨?_,?_,fun x hx=>?_⟩
   .have:=(zAa.mp e3).1;lia
   .unfold wts;rw[zA1];exact hz
   .obtain⟨r,hr,rfl⟩:=zA5.mp hx;exact(hc r hr).2
  exact(K22P.res_get ok hw Zz h2 e3).2
def dC(cs ps ss:List (List Int))(j:Nat):Yr:=yTo (cs.getD j []) ps ss (cH cs ps ss j) j 3
def YAt(H0:Hp)(l:Addr)(cs ps ss:List (List Int))(H:Hp)(a:Addr)(j:Nat):Prop:=∃g k tl xg xk,H a=some (.tup [.ref g,.ref k,.ref tl])/\H0 g=none/\H0 k=none/\g≠l/\k≠l/\H g=some (.lst xg)/\Els H xg (srt (dC cs ps ss j).g)/\H k=some (.lst xk)/\Els H xk (cH cs ps ss (j+1))/\H tl=some (.tup ((dC cs ps ss j).l.map V.int))/\(g≠sysModules/\k≠sysModules)
theorem YAt.keep{H0 H H':Hp}{l a:Addr}{cs ps ss:List (List Int)}{j:Nat}(h:YAt H0 l cs ps ss H a j)(k:∀b o,b≠l->H b=some o->H' b=some o)(hl:∃xs,H l=some (.lst xs)):YAt H0 l cs ps ss H' a j:=by
 obtain⟨xs,hl⟩:=hl;obtain⟨g,kk,tl,xg,xk,e1,n1,n2,d1,d2,e2,e3,e4,e5,e6,e7⟩:=h
 have nt:∀b z,H b=some (.tup z)->b≠l:=fun b z e w=>by rw[w,hl]at e;cases e
 exact⟨g,kk,tl,xg,xk,k _ _ (nt _ _ e1) e1,n1,n2,d1,d2,k _ _ d1 e2,e3.keep fun b z e=>k _ _ (nt _ _ e) e,k _ _ d2 e4,e5.keep fun b z e=>k _ _ (nt _ _ e) e,k _ _ (nt _ _ e6) e6,e7⟩
inductive SpYearsI(vs:List V)(H:Hp)(Q:VK):Prop
 |mk:∀bk y ac xc cs ap xp ps af xs ss,(vs=[.ref bk,.int y])->(H bk=some (.tup [.ref ac,.ref ap,.ref af]))->(RowsAt H ac xc cs)->((∀r∈cs,r.length=3/\∀x∈r,0<=x))->(cs.length<=20)->(0<=y)->(y<cs.length)->(RowsAt H ap xp ps)->(ps.length<=10)->((∀r∈ps,okP r))->(RowsAt H af xs ss)->(ss.length<=12)->((∀s∈ss,s.length=5))->(un ps ss=none)->(∀l (ts:List Addr) H',Same H H'->H l=none->H' l=some (.lst (ts.map V.ref))->(ts.length:Int)=y+1->(∀j a,ts[j]?=some a->YAt H l cs ps ss H' a j)->Q (.ref l) H')->SpYearsI  vs H Q
def kh:Sp:=fun vs H Q _=>SpYearsI  vs H Q
theorem scYB:FnScope ["book","year","years","owed","at","gifts","left"] ["book","year"] (aK (top 50)):=fQS
theorem zP(F:Fun K "years_given" "years_given" (top 50) f fd)(Tr:mg "range"=none)(c1:Cal P w K mg base 9 "year_given" ["book","year","owed"] zK):FnOk P w K mg base CX0 10 f fd ["book","year"] kh:=by
 refine F.ok scYB (fun vs H Q E h=>?_) (fun ah A outer s H vs Q E hr h=>?_)
 .obtain⟨bk,y,ac,xc,cs,ap,xp,ps,af,xs,ss,rfl,_⟩:=h;rfl
 .obtain⟨bk,y,ac,xc,cs,ap,xp,ps,af,xs,ss,rfl,eb,rc,okc,lc,y0,y1,rp,lp,okp,rs,ls,h5,hu,q⟩:=h
  refine⟨_,aA (pss 2 scYB.nd (cT aj))
   (aA (pss 3 scYB.nd (cT aj))
   (aA (bV zB4 rfl (cz rfl Tr (az (aR bz (pv 1) aB) aj)) (pgn 4 scYB.nd)
    (aA (cC (aJ c1 hr (az (pv 0) (az (pv 4) (az (pv 3) aj)))) (bI rfl (aq (pgn 5 scYB.nd) (aq (pgn 3 scYB.nd) (aq (pgn 6 scYB.nd) aW)))))
    (aD (cW (qX zBg zBf zBe fV (pv 2) (az (bO (az (pv 5) (az (pv 3) (az (pv 6) aj)))) aj))))))
   (aD (aP (pv 2))))),?_⟩
  refine aG (aX ?_);refine⟨zL,fun l hl=>?_⟩;refine aM ?_;dsimp only;refine aG (aX ?_);refine⟨zL,fun EM de=>?_⟩;refine aM ?_;dsimp only;have s1:=Same.upd (o:=.lst []) hl;have s2:=Same.upd (o:=.lst []) de
  have Mt:EM≠l:=fun z=>by rw[z,ao]at de;cases de
  refine zM (fun H1=>Same H H1/\H1 l=some (.lst [])/\H1 EM=some (.lst [])) ⟨s1.trans s2,s2 _ _ ao,ao⟩ fun H1 ⟨k1,el1,Mu⟩=>?_;refine aG ?_;refine⟨_,rfl,_,_,rfl,rfl,y+1,rfl,Zz,Zz,?_⟩;refine bW (lo:=0) (fun i σ Hc=>∃x4 x5 x6 lo xo,∃ts:List Addr,σ=[some (.ref bk),some (.int y),some (.ref l),some (.ref lo),x4,x5,x6]/\Same H Hc/\Hc l=some (.lst (ts.map V.ref))/\ts.length=i/\(∀j a,ts[j]?=some a->YAt H l cs ps ss Hc a j)/\lo≠l/\Hc lo=some (.lst xo)/\Els Hc xo (cH cs ps ss i)) ?_ ?_ ?_
  .exact⟨none,none,none,EM,[],[],rfl,k1,el1,rfl,fun j a e=>(by simp at e),Mt,Mu,Els.nil⟩
  .rintro i σ Hc hi ⟨x4,x5,x6,lo,xo,ts,rfl,k,el,lt,hy,dl,eo,c9⟩;obtain⟨mh,Mv⟩:=gh (cs:=cs) lp hu h5 okp i;refine aM ?_;have z0:(0:Int)+(i:Int)=i:=Zz
   rw[z0];refine aG ?_;refine⟨_,rfl,_,rfl,_,rfl,bk,i,lo,ac,xc,cs,ap,xp,ps,af,xs,ss,xo,cH cs ps ss i,rfl,k _ _ eb,rc.same k,okc,Zz,Zz,rp.same k,lp,okp,rs.same k,ls,h5,hu,eo,c9,mh,Zz,fun t g kk tl xg xk H2 s2 et ng nk zI eg cE ek kK hU=>?_⟩;rw[zAi]at cE kK hU;refine⟨t,_,rfl,SqT.of et,rfl,_,_,rfl,_,_,rfl,_,_,rfl,rfl,?_⟩;dsimp only;have k2:=k.trans s2;have el2:=s2 _ _ el;have dg:g≠l:=(aH el ng).symm;have dk:kk≠l:=(aH el nk).symm;refine⟨_,rfl,.inl ⟨rfl,_,SqL.of el2⟩,_,rfl,_,rfl,_,rfl,zL,fun tt A8=>⟨l,_,_,rfl,rfl,Same.upd A8 _ _ el2,by rw[zA1,lt,sizeLine_eq];lia,?_⟩⟩;have s3:=Same.upd (o:=.tup [.ref g,.ref kk,.ref tl]) A8
   have nt:tt≠l:=fun z=>by rw[z,el2]at A8;cases A8
   have kp:∀{o:HO} b u,b≠l->H2 b=some u->upd (upd H2 tt (.tup [.ref g,.ref kk,.ref tl])) l o b=some u:=fun b u n e=>by
    rw[aF n];exact s3 _ _ e
   have ke:∀{o:HO} b z,H2 b=some (.tup z)->upd (upd H2 tt (.tup [.ref g,.ref kk,.ref tl])) l o b=some (.tup z):=fun b z e=>kp b _ (fun w=>by rw[w,el2]at e;cases e) e;refine⟨_,_,_,kk,xk,ts++[tt],rfl,fun b o e=>?_,?_,by rw[zA2,lt];rfl,fun j a e=>?_,dk,kp _ _ dk ek,kK.keep ke⟩
   .exact kp _ _ (aH e hl) (k2 _ _ e)
   .rw[ao,zA4];rfl
   .by_cases hj:j<ts.length
    .rw[zBb hj]at e;exact(hy j a e).keep (fun b o n z=>kp _ _ n (s2 _ _ z)) ⟨_,el⟩
    .have wx:j=i:=by
      have:=(zAa.mp e).1;rw[zA2]at this;simp at this;lia
     subst wx;rw[zBd Zz,lt,Nat.sub_self]at e;cases e;exact⟨g,kk,tl,xg,xk,by rw[aF nt];exact ao,k.free ng,k.free nk,dg,dk,kp _ _ dg eg,cE.keep ke,kp _ _ dk ek,kK.keep ke,ke _ _ hU,zI⟩
  .rintro σ Hc ⟨x4,x5,x6,lo,xo,ts,rfl,k,el,lt,hy,dl,eo,c9⟩;exact⟨_,rfl,q l ts Hc k hl el (by rw[lt];lia) hy⟩
abbrev ky(n y:Int):List Key:=[.inl n,.inl y]
def KsOk(kv:List (Key×V)):Prop:=∀p∈kv,∃h:Int,p.1=.inl h/\0<=h/\h<8
theorem KsOk.put{kv:List (Key×V)}(g:KsOk kv){h:Int}(h0:0<=h)(h8:h<8)(v:V):KsOk (putK kv (.inl h) v):=by
 intro p hp;unfold putK at hp;split at hp
 .obtain⟨q,hq,rfl⟩:=zA5.mp hp;split
  .exact g q hq
  .exact g q hq
 .rcases zA6.mp hp with z|z
  .exact g p z
  .rw[List.mem_singleton.mp z];exact⟨h,rfl,h0,h8⟩
structure Dts(fo:Addr)(H0 H:Hp)(dm:Int->Int->Prop)(f:Int->Int->Int->Int)(b:Int->Int->Nat)(kvs:List (List Key×V)):Prop where
 sm:Same H0 H
 nf:H0 fo=none
 e:H fo=some (.dT kvs)
 g:∀n y,dm n y->∃d kv,bZ kvs (ky n y)=some (.ref d)/\H d=some (.dK kv)/\(kv.length<=b n y/\KsOk kv)/\∀h,0<=h->h<8->(bZ kv (.inl h)).getD (.int 0)=.int (f n y h)
 no:∀n y,¬dm n y->bZ kvs (ky n y)=none
 i:∀n y n' y' d,bZ kvs (ky n y)=some (.ref d)->bZ kvs (ky n' y')=some (.ref d)->n=n'/\y=y'
 fr:∀n y d,bZ kvs (ky n y)=some (.ref d)->H0 d=none/\d≠fo/\∃o,H d=some o
theorem Dts.new{fo p:Addr}{o:HO}{H0 H:Hp}{dm:Int->Int->Prop}{f:Int->Int->Int->Int}{b:Int->Int->Nat}{kvs:List (List Key×V)}(g:Dts fo H0 H dm f b kvs)(hp:H p=none):Dts fo H0 (upd H p o) dm f b kvs:=
 ⟨g.sm.updR hp,g.nf,Same.upd hp _ _ g.e,fun n y h=>by
  obtain⟨d,kv,e1,e2,r⟩:=g.g n y h
  exact⟨d,kv,e1,Same.upd hp _ _ e2,r⟩,g.no,g.i,fun n y d h=>by
  obtain⟨e1,e2,o',e3⟩:=g.fr n y d h
  exact⟨e1,e2,o',Same.upd hp _ _ e3⟩⟩
theorem Dts.same{fo:Addr}{H0 H H':Hp}{dm:Int->Int->Prop}{f:Int->Int->Int->Int}{b:Int->Int->Nat}{kvs:List (List Key×V)}(g:Dts fo H0 H dm f b kvs)(s:Same H H'):Dts fo H0 H' dm f b kvs:=
 ⟨g.sm.trans s,g.nf,s _ _ g.e,fun n y h=>by
  obtain⟨d,kv,e1,e2,r⟩:=g.g n y h
  exact⟨d,kv,e1,s _ _ e2,r⟩,g.no,g.i,fun n y d h=>by
  obtain⟨e1,e2,o',e3⟩:=g.fr n y d h
  exact⟨e1,e2,o',s _ _ e3⟩⟩
theorem uK{n y n' y':Int}(h:ky n y=ky n' y'):n=n'/\y=y':=by
 injection h with h1 h2;injection h2 with h2 _;injection h1 with h1;injection h2 with h2;exact⟨h1,h2⟩
theorem Dts.wr{fo d:Addr}{H0 H:Hp}{dm:Int->Int->Prop}{f f':Int->Int->Int->Int}{b b':Int->Int->Nat}{kvs:List (List Key×V)}{oj:List (Key×V)}{N Y:Int}(g:Dts fo H0 H dm f b kvs)(hv:bZ kvs (ky N Y)=some (.ref d))
  (h1:(oj.length<=b' N Y/\KsOk oj)/\∀h,0<=h->h<8->(bZ oj (.inl h)).getD (.int 0)=.int (f' N Y h)) (h2:∀n y,dm n y->¬(n=N/\y=Y)->b n y<=b' n y/\∀h,0<=h->h<8->f' n y h=f n y h):Dts fo H0 (upd H d (.dK oj)) dm f' b' kvs:=by
 obtain⟨w1,w2,_⟩:=g.fr _ _ _ hv;refine⟨fun c o e=>by rw[aF (aH e w1)];exact g.sm _ _ e,g.nf,by rw[aF w2.symm];exact g.e,fun n y hd=>?_,g.no,g.i,fun n y d' hd=>?_⟩
 .by_cases hk:n=N/\y=Y
  .obtain⟨rfl,rfl⟩:=hk;exact⟨d,oj,hv,ao,h1⟩
  .obtain⟨d',kv,q1,q2,q3,q4⟩:=g.g n y hd;have nd:d'≠d:=fun z=>hk (g.i _ _ _ _ _ (z▸q1) hv);obtain⟨k1,k2⟩:=h2 n y hd hk;exact⟨d',kv,q1,by rw[aF nd];exact q2,⟨Nat.le_trans q3.1 k1,q3.2⟩,fun h z1 z2=>by rw[k2 h z1 z2];exact q4 h z1 z2⟩
 .obtain⟨w3,w4,o,w5⟩:=g.fr n y d' hd;by_cases JN:d'=d
  .exact⟨w3,w4,.dK oj,by rw[JN];exact ao⟩
  .exact⟨w3,w4,o,by rw[aF JN];exact w5⟩
theorem Dts.cast{fo:Addr}{H0 H:Hp}{dm:Int->Int->Prop}{f f':Int->Int->Int->Int}{b b':Int->Int->Nat}{kvs:List (List Key×V)}(g:Dts fo H0 H dm f b kvs)(h2:∀n y,dm n y->b n y<=b' n y/\∀h,0<=h->h<8->f' n y h=f n y h):Dts fo H0 H dm f' b' kvs:=
 ⟨g.sm,g.nf,g.e,fun n y hd=>by
  obtain⟨d',kv,q1,q2,q3,q4⟩:=g.g n y hd;obtain⟨k1,k2⟩:=h2 n y hd
  exact⟨d',kv,q1,q2,⟨Nat.le_trans q3.1 k1,q3.2⟩,fun h z1 z2=>by rw[k2 h z1 z2];exact q4 h z1 z2⟩,g.no,g.i,g.fr⟩
def dom(ps:List (List Int))(n y:Int):Prop:=0<=n/\n<ps.length/\fl (ps.getD n.toNat []) 2<=y/\y<=fl (ps.getD n.toNat []) 3
def f0(ps:List (List Int))(n y h:Int):Int:=if h=fl (ps.getD n.toNat []) 0 then fl (ps.getD n.toNat []) 4 else 0
inductive SpBegunI(vs:List V)(H:Hp)(Q:VK):Prop
 |mk:∀ap xp ps,(vs=[.ref ap])->(RowsAt H ap xp ps)->(ps.length<=10)->((∀r∈ps,okP r))->(∀fo H' kvs,Dts fo H H' (dom ps) (f0 ps) (fun _ _=>1) kvs->Q (.ref fo) H')->SpBegunI  vs H Q
def vU:Sp:=fun vs H Q _=>SpBegunI  vs H Q
theorem sc34s:FnScope ["_law_promises_here","_law_found","_law_number","_law_holder","_law_sort","_law_first","_law_last","_law_sacks","_law_price","_law_year"] ["_law_promises_here"] (aK (top 64)):=fQS
theorem zQ(F:Fun K "_law_begun" "_law_begun" (top 64) f fd)(Te:mg "enumerate"=none)(Tr:mg "range"=none):FnOk P w K mg base CX0 1 f fd ["_law_promises_here"] vU:=by
 refine F.ok sc34s (fun vs H Q E h=>?_) (fun ah A outer s H vs Q E hr h=>?_)
 .obtain⟨ap,xp,ps,rfl,_⟩:=h;rfl
 .obtain⟨ap,xp,ps,rfl,rp,lp,okp,q⟩:=h
  refine⟨_,aA (pss 1 sc34s.nd lE)
   (aA (bV zB4 rfl (ZT.pi_enum true rfl Te (az (pv 0) aj)) (bI rfl (aq (pgn 2 sc34s.nd) (aq (bI rfl (aq (pgn 3 sc34s.nd) (aq (pgn 4 sc34s.nd) (aq (pgn 5 sc34s.nd)
     (aq (pgn 6 sc34s.nd) (aq (pgn 7 sc34s.nd) (aq (pgn 8 sc34s.nd) aW))))))) aW)))
    (aD (bV zB4 rfl (ir rfl Tr (az (pv 5) (az (aR bz (pv 6) aB) aj))) (pgn 9 sc34s.nd)
     (aD (iz (fH hr) (pv 1) (bO (az (pv 2) (az (pv 9) aj))) (Bm (yE (pv 3) (pv 7) Bl) rfl rfl Zy Zx) rfl)))))
   (aD (aP (pv 1)))),?_⟩
  refine aG (aX ?_);refine fun fo JO=>?_;refine aM ?_;dsimp only;refine aG ?_
  have d0:Dts fo H (upd H fo (.dT [])) (fun _ _=>False) (f0 ps) (fun _ _=>1) []:=⟨Same.upd JO,JO,ao,fun _ _ z=>z.elim,fun _ _ _=>rfl,fun _ _ _ _ _ z=>(by cases z),fun _ _ _ z=>(by cases z)⟩
  generalize upd H fo (.dT [])=H1 at d0⊢;refine⟨_,rfl,ap,xp,rfl,SqT.of (d0.sm _ _ rp.e),?_⟩;refine ZT.for_enum true (xs:=xp) (fun i σ Hc=>∃x2 x3 x4 x5 x6 x7 x8 x9 kvs,σ=[some (.ref ap),some (.ref fo),x2,x3,x4,x5,x6,x7,x8,x9]/\Dts fo H Hc (fun n y=>dom ps n y/\n<i) (f0 ps) (fun _ _=>1) kvs/\kvs.length<=20*i) ?_ ?_ ?_ ?_
  .exact⟨none,none,none,none,none,none,none,none,[],rfl,⟨d0.sm,d0.nf,d0.e,fun n y z=>by
    have:=z.1.1;have:=z.2
    lia,fun n y _=>d0.no n y id,d0.i,d0.fr⟩,zA3 _⟩
  .rintro i σ Hc hi ⟨x2,x3,x4,x5,x6,x7,x8,x9,kvs,rfl,dt,lk⟩;exact SqT.of (dt.sm _ _ rp.e)
  .rintro i x σ Hc T0 hx ⟨x2,x3,x4,x5,x6,x7,x8,x9,kvs,rfl,dt,lk⟩ nT
   have hi:i<ps.length:=by
    have:=(zAa.mp hx).1;rw[rp.l]at this;exact this
   obtain⟨tr,df,cv⟩:=rp.g i ps[i] (zA0 hi)
   have:x=.ref tr:=by
    rw[hx]at df;exact zAl df
   subst this;have op:=okp ps[i] (zAh hi)
   have ep:ps.getD ((i:Int)).toNat []=ps[i]:=by
    rw[zAi];exact getD_get hi
   have dT:=dt.new (o:=.tup [V.int i,V.ref tr]) nT;generalize QI:ps[i]=p at cv op ep;have kx:=dT.sm _ _ cv;rw[dM op.1]at kx;obtain⟨_,⟨a1,a2⟩,_,⟨c1,c2,c3⟩,⟨e1,e2⟩,_⟩:=op;refine⟨T0,_,rfl,SqT.of ao,rfl,_,_,rfl,_,_,rfl,?_⟩;refine⟨tr,_,rfl,SqT.of kx,rfl,_,_,rfl,_,_,rfl,_,_,rfl,_,_,rfl,_,_,rfl,_,_,rfl,rfl,rfl,?_⟩;refine⟨_,rfl,_,rfl,_,_,rfl,rfl,fl p 2,fl p 3+1,rfl,⟨Zz,Zz,Zz,Zz⟩,?_⟩;generalize upd Hc T0 (.tup [V.int i,V.ref tr])=H2 at dT⊢;refine bW (lo:=fl p 2) (n:=(fl p 3+1-fl p 2).toNat) (fun j σ Hj=>∃x9 kvs,σ=[some (.ref ap),some (.ref fo),some (.int i),some (.int (fl p 0)),some (.int (fl p 1)),some (.int (fl p 2)),some (.int (fl p 3)),some (.int (fl p 4)),some (.int (fl p 5)),x9]/\Dts fo H Hj (fun n y=>dom ps n y/\(n<i\/(n=i/\y<fl p 2+j))) (f0 ps) (fun _ _=>1) kvs/\kvs.length<=20*i+j) ?_ ?_ ?_
   .exact⟨x9,kvs,rfl,⟨dT.sm,dT.nf,dT.e,fun n y z=>dT.g n y ⟨z.1,by
     rcases z.2 with z2|⟨z2,z3⟩
     .exact z2
     .obtain⟨_,_,w1,_⟩:=z.1;rw[z2,ep]at w1
      lia⟩,fun n y z=>dT.no n y fun z'=>z ⟨z'.1,.inl z'.2⟩,dT.i,dT.fr⟩,lk⟩
   .rintro j σ Hj hj ⟨x9,kvs,rfl,dj,lj⟩;refine aM ?_;refine fun p1 tS=>?_;refine⟨_,rfl,_,rfl,ao,[(.inl (fl p 0),.int (fl p 4))],rfl,(by show 1<=15;decide),?_⟩
    have hD:∀b o,Hj b=some o->upd (upd Hj p1 (.dK [])) p1 (.dK (gO [] [(.inl (fl p 0),.int (fl p 4))])) b=some o:=fun b o e=>by
     rw[aF (aH e tS),aF (aH e tS)];exact e
    have sR:upd (upd Hj p1 (.dK [])) p1 (.dK (gO [] [(.inl (fl p 0),.int (fl p 4))])) p1=some (.dK [(.inl (fl p 0),.int (fl p 4))]):=ao;generalize upd (upd Hj p1 (.dK [])) p1 (.dK (gO [] [(.inl (fl p 0),.int (fl p 4))]))=HD at hD sR⊢
    have JP:p1≠fo:=fun z=>by
     rw[z,dj.e]at tS;cases tS
    refine⟨_,rfl,_,rfl,_,rfl,zL,fun t ht=>⟨fo,_,rfl,DPut.t (k:=ky i (fl p 2+j)) (Same.upd ht _ _ (hD _ _ dj.e)) ao Zu,?_⟩⟩
    have kp:∀b o,Hj b=some o->b≠fo->upd (upd HD t (.tup [V.int i,V.int (fl p 2+j)])) fo (.dT (putK kvs (ky i (fl p 2+j)) (.ref p1))) b=some o:=fun b o e ne=>by
     rw[aF ne];exact Same.upd ht _ _ (hD _ _ e)
    have zS:upd (upd HD t (.tup [V.int i,V.int (fl p 2+j)])) fo (.dT (putK kvs (ky i (fl p 2+j)) (.ref p1))) p1=some (.dK [(.inl (fl p 0),.int (fl p 4))]):=by
     rw[aF JP];exact Same.upd ht _ _ sR
    have Mw:H p1=none:=dj.sm.free tS;refine⟨_,_,rfl,⟨fun b o e=>kp b o (dj.sm _ _ e) (aH e dj.nf),dj.nf,ao,fun n y z=>?_,fun n y z=>?_,fun n y n' y' d z z'=>?_,fun n y d z=>?_⟩,?_⟩
    .by_cases hk:ky n y=ky i (fl p 2+j)
     .obtain⟨rfl,rfl⟩:=uK hk;refine⟨p1,_,by rw[dB,zAx rfl],zS,⟨zA3 _,fun p hp=>⟨fl _ 0,by rw[List.mem_singleton.mp hp],a1,Zz⟩⟩,fun h h0 h8=>?_⟩;unfold f0;rw[ep];by_cases hh:h=fl p 0
      .rw[zAx hh,cJ (show(Sum.inl (fl p 0):Key)=.inl h by rw[hh])];rfl
      .rw[zAv hh,cM (fun z=>hh (by injection z with z;exact z.symm))];rfl
     .have hd:dom ps n y/\(n<i\/(n=i/\y<fl p 2+j)):=⟨z.1,by
       rcases z.2 with z2|⟨z2,z3⟩
       .exact .inl z2
       .refine .inr ⟨z2,?_⟩;have:y≠fl p 2+j:=fun w=>hk (by rw[z2,w])
        lia⟩
      obtain⟨d,kv,q1,q2,q3⟩:=dj.g n y hd;exact⟨d,kv,by rw[dB,zAv hk];exact q1,kp _ _ q2 (dj.fr n y d q1).2.1,q3⟩
    .have hk:¬ky n y=ky i (fl p 2+j):=fun w=>by
      obtain⟨rfl,rfl⟩:=uK w;exact z ⟨⟨Zz,Zz,by rw[ep];lia,by rw[ep];lia⟩,.inr ⟨rfl,Zz⟩⟩
     rw[dB,zAv hk];exact dj.no n y fun z'=>z ⟨z'.1,z'.2.elim .inl fun w=>.inr ⟨w.1,Zz⟩⟩
    .rw[dB]at z z'
     have old:∀n y,bZ kvs (ky n y)=some (.ref p1)->False:=fun n y w=>by
      obtain⟨_,_,o,w3⟩:=dj.fr n y p1 w;rw[tS]at w3;cases w3
     by_cases h1:ky n y=ky i (fl p 2+j)
     .rw[zAx h1]at z;by_cases h2:ky n' y'=ky i (fl p 2+j)
      .exact uK (h1.trans h2.symm)
      .rw[zAv h2]at z';injection z with z;injection z with z;rw[<-z]at z';exact(old _ _ z').elim
     .rw[zAv h1]at z;by_cases h2:ky n' y'=ky i (fl p 2+j)
      .rw[zAx h2]at z';injection z' with z';injection z' with z';rw[<-z']at z;exact(old _ _ z).elim
      .rw[zAv h2]at z';exact dj.i _ _ _ _ _ z z'
    .rw[dB]at z;by_cases h1:ky n y=ky i (fl p 2+j)
     .rw[zAx h1]at z;injection z with z;injection z with z;rw[<-z];exact⟨Mw,JP,_,zS⟩
     .rw[zAv h1]at z;obtain⟨w1,w2,o,w3⟩:=dj.fr n y d z;exact⟨w1,w2,o,kp _ _ w3 w2⟩
    .have:=cA kvs (ky i (fl p 2+j)) (V.ref p1);lia
   .rintro σ Hj ⟨x9,kvs,rfl,dj,lj⟩;refine⟨_,_,_,_,_,_,_,_,kvs,rfl,⟨dj.sm,dj.nf,dj.e,fun n y z=>dj.g n y ⟨z.1,?_⟩,fun n y z=>dj.no n y fun z'=>z ⟨z'.1,z'.2.elim (fun w=>by lia) fun w=>by lia⟩,dj.i,dj.fr⟩,Zz⟩;by_cases hn:n<i
    .exact .inl hn
    .have e9:n=i:=by
      have:=z.2;lia
     refine .inr ⟨e9,?_⟩;obtain⟨_,_,_,w1⟩:=z.1;rw[e9,ep]at w1;lia
  .rintro σ Hc ⟨x2,x3,x4,x5,x6,x7,x8,x9,kvs,rfl,dt,lk⟩;refine⟨_,rfl,q fo Hc kvs ⟨dt.sm,dt.nf,dt.e,fun n y z=>dt.g n y ⟨z,?_⟩,fun n y z=>dt.no n y fun z'=>z z'.1,dt.i,dt.fr⟩⟩;rw[rp.l];exact z.2.1
def mJ(ps:List (List Int))(f:Int->Int->Int->Int)(s:List Int):Bool:=nj ps s&&(years (fl s 4) (fl (my ps s) 3)).all fun y=>decide (fl s 3<=f (fl s 0) y (fl s 1))
inductive SpLHoldsI(vs:List V)(H:Hp)(Q:VK):Prop
 |mk:∀ap xp ps fo H0 f b kvs t s,(vs=[.ref ap,.ref fo,.ref t])->(RowsAt H ap xp ps)->((∀r∈ps,okP r))->(Dts fo H0 H (dom ps) f b kvs)->(H t=some (.tup (s.map V.int)))->(s.length=5)->(∀H',Same H H'->Q (.bl (mJ ps f s)) H')->SpLHoldsI  vs H Q
def tu:Sp:=fun vs H Q _=>SpLHoldsI  vs H Q
theorem Cm{ns:List Int}{M k:Int}(h1:M∈ns)(h2:∀a∈ns,M<=a):decide (k<=M)=ns.all fun a=>decide (k<=a):=by
 rw[Bool.eq_iff_iff,Zq,List.all_eq_true];exact⟨fun h a ha=>zAt (Int.le_trans h (h2 a ha)),fun h=>zB2 (h M h1)⟩
theorem Ht{σ:St}{H:Hp}{ta tb:TE}{i j:Int}(a:Ev σ H ta (.int i))(b:Ev σ H tb (.int j)):Ev σ H (tOp rEq ta tb) (.bl (decide (i=j))):=fun Q q=>a _ (b _ ⟨rfl,by
 have ed:decide (V.int i=V.int j)=decide (i=j):=decide_eq_decide.mpr ⟨fun z=>by injection z,fun z=>by rw[z]⟩;rw[ed]
 exact q⟩)
theorem sc35s:FnScope ["_law_promises_here","_law_rows","_law_sale","_law_number","_law_seller","_law_buyer","_law_sacks","_law_year","_law_first","_law_last"] ["_law_promises_here","_law_rows","_law_sale"] (aK (top 65)):=fQS
theorem Jb:(["_law_one","_law_rows","_law_number","_law_seller"]:List Str).Nodup:=by decide +kernel
theorem xR(F:Fun K "_law_holds" "_law_holds" (top 65) f fd)(T:Mg mg)(Tr:mg "range"=none)(Tm:mg "min"=none):FnOk P w K mg base CX0 1 f fd ["_law_promises_here","_law_rows","_law_sale"] tu:=by
 refine F.ok sc35s (fun vs H Q E h=>?_) (fun ah A outer s H vs Q E hr h=>?_)
 .obtain⟨ap,xp,ps,fo,H0,g,b,kvs,t,r,rfl,_⟩:=h;rfl
 .obtain⟨ap,xp,ps,fo,H0,g,b,kvs,t,r,rfl,rp,okp,dt,et,h5,q⟩:=h
  refine⟨_,aA (cC (pv 2) (bI rfl (aq (bF (i:=3) sc35s.nd rfl (Or.inr rfl)) (aq (bF (i:=4) sc35s.nd rfl (Or.inr rfl)) (aq (pgn 5 sc35s.nd) (aq (pgn 6 sc35s.nd) (aq (pgn 7 sc35s.nd) aW)))))))
   (aA (cj (PW.pt (kE (bN (dR bH iI aB (pv 3) (aO bh rfl T.len PySem.boot_len (az (pv 0) aj)))) (kE (bN (dR bH bH aB (pv 4) aB)) (kE (bN (dR bH bH aB (pv 5) aB)) (p8 (bG nC (pv 4) (pv 5) (bD _))))))) (aD (aP gG)) aZ)
   (aA (tY (i:=8) (j:=9) rfl sc35s.nd rfl rfl Zx rfl rfl (az (pX bJ (pX bJ (pv 0) (pv 3)) aB) (az (pX bJ (pX bJ (pv 0) (pv 3)) aB) aj)) rfl)
   (aA (cj (PW.pt (kE (bN (dR bH bH aB (pv 6) aB)) (p8 (bN (dR bH bH (pv 8) (pv 7) (pv 9)))))) (aD (aP gG)) aZ)
   (aD (aP (iu yq (aO (mY rfl) rfl Tm boot_min (az (cF ["_law_one","_law_rows","_law_number","_law_seller"] [none,some 1,some 3,some 4] rfl (ir rfl Tr (az (pv 7) (az (aR bz (pv 9) aB) aj)))
    (fun C fp Zt s₂ H₂=>⟨pgn 0 Jb,cD,j7 (fH hr) (pU (fH hr) (pv 1) (bO (az (pv 2) (az (pv 0) aj))) (fun _ _=>rfl)) (pv 3) aB (by constructor<;>rfl)⟩)
    (fun C=>cI (cI (cI trivial))) ⟨rfl,rfl,rfl,rfl⟩) aj)) (pv 6) (bD _))))))),?_⟩
  have fin:=q;unfold mJ nj at fin;rw[gZ h5]at et;refine aG ?_;refine⟨_,rfl,t,_,rfl,SqT.of et,rfl,_,_,rfl,_,_,rfl,_,_,rfl,_,_,rfl,_,_,rfl,rfl,?_⟩;dsimp only;refine aG ?_;refine bK (p:=fun i j=>decide (i<=j)) (q:=fun i j=>decide (i<j)) (i:=0) (j:=fl r 0) (k:=(xp.length:Int)) dW (d7 rfl) (fun Q h=>⟨_,rfl,ap,xp,rfl,.inr (SqT.of rp.e),h⟩) _ ⟨_,rfl,?_⟩;rw[rp.l]
  cases e1:(decide (0<=fl r 0)&&decide (fl r 0<ps.length))with
  |false=>
   rw[e1]at fin;exact bQ (bQ (fin H (Same.refl H)))
  |true=>
  rw[e1]at fin;refine bA ?_;refine bK (p:=fun i j=>decide (i<=j)) (q:=fun i j=>decide (i<=j)) (i:=0) (j:=fl r 1) (k:=7) dW (d7 rfl) dW _ ⟨_,rfl,?_⟩;dsimp only;rw[show decide (fl r 1<=7)=decide (fl r 1<8)from decide_eq_decide.mpr Zz]
  cases e2:(decide (0<=fl r 1)&&decide (fl r 1<8))with
  |false=>
   rw[e2]at fin;exact bQ (bQ (fin H (Same.refl H)))
  |true=>
  rw[e2]at fin;refine bA ?_;refine bK (p:=fun i j=>decide (i<=j)) (q:=fun i j=>decide (i<=j)) (i:=0) (j:=fl r 2) (k:=7) dW (d7 rfl) dW _ ⟨_,rfl,?_⟩;dsimp only;rw[show decide (fl r 2<=7)=decide (fl r 2<8)from decide_eq_decide.mpr Zz]
  cases e3:(decide (0<=fl r 2)&&decide (fl r 2<8))with
  |false=>
   rw[e3]at fin;exact bQ (bQ (fin H (Same.refl H)))
  |true=>
  rw[e3]at fin;refine bA ?_;refine Ht (i:=fl r 1) (j:=fl r 2) (d7 rfl) (d7 rfl) _ ⟨_,rfl,?_⟩
  cases e4:decide (fl r 1=fl r 2)with
  |true=>
   rw[e4]at fin;exact bQ (fin H (Same.refl H))
  |false=>
  rw[e4]at fin;refine bA (cG ?_);dsimp only;refine aG ?_;rw[zAc,Zq,Zq]at e1 e2;obtain⟨p,hp,ep,op⟩:=dN okp e1.1 e1.2;have rL:my ps r=p:=ep;rw[rL]at fin;obtain⟨tp,cq,cy⟩:=eO rp e1.1 hp;rw[dM op.1]at cy;obtain⟨_,_,_,⟨g1,g2,g3⟩,_⟩:=id op;refine⟨_,rfl,_,rfl,ap,xp,_,.ref tp,rfl,rfl,SqT.of rp.e,cq,tp,_,2,.int (fl p 2),rfl,rfl,SqT.of cy,rfl,?_⟩;refine⟨_,rfl,_,rfl,ap,xp,_,.ref tp,rfl,rfl,SqT.of rp.e,cq,tp,_,3,.int (fl p 3),rfl,rfl,SqT.of cy,rfl,?_⟩;refine⟨_,_,rfl,?_⟩;dsimp only;refine aG ?_;refine bK (p:=fun i j=>decide (i<=j)) (q:=fun i j=>decide (i<=j)) (i:=1) (j:=fl r 3) (k:=99) dW (d7 rfl) dW _ ⟨_,rfl,?_⟩;dsimp only
  cases e5:(decide (1<=fl r 3)&&decide (fl r 3<=99))with
  |false=>
   rw[e5]at fin;exact bQ (bQ (fin H (Same.refl H)))
  |true=>
  rw[e5]at fin;refine bA ?_;refine bK (p:=fun i j=>decide (i<=j)) (q:=fun i j=>decide (i<=j)) (i:=fl p 2) (j:=fl r 4) (k:=fl p 3) (d7 rfl) (d7 rfl) (d7 rfl) _ ⟨_,rfl,?_⟩;dsimp only
  cases e6:(decide (fl p 2<=fl r 4)&&decide (fl r 4<=fl p 3))with
  |false=>
   rw[e6]at fin;exact bQ (fin H (Same.refl H))
  |true=>
  rw[e6]at fin;rw[zAc,Zq,Zq]at e6;refine bA (cG ?_);dsimp only;refine⟨_,rfl,_,rfl,_,_,rfl,rfl,fl r 4,fl p 3+1,rfl,⟨Zz,Zz,Zz,Zz⟩,?_⟩;refine sO (fun ys Hc=>Same H Hc/\ys=((years (fl r 4) (fl p 3)).take ys.length).map fun y=>V.int (g (fl r 0) y (fl r 1))) ⟨Same.refl _,rfl⟩ Zu ?_ ?_
  .rintro i ys Hc Qc hi hy ⟨sc,ey⟩ qc;refine⟨_,rfl,_,rfl,_,rfl,zL,fun k hk=>?_⟩;have sk:=sc.updR (o:=.tup [V.int (fl r 0),V.int (fl r 4+i)]) hk;have dk:=dt.same sk;obtain⟨d,kv,q1,q2,q3,q4⟩:=dk.g (fl r 0) (fl r 4+i) ⟨e1.1,e1.2,by rw[ep];lia,by rw[ep];lia⟩;refine⟨fo,.ref d,rfl,by rw[<-q1];exact DGet.t dk.e ao,?_⟩;refine⟨d,rfl,.inl ⟨kv,.inl q2⟩,_,rfl,_,DGet.k (k:=.inl (fl r 1)) q2,?_⟩;rw[q4 _ e2.1 e2.2];refine qc _ _ ⟨sk,?_⟩
   have hx:(years (fl r 4) (fl p 3))[ys.length]?=some (fl r 4+(i:Int)):=by
    rw[hy];exact jF hi
   exact oE ey hx
  .rintro ys Hc hy ⟨sc,ey⟩ D hD;rw[List.take_of_length_le (by rw[jE,hy];exact zA3 _)]at ey;refine⟨D,(years (fl r 4) (fl p 3)).map fun y=>g (fl r 0) y (fl r 1),rfl,SqL.of (by rw[zAr];rw[ey];exact ao),?_,fun M h1 h2=>⟨_,rfl,_,_,rfl,rfl,?_⟩⟩
   .intro z;have:=congrArg List.length z;rw[zA1,jE,List.length_nil]at this;lia
   .have em:=Cm (k:=fl r 3) h1 h2;rw[List.all_map]at em;show Q (.bl (decide (fl r 3<=M))) _;rw[em];exact fin _ (sc.updR hD)
def dl(s:List Int)(h:Int):Int:=(if h=fl s 2 then fl s 3 else 0)-(if h=fl s 1 then fl s 3 else 0)
def fS(f:Int->Int->Int->Int)(s:List Int)(n y h:Int):Int:=if n=fl s 0/\fl s 4<=y then f n y h+dl s h else f n y h
theorem Cp{H:Hp}{d:Addr}{a b:HO}:upd (upd H d a) d b=upd H d b:=by
 funext c;by_cases h:c=d
 .subst h;rw[ao,ao]
 .rw[aF h,aF h,aF h]
theorem tD{L:List Int}{i v h:Int}(hl:L.length=8)(i0:0<=i)(i1:i<8)(h0:0<=h)(h1:h<8):(iY L i v).getD h.toNat 0=L.getD h.toNat 0+(if h=i then v else 0):=by
 unfold iY;rw[zA7,List.getElem?_set];by_cases hh:h=i
 .subst hh;rw[zAx rfl,zAx rfl,zAx Zz];rfl
 .rw[zAv Zz,zAv hh,<-zA7];lia
theorem xT{L s:List Int}{n y h:Int}(hl:L.length=8)(ok:okS s)(h0:0<=h)(h1:h<8):(hstep n y L s).getD h.toNat 0=if n=fl s 0/\fl s 4<=y then L.getD h.toNat 0+dl s h else L.getD h.toNat 0:=by
 obtain⟨_,⟨a1,a2⟩,b1,b2⟩:=ok;unfold hstep dl;by_cases hc:fl s 0=n/\fl s 4<=y
 .rw[zAx hc,zAx ⟨hc.1.symm,hc.2⟩,tD (by rw[gY];exact hl) b1 b2 h0 h1,tD hl a1 a2 h0 h1];split<;>split<;>lia
 .rw[zAv hc,zAv fun z=>hc ⟨z.1.symm,z.2⟩]
theorem xU{p s:List Int}{ss:List (List Int)}{n y h:Int}(fE:fl p 2<=y/\y<=fl p 3)(ok:okS s)(h0:0<=h)(h1:h<8):
  (aY p (ss++[s]) n y).getD h.toNat 0=if n=fl s 0/\fl s 4<=y then(aY p ss n y).getD h.toNat 0+dl s h else(aY p ss n y).getD h.toNat 0:=by
 have hl:=dG p ss n y
 have e:aY p (ss++[s]) n y=hstep n y (aY p ss n y) s:=by
  unfold aY;rw[zAx fE,zAx fE,List.foldl_append];rfl
 rw[e,xT hl ok h0 h1]
inductive SpSellI(vs:List V)(H:Hp)(Q:VK):Prop
 |mk:∀ap xp ps fo H0 f b kvs t s,(vs=[.ref ap,.ref fo,.ref t])->(RowsAt H ap xp ps)->((∀r∈ps,okP r))->(Dts fo H0 H (dom ps) f (fun _ _=>b) kvs)->(b<=1000)->(H t=some (.tup (s.map V.int)))->(s.length=5)->(mJ ps f s=true)->(∀H',Dts fo H0 H' (dom ps) (fS f s) (fun _ _=>b+2) kvs->Q .non H')->SpSellI  vs H Q
def zR:Sp:=fun vs H Q _=>SpSellI  vs H Q
theorem sc36s:FnScope ["_law_promises_here","_law_rows","_law_sale","_law_number","_law_seller","_law_buyer","_law_sacks","_law_year","_law_one","_law_row"] ["_law_promises_here","_law_rows","_law_sale"] (aK (top 66)):=fQS
theorem Cq(F:Fun K "_law_sell" "_law_sell" (top 66) f fd)(Tr:mg "range"=none):FnOk P w K mg base CX0 1 f fd ["_law_promises_here","_law_rows","_law_sale"] zR:=by
 refine F.ok sc36s (fun vs H Q E h=>?_) (fun ah A outer s H vs Q E hr h=>?_)
 .obtain⟨ap,xp,ps,fo,H0,g,b,kvs,t,r,rfl,_⟩:=h;rfl
 .obtain⟨ap,xp,ps,fo,H0,g,b,kvs,t,r,rfl,rp,okp,dt,hb,et,h5,hh,q⟩:=h
  refine⟨_,aA (cC (pv 2) (bI rfl (aq (pgn 3 sc36s.nd) (aq (pgn 4 sc36s.nd) (aq (pgn 5 sc36s.nd) (aq (pgn 6 sc36s.nd) (aq (pgn 7 sc36s.nd) aW)))))))
   (aD (bV zB4 rfl (ir rfl Tr (az (pv 7) (az (aR bz (pX bJ (pX bJ (pv 0) (pv 3)) aB) aB) aj))) (pgn 8 sc36s.nd)
    (aA (pss 9 sc36s.nd (pU (fH hr) (pv 1) (bO (az (pv 3) (az (pv 8) aj))) (fun _ _=>rfl)))
    (aA (iz (fH hr) (pv 9) (pv 4) (aR fO (pU (fH hr) (pv 9) (pv 4) (fun _ _=>rfl)) (pv 6)) rfl)
    (aD (iz (fH hr) (pv 9) (pv 5) (aR bz (j7 (fH hr) (pv 9) (pv 5) aB (by constructor<;>rfl)) (pv 6)) rfl)))))),?_⟩
  rw[gZ h5]at et;unfold mJ nj at hh;simp only[Bool.and_eq_true,Zq,Bool.not_eq_true',decide_eq_false_iff_not]at hh;obtain⟨⟨⟨n0,n1⟩,⟨a1,a2⟩,⟨b1,b2⟩,EF,⟨k1,k2⟩,y0,y1⟩,hy⟩:=hh;obtain⟨p,hp,ep,op⟩:=dN okp n0 n1;have rL:my ps r=p:=ep;rw[rL]at y0 y1 hy;obtain⟨tp,cq,cy⟩:=eO rp n0 hp;rw[dM op.1]at cy;obtain⟨_,_,_,⟨g1,g2,g3⟩,_⟩:=id op;refine aG ?_;refine⟨_,rfl,t,_,rfl,SqT.of et,rfl,_,_,rfl,_,_,rfl,_,_,rfl,_,_,rfl,_,_,rfl,rfl,?_⟩;dsimp only;refine⟨_,rfl,_,rfl,_,rfl,ap,xp,_,.ref tp,rfl,rfl,SqT.of rp.e,cq,tp,_,3,.int (fl p 3),rfl,rfl,SqT.of cy,rfl,_,_,rfl,rfl,fl r 4,fl p 3+1,rfl,⟨Zz,Zz,Zz,Zz⟩,?_⟩
  refine bW (lo:=fl r 4) (n:=(fl p 3+1-fl r 4).toNat) (fun j σ Hj=>∃x8 x9,σ=[some (.ref ap),some (.ref fo),some (.ref t),some (.int (fl r 0)),some (.int (fl r 1)),some (.int (fl r 2)),some (.int (fl r 3)),some (.int (fl r 4)),x8,x9] /\
   Dts fo H0 Hj (dom ps) (fun n y h=>if n=fl r 0/\fl r 4<=y/\y<fl r 4+j then g n y h+dl r h else g n y h) (fun n y=>if n=fl r 0/\fl r 4<=y/\y<fl r 4+j then b+2 else b) kvs) ?_ ?_ ?_
  .refine⟨none,none,rfl,dt.cast fun n y hd=>?_⟩;rw[zAv Zz];exact⟨zA3 _,fun h _ _=>by rw[zAv Zz]⟩
  .rintro j σ Hj hj ⟨x8,x9,rfl,dj⟩;refine aM (aG ?_);refine aX ?_;refine⟨_,rfl,_,rfl,_,rfl,zL,fun k hk=>?_⟩;have dk:=dj.new (o:=.tup [V.int (fl r 0),V.int (fl r 4+j)]) hk;have ek:upd Hj k (.tup [V.int (fl r 0),V.int (fl r 4+j)]) k=some (.tup ((ky (fl r 0) (fl r 4+j)).map kV)):=ao;generalize upd Hj k (.tup [V.int (fl r 0),V.int (fl r 4+j)])=H1 at dk ek⊢
   have EN:dom ps (fl r 0) (fl r 4+j):=⟨n0,n1,by rw[ep];lia,by rw[ep];lia⟩
   obtain⟨d,kv,q1,q2,⟨q3,qk⟩,q4⟩:=dk.g _ _ EN;rw[if_neg Zz]at q3;refine⟨fo,.ref d,rfl,by rw[<-q1];exact DGet.t dk.e ek,?_⟩;refine aM ?_;dsimp only;have hV:=q4 (fl r 1) a1 a2;rw[if_neg Zz]at hV
   have nr:fl r 3<=g (fl r 0) (fl r 4+j) (fl r 1):=by
    have:=List.all_eq_true.mp hy (fl r 4+j) (zB9 (jF hj));exact zB2 this
   have EO:bZ kv (.inl (fl r 1))=some (.int (g (fl r 0) (fl r 4+j) (fl r 1))):=by
    cases ev:bZ kv (.inl (fl r 1))with
    |none=>
     rw[ev]at hV;injection hV with hV;lia
    |some v=>
     rw[ev]at hV;exact congrArg some hV
   have Ap:=q4 (fl r 2) b1 b2;rw[if_neg Zz]at Ap;refine aG ?_;refine⟨_,rfl,_,rfl,d,_,rfl,by rw[<-EO];exact DGet.k (k:=.inl (fl r 1)) q2,_,rfl,_,_,rfl,rfl,_,rfl,_,rfl,d,_,rfl,DPut.k (k:=.inl (fl r 1)) q2 Zu,?_⟩;dsimp only;have QJ:=cA kv (.inl (fl r 1)) (V.int (g (fl r 0) (fl r 4+j) (fl r 1)-fl r 3))
   have vb:(bZ (putK kv (.inl (fl r 1)) (V.int (g (fl r 0) (fl r 4+j) (fl r 1)-fl r 3))) (.inl (fl r 2))).getD (.int 0)=.int (g (fl r 0) (fl r 4+j) (fl r 2)):=by
    rw[dB,zAv (fun z=>EF (by injection z with z;exact z.symm))];exact Ap
   refine⟨_,rfl,d,rfl,.inl ⟨_,.inl ao⟩,_,rfl,_,DGet.k (k:=.inl (fl r 2)) ao,_,rfl,_,_,vb,rfl,_,rfl,_,rfl,d,_,rfl,DPut.k (k:=.inl (fl r 2)) ao Zu,?_⟩;have QK:=cA (putK kv (.inl (fl r 1)) (V.int (g (fl r 0) (fl r 4+j) (fl r 1)-fl r 3))) (.inl (fl r 2)) (V.int (g (fl r 0) (fl r 4+j) (fl r 2)+fl r 3));refine⟨_,_,rfl,?_⟩;rw[Cp]
   refine dk.wr q1 ⟨⟨?_,(qk.put a1 a2 _).put b1 b2 _⟩,fun h h0 h8=>?_⟩ fun n y hd kX=>⟨?_,fun h h0 h8=>?_⟩
   .rw[zAx ⟨rfl,Zz,Zz⟩];exact Nat.le_trans (cA _ _ _) (Nat.succ_le_succ (Nat.le_trans (cA _ _ _) (Nat.succ_le_succ q3)))
   .rw[zAx ⟨rfl,Zz,Zz⟩,dB];unfold dl;by_cases kG:h=fl r 2
    .rw[zAx (by rw[kG]),zAx kG,zAv (fun z=>EF (z.symm.trans kG))];show V.int _=V.int _;rw[kG];congr 1;lia
    .rw[zAv (fun z=>kG (by injection z)),zAv kG,dB];by_cases ix:h=fl r 1
     .rw[zAx (by rw[ix]),zAx ix];show V.int _=V.int _;rw[ix];congr 1;lia
     .rw[zAv (fun z=>ix (by injection z)),zAv ix];have:=q4 h h0 h8;rw[zAv Zz]at this;rw[this];congr 1;lia
   .split<;>split<;>lia
   .by_cases hc:n=fl r 0/\fl r 4<=y/\y<fl r 4+j
    .rw[zAx hc,zAx ⟨hc.1,hc.2.1,Zz⟩]
    .rw[zAv hc,zAv fun z=>hc ⟨z.1,z.2.1,by
      have:y≠fl r 4+j:=fun w=>kX ⟨z.1,w⟩
      lia⟩]
  .rintro σ Hj ⟨x8,x9,rfl,dj⟩;refine q Hj (dj.cast fun n y hd=>⟨by split<;>lia,fun h h0 h8=>?_⟩);unfold fS;by_cases hc:n=fl r 0/\fl r 4<=y
   .have:y<=fl p 3:=by
     have:=hd.2.2.2;rw[hc.1,ep]at this;exact this
    rw[zAx hc,zAx ⟨hc.1,hc.2,Zz⟩]
   .rw[zAv hc,zAv fun z=>hc ⟨z.1,z.2.1⟩]
inductive SpSoldRI(vs:List V)(H:Hp)(Q:VK):Prop
 |mk:∀ap xp ps af xs ss,(vs=[.ref ap,.ref af])->(RowsAt H ap xp ps)->(ps.length<=10)->((∀r∈ps,okP r))->(RowsAt H af xs ss)->(ss.length<=100)->((∀s∈ss,s.length=5))->(∀t fo H',Same H H'->H' t=some (.tup [.ref fo,unV (un ps ss)])->(un ps ss=none->∃b kvs,Dts fo H H' (dom ps) (fun n y h=>(aY (ps.getD n.toNat []) ss n y).getD h.toNat 0) b kvs)->Q (.ref t) H')->SpSoldRI  vs H Q
def vV:Sp:=fun vs H Q _=>SpSoldRI  vs H Q
inductive SpSoldI(vs:List V)(H:Hp)(Q:VK):Prop
 |mk:∀ap xp ps af xs ss,(vs=[.ref ap,.ref af])->(RowsAt H ap xp ps)->(ps.length<=10)->((∀r∈ps,okP r))->(RowsAt H af xs ss)->(ss.length<=100)->((∀s∈ss,s.length=5))->(∀t fo H',Same H H'->H' t=some (.tup [.ref fo,unV (un ps ss)])->Q (.ref t) H')->SpSoldI  vs H Q
def zT:Sp:=fun vs H Q _=>SpSoldI  vs H Q
theorem zU{ps:List (List Int)}{n y h:Int}(ok:okP (ps.getD n.toNat []))(fE:fl (ps.getD n.toNat []) 2<=y/\y<=fl (ps.getD n.toNat []) 3)(h0:0<=h)(h8:h<8):(aY (ps.getD n.toNat []) [] n y).getD h.toNat 0=f0 ps n y h:=by
 unfold aY f0;rw[zAx fE];generalize ps.getD n.toNat []=p at ok;obtain⟨_,⟨a1,a2⟩,_⟩:=ok;show(base0 p).getD h.toNat 0=_;unfold base0;rw[zA7,List.getElem?_set];by_cases hh:h=fl p 0
 .rw[zAx (by rw[hh]),zAx (by rw[List.length_replicate];lia),zAx hh];rfl
 .rw[zAv Zz,zAv hh,List.getElem?_replicate,zAx Zz];rfl
theorem sc37s:FnScope ["_law_promises_here","_law_sales_here","_law_rows","_law_at","_law_sale"] ["_law_promises_here","_law_sales_here"] (aK (top 67)):=fQS
theorem tE(F:Fun K "_law_sold" "_law_sold" (top 67) f fd)(Te:mg "enumerate"=none)(c1:Cal P w K mg base 1 "_law_begun" ["_law_promises_here"] vU)(c2:Cal P w K mg base 1 "_law_holds" ["_law_promises_here","_law_rows","_law_sale"] tu)(c3:Cal P w K mg base 1 "_law_sell" ["_law_promises_here","_law_rows","_law_sale"] zR):
  FnOk P w K mg base CX0 2 f fd ["_law_promises_here","_law_sales_here"] vV:=by
 refine F.ok sc37s (fun vs H Q E h=>?_) (fun ah A outer s H vs Q E hr h=>?_)
 .obtain⟨ap,xp,ps,af,xs,ss,rfl,_⟩:=h;rfl
 .obtain⟨ap,xp,ps,af,xs,ss,rfl,rp,lp,okp,rs,ls,cx,q⟩:=h
  refine⟨_,aA (pss 2 sc37s.nd (aJ c1 hr (az (pv 0) aj)))
   (aA (bV zB4 rfl (ZT.pi_enum true rfl Te (az (pv 1) aj)) (bI rfl (aq (pgn 3 sc37s.nd) (aq (pgn 4 sc37s.nd) aW)))
    (aA (cj (bN (d8 (aJ c2 hr (az (pv 0) (az (pv 2) (az (pv 4) aj)))))) (aD (aP (bO (az (pv 2) (az (pv 3) aj))))) aZ)
    (aD (cW (aJ c3 hr (az (pv 0) (az (pv 2) (az (pv 4) aj))))))))
   (aD (aP (bO (az (pv 2) (az oY aj)))))),?_⟩
  refine aG (aX ?_);refine⟨_,rfl,ap,xp,ps,rfl,rp,lp,okp,fun fo H1 kvs d1=>?_⟩;refine aM ?_;dsimp only;refine aG ?_;refine⟨_,rfl,af,xs,rfl,SqT.of (d1.sm _ _ rs.e),?_⟩
  have Mx:∀n y,dom ps n y->okP (ps.getD n.toNat []):=fun n y hd=>by
   obtain⟨p,_,e2,e3⟩:=dN okp hd.1 hd.2.1;rw[e2];exact e3
  refine ZT.for_enum true (xs:=xs) (fun i σ Hc=>∃x3 x4,σ=[some (.ref ap),some (.ref af),some (.ref fo),x3,x4]/\Dts fo H Hc (dom ps) (fun n y h=>(aY (ps.getD n.toNat []) (ss.take i) n y).getD h.toNat 0) (fun _ _=>1+2*i) kvs/\∀j,j<i->dh ps (ss.take j) (ss.getD j [])=true) ?_ ?_ ?_ ?_
  .exact⟨none,none,rfl,d1.cast fun n y hd=>⟨zA3 _,fun h h0 h8=>zU (Mx n y hd) hd.2.2 h0 h8⟩,fun j hj=>absurd hj (Nat.not_lt_zero _)⟩
  .rintro i σ Hc hi ⟨x3,x4,rfl,dt,hh⟩;exact SqT.of (dt.sm _ _ rs.e)
  .rintro i x σ Hc T0 hx ⟨x3,x4,rfl,dt,hh⟩ nT
   have hi:i<ss.length:=by
    have:=(zAa.mp hx).1;rw[rs.l]at this;exact this
   obtain⟨tr,df,cv⟩:=rs.g i ss[i] (zA0 hi)
   have:x=.ref tr:=by
    rw[hx]at df;exact zAl df
   subst this;have h5:=cx ss[i] (zAh hi);have dT:=dt.new (o:=.tup [V.int i,V.ref tr]) nT;have eT:upd Hc T0 (.tup [V.int i,V.ref tr]) T0=some (.tup [V.int i,V.ref tr]):=ao;generalize upd Hc T0 (.tup [V.int i,V.ref tr])=H2 at dT eT⊢;refine⟨T0,_,rfl,SqT.of eT,rfl,_,_,rfl,_,_,rfl,rfl,?_⟩;refine aG ?_;refine⟨_,rfl,_,rfl,_,rfl,ap,xp,ps,fo,H,_,_,kvs,tr,ss[i],rfl,rp.same dT.sm,okp,dT,dT.sm _ _ cv,h5,fun H3 s3=>⟨_,rfl,?_⟩⟩;have d3:=dT.same s3;have ER:mJ ps (fun n y h=>(aY (ps.getD n.toNat []) (ss.take i) n y).getD h.toNat 0) ss[i]=dh ps (ss.take i) ss[i]:=rfl
   cases eh:dh ps (ss.take i) ss[i]with
   |false=>
    rw[ER,eh];refine bQ ⟨_,rfl,_,rfl,zL,fun t ht=>q t fo _ (d3.sm.updR ht) ?_ fun z=>?_⟩
    .rw[qC hh hi (by rw[getD_get hi];exact eh)];exact ao
    .rw[qC hh hi (by rw[getD_get hi];exact eh)]at z;cases z
   |true=>
    rw[ER,eh];refine bA (cG ?_);refine⟨_,rfl,_,rfl,_,rfl,ap,xp,ps,fo,H,_,1+2*i,kvs,tr,ss[i],rfl,rp.same d3.sm,okp,d3,Zz,d3.sm _ _ cv,h5,ER.trans eh,fun H4 d4=>?_⟩;have dv:ss.take (i+1)=ss.take i++[ss[i]]:=by rw[zAj,zA0 hi];rfl
    refine⟨_,_,rfl,d4.cast fun n y hd=>⟨Zz,fun h h0 h8=>?_⟩,fun j hj=>?_⟩
    .rw[dv,xU hd.2.2 (jo h5 eh) h0 h8];rfl
    .rcases Nat.lt_succ_iff_lt_or_eq.mp hj with z|z
     .exact hh j z
     .rw[z,getD_get hi];exact eh
  .rintro σ Hc ⟨x3,x4,rfl,dt,hh⟩;refine⟨_,rfl,zL,fun t ht=>q t fo _ (dt.sm.updR ht) ?_ fun _=>?_⟩
   .rw[vL fun j hj=>hh j (by rw[rs.l];exact hj)];exact ao
   .rw[show xs.length=ss.length from rs.l,zAm]at dt;exact⟨_,kvs,dt.new ht⟩
theorem Cr{f:Addr}{fd:FuncData}(F:FnOk P w K mg base CX0 2 f fd ["_law_promises_here","_law_sales_here"] vV):FnOk P w K mg base CX0 2 f fd ["_law_promises_here","_law_sales_here"] zT:=by
 refine F.imp fun vs H Q E h=>?_;obtain⟨ap,xp,ps,af,xs,ss,rfl,rp,lp,okp,rs,ls,cx,q⟩:=h;exact⟨ap,xp,ps,af,xs,ss,rfl,rp,lp,okp,rs,ls,cx,fun t fo H' s e _=>q t fo H' s e⟩
def Hu(st:Addr)(H:Hp)(n:Int)(v:V)(H':Hp):Prop:=∃ps:List (List Int),But st H H'/\jm H' st/\IsTh (fun _=>False) H' v (bR ps)/\(ps.length:Int)<=n/\∀r∈ps,okP r
inductive SpProms2I(vs:List V)(H:Hp)(Q:VK):Prop
 |mk:∀st n y,(vs=[.ref st,.int n,.int y])->(jm H st)->(1<=n)->(n<=10)->(0<=y)->(y<=1000)->(∀v H',Hu st H n v H'->Q v H')->SpProms2I  vs H Q
def tG:Sp:=fun vs H Q _=>SpProms2I  vs H Q
theorem qH(F:Fun K "_law_promises" "_law_promises" (top 63) f fd)(T:Mg mg)(Tr:mg "range"=none)(Tm:mg "min"=none)(c1:Cal P w K mg base 1 "_law_take" ["_law_state_here","_law_many"] mq):FnOk P w K mg base CX0 2 f fd ["_law_state_here","_law_most","_law_years"] tG:=by
 refine F.ok sc22 (fun vs H Q E h=>?_) (fun ah A outer s H vs Q E hr h=>?_)
 .obtain⟨st,n,y,rfl,_⟩:=h;rfl
 .obtain⟨st,n,y,rfl,fz,n1,n2,y1,y2,q⟩:=h
  refine⟨_,aA (tY (i:=3) (j:=4) rfl sc22.nd rfl rfl Zx rfl rfl (az (cT aj) (az (pX bU (cT (j8 (by repeat constructor))) (aJ c1 hr (az (pv 0) (az aB aj)))) aj)) rfl)
   (aA (bV zB4 rfl (cz rfl Tr (az (aJ c1 hr (az (pv 0) (az (aR bz (pv 1) aB) aj))) aj)) (pgn 5 sc22.nd)
    (aA (pss 6 sc22.nd (aJ c1 hr (az (pv 0) (az (aO (iw rfl) rfl Tm boot_min (az aB (az (aR bz (pv 2) aB) aj))) aj))))
    (aA (pss 7 sc22.nd (aO (iw rfl) rfl Tm boot_min (az aB (az (aR bz (pv 6) (aJ c1 hr (az (pv 0) (az (pX bU (cT (j8 (by repeat constructor))) (aJ c1 hr (az (pv 0) (az aB aj)))) aj)))) aj))))
    (aA (pss 8 sc22.nd (pX bU (vd (q9 aB (q9 aB (q9 (aJ c1 hr (az (pv 0) (az aB aj))) (q9 (aR u6 aB aB) gA))))) (aJ c1 hr (az (pv 0) (az aB aj)))))
    (aA (pss 9 sc22.nd (pX bU (vd (q9 aB (q9 aB (q9 aB (q9 (aJ c1 hr (az (pv 0) (az aB aj))) gA))))) (aJ c1 hr (az (pv 0) (az aB aj)))))
    (aD (cW (qX zBg zBf zBe fV (pv 3) (az (Dn (ul (j9 ⟨pv 9⟩ (j9 ⟨aJ c1 hr (az (pv 0) (az aB aj))⟩ (j9 ⟨pv 6⟩ (j9 ⟨pv 7⟩ (j9 ⟨aR bz aB (aJ c1 hr (az (pv 0) (az (pv 4) aj)))⟩ (j9 ⟨pv 8⟩ gA)))))))) aj)))))))))
   (aD (aP (di cQ rfl T.tuple boot_tuple (az (pv 3) aj))))),?_⟩
  obtain⟨a,b,es,h1,h2,h3⟩:=id fz;refine aG ?_;refine⟨zL,fun p3 kM=>?_⟩
  have fk:p3≠st:=fun z=>by
   rw[z,es]at kM;cases kM
  have g0:Mk3 st p3 [] [] H (upd H p3 (.lst [])):=⟨fun b' o' e' _=>Same.upd kM _ _ e',⟨a,b,Same.upd kM _ _ es,h1,h2,h3⟩,ao,.nil⟩
  refine⟨zL,fun p hp=>?_⟩;have g1:=g0.new (o:=.lst (([3,12,99]:List Int).map V.int)) hp
  have np:p≠st:=fun z=>by
   obtain⟨x,y,e7,_⟩:=g0.sa;rw[z,e7]at hp;cases hp
  refine⟨_,rfl,st,3,rfl,g1.sa,by decide,by decide,fun r a1 b1 r0 r1 k1 k2 k3=>?_⟩
  obtain⟨wd,hw,w1,w2⟩:∃wd:Int,atI (([3,12,99]:List Int).map V.int) r=some (.int wd)/\1<=wd/\wd<=99:=by
   have:r=0\/r=1\/r=2:=Zz
   rcases this with rfl|rfl|rfl
   .exact⟨3,rfl,by decide,by decide⟩
   .exact⟨12,rfl,by decide,by decide⟩
   .exact⟨99,rfl,by decide,by decide⟩
  refine⟨p,_,r,.int wd,rfl,rfl,SqL.of (by rw[aF np];exact ao),hw,_,_,rfl,?_⟩;have g2:=g1.take fk k1 k2 k3;dsimp only;refine aG ?_;refine⟨_,rfl,_,rfl,_,_,rfl,rfl,st,n+1,rfl,g2.sa,Zz,Zz,fun r2 a2 b2 x0 x1 z1 z2 z3=>⟨r2,rfl,Zz,Zz,?_⟩⟩;have g3:=g2.take fk z1 z2 z3;refine bW (lo:=0) (n:=r2.toNat) (fun i σ H'=>∃xs ds x5 x6 x7 x8 x9,σ=[some (.ref st),some (.int n),some (.int y),some (.ref p3),some (.int wd),x5,x6,x7,x8,x9]/\Mk3 st p3 xs ds H H'/\(∃rs:List (List Int),ds=rs.map cX/\rs.length=i/\∀r∈rs,okP r)/\xs.length=i) ?_ ?_ ?_
  .exact⟨[],[],none,none,none,none,none,rfl,g3,⟨[],rfl,rfl,fun _ h=>nomatch h⟩,rfl⟩
  .rintro i σ H' hi ⟨xs,ds,x5,x6,x7,x8,x9,rfl,g,⟨rs,ES,JQ,ET⟩,hl⟩
   have As:∀{Hc:Hp} {c:Addr},Mk3 st p3 xs ds H Hc->Hc c=none->c≠st:=fun{Hc c} gc hc z=>by
    obtain⟨x,y,e7,_⟩:=gc.sa;rw[z,e7]at hc;cases hc
   refine aM (aG ?_);refine aX ?_;refine⟨_,rfl,_,rfl,_,_,rfl,rfl,_,_,rfl,st,_,rfl,g.sa,by split<;>lia,by split<;>lia,fun f1 a3 b3 o0 o1 o2 o3 o4=>?_⟩;have g4:=g.take fk o2 o3 o4;have f2:f1<20:=by split at o1<;>lia
   refine aM ?_;dsimp only;refine aG (aX ?_);refine⟨_,rfl,_,rfl,zL,fun p5 JR=>?_⟩;have n5:=As g4 JR;have g5:=g4.new (o:=.lst (([1,4,20]:List Int).map V.int)) JR;refine⟨_,rfl,st,3,rfl,g5.sa,by decide,by decide,fun r4 a4 b4 q0 q1 q2 q3 q4=>?_⟩
   obtain⟨w5,My,w6,w7⟩:∃w5:Int,atI (([1,4,20]:List Int).map V.int) r4=some (.int w5)/\1<=w5/\w5<=20:=by
    have:r4=0\/r4=1\/r4=2:=Zz
    rcases this with rfl|rfl|rfl
    .exact⟨1,rfl,by decide,by decide⟩
    .exact⟨4,rfl,by decide,by decide⟩
    .exact⟨20,rfl,by decide,by decide⟩
   have g6:=g5.take fk q2 q3 q4;refine⟨p5,_,r4,.int w5,rfl,rfl,SqL.of (by rw[aF n5];exact ao),My,st,w5,rfl,g6.sa,w6,Zz,fun r5 a5 b5 s0 s1 s2 s3 s4=>⟨_,_,rfl,rfl,_,_,rfl,?_⟩⟩;have g7:=g6.take fk s2 s3 s4;refine aM ?_;dsimp only;refine aG (aX ?_);refine⟨_,rfl,st,1000,rfl,g7.sa,by decide,by decide,fun r6 a6 b6 t0 t1 t2 t3 t4=>⟨_,_,rfl,rfl,⟨by decide,by decide,by decide⟩,zL,fun p6 JS=>?_⟩⟩;have g8:=g7.take fk t2 t3 t4;have n6:=As g8 JS;have g9:=g8.new (o:=.lst [V.int 0,V.int 1,V.int r6,V.int (10^(6:Int).toNat)]) JS;refine⟨_,rfl,st,4,rfl,g9.sa,by decide,by decide,fun r7 a7 b7 u0 u1 u2 u3 u4=>?_⟩
   obtain⟨pr,Mz,MA,MB⟩:∃pr:Int,atI [V.int 0,V.int 1,V.int r6,V.int (10^(6:Int).toNat)] r7=some (.int pr)/\0<=pr/\pr<=1000000:=by
    have:r7=0\/r7=1\/r7=2\/r7=3:=Zz
    rcases this with rfl|rfl|rfl|rfl
    .exact⟨0,rfl,by decide,by decide⟩
    .exact⟨1,rfl,by decide,by decide⟩
    .exact⟨r6,rfl,t0,Zz⟩
    .exact⟨_,rfl,by decide,by decide⟩
   have ga:=g9.take fk u2 u3 u4;refine⟨p6,_,r7,.int pr,rfl,rfl,SqL.of (by rw[aF n6];exact ao),Mz,?_⟩;refine aM ?_;dsimp only;refine aG (aX ?_);refine⟨_,rfl,st,8,rfl,ga.sa,by decide,by decide,fun r8 a8 b8 v0 v1 v2 v3 v4=>⟨zL,fun p7 JT=>?_⟩⟩;have gb:=ga.take fk v2 v3 v4;have n7:=As gb JT;have gc:=gb.new (o:=.lst [V.int 0,V.int 1,V.int 2,V.int r8]) JT;refine⟨_,rfl,st,4,rfl,gc.sa,by decide,by decide,fun r9 a9 b9 y0 y3 y4 y5 y6=>?_⟩
   obtain⟨ho,MC,MD,kS⟩:∃ho:Int,atI [V.int 0,V.int 1,V.int 2,V.int r8] r9=some (.int ho)/\0<=ho/\ho<8:=by
    have:r9=0\/r9=1\/r9=2\/r9=3:=Zz
    rcases this with rfl|rfl|rfl|rfl
    .exact⟨0,rfl,by decide,by decide⟩
    .exact⟨1,rfl,by decide,by decide⟩
    .exact⟨2,rfl,by decide,by decide⟩
    .exact⟨r8,rfl,v0,v1⟩
   have gd:=gc.take fk y4 y5 y6;refine⟨p7,_,r9,.int ho,rfl,rfl,SqL.of (by rw[aF n7];exact ao),MC,?_⟩;refine aM ?_;dsimp only;refine⟨_,rfl,.inl ⟨rfl,_,SqL.of gd.e3⟩,?_⟩;refine⟨_,rfl,_,rfl,st,3,rfl,gd.sa,by decide,by decide,fun ra aa ba c0 c1 c2 c3 c4=>?_⟩;have ge:=gd.take fk c2 c3 c4;refine⟨_,rfl,_,rfl,_,rfl,_,rfl,st,wd,rfl,ge.sa,w1,Zz,fun rb ab bb d0 d1 d2 d3 d4=>⟨_,_,rfl,rfl,_,rfl,zL,fun l kN=>?_⟩⟩;have gf:=ge.take fk d2 d3 d4;have gg:=gf.new (o:=.tup [V.int ho,V.int ra,V.int f1,V.int (if f1+r5<19 then f1+r5 else 19),V.int (1+rb),V.int pr]) kN
   have yy:l≠p3:=fun z=>by
    rw[z,gf.e3]at kN;cases kN
   refine⟨p3,xs,.ref l,rfl,rfl,gg.e3,by rw[hl,sizeLine_eq];lia,?_⟩;refine⟨xs++[.ref l],ds++[.tuple [.int ho,.int ra,.int f1,.int (if f1+r5<19 then f1+r5 else 19),.int (1+rb),.int pr]],_,_,_,_,_,rfl,⟨fun b' o' e' ne=>?_,?_,ao,?_⟩,?_,by rw[zA2,hl];rfl⟩
   .have:b'≠p3:=aH e' kM;rw[aF this];exact gg.bt b' o' e' ne
   .obtain⟨x,y',e7,k⟩:=gg.sa;exact⟨x,y',by rw[aF fk.symm];exact e7,k⟩
   .refine IsThs.append (gg.ts.keep (fun c l' e'=>?_) (fun _ _ z _=>z.elim) fun _ _ z _=>z.elim) (.cons (.tup (by rw[aF yy];exact ao) (.cons (.int _) (.cons (.int _) (.cons (.int _) (.cons (.int _) (.cons (.int _) (.cons (.int _) .nil))))))) .nil)
    have:c≠p3:=fun z=>by
     rw[z,gg.e3]at e';cases e'
    rw[aF this];exact e'
   .refine⟨rs++[[ho,ra,f1,(if f1+r5<19 then f1+r5 else 19),1+rb,pr]],by rw[ES,zA4];rfl,by rw[zA2,JQ];rfl,fun r hr=>?_⟩;rcases zA6.mp hr with z|z
    .exact ET r z
    .rw[List.mem_singleton.mp z];have lb:f1<=(if f1+r5<19 then f1+r5 else 19)/\(if f1+r5<19 then f1+r5 else 19)<=19:=by split<;>lia
     exact⟨rfl,⟨MD,kS⟩,⟨c0,c1⟩,⟨o0,lb.1,lb.2⟩,⟨(by show 1<=1+rb;lia),(by show 1+rb<=99;lia)⟩,MA,MB⟩
  .rintro σ H' ⟨xs,ds,x5,x6,x7,x8,x9,rfl,g,⟨rs,ES,JQ,ET⟩,hl⟩;refine⟨_,rfl,p3,xs,rfl,.inl ⟨SqL.of g.e3,fun l kN=>?_⟩⟩;have g':=g.new (o:=.tup xs) kN;rw[ES]at g';exact q _ _ ⟨rs,g'.bt,g'.sa,.tup ao (g'.ts.keep (fun _ _ e=>e) (fun _ _ z _=>z.elim) fun _ _ z _=>z.elim),Zz,ET⟩
theorem vW{X:Cx}:OpR X (binaryOp .Add) (fun x y H Q=>∃a b xs ys,x=.ref a/\y=.ref b/\H a=some (.tup xs)/\H b=some (.tup ys)/\ys≠[]/\xs.length+ys.length<=sizeLine/\∀c H',Same H H'->H' c=some (.tup (xs++ys))->Q (.ref c) H'):=by
 intro Zt s σ H x y v u Q I rx ry h;obtain⟨a,b,xs,ys,rfl,rfl,ha,hb,hy,hz,q⟩:=h;refine yJ Zt s σ H _ _ v u Q I rx ry ⟨a,b,xs,ys,rfl,rfl,SqT.of ha,SqT.of hb,hy,hz,fun e=>q b H (Same.refl H) (by rw[e];exact hb),fun _ p hp=>q p _ (Same.upd hp) ao⟩
theorem Dr.rows{st a:Addr}{H H':Hp}{xs:List V}{rs:List (List Int)}(g:Dr st H H')(h0:jm H st)(r:RowsAt H a xs rs):RowsAt H' a xs rs:=by
 obtain⟨x,y,e,_⟩:=h0
 exact r.keep fun b l e'=>g.bt _ _ e' fun z=>by
  rw[z,e]at e';cases e'
theorem xV:bootBuiltins "max"=some (.builtin "max"):=by decide +kernel
theorem oM{H:Hp}{a b t:Addr}{xs:List V}{rs:List (List Int)}{r:List Int}(h:RowsAt H a xs rs)(et:H t=some (.tup (r.map V.int)))(eb:H b=some (.tup (xs++[V.ref t]))):RowsAt H b (xs++[V.ref t]) (rs++[r]):=by
 refine⟨eb,by rw[zA2,zA2,h.l];rfl,fun i r' e=>?_⟩;by_cases hi:i<rs.length
 .rw[zBb hi]at e;rw[zBb (by rw[h.l];exact hi)];exact h.g i r' e
 .rw[zBd Zz]at e;rw[zBd (by rw[h.l];lia),h.l]
  cases hj:i-rs.length with
  |zero=>
   rw[hj]at e;injection e with e;subst e;exact⟨t,rfl,et⟩
  |succ k=>
   rw[hj]at e;simp at e
def smR(s:List Int):Prop:=s.length=5/\∀i∈s,-10<=i/\i<=2000000
inductive SpAnyI(vs:List V)(H:Hp)(Q:VK):Prop
 |mk:∀st ap xp ps,(vs=[.ref st,.ref ap])->(jm H st)->(RowsAt H ap xp ps)->(ps.length<=10)->((∀r∈ps,okP r))->(∀t s H',Dr st H H'->H' t=some (.tup (s.map V.int))->smR s->Q (.ref t) H')->SpAnyI  vs H Q
def Dy:Sp:=fun vs H Q _=>SpAnyI  vs H Q
theorem sc38s:FnScope ["_law_state_here","_law_promises_here","_law_number","_law_holder","_law_sort","_law_first","_law_last","_law_sacks","_law_price","_law_seller","_law_buyer","_law_year"] ["_law_state_here","_law_promises_here"] (aK (top 68)):=fQS
theorem Fx(F:Fun K "_law_any_sale" "_law_any_sale" (top 68) f fd)(T:Mg mg)(Tm:mg "max"=none)(c1:Cal P w K mg base 1 "_law_take" ["_law_state_here","_law_many"] mq):FnOk P w K mg base CX0 2 f fd ["_law_state_here","_law_promises_here"] Dy:=by
 refine F.ok sc38s (fun vs H Q E h=>?_) (fun ah A outer s H vs Q E hr h=>?_)
 .obtain⟨st,ap,xp,ps,rfl,_⟩:=h;rfl
 .obtain⟨st,ap,xp,ps,rfl,fz,rp,lp,okp,q⟩:=h
  refine⟨_,aA (pss 2 sc38s.nd (aJ c1 hr (az (pv 0) (az (aO (nF rfl) rfl Tm xV (az aB (az (aO bh rfl T.len PySem.boot_len (az (pv 1) aj)) aj))) aj))))
   (aA (cC (pX bJ (aR vW (pv 1) (bO (az (bO (j8 (by repeat constructor))) aj))) (pv 2)) (bI rfl (aq (pgn 3 sc38s.nd) (aq (pgn 4 sc38s.nd) (aq (pgn 5 sc38s.nd)
    (aq (pgn 6 sc38s.nd) (aq (pgn 7 sc38s.nd) (aq (pgn 8 sc38s.nd) aW))))))))
   (aA (pss 9 sc38s.nd (pX bU (cT (az (pv 3) (az (pv 3) (az (aJ c1 hr (az (pv 0) (az aB aj))) aj)))) (aJ c1 hr (az (pv 0) (az aB aj)))))
   (aA (pss 10 sc38s.nd (aR gq (aR bz (aR bz (pv 9) aB) (aJ c1 hr (az (pv 0) (az aB aj)))) aB))
   (aA (pss 11 sc38s.nd (aR bz (pv 5) (aJ c1 hr (az (pv 0) (az (aR bz (aR fO (pv 6) (pv 5)) aB) aj)))))
   (aD (aP (Dn (ul (j9 ⟨pv 2⟩ (j9 ⟨pv 9⟩ (j9 ⟨pv 10⟩ (j9 ⟨aR bz aB (aJ c1 hr (az (pv 0) (az (pv 7) aj)))⟩ (j9 ⟨pv 11⟩ gA))))))))))))),?_⟩
  have g0:Dr st H H:=⟨But.refl,fz⟩
  have QL:xp.length<=10:=by rw[rp.l];exact lp
  refine aG (aX ?_);refine⟨_,rfl,_,rfl,ap,xp,rfl,.inr (SqT.of rp.e),_,_,rfl,st,_,rfl,fz,?_,?_,fun r1 a1 b1 r0 rn k1 k2 k3=>?_⟩
  .split<;>lia
  .split<;>lia
  have g1:=g0.take k1 k2 k3;have ua:=g1.rows fz rp;have QM:r1.toNat<xp.length+1:=by split at rn<;>lia
  generalize upd H st (.lst [.int a1,.int b1])=H1 at g1 ua⊢;refine aM ?_;dsimp only;refine aG ?_;refine⟨_,rfl,zL,fun t0 JU=>⟨zL,fun t1 mn=>?_⟩⟩;have g2:=(g1.new (o:=.tup (([0,0,0,3,9,0]:List Int).map V.int)) JU).new (o:=.tup [V.ref t0]) mn;have m2:Same H1 (upd (upd H1 t0 (.tup (([0,0,0,3,9,0]:List Int).map V.int))) t1 (.tup [V.ref t0])):=(Same.upd JU).updR mn;have JV:=Same.upd (o:=.tup [V.ref t0]) mn t0 (.tup (([0,0,0,3,9,0]:List Int).map V.int)) ao;have om:upd (upd H1 t0 (.tup (([0,0,0,3,9,0]:List Int).map V.int))) t1 (.tup [V.ref t0]) t1=some (.tup [V.ref t0]):=ao;generalize upd (upd H1 t0 (.tup (([0,0,0,3,9,0]:List Int).map V.int))) t1 (.tup [V.ref t0])=H2 at g2 m2 JV om⊢;refine⟨ap,t1,xp,_,rfl,rfl,m2 _ _ ua.e,om,by simp,by rw[sizeLine_eq];show xp.length+1<=_;lia,fun c H3 s3 ec=>?_⟩;have g3:=g2.same s3;have ME:=oM ((ua.same m2).same s3) (s3 _ _ JV) ec
  have EU:∀r∈ps++[[0,0,0,3,9,0]],okP r:=fun r hr=>by
   rcases zA6.mp hr with z|z
   .exact okp r z
   .rw[List.mem_singleton.mp z];exact⟨rfl,by decide,by decide,by decide,by decide,by decide⟩
  obtain⟨p,hp,_,op⟩:=dN (n:=r1) EU r0 (by rw[zA2,<-rp.l];show r1<((xp.length+1:Nat):Int);lia);obtain⟨tp,cq,cy⟩:=eO ME r0 hp;rw[dM op.1]at cy;obtain⟨_,⟨p1,p2⟩,_,⟨p3,p4,p5⟩,⟨p6,p7⟩,_⟩:=id op;refine⟨_,rfl,c,_,r1,.ref tp,rfl,rfl,SqT.of ec,cq,?_⟩;refine⟨tp,_,rfl,SqT.of cy,rfl,_,_,rfl,_,_,rfl,_,_,rfl,_,_,rfl,_,_,rfl,_,_,rfl,rfl,?_⟩;dsimp only;refine aG (aX ?_);refine⟨_,rfl,_,rfl,_,rfl,st,8,rfl,g3.sa,by decide,by decide,fun r2 a2 b2 i0 i1 k4 k5 k6=>⟨zL,fun l1 fy=>?_⟩⟩;have g4:=(g3.take k4 k5 k6).new (o:=.lst [V.int (fl p 0),V.int (fl p 0),V.int r2]) fy;have n4:=(g3.take k4 k5 k6).ne fy;refine⟨_,rfl,st,3,rfl,g4.sa,by decide,by decide,fun r3 a3 b3 i2 i3 k7 k8 k9=>?_⟩
  obtain⟨sl,MF,QN,pE⟩:∃sl:Int,atI [V.int (fl p 0),V.int (fl p 0),V.int r2] r3=some (.int sl)/\0<=sl/\sl<8:=by
   have:r3=0\/r3=1\/r3=2:=Zz
   rcases this with rfl|rfl|rfl
   .exact⟨_,rfl,p1,p2⟩
   .exact⟨_,rfl,p1,p2⟩
   .exact⟨_,rfl,i0,i1⟩
  have g5:=g4.take k7 k8 k9;refine⟨l1,_,r3,.int sl,rfl,rfl,SqL.of (by rw[aF n4];exact ao),MF,?_⟩;refine aM ?_;dsimp only;refine aG (aX ?_);refine⟨_,rfl,_,_,rfl,rfl,_,rfl,st,7,rfl,g5.sa,by decide,by decide,fun r4 a4 b4 i4 i5 m1 MG m3=>⟨_,_,rfl,rfl,_,_,rfl,rfl,(by show(0:Int)<8;decide),?_⟩⟩;have g6:=g5.take m1 MG m3;refine aM ?_;dsimp only;refine aG (aX ?_);refine⟨_,rfl,_,rfl,_,rfl,_,rfl,_,_,rfl,rfl,_,_,rfl,rfl,st,_,rfl,g6.sa,Zz,Zz,fun r5 a5 b5 i6 i7 m4 m5 m6=>⟨_,_,rfl,rfl,?_⟩⟩;have g7:=g6.take m4 m5 m6;refine aM ?_;dsimp only;refine⟨_,rfl,_,rfl,_,rfl,_,rfl,_,rfl,st,_,rfl,g7.sa,p6,Zz,fun r6 a6 b6 i8 i9 m7 m8 m9=>⟨_,_,rfl,rfl,_,rfl,zL,fun t ht=>?_⟩⟩;have g8:=g7.take m7 m8 m9;refine q t [r1,sl,(sl+1+r4) % 8,1+r6,fl p 2+r5] _ (g8.new ht) ao ⟨rfl,fun i hi=>?_⟩;simp only[List.mem_cons,List.not_mem_nil,or_false]at hi
  have e8:0<=(sl+1+r4) % 8/\(sl+1+r4) % 8<8:=⟨Int.emod_nonneg _ Zx,Int.emod_lt_of_pos _ Zx⟩
  lia
theorem sc39s:FnScope ["_law_state_here","_law_promises_here","_law_most","_law_found","_law_turn","_law_more"] ["_law_state_here","_law_promises_here","_law_most"] (aK (top 69)):=fQS
theorem sc40s:FnScope ["_law_state_here","_law_years","_law_most","_law_sales_here","_law_clips_here","_law_promises_here"] ["_law_state_here","_law_years","_law_most","_law_sales_here"] (aK (top 70)):=fQS
def okC(r:List Int):Prop:=r.length=3/\∀x∈r,0<=x/\x<1000
def Hv(st:Addr)(H:Hp)(n:Int)(v:V)(H':Hp):Prop:=∃cs:List (List Int),But st H H'/\jm H' st/\IsTh (fun _=>False) H' v (bR cs)/\1<=cs.length/\(cs.length:Int)<=n/\∀r∈cs,okC r
inductive SpClipsRI(vs:List V)(H:Hp)(Q:VK):Prop
 |mk:∀st n,(vs=[.ref st,.int n])->(jm H st)->(1<=n)->(n<=20)->(∀v H',Hv st H n v H'->Q v H')->SpClipsRI  vs H Q
def tH:Sp:=fun vs H Q _=>SpClipsRI  vs H Q
inductive SpSalesUI(vs:List V)(H:Hp)(Q:VK):Prop
 |mk:∀st ap xp ps n,(vs=[.ref st,.ref ap,.int n])->(jm H st)->(RowsAt H ap xp ps)->(ps.length<=10)->((∀r∈ps,okP r))->(0<=n)->(n<=12)->(∀a xs ss H',Dr st H H'->RowsAt H' a xs ss->(ss.length:Int)<=n->(∀s∈ss,smR s)->un ps ss=none->Q (.ref a) H')->SpSalesUI  vs H Q
def tK:Sp:=fun vs H Q _=>SpSalesUI  vs H Q
inductive SpBookRI(vs:List V)(H:Hp)(Q:VK):Prop
 |mk:∀(st:Addr) (y m k:Int),(vs=[.ref st,.int y,.int m,.int k])->(jm H st)->(1<=y)->(y<=20)->(1<=m)->(m<=10)->(0<=k)->(k<=12)->(∀a ac xc cs ap xp ps af xs ss H',Dr st H H'->H' a=some (.tup [.ref ac,.ref ap,.ref af])->RowsAt H' ac xc cs->1<=cs.length->(cs.length:Int)<=y->(∀r∈cs,okC r)->RowsAt H' ap xp ps->(ps.length:Int)<=m->(∀r∈ps,okP r)->RowsAt H' af xs ss->(ss.length:Int)<=k->(∀s∈ss,smR s)->un ps ss=none->Q (.ref a) H')->SpBookRI  vs H Q
def vX:Sp:=fun vs H Q _=>SpBookRI  vs H Q
theorem xW(F:Fun K "_law_clips" "_law_clips" (top 62) f fd)(T:Mg mg)(Tr:mg "range"=none)(c1:Cal P w K mg base 1 "_law_take" ["_law_state_here","_law_many"] mq):FnOk P w K mg base CX0 2 f fd ["_law_state_here","_law_most"] tH:=by
 refine F.ok sc21 (fun vs H Q E h=>?_) (fun ah A outer s H vs Q E hr h=>?_)
 .obtain⟨st,n,rfl,_⟩:=h;rfl
 .obtain⟨st,n,rfl,fz,n1,n2,q⟩:=h
  refine⟨_,aA (ph (i:=2) sc21.nd rfl (Or.inr rfl) (pX bU (cT (j8 (by repeat constructor))) (aJ c1 hr (az (pv 0) (az aB aj)))))
   (aA (pss 3 sc21.nd (cT aj))
   (aA (bV zB4 rfl (cz rfl Tr (az (aR bz aB (aJ c1 hr (az (pv 0) (az (pv 1) aj)))) aj)) (pgn 4 sc21.nd)
    (aD (cW (qX zBg zBf zBe fV (pv 3) (az (di cQ rfl T.tuple boot_tuple (az
     (cF ["_law_sort","_law_state_here","_law_wide"] [none,some 0,some 2] rfl (cz rfl Tr (az aB aj))
      (fun C fp Zt s₂ H₂=>⟨pgn 0 J5,cD,aJ c1 hr (az (pv 1) (az (pX (sy (K:=K) rfl) (cT (az (pv 2) (az aB (az (pv 2) (az aB aj))))) (aJ c1 hr (az (pv 1) (az aB aj)))) aj))⟩)
      (fun C=>cI (cI trivial)) ⟨rfl,rfl,rfl,rfl⟩) aj)) aj)))))
   (aD (aP (di cQ rfl T.tuple boot_tuple (az (pv 3) aj)))))),?_⟩
  obtain⟨a,b,es,h1,h2,h3⟩:=id fz;refine aG (aX ?_);refine⟨zL,fun p hp=>?_⟩
  have np:p≠st:=fun z=>by
   rw[z,es]at hp;cases hp
  have l9:∀o,upd H p o st=some (.lst [.int a,.int b]):=fun o=>by rw[aF np.symm];exact es
  refine⟨_,rfl,st,4,rfl,⟨a,b,l9 _,h1,h2,h3⟩,by decide,by decide,fun r a1 b1 r0 r1 g1 g2 g3=>?_⟩
  obtain⟨wd,hw,w1,w2⟩:∃wd:Int,atI (([4,14,45,1000]:List Int).map V.int) r=some (.int wd)/\1<=wd/\wd<=1000:=by
   have:r=0\/r=1\/r=2\/r=3:=Zz
   rcases this with rfl|rfl|rfl|rfl
   .exact⟨4,rfl,by decide,by decide⟩
   .exact⟨14,rfl,by decide,by decide⟩
   .exact⟨45,rfl,by decide,by decide⟩
   .exact⟨1000,rfl,by decide,by decide⟩
  refine⟨p,_,r,.int wd,rfl,rfl,SqL.of (by rw[aF np];exact ao),hw,?_⟩;refine aM ?_;dsimp only;refine aG (aX ?_);refine⟨zL,fun p3 kM=>?_⟩;refine aM ?_;dsimp only;refine aG ?_
  have fk:p3≠st:=fun z=>by
   rw[z,ao]at kM;cases kM
  refine⟨_,rfl,_,rfl,st,n,rfl,⟨a1,b1,by rw[aF fk.symm];exact ao,g1,g2,g3⟩,n1,Zz,fun r2 a2 b2 x0 x1 y1 y2 y3=>⟨_,_,rfl,rfl,1+r2,rfl,Zz,Zz,?_⟩⟩
  have oo:∀b' o',H b'=some o'->b'≠st->b'≠p/\b'≠p3:=fun b' o' e' ne=>by
   have z:b'≠p:=aH e' hp;refine⟨z,fun z2=>?_⟩;rw[<-z2,aF ne,aF z,e']at kM;cases kM
  refine bW (lo:=0) (n:=(1+r2).toNat) (fun i σ H'=>∃xs,∃ds:List (List Int),∃x4,σ=[some (.ref st),some (.int n),some (.int wd),some (.ref p3),x4]/\But st H H'/\jm H' st/\H' p3=some (.lst xs)/\IsThs (fun _=>False) H' xs (ds.map cX)/\(∀r∈ds,okC r)/\ds.length=i/\xs.length=i) ?_ ?_ ?_
  .refine⟨[],[],none,rfl,fun b' o' e' ne=>?_,⟨a2,b2,ao,y1,y2,y3⟩,?_,.nil,(fun r hr=>by cases hr),rfl,rfl⟩
   .obtain⟨k1,k2⟩:=oo b' o' e' ne;rw[aF ne,aF k2,aF ne,aF k1];exact e'
   .rw[aF fk];exact ao
  .rintro i σ H' hi ⟨xs,ds,x4,rfl,bt,sa,e3,ts,tm,hs,hl⟩;refine aM ?_;refine⟨_,rfl,.inl ⟨rfl,_,SqL.of e3⟩,3,rfl,by decide,by decide,?_⟩;refine⟨fun j m ys JW H2=>m=3-j/\j<=3/\∃is x0,ys=is.map V.int/\is.length=j/\(∀v∈is,0<=v/\v<1000)/\JW=[x0,some (.ref st),some (.int wd)]/\But st H' H2/\jm H2 st,⟨3,rfl,by decide,[],none,rfl,rfl,(fun _ h=>nomatch h),rfl,fun _ _ e _=>e,sa⟩,?_⟩;rintro j m ys JW H2 ⟨rfl,hj,is,x0,rfl,EV,hv,rfl,A9,JX⟩;refine⟨by rw[zA1,EV,sizeLine_eq];lia,?_⟩;by_cases ax:j<3
   .refine .inr ⟨ax,fun x H3 y=>?_⟩;obtain⟨e5,e6⟩:=y;subst e5;subst e6;refine aM ?_;obtain⟨a5,b5,e7,k1,k2,k3⟩:=JX;refine⟨_,rfl,_,rfl,_,rfl,zL,fun p4 EW=>?_⟩
    have JY:p4≠st:=fun z=>by
     rw[z,e7]at EW;cases EW
    refine⟨_,rfl,st,4,rfl,⟨a5,b5,by rw[aF JY.symm];exact e7,k1,k2,k3⟩,by decide,by decide,fun r3 a6 b6 z0 z1 l1 l2 l3=>?_⟩
    obtain⟨wn,MJ,u1,u2⟩:∃wn:Int,atI [V.int wd,V.int 1,V.int wd,V.int 3] r3=some (.int wn)/\1<=wn/\wn<=1000:=by
     have:r3=0\/r3=1\/r3=2\/r3=3:=Zz
     rcases this with rfl|rfl|rfl|rfl
     .exact⟨wd,rfl,w1,w2⟩
     .exact⟨1,rfl,by decide,by decide⟩
     .exact⟨wd,rfl,w1,w2⟩
     .exact⟨3,rfl,by decide,by decide⟩
    refine⟨p4,_,r3,.int wn,rfl,rfl,SqL.of (by rw[aF JY];exact ao),MJ,st,wn,rfl,⟨a6,b6,ao,l1,l2,l3⟩,u1,Zz,fun r4 a7 b7 v0 v1 m1 m2 m3=>?_⟩;refine⟨3-(j+1),Zz,rfl,ax,is++[r4],_,by rw[zA4];rfl,by rw[zA2,EV];rfl,fun v MK=>?_,rfl,fun b' o' e' ne=>?_,⟨a7,b7,ao,m1,m2,m3⟩⟩
    .rcases zA6.mp MK with z|z
     .exact hv v z
     .rw[List.mem_singleton.mp z];lia
    .have e8:=A9 b' o' e' ne;rw[aF ne,aF ne,aF (aH e8 EW)];exact e8
   .have e5:j=3:=Zz
    subst e5;have e9:=A9 _ _ e3 fk;refine .inl ⟨zA3 _,fun D hD=>⟨D,_,rfl,.inl ⟨SqL.of ao,fun l kH=>?_⟩⟩⟩;have sm:Same H2 (upd (upd H2 D (.lst (is.map V.int))) l (.tup (is.map V.int))):=(Same.upd hD).updR kH;refine⟨p3,xs,.ref l,rfl,rfl,sm _ _ e9,by rw[hl,sizeLine_eq];lia,?_⟩
    have yy:l≠p3:=fun z=>by
     rw[z,Same.upd hD _ _ e9]at kH;cases kH
    have tk:∀c l',(upd (upd H2 D (.lst (is.map V.int))) l (.tup (is.map V.int))) c=some (.tup l')->(upd (upd (upd H2 D (.lst (is.map V.int))) l (.tup (is.map V.int))) p3 (.lst (xs++[.ref l]))) c=some (.tup l'):=fun c l' e'=>by
     have:c≠p3:=fun z=>by
      rw[z,sm _ _ e9]at e';cases e'
     rw[aF this];exact e'
    refine⟨xs++[.ref l],ds++[is],_,rfl,fun b' o' e' ne=>?_,?_,ao,?_,?_,?_,by rw[zA2,hl];rfl⟩
    .have k4:=(oo b' o' e' ne).2;rw[aF k4];exact sm _ _ (A9 _ _ (bt b' o' e' ne) ne)
    .obtain⟨a5,b5,e7,k1,k2,k3⟩:=JX;exact⟨a5,b5,by rw[aF fk.symm];exact sm _ _ e7,k1,k2,k3⟩
    .rw[zA4];refine IsThs.append ?_ (.cons (.tup (by rw[aF yy];exact ao) (IsThs.ints is)) .nil)
     have ML:IsThs (fun _=>False) H2 xs (ds.map cX):=ts.keep (fun c l' e'=>A9 c _ e' (fun z=>by
      obtain⟨a5,b5,e7,_⟩:=sa;rw[z,e7]at e'
      cases e')) (fun _ _ z _=>z.elim) fun _ _ z _=>z.elim
     exact(ML.same sm).keep tk (fun _ _ z _=>z.elim) fun _ _ z _=>z.elim
    .intro r hr;rcases zA6.mp hr with z|z
     .exact tm r z
     .rw[List.mem_singleton.mp z];exact⟨EV,hv⟩
    .rw[zA2,hs];rfl
  .rintro σ H' ⟨xs,ds,x4,rfl,bt,sa,e3,ts,tm,hs,hl⟩;refine⟨_,rfl,p3,xs,rfl,.inl ⟨SqL.of e3,fun l kN=>q _ _ ⟨ds,fun b' o' e' ne=>?_,?_,.tup ao ?_,Zz,Zz,tm⟩⟩⟩
   .rw[aF (aH (bt b' o' e' ne) kN)];exact bt b' o' e' ne
   .obtain⟨a',b',e',j1,j2,j3⟩:=sa;exact⟨a',b',by rw[aF (aH e' kN)];exact e',j1,j2,j3⟩
   .exact(ts.same (Same.upd kN)).keep (fun _ _ e=>e) (fun _ _ z _=>z.elim) fun _ _ z _=>z.elim
theorem zV{u:Option Nat}(h:decide (unV u=.non)=true):u=none:=by
 have:=zB2 h
 cases u with
 |none=>rfl
 |some n=>cases this
theorem xX(F:Fun K "_law_sales" "_law_sales" (top 69) f fd)(T:Mg mg)(Tr:mg "range"=none)(c1:Cal P w K mg base 1 "_law_take" ["_law_state_here","_law_many"] mq)(c2:Cal P w K mg base 2 "_law_any_sale" ["_law_state_here","_law_promises_here"] Dy)(c3:Cal P w K mg base 2 "_law_sold" ["_law_promises_here","_law_sales_here"] zT):
  FnOk P w K mg base CX0 3 f fd ["_law_state_here","_law_promises_here","_law_most"] tK:=by
 refine F.ok sc39s (fun vs H Q E h=>?_) (fun ah A outer s H vs Q E hr h=>?_)
 .obtain⟨st,ap,xp,ps,n,rfl,_⟩:=h;rfl
 .obtain⟨st,ap,xp,ps,n,rfl,fz,rp,lp,okp,n0,n1,q⟩:=h
  refine⟨_,aA (pss 3 sc39s.nd (Br gA))
   (aA (bV zB4 rfl (cz rfl Tr (az (aR gK (aJ c1 hr (az (pv 0) (az (aR bz (pv 2) aB) aj))) (di wK rfl T.int boot_int (az (iu kY (aO bh rfl T.len PySem.boot_len (az (pv 1) aj)) aB (bD _)) aj))) aj)) (pgn 4 sc39s.nd)
    (aA (pss 5 sc39s.nd (aR vW (pv 3) (bO (az (aJ c2 hr (az (pv 0) (az (pv 1) aj))) aj))))
    (aD (cj (bG yr (pX bJ (aJ c3 hr (az (pv 1) (az (pv 5) aj))) aB) oY (bD _)) (aD (pss 3 sc39s.nd (pv 5))) aZ))))
   (aD (aP (pv 3)))),?_⟩
  have g0:Dr st H H:=⟨But.refl,fz⟩
  refine aG (aX ?_);refine⟨zL,fun e0 JZ=>?_⟩;have g1:=g0.new (o:=.tup []) JZ
  have r1:RowsAt (upd H e0 (.tup [])) e0 [] []:=⟨ao,rfl,fun i r e=>by simp at e⟩
  have ua:=rp.same (Same.upd (o:=.tup []) JZ);generalize upd H e0 (.tup [])=H1 at g1 r1 ua⊢;refine aM ?_;dsimp only;refine aG ?_;refine⟨_,rfl,_,rfl,_,_,rfl,rfl,st,n+1,rfl,g1.sa,Zz,Zz,fun r a1 b1 k0 kn k1 k2 k3=>?_⟩;have g2:=g1.take k1 k2 k3;have EX:=(Dr.take ⟨But.refl,g1.sa⟩ k1 k2 k3:Dr st H1 _).rows g1.sa ua;have r2:=(Dr.take ⟨But.refl,g1.sa⟩ k1 k2 k3:Dr st H1 _).rows g1.sa r1;generalize upd H1 st (.lst [.int a1,.int b1])=H2 at g2 EX r2⊢;refine⟨_,rfl,ap,xp,rfl,.inr (SqT.of EX.e),_,_,rfl,rfl,.inr ⟨_,rfl,_,_,rfl,rfl,.inl ⟨Zz,Zz⟩,_,rfl,?_,?_,?_⟩⟩
  .split<;>lia
  .split<;>lia
  refine bW (lo:=0) (fun i σ Hc=>∃a xs ss x4 x5,σ=[some (.ref st),some (.ref ap),some (.int n),some (.ref a),x4,x5]/\Dr st H Hc/\RowsAt Hc ap xp ps/\RowsAt Hc a xs ss/\ss.length<=i/\(∀s∈ss,smR s)/\un ps ss=none) ?_ ?_ ?_
  .exact⟨e0,[],[],none,none,rfl,g2,EX,r2,zA3 _,(fun _ h=>nomatch h),rfl⟩
  .rintro i σ Hc hi ⟨a,xs,ss,x4,x5,rfl,g,EZ,Bi,ls,cx,sC⟩;have hi:i<12:=by split at hi<;>lia
   refine aM (aG ?_);refine aX ?_;refine⟨_,rfl,_,rfl,_,rfl,st,ap,xp,ps,rfl,g.sa,EZ,lp,okp,fun t s' H3 d3 et sm=>⟨zL,fun t1 mn=>?_⟩⟩;have MM:=d3.rows g.sa EZ;have E1:=d3.rows g.sa Bi;have m4:=Same.upd (o:=.tup [V.ref t]) mn;refine⟨a,t1,xs,_,rfl,rfl,m4 _ _ E1.e,ao,by simp,by rw[Bi.l,sizeLine_eq];show _+1<=_;lia,fun c H5 s5 ec=>?_⟩;have Ka:=oM ((E1.same m4).same s5) (s5 _ _ (m4 _ _ et)) ec;have E2:=(MM.same m4).same s5;have g5:=((g.trans d3).same m4).same s5
   have Kb:∀s∈ss++[s'],smR s:=fun s hs=>by
    rcases zA6.mp hs with z|z
    .exact cx s z
    .rw[List.mem_singleton.mp z];exact sm
   have l5:(ss++[s']).length<=i+1:=by rw[zA2];show ss.length+1<=_;lia
   refine aM ?_;dsimp only;refine⟨_,rfl,_,rfl,ap,xp,ps,c,_,ss++[s'],rfl,E2,lp,okp,Ka,Zz,fun s hs=>(Kb s hs).1,fun tt fo H6 s6 MN=>?_⟩;refine⟨tt,_,1,unV (un ps (ss++[s'])),rfl,rfl,SqT.of MN,rfl,rfl,_,rfl,Bj (fun hb=>?_) fun _=>?_⟩
   .exact⟨_,rfl,c,_,ss++[s'],_,_,rfl,g5.same s6,E2.same s6,Ka.same s6,l5,Kb,zV hb⟩
   .exact⟨a,xs,ss,_,_,rfl,g5.same s6,E2.same s6,((E1.same m4).same s5).same s6,Zz,cx,sC⟩
  .rintro σ Hc ⟨a,xs,ss,x4,x5,rfl,g,EZ,Bi,ls,cx,sC⟩;refine⟨_,rfl,q a xs ss Hc g Bi ?_ cx sC⟩;split at ls<;>lia
theorem xY(F:Fun K "_law_book" "_law_book" (top 70) f fd)(T:Mg mg)(c1:Cal P w K mg base 2 "_law_clips" ["_law_state_here","_law_most"] tH)(c2:Cal P w K mg base 2 "_law_promises" ["_law_state_here","_law_most","_law_years"] tG)(c3:Cal P w K mg base 3 "_law_sales" ["_law_state_here","_law_promises_here","_law_most"] tK):
  FnOk P w K mg base CX0 4 f fd ["_law_state_here","_law_years","_law_most","_law_sales_here"] vX:=by
 refine F.ok sc40s (fun vs H Q E h=>?_) (fun ah A outer s H vs Q E hr h=>?_)
 .obtain⟨st,y,m,k,rfl,_⟩:=h;rfl
 .obtain⟨st,y,m,k,rfl,fz,y1,y2,m1,m2,k1,k2,q⟩:=h
  refine⟨_,aA (pss 4 sc40s.nd (aJ c1 hr (az (pv 0) (az (pv 1) aj))))
   (aA (pss 5 sc40s.nd (aJ c2 hr (az (pv 0) (az (pv 2) (az (aO bh rfl T.len PySem.boot_len (az (pv 4) aj)) aj)))))
   (aD (aP (bO (az (pv 4) (az (pv 5) (az (aJ c3 hr (az (pv 0) (az (pv 5) (az (pv 3) aj)))) aj))))))),?_⟩
  refine aG (aX ?_);refine⟨_,rfl,_,rfl,st,y,rfl,fz,y1,y2,fun vc H1 mc=>?_⟩;obtain⟨cs,MO,E3,MP,lc1,Kc,okc⟩:=mc
  have d1:Dr st H H1:=⟨MO,E3⟩
  obtain⟨ac,xc,rfl,rc⟩:=jZ MP;refine aM ?_;dsimp only;refine aG (aX ?_);have lc:=rc.l;refine⟨_,rfl,_,rfl,_,rfl,ac,xc,rfl,.inr (SqT.of rc.e),st,m,_,rfl,E3,m1,m2,Zz,Zz,fun vp H2 mp=>?_⟩;obtain⟨ps,MQ,Bn,A2,QO,okp⟩:=mp
  have d2:Dr st H1 H2:=⟨MQ,Bn⟩
  obtain⟨ap,xp,rfl,rp⟩:=jZ A2;have MR:=d2.rows E3 rc;refine aM ?_;dsimp only;refine⟨_,rfl,_,rfl,_,rfl,_,rfl,_,rfl,st,ap,xp,ps,k,rfl,Bn,rp,Zz,okp,k1,k2,fun af xs ss H3 d3 rs ls cx sC=>⟨zL,fun a ha=>?_⟩⟩;have E4:=(d1.trans d2).trans d3;have ma:=Same.upd (o:=.tup [V.ref ac,V.ref ap,V.ref af]) ha;exact q a ac xc cs ap xp ps af xs ss _ (E4.new ha) ao ((d3.rows Bn MR).same ma) lc1 Kc okc ((d3.rows Bn rp).same ma) Zz okp (rs.same ma) Zz cx sC
inductive SpRefBI(vs:List V)(H:Hp)(Q:VK):Prop
 |mk:∀S v d,(vs=[v])->(IsTh S H v d)->(sz d<=4000)->(jQ d=true)->(∀H',Same H H'->Q .non H')->SpRefBI  vs H Q
def uL:Sp:=fun vs H Q _=>SpRefBI  vs H Q
inductive SpRefYI(vs:List V)(H:Hp)(Q:VK):Prop
 |mk:∀ac xc cs y,(vs=[.ref ac,.int y])->(RowsAt H ac xc cs)->(0<=y)->(y<cs.length)->(∀H',Same H H'->Q .non H')->SpRefYI  vs H Q
def zW:Sp:=fun vs H Q _=>SpRefYI  vs H Q
theorem Hw:FnScope ["thing","least","most"] ["thing","least","most"] (aK (top 10)):=fQS
theorem nq(F:Fun K "is_whole_from" "is_whole_from" (top 10) f fd)(c1:Cal P w K mg base 1 "is_whole" ["thing"] (spT cY)):FnOk P w K mg base CX0 2 f fd ["thing","least","most"] (jA jW):=by
 refine F.ok Hw (fun vs H Q E h=>?_) (fun ah A outer s H vs Q E hr h=>?_)
 .obtain⟨S,v,d,n,m,rfl,_⟩:=h;rfl
 .obtain⟨S,v,d,n,m,rfl,th,hz,q⟩:=h;refine⟨_,aD (aP (cu (aJ c1 hr (aQ (pv 0) aj)) (dU (cR bH bH (pv 1) (pv 0) (pv 2))))),?_⟩;refine⟨_,rfl,S,v,d,rfl,th,hz,fun H1 s1=>⟨_,rfl,?_⟩⟩;have fin:=q H1 s1;unfold jW at fin
  cases e:cY d with
  |false=>
   rw[e]at fin;exact bA fin
  |true=>
   rw[e]at fin;obtain⟨i,rfl,rfl⟩:=jC th e;exact bQ (bK (d7 rfl) (d7 rfl) (d7 rfl) _ fin)
theorem Hx:FnScope ["thing"] ["thing"] (aK (top 33)):=fQS
theorem Cu(F:Fun K "refuse_no_book" "refuse_no_book" (top 33) f fd)(c1:Cal P w K mg base 6 "is_book" ["thing"] (spT jQ)):FnOk P w K mg base CX0 7 f fd ["thing"] uL:=by
 refine F.ok Hx (fun vs H Q E h=>?_) (fun ah A outer s H vs Q E hr h=>?_)
 .obtain⟨S,v,d,rfl,_⟩:=h;rfl
 .obtain⟨S,v,d,rfl,th,hz,hb,q⟩:=h;refine⟨_,aD (cj (bN (d8 (aJ c1 hr (aQ (pv 0) aj)))) (aD fQ) aZ),?_⟩;refine⟨_,rfl,S,v,d,rfl,th,hz,fun H1 s1=>⟨_,rfl,?_⟩⟩;rw[hb];exact bA (q _ s1)
theorem Hy:FnScope ["clips","year"] ["clips","year"] (aK (top 51)):=fQS
theorem Cv(F:Fun K "refuse_no_year_of" "refuse_no_year_of" (top 51) f fd)(T:Mg mg)(c1:Cal P w K mg base 2 "is_whole_from" ["thing","least","most"] (jA jW)):FnOk P w K mg base CX0 3 f fd ["clips","year"] zW:=by
 refine F.ok Hy (fun vs H Q E h=>?_) (fun ah A outer s H vs Q E hr h=>?_)
 .obtain⟨ac,xc,cs,y,rfl,_⟩:=h;rfl
 .obtain⟨ac,xc,cs,y,rfl,rc,y0,y1,q⟩:=h;refine⟨_,aD (cj (bN (d8 (aJ c1 hr (az (pv 1) (az aB (az (aR fO (aO bh rfl T.len PySem.boot_len (az (pv 0) aj)) aB) aj)))))) (aD fQ) aZ),?_⟩;refine⟨_,rfl,_,rfl,ac,_,rfl,.inr (SqT.of rc.e),_,_,rfl,rfl,fun _=>False,.int y,.int y,0,_,rfl,.int _,(by show 1<=4000;decide),fun H1 s1=>⟨_,rfl,?_⟩⟩
  have e:jW (.int y) 0 ((xc.length:Int)-1)=true:=by
   show(true&&(decide (0<=y)&&decide (y<=(xc.length:Int)-1)))=true;rw[zAt y0,zAt (by rw[rc.l];lia)];rfl
  rw[e];exact bA (q _ s1)
structure BookAt(H:Hp)(bk ac:Addr)(xc:List V)(cs:List (List Int))(ap:Addr)(xp:List V)(ps:List (List Int))(af:Addr)(xs:List V)(ss:List (List Int)):Prop where
 e:H bk=some (.tup [.ref ac,.ref ap,.ref af])
 rc:RowsAt H ac xc cs
 okc:∀r∈cs,r.length=3/\∀x∈r,0<=x
 lc:cs.length<=20
 rp:RowsAt H ap xp ps
 lp:ps.length<=10
 okp:∀r∈ps,okP r
 rs:RowsAt H af xs ss
 ls:ss.length<=12
 h5:∀s∈ss,s.length=5
 un:un ps ss=none
theorem BookAt.same{H H':Hp}{bk ac:Addr}{xc:List V}{cs:List (List Int)}{ap:Addr}{xp:List V}{ps:List (List Int)}{af:Addr}{xs:List V}{ss:List (List Int)}(b:BookAt H bk ac xc cs ap xp ps af xs ss)(s:Same H H'):BookAt H' bk ac xc cs ap xp ps af xs ss:=
 ⟨s _ _ b.e,b.rc.same s,b.okc,b.lc,b.rp.same s,b.lp,b.okp,b.rs.same s,b.ls,b.h5,b.un⟩
def jX(R:List (List Int)->List (List Int)->List (List Int)->Int->VK->Hp->Prop):Sp:=fun vs H Q _=>∃S bk y d ac xc cs ap xp ps af xs ss,vs=[.ref bk,.int y]/\IsTh S H (.ref bk) d/\sz d<=4000/\jQ d=true/\BookAt H bk ac xc cs ap xp ps af xs ss/\0<=y/\y<cs.length/\R cs ps ss y Q H
def Cw:List (List Int)->List (List Int)->List (List Int)->Int->VK->Hp->Prop:=fun _ _ _ _ Q H=>∀H',Same H H'->Q .non H'
def zZ:List (List Int)->List (List Int)->List (List Int)->Int->VK->Hp->Prop:=fun cs ps ss y Q H=>∀g xg H',Same H H'->H g=none->g≠sysModules->H' g=some (.lst xg)->Els H' xg (srt (dC cs ps ss y.toNat).g)->Q (.ref g) H'
theorem Hz:FnScope ["book","year"] ["book","year"] (aK (top 52)):=fQS
theorem Aa(F:Fun K "refuse_no_year" "refuse_no_year" (top 52) f fd)(c1:Cal P w K mg base 7 "refuse_no_book" ["thing"] uL)(c2:Cal P w K mg base 3 "refuse_no_year_of" ["clips","year"] zW):FnOk P w K mg base CX0 8 f fd ["book","year"] (jX Cw):=by
 refine F.ok Hz (fun vs H Q E h=>?_) (fun ah A outer s H vs Q E hr h=>?_)
 .obtain⟨S,bk,y,d,ac,xc,cs,ap,xp,ps,af,xs,ss,rfl,_⟩:=h;rfl
 .obtain⟨S,bk,y,d,ac,xc,cs,ap,xp,ps,af,xs,ss,rfl,th,hz,hb,B,y0,y1,q⟩:=h;refine⟨_,aA (cW (aJ c1 hr (az (pv 0) aj))) (aD (cW (aJ c2 hr (az (pX bJ (pv 0) aB) (az (pv 1) aj))))),?_⟩;refine aG ?_;refine⟨_,rfl,S,_,d,rfl,th,hz,hb,fun H1 s1=>?_⟩;dsimp only;have B1:=B.same s1;exact⟨_,rfl,bk,_,0,.ref ac,rfl,rfl,SqT.of B1.e,rfl,_,rfl,ac,xc,cs,y,rfl,B1.rc,y0,y1,fun H2 s2=>q _ (s1.trans s2)⟩
theorem scYD2:FnScope ["book","year","gifts","owed","left"] ["book","year"] (aK (top 53)):=fQS
theorem Ab(F:Fun K "gifts_in" "gifts_in" (top 53) f fd)(c1:Cal P w K mg base 8 "refuse_no_year" ["book","year"] (jX Cw))(c2:Cal P w K mg base 10 "years_given" ["book","year"] kh):FnOk P w K mg base CX0 11 f fd ["book","year"] (jX zZ):=by
 refine F.ok scYD2 (fun vs H Q E h=>?_) (fun ah A outer s H vs Q E hr h=>?_)
 .obtain⟨S,bk,y,d,ac,xc,cs,ap,xp,ps,af,xs,ss,rfl,_⟩:=h;rfl
 .obtain⟨S,bk,y,d,ac,xc,cs,ap,xp,ps,af,xs,ss,rfl,th,hz,hb,B,y0,y1,q⟩:=h
  refine⟨_,aA (cW (aJ c1 hr (az (pv 0) (az (pv 1) aj))))
   (aA (cC (pX bU (aJ c2 hr (az (pv 0) (az (pv 1) aj))) (pv 1)) (bI rfl (aq (pgn 2 scYD2.nd) (aq (pgn 3 scYD2.nd) (aq (pgn 4 scYD2.nd) aW)))))
   (aD (aP (pv 2)))),?_⟩
  refine aG ?_;refine⟨_,rfl,_,rfl,S,bk,y,d,ac,xc,cs,ap,xp,ps,af,xs,ss,rfl,th,hz,hb,B,y0,y1,fun H1 s1=>?_⟩;dsimp only;have B1:=B.same s1;refine aG ?_;refine⟨_,rfl,_,rfl,bk,y,ac,xc,cs,ap,xp,ps,af,xs,ss,rfl,B1.e,B1.rc,B1.okc,B1.lc,y0,y1,B1.rp,B1.lp,B1.okp,B1.rs,B1.ls,B1.h5,B1.un,fun l ts H2 s2 nl el lt hy=>?_⟩;have hl:y.toNat<ts.length:=Zz
  obtain⟨g,k,tl,xg,xk,e1,n1,n2,d1,d2,e2,e3,e4,e5,e6⟩:=hy y.toNat ts[y.toNat] (zA0 hl)
  have cq:atI (ts.map V.ref) y=some (.ref ts[y.toNat]):=by
   have:(ts.map V.ref)[y.toNat]?=some (.ref ts[y.toNat]):=by rw[zAb,zA0 hl];rfl
   have:=eF this;rw[show((y.toNat:Nat):Int)=y by lia]at this;exact this
  refine⟨_,rfl,l,_,y,.ref ts[y.toNat],rfl,rfl,SqL.of el,cq,ts[y.toNat],_,rfl,SqT.of e1,rfl,_,_,rfl,_,_,rfl,_,_,rfl,rfl,?_⟩;dsimp only;exact⟨_,rfl,q g xg H2 (s1.trans s2) (s1.free n1) e6.2.1 e2 e3⟩
theorem oN:∀(is:List Int),szs (is.map PyData.int)=is.length
 |[]=>rfl
 |i::is=>by
  show 1+szs (is.map PyData.int)=is.length+1;rw[oN is];lia
theorem jr{k:Nat}:∀{rs:List (List Int)},(∀r∈rs,r.length=k)->szs (rs.map cX)=(k+1)*rs.length
 |[],_=>rfl
 |r::rs,h=>by
  show(1+szs (r.map PyData.int))+szs (rs.map cX)=(k+1)*(rs.length+1);rw[oN,h r (.head _),jr fun q hq=>h q (.tail _ hq),Nat.mul_add];lia
theorem oO(rs:List (List Int)):rowsOf (bR rs)=rs:=by
 show(rs.map cX).map (fun x=>(items x).map intOf)=rs;rw[zAr];refine(List.map_congr_left fun r _=>?_).trans (List.map_id rs);show((r.map PyData.int)).map intOf=r;rw[zAr];exact List.map_id r
theorem jK{r:List Int}{n:Nat}(h:r.length=n):bw (cX r) n=true:=by
 show(bu (.tuple (r.map PyData.int)) n n&&(r.map PyData.int).all cY)=true;rw[zAc];refine⟨?_,List.all_eq_true.mpr fun x hx=>?_⟩
 .show(true&&(decide ((n:Int)<=(r.map PyData.int).length)&&decide (((r.map PyData.int).length:Int)<=n)))=true;rw[zA1,h,zAt (Int.le_refl _)];rfl
 .obtain⟨i,_,rfl⟩:=zA5.mp hx;rfl
theorem uM{ds:List PyData}{a b:Int}(h1:a<=ds.length)(h2:(ds.length:Int)<=b):bu (.tuple ds) a b=true:=by
 show(true&&(decide (a<=(ds.length:Int))&&decide ((ds.length:Int)<=b)))=true;rw[zAt h1,zAt h2];rfl
theorem Cy{cs ps ss:List (List Int)}(lc1:1<=cs.length)(lc:cs.length<=20)(okc:∀r∈cs,okC r)(lp:ps.length<=10)(okp:∀r∈ps,okP r)(ls:ss.length<=12)(h5:∀s∈ss,s.length=5)(hu:un ps ss=none):jQ (.tuple [bR cs,bR ps,bR ss])=true:=by
 have b0:gW (bR cs)=true:=by
  show(bu (.tuple (cs.map cX)) 1 20&&(cs.map cX).all ou)=true;rw[uM (by rw[zA1];lia) (by rw[zA1];lia),Bool.true_and];refine List.all_eq_true.mpr fun x hx=>?_;obtain⟨r,hr,rfl⟩:=zA5.mp hx;obtain⟨h3,hb⟩:=okc r hr;show(bw (cX r) 3&&(r.map PyData.int).all fun x=>decide (0<=intOf x)&&decide (intOf x<=999))=true;rw[show bw (cX r) 3=true from jK h3,Bool.true_and];refine List.all_eq_true.mpr fun x hx=>?_;obtain⟨i,hi,rfl⟩:=zA5.mp hx;have:=hb i hi;show(decide (0<=i)&&decide (i<=999))=true;rw[zAt Zz,zAt Zz];rfl
 have b1:dX (bR ps)=true:=by
  show(bu (.tuple (ps.map cX)) 0 10&&(ps.map cX).all jj)=true;rw[uM Zz (by rw[zA1];lia),Bool.true_and];refine List.all_eq_true.mpr fun x hx=>?_;obtain⟨r,hr,rfl⟩:=zA5.mp hx;obtain⟨h6,h1,h2,h3,h4,MT⟩:=okp r hr;show(bw (cX r) 6&&qp (at_ (cX r) 0) (at_ (cX r) 1) (at_ (cX r) 2) (at_ (cX r) 3) (at_ (cX r) 4) (at_ (cX r) 5))=true;rw[show bw (cX r) 6=true from jK h6,Bool.true_and]
  have ea:∀i,i<6->at_ (cX r) i=fl r i:=fun i hi=>by
   unfold at_ fl;show intOf ((r.map PyData.int).getD i .none)=r.getD i 0;rw[zA7,zA7,zAb,zA0 Zz];rfl
  rw[ea 0 Zx,ea 1 Zx,ea 2 Zx,ea 3 Zx,ea 4 Zx,ea 5 Zx];unfold qp;simp only[Bool.and_eq_true,Zq];exact⟨h1,h2,⟨h3.1,h3.2.1,h3.2.2⟩,h4,MT⟩
 have b2:dY (bR ss)=true:=by
  show(bu (.tuple (ss.map cX)) 0 12&&(ss.map cX).all fun x=>bw x 5)=true;rw[uM Zz (by rw[zA1];lia),Bool.true_and];refine List.all_eq_true.mpr fun x hx=>?_;obtain⟨r,hr,rfl⟩:=zA5.mp hx;exact jK (h5 r hr)
 show(bu (.tuple [bR cs,bR ps,bR ss]) 3 3&&(gW (bR cs)&&(dX (bR ps)&&(dY (bR ss)&&(un (rowsOf (bR ps)) (rowsOf (bR ss))).isNone))))=true;rw[b0,b1,b2,oO,oO,hu];rfl
def tL:List (List Int)->List (List Int)->List (List Int)->Int->VK->Hp->Prop:=fun cs ps ss y Q H=>∀k xk H',Same H H'->H k=none->k≠sysModules->H' k=some (.lst xk)->Els H' xk (cH cs ps ss (y.toNat+1))->Q (.ref k) H'
def HB(R:List (List Int)->List (List Int)->List (List Int)->Int->VK->Hp->Prop):Sp:=fun vs H Q _=>∃bk y ac xc cs ap xp ps af xs ss,vs=[.ref bk,.int y]/\BookAt H bk ac xc cs ap xp ps af xs ss/\0<=y/\y<cs.length/\R cs ps ss y Q H
theorem scYF1:FnScope ["book","year","gifts","owed","left"] ["book","year"] (aK (top 56)):=fQS
theorem Ac(F:Fun K "owed_behind" "owed_behind" (top 56) f fd)(c2:Cal P w K mg base 10 "years_given" ["book","year"] kh):FnOk P w K mg base CX0 11 f fd ["book","year"] (HB tL):=by
 refine F.ok scYF1 (fun vs H Q E h=>?_) (fun ah A outer s H vs Q E hr h=>?_)
 .obtain⟨bk,y,ac,xc,cs,ap,xp,ps,af,xs,ss,rfl,_⟩:=h;rfl
 .obtain⟨bk,y,ac,xc,cs,ap,xp,ps,af,xs,ss,rfl,B,y0,y1,q⟩:=h
  refine⟨_,aA (cC (pX bU (aJ c2 hr (az (pv 0) (az (pv 1) aj))) (pv 1)) (bI rfl (aq (pgn 2 scYF1.nd) (aq (pgn 3 scYF1.nd) (aq (pgn 4 scYF1.nd) aW)))))
   (aD (aP (pv 3))),?_⟩
  refine aG ?_;refine⟨_,rfl,_,rfl,bk,y,ac,xc,cs,ap,xp,ps,af,xs,ss,rfl,B.e,B.rc,B.okc,B.lc,y0,y1,B.rp,B.lp,B.okp,B.rs,B.ls,B.h5,B.un,fun l ts H2 s2 nl el lt hy=>?_⟩;have hl:y.toNat<ts.length:=Zz
  obtain⟨g,k,tl,xg,xk,e1,n1,n2,d1,d2,e2,e3,e4,e5,e6,e7⟩:=hy y.toNat ts[y.toNat] (zA0 hl)
  have cq:atI (ts.map V.ref) y=some (.ref ts[y.toNat]):=by
   have:(ts.map V.ref)[y.toNat]?=some (.ref ts[y.toNat]):=by rw[zAb,zA0 hl];rfl
   have:=eF this;rw[show((y.toNat:Nat):Int)=y by lia]at this;exact this
  refine⟨_,rfl,l,_,y,.ref ts[y.toNat],rfl,rfl,SqL.of el,cq,ts[y.toNat],_,rfl,SqT.of e1,rfl,_,_,rfl,_,_,rfl,_,_,rfl,rfl,?_⟩;dsimp only;exact⟨_,rfl,q k xk H2 s2 n2 e7.2 e4 e5⟩
theorem HF:FnScope ["book","year"] ["book","year"] (aK (top 57)):=fQS
theorem Cz(F:Fun K "owed_by" "owed_by" (top 57) f fd)(c1:Cal P w K mg base 8 "refuse_no_year" ["book","year"] (jX Cw))(c2:Cal P w K mg base 11 "owed_behind" ["book","year"] (HB tL)):FnOk P w K mg base CX0 12 f fd ["book","year"] (jX tL):=by
 refine F.ok HF (fun vs H Q E h=>?_) (fun ah A outer s H vs Q E hr h=>?_)
 .obtain⟨S,bk,y,d,ac,xc,cs,ap,xp,ps,af,xs,ss,rfl,_⟩:=h;rfl
 .obtain⟨S,bk,y,d,ac,xc,cs,ap,xp,ps,af,xs,ss,rfl,th,hz,hb,B,y0,y1,q⟩:=h;refine⟨_,aA (cW (aJ c1 hr (az (pv 0) (az (pv 1) aj)))) (aD (aP (aJ c2 hr (az (pv 0) (az (pv 1) aj))))),?_⟩;refine aG ?_;refine⟨_,rfl,_,rfl,S,bk,y,d,ac,xc,cs,ap,xp,ps,af,xs,ss,rfl,th,hz,hb,B,y0,y1,fun H1 s1=>?_⟩;dsimp only;exact⟨_,rfl,_,rfl,bk,y,ac,xc,cs,ap,xp,ps,af,xs,ss,rfl,B.same s1,y0,y1,fun k xk H2 s2 n ns e1 e2=>q k xk H2 (s1.trans s2) (s1.free n) ns e1 e2⟩
def bd(r:List Int):Prop:=r.length=4/\∀x∈r,0<=x/\x<=99
theorem qI{a b c d:Int}(ha:0<=a/\a<=99)(hb:0<=b/\b<=99)(hc:0<=c/\c<=99)(hd:0<=d/\d<=99):bd [a,b,c,d]:=by
 refine⟨rfl,fun x hx=>?_⟩;simp only[List.mem_cons,List.not_mem_nil,or_false]at hx;rcases hx with rfl|rfl|rfl|rfl<;>assumption
theorem Ad{r:List Int}(h:bd r):(0<=fl r 0/\fl r 0<=99)/\(0<=fl r 1/\fl r 1<=99)/\(0<=fl r 2/\fl r 2<=99)/\(0<=fl r 3/\fl r 3<=99):=by
 obtain⟨h4,h⟩:=h;rw[cN h4]at h;exact⟨h _ Zy,h _ Zy,h _ Zy,h _ Zy⟩
theorem Dz:∀{w:Int} {S:List (List Int)},∀p∈S.zip (cO w S),p.2<=fl p.1 3:=fun{w S}=>by
 induction S generalizing w with
 |nil=>intro p hp;cases hp
 |cons r S ih=>
  intro p hp;unfold cO at hp;rw[List.zip_cons_cons]at hp;rcases zAo.mp hp with z|z
  .rw[z];show(if w<fl r 3 then w else fl r 3)<=fl r 3;split<;>lia
  .exact ih p z
theorem Fy{c:List Int}{ps ss ow:List (List Int)}{y:Int}(y0:0<=y)(y1:y<=99)(hc:∀x∈c,0<=x)(hu:un ps ss=none)(h5:∀s∈ss,s.length=5)(okp:∀r∈ps,okP r)(hl:ps.length<=10)(ho:∀r∈ow,okO ps r)(hb:∀r∈ow,bd r):∀n,(∀r∈(yTo c ps ss ow y n).g,bd r)/\∀r∈(yTo c ps ss ow y n).k,bd r
 |0=>⟨fun r hr=>(by cases hr),fun r hr=>(by cases hr)⟩
 |n+1=>by
  obtain⟨a,b⟩:=Fy (c:=c) (y:=y) y0 y1 hc hu h5 okp hl ho hb n;have nn:=xP (y:=y) hc hu h5 okp hl ho n
  have hw:0<=c.getD n 0+(yTo c ps ss ow y n).d:=by
   have:=iH hc n;lia
  have gy:=eQ (sort:=n) (year:=y) hu h5 okp;have sL:=cU (ss:=ss) (sort:=n) (year:=y) hl;generalize Kd:c.getD n 0+(yTo c ps ss ow y n).d=w at hw
  have oq:∀p∈(aC ps ss n y++au ps ow n).zip (shr w (aC ps ss n y) (au ps ow n)),bd p.1/\0<=p.2/\p.2<=fl p.1 3:=fun p hp=>by
   obtain⟨m1,m2⟩:=List.of_mem_zip (show(p.1,p.2)∈_ from hp);have s0:=(uI hw gy sL (fun r hr=>by have:=(fj (sort:=n) ho r hr).2.2.2;lia)).1 p.2 m2;refine⟨?_,s0,?_⟩
   .rcases zA6.mp m1 with z|z
    .obtain⟨a1,a2,a3,a4,a5,a6⟩:=gD z;obtain⟨b1,b2,b3⟩:=gy _ z;rw[cN b1];exact qI Zz Zz Zz Zz
    .exact hb _ (zAq.mp z).1
   .unfold shr at hp;rw[List.zip_append shares_len.symm]at hp;rcases zA6.mp hp with z|z
    .exact Dw hw gy sL p z
    .exact Dz p z
  refine⟨fun r hr=>?_,fun r hr=>?_⟩
  .rcases zA6.mp (show r∈(yTo c ps ss ow y n).g++cP _ from hr)with z|z
   .exact a r z
   .rw[Kd]at z;obtain⟨p,hp,rfl⟩:=zA5.mp z;obtain⟨b1,b2,b3⟩:=oq p (zAq.mp hp).1;obtain⟨g0,g1,g2,g3⟩:=Ad b1;exact qI g0 g1 g2 Zz
  .rcases zA6.mp (show r∈(yTo c ps ss ow y n).k++bB _ from hr)with z|z
   .exact b r z
   .rw[Kd]at z;obtain⟨p,hp,rfl⟩:=zA5.mp z;obtain⟨b1,b2,b3⟩:=oq p (zAq.mp hp).1;obtain⟨g0,g1,g2,g3⟩:=Ad b1;exact qI g0 g1 g2 Zz
theorem tM{cs:List (List Int)}(h:∀r∈cs,r.length=3/\∀x∈r,0<=x)(n:Nat):∀x∈cs.getD n [],0<=x:=fun x hx=>by
 rw[zA7]at hx
 cases e:cs[n]? with
 |none=>rw[e]at hx;cases hx
 |some r=>rw[e]at hx;exact(h r (zB9 e)).2 x hx
theorem DG{cs ps ss:List (List Int)}(gI:∀r∈cs,r.length=3/\∀x∈r,0<=x)(hl:ps.length<=10)(hu:un ps ss=none)(h5:∀s∈ss,s.length=5)(okp:∀r∈ps,okP r):∀n,n<=20->∀r∈cH cs ps ss n,bd r
 |0,_,r,hr=>by cases hr
 |n+1,hn,r,hr=>by
  have ih:=DG gI hl hu h5 okp n Zz;obtain⟨mh,_⟩:=gh (cs:=cs) hl hu h5 okp n;exact(Fy (y:=n) Zz Zz (tM gI n) hu h5 okp hl mh ih 3).2 r ((dZ _).mem_iff.mp hr)
theorem oR:∀{w:Int} {rs:List (List Int)},0<=w->(∀r∈rs,0<=fl r 3)->(cO w rs).sum=min w (aN rs)
 |w,[],hw,_=>by
  show(0:Int)=min w 0;lia
 |w,r::rs,hw,h=>by
  have h0:=h r (.head _);have ih:=oR (w:=w-(if w<fl r 3 then w else fl r 3)) (rs:=rs) (by split<;>lia) fun q hq=>h q (.tail _ hq)
  have hn:0<=aN rs:=by
   unfold aN wts;refine(gC fun x hx=>?_).1;obtain⟨q,hq,rfl⟩:=zA5.mp hx;exact h q (.tail _ hq)
  have es:aN (r::rs)=fl r 3+aN rs:=rfl;unfold cO;rw[List.sum_cons,ih,es];split<;>lia
theorem uN{w:Int}{cl:List (List Int)}(hw:0<=w)(hc:∀r∈cl,r.length=4/\1<=fl r 3/\fl r 3<=99)(hz:cl.length<=80):(bj w cl).sum=min w (aN cl):=by
 unfold bj;by_cases h:(wts cl).sum<=w
 .rw[zAx h];show(wts cl).sum=min w (wts cl).sum;lia
 .rw[zAv h]
  have ok:K22P.OkW (wts cl):=by
   refine⟨?_,by unfold wts;rw[zA1];exact hz,fun x hx=>?_⟩
   .cases gu:cl with
    |nil=>
     rw[gu]at h;exact absurd hw h
    |cons r rV=>
     unfold wts;rw[zA1,zAe];lia
   .obtain⟨r,hr,rfl⟩:=zA5.mp hx;exact(hc r hr).2
  rw[K22P.res_sum ok];show w=min w (wts cl).sum;lia
theorem eU(a b:List (List Int)):aN (a++b)=aN a+aN b:=by
 unfold aN wts;rw[zA4,List.sum_append]
theorem il{rs:List (List Int)}(h:∀r∈rs,0<=fl r 3):0<=aN rs:=by
 unfold aN wts;refine(gC fun x hx=>?_).1;obtain⟨q,hq,rfl⟩:=zA5.mp hx;exact h q hq
theorem CG{w:Int}{cl ow:List (List Int)}(hw:0<=w)(hc:∀r∈cl,r.length=4/\1<=fl r 3/\fl r 3<=99)(hz:cl.length<=80)(ho:∀r∈ow,0<=fl r 3):(shr w cl ow).sum=min w (aN cl+aN ow):=by
 unfold shr;have h1:=uN hw hc hz;have h2:=oR (w:=w-(bj w cl).sum) (rs:=ow) Zz ho
 have h3:=il (rs:=cl) fun r hr=>by have:=(hc r hr).2.1;lia
 have h4:=il ho;rw[List.sum_append,h2,h1];lia
theorem tO:∀{rs:List (List Int)} {sh:List Int},sh.length=rs.length->(∀p∈rs.zip sh,p.2<=fl p.1 3)->aN (bB (rs.zip sh))=aN rs-sh.sum
 |[],[],_,_=>rfl
 |[],_::_,h,_=>by simp at h
 |_::_,[],h,_=>by simp at h
 |r::rs,x::sh,h,hn=>by
  have ih:=tO (rs:=rs) (sh:=sh) (by simpa using h) fun y hy=>hn y (by rw[List.zip_cons_cons];exact .tail _ hy);have hx:x<=fl r 3:=hn (r,x) (by rw[List.zip_cons_cons];exact .head _);have es:aN (r::rs)=fl r 3+aN rs:=rfl;rw[List.zip_cons_cons,List.sum_cons,es];unfold bB at ih⊢;by_cases hp:x<fl r 3
  .rw[zB7 (p:=fun(p:List Int×Int)=>decide (p.2<fl p.1 3)) (zAt hp),zAk];have e2:∀L,aN ([fl r 0,fl r 1,fl r 2,fl r 3-x]::L)=(fl r 3-x)+aN L:=fun L=>rfl;rw[e2,ih];lia
  .rw[zB8 (p:=fun(p:List Int×Int)=>decide (p.2<fl p.1 3)) (by rw[Zq];exact hp),ih];lia
section
variable{c:List Int}{ps ss ow:List (List Int)}{y:Int}
def xD(c:List Int)(ps ss ow:List (List Int))(y:Int)(s:Nat):Int:=aN (aC ps ss s y)+aN (au ps ow s)-c.getD s 0
theorem Ae{w:Int}(hw:0<=w)(hu:un ps ss=none)(h5:∀s∈ss,s.length=5)(okp:∀r∈ps,okP r)(hl:ps.length<=10)(n:Nat):∀p∈(aC ps ss n y++au ps ow n).zip (shr w (aC ps ss n y) (au ps ow n)),p.2<=fl p.1 3:=fun p hp=>by
 unfold shr at hp;rw[List.zip_append shares_len.symm]at hp;rcases zA6.mp hp with z|z
 .exact Dw hw (eQ hu h5 okp) (cU hl) p z
 .exact Dz p z
theorem Fz(hc:∀x∈c,0<=x)(hu:un ps ss=none)(h5:∀s∈ss,s.length=5)(okp:∀r∈ps,okP r)(hl:ps.length<=10)(ho:∀r∈ow,okO ps r)(n:Nat):
  aN (yTo c ps ss ow y (n+1)).k=aN (yTo c ps ss ow y n).k+max 0 (xD c ps ss ow y n-(yTo c ps ss ow y n).d)/\(yTo c ps ss ow y (n+1)).d=max 0 ((yTo c ps ss ow y n).d-xD c ps ss ow y n):=by
 have nn:=xP (y:=y) hc hu h5 okp hl ho n
 have hw:0<=c.getD n 0+(yTo c ps ss ow y n).d:=by
  have:=iH hc n;lia
 have gy:=eQ (sort:=n) (year:=y) hu h5 okp;have sL:=cU (ss:=ss) (sort:=n) (year:=y) hl
 have Bz:∀r∈au ps ow n,0<=fl r 3:=fun r hr=>by have:=(fj (sort:=n) ho r hr).2.2.2;lia
 have e1:=CG hw gy sL Bz;have e2:=(vP hw gy sL Bz).1;have e3:=tO (rs:=aC ps ss n y++au ps ow n) (sh:=shr (c.getD n 0+(yTo c ps ss ow y n).d) (aC ps ss n y) (au ps ow n)) (by unfold shr;rw[zA2,zA2,shares_len,dH]) (Ae hw hu h5 okp hl n);rw[eU]at e3;constructor
 .show aN ((yTo c ps ss ow y n).k++bB _)=_;rw[eU,e3,e1];unfold xD;lia
 .show c.getD n 0+(yTo c ps ss ow y n).d-aN (cP _)=_;rw[e2,e1];unfold xD;lia
theorem vY{s:Nat}:∀n,aN (au ps (yTo c ps ss ow y n).k s)=if s<n then aN (yTo c ps ss ow y (s+1)).k-aN (yTo c ps ss ow y s).k else 0
 |0=>rfl
 |n+1=>by
  have ih:=vY (s:=s) n;have ek:∀m,(yTo c ps ss ow y (m+1)).k=(yTo c ps ss ow y m).k++bB ((aC ps ss m y++au ps ow m).zip (shr (c.getD m 0+(yTo c ps ss ow y m).d) (aC ps ss m y) (au ps ow m))):=fun m=>rfl
  have fm:∀r∈bB ((aC ps ss n y++au ps ow n).zip (shr (c.getD n 0+(yTo c ps ss ow y n).d) (aC ps ss n y) (au ps ow n))),fl (ps.getD (fl r 1).toNat []) 1=n:=fun r hr=>by
   obtain⟨p,hp,rfl⟩:=zA5.mp hr;obtain⟨m1,_⟩:=List.of_mem_zip (show(p.1,p.2)∈_ from(zAq.mp hp).1);show fl (ps.getD (fl p.1 1).toNat []) 1=n;rcases zA6.mp m1 with z|z
   .exact(gD z).2.1
   .exact zB2 (zAq.mp z).2
  have e1:au ps (yTo c ps ss ow y (n+1)).k s=au ps (yTo c ps ss ow y n).k s++au ps (bB ((aC ps ss n y++au ps ow n).zip (shr (c.getD n 0+(yTo c ps ss ow y n).d) (aC ps ss n y) (au ps ow n)))) s:=by
   rw[ek n];exact List.filter_append ..
  rw[e1,eU,ih];by_cases hs:s=n
  .subst hs;rw[zAv (Nat.lt_irrefl _),zAx (Nat.lt_succ_self _),ek s,eU];have e2:au ps (bB ((aC ps ss s y++au ps ow s).zip (shr (c.getD s 0+(yTo c ps ss ow y s).d) (aC ps ss s y) (au ps ow s)))) s=bB ((aC ps ss s y++au ps ow s).zip (shr (c.getD s 0+(yTo c ps ss ow y s).d) (aC ps ss s y) (au ps ow s))):=List.filter_eq_self.mpr fun r hr=>zAt (fm r hr);rw[e2];lia
  .have e2:au ps (bB ((aC ps ss n y++au ps ow n).zip (shr (c.getD n 0+(yTo c ps ss ow y n).d) (aC ps ss n y) (au ps ow n)))) s=[]:=List.filter_eq_nil_iff.mpr fun r hr z=>by
    have:=fm r hr;have z:=zB2 z;rw[this]at z;lia
   rw[e2];have e0:aN []=0:=rfl;rw[e0,Int.add_zero];by_cases h:s<n
   .rw[zAx h,zAx Zz]
   .rw[zAv h,zAv Zz]
end
theorem FJ{a b:List Int}(h:a.Perm b):a.sum=b.sum:=by
 induction h with
 |nil=>rfl
 |cons x _ ih=>rw[List.sum_cons,List.sum_cons,ih]
 |swap x y l=>
  rw[List.sum_cons,List.sum_cons,List.sum_cons,List.sum_cons];lia
 |trans _ _ h1 h2=>exact h1.trans h2
theorem tQ{a b:List (List Int)}(h:a.Perm b):aN a=aN b:=by
 unfold aN wts;exact FJ (h.map _)
structure BkO(cs ps ss:List (List Int)):Prop where
 okc:∀r∈cs,r.length=3/\∀x∈r,0<=x
 hl:ps.length<=10
 hu:un ps ss=none
 h5:∀s∈ss,s.length=5
 okp:∀r∈ps,okP r
def hO(r:List Int):Prop:=0<=fl r 2/\fl r 2<8
theorem y_h{c:List Int}{ps ss ow:List (List Int)}{y:Int}(ho:∀r∈ow,hO r):∀n,(∀r∈(yTo c ps ss ow y n).g,hO r)/\∀r∈(yTo c ps ss ow y n).k,hO r
 |0=>⟨fun r hr=>(by cases hr),fun r hr=>(by cases hr)⟩
 |n+1=>by
  obtain⟨a,b⟩:=y_h (c:=c) (ps:=ps) (ss:=ss) (y:=y) ho n
  have oq:∀w,∀p∈(aC ps ss n y++au ps ow n).zip (shr w (aC ps ss n y) (au ps ow n)),hO p.1:=fun w p hp=>by
   obtain⟨m1,m2⟩:=List.of_mem_zip (show(p.1,p.2)∈_ from hp);rcases zA6.mp m1 with z|z
   .obtain⟨a1,a2,a3,a4,a5,a6⟩:=gD z;exact⟨a5,a6⟩
   .exact ho _ (zAq.mp z).1
  refine⟨fun r hr=>?_,fun r hr=>?_⟩
  .rcases zA6.mp (show r∈(yTo c ps ss ow y n).g++cP _ from hr)with z|z
   .exact a r z
   .obtain⟨p,hp,rfl⟩:=zA5.mp z;exact oq _ p (zAq.mp hp).1
  .rcases zA6.mp (show r∈(yTo c ps ss ow y n).k++bB _ from hr)with z|z
   .exact b r z
   .obtain⟨p,hp,rfl⟩:=zA5.mp z;exact oq _ p (zAq.mp hp).1
theorem HJ{cs ps ss:List (List Int)}:∀n,∀r∈cH cs ps ss n,hO r
 |0,r,hr=>by cases hr
 |n+1,r,hr=>(y_h (HJ n) 3).2 r ((dZ _).mem_iff.mp hr)
theorem g_h{cs ps ss:List (List Int)}(n:Nat):∀r∈srt (dC cs ps ss n).g,hO r:=fun r hr=>(y_h (HJ n) 3).1 r ((dZ _).mem_iff.mp hr)
def clY(ps ss:List (List Int))(y:Nat):Nat->List (List Int)
 |0=>[]
 |n+1=>clY ps ss y n++aC ps ss (n:Int) (y:Int)
def oU(ps ss:List (List Int)):Nat->List (List Int)
 |0=>[]
 |m+1=>oU ps ss m++clY ps ss m 3
def cB(cs ps ss:List (List Int)):Nat->List (List Int)
 |0=>[]
 |m+1=>cB cs ps ss m++srt (dC cs ps ss m).g
theorem DK{cs ps ss:List (List Int)}(gI:∀r∈cs,r.length=3/\∀x∈r,0<=x)(hl:ps.length<=10)(hu:un ps ss=none)(h5:∀s∈ss,s.length=5)(okp:∀r∈ps,okP r){n:Nat}(hn:n<20):(∀r∈srt (dC cs ps ss n).g,bd r)/\(srt (dC cs ps ss n).g).length<=16000:=by
 obtain⟨mh,Mv⟩:=gh (cs:=cs) hl hu h5 okp n;have hb:=DG gI hl hu h5 okp n Zz;refine⟨fun r hr=>(Fy (y:=n) Zz Zz (tM gI n) hu h5 okp hl mh hb 3).1 r ((dZ _).mem_iff.mp hr),?_⟩;rw[(dZ _).length_eq];have:=(zH (c:=cs.getD n []) (ss:=ss) (ow:=cH cs ps ss n) (y:=n) hl 3).1;unfold dC;lia
theorem DN{cs ps ss:List (List Int)}(gI:∀r∈cs,r.length=3/\∀x∈r,0<=x)(hl:ps.length<=10)(hu:un ps ss=none)(h5:∀s∈ss,s.length=5)(okp:∀r∈ps,okP r):∀m,m<=20->(∀r∈cB cs ps ss m,r.length=4/\hO r)/\(cB cs ps ss m).length<=16000*m
 |0,_=>⟨fun r hr=>(by cases hr),zA3 _⟩
 |m+1,h=>by
  obtain⟨a,b⟩:=DN gI hl hu h5 okp m Zz;obtain⟨c,d⟩:=DK (n:=m) gI hl hu h5 okp Zz;refine⟨fun r hr=>?_,?_⟩
  .rcases zA6.mp (show r∈cB cs ps ss m++srt (dC cs ps ss m).g from hr)with z|z
   .exact a r z
   .exact⟨(c r z).1,g_h m r z⟩
  .show(cB cs ps ss m++srt (dC cs ps ss m).g).length<=_;rw[zA2];lia
section
variable{c:List Int}{ps ss QP ow QQ:List (List Int)}{y:Int}
theorem vZ{s:Nat}:∀n,aN (au ps (yTo c ps ss ow y n).g s)=if s<n then c.getD s 0+(yTo c ps ss ow y s).d-(yTo c ps ss ow y (s+1)).d else 0
 |0=>rfl
 |n+1=>by
  have ih:=vZ (s:=s) n;have ek:∀m,(yTo c ps ss ow y (m+1)).g=(yTo c ps ss ow y m).g++cP ((aC ps ss m y++au ps ow m).zip (shr (c.getD m 0+(yTo c ps ss ow y m).d) (aC ps ss m y) (au ps ow m))):=fun m=>rfl;have ed:∀m,(yTo c ps ss ow y (m+1)).d=c.getD m 0+(yTo c ps ss ow y m).d-aN (cP ((aC ps ss m y++au ps ow m).zip (shr (c.getD m 0+(yTo c ps ss ow y m).d) (aC ps ss m y) (au ps ow m)))):=fun m=>rfl
  have fm:∀r∈cP ((aC ps ss n y++au ps ow n).zip (shr (c.getD n 0+(yTo c ps ss ow y n).d) (aC ps ss n y) (au ps ow n))),fl (ps.getD (fl r 1).toNat []) 1=n:=fun r hr=>by
   obtain⟨p,hp,rfl⟩:=zA5.mp hr;obtain⟨m1,_⟩:=List.of_mem_zip (show(p.1,p.2)∈_ from(zAq.mp hp).1);show fl (ps.getD (fl p.1 1).toNat []) 1=n;rcases zA6.mp m1 with z|z
   .exact(gD z).2.1
   .exact zB2 (zAq.mp z).2
  rw[ek n,show au ps ((yTo c ps ss ow y n).g++cP _) s=au ps (yTo c ps ss ow y n).g s++au ps (cP _) s from List.filter_append ..,eU,ih];by_cases hs:s=n
  .subst hs;rw[zAv (Nat.lt_irrefl _),zAx (Nat.lt_succ_self _),ed s];have e2:au ps (cP ((aC ps ss s y++au ps ow s).zip (shr (c.getD s 0+(yTo c ps ss ow y s).d) (aC ps ss s y) (au ps ow s)))) s=cP ((aC ps ss s y++au ps ow s).zip (shr (c.getD s 0+(yTo c ps ss ow y s).d) (aC ps ss s y) (au ps ow s))):=List.filter_eq_self.mpr fun r hr=>zAt (fm r hr);rw[e2];lia
  .have e2:au ps (cP ((aC ps ss n y++au ps ow n).zip (shr (c.getD n 0+(yTo c ps ss ow y n).d) (aC ps ss n y) (au ps ow n)))) s=[]:=List.filter_eq_nil_iff.mpr fun r hr z=>by
    have:=fm r hr;have z:=zB2 z;rw[this]at z;lia
   rw[e2];have e0:aN []=0:=rfl;rw[e0,Int.add_zero];by_cases h:s<n
   .rw[zAx h,zAx Zz]
   .rw[zAv h,zAv Zz]
end
def sF(f:List Int->Bool)(rs:List (List Int)):Int:=aN (rs.filter fun r=>f (keyOf r))
section
variable{f:List Int->Bool}
theorem cZ(a b:List (List Int)):sF f (a++b)=sF f a+sF f b:=by
 unfold sF;rw[List.filter_append,eU]
theorem DP{a b:List (List Int)}(h:a.Perm b):sF f a=sF f b:=tQ (h.filter _)
theorem gF(r:List Int)(rs:List (List Int)):sF f (r::rs)=(if f (keyOf r)=true then fl r 3 else 0)+sF f rs:=by
 unfold sF;by_cases h:f (keyOf r)=true
 .rw[zB7 (p:=fun r=>f (keyOf r)) h,zAx h];rfl
 .rw[zB8 (p:=fun r=>f (keyOf r)) h,zAv h,Int.zero_add]
theorem DQ{rs:List (List Int)}(h:∀r∈rs,0<=fl r 3):0<=sF f rs:=il fun r hr=>h r (zAq.mp hr).1
theorem Af:∀{rs:List (List Int)} {sh:List Int},sh.length=rs.length->(∀x∈sh,0<=x)->(∀p∈rs.zip sh,p.2<=fl p.1 3)->sF f (cP (rs.zip sh))+sF f (bB (rs.zip sh))=sF f rs
 |[],[],_,_,_=>rfl
 |[],_::_,h,_,_=>by simp at h
 |_::_,[],h,_,_=>by simp at h
 |r::rs,x::sh,h,h0,hn=>by
  have ih:=Af (rs:=rs) (sh:=sh) (by simpa using h) (fun y hy=>h0 y (.tail _ hy)) fun y hy=>hn y (by rw[List.zip_cons_cons];exact .tail _ hy);have x0:0<=x:=h0 x (.head _);have hx:x<=fl r 3:=hn (r,x) (by rw[List.zip_cons_cons];exact .head _)
  have g:sF f (cP ((r,x)::rs.zip sh))=(if f (keyOf r)=true then x else 0)+sF f (cP (rs.zip sh)):=by
   unfold cP;by_cases hp:0<x
   .rw[zB7 (p:=fun(p:List Int×Int)=>decide (0<p.2)) (zAt hp),zAk,gF];rfl
   .have:x=0:=Zz
    subst this;rw[List.filter_cons_of_neg (p:=fun(p:List Int×Int)=>decide (0<p.2)) (by rw[Zq];exact hp)];simp
  have k:sF f (bB ((r,x)::rs.zip sh))=(if f (keyOf r)=true then fl r 3-x else 0)+sF f (bB (rs.zip sh)):=by
   unfold bB;by_cases hp:x<fl r 3
   .rw[zB7 (p:=fun(p:List Int×Int)=>decide (p.2<fl p.1 3)) (zAt hp),zAk,gF];rfl
   .have e:fl r 3-x=0:=Zz
    rw[List.filter_cons_of_neg (p:=fun(p:List Int×Int)=>decide (p.2<fl p.1 3)) (by rw[Zq];exact hp),e];simp
  rw[List.zip_cons_cons,g,k,gF,<-ih];by_cases h:f (keyOf r)=true
  .rw[zAx h,zAx h,zAx h];lia
  .rw[zAv h,zAv h,zAv h];lia
def ahF(f:List Int->Bool)(ps ow:List (List Int)):Nat->Int
 |0=>0
 |n+1=>ahF f ps ow n+sF f (au ps ow n)
theorem qJ{ps ow:List (List Int)}{r:List Int}{s:Int}:sF f (au ps (r::ow) s)=(if fl (ps.getD (fl r 1).toNat []) 1=s then(if f (keyOf r)=true then fl r 3 else 0)else 0)+sF f (au ps ow s):=by
 unfold au;by_cases hp:fl (ps.getD (fl r 1).toNat []) 1=s
 .rw[zB7 (p:=fun r=>decide (fl (ps.getD (fl r 1).toNat []) 1=s)) (zAt hp),zAx hp,gF]
 .rw[zB8 (p:=fun r=>decide (fl (ps.getD (fl r 1).toNat []) 1=s)) (by rw[Zq];exact hp),zAv hp,Int.zero_add]
theorem Ag{ps:List (List Int)}:∀{ow:List (List Int)},(∀r∈ow,0<=fl (ps.getD (fl r 1).toNat []) 1/\fl (ps.getD (fl r 1).toNat []) 1<3)->ahF f ps ow 3=sF f ow
 |[],_=>rfl
 |r::ow,h=>by
  have ih:=Ag (ow:=ow) fun q hq=>h q (.tail _ hq);obtain⟨h0,h1⟩:=h r (.head _);have e:∀ow,ahF f ps ow 3=0+sF f (au ps ow 0)+sF f (au ps ow 1)+sF f (au ps ow 2):=fun _=>rfl;rw[e]at ih;rw[e,qJ,qJ,qJ,gF,<-ih];generalize(if f (keyOf r)=true then fl r 3 else 0)=v;generalize fl (ps.getD (fl r 1).toNat []) 1=t at h0 h1⊢;have:t=0\/t=1\/t=2:=Zz
  rcases this with rfl|rfl|rfl
  .rw[zAx rfl,zAv Zx,zAv Zx];lia
  .rw[zAv Zx,zAx rfl,zAv Zx];lia
  .rw[zAv Zx,zAv Zx,zAx rfl];lia
section
variable{c:List Int}{ps ss ow:List (List Int)}{y:Nat}
theorem Ah(hc:∀x∈c,0<=x)(hu:un ps ss=none)(h5:∀s∈ss,s.length=5)(okp:∀r∈ps,okP r)(hl:ps.length<=10)(ho:∀r∈ow,okO ps r):∀n,sF f (yTo c ps ss ow y n).g+sF f (yTo c ps ss ow y n).k=sF f (clY ps ss y n)+ahF f ps ow n
 |0=>rfl
 |n+1=>by
  have ih:=Ah hc hu h5 okp hl ho n;have nn:=xP (y:=(y:Int)) hc hu h5 okp hl ho n
  have hw:0<=c.getD n 0+(yTo c ps ss ow y n).d:=by
   have:=iH hc n;lia
  have gy:=eQ (sort:=n) (year:=(y:Int)) hu h5 okp;have sL:=cU (ss:=ss) (sort:=n) (year:=(y:Int)) hl
  have Bz:∀r∈au ps ow n,0<=fl r 3:=fun r hr=>by have:=(fj (sort:=n) ho r hr).2.2.2;lia
  have e:=Af (f:=f) (rs:=aC ps ss n y++au ps ow n) (sh:=shr (c.getD n 0+(yTo c ps ss ow y n).d) (aC ps ss n y) (au ps ow n)) (by unfold shr;rw[zA2,zA2,shares_len,dH]) (uI hw gy sL Bz).1 (Ae hw hu h5 okp hl n);rw[cZ (aC ps ss n y)]at e;show sF f ((yTo c ps ss ow y n).g++cP _)+sF f ((yTo c ps ss ow y n).k++bB _)=sF f (clY ps ss y n++aC ps ss n y)+(ahF f ps ow n+sF f (au ps ow n));rw[cZ,cZ,cZ];lia
end
theorem FN{cs ps ss:List (List Int)}(B:BkO cs ps ss)(m:Nat):∀r∈cH cs ps ss m,0<=fl (ps.getD (fl r 1).toNat []) 1/\fl (ps.getD (fl r 1).toNat []) 1<3:=fun r hr=>by
 obtain⟨_,h0,h1,_⟩:=(gh (cs:=cs) B.hl B.hu B.h5 B.okp m).1 r hr;obtain⟨p,_,ep,_,_,hp,_⟩:=dN (n:=fl r 1) B.okp h0 h1;rw[ep];exact hp
theorem all_cons{cs ps ss:List (List Int)}(B:BkO cs ps ss):∀m,sF f (oU ps ss m)=sF f (cB cs ps ss m)+sF f (cH cs ps ss m)
 |0=>rfl
 |m+1=>by
  have ih:=all_cons B m;have e:=Ah (f:=f) (ss:=ss) (y:=m) (tM B.okc m) B.hu B.h5 B.okp B.hl (gh (cs:=cs) B.hl B.hu B.h5 B.okp m).1 3;rw[Ag (FN B m)]at e;show sF f (oU ps ss m++clY ps ss m 3)=sF f (cB cs ps ss m++srt (dC cs ps ss m).g)+sF f (srt (yTo (cs.getD m []) ps ss (cH cs ps ss m) m 3).k);rw[cZ,cZ,DP (dZ _),DP (dZ _)];have e2:sF f (dC cs ps ss m).g=sF f (yTo (cs.getD m []) ps ss (cH cs ps ss m) m 3).g:=rfl;lia
end
def isK(k k':List Int):Bool:=decide (k'=k)
theorem oV:∀(rr:List (List Int)) (sh:List Int),((bB (rr.zip sh)).map keyOf).Sublist (rr.map keyOf)
 |[],sh=>by simp[bB]
 |r::rr,[]=>by simp[bB]
 |r::rr,x::sh=>by
  have ih:=oV rr sh;rw[List.zip_cons_cons,zAk];unfold bB at ih⊢;by_cases hp:x<fl r 3
  .rw[zB7 (p:=fun(p:List Int×Int)=>decide (p.2<fl p.1 3)) (zAt hp),zAk,zAk];exact ih.cons₂ _
  .rw[zB8 (p:=fun(p:List Int×Int)=>decide (p.2<fl p.1 3)) (by rw[Zq];exact hp)];exact ih.cons _
theorem uO{a b:List Int}(h:keyOf a=keyOf b):fl a 0=fl b 0/\fl a 1=fl b 1/\fl a 2=fl b 2:=by
 have h:[fl a 0,fl a 1,fl a 2]=[fl b 0,fl b 1,fl b 2]:=h;simp at h;exact h
section
variable{c:List Int}{ps ss ow:List (List Int)}{y:Int}
theorem HN(nd:(ow.map keyOf).Nodup)(hy:∀r∈ow,fl r 0<y):∀n,(((yTo c ps ss ow y n).k).map keyOf).Nodup/\∀r∈(yTo c ps ss ow y n).k,ik ps r<n
 |0=>⟨List.nodup_nil,fun r hr=>(by cases hr)⟩
 |n+1=>by
  obtain⟨a,b⟩:=HN nd hy n
  have rr:((aC ps ss n y++au ps ow n).map keyOf).Nodup:=by
   rw[zA4,List.nodup_append];refine⟨Dv _,((List.filter_sublist (l:=ow)).map keyOf).nodup nd,fun x hx z hz e=>?_⟩;obtain⟨p,hp,rfl⟩:=zA5.mp hx;obtain⟨q,hq,rfl⟩:=zA5.mp hz;have h1:=(gD hp).1;have h2:=hy q (zAq.mp hq).1;have:=(uO e).1;lia
  have so:∀w,∀r∈bB ((aC ps ss n y++au ps ow n).zip (shr w (aC ps ss n y) (au ps ow n))),ik ps r=n:=fun w=>xQ fun p hp=>by
   obtain⟨m1,_⟩:=List.of_mem_zip (show(p.1,p.2)∈_ from hp);rcases zA6.mp m1 with z|z
   .exact(gD z).2.1
   .exact zB2 (zAq.mp z).2
  constructor
  .show(((yTo c ps ss ow y n).k++bB _).map keyOf).Nodup;rw[zA4,List.nodup_append];refine⟨a,(oV _ _).nodup rr,fun x hx z hz e=>?_⟩;obtain⟨p,hp,rfl⟩:=zA5.mp hx;obtain⟨q,hq,rfl⟩:=zA5.mp hz;have h1:=b p hp;have h2:=so _ q hq
   have e1:ik ps p=ik ps q:=by
    unfold ik;rw[(uO e).2.1]
   lia
  .intro r hr;rcases zA6.mp (show r∈(yTo c ps ss ow y n).k++bB _ from hr)with z|z
   .have:=b r z;lia
   .have:=so _ r z;lia
theorem Ai{p:List Int->Prop}(gy:∀s:Nat,∀r∈aC ps ss s y,p (keyOf r))(ho:∀r∈ow,p (keyOf r)):∀n,(∀r∈(yTo c ps ss ow y n).g,p (keyOf r)/\1<=fl r 3)/\∀r∈(yTo c ps ss ow y n).k,p (keyOf r)
 |0=>⟨fun r hr=>(by cases hr),fun r hr=>(by cases hr)⟩
 |n+1=>by
  obtain⟨a,b⟩:=Ai gy ho n
  have oq:∀w,∀q∈(aC ps ss n y++au ps ow n).zip (shr w (aC ps ss n y) (au ps ow n)),p (keyOf q.1):=fun w q hq=>by
   obtain⟨m1,m2⟩:=List.of_mem_zip (show(q.1,q.2)∈_ from hq);rcases zA6.mp m1 with z|z
   .exact gy n _ z
   .exact ho _ (zAq.mp z).1
  refine⟨fun r hr=>?_,fun r hr=>?_⟩
  .rcases zA6.mp (show r∈(yTo c ps ss ow y n).g++cP _ from hr)with z|z
   .exact a r z
   .obtain⟨q,hq,rfl⟩:=zA5.mp z;have h:=zAq.mp hq;have:0<q.2:=zB2 h.2;exact⟨oq _ q h.1,this⟩
  .rcases zA6.mp (show r∈(yTo c ps ss ow y n).k++bB _ from hr)with z|z
   .exact b r z
   .obtain⟨q,hq,rfl⟩:=zA5.mp z;exact oq _ q (zAq.mp hq).1
end
def okK(ps:List (List Int))(m:Int)(k:List Int):Prop:=0<=fl k 0/\fl k 0<=m/\dom ps (fl k 1) (fl k 0)/\0<=fl k 2/\fl k 2<8
theorem okK.le{ps:List (List Int)}{m m':Int}{k:List Int}(h:okK ps m k)(l:m<=m'):okK ps m' k:=⟨h.1,by have:=h.2.1;lia,h.2.2⟩
theorem Aj{ps ss:List (List Int)}{s y:Int}:∀{k:Nat} {r:List Int},r∈fB ps ss s y k->∃j:Nat,fl r 1=j/\fl (ps.getD j []) 2<=y/\y<=fl (ps.getD j []) 3
 |0,r,hr=>by cases hr
 |k+1,r,hr=>by
  rcases zA6.mp (show r∈fB ps ss s y k++fZ ps ss s y k from hr)with z|z
  .exact Aj z
  .unfold fZ at z;split at z
   .obtain⟨q,hq,rfl⟩:=zA5.mp z;unfold c7 at hq;obtain⟨h,hh,rfl⟩:=zA5.mp hq;have hp:0<(aY (ps.getD k []) ss k y).getD h 0:=zB2 (zAq.mp hh).2;refine⟨k,rfl,?_⟩;unfold aY at hp;split at hp
    .assumption
    .rw[zA7,List.getElem?_replicate]at hp;split at hp<;>simp at hp
   .cases z
theorem Ak{ps ss:List (List Int)}{s y:Int}(y0:0<=y){r:List Int}(hr:r∈aC ps ss s y):okK ps y (keyOf r):=by
 obtain⟨a1,a2,a3,a4,a5,a6⟩:=gD hr;obtain⟨j,e,d1,d2⟩:=Aj hr;have e0:fl (keyOf r) 0=fl r 0:=rfl;have e1:fl (keyOf r) 1=fl r 1:=rfl;have e2:fl (keyOf r) 2=fl r 2:=rfl;refine⟨Zz,Zz,⟨Zz,Zz,?_,?_⟩,Zz,Zz⟩
 .rw[e0,e1,a1,e,zAi];exact d1
 .rw[e0,e1,a1,e,zAi];exact d2
theorem Al{cs ps ss:List (List Int)}:∀m,(∀r∈cH cs ps ss m,okK ps (m-1) (keyOf r))/\((cH cs ps ss m).map keyOf).Nodup
 |0=>⟨fun r hr=>(by cases hr),List.nodup_nil⟩
 |m+1=>by
  obtain⟨a,b⟩:=Al (cs:=cs) (ps:=ps) (ss:=ss) m;constructor
  .intro r hr;have hr:=(dZ _).mem_iff.mp (show r∈srt (yTo (cs.getD m []) ps ss (cH cs ps ss m) m 3).k from hr);have:=(Ai (c:=cs.getD m []) (p:=okK ps m) (fun s r hr=>Ak Zz hr) (fun r hr=>(a r hr).le Zz) 3).2 r hr;exact this.le Zz
  .show((srt (yTo (cs.getD m []) ps ss (cH cs ps ss m) m 3).k).map keyOf).Nodup;refine(((dZ _).map keyOf).nodup_iff).mpr (HN b (fun r hr=>?_) 3).1;have h:=(a r hr).2.1;have e0:fl (keyOf r) 0=fl r 0:=rfl;lia
theorem Am{cs ps ss:List (List Int)}(m:Nat):∀r∈srt (dC cs ps ss m).g,okK ps m (keyOf r)/\1<=fl r 3:=fun r hr=>
 (Ai (c:=cs.getD m []) (p:=okK ps m) (fun s r hr=>Ak Zz hr) (fun r hr=>((Al m).1 r hr).le Zz) 3).1 r ((dZ _).mem_iff.mp hr)
section
variable{d n h:Nat}
variable{ps ss:List (List Int)}
end
section
variable{c:List Int}{ps ss ow:List (List Int)}{y:Int}
theorem y_l:∀n,(yTo c ps ss ow y n).l=(List.range n).map fun s=>(yTo c ps ss ow y (s+1)).d
 |0=>rfl
 |n+1=>by
  show(yTo c ps ss ow y n).l++[(yTo c ps ss ow y (n+1)).d]=_;rw[y_l n,List.range_succ,zA4];rfl
theorem uP{s:Nat}(hs:s<3):(yTo c ps ss ow y 3).l.getD s 0=(yTo c ps ss ow y (s+1)).d:=by
 rw[y_l 3]
 match s,hs with
 |0,_=>rfl
 |1,_=>rfl
 |2,_=>rfl
theorem Jc(hc:∀x∈c,0<=x)(hu:un ps ss=none)(h5:∀s∈ss,s.length=5)(okp:∀r∈ps,okP r)(hl:ps.length<=10)(ho:∀r∈ow,okO ps r){s:Nat}(hs:s<3):¬(0<aN (au ps (yTo c ps ss ow y 3).k s)/\0<(yTo c ps ss ow y 3).l.getD s 0):=by
 rw[vY 3,zAx hs,uP hs];obtain⟨e1,e2⟩:=Fz (y:=y) hc hu h5 okp hl ho s;rw[e1,e2];lia
end
structure GvAt(H:Hp)(d:Addr)(R:List (List Int))(kvs:List (List Key×V)):Prop where
 e:H d=some (.dT kvs)
 v:∀k:List Int,(bZ kvs (k.map Sum.inl)).getD (.int 0)=.int (sF (isK k) R)
 k:∀q∈kvs.map (·.1),∃r∈R,q=(keyOf r).map Sum.inl
 l:kvs.length<=R.length
theorem CJ{a b:List Int}(h:a.map (Sum.inl:Int->Key)=b.map Sum.inl):a=b:=List.map_inj_right (fun _ _ e=>Sum.inl.inj e) |>.mp h
theorem oW{kvs:List (List Key×V)}{k:List Key}{v:V}:(∀q∈(putK kvs k v).map (·.1),q∈kvs.map (·.1)\/q=k)/\(putK kvs k v).length<=kvs.length+1:=by
 unfold putK;split
 .constructor
  .intro q hq;rw[zAr]at hq;obtain⟨p,hp,rfl⟩:=zA5.mp hq;refine .inl (zA5.mpr ⟨p,hp,?_⟩);show p.1=(if p.1=k then(p.1,v)else p).1;split<;>rfl
  .rw[zA1];lia
 .constructor
  .intro q hq;rw[zA4]at hq;rcases zA6.mp hq with z|z
   .exact .inl z
   .exact .inr (List.mem_singleton.mp z)
  .rw[zA2];exact zA3 _
theorem GvAt.put{H:Hp}{d:Addr}{R:List (List Int)}{kvs:List (List Key×V)}{r:List Int}(g:GvAt H d R kvs):GvAt (upd H d (.dT (putK kvs ((keyOf r).map Sum.inl) (.int (sF (isK (keyOf r)) R+fl r 3))))) d (R++[r]) (putK kvs ((keyOf r).map Sum.inl) (.int (sF (isK (keyOf r)) R+fl r 3))):=by
 refine⟨ao,fun k=>?_,fun q hq=>?_,?_⟩
 .rw[dB,cZ];have e1:sF (isK k) [r]=(if isK k (keyOf r)=true then fl r 3 else 0)+0:=gF r [];by_cases h:k=keyOf r
  .subst h;rw[zAx rfl,e1,zAx (show isK (keyOf r) (keyOf r)=true from zAt rfl),Int.add_zero];rfl
  .rw[zAv fun z=>h (CJ z),g.v,e1,zAv (show¬isK k (keyOf r)=true from fun z=>h (zB2 z).symm),Int.add_zero,Int.add_zero]
 .rcases oW.1 q hq with z|z
  .obtain⟨r',gu,e⟩:=g.k _ z;exact⟨r',List.mem_append_left _ gu,e⟩
  .exact⟨r,by simp,z⟩
 .have:=(oW (kvs:=kvs) (k:=(keyOf r).map Sum.inl) (v:=V.int (sF (isK (keyOf r)) R+fl r 3))).2;have:=g.l;rw[zA2,List.length_singleton];lia
def DR:List (List Int)->List (List Int)->List (List Int)->Int->VK->Hp->Prop:=fun cs ps ss y Q H=>∀tl H',Same H H'->H' tl=some (.tup ((dC cs ps ss y.toNat).l.map V.int))->Q (.ref tl) H'
theorem scYE:FnScope ["book","year","gifts","owed","left"] ["book","year"] (aK (top 54)):=fQS
theorem CK(F:Fun K "left_in" "left_in" (top 54) f fd)(c1:Cal P w K mg base 8 "refuse_no_year" ["book","year"] (jX Cw))(c2:Cal P w K mg base 10 "years_given" ["book","year"] kh):FnOk P w K mg base CX0 11 f fd ["book","year"] (jX DR):=by
 refine F.ok scYE (fun vs H Q E h=>?_) (fun ah A outer s H vs Q E hr h=>?_)
 .obtain⟨S,bk,y,d,ac,xc,cs,ap,xp,ps,af,xs,ss,rfl,_⟩:=h;rfl
 .obtain⟨S,bk,y,d,ac,xc,cs,ap,xp,ps,af,xs,ss,rfl,th,hz,hb,B,y0,y1,q⟩:=h
  refine⟨_,aA (cW (aJ c1 hr (az (pv 0) (az (pv 1) aj))))
   (aA (cC (pX bU (aJ c2 hr (az (pv 0) (az (pv 1) aj))) (pv 1)) (bI rfl (aq (pgn 2 scYE.nd) (aq (pgn 3 scYE.nd) (aq (pgn 4 scYE.nd) aW)))))
   (aD (aP (pv 4)))),?_⟩
  refine aG ?_;refine⟨_,rfl,_,rfl,S,bk,y,d,ac,xc,cs,ap,xp,ps,af,xs,ss,rfl,th,hz,hb,B,y0,y1,fun H1 s1=>?_⟩;dsimp only;have B1:=B.same s1;refine aG ?_;refine⟨_,rfl,_,rfl,bk,y,ac,xc,cs,ap,xp,ps,af,xs,ss,rfl,B1.e,B1.rc,B1.okc,B1.lc,y0,y1,B1.rp,B1.lp,B1.okp,B1.rs,B1.ls,B1.h5,B1.un,fun l ts H2 s2 nl el lt hy=>?_⟩;have hl:y.toNat<ts.length:=Zz
  obtain⟨g,k,tl,xg,xk,e1,n1,n2,d1,d2,e2,e3,e4,e5,e6⟩:=hy y.toNat ts[y.toNat] (zA0 hl)
  have cq:atI (ts.map V.ref) y=some (.ref ts[y.toNat]):=by
   have:(ts.map V.ref)[y.toNat]?=some (.ref ts[y.toNat]):=by rw[zAb,zA0 hl];rfl
   have:=eF this;rw[show((y.toNat:Nat):Int)=y by lia]at this;exact this
  refine⟨_,rfl,l,_,y,.ref ts[y.toNat],rfl,rfl,SqL.of el,cq,ts[y.toNat],_,rfl,SqT.of e1,rfl,_,_,rfl,_,_,rfl,_,_,rfl,rfl,?_⟩;dsimp only;exact⟨_,rfl,q tl H2 (s1.trans s2) e6.1⟩
structure TB(H:Hp)(bk ac:Addr)(xc:List V)(cs:List (List Int))(ap:Addr)(xp:List V)(ps:List (List Int))(af:Addr)(xs:List V)(ss:List (List Int)):Prop where
 b:BookAt H bk ac xc cs ap xp ps af xs ss
 okc:∀r∈cs,okC r
 lc1:1<=cs.length
section
variable{H H':Hp}{bk ac:Addr}{xc:List V}{cs:List (List Int)}{ap:Addr}{xp:List V}{ps:List (List Int)}{af:Addr}{xs:List V}{ss:List (List Int)}
theorem TB.same(h:TB H bk ac xc cs ap xp ps af xs ss)(s:Same H H'):TB H' bk ac xc cs ap xp ps af xs ss:=⟨h.b.same s,h.okc,h.lc1⟩
theorem TB.keep(h:TB H bk ac xc cs ap xp ps af xs ss)(k:∀b l,H b=some (.tup l)->H' b=some (.tup l)):TB H' bk ac xc cs ap xp ps af xs ss:=⟨⟨k _ _ h.b.e,h.b.rc.keep k,h.b.okc,h.b.lc,h.b.rp.keep k,h.b.lp,h.b.okp,h.b.rs.keep k,h.b.ls,h.b.h5,h.b.un⟩,h.okc,h.lc1⟩
theorem TB.bko(h:TB H bk ac xc cs ap xp ps af xs ss):BkO cs ps ss:=⟨h.b.okc,h.b.lp,h.b.un,h.b.h5,h.b.okp⟩
theorem TB.th(h:TB H bk ac xc cs ap xp ps af xs ss):IsTh (fun _=>False) H (.ref bk) (.tuple [bR cs,bR ps,bR ss]):=.tup h.b.e (.cons h.b.rc.th (.cons h.b.rp.th (.cons h.b.rs.th .nil)))
theorem TB.sz(h:TB H bk ac xc cs ap xp ps af xs ss):L2.sz (.tuple [bR cs,bR ps,bR ss])<=4000:=by
 show 1+((1+szs (cs.map cX))+((1+szs (ps.map cX))+((1+szs (ss.map cX))+0)))<=4000;rw[jr (k:=3) fun r hr=>(h.okc r hr).1,jr (k:=6) fun r hr=>(h.b.okp r hr).1,jr (k:=5) h.b.h5];have:=h.b.lc;have:=h.b.lp;have:=h.b.ls;lia
theorem TB.ok(h:TB H bk ac xc cs ap xp ps af xs ss):jQ (.tuple [bR cs,bR ps,bR ss])=true:=Cy h.lc1 h.b.lc h.okc h.b.lp h.b.okp h.b.ls h.b.h5 h.b.un
theorem TB.by_{R:List (List Int)->List (List Int)->List (List Int)->Int->VK->Hp->Prop}{y:Int}{Q:VK}(h:TB H bk ac xc cs ap xp ps af xs ss)(y0:0<=y)(y1:y<cs.length)(q:R cs ps ss y Q H):jX R [.ref bk,.int y] H Q E0:=
 ⟨fun _=>False,bk,y,_,ac,xc,cs,ap,xp,ps,af,xs,ss,rfl,h.th,h.sz,h.ok,h.b,y0,y1,q⟩
end
theorem DW{A:Around}{k:Nat}(hr:Room k A):A.units+64<cLine:=by
 have:=hr.un;lia
def Bt(gd:Addr)(H H':Hp):Prop:=∀b o,H b=some o->b≠gd->H' b=some o
section
variable{gd ro:Addr}{H H1 H2:Hp}{kvs kr:List (List Key×V)}{ps ss R:List (List Int)}
theorem Bt.same(g:Bt gd H H1)(s:Same H1 H2):Bt gd H H2:=fun b o e n=>s _ _ (g b o e n)
theorem Bt.trans(g:Bt gd H H1)(g':Bt gd H1 H2):Bt gd H H2:=fun b o e n=>g' b o (g b o e n) n
theorem Bt.put{o:HO}(g:Bt gd H H1):Bt gd H (upd H1 gd o):=fun b o e n=>by rw[aF n];exact g b o e n
theorem Bt.tups(g:Bt gd H H1)(e:H gd=some (.dT kvs)):∀b l,H b=some (.tup l)->H1 b=some (.tup l):=fun b l q=>g b _ q fun z=>by
 rw[z,e]at q;cases q
theorem Bt.lst{b:Addr}{l:List V}(g:Bt gd H H1)(e:H gd=some (.dT kvs))(q:H b=some (.lst l)):H1 b=some (.lst l):=g b _ q fun z=>by
 rw[z,e]at q;cases q
theorem GvAt.same(g:GvAt H gd R kvs)(s:Same H H1):GvAt H1 gd R kvs:=⟨s _ _ g.e,g.v,g.k,g.l⟩
end
theorem tR{A G:List (List Int)}{i:Nat}(hi:i<G.length):A++G.take (i+1)=(A++G.take i)++[G[i]]:=by
 rw[zAj,zA0 hi,zAf];rfl
theorem TB.gv{H:Hp}{bk ac:Addr}{xc:List V}{cs:List (List Int)}{ap:Addr}{xp:List V}{ps:List (List Int)}{af:Addr}{xs:List V}{ss:List (List Int)}(h:TB H bk ac xc cs ap xp ps af xs ss){m:Nat}(hm:m<cs.length):(cB cs ps ss m).length<=320000/\(srt (dC cs ps ss m).g).length<=16000:=by
 have hc:=h.b.lc;have a:=(DN h.b.okc h.b.lp h.b.un h.b.h5 h.b.okp m Zz).2;have b:=(DK h.b.okc h.b.lp h.b.un h.b.h5 h.b.okp (n:=m) Zz).2;exact⟨Zz,b⟩
theorem TB.gr{H:Hp}{bk ac:Addr}{xc:List V}{cs:List (List Int)}{ap:Addr}{xp:List V}{ps:List (List Int)}{af:Addr}{xs:List V}{ss:List (List Int)}(h:TB H bk ac xc cs ap xp ps af xs ss)(m:Nat):∀r∈srt (dC cs ps ss m).g,r.length=4:=fun r hr=>(y_row 3).1 r ((dZ _).mem_iff.mp hr)
theorem TB.or{H:Hp}{bk ac:Addr}{xc:List V}{cs:List (List Int)}{ap:Addr}{xp:List V}{ps:List (List Int)}{af:Addr}{xs:List V}{ss:List (List Int)}(h:TB H bk ac xc cs ap xp ps af xs ss)(m:Nat):∀r∈cH cs ps ss m,r.length=4/\0<=fl r 1/\fl r 1<ps.length:=fun r hr=>by
 obtain⟨a,b,c,_⟩:=(gh h.b.lp h.b.un h.b.h5 h.b.okp m).1 r hr;exact⟨a,b,c⟩
section
variable{cs ps ss:List (List Int)}
theorem An(ps rs:List (List Int))(s:Int):aN (au ps (srt rs) s)=aN (au ps rs s):=tQ ((dZ rs).filter _)
theorem CN(m:Nat){s:Nat}(hs:s<3):aN (au ps (srt (dC cs ps ss m).g) s)+(dC cs ps ss m).l.getD s 0=(cs.getD m []).getD s 0+(yTo (cs.getD m []) ps ss (cH cs ps ss m) m s).d:=by
 rw[An];show aN (au ps (yTo (cs.getD m []) ps ss (cH cs ps ss m) m 3).g s)+(yTo (cs.getD m []) ps ss (cH cs ps ss m) m 3).l.getD s 0=_;rw[vZ 3,zAx hs,uP hs];lia
theorem wg(m:Nat){s:Nat}(hs:s<3):(yTo (cs.getD m []) ps ss (cH cs ps ss m) m (s+1)).d=(dC cs ps ss m).l.getD s 0:=(uP hs).symm
theorem CP(B:BkO cs ps ss)(m:Nat){s:Nat}(hs:s<3):0<=(dC cs ps ss m).l.getD s 0:=by
 rw[<-wg m hs];exact xP (tM B.okc m) B.hu B.h5 B.okp B.hl (gh (cs:=cs) B.hl B.hu B.h5 B.okp m).1 (s+1)
theorem CQ(m:Nat)(s:Int):0<=aN (au ps (srt (dC cs ps ss m).g) s):=il fun r hr=>by
 have:=(Am (cs:=cs) (ps:=ps) (ss:=ss) m r (zAq.mp hr).1).2;lia
theorem xZ(B:BkO cs ps ss)(m:Nat){s:Nat}(hs:s<3)(h:0<(dC cs ps ss m).l.getD s 0):au ps (cH cs ps ss (m+1)) s=[]:=by
 have o:=Jc (y:=(m:Int)) (tM B.okc m) B.hu B.h5 B.okp B.hl (gh (cs:=cs) B.hl B.hu B.h5 B.okp m).1 hs;have z:aN (au ps (cH cs ps ss (m+1)) s)=aN (au ps (yTo (cs.getD m []) ps ss (cH cs ps ss m) m 3).k s):=An ps _ s;have ok:=fj (sort:=(s:Int)) (gh (cs:=cs) B.hl B.hu B.h5 B.okp (m+1)).1;generalize au ps (cH cs ps ss (m+1)) s=L at z ok⊢
 cases L with
 |nil=>rfl
 |cons r L=>
  exfalso;refine o ⟨?_,h⟩;rw[<-z];have h1:=(ok r (.head _)).2.2.2
  have h2:0<=aN L:=il fun q hq=>by have:=(ok q (.tail _ hq)).2.2.2;lia
  have:aN (r::L)=fl r 3+aN L:=List.sum_cons;lia
end
inductive SpHoldI(vs:List V)(H:Hp)(Q:VK):Prop
 |mk:∀S bk n y d ac xc cs ap xp ps af xs ss,(vs=[.ref bk,.int n,.int y])->(IsTh S H (.ref bk) d)->(sz d<=4000)->(jQ d=true)->(BookAt H bk ac xc cs ap xp ps af xs ss)->(0<=n)->(n<ps.length)->(0<=y)->(y<=19)->(∀l xl H',Same H H'->H l=none->l≠sysModules->H' l=some (.lst xl)->Els H' xl (c7 (aY (ps.getD n.toNat []) ss n y) 8)->Q (.ref l) H')->SpHoldI  vs H Q
def Ao:Sp:=fun vs H Q _=>SpHoldI  vs H Q
theorem wj{i a b:Int}(h0:a<=i)(h1:i<=b):jW (.int i) a b=true:=by
 show(true&&(decide (a<=i)&&decide (i<=b)))=true;rw[zAt h0,zAt h1];rfl
theorem HQ(x y:Str)(h:x≠y):([x,y]:List Str).Nodup:=by simp[h]
theorem scO0:FnScope ["book","number","year","clips","promises","sales","held"] ["book","number","year"] (aK (top 34)):=fQS
theorem CT(F:Fun K "holdings" "holdings" (top 34) f fd)(T:Mg mg)(N:Nums mg)(Te:mg "enumerate"=none)
  (c1:Cal P w K mg base 7 "refuse_no_book" ["thing"] uL) (c2:Cal P w K mg base 2 "is_whole_from" ["thing","least","most"] (jA jW)) (c3:Cal P w K mg base 1 "held_in" ["promises","sales","number","year"] qy):FnOk P w K mg base CX0 8 f fd ["book","number","year"] Ao:=by
 refine F.ok scO0 (fun vs H Q E h=>?_) (fun ah A outer s H vs Q E hr h=>?_)
 .obtain⟨S,bk,n,y,d,ac,xc,cs,ap,xp,ps,af,xs,ss,rfl,_⟩:=h;rfl
 .obtain⟨S,bk,n,y,d,ac,xc,cs,ap,xp,ps,af,xs,ss,rfl,th,hz,hb,B,n0,n1,y0,y1,q⟩:=h;obtain⟨QR,MU⟩:=N.year
  refine⟨_,aA (cW (aJ c1 hr (az (pv 0) aj)))
   (aA (cC (pv 0) (bI rfl (aq (pgn 3 scO0.nd) (aq (pgn 4 scO0.nd) (aq (pgn 5 scO0.nd) aW)))))
   (aA (cj (bN (d8 (aJ c2 hr (az (pv 1) (az aB (az (aR fO (aO bh rfl T.len PySem.boot_len (az (pv 4) aj)) aB) aj)))))) (aD fQ) aZ)
   (aA (cj (bN (d8 (aJ c2 hr (az (pv 2) (az aB (az (bT (v:=.int 19) rfl MU ⟨_,rfl⟩) aj)))))) (aD fQ) aZ)
   (aA (pss 6 scO0.nd (aJ c3 hr (az (pv 4) (az (pv 5) (az (pv 1) (az (pv 2) aj))))))
   (aD (aP (yS (g:=jR K 2 (bY (bC 0) (bY (bC 1) kI))) ["holder","sacks"] [none,none] rfl (ZT.pi_enum false rfl Te (az (pv 6) aj))
     (fun C fp Zt s₂ H₂=>⟨dJ rfl rfl (aq (bF (i:=0) (HQ _ _ Zx) rfl (Or.inl rfl) (Or.inr rfl)) (aq (bF (i:=1) (HQ _ _ Zx) rfl (Or.inl rfl) (Or.inr rfl)) aW)),gw (bG kY (pv 1) aB (bD _)),bO (az (pv 0) (az (pv 1) aj))⟩) (fun C=>trivial) ⟨rfl,rfl,rfl,rfl⟩))))))),?_⟩
  refine aG ?_;refine⟨_,rfl,S,.ref bk,d,rfl,th,hz,hb,fun H1 s1=>?_⟩;dsimp only;have B1:=B.same s1;refine aG ?_;refine⟨_,rfl,bk,_,rfl,SqT.of B1.e,rfl,_,_,rfl,_,_,rfl,_,_,rfl,rfl,?_⟩;dsimp only;refine aG ?_;refine⟨_,rfl,_,rfl,ap,_,rfl,.inr (SqT.of B1.rp.e),_,_,rfl,rfl,fun _=>False,.int n,.int n,0,_,rfl,.int _,by show 1<=4000;decide,fun H2 s2=>⟨_,rfl,?_⟩⟩;rw[wj n0 (by rw[B1.rp.l];lia)];refine bA (cG ?_);dsimp only;refine aG ?_;refine⟨_,rfl,fun _=>False,.int y,.int y,0,19,rfl,.int _,by show 1<=4000;decide,fun H3 s3=>⟨_,rfl,?_⟩⟩;rw[wj y0 y1];refine bA (cG ?_);dsimp only;have B3:=(B1.same s2).same s3;have MV:=(s1.trans s2).trans s3;obtain⟨p,hp,ve,op⟩:=dN B.okp n0 n1;refine aG (aX ?_);refine⟨_,rfl,_,rfl,_,rfl,_,rfl,ap,xp,ps,af,xs,ss,n,y,rfl,B3.rp,B3.rs,n0,n1,by rw[ve];exact op,B.ls,vR B.un B.h5,fun l H4 s4 e4=>?_⟩;have ED:=dG (ps.getD n.toNat []) ss n y;generalize aY (ps.getD n.toNat []) ss n y=L at q e4 ED;refine aM ?_;dsimp only;have Ke:=MV.trans s4;refine⟨_,rfl,l,_,rfl,SqL.of e4,fc 8 (fun j ys σ Hj=>Same H4 Hj/\(∃o1 o2,σ=[o1,o2])/\Els Hj ys (c7 L j)) ⟨Same.refl _,⟨_,_,rfl⟩,Els.nil⟩ (by rw[sizeLine_eq];decide) ?_ ?_⟩
  .rintro j ys σ Hj hj hy ⟨sc,⟨o1,o2,rfl⟩,ij⟩;have kc:SqL K Hj l (L.map V.int):=SqL.of (sc _ _ e4)
   have y8:(L.map V.int)[j]?=some (.int (L.getD j 0)):=by
    have cw:j<L.length:=Zz
    rw[zAb,zA7,zA0 cw];rfl
   refine⟨⟨_,_,kc,y8⟩,fun x H' yv R hR=>?_⟩;obtain⟨T1,sv,rfl,yv⟩:=yv;obtain⟨x',eJ,rfl⟩:=yv _ kc;rw[y8]at eJ;cases eJ;have kq:=sc.updR (o:=.tup [.int (j:Int),.int (L.getD j 0)]) sv;refine⟨T1,_,rfl,SqT.of ao,rfl,_,_,rfl,_,_,rfl,rfl,?_⟩;refine⟨_,rfl,_,_,rfl,rfl,_,rfl,?_⟩;by_cases aI:0<L.getD j 0
   .rw[zAt aI];refine bQ ⟨_,rfl,_,rfl,zL,fun t fx=>hR _ _ _ (by rw[zA2];show ys.length+1<=j+1;lia) ⟨kq.updR fx,⟨_,_,rfl⟩,?_⟩⟩;rw[fM,zAx aI];exact((ij.same (Same.upd sv)).same (Same.upd fx)).app (Els.one (r:=[(j:Int),L.getD j 0]) ao)
   .rw[decide_eq_false aI];refine bA (hR _ _ _ Zz ⟨kq,⟨_,_,rfl⟩,?_⟩);rw[fM,if_neg aI];simpa using ij.same (Same.upd sv)
  .rintro ys σ Hj hy ⟨sc,_,ij⟩;refine⟨⟨_,SqL.of (sc _ _ e4),by rw[zA1];lia⟩,fun D hD nD=>?_⟩;exact q D ys _ ((Ke.trans sc).updR hD) ((Ke.trans sc).free hD) nD ao (ij.same (Same.upd hD))
def cV(ps ss:List (List Int))(n y:Nat):List (List Int):=(c7 (aY (ps.getD n []) ss n y) 8).map fun r=>(y:Int)::(n:Int)::r
def jL(ps ss:List (List Int))(n:Nat):Nat->List (List Int)
 |0=>[]
 |y+1=>jL ps ss n y++cV ps ss n y
def jt(ps ss:List (List Int))(m:Nat):Nat->List (List Int)
 |0=>[]
 |n+1=>jt ps ss m n++jL ps ss n m
section
variable{f:List Int->Bool}{ps ss:List (List Int)}
theorem qK(s:Int)(y n:Nat):sF f (fZ ps ss s y n)=if fl (ps.getD n []) 1=s then sF f (cV ps ss n y)else 0:=by
 unfold fZ;by_cases h:fl (ps.getD n []) 1=s
 .rw[zAx h,zAx h];rfl
 .rw[zAv h,zAv h];rfl
def sT(f:List Int->Bool)(ps ss:List (List Int))(y k:Nat):Int:=sF f (fB ps ss 0 y k)+sF f (fB ps ss 1 y k)+sF f (fB ps ss 2 y k)
def tT(f:List Int->Bool)(ps ss:List (List Int)):Nat->Nat->Int
 |0,_=>0
 |M+1,k=>tT f ps ss M k+sT f ps ss M k
theorem CV(okp:∀r∈ps,okP r)(y:Nat){k:Nat}(hk:k<ps.length):sT f ps ss y (k+1)=sT f ps ss y k+sF f (cV ps ss k y):=by
 have e:∀s:Int,sF f (fB ps ss s y (k+1))=sF f (fB ps ss s y k)+sF f (fZ ps ss s y k):=fun s=>by
  show sF f (fB ps ss s y k++fZ ps ss s y k)=_;rw[cZ]
 unfold sT;rw[e 0,e 1,e 2,qK,qK,qK];have op:=okp _ (zAh hk);rw[<-getD_get hk]at op;obtain⟨_,_,⟨b0,b1⟩,_⟩:=op;have:fl (ps.getD k []) 1=0\/fl (ps.getD k []) 1=1\/fl (ps.getD k []) 1=2:=Zz
 rcases this with z|z|z<;>rw[z]<;>simp<;>lia
theorem wk(okp:∀r∈ps,okP r){k:Nat}(hk:k<ps.length):∀M,tT f ps ss M (k+1)=tT f ps ss M k+sF f (jL ps ss k M)
 |0=>rfl
 |M+1=>by
  show tT f ps ss M (k+1)+sT f ps ss M (k+1)=tT f ps ss M k+sT f ps ss M k+sF f (jL ps ss k M++cV ps ss k M);rw[wk okp hk M,CV okp M hk,cZ];lia
theorem wu:∀M,tT f ps ss M 0=0
 |0=>rfl
 |M+1=>by
  show tT f ps ss M 0+sT f ps ss M 0=0;rw[wu M];rfl
theorem wy(okp:∀r∈ps,okP r)(M:Nat):∀k,k<=ps.length->sF f (jt ps ss M k)=tT f ps ss M k
 |0,_=>(wu M).symm
 |k+1,hk=>by
  show sF f (jt ps ss M k++jL ps ss k M)=_;rw[cZ,wy okp M k Zz,wk okp Zz M]
theorem tU:∀M,sF f (oU ps ss M)=tT f ps ss M ps.length
 |0=>rfl
 |M+1=>by
  show sF f (oU ps ss M++clY ps ss M 3)=tT f ps ss M ps.length+sT f ps ss M ps.length;rw[cZ,tU M];show _+sF f (((([]++aC ps ss (0:Nat) M)++aC ps ss (1:Nat) M))++aC ps ss (2:Nat) M)=_;rw[cZ,cZ,cZ];unfold sT;have:sF f ([]:List (List Int))=0:=rfl;rw[this,Int.zero_add];rfl
theorem CW(okp:∀r∈ps,okP r)(M:Nat):sF f (jt ps ss M ps.length)=sF f (oU ps ss M):=by
 rw[wy okp M _ (zA3 _),tU]
end
theorem CZ{k:List Int}{R:List (List Int)}(h:∀r∈R,keyOf r≠k):sF (isK k) R=0:=by
 unfold sF;have e:(R.filter fun r=>isK k (keyOf r))=[]:=List.filter_eq_nil_iff.mpr fun r hr z=>h r hr (zB2 z);rw[e];rfl
theorem HR{R:List (List Int)}(p:∀r∈R,1<=fl r 3):∀r∈R,1<=sF (isK (keyOf r)) R:=fun r hr=>by
 obtain⟨a,b,rfl⟩:=List.append_of_mem hr;rw[cZ,gF,zAx (show isK (keyOf r) (keyOf r)=true from zAt rfl)]
 have h1:0<=sF (isK (keyOf r)) a:=DQ fun q hq=>by have:=p q (List.mem_append_left _ hq);lia
 have h2:0<=sF (isK (keyOf r)) b:=DQ fun q hq=>by have:=p q (zBc _ (.tail _ hq));lia
 have:=p r hr;lia
theorem uQ{kvs:List (List Key×V)}{k:List Key}{v:V}(h:bZ kvs k=some v):k∈kvs.map (·.1):=by
 unfold bZ at h
 cases e:kvs.find? fun kv=>decide (kv.1=k)with
 |none=>rw[e]at h;cases h
 |some x=>
  have h1:=List.mem_of_find?_eq_some e;have h2:decide (x.1=k)=true:=List.find?_some (p:=fun(kv:List Key×V)=>decide (kv.1=k)) e;have h2:=zB2 h2;exact zA5.mpr ⟨x,h1,h2⟩
theorem Aq{kvs:List (List Key×V)}{k:List Key}(h:k∈kvs.map (·.1)):∃v,bZ kvs k=some v:=by
 obtain⟨x,hx,e⟩:=zA5.mp h;unfold bZ
 cases z:kvs.find? fun kv=>decide (kv.1=k)with
 |none=>exact absurd (zAt e) (List.find?_eq_none.mp z x hx)
 |some y=>exact⟨y.2,rfl⟩
theorem FP{α:Type}{a b:List α}(na:a.Nodup)(nb:b.Nodup)(h:∀x,x∈a↔x∈b):a.length=b.length:=((List.perm_ext_iff_of_nodup na nb).mpr h).length_eq
section
variable{H:Hp}{a b:Addr}{R R':List (List Int)}{kvs dQ:List (List Key×V)}
theorem uR(g:GvAt H a R kvs)(g':GvAt H b R' dQ)(p:∀r∈R,1<=fl r 3)(e:∀k,sF (isK k) R=sF (isK k) R'):∀k v,bZ kvs k=some v->∃n:Int,v=.int n/\bZ dQ k=some v:=fun k v h=>by
 obtain⟨r,hr,rfl⟩:=g.k _ (uQ h);have h1:=g.v (keyOf r);rw[h]at h1;have h1:v=.int (sF (isK (keyOf r)) R):=h1;have h2:=g'.v (keyOf r);have h3:=HR p r hr;refine⟨_,h1,?_⟩;rw[<-e]at h2
 cases z:bZ dQ ((keyOf r).map Sum.inl)with
 |none=>
  rw[z]at h2;have:(V.int 0)=.int (sF (isK (keyOf r)) R):=h2;injection this with this;lia
 |some w=>
  rw[z]at h2;have h2:w=.int (sF (isK (keyOf r)) R):=h2;rw[h1,h2]
theorem FQ(g:GvAt H a R kvs)(g':GvAt H b R' dQ)(p:∀r∈R,1<=fl r 3)(p':∀r∈R',1<=fl r 3)(e:∀k,sF (isK k) R=sF (isK k) R')(n1:(kvs.map (·.1)).Nodup)(n2:(dQ.map (·.1)).Nodup):kvs.length=dQ.length:=by
 have:=FP n1 n2 fun x=>⟨fun h=>by
  obtain⟨v,hv⟩:=Aq h;obtain⟨_,_,hw⟩:=uR g g' p e _ _ hv
  exact uQ hw,fun h=>by
  obtain⟨v,hv⟩:=Aq h;obtain⟨_,_,hw⟩:=uR g' g p' (fun k=>(e k).symm) _ _ hv
  exact uQ hw⟩
 rw[zA1,zA1]at this;exact this
end
section
variable{ps ss:List (List Int)}
theorem tV{n y:Nat}{r:List Int}(h:r∈cV ps ss n y):r.length=4/\fl r 0=y/\fl r 1=n/\1<=fl r 3:=by
 obtain⟨q,hq,rfl⟩:=zA5.mp h;obtain⟨j,hj,rfl⟩:=zA5.mp hq;have:=zB2 (zAq.mp hj).2;exact⟨rfl,rfl,rfl,this⟩
theorem Dc(n y:Nat):((cV ps ss n y).map keyOf).Nodup:=by
 unfold cV c7;rw[zAr,zAr];refine List.pairwise_map.mpr ((List.Pairwise.filter _ (List.nodup_range (n:=8))).imp fun{a b} ne z=>ne ?_);have z:([(y:Int),(n:Int),(a:Int)]:List Int)=[(y:Int),(n:Int),(b:Int)]:=z;simp at z;lia
theorem qL{n:Nat}{r:List Int}:∀{y:Nat},r∈jL ps ss n y->r.length=4/\fl r 0<y/\fl r 1=n/\1<=fl r 3
 |0,h=>by cases h
 |y+1,h=>by
  rcases zA6.mp h with z|z
  .obtain⟨a,b,c,d⟩:=qL z;exact⟨a,Zz,c,d⟩
  .obtain⟨a,b,c,d⟩:=tV z;exact⟨a,Zz,c,d⟩
theorem qM{M:Nat}{r:List Int}:∀{n:Nat},r∈jt ps ss M n->r.length=4/\fl r 1<n/\1<=fl r 3
 |0,h=>by cases h
 |n+1,h=>by
  rcases zA6.mp h with z|z
  .obtain⟨a,b,c⟩:=qM z;exact⟨a,Zz,c⟩
  .obtain⟨a,b,c,d⟩:=qL z;exact⟨a,Zz,d⟩
theorem Dd{M n y i:Nat}(hi:i<(cV ps ss n y).length):sF (isK (keyOf (cV ps ss n y)[i])) (jt ps ss M n++(jL ps ss n y++(cV ps ss n y).take i))=0:=by
 obtain⟨_,h0,h1,_⟩:=tV (zAh hi);refine CZ fun r hr z=>?_;obtain⟨z0,z1,z2⟩:=uO z;rcases zA6.mp hr with w|w
 .have:=(qM w).2.1;lia
 .rcases zA6.mp w with w|w
  .have:=(qL w).2.1;lia
  .obtain⟨j,hj,e⟩:=List.getElem_of_mem w;rw[zAd]at hj;rw[List.getElem_take]at e;have nd:=Dc (ps:=ps) (ss:=ss) n y;have l1:j<((cV ps ss n y).map keyOf).length:=by rw[zA1];lia
   have l2:i<((cV ps ss n y).map keyOf).length:=by rw[zA1];exact hi
   have:j=i:=(List.getElem_inj (h₀:=l1) (h₁:=l2) nd).mp (by rw[List.getElem_map,List.getElem_map,e];exact z);lia
theorem tW(n y:Nat):(cV ps ss n y).length<=8:=by
 unfold cV c7;rw[zA1,zA1];have:=List.length_filter_le (fun h=>decide (0<(aY (ps.getD n []) ss n y).getD h 0)) (List.range 8);rw[List.length_range]at this;exact this
theorem qN(n:Nat):∀y,(jL ps ss n y).length<=8*y
 |0=>zA3 _
 |y+1=>by
  show(jL ps ss n y++cV ps ss n y).length<=_;rw[zA2];have:=qN n y;have:=tW (ps:=ps) (ss:=ss) n y;lia
theorem wz(M:Nat):∀n,(jt ps ss M n).length<=8*M*n
 |0=>zA3 _
 |n+1=>by
  show(jt ps ss M n++jL ps ss n M).length<=_;rw[zA2,Nat.mul_add];have:=wz M n;have:=qN (ps:=ps) (ss:=ss) n M;lia
theorem Ar{cs:List (List Int)}:∀m,∀r∈cB cs ps ss m,1<=fl r 3
 |0,r,hr=>by cases hr
 |m+1,r,hr=>by
  rcases zA6.mp (show r∈cB cs ps ss m++srt (dC cs ps ss m).g from hr)with z|z
  .exact Ar m r z
  .exact(Am m r z).2
end
inductive SpYRI(vs:List V)(H:Hp)(Q:VK):Prop
 |mk:∀(bk gd:Addr) (m:Nat) (ac:Addr) (xc:List V) (cs:List (List Int)) (ap:Addr) (xp:List V) (ps:List (List Int)) (af:Addr) (xs:List V) (ss:List (List Int)) (kvs:List (List Key×V)),(vs=[.ref bk,.int m,.ref gd])->(TB H bk ac xc cs ap xp ps af xs ss)->(m<cs.length)->(GvAt H gd (cB cs ps ss m) kvs)->(∀dQ H',Bt gd H H'->GvAt H' gd (cB cs ps ss (m+1)) dQ->Q (.bl true) H')->SpYRI  vs H Q
def HS:Sp:=fun vs H Q _=>SpYRI  vs H Q
theorem TB.sort{H:Hp}{bk ac:Addr}{xc:List V}{cs:List (List Int)}{ap:Addr}{xp:List V}{ps:List (List Int)}{af:Addr}{xs:List V}{ss:List (List Int)}(h:TB H bk ac xc cs ap xp ps af xs ss){n:Int}(n0:0<=n)(n1:n<ps.length):
  ∃tp a b c d e,atI xp n=some (.ref tp)/\H tp=some (.tup [.int a,.int (fl (ps.getD n.toNat []) 1),.int b,.int c,.int d,.int e]):=by
 obtain⟨p,hp,ep,op⟩:=dN h.b.okp n0 n1;obtain⟨tp,cq,cy⟩:=eO h.b.rp n0 hp;rw[dM op.1]at cy;rw[ep];exact⟨tp,_,_,_,_,_,cq,cy⟩
theorem wA{ps G:List (List Int)}{s:Int}{i:Nat}(hi:i<G.length):au ps (G.take (i+1)) s=au ps (G.take i) s++(if fl (ps.getD (fl G[i] 1).toNat []) 1=s then[G[i]]else[]):=by
 unfold au;rw[zAj,zA0 hi,List.filter_append];congr 1;by_cases h:fl (ps.getD (fl G[i] 1).toNat []) 1=s
 .rw[zAx h];exact zB7 (zAt h)
 .rw[zAv h];exact zB8 (by rw[Zq];exact h)
theorem HW:(["_law_row","_law_book_here","_law_sort"]:List Str).Nodup:=by decide +kernel
theorem scYR:FnScope ["_law_book_here","_law_year","_law_got","_law_rows","_law_down","_law_behind","_law_came","_law_sort","_law_mine","_law_owing","_law_due","_law_number","_law_holder","_law_sacks"] ["_law_book_here","_law_year","_law_got"] (aK (top 71)):=fQS
theorem HX(F:Fun K "_law_year_right" "_law_year_right" (top 71) f fd)(Tr:mg "range"=none)(Ts:mg "sum"=none)
  (cl:Cal P w K mg base 11 "left_in" ["book","year"] (jX DR)) (cg:Cal P w K mg base 11 "gifts_in" ["book","year"] (jX zZ)) (co:Cal P w K mg base 12 "owed_by" ["book","year"] (jX tL)):FnOk P w K mg base CX0 13 f fd ["_law_book_here","_law_year","_law_got"] HS:=by
 refine F.ok scYR (fun vs H Q E h=>?_) (fun ah A outer s H vs Q E hr h=>?_)
 .obtain⟨bk,gd,m,ac,xc,cs,ap,xp,ps,af,xs,ss,kvs,rfl,_⟩:=h;rfl
 .obtain⟨bk,gd,m,ac,xc,cs,ap,xp,ps,af,xs,ss,kvs,rfl,B,hm,G,q⟩:=h
  refine K22P.ok_b (aV ⟨Bs (i:=3) (j:=4) (k:=5) rfl scYR.nd rfl rfl rfl Zx Zx Zx rfl rfl rfl (az (aJ cg hr (az (pv 0) (az (pv 1) aj))) (az (aJ cl hr (az (pv 0) (az (pv 1) aj))) (az (aJ co hr (az (pv 0) (az (pv 1) aj))) aj))) rfl⟩
   (aV (jz 6 scYR.nd ⟨aB⟩)
   (aV ⟨bV zB4 rfl (cz rfl Tr (az aB aj)) (bF (i:=7) scYR.nd rfl (Or.inr rfl))
    (vf (aV (jz 8 scYR.nd ⟨aO (dD rfl) rfl Ts boot_sum (az (cF ["_law_row","_law_book_here","_law_sort"] [none,some 0,some 7] rfl (dz (pv 3)) (fun C fp Zt s₂ H₂=>⟨pgn 0 HW,gw (bG nC (pX (K22P.ix_tupK (K:=K) rfl) (pX (K22P.ix_tupK (K:=K) rfl) (pX (K22P.ix_tupK (K:=K) rfl) (pv 1) aB) (pX (K22P.ix_tupK (K:=K) rfl) (pv 0) aB)) aB) (pv 2) (bD _)),pX (K22P.ix_tupK (K:=K) rfl) (pv 0) aB⟩) (fun C=>cI (cI trivial)) ⟨rfl,rfl,rfl,rfl⟩) aj)⟩)
    (aV ⟨cj (PW.pt (kE (bG Dh (aR bz (pv 8) (pX bJ (pv 4) (pv 7))) (aR bz (pX bJ (pX bJ (pX bJ (pv 0) aB) (pv 1)) (pv 7)) (pv 6)) (bD _)) (kE (bG iI (pv 8) aB (bD _)) (p8 (bG iI (pX bJ (pv 4) (pv 7)) aB (bD _)))))) (aD (aP gG)) aZ⟩
    (aV ⟨iy (g:=bC 0) (i:=9) ["_law_row","_law_book_here","_law_sort"] [none,some 0,some 7] rfl scYR.nd rfl (Or.inl rfl) (dz (pv 5)) (fun C fp Zt s₂ H₂=>⟨pgn 0 HW,gw (bG nC (pX (K22P.ix_tupK (K:=K) rfl) (pX (K22P.ix_tupK (K:=K) rfl) (pX (K22P.ix_tupK (K:=K) rfl) (pv 1) aB) (pX (K22P.ix_tupK (K:=K) rfl) (pv 0) aB)) aB) (pv 2) (bD _)),pv 0⟩) (fun C=>cI (cI trivial)) ⟨rfl,rfl,rfl,rfl⟩⟩
    (aV ⟨cj (PW.pt (yf (bG kY (pX bJ (pv 4) (pv 7)) aB (bD _)) (uU (bG (Fg (S:=fun _=>True) (DW hr)) (pv 9) (cT aj) (bD _))))) (aD (aP gG)) aZ⟩
    (fJ (jz 6 scYR.nd ⟨pX bJ (pv 4) (pv 7)⟩)))))))⟩
   (aV ⟨bV zB4 rfl (dz (pv 3)) (bI rfl (aq (pgn 10 scYR.nd) (aq (pgn 11 scYR.nd) (aq (pgn 12 scYR.nd) (aq (pgn 13 scYR.nd) aW)))))
    (vf (aV ⟨cj (PW.pt (kE (bN (dR bH bH aB (pv 10) (pv 1))) (p8 (bG iI (pv 13) aB (bD _))))) (aD (aP gG)) aZ⟩
    (fJ ⟨iz (fH hr) (pv 2) (bO (az (pv 10) (az (pv 11) (az (pv 12) aj)))) (aR bz (j7 (fH hr) (pv 2) (bO (az (pv 10) (az (pv 11) (az (pv 12) aj)))) aB (by constructor<;>rfl)) (pv 13)) rfl⟩)))⟩
   (fJ (uo Do)))))) ?_
  have j0:(0:Int)<=m:=Zz
  have j1:(m:Int)<cs.length:=Zz
  refine aG ?_;refine⟨_,rfl,_,rfl,B.by_ j0 j1 fun g xg H1 s1 ng zI eg cE=>⟨_,rfl,_,rfl,(B.same s1).by_ j0 j1 fun tl H2 s2 hU=>⟨_,rfl,_,rfl,((B.same s1).same s2).by_ j0 j1 fun ow xo H4 s3 no Kf eo c9=>?_⟩⟩⟩;rw[zAi]at cE hU c9;have S4:=(s1.trans s2).trans s3;have eg:=s3 _ _ (s2 _ _ eg);have cE:=(cE.same s2).same s3;have hU:=s3 _ _ hU;clear s1 s2 s3 ng zI no Kf;refine⟨_,_,_,rfl,?_⟩;dsimp only;have B4:=B.same S4;have G4:=G.same S4;clear B G;have bd:=B4.gv hm;have gk:=Am (cs:=cs) (ps:=ps) (ss:=ss) m;have g4:=B4.gr m;have Au:cB cs ps ss (m+1)=cB cs ps ss m++srt (dC cs ps ss m).g:=rfl;have ot:=fun s hs=>CN (cs:=cs) (ps:=ps) (ss:=ss) m (s:=s) hs;have ub:=fun s hs=>wg (cs:=cs) (ps:=ps) (ss:=ss) m (s:=s) hs;have BA:=fun s=>CQ (cs:=cs) (ps:=ps) (ss:=ss) m s;have BB:=fun s hs=>CP B4.bko m (s:=s) hs;have pT:=fun s hs=>xZ B4.bko m (s:=s) hs;have orr:=B4.or (m+1);have BC:=(gh (cs:=cs) B4.b.lp B4.b.un B4.b.h5 B4.b.okp (m+1)).2;have gy:=B4.b.lc;have BD:(yTo (cs.getD m []) ps ss (cH cs ps ss m) m 0).d=0:=rfl
  have Kg:(dC cs ps ss m).l.length=3:=by
   show(yTo _ ps ss _ _ 3).l.length=3;rw[y_l 3];rfl
  obtain⟨tc,AB,tP⟩:=eO B4.b.rc j0 (show cs[((m:Int)).toNat]?=some cs[m] by rw[zAi];exact zA0 hm);have c3:=(B4.b.okc _ (zAh hm)).1;rw[getD_get hm]at ot ub BD;generalize Kh:(fun s=>(yTo cs[m] ps ss (cH cs ps ss m) m s).d)=ca at *;have Ki:∀s,(yTo cs[m] ps ss (cH cs ps ss m) m s).d=ca s:=fun s=>congrFun Kh s;simp only[Ki]at ot ub BD;clear Ki Kh;generalize srt (dC cs ps ss m).g=Gs at cE gk g4 Au bd ot BA;generalize(dC cs ps ss m).l=D3 at hU Kg ot ub BB pT;generalize cH cs ps ss (m+1)=W at c9 orr pT BC;generalize cs[m]=c at tP c3 ot;refine aG (aX ?_);refine aM ?_;dsimp only;refine aG ?_;refine⟨_,rfl,by decide,by decide,?_⟩;refine bW (lo:=0) (fun j σ Hc=>∃x7 x8 x9,σ=[some (.ref bk),some (.int m),some (.ref gd),some (.ref g),some (.ref tl),some (.ref ow),some (.int (ca j)),x7,x8,x9,none,none,none,none]/\Same H4 Hc) ?_ ?_ ?_
  .exact⟨none,none,none,by rw[BD];rfl,Same.refl _⟩
  .rintro j σ Hc hj ⟨x7,x8,x9,rfl,sc⟩;refine aM ?_;refine xM fun De oz=>?_;rw[Int.zero_add];have hd:atI (D3.map V.int) (j:Int)=some (.int (D3.getD j 0)):=eF (jn Zz);have hc:atI (c.map V.int) (j:Int)=some (.int (c.getD j 0)):=eF (jn Zz);have hb:=ot j hj;have Kj:=ub j hj;have yb:=BA (j:Int);have QS:=BB j hj;have AW:=pT j hj;clear ot ub BA BB pT;refine aG (aX ?_);refine⟨_,rfl,g,rfl,⟨_,SqL.of (sc _ _ eg)⟩,fc Gs.length (fun i ys σ Hd=>Same Hc Hd/\(∃o1,σ=[o1,some (.ref bk),some (.int j)])/\ys=(wts (au ps (Gs.take i) j)).map V.int) ⟨Same.refl _,⟨_,rfl⟩,rfl⟩ Zu ?_ ?_⟩
   .rintro i ys σ Hd hi hy ⟨sd,⟨o1,rfl⟩,rfl⟩;have S:=sc.trans sd;obtain⟨t,ex,et⟩:=cE.2 i Gs[i] (zA0 hi);have r4:=g4 _ (zAh hi);obtain⟨⟨a0,a1,⟨n0,n1,_⟩,c0,c1⟩,p1⟩:=gk _ (zAh hi);have kz:=wA (ps:=ps) (s:=(j:Int)) hi;generalize Gs[i]=r at et r4 n0 n1 kz;have n0:0<=fl r 1:=n0;have n1:fl r 1<ps.length:=n1;obtain⟨tp,q0,q2,q3,q4,q5,cq,cy⟩:=(B4.same S).sort n0 n1;rw[cN r4]at et;refine⟨⟨_,_,SqL.of (S _ _ eg),ex⟩,fun v H' y R hR=>?_⟩;obtain⟨rfl,y⟩:=y;have hv:=y _ (SqL.of (S _ _ eg));rw[ex]at hv;cases hv;refine aM ?_;refine⟨_,rfl,bk,_,1,.ref ap,rfl,rfl,SqT.of (S _ _ B4.b.e),rfl,_,rfl,t,_,1,.int (fl r 1),rfl,rfl,SqT.of (S _ _ et),rfl,ap,xp,fl r 1,.ref tp,rfl,rfl,SqT.of (S _ _ B4.b.rp.e),cq,tp,_,1,_,rfl,rfl,SqT.of cy,rfl,_,rfl,rfl,_,rfl,?_⟩;by_cases hs:fl (ps.getD (fl r 1).toNat []) 1=j
    .rw[zAx hs]at kz;rw[zAt (by rw[hs])];refine bQ ⟨_,rfl,t,_,3,.int (fl r 3),rfl,rfl,SqT.of (S _ _ et),rfl,hR _ _ _ (by rw[zA2];show _+1<=i+1;lia) ⟨sd,⟨_,rfl⟩,?_⟩⟩;rw[kz];unfold wts;rw[zA4,zA4];rfl
    .rw[zAv hs,zAn]at kz;rw[zB6 (fun z=>hs (by injection z))];exact bA (hR _ _ _ Zz ⟨sd,⟨_,rfl⟩,by rw[kz]⟩)
   rintro ys σ Hd hy ⟨sd,_,rfl⟩;rw[zAm];refine⟨⟨_,SqL.of ((sc.trans sd) _ _ eg),by rw[cE.1];exact zA3 _⟩,fun D hD=>?_⟩;have sD:=(sc.trans sd).updR (o:=.lst ((wts (au ps Gs j)).map V.int)) hD;refine⟨D,wts (au ps Gs j),rfl,.inl (SqL.of ao),?_⟩;generalize upd Hd D (.lst ((wts (au ps Gs j)).map V.int))=He at sD⊢;refine aM ?_;dsimp only;have em:(wts (au ps Gs j)).sum=aN (au ps Gs j):=rfl;rw[em];generalize aN (au ps Gs j)=M at hb yb⊢;refine aG ?_;refine⟨_,rfl,_,rfl,_,rfl,tl,_,_,_,rfl,rfl,SqT.of (sD _ _ hU),hd,_,_,rfl,rfl,?_⟩;refine⟨_,rfl,bk,_,0,.ref ac,rfl,rfl,SqT.of (sD _ _ B4.b.e),rfl,_,rfl,ac,xc,(m:Int),.ref tc,rfl,rfl,SqT.of (sD _ _ B4.b.rc.e),AB,_,rfl,tc,_,_,_,rfl,rfl,SqT.of (sD _ _ tP),hc,_,rfl,_,_,rfl,rfl,rfl,_,rfl,?_⟩;rw[decide_eq_true (by show V.int (M+D3.getD j 0)=V.int (c.getD j 0+ca j);rw[hb])];refine bA ?_;refine⟨_,rfl,_,_,rfl,rfl,_,rfl,?_⟩;rw[decide_eq_false (show¬M<0 by lia)];refine bA ?_;refine⟨_,rfl,_,rfl,tl,_,_,_,rfl,rfl,SqT.of (sD _ _ hU),hd,_,_,rfl,rfl,_,rfl,?_⟩;rw[decide_eq_false (show¬D3.getD j 0<0 by lia)];refine bA (cG ?_);dsimp only;clear hb yb em sd hD;refine aG ?_;refine⟨_,rfl,ow,rfl,⟨_,SqL.of (sD _ _ eo)⟩,fc W.length (fun i ys σ Hd=>Same He Hd/\(∃o1,σ=[o1,some (.ref bk),some (.int j)])/\ys.length=(au ps (W.take i) j).length) ⟨Same.refl _,⟨_,rfl⟩,rfl⟩ Zu ?_ ?_⟩
   .rintro i ys σ Hd hi hy ⟨sd,⟨o1,rfl⟩,ly⟩;have S:=sD.trans sd;obtain⟨t,ex,et⟩:=c9.2 i W[i] (zA0 hi);obtain⟨r4,n0,n1⟩:=orr _ (zAh hi);have kz:=wA (ps:=ps) (s:=(j:Int)) hi;generalize W[i]=r at et r4 n0 n1 kz;obtain⟨tp,q0,q2,q3,q4,q5,cq,cy⟩:=(B4.same S).sort n0 n1;rw[cN r4]at et;refine⟨⟨_,_,SqL.of (S _ _ eo),ex⟩,fun v H' y R hR=>?_⟩;obtain⟨rfl,y⟩:=y;have hv:=y _ (SqL.of (S _ _ eo));rw[ex]at hv;cases hv;refine aM ?_;refine⟨_,rfl,bk,_,1,.ref ap,rfl,rfl,SqT.of (S _ _ B4.b.e),rfl,_,rfl,t,_,1,.int (fl r 1),rfl,rfl,SqT.of (S _ _ et),rfl,ap,xp,fl r 1,.ref tp,rfl,rfl,SqT.of (S _ _ B4.b.rp.e),cq,tp,_,1,_,rfl,rfl,SqT.of cy,rfl,_,rfl,rfl,_,rfl,?_⟩;by_cases hs:fl (ps.getD (fl r 1).toNat []) 1=j
    .rw[zAx hs]at kz;rw[zAt (by rw[hs])];refine bQ ⟨_,rfl,hR _ _ _ (by rw[zA2];show _+1<=i+1;lia) ⟨sd,⟨_,rfl⟩,?_⟩⟩;rw[kz,zA2,zA2,ly];rfl
    .rw[zAv hs,zAn]at kz;rw[zB6 (fun z=>hs (by injection z))];exact bA (hR _ _ _ Zz ⟨sd,⟨_,rfl⟩,by rw[kz];exact ly⟩)
   rintro ys σ Hd hy ⟨sd,_,ly⟩;rw[zAm]at ly;refine⟨⟨_,SqL.of ((sD.trans sd) _ _ eo),by rw[c9.1];exact zA3 _⟩,fun D2 MW=>?_⟩;have sE:=(sD.trans sd).updR (o:=.lst ys) MW;have Kk:=ao (H:=Hd) (a:=D2) (o:=.lst ys);generalize upd Hd D2 (.lst ys)=Hf at sE Kk⊢;dsimp only;refine aG ?_;refine⟨_,rfl,_,rfl,tl,_,_,_,rfl,rfl,SqT.of (sE _ _ hU),hd,_,_,rfl,rfl,_,rfl,?_⟩;by_cases h1:D3.getD j 0>0
   .rw[decide_eq_true h1];refine bQ ?_;rw[AW h1]at ly;have ey:ys=[]:=List.length_eq_zero_iff.mp ly;subst ey;refine⟨_,rfl,zL,fun lb Kl=>?_⟩;have sG:=sE.updR (o:=.lst []) Kl;have zd:=Same.upd (o:=.lst []) Kl _ _ Kk;have Km:=ao (H:=Hf) (a:=lb) (o:=.lst []);generalize upd Hf lb (.lst [])=Hg at sG zd Km⊢;refine⟨.list [],.lst trivial zd .nil,.lst trivial Km .nil,rfl,rfl,_,rfl,?_⟩;refine bA (cG ?_);dsimp only;refine aX ?_;refine⟨_,rfl,_,rfl,tl,_,_,_,rfl,rfl,SqT.of (sG _ _ hU),hd,?_⟩;refine aM ?_;exact oz _ _ ⟨_,_,_,by rw[Kj];rfl,sG⟩
   .rw[decide_eq_false h1];refine bA (cG ?_);dsimp only;refine aX ?_;refine⟨_,rfl,_,rfl,tl,_,_,_,rfl,rfl,SqT.of (sE _ _ hU),hd,?_⟩;refine aM ?_;exact oz _ _ ⟨_,_,_,by rw[Kj];rfl,sE⟩
  rintro σ H5 ⟨x7,x8,x9,rfl,s5⟩;clear ot ub BA BB pT orr BC AB tP c3 Kg BD c9;have eg:=s5 _ _ eg;have cE:=cE.same s5;have G5:=G4.same s5;have S5:=S4.trans s5;clear G4 B4 S4 s5 hU eo;dsimp only;refine aG ?_;refine⟨_,rfl,g,rfl,⟨_,SqL.of eg⟩,?_⟩;refine gJ (xs:=xg) (fun i σ Hc=>∃x6 x7 x8 x9 nX gT gX hJ kv,σ=[some (.ref bk),some (.int m),some (.ref gd),some (.ref g),some (.ref tl),some (.ref ow),x6,x7,x8,x9,nX,gT,gX,hJ]/\Bt gd H5 Hc/\GvAt Hc gd (cB cs ps ss m++Gs.take i) kv) ?_ ?_ ?_ ?_
  .exact⟨_,_,_,_,_,_,_,_,kvs,rfl,fun _ _ e _=>e,by rw[List.take_zero,zAn];exact G5⟩
  .rintro i σ Hc hi ⟨x6,x7,x8,x9,nX,gT,gX,hJ,kv,rfl,bt,gv⟩;exact SqL.of (bt.lst G5.e eg)
  .rintro i x σ Hc hx ⟨x6,x7,x8,x9,nX,gT,gX,hJ,kv,rfl,bt,gv⟩
   have hi:i<Gs.length:=by
    have:=(zAa.mp hx).1;rw[cE.1]at this;exact this
   obtain⟨tr,df,cv⟩:=(cE.keep (bt.tups G5.e)).2 i Gs[i] (zA0 hi)
   have:x=.ref tr:=by
    rw[hx]at df;exact zAl df
   subst this;obtain⟨⟨a0,a1,dm,c0,c1⟩,p1⟩:=gk _ (zAh hi);have r4:=g4 _ (zAh hi);rw[tR hi]
   have lR:(cB cs ps ss m++Gs.take i).length<=336000:=by
    rw[zA2,zAd];lia
   generalize cB cs ps ss m++Gs.take i=R at gv lR⊢;generalize Gs[i]=r at cv a0 a1 p1 r4⊢;rw[cN r4]at cv;have a0:0<=fl r 0:=a0;have a1:fl r 0<=m:=a1;refine⟨tr,_,rfl,SqT.of cv,rfl,_,_,rfl,_,_,rfl,_,_,rfl,_,_,rfl,rfl,?_⟩;refine xM fun De oz=>?_;refine aG ?_;refine bK (p:=fun i j=>decide (i<=j)) (q:=fun i j=>decide (i<=j)) (i:=0) (j:=fl r 0) (k:=(m:Int)) dW (d7 rfl) (d7 rfl) _ ⟨_,rfl,?_⟩;rw[decide_eq_true a0,decide_eq_true a1];refine bA ?_;refine⟨_,rfl,_,_,rfl,rfl,_,rfl,?_⟩;rw[decide_eq_false (show¬fl r 3<1 by lia)];refine bA (cG ?_);dsimp only;refine⟨_,rfl,gd,rfl,.inr ⟨kv,.inl gv.e⟩,_,rfl,_,rfl,_,rfl,zL,fun t1 mn=>?_⟩;have s5:=Same.upd (o:=.tup [.int (fl r 0),.int (fl r 1),.int (fl r 2)]) mn;have om:upd Hc t1 (.tup [.int (fl r 0),.int (fl r 1),.int (fl r 2)]) t1=some (.tup (((keyOf r).map (Sum.inl:Int->Key)).map kV)):=ao;have mv:=gv.same s5;generalize upd Hc t1 (.tup [.int (fl r 0),.int (fl r 1),.int (fl r 2)])=H6 at s5 om mv⊢;refine⟨_,DGet.t mv.e om,_,rfl,_,_,mv.v (keyOf r),rfl,_,rfl,_,rfl,_,rfl,_,rfl,zL,fun t2 sj=>?_⟩;have s6:=Same.upd (o:=.tup [.int (fl r 0),.int (fl r 1),.int (fl r 2)]) sj;have kx:upd H6 t2 (.tup [.int (fl r 0),.int (fl r 1),.int (fl r 2)]) t2=some (.tup (((keyOf r).map (Sum.inl:Int->Key)).map kV)):=ao;have kB:=mv.same s6;generalize upd H6 t2 (.tup [.int (fl r 0),.int (fl r 1),.int (fl r 2)])=H7 at s6 kx kB⊢;refine⟨gd,_,rfl,DPut.t kB.e kx (by have:=gv.l;rw[sizeLine_eq];lia),?_⟩;exact oz _ _ ⟨_,_,_,_,_,_,_,_,_,rfl,(bt.same (s5.trans s6)).put,kB.put⟩
  rintro σ H6 ⟨x6,x7,x8,x9,nX,gT,gX,hJ,kv,rfl,bt,gv⟩;rw[cE.1,zAm,<-Au]at gv;exact q kv _ (Bt.trans (fun b o e _=>S5 _ _ e) bt) gv
inductive SpCRI(vs:List V)(H:Hp)(Q:VK):Prop
 |mk:∀(bk gd:Addr) (m:Nat) (ac:Addr) (xc:List V) (cs:List (List Int)) (ap:Addr) (xp:List V) (ps:List (List Int)) (af:Addr) (xs:List V) (ss:List (List Int)) (kvs:List (List Key×V)),(vs=[.ref bk,.int m,.ref gd])->(TB H bk ac xc cs ap xp ps af xs ss)->(m<cs.length)->(GvAt H gd (cB cs ps ss (m+1)) kvs)->(∀H',Same H H'->Q (.bl true) H')->SpCRI  vs H Q
def HY:Sp:=fun vs H Q _=>SpCRI  vs H Q
theorem scCR:FnScope ["_law_book_here","_law_year","_law_got","_law_due","_law_number","_law_here","_law_holder","_law_sacks","_law_total"] ["_law_book_here","_law_year","_law_got"] (aK (top 72)):=fQS
theorem Ia(F:Fun K "_law_claims_right" "_law_claims_right" (top 72) f fd)(T:Mg mg)(Tr:mg "range"=none)(Tl:mg "list"=none)(Td:mg "dict"=none)
  (ch:Cal P w K mg base 8 "holdings" ["book","number","year"] Ao) (co:Cal P w K mg base 12 "owed_by" ["book","year"] (jX tL)):FnOk P w K mg base CX0 13 f fd ["_law_book_here","_law_year","_law_got"] HY:=by
 refine F.ok scCR (fun vs H Q E h=>?_) (fun ah A outer s H vs Q E hr h=>?_)
 .obtain⟨bk,gd,m,ac,xc,cs,ap,xp,ps,af,xs,ss,kvs,rfl,_⟩:=h;rfl
 .obtain⟨bk,gd,m,ac,xc,cs,ap,xp,ps,af,xs,ss,kvs,rfl,B,hm,G,q⟩:=h
  refine K22P.ok_b (aV (jz 3 scCR.nd ⟨lE⟩)
   (aV ⟨bV zB4 rfl (cz rfl Tr (az (aO bh rfl T.len PySem.boot_len (az (pX bJ (pv 0) aB) aj)) aj)) (pgn 4 scCR.nd)
    (aD (bV zB4 rfl (cz rfl Tr (az (aR bz (pv 1) aB) aj)) (pgn 5 scCR.nd)
     (aD (bV zB4 rfl (dz (aJ ch hr (az (pv 0) (az (pv 4) (az (pv 5) aj))))) (bI rfl (aq (pgn 6 scCR.nd) (aq (pgn 7 scCR.nd) aW)))
      (aD (iz (fH hr) (pv 3) (bO (az (pv 5) (az (pv 4) (az (pv 6) aj)))) (pv 7) rfl))))))⟩
   (aV (jz 8 scCR.nd ⟨DI.pe_copy hr.hd (DW hr) rfl Td rfl Tl (pv 2)⟩)
   (aV ⟨bV zB4 rfl (dz (aJ co hr (az (pv 0) (az (pv 1) aj)))) (bI rfl (aq (pgn 5 scCR.nd) (aq (pgn 4 scCR.nd) (aq (pgn 6 scCR.nd) (aq (pgn 7 scCR.nd) aW)))))
    (aD (iz (fH hr) (pv 8) (bO (az (pv 5) (az (pv 4) (az (pv 6) aj)))) (aR bz (j7 (fH hr) (pv 8) (bO (az (pv 5) (az (pv 4) (az (pv 6) aj)))) aB (by constructor<;>rfl)) (pv 7)) rfl))⟩
   (fJ ⟨aP (iu (Fj (fH hr)) (pv 8) (pv 3) (bD _))⟩))))) ?_
  have j0:(0:Int)<=m:=Zz
  have j1:(m:Int)<cs.length:=Zz
  have MX:=B.b.lc;have MY:=B.b.lp;have eN:((m:Int)+1).toNat=m+1:=Zz
  refine aG (aX ?_);refine fun du BF=>?_;have s1:=Same.upd (o:=.dT []) BF;have B1:=B.same s1;have G1:=G.same s1
  have D1:GvAt (upd H du (.dT [])) du [] []:=⟨ao,fun k=>rfl,(fun q hq=>by cases hq),zA3 _⟩
  have dg:gd≠du:=fun z=>by rw[<-z,G.e]at BF;cases BF
  generalize upd H du (.dT [])=H1 at s1 B1 G1 D1⊢;refine aM ?_;dsimp only;refine aG ?_;refine⟨_,rfl,bk,_,1,.ref ap,rfl,rfl,SqT.of B1.b.e,rfl,ap,xp,rfl,.inr (SqT.of B1.b.rp.e),_,rfl,by rw[B1.b.rp.l];lia,by rw[B1.b.rp.l];lia,?_⟩;refine bW (lo:=0) (fun n σ Hc=>∃x4 x5 x6 x7 kv,σ=[some (.ref bk),some (.int m),some (.ref gd),some (.ref du),x4,x5,x6,x7,none]/\Bt du H1 Hc/\GvAt Hc du (jt ps ss (m+1) n) kv) ?_ ?_ ?_
  .exact⟨none,none,none,none,[],rfl,fun _ _ e _=>e,D1⟩
  .rintro n σ Hc hn ⟨x4,x5,x6,x7,kv,rfl,bt,gv⟩;rw[B1.b.rp.l]at hn;have hn:n<ps.length:=Zz
   refine aM ?_;refine xM fun De oz=>?_;rw[Int.zero_add];refine⟨_,rfl,_,_,rfl,rfl,_,rfl,Zz,Zz,?_⟩;rw[eN];refine bW (lo:=0) (fun y σ Hd=>∃x5 x6 x7 kv,σ=[some (.ref bk),some (.int m),some (.ref gd),some (.ref du),some (.int n),x5,x6,x7,none]/\Bt du H1 Hd/\GvAt Hd du (jt ps ss (m+1) n++jL ps ss n y) kv) ?_ ?_ ?_
   .exact⟨_,_,_,kv,rfl,bt,by rw[show jL ps ss n 0=[]from rfl,zAn];exact gv⟩
   .clear bt gv kv;rintro y σ Hd hy ⟨x5,x6,x7,kv,rfl,bt,gv⟩;refine aM ?_;refine xM fun QT E5=>?_;rw[Int.zero_add];have Bd:=B1.keep (bt.tups D1.e);refine⟨_,rfl,_,rfl,_,rfl,fun _=>False,bk,(n:Int),(y:Int),_,ac,xc,cs,ap,xp,ps,af,xs,ss,rfl,Bd.th,Bd.sz,Bd.ok,Bd.b,Zz,Zz,Zz,Zz,fun l xl H' s' nl Js el eI=>⟨l,rfl,⟨_,SqL.of el⟩,?_⟩⟩;rw[zAi]at eI;have E6:Bt du H1 H':=bt.same s';have BG:=gv.same s';have Kn:H' du=some (.dT kv):=BG.e;have oB:cV ps ss n y=(c7 (aY (ps.getD n []) ss n y) 8).map fun r=>(y:Int)::(n:Int)::r:=rfl;have hlen:(cV ps ss n y).length=(c7 (aY (ps.getD n []) ss n y) 8).length:=by rw[oB,zA1]
    have l1:=wz (ps:=ps) (ss:=ss) (m+1) n;have l2:=qN (ps:=ps) (ss:=ss) n y;have l3:=tW (ps:=ps) (ss:=ss) n y
    have l4:8*(m+1)*n<=1600:=by
     have h1:8*(m+1)<=160:=Zz
     have h2:n<=10:=Zz
     exact Nat.mul_le_mul h1 h2
    refine gJ (xs:=xl) (fun i σ He=>∃x6 x7 kv,σ=[some (.ref bk),some (.int m),some (.ref gd),some (.ref du),some (.int n),some (.int y),x6,x7,none]/\Bt du H' He/\GvAt He du (jt ps ss (m+1) n++(jL ps ss n y++(cV ps ss n y).take i)) kv) ?_ ?_ ?_ ?_
    .exact⟨_,_,kv,rfl,fun _ _ e _=>e,by rw[List.take_zero,zAn];exact BG⟩
    .rintro i σ He hi ⟨x6,x7,E7,rfl,ui,uj⟩;exact SqL.of (ui.lst Kn el)
    .rintro i x σ He hx ⟨x6,x7,E7,rfl,ui,uj⟩
     have Ko:i<(c7 (aY (ps.getD n []) ss n y) 8).length:=by
      have:=(zAa.mp hx).1;rw[eI.1]at this;exact this
     have hi:i<(cV ps ss n y).length:=Zz
     obtain⟨t,ex,et⟩:=(eI.keep (ui.tups Kn)).2 i _ (zA0 Ko)
     have:x=.ref t:=by
      rw[hx]at ex;exact zAl ex
     subst this;obtain⟨j,hj,ej⟩:=zA5.mp (zAh Ko)
     have er:(cV ps ss n y)[i]=(y:Int)::(n:Int)::(c7 (aY (ps.getD n []) ss n y) 8)[i]:=by
      simp only[oB,List.getElem_map]
     rw[<-ej]at et er;have AD:=Dd (ps:=ps) (ss:=ss) (M:=m+1) (n:=n) (y:=y) hi;have dv:(cV ps ss n y).take (i+1)=(cV ps ss n y).take i++[(cV ps ss n y)[i]]:=by rw[zAj,zA0 hi];rfl
     rw[er]at AD dv;rw[dv];refine⟨t,_,rfl,SqT.of et,rfl,_,_,rfl,_,_,rfl,rfl,?_⟩;refine⟨_,rfl,_,rfl,_,rfl,_,rfl,_,rfl,zL,fun t2 sj=>?_⟩;have s6:=Same.upd (o:=.tup [.int (y:Int),.int (n:Int),.int (j:Int)]) sj;have kx:upd He t2 (.tup [.int (y:Int),.int (n:Int),.int (j:Int)]) t2=some (.tup (((keyOf [(y:Int),(n:Int),(j:Int),(aY (ps.getD n []) ss n y).getD j 0]).map (Sum.inl:Int->Key)).map kV)):=ao;have kB:=uj.same s6;generalize upd He t2 (.tup [.int (y:Int),.int (n:Int),.int (j:Int)])=Hf at s6 kx kB⊢;refine⟨du,_,rfl,DPut.t kB.e kx (by have:=uj.l;rw[zA2,zA2,zAd]at this;rw[sizeLine_eq];lia),?_⟩;have gp:=kB.put (r:=[(y:Int),(n:Int),(j:Int),(aY (ps.getD n []) ss n y).getD j 0]);rw[AD,Int.zero_add]at gp;rw[zAf,zAf]at gp;exact⟨_,_,_,rfl,(ui.same s6).put,gp⟩
    rintro σ He ⟨x6,x7,E7,rfl,ui,uj⟩;rw[eI.1,<-hlen,zAm]at uj;exact E5 _ _ ⟨_,_,_,E7,rfl,Bt.trans E6 ui,uj⟩
   rintro σ Hd ⟨x5,x6,x7,kv,rfl,bt,gv⟩;exact oz _ _ ⟨_,_,_,_,kv,rfl,bt,gv⟩
  rintro σ H2 ⟨x4,x5,x6,x7,kv,rfl,bt,gv⟩;rw[B1.b.rp.l]at gv;have S2:Same H H2:=fun b o e=>bt _ _ (s1 _ _ e) (aH e BF);have B2:=B.same S2;have G2:=G.same S2;clear bt D1 G1 B1 s1 B G;dsimp only;refine aG (aX ?_);refine⟨_,rfl,gd,kvs,rfl,G2.e,fun to AE QU=>?_⟩;have u:=Same.upd (o:=.dT kvs) AE
  have T3:GvAt (upd H2 to (.dT kvs)) to (cB cs ps ss (m+1)) kvs:=⟨ao,G2.v,G2.k,G2.l⟩
  have B3:=B2.same u;have D3:=gv.same u;have S3:=S2.trans u
  have dt:du≠to:=fun z=>by rw[<-z,gv.e]at AE;cases AE
  have E8:H to=none:=S2.free AE;generalize upd H2 to (.dT kvs)=H3 at u T3 B3 D3 S3⊢;clear B2 G2 S2 gv u AE;refine aM ?_;dsimp only;refine aG ?_;refine⟨_,rfl,_,rfl,B3.by_ j0 j1 fun ow xo H4 s4 no Kf eo c9=>⟨ow,rfl,⟨_,SqL.of eo⟩,?_⟩⟩;rw[zAi]at c9;have T4:=T3.same s4;have D4:=D3.same s4;have S4:=S3.trans s4;have bko:=B3.bko;have orr:=B3.or (m+1);have bd:=B3.gv hm;have BC:=(gh (cs:=cs) B3.b.lp B3.b.un B3.b.h5 B3.b.okp (m+1)).2;have AF:∀r∈cH cs ps ss (m+1),1<=fl r 3:=fun r hr=>((gh (cs:=cs) B3.b.lp B3.b.un B3.b.h5 B3.b.okp (m+1)).1 r hr).2.2.2
  have lg:(cB cs ps ss (m+1)).length<=336000:=by
   have:cB cs ps ss (m+1)=cB cs ps ss m++srt (dC cs ps ss m).g:=rfl;rw[this,zA2];lia
  have bE:∀k,sF (isK k) (cB cs ps ss (m+1)++cH cs ps ss (m+1))=sF (isK k) (jt ps ss (m+1) ps.length):=fun k=>by
   rw[cZ,CW bko.okp,all_cons bko]
  have AG:=Ar (cs:=cs) (ps:=ps) (ss:=ss) (m+1);generalize cH cs ps ss (m+1)=W at c9 orr BC bE AF;generalize cB cs ps ss (m+1)=R0 at T4 lg bE AG;clear s4 T3 D3 S3;refine gJ (xs:=xo) (fun i σ Hc=>∃x4 x5 x6 x7 kt,σ=[some (.ref bk),some (.int m),some (.ref gd),some (.ref du),x4,x5,x6,x7,some (.ref to)]/\Bt to H4 Hc/\GvAt Hc to (R0++W.take i) kt) ?_ ?_ ?_ ?_
  .exact⟨_,_,_,_,kvs,rfl,fun _ _ e _=>e,by rw[List.take_zero,zAn];exact T4⟩
  .rintro i σ Hc hi ⟨x4,x5,x6,x7,kt,rfl,bt,gt⟩;exact SqL.of (bt.lst T4.e eo)
  .rintro i x σ Hc hx ⟨x4,x5,x6,x7,kt,rfl,bt,gt⟩
   have hi:i<W.length:=by
    have:=(zAa.mp hx).1;rw[c9.1]at this;exact this
   obtain⟨tr,df,cv⟩:=(c9.keep (bt.tups T4.e)).2 i W[i] (zA0 hi)
   have:x=.ref tr:=by
    rw[hx]at df;exact zAl df
   subst this;obtain⟨r4,n0,n1⟩:=orr _ (zAh hi);rw[tR hi]
   have lR:(R0++W.take i).length<=400000:=by
    rw[zA2,zAd];lia
   generalize R0++W.take i=R at gt lR⊢;generalize W[i]=r at cv r4⊢;rw[cN r4]at cv;refine⟨tr,_,rfl,SqT.of cv,rfl,_,_,rfl,_,_,rfl,_,_,rfl,_,_,rfl,rfl,?_⟩;refine xM fun De oz=>?_;refine⟨_,rfl,to,rfl,.inr ⟨kt,.inl gt.e⟩,_,rfl,_,rfl,_,rfl,zL,fun t1 mn=>?_⟩;have s5:=Same.upd (o:=.tup [.int (fl r 0),.int (fl r 1),.int (fl r 2)]) mn;have om:upd Hc t1 (.tup [.int (fl r 0),.int (fl r 1),.int (fl r 2)]) t1=some (.tup (((keyOf r).map (Sum.inl:Int->Key)).map kV)):=ao;have mv:=gt.same s5;generalize upd Hc t1 (.tup [.int (fl r 0),.int (fl r 1),.int (fl r 2)])=H6 at s5 om mv⊢;refine⟨_,DGet.t mv.e om,_,rfl,_,_,mv.v (keyOf r),rfl,_,rfl,_,rfl,_,rfl,_,rfl,zL,fun t2 sj=>?_⟩;have s6:=Same.upd (o:=.tup [.int (fl r 0),.int (fl r 1),.int (fl r 2)]) sj;have kx:upd H6 t2 (.tup [.int (fl r 0),.int (fl r 1),.int (fl r 2)]) t2=some (.tup (((keyOf r).map (Sum.inl:Int->Key)).map kV)):=ao;have kB:=mv.same s6;generalize upd H6 t2 (.tup [.int (fl r 0),.int (fl r 1),.int (fl r 2)])=H7 at s6 kx kB⊢;refine⟨to,_,rfl,DPut.t kB.e kx (by have:=gt.l;rw[sizeLine_eq];lia),?_⟩;exact oz _ _ ⟨_,_,_,_,_,rfl,(bt.same (s5.trans s6)).put,kB.put⟩
  rintro σ H5 ⟨x4,x5,x6,x7,kt,rfl,bt,gt⟩;rw[c9.1,zAm]at gt
  have D5:GvAt H5 du (jt ps ss (m+1) ps.length) kv:=⟨bt _ _ D4.e dt,D4.v,D4.k,D4.l⟩
  have S5:Same H H5:=fun b o e=>bt _ _ (S4 _ _ e) (aH e E8)
  have p1:∀r∈R0++W,1<=fl r 3:=fun r hr=>by
   rcases zA6.mp hr with z|z
   .exact AG r z
   .exact AF r z
  have p2:∀r∈jt ps ss (m+1) ps.length,1<=fl r 3:=fun r hr=>(qM hr).2.2;dsimp only;refine qb ?_;exact⟨_,rfl,_,rfl,to,du,kt,kv,rfl,rfl,gt.e,D5.e,FQ gt D5 p1 p2 bE,uR gt D5 p1 bE,q _ S5⟩
inductive SpLawI(K:Frag)(vs:List V)(H:Hp)(Q:VK):Prop
 |mk:∀(a:Addr) (ns:List Int),(vs=[.ref a])->(SqL K H a (ns.map V.int))->(ns.length<=63)->(∀H',Q (.bl true) H')->SpLawI K vs H Q
def wB(K:Frag):Sp:=fun vs H Q _=>SpLawI K vs H Q
theorem yc:bootBuiltins "min"=some (.builtin "min"):=by decide +kernel
theorem yd:bootBuiltins "max"=some (.builtin "max"):=by decide +kernel
theorem scLI:FnScope ["_law_script","_law_k","_law_state_here","_law_book_here","_law_got","_law_year"] ["_law_script"] (aK (top 73)):=fQS
theorem FT(F:Fun K "law" "law" (top 73) f fd)(T:Mg mg)(Tr:mg "range"=none)(Tm:mg "max"=none)(Tn:mg "min"=none)
  (c1:Cal P w K mg base 2 "_law_state" ["_law_script","_law_k"] (vG K)) (c2:Cal P w K mg base 4 "_law_book" ["_law_state_here","_law_years","_law_most","_law_sales_here"] vX) (c3:Cal P w K mg base 13 "_law_year_right" ["_law_book_here","_law_year","_law_got"] HS) (c4:Cal P w K mg base 13 "_law_claims_right" ["_law_book_here","_law_year","_law_got"] HY):FnOk P w K mg base CX0 63 f fd ["_law_script"] (wB K):=by
 refine F.ok scLI (fun vs H Q E h=>?_) (fun ah A outer s H vs Q E hr h=>?_)
 .obtain⟨a,ns,rfl,_⟩:=h;rfl
 .obtain⟨a,ns,rfl,hS,hl,q⟩:=h
  refine K22P.ok_b (aV ⟨bV zB4 rfl (cz rfl Tr (az (aO (nF rfl) rfl Tm yd (az aB (az (aO (iw rfl) rfl Tn yc (az (aO bh rfl T.len PySem.boot_len (az (pv 0) aj)) (az aB aj))) aj))) aj)) (pgn 1 scLI.nd)
   (vf (aV (jz 2 scLI.nd ⟨aJ c1 hr (az (pv 0) (az (pv 1) aj))⟩)
   (aV ⟨tY (i:=3) (j:=4) rfl scLI.nd rfl rfl Zx rfl rfl (az (aJ c2 hr (az (pv 2) (az aB (az aB (az aB aj))))) (az lE aj)) rfl⟩
   (aV ⟨bV zB4 rfl (cz rfl Tr (az (aO bh rfl T.len PySem.boot_len (az (pX bJ (pv 3) aB) aj)) aj)) (pgn 5 scLI.nd)
    (aD (cj (bN (d8 (aJ c3 hr (az (pv 3) (az (pv 5) (az (pv 4) aj)))))) (aD (aP gG)) aZ))⟩
   (fJ ⟨cj (bN (d8 (aJ c4 hr (az (pv 3) (az (aR fO (aO bh rfl T.len PySem.boot_len (az (pX bJ (pv 3) aB) aj)) aB) (az (pv 4) aj)))))) (aD (aP gG)) aZ⟩)))))⟩
   (fJ (uo Do))) ?_
  refine aG ?_;have kN:(ns.map V.int).length<=63:=by rw[zA1];exact hl
  refine⟨_,rfl,a,_,rfl,.inl hS,_,_,rfl,_,_,rfl,_,rfl,?_,?_,?_⟩
  .split<;>split<;>lia
  .split<;>split<;>lia
  refine bW (lo:=0) (fun i σ Hc=>∃x1 x2 x3 x4 x5,σ=[some (.ref a),x1,x2,x3,x4,x5]/\Same H Hc) ?_ ?_ ?_
  .exact⟨none,none,none,none,none,rfl,Same.refl H⟩
  .rintro i σ H1 hi ⟨x1,x2,x3,x4,x5,rfl,s1⟩;refine aM (aG ?_);refine aX ?_;refine⟨_,rfl,_,rfl,a,ns,_,rfl,s1.seq hS,Zz,fun st x y hn DZ MZ sf=>?_⟩;have As:H st=none:=s1.free hn
   have g1:jm (upd H1 st (.lst [.int x,.int y])) st:=⟨x,y,ao,DZ,MZ,sf⟩
   have s2:Same H (upd H1 st (.lst [.int x,.int y])):=s1.updR hn;generalize upd H1 st (.lst [.int x,.int y])=H2 at g1 s2⊢;refine aM ?_;dsimp only;have sN:∀{H3},Dr st H2 H3->Same H H3:=fun d b o e=>d.bt b o (s2 _ _ e) (aH e As);refine aG ?_;refine⟨_,rfl,st,12,6,6,rfl,g1,by decide,by decide,by decide,by decide,by decide,by decide,fun bk ac xc cs ap xp ps af xs ss H3 d3 eb rc lc1 Kc okc rp lp okp rs ls cx sC=>?_⟩
   have B3:TB H3 bk ac xc cs ap xp ps af xs ss:=⟨⟨eb,rc,fun r hr=>⟨(okc r hr).1,fun x hx=>((okc r hr).2 x hx).1⟩,Zz,rp,Zz,okp,rs,Zz,fun s hs=>(cx s hs).1,sC⟩,okc,lc1⟩
   have S3:=sN d3;clear eb rc rp rs cx okp okc d3 sN g1 s2
   refine fun gd AZ=>⟨_,_,rfl,?_⟩
   have u:=Same.upd (o:=.dT []) AZ;have B4:=B3.same u
   have G4:GvAt (upd H3 gd (.dT [])) gd (cB cs ps ss 0) []:=⟨ao,fun k=>rfl,(fun q hq=>by cases hq),zA3 _⟩
   have S4:=S3.trans u;have M0:H gd=none:=S3.free AZ;generalize upd H3 gd (.dT [])=H4 at u B4 G4 S4⊢;clear u B3 S3;dsimp only;refine aG ?_;refine⟨_,rfl,bk,_,0,.ref ac,rfl,rfl,SqT.of B4.b.e,rfl,ac,xc,rfl,.inr (SqT.of B4.b.rc.e),_,rfl,by rw[B4.b.rc.l];lia,by rw[B4.b.rc.l];lia,?_⟩;refine bW (lo:=0) (fun j σ Hc=>∃x5 kv,σ=[some (.ref a),some (.int (0+i)),some (.ref st),some (.ref bk),some (.ref gd),x5]/\Bt gd H4 Hc/\GvAt Hc gd (cB cs ps ss j) kv) ?_ ?_ ?_
   .exact⟨_,[],rfl,fun _ _ e _=>e,G4⟩
   .rintro j σ Hc hj ⟨x5,kv,rfl,bt,gv⟩;rw[B4.b.rc.l]at hj;have hj:j<cs.length:=Zz
    refine aM ?_;have z0:(0:Int)+(j:Int)=j:=Zz
    rw[z0];refine⟨_,rfl,_,rfl,_,rfl,bk,gd,j,ac,xc,cs,ap,xp,ps,af,xs,ss,kv,rfl,B4.keep (bt.tups G4.e),hj,gv,fun oj H' E6 BG=>⟨_,rfl,?_⟩⟩;refine bA ?_;exact⟨_,oj,rfl,Bt.trans bt E6,BG⟩
   rintro σ Hc ⟨x5,kv,rfl,bt,gv⟩;rw[B4.b.rc.l]at gv;have lc1:=B4.lc1
   obtain⟨m,em⟩:∃m,cs.length=m+1:=⟨cs.length-1,Zz⟩
   rw[em]at gv;have S5:Same H Hc:=fun b o e=>bt _ _ (S4 _ _ e) (aH e M0);have B5:=B4.keep (bt.tups G4.e);dsimp only;have ev:((xc.length:Int)-1)=(m:Int):=by rw[B4.b.rc.l,em];lia
   refine⟨_,rfl,_,rfl,bk,_,0,.ref ac,rfl,rfl,SqT.of B5.b.e,rfl,ac,xc,rfl,.inr (SqT.of B5.b.rc.e),_,_,rfl,rfl,_,rfl,bk,gd,m,ac,xc,cs,ap,xp,ps,af,xs,ss,kv,by rw[<-ev];rfl,B5,Zz,gv,fun H' s'=>⟨_,rfl,?_⟩⟩;refine bA ?_;exact⟨_,_,_,_,_,rfl,S5.trans s'⟩
  .rintro σ Hc ⟨x1,x2,x3,x4,x5,rfl,sc⟩;exact q Hc
end K22
structure PySem.W.Fast:Prop where
 (tw11750613313644892256 tw1917213325775264000 tw8440481285462524224 tw11847877156115989888 tw14778861172432221568 tw12489566022666579360 tw5433933152414728608 tw2781765037738464736 tw16661915760534120928 tw13144072070704805376 tw14125701405905939072 tw15922923956259548960 tw14490342977110512480 tw6958690873997360032 tw8812925843724743681 tw7866529747966400609 tw14721174014171804865 tw3813408110000716065 tw11487824331860264257 tw4455842838549464449 tw7129668508453094817 tw71469037814127073 tw9335443463353229793 tw8872236313367853569 tw11279135066868257 tw4945059443762957857 tw1135895279921606241 tw12183632465935027841 tw16487606152032913025 tw14056708543669912417 tw9405820000903186305 tw17024634956424989601 tw5956501424353718306 tw15580171555641839650 tw14411093900044887074 tw8858577459923505218 tw14589352411072051298 tw16945269977205946466 tw13891866301448899682 tw15909768724477472898 tw8967290744333602978 tw12566301840247364834 tw10412906466787615970 tw11800097617758284002 tw7972386474147780866 tw6372110615364187394 tw16563937609699068354 tw9754305348662458850 tw2122262678671526466 tw3465558356251506242 tw13998780077404827234 tw4244015838574910210 tw14300864344602289026 tw2170257189881619426 tw16294105363195309026 tw2140618773839627299 tw1770160859803607075 tw5120349157769388291 tw9359825294953646371 tw6204122857400645955 tw1001912464217586019 tw5008307785298119139 tw15964892337579446787 tw3048681536356902467 tw6857161313601172131 tw13659804909940232899 tw1387834299798613827 tw16069211628562362211 tw17254213094928377795 tw8275302582263137412 tw10871352176175035556 tw10669892845870686628 tw3070661218093196836 tw12752906547579635492 tw12046374517296967492 tw18378883806236516196 tw18284641633479292804 tw6638571037066014660 tw17748499060982049797 tw16702367413178575973 tw3075163783247583333 tw2210061475510263941 tw4685549116680924293 tw3827314541961008485 tw2049206183686245893 tw3094286494517613061 tw8662633777985900133 tw11005733566921570949 tw13934646017539655365 tw826017142783892229 tw12600155832222832389 tw17656460821523340422 tw7156131692292643174 tw10237268350584112550 tw5423822044952955366 tw10026271305513083366 tw17485640748438515398 tw1662316014594476006 tw3408869338303387622 tw11715542940955086983 tw6429132105316889767 tw2400366935049134407 tw6783160316599623207 tw12704518585599613671 tw5063726364337516295 tw11146868408227284743 tw10129288450231711559 tw12096616593359747911 tw17191079694016636743 tw3247162609907156967 tw13500502500670017576 tw242998496191667272 tw12889341752262461768 tw8061822835445158312 tw10731234438625046152 tw8476886013592395528 tw8104529962099682184 tw11676036169091063720 tw16243588353323708328 tw17283579385041151944 tw11295393731215070249 tw16695253715387650377 tw4294160068530969001 tw16972217419250779657 tw5198007336645502537 tw17761342889119892105 tw1700008199026725577 tw14933810492657264489 tw139929096356500361 tw15484892931748995082 tw12879272947082709194 tw6115802636505352394 tw5306633535624941802 tw15498425815900671274 tw6395968044595371370 tw16875942507817927050 tw14520051463452767658 tw16686345245515582890 tw12198453833925540458 tw5785699481495961290 tw6174906211978650346 tw6555254661384564554 tw9089984873991831434 tw13613607288632575914 tw7405073079128441834 tw7572936664139212875 tw4220635649608762443 tw6062558226494475435 tw395952316513455307 tw17149447490993701099 tw13944878274010553611 tw16887436419624095147 tw1148606124601102827 tw16995798113300563499 tw11474757518774358699 tw3889601775354978987 tw8289945623972867787 tw5998680432056986347 tw5878400773202552619 tw11423921221367155627 tw13067614059057401932 tw16100974953921321196 tw3174267082922366316 tw12269000346075552204 tw4284618663578464780 tw3482523733099090476 tw5558212198384140908 tw12606177664867051148 tw15098932327622718124 tw3625946741665637100 tw15334107156232571660 tw4739180023665880972 tw1220756835207410604 tw17252570827455174572 tw5085832359277005069 tw12280772470359598445 tw5415582362862181901 tw5838716697934209613 tw12760722639140185709 tw17281631819562030733 tw11298161756632392589 tw7261576894000434350 tw2432311332934045934 tw8064268085628424590 tw7015753510693624398 tw8335156164606582446 tw835490147655698126 tw16957745360622225294 tw16066871902585838639 tw1215594050326884463 tw1139846326276673647 tw10232890582170120463 tw5570705537733397903 tw3048775754278746607 tw2748711978995129871 tw2062524879155238511 tw5813194407482032847 tw11310791106575529711 tw10534447073633615759 tw17721254116101375919 tw4955262807800810512 tw7953056025276975120 tw15972400855225596944 tw4761089871351018672 tw17087242583577743728 tw7766361988217259408 tw230517862814245648 tw2714882060261809008 tw206281931556897744 tw5338065036536084464 tw2414606347502320624 tw3508670450719325201 tw3444576703192898609 tw14526045430404266033 tw8236929079371554961 tw6858190579934952817 tw11090834496882553233 tw7844760563013877457 tw10644887012251027249 tw11848951890444688273 tw7841441592169639026 tw4547713284844269714 tw14120589966549466322 tw6601685579396474162 tw8664692454209525106 tw16387600529767560658 tw1581747646147806674 tw2517179237753062962 tw12000982108096241362 tw11920494157381302034 tw2405158100259730226 tw15526035672024045522 tw790452083233571923 tw1376774912712157299 tw12073337066458547443 tw333920949996783859 tw3630893159815767411 tw6787677525402159635 tw9886387026642818675 tw11269428122530524819 tw1029942227908694675 tw457327705646701235 tw6603772808660605651 tw1237818381148254963 tw13910189096632068851 tw16988941583799500563 tw1594510460356185939 tw9100010126137013235 tw17634969007659717652 tw9917856976716563476 tw3376143545335161908 tw7836151487010580692 tw5491264231393363252 tw15083870109338242452 tw17512720230061428244 tw14858069206266917428 tw6887932511625906900 tw7800598876909393620 tw14295348457809267540 tw9243041869063260020 tw13397551461202406292 tw12647214754967891892 tw16093160275799388181 tw14542444749598866485 tw12226126437021029493 tw1072133840994513141 tw7486575926945897717 tw6559248812198843957 tw15272400732032648821 tw5937207316514708213 tw3473470269983800085 tw6419210363940987861 tw3996994584182587381 tw10713638186548316278 tw3622497751356378230 tw10628474861566532726 tw10559518664800834742 tw9239662804676625622 tw2961992193562247414 tw13187234948258291958 tw7388459575249502486 tw12500073580523077142 tw17973386606752801334 tw12551924068345178678 tw1040467754863637142 tw15549547780239437526 tw2286409342239390422 tw1344597350173196022 tw2338582168196281078 tw9693066301528591094 tw699106002797622038 tw2349560798167686134 tw9060824324239910007 tw7360171439525872791 tw14417489288259826935 tw766285703108945175 tw6856555857256457527 tw748955069718336983 tw15634314383432845783 tw16343456897105374711 tw7530629631645997591 tw12768578348243092023 tw10137531099220739671 tw6254581272579835511 tw9380408357010748151 tw9542240546252946199 tw2825758899824583511 tw18280171208761360375 tw11646729446406116856 tw6541896947541551640 tw18229593317649663512 tw10733099412194753080 tw10108528488292691576 tw14792473523671516888 tw1619035230168608696 tw7713508278487915641 tw14430979247012136089 tw9318039232775950841 tw17178649951442934329 tw14653967736172692153 tw5897985251866735289 tw8282964549043100377 tw13087016327351885593 tw6002852923272405785 tw11714665781635094361 tw12439912486908292025 tw7588864192064490489 tw738670641690418202 tw11830917419578604698 tw8238960359299877050 tw14344973647739280602 tw14782384267359069562 tw1807092506303971802 tw5560611524483086842 tw9099453673875300122 tw10639645784717916986 tw17386316506522683290 tw14422560941634665466 tw1953113192957646907 tw11779096986514604155 tw7710441188605381883 tw16829996584147173627 tw10552872388351614267 tw15985436315404536219 tw17694943512462625211 tw14710799817282577883 tw5585026563813870075 tw9391830691776209499 tw18050745143991986779 tw8494226886361948027 tw9164479005529542555 tw1960845749429315612 tw2597761424887423036 tw1056863041895482556 tw6252559258491660476 tw2653394743913756924 tw7473209936350417180 tw6230573895646714140 tw14950635728732188028 tw9812339477550971292 tw3792061472460726716 tw18069136411777996220 tw11021025907347000892 tw15269433528887040668 tw10081377045641694972 tw8940194084732587964 tw12789607878583272444 tw17490198331514829981 tw7787115025698741437 tw6966291220405932541 tw99881119094480413 tw8677012138991747645 tw938055527605575293 tw16286696436150493917 tw7234993690671882013 tw4140156449120767773 tw3004247732966884221 tw16856634048427746269 tw2911160603514631165 tw3099141496614713438 tw9837511009790991550 tw6050704079382052446 tw10490718554995149438 tw13855695709359067870 tw11209073383465916222 tw8537403261032679230 tw14850140932172941182 tw14483198012813422462 tw9409381683248950431 tw4055609347178674431 tw13606856585906376127 tw16220414278515084799 tw17417001726715159231 tw13476930358224190367 tw13932980314918908831 tw4792740233175299007 tw11745938816091613151 tw11851908131060343807 tw14027885164462918140:True)
namespace K22
open PySem L2
theorem el1{C:List Value->Prop}(h:∀a0:Value,C [a0]):∀us:List Value,us.length=1->C us:=fun us e=>match us,e with|[a0],_=>h a0
theorem el2{C:List Value->Prop}(h:∀a0 a1:Value,C [a0,a1]):∀us:List Value,us.length=2->C us:=fun us e=>match us,e with|[a0,a1],_=>h a0 a1
theorem el3{C:List Value->Prop}(h:∀a0 a1 a2:Value,C [a0,a1,a2]):∀us:List Value,us.length=3->C us:=fun us e=>match us,e with|[a0,a1,a2],_=>h a0 a1 a2
theorem el4{C:List Value->Prop}(h:∀a0 a1 a2 a3:Value,C [a0,a1,a2,a3]):∀us:List Value,us.length=4->C us:=fun us e=>match us,e with|[a0,a1,a2,a3],_=>h a0 a1 a2 a3
theorem el5{C:List Value->Prop}(h:∀a0 a1 a2 a3 a4:Value,C [a0,a1,a2,a3,a4]):∀us:List Value,us.length=5->C us:=fun us e=>match us,e with|[a0,a1,a2,a3,a4],_=>h a0 a1 a2 a3 a4
def Has(K:Frag)(x:Str)(st:Stmt):Prop:=∃(f:Addr) (od an:Option Addr) (sl:Array (Option Value)) (oc kV dc pm cd ct:Value),PySem.W.nsIn K mainGlobals x=some (some (.ref f)) /\
 K.lookup f=some ⟨oc,od,.func (PySem.W.fnOf x x (fG st) (eG st) (aK st) .none kV dc pm an cd ct),sl⟩/\PySem.W.codeIn K cd x=true/\PySem.W.keepIn K (.ref f)=true
theorem has_mk{K:Frag}{x:Str}{st:Stmt}{f:Addr}{od an:Option Addr}{sl:Array (Option Value)}{oc kV dc pm cd ct:Value}(a:PySem.W.nsIn K mainGlobals x=some (some (.ref f)))
  (l:K.lookup f=some ⟨oc,od,.func (PySem.W.fnOf x x (fG st) (eG st) (aK st) .none kV dc pm an cd ct),sl⟩) (c:PySem.W.codeIn K cd x=true) (k:PySem.W.keepIn K (.ref f)=true):Has K x st:=⟨f,od,an,sl,oc,kV,dc,pm,cd,ct,a,l,c,k⟩
theorem Has.get{K:Frag}{x:Str}{st:Stmt}{h:Heap}{mg:Str->Option Value}(H:Has K x st)(X:K.In h)(G:h.Ns mainGlobals mg):∃f fd,Fun K x x st f fd/\mg x=some (.ref f):=by
 obtain⟨f,od,an,sl,oc,kV,dc,pm,cd,ct,a,l,c,k⟩:=H;exact⟨f,_,yw (st:=st) l c k,PySem.W.mg_of X G a⟩
theorem aU(P:Program)(w:World)(base:Heap){K:Frag}{mg:Str->Option Value}{k:Nat}{x:Str}{ps:List Str}{sp:Sp}{f:Addr}{fd:FuncData}(F:FnOk P w K mg base CX0 k f fd ps sp)(m:mg x=some (.ref f))(kp:PySem.W.keepIn K (.ref f)=true)(b:Binds K fd ps []):Cal P w K mg base k x ps sp:=⟨f,fd,F,m,kp,b⟩
theorem all_mk{l:PySem.W.OpenLaw}{w:World}{K:Frag}{h:Heap}{mg:Str->Option Value}{fa fL:Addr}{M3 Kp:Option Addr}{M4:Array (Option Value)}{M5 Kq Kr tw E9 Ks:Value}{t0 t1 t2 t3 t4 t5 t6 t7 t8 t9 Kt:Tok}(X:K.In h)(G:h.Ns mainGlobals mg)(M6:mg "law"=some (.ref fa))
  (h9:Has K "is_whole" (top 9))
  (h10:Has K "is_whole_from" (top 10))
  (h11:Has K "is_tuple_of" (top 11))
  (h12:Has K "are_wholes" (top 12))
  (h23:Has K "is_clip" (top 23))
  (h24:Has K "are_clips" (top 24))
  (h25:Has K "is_promise" (top 25))
  (h26:Has K "are_promises" (top 26))
  (h27:Has K "are_sales" (top 27))
  (h28:Has K "held_in" (top 28))
  (h29:Has K "is_sale_between" (top 29))
  (h30:Has K "sale_holds" (top 30))
  (h31:Has K "first_unheld" (top 31))
  (h32:Has K "is_book" (top 32))
  (h33:Has K "refuse_no_book" (top 33))
  (h34:Has K "holdings" (top 34))
  (h38:Has K "are_weights" (top 38))
  (h39:Has K "refuse_unpartable" (top 39))
  (h40:Has K "places_by_rest" (top 40))
  (h41:Has K "parts_of" (top 41))
  (h42:Has K "parted" (top 42))
  (h44:Has K "sacks_of" (top 44))
  (h45:Has K "claims_in" (top 45))
  (h46:Has K "shares_of" (top 46))
  (h47:Has K "made_good" (top 47))
  (h48:Has K "sort_given" (top 48))
  (h49:Has K "year_given" (top 49))
  (h50:Has K "years_given" (top 50))
  (h51:Has K "refuse_no_year_of" (top 51))
  (h52:Has K "refuse_no_year" (top 52))
  (h53:Has K "gifts_in" (top 53))
  (h54:Has K "left_in" (top 54))
  (h56:Has K "owed_behind" (top 56))
  (h57:Has K "owed_by" (top 57))
  (h59:Has K "_law_cell_at" (top 59))
  (h60:Has K "_law_state" (top 60))
  (h61:Has K "_law_take" (top 61))
  (h62:Has K "_law_clips" (top 62))
  (h63:Has K "_law_promises" (top 63))
  (h64:Has K "_law_begun" (top 64))
  (h65:Has K "_law_holds" (top 65))
  (h66:Has K "_law_sell" (top 66))
  (h67:Has K "_law_sold" (top 67))
  (h68:Has K "_law_any_sale" (top 68))
  (h69:Has K "_law_sales" (top 69))
  (h70:Has K "_law_book" (top 70))
  (h71:Has K "_law_year_right" (top 71))
  (h72:Has K "_law_claims_right" (top 72))
  (aL:PySem.W.nsIn K mainGlobals "law"=some (some (.ref fL))) (lL:K.lookup fL=some ⟨M5,M3,.func (PySem.W.fnOf "law" "law" (fG (top 73)) (eG (top 73)) (aK (top 73)) .none Kq Kr tw Kp E9 Ks),M4⟩) (cL:PySem.W.codeIn K E9 "law"=true) (kL:PySem.W.keepIn K (.ref fL)=true)
  (n0:PySem.W.nsIn K mainGlobals "SORTS"=some (some (.int 3 t0)))
  (n1:PySem.W.nsIn K mainGlobals "HOLDERS"=some (some (.int 8 t1)))
  (n2:PySem.W.nsIn K mainGlobals "LAST_YEAR"=some (some (.int 19 t2)))
  (n3:PySem.W.nsIn K mainGlobals "MOST_CLIPS"=some (some (.int 20 t3)))
  (n4:PySem.W.nsIn K mainGlobals "MOST_PROMISES"=some (some (.int 10 t4)))
  (n5:PySem.W.nsIn K mainGlobals "MOST_WOOL"=some (some (.int 999 t5)))
  (n6:PySem.W.nsIn K mainGlobals "MOST_SACKS"=some (some (.int 99 t6)))
  (n7:PySem.W.nsIn K mainGlobals "MOST_PRICE"=some (some (.int 1000000 t7)))
  (n8:PySem.W.nsIn K mainGlobals "MOST_SALES"=some (some (.int 12 t8)))
  (n9:PySem.W.nsIn K mainGlobals "MOST_WEIGHTS"=some (some (.int 80 t9)))
  (n10:PySem.W.nsIn K mainGlobals "MOST_WEIGHT"=some (some (.int 99 Kt)))
  (bX:PySem.W.nsIn K mainGlobals "isinstance"=some none)
  (oC:PySem.W.nsIn K mainGlobals "int"=some none)
  (kC:PySem.W.nsIn K mainGlobals "bool"=some none)
  (gz:PySem.W.nsIn K mainGlobals "tuple"=some none)
  (oD:PySem.W.nsIn K mainGlobals "len"=some none)
  (oI:PySem.W.nsIn K mainGlobals "all"=some none)
  (aw:PySem.W.nsIn K mainGlobals "range"=some none)
  (kD:PySem.W.nsIn K mainGlobals "list"=some none)
  (oP:PySem.W.nsIn K mainGlobals "max"=some none)
  (gE:PySem.W.nsIn K mainGlobals "min"=some none)
  (AH:PySem.W.nsIn K mainGlobals "zip"=some none)
  (ai:PySem.W.nsIn K mainGlobals "enumerate"=some none)
  (fq:PySem.W.nsIn K mainGlobals "sorted"=some none)
  (dA:PySem.W.nsIn K mainGlobals "sum"=some none)
  (sM:PySem.W.nsIn K mainGlobals "dict"=some none)
  : ∃fd:FuncData,(∀(s:Shared) (v:Value),BindsTo s fd ⟨[v],[]⟩ [("_law_script",v)])/\∀base:Heap,K.In base->base.Ns mainGlobals mg->FnOk l.prog w K mg base CX0 63 fa fd ["_law_script"] (wB K):=by
 have e:=M6.symm.trans (PySem.W.mg_of X G aL);cases e;have FL:=yw (st:=top 73) lL cL kL;obtain⟨f9,QV,F9,m9⟩:=h9.get X G;have b9:=F9.binds (ps:=["thing"]) fun _ _ _ _ _ _=>el1 fun _=>rfl;obtain⟨QW,M7,Fc,M8⟩:=h10.get X G;have M9:=Fc.binds (ps:=["thing","least","most"]) fun _ _ _ _ _ _=>el3 fun _ _ _=>rfl;obtain⟨QX,Na,Fh,Nb⟩:=h11.get X G;have Nd:=Fh.binds (ps:=["thing","fewest","most"]) fun _ _ _ _ _ _=>el3 fun _ _ _=>rfl;obtain⟨QY,Nf,Fm,Ng⟩:=h12.get X G;have Nh:=Fm.binds (ps:=["thing","many"]) fun _ _ _ _ _ _=>el2 fun _ _=>rfl;obtain⟨QZ,Ni,Fn,Nj⟩:=h23.get X G;have Nk:=Fn.binds (ps:=["thing"]) fun _ _ _ _ _ _=>el1 fun _=>rfl;obtain⟨Q0,Nl,Fs,Nm⟩:=h24.get X G;have Nn:=Fs.binds (ps:=["thing"]) fun _ _ _ _ _ _=>el1 fun _=>rfl;obtain⟨Q3,Np,Fu,Nq⟩:=h25.get X G;have Nr:=Fu.binds (ps:=["thing"]) fun _ _ _ _ _ _=>el1 fun _=>rfl;obtain⟨Q4,Nt,FA,Nu⟩:=h26.get X G;have Nv:=FA.binds (ps:=["thing"]) fun _ _ _ _ _ _=>el1 fun _=>rfl;obtain⟨Q5,Nw,FC,Nx⟩:=h27.get X G;have Ny:=FC.binds (ps:=["thing"]) fun _ _ _ _ _ _=>el1 fun _=>rfl;obtain⟨Q6,Nz,FD,NA⟩:=h28.get X G;have NB:=FD.binds (ps:=["promises","sales","number","year"]) fun _ _ _ _ _ _=>el4 fun _ _ _ _=>rfl;obtain⟨Q7,NC,FE,ND⟩:=h29.get X G;have NF:=FE.binds (ps:=["promises","sale"]) fun _ _ _ _ _ _=>el2 fun _ _=>rfl;obtain⟨Q8,NG,FF,NH⟩:=h30.get X G;have NI:=FF.binds (ps:=["promises","ahead","sale"]) fun _ _ _ _ _ _=>el3 fun _ _ _=>rfl;obtain⟨Q9,NJ,FG,NK⟩:=h31.get X G;have NL:=FG.binds (ps:=["promises","sales"]) fun _ _ _ _ _ _=>el2 fun _ _=>rfl;obtain⟨Ra,NM,FH,NN⟩:=h32.get X G;have NO:=FH.binds (ps:=["thing"]) fun _ _ _ _ _ _=>el1 fun _=>rfl;obtain⟨Rb,NQ,FI,NR⟩:=h33.get X G;have NS:=FI.binds (ps:=["thing"]) fun _ _ _ _ _ _=>el1 fun _=>rfl;obtain⟨Rc,NT,FK,NU⟩:=h34.get X G;have NV:=FK.binds (ps:=["book","number","year"]) fun _ _ _ _ _ _=>el3 fun _ _ _=>rfl;obtain⟨Rf,NW,FO,NX⟩:=h38.get X G;have NY:=FO.binds (ps:=["thing"]) fun _ _ _ _ _ _=>el1 fun _=>rfl;obtain⟨Rg,NZ,FR,N0⟩:=h39.get X G;have N1:=FR.binds (ps:=["sacks","weights"]) fun _ _ _ _ _ _=>el2 fun _ _=>rfl;obtain⟨Rh,N3,FU,N4⟩:=h40.get X G;have N5:=FU.binds (ps:=["rests"]) fun _ _ _ _ _ _=>el1 fun _=>rfl;obtain⟨Ri,N6,FV,N7⟩:=h41.get X G;have N8:=FV.binds (ps:=["sacks","weights"]) fun _ _ _ _ _ _=>el2 fun _ _=>rfl;obtain⟨Rj,N9,FX,Oa⟩:=h42.get X G;have Ob:=FX.binds (ps:=["sacks","weights"]) fun _ _ _ _ _ _=>el2 fun _ _=>rfl;obtain⟨Rk,Oc,FY,Od⟩:=h44.get X G;have Oe:=FY.binds (ps:=["rows"]) fun _ _ _ _ _ _=>el1 fun _=>rfl;obtain⟨Rl,Of,F1,Og⟩:=h45.get X G;have Oh:=F1.binds (ps:=["promises","sales","sort","year"]) fun _ _ _ _ _ _=>el4 fun _ _ _ _=>rfl;obtain⟨Rm,Oi,F2,Oj⟩:=h46.get X G;have Ol:=F2.binds (ps:=["wool","claims"]) fun _ _ _ _ _ _=>el2 fun _ _=>rfl;obtain⟨Rn,Om,F3,Oo⟩:=h47.get X G;have Oq:=F3.binds (ps:=["wool","owed"]) fun _ _ _ _ _ _=>el2 fun _ _=>rfl;obtain⟨Ro,Ot,F4,Ou⟩:=h48.get X G;have Ov:=F4.binds (ps:=["wool","claims","owed"]) fun _ _ _ _ _ _=>el3 fun _ _ _=>rfl;obtain⟨Rp,Ow,F5,Ox⟩:=h49.get X G;have Oy:=F5.binds (ps:=["book","year","owed"]) fun _ _ _ _ _ _=>el3 fun _ _ _=>rfl;obtain⟨Rq,Oz,F6,OA⟩:=h50.get X G;have OB:=F6.binds (ps:=["book","year"]) fun _ _ _ _ _ _=>el2 fun _ _=>rfl;obtain⟨Rr,OC,F7,OD⟩:=h51.get X G;have OE:=F7.binds (ps:=["clips","year"]) fun _ _ _ _ _ _=>el2 fun _ _=>rfl;obtain⟨Rt,OF,F8,OG⟩:=h52.get X G;have OH:=F8.binds (ps:=["book","year"]) fun _ _ _ _ _ _=>el2 fun _ _=>rfl;obtain⟨Ru,OI,GA,OJ⟩:=h53.get X G;have OK:=GA.binds (ps:=["book","year"]) fun _ _ _ _ _ _=>el2 fun _ _=>rfl;obtain⟨Rv,OL,GB,OM⟩:=h54.get X G;have ON:=GB.binds (ps:=["book","year"]) fun _ _ _ _ _ _=>el2 fun _ _=>rfl;obtain⟨Rw,OO,GH,OP⟩:=h56.get X G;have OQ:=GH.binds (ps:=["book","year"]) fun _ _ _ _ _ _=>el2 fun _ _=>rfl;obtain⟨Rx,OR,GI,OS⟩:=h57.get X G;have OT:=GI.binds (ps:=["book","year"]) fun _ _ _ _ _ _=>el2 fun _ _=>rfl;obtain⟨Ry,OU,GL,OV⟩:=h59.get X G;have OW:=GL.binds (ps:=["_law_script","_law_k"]) fun _ _ _ _ _ _=>el2 fun _ _=>rfl;obtain⟨Rz,OX,GN,OY⟩:=h60.get X G;have OZ:=GN.binds (ps:=["_law_script","_law_k"]) fun _ _ _ _ _ _=>el2 fun _ _=>rfl;obtain⟨RA,O0,GO,O3⟩:=h61.get X G;have O4:=GO.binds (ps:=["_law_state_here","_law_many"]) fun _ _ _ _ _ _=>el2 fun _ _=>rfl;obtain⟨RB,O5,GS,O6⟩:=h62.get X G;have O7:=GS.binds (ps:=["_law_state_here","_law_most"]) fun _ _ _ _ _ _=>el2 fun _ _=>rfl;obtain⟨RC,O8,GU,O9⟩:=h63.get X G;have Pa:=GU.binds (ps:=["_law_state_here","_law_most","_law_years"]) fun _ _ _ _ _ _=>el3 fun _ _ _=>rfl;obtain⟨RD,Pb,GV,Pc⟩:=h64.get X G;have Pd:=GV.binds (ps:=["_law_promises_here"]) fun _ _ _ _ _ _=>el1 fun _=>rfl;obtain⟨RE,Pe,GW,Pf⟩:=h65.get X G;have Pg:=GW.binds (ps:=["_law_promises_here","_law_rows","_law_sale"]) fun _ _ _ _ _ _=>el3 fun _ _ _=>rfl;obtain⟨RF,Ph,GY,Pj⟩:=h66.get X G;have Pk:=GY.binds (ps:=["_law_promises_here","_law_rows","_law_sale"]) fun _ _ _ _ _ _=>el3 fun _ _ _=>rfl;obtain⟨RG,Pl,AI,Ku⟩:=h67.get X G;have Kv:=AI.binds (ps:=["_law_promises_here","_law_sales_here"]) fun _ _ _ _ _ _=>el2 fun _ _=>rfl;obtain⟨RH,Pm,G0,Pn⟩:=h68.get X G;have Po:=G0.binds (ps:=["_law_state_here","_law_promises_here"]) fun _ _ _ _ _ _=>el2 fun _ _=>rfl;obtain⟨RI,Pp,HA,Pq⟩:=h69.get X G;have Pr:=HA.binds (ps:=["_law_state_here","_law_promises_here","_law_most"]) fun _ _ _ _ _ _=>el3 fun _ _ _=>rfl;obtain⟨RJ,Pt,HC,Pu⟩:=h70.get X G;have Pw:=HC.binds (ps:=["_law_state_here","_law_years","_law_most","_law_sales_here"]) fun _ _ _ _ _ _=>el4 fun _ _ _ _=>rfl;obtain⟨RK,Px,HE,Py⟩:=h71.get X G;have Pz:=HE.binds (ps:=["_law_book_here","_law_year","_law_got"]) fun _ _ _ _ _ _=>el3 fun _ _ _=>rfl;obtain⟨RL,PB,HG,PD⟩:=h72.get X G;have PF:=HG.binds (ps:=["_law_book_here","_law_year","_law_got"]) fun _ _ _ _ _ _=>el3 fun _ _ _=>rfl
 have T:Mg mg:=⟨(zAw X G bX),(zAw X G oC),(zAw X G kC),(zAw X G gz),(zAw X G oD),(zAw X G oI)⟩
 have TP:K22.Mg mg:=⟨(zAw X G bX),(zAw X G oC),(zAw X G kC),(zAw X G gz),(zAw X G oD),(zAw X G oI)⟩
 have N:Nums mg:=⟨⟨t0,PySem.W.mg_of X G n0⟩,⟨t1,PySem.W.mg_of X G n1⟩,⟨t2,PySem.W.mg_of X G n2⟩,⟨t3,PySem.W.mg_of X G n3⟩,⟨t4,PySem.W.mg_of X G n4⟩,⟨t5,PySem.W.mg_of X G n5⟩,⟨t6,PySem.W.mg_of X G n6⟩,⟨t7,PySem.W.mg_of X G n7⟩⟩
 have NP:K22P.Nums mg:=⟨⟨t9,PySem.W.mg_of X G n9⟩,⟨Kt,PySem.W.mg_of X G n10⟩⟩
 have N2:MS mg:=⟨⟨t8,PySem.W.mg_of X G n8⟩⟩
 refine⟨PySem.W.fnOf "law" "law" (fG (top 73)) (eG (top 73)) (aK (top 73)) .none Kq Kr tw Kp E9 Ks,fun s v=>.of_eq rfl,fun base _ _=>?_⟩;have C9:=aU l.prog w base (su F9 T) m9 F9.kp b9;have BH:=aU l.prog w base (nq Fc C9) M8 Fc.kp M9;have uk:=aU l.prog w base (mj Fh T) Nb Fh.kp Nd;have HI:=aU l.prog w base (mZ Fm T C9 uk) Ng Fm.kp Nh;have PH:=aU l.prog w base (uD Fn T N HI) Nj Fn.kp Nk;have PJ:=aU l.prog w base (qw Fs T N PH uk) Nm Fs.kp Nn;have PL:=aU l.prog w base (ni Fu T N HI) Nq Fu.kp Nr;have Kw:=aU l.prog w base (jV FA T N PL uk) Nu FA.kp Nv;have Kx:=aU l.prog w base (qz FC T N2 HI uk) Nx FC.kp Ny;have HK:=aU l.prog w base (BW FD N) NA FD.kp NB;have PM:=aU l.prog w base (BX FE T N) ND FE.kp NF;have PN:=aU l.prog w base (zg FF T (zAw X G aw) PM HK) NH FF.kp NI;have PQ:=aU l.prog w base (zj FG (zAw X G ai) Kw Kx PN) NK FG.kp NL;have PR:=aU l.prog w base (BZ FH uk PJ Kw Kx PQ) NN FH.kp NO;have Ky:=aU l.prog w base (Cu FI PR) NR FI.kp NS;have PU:=aU l.prog w base (CT FK T N (zAw X G ai) Ky BH HK) NU FK.kp NV;have PV:=aU l.prog w base (K22P.ok_are_weights FO TP NP BH uk) NX FO.kp NY;have PX:=aU l.prog w base (K22P.ok_refuse FR (zAw X G dA) PV BH) N0 FR.kp N1;have PY:=aU l.prog w base (K22P.ok_places FU (zAw X G ai) (zAw X G fq)) N4 FU.kp N5;have PZ:=aU l.prog w base (K22P.ok_parts FV TP (zAw X G dA) PY) N7 FV.kp N8;have P0:=aU l.prog w base (K22P.ok_parted FX PX PZ) Oa FX.kp Ob;have P1:=aU l.prog w base (zm FY (zAw X G dA)) Od FY.kp Oe;have P2:=aU l.prog w base (xO F1 (zAw X G ai) HK) Og F1.kp Oh;have P4:=aU l.prog w base (xN F2 T (zAw X G dA) P0) Oj F2.kp Ol;have P5:=aU l.prog w base (Ce F3 (zAw X G gE)) Oo F3.kp Oq;have P6:=aU l.prog w base (zx F4 (zAw X G dA) (zAw X G kD) (zAw X G AH) P4 P5) Ou F4.kp Ov;have P7:=aU l.prog w base (Ck F5 T N (zAw X G aw) (zAw X G fq) P2 P6 P1) Ox F5.kp Oy;have HL:=aU l.prog w base (zP F6 (zAw X G aw) P7) OA F6.kp OB;have P8:=aU l.prog w base (Cv F7 T BH) OD F7.kp OE;have HM:=aU l.prog w base (Aa F8 Ky P8) OG F8.kp OH;have P9:=aU l.prog w base (Ab GA HM HL) OJ GA.kp OK;have Qa:=aU l.prog w base (CK GB HM HL) OM GB.kp ON;have Qb:=aU l.prog w base (Ac GH HL) OP GH.kp OQ;have Kz:=aU l.prog w base (Cz GI HM Qb) OS GI.kp OT;have Qd:=aU l.prog w base (BR GL T) OV GL.kp OW;have Qe:=aU l.prog w base (yZ GN Qd) OY GN.kp OZ;have BI:=aU l.prog w base (BV GO) O3 GO.kp O4;have Qf:=aU l.prog w base (xW GS T (zAw X G aw) BI) O6 GS.kp O7;have Qg:=aU l.prog w base (qH GU T (zAw X G aw) (zAw X G gE) BI) O9 GU.kp Pa;have KA:=aU l.prog w base (zQ GV (zAw X G ai) (zAw X G aw)) Pc GV.kp Pd;have KC:=aU l.prog w base (xR GW T (zAw X G aw) (zAw X G gE)) Pf GW.kp Pg;have KD:=aU l.prog w base (Cq GY (zAw X G aw)) Pj GY.kp Pk;have RM:=aU l.prog w base (tE AI (zAw X G ai) KA KC KD) Ku AI.kp Kv;have CS:=aU l.prog w base (Cr (tE AI (zAw X G ai) KA KC KD)) Ku AI.kp Kv;have Qh:=aU l.prog w base (Fx G0 T (zAw X G oP) BI) Pn G0.kp Po;have Qi:=aU l.prog w base (xX HA T (zAw X G aw) BI Qh CS) Pq HA.kp Pr;have Qj:=aU l.prog w base (xY HC T Qf Qg Qi) Pu HC.kp Pw;have Qk:=aU l.prog w base (HX HE (zAw X G aw) (zAw X G dA) Qa P9 Kz) Py HE.kp Pz;have Ql:=aU l.prog w base (Ia HG T (zAw X G aw) (zAw X G kD) (zAw X G sM) PU Kz) PD HG.kp PF;exact FT FL T (zAw X G aw) (zAw X G oP) (zAw X G gE) Qe Qj Qk Ql
theorem walk{l:PySem.W.OpenLaw}{q:Program}{loose:List Str}{XP:(Str->Option Value)->Heap->Prop}{YP:World->Heap->Prop}{d:DefRec}{K:Params->Frag}(hn:l.most=some 63)(vx:d.params.defaults=[])
  (hY:∀(w:World) (h:Heap),YP w h->(K w.params).In h)
  (F:∀(w:World) (mg:Str->Option Value) (fa:Addr) (h:Heap),(K w.params).In h->h.Ns mainGlobals mg->mg d.name=some (.ref fa)->
   ∃fd:FuncData,(∀(s:Shared) (u:Value),BindsTo s fd ⟨[u],[]⟩ [("_law_script",u)])/\∀base:Heap,(K w.params).In base->base.Ns mainGlobals mg->FnOk l.prog w (K w.params) mg base CX0 63 fa fd ["_law_script"] (wB (K w.params))):
  PySem.W.WalkO q loose XP YP l.row.toRowW d [] (fun f vs=>PySem.call f vs):=
 L2.walk_of (n:=63) (k:=63) (x:="_law_script") (CX:=fun _=>CX0) (sp:=fun w=>wB (K w.params)) hn Zx vx ⟨rfl,by decide,by decide,rfl⟩ hY F (fun _ _ a ns hl _ hS=>⟨a,ns,rfl,hS,hl,fun _=>rfl⟩) fun _ _ _ _ _ z=>z
end K22
open PySem PySem.W PyProof.Rows
set_option maxRecDepth 100000 in
set_option maxHeartbeats 0 in
theorem PySem.Challenge.cw_woolyears_k22_whole_each_sack_goes_where_holds : PySem.Challenge.rw_woolyears_k22_whole_each_sack_goes_where.Holds := by
 w_on;o_law;k_head;(case hw=>w_witness2)
 k_fill
 refine K22.walk (l:=PySem.Challenge.rw_woolyears_k22_whole_each_sack_goes_where) rfl rfl (fun w h Y=>PySem.W.kIn_of Y) ?F
 case F =>
  intro w mg fa h KX G hmg
  refine' K22.all_mk KX G hmg ?h9 ?h10 ?h11 ?h12 ?h23 ?h24 ?h25 ?h26 ?h27 ?h28 ?h29 ?h30 ?h31 ?h32 ?h33 ?h34 ?h38 ?h39 ?h40 ?h41 ?h42 ?h44 ?h45 ?h46 ?h47 ?h48 ?h49 ?h50 ?h51 ?h52 ?h53 ?h54 ?h56 ?h57 ?h59 ?h60 ?h61 ?h62 ?h63 ?h64 ?h65 ?h66 ?h67 ?h68 ?h69 ?h70 ?h71 ?h72 ?aL ?lL ?cL ?kL ?n0 ?n1 ?n2 ?n3 ?n4 ?n5 ?n6 ?n7 ?n8 ?n9 ?n10 ?z0 ?z1 ?z2 ?z3 ?z4 ?z5 ?z6 ?z7 ?z8 ?z9 ?z10 ?z11 ?z12 ?z13 ?z14
  case h9|h10|h11|h12|h23|h24|h25|h26|h27|h28|h29|h30|h31|h32|h33|h34|h38|h39|h40|h41|h42|h44|h45|h46|h47|h48|h49|h50|h51|h52|h53|h54|h56|h57|h59|h60|h61|h62|h63|h64|h65|h66|h67|h68|h69|h70|h71|h72=>
   refine' K22.has_mk ?a ?l ?c ?k
   case a|l|c|k=>k_is
  case aL|lL|cL|kL|n0|n1|n2|n3|n4|n5|n6|n7|n8|n9|n10|z0|z1|z2|z3|z4|z5|z6|z7|z8|z9|z10|z11|z12|z13|z14=>k_is
