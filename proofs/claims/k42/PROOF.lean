import PyProof.Rows.All
import Wide.All
import OpenK.AllK
import Wide.FinOn
import Lean
import PyProof.EqAt
import PyProof.EqKinds
import PyProof.TupleCall
import PyProof.StrLawsRepr
import PyProof.ZipIter
import PySem.Challenge.RW_woolyears_k42_whole_no_giving_leaves_les
import PyProof.Rows.SortRunsK
import PyProof.AttrMissHeap
import PyProof.SeqRoads
import PyProof.ListOps
import KE.KRevSl
import KE.KRevIter
import PyProof.DictUpdate
import PyProof.DictWalks
import PyProof.NeKinds
import KE.KDictList
import PyProof.Rows.SortWalk
set_option compiler.extract_closed false
set_option Elab.async false
set_option linter.all false
set_option maxRecDepth 100000
set_option maxHeartbeats 4000000
noncomputable section
theorem Zz{p:Prop}(h:p:=by lia):p:=h
theorem Zy{p:Prop}(h:p:=by simp):p:=h
theorem Zx{p:Prop}(h:p:=by decide):p:=h
theorem Zv{p:Prop}(h:p:=by decide +kernel):p:=h
theorem Zu{p:Prop}(h:p:=by rw[sizeLine_eq];lia):p:=h
def Zq:=@decide_eq_true_eq
open PySem.W (Frag)
def zAt:=@PySem.wpAny_bind
def zAu:=@decide_eq_true
def zAv:=@PySem.W.mg_none_of
def zAw:=@if_neg
def zAx:=@if_pos
def zAy:=@PySem.Heap.get?_push_of_some
def zAz:=@PySem.wpAny_pure
def zB0:=@List.mem_append_right
def zB1:=@PySem.Heap.lt_size
def zB2:=@Nat.lt_of_lt_of_le
def zB3:=@PySem.Heap.get?_push_size
def zB4:=@PySem.PassesOwn.never
def zB5:=@decide_eq_false
def zB6:=@of_decide_eq_true
def zB7:=@Nat.ne_of_lt
def zB8:=@List.mem_of_getElem?
def zB9:=@List.getElem?_append_right
def zBa:=@List.getElem?_append_left
def zBb:=@List.take_append_drop
def zBc:=@PySem.F.plainAttrs_list
def zBd:=@List.filter_cons_of_neg
def zBe:=@List.filter_cons_of_pos
def zBf:=@PySem.F.type_list_append
def zBg:=@PySem.F.slot_list_append
def zA0:=@List.getElem?_eq_getElem
def zA1:=@List.length_map
def zA2:=@List.length_append
def zA3:=@Nat.le_refl
def zA4:=@List.map_append
def zA5:=@List.mem_map
def zA6:=@List.mem_append
def zA7:=@List.getD_eq_getElem?_getD
def zA8:=@List.size_toArray
def zA9:=@Array.length_toList
def zAa:=@List.getElem?_eq_some_iff
def zAb:=@List.getElem?_map
def zAc:=@Bool.and_eq_true
def zAd:=@List.length_take
def zAe:=@List.length_cons
def zAf:=@List.append_assoc
def zAg:=@Bool.false_ne_true
def zAh:=@List.getElem_mem
def zAi:=@Int.toNat_natCast
def zAj:=@List.take_add_one
def zAk:=@List.map_cons
def zAl:=@Option.some.inj
def zAm:=@List.take_length
def zAn:=@List.append_nil
def zAo:=@List.mem_cons
def zAp:=@Nat.zero_le
def zAq:=@List.mem_filter
def zAr:=@List.map_map
def zAs:=@List.length_zip
namespace L2
open PySem PySem.Spec PyProof.Rows
abbrev Key:=Sum Int Str
def oR:Key->Value->Bool
 |.inl k,v=>Value.isInt k v
 |.inr x,v=>Value.isStrOf x v
def JV(w:World):Key->Int
 |.inl k=>hashInt k
 |.inr x=>hashStr w x
theorem bU:∀{k:Key} {v:Value},oR k v=true->(∃i t,k=Sum.inl i/\v=Value.int i t)\/(∃x t,k=Sum.inr x/\v=Value.str x t)
 |.inl i,v,h=>by
  obtain⟨t,e⟩:=Value.isInt_shape (k:=i) (v:=v) h;exact .inl ⟨i,t,rfl,e⟩
 |.inr x,v,h=>by
  obtain⟨t,e⟩:=Value.isStrOf_shape (x:=x) (v:=v) h;exact .inr ⟨x,t,rfl,e⟩
theorem xW(i:Int)(t:Tok):oR (.inl i) (.int i t)=true:=by simp[oR,Value.isInt]
theorem xX(x:Str)(t:Tok):oR (.inr x) (.str x t)=true:=by simp[oR,Value.isStrOf]
theorem Gi(a b:Int):decide ((Sum.inl a:Key)=Sum.inl b)=(a==b):=by
 by_cases e:a=b
 .subst e;simp
 .have h:¬(Sum.inl a:Key)=Sum.inl b:=fun q=>e (Sum.inl.inj q);rw[zB5 h];exact(beq_eq_false_iff_ne.mpr e).symm
theorem Gj(a b:Str):decide ((Sum.inr a:Key)=Sum.inr b)=decide (a=b):=by
 by_cases e:a=b
 .subst e;simp
 .have h:¬(Sum.inr a:Key)=Sum.inr b:=fun q=>e (Sum.inr.inj q);rw[zB5 h,zB5 e]
theorem Gk(a:Int)(b:Str):decide ((Sum.inl a:Key)=Sum.inr b)=false:=zB5 (fun q=>nomatch q)
theorem Gm(a:Str)(b:Int):decide ((Sum.inr a:Key)=Sum.inl b)=false:=zB5 (fun q=>nomatch q)
def bI(prog:Program)(w:World):PySem.KeyKind prog w Key where
 is:=oR
 hash:=JV w
 inj:=fun v a b ha hb=>by
  rcases bU ha with⟨i,t,rfl,rfl⟩|⟨x,t,rfl,rfl⟩
  .rcases bU hb with⟨j,u,rfl,e⟩|⟨y,u,rfl,e⟩
   .injection e with e1 _;rw[e1]
   .exact nomatch e
  .rcases bU hb with⟨j,u,rfl,e⟩|⟨y,u,rfl,e⟩
   .exact nomatch e
   .injection e with e1 _;rw[e1]
 byValue:=fun k v h=>by
  rcases bU h with⟨i,t,rfl,rfl⟩|⟨x,t,rfl,rfl⟩<;>rfl
 pyHash:=fun hv h=>by
  rcases bU hv with⟨i,t,rfl,rfl⟩|⟨x,t,rfl,rfl⟩
  .exact wpAny_pyHash_int h
  .exact wpAny_pyHash_str h
 eqBool:=fun hu hv h=>by
  rcases bU hu with⟨i,t,rfl,rfl⟩|⟨x,t,rfl,rfl⟩
  .rcases bU hv with⟨j,u,rfl,rfl⟩|⟨y,u,rfl,rfl⟩
   .rw[Gi]at h;exact wpAny_eqBool_int h
   .rw[Gk]at h;exact SeqAt.EqAt.int_str i t y u _ _ _ _ h
  .rcases bU hv with⟨j,u,rfl,rfl⟩|⟨y,u,rfl,rfl⟩
   .rw[Gm]at h;exact SeqAt.EqAt.str_int x t j u _ _ _ _ h
   .rw[Gj]at h;exact wpAny_eqBool_str h
 «strs»:=fun k x t v h=>by
  rcases bU h with⟨i,u,rfl,e⟩|⟨y,u,rfl,e⟩
  .exact nomatch e
  .injection e with e1 _;subst e1;cases v<;>rfl
theorem sG(prog:Program)(w:World)(i:Int)(t:Tok):(bI prog w).is (.inl i) (.int i t)=true:=xW i t
theorem sI(prog:Program)(w:World)(x:Str)(t:Tok):(bI prog w).is (.inr x) (.str x t)=true:=xX x t
inductive V where
 |non|bl (b:Bool)|int (i:Int)|str (x:Str)|byt (b:Array UInt8)|flt (b:UInt64)|ref (a:Addr)|ty (n:String)
 deriving DecidableEq
def RelV:V->Value->Prop
 |.non,u=>u=Value.none
 |.bl b,u=>u=Value.bool b
 |.int i,u=>∃t,u=Value.int i t
 |.str x,u=>∃t,u=Value.str x t
 |.byt b,u=>∃t,u=Value.bytes b t
 |.flt b,u=>∃t,u=Value.float b t
 |.ref a,u=>u=Value.ref a
 |.ty n,u=>u=Value.type n
abbrev Vals:List V->List Value->Prop:=Paired RelV
theorem Vals.length{xs:List V}{us:List Value}(r:Vals xs us):xs.length=us.length:=Paired.length r
theorem Vals.get:∀{xs:List V} {us:List Value} {i:Nat} {x:V},Vals xs us->xs[i]?=some x->∃u,us[i]?=some u/\RelV x u
 |_,_,_,_,.nil,e=>by simp at e
 |_,_,0,_,.cons r _,e=>by simp at e;subst e;exact⟨_,rfl,r⟩
 |_,_,i+1,x,.cons _ t,e=>by
  obtain⟨u,h1,h2⟩:=Vals.get (i:=i) (x:=x) t (by simpa using e);exact⟨u,by simpa using h1,h2⟩
theorem Vals.set{x:V}{u:Value}(r:RelV x u):∀{xs:List V} {us:List Value} (i:Nat),Vals xs us->Vals (xs.set i x) (us.set i u)
 |_,_,_,.nil=>.nil
 |_,_,0,.cons _ t=>.cons r t
 |_,_,i+1,.cons q t=>.cons q (Vals.set r i t)
theorem Vals.append:∀{xs ys:List V} {us ws:List Value},Vals xs us->Vals ys ws->Vals (xs++ys) (us++ws)
 |_,_,_,_,.nil,s=>s
 |_,_,_,_,.cons r t,s=>.cons r (Vals.append t s)
theorem Vals.take:∀{xs:List V} {us:List Value} (n:Nat),Vals xs us->Vals (xs.take n) (us.take n)
 |_,_,0,_=>.nil
 |_,_,_+1,.nil=>.nil
 |_,_,n+1,.cons r t=>.cons r (Vals.take n t)
theorem Vals.drop:∀{xs:List V} {us:List Value} (n:Nat),Vals xs us->Vals (xs.drop n) (us.drop n)
 |_,_,0,r=>r
 |_,_,_+1,.nil=>.nil
 |_,_,n+1,.cons _ t=>Vals.drop n t
def RelO:Option V->Option Value->Prop
 |some v,some u=>RelV v u
 |none,none=>True
 |_,_=>False
def KV{κ:Type}:List (κ×V)->List (κ×Value)->Prop:=Paired fun(p:κ×V) (q:κ×Value)=>p.1=q.1/\RelV p.2 q.2
def kV:Key->V
 |.inl i=>.int i
 |.inr x=>.str x
inductive HO where
  |lst (xs:List V)
  |tup (xs:List V)
  |dK (kvs:List (Key×V))|dT (kvs:List (List Key×V))
  |set (S:Int->Bool) (n:Nat)
  |ins (C dx:Addr) (fs:List (Str×V))
  |own (x:Addr)
  |xd (fs:List (Str×V))
  |met (f x:Addr)
  |rng (lo hi:Int)
  |frz (o:Obj) (u:HO)
  |tbl (ps:Array Value)
  |ext (φ:Heap->Prop)
abbrev Hp:=Addr->Option HO
def upd(H:Hp)(a:Addr)(o:HO):Hp:=fun b=>if b=a then some o else H b
theorem aj{H:Hp}{a:Addr}{o:HO}:upd H a o a=some o:=by unfold upd;rw[zAx rfl]
theorem az{H:Hp}{a b:Addr}{o:HO}(h:b≠a):upd H a o b=H b:=by unfold upd;rw[zAw h]
theorem Ih{H:Hp}{a b:Addr}{o u:HO}(h:H a=some o)(h':H b=some u)(d:o≠u):a≠b:=by
 intro e;subst e;rw[h]at h';exact d (zAl h')
theorem aC{H:Hp}{a b:Addr}{o:HO}(h:H a=some o)(h':H b=none):a≠b:=by
 intro e;subst e;rw[h]at h';cases h'
section
variable(P:Program)(w:World)
def ObjOk(H:Hp)(h:Heap)(a:Addr):HO->Prop
 |.lst xs=>xs.length<=sizeLine/\∃(Zs:List Value) (n:Nat),Vals xs Zs/\h.get? a=some {cls:=.type "list",data:=.seq Zs.toArray n}
 |.tup xs=>xs.length<=sizeLine/\∃Zs:List Value,Vals xs Zs/\IsTup h a Zs.toArray
 |.dK kvs=>kvs.length<=sizeLine/\(a==sysModules)=false/\∃vs,KV kvs vs/\h.DictOf (bI P w) a vs
 |.dT kvs=>kvs.length<=sizeLine/\(a==sysModules)=false/\∃xs:List (List Key×Addr×Value),
   Paired (fun(p:List Key×V) (q:List Key×Addr×Value)=>p.1=q.1/\H q.2.1=some (.tup (p.1.map kV))/\RelV p.2 q.2.2) kvs xs /\
   ∃o es ep,h.get? a=some o/\o.ExactDict/\o.data=.dict es ep/\es.toList=xs.map (entryOfKey (tupleKind (bI P w)))/\(xs.map (·.1)).Nodup
 |.set S n=>h.SetOf (intKind P w) a S n
 |.ins C dx fs=>H dx=some (.own a)/\fs.length<=1000/\dx≠a/\h.get? a=some (PySem.W.instObj C dx) /\
   ∃mA,h.Ns1 dx mA/\(∀f,RelO (fs.lookup f) (mA f))/\PySem.Within mA (fs.map (·.1))
 |.own _=>∃o,h.get? a=some o
 |.xd fs=>∃mA,h.Ns1 a mA/\∀f,RelO (fs.lookup f) (mA f)
 |.rng lo hi=>∃t u v,h.get? a=some {cls:=.type "range",data:=.fields #[.int lo t,.int hi u,.int 1 v]}
 |.frz o u=>h.get? a=some o/\ObjOk H h a u
 |.tbl ps=>h.get? a=some {cls:=.none,data:=.fields ps}
 |.met f x=>h.get? a=some (PySem.W.methodObj (.ref f) (.ref x))
 |.ext φ=>φ h/\(∃o,h.get? a=some o)/\∀h1 h2:Heap,φ h1->(∀o,h1.get? a=some o->h2.get? a=some o)->φ h2
def HOk(H:Hp)(h:Heap):Prop:=∀a o,H a=some o->ObjOk P w H h a o
end
section
variable{P:Program}{w:World}{H H':Hp}{h h':Heap}{a:Addr}{o:HO}
theorem ObjOk.lt(x:ObjOk P w H h a o):a<h.objs.size:=by
 cases o with
 |lst xs=>obtain⟨_,_,_,_,e⟩:=x;exact zB1 e
 |tup xs=>obtain⟨_,_,_,p⟩:=x;exact p.lt
 |dK kvs=>obtain⟨_,_,_,_,o,_,_,e,_⟩:=x;exact zB1 e
 |dT kvs=>obtain⟨_,_,_,_,o,_,_,e,_⟩:=x;exact zB1 e
 |set S n=>obtain⟨o,_,_,_,e,_⟩:=x;exact zB1 e
 |ins C dx fs=>obtain⟨_,_,_,e,_⟩:=x;exact zB1 e
 |own y=>obtain⟨_,e⟩:=x;exact zB1 e
 |xd fs=>obtain⟨_,⟨_,_,_,e,_⟩,_⟩:=x;exact zB1 e
 |rng lo hi=>obtain⟨_,_,_,e⟩:=x;exact zB1 e
 |frz ob u=>obtain⟨e,_⟩:=x;exact zB1 e
 |tbl ps=>exact zB1 (show h.get? a=some _ from x)
 |met f y=>exact zB1 (show h.get? a=some _ from x)
 |ext φ=>obtain⟨_,⟨_,e⟩,_⟩:=x;exact zB1 e
theorem Paired.mapP{α β:Type}{F G:α->β->Prop}:∀{vn:List α} {vt:List β},Paired F vn vt->(∀a b,F a b->G a b)->Paired G vn vt
 |_,_,.nil,_=>.nil
 |_,_,.cons r t,f=>.cons (f _ _ r) (Paired.mapP t f)
theorem ObjOk.stay(x:ObjOk P w H h a o)(k:∀b u,(b=a\/H b=some (.own a))->h.get? b=some u->h'.get? b=some u)
  (ho:∀b,H b=some (.own a)->H' b=some (.own a)) (ht:∀b xs,H b=some (.tup xs)->H' b=some (.tup xs)):ObjOk P w H' h' a o:=by
 induction o with
 |lst xs=>obtain⟨z,Zs,n,r,e⟩:=x;exact⟨z,Zs,n,r,k _ _ (.inl rfl) e⟩
 |tup xs=>obtain⟨z,Zs,r,ob,e,c⟩:=x;exact⟨z,Zs,r,ob,k _ _ (.inl rfl) e,c⟩
 |dK kvs=>obtain⟨z,y,vs,r,ob,es,ep,e,c⟩:=x;exact⟨z,y,vs,r,ob,es,ep,k _ _ (.inl rfl) e,c⟩
 |dT kvs=>
  obtain⟨z,y,xs,r,ob,es,ep,e,c⟩:=x;exact⟨z,y,xs,Paired.mapP r fun p q z=>⟨z.1,ht _ _ z.2.1,z.2.2⟩,ob,es,ep,k _ _ (.inl rfl) e,c⟩
 |set S n=>obtain⟨ob,es,ep,t,e,c⟩:=x;exact⟨ob,es,ep,t,k _ _ (.inl rfl) e,c⟩
 |ins C dx fs=>
  obtain⟨d,z,ne,e,mA,⟨od,es,ep,e2,c⟩,r⟩:=x;exact⟨ho _ d,z,ne,k _ _ (.inl rfl) e,mA,⟨od,es,ep,k _ _ (.inr d) e2,c⟩,r⟩
 |own y=>obtain⟨ob,e⟩:=x;exact⟨ob,k _ _ (.inl rfl) e⟩
 |xd fs=>obtain⟨mA,⟨od,es,ep,e,c⟩,r⟩:=x;exact⟨mA,⟨od,es,ep,k _ _ (.inl rfl) e,c⟩,r⟩
 |rng lo hi=>obtain⟨t,u,v,e⟩:=x;exact⟨t,u,v,k _ _ (.inl rfl) e⟩
 |frz ob u ih=>obtain⟨e,q⟩:=x;exact⟨k _ _ (.inl rfl) e,ih q⟩
 |tbl ps=>
  have e:h.get? a=some {cls:=.none,data:=.fields ps}:=x;show h'.get? a=some {cls:=.none,data:=.fields ps};exact k a _ (.inl rfl) e
 |met f y=>
  have e:h.get? a=some (PySem.W.methodObj (.ref f) (.ref y)):=x;show h'.get? a=some (PySem.W.methodObj (.ref f) (.ref y));exact k a _ (.inl rfl) e
 |ext φ=>obtain⟨p,⟨o,e⟩,st⟩:=x;exact⟨st _ _ p fun o q=>k _ _ (.inl rfl) q,⟨o,k _ _ (.inl rfl) e⟩,st⟩
theorem HOk.lt(x:HOk P w H h)(e:H a=some o):a<h.objs.size:=(x a o e).lt
theorem HOk.fresh(x:HOk P w H h)(e:h.objs.size<=a):H a=none:=by
 cases q:H a with
 |none=>rfl
 |some u=>exact absurd (zB2 (x.lt q) e) (Nat.lt_irrefl _)
theorem HOk.kept(x:HOk P w H h)(k:∀b u,h.get? b=some u->h'.get? b=some u):HOk P w H h':=fun a o e=>
 (x a o e).stay (fun b u _ q=>k b u q) (fun _ q=>q) fun _ _ q=>q
theorem HOk.laid(x:HOk P w H h)(k:∀b u,h.get? b=some u->h'.get? b=some u)(hp:h.objs.size<=a)(new:ObjOk P w (upd H a o) h' a o):HOk P w (upd H a o) h':=fun b u e=>by
 have hn:=x.fresh hp;by_cases hb:b=a
 .subst hb;rw[aj]at e;cases e;exact new
 .rw[az hb]at e
  exact(x b u e).stay (fun c v _ q=>k c v q) (fun c q=>by rw[az (aC q hn)];exact q) fun c xs q=>by rw[az (aC q hn)];exact q
end
def Rd(H:Hp)(a:Addr)(u:HO):Prop:=H a=some u\/∃o,H a=some (.frz o u)
theorem Rd.ok{P:Program}{w:World}{H:Hp}{h:Heap}{a:Addr}{u:HO}(r:Rd H a u)(x:HOk P w H h):ObjOk P w H h a u:=by
 rcases r with r|⟨o,r⟩
 .exact x a u r
 .obtain⟨_,q⟩:=x a _ r;exact q
def Mut:Option HO->Prop
 |some (.lst _)=>True
 |some (.dK _)=>True
 |some (.dT _)=>True
 |some (.set _ _)=>True
 |some (.ins _ _ _)=>True
 |some (.ext _)=>True
 |_=>False
section
variable{P:Program}{w:World}{H:Hp}{h h':Heap}{x e:Addr}{o':HO}
theorem HOk.write(ok:HOk P w H h)(mu:Mut (H x))(he:e=x\/H e=some (.own x))(k:∀b u,b≠e->h.get? b=some u->h'.get? b=some u)(sF:∃u,h'.get? e=some u)
  (new:ObjOk P w (upd H x o') h' x o'):HOk P w (upd H x o') h':=fun b u q=>by
 have vw:∀c y,H c=some (.own y)->c≠x:=fun c y r z=>by subst z;rw[r]at mu;exact mu
 have Cf:∀c xs,H c=some (.tup xs)->c≠x:=fun c xs r z=>by subst z;rw[r]at mu;exact mu
 by_cases hb:b=x
 .subst hb;rw[aj]at q;cases q;exact new
 .rw[az hb]at q;by_cases pV:b=e
  .have q':H b=some (.own x):=by
    rcases he with z|z
    .exact absurd (pV.trans z) hb
    .rw[pV];exact z
   rw[q]at q';cases q';obtain⟨v,hv⟩:=sF;exact⟨v,by rw[pV];exact hv⟩
  .refine(ok b u q).stay (fun c v hc r=>k c v ?_ r) (fun c r=>by rw[az (vw c b r)];exact r) fun c xs r=>by rw[az (Cf c xs r)];exact r
   rcases hc with rfl|hc
   .exact pV
   .rintro rfl;rcases he with z|z
    .exact vw c b hc z
    .rw[hc]at z;cases z;exact hb rfl
end
structure Un(fs ex:List Addr)(H H':Hp)(h h':Heap):Prop where
 keep:∀b o,h.get? b=some o->H b=none->b∉fs->b∉ex->h'.get? b=some o
 slot:∀b o,h.get? b=some o->H b=none->b∈fs->b∉ex->∃sl,h'.get? b=some {o with slots:=sl}
 free:∀b o,h.get? b=some o->H b=none->b∉ex->H' b=none
 there:∀b o,h.get? b=some o->b∉ex->∃o',h'.get? b=some o'
 tups:∀b xs,H b=some (.tup xs)->H' b=some (.tup xs)
 frzs:∀b o u,H b=some (.frz o u)->H' b=some (.frz o u)
 tbls:∀b ps,H b=some (.tbl ps)->∃more,H' b=some (.tbl (ps++more))
section
variable{fs MQ ex Th:List Addr}{H H1 H2:Hp}{h h1 h2 h':Heap}{a x e:Addr}{o:HO}
theorem Un.any(u:Un fs ex H H1 h h1){b:Addr}{ob:Obj}(q:h.get? b=some ob)(n:H b=none)(hx:b∉ex):∃sl,h1.get? b=some {ob with slots:=sl}:=by
 by_cases hb:b∈fs
 .exact u.slot b ob q n hb hx
 .exact⟨ob.slots,u.keep b ob q n hb hx⟩
theorem Un.kept(k:∀b u,h.get? b=some u->h'.get? b=some u):Un fs ex H H h h':=
 ⟨fun b ob q _ _ _=>k b ob q,fun b ob q _ _ _=>⟨ob.slots,k b ob q⟩,fun _ _ _ n _=>n,fun b ob q _=>⟨ob,k b ob q⟩,fun _ _ q=>q,fun _ _ _ q=>q,fun _ ps q=>⟨#[],by rw[q];simp⟩⟩
theorem Un.refl:Un fs ex H H h h:=Un.kept fun _ _ q=>q
theorem Un.laid(k:∀b u,h.get? b=some u->h'.get? b=some u)(hp:h.objs.size<=a)(hn:H a=none):Un fs ex H (upd H a o) h h' where
 keep:=fun b u q _ _ _=>k b u q
 slot:=fun b u q _ _ _=>⟨u.slots,k b u q⟩
 free:=fun b u q n _=>by rw[az (zB7 (zB2 (zB1 q) hp))];exact n
 there:=fun b u q _=>⟨u,k b u q⟩
 tups:=fun b xs q=>by rw[az (aC q hn)];exact q
 frzs:=fun b u xs q=>by rw[az (aC q hn)];exact q
 tbls:=fun b ps q=>⟨#[],by rw[az (aC q hn),q];simp⟩
theorem Un.write(mu:Mut (H x))(he:e=x\/H e=some (.own x))(k:∀b u,b≠e->h.get? b=some u->h'.get? b=some u)(sF:∃u,h'.get? e=some u):Un fs ex H (upd H x o) h h':=by
 have hx:∀b,H b=none->b≠x:=fun b n z=>by subst z;rw[n]at mu;exact mu
 have hb:∀b,H b=none->b≠e:=fun b n z=>by
  subst z;rcases he with r|r
  .exact hx b n r
  .rw[n]at r;cases r
 have hm:∀b u,H b=some u->¬Mut (some u)->b≠x:=fun b u q nm z=>by subst z;rw[q]at mu;exact nm mu
 refine⟨fun b u q n _ _=>k b u (hb b n) q,fun b u q n _ _=>⟨u.slots,k b u (hb b n) q⟩,fun b u q n _=>by rw[az (hx b n)];exact n,fun b u q _=>?_,
  fun b xs q=>by rw[az (hm b _ q fun z=>z)];exact q,fun b u xs q=>by rw[az (hm b _ q fun z=>z)];exact q,fun b ps q=>⟨#[],by rw[az (hm b _ q fun z=>z),q];simp⟩⟩
 by_cases pV:b=e
 .subst pV;exact sF
 .exact⟨u,k b u pV q⟩
end
def trk(h:Heap)(H:Hp):List Addr:=(List.range h.objs.size).filter fun a=>(H a).isSome
def qx(h:Heap)(H:Hp):Heap:=PySem.W.hideAll h (trk h H)
theorem xY(h:Heap)(H:Hp):(qx h H).objs.size=h.objs.size:=PySem.W.hideAll_size _ _
theorem zq{h:Heap}{H:Hp}{b:Addr}{o:Obj}(e:h.get? b=some o)(n:H b=none):(qx h H).get? b=some o:=
 PySem.W.hideAll_get _ e fun hm=>by
  have q:(H b).isSome=true:=(zAq.mp hm).2;rw[n]at q;simp at q
theorem CV{h:Heap}{H:Hp}{b:Addr}{o:Obj}(e:(qx h H).get? b=some o):h.get? b=some o/\H b=none:=by
 have e':h.get? b=some o:=PySem.W.of_hideAll (trk h H) e;refine⟨e',?_⟩
 cases q:H b with
 |none=>rfl
 |some x=>
  have hm:b∈trk h H:=List.mem_filter.mpr ⟨List.mem_range.mpr (Heap.lt_size e'),by simp[q]⟩;have z:(qx h H).get? b=none:=PySem.W.hideAll_none (trk h H) hm;rw[z]at e;cases e
structure Mod(K:Frag)(mg:Str->Option Value)(base:Heap):Prop where
 kin:K.In base
 glob:base.Ns mainGlobals mg
 blt:∃mb,base.Ns builtinsNs mb/\∀x:Str,x≠"__name__"->mb x=bootBuiltins x
 nolimit:base.NoLimit
structure Cx where
 prog:Program
 w:World
 K:Frag
 mg:Str->Option Value
 base:Heap
 A:Around
 N:List Str
 s₀:Shared
 H₀:Hp
 env:Env
 outer:List Env
 stack:List Env
 ex:List Addr
 fn:Str->Bool
 calm:Bool
 pn:List (Addr×Obj)
 xe:Value->Shared->Prop
def frs(l:List Env):List Addr:=l.filterMap (·.frame)
abbrev Cx.fs(X:Cx):List Addr:=frs X.outer
def Vis(sc:Scope)(x:Str):Prop:=sc.names.lookup x=some .local\/sc.names.lookup x=some .cell\/sc.names.lookup x=some .free
def Loc(sc:Scope)(x:Str):Prop:=sc.names.lookup x=some .local\/sc.names.lookup x=some .cell
def Look(env:Env)(h:Heap)(m:Str->Option Value)(x:Str)(u:Value):Prop:=
 (env.kindOf x=some .local/\m x=some u)\/((env.kindOf x=some .cell\/env.kindOf x=some .free)/\∃c,env.cells.lookup x=some c/\h.IsCell c (some u))
structure Cx.Ok(X:Cx):Prop where
 mod:Mod X.K X.mg X.base
 kind:X.env.scope.kind=.function
 glob:X.env.globals=mainGlobals
 blt:X.env.builtins=builtinsNs
 above:X.s₀.heap.objs.size<=X.env.locals
 inj:∀x y c,X.env.cells.lookup x=some c->X.env.cells.lookup y=some c->x=y
 has:∀x,(X.env.kindOf x=some .cell\/X.env.kindOf x=some .free)->∃c,X.env.cells.lookup x=some c
 cab:∀x c,X.fn x=true->X.env.cells.lookup x=some c->X.s₀.heap.objs.size<=c
 hd:X.calm=true->X.A.handled=none
 frames:X.A.frames=some X.stack
 stk:X.stack=X.outer\/(X.stack=X.env::X.outer/\X.env.frame=some X.env.locals)
 exf:∀b∈X.ex,b≠X.env.locals/\∀x c,X.env.cells.lookup x=some c->c≠b
 bs:∀b o,X.base.get? b=some o->X.s₀.heap.get? b=some o/\X.H₀ b=none
 bsz:X.base.objs.size<=X.s₀.heap.objs.size
 noex:∀b o,X.base.get? b=some o->b∉X.ex
 exfs:∀b∈X.ex,b∉X.fs
 funs:X.s₀.heap.FunFrames X.base X.outer
 frf:∀b∈X.fs,X.H₀ b=none
structure Inv(X:Cx)(Zt:List (Addr×Obj))(σ:List (Option V))(H:Hp)(s:Shared):Prop where
 ok:X.Ok
 os:s.os=X.s₀.os
 bare:AllBare s.gens
 base:Un X.fs X.ex X.H₀ H X.s₀.heap s.heap
 loc:∃m,s.heap.Ns X.env.locals m/\∀(i:Nat) (x:Str) (v:V),X.N[i]?=some x->σ[i]?=some (some v)->Vis X.env.scope x->∃u,RelV v u/\Look X.env s.heap m x u
 cell:∀x c,X.env.cells.lookup x=some c->∃v,s.heap.IsCell c v
 free:H X.env.locals=none
 freeC:∀x c,X.env.cells.lookup x=some c->H c=none
 pin:∀p∈X.pn++Zt,s.heap.get? p.1=some p.2/\H p.1=none/\p.1≠X.env.locals/\p.1∉X.fs/\∀v,p.2.data≠.cell v
 hok:HOk X.prog X.w H s.heap
 len:σ.length=X.N.length
section
variable{X:Cx}{Zt:List (Addr×Obj)}{σ:List (Option V)}{H H':Hp}{s:Shared}{h':Heap}
theorem Cx.Ok.nofr(ok:X.Ok){b:Addr}{o:Obj}(e:X.base.get? b=some o):b∉X.fs:=fun hb=>by
 have:=(ok.funs.mem hb).1;rw[e]at this;cases this
theorem Inv.bs(I:Inv X Zt σ H s):∀b o,X.base.get? b=some o->s.heap.get? b=some o/\H b=none:=fun b o e=>
 ⟨I.base.keep b o (I.ok.bs b o e).1 (I.ok.bs b o e).2 (I.ok.nofr e) (I.ok.noex b o e),I.base.free b o (I.ok.bs b o e).1 (I.ok.bs b o e).2 (I.ok.noex b o e)⟩
theorem Inv.bk(I:Inv X Zt σ H s):∀b o,X.base.get? b=some o->s.heap.get? b=some o:=fun b o e=>(I.bs b o e).1
theorem Inv.mod(I:Inv X Zt σ H s):Mod X.K X.mg X.base:=I.ok.mod
theorem Inv.kIn(I:Inv X Zt σ H s):X.K.In s.heap:=I.ok.mod.kin.keeps I.bk
theorem Inv.lt(I:Inv X Zt σ H s):X.env.locals<s.heap.objs.size:=let⟨_,hn,_⟩:=I.loc;hn.lt
theorem Inv.sz(I:Inv X Zt σ H s):X.s₀.heap.objs.size<=s.heap.objs.size:=Nat.le_trans I.ok.above (Nat.le_of_lt I.lt)
theorem Inv.nofs(I:Inv X Zt σ H s){a:Addr}(h:s.heap.objs.size<=a):a∉X.fs:=fun hb=>by
 obtain⟨_,o,ho,_⟩:=I.ok.funs.mem hb;exact absurd (zB2 (zB1 ho) (Nat.le_trans I.sz h)) (Nat.lt_irrefl _)
theorem Inv.cne(I:Inv X Zt σ H s):∀x c,X.env.cells.lookup x=some c->c≠X.env.locals:=fun x c e z=>by
 obtain⟨v,o,ho,hd⟩:=I.cell x c e;obtain⟨m,⟨o',es,ep,kC,MR,_⟩,_⟩:=I.loc;rw[z,kC]at ho;cases ho;rw[MR]at hd;cases hd
theorem Inv.funs(I:Inv X Zt σ H s):s.heap.FunFrames X.base X.outer:=by
 have all:∀(l:List Env),(∀b∈frs l,b∈X.fs)->X.s₀.heap.FunFrames X.base l->s.heap.FunFrames X.base l:=by
  intro l
  induction l with
  |nil=>intro _ _;trivial
  |cons env r ih=>
   intro hs hl;obtain⟨hk,⟨L,o,hf,hn,ho,hd⟩,hr⟩:=hl;have hL:L∈X.fs:=hs L (by unfold frs;rw[List.filterMap_cons,hf];exact List.mem_cons_self);obtain⟨sl,e⟩:=I.base.slot L o ho (I.ok.frf L hL) hL fun z=>I.ok.exfs L z hL;exact⟨hk,⟨L,_,hf,hn,e,hd⟩,ih (fun b hb=>hs b (by unfold frs;rw[List.filterMap_cons,hf];exact List.mem_cons_of_mem _ hb)) hr⟩
 exact all X.outer (fun _ hb=>hb) I.ok.funs
theorem Inv.stack(I:Inv X Zt σ H s):s.heap.FunFrames X.base X.stack:=by
 rcases I.ok.stk with e|⟨e,hf⟩
 .rw[e];exact I.funs
 .rw[e];obtain⟨m,hn,_⟩:=I.loc;refine .cons (by rw[I.ok.kind];decide) hf hn ?_ I.funs;exact Heap.get?_none_of_le (Nat.le_trans I.ok.bsz I.ok.above)
theorem Inv.stkSub(I:Inv X Zt σ H s):∀b∈frs X.stack,b∈X.env.locals::X.fs:=fun b hb=>by
 rcases I.ok.stk with e|⟨e,hf⟩
 .rw[e]at hb;exact List.mem_cons_of_mem _ hb
 .rw[e]at hb;unfold frs at hb;rw[List.filterMap_cons,hf]at hb;exact hb
theorem Inv.stkFree(I:Inv X Zt σ H s):∀b∈frs X.stack,H b=none:=fun b hb=>by
 rcases zAo.mp (I.stkSub b hb)with e|hb
 .rw[e];exact I.free
 .obtain⟨_,o,ho,_⟩:=I.ok.funs.mem hb;exact I.base.free b o ho (I.ok.frf b hb) fun z=>I.ok.exfs b z hb
theorem Inv.step{g':Array GenState}{t':Nat}{d':Drawn}{ch:List Addr}(I:Inv X Zt σ H s)
  (md:∀b∈ch,(b∈X.ex\/X.s₀.heap.objs.size<=b)/\b≠X.env.locals/\(∀x c,X.env.cells.lookup x=some c->c≠b)/\∀p∈X.pn++Zt,p.1≠b)
  (keep:∀b o,b≠X.env.locals->b∉X.fs->b∉ch->s.heap.get? b=some o->H b=none->h'.get? b=some o)
  (slot:∀b o,b≠X.env.locals->b∈X.fs->b∉ch->s.heap.get? b=some o->H b=none->∃sl,h'.get? b=some {o with slots:=sl}) (free:∀b o,b∉ch->s.heap.get? b=some o->H b=none->H' b=none)
  (there:∀b o,b∉ch->s.heap.get? b=some o->∃o',h'.get? b=some o')
  (tups:∀b xs,H b=some (.tup xs)->H' b=some (.tup xs)) (frzs:∀b o u,H b=some (.frz o u)->H' b=some (.frz o u)) (tbls:∀b ps,H b=some (.tbl ps)->∃more,H' b=some (.tbl (ps++more)))
  (ns:∀m,s.heap.Ns X.env.locals m->h'.Ns X.env.locals m) (hok:HOk X.prog X.w H' h') (hg:AllBare g'):
  Inv X Zt σ H' {s with heap:=h',gens:=g',drawn:=d',toks:=t'}:=by
 have IJ:∀b o,X.s₀.heap.get? b=some o->b≠X.env.locals:=fun b o e=>zB7 (zB2 (zB1 e) I.ok.above)
 have AW:∀b o,X.s₀.heap.get? b=some o->b∉X.ex->b∉ch:=fun b o e hx hb=>by
  rcases(md b hb).1 with z|z
  .exact hx z
  .exact absurd (zB2 (zB1 e) z) (Nat.lt_irrefl _)
 have cellK:∀x c,X.env.cells.lookup x=some c->∀v,s.heap.IsCell c v->h'.IsCell c v:=fun x c e v ⟨o,ho,hd⟩=>by
  have vx:c∉ch:=fun z=>(md c z).2.2.1 x c e rfl;by_cases hc:c∈X.fs
  .obtain⟨sl,q⟩:=slot c o (I.cne x c e) hc vx ho (I.freeC x c e);exact⟨_,q,hd⟩
  .exact⟨o,keep c o (I.cne x c e) hc vx ho (I.freeC x c e),hd⟩
 refine⟨I.ok,I.os,hg,⟨fun b o e n hb hx=>?_,fun b o e n hb hx=>?_,fun b o e n hx=>?_,fun b o e hx=>?_,fun b xs e=>tups b xs (I.base.tups b xs e),fun b o xs e=>frzs b o xs (I.base.frzs b o xs e),fun b ps e=>?_⟩,?_,fun x c e=>?_,?_,fun x c e=>?_,fun p hp=>?_,hok,I.len⟩
 .exact keep b o (IJ b o e) hb (AW b o e hx) (I.base.keep b o e n hb hx) (I.base.free b o e n hx)
 .obtain⟨sl,e1⟩:=I.base.slot b o e n hb hx;obtain⟨MT,e2⟩:=slot b _ (IJ b o e) hb (AW b o e hx) e1 (I.base.free b o e n hx);exact⟨MT,e2⟩
 .obtain⟨o',e1⟩:=I.base.there b o e hx;exact free b o' (AW b o e hx) e1 (I.base.free b o e n hx)
 .obtain⟨o',e1⟩:=I.base.there b o e hx;exact there b o' (AW b o e hx) e1
 .obtain⟨m1,e1⟩:=I.base.tbls b ps e;obtain⟨m2,e2⟩:=tbls b _ e1;exact⟨m1++m2,by rw[e2,Array.append_assoc]⟩
 .obtain⟨m,hn,hl⟩:=I.loc;refine⟨m,ns m hn,fun i x v e1 e2 e3=>?_⟩;obtain⟨u,r,l⟩:=hl i x v e1 e2 e3;refine⟨u,r,?_⟩;rcases l with l|⟨k,c,e,z⟩
  .exact .inl l
  .exact .inr ⟨k,c,e,cellK x c e _ z⟩
 .obtain⟨v,z⟩:=I.cell x c e;exact⟨v,cellK x c e v z⟩
 .obtain⟨m,⟨o,_,_,ho,_⟩,_⟩:=I.loc;exact free _ o (fun z=>(md _ z).2.1 rfl) ho I.free
 .obtain⟨v,o,ho,hd⟩:=I.cell x c e;exact free c o (fun z=>(md c z).2.2.1 x c e rfl) ho (I.freeC x c e)
 .obtain⟨e,n,ne,nf,d⟩:=I.pin p hp;have vx:p.1∉ch:=fun z=>(md p.1 z).2.2.2 p hp rfl;exact⟨keep p.1 p.2 ne nf vx e n,free p.1 p.2 vx e n,ne,nf,d⟩
theorem Inv.un{t':Nat}(I:Inv X Zt σ H s)(u:Un X.fs [] H H' s.heap h')(hok:HOk X.prog X.w H' h'):Inv X Zt σ H' {s with heap:=h',toks:=t'}:=by
 obtain⟨m,⟨o,es,ep,ho,r⟩,_⟩:=id I.loc;obtain⟨sl,hL⟩:=u.any ho I.free Zy
 exact I.step (g':=s.gens) (d':=s.drawn) (ch:=[]) (fun _ z=>nomatch z) (fun b o _ hb _ e n=>u.keep b o e n hb Zy) (fun b o _ hb _ e n=>u.slot b o e n hb Zy) (fun b o _ e n=>u.free b o e n Zy) (fun b o _ e=>u.there b o e Zy) u.tups u.frzs u.tbls (fun m' hm=>by
  obtain⟨o',gX,vE,kC,r'⟩:=hm;rw[ho]at kC;cases kC
  exact⟨_,gX,vE,hL,r'⟩) hok I.bare
theorem Inv.call{g':Array GenState}{t':Nat}{d':Drawn}{ch:List Addr}(I:Inv X Zt σ H s)(u:Un (frs X.stack) ch H H' s.heap h')(hok:HOk X.prog X.w H' h')(hg:AllBare g')
  (md:∀b∈ch,(b∈X.ex\/X.s₀.heap.objs.size<=b)/\b≠X.env.locals/\(∀x c,X.env.cells.lookup x=some c->c≠b)/\∀p∈X.pn++Zt,p.1≠b):
  Inv X Zt σ H' {s with heap:=h',gens:=g',drawn:=d',toks:=t'}:=by
 obtain⟨m,⟨o,es,ep,ho,r⟩,_⟩:=id I.loc;obtain⟨sl,hL⟩:=u.any ho I.free fun z=>(md _ z).2.1 rfl
 exact I.step (ch:=ch) md (fun b o hL hb hc e n=>u.keep b o e n (fun z=>(zAo.mp (I.stkSub b z)).elim hL hb) hc) (fun b o _ _ hc e n=>u.any e n hc) (fun b o hc e n=>u.free b o e n hc) (fun b o hc e=>u.there b o e hc) u.tups u.frzs u.tbls (fun m' hm=>by
  obtain⟨o',gX,vE,kC,r'⟩:=hm;rw[ho]at kC;cases kC
  exact⟨_,gX,vE,hL,r'⟩) hok hg
theorem Inv.turned{t':Nat}{it:Addr}(I:Inv X Zt σ H s)(k:∀b o,b≠it->s.heap.get? b=some o->h'.get? b=some o)(hn:H it=none)(hL:it≠X.env.locals)
  (h1:it∈X.ex\/X.s₀.heap.objs.size<=it) (h2:∀x c,X.env.cells.lookup x=some c->c≠it) (h3:∀p∈X.pn++Zt,p.1≠it):Inv X Zt σ H {s with heap:=h',toks:=t'}:=by
 have IL:∀b u,H b=some u->b≠it:=fun b u e z=>by rw[z,hn]at e;cases e
 refine I.step (g':=s.gens) (d':=s.drawn) (ch:=[it]) (fun b hb=>?_) (fun b o _ _ hc e _=>k b o (fun z=>hc (by simp[z])) e) (fun b o _ _ hc e _=>⟨o.slots,k b o (fun z=>hc (by simp[z])) e⟩) (fun _ _ _ _ n=>n)
  (fun b o hc e=>⟨o,k b o (fun z=>hc (by simp[z])) e⟩) (fun _ _ e=>e) (fun _ _ _ e=>e) (fun b ps e=>⟨#[],by rw[e];simp⟩) (fun m hm=>?_) (fun b u e=>?_) I.bare
 .have e:b=it:=by simpa using hb
  subst e;exact⟨h1,hL,h2,h3⟩
 .obtain⟨o,es,ep,ho,r⟩:=hm;exact⟨o,es,ep,k _ o (Ne.symm hL) ho,r⟩
 .refine(I.hok b u e).stay (fun c v hc q=>k c v ?_ q) (fun _ q=>q) fun _ _ q=>q;rcases hc with z|z
  .rw[z];exact IL b u e
  .exact IL c _ z
theorem Inv.tok(I:Inv X Zt σ H s)(t:Nat):Inv X Zt σ H {s with toks:=t}:=I.un (h':=s.heap) (t':=t) Un.refl I.hok
theorem Inv.kept{t':Nat}(I:Inv X Zt σ H s)(k:∀b u,s.heap.get? b=some u->h'.get? b=some u):Inv X Zt σ H {s with heap:=h',toks:=t'}:=I.un (Un.kept k) (I.hok.kept k)
theorem Inv.laid{a:Addr}{o:HO}{t':Nat}(I:Inv X Zt σ H s)(k:∀b u,s.heap.get? b=some u->h'.get? b=some u)(hp:s.heap.objs.size<=a)(new:ObjOk X.prog X.w (upd H a o) h' a o):
  Inv X Zt σ (upd H a o) {s with heap:=h',toks:=t'}:=I.un (Un.laid k hp (I.hok.fresh hp)) (I.hok.laid k hp new)
theorem Inv.write{x e:Addr}{o:HO}{t':Nat}(I:Inv X Zt σ H s)(mu:Mut (H x))(he:e=x\/H e=some (.own x))(k:∀b u,b≠e->s.heap.get? b=some u->h'.get? b=some u)(sF:∃u,h'.get? e=some u)
  (new:ObjOk X.prog X.w (upd H x o) h' x o):Inv X Zt σ (upd H x o) {s with heap:=h',toks:=t'}:=I.un (Un.write mu he k sF) (I.hok.write mu he k sF new)
theorem Inv.pins_of{nK:List (Addr×Obj)}(I:Inv X Zt σ H s)(h:∀p∈nK,s.heap.get? p.1=some p.2/\H p.1=none/\p.1≠X.env.locals/\p.1∉X.fs/\∀v,p.2.data≠.cell v):Inv X nK σ H s:=
 ⟨I.ok,I.os,I.bare,I.base,I.loc,I.cell,I.free,I.freeC,fun p hp=>(zA6.mp hp).elim (fun z=>I.pin p (List.mem_append_left _ z)) (h p),I.hok,I.len⟩
theorem sJ{N:List Str}(hN:N.Nodup){i j:Nat}{x:Str}(a:N[i]?=some x)(b:N[j]?=some x):i=j:=by
 obtain⟨h1,e1⟩:=zAa.mp a;obtain⟨h2,e2⟩:=zAa.mp b;exact(List.getElem_inj hN).mp (e1.trans e2.symm)
theorem oU{M:Model}{A:Around}{E:Value->Shared->Prop}{i:Nat}{x:Str}{v:V}{u:Value}{Q:Unit->Shared->Prop}(I:Inv X Zt σ H s)(hN:X.N.Nodup)(hi:X.N[i]?=some x)(hx:Loc X.env.scope x)(r:RelV v u)
  (h:∀s',Inv X Zt (σ.set i (some v)) H s'->(∃a,Heap.SameBut a s.heap s'.heap/\(a=X.env.locals\/X.env.cells.lookup x=some a))->Q () s') (hf:X.fn x=true\/X.env.scope.names.lookup x=some .local:=by first|exact .inl rfl|exact .inr rfl|assumption):wpAny M A (storeName X.env x u) Q E s:=by
 obtain⟨m,hn,hl⟩:=id I.loc;have Cn:(X.env.scope.kind==.class||(X.env.scope.kind==.module&&X.env.locals != X.env.globals))=false:=by rw[I.ok.kind];rfl
 have vF:i<σ.length:=by rw[I.len];exact(zAa.mp hi).1
 have cne:=I.cne
 have tracked:∀{a:Addr} {h':Heap},(∃o,s.heap.get? a=some o/\H a=none)->Heap.SameBut a s.heap h'->HOk X.prog X.w H h':=fun{a h'} ha hs b ob e=>by
  obtain⟨_,_,hfree⟩:=ha;refine(I.hok b ob e).stay (fun c w' hc q=>(hs.2 c ?_).trans q) (fun _ q=>q) fun _ _ q=>q;rintro rfl;rcases hc with rfl|hc
  .rw[hfree]at e;cases e
  .rw[hfree]at hc;cases hc
 rcases hx with hk|hk
 .refine wpAny_storeName_local hk hn (fun h' MU hs=>?_) Cn;obtain⟨oL,_,_,MV,_⟩:=id hn;refine h _ ⟨I.ok,I.os,I.bare,⟨fun b o e n hb hx=>?_,fun b o e n hb hx=>?_,I.base.free,fun b o e hx=>?_,I.base.tups,I.base.frzs,I.base.tbls⟩,⟨_,MU,fun j y v' e1 e2 e3=>?_⟩,fun y c e=>?_,I.free,I.freeC,fun p hp=>?_,tracked ⟨oL,MV,I.free⟩ hs,by simpa using I.len⟩ ⟨_,hs,.inl rfl⟩
  .exact(hs.2 b (zB7 (zB2 (zB1 e) I.ok.above))).trans (I.base.keep b o e n hb hx)
  .obtain⟨sl,e1⟩:=I.base.slot b o e n hb hx;exact⟨sl,(hs.2 b (zB7 (zB2 (zB1 e) I.ok.above))).trans e1⟩
  .obtain⟨o',e1⟩:=I.base.there b o e hx;exact⟨o',(hs.2 b (zB7 (zB2 (zB1 e) I.ok.above))).trans e1⟩
  .by_cases hj:j=i
   .subst hj;rw[hi]at e1;cases e1;rw[List.getElem?_set_self vF]at e2;cases e2;exact⟨u,r,.inl ⟨hk,by simp⟩⟩
   .rw[List.getElem?_set_ne (Ne.symm hj)]at e2;obtain⟨u',r',q⟩:=hl j y v' e1 e2 e3;refine⟨u',r',?_⟩;rcases q with⟨k,e⟩|⟨k,c,e,z⟩
    .refine .inl ⟨k,?_⟩;have:y≠x:=fun e=>hj (sJ hN e1 (e▸hi));simp[this,e]
    .exact .inr ⟨k,c,e,z.sameBut hs (cne y c e)⟩
  .obtain⟨w',z⟩:=I.cell y c e;exact⟨w',z.sameBut hs (cne y c e)⟩
  .obtain⟨e,n,ne,nf,d⟩:=I.pin p hp;exact⟨(hs.2 p.1 ne).trans e,n,ne,nf,d⟩
 .have Co:X.fn x=true:=by
   rcases hf with z|z
   .exact z
   .rw[z]at hk;cases hk
  obtain⟨c,hc⟩:=I.ok.has x (.inl hk);obtain⟨w',z⟩:=I.cell x c hc;refine wpAny_storeName_cell I.ok.kind hk hc z (fun h' bq hs=>?_);obtain⟨oc,IM,Cs⟩:=id z;refine h {s with heap:=h'} ⟨I.ok,I.os,I.bare,⟨fun b o e n hb hx=>?_,fun b o e n hb hx=>?_,I.base.free,fun b o e hx=>?_,I.base.tups,I.base.frzs,I.base.tbls⟩,⟨m,hn.sameBut hs (Ne.symm (cne x c hc)),fun j y v' e1 e2 e3=>?_⟩,fun y c' e=>?_,I.free,I.freeC,fun p hp=>?_,tracked ⟨oc,IM,I.freeC x c hc⟩ hs,by simpa using I.len⟩ ⟨c,hs,.inr hc⟩
  .exact(hs.2 b (zB7 (zB2 (zB1 e) (I.ok.cab x c Co hc)))).trans (I.base.keep b o e n hb hx)
  .obtain⟨sl,e1⟩:=I.base.slot b o e n hb hx;exact⟨sl,(hs.2 b (zB7 (zB2 (zB1 e) (I.ok.cab x c Co hc)))).trans e1⟩
  .obtain⟨o',e1⟩:=I.base.there b o e hx;exact⟨o',(hs.2 b (zB7 (zB2 (zB1 e) (I.ok.cab x c Co hc)))).trans e1⟩
  .by_cases hj:j=i
   .subst hj;rw[hi]at e1;cases e1;rw[List.getElem?_set_self vF]at e2;cases e2;exact⟨u,r,.inr ⟨.inl hk,c,hc,bq⟩⟩
   .rw[List.getElem?_set_ne (Ne.symm hj)]at e2;obtain⟨u',r',q⟩:=hl j y v' e1 e2 e3;refine⟨u',r',?_⟩;rcases q with q|⟨k,c',e,z'⟩
    .exact .inl q
    .refine .inr ⟨k,c',e,z'.sameBut hs ?_⟩;rintro rfl;exact hj (sJ hN e1 (I.ok.inj _ _ _ e hc▸hi))
  .by_cases IP:c'=c
   .subst IP;exact⟨_,bq⟩
   .obtain⟨w2,z2⟩:=I.cell y c' e;exact⟨w2,z2.sameBut hs IP⟩
  .obtain⟨e,n,ne,nf,d⟩:=I.pin p hp;refine⟨(hs.2 p.1 ?_).trans e,n,ne,nf,d⟩;intro q;rw[q,IM]at e;have q':oc=p.2:=zAl e;exact d w' (by rw[<-q'];exact Cs)
theorem gJ{M:Model}{A:Around}{E:Value->Shared->Prop}{i:Nat}{x:Str}{v:V}{u:Value}{Q:Unit->Shared->Prop}(I:Inv X Zt σ H s)(hN:X.N.Nodup)(hi:X.N[i]?=some x)(hx:Loc X.env.scope x)(r:RelV v u)
  (h:∀s',Inv X Zt (σ.set i (some v)) H s'->Q () s') (hf:X.fn x=true\/X.env.scope.names.lookup x=some .local:=by first|exact .inl rfl|exact .inr rfl|assumption):wpAny M A (storeName X.env x u) Q E s:=
 oU I hN hi hx r (fun s' I' _=>h s' I') hf
theorem Inv.call'{s':Shared}{ch:List Addr}(I:Inv X Zt σ H s)(ho:s'.os=s.os)(u:Un (frs X.stack) ch H H' s.heap s'.heap)(hok:HOk X.prog X.w H' s'.heap)(hg:AllBare s'.gens)
  (md:∀b∈ch,(b∈X.ex\/X.s₀.heap.objs.size<=b)/\b≠X.env.locals/\(∀x c,X.env.cells.lookup x=some c->c≠b)/\∀p∈X.pn++Zt,p.1≠b):Inv X Zt σ H' s':=by
 obtain⟨h',g',d',t',o'⟩:=s';have e:o'=s.os:=ho;subst e;exact I.call (g':=g') (t':=t') (d':=d') u hok hg md
end
abbrev XK:=Value->Option Addr->Hp->Prop
abbrev St:=List (Option V)
abbrev VK:=V->Hp->Prop
abbrev TE:=St->Hp->VK->Prop
abbrev TT:=St->Hp->(Bool->Hp->Prop)->Prop
abbrev TA:=St->Hp->(List V->Hp->Prop)->Prop
structure Ends where
 nx:St->Hp->Prop
 rt:VK
 bk:St->Hp->Prop:=fun _ _=>False
 ct:St->Hp->Prop:=fun _ _=>False
abbrev TS:=Ends->St->Hp->Prop
def EP(X:Cx)(Zt:List (Addr×Obj))(σ:St)(Q:VK)(u:Value)(s':Shared):Prop:=∃v H',Inv X Zt σ H' s'/\RelV v u/\Q v H'
def TP(X:Cx)(Zt:List (Addr×Obj))(σ:St)(Q:Bool->Hp->Prop)(b:Bool)(s':Shared):Prop:=∃H',Inv X Zt σ H' s'/\Q b H'
def AP(X:Cx)(Zt:List (Addr×Obj))(σ:St)(Q:List V->Hp->Prop)(us:List Value)(s':Shared):Prop:=∃vs H',Inv X Zt σ H' s'/\Vals vs us/\Q vs H'
def SP(X:Cx)(Zt:List (Addr×Obj))(D:Ends)(f:Flow)(s':Shared):Prop:=
 match f with
 |.next=>∃ar H',Inv X Zt ar H' s'/\D.nx ar H'
 |.brk=>∃ar H',Inv X Zt ar H' s'/\D.bk ar H'
 |.cont=>∃ar H',Inv X Zt ar H' s'/\D.ct ar H'
 |.ret u=>∃v ar H',Inv X Zt ar H' s'/\RelV v u/\D.rt v H'
def PE(X:Cx)(e:Expr)(t:TE):Prop:=
 ∀(Zt:List (Addr×Obj)) (s:Shared) (σ:St) (H:Hp) (Q:VK),Inv X Zt σ H s->t σ H Q->wpAny (model X.prog X.w) X.A (eval e X.env) (EP X Zt σ Q) X.xe s
def PT(X:Cx)(e:Expr)(t:TT):Prop:=
 ∀(Zt:List (Addr×Obj)) (s:Shared) (σ:St) (H:Hp) (Q:Bool->Hp->Prop),Inv X Zt σ H s->t σ H Q->wpAny (model X.prog X.w) X.A (isTrue e X.env (eval e X.env)) (TP X Zt σ Q) X.xe s
def PW(X:Cx)(e:Expr)(t:TT):Prop:=
 ∀(whole:Sem Value) (Zt:List (Addr×Obj)) (s:Shared) (σ:St) (H:Hp) (Q:Bool->Hp->Prop),Inv X Zt σ H s->t σ H Q->wpAny (model X.prog X.w) X.A (isTrue e X.env whole) (TP X Zt σ Q) X.xe s
theorem PW.pt{X:Cx}{e:Expr}{t:TT}(h:PW X e t):PT X e t:=h _
def PA(X:Cx)(es:List Expr)(t:TA):Prop:=
 ∀(pos:Pos) (Zt:List (Addr×Obj)) (s:Shared) (σ:St) (H:Hp) (Q:List V->Hp->Prop),Inv X Zt σ H s->t σ H Q->wpAny (model X.prog X.w) X.A (spliced (backTo pos (starEach es X.env))) (AP X Zt σ Q) X.xe s
def PS(X:Cx)(st:Stmt)(t:TS):Prop:=
 ∀(Zt:List (Addr×Obj)) (s:Shared) (σ:St) (H:Hp) (D:Ends),Inv X Zt σ H s->t D σ H->wpAny (model X.prog X.w) X.A (exec st X.env) (SP X Zt D) X.xe s
def PSs(X:Cx)(st:List Stmt)(t:TS):Prop:=
 ∀(Zt:List (Addr×Obj)) (s:Shared) (σ:St) (H:Hp) (D:Ends),Inv X Zt σ H s->t D σ H->wpAny (model X.prog X.w) X.A (execs st X.env) (SP X Zt D) X.xe s
theorem thn{α:Type}{t:Sem α}{Q Q':α->Shared->Prop}{M:Model}{A:Around}{E:Value->Shared->Prop}{s:Shared}(h:wpAny M A t Q E s)(hQ:∀a s,Q a s->Q' a s):wpAny M A t Q' E s:=wpAny_mono h hQ fun _ _ x=>x
section
variable{X:Cx}
theorem bin{a b:Expr}{ta tb:TE}(ha:PE X a ta)(hb:PE X b tb){Zt:List (Addr×Obj)}{s:Shared}{σ:St}{H:Hp}{R:V->V->Hp->Prop}(I:Inv X Zt σ H s)(h:ta σ H fun x H1=>tb σ H1 fun y H2=>R x y H2)
  {α:Type} {Q:α->Shared->Prop} {f:Value->Value->Sem α}
  (hf:∀v u s2 x y H2,Inv X Zt σ H2 s2->RelV x v->RelV y u->R x y H2->wpAny (model X.prog X.w) X.A (f v u) Q X.xe s2):
  wpAny (model X.prog X.w) X.A (eval a X.env) (fun v s₁=>wpAny (model X.prog X.w) X.A (eval b X.env) (fun u s₂=>wpAny (model X.prog X.w) X.A (f v u) Q X.xe s₂) X.xe s₁) X.xe s:=by
 refine thn (ha Zt s σ H _ I h) fun v s1 ⟨x,H1,I1,r1,q1⟩=>?_;refine thn (hb Zt s1 σ H1 _ I1 q1) fun u s2 ⟨y,H2,I2,r2,q2⟩=>?_;exact hf v u s2 x y H2 I2 r1 r2 q2
inductive TVarI(i:Nat)(σ:St)(H:Hp)(Q:VK):Prop
 |mk:∀v,(σ[i]?=some (some v))->(Q v H)->TVarI i σ H Q
def uM(i:Nat):TE:=fun σ H Q=>TVarI i σ H Q
def tC(v:V):TE:=fun _ H Q=>Q v H
theorem Gn{i:Nat}{x:Str}{pos:Pos}(hN:X.N[i]?=some x)(hv:Vis X.env.scope x)(hd:(x==("__debug__":Str))=false:=by decide)(kD:(x==("__classdict__":Str))=false:=by decide):PE X (.Name x pos) (uM i):=by
 intro Zt s σ H Q I h;obtain⟨v,e,h⟩:=h;obtain⟨m,hn,hl⟩:=I.loc;obtain⟨u,r,l⟩:=hl i x v hN e hv
 have fin:EP X Zt σ Q u s:=⟨v,H,I,r,h⟩
 rcases l with⟨hk,hm⟩|⟨hk,c,hc,hcell⟩
 .exact wpAny_Name (wpAny_loadName_local I.ok.kind hk hn hm fin) hd
 .rcases hk with hk|hk
  .exact wpAny_Name (wpAny_loadName_cell I.ok.kind hk hc hcell fin) hd
  .exact wpAny_Name (wpAny_loadName_free I.ok.kind hk hc hcell fin kD) hd
theorem aB{i j pos}:PE X (.Constant (.int i) j pos) (tC (.int i)):=fun _ _ _ H _ I h=>wpAny_Constant_int ⟨.int i,H,I.tok _,⟨_,rfl⟩,h⟩
theorem j8{b j pos}:PE X (.Constant (.bool b) j pos) (tC (.bl b)):=fun _ _ _ H _ I h=>Constant_bool ⟨.bl b,H,I,rfl,h⟩
theorem qy{j pos}:PE X (.Constant .none j pos) (tC .non):=fun _ _ _ H _ I h=>Constant_none ⟨.non,H,I,rfl,h⟩
def Gl(X:Cx)(x:Str):Prop:=X.env.kindOf x=some .globalImplicit
theorem vX{E:Value->Shared->Prop}{Zt:List (Addr×Obj)}{s:Shared}{σ:St}{H:Hp}{x:Str}{u:Value}{pos:Pos}{Q:Value->Shared->Prop}(I:Inv X Zt σ H s)(hg:Gl X x)(hm:X.mg x=some u)(h:Q u s)
  (hd:(x==("__debug__":Str))=false:=by decide):wpAny (model X.prog X.w) X.A (eval (.Name x pos) X.env) Q E s:=
 Calls.Name_function_global I.ok.kind hg (Calls.loadGlobal_global (by rw[I.ok.glob];exact I.mod.glob.keeps I.bk) hm h) hd
theorem gK{E:Value->Shared->Prop}{Zt:List (Addr×Obj)}{s:Shared}{σ:St}{H:Hp}{x:Str}{u:Value}{pos:Pos}{Q:Value->Shared->Prop}(I:Inv X Zt σ H s)(hg:Gl X x)(hm:X.mg x=none)(hv:bootBuiltins x=some u)(h:Q u s)
  (hn:x≠"__name__":=by decide) (hd:(x==("__debug__":Str))=false:=by decide):wpAny (model X.prog X.w) X.A (eval (.Name x pos) X.env) Q E s:=by
 obtain⟨mb,h1,h2⟩:=I.mod.blt;exact Calls.Name_function_global I.ok.kind hg (Calls.loadGlobal_builtin (by rw[I.ok.glob];exact I.mod.glob.keeps I.bk) hm (by rw[I.ok.blt];exact h1.keeps I.bk) ((h2 x hn).trans hv) h) hd
theorem bM{x:Str}{v:V}{u:Value}{pos:Pos}(hg:Gl X x)(hm:X.mg x=some u)(r:RelV v u)(hd:(x==("__debug__":Str))=false:=by decide):PE X (.Name x pos) (tC v):=
 fun _ _ _ H _ I h=>vX I hg hm ⟨v,H,I,r,h⟩ hd
theorem qz{x:Str}{v:V}{u:Value}{pos:Pos}(hg:Gl X x)(hm:X.mg x=none)(hv:bootBuiltins x=some u)(r:RelV v u)(hn:x≠"__name__":=by decide)(hd:(x==("__debug__":Str))=false:=by decide):PE X (.Name x pos) (tC v):=
 fun _ _ _ H _ I h=>gK I hg hm hv ⟨v,H,I,r,h⟩ hn hd
variable{a b:Expr}{ta tb:TE}{pos:Pos}
def PC(X:Cx)(op:CmpOp)(a b:Expr)(t:TE):Prop:=
 ∀(Zt:List (Addr×Obj)) (s:Shared) (σ:St) (H:Hp) (Q:VK),Inv X Zt σ H s->t σ H Q->
  wpAny (model X.prog X.w) X.A (eval a X.env) (fun v s₁=>wpAny (model X.prog X.w) X.A (eval b X.env) (fun u s₂=>wpAny (model X.prog X.w) X.A (compareOp op v u) (EP X Zt σ Q) X.xe s₂) X.xe s₁) X.xe s
def tB(t:TE):TT:=fun σ H Q=>t σ H fun x H1=>∃c,x=.bl c/\Q c H1
theorem JW{op:CmpOp}{t:TE}(h:PC X op a b t)(h1:behindInMarks op b=false:=by first|exact nobehind _ Zx Zx|rfl):PT X (.Compare a [op] [b] pos) (tB t):=by
 intro Zt s σ H Q I hw;refine wpAny_isTrue_Compare1 (thn (h Zt s σ H _ I hw) fun v s1 h1=>thn h1 fun u s2 h2=>thn h2 fun c s3 ⟨x,H1,I1,r1,q1⟩=>?_) h1;obtain⟨d,rfl,q⟩:=q1;cases r1;exact wpAny_truthy_bool ⟨H1,I1,q⟩
theorem dZ{e:Expr}{t:TE}(h:PE X e t)(he:∀whole,isTrue e X.env whole=(do let v <-whole;standAt e.pos;holding [v] (truthy v)):=by intro _;rfl):PT X e (tB t):=by
 intro Zt s σ H Q I hw;refine isTrue_plain (thn (h Zt s σ H _ I hw) fun v s1 ⟨x,H1,I1,r1,q1⟩=>?_) (he _);obtain⟨d,rfl,q⟩:=q1;cases r1;exact wpAny_truthy_bool ⟨H1,I1,q⟩
variable{tA AX:TT}{rest:List Expr}
def JX(t u:TT):TT:=fun σ H Q=>t σ H fun c H1=>if c=true then u σ H1 Q else Q false H1
def tOr(t u:TT):TT:=fun σ H Q=>t σ H fun c H1=>if c=true then Q true H1 else u σ H1 Q
def JZ(t:TT):TT:=fun σ H Q=>t σ H fun c H1=>Q (!c) H1
theorem CW(ha:PT X a tA):PW X (.BoolOp .And [a] pos) tA:=by
 intro wh Zt s σ H Q I h;refine isTrue_and (thn (ha Zt s σ H Q I h) fun c s1 e=>?_)
 cases c with
 |true=>exact isTrue_and_nil e
 |false=>exact e
theorem uN(ha:PT X a tA):PW X (.BoolOp .Or [a] pos) tA:=by
 intro wh Zt s σ H Q I h;refine isTrue_or (thn (ha Zt s σ H Q I h) fun c s1 e=>?_)
 cases c with
 |false=>exact isTrue_or_nil e
 |true=>exact e
theorem Gp(ha:PT X a tA)(hb:PW X (.BoolOp .And (b::rest) pos) AX):PW X (.BoolOp .And (a::b::rest) pos) (JX tA AX):=by
 intro wh Zt s σ H Q I h;refine isTrue_and (thn (ha Zt s σ H _ I h) fun c s1 ⟨H1,I1,q1⟩=>?_)
 cases c with
 |true=>exact hb wh Zt s1 σ H1 Q I1 q1
 |false=>exact⟨H1,I1,q1⟩
theorem sO(ha:PT X a tA)(hb:PW X (.BoolOp .Or (b::rest) pos) AX):PW X (.BoolOp .Or (a::b::rest) pos) (tOr tA AX):=by
 intro wh Zt s σ H Q I h;refine isTrue_or (thn (ha Zt s σ H _ I h) fun c s1 ⟨H1,I1,q1⟩=>?_)
 cases c with
 |true=>exact⟨H1,I1,q1⟩
 |false=>exact hb wh Zt s1 σ H1 Q I1 q1
theorem cP(ha:PT X a tA):PT X (.UnaryOp .Not a pos) (JZ tA):=by
 intro Zt s σ H Q I h;exact isTrue_not (ha Zt s σ H (fun c H1=>Q (!c) H1) I h)
def Fj(ta tb:TE):TE:=fun σ H Q=>ta σ H fun x H1=>∃c,x=.bl c/\if c=true then tb σ H1 Q else Q (.bl false) H1
def Ii(ta:TE):TE:=fun σ H Q=>ta σ H fun x H1=>∃c,x=.bl c/\Q (.bl (!c)) H1
theorem dM{op}{t:TE}(h:PE X a t):PE X (.BoolOp op [a] pos) t:=fun Zt s σ H Q I hw=>BoolOp_one (h Zt s σ H Q I hw)
theorem cA(ha:PE X a ta)(hb:PE X (.BoolOp .And (b::rest) pos) tb):PE X (.BoolOp .And (a::b::rest) pos) (Fj ta tb):=by
 intro Zt s σ H Q I h;refine BoolOp_and (thn (ha Zt s σ H _ I h) fun v s1 ⟨x,H1,I1,r1,q1⟩=>?_);obtain⟨c,rfl,q1⟩:=q1;cases r1;refine wpAny_truthy_bool ?_
 cases c with
 |true=>exact hb Zt s1 σ H1 Q I1 q1
 |false=>exact⟨.bl false,H1,I1,rfl,q1⟩
theorem Gq(ha:PE X a ta):PE X (.UnaryOp .Not a pos) (Ii ta):=by
 intro Zt s σ H Q I h;refine UnaryOp_ (thn (ha Zt s σ H _ I h) fun v s1 ⟨x,H1,I1,r1,q1⟩=>?_);obtain⟨c,rfl,q1⟩:=q1;cases r1;exact not_of (wpAny_truthy_bool ⟨.bl (!c),H1,I1,rfl,q1⟩)
def tIf(t:TT)(ta tb:TE):TE:=fun σ H Q=>t σ H fun c H1=>if c=true then ta σ H1 Q else tb σ H1 Q
theorem zr{c:Expr}(hc:PT X c tA)(ha:PE X a ta)(hb:PE X b tb):PE X (.IfExp c a b pos) (tIf tA ta tb):=by
 intro Zt s σ H Q I h;refine wpAny_IfExp (thn (hc Zt s σ H _ I h) fun d s1 ⟨H1,I1,q1⟩=>?_)
 cases d with
 |true=>exact ha Zt s1 σ H1 Q I1 q1
 |false=>exact hb Zt s1 σ H1 Q I1 q1
end
def SqL(K:Frag)(H:Hp)(a:Addr)(xs:List V):Prop:=
 Rd H a (.lst xs) \/
  ∃(o:Obj) (Zs:Array Value) (n:Nat),K.lookup a=some o/\o.cls=.type "list"/\o.dict=none/\o.data=.seq Zs n/\Zs.size<=sizeLine/\Vals xs Zs.toList
def SqT(K:Frag)(H:Hp)(a:Addr)(xs:List V):Prop:=
 Rd H a (.tup xs) \/
  ∃(o:Obj) (Zs:Array Value) (n:Nat),K.lookup a=some o/\o.cls=.type "tuple"/\o.data=.seq Zs n/\Zs.size<=sizeLine/\Vals xs Zs.toList
def K1:Value->Option V
 |.none=>some .non
 |.bool b=>some (.bl b)
 |.int i _=>some (.int i)
 |.str x _=>some (.str x)
 |.bytes b _=>some (.byt b)
 |.float b _=>some (.flt b)
 |.ref a=>some (.ref a)
 |.type n=>some (.ty n)
 |_=>none
theorem RelV.abs{x:V}{u:Value}(r:RelV x u):K1 u=some x:=by
 cases x with
 |non=>cases r;rfl
 |bl _=>cases r;rfl
 |int _=>obtain⟨t,rfl⟩:=r;rfl
 |str _=>obtain⟨t,rfl⟩:=r;rfl
 |byt _=>obtain⟨t,rfl⟩:=r;rfl
 |flt _=>obtain⟨t,rfl⟩:=r;rfl
 |ref _=>cases r;rfl
 |ty _=>cases r;rfl
theorem RelV.inj{x y:V}{u:Value}(r:RelV x u)(q:RelV y u):x=y:=zAl (r.abs.symm.trans q.abs)
theorem Vals.inj:∀{xs ys:List V} {us:List Value},Vals xs us->Vals ys us->xs=ys
 |_,_,_,.nil,.nil=>rfl
 |_,_,_,.cons r t,.cons r' t'=>by rw[r.inj r',Vals.inj t t']
section
variable{X:Cx}{Zt:List (Addr×Obj)}{σ:St}{H:Hp}{s:Shared}{a:Addr}{xs ys:List V}
theorem SqL.of{K:Frag}(h:H a=some (.lst xs)):SqL K H a xs:=.inl (.inl h)
theorem SqT.of{K:Frag}(h:H a=some (.tup xs)):SqT K H a xs:=.inl (.inl h)
theorem Inv.list(I:Inv X Zt σ H s)(h:SqL X.K H a xs):∃Zs:List Value,Vals xs Zs/\PlainL s.heap a Zs.toArray/\xs.length<=sizeLine:=by
 rcases h with h|⟨o,Zs,n,hk,hc,hd,hs,hz,r⟩
 .obtain⟨z,Zs,n,r,e⟩:=h.ok I.hok;exact⟨Zs,r,⟨_,n,e,rfl,rfl,rfl⟩,z⟩
 .refine⟨Zs.toList,r,⟨o,n,I.kIn a o hk,hc,hd,by simpa using hs⟩,?_⟩;have e:=r.length;simp only[Array.length_toList]at e;lia
theorem Inv.tuple(I:Inv X Zt σ H s)(h:SqT X.K H a xs):∃Zs:List Value,Vals xs Zs/\IsTup s.heap a Zs.toArray/\xs.length<=sizeLine:=by
 rcases h with h|⟨o,Zs,n,hk,hc,hs,hz,r⟩
 .obtain⟨z,Zs,r,p⟩:=h.ok I.hok;exact⟨Zs,r,p,z⟩
 .refine⟨Zs.toList,r,⟨o,I.kIn a o hk,hc,n,by simpa using hs⟩,?_⟩;have e:=r.length;simp only[Array.length_toList]at e;lia
theorem Inv.list_inj(I:Inv X Zt σ H s)(h:SqL X.K H a xs)(h':SqL X.K H a ys):xs=ys:=by
 obtain⟨Zs,r,⟨o,n,e,_,_,d⟩,_⟩:=I.list h;obtain⟨its',r',⟨o',n',e',_,_,d'⟩,_⟩:=I.list h';rw[e]at e';cases e';rw[d]at d';injection d' with d1 _;have:Zs=its':=by simpa using congrArg Array.toList d1
 subst this;exact r.inj r'
theorem Inv.tuple_inj(I:Inv X Zt σ H s)(h:SqT X.K H a xs)(h':SqT X.K H a ys):xs=ys:=by
 obtain⟨Zs,r,⟨o,e,_,n,d⟩,_⟩:=I.tuple h;obtain⟨its',r',⟨o',e',_,n',d'⟩,_⟩:=I.tuple h';rw[e]at e';cases e';rw[d]at d';injection d' with d1 _;have:Zs=its':=by simpa using congrArg Array.toList d1
 subst this;exact r.inj r'
end
abbrev Cx.wish(X:Cx)(E:Value->Shared->Prop):Cx:={X with xe:=E}
abbrev Cx.nox(X:Cx):Cx:=X.wish fun _ _=>False
theorem Cx.Ok.wish{X:Cx}(ok:X.Ok)(E:Value->Shared->Prop):(X.wish E).Ok:=
 ⟨ok.mod,ok.kind,ok.glob,ok.blt,ok.above,ok.inj,ok.has,ok.cab,ok.hd,ok.frames,ok.stk,ok.exf,ok.bs,ok.bsz,ok.noex,ok.exfs,ok.funs,ok.frf⟩
theorem Cx.Ok.unwish{X:Cx}{E:Value->Shared->Prop}(ok:(X.wish E).Ok):X.Ok:=
 ⟨ok.mod,ok.kind,ok.glob,ok.blt,ok.above,ok.inj,ok.has,ok.cab,ok.hd,ok.frames,ok.stk,ok.exf,ok.bs,ok.bsz,ok.noex,ok.exfs,ok.funs,ok.frf⟩
section
variable{X:Cx}{Zt:List (Addr×Obj)}{σ:St}{H:Hp}{s:Shared}{E:Value->Shared->Prop}
theorem Inv.wish(I:Inv X Zt σ H s)(E:Value->Shared->Prop):Inv (X.wish E) Zt σ H s:=⟨I.ok.wish E,I.os,I.bare,I.base,I.loc,I.cell,I.free,I.freeC,I.pin,I.hok,I.len⟩
theorem Inv.unwish(I:Inv (X.wish E) Zt σ H s):Inv X Zt σ H s:=⟨I.ok.unwish,I.os,I.bare,I.base,I.loc,I.cell,I.free,I.freeC,I.pin,I.hok,I.len⟩
theorem SP.unwish{D:Ends}{f:Flow}{s':Shared}(h:SP (X.wish E) Zt D f s'):SP X Zt D f s':=by
 cases f with
 |next=>obtain⟨ar,H',I,q⟩:=h;exact⟨ar,H',I.unwish,q⟩
 |brk=>obtain⟨ar,H',I,q⟩:=h;exact⟨ar,H',I.unwish,q⟩
 |cont=>obtain⟨ar,H',I,q⟩:=h;exact⟨ar,H',I.unwish,q⟩
 |ret u=>obtain⟨v,ar,H',I,r,q⟩:=h;exact⟨v,ar,H',I.unwish,r,q⟩
theorem PSs.nox{st:List Stmt}{t:TS}(h:PSs X.nox st t):PSs X st t:=fun Zt s σ H D I hw=>
 wpAny_mono (h Zt s σ H D (I.wish _) hw) (fun _ _ q=>q.unwish) fun _ _ z=>False.elim z
end
section
variable{X:Cx}{st:Stmt}{rest:List Stmt}{t u:TS}{e:Expr}{te:TE}{pos:Pos}
def Fl:TS:=fun D σ H=>D.nx σ H
def CZ(t u:TS):TS:=fun D σ H=>t {D with nx:=u D} σ H
theorem bB:PSs X [] Fl:=fun _ _ σ H _ I h=>wpAny_execs_nil ⟨σ,H,I,h⟩
theorem aA(h1:PS X st t)(h2:PSs X rest u):PSs X (st::rest) (CZ t u):=by
 intro Zt s σ H D I h;refine wpAny_execs_cons (thn (h1 Zt s σ H {D with nx:=u D} I h) fun f s1 q=>?_)
 cases f with
 |next=>
  obtain⟨ar,H',I',q⟩:=q;exact h2 Zt s1 ar H' D I' q
 |ret v=>exact q
 |brk=>exact q
 |cont=>exact q
theorem aD(h1:PS X st t):PSs X [st] t:=by
 intro Zt s σ H D I h;refine wpAny_execs_cons (thn (h1 Zt s σ H D I h) fun f s1 q=>?_)
 cases f with
 |next=>exact wpAny_execs_nil q
 |ret v=>exact q
 |brk=>exact q
 |cont=>exact q
theorem Inv.quiet{Zt:List (Addr×Obj)}{σ:St}{H:Hp}{s:Shared}(I:Inv X Zt σ H s):interactive X.env=false:=by simp[interactive,I.ok.kind]
def Ij(te:TE):TS:=fun D σ H=>te σ H fun _ H1=>D.nx σ H1
theorem cW(he:PE X e te)(hs:swapsWith e none pos.line X.env=pure false:=by rfl):PS X (.Expr e pos) (Ij te):=by
 intro Zt s σ H D I h;exact wpAny_Expr_any (thn (he Zt s σ H _ I h) fun v s1 ⟨x,H1,I1,r1,q1⟩=>⟨σ,H1,I1,q1⟩) I.quiet hs
def Gr(te:TE):TS:=fun D σ H=>te σ H D.rt
theorem aQ(he:PE X e te):PS X (.Return (some e) pos) (Gr te):=by
 intro Zt s σ H D I h;exact wpAny_Return_some (thn (he Zt s σ H _ I h) fun v s1 ⟨x,H1,I1,r1,q1⟩=>⟨x,σ,H1,I1,r1,q1⟩)
def K3(c:TT)(t u:TS):TS:=fun D σ H=>c σ H fun b H1=>if b=true then t D σ H1 else u D σ H1
theorem cQ{c:Expr}{a b:List Stmt}{tc:TT}(hc:PT X c tc)(ha:PSs X a t)(hb:PSs X b u):PS X (.If c a b pos) (K3 tc t u):=by
 intro Zt s σ H D I h;refine wpAny_If (thn (hc Zt s σ H _ I h) fun d s1 ⟨H1,I1,q1⟩=>?_)
 cases d with
 |true=>exact ha Zt s1 σ H1 D I1 q1
 |false=>exact hb Zt s1 σ H1 D I1 q1
def zu:TS:=fun _ _ _=>False
theorem gM:PS X st zu:=fun _ _ _ _ _ _ h=>h.elim
theorem oV{Ct:List Stmt}:PSs X Ct zu:=fun _ _ _ _ _ _ h=>h.elim
end
abbrev TG:=V->St->Hp->(St->Hp->Prop)->Prop
abbrev TGs:=List V->St->Hp->(St->Hp->Prop)->Prop
def PG(X:Cx)(target:Expr)(t:TG):Prop:=
 ∀(Zt:List (Addr×Obj)) (s:Shared) (σ:St) (H:Hp) (v:V) (u:Value) (Q:St->Hp->Prop),Inv X Zt σ H s->RelV v u->t v σ H Q->
  wpAny (model X.prog X.w) X.A (assign target X.env u) (fun _ s'=>∃ar H',Inv X Zt ar H' s'/\Q ar H') X.xe s
def PGs(X:Cx)(ts:List Expr)(t:TGs):Prop:=
 ∀(Zt:List (Addr×Obj)) (s:Shared) (σ:St) (H:Hp) (vs:List V) (us:List Value) (Q:St->Hp->Prop),Inv X Zt σ H s->Vals vs us->t vs σ H Q->
  wpAny (model X.prog X.w) X.A (assignInOrder ((assignEach ts X.env).map (·.2)) us) (fun _ s'=>∃ar H',Inv X Zt ar H' s'/\Q ar H') X.xe s
abbrev xZ:=V->V->V->Hp->(Hp->Prop)->Prop
def Dc(X:Cx)(t:xZ):Prop:=
 ∀(Zt:List (Addr×Obj)) (s:Shared) (σ:St) (H:Hp) (o i v:V) (ov iv u:Value) (Q:Hp->Prop),Inv X Zt σ H s->RelV o ov->RelV i iv->RelV v u->t o i v H Q->
  wpAny (model X.prog X.w) X.A (setItem ov iv u) (fun _ s'=>∃H',Inv X Zt σ H' s'/\Q H') X.xe s
abbrev TIp:=V->V->Hp->VK->Prop
def PIp(X:Cx)(op:Operator)(t:TIp):Prop:=
 ∀(Zt:List (Addr×Obj)) (s:Shared) (σ:St) (H:Hp) (x y:V) (v u:Value) (Q:VK),Inv X Zt σ H s->RelV x v->RelV y u->t x y H Q->
  wpAny (model X.prog X.w) X.A (inplaceOp op v u) (EP X Zt σ Q) X.xe s
section
variable{X:Cx}{pos:Pos}
def bH(i:Nat):TG:=fun v σ H Q=>Q (σ.set i (some v)) H
theorem bf{i:Nat}{x:Str}(hN:X.N.Nodup)(hi:X.N[i]?=some x)(hx:Loc X.env.scope x)(hf:X.fn x=true\/X.env.scope.names.lookup x=some .local:=by first|exact .inl rfl|exact .inr rfl|assumption):PG X (.Name x pos) (bH i):=by
 intro Zt s σ H v u Q I r h;exact wpAny_assign_Name (gJ I hN hi hx r (fun s' I'=>⟨_,H,I',h⟩) hf)
def lV:TGs:=fun vs σ H Q=>vs=[]/\Q σ H
def cz(t:TG)(u:TGs):TGs:=fun vs σ H Q=>∃v r,vs=v::r/\t v σ H fun ar H'=>u r ar H' Q
theorem aX:PGs X [] lV:=by
 intro Zt s σ H vs us Q I r h;obtain⟨e,h⟩:=h;subst e;cases r;exact assignInOrder_nil ⟨σ,H,I,h⟩
theorem aq{e:Expr}{es:List Expr}{t:TG}{u:TGs}(h1:PG X e t)(h2:PGs X es u)
  (hs:(assignEach (e::es) X.env).map (·.2)=assign e X.env::(assignEach es X.env).map (·.2):=by rfl):PGs X (e::es) (cz t u):=by
 intro Zt s σ H vs us Q I r h;obtain⟨v,vr,e1,h⟩:=h;subst e1
 cases r with
 |cons r rr=>
  rw[hs];refine assignInOrder_cons (thn (h1 Zt s σ H _ _ _ I r h) fun _ s1 ⟨nL,H1,I1,q1⟩=>?_);exact h2 Zt s1 nL H1 _ _ Q I1 rr q1
inductive GTupI(K:Frag)(n:Nat)(t:TGs)(v:V)(σ:St)(H:Hp)(Q:St->Hp->Prop):Prop
 |mk:∀a xs,(v=.ref a)->(SqT K H a xs)->(xs.length=n)->(t xs σ H Q)->GTupI K n t v σ H Q
def lq(K:Frag)(n:Nat)(t:TGs):TG:=fun v σ H Q=>GTupI K n t v σ H Q
theorem bK{es:List Expr}{k:Nat}{t:TGs}{n:Nat}(hc:X.calm=true)(h:PGs X es t)
  (hn:(assignEach es X.env).length=n:=by rfl) (fg:(assignEach es X.env).findIdx? (·.1)=none:=by rfl):PG X (.Tuple es k pos) (lq X.K n t):=by
 intro Zt s σ H v u Q I r hw;obtain⟨a,xs,e1,hq,hl,hw⟩:=hw;subst e1;cases r;obtain⟨Zs,rv,ht,hz⟩:=I.tuple hq;refine assign_Tuple_tuple (I.ok.hd hc) ht (by simp[hn,<-hl,rv.length]) fg fun h' hx=>?_;have I1:Inv X Zt σ H {s with heap:=h'}:=I.kept (t':=s.toks) fun b o e=>hx b o (Nat.ne_of_lt (Heap.lt_size e)) e;exact h Zt _ σ H xs _ Q I1 (by simpa using rv) hw
def K4(to ti:TE)(t:xZ):TG:=fun v σ H Q=>to σ H fun o H1=>ti σ H1 fun i H2=>t o i v H2 fun H3=>Q σ H3
theorem qC{o i:Expr}{to ti:TE}{t:xZ}(ho:PE X o to)(hi:PE X i ti)(hs:Dc X t)
  (ha:∀v,assign (.Subscript o i pos) X.env v=(do
   let ov <-holding [v] (eval o X.env)
   let iv <-holding [v,ov] (eval i X.env)
   standAt pos
   holding [v,ov,iv] (setItem ov iv v)
   release [v,ov,iv] []):=by intro _;rfl):PG X (.Subscript o i pos) (K4 to ti t):=by
 intro Zt s σ H v u Q I r h;rw[ha];refine zAt (wpAny_holding (thn (ho Zt s σ H _ I h) fun ov s1 ⟨x,H1,I1,r1,q1⟩=>?_));refine zAt (wpAny_holding (thn (hi Zt s1 σ H1 _ I1 q1) fun iv s2 ⟨y,H2,I2,r2,q2⟩=>?_));refine zAt (wpAny_standAt (zAt (wpAny_holding (thn (hs Zt s2 σ H2 x y v ov iv u _ I2 r1 r2 r q2) fun _ s3 ⟨H3,I3,q3⟩=>?_))));exact wpAny_release ⟨σ,H3,I3,q3⟩
def yc(te:TE)(g:TG):TS:=fun D σ H=>te σ H fun x H1=>g x σ H1 D.nx
theorem cG{tg e:Expr}{te:TE}{g:TG}(he:PE X e te)(hg:PG X tg g)(hs:swapsWithSole [tg] e pos.line X.env=pure false:=by rfl)(hw:swappedStores [tg] e X.env=pure none:=by rfl)
  (h1:(assignEach [tg] X.env).map (·.2)=[assign tg X.env]:=by rfl):PS X (.Assign [tg] e pos) (yc te g):=by
 intro Zt s σ H D I h;refine wpAny_Assign_stores (thn (he Zt s σ H _ I h) fun v s1 ⟨x,H1,I1,r1,q1⟩=>?_) hs hw;rw[h1];exact thn (hg Zt s1 σ H1 x v _ I1 r1 q1) fun _ s2 q=>q
theorem gO{i:Nat}{x:Str}{e:Expr}{te:TE}{pos':Pos}(hN:X.N.Nodup)(hi:X.N[i]?=some x)(hx:Loc X.env.scope x)(he:PE X e te)(hs:swapsWith e (some (.Name x pos')) pos.line X.env=pure false:=by rfl)(hf:X.fn x=true\/X.env.scope.names.lookup x=some .local:=by first|exact .inl rfl|exact .inr rfl|assumption):
  PS X (.Assign [.Name x pos'] e pos) (yc te (bH i)):=by
 intro Zt s σ H D I h;refine wpAny_Assign_Name (thn (he Zt s σ H _ I h) fun v s1 ⟨y,H1,I1,r1,q1⟩=>?_) hs;exact gJ I1 hN hi hx r1 (fun s2 I2=>⟨_,H1,I2,q1⟩) hf
def K5(i j:Nat)(ta:TA):TS:=fun D σ H=>ta σ H fun vs H1=>∃v w,vs=[v,w]/\D.nx ((σ.set i (some v)).set j (some w)) H1
theorem uO{i j:Nat}{x y:Str}{a b:Expr}{ta:TA}{px py pt:Pos}{kt k2 pt2}(hc:X.calm=true)(hN:X.N.Nodup)(hi:X.N[i]?=some x)(hj:X.N[j]?=some y)(cq:i≠j)
  (hx:X.env.scope.names.lookup x=some .local) (hy:X.env.scope.names.lookup y=some .local) (ha:PA X [a,b] ta)
  (hw:swappedStores [.Tuple [.Name x px,.Name y py] kt pt] (.Tuple [a,b] k2 pt2) X.env=pure (some [x,y]))
  (hs:swapsWithSole [.Tuple [.Name x px,.Name y py] kt pt] (.Tuple [a,b] k2 pt2) pos.line X.env=pure false:=by rfl):
  PS X (.Assign [.Tuple [.Name x px,.Name y py] kt pt] (.Tuple [a,b] k2 pt2) pos) (K5 i j ta):=by
 intro Zt s σ H D I h;rw[exec_Assign_arm];refine zAt (wpAny_standAt ?_);rw[hs];refine zAt (zAz ?_);rw[zAw Zx];refine zAt (Tuple_ (thn (ha _ Zt s σ H _ I h) fun us s1 ⟨vs,H1,I1,r1,q1⟩=>?_));obtain⟨v,w,e1,q1⟩:=q1;subst e1
 obtain⟨u1,u2,rfl,rv,fE⟩:∃u1 u2,us=[u1,u2]/\RelV v u1/\RelV w u2:=by
  cases r1 with
  |cons p q=>
   cases q with
   |cons p' q'=>
    cases q';exact⟨_,_,rfl,p,p'⟩
 refine wpAny_newObj_type ?_ (by show 2<=sizeLine;decide);have I2:Inv X Zt σ H1 {s1 with heap:=s1.heap.push {cls:=.type "tuple",data:=.seq [u1,u2].toArray}}:=I1.kept (t':=s1.toks) fun b o e=>zAy _ e;rw[hw];refine zAt (zAz ?_);show wpAny (model X.prog X.w) X.A (do rule "assign.swapped-stores";let items <-unpackItems (.ref s1.heap.objs.size) 2 none;assignInOrder [fun v=>bindName X.env y v,fun v=>bindName X.env x v] items.reverse;pure Flow.next) _ _ _;refine zAt (wpAny_rule (zAt (unpackItems_tuple (items:=#[u1,u2]) (I.ok.hd hc) (IsTup.new s1.heap _) fun h' ko=>?_)));have I3:=I2.kept (h':=h') (t':=s1.toks) fun b o e=>ko b o (zB7 (zB1 e)) e;show wpAny _ _ (assignInOrder [fun v=>bindName X.env y v,fun v=>bindName X.env x v] [u2,u1]>>=fun _=>pure Flow.next) _ _ _;refine zAt (assignInOrder_cons (wpAny_bindName (gJ I3 hN hj (.inl hy) fE (fun s2 I4=>?_) (.inr hy))));refine assignInOrder_cons (wpAny_bindName (gJ I4 hN hi (.inl hx) rv (fun s3 I5=>assignInOrder_nil (zAz ?_)) (.inr hx)));rw[List.set_comm _ _ (Ne.symm cq)]at I5;exact⟨_,H1,I5,q1⟩
inductive TAugI(i:Nat)(te:TE)(ti:TIp)(D:Ends)(σ:St)(H:Hp):Prop
 |mk:∀x,(σ[i]?=some (some x))->(te σ H fun y H1=>ti x y H1 fun z H2=>D.nx (σ.set i (some z)) H2)->TAugI i te ti D σ H
def K6(i:Nat)(te:TE)(ti:TIp):TS:=fun D σ H=>TAugI i te ti D σ H
theorem lZ{i:Nat}{x:Str}{e:Expr}{te:TE}{op:Operator}{ti:TIp}{pos':Pos}(hN:X.N.Nodup)(hi:X.N[i]?=some x)(hx:Loc X.env.scope x)(he:PE X e te)(ho:PIp X op ti)(hf:X.fn x=true\/X.env.scope.names.lookup x=some .local:=by first|exact .inl rfl|exact .inr rfl|assumption):
  PS X (.AugAssign (.Name x pos') op e pos) (K6 i te ti):=by
 intro Zt s σ H D I h;obtain⟨v,e1,h⟩:=h;obtain⟨m,hn,hl⟩:=I.loc;have MW:Vis X.env.scope x:=by rcases hx with k|k;exact .inl k;exact .inr (.inl k)
 obtain⟨u,r,l⟩:=hl i x v hi e1 MW;refine wpAny_AugAssign_Name ?_
 have go:wpAny (model X.prog X.w) X.A (eval e X.env) (fun w s₂=>wpAny (model X.prog X.w) X.A (inplaceOp op u w) (fun r s₃=>wpAny (model X.prog X.w) X.A (storeName X.env x r) (fun _=>SP X Zt D .next) X.xe s₃) X.xe s₂) X.xe s:=by
  refine thn (he Zt s σ H _ I h) fun w s1 ⟨y,H1,I1,r1,q1⟩=>?_;refine thn (ho Zt s1 σ H1 v y u w _ I1 r r1 q1) fun z s2 ⟨zv,H2,I2,r2,q2⟩=>?_;exact gJ I2 hN hi hx r2 (fun s3 I3=>⟨_,H2,I3,q2⟩) hf
 rcases l with⟨hk,hm⟩|⟨hk,c,hc,hcell⟩
 .exact wpAny_loadName_local I.ok.kind hk hn hm go
 .rcases hk with hk|hk
  .exact wpAny_loadName_cell I.ok.kind hk hc hcell go
  .rcases hx with k|k
   .have:X.env.scope.names.lookup x=some .free:=hk;rw[k]at this;cases this
   .have:X.env.scope.names.lookup x=some .free:=hk;rw[k]at this;cases this
def Ik(to ti te:TE)(mm:V->V->Hp->VK->Prop)(AY:TIp)(mn:xZ):TS:=fun D σ H=>to σ H fun o H1=>ti σ H1 fun i H2=>mm o i H2 fun x H3=>te σ H3 fun y H4=>AY x y H4 fun z H5=>mn o i z H5 fun H6=>D.nx σ H6
def Il(X:Cx)(t:V->V->Hp->VK->Prop):Prop:=
 ∀(Zt:List (Addr×Obj)) (s:Shared) (σ:St) (H:Hp) (o i:V) (ov iv:Value) (Q:VK),Inv X Zt σ H s->RelV o ov->RelV i iv->t o i H Q->
  wpAny (model X.prog X.w) X.A (getItem ov iv) (EP X Zt σ Q) X.xe s
theorem qD{o i e:Expr}{to ti te:TE}{mm:V->V->Hp->VK->Prop}{AY:TIp}{mn:xZ}{op:Operator}{p9:Pos}(ho:PE X o to)(hi:PE X i ti)(hg:Il X mm)(he:PE X e te)(hp:PIp X op AY)(hs:Dc X mn)
  (ha:∀ov iv new,augStore i ov iv new=(do holding [new,ov,iv] (setItem ov iv new);release [new,ov,iv] [];pure .next):=by intros;rfl):PS X (.AugAssign (.Subscript o i p9) op e pos) (Ik to ti te mm AY mn):=by
 intro Zt s σ H D I h;refine wpAny_AugAssign_SubscriptAny (thn (ho Zt s σ H _ I h) fun ov s1 ⟨x1,H1,I1,r1,q1⟩=>?_) ha;refine thn (hi Zt s1 σ H1 _ I1 q1) fun iv s2 ⟨x2,H2,I2,r2,q2⟩=>?_;refine thn (hg Zt s2 σ H2 x1 x2 ov iv _ I2 r1 r2 q2) fun old s3 ⟨x3,H3,I3,r3,q3⟩=>?_;refine thn (he Zt s3 σ H3 _ I3 q3) fun v s4 ⟨x4,H4,I4,r4,q4⟩=>?_;refine thn (hp Zt s4 σ H4 x3 x4 old v _ I4 r3 r4 q4) fun new s5 ⟨x5,H5,I5,r5,q5⟩=>?_
 exact thn (hs Zt s5 σ H5 x1 x2 x5 ov iv new _ I5 r1 r2 r5 q5) fun _ s6 ⟨H6,I6,q6⟩=>⟨σ,H6,I6,q6⟩
def ipI(f:Int->Int->Int):TIp:=fun x y H Q=>∃i j,x=.int i/\y=.int j/\Q (.int (f i j)) H
theorem zx:PIp X .Add (ipI fun i j=>i+j):=by
 intro Zt s σ H x y v u Q I r1 r2 h;obtain⟨i,j,e1,e2,q⟩:=h;subst e1;subst e2;obtain⟨t,rfl⟩:=r1;obtain⟨t',rfl⟩:=r2;exact iadd_int ⟨.int _,H,I.tok _,⟨_,rfl⟩,q⟩
theorem zy:PIp X .Sub (ipI fun i j=>i-j):=by
 intro Zt s σ H x y v u Q I r1 r2 h;obtain⟨i,j,e1,e2,q⟩:=h;subst e1;subst e2;obtain⟨t,rfl⟩:=r1;obtain⟨t',rfl⟩:=r2;exact isub_int ⟨.int _,H,I.tok _,⟨_,rfl⟩,q⟩
end
section
variable{X:Cx}{pos:Pos}
def Gs(c:TT)(tb:TS):TS:=fun D σ H=>∃W:Nat->St->Hp->Prop,(∃m,W m σ H)/\∀m σ H,W m σ H->
 c σ H fun b H1=>if b=true then ∃N:St->Hp->Prop,(∀ar H',N ar H'->∃m',m'<m/\W m' ar H')/\tb {D with nx:=N,ct:=N,bk:=D.nx} σ H1 else D.nx σ H1
theorem zz{c:Expr}{body:List Stmt}{tc:TT}{tb:TS}(hp:PassesOwn (model X.prog X.w) X.A X.env X.xe)(hc:PT X c tc)(hb:PSs X body tb):PS X (.While c body [] pos) (Gs tc tb):=by
 intro Zt s σ H D I h;obtain⟨W,⟨m0,w0⟩,turn⟩:=h;refine wpAny_While (codeAny_whileLoop (fun n s'=>∃ar H',Inv X Zt ar H' s'/\W n ar H') ?_ m0 ⟨σ,H,I,w0⟩);rintro n s1 ⟨nL,H1,I1,w1⟩;refine wpAny_passesOwn hp (thn (hc Zt s1 nL H1 _ I1 (turn n nL H1 w1)) fun b s2 ⟨H2,I2,q2⟩=>?_)
 cases b with
 |true=>
  obtain⟨N,hN,q2⟩:=q2;rw[zAx rfl];refine wpAny_passesOwn hp (thn (hb Zt s2 nL H2 _ I2 q2) fun f s3 q3=>?_)
  cases f with
  |next=>
   obtain⟨cc,H3,I3,n3⟩:=q3;obtain⟨m',hm,w3⟩:=hN cc H3 n3;exact⟨m',hm,cc,H3,I3,w3⟩
  |cont=>
   obtain⟨cc,H3,I3,n3⟩:=q3;obtain⟨m',hm,w3⟩:=hN cc H3 n3;exact⟨m',hm,cc,H3,I3,w3⟩
  |brk=>exact q3
  |ret v=>exact q3
 |false=>
  rw[zAw zAg];exact wpAny_execs_nil ⟨nL,H2,I2,q2⟩
end
structure It where
 go:Nat->Hp->Prop
 yld:Nat->Hp->V->Hp->Prop
 stop:Nat->Hp->Prop
def gG(X:Cx)(Zt:List (Addr×Obj))(H:Hp)(b:Addr):Prop:=
 H b=none/\b≠X.env.locals/\b∉X.fs/\(b∈X.ex\/X.s₀.heap.objs.size<=b)/\(∀x c,X.env.cells.lookup x=some c->c≠b)/\∀p∈X.pn++Zt,p.1≠b
theorem Inv.fpOk{X:Cx}{Zt:List (Addr×Obj)}{σ:St}{H H':Hp}{s:Shared}{b:Addr}(I:Inv X Zt σ H s)(hb:s.heap.objs.size<=b)(hn:H' b=none):gG X Zt H' b:=by
 refine⟨hn,Nat.ne_of_gt (zB2 I.lt hb),I.nofs hb,.inr (Nat.le_trans I.sz hb),fun x c e z=>?_,fun p hp z=>?_⟩
 .obtain⟨v,q⟩:=I.cell x c e;exact absurd (zB2 q.lt (by rw[z];exact hb)) (Nat.lt_irrefl _)
 .exact absurd (zB2 (zB1 (I.pin p hp).1) (by rw[z];exact hb)) (Nat.lt_irrefl _)
structure Turn(P:Program)(w:World)(K:Frag)(tg:Expr)(J:It)(fp:List Addr)(it:Addr)(tn:Nat->Heap->Prop):Prop where
 mem:it∈fp
 obj:∀i h,tn i h->∀b∈fp,∃o,h.get? b=some o/\∀v,o.data≠.cell v
 keep:∀i h h',tn i h->(∀b∈fp,∀o,h.get? b=some o->h'.get? b=some o)->tn i h'
 item:∀(X:Cx),X.prog=P->X.w=w->X.K=K->X.calm=true->∀(i:Nat) (Zt:List (Addr×Obj)) (s:Shared) (σ:St) (H:Hp) (E:Value->Shared->Prop),Inv X Zt σ H s->(∀b∈fp,gG X Zt H b)->tn i s.heap->J.go i H->
  wpAny (model P w) X.A (pyNext (.ref it)) (fun r s1=>∃u,r=some u /\
   wpAny (model P w) X.A (letOwnedTupleGo tg (.ref it) u) (fun _ s2=>∃x H',Inv X Zt σ H' s2/\RelV x u/\J.yld i H x H'/\tn (i+1) s2.heap/\∀b∈fp,H' b=none) E s1) E s
 done:∀(X:Cx),X.prog=P->X.w=w->X.K=K->X.calm=true->∀(i:Nat) (Zt:List (Addr×Obj)) (s:Shared) (σ:St) (H:Hp) (E:Value->Shared->Prop),Inv X Zt σ H s->(∀b∈fp,gG X Zt H b)->tn i s.heap->J.stop i H->
  wpAny (model P w) X.A (pyNext (.ref it)) (fun r s1=>r=none/\Inv X Zt σ H s1) E s
 self:∀(A:Around) (i:Nat) (s:Shared) (Q:Value->Shared->Prop) (E:Value->Shared->Prop),tn i s.heap->Q (.ref it) s->wpAny (model P w) A (pyIter (.ref it)) Q E s
abbrev TI:=St->Hp->(It->Hp->Prop)->Prop
def PIE(X:Cx)(Zt:List (Addr×Obj))(σ:St)(tg:Expr)(R:It->Hp->Prop)(qa:Value)(s2:Shared):Prop:=
 ∃(it:Addr) (fp:List Addr) (tn:Nat->Heap->Prop) (J:It) (H':Hp),qa=.ref it/\Inv X Zt σ H' s2/\Turn X.prog X.w X.K tg J fp it tn/\tn 0 s2.heap/\(∀b∈fp,gG X Zt H' b)/\R J H'
def PI(X:Cx)(tg iter:Expr)(wi:TI):Prop:=
 ∀(Zt:List (Addr×Obj)) (s:Shared) (σ:St) (H:Hp) (R:It->Hp->Prop),Inv X Zt σ H s->wi σ H R->
  wpAny (model X.prog X.w) X.A (eval iter X.env) (fun v s1=>wpAny (model X.prog X.w) X.A (pyIter v) (PIE X Zt σ tg R) X.xe s1) X.xe s
theorem sS{M:Model}{A:Around}{E:Value->Shared->Prop}{s:Shared}{tg:Expr}{it:Addr}{u:Value}{o:Obj}{n:String}{vs:Array Value}{Q:Unit->Shared->Prop}(ho:s.heap.get? it=some o)(hc:o.cls=.type n)(hd:o.data=.fields vs)
  (hn:["enumerate","zip","dict_itemiterator","dict_reverseitemiterator","odict_iterator","itertools.zip_longest","itertools.pairwise"].contains n=false) (hQ:Q () s):wpAny M A (letOwnedTupleGo tg (.ref it) u) Q E s:=by
 unfold letOwnedTupleGo
 cases tg<;>first
  |exact zAz hQ
  | (cases u<;>first
    |exact zAz hQ
    | (refine zAt (wpAny_load ho ?_)
       rw[hc,hd];show wpAny M A (if(["enumerate","zip","dict_itemiterator","dict_reverseitemiterator","odict_iterator","itertools.zip_longest","itertools.pairwise"].contains n&&vs[0]?==some (rawInt _))=true then _ else _) Q E s;rw[zAw (by intro h;rw[hn,Bool.false_and]at h;cases h)]
       exact zAz hQ))
def Itl(K:Frag)(a:Addr):It:=
 ⟨fun i H=>∃xs x,SqL K H a xs/\xs[i]?=some x,fun i H x H'=>H'=H/\∀xs,SqL K H a xs->xs[i]?=some x,fun i H=>∃xs,SqL K H a xs/\xs.length<=i⟩
def Itt(K:Frag)(a:Addr):It:=
 ⟨fun i H=>∃xs x,SqT K H a xs/\xs[i]?=some x,fun i H x H'=>H'=H/\∀xs,SqT K H a xs->xs[i]?=some x,fun i H=>∃xs,SqT K H a xs/\xs.length<=i⟩
def Itr(lo:Int)(n:Nat):It:=⟨fun i _=>i<n,fun i H x H'=>H'=H/\x=.int (lo+i),fun i _=>n<=i⟩
theorem yd{P:Program}{w:World}{K:Frag}{tg:Expr}(a it:Addr):Turn P w K tg (Itl K a) [it] it (fun i h=>h.IsListIter it a i) where
 mem:=by simp
 obj:=fun i h st b hb=>by
  have e:b=it:=by simpa using hb
  subst e;obtain⟨o,e,c,d⟩:=st;exact⟨o,e,fun v z=>by rw[d]at z;cases z⟩
 keep:=fun i h h' st k=>st.at fun o e=>k it Zy o e
 item:=by
  intro X hP hw hK hc i Zt s σ H E I hf st hg;subst hP hw hK;obtain⟨xs,x,hq,hx⟩:=hg;obtain⟨Zs,rv,p,hz⟩:=I.list hq;obtain⟨u,hu,ru⟩:=rv.get hx;obtain⟨f0,f1,f2,f3,f4,f5⟩:=hf it Zy;refine wpAny_pyNext_list_item st p.isList (x:=u) (by simpa using hu) fun h' Zr sb=>?_;have I1:Inv X Zt σ H {s with heap:=h'}:=I.turned (t':=s.toks) (fun b o hb e=>(sb.2 b hb).trans e) f0 f1 f3 f4 f5;obtain⟨o,e,c,d⟩:=id Zr;exact⟨u,rfl,sS (s:={s with heap:=h'}) e c d Zx ⟨x,H,I1,ru,⟨rfl,fun ys hy=>by rw[I.list_inj hy hq];exact hx⟩,Zr,fun b hb=>(hf b hb).1⟩⟩
 done:=by
  intro X hP hw hK hc i Zt s σ H E I hf st hg;subst hP hw hK;obtain⟨xs,hq,hx⟩:=hg;obtain⟨Zs,rv,p,hz⟩:=I.list hq;obtain⟨f0,f1,f2,f3,f4,f5⟩:=hf it Zy;have hl:=rv.length
  exact wpAny_pyNext_list_end (I.ok.hd hc) st p.isList (by simp;lia) fun h' eb=>⟨rfl,I.turned (t':=s.toks) (fun b o hb e=>eb b o hb e) f0 f1 f3 f4 f5⟩
 self:=fun _ _ _ _ _ st h=>wpAny_pyIter_listiter st h
theorem uP{P:Program}{w:World}{K:Frag}{tg:Expr}(a it:Addr):Turn P w K tg (Itt K a) [it] it (fun i h=>h.IsTupleIter it a i) where
 mem:=by simp
 obj:=fun i h st b hb=>by
  have e:b=it:=by simpa using hb
  subst e;obtain⟨o,e,c,d⟩:=st;exact⟨o,e,fun v z=>by rw[d]at z;cases z⟩
 keep:=fun i h h' st k=>st.at fun o e=>k it Zy o e
 item:=by
  intro X hP hw hK hc i Zt s σ H E I hf st hg;subst hP hw hK;obtain⟨xs,x,hq,hx⟩:=hg;obtain⟨Zs,rv,p,hz⟩:=I.tuple hq;obtain⟨u,hu,ru⟩:=rv.get hx;obtain⟨f0,f1,f2,f3,f4,f5⟩:=hf it Zy;refine wpAny_pyNext_tuple_item st (show s.heap.IsTuple a Zs.toArray from p) (x:=u) (by simpa using hu) fun h' Zr sb=>?_;have I1:Inv X Zt σ H {s with heap:=h'}:=I.turned (t':=s.toks) (fun b o hb e=>(sb.2 b hb).trans e) f0 f1 f3 f4 f5;obtain⟨o,e,c,d⟩:=id Zr;exact⟨u,rfl,sS (s:={s with heap:=h'}) e c d Zx ⟨x,H,I1,ru,⟨rfl,fun ys hy=>by rw[I.tuple_inj hy hq];exact hx⟩,Zr,fun b hb=>(hf b hb).1⟩⟩
 done:=by
  intro X hP hw hK hc i Zt s σ H E I hf st hg;subst hP hw hK;obtain⟨xs,hq,hx⟩:=hg;obtain⟨Zs,rv,p,hz⟩:=I.tuple hq;obtain⟨f0,f1,f2,f3,f4,f5⟩:=hf it Zy;have hl:=rv.length
  exact wpAny_pyNext_tuple_end (I.ok.hd hc) st (show s.heap.IsTuple a Zs.toArray from p) (by simp;lia) fun h' eb=>⟨rfl,I.turned (t':=s.toks) (fun b o hb e=>eb b o hb e) f0 f1 f3 f4 f5⟩
 self:=fun _ _ _ _ _ st h=>wpAny_pyIter_tupleiter st h
theorem uQ{P:Program}{w:World}{K:Frag}{tg:Expr}(it:Addr)(lo:Int)(n:Nat):Turn P w K tg (Itr lo n) [it] it (fun i h=>IsRangeIter h it (lo+(i:Nat)*1) ((n:Int)-(i:Nat)) 1) where
 mem:=by simp
 obj:=fun i h st b hb=>by
  have e:b=it:=by simpa using hb
  subst e
  exact⟨_,st,fun v z=>by
   have z':Data.fields _=Data.cell v:=z
   cases z'⟩
 keep:=fun i h h' st k=>k it Zy _ st
 item:=by
  intro X hP hw hK hc i Zt s σ H E I hf st hg;subst hP hw hK;obtain⟨f0,f1,f2,f3,f4,f5⟩:=hf it Zy;have W:=Walks.range (prog:=X.prog) (w:=X.w) (I.ok.hd hc) it lo 1 n;refine W.item i s _ _ hg st fun v h' tk hv Zr kk=>?_;obtain⟨t,rfl⟩:=hv;have I1:Inv X Zt σ H {s with heap:=h',toks:=tk}:=I.turned (fun b o hb e=>kk b o (by simpa using hb) e) f0 f1 f3 f4 f5;refine⟨_,rfl,sS (s:={s with heap:=h',toks:=tk}) (n:="range_iterator") Zr rfl rfl Zx ⟨.int (lo+i),H,I1,⟨t,?_⟩,⟨rfl,rfl⟩,Zr,fun b hb=>(hf b hb).1⟩⟩;rw[Int.mul_one]
 done:=by
  intro X hP hw hK hc i Zt s σ H E I hf st hg;subst hP hw hK;obtain⟨f0,f1,f2,f3,f4,f5⟩:=hf it Zy
  exact wpAny_pyNext_range_end (I.ok.hd hc) st (by have:n<=i:=hg;lia) fun h' eb=>⟨rfl,I.turned (t':=s.toks) (fun b o hb e=>eb b o hb e) f0 f1 f3 f4 f5⟩
 self:=fun _ _ _ _ _ st h=>wpAny_pyIter_rangeiter st h
section
variable{X:Cx}{tg:Expr}
def Fo(K:Frag)(tl:TE):TI:=fun σ H R=>tl σ H fun x H1=>∃a,x=.ref a/\(∃xs,SqL K H1 a xs)/\R (Itl K a) H1
def Im(K:Frag)(tl:TE):TI:=fun σ H R=>tl σ H fun x H1=>∃a,x=.ref a/\(∃xs,SqT K H1 a xs)/\R (Itt K a) H1
theorem dG{l:Expr}{tl:TE}(hl:PE X l tl):PI X tg l (Fo X.K tl):=by
 intro Zt s σ H R I h;refine thn (hl Zt s σ H _ I h) fun v s1 ⟨x,H1,I1,r1,q1⟩=>?_;obtain⟨a,e,⟨xs,hq⟩,q⟩:=q1;subst e;cases r1;obtain⟨Zs,rv,p,hz⟩:=I1.list hq;refine wpAny_pyIter_list p.isList ?_;refine⟨s1.heap.objs.size,[s1.heap.objs.size],_,_,H1,rfl,I1.kept (t':=s1.toks) fun b o e=>Heap.get?_push_of_some _ e,yd a _,⟨_,Heap.get?_push_size _ rfl,rfl,rfl⟩,fun b hb=>?_,q⟩;have e:b=s1.heap.objs.size:=by simpa using hb
 subst e;exact I1.fpOk (zA3 _) (I1.hok.fresh (zA3 _))
theorem fU{l:Expr}{tl:TE}(hl:PE X l tl):PI X tg l (Im X.K tl):=by
 intro Zt s σ H R I h;refine thn (hl Zt s σ H _ I h) fun v s1 ⟨x,H1,I1,r1,q1⟩=>?_;obtain⟨a,e,⟨xs,hq⟩,q⟩:=q1;subst e;cases r1;obtain⟨Zs,rv,p,hz⟩:=I1.tuple hq;refine wpAny_pyIter_tuple (show s1.heap.IsTuple a Zs.toArray from p) ?_;refine⟨s1.heap.objs.size,[s1.heap.objs.size],_,_,H1,rfl,I1.kept (t':=s1.toks) fun b o e=>Heap.get?_push_of_some _ e,uP a _,⟨_,Heap.get?_push_size _ rfl,rfl,rfl⟩,fun b hb=>?_,q⟩;have e:b=s1.heap.objs.size:=by simpa using hb
 subst e;exact I1.fpOk (zA3 _) (I1.hok.fresh (zA3 _))
theorem sU{Zt:List (Addr×Obj)}{σ:St}{H:Hp}{s:Shared}{R:It->Hp->Prop}{E:Value->Shared->Prop}{lo hi:Int}{t u v:Tok}{tk:Nat}(I:Inv X Zt σ H s)(h1:-(2^62)<=lo)(h2:lo<2^62)(h3:-(2^62)<=hi)(h4:hi<2^62)
  (q:R (Itr lo (hi-lo).toNat) H):wpAny (model X.prog X.w) X.A (pyIter (.ref s.heap.objs.size)) (PIE X Zt σ tg R) E {s with heap:=s.heap.push {cls:=.type "range",data:=.fields #[.int lo t,.int hi u,.int 1 v]},toks:=tk}:=by
 refine wpAny_pyIter_range (IsRange.new ..) (small_one h1 h2 h3 h4) ?_;have I1:Inv X Zt σ H {s with heap:=s.heap.push {cls:=.type "range",data:=.fields #[.int lo t,.int hi u,.int 1 v]},toks:=tk}:=I.kept fun b o e=>zAy _ e
 refine⟨(s.heap.push {cls:=.type "range",data:=.fields #[.int lo t,.int hi u,.int 1 v]}).objs.size,[(s.heap.push {cls:=.type "range",data:=.fields #[.int lo t,.int hi u,.int 1 v]}).objs.size],_,_,H,rfl,
  I1.kept (t':=tk) fun b o e=>zAy _ e,uQ _ lo (hi-lo).toNat,?_,fun b hb=>?_,q⟩
 .have e1:lo+((0:Nat):Int)*1=lo:=by simp
  have e2:(((hi-lo).toNat:Nat):Int)-((0:Nat):Int)=Builtin.Range.rangeSize lo hi 1:=by rw[rangeSize_one];split<;>lia
  show IsRangeIter _ _ (lo+((0:Nat):Int)*1) ((((hi-lo).toNat:Nat):Int)-((0:Nat):Int)) 1;rw[e1,e2];exact zB3 _ rfl
 .have e:b=(s.heap.push {cls:=.type "range",data:=.fields #[.int lo t,.int hi u,.int 1 v]}).objs.size:=by simpa using hb
  subst e;exact I1.fpOk (zA3 _) (I1.hok.fresh (zA3 _))
def Ip(ta:TA):TI:=fun σ H R=>ta σ H fun vs H1=>∃j:Int,vs=[.int j]/\-(2^62)<=j/\j<2^62/\R (Itr 0 j.toNat) H1
def Ir(ta:TA):TI:=fun σ H R=>ta σ H fun vs H1=>∃i j:Int,vs=[.int i,.int j]/\(-(2^62)<=i/\i<2^62/\-(2^62)<=j/\j<2^62)/\R (Itr i (j-i).toNat) H1
theorem aZ{a:Expr}{ta:TA}{p pos:Pos}(hg:Gl X "range")(hm:X.mg "range"=none)(ha:PA X [a] ta)(hs:starEach [a] X.env=[(false,eval a X.env)]:=by rfl):PI X tg (.Call (.Name "range" p) [a] [] pos) (Ip ta):=by
 intro Zt s σ H R I h;refine Call_ (gK I hg hm boot_range (PyProof.Rows.callWith_type1 (thn (ha pos Zt s σ H _ I h) fun us s1 ⟨vs,H1,I1,r1,q1⟩=>?_) hs rfl));obtain⟨j,e,q1,q2,q⟩:=q1;subst e
 cases r1 with
 |cons r rr=>
  cases rr;obtain⟨t,rfl⟩:=r;exact call_range_1 (sU I1 Zz Zz q1 q2 (by simpa using q))
theorem iy{a b:Expr}{ta:TA}{p pos:Pos}(hg:Gl X "range")(hm:X.mg "range"=none)(ha:PA X [a,b] ta)(hs:starEach [a,b] X.env=[(false,eval a X.env),(false,eval b X.env)]:=by rfl)(kq:starEach [b] X.env=[(false,eval b X.env)]:=by rfl):
  PI X tg (.Call (.Name "range" p) [a,b] [] pos) (Ir ta):=by
 intro Zt s σ H R I h;refine Call_ (gK I hg hm boot_range (PyProof.Rows.callWith_type1 (thn (ha pos Zt s σ H _ I h) fun us s1 ⟨vs,H1,I1,r1,q1⟩=>?_) (by rw[hs,kq]) (by rw[kq];rfl)));obtain⟨i,j,e,⟨q1,q2,q3,q4⟩,q⟩:=q1;subst e
 cases r1 with
 |cons r rr=>
  cases rr with
  |cons r' rr=>
   cases rr;obtain⟨t,rfl⟩:=r;obtain⟨t',rfl⟩:=r';exact call_range_2 (sU I1 q1 q2 q3 q4 q)
def K7(wi:TI)(g:TG)(tb:TS):TS:=fun D σ H=>wi σ H fun J H1=>∃W:Nat->Nat->St->Hp->Prop,(∃m,W 0 m σ H1)/\∀i m σ H,W i m σ H->
 (J.stop i H/\D.nx σ H)\/(J.go i H/\∃N:St->Hp->Prop,(∀ar H',N ar H'->∃m',m'<m/\W (i+1) m' ar H')/\∀x H',J.yld i H x H'->g x σ H' fun aS H2=>tb {D with nx:=N,ct:=N,bk:=D.nx} aS H2)
def gm(fp:List Addr)(h:Heap):List (Addr×Obj):=fp.filterMap fun b=>(h.get? b).map fun o=>(b,o)
theorem cY{fp:List Addr}{h:Heap}{b:Addr}{o:Obj}(hb:b∈fp)(e:h.get? b=some o):(b,o)∈gm fp h:=List.mem_filterMap.mpr ⟨b,hb,by rw[e];rfl⟩
theorem oW{fp:List Addr}{h:Heap}{p:Addr×Obj}(hp:p∈gm fp h):p.1∈fp/\h.get? p.1=some p.2:=by
 obtain⟨b,hb,e⟩:=List.mem_filterMap.mp hp
 cases q:h.get? b with
 |none=>rw[q]at e;cases e
 |some o=>
  rw[q]at e;have e':(b,o)=p:=zAl e;subst e';exact⟨hb,q⟩
theorem Inv.pinned{Zt:List (Addr×Obj)}{σ:St}{H:Hp}{s:Shared}{fp:List Addr}(I:Inv X Zt σ H s)(hf:∀b∈fp,gG X Zt H b)(ho:∀b∈fp,∃o,s.heap.get? b=some o/\∀v,o.data≠.cell v):Inv X (Zt++gm fp s.heap) σ H s:=
 I.pins_of fun p hp=>(zA6.mp hp).elim (fun z=>I.pin p (zB0 _ z)) fun z=>by
  obtain⟨hb,e⟩:=oW z;obtain⟨f0,f1,f2,_⟩:=hf p.1 hb;obtain⟨o,e',d⟩:=ho p.1 hb;rw[e]at e';cases e';exact⟨e,f0,f1,f2,d⟩
theorem Inv.unpinned{Zt pl:List (Addr×Obj)}{σ:St}{H:Hp}{s:Shared}(I:Inv X (Zt++pl) σ H s):Inv X Zt σ H s:=I.pins_of fun p hp=>I.pin p (zB0 _ (List.mem_append_left _ hp))
theorem bT{iter:Expr}{body:List Stmt}{wi:TI}{g:TG}{tb:TS}{pos:Pos}(hp:PassesOwn (model X.prog X.w) X.A X.env X.xe)(hc:X.calm=true)(hi:PI X tg iter wi)(hg:PG X tg g)(hb:PSs X body tb)
  (hs:∀x,foldedSetIterable iter X.env x=pure x:=by intro _;rfl):PS X (.For tg iter body [] pos) (K7 wi g tb):=by
 intro Zt s σ H D I h;refine wpAny_For (thn (hi Zt s σ H _ I h) fun v s1 h1=>thn h1 fun qa s2 h2=>?_) hs;obtain⟨it,fp,tn,J,H2,e,I2,T,st2,f2,W,⟨m0,w0⟩,turn⟩:=h2;subst e
 have qf:∀{H':Hp},(∀b∈fp,H' b=none)->∀b∈fp,gG X Zt H' b:=fun hn b hb=>⟨hn b hb,(f2 b hb).2⟩
 refine codeAny_forLoop_any (fun n s'=>∃i ar H',Inv X Zt ar H' s'/\tn i s'.heap/\(∀b∈fp,H' b=none)/\W i n ar H') ?_ m0 ⟨0,σ,H2,I2,st2,fun b hb=>(f2 b hb).1,w0⟩;rintro n s3 ⟨i,cc,H3,I3,fw,kF,w3⟩;rcases turn i n cc H3 w3 with⟨stop,qn⟩|⟨go,N,hN,step⟩
 .refine wpAny_passesOwn hp (thn (T.done X rfl rfl rfl hc i Zt s3 cc H3 X.xe I3 (qf kF) fw stop) fun r s4 ⟨hr,I4⟩=>?_);subst hr;exact wpAny_execs_nil ⟨cc,H3,I4,qn⟩
 .refine wpAny_passesOwn hp (thn (T.item X rfl rfl rfl hc i Zt s3 cc H3 X.xe I3 (qf kF) fw go) fun r s4 ⟨u,hr,h4⟩=>?_);subst hr;refine wpAny_passesOwn hp (thn h4 fun _ s5 ⟨x,H5,I5,r5,y5,hG,qh⟩=>?_);have qo:=I5.pinned (qf qh) (T.obj _ _ hG);refine wpAny_passesOwn hp (thn (hg _ s5 cc H5 x u _ qo r5 (step x H5 y5)) fun _ s6 ⟨fe,H6,I6,q6⟩=>?_);refine wpAny_passesOwn hp (thn (hb _ s6 fe H6 _ I6 q6) fun f s7 q7=>?_)
  have again:∀{kG:St} {H7:Hp},Inv X (Zt++gm fp s5.heap) kG H7 s7->N kG H7->∃m,m<n/\∃i ar H',Inv X Zt ar H' s7/\tn i s7.heap/\(∀b∈fp,H' b=none)/\W i m ar H':=fun{kG H7} I7 n7=>by
   obtain⟨m',hm,w7⟩:=hN kG H7 n7;refine⟨m',hm,i+1,kG,H7,I7.unpinned,T.keep _ _ _ hG fun b hb o e=>(I7.pin (b,o) (zB0 _ (zB0 _ (cY hb e)))).1,fun b hb=>?_,w7⟩;obtain⟨o,e,d⟩:=T.obj _ _ hG b hb;exact(I7.pin (b,o) (zB0 _ (zB0 _ (cY hb e)))).2.1
  cases f with
  |next=>obtain⟨kG,H7,I7,n7⟩:=q7;exact again I7 n7
  |cont=>obtain⟨kG,H7,I7,n7⟩:=q7;exact again I7 n7
  |brk=>obtain⟨kG,H7,I7,q7⟩:=q7;exact⟨kG,H7,I7.unpinned,q7⟩
  |ret v=>obtain⟨x7,kG,H7,I7,r7,q7⟩:=q7;exact⟨x7,kG,H7,I7.unpinned,r7,q7⟩
end
theorem gP{K:Frag}{a:Addr}{xs:List V}{g:TG}{tb:TS}{D:Ends}{σ:St}{H:Hp}(Pv:Nat->St->Hp->Prop)(h0:Pv 0 σ H)(hl:∀i σ H,i<=xs.length->Pv i σ H->SqL K H a xs)
  (hs:∀i x σ H,xs[i]?=some x->Pv i σ H->g x σ H fun aS H2=>tb {D with nx:=Pv (i+1),ct:=Pv (i+1),bk:=D.nx} aS H2) (hd:∀σ H,Pv xs.length σ H->D.nx σ H):
  ∃W:Nat->Nat->St->Hp->Prop,(∃m,W 0 m σ H)/\∀i m σ H,W i m σ H->
   ((Itl K a).stop i H/\D.nx σ H)\/((Itl K a).go i H/\∃N:St->Hp->Prop,(∀ar H',N ar H'->∃m',m'<m/\W (i+1) m' ar H')/\∀x H',(Itl K a).yld i H x H'->g x σ H' fun aS H2=>tb {D with nx:=N,ct:=N,bk:=D.nx} aS H2):=by
 refine⟨fun i m σ H=>m=xs.length-i/\i<=xs.length/\Pv i σ H,⟨xs.length,by simp,Nat.zero_le _,h0⟩,?_⟩;rintro i m σ H ⟨rfl,hi,p⟩;have q:=hl i σ H hi p;by_cases bp:i<xs.length
 .refine .inr ⟨⟨xs,xs[i],q,by simp[bp]⟩,Pv (i+1),fun ar H' p'=>⟨xs.length-(i+1),Zz,rfl,bp,p'⟩,fun x H' y=>?_⟩;obtain⟨e,y⟩:=y;subst e;exact hs i x σ _ (y xs q) p
 .have e:i=xs.length:=Zz
  subst e;exact .inl ⟨⟨xs,q,zA3 _⟩,hd σ H p⟩
theorem Dd{K:Frag}{a:Addr}{xs:List V}{g:TG}{tb:TS}{D:Ends}{σ:St}{H:Hp}(Pv:Nat->St->Hp->Prop)(h0:Pv 0 σ H)(hl:∀i σ H,i<=xs.length->Pv i σ H->SqT K H a xs)
  (hs:∀i x σ H,xs[i]?=some x->Pv i σ H->g x σ H fun aS H2=>tb {D with nx:=Pv (i+1),ct:=Pv (i+1),bk:=D.nx} aS H2) (hd:∀σ H,Pv xs.length σ H->D.nx σ H):
  ∃W:Nat->Nat->St->Hp->Prop,(∃m,W 0 m σ H)/\∀i m σ H,W i m σ H->
   ((Itt K a).stop i H/\D.nx σ H)\/((Itt K a).go i H/\∃N:St->Hp->Prop,(∀ar H',N ar H'->∃m',m'<m/\W (i+1) m' ar H')/\∀x H',(Itt K a).yld i H x H'->g x σ H' fun aS H2=>tb {D with nx:=N,ct:=N,bk:=D.nx} aS H2):=by
 refine⟨fun i m σ H=>m=xs.length-i/\i<=xs.length/\Pv i σ H,⟨xs.length,by simp,Nat.zero_le _,h0⟩,?_⟩;rintro i m σ H ⟨rfl,hi,p⟩;have q:=hl i σ H hi p;by_cases bp:i<xs.length
 .refine .inr ⟨⟨xs,xs[i],q,by simp[bp]⟩,Pv (i+1),fun ar H' p'=>⟨xs.length-(i+1),Zz,rfl,bp,p'⟩,fun x H' y=>?_⟩;obtain⟨e,y⟩:=y;subst e;exact hs i x σ _ (y xs q) p
 .have e:i=xs.length:=Zz
  subst e;exact .inl ⟨⟨xs,q,zA3 _⟩,hd σ H p⟩
theorem cu{lo:Int}{n:Nat}{g:TG}{tb:TS}{D:Ends}{σ:St}{H:Hp}(Pv:Nat->St->Hp->Prop)(h0:Pv 0 σ H)
  (hs:∀i σ H,i<n->Pv i σ H->g (.int (lo+i)) σ H fun aS H2=>tb {D with nx:=Pv (i+1),ct:=Pv (i+1),bk:=D.nx} aS H2) (hd:∀σ H,Pv n σ H->D.nx σ H):
  ∃W:Nat->Nat->St->Hp->Prop,(∃m,W 0 m σ H)/\∀i m σ H,W i m σ H->
   ((Itr lo n).stop i H/\D.nx σ H)\/((Itr lo n).go i H/\∃N:St->Hp->Prop,(∀ar H',N ar H'->∃m',m'<m/\W (i+1) m' ar H')/\∀x H',(Itr lo n).yld i H x H'->g x σ H' fun aS H2=>tb {D with nx:=N,ct:=N,bk:=D.nx} aS H2):=by
 refine⟨fun i m σ H=>m=n-i/\i<=n/\Pv i σ H,⟨n,by simp,Nat.zero_le _,h0⟩,?_⟩;rintro i m σ H ⟨rfl,hi,p⟩;by_cases bp:i<n
 .refine .inr ⟨bp,Pv (i+1),fun ar H' p'=>⟨n-(i+1),Zz,rfl,bp,p'⟩,fun x H' y=>?_⟩;obtain⟨e,y⟩:=y;subst e y;exact hs i σ _ bp p
 .have e:i=n:=Zz
  subst e;exact .inl ⟨zA3 _,hd σ H p⟩
abbrev R2:=V->V->Hp->VK->Prop
def OpR(X:Cx)(f:Value->Value->Sem Value)(r:R2):Prop:=
 ∀(Zt:List (Addr×Obj)) (s:Shared) (σ:St) (H:Hp) (x y:V) (v u:Value) (Q:VK),Inv X Zt σ H s->RelV x v->RelV y u->r x y H Q->
  wpAny (model X.prog X.w) X.A (f v u) (EP X Zt σ Q) X.xe s
def UnR(X:Cx)(f:Value->Sem Value)(r:V->Hp->VK->Prop):Prop:=
 ∀(Zt:List (Addr×Obj)) (s:Shared) (σ:St) (H:Hp) (x:V) (v:Value) (Q:VK),Inv X Zt σ H s->RelV x v->r x H Q->
  wpAny (model X.prog X.w) X.A (f v) (EP X Zt σ Q) X.xe s
def dJ(X:Cx)(f:Value)(r:List V->Hp->VK->Prop):Prop:=
 ∀(Zt:List (Addr×Obj)) (s:Shared) (σ:St) (H:Hp) (xs:List V) (us:List Value) (Q:VK),Inv X Zt σ H s->Vals xs us->r xs H Q->
  wpAny (model X.prog X.w) X.A (call f us) (EP X Zt σ Q) X.xe s
def tOp(r:R2)(ta tb:TE):TE:=fun σ H Q=>ta σ H fun x H1=>tb σ H1 fun y H2=>r x y H2 Q
def tUn(r:V->Hp->VK->Prop)(ta:TE):TE:=fun σ H Q=>ta σ H fun x H1=>r x H1 Q
inductive RII(C:Int->Int->Prop)(g:Int->Int->V)(x:V)(y:V)(H:Hp)(Q:VK):Prop
 |mk:∀i j,(x=.int i)->(y=.int j)->(C i j)->(Q (g i j) H)->RII C g x y H Q
def rI(C:Int->Int->Prop)(g:Int->Int->V):R2:=fun x y H Q=>RII C g x y H Q
inductive RI0I(g:Int->Int->V)(x:V)(y:V)(H:Hp)(Q:VK):Prop
 |mk:∀i j,(x=.int i)->(y=.int j)->(Q (g i j) H)->RI0I g x y H Q
def rI0(g:Int->Int->V):R2:=fun x y H Q=>RI0I g x y H Q
inductive RUI(g:Int->V)(x:V)(H:Hp)(Q:VK):Prop
 |mk:∀i,(x=.int i)->(Q (g i) H)->RUI g x H Q
def rU(g:Int->V):V->Hp->VK->Prop:=fun x H Q=>RUI g x H Q
section
variable{X:Cx}{a b c:Expr}{ta tb tc:TE}{pos:Pos}
theorem Gu(ha:PE X a ta)(hb:PE X b tb){Zt:List (Addr×Obj)}{s:Shared}{σ:St}{H:Hp}{R:V->V->Hp->Prop}(I:Inv X Zt σ H s)
  (h:ta σ H fun x H1=>tb σ H1 fun y H2=>R x y H2) {Q:Value->Shared->Prop} {f:Value->Value->Sem Value}
  (hf:∀v u s2 x y H2,Inv X Zt σ H2 s2->RelV x v->RelV y u->R x y H2->wpAny (model X.prog X.w) X.A (f v u) Q X.xe s2):
  wpAny (model X.prog X.w) X.A (eval a X.env) (fun v s₁=>wpAny (model X.prog X.w) X.A (eval b X.env) (fun u s₂=>wpAny (model X.prog X.w) X.A (f v u) Q X.xe s₂) X.xe s₁) X.xe s:=by
 refine thn (ha Zt s σ H _ I h) fun v s1 ⟨x,H1,I1,r1,q1⟩=>?_;refine thn (hb Zt s1 σ H1 _ I1 q1) fun u s2 ⟨y,H2,I2,r2,q2⟩=>?_;exact hf v u s2 x y H2 I2 r1 r2 q2
theorem aV{op:Operator}{r:R2}(ho:OpR X (binaryOp op) r)(ha:PE X a ta)(hb:PE X b tb):PE X (.BinOp a op b pos) (tOp r ta tb):=by
 intro Zt s σ H Q I h;exact wpAny_BinOp (Gu ha hb I h fun v u s2 x y H2 I2 rx ry q=>ho Zt s2 σ H2 x y v u Q I2 rx ry q)
theorem zF{op:UnaryOp}{r:V->Hp->VK->Prop}(ho:UnR X (unaryOp op) r)(ha:PE X a ta):PE X (.UnaryOp op a pos) (tUn r ta):=by
 intro Zt s σ H Q I h;exact UnaryOp_ (thn (ha Zt s σ H _ I h) fun v s1 ⟨x,H1,I1,r1,q1⟩=>ho Zt s1 σ H1 x v Q I1 r1 q1)
theorem opI{f:Value->Value->Sem Value}{C:Int->Int->Prop}{g:Int->Int->Int}
  (rule:∀(i j:Int) (t u:Tok) (s:Shared) (Q:Value->Shared->Prop) (E:Value->Shared->Prop),C i j->Q (.int (g i j) s.toks) {s with toks:=s.toks+1}->wpAny (model X.prog X.w) X.A (f (.int i t) (.int j u)) Q E s):
  OpR X f (rI C fun i j=>.int (g i j)):=by
 intro Zt s σ H x y v u Q I rx ry h;obtain⟨i,j,rfl,rfl,hc,q⟩:=h;obtain⟨t,rfl⟩:=rx;obtain⟨t',rfl⟩:=ry;exact rule i j t t' s _ _ hc ⟨.int (g i j),H,I.tok _,⟨_,rfl⟩,q⟩
theorem Iu{f:Value->Value->Sem Value}{g:Int->Int->Int}
  (rule:∀(i j:Int) (t u:Tok) (s:Shared) (Q:Value->Shared->Prop) (E:Value->Shared->Prop),Q (.int (g i j) s.toks) {s with toks:=s.toks+1}->wpAny (model X.prog X.w) X.A (f (.int i t) (.int j u)) Q E s):
  OpR X f (rI0 fun i j=>.int (g i j)):=by
 intro Zt s σ H x y v u Q I rx ry h;obtain⟨i,j,rfl,rfl,q⟩:=h;obtain⟨t,rfl⟩:=rx;obtain⟨t',rfl⟩:=ry;exact rule i j t t' s _ _ ⟨.int (g i j),H,I.tok _,⟨_,rfl⟩,q⟩
theorem Df{f:Value->Value->Sem Value}{g:Int->Int->Bool}
  (rule:∀(i j:Int) (t u:Tok) (s:Shared) (Q:Value->Shared->Prop) (E:Value->Shared->Prop),Q (.bool (g i j)) s->wpAny (model X.prog X.w) X.A (f (.int i t) (.int j u)) Q E s):
  OpR X f (rI0 fun i j=>.bl (g i j)):=by
 intro Zt s σ H x y v u Q I rx ry h;obtain⟨i,j,rfl,rfl,q⟩:=h;obtain⟨t,rfl⟩:=rx;obtain⟨t',rfl⟩:=ry;exact rule i j t t' s _ _ ⟨.bl (g i j),H,I,rfl,q⟩
def K8(i j:Int):Prop:=0<j/\j<1073741824
def K9(i j:Int):Prop:=0<=j/\j<=1000000/\i.natAbs<2^64
def CMul(i j:Int):Prop:=(-(2^64)<i/\i<2^64)\/(-(2^64)<j/\j<2^64)
theorem CMul.ok{i j:Int}(h:CMul i j):IntMulOk i j:=by
 rcases h with⟨h1,h2⟩|⟨h1,h2⟩
 .exact .of_left (intBits_le_64 h1 h2)
 .exact .of_right (intBits_le_64 h1 h2)
theorem bj:OpR X (binaryOp .Add) (rI0 fun i j=>.int (i+j)):=Iu fun _ _ _ _ _ _ _ q=>add_int q
theorem eF:OpR X (binaryOp .Sub) (rI0 fun i j=>.int (i-j)):=Iu fun _ _ _ _ _ _ _ q=>sub_int q
theorem gQ:OpR X (binaryOp .Mult) (rI CMul fun i j=>.int (i*j)):=opI fun _ _ _ _ _ _ _ hc q=>mul_int q hc.ok
theorem qF:OpR X (binaryOp .FloorDiv) (rI K8 fun i j=>.int (i / j)):=opI fun i j _ _ _ _ _ hc q=>by
 have h1:(0:Int)<j:=hc.1;have h2:j<1073741824:=hc.2;exact floordiv_int Zz (by rw[Int.fdiv_eq_ediv_of_nonneg i Zz];exact q) (.inl (PyProof.noPylong_small Zz))
theorem fV:OpR X (binaryOp .Mod) (rI (fun _ j=>0<j) fun i j=>.int (i % j)):=opI fun i j _ _ _ _ _ hc q=>by
 have h1:(0:Int)<j:=hc;exact mod_int' Zz (by rw[Int.fmod_eq_emod_of_nonneg i Zz];exact q)
theorem uR:OpR X (binaryOp .Pow) (rI K9 fun i j=>.int (i^j.toNat)):=opI fun _ _ _ _ _ _ _ hc q=>pow_int_small hc.1 hc.2.1 hc.2.2 q
theorem unI{f:Value->Sem Value}{g:Int->Int}
  (rule:∀(i:Int) (t:Tok) (s:Shared) (Q:Value->Shared->Prop) (E:Value->Shared->Prop),Q (.int (g i) s.toks) {s with toks:=s.toks+1}->wpAny (model X.prog X.w) X.A (f (.int i t)) Q E s):
  UnR X f (rU fun i=>.int (g i)):=by
 intro Zt s σ H x v Q I rx h;obtain⟨i,rfl,q⟩:=h;obtain⟨t,rfl⟩:=rx;exact rule i t s _ _ ⟨.int (g i),H,I.tok _,⟨_,rfl⟩,q⟩
theorem uT:UnR X (unaryOp .USub) (rU fun i=>.int (-i)):=unI fun _ _ _ _ _ q=>neg_int q
end
def Iv:V->V->Bool
 |.non,.non=>true|.non,.int _=>true|.int _,.non=>true|.non,.bl _=>true|.bl _,.non=>true|.non,.str _=>true|.str _,.non=>true
 |.int _,.int _=>true|.bl _,.bl _=>true|.str _,.str _=>true|.byt _,.byt _=>true
 |.int _,.str _=>true|.str _,.int _=>true|.bl _,.str _=>true|.str _,.bl _=>true
 |_,_=>false
def rEq:R2:=fun x y H Q=>Iv x y=true/\Q (.bl (decide (x=y))) H
def rNe:R2:=fun x y H Q=>Iv x y=true/\Q (.bl (!decide (x=y))) H
theorem lF{i j:Int}:decide (V.int i=V.int j)=(i==j):=by
 rw[Bool.eq_iff_iff];simp
theorem zG{i j:Bool}:decide (V.bl i=V.bl j)=(i==j):=by
 rw[Bool.eq_iff_iff];simp
theorem vY{i j:Str}:decide (V.str i=V.str j)=(i==j):=by
 rw[Bool.eq_iff_iff];simp
theorem vZ{i j:Array UInt8}:decide (V.byt i=V.byt j)=(i.toList==j.toList):=by
 rw[Bool.eq_iff_iff];cases i;cases j;simp
section
variable{X:Cx}{a b c:Expr}{ta tb tc:TE}{pos:Pos}
theorem bD{Zt:List (Addr×Obj)}{σ:St}{H:Hp}{s:Shared}{Q:VK}{k k':Bool}(I:Inv X Zt σ H s)(q:Q (.bl k) H)(e:k=k'):EP X Zt σ Q (.bool k') s:=by
 subst e;exact⟨.bl k,H,I,rfl,q⟩
theorem oX:OpR X (compareOp .Eq) rEq:=by
 intro Zt s σ H x y v u Q I rx ry h;obtain⟨hs,q⟩:=h
 cases x with
 |non=>
  cases rx
  cases y with
  |non=>cases ry;exact PySem.EqNone.eq_none_none (bD I q Zy)
  |bl j=>cases ry;exact PySem.EqNone.eq_none_bool (bD I q Zy)
  |int j=>obtain⟨t',rfl⟩:=ry;exact PySem.EqNone.eq_none_int (bD I q Zy)
  |str j=>obtain⟨t',rfl⟩:=ry;exact PySem.EqNone.eq_none_str (bD I q Zy)
  |_=>exact absurd (show false=true from hs) zAg
 |bl i=>
  cases rx
  cases y with
  |non=>cases ry;exact PySem.EqNone.eq_bool_none (bD I q Zy)
  |bl j=>cases ry;exact eq_bool (bD I q zG)
  |str j=>obtain⟨t',rfl⟩:=ry;exact PySem.EqMixed.eq_bool_str (bD I q Zy)
  |_=>exact absurd (show false=true from hs) zAg
 |int i=>
  obtain⟨t,rfl⟩:=rx
  cases y with
  |non=>cases ry;exact PySem.EqNone.eq_int_none (bD I q Zy)
  |int j=>obtain⟨t',rfl⟩:=ry;exact eq_int (bD I q lF)
  |str j=>obtain⟨t',rfl⟩:=ry;exact PySem.EqMixed.eq_int_str (bD I q Zy)
  |_=>exact absurd (show false=true from hs) zAg
 |str i=>
  obtain⟨t,rfl⟩:=rx
  cases y with
  |non=>cases ry;exact PySem.EqNone.eq_str_none (bD I q Zy)
  |bl j=>cases ry;exact PySem.EqMixed.eq_str_bool (bD I q Zy)
  |int j=>obtain⟨t',rfl⟩:=ry;exact PySem.EqMixed.eq_str_int (bD I q Zy)
  |str j=>obtain⟨t',rfl⟩:=ry;exact eq_str (bD I q vY)
  |_=>exact absurd (show false=true from hs) zAg
 |byt i=>
  obtain⟨t,rfl⟩:=rx
  cases y with
  |byt j=>obtain⟨t',rfl⟩:=ry;exact PySem.W.eq_bytes (bD I q vZ)
  |_=>exact absurd (show false=true from hs) zAg
 |_=>cases y<;>exact absurd (show false=true from hs) zAg
theorem Fp:OpR X (compareOp .NotEq) rNe:=by
 intro Zt s σ H x y v u Q I rx ry h;obtain⟨hs,q⟩:=h
 cases x with
 |non=>
  cases rx
  cases y with
  |non=>cases ry;exact PySem.EqNone.ne_none_none (bD I q Zy)
  |bl j=>cases ry;exact PySem.EqNone.ne_none_bool (bD I q Zy)
  |int j=>obtain⟨t',rfl⟩:=ry;exact PySem.EqNone.ne_none_int (bD I q Zy)
  |str j=>obtain⟨t',rfl⟩:=ry;exact PySem.EqNone.ne_none_str (bD I q Zy)
  |_=>exact absurd (show false=true from hs) zAg
 |bl i=>
  cases rx
  cases y with
  |non=>cases ry;exact PySem.EqNone.ne_bool_none (bD I q Zy)
  |bl j=>cases ry;exact ne_bool (bD I q (congrArg not zG))
  |str j=>obtain⟨t',rfl⟩:=ry;exact PySem.EqMixed.ne_bool_str (bD I q Zy)
  |_=>exact absurd (show false=true from hs) zAg
 |int i=>
  obtain⟨t,rfl⟩:=rx
  cases y with
  |non=>cases ry;exact PySem.EqNone.ne_int_none (bD I q Zy)
  |int j=>obtain⟨t',rfl⟩:=ry;exact ne_int (bD I q (congrArg not lF))
  |str j=>obtain⟨t',rfl⟩:=ry;exact PySem.EqMixed.ne_int_str (bD I q Zy)
  |_=>exact absurd (show false=true from hs) zAg
 |str i=>
  obtain⟨t,rfl⟩:=rx
  cases y with
  |non=>cases ry;exact PySem.EqNone.ne_str_none (bD I q Zy)
  |bl j=>cases ry;exact PySem.EqMixed.ne_str_bool (bD I q Zy)
  |int j=>obtain⟨t',rfl⟩:=ry;exact PySem.EqMixed.ne_str_int (bD I q Zy)
  |str j=>obtain⟨t',rfl⟩:=ry;exact ne_str (bD I q (congrArg not vY))
  |_=>exact absurd (show false=true from hs) zAg
 |byt i=>
  obtain⟨t,rfl⟩:=rx
  cases y with
  |byt j=>obtain⟨t',rfl⟩:=ry;exact PySem.W.ne_bytes (bD I q (congrArg not vZ))
  |_=>exact absurd (show false=true from hs) zAg
 |_=>cases y<;>exact absurd (show false=true from hs) zAg
theorem km:OpR X (compareOp .Lt) (rI0 fun i j=>.bl (decide (i<j))):=Df fun _ _ _ _ _ _ _ q=>lt_int q
theorem bJ:OpR X (compareOp .LtE) (rI0 fun i j=>.bl (decide (i<=j))):=Df fun _ _ _ _ _ _ _ q=>le_int q
theorem mj:OpR X (compareOp .Gt) (rI0 fun i j=>.bl (decide (j<i))):=Df fun _ _ _ _ _ _ _ q=>gt_int q
theorem wg:OpR X (compareOp .GtE) (rI0 fun i j=>.bl (decide (j<=i))):=Df fun _ _ _ _ _ _ _ q=>ge_int q
theorem zH:OpR X (compareOp .Is) (fun x y H Q=>y=.non/\Q (.bl (decide (x=.non))) H):=by
 intro Zt s σ H x y v u Q I rx ry h;obtain⟨rfl,q⟩:=h;cases ry;refine is_none_gen (bD I q ?_)
 cases x<;>first
  | (cases rx;rfl)
  | (obtain⟨t,rfl⟩:=rx;rfl)
theorem bQ(b:Expr){op:CmpOp}(h:op≠.In:=by decide)(h2:op≠.NotIn:=by decide):behindInMarks op b=false:=by
 have e1:(op==CmpOp.In)=false:=by cases op<;>first|rfl|exact absurd rfl h
 have e2:(op==CmpOp.NotIn)=false:=by cases op<;>first|rfl|exact absurd rfl h2
 cases b<;>simp[behindInMarks,e1,e2]
theorem j9{op:CmpOp}{r:R2}(ho:OpR X (compareOp op) r)(ha:PE X a ta)(hb:PE X b tb)(hm:behindInMarks op b=false):PE X (.Compare a [op] [b] pos) (tOp r ta tb):=by
 intro Zt s σ H Q I h;exact wpAny_Compare1 (Gu ha hb I h fun v u s2 x y H2 I2 rx ry q=>ho Zt s2 σ H2 x y v u Q I2 rx ry q) hm
def Fq(t:TE):TT:=fun σ H Q=>t σ H fun x H'=>∃k,x=.bl k/\Q k H'
theorem bN{op:CmpOp}{r:R2}(ho:OpR X (compareOp op) r)(ha:PE X a ta)(hb:PE X b tb)(hm:behindInMarks op b=false):PT X (.Compare a [op] [b] pos) (Fq (tOp r ta tb)):=by
 intro Zt s σ H Q I h
 refine wpAny_isTrue_Compare1 (thn (ha Zt s σ H _ I h) fun v s1 ⟨x,H1,I1,r1,q1⟩=>thn (hb Zt s1 σ H1 _ I1 q1) fun u s2 ⟨y,H2,I2,r2,q2⟩=>
  thn (ho Zt s2 σ H2 x y v u _ I2 r1 r2 q2) fun c s3 ⟨z,H3,I3,r3,k,e,q3⟩=>?_) hm
 subst e;cases r3;exact wpAny_truthy_bool ⟨H3,I3,q3⟩
def uU(r r':R2)(ta tb tc:TE):TE:=fun σ H Q=>ta σ H fun x H1=>tb σ H1 fun y H2=>r x y H2 fun z H3=>∃k,z=.bl k /\
 (if k=true then tc σ H3 fun w' H4=>r' y w' H4 Q else Q (.bl false) H3)
theorem cR{op qq:CmpOp}{r r':R2}(ho:OpR X (compareOp op) r)(kC:OpR X (compareOp qq) r')(ha:PE X a ta)(hb:PE X b tb)(hc:PE X c tc)
  (hm:lastMarks [op,qq] [b,c]=false:=by with_unfolding_all rfl):PE X (.Compare a [op,qq] [b,c] pos) (uU r r' ta tb tc):=by
 intro Zt s σ H Q I h
 refine Compare_chain (thn (ha Zt s σ H _ I h) fun v s1 ⟨x,H1,I1,r1,q1⟩=>chain_link (thn (hb Zt s1 σ H1 _ I1 q1) fun u s2 ⟨y,H2,I2,r2,q2⟩=>
  thn (ho Zt s2 σ H2 x y v u _ I2 r1 r2 q2) fun d s3 ⟨z,H3,I3,r3,k,e,q3⟩=>?_)) hm
 subst e;cases r3;refine wpAny_truthy_bool ?_
 cases k with
 |false=>exact ite_ff ⟨.bl false,H3,I3,rfl,q3⟩
 |true=>exact ite_tt (chain_last (thn (hc Zt s3 σ H3 _ I3 q3) fun w' s4 ⟨z',H4,I4,r4,q4⟩=>kC Zt s4 σ H4 y z' u w' Q I4 r2 r4 q4))
theorem fj{op qq:CmpOp}{r r':R2}(ho:OpR X (compareOp op) r)(kC:OpR X (compareOp qq) r')(ha:PE X a ta)(hb:PE X b tb)(hc:PE X c tc)
  (hm:lastMarks [op,qq] [b,c]=false:=by with_unfolding_all rfl):PT X (.Compare a [op,qq] [b,c] pos) (Fq (uU r r' ta tb tc)):=by
 intro Zt s σ H Q I h
 refine isTrue_chain (thn (ha Zt s σ H _ I h) fun v s1 ⟨x,H1,I1,r1,q1⟩=>test_link (thn (hb Zt s1 σ H1 _ I1 q1) fun u s2 ⟨y,H2,I2,r2,q2⟩=>
  thn (ho Zt s2 σ H2 x y v u _ I2 r1 r2 q2) fun d s3 ⟨z,H3,I3,r3,k,e,q3⟩=>?_)) hm
 subst e;cases r3;refine wpAny_truthy_bool ?_
 cases k with
 |false=>
  obtain⟨k',e',q'⟩:=q3;cases e';exact ite_ff ⟨H3,I3,q'⟩
 |true=>
  refine ite_tt (test_last (thn (hc Zt s3 σ H3 _ I3 q3) fun w' s4 ⟨z',H4,I4,r4,q4⟩=>thn (kC Zt s4 σ H4 y z' u w' _ I4 r2 r4 q4) fun d' s5 ⟨z2,H5,I5,r5,k2,e2,q5⟩=>?_));subst e2;cases r5;exact wpAny_truthy_bool ⟨H5,I5,q5⟩
theorem mq:(sizeLine:Nat)<2^63:=by rw[sizeLine_eq];decide
theorem vals1{x:V}{us:List Value}(r:Vals [x] us):∃u,us=[u]/\RelV x u:=by
 cases r with
 |cons r1 r2=>cases r2;exact⟨_,rfl,r1⟩
theorem vals2{x y:V}{us:List Value}(r:Vals [x,y] us):∃u w',us=[u,w']/\RelV x u/\RelV y w':=by
 cases r with
 |cons r1 r2=>
  cases r2 with
  |cons r3 r4=>cases r4;exact⟨_,_,rfl,r1,r3⟩
theorem oY(hc:X.calm=true):dJ X (.builtin "max") (fun xs H Q=>∃i j,xs=[.int i,.int j]/\Q (.int (if j>i then j else i)) H):=by
 intro Zt s σ H xs us Q I r h;obtain⟨i,j,rfl,q⟩:=h;obtain⟨u,w',rfl,⟨t,rfl⟩,⟨t',rfl⟩⟩:=vals2 r
 refine max_two_ints (I.ok.hd hc) fun h' tk k=>⟨_,H,I.kept k,?_,q⟩
 by_cases hj:j>i
 .rw[zAx hj,zAx hj];exact⟨_,rfl⟩
 .rw[zAw hj,zAw hj];exact⟨_,rfl⟩
theorem fX(hc:X.calm=true):dJ X (.builtin "min") (fun xs H Q=>∃i j,xs=[.int i,.int j]/\Q (.int (if j<i then j else i)) H):=by
 intro Zt s σ H xs us Q I r h;obtain⟨i,j,rfl,q⟩:=h;obtain⟨u,w',rfl,⟨t,rfl⟩,⟨t',rfl⟩⟩:=vals2 r
 refine min_two_ints (I.ok.hd hc) fun h' tk k=>⟨_,H,I.kept k,?_,q⟩
 by_cases hj:j<i
 .rw[zAx hj,zAx hj];exact⟨_,rfl⟩
 .rw[zAw hj,zAw hj];exact⟨_,rfl⟩
theorem ye:dJ X (.type "int") (fun xs H Q=>(∃i,xs=[.int i]/\Q (.int i) H)\/∃k,xs=[.bl k]/\Q (.int (if k then 1 else 0)) H):=by
 intro Zt s σ H xs us Q I r h;rcases h with⟨i,rfl,q⟩|⟨k,rfl,q⟩
 .obtain⟨u,rfl,t,rfl⟩:=vals1 r;exact call_int_int ⟨.int i,H,I,⟨_,rfl⟩,q⟩
 .obtain⟨u,rfl,r1⟩:=vals1 r;cases r1;exact call_int_bool ⟨.int (if k then 1 else 0),H,I.tok _,⟨_,rfl⟩,q⟩
end
structure ObjM(h:Heap)(x dx C:Addr)(mA:Str->Option Value):Prop where
 obj:h.get? x=some (PySem.W.instObj C dx)
 ns:h.Ns1 dx mA
 ne:dx≠x
theorem yf{h:Heap}{dx:Addr}{mA:Str->Option Value}(n:h.Ns1 dx mA):∃od,h.get? dx=some od/\∀name,PySem.W.lookIn name od=some (mA name):=by
 obtain⟨o,es,ep,ho,hd,hk,_,hm⟩:=n;refine⟨o,ho,fun name=>?_⟩;have e:=hm name;unfold nsFind findBy at e;rw[<-Array.find?_toList]at e;unfold PySem.W.lookIn;rw[hd];dsimp only;split
 .rename_i y q
  rw[q]at e;exact congrArg some e
 .rename_i q
  rw[q]at e
  have a:es.toList.any (·.refKey)=false:=by
   rw[List.any_eq_false];intro y hy;obtain⟨z,t,CA⟩:=hk y (Array.mem_toList_iff.mp hy);simp[DictEntry.refKey,CA]
  have a':¬es.toList.any (·.refKey)=true:=by rw[a];exact zAg
  rw[zAw a'];exact congrArg some e
theorem ObjM.look{h:Heap}{x dx C:Addr}{mA:Str->Option Value}(I:ObjM h x dx C mA):∃od,PySem.W.InstAt h x (PySem.W.instObj C dx) C (some od)/\∀name,PySem.W.lookIn name od=some (mA name):=
 let⟨od,ho,hl⟩:=yf I.ns
 ⟨od,⟨I.obj,rfl,rfl,ho⟩,hl⟩
section
variable{prog:Program}{w:World}{A:Around}{E:Value->Shared->Prop}{s:Shared}{K:Frag}{x dx C f:Addr}{mA:Str->Option Value}{name:Str}{v:Value}
end
theorem RelO.some_of{v:V}{o:Option Value}(r:RelO (some v) o):∃u,o=some u/\RelV v u:=by
 cases o with
 |none=>exact(show False from r).elim
 |some u=>exact⟨u,rfl,r⟩
section
variable{P:Program}{w:World}{H H':Hp}{h h':Heap}{a C dx:Addr}{fs MQ:List (Str×V)}
theorem Dg(hok:HOk P w H h)(e:H a=some (.ins C dx fs)):∃mA,ObjM h a dx C mA/\(∀f,RelO (fs.lookup f) (mA f))/\PySem.Within mA (fs.map (·.1))/\fs.length<=1000/\H dx=some (.own a):=by
 obtain⟨d,z,ne,ob,mA,n,r,q⟩:=(show ObjOk P w H h a (.ins C dx fs)from hok a _ e)
 exact⟨mA,⟨ob,n,ne⟩,r,q,z,d⟩
end
structure Cls(K:Frag)(C:Addr):Prop where
 pg:PySem.W.plainGet K C Str.empty=true
 hd:PySem.W.hasDictIn K C=true
 po:PySem.W.plainOver K C=true
 sa:PySem.W.findIn K (.ref C) "__setattr__"=some (some (.builtin "object.__setattr__"))
theorem Cls.get{K:Frag}{C:Addr}(c:Cls K C)(f:Str):PySem.W.plainGet K C f=true:=c.pg
section
variable{X:Cx}{Zt:List (Addr×Obj)}{σ:St}{H:Hp}{s:Shared}{a C dx:Addr}{fs:List (Str×V)}{f:Str}{v:V}{A:Around}{E:Value->Shared->Prop}
end
section
variable{X:Cx}{o e value:Expr}{f:Str}{pos pos' p9:Pos}{ta tv:TE}
end
section
variable{X:Cx}{Zt:List (Addr×Obj)}{σ:St}{H:Hp}{s:Shared}{A:Around}{E:Value->Shared->Prop}{Q:Value->Shared->Prop}{c:Value}{b:Bool}
inductive TyOf(K:Frag)(H:Hp):V->Value->Prop where
 |non:TyOf K H .non (.type "NoneType")
 |bl (x:Bool):TyOf K H (.bl x) (.type "bool")
 |int (i:Int):TyOf K H (.int i) (.type "int")
 |str (x:Str):TyOf K H (.str x) (.type "str")
 |flt (x:UInt64):TyOf K H (.flt x) (.type "float")
 |lst {a:Addr} {xs:List V} (e:H a=some (.lst xs)):TyOf K H (.ref a) (.type "list")
 |frz {a:Addr} {o:Obj} {xs:List V} (e:H a=some (.frz o (.lst xs))):TyOf K H (.ref a) (.type "list")
 |tup {a:Addr} {xs:List V} (e:H a=some (.tup xs)):TyOf K H (.ref a) (.type "tuple")
 |dK {a:Addr} {kvs:List (Key×V)} (e:H a=some (.dK kvs)):TyOf K H (.ref a) (.type "dict")
 |dT {a:Addr} {kvs:List (List Key×V)} (e:H a=some (.dT kvs)):TyOf K H (.ref a) (.type "dict")
 |ins {a C dx:Addr} {fs:List (Str×V)} (e:H a=some (.ins C dx fs)) (cl:Cls K C) (ha:PySem.W.findIn K (.ref C) "__class__"=some (some (.builtin "object.__class__")))
   (hn:PySem.W.specialIn K (.builtin "object.__class__") "__get__"=some (some (.builtin "getset_descriptor.__get__"))) (vS:PySem.W.takesIn K (.builtin "object.__class__")=some true)
   (hm:PySem.W.mroIn K C (.type "object")=some true):TyOf K H (.ref a) (.ref C)
theorem yg{x:V}{u t:Value}(I:Inv X Zt σ H s)(rx:RelV x u)(ty:TyOf X.K H x t)(e:PySem.W.kitOne X.K t c=some b)(h:∀tk,Q (.bool b) {s with toks:=tk}):
  wpAny (model X.prog X.w) A (call (.builtin "isinstance") [u,c]) Q E s:=by
 cases ty with
 |non=>cases(show u=Value.none from rx);exact PySem.W.kia_one PySem.W.kitx_none I.kIn True.intro e (fun z=>nomatch z) h
 |bl y=>cases(show u=Value.bool y from rx);exact PySem.W.kia_one PySem.W.kitx_bool I.kIn True.intro e (fun z=>nomatch z) h
 |int i=>obtain⟨t,q⟩:=(show ∃t,u=Value.int i t from rx);cases q;exact PySem.W.kia_one PySem.W.kitx_int I.kIn True.intro e (fun z=>nomatch z) h
 |str y=>obtain⟨t,q⟩:=(show ∃t,u=Value.str y t from rx);cases q;exact PySem.W.kia_one PySem.W.kitx_str I.kIn True.intro e (fun z=>nomatch z) h
 |flt y=>obtain⟨t,q⟩:=(show ∃t,u=Value.float y t from rx);cases q;exact PySem.W.kia_one PySem.W.kitx_float I.kIn True.intro e (fun z=>nomatch z) h
 |@lst a xs ea=>
  cases(show u=Value.ref a from rx)
  obtain⟨_,_,n,_,h1⟩:=(show ObjOk X.prog X.w H s.heap a (.lst xs)from I.hok a _ ea)
  exact PySem.W.kia_one PySem.W.kitx_list I.kIn ⟨_,h1,rfl⟩ e (fun z=>nomatch z) h
 |@frz a ob xs ea=>
  cases(show u=Value.ref a from rx)
  obtain⟨_,_,_,n,_,h1⟩:=(show ObjOk X.prog X.w H s.heap a (.frz ob (.lst xs))from I.hok a _ ea)
  exact PySem.W.kia_one PySem.W.kitx_list I.kIn ⟨_,h1,rfl⟩ e (fun z=>nomatch z) h
 |@tup a xs ea=>
  cases(show u=Value.ref a from rx)
  obtain⟨_,_,_,p⟩:=(show ObjOk X.prog X.w H s.heap a (.tup xs)from I.hok a _ ea)
  obtain⟨o,h1,h2,_⟩:=p;exact PySem.W.kia_one PySem.W.kitx_tuple I.kIn ⟨o,h1,h2⟩ e (fun z=>nomatch z) h
 |@dK a kvs ea=>
  cases(show u=Value.ref a from rx)
  obtain⟨_,_,vs,_,p⟩:=(show ObjOk X.prog X.w H s.heap a (.dK kvs)from I.hok a _ ea)
  obtain⟨o,es,ep,h1,h2,_⟩:=p;exact PySem.W.kia_one PySem.W.kitx_dict I.kIn ⟨o,h1,h2.1⟩ e (fun z=>nomatch z) h
 |@dT a kvs ea=>
  cases(show u=Value.ref a from rx)
  obtain⟨_,_,xs,_,o,es,ep,h1,h2,_⟩:=(show ObjOk X.prog X.w H s.heap a (.dT kvs)from I.hok a _ ea)
  exact PySem.W.kia_one PySem.W.kitx_dict I.kIn ⟨o,h1,h2.1⟩ e (fun z=>nomatch z) h
 |@ins a C dx fs ea cl ha hn vS hm=>
  cases(show u=Value.ref a from rx);obtain⟨mA,O,_⟩:=Dg I.hok ea;obtain⟨od,J,_⟩:=O.look;exact PySem.W.kia_one (PySem.W.kitx_own (cl.get _) cl.hd ha hn vS hm) I.kIn J e (fun z=>nomatch z) h
end
structure Room(k:Nat)(A:Around):Prop where
 hd:A.handled=none
 dp:A.depth+3*k+5<recursionLimit
 un:A.units+16*k+200<cLine
 gd:A.guards=some []
theorem Room.mono{j k:Nat}{A:Around}(r:Room k A)(h:j<=k):Room j A:=⟨r.hd,by have:=r.dp;lia,by have:=r.un;lia,r.gd⟩
theorem Room.deeper{k:Nat}{A:Around}(r:Room (k+1) A)(env:Env):Room k (A.deeper env):=
 ⟨r.hd,by have:=r.dp;show A.depth+1+3*k+5<_;lia,by have:=r.un;show A.units+3+16*k+200<_;lia,r.gd⟩
theorem Room.depth{k:Nat}{A:Around}(r:Room k A):A.depth<recursionLimit:=by have:=r.dp;lia
theorem Room.units{k:Nat}{A:Around}(r:Room k A):A.units+64<cLine:=by have:=r.un;lia
def Gv:TA:=fun _ H Q=>Q [] H
def sV(ta:TE)(tr:TA):TA:=fun σ H Q=>ta σ H fun x H1=>tr σ H1 fun xs H2=>Q (x::xs) H2
section
variable{X:Cx}{e:Expr}{es:List Expr}{te:TE}{t:TA}{pos:Pos}
theorem ao:PA X [] Gv:=fun _ _ _ _ H Q I h=>Calls.spliced_nil ⟨[],H,I,.nil,h⟩
theorem aR(ha:PE X e te)(hr:PA X es t)(hs:starEach (e::es) X.env=(false,eval e X.env)::starEach es X.env:=by rfl):PA X (e::es) (sV te t):=by
 intro pos Zt s σ H Q I h;rw[hs];show wpAny _ _ (spliced ((false,eval e X.env)::backTo pos (starEach es X.env))) _ _ s;refine Calls.spliced_cons (thn (ha Zt s σ H _ I h) fun u s1 ⟨x,H1,I1,r1,q1⟩=>?_)
 exact thn (hr pos Zt s1 σ H1 _ I1 q1) fun us s2 ⟨xs,H2,I2,r2,q2⟩=>⟨x::xs,H2,I2,.cons r1 r2,q2⟩
def Gw(t:TA):TE:=fun σ H Q=>t σ H fun xs H1=>xs.length<=sizeLine/\∀p,H1 p=none->Q (.ref p) (upd H1 p (.tup xs))
def Gx(t:TA):TE:=fun σ H Q=>t σ H fun xs H1=>xs.length<=sizeLine/\∀p,H1 p=none->Q (.ref p) (upd H1 p (.lst xs))
theorem bW{x1}(h:PA X es t):PE X (.Tuple es x1 pos) (Gw t):=by
 intro Zt s σ H Q I hq;refine wpAny_Tuple_spliced (thn (h pos Zt s σ H _ I hq) fun us s1 ⟨xs,H1,I1,r,z,q⟩=>⟨by rw[<-r.length];exact z,?_⟩);have hf:H1 s1.heap.objs.size=none:=I1.hok.fresh (zA3 _);refine⟨.ref s1.heap.objs.size,upd H1 s1.heap.objs.size (.tup xs),I1.laid (t':=s1.toks) (fun b u e=>zAy _ e) (zA3 _) ?_,rfl,q _ hf⟩;exact⟨z,us,r,⟨_,zB3 _ rfl,rfl,_,rfl⟩⟩
theorem cj(h:PA X es t):PE X (.List es pos) (Gx t):=by
 intro Zt s σ H Q I hq;refine wpAny_List_spliced (thn (h pos Zt s σ H _ I hq) fun us s1 ⟨xs,H1,I1,r,z,q⟩=>⟨by rw[<-r.length];exact z,?_⟩);have hf:H1 s1.heap.objs.size=none:=I1.hok.fresh (zA3 _);refine⟨.ref s1.heap.objs.size,upd H1 s1.heap.objs.size (.lst xs),I1.laid (t':=s1.toks) (fun b u e=>zAy _ e) (zA3 _) ?_,rfl,q _ hf⟩;exact⟨z,us,0,r,zB3 _ rfl⟩
end
abbrev Sp:=List V->Hp->VK->XK->Prop
abbrev CXT:=List Env->Hp->Shared->XK->Value->Shared->Prop
structure Env0(P:Program)(w:World)(K:Frag)(mg:Str->Option Value)(base:Heap)(A:Around)(outer:List Env)(s:Shared)(H:Hp):Prop where
 frames:A.frames=some outer
 mod:Mod K mg base
 bs:∀b o,base.get? b=some o->s.heap.get? b=some o/\H b=none
 bsz:base.objs.size<=s.heap.objs.size
 funs:s.heap.FunFrames base outer
 frf:∀b∈frs outer,H b=none
 hok:HOk P w H s.heap
 bare:AllBare s.gens
def CE(outer:List Env)(P:Program)(w:World)(H:Hp)(s:Shared)(Q:VK)(u:Value)(s':Shared):Prop:=
 ∃v H',s'.os=s.os/\AllBare s'.gens/\Un (frs outer) [] H H' s.heap s'.heap/\HOk P w H' s'.heap/\RelV v u/\Q v H'
def CR(CX:CXT)(outer:List Env)(P:Program)(w:World)(H:Hp)(s:Shared)(Q:VK)(E:XK)(r:Result)(s':Shared):Prop:=
 match r with
 |.ok (.ret u)=>CE outer P w H s Q u s'
 |.ok _=>False
 |.error e=>CX outer H s E e s'
structure FnOk(P:Program)(w:World)(K:Frag)(mg:Str->Option Value)(base:Heap)(CX:CXT)(k:Nat)(f:Addr)(fd:FuncData)(ps:List Str)(sp:Sp):Prop where
 len:∀vs H Q E,sp vs H Q E->vs.length=ps.length
 run:∀(A:Around) (outer:List Env) (s:Shared) (H:Hp) (args:Args) (us:List Value) (vs:List V) (Q:VK) (E:XK),Room k A->Env0 P w K mg base A outer s H->BindsTo s fd args (ps.zip us)->Vals vs us->sp vs H Q E->
  codeAny (model P w) A (.call (.ref f) args) (CR CX outer P w H s Q E) s
theorem FnOk.imp{P:Program}{w:World}{K:Frag}{mg:Str->Option Value}{base:Heap}{CX:CXT}{k:Nat}{f:Addr}{fd:FuncData}{ps:List Str}{sp sp':Sp}(F:FnOk P w K mg base CX k f fd ps sp)
  (h:∀vs H Q E,sp' vs H Q E->sp vs H Q E):FnOk P w K mg base CX k f fd ps sp':=
 ⟨fun vs H Q E q=>F.len vs H Q E (h _ _ _ _ q),fun A outer s H args us vs Q E hr he hb hv hs=>F.run A outer s H args us vs Q E hr he hb hv (h _ _ _ _ hs)⟩
section
variable{X:Cx}{Zt:List (Addr×Obj)}{σ:St}{H:Hp}{s s':Shared}
theorem Inv.env0(I:Inv X Zt σ H s):Env0 X.prog X.w X.K X.mg X.base X.A X.stack s H:=
 ⟨I.ok.frames,I.ok.mod,I.bs,Nat.le_trans I.ok.bsz I.sz,I.stack,I.stkFree,I.hok,I.bare⟩
theorem Inv.after{Q:VK}{u:Value}(I:Inv X Zt σ H s)(h:CE X.stack X.prog X.w H s Q u s'):EP X Zt σ Q u s':=by
 obtain⟨v,H',os,bare,un,hok,r,q⟩:=h;obtain⟨hh,g,d,t,MX⟩:=s';obtain rfl:MX=s.os:=os;exact⟨v,H',I.call (h':=hh) (g':=g) (d':=d) (t':=t) (ch:=[]) un hok bare (fun b z=>absurd z Zy),r,q⟩
end
def Ft(sp:Sp)(nN:List V)(E:XK)(t:TA):TE:=fun σ H Q=>t σ H fun vs H1=>sp (vs++nN) H1 Q E
def Binds(K:Frag)(fd:FuncData)(ps:List Str)(ds:List Value):Prop:=
 ∀(s:Shared) (us:List Value),K.In s.heap->(us++ds).length=ps.length->BindsTo s fd ⟨us,[]⟩ (ps.zip (us++ds))
theorem Binds.all{K:Frag}{fd:FuncData}{ps:List Str}(h:∀us:List Value,us.length=ps.length->bindArgs fd ⟨us,[]⟩=pure (ps.zip us)):Binds K fd ps []:=fun s us _ hl=>by
 rw[zAn]at hl⊢;exact .of_eq (h us hl)
def uV(CX:CXT)(X:Cx)(E:XK):Prop:=∀(Zt:List (Addr×Obj)) (σ:St) (H:Hp) (s:Shared) (e:Value) (s':Shared),Inv X Zt σ H s->CX X.stack H s E e s'->X.xe e s'
section
variable{X:Cx}{CX:CXT}{k:Nat}{f C:Addr}{fd:FuncData}{ps:List Str}{sp:Sp}{nN:List V}{ds:List Value}{E:XK}{x m:Str}{p pos apos:Pos}{e o:Expr}{es:List Expr}{ta:TE}{t:TA}
theorem Gy{Zt:List (Addr×Obj)}{σ:St}{H:Hp}{s:Shared}{Q:VK}{us:List Value}{vs:List V}(F:FnOk X.prog X.w X.K X.mg X.base CX k f fd ps sp)(hr:Room k X.A)(hb:Binds X.K fd ps ds)(hd:Vals nN ds)(hx:uV CX X E)
  (I:Inv X Zt σ H s) (r:Vals vs us) (h:sp (vs++nN) H Q E):wpAny (model X.prog X.w) X.A (call (.ref f) us) (EP X Zt σ Q) X.xe s:=by
 have r2:Vals (vs++nN) (us++ds):=r.append hd;have hl:(us++ds).length=ps.length:=by rw[<-r2.length];exact F.len _ _ _ _ h
 refine wpAny_call (codeAny_mono (F.run X.A X.stack s H ⟨us,[]⟩ (us++ds) (vs++nN) Q E hr I.env0 (hb s us I.kIn hl) r2 h) fun r s' hq=>?_)
 cases r with
 |error e=>exact hx Zt σ H s e s' I hq
 |ok fl=>
  cases fl with
  |ret u=>exact I.after hq
  |next=>exact False.elim hq
  |brk=>exact False.elim hq
  |cont=>exact False.elim hq
theorem Dh(F:FnOk X.prog X.w X.K X.mg X.base CX k f fd ps sp)(hr:Room k X.A)(hg:Gl X x)(hm:X.mg x=some (.ref f))(hk:PySem.W.keepIn X.K (.ref f)=true)(hb:Binds X.K fd ps ds)(hd:Vals nN ds)(hx:uV CX X E)
  (ha:PA X (e::es) t) (qr:(x==("__debug__":Str))=false:=by decide) (he:starEach (e::es) X.env=(false,eval e X.env)::starEach es X.env:=by rfl) (nS:(backTo pos (starEach es X.env)).any (·.1)=false:=by rfl):
  PE X (.Call (.Name x p) (e::es) [] pos) (Ft sp nN E t):=by
 intro Zt s σ H Q I h;refine wpAny_Call_Name_kw (vX I hg hm ?_ qr);refine PySem.W.callWith_K (h₀:=X.base) I.ok.mod.kin hk (thn (ha pos Zt s σ H _ I h) fun us s1 ⟨vs,H1,I1,r,q⟩=>⟨I1.kIn,?_⟩) he nS;exact Gy F hr hb hd hx I1 r q
end
section
variable{X:Cx}{CX:CXT}{k:Nat}{f C:Addr}{fd:FuncData}{ps ks:List Str}{sp:Sp}{E:XK}{x m:Str}{p pos apos MY:Pos}{e o:Expr}{es:List Expr}{Ti:List Keyword}{te ta:TE}{t tk:TA}{nm:Option Str}
variable{g:List Value->List Value->List Value}{gV:List V->List V->List V}
end
structure FnScope(N P:List Str)(sc:Scope):Prop where
 kind:sc.kind=.function
 co:sc.isCoroutine=false
 gen:sc.isGenerator=false
 nd:N.Nodup
 pre:N.take P.length=P
 par:∀x∈P,sc.names.lookup x=some .local\/sc.names.lookup x=some .cell
 nofree:∀y∈sc.names,y.2≠.free
theorem oZ{kindOf:Str->Option NameKind}{x:Str}:∀{binds:List (Str×Value)} {m:Str->Option Value},(∀v,(x,v)∉binds)->bindL kindOf binds m x=m x
 |[],_,_=>rfl
 | (n,v)::r,m,h=>by
  unfold bindL;rw[oZ fun w hw=>h w (List.mem_cons_of_mem _ hw)];split
  .have:x≠n:=by rintro rfl;exact h v List.mem_cons_self
   simp[this]
  .rfl
theorem p8{kindOf:Str->Option NameKind}{x:Str}:∀{binds:List (Str×Value)} {m:Str->Option Value},(∀v,(x,v)∉binds)->bindC kindOf binds m x=m x
 |[],_,_=>rfl
 | (n,v)::r,m,h=>by
  unfold bindC;rw[p8 fun w hw=>h w (List.mem_cons_of_mem _ hw)];split
  .rfl
  .have:x≠n:=by rintro rfl;exact h v List.mem_cons_self
   simp[this]
theorem ph{kindOf:Str->Option NameKind}{x:Str}{v:Value}:∀{P:List Str} {vs:List Value} {i:Nat} {m:Str->Option Value},P.Nodup->P[i]?=some x->vs[i]?=some v->kindOf x=some .local->
  bindL kindOf (P.zip vs) m x=some v
 |[],_,_,_,_,h,_,_=>by simp at h
 |_::_,[],_,_,_,_,h,_=>by simp at h
 |p::P,w::vs,0,m,nd,h1,h2,hk=>by
  simp at h1 h2;subst h1;subst h2;show bindL kindOf ((p,w)::P.zip vs) m p=_;unfold bindL;rw[oZ fun v hv=>(List.nodup_cons.mp nd).1 (List.of_mem_zip hv).1,if_pos hk];simp
 |p::P,w::vs,i+1,m,nd,h1,h2,hk=>by
  show bindL kindOf ((p,w)::P.zip vs) m x=_;unfold bindL;exact ph (i:=i) (List.nodup_cons.mp nd).2 (by simpa using h1) (by simpa using h2) hk
theorem pq{kindOf:Str->Option NameKind}{x:Str}{v:Value}:∀{P:List Str} {vs:List Value} {i:Nat} {m:Str->Option Value},P.Nodup->P[i]?=some x->vs[i]?=some v->kindOf x≠some .local->
  bindC kindOf (P.zip vs) m x=some v
 |[],_,_,_,_,h,_,_=>by simp at h
 |_::_,[],_,_,_,_,h,_=>by simp at h
 |p::P,w::vs,0,m,nd,h1,h2,hk=>by
  simp at h1 h2;subst h1;subst h2;show bindC kindOf ((p,w)::P.zip vs) m p=_;unfold bindC;rw[p8 fun v hv=>(List.nodup_cons.mp nd).1 (List.of_mem_zip hv).1,if_neg hk];simp
 |p::P,w::vs,i+1,m,nd,h1,h2,hk=>by
  show bindC kindOf ((p,w)::P.zip vs) m x=_;unfold bindC;exact pq (i:=i) (List.nodup_cons.mp nd).2 (by simpa using h1) (by simpa using h2) hk
def start(N:List Str)(vs:List V):St:=vs.map some++List.replicate (N.length-vs.length) none
def yh(CX:CXT)(P:Program)(w:World)(K:Frag)(mg:Str->Option Value)(base:Heap)(N:List Str)(qual:Str)(scope:Scope)(f:Addr)(cd:Value)(A:Around)(outer:List Env)(s:Shared)(H:Hp)(E:XK):Cx where
 prog:=P
 w:=w
 K:=K
 mg:=mg
 base:=base
 A:=A.deeper (envOfC qual scope s.heap.objs.size f cd)
 N:=N
 s₀:=s
 H₀:=H
 env:=envOfC qual scope s.heap.objs.size f cd
 outer:=outer
 stack:=envOfC qual scope s.heap.objs.size f cd::outer
 ex:=[]
 calm:=true
 fn:=fun _=>true
 pn:=[]
 xe:=fun e s'=>wpAny (model P w) (A.deeper (envOfC qual scope s.heap.objs.size f cd)) (leaving (envOfC qual scope s.heap.objs.size f cd) e) (fun _ sM=>CX outer H s E e sM) (fun e' sM=>CX outer H s E e' sM) s'
theorem sW{sc:Scope}{n:Nat}{x:Str}(h:sc.names.lookup x=some .cell):∃c,(cellsFrom n sc.names []).lookup x=some c:=by
 have q:=PySem.W.cellsFrom_some sc.names n [] (.inl h);exact Option.isSome_iff_exists.mp q
theorem yj{CX:CXT}{P:Program}{w:World}{K:Frag}{mg:Str->Option Value}{base:Heap}{N ps:List Str}{qual:Str}{scope:Scope}{f:Addr}{cd:Value}{A:Around}{outer:List Env}{s s1:Shared}{H:Hp}{E:XK}{us:List Value}{vs:List V}
  (S:FnScope N ps scope) (hd:A.handled=none) (e0:Env0 P w K mg base A outer s H) (hl:vs.length=ps.length) (r:Vals vs us)
  (x:InCallC s s.heap.objs.size (bindL (envOfC qual scope s.heap.objs.size f cd).kindOf (ps.zip us) fun _=>none) (cellsFrom (s.heap.objs.size+1) scope.names []) (bindC (envOfC qual scope s.heap.objs.size f cd).kindOf (ps.zip us) fun _=>none) s1):
  Inv (yh CX P w K mg base N qual scope f cd A outer s H E) [] (start N vs) H s1:=by
 have nS:ps.length<=N.length:=by have:=congrArg List.length S.pre;rw[zAd]at this;lia
 obtain⟨h1,tk,rfl,hk⟩:=x.done;have vT:∀b:Addr,b∉(yh CX P w K mg base N qual scope f cd A outer s H E).ex:=fun b z=>absurd (show b∈([]:List Addr)from z) Zy
 refine⟨⟨e0.mod,S.kind,rfl,rfl,zA3 _,fun y z c h1 h2=>?_,fun y hy=>?_,fun y c _ h=>?_,fun _=>hd,Around.frames_deeper e0.frames,.inr ⟨rfl,rfl⟩,fun b z=>absurd z (vT b),e0.bs,e0.bsz,fun b _ _=>vT b,fun b z=>absurd z (vT b),e0.funs,e0.frf⟩,
  rfl,e0.bare,Un.kept hk,⟨_,x.toInCall.ns,fun i y v h1 h2 h3=>?_⟩,fun y c h=>⟨_,x.cell y c h⟩,e0.hok.fresh (Nat.le_refl _),fun y c h=>?_,fun p hp=>absurd (show p∈([]:List (Addr×Obj))from hp) Zy,e0.hok.kept hk,?_⟩
 .exact name_of_addr x.apart (PySem.mem_of_lookup h1) (PySem.mem_of_lookup h2)
 .have hy:scope.names.lookup y=some .cell\/scope.names.lookup y=some .free:=hy;rcases hy with hy|hy
  .exact sW hy
  .exact absurd rfl (S.nofree _ (PySem.mem_of_lookup hy))
 .exact Nat.le_of_lt (x.above y c (PySem.mem_of_lookup h))
 .have hi:i<vs.length:=by
   unfold start at h2;by_cases hi:i<vs.length
   .exact hi
   .rw[List.getElem?_append_right (by simpa using hi)]at h2;rw[List.getElem?_replicate]at h2;split at h2<;>cases h2
  have ha:vs[i]?=some v:=by
   unfold start at h2;rw[List.getElem?_append_left (by simpa using hi),List.getElem?_map]at h2
   cases e:vs[i]? with
   |none=>rw[e]at h2;cases h2
   |some a=>rw[e]at h2;cases h2;rfl
  obtain⟨u,hu,rv⟩:=r.get ha
  have hp:ps[i]?=some y:=by
   rw[<-S.pre,List.getElem?_take_of_lt Zz];exact h1
  have IQ:ps.Nodup:=by rw[<-S.pre];exact S.nd.sublist (List.take_sublist _ _)
  refine⟨u,rv,?_⟩;rcases S.par y (zB8 hp)with k|k
  .exact .inl ⟨k,ph IQ hp hu k⟩
  .obtain⟨c,e⟩:=sW (n:=s.heap.objs.size+1) k;refine .inr ⟨.inl k,c,e,?_⟩;have q:=x.cell y c e;rw[pq IQ hp hu (by show scope.names.lookup y≠_;rw[k];decide)]at q;exact q
 .exact e0.hok.fresh (Nat.le_of_lt (x.above y c (PySem.mem_of_lookup h)))
 .unfold start;show _=N.length;rw[zA2,zA1,List.length_replicate];lia
theorem Iw{CX:CXT}{P:Program}{w:World}{K:Frag}{mg:Str->Option Value}{base:Heap}{k:Nat}{f:Addr}{name qual:Str}{params:Arguments}{body:List Stmt}{scope:Scope}{dV kV doc pm ax ct oc:Value}{an od:Option Addr}
  {nV:Array (Option Value)} {N ps:List Str} {sp:Sp} (lk:K.lookup f=some ⟨oc,od,.func (PySem.W.fnOf name qual params body scope dV kV doc pm an ax ct),nV⟩) (kD:PySem.W.codeIn K ax qual=true) (S:FnScope N ps scope)
  (len:∀vs H Q E,sp vs H Q E->vs.length=ps.length)
  (kH:∀(A:Around) (outer:List Env) (s:Shared) (H:Hp) (vs:List V) (Q:VK) (E:XK),Room k (A.deeper (envOfC qual scope s.heap.objs.size f ax))->sp vs H Q E->
   ∃t,PSs (yh CX P w K mg base N qual scope f ax A outer s H E) body t/\t {nx:=fun _ H'=>Q .non H',rt:=Q} (start N vs) H):
  FnOk P w K mg base CX (k+1) f (PySem.W.fnOf name qual params body scope dV kV doc pm an ax ct) ps sp:=by
 refine⟨len,fun A outer s H args us vs Q E hr e0 hb r nX=>?_⟩;have hl:=len _ _ _ _ nX;have KX:K.In s.heap:=e0.mod.kin.keeps fun b o e=>(e0.bs b o e).1;have lim:s.heap.NoLimit:=e0.mod.nolimit.keeps fun b o e=>(e0.bs b o e).1
 have wa:∀y∈ps.zip us,scope.names.lookup y.1=some .local\/(scope.names.lookup y.1=some .cell/\((cellsFrom (s.heap.objs.size+1) scope.names []).lookup y.1).isSome=true):=fun⟨n,v⟩ hy=>by
  rcases S.par n (List.of_mem_zip hy).1 with q|q
  .exact .inl q
  .exact .inr ⟨q,PySem.W.cellsFrom_some _ _ _ (.inl q)⟩
 refine codeAny_call_function hr.depth (KX _ _ lk) rfl S.co S.gen rfl (PySem.W.codeRec_of KX kD) (hb _ _ _ _ ?_);refine wpAny_newFunctionEnv_cells S.kind wa fun env he s1 x=>?_;subst he;refine⟨lim.keeps x.toInCall.keep,codeAny_func ?_⟩;obtain⟨t,ht,hq⟩:=kH A outer s H vs Q E (hr.deeper _) nX;have I:Inv (yh CX P w K mg base N qual scope f ax A outer s H E) [] (start N vs) H s1:=yj S hr.hd e0 hl r x;refine wpAny_mono (ht [] s1 (start N vs) H _ I hq) (fun fl s' hs=>?_) fun e s' hs=>hs
 have fin:∀{ar:St} {H':Hp} {v:V} {u:Value},Inv (yh CX P w K mg base N qual scope f ax A outer s H E) [] ar H' s'->RelV v u->Q v H'->CE outer P w H s Q u s':=
  fun{ar H' v u} J rv q=>⟨v,H',J.os,J.bare,J.base,J.hok,rv,q⟩
 cases fl with
 |ret u=>
  obtain⟨v,ar,H',J,rv,q⟩:=hs;exact fin J rv q
 |next=>
  obtain⟨ar,H',J,q⟩:=hs;exact fin (v:=V.non) (u:=Value.none) J rfl q
 |brk=>
  obtain⟨_,_,_,q⟩:=hs;exact False.elim q
 |cont=>
  obtain⟨_,_,_,q⟩:=hs;exact False.elim q
section
variable{X:Cx}{x:Str}{p pos:Pos}{e:Expr}{es:List Expr}{t:TA}{id T:String}{r:List V->Hp->VK->Prop}
def tCB(r:List V->Hp->VK->Prop)(t:TA):TE:=fun σ H Q=>t σ H fun vs H1=>r vs H1 Q
theorem aP(hc:dJ X (.builtin id) r)(hg:Gl X x)(hm:X.mg x=none)(hv:bootBuiltins x=some (.builtin id))(ha:PA X (e::es) t)(hn:x≠"__name__":=by decide)(qr:(x==("__debug__":Str))=false:=by decide)
  (he:starEach (e::es) X.env=(false,eval e X.env)::starEach es X.env:=by rfl) (nS:(backTo pos (starEach es X.env)).any (·.1)=false:=by rfl):PE X (.Call (.Name x p) (e::es) [] pos) (tCB r t):=by
 intro Zt s σ H Q I h;refine wpAny_Call_Name_kw (gK I hg hm hv ?_ hn qr);exact PyProof.Rows.callWith_builtin1 (thn (ha pos Zt s σ H _ I h) fun us s1 ⟨vs,H1,I1,r1,q1⟩=>hc Zt s1 σ H1 vs us Q I1 r1 q1) he nS
theorem cH(hc:dJ X (.type T) r)(hg:Gl X x)(hm:X.mg x=none)(hv:bootBuiltins x=some (.type T))(ha:PA X (e::es) t)(hn:x≠"__name__":=by decide)(qr:(x==("__debug__":Str))=false:=by decide)
  (he:starEach (e::es) X.env=(false,eval e X.env)::starEach es X.env:=by rfl) (nS:(backTo pos (starEach es X.env)).any (·.1)=false:=by rfl):PE X (.Call (.Name x p) (e::es) [] pos) (tCB r t):=by
 intro Zt s σ H Q I h;refine wpAny_Call_Name_kw (gK I hg hm hv ?_ hn qr);exact PyProof.Rows.callWith_type1 (thn (ha pos Zt s σ H _ I h) fun us s1 ⟨vs,H1,I1,r1,q1⟩=>hc Zt s1 σ H1 vs us Q I1 r1 q1) he nS
end
end L2
namespace HT
open PySem PyProof.Rows
def lexLt:List Int->List Int->Bool
 |[],[]=>false
 |[],_::_=>true
 |_::_,[]=>false
 |x::xs,y::ys=>if x=y then lexLt xs ys else decide (x<y)
theorem lexLt_cons(x y:Int)(xs ys:List Int):lexLt (x::xs) (y::ys)=if x=y then lexLt xs ys else decide (x<y):=rfl
section
open PySem.SeqAt
open PySem.AutoSeq1 (wpAny_loadPart')
open PySem.MeetsSeq PySem.MeetsSeq2 PySem.MeetsSeq3
end
section
variable{prog:Program}{w:World}{A:Around}{E:Value->Shared->Prop}{s:Shared}
theorem cat_tup{t b:Addr}{vs ws:List Value}{Q:Value->Shared->Prop}(ht:IsTup s.heap t vs.toArray)(hb:IsTup s.heap b ws.toArray)(hv:vs≠[])
  (h1:ws=[]->Q (.ref t) s) (h2:ws≠[]->Q (.ref s.heap.objs.size) {s with heap:=s.heap.push {cls:=.type "tuple",data:=.seq (vs++ws).toArray}})
  (hsz:vs.length+ws.length<=sizeLine):wpAny (model prog w) A (binaryOp .Add (.ref t) (.ref b)) Q E s:=by
 obtain⟨⟨cls,dd,data,sl⟩,ho,hc,n,hd⟩:=id ht;obtain⟨⟨CB,sQ,data2,qv⟩,mv,wb,n2,hd2⟩:=id hb;simp only at hc hd wb hd2;subst hc hd wb hd2;have e:vs.toArray++ws.toArray=(vs++ws).toArray:=by simp
 by_cases hw:ws=[]
 .exact concat_meets ⟨_,ho,rfl⟩ ⟨_,mv,rfl⟩ noFill_tuple_add seq_tuple_add PySem.F.slot_tuple_add PySem.F.entry_tuple_add (PySem.F.args_tuple_add_2 _ _)
   (tuple_addW1 t b vs.toArray ws.toArray n n2 dd sQ sl qv (by simpa using hv) (by simp[hw])) ⟨ho,mv,h1 hw⟩
 .refine concat_meets ⟨_,ho,rfl⟩ ⟨_,mv,rfl⟩ noFill_tuple_add seq_tuple_add PySem.F.slot_tuple_add PySem.F.entry_tuple_add (PySem.F.args_tuple_add_2 _ _)
   (tuple_addW2 t b vs.toArray ws.toArray n n2 dd sQ sl qv (by simpa using hv) (by simpa using hw) (by rw[List.size_toArray,List.size_toArray];exact hsz)) ⟨ho,mv,?_⟩
  rw[e];exact h2 hw
def sIx(n d:Nat):Option Int->Nat
 |none=>d
 |some v=>if v<0 then(v+(n:Int)).toNat else min v.toNat n
theorem sIx_none(n d:Nat):sIx n d none=d:=rfl
theorem sIx_nat(n d k:Nat):sIx n d (some (k:Int))=min k n:=by
 show(if(k:Int)<0 then((k:Int)+(n:Int)).toNat else min (k:Int).toNat n)=min k n;rw[zAw Zz,zAi]
theorem Gz(n d:Nat)(hd:d<=n)(o:Option Int):sIx n d o<=n:=by
 cases o with
 |none=>exact hd
 |some v=>
  show(if v<0 then(v+(n:Int)).toNat else min v.toNat n)<=n;by_cases hv:v<0
  .rw[zAx hv];lia
  .rw[zAw hv];exact Nat.min_le_right _ _
theorem wj(v:Int)(n d:Nat):(if v<0 then max (v+(n:Int)) 0 else min v (n:Int))=((sIx n d (some v):Nat):Int):=by
 show(if v<0 then max (v+(n:Int)) 0 else min v (n:Int))=(((if v<0 then(v+(n:Int)).toNat else min v.toNat n):Nat):Int);by_cases hv:v<0
 .simp only[if_pos hv];lia
 .simp only[if_neg hv];lia
theorem uW(lo hi:Option Int)(n:Nat):Builtin.Slice.sliceAdjust lo hi 1 (n:Int)=(((sIx n 0 lo:Nat):Int),((sIx n n hi:Nat):Int)):=by
 have h1:¬((1:Int)<0):=Zz
 unfold Builtin.Slice.sliceAdjust;simp only[h1,if_false];refine Prod.ext ?_ ?_
 .cases lo with
  |none=>rfl
  |some v=>exact wj v n 0
 .cases hi with
  |none=>rfl
  |some v=>exact wj v n n
theorem uX(i j:Nat):Builtin.Slice.slicePlaces (i:Int) (j:Int) 1=j-i:=by
 unfold Builtin.Slice.slicePlaces;have h1:(1:Int)>0:=Zz
 simp only[h1,if_true,Int.ediv_one];split<;>lia
theorem my{v:Value}{o:Option Int}{Q:Option Int->Shared->Prop}(p:IsPart v o)(h:Q o s):wpAny (model prog w) A (Builtin.Slice.slicePartIndex v) Q E s:=by
 cases p with
 |none=>exact slicePart_none h
 |int i t=>exact slicePart_int h
theorem fY{sl:Addr}{vl vu:Value}{lo hi:Option Int}{n:Nat}{Q:Int×Int×Nat->Shared->Prop}(hs:s.heap.IsSliceOf sl vl vu .none)(pl:IsPart vl lo)(pu:IsPart vu hi)
  (h:Q (((sIx n 0 lo:Nat):Int),1,sIx n n hi-sIx n 0 lo) s):wpAny (model prog w) A (Builtin.Slice.sliceApplied (.ref sl) (pure (n:Int))) Q E s:=by
 obtain⟨os,qA,AZ,wc⟩:=id hs;unfold Builtin.Slice.sliceApplied Builtin.Slice.sliceFields;refine zAt (zAt (wpAny_field qA wc (x:=vl) rfl (zAt (wpAny_field qA wc (x:=vu) rfl (zAt (wpAny_field qA wc (x:=.none) rfl (zAz ?_)))))));refine zAt (slicePart_none ?_);show wpAny _ _ (if((1:Int)==0)=true then _ else _) _ _ s;rw[zAw Zx];refine zAt (my pl (zAt (my pu (zAt (zAz ?_)))));show wpAny _ _ (match Builtin.Slice.sliceAdjust lo hi 1 (n:Int)with | (lo,hi)=>pure (lo,(1:Int),Builtin.Slice.slicePlaces lo hi 1)) _ _ s;rw[uW lo hi n];show wpAny _ _ (pure (((sIx n 0 lo:Nat):Int),(1:Int),Builtin.Slice.slicePlaces ((sIx n 0 lo:Nat):Int) ((sIx n n hi:Nat):Int) 1)) _ _ s;rw[uX];exact zAz h
theorem zJ(xs:Array Value)(i k:Nat):((List.range k).filterMap fun(m:Nat)=>xs[((i:Int)+(m:Int)*1).toNat]?).toArray=((xs.toList.drop i).take k).toArray:=by
 have e:(fun(m:Nat)=>xs[((i:Int)+(m:Int)*1).toNat]?)=fun m=>xs[i+m]?:=by
  funext m;have:((i:Int)+(m:Int)*1).toNat=i+m:=Zz
  rw[this]
 rw[e];have:=pick_run xs i k;rw[List.filterMap_map]at this;have e2:((fun x=>xs[x]?)∘fun x=>i+x)=fun m=>xs[i+m]?:=rfl;rw[e2]at this;rw[this]
theorem getItem_tuple_cut{t sl:Addr}{items:Array Value}{vl vu:Value}{lo hi:Option Int}{Q:Value->Shared->Prop}(ht:IsTup s.heap t items)(hs:s.heap.IsSliceOf sl vl vu .none)(pl:IsPart vl lo)(pu:IsPart vu hi)
  (hw:¬(sIx items.size 0 lo=0/\sIx items.size items.size hi=items.size))
  (h:Q (.ref s.heap.objs.size) {s with heap:=s.heap.push {cls:=.type "tuple",data:=.seq ((items.toList.drop (sIx items.size 0 lo)).take (sIx items.size items.size hi-sIx items.size 0 lo)).toArray}})
  (hsz:items.size<=sizeLine):wpAny (model prog w) A (getItem (.ref t) (.ref sl)) Q E s:=by
 have iF:sizeOk (.seq ((items.toList.drop (sIx items.size 0 lo)).take (sIx items.size items.size hi-sIx items.size 0 lo)).toArray):=by
  show((items.toList.drop (sIx items.size 0 lo)).take (sIx items.size items.size hi-sIx items.size 0 lo)).toArray.size<=sizeLine;rw[zA8,zAd,List.length_drop,zA9];lia
 have hj:sIx items.size items.size hi<=items.size:=Gz _ _ (zA3 _) hi;obtain⟨os,qA,AZ,wc⟩:=id hs
 have CC:s.TypeIs (.ref sl) "slice":=⟨os,qA,AZ⟩
 unfold getItem
 try with_reducible refine wpAny_holding ?_
 first|refine zAt (zAz ?_)|skip
 refine zAt (wpAny_sequenceKey ht.typeIs Zx ?_)
 refine zAt (wpAny_callSpecial?_slot (name:=Str.ofString "__getitem__") ht.typeIs PyProof.Rows.slot_tuple_getitem
  (wpAny_call_entry PyProof.Rows.slot_tuple_getitem ht.typeIs entry_tuple_getitem ?_ (args_tuple_getitem _ _)))
 show wpAny _ _ (Builtin.Tuple.tupleItemsOf (.ref t)>>=_) _ _ s;refine zAt (tupleItemsOf_ ht ?_);refine zAt (wpAny_typeOf CC ?_);rw[zAx Zx];refine zAt (fY hs pl pu ?_)
 have MZ:¬((((sIx items.size 0 lo:Nat):Int)==0&&(1:Int)==1&&(sIx items.size items.size hi-sIx items.size 0 lo)==items.size)=true):=by
  intro q;rw[zAc,zAc]at q;have q1:((sIx items.size 0 lo:Nat):Int)=0:=eq_of_beq q.1.1;have q2:sIx items.size items.size hi-sIx items.size 0 lo=items.size:=eq_of_beq q.2;exact hw ⟨Zz,Zz⟩
 show wpAny _ _ (if(((sIx items.size 0 lo:Nat):Int)==0&&(1:Int)==1&&(sIx items.size items.size hi-sIx items.size 0 lo)==items.size)=true then _ else _) _ _ s;rw[zAw MZ,zJ]
 first
  |exact zAt (m:=Builtin.Tuple.tupleExact _) (wpAny_newObj_type (zAz ⟨_,rfl,zAz h⟩) iF)
  |exact zAt (m:=Builtin.Tuple.tupleExact _) (wpAny_newObj_type (zAt (zAz (zAz ⟨_,rfl,zAz h⟩))) iF)
  |exact zAt (zAt (m:=Builtin.Tuple.tupleExact _) (wpAny_newObj_type (zAz (zAz ⟨_,rfl,zAz h⟩)) iF))
  |exact zAt (zAt (m:=Builtin.Tuple.tupleExact _) (wpAny_newObj_type (zAz ⟨_,rfl,zAz h⟩) iF))
end
end HT
namespace L2
open PySem PySem.Spec PyProof.Rows
abbrev TO:=St->Hp->(Option Int->Hp->Prop)->Prop
def PO(X:Cx)(e:Option Expr)(t:TO):Prop:=
 ∀(Zt:List (Addr×Obj)) (s:Shared) (σ:St) (H:Hp) (Q:Option Int->Hp->Prop),Inv X Zt σ H s->t σ H Q->
  wpAny (model X.prog X.w) X.A (evalPart e X.env) (fun u s'=>∃o H',Inv X Zt σ H' s'/\IsPart u o/\Q o H') X.xe s
def Di:TO:=fun _ H Q=>Q none H
def Iz(t:TE):TO:=fun σ H Q=>t σ H fun x H1=>∃i,x=.int i/\Q (some i) H1
theorem intsAre_of{ns:List Int}:∀{us:List Value},Vals (ns.map V.int) us->IntsAre us ns:=by
 induction ns with
 |nil=>intro us r;rw[List.map_nil]at r;cases r;exact .nil
 |cons n ns ih=>
  intro us r;rw[zAk]at r
  cases r with
  |cons r1 r2=>
   obtain⟨t,e⟩:=r1;subst e;exact .cons n t (ih r2)
section
variable{X:Cx}{e:Expr}{te:TE}{lo hi:Option Expr}{tl th:TO}{pos p2:Pos}
theorem qG:PO X none Di:=by
 intro Zt s σ H Q I h;rw[evalPart_none];exact zAz ⟨none,H,I,.none,h⟩
theorem qH(h:PE X e te):PO X (some e) (Iz te):=by
 intro Zt s σ H Q I hw;rw[evalPart_some];refine thn (h Zt s σ H _ I hw) fun u s1 ⟨x,H1,I1,r1,q1⟩=>?_;obtain⟨i,rfl,q⟩:=q1;obtain⟨t,rfl⟩:=r1;exact⟨some i,H1,I1,.int i t,q⟩
def SlR(X:Cx)(r:V->Option Int->Option Int->Hp->VK->Prop):Prop:=
 ∀(Zt:List (Addr×Obj)) (s:Shared) (σ:St) (H:Hp) (x:V) (v vl vu:Value) (lo hi:Option Int) (sl:Addr) (Q:VK),Inv X Zt σ H s->RelV x v->s.heap.IsSliceOf sl vl vu .none->IsPart vl lo->IsPart vu hi->r x lo hi H Q->
  ∃T id,typeLookup (.type T) "__getitem__"=pure (some (.builtin id))/\s.TypeIs v T/\wpAny (model X.prog X.w) X.A (getItem v (.ref sl)) (EP X Zt σ Q) X.xe s
def tSl(r:V->Option Int->Option Int->Hp->VK->Prop)(te:TE)(tl th:TO):TE:=fun σ H Q=>te σ H fun x H1=>tl σ H1 fun l H2=>th σ H2 fun u H3=>r x l u H3 Q
theorem mz{r:V->Option Int->Option Int->Hp->VK->Prop}(hr:SlR X r)(he:PE X e te)(hl:PO X lo tl)(hu:PO X hi th):PE X (.Subscript e (.Slice lo hi none p2) pos) (tSl r te tl th):=by
 intro Zt s σ H Q I h;refine Subscript_ (thn (he Zt s σ H _ I h) fun v s1 ⟨x,H1,I1,r1,q1⟩=>?_);refine wpAny_Slice (thn (hl Zt s1 σ H1 _ I1 q1) fun vl s2 ⟨l,H2,I2,pl,q2⟩=>thn (hu Zt s2 σ H2 _ I2 q2) fun vu s3 ⟨u,H3,I3,pu,q3⟩=>?_);rw[evalPart_none];refine zAz ?_;have I4:Inv X Zt σ H3 {s3 with heap:=s3.heap.push {cls:=.type "slice",data:=.fields #[vl,vu,.none]}}:=I3.kept (t':=s3.toks) fun b ob q=>zAy _ q;obtain⟨T,id,hT,ht,hg⟩:=hr Zt {s3 with heap:=s3.heap.push {cls:=.type "slice",data:=.fields #[vl,vu,.none]}} σ H3 x v vl vu l u s3.heap.objs.size Q I4 r1 (Heap.IsSliceOf.new ..) pl pu q3;show wpAny (model X.prog X.w) X.A (subscriptTail e (.Slice lo hi none p2) v (.ref s3.heap.objs.size)) (EP X Zt σ Q) X.xe {s3 with heap:=s3.heap.push {cls:=.type "slice",data:=.fields #[vl,vu,.none]}};exact tail_any (ops:=[.ref s3.heap.objs.size,v]) ht hT hg (by with_unfolding_all rfl)
def jb(xs:List V)(lo hi:Option Int):List V:=(xs.drop (HT.sIx xs.length 0 lo)).take (HT.sIx xs.length xs.length hi-HT.sIx xs.length 0 lo)
theorem kE(xs:List V)(lo hi:Option Int):(jb xs lo hi).length<=xs.length:=by
 unfold jb;rw[zAd,List.length_drop];lia
inductive RSlTI(K:Frag)(x:V)(lo:Option Int)(hi:Option Int)(H:Hp)(Q:VK):Prop
 |mk:∀a xs,(x=.ref a)->(SqT K H a xs)->(¬(HT.sIx xs.length 0 lo=0/\HT.sIx xs.length xs.length hi=xs.length))->(∀p,H p=none->Q (.ref p) (upd H p (.tup (jb xs lo hi))))->RSlTI K x lo hi H Q
def Ka(K:Frag):V->Option Int->Option Int->Hp->VK->Prop:=fun x lo hi H Q=>RSlTI K x lo hi H Q
theorem GC:SlR X (Ka X.K):=by
 intro Zt s σ H x v vl vu lo hi sl Q I rx hs pl pu h;obtain⟨a,xs,rfl,hx,hw,q⟩:=h;cases rx;obtain⟨Zs,r,ht,hz⟩:=I.tuple hx;have hlen:Zs.toArray.size=xs.length:=by rw[zA8];exact r.length.symm
 refine⟨"tuple",_,PyProof.Rows.slot_tuple_getitem.lookup,ht.typeIs,?_⟩;refine HT.getItem_tuple_cut ht hs pl pu (by rw[hlen];exact hw) ?_ (by rw[hlen];exact hz);rw[hlen];refine⟨.ref s.heap.objs.size,_,I.laid (t':=s.toks) (o:=.tup (jb xs lo hi)) (fun b ob q=>zAy _ q) (zA3 _) ?_,rfl,q _ (I.hok.fresh (zA3 _))⟩;exact⟨Nat.le_trans (kE xs lo hi) hz,_,(r.drop (HT.sIx xs.length 0 lo)).take (HT.sIx xs.length xs.length hi-HT.sIx xs.length 0 lo),IsTup.new _ _⟩
inductive RCatTI(K:Frag)(x:V)(y:V)(H:Hp)(Q:VK):Prop
 |mk:∀a b xs ys,(x=.ref a)->(y=.ref b)->(SqT K H a xs)->(SqT K H b ys)->(xs≠[])->(xs.length+ys.length<=sizeLine)->((ys=[]->Q (.ref a) H))->((ys≠[]->∀p,H p=none->Q (.ref p) (upd H p (.tup (xs++ys)))))->RCatTI K x y H Q
def IK(K:Frag):R2:=fun x y H Q=>RCatTI K x y H Q
theorem Vals.nil_iff{xs:List V}{us:List Value}(r:Vals xs us):us=[]↔xs=[]:=by
 cases r with
 |nil=>simp
 |cons _ _=>simp
theorem Dj:OpR X (binaryOp .Add) (IK X.K):=by
 intro Zt s σ H x y v u Q I rx ry h;obtain⟨a,b,xs,ys,rfl,rfl,ha,hb,hx,hz,q1,q2⟩:=h;cases rx;cases ry;obtain⟨Zs,r1,p1,_⟩:=I.tuple ha;obtain⟨bS,r2,p2,_⟩:=I.tuple hb;refine HT.cat_tup p1 p2 (fun z=>hx (r1.nil_iff.mp z)) (fun z=>⟨.ref a,H,I,rfl,q1 (r2.nil_iff.mp z)⟩) (fun z=>?_) (by rw[<-r1.length,<-r2.length];exact hz);refine⟨.ref s.heap.objs.size,_,I.laid (t':=s.toks) (o:=.tup (xs++ys)) (fun b ob q=>zAy _ q) (zA3 _) ?_,rfl,q2 (fun w=>z (r2.nil_iff.mpr w)) _ (I.hok.fresh (zA3 _))⟩;exact⟨by rw[zA2];exact hz,_,r1.append r2,IsTup.new _ _⟩
end
def ixN(n:Nat)(i:Int):Option Nat:=if 0<=i then(if i<n then some i.toNat else none)else if -(n:Int)<=i then some (i+n).toNat else none
def atI{α:Type}(xs:List α)(i:Int):Option α:=(ixN xs.length i).bind fun j=>xs[j]?
theorem wk{n:Nat}{i:Int}{j:Nat}(h:ixN n i=some j):seqIndex? i n=some j/\j<n/\-(n:Int)<=i/\i<n:=by
 unfold ixN at h;by_cases h0:0<=i
 .rw[zAx h0]at h;by_cases h1:i<n
  .rw[zAx h1]at h;have e:i.toNat=j:=zAl h;exact⟨by rw[seqIndex_of h0 h1,e],Zz,Zz,h1⟩
  .rw[zAw h1]at h;cases h
 .rw[zAw h0]at h;by_cases h1:-(n:Int)<=i
  .rw[zAx h1]at h;have e:(i+n).toNat=j:=zAl h;exact⟨by rw[seqIndex_neg Zz h1,e],Zz,h1,Zz⟩
  .rw[zAw h1]at h;cases h
theorem wu{α:Type}{xs:List α}{i:Int}{v:α}(h:atI xs i=some v):∃j,seqIndex? i xs.length=some j/\xs[j]?=some v/\j<xs.length/\-(xs.length:Int)<=i/\i<xs.length:=by
 unfold atI at h
 cases e:ixN xs.length i with
 |none=>rw[e]at h;cases h
 |some j=>
  rw[e]at h;obtain⟨h1,h2,h3,h4⟩:=wk e;exact⟨j,h1,h,h2,h3,h4⟩
theorem di{α:Type}{xs:List α}{j:Nat}{v:α}(h:xs[j]?=some v):atI xs (j:Int)=some v:=by
 have hj:j<xs.length:=(zAa.mp h).1
 have e:ixN xs.length (j:Int)=some j:=by
  unfold ixN;rw[if_pos Zz,if_pos Zz];simp
 unfold atI;rw[e];exact h
def qI(b:Expr):Prop:=∀o i,subscripted b false o i=operate [o,i] (getItem o i)
def IxR(X:Cx)(r:R2):Prop:=
 ∀(value slice:Expr) (Zt:List (Addr×Obj)) (s:Shared) (σ:St) (H:Hp) (x y:V) (v u:Value) (Q:VK),Inv X Zt σ H s->RelV x v->RelV y u->r x y H Q->
  subscripted slice false v u=operate [v,u] (getItem v u)->wpAny (model X.prog X.w) X.A (subscriptTail value slice v u) (EP X Zt σ Q) X.xe s
def MtR(X:Cx)(id:String)(r:V->List V->Hp->VK->Prop):Prop:=
 ∀(Zt:List (Addr×Obj)) (s:Shared) (σ:St) (H:Hp) (x:V) (xs:List V) (v:Value) (us:List Value) (Q:VK),Inv X Zt σ H s->RelV x v->Vals xs us->r x xs H Q->
  wpAny (model X.prog X.w) X.A (call (.builtin id) (v::us)) (EP X Zt σ Q) X.xe s
section
variable{X:Cx}{a b:Expr}{ta tb:TE}{pos:Pos}
theorem Fv{r:R2}(hr:IxR X r)(ha:PE X a ta)(hb:PE X b tb)(hs:qI b):PE X (.Subscript a b pos) (tOp r ta tb):=by
 intro Zt s σ H Q I h;exact Subscript_ (Gu ha hb I h fun v u s2 x y H2 I2 rx ry q=>hr a b Zt s2 σ H2 x y v u Q I2 rx ry q (hs _ _))
inductive RIxLI(K:Frag)(x:V)(y:V)(H:Hp)(Q:VK):Prop
 |mk:∀p xs i v,(x=.ref p)->(y=.int i)->(SqL K H p xs)->(atI xs i=some v)->(Q v H)->RIxLI K x y H Q
def IV(K:Frag):R2:=fun x y H Q=>RIxLI K x y H Q
inductive RIxTI(K:Frag)(x:V)(y:V)(H:Hp)(Q:VK):Prop
 |mk:∀p xs i v,(x=.ref p)->(y=.int i)->(SqT K H p xs)->(atI xs i=some v)->(Q v H)->RIxTI K x y H Q
def IW(K:Frag):R2:=fun x y H Q=>RIxTI K x y H Q
theorem c7:IxR X (IV X.K):=by
 intro value slice Zt s σ H x y v u Q I rx ry h hs;obtain⟨p,xs,i,z,rfl,rfl,hq,he,q⟩:=h;cases rx;obtain⟨t,rfl⟩:=ry;obtain⟨Zs,r,pl,hz⟩:=I.list hq;obtain⟨j,h1,h2,h3,h4,h5⟩:=wu he;obtain⟨w,ew,fE⟩:=r.get h2;have hl:=r.length;have hn:=mq
 have fin:EP X Zt σ Q w s:=⟨z,H,I,fE,q⟩
 by_cases h0:0<=i
 .have hj:i.toNat=j:=by
   rw[seqIndex_of h0 h5]at h1;exact zAl h1
  exact item_listR pl.isList h0 Zz (by rw[hj];simpa using ew) fin hs
 .have hj:(i+(Zs.toArray.size:Int)).toNat=j:=by
   rw[seqIndex_neg Zz h4]at h1;rw[zA8,<-hl];exact zAl h1
  exact subscriptTail_builtinR (x:=w) pl.isList.typeIs slot_list_getitem.lookup
   (wpAny_getItem_list_neg (Q:=fun r s'=>r=w/\EP X Zt σ Q r s') pl.isList Zz (by rw[List.size_toArray]<;>lia) Zz (by rw[hj];simpa using ew) ⟨rfl,fin⟩) hs
theorem bL:IxR X (IW X.K):=by
 intro value slice Zt s σ H x y v u Q I rx ry h hs;obtain⟨p,xs,i,z,rfl,rfl,hq,he,q⟩:=h;cases rx;obtain⟨t,rfl⟩:=ry;obtain⟨Zs,r,pl,hz⟩:=I.tuple hq;obtain⟨j,h1,h2,h3,h4,h5⟩:=wu he;obtain⟨w,ew,fE⟩:=r.get h2;have hl:=r.length;have hn:=mq
 have fin:EP X Zt σ Q w s:=⟨z,H,I,fE,q⟩
 exact subscriptTail_builtinR (x:=w) pl.typeIs slot_tuple_getitem.lookup
  (getItem_tuple (j:=j) (Q:=fun r s'=>r=w/\EP X Zt σ Q r s') pl Zz Zz (by rw[List.size_toArray,<-hl];exact h1) (by simpa using ew) ⟨rfl,fin⟩) hs
theorem uY(Zs:List Value)(n j:Nat)(u:Value):Obj.mapSeq (·.setIfInBounds j u) {cls:=.type "list",data:=.seq Zs.toArray n}={cls:=.type "list",data:=.seq (Zs.set j u).toArray n}:=by
 simp[Obj.mapSeq]
theorem Inv.lst{Zt:List (Addr×Obj)}{σ:St}{H:Hp}{s:Shared}{p:Addr}{xs:List V}(I:Inv X Zt σ H s)(h:H p=some (.lst xs)):
  ∃(Zs:List Value) (n:Nat),Vals xs Zs/\s.heap.get? p=some {cls:=.type "list",data:=.seq Zs.toArray n}/\xs.length<=sizeLine:=by
 obtain⟨z,Zs,n,r,e⟩:=I.hok p _ h;exact⟨Zs,n,r,e,z⟩
theorem Inv.lstUpd{Zt:List (Addr×Obj)}{σ:St}{H:Hp}{s:Shared}{p:Addr}{xs ys:List V}{Zs its':List Value}{n n':Nat}{f:Obj->Obj}(I:Inv X Zt σ H s)(h:H p=some (.lst xs))
  (ho:s.heap.get? p=some {cls:=.type "list",data:=.seq Zs.toArray n}) (hf:f {cls:=.type "list",data:=.seq Zs.toArray n}={cls:=.type "list",data:=.seq its'.toArray n'}) (r:Vals ys its') (hz:ys.length<=sizeLine) (t:Nat):
  Inv X Zt σ (upd H p (.lst ys)) {s with heap:=s.heap.update p f,toks:=t}:=by
 have e:(s.heap.update p f).get? p=some {cls:=.type "list",data:=.seq its'.toArray n'}:=by
  rw[Heap.get?_update_self f ho (by rw[hf]<;>rfl),hf]
 refine I.write (x:=p) (e:=p) (by rw[h];trivial) (.inl rfl) (fun b u hb q=>(Heap.get?_update_other _ _ (Ne.symm hb)).trans q) ⟨_,e⟩ ?_;exact⟨hz,its',n',r,e⟩
inductive RSetLI(o:V)(i:V)(v:V)(H:Hp)(Q:Hp->Prop):Prop
 |mk:∀p xs k j,(o=.ref p)->(i=.int k)->(H p=some (.lst xs))->(ixN xs.length k=some j)->(Q (upd H p (.lst (xs.set j v))))->RSetLI  o i v H Q
def J0:V->V->V->Hp->(Hp->Prop)->Prop:=fun o i v H Q=>RSetLI  o i v H Q
theorem set_list:Dc X J0:=by
 intro Zt s σ H o i v ov iv u Q I ro ri rv h;obtain⟨p,xs,k,j,rfl,rfl,hp,hj,q⟩:=h;cases ro;obtain⟨t,rfl⟩:=ri;obtain⟨Zs,n,r,ho,hz⟩:=I.lst hp;obtain⟨h1,h2,h3,h4⟩:=wk hj;have hl:=r.length;have hn:=mq
 have I':Inv X Zt σ (upd H p (.lst (xs.set j v))) {s with heap:=s.heap.update p (Obj.mapSeq (·.setIfInBounds j u))}:=
  I.lstUpd hp ho (uY Zs n j u) (r.set rv j) (by rw[List.length_set];exact hz) s.toks
 by_cases h0:0<=k
 .have hk:k.toNat=j:=by
   rw[seqIndex_of h0 h4]at h1;exact zAl h1
  exact PySem.W.ki_setAt ho h0 Zz (by rw[zA8,<-hl];exact h4) (by rw[hk];exact⟨_,I',q⟩)
 .have hk:(k+(Zs.toArray.size:Int)).toNat=j:=by
   rw[seqIndex_neg Zz h3]at h1;rw[zA8,<-hl];exact zAl h1
  exact PySem.W.ki_setBack ho Zz (by rw[zA8,<-hl];exact h3) Zz (by rw[hk];exact⟨_,I',q⟩)
theorem qJ(lo hi:Option Int)(n:Nat):(sliceBounds lo hi none n).1=((HT.sIx n 0 lo:Nat):Int)/\(sliceBounds lo hi none n).2.1=((HT.sIx n n hi:Nat):Int)/\(sliceBounds lo hi none n).2.2=1:=by
 refine⟨?_,?_,rfl⟩
 .cases lo with
  |none=>simp[sliceBounds,HT.sIx]
  |some i=>
   simp only[sliceBounds,HT.sIx,Option.getD_none,show(1:Int)>0 by decide,if_true];by_cases h:i<0
   .simp only[h,if_true]<;>lia
   .simp only[h,if_false]<;>lia
 .cases hi with
  |none=>simp[sliceBounds,HT.sIx]
  |some i=>
   simp only[sliceBounds,HT.sIx,Option.getD_none,show(1:Int)>0 by decide,if_true];by_cases h:i<0
   .simp only[h,if_true]<;>lia
   .simp only[h,if_false]<;>lia
theorem nW(Zs:List Value)(lo hi:Option Int):slicePick Zs.toArray lo hi none=((Zs.drop (HT.sIx Zs.length 0 lo)).take (HT.sIx Zs.length Zs.length hi-HT.sIx Zs.length 0 lo)).toArray:=by
 obtain⟨h1,h2,h3⟩:=qJ lo hi Zs.toArray.size;unfold slicePick;rw[h1,h2,h3];simp only[sliceRange_one,pick_run,List.size_toArray]<;>rfl
inductive RSlLI(K:Frag)(x:V)(lo:Option Int)(hi:Option Int)(H:Hp)(Q:VK):Prop
 |mk:∀a xs,(x=.ref a)->(SqL K H a xs)->(∀p,H p=none->Q (.ref p) (upd H p (.lst (jb xs lo hi))))->RSlLI K x lo hi H Q
def Kc(K:Frag):V->Option Int->Option Int->Hp->VK->Prop:=fun x lo hi H Q=>RSlLI K x lo hi H Q
theorem Dk:SlR X (Kc X.K):=by
 intro Zt s σ H x v vl vu lo hi sl Q I rx hs pl pu h;obtain⟨a,xs,rfl,hx,q⟩:=h;cases rx;obtain⟨Zs,r,ht,hz⟩:=I.list hx;have hlen:=r.length;refine⟨"list",_,slot_list_getitem.lookup,ht.isList.typeIs,?_⟩;refine wpAny_getItem_list_slice ht.isList hs pl pu .none Zy ?_ (by rw[List.size_toArray]<;>lia);rw[nW,<-hlen];refine⟨.ref s.heap.objs.size,_,I.laid (t':=s.toks) (o:=.lst (jb xs lo hi)) (fun b ob q=>Heap.get?_push_of_some _ q) (zA3 _) ?_,rfl,q _ (I.hok.fresh (zA3 _))⟩;exact⟨Nat.le_trans (kE xs lo hi) hz,_,0,(r.drop (HT.sIx xs.length 0 lo)).take (HT.sIx xs.length xs.length hi-HT.sIx xs.length 0 lo),Heap.get?_push_size _ rfl⟩
theorem bC:dJ X (.builtin "len") (fun xs H Q=>∃p ys,xs=[.ref p]/\(SqL X.K H p ys\/SqT X.K H p ys)/\Q (.int ys.length) H):=by
 intro Zt s σ H xs us Q I r h;obtain⟨p,ys,rfl,hq,q⟩:=h;obtain⟨u,rfl,rx⟩:=vals1 r;cases rx;have hn:=mq;rcases hq with hq|hq
 .obtain⟨Zs,r',pl,hz⟩:=I.list hq;have hlen:=r'.length;exact Calls.call_len_list pl.isList (by simp only[List.size_toArray]<;>lia) ⟨.int ys.length,H,I.tok _,⟨s.toks+1,by rw[List.size_toArray,hlen]⟩,q⟩
 .obtain⟨Zs,r',pl,hz⟩:=I.tuple hq;have hlen:=r'.length;exact len_tuple pl (by simp only[List.size_toArray]<;>lia) ⟨.int ys.length,H,I.tok _,⟨s.toks+1,by rw[List.size_toArray,hlen]⟩,q⟩
theorem jc:dJ X (.type "list") (fun xs H Q=>∃p ys,xs=[.ref p]/\(SqL X.K H p ys\/SqT X.K H p ys)/\∀l,H l=none->Q (.ref l) (upd H l (.lst ys))):=by
 intro Zt s σ H xs us Q I r h;obtain⟨p,ys,rfl,hq,q⟩:=h;obtain⟨u,rfl,rx⟩:=vals1 r;cases rx
 have fin:∀(Zs:List Value),Vals ys Zs->ys.length<=sizeLine->∀(h':Heap) (c':Nat),(∀b o',s.heap.get? b=some o'->h'.get? b=some o')->
   h'.get? s.heap.objs.size=some {cls:=.type "list",dict:=none,data:=.seq Zs.toArray c',slots:=#[]}->EP X Zt σ Q (.ref s.heap.objs.size) {s with heap:=h'}:=fun Zs r' hz h' c' kp e=>
  ⟨.ref s.heap.objs.size,_,I.laid (t':=s.toks) kp (zA3 _) (show ObjOk X.prog X.w _ h' _ (.lst ys)from⟨hz,Zs,c',r',e⟩),rfl,q _ (I.hok.fresh (zA3 _))⟩
 rcases hq with hq|hq
 .obtain⟨Zs,r',pl,hz⟩:=I.list hq;have hlen:=r'.length;obtain⟨o,ho,hc,n,hd⟩:=pl.isList;exact call_list_seq p (.inl rfl) ho hc hd (fun h' c' kp e=>fin Zs r' hz h' c' kp e) (by simp only[List.size_toArray]<;>lia)
 .obtain⟨Zs,r',pl,hz⟩:=I.tuple hq;have hlen:=r'.length;obtain⟨o,ho,hc,n,hd⟩:=pl;exact call_list_seq p (.inr rfl) ho hc hd (fun h' c' kp e=>fin Zs r' hz h' c' kp e) (by simp only[List.size_toArray]<;>lia)
theorem cB:dJ X (.type "tuple") (fun xs H Q=>∃p ys,xs=[.ref p]/\((SqL X.K H p ys/\∀l,H l=none->Q (.ref l) (upd H l (.tup ys)))\/(SqT X.K H p ys/\Q (.ref p) H))):=by
 intro Zt s σ H xs us Q I r h;obtain⟨p,ys,rfl,h⟩:=h;obtain⟨u,rfl,rx⟩:=vals1 r;cases rx;rcases h with⟨hq,q⟩|⟨hq,q⟩
 .obtain⟨Zs,r',pl,hz⟩:=I.list hq;have hlen:=r'.length;refine call_tuple_list pl.isList (fun h' kp=>?_) (by simp only[List.size_toArray]<;>lia);have I1:Inv X Zt σ H {s with heap:=h'}:=I.kept (t':=s.toks) kp
  have I2:Inv X Zt σ (upd H h'.objs.size (.tup ys)) {s with heap:=h'.push {cls:=.type "tuple",data:=.seq Zs.toArray}}:=
   I1.laid (t':=s.toks) (fun b o e=>zAy _ e) (zA3 _) (show ObjOk X.prog X.w _ _ _ (.tup ys)from⟨hz,Zs,r',IsTup.new _ _⟩)
  exact⟨.ref h'.objs.size,_,I2,rfl,q _ (I1.hok.fresh (zA3 _))⟩
 .obtain⟨Zs,r',pl,hz⟩:=I.tuple hq;exact call_tuple_same pl ⟨.ref p,H,I,rfl,q⟩
def tyV(K:Frag)(T:String)(x:V)(H:Hp):Prop:=match x with
 |.str _=>T="str"
 |.int _=>T="int"
 |.ref p=>(T="list"/\∃xs,SqL K H p xs)\/(T="tuple"/\∃o,K.lookup p=some o/\o.cls=.type "tuple"/\o.dict=none) \/
   (T="dict"/\((∃kvs,H p=some (.dK kvs))\/∃kvs,H p=some (.dT kvs)))\/(T="set"/\∃S n,H p=some (.set S n))
 |_=>False
theorem GD{Zt:List (Addr×Obj)}{σ:St}{H:Hp}{s:Shared}{T:String}{x:V}{v:Value}(I:Inv X Zt σ H s)(r:RelV x v)(ty:tyV X.K T x H):
  s.TypeIs v T/\∀a,v=.ref a->∃ob,s.heap.get? a=some ob/\ob.dict=none:=by
 cases x with
 |str z=>
  obtain⟨t,rfl⟩:=r;cases(show T="str" from ty);exact⟨typeIs_str s z t,fun _ e=>nomatch e⟩
 |int i=>
  obtain⟨t,rfl⟩:=r;cases(show T="int" from ty);exact⟨typeIs_int s i t,fun _ e=>nomatch e⟩
 |ref p=>
  cases r;rcases ty with⟨rfl,xs,hq⟩|⟨rfl,o,hk,hc,hd⟩|⟨rfl,hk⟩|⟨rfl,S,n,hk⟩
  .obtain⟨Zs,_,pl,_⟩:=I.list hq;refine⟨pl.isList.typeIs,fun a e=>?_⟩;cases e;obtain⟨o,n,e,c,hd,_⟩:=pl;exact⟨o,e,hd⟩
  .refine⟨⟨o,I.kIn p o hk,hc⟩,fun a e=>?_⟩;cases e;exact⟨o,I.kIn _ o hk,hd⟩
  .have z:∃o,s.heap.get? p=some o/\o.ExactDict:=by
    rcases hk with⟨kvs,hk⟩|⟨kvs,hk⟩
    .obtain⟨_,_,_,_,o,_,_,e,ex,_⟩:=I.hok p _ hk;exact⟨o,e,ex⟩
    .obtain⟨_,_,_,_,o,_,_,e,ex,_⟩:=I.hok p _ hk;exact⟨o,e,ex⟩
   obtain⟨o,e,ex⟩:=z;refine⟨⟨o,e,ex.1⟩,fun a e2=>?_⟩;cases e2;exact⟨o,e,ex.2.1⟩
  .obtain⟨o,_,_,_,e,ex,_⟩:=I.hok p _ hk;refine⟨⟨o,e,ex.1⟩,fun a e2=>?_⟩;cases e2;exact⟨o,e,ex.2.1⟩
 |_=>exact False.elim ty
def tBM(K:Frag)(T:String)(r:V->List V->Hp->VK->Prop)(to:TE)(t:TA):TE:=fun σ H Q=>to σ H fun x H1=>tyV K T x H1/\t σ H1 fun xs H2=>r x xs H2 Q
variable{o e:Expr}{es:List Expr}{to:TE}{t:TA}{name:Str}{apos ck:Pos}{T id:String}{r:V->List V->Hp->VK->Prop}
theorem jd(pa:PlainAttrs T)(slot:Slot T name id)(M0:typeOf (.builtin id)=pure (.type "method_descriptor"))(hm:MtR X id r)(ho:PE X o to)(ha:PA X (e::es) t)
  (we:attributeBase o name X.env (eval o X.env)=eval o X.env:=by rfl)
  (CD:((backTo ck (starEach (e::es) X.env)).all (fun x=>!x.1)&&(backToKw ck (keywordEach [] X.env)).all (fun x=>x.1.isSome)
   && decide ((e::es).length+([]:List Keyword).length+(if([]:List Keyword).isEmpty then 0 else 1)<30))=true:=by rfl)
  (wm:(apos.endLine==ck.line)=true:=by rfl) (hs:starEach (e::es) X.env=(false,eval e X.env)::starEach es X.env:=by rfl) (qB:(backTo ck (starEach es X.env)).any (·.1)=false:=by rfl):
  PE X (.Call (.Attribute o name apos) (e::es) [] ck) (tBM X.K T r to t):=by
 intro Zt s σ H Q I h;refine wpAny_Call_method_late we CD wm rfl (thn (ho Zt s σ H _ I h) fun v s1 ⟨x,H1,I1,r1,ty,q1⟩=>?_);obtain⟨h1,h2⟩:=GD I1 r1 ty;refine⟨T,id,pa,slot,M0,h1,h2,?_⟩;have hA:=ha ck Zt s1 σ H1 _ I1 q1;rw[hs]at hA⊢;refine Calls.callWith_builtin (by show(false||(backTo ck (starEach es X.env)).any (·.1))=false;rw[qB]<;>rfl) (Calls.evalArgs_plain ?_);exact thn hA fun us s2 ⟨vs,H2,I2,r2,q2⟩=>hm Zt s2 σ H2 x vs v us Q I2 r1 r2 q2
end
def MtM(X:Cx)(id:String)(r:V->List V->Hp->VK->Prop):Prop:=
 ∀(Zt:List (Addr×Obj)) (s:Shared) (σ:St) (H:Hp) (x:V) (xs:List V) (v:Value) (us:List Value) (Q:VK),Inv X Zt σ H s->RelV x v->Vals xs us->r x xs H Q->
  wpAny (model X.prog X.w) X.A (call (.builtin id) (v::us)) (EP X Zt σ Q) X.xe s
theorem Vals.one:∀{x:V} {us:List Value},Vals [x] us->∃u,us=[u]/\RelV x u
 |_,_,.cons r .nil=>⟨_,rfl,r⟩
theorem Vals.zero:∀{us:List Value},Vals [] us->us=[]
 |_,.nil=>rfl
theorem Vals.eraseIdx:∀{xs:List V} {us:List Value} (i:Nat),Vals xs us->Vals (xs.eraseIdx i) (us.eraseIdx i)
 |_,_,_,.nil=>.nil
 |_,_,0,.cons _ t=>t
 |_,_,i+1,.cons r t=>.cons r (Vals.eraseIdx i t)
theorem Vals.reverse{xs:List V}{us:List Value}(h:Vals xs us):Vals xs.reverse us.reverse:=by
 induction h with
 |nil=>exact .nil
 |cons r t ih=>rw[List.reverse_cons,List.reverse_cons];exact Vals.append ih (.cons r .nil)
theorem Vals.rep{xs:List V}{us:List Value}(h:Vals xs us):∀k:Nat,Vals (List.replicate k xs).flatten (List.replicate k us).flatten
 |0=>.nil
 |k+1=>by
  rw[List.replicate_succ,List.replicate_succ,List.flatten_cons,List.flatten_cons];exact Vals.append h (Vals.rep h k)
theorem pC{α:Type}:∀(l:List α) (i:Nat),(l.eraseIdx i).length<=l.length
 |[],_=>zA3 _
 |_::_,0=>Nat.le_succ _
 |_::r,i+1=>Nat.succ_le_succ (pC r i)
theorem foldl_rep(Zs:List Value):∀(k:Nat) (acc:List Value),
  List.foldl (fun x1 x2=>x1++x2) acc.toArray (List.replicate k Zs.toArray)=(acc++(List.replicate k Zs).flatten).toArray
 |0,acc=>by simp
 |k+1,acc=>by
  have e:acc.toArray++Zs.toArray=(acc++Zs).toArray:=by simp
  have e2:(acc++Zs)++(List.replicate k Zs).flatten=acc++(List.replicate (k+1) Zs).flatten:=by
   rw[List.replicate_succ,List.flatten_cons,zAf]
  rw[<-e2,<-foldl_rep Zs k (acc++Zs),<-e,List.replicate_succ,List.foldl_cons]
section
variable{X:Cx}{Zt:List (Addr×Obj)}{σ:St}{H:Hp}{s:Shared}{l b:Addr}{xs ys zs:List V}
theorem Inv.lset{Zs its':List Value}{n:Nat}{f:Array Value->Array Value}{t':Nat}(I:Inv X Zt σ H s)(hH:H l=some (.lst xs))
  (e:s.heap.get? l=some {cls:=.type "list",data:=.seq Zs.toArray n}) (hf:f Zs.toArray=its'.toArray) (hv:Vals ys its') (hz:ys.length<=sizeLine):
  Inv X Zt σ (upd H l (.lst ys)) {s with heap:=s.heap.update l (Obj.mapSeq f),toks:=t'}:=by
 have q:=PySem.IsL.update e f;rw[hf]at q;refine I.write (x:=l) (e:=l) (by rw[hH];exact trivial) (.inl rfl) (fun b' u hb hu=>(Heap.get?_update_other s.heap (Obj.mapSeq f) (Ne.symm hb)).trans hu) ⟨_,q⟩ ?_;exact⟨hz,its',_,hv,q⟩
theorem Inv.lnew{Zs:List Value}{t':Nat}(I:Inv X Zt σ H s)(hv:Vals ys Zs)(hz:ys.length<=sizeLine):
  Inv X Zt σ (upd H s.heap.objs.size (.lst ys)) {s with heap:=s.heap.push {cls:=.type "list",data:=.seq Zs.toArray},toks:=t'}:=
 I.laid (fun _ _ q=>zAy _ q) (zA3 _) ⟨hz,Zs,0,hv,zB3 _ rfl⟩
theorem Inv.fresh(I:Inv X Zt σ H s):H s.heap.objs.size=none:=I.hok.fresh (zA3 _)
theorem Inv.lstM(I:Inv X Zt σ H s)(hH:H l=some (.lst xs)):xs.length<=sizeLine/\∃(Zs:List Value) (n:Nat),Vals xs Zs/\xs.length=Zs.length/\s.heap.get? l=some {cls:=.type "list",data:=.seq Zs.toArray n}:=by
 obtain⟨z,Zs,n,r,e⟩:=I.hok l _ hH;exact⟨z,Zs,n,r,r.length,e⟩
theorem mD{n:Nat}(h:n<=sizeLine):Builtin.List.listTooLong n=false:=by
 unfold Builtin.List.listTooLong;exact zB5 Zz
end
section
variable{X:Cx}
inductive RAppendI(x:V)(vs:List V)(H:Hp)(Q:VK):Prop
 |mk:∀l xs y,(x=.ref l)->(vs=[y])->(H l=some (.lst xs))->(xs.length<sizeLine)->(Q .non (upd H l (.lst (xs++[y]))))->RAppendI  x vs H Q
def Dl:V->List V->Hp->VK->Prop:=fun x vs H Q=>RAppendI  x vs H Q
theorem dN:MtM X "list.append" Dl:=by
 intro Zt s σ H x vs v us Q I rx rv h;obtain⟨l,xs,y,rfl,rfl,hH,hz,q⟩:=h;cases rx;obtain⟨u,rfl,ru⟩:=rv.one;obtain⟨z,Zs,n,r,hl,e⟩:=I.lstM hH;refine call_meets F.slot_list_append ⟨_,e,rfl⟩ F.entry_list_append (F.args_list_append_2 _ _) (PySem.list_append l Zs.toArray n u (by rw[zA8];lia)) ⟨e,?_⟩;refine⟨.non,_,I.lset (its':=Zs++[u]) hH e Zy (r.append (.cons ru .nil)) ?_,rfl,q⟩;rw[zA2,List.length_singleton];lia
inductive RExtendI(x:V)(vs:List V)(H:Hp)(Q:VK):Prop
 |mk:∀l b xs zs,(x=.ref l)->(vs=[.ref b])->(H l=some (.lst xs))->(H b=some (.lst zs))->(xs.length+zs.length<=sizeLine)->(Q .non (upd H l (.lst (xs++zs))))->RExtendI  x vs H Q
def Dm:V->List V->Hp->VK->Prop:=fun x vs H Q=>RExtendI  x vs H Q
theorem yl:MtM X "list.extend" Dm:=by
 intro Zt s σ H x vs v us Q I rx rv h;obtain⟨l,b,xs,zs,rfl,rfl,hH,hB,hz,q⟩:=h;cases rx;obtain⟨u,rfl,ru⟩:=rv.one;cases ru;obtain⟨z,Zs,n,r,hl,e⟩:=I.lstM hH;obtain⟨z2,bS,n2,r2,iS,e2⟩:=I.lstM hB;have hsz:Zs.toArray.size+bS.toArray.size<=sizeLine:=by rw[zA8,zA8];lia
 have gp:¬(!Zs.toArray.isEmpty&&Builtin.List.listTooLong (Zs.toArray.size+bS.toArray.size))=true:=by
  rw[mD hsz,Bool.and_false];exact zAg
 refine call_meets F.slot_list_extend ⟨_,e,rfl⟩ F.entry_list_extend (F.args_list_extend_2 _ _)
  (AutoSeq1.list_extend_list_list_0 l Zs.toArray n b bS.toArray n2 gp (by rw[zA8];lia) Zz) ⟨e,e2,?_⟩
 refine⟨.non,_,I.lset (its':=Zs++bS) hH e Zy (r.append r2) ?_,rfl,q⟩;rw[zA2];lia
inductive RPopAtI(x:V)(vs:List V)(H:Hp)(Q:VK):Prop
 |mk:∀l xs i k y,(x=.ref l)->(vs=[.int i])->(H l=some (.lst xs))->(-(2^63)<=i)->(i<2^63)->(seqIndex? i xs.length=some k)->(xs[k]?=some y)->(Q y (upd H l (.lst (xs.eraseIdx k))))->RPopAtI  x vs H Q
def GF:V->List V->Hp->VK->Prop:=fun x vs H Q=>RPopAtI  x vs H Q
theorem zK:MtM X "list.pop" GF:=by
 intro Zt s σ H x vs v us Q I rx rv h;obtain⟨l,xs,i,k,y,rfl,rfl,hH,h1,h2,hk,hy,q⟩:=h;cases rx;obtain⟨u,rfl,ru⟩:=rv.one;obtain⟨t,rfl⟩:=ru;obtain⟨z,Zs,n,r,hl,e⟩:=I.lstM hH;obtain⟨w,hw,fE⟩:=r.get hy
 refine call_meets F.slot_list_pop ⟨_,e,rfl⟩ F.entry_list_pop (F.args_list_pop_2 _ _)
  (MeetsSeq.list_pop_at l Zs.toArray n i t k w (fitsIndex_both h1 h2) (by rw[zA8,<-hl];exact hk) (by rw[<-Array.getElem?_toList];exact hw) (by rw[zA8];lia)) ⟨e,?_⟩
 refine⟨y,_,I.lset (its':=Zs.eraseIdx k) hH e ?_ (r.eraseIdx k) ?_,fE,q⟩
 .show Zs.toArray.eraseIdxIfInBounds k=(Zs.eraseIdx k).toArray;rw[List.eraseIdxIfInBounds_toArray]
 .have:=pC xs k;lia
inductive RCatI(x:V)(y:V)(H:Hp)(Q:VK):Prop
 |mk:∀l b xs zs,(x=.ref l)->(y=.ref b)->(H l=some (.lst xs))->(H b=some (.lst zs))->(xs.length+zs.length<=sizeLine)->(∀p,H p=none->Q (.ref p) (upd H p (.lst (xs++zs))))->RCatI  x y H Q
def Kd:R2:=fun x y H Q=>RCatI  x y H Q
theorem GJ:OpR X (binaryOp .Add) Kd:=by
 intro Zt s σ H x y v u Q I rx ry h;obtain⟨l,b,xs,zs,rfl,rfl,hH,hB,hz,q⟩:=h;cases rx;cases ry;obtain⟨z,Zs,n,r,hl,e⟩:=I.lstM hH;obtain⟨z2,bS,n2,r2,iS,e2⟩:=I.lstM hB;refine PySem.P.add_list e e2 ?_ (by rw[zA8,zA8];lia);have ea:Zs.toArray++bS.toArray=(Zs++bS).toArray:=by simp
 rw[ea];exact⟨.ref _,_,I.lnew (t':=s.toks) (r.append r2) (by rw[zA2];lia),rfl,q _ I.fresh⟩
inductive RRepI(x:V)(y:V)(H:Hp)(Q:VK):Prop
 |mk:∀l k xs,(x=.ref l)->(y=.int k)->(H l=some (.lst xs))->(-(2^63)<=k)->(k<2^63)->(xs.length*k.toNat<=sizeLine)->(∀p,H p=none->Q (.ref p) (upd H p (.lst (List.replicate k.toNat xs).flatten)))->RRepI  x y H Q
def Ke:R2:=fun x y H Q=>RRepI  x y H Q
theorem len_rep{α:Type}(xs:List α)(k:Nat):(List.replicate k xs).flatten.length=k*xs.length:=by
 induction k with
 |zero=>simp
 |succ k ih=>rw[List.replicate_succ,List.flatten_cons,zA2,ih,Nat.succ_mul,Nat.add_comm]
theorem GK:OpR X (binaryOp .Mult) Ke:=by
 intro Zt s σ H x y v u Q I rx ry h;obtain⟨l,k,xs,rfl,rfl,hH,h1,h2,hz,q⟩:=h;cases rx;obtain⟨t,rfl⟩:=ry;obtain⟨z,Zs,n,r,hl,e⟩:=I.lstM hH;have hlen:Zs.toArray.size*k.toNat<=sizeLine:=by rw[zA8,<-hl];exact hz
 have CF:¬Zs.toArray.size*k.toNat>(2^63-1) / 8:=by
  have:(sizeLine:Nat)<=(2^63-1) / 8:=by decide
  lia
 have CH:¬(!Builtin.List.listFitsIndex k)=true:=by
  rw[fitsIndex_both h1 h2];exact zAg
 have gp:¬Builtin.List.listTooLong (Zs.toArray.size*k.toNat)=true:=by
  rw[mD hlen];exact zAg
 have CI:List.foldl (fun x1 x2=>x1++x2) #[] (List.replicate (if Zs.toArray.isEmpty=true then 0 else k.toNat) Zs.toArray)=(List.replicate k.toNat Zs).flatten.toArray:=by
  have f0:∀m:Nat,List.foldl (fun x1 x2=>x1++x2) #[] (List.replicate m Zs.toArray)=(List.replicate m Zs).flatten.toArray:=fun m=>by
   have:=foldl_rep Zs m [];rw[List.nil_append]at this;exact this
  rw[f0]
  cases Zs with
  |nil=>simp
  |cons a r'=>rw[if_neg Zy]
 refine wpAny_binaryOp_repeat_ref (T:="list") (U:="int") Zx ⟨_,e,rfl⟩ (fun s'=>typeIs_int s' k t) noFill_list_mul F.fills_int_mul F.slot_int_rmul repeat_list F.slot_int_index.lookup
  (call_meets F.slot_int_rmul (typeIs_int s k t) F.entry_int_rmul (F.args_int_rmul_2 _ _) (int___rmul___int_list k t l Zs.toArray n)
   ⟨e,rfl,⟨_,e,rfl⟩,call_meets F.slot_list_mul ⟨_,e,rfl⟩ F.entry_list_mul (F.args_list_mul_2 _ _) (AutoListH.list___mul___list_int_3 l Zs.toArray n k t CH CF gp) ⟨e,?_⟩⟩)
 rw[CI];exact⟨.ref _,_,I.lnew (t':=s.toks) (r.rep k.toNat) (by rw[len_rep,Nat.mul_comm];exact hz),rfl,q _ I.fresh⟩
end
section
variable{prog:Program}{w:World}{A:Around}{E:Value->Shared->Prop}{s:Shared}
set_option maxRecDepth 100000 in
end
section
variable{X:Cx}
end
end L2
namespace Att
open PySem PySem.W PySem.Calls PyProof.Rows
theorem lu{P:Params}{h:Heap}:∀(ns:List Int) (vs:List Value),WellAll P h vs (ns.map WData.int)->IntsAre vs ns:=by
 intro ns
 induction ns with
 |nil=>
  intro vs w;rw[List.map_nil]at w;cases w;exact .nil
 |cons n ns ih=>
  intro vs w;rw[zAk]at w
  cases w with
  |cons a b=>
   cases a;exact .cons _ _ (ih _ b)
theorem ym{l:OpenLaw}{n:Nat}(hn:l.most=some n){P:Params}{h:Heap}{args:List WData}{vals:List Value}
  (mw:l.row.toRowW.claim.pre args=true) (CL:WellAll P h vals args):
  ∃a vs ns,vals=[Value.ref a]/\args=[WData.list (ns.map WData.int)]/\h.get? a=some {cls:=.type "list",data:=.seq vs.toArray}/\IntsAre vs ns/\ns.length<=n:=by
 have M3:WShape.hasAll [] args [.list .int]=true:=(pre_splitW mw).1;have hc:l.pre.holds [] {args:=args}=true:=(pre_splitW mw).2;obtain⟨d,r,rfl,h1,h2⟩:=hasAllW_cons M3;obtain rfl:=hasAllW_nil h2;obtain⟨xs,rfl,h3⟩:=hasW_list h1;obtain⟨ns,rfl⟩:=items_int h3
 have hlen:ns.length<=n:=by
  unfold OpenLaw.pre at hc
  have h4:(WTm.not (.lt (.lit (.int (n:Int))) (.len (.arg 0)))).holds [] {args:=[.list (ns.map .int)]}=true:=by
   have h4:=(holds_andW hc).1;rw[hn]at h4;exact h4
  have h5:=condW_of h4 (w_not (w_lt w_lit (w_len_list (w_arg rfl))));rw[zA1]at h5;refine Nat.le_of_not_lt fun q=>?_;have q':(n:Int)<((ns.length:Nat):Int):=Zz
  first
   | (rw[zAu q']at h5;exact absurd h5 Zx)
   | (simp at h5;lia)
 cases CL with
 |cons w1 w2=>
  cases w2
  cases w1 with
  |list ho fF=>exact⟨_,_,ns,rfl,rfl,ho,lu ns _ fF,hlen⟩
theorem yo(l:OpenLaw)(args:List WData):l.row.toRowW.claim.post args (.bool true) args=true:=
 postW_of (r:=l.row.toRowW) (X:=(true==true))
  (show WShape.has [] (.bool true) .bool=true by first|rfl|decide|simp[WShape.has,WShape.arms,WShape.armsAll])
  (show(WTm.eq .res (.lit (.bool true))).value [] {args:=args,res:=some (.bool true),after:=args}=some (.bool (true==true))from w_eq_bool (w_res rfl) w_lit) rfl
theorem attach_call{l:OpenLaw}{n:Nat}{q:Program}{loose:List Str}{XP:(Str->Option Value)->Heap->Prop}{YP:World->Heap->Prop}{d:DefRec}
  (hn:l.most=some n) (wo:d.params.defaults=[])
  (call:∀(w:World) (s₀ s₁:Shared) (mg mb:Str->Option Value) (fa:Addr) (o:Obj) (pm cd doc:Value) (a:Addr) (vs:List Value) (ns:List Int),
   Ground q loose [] XP w s₀ mg mb s₁.heap->YP w s₁.heap->
   s₁.heap.get? fa=some o->o.data=.func (docDef d.name d.params d.body d.scope pm cd doc)->s₁.heap.CodeRec cd d.name->mg d.name=some (.ref fa)->
   s₁.heap.get? a=some {cls:=.type "list",data:=.seq vs.toArray}->IntsAre vs ns->ns.length<=n->s₁.gens=#[]->
   codeAny (model l.prog w) callerA (.call (.ref fa) ⟨[.ref a],[]⟩) (fun r s'=>r=.ok (.ret (.bool true))/\OldK s₁.heap s'.heap/\s'.os=s₁.os/\AllBare s'.gens) s₁):
  WalkO q loose XP YP l.row.toRowW d [] (fun f vs=>PySem.call f vs):=by
 intro w s₀ s₁ mg mb G Y fa o pm cd doc dV kV ho hd kD hD hmg hg args vals as mw M4 CM CL cE;obtain rfl:dV=.none:=Dflts.none hD wo;obtain rfl:kV=.none:=Dflts.noKw hD;obtain⟨a,vs,ns,rfl,rfl,qE,hints,hlen⟩:=ym hn mw CL;refine enter_call (codeAny_mono (call w s₀ s₁ mg mb fa o pm cd doc a vs ns G Y ho (fd_plain hd) kD hmg qE hints hlen hg) fun r s' hq=>?_);obtain⟨rfl,h2,h3,h4⟩:=hq;exact⟨.inl ⟨.bool true,.bool true,[],rfl,fun _=>rfl,.bool true,yo l _,fun _=>⟨List.Pairwise.nil,fun _ hm=>(nomatch hm)⟩⟩,h2,h3,h4⟩
section
variable{prog:Program}{w:World}{A:Around}{E:Value->Shared->Prop}{s:Shared}{K:Frag}
end
end Att
namespace L2
open PySem PySem.Spec PyProof.Rows
theorem jM:∀{vs:List Value} {ns:List Int},IntsAre vs ns->Vals (ns.map V.int) vs
 |_,_,.nil=>.nil
 |_,_,.cons n t h=>.cons ⟨t,rfl⟩ (jM h)
def Only(H:Hp):Prop:=∀b,H b=none\/∃o xs,H b=some (.frz o (.lst xs))
theorem zM{P:Program}{w:World}{K:Frag}{mg mb:Str->Option Value}{CX:CXT}{k:Nat}{fa a:Addr}{fd:FuncData}{x:Str}{sp:Sp}{s₁:Shared}{vs:List Value}{ns:List Int}
  (KX:K.In s₁.heap) (IS:s₁.heap.Ns mainGlobals mg) (hb:s₁.heap.Ns builtinsNs mb) (M5:∀x:Str,x≠"__name__"->mb x=bootBuiltins x) (CO:s₁.heap.NoLimit) (hg:s₁.gens=#[])
  (ha:s₁.heap.get? a=some {cls:=.type "list",data:=.seq vs.toArray}) (hi:IntsAre vs ns) (hl:ns.length<=sizeLine) (hr:Room k callerA)
  (F:∀base:Heap,K.In base->base.Ns mainGlobals mg->FnOk P w K mg base CX k fa fd [x] sp) (wq:∀(s:Shared) (u:Value),BindsTo s fd ⟨[u],[]⟩ [(x,u)])
  (nX:∀H:Hp,Only H->SqL K H a (ns.map V.int)->sp [.ref a] H (fun v _=>v=.bl true) fun _ _ _=>False)
  (CU:∀H e s',CX [] H s₁ (fun _ _ _=>False) e s'->False):
  codeAny (model P w) callerA (.call (.ref fa) ⟨[.ref a],[]⟩) (fun r s'=>r=.ok (.ret (.bool true))/\OldK s₁.heap s'.heap/\s'.os=s₁.os/\AllBare s'.gens) s₁:=by
 have rv:=jM hi;have CY:=hi.length
 have core:∀H:Hp,Only H->SqL K H a (ns.map V.int)->HOk P w H s₁.heap->(∀b,H b≠none->b=a)->(H a≠none->K.lookup a=none)->
   codeAny (model P w) callerA (.call (.ref fa) ⟨[.ref a],[]⟩) (fun r s'=>r=.ok (.ret (.bool true))/\OldK s₁.heap s'.heap/\s'.os=s₁.os/\AllBare s'.gens) s₁:=by
  intro H hO hS hok hA hK;have iL:∀{b:Addr} {o:Obj},s₁.heap.get? b=some o->H b=none->(qx s₁.heap H).get? b=some o:=fun e n=>zq e n
  have vT:∀{b:Addr} {o:Obj} {es:Array DictEntry} {ep:Nat},s₁.heap.get? b=some o->o.data=.dict es ep->H b=none:=fun{b o es ep} e d=>by
   cases q:H b with
   |none=>rfl
   |some u=>
    have e':b=a:=hA b (by rw[q];simp);subst e';rw[ha]at e;cases e;have d':Data.seq vs.toArray _=Data.dict es ep:=d;cases d'
  have A0:∀{b:Addr} {m:Str->Option Value},s₁.heap.Ns b m->(qx s₁.heap H).Ns b m:=fun{b m} ⟨o,es,ep,e,d,r⟩=>⟨o,es,ep,iL e (vT e d),d,r⟩
  have IT:K.In (qx s₁.heap H):=fun b o e=>iL (KX b o e) (by
   cases q:H b with
   |none=>rfl
   |some u=>
    have e':b=a:=hA b (by rw[q];simp);subst e'
    rw[hK (by rw[q];simp)]at e;cases e)
  have hM:Mod K mg (qx s₁.heap H):=⟨IT,A0 IS,⟨mb,A0 hb,M5⟩,let⟨mc,h1,h2⟩:=CO;⟨mc,A0 h1,h2⟩⟩
  have e0:Env0 P w K mg (qx s₁.heap H) callerA [] s₁ H:=⟨rfl,hM,fun b o e=>CV e,Nat.le_of_eq (xY _ _),trivial,fun b hb=>absurd (show b∈([]:List Addr)from hb) Zy,hok,.of_eq hg⟩
  refine codeAny_mono ((F _ IT (A0 IS)).run callerA [] s₁ H ⟨[.ref a],[]⟩ [.ref a] [.ref a] _ _ hr e0 (wq s₁ (.ref a)) (.cons rfl .nil) (nX H hO hS)) fun r s' h=>?_
  cases r with
  |error e=>exact(CU H e s' h).elim
  |ok fl=>
   cases fl with
   |next=>exact False.elim h
   |brk=>exact False.elim h
   |cont=>exact False.elim h
   |ret u=>
    obtain⟨v,H',os,bare,un,C3,r',q⟩:=h;have q':v=.bl true:=q;subst q';obtain rfl:u=Value.bool true:=r';refine⟨rfl,OldK.of_keep fun b o e=>?_,os,bare⟩
    cases q:H b with
    |none=>exact un.keep b o e q (by intro z;exact absurd (show b∈([]:List Addr)from z) Zy) Zy
    |some u=>
     rcases hO b with z|⟨ob,xs,z⟩
     .rw[q]at z;cases z
     .have z2:=un.frzs b ob _ z;obtain⟨e1,_⟩:=hok b _ z;obtain⟨e2,_⟩:=C3 b _ z2;rw[e]at e1;cases e1;exact e2
 cases hk:K.lookup a with
 |some o=>
  have e:=KX a o hk;rw[ha]at e;cases e;refine core (fun _=>none) (fun _=>.inl rfl) (.inr ⟨_,vs.toArray,_,hk,rfl,rfl,rfl,by rw[List.size_toArray,CY];exact hl,by simpa using rv⟩) (fun b u z=>by have z':(none:Option HO)=some u:=z;cases z') (fun b z=>absurd rfl z) fun z=>absurd rfl z
 |none=>
  refine core (fun b=>if b=a then some (.frz {cls:=.type "list",data:=.seq vs.toArray} (.lst (ns.map V.int)))else none) (fun b=>?_) (.inl (.inr ⟨{cls:=.type "list",data:=.seq vs.toArray},zAx rfl⟩)) (fun b u z=>?_) (fun b z=>?_) fun _=>hk
  .by_cases hb:b=a
   .exact .inr ⟨_,_,zAx hb⟩
   .exact .inl (zAw hb)
  .by_cases hb:b=a
   .have z':=(zAx hb).symm.trans z;cases z';subst hb;exact⟨ha,by rw[zA1];exact hl,vs,_,rv,ha⟩
   .have z':=(zAw hb).symm.trans z;cases z'
  .by_cases hb:b=a
   .exact hb
   .exact absurd (zAw hb) z
theorem walk_of{l:PySem.W.OpenLaw}{n k:Nat}{q:Program}{loose:List Str}{XP:(Str->Option Value)->Heap->Prop}{YP:World->Heap->Prop}{d:DefRec}{K:Params->Frag}{CX:World->CXT}{sp:World->Sp}{x:Str}
  (hn:l.most=some n) (wt:n<=sizeLine) (wo:d.params.defaults=[]) (hr:Room k callerA)
  (hY:∀(w:World) (h:Heap),YP w h->(K w.params).In h)
  (F:∀(w:World) (mg:Str->Option Value) (fa:Addr) (h:Heap),(K w.params).In h->h.Ns mainGlobals mg->mg d.name=some (.ref fa)->
   ∃fd:FuncData,(∀(s:Shared) (u:Value),BindsTo s fd ⟨[u],[]⟩ [(x,u)]) /\
    ∀base:Heap,(K w.params).In base->base.Ns mainGlobals mg->FnOk l.prog w (K w.params) mg base (CX w) k fa fd [x] (sp w))
  (nX:∀(w:World) (H:Hp) (a:Addr) (ns:List Int),ns.length<=n->Only H->SqL (K w.params) H a (ns.map V.int)->sp w [.ref a] H (fun v _=>v=.bl true) fun _ _ _=>False)
  (CU:∀(w:World) (H:Hp) (s:Shared) (e:Value) (s':Shared),CX w [] H s (fun _ _ _=>False) e s'->False):
  PySem.W.WalkO q loose XP YP l.row.toRowW d [] (fun f vs=>PySem.call f vs):=by
 refine Att.attach_call hn wo fun w s₀ s₁ mg mb fa o pm cd doc a vs ns G Y ho hd kD hmg qE hints hlen hg=>?_;have KX:=hY w _ Y;obtain⟨fd,hb,hF⟩:=F w mg fa _ KX G.T.g hmg;exact zM KX G.T.g G.T.b G.T.builtins G.T.nolimit hg qE hints (Nat.le_trans hlen wt) hr hF hb (fun H hO hS=>nX w H a ns hlen hO hS) fun H e s'=>CU w H s₁ e s'
def fJ(s:Stmt):Arguments:=match s with
 |.FunctionDef _ a _ _ _ _ _ _ _ _=>a
 |_=>{posonlyargs:=[],args:=[],vararg:=none,kwonlyargs:=[],kw_defaults:=[],kwarg:=none,defaults:=[]}
def eU(s:Stmt):List Stmt:=match s with
 |.FunctionDef _ _ b _ _ _ _ _ _ _=>b
 |_=>[]
def aM(s:Stmt):Scope:=match s with
 |.FunctionDef _ _ _ _ _ _ sc _ _ _=>sc
 |_=>{kind:=.function,names:=[],isGenerator:=false,isCoroutine:=false}
abbrev CX0:CXT:=fun _ _ _ _ _ _=>False
abbrev E0:XK:=fun _ _ _=>False
theorem J1{X:Cx}:uV CX0 X E0:=fun _ _ _ _ _ _ _ h=>h.elim
structure Fun(K:Frag)(x qual:Str)(st:Stmt)(f:Addr)(fd:FuncData):Prop where
 ex:∃(oc:Value) (od:Option Addr) (kV doc pm:Value) (an:Option Addr) (ax ct:Value) (nV:Array (Option Value)),
  fd=PySem.W.fnOf x qual (fJ st) (eU st) (aM st) .none kV doc pm an ax ct/\K.lookup f=some ⟨oc,od,.func fd,nV⟩/\PySem.W.codeIn K ax qual=true
 kp:PySem.W.keepIn K (.ref f)=true
section
variable{P:Program}{w:World}{K:Frag}{mg:Str->Option Value}{base:Heap}{f:Addr}{fd:FuncData}
theorem Fun.ok{x qual:Str}{st:Stmt}{f:Addr}{fd:FuncData}{N ps:List Str}{k:Nat}{sp:Sp}(F:Fun K x qual st f fd)(S:FnScope N ps (aM st))(len:∀vs H Q E,sp vs H Q E->vs.length=ps.length)
  (kH:∀(ax:Value) (A:Around) (outer:List Env) (s:Shared) (H:Hp) (vs:List V) (Q:VK) (E:XK),Room k (A.deeper (envOfC qual (aM st) s.heap.objs.size f ax))->sp vs H Q E->
   ∃t,PSs (yh CX0 P w K mg base N qual (aM st) f ax A outer s H E).nox (eU st) t/\t {nx:=fun _ H'=>Q .non H',rt:=Q} (start N vs) H):FnOk P w K mg base CX0 (k+1) f fd ps sp:=by
 obtain⟨oc,od,kV,doc,pm,an,ax,ct,nV,rfl,lk,kD⟩:=F.ex;refine Iw lk kD S len fun A outer s H vs Q E hr nX=>?_;obtain⟨t,h,q⟩:=kH ax A outer s H vs Q E hr nX;exact⟨t,h.nox,q⟩
theorem Fun.binds{x qual:Str}{st:Stmt}{f:Addr}{fd:FuncData}{ps:List Str}(F:Fun K x qual st f fd)
  (h:∀(kV doc pm:Value) (an:Option Addr) (ax ct:Value) (us:List Value),us.length=ps.length->bindArgs (PySem.W.fnOf x qual (fJ st) (eU st) (aM st) .none kV doc pm an ax ct) ⟨us,[]⟩=pure (ps.zip us)):Binds K fd ps []:=by
 obtain⟨oc,od,kV,doc,pm,an,ax,ct,nV,rfl,lk,kD⟩:=F.ex;exact .all (h kV doc pm an ax ct)
theorem zN{x qual:Str}{st:Stmt}{f:Addr}{oc:Value}{od an:Option Addr}{nV:Array (Option Value)}{kV doc pm ax ct:Value}(l:K.lookup f=some ⟨oc,od,.func (PySem.W.fnOf x qual (fJ st) (eU st) (aM st) .none kV doc pm an ax ct),nV⟩)
  (c:PySem.W.codeIn K ax qual=true) (k:PySem.W.keepIn K (.ref f)=true):Fun K x qual st f (PySem.W.fnOf x qual (fJ st) (eU st) (aM st) .none kV doc pm an ax ct):=⟨⟨oc,od,kV,doc,pm,an,ax,ct,nV,rfl,l,c⟩,k⟩
end
theorem eQ{A:Around}{k:Nat}(hr:Room k A):A.units+1<cLine:=Nat.lt_of_le_of_lt (Nat.add_le_add_left (by decide:1<=64) _) hr.units
section
variable{X:Cx}
theorem pv(i:Nat){x:Str}{pos:Pos}(hN:X.N[i]?=some x:=by rfl)(hv:Vis X.env.scope x:=by first|exact Or.inl rfl|exact Or.inr (Or.inl rfl)|exact Or.inr (Or.inr rfl))(hd:(x==("__debug__":Str))=false:=by decide)
  (kD:(x==("__classdict__":Str))=false:=by decide):PE X (.Name x pos) (uM i):=Gn hN hv hd kD
end
theorem bO{A B:Prop}(h:B):if false=true then A else B:=by
 rw[zAw zAg];exact h
theorem bV{A B:Prop}(h:A):if true=true then A else B:=by
 rw[zAx rfl];exact h
theorem Dn{c A B:Prop}[Decidable c](h1:c->A)(h2:¬c->B):if c then A else B:=by
 by_cases h:c
 .rw[zAx h];exact h1 h
 .rw[zAw h];exact h2 h
def Same(H H':Hp):Prop:=∀b o,H b=some o->H' b=some o
theorem Same.refl(H:Hp):Same H H:=fun _ _ h=>h
theorem Same.trans{H H1 H2:Hp}(a:Same H H1)(b:Same H1 H2):Same H H2:=fun c o h=>b c o (a c o h)
theorem Same.free{H H':Hp}(e:Same H H'){l:Addr}(h:H' l=Option.none):H l=Option.none:=by
 cases q:H l with
 |none=>rfl
 |some o=>
  rw[e l o q]at h;cases h
theorem Same.seq{K:Frag}{H H':Hp}{a:Addr}{xs:List V}(e:Same H H')(h:SqL K H a xs):SqL K H' a xs:=by
 rcases h with(h|⟨o,h⟩)|h
 .exact .inl (.inl (e _ _ h))
 .exact .inl (.inr ⟨o,e _ _ h⟩)
 .exact .inr h
def cV(cells:List (Str×Addr)):List (Str×NameKind)->List (Str×Addr)->List (Str×Addr)
 |[],acc=>acc
 | (n,k)::r,acc=>cV cells r (if k=.free then(n,(cells.lookup n).getD 0)::acc else acc)
theorem pF{env:Env}:∀(l:List (Str×NameKind)) (acc:List (Str×Addr)),(∀p∈l,p.2=NameKind.free->(env.cells.lookup p.1).isSome=true)->
  (forIn l acc fun(x:Str×NameKind) (r:List (Str×Addr))=>(if(x.2==NameKind.free)=true then do let a <-cellOf env x.1;pure (ForInStep.yield ((x.1,a)::r))else pure (ForInStep.yield r):Sem (ForInStep (List (Str×Addr)))))=pure (cV env.cells l acc)
 |[],acc,_=>rfl
 | (n,k)::r,acc,h=>by
  rw[List.forIn_cons];have ih:=fun a=>pF (env:=env) r a fun p hp=>h p (List.mem_cons_of_mem _ hp);by_cases hk:k=.free
  .subst hk;have hs:=h (n,.free) List.mem_cons_self rfl;obtain⟨c,hc⟩:=Option.isSome_iff_exists.mp hs;have e1:cellOf env n=pure c:=by unfold cellOf;rw[show env.cells.lookup n=some c from hc]
   have e2:cV env.cells ((n,.free)::r) acc=cV env.cells r ((n,c)::acc):=by
    show cV env.cells r (if NameKind.free=NameKind.free then(n,(env.cells.lookup n).getD 0)::acc else acc)=_;rw[zAx rfl,show env.cells.lookup n=some c from hc];rfl
   rw[e2];simp only[beq_self_eq_true,if_true,e1,pure_bind];exact ih _
  .have hb:(k==NameKind.free)=false:=by simpa using hk
   have e2:cV env.cells ((n,k)::r) acc=cV env.cells r acc:=by
    show cV env.cells r (if k=NameKind.free then _ else acc)=_;rw[zAw hk]
   rw[e2];simp only[hb,Bool.false_eq_true,if_false,pure_bind];exact ih _
theorem lG{scope:Scope}{env:Env}(h:∀p∈scope.names,p.2=NameKind.free->(env.cells.lookup p.1).isSome=true):closureFor scope env=pure (cV env.cells scope.names []):=by
 have e:=pF (env:=env) scope.names [] h;unfold closureFor;simp only[bind_pure];exact e
theorem je{cells:List (Str×Addr)}{x:Str}{c:Addr}:∀(l:List (Str×NameKind)) (acc:List (Str×Addr)),(∀p∈l,p.2=NameKind.free->(cells.lookup p.1).isSome=true)->(cV cells l acc).lookup x=some c->
  acc.lookup x=some c\/cells.lookup x=some c
 |[],_,_,h=>.inl h
 | (n,k)::r,acc,hf,h=>by
  have h':(cV cells r (if k=.free then(n,(cells.lookup n).getD 0)::acc else acc)).lookup x=some c:=h;rcases je r _ (fun p hp=>hf p (List.mem_cons_of_mem _ hp)) h' with e|e
  .by_cases hk:k=.free
   .rw[zAx hk]at e;obtain⟨d,hd⟩:=Option.isSome_iff_exists.mp (hf (n,k) List.mem_cons_self hk);rw[show cells.lookup n=some d from hd]at e;rw[List.lookup_cons]at e
    cases hx:x==n with
    |true=>
     rw[hx]at e;have:x=n:=by simpa using hx
     subst this;exact .inr (hd.trans (by simpa using e))
    |false=>
     rw[hx]at e;exact .inl e
   .rw[zAw hk]at e;exact .inl e
  .exact .inr e
theorem jf{cells:List (Str×Addr)}{x:Str}:∀(l:List (Str×NameKind)) (acc:List (Str×Addr)),((∃k,(x,k)∈l/\k=NameKind.free)\/(∃c,acc.lookup x=some c))->∃c,(cV cells l acc).lookup x=some c
 |[],_,h=>by
  rcases h with⟨k,hk,_⟩|h
  .exact absurd hk Zy
  .exact h
 | (n,k)::r,acc,h=>by
  show ∃c,(cV cells r (if k=.free then(n,(cells.lookup n).getD 0)::acc else acc)).lookup x=some c;refine jf r _ ?_;rcases h with⟨k',hk,e⟩|⟨c,hc⟩
  .rcases zAo.mp hk with z|z
   .cases z;refine .inr ?_;rw[zAx e];exact⟨_,by rw[List.lookup_cons,beq_self_eq_true]⟩
   .exact .inl ⟨k',z,e⟩
  .refine .inr ?_;by_cases hk:k=.free
   .rw[zAx hk,List.lookup_cons]
    cases hx:x==n with
    |true=>exact⟨_,rfl⟩
    |false=>exact⟨c,hc⟩
   .rw[zAw hk];exact⟨c,hc⟩
theorem fK{scope:Scope}{env:Env}{x:Str}{k:NameKind}(hc:∀p∈scope.names,p.2≠NameKind.cell)(h:(relabel scope env).names.lookup x=some k)(hk:k=.cell\/k=.free):∃k',(x,k')∈scope.names/\k'=NameKind.free:=by
 have m:=PySem.mem_of_lookup h;obtain⟨⟨n,k0⟩,hm,e⟩:=zA5.mp m;dsimp only at e;split at e
 .rename_i c
  cases e
  have:(k0==NameKind.free)=true:=by
   cases q:(k0==NameKind.free)with
   |true=>rfl
   |false=>rw[q]at c;simp at c
  exact⟨k0,hm,by simpa using this⟩
 .cases e;rcases hk with z|z
  .exact absurd z (hc _ hm)
  .exact⟨_,hm,z⟩
def cxC(X:Cx)(scope:Scope)(Nc:List Str)(C:Addr)(fp:List Addr)(Zt:List (Addr×Obj))(s₂:Shared)(H₂:Hp):Cx where
 prog:=X.prog
 w:=X.w
 K:=X.K
 mg:=X.mg
 base:=X.base
 A:=X.A
 N:=Nc
 s₀:=s₂
 H₀:=H₂
 env:=compEnvC scope (cV X.env.cells scope.names []) C X.env
 outer:=X.stack
 stack:=X.stack
 ex:=fp
 fn:=fun _=>false
 calm:=X.calm
 pn:=X.pn++Zt
 xe:=fun _ _=>False
def Caps(X:Cx)(br:Env):List Str->List (Option Nat)->Prop
 |[],[]=>True
 |_::N,none::r=>Caps X br N r
 |x::N,some i::r=>(X.N[i]?=some x/\(X.env.kindOf x=some .cell\/X.env.kindOf x=some .free)/\br.cells.lookup x=X.env.cells.lookup x/\(br.kindOf x=some .cell\/br.kindOf x=some .free))/\Caps X br N r
 |_,_=>False
def capσ(σ:St)(src:List (Option Nat)):St:=src.map fun o=>match o with|none=>none|some i=>(σ[i]?).join
theorem Caps.len{X:Cx}{br:Env}:∀{N:List Str} {src:List (Option Nat)},Caps X br N src->src.length=N.length
 |[],[],_=>rfl
 |[],_::_,h=>h.elim
 |_::_,[],h=>h.elim
 |_::N,none::r,h=>by
  have h':Caps X br N r:=h;have:=Caps.len (N:=N) (src:=r) h';simp[this]
 |_::N,some _::r,h=>by
  have:=Caps.len (N:=N) (src:=r) h.2;simp[this]
theorem Caps.get{X:Cx}{br:Env}{x:Str}:∀{N:List Str} {src:List (Option Nat)} {j i:Nat},Caps X br N src->N[j]?=some x->src[j]?=some (some i)->
  X.N[i]?=some x/\(X.env.kindOf x=some .cell\/X.env.kindOf x=some .free)/\br.cells.lookup x=X.env.cells.lookup x/\(br.kindOf x=some .cell\/br.kindOf x=some .free)
 |[],[],_,_,_,e,_=>by simp at e
 |[],_::_,_,_,h,_,_=>h.elim
 |_::_,[],_,_,h,_,_=>h.elim
 |_::_,none::_,0,_,_,_,e=>by simp at e
 |_::N,none::r,j+1,_,h,e1,e2=>by
  have h':Caps X br N r:=h;exact Caps.get (N:=N) (src:=r) (j:=j) h' (by simpa using e1) (by simpa using e2)
 |_::_,some _::_,0,_,h,e1,e2=>by
  simp at e1 e2;subst e1 e2;exact h.1
 |_::_,some _::_,j+1,_,h,e1,e2=>Caps.get (j:=j) h.2 (by simpa using e1) (by simpa using e2)
structure CScope(X:Cx)(scope:Scope):Prop where
 kind:scope.kind=.function
 cell:scope.names.all (fun p=>p.2 != .cell)=true
 names:scope.names.all (fun p=>p.2 != .local||scope.names.lookup p.1==some .local)=true
 free:scope.names.all (fun p=>p.2 != .free||(X.env.cells.lookup p.1).isSome)=true
section
variable{X:Cx}{scope:Scope}
theorem CScope.hcell(S:CScope X scope):∀p∈scope.names,p.2≠NameKind.cell:=fun p hp=>by
 have:=List.all_eq_true.mp S.cell p hp;simpa using this
theorem CScope.hnames(S:CScope X scope):∀p∈scope.names,p.2=.local->scope.names.lookup p.1=some .local:=fun p hp e=>by
 have:=List.all_eq_true.mp S.names p hp;simpa[e]using this
theorem CScope.hfree(S:CScope X scope):∀p∈scope.names,p.2=NameKind.free->(X.env.cells.lookup p.1).isSome=true:=fun p hp e=>by
 have:=List.all_eq_true.mp S.free p hp;simpa[e]using this
end
def PTs(X:Cx)(ifs:List Expr)(t:TT):Prop:=
 ∀(Zt:List (Addr×Obj)) (s:Shared) (σ:St) (H:Hp) (Q:Bool->Hp->Prop),Inv X Zt σ H s->t σ H Q->
  wpAny (model X.prog X.w) X.A (forIn ifs true fun c r=>if r=true then do let ok <-isTrue c X.env (eval c X.env);pure (ForInStep.yield ok)else pure (ForInStep.yield r)) (TP X Zt σ Q) X.xe s
def sX:TT:=fun _ H Q=>Q true H
theorem bu{X:Cx}:PTs X [] sX:=fun _ _ _ H _ I h=>wpAny_tests_nil ⟨H,I,h⟩
theorem gn{X:Cx}{c:Expr}{t:TT}(h:PT X c t):PTs X [c] t:=fun Zt s σ H Q I q=>wpAny_tests_one (h Zt s σ H Q I q)
theorem jg{prog:Program}{w:World}{A:Around}{R:Result->Shared->Prop}{s:Shared}{elt target iter:Expr}{ifs:List Expr}{scope:Scope}{pos:Pos}{it acc:Value}{env:Env}(I:Nat->Shared->Prop)
  (turn:∀n s,I n s->wpAny (model prog w) A (pyNext it) (fun r s₁=>match r with
   |none=>R (.ok .next) s₁
   |some v=>wpAny (model prog w) A (letOwnedTupleGo target it v) (fun _ oj=>wpAny (model prog w) A (assign target env v) (fun _ s₂=>
     wpAny (model prog w) A (forIn ifs true fun c r=>if r=true then do let ok <-isTrue c env (eval c env);pure (ForInStep.yield ok)else pure (ForInStep.yield r)) (fun ok s₃=>
      if ok=true then wpAny (model prog w) A (eval elt env) (fun x gs=>
       wpAny (model prog w) A (call (.builtin "list.append") [acc,x]) (fun _ wx=>∃m,m<n/\I m wx) (fun _ _=>False) gs) (fun _ _=>False) s₃
      else ∃m,m<n/\I m s₃) (fun _ _=>False) s₂) (fun _ _=>False) oj) (fun _ _=>False) s₁) (fun _ _=>False) s)
  (n:Nat) (h:I n s):
  codeAny (model prog w) A (.compLoop (.ListComp elt [⟨target,iter,ifs,0⟩] scope pos) 0 it acc env) R s:=by
 refine codeAny_loop rfl I (fun n s hI=>?_) n h;show wpAny _ A ((compTurn (.ListComp elt [⟨target,iter,ifs,0⟩] scope pos) 0 it acc env).onRaise (fun x=>do noteFrame x env;theTreesLotGoes x)) _ _ s;refine wpAny_noted ?_;rw[compTurn_list];refine zAt (wpAny_standAt (zAt (wpAny_mono (turn n s hI) (fun r s₁ bE=>?_) fun _ _ h'=>h'.elim)))
 cases r with
 |none=>exact zAz bE
 |some v=>
  refine zAt (wpAny_mono bE (fun _ oj w9=>?_) fun _ _ h'=>h'.elim);refine zAt (wpAny_mono w9 (fun _ s₂ kK=>zAt (wpAny_mono kK (fun ok s₃ mx=>?_) fun _ _ h'=>h'.elim)) fun _ _ h'=>h'.elim)
  cases ok with
  |false=>exact zAz ⟨rfl,mx⟩
  |true=>
   exact zAt (zAt (wpAny_mono mx (fun x gs C4=>zAt (wpAny_mono C4 (fun _ wx C5=>zAz (zAz ⟨rfl,C5⟩)) fun _ _ h'=>h'.elim)) fun _ _ h'=>h'.elim))
def kI(J:It)(g:TG)(tt:TT)(te:TE)(Fin:List V->Hp->Prop)(eC:St)(H0:Hp):Prop:=
 ∃W:Nat->Nat->List V->St->Hp->Prop,(∃m,W 0 m [] eC H0)/\∀i m ys σ H,W i m ys σ H->ys.length<sizeLine /\
  ((J.stop i H/\Fin ys H)\/(J.go i H/\∀x H',J.yld i H x H'->g x σ H' fun aS H2=>tt aS H2 fun b H3=>
   if b=true then te aS H3 fun y H4=>∃m',m'<m/\W (i+1) m' (ys++[y]) aS H4 else ∃m',m'<m/\W (i+1) m' ys aS H3))
theorem pG{X:Cx}{tg iter elt:Expr}{ifs:List Expr}{scope:Scope}{pos:Pos}{Nc:List Str}{src:List (Option Nat)}{g:TG}{tt:TT}{te:TE}(hc:X.calm=true)(S:CScope X scope)
  (bg:∀C,Caps X (compEnvC scope (cV X.env.cells scope.names []) C X.env) Nc src)
  (hb:∀C fp Zt s₂ H₂,PG (cxC X scope Nc C fp Zt s₂ H₂) tg g/\PTs (cxC X scope Nc C fp Zt s₂ H₂) ifs tt/\PE (cxC X scope Nc C fp Zt s₂ H₂) elt te)
  {Zt:List (Addr×Obj)} {s₂:Shared} {σ:St} {H₂:Hp} {it:Addr} {fp:List Addr} {tn:Nat->Heap->Prop} {J:It} (af:Inv X Zt σ H₂ s₂) (T:Turn X.prog X.w X.K tg J fp it tn) (st:tn 0 s₂.heap) (hf:∀b∈fp,gG X Zt H₂ b)
  {Fin:List V->Hp->Prop} (hW:kI J g tt te Fin (capσ σ src) H₂) {RR:Value->Addr->Result->Shared->Prop} {E:Value->Shared->Prop}
  (xb:∀D C s' ys H' m,Fin ys H'->H' D=none->Inv X Zt σ (upd H' D (.lst ys)) s'->s'.heap.Ns C m->gG X Zt (upd H' D (.lst ys)) C->RR (.ref D) C (.ok .next) s'):
  wpAny (model X.prog X.w) X.A (newList []) (fun acc s₃=>wpAny (model X.prog X.w) X.A (newFunctionEnv scope X.env.globals (cV X.env.cells scope.names []) [] X.env.qual none .none (some X.env)) (fun gu gs=>
   codeAny (model X.prog X.w) X.A (.compStart (.ListComp elt [⟨tg,iter,ifs,0⟩] scope pos) 0 (.ref it) acc {gu with scope:=relabel scope X.env}) (RR acc gu.locals) gs) E s₃) E s₂:=by
 refine wpAny_newObj_type (wpAny_newFunctionEnv S.hcell (by intro y hy;simp at hy) (fun bE aE aI=>?_) S.kind);dsimp only at aE aI⊢;generalize kM:s₂.heap.push {cls:=.type "list",dict:=none,data:=.seq ([]:List Value).toArray}=HH at aE aI⊢;generalize cy:s₂.heap.objs.size=D at aE aI⊢;have hC:HH.objs.size=D+1:=by rw[<-kM,Heap.size_push,cy]
 generalize IU:HH.objs.size=C at aE aI hC⊢;have kr:D≠C:=Zz
 have below:∀b,b<s₂.heap.objs.size->b≠C/\b≠D:=fun b hb=>by rw[cy]at hb;exact⟨by rw[hC];exact zB7 (Nat.lt_succ_of_lt hb),zB7 hb⟩
 have ai:∀{b o},s₂.heap.get? b=some o->b≠C/\b≠D:=fun{b o} e=>below b (zB1 e);have old:∀b o,s₂.heap.get? b=some o->bE.get? b=some o:=fun b o e=>aI.extBut b o (ai e).1 (zAy _ (kM▸zAy _ e));have kN:bE.get? D=some {cls:=.type "list",data:=.seq ([]:List Value).toArray}:=aI.extBut _ _ kr (zAy _ (kM▸cy▸zB3 _ rfl))
 have sR:∀b∈fp,∃o,s₂.heap.get? b=some o:=fun b hb=>let⟨o,e,_⟩:=T.obj _ _ st b hb;⟨o,e⟩
 have iN:∀b∈fp,b≠C/\b≠D:=fun b hb=>let⟨o,e⟩:=sR b hb;ai e
 have sub:∀{x c},(cV X.env.cells scope.names []).lookup x=some c->X.env.cells.lookup x=some c:=fun{x c} e=>by
  rcases je scope.names [] S.hfree e with z|z
  .simp at z
  .exact z
 have qS:∀{b o},s₂.heap.get? b=some o->b<D:=fun{b o} e=>by rw[<-cy];exact zB1 e
 have fresh:∀a,D<=a->H₂ a=none:=fun a ha=>af.hok.fresh (by rw[cy];exact ha)
 have cv:∀{x c},X.env.cells.lookup x=some c->∃o,s₂.heap.get? c=some o:=fun{x c} e=>let⟨v,o,ho,_⟩:=af.cell x c e;⟨o,ho⟩
 have kP:∀b∈frs X.stack,∃o,s₂.heap.get? b=some o:=fun b hb=>by
  rcases zAo.mp (af.stkSub b hb)with e|hb
  .rw[e];obtain⟨m,⟨o,_,_,ho,_⟩,_⟩:=af.loc;exact⟨o,ho⟩
  .obtain⟨_,o,ho,_⟩:=af.funs.mem hb;exact⟨o,ho⟩
 have kQ:∀a,D<=a->a∉frs X.stack:=fun a ha hb=>by
  obtain⟨o,e⟩:=kP a hb;exact absurd (zB2 (qS e) ha) (Nat.lt_irrefl _)
 have om:∀b∈fp,b∉frs X.stack:=fun b hb z=>by
  obtain⟨_,f1,f2,_⟩:=hf b hb;rcases zAo.mp (af.stkSub b z)with e|e
  .exact f1 e
  .exact f2 e
 generalize aT:cxC X scope Nc C fp Zt s₂ H₂=X';obtain⟨hg,ht,he⟩:=hb C fp Zt s₂ H₂;rw[aT]at hg ht he
 have xh:X'.Ok:=by
  subst aT;refine⟨af.ok.mod,S.kind,af.ok.glob,af.ok.blt,?_,?_,?_,?_,af.ok.hd,af.ok.frames,.inl rfl,?_,af.bs,Nat.le_trans af.ok.bsz af.sz,?_,om,af.stack,af.stkFree⟩
  .show s₂.heap.objs.size<=C;lia
  .exact fun x y c e1 e2=>af.ok.inj x y c (sub e1) (sub e2)
  .intro x hx;have hx:(relabel scope X.env).names.lookup x=some .cell\/(relabel scope X.env).names.lookup x=some .free:=hx
   have:∃k',(x,k')∈scope.names/\k'=NameKind.free:=by
    rcases hx with z|z
    .exact fK S.hcell z (.inl rfl)
    .exact fK S.hcell z (.inr rfl)
   exact jf scope.names [] (.inl this)
  .intro x c z;exact absurd z (by show¬(false=true);simp)
  .intro b hb;exact⟨(iN b hb).1,fun x c e=>(hf b hb).2.2.2.2.1 x c (sub e)⟩
  .intro b o e hb;obtain⟨_,_,_,f3,_⟩:=hf b hb;rcases f3 with z|z
   .exact af.ok.noex b o e z
   .exact absurd (zB2 (zB1 (af.ok.bs b o e).1) z) (Nat.lt_irrefl _)
 have eP:X'.prog=X.prog:=by subst aT;rfl
 have ew:X'.w=X.w:=by subst aT;rfl
 have eK:X'.K=X.K:=by subst aT;rfl
 have eA:X'.A=X.A:=by subst aT;rfl
 have eE:X'.xe=fun _ _=>False:=by subst aT;rfl
 have eL:X'.env.locals=C:=by subst aT;rfl
 have eN:X'.env=compEnvC scope (cV X.env.cells scope.names []) C X.env:=by subst aT;rfl
 have ec:X'.calm=true:=by subst aT;exact hc
 have eS:X'.s₀=s₂:=by subst aT;rfl
 have eH:X'.H₀=H₂:=by subst aT;rfl
 have ef:X'.fs=frs X.stack:=by subst aT;rfl
 have ex:X'.ex=fp:=by subst aT;rfl
 have ep:X'.pn=X.pn++Zt:=by subst aT;rfl
 have I0:Inv X' [] (capσ σ src) H₂ {s₂ with heap:=bE,toks:=s₂.toks+([]:List (Str×Value)).length}:=by
  refine⟨xh,by rw[eS],af.bare,by rw[eS,eH];exact Un.kept old,⟨_,by rw[eL];exact aE,?_⟩,?_,by rw[eL];exact fresh _ Zz,?_,?_,by rw[eP,ew];exact af.hok.kept old,?_⟩
  .intro j x v e1 e2 e3;have e1:Nc[j]?=some x:=by subst aT;exact e1
   have e4:∃i,src[j]?=some (some i)/\(σ[i]?).join=some v:=by
    unfold capσ at e2;rw[zAb]at e2
    cases q:src[j]? with
    |none=>rw[q]at e2;cases e2
    |some o=>
     rw[q]at e2
     cases o with
     |none=>simp at e2
     |some i=>exact⟨i,rfl,by simpa using e2⟩
   obtain⟨i,e5,e6⟩:=e4;obtain⟨c1,c2,c3,c4⟩:=(bg C).get e1 e5
   have e7:σ[i]?=some (some v):=by
    cases q:σ[i]? with
    |none=>rw[q]at e6;simp at e6
    |some o=>rw[q]at e6;simp at e6;rw[e6]
   obtain⟨m,_,hl⟩:=af.loc;obtain⟨u,r,l⟩:=hl i x v c1 e7 (.inr (by rcases c2 with z|z;exact .inl z;exact .inr z));refine⟨u,r,?_⟩;rcases l with⟨k,_⟩|⟨_,c,e,z⟩
   .rcases c2 with c2|c2<;>(rw[k]at c2;cases c2)
   .refine .inr ⟨by rw[eN];exact c4,c,by rw[eN];exact c3.trans e,?_⟩;obtain⟨o,ho,hd⟩:=z;exact⟨o,old c o ho,hd⟩
  .intro x c e;rw[eN]at e;obtain⟨v,o,ho,hd⟩:=af.cell x c (sub e);exact⟨v,o,old c o ho,hd⟩
  .intro x c e;rw[eN]at e;exact af.freeC x c (sub e)
  .intro p hp;rw[ep,zAn]at hp;obtain⟨e,n,ne,nf,d⟩:=af.pin p hp;refine⟨old _ _ e,n,by rw[eL];exact(ai e).1,?_,d⟩;rw[ef];intro z;rcases zAo.mp (af.stkSub _ z)with q|q
   .exact ne q
   .exact nf q
  .have:=(bg C).len;subst aT;show(capσ σ src).length=Nc.length;unfold capσ;rw[zA1,this]
 have xi:∀p∈X'.pn,p.1≠D:=fun p hp=>by
  rw[ep]at hp;exact(ai (af.pin p hp).1).2
 have gv:∀x c,X'.env.cells.lookup x=some c->c≠D:=fun x c e=>by
  rw[eN]at e;obtain⟨o,ho⟩:=cv (sub e);exact(ai ho).2
 have iX:∀{P:List (Addr×Obj)} {H:Hp},(∀p∈P,p.1=D)->(∀b∈fp,H b=none)->∀b∈fp,gG X' P H b:=fun{P H} hP hn b hb=>by
  refine⟨hn b hb,by rw[eL];exact(iN b hb).1,by rw[ef];exact om b hb,.inl (by rw[ex];exact hb),fun x c e=>?_,fun p hp=>?_⟩
  .rw[eN]at e;exact(hf b hb).2.2.2.2.1 x c (sub e)
  .rcases zA6.mp hp with z|z
   .rw[ep]at z;exact(hf b hb).2.2.2.2.2 p z
   .rw[hP p z];exact(iN b hb).2.symm
 obtain⟨W,⟨m0,w0⟩,step⟩:=hW
 have loop:∀s₃:Shared,s₃={s₂ with heap:=bE,toks:=s₂.toks+([]:List (Str×Value)).length}->
   codeAny (model X.prog X.w) X.A (.compLoop (.ListComp elt [⟨tg,iter,ifs,0⟩] scope pos) 0 (.ref it) (.ref D) (compEnvC scope (cV X.env.cells scope.names []) C X.env)) (RR (.ref D) C) s₃:=by
  rintro s₃ rfl
  refine jg (fun n s'=>∃i ys us k ar H',Inv X' [] ar H' s'/\tn i s'.heap/\(∀b∈fp,H' b=none)/\H' D=none/\s'.heap.get? D=some {cls:=.type "list",data:=.seq (List.toArray us) k}/\Vals ys us/\W i n ys ar H') ?_ m0
   ⟨0,[],[],_,_,_,I0,T.keep _ _ _ st fun b _ o e=>old b o e,fun b hb=>(hf b hb).1,fresh _ (zA3 _),kN,.nil,w0⟩
  rintro n s3 ⟨i,ys,us,k,cc,H3,I3,fw,kF,dE,xt,hJ,w3⟩;obtain⟨hsz,eI⟩:=step i n ys cc H3 w3
  have oo:Inv X' [(D,{cls:=.type "list",data:=.seq us.toArray k})] cc H3 s3:=I3.pins_of fun p hp=>by
   rw[List.mem_singleton.mp hp];exact⟨xt,dE,by rw[eL];exact kr,by rw[ef];exact kQ _ (zA3 _),fun v z=>by cases z⟩
  have hU:∀p∈[(D,({cls:=.type "list",data:=.seq us.toArray k}:Obj))],p.1=D:=fun p hp=>by rw[List.mem_singleton.mp hp]
  rcases eI with⟨stop,fin⟩|⟨go,turn⟩
  ·-- the end
   have hd:=T.done X' eP ew eK ec i _ s3 cc H3 (fun _ _=>False) oo (iX hU kF) fw stop;rw[eA]at hd;refine thn hd fun r s4 ⟨hr,I4⟩=>?_;subst hr;have pD:=I4.pin (D,{cls:=.type "list",data:=.seq us.toArray k}) (zB0 _ (List.mem_singleton.mpr rfl));obtain⟨mC,oq,_⟩:=I4.loc;rw[eL]at oq;have dv:=I4.base;rw[eS,eH,ef,ex]at dv;have hlen:ys.length<=sizeLine:=Nat.le_of_lt hsz
   have kR:HOk X.prog X.w (upd H3 D (.lst ys)) s4.heap:=fun b u e=>by
    by_cases hb:b=D
    .subst hb;rw[aj]at e;cases e;exact⟨hlen,us,k,hJ,pD.1⟩
    .rw[az hb]at e;have z:=I4.hok b u e;rw[eP,ew]at z
     exact z.stay (fun c v _ q=>q) (fun c q=>by rw[az (aC q dE)];exact q) fun c xs q=>by rw[az (aC q dE)];exact q
   have un:Un (frs X.stack) fp H₂ (upd H3 D (.lst ys)) s₂.heap s4.heap:=⟨dv.keep,dv.slot,fun b o e n hx=>by rw[az (ai e).2];exact dv.free b o e n hx,dv.there,
    fun b xs e=>by
     have z:=dv.tups b xs e
     rw[az (aC z dE)];exact z,
    fun b o u e=>by
     have z:=dv.frzs b o u e
     rw[az (aC z dE)];exact z,
    fun b ps e=>by
     obtain⟨mo,z⟩:=dv.tbls b ps e
     exact⟨mo,by rw[az (aC z dE)];exact z⟩⟩
   have J4:Inv X Zt σ (upd H3 D (.lst ys)) s4:=af.call' (ch:=fp) (by have:=I4.os;rw[eS]at this;exact this) un kR I4.bare fun b hb=>by
    obtain⟨_,f1,f2,f3,f4,f5⟩:=hf b hb;exact⟨f3,f1,f4,f5⟩
   refine xb D C s4 ys H3 mC fin dE J4 oq ⟨?_,?_,?_,.inr ?_,?_,?_⟩
   .rw[az kr.symm];have:=I4.free;rw[eL]at this;exact this
   .have:=af.lt;rw[cy]at this;exact Nat.ne_of_gt (zB2 this (by rw[hC];exact Nat.le_succ _))
   .intro z;obtain⟨_,o,ho,_⟩:=af.funs.mem z;exact(ai ho).1 rfl
   .have:=af.sz;rw[cy]at this;lia
   .intro x c e z;obtain⟨o,ho⟩:=cv e;exact(ai ho).1 z
   .intro p hp z;exact(ai (af.pin p hp).1).1 z
  ·-- a turn
   have hd:=T.item X' eP ew eK ec i _ s3 cc H3 (fun _ _=>False) oo (iX hU kF) fw go;rw[eA]at hd;refine thn hd fun r s4 ⟨u,hr,h4⟩=>?_;subst hr;refine thn h4 fun _ s5 ⟨x,H5,I5,r5,y5,hG,qh⟩=>?_;have qo:=I5.pinned (iX hU qh) (T.obj _ _ hG);have ot:=hg _ s5 cc H5 x u _ qo r5 (turn x H5 y5);rw[eP,ew,eA,eE,eN]at ot;refine thn ot fun _ s6 ⟨fe,H6,I6,q6⟩=>?_;have dP:=ht _ s6 fe H6 _ I6 q6;rw[eP,ew,eA,eE,eN]at dP;refine thn dP fun okb s7 ⟨H7,I7,q7⟩=>?_
   have back:∀{H8:Hp} {s8:Shared},Inv X' ([(D,({cls:=.type "list",data:=.seq us.toArray k}:Obj))]++gm fp s5.heap) fe H8 s8->
     Inv X' [] fe H8 s8/\tn (i+1) s8.heap/\(∀b∈fp,H8 b=none)/\H8 D=none/\s8.heap.get? D=some {cls:=.type "list",data:=.seq us.toArray k}/\(∀b∈fp,∀o,s5.heap.get? b=some o->s8.heap.get? b=some o):=fun{H8 s8} I8=>by
    have pD:=I8.pin (D,{cls:=.type "list",data:=.seq us.toArray k}) (List.mem_append_right _ (List.mem_append_left _ (List.mem_singleton.mpr rfl)));have pf:∀b∈fp,∀o,s5.heap.get? b=some o->s8.heap.get? b=some o:=fun b hb o e=>(I8.pin (b,o) (List.mem_append_right _ (List.mem_append_right _ (cY hb e)))).1;refine⟨I8.pins_of fun p hp=>absurd hp Zy,T.keep _ _ _ hG pf,fun b hb=>?_,pD.2.1,pD.1,pf⟩;obtain⟨o,e,d⟩:=T.obj _ _ hG b hb;exact(I8.pin (b,o) (List.mem_append_right _ (List.mem_append_right _ (cY hb e)))).2.1
   cases okb with
   |false=>
    obtain⟨b1,b2,b3,b4,b5,_⟩:=back I7;obtain⟨m',hm,w7⟩:=q7;exact⟨m',hm,i+1,ys,us,k,fe,H7,b1,b2,b3,b4,b5,hJ,w7⟩
   |true=>
    have me:=he _ s7 fe H7 _ I7 q7;rw[eP,ew,eA,eE,eN]at me;show wpAny _ _ (eval elt _) _ _ s7;refine thn me fun xv s8 ⟨y,H8,I8,r8,m',hm,w8⟩=>?_;obtain⟨b1,b2,b3,b4,b5,b6⟩:=back I8;refine append_at (hsz:=by rw[zA8,<-hJ.length];exact Nat.le_of_lt hsz) b5 fun h9 qV xw=>?_
    have I9:Inv X' [] fe H8 {s8 with heap:=h9}:=b1.turned (t':=s8.toks) (fun b o hb e=>qV.extBut b o hb e) b4 (by rw[eL];exact kr) (.inr (by rw[eS,cy];exact zA3 _)) gv fun p hp=>by
     rw[zAn]at hp;exact xi p hp
    refine⟨m',hm,i+1,ys++[y],us++[xv],k+1,fe,H8,I9,T.keep _ _ _ b2 fun b hb o e=>qV.extBut b o (iN b hb).2 e,b3,b4,?_,hJ.append (.cons r8 .nil),w8⟩;show h9.get? D=_;rw[xw,List.push_toArray]
 refine codeAny_compStart_list (loop _ rfl) ?_;exact T.self _ 0 _ _ _ (T.keep _ _ _ st fun b _ o e=>old b o e) (loop _ rfl)
def sY(wi:TI)(src:List (Option Nat))(g:TG)(tt:TT)(te:TE):TE:=fun σ H Q=>wi σ H fun J H1=>kI J g tt te (fun ys H'=>∀D,H' D=none->Q (.ref D) (upd H' D (.lst ys))) (capσ σ src) H1
section
variable{X:Cx}{tg iter elt:Expr}{ifs:List Expr}{scope:Scope}{pos:Pos}{Nc:List Str}{wi:TI}{g:TG}{tt:TT}{te:TE}
theorem bG(Nc:List Str)(src:List (Option Nat))(hc:X.calm=true)(hi:PI X tg iter wi)
  (hb:∀C fp Zt s₂ H₂,PG (cxC X scope Nc C fp Zt s₂ H₂) tg g/\PTs (cxC X scope Nc C fp Zt s₂ H₂) ifs tt/\PE (cxC X scope Nc C fp Zt s₂ H₂) elt te)
  (bg:∀C,Caps X (compEnvC scope (cV X.env.cells scope.names []) C X.env) Nc src) (S:CScope X scope)
  (hs:∀x,foldedSetIterable iter X.env x=pure x:=by intro _;rfl):PE X (.ListComp elt [⟨tg,iter,ifs,0⟩] scope pos) (sY wi src g tt te):=by
 intro Zt s σ H Q I h;rw[eval_ListComp];refine wpAny_comprehension_free (use:=none) rfl hs (lG S.hfree) S.kind S.hnames ?_;refine thn (hi Zt s σ H _ I h) fun v s1 h1=>thn h1 fun qa s2 h2=>?_;obtain⟨it,fp,tn,J,H2,e,I2,T,st2,f2,hW⟩:=h2;subst e;refine pG (RR:=fun acc C=>compPost (model X.prog X.w) X.A X.xe none (EP X Zt σ Q) acc C) hc S bg hb I2 T st2 f2 hW ?_;intro D C s' ys H' m fin nD J' hn fC;obtain⟨f0,f1,_,f3,f4,f5⟩:=fC;refine⟨m,hn,fun C6 hV=>?_⟩;exact⟨.ref D,_,J'.turned (t':=s'.toks) (fun b o hb e=>hV.extBut b o hb e) f0 f1 f3 f4 f5,rfl,fin D nD⟩
def GP(wi:TI)(src:List (Option Nat))(g:TG)(tt:TT)(te:TE)(i:Nat):TS:=fun D σ H=>sY wi src g tt te σ H fun v H'=>D.nx (σ.set i (some v)) H'
theorem iz{i:Nat}{x:Str}{pos' xy:Pos}(Nc:List Str)(src:List (Option Nat))(hc:X.calm=true)(hN:X.N.Nodup)(hX:X.N[i]?=some x)(hx:Loc X.env.scope x)(hi:PI X tg iter wi)
  (hb:∀C fp Zt s₂ H₂,PG (cxC X scope Nc C fp Zt s₂ H₂) tg g/\PTs (cxC X scope Nc C fp Zt s₂ H₂) ifs tt/\PE (cxC X scope Nc C fp Zt s₂ H₂) elt te)
  (bg:∀C,Caps X (compEnvC scope (cV X.env.cells scope.names []) C X.env) Nc src) (S:CScope X scope)
  (M6:swapsWith (.ListComp elt [⟨tg,iter,ifs,0⟩] scope pos) (some (.Name x pos')) xy.line X.env=pure true:=by rfl)
  (hf:X.fn x=true\/X.env.scope.names.lookup x=some .local:=by first|exact .inl rfl|exact .inr rfl|assumption)
  (hs:∀x,foldedSetIterable iter X.env x=pure x:=by intro _;rfl):PS X (.Assign [.Name x pos'] (.ListComp elt [⟨tg,iter,ifs,0⟩] scope pos) xy) (GP wi src g tt te i):=by
 intro Zt s σ H D I h;rw[exec_Assign_Name_used _ _ _ _ M6];refine zAt (wpAny_standAt (zAt ?_));show wpAny _ _ (do let _ <-comprehension (.ListComp elt [⟨tg,iter,ifs,0⟩] scope pos) scope X.env _ (newList []) false (eval iter X.env) (some (assign (.Name x pos') X.env))) _ _ s;refine zAt (thn (wpAny_comprehension_free (use:=some (assign (.Name x pos') X.env)) (Q:=fun _ s'=>∃ar H',Inv X Zt ar H' s'/\D.nx ar H') rfl hs (lG S.hfree) S.kind S.hnames ?_) fun _ s' hq=>zAz (zAz hq));refine thn (hi Zt s σ H _ I h) fun v s1 h1=>thn h1 fun qa s2 h2=>?_;obtain⟨it,fp,tn,J,H2,e,I2,T,st2,f2,hW⟩:=h2;subst e;refine pG (RR:=fun acc C=>compPost (model X.prog X.w) X.A X.xe (some (assign (.Name x pos') X.env)) (fun _ s'=>∃ar H',Inv X Zt ar H' s'/\D.nx ar H') acc C) hc S bg hb I2 T st2 f2 hW ?_;intro A C s' ys H' m fin nD J' hn fC;obtain⟨f0,f1,Tj,f3,f4,f5⟩:=fC;refine wpAny_assign_Name (oU J' hN hX hx (v:=.ref A) rfl (fun sM M7 M8=>?_) hf)
 have wt:∃m',sM.heap.Ns C m':=by
  obtain⟨a,sb,ha⟩:=M8
  have fI:C≠a:=by
   rcases ha with z|z
   .rw[z];exact f1
   .exact fun q=>f4 x a z q.symm
  exact⟨m,hn.sameBut sb fI⟩
 obtain⟨m',wt⟩:=wt;refine⟨m',wt,fun C6 hV=>?_⟩;exact⟨_,_,M7.turned (t':=sM.toks) (fun b o hb e=>hV.extBut b o hb e) f0 f1 f3 f4 f5,fin A nD⟩
end
section
variable{X:Cx}
theorem gR:dJ X (.builtin "isinstance") (fun xs H Q=>∃x t n b,xs=[x,.ty n]/\TyOf X.K H x t/\PySem.W.kitOne X.K t (.type n)=some b/\Q (.bl b) H):=by
 intro Zt s σ H xs us Q I r h;obtain⟨x,t,n,b,rfl,ty,e,q⟩:=h;obtain⟨u,c,rfl,ru,rc⟩:=vals2 r;obtain rfl:c=Value.type n:=rc
 exact yg I ru ty e fun tk=>⟨.bl b,H,I.tok _,rfl,q⟩
theorem sZ{prog:Program}{w:World}{A:Around}(bs:List Bool):TruthOf prog w A (fun i v=>∃b,bs[i]?=some b/\v=Value.bool b) (fun i=>(bs[i]?).getD false):=by
 intro i v s Q E hP hQ;obtain⟨b,hb,rfl⟩:=hP;dsimp only at hQ;rw[hb]at hQ;exact wpAny_truthy_bool hQ
theorem all_range(bs:List Bool):(List.range bs.length).all (fun i=>(bs[i]?).getD false)=bs.all id:=by
 apply Bool.eq_iff_iff.mpr;rw[List.all_eq_true,List.all_eq_true];constructor
 .intro h b hb;obtain⟨i,hi,e⟩:=List.getElem_of_mem hb;have:=h i (List.mem_range.mpr hi);rw[zA0 hi,e]at this;exact this
 .intro h i hi;have hi:=List.mem_range.mp hi;rw[zA0 hi];exact h _ (zAh hi)
theorem mF:∀{bs:List Bool} {us:List Value},Vals (bs.map V.bl) us->us=bs.map Value.bool
 |[],_,.nil=>rfl
 |_::bs,_,.cons r t=>by
  rw[mF (bs:=bs) t,show _=Value.bool _ from r];rfl
theorem dW(hc:X.calm=true):dJ X (.builtin "all") (fun xs H Q=>∃(p:Addr) (bs:List Bool),xs=[.ref p]/\SqL X.K H p (bs.map V.bl)/\Q (.bl (bs.all id)) H):=by
 intro Zt s σ H xs us Q I r h;obtain⟨p,bs,rfl,hq,q⟩:=h;obtain⟨u,rfl,ru⟩:=vals1 r;cases ru;obtain⟨Zs,rv,pl,hz⟩:=I.list hq;have ei:=mF rv;subst ei;have bp:p<s.heap.objs.size:=by obtain⟨_,e,_⟩:=pl.isList;exact zB1 e
 refine call_all_walk (wpAny_pyIter_list pl.isList ?_);have W:=Walks.list (prog:=X.prog) (w:=X.w) (A:=X.A.in1) (I.ok.hd hc) s.heap.objs.size p (zB7 bp) (bs.map Value.bool).toArray;refine⟨_,_,_,_,_,_,_,rfl,{sub:=W.sub,frame:=W.frame,item:=fun i s Q E hi st hQ=>W.item i s Q E hi st fun v h' tk hP=>hQ v h' tk ?_,done:=W.done,self:=W.self},⟨⟨_,zB3 _ rfl,rfl,rfl⟩,pl.isList.push _⟩,sZ bs,fun h' tk k=>?_⟩
 .have xA:(bs.map Value.bool).toArray[i]?=some v:=hP;rw[List.getElem?_toArray,zAb]at xA
  cases e:bs[i]? with
  |none=>rw[e]at xA;cases xA
  |some b=>rw[e]at xA;exact⟨b,rfl,(zAl xA).symm⟩
 .have hsz:(bs.map Value.bool).toArray.size=bs.length:=by simp
  rw[hsz,all_range];refine⟨.bl _,H,?_,rfl,q⟩;refine I.kept (h':=h') (t':=tk) fun b o e=>k b o ?_ (Heap.get?_push_of_some _ e);intro z;have:b=s.heap.objs.size:=by simpa using z
  exact absurd (zB1 e) (by rw[this];exact Nat.lt_irrefl _)
end
theorem jN{K:Frag}:PySem.W.kitOne K (.type "NoneType") (.type "int")=some false:=by kernel_rfl
theorem jh{K:Frag}:PySem.W.kitOne K (.type "NoneType") (.type "bool")=some false:=by kernel_rfl
theorem iK{K:Frag}:PySem.W.kitOne K (.type "NoneType") (.type "tuple")=some false:=by kernel_rfl
theorem qK{K:Frag}:PySem.W.kitOne K (.type "bool") (.type "int")=some true:=by kernel_rfl
theorem nY{K:Frag}:PySem.W.kitOne K (.type "bool") (.type "bool")=some true:=by kernel_rfl
theorem mG{K:Frag}:PySem.W.kitOne K (.type "bool") (.type "tuple")=some false:=by kernel_rfl
theorem tu{K:Frag}:PySem.W.kitOne K (.type "int") (.type "int")=some true:=by kernel_rfl
theorem qL{K:Frag}:PySem.W.kitOne K (.type "int") (.type "bool")=some false:=by kernel_rfl
theorem nZ{K:Frag}:PySem.W.kitOne K (.type "int") (.type "tuple")=some false:=by kernel_rfl
theorem tD{K:Frag}:PySem.W.kitOne K (.type "str") (.type "int")=some false:=by kernel_rfl
theorem qM{K:Frag}:PySem.W.kitOne K (.type "str") (.type "bool")=some false:=by kernel_rfl
theorem o9{K:Frag}:PySem.W.kitOne K (.type "str") (.type "tuple")=some false:=by kernel_rfl
theorem qN{K:Frag}:PySem.W.kitOne K (.type "list") (.type "int")=some false:=by kernel_rfl
theorem oh{K:Frag}:PySem.W.kitOne K (.type "list") (.type "bool")=some false:=by kernel_rfl
theorem mH{K:Frag}:PySem.W.kitOne K (.type "list") (.type "tuple")=some false:=by kernel_rfl
theorem ou{K:Frag}:PySem.W.kitOne K (.type "tuple") (.type "int")=some false:=by kernel_rfl
theorem mJ{K:Frag}:PySem.W.kitOne K (.type "tuple") (.type "bool")=some false:=by kernel_rfl
theorem lz{K:Frag}:PySem.W.kitOne K (.type "tuple") (.type "tuple")=some true:=by kernel_rfl
theorem qO{K:Frag}:PySem.W.kitOne K (.type "dict") (.type "int")=some false:=by kernel_rfl
theorem oA{K:Frag}:PySem.W.kitOne K (.type "dict") (.type "bool")=some false:=by kernel_rfl
theorem mK{K:Frag}:PySem.W.kitOne K (.type "dict") (.type "tuple")=some false:=by kernel_rfl
section
variable{κ:Type}[DecidableEq κ]
def cg(kvs:List (κ×V))(k:κ):Option V:=(kvs.find? fun kv=>decide (kv.1=k)).map (·.2)
def putK(kvs:List (κ×V))(k:κ)(v:V):List (κ×V):=
 if(kvs.any fun kv=>decide (kv.1=k))=true then kvs.map (fun kv=>if kv.1=k then(kv.1,v)else kv)else kvs++[(k,v)]
theorem cJ{p:κ×V}{r:List (κ×V)}{k:κ}(e:p.1=k):cg (p::r) k=some p.2:=by simp[cg,List.find?_cons,e]
theorem cM{p:κ×V}{r:List (κ×V)}{k:κ}(e:¬p.1=k):cg (p::r) k=cg r k:=by simp[cg,List.find?_cons,e]
theorem dX(k:κ):∀kvs:List (κ×V),(kvs.any fun kv=>decide (kv.1=k))=(cg kvs k).isSome
 |[]=>rfl
 |p::r=>by
  rw[List.any_cons];by_cases e:p.1=k
  .simp only[cJ e,decide_eq_true e,Bool.true_or,Option.isSome_some]
  .rw[cM e,zB5 e,Bool.false_or];exact dX k r
theorem tE(k j:κ)(y:V):∀kvs:List (κ×V),cg (kvs.map fun kv=>if kv.1=k then(kv.1,y)else kv) j=(cg kvs j).map fun x=>if j=k then y else x
 |[]=>rfl
 |p::r=>by
  have ih:=tE k j y r;rw[zAk];by_cases h:p.1=k
  .rw[zAx h];by_cases e:p.1=j
   .rw[cJ (p:=(p.1,y)) e,cJ e,Option.map_some,zAx (e.symm.trans h)]
   .rw[cM (p:=(p.1,y)) e,cM e,ih]
  .rw[zAw h];by_cases e:p.1=j
   .rw[cJ (p:=p) e,cJ e,Option.map_some,zAw (fun z=>h (e.trans z))]
   .rw[cM (p:=p) e,cM e,ih]
theorem pH(k j:κ)(y:V):∀kvs:List (κ×V),cg kvs k=none->cg (kvs++[(k,y)]) j=if j=k then some y else cg kvs j
 |[],_=>by
  by_cases e:k=j
  .rw[zAx e.symm];exact cJ (p:=(k,y)) e
  .rw[zAw (fun z=>e z.symm)];exact cM (p:=(k,y)) e
 |p::r,hn=>by
  rw[List.cons_append]
  have hk:¬p.1=k:=fun z=>by rw[cJ z]at hn;cases hn
  rw[cM hk]at hn;have ih:=pH k j y r hn;by_cases e:p.1=j
  .rw[cJ e,cJ e,zAw (fun z=>hk (e.trans z))]
  .rw[cM e,cM e,ih]
theorem dY(kvs:List (κ×V))(k j:κ)(y:V):cg (putK kvs k y) j=if j=k then some y else cg kvs j:=by
 unfold putK;by_cases a:(kvs.any fun kv=>decide (kv.1=k))=true
 .rw[zAx a,tE];rw[dX]at a;by_cases e:j=k
  .obtain⟨x,hx⟩:=Option.isSome_iff_exists.mp a;rw[zAx e,e,hx,Option.map_some,zAx rfl]
  .rw[zAw e]
   cases cg kvs j with
   |none=>rfl
   |some x=>rw[Option.map_some,zAw e]
 .rw[zAw a];refine pH k j y kvs ?_;rw[dX]at a
  cases q:cg kvs k with
  |none=>rfl
  |some x=>rw[q]at a;exact(a rfl).elim
theorem cO(kvs:List (κ×V))(k:κ)(v:V):(putK kvs k v).length<=kvs.length+1:=by
 unfold putK;split
 .rw[zA1];lia
 .rw[zA2,zAe,List.length_nil];lia
theorem zP{kvs:List (κ×V)}{k:κ}(v:V)(h:cg kvs k=none):putK kvs k v=kvs++[(k,v)]:=by
 unfold putK;rw[dX,h];exact zAw Zx
theorem RelO.isSome_eq{o:Option V}{u:Option Value}(r:RelO o u):o.isSome=u.isSome:=by
 cases o with
 |none=>cases u with
  |none=>rfl
  |some _=>exact(show False from r).elim
 |some _=>cases u with
  |none=>exact(show False from r).elim
  |some _=>rfl
theorem RelO.getD{o:Option V}{u:Option Value}{d:V}{d':Value}(r:RelO o u)(rd:RelV d d'):RelV (o.getD d) (u.getD d'):=by
 cases o with
 |none=>cases u with
  |none=>exact rd
  |some _=>exact(show False from r).elim
 |some _=>cases u with
  |none=>exact(show False from r).elim
  |some _=>exact r
theorem KV.val{kvs:List (κ×V)}{vs:List (κ×Value)}(r:KV kvs vs)(k:κ):RelO (cg kvs k) (valueAt vs k):=by
 unfold KV at r
 induction r with
 |nil=>exact True.intro
 |@cons p q ps qs h t ih=>
  obtain⟨h1,h2⟩:=h;by_cases e:p.1=k
  .have e':q.1=k:=h1.symm.trans e;have b:valueAt (q::qs) k=some q.2:=by simp[valueAt,List.find?_cons,e']
   rw[cJ e,b];exact h2
  .have e':¬q.1=k:=fun z=>e (h1.trans z);have b:valueAt (q::qs) k=valueAt qs k:=by simp[valueAt,List.find?_cons,e']
   rw[cM e,b];exact ih
theorem KV.any{kvs:List (κ×V)}{vs:List (κ×Value)}(r:KV kvs vs)(k:κ):(kvs.any fun kv=>decide (kv.1=k))=vs.any fun kv=>decide (kv.1=k):=by
 unfold KV at r
 induction r with
 |nil=>rfl
 |cons h t ih=>rw[List.any_cons,List.any_cons,ih,h.1]
theorem KV.repl{kvs:List (κ×V)}{vs:List (κ×Value)}(r:KV kvs vs)(k:κ){y:V}{u:Value}(ry:RelV y u):
  KV (kvs.map fun kv=>if kv.1=k then(kv.1,y)else kv) (vs.map fun kv=>if kv.1=k then(kv.1,u)else kv):=by
 unfold KV at r⊢
 induction r with
 |nil=>exact .nil
 |@cons p q ps qs h t ih=>
  rw[zAk,zAk];refine .cons ?_ ih;obtain⟨h1,h2⟩:=h;by_cases e:p.1=k
  .rw[zAx e,zAx (h1.symm.trans e)];exact⟨h1,ry⟩
  .rw[zAw e,zAw (fun z=>e (h1.trans z))];exact⟨h1,h2⟩
theorem KV.put{kvs:List (κ×V)}{vs:List (κ×Value)}(r:KV kvs vs)(k:κ){y:V}{u:Value}(ry:RelV y u):KV (putK kvs k y) (stored vs k u):=by
 unfold putK stored;rw[r.any k];by_cases e:(vs.any fun kv=>decide (kv.1=k))=true
 .rw[zAx e,zAx e];exact r.repl k ry
 .rw[zAw e,zAw e];exact Paired.snoc r ⟨rfl,ry⟩
theorem KV.length{kvs:List (κ×V)}{vs:List (κ×Value)}(r:KV kvs vs):kvs.length=vs.length:=Paired.length r
end
theorem tG{P:Program}{w:World}{k:Key}{u:Value}(r:RelV (kV k) u):(bI P w).is k u=true:=by
 cases k with
 |inl i=>obtain⟨t,e⟩:=(show ∃t,u=Value.int i t from r);subst e;exact sG P w i t
 |inr x=>obtain⟨t,e⟩:=(show ∃t,u=Value.str x t from r);subst e;exact sI P w x t
theorem pI{P:Program}{w:World}:∀{ks:List Key} {us:List Value},Vals (ks.map kV) us->ItemsAre (bI P w) ks us
 |[],_,r=>by rw[List.map_nil]at r;cases r;exact .nil
 |k::ks,_,r=>by
  rw[zAk]at r
  cases r with
  |cons h t=>exact .cons (tG h) (pI t)
abbrev KT(H:Hp):List (List Key×V)->List (List Key×Addr×Value)->Prop:=Paired fun p q=>p.1=q.1/\H q.2.1=some (.tup (p.1.map kV))/\RelV p.2 q.2.2
theorem KT.val{H:Hp}{kvs:List (List Key×V)}{xs:List (List Key×Addr×Value)}(r:KT H kvs xs)(k:List Key):RelO (cg kvs k) ((atKey xs k).map (·.2)):=by
 induction r with
 |nil=>exact True.intro
 |@cons p q ps qs h t ih=>
  obtain⟨h1,_,h2⟩:=h;by_cases e:p.1=k
  .have e':q.1=k:=h1.symm.trans e;have b:atKey (q::qs) k=some q.2:=by simp[atKey,List.find?_cons,e']
   rw[cJ e,b];exact h2
  .have e':¬q.1=k:=fun z=>e (h1.trans z);have b:atKey (q::qs) k=atKey qs k:=by simp[atKey,List.find?_cons,e']
   rw[cM e,b];exact ih
theorem KT.repl{H:Hp}{kvs:List (List Key×V)}{xs:List (List Key×Addr×Value)}(r:KT H kvs xs)(k:List Key){y:V}{u:Value}(ry:RelV y u):
  KT H (kvs.map fun kv=>if kv.1=k then(kv.1,y)else kv) (xs.map (putAt k u)):=by
 induction r with
 |nil=>exact .nil
 |@cons p q ps qs h t ih=>
  rw[zAk,zAk];refine .cons ?_ ih;obtain⟨h1,h2,h3⟩:=h;unfold putAt;by_cases e:p.1=k
  .rw[zAx e,zAx (h1.symm.trans e)];exact⟨h1,h2,ry⟩
  .rw[zAw e,zAw (fun z=>e (h1.trans z))];exact⟨h1,h2,h3⟩
theorem KT.put{H:Hp}{kvs:List (List Key×V)}{xs:List (List Key×Addr×Value)}(r:KT H kvs xs)(k:List Key){b:Addr}{y:V}{u:Value}(hb:H b=some (.tup (k.map kV)))(ry:RelV y u):
  KT H (putK kvs k y) (storedH xs k b u):=by
 have e:(kvs.any fun kv=>decide (kv.1=k))=(atKey xs k).isSome:=by
  rw[dX,(r.val k).isSome_eq,Option.isSome_map]
 unfold putK storedH;rw[e];by_cases q:(atKey xs k).isSome=true
 .rw[zAx q,zAx q];exact r.repl k ry
 .rw[zAw q,zAw q];exact Paired.snoc r ⟨rfl,hb,ry⟩
theorem KT.keeps{H H':Hp}{kvs:List (List Key×V)}{xs:List (List Key×Addr×Value)}(r:KT H kvs xs)(ht:∀b ys,H b=some (.tup ys)->H' b=some (.tup ys)):KT H' kvs xs:=
 Paired.mapP r fun _ _ z=>⟨z.1,ht _ _ z.2.1,z.2.2⟩
section
variable{P:Program}{w:World}{H:Hp}{h:Heap}{a:Addr}
theorem Fw{u:HO}(ok:HOk P w H h)(e:Rd H a u):ObjOk P w H h a u:=e.ok ok
theorem tH{kvs:List (Key×V)}(ok:HOk P w H h)(e:Rd H a (.dK kvs)):kvs.length<=sizeLine/\(a==sysModules)=false/\∃vs,KV kvs vs/\h.DictOf (bI P w) a vs:=
 show ObjOk P w H h a (.dK kvs)from Fw ok e
theorem Fx{kvs:List (Key×V)}(ok:HOk P w H h)(e:H a=some (.dK kvs)):kvs.length<=sizeLine/\(a==sysModules)=false/\∃vs,KV kvs vs/\h.DictOf (bI P w) a vs:=tH ok (.inl e)
theorem qP{ks:List Key}(ok:HOk P w H h)(e:H a=some (.tup (ks.map kV))):(tupleKind (bI P w)).is h ks a:=by
 obtain⟨_,Zs,r,o,h1,h2,n,h3⟩:=(show ObjOk P w H h a (.tup (ks.map kV))from ok a _ e)
 exact⟨o,Zs.toArray,n,h1,h2,h3,by simpa using pI r⟩
theorem tK{kvs:List (List Key×V)}(ok:HOk P w H h)(e:Rd H a (.dT kvs)):kvs.length<=sizeLine/\(a==sysModules)=false /\
  ∃xs,KT H kvs xs/\h.DictOfH (tupleKind (bI P w)) a xs:=by
 obtain⟨z,y,xs,r,o,es,ep,h1,h2,h3,h4,h5⟩:=(show ObjOk P w H h a (.dT kvs)from Fw ok e)
 refine⟨z,y,xs,r,o,es,ep,h1,h2,h3,h4,fun x hx=>?_,h5⟩
 have all:∀{l:List (List Key×V)} {m:List (List Key×Addr×Value)},KT H l m->∀x∈m,(tupleKind (bI P w)).is h x.1 x.2.1:=by
  intro l m q
  induction q with
  |nil=>intro x hx;exact nomatch hx
  |@cons p q ps qs hq t ih=>
   intro x hx;rcases zAo.mp hx with e|hx
   .subst e;exact qP ok (by rw[<-hq.1];exact hq.2.1)
   .exact ih x hx
 exact all r x hx
theorem J2{kvs:List (List Key×V)}(ok:HOk P w H h)(e:H a=some (.dT kvs)):kvs.length<=sizeLine/\(a==sysModules)=false /\
  ∃xs,KT H kvs xs/\h.DictOfH (tupleKind (bI P w)) a xs:=tK ok (.inl e)
end
def DGet(H:Hp)(a:Addr)(y:V)(r:Option V):Prop:=
 (∃kvs k,Rd H a (.dK kvs)/\y=kV k/\r=cg kvs k)\/∃kvs k b,Rd H a (.dT kvs)/\y=.ref b/\H b=some (.tup (k.map kV))/\r=cg kvs k
def DPut(H:Hp)(a:Addr)(y v:V)(H':Hp):Prop:=
 (∃kvs k,H a=some (.dK kvs)/\y=kV k/\kvs.length<sizeLine/\H'=upd H a (.dK (putK kvs k v))) \/
 ∃kvs k b,H a=some (.dT kvs)/\y=.ref b/\H b=some (.tup (k.map kV))/\kvs.length<sizeLine/\H'=upd H a (.dT (putK kvs k v))
theorem DGet.k{H:Hp}{a:Addr}{kvs:List (Key×V)}{k:Key}(e:H a=some (.dK kvs)):DGet H a (kV k) (cg kvs k):=.inl ⟨kvs,k,.inl e,rfl,rfl⟩
theorem DGet.t{H:Hp}{a b:Addr}{kvs:List (List Key×V)}{k:List Key}(e:H a=some (.dT kvs))(eb:H b=some (.tup (k.map kV))):DGet H a (.ref b) (cg kvs k):=.inr ⟨kvs,k,b,.inl e,rfl,eb,rfl⟩
theorem DPut.k{H:Hp}{a:Addr}{kvs:List (Key×V)}{k:Key}{v:V}(e:H a=some (.dK kvs))(hl:kvs.length<sizeLine):DPut H a (kV k) v (upd H a (.dK (putK kvs k v))):=.inl ⟨kvs,k,e,rfl,hl,rfl⟩
theorem DPut.t{H:Hp}{a b:Addr}{kvs:List (List Key×V)}{k:List Key}{v:V}(e:H a=some (.dT kvs))(eb:H b=some (.tup (k.map kV)))(hl:kvs.length<sizeLine):
  DPut H a (.ref b) v (upd H a (.dT (putK kvs k v))):=.inr ⟨kvs,k,b,e,rfl,eb,hl,rfl⟩
section
variable{X:Cx}{Zt:List (Addr×Obj)}{σ:St}{H:Hp}{s:Shared}{a:Addr}{y v:V}{u r:Value}{o:Option V}{A:Around}{E:Value->Shared->Prop}
theorem Inv.big(I:Inv X Zt σ H s):sysModules<s.heap.objs.size:=by
 have h:mainGlobals<s.heap.objs.size:=(I.mod.glob.keeps I.bk).lt;exact Nat.lt_trans Zx h
theorem yp{Q:Value->Shared->Prop}(hu:A.units+1<cLine)(I:Inv X Zt σ H s)(g:DGet H a y (some v))(ry:RelV y u)(h:∀w' s',Inv X Zt σ H s'->RelV v w'->Q w' s'):
  wpAny (model X.prog X.w) A (getItem (.ref a) u) Q E s:=by
 rcases g with⟨kvs,k,e,ey,l⟩|⟨kvs,k,b,e,ey,eb,l⟩
 .subst ey;obtain⟨z,hd,vs,rel,dd⟩:=tH I.hok e;obtain⟨w',hw,fE⟩:=RelO.some_of (v:=v) (o:=valueAt vs k) (by rw[l];exact rel.val k);exact wpAny_getItem_of (tG ry) dd.mapOf hw (h w' _ (I.tok _) fE)
 .subst ey;cases(show u=Value.ref b from ry);obtain⟨z,hd,xs,rel,dd⟩:=tK I.hok e;obtain⟨w',hw,fE⟩:=RelO.some_of (v:=v) (o:=(atKey xs k).map (·.2)) (by rw[l];exact rel.val k);obtain⟨p,hp,xB⟩:=Option.map_eq_some_iff.mp hw;refine wpAny_getItem_heap (tupleKind_room_in1 hu) (qP I.hok eb) dd hp ?_;rw[xB];exact h w' _ (I.tok _) fE
theorem qQ{h':Heap}{t':Nat}{ob:HO}(I:Inv X Zt σ H s)(mu:Mut (H a))(hs:Heap.SameBut a s.heap h')(he:∃q,h'.get? a=some q)(new:ObjOk X.prog X.w (upd H a ob) h' a ob):
  Inv X Zt σ (upd H a ob) {s with heap:=h',toks:=t'}:=
 I.write (x:=a) (e:=a) mu (.inl rfl) (fun b q hb z=>(hs.2 b hb).trans z) he new
theorem zQ{P:Program}{w:World}{H':Hp}{h':Heap}{kvs:List (Key×V)}{vs:List (Key×Value)}(z:kvs.length<=sizeLine)(hd:(a==sysModules)=false)(rel:KV kvs vs)(dd:h'.DictOf (bI P w) a vs):
  ObjOk P w H' h' a (.dK kvs):=⟨z,hd,vs,rel,dd⟩
theorem pJ{H':Hp}{Q:Unit->Shared->Prop}(hu:A.units+1<cLine)(I:Inv X Zt σ H s)(g:DPut H a y v H')(ry:RelV y u)(rv:RelV v r)(h:∀s',Inv X Zt σ H' s'->Q () s'):
  wpAny (model X.prog X.w) A (setItem (.ref a) u r) Q E s:=by
 rcases g with⟨kvs,k,e,ey,l,eH⟩|⟨kvs,k,b,e,ey,eb,l,eH⟩
 .subst ey eH;obtain⟨z,hd,vs,rel,dd⟩:=Fx I.hok e;have hz:vs.length<=sizeLine:=by rw[<-rel.length];exact z
  have hl:(putK kvs k v).length<=sizeLine:=by have:=cO kvs k v;lia
  refine wpAny_setItem_pairs (hsz:=hz) (tG ry) dd fun h' rf hs=>h _ ?_
  have he:∃q,h'.get? a=some q:=let⟨q,_,_,hq,_⟩:=rf;⟨q,hq⟩
  exact qQ I (by rw[e];exact True.intro) hs he (zQ hl hd (rel.put k rv) rf)
 .subst ey eH;cases(show u=Value.ref b from ry);obtain⟨z,hd,xs,rel,dd⟩:=J2 I.hok e;have hz:xs.length<=sizeLine:=by rw[<-Paired.length rel];exact z
  have hl:(putK kvs k v).length<=sizeLine:=by have:=cO kvs k v;lia
  refine wpAny_setItem_heap (hsz:=hz) (tupleKind_room_in1 hu) (qP I.hok eb) dd fun h' rf hs=>h _ ?_;obtain⟨q,es,ep,hq,h2,h3,h4,_,h5⟩:=rf;refine qQ I (by rw[e];exact True.intro) hs ⟨q,hq⟩ ⟨hl,hd,_,(rel.put k eb rv).keeps fun c ys ec=>?_,q,es,ep,hq,h2,h3,h4,h5⟩;rw[az (Ih ec e (fun z=>nomatch z))];exact ec
end
section
variable{X:Cx}{Zt:List (Addr×Obj)}{σ:St}{H:Hp}{s:Shared}{a:Addr}{kvs:List (Key×V)}{k:Key}{u:Value}{A:Around}{E:Value->Shared->Prop}
end
def J3(i:Expr):Prop:=∀ov iv,subscripted i false ov iv=operate [ov,iv] (getItem ov iv)
theorem Do{prog:Program}{w:World}{A:Around}{E:Value->Shared->Prop}{s:Shared}{env:Env}{value slice:Expr}{pos:Pos}{T id:String}{Q:Value->Shared->Prop}
  (hl:typeLookup (.type T) "__getitem__"=pure (some (.builtin id))) (hs:J3 slice)
  (h:wpAny (model prog w) A (eval value env) (fun o s₁=>wpAny (model prog w) A (eval slice env) (fun i s₂=>s₂.TypeIs o T/\wpAny (model prog w) A (getItem o i) Q E s₂) E s₁) E s):
  wpAny (model prog w) A (eval (.Subscript value slice pos) env) Q E s:=by
 refine Subscript_ (wpAny_mono h (fun o s₁ bE=>wpAny_mono bE (fun i s₂ kK=>?_) fun _ _ x=>x) fun _ _ x=>x);obtain⟨hT,kK⟩:=kK;unfold subscriptTail;refine zAt ?_;rw[getitemInPython_of_ne hT.not_modules];refine zAt (wpAny_specialOf hT hl ?_)
 have fin:wpAny (model prog w) A (subscripted slice false o i) (fun r s₃=>wpAny (model prog w) A (letTemporaryGo value o r>>=fun _=>pure r) Q E s₃) E s₂:=by
  rw[hs o i];exact wpAny_operating (wpAny_mono kK (fun r s₃ mx=>zAt (wpAny_letTemporaryGo (zAz mx))) fun _ _ x=>x)
 first
  |exact zAz (zAt fin)
  |exact zAt (zAz (zAt fin))
  |exact zAt fin
theorem tL{X:Cx}{Zt:List (Addr×Obj)}{σ:St}{H:Hp}{s:Shared}{a:Addr}{y:V}{o:Option V}(I:Inv X Zt σ H s)(g:DGet H a y o):s.TypeIs (.ref a) "dict":=by
 rcases g with⟨kvs,k,e,_,_⟩|⟨kvs,k,b,e,_,_,_⟩
 .obtain⟨_,_,vs,_,dd⟩:=tH I.hok e;exact dd.typeIs
 .obtain⟨_,_,xs,_,dd⟩:=tK I.hok e;exact dd.typeIs
def Fy(td ty:TE):TE:=fun σ H Q=>td σ H fun x H1=>ty σ H1 fun y H2=>∃a v,x=.ref a/\DGet H2 a y (some v)/\Q v H2
def J5(td ty tv:TE):TS:=fun D σ H=>tv σ H fun v H1=>td σ H1 fun x H2=>ty σ H2 fun y H3=>∃a H4,x=.ref a/\DPut H3 a y v H4/\D.nx σ H4
section
variable{X:Cx}{o i e value:Expr}{pos pos' p9:Pos}{td ty tv:TE}
theorem fM(hu:X.A.units+1<cLine)(ho:PE X o td)(hi:PE X i ty)(hs:J3 i):PE X (.Subscript o i pos) (Fy td ty):=by
 intro Zt s σ H Q I h;refine Do PySem.F.slot_dict_getitem.lookup hs (thn (ho Zt s σ H _ I h) fun u s1 ⟨x,H1,I1,rx,q1⟩=>thn (hi Zt s1 σ H1 _ I1 q1) fun iv s2 ⟨y,H2,I2,ry,a,v,ex,g,q2⟩=>?_);subst ex;obtain rfl:u=Value.ref a:=rx;exact⟨tL I2 g,yp hu I2 g ry fun w' s3 I3 fE=>⟨v,H2,I3,fE,q2⟩⟩
theorem lH(hu:X.A.units+1<cLine)(ho:PE X o td)(hi:PE X i ty)(hv:PE X value tv)(hs:swapsWith value (some (.Subscript o i pos')) pos.line X.env=pure false):
  PS X (.Assign [.Subscript o i pos'] value pos) (J5 td ty tv):=by
 intro Zt s σ H D I h;refine wpAny_Assign_Subscript (thn (hv Zt s σ H _ I h) fun r s1 ⟨v,H1,I1,rv,q1⟩=>thn (ho Zt s1 σ H1 _ I1 q1) fun u s2 ⟨x,H2,I2,rx,q2⟩=>thn (hi Zt s2 σ H2 _ I2 q2) fun iv s3 ⟨y,H3,I3,ry,a,H4,ex,g,q3⟩=>?_) hs;subst ex;obtain rfl:u=Value.ref a:=rx
 exact pJ hu I3 g ry rv fun s4 I4=>⟨σ,H4,I4,q3⟩
end
theorem tM{P:Program}{w:World}{H:Hp}(h:Heap)(hb:sysModules<h.objs.size):ObjOk P w H (h.push {cls:=.type "dict",data:=.dict #[]}) h.objs.size (.dK []):=
 ⟨zAp _,beq_eq_false_iff_ne.mpr (Ne.symm (zB7 hb)),[],.nil,Heap.DictOf.new h⟩
theorem zR{P:Program}{w:World}{H:Hp}(h:Heap)(hb:sysModules<h.objs.size):ObjOk P w H (h.push {cls:=.type "dict",data:=.dict #[]}) h.objs.size (.dT []):=
 ⟨zAp _,beq_eq_false_iff_ne.mpr (Ne.symm (zB7 hb)),[],.nil,_,#[],0,zB3 _ rfl,⟨rfl,rfl,rfl⟩,rfl,rfl,List.nodup_nil⟩
def GQ:TE:=fun _ H Q=>∀p,H p=none->Q (.ref p) (upd H p (.dT []))
section
variable{X:Cx}{pos:Pos}
theorem tO:PE X (.Dict [] [] pos) GQ:=fun Zt s σ H Q I h=>
 wpAny_Dict_empty ⟨.ref s.heap.objs.size,_,I.laid (a:=s.heap.objs.size) (o:=.dT []) (t':=s.toks) (fun _ _ q=>zAy _ q) (zA3 _) (zR s.heap I.big),rfl,h _ (I.hok.fresh (zA3 _))⟩
end
def uZ:List (TE×TE)->St->Hp->(List (V×V)->Hp->Prop)->Prop
 |[],_,H,Q=>Q [] H
 | (tk,tv)::r,σ,H,Q=>tk σ H fun x H1=>tv σ H1 fun y H2=>uZ r σ H2 fun ps H3=>Q ((x,y)::ps) H3
abbrev VV:List (V×V)->List (Value×Value)->Prop:=Paired fun p q=>RelV p.1 q.1/\RelV p.2 q.2
def PPs(X:Cx)(pos:Pos)(keys:List (Option Expr))(values:List Expr)(mB:List (TE×TE)):Prop:=
 ∀(Zt:List (Addr×Obj)) (s:Shared) (σ:St) (H:Hp) (Q:List (V×V)->Hp->Prop),Inv X Zt σ H s->uZ mB σ H Q->
  wpAny (model X.prog X.w) X.A (evalPairs (pairTrees keys values X.env pos)) (fun vs s'=>∃ps H',Inv X Zt σ H' s'/\VV ps vs/\Q ps H') X.xe s
theorem Dp{X:Cx}{pos:Pos}:PPs X pos [] [] []:=fun Zt s σ H Q I h=>pairTrees_nil_walk ⟨[],H,I,.nil,h⟩
theorem zT{X:Cx}{pos:Pos}{k v:Expr}{ks:List (Option Expr)}{vs:List Expr}{tk tv:TE}{mB:List (TE×TE)}(hk:PE X k tk)(hv:PE X v tv)(hr:PPs X pos ks vs mB):
  PPs X pos (some k::ks) (v::vs) ((tk,tv)::mB):=fun Zt s σ H Q I h=>
 pairTrees_cons_walk (thn (hk Zt s σ H _ I h) fun u s1 ⟨x,H1,I1,rx,q1⟩=>thn (hv Zt s1 σ H1 _ I1 q1) fun w2 s2 ⟨y,H2,I2,ry,q2⟩=>
  thn (hr Zt s2 σ H2 _ I2 q2) fun ws s3 ⟨ps,H3,I3,rel,q3⟩=>⟨(x,y)::ps,H3,I3,.cons ⟨rx,ry⟩ rel,q3⟩)
def gU(kvs more:List (Key×V)):List (Key×V):=more.foldl (fun acc kv=>putK acc kv.1 kv.2) kvs
theorem KV.merge:∀{more:List (Key×V)} {rs:List (Key×Value)} {kvs:List (Key×V)} {vs:List (Key×Value)},KV more rs->KV kvs vs->KV (gU kvs more) (merged vs rs):=by
 intro more rs kvs vs r;unfold KV at r
 induction r generalizing kvs vs with
 |nil=>intro q;exact q
 |@cons p q ps qs h t ih=>
  intro r0
  have e:KV (putK kvs p.1 p.2) (stored vs q.1 q.2):=by
   have:=r0.put p.1 h.2;rw[<-h.1];exact this
  exact ih e
theorem iI:∀(more kvs:List (Key×V)),(gU kvs more).length<=kvs.length+more.length
 |[],kvs=>by show kvs.length<=kvs.length+0;lia
 |p::r,kvs=>by
  have h1:=iI r (putK kvs p.1 p.2);have h2:=cO kvs p.1 p.2;show(gU (putK kvs p.1 p.2) r).length<=_;rw[zAe];lia
theorem mL{P:Program}{w:World}:∀{kvs:List (Key×V)} {ws:List (Value×Value)},VV (kvs.map fun kv=>(kV kv.1,kv.2)) ws->∃rs,Carries (bI P w) ws rs/\KV kvs rs
 |[],_,r=>by rw[List.map_nil]at r;cases r;exact⟨[],True.intro,.nil⟩
 |p::kvs,_,r=>by
  rw[zAk]at r
  cases r with
  |@cons a b as bs h t=>
   obtain⟨rs,c,q⟩:=mL (P:=P) (w:=w) t;obtain⟨b1,b2⟩:=b;exact⟨(p.1,b2)::rs,⟨tG h.1,rfl,c⟩,.cons ⟨rfl,h.2⟩ q⟩
def J6(mB:List (TE×TE)):TE:=fun σ H Q=>∀p,H p=none->uZ mB σ (upd H p (.dK [])) fun ps H2=>H2 p=some (.dK [])/\∃kvs:List (Key×V),ps=kvs.map (fun kv=>(kV kv.1,kv.2))/\kvs.length<=15/\Q (.ref p) (upd H2 p (.dK (gU [] kvs)))
theorem Dq{X:Cx}{pos:Pos}{keys:List (Option Expr)}{values:List Expr}{mB:List (TE×TE)}(h:PPs X pos keys values mB)(fF:keys.all (·.isSome)=true)(hl:keys.length=values.length)(h0:keys≠[])
  (M9:keys.length<=15):PE X (.Dict keys values pos) (J6 mB):=by
 intro Zt s σ H Q I q;have hn:=I.hok.fresh (zA3 s.heap.objs.size);have I1:=I.laid (a:=s.heap.objs.size) (o:=.dK []) (h':=s.heap.push {cls:=.type "dict",data:=.dict #[]}) (t':=s.toks) (fun _ _ q=>zAy _ q) (zA3 _) (tM s.heap I.big);refine wpAny_Dict_walk (knd:=bI X.prog X.w) fF hl h0 M9 (thn (h Zt _ σ _ _ I1 (q _ hn)) fun ws s2 ⟨ps,H2,I2,rel,e,kvs,ep,lk,q2⟩=>?_);subst ep;obtain⟨rs,c,rk⟩:=mL (P:=X.prog) (w:=X.w) rel;obtain⟨z,hd,Tp,r0,dd⟩:=Fx I2.hok e;cases r0;refine⟨rs,c,dd,fun h' rf hs=>⟨.ref s.heap.objs.size,_,?_,rfl,q2⟩⟩
 have hz:(gU [] kvs).length<=sizeLine:=by
  have h1:=iI kvs [];rw[List.length_nil]at h1;rw[sizeLine_eq];lia
 have he:∃q,h'.get? s.heap.objs.size=some q:=let⟨q,_,_,hq,_⟩:=rf;⟨q,hq⟩
 exact qQ I2 (by rw[e];exact True.intro) hs he (zQ hz hd (rk.merge .nil) rf)
structure M2(X:Cx)(o:Expr)(m:Str)(apos:Pos)(e f:Expr)(ck:Pos):Prop where
 base:attributeBase o m X.env (eval o X.env)=eval o X.env
 few:((backTo ck (starEach [e,f] X.env)).all (fun x=>!x.1)&&(backToKw ck (keywordEach [] X.env)).all (fun x=>x.1.isSome)
  && decide (([e,f]:List Expr).length+([]:List Keyword).length+(if([]:List Keyword).isEmpty then 0 else 1)<30))=true
 line:(apos.endLine==ck.line)=true
 trees:backTo ck (starEach [e,f] X.env)=[(false,eval e X.env),(false,eval f X.env)]
def IsD(H:Hp)(a:Addr):Prop:=(∃kvs,Rd H a (.dK kvs))\/∃kvs,Rd H a (.dT kvs)
theorem GR{X:Cx}{Zt:List (Addr×Obj)}{σ:St}{H:Hp}{s:Shared}{a:Addr}(I:Inv X Zt σ H s)(d:IsD H a):
  s.TypeIs (.ref a) "dict"/\(∀b,Value.ref a=.ref b->∃ob,s.heap.get? b=some ob/\ob.dict=none)/\(a==sysModules)=false:=by
 rcases d with⟨kvs,e⟩|⟨kvs,e⟩
 .obtain⟨_,hd,vs,_,dd⟩:=tH I.hok e;refine⟨dd.typeIs,fun b q=>?_,hd⟩;cases q;obtain⟨ob,_,_,h1,h2,_⟩:=dd;exact⟨ob,h1,h2.2.1⟩
 .obtain⟨_,hd,xs,_,dd⟩:=tK I.hok e;refine⟨dd.typeIs,fun b q=>?_,hd⟩;cases q;obtain⟨ob,_,_,h1,h2,_⟩:=dd;exact⟨ob,h1,h2.2.1⟩
section
variable{X:Cx}{Zt:List (Addr×Obj)}{σ:St}{H:Hp}{s:Shared}{a:Addr}{y d:V}{u r:Value}{o:Option V}{A:Around}{E:Value->Shared->Prop}
theorem GX{Q:Value->Shared->Prop}(hu:A.units+1<cLine)(I:Inv X Zt σ H s)(g:DGet H a y o)(ry:RelV y u)(rd:RelV d r)(h:∀w' s',Inv X Zt σ H s'->RelV (o.getD d) w'->Q w' s'):
  wpAny (model X.prog X.w) A (call (.builtin "dict.get") [.ref a,u,r]) Q E s:=by
 rcases g with⟨kvs,k,e,ey,l⟩|⟨kvs,k,b,e,ey,eb,l⟩
 .subst ey;obtain⟨z,hd,vs,rel,dd⟩:=tH I.hok e;refine call_meetsIn PySem.F.slot_dict_get dd.typeIs PySem.F.entry_dict_get (PySem.F.args_dict_get_3 _ _ _) (meets_dict_get_default (bI X.prog X.w) a (tG ry) hd r) ⟨_,dd.mapOf,h _ _ (I.tok _) ?_⟩;rw[l];exact(rel.val k).getD rd
 .subst ey;cases(show u=Value.ref b from ry);obtain⟨z,hd,xs,rel,dd⟩:=tK I.hok e;refine call_meetsIn PySem.F.slot_dict_get dd.typeIs PySem.F.entry_dict_get (PySem.F.args_dict_get_3 _ _ _) (meetsH_dict_get_default (tupleKind (bI X.prog X.w)) a b hd r) ⟨tupleKind_room_in1 hu,k,xs,qP I.hok eb,dd,h _ _ (I.tok _) ?_⟩;rw[l];exact(rel.val k).getD rd
end
def GZ(td ty tx:TE):TE:=fun σ H Q=>td σ H fun x H1=>∃a,x=.ref a/\IsD H1 a/\ty σ H1 fun y H2=>tx σ H2 fun z H3=>∃o,DGet H3 a y o/\Q (o.getD z) H3
section
variable{X:Cx}{o e f:Expr}{apos ck:Pos}{td ty tx:TE}
theorem mO(hu:X.A.units+1<cLine)(ho:PE X o td)(he:PE X e ty)(hf:PE X f tx)(m:M2 X o "get" apos e f ck):PE X (.Call (.Attribute o "get" apos) [e,f] [] ck) (GZ td ty tx):=by
 intro Zt s σ H Q I h;refine wpAny_Call_method m.base m.few m.line PySem.F.plainAttrs_dict PySem.F.slot_dict_get PySem.F.type_dict_get (thn (ho Zt s σ H _ I h) fun u s1 ⟨x,H1,I1,rx,a,ex,d,q1⟩=>?_);subst ex;obtain rfl:u=Value.ref a:=rx;obtain⟨t1,t2,_⟩:=GR I1 d;refine⟨t1,t2,?_⟩;rw[m.trees]
 refine Calls.callWith_builtin rfl (Calls.evalArgs_plain (Calls.spliced_cons (thn (he Zt s1 σ H1 _ I1 q1) fun iv s2 ⟨y,H2,I2,ry,q2⟩=>
  Calls.spliced_cons (thn (hf Zt s2 σ H2 _ I2 q2) fun fv s3 ⟨z,H3,I3,rz,ov,g,q3⟩=>Calls.spliced_nil ?_))))
 exact GX hu I3 g ry rz fun w' s4 I4 fE=>⟨_,H3,I4,fE,q3⟩
end
section
variable{X:Cx}{Zt:List (Addr×Obj)}{σ:St}{H:Hp}{s:Shared}{a:Addr}{kvs:List (Key×V)}{A:Around}{E:Value->Shared->Prop}
end
section
variable{X:Cx}{Zt:List (Addr×Obj)}{σ:St}{H:Hp}{s:Shared}{a:Addr}{y:V}{u:Value}{A:Around}{E:Value->Shared->Prop}
end
def Kf:Key->PyData
 |.inl i=>.int i
 |.inr x=>.str x
mutual
inductive IsTh(S:Addr->Prop)(H:Hp):V->PyData->Prop
 |non:IsTh S H .non .none
 |bl (b:Bool):IsTh S H (.bl b) (.bool b)
 |int (i:Int):IsTh S H (.int i) (.int i)
 |str (x:Str):IsTh S H (.str x) (.str x)
 |lst {a:Addr} {xs:List V} {ds:List PyData} (hs:S a) (e:H a=some (.lst xs)) (r:IsThs S H xs ds):IsTh S H (.ref a) (.list ds)
 |tup {a:Addr} {xs:List V} {ds:List PyData} (e:H a=some (.tup xs)) (r:IsThs S H xs ds):IsTh S H (.ref a) (.tuple ds)
 |dct {a:Addr} {ks:List (Key×Int)} (hs:S a) (e:H a=some (.dK (ks.map fun p=>(p.1,V.int p.2)))):IsTh S H (.ref a) (.dict (ks.map fun p=>(Kf p.1,.int p.2)))
inductive IsThs(S:Addr->Prop)(H:Hp):List V->List PyData->Prop
 |nil:IsThs S H [] []
 |cons {v:V} {d:PyData} {vs:List V} {ds:List PyData} (h:IsTh S H v d) (t:IsThs S H vs ds):IsThs S H (v::vs) (d::ds)
end
section
variable{S S':Addr->Prop}{H H':Hp}
theorem IsThs.length:∀{vs:List V} {ds:List PyData},IsThs S H vs ds->vs.length=ds.length
 |_,_,.nil=>rfl
 |_,_,.cons _ t=>by rw[zAe,zAe,IsThs.length t]
theorem IsThs.get:∀{vs:List V} {ds:List PyData} {i:Nat} {v:V},IsThs S H vs ds->vs[i]?=some v->∃d,ds[i]?=some d/\IsTh S H v d
 |_,_,_,_,.nil,e=>by simp at e
 |_,_,0,_,.cons h _,e=>by simp at e;subst e;exact⟨_,rfl,h⟩
 |_,_,i+1,v,.cons _ t,e=>by
  obtain⟨d,h1,h2⟩:=IsThs.get (i:=i) (v:=v) t (by simpa using e);exact⟨d,by simpa using h1,h2⟩
theorem IsThs.append:∀{vs ws:List V} {ds es:List PyData},IsThs S H vs ds->IsThs S H ws es->IsThs S H (vs++ws) (ds++es)
 |_,_,_,_,.nil,s=>s
 |_,_,_,_,.cons h t,s=>.cons h (IsThs.append t s)
theorem IsThs.ints:∀(ns:List Int),IsThs S H (ns.map V.int) (ns.map PyData.int)
 |[]=>.nil
 |n::ns=>.cons (.int n) (IsThs.ints ns)
mutual
theorem IsTh.keep(ht:∀b xs,H b=some (.tup xs)->H' b=some (.tup xs))(hs:∀b o,S b->H b=some o->H' b=some o)(hS:∀b o,S b->H b=some o->S' b):∀{v:V} {d:PyData},IsTh S H v d->IsTh S' H' v d
 |_,_,.non=>.non
 |_,_,.bl b=>.bl b
 |_,_,.int i=>.int i
 |_,_,.str x=>.str x
 |_,_,.lst s e r=>.lst (hS _ _ s e) (hs _ _ s e) (IsThs.keep ht hs hS r)
 |_,_,.tup e r=>.tup (ht _ _ e) (IsThs.keep ht hs hS r)
 |_,_,.dct s e=>.dct (hS _ _ s e) (hs _ _ s e)
theorem IsThs.keep(ht:∀b xs,H b=some (.tup xs)->H' b=some (.tup xs))(hs:∀b o,S b->H b=some o->H' b=some o)(hS:∀b o,S b->H b=some o->S' b):∀{vs:List V} {ds:List PyData},IsThs S H vs ds->IsThs S' H' vs ds
 |_,_,.nil=>.nil
 |_,_,.cons h t=>.cons (IsTh.keep ht hs hS h) (IsThs.keep ht hs hS t)
end
def tyD:PyData->String
 |.none=>"NoneType"
 |.bool _=>"bool"
 |.int _=>"int"
 |.str _=>"str"
 |.list _=>"list"
 |.tuple _=>"tuple"
 |.dict _=>"dict"
theorem IsTh.ty{K:Frag}{v:V}{d:PyData}(h:IsTh S H v d):TyOf K H v (.type (tyD d)):=by
 cases h with
 |non=>exact .non
 |bl b=>exact .bl b
 |int i=>exact .int i
 |str x=>exact .str x
 |lst s e r=>exact .lst e
 |tup e r=>exact .tup e
 |dct s e=>exact .dK e
def qR:PyData->Bool
 |.int _=>true
 |.bool _=>true
 |_=>false
def qT:PyData->Bool
 |.bool _=>true
 |_=>false
def qU:PyData->Bool
 |.tuple _=>true
 |_=>false
theorem Ds{K:Frag}(d:PyData):PySem.W.kitOne K (.type (tyD d)) (.type "int")=some (qR d):=by
 cases d
 .exact jN
 .exact qK
 .exact tu
 .exact tD
 .exact qN
 .exact ou
 .exact qO
theorem zU{K:Frag}(d:PyData):PySem.W.kitOne K (.type (tyD d)) (.type "bool")=some (qT d):=by
 cases d
 .exact jh
 .exact nY
 .exact qL
 .exact qM
 .exact oh
 .exact mJ
 .exact oA
theorem Dt{K:Frag}(d:PyData):PySem.W.kitOne K (.type (tyD d)) (.type "tuple")=some (qU d):=by
 cases d
 .exact iK
 .exact mG
 .exact nZ
 .exact o9
 .exact mH
 .exact lz
 .exact mK
end
mutual
def sz:PyData->Nat
 |.none=>1
 |.bool _=>1
 |.int _=>1
 |.str _=>1
 |.list xs=>1+szs xs
 |.tuple xs=>1+szs xs
 |.dict kvs=>1+4*kvs.length
def szs:List PyData->Nat
 |[]=>0
 |x::xs=>sz x+szs xs
end
section
variable{prog:Program}{w:World}{A:Around}{E:Value->Shared->Prop}{s:Shared}
theorem Ha{j t:Addr}{i:Nat}{Zs:Array Value}{x:Value}{Q:Value->Shared->Prop}(hj:s.heap.IsTupleIter j t i)(ht:s.heap.IsTuple t Zs)(hx:Zs[i]?=some x)
  (hQ:∀h',h'.IsTupleIter j t (i+1)->Heap.SameBut j s.heap h'->Q x {s with heap:=h'}):wpAny (model prog w) A (Builtin.SmallTypes.nextOf (.ref j)) Q E s:=by
 obtain⟨o,ho,hc,hd⟩:=id hj;obtain⟨p,hp,_,m,hm⟩:=ht;unfold Builtin.SmallTypes.nextOf;refine wpAny_bind (wpAny_callSpecial?_slot (name:=Str.ofString "__next__") hj.typeIs F.slot_tuple_iterator_next (wpAny_call_entry F.slot_tuple_iterator_next hj.typeIs F.entry_tuple_iterator_next ?_ (F.args_tuple_iterator_next_1 _)));show wpAny _ _ (field (.ref j) 0>>=_) _ _ s;refine wpAny_bind (wpAny_field ho hd (x:=.ref t) rfl ?_);show wpAny _ _ (if(Value.ref t==Value.none)=true then _ else _) _ _ s;rw[if_neg (show¬((Value.ref t==Value.none)=true) by intro z;exact zAg z)];show wpAny _ _ (field (.ref j) 1>>=_) _ _ s;refine wpAny_bind (wpAny_field ho hd (x:=.int i 0) rfl (wpAny_bind (wpAny_seqItems hp hm ?_)));simp only[Int.toNat_natCast,hx]
 refine wpAny_bind (wpAny_setField ho hd Zy (wpAny_pure ⟨x,rfl,wpAny_pure (hQ _ ⟨_,Heap.get?_update_self _ ho (Obj.isFreed_of_fields (Obj.data_mapFields hd _)),(Obj.cls_mapFields ..).trans hc,by
  rw[Obj.data_mapFields hd]
  simp[rawInt]⟩ (Heap.SameBut.update ..))⟩))
theorem v5{j t:Addr}{i:Nat}{Zs:Array Value}{Q:Value->Shared->Prop}(hh:A.handled=none)(hj:s.heap.IsTupleIter j t i)(ht:s.heap.IsTuple t Zs)(hx:Zs[i]?=none)
  (hE:∀h' e,Heap.ExtBut j s.heap h'->(∃o,h'.get? e=some o/\o.cls=.type "StopIteration")->E (.ref e) {s with heap:=h'}):wpAny (model prog w) A (Builtin.SmallTypes.nextOf (.ref j)) Q E s:=by
 obtain⟨o,ho,hc,hd⟩:=id hj;obtain⟨p,hp,_,m,hm⟩:=ht;unfold Builtin.SmallTypes.nextOf;refine wpAny_bind (wpAny_callSpecial?_slot (name:=Str.ofString "__next__") hj.typeIs F.slot_tuple_iterator_next (wpAny_call_entry F.slot_tuple_iterator_next hj.typeIs F.entry_tuple_iterator_next ?_ (F.args_tuple_iterator_next_1 _)));show wpAny _ _ (field (.ref j) 0>>=_) _ _ s;refine wpAny_bind (wpAny_field ho hd (x:=.ref t) rfl ?_);show wpAny _ _ (if(Value.ref t==Value.none)=true then _ else _) _ _ s;rw[if_neg (show¬((Value.ref t==Value.none)=true) by intro z;exact zAg z)];show wpAny _ _ (field (.ref j) 1>>=_) _ _ s;refine wpAny_bind (wpAny_field ho hd (x:=.int i 0) rfl (wpAny_bind (wpAny_seqItems hp hm ?_)));simp only[Int.toNat_natCast,hx];refine wpAny_bind (wpAny_rule (wpAny_bind (wpAny_setField ho hd Zy ?_)));show wpAny _ _ (newExc (.type "StopIteration") []>>=_) _ _ _;refine wpAny_bind ?_;simp only[newExc,newTuple];refine wpAny_bind (wpAny_newObj_type (wpAny_bind (m:=firstArgMember _ _) (wpAny_of_eq (a:=Value.none) (by first|rfl | (simp only[firstArgMember];rfl)) (wpAny_newObj_type ?_ (by size_fits)))) (by size_fits));simp only[raiseNew];refine wpAny_bind (wpAny_handled ?_)
 first
  |rw[show A.in1.handled=none from hh]
  |rw[hh]
 exact zAt (zAz (wpAny_throw (hE _ _ (((Heap.SameBut.update ..).extBut.push _).push _) ⟨_,zB3 _ rfl,rfl⟩)))
end
section
variable{X:Cx}
end
theorem IsTh.same{S:Addr->Prop}{H H':Hp}{v:V}{d:PyData}(h:IsTh S H v d)(s:Same H H'):IsTh S H' v d:=h.keep (fun b xs e=>s b _ e) (fun b o _ e=>s b o e) fun _ _ z _=>z
theorem IsThs.same{S:Addr->Prop}{H H':Hp}{v:List V}{d:List PyData}(h:IsThs S H v d)(s:Same H H'):IsThs S H' v d:=h.keep (fun b xs e=>s b _ e) (fun b o _ e=>s b o e) fun _ _ z _=>z
theorem Same.upd{H:Hp}{D:Addr}{o:HO}(h:H D=none):Same H (upd H D o):=fun b u e=>by rw[az (aC e h)];exact e
theorem Same.updR{H H':Hp}{D:Addr}{o:HO}(s:Same H H')(h:H' D=none):Same H (L2.upd H' D o):=s.trans (Same.upd h)
theorem tQ{K:Frag}{S:Addr->Prop}{te:TE}{a:Addr}{xs:List V}{ds:List PyData}(f:PyData->Bool){eC:St}{j:Nat}{H0:Hp}{Fin:List V->Hp->Prop}(hT:H0 a=some (.tup xs))(th:IsThs S H0 xs ds)(hl:xs.length<sizeLine)
  (xC:∀v d H Q,d∈ds->Same H0 H->IsTh S H v d->(∀H',Same H H'->Q (.bl (f d)) H')->te (eC.set j (some v)) H Q)
  (fin:∀H',Same H0 H'->Fin (ds.map fun d=>V.bl (f d)) H'):kI (Itt K a) (bH j) sX te Fin eC H0:=by
 have hlen:=th.length;refine⟨fun i m ys σ H=>m=xs.length-i/\i<=xs.length/\ys=(ds.take i).map (fun d=>V.bl (f d))/\(∀o,σ.set j o=eC.set j o)/\Same H0 H,⟨_,rfl,zAp _,rfl,fun _=>rfl,Same.refl _⟩,?_⟩;rintro i m ys σ H ⟨rfl,hi,rfl,kS,hs⟩;have sq:SqT K H a xs:=SqT.of (hs _ _ hT);refine⟨by rw[zA1,zAd];lia,?_⟩;by_cases bp:i<xs.length
 .refine .inr ⟨⟨xs,xs[i],sq,by simp[bp]⟩,fun x H' y=>?_⟩;obtain⟨e,y⟩:=y;subst e;have hx:=y xs sq;obtain⟨d,hd,ht⟩:=(th.same hs).get hx;show te (σ.set j (some x)) H' _;rw[kS]
  refine xC x d H' _ (zB8 hd) hs ht fun H2 s2=>⟨xs.length-(i+1),Zz,rfl,bp,?_,fun o=>by rw[List.set_set],hs.trans s2⟩
  rw[zAj,hd];simp
 .have e:i=xs.length:=Zz
  subst e;refine .inl ⟨⟨xs,sq,zA3 _⟩,?_⟩;rw[hlen,zAm];exact fin H hs
theorem zV{ds:List PyData}{f:PyData->Bool}:ds.map (fun d=>V.bl (f d))=(ds.map f).map V.bl:=by rw[zAr];rfl
theorem Hb{ds:List PyData}{f:PyData->Bool}:(ds.map f).all id=ds.all f:=by rw[List.all_map];rfl
section
variable{X:Cx}{es:List Expr}{t:TA}{pos:Pos}
def Hf:TE:=fun _ H Q=>∀p,H p=none->p≠sysModules->Q (.ref p) (upd H p (.dK []))
theorem zW:PE X (.Dict [] [] pos) Hf:=fun Zt s σ H Q I h=>
 wpAny_Dict_empty ⟨.ref s.heap.objs.size,_,I.laid (a:=s.heap.objs.size) (o:=.dK []) (t':=s.toks) (fun _ _ q=>zAy _ q) (zA3 _) (tM s.heap I.big),rfl,h _ (I.hok.fresh (zA3 _)) (Nat.ne_of_gt I.big)⟩
end
section
variable{X:Cx}{a b c d:Expr}{ta tb tc td:TE}{pos:Pos}
def wy(r r' A2:R2)(ta tb tc td:TE):TE:=fun σ H Q=>ta σ H fun x H1=>tb σ H1 fun y H2=>r x y H2 fun z H3=>∃k,z=.bl k /\
 (if k=true then tc σ H3 fun x2 H4=>r' y x2 H4 fun z2 H5=>∃k2,z2=.bl k2/\(if k2=true then td σ H5 fun x3 H6=>A2 x2 x3 H6 Q else Q (.bl false) H5)else Q (.bl false) H3)
theorem yq{o1 o2 o3:CmpOp}{r r' A2:R2}(h1:OpR X (compareOp o1) r)(h2:OpR X (compareOp o2) r')(h3:OpR X (compareOp o3) A2)(ha:PE X a ta)(hb:PE X b tb)(hc:PE X c tc)(hd:PE X d td)
  (hm:lastMarks [o1,o2,o3] [b,c,d]=false:=by with_unfolding_all rfl):PE X (.Compare a [o1,o2,o3] [b,c,d] pos) (wy r r' A2 ta tb tc td):=by
 intro Zt s σ H Q I h
 refine Compare_chain (thn (ha Zt s σ H _ I h) fun v s1 ⟨x,H1,I1,r1,q1⟩=>chain_link (thn (hb Zt s1 σ H1 _ I1 q1) fun u s2 ⟨y,H2,I2,r2,q2⟩=>
  thn (h1 Zt s2 σ H2 x y v u _ I2 r1 r2 q2) fun g s3 ⟨z,H3,I3,r3,k,e,q3⟩=>?_)) hm
 subst e;cases r3;refine wpAny_truthy_bool ?_
 cases k with
 |false=>exact ite_ff ⟨.bl false,H3,I3,rfl,q3⟩
 |true=>
  refine ite_tt (chain_link (thn (hc Zt s3 σ H3 _ I3 q3) fun w' s4 ⟨z',H4,I4,r4,q4⟩=>thn (h2 Zt s4 σ H4 y z' u w' _ I4 r2 r4 q4) fun g2 s5 ⟨z5,H5,I5,r5,k2,e2,q5⟩=>?_));subst e2;cases r5;refine wpAny_truthy_bool ?_
  cases k2 with
  |false=>exact ite_ff ⟨.bl false,H5,I5,rfl,q5⟩
  |true=>exact ite_tt (chain_last (thn (hd Zt s5 σ H5 _ I5 q5) fun w6 s6 ⟨z6,H6,I6,r6,q6⟩=>h3 Zt s6 σ H6 z' z6 w' w6 Q I6 r4 r6 q6))
end
def Ev(σ:St)(H:Hp)(t:TE)(v:V):Prop:=∀Q:VK,Q v H->t σ H Q
section
variable{σ:St}{H:Hp}{ta tb tc td:TE}
theorem eV{v:V}:Ev σ H (tC v) v:=fun _ h=>h
theorem du{i:Nat}{v:V}(h:σ[i]?=some (some v)):Ev σ H (uM i) v:=fun _ q=>⟨v,h,q⟩
theorem bR{p q:Int->Int->Bool}{i j k:Int}(a:Ev σ H ta (.int i))(b:Ev σ H tb (.int j))(c:Ev σ H tc (.int k)):
  Ev σ H (uU (rI0 fun i j=>.bl (p i j)) (rI0 fun i j=>.bl (q i j)) ta tb tc) (.bl (p i j&&q j k)):=fun Q h=>a _ (b _ ⟨i,j,rfl,rfl,_,rfl,by
 cases e:p i j with
 |false=>
  rw[e]at h;exact bO h
 |true=>
  rw[e]at h
  exact bV (c _ ⟨j,k,rfl,rfl,h⟩)⟩)
theorem yt{p q r:Int->Int->Bool}{i j k l:Int}(a:Ev σ H ta (.int i))(b:Ev σ H tb (.int j))(c:Ev σ H tc (.int k))(d:Ev σ H td (.int l)):
  Ev σ H (wy (rI0 fun i j=>.bl (p i j)) (rI0 fun i j=>.bl (q i j)) (rI0 fun i j=>.bl (r i j)) ta tb tc td) (.bl (p i j&&(q j k&&r k l))):=fun Q h=>a _ (b _ ⟨i,j,rfl,rfl,_,rfl,by
 cases e:p i j with
 |false=>
  rw[e]at h;exact bO h
 |true=>
  rw[e]at h;refine bV (c _ ⟨j,k,rfl,rfl,_,rfl,?_⟩)
  cases e2:q j k with
  |false=>
   rw[e2]at h;exact bO h
  |true=>
   rw[e2]at h
   exact bV (d _ ⟨k,l,rfl,rfl,h⟩)⟩)
theorem gW{b c:Bool}(x:Ev σ H ta (.bl b))(y:b=true->Ev σ H tb (.bl c)):Ev σ H (Fj ta tb) (.bl (b&&c)):=fun Q h=>x _ ⟨b,rfl,by
 cases e:b with
 |false=>
  rw[e]at h;exact bO h
 |true=>
  rw[e]at h
  exact bV (y e _ h)⟩
end
structure Plain(e:Expr):Prop where
 eq:∀(es:List Expr) (env:Env),starEach (e::es) env=(false,eval e env)::starEach es env
theorem gY{c j p}:Plain (.Constant c j p):=⟨fun _ _=>rfl⟩
theorem iM{x p}:Plain (.Name x p):=⟨fun _ _=>rfl⟩
theorem gZ{es k p}:Plain (.Tuple es k p):=⟨fun _ _=>rfl⟩
theorem iQ{es p}:Plain (.List es p):=⟨fun _ _=>rfl⟩
theorem iR{ks vs p}:Plain (.Dict ks vs p):=⟨fun _ _=>rfl⟩
theorem iT{f as ks p}:Plain (.Call f as ks p):=⟨fun _ _=>rfl⟩
theorem plain_bin{a o b p}:Plain (.BinOp a o b p):=⟨fun _ _=>rfl⟩
theorem mQ{o a p}:Plain (.UnaryOp o a p):=⟨fun _ _=>rfl⟩
theorem jO{a b p}:Plain (.Subscript a b p):=⟨fun _ _=>rfl⟩
theorem iU{a b c p}:Plain (.ListComp a b c p):=⟨fun _ _=>rfl⟩
theorem jP{a b c p}:Plain (.Compare a b c p):=⟨fun _ _=>rfl⟩
section
variable{X:Cx}{e:Expr}{es:List Expr}{te:TE}{t:TA}
theorem au(ha:PE X e te)(hr:PA X es t)(hp:Plain e:=by first|exact iM|exact gY|exact iT|exact gZ|exact iQ|exact plain_bin|exact jO|exact mQ|exact iR|exact iU|exact jP):PA X (e::es) (sV te t):=
 aR ha hr (hp.eq _ _)
end
structure AA(X:Cx)(es:List Expr)(t:TA):Prop where
 run:PA X es t
section
variable{X:Cx}{e:Expr}{es:List Expr}{te:TE}{t:TA}{pos:Pos}
theorem gq:AA X [] Gv:=⟨ao⟩
theorem qW(ha:PE X e te)(hr:AA X es t)(hp:Plain e:=by first|exact iM|exact gY|exact iT|exact gZ|exact iQ|exact plain_bin|exact jO|exact mQ|exact iR|exact iU|exact jP):AA X (e::es) (sV te t):=
 ⟨aR ha hr.run (hp.eq _ _)⟩
theorem Du{x1}(h:AA X es t):PE X (.Tuple es x1 pos) (Gw t):=bW h.run
theorem wz(h:AA X es t):PE X (.List es pos) (Gx t):=cj h.run
end
inductive IsInts:List Expr->List Int->Prop
 |nil:IsInts [] []
 |cons {i:Int} {j:Nat} {p:Pos} {es:List Expr} {is:List Int}:IsInts es is->IsInts (.Constant (.int i) j p::es) (i::is)
def J7(is:List Int):TA:=fun _ H Q=>Q (is.map V.int) H
theorem ji{X:Cx}:∀{es:List Expr} {is:List Int},IsInts es is->PA X es (J7 is)
 |_,_,.nil=>fun _ _ _ _ H Q I h=>Calls.spliced_nil ⟨[],H,I,.nil,h⟩
 |_,_,@IsInts.cons i j p es is r=>by
  have h:=au (X:=X) (aB (i:=i) (j:=j) (pos:=p)) (ji r);exact h
theorem dU{X:Cx}{es:List Expr}{k:Nat}{pos:Pos}{t:TGs}{K:Frag}{n:Nat}(hK:X.K=K)(hc:X.calm=true)(h:PGs X es t)(hn:(assignEach es X.env).length=n:=by rfl)(fg:(assignEach es X.env).findIdx? (·.1)=none:=by rfl):
  PG X (.Tuple es k pos) (lq K n t):=by
 subst hK;exact bK hc h hn fg
structure BE(X:Cx)(e:Expr)(t:TE):Prop where
 run:PE X e t
section
variable{X:Cx}{e:Expr}{es:List Expr}{te:TE}{t:TA}{pos:Pos}
theorem jj(ha:BE X e te)(hr:AA X es t)(hp:Plain e:=by first|exact iM|exact gY|exact iT|exact gZ|exact iQ|exact plain_bin|exact jO|exact mQ|exact iR|exact iU|exact jP):AA X (e::es) (sV te t):=qW ha.run hr hp
theorem Fz(h:BE X e te):PE X e te:=h.run
theorem Hg{i:Int}{j}:BE X (.Constant (.int i) j pos) (tC (.int i)):=⟨aB⟩
theorem J8{b:Bool}{j}:BE X (.Constant (.bool b) j pos) (tC (.bl b)):=⟨j8⟩
theorem v6{x1}(h:AA X es t):BE X (.Tuple es x1 pos) (Gw t):=⟨bW h.run⟩
theorem v7(h:AA X es t):BE X (.List es pos) (Gx t):=⟨cj h.run⟩
end
structure BS(X:Cx)(st:Stmt)(t:TS):Prop where
 run:PS X st t
structure BSs(X:Cx)(Ct:List Stmt)(t:TS):Prop where
 run:PSs X Ct t
section
variable{X:Cx}{st:Stmt}{rest:List Stmt}{t u:TS}{pos:Pos}
theorem jk(h:BSs X rest t):PSs X rest t:=h.run
theorem aY(h1:BS X st t)(h2:BSs X rest u):BSs X (st::rest) (CZ t u):=⟨aA h1.run h2.run⟩
theorem dq(h1:BS X st t):BSs X [st] t:=⟨aD h1.run⟩
theorem v8{i:Nat}{x:Str}{e:Expr}{te:TE}{pos':Pos}(hN:X.N.Nodup)(hi:X.N[i]?=some x)(hx:Loc X.env.scope x)(he:BE X e te)(hs:swapsWith e (some (.Name x pos')) pos.line X.env=pure false:=by rfl)(hf:X.fn x=true\/X.env.scope.names.lookup x=some .local:=by first|exact .inl rfl|exact .inr rfl|assumption):
  BS X (.Assign [.Name x pos'] e pos) (yc te (bH i)):=⟨gO hN hi hx he.run hs hf⟩
theorem v9{e:Expr}{te:TE}(he:BE X e te):BS X (.Return (some e) pos) (Gr te):=⟨aQ he.run⟩
theorem FJ{op:Operator}{r:R2}{a b:Expr}{ta tb:TE}(ho:OpR X (binaryOp op) r)(ha:BE X a ta)(hb:BE X b tb):BE X (.BinOp a op b pos) (tOp r ta tb):=⟨aV ho ha.run hb.run⟩
theorem FN{r:R2}{a b:Expr}{ta tb:TE}(hr:IxR X r)(ha:BE X a ta)(hb:BE X b tb)(hs:qI b):BE X (.Subscript a b pos) (tOp r ta tb):=⟨Fv hr ha.run hb.run hs⟩
end
theorem pgn{X:Cx}{x:Str}{pos:Pos}(i:Nat)(hN:X.N.Nodup)(hi:X.N[i]?=some x:=by rfl)(hx:Loc X.env.scope x:=by exact Or.inl rfl)(hf:X.fn x=true\/X.env.scope.names.lookup x=some .local:=by first|exact .inl rfl|exact .inr rfl):PG X (.Name x pos) (bH i):=bf hN hi hx hf
theorem pss{X:Cx}{x:Str}{pos pos':Pos}{e:Expr}{te:TE}(i:Nat)(hN:X.N.Nodup)(he:PE X e te)(hi:X.N[i]?=some x:=by rfl)(hx:Loc X.env.scope x:=by exact Or.inl rfl)(hs:swapsWith e (some (.Name x pos')) pos.line X.env=pure false:=by rfl)(hf:X.fn x=true\/X.env.scope.names.lookup x=some .local:=by first|exact .inl rfl|exact .inr rfl):PS X (.Assign [.Name x pos'] e pos) (yc te (bH i)):=gO hN hi hx he hs hf
theorem lA{X:Cx}{x:Str}{pos pos':Pos}{e:Expr}{te:TE}(i:Nat)(hN:X.N.Nodup)(he:BE X e te)(hi:X.N[i]?=some x:=by rfl)(hx:Loc X.env.scope x:=by exact Or.inl rfl)(hs:swapsWith e (some (.Name x pos')) pos.line X.env=pure false:=by rfl)(hf:X.fn x=true\/X.env.scope.names.lookup x=some .local:=by first|exact .inl rfl|exact .inr rfl):BS X (.Assign [.Name x pos'] e pos) (yc te (bH i)):=v8 hN hi hx he hs hf
theorem pX{X:Cx}{r:R2}{a b:Expr}{ta tb:TE}{pos:Pos}(hr:IxR X r)(ha:PE X a ta)(hb:PE X b tb)(hs:qI b:=by exact fun _ _=>rfl):PE X (.Subscript a b pos) (tOp r ta tb):=Fv hr ha hb hs
theorem zL{n:Nat}(h:Nat.ble n 1000=true:=by rfl):n<=sizeLine:=Nat.le_trans (Nat.le_of_ble_eq_true h) Zx
theorem cI{X:Cx}{br:Env}{x:Str}{i:Nat}{N:List Str}{r:List (Option Nat)}(h:Caps X br N r)(h1:X.N[i]?=some x:=by rfl)(h2:X.env.kindOf x=some .cell:=by rfl)(h3:br.cells.lookup x=X.env.cells.lookup x:=by rfl)(h4:br.kindOf x=some .cell:=by rfl):Caps X br (x::N) (some i::r):=⟨⟨h1,.inl h2,h3,.inl h4⟩,h⟩
theorem fQS{N P:List Str}{sc:Scope}(h1:sc.kind=.function:=by rfl)(h2:sc.isCoroutine=false:=by rfl)(h3:sc.isGenerator=false:=by rfl)(h4:N.Nodup:=by decide +kernel)(h5:N.take P.length=P:=by rfl)(h6:∀x∈P,sc.names.lookup x=some .local\/sc.names.lookup x=some .cell:=by decide +kernel)(h7:∀y∈sc.names,y.2≠.free:=by decide +kernel):FnScope N P sc:=⟨h1,h2,h3,h4,h5,h6,h7⟩
section
variable{X:Cx}{es:List Expr}{t:TA}{pos:Pos}
end
section
variable{S:Addr->Prop}{σ:St}{H:Hp}
end
section
variable{D:Ends}{σ:St}{H:Hp}{t u:TS}{te:TE}{ta:TA}{g:TG}{Q:VK}
theorem cD(h:D.nx σ H):Fl D σ H:=h
theorem aG(h:t {D with nx:=u D} σ H):CZ t u D σ H:=h
theorem gr(h:∀c:St->Hp->Prop,(∀ar H',u D ar H'->c ar H')->t {D with nx:=c} σ H):CZ t u D σ H:=h (u D) fun _ _ z=>z
theorem aW(h:te σ H fun x H1=>g x σ H1 D.nx):yc te g D σ H:=h
theorem gw(h:te σ H D.rt):Gr te D σ H:=h
theorem aH{i:Nat}{v:V}{R:St->Hp->Prop}(h:R (σ.set i (some v)) H):bH i v σ H R:=h
end
end L2
namespace L2.ZT
open PySem PySem.Spec PyProof.Rows L2
def nm(t:Bool):String:=match t with|true=>"tuple_iterator"|false=>"list_iterator"
def tn(t:Bool):String:=match t with|true=>"tuple"|false=>"list"
def Io(t:Bool)(h:Heap)(a l:Addr)(i:Nat):Prop:=∃o,h.get? a=some o/\o.cls=.type (nm t)/\o.data=.fields #[.ref l,.int i 0]
def Sq(t:Bool)(h:Heap)(a:Addr)(items:Array Value):Prop:=∃o,h.get? a=some o/\o.cls=.type (tn t)/\∃n,o.data=.seq items n
def SQ(t:Bool)(K:Frag)(H:Hp)(a:Addr)(xs:List V):Prop:=match t with|true=>SqT K H a xs|false=>SqL K H a xs
theorem Io.at{t:Bool}{h h':Heap}{a l:Addr}{i:Nat}(x:Io t h a l i)(e:∀o,h.get? a=some o->h'.get? a=some o):Io t h' a l i:=let⟨o,ho,r⟩:=x;⟨o,e _ ho,r⟩
theorem Io.extBut{t:Bool}{h h':Heap}{a b l:Addr}{i:Nat}(x:Io t h a l i)(e:Heap.ExtBut b h h')(n:a≠b):Io t h' a l i:=x.at fun o q=>e _ _ n q
theorem Sq.at{t:Bool}{h h':Heap}{a:Addr}{xs:Array Value}(x:Sq t h a xs)(e:∀o,h.get? a=some o->h'.get? a=some o):Sq t h' a xs:=let⟨o,ho,r⟩:=x;⟨o,e _ ho,r⟩
theorem Sq.extBut{t:Bool}{h h':Heap}{a b:Addr}{xs:Array Value}(x:Sq t h a xs)(e:Heap.ExtBut b h h')(n:a≠b):Sq t h' a xs:=x.at fun o q=>e _ _ n q
theorem kJ{t:Bool}{X:Cx}{Zt:List (Addr×Obj)}{σ:St}{H:Hp}{s:Shared}{a:Addr}{xs:List V}(I:Inv X Zt σ H s)(h:SQ t X.K H a xs):∃Zs:List Value,Vals xs Zs/\Sq t s.heap a Zs.toArray/\xs.length<=sizeLine:=by
 cases t
 .obtain⟨Zs,r,p,z⟩:=I.list h;exact⟨Zs,r,p.isList,z⟩
 .exact I.tuple h
theorem vd{t:Bool}{X:Cx}{Zt:List (Addr×Obj)}{σ:St}{H:Hp}{s:Shared}{a:Addr}{xs ys:List V}(I:Inv X Zt σ H s)(h:SQ t X.K H a xs)(h':SQ t X.K H a ys):xs=ys:=by
 cases t
 .exact I.list_inj h h'
 .exact I.tuple_inj h h'
section
variable{prog:Program}{w:World}{A:Around}{E:Value->Shared->Prop}{s:Shared}
theorem nx{t:Bool}{j l:Addr}{i:Nat}{Zs:Array Value}{x:Value}{Q:Value->Shared->Prop}(hj:Io t s.heap j l i)(ht:Sq t s.heap l Zs)(hx:Zs[i]?=some x)
  (hQ:∀h',Io t h' j l (i+1)->Heap.SameBut j s.heap h'->Q x {s with heap:=h'}):wpAny (model prog w) A (Builtin.SmallTypes.nextOf (.ref j)) Q E s:=by
 cases t
 .exact wpAny_nextOf_list_item hj ht hx hQ
 .exact Ha hj ht hx hQ
theorem vf{t:Bool}{j l:Addr}{i:Nat}{Zs:Array Value}{Q:Value->Shared->Prop}(hh:A.handled=none)(hj:Io t s.heap j l i)(ht:Sq t s.heap l Zs)(hx:Zs[i]?=none)
  (hE:∀h' e,Heap.ExtBut j s.heap h'->(∃o,h'.get? e=some o/\o.cls=.type "StopIteration")->E (.ref e) {s with heap:=h'}):wpAny (model prog w) A (Builtin.SmallTypes.nextOf (.ref j)) Q E s:=by
 cases t
 .exact wpAny_nextOf_list_end hh hj ht hx hE
 .exact v5 hh hj ht hx hE
theorem mR{t:Bool}{l:Addr}{Zs:Array Value}{Q:Value->Shared->Prop}(hl:Sq t s.heap l Zs)
  (hQ:Q (.ref s.heap.objs.size) {s with heap:=s.heap.push {cls:=.type (nm t),data:=.fields #[.ref l,.int 0 0]}}):wpAny (model prog w) A (pyIter (.ref l)) Q E s:=by
 cases t
 .exact wpAny_pyIter_list hl hQ
 .exact wpAny_pyIter_tuple hl hQ
end
theorem draws{t:Bool}{prog:Program}{w:World}{A:Around}(hh:A.handled=none)(it a:Addr)(fI:a≠it)(Zs:Array Value):
  Draws prog w A it [it,a] Zs.size (fun i v=>Zs[i]?=some v) (fun i h=>Io t h it a i/\Sq t h a Zs) where
 live:=fun _ _ st=>let⟨o,ho,_⟩:=st.1;⟨o,ho⟩
 frame:=fun _ _ _ st hk=>⟨st.1.at fun o e=>hk it Zy o e,st.2.at fun o e=>hk a Zy o e⟩
 item:=fun i s Q E hi st hQ=>nx st.1 st.2 (x:=Zs[i]) (by simp[hi]) fun h' h1 h2=>hQ _ h' s.toks (by simp[hi]) ⟨h1,st.2.extBut h2.extBut fI⟩ h2
 done:=fun s Q E st hE=>vf hh st.1 st.2 Zy hE
abbrev eA(t0:Bool)(h:Heap)(t:Addr):Heap:=h.push {cls:=.type (nm t0),data:=.fields #[.ref t,.int 0 0]}
theorem mU{t0:Bool}(t:Addr)(Zs:Array Value):
  Meets (Builtin.«enumerate.__new__» ⟨[.type "enumerate",.ref t],[]⟩) (fun _ R s=>Sq t0 s.heap t Zs /\
   R (.ok (.ret (.ref (eA t0 s.heap t).objs.size))) {s with heap:=(eA t0 s.heap t).push {cls:=.type "enumerate",data:=.fields #[.none,.bool false,.ref s.heap.objs.size,rawInt 0,.none,.none]}}):=
 .of_wp fun prog w A R s h=>by
  obtain⟨hp,g,d,tk,os⟩:=s;obtain⟨ht,h⟩:=h;have C7:=sub_enumerate;have hT:Sq t0 (Shared.heap ⟨hp,g,d,tk,os⟩) t Zs:=ht
  wp_walk
  refine wpAny_stack_any fun st=>zAz ?_;split
  .rename_i c _ _ _ _ _
   cases(c==Value.type "enumerate")
   .wp_walk using mR hT
    exact⟨_,rfl,h⟩
   .wp_walk using mR hT
    exact⟨_,rfl,h⟩
  .wp_walk using mR hT
   exact⟨_,rfl,h⟩
theorem oE{t0:Bool}{prog:Program}{w:World}{A:Around}{E:Value->Shared->Prop}{s:Shared}{t:Addr}{Zs:Array Value}{Q:Value->Shared->Prop}(ht:Sq t0 s.heap t Zs)
  (h:∀h',IsEnum h' (s.heap.objs.size+1) s.heap.objs.size 0 .none->Io t0 h' s.heap.objs.size t 0->(∀c o,s.heap.get? c=some o->h'.get? c=some o)->Q (.ref (s.heap.objs.size+1)) {s with heap:=h'}):
  wpAny (model prog w) A (call (.type "enumerate") [.ref t]) Q E s:=by
 refine callType_new F.called_enumerate Zx (F.typeCall_enumerate_1 _) (F.newCall_enumerate_1 _) (fun obj=>F.args_object_init_2 obj _) F.entry_enumerate_new (mU t Zs) ⟨ht,?_⟩;have e1:(eA t0 s.heap t).objs.size=s.heap.objs.size+1:=Heap.size_push ..;have g2:=zB3 (eA t0 s.heap t) (o:={cls:=.type "enumerate",data:=.fields #[.none,.bool false,.ref s.heap.objs.size,rawInt 0,.none,.none]}) rfl;have g1:=zAy {cls:=.type "enumerate",data:=.fields #[.none,.bool false,.ref s.heap.objs.size,rawInt 0,.none,.none]} (zB3 s.heap (o:={cls:=.type (nm t0),data:=.fields #[.ref t,.int 0 0]}) rfl);show _/\_;rw[e1]at g2⊢;exact⟨⟨_,g2,rfl⟩,h _ g2 ⟨_,g1,rfl,rfl⟩ fun c o x=>zAy _ (zAy _ x)⟩
def Ite(t0:Bool)(K:Frag)(a:Addr):It:=
 ⟨fun i H=>∃xs x,SQ t0 K H a xs/\xs[i]?=some x,
  fun i H v H'=>∃T,H T=none/\v=.ref T/\∀xs,SQ t0 K H a xs->∃x,xs[i]?=some x/\H'=upd H T (.tup [.int i,x]),
  fun i H=>∃xs,SQ t0 K H a xs/\xs.length<=i⟩
def tne(t0:Bool)(e it a:Addr)(i:Nat)(h:Heap):Prop:=(∃old,IsEnum h e it i old)/\Io t0 h it a i
theorem yu{t0:Bool}{P:Program}{w:World}{K:Frag}{es:List Expr}{k:Nat}{pos:Pos}{e it a:Addr}(C8:e≠it)(Na:e≠a)(Nb:a≠it):
  Turn P w K (.Tuple es k pos) (Ite t0 K a) [e,it] e (tne t0 e it a) where
 mem:=by simp
 obj:=fun i h st c hc=>by
  obtain⟨⟨old,s1⟩,⟨o4,s4,c4,d4⟩⟩:=st;simp only[List.mem_cons,List.not_mem_nil,or_false]at hc;rcases hc with z|z<;>subst z
  .exact⟨_,s1,fun v q=>by cases q⟩
  .exact⟨_,s4,fun v q=>by rw[d4]at q;cases q⟩
 keep:=fun i h h' st kp=>by
  obtain⟨⟨old,s1⟩,s4⟩:=st;exact⟨⟨old,kp e Zy _ s1⟩,s4.at fun o z=>kp it Zy o z⟩
 item:=by
  intro X hP hw hK hc i Zt s σ H E I hf st hg;subst hP hw hK;obtain⟨⟨old,s1⟩,s4⟩:=st;obtain⟨xs,x,mE,hx⟩:=hg;obtain⟨Zs,rv,p,_⟩:=kJ I mE;obtain⟨ux,A3,rx⟩:=rv.get hx
  have bp:i<Zs.toArray.size:=by
   have:=(zAa.mp A3).1;simpa using this
  have D:=draws (t:=t0) (prog:=X.prog) (w:=X.w) (A:=X.A.in1) (I.ok.hd hc) it a Nb Zs.toArray;refine wpAny_pyNext_enum_itemD D s1 ⟨s4,p⟩ bp C8 (by simp[C8,Na]) fun u h1 tk hu g1 g3 g5 g6 kp=>?_
  have eu:u=ux:=by
   have hu:Zs.toArray[i]?=some u:=hu;rw[List.getElem?_toArray,A3]at hu;exact(zAl hu).symm
  subst eu;refine⟨_,rfl,?_⟩;refine wpAny_letOwnedTupleGo_enum g1 fun h2 e1 sb=>?_
  have live:∀c,c∈[e,it]->∃o,s.heap.get? c=some o:=fun c bq=>by
   simp only[List.mem_cons,List.not_mem_nil,or_false]at bq;rcases bq with q|q<;>subst q
   .exact⟨_,s1⟩
   .exact let⟨o,h,_⟩:=s4;⟨o,h⟩
  have ne:∀c,c∈[e,it]->c≠s.heap.objs.size:=fun c bq z=>by
   obtain⟨o,ho⟩:=live c bq;exact absurd (zB1 ho) (by rw[z];exact Nat.lt_irrefl _)
  have hT:H s.heap.objs.size=none:=I.hok.fresh (zA3 _)
  have kept:∀c o,c∉[e,it]->s.heap.get? c=some o->h2.get? c=some o:=fun c o bq z=>
   sb.extBut _ _ (fun q=>bq (by simp[q])) (kp c o (fun q=>bq (by simp[q])) (fun q=>bq (by simp[q])) z)
  have trk:∀c o,H c=some o->c∉[e,it]:=fun c o z bq=>by
   have:=(hf c bq).1;rw[z]at this;cases this
  have rg:h2.get? s.heap.objs.size=some {cls:=.type "tuple",data:=.seq #[.int i tk,u]}:=sb.extBut _ _ (Ne.symm (ne e Zy)) g5
  have rh:HOk X.prog X.w (upd H s.heap.objs.size (.tup [.int i,x])) h2:=fun c o z=>by
   by_cases hb:c=s.heap.objs.size
   .subst hb;rw[aj]at z;cases z;exact⟨by show 2<=sizeLine;decide,[.int i tk,u],.cons ⟨tk,rfl⟩ (.cons rx .nil),_,rg,rfl,_,rfl⟩
   .rw[az hb]at z
    refine(I.hok c o z).stay (fun d v hd q=>kept d v ?_ q) (fun d q=>by rw[az (aC q hT)];exact q) fun d l q=>by rw[az (aC q hT)];exact q
    rcases hd with e'|e'
    .rw[e'];exact trk c o z
    .exact trk d _ e'
  have I2:Inv X Zt σ (upd H s.heap.objs.size (.tup [.int i,x])) {s with heap:=h2,toks:=tk+1}:=by
   refine I.step (g':=s.gens) (d':=s.drawn) (t':=tk+1) (ch:=[e,it]) (fun c bq=>?_) (fun c o _ _ hn z _=>kept c o hn z) (fun c o _ _ hn z _=>⟨o.slots,kept c o hn z⟩)
    (fun c o _ z n=>by rw[az (zB7 (zB1 z))];exact n) (fun c o hn z=>⟨o,kept c o hn z⟩) (fun c l z=>by rw[az (aC z hT)];exact z) (fun c o l z=>by rw[az (aC z hT)];exact z)
    (fun c l z=>⟨#[],by rw[az (aC z hT),z];simp⟩) (fun m hm=>?_) rh I.bare
   .obtain⟨f0,f1,f2,f3,f4,f5⟩:=hf c bq;exact⟨f3,f1,f4,f5⟩
   .obtain⟨o,gX,ep,ho,r⟩:=hm;refine⟨o,gX,ep,kept _ o (fun bq=>?_) ho,r⟩;exact(hf _ bq).2.1 rfl
  refine⟨.ref s.heap.objs.size,_,I2,rfl,⟨s.heap.objs.size,hT,rfl,fun Nd tf=>⟨x,?_,rfl⟩⟩,⟨⟨u,?_⟩,?_⟩,fun c bq=>?_⟩
  .rw[vd I tf mE];exact hx
  .have:=e1;rw[show(((i+1:Nat):Int))=(i:Int)+1 by lia];exact this
  .exact g3.1.extBut sb.extBut C8.symm
  .rw[az (ne c bq)];exact(hf c bq).1
 done:=by
  intro X hP hw hK hc i Zt s σ H E I hf st hg;subst hP hw hK;obtain⟨⟨old,s1⟩,s4⟩:=st;obtain⟨xs,mE,hlen⟩:=hg;obtain⟨Zs,rv,p,_⟩:=kJ I mE;have hl:=rv.length
  have hT:s.TypeIs (.ref e) "enumerate":=⟨_,s1,rfl⟩
  have fin:∀h',Heap.ExtBut it s.heap h'->Inv X Zt σ H {s with heap:=h'}:=fun h' kp=>by
   obtain⟨f0,f1,f2,f3,f4,f5⟩:=hf it Zy;exact I.turned (t':=s.toks) (fun b o hb z=>kp b o hb z) f0 f1 f3 f4 f5
  unfold pyNext;refine wpAny_bind (wpAny_attempt (wpAny_callSpecial?_slot (name:=Str.ofString "__next__") hT F.slot_enumerate_next (wpAny_call_entry F.slot_enumerate_next hT F.entry_enumerate_next ?_ (F.args_enumerate_next_1 _))));show wpAny _ _ (field (.ref e) 2>>=_) _ _ _;refine wpAny_bind (wpAny_field s1 rfl (x:=.ref it) rfl ?_);refine wpAny_bind (vf (I.ok.hd hc) s4 p (by simp;lia) fun h' x me ko=>?_);obtain⟨o,ho,Nf⟩:=ko;refine wpAny_bind (wpAny_isInstance (T:="StopIteration") (b:=true) ⟨o,ho,Nf⟩ isSubtype_stop (wpAny_pure ⟨rfl,fin h' me⟩))
 self:=fun _ _ _ _ _ st h=>wpAny_pyIter_enum st.1.choose_spec h
section
variable{X:Cx}
def J9(t0:Bool)(K:Frag)(t:TA):TI:=fun σ H R=>t σ H fun vs H1=>∃a xs,vs=[.ref a]/\SQ t0 K H1 a xs/\R (Ite t0 K a) H1
theorem pi_enum(t0:Bool){es:List Expr}{k:Nat}{tp:Pos}{a:Expr}{ta:TA}{p pos:Pos}(hg:Gl X "enumerate")(hm:X.mg "enumerate"=none)(ha:PA X [a] ta)(hs:starEach [a] X.env=[(false,eval a X.env)]:=by rfl):
  PI X (.Tuple es k tp) (.Call (.Name "enumerate" p) [a] [] pos) (J9 t0 X.K ta):=by
 intro Zt s σ H R I h;refine Call_ (gK I hg hm boot_enumerate (PyProof.Rows.callWith_type1 (thn (ha pos Zt s σ H _ I h) fun us s1 ⟨vs,H1,I1,r1,q1⟩=>?_) hs rfl));obtain⟨x,xs,e,hx,q⟩:=q1;subst e;obtain⟨u,rfl,ru⟩:=vals1 r1;cases ru;obtain⟨Zs,_,p1,_⟩:=kJ I1 hx;refine oE p1 fun h' z1 z4 kp=>?_;refine wpAny_pyIter_enum z1 ?_;have lx:x<s1.heap.objs.size:=by obtain⟨_,e,_⟩:=p1;exact zB1 e
 refine⟨_,_,_,_,H1,rfl,I1.kept (t':=s1.toks) kp,yu (e:=s1.heap.objs.size+1) (it:=s1.heap.objs.size) (a:=x) (Nat.succ_ne_self _) (Nat.ne_of_gt (Nat.lt_succ_of_lt lx)) (zB7 lx),⟨⟨_,z1⟩,z4⟩,fun c hc=>?_,q⟩
 have hle:s1.heap.objs.size<=c:=by
  simp only[List.mem_cons,List.not_mem_nil,or_false]at hc;rcases hc with q|q<;>subst q
  .exact Nat.le_add_right _ 1
  .exact zA3 _
 exact I1.fpOk hle (I1.hok.fresh hle)
end
theorem for_enum(t0:Bool){K:Frag}{a:Addr}{xs:List V}{g:TG}{tb:TS}{D:Ends}{σ:St}{H:Hp}(Pv:Nat->St->Hp->Prop)(h0:Pv 0 σ H)(hl:∀i σ H,i<=xs.length->Pv i σ H->SQ t0 K H a xs)
  (hs:∀i x σ H T,xs[i]?=some x->Pv i σ H->H T=none->g (.ref T) σ (upd H T (.tup [.int i,x])) fun aS H2=>tb {D with nx:=Pv (i+1),ct:=Pv (i+1),bk:=D.nx} aS H2) (hd:∀σ H,Pv xs.length σ H->D.nx σ H):
  ∃W:Nat->Nat->St->Hp->Prop,(∃m,W 0 m σ H)/\∀i m σ H,W i m σ H->
   ((Ite t0 K a).stop i H/\D.nx σ H)\/((Ite t0 K a).go i H/\∃N:St->Hp->Prop,(∀ar H',N ar H'->∃m',m'<m/\W (i+1) m' ar H')/\∀x H',(Ite t0 K a).yld i H x H'->g x σ H' fun aS H2=>tb {D with nx:=N,ct:=N,bk:=D.nx} aS H2):=by
 refine⟨fun i m σ H=>m=xs.length-i/\i<=xs.length/\Pv i σ H,⟨xs.length,by simp,Nat.zero_le _,h0⟩,?_⟩;rintro i m σ H ⟨rfl,hi,p⟩;have q:=hl i σ H hi p;by_cases bp:i<xs.length
 .refine .inr ⟨⟨xs,xs[i],q,by simp[bp]⟩,Pv (i+1),fun ar H' p'=>⟨xs.length-(i+1),Zz,rfl,bp,p'⟩,fun x H' y=>?_⟩;obtain⟨T,nT,rfl,y⟩:=y;obtain⟨x,ex,rfl⟩:=y xs q;exact hs i x σ H T ex p nT
 .have e:i=xs.length:=Zz
  subst e;exact .inl ⟨⟨xs,q,zA3 _⟩,hd σ H p⟩
end L2.ZT
namespace L2
open PySem PySem.Spec PyProof.Rows
section
variable{X:Cx}
theorem oF(hc:X.calm=true):dJ X (.builtin "min") (fun xs H Q=>∃(p:Addr) (ns:List Int),xs=[.ref p]/\SqL X.K H p (ns.map V.int)/\ns≠[]/\∀M,M∈ns->(∀a∈ns,M<=a)->Q (.int M) H):=by
 intro Zt s σ H xs us Q I r h;obtain⟨p,ns,rfl,hq,fI,q⟩:=h;obtain⟨u,rfl,ru⟩:=vals1 r;cases ru;obtain⟨Zs,rv,pl,hz⟩:=I.list hq;have hi:IntsAre Zs ns:=intsAre_of rv;obtain⟨zs,ez⟩:=(hi.allInts:AllInts Zs.toArray).items;have en:numsOf Zs=ns:=hi.numsOf;have hl:s.heap.IsList p (intItems zs):=ez▸pl.isList
 have bo:0<zs.size:=by
  have e1:(intItems zs).size=Zs.length:=by rw[<-ez,zA8]
  have e2:=rv.length;rw[zA1]at e2;have e3:0<ns.length:=List.length_pos_iff.mpr fI;simp only[intItems,Array.size_map]at e1;lia
 have hn:numsOf (intItems zs).toList=ns:=by rw[<-ez];exact en
 refine min_intList (I.ok.hd hc) hl bo fun v h' tk hv hk=>?_;obtain⟨t,rfl⟩:=intItems_at hv;obtain⟨h1,h2⟩:=argBest_lt (numAt zs) (zs.size-1);rw[nums_intItems]at hn;refine⟨.int _,H,I.kept (t':=tk) hk,⟨t,rfl⟩,q _ ?_ fun a ha=>?_⟩
 .rw[<-hn,numAt_eq];exact getD_mem (by rw[zA1,zA9];lia)
 .rw[<-hn]at ha;obtain⟨j,hj,rfl⟩:=mem_getD ha;rw[zA1,zA9]at hj;rw[<-numAt_eq];exact h2 j Zz
inductive RCatT0I(K:Frag)(x:V)(y:V)(H:Hp)(Q:VK):Prop
 |mk:∀a b ys,(x=.ref a)->(y=.ref b)->(SqT K H a [])->(SqT K H b ys)->(Q (.ref b) H)->RCatT0I K x y H Q
def Hh(K:Frag):R2:=fun x y H Q=>RCatT0I K x y H Q
open Builtin in
theorem zZ(l b:Addr)(Zs:Array Value)(n m:Nat)(dd sQ:Option Addr)(sl qv:Array (Option Value)):
  Meets (Builtin.«tuple.__add__» ⟨[.ref l,.ref b],[]⟩) (fun _ R s=>s.heap.get? l=some {cls:=.type "tuple",dict:=dd,data:=.seq #[] n,slots:=sl}/\s.heap.get? b=some {cls:=.type "tuple",dict:=sQ,data:=.seq Zs m,slots:=qv}/\R (.ok (.ret (.ref b))) s):=by
 refine .of_wp fun prog w A R s h=>?_;obtain⟨hp,g,d,tk,os⟩:=s;obtain⟨hl,hb,h⟩:=h;have f2:=PySem.AutoSeq1.sub_tuple_tuple
 wp_walk
 exact⟨_,rfl,h⟩
theorem Aa:OpR X (binaryOp .Add) (Hh X.K):=by
 intro Zt s σ H x y v u Q I rx ry h;obtain⟨a,b,ys,rfl,rfl,ha,hb,q⟩:=h;cases rx;cases ry;obtain⟨Zs,r1,p1,_⟩:=I.tuple ha;obtain⟨bS,r2,p2,_⟩:=I.tuple hb;have e:Zs=[]:=r1.zero;subst e;obtain⟨⟨cls,dd,data,sl⟩,ho,hc,n,hd⟩:=id p1;obtain⟨⟨CB,sQ,data2,qv⟩,mv,wb,n2,hd2⟩:=id p2;simp only at hc hd wb hd2;subst hc hd wb hd2;exact concat_meets ⟨_,ho,rfl⟩ ⟨_,mv,rfl⟩ noFill_tuple_add seq_tuple_add PySem.F.slot_tuple_add PySem.F.entry_tuple_add (PySem.F.args_tuple_add_2 _ _) (zZ a b bS.toArray n n2 dd sQ sl qv) ⟨ho,mv,.ref b,H,I,rfl,q⟩
theorem Ab:OpR X (binaryOp .Add) (fun x y H Q=>∃a b xs ys,x=.ref a/\y=.ref b/\SqT X.K H a xs/\SqT X.K H b ys/\ys≠[]/\xs.length+ys.length<=sizeLine/\(xs=[]->Q (.ref b) H)/\(xs≠[]->∀p,H p=none->Q (.ref p) (upd H p (.tup (xs++ys))))):=by
 intro Zt s σ H x y v u Q I rx ry h;obtain⟨a,b,xs,ys,rfl,rfl,ha,hb,hy,hz,q1,q2⟩:=h;by_cases hx:xs=[]
 .subst hx;exact Aa Zt s σ H _ _ v u Q I rx ry ⟨a,b,ys,rfl,rfl,ha,hb,q1 rfl⟩
 .exact Dj Zt s σ H _ _ v u Q I rx ry ⟨a,b,xs,ys,rfl,rfl,ha,hb,hx,hz,fun z=>absurd z hy,fun _=>q2 hx⟩
end
section
variable{prog:Program}{w:World}{A:Around}{E:Value->Shared->Prop}{s:Shared}
open HT in
theorem jl{t sl:Addr}{items:Array Value}{vl vu:Value}{lo hi:Option Int}{Q:Value->Shared->Prop}(ht:IsTup s.heap t items)(hs:s.heap.IsSliceOf sl vl vu .none)(pl:IsPart vl lo)(pu:IsPart vu hi)
  (h1:sIx items.size 0 lo=0) (h2:sIx items.size items.size hi=items.size) (h:Q (.ref t) s):wpAny (model prog w) A (getItem (.ref t) (.ref sl)) Q E s:=by
 obtain⟨os,qA,AZ,wc⟩:=id hs
 have CC:s.TypeIs (.ref sl) "slice":=⟨os,qA,AZ⟩
 unfold getItem
 try with_reducible refine wpAny_holding ?_
 first|refine zAt (zAz ?_)|skip
 refine zAt (wpAny_sequenceKey ht.typeIs Zx ?_)
 refine zAt (wpAny_callSpecial?_slot (name:=Str.ofString "__getitem__") ht.typeIs PyProof.Rows.slot_tuple_getitem
  (wpAny_call_entry PyProof.Rows.slot_tuple_getitem ht.typeIs entry_tuple_getitem ?_ (args_tuple_getitem _ _)))
 show wpAny _ _ (Builtin.Tuple.tupleItemsOf (.ref t)>>=_) _ _ s;refine wpAny_bind (tupleItemsOf_ ht ?_);refine wpAny_bind (wpAny_typeOf CC ?_);rw[if_pos Zx];refine wpAny_bind (fY hs pl pu ?_);rw[h1,h2];show wpAny _ _ (if((((0:Nat):Int))==0&&(1:Int)==1&&(items.size-0)==items.size)=true then _ else _) _ _ s;rw[if_pos Zy];unfold Builtin.Tuple.tupleIsExact;refine wpAny_bind (wpAny_bind (wpAny_typeOf ht.typeIs (wpAny_pure ?_)));rw[if_pos Zx];exact wpAny_bind (wpAny_rule (wpAny_pure ⟨_,rfl,wpAny_pure h⟩))
end
section
variable{X:Cx}
inductive RSlWI(K:Frag)(x:V)(lo:Option Int)(hi:Option Int)(H:Hp)(Q:VK):Prop
 |mk:∀a xs,(x=.ref a)->(SqT K H a xs)->(((HT.sIx xs.length 0 lo=0/\HT.sIx xs.length xs.length hi=xs.length)->Q (.ref a) H))->((¬(HT.sIx xs.length 0 lo=0/\HT.sIx xs.length xs.length hi=xs.length)->∀p,H p=none->Q (.ref p) (upd H p (.tup (jb xs lo hi)))))->RSlWI K x lo hi H Q
def Kg(K:Frag):V->Option Int->Option Int->Hp->VK->Prop:=fun x lo hi H Q=>RSlWI K x lo hi H Q
theorem wA:SlR X (Kg X.K):=by
 intro Zt s σ H x v vl vu lo hi sl Q I rx hs pl pu h;obtain⟨a,xs,rfl,hx,q1,q2⟩:=h;by_cases hw:HT.sIx xs.length 0 lo=0/\HT.sIx xs.length xs.length hi=xs.length
 .cases rx;obtain⟨Zs,r,ht,hz⟩:=I.tuple hx;have hlen:Zs.toArray.size=xs.length:=by rw[zA8];exact r.length.symm
  refine⟨"tuple",_,PyProof.Rows.slot_tuple_getitem.lookup,ht.typeIs,?_⟩;exact jl ht hs pl pu (by rw[hlen];exact hw.1) (by rw[hlen];exact hw.2) ⟨.ref a,H,I,rfl,q1 hw⟩
 .exact GC Zt s σ H _ v vl vu lo hi sl Q I rx hs pl pu ⟨a,xs,rfl,hx,hw,q2 hw⟩
end
section
variable{prog:Program}{w:World}{A:Around}{E:Value->Shared->Prop}{s:Shared}
end
section
variable{X:Cx}{e:Expr}{te:TE}{pos p2 p3 p4:Pos}{j:Nat}
end
end L2
namespace L2.ZT
open PySem PySem.Spec PyProof.Rows L2
section
variable{prog:Program}{w:World}{A:Around}{E:Value->Shared->Prop}{s:Shared}
theorem tR{t1 t2:Bool}{z TI TO i1 i2 l1 l2:Addr}{k:Nat}{xs ys:Array Value}{x y a b:Value}{Q:Option Value->Shared->Prop}(D:ZipApart z TI TO i1 i2 l1 l2)
  (hz:IsZip s.heap z TI TO .none) (C9:IsPair s.heap TI (.ref i1) (.ref i2)) (IX:IsPair s.heap TO a b)
  (h1:Io t1 s.heap i1 l1 k) (h2:Io t2 s.heap i2 l2 k) (fN:Sq t1 s.heap l1 xs) (iS:Sq t2 s.heap l2 ys) (hx:xs[k]?=some x) (hy:ys[k]?=some y)
  (hQ:∀h',IsZip h' z TI TO (rawInt s.heap.objs.size)->IsPair h' TO x y->Io t1 h' i1 l1 (k+1)->Io t2 h' i2 l2 (k+1)->IsPair h' s.heap.objs.size x y->h'.objs.size=s.heap.objs.size+1->
   (∀c o,c≠z->c≠TO->c≠i1->c≠i2->s.heap.get? c=some o->h'.get? c=some o)->Q (some (.ref s.heap.objs.size)) {s with heap:=h'}):
  wpAny (model prog w) A (pyNext (.ref z)) Q E s:=by
 have hT:s.TypeIs (.ref z) "zip":=⟨_,hz,rfl⟩
 unfold pyNext;refine wpAny_bind (wpAny_attempt (wpAny_callSpecial?_slot (name:=Str.ofString "__next__") hT F.slot_zip_next (wpAny_call_entry F.slot_zip_next hT F.entry_zip_next ?_ (F.args_zip_next_1 _))));show wpAny _ _ (field (.ref z) 2>>=_) _ _ _;refine wpAny_bind (wpAny_field hz rfl (x:=.bool false) rfl ?_);show wpAny _ _ (field (.ref z) 3>>=_) _ _ _;refine wpAny_bind (wpAny_field hz rfl (x:=.ref TI) rfl (wpAny_bind (wpAny_seqItems C9 rfl ?_)));show wpAny _ _ (Builtin.SmallTypes.ownedTupleIsFree (.ref z)>>=_) _ _ _;refine wpAny_bind ?_;unfold Builtin.SmallTypes.ownedTupleIsFree;refine wpAny_bind (wpAny_field hz rfl (x:=.none) rfl (wpAny_pure ?_));simp only[if_true];refine wpAny_bind (wpAny_rule (wpAny_bind (wpAny_field hz rfl (x:=.ref TO) rfl (wpAny_bind (wpAny_setField_rec hz Zy fun g1 z1 s1=>?_)))))
 replace z1:IsZip g1 z TI TO .ellipsis:=z1
 refine wpAny_bind ?_;simp only[List.zipIdx_cons,List.zipIdx_nil,List.forIn_cons,List.forIn_nil];refine wpAny_bind (wpAny_bind (wpAny_onRaise ?_));show wpAny _ _ (Builtin.SmallTypes.nextOf (.ref i1)>>=_) _ _ _;refine wpAny_bind (nx (h1.extBut s1.extBut D.i1z) (fN.extBut s1.extBut D.l1z) hx fun g2 q1 s2=>wpAny_pure ?_);have o2:IsPair g2 TO a b:=s2.extBut _ _ D.TOi1 (s1.extBut _ _ D.TOz IX);refine wpAny_bind (wpAny_seqItems o2 rfl (wpAny_bind (wpAny_updateSeq_pair o2 fun g3 o3 s3=>?_)))
 replace o3:IsPair g3 TO x b:=o3
 refine zAt (wpAny_letGo (zAz (zAt (zAt (wpAny_onRaise ?_)))));show wpAny _ _ (Builtin.SmallTypes.nextOf (.ref i2)>>=_) _ _ _;refine zAt (nx (((h2.extBut s1.extBut D.i2z).extBut s2.extBut D.i12.symm).extBut s3.extBut D.TOi2.symm) (((iS.extBut s1.extBut D.l2z).extBut s2.extBut D.l2i1).extBut s3.extBut D.l2TO) hy fun g4 q2 s4=>zAz ?_);have o4:IsPair g4 TO x b:=s4.extBut _ _ D.TOi2 o3;refine zAt (wpAny_seqItems o4 rfl (zAt (wpAny_updateSeq_pair o4 fun g5 o5 s5=>?_)))
 replace o5:IsPair g5 TO x y:=o5
 refine zAt (wpAny_letGo (zAz (zAz (zAt (wpAny_seqItems o5 rfl (zAt (wpAny_newTuple ?_)))))));have hsz:g5.objs.size=s.heap.objs.size:=by rw[s5.1,s4.1,s3.1,s2.1,s1.1]
 have z5:IsZip g5 z TI TO .ellipsis:=s5.extBut _ _ D.TOz.symm (s4.extBut _ _ D.i2z.symm (s3.extBut _ _ D.TOz.symm (s2.extBut _ _ D.i1z.symm z1)));have k5:∀c o,c≠z->c≠TO->c≠i1->c≠i2->s.heap.get? c=some o->g5.get? c=some o:=fun c o c1 c2 c3 c4 e=>s5.extBut _ _ c2 (s4.extBut _ _ c4 (s3.extBut _ _ c2 (s2.extBut _ _ c3 (s1.extBut _ _ c1 e))));have p1:Io t1 g5 i1 l1 (k+1):=((q1.extBut s3.extBut D.TOi1.symm).extBut s4.extBut D.i12).extBut s5.extBut D.TOi1.symm;have p2:Io t2 g5 i2 l2 (k+1):=q2.extBut s5.extBut D.TOi2.symm;have IY:z<g5.objs.size:=Heap.lt_size z5;show wpAny _ _ (Builtin.SmallTypes.ownedTupleHandOut (.ref z) (.ref g5.objs.size)>>=_) _ _ _;refine wpAny_bind ?_;unfold Builtin.SmallTypes.ownedTupleHandOut;have z6:IsZip (g5.push {cls:=.type "tuple",data:=.seq #[x,y]}) z TI TO .ellipsis:=Heap.get?_push_of_some _ z5;refine wpAny_bind (wpAny_setField_rec z6 Zy fun g7 z7 s7=>?_)
 replace z7:IsZip g7 z TI TO (rawInt g5.objs.size):=z7
 refine wpAny_setField_rec z7 Zy fun g8 z8 s8=>?_
 replace z8:IsZip g8 z TI TO (rawInt g5.objs.size):=z8
 have up:∀c o,c≠z->g5.get? c=some o->g8.get? c=some o:=fun c o c1 e=>s8.extBut _ _ c1 (s7.extBut _ _ c1 (zAy _ e));have t8:IsPair g8 g5.objs.size x y:=s8.extBut _ _ (Nat.ne_of_gt IY) (s7.extBut _ _ (Nat.ne_of_gt IY) (zB3 _ rfl));have n8:g8.objs.size=g5.objs.size+1:=by rw[s8.1,s7.1,Heap.size_push]
 rw[hsz]at z8 t8 n8;refine zAz ⟨_,rfl,zAz ?_⟩;show Q (some (.ref g5.objs.size)) _;rw[hsz];exact hQ g8 z8 (up _ _ D.TOz o5) (p1.at fun o e=>up _ o D.i1z e) (p2.at fun o e=>up _ o D.i2z e) t8 n8 fun c o c1 c2 c3 c4 e=>up c o c1 (k5 c o c1 c2 c3 c4 e)
theorem vg{t1:Bool}{z TI TO i1 i2 l1 l2:Addr}{k:Nat}{xs:Array Value}{a b:Value}{Q:Option Value->Shared->Prop}(hh:A.handled=none)(D:ZipApart z TI TO i1 i2 l1 l2)
  (hz:IsZip s.heap z TI TO .none) (C9:IsPair s.heap TI (.ref i1) (.ref i2)) (IX:IsPair s.heap TO a b) (h1:Io t1 s.heap i1 l1 k) (fN:Sq t1 s.heap l1 xs) (hx:xs[k]?=none)
  (hQ:∀h',(∀c o,c≠z->c≠i1->s.heap.get? c=some o->h'.get? c=some o)->Q none {s with heap:=h'}):wpAny (model prog w) A (pyNext (.ref z)) Q E s:=by
 have hT:s.TypeIs (.ref z) "zip":=⟨_,hz,rfl⟩
 unfold pyNext;refine wpAny_bind (wpAny_attempt (wpAny_callSpecial?_slot (name:=Str.ofString "__next__") hT F.slot_zip_next (wpAny_call_entry F.slot_zip_next hT F.entry_zip_next ?_ (F.args_zip_next_1 _))));show wpAny _ _ (field (.ref z) 2>>=_) _ _ _;refine wpAny_bind (wpAny_field hz rfl (x:=.bool false) rfl ?_);show wpAny _ _ (field (.ref z) 3>>=_) _ _ _;refine wpAny_bind (wpAny_field hz rfl (x:=.ref TI) rfl (wpAny_bind (wpAny_seqItems C9 rfl ?_)));show wpAny _ _ (Builtin.SmallTypes.ownedTupleIsFree (.ref z)>>=_) _ _ _;refine wpAny_bind ?_;unfold Builtin.SmallTypes.ownedTupleIsFree;refine wpAny_bind (wpAny_field hz rfl (x:=.none) rfl (wpAny_pure ?_));simp only[if_true];refine wpAny_bind (wpAny_rule (wpAny_bind (wpAny_field hz rfl (x:=.ref TO) rfl (wpAny_bind (wpAny_setField_rec hz Zy fun g1 z1 s1=>?_)))))
 replace z1:IsZip g1 z TI TO .ellipsis:=z1
 refine wpAny_bind ?_;simp only[List.zipIdx_cons,List.zipIdx_nil,List.forIn_cons,List.forIn_nil];refine wpAny_bind (wpAny_bind (wpAny_onRaise ?_));show wpAny _ _ (Builtin.SmallTypes.nextOf (.ref i1)>>=_) _ _ _;refine wpAny_bind (vf hh (h1.extBut s1.extBut D.i1z) (fN.extBut s1.extBut D.l1z) hx fun g2 e s2 he=>?_);obtain⟨oe,Dx,IZ⟩:=he;have z2:IsZip g2 z TI TO .ellipsis:=s2 _ _ D.i1z.symm z1
 have Ng:e≠z:=fun q=>by
  subst q;rw[z2]at Dx;cases Dx;simp at IZ
 refine wpAny_setField_rec z2 Zy fun g3 _ s3=>?_;refine wpAny_bind (wpAny_isInstance (T:="StopIteration") (b:=true) ⟨oe,s3.extBut _ _ Ng Dx,IZ⟩ isSubtype_stop (wpAny_pure (hQ _ fun c o c1 c2 q=>s3.extBut _ _ c1 (s2 _ _ c2 (s1.extBut _ _ c1 q)))))
end
abbrev zA(t1:Bool)(h:Heap)(t:Addr):Heap:=h.push {cls:=.type (nm t1),data:=.fields #[.ref t,.int 0 0]}
abbrev zB(t1 t2:Bool)(h:Heap)(t l:Addr):Heap:=(zA t1 h t).push {cls:=.type (nm t2),data:=.fields #[.ref l,.int 0 0]}
abbrev zC(t1 t2:Bool)(h:Heap)(t l:Addr):Heap:=(zB t1 t2 h t l).push {cls:=.type "tuple",data:=.seq #[.ref h.objs.size,.ref (zA t1 h t).objs.size]}
abbrev zD(t1 t2:Bool)(h:Heap)(t l:Addr):Heap:=(zC t1 t2 h t l).push {cls:=.type "tuple",data:=.seq #[.none,.none]}
abbrev zE(t1 t2:Bool)(h:Heap)(t l:Addr):Heap:=(zD t1 t2 h t l).push {cls:=.type "zip",data:=.fields #[.none,.bool false,.bool false,.ref (zB t1 t2 h t l).objs.size,.ref (zC t1 t2 h t l).objs.size]}
theorem qX{t1 t2:Bool}(t l:Addr)(xs ys:Array Value):
  Meets (Builtin.«zip.__new__» ⟨[.type "zip",.ref t,.ref l],[]⟩) (fun _ R s=>Sq t1 s.heap t xs/\Sq t2 s.heap l ys/\R (.ok (.ret (.ref (zD t1 t2 s.heap t l).objs.size))) {s with heap:=zE t1 t2 s.heap t l}):=
 .of_wp fun prog w A R s h=>by
  obtain⟨hp,g,d,tk,os⟩:=s;obtain⟨ht,hl,h⟩:=h;have C7:=sub_zip;have hT:Sq t1 (Shared.heap ⟨hp,g,d,tk,os⟩) t xs:=ht;have hL:Sq t2 (Shared.heap ⟨hp.push {cls:=.type (nm t1),data:=.fields #[.ref t,.int 0 0]},g,d,tk,os⟩) l ys:=hl.at fun o e=>zAy _ e
  wp_walk using mR hT,mR hL
  exact⟨_,rfl,h⟩
theorem tU{t1 t2:Bool}{prog:Program}{w:World}{A:Around}{E:Value->Shared->Prop}{s:Shared}{t l:Addr}{xs ys:Array Value}{Q:Value->Shared->Prop}(ht:Sq t1 s.heap t xs)(hl:Sq t2 s.heap l ys)
  (h:∀h',IsZip h' (s.heap.objs.size+4) (s.heap.objs.size+2) (s.heap.objs.size+3) .none->IsPair h' (s.heap.objs.size+2) (.ref s.heap.objs.size) (.ref (s.heap.objs.size+1))->IsPair h' (s.heap.objs.size+3) .none .none->
   Io t1 h' s.heap.objs.size t 0->Io t2 h' (s.heap.objs.size+1) l 0->(∀c o,s.heap.get? c=some o->h'.get? c=some o)->Q (.ref (s.heap.objs.size+4)) {s with heap:=h'}):
  wpAny (model prog w) A (call (.type "zip") [.ref t,.ref l]) Q E s:=by
 refine callType_new F.called_zip Zx (F.typeCall_zip_2 _ _) (F.newCall_zip_2 _ _) (fun obj=>F.args_object_init_3 obj _ _) F.entry_zip_new (qX t l xs ys) ⟨ht,hl,?_⟩;have e1:(zA t1 s.heap t).objs.size=s.heap.objs.size+1:=Heap.size_push ..;have e2:(zB t1 t2 s.heap t l).objs.size=s.heap.objs.size+2:=by rw[Heap.size_push,e1]
 have e3:(zC t1 t2 s.heap t l).objs.size=s.heap.objs.size+3:=by rw[Heap.size_push,e2]
 have e4:(zD t1 t2 s.heap t l).objs.size=s.heap.objs.size+4:=by rw[Heap.size_push,e3]
 have Jn:∀{c o},(zD t1 t2 s.heap t l).get? c=some o->(zE t1 t2 s.heap t l).get? c=some o:=fun e=>zAy _ e;have JA:∀{c o},(zC t1 t2 s.heap t l).get? c=some o->(zE t1 t2 s.heap t l).get? c=some o:=fun e=>Jn (zAy _ e);have JE:∀{c o},(zB t1 t2 s.heap t l).get? c=some o->(zE t1 t2 s.heap t l).get? c=some o:=fun e=>JA (zAy _ e);have up1:∀{c o},(zA t1 s.heap t).get? c=some o->(zE t1 t2 s.heap t l).get? c=some o:=fun e=>JE (zAy _ e);have g5:(zE t1 t2 s.heap t l).get? (zD t1 t2 s.heap t l).objs.size=some _:=zB3 _ rfl;have g4:(zE t1 t2 s.heap t l).get? (zC t1 t2 s.heap t l).objs.size=some _:=Jn (zB3 _ rfl);have g3:(zE t1 t2 s.heap t l).get? (zB t1 t2 s.heap t l).objs.size=some _:=JA (zB3 _ rfl);have g2:(zE t1 t2 s.heap t l).get? (zA t1 s.heap t).objs.size=some _:=JE (zB3 _ rfl);have g1:(zE t1 t2 s.heap t l).get? s.heap.objs.size=some _:=up1 (zB3 _ rfl);show _/\_;rw[e4,e2,e3]at g5;rw[e2,e1]at g3;rw[e3]at g4;rw[e1]at g2;rw[e4];exact⟨⟨_,g5,rfl⟩,h _ g5 g3 g4 ⟨_,g1,rfl,rfl⟩ ⟨_,g2,rfl,rfl⟩ fun c o x=>up1 (zAy _ x)⟩
def Itz(t1 t2:Bool)(K:Frag)(a b:Addr):It:=
 ⟨fun i H=>∃xs ys x y,SQ t1 K H a xs/\SQ t2 K H b ys/\xs[i]?=some x/\ys[i]?=some y,
  fun i H v H'=>∃T,H T=none/\v=.ref T/\∀xs ys,SQ t1 K H a xs->SQ t2 K H b ys->∃x y,xs[i]?=some x/\ys[i]?=some y/\H'=upd H T (.tup [x,y]),
  fun i H=>∃xs,SQ t1 K H a xs/\xs.length<=i⟩
def tnz(t1 t2:Bool)(z TI TO i1 i2 a b:Addr)(i:Nat)(h:Heap):Prop:=IsZip h z TI TO .none/\IsPair h TI (.ref i1) (.ref i2)/\(∃u v,IsPair h TO u v)/\Io t1 h i1 a i/\Io t2 h i2 b i
theorem Ac{t1 t2:Bool}{P:Program}{w:World}{K:Frag}{es:List Expr}{k:Nat}{pos:Pos}{z TI TO i1 i2 a b:Addr}(D:ZipApart z TI TO i1 i2 a b):
  Turn P w K (.Tuple es k pos) (Itz t1 t2 K a b) [z,TI,TO,i1,i2] z (tnz t1 t2 z TI TO i1 i2 a b) where
 mem:=by simp
 obj:=fun i h st c hc=>by
  obtain⟨s1,s2,⟨u,v,s3⟩,⟨o4,s4,c4,d4⟩,⟨o5,s5,c5,d5⟩⟩:=st;simp only[List.mem_cons,List.not_mem_nil,or_false]at hc;rcases hc with e|e|e|e|e<;>subst e
  .exact⟨_,s1,fun v q=>by cases q⟩
  .exact⟨_,s2,fun v q=>by cases q⟩
  .exact⟨_,s3,fun v q=>by cases q⟩
  .exact⟨_,s4,fun v q=>by rw[d4]at q;cases q⟩
  .exact⟨_,s5,fun v q=>by rw[d5]at q;cases q⟩
 keep:=fun i h h' st kp=>by
  obtain⟨s1,s2,⟨u,v,s3⟩,s4,s5⟩:=st;exact⟨kp z Zy _ s1,kp TI Zy _ s2,⟨u,v,kp TO Zy _ s3⟩,s4.at fun o e=>kp i1 Zy o e,s5.at fun o e=>kp i2 Zy o e⟩
 item:=by
  intro X hP hw hK hc i Zt s σ H E I hf st hg;subst hP hw hK;obtain⟨s1,s2,⟨u,v,s3⟩,s4,s5⟩:=st;obtain⟨xs,ys,x,y,mE,JI,hx,hy⟩:=hg;obtain⟨Zs,rv,p,_⟩:=kJ I mE;obtain⟨Nh,fE,q,_⟩:=kJ I JI;obtain⟨ux,A3,rx⟩:=rv.get hx;obtain⟨uy,Ni,ry⟩:=fE.get hy;refine tR D s1 s2 s3 s4 s5 p q (x:=ux) (y:=uy) (by simpa using A3) (by simpa using Ni) fun h1 g1 g2 g3 g4 g5 g6 kp=>?_;refine⟨_,rfl,?_⟩;refine wpAny_letOwnedTupleGo_zip g1 fun h2 e1 sb=>?_
  have ne:∀c,c∈[z,TI,TO,i1,i2]->c≠s.heap.objs.size:=fun c bq e=>by
   obtain⟨f0,f1,f2,f3,f4,f5⟩:=hf c bq
   have:∃o,s.heap.get? c=some o:=by
    simp only[List.mem_cons,List.not_mem_nil,or_false]at bq;rcases bq with q|q|q|q|q<;>subst q
    .exact⟨_,s1⟩
    .exact⟨_,s2⟩
    .exact⟨_,s3⟩
    .exact let⟨o,h,_⟩:=s4;⟨o,h⟩
    .exact let⟨o,h,_⟩:=s5;⟨o,h⟩
   obtain⟨o,ho⟩:=this;exact absurd (zB1 ho) (by rw[e];exact Nat.lt_irrefl _)
  have hT:H s.heap.objs.size=none:=I.hok.fresh (zA3 _)
  have kept:∀c o,c∉[z,TO,i1,i2]->s.heap.get? c=some o->h2.get? c=some o:=fun c o bq e=>
   sb.extBut _ _ (fun q=>bq (by simp[q])) (kp c o (fun q=>bq (by simp[q])) (fun q=>bq (by simp[q])) (fun q=>bq (by simp[q])) (fun q=>bq (by simp[q])) e)
  have DA:∀c,c∈[z,TO,i1,i2]->c∈[z,TI,TO,i1,i2]:=fun c bq=>by
   simp only[List.mem_cons,List.not_mem_nil,or_false]at bq⊢;rcases bq with q|q|q|q<;>simp[q]
  have trk:∀c o,H c=some o->c∉[z,TO,i1,i2]:=fun c o e bq=>by
   have:=(hf c (DA c bq)).1;rw[e]at this;cases this
  have rg:h2.get? s.heap.objs.size=some {cls:=.type "tuple",data:=.seq #[ux,uy]}:=sb.extBut _ _ (Ne.symm (ne z Zy)) g5
  have rh:HOk X.prog X.w (upd H s.heap.objs.size (.tup [x,y])) h2:=fun c o e=>by
   by_cases hb:c=s.heap.objs.size
   .subst hb;rw[aj]at e;cases e;exact⟨by show 2<=sizeLine;decide,[ux,uy],.cons rx (.cons ry .nil),_,rg,rfl,_,rfl⟩
   .rw[az hb]at e
    refine(I.hok c o e).stay (fun d v hd q=>kept d v ?_ q) (fun d q=>by rw[az (aC q hT)];exact q) fun d l q=>by rw[az (aC q hT)];exact q
    rcases hd with e'|e'
    .rw[e'];exact trk c o e
    .exact trk d _ e'
  have I2:Inv X Zt σ (upd H s.heap.objs.size (.tup [x,y])) {s with heap:=h2}:=by
   refine I.step (g':=s.gens) (d':=s.drawn) (t':=s.toks) (ch:=[z,TO,i1,i2]) (fun c bq=>?_) (fun c o _ _ hn e _=>kept c o hn e) (fun c o _ _ hn e _=>⟨o.slots,kept c o hn e⟩)
    (fun c o _ e n=>by rw[az (zB7 (zB1 e))];exact n) (fun c o hn e=>⟨o,kept c o hn e⟩) (fun c l e=>by rw[az (aC e hT)];exact e) (fun c o l e=>by rw[az (aC e hT)];exact e)
    (fun c l e=>⟨#[],by rw[az (aC e hT),e];simp⟩) (fun m hm=>?_) rh I.bare
   .obtain⟨f0,f1,f2,f3,f4,f5⟩:=hf c (DA c bq);exact⟨f3,f1,f4,f5⟩
   .obtain⟨o,gX,ep,ho,r⟩:=hm;refine⟨o,gX,ep,kept _ o (fun bq=>?_) ho,r⟩;exact(hf _ (DA _ bq)).2.1 rfl
  refine⟨.ref s.heap.objs.size,_,I2,rfl,⟨s.heap.objs.size,hT,rfl,fun Nd cK tf Nj=>⟨x,y,?_,?_,rfl⟩⟩,⟨e1,?_,?_,?_,?_⟩,fun c bq=>?_⟩
  .rw[vd I tf mE];exact hx
  .rw[vd I Nj JI];exact hy
  .exact sb.extBut _ _ D.TIz (kp _ _ D.TIz D.TITO D.TIi1 D.TIi2 s2)
  .exact⟨_,_,sb.extBut _ _ D.TOz g2⟩
  .exact g3.extBut sb.extBut D.i1z
  .exact g4.extBut sb.extBut D.i2z
  .rw[az (ne c bq)];exact(hf c bq).1
 done:=by
  intro X hP hw hK hc i Zt s σ H E I hf st hg;subst hP hw hK;obtain⟨s1,s2,⟨u,v,s3⟩,s4,s5⟩:=st;obtain⟨xs,mE,hlen⟩:=hg;obtain⟨Zs,rv,p,_⟩:=kJ I mE;have hl:=rv.length
  refine vg (I.ok.hd hc) D s1 s2 s3 s4 p (by simp;lia) fun h' kp=>⟨rfl,?_⟩
  refine I.step (h':=h') (H':=H) (g':=s.gens) (d':=s.drawn) (t':=s.toks) (ch:=[z,i1]) (fun c bq=>?_) (fun c o _ _ hn e _=>kp c o (fun q=>hn (by simp[q])) (fun q=>hn (by simp[q])) e)
   (fun c o _ _ hn e _=>⟨o.slots,kp c o (fun q=>hn (by simp[q])) (fun q=>hn (by simp[q])) e⟩) (fun c o _ e n=>n) (fun c o hn e=>⟨o,kp c o (fun q=>hn (by simp[q])) (fun q=>hn (by simp[q])) e⟩)
   (fun _ _ e=>e) (fun _ _ _ e=>e) (fun c l e=>⟨#[],by rw[e];simp⟩) (fun m hm=>?_) (fun c o e=>?_) I.bare
  .have:c∈[z,TI,TO,i1,i2]:=by
    simp only[List.mem_cons,List.not_mem_nil,or_false]at bq⊢;rcases bq with q|q<;>simp[q]
   obtain⟨f0,f1,f2,f3,f4,f5⟩:=hf c this;exact⟨f3,f1,f4,f5⟩
  .obtain⟨o,gX,ep,ho,r⟩:=hm;exact⟨o,gX,ep,kp _ o (Ne.symm (hf z Zy).2.1) (Ne.symm (hf i1 Zy).2.1) ho,r⟩
  .have nn:∀d v c',c'∈[z,TI,TO,i1,i2]->H d=some v->d≠c':=fun d v c' bq q e'=>by
    have:=(hf c' bq).1;rw[<-e',q]at this;cases this
   have nz:∀d v,H d=some v->d≠z/\d≠i1:=fun d v q=>⟨nn d v z Zy q,nn d v i1 Zy q⟩
   refine(I.hok c o e).stay (fun d v hd q=>?_) (fun _ q=>q) fun _ _ q=>q;rcases hd with e'|e'
   .rw[e']at q⊢;exact kp c v (nz c o e).1 (nz c o e).2 q
   .exact kp d v (nz d _ e').1 (nz d _ e').2 q
 self:=fun _ _ _ _ _ st h=>wpAny_pyIter_zip st.1 h
section
variable{X:Cx}
def Kh(t1 t2:Bool)(K:Frag)(t:TA):TI:=fun σ H R=>t σ H fun vs H1=>∃a b xs ys,vs=[.ref a,.ref b]/\SQ t1 K H1 a xs/\SQ t2 K H1 b ys/\R (Itz t1 t2 K a b) H1
theorem pi_zip(t1 t2:Bool){es:List Expr}{k:Nat}{tp:Pos}{a b:Expr}{ta:TA}{p pos:Pos}(hg:Gl X "zip")(hm:X.mg "zip"=none)(ha:PA X [a,b] ta)(hs:starEach [a,b] X.env=[(false,eval a X.env),(false,eval b X.env)]:=by rfl)(kq:starEach [b] X.env=[(false,eval b X.env)]:=by rfl):
  PI X (.Tuple es k tp) (.Call (.Name "zip" p) [a,b] [] pos) (Kh t1 t2 X.K ta):=by
 intro Zt s σ H R I h;refine Call_ (gK I hg hm boot_zip (PyProof.Rows.callWith_type1 (thn (ha pos Zt s σ H _ I h) fun us s1 ⟨vs,H1,I1,r1,q1⟩=>?_) (by rw[hs,kq]) (by rw[kq];rfl)));obtain⟨x,y,xs,ys,e,hx,hy,q⟩:=q1;subst e;obtain⟨u,v,rfl,ru,rv⟩:=vals2 r1;cases ru;cases rv;obtain⟨Zs,_,p1,_⟩:=kJ I1 hx;obtain⟨Nh,_,p2,_⟩:=kJ I1 hy;refine tU p1 p2 fun h' z1 z2 z3 z4 z5 kp=>?_;refine wpAny_pyIter_zip z1 ?_;have lx:x<s1.heap.objs.size:=by obtain⟨_,e,_⟩:=p1;exact zB1 e
 have ly:y<s1.heap.objs.size:=by obtain⟨_,e,_⟩:=p2;exact zB1 e
 refine⟨_,_,_,_,H1,rfl,I1.kept (t':=s1.toks) kp,Ac (zipApart_new lx ly),⟨z1,z2,⟨_,_,z3⟩,z4,z5⟩,fun c hc=>?_,q⟩
 have hle:s1.heap.objs.size<=c:=by
  simp only[List.mem_cons,List.not_mem_nil,or_false]at hc;rcases hc with q|q|q|q|q<;>subst q
  .exact Nat.le_add_right _ 4
  .exact Nat.le_add_right _ 2
  .exact Nat.le_add_right _ 3
  .exact zA3 _
  .exact Nat.le_add_right _ 1
 exact I1.fpOk hle (I1.hok.fresh hle)
end
end L2.ZT
namespace L2
open PySem PySem.Spec PyProof.Rows PySem.Calls
section
variable{X:Cx}
theorem cZ(hc:X.calm=true):dJ X (.builtin "sum") (fun xs H Q=>∃(p:Addr) (ns:List Int),xs=[.ref p]/\(SqL X.K H p (ns.map V.int)\/SqT X.K H p (ns.map V.int))/\Q (.int ns.sum) H):=by
 intro Zt s σ H xs us Q I r h;obtain⟨p,ns,rfl,hq,q⟩:=h;obtain⟨u,rfl,ru⟩:=vals1 r;cases ru
 have go:∀Zs:List Value,Vals (ns.map V.int) Zs->∃zs:Array (Int×Tok),Zs.toArray=intItems zs/\preSum (numAt zs) zs.size=ns.sum:=fun Zs rv=>by
  have hi:IntsAre Zs ns:=intsAre_of rv;obtain⟨zs,ez⟩:=(hi.allInts:AllInts Zs.toArray).items;refine⟨zs,ez,?_⟩;have en:numsOf Zs.toArray.toList=ns:=hi.numsOf;rw[ez,nums_intItems]at en;rw[preSum_eq,List.take_of_length_le Zy,en]
 rcases hq with hq|hq
 .obtain⟨Zs,rv,pl,hz⟩:=I.list hq;obtain⟨zs,ez,es⟩:=go Zs rv;refine sum_intListG (I.ok.hd hc) (ez▸pl.isList) fun h' tk t' hk=>?_;rw[es];exact⟨.int _,H,I.kept (t':=tk) hk,⟨t',rfl⟩,q⟩
 .obtain⟨Zs,rv,pl,hz⟩:=I.tuple hq;obtain⟨zs,ez,es⟩:=go Zs rv;have ht:s.heap.IsTuple p Zs.toArray:=pl;refine PySem.W.ktm_sumG (I.ok.hd hc) (ez▸ht) fun h' tk t' hk=>?_;rw[es];exact⟨.int _,H,I.kept (t':=tk) hk,⟨t',rfl⟩,q⟩
end
section
open PySem.W
variable{prog:Program}{w:World}{A:Around}{E:Value->Shared->Prop}{s:Shared}
end
section
variable{X:Cx}
end
structure CScopeD(X:Cx)(scope:Scope)(x₀:Str):Prop where
 kind:scope.kind=.function
 only:scope.names.all (fun p=>p.2 != .cell||p.1==x₀)=true
 names:scope.names.all (fun p=>p.2 != .local||scope.names.lookup p.1==some .local)=true
 free:scope.names.all (fun p=>p.2 != .free||(X.env.cells.lookup p.1).isSome)=true
 cf:∀n acc,cellsFrom n scope.names acc=(x₀,n)::acc
 pc:∀h,pushCells h scope.names=h.push {cls:=.type "cell",data:=.cell none}
theorem CScopeD.hnames{X:Cx}{scope:Scope}{x₀:Str}(S:CScopeD X scope x₀):∀p∈scope.names,p.2=.local->scope.names.lookup p.1=some .local:=fun p hp e=>by
 have:=List.all_eq_true.mp S.names p hp;simpa[e]using this
theorem CScopeD.hfree{X:Cx}{scope:Scope}{x₀:Str}(S:CScopeD X scope x₀):∀p∈scope.names,p.2=NameKind.free->(X.env.cells.lookup p.1).isSome=true:=fun p hp e=>by
 have:=List.all_eq_true.mp S.free p hp;simpa[e]using this
theorem jm{scope:Scope}{env:Env}{x x₀:Str}{k:NameKind}(hc:scope.names.all (fun p=>p.2 != .cell||p.1==x₀)=true)(hx:x≠x₀)(h:(relabel scope env).names.lookup x=some k)(hk:k=.cell\/k=.free):∃k',(x,k')∈scope.names/\k'=NameKind.free:=by
 obtain⟨⟨n,k0⟩,hm,e⟩:=zA5.mp (mem_of_lookup h);dsimp only at e;split at e
 .rename_i c
  cases e
  have:(k0==NameKind.free)=true:=by
   cases q:(k0==NameKind.free)with
   |true=>rfl
   |false=>rw[q]at c;simp at c
  exact⟨k0,hm,by simpa using this⟩
 .cases e;rcases hk with z|z
  .have:=List.all_eq_true.mp hc _ hm;rw[z]at this;exact absurd (by simpa using this) hx
  .exact⟨_,hm,z⟩
theorem Ad{M:Model}{A:Around}{E:Value->Shared->Prop}{s:Shared}{scope:Scope}{globals:Addr}{closure:List (Str×Addr)}{qual x₀:Str}{outer:Env}{Q:Env->Shared->Prop}(cf:∀n acc,cellsFrom n scope.names acc=(x₀,n)::acc)
  (pc:∀h,pushCells h scope.names=h.push {cls:=.type "cell",data:=.cell none})
  (hQ:∀h',h'.Ns s.heap.objs.size (fun _=>none)->(∀b o,s.heap.get? b=some o->h'.get? b=some o)->h'.IsCell (s.heap.objs.size+1) none->
   Q {scope,locals:=s.heap.objs.size,globals,cells:=(x₀,s.heap.objs.size+1)::closure,qual,func:=none,code:=outer.code,frame:=outer.frame,builtins:=outer.builtins} {s with heap:=h'}):
  wpAny M A (newFunctionEnv scope globals closure [] qual none .none (some outer)) Q E s:=by
 simp only[newFunctionEnv,Option.isSome_some,if_true];refine wpAny_bind (wpAny_alloc (wpAny_bind (wpAny_layCells _ (fun name kind cells=>by cases q:kind==NameKind.cell<;>simp[q]) _ _ _ _ ?_)));rw[cf];dsimp only;rw[pc,Heap.size_push];refine wpAny_bind ?_;rw[List.forIn_nil];refine wpAny_pure (wpAny_pure (hQ _ ((Heap.Ns.new s.heap (.type "dict")).keeps fun b o e=>Heap.get?_push_of_some _ e) (fun b o e=>Heap.get?_push_of_some _ (Heap.get?_push_of_some _ e)) ?_));have:=Heap.get?_push_size (s.heap.push {cls:=.type "dict",data:=.dict #[]}) (o:={cls:=.type "cell",data:=.cell none}) rfl;rw[Heap.size_push]at this;exact⟨_,this,rfl⟩
def cxD(X:Cx)(scope:Scope)(x₀:Str)(Nc:List Str)(C:Addr)(fp:List Addr)(Zt:List (Addr×Obj))(s₂:Shared)(H₂:Hp):Cx:=
 {cxC X scope Nc C fp Zt s₂ H₂ with env:=compEnvC scope ((x₀,C+1)::cV X.env.cells scope.names []) C X.env,fn:=fun y=>y==x₀}
theorem vm{X:Cx}{x₀:Str}{tg iter elt:Expr}{ifs:List Expr}{scope:Scope}{pos:Pos}{Nc:List Str}{src:List (Option Nat)}{g:TG}{tt:TT}{te:TE}(hc:X.calm=true)(S:CScopeD X scope x₀)
  (bg:∀C,Caps X (compEnvC scope ((x₀,C+1)::cV X.env.cells scope.names []) C X.env) Nc src)
  (hb:∀C fp Zt s₂ H₂,PG (cxD X scope x₀ Nc C fp Zt s₂ H₂) tg g/\PTs (cxD X scope x₀ Nc C fp Zt s₂ H₂) ifs tt/\PE (cxD X scope x₀ Nc C fp Zt s₂ H₂) elt te)
  {Zt:List (Addr×Obj)} {s₂:Shared} {σ:St} {H₂:Hp} {it:Addr} {fp:List Addr} {tn:Nat->Heap->Prop} {J:It} (af:Inv X Zt σ H₂ s₂) (T:Turn X.prog X.w X.K tg J fp it tn) (st:tn 0 s₂.heap) (hf:∀b∈fp,gG X Zt H₂ b)
  {Fin:List V->Hp->Prop} (hW:kI J g tt te Fin (capσ σ src) H₂) {RR:Value->Addr->Result->Shared->Prop} {E:Value->Shared->Prop}
  (xb:∀D C s' ys H' m,Fin ys H'->H' D=none->Inv X Zt σ (upd H' D (.lst ys)) s'->s'.heap.Ns C m->gG X Zt (upd H' D (.lst ys)) C->RR (.ref D) C (.ok .next) s'):
  wpAny (model X.prog X.w) X.A (newList []) (fun acc s₃=>wpAny (model X.prog X.w) X.A (newFunctionEnv scope X.env.globals (cV X.env.cells scope.names []) [] X.env.qual none .none (some X.env)) (fun gu gs=>
   codeAny (model X.prog X.w) X.A (.compStart (.ListComp elt [⟨tg,iter,ifs,0⟩] scope pos) 0 (.ref it) acc {gu with scope:=relabel scope X.env}) (RR acc gu.locals) gs) E s₃) E s₂:=by
 refine wpAny_newObj_type (Ad S.cf S.pc (fun bE aE fx gy=>?_));dsimp only at aE fx gy⊢;generalize kM:s₂.heap.push {cls:=.type "list",dict:=none,data:=.seq ([]:List Value).toArray}=HH at aE fx gy⊢;generalize cy:s₂.heap.objs.size=D at aE fx gy⊢;have hC:HH.objs.size=D+1:=by rw[<-kM,Heap.size_push,cy]
 generalize IU:HH.objs.size=C at aE fx gy hC⊢;have kr:D≠C:=Zz
 have below:∀b,b<s₂.heap.objs.size->b≠C/\b≠D:=fun b hb=>by rw[cy]at hb;exact⟨by rw[hC];exact zB7 (Nat.lt_succ_of_lt hb),zB7 hb⟩
 have ai:∀{b o},s₂.heap.get? b=some o->b≠C/\b≠D:=fun{b o} e=>below b (zB1 e);have old:∀b o,s₂.heap.get? b=some o->bE.get? b=some o:=fun b o e=>fx b o (kM▸zAy _ e);have kN:bE.get? D=some {cls:=.type "list",data:=.seq ([]:List Value).toArray}:=fx _ _ (kM▸cy▸zB3 _ rfl)
 have sR:∀b∈fp,∃o,s₂.heap.get? b=some o:=fun b hb=>let⟨o,e,_⟩:=T.obj _ _ st b hb;⟨o,e⟩
 have iN:∀b∈fp,b≠C/\b≠D:=fun b hb=>let⟨o,e⟩:=sR b hb;ai e
 have sub:∀{x c},((x₀,C+1)::cV X.env.cells scope.names []).lookup x=some c->X.env.cells.lookup x=some c\/(x=x₀/\c=C+1):=fun{x c} e=>by
  rw[List.lookup_cons]at e
  cases q:x==x₀ with
  |true=>
   rw[q]at e;injection e with e;exact .inr ⟨eq_of_beq q,e.symm⟩
  |false=>
   rw[q]at e;rcases je scope.names [] S.hfree e with z|z
   .simp at z
   .exact .inl z
 have qS:∀{b o},s₂.heap.get? b=some o->b<D:=fun{b o} e=>by rw[<-cy];exact zB1 e
 have fresh:∀a,D<=a->H₂ a=none:=fun a ha=>af.hok.fresh (by rw[cy];exact ha)
 have cv:∀{x c},X.env.cells.lookup x=some c->∃o,s₂.heap.get? c=some o:=fun{x c} e=>let⟨v,o,ho,_⟩:=af.cell x c e;⟨o,ho⟩
 have kP:∀b∈frs X.stack,∃o,s₂.heap.get? b=some o:=fun b hb=>by
  rcases zAo.mp (af.stkSub b hb)with e|hb
  .rw[e];obtain⟨m,⟨o,_,_,ho,_⟩,_⟩:=af.loc;exact⟨o,ho⟩
  .obtain⟨_,o,ho,_⟩:=af.funs.mem hb;exact⟨o,ho⟩
 have kQ:∀a,D<=a->a∉frs X.stack:=fun a ha hb=>by
  obtain⟨o,e⟩:=kP a hb;exact absurd (zB2 (qS e) ha) (Nat.lt_irrefl _)
 have om:∀b∈fp,b∉frs X.stack:=fun b hb z=>by
  obtain⟨_,f1,f2,_⟩:=hf b hb;rcases zAo.mp (af.stkSub b z)with e|e
  .exact f1 e
  .exact f2 e
 have xE:∀{x c},X.env.cells.lookup x=some c->c≠C+1:=fun{x c} e z=>by
  obtain⟨o,ho⟩:=cv e;have:=qS ho;rw[z,hC]at this;exact absurd this (Nat.not_lt_of_le (Nat.le_trans (Nat.le_succ _) (Nat.le_succ _)))
 have JJ:∀b∈fp,∀x c,((x₀,C+1)::cV X.env.cells scope.names []).lookup x=some c->c≠b:=fun b hb x c e=>by
  rcases sub e with z|⟨_,z⟩
  .exact(hf b hb).2.2.2.2.1 x c z
  .obtain⟨o,ho⟩:=sR b hb;have:=qS ho;intro q;rw[<-q,z,hC]at this;exact absurd this (Nat.not_lt_of_le (Nat.le_trans (Nat.le_succ _) (Nat.le_succ _)))
 generalize aT:cxD X scope x₀ Nc C fp Zt s₂ H₂=X';obtain⟨hg,ht,he⟩:=hb C fp Zt s₂ H₂;rw[aT]at hg ht he
 have xh:X'.Ok:=by
  subst aT;refine⟨af.ok.mod,S.kind,af.ok.glob,af.ok.blt,?_,?_,?_,?_,af.ok.hd,af.ok.frames,.inl rfl,?_,af.bs,Nat.le_trans af.ok.bsz af.sz,?_,om,af.stack,af.stkFree⟩
  .show s₂.heap.objs.size<=C;lia
  .intro x y c e1 e2;rcases sub e1 with z1|⟨z1,w1⟩
   .rcases sub e2 with z2|⟨z2,w2⟩
    .exact af.ok.inj x y c z1 z2
    .exact absurd w2 (xE z1)
   .rcases sub e2 with z2|⟨z2,w2⟩
    .exact absurd w1 (xE z2)
    .rw[z1,z2]
  .intro x hx;have hx:(relabel scope X.env).names.lookup x=some .cell\/(relabel scope X.env).names.lookup x=some .free:=hx;show ∃c,((x₀,C+1)::cV X.env.cells scope.names []).lookup x=some c;rw[List.lookup_cons]
   cases q:x==x₀ with
   |true=>exact⟨_,rfl⟩
   |false=>
    have:∃k',(x,k')∈scope.names/\k'=NameKind.free:=by
     rcases hx with z|z
     .exact jm S.only (fun w=>by rw[w,beq_self_eq_true]at q;cases q) z (.inl rfl)
     .exact jm S.only (fun w=>by rw[w,beq_self_eq_true]at q;cases q) z (.inr rfl)
    exact jf scope.names [] (.inl this)
  .intro x c z e;have z:x=x₀:=eq_of_beq z;rcases sub e with w|⟨_,w⟩
   .have e:((x₀,C+1)::cV X.env.cells scope.names []).lookup x=some c:=e;rw[z,List.lookup_cons,beq_self_eq_true]at e;injection e with e;show s₂.heap.objs.size<=c;rw[<-e,cy,hC];exact Nat.le_trans (Nat.le_succ _) (Nat.le_succ _)
   .show s₂.heap.objs.size<=c;rw[w,cy,hC];exact Nat.le_trans (Nat.le_succ _) (Nat.le_succ _)
  .intro b hb;exact⟨(iN b hb).1,fun x c e=>JJ b hb x c e⟩
  .intro b o e hb;obtain⟨_,_,_,f3,_⟩:=hf b hb;rcases f3 with z|z
   .exact af.ok.noex b o e z
   .exact absurd (zB2 (zB1 (af.ok.bs b o e).1) z) (Nat.lt_irrefl _)
 have eP:X'.prog=X.prog:=by subst aT;rfl
 have ew:X'.w=X.w:=by subst aT;rfl
 have eK:X'.K=X.K:=by subst aT;rfl
 have eA:X'.A=X.A:=by subst aT;rfl
 have eE:X'.xe=fun _ _=>False:=by subst aT;rfl
 have eL:X'.env.locals=C:=by subst aT;rfl
 have eN:X'.env=compEnvC scope ((x₀,C+1)::cV X.env.cells scope.names []) C X.env:=by subst aT;rfl
 have ec:X'.calm=true:=by subst aT;exact hc
 have eS:X'.s₀=s₂:=by subst aT;rfl
 have eH:X'.H₀=H₂:=by subst aT;rfl
 have ef:X'.fs=frs X.stack:=by subst aT;rfl
 have ex:X'.ex=fp:=by subst aT;rfl
 have ep:X'.pn=X.pn++Zt:=by subst aT;rfl
 have I0:Inv X' [] (capσ σ src) H₂ {s₂ with heap:=bE,toks:=s₂.toks}:=by
  refine⟨xh,by rw[eS],af.bare,by rw[eS,eH];exact Un.kept old,⟨_,by rw[eL];exact aE,?_⟩,?_,by rw[eL];exact fresh _ Zz,?_,?_,by rw[eP,ew];exact af.hok.kept old,?_⟩
  .intro j x v e1 e2 e3;have e1:Nc[j]?=some x:=by subst aT;exact e1
   have e4:∃i,src[j]?=some (some i)/\(σ[i]?).join=some v:=by
    unfold capσ at e2;rw[zAb]at e2
    cases q:src[j]? with
    |none=>rw[q]at e2;cases e2
    |some o=>
     rw[q]at e2
     cases o with
     |none=>simp at e2
     |some i=>exact⟨i,rfl,by simpa using e2⟩
   obtain⟨i,e5,e6⟩:=e4;obtain⟨c1,c2,c3,c4⟩:=(bg C).get e1 e5
   have e7:σ[i]?=some (some v):=by
    cases q:σ[i]? with
    |none=>rw[q]at e6;simp at e6
    |some o=>rw[q]at e6;simp at e6;rw[e6]
   obtain⟨m,_,hl⟩:=af.loc;obtain⟨u,r,l⟩:=hl i x v c1 e7 (.inr (by rcases c2 with z|z;exact .inl z;exact .inr z));refine⟨u,r,?_⟩;rcases l with⟨k,_⟩|⟨_,c,e,z⟩
   .rcases c2 with c2|c2<;>(rw[k]at c2;cases c2)
   .refine .inr ⟨by rw[eN];exact c4,c,by rw[eN];exact c3.trans e,?_⟩;obtain⟨o,ho,hd⟩:=z;exact⟨o,old c o ho,hd⟩
  .intro x c e;rw[eN]at e;rcases sub e with z|⟨_,z⟩
   .obtain⟨v,o,ho,hd⟩:=af.cell x c z;exact⟨v,o,old c o ho,hd⟩
   .rw[z];exact⟨none,gy⟩
  .intro x c e;rw[eN]at e;rcases sub e with z|⟨_,z⟩
   .exact af.freeC x c z
   .rw[z];exact fresh _ (by rw[hC];exact Nat.le_trans (Nat.le_succ _) (Nat.le_succ _))
  .intro p hp;rw[ep,zAn]at hp;obtain⟨e,n,ne,nf,d⟩:=af.pin p hp;refine⟨old _ _ e,n,by rw[eL];exact(ai e).1,?_,d⟩;rw[ef];intro z;rcases zAo.mp (af.stkSub _ z)with q|q
   .exact ne q
   .exact nf q
  .have:=(bg C).len;subst aT;show(capσ σ src).length=Nc.length;unfold capσ;rw[zA1,this]
 have xi:∀p∈X'.pn,p.1≠D:=fun p hp=>by
  rw[ep]at hp;exact(ai (af.pin p hp).1).2
 have gv:∀x c,X'.env.cells.lookup x=some c->c≠D:=fun x c e=>by
  rw[eN]at e;rcases sub e with z|⟨_,z⟩
  .obtain⟨o,ho⟩:=cv z;exact(ai ho).2
  .rw[z,hC];exact Nat.ne_of_gt (Nat.lt_succ_of_lt (Nat.lt_succ_self _))
 have iX:∀{P:List (Addr×Obj)} {H:Hp},(∀p∈P,p.1=D)->(∀b∈fp,H b=none)->∀b∈fp,gG X' P H b:=fun{P H} hP hn b hb=>by
  refine⟨hn b hb,by rw[eL];exact(iN b hb).1,by rw[ef];exact om b hb,.inl (by rw[ex];exact hb),fun x c e=>?_,fun p hp=>?_⟩
  .rw[eN]at e;exact JJ b hb x c e
  .rcases zA6.mp hp with z|z
   .rw[ep]at z;exact(hf b hb).2.2.2.2.2 p z
   .rw[hP p z];exact(iN b hb).2.symm
 obtain⟨W,⟨m0,w0⟩,step⟩:=hW
 have loop:∀s₃:Shared,s₃={s₂ with heap:=bE,toks:=s₂.toks}->
   codeAny (model X.prog X.w) X.A (.compLoop (.ListComp elt [⟨tg,iter,ifs,0⟩] scope pos) 0 (.ref it) (.ref D) (compEnvC scope ((x₀,C+1)::cV X.env.cells scope.names []) C X.env)) (RR (.ref D) C) s₃:=by
  rintro s₃ rfl
  refine jg (fun n s'=>∃i ys us k ar H',Inv X' [] ar H' s'/\tn i s'.heap/\(∀b∈fp,H' b=none)/\H' D=none/\s'.heap.get? D=some {cls:=.type "list",data:=.seq (List.toArray us) k}/\Vals ys us/\W i n ys ar H') ?_ m0
   ⟨0,[],[],_,_,_,I0,T.keep _ _ _ st fun b _ o e=>old b o e,fun b hb=>(hf b hb).1,fresh _ (zA3 _),kN,.nil,w0⟩
  rintro n s3 ⟨i,ys,us,k,cc,H3,I3,fw,kF,dE,xt,hJ,w3⟩;obtain⟨hsz,eI⟩:=step i n ys cc H3 w3
  have oo:Inv X' [(D,{cls:=.type "list",data:=.seq us.toArray k})] cc H3 s3:=I3.pins_of fun p hp=>by
   rw[List.mem_singleton.mp hp];exact⟨xt,dE,by rw[eL];exact kr,by rw[ef];exact kQ _ (zA3 _),fun v z=>by cases z⟩
  have hU:∀p∈[(D,({cls:=.type "list",data:=.seq us.toArray k}:Obj))],p.1=D:=fun p hp=>by rw[List.mem_singleton.mp hp]
  rcases eI with⟨stop,fin⟩|⟨go,turn⟩
  ·-- the end
   have hd:=T.done X' eP ew eK ec i _ s3 cc H3 (fun _ _=>False) oo (iX hU kF) fw stop;rw[eA]at hd;refine thn hd fun r s4 ⟨hr,I4⟩=>?_;subst hr;have pD:=I4.pin (D,{cls:=.type "list",data:=.seq us.toArray k}) (zB0 _ (List.mem_singleton.mpr rfl));obtain⟨mC,oq,_⟩:=I4.loc;rw[eL]at oq;have dv:=I4.base;rw[eS,eH,ef,ex]at dv;have hlen:ys.length<=sizeLine:=Nat.le_of_lt hsz
   have kR:HOk X.prog X.w (upd H3 D (.lst ys)) s4.heap:=fun b u e=>by
    by_cases hb:b=D
    .subst hb;rw[aj]at e;cases e;exact⟨hlen,us,k,hJ,pD.1⟩
    .rw[az hb]at e;have z:=I4.hok b u e;rw[eP,ew]at z
     exact z.stay (fun c v _ q=>q) (fun c q=>by rw[az (aC q dE)];exact q) fun c xs q=>by rw[az (aC q dE)];exact q
   have un:Un (frs X.stack) fp H₂ (upd H3 D (.lst ys)) s₂.heap s4.heap:=⟨dv.keep,dv.slot,fun b o e n hx=>by rw[az (ai e).2];exact dv.free b o e n hx,dv.there,
    fun b xs e=>by
     have z:=dv.tups b xs e
     rw[az (aC z dE)];exact z,
    fun b o u e=>by
     have z:=dv.frzs b o u e
     rw[az (aC z dE)];exact z,
    fun b ps e=>by
     obtain⟨mo,z⟩:=dv.tbls b ps e
     exact⟨mo,by rw[az (aC z dE)];exact z⟩⟩
   have J4:Inv X Zt σ (upd H3 D (.lst ys)) s4:=af.call' (ch:=fp) (by have:=I4.os;rw[eS]at this;exact this) un kR I4.bare fun b hb=>by
    obtain⟨_,f1,f2,f3,f4,f5⟩:=hf b hb;exact⟨f3,f1,f4,f5⟩
   refine xb D C s4 ys H3 mC fin dE J4 oq ⟨?_,?_,?_,.inr ?_,?_,?_⟩
   .rw[az kr.symm];have:=I4.free;rw[eL]at this;exact this
   .have:=af.lt;rw[cy]at this;exact Nat.ne_of_gt (zB2 this (by rw[hC];exact Nat.le_succ _))
   .intro z;obtain⟨_,o,ho,_⟩:=af.funs.mem z;exact(ai ho).1 rfl
   .have:=af.sz;rw[cy]at this;lia
   .intro x c e z;obtain⟨o,ho⟩:=cv e;exact(ai ho).1 z
   .intro p hp z;exact(ai (af.pin p hp).1).1 z
  ·-- a turn
   have hd:=T.item X' eP ew eK ec i _ s3 cc H3 (fun _ _=>False) oo (iX hU kF) fw go;rw[eA]at hd;refine thn hd fun r s4 ⟨u,hr,h4⟩=>?_;subst hr;refine thn h4 fun _ s5 ⟨x,H5,I5,r5,y5,hG,qh⟩=>?_;have qo:=I5.pinned (iX hU qh) (T.obj _ _ hG);have ot:=hg _ s5 cc H5 x u _ qo r5 (turn x H5 y5);rw[eP,ew,eA,eE,eN]at ot;refine thn ot fun _ s6 ⟨fe,H6,I6,q6⟩=>?_;have dP:=ht _ s6 fe H6 _ I6 q6;rw[eP,ew,eA,eE,eN]at dP;refine thn dP fun okb s7 ⟨H7,I7,q7⟩=>?_
   have back:∀{H8:Hp} {s8:Shared},Inv X' ([(D,({cls:=.type "list",data:=.seq us.toArray k}:Obj))]++gm fp s5.heap) fe H8 s8->
     Inv X' [] fe H8 s8/\tn (i+1) s8.heap/\(∀b∈fp,H8 b=none)/\H8 D=none/\s8.heap.get? D=some {cls:=.type "list",data:=.seq us.toArray k}/\(∀b∈fp,∀o,s5.heap.get? b=some o->s8.heap.get? b=some o):=fun{H8 s8} I8=>by
    have pD:=I8.pin (D,{cls:=.type "list",data:=.seq us.toArray k}) (List.mem_append_right _ (List.mem_append_left _ (List.mem_singleton.mpr rfl)));have pf:∀b∈fp,∀o,s5.heap.get? b=some o->s8.heap.get? b=some o:=fun b hb o e=>(I8.pin (b,o) (List.mem_append_right _ (List.mem_append_right _ (cY hb e)))).1;refine⟨I8.pins_of fun p hp=>absurd hp Zy,T.keep _ _ _ hG pf,fun b hb=>?_,pD.2.1,pD.1,pf⟩;obtain⟨o,e,d⟩:=T.obj _ _ hG b hb;exact(I8.pin (b,o) (List.mem_append_right _ (List.mem_append_right _ (cY hb e)))).2.1
   cases okb with
   |false=>
    obtain⟨b1,b2,b3,b4,b5,_⟩:=back I7;obtain⟨m',hm,w7⟩:=q7;exact⟨m',hm,i+1,ys,us,k,fe,H7,b1,b2,b3,b4,b5,hJ,w7⟩
   |true=>
    have me:=he _ s7 fe H7 _ I7 q7;rw[eP,ew,eA,eE,eN]at me;show wpAny _ _ (eval elt _) _ _ s7;refine thn me fun xv s8 ⟨y,H8,I8,r8,m',hm,w8⟩=>?_;obtain⟨b1,b2,b3,b4,b5,b6⟩:=back I8;refine append_at (hsz:=by rw[zA8,<-hJ.length];exact Nat.le_of_lt hsz) b5 fun h9 qV xw=>?_
    have I9:Inv X' [] fe H8 {s8 with heap:=h9}:=b1.turned (t':=s8.toks) (fun b o hb e=>qV.extBut b o hb e) b4 (by rw[eL];exact kr) (.inr (by rw[eS,cy];exact zA3 _)) gv fun p hp=>by
     rw[zAn]at hp;exact xi p hp
    refine⟨m',hm,i+1,ys++[y],us++[xv],k+1,fe,H8,I9,T.keep _ _ _ b2 fun b hb o e=>qV.extBut b o (iN b hb).2 e,b3,b4,?_,hJ.append (.cons r8 .nil),w8⟩;show h9.get? D=_;rw[xw,List.push_toArray]
 refine codeAny_compStart_list (loop _ rfl) ?_;exact T.self _ 0 _ _ _ (T.keep _ _ _ st fun b _ o e=>old b o e) (loop _ rfl)
section
variable{X:Cx}{tg iter elt:Expr}{ifs:List Expr}{scope:Scope}{pos:Pos}{Nc:List Str}{wi:TI}{g:TG}{tt:TT}{te:TE}
theorem tV{x₀:Str}(Nc:List Str)(src:List (Option Nat))(hc:X.calm=true)(hi:PI X tg iter wi)
  (hb:∀C fp Zt s₂ H₂,PG (cxD X scope x₀ Nc C fp Zt s₂ H₂) tg g/\PTs (cxD X scope x₀ Nc C fp Zt s₂ H₂) ifs tt/\PE (cxD X scope x₀ Nc C fp Zt s₂ H₂) elt te)
  (bg:∀C,Caps X (compEnvC scope ((x₀,C+1)::cV X.env.cells scope.names []) C X.env) Nc src) (S:CScopeD X scope x₀)
  (hs:∀x,foldedSetIterable iter X.env x=pure x:=by intro _;rfl):PE X (.ListComp elt [⟨tg,iter,ifs,0⟩] scope pos) (sY wi src g tt te):=by
 intro Zt s σ H Q I h;rw[eval_ListComp];refine wpAny_comprehension_free (use:=none) rfl hs (lG S.hfree) S.kind S.hnames ?_;refine thn (hi Zt s σ H _ I h) fun v s1 h1=>thn h1 fun qa s2 h2=>?_;obtain⟨it,fp,tn,J,H2,e,I2,T,st2,f2,hW⟩:=h2;subst e;refine vm (RR:=fun acc C=>compPost (model X.prog X.w) X.A X.xe none (EP X Zt σ Q) acc C) hc S bg hb I2 T st2 f2 hW ?_;intro D C s' ys H' m fin nD J' hn fC;obtain⟨f0,f1,_,f3,f4,f5⟩:=fC;refine⟨m,hn,fun C6 hV=>?_⟩;exact⟨.ref D,_,J'.turned (t':=s'.toks) (fun b o hb e=>hV.extBut b o hb e) f0 f1 f3 f4 f5,rfl,fin D nD⟩
end
end L2
namespace Srt
open PySem PyProof.Rows
def fO:Bool->Keyed->Array Keyed->Nat->Nat->Nat->StateT SortSt Sem (Option Nat):=sortPriv% PySem.Builtin.gallop
section
variable{prog:Program}{w:World}{A:Around}{E:Value->Shared->Prop}{s:Shared}{κ:PyProof.Rows.KeyKind}
def Ja(prog:Program)(w:World)(A:Around)(E:Value->Shared->Prop)(s:Shared)(κ:PyProof.Rows.KeyKind)(st:SortSt):Prop:=
 ∀(x y:Keyed) (a b:κ.α) (Q:Option Bool->SortSt->Prop),κ.keyOf x.1=some a->κ.keyOf y.1=some b->Q (some (κ.blt a b)) st->wpS (model prog w) A E s (lt' x y) Q st
theorem bh{arr:Array Keyed}{i:Nat}{p:Keyed}{Q:Keyed->SortSt->Prop}{st:SortSt}(e:arr[i]?=some p)(h:Q p st):wpS (model prog w) A E s (elem' arr i) Q st:=by
 rw[elem'_eq,e];exact wpS_pure h
def bey(κ:PyProof.Rows.KeyKind)(left:Bool)(k:κ.α)(x:κ.α):Bool:=if left then κ.blt x k else !(κ.blt k x)
theorem dO{left:Bool}{key:Keyed}{arr:Array Keyed}{b n h:Nat}{Q:Option Nat->SortSt->Prop}{st:SortSt}{kk:κ.α}(hL:Ja prog w A E s κ st)(hk:κ.keyOf key.1=some kk)(hn:h<n)
  (ja:∀i,i<n->∃p a,arr[b+i]?=some p/\κ.keyOf p.1=some a/\KK κ arr (b+i)=a) (hm:∀i j,i<=j->j<n->bey κ left kk (KK κ arr (b+j))=true->bey κ left kk (KK κ arr (b+i))=true)
  (q:∀k,k<=n->(∀i,i<k->bey κ left kk (KK κ arr (b+i))=true)->(∀i,k<=i->i<n->bey κ left kk (KK κ arr (b+i))=false)->Q (some k) st):
  wpS (model prog w) A E s (fO left key arr b n h) Q st:=by
 have js:∀(i:Nat) (R:Option Bool->SortSt->Prop),i<n->R (some (bey κ left kk (KK κ arr (b+i)))) st->wpS (model prog w) A E s (do
   let x <-elem' arr (b+i)
   if left=true then lt' x key else do
    let r <-lt' key x
    pure (Option.map (fun x=>!x) r)) R st:=fun i R hi hR=>by
  obtain⟨p,a,e1,e2,e3⟩:=ja i hi;refine wpS_bind (bh e1 ?_);unfold bey at hR;rw[e3]at hR
  cases left with
  |true=>
   rw[zAx rfl];exact hL _ _ _ _ _ e2 hk hR
  |false=>
   rw[zAw Zx];exact wpS_bind (hL _ _ _ _ _ hk e2 (wpS_pure hR))
 generalize Nk:(fun i=>bey κ left kk (KK κ arr (b+i)))=β
 have DB:∀i,bey κ left kk (KK κ arr (b+i))=β i:=fun i=>by rw[<-Nk]
 simp only[DB]at js hm q
 delta fO
 refine wpS_bind (js h _ hn ?_)
 cases e0:β h with
 |true=>
  dsimp only;rw[if_pos rfl]
  refine wpS_bind (wpS_mono (wpS_forRange (I:=fun x c Zr=>Zr=st/\c.1=none/\c.2.1<c.2.2/\c.2.1<n-h/\x<c.2.2/\β (h+c.2.1)=true)
   (Q:=fun c Zr=>Zr=st/\c.1=none/\c.2.1<c.2.2/\c.2.1<n-h/\β (h+c.2.1)=true/\(c.2.2≥n-h\/(c.2.2<n-h/\β (h+c.2.2)=false))) ?_ ?_ ⟨rfl,rfl,(by show 0<1;decide),(by show 0<n-h;lia),(by show 0<1;decide),(show β (h+0)=true from e0)⟩) ?_)
  .rintro x ⟨c0,l,o⟩ Zr _ hx ⟨rfl,rfl,g1,g2,g3,g4⟩;dsimp only at g1 g2 g3 g4⊢;by_cases ho:o≥n-h
   .rw[zAx ho];exact wpS_pure ⟨rfl,rfl,g1,g2,g4,.inl ho⟩
   .rw[zAw ho];refine wpS_bind (js (h+o) _ Zz ?_)
    cases eb:β (h+o)with
    |true=>
     dsimp only;rw[if_neg Zx];exact wpS_pure ⟨rfl,rfl,by dsimp only;lia,by dsimp only;lia,by dsimp only;lia,eb⟩
    |false=>
     dsimp only;rw[if_pos Zx];exact wpS_pure ⟨rfl,rfl,g1,g2,g4,.inr ⟨by dsimp only;lia,eb⟩⟩
  .rintro⟨c0,l,o⟩ Zr ⟨rfl,rfl,g1,g2,g3,g4⟩;dsimp only at g1 g2 g3 g4⊢;exact⟨rfl,rfl,g1,g2,g4,.inl Zz⟩
  .rintro⟨c0,l,o⟩ Zr ⟨rfl,rfl,g1,g2,g4,g5⟩;dsimp only at g1 g2 g4 g5⊢
   have w4:∀i,h+min o (n-h)<=i->i<n->β i=false:=fun i hi hZ=>by
    rcases g5 with g5|⟨g5,g6⟩
    .lia
    .cases e2:β i with
     |false=>rfl
     |true=>
      have:=hm (h+o) i Zz hZ e2;rw[g6]at this;cases this
   obtain⟨lo,cE⟩:∃lo,lo=h+l+1:=⟨_,rfl⟩
   obtain⟨hi,ku⟩:∃hi,hi=h+min o (n-h):=⟨_,rfl⟩
   have w1:lo<=hi:=Zz
   have w2:hi<=n:=Zz
   have w3:∀i,i<lo->β i=true:=fun i hi=>hm i (h+l) Zz Zz g4;have w4:∀i,hi<=i->i<n->β i=false:=by rw[ku];exact w4
   rw[<-cE,<-ku]
   refine wpS_bind (wpS_mono (wpS_forRange (I:=fun x c c8=>c8=Zr/\c.1=none/\c.2.1<=c.2.2/\c.2.2<=n/\c.2.2-c.2.1<=n-x/\(∀i,i<c.2.1->β i=true)/\(∀i,c.2.2<=i->i<n->β i=false))
    (Q:=fun c c8=>c8=Zr/\c.1=none/\c.2.2<=n/\(∀i,i<c.2.2->β i=true)/\(∀i,c.2.2<=i->i<n->β i=false)) ?_ ?_ ⟨rfl,rfl,w1,w2,(by show hi-lo<=n-0;lia),w3,w4⟩) ?_)
   .rintro x ⟨c0,l,r⟩ c8 _ hx ⟨rfl,rfl,g1,g2,g3,g4,g5⟩;dsimp only at g1 g2 g3 g4 g5⊢;by_cases fR:l≥r
    .rw[zAx fR];have e:l=r:=Zz
     exact wpS_pure ⟨rfl,rfl,g2,by rw[<-e];exact g4,g5⟩
    .rw[zAw fR];refine wpS_bind (js (l+(r-l) / 2) _ Zz ?_)
     cases eb:β (l+(r-l) / 2)with
     |true=>
      dsimp only;rw[if_pos rfl];exact wpS_pure ⟨rfl,rfl,by dsimp only;lia,g2,by dsimp only;lia,fun i hi=>hm i _ (by dsimp only at hi;lia) Zz eb,g5⟩
     |false=>
      dsimp only;rw[if_neg Zx];refine wpS_pure ⟨rfl,rfl,by dsimp only;lia,by dsimp only;lia,by dsimp only;lia,g4,fun i hi hZ=>?_⟩
      cases e2:β i with
      |false=>rfl
      |true=>
       have:=hm (l+(r-l) / 2) i hi hZ e2;rw[eb]at this;cases this
   .rintro⟨c0,l,r⟩ c8 ⟨rfl,rfl,g1,g2,g3,g4,g5⟩;dsimp only at g1 g2 g3 g4 g5⊢;have e:l=r:=Zz
    exact⟨rfl,rfl,g2,by rw[<-e];exact g4,g5⟩
   .rintro⟨c0,l,r⟩ c8 ⟨rfl,rfl,g1,g2,g3⟩;exact wpS_pure (q _ g1 g2 g3)
 |false=>
  dsimp only;rw[if_neg Zx]
  refine wpS_bind (wpS_mono (wpS_forRange (I:=fun x c Zr=>Zr=st/\c.1=none/\c.2.1<c.2.2/\c.2.1<h+1/\x<c.2.2/\β (h-c.2.1)=false)
   (Q:=fun c Zr=>Zr=st/\c.1=none/\c.2.1<c.2.2/\c.2.1<h+1/\β (h-c.2.1)=false/\(c.2.2≥h+1\/(c.2.2<h+1/\β (h-c.2.2)=true))) ?_ ?_ ⟨rfl,rfl,(by show 0<1;decide),(by show 0<h+1;lia),(by show 0<1;decide),(show β (h-0)=false from e0)⟩) ?_)
  .rintro x ⟨c0,l,o⟩ Zr _ hx ⟨rfl,rfl,g1,g2,g3,g4⟩;dsimp only at g1 g2 g3 g4⊢;by_cases ho:o≥h+1
   .rw[zAx ho];exact wpS_pure ⟨rfl,rfl,g1,g2,g4,.inl ho⟩
   .rw[zAw ho];refine wpS_bind (js (h-o) _ Zz ?_)
    cases eb:β (h-o)with
    |false=>
     dsimp only;rw[if_neg Zx];exact wpS_pure ⟨rfl,rfl,by dsimp only;lia,by dsimp only;lia,by dsimp only;lia,eb⟩
    |true=>
     dsimp only;rw[if_pos rfl];exact wpS_pure ⟨rfl,rfl,g1,g2,g4,.inr ⟨by dsimp only;lia,eb⟩⟩
  .rintro⟨c0,l,o⟩ Zr ⟨rfl,rfl,g1,g2,g3,g4⟩;dsimp only at g1 g2 g3 g4⊢;exact⟨rfl,rfl,g1,g2,g4,.inl Zz⟩
  .rintro⟨c0,l,o⟩ Zr ⟨rfl,rfl,g1,g2,g4,g5⟩;dsimp only at g1 g2 g4 g5⊢
   have w3:∀i,i<h+1-min o (h+1)->β i=true:=fun i hi=>by
    rcases g5 with g5|⟨g5,g6⟩
    .lia
    .exact hm i (h-o) Zz Zz g6
   have w4:∀i,h-l<=i->i<n->β i=false:=fun i hi hZ=>by
    cases e2:β i with
    |false=>rfl
    |true=>
     have:=hm (h-l) i hi hZ e2;rw[g4]at this;cases this
   obtain⟨lo,cE⟩:∃lo,lo=h+1-min o (h+1):=⟨_,rfl⟩
   obtain⟨hi,ku⟩:∃hi,hi=h-l:=⟨_,rfl⟩
   have w1:lo<=hi:=Zz
   have w2:hi<=n:=Zz
   have w3:∀i,i<lo->β i=true:=by rw[cE];exact w3
   have w4:∀i,hi<=i->i<n->β i=false:=by rw[ku];exact w4
   rw[<-cE,<-ku]
   refine wpS_bind (wpS_mono (wpS_forRange (I:=fun x c c8=>c8=Zr/\c.1=none/\c.2.1<=c.2.2/\c.2.2<=n/\c.2.2-c.2.1<=n-x/\(∀i,i<c.2.1->β i=true)/\(∀i,c.2.2<=i->i<n->β i=false))
    (Q:=fun c c8=>c8=Zr/\c.1=none/\c.2.2<=n/\(∀i,i<c.2.2->β i=true)/\(∀i,c.2.2<=i->i<n->β i=false)) ?_ ?_ ⟨rfl,rfl,w1,w2,(by show hi-lo<=n-0;lia),w3,w4⟩) ?_)
   .rintro x ⟨c0,l,r⟩ c8 _ hx ⟨rfl,rfl,g1,g2,g3,g4,g5⟩;dsimp only at g1 g2 g3 g4 g5⊢;by_cases fR:l≥r
    .rw[zAx fR];have e:l=r:=Zz
     exact wpS_pure ⟨rfl,rfl,g2,by rw[<-e];exact g4,g5⟩
    .rw[zAw fR];refine wpS_bind (js (l+(r-l) / 2) _ Zz ?_)
     cases eb:β (l+(r-l) / 2)with
     |true=>
      dsimp only;rw[if_pos rfl];exact wpS_pure ⟨rfl,rfl,by dsimp only;lia,g2,by dsimp only;lia,fun i hi=>hm i _ (by dsimp only at hi;lia) Zz eb,g5⟩
     |false=>
      dsimp only;rw[if_neg Zx];refine wpS_pure ⟨rfl,rfl,by dsimp only;lia,by dsimp only;lia,by dsimp only;lia,g4,fun i hi hZ=>?_⟩
      cases e2:β i with
      |false=>rfl
      |true=>
       have:=hm (l+(r-l) / 2) i hi hZ e2;rw[eb]at this;cases this
   .rintro⟨c0,l,r⟩ c8 ⟨rfl,rfl,g1,g2,g3,g4,g5⟩;dsimp only at g1 g2 g3 g4 g5⊢;have e:l=r:=Zz
    exact⟨rfl,rfl,g2,by rw[<-e];exact g4,g5⟩
   .rintro⟨c0,l,r⟩ c8 ⟨rfl,rfl,g1,g2,g3⟩;exact wpS_pure (q _ g1 g2 g3)
end
abbrev Sm:=StateT SortSt Sem
def yw(lo a m:Nat):Sm AscSt:=
 forIn [a:m] ((none,a):AscSt) fun _ c=>do
  let x <-ltAt' (lo+c.snd) (lo+c.snd-1)
  match x with
  |some b=>if b=true then pure (ForInStep.done (none,c.snd))else pure (ForInStep.yield (none,c.snd+1))
  |_=>pure (ForInStep.done (some none,c.snd))
def pK(lo n m:Nat):Sm (Option Nat):=do
 reverseSlice' lo (lo+n)
 let c <-yw lo n m
 match c.fst with
 |some r=>pure r
 |none=>pure (some c.snd)
def wB(lo n m:Nat):Sm DescSt:=
 forIn [n:m] ((none,n,0):DescSt) fun _ c=>do
  let x <-ltAt' (lo+c.snd.fst) (lo+c.snd.fst-1)
  match x with
  |some b=>
   if b=true then
    if c.snd.snd>0 then do
     reverseSlice' (lo+c.snd.fst-(c.snd.snd+1)) (lo+c.snd.fst)
     pure (ForInStep.yield (none,c.snd.fst+1,0))
    else pure (ForInStep.yield (none,c.snd.fst+1,0))
   else do
    let y <-ltAt' (lo+c.snd.fst-1) (lo+c.snd.fst)
    match y with
    |some d=>
     if d=true then pure (ForInStep.done (none,c.snd.fst,c.snd.snd))
     else pure (ForInStep.yield (none,c.snd.fst+1,c.snd.snd+1))
    |_=>pure (ForInStep.done (some none,c.snd.fst,c.snd.snd))
  |_=>pure (ForInStep.done (some none,c.snd.fst,c.snd.snd))
def pL(lo n m:Nat):Sm (Option Nat):=do
 liftM (rule "list.sort.descending-run")
 let c <-wB lo (n+1) m
 match c.fst with
 |some r=>pure r
 |none=>
  if c.snd.snd>0 then do
   reverseSlice' (lo+c.snd.fst-(c.snd.snd+1)) (lo+c.snd.fst)
   pK lo c.snd.fst m
  else pK lo c.snd.fst m
theorem bc{α β:Type}{m m':Sm α}{f f':α->Sm β}(h:m=m')(h':f=f'):(m>>=f)=(m'>>=f'):=by rw[h,h']
theorem yx(lo m:Nat):countRun' lo m=(do
  let c <-yw lo 1 m
  match c.fst with
  |some r=>pure r
  |none=>
   if(c.snd==m)=true then pure (some c.snd)
   else if c.snd>1 then do
    let x <-ltAt' lo (lo+c.snd-1)
    match x with
    |some b=>if b=true then pure (some c.snd)else do
      reverseSlice' lo (lo+c.snd)
      pL lo c.snd m
    |_=>pure none
   else pL lo c.snd m):=by
 rw[countRun'_eq]
 have tl:∀n:Nat,((do
   reverseSlice' lo (lo+n)
   let mut n:=n
   for _ in[n:m]do
    let some smaller <-ltAt' (lo+n) (lo+n-1)|return none
    if smaller then break
    n:=n+1
   return some n):Sm (Option Nat))=pK lo n m:=fun n=>by
  unfold pK yw;refine bc rfl (funext fun u=>bc rfl (funext fun c=>?_));obtain⟨r,n⟩:=c;cases r<;>rfl
 have pl:∀n:Nat,((do
   rule "list.sort.descending-run"
   let mut n:=n+1
   let mut neq:=0
   for _ in[n:m]do
    let some smaller <-ltAt' (lo+n) (lo+n-1)|return none
    if smaller then
     if neq>0 then reverseSlice' (lo+n-(neq+1)) (lo+n)
     neq:=0
    else
     let some larger <-ltAt' (lo+n-1) (lo+n)|return none
     if larger then break
     neq:=neq+1
    n:=n+1
   if neq>0 then reverseSlice' (lo+n-(neq+1)) (lo+n)
   reverseSlice' lo (lo+n)
   for _ in[n:m]do
    let some smaller <-ltAt' (lo+n) (lo+n-1)|return none
    if smaller then break
    n:=n+1
   return some n):Sm (Option Nat))=pL lo n m:=fun n=>by
  unfold pL wB;refine bc rfl (funext fun u=>bc rfl (funext fun c=>?_));obtain⟨r,n2,q2⟩:=c
  cases r with
  |some r=>rfl
  |none=>
   dsimp only;split
   .exact bc rfl (funext fun u=>tl n2)
   .exact tl n2
 unfold yw;refine bc rfl (funext fun c=>?_);obtain⟨r,n⟩:=c
 cases r with
 |some r=>rfl
 |none=>
  dsimp only;split
  .rfl
  .split
   .refine bc rfl (funext fun x=>?_)
    cases x with
    |none=>rfl
    |some b=>
     dsimp only;split
     .rfl
     .exact bc rfl (funext fun u=>pl n)
   .exact pl n
structure SB(ks:SortKind)(ae:Array Keyed)(st:SortSt):Prop where
 kind:kindOf st=ks
 ok:failedOf st=none
 pm:(arrOf st).Perm ae
def Seg(κ:PyProof.Rows.KeyKind)(xs:Array Keyed)(a b:Nat):Prop:=∀i j,a<=i->i<=j->j<b->κ.kle (KK κ xs i) (KK κ xs j)
def Non(κ:PyProof.Rows.KeyKind)(xs:Array Keyed)(a b:Nat):Prop:=∀i j,a<=i->i<=j->j<b->κ.kle (KK κ xs j) (KK κ xs i)
structure Out(st Zr:SortSt)(a b:Nat):Prop where
 out:∀k,(k<a\/b<=k)->(arrOf Zr)[k]?=(arrOf st)[k]?
 pend:pendingOf Zr=pendingOf st
theorem Out.refl(st:SortSt)(a b:Nat):Out st st a b:=⟨fun _ _=>rfl,rfl⟩
theorem Out.trans{st gz st2:SortSt}{a b:Nat}(h:Out st gz a b)(h':Out gz st2 a b):Out st st2 a b:=⟨fun k hk=>(h'.out k hk).trans (h.out k hk),h'.pend.trans h.pend⟩
section
variable{prog:Program}{w:World}{A:Around}{E:Value->Shared->Prop}{s:Shared}{κ:PyProof.Rows.KeyKind}{ks:SortKind}{ae:Array Keyed}
def LtAll(prog:Program)(w:World)(A:Around)(E:Value->Shared->Prop)(s:Shared)(κ:PyProof.Rows.KeyKind)(ks:SortKind):Prop:=∀st,kindOf st=ks->Ja prog w A E s κ st
theorem SB.size{st:SortSt}(B:SB ks ae st):(arrOf st).size=ae.size:=B.pm.size_eq
theorem SB.item{st:SortSt}(B:SB ks ae st)(h0:KeysOf κ ae){i:Nat}(hi:i<ae.size):∃p a,(arrOf st)[i]?=some p/\κ.keyOf p.1=some a/\KK κ (arrOf st) i=a:=by
 have hX:i<(arrOf st).size:=by rw[B.size];exact hi
 have e:(arrOf st)[i]?=some (arrOf st)[i]:=Array.getElem?_eq_getElem hX;have hm:(arrOf st)[i]∈ae.toList:=(Array.perm_iff_toList_perm.mp B.pm).mem_iff.mp (Array.mem_toList_iff.mpr (Array.getElem_mem hX));obtain⟨a,ha⟩:=h0 _ hm;refine⟨_,a,e,ha,?_⟩;unfold KK;rw[e];dsimp only;rw[ha];rfl
theorem SB.arr{st:SortSt}(B:SB ks ae st){xs:Array Keyed}(h:xs.Perm (arrOf st)):SB ks ae (setArr st xs):=⟨B.kind,B.ok,h.trans B.pm⟩
theorem ltA(hL:LtAll prog w A E s κ ks){st:SortSt}{i j:Nat}{Q:Option Bool->SortSt->Prop}(B:SB ks ae st)(h0:KeysOf κ ae)(hi:i<ae.size)(hj:j<ae.size)(h:Q (some (κ.blt (KK κ (arrOf st) i) (KK κ (arrOf st) j))) st):
  wpS (model prog w) A E s (ltAt' i j) Q st:=by
 obtain⟨p,a,e1,ka,ea⟩:=B.item (κ:=κ) h0 hi;obtain⟨q,b,e2,kb,eb⟩:=B.item (κ:=κ) h0 hj;rw[ea,eb]at h;rw[ltAt'_eq];refine wpS_bind (wpS_get (wpS_bind (bh e1 (wpS_bind (bh e2 ?_)))));exact hL st B.kind p q a b Q ka kb h
theorem qY{st:SortSt}{i j:Nat}{Q:Unit->SortSt->Prop}(h:Q () (setArr st (mirror (arrOf st) i j ((j-i) / 2)))):wpS (model prog w) A E s (reverseSlice' i j) Q st:=wpS_reverse h
theorem Out.rev{st:SortSt}{i j a b:Nat}(hj:j<=(arrOf st).size)(h1:a<=i)(h2:j<=b):Out st (setArr st (mirror (arrOf st) i j ((j-i) / 2))) a b:=by
 refine⟨fun k hk=>?_,rfl⟩;show(mirror (arrOf st) i j ((j-i) / 2))[k]?=_;rw[getElem?_mirror_all hj,zAw Zz]
theorem wC(hL:LtAll prog w A E s κ ks)(h0:KeysOf κ ae){st:SortSt}{lo a m:Nat}{Q:AscSt->SortSt->Prop}(hn:lo+m<=ae.size)(ha:1<=a)(Nl:a<=m)(B:SB ks ae st)(hs:Seg κ (arrOf st) lo (lo+a))
  (h:∀n,a<=n->n<=m->Seg κ (arrOf st) lo (lo+n)->(n=m\/κ.klt (KK κ (arrOf st) (lo+n)) (KK κ (arrOf st) (lo+n-1)))->Q (none,n) st):wpS (model prog w) A E s (yw lo a m) Q st:=by
 unfold yw;refine wpS_forRange (I:=fun x c Zr=>Zr=st/\c=(none,x)/\Seg κ (arrOf st) lo (lo+x)) ?_ ?_ ⟨rfl,rfl,hs⟩
 .rintro x c Zr DC Nm ⟨rfl,rfl,cm⟩;dsimp only;refine wpS_bind (ltA hL B h0 Zz Zz ?_)
  cases e:κ.blt (KK κ (arrOf Zr) (lo+x)) (KK κ (arrOf Zr) (lo+x-1))with
  |true=>
   dsimp only;rw[if_pos rfl];exact wpS_pure (h x DC Zz cm (.inr e))
  |false=>
   dsimp only;rw[if_neg Zx];refine wpS_pure ⟨rfl,rfl,fun i j hi cq hj=>?_⟩;by_cases xI:j<lo+x
   .exact cm i j hi cq xI
   .have ej:j=lo+x:=Zz
    subst ej;by_cases ei:i=lo+x
    .rw[ei];exact KeyOrd.kle_refl _
    .exact KeyOrd.kle_trans (cm i (lo+x-1) hi Zz Zz) e
 .rintro c Zr ⟨rfl,rfl,cm⟩;rw[show max a m=m by lia]at cm⊢;exact h m Nl (zA3 _) cm (.inl rfl)
theorem tX(hL:LtAll prog w A E s κ ks)(h0:KeysOf κ ae){st:SortSt}{lo n m:Nat}{Q:Option Nat->SortSt->Prop}(hn:lo+m<=ae.size)(h1:1<=n)(mI:n<=m)(B:SB ks ae st)(hs:Non κ (arrOf st) lo (lo+n))
  (h:∀k Zr,SB ks ae Zr->Out st Zr lo (lo+m)->1<=k->k<=m->Seg κ (arrOf Zr) lo (lo+k)->Q (some k) Zr):wpS (model prog w) A E s (pK lo n m) Q st:=by
 unfold pK;have hsz:lo+n<=(arrOf st).size:=by rw[B.size];lia
 refine wpS_bind (qY ?_);have B':=B.arr (mirror_perm (arrOf st) lo (lo+n) ((lo+n-lo) / 2));refine wpS_bind (wC hL h0 hn h1 mI B' ?_ fun k Tq xS Nn _=>wpS_pure (h k _ B' (Out.rev hsz (zA3 _) Zz) Zz xS Nn));intro i j hi cq hj;show κ.kle (KK κ (mirror (arrOf st) lo (lo+n) ((lo+n-lo) / 2)) i) (KK κ (mirror (arrOf st) lo (lo+n) ((lo+n-lo) / 2)) j);rw[KK_mirror hsz,KK_mirror hsz,zAx Zz,zAx Zz];exact hs _ _ Zz Zz Zz
theorem Ae(hL:LtAll prog w A E s κ ks)(h0:KeysOf κ ae){st:SortSt}{lo n m:Nat}{Q:DescSt->SortSt->Prop}(hn:lo+m<=ae.size)(h1:1<=n)(mI:n<=m)(B:SB ks ae st)(hs:Non κ (arrOf st) lo (lo+n))
  (h:∀k q Zr,SB ks ae Zr->Out st Zr lo (lo+m)->n<=k->k<=m->Non κ (arrOf Zr) lo (lo+k)->q+1<=k->(∀i,lo+k-(q+1)<=i->i<lo+k->KK κ (arrOf Zr) i=KK κ (arrOf Zr) (lo+k-1))->Q (none,k,q) Zr):
  wpS (model prog w) A E s (wB lo n m) Q st:=by
 unfold wB
 refine wpS_forRange (I:=fun x c Zr=>∃q,c=(none,x,q)/\SB ks ae Zr/\Out st Zr lo (lo+m)/\Non κ (arrOf Zr) lo (lo+x)/\q+1<=x/\(∀i,lo+x-(q+1)<=i->i<lo+x->KK κ (arrOf Zr) i=KK κ (arrOf Zr) (lo+x-1))) ?_ ?_
  ⟨0,rfl,B,Out.refl _ _ _,hs,Zz,fun i z1 z2=>by congr 1;lia⟩
 .rintro x c Zr DC Nm ⟨q,rfl,B',O',cm,hq,he⟩;dsimp only;have hsz:lo+x<=(arrOf Zr).size:=by rw[B'.size];lia
  refine wpS_bind (ltA hL B' h0 Zz Zz ?_)
  cases e:κ.blt (KK κ (arrOf Zr) (lo+x)) (KK κ (arrOf Zr) (lo+x-1))with
  |true=>
   dsimp only;rw[if_pos rfl]
   have more:∀xs:Array Keyed,(∀k,KK κ xs k=KK κ (arrOf Zr) k)->Non κ xs lo (lo+(x+1)):=fun xs hk i j hi cq hj=>by
    rw[hk,hk];by_cases xI:j<lo+x
    .exact cm i j hi cq xI
    .have ej:j=lo+x:=Zz
     subst ej;by_cases ei:i=lo+x
     .rw[ei];exact KeyOrd.kle_refl _
     .exact KeyOrd.kle_trans (KeyOrd.kle_of_klt e) (cm i (lo+x-1) hi Zz Zz)
   by_cases yb:q>0
   .rw[zAx yb];refine wpS_bind (qY (wpS_pure ⟨0,rfl,B'.arr (mirror_perm _ _ _ _),O'.trans (Out.rev hsz Zz Zz),more _ (KK_mirror_equal hsz he),Zz,fun i z1 z2=>by congr 1;lia⟩))
   .rw[zAw yb];exact wpS_pure ⟨0,rfl,B',O',more _ (fun _=>rfl),Zz,fun i z1 z2=>by congr 1;lia⟩
  |false=>
   dsimp only;rw[if_neg Zx];refine wpS_bind (ltA hL B' h0 Zz Zz ?_)
   cases e2:κ.blt (KK κ (arrOf Zr) (lo+x-1)) (KK κ (arrOf Zr) (lo+x))with
   |true=>
    dsimp only;rw[if_pos rfl];exact wpS_pure (h x q Zr B' O' DC Zz cm hq he)
   |false=>
    dsimp only;rw[if_neg Zx];have ex:KK κ (arrOf Zr) (lo+x)=KK κ (arrOf Zr) (lo+x-1):=KeyOrd.kle_antisymm e2 e;refine wpS_pure ⟨q+1,rfl,B',O',fun i j hi cq hj=>?_,Zz,fun i z1 z2=>?_⟩
    .by_cases xI:j<lo+x
     .exact cm i j hi cq xI
     .have ej:j=lo+x:=Zz
      subst ej;by_cases ei:i=lo+x
      .rw[ei];exact KeyOrd.kle_refl _
      .rw[ex];exact cm i (lo+x-1) hi Zz Zz
    .rw[show lo+(x+1)-1=lo+x by lia];by_cases ei:i=lo+x
     .rw[ei]
     .rw[ex];exact he i Zz Zz
 .rintro c Zr ⟨q,rfl,B',O',cm,hq,he⟩;rw[show max n m=m by lia]at cm hq he⊢;exact h m q Zr B' O' mI (zA3 _) cm hq he
theorem tY(hL:LtAll prog w A E s κ ks)(h0:KeysOf κ ae){st:SortSt}{lo n m:Nat}{Q:Option Nat->SortSt->Prop}(hn:lo+m<=ae.size)(mI:n+1<=m)(B:SB ks ae st)(hs:Non κ (arrOf st) lo (lo+(n+1)))
  (h:∀k Zr,SB ks ae Zr->Out st Zr lo (lo+m)->1<=k->k<=m->Seg κ (arrOf Zr) lo (lo+k)->Q (some k) Zr):wpS (model prog w) A E s (pL lo n m) Q st:=by
 unfold pL;refine wpS_bind (wpS_lift (wpAny_rule ⟨rfl,?_⟩));refine wpS_bind (Ae hL h0 hn Zz mI B hs fun k q Zr B' O' k1 k2 cm hq he=>?_);dsimp only;have hsz:lo+k<=(arrOf Zr).size:=by rw[B'.size];lia
 by_cases yb:q>0
 .rw[zAx yb];refine wpS_bind (qY (tX hL h0 hn Zz k2 (B'.arr (mirror_perm _ _ _ _)) ?_ fun k' st2 B2 O2=>h k' st2 B2 ((O'.trans (Out.rev hsz Zz Zz)).trans O2)));intro i j hi cq hj;show κ.kle (KK κ (mirror (arrOf Zr) _ _ _) j) (KK κ (mirror (arrOf Zr) _ _ _) i);rw[KK_mirror_equal hsz he,KK_mirror_equal hsz he];exact cm i j hi cq hj
 .rw[zAw yb];exact tX hL h0 hn Zz k2 B' cm fun k' st2 B2 O2=>h k' st2 B2 (O'.trans O2)
theorem Af(hL:LtAll prog w A E s κ ks)(h0:KeysOf κ ae){st:SortSt}{lo m:Nat}{Q:Option Nat->SortSt->Prop}(hn:lo+m<=ae.size)(h1:1<=m)(B:SB ks ae st)
  (h:∀k Zr,SB ks ae Zr->Out st Zr lo (lo+m)->1<=k->k<=m->Seg κ (arrOf Zr) lo (lo+k)->Q (some k) Zr):wpS (model prog w) A E s (countRun' lo m) Q st:=by
 rw[yx];refine wpS_bind (wC hL h0 hn (zA3 1) h1 B (fun i j hi cq hj=>by have:i=j:=Zz;rw[this];exact KeyOrd.kle_refl _) fun n n1 n2 A4 Np=>?_);dsimp only;by_cases mI:n=m
 .rw[if_pos (by simpa using mI)];exact wpS_pure (h n st B (Out.refl _ _ _) n1 n2 A4)
 .rw[if_neg (by simpa using mI)];have bp:=Np.resolve_left mI;by_cases JO:n>1
  .rw[zAx JO];refine wpS_bind (ltA hL B h0 Zz Zz ?_)
   cases e:κ.blt (KK κ (arrOf st) lo) (KK κ (arrOf st) (lo+n-1))with
   |true=>
    dsimp only;rw[if_pos rfl];exact wpS_pure (h n st B (Out.refl _ _ _) n1 n2 A4)
   |false=>
    dsimp only;rw[if_neg Zx];have hsz:lo+n<=(arrOf st).size:=by rw[B.size];lia
    have fF:∀k,lo<=k->k<lo+n->KK κ (arrOf st) k=KK κ (arrOf st) (lo+n-1):=fun k tj hk=>by
     have a1:=A4 lo k (zA3 _) tj hk;have a2:=A4 k (lo+n-1) tj Zz Zz;exact KeyOrd.kle_antisymm a2 (KeyOrd.kle_trans e a1)
    refine wpS_bind (qY (tY hL h0 hn Zz (B.arr (mirror_perm _ _ _ _)) ?_ fun k st2 B2 O2=>h k st2 B2 ((Out.rev hsz (zA3 _) Zz).trans O2)));intro i j hi cq hj;show κ.kle (KK κ (mirror (arrOf st) _ _ _) j) (KK κ (mirror (arrOf st) _ _ _) i);rw[KK_mirror_equal hsz fF,KK_mirror_equal hsz fF];by_cases Nq:j<lo+n
    .rw[fF i hi Zz,fF j Zz Nq];exact KeyOrd.kle_refl _
    .have ej:j=lo+n:=Zz
     subst ej;by_cases ei:i=lo+n
     .rw[ei];exact KeyOrd.kle_refl _
     .rw[fF i hi Zz];exact KeyOrd.kle_of_klt bp
  .rw[zAw JO];have e1:n=1:=Zz
   subst e1;refine tY hL h0 hn Zz B ?_ h;intro i j hi cq hj;by_cases ei:i=j
   .rw[ei];exact KeyOrd.kle_refl _
   .have i0:i=lo:=Zz
    have j1:j=lo+1:=Zz
    rw[i0,j1];exact KeyOrd.kle_of_klt bp
theorem Hl(hL:LtAll prog w A E s κ ks)(h0:KeysOf κ ae){st:SortSt}{lo n ok:Nat}{Q:Bool->SortSt->Prop}(hn:lo+n<=ae.size)(hok:ok<=n)(B:SB ks ae st)(hs:Seg κ (arrOf st) lo (lo+ok))
  (h:∀Zr,SB ks ae Zr->Out st Zr lo (lo+n)->Seg κ (arrOf Zr) lo (lo+n)->Q true Zr):wpS (model prog w) A E s (binarySort' lo n ok) Q st:=by
 rw[binarySort'_eq]
 refine wpS_bind (wpS_mono (wpS_forRange (I:=fun k c Zr=>c=(none,())/\SB ks ae Zr/\Out st Zr lo (lo+n)/\Seg κ (arrOf Zr) lo (lo+min k n))
  (Q:=fun c Zr=>c=(none,())/\SB ks ae Zr/\Out st Zr lo (lo+n)/\Seg κ (arrOf Zr) lo (lo+n)) ?_ ?_ ?_) ?_)
 .rintro k c Zr tj Tt ⟨rfl,B',O',cm⟩;rw[show min k n=k by lia]at cm
  refine wpS_bind (wpS_mono (wpS_forRange (I:=fun x c st2=>st2=Zr/\∃l r,c=(none,l,r)/\l<=r/\r<=k/\r-l<=k-x/\(∀i,i<l->κ.kle (KK κ (arrOf Zr) (lo+i)) (KK κ (arrOf Zr) (lo+k)))/\(∀i,r<=i->i<k->κ.klt (KK κ (arrOf Zr) (lo+k)) (KK κ (arrOf Zr) (lo+i))))
   (Q:=fun c st2=>st2=Zr/\∃l r,c=(none,l,r)/\l<=k/\(∀i,i<l->κ.kle (KK κ (arrOf Zr) (lo+i)) (KK κ (arrOf Zr) (lo+k)))/\(∀i,l<=i->i<k->κ.klt (KK κ (arrOf Zr) (lo+k)) (KK κ (arrOf Zr) (lo+i)))) ?_ ?_ ?_) ?_)
  .rintro x c st2 _ Tu ⟨rfl,l,r,rfl,fR,tq,hm,cE,ku⟩;dsimp only;by_cases oz:l≥r
   .rw[zAx oz];have e:l=r:=Zz
    subst e;exact wpS_pure ⟨rfl,l,l,rfl,tq,cE,ku⟩
   .rw[zAw oz];refine wpS_bind (ltA hL B' h0 Zz Zz ?_)
    cases e:κ.blt (KK κ (arrOf st2) (lo+k)) (KK κ (arrOf st2) (lo+(l+r) / 2))with
    |true=>
     dsimp only;rw[if_pos rfl];exact wpS_pure ⟨rfl,l,(l+r) / 2,rfl,Zz,Zz,Zz,cE,fun i z1 z2=>KeyOrd.klt_of_klt_of_kle e (cm (lo+(l+r) / 2) (lo+i) Zz Zz Zz)⟩
    |false=>
     dsimp only;rw[if_neg Zx];exact wpS_pure ⟨rfl,(l+r) / 2+1,r,rfl,Zz,Zz,Zz,fun i z1=>KeyOrd.kle_trans (cm (lo+i) (lo+(l+r) / 2) Zz Zz Zz) (show κ.kle _ _ from e),ku⟩
  .rintro c st2 ⟨rfl,l,r,rfl,fR,tq,hm,cE,ku⟩;have e:l=r:=Zz
   subst e;exact⟨rfl,l,l,rfl,tq,cE,ku⟩
  .exact⟨rfl,0,k,rfl,Zz,Zz,Zz,fun i hi=>by lia,fun i z1 z2=>by lia⟩
  .rintro c st2 ⟨rfl,l,r,rfl,jv,cE,ku⟩;show wpS _ _ _ _ (do moveDown' (lo+k) (lo+l);pure (ForInStep.yield (none,()))) _ _;rw[moveDown'_eq];have DD:lo+k<(arrOf st2).size:=by rw[B'.size];lia
   refine wpS_bind (wpS_modify (wpS_pure ⟨rfl,B'.arr (bubble_perm _ _ _),O'.trans ⟨fun z hz=>?_,rfl⟩,?_⟩))
   .show(bubble (arrOf st2) (lo+k) (lo+k-(lo+l)))[z]?=_;rw[getElem?_bubble DD _ Zz,zAw Zz,zAw Zz]
   .rw[show min (k+1) n=k+1 by lia];intro i j hi cq hj;show κ.kle (KK κ (bubble (arrOf st2) (lo+k) (lo+k-(lo+l))) i) (KK κ (bubble (arrOf st2) (lo+k) (lo+k-(lo+l))) j);rw[KK_bubble DD Zz,KK_bubble DD Zz,show lo+k-(lo+k-(lo+l))=lo+l by lia]
    have DE:∀z,lo<=z->z<lo+l->κ.kle (KK κ (arrOf st2) z) (KK κ (arrOf st2) (lo+k)):=fun z z1 z2=>by
     have:=cE (z-lo) Zz;rw[show lo+(z-lo)=z by lia]at this;exact this
    have DF:∀z,lo+l<=z->z<lo+k->κ.kle (KK κ (arrOf st2) (lo+k)) (KK κ (arrOf st2) z):=fun z z1 z2=>by
     have:=ku (z-lo) Zz Zz;rw[show lo+(z-lo)=z by lia]at this;exact KeyOrd.kle_of_klt this
    repeat' split
    all_goals first
     | (exfalso;lia)
     |exact KeyOrd.kle_refl _
     |exact DE _ Zz Zz
     |exact DF _ Zz Zz
     |exact cm _ _ Zz Zz Zz
 .rintro c Zr ⟨hc,B',O',cm⟩;refine⟨hc,B',O',?_⟩
  rwa [show min (max (max ok 1) n) n=n by lia]at cm
 .refine⟨rfl,B,Out.refl _ _ _,fun i j hi cq hj=>?_⟩;by_cases z:ok=0
  .have e:i=j:=Zz
   rw[e];exact KeyOrd.kle_refl _
  .exact hs i j hi cq Zz
 .rintro c Zr ⟨rfl,B',O',cm⟩;exact wpS_pure (h Zr B' O' cm)
end
section
variable{α:Type}{le:α->α->Prop}
structure MI(le:α->α->Prop)(la lb lo:List α)(ia ib:Nat):Prop where
 pm:lo.Perm (la.take ia++lb.take ib)
 sr:lo.Pairwise le
 be:∀x∈lo,∀y,y∈la.drop ia\/y∈lb.drop ib->le x y
theorem ie{l:List α}{i j:Nat}{y:α}(cq:i<=j)(h:y∈l.drop j):y∈l.drop i:=by
 have:l.drop j=(l.drop i).drop (j-i):=by rw[List.drop_drop];congr 1;lia
 rw[this]at h;exact List.mem_of_mem_drop h
theorem wG{l:List α}(h:l.Pairwise le){i j:Nat}(cq:i<=j):∀x∈(l.drop i).take (j-i),∀y∈l.drop j,le x y:=by
 have e:l.drop i=(l.drop i).take (j-i)++l.drop j:=by
  have:=zBb (j-i) (l.drop i);rw[List.drop_drop]at this;rw[show i+(j-i)=j by lia]at this;exact this.symm
 have hp:(l.drop i).Pairwise le:=h.sublist (List.drop_sublist _ _);rw[e]at hp;exact fun x hx y hy=>(List.pairwise_append.mp hp).2.2 x hx y hy
theorem pM(l:List α)(i k:Nat):l.take (i+k)=l.take i++(l.drop i).take k:=List.take_add
theorem MI.segA{la lb lo:List α}{ia ib k:Nat}(m:MI le la lb lo ia ib)(sa:la.Pairwise le)(h:∀x∈(la.drop ia).take k,∀y∈lb.drop ib,le x y):MI le la lb (lo++(la.drop ia).take k) (ia+k) ib:=by
 refine⟨?_,List.pairwise_append.mpr ⟨m.sr,(sa.sublist (List.drop_sublist _ _)).sublist (List.take_sublist _ _),fun x hx y hy=>m.be x hx y (.inl (List.mem_of_mem_take hy))⟩,fun x hx y hy=>?_⟩
 .rw[pM];refine(m.pm.append_right _).trans ?_;rw[zAf,zAf];exact List.Perm.append_left _ (List.perm_append_comm)
 .rcases zA6.mp hx with z|z
  .exact m.be x z y (hy.imp (ie Zz) id)
  .rcases hy with hy|hy
   .have:=wG sa (i:=ia) (j:=ia+k) Zz x (by rw[show ia+k-ia=k by lia];exact z) y hy;exact this
   .exact h x z y hy
theorem MI.segB{la lb lo:List α}{ia ib k:Nat}(m:MI le la lb lo ia ib)(sb:lb.Pairwise le)(h:∀x∈(lb.drop ib).take k,∀y∈la.drop ia,le x y):MI le la lb (lo++(lb.drop ib).take k) ia (ib+k):=by
 refine⟨?_,List.pairwise_append.mpr ⟨m.sr,(sb.sublist (List.drop_sublist _ _)).sublist (List.take_sublist _ _),fun x hx y hy=>m.be x hx y (.inr (List.mem_of_mem_take hy))⟩,fun x hx y hy=>?_⟩
 .rw[pM];refine(m.pm.append_right _).trans ?_;rw[zAf]
 .rcases zA6.mp hx with z|z
  .exact m.be x z y (hy.imp id (ie Zz))
  .rcases hy with hy|hy
   .exact h x z y hy
   .have:=wG sb (i:=ib) (j:=ib+k) Zz x (by rw[show ib+k-ib=k by lia];exact z) y hy;exact this
structure Done(le:α->α->Prop)(la lb lo:List α):Prop where
 pm:lo.Perm (la++lb)
 sr:lo.Pairwise le
theorem MI.endB{la lb lo:List α}{ia ib:Nat}(m:MI le la lb lo ia ib)(sa:la.Pairwise le)(hb:lb.length<=ib):Done le la lb (lo++la.drop ia++lb.drop ib):=by
 have e:lb.drop ib=[]:=List.drop_of_length_le hb;have e2:lb.take ib=lb:=List.take_of_length_le hb;rw[e,zAn];refine⟨?_,List.pairwise_append.mpr ⟨m.sr,sa.sublist (List.drop_sublist _ _),fun x hx y hy=>m.be x hx y (.inl hy)⟩⟩;have:=m.pm;rw[e2]at this;refine(this.append_right _).trans ?_;rw[zAf];refine(List.Perm.append_left _ List.perm_append_comm).trans ?_;rw[<-zAf,zBb]
theorem MI.endA{la lb lo:List α}{ia ib:Nat}(m:MI le la lb lo ia ib)(sb:lb.Pairwise le)(ha:la.length<=ia):Done le la lb (lo++la.drop ia++lb.drop ib):=by
 have e:la.drop ia=[]:=List.drop_of_length_le ha;have e2:la.take ia=la:=List.take_of_length_le ha;rw[e,zAn];refine⟨?_,List.pairwise_append.mpr ⟨m.sr,sb.sublist (List.drop_sublist _ _),fun x hx y hy=>m.be x hx y (.inr hy)⟩⟩;have:=m.pm;rw[e2]at this;refine(this.append_right _).trans ?_;rw[zAf,zBb]
theorem MI.last{la lb lo:List α}{ia ib:Nat}(m:MI le la lb lo ia ib)(sa:la.Pairwise le)(sb:lb.Pairwise le)(h:∀y∈lb.drop ib,∀x∈la.drop ia,le y x):Done le la lb (lo++lb.drop ib++la.drop ia):=by
 refine⟨?_,List.pairwise_append.mpr ⟨List.pairwise_append.mpr ⟨m.sr,sb.sublist (List.drop_sublist _ _),fun x hx y hy=>m.be x hx y (.inr hy)⟩,sa.sublist (List.drop_sublist _ _),fun x hx y hy=>?_⟩⟩
 .refine((m.pm.append_right _).append_right _).trans ?_
  have e:(la.take ia++lb.take ib++lb.drop ib++la.drop ia)=la.take ia++(lb++la.drop ia):=by
   rw[zAf (la.take ia),zBb,zAf]
  rw[e];refine(List.Perm.append_left _ List.perm_append_comm).trans ?_;rw[<-zAf,zBb]
 .rcases zA6.mp hx with z|z
  .exact m.be x z y (.inl hy)
  .exact h x z y hy
end
def jn:Array Keyed->Array Keyed->Sm (Array Keyed):=sortPriv% PySem.Builtin.mergeLo
def jo:Nat->Sm Unit:=sortPriv% PySem.Builtin.setMinGallop
abbrev C1:=Option (Array Keyed)×Array Keyed×Nat×Nat×Nat×Nat
abbrev C2:=Option (Array Keyed)×Array Keyed×Nat×Nat×Nat×Nat×Nat
abbrev C0:=Option (Array Keyed)×Array Keyed×Nat×Nat×Nat
def one(a b:Array Keyed)(g:Nat)(out:Array Keyed)(ia ib ac bc:Nat):Sm (ForInStep C1):=do
 let y <-elem' b ib
 let x <-elem' a ia
 let r <-lt' y x
 match r with
 |some w=>
  if w=true then do
   let y <-elem' b ib
   if(ib+1==b.size)=true then pure (ForInStep.done (some (out.push y++a.extract ia a.size++b.extract (ib+1) b.size),out.push y,ia,ib+1,0,bc+1))
   else if bc+1≥g then pure (ForInStep.done (none,out.push y,ia,ib+1,0,bc+1))else pure (ForInStep.yield (none,out.push y,ia,ib+1,0,bc+1))
  else do
   let x <-elem' a ia
   if(ia+1+1==a.size)=true then pure (ForInStep.done (some (out.push x++b.extract ib b.size++a.extract (ia+1) a.size),out.push x,ia+1,ib,ac+1,0))
   else if ac+1≥g then pure (ForInStep.done (none,out.push x,ia+1,ib,ac+1,0))else pure (ForInStep.yield (none,out.push x,ia+1,ib,ac+1,0))
 |_=>pure (ForInStep.done (some (out++a.extract ia a.size++b.extract ib b.size),out,ia,ib,ac,bc))
def gl4(a b:Array Keyed)(out:Array Keyed)(ia ib g k k1:Nat):Sm (ForInStep C2):=do
 let x <-elem' a ia
 if(ia+1+1==a.size)=true then pure (ForInStep.done (some (out.push x++b.extract ib b.size++a.extract (ia+1) a.size),out.push x,ia+1,ib,g,k,k1))
 else if(decide (k<7)&&decide (k1<7))=true then pure (ForInStep.done (none,out.push x,ia+1,ib,g,k,k1))else pure (ForInStep.yield (none,out.push x,ia+1,ib,g,k,k1))
def gl3(a b:Array Keyed)(out:Array Keyed)(ia ib g k bc:Nat):Sm (ForInStep C2):=do
 let x <-elem' a ia
 let r <-fO true x b ib (b.size-ib) 0
 match r with
 |some k1=>
  if k1>0 then
   if(ib+k1==b.size)=true then pure (ForInStep.done (some (out++b.extract ib (ib+k1)++a.extract ia a.size++b.extract (ib+k1) b.size),out++b.extract ib (ib+k1),ia,ib+k1,g,k,k1))
   else gl4 a b (out++b.extract ib (ib+k1)) ia (ib+k1) g k k1
  else gl4 a b out ia ib g k k1
 |_=>pure (ForInStep.done (some (out++a.extract ia a.size++b.extract ib b.size),out,ia,ib,g,k,bc))
def gl2(a b:Array Keyed)(out:Array Keyed)(ia ib g k bc:Nat):Sm (ForInStep C2):=do
 let y <-elem' b ib
 if(ib+1==b.size)=true then pure (ForInStep.done (some (out.push y++a.extract ia a.size++b.extract (ib+1) b.size),out.push y,ia,ib+1,g,k,bc))
 else gl3 a b (out.push y) ia (ib+1) g k bc
def gl1(a b:Array Keyed)(out:Array Keyed)(ia ib g ac bc:Nat):Sm (ForInStep C2):=do
 jo g
 let y <-elem' b ib
 let r <-fO false y a ia (a.size-ia) 0
 match r with
 |some k=>
  if k>0 then
   if(ia+k+1==a.size)=true then pure (ForInStep.done (some (out++a.extract ia (ia+k)++b.extract ib b.size++a.extract (ia+k) a.size),out++a.extract ia (ia+k),ia+k,ib,g,k,bc))
   else if(ia+k==a.size)=true then pure (ForInStep.done (some (out++a.extract ia (ia+k)++a.extract (ia+k) a.size++b.extract ib b.size),out++a.extract ia (ia+k),ia+k,ib,g,k,bc))
   else gl2 a b (out++a.extract ia (ia+k)) (ia+k) ib g k bc
  else gl2 a b out ia ib g k bc
 |_=>pure (ForInStep.done (some (out++a.extract ia a.size++b.extract ib b.size),out,ia,ib,g,ac,bc))
def gal(a b:Array Keyed)(out:Array Keyed)(ia ib g ac bc:Nat):Sm (ForInStep C2):=if g>1 then gl1 a b out ia ib (g-1) ac bc else gl1 a b out ia ib g ac bc
def round(a b:Array Keyed)(out:Array Keyed)(ia ib g:Nat):Sm (ForInStep C0):=do
 let c <-forIn [0:a.size+b.size] ((none,out,ia,ib,0,0):C1) fun _ c=>one a b g c.2.1 c.2.2.1 c.2.2.2.1 c.2.2.2.2.1 c.2.2.2.2.2
 match c.1 with
 |some r=>pure (ForInStep.done (some r,c.2.1,c.2.2.1,c.2.2.2.1,g))
 |none=>do
  liftM (rule "list.sort.gallop")
  let d <-forIn [0:a.size+b.size] ((none,c.2.1,c.2.2.1,c.2.2.2.1,g+1,c.2.2.2.2.1,c.2.2.2.2.2):C2) fun _ d=>gal a b d.2.1 d.2.2.1 d.2.2.2.1 d.2.2.2.2.1 d.2.2.2.2.2.1 d.2.2.2.2.2.2
  match d.1 with
  |some r=>pure (ForInStep.done (some r,d.2.1,d.2.2.1,d.2.2.2.1,d.2.2.2.2.1))
  |none=>do
   jo (d.2.2.2.2.1+1)
   pure (ForInStep.yield (none,d.2.1,d.2.2.1,d.2.2.2.1,d.2.2.2.2.1+1))
theorem fi{β:Type}{r:Std.Legacy.Range}{c:β}{f f':Nat->β->Sm (ForInStep β)}(h:f=f'):(forIn r c f:Sm β)=forIn r c f':=by rw[h]
theorem ic{α:Type}{c:Prop}[Decidable c]{x x' y y':α}(h:x=x')(h':y=y'):(if c then x else y)=if c then x' else y':=by rw[h,h']
theorem Jb(a b:Array Keyed):jn a b=(do
  liftM (rule "list.sort.merge-lo")
  let e <-elem' b 0
  if(1==b.size)=true then pure (#[e]++a.extract 0 a.size++b.extract 1 b.size)
  else if(0+1==a.size)=true then pure (#[e]++b.extract 1 b.size++a.extract 0 a.size)
  else do
   let s <-get
   let c <-forIn [0:a.size+b.size] ((none,#[e],0,1,gallopOf s):C0) fun _ c=>round a b c.2.1 c.2.2.1 c.2.2.2.1 c.2.2.2.2
   match c.1 with
   |some r=>pure r
   |none=>liftM (unsupported "internal:list.sort.merge-bound")):=by
 delta jn
 refine bc rfl (funext fun u=>bc rfl (funext fun e=>ic rfl (ic rfl (bc rfl (funext fun s=>bc (fi (funext fun x=>funext fun c=>?_)) (funext fun c=>?_))))))
 .unfold round;refine bc (fi (funext fun x=>funext fun c1=>?_)) (funext fun c1=>?_)
  .unfold one;refine bc rfl (funext fun y=>bc rfl (funext fun x=>bc rfl (funext fun r=>?_)))
   cases r with
   |none=>rfl
   |some w=>exact ic (bc rfl (funext fun y=>ic rfl (ic rfl rfl))) (bc rfl (funext fun y=>ic rfl (ic rfl rfl)))
  .obtain⟨r,c1⟩:=c1
   cases r with
   |some r=>rfl
   |none=>
    refine bc rfl (funext fun u=>bc (fi (funext fun x=>funext fun d=>?_)) (funext fun d=>?_))
    .unfold gal;refine ic ?_ ?_
     .unfold gl1;exact bc rfl (funext fun u=>bc rfl (funext fun y=>bc rfl (funext fun r=>by cases r with|none=>rfl|some k=>exact ic (ic rfl (ic rfl (by unfold gl2;exact bc rfl (funext fun y=>ic rfl (by unfold gl3;exact bc rfl (funext fun x=>bc rfl (funext fun r=>by cases r with|none=>rfl|some k1=>exact ic (ic rfl (by unfold gl4;exact bc rfl (funext fun x=>ic rfl (ic rfl rfl)))) (by unfold gl4;exact bc rfl (funext fun x=>ic rfl (ic rfl rfl)))))))))) (by unfold gl2;exact bc rfl (funext fun y=>ic rfl (by unfold gl3;exact bc rfl (funext fun x=>bc rfl (funext fun r=>by cases r with|none=>rfl|some k1=>exact ic (ic rfl (by unfold gl4;exact bc rfl (funext fun x=>ic rfl (ic rfl rfl)))) (by unfold gl4;exact bc rfl (funext fun x=>ic rfl (ic rfl rfl)))))))))))
     .unfold gl1;exact bc rfl (funext fun u=>bc rfl (funext fun y=>bc rfl (funext fun r=>by cases r with|none=>rfl|some k=>exact ic (ic rfl (ic rfl (by unfold gl2;exact bc rfl (funext fun y=>ic rfl (by unfold gl3;exact bc rfl (funext fun x=>bc rfl (funext fun r=>by cases r with|none=>rfl|some k1=>exact ic (ic rfl (by unfold gl4;exact bc rfl (funext fun x=>ic rfl (ic rfl rfl)))) (by unfold gl4;exact bc rfl (funext fun x=>ic rfl (ic rfl rfl)))))))))) (by unfold gl2;exact bc rfl (funext fun y=>ic rfl (by unfold gl3;exact bc rfl (funext fun x=>bc rfl (funext fun r=>by cases r with|none=>rfl|some k1=>exact ic (ic rfl (by unfold gl4;exact bc rfl (funext fun x=>ic rfl (ic rfl rfl)))) (by unfold gl4;exact bc rfl (funext fun x=>ic rfl (ic rfl rfl)))))))))))
    .obtain⟨r,d⟩:=d;cases r<;>rfl
 .obtain⟨r,c⟩:=c;cases r<;>rfl
def key(κ:PyProof.Rows.KeyKind)(p:Keyed):κ.α:=(κ.keyOf p.1).getD κ.dflt
def leK(κ:PyProof.Rows.KeyKind)(x y:Keyed):Prop:=κ.kle (key κ x) (key κ y)
theorem dC{κ:PyProof.Rows.KeyKind}{x y z:Keyed}(h:leK κ x y)(h':leK κ y z):leK κ x z:=KeyOrd.kle_trans h h'
structure SG(st Zr:SortSt):Prop where
 kind:kindOf Zr=kindOf st
 arr:arrOf Zr=arrOf st
 pend:pendingOf Zr=pendingOf st
 fail:failedOf Zr=failedOf st
theorem SG.refl(st:SortSt):SG st st:=⟨rfl,rfl,rfl,rfl⟩
structure Two(κ:PyProof.Rows.KeyKind)(a b:Array Keyed):Prop where
 ka:KeysOf κ a
 kb:KeysOf κ b
 sa:a.toList.Pairwise (leK κ)
 sb:b.toList.Pairwise (leK κ)
theorem item{κ:PyProof.Rows.KeyKind}{a:Array Keyed}(ka:KeysOf κ a){i:Nat}(hi:i<a.size):∃p,a[i]?=some p/\κ.keyOf p.1=some (key κ p)/\KK κ a i=key κ p/\a.toList.drop i=p::a.toList.drop (i+1):=by
 have e:a[i]?=some a[i]:=Array.getElem?_eq_getElem hi;obtain⟨k,hk⟩:=ka a[i] (Array.mem_toList_iff.mpr (Array.getElem_mem hi))
 have ek:key κ a[i]=k:=by
  unfold key;rw[hk];rfl
 refine⟨a[i],e,by rw[ek];exact hk,?_,?_⟩
 .unfold KK;rw[e,ek];dsimp only;rw[hk];rfl
 .have:=List.drop_eq_getElem_cons (l:=a.toList) (i:=i) (by simpa using hi);rw[this];simp
theorem jq{κ:PyProof.Rows.KeyKind}{l r:List Keyed}{p:Keyed}{i:Nat}(h:l.Pairwise (leK κ))(e:l.drop i=p::r):∀y∈l.drop i,leK κ p y:=by
 have hp:=h.sublist (List.drop_sublist i l);rw[e]at hp⊢;intro y hy;rcases zAo.mp hy with z|z
 .rw[z];exact KeyOrd.kle_refl _
 .exact(List.pairwise_cons.mp hp).1 y z
theorem fZ(a:Array Keyed)(i j:Nat):(a.extract i j).toList=(a.toList.drop i).take (j-i):=by
 rw[Array.toList_extract]
theorem iB(a:Array Keyed)(i:Nat):(a.extract i a.size).toList=a.toList.drop i:=by
 rw[fZ];refine List.take_of_length_le ?_;rw[List.length_drop,zA9];exact zA3 _
theorem jr{κ:PyProof.Rows.KeyKind}{a:Array Keyed}(ka:KeysOf κ a){i k:Nat}{x:Keyed}(h:x∈(a.toList.drop i).take k):∃j,j<k/\i+j<a.size/\KK κ a (i+j)=key κ x:=by
 obtain⟨j,hj,rfl⟩:=List.getElem_of_mem h;rw[zAd,List.length_drop,zA9]at hj;refine⟨j,Zz,Zz,?_⟩;obtain⟨p,e1,e2,e3,e4⟩:=item ka (i:=i+j) Zz;rw[e3,List.getElem_take,List.getElem_drop]
 have:a.toList[i+j]?=some p:=by
  rw[Array.getElem?_toList];exact e1
 rw[zA0 (by rw[zA9];lia)]at this;rw[zAl this]
theorem mV{κ:PyProof.Rows.KeyKind}{a:Array Keyed}(ka:KeysOf κ a){i:Nat}{x:Keyed}(h:x∈a.toList.drop i):∃j,i<=j/\j<a.size/\KK κ a j=key κ x:=by
 have h':x∈(a.toList.drop i).take (a.toList.drop i).length:=by rw[zAm];exact h
 obtain⟨j,_,h2,h3⟩:=jr ka h';exact⟨i+j,Zz,h2,h3⟩
theorem jt{κ:PyProof.Rows.KeyKind}{a:Array Keyed}(ka:KeysOf κ a)(sa:a.toList.Pairwise (leK κ)){i j:Nat}(cq:i<=j)(hj:j<a.size):κ.kle (KK κ a i) (KK κ a j):=by
 obtain⟨p,_,_,e3,e4⟩:=item ka (i:=i) Zz;obtain⟨q,_,_,f3,f4⟩:=item ka (i:=j) hj;rw[e3,f3];refine jq sa e4 q ?_;have:q∈a.toList.drop j:=by rw[f4];exact List.mem_cons_self
 exact ie cq this
section
variable{prog:Program}{w:World}{A:Around}{E:Value->Shared->Prop}{s:Shared}{κ:PyProof.Rows.KeyKind}{ks:SortKind}{a b:Array Keyed}
theorem iC{g:Nat}{Q:Unit->SortSt->Prop}{st:SortSt}(h:∀Zr,SG st Zr->Q () Zr):wpS (model prog w) A E s (jo g) Q st:=wpS_modify (h _ ⟨rfl,rfl,rfl,rfl⟩)
structure At(κ:PyProof.Rows.KeyKind)(a b out:Array Keyed)(ia ib:Nat):Prop where
 mi:MI (leK κ) a.toList b.toList out.toList ia ib
 ha:ia+1<a.size
 hb:ib<b.size
theorem At.pushA{out:Array Keyed}{ia ib:Nat}{x:Keyed}(T:Two κ a b)(m:MI (leK κ) a.toList b.toList out.toList ia ib)(e:a.toList.drop ia=x::a.toList.drop (ia+1))(h:∀y∈b.toList.drop ib,leK κ x y):
  MI (leK κ) a.toList b.toList (out.push x).toList (ia+1) ib:=by
 have:=m.segA (k:=1) T.sa fun z hz y hy=>by
  rw[e]at hz;have:z=x:=by simpa using hz
  rw[this];exact h y hy
 rw[e]at this;rw[Array.toList_push];exact this
theorem At.pushB{out:Array Keyed}{ia ib:Nat}{x:Keyed}(T:Two κ a b)(m:MI (leK κ) a.toList b.toList out.toList ia ib)(e:b.toList.drop ib=x::b.toList.drop (ib+1))(h:∀y∈a.toList.drop ia,leK κ x y):
  MI (leK κ) a.toList b.toList (out.push x).toList ia (ib+1):=by
 have:=m.segB (k:=1) T.sb fun z hz y hy=>by
  rw[e]at hz;have:z=x:=by simpa using hz
  rw[this];exact h y hy
 rw[e]at this;rw[Array.toList_push];exact this
theorem At.segA{out:Array Keyed}{ia ib k:Nat}(T:Two κ a b)(m:MI (leK κ) a.toList b.toList out.toList ia ib)(h:∀x∈(a.toList.drop ia).take k,∀y∈b.toList.drop ib,leK κ x y):MI (leK κ) a.toList b.toList (out++a.extract ia (ia+k)).toList (ia+k) ib:=by
 have:=m.segA (k:=k) T.sa h;rw[Array.toList_append,fZ,show ia+k-ia=k by lia];exact this
theorem At.segB{out:Array Keyed}{ia ib k:Nat}(T:Two κ a b)(m:MI (leK κ) a.toList b.toList out.toList ia ib)(h:∀x∈(b.toList.drop ib).take k,∀y∈a.toList.drop ia,leK κ x y):MI (leK κ) a.toList b.toList (out++b.extract ib (ib+k)).toList ia (ib+k):=by
 have:=m.segB (k:=k) T.sb h;rw[Array.toList_append,fZ,show ib+k-ib=k by lia];exact this
abbrev Rs(κ:PyProof.Rows.KeyKind)(a b:Array Keyed)(r:Array Keyed):Prop:=Done (leK κ) a.toList b.toList r.toList
def iJ(κ:PyProof.Rows.KeyKind)(a b:Array Keyed):Prop:=∀y∈b.toList,∀x∈a.toList.drop (a.size-1),leK κ y x
theorem wH{out:Array Keyed}{ia ib:Nat}(T:Two κ a b)(m:MI (leK κ) a.toList b.toList out.toList ia ib)(h:ib=b.size):Rs κ a b (out++a.extract ia a.size++b.extract ib b.size):=by
 have:=m.endB T.sa (by rw[zA9];lia);unfold Rs;rw[Array.toList_append,Array.toList_append,iB,iB];exact this
theorem Jc{out:Array Keyed}{ia ib:Nat}(T:Two κ a b)(m:MI (leK κ) a.toList b.toList out.toList ia ib)(h:ia=a.size):Rs κ a b (out++a.extract ia a.size++b.extract ib b.size):=by
 have:=m.endA T.sb (by rw[zA9];lia);unfold Rs;rw[Array.toList_append,Array.toList_append,iB,iB];exact this
theorem wI{out:Array Keyed}{ia ib:Nat}(T:Two κ a b)(L:iJ κ a b)(m:MI (leK κ) a.toList b.toList out.toList ia ib)(h:ia+1=a.size):Rs κ a b (out++b.extract ib b.size++a.extract ia a.size):=by
 have:=m.last T.sa T.sb fun y hy x hx=>L y (List.mem_of_mem_drop hy) x (by rw[show a.size-1=ia by lia];exact hx);unfold Rs;rw[Array.toList_append,Array.toList_append,iB,iB];exact this
theorem vo(hL:LtAll prog w A E s κ ks)(T:Two κ a b)(L:iJ κ a b){g ia ib ac bc:Nat}{out:Array Keyed}{st:SortSt}(hk:kindOf st=ks)(m:At κ a b out ia ib):
  wpS (model prog w) A E s (one a b g out ia ib ac bc) (fun r Zr=>Zr=st/\match r with
   |.done c=>(∃z,c.1=some z/\Rs κ a b z)\/(c.1=none/\At κ a b c.2.1 c.2.2.1 c.2.2.2.1/\ia+ib+1=c.2.2.1+c.2.2.2.1)
   |.yield c=>c.1=none/\At κ a b c.2.1 c.2.2.1 c.2.2.2.1/\ia+ib+1=c.2.2.1+c.2.2.2.1) st:=by
 obtain⟨x,x1,x2,x3,x4⟩:=item T.ka (i:=ia) (by have:=m.ha;lia);obtain⟨y,y1,y2,y3,y4⟩:=item T.kb m.hb;unfold one;refine wpS_bind (bh y1 (wpS_bind (bh x1 (wpS_bind (hL st hk _ _ _ _ _ y2 x2 ?_)))))
 cases e:κ.blt (key κ y) (key κ x)with
 |true=>
  dsimp only;rw[if_pos rfl];refine wpS_bind (bh y1 ?_);have m':=At.pushB T m.mi y4 fun z hz=>dC (KeyOrd.kle_of_klt e) (jq T.sa x4 z hz);by_cases hb:ib+1=b.size
  .rw[if_pos (by simpa using hb)];exact wpS_pure ⟨rfl,.inl ⟨_,rfl,wH T m' hb⟩⟩
  .rw[if_neg (by simpa using hb)]
   have at':At κ a b (out.push y) ia (ib+1):=⟨m',m.ha,by have:=m.hb;lia⟩
   split
   .exact wpS_pure ⟨rfl,.inr ⟨rfl,at',by dsimp only;lia⟩⟩
   .exact wpS_pure ⟨rfl,rfl,at',by dsimp only;lia⟩
 |false=>
  dsimp only;rw[if_neg Zx];refine wpS_bind (bh x1 ?_);have m':=At.pushA T m.mi x4 fun z hz=>dC (show leK κ x y from e) (jq T.sb y4 z hz);by_cases ha:ia+1+1=a.size
  .rw[if_pos (by simpa using ha)];exact wpS_pure ⟨rfl,.inl ⟨_,rfl,wI T L m' ha⟩⟩
  .rw[if_neg (by simpa using ha)]
   have at':At κ a b (out.push x) (ia+1) ib:=⟨m',by have:=m.ha;lia,m.hb⟩
   split
   .exact wpS_pure ⟨rfl,.inr ⟨rfl,at',by dsimp only;lia⟩⟩
   .exact wpS_pure ⟨rfl,rfl,at',by dsimp only;lia⟩
def G2(κ:PyProof.Rows.KeyKind)(a b:Array Keyed)(n:Nat)(st:SortSt)(r:ForInStep C2)(Zr:SortSt):Prop:=SG st Zr/\match r with
 |.done c=>(∃z,c.1=some z/\Rs κ a b z)\/(c.1=none/\At κ a b c.2.1 c.2.2.1 c.2.2.2.1/\n<=c.2.2.1+c.2.2.2.1)
 |.yield c=>c.1=none/\At κ a b c.2.1 c.2.2.1 c.2.2.2.1/\n<=c.2.2.1+c.2.2.2.1
theorem mW(T:Two κ a b)(L:iJ κ a b){g ia ib k k1 n:Nat}{out:Array Keyed}{bP st:SortSt}(sg:SG bP st)(m:At κ a b out ia ib)(hn:n<=ia+ib+1)(h:∀y∈b.toList.drop ib,∀x,a[ia]?=some x->leK κ x y):
  wpS (model prog w) A E s (gl4 a b out ia ib g k k1) (G2 κ a b n bP) st:=by
 obtain⟨x,x1,x2,x3,x4⟩:=item T.ka (i:=ia) (by have:=m.ha;lia);unfold gl4;refine wpS_bind (bh x1 ?_);have m':=At.pushA T m.mi x4 fun z hz=>h z hz x x1;by_cases ha:ia+1+1=a.size
 .rw[if_pos (by simpa using ha)];exact wpS_pure ⟨sg,.inl ⟨_,rfl,wI T L m' ha⟩⟩
 .rw[if_neg (by simpa using ha)]
  have at':At κ a b (out.push x) (ia+1) ib:=⟨m',by have:=m.ha;lia,m.hb⟩
  split
  .exact wpS_pure ⟨sg,.inr ⟨rfl,at',by dsimp only;lia⟩⟩
  .exact wpS_pure ⟨sg,rfl,at',by dsimp only;lia⟩
theorem vq(hL:LtAll prog w A E s κ ks)(T:Two κ a b)(L:iJ κ a b){g ia ib k bc n:Nat}{out:Array Keyed}{bP st:SortSt}(hk:kindOf st=ks)(sg:SG bP st)(m:At κ a b out ia ib)(hn:n<=ia+ib+1):
  wpS (model prog w) A E s (gl3 a b out ia ib g k bc) (G2 κ a b n bP) st:=by
 obtain⟨x,x1,x2,x3,x4⟩:=item T.ka (i:=ia) (by have:=m.ha;lia);have hb:=m.hb;unfold gl3;refine wpS_bind (bh x1 ?_);refine wpS_bind (dO (κ:=κ) (kk:=key κ x) (hL st hk) x2 Zz (fun i hi=>?_) (fun i j cq hj jI=>?_) fun k1 kn kt kf=>?_)
 .obtain⟨p,p1,p2,p3,_⟩:=item T.kb (i:=ib+i) Zz;exact⟨p,_,p1,p2,p3⟩
 .have mono:=jt T.kb T.sb (i:=ib+i) (j:=ib+j) Zz Zz;exact KeyOrd.klt_of_kle_of_klt mono jI
 .have ij:∀y∈b.toList.drop (ib+k1),∀z,a[ia]?=some z->leK κ z y:=fun y hy z hz=>by
   rw[x1]at hz;cases hz;obtain⟨j,j1,j2,j3⟩:=mV T.kb hy;have:=kf (j-ib) Zz Zz;rw[show ib+(j-ib)=j by lia,j3]at this;exact this
  by_cases h0:k1>0
  .dsimp only;rw[if_pos h0]
   have m':=At.segB (k:=k1) T m.mi fun z hz y hy=>by
    obtain⟨j,j1,j2,j3⟩:=jr T.kb hz;have:=kt j j1;rw[j3]at this;exact dC (KeyOrd.kle_of_klt this) (jq T.sa x4 y hy)
   by_cases e:ib+k1=b.size
   .rw[if_pos (by simpa using e)];exact wpS_pure ⟨sg,.inl ⟨_,rfl,wH T m' e⟩⟩
   .rw[if_neg (by simpa using e)];exact mW T L sg ⟨m',m.ha,Zz⟩ Zz ij
  .dsimp only;rw[if_neg h0];have e:k1=0:=Zz
   rw[e]at ij;exact mW T L sg m hn ij
theorem mX(hL:LtAll prog w A E s κ ks)(T:Two κ a b)(L:iJ κ a b){g ia ib k bc n:Nat}{out:Array Keyed}{bP st:SortSt}(hk:kindOf st=ks)(sg:SG bP st)(m:At κ a b out ia ib)(hn:n<=ia+ib+1)(h:∀x∈a.toList.drop ia,∀y,b[ib]?=some y->leK κ y x):
  wpS (model prog w) A E s (gl2 a b out ia ib g k bc) (G2 κ a b n bP) st:=by
 obtain⟨y,y1,y2,y3,y4⟩:=item T.kb m.hb;unfold gl2;refine wpS_bind (bh y1 ?_);have m':=At.pushB T m.mi y4 fun z hz=>h z hz y y1;by_cases hb:ib+1=b.size
 .rw[if_pos (by simpa using hb)];exact wpS_pure ⟨sg,.inl ⟨_,rfl,wH T m' hb⟩⟩
 .rw[if_neg (by simpa using hb)];exact vq hL T L hk sg ⟨m',m.ha,by have:=m.hb;lia⟩ Zz
theorem vy(hL:LtAll prog w A E s κ ks)(T:Two κ a b)(L:iJ κ a b){g ia ib ac bc n:Nat}{out:Array Keyed}{bP st:SortSt}(hk:kindOf st=ks)(sg:SG bP st)(m:At κ a b out ia ib)(hn:n<=ia+ib+1):
  wpS (model prog w) A E s (gl1 a b out ia ib g ac bc) (G2 κ a b n bP) st:=by
 obtain⟨y,y1,y2,y3,y4⟩:=item T.kb m.hb;have ha:=m.ha;unfold gl1;refine wpS_bind (iC fun Zr gE=>?_);have eJ:kindOf Zr=ks:=gE.kind.trans hk
 have cb:SG bP Zr:=⟨gE.kind.trans sg.kind,gE.arr.trans sg.arr,gE.pend.trans sg.pend,gE.fail.trans sg.fail⟩
 refine wpS_bind (bh y1 ?_);refine wpS_bind (dO (κ:=κ) (kk:=key κ y) (hL Zr eJ) y2 Zz (fun i hi=>?_) (fun i j cq hj jI=>?_) fun k kn kt kf=>?_)
 .obtain⟨p,p1,p2,p3,_⟩:=item T.ka (i:=ia+i) Zz;exact⟨p,_,p1,p2,p3⟩
 .have mono:=jt T.ka T.sa (i:=ia+i) (j:=ia+j) Zz Zz;have jI:(!κ.blt (key κ y) (KK κ a (ia+j)))=true:=jI;show(!κ.blt (key κ y) (KK κ a (ia+i)))=true;rw[Bool.not_eq_true']at jI⊢;exact KeyOrd.kle_trans mono jI
 .have ij:∀x∈a.toList.drop (ia+k),∀z,b[ib]?=some z->leK κ z x:=fun x hx z hz=>by
   rw[y1]at hz;cases hz;obtain⟨j,j1,j2,j3⟩:=mV T.ka hx;have:=kf (j-ia) Zz Zz;rw[show ia+(j-ia)=j by lia,j3]at this;have this:(!κ.blt (key κ y) (key κ x))=false:=this;rw[Bool.not_eq_false']at this;exact KeyOrd.kle_of_klt this
  by_cases h0:k>0
  .dsimp only;rw[if_pos h0]
   have m':=At.segA (k:=k) T m.mi fun z hz x hx=>by
    obtain⟨j,j1,j2,j3⟩:=jr T.ka hz;have:=kt j j1;rw[j3]at this;have this:(!κ.blt (key κ y) (key κ z))=true:=this;rw[Bool.not_eq_true']at this;exact dC (show leK κ z y from this) (jq T.sb y4 x hx)
   by_cases e:ia+k+1=a.size
   .rw[if_pos (by simpa using e)];exact wpS_pure ⟨cb,.inl ⟨_,rfl,wI T L m' e⟩⟩
   .rw[if_neg (by simpa using e)];by_cases e2:ia+k=a.size
    .rw[if_pos (by simpa using e2)];exact wpS_pure ⟨cb,.inl ⟨_,rfl,Jc T m' e2⟩⟩
    .rw[if_neg (by simpa using e2)];exact mX hL T L eJ cb ⟨m',Zz,m.hb⟩ Zz ij
  .dsimp only;rw[if_neg h0];have e:k=0:=Zz
   rw[e]at ij;exact mX hL T L eJ cb m hn ij
theorem mY(hL:LtAll prog w A E s κ ks)(T:Two κ a b)(L:iJ κ a b){g ia ib:Nat}{out:Array Keyed}{bP st:SortSt}(hk:kindOf st=ks)(sg:SG bP st)(m:At κ a b out ia ib):
  wpS (model prog w) A E s (round a b out ia ib g) (fun r Zr=>SG bP Zr/\match r with
   |.done c=>∃z,c.1=some z/\Rs κ a b z
   |.yield c=>c.1=none/\At κ a b c.2.1 c.2.2.1 c.2.2.2.1/\ia+ib+1<=c.2.2.1+c.2.2.2.1) st:=by
 unfold round;have Nr:0<a.size+b.size:=by have:=m.ha;lia
 refine wpS_bind (wpS_mono (wpS_forRange (I:=fun x c Zr=>Zr=st/\c.1=none/\At κ a b c.2.1 c.2.2.1 c.2.2.2.1/\ia+ib+x=c.2.2.1+c.2.2.2.1)
  (Q:=fun c Zr=>Zr=st/\((∃z,c.1=some z/\Rs κ a b z)\/(c.1=none/\At κ a b c.2.1 c.2.2.1 c.2.2.2.1/\ia+ib+1<=c.2.2.1+c.2.2.2.1))) ?_ ?_ ⟨rfl,rfl,m,rfl⟩) ?_)
 .rintro x ⟨c0,o,i,j,ac,bc⟩ Zr _ hx ⟨rfl,rfl,m',e⟩;dsimp only at m' e⊢;refine wpS_mono (vo hL T L hk m') fun r st2 h2=>?_;obtain⟨rfl,h2⟩:=h2
  cases r with
  |done c=>
   rcases h2 with h2|⟨h2,h3,h4⟩
   .exact⟨rfl,.inl h2⟩
   .exact⟨rfl,.inr ⟨h2,h3,Zz⟩⟩
  |yield c=>
   obtain⟨h2,h3,h4⟩:=h2;exact⟨rfl,h2,h3,Zz⟩
 .rintro c Zr ⟨rfl,h1,h2,h3⟩;exact⟨rfl,.inr ⟨h1,h2,Zz⟩⟩
 .rintro⟨c0,o,i,j,ac,bc⟩ Zr ⟨rfl,h⟩;dsimp only at h⊢;rcases h with⟨z,rfl,hz⟩|⟨rfl,m',cq⟩
  .exact wpS_pure ⟨sg,z,rfl,hz⟩
  .dsimp only;refine wpS_bind (wpS_lift (wpAny_rule ⟨rfl,?_⟩))
   refine wpS_bind (wpS_mono (wpS_forRange (I:=fun x c st2=>SG bP st2/\c.1=none/\At κ a b c.2.1 c.2.2.1 c.2.2.2.1/\ia+ib+1<=c.2.2.1+c.2.2.2.1)
    (Q:=fun c st2=>SG bP st2/\((∃z,c.1=some z/\Rs κ a b z)\/(c.1=none/\At κ a b c.2.1 c.2.2.1 c.2.2.2.1/\ia+ib+1<=c.2.2.1+c.2.2.2.1))) ?_ ?_ ⟨sg,rfl,m',cq⟩) ?_)
   .rintro x ⟨c0,o,i,j,g2,ac,bc⟩ st2 _ hx ⟨cb,rfl,m2,e2⟩;dsimp only at m2 e2⊢;have xS:kindOf st2=ks:=cb.kind.trans (sg.kind.symm.trans hk);have go:∀g',wpS (model prog w) A E s (gl1 a b o i j g' ac bc) (G2 κ a b (ia+ib+1) bP) st2:=fun g'=>vy hL T L xS cb m2 Zz;unfold gal;split
    .refine wpS_mono (go _) fun r fw h3=>?_;obtain⟨h3,h4⟩:=h3
     cases r with
     |done c=>exact⟨h3,h4⟩
     |yield c=>exact⟨h3,h4⟩
    .refine wpS_mono (go _) fun r fw h3=>?_;obtain⟨h3,h4⟩:=h3
     cases r with
     |done c=>exact⟨h3,h4⟩
     |yield c=>exact⟨h3,h4⟩
   .rintro c st2 ⟨h0,h1,h2,h3⟩;exact⟨h0,.inr ⟨h1,h2,h3⟩⟩
   .rintro⟨c0,o,i,j,g2,ac,bc⟩ st2 ⟨cb,h⟩;dsimp only at h⊢;rcases h with⟨z,rfl,hz⟩|⟨rfl,m2,rj⟩
    .exact wpS_pure ⟨cb,z,rfl,hz⟩
    .dsimp only;refine wpS_bind (iC fun fw mM=>wpS_pure ⟨⟨mM.kind.trans cb.kind,mM.arr.trans cb.arr,mM.pend.trans cb.pend,mM.fail.trans cb.fail⟩,rfl,m2,rj⟩)
theorem Jd(hL:LtAll prog w A E s κ ks)(T:Two κ a b)(L:iJ κ a b)(ha:0<a.size)(hb:0<b.size)(F:∀x∈a.toList,∀y,b[0]?=some y->leK κ y x){st:SortSt}(hk:kindOf st=ks){Q:Array Keyed->SortSt->Prop}
  (h:∀r Zr,SG st Zr->Rs κ a b r->Q r Zr):wpS (model prog w) A E s (jn a b) Q st:=by
 rw[Jb];obtain⟨y,y1,y2,y3,y4⟩:=item T.kb hb;refine wpS_bind (wpS_lift (wpAny_rule ⟨rfl,?_⟩));refine wpS_bind (bh y1 ?_)
 have m0:MI (leK κ) a.toList b.toList ([]:List Keyed) 0 0:=⟨by simp,.nil,fun x hx=>absurd hx Zy⟩
 have m:MI (leK κ) a.toList b.toList (#[y]:Array Keyed).toList 0 1:=by
  have:=At.pushB (out:=#[]) T m0 y4 fun z hz=>F z hz y y1;exact this
 by_cases e1:1=b.size
 .rw[if_pos (by simpa using e1)];exact wpS_pure (h _ st (SG.refl _) (wH T m e1))
 .rw[if_neg (by simpa using e1)];by_cases e2:0+1=a.size
  .rw[if_pos (by simpa using e2)];exact wpS_pure (h _ st (SG.refl _) (wI T L m e2))
  .rw[if_neg (by simpa using e2)];refine wpS_bind (wpS_get ?_)
   refine wpS_bind (wpS_mono (wpS_forRange (I:=fun x c Zr=>SG st Zr/\c.1=none/\At κ a b c.2.1 c.2.2.1 c.2.2.2.1/\1+x<=c.2.2.1+c.2.2.2.1)
    (Q:=fun c Zr=>SG st Zr/\∃z,c.1=some z/\Rs κ a b z) ?_ ?_ ⟨SG.refl _,rfl,⟨m,by dsimp only;lia,by dsimp only;lia⟩,by dsimp only;lia⟩) ?_)
   .rintro x ⟨c0,o,i,j,g⟩ Zr _ hx ⟨sg,rfl,m',e⟩;dsimp only at m' e⊢;refine wpS_mono (mY hL T L (sg.kind.trans hk) sg m') fun r st2 h2=>?_;obtain⟨cb,h2⟩:=h2
    cases r with
    |done c=>exact⟨cb,h2⟩
    |yield c=>
     obtain⟨h2,h3,h4⟩:=h2;exact⟨cb,h2,h3,Zz⟩
   .rintro c Zr ⟨sg,h1,m',e⟩;have:=m'.ha;have:=m'.hb;exact absurd e Zz
   .rintro⟨c0,o,i,j,g⟩ Zr ⟨sg,z,e,hz⟩;dsimp only at e;rw[e];exact wpS_pure (h z Zr sg hz)
end
def ju:Array Keyed->Array Keyed->Sm (Array Keyed):=sortPriv% PySem.Builtin.mergeHi
namespace Hi
abbrev dn(a b out:Array Keyed)(na nb:Nat):Array Keyed:=a.extract 0 na++b.extract 0 nb++out.reverse
abbrev fb(a b out:Array Keyed)(na nb:Nat):Array Keyed:=b.extract 0 nb++a.extract 0 na++out.reverse
abbrev H1:=Option (Array Keyed)×Nat×Nat×Array Keyed×Nat×Nat
abbrev H2:=Option (Array Keyed)×Nat×Nat×Array Keyed×Nat×Nat×Nat
abbrev H0:=Option (Array Keyed)×Nat×Nat×Array Keyed×Nat
def one(a b:Array Keyed)(g:Nat)(na nb:Nat)(out:Array Keyed)(ac bc:Nat):Sm (ForInStep H1):=do
 let y <-elem' b (nb-1)
 let x <-elem' a (na-1)
 let r <-lt' y x
 match r with
 |some w=>
  if w=true then do
   let x <-elem' a (na-1)
   if(na-1==0)=true then pure (ForInStep.done (some (dn a b (out.push x) (na-1) nb),na-1,nb,out.push x,ac+1,0))
   else if ac+1≥g then pure (ForInStep.done (none,na-1,nb,out.push x,ac+1,0))else pure (ForInStep.yield (none,na-1,nb,out.push x,ac+1,0))
  else do
   let y <-elem' b (nb-1)
   if(nb-1==1)=true then pure (ForInStep.done (some (fb a b (out.push y) na (nb-1)),na,nb-1,out.push y,0,bc+1))
   else if bc+1≥g then pure (ForInStep.done (none,na,nb-1,out.push y,0,bc+1))else pure (ForInStep.yield (none,na,nb-1,out.push y,0,bc+1))
 |_=>pure (ForInStep.done (some (dn a b out na nb),na,nb,out,ac,bc))
def gl4(a b:Array Keyed)(na nb:Nat)(out:Array Keyed)(g k k1:Nat):Sm (ForInStep H2):=do
 let x <-elem' a (na-1)
 if(na-1==0)=true then pure (ForInStep.done (some (dn a b (out.push x) (na-1) nb),na-1,nb,out.push x,g,k,k1))
 else if(decide (k<7)&&decide (k1<7))=true then pure (ForInStep.done (none,na-1,nb,out.push x,g,k,k1))else pure (ForInStep.yield (none,na-1,nb,out.push x,g,k,k1))
def gl3(a b:Array Keyed)(na nb:Nat)(out:Array Keyed)(g k bc:Nat):Sm (ForInStep H2):=do
 let x <-elem' a (na-1)
 let r <-fO true x b 0 nb (nb-1)
 match r with
 |some t=>
  if nb-t>0 then
   if(t==1)=true then pure (ForInStep.done (some (fb a b (out++(b.extract t nb).reverse) na t),na,t,out++(b.extract t nb).reverse,g,k,nb-t))
   else if(t==0)=true then pure (ForInStep.done (some (dn a b (out++(b.extract t nb).reverse) na t),na,t,out++(b.extract t nb).reverse,g,k,nb-t))
   else gl4 a b na t (out++(b.extract t nb).reverse) g k (nb-t)
  else gl4 a b na nb out g k (nb-t)
 |_=>pure (ForInStep.done (some (dn a b out na nb),na,nb,out,g,k,bc))
def gl2(a b:Array Keyed)(na nb:Nat)(out:Array Keyed)(g k bc:Nat):Sm (ForInStep H2):=do
 let y <-elem' b (nb-1)
 if(nb-1==1)=true then pure (ForInStep.done (some (fb a b (out.push y) na (nb-1)),na,nb-1,out.push y,g,k,bc))
 else gl3 a b na (nb-1) (out.push y) g k bc
def gl1(a b:Array Keyed)(na nb:Nat)(out:Array Keyed)(g ac bc:Nat):Sm (ForInStep H2):=do
 jo g
 let y <-elem' b (nb-1)
 let r <-fO false y a 0 na (na-1)
 match r with
 |some t=>
  if na-t>0 then
   if(t==0)=true then pure (ForInStep.done (some (dn a b (out++(a.extract t na).reverse) t nb),t,nb,out++(a.extract t na).reverse,g,na-t,bc))
   else gl2 a b t nb (out++(a.extract t na).reverse) g (na-t) bc
  else gl2 a b na nb out g (na-t) bc
 |_=>pure (ForInStep.done (some (dn a b out na nb),na,nb,out,g,ac,bc))
def gal(a b:Array Keyed)(na nb:Nat)(out:Array Keyed)(g ac bc:Nat):Sm (ForInStep H2):=if g>1 then gl1 a b na nb out (g-1) ac bc else gl1 a b na nb out g ac bc
def round(a b:Array Keyed)(na nb:Nat)(out:Array Keyed)(g:Nat):Sm (ForInStep H0):=do
 let c <-forIn [0:a.size+b.size] ((none,na,nb,out,0,0):H1) fun _ c=>one a b g c.2.1 c.2.2.1 c.2.2.2.1 c.2.2.2.2.1 c.2.2.2.2.2
 match c.1 with
 |some r=>pure (ForInStep.done (some r,c.2.1,c.2.2.1,c.2.2.2.1,g))
 |none=>do
  liftM (rule "list.sort.gallop")
  let d <-forIn [0:a.size+b.size] ((none,c.2.1,c.2.2.1,c.2.2.2.1,g+1,c.2.2.2.2.1,c.2.2.2.2.2):H2) fun _ d=>gal a b d.2.1 d.2.2.1 d.2.2.2.1 d.2.2.2.2.1 d.2.2.2.2.2.1 d.2.2.2.2.2.2
  match d.1 with
  |some r=>pure (ForInStep.done (some r,d.2.1,d.2.2.1,d.2.2.2.1,d.2.2.2.2.1))
  |none=>do
   jo (d.2.2.2.2.1+1)
   pure (ForInStep.yield (none,d.2.1,d.2.2.1,d.2.2.2.1,d.2.2.2.2.1+1))
theorem Je(a b:Array Keyed):ju a b=(do
  liftM (rule "list.sort.merge-hi")
  let e <-elem' a (a.size-1)
  if(a.size-1==0)=true then pure (dn a b #[e] (a.size-1) b.size)
  else if(b.size==1)=true then pure (fb a b #[e] (a.size-1) b.size)
  else do
   let s <-get
   let c <-forIn [0:a.size+b.size] ((none,a.size-1,b.size,#[e],gallopOf s):H0) fun _ c=>round a b c.2.1 c.2.2.1 c.2.2.2.1 c.2.2.2.2
   match c.1 with
   |some r=>pure r
   |none=>liftM (unsupported "internal:list.sort.merge-bound")):=by
 delta ju
 refine bc rfl (funext fun u=>bc rfl (funext fun e=>ic rfl (ic rfl (bc rfl (funext fun s=>bc (fi (funext fun x=>funext fun c=>?_)) (funext fun c=>?_))))))
 .unfold round;refine bc (fi (funext fun x=>funext fun c1=>?_)) (funext fun c1=>?_)
  .unfold one;refine bc rfl (funext fun y=>bc rfl (funext fun x=>bc rfl (funext fun r=>?_)))
   cases r with
   |none=>rfl
   |some w=>exact ic (bc rfl (funext fun y=>ic rfl (ic rfl rfl))) (bc rfl (funext fun y=>ic rfl (ic rfl rfl)))
  .obtain⟨r,c1⟩:=c1
   cases r with
   |some r=>rfl
   |none=>
    refine bc rfl (funext fun u=>bc (fi (funext fun x=>funext fun d=>?_)) (funext fun d=>?_))
    .unfold gal;refine ic ?_ ?_
     .unfold gl1;exact bc rfl (funext fun u=>bc rfl (funext fun y=>bc rfl (funext fun r=>by cases r with|none=>rfl|some k=>exact ic (ic rfl (by unfold gl2;exact bc rfl (funext fun y=>ic rfl (by unfold gl3;exact bc rfl (funext fun x=>bc rfl (funext fun r=>by cases r with|none=>rfl|some k1=>exact ic (ic rfl (ic rfl (by unfold gl4;exact bc rfl (funext fun x=>ic rfl (ic rfl rfl))))) (by unfold gl4;exact bc rfl (funext fun x=>ic rfl (ic rfl rfl))))))))) (by unfold gl2;exact bc rfl (funext fun y=>ic rfl (by unfold gl3;exact bc rfl (funext fun x=>bc rfl (funext fun r=>by cases r with|none=>rfl|some k1=>exact ic (ic rfl (ic rfl (by unfold gl4;exact bc rfl (funext fun x=>ic rfl (ic rfl rfl))))) (by unfold gl4;exact bc rfl (funext fun x=>ic rfl (ic rfl rfl)))))))))))
     .unfold gl1;exact bc rfl (funext fun u=>bc rfl (funext fun y=>bc rfl (funext fun r=>by cases r with|none=>rfl|some k=>exact ic (ic rfl (by unfold gl2;exact bc rfl (funext fun y=>ic rfl (by unfold gl3;exact bc rfl (funext fun x=>bc rfl (funext fun r=>by cases r with|none=>rfl|some k1=>exact ic (ic rfl (ic rfl (by unfold gl4;exact bc rfl (funext fun x=>ic rfl (ic rfl rfl))))) (by unfold gl4;exact bc rfl (funext fun x=>ic rfl (ic rfl rfl))))))))) (by unfold gl2;exact bc rfl (funext fun y=>ic rfl (by unfold gl3;exact bc rfl (funext fun x=>bc rfl (funext fun r=>by cases r with|none=>rfl|some k1=>exact ic (ic rfl (ic rfl (by unfold gl4;exact bc rfl (funext fun x=>ic rfl (ic rfl rfl))))) (by unfold gl4;exact bc rfl (funext fun x=>ic rfl (ic rfl rfl)))))))))))
    .obtain⟨r,d⟩:=d;cases r<;>rfl
 .obtain⟨r,c⟩:=c;cases r<;>rfl
section
variable{α:Type}{le:α->α->Prop}
structure MH(le:α->α->Prop)(la lb lo:List α)(na nb:Nat):Prop where
 pm:lo.Perm (la.drop na++lb.drop nb)
 sr:lo.Pairwise le
 be:∀x∈lo,∀y,y∈la.take na\/y∈lb.take nb->le y x
theorem wJ{l:List α}{i j:Nat}{y:α}(h:i<=j)(hy:y∈l.take i):y∈l.take j:=by
 rw[show i=min i j by lia,<-List.take_take]at hy;exact List.mem_of_mem_take hy
theorem cut_drop{l:List α}{t n:Nat}(h:t<=n)(hn:n<=l.length):(l.take n).drop t++l.drop n=l.drop t:=by
 have e:=zBb n l;have:(l.take n++l.drop n).drop t=(l.take n).drop t++l.drop n:=List.drop_append_of_le_length (by rw[zAd];lia);rw[e]at this;exact this.symm
theorem Ag{l:List α}(hp:l.Pairwise le){t n:Nat}(h:t<=n):∀y∈l.take t,∀x∈(l.take n).drop t,le y x:=by
 have h2:(l.take n).Pairwise le:=hp.sublist (List.take_sublist _ _);have e:=zBb t (l.take n);rw[<-e]at h2;rw[List.take_take,show min t n=t by lia]at h2;exact fun y hy x hx=>(List.pairwise_append.mp h2).2.2 y hy x hx
theorem MH.segA{la lb lo:List α}{na nb t:Nat}(m:MH le la lb lo na nb)(sa:la.Pairwise le)(ht:t<=na)(hn:na<=la.length)(h:∀x∈(la.take na).drop t,∀y∈lb.take nb,le y x):MH le la lb ((la.take na).drop t++lo) t nb:=by
 refine⟨?_,List.pairwise_append.mpr ⟨(sa.sublist (List.take_sublist _ _)).sublist (List.drop_sublist _ _),m.sr,fun x hx y hy=>m.be y hy x (.inl (List.mem_of_mem_drop hx))⟩,fun x hx y hy=>?_⟩
 .refine(List.Perm.append_left _ m.pm).trans ?_;rw[<-zAf,cut_drop ht hn]
 .rcases zA6.mp hx with z|z
  .rcases hy with hy|hy
   .exact Ag sa ht y hy x z
   .exact h x z y hy
  .exact m.be x z y (hy.imp (wJ ht) id)
theorem MH.segB{la lb lo:List α}{na nb t:Nat}(m:MH le la lb lo na nb)(sb:lb.Pairwise le)(ht:t<=nb)(hn:nb<=lb.length)(h:∀x∈(lb.take nb).drop t,∀y∈la.take na,le y x):MH le la lb ((lb.take nb).drop t++lo) na t:=by
 refine⟨?_,List.pairwise_append.mpr ⟨(sb.sublist (List.take_sublist _ _)).sublist (List.drop_sublist _ _),m.sr,fun x hx y hy=>m.be y hy x (.inr (List.mem_of_mem_drop hx))⟩,fun x hx y hy=>?_⟩
 .refine(List.Perm.append_left _ m.pm).trans ?_;refine(List.perm_append_comm_assoc _ _ _).trans ?_;rw[cut_drop ht hn]
 .rcases zA6.mp hx with z|z
  .rcases hy with hy|hy
   .exact h x z y hy
   .exact Ag sb ht y hy x z
  .exact m.be x z y (hy.imp id (wJ ht))
theorem MH.first{la lb lo:List α}{na nb:Nat}(m:MH le la lb lo na nb)(sa:la.Pairwise le)(sb:lb.Pairwise le)(h:∀y∈lb.take nb,∀x∈la.take na,le y x):Done le la lb (lb.take nb++la.take na++lo):=by
 refine⟨?_,List.pairwise_append.mpr ⟨List.pairwise_append.mpr ⟨sb.sublist (List.take_sublist _ _),sa.sublist (List.take_sublist _ _),h⟩,m.sr,fun x hx y hy=>m.be y hy x ((zA6.mp hx).symm)⟩⟩;refine(List.Perm.append_left _ m.pm).trans ?_
 have e:lb.take nb++la.take na++(la.drop na++lb.drop nb)=lb.take nb++(la++lb.drop nb):=by
  rw[zAf,<-zAf (la.take na),zBb]
 rw[e];refine(List.perm_append_comm_assoc _ _ _).trans ?_;rw[zBb]
theorem MH.endA{la lb lo:List α}{nb:Nat}(m:MH le la lb lo 0 nb)(sa:la.Pairwise le)(sb:lb.Pairwise le):Done le la lb (la.take 0++lb.take nb++lo):=by
 have:=m.first sa sb fun y _ x hx=>absurd hx Zy
 rw[List.take_zero,zAn]at this;rw[List.take_zero,List.nil_append];exact this
theorem MH.endB{la lb lo:List α}{na:Nat}(m:MH le la lb lo na 0)(sa:la.Pairwise le)(sb:lb.Pairwise le):Done le la lb (la.take na++lb.take 0++lo):=by
 have:=m.first sa sb fun y hy x _=>absurd hy Zy
 rw[List.take_zero,List.nil_append]at this;rw[List.take_zero,zAn];exact this
end
section
variable{prog:Program}{w:World}{A:Around}{E:Value->Shared->Prop}{s:Shared}{κ:PyProof.Rows.KeyKind}{ks:SortKind}{a b:Array Keyed}
theorem yz(a:Array Keyed)(n:Nat):(a.extract 0 n).toList=a.toList.take n:=by
 rw[fZ];simp
theorem ext_cut(a:Array Keyed)(t n:Nat):(a.extract t n).toList=(a.toList.take n).drop t:=by
 rw[fZ,List.drop_take]
theorem tZ(out:Array Keyed)(x:Keyed):(out.push x).reverse.toList=x::out.reverse.toList:=by simp
theorem wK(out seg:Array Keyed):(out++seg.reverse).reverse.toList=seg.toList++out.reverse.toList:=by simp
abbrev Mh(κ:PyProof.Rows.KeyKind)(a b out:Array Keyed)(na nb:Nat):Prop:=MH (leK κ) a.toList b.toList out.reverse.toList na nb
structure At(κ:PyProof.Rows.KeyKind)(a b out:Array Keyed)(na nb:Nat):Prop where
 mi:Mh κ a b out na nb
 a1:1<=na
 a2:na<=a.size
 b1:2<=nb
 b2:nb<=b.size
theorem gA{κ:PyProof.Rows.KeyKind}{a:Array Keyed}(ka:KeysOf κ a){n:Nat}(h1:1<=n)(h2:n<=a.size):∃p,a[n-1]?=some p/\κ.keyOf p.1=some (key κ p)/\KK κ a (n-1)=key κ p/\(a.toList.take n).drop (n-1)=[p]:=by
 obtain⟨p,p1,p2,p3,p4⟩:=item ka (i:=n-1) Zz;refine⟨p,p1,p2,p3,?_⟩;rw[List.drop_take,p4,show n-(n-1)=1 by lia];rfl
theorem take_key{κ:PyProof.Rows.KeyKind}{a:Array Keyed}(ka:KeysOf κ a){n t:Nat}{x:Keyed}(h:x∈(a.toList.take n).drop t):∃j,t<=j/\j<n/\j<a.size/\KK κ a j=key κ x:=by
 rw[List.drop_take]at h;obtain⟨j,j1,j2,j3⟩:=jr ka h;exact⟨t+j,Zz,Zz,j2,j3⟩
theorem take_key0{κ:PyProof.Rows.KeyKind}{a:Array Keyed}(ka:KeysOf κ a){n:Nat}{x:Keyed}(h:x∈a.toList.take n):∃j,j<n/\j<a.size/\KK κ a j=key κ x:=by
 have h':x∈(a.toList.take n).drop 0:=by rw[List.drop_zero];exact h
 obtain⟨j,_,j1,j2,j3⟩:=take_key ka h';exact⟨j,j1,j2,j3⟩
theorem wL{κ:PyProof.Rows.KeyKind}{a:Array Keyed}(ka:KeysOf κ a)(sa:a.toList.Pairwise (leK κ)){n:Nat}{p:Keyed}(h1:1<=n)(h2:n<=a.size)(e:KK κ a (n-1)=key κ p):∀y∈a.toList.take n,leK κ y p:=fun y hy=>by
 obtain⟨j,j1,j2,j3⟩:=take_key0 ka hy;have:=jt ka sa (i:=j) (j:=n-1) Zz Zz;rw[j3,e]at this;exact this
theorem pushA{out:Array Keyed}{na nb:Nat}{x:Keyed}(T:Two κ a b)(m:Mh κ a b out na nb)(h1:1<=na)(h2:na<=a.size)(e:(a.toList.take na).drop (na-1)=[x])(h:∀y∈b.toList.take nb,leK κ y x):Mh κ a b (out.push x) (na-1) nb:=by
 have:=MH.segA (t:=na-1) m T.sa Zz (by rw[zA9];exact h2) fun z hz y hy=>by
  rw[e]at hz;rw[List.mem_singleton.mp hz];exact h y hy
 rw[e]at this;unfold Mh;rw[tZ];exact this
theorem pushB{out:Array Keyed}{na nb:Nat}{x:Keyed}(T:Two κ a b)(m:Mh κ a b out na nb)(h1:1<=nb)(h2:nb<=b.size)(e:(b.toList.take nb).drop (nb-1)=[x])(h:∀y∈a.toList.take na,leK κ y x):Mh κ a b (out.push x) na (nb-1):=by
 have:=MH.segB (t:=nb-1) m T.sb Zz (by rw[zA9];exact h2) fun z hz y hy=>by
  rw[e]at hz;rw[List.mem_singleton.mp hz];exact h y hy
 rw[e]at this;unfold Mh;rw[tZ];exact this
theorem Jf{out:Array Keyed}{na nb t:Nat}(T:Two κ a b)(m:Mh κ a b out na nb)(ht:t<=na)(h2:na<=a.size)(h:∀x∈(a.toList.take na).drop t,∀y∈b.toList.take nb,leK κ y x):Mh κ a b (out++(a.extract t na).reverse) t nb:=by
 have:=MH.segA m T.sa ht (by rw[zA9];exact h2) h;unfold Mh;rw[wK,ext_cut];exact this
theorem Jg{out:Array Keyed}{na nb t:Nat}(T:Two κ a b)(m:Mh κ a b out na nb)(ht:t<=nb)(h2:nb<=b.size)(h:∀x∈(b.toList.take nb).drop t,∀y∈a.toList.take na,leK κ y x):Mh κ a b (out++(b.extract t nb).reverse) na t:=by
 have:=MH.segB m T.sb ht (by rw[zA9];exact h2) h;unfold Mh;rw[wK,ext_cut];exact this
def FirstB(κ:PyProof.Rows.KeyKind)(a b:Array Keyed):Prop:=∀y∈b.toList.take 1,∀x∈a.toList,leK κ y x
theorem e_a{out:Array Keyed}{na nb:Nat}(T:Two κ a b)(m:Mh κ a b out na nb)(h:na=0):Rs κ a b (dn a b out na nb):=by
 subst h;have:=MH.endA m T.sa T.sb;unfold Rs dn;rw[Array.toList_append,Array.toList_append,yz,yz];exact this
theorem e_b{out:Array Keyed}{na nb:Nat}(T:Two κ a b)(m:Mh κ a b out na nb)(h:nb=0):Rs κ a b (dn a b out na nb):=by
 subst h;have:=MH.endB m T.sa T.sb;unfold Rs dn;rw[Array.toList_append,Array.toList_append,yz,yz];exact this
theorem e_f{out:Array Keyed}{na nb:Nat}(T:Two κ a b)(F:FirstB κ a b)(m:Mh κ a b out na nb)(h:nb=1):Rs κ a b (fb a b out na nb):=by
 subst h
 have:=MH.first m T.sa T.sb fun y hy x hx=>F y hy x (List.mem_of_mem_take hx)
 unfold Rs fb;rw[Array.toList_append,Array.toList_append,yz,yz];exact this
theorem vo(hL:LtAll prog w A E s κ ks)(T:Two κ a b)(F:FirstB κ a b){g na nb ac bc:Nat}{out:Array Keyed}{st:SortSt}(hk:kindOf st=ks)(m:At κ a b out na nb):
  wpS (model prog w) A E s (one a b g na nb out ac bc) (fun r Zr=>Zr=st/\match r with
   |.done c=>(∃z,c.1=some z/\Rs κ a b z)\/(c.1=none/\At κ a b c.2.2.2.1 c.2.1 c.2.2.1/\c.2.1+c.2.2.1+1=na+nb)
   |.yield c=>c.1=none/\At κ a b c.2.2.2.1 c.2.1 c.2.2.1/\c.2.1+c.2.2.1+1=na+nb) st:=by
 obtain⟨mi,a1,a2,b1,b2⟩:=m;obtain⟨x,x1,x2,x3,x4⟩:=gA T.ka a1 a2;obtain⟨y,y1,y2,y3,y4⟩:=gA T.kb (show 1<=nb by lia) b2;unfold one;refine wpS_bind (bh y1 (wpS_bind (bh x1 (wpS_bind (hL st hk _ _ _ _ _ y2 x2 ?_)))))
 cases e:κ.blt (key κ y) (key κ x)with
 |true=>
  dsimp only;rw[if_pos rfl];refine wpS_bind (bh x1 ?_);have m':=pushA T mi a1 a2 x4 fun z hz=>dC (wL T.kb T.sb Zz b2 y3 z hz) (KeyOrd.kle_of_klt e);by_cases h0:na-1=0
  .rw[if_pos (by simpa using h0)];exact wpS_pure ⟨rfl,.inl ⟨_,rfl,e_a T m' h0⟩⟩
  .rw[if_neg (by simpa using h0)]
   have at':At κ a b (out.push x) (na-1) nb:=⟨m',Zz,Zz,b1,b2⟩
   split
   .exact wpS_pure ⟨rfl,.inr ⟨rfl,at',by dsimp only;lia⟩⟩
   .exact wpS_pure ⟨rfl,rfl,at',by dsimp only;lia⟩
 |false=>
  dsimp only;rw[if_neg Zx];refine wpS_bind (bh y1 ?_);have m':=pushB T mi Zz b2 y4 fun z hz=>dC (wL T.ka T.sa a1 a2 x3 z hz) (show leK κ x y from e);by_cases h0:nb-1=1
  .rw[if_pos (by simpa using h0)];exact wpS_pure ⟨rfl,.inl ⟨_,rfl,e_f T F m' h0⟩⟩
  .rw[if_neg (by simpa using h0)]
   have at':At κ a b (out.push y) na (nb-1):=⟨m',a1,a2,Zz,Zz⟩
   split
   .exact wpS_pure ⟨rfl,.inr ⟨rfl,at',by dsimp only;lia⟩⟩
   .exact wpS_pure ⟨rfl,rfl,at',by dsimp only;lia⟩
def G2(κ:PyProof.Rows.KeyKind)(a b:Array Keyed)(n:Nat)(st:SortSt)(r:ForInStep H2)(Zr:SortSt):Prop:=SG st Zr/\match r with
 |.done c=>(∃z,c.1=some z/\Rs κ a b z)\/(c.1=none/\At κ a b c.2.2.2.1 c.2.1 c.2.2.1/\c.2.1+c.2.2.1<n)
 |.yield c=>c.1=none/\At κ a b c.2.2.2.1 c.2.1 c.2.2.1/\c.2.1+c.2.2.1<n
theorem mW(T:Two κ a b){g na nb k k1 n:Nat}{out:Array Keyed}{bP st:SortSt}(sg:SG bP st)(m:At κ a b out na nb)(hn:na+nb<=n)(h:∀y∈b.toList.take nb,∀x,a[na-1]?=some x->leK κ y x):
  wpS (model prog w) A E s (gl4 a b na nb out g k k1) (G2 κ a b n bP) st:=by
 obtain⟨mi,a1,a2,b1,b2⟩:=m;obtain⟨x,x1,x2,x3,x4⟩:=gA T.ka a1 a2;unfold gl4;refine wpS_bind (bh x1 ?_);have m':=pushA T mi a1 a2 x4 fun z hz=>h z hz x x1;by_cases h0:na-1=0
 .rw[if_pos (by simpa using h0)];exact wpS_pure ⟨sg,.inl ⟨_,rfl,e_a T m' h0⟩⟩
 .rw[if_neg (by simpa using h0)]
  have at':At κ a b (out.push x) (na-1) nb:=⟨m',Zz,Zz,b1,b2⟩
  split
  .exact wpS_pure ⟨sg,.inr ⟨rfl,at',by dsimp only;lia⟩⟩
  .exact wpS_pure ⟨sg,rfl,at',by dsimp only;lia⟩
theorem vq(hL:LtAll prog w A E s κ ks)(T:Two κ a b)(F:FirstB κ a b){g na nb k bc n:Nat}{out:Array Keyed}{bP st:SortSt}(hk:kindOf st=ks)(sg:SG bP st)(m:At κ a b out na nb)(hn:na+nb<=n):
  wpS (model prog w) A E s (gl3 a b na nb out g k bc) (G2 κ a b n bP) st:=by
 obtain⟨mi,a1,a2,b1,b2⟩:=id m;obtain⟨x,x1,x2,x3,x4⟩:=gA T.ka a1 a2;unfold gl3;refine wpS_bind (bh x1 ?_);refine wpS_bind (dO (κ:=κ) (kk:=key κ x) (hL st hk) x2 Zz (fun i hi=>?_) (fun i j cq hj jI=>?_) fun t kn kt kf=>?_)
 .obtain⟨p,p1,p2,p3,_⟩:=item T.kb (i:=0+i) Zz;exact⟨p,_,p1,p2,p3⟩
 .have mono:=jt T.kb T.sb (i:=0+i) (j:=0+j) Zz Zz;exact KeyOrd.klt_of_kle_of_klt mono jI
 .have early:∀y∈b.toList.take t,∀z,a[na-1]?=some z->leK κ y z:=fun y hy z hz=>by
   rw[x1]at hz;cases hz;obtain⟨j,j1,j2,j3⟩:=take_key0 T.kb hy;have:=kt j j1;rw[Nat.zero_add,j3]at this;exact KeyOrd.kle_of_klt this
  by_cases h0:nb-t>0
  .dsimp only;rw[if_pos h0]
   have m':=Jg T mi (show t<=nb by lia) b2 fun z hz y hy=>by
    obtain⟨j,j1,j2,j3,j4⟩:=take_key T.kb hz;have:=kf j j1 j2;rw[Nat.zero_add,j4]at this;exact dC (wL T.ka T.sa a1 a2 x3 y hy) (show leK κ x z from this)
   by_cases e:t=1
   .rw[if_pos (by simpa using e)];exact wpS_pure ⟨sg,.inl ⟨_,rfl,e_f T F m' e⟩⟩
   .rw[if_neg (by simpa using e)];by_cases e2:t=0
    .rw[if_pos (by simpa using e2)];exact wpS_pure ⟨sg,.inl ⟨_,rfl,e_b T m' e2⟩⟩
    .rw[if_neg (by simpa using e2)];exact mW T sg ⟨m',a1,a2,Zz,Zz⟩ Zz early
  .dsimp only;rw[if_neg h0];have e:t=nb:=Zz
   rw[e]at early;exact mW T sg m hn early
theorem mX(hL:LtAll prog w A E s κ ks)(T:Two κ a b)(F:FirstB κ a b){g na nb k bc n:Nat}{out:Array Keyed}{bP st:SortSt}(hk:kindOf st=ks)(sg:SG bP st)(m:At κ a b out na nb)(hn:na+nb<=n)(h:∀x∈a.toList.take na,∀y,b[nb-1]?=some y->leK κ x y):
  wpS (model prog w) A E s (gl2 a b na nb out g k bc) (G2 κ a b n bP) st:=by
 obtain⟨mi,a1,a2,b1,b2⟩:=m;obtain⟨y,y1,y2,y3,y4⟩:=gA T.kb (show 1<=nb by lia) b2;unfold gl2;refine wpS_bind (bh y1 ?_);have m':=pushB T mi Zz b2 y4 fun z hz=>h z hz y y1;by_cases h0:nb-1=1
 .rw[if_pos (by simpa using h0)];exact wpS_pure ⟨sg,.inl ⟨_,rfl,e_f T F m' h0⟩⟩
 .rw[if_neg (by simpa using h0)];exact vq hL T F hk sg ⟨m',a1,a2,Zz,Zz⟩ Zz
theorem vy(hL:LtAll prog w A E s κ ks)(T:Two κ a b)(F:FirstB κ a b){g na nb ac bc n:Nat}{out:Array Keyed}{bP st:SortSt}(hk:kindOf st=ks)(sg:SG bP st)(m:At κ a b out na nb)(hn:na+nb<=n):
  wpS (model prog w) A E s (gl1 a b na nb out g ac bc) (G2 κ a b n bP) st:=by
 obtain⟨mi,a1,a2,b1,b2⟩:=id m;obtain⟨y,y1,y2,y3,y4⟩:=gA T.kb (show 1<=nb by lia) b2;unfold gl1;refine wpS_bind (iC fun Zr gE=>?_);have eJ:kindOf Zr=ks:=gE.kind.trans hk
 have cb:SG bP Zr:=⟨gE.kind.trans sg.kind,gE.arr.trans sg.arr,gE.pend.trans sg.pend,gE.fail.trans sg.fail⟩
 refine wpS_bind (bh y1 ?_);refine wpS_bind (dO (κ:=κ) (kk:=key κ y) (hL Zr eJ) y2 Zz (fun i hi=>?_) (fun i j cq hj jI=>?_) fun t kn kt kf=>?_)
 .obtain⟨p,p1,p2,p3,_⟩:=item T.ka (i:=0+i) Zz;exact⟨p,_,p1,p2,p3⟩
 .have mono:=jt T.ka T.sa (i:=0+i) (j:=0+j) Zz Zz;have jI:(!κ.blt (key κ y) (KK κ a (0+j)))=true:=jI;show(!κ.blt (key κ y) (KK κ a (0+i)))=true;rw[Bool.not_eq_true']at jI⊢;exact KeyOrd.kle_trans mono jI
 .have early:∀x∈a.toList.take t,∀z,b[nb-1]?=some z->leK κ x z:=fun x hx z hz=>by
   rw[y1]at hz;cases hz;obtain⟨j,j1,j2,j3⟩:=take_key0 T.ka hx;have:=kt j j1;rw[Nat.zero_add,j3]at this;have this:(!κ.blt (key κ y) (key κ x))=true:=this;rw[Bool.not_eq_true']at this;exact this
  by_cases h0:na-t>0
  .dsimp only;rw[if_pos h0]
   have m':=Jf T mi (show t<=na by lia) a2 fun z hz x hx=>by
    obtain⟨j,j1,j2,j3,j4⟩:=take_key T.ka hz;have:=kf j j1 j2;rw[Nat.zero_add,j4]at this;have this:(!κ.blt (key κ y) (key κ z))=false:=this;rw[Bool.not_eq_false']at this;exact dC (wL T.kb T.sb Zz b2 y3 x hx) (KeyOrd.kle_of_klt this)
   by_cases e:t=0
   .rw[if_pos (by simpa using e)];exact wpS_pure ⟨cb,.inl ⟨_,rfl,e_a T m' e⟩⟩
   .rw[if_neg (by simpa using e)];exact mX hL T F eJ cb ⟨m',Zz,Zz,b1,b2⟩ Zz early
  .dsimp only;rw[if_neg h0];have e:t=na:=Zz
   rw[e]at early;exact mX hL T F eJ cb m hn early
theorem mY(hL:LtAll prog w A E s κ ks)(T:Two κ a b)(F:FirstB κ a b){g na nb:Nat}{out:Array Keyed}{bP st:SortSt}(hk:kindOf st=ks)(sg:SG bP st)(m:At κ a b out na nb):
  wpS (model prog w) A E s (round a b na nb out g) (fun r Zr=>SG bP Zr/\match r with
   |.done c=>∃z,c.1=some z/\Rs κ a b z
   |.yield c=>c.1=none/\At κ a b c.2.2.2.1 c.2.1 c.2.2.1/\c.2.1+c.2.2.1<na+nb) st:=by
 unfold round
 have Nr:0<a.size+b.size:=by
  have:=m.a1;have:=m.a2;lia
 refine wpS_bind (wpS_mono (wpS_forRange (I:=fun x c Zr=>Zr=st/\c.1=none/\At κ a b c.2.2.2.1 c.2.1 c.2.2.1/\c.2.1+c.2.2.1+x=na+nb)
  (Q:=fun c Zr=>Zr=st/\((∃z,c.1=some z/\Rs κ a b z)\/(c.1=none/\At κ a b c.2.2.2.1 c.2.1 c.2.2.1/\c.2.1+c.2.2.1<na+nb))) ?_ ?_ ⟨rfl,rfl,m,rfl⟩) ?_)
 .rintro x ⟨c0,i,j,o,ac,bc⟩ Zr _ hx ⟨rfl,rfl,m',e⟩;dsimp only at m' e⊢;refine wpS_mono (vo hL T F hk m') fun r st2 h2=>?_;obtain⟨rfl,h2⟩:=h2
  cases r with
  |done c=>
   rcases h2 with h2|⟨h2,h3,h4⟩
   .exact⟨rfl,.inl h2⟩
   .exact⟨rfl,.inr ⟨h2,h3,Zz⟩⟩
  |yield c=>
   obtain⟨h2,h3,h4⟩:=h2;exact⟨rfl,h2,h3,Zz⟩
 .rintro c Zr ⟨rfl,h1,h2,h3⟩;exact⟨rfl,.inr ⟨h1,h2,Zz⟩⟩
 .rintro⟨c0,i,j,o,ac,bc⟩ Zr ⟨rfl,h⟩;dsimp only at h⊢;rcases h with⟨z,rfl,hz⟩|⟨rfl,m',cq⟩
  .exact wpS_pure ⟨sg,z,rfl,hz⟩
  .dsimp only;refine wpS_bind (wpS_lift (wpAny_rule ⟨rfl,?_⟩))
   refine wpS_bind (wpS_mono (wpS_forRange (I:=fun x c st2=>SG bP st2/\c.1=none/\At κ a b c.2.2.2.1 c.2.1 c.2.2.1/\c.2.1+c.2.2.1<na+nb)
    (Q:=fun c st2=>SG bP st2/\((∃z,c.1=some z/\Rs κ a b z)\/(c.1=none/\At κ a b c.2.2.2.1 c.2.1 c.2.2.1/\c.2.1+c.2.2.1<na+nb))) ?_ ?_ ⟨sg,rfl,m',cq⟩) ?_)
   .rintro x ⟨c0,i,j,o,g2,ac,bc⟩ st2 _ hx ⟨cb,rfl,m2,e2⟩;dsimp only at m2 e2⊢;have xS:kindOf st2=ks:=cb.kind.trans (sg.kind.symm.trans hk);have go:∀g',wpS (model prog w) A E s (gl1 a b i j o g' ac bc) (G2 κ a b (na+nb) bP) st2:=fun g'=>vy hL T F xS cb m2 Zz;unfold gal;split
    .refine wpS_mono (go _) fun r fw h3=>?_;obtain⟨h3,h4⟩:=h3
     cases r with
     |done c=>exact⟨h3,h4⟩
     |yield c=>exact⟨h3,h4⟩
    .refine wpS_mono (go _) fun r fw h3=>?_;obtain⟨h3,h4⟩:=h3
     cases r with
     |done c=>exact⟨h3,h4⟩
     |yield c=>exact⟨h3,h4⟩
   .rintro c st2 ⟨h0,h1,h2,h3⟩;exact⟨h0,.inr ⟨h1,h2,h3⟩⟩
   .rintro⟨c0,i,j,o,g2,ac,bc⟩ st2 ⟨cb,h⟩;dsimp only at h⊢;rcases h with⟨z,rfl,hz⟩|⟨rfl,m2,rj⟩
    .exact wpS_pure ⟨cb,z,rfl,hz⟩
    .dsimp only;refine wpS_bind (iC fun fw mM=>wpS_pure ⟨⟨mM.kind.trans cb.kind,mM.arr.trans cb.arr,mM.pend.trans cb.pend,mM.fail.trans cb.fail⟩,rfl,m2,rj⟩)
theorem hi_wp(hL:LtAll prog w A E s κ ks)(T:Two κ a b)(L:iJ κ a b)(F:FirstB κ a b)(ha:0<a.size)(hb:0<b.size){st:SortSt}(hk:kindOf st=ks){Q:Array Keyed->SortSt->Prop}
  (h:∀r Zr,SG st Zr->Rs κ a b r->Q r Zr):wpS (model prog w) A E s (ju a b) Q st:=by
 rw[Je];obtain⟨x,x1,x2,x3,x4⟩:=gA T.ka (n:=a.size) ha (zA3 _);refine wpS_bind (wpS_lift (wpAny_rule ⟨rfl,?_⟩));refine wpS_bind (bh x1 ?_)
 have m0:Mh κ a b #[] a.size b.size:=by
  refine⟨?_,List.Pairwise.nil,fun x hx=>absurd hx Zy⟩;rw[List.drop_of_length_le (by rw[zA9];exact zA3 _),List.drop_of_length_le (by rw[zA9];exact zA3 _)];exact List.Perm.nil
 have m:Mh κ a b #[x] (a.size-1) b.size:=pushA (out:=#[]) T m0 ha (zA3 _) x4 fun y hy=>L y (List.mem_of_mem_take hy) x (by
  rw[<-zA9,zAm,zA9]at x4;rw[x4]
  exact List.mem_cons_self)
 by_cases e1:a.size-1=0
 .rw[if_pos (by simpa using e1)];exact wpS_pure (h _ st (SG.refl _) (e_a T m e1))
 .rw[if_neg (by simpa using e1)];by_cases e2:b.size=1
  .rw[if_pos (by simpa using e2)];exact wpS_pure (h _ st (SG.refl _) (e_f T F m e2))
  .rw[if_neg (by simpa using e2)];refine wpS_bind (wpS_get ?_)
   refine wpS_bind (wpS_mono (wpS_forRange (I:=fun x c Zr=>SG st Zr/\c.1=none/\At κ a b c.2.2.2.1 c.2.1 c.2.2.1/\c.2.1+c.2.2.1+x<a.size+b.size)
    (Q:=fun c Zr=>SG st Zr/\∃z,c.1=some z/\Rs κ a b z) ?_ ?_ ⟨SG.refl _,rfl,⟨m,by dsimp only;lia,by dsimp only;lia,by dsimp only;lia,Nat.le_refl _⟩,by dsimp only;lia⟩) ?_)
   .rintro x ⟨c0,i,j,o,g⟩ Zr _ hx ⟨sg,rfl,m',e⟩;dsimp only at m' e⊢;refine wpS_mono (mY hL T F (sg.kind.trans hk) sg m') fun r st2 h2=>?_;obtain⟨cb,h2⟩:=h2
    cases r with
    |done c=>exact⟨cb,h2⟩
    |yield c=>
     obtain⟨h2,h3,h4⟩:=h2;exact⟨cb,h2,h3,Zz⟩
   .rintro c Zr ⟨sg,h1,m',e⟩;exact absurd e Zz
   .rintro⟨c0,i,j,o,g⟩ Zr ⟨sg,z,e,hz⟩;dsimp only at e;rw[e];exact wpS_pure (h z Zr sg hz)
end
end Hi
open PySem PyProof.Rows
def over(arr:Array Keyed)(n:Nat)(l:List Keyed):Array Keyed:=l.zipIdx.foldl (fun a p=>a.setIfInBounds (n+p.2) p.1) arr
theorem qZ:∀(l:List Keyed) (j n:Nat) (arr:Array Keyed),n+j+l.length<=arr.size->
  (((l.zipIdx j).foldl (fun a p=>a.setIfInBounds (n+p.2) p.1) arr).size=arr.size/\∀i,((l.zipIdx j).foldl (fun a p=>a.setIfInBounds (n+p.2) p.1) arr)[i]?=if n+j<=i/\i<n+j+l.length then l[i-(n+j)]? else arr[i]?)
 |[],j,n,arr,_=>by
  refine⟨rfl,fun i=>?_⟩;rw[zAw (by rw[List.length_nil];lia)];rfl
 |p::l,j,n,arr,h=>by
  rw[zAe]at h;rw[List.zipIdx_cons,List.foldl_cons];obtain⟨h1,h2⟩:=qZ l (j+1) n (arr.setIfInBounds (n+j) p) (by rw[Array.size_setIfInBounds];lia);refine⟨by rw[h1,Array.size_setIfInBounds],fun i=>?_⟩;rw[h2 i,zAe,Array.getElem?_setIfInBounds];by_cases e:n+j=i
  .subst e;rw[if_neg Zz,if_pos rfl,if_pos Zz,if_pos Zz];simp
  .rw[zAw e];by_cases e2:n+(j+1)<=i/\i<n+(j+1)+l.length
   .rw[zAx e2,zAx Zz,show i-(n+j)=(i-(n+(j+1)))+1 by lia];rfl
   .rw[zAw e2,zAw Zz]
theorem yC{arr:Array Keyed}{n:Nat}{l:List Keyed}(h:n+l.length<=arr.size):(over arr n l).toList=arr.toList.take n++l++arr.toList.drop (n+l.length):=by
 obtain⟨h1,h2⟩:=qZ l 0 n arr Zz;refine List.ext_getElem? fun i=>?_;rw[Array.getElem?_toList];show((l.zipIdx 0).foldl (fun a p=>a.setIfInBounds (n+p.2) p.1) arr)[i]?=_;have hl:arr.toList.length=arr.size:=zA9;rw[h2 i,zAf,List.getElem?_append,zAd,hl,show min n arr.size=n by lia,List.getElem?_append];by_cases e1:i<n
 .rw[zAw Zz,zAx e1,List.getElem?_take,zAx e1,Array.getElem?_toList]
 .rw[zAw e1];by_cases e2:i<n+l.length
  .rw[zAx Zz,zAx Zz];rfl
  .rw[zAw Zz,zAw Zz,List.getElem?_drop,Array.getElem?_toList];congr 1;lia
theorem pw_of_seg{κ:PyProof.Rows.KeyKind}{arr:Array Keyed}(ka:KeysOf κ arr){lo hi:Nat}(hh:hi<=arr.size)(h:Seg κ arr lo hi):((arr.toList.take hi).drop lo).Pairwise (leK κ):=by
 rw[List.pairwise_iff_getElem];intro i j hX yi cq;rw[List.length_drop,zAd,zA9]at hX yi;rw[List.getElem_drop,List.getElem_drop,List.getElem_take,List.getElem_take]
 have eR:∀k,(hk:k<arr.toList.length)->k<arr.size->key κ arr.toList[k]=KK κ arr k:=fun k hk eJ=>by
  obtain⟨p,p1,p2,p3,p4⟩:=item ka eJ;rw[p3]
  have e:arr.toList[k]?=some p:=by
   rw[Array.getElem?_toList];exact p1
  rw[zA0 hk]at e;rw[zAl e]
 unfold leK;rw[eR _ _ Zz,eR _ _ Zz];exact h _ _ Zz Zz Zz
theorem yD{κ:PyProof.Rows.KeyKind}{arr:Array Keyed}(ka:KeysOf κ arr){lo hi:Nat}(hh:hi<=arr.size)(h:((arr.toList.take hi).drop lo).Pairwise (leK κ)):Seg κ arr lo hi:=by
 intro i j h1 h2 h3;by_cases e:i=j
 .rw[e];exact KeyOrd.kle_refl _
 .rw[List.pairwise_iff_getElem]at h
  have eR:∀k,(hk:k<arr.toList.length)->k<arr.size->key κ arr.toList[k]=KK κ arr k:=fun k hk eJ=>by
   obtain⟨p,p1,p2,p3,p4⟩:=item ka eJ;rw[p3]
   have e:arr.toList[k]?=some p:=by
    rw[Array.getElem?_toList];exact p1
   rw[zA0 hk]at e;rw[zAl e]
  have:=h (i-lo) (j-lo) (by rw[List.length_drop,zAd,zA9];lia) (by rw[List.length_drop,zAd,zA9];lia) Zz;rw[List.getElem_drop,List.getElem_drop,List.getElem_take,List.getElem_take]at this;unfold leK at this;rw[eR _ _ Zz,eR _ _ Zz]at this;rw[show lo+(i-lo)=i by lia,show lo+(j-lo)=j by lia]at this;exact this
theorem Jh(i:Nat):mergeAt' i=(do
  let s <-get
  match(pendingOf s)[i]?,(pendingOf s)[i+1]? with
  |some p,some q=>do
   set (setPending s (((pendingOf s).setIfInBounds i (p.1,p.2.1+q.2.1,p.2.2)).eraseIdxIfInBounds (i+1)))
   let y <-elem' (arrOf s) q.1
   let r <-fO false y (arrOf s) p.1 p.2.1 0
   match r with
   |some k=>
    if(p.2.1-k==0)=true then pure true
    else do
     let x <-elem' (arrOf s) (p.1+k+(p.2.1-k)-1)
     let r <-fO true x (arrOf s) q.1 q.2.1 (q.2.1-1)
     match r with
     |some n=>
      if(n==0)=true then pure true
      else do
       let m <-if p.2.1-k<=n then jn ((arrOf s).extract (p.1+k) q.1) ((arrOf s).extract q.1 (q.1+n))else ju ((arrOf s).extract (p.1+k) q.1) ((arrOf s).extract q.1 (q.1+n))
       modify fun s'=>setArr s' (over (arrOf s') (p.1+k) m.toList)
       let s' <-get
       pure (failedOf s').isNone
     |_=>pure false
   |_=>pure false
  |_,_=>liftM (unsupported "internal:list.sort.pending")):=by
 delta mergeAt'
 refine bc rfl (funext fun s=>?_);generalize e1:(pendingOf s)[i]?=o1;generalize e2:(pendingOf s)[i+1]?=o2
 cases o1 with
 |none=>cases o2<;>rfl
 |some p=>
  obtain⟨sa,na,pw⟩:=p
  cases o2 with
  |none=>rfl
  |some q=>
   obtain⟨sb,nb,DH⟩:=q;refine bc rfl (funext fun u=>bc rfl (funext fun y=>bc rfl (funext fun r=>?_)))
   cases r with
   |none=>rfl
   |some k=>
    refine ic rfl (bc rfl (funext fun x=>bc rfl (funext fun r=>?_)))
    cases r with
    |none=>rfl
    |some n=>exact ic rfl (ic (bc rfl (funext fun m=>rfl)) (bc rfl (funext fun m=>rfl)))
theorem keys_perm{κ:PyProof.Rows.KeyKind}{ae xs:Array Keyed}(h0:KeysOf κ ae)(h:xs.Perm ae):KeysOf κ xs:=fun p hp=>h0 p ((Array.perm_iff_toList_perm.mp h).mem_iff.mp hp)
theorem u5{κ:PyProof.Rows.KeyKind}{xs:Array Keyed}(h0:KeysOf κ xs)(i j:Nat):KeysOf κ (xs.extract i j):=fun p hp=>by
 rw[fZ]at hp;exact h0 p (List.mem_of_mem_drop (List.mem_of_mem_take hp))
section
variable{prog:Program}{w:World}{A:Around}{E:Value->Shared->Prop}{s:Shared}{κ:PyProof.Rows.KeyKind}{ks:SortKind}{ae:Array Keyed}
structure Mg(κ:PyProof.Rows.KeyKind)(ks:SortKind)(ae:Array Keyed)(st Zr:SortSt)(sa hi:Nat)(pend:Array (Nat×Nat×Nat)):Prop where
 base:SB ks ae Zr
 out:∀k,(k<sa\/hi<=k)->(arrOf Zr)[k]?=(arrOf st)[k]?
 seg:Seg κ (arrOf Zr) sa hi
 pend:pendingOf Zr=pend
theorem Ah{l:List Keyed}{i j k m:Nat}(h1:i<=j)(h2:j<=k)(h3:k<=m)(h4:m<=l.length):(l.take m).drop i=(l.take j).drop i++((l.take k).drop j++(l.take m).drop k):=by
 have c:∀{x y z:Nat},x<=y->y<=z->z<=l.length->(l.take z).drop x=(l.take y).drop x++(l.take z).drop y:=fun{x y z} a b d=>by
  have:=Hi.cut_drop (l:=l.take z) (t:=x) (n:=y) a (by rw[zAd];lia);rw[List.take_take,show min y z=y by lia]at this;exact this.symm
 rw[c h1 Zz h4,c h2 h3 h4]
theorem Ji(hL:LtAll prog w A E s κ ks)(h0:KeysOf κ ae){st:SortSt}(B:SB ks ae st){i sa na pw nb DH:Nat}(e1:(pendingOf st)[i]?=some (sa,na,pw))(e2:(pendingOf st)[i+1]?=some (sa+na,nb,DH))
  (n1:1<=na) (n2:1<=nb) (hz:sa+na+nb<=ae.size) (s1:Seg κ (arrOf st) sa (sa+na)) (s2:Seg κ (arrOf st) (sa+na) (sa+na+nb)) {Q:Bool->SortSt->Prop}
  (h:∀Zr,Mg κ ks ae st Zr sa (sa+na+nb) (((pendingOf st).setIfInBounds i (sa,na+nb,pw)).eraseIdxIfInBounds (i+1))->Q true Zr):wpS (model prog w) A E s (mergeAt' i) Q st:=by
 rw[Jh];refine wpS_bind (wpS_get ?_);rw[e1,e2];dsimp only;have kA:KeysOf κ (arrOf st):=keys_perm h0 B.pm;have hsz:(arrOf st).size=ae.size:=B.size;have ip:(arrOf st).toList.length=ae.size:=by rw[zA9,hsz]
 obtain⟨P,eP⟩:∃P,P=((pendingOf st).setIfInBounds i (sa,na+nb,pw)).eraseIdxIfInBounds (i+1):=⟨_,rfl⟩
 rw[<-eP]at h⊢
 have DI:∀{R:PUnit->SortSt->Prop},R ⟨⟩ (setPending st P)->wpS (model prog w) A E s (set (setPending st P):Sm PUnit) R st:=fun hR=>by
  unfold wpS;rw[StateT.run_set];exact zAz ⟨rfl,hR⟩
 refine wpS_bind (DI ?_)
 obtain⟨gz,mN⟩:∃gz,gz=setPending st P:=⟨_,rfl⟩
 have k1:kindOf gz=ks:=by rw[mN];exact B.kind
 have a1:arrOf gz=arrOf st:=by rw[mN]
 have p1:pendingOf gz=P:=by rw[mN]
 have f1:failedOf gz=none:=by rw[mN];exact B.ok
 rw[<-mN]
 have all:Seg κ (arrOf st) sa (sa+na+nb)->Mg κ ks ae st gz sa (sa+na+nb) P:=fun sg=>⟨⟨k1,f1,by rw[a1];exact B.pm⟩,fun k _=>by rw[a1],by rw[a1];exact sg,p1⟩
 obtain⟨y,y1,y2,y3,y4⟩:=item kA (i:=sa+na) Zz;refine wpS_bind (bh y1 ?_);refine wpS_bind (dO (κ:=κ) (kk:=key κ y) (hL gz k1) y2 Zz (fun j hj=>?_) (fun j j' Nt yi hb=>?_) fun k kn kt kf=>?_)
 .obtain⟨p,q1,q2,q3,_⟩:=item kA (i:=sa+j) Zz;exact⟨p,_,q1,q2,q3⟩
 .have mono:=s1 (sa+j) (sa+j') Zz Zz Zz;have hb:(!κ.blt (key κ y) (KK κ (arrOf st) (sa+j')))=true:=hb;show(!κ.blt (key κ y) (KK κ (arrOf st) (sa+j)))=true;rw[Bool.not_eq_true']at hb⊢;exact KeyOrd.kle_trans mono hb
 .have DJ:∀j,sa<=j->j<sa+k->κ.kle (KK κ (arrOf st) j) (KK κ (arrOf st) (sa+na)):=fun j j1 j2=>by
   have:=kt (j-sa) Zz;rw[show sa+(j-sa)=j by lia]at this;have this:(!κ.blt (key κ y) (KK κ (arrOf st) j))=true:=this;rw[Bool.not_eq_true']at this;rw[y3];exact this
  have Nu:∀j,sa+k<=j->j<sa+na->κ.kle (KK κ (arrOf st) (sa+na)) (KK κ (arrOf st) j):=fun j j1 j2=>by
   have:=kf (j-sa) Zz Zz;rw[show sa+(j-sa)=j by lia]at this;have this:(!κ.blt (key κ y) (KK κ (arrOf st) j))=false:=this;rw[Bool.not_eq_false']at this;rw[y3];exact KeyOrd.kle_of_klt this
  dsimp only;by_cases tj:na-k=0
  .rw[if_pos (by simpa using tj)];refine wpS_pure (h gz (all fun u v hu yk hv=>?_));by_cases c1:v<sa+na
   .exact s1 u v hu yk c1
   .by_cases c2:u<sa+na
    .exact KeyOrd.kle_trans (DJ u hu Zz) (s2 (sa+na) v (zA3 _) Zz hv)
    .exact s2 u v Zz yk hv
  .rw[if_neg (by simpa using tj)];rw[show sa+k+(na-k)-1=sa+na-1 by lia];obtain⟨x,x1,x2,x3,x4⟩:=item kA (i:=sa+na-1) Zz;refine wpS_bind (bh x1 ?_);refine wpS_bind (dO (κ:=κ) (kk:=key κ x) (hL gz k1) x2 Zz (fun j hj=>?_) (fun j j' Nt yi hb=>?_) fun n nn nt nf=>?_)
   .obtain⟨p,q1,q2,q3,_⟩:=item kA (i:=sa+na+j) Zz;exact⟨p,_,q1,q2,q3⟩
   .exact KeyOrd.klt_of_kle_of_klt (s2 (sa+na+j) (sa+na+j') Zz Zz Zz) hb
   .have Nv:∀j,sa+na<=j->j<sa+na+n->κ.kle (KK κ (arrOf st) j) (KK κ (arrOf st) (sa+na-1)):=fun j j1 j2=>by
     have:=nt (j-(sa+na)) Zz;rw[show sa+na+(j-(sa+na))=j by lia]at this;rw[x3];exact KeyOrd.kle_of_klt this
    have JU:∀j,sa+na+n<=j->j<sa+na+nb->κ.kle (KK κ (arrOf st) (sa+na-1)) (KK κ (arrOf st) j):=fun j j1 j2=>by
     have:=nf (j-(sa+na)) Zz Zz;rw[show sa+na+(j-(sa+na))=j by lia]at this;rw[x3];exact this
    dsimp only;by_cases JY:n=0
    .rw[if_pos (by simpa using JY)];refine wpS_pure (h gz (all fun u v hu yk hv=>?_));by_cases c1:v<sa+na
     .exact s1 u v hu yk c1
     .by_cases c2:u<sa+na
      .exact KeyOrd.kle_trans (s1 u (sa+na-1) hu Zz Zz) (JU v Zz hv)
      .exact s2 u v Zz yk hv
    .rw[if_neg (by simpa using JY)]
     obtain⟨X,eX⟩:∃X,X=(arrOf st).extract (sa+k) (sa+na):=⟨_,rfl⟩
     obtain⟨Y,eY⟩:∃Y,Y=(arrOf st).extract (sa+na) (sa+na+n):=⟨_,rfl⟩
     rw[<-eX,<-eY];have lX:X.toList=((arrOf st).toList.take (sa+na)).drop (sa+k):=by rw[eX,Hi.ext_cut]
     have lY:Y.toList=((arrOf st).toList.take (sa+na+n)).drop (sa+na):=by rw[eY,Hi.ext_cut]
     have zX:X.size=na-k:=by rw[<-zA9,lX,List.length_drop,zAd,ip];lia
     have zY:Y.size=n:=by rw[<-zA9,lY,List.length_drop,zAd,ip];lia
     have pA:=pw_of_seg kA Zz s1;have pB:=pw_of_seg kA Zz s2;have eA:=Ah (l:=(arrOf st).toList) (i:=sa) (j:=sa+k) (k:=sa+na) (m:=sa+na) Zz Zz (zA3 _) (by rw[ip];lia);have eB:=Ah (l:=(arrOf st).toList) (i:=sa+na) (j:=sa+na+n) (k:=sa+na+nb) (m:=sa+na+nb) Zz Zz (zA3 _) (by rw[ip];lia);have DL:((arrOf st).toList.take (sa+na)).drop (sa+na)=[]:=List.drop_of_length_le (by rw[zAd];lia);have DM:((arrOf st).toList.take (sa+na+nb)).drop (sa+na+nb)=[]:=List.drop_of_length_le (by rw[zAd];lia);rw[DL,zAn,<-lX]at eA;rw[DM,zAn,<-lY]at eB
     obtain⟨A1,DO⟩:∃A1,A1=((arrOf st).toList.take (sa+k)).drop sa:=⟨_,rfl⟩
     obtain⟨B2,DS⟩:∃B2,B2=((arrOf st).toList.take (sa+na+nb)).drop (sa+na+n):=⟨_,rfl⟩
     rw[<-DO]at eA;rw[<-DS]at eB;rw[eA]at pA;rw[eB]at pB;obtain⟨Nw,pX,Nx⟩:=List.pairwise_append.mp pA;obtain⟨pY,Ny,Nz⟩:=List.pairwise_append.mp pB
     have Kb:∀z∈X.toList,∃j,sa+k<=j/\j<sa+na/\KK κ (arrOf st) j=key κ z:=fun z dQ=>by
      rw[lX]at dQ;obtain⟨j,j1,j2,_,j4⟩:=Hi.take_key kA dQ;exact⟨j,j1,j2,j4⟩
     have Ki:∀z∈Y.toList,∃j,sa+na<=j/\j<sa+na+n/\KK κ (arrOf st) j=key κ z:=fun z dQ=>by
      rw[lY]at dQ;obtain⟨j,j1,j2,_,j4⟩:=Hi.take_key kA dQ;exact⟨j,j1,j2,j4⟩
     have NA:∀z∈A1,∃j,sa<=j/\j<sa+k/\KK κ (arrOf st) j=key κ z:=fun z dQ=>by
      rw[DO]at dQ;obtain⟨j,j1,j2,_,j4⟩:=Hi.take_key kA dQ;exact⟨j,j1,j2,j4⟩
     have Kj:∀z∈B2,∃j,sa+na+n<=j/\j<sa+na+nb/\KK κ (arrOf st) j=key κ z:=fun z dQ=>by
      rw[DS]at dQ;obtain⟨j,j1,j2,_,j4⟩:=Hi.take_key kA dQ;exact⟨j,j1,j2,j4⟩
     have TT:Two κ X Y:=⟨by rw[eX];exact u5 kA _ _,by rw[eY];exact u5 kA _ _,pX,pY⟩
     have LL:iJ κ X Y:=fun z dQ v hv=>by
      obtain⟨j,j1,j2,j3⟩:=Ki z dQ;obtain⟨j',yn,yy,rl⟩:=mV TT.ka hv;have ej:j'=X.size-1:=Zz
      have e:KK κ X j'=KK κ (arrOf st) (sa+na-1):=by
       refine KK_congr ?_;rw[eX,Array.getElem?_extract,zAx Zz];congr 1;lia
      show κ.kle (key κ z) (key κ v);rw[<-j3,<-rl,e];exact Nv j j1 j2
     have F0:∀v∈X.toList,∀z,Y[0]?=some z->leK κ z v:=fun v hv z dQ=>by
      obtain⟨j,j1,j2,j3⟩:=Kb v hv
      have ez:z=y:=by
       rw[eY,Array.getElem?_extract,zAx Zz,Nat.add_zero,y1]at dQ;exact(zAl dQ).symm
      show κ.kle (key κ z) (key κ v);rw[ez,<-y3,<-j3];exact Nu j j1 j2
     have FB:Hi.FirstB κ X Y:=fun z dQ v hv=>by
      obtain⟨j,j1,j2,j3⟩:=Hi.take_key0 TT.kb dQ;obtain⟨q,q1,q2,q3,_⟩:=item TT.kb (i:=0) Zz;have e0:j=0:=Zz
      rw[e0,q3]at j3;have:=F0 v hv q q1;unfold leK at this⊢;rw[<-j3];exact this
     have fin:∀m st2,SG gz st2->Rs κ X Y m->wpS (model prog w) A E s (do
       modify fun s'=>setArr s' (over (arrOf s') (sa+k) m.toList)
       let s' <-get
       pure (failedOf s').isNone) Q st2:=fun m st2 sg D=>by
      refine wpS_bind (wpS_modify (wpS_bind (wpS_get (wpS_pure ?_))))
      have ft:(failedOf (setArr st2 (over (arrOf st2) (sa+k) m.toList))).isNone=true:=by
       show(failedOf st2).isNone=true;rw[sg.fail,f1];rfl
      rw[ft];have am:arrOf st2=arrOf st:=sg.arr.trans a1
      have lm:m.toList.length=na-k+n:=by
       rw[D.pm.length_eq,zA2,zA9,zA9,zX,zY]
      have ol:(over (arrOf st) (sa+k) m.toList).toList=(arrOf st).toList.take (sa+k)++m.toList++(arrOf st).toList.drop (sa+na+n):=by
       rw[yC (by rw[lm,hsz];lia),lm,show sa+k+(na-k+n)=sa+na+n by lia]
      have yA:(over (arrOf st) (sa+k) m.toList).toList.Perm (arrOf st).toList:=by
       rw[ol]
       have e:(arrOf st).toList=(arrOf st).toList.take (sa+k)++(X.toList++Y.toList)++(arrOf st).toList.drop (sa+na+n):=by
        rw[lX,lY];have c1:=Hi.cut_drop (l:=(arrOf st).toList) (t:=sa+na) (n:=sa+na+n) Zz (by rw[ip];lia);have c2:=Hi.cut_drop (l:=(arrOf st).toList) (t:=sa+k) (n:=sa+na) Zz (by rw[ip];lia);rw[zAf,zAf,c1,c2,zBb]
       conv=>rhs;rw[e]
       exact List.Perm.append_right _ (List.Perm.append_left _ D.pm)
      have kU:(over (arrOf st) (sa+k) m.toList).Perm (arrOf st):=Array.perm_iff_toList_perm.mpr yA;have kO:KeysOf κ (over (arrOf st) (sa+k) m.toList):=keys_perm kA kU;have zO:(over (arrOf st) (sa+k) m.toList).size=ae.size:=kU.size_eq.trans hsz;have og:∀j,(over (arrOf st) (sa+k) m.toList)[j]?=if sa+k+0<=j/\j<sa+k+0+m.toList.length then m.toList[j-(sa+k+0)]? else(arrOf st)[j]?:=(qZ m.toList 0 (sa+k) (arrOf st) (by rw[lm,hsz];lia)).2;refine h _ ⟨⟨sg.kind.trans k1,by show failedOf st2=none;rw[sg.fail,f1],?_⟩,fun j hj=>?_,?_,?_⟩
      .show(over (arrOf st2) (sa+k) m.toList).Perm ae;rw[am];exact kU.trans B.pm
      .show(over (arrOf st2) (sa+k) m.toList)[j]?=_;rw[am,og j,zAw (by rw[lm];lia)]
      .show Seg κ (over (arrOf st2) (sa+k) m.toList) sa (sa+na+nb);rw[am];refine yD kO (by rw[zO];exact hz) ?_
       have cut:((over (arrOf st) (sa+k) m.toList).toList.take (sa+na+nb)).drop sa=A1++(m.toList++B2):=by
        rw[ol,DO,DS];have tl:((arrOf st).toList.take (sa+k)).length=sa+k:=by rw[zAd,ip];lia
        rw[zAf,List.take_append,tl,List.take_of_length_le (l:=(arrOf st).toList.take (sa+k)) (by rw[tl];lia),List.take_append,lm,List.take_of_length_le (l:=m.toList) (by rw[lm];lia)];rw[List.drop_append_of_le_length (by rw[tl];lia)];congr 2;rw[List.drop_take];congr 1;lia
       rw[cut];refine List.pairwise_append.mpr ⟨Nw,List.pairwise_append.mpr ⟨D.sr,Ny,fun u hu v hv=>?_⟩,fun u hu v hv=>?_⟩
       .rcases zA6.mp (D.pm.mem_iff.mp hu)with c|c
        .obtain⟨j,j1,j2,j3⟩:=Kb u c;obtain⟨j',yn,yy,rl⟩:=Kj v hv;show κ.kle (key κ u) (key κ v);rw[<-j3,<-rl];exact KeyOrd.kle_trans (s1 j (sa+na-1) Zz Zz Zz) (JU j' yn yy)
        .exact Nz u c v hv
       .obtain⟨j,j1,j2,j3⟩:=NA u hu;rcases zA6.mp hv with c|c
        .rcases zA6.mp (D.pm.mem_iff.mp c)with c|c
         .exact Nx u hu v c
         .obtain⟨j',yn,yy,rl⟩:=Ki v c;show κ.kle (key κ u) (key κ v);rw[<-j3,<-rl];exact KeyOrd.kle_trans (DJ j j1 j2) (s2 (sa+na) j' (zA3 _) yn Zz)
        .obtain⟨j',yn,yy,rl⟩:=Kj v c;show κ.kle (key κ u) (key κ v);rw[<-j3,<-rl];exact KeyOrd.kle_trans (DJ j j1 j2) (s2 (sa+na) j' (zA3 _) Zz yy)
      .show pendingOf st2=P;rw[sg.pend,p1]
     by_cases hc:na-k<=n
     .rw[zAx hc];exact wpS_bind (Jd hL TT LL Zz Zz F0 k1 fun m st2 sg D=>fin m st2 sg D)
     .rw[zAw hc];exact wpS_bind (Hi.hi_wp hL TT LL FB Zz Zz k1 fun m st2 sg D=>fin m st2 sg D)
end
abbrev Run:=Nat×Nat×Nat
def Ch(κ:PyProof.Rows.KeyKind)(arr:Array Keyed):List Run->Nat->Nat->Prop
 |[],a,b=>a=b
 |r::l,a,b=>r.1=a/\1<=r.2.1/\Seg κ arr a (a+r.2.1)/\Ch κ arr l (a+r.2.1) b
theorem Ch.le{κ:PyProof.Rows.KeyKind}{arr:Array Keyed}:∀{l:List Run} {a b:Nat},Ch κ arr l a b->a+l.length<=b
 |[],a,b,h=>by
  have h:a=b:=h;simp[h]
 |r::l,a,b,h=>by
  have:=Ch.le h.2.2.2;have:=h.2.1;rw[zAe];lia
theorem Ch.split{κ:PyProof.Rows.KeyKind}{arr:Array Keyed}:∀{l1 l2:List Run} {a b:Nat},Ch κ arr (l1++l2) a b↔∃m,Ch κ arr l1 a m/\Ch κ arr l2 m b
 |[],l2,a,b=>⟨fun h=>⟨a,rfl,h⟩,fun⟨m,h1,h2⟩=>by
  have h1:a=m:=h1;rw[h1]
  exact h2⟩
 |r::l1,l2,a,b=>by
  constructor
  .intro h;obtain⟨m,h1,h2⟩:=Ch.split.mp h.2.2.2;exact⟨m,⟨h.1,h.2.1,h.2.2.1,h1⟩,h2⟩
  .rintro⟨m,h1,h2⟩;exact⟨h1.1,h1.2.1,h1.2.2.1,Ch.split.mpr ⟨m,h1.2.2.2,h2⟩⟩
theorem u6{κ:PyProof.Rows.KeyKind}{arr kX:Array Keyed}{a b:Nat}(h:Seg κ arr a b)(e:∀k,a<=k->k<b->kX[k]?=arr[k]?):Seg κ kX a b:=fun i j h1 h2 h3=>by
 rw[KK_congr (e i h1 Zz),KK_congr (e j Zz h3)];exact h i j h1 h2 h3
theorem Ch.same{κ:PyProof.Rows.KeyKind}{arr kX:Array Keyed}:∀{l:List Run} {a b:Nat},Ch κ arr l a b->(∀k,a<=k->k<b->kX[k]?=arr[k]?)->Ch κ kX l a b
 |[],_,_,h,_=>h
 |r::l,a,b,h,e=>by
  have:=Ch.le h.2.2.2;exact⟨h.1,h.2.1,u6 h.2.2.1 fun k k1 k2=>e k k1 Zz,h.2.2.2.same fun k k1 k2=>e k Zz k2⟩
theorem yE{p:Array Run}{i:Nat}{v:Run}(h:i+1<p.size):((p.setIfInBounds i v).eraseIdxIfInBounds (i+1)).toList=p.toList.take i++v::p.toList.drop (i+2):=by
 have hl:p.toList.length=p.size:=zA9
 have e1:(p.setIfInBounds i v).eraseIdxIfInBounds (i+1)=(p.setIfInBounds i v).eraseIdx (i+1) (by rw[Array.size_setIfInBounds];exact h):=by
  rw[Array.eraseIdxIfInBounds,dif_pos (by rw[Array.size_setIfInBounds];exact h)]
 rw[e1,Array.toList_eraseIdx,Array.toList_setIfInBounds,List.eraseIdx_eq_take_drop_succ,List.take_set,List.drop_set,zAx Zz]
 have e2:p.toList.take (i+1)=p.toList.take i++[p.toList[i]'Zz]:=by
  rw[zAj,zA0 Zz];rfl
 rw[e2,List.set_append_right _ _ (by rw[zAd];lia)];rw[zAd,show i-min i p.toList.length=0 by lia];simp
section
variable{prog:Program}{w:World}{A:Around}{E:Value->Shared->Prop}{s:Shared}{κ:PyProof.Rows.KeyKind}{ks:SortKind}{ae:Array Keyed}
structure St(κ:PyProof.Rows.KeyKind)(ks:SortKind)(ae:Array Keyed)(st:SortSt)(lo:Nat):Prop where
 base:SB ks ae st
 ch:Ch κ (arrOf st) (pendingOf st).toList 0 lo
 le:lo<=ae.size
theorem u9(hL:LtAll prog w A E s κ ks)(h0:KeysOf κ ae){st:SortSt}{lo i:Nat}(S:St κ ks ae st lo)(hi:i+1<(pendingOf st).size){Q:Bool->SortSt->Prop}
  (h:∀Zr,St κ ks ae Zr lo->(pendingOf Zr).size+1=(pendingOf st).size->(∀k,lo<=k->(arrOf Zr)[k]?=(arrOf st)[k]?)->Q true Zr):wpS (model prog w) A E s (mergeAt' i) Q st:=by
 have hl:(pendingOf st).toList.length=(pendingOf st).size:=zA9;have d1:(pendingOf st).toList.drop i=(pendingOf st).toList[i]'Zz::(pendingOf st).toList.drop (i+1):=List.drop_eq_getElem_cons Zz;have d2:(pendingOf st).toList.drop (i+1)=(pendingOf st).toList[i+1]'Zz::(pendingOf st).toList.drop (i+2):=List.drop_eq_getElem_cons Zz;have g1:(pendingOf st)[i]?=some ((pendingOf st).toList[i]'Zz):=by rw[<-Array.getElem?_toList,zA0 Zz]
 have g2:(pendingOf st)[i+1]?=some ((pendingOf st).toList[i+1]'Zz):=by rw[<-Array.getElem?_toList,zA0 Zz]
 obtain⟨⟨sa,na,pw⟩,ep⟩:∃r,r=(pendingOf st).toList[i]'Zz:=⟨_,rfl⟩
 obtain⟨⟨sb,nb,DH⟩,eq⟩:∃r,r=(pendingOf st).toList[i+1]'Zz:=⟨_,rfl⟩
 rw[<-ep]at d1 g1;rw[<-eq]at d2 g2;have c:=S.ch;rw[<-List.take_append_drop i (pendingOf st).toList,d1,d2]at c;obtain⟨m,c1,c2⟩:=Ch.split.mp c;obtain⟨q1,q2,q3,q4,q5,q6,q7⟩:=c2;dsimp only at q1 q2 q3 q4 q5 q6 q7;subst q1;subst q4;have lb:=Ch.le q7;have lm:=Ch.le c1;refine Ji hL h0 S.base g1 g2 q2 q5 (by have:=S.le;lia) q3 q6 fun Zr M=>?_;have pl:(pendingOf Zr).toList=(pendingOf st).toList.take i++(sa,na+nb,pw)::(pendingOf st).toList.drop (i+2):=by rw[M.pend,yE hi]
 refine h Zr ⟨M.base,?_,S.le⟩ ?_ fun k hk=>M.out k (.inr Zz)
 .rw[pl];refine Ch.split.mpr ⟨sa,c1.same fun k _ k2=>M.out k (.inl k2),rfl,by dsimp only;lia,?_,?_⟩
  .dsimp only;rw[<-Nat.add_assoc];exact M.seg
  .dsimp only;rw[<-Nat.add_assoc];exact q7.same fun k k1 _=>M.out k (.inr k1)
 .rw[<-zA9,pl,zA2,zAe,zAd,List.length_drop];lia
def rest(z lo n:Nat):Sm (ForInStep (Option Unit×Nat)):=do
 let s <-get
 match(pendingOf s).back? with
 |some (s1,n1,_)=>do
  let c <-forIn [0:z] ((none,()):Option Unit×Unit) fun _ _=>do
    let s <-get
    match(if(pendingOf s).size>1 then(pendingOf s)[(pendingOf s).size-2]? else none)with
    |some (_,_,oB)=>
     if oB<=power' z (2*s1+n1) (2*s1+n1+n1+n) z then pure (ForInStep.done (none,()))
     else do
      let b <-mergeAt' ((pendingOf s).size-2)
      if(!b)=true then pure (ForInStep.done (some (),()))else pure (ForInStep.yield (none,()))
    |_=>pure (ForInStep.done (none,()))
  match c.1 with
  |some r=>pure (ForInStep.done (some r,lo))
  |none=>do
   modify fun s=>setPending s ((pendingOf s).modify ((pendingOf s).size-1) fun x=>(x.1,x.2.1,power' z (2*s1+n1) (2*s1+n1+n1+n) z))
   modify fun s=>setPending s ((pendingOf s).push (lo,n,0))
   pure (ForInStep.yield (none,lo+n))
 |_=>do
  modify fun s=>setPending s ((pendingOf s).push (lo,n,0))
  pure (ForInStep.yield (none,lo+n))
theorem Ch.pw{κ:PyProof.Rows.KeyKind}{arr:Array Keyed}(f:Run->Run)(hf:∀r,(f r).1=r.1/\(f r).2.1=r.2.1):∀{l:List Run} {a b i:Nat},Ch κ arr l a b->Ch κ arr (l.modify i f) a b
 |[],a,b,i,h=>by
  cases i<;>exact h
 |r::l,a,b,0,h=>by
  obtain⟨e1,e2⟩:=hf r;refine⟨e1.trans h.1,by rw[e2];exact h.2.1,by rw[e2];exact h.2.2.1,?_⟩;rw[e2];exact h.2.2.2
 |r::l,a,b,i+1,h=>⟨h.1,h.2.1,h.2.2.1,Ch.pw f hf h.2.2.2⟩
theorem St.push{st:SortSt}{lo n:Nat}(S:St κ ks ae st lo)(n1:1<=n)(hn:lo+n<=ae.size)(sg:Seg κ (arrOf st) lo (lo+n)):St κ ks ae (setPending st ((pendingOf st).push (lo,n,0))) (lo+n):=by
 refine⟨⟨S.base.kind,S.base.ok,S.base.pm⟩,?_,hn⟩;show Ch κ (arrOf st) ((pendingOf st).push (lo,n,0)).toList 0 (lo+n);rw[Array.toList_push];exact Ch.split.mpr ⟨lo,S.ch,rfl,n1,sg,rfl⟩
theorem St.pw{st:SortSt}{lo i:Nat}(S:St κ ks ae st lo)(f:Run->Run)(hf:∀r,(f r).1=r.1/\(f r).2.1=r.2.1):St κ ks ae (setPending st ((pendingOf st).modify i f)) lo:=by
 refine⟨⟨S.base.kind,S.base.ok,S.base.pm⟩,?_,S.le⟩;show Ch κ (arrOf st) ((pendingOf st).modify i f).toList 0 lo;rw[Array.toList_modify];exact S.ch.pw f hf
theorem wM(hL:LtAll prog w A E s κ ks)(h0:KeysOf κ ae){st:SortSt}{lo n x:Nat}(S:St κ ks ae st lo)(n1:1<=n)(hn:lo+n<=ae.size)(sg:Seg κ (arrOf st) lo (lo+n))(hx:x<=lo){Q:ForInStep (Option Unit×Nat)->SortSt->Prop}
  (h:∀Zr,St κ ks ae Zr (lo+n)->Q (.yield (none,lo+n)) Zr):wpS (model prog w) A E s (rest ae.size lo n) Q st:=by
 unfold rest;refine wpS_bind (wpS_get ?_)
 cases(pendingOf st).back? with
 |none=>exact wpS_bind (wpS_modify (wpS_pure (h _ (S.push n1 hn sg))))
 |some q=>
  obtain⟨s1,DT,p1⟩:=q;dsimp only;refine wpS_bind (wpS_mono (wpS_forRange (I:=fun _ c Zr=>c=(none,())/\St κ ks ae Zr lo/\Seg κ (arrOf Zr) lo (lo+n)) (Q:=fun c Zr=>c=(none,())/\St κ ks ae Zr lo/\Seg κ (arrOf Zr) lo (lo+n)) ?_ (fun _ _ z=>z) ⟨rfl,S,sg⟩) ?_)
  .rintro y c Zr _ _ ⟨rfl,S',gE⟩;refine wpS_bind (wpS_get ?_);by_cases h1:(pendingOf Zr).size>1
   .rw[zAx h1];have hl:(pendingOf Zr).size-2<(pendingOf Zr).size:=Zz
    rw[Array.getElem?_eq_getElem hl]
    obtain⟨⟨a1,a2,oB⟩,eo⟩:∃r,r=(pendingOf Zr)[(pendingOf Zr).size-2]:=⟨_,rfl⟩
    rw[<-eo];dsimp only;split
    .exact wpS_pure ⟨rfl,S',gE⟩
    .refine wpS_bind (u9 hL h0 S' Zz fun st2 S2 _ o2=>?_);rw[zAw Zx];exact wpS_pure ⟨rfl,S2,u6 gE fun k k1 _=>o2 k k1⟩
   .rw[zAw h1];exact wpS_pure ⟨rfl,S',gE⟩
  .rintro c Zr ⟨rfl,S',gE⟩;dsimp only;refine wpS_bind (wpS_modify (wpS_bind (wpS_modify (wpS_pure (h _ ?_)))));exact(S'.pw (fun x=>(x.1,x.2.1,power' ae.size (2*s1+DT) (2*s1+DT+DT+n) ae.size)) fun _=>⟨rfl,rfl⟩).push n1 hn gE
theorem ifl(c:Prop)[Decidable c](n:Nat):(if c then n-1 else n)<=n:=by split<;>lia
theorem runs_wp(hL:LtAll prog w A E s κ ks)(h0:KeysOf κ ae){st:SortSt}(B:SB ks ae st)(hp:pendingOf st=#[]){Q:Unit->SortSt->Prop}
  (h:∀Zr,SB ks ae Zr->Seg κ (arrOf Zr) 0 ae.size->Q () Zr):wpS (model prog w) A E s sortRuns' Q st:=by
 rw[sortRuns'_eq];refine wpS_bind (wpS_get ?_);dsimp only;rw[B.size];generalize minRun' ae.size ae.size 0=mr;refine wpS_bind (wpS_mono (wpS_forRange (I:=fun x c Zr=>c.1=none/\St κ ks ae Zr c.2/\x<=c.2) (Q:=fun c Zr=>c.1=none/\St κ ks ae Zr ae.size) ?_ ?_ ⟨rfl,⟨B,by rw[hp];rfl,zAp _⟩,zA3 _⟩) ?_)
 .rintro x ⟨c0,lo⟩ Zr _ hx ⟨rfl,S,cE⟩;dsimp only at S cE⊢;by_cases oz:lo≥ae.size
  .rw[zAx oz]
   have e:lo=ae.size:=by
    have:=S.le;lia
   refine wpS_pure ⟨rfl,?_⟩;rw[<-e];exact S
  .rw[if_neg oz];refine wpS_bind (Af hL h0 Zz Zz S.base fun n gz B1 O1 n1 n2 Kk=>?_);dsimp only
   have S1:St κ ks ae gz lo:=⟨B1,by rw[O1.pend];exact S.ch.same fun k _ k2=>O1.out k (.inl k2),S.le⟩
   have tr:∀{m m':Sm (ForInStep (Option Unit×Nat))} {R:ForInStep (Option Unit×Nat)->SortSt->Prop} {st2:SortSt},m=m'->wpS (model prog w) A E s m' R st2->wpS (model prog w) A E s m R st2:=fun e h=>e▸h;by_cases hm:n<mr
   .rw[if_pos hm];refine wpS_bind (wpS_lift (wpAny_rule ⟨rfl,?_⟩));refine wpS_bind (Hl hL h0 Zz Zz B1 Kk fun st2 B2 O2 cb=>?_);rw[if_neg Zx];refine tr ?_ (wM hL h0 ⟨B2,by rw[O2.pend];exact S1.ch.same fun k _ k2=>O2.out k (.inl k2),S.le⟩ Zz Zz cb cE fun fw S3=>⟨rfl,S3,by dsimp only;lia⟩)
    .skip
     unfold rest;refine bc rfl (funext fun s=>?_)
     cases(pendingOf s).back? with
     |none=>rfl
     |some q=>
      obtain⟨s1,n1,p⟩:=q;refine bc (fi (funext fun x=>funext fun c=>bc rfl (funext fun s=>?_))) (funext fun c=>?_)
      .generalize(if(pendingOf s).size>1 then(pendingOf s)[(pendingOf s).size-2]? else none)=o
       cases o with
       |none=>rfl
       |some r=>
        obtain⟨r1,r2,r3⟩:=r;exact ic rfl (bc rfl (funext fun b=>rfl))
      .obtain⟨r,u⟩:=c;cases r<;>rfl
   .rw[if_neg hm];refine tr ?_ (wM hL h0 S1 n1 Zz Kk cE fun fw S3=>⟨rfl,S3,by dsimp only;lia⟩)
    .skip
     unfold rest;refine bc rfl (funext fun s=>?_)
     cases(pendingOf s).back? with
     |none=>rfl
     |some q=>
      obtain⟨s1,n1,p⟩:=q;refine bc (fi (funext fun x=>funext fun c=>bc rfl (funext fun s=>?_))) (funext fun c=>?_)
      .generalize(if(pendingOf s).size>1 then(pendingOf s)[(pendingOf s).size-2]? else none)=o
       cases o with
       |none=>rfl
       |some r=>
        obtain⟨r1,r2,r3⟩:=r;exact ic rfl (bc rfl (funext fun b=>rfl))
      .obtain⟨r,u⟩:=c;cases r<;>rfl
 .rintro⟨c0,lo⟩ Zr ⟨h1,S,h2⟩;dsimp only at h1 S h2⊢
  have e:lo=ae.size:=by
   have:=S.le;lia
  rw[<-e];exact⟨h1,S⟩
 .rintro⟨c0,lo⟩ Zr ⟨h1,S⟩;dsimp only at h1;subst h1;dsimp only
  have one:∀{Zr:SortSt},St κ ks ae Zr ae.size->(pendingOf Zr).size<=1->Seg κ (arrOf Zr) 0 ae.size:=fun{Zr} S hs=>by
   have c:=S.ch;rw[<-zA9]at hs
   cases e:(pendingOf Zr).toList with
   |nil=>
    rw[e]at c;have c:0=ae.size:=c;intro i j _ _ h3;lia
   |cons r l=>
    rw[e]at c hs
    have l0:l=[]:=by
     cases l with
     |nil=>rfl
     |cons _ _=>rw[zAe,zAe]at hs;lia
    rw[l0]at c;obtain⟨_,_,sg,c4⟩:=c;have c4:0+r.2.1=ae.size:=c4;rw[c4]at sg;exact sg
  have p0:(pendingOf Zr).size<=ae.size:=by
   have:=Ch.le S.ch;rw[zA9]at this;lia
  refine wpS_bind (wpS_mono (wpS_forRange (I:=fun x c st2=>c=(none,())/\St κ ks ae st2 ae.size/\(pendingOf st2).size+x<=ae.size) (Q:=fun c st2=>c=(none,())/\St κ ks ae st2 ae.size/\(pendingOf st2).size<=1) ?_ ?_ ⟨rfl,S,Zz⟩) ?_)
  .rintro x c st2 _ hx ⟨rfl,S2,xB⟩;refine wpS_bind (wpS_get ?_);by_cases h1:(pendingOf st2).size<=1
   .rw[zAx h1];exact wpS_pure ⟨rfl,S2,h1⟩
   .rw[zAw h1];have hz:2<=(pendingOf st2).size:=Zz
    refine wpS_bind (u9 hL h0 S2 (Nat.lt_of_le_of_lt (Nat.succ_le_succ (ifl _ _)) (show(pendingOf st2).size-2+1<(pendingOf st2).size by lia)) fun fw S3 z3 _=>?_);rw[zAw Zx];exact wpS_pure ⟨rfl,S3,Zz⟩
  .rintro c st2 ⟨rfl,S2,xB⟩;exact⟨rfl,S2,Zz⟩
  .rintro c st2 ⟨rfl,S2,xB⟩;exact wpS_pure (h st2 S2.base (one S2 xB))
end
end Srt
namespace L2
open PySem PySem.Spec PyProof.Rows PySem.Calls
theorem rm:∀a:List Int,HT.lexLt a a=false
 |[]=>rfl
 |x::xs=>by
  rw[HT.lexLt_cons,zAx rfl];exact rm xs
theorem lJ:∀a b:List Int,HT.lexLt a b=false->HT.lexLt b a=false->a=b
 |[],[],_,_=>rfl
 |[],_::_,h,_=>by cases h
 |_::_,[],_,h=>by cases h
 |x::xs,y::ys,h1,h2=>by
  rw[HT.lexLt_cons]at h1 h2;by_cases e:x=y
  .subst e;rw[zAx rfl]at h1 h2;rw[lJ xs ys h1 h2]
  .rw[zAw e]at h1;rw[zAw (Ne.symm e)]at h2;have h1:=of_decide_eq_false h1;have h2:=of_decide_eq_false h2;lia
theorem rA:∀a b c:List Int,HT.lexLt a b=true->HT.lexLt b c=true->HT.lexLt a c=true
 |[],[],_,h,_=>by cases h
 |[],_::_,[],_,h=>by cases h
 |[],_::_,_::_,_,_=>rfl
 |_::_,[],_,h,_=>by cases h
 |_::_,_::_,[],_,h=>by cases h
 |x::xs,y::ys,z::zs,h1,h2=>by
  rw[HT.lexLt_cons]at h1 h2⊢;by_cases e1:x=y
  .subst e1;rw[zAx rfl]at h1;by_cases e2:x=z
   .subst e2;rw[zAx rfl]at h2⊢;exact rA xs ys zs h1 h2
   .rw[zAw e2]at h2⊢;exact h2
  .rw[zAw e1]at h1;have h1:=zB6 h1;by_cases e2:y=z
   .subst e2;rw[zAw e1];exact zAu h1
   .rw[zAw e2]at h2;have h2:=zB6 h2;rw[zAw Zz];exact zAu Zz
theorem wN(a b c:List Int)(h:HT.lexLt a c=true):HT.lexLt a b=true\/HT.lexLt b c=true:=by
 cases e1:HT.lexLt a b with
 |true=>exact .inl rfl
 |false=>
  cases e2:HT.lexLt b a with
  |true=>exact .inr (rA b a c e2 h)
  |false=>exact .inr (by rw[<-lJ a b e1 e2];exact h)
def Dv(ads:List Addr)(row:Addr->List Int):PyProof.Rows.KeyKind where
 α:=List Int
 blt:=HT.lexLt
 irrefl:=rm
 trans:=rA
 negTrans:=wN
 total:=lJ
 keyOf:=fun u=>match u with
  |.ref a=>if ads.contains a=true then some (row a)else none
  |_=>none
 dflt:=[]
section
open PySem.W
variable{prog:Program}{w:World}{A:Around}{E:Value->Shared->Prop}{s:Shared}
theorem Ai{Q:Bool->Shared->Prop}:∀{ns ms:List Int} {us vs:List Value} {i:Nat},Vals (ns.map V.int) us->Vals (ms.map V.int) vs->Q (HT.lexLt ns ms) s->KatLex prog w A true (decide (ns.length<ms.length)) Q (us.zip vs) i s
 |[],[],_,_,_,.nil,.nil,h=>h
 |[],_::_,_,_,_,.nil,.cons _ _,h=>by
  refine kat_nil ?_;rw[decide_eq_true Zy];exact h
 |_::_,[],_,_,_,.cons _ _,.nil,h=>by
  refine kat_nil ?_;rw[decide_eq_false Zy];exact h
 |x::ns,y::ms,_,_,i,.cons r1 t1,.cons r2 t2,h=>by
  obtain⟨k1,rfl⟩:=r1;obtain⟨k2,rfl⟩:=r2;rw[HT.lexLt_cons]at h;refine kat_cons (wpAny_eqBool_int ?_);by_cases e:x=y
  .subst e;rw[zAx rfl]at h;rw[show(x==x)=true from beq_self_eq_true x];refine kat_yes ?_;have:=Ai (i:=i+1) t1 t2 h;rw[show decide ((x::ns).length<(x::ms).length)=decide (ns.length<ms.length) by rw[zAe,zAe];exact decide_eq_decide.mpr Zz];exact this
  .rw[zAw e]at h;rw[show(x==y)=false from beq_false_of_ne e];refine kat_no ?_
   cases hi:(true&&i==0)with
   |true=>exact oneLt_int h
   |false=>exact kat_one _ _ (lt_int h)
theorem Dw{x y:Addr}{ox oy:Obj}{nx ny:Nat}{ns ms:List Int}{us vs:List Value}{Q:Bool->Shared->Prop}(hx:s.heap.get? x=some ox)(dx:ox.data=.seq us.toArray nx)(hy:s.heap.get? y=some oy)(dy:oy.data=.seq vs.toArray ny)
  (r1:Vals (ns.map V.int) us) (r2:Vals (ms.map V.int) vs) (h:Q (HT.lexLt ns ms) s):wpAny (model prog w) A (keyLt' (tuples' true) (.ref x) (.ref y)) Q E s:=by
 refine kat_lt hx dx hy dy ?_;have l1:=r1.length;have l2:=r2.length;rw[zA1]at l1 l2;have:=Ai (prog:=prog) (w:=w) (A:=A) (s:=s) (Q:=Q) (i:=0) r1 r2 h;rw[zA8,zA8,<-l1,<-l2];exact this
theorem Dy{l:Addr}{vs:List Value}{Q:Value->Shared->Prop}{R:List Value->Prop}(lst:s.heap.IsList l vs.toArray)(fits:vs.length<=sizeLine)(small:vs.length<2->R vs)
  (big:2<=vs.length->∀g,(∀b o,s.heap.get? b=some o->g.get? b=some o)->wpAny (model prog w) A.in1.in1 (keyKind' vs.toArray) (fun κ s1=>s1={s with heap:=g} /\
    wpS (model prog w) A.in1.in1 (fun _ _=>False) {s with heap:=g} sortRuns' (fun _ st=>failedOf st=none/\∃out,(arrOf st).map (·.2)=List.toArray out/\R out) (SortSt.mk' κ (vs.toArray.zip vs.toArray) #[] 7 none)) (fun _ _=>False) {s with heap:=g})
  (len:∀out,R out->out.length=vs.length)
  (fin:∀out,R out->∀h2 c,(∀b o,s.heap.get? b=some o->h2.get? b=some o)->h2.get? (s.heap.objs.size+1)=some (seqObj "list" out.toArray c)->Q (.ref (s.heap.objs.size+1)) {s with heap:=h2}):
  wpAny (model prog w) A (call (.builtin "sorted") [.ref l]) Q E s:=by
 refine call_function_entry kind_sorted plain_sorted entry_sorted (args_sorted1 _) ?_;unfold Builtin.«sorted»;refine zAt (m:=checkCount "sorted" 1 1 _) (zAz (zAt (collect_list lst ?_ fits)));refine zAt (wpAny_newList ?_ fits);have lh:((s.heap.push (seqObj "list" #[] 0)).update s.heap.objs.size (Obj.mapSeq (·++vs.toArray))).objs.size=s.heap.objs.size+1:=by rw[Heap.size_update,Heap.size_push]
 obtain⟨g1,yB⟩:∃g1,g1=((s.heap.push (seqObj "list" #[] 0)).update s.heap.objs.size (Obj.mapSeq (·++vs.toArray))).push (seqObj "list" vs.toArray 0):=⟨_,rfl⟩
 have yT:g1.get? (s.heap.objs.size+1)=some (seqObj "list" vs.toArray 0):=by rw[yB,<-lh];exact zB3 _ rfl
 have NB:∀b o,s.heap.get? b=some o->g1.get? b=some o:=fun b o q=>by
  have lt:b<s.heap.objs.size:=zB1 q;rw[yB,Heap.get?_push_ne _ _ _ (by rw[lh];exact zB7 (Nat.lt_succ_of_lt lt)),Heap.get?_update_ne _ _ _ _ (zB7 lt),Heap.get?_push_ne _ _ _ (zB7 lt)];exact q
 show wpAny _ _ _ _ _ {s with heap:=_};rw[lh,show((s.heap.push (seqObj "list" #[] 0)).update s.heap.objs.size (Obj.mapSeq (·++vs.toArray))).push (seqObj "list" vs.toArray 0)=g1 from yB.symm];refine zAt (wpAny_holding (wpAny_call_entry slot_list_sort ⟨_,yT,rfl⟩ entry_list_sort ?body (args_list_sort _)))
 obtain⟨D,eD⟩:∃D,D=s.heap.objs.size+1:=⟨_,rfl⟩
 rw[<-eD]at yT fin⊢
 have apart:∀b o,s.heap.get? b=some o->b≠D:=fun b o q e=>by
  have lt:b<s.heap.objs.size:=zB1 q;rw[e,eD]at lt;exact absurd lt (Nat.not_lt_of_le (Nat.le_succ _))
 obtain⟨g2,DU⟩:∃g2,g2=g1.update D (Obj.mapSeq fun _=>(#[]:Array Value)):=⟨_,rfl⟩
 have NC:Heap.SameBut D g1 g2:=DU▸Heap.SameBut.update g1 D _
 obtain⟨e1,at2⟩:∃e1,g2.get? D=some (seqObj "list" #[] e1):=⟨_,DU▸get?_update_seq yT fun _=>#[]⟩
 obtain⟨g3,DV⟩:∃g3,g3=(g2.push (seqObj "tuple" vs.toArray 0)).push (seqObj "list" #[] 0):=⟨_,rfl⟩
 have tw:g3.get? D=some (seqObj "list" #[] e1):=DV▸Heap.get?_push_of_some _ (Heap.get?_push_of_some _ at2);have DZ:∀b o,s.heap.get? b=some o->g3.get? b=some o:=fun b o q=>DV▸Heap.get?_push_of_some _ (Heap.get?_push_of_some _ ((NC.2 b (apart b o q)).trans (NB b o q)));rw[list_sort_plain];refine wpAny_bind (listItems_at yT rfl (wpAny_bind (listUpdate_at yT rfl ?_ (by rw[zA8];exact fits) (zAp _))));rw[<-DU];refine wpAny_bind (seqEpoch_at at2 rfl (wpAny_bind (wpAny_newTuple (wpAny_bind (wpAny_newList (wpAny_holding ?_) (zAp _))) fits)));show wpAny (model prog w) A.in1.in1 _ _ _ {s with heap:=(g2.push (seqObj "tuple" vs.toArray 0)).push (seqObj "list" #[] 0)};rw[<-DV];dsimp only;by_cases two:vs.toArray.size<2
 .have rq:vs.length<2:=by rw[zA8]at two;exact two
  rw[if_pos two,if_pos two];refine wpAny_bind (wpAny_pure ?_);show wpAny _ _ (do let r <-(pure ((),SortSt.mk' general' (vs.toArray.zip vs.toArray) #[] 7 none):Sem (Unit×SortSt));_) _ _ _;refine wpAny_bind (wpAny_pure ?_);dsimp only
  have em:(vs.toArray.zip vs.toArray).map (·.2)=vs.toArray:=by
   apply Array.toList_inj.mp;simp only[Array.toList_map,Array.toList_zip];exact List.map_snd_zip (zA3 _)
  rw[em];refine wpAny_bind (seqEpoch_at tw rfl (wpAny_bind (listUpdate_at tw rfl ?_ (zAp _) (by rw[zA8];lia))));simp only[bne_self_eq_false,Bool.false_eq_true,if_false];have D0:=Heap.SameBut.update g3 D (Obj.mapSeq fun _=>vs.toArray);exact wpAny_pure ⟨_,rfl,wpAny_pure ⟨_,rfl,fin vs (small rq) _ _ (fun b o z=>(D0.2 b (apart b o z)).trans (DZ b o z)) (get?_update_seq tw _)⟩⟩
 .have rq:2<=vs.length:=by rw[zA8]at two;lia
  rw[if_neg two,if_neg two];refine wpAny_bind (wpAny_mono (big rq g3 DZ) (fun κ s1 ⟨mN,run⟩=>?_) fun _ _ x=>x.elim);subst mN;refine wpAny_bind (wpAny_mono run ?_ fun _ _ x=>x.elim);rintro⟨⟨⟩,st⟩ s2 ⟨ND,Kn,out,yY,hR⟩;subst ND;dsimp only at Kn yY⊢;rw[yY];refine wpAny_bind (seqEpoch_at tw rfl (wpAny_bind (listUpdate_at tw rfl ?_ (zAp _) (by rw[zA8,len out hR];lia))));rw[Kn];simp only[bne_self_eq_false,Bool.false_eq_true,if_false];have D0:=Heap.SameBut.update g3 D (Obj.mapSeq fun _=>out.toArray);exact wpAny_pure ⟨_,rfl,wpAny_pure ⟨_,rfl,fin out hR _ _ (fun b o z=>(D0.2 b (apart b o z)).trans (DZ b o z)) (get?_update_seq tw _)⟩⟩
theorem mZ{g:Heap}{ads:List Addr}{row:Addr->List Int}:∀{l:List Addr},(∀a∈l,∃(us:List Value) (o:Obj) (n:Nat),g.get? a=some o/\o.cls=.type "tuple"/\o.data=.seq us.toArray n/\Vals ((row a).map V.int) us/\row a≠[])->∃fs,KatTups g (l.map Value.ref) fs/\fs.length=l.length/\∀v∈fs,∃i t,v=.int i t
 |[],_=>⟨[],.nil,rfl,fun _ h=>absurd h Zy⟩
 |a::l,h=>by
  obtain⟨us,o,n,h1,h2,h3,h4,h5⟩:=h a (.head _);obtain⟨fs,k,hl,hi⟩:=mZ (ads:=ads) (row:=row) (l:=l) fun b hb=>h b (.tail _ hb)
  cases er:row a with
  |nil=>exact absurd er h5
  |cons i r=>
   rw[er]at h4
   cases h4 with
   |cons r1 t1=>
    obtain⟨t,rfl⟩:=r1;refine⟨_,.cons h1 h2 h3 (f:=.int i t) Zy k,by rw[List.length_cons,List.length_cons,hl],fun v hv=>?_⟩;rcases zAo.mp hv with z|z
    .exact⟨i,t,z⟩
    .exact hi v z
theorem Dz{l:List Addr}{row:Addr->List Int}{Q:SortKind->Shared->Prop}(obj:∀a∈l,∃(us:List Value) (o:Obj) (n:Nat),s.heap.get? a=some o/\o.cls=.type "tuple"/\o.data=.seq us.toArray n/\Vals ((row a).map V.int) us/\row a≠[])(hl:0<l.length)(h:Q (tuples' true) s):
  wpAny (model prog w) A (keyKind' (l.map Value.ref).toArray) Q E s:=by
 obtain⟨fs,kt,fl,fi⟩:=mZ (ads:=l) (row:=row) obj;refine PySem.W.kat_kind (T:=.type "int") kt (by rw[fl];exact hl) (fun v hv=>?_) Zx h;obtain⟨i,t,rfl⟩:=fi v hv;exact .now
theorem vz{l:List Addr}{row:Addr->List Int}(obj:∀a∈l,∃(us:List Value) (o:Obj) (n:Nat),s.heap.get? a=some o/\o.cls=.type "tuple"/\o.data=.seq us.toArray n/\Vals ((row a).map V.int) us/\row a≠[]):
  Srt.LtAll prog w A E s (Dv l row) (tuples' true):=fun st hk x y a b Q' ka kb hQ=>by
 obtain⟨x1,x2⟩:=x;obtain⟨y1,y2⟩:=y
 cases x1 with
 |ref xa=>
  cases y1 with
  |ref ya=>
   have ka:(if l.contains xa=true then some (row xa)else none)=some a:=ka;have kb:(if l.contains ya=true then some (row ya)else none)=some b:=kb;by_cases c1:l.contains xa=true
   .rw[zAx c1]at ka;by_cases c2:l.contains ya=true
    .rw[if_pos c2]at kb;cases ka;cases kb;obtain⟨Tw,o1,n1,g1,_,d1,r1,_⟩:=obj xa (by simpa using c1);obtain⟨Tx,o2,n2,g2,_,d2,r2,_⟩:=obj ya (by simpa using c2);rw[lt'_eq];refine wpS_bind (wpS_get ?_);rw[hk];refine wpS_bind (wpS_lift (wpAny_attempt (Dw g1 d1 g2 d2 r1 r2 ⟨rfl,?_⟩)));exact wpS_pure hQ
    .rw[zAw c2]at kb;cases kb
   .rw[zAw c1]at ka;cases ka
  |_=>cases kb
 |_=>cases ka
theorem uc(l:List Addr):((l.map Value.ref).toArray.zip (l.map Value.ref).toArray).toList=l.map fun a=>(Value.ref a,Value.ref a):=by
 rw[Array.toList_zip];show(l.map Value.ref).zip (l.map Value.ref)=_;rw[List.zip_map']
theorem pN(l:List Addr)(row:Addr->List Int):KeysOf (Dv l row) ((l.map Value.ref).toArray.zip (l.map Value.ref).toArray):=fun z dQ=>by
 rw[uc]at dQ;obtain⟨a,ha,rfl⟩:=zA5.mp dQ;refine⟨row a,?_⟩;show(if l.contains a=true then some (row a)else none)=some (row a);rw[if_pos (by simpa using ha)]
def Aj(p:Keyed):Addr:=match p.1 with
 |.ref a=>a
 |_=>0
theorem ud{l:List Addr}{row:Addr->List Int}{a:Addr}(h:a∈l):Srt.key (Dv l row) (Value.ref a,Value.ref a)=row a:=by
 show(if l.contains a=true then some (row a)else none).getD []=row a;rw[if_pos (by simpa using h)];rfl
theorem yF{l:List Addr}{row:Addr->List Int}(obj:∀a∈l,∃(us:List Value) (o:Obj) (n:Nat),s.heap.get? a=some o/\o.cls=.type "tuple"/\o.data=.seq us.toArray n/\Vals ((row a).map V.int) us/\row a≠[]){Q:Unit->SortSt->Prop}
  (h:∀st (l':List Addr),failedOf st=none->(arrOf st).map (·.2)=List.toArray (l'.map Value.ref)->l'.Perm l->l'.Pairwise (fun a b=>HT.lexLt (row b) (row a)=false)->Q () st):
  wpS (model prog w) A E s sortRuns' Q (SortSt.mk' (tuples' true) ((l.map Value.ref).toArray.zip (l.map Value.ref).toArray) #[] 7 none):=by
 refine Srt.runs_wp (κ:=Dv l row) (ks:=tuples' true) (vz obj) (pN l row) ⟨rfl,rfl,.refl _⟩ rfl fun Zr B sg=>?_;have tF:=Array.perm_iff_toList_perm.mp B.pm;rw[uc]at tF
 have e:(arrOf Zr).toList=((arrOf Zr).toList.map Aj).map (fun a=>(Value.ref a,Value.ref a)):=by
  rw[zAr]
  conv=>lhs;rw[<-List.map_id (arrOf Zr).toList]
  refine List.map_congr_left fun z dQ=>?_;obtain⟨a,ha,rfl⟩:=zA5.mp (tF.mem_iff.mp dQ);rfl
 have pm:((arrOf Zr).toList.map Aj).Perm l:=by
  have:=tF.map Aj;rw[zAr]at this;rw[show(Aj∘fun a=>(Value.ref a,Value.ref a))=id from rfl,List.map_id]at this;exact this
 generalize(arrOf Zr).toList.map Aj=l' at e pm;refine h Zr l' B.ok ?_ pm ?_
 .apply Array.toList_inj.mp;rw[Array.toList_map,e,zAr];rfl
 .have ka:=Srt.keys_perm (pN l row) B.pm;have:=Srt.pw_of_seg ka (by rw[B.size];exact zA3 _) sg;rw[List.drop_zero,<-B.size,<-zA9,zAm,e,List.pairwise_map]at this;refine this.imp_of_mem fun{a b} ha hb hle=>?_;unfold Srt.leK at hle;rw[ud (pm.mem_iff.mp ha),ud (pm.mem_iff.mp hb)]at hle;exact hle
end
section
variable{X:Cx}
theorem pO:∀{l:List Addr} {us:List Value},Vals (l.map V.ref) us->us=l.map Value.ref
 |[],_,.nil=>rfl
 |a::l,_,.cons r t=>by
  rw[pO t,show _=Value.ref a from r];rfl
theorem wO:∀(l:List Addr),Vals (l.map V.ref) (l.map Value.ref)
 |[]=>.nil
 |_::l=>.cons rfl (wO l)
theorem Ak{α:Type}{R:α->α->Prop}:∀{l:List α},l.length<2->l.Pairwise R
 |[],_=>.nil
 |[_],_=>List.pairwise_singleton _ _
 |_::_::_,h=>absurd h Zy
theorem fW:dJ X (.builtin "sorted") (fun xs H Q=>∃(p:Addr) (l:List Addr) (row:Addr->List Int),xs=[.ref p]/\SqL X.K H p (l.map V.ref)/\(∀a∈l,SqT X.K H a ((row a).map V.int)/\row a≠[]) /\
  ∀(q:Addr) (l':List Addr),H q=none->q≠sysModules->l'.Perm l->l'.Pairwise (fun a b=>HT.lexLt (row b) (row a)=false)->Q (.ref q) (upd H q (.lst (l'.map V.ref)))):=by
 intro Zt s σ H xs us Q I r h;obtain⟨p,l,row,rfl,hp,rL,q⟩:=h;obtain⟨u,rfl,ru⟩:=vals1 r;cases ru;obtain⟨Zs,rv,pl,hz⟩:=I.list hp;have ei:=pO rv;subst ei
 have hlen:(l.map Value.ref).length<=sizeLine:=by
  rw[zA1]at hz⊢;exact hz
 have obj:∀a∈l,∃(us:List Value) (o:Obj) (n:Nat),s.heap.get? a=some o/\o.cls=.type "tuple"/\o.data=.seq us.toArray n/\Vals ((row a).map V.int) us/\row a≠[]:=fun a ha=>by
  obtain⟨ht,fI⟩:=rL a ha;obtain⟨as,ra,pa,_⟩:=I.tuple ht;obtain⟨oa,ga,ca,na,da⟩:=pa;exact⟨as,oa,na,ga,ca,da,ra,fI⟩
 refine Dy (R:=fun out=>∃l':List Addr,out=l'.map Value.ref/\l'.Perm l/\l'.Pairwise fun a b=>HT.lexLt (row b) (row a)=false) pl.isList hlen (fun hs=>⟨l,rfl,.refl _,?_⟩) (fun hb g kp=>?_) (fun out ⟨l',e,pm,_⟩=>by rw[e,zA1,zA1,pm.length_eq]) fun out ⟨l',e,pm,pw⟩ h2 c kp2 at2=>?_
 .rw[zA1]at hs;exact Ak hs
 .have y7:∀a∈l,∃(us:List Value) (o:Obj) (n:Nat),g.get? a=some o/\o.cls=.type "tuple"/\o.data=.seq us.toArray n/\Vals ((row a).map V.int) us/\row a≠[]:=fun a ha=>by
   obtain⟨us,o,n,h1,h2⟩:=obj a ha;exact⟨us,o,n,kp _ _ h1,h2⟩
  refine Dz (s:={s with heap:=g}) y7 (by rw[zA1]at hb;lia) ?_;refine⟨rfl,yF (s:={s with heap:=g}) y7 fun st l' e1 e2 e3 e4=>⟨e1,l'.map Value.ref,e2,l',rfl,e3,e4⟩⟩
 .subst e;exact⟨.ref (s.heap.objs.size+1),_,I.laid (t':=s.toks) kp2 (Nat.le_succ _) (show ObjOk X.prog X.w _ h2 _ (.lst (l'.map V.ref))from⟨by rw[zA1,pm.length_eq];rw[zA1]at hz;exact hz,_,c,wO l',at2⟩),rfl,q _ l' (I.hok.fresh (Nat.le_succ _)) (Nat.ne_of_gt (zB2 I.big (Nat.le_succ _))) pm pw⟩
theorem jw:dJ X (.builtin "sorted") (fun xs H Q=>∃(p:Addr) (l:List Addr) (row:Addr->List Int),xs=[.ref p]/\SqL X.K H p (l.map V.ref)/\(∀a∈l,SqT X.K H a ((row a).map V.int)/\row a≠[]) /\
  ∀(q:Addr) (l':List Addr),H q=none->l'.Perm l->l'.Pairwise (fun a b=>HT.lexLt (row b) (row a)=false)->Q (.ref q) (upd H q (.lst (l'.map V.ref)))):=by
 intro Zt s σ H xs us Q I r h;obtain⟨p,l,row,e,hp,rL,q⟩:=h;exact fW Zt s σ H xs us Q I r ⟨p,l,row,e,hp,rL,fun q' l' a _ b c=>q q' l' a b c⟩
end
theorem yG{M:Model}{A:Around}{E:Value->Shared->Prop}{s:Shared}{a b:Value}{Q:Value->Shared->Prop}(ha:s.TypeIs a "list")(hb:s.TypeIs b "list")(hc:wpAny M A (call (.builtin "list.__iadd__") [a,b]) Q E s):wpAny M A (inplaceOp .Add a b) Q E s:=by
 unfold inplaceOp;refine wpAny_holding ?_;have hl:typeLookup (.type "list") (dunderI "add")=pure (some (.builtin "list.__iadd__")):=F.slot_list_iadd.lookup
 have NF:fillsInplaceSlot (.type "list") "add" (Operator.Add==.Add)=pure false:=by
  unfold fillsInplaceSlot;show(typeLookup (.type "list") (dunderI "add")>>=fun fi=>pure (fi.isSome&&!isSeqSlot fi))=pure false;rw[hl];have:isSeqSlot (some (.builtin "list.__iadd__"))=true:=by decide +kernel
  show(pure (true&&!isSeqSlot (some (.builtin "list.__iadd__"))):Sem Bool)=_;rw[this];rfl
 have NG:seqSlot? (.type "list") (dunderI "add")=pure (some (.builtin "list.__iadd__")):=PySem.seqSlot_of F.slot_list_iadd.lookup Zv;refine zAt (wpAny_typeOf ha (zAt (wpAny_of_eq NF ?_)));show wpAny M A (if false=true then _ else _) Q E s;rw[zAw zAg];refine zAt (wpAny_binaryOp1_none (nm:="add") ha hb noFill_list_add ?_);refine zAt (wpAny_of_eq NG ?_);exact zAt (wpAny_rule hc)
inductive RICatI(x:V)(y:V)(H:Hp)(Q:VK):Prop
 |mk:∀l b xs zs,(x=.ref l)->(y=.ref b)->(H l=some (.lst xs))->(H b=some (.lst zs))->(xs.length+zs.length<=sizeLine)->(Q (.ref l) (upd H l (.lst (xs++zs))))->RICatI  x y H Q
def Jj:TIp:=fun x y H Q=>RICatI  x y H Q
theorem rB{X:Cx}:PIp X .Add Jj:=by
 intro Zt s σ H x y v u Q I rx ru h;obtain⟨l,b,xs,zs,rfl,rfl,hH,hB,hz,q⟩:=h;cases rx;cases ru;obtain⟨z,Zs,n,r,hl,e⟩:=I.lstM hH;obtain⟨z2,bS,n2,r2,iS,e2⟩:=I.lstM hB;have hsz:Zs.toArray.size+bS.toArray.size<=sizeLine:=by rw[zA8,zA8];lia
 have gp:¬(!Zs.toArray.isEmpty&&Builtin.List.listTooLong (Zs.toArray.size+bS.toArray.size))=true:=by
  rw[mD hsz,Bool.and_false];exact zAg
 refine yG ⟨_,e,rfl⟩ ⟨_,e2,rfl⟩ (call_meets F.slot_list_iadd ⟨_,e,rfl⟩ F.entry_list_iadd (F.args_list_iadd_2 _ _)
  (AutoSeq1.list___iadd___list_list_0 l Zs.toArray n b bS.toArray n2 gp (by rw[zA8];lia) Zz) ⟨e,e2,?_⟩)
 refine⟨.ref l,_,I.lset (its':=Zs++bS) hH e Zy (r.append r2) ?_,rfl,q⟩;rw[zA2];lia
def Itv(K:Frag)(a:Addr)(n:Nat):It:=
 ⟨fun i H=>∃xs x,SqL K H a xs/\xs.length=n/\xs.reverse[i]?=some x,
  fun i H v H'=>H'=H/\∀xs,SqL K H a xs->xs.reverse[i]?=some v,
  fun i _=>i=n⟩
theorem Al{P:Program}{w:World}{K:Frag}{tg:Expr}(a it:Addr)(n:Nat):Turn P w K tg (Itv K a n) [it] it (fun i h=>i<=n/\h.IsRevIter it a ((n:Int)-1-(i:Int))) where
 mem:=by simp
 obj:=fun i h st b hb=>by
  have e:b=it:=by simpa using hb
  subst e;obtain⟨o,e,c,d⟩:=st.2;exact⟨o,e,fun v z=>by rw[d]at z;cases z⟩
 keep:=fun i h h' st k=>⟨st.1,st.2.at fun o e=>k it Zy o e⟩
 item:=by
  intro X hP hw hK hc i Zt s σ H E I hf st hg;subst hP hw hK;obtain⟨xs,x,hq,hn,hx⟩:=hg
  have hi:i<xs.length:=by
   have:=(zAa.mp hx).1;rw[List.length_reverse]at this;exact this
  rw[List.getElem?_reverse hi]at hx;obtain⟨Zs,rv,p,hz⟩:=I.list hq;obtain⟨u,hu,ru⟩:=rv.get hx;obtain⟨f0,f1,f2,f3,f4,f5⟩:=hf it Zy;have e0:(n:Int)-1-(i:Int)=((xs.length-1-i:Nat):Int):=Zz
  have st2:=st.2;rw[e0]at st2;refine wpAny_pyNext_rev_item st2 p.isList (x:=u) (by simpa using hu) fun h' Zr sb=>?_;have I1:Inv X Zt σ H {s with heap:=h'}:=I.turned (t':=s.toks) (fun b o hb e=>(sb.2 b hb).trans e) f0 f1 f3 f4 f5;obtain⟨o,e,c,d⟩:=id Zr;have e1:((xs.length-1-i:Nat):Int)-1=(n:Int)-1-((i+1:Nat):Int):=Zz
  rw[e1]at Zr;exact⟨u,rfl,sS (s:={s with heap:=h'}) e c d Zx ⟨x,H,I1,ru,⟨rfl,fun ys hy=>by rw[I.list_inj hy hq,List.getElem?_reverse hi];exact hx⟩,⟨Zz,Zr⟩,fun b hb=>(hf b hb).1⟩⟩
 done:=by
  intro X hP hw hK hc i Zt s σ H E I hf st hg;subst hP hw hK;have hg:i=n:=hg;obtain⟨f0,f1,f2,f3,f4,f5⟩:=hf it Zy;have st2:=st.2;rw[show(n:Int)-1-(i:Int)=-1 by lia]at st2
  exact wpAny_pyNext_rev_end (I.ok.hd hc) st2 fun h' eb=>⟨rfl,I.turned (t':=s.toks) (fun b o hb e=>eb b o hb e) f0 f1 f3 f4 f5⟩
 self:=fun _ _ _ _ _ st h=>wpAny_pyIter_revIter st.2 h
theorem boot_reversed:bootBuiltins "reversed"=some (.type "reversed"):=by decide +kernel
section
variable{X:Cx}{tg:Expr}
def Kl(K:Frag)(t:TA):TI:=fun σ H R=>t σ H fun vs H1=>∃a xs,vs=[.ref a]/\SqL K H1 a xs/\R (Itv K a xs.length) H1
theorem Hm{a:Expr}{ta:TA}{p pos:Pos}(hg:Gl X "reversed")(hm:X.mg "reversed"=none)(ha:PA X [a] ta)(hs:starEach [a] X.env=[(false,eval a X.env)]:=by rfl):
  PI X tg (.Call (.Name "reversed" p) [a] [] pos) (Kl X.K ta):=by
 intro Zt s σ H R I h;refine Call_ (gK I hg hm boot_reversed (PyProof.Rows.callWith_type1 (thn (ha pos Zt s σ H _ I h) fun us s1 ⟨vs,H1,I1,r1,q1⟩=>?_) hs rfl));obtain⟨x,xs,e,hx,q⟩:=q1;subst e;obtain⟨u,rfl,ru⟩:=vals1 r1;cases ru;obtain⟨Zs,rv,p1,_⟩:=I1.list hx;have hlen:=rv.length;refine call_reversed_list p1.isList ?_
 have st:Heap.IsRevIter (s1.heap.push (revObj x ((Zs.toArray.size:Int)-1))) s1.heap.objs.size x ((xs.length:Int)-1-((0:Nat):Int)):=by
  refine⟨_,zB3 _ rfl,rfl,?_⟩;have:(Zs.toArray.size:Int)-1=(xs.length:Int)-1-((0:Nat):Int):=by rw[zA8];lia
  rw[<-this];rfl
 refine wpAny_pyIter_revIter st ?_;refine⟨_,_,_,_,H1,rfl,I1.kept (t':=s1.toks) (fun b o e=>zAy _ e),Al x s1.heap.objs.size xs.length,⟨zAp _,st⟩,fun c hc=>?_,q⟩
 have hle:s1.heap.objs.size<=c:=by
  rw[List.mem_singleton.mp hc];exact zA3 _
 exact I1.fpOk hle (I1.hok.fresh hle)
end
theorem DG{K:Frag}{a:Addr}{xs:List V}{g:TG}{tb:TS}{D:Ends}{σ:St}{H:Hp}(Pv:Nat->St->Hp->Prop)(h0:Pv 0 σ H)(hl:∀i σ H,i<=xs.length->Pv i σ H->SqL K H a xs)
  (hs:∀i x σ H,xs.reverse[i]?=some x->Pv i σ H->g x σ H fun aS H2=>tb {D with nx:=Pv (i+1),ct:=Pv (i+1),bk:=D.nx} aS H2) (hd:∀σ H,Pv xs.length σ H->D.nx σ H):
  ∃W:Nat->Nat->St->Hp->Prop,(∃m,W 0 m σ H)/\∀i m σ H,W i m σ H->
   ((Itv K a xs.length).stop i H/\D.nx σ H)\/((Itv K a xs.length).go i H/\∃N:St->Hp->Prop,(∀ar H',N ar H'->∃m',m'<m/\W (i+1) m' ar H')/\∀x H',(Itv K a xs.length).yld i H x H'->g x σ H' fun aS H2=>tb {D with nx:=N,ct:=N,bk:=D.nx} aS H2):=by
 refine⟨fun i m σ H=>m=xs.length-i/\i<=xs.length/\Pv i σ H,⟨xs.length,by simp,Nat.zero_le _,h0⟩,?_⟩;rintro i m σ H ⟨rfl,hi,p⟩;have q:=hl i σ H hi p;by_cases bp:i<xs.length
 .refine .inr ⟨⟨xs,xs.reverse[i]'(by rw[List.length_reverse];exact bp),q,rfl,zA0 _⟩,Pv (i+1),fun ar H' p'=>⟨xs.length-(i+1),Zz,rfl,bp,p'⟩,fun x H' y=>?_⟩;obtain⟨e,y⟩:=y;subst e;exact hs i x σ _ (y xs q) p
 .have e:i=xs.length:=Zz
  subst e;exact .inl ⟨rfl,hd σ H p⟩
section
variable{X:Cx}{e:Expr}{te:TE}{p2 p3 p4 pos:Pos}{j:Nat}
def Hn(K:Frag)(te:TE):TE:=fun σ H Q=>te σ H fun x H2=>∃a xs,x=.ref a/\SqL K H2 a xs/\∀p,H2 p=none->Q (.ref p) (upd H2 p (.lst xs.reverse))
theorem DK(he:PE X e te):PE X (.Subscript e (.Slice none none (some (.UnaryOp .USub (.Constant (.int 1) j p4) p3)) p2) pos) (Hn X.K te):=by
 intro Zt s σ H Q I h;refine Subscript_ (thn (he Zt s σ H _ I h) fun v s1 ⟨x,H1,I1,r1,q1⟩=>?_);refine wpAny_Slice ?_;rw[evalPart_none,evalPart_some];refine zAz (zAz ?_);refine thn (zF uT aB Zt s1 σ H1 (fun y H'=>H'=H1/\y=.int (-1)) I1 ⟨_,rfl,rfl,rfl⟩) fun vk s3 ⟨y,H3,I3,ry,e3,ey⟩=>?_;subst e3;subst ey;obtain⟨a,xs,rfl,hx,q⟩:=q1;cases r1;obtain⟨t,rfl⟩:=ry;have I4:Inv X Zt σ H3 {s3 with heap:=s3.heap.push {cls:=.type "slice",data:=.fields #[.none,.none,.int (-1) t]}}:=I3.kept (t':=s3.toks) fun b ob q=>zAy _ q;obtain⟨its',r',dP,dQ⟩:=I4.list hx;have Kt:=r'.length;show wpAny (model X.prog X.w) X.A (subscriptTail e (.Slice none none (some (.UnaryOp .USub (.Constant (.int 1) j p4) p3)) p2) (.ref a) (.ref s3.heap.objs.size)) (EP X Zt σ Q) X.xe {s3 with heap:=s3.heap.push {cls:=.type "slice",data:=.fields #[.none,.none,.int (-1) t]}};refine tail_any (T:="list") (ops:=[.ref a,.ref s3.heap.objs.size]) dP.isList.typeIs slot_list_getitem.lookup ?_ (by with_unfolding_all rfl);refine wpAny_getItem_list_slice dP.isList (Heap.IsSliceOf.new ..) .none .none (.int (-1) t) Zx ?_ (by rw[zA8]<;>lia);rw[PySem.W.krv_pick];refine⟨.ref _,_,I4.laid (t':=s3.toks) (o:=.lst xs.reverse) (fun b ob q=>zAy _ q) (zA3 _) ?_,rfl,q _ (I4.hok.fresh (zA3 _))⟩;exact⟨by rw[List.length_reverse];exact dQ,_,0,r'.reverse,zB3 _ rfl⟩
end
section
variable{prog:Program}{w:World}{A:Around}{E:Value->Shared->Prop}{s:Shared}{t:Addr}
theorem DN{xs:Array (Int×Tok)}{Q:Value->Shared->Prop}(hh:A.handled=none)(ht:s.heap.IsTuple t (intItems xs))(fI:0<xs.size)
  (h:∀v h' tk,(intItems xs)[argBest (fun i j=>decide (numAt xs i<numAt xs j)) (xs.size-1)]?=some v->(∀b o,s.heap.get? b=some o->h'.get? b=some o)->Q v {s with heap:=h',toks:=tk}):
  wpAny (model prog w) A (call (.builtin "min") [.ref t]) Q E s:=by
 have bp:t<s.heap.objs.size:=by obtain⟨_,e,_⟩:=ht;exact zB1 e
 refine call_min_walk (wpAny_pyIter_tuple ht ?_);refine⟨_,_,_,_,_,_,_,rfl,Walks.tuple (A:=A.in1) hh _ t (Nat.ne_of_lt bp) (intItems xs),⟨⟨_,Heap.get?_push_size _ rfl,rfl,rfl⟩,ht.push _⟩,fun b hb=>?_,by simpa[intItems]using fI,CmpOf.ints_lt (numAt xs) (fun _ _=>intItems_at),fun v h' tk hP hk=>?_⟩
 .show b<(s.heap.push _).objs.size;rw[Heap.size_push];simp only[List.mem_cons,List.not_mem_nil,or_false]at hb;rcases hb with e|e<;>subst e
  .exact Nat.lt_succ_self _
  .exact Nat.lt_succ_of_lt bp
 .refine h v h' tk (by simpa[intItems]using hP) fun b o e=>hk b o (fun hm=>?_) (Heap.get?_push_of_some _ e);have e1:=List.mem_singleton.mp hm;exact absurd (e1▸Heap.lt_size e) (Nat.lt_irrefl _)
end
section
variable{X:Cx}
theorem rD(hc:X.calm=true):dJ X (.builtin "min") (fun xs H Q=>∃(p:Addr) (ns:List Int),xs=[.ref p]/\SqT X.K H p (ns.map V.int)/\ns≠[]/\∀M,M∈ns->(∀a∈ns,M<=a)->Q (.int M) H):=by
 intro Zt s σ H xs us Q I r h;obtain⟨p,ns,rfl,hq,fI,q⟩:=h;obtain⟨u,rfl,ru⟩:=vals1 r;cases ru;obtain⟨Zs,rv,pl,hz⟩:=I.tuple hq;have hi:IntsAre Zs ns:=intsAre_of rv;obtain⟨zs,ez⟩:=(hi.allInts:AllInts Zs.toArray).items;have en:numsOf Zs=ns:=hi.numsOf;have hl:s.heap.IsTuple p (intItems zs):=ez▸(show s.heap.IsTuple p Zs.toArray from pl)
 have bo:0<zs.size:=by
  have e1:(intItems zs).size=Zs.length:=by rw[<-ez,zA8]
  have e2:=rv.length;rw[zA1]at e2;have e3:0<ns.length:=List.length_pos_iff.mpr fI;simp only[intItems,Array.size_map]at e1;lia
 have hn:numsOf (intItems zs).toList=ns:=by rw[<-ez];exact en
 refine DN (I.ok.hd hc) hl bo fun v h' tk hv hk=>?_;obtain⟨t,rfl⟩:=intItems_at hv;obtain⟨h1,h2⟩:=argBest_lt (numAt zs) (zs.size-1);rw[nums_intItems]at hn;refine⟨.int _,H,I.kept (t':=tk) hk,⟨t,rfl⟩,q _ ?_ fun a ha=>?_⟩
 .rw[<-hn,numAt_eq];exact getD_mem (by rw[zA1,zA9];lia)
 .rw[<-hn]at ha;obtain⟨j,hj,rfl⟩:=mem_getD ha;rw[zA1,zA9]at hj;rw[<-numAt_eq];exact h2 j Zz
end
section
variable{prog:Program}{w:World}{A:Around}{E:Value->Shared->Prop}{s:Shared}{d it:Addr}{o:Obj}{es:Array DictEntry}{ep i:Nat}
theorem DP{R:Value->Shared->Prop}(n1:(d==sysModules)=false)(g1:s.heap.get? d=some o)(g2:o.ExactDict)(g3:o.data=.dict es ep)
  (q:R (.ref s.heap.objs.size) {s with heap:=s.heap.push {cls:=.type "dict_keyiterator",data:=.fields #[.ref d,.int 0 0,.int es.size 0,.int ep 0]}}):wpAny (model prog w) A (pyIter (.ref d)) R E s:=by
 have ty:s.TypeIs (.ref d) "dict":=⟨o,g1,g2.1⟩
 refine wpAny_pyIter_slot ty F.slot_dict_iter (wpAny_call_entry F.slot_dict_iter ty F.entry_dict_iter ?_ (F.args_dict_iter_1 _));unfold Builtin.«dict.__iter__»;refine zAt ?_;unfold Builtin.Dict.dictSlotNone;refine zAt (wpAny_notOrdered_dict ty (show wpAny _ _ (pure (Value.ref d)) _ _ s from zAz ?_));show wpAny (model prog w) _ (Builtin.Dict.showsAll d>>=_) _ E s;unfold Builtin.Dict.showsAll;rw[n1,zAw zAg];refine zAt (zAz (zAt (wpAny_dictEntries g1 g3 (zAt (wpAny_dictEpoch g1 g3 ?_)))));refine zAt (wpAny_newObj_type (zAz ⟨_,rfl,"dict_keyiterator",_,⟨_,zB3 _ rfl,rfl⟩,F.slot_dict_keyiterator_next.lookup,?_⟩));exact q
theorem DQ{e:DictEntry}{R:Option Value->Shared->Prop}(st:s.heap.IsKeyIter it d i es.size ep)(g1:s.heap.get? d=some o)(g3:o.data=.dict es ep)(hx:es[i]?=some e)
  (q:∀h',h'.IsKeyIter it d (i+1) es.size ep->Heap.SameBut it s.heap h'->R (some e.key) {s with heap:=h'}):wpAny (model prog w) A (pyNext (.ref it)) R E s:=by
 obtain⟨oi,i1,i2,i3⟩:=id st;have hb:i<es.size:=(Array.getElem?_eq_some_iff.mp hx).1;unfold pyNext;refine zAt (wpAny_attempt (wpAny_callSpecial?_slot (name:=Str.ofString "__next__") st.typeIs F.slot_dict_keyiterator_next (wpAny_call_entry F.slot_dict_keyiterator_next st.typeIs F.entry_dict_keyiterator_next ?_ (F.args_dict_keyiterator_next_1 _))));refine zAt (zAz (zAt (zAt ?_)));refine zAt (wpAny_typeNameOfWhole_keyiter st.typeIs (zAz (zAt (wpAny_fieldsOf i1 i3 ?_))));have ow:Builtin.Dict_items.ownsTuple "dict_keyiterator"=false:=by decide
 simp only[ow,Bool.false_eq_true,if_false];show wpAny (model prog w) _ (if(Value.ref d==Value.none)=true then _ else _) _ _ s;rw[if_neg (show¬(Value.ref d==Value.none)=true from zAg)];refine wpAny_bind (wpAny_pure (wpAny_bind (wpAny_dictEntries g1 g3 ?_)));rw[if_neg Zy];refine wpAny_bind (wpAny_pure (wpAny_bind (wpAny_dictEpoch g1 g3 ?_)));rw[if_neg Zy];refine wpAny_pure ?_;simp only[show¬((i:Int)<0)from by lia,if_false,Int.toNat_natCast,hx];refine wpAny_bind (wpAny_bind (wpAny_typeNameOfWhole_keyiter st.typeIs (wpAny_pure ?_)));refine wpAny_bind (wpAny_isOneOf_keyiter st.typeIs ?_);show wpAny (model prog w) _ (setField (.ref it) 1 (rawInt ((i:Int)+1))>>=_) _ _ s;refine wpAny_bind (wpAny_setField i1 i3 Zy ?_)
 have Zr:(s.heap.update it (Obj.mapFields (·.setIfInBounds 1 (rawInt ((i:Int)+1))))).IsKeyIter it d (i+1) es.size ep:=
  ⟨_,Heap.get?_update_self _ i1 (Obj.isFreed_of_fields (Obj.data_mapFields i3 _)),(Obj.cls_mapFields ..).trans i2,by rw[Obj.data_mapFields i3];simp[rawInt]⟩
 refine zAt (wpAny_holding (zAt (wpAny_isOneOf_keyiter (s:={s with heap:=s.heap.update it (Obj.mapFields (·.setIfInBounds 1 (rawInt ((i:Int)+1))))}) Zr.typeIs ?_)));show wpAny (model prog w) _ (pure e.key) _ _ _;exact zAz (zAz ⟨_,rfl,zAz (q _ Zr (Heap.SameBut.update ..))⟩)
theorem Ho{R:Option Value->Shared->Prop}(hh:A.handled=none)(st:s.heap.IsKeyIter it d i es.size ep)(g1:s.heap.get? d=some o)(g3:o.data=.dict es ep)(hx:es.size<=i)
  (q:∀h',Heap.ExtBut it s.heap h'->R none {s with heap:=h'}):wpAny (model prog w) A (pyNext (.ref it)) R E s:=by
 obtain⟨oi,i1,i2,i3⟩:=id st;unfold pyNext;refine zAt (wpAny_attempt (wpAny_callSpecial?_slot (name:=Str.ofString "__next__") st.typeIs F.slot_dict_keyiterator_next (wpAny_call_entry F.slot_dict_keyiterator_next st.typeIs F.entry_dict_keyiterator_next ?_ (F.args_dict_keyiterator_next_1 _))));refine zAt (zAz (zAt (zAt ?_)));refine zAt (wpAny_typeNameOfWhole_keyiter st.typeIs (zAz (zAt (wpAny_fieldsOf i1 i3 ?_))));have ow:Builtin.Dict_items.ownsTuple "dict_keyiterator"=false:=by decide
 simp only[ow,Bool.false_eq_true,if_false];show wpAny (model prog w) _ (if(Value.ref d==Value.none)=true then _ else _) _ _ s;rw[if_neg (show¬(Value.ref d==Value.none)=true from zAg)];refine wpAny_bind (wpAny_pure (wpAny_bind (wpAny_dictEntries g1 g3 ?_)));rw[if_neg Zy];refine wpAny_bind (wpAny_pure (wpAny_bind (wpAny_dictEpoch g1 g3 ?_)));rw[if_neg Zy];refine wpAny_pure ?_;simp only[show¬((i:Int)<0)from by lia,if_false,Int.toNat_natCast,Array.getElem?_eq_none hx];refine wpAny_bind (wpAny_bind (wpAny_typeNameOfWhole_keyiter st.typeIs (wpAny_pure ?_)));show wpAny (model prog w) _ (setField (.ref it) 0 .none>>=_) _ _ s;refine wpAny_bind (wpAny_setField i1 i3 Zy ?_);show wpAny (model prog w) _ (newExc (.type "StopIteration") []>>=_) _ _ _;refine wpAny_bind ?_;simp only[newExc,newTuple];refine wpAny_bind (wpAny_newObj_type (wpAny_bind (m:=firstArgMember _ _) (wpAny_of_eq (a:=Value.none) (by first|rfl | (simp only[firstArgMember];rfl)) ?_)) (by size_fits));refine wpAny_newObj_type ?_ (by size_fits);simp only[raiseNew];refine wpAny_bind (wpAny_handled ?_);rw[show A.in1.handled=none from hh];refine wpAny_bind (wpAny_pure (wpAny_throw ?_));refine wpAny_bind (wpAny_isInstance (b:=true) (T:="StopIteration") ⟨_,Heap.get?_push_size _ rfl,rfl⟩ isSubtype_stop ?_);exact wpAny_pure (q _ (((Heap.SameBut.update ..).extBut.push _).push _))
end
def Itd(d:Addr)(o:Obj)(kvs:List (List Key×V)):It:=
 ⟨fun i H=>H d=some (.frz o (.dT kvs))/\i<kvs.length,fun i H x H'=>H'=H/\∃b k v,x=.ref b/\kvs[i]?=some (k,v)/\H b=some (.tup (k.map kV)),fun i H=>H d=some (.frz o (.dT kvs))/\kvs.length<=i⟩
theorem KT.get{H:Hp}:∀{kvs:List (List Key×V)} {xs:List (List Key×Addr×Value)} {i:Nat} {k:List Key} {v:V},KT H kvs xs->kvs[i]?=some (k,v)->∃b u,xs[i]?=some (k,b,u)/\H b=some (.tup (k.map kV))
 |_,_,_,_,_,.nil,e=>by simp at e
 |p::_,q::_,0,k,v,.cons r t,e=>by
  rw[List.getElem?_cons_zero]at e;cases e;obtain⟨h1,h2,_⟩:=r;refine⟨q.2.1,q.2.2,?_,h2⟩;rw[List.getElem?_cons_zero];show some q=some (k,q.2.1,q.2.2);rw[show k=q.1 from h1]
 |p::_,q::_,i+1,k,v,.cons r t,e=>by
  rw[List.getElem?_cons_succ]at e;obtain⟨b,u,e1,e2⟩:=KT.get t e;exact⟨b,u,by rw[List.getElem?_cons_succ];exact e1,e2⟩
theorem KT.len{H:Hp}:∀{kvs:List (List Key×V)} {xs:List (List Key×Addr×Value)},KT H kvs xs->xs.length=kvs.length
 |_,_,.nil=>rfl
 |_,_,.cons _ t=>by rw[zAe,zAe,KT.len t]
theorem Inv.frzT{X:Cx}{Zt:List (Addr×Obj)}{σ:St}{H:Hp}{s:Shared}{d:Addr}{o:Obj}{kvs:List (List Key×V)}(I:Inv X Zt σ H s)(e:H d=some (.frz o (.dT kvs))):s.heap.get? d=some o/\o.ExactDict/\(d==sysModules)=false /\
  ∃es ep xs,o.data=.dict es ep/\KT H kvs xs/\es.toList=xs.map (entryOfKey (tupleKind (bI X.prog X.w))):=by
 obtain⟨e0,_,hs,xs,kt,o',es,ep,g1,g2,g3,g4,_⟩:=(show ObjOk X.prog X.w H s.heap d (.frz o (.dT kvs))from I.hok _ _ e)
 rw[e0]at g1;cases g1;exact⟨e0,g2,hs,es,ep,xs,g3,kt,g4⟩
theorem yH{P:Program}{w:World}{H:Hp}{kvs:List (List Key×V)}{xs:List (List Key×Addr×Value)}{es:Array DictEntry}(kt:KT H kvs xs)(e:es.toList=xs.map (entryOfKey (tupleKind (bI P w)))):es.size=kvs.length:=by
 rw[<-zA9,e,zA1,kt.len]
theorem yI{P:Program}{w:World}{K:Frag}{tg:Expr}(d it:Addr)(o:Obj)(kvs:List (List Key×V))(es:Array DictEntry)(ep:Nat)(od:o.data=.dict es ep)(hz:es.size=kvs.length):Turn P w K tg (Itd d o kvs) [it] it (fun i h=>h.IsKeyIter it d i es.size ep) where
 mem:=by simp
 obj:=fun i h st b hb=>by
  have e:b=it:=by simpa using hb
  subst e;obtain⟨o,e,c,d⟩:=st;exact⟨o,e,fun v z=>by rw[d]at z;cases z⟩
 keep:=fun i h h' st k=>st.at fun o e=>k it Zy o e
 item:=by
  intro X hP hw hK hc i Zt s σ H E I hf st hg;subst hP hw hK;obtain⟨hq,hx⟩:=hg;obtain⟨e0,g2,hs,gX,vE,xs,g3,kt,g4⟩:=I.frzT hq;rw[od]at g3;cases g3;obtain⟨b,u,ex,eb⟩:=kt.get (k:=kvs[i].1) (v:=kvs[i].2) (zA0 hx);have ee:es[i]?=some (entryOfKey (tupleKind (bI X.prog X.w)) (kvs[i].1,b,u)):=by rw[entry_at g4,ex];rfl
  obtain⟨f0,f1,f2,f3,f4,f5⟩:=hf it Zy;refine DQ st e0 od ee fun h' Zr sb=>?_;have I1:Inv X Zt σ H {s with heap:=h'}:=I.turned (t':=s.toks) (fun b o hb e=>(sb.2 b hb).trans e) f0 f1 f3 f4 f5;obtain⟨o2,e2,c2,d2⟩:=id Zr;exact⟨.ref b,rfl,sS (s:={s with heap:=h'}) e2 c2 d2 Zx ⟨.ref b,H,I1,rfl,⟨rfl,b,kvs[i].1,kvs[i].2,rfl,zA0 hx,eb⟩,Zr,fun b hb=>(hf b hb).1⟩⟩
 done:=by
  intro X hP hw hK hc i Zt s σ H E I hf st hg;subst hP hw hK;obtain⟨hq,hx⟩:=hg;obtain⟨e0,g2,hs,gX,vE,xs,g3,kt,g4⟩:=I.frzT hq;rw[od]at g3;cases g3;obtain⟨f0,f1,f2,f3,f4,f5⟩:=hf it Zy
  exact Ho (I.ok.hd hc) st e0 od Zz fun h' eb=>⟨rfl,I.turned (t':=s.toks) (fun b o hb e=>eb b o hb e) f0 f1 f3 f4 f5⟩
 self:=fun _ _ _ _ _ st h=>wpAny_pyIter_keyiter st h
section
variable{X:Cx}{tg:Expr}
def FP(tl:TE):TI:=fun σ H R=>tl σ H fun x H1=>∃d o kvs,x=.ref d/\H1 d=some (.frz o (.dT kvs))/\R (Itd d o kvs) H1
theorem wQ{l:Expr}{tl:TE}(hl:PE X l tl):PI X tg l (FP tl):=by
 intro Zt s σ H R I h;refine thn (hl Zt s σ H _ I h) fun v s1 ⟨x,H1,I1,r1,q1⟩=>?_;obtain⟨d,o,kvs,e,hq,q⟩:=q1;subst e;cases r1;obtain⟨e0,g2,hs,es,ep,xs,g3,kt,g4⟩:=I1.frzT hq;refine DP hs e0 g2 g3 ?_;refine⟨s1.heap.objs.size,[s1.heap.objs.size],_,_,H1,rfl,I1.kept (t':=s1.toks) fun b o e=>Heap.get?_push_of_some _ e,yI d _ o kvs es ep g3 (yH kt g4),⟨_,Heap.get?_push_size _ rfl,rfl,rfl⟩,fun b hb=>?_,q⟩;have e:b=s1.heap.objs.size:=by simpa using hb
 subst e;exact I1.fpOk (zA3 _) (I1.hok.fresh (zA3 _))
inductive TFrzI(t:TE)(σ:St)(H:Hp)(Q:VK):Prop
 |mk:∀d kvs,(H d=some (.dT kvs))->(∀o,t σ (upd H d (.frz o (.dT kvs))) fun v H'=>H' d=some (.frz o (.dT kvs))/\Q v (upd H' d (.dT kvs)))->TFrzI t σ H Q
def Jk(t:TE):TE:=fun σ H Q=>TFrzI t σ H Q
theorem Hq{e:Expr}{t:TE}(h:PE X e t):PE X e (Jk t):=by
 intro Zt s σ H Q I hq;obtain⟨d,kvs,ed,hq⟩:=hq
 obtain⟨hz,hs,xs,kt,o,es,ep,g1,g⟩:=(show ObjOk X.prog X.w H s.heap d (.dT kvs)from I.hok _ _ ed)
 have nt:∀{b:Addr} {u:HO},H b=some u->u≠.dT kvs->b≠d:=fun{b u} e n z=>by
  rw[z,ed]at e;exact n (zAl e).symm
 have I1:Inv X Zt σ (upd H d (.frz o (.dT kvs))) {s with heap:=s.heap,toks:=s.toks}:=by
  refine I.un ⟨fun b ob q _ _ _=>q,fun b ob q _ _ _=>⟨ob.slots,q⟩,fun b ob q n _=>?_,fun b ob q _=>⟨ob,q⟩,fun b xs q=>?_,fun b ob u q=>?_,fun b ps q=>⟨#[],?_⟩⟩ fun b u e=>?_
  .rw[az fun z=>by rw[z,ed]at n;cases n];exact n
  .rw[az (nt q fun z=>by cases z)];exact q
  .rw[az (nt q fun z=>by cases z)];exact q
  .rw[az (nt q fun z=>by cases z),q];simp
  .have bX:∀c xs,H c=some (.tup xs)->upd H d (.frz o (.dT kvs)) c=some (.tup xs):=fun c xs q=>by
    rw[az (nt q fun z=>by cases z)];exact q
   by_cases hb:b=d
   .subst hb;rw[aj]at e;cases e;exact⟨g1,(show ObjOk X.prog X.w H s.heap b (.dT kvs)from I.hok _ _ ed).stay (fun _ _ _ q=>q) (fun c q=>by rw[az (nt q fun z=>by cases z)];exact q) bX⟩
   .rw[az hb]at e;exact(I.hok b u e).stay (fun _ _ _ q=>q) (fun c q=>by rw[az (nt q fun z=>by cases z)];exact q) bX
 refine thn (h Zt s σ _ _ I1 (hq o)) fun v s1 ⟨x,H1,J,r1,e1,q1⟩=>?_
 have mP:∀{b:Addr} {u:HO},H1 b=some u->u≠.frz o (.dT kvs)->b≠d:=fun{b u} e n z=>by
  rw[z,e1]at e;exact n (zAl e).symm
 have fr:∀b,H1 b=none->upd H1 d (.dT kvs) b=none:=fun b n=>by
  rw[az fun z=>by rw[z,e1]at n;cases n];exact n
 refine⟨x,upd H1 d (.dT kvs),⟨J.ok,J.os,J.bare,⟨J.base.keep,J.base.slot,fun b ob q n hx=>fr b (J.base.free b ob q n hx),J.base.there,fun b xs q=>?_,fun b ob u q=>?_,fun b ps q=>?_⟩,J.loc,J.cell,fr _ J.free,fun y c e=>fr _ (J.freeC y c e),fun p hp=>?_,fun b u e=>?_,J.len⟩,r1,q1⟩
 .have:=J.base.tups b xs q;rw[az (mP this fun z=>by cases z)];exact this
 .have h0:=I.base.frzs b ob u q;have:=J.base.frzs b ob u q;rw[az (nt h0 fun z=>by cases z)];exact this
 .obtain⟨m,e⟩:=J.base.tbls b ps q;exact⟨m,by rw[az (mP e fun z=>by cases z)];exact e⟩
 .obtain⟨a,n,c⟩:=J.pin p hp;exact⟨a,fr _ n,c⟩
 .have bX:∀c xs,H1 c=some (.tup xs)->upd H1 d (.dT kvs) c=some (.tup xs):=fun c xs q=>by
   rw[az (mP q fun z=>by cases z)];exact q
  have gI:∀a c,H1 c=some (.own a)->upd H1 d (.dT kvs) c=some (.own a):=fun a c q=>by
   rw[az (mP q fun z=>by cases z)];exact q
  by_cases hb:b=d
  .subst hb;rw[aj]at e;cases e;exact ObjOk.stay (show ObjOk X.prog X.w H1 s1.heap b (.dT kvs)from(show ObjOk X.prog X.w H1 s1.heap b (.frz o (.dT kvs))from J.hok _ _ e1).2) (fun _ _ _ q=>q) (gI b) bX
  .rw[az hb]at e;exact(J.hok b u e).stay (fun _ _ _ q=>q) (gI b) bX
end
open PySem PySem.Spec PyProof.Rows PySem.SeqAt
theorem vA{X:Cx}(hu:X.A.units<cLine):OpR X (compareOp .NotEq) (fun x y H Q=>∃a b xs,x=.ref a/\y=.ref b/\SqL X.K H a xs/\SqL X.K H b []/\Q (.bl (!xs.isEmpty)) H):=by
 intro Zt s σ H x y v u Q I rx ry h;obtain⟨a,b,xs,rfl,rfl,ha,hb,q⟩:=h;cases rx;cases ry;obtain⟨Zs,r1,p1,_⟩:=I.list ha;obtain⟨bS,r2,p2,_⟩:=I.list hb;have e2:bS=[]:=r2.zero;subst e2;have hl:=r1.length
 cases xs with
 |nil=>
  have e1:Zs=[]:=r1.zero;subst e1;exact RcNeAt.lists (e:=fun _=>true) p1.isList p2.isList rfl hu (fun j h1 h2=>absurd h2 Zy) _ _ _ _ ⟨.bl _,H,I,rfl,q⟩
 |cons z r=>
  exact RcNeAt.lists_lengths p1.isList p2.isList (by rw[List.size_toArray,<-hl];simp) hu _ _ _ _ ⟨.bl _,H,I,rfl,q⟩
theorem pP:∀{ns:List Int} {us:List Value},Vals (ns.map V.int) us->IntsAre us ns
 |[],_,.nil=>.nil
 |n::ns,_,.cons r t=>by
  obtain⟨k,e⟩:=r;rw[e];exact .cons n k (pP t)
section
variable{X:Cx}
theorem rE:dJ X (.builtin "sorted") (fun xs H Q=>∃(p:Addr) (ns:List Int),xs=[.ref p]/\SqL X.K H p (ns.map V.int)/\ns.length<64 /\
  ∀(q:Addr) (tI:List Int),H q=none->tI.Perm ns->tI.Pairwise (·<=·)->Q (.ref q) (upd H q (.lst (tI.map V.int)))):=by
 intro Zt s σ H xs us Q I r h;obtain⟨p,ns,rfl,hp,h64,q⟩:=h;obtain⟨u,rfl,ru⟩:=vals1 r;cases ru;obtain⟨Zs,rv,pl,hz⟩:=I.list hp;have hl:=rv.length;rw[zA1]at hl;refine sorted_ints pl.isList (pP rv) Zz fun out tI hI pm so=>?_;obtain⟨e,at2⟩:=sortedAll_at s.heap Zs out;refine⟨.ref (s.heap.objs.size+1),_,I.laid (t':=s.toks) (fun b o z=>sortedAll_old z) (Nat.le_succ _) (show ObjOk X.prog X.w _ _ _ (.lst (tI.map V.int))from⟨by rw[zA1,pm.length_eq,sizeLine_eq];lia,out.toList,e,jM hI,at2⟩),rfl,q _ tI (I.hok.fresh (Nat.le_succ _)) pm so⟩
theorem FQ:∀{kvs:List (Key×V)} {vs:List (Key×Value)},KV kvs vs->vs.map (·.1)=kvs.map (·.1)
 |_,_,.nil=>rfl
 |_,_,.cons r t=>by
  rw[zAk,zAk,FQ t,r.1]
theorem pQ{P:Program}{w:World}:∀{ks:List Key} {us:List Value},us.length=ks.length->(∀(j:Nat) (u:Value),us[j]?=some u->∃k,ks[j]?=some k/\(bI P w).is k u=true)->Vals (ks.map kV) us
 |[],[],_,_=>.nil
 |k::ks,u::us,h,g=>by
  obtain⟨k',e,hk⟩:=g 0 u rfl;rw[List.getElem?_cons_zero]at e;cases e;refine .cons ?_ (pQ (P:=P) (w:=w) (by simpa using h) fun j u' hu=>?_)
  .rcases bU hk with⟨i,t,rfl,rfl⟩|⟨x,t,rfl,rfl⟩
   .exact⟨t,rfl⟩
   .exact⟨t,rfl⟩
  .have:=g (j+1) u' (by rw[List.getElem?_cons_succ];exact hu);rw[List.getElem?_cons_succ]at this;exact this
 |[],_::_,h,_=>by simp at h
 |_::_,[],h,_=>by simp at h
theorem ni(hc:X.calm=true):dJ X (.type "list") (fun xs H Q=>∃(d:Addr) (kvs:List (Key×V)),xs=[.ref d]/\H d=some (.dK kvs) /\
  ((kvs.map (·.1)).Nodup->∀l,H l=none->Q (.ref l) (upd H l (.lst (kvs.map fun p=>kV p.1))))):=by
 intro Zt s σ H xs us Q I r h;obtain⟨d,kvs,rfl,hd,q⟩:=h;obtain⟨u,rfl,ru⟩:=vals1 r;cases ru;obtain⟨hz,lo,vs,kv,o,es,ep,g1,g2,g3,g4,g5,g6⟩:=I.hok _ _ hd;have ek:=FQ kv;have lv:vs.length=kvs.length:=by rw[<-zA1 (f:=(·.1)),ek,zA1]
 refine PySem.W.kdl_call (PySem.W.kdl_dict (knd:=bI X.prog X.w) (kvs:=vs) (ep:=ep) lo) (I.ok.hd hc) ⟨o,es,g1,g2,g3,g4,g5,g6⟩ (by rw[lv];exact hz) fun h' tk D1 c' kp at' it=>?_;refine⟨.ref s.heap.objs.size,_,I.laid (t':=tk) kp (zA3 _) (show ObjOk X.prog X.w _ h' _ (.lst (kvs.map fun p=>kV p.1))from⟨by rw[zA1];exact hz,D1.toList,c',?_,at'⟩),rfl,q (by rw[<-ek];exact g6) _ (I.hok.fresh (zA3 _))⟩;have:(kvs.map fun p=>kV p.1)=(vs.map (·.1)).map kV:=by rw[ek,zAr];rfl
 rw[this];refine pQ (P:=X.prog) (w:=X.w) (by rw[zA9,it.1,zA1]) fun j u hu=>?_;obtain⟨k,x,e,hk⟩:=it.2 j u (by rw[<-Array.getElem?_toList];exact hu);exact⟨k,by rw[zAb,e];rfl,hk⟩
end
section
variable{X:Cx}
inductive RSetDI(o:V)(i:V)(v:V)(H:Hp)(Q:Hp->Prop):Prop
 |mk:∀a H',(o=.ref a)->(DPut H a i v H')->(Q H')->RSetDI  o i v H Q
def Jl:xZ:=fun o i v H Q=>RSetDI  o i v H Q
theorem set_dict(hu:X.A.units+1<cLine):Dc X Jl:=by
 intro Zt s σ H o i v ov iv u Q I ro ri rv h;obtain⟨a,H',rfl,g,q⟩:=h;cases ro
 exact pJ hu I g ri rv fun s' I'=>⟨H',I',q⟩
end
open PySem PyProof.Rows HT
section
variable{X:Cx}{tg:Expr}
inductive TFrzSI(t:TS)(D:Ends)(σ:St)(H:Hp):Prop
 |mk:∀d kvs,(H d=some (.dT kvs))->(∀o,t {D with nx:=fun ar H'=>H' d=some (.frz o (.dT kvs))/\D.nx ar (upd H' d (.dT kvs)),bk:=fun _ _=>False,ct:=fun _ _=>False,rt:=fun _ _=>False} σ (upd H d (.frz o (.dT kvs))))->TFrzSI t D σ H
def Jm(t:TS):TS:=fun D σ H=>TFrzSI t D σ H
theorem Hr{e:Stmt}{t:TS}(h:PS X e t):PS X e (Jm t):=by
 intro Zt s σ H D I hq;obtain⟨d,kvs,ed,hq⟩:=hq
 obtain⟨hz,hs,xs,kt,o,es,ep,g1,g⟩:=(show ObjOk X.prog X.w H s.heap d (.dT kvs)from I.hok _ _ ed)
 have nt:∀{b:Addr} {u:HO},H b=some u->u≠.dT kvs->b≠d:=fun{b u} e n z=>by
  rw[z,ed]at e;exact n (zAl e).symm
 have I1:Inv X Zt σ (upd H d (.frz o (.dT kvs))) {s with heap:=s.heap,toks:=s.toks}:=by
  refine I.un ⟨fun b ob q _ _ _=>q,fun b ob q _ _ _=>⟨ob.slots,q⟩,fun b ob q n _=>?_,fun b ob q _=>⟨ob,q⟩,fun b xs q=>?_,fun b ob u q=>?_,fun b ps q=>⟨#[],?_⟩⟩ fun b u e=>?_
  .rw[az fun z=>by rw[z,ed]at n;cases n];exact n
  .rw[az (nt q fun z=>by cases z)];exact q
  .rw[az (nt q fun z=>by cases z)];exact q
  .rw[az (nt q fun z=>by cases z),q];simp
  .have bX:∀c xs,H c=some (.tup xs)->upd H d (.frz o (.dT kvs)) c=some (.tup xs):=fun c xs q=>by
    rw[az (nt q fun z=>by cases z)];exact q
   by_cases hb:b=d
   .subst hb;rw[aj]at e;cases e;exact⟨g1,(show ObjOk X.prog X.w H s.heap b (.dT kvs)from I.hok _ _ ed).stay (fun _ _ _ q=>q) (fun c q=>by rw[az (nt q fun z=>by cases z)];exact q) bX⟩
   .rw[az hb]at e;exact(I.hok b u e).stay (fun _ _ _ q=>q) (fun c q=>by rw[az (nt q fun z=>by cases z)];exact q) bX
 refine thn (h Zt s σ _ _ I1 (hq o)) fun fl s1 A5=>?_
 cases fl with
 |brk=>obtain⟨_,_,_,z⟩:=A5;exact z.elim
 |cont=>obtain⟨_,_,_,z⟩:=A5;exact z.elim
 |ret u=>obtain⟨_,_,_,_,_,z⟩:=A5;exact z.elim
 |next=>
 obtain⟨nL,H1,J,e1,q1⟩:=A5
 have mP:∀{b:Addr} {u:HO},H1 b=some u->u≠.frz o (.dT kvs)->b≠d:=fun{b u} e n z=>by
  rw[z,e1]at e;exact n (zAl e).symm
 have fr:∀b,H1 b=none->upd H1 d (.dT kvs) b=none:=fun b n=>by
  rw[az fun z=>by rw[z,e1]at n;cases n];exact n
 refine⟨nL,upd H1 d (.dT kvs),⟨J.ok,J.os,J.bare,⟨J.base.keep,J.base.slot,fun b ob q n hx=>fr b (J.base.free b ob q n hx),J.base.there,fun b xs q=>?_,fun b ob u q=>?_,fun b ps q=>?_⟩,J.loc,J.cell,fr _ J.free,fun y c e=>fr _ (J.freeC y c e),fun p hp=>?_,fun b u e=>?_,J.len⟩,q1⟩
 .have:=J.base.tups b xs q;rw[az (mP this fun z=>by cases z)];exact this
 .have h0:=I.base.frzs b ob u q;have:=J.base.frzs b ob u q;rw[az (nt h0 fun z=>by cases z)];exact this
 .obtain⟨m,e⟩:=J.base.tbls b ps q;exact⟨m,by rw[az (mP e fun z=>by cases z)];exact e⟩
 .obtain⟨a,n,c⟩:=J.pin p hp;exact⟨a,fr _ n,c⟩
 .have bX:∀c xs,H1 c=some (.tup xs)->upd H1 d (.dT kvs) c=some (.tup xs):=fun c xs q=>by
   rw[az (mP q fun z=>by cases z)];exact q
  have gI:∀a c,H1 c=some (.own a)->upd H1 d (.dT kvs) c=some (.own a):=fun a c q=>by
   rw[az (mP q fun z=>by cases z)];exact q
  by_cases hb:b=d
  .subst hb;rw[aj]at e;cases e;exact ObjOk.stay (show ObjOk X.prog X.w H1 s1.heap b (.dT kvs)from(show ObjOk X.prog X.w H1 s1.heap b (.frz o (.dT kvs))from J.hok _ _ e1).2) (fun _ _ _ q=>q) (gI b) bX
  .rw[az hb]at e;exact(J.hok b u e).stay (fun _ _ _ q=>q) (gI b) bX
end
abbrev TM:=List V->St->Hp->(List V->St->Hp->Prop)->Prop
abbrev oG(us:List Value)(k:Nat):Obj:={cls:=.type "list",data:=.seq us.toArray k}
def Apart(X:Cx)(D:Addr):Prop:=D≠X.env.locals/\D∉X.fs/\X.s₀.heap.objs.size<=D/\(∀x c,X.env.cells.lookup x=some c->c≠D)/\∀p∈X.pn,p.1≠D
structure Fil(X:Cx)(Zt:List (Addr×Obj))(D:Addr)(σ:St)(H:Hp)(s:Shared)(ys:List V):Prop where
 inv:Inv X Zt σ H s
 nD:H D=none
 np:∀p∈Zt,p.1≠D
 obj:∃us k,s.heap.get? D=some (oG us k)/\Vals ys us
def PM(X:Cx)(D:Addr)(M:Sem Fin->Sem Fin)(tm:TM):Prop:=
 ∀(Zt:List (Addr×Obj)) (s:Shared) (σ:St) (H:Hp) (Q:List V->St->Hp->Prop) (ys:List V),Fil X Zt D σ H s ys->ys.length<sizeLine->tm ys σ H Q->∀(c:Sem Fin) (R:Fin->Shared->Prop) (E:Value->Shared->Prop),
  (∀s' cK ar H',Fil X Zt D ar H' s' cK->Q cK ar H'->wpAny (model X.prog X.w) X.A c R E s')->wpAny (model X.prog X.w) X.A (M c) R E s
def tmE(te:TE):TM:=fun ys σ H Q=>te σ H fun y H'=>Q (ys++[y]) σ H'
def Hs(elt:Expr)(D:Addr)(env:Env):Sem Fin->Sem Fin:=fun c=>(do let _ <-call (.builtin "list.append") [.ref D,<-eval elt env])>>=fun _=>c
theorem thx{α:Type}{t:Sem α}{Q Q':α->Shared->Prop}{M:Model}{A:Around}{E:Value->Shared->Prop}{s:Shared}(h:wpAny M A t Q (fun _ _=>False) s)(hQ:∀a s,Q a s->Q' a s):wpAny M A t Q' E s:=wpAny_mono h hQ fun _ _ x=>x.elim
theorem Ht{X:Cx}{D:Addr}{elt:Expr}{te:TE}(ap:Apart X D)(hx:X.xe=fun _ _=>False)(he:PE X elt te):PM X D (Hs elt D X.env) (tmE te):=by
 intro Zt s σ H Q ys F hsz h c R E hc;obtain⟨I,nD,np,us,k,oD,rv⟩:=F;obtain⟨a1,a2,a3,a4,a5⟩:=ap
 have I':Inv X (Zt++[(D,oG us k)]) σ H s:=I.pins_of fun p hp=>(zA6.mp hp).elim (fun z=>I.pin p (zB0 _ z)) fun z=>by
  rw[List.mem_singleton.mp z];exact⟨oD,nD,a1,a2,fun v z=>by cases z⟩
 have me:=he _ s σ H _ I' h;rw[hx]at me;refine zAt (zAt (thx me fun xv s8 ⟨y,H8,I8,r8,q8⟩=>?_));have pD:=I8.pin (D,oG us k) (zB0 _ (zB0 _ (List.mem_singleton.mpr rfl)));refine zAt (append_at (hsz:=by rw[zA8,<-rv.length];exact Nat.le_of_lt hsz) pD.1 fun h9 qV xw=>zAz ?_);refine hc _ _ _ _ ⟨I8.unpinned.turned (t':=s8.toks) (fun b o hb e=>qV.extBut b o hb e) pD.2.1 a1 (.inr a3) a4 fun p hp=>?_,pD.2.1,np,us++[xv],k+1,?_,rv.append (.cons r8 .nil)⟩ q8
 .exact(zA6.mp hp).elim (a5 p) (np p)
 .show h9.get? D=_;rw[xw,List.push_toArray]
def ue(J:It)(g:TG)(tt:TT)(tm:TM)(Fin:List V->St->Hp->Prop)(A6:List V)(eC:St)(H0:Hp):Prop:=
 ∃W:Nat->Nat->List V->St->Hp->Prop,(∃m,W 0 m A6 eC H0)/\∀i m ys σ H,W i m ys σ H->ys.length<sizeLine /\
  ((J.stop i H/\Fin ys σ H)\/(J.go i H/\∀x H',J.yld i H x H'->g x σ H' fun aS H2=>tt aS H2 fun b H3=>
   if b=true then tm ys aS H3 fun cK ar H4=>∃m',m'<m/\W (i+1) m' cK ar H4 else ∃m',m'<m/\W (i+1) m' ys aS H3))
def kW(tg:Expr)(ifs:List Expr)(p:Pos)(it:Value)(env:Env)(M:Sem Fin->Sem Fin)(c:Sem Fin):Sem Fin:=do
 standAt p
 match <-pyNext it with
 |none=>pure (.done .next)
 |some v=>
  letOwnedTupleGo tg it v
  assign tg env v
  let ok <-forIn ifs true fun c r=>if r=true then do let ok <-isTrue c env (eval c env);pure (ForInStep.yield ok)else pure (ForInStep.yield r)
  if ok=true then M c else c
theorem FT{X:Cx}{elt:Expr}{gens:List Comprehension}{scope:Scope}{pos p:Pos}{d:Nat}{tg:Expr}{ifs:List Expr}{it D:Addr}{M:Sem Fin->Sem Fin}{g:TG}{tt:TT}{tm:TM}(hc:X.calm=true)(hx:X.xe=fun _ _=>False)
  (ap:Apart X D) (ht:compTurn (.ListComp elt gens scope pos) d (.ref it) (.ref D) X.env=kW tg ifs p (.ref it) X.env M (again (.compLoop (.ListComp elt gens scope pos) d (.ref it) (.ref D) X.env)))
  (hg:PG X tg g) (oC:PTs X ifs tt) (hm:PM X D M tm)
  {Zt:List (Addr×Obj)} {s:Shared} {σ:St} {H:Hp} {ys:List V} {fp:List Addr} {tn:Nat->Heap->Prop} {J:It} (F:Fil X Zt D σ H s ys) (T:Turn X.prog X.w X.K tg J fp it tn) (st:tn 0 s.heap) (hf:∀b∈fp,gG X Zt H b/\b≠D)
  {Q:List V->St->Hp->Prop} (hW:ue J g tt tm Q ys σ H) {R:Result->Shared->Prop} (hR:∀s' cK ar H',Fil X Zt D ar H' s' cK->cK.length<sizeLine->Q cK ar H'->R (.ok .next) s'):
  codeAny (model X.prog X.w) X.A (.compLoop (.ListComp elt gens scope pos) d (.ref it) (.ref D) X.env) R s:=by
 obtain⟨W,⟨m0,w0⟩,step⟩:=hW;refine codeAny_loop rfl (fun n s'=>∃i ys ar H',Fil X Zt D ar H' s' ys/\tn i s'.heap/\(∀b∈fp,H' b=none)/\W i n ys ar H') (fun n s3 hI=>?_) m0 ⟨0,ys,σ,H,F,st,fun b hb=>(hf b hb).1.1,w0⟩;obtain⟨i,ys,cc,H3,⟨I3,dE,np,us,k,xt,hJ⟩,fw,kF,w3⟩:=hI;show wpAny _ _ ((compTurn (.ListComp elt gens scope pos) d (.ref it) (.ref D) X.env).onRaise (fun x=>do noteFrame x X.env;theTreesLotGoes x)) _ _ s3;refine wpAny_noted ?_;rw[ht];obtain⟨a1,a2,a3,a4,a5⟩:=ap;obtain⟨hsz,eI⟩:=step i n ys cc H3 w3
 have oo:Inv X (Zt++[(D,oG us k)]) cc H3 s3:=I3.pins_of fun p hp=>(zA6.mp hp).elim (fun z=>I3.pin p (zB0 _ z)) fun z=>by
  rw[List.mem_singleton.mp z];exact⟨xt,dE,a1,a2,fun v z=>by cases z⟩
 have iX:∀{H':Hp},(∀b∈fp,H' b=none)->∀b∈fp,gG X (Zt++[(D,oG us k)]) H' b:=fun{H'} hn b hb=>by
  obtain⟨⟨_,f1,f2,f3,f4,f5⟩,f6⟩:=hf b hb;refine⟨hn b hb,f1,f2,f3,f4,fun q hq=>?_⟩;rw[<-zAf]at hq;rcases zA6.mp hq with z|z
  .exact f5 q z
  .rw[List.mem_singleton.mp z];exact f6.symm
 refine zAt (wpAny_standAt (zAt ?_));rcases eI with⟨stop,fin⟩|⟨go,turn⟩
 .refine thx (T.done X rfl rfl rfl hc i _ s3 cc H3 (fun _ _=>False) oo (iX kF) fw stop) fun r s4 ⟨hr,I4⟩=>?_;subst hr;have pD:=I4.pin (D,oG us k) (zB0 _ (zB0 _ (List.mem_singleton.mpr rfl)));exact zAz (hR s4 ys cc H3 ⟨I4.unpinned,dE,np,us,k,pD.1,hJ⟩ hsz fin)
 .refine thx (T.item X rfl rfl rfl hc i _ s3 cc H3 (fun _ _=>False) oo (iX kF) fw go) fun r s4 ⟨u,hr,h4⟩=>?_;subst hr;refine zAt (thx h4 fun _ s5 ⟨x,H5,I5,r5,y5,hG,qh⟩=>?_);have qo:=I5.pinned (iX qh) (T.obj _ _ hG);have ot:=hg _ s5 cc H5 x u _ qo r5 (turn x H5 y5);rw[hx]at ot;refine zAt (thx ot fun _ s6 ⟨fe,H6,I6,q6⟩=>?_);have dP:=oC _ s6 fe H6 _ I6 q6;rw[hx]at dP;refine zAt (thx dP fun okb s7 ⟨H7,I7,q7⟩=>?_);have pD:=I7.pin (D,oG us k) (zB0 _ (List.mem_append_left _ (zB0 _ (List.mem_singleton.mpr rfl))));have Kx:Inv X (Zt++gm fp s5.heap) fe H7 s7:=I7.pins_of fun q hq=>(zA6.mp hq).elim (fun z=>I7.pin q (zB0 _ (List.mem_append_left _ (List.mem_append_left _ z)))) fun z=>I7.pin q (zB0 _ (zB0 _ z));have KA:∀q∈Zt++gm fp s5.heap,q.1≠D:=fun q hq=>(zA6.mp hq).elim (np q) fun z=>(hf _ (oW z).1).2
  have back:∀{H8:Hp} {s8:Shared} {y8:St} {y9:List V},Fil X (Zt++gm fp s5.heap) D y8 H8 s8 y9->Fil X Zt D y8 H8 s8 y9/\tn (i+1) s8.heap/\∀b∈fp,H8 b=none:=fun{H8 s8 y8 y9} F8=>by
   obtain⟨I8,n8,_,o8⟩:=F8;have pf:∀b∈fp,∀o,s5.heap.get? b=some o->s8.heap.get? b=some o:=fun b hb o e=>(I8.pin (b,o) (zB0 _ (zB0 _ (cY hb e)))).1;refine⟨⟨I8.unpinned,n8,np,o8⟩,T.keep _ _ _ hG pf,fun b hb=>?_⟩;obtain⟨o,e,_⟩:=T.obj _ _ hG b hb;exact(I8.pin (b,o) (zB0 _ (zB0 _ (cY hb e)))).2.1
  cases okb with
  |false=>
   obtain⟨m',D3,w7⟩:=q7;obtain⟨b1,b2,b3⟩:=back ⟨Kx,pD.2.1,KA,us,k,pD.1,hJ⟩;exact zAz ⟨rfl,m',D3,i+1,ys,fe,H7,b1,b2,b3,w7⟩
  |true=>
   refine hm _ s7 fe H7 _ ys ⟨Kx,pD.2.1,KA,us,k,pD.1,hJ⟩ hsz q7 _ _ _ fun s8 y9 y8 H8 F8 q8=>?_;obtain⟨m',D3,w8⟩:=q8;obtain⟨b1,b2,b3⟩:=back F8;exact zAz ⟨rfl,m',D3,i+1,y9,y8,H8,b1,b2,b3,w8⟩
theorem uf{prog:Program}{w:World}{A:Around}{R:Result->Shared->Prop}{s:Shared}{elt:Expr}{gens:List Comprehension}{c:Comprehension}{scope:Scope}{pos:Pos}{d:Nat}{it acc:Value}{env:Env}(hd:gens[d]?=some c)(ha:c.is_async=0)
  (h0:codeAny (model prog w) A (.compLoop (.ListComp elt gens scope pos) d it acc env) R s)
  (h:wpAny (model prog w) A (pyIter it) (fun KG s'=>codeAny (model prog w) A (.compLoop (.ListComp elt gens scope pos) d KG acc env) R s') (fun _ _=>False) s):
  codeAny (model prog w) A (.compStart (.ListComp elt gens scope pos) d it acc env) R s:=by
 refine codeAny_of_tree ?_;show wpAny _ _ ((compStart (.ListComp elt gens scope pos) d it acc env).onRaise (fun x=>do noteFrame x env;standAt theWindowsPlace)) _ _ s;refine wpAny_notedAt ?_;have e:(clausesOf (.ListComp elt gens scope pos))[d]?=some c:=hd;unfold compStart;rw[e];have e2:(Option.elim (some c) false fun x=>x.is_async != 0)=false:=by show(c.is_async != 0)=false;rw[ha];rfl
 rw[e2];show wpAny _ _ (ask>>=_) _ _ s;refine zAt (wpAny_askSetting (wpAny_ite ?_));split
 .exact zAz (And.intro rfl h0)
 .refine zAt (wpAny_rule (zAt (wpAny_standAt (zAt (thx h fun KG s' h'=>zAz (And.intro rfl h'))))))
def Hu(elt:Expr)(gens:List Comprehension)(scope:Scope)(pos:Pos)(d:Nat)(iter:Expr)(D:Addr)(env:Env):Sem Fin->Sem Fin:=fun c=>do
 let x <-eval iter env
 standAt iter.pos
 let x <-foldedSetIterable iter env x
 let it <-holding [x] (pyIter x)
 let _ <-runOwn (.compStart (.ListComp elt gens scope pos) d it (.ref D) env) env
 c
section
variable{elt tg iter NH oI:Expr}{gens:List Comprehension}{ifs D4:List Expr}{scope:Scope}{pos:Pos}{d:Nat}{it:Value}{D:Addr}{env:Env}
theorem yJ(hg:gens[d]?=some ⟨tg,iter,ifs,0⟩)(hn:gens[d+1]?=none):compTurn (.ListComp elt gens scope pos) d it (.ref D) env=kW tg ifs iter.pos it env (Hs elt D env) (again (.compLoop (.ListComp elt gens scope pos) d it (.ref D) env)):=by
 unfold compTurn kW Hs;simp only[hg,hn];rfl
theorem wR(hg:gens[d]?=some ⟨tg,iter,ifs,0⟩)(hn:gens[d+1]?=some ⟨NH,oI,D4,0⟩):compTurn (.ListComp elt gens scope pos) d it (.ref D) env=kW tg ifs iter.pos it env (Hu elt gens scope pos (d+1) oI D env) (again (.compLoop (.ListComp elt gens scope pos) d it (.ref D) env)):=by
 unfold compTurn kW Hu;simp only[hg,hn];rfl
end
def tmG(wi:TI)(g:TG)(tt:TT)(tm:TM):TM:=fun ys σ H Q=>wi σ H fun J H1=>ue J g tt tm Q ys σ H1
theorem Am{X:Cx}{elt tg iter:Expr}{gens:List Comprehension}{ifs:List Expr}{scope:Scope}{pos p:Pos}{d:Nat}{D:Addr}{M:Sem Fin->Sem Fin}{wi:TI}{g:TG}{tt:TT}{tm:TM}(hc:X.calm=true)(hx:X.xe=fun _ _=>False)(ap:Apart X D)
  (hd:gens[d]?=some ⟨tg,iter,ifs,0⟩) (ht:∀it,compTurn (.ListComp elt gens scope pos) d (.ref it) (.ref D) X.env=kW tg ifs p (.ref it) X.env M (again (.compLoop (.ListComp elt gens scope pos) d (.ref it) (.ref D) X.env)))
  (hi:PI X tg iter wi) (hg:PG X tg g) (oC:PTs X ifs tt) (hm:PM X D M tm) (hs:∀x,foldedSetIterable iter X.env x=pure x:=by intro _;rfl):PM X D (Hu elt gens scope pos d iter D X.env) (tmG wi g tt tm):=by
 intro Zt s σ H Q ys F hsz h c R E hk;obtain⟨I,nD,np,us,k,oD,rv⟩:=F;have NI:=ap;obtain⟨a1,a2,a3,a4,a5⟩:=ap
 have I':Inv X (Zt++[(D,oG us k)]) σ H s:=I.pins_of fun p hp=>(zA6.mp hp).elim (fun z=>I.pin p (zB0 _ z)) fun z=>by
  rw[List.mem_singleton.mp z];exact⟨oD,nD,a1,a2,fun v z=>by cases z⟩
 have hX:=hi _ s σ H _ I' h;rw[hx]at hX;refine zAt (thx hX fun v s1 h1=>zAt (wpAny_standAt ?_));rw[hs v];refine zAt (zAz (zAt (wpAny_holding (thx h1 fun qa s2 ⟨it,fp,tn,J,H2,e,I2,T,st2,f2,hW⟩=>?_))));subst e;have pD:=I2.pin (D,oG us k) (zB0 _ (zB0 _ (List.mem_singleton.mpr rfl)))
 have hf:∀b∈fp,gG X Zt H2 b/\b≠D:=fun b hb=>by
  obtain⟨f0,f1,f2,f3,f4,f5⟩:=f2 b hb;exact⟨⟨f0,f1,f2,f3,f4,fun q hq=>f5 q (by rw[<-List.append_assoc];exact List.mem_append_left _ hq)⟩,(f5 (D,oG us k) Zy).symm⟩
 have L:=fun R hR=>FT (R:=R) hc hx NI (ht it) hg oC hm ⟨I2.unpinned,pD.2.1,np,us,k,pD.1,rv⟩ T st2 hf hW hR;refine zAt (wpAny_runOwn ?_);refine uf hd rfl (L _ fun s' cK ar H' F' _ q=>hk s' cK ar H' F' q) ?_;exact T.self _ 0 _ _ _ st2 (L _ fun s' cK ar H' F' _ q=>hk s' cK ar H' F' q)
theorem vB{X:Cx}{tg iter elt:Expr}{ifs:List Expr}{gens:List Comprehension}{scope:Scope}{pos p:Pos}{Nc:List Str}{src:List (Option Nat)}{g:TG}{tt:TT}{tm:TM}{M:Addr->Env->Sem Fin->Sem Fin}(hc:X.calm=true)(S:CScope X scope)
  (hd:gens[0]?=some ⟨tg,iter,ifs,0⟩) (lI:∀it D env,compTurn (.ListComp elt gens scope pos) 0 (.ref it) (.ref D) env=kW tg ifs p (.ref it) env (M D env) (again (.compLoop (.ListComp elt gens scope pos) 0 (.ref it) (.ref D) env)))
  (bg:∀C,Caps X (compEnvC scope (cV X.env.cells scope.names []) C X.env) Nc src)
  (hb:∀C fp Zt s₂ H₂,PG (cxC X scope Nc C fp Zt s₂ H₂) tg g/\PTs (cxC X scope Nc C fp Zt s₂ H₂) ifs tt/\∀D,Apart (cxC X scope Nc C fp Zt s₂ H₂) D->PM (cxC X scope Nc C fp Zt s₂ H₂) D (M D (cxC X scope Nc C fp Zt s₂ H₂).env) tm)
  {Zt:List (Addr×Obj)} {s₂:Shared} {σ:St} {H₂:Hp} {it:Addr} {fp:List Addr} {tn:Nat->Heap->Prop} {J:It} (af:Inv X Zt σ H₂ s₂) (T:Turn X.prog X.w X.K tg J fp it tn) (st:tn 0 s₂.heap) (hf:∀b∈fp,gG X Zt H₂ b)
  {Fin:List V->Hp->Prop} (hW:ue J g tt tm (fun ys _ H=>Fin ys H) [] (capσ σ src) H₂) {RR:Value->Addr->Result->Shared->Prop} {E:Value->Shared->Prop}
  (xb:∀D C s' ys H' m,Fin ys H'->H' D=none->Inv X Zt σ (upd H' D (.lst ys)) s'->s'.heap.Ns C m->gG X Zt (upd H' D (.lst ys)) C->RR (.ref D) C (.ok .next) s'):
  wpAny (model X.prog X.w) X.A (newList []) (fun acc s₃=>wpAny (model X.prog X.w) X.A (newFunctionEnv scope X.env.globals (cV X.env.cells scope.names []) [] X.env.qual none .none (some X.env)) (fun gu gs=>
   codeAny (model X.prog X.w) X.A (.compStart (.ListComp elt gens scope pos) 0 (.ref it) acc {gu with scope:=relabel scope X.env}) (RR acc gu.locals) gs) E s₃) E s₂:=by
 refine wpAny_newObj_type (wpAny_newFunctionEnv S.hcell (by intro y hy;simp at hy) (fun bE aE aI=>?_) S.kind);dsimp only at aE aI⊢;generalize kM:s₂.heap.push {cls:=.type "list",dict:=none,data:=.seq ([]:List Value).toArray}=HH at aE aI⊢;generalize cy:s₂.heap.objs.size=D at aE aI⊢;have hC:HH.objs.size=D+1:=by rw[<-kM,Heap.size_push,cy]
 generalize IU:HH.objs.size=C at aE aI hC⊢;have kr:D≠C:=Zz
 have below:∀b,b<s₂.heap.objs.size->b≠C/\b≠D:=fun b hb=>by rw[cy]at hb;exact⟨by rw[hC];exact zB7 (Nat.lt_succ_of_lt hb),zB7 hb⟩
 have ai:∀{b o},s₂.heap.get? b=some o->b≠C/\b≠D:=fun{b o} e=>below b (zB1 e);have old:∀b o,s₂.heap.get? b=some o->bE.get? b=some o:=fun b o e=>aI.extBut b o (ai e).1 (zAy _ (kM▸zAy _ e));have kN:bE.get? D=some {cls:=.type "list",data:=.seq ([]:List Value).toArray}:=aI.extBut _ _ kr (zAy _ (kM▸cy▸zB3 _ rfl))
 have sR:∀b∈fp,∃o,s₂.heap.get? b=some o:=fun b hb=>let⟨o,e,_⟩:=T.obj _ _ st b hb;⟨o,e⟩
 have iN:∀b∈fp,b≠C/\b≠D:=fun b hb=>let⟨o,e⟩:=sR b hb;ai e
 have sub:∀{x c},(cV X.env.cells scope.names []).lookup x=some c->X.env.cells.lookup x=some c:=fun{x c} e=>by
  rcases je scope.names [] S.hfree e with z|z
  .simp at z
  .exact z
 have qS:∀{b o},s₂.heap.get? b=some o->b<D:=fun{b o} e=>by rw[<-cy];exact zB1 e
 have fresh:∀a,D<=a->H₂ a=none:=fun a ha=>af.hok.fresh (by rw[cy];exact ha)
 have cv:∀{x c},X.env.cells.lookup x=some c->∃o,s₂.heap.get? c=some o:=fun{x c} e=>let⟨v,o,ho,_⟩:=af.cell x c e;⟨o,ho⟩
 have kP:∀b∈frs X.stack,∃o,s₂.heap.get? b=some o:=fun b hb=>by
  rcases zAo.mp (af.stkSub b hb)with e|hb
  .rw[e];obtain⟨m,⟨o,_,_,ho,_⟩,_⟩:=af.loc;exact⟨o,ho⟩
  .obtain⟨_,o,ho,_⟩:=af.funs.mem hb;exact⟨o,ho⟩
 have kQ:∀a,D<=a->a∉frs X.stack:=fun a ha hb=>by
  obtain⟨o,e⟩:=kP a hb;exact absurd (zB2 (qS e) ha) (Nat.lt_irrefl _)
 have om:∀b∈fp,b∉frs X.stack:=fun b hb z=>by
  obtain⟨_,f1,f2,_⟩:=hf b hb;rcases zAo.mp (af.stkSub b z)with e|e
  .exact f1 e
  .exact f2 e
 generalize aT:cxC X scope Nc C fp Zt s₂ H₂=X';obtain⟨hg,ht,hm⟩:=hb C fp Zt s₂ H₂;rw[aT]at hg ht hm
 have xh:X'.Ok:=by
  subst aT;refine⟨af.ok.mod,S.kind,af.ok.glob,af.ok.blt,?_,?_,?_,?_,af.ok.hd,af.ok.frames,.inl rfl,?_,af.bs,Nat.le_trans af.ok.bsz af.sz,?_,om,af.stack,af.stkFree⟩
  .show s₂.heap.objs.size<=C;lia
  .exact fun x y c e1 e2=>af.ok.inj x y c (sub e1) (sub e2)
  .intro x hx;have hx:(relabel scope X.env).names.lookup x=some .cell\/(relabel scope X.env).names.lookup x=some .free:=hx
   have:∃k',(x,k')∈scope.names/\k'=NameKind.free:=by
    rcases hx with z|z
    .exact fK S.hcell z (.inl rfl)
    .exact fK S.hcell z (.inr rfl)
   exact jf scope.names [] (.inl this)
  .intro x c z;exact absurd z (by show¬(false=true);simp)
  .intro b hb;exact⟨(iN b hb).1,fun x c e=>(hf b hb).2.2.2.2.1 x c (sub e)⟩
  .intro b o e hb;obtain⟨_,_,_,f3,_⟩:=hf b hb;rcases f3 with z|z
   .exact af.ok.noex b o e z
   .exact absurd (zB2 (zB1 (af.ok.bs b o e).1) z) (Nat.lt_irrefl _)
 have eP:X'.prog=X.prog:=by subst aT;rfl
 have ew:X'.w=X.w:=by subst aT;rfl
 have eK:X'.K=X.K:=by subst aT;rfl
 have eA:X'.A=X.A:=by subst aT;rfl
 have eE:X'.xe=fun _ _=>False:=by subst aT;rfl
 have eL:X'.env.locals=C:=by subst aT;rfl
 have eN:X'.env=compEnvC scope (cV X.env.cells scope.names []) C X.env:=by subst aT;rfl
 have ec:X'.calm=true:=by subst aT;exact hc
 have eS:X'.s₀=s₂:=by subst aT;rfl
 have eH:X'.H₀=H₂:=by subst aT;rfl
 have ef:X'.fs=frs X.stack:=by subst aT;rfl
 have ex:X'.ex=fp:=by subst aT;rfl
 have ep:X'.pn=X.pn++Zt:=by subst aT;rfl
 have I0:Inv X' [] (capσ σ src) H₂ {s₂ with heap:=bE,toks:=s₂.toks+([]:List (Str×Value)).length}:=by
  refine⟨xh,by rw[eS],af.bare,by rw[eS,eH];exact Un.kept old,⟨_,by rw[eL];exact aE,?_⟩,?_,by rw[eL];exact fresh _ Zz,?_,?_,by rw[eP,ew];exact af.hok.kept old,?_⟩
  .intro j x v e1 e2 e3;have e1:Nc[j]?=some x:=by subst aT;exact e1
   have e4:∃i,src[j]?=some (some i)/\(σ[i]?).join=some v:=by
    unfold capσ at e2;rw[zAb]at e2
    cases q:src[j]? with
    |none=>rw[q]at e2;cases e2
    |some o=>
     rw[q]at e2
     cases o with
     |none=>simp at e2
     |some i=>exact⟨i,rfl,by simpa using e2⟩
   obtain⟨i,e5,e6⟩:=e4;obtain⟨c1,c2,c3,c4⟩:=(bg C).get e1 e5
   have e7:σ[i]?=some (some v):=by
    cases q:σ[i]? with
    |none=>rw[q]at e6;simp at e6
    |some o=>rw[q]at e6;simp at e6;rw[e6]
   obtain⟨m,_,hl⟩:=af.loc;obtain⟨u,r,l⟩:=hl i x v c1 e7 (.inr (by rcases c2 with z|z;exact .inl z;exact .inr z));refine⟨u,r,?_⟩;rcases l with⟨k,_⟩|⟨_,c,e,z⟩
   .rcases c2 with c2|c2<;>(rw[k]at c2;cases c2)
   .refine .inr ⟨by rw[eN];exact c4,c,by rw[eN];exact c3.trans e,?_⟩;obtain⟨o,ho,hd⟩:=z;exact⟨o,old c o ho,hd⟩
  .intro x c e;rw[eN]at e;obtain⟨v,o,ho,hd⟩:=af.cell x c (sub e);exact⟨v,o,old c o ho,hd⟩
  .intro x c e;rw[eN]at e;exact af.freeC x c (sub e)
  .intro p hp;rw[ep,zAn]at hp;obtain⟨e,n,ne,nf,d⟩:=af.pin p hp;refine⟨old _ _ e,n,by rw[eL];exact(ai e).1,?_,d⟩;rw[ef];intro z;rcases zAo.mp (af.stkSub _ z)with q|q
   .exact ne q
   .exact nf q
  .have:=(bg C).len;subst aT;show(capσ σ src).length=Nc.length;unfold capσ;rw[zA1,this]
 have xi:∀p∈X'.pn,p.1≠D:=fun p hp=>by
  rw[ep]at hp;exact(ai (af.pin p hp).1).2
 have gv:∀x c,X'.env.cells.lookup x=some c->c≠D:=fun x c e=>by
  rw[eN]at e;obtain⟨o,ho⟩:=cv (sub e);exact(ai ho).2
 have iX:∀{P:List (Addr×Obj)} {H:Hp},(∀p∈P,p.1=D)->(∀b∈fp,H b=none)->∀b∈fp,gG X' P H b:=fun{P H} hP hn b hb=>by
  refine⟨hn b hb,by rw[eL];exact(iN b hb).1,by rw[ef];exact om b hb,.inl (by rw[ex];exact hb),fun x c e=>?_,fun p hp=>?_⟩
  .rw[eN]at e;exact(hf b hb).2.2.2.2.1 x c (sub e)
  .rcases zA6.mp hp with z|z
   .rw[ep]at z;exact(hf b hb).2.2.2.2.2 p z
   .rw[hP p z];exact(iN b hb).2.symm
 have ap:Apart X' D:=⟨by rw[eL];exact kr,by rw[ef];exact kQ _ (zA3 _),by rw[eS,cy];exact zA3 _,gv,xi⟩
 have T':Turn X'.prog X'.w X'.K tg J fp it tn:=by rw[eP,ew,eK];exact T
 have loop:∀s₃:Shared,s₃={s₂ with heap:=bE,toks:=s₂.toks+([]:List (Str×Value)).length}->
   codeAny (model X.prog X.w) X.A (.compLoop (.ListComp elt gens scope pos) 0 (.ref it) (.ref D) (compEnvC scope (cV X.env.cells scope.names []) C X.env)) (RR (.ref D) C) s₃:=by
  rintro s₃ rfl
  have L:=FT (X:=X') (R:=RR (.ref D) C) ec eE ap (lI it D X'.env) hg ht (hm D ap) ⟨I0,fresh _ (Nat.le_refl _),fun p hp=>absurd hp Zy,[],_,kN,.nil⟩ T' (T.keep _ _ _ st fun b _ o e=>old b o e)
   (fun b hb=>⟨iX (fun p hp=>absurd hp Zy) (fun b hb=>(hf b hb).1) b hb,(iN b hb).2⟩) hW ?_
  .rw[eP,ew,eA,eN]at L;exact L
  rintro s4 ys cc H3 ⟨I4,dE,_,us,k,oD,hJ⟩ hsz fin;obtain⟨mC,oq,_⟩:=I4.loc;rw[eL]at oq;have dv:=I4.base;rw[eS,eH,ef,ex]at dv;have hlen:ys.length<=sizeLine:=Nat.le_of_lt hsz
  have kR:HOk X.prog X.w (upd H3 D (.lst ys)) s4.heap:=fun b u e=>by
   by_cases hb:b=D
   .subst hb;rw[aj]at e;cases e;exact⟨hlen,us,k,hJ,oD⟩
   .rw[az hb]at e;have z:=I4.hok b u e;rw[eP,ew]at z
    exact z.stay (fun c v _ q=>q) (fun c q=>by rw[az (aC q dE)];exact q) fun c xs q=>by rw[az (aC q dE)];exact q
  have un:Un (frs X.stack) fp H₂ (upd H3 D (.lst ys)) s₂.heap s4.heap:=⟨dv.keep,dv.slot,fun b o e n hx=>by rw[az (ai e).2];exact dv.free b o e n hx,dv.there,
   fun b xs e=>by
    have z:=dv.tups b xs e
    rw[az (aC z dE)];exact z,
   fun b o u e=>by
    have z:=dv.frzs b o u e
    rw[az (aC z dE)];exact z,
   fun b ps e=>by
    obtain⟨mo,z⟩:=dv.tbls b ps e
    exact⟨mo,by rw[az (aC z dE)];exact z⟩⟩
  have J4:Inv X Zt σ (upd H3 D (.lst ys)) s4:=af.call' (ch:=fp) (by have:=I4.os;rw[eS]at this;exact this) un kR I4.bare fun b hb=>by
   obtain⟨_,f1,f2,f3,f4,f5⟩:=hf b hb;exact⟨f3,f1,f4,f5⟩
  refine xb D C s4 ys H3 mC fin dE J4 oq ⟨?_,?_,?_,.inr ?_,?_,?_⟩
  .rw[az kr.symm];have:=I4.free;rw[eL]at this;exact this
  .have:=af.lt;rw[cy]at this;exact Nat.ne_of_gt (zB2 this (by rw[hC];exact Nat.le_succ _))
  .intro z;obtain⟨_,o,ho,_⟩:=af.funs.mem z;exact(ai ho).1 rfl
  .have:=af.sz;rw[cy]at this;lia
  .intro x c e z;obtain⟨o,ho⟩:=cv e;exact(ai ho).1 z
  .intro p hp z;exact(ai (af.pin p hp).1).1 z
 exact uf hd rfl (loop _ rfl) (T.self _ 0 _ _ _ (T.keep _ _ _ st fun b _ o e=>old b o e) (loop _ rfl))
def Hv(wi:TI)(src:List (Option Nat))(g:TG)(tt:TT)(tm:TM):TE:=fun σ H Q=>wi σ H fun J H1=>ue J g tt tm (fun ys _ H'=>∀D,H' D=none->Q (.ref D) (upd H' D (.lst ys))) [] (capσ σ src) H1
theorem An{X:Cx}{tg iter elt:Expr}{ifs:List Expr}{rest:List Comprehension}{scope:Scope}{pos p:Pos}{wi:TI}{g:TG}{tt:TT}{tm:TM}{M:Addr->Env->Sem Fin->Sem Fin}(Nc:List Str)(src:List (Option Nat))(hc:X.calm=true)(hi:PI X tg iter wi)
  (lI:∀it D env,compTurn (.ListComp elt (⟨tg,iter,ifs,0⟩::rest) scope pos) 0 (.ref it) (.ref D) env=kW tg ifs p (.ref it) env (M D env) (again (.compLoop (.ListComp elt (⟨tg,iter,ifs,0⟩::rest) scope pos) 0 (.ref it) (.ref D) env)))
  (hb:∀C fp Zt s₂ H₂,PG (cxC X scope Nc C fp Zt s₂ H₂) tg g/\PTs (cxC X scope Nc C fp Zt s₂ H₂) ifs tt/\∀D,Apart (cxC X scope Nc C fp Zt s₂ H₂) D->PM (cxC X scope Nc C fp Zt s₂ H₂) D (M D (cxC X scope Nc C fp Zt s₂ H₂).env) tm)
  (bg:∀C,Caps X (compEnvC scope (cV X.env.cells scope.names []) C X.env) Nc src) (S:CScope X scope)
  (hs:∀x,foldedSetIterable iter X.env x=pure x:=by intro _;rfl):PE X (.ListComp elt (⟨tg,iter,ifs,0⟩::rest) scope pos) (Hv wi src g tt tm):=by
 intro Zt s σ H Q I h;rw[eval_ListComp];refine wpAny_comprehension_free (use:=none) rfl hs (lG S.hfree) S.kind S.hnames ?_;refine thn (hi Zt s σ H _ I h) fun v s1 h1=>thn h1 fun qa s2 h2=>?_;obtain⟨it,fp,tn,J,H2,e,I2,T,st2,f2,hW⟩:=h2;subst e;refine vB (RR:=fun acc C=>compPost (model X.prog X.w) X.A X.xe none (EP X Zt σ Q) acc C) hc S rfl lI bg hb I2 T st2 f2 hW ?_;intro D C s' ys H' m fin nD J' hn fC;obtain⟨f0,f1,_,f3,f4,f5⟩:=fC;refine⟨m,hn,fun C6 hV=>?_⟩;exact⟨.ref D,_,J'.turned (t':=s'.toks) (fun b o hb e=>hV.extBut b o hb e) f0 f1 f3 f4 f5,rfl,fin D nD⟩
end L2
namespace K42
open PySem L2
def top(i:Nat):Stmt:=PySem.Challenge.pw_woolyears_k42_whole_no_giving_leaves_les.main.body.getD i (.Pass ⟨0,0,0,0⟩)
def dh(d:PyData):Bool:=qR d&&!qT d
def items:PyData->List PyData
 |.tuple ds=>ds
 |_=>[]
def intOf:PyData->Int
 |.int i=>i
 |_=>0
def bA(d:PyData)(f m:Int):Bool:=qU d&&(decide (f<=(items d).length)&&decide (((items d).length:Int)<=m))
def bw(d:PyData)(n:Int):Bool:=bA d n n&&(items d).all dh
def pR(d:PyData):Bool:=bw d 3&&(items d).all fun x=>decide (0<=intOf x)&&decide (intOf x<=999)
def ig(d:PyData):Bool:=bA d 1 20&&(items d).all pR
def at_(d:PyData)(i:Nat):Int:=intOf ((items d).getD i .none)
def rF(a b c d e f:Int):Bool:=
 (decide (0<=a)&&decide (a<8))&&((decide (0<=b)&&decide (b<3))&&((decide (0<=c)&&(decide (c<=d)&&decide (d<=19)))&&((decide (1<=e)&&decide (e<=99))&&(decide (0<=f)&&decide (f<=1000000)))))
def jx(d:PyData):Bool:=bw d 6&&rF (at_ d 0) (at_ d 1) (at_ d 2) (at_ d 3) (at_ d 4) (at_ d 5)
def eG(d:PyData):Bool:=bA d 0 10&&(items d).all jx
theorem nd1(x:Str):([x]:List Str).Nodup:=by simp
theorem Ao(d:PyData):1<=sz d:=by cases d<;>simp[sz]
theorem rG:∀(ds:List PyData),ds.length<=szs ds
 |[]=>zAp _
 |d::ds=>by
  have:=rG ds;have:=Ao d;simp only[List.length_cons,szs];lia
theorem rH:∀{ds:List PyData} {d:PyData},d∈ds->sz d<=szs ds
 |x::ds,d,h=>by
  simp only[szs];rcases zAo.mp h with e|e
  .rw[e];lia
  .have:=rH e;lia
theorem jy{ds:List PyData}{d:PyData}(h:d∈ds)(hz:sz (.tuple ds)<=4000):sz d<=4000:=by
 have:=rH h;simp only[sz]at hz;lia
theorem fu{S:Addr->Prop}{H:Hp}{xs:List V}{ds:List PyData}(r:IsThs S H xs ds)(hz:sz (.tuple ds)<=4000):xs.length<sizeLine:=by
 have:=rG ds;have:=r.length;simp only[sz]at hz;rw[sizeLine_eq];lia
def spT(f:PyData->Bool):Sp:=fun vs H Q _=>∃S v d,vs=[v]/\IsTh S H v d/\sz d<=4000/\∀H',Same H H'->Q (.bl (f d)) H'
inductive SpT1I(f:PyData->Int->Bool)(vs:List V)(H:Hp)(Q:VK):Prop
 |mk:∀S v d n,(vs=[v,.int n])->(IsTh S H v d)->(sz d<=4000)->(∀H',Same H H'->Q (.bl (f d n)) H')->SpT1I f vs H Q
def Aq(f:PyData->Int->Bool):Sp:=fun vs H Q _=>SpT1I f vs H Q
def lB(f:PyData->Int->Int->Bool):Sp:=fun vs H Q _=>∃S v d n m,vs=[v,.int n,.int m]/\IsTh S H v d/\sz d<=4000/\∀H',Same H H'->Q (.bl (f d n m)) H'
structure Mg(mg:Str->Option Value):Prop where
 isinstance:mg "isinstance"=none
 int:mg "int"=none
 bool:mg "bool"=none
 tuple:mg "tuple"=none
 len:mg "len"=none
 all:mg "all"=none
theorem boot_int:bootBuiltins "int"=some (.type "int"):=by decide +kernel
theorem boot_bool:bootBuiltins "bool"=some (.type "bool"):=by decide +kernel
theorem boot_tuple:bootBuiltins "tuple"=some (.type "tuple"):=by decide +kernel
theorem boot_isinstance:bootBuiltins "isinstance"=some (.builtin "isinstance"):=by decide +kernel
theorem boot_all:bootBuiltins "all"=some (.builtin "all"):=by decide +kernel
theorem dw{K:Frag}{S:Addr->Prop}{te:TE}{src:List (Option Nat)}{i j:Nat}{σ:St}{H:Hp}{Q:VK}{a:Addr}{xs:List V}{ds:List PyData}(f:PyData->Bool)(kS:σ[i]?=some (some (.ref a)))(ea:H a=some (.tup xs))(r:IsThs S H xs ds)(hl:xs.length<sizeLine)
  (xC:∀v d H1 Q1,d∈ds->Same H H1->IsTh S H1 v d->(∀H',Same H1 H'->Q1 (.bl (f d)) H')->te ((capσ σ src).set j (some v)) H1 Q1) (q:∀H',Same H H'->Q (.bl (ds.all f)) H'):
  tCB (fun xs H Q=>∃(p:Addr) (bs:List Bool),xs=[.ref p]/\SqL K H p (bs.map V.bl)/\Q (.bl (bs.all id)) H) (sV (sY (Im K (uM i)) src (bH j) sX te) Gv) σ H Q:=by
 refine⟨_,kS,a,rfl,⟨xs,SqT.of ea⟩,tQ (j:=j) f ea r hl xC fun H2 s2 D hD=>⟨D,ds.map f,rfl,?_,?_⟩⟩
 .rw[<-zV];exact SqL.of aj
 .rw[Hb];exact q _ (s2.updR hD)
structure Nums(mg:Str->Option Value):Prop where
 sorts:∃t,mg "SORTS"=some (.int 3 t)
 holders:∃t,mg "HOLDERS"=some (.int 8 t)
 year:∃t,mg "LAST_YEAR"=some (.int 19 t)
 clips:∃t,mg "MOST_CLIPS"=some (.int 20 t)
 proms:∃t,mg "MOST_PROMISES"=some (.int 10 t)
 wool:∃t,mg "MOST_WOOL"=some (.int 999 t)
 sacks:∃t,mg "MOST_SACKS"=some (.int 99 t)
 price:∃t,mg "MOST_PRICE"=some (.int 1000000 t)
theorem jQ{d:PyData}{n:Int}(h:bw d n=true):bA d n n=true/\∀x∈items d,dh x=true:=by
 unfold bw at h;rw[zAc]at h;exact⟨h.1,List.all_eq_true.mp h.2⟩
theorem jR{S:Addr->Prop}{H:Hp}{v:V}{d:PyData}(h:IsTh S H v d)(e:dh d=true):∃i,v=.int i/\d=.int i:=by
 cases h with
 |int i=>exact⟨i,rfl,rfl⟩
 |_=>cases e
theorem jz{α:Type}{n:Nat}{l:List α}(h:l.length=n+1):∃a t,l=a::t/\t.length=n:=by
 cases l with
 |nil=>cases h
 |cons a t=>exact⟨a,t,rfl,Nat.succ.inj h⟩
theorem Jo{α:Type}{l:List α}(h:l.length=5):∃a b c d e,l=[a,b,c,d,e]:=by
 obtain⟨a,l1,e1,h1⟩:=jz h;obtain⟨b,l2,e2,h2⟩:=jz h1;obtain⟨c,l3,e3,h3⟩:=jz h2;obtain⟨d,l4,e4,h4⟩:=jz h3;obtain⟨e,l5,e5,h5⟩:=jz h4;exact⟨a,b,c,d,e,by rw[e1,e2,e3,e4,e5,List.length_eq_zero_iff.mp h5]⟩
theorem Jp{α:Type}{l:List α}(h:l.length=6):∃a b c d e f,l=[a,b,c,d,e,f]:=by
 obtain⟨a,l1,e1,h1⟩:=jz h;obtain⟨b,c,d,e,f,e2⟩:=Jo h1;exact⟨a,b,c,d,e,f,by rw[e1,e2]⟩
theorem gh{S:Addr->Prop}{H:Hp}{xs:List V}{d:PyData}{ds:List PyData}(r:IsThs S H xs (d::ds))(e:dh d=true):∃i t,xs=.int i::t/\d=.int i/\IsThs S H t ds:=by
 cases r with
 |cons h1 r=>
  obtain⟨i,rfl,rfl⟩:=jR h1 e;exact⟨i,_,rfl,rfl,r⟩
theorem nj{S:Addr->Prop}{H:Hp}{xs:List V}{d:PyData}{ds:List PyData}(r:IsThs S H xs (d::ds)):∃v t,xs=v::t/\IsTh S H v d/\IsThs S H t ds:=by
 cases r with
 |cons h1 r=>exact⟨_,_,rfl,h1,r⟩
theorem yK{S:Addr->Prop}{H:Hp}{xs:List V}{ds:List PyData}(r:IsThs S H xs ds)(hl:ds.length=3):∃v0 v1 v2 d0 d1 d2,xs=[v0,v1,v2]/\ds=[d0,d1,d2]/\IsTh S H v0 d0/\IsTh S H v1 d1/\IsTh S H v2 d2:=by
 obtain⟨d0,l1,e1,h1⟩:=jz hl;obtain⟨d1,l2,e2,h2⟩:=jz h1;obtain⟨d2,l3,e3,h3⟩:=jz h2;have e:ds=[d0,d1,d2]:=by rw[e1,e2,e3,List.length_eq_zero_iff.mp h3]
 subst e;obtain⟨v0,t0,f0,i0,r0⟩:=nj r;obtain⟨v1,t1,f1,i1,r1⟩:=nj r0;obtain⟨v2,t2,f2,i2,r2⟩:=nj r1;cases r2;exact⟨v0,v1,v2,d0,d1,d2,by rw[f0,f1,f2],rfl,i0,i1,i2⟩
theorem Ar{S:Addr->Prop}{H:Hp}{xs:List V}{ds:List PyData}(r:IsThs S H xs ds)(hl:ds.length=6)(hw:∀x∈ds,dh x=true):
  ∃i1 i2 i3 i4 i5 i6:Int,xs=[.int i1,.int i2,.int i3,.int i4,.int i5,.int i6]/\ds=[.int i1,.int i2,.int i3,.int i4,.int i5,.int i6]:=by
 obtain⟨d1,d2,d3,d4,d5,d6,rfl⟩:=Jp hl;obtain⟨i1,t1,e1,rfl,r1⟩:=gh r (hw _ Zy);obtain⟨i2,t2,e2,rfl,r2⟩:=gh r1 (hw _ Zy);obtain⟨i3,t3,e3,rfl,r3⟩:=gh r2 (hw _ Zy);obtain⟨i4,t4,e4,rfl,r4⟩:=gh r3 (hw _ Zy);obtain⟨i5,t5,e5,rfl,r5⟩:=gh r4 (hw _ Zy);obtain⟨i6,t6,e6,rfl,r6⟩:=gh r5 (hw _ Zy);cases r6;exact⟨i1,i2,i3,i4,i5,i6,by rw[e1,e2,e3,e4,e5,e6],rfl⟩
theorem yL{ds:List PyData}{n m:Int}(h:bA (.tuple ds) n m=true):n<=(ds.length:Int)/\(ds.length:Int)<=m:=by
 have h:(true&&(decide (n<=(ds.length:Int))&&decide ((ds.length:Int)<=m)))=true:=h;rw[Bool.true_and,zAc]at h;exact⟨zB6 h.1,zB6 h.2⟩
def Cal(P:Program)(w:World)(K:Frag)(mg:Str->Option Value)(base:Heap)(k:Nat)(x:Str)(ps:List Str)(sp:Sp):Prop:=
 ∃f fd,FnOk P w K mg base CX0 k f fd ps sp/\mg x=some (.ref f)/\PySem.W.keepIn K (.ref f)=true/\Binds K fd ps []
theorem aK{X:Cx}{k j:Nat}{x:Str}{ps:List Str}{sp:Sp}{p pos:Pos}{e:Expr}{es:List Expr}{t:TA}(c:Cal X.prog X.w X.K X.mg X.base j x ps sp)(hr:Room k X.A)(ha:PA X (e::es) t)(NJ:j<=k:=by decide)(hg:Gl X x:=by exact rfl)
  (qr:(x==("__debug__":Str))=false:=by decide) (he:starEach (e::es) X.env=(false,eval e X.env)::starEach es X.env:=by rfl) (nS:(backTo pos (starEach es X.env)).any (·.1)=false:=by rfl):
  PE X (.Call (.Name x p) (e::es) [] pos) (Ft sp [] E0 t):=by
 obtain⟨f,fd,F,hm,hk,hb⟩:=c;exact Dh F (hr.mono NJ) hg hm hk hb .nil J1 ha qr he nS
variable{P:Program}{w:World}{K:Frag}{mg:Str->Option Value}{base:Heap}{f:Addr}{fd:FuncData}
theorem sc1:FnScope ["thing"] ["thing"] (aM (top 10)):=fQS
theorem ug(F:Fun K "is_whole" "is_whole" (top 10) f fd)(T:Mg mg):FnOk P w K mg base CX0 1 f fd ["thing"] (spT dh):=by
 refine F.ok sc1 (fun vs H Q E h=>?_) (fun ax A outer s H vs Q E hr h=>?_)
 .obtain⟨S,v,d,rfl,_⟩:=h;rfl
 .obtain⟨S,v,d,rfl,th,hz,q⟩:=h
  refine⟨_,aD (aQ (cA (aP gR rfl T.isinstance boot_isinstance (aR (pv 0) (aR (qz rfl T.int boot_int (v:=.ty "int") rfl) ao)))
   (dM (Gq (aP gR rfl T.isinstance boot_isinstance (aR (pv 0) (aR (qz rfl T.bool boot_bool (v:=.ty "bool") rfl) ao))))))),?_⟩
  refine⟨_,rfl,v,_,"int",qR d,rfl,th.ty,Ds d,_,rfl,?_⟩;have fin:=q H (Same.refl H);unfold dh at fin
  cases e:qR d with
  |false=>
   rw[e]at fin;exact bO fin
  |true=>
   rw[e]at fin;exact bV ⟨_,rfl,v,_,"bool",qT d,rfl,th.ty,zU d,_,rfl,fin⟩
theorem sc2:FnScope ["thing","fewest","most"] ["thing","fewest","most"] (aM (top 12)):=fQS
theorem nq(F:Fun K "is_tuple_of" "is_tuple_of" (top 12) f fd)(T:Mg mg):FnOk P w K mg base CX0 1 f fd ["thing","fewest","most"] (lB bA):=by
 refine F.ok sc2 (fun vs H Q E h=>?_) (fun ax A outer s H vs Q E hr h=>?_)
 .obtain⟨S,v,d,n,m,rfl,_⟩:=h;rfl
 .obtain⟨S,v,d,n,m,rfl,th,hz,q⟩:=h
  refine⟨_,aD (aQ (cA (aP gR rfl T.isinstance boot_isinstance (aR (pv 0) (aR (qz rfl T.tuple boot_tuple (v:=.ty "tuple") rfl) ao)))
   (dM (cR bJ bJ (pv 1) (aP bC rfl T.len PySem.boot_len (aR (pv 0) ao)) (pv 2))))),?_⟩
  refine⟨_,rfl,v,_,"tuple",qU d,rfl,th.ty,Dt d,_,rfl,?_⟩;have fin:=q H (Same.refl H);unfold bA at fin
  cases e:qU d with
  |false=>
   rw[e]at fin;exact bO fin
  |true=>
   rw[e]at fin;refine bV ?_
   cases th with
   |@tup a xs ds ea r=>
    have hl:=r.length;refine⟨_,rfl,_,rfl,a,xs,rfl,.inr (SqT.of ea),_,_,rfl,rfl,_,rfl,?_⟩;rw[hl];have fin:Q (.bl (true&&(decide (n<=(ds.length:Int))&&decide ((ds.length:Int)<=m)))) H:=fin
    cases e1:decide (n<=(ds.length:Int))with
    |false=>
     rw[e1]at fin;exact bO fin
    |true=>
     rw[e1]at fin;exact bV ⟨_,rfl,_,_,rfl,rfl,fin⟩
   |_=>cases e
theorem sc3:FnScope ["thing","many"] ["thing","many"] (aM (top 13)):=fQS
theorem oH(F:Fun K "are_wholes" "are_wholes" (top 13) f fd)(T:Mg mg)(c1:Cal P w K mg base 1 "is_whole" ["thing"] (spT dh))(c2:Cal P w K mg base 1 "is_tuple_of" ["thing","fewest","most"] (lB bA)):
  FnOk P w K mg base CX0 2 f fd ["thing","many"] (Aq bw):=by
 refine F.ok sc3 (fun vs H Q E h=>?_) (fun ax A outer s H vs Q E hr h=>?_)
 .obtain⟨S,v,d,n,rfl,_⟩:=h;rfl
 .obtain⟨S,v,d,n,rfl,th,hz,q⟩:=h
  refine⟨_,aD (aQ (cA (aK c2 hr (aR (pv 0) (aR (pv 1) (aR (pv 1) ao))))
   (dM (aP (dW rfl) rfl T.all boot_all (aR (bG ["part"] [none] rfl (fU (pv 0))
    (fun C fp Zt s₂ H₂=>⟨bf (i:=0) (nd1 _) rfl (Or.inl rfl),bu,aK c1 hr (aR (pv 0) ao)⟩) (fun C=>trivial) ⟨rfl,rfl,rfl,rfl⟩) ao))))),?_⟩
  refine⟨_,rfl,_,rfl,_,rfl,S,v,d,n,n,rfl,th,hz,fun H1 s1=>⟨_,rfl,?_⟩⟩;have fT:=th.same s1
  cases e:bA d n n with
  |false=>
   refine bO ?_;have fin:=q H1 s1;unfold bw at fin;rw[e]at fin;exact fin
  |true=>
   refine bV ?_
   cases fT with
   |@tup a xs ds ea r=>
    have ew:bw (.tuple ds) n=ds.all dh:=by unfold bw;rw[e];rfl
    refine dw dh rfl ea r (fu r hz) (fun v d H2 Q2 hm s2 t2 q2=>⟨_,rfl,S,v,d,rfl,t2,jy hm hz,q2⟩) fun H2 s2=>?_;rw[<-ew];exact q _ (s1.trans s2)
   |_=>cases e
theorem sc13:FnScope ["thing"] ["thing"] (aM (top 24)):=fQS
theorem vC(F:Fun K "is_clip" "is_clip" (top 24) f fd)(T:Mg mg)(N:Nums mg)(c1:Cal P w K mg base 2 "are_wholes" ["thing","many"] (Aq bw)):
  FnOk P w K mg base CX0 3 f fd ["thing"] (spT pR):=by
 refine F.ok sc13 (fun vs H Q E h=>?_) (fun ax A outer s H vs Q E hr h=>?_)
 .obtain⟨S,v,d,rfl,_⟩:=h;rfl
 .obtain⟨S,v,d,rfl,th,hz,q⟩:=h;obtain⟨t3,e3⟩:=N.sorts;obtain⟨t9,e9⟩:=N.wool
  refine⟨_,aD (aQ (cA (aK c1 hr (aR (pv 0) (aR (bM (v:=.int 3) rfl e3 ⟨_,rfl⟩) ao)))
   (dM (aP (dW rfl) rfl T.all boot_all (aR (bG ["sacks"] [none] rfl (fU (pv 0))
    (fun C fp Zt s₂ H₂=>⟨bf (i:=0) (nd1 _) rfl (Or.inl rfl),bu,cR bJ bJ aB (pv 0) (bM (v:=.int 999) rfl e9 ⟨_,rfl⟩)⟩) (fun C=>trivial) ⟨rfl,rfl,rfl,rfl⟩) ao))))),?_⟩
  refine⟨_,rfl,S,v,d,3,rfl,th,hz,fun H1 s1=>⟨_,rfl,?_⟩⟩;have fT:=th.same s1;have fin:=fun H' (s:Same H H')=>q H' s;unfold pR at fin
  cases e:bw d 3 with
  |false=>
   rw[e]at fin;exact bO (fin _ s1)
  |true=>
   rw[e]at fin;refine bV ?_;obtain⟨e1,e2⟩:=jQ e
   cases fT with
   |@tup a xs ds ea r=>
    refine dw (fun x=>decide (0<=intOf x)&&decide (intOf x<=999)) rfl ea r (fu r hz) (fun v d H2 Q2 hm s2 t2 q2=>?_) fun H2 s2=>fin _ (s1.trans s2);obtain⟨i,rfl,rfl⟩:=jR t2 (e2 d hm);refine⟨_,rfl,_,_,rfl,rfl,_,rfl,?_⟩;have q3:=q2 H2 (Same.refl _);show if decide ((0:Int)<=i)=true then _ else _
    cases e5:decide ((0:Int)<=i)with
    |false=>
     refine bO ?_;have q3:Q2 (.bl (decide ((0:Int)<=i)&&decide (i<=999))) H2:=q3;rw[e5]at q3;exact q3
    |true=>
     refine bV ⟨_,_,rfl,rfl,?_⟩;have q3:Q2 (.bl (decide ((0:Int)<=i)&&decide (i<=999))) H2:=q3;rw[e5]at q3;exact q3
   |_=>cases e1
theorem sc14:FnScope ["thing"] ["thing"] (aM (top 25)):=fQS
theorem rJ(F:Fun K "are_clips" "are_clips" (top 25) f fd)(T:Mg mg)(N:Nums mg)(c1:Cal P w K mg base 3 "is_clip" ["thing"] (spT pR))(c2:Cal P w K mg base 1 "is_tuple_of" ["thing","fewest","most"] (lB bA)):
  FnOk P w K mg base CX0 4 f fd ["thing"] (spT ig):=by
 refine F.ok sc14 (fun vs H Q E h=>?_) (fun ax A outer s H vs Q E hr h=>?_)
 .obtain⟨S,v,d,rfl,_⟩:=h;rfl
 .obtain⟨S,v,d,rfl,th,hz,q⟩:=h;obtain⟨t3,e3⟩:=N.clips
  refine⟨_,aD (aQ (cA (aK c2 hr (aR (pv 0) (aR aB (aR (bM (v:=.int 20) rfl e3 ⟨_,rfl⟩) ao))))
   (dM (aP (dW rfl) rfl T.all boot_all (aR (bG ["part"] [none] rfl (fU (pv 0))
    (fun C fp Zt s₂ H₂=>⟨bf (i:=0) (nd1 _) rfl (Or.inl rfl),bu,aK c1 hr (aR (pv 0) ao)⟩) (fun C=>trivial) ⟨rfl,rfl,rfl,rfl⟩) ao))))),?_⟩
  refine⟨_,rfl,S,v,d,1,20,rfl,th,hz,fun H1 s1=>⟨_,rfl,?_⟩⟩;have fT:=th.same s1;have fin:=fun H' (s:Same H H')=>q H' s;unfold ig at fin
  cases e:bA d 1 20 with
  |false=>
   rw[e]at fin;exact bO (fin _ s1)
  |true=>
   rw[e]at fin;refine bV ?_
   cases fT with
   |@tup a xs ds ea r=>exact dw pR rfl ea r (fu r hz) (fun v d H2 Q2 hm s2 t2 q2=>⟨_,rfl,S,v,d,rfl,t2,jy hm hz,q2⟩) fun H2 s2=>fin _ (s1.trans s2)
   |_=>cases e
theorem sc15:FnScope ["thing","holder","sort","first","last","sacks","price"] ["thing"] (aM (top 26)):=fQS
theorem oJ(F:Fun K "is_promise" "is_promise" (top 26) f fd)(T:Mg mg)(N:Nums mg)(c1:Cal P w K mg base 2 "are_wholes" ["thing","many"] (Aq bw)):
  FnOk P w K mg base CX0 3 f fd ["thing"] (spT jx):=by
 refine F.ok sc15 (fun vs H Q E h=>?_) (fun ax A outer s H vs Q E hr h=>?_)
 .obtain⟨S,v,d,rfl,_⟩:=h;rfl
 .obtain⟨S,v,d,rfl,th,hz,q⟩:=h;obtain⟨t1,e1⟩:=N.holders;obtain⟨t2,e2⟩:=N.sorts;obtain⟨t3,e3⟩:=N.year;obtain⟨t4,e4⟩:=N.sacks;obtain⟨t5,e5⟩:=N.price
  refine⟨_,aA (cQ (cP (dZ (aK c1 hr (aR (pv 0) (aR aB ao))))) (aD (aQ j8)) bB)
   (aA (cG (pv 0) (bK rfl (aq (pgn 1 sc15.nd) (aq (pgn 2 sc15.nd) (aq (pgn 3 sc15.nd)
    (aq (pgn 4 sc15.nd) (aq (pgn 5 sc15.nd) (aq (pgn 6 sc15.nd) aX))))))))
   (aD (aQ (cA (cR bJ km aB (pv 1) (bM (v:=.int 8) rfl e1 ⟨_,rfl⟩)) (cA (cR bJ km aB (pv 2) (bM (v:=.int 3) rfl e2 ⟨_,rfl⟩))
    (cA (yq bJ bJ bJ aB (pv 3) (pv 4) (bM (v:=.int 19) rfl e3 ⟨_,rfl⟩)) (cA (cR bJ bJ aB (pv 5) (bM (v:=.int 99) rfl e4 ⟨_,rfl⟩))
     (dM (cR bJ bJ aB (pv 6) (bM (v:=.int 1000000) rfl e5 ⟨_,rfl⟩)))))))))),?_⟩
  refine⟨_,rfl,S,v,d,6,rfl,th,hz,fun H1 s1=>⟨_,rfl,?_⟩⟩;have fT:=th.same s1;have fin:=fun H' (s:Same H H')=>q H' s;unfold jx at fin
  cases e:bw d 6 with
  |false=>
   rw[e]at fin;exact bV (fin _ s1)
  |true=>
   rw[e]at fin;refine bO ?_;obtain⟨z1,z2⟩:=jQ e
   cases fT with
   |@tup a xs ds ea r=>
    have hl:ds.length=6:=by
     have:=yL z1;lia
    obtain⟨i1,i2,i3,i4,i5,i6,rfl,rfl⟩:=Ar r hl z2;refine⟨_,rfl,a,_,rfl,SqT.of ea,rfl,_,_,rfl,_,_,rfl,_,_,rfl,_,_,rfl,_,_,rfl,_,_,rfl,rfl,?_⟩;refine gW (bR eV (du rfl) eV) (fun _=>gW (bR eV (du rfl) eV) fun _=>gW (yt eV (du rfl) (du rfl) eV) fun _=>gW (bR eV (du rfl) eV) fun _=>bR eV (du rfl) eV) _ ?_;exact fin H1 s1
   |_=>cases z1
theorem Km:FnScope ["thing"] ["thing"] (aM (top 27)):=fQS
theorem lD(F:Fun K "are_promises" "are_promises" (top 27) f fd)(T:Mg mg)(N:Nums mg)(c1:Cal P w K mg base 3 "is_promise" ["thing"] (spT jx))(c2:Cal P w K mg base 1 "is_tuple_of" ["thing","fewest","most"] (lB bA)):
  FnOk P w K mg base CX0 4 f fd ["thing"] (spT eG):=by
 refine F.ok Km (fun vs H Q E h=>?_) (fun ax A outer s H vs Q E hr h=>?_)
 .obtain⟨S,v,d,rfl,_⟩:=h;rfl
 .obtain⟨S,v,d,rfl,th,hz,q⟩:=h;obtain⟨t3,e3⟩:=N.proms
  refine⟨_,aD (aQ (cA (aK c2 hr (aR (pv 0) (aR aB (aR (bM (v:=.int 10) rfl e3 ⟨_,rfl⟩) ao))))
   (dM (aP (dW rfl) rfl T.all boot_all (aR (bG ["part"] [none] rfl (fU (pv 0))
    (fun C fp Zt s₂ H₂=>⟨bf (i:=0) (nd1 _) rfl (Or.inl rfl),bu,aK c1 hr (aR (pv 0) ao)⟩) (fun C=>trivial) ⟨rfl,rfl,rfl,rfl⟩) ao))))),?_⟩
  refine⟨_,rfl,S,v,d,0,10,rfl,th,hz,fun H1 s1=>⟨_,rfl,?_⟩⟩;have fT:=th.same s1;have fin:=fun H' (s:Same H H')=>q H' s;unfold eG at fin
  cases e:bA d 0 10 with
  |false=>
   rw[e]at fin;exact bO (fin _ s1)
  |true=>
   rw[e]at fin;refine bV ?_
   cases fT with
   |@tup a xs ds ea r=>exact dw jx rfl ea r (fu r hz) (fun v d H2 Q2 hm s2 t2 q2=>⟨_,rfl,S,v,d,rfl,t2,jy hm hz,q2⟩) fun H2 s2=>fin _ (s1.trans s2)
   |_=>cases e
def oK(d:PyData)(lo hi:Int):Bool:=dh d&&(decide (lo<=intOf d)&&decide (intOf d<=hi))
def eZ(H:Hp)(st:Addr):Prop:=∃a b:Int,H st=some (.lst [.int a,.int b])/\0<=a/\0<=b/\b<4294967296
def But(st:Addr)(H H':Hp):Prop:=∀b o,H b=some o->b≠st->H' b=some o
inductive SpCellI(K:Frag)(vs:List V)(H:Hp)(Q:VK):Prop
 |mk:∀(a:Addr) (ns:List Int) (k:Int),(vs=[.ref a,.int k])->(SqL K H a (ns.map V.int))->(0<=k)->(∀i,Q (.int i) H)->SpCellI K vs H Q
def Av(K:Frag):Sp:=fun vs H Q _=>SpCellI K vs H Q
inductive SpStateI(K:Frag)(vs:List V)(H:Hp)(Q:VK):Prop
 |mk:∀(a:Addr) (ns:List Int) (k:Int),(vs=[.ref a,.int k])->(SqL K H a (ns.map V.int))->(0<=k)->(∀(p:Addr) (x y:Int),H p=none->0<=x->0<=y->y<4294967296->Q (.ref p) (upd H p (.lst [.int x,.int y])))->SpStateI K vs H Q
def wU(K:Frag):Sp:=fun vs H Q _=>SpStateI K vs H Q
inductive SpTakeI(vs:List V)(H:Hp)(Q:VK):Prop
 |mk:∀(st:Addr) (n:Int),(vs=[.ref st,.int n])->(eZ H st)->(1<=n)->(n<1073741824)->(∀r a' b':Int,0<=r->r<n->0<=a'->0<=b'->b'<4294967296->Q (.int r) (upd H st (.lst [.int a',.int b'])))->SpTakeI  vs H Q
def iV:Sp:=fun vs H Q _=>SpTakeI  vs H Q
theorem Ko:FnScope ["_law_script","_law_k"] ["_law_script","_law_k"] (aM (top 66)):=fQS
theorem DR(F:Fun K "_law_cell_at" "_law_cell_at" (top 66) f fd)(T:Mg mg):FnOk P w K mg base CX0 1 f fd ["_law_script","_law_k"] (Av K):=by
 refine F.ok Ko (fun vs H Q E h=>?_) (fun ax A outer s H vs Q E hr h=>?_)
 .obtain⟨a,ns,k,rfl,_⟩:=h;rfl
 .obtain⟨a,ns,k,rfl,hS,h0,q⟩:=h;refine⟨_,aA (cQ (bN km (pv 1) (aP bC rfl T.len PySem.boot_len (aR (pv 0) ao)) (bQ _)) (aD (aQ (pX c7 (pv 0) (pv 1)))) bB) (aD (aQ aB)),?_⟩;refine⟨_,rfl,_,rfl,a,_,rfl,.inl hS,_,_,rfl,rfl,_,rfl,?_⟩;refine Dn (fun c=>?_) (fun _=>q 0);have c:=zB6 c;rw[zA1]at c;have hk:k.toNat<ns.length:=Zz
  refine⟨_,rfl,_,rfl,a,_,k,.int ns[k.toNat],rfl,rfl,hS,?_,q _⟩;have e:(ns.map V.int)[k.toNat]?=some (.int ns[k.toNat]):=by rw[zAb,zA0 hk];rfl
  have:=di e;rw[show((k.toNat:Nat):Int)=k by lia]at this;exact this
theorem sc19:FnScope ["_law_script","_law_k","_law_cell"] ["_law_script","_law_k"] (aM (top 67)):=fQS
theorem Aw(F:Fun K "_law_state" "_law_state" (top 67) f fd)(c1:Cal P w K mg base 1 "_law_cell_at" ["_law_script","_law_k"] (Av K)):FnOk P w K mg base CX0 2 f fd ["_law_script","_law_k"] (wU K):=by
 refine F.ok sc19 (fun vs H Q E h=>?_) (fun ax A outer s H vs Q E hr h=>?_)
 .obtain⟨a,ns,k,rfl,_⟩:=h;rfl
 .obtain⟨a,ns,k,rfl,hS,h0,q⟩:=h
  refine⟨_,aA (pss 2 sc19.nd (aK c1 hr (aR (pv 0) (aR (pv 1) ao))))
   (aA (cQ (bN wg (pv 2) (aV uR aB aB) (bQ _)) (aD (aQ (cj (au (aV eF (pv 2) (aV uR aB aB)) (au (aV bj (aV fV (pv 2) aB) aB) ao))))) bB)
   (aD (aQ (cj (au aB (au (aV bj (aV fV (pv 2) aB) aB) ao)))))),?_⟩
  refine⟨_,rfl,_,rfl,a,ns,k,rfl,hS,h0,fun c=>?_⟩;refine⟨_,rfl,_,_,rfl,rfl,⟨by decide,by decide,by decide⟩,_,_,rfl,rfl,_,rfl,?_⟩;refine Dn (fun hc=>?_) (fun _=>?_)
  .have hc:=zB6 hc;refine⟨_,rfl,_,_,rfl,rfl,⟨by decide,by decide,by decide⟩,_,_,rfl,rfl,_,rfl,_,_,rfl,rfl,(by show(0:Int)<2147483629;decide),_,_,rfl,rfl,zL,fun p hp=>?_⟩;refine q p _ _ hp ?_ ?_ ?_
   .show 0<=c-(10:Int)^18;have hc:(10:Int)^18<=c:=hc;lia
   .show 0<=c % 2147483629+1;lia
   .show c % 2147483629+1<4294967296;lia
  .refine⟨_,rfl,_,_,rfl,rfl,(by show(0:Int)<2147483647;decide),_,_,rfl,rfl,zL,fun p hp=>?_⟩;refine q p _ _ hp (Int.le_refl 0) ?_ ?_
   .show 0<=c % 2147483647+1;lia
   .show c % 2147483647+1<4294967296;lia
theorem sc20:FnScope ["_law_state_here","_law_many","_law_found","_law_stirred"] ["_law_state_here","_law_many"] (aM (top 68)):=fQS
theorem DW(F:Fun K "_law_take" "_law_take" (top 68) f fd):FnOk P w K mg base CX0 1 f fd ["_law_state_here","_law_many"] iV:=by
 refine F.ok sc20 (fun vs H Q E h=>?_) (fun ax A outer s H vs Q E hr h=>?_)
 .obtain⟨st,n,rfl,_⟩:=h;rfl
 .obtain⟨st,n,rfl,⟨a,b,es,ha,hb,kx⟩,h1,h2,q⟩:=h
  refine⟨_,aA (cQ (bN mj (pX c7 (pv 0) aB) aB (bQ _))
    (aA (pss 2 sc20.nd (aV fV (pX c7 (pv 0) aB) (pv 1)))
     (aA (cG (aV qF (pX c7 (pv 0) aB) (pv 1)) (qC (pv 0) aB set_list)) (aD (aQ (pv 2))))) bB)
   (aA (cG (aV fV (aV bj (aV gQ (pX c7 (pv 0) aB) aB) aB) aB) (qC (pv 0) aB set_list))
   (aA (pss 3 sc20.nd (aV fV (aV bj (aV bj (aV gQ (pX c7 (pv 0) aB) (pX c7 (pv 0) aB)) (aV gQ aB (pX c7 (pv 0) aB))) aB) aB))
   (aA (pss 3 sc20.nd (aV fV (aV bj (aV bj (aV gQ (pv 3) (pv 3)) (aV gQ aB (pv 3))) aB) aB))
   (aD (aQ (aV fV (aV qF (pv 3) aB) (pv 1))))))),?_⟩
  refine⟨_,rfl,st,_,0,.int a,rfl,rfl,SqL.of es,rfl,_,_,rfl,rfl,_,rfl,?_⟩;refine Dn (fun hc=>?_) (fun _=>?_)
  .refine⟨_,rfl,st,_,0,.int a,rfl,rfl,SqL.of es,rfl,_,rfl,_,_,rfl,rfl,(by show 0<n;lia),?_⟩;refine⟨_,rfl,st,_,0,.int a,rfl,rfl,SqL.of es,rfl,_,rfl,_,_,rfl,rfl,⟨Zz,h2⟩,_,rfl,st,_,0,0,rfl,rfl,es,rfl,_,rfl,?_⟩;exact q (a % n) (a / n) b (Int.emod_nonneg a Zz) (Int.emod_lt_of_pos a Zz) (Int.ediv_nonneg ha Zz) hb kx
  .refine⟨_,rfl,st,_,1,.int b,rfl,rfl,SqL.of es,rfl,_,_,rfl,rfl,.inl ⟨Zz,Zz⟩,_,_,rfl,rfl,_,_,rfl,rfl,(by show(0:Int)<2147483647;decide),_,rfl,st,_,1,1,rfl,rfl,es,rfl,?_⟩;have KI:0<=(b*48271+29) % 2147483647:=Int.emod_nonneg _ Zx;have NK:(b*48271+29) % 2147483647<2147483647:=Int.emod_lt_of_pos _ Zx
   obtain⟨m,hm⟩:∃m,m=(b*48271+29) % 2147483647:=⟨_,rfl⟩
   rw[<-hm]at KI NK;have eL:([V.int a,V.int b].set 1 ((fun i j:Int=>V.int (i % j)) (b*48271+29) 2147483647))=[V.int a,V.int m]:=by rw[hm];rfl
   rw[eL];have gX:upd H st (.lst [.int a,.int m]) st=some (.lst [.int a,.int m]):=aj;refine⟨_,rfl,st,_,1,.int m,rfl,rfl,SqL.of gX,rfl,_,rfl,st,_,1,.int m,rfl,rfl,SqL.of gX,rfl,_,_,rfl,rfl,.inl ⟨Zz,Zz⟩,_,rfl,st,_,1,.int m,rfl,rfl,SqL.of gX,rfl,_,_,rfl,rfl,.inl ⟨by decide,by decide⟩,_,_,rfl,rfl,_,_,rfl,rfl,_,_,rfl,rfl,(by show(0:Int)<2147483629;decide),?_⟩;have D5:0<=(m*m+39373*m+7) % 2147483629:=Int.emod_nonneg _ Zx;have rS:(m*m+39373*m+7) % 2147483629<2147483629:=Int.emod_lt_of_pos _ Zx;refine⟨_,rfl,_,rfl,_,_,rfl,rfl,.inl ⟨Int.lt_of_lt_of_le Zx D5,Int.lt_trans rS Zx⟩,_,rfl,_,_,rfl,rfl,.inl ⟨by decide,by decide⟩,_,_,rfl,rfl,_,_,rfl,rfl,_,_,rfl,rfl,(by show(0:Int)<2147483587;decide),?_⟩;refine⟨_,rfl,_,_,rfl,rfl,⟨by decide,by decide⟩,_,rfl,_,_,rfl,rfl,(by show 0<n;lia),?_⟩;exact q _ a m (Int.emod_nonneg _ Zz) (Int.emod_lt_of_pos _ Zz) ha KI Zz
theorem fB{X:Cx}{K:Frag}(hK:X.K=K):IxR X (IV K):=by
 subst hK;exact c7
theorem Kp:(["_law_sort","_law_state_here","_law_wide"]:List Str).Nodup:=by decide +kernel
theorem sc21:FnScope ["_law_state_here","_law_most","_law_wide","_law_found","_law_turn"] ["_law_state_here","_law_most"] (aM (top 70)):=fQS
structure Mk3(st p3:Addr)(xs:List V)(ds:List PyData)(H H':Hp):Prop where
 bt:But st H H'
 sa:eZ H' st
 e3:H' p3=some (.lst xs)
 ts:IsThs (fun _=>False) H' xs ds
theorem Mk3.take{st p3:Addr}{xs:List V}{ds:List PyData}{H H':Hp}(g:Mk3 st p3 xs ds H H')(np:p3≠st){a b:Int}(h1:0<=a)(h2:0<=b)(h3:b<4294967296):Mk3 st p3 xs ds H (upd H' st (.lst [.int a,.int b])):=by
 refine⟨fun b' o' e' ne=>?_,⟨a,b,aj,h1,h2,h3⟩,by rw[az np];exact g.e3,g.ts.keep (fun c l e=>?_) (fun _ _ z _=>z.elim) fun _ _ z _=>z.elim⟩
 .rw[az ne];exact g.bt b' o' e' ne
 .obtain⟨x,y,e7,_⟩:=g.sa
  have:c≠st:=fun z=>by
   rw[z,e7]at e;cases e
  rw[az this];exact e
theorem Mk3.new{st p3 p:Addr}{xs:List V}{ds:List PyData}{H H':Hp}{o:HO}(g:Mk3 st p3 xs ds H H')(hp:H' p=none):Mk3 st p3 xs ds H (upd H' p o):=by
 obtain⟨x,y,e7,k⟩:=g.sa;exact⟨fun b' o' e' ne=>Same.upd hp _ _ (g.bt b' o' e' ne),⟨x,y,Same.upd hp _ _ e7,k⟩,Same.upd hp _ _ g.e3,g.ts.same (Same.upd hp)⟩
theorem boot_min:bootBuiltins "min"=some (.builtin "min"):=by decide +kernel
theorem sc22:FnScope ["_law_state_here","_law_most","_law_years","_law_found","_law_wide","_law_turn","_law_first","_law_last","_law_price","_law_holder"] ["_law_state_here","_law_most","_law_years"] (aM (top 71)):=fQS
structure Dr(st:Addr)(H H':Hp):Prop where
 bt:But st H H'
 sa:eZ H' st
theorem But.refl{st:Addr}{H:Hp}:But st H H:=fun _ _ e _=>e
theorem Dr.same{st:Addr}{H H1 H2:Hp}(g:Dr st H H1)(s:Same H1 H2):Dr st H H2:=by
 obtain⟨a,b,e,k⟩:=g.sa;exact⟨fun b' o' e' ne=>s _ _ (g.bt b' o' e' ne),a,b,s _ _ e,k⟩
theorem Dr.trans{st:Addr}{H H1 H2:Hp}(g:Dr st H H1)(g':Dr st H1 H2):Dr st H H2:=⟨fun b' o' e' ne=>g'.bt _ _ (g.bt b' o' e' ne) ne,g'.sa⟩
theorem Dr.take{st:Addr}{H H1:Hp}(g:Dr st H H1){a b:Int}(h1:0<=a)(h2:0<=b)(h3:b<4294967296):Dr st H (upd H1 st (.lst [.int a,.int b])):=
 ⟨fun b' o' e' ne=>by rw[az ne];exact g.bt b' o' e' ne,a,b,aj,h1,h2,h3⟩
theorem Dr.new{st p:Addr}{o:HO}{H H1:Hp}(g:Dr st H H1)(hp:H1 p=none):Dr st H (upd H1 p o):=g.same (Same.upd hp)
theorem Dr.ne{st p:Addr}{H H1:Hp}(g:Dr st H H1)(hp:H1 p=none):p≠st:=fun z=>by
 obtain⟨a,b,e,_⟩:=g.sa;rw[z,e]at hp;cases hp
theorem Dr.put{st p:Addr}{o:HO}{H H1:Hp}(g:Dr st H H1)(hp:H p=none)(np:p≠st):Dr st H (upd H1 p o):=by
 obtain⟨a,b,e,k⟩:=g.sa;refine⟨fun b' o' e' ne=>?_,a,b,by rw[az np.symm];exact e,k⟩;rw[az (aC e' hp)];exact g.bt b' o' e' ne
def cT(r:List Int):PyData:=.tuple (r.map .int)
def bY(rs:List (List Int)):PyData:=.tuple (rs.map cT)
def fl(r:List Int)(i:Nat):Int:=r.getD i 0
def okP(r:List Int):Prop:=r.length=6/\(0<=fl r 0/\fl r 0<8)/\(0<=fl r 1/\fl r 1<3)/\(0<=fl r 2/\fl r 2<=fl r 3/\fl r 3<=19)/\(1<=fl r 4/\fl r 4<=99)/\(0<=fl r 5/\fl r 5<=1000000)
def eO(d:PyData):Bool:=bA d 0 12&&(items d).all fun x=>bw x 5
def rowsOf(d:PyData):List (List Int):=(items d).map fun x=>(items x).map intOf
theorem Ax:∀{ds:List PyData},(∀x∈ds,dh x=true)->ds=(ds.map intOf).map PyData.int
 |[],_=>rfl
 |d::ds,h=>by
  rw[zAk,zAk,<-Ax fun x hx=>h x (List.mem_cons_of_mem _ hx)];have:=h d List.mem_cons_self
  cases d with
  |int i=>rfl
  |_=>cases this
theorem iW{x:PyData}{n:Nat}(h:bw x n=true):x=cT ((items x).map intOf)/\((items x).map intOf).length=n:=by
 obtain⟨h1,h2⟩:=jQ h;unfold bA at h1;rw[zAc,zAc,Zq,Zq]at h1;obtain⟨ht,fN,iS⟩:=h1
 cases x with
 |tuple ds=>
  have fN:(n:Int)<=ds.length:=fN;have iS:(ds.length:Int)<=n:=iS;refine⟨?_,by show(ds.map intOf).length=n;rw[zA1];lia⟩;exact congrArg PyData.tuple (Ax h2)
 |_=>cases ht
theorem wV{ds:List PyData}{n:Nat}(h:∀x∈ds,bw x n=true):ds=(ds.map fun x=>(items x).map intOf).map cT:=by
 induction ds with
 |nil=>rfl
 |cons d ds ih=>
  rw[zAk,zAk,<-ih fun x hx=>h x (List.mem_cons_of_mem _ hx),<-(iW (h d List.mem_cons_self)).1]
theorem jT{d:PyData}{f m:Int}(h:bA d f m=true):∃ds,d=.tuple ds/\f<=ds.length/\(ds.length:Int)<=m:=by
 unfold bA at h;rw[zAc,zAc,Zq,Zq]at h
 cases d with
 |tuple ds=>exact⟨ds,rfl,h.2⟩
 |_=>cases h.1
theorem pU(r:List Int)(i:Nat)(h:i<r.length):at_ (cT r) i=fl r i:=by
 show intOf ((r.map PyData.int).getD i .none)=r.getD i 0;rw[zA7,zA7,zAb,zA0 h];rfl
theorem vD{d:PyData}(h:eG d=true):d=bY (rowsOf d)/\(rowsOf d).length<=10/\∀r∈rowsOf d,okP r:=by
 unfold eG at h;rw[zAc]at h;obtain⟨ds,rfl,_,hl⟩:=jT h.1;have h2:∀x∈ds,jx x=true:=List.all_eq_true.mp h.2
 have h3:∀x∈ds,bw x 6=true:=fun x hx=>by
  have:=h2 x hx;unfold jx at this;rw[zAc]at this;exact this.1
 refine⟨congrArg PyData.tuple (wV (n:=6) h3),by show(ds.map _).length<=10;rw[zA1];lia,fun r hr=>?_⟩;obtain⟨x,hx,rfl⟩:=zA5.mp hr;have hx:x∈ds:=hx;obtain⟨e,NL⟩:=iW (n:=6) (h3 x hx);have:=h2 x hx;unfold jx at this;rw[zAc]at this;have p:=this.2;rw[e]at p;rw[pU _ 0 Zz,pU _ 1 Zz,pU _ 2 Zz,pU _ 3 Zz,pU _ 4 Zz,pU _ 5 Zz]at p;unfold rF at p;simp only[Bool.and_eq_true,Zq]at p;obtain⟨⟨a1,a2⟩,⟨b1,b2⟩,⟨c1,c2,c3⟩,⟨d1,d2⟩,e1,e2⟩:=p;exact⟨NL,⟨a1,a2⟩,⟨b1,b2⟩,⟨c1,c2,c3⟩,⟨d1,d2⟩,e1,e2⟩
theorem vG{d:PyData}(h:eO d=true):d=bY (rowsOf d)/\(rowsOf d).length<=12/\∀r∈rowsOf d,r.length=5:=by
 unfold eO at h;rw[zAc]at h;obtain⟨ds,rfl,_,hl⟩:=jT h.1;have h3:∀x∈ds,bw x 5=true:=List.all_eq_true.mp h.2;refine⟨congrArg PyData.tuple (wV (n:=5) h3),by show(ds.map _).length<=12;rw[zA1];lia,fun r hr=>?_⟩;obtain⟨x,hx,rfl⟩:=zA5.mp hr;exact(iW (n:=5) (h3 x hx)).2
structure RowsAt(H:Hp)(a:Addr)(xs:List V)(rs:List (List Int)):Prop where
 e:H a=some (.tup xs)
 l:xs.length=rs.length
 g:∀(i:Nat) (r:List Int),rs[i]?=some r->∃t,xs[i]?=some (V.ref t)/\H t=some (.tup (r.map V.int))
theorem RowsAt.keep{H H':Hp}{a:Addr}{xs:List V}{rs:List (List Int)}(h:RowsAt H a xs rs)(k:∀b l,H b=some (.tup l)->H' b=some (.tup l)):RowsAt H' a xs rs:=
 ⟨k _ _ h.e,h.l,fun i r e=>by
  obtain⟨t,e1,e2⟩:=h.g i r e
  exact⟨t,e1,k _ _ e2⟩⟩
theorem RowsAt.same{H H':Hp}{a:Addr}{xs:List V}{rs:List (List Int)}(h:RowsAt H a xs rs)(s:Same H H'):RowsAt H' a xs rs:=h.keep fun _ _ e=>s _ _ e
theorem uh{S:Addr->Prop}{H:Hp}:∀{r:List Int} {xs:List V},IsThs S H xs (r.map .int)->xs=r.map V.int
 |[],_,.nil=>rfl
 |i::r,_,.cons h t=>by
  cases h;rw[uh (r:=r) t];rfl
theorem Hw{S:Addr->Prop}{H:Hp}{v:V}{r:List Int}(h:IsTh S H v (cT r)):∃t,v=V.ref t/\H t=some (.tup (r.map V.int)):=by
 generalize hd:cT r=d at h
 cases h with
 |@tup a xs ds e t=>
  injection hd with hd;subst hd;rw[uh t]at e;exact⟨a,rfl,e⟩
 |_=>cases hd
theorem lK{S:Addr->Prop}{H:Hp}{v:V}{rs:List (List Int)}(h:IsTh S H v (bY rs)):∃a xs,v=.ref a/\RowsAt H a xs rs:=by
 generalize hd:bY rs=d at h
 cases h with
 |@tup a xs ds e t=>
  injection hd with hd;subst hd;refine⟨a,xs,rfl,e,by rw[t.length,zA1],fun i r hr=>?_⟩;have hi:i<rs.length:=(zAa.mp hr).1;have hx:xs[i]?=some (xs[i]'(by rw[t.length,zA1];exact hi)):=zA0 _;obtain⟨d,h1,h2⟩:=t.get hx;rw[zAb,hr]at h1;injection h1 with h1;subst h1;obtain⟨t',e1,e2⟩:=Hw h2;exact⟨t',by rw[hx,e1],e2⟩
 |_=>cases hd
theorem RowsAt.th{H:Hp}{a:Addr}:∀{rs:List (List Int)} {xs:List V},RowsAt H a xs rs->IsTh (fun _=>False) H (.ref a) (bY rs):=by
 intro rs xs h;refine .tup h.e ?_
 have gen:∀(rs:List (List Int)) (xs:List V),xs.length=rs.length->(∀(i:Nat) (r:List Int),rs[i]?=some r->∃t,xs[i]?=some (V.ref t)/\H t=some (.tup (r.map V.int)))->IsThs (fun _=>False) H xs (rs.map cT):=by
  intro rs
  induction rs with
  |nil=>
   intro xs hl _;have:xs=[]:=List.length_eq_zero_iff.mp hl;subst this;exact .nil
  |cons r rs ih=>
   intro xs hl hg
   cases xs with
   |nil=>simp at hl
   |cons x xs=>
    obtain⟨t,e1,e2⟩:=hg 0 r rfl;have e1:x=.ref t:=by simpa using e1
    subst e1;exact .cons (.tup e2 (IsThs.ints r)) (ih xs (by simpa using hl) fun i r' e=>hg (i+1) r' (by simpa using e))
 exact gen rs xs h.l h.g
def iY(L:List Int)(i:Int)(v:Int):List Int:=L.set i.toNat (L.getD i.toNat 0+v)
def hstep(n y:Int)(L:List Int)(s:List Int):List Int:=if fl s 0=n/\fl s 4<=y then iY (iY L (fl s 1) (-(fl s 3))) (fl s 2) (fl s 3)else L
def base0(p:List Int):List Int:=(List.replicate 8 0).set (fl p 0).toNat (fl p 4)
def bF(p:List Int)(ss:List (List Int))(n y:Int):List Int:=if fl p 2<=y/\y<=fl p 3 then ss.foldl (hstep n y) (base0 p)else List.replicate 8 0
def nu(ps:List (List Int))(s:List Int):List Int:=ps.getD (fl s 0).toNat []
def oM(ps:List (List Int))(s:List Int):Bool:=(decide (0<=fl s 0)&&decide (fl s 0<ps.length))&&((decide (0<=fl s 1)&&decide (fl s 1<8))&&((decide (0<=fl s 2)&&decide (fl s 2<8))&&((!decide (fl s 1=fl s 2))&&((decide (1<=fl s 3)&&decide (fl s 3<=99))&&(decide (fl (nu ps s) 2<=fl s 4)&&decide (fl s 4<=fl (nu ps s) 3))))))
def years(a b:Int):List Int:=(List.range (b+1-a).toNat).map fun(i:Nat)=>a+i
def dz(ps ss:List (List Int))(s:List Int):Bool:=oM ps s&&(years (fl s 4) (fl (nu ps s) 3)).all fun y=>decide (fl s 3<=(bF (nu ps s) ss (fl s 0) y).getD (fl s 1).toNat 0)
def un(ps ss:List (List Int)):Option Nat:=(List.range ss.length).find? fun i=>!dz ps (ss.take i) (ss.getD i [])
theorem ik(L:List Int)(i v:Int):(iY L i v).length=L.length:=by unfold iY;rw[List.length_set]
theorem yM(n y:Int)(L s:List Int):(hstep n y L s).length=L.length:=by
 unfold hstep;split
 .rw[ik,ik]
 .rfl
theorem dR(p:List Int)(ss:List (List Int))(n y:Int):(bF p ss n y).length=8:=by
 unfold bF;split
 .have:∀(ss:List (List Int)) (L:List Int),L.length=8->(ss.foldl (hstep n y) L).length=8:=by
   intro ss
   induction ss with
   |nil=>exact fun L h=>h
   |cons s ss ih=>exact fun L h=>ih _ (by rw[yM];exact h)
  exact this ss _ (by unfold base0;rw[List.length_set,List.length_replicate])
 .rw[List.length_replicate]
theorem iD{X:Cx}:Il X (fun x y H Q=>∃p xs i v,x=.ref p/\y=.int i/\SqL X.K H p xs/\0<=i/\xs[i.toNat]?=some v/\Q v H):=by
 intro Zt s σ H x y v u Q I rx ry h;obtain⟨p,xs,i,z,rfl,rfl,hq,h0,he,q⟩:=h;cases rx;obtain⟨t,rfl⟩:=ry;obtain⟨Zs,r,pl,hz⟩:=I.list hq;obtain⟨w,ew,fE⟩:=r.get he;have hn:=mq;have hl:=r.length;have hi:=(zAa.mp he).1;exact PySem.wpAny_getItem_list pl.isList h0 Zz (by simpa using ew) ⟨z,H,I,fE,q⟩
theorem dH{p:List Int}(h:p.length=6):p=[fl p 0,fl p 1,fl p 2,fl p 3,fl p 4,fl p 5]:=by
 obtain⟨a,b,c,d,e,f,rfl⟩:=Jp h;rfl
theorem il{p:List Int}(h:p.length=5):p=[fl p 0,fl p 1,fl p 2,fl p 3,fl p 4]:=by
 obtain⟨a,b,c,d,e,rfl⟩:=Jo h;rfl
theorem rK(L:List Int)(i:Nat)(v:Int):(L.map V.int).set i (.int v)=(L.set i v).map V.int:=by rw[List.map_set]
theorem gB{L:List Int}{i:Nat}(h:i<L.length):(L.map V.int)[i]?=some (.int (L.getD i 0)):=by
 rw[zAb,zA0 h,zA7,zA0 h];rfl
theorem wW{n:Nat}{i:Int}(h0:0<=i)(h1:i<n):ixN n i=some i.toNat:=by
 unfold ixN;rw[zAx h0,zAx h1]
def okS(s:List Int):Prop:=s.length=5/\(0<=fl s 1/\fl s 1<8)/\(0<=fl s 2/\fl s 2<8)
inductive SpHeldI(vs:List V)(H:Hp)(Q:VK):Prop
 |mk:∀ap xp ps ah xs ss n y,(vs=[.ref ap,.ref ah,.int n,.int y])->(RowsAt H ap xp ps)->(RowsAt H ah xs ss)->(0<=n)->(n<ps.length)->(okP (ps.getD n.toNat []))->(ss.length<=12)->((∀s∈ss,okS s))->(∀l H',Same H H'->H' l=some (.lst ((bF (ps.getD n.toNat []) ss n y).map V.int))->Q (.ref l) H')->SpHeldI  vs H Q
def vH:Sp:=fun vs H Q _=>SpHeldI  vs H Q
structure MS(mg:Str->Option Value):Prop where
 sales:∃t,mg "MOST_SALES"=some (.int 12 t)
theorem Jq:FnScope ["thing"] ["thing"] (aM (top 28)):=fQS
theorem rM(F:Fun K "are_sales" "are_sales" (top 28) f fd)(T:Mg mg)(N:MS mg)(c1:Cal P w K mg base 2 "are_wholes" ["thing","many"] (Aq bw))(c2:Cal P w K mg base 1 "is_tuple_of" ["thing","fewest","most"] (lB bA)):
  FnOk P w K mg base CX0 3 f fd ["thing"] (spT eO):=by
 refine F.ok Jq (fun vs H Q E h=>?_) (fun ax A outer s H vs Q E hr h=>?_)
 .obtain⟨S,v,d,rfl,_⟩:=h;rfl
 .obtain⟨S,v,d,rfl,th,hz,q⟩:=h;obtain⟨t3,e3⟩:=N.sales
  refine⟨_,aD (aQ (cA (aK c2 hr (au (pv 0) (au aB (au (bM (v:=.int 12) rfl e3 ⟨_,rfl⟩) ao))))
   (dM (aP (dW rfl) rfl T.all boot_all (au (bG ["part"] [none] rfl (fU (pv 0))
    (fun C fp Zt s₂ H₂=>⟨bf (i:=0) (nd1 _) rfl (Or.inl rfl),bu,aK c1 hr (au (pv 0) (au aB ao))⟩) (fun C=>trivial) ⟨rfl,rfl,rfl,rfl⟩) ao))))),?_⟩
  refine⟨_,rfl,S,v,d,0,12,rfl,th,hz,fun H1 s1=>⟨_,rfl,?_⟩⟩;have fT:=th.same s1;have fin:=fun H' (s:Same H H')=>q H' s;unfold eO at fin
  cases e:bA d 0 12 with
  |false=>
   rw[e]at fin;exact bO (fin _ s1)
  |true=>
   rw[e]at fin;refine bV ?_
   cases fT with
   |@tup a xs ds ea r=>exact dw (fun x=>bw x 5) rfl ea r (fu r hz) (fun v d H2 Q2 hm s2 t2 q2=>⟨_,rfl,S,v,d,5,rfl,t2,jy hm hz,q2⟩) fun H2 s2=>fin _ (s1.trans s2)
   |_=>cases e
theorem sc23s:FnScope ["promises","sales","number","year","holder","sort","first","last","sacks","price","held","promise","seller","buyer","sold","since"] ["promises","sales","number","year"] (aM (top 29)):=fQS
theorem DX(F:Fun K "held_in" "held_in" (top 29) f fd)(N:Nums mg):FnOk P w K mg base CX0 1 f fd ["promises","sales","number","year"] vH:=by
 refine F.ok sc23s (fun vs H Q E h=>?_) (fun ax A outer s H vs Q E hr h=>?_)
 .obtain⟨ap,xp,ps,ah,xs,ss,n,y,rfl,_⟩:=h;rfl
 .obtain⟨ap,xp,ps,ah,xs,ss,n,y,rfl,rp,rs,n0,n1,okp,hl,c9,q⟩:=h;obtain⟨t1,e1⟩:=N.holders
  refine⟨_,aA (cG (pX bL (pv 0) (pv 2)) (bK rfl (aq (pgn 4 sc23s.nd) (aq (pgn 5 sc23s.nd) (aq (pgn 6 sc23s.nd)
    (aq (pgn 7 sc23s.nd) (aq (pgn 8 sc23s.nd) (aq (pgn 9 sc23s.nd) aX))))))))
   (aA (pss 10 sc23s.nd (aV GK (cj (au aB ao)) (bM (v:=.int 8) rfl e1 ⟨_,rfl⟩)))
   (aA (cQ (cP (fj bJ bJ (pv 6) (pv 3) (pv 7))) (aD (aQ (pv 10))) bB)
   (aA (cG (pv 8) (qC (pv 10) (pv 4) set_list))
   (aA (bT zB4 rfl (fU (pv 1)) (bK rfl (aq (pgn 11 sc23s.nd) (aq (pgn 12 sc23s.nd) (aq (pgn 13 sc23s.nd)
     (aq (pgn 14 sc23s.nd) (aq (pgn 15 sc23s.nd) aX))))))
    (aD (cQ (PW.pt (Gp (bN oX (pv 11) (pv 2) (bQ _)) (CW (bN bJ (pv 15) (pv 3) (bQ _)))))
     (aA (qD (pv 10) (pv 12) iD (pv 14) zy set_list) (aD (qD (pv 10) (pv 13) iD (pv 14) zx set_list))) bB)))
   (aD (aQ (pv 10))))))),?_⟩
  obtain⟨p,hp⟩:∃p,ps[n.toNat]?=some p:=⟨_,zA0 Zz⟩
  have ep:ps.getD n.toNat []=p:=by rw[zA7,hp];rfl
  rw[ep]at okp q;obtain⟨t,ex,et⟩:=rp.g _ _ hp;have p6:=dH okp.1;obtain⟨l6,⟨a1,a2⟩,b,⟨c1,c2,c3⟩,⟨d1,d2⟩,ee⟩:=id okp
  have fy:atI xp n=some (.ref t):=by
   have:=di ex;rw[show((n.toNat:Nat):Int)=n by lia]at this;exact this
  rw[p6]at et;refine aG ?_;refine⟨_,rfl,_,rfl,ap,xp,n,.ref t,rfl,rfl,SqT.of rp.e,fy,?_⟩;refine⟨t,_,rfl,SqT.of et,rfl,_,_,rfl,_,_,rfl,_,_,rfl,_,_,rfl,_,_,rfl,_,_,rfl,rfl,?_⟩;dsimp only;refine aG (aW ?_);refine⟨zL,fun l0 KL=>⟨l0,8,_,rfl,rfl,aj,by decide,by decide,zL,fun l1 fN=>?_⟩⟩;have s1:Same H (upd (upd H l0 (.lst [V.int 0])) l1 (.lst (List.replicate (8:Int).toNat [V.int 0]).flatten)):=(Same.upd KL).updR fN;have el1:upd (upd H l0 (.lst [V.int 0])) l1 (.lst (List.replicate (8:Int).toNat [V.int 0]).flatten) l1=some (.lst ((List.replicate 8 (0:Int)).map V.int)):=aj;have A7:H l1=none:=(Same.upd KL).free fN;generalize upd (upd H l0 (.lst [V.int 0])) l1 (.lst (List.replicate (8:Int).toNat [V.int 0]).flatten)=H1 at s1 el1⊢;refine aH ?_;dsimp only;refine aG ?_;refine bR (p:=fun i j=>decide (i<=j)) (q:=fun i j=>decide (i<=j)) (i:=fl p 2) (j:=y) (k:=fl p 3) (du rfl) (du rfl) (du rfl) _ ⟨_,rfl,?_⟩;by_cases ja:fl p 2<=y/\y<=fl p 3
  .rw[decide_eq_true ja.1,decide_eq_true ja.2];refine bO (cD ?_);dsimp only;refine aG ?_;refine⟨_,rfl,_,rfl,_,rfl,l1,_,fl p 0,(fl p 0).toNat,rfl,rfl,el1,wW a1 (by show fl p 0<8;exact a2),?_⟩;rw[rK];dsimp only;refine aG ?_;have NM:ah≠l1:=aC rs.e A7;refine⟨_,rfl,ah,rfl,⟨xs,SqT.of (by rw[az NM];exact s1 _ _ rs.e)⟩,?_⟩
   have D6:∀{Hc:Hp} {o:HO},Same H Hc->Same H (upd Hc l1 o):=fun{Hc o} sm b u e=>by
    rw[az (aC e A7)];exact sm _ _ e
   refine Dd (xs:=xs) (fun i σ Hc=>∃ff de df oP oQ,σ=[some (.ref ap),some (.ref ah),some (.int n),some (.int y),some (.int (fl p 0)),some (.int (fl p 1)),some (.int (fl p 2)),some (.int (fl p 3)),some (.int (fl p 4)),some (.int (fl p 5)),some (.ref l1),ff,de,df,oP,oQ]/\Same H Hc/\Hc l1=some (.lst (((ss.take i).foldl (hstep n y) (base0 p)).map V.int))) ?_ ?_ ?_ ?_
   .exact⟨none,none,none,none,none,rfl,D6 s1,aj⟩
   .rintro i σ Hc hi ⟨ff,de,df,oP,oQ,rfl,sm,el⟩;exact SqT.of (sm _ _ rs.e)
   .rintro i x σ Hc hx ⟨ff,de,df,oP,oQ,rfl,sm,el⟩
    have hi:i<ss.length:=by
     have:=(zAa.mp hx).1;rw[rs.l]at this;exact this
    obtain⟨tr,gL,fh⟩:=rs.g i ss[i] (zA0 hi)
    have:x=.ref tr:=by
     rw[hx]at gL;exact zAl gL
    subst this;obtain⟨o1,⟨o2,o3⟩,o4,o5⟩:=c9 ss[i] (zAh hi);have s5:=il o1;have dA:ss.take (i+1)=ss.take i++[ss[i]]:=by rw[zAj,zA0 hi];rfl
    have zd:(ss.take (i+1)).foldl (hstep n y) (base0 p)=hstep n y ((ss.take i).foldl (hstep n y) (base0 p)) ss[i]:=by rw[dA,List.foldl_append];rfl
    rw[zd];generalize hL:(ss.take i).foldl (hstep n y) (base0 p)=L at el⊢
    have lL:L.length=8:=by
     have:=dR p (ss.take i) n y;unfold bF at this;rw[zAx ja,hL]at this;exact this
    generalize ss[i]=r at fh s5 o2 o3 o4 o5⊢;rw[s5]at fh;refine⟨tr,_,rfl,SqT.of (sm _ _ fh),rfl,_,_,rfl,_,_,rfl,_,_,rfl,_,_,rfl,_,_,rfl,rfl,?_⟩;refine⟨_,rfl,_,rfl,rfl,_,rfl,?_⟩;by_cases hn:fl r 0=n
    .rw[zAu (show V.int (fl r 0)=V.int n by rw[hn])];refine bV ?_;refine⟨_,rfl,_,rfl,_,_,rfl,rfl,_,rfl,?_⟩;by_cases hy:fl r 4<=y
     .rw[zAu hy];refine bV ?_;have e1:hstep n y L r=iY (iY L (fl r 1) (-(fl r 3))) (fl r 2) (fl r 3):=zAx ⟨hn,hy⟩;rw[e1];refine aG ?_;refine⟨_,rfl,_,rfl,l1,_,fl r 1,_,rfl,rfl,SqL.of el,o2,gB Zz,_,rfl,_,_,rfl,rfl,l1,_,fl r 1,(fl r 1).toNat,rfl,rfl,el,wW o2 (by rw[zA1];lia),?_⟩;rw[rK]
      have e2:L.set (fl r 1).toNat (L.getD (fl r 1).toNat 0-fl r 3)=iY L (fl r 1) (-(fl r 3)):=by
       unfold iY;rw[Int.sub_eq_add_neg]
      rw[e2];generalize NN:iY L (fl r 1) (-(fl r 3))=L1;have TC:L1.length=8:=by rw[<-NN,ik];exact lL
      refine⟨_,rfl,_,rfl,l1,_,fl r 2,_,rfl,rfl,SqL.of aj,o4,gB Zz,_,rfl,_,_,rfl,rfl,l1,_,fl r 2,(fl r 2).toNat,rfl,rfl,aj,wW o4 (by rw[zA1];lia),?_⟩;rw[rK];exact⟨_,_,_,_,_,rfl,D6 (D6 sm),aj⟩
     .rw[zB5 hy];refine bO ?_;have e1:hstep n y L r=L:=zAw fun z=>hy z.2;rw[e1];exact⟨_,_,_,_,_,rfl,sm,el⟩
    .rw[zB5 (fun z:V.int (fl r 0)=V.int n=>hn (by injection z))];refine bO (bO ?_);have e1:hstep n y L r=L:=zAw fun z=>hn z.1;rw[e1];exact⟨_,_,_,_,_,rfl,sm,el⟩
   .rintro σ Hc ⟨ff,de,df,oP,oQ,rfl,sm,el⟩;rw[rs.l,zAm]at el;refine⟨_,rfl,q _ _ sm ?_⟩;unfold bF;rw[zAx ja];exact el
  .have hb:(decide (fl p 2<=y)&&decide (y<=fl p 3))=false:=by
    cases e:(decide (fl p 2<=y)&&decide (y<=fl p 3))with
    |false=>rfl
    |true=>
     rw[zAc,Zq,Zq]at e;exact absurd e ja
   rw[hb];refine bV ⟨_,rfl,q _ _ s1 ?_⟩;unfold bF;rw[zAw ja];exact el1
theorem ul{te:TE}{lo:Int}{n:Nat}{eC:St}{j:Nat}{H0:Hp}{Fin:List V->Hp->Prop}(Pv:List V->Hp->Prop)(h0:Pv [] H0)(hz:n<sizeLine)
  (step:∀i ys H Q,i<n->ys.length=i->Pv ys H->(∀y H',Pv (ys++[y]) H'->Q y H')->te (eC.set j (some (.int (lo+i)))) H Q)
  (fin:∀ys H,ys.length=n->Pv ys H->Fin ys H):kI (Itr lo n) (bH j) sX te Fin eC H0:=by
 refine⟨fun i m ys σ H=>m=n-i/\i<=n/\ys.length=i/\(∀o,σ.set j o=eC.set j o)/\Pv ys H,⟨_,rfl,zAp _,rfl,fun _=>rfl,h0⟩,?_⟩;rintro i m ys σ H ⟨rfl,hi,hy,kS,p⟩;refine⟨Zz,?_⟩;by_cases bp:i<n
 .refine .inr ⟨bp,fun x H' y=>?_⟩;obtain⟨e,e2⟩:=y;subst e;subst e2;show te (σ.set j (some (.int (lo+i)))) H' _;rw[kS]
  exact step i ys H' _ bp hy p fun y H2 p2=>⟨n-(i+1),Zz,rfl,bp,by rw[zA2,hy];rfl,fun o=>by rw[List.set_set],p2⟩
 .have e:i=n:=Zz
  subst e;exact .inl ⟨zA3 _,fin ys H hy p⟩
theorem Jr{σ:St}{H:Hp}{ta tb:TE}{i j:Int}(a:Ev σ H ta (.int i))(b:Ev σ H tb (.int j)):Ev σ H (tOp rNe ta tb) (.bl (!decide (i=j))):=fun Q q=>a _ (b _ ⟨rfl,by
 have ed:decide (V.int i=V.int j)=decide (i=j):=decide_eq_decide.mpr ⟨fun z=>by injection z,fun z=>by rw[z]⟩;rw[ed]
 exact q⟩)
theorem jU(a b:Int):(years a b).length=(b+1-a).toNat:=by unfold years;rw[zA1,List.length_range]
theorem jV{a b:Int}{i:Nat}(h:i<(b+1-a).toNat):(years a b)[i]?=some (a+i):=by
 unfold years;rw[zAb,List.getElem?_range h];rfl
theorem pW{α β:Type}{l:List α}{f:α->β}{ys:List β}{x:α}(ey:ys=(l.take ys.length).map f)(hx:l[ys.length]?=some x):ys++[f x]=(l.take (ys++[f x]).length).map f:=by
 rw[zA2,List.length_singleton,zAj,hx,zA4,<-ey];rfl
inductive SpBetwI(vs:List V)(H:Hp)(Q:VK):Prop
 |mk:∀ap xp ps t s,(vs=[.ref ap,.ref t])->(RowsAt H ap xp ps)->((∀r∈ps,okP r))->(H t=some (.tup (s.map V.int)))->(s.length=5)->(Q (.bl (oM ps s)) H)->SpBetwI  vs H Q
def Ay:Sp:=fun vs H Q _=>SpBetwI  vs H Q
inductive SpHoldsI(vs:List V)(H:Hp)(Q:VK):Prop
 |mk:∀ap xp ps ah xs ss t s,(vs=[.ref ap,.ref ah,.ref t])->(RowsAt H ap xp ps)->((∀r∈ps,okP r))->(RowsAt H ah xs ss)->(ss.length<=12)->((∀s∈ss,okS s))->(H t=some (.tup (s.map V.int)))->(s.length=5)->(∀H',Same H H'->Q (.bl (dz ps ss s)) H')->SpHoldsI  vs H Q
def wX:Sp:=fun vs H Q _=>SpHoldsI  vs H Q
def unV:Option Nat->V
 |none=>.non
 |some i=>.int i
inductive SpFirstI(vs:List V)(H:Hp)(Q:VK):Prop
 |mk:∀S v d S' u e,(vs=[v,u])->(IsTh S H v d)->(IsTh S' H u e)->(eG d=true)->(eO e=true)->(sz d<=4000)->(sz e<=4000)->(∀H',Same H H'->Q (unV (un (rowsOf d) (rowsOf e))) H')->SpFirstI  vs H Q
def wY:Sp:=fun vs H Q _=>SpFirstI  vs H Q
theorem f9{ps:List (List Int)}{n:Int}(h:∀r∈ps,okP r)(h0:0<=n)(h1:n<ps.length):∃p,ps[n.toNat]?=some p/\ps.getD n.toNat []=p/\okP p:=by
 have hn:n.toNat<ps.length:=Zz
 refine⟨ps[n.toNat],zA0 hn,?_,h _ (zAh hn)⟩;rw[zA7,zA0 hn];rfl
theorem fP{H:Hp}{a:Addr}{xs:List V}{rs:List (List Int)}{n:Int}{r:List Int}(h:RowsAt H a xs rs)(h0:0<=n)(e:rs[n.toNat]?=some r):∃t,atI xs n=some (.ref t)/\H t=some (.tup (r.map V.int)):=by
 obtain⟨t,e1,e2⟩:=h.g _ _ e;refine⟨t,?_,e2⟩;have:=di e1;rw[show((n.toNat:Nat):Int)=n by lia]at this;exact this
theorem sc24s:FnScope ["promises","sale","number","seller","buyer","sacks","year","holder","sort","first","last","due","price"] ["promises","sale"] (aM (top 30)):=fQS
theorem DY(F:Fun K "is_sale_between" "is_sale_between" (top 30) f fd)(T:Mg mg)(N:Nums mg):FnOk P w K mg base CX0 1 f fd ["promises","sale"] Ay:=by
 refine F.ok sc24s (fun vs H Q E h=>?_) (fun ax A outer s H vs Q E hr h=>?_)
 .obtain⟨ap,xp,ps,t,r,rfl,_⟩:=h;rfl
 .obtain⟨ap,xp,ps,t,r,rfl,rp,okp,et,h5,q⟩:=h;obtain⟨t1,e1⟩:=N.holders;obtain⟨t4,e4⟩:=N.sacks
  refine⟨_,aA (cG (pv 1) (bK rfl (aq (pgn 2 sc24s.nd) (aq (pgn 3 sc24s.nd) (aq (pgn 4 sc24s.nd) (aq (pgn 5 sc24s.nd) (aq (pgn 6 sc24s.nd) aX)))))))
   (aA (cQ (cP (fj bJ km aB (pv 2) (aP bC rfl T.len PySem.boot_len (au (pv 0) ao)))) (aD (aQ j8)) bB)
   (aA (cG (pX bL (pv 0) (pv 2)) (bK rfl (aq (pgn 7 sc24s.nd) (aq (pgn 8 sc24s.nd) (aq (pgn 9 sc24s.nd)
    (aq (pgn 10 sc24s.nd) (aq (pgn 11 sc24s.nd) (aq (pgn 12 sc24s.nd) aX))))))))
   (aD (aQ (cA (cR bJ km aB (pv 3) (bM (v:=.int 8) rfl e1 ⟨_,rfl⟩)) (cA (cR bJ km aB (pv 4) (bM (v:=.int 8) rfl e1 ⟨_,rfl⟩)) (cA (j9 Fp (pv 3) (pv 4) (bQ _))
    (cA (cR bJ bJ aB (pv 5) (bM (v:=.int 99) rfl e4 ⟨_,rfl⟩)) (dM (cR bJ bJ (pv 9) (pv 6) (pv 10))))))))))),?_⟩
  rw[il h5]at et;refine aG ?_;refine⟨_,rfl,t,_,rfl,SqT.of et,rfl,_,_,rfl,_,_,rfl,_,_,rfl,_,_,rfl,_,_,rfl,rfl,?_⟩;dsimp only;refine aG ?_;refine bR (p:=fun i j=>decide (i<=j)) (q:=fun i j=>decide (i<j)) (i:=0) (j:=fl r 0) (k:=(xp.length:Int)) eV (du rfl) (fun Q h=>⟨_,rfl,ap,xp,rfl,.inr (SqT.of rp.e),h⟩) _ ⟨_,rfl,?_⟩;have fin:=q;unfold oM at fin;rw[rp.l]
  cases e:(decide (0<=fl r 0)&&decide (fl r 0<ps.length))with
  |false=>
   rw[e]at fin;exact bV fin
  |true=>
   rw[e]at fin;rw[zAc,Zq,Zq]at e;obtain⟨p,hp,ep,op⟩:=f9 okp e.1 e.2;obtain⟨tp,fy,fk⟩:=fP rp e.1 hp;rw[dH op.1]at fk;refine bO (cD ?_);dsimp only;refine aG ?_;refine⟨_,rfl,_,rfl,ap,xp,_,.ref tp,rfl,rfl,SqT.of rp.e,fy,?_⟩;refine⟨tp,_,rfl,SqT.of fk,rfl,_,_,rfl,_,_,rfl,_,_,rfl,_,_,rfl,_,_,rfl,_,_,rfl,rfl,?_⟩;have rV:nu ps r=p:=ep;rw[rV]at fin;exact gW (bR eV (du rfl) eV) (fun _=>gW (bR eV (du rfl) eV) fun _=>gW (Jr (du rfl) (du rfl)) fun _=>gW (bR eV (du rfl) eV) fun _=>bR (du rfl) (du rfl) (du rfl)) _ fin
theorem sc25s:FnScope ["promises","ahead","sale","number","seller","buyer","sacks","year","last"] ["promises","ahead","sale"] (aM (top 31)):=fQS
theorem Kq:(["at","promises","ahead","number","seller","sacks"]:List Str).Nodup:=by decide +kernel
theorem Az(F:Fun K "sale_holds" "sale_holds" (top 31) f fd)(T:Mg mg)(Tr:mg "range"=none)(c1:Cal P w K mg base 1 "is_sale_between" ["promises","sale"] Ay)(c2:Cal P w K mg base 1 "held_in" ["promises","sales","number","year"] vH):
  FnOk P w K mg base CX0 2 f fd ["promises","ahead","sale"] wX:=by
 refine F.ok sc25s (fun vs H Q E h=>?_) (fun ax A outer s H vs Q E hr h=>?_)
 .obtain⟨ap,xp,ps,ah,xs,ss,t,r,rfl,_⟩:=h;rfl
 .obtain⟨ap,xp,ps,ah,xs,ss,t,r,rfl,rp,okp,rs,hl,c9,et,h5,q⟩:=h
  refine⟨_,aA (cQ (cP (dZ (aK c1 hr (au (pv 0) (au (pv 2) ao))))) (aD (aQ j8)) bB)
   (aA (cG (pv 2) (bK rfl (aq (bf (i:=3) sc25s.nd rfl (Or.inr rfl)) (aq (bf (i:=4) sc25s.nd rfl (Or.inr rfl)) (aq (pgn 5 sc25s.nd) (aq (bf (i:=6) sc25s.nd rfl (Or.inr rfl)) (aq (pgn 7 sc25s.nd) aX)))))))
   (aA (pss 8 sc25s.nd (pX bL (pX bL (pv 0) (pv 3)) aB))
   (aD (aQ (aP (dW rfl) rfl T.all boot_all (au (bG ["at","promises","ahead","number","seller","sacks"] [none,some 0,some 1,some 3,some 4,some 6] rfl (iy rfl Tr (au (pv 7) (au (aV bj (pv 8) aB) ao)))
    (fun C fp Zt s₂ H₂=>⟨pgn 0 Kq,bu,j9 wg (pX (fB (K:=K) rfl) (aK c2 hr (au (pv 1) (au (pv 2) (au (pv 3) (au (pv 0) ao))))) (pv 4)) (pv 5) (bQ _)⟩)
    (fun C=>cI (cI (cI (cI (cI trivial))))) ⟨rfl,rfl,rfl,rfl⟩) ao)))))),?_⟩
  have fin:=q;unfold dz at fin;refine aG ?_;refine⟨_,rfl,_,rfl,ap,xp,ps,t,r,rfl,rp,okp,et,h5,_,rfl,?_⟩
  cases e:oM ps r with
  |false=>
   rw[e]at fin;exact bV (fin _ (Same.refl _))
  |true=>
   rw[e]at fin;refine bO (cD ?_);dsimp only;refine aG ?_;unfold oM at e;simp only[Bool.and_eq_true,Zq]at e;obtain⟨⟨n0,n1⟩,⟨b0,b1⟩,_,_,⟨k0,k1⟩,y0,y1⟩:=e;obtain⟨p,hp,ep,op⟩:=f9 okp n0 n1;have rV:nu ps r=p:=ep;rw[rV]at fin y0 y1;obtain⟨tp,fy,fk⟩:=fP rp n0 hp;rw[il h5]at et;rw[dH op.1]at fk;obtain⟨_,_,_,⟨g1,g2,g3⟩,_⟩:=id op;refine⟨_,rfl,t,_,rfl,SqT.of et,rfl,_,_,rfl,_,_,rfl,_,_,rfl,_,_,rfl,_,_,rfl,rfl,?_⟩;dsimp only;refine aG (aW ?_);refine⟨_,rfl,_,rfl,ap,xp,_,.ref tp,rfl,rfl,SqT.of rp.e,fy,tp,_,3,.int (fl p 3),rfl,rfl,SqT.of fk,rfl,?_⟩;refine aH ?_;dsimp only;refine⟨_,rfl,_,rfl,_,_,rfl,rfl,fl r 4,fl p 3+1,rfl,⟨Zz,Zz,Zz,Zz⟩,?_⟩;refine ul (fun ys Hc=>Same H Hc/\ys=((years (fl r 4) (fl p 3)).take ys.length).map fun y=>V.bl (decide (fl r 3<=(bF p ss (fl r 0) y).getD (fl r 1).toNat 0))) ⟨Same.refl _,rfl⟩ Zu ?_ ?_
   .rintro i ys Hc Qc hi hy ⟨sc,ey⟩ qc;refine⟨_,rfl,_,rfl,_,rfl,_,rfl,ap,xp,ps,ah,xs,ss,fl r 0,fl r 4+i,rfl,rp.same sc,rs.same sc,n0,n1,by rw[ep];exact op,hl,c9,fun l H' s' el=>?_⟩;rw[ep]at el;refine⟨_,rfl,l,_,fl r 1,.int ((bF p ss (fl r 0) (fl r 4+i)).getD (fl r 1).toNat 0),rfl,rfl,SqL.of el,?_,_,rfl,_,_,rfl,rfl,qc _ _ ⟨sc.trans s',?_⟩⟩
    .unfold atI;rw[wW b0 (by rw[zA1,dR];lia)];exact gB (by rw[dR];lia)
    .have hx:(years (fl r 4) (fl p 3))[ys.length]?=some (fl r 4+(i:Int)):=by
      rw[hy];exact jV hi
     exact pW ey hx
   .rintro ys Hc hy ⟨sc,ey⟩ D hD;rw[List.take_of_length_le (by rw[jU,hy];exact zA3 _)]at ey;refine⟨D,(years (fl r 4) (fl p 3)).map fun y=>decide (fl r 3<=(bF p ss (fl r 0) y).getD (fl r 1).toNat 0),rfl,SqL.of (by rw[zAr];rw[ey];exact aj),?_⟩;rw[List.all_map];exact fin _ (sc.updR hD)
theorem nA{xs:List V}{i:Nat}(h:i<=xs.length):jb xs none (some (i:Int))=xs.take i:=by
 unfold jb;rw[HT.sIx_none,HT.sIx_nat,List.drop_zero,Nat.min_eq_left h,Nat.sub_zero]
theorem RowsAt.cut{H:Hp}{a p:Addr}{xs:List V}{rs:List (List Int)}(h:RowsAt H a xs rs)(i:Nat)(hp:H p=none):RowsAt (upd H p (.tup (xs.take i))) p (xs.take i) (rs.take i):=by
 refine⟨aj,by rw[zAd,zAd,h.l],fun j r e=>?_⟩
 have hj:j<i:=by
  rw[List.getElem?_take]at e;split at e
  .assumption
  .cases e
 rw[List.getElem?_take_of_lt hj]at e;obtain⟨t,e1,e2⟩:=h.g j r e;exact⟨t,by rw[List.getElem?_take_of_lt hj];exact e1,Same.upd hp _ _ e2⟩
theorem rN{ps ss:List (List Int)}{i:Nat}(h:∀j,j<i->dz ps (ss.take j) (ss.getD j [])=true)(hi:i<ss.length)(hn:dz ps (ss.take i) (ss.getD i [])=false):un ps ss=some i:=by
 unfold un;rw[List.find?_range_eq_some];exact⟨by rw[hn];rfl,List.mem_range.mpr hi,fun j hj=>by rw[h j hj];rfl⟩
theorem wZ{ps ss:List (List Int)}(h:∀j,j<ss.length->dz ps (ss.take j) (ss.getD j [])=true):un ps ss=none:=by
 unfold un;rw[List.find?_range_eq_none]
 exact fun j hj=>by rw[h j hj];rfl
theorem jA{ps ss:List (List Int)}{s:List Int}(h5:s.length=5)(h:dz ps ss s=true):okS s:=by
 unfold dz oM at h;simp only[Bool.and_eq_true,Zq]at h;exact⟨h5,h.1.2.1,h.1.2.2.1⟩
theorem getD_get{ss:List (List Int)}{i:Nat}(h:i<ss.length):ss.getD i []=ss[i]:=by
 rw[zA7,zA0 h];rfl
def part(d:PyData)(i:Nat):PyData:=(items d).getD i .none
def jB(d:PyData):Bool:=bA d 3 3&&(ig (part d 0)&&(eG (part d 1)&&(eO (part d 2)&&(un (rowsOf (part d 1)) (rowsOf (part d 2))).isNone)))
theorem sc26s:FnScope ["promises","sales","at","sale"] ["promises","sales"] (aM (top 32)):=fQS
theorem Ba(F:Fun K "first_unheld" "first_unheld" (top 32) f fd)(Te:mg "enumerate"=none)(c1:Cal P w K mg base 4 "are_promises" ["thing"] (spT eG))(c2:Cal P w K mg base 3 "are_sales" ["thing"] (spT eO))(c3:Cal P w K mg base 2 "sale_holds" ["promises","ahead","sale"] wX):
  FnOk P w K mg base CX0 5 f fd ["promises","sales"] wY:=by
 refine F.ok sc26s (fun vs H Q E h=>?_) (fun ax A outer s H vs Q E hr h=>?_)
 .obtain⟨S,v,d,S',u,e,rfl,_⟩:=h;rfl
 .obtain⟨S,v,d,S',u,e,rfl,A8,ths,hp,hs,zp,zs,q⟩:=h
  refine⟨_,aA (cQ (cP (dZ (aK c1 hr (au (pv 0) ao)))) oV bB)
   (aA (cQ (cP (dZ (aK c2 hr (au (pv 1) ao)))) oV bB)
   (aA (bT zB4 rfl (ZT.pi_enum true rfl Te (au (pv 1) ao)) (bK rfl (aq (pgn 2 sc26s.nd) (aq (pgn 3 sc26s.nd) aX)))
    (aD (cQ (cP (dZ (aK c3 hr (au (pv 0) (au (mz wA (pv 1) qG (qH (pv 2))) (au (pv 3) ao)))))) (aD (aQ (pv 2))) bB)))
   (aD (aQ qy)))),?_⟩
  refine aG ?_;refine⟨_,rfl,S,v,d,rfl,A8,zp,fun H1 s1=>⟨_,rfl,?_⟩⟩;rw[hp];refine bO (cD ?_);dsimp only;refine aG ?_;refine⟨_,rfl,S',u,e,rfl,ths.same s1,zs,fun H2 s2=>⟨_,rfl,?_⟩⟩;rw[hs];refine bO (cD ?_);dsimp only;have mS:=s1.trans s2;obtain⟨ep,lp,okp⟩:=vD hp;obtain⟨es,ls,c9⟩:=vG hs;have fT:=A8.same mS;have D7:=ths.same mS;rw[ep]at fT;rw[es]at D7;generalize rowsOf d=ps at q lp okp fT;generalize rowsOf e=ss at q ls c9 D7;obtain⟨ap,xp,rfl,rp⟩:=lK fT;obtain⟨ah,xs,rfl,rs⟩:=lK D7;refine aG ?_;refine⟨_,rfl,ah,xs,rfl,SqT.of rs.e,?_⟩;refine ZT.for_enum true (xs:=xs) (fun i σ Hc=>∃x2 x3,σ=[some (.ref ap),some (.ref ah),x2,x3]/\Same H2 Hc/\∀j,j<i->dz ps (ss.take j) (ss.getD j [])=true) ?_ ?_ ?_ ?_
  .exact⟨none,none,rfl,Same.refl _,fun j hj=>absurd hj (Nat.not_lt_zero _)⟩
  .rintro i σ Hc hi ⟨x2,x3,rfl,sm,hh⟩;exact SqT.of (sm _ _ rs.e)
  .rintro i x σ Hc T0 hx ⟨x2,x3,rfl,sm,hh⟩ nT
   have hi:i<ss.length:=by
    have:=(zAa.mp hx).1;rw[rs.l]at this;exact this
   have NO:i<xs.length:=by rw[rs.l];exact hi
   obtain⟨tr,gL,fh⟩:=rs.g i ss[i] (zA0 hi)
   have:x=.ref tr:=by
    rw[hx]at gL;exact zAl gL
   subst this;have h5:=c9 ss[i] (zAh hi);have sT:=sm.updR (o:=.tup [V.int i,V.ref tr]) nT;refine⟨T0,_,rfl,SqT.of aj,rfl,_,_,rfl,_,_,rfl,rfl,?_⟩;refine⟨_,rfl,_,rfl,_,rfl,i,rfl,ah,xs,rfl,SqT.of (sT _ _ rs.e),fun hw=>?_,fun _ p KO=>?_⟩
   .have:=hw.2;rw[HT.sIx_nat]at this;exact absurd this Zz
   rw[nA (Nat.le_of_lt NO)];have sp:=sT.updR (o:=.tup (xs.take i)) KO;refine⟨_,rfl,ap,xp,ps,p,xs.take i,ss.take i,tr,ss[i],rfl,rp.same sp,okp,(rs.same sT).cut i KO,?_,?_,sp _ _ fh,h5,fun H' s'=>⟨_,rfl,?_⟩⟩
   .rw[zAd];lia
   .intro s cm;obtain⟨j,hj,e'⟩:=List.getElem_of_mem cm;rw[zAd]at hj;have NQ:j<i:=Zz
    have KP:j<ss.length:=Zz
    have e2:ss[j]=s:=by rw[<-e',List.getElem_take]
    rw[<-e2];have:=hh j NQ;rw[getD_get KP]at this;exact jA (c9 _ (zAh KP)) this
   .cases eh:dz ps (ss.take i) ss[i]with
    |false=>
     refine bV ⟨_,rfl,?_⟩;have:=q H' (mS.trans (sp.trans s'));rw[rN hh hi (by rw[getD_get hi];exact eh)]at this;exact this
    |true=>
     refine bO ⟨_,_,rfl,sp.trans s',fun j hj=>?_⟩;rcases Nat.lt_succ_iff_lt_or_eq.mp hj with z|z
     .exact hh j z
     .rw[z,getD_get hi];exact eh
  .rintro σ Hc ⟨x2,x3,rfl,sm,hh⟩;have:=q Hc (mS.trans sm);rw[wZ fun j hj=>hh j (by rw[rs.l];exact hj)]at this;exact this
theorem sc27s:FnScope ["thing","clips","promises","sales"] ["thing"] (aM (top 33)):=fQS
theorem Ea(F:Fun K "is_book" "is_book" (top 33) f fd)(c0:Cal P w K mg base 1 "is_tuple_of" ["thing","fewest","most"] (lB bA))(c1:Cal P w K mg base 4 "are_clips" ["thing"] (spT ig))(c2:Cal P w K mg base 4 "are_promises" ["thing"] (spT eG))(c3:Cal P w K mg base 3 "are_sales" ["thing"] (spT eO))(c4:Cal P w K mg base 5 "first_unheld" ["promises","sales"] wY):
  FnOk P w K mg base CX0 6 f fd ["thing"] (spT jB):=by
 refine F.ok sc27s (fun vs H Q E h=>?_) (fun ax A outer s H vs Q E hr h=>?_)
 .obtain⟨S,v,d,rfl,_⟩:=h;rfl
 .obtain⟨S,v,d,rfl,th,hz,q⟩:=h
  refine⟨_,aA (cQ (cP (dZ (aK c0 hr (au (pv 0) (au aB (au aB ao)))))) (aD (aQ j8)) bB)
   (aA (cG (pv 0) (bK rfl (aq (pgn 1 sc27s.nd) (aq (pgn 2 sc27s.nd) (aq (pgn 3 sc27s.nd) aX)))))
   (aD (aQ (cA (aK c1 hr (au (pv 1) ao)) (cA (aK c2 hr (au (pv 2) ao)) (cA (aK c3 hr (au (pv 3) ao)) (dM (j9 zH (aK c4 hr (au (pv 2) (au (pv 3) ao))) qy (bQ _))))))))),?_⟩
  have fin:=q;unfold jB at fin;refine aG ?_;refine⟨_,rfl,S,v,d,3,3,rfl,th,hz,fun H1 s1=>⟨_,rfl,?_⟩⟩
  cases e:bA d 3 3 with
  |false=>
   rw[e]at fin;exact bV (fin _ s1)
  |true=>
   rw[e]at fin;refine bO (cD ?_);dsimp only;obtain⟨ds,rfl,l1,l2⟩:=jT e;have fT:=th.same s1
   cases fT with
   |@tup a xs _ ea r=>
    obtain⟨v0,v1,v2,d0,d1,d2,rfl,rfl,h0,h1,h2⟩:=yK r (show ds.length=3 by lia);have z0:=jy (d:=d0) Zy hz;have z1:=jy (d:=d1) Zy hz;have z2:=jy (d:=d2) Zy hz;refine aG ?_;refine⟨_,rfl,a,_,rfl,SqT.of ea,rfl,_,_,rfl,_,_,rfl,_,_,rfl,rfl,?_⟩;dsimp only;have fin:∀H',Same H H'->Q (.bl (true&&(ig d0&&(eG d1&&(eO d2&&(un (rowsOf d1) (rowsOf d2)).isNone))))) H':=fin;refine⟨_,rfl,S,_,d0,rfl,h0,z0,fun H2 s2=>⟨_,rfl,?_⟩⟩
    cases e0:ig d0 with
    |false=>
     rw[e0]at fin;exact bO (fin _ (s1.trans s2))
    |true=>
     rw[e0]at fin;refine bV ?_;refine⟨_,rfl,S,_,d1,rfl,h1.same s2,z1,fun H3 s3=>⟨_,rfl,?_⟩⟩
     cases e1:eG d1 with
     |false=>
      rw[e1]at fin;exact bO (fin _ ((s1.trans s2).trans s3))
     |true=>
      rw[e1]at fin;refine bV ?_;refine⟨_,rfl,S,_,d2,rfl,h2.same (s2.trans s3),z2,fun H4 s4=>⟨_,rfl,?_⟩⟩
      cases e2:eO d2 with
      |false=>
       rw[e2]at fin;exact bO (fin _ (((s1.trans s2).trans s3).trans s4))
      |true=>
       rw[e2]at fin;refine bV ?_;have D8:=(s2.trans s3).trans s4;refine⟨_,rfl,_,rfl,S,_,d1,S,_,d2,rfl,h1.same D8,h2.same D8,e1,e2,z1,z2,fun H5 s5=>⟨rfl,?_⟩⟩;have:=fin H5 (s1.trans (D8.trans s5))
       cases eu:un (rowsOf d1) (rowsOf d2)with
       |none=>
        rw[eu]at this;exact this
       |some i=>
        rw[eu]at this;exact this
def Els(H:Hp)(xs:List V)(rs:List (List Int)):Prop:=xs.length=rs.length/\∀(i:Nat) (r:List Int),rs[i]?=some r->∃t,xs[i]?=some (V.ref t)/\H t=some (.tup (r.map V.int))
theorem Els.keep{H H':Hp}{xs:List V}{rs:List (List Int)}(h:Els H xs rs)(k:∀b l,H b=some (.tup l)->H' b=some (.tup l)):Els H' xs rs:=
 ⟨h.1,fun i r e=>by
  obtain⟨t,e1,e2⟩:=h.2 i r e
  exact⟨t,e1,k _ _ e2⟩⟩
theorem Els.same{H H':Hp}{xs:List V}{rs:List (List Int)}(h:Els H xs rs)(s:Same H H'):Els H' xs rs:=h.keep fun _ _ e=>s _ _ e
theorem Els.nil{H:Hp}:Els H [] []:=⟨rfl,fun i r e=>by simp at e⟩
theorem Els.app{H:Hp}{xs ys:List V}{rs qs:List (List Int)}(h:Els H xs rs)(g:Els H ys qs):Els H (xs++ys) (rs++qs):=by
 refine⟨by rw[zA2,zA2,h.1,g.1],fun i r e=>?_⟩;by_cases hi:i<rs.length
 .rw[zBa hi]at e;obtain⟨t,e1,e2⟩:=h.2 i r e;exact⟨t,by rw[zBa (by rw[h.1];exact hi)];exact e1,e2⟩
 .rw[zB9 Zz]at e;obtain⟨t,e1,e2⟩:=g.2 _ r e;exact⟨t,by rw[zB9 (by rw[h.1];lia),h.1];exact e1,e2⟩
theorem Els.one{H:Hp}{t:Addr}{r:List Int}(e:H t=some (.tup (r.map V.int))):Els H [.ref t] [r]:=⟨rfl,fun i q e'=>by
 cases i with
 |zero=>
  rw[List.getElem?_cons_zero]at e';cases e';exact⟨t,rfl,e⟩
 |succ i=>simp at e'⟩
theorem dI{r:List Int}(h:r.length=4):r=[fl r 0,fl r 1,fl r 2,fl r 3]:=by
 match r,h with
 |[a,b,c,d],_=>rfl
theorem Kr{t:TS}{D:Ends}{N:L2.St->Hp->Prop}{σ:L2.St}{H:Hp}(h:∀D':Ends,(∀σ H,N σ H->D'.nx σ H)->t D' σ H):t {D with nx:=N,ct:=N,bk:=D.nx} σ H:=h _ fun _ _ z=>z
theorem bZ{J:It}{g:TG}{te:TE}{eC:St}{H0:Hp}{Fin:List V->Hp->Prop}(n:Nat)(Pv:Nat->List V->St->Hp->Prop)(h0:Pv 0 [] eC H0)(hz:n<sizeLine)
  (step:∀i ys σ H,i<n->ys.length=i->Pv i ys σ H->J.go i H/\∀x H',J.yld i H x H'->∀R:V->St->Hp->Prop,(∀y aS H4,Pv (i+1) (ys++[y]) aS H4->R y aS H4)->g x σ H' fun aS H2=>te aS H2 fun y H4=>R y aS H4)
  (fin:∀ys σ H,ys.length=n->Pv n ys σ H->J.stop n H/\Fin ys H):kI J g sX te Fin eC H0:=by
 refine⟨fun i m ys σ H=>m=n-i/\i<=n/\ys.length=i/\Pv i ys σ H,⟨_,rfl,zAp _,rfl,h0⟩,?_⟩;rintro i m ys σ H ⟨rfl,hi,hy,p⟩;refine⟨Zz,?_⟩;by_cases bp:i<n
 .obtain⟨go,st⟩:=step i ys σ H bp hy p;exact .inr ⟨go,fun x H' y=>st x H' y _ fun y aS H4 p2=>⟨n-(i+1),Zz,rfl,bp,by rw[zA2,hy];rfl,p2⟩⟩
 .have e:i=n:=Zz
  subst e;exact .inl (fin ys σ H hy p)
def wts(rs:List (List Int)):List Int:=rs.map fun r=>fl r 3
def aN(rs:List (List Int)):Int:=(wts rs).sum
inductive SpSacksI(vs:List V)(H:Hp)(Q:VK):Prop
 |mk:∀l xs rs,(vs=[.ref l])->(H l=some (.lst xs))->(Els H xs rs)->((∀r∈rs,r.length=4))->(rs.length<=100000)->(∀H',Same H H'->Q (.int (aN rs)) H')->SpSacksI  vs H Q
def lM:Sp:=fun vs H Q _=>SpSacksI  vs H Q
theorem boot_sum:bootBuiltins "sum"=some (.builtin "sum"):=by decide +kernel
theorem nd4:(["due","number","holder","sacks"]:List Str).Nodup:=by decide +kernel
theorem Ks:FnScope ["rows"] ["rows"] (aM (top 44)):=fQS
theorem Bb(F:Fun K "sacks_of" "sacks_of" (top 44) f fd)(Ts:mg "sum"=none):FnOk P w K mg base CX0 1 f fd ["rows"] lM:=by
 refine F.ok Ks (fun vs H Q E h=>?_) (fun ax A outer s H vs Q E hr h=>?_)
 .obtain⟨l,xs,rs,rfl,_⟩:=h;rfl
 .obtain⟨l,xs,rs,rfl,el,fm,h4,hz,q⟩:=h
  refine⟨_,aD (aQ (aP (cZ rfl) rfl Ts boot_sum (au (bG (g:=lq K 4 (cz (bH 0) (cz (bH 1) (cz (bH 2) (cz (bH 3) lV))))) ["due","number","holder","sacks"] [none,none,none,none] rfl (dG (pv 0))
   (fun C fp Zt s₂ H₂=>⟨dU rfl rfl (aq (pgn 0 nd4) (aq (pgn 1 nd4) (aq (pgn 2 nd4) (aq (pgn 3 nd4) aX)))),bu,pv 3⟩) (fun C=>trivial) ⟨rfl,rfl,rfl,rfl⟩) ao))),?_⟩
  refine⟨_,rfl,l,rfl,⟨_,SqL.of el⟩,bZ rs.length (fun i ys σ Hc=>Same H Hc/\(∃o1 o2 o3 o4,σ=[o1,o2,o3,o4])/\ys=(wts (rs.take i)).map V.int) ⟨Same.refl H,⟨_,_,_,_,rfl⟩,rfl⟩ Zu ?_ ?_⟩
  .rintro i ys σ Hc hi hy ⟨s1,⟨o1,o2,o3,o4,rfl⟩,rfl⟩;obtain⟨t,ex,et⟩:=fm.2 i rs[i] (zA0 hi);rw[dI (h4 _ (zAh hi))]at et;refine⟨⟨_,_,SqL.of (s1 _ _ el),ex⟩,fun v H' y R hR=>?_⟩;obtain⟨rfl,y⟩:=y;have hv:=y _ (SqL.of (s1 _ _ el));rw[ex]at hv;cases hv;refine⟨t,_,rfl,SqT.of (s1 _ _ et),rfl,_,_,rfl,_,_,rfl,_,_,rfl,_,_,rfl,rfl,_,rfl,hR _ _ _ ⟨s1,⟨_,_,_,_,rfl⟩,?_⟩⟩;unfold wts;rw[zAj,zA0 hi,zA4,zA4];rfl
  .rintro ys σ Hc hy ⟨s1,_,rfl⟩;refine⟨⟨_,SqL.of (s1 _ _ el),by rw[fm.1];exact zA3 _⟩,fun D hD=>?_⟩;rw[zAm];exact⟨D,wts rs,rfl,.inl (SqL.of aj),q _ (s1.updR hD)⟩
end K42
open K42 (top dh items intOf bA nd1 Ao rG rH jy fu spT lB Mg boot_tuple boot_all dw Cal aK oK boot_sum bZ sc1 iD nA)
namespace K42P
open PySem L2
structure Nums(mg:Str->Option Value):Prop where
 many:∃t,mg "MOST_WEIGHTS"=some (.int 80 t)
 most:∃t,mg "MOST_WEIGHT"=some (.int 99 t)
def ir(d:PyData):Bool:=bA d 1 80&&(items d).all fun x=>oK x 1 99
theorem boot_sorted:bootBuiltins "sorted"=some (.builtin "sorted"):=by decide +kernel
theorem nd2(x y:Str)(h:x≠y):([x,y]:List Str).Nodup:=by simp[h]
section
variable{P:Program}{w:World}{K:Frag}{mg:Str->Option Value}{base:Heap}{f:Addr}{fd:FuncData}
theorem sc19:FnScope ["thing"] ["thing"] (aM (top 38)):=fQS
theorem ok_are_weights(F:Fun K "are_weights" "are_weights" (top 38) f fd)(T:Mg mg)(N:Nums mg)(c1:Cal P w K mg base 2 "is_whole_from" ["thing","least","most"] (lB oK))(c2:Cal P w K mg base 1 "is_tuple_of" ["thing","fewest","most"] (lB bA)):
  FnOk P w K mg base CX0 4 f fd ["thing"] (spT ir):=by
 refine F.ok sc19 (fun vs H Q E h=>?_) (fun ax A outer s H vs Q E hr h=>?_)
 .obtain⟨S,v,d,rfl,_⟩:=h;rfl
 .obtain⟨S,v,d,rfl,th,hz,q⟩:=h;obtain⟨t3,e3⟩:=N.many;obtain⟨t4,e4⟩:=N.most
  refine⟨_,aD (aQ (cA (aK c2 hr (aR (pv 0) (aR aB (aR (bM (v:=.int 80) rfl e3 ⟨_,rfl⟩) ao))))
   (dM (aP (dW rfl) rfl T.all boot_all (aR (bG ["part"] [none] rfl (fU (pv 0))
    (fun C fp Zt s₂ H₂=>⟨bf (i:=0) (nd1 _) rfl (Or.inl rfl),bu,aK c1 hr (aR (pv 0) (aR aB (aR (bM (v:=.int 99) rfl e4 ⟨_,rfl⟩) ao)))⟩) (fun C=>trivial) ⟨rfl,rfl,rfl,rfl⟩) ao))))),?_⟩
  refine⟨_,rfl,S,v,d,1,80,rfl,th,hz,fun H1 s1=>⟨_,rfl,?_⟩⟩;have fT:=th.same s1;have fin:=fun H' (s:Same H H')=>q H' s;unfold ir at fin
  cases e:bA d 1 80 with
  |false=>
   rw[e]at fin;exact bO (fin _ s1)
  |true=>
   rw[e]at fin;refine bV ?_
   cases fT with
   |@tup a xs ds ea r=>exact dw (fun x=>oK x 1 99) rfl ea r (fu r hz) (fun v d H2 Q2 hm s2 t2 q2=>⟨_,rfl,S,v,d,1,99,rfl,t2,jy hm hz,q2⟩) fun H2 s2=>fin _ (s1.trans s2)
   |_=>cases e
end
section
variable{X:Cx}{K:Frag}{tg l:Expr}{tl:TE}
theorem pi_listK(hK:X.K=K)(hl:PE X l tl):PI X tg l (Fo K tl):=by
 subst hK;exact dG hl
theorem ix_tupK(hK:X.K=K):IxR X (IW K):=by
 subst hK;exact bL
end
section
variable{P:Program}{w:World}{K:Frag}{mg:Str->Option Value}{base:Heap}{f:Addr}{fd:FuncData}
end
theorem ok_b{X:Cx}{body:List Stmt}{t:TS}{R:TS->Prop}(h:BSs X body t)(q:R t):∃t,PSs X body t/\R t:=⟨t,h.run,q⟩
def rr(rs:List Int)(i:Nat):Int:=rs.getD i 0
def bef(rs:List Int)(i j:Nat):Bool:=decide (rr rs j<rr rs i)||(decide (rr rs i=rr rs j)&&decide (i<=j))
theorem jC{rs:List Int}{i j:Nat}:bef rs i j=true↔rr rs j<rr rs i\/(rr rs i=rr rs j/\i<=j):=by
 unfold bef;rw[Bool.or_eq_true,zAc,decide_eq_true_iff,decide_eq_true_iff,decide_eq_true_iff]
structure Ord(rs:List Int)(pl:List Nat):Prop where
 pm:pl.Perm (List.range rs.length)
 so:pl.Pairwise fun i j=>bef rs i j=true
theorem iu(rs:List Int):∃pl,Ord rs pl:=by
 refine⟨(List.range rs.length).mergeSort (bef rs),List.mergeSort_perm _ _,List.pairwise_mergeSort (fun a b c h1 h2=>?_) (fun a b=>?_) _⟩
 .rw[jC]at h1 h2⊢;lia
 .rw[Bool.or_eq_true,jC,jC];lia
theorem Hx{rs:List Int}{p q:List Nat}(h:Ord rs p)(h':Ord rs q):p=q:=by
 refine List.Perm.eq_of_pairwise (fun a b _ _ h1 h2=>?_) h.so h'.so (h.pm.trans h'.pm.symm);rw[jC]at h1 h2;lia
def dD(fs:List Int)(pl:List Nat):List Int:=pl.foldl (fun l i=>l.set i (l.getD i 0+1)) fs
theorem vI(fs:List Int)(pl:List Nat)(i:Nat):dD fs (pl++[i])=(dD fs pl).set i ((dD fs pl).getD i 0+1):=by
 unfold dD;rw[List.foldl_append];rfl
theorem jW:∀(pl:List Nat) (fs:List Int),(dD fs pl).length=fs.length
 |[],_=>rfl
 |i::pl,fs=>by
  show(dD (fs.set i _) pl).length=_;rw[jW pl,List.length_set]
def fs(n:Int)(ws:List Int):List Int:=ws.map fun w=>n*w / ws.sum
def rs(n:Int)(ws:List Int):List Int:=ws.map fun w=>n*w % ws.sum
def lf(n:Int)(ws:List Int):Int:=n-(fs n ws).sum
def OkW(ws:List Int):Prop:=1<=ws.length/\ws.length<=80/\∀w∈ws,1<=w/\w<=99
theorem rO{B:Int}:∀{l:List Int},(∀a∈l,a<=B)->l.sum<=B*l.length
 |[],_=>by simp
 |a::l,h=>by
  have h1:=rO (B:=B) (l:=l) fun b hb=>h b (.tail _ hb);have h2:=h a (.head _);rw[List.sum_cons,List.length_cons,show B*((l.length+1:Nat):Int)=B*l.length+B by rw[Int.natCast_add,Int.mul_add];simp];lia
theorem gC:∀{l:List Int},(∀a∈l,0<=a)->0<=l.sum
 |[],_=>by simp
 |a::l,h=>by
  have h1:=gC (l:=l) fun b hb=>h b (.tail _ hb);have h2:=h a (.head _);rw[List.sum_cons];lia
theorem OkW.pos{ws:List Int}(h:OkW ws):1<=ws.sum:=by
 obtain⟨h1,_,h3⟩:=h
 match ws,h1,h3 with
 |w::ws,_,h3=>
  have:=gC (l:=ws) fun a ha=>by have:=h3 a (.tail _ ha);lia
  have:=h3 w (.head _);rw[List.sum_cons];lia
theorem OkW.top{ws:List Int}(h:OkW ws):ws.sum<=7920:=by
 have h1:=rO (B:=99) fun a ha=>(h.2.2 a ha).2;have:=h.2.1;lia
theorem divs(n T:Int):∀ws:List Int,T*(ws.map fun w=>n*w / T).sum+(ws.map fun w=>n*w % T).sum=n*ws.sum
 |[]=>by simp
 |w::ws=>by
  have h1:=divs n T ws;have h2:=Int.mul_ediv_add_emod (n*w) T;simp only[List.map_cons,List.sum_cons,Int.mul_add];lia
theorem Hy(n:Int)(ws:List Int):ws.sum*lf n ws=(rs n ws).sum:=by
 have h:=divs n ws.sum ws;unfold lf fs rs;rw[Int.mul_sub,Int.mul_comm ws.sum n];lia
theorem Js{n:Int}{ws:List Int}(h:OkW ws):∀r∈rs n ws,0<=r:=fun r hr=>by
 obtain⟨w,_,rfl⟩:=zA5.mp hr;have:=h.pos;exact Int.emod_nonneg _ Zz
theorem Jt{n:Int}{ws:List Int}(h:OkW ws):∀r∈rs n ws,r<=ws.sum:=fun r hr=>by
 obtain⟨w,_,rfl⟩:=zA5.mp hr;have:=h.pos;exact Int.le_of_lt (Int.emod_lt_of_pos _ Zz)
theorem rP(n:Int)(ws:List Int):(fs n ws).length=ws.length:=zA1 _
theorem jX(n:Int)(ws:List Int):(rs n ws).length=ws.length:=zA1 _
theorem Bd{n:Int}{ws:List Int}(h:OkW ws):0<=lf n ws:=by
 have h1:=Hy n ws;have h2:=gC (Js (n:=n) h);have h3:=h.pos;refine Int.le_of_not_gt fun c=>?_;have:=Int.mul_le_mul_of_nonneg_left (c:=ws.sum) (show lf n ws<=-1 by lia) Zz;lia
theorem FW{n:Int}{ws:List Int}(h:OkW ws):lf n ws<=ws.length:=by
 have h1:=Hy n ws;have h2:=rO (Jt (n:=n) h);rw[jX]at h2;have h3:=h.pos;refine Int.le_of_not_gt fun c=>?_;have:=Int.mul_le_mul_of_nonneg_left (c:=ws.sum) (show(ws.length:Int)+1<=lf n ws by lia) Zz;rw[Int.mul_add]at this;lia
theorem HB{ws:List Int}(h:OkW ws):lf ws.sum ws=0:=by
 have h1:=Hy ws.sum ws
 have h2:(rs ws.sum ws).sum<=0:=by
  have:=rO (B:=0) (l:=rs ws.sum ws) fun r hr=>by
   obtain⟨w,_,rfl⟩:=zA5.mp hr;rw[Int.mul_emod_right];exact Int.le_refl _
  lia
 have h3:=h.pos;have h4:=Bd (n:=ws.sum) h;refine Int.le_antisymm (Int.le_of_not_gt fun c=>?_) h4;have:=Int.mul_le_mul_of_nonneg_left (c:=ws.sum) (show 1<=lf ws.sum ws by lia) Zz;lia
theorem pZ:∀(pl:List Nat) (l:List Int) (i:Nat),i<l.length->(dD l pl).getD i 0=l.getD i 0+pl.count i
 |[],l,i,_=>by simp[dD]
 |j::pl,l,i,h=>by
  show(dD (l.set j (l.getD j 0+1)) pl).getD i 0=_;rw[pZ pl _ i (by rw[List.length_set];exact h),List.count_cons];by_cases e:j=i
  .subst e;rw[zA7,List.getElem?_set_self h,Option.getD_some,beq_self_eq_true,zAx rfl];lia
  .rw[List.getD_eq_getElem?_getD,List.getElem?_set_ne e,<-List.getD_eq_getElem?_getD,if_neg (by simp[e])];lia
theorem Ord.nd{r:List Int}{pl:List Nat}(h:Ord r pl):pl.Nodup:=h.pm.nodup_iff.mpr List.nodup_range
theorem Ord.len{r:List Int}{pl:List Nat}(h:Ord r pl):pl.length=r.length:=by rw[h.pm.length_eq,List.length_range]
theorem Ord.lt{r:List Int}{pl:List Nat}(h:Ord r pl):∀i∈pl,i<r.length:=fun i hi=>List.mem_range.mp (h.pm.mem_iff.mp hi)
def res(n:Int)(ws:List Int):List Int:=dD (fs n ws) ((iu (rs n ws)).choose.take (lf n ws).toNat)
theorem HF{n:Int}{ws:List Int}{pl:List Nat}(h:Ord (rs n ws) pl):dD (fs n ws) (pl.take (lf n ws).toNat)=res n ws:=by
 unfold res;rw[Hx h (iu (rs n ws)).choose_spec]
theorem res_len(n:Int)(ws:List Int):(res n ws).length=ws.length:=by
 unfold res;rw[jW,rP]
theorem res_get{n:Int}{ws:List Int}(h:OkW ws)(n0:0<=n)(n1:n<=ws.sum){i:Nat}{r w:Int}(hr:(res n ws)[i]?=some r)(hw:ws[i]?=some w):0<=r/\r<=w:=by
 have hi:i<ws.length:=(zAa.mp hw).1;have hp:=h.pos;have ww:=h.2.2 w (zB8 hw)
 have e:r=n*w / ws.sum+((iu (rs n ws)).choose.take (lf n ws).toNat).count i:=by
  have:=pZ ((iu (rs n ws)).choose.take (lf n ws).toNat) (fs n ws) i (by rw[rP];exact hi)
  have e2:(fs n ws).getD i 0=n*w / ws.sum:=by
   unfold fs;rw[zA7,zAb,hw];rfl
  rw[e2]at this;rw[<-this,show dD (fs n ws) _=res n ws from rfl,zA7,hr];rfl
 have c1:((iu (rs n ws)).choose.take (lf n ws).toNat).count i<=1:=List.nodup_iff_count.mp ((iu (rs n ws)).choose_spec.nd.sublist (List.take_sublist _ _)) i;have q0:0<=n*w / ws.sum:=Int.ediv_nonneg (Int.mul_nonneg n0 Zz) Zz;refine⟨Zz,?_⟩;by_cases en:n=ws.sum
 .have:((iu (rs n ws)).choose.take (lf n ws).toNat)=[]:=by
   rw[en,HB h];rfl
  rw[this]at e;rw[en,Int.mul_ediv_cancel_left _ Zz]at e;simp at e;lia
 .have:n*w / ws.sum<w:=by
   refine Int.ediv_lt_of_lt_mul Zz ?_;rw[Int.mul_comm w];exact Int.mul_lt_mul_of_pos_right Zz Zz
  lia
theorem q9{K:Frag}{te:TE}{p:Addr}{ws:List Int}{eC:St}{H0:Hp}{Fin:List V->Hp->Prop}(f:Int->Int)(ep:H0 p=some (.tup (ws.map V.int)))(hl:ws.length<sizeLine)
  (xC:∀(z:Int) (Q:VK),z∈ws->Q (.int (f z)) H0->te (eC.set 0 (some (.int z))) H0 Q) (fin:Fin ((ws.map f).map V.int) H0):kI (Itt K p) (bH 0) sX te Fin eC H0:=by
 refine bZ ws.length (fun i ys σ H=>H=H0/\(∀o,σ.set 0 o=eC.set 0 o)/\ys=((ws.take i).map f).map V.int) ⟨rfl,fun _=>rfl,rfl⟩ hl ?_ ?_
 .rintro i ys σ H hi hy ⟨rfl,kS,rfl⟩;have hz:(ws.map V.int)[i]?=some (.int ws[i]):=by rw[zAb,zA0 hi];rfl
  refine⟨⟨_,_,SqT.of ep,hz⟩,fun v H' y' R hR=>?_⟩;obtain⟨rfl,y'⟩:=y';have hv:=y' _ (SqT.of ep);rw[hz]at hv;cases hv;show te (σ.set 0 (some (.int ws[i]))) _ _;rw[kS];refine xC ws[i] _ (zAh hi) (hR _ _ _ ⟨rfl,fun o=>by rw[List.set_set],?_⟩);rw[zAj,zA0 hi,zA4,zA4];rfl
 .rintro ys σ H hy ⟨rfl,kS,rfl⟩;refine⟨⟨_,SqT.of ep,by rw[zA1];exact zA3 _⟩,?_⟩;rw[zAm];exact fin
def wD(ws:List Int):PyData:=.tuple (ws.map PyData.int)
theorem um:∀(r:List Int),szs (r.map PyData.int)=r.length
 |[]=>rfl
 |_::r=>by
  show 1+szs (r.map PyData.int)=r.length+1;rw[um r,Nat.add_comm]
theorem Ku(ws:List Int):sz (wD ws)=1+ws.length:=by
 show 1+szs (ws.map PyData.int)=_;rw[um]
theorem Kv{ws:List Int}(h:OkW ws):ir (wD ws)=true:=by
 unfold ir;rw[zAc];refine⟨?_,List.all_eq_true.mpr fun d hd=>?_⟩
 .show(true&&(decide (1<=((ws.map PyData.int).length:Int))&&decide (((ws.map PyData.int).length:Int)<=80)))=true;have h1:=h.1;have h2:=h.2.1;rw[zA1,zAu Zz,zAu Zz];rfl
 .obtain⟨w,hw,rfl⟩:=zA5.mp hd;have:=h.2.2 w hw;show(true&&(decide (1<=w)&&decide (w<=99)))=true;rw[zAu this.1,zAu this.2];rfl
inductive SpRefuseI(vs:List V)(H:Hp)(Q:VK):Prop
 |mk:∀n p ws,(vs=[.int n,.ref p])->(H p=some (.tup (ws.map V.int)))->(OkW ws)->(0<=n)->(n<=ws.sum)->(∀H',Same H H'->Q .non H')->SpRefuseI  vs H Q
def uo:Sp:=fun vs H Q _=>SpRefuseI  vs H Q
inductive SpPlacesI(vs:List V)(H:Hp)(Q:VK):Prop
 |mk:∀p rests,(vs=[.ref p])->(H p=some (.lst ((rests:List Int).map V.int)))->(rests.length<sizeLine)->(∀H' q pl,Ord rests pl->Same H H'->H q=none->H' q=some (.lst (pl.map fun j:Nat=>V.int (j:Int)))->Q (.ref q) H')->SpPlacesI  vs H Q
def uq:Sp:=fun vs H Q _=>SpPlacesI  vs H Q
inductive SpPartsI(vs:List V)(H:Hp)(Q:VK):Prop
 |mk:∀n p ws,(vs=[.int n,.ref p])->(H p=some (.tup (ws.map V.int)))->(OkW ws)->(0<=n)->(n<=ws.sum)->(∀H' q,Same H H'->H' q=some (.tup ((res n ws).map V.int))->Q (.ref q) H')->SpPartsI  vs H Q
def spParts:Sp:=fun vs H Q _=>SpPartsI  vs H Q
def gF(H:Hp)(a:Addr):Nat:=match H a with
 |some (.tup [_,.int y])=>y.toNat
 |_=>0
def rowAt(H:Hp)(a:Addr):List Int:=match H a with
 |some (.tup [.int x,.int y])=>[x,y]
 |_=>[]
theorem Ju{rests:List Int}{i:Nat}{x:Int}(h:rests[i]?=some x):rr rests i=x:=by
 unfold rr;rw[zA7,h];rfl
theorem Eb{rests:List Int}{i j:Nat}(h:HT.lexLt [-(rr rests j),(j:Int)] [-(rr rests i),(i:Int)]=false):bef rests i j=true:=by
 rw[jC];rw[HT.lexLt_cons]at h;by_cases e:-(rr rests j)=-(rr rests i)
 .rw[zAx e,HT.lexLt_cons]at h;by_cases e2:(j:Int)=(i:Int)
  .exact .inr ⟨Zz,Zz⟩
  .rw[zAw e2]at h;have:=of_decide_eq_false h;exact .inr ⟨Zz,Zz⟩
 .rw[zAw e]at h;have:=of_decide_eq_false h;exact .inl Zz
section
variable{P:Program}{w:World}{K:Frag}{mg:Str->Option Value}{base:Heap}{f:Addr}{fd:FuncData}
theorem Kw:FnScope ["sacks","weights"] ["sacks","weights"] (aM (top 39)):=fQS
theorem ok_refuse(F:Fun K "refuse_unpartable" "refuse_unpartable" (top 39) f fd)(Ts:mg "sum"=none)(c1:Cal P w K mg base 4 "are_weights" ["thing"] (spT ir))(c2:Cal P w K mg base 2 "is_whole_from" ["thing","least","most"] (lB oK)):
  FnOk P w K mg base CX0 5 f fd ["sacks","weights"] uo:=by
 refine F.ok Kw (fun vs H Q E h=>?_) (fun ax A outer s H vs Q E hr h=>?_)
 .obtain⟨n,p,ws,rfl,_⟩:=h;rfl
 .obtain⟨n,p,ws,rfl,ep,ok,n0,n1,q⟩:=h
  refine⟨_,aA (cQ (cP (dZ (aK c1 hr (aR (pv 1) ao)))) (aD gM) bB)
   (aD (cQ (cP (dZ (aK c2 hr (aR (pv 0) (aR aB (aR (aP (cZ rfl) rfl Ts boot_sum (au (pv 1) ao)) ao)))))) (aD gM) bB)),?_⟩
  refine aG ?_;refine⟨_,rfl,fun _=>False,_,wD ws,rfl,.tup ep (IsThs.ints ws),by rw[Ku];have:=ok.2.1;lia,fun H1 s1=>⟨_,rfl,?_⟩⟩;rw[Kv ok];refine bO ?_;dsimp only;refine⟨_,rfl,_,rfl,p,ws,rfl,.inr (SqT.of (s1 _ _ ep)),fun _=>False,_,.int n,0,_,rfl,.int n,(by show 1<=4000;decide),fun H2 s2=>⟨_,rfl,?_⟩⟩
  have e:oK (.int n) 0 ws.sum=true:=by
   show(true&&(decide (0<=n)&&decide (n<=ws.sum)))=true;rw[zAu n0,zAu n1];rfl
  rw[e];exact bO (q H2 (s1.trans s2))
theorem sc13:FnScope ["rests","ranked"] ["rests"] (aM (top 40)):=fQS
theorem ok_places(F:Fun K "places_by_rest" "places_by_rest" (top 40) f fd)(Te:mg "enumerate"=none)(Ts:mg "sorted"=none):FnOk P w K mg base CX0 1 f fd ["rests"] uq:=by
 refine F.ok sc13 (fun vs H Q E h=>?_) (fun ax A outer s H vs Q E hr h=>?_)
 .obtain⟨p,rests,rfl,_⟩:=h;rfl
 .obtain⟨p,rests,rfl,ep,hz,q⟩:=h
  refine⟨_,aA (pss 1 sc13.nd (aP jw rfl Ts boot_sorted (au (bG (g:=lq K 2 (cz (bH 0) (cz (bH 1) lV))) ["at","rest"] [none,none] rfl (ZT.pi_enum false rfl Te (au (pv 0) ao))
    (fun C fp Zt s₂ H₂=>⟨dU rfl rfl (aq (bf (i:=0) (nd2 _ _ Zx) rfl (Or.inl rfl) (Or.inr rfl)) (aq (bf (i:=1) (nd2 _ _ Zx) rfl (Or.inl rfl) (Or.inr rfl)) aX)),bu,
     bW (au (zF uT (pv 1)) (au (pv 0) ao))⟩) (fun C=>trivial) ⟨rfl,rfl,rfl,rfl⟩) ao)))
   (aD (aQ (bG (g:=lq K 2 (cz (bH 0) (cz (bH 1) lV))) ["minus","at"] [none,none] rfl (dG (pv 1))
    (fun C fp Zt s₂ H₂=>⟨dU rfl rfl (aq (bf (i:=0) (nd2 _ _ Zx) rfl (Or.inl rfl) (Or.inr rfl)) (aq (bf (i:=1) (nd2 _ _ Zx) rfl (Or.inl rfl) (Or.inr rfl)) aX)),bu,
     pv 1⟩) (fun C=>trivial) ⟨rfl,rfl,rfl,rfl⟩))),?_⟩
  refine aG ?_;refine⟨_,rfl,p,_,rfl,SqL.of ep,bZ rests.length (fun i ys σ Hc=>Same H Hc/\(∃o1 o2,σ=[o1,o2])/\∃ts:List Addr,ys=ts.map V.ref/\∀j,j<i->∃a,ts[j]?=some a/\Hc a=some (.tup [.int (-(rr rests j)),.int (j:Int)])) ⟨Same.refl H,⟨_,_,rfl⟩,[],rfl,fun j hj=>absurd hj (Nat.not_lt_zero _)⟩ hz ?_ ?_⟩
  .rintro i ys σ Hc hi hy ⟨s1,⟨o1,o2,rfl⟩,ts,rfl,oC⟩;rw[zA1]at hy;have iO:SqL K Hc p (rests.map V.int):=SqL.of (s1 _ _ ep)
   have hx:(rests.map V.int)[i]?=some (.int (rr rests i)):=by
    rw[zAb,zA0 hi,Ju (zA0 hi)];rfl
   refine⟨⟨_,_,iO,hx⟩,fun v H' y R hR=>?_⟩;obtain⟨T,nT,rfl,y⟩:=y;obtain⟨x',ko,rfl⟩:=y _ iO;rw[hx]at ko;cases ko;have s2:=s1.updR (o:=.tup [.int (i:Int),.int (rr rests i)]) nT;refine⟨T,_,rfl,SqT.of aj,rfl,_,_,rfl,_,_,rfl,rfl,_,rfl,rr rests i,rfl,_,rfl,zL,fun t ht=>?_⟩;refine hR _ _ _ ⟨s2.updR ht,⟨_,_,rfl⟩,ts++[t],by rw[zA4];rfl,fun j hj=>?_⟩;by_cases e:j<i
   .obtain⟨a,h1,h2⟩:=oC j e;refine⟨a,by rw[zBa Zz];exact h1,?_⟩;exact Same.upd ht _ _ (Same.upd nT _ _ h2)
   .have e:j=i:=Zz
    subst e;refine⟨t,by rw[zB9 Zz,hy,Nat.sub_self];rfl,aj⟩
  .rintro ys σ Hc hy ⟨s1,_,ts,rfl,oC⟩;rw[zA1]at hy;refine⟨⟨_,SqL.of (s1 _ _ ep),by rw[zA1];exact zA3 _⟩,fun D hD=>?_⟩;have s2:=s1.updR (o:=.lst (ts.map V.ref)) hD
   have rX:∀j,j<rests.length->∃a,ts[j]?=some a/\upd Hc D (.lst (ts.map V.ref)) a=some (.tup [.int (-(rr rests j)),.int (j:Int)]):=fun j hj=>by
    obtain⟨a,h1,h2⟩:=oC j hj;exact⟨a,h1,Same.upd hD _ _ h2⟩
   have eD:=aj (H:=Hc) (a:=D) (o:=.lst (ts.map V.ref));generalize upd Hc D (.lst (ts.map V.ref))=H2 at s2 rX eD⊢;clear oC hD s1
   have oS:∀a∈ts,∃j,j<rests.length/\H2 a=some (.tup [.int (-(rr rests j)),.int (j:Int)]):=fun a ha=>by
    obtain⟨j,hj,e⟩:=List.getElem_of_mem ha;obtain⟨b,h1,h2⟩:=rX j Zz;rw[zA0 hj]at h1;injection h1 with h1;refine⟨j,Zz,?_⟩;rw[<-e,h1];exact h2
   refine⟨D,ts,rowAt H2,rfl,SqL.of eD,fun a ha=>?_,fun q' l' hq pm so=>?_⟩
   .obtain⟨j,hj,e⟩:=oS a ha;have er:rowAt H2 a=[-(rr rests j),(j:Int)]:=by unfold rowAt;rw[e]
    rw[er];exact⟨SqT.of e,by simp⟩
   have tJ:∀a∈l',∃j,j<rests.length/\H2 a=some (.tup [.int (-(rr rests j)),.int (j:Int)]):=fun a ha=>oS a (pm.mem_iff.mp ha)
   have sn:∀a∈l',H2 a=some (.tup [.int (-(rr rests (gF H2 a))),.int (gF H2 a:Int)])/\rowAt H2 a=[-(rr rests (gF H2 a)),(gF H2 a:Int)]:=fun a ha=>by
    obtain⟨j,hj,e⟩:=tJ a ha;have er:rowAt H2 a=[-(rr rests j),(j:Int)]:=by unfold rowAt;rw[e]
    have es:gF H2 a=j:=by unfold gF;rw[e];exact zAi j
    rw[er,es];exact⟨e,rfl⟩
   have ord:Ord rests (l'.map (gF H2)):=by
    refine⟨?_,?_⟩
    .refine(pm.map _).trans (List.Perm.of_eq (List.ext_getElem? fun j=>?_));by_cases hj:j<rests.length
     .obtain⟨a,h1,h2⟩:=rX j hj;rw[zAb,h1,List.getElem?_range hj];show some (gF H2 a)=some j;unfold gF;rw[h2];exact congrArg some (zAi j)
     .rw[List.getElem?_eq_none (by rw[zA1];lia),List.getElem?_eq_none (by rw[List.length_range];lia)]
    .refine List.pairwise_map.mpr (so.imp_of_mem fun{a b} ha hb h=>?_);rw[(sn a ha).2,(sn b hb).2]at h;exact Eb h
   have s3:=s2.updR (o:=.lst (l'.map V.ref)) hq;have TF:l'.length=rests.length:=by rw[pm.length_eq,hy]
   have ze:=aj (H:=H2) (a:=q') (o:=.lst (l'.map V.ref));have D9:∀a∈l',upd H2 q' (.lst (l'.map V.ref)) a=some (.tup [.int (-(rr rests (gF H2 a))),.int (gF H2 a:Int)]):=fun a ha=>Same.upd hq _ _ (sn a ha).1;generalize gF H2=sd at ord D9;generalize upd H2 q' (.lst (l'.map V.ref))=H3 at s3 ze D9⊢;dsimp only;refine gw ?_;refine⟨_,rfl,q',rfl,⟨_,SqL.of ze⟩,bZ rests.length (fun i ys σ Hc=>Same H3 Hc/\(∃o1 o2,σ=[o1,o2])/\ys=((l'.take i).map sd).map fun j:Nat=>V.int (j:Int)) ⟨Same.refl H3,⟨_,_,rfl⟩,rfl⟩ hz ?_ ?_⟩
   .rintro i ys σ Hc hi hy ⟨s4,⟨o1,o2,rfl⟩,rfl⟩;have hX:i<l'.length:=Zz
    have hu:(l'.map V.ref)[i]?=some (.ref l'[i]):=by rw[zAb,zA0 hX];rfl
    refine⟨⟨_,_,SqL.of (s4 _ _ ze),hu⟩,fun v H' y R hR=>?_⟩;obtain⟨rfl,y⟩:=y;have hv:=y _ (SqL.of (s4 _ _ ze));rw[hu]at hv;cases hv;refine⟨l'[i],_,rfl,SqT.of (s4 _ _ (D9 _ (zAh hX))),rfl,_,_,rfl,_,_,rfl,rfl,_,rfl,hR _ _ _ ⟨s4,⟨_,_,rfl⟩,?_⟩⟩;rw[zAj,zA0 hX,zA4,zA4];rfl
   .rintro ys σ Hc tN ⟨s4,_,rfl⟩;refine⟨⟨_,SqL.of (s4 _ _ ze),by rw[zA1];lia⟩,fun D' KS=>?_⟩;have s5:=s3.trans s4;have hn:H D'=none:=s5.free KS;refine q _ D' _ ord (s5.updR KS) hn ?_;rw[aj,List.take_of_length_le Zz]
end
theorem Ec{n j:Nat}(h:j<n):ixN n (j:Int)=some j:=by
 unfold ixN;rw[zAx Zz,zAx Zz,zAi]
theorem HJ{ws:List Int}(ok:OkW ws):ws.length<sizeLine:=by
 have:=ok.2.1;rw[sizeLine_eq];lia
section
variable{P:Program}{w:World}{K:Frag}{mg:Str->Option Value}{base:Heap}{f:Addr}{fd:FuncData}
theorem Jv:(["weight","sacks","together"]:List Str).Nodup:=by decide +kernel
theorem sc14:FnScope ["sacks","weights","together","parts","rests","left","at"] ["sacks","weights"] (aM (top 41)):=fQS
theorem ok_parts(F:Fun K "parts_of" "parts_of" (top 41) f fd)(T:Mg mg)(Ts:mg "sum"=none)(c1:Cal P w K mg base 1 "places_by_rest" ["rests"] uq):FnOk P w K mg base CX0 2 f fd ["sacks","weights"] spParts:=by
 refine F.ok sc14 (fun vs H Q E h=>?_) (fun ax A outer s H vs Q E hr h=>?_)
 .obtain⟨n,p,ws,rfl,_⟩:=h;rfl
 .obtain⟨n,p,ws,rfl,ep,ok,n0,n1,q⟩:=h
  refine⟨_,aA (gO (i:=2) sc14.nd rfl (Or.inr rfl) (aP (cZ rfl) rfl Ts boot_sum (au (pv 1) ao)))
   (aA (iz (i:=3) ["weight","sacks","together"] [none,some 0,some 2] rfl sc14.nd rfl (Or.inl rfl) (fU (pv 1))
    (fun C fp Zt s₂ H₂=>⟨pgn 0 Jv,bu,aV qF (aV gQ (pv 1) (pv 0)) (pv 2)⟩) (fun C=>cI (cI trivial)) ⟨rfl,rfl,rfl,rfl⟩)
   (aA (iz (i:=4) ["weight","sacks","together"] [none,some 0,some 2] rfl sc14.nd rfl (Or.inl rfl) (fU (pv 1))
    (fun C fp Zt s₂ H₂=>⟨pgn 0 Jv,bu,aV fV (aV gQ (pv 1) (pv 0)) (pv 2)⟩) (fun C=>cI (cI trivial)) ⟨rfl,rfl,rfl,rfl⟩)
   (aA (pss 5 sc14.nd (aV eF (pv 0) (aP (cZ rfl) rfl Ts boot_sum (au (pv 3) ao))))
   (aA (bT zB4 rfl (dG (mz Dk (aK c1 hr (au (pv 4) ao)) qG (qH (pv 5)))) (pgn 6 sc14.nd)
    (aD (qD (pv 3) (pv 6) iD aB zx set_list)))
   (aD (aQ (cH cB rfl T.tuple boot_tuple (au (pv 3) ao)))))))),?_⟩
  have hp:=ok.pos;have ht:=ok.top;have zh:=HJ ok;refine aG ?_;refine⟨_,rfl,p,ws,rfl,.inr (SqT.of ep),?_⟩;dsimp only;refine aG ?_;refine⟨_,rfl,p,rfl,⟨_,SqT.of ep⟩,q9 (fun z=>n*z / ws.sum) ep zh (fun z Q hz h=>⟨_,rfl,_,rfl,_,_,rfl,rfl,.inl ⟨Zz,Zz⟩,_,rfl,_,_,rfl,rfl,⟨Zz,Zz⟩,h⟩) ?_⟩;rw[show ws.map (fun z=>n*z / ws.sum)=fs n ws from rfl];intro l1 fN;have s1:=Same.upd (o:=.lst ((fs n ws).map V.int)) fN;have el1:=aj (H:=H) (a:=l1) (o:=.lst ((fs n ws).map V.int));generalize upd H l1 _=H1 at s1 el1⊢;dsimp only;refine aG ?_;refine⟨_,rfl,p,rfl,⟨_,SqT.of (s1 _ _ ep)⟩,q9 (fun z=>n*z % ws.sum) (s1 _ _ ep) zh (fun z Q hz h=>⟨_,rfl,_,rfl,_,_,rfl,rfl,.inl ⟨Zz,Zz⟩,_,rfl,_,_,rfl,rfl,(by show 0<ws.sum;lia),h⟩) ?_⟩;rw[show ws.map (fun z=>n*z % ws.sum)=rs n ws from rfl];intro l2 iS;have s2:=s1.updR (o:=.lst ((rs n ws).map V.int)) iS;have el2:=aj (H:=H1) (a:=l2) (o:=.lst ((rs n ws).map V.int));have lP:=Same.upd (o:=.lst ((rs n ws).map V.int)) iS _ _ el1;have A7:H l1=none:=fN;clear fN iS;generalize upd H1 l2 _=H2 at s2 el2 lP⊢;clear el1 s1;dsimp only;refine aG ?_;refine⟨_,rfl,_,rfl,l1,fs n ws,rfl,.inl (SqL.of lP),_,_,rfl,rfl,?_⟩;show _;dsimp only;rw[show n-(fs n ws).sum=lf n ws from rfl];refine aG ?_;refine⟨_,rfl,l2,rs n ws,rfl,el2,by rw[jX];exact zh,fun H3 l3 pl ord s3 zi el3=>⟨_,rfl,_,rfl,l3,_,rfl,SqL.of el3,fun l4 mf=>⟨l4,rfl,⟨_,SqL.of aj⟩,?_⟩⟩⟩;have TH:=Bd (n:=n) ok;have TJ:=FW (n:=n) ok;have NR:=ord.len;rw[jX]at NR
  have Ee:jb (pl.map fun j:Nat=>V.int (j:Int)) none (some (lf n ws))=(pl.take (lf n ws).toNat).map fun j:Nat=>V.int (j:Int):=by
   rw[List.map_take,<-nA (i:=(lf n ws).toNat) (by rw[zA1];lia),show((lf n ws).toNat:Int)=lf n ws by lia]
  rw[Ee];have fin:=HF ord
  have inr:∀j∈pl.take (lf n ws).toNat,j<ws.length:=fun j hj=>by
   have:=ord.lt j (List.mem_of_mem_take hj);rw[jX]at this;exact this
  generalize pl.take (lf n ws).toNat=pk at fin inr mf⊢;have s4:=(s2.trans s3).updR (o:=.lst (pk.map fun j:Nat=>V.int (j:Int))) mf;have el4:=aj (H:=H3) (a:=l4) (o:=.lst (pk.map fun j:Nat=>V.int (j:Int)));have zk:=Same.upd (o:=.lst (pk.map fun j:Nat=>V.int (j:Int))) mf _ _ (s3 _ _ lP)
  have NS:l4≠l1:=fun z=>by
   rw[z,s3 _ _ lP]at mf;cases mf
  generalize upd H3 l4 (.lst (pk.map fun j:Nat=>V.int (j:Int)))=H4 at s4 el4 zk⊢;clear mf el3 zi s3 lP el2 s2;refine gP (xs:=pk.map fun j:Nat=>V.int (j:Int)) (fun i σ Hc=>∃o6,σ=[some (.int n),some (.ref p),some (.int ws.sum),some (.ref l1),some (.ref l2),some (.int (lf n ws)),o6]/\Same H Hc/\Hc l4=some (.lst (pk.map fun j:Nat=>V.int (j:Int)))/\Hc l1=some (.lst ((dD (fs n ws) (pk.take i)).map V.int))) ?_ ?_ ?_ ?_
  .exact⟨none,rfl,s4,el4,zk⟩
  .rintro i σ Hc hi ⟨o6,rfl,s5,e4,e1⟩;exact SqL.of e4
  .rintro i v σ Hc hv ⟨o6,rfl,s5,e4,e1⟩;rw[zAb]at hv
   cases hj:pk[i]? with
   |none=>rw[hj]at hv;cases hv
   |some j=>
    rw[hj]at hv;cases hv;refine aH ?_
    have kp:∀o,Same H (upd Hc l1 o):=fun o b u e=>by
     rw[az (aC e A7)];exact s5 _ _ e
    have bp:j<(dD (fs n ws) (pk.take i)).length:=by
     rw[jW,rP];exact inr j (zB8 hj)
    have hx:((dD (fs n ws) (pk.take i)).map V.int)[((j:Nat):Int).toNat]?=some (.int ((dD (fs n ws) (pk.take i)).getD j 0)):=by
     rw[zAi,zAb,zA0 bp,zA7,zA0 bp];rfl
    refine⟨_,rfl,_,rfl,l1,_,(j:Int),_,rfl,rfl,SqL.of e1,Zz,hx,_,_,rfl,rfl,l1,_,(j:Int),j,rfl,rfl,e1,Ec (by rw[zA1];exact bp),?_⟩;refine⟨_,rfl,kp _,by rw[az NS];exact e4,?_⟩;rw[aj,zAj,hj];show _=some (HO.lst ((dD (fs n ws) (pk.take i++[j])).map V.int));rw[vI,List.map_set]
  .rintro σ Hc ⟨o6,rfl,s5,e4,e1⟩;rw[zA1,zAm,fin]at e1;dsimp only;refine gw ?_;exact⟨_,rfl,l1,_,rfl,.inl ⟨SqL.of e1,fun t ht=>q _ t (s5.updR ht) aj⟩⟩
theorem sc15:FnScope ["sacks","weights"] ["sacks","weights"] (aM (top 42)):=fQS
theorem ok_parted(F:Fun K "parted" "parted" (top 42) f fd)(c1:Cal P w K mg base 5 "refuse_unpartable" ["sacks","weights"] uo)(c2:Cal P w K mg base 2 "parts_of" ["sacks","weights"] spParts):FnOk P w K mg base CX0 6 f fd ["sacks","weights"] spParts:=by
 refine F.ok sc15 (fun vs H Q E h=>?_) (fun ax A outer s H vs Q E hr h=>?_)
 .obtain⟨n,p,ws,rfl,_⟩:=h;rfl
 .obtain⟨n,p,ws,rfl,ep,ok,n0,n1,q⟩:=h;refine⟨_,aA (cW (aK c1 hr (au (pv 0) (au (pv 1) ao)))) (aD (aQ (aK c2 hr (au (pv 0) (au (pv 1) ao))))),?_⟩;refine aG ?_;refine⟨_,rfl,_,rfl,n,p,ws,rfl,ep,ok,n0,n1,fun H1 s1=>?_⟩;dsimp only;refine gw ?_;exact⟨_,rfl,_,rfl,n,p,ws,rfl,s1 _ _ ep,ok,n0,n1,fun H2 t s2 et=>q H2 t (s1.trans s2) et⟩
end
end K42P
namespace K42
open PySem L2
def cU:Int->List (List Int)->List Int
 |_,[]=>[]
 |w,r::rs=>(if w<fl r 3 then w else fl r 3)::cU (w-(if w<fl r 3 then w else fl r 3)) rs
theorem iZ:∀(w:Int) (rs:List (List Int)) (r:List Int),cU w (rs++[r])=cU w rs++[if w-(cU w rs).sum<fl r 3 then w-(cU w rs).sum else fl r 3]
 |w,[],r=>by
  show[_]=[_];rw[show(cU w []).sum=0 from rfl,Int.sub_zero]
 |w,q::rs,r=>by
  rw[List.cons_append];unfold cU;rw[iZ _ rs r,List.cons_append,List.sum_cons,show ∀a b c:Int,a-b-c=a-(b+c)from fun a b c=>by lia]
theorem fc:∀(w:Int) (rs:List (List Int)),(cU w rs).length=rs.length
 |_,[]=>rfl
 |w,r::rs=>by
  unfold cU;rw[zAe,zAe,fc]
inductive SpMadeI(vs:List V)(H:Hp)(Q:VK):Prop
 |mk:∀w l xs rs,(vs=[.int w,.ref l])->(H l=some (.lst xs))->(Els H xs rs)->((∀r∈rs,r.length=4))->(rs.length<=100000)->(∀m H',Same H H'->H m=none->H' m=some (.lst ((cU w rs).map V.int))->Q (.ref m) H')->SpMadeI  vs H Q
def Bf:Sp:=fun vs H Q _=>SpMadeI  vs H Q
def bx(w:Int)(rs:List (List Int)):List Int:=if(wts rs).sum<=w then wts rs else K42P.res w (wts rs)
inductive SpSharesI(vs:List V)(H:Hp)(Q:VK):Prop
 |mk:∀w l xs rs,(vs=[.int w,.ref l])->(H l=some (.lst xs))->(Els H xs rs)->((∀r∈rs,r.length=4/\1<=fl r 3/\fl r 3<=99))->(rs.length<=80)->(0<=w)->(∀t H',Same H H'->H' t=some (.tup ((bx w rs).map V.int))->Q (.ref t) H')->SpSharesI  vs H Q
def ur:Sp:=fun vs H Q _=>SpSharesI  vs H Q
variable{P:Program}{w:World}{K:Frag}{mg:Str->Option Value}{base:Heap}{f:Addr}{fd:FuncData}
theorem scT1:FnScope ["wool","owed","shares","left","due","number","holder","sacks","share"] ["wool","owed"] (aM (top 47)):=fQS
theorem Ed(F:Fun K "made_good" "made_good" (top 47) f fd)(Tn:mg "min"=none):FnOk P w K mg base CX0 1 f fd ["wool","owed"] Bf:=by
 refine F.ok scT1 (fun vs H Q E h=>?_) (fun ax A outer s H vs Q E hr h=>?_)
 .obtain⟨w0,l,xs,rs,rfl,_⟩:=h;rfl
 .obtain⟨w0,l,xs,rs,rfl,el,fm,h4,hz,q⟩:=h
  refine⟨_,aA (pss 2 scT1.nd (cj ao))
   (aA (pss 3 scT1.nd (pv 0))
   (aA (bT zB4 rfl (dG (pv 1)) (bK rfl (aq (pgn 4 scT1.nd) (aq (pgn 5 scT1.nd) (aq (pgn 6 scT1.nd) (aq (pgn 7 scT1.nd) aX)))))
    (aA (pss 8 scT1.nd (aP (fX rfl) rfl Tn boot_min (au (pv 7) (au (pv 3) ao))))
    (aA (cW (jd zBc zBg zBf dN (pv 2) (au (pv 8) ao)))
    (aD (lZ (i:=3) scT1.nd rfl (Or.inl rfl) (pv 8) zy)))))
   (aD (aQ (pv 2))))),?_⟩
  refine aG (aW ?_);refine⟨zL,fun m hm=>?_⟩;refine aH ?_;dsimp only;refine aG (aW ?_);refine⟨_,rfl,?_⟩;refine aH ?_;dsimp only;refine aG ?_;have s1:=Same.upd (o:=.lst []) hm;have nl:l≠m:=aC el hm;refine⟨_,rfl,l,rfl,⟨_,SqL.of (s1 _ _ el)⟩,?_⟩;refine gP (xs:=xs) (fun i σ Hc=>∃x4 x5 x6 x7 x8,σ=[some (.int w0),some (.ref l),some (.ref m),some (.int (w0-(cU w0 (rs.take i)).sum)),x4,x5,x6,x7,x8]/\(∀b o,H b=some o->Hc b=some o)/\Hc m=some (.lst ((cU w0 (rs.take i)).map V.int))) ?_ ?_ ?_ ?_
  .refine⟨none,none,none,none,none,?_,fun b o e=>s1 _ _ e,aj⟩;rw[List.take_zero,show(cU w0 []).sum=0 from rfl,Int.sub_zero];rfl
  .rintro i σ Hc hi ⟨x4,x5,x6,x7,x8,rfl,k,em⟩;exact SqL.of (k _ _ el)
  .rintro i x σ Hc hx ⟨x4,x5,x6,x7,x8,rfl,k,em⟩
   have hi:i<rs.length:=by
    have:=(zAa.mp hx).1;rw[fm.1]at this;exact this
   obtain⟨t,ex,et⟩:=fm.2 i rs[i] (zA0 hi);rw[ex]at hx;cases hx;rw[dI (h4 _ (zAh hi))]at et;refine⟨t,_,rfl,SqT.of (k _ _ et),rfl,_,_,rfl,_,_,rfl,_,_,rfl,_,_,rfl,rfl,?_⟩;refine aG (aW ?_);refine⟨_,rfl,_,rfl,_,_,rfl,?_⟩;refine aH ?_;dsimp only;refine aG ?_;refine⟨_,rfl,.inl ⟨rfl,_,SqL.of em⟩,_,rfl,m,_,_,rfl,rfl,em,?_,?_⟩
   .rw[zA1,fc,zAd,sizeLine_eq];lia
   have dA:rs.take (i+1)=rs.take i++[rs[i]]:=by rw[zAj,zA0 hi];rfl
   dsimp only;refine⟨_,rfl,_,rfl,_,_,rfl,rfl,some (.int (fl rs[i] 0)),some (.int (fl rs[i] 1)),some (.int (fl rs[i] 2)),some (.int (fl rs[i] 3)),some (.int (if w0-(cU w0 (rs.take i)).sum<fl rs[i] 3 then w0-(cU w0 (rs.take i)).sum else fl rs[i] 3)),?_,fun b o e=>?_,?_⟩
   .rw[dA,iZ,List.sum_append,List.sum_cons,List.sum_nil,Int.add_zero,show ∀a b c:Int,a-(b+c)=a-b-c from fun a b c=>by lia];rfl
   .rw[az (aC e hm)];exact k _ _ e
   .rw[aj,dA,iZ,zA4];rfl
  .rintro σ Hc ⟨x4,x5,x6,x7,x8,rfl,k,em⟩;rw[show xs.length=rs.length from fm.1,zAm]at em;exact⟨_,rfl,q m Hc (fun b o e=>k b o e) hm em⟩
theorem scT2:FnScope ["wool","claims","weights"] ["wool","claims"] (aM (top 46)):=fQS
theorem yN(F:Fun K "shares_of" "shares_of" (top 46) f fd)(T:Mg mg)(Ts:mg "sum"=none)(c1:Cal P w K mg base 6 "parted" ["sacks","weights"] K42P.spParts):FnOk P w K mg base CX0 7 f fd ["wool","claims"] ur:=by
 refine F.ok scT2 (fun vs H Q E h=>?_) (fun ax A outer s H vs Q E hr h=>?_)
 .obtain⟨w0,l,xs,rs,rfl,_⟩:=h;rfl
 .obtain⟨w0,l,xs,rs,rfl,el,fm,h4,hz,hw,q⟩:=h
  refine⟨_,aA (pss 2 scT2.nd (cH cB rfl T.tuple boot_tuple (au (bG (g:=lq K 4 (cz (bH 0) (cz (bH 1) (cz (bH 2) (cz (bH 3) lV))))) ["due","number","holder","sacks"] [none,none,none,none] rfl (dG (pv 1))
    (fun C fp Zt s₂ H₂=>⟨dU rfl rfl (aq (pgn 0 nd4) (aq (pgn 1 nd4) (aq (pgn 2 nd4) (aq (pgn 3 nd4) aX)))),bu,pv 3⟩) (fun C=>trivial) ⟨rfl,rfl,rfl,rfl⟩) ao)))
   (aD (aQ (zr (bN bJ (aP (cZ rfl) rfl Ts boot_sum (au (pv 2) ao)) (pv 0) (bQ _)) (pv 2) (aK c1 hr (au (pv 0) (au (pv 2) ao)))))),?_⟩
  refine aG (aW ?_);refine⟨_,rfl,l,rfl,⟨_,SqL.of el⟩,bZ rs.length (fun i ys σ Hc=>Same H Hc/\(∃o1 o2 o3 o4,σ=[o1,o2,o3,o4])/\ys=(wts (rs.take i)).map V.int) ⟨Same.refl H,⟨_,_,_,_,rfl⟩,rfl⟩ Zu ?_ ?_⟩
  .rintro i ys σ Hc hi hy ⟨s1,⟨o1,o2,o3,o4,rfl⟩,rfl⟩;obtain⟨t,ex,et⟩:=fm.2 i rs[i] (zA0 hi);rw[dI (h4 _ (zAh hi)).1]at et;refine⟨⟨_,_,SqL.of (s1 _ _ el),ex⟩,fun v H' y R hR=>?_⟩;obtain⟨rfl,y⟩:=y;have hv:=y _ (SqL.of (s1 _ _ el));rw[ex]at hv;cases hv;refine⟨t,_,rfl,SqT.of (s1 _ _ et),rfl,_,_,rfl,_,_,rfl,_,_,rfl,_,_,rfl,rfl,_,rfl,hR _ _ _ ⟨s1,⟨_,_,_,_,rfl⟩,?_⟩⟩;unfold wts;rw[zAj,zA0 hi,zA4,zA4];rfl
  .rintro ys σ Hc hy ⟨s1,_,rfl⟩;refine⟨⟨_,SqL.of (s1 _ _ el),by rw[fm.1];exact zA3 _⟩,fun D hD=>?_⟩;rw[zAm];refine⟨D,_,rfl,.inl ⟨SqL.of aj,fun t ht=>?_⟩⟩;have s2:=(s1.updR (o:=.lst ((wts rs).map V.int)) hD).updR (o:=.tup ((wts rs).map V.int)) ht;have et:=aj (H:=upd Hc D (.lst ((wts rs).map V.int))) (a:=t) (o:=.tup ((wts rs).map V.int));generalize upd (upd Hc D (.lst ((wts rs).map V.int))) t (.tup ((wts rs).map V.int))=H2 at s2 et⊢;refine aH ?_;dsimp only;refine⟨_,rfl,t,wts rs,rfl,.inr (SqT.of et),_,rfl,_,_,rfl,rfl,_,rfl,?_⟩;by_cases hs:(wts rs).sum<=w0
   .rw[zAu hs];refine bV ⟨_,rfl,q t H2 s2 ?_⟩;unfold bx;rw[zAx hs];exact et
   .rw[zB5 hs];refine bO ⟨_,rfl,_,rfl,w0,t,wts rs,rfl,et,⟨?_,?_,fun x hx=>?_⟩,hw,Zz,fun H3 t3 s3 e3=>q t3 H3 (s2.trans s3) ?_⟩
    .cases fq:rs with
     |nil=>
      rw[fq]at hs;exact absurd hw hs
     |cons r jS=>
      unfold wts;rw[zA1,zAe];lia
    .unfold wts;rw[zA1];exact hz
    .obtain⟨r,fq,rfl⟩:=zA5.mp hx;exact(h4 r fq).2
    .unfold bx;rw[zAw hs];exact e3
theorem fD{J:It}{g:TG}{tt:TT}{te:TE}{eC:St}{H0:Hp}{Fin:List V->Hp->Prop}(n:Nat)(Pv:Nat->List V->St->Hp->Prop)(h0:Pv 0 [] eC H0)(hz:n<sizeLine)
  (step:∀i ys σ H,i<n->ys.length<=i->Pv i ys σ H->J.go i H/\∀x H',J.yld i H x H'->∀R:List V->St->Hp->Prop,(∀cK aS H4,cK.length<=i+1->Pv (i+1) cK aS H4->R cK aS H4)->g x σ H' fun aS H2=>tt aS H2 fun b H3=>if b=true then te aS H3 fun y H4=>R (ys++[y]) aS H4 else R ys aS H3)
  (fin:∀ys σ H,ys.length<=n->Pv n ys σ H->J.stop n H/\Fin ys H):kI J g tt te Fin eC H0:=by
 refine⟨fun i m ys σ H=>m=n-i/\i<=n/\ys.length<=i/\Pv i ys σ H,⟨_,rfl,zAp _,zA3 _,h0⟩,?_⟩;rintro i m ys σ H ⟨rfl,hi,hy,p⟩;refine⟨Zz,?_⟩;by_cases bp:i<n
 .obtain⟨go,st⟩:=step i ys σ H bp hy p;exact .inr ⟨go,fun x H' y=>st x H' y (fun cK aS H4=>∃m',m'<n-i/\m'=n-(i+1)/\i+1<=n/\cK.length<=i+1/\Pv (i+1) cK aS H4) fun cK aS H4 l2 p2=>⟨n-(i+1),Zz,rfl,bp,l2,p2⟩⟩
 .have e:i=n:=Zz
  subst e;exact .inl (fin ys σ H hy p)
def fG(P:List (List Int×Int)):List (List Int):=(P.filter fun p=>decide (0<p.2)).map fun p=>[fl p.1 0,fl p.1 1,fl p.1 2,p.2]
def cX(P:List (List Int×Int)):List (List Int):=(P.filter fun p=>decide (p.2<fl p.1 3)).map fun p=>[fl p.1 0,fl p.1 1,fl p.1 2,fl p.1 3-p.2]
theorem qb(P:List (List Int×Int))(p:List Int×Int):fG (P++[p])=fG P++(if 0<p.2 then[[fl p.1 0,fl p.1 1,fl p.1 2,p.2]]else[]):=by
 unfold fG;rw[List.filter_append,zA4];congr 1;by_cases h:0<p.2
 .rw[zAx h,zBe (p:=fun(p:List Int×Int)=>decide (0<p.2)) (zAu h)];rfl
 .rw[zAw h,zBd (p:=fun(p:List Int×Int)=>decide (0<p.2)) (by rw[Zq];exact h)];rfl
theorem nC(P:List (List Int×Int))(p:List Int×Int):cX (P++[p])=cX P++(if p.2<fl p.1 3 then[[fl p.1 0,fl p.1 1,fl p.1 2,fl p.1 3-p.2]]else[]):=by
 unfold cX;rw[List.filter_append,zA4];congr 1;by_cases h:p.2<fl p.1 3
 .rw[zAx h,zBe (p:=fun(p:List Int×Int)=>decide (p.2<fl p.1 3)) (zAu h)];rfl
 .rw[zAw h,zBd (p:=fun(p:List Int×Int)=>decide (p.2<fl p.1 3)) (by rw[Zq];exact h)];rfl
theorem shares_len{w:Int}{rs:List (List Int)}:(bx w rs).length=rs.length:=by
 unfold bx;split
 .unfold wts;rw[zA1]
 .rw[K42P.res_len];unfold wts;rw[zA1]
def shr(w:Int)(cl ow:List (List Int)):List Int:=bx w cl++cU (w-(bx w cl).sum) ow
inductive SpSortI(vs:List V)(H:Hp)(Q:VK):Prop
 |mk:∀w lc xc cl lo xo ow,(vs=[.int w,.ref lc,.ref lo])->(H lc=some (.lst xc))->(Els H xc cl)->((∀r∈cl,r.length=4/\1<=fl r 3/\fl r 3<=99))->(cl.length<=80)->(0<=w)->(H lo=some (.lst xo))->(Els H xo ow)->((∀r∈ow,r.length=4))->(ow.length<=10000)->(∀t g k xg xk H',Same H H'->H' t=some (.tup [.ref g,.ref k])->H g=none->H k=none->H' g=some (.lst xg)->Els H' xg (fG ((cl++ow).zip (shr w cl ow)))->H' k=some (.lst xk)->Els H' xk (cX ((cl++ow).zip (shr w cl ow)))->Q (.ref t) H')->SpSortI  vs H Q
def Bg:Sp:=fun vs H Q _=>SpSortI  vs H Q
theorem ut:bootBuiltins "list"=some (.type "list"):=by decide +kernel
theorem nd5:(["due","number","holder","sacks","share"]:List Str).Nodup:=by decide +kernel
theorem scU1:FnScope ["wool","claims","owed","shares","rows","gifts","lacking"] ["wool","claims","owed"] (aM (top 48)):=fQS
theorem Bh(F:Fun K "sort_given" "sort_given" (top 48) f fd)(Ts:mg "sum"=none)(Tl:mg "list"=none)(Tz:mg "zip"=none)(c1:Cal P w K mg base 7 "shares_of" ["wool","claims"] ur)(c2:Cal P w K mg base 1 "made_good" ["wool","owed"] Bf):FnOk P w K mg base CX0 8 f fd ["wool","claims","owed"] Bg:=by
 refine F.ok scU1 (fun vs H Q E h=>?_) (fun ax A outer s H vs Q E hr h=>?_)
 .obtain⟨w0,lc,xc,cl,lo,xo,ow,rfl,_⟩:=h;rfl
 .obtain⟨w0,lc,xc,cl,lo,xo,ow,rfl,ec,zo,KU,NT,hw,eo,f7,KW,NU,q⟩:=h
  refine⟨_,aA (pss 3 scU1.nd (cH jc rfl Tl ut (au (aK c1 hr (au (pv 0) (au (pv 1) ao))) ao)))
   (aA (pss 4 scU1.nd (aV GJ (pv 1) (pv 2)))
   (aA (lZ (i:=3) scU1.nd rfl (Or.inl rfl) (aK c2 hr (au (aV eF (pv 0) (aP (cZ rfl) rfl Ts boot_sum (au (pv 3) ao))) (au (pv 2) ao))) rB)
   (aA (iz (g:=lq K 2 (cz (lq K 4 (cz (bH 0) (cz (bH 1) (cz (bH 2) (cz (bH 3) lV))))) (cz (bH 4) lV))) (i:=5) ["due","number","holder","sacks","share"] [none,none,none,none,none] rfl scU1.nd rfl (Or.inl rfl) (ZT.pi_zip false false rfl Tz (au (pv 4) (au (pv 3) ao))) (fun C fp Zt s₂ H₂=>⟨dU rfl rfl (aq (dU rfl rfl (aq (pgn 0 nd5) (aq (pgn 1 nd5) (aq (pgn 2 nd5) (aq (pgn 3 nd5) aX))))) (aq (pgn 4 nd5) aX)),gn (bN mj (pv 4) aB (bQ _)),bW (au (pv 0) (au (pv 1) (au (pv 2) (au (pv 4) ao))))⟩) (fun C=>trivial) ⟨rfl,rfl,rfl,rfl⟩)
   (aA (iz (g:=lq K 2 (cz (lq K 4 (cz (bH 0) (cz (bH 1) (cz (bH 2) (cz (bH 3) lV))))) (cz (bH 4) lV))) (i:=6) ["due","number","holder","sacks","share"] [none,none,none,none,none] rfl scU1.nd rfl (Or.inl rfl) (ZT.pi_zip false false rfl Tz (au (pv 4) (au (pv 3) ao))) (fun C fp Zt s₂ H₂=>⟨dU rfl rfl (aq (dU rfl rfl (aq (pgn 0 nd5) (aq (pgn 1 nd5) (aq (pgn 2 nd5) (aq (pgn 3 nd5) aX))))) (aq (pgn 4 nd5) aX)),gn (bN mj (pv 3) (pv 4) (bQ _)),bW (au (pv 0) (au (pv 1) (au (pv 2) (au (aV eF (pv 3) (pv 4)) ao))))⟩) (fun C=>trivial) ⟨rfl,rfl,rfl,rfl⟩)
   (aD (aQ (bW (au (pv 5) (au (pv 6) ao))))))))),?_⟩
  refine gr fun c_ fz=>?_;refine aW ?_;refine⟨_,rfl,_,rfl,w0,lc,xc,cl,rfl,ec,zo,KU,NT,hw,fun t H1 s1 et=>⟨t,_,rfl,.inr (SqT.of et),fun ls K0=>?_⟩⟩;have s2:=s1.updR (o:=.lst ((bx w0 cl).map V.int)) K0;have NV:H ls=none:=s1.free K0;have fm:=aj (H:=H1) (a:=ls) (o:=.lst ((bx w0 cl).map V.int));generalize upd H1 ls (.lst ((bx w0 cl).map V.int))=H2 at s2 fm⊢;refine aH ?_;refine fz _ _ ?_;clear fz c_
  try dsimp only
  refine gr fun c_ fz=>?_;refine aW ?_;refine⟨_,rfl,_,rfl,lc,lo,xc,xo,rfl,rfl,s2 _ _ ec,s2 _ _ eo,by rw[zo.1,f7.1,sizeLine_eq];lia,fun lr fR=>?_⟩;have s3:=s2.updR (o:=.lst (xc++xo)) fR;have K2:H lr=none:=s2.free fR;have mT:=Same.upd (o:=.lst (xc++xo)) fR _ _ fm;have EA:=aj (H:=H2) (a:=lr) (o:=.lst (xc++xo))
  have NW:lr≠ls:=fun z=>by rw[z,fm]at fR;cases fR
  generalize upd H2 lr (.lst (xc++xo))=H3 at s3 mT EA⊢;refine aH ?_;refine fz _ _ ?_;clear fz c_
  try dsimp only
  refine gr fun c_ fz=>?_;refine⟨_,rfl,_,rfl,_,rfl,ls,bx w0 cl,rfl,.inl (SqL.of mT),_,_,rfl,rfl,_,rfl,_,lo,xo,ow,rfl,s3 _ _ eo,f7.same s3,KW,Zz,fun m H4 s4 nm em=>?_⟩;refine⟨ls,m,_,_,rfl,rfl,s4 _ _ mT,em,by rw[zA1,zA1,shares_len,fc,sizeLine_eq];lia,?_⟩;have zt:(bx w0 cl).map V.int++(cU (w0-(bx w0 cl).sum) ow).map V.int=(shr w0 cl ow).map V.int:=by unfold shr;rw[zA4]
  rw[zt]
  have se:(shr w0 cl ow).length=(cl++ow).length:=by
   unfold shr;rw[zA2,zA2,shares_len,fc]
  generalize shr w0 cl ow=SH at q se;refine fz _ _ ?_;clear fz c_
  try dsimp only
  have k5:Same H (upd H4 ls (.lst (SH.map V.int))):=fun b o e=>by
   rw[az (aC e NV)];exact s4 _ _ (s3 _ _ e)
  have lS:=aj (H:=H4) (a:=ls) (o:=.lst (SH.map V.int));have iq:upd H4 ls (.lst (SH.map V.int)) lr=some (.lst (xc++xo)):=by rw[az NW];exact s4 _ _ EA
  generalize upd H4 ls (.lst (SH.map V.int))=H5 at k5 lS iq⊢;have tP:Els H (xc++xo) (cl++ow):=zo.app f7;have Lc:∀r∈cl++ow,r.length=4:=fun r hr=>(zA6.mp hr).elim (fun z=>(KU r z).1) (KW r);have NX:(cl++ow).length<=20000:=by rw[zA2];lia
  generalize xc++xo=xr at iq tP;generalize cl++ow=rr at q se tP Lc NX;clear fm mT EA zt s1 s2 s3 s4 em et
  obtain⟨ZP,A9⟩:∃ZP,ZP=rr.zip SH:=⟨_,rfl⟩
  rw[<-A9]at q;have nc:ZP.length=rr.length:=by rw[A9,zAs,se,Nat.min_self]
  have sf:∀i (h:i<ZP.length),rr[i]?=some ZP[i].1:=fun i h=>by
   have hi:i<rr.length:=Zz
   rw[zA0 hi];congr 1;simp only[A9,List.getElem_zip]
  have zw:∀i (h:i<ZP.length),SH[i]?=some ZP[i].2:=fun i h=>by
   have hi:i<SH.length:=Zz
   rw[zA0 hi];congr 1;simp only[A9,List.getElem_zip]
  have zI:∀i (h:i<ZP.length),(ZP[i].1).length=4:=fun i h=>Lc _ (zB8 (sf i h));refine gr fun c_ fz=>?_;refine⟨_,rfl,_,rfl,lr,ls,xr,_,rfl,SqL.of iq,SqL.of lS,fD rr.length (fun i ys σ Hc=>Same H5 Hc/\(∃o1 o2 o3 o4 o5,σ=[o1,o2,o3,o4,o5])/\Els Hc ys (fG (ZP.take i))) ⟨Same.refl _,⟨_,_,_,_,_,rfl⟩,Els.nil⟩ Zu ?_ ?_⟩
  .rintro i ys σ Hc hi hy ⟨sc,⟨o1,o2,o3,o4,o5,rfl⟩,ht⟩;have hP:i<ZP.length:=by rw[nc];exact hi
   obtain⟨tr,ex,et⟩:=tP.2 i ZP[i].1 (sf i hP);have er:SqL K Hc lr xr:=SqL.of (sc _ _ iq);have es:SqL K Hc ls (SH.map V.int):=SqL.of (sc _ _ lS);have tN:(SH.map V.int)[i]?=some (.int ZP[i].2):=by rw[zAb,zw i hP];rfl
   have dA:ZP.take (i+1)=ZP.take i++[ZP[i]]:=by rw[zAj,zA0 hP];rfl
   have zS:=sc _ _ (k5 _ _ et);rw[dI (zI i hP)]at zS;refine⟨⟨_,_,_,_,er,es,ex,tN⟩,fun x H' yv R hR=>?_⟩;obtain⟨T0,nT,rfl,yv⟩:=yv;obtain⟨x',y',rS,si,rfl⟩:=yv _ _ er es;rw[ex]at rS;cases rS;rw[tN]at si;cases si;have oT:=sc.updR (o:=.tup [.ref tr,.int ZP[i].2]) nT;refine⟨T0,_,rfl,SqT.of aj,rfl,_,_,rfl,?_⟩;refine⟨tr,_,rfl,SqT.of (Same.upd nT _ _ zS),rfl,_,_,rfl,_,_,rfl,_,_,rfl,_,_,rfl,rfl,?_⟩;refine⟨_,_,rfl,rfl,?_⟩;refine⟨_,rfl,_,_,rfl,rfl,_,rfl,?_⟩;by_cases bo:0<ZP[i].2
   .rw[zAu bo];refine bV ⟨_,rfl,_,rfl,_,rfl,_,rfl,zL,fun t dP=>hR _ _ _ (by rw[zA2];show ys.length+1<=i+1;lia) ⟨oT.updR dP,⟨_,_,_,_,_,rfl⟩,?_⟩⟩;rw[dA,qb,zAx bo];exact(((ht.same (Same.upd nT)).same (Same.upd dP))).app (Els.one aj)
   .rw[zB5 bo];refine bO (hR _ _ _ Zz ⟨oT,⟨_,_,_,_,_,rfl⟩,?_⟩);rw[dA,qb,zAw bo,zAn];exact ht.same (Same.upd nT)
  rintro ys σ Hc hy ⟨sc,_,ht⟩;rw[<-nc,zAm]at ht;refine⟨⟨_,SqL.of (sc _ _ iq),by rw[tP.1];exact zA3 _⟩,fun g hg=>?_⟩;have k6:=(k5.trans sc).updR (o:=.lst ys) hg;have ng:H g=none:=(k5.trans sc).free hg;have eg:=aj (H:=Hc) (a:=g) (o:=.lst ys);have kz:=ht.same (Same.upd (o:=.lst ys) hg);have nh:=Same.upd (o:=.lst ys) hg _ _ (sc _ _ iq);have gN:=Same.upd (o:=.lst ys) hg _ _ (sc _ _ lS);generalize upd Hc g (.lst ys)=H6 at k6 eg kz nh gN⊢;clear sc ht hy lS iq k5;refine fz _ _ ?_;clear fz c_
  try dsimp only
  refine gr fun c_ fz=>?_;refine⟨_,rfl,_,rfl,lr,ls,xr,_,rfl,SqL.of nh,SqL.of gN,fD rr.length (fun i ys σ Hc=>Same H6 Hc/\(∃o1 o2 o3 o4 o5,σ=[o1,o2,o3,o4,o5])/\Els Hc ys (cX (ZP.take i))) ⟨Same.refl _,⟨_,_,_,_,_,rfl⟩,Els.nil⟩ Zu ?_ ?_⟩
  .rintro i ys σ Hc hi hy ⟨sc,⟨o1,o2,o3,o4,o5,rfl⟩,ht⟩;have hP:i<ZP.length:=by rw[nc];exact hi
   obtain⟨tr,ex,et⟩:=tP.2 i ZP[i].1 (sf i hP);have er:SqL K Hc lr xr:=SqL.of (sc _ _ nh);have es:SqL K Hc ls (SH.map V.int):=SqL.of (sc _ _ gN);have tN:(SH.map V.int)[i]?=some (.int ZP[i].2):=by rw[zAb,zw i hP];rfl
   have dA:ZP.take (i+1)=ZP.take i++[ZP[i]]:=by rw[zAj,zA0 hP];rfl
   have zS:=sc _ _ (k6 _ _ et);rw[dI (zI i hP)]at zS;refine⟨⟨_,_,_,_,er,es,ex,tN⟩,fun x H' yv R hR=>?_⟩;obtain⟨T0,nT,rfl,yv⟩:=yv;obtain⟨x',y',rS,si,rfl⟩:=yv _ _ er es;rw[ex]at rS;cases rS;rw[tN]at si;cases si;have oT:=sc.updR (o:=.tup [.ref tr,.int ZP[i].2]) nT;refine⟨T0,_,rfl,SqT.of aj,rfl,_,_,rfl,?_⟩;refine⟨tr,_,rfl,SqT.of (Same.upd nT _ _ zS),rfl,_,_,rfl,_,_,rfl,_,_,rfl,_,_,rfl,rfl,?_⟩;refine⟨_,_,rfl,rfl,?_⟩;refine⟨_,rfl,_,rfl,_,_,rfl,rfl,_,rfl,?_⟩;by_cases bo:ZP[i].2<fl ZP[i].1 3
   .rw[zAu bo];refine bV ⟨_,rfl,_,rfl,_,rfl,_,rfl,_,rfl,_,_,rfl,rfl,zL,fun t dP=>hR _ _ _ (by rw[zA2];show ys.length+1<=i+1;lia) ⟨oT.updR dP,⟨_,_,_,_,_,rfl⟩,?_⟩⟩;rw[dA,nC,zAx bo];exact(((ht.same (Same.upd nT)).same (Same.upd dP))).app (Els.one aj)
   .rw[zB5 bo];refine bO (hR _ _ _ Zz ⟨oT,⟨_,_,_,_,_,rfl⟩,?_⟩);rw[dA,nC,zAw bo,zAn];exact ht.same (Same.upd nT)
  rintro EB σ Hc hy ⟨sc,_,ht⟩;rw[<-nc,zAm]at ht;refine⟨⟨_,SqL.of (sc _ _ nh),by rw[tP.1];exact zA3 _⟩,fun k hk=>?_⟩;have k7:=(k6.trans sc).updR (o:=.lst EB) hk;have nk:H k=none:=(k6.trans sc).free hk;have sk:=Same.upd (o:=.lst EB) hk;refine fz _ _ ?_;clear fz c_
  try dsimp only
  refine⟨_,rfl,_,rfl,zL,fun t dP=>?_⟩;have st:=Same.upd (o:=.tup [.ref g,.ref k]) dP;exact q t g k ys EB _ (k7.trans st) aj ng nk (st _ _ (sk _ _ (sc _ _ eg))) (((kz.same sc).same sk).same st) (st _ _ aj) ((ht.same sk).same st)
def dB(L:List Int)(i:Nat):List (List Int):=((List.range i).filter fun h=>decide (0<L.getD h 0)).map fun(h:Nat)=>[(h:Int),L.getD h 0]
theorem kY(L:List Int)(i:Nat):dB L (i+1)=dB L i++(if 0<L.getD i 0 then[[(i:Int),L.getD i 0]]else[]):=by
 unfold dB;rw[List.range_succ,List.filter_append,zA4];congr 1;by_cases h:0<L.getD i 0
 .rw[zAx h,zBe (p:=fun h=>decide (0<L.getD h 0)) (zAu h)];rfl
 .rw[zAw h,zBd (p:=fun h=>decide (0<L.getD h 0)) (by rw[Zq];exact h)];rfl
theorem vJ(L:List Int)(i:Nat):(dB L i).length<=i:=by
 unfold dB;rw[zA1];have:=List.length_filter_le (fun h=>decide (0<L.getD h 0)) (List.range i);rw[List.length_range]at this;exact this
def gH(ps ss:List (List Int))(sort year:Int)(n:Nat):List (List Int):=if fl (ps.getD n []) 1=sort then(dB (bF (ps.getD n []) ss n year) 8).map (fun r=>year::(n:Int)::r)else[]
def gD(ps ss:List (List Int))(sort year:Int):Nat->List (List Int)
 |0=>[]
 |k+1=>gD ps ss sort year k++gH ps ss sort year k
def aF(ps ss:List (List Int))(sort year:Int):List (List Int):=gD ps ss sort year ps.length
theorem Bj(ps ss:List (List Int))(sort year:Int)(n:Nat):(gH ps ss sort year n).length<=8:=by
 unfold gH;split
 .rw[zA1];exact vJ _ 8
 .exact zAp _
theorem jD(ps ss:List (List Int))(sort year:Int):∀k,(gD ps ss sort year k).length<=8*k
 |0=>zA3 _
 |k+1=>by
  unfold gD;rw[zA2];have:=jD ps ss sort year k;have:=Bj ps ss sort year k;lia
inductive SpClaimsI(vs:List V)(H:Hp)(Q:VK):Prop
 |mk:∀ap xp ps ah xs ss sort year,(vs=[.ref ap,.ref ah,.int sort,.int year])->(RowsAt H ap xp ps)->(ps.length<=10)->((∀r∈ps,okP r))->(RowsAt H ah xs ss)->(ss.length<=12)->((∀s∈ss,okS s))->(∀l xl H',Same H H'->H l=none->H' l=some (.lst xl)->Els H' xl (aF ps ss sort year)->Q (.ref l) H')->SpClaimsI  vs H Q
def nF:Sp:=fun vs H Q _=>SpClaimsI  vs H Q
theorem ndV:(["holder","sacks","year","number"]:List Str).Nodup:=by decide +kernel
theorem scV1:FnScope ["promises","sales","sort","year","claims","number","promise","held"] ["promises","sales","sort","year"] (aM (top 45)):=fQS
theorem yO(F:Fun K "claims_in" "claims_in" (top 45) f fd)(Te:mg "enumerate"=none)(c1:Cal P w K mg base 1 "held_in" ["promises","sales","number","year"] vH):FnOk P w K mg base CX0 2 f fd ["promises","sales","sort","year"] nF:=by
 refine F.ok scV1 (fun vs H Q E h=>?_) (fun ax A outer s H vs Q E hr h=>?_)
 .obtain⟨ap,xp,ps,ah,xs,ss,sort,year,rfl,_⟩:=h;rfl
 .obtain⟨ap,xp,ps,ah,xs,ss,sort,year,rfl,rp,lp,okp,rs,ls,c9,q⟩:=h
  refine⟨_,aA (pss 4 scV1.nd (cj ao))
   (aA (bT zB4 rfl (ZT.pi_enum true rfl Te (au (pv 0) ao)) (bK rfl (aq (bf (i:=5) scV1.nd rfl (Or.inr rfl)) (aq (pgn 6 scV1.nd) aX)))
    (aD (cQ (bN oX (pX bL (pv 6) aB) (pv 2) (bQ _))
     (aA (pss 7 scV1.nd (aK c1 hr (au (pv 0) (au (pv 1) (au (pv 5) (au (pv 3) ao))))))
     (aD (lZ (i:=4) scV1.nd rfl (Or.inl rfl) (bG (g:=lq K 2 (cz (bH 0) (cz (bH 1) lV))) ["holder","sacks","year","number"] [none,none,some 3,some 5] rfl (ZT.pi_enum false rfl Te (au (pv 7) ao))
      (fun C fp Zt s₂ H₂=>⟨dU rfl rfl (aq (pgn 0 ndV) (aq (pgn 1 ndV) aX)),gn (bN mj (pv 1) aB (bQ _)),bW (au (pv 2) (au (pv 3) (au (pv 0) (au (pv 1) ao))))⟩)
      (fun C=>cI (cI trivial)) ⟨rfl,rfl,rfl,rfl⟩) rB))) bB)))
   (aD (aQ (pv 4)))),?_⟩
  refine aG (aW ?_);refine⟨zL,fun l hl=>?_⟩;refine aH ?_;dsimp only;refine aG ?_;have s0:=Same.upd (o:=.lst []) hl;refine⟨_,rfl,ap,xp,rfl,SqT.of (s0 _ _ rp.e),?_⟩;refine ZT.for_enum true (xs:=xp) (fun i σ Hc=>∃x5 x6 x7 xl,σ=[some (.ref ap),some (.ref ah),some (.int sort),some (.int year),some (.ref l),x5,x6,x7]/\(∀b o,H b=some o->Hc b=some o)/\Hc l=some (.lst xl)/\Els Hc xl (gD ps ss sort year i)) ?_ ?_ ?_ ?_
  .exact⟨none,none,none,[],rfl,fun b o e=>s0 _ _ e,aj,Els.nil⟩
  .rintro i σ Hc hi ⟨x5,x6,x7,xl,rfl,k,el,ht⟩;exact SqT.of (k _ _ rp.e)
  .rintro i x σ Hc T0 hx ⟨x5,x6,x7,xl,rfl,k,el,ht⟩ nT
   have hi:i<ps.length:=by
    have:=(zAa.mp hx).1;rw[rp.l]at this;exact this
   obtain⟨tr,gL,fh⟩:=rp.g i ps[i] (zA0 hi)
   have:x=.ref tr:=by
    rw[hx]at gL;exact zAl gL
   subst this;have op:=okp ps[i] (zAh hi);have ep:ps.getD i []=ps[i]:=getD_get hi;rw[dH op.1]at fh;have sT:=Same.upd (o:=.tup [V.int i,V.ref tr]) nT;have kT:Same H (upd Hc T0 (.tup [V.int i,V.ref tr])):=fun b o e=>sT _ _ (k _ _ e);have tS:=sT _ _ el;have tT:=ht.same sT;have eT:=aj (H:=Hc) (a:=T0) (o:=.tup [V.int i,V.ref tr]);generalize upd Hc T0 (.tup [V.int i,V.ref tr])=H1 at kT tS tT eT⊢;refine⟨T0,_,rfl,SqT.of eT,rfl,_,_,rfl,_,_,rfl,rfl,?_⟩;refine⟨_,rfl,tr,_,1,.int (fl ps[i] 1),rfl,rfl,SqT.of (kT _ _ fh),rfl,_,rfl,rfl,_,rfl,?_⟩;by_cases hs:fl ps[i] 1=sort
   .rw[zAu (by rw[hs])];refine bV (aG ?_);refine aW ?_;refine⟨_,rfl,_,rfl,_,rfl,_,rfl,ap,xp,ps,ah,xs,ss,i,year,rfl,rp.same kT,rs.same kT,Zz,Zz,by rw[zAi,ep];exact op,ls,c9,fun hd H2 s2 e2=>?_⟩;rw[zAi,ep]at e2;have Bi:=dR ps[i] ss i year
    have kB:gH ps ss sort year i=(dB (bF ps[i] ss i year) 8).map (fun r=>year::(i:Int)::r):=by
     unfold gH;rw[ep,zAx hs]
    generalize bF ps[i] ss i year=L at e2 Bi kB;have k2:=kT.trans s2;have el2:=s2 _ _ tS;have NY:=tT.same s2;refine aH ?_;dsimp only;refine⟨_,rfl,_,rfl,hd,_,rfl,SqL.of e2,fD 8 (fun j ys σ Hj=>Same H2 Hj/\(∃o1 o2,σ=[o1,o2,some (.int year),some (.int i)])/\Els Hj ys ((dB L j).map (fun r=>year::(i:Int)::r))) ⟨Same.refl _,⟨_,_,rfl⟩,Els.nil⟩ (by rw[sizeLine_eq];decide) ?_ ?_⟩
    .rintro j ys σ Hj hj hy ⟨sc,⟨o1,o2,rfl⟩,kc⟩;have iO:SqL K Hj hd (L.map V.int):=SqL.of (sc _ _ e2)
     have pb:(L.map V.int)[j]?=some (.int (L.getD j 0)):=by
      have eJ:j<L.length:=Zz
      rw[zAb,zA7,zA0 eJ];rfl
     refine⟨⟨_,_,iO,pb⟩,fun x H' yv R hR=>?_⟩;obtain⟨T1,Ap,rfl,yv⟩:=yv;obtain⟨x',ko,rfl⟩:=yv _ iO;rw[pb]at ko;cases ko;have oT:=sc.updR (o:=.tup [.int (j:Int),.int (L.getD j 0)]) Ap;refine⟨T1,_,rfl,SqT.of aj,rfl,_,_,rfl,_,_,rfl,rfl,?_⟩;refine⟨_,rfl,_,_,rfl,rfl,_,rfl,?_⟩;by_cases bo:0<L.getD j 0
     .rw[zAu bo];refine bV ⟨_,rfl,_,rfl,_,rfl,_,rfl,zL,fun t dP=>hR _ _ _ (by rw[zA2];show ys.length+1<=j+1;lia) ⟨oT.updR dP,⟨_,_,rfl⟩,?_⟩⟩;rw[kY,zAx bo,zA4];exact((kc.same (Same.upd Ap)).same (Same.upd dP)).app (Els.one aj)
     .rw[zB5 bo];refine bO (hR _ _ _ Zz ⟨oT,⟨_,_,rfl⟩,?_⟩);rw[kY,zAw bo,zAn];exact kc.same (Same.upd Ap)
    .rintro ys σ Hj hy ⟨sc,_,kc⟩;refine⟨⟨_,SqL.of (sc _ _ e2),by rw[zA1];lia⟩,fun D hD=>?_⟩;have sD:=sc.updR (o:=.lst ys) hD
     have nD:D≠l:=fun z=>by rw[z,sc _ _ el2]at hD;cases hD
     have ll:=jD ps ss sort year i;have:=ht.1;refine⟨l,D,xl,ys,rfl,rfl,sD _ _ el2,aj,by rw[sizeLine_eq];lia,?_⟩;refine⟨_,_,_,xl++ys,rfl,fun b o e=>?_,aj,?_⟩
     .rw[az (aC e hl)];exact sD _ _ (k2 _ _ e)
     .have e3:=(NY.same sD).app (kc.same (Same.upd (o:=.lst ys) hD));rw[<-kB]at e3;refine e3.keep fun b z e=>?_;rw[az fun w=>by rw[w,sD _ _ el2]at e;cases e];exact e
   .rw[zB5 (fun z=>hs (by injection z))];refine bO ?_;refine⟨_,_,_,xl,rfl,fun b o e=>kT _ _ e,tS,?_⟩
    have:gD ps ss sort year (i+1)=gD ps ss sort year i:=by
     show gD ps ss sort year i++gH ps ss sort year i=_;unfold gH;rw[ep,zAw hs,zAn]
    rw[this];exact tT
  .rintro σ Hc ⟨x5,x6,x7,xl,rfl,k,el,ht⟩;rw[show xp.length=ps.length from rp.l]at ht;exact⟨_,rfl,q l xl Hc (fun b o e=>k b o e) hl el ht⟩
theorem sum_set:∀(L:List Int) (i:Nat) (a:Int),i<L.length->(L.set i a).sum=L.sum-L.getD i 0+a
 |[],i,a,h=>by simp at h
 |x::L,0,a,h=>by
  rw[List.set_cons_zero,List.sum_cons,List.sum_cons,List.getD_cons_zero];lia
 |x::L,i+1,a,h=>by
  rw[List.set_cons_succ,List.sum_cons,List.sum_cons,List.getD_cons_succ,sum_set L i a (by simpa using h)];lia
theorem uv{L:List Int}{i v:Int}(h:i.toNat<L.length):(iY L i v).sum=L.sum+v:=by
 unfold iY;rw[sum_set _ _ _ h];lia
theorem gC:∀{L:List Int},(∀x∈L,0<=x)->0<=L.sum/\∀x∈L,x<=L.sum
 |[],_=>⟨Int.le_refl _,fun x hx=>by cases hx⟩
 |y::L,h=>by
  obtain⟨h1,h2⟩:=gC (L:=L) fun x hx=>h x (.tail _ hx);have hy:=h y (.head _);rw[List.sum_cons];refine⟨Zz,fun x hx=>?_⟩;rcases zAo.mp hx with z|z
  .lia
  .have:=h2 x z;lia
theorem jE{L:List Int}(h:∀x∈L,0<=x)(i:Nat):0<=L.getD i 0:=by
 rw[zA7]
 cases e:L[i]? with
 |none=>exact Int.le_refl _
 |some y=>exact h y (zB8 e)
theorem xf{L:List Int}{i v:Int}(h:∀x∈L,0<=x)(hv:0<=L.getD i.toNat 0+v):∀x∈iY L i v,0<=x:=by
 intro x hx;unfold iY at hx;rcases List.mem_or_eq_of_mem_set hx with z|z
 .exact h x z
 .rw[z];exact hv
theorem Bk{ps ss:List (List Int)}(h:un ps ss=none):∀j,j<ss.length->dz ps (ss.take j) (ss.getD j [])=true:=fun j hj=>by
 unfold un at h;have:=List.find?_eq_none.mp h j (List.mem_range.mpr hj);simpa using this
theorem Ef{ps ss:List (List Int)}{n:Nat}{y:Int}(hu:un ps ss=none)(h5:∀s∈ss,s.length=5)(op:okP (ps.getD n [])):
  ∀k,k<=ss.length->(∀x∈bF (ps.getD n []) (ss.take k) n y,0<=x)/\(bF (ps.getD n []) (ss.take k) n y).sum<=99:=by
 intro k;by_cases hy:fl (ps.getD n []) 2<=y/\y<=fl (ps.getD n []) 3
 .obtain⟨_,⟨a1,a2⟩,_,_,⟨e1,e2⟩,_⟩:=id op
  induction k with
  |zero=>
   intro _;rw[List.take_zero];unfold bF;rw[zAx hy];show(∀x∈base0 (ps.getD n []),0<=x)/\(base0 (ps.getD n [])).sum<=99;unfold base0;refine⟨fun x hx=>?_,?_⟩
   .rcases List.mem_or_eq_of_mem_set hx with z|z
    .rw[List.eq_of_mem_replicate z];exact Int.le_refl _
    .lia
   .rw[sum_set _ _ _ (by rw[List.length_replicate];lia)];have:(List.replicate 8 (0:Int)).sum=0:=rfl
    have e:(List.replicate 8 (0:Int)).getD (fl (ps.getD n []) 0).toNat 0=0:=by
     rw[zA7,List.getElem?_replicate,zAx Zz];rfl
    rw[this,e];lia
  |succ k ih=>
   intro hk;have eJ:k<ss.length:=Zz
   obtain⟨i1,i2⟩:=ih Zz;have hB:=Bk hu k eJ;rw[getD_get eJ]at hB;have dA:ss.take (k+1)=ss.take k++[ss[k]]:=by rw[zAj,zA0 eJ];rfl
   have eh:bF (ps.getD n []) (ss.take (k+1)) n y=hstep n y (bF (ps.getD n []) (ss.take k) n y) ss[k]:=by
    unfold bF;rw[zAx hy,zAx hy,dA,List.foldl_append];rfl
   have NZ:=jA (h5 _ (zAh eJ)) hB;obtain⟨_,⟨b1,b2⟩,c1,c2⟩:=NZ;have hl:=dR (ps.getD n []) (ss.take k) n y;rw[eh];unfold hstep;by_cases hc:fl ss[k] 0=n/\fl ss[k] 4<=y
   .rw[zAx hc];unfold dz at hB;rw[zAc]at hB;obtain⟨ua,kx⟩:=hB
    have ep:nu ps ss[k]=ps.getD n []:=by
     unfold nu;rw[hc.1,zAi]
    have oz:fl ss[k] 3<=(bF (ps.getD n []) (ss.take k) n y).getD (fl ss[k] 1).toNat 0:=by
     have:=List.all_eq_true.mp kx y (by
      unfold years;refine zA5.mpr ⟨(y-fl ss[k] 4).toNat,List.mem_range.mpr ?_,?_⟩
      .rw[ep];lia
      .lia)
     have:=zB6 this;rw[ep,hc.1]at this;exact this
    unfold oM at ua;simp only[Bool.and_eq_true,Zq,Bool.not_eq_true',decide_eq_false_iff_not]at ua;obtain⟨_,_,_,EC,⟨v1,v2⟩,_⟩:=ua;generalize bF (ps.getD n []) (ss.take k) n y=L at i1 i2 hl oz;have n1:=xf (i:=fl ss[k] 1) (v:=-(fl ss[k] 3)) i1 Zz;refine⟨xf n1 ?_,?_⟩
    .have:=jE n1 (fl ss[k] 2).toNat;lia
    .rw[uv (by rw[ik];lia),uv Zz];lia
   .rw[zAw hc];exact⟨i1,i2⟩
 .intro _;unfold bF;rw[zAw hy];refine⟨fun x hx=>by rw[List.eq_of_mem_replicate hx];exact Int.le_refl _,by decide⟩
theorem FZ{ps ss:List (List Int)}{sort year:Int}(hu:un ps ss=none)(h5:∀s∈ss,s.length=5)(okp:∀r∈ps,okP r):∀k,k<=ps.length->∀r∈gD ps ss sort year k,r.length=4/\1<=fl r 3/\fl r 3<=99/\fl r 0=year/\0<=fl r 1/\fl r 1<k:=by
 intro k
 induction k with
 |zero=>intro _ r hr;cases hr
 |succ k ih=>
  intro hk r hr;rcases zA6.mp (show r∈gD ps ss sort year k++gH ps ss sort year k from hr)with z|z
  .obtain⟨h1,h2,h3,h4,h6,h7⟩:=ih Zz r z;exact⟨h1,h2,h3,h4,h6,Zz⟩
  .unfold gH at z;split at z
   .obtain⟨q,hq,rfl⟩:=zA5.mp z;unfold dB at hq;obtain⟨h,hh,rfl⟩:=zA5.mp hq;have hp:=zB6 (zAq.mp hh).2;have eJ:k<ps.length:=Zz
    obtain⟨a,b⟩:=Ef (n:=k) (y:=year) hu h5 (by rw[getD_get eJ];exact okp _ (zAh eJ)) ss.length (zA3 _);rw[zAm]at a b
    have le:(bF (ps.getD k []) ss k year).getD h 0<=99:=by
     rw[zA7]at hp⊢
     cases e:(bF (ps.getD k []) ss k year)[h]? with
     |none=>show(0:Int)<=99;decide
     |some y=>
      have:=(gC a).2 y (zB8 e);show y<=99;lia
    refine⟨rfl,?_,le,rfl,?_,?_⟩
    .show 1<=(bF (ps.getD k []) ss k year).getD h 0;lia
    .show(0:Int)<=(k:Int);lia
    .show(k:Int)<((k+1:Nat):Int);lia
   .cases z
end K42
namespace K42P
open PySem L2
theorem sum_set:∀{l:List Int} {i:Nat} {x:Int},i<l.length->(l.set i (l.getD i 0+x)).sum=l.sum+x
 |a::l,0,x,_=>by simp;lia
 |a::l,i+1,x,h=>by
  have:=sum_set (l:=l) (i:=i) (x:=x) (by simpa using h);simp only[List.set_cons_succ,List.sum_cons,List.getD_cons_succ];lia
theorem qd:∀(pl:List Nat) (l:List Int),(∀i∈pl,i<l.length)->(dD l pl).sum=l.sum+pl.length
 |[],l,_=>by simp[dD]
 |i::pl,l,h=>by
  show(dD (l.set i (l.getD i 0+1)) pl).sum=_;rw[qd pl _ fun j hj=>by rw[List.length_set];exact h j (.tail _ hj),sum_set (h i (.head _)),zAe];lia
theorem res_sum{n:Int}{ws:List Int}(ok:OkW ws):(res n ws).sum=n:=by
 have o:=(iu (rs n ws)).choose_spec;have hl:=o.len;rw[jX]at hl;have l0:=Bd (n:=n) ok;have l1:=FW (n:=n) ok;unfold res;rw[qd _ _ fun i hi=>by rw[rP];have:=o.lt i (List.mem_of_mem_take hi);rw[jX]at this;exact this,zAd,Nat.min_eq_left Zz];have:lf n ws=n-(fs n ws).sum:=rfl;lia
end K42P
namespace K42
open PySem L2
theorem nG:∀{w:Int} {rs:List (List Int)},0<=w->(∀r∈rs,0<=fl r 3)->(∀x∈cU w rs,0<=x)/\0<=(cU w rs).sum/\(cU w rs).sum<=w
 |w,[],h,_=>⟨fun x hx=>(by cases hx),Int.le_refl _,h⟩
 |w,r::rs,h,hr=>by
  have h3:=hr r (.head _);unfold cU;by_cases hc:w<fl r 3
  .rw[zAx hc];obtain⟨a,b,c⟩:=nG (w:=w-w) (rs:=rs) Zz fun q hq=>hr q (.tail _ hq);refine⟨fun x hx=>?_,by rw[List.sum_cons];lia,by rw[List.sum_cons];lia⟩;rcases zAo.mp hx with z|z
   .lia
   .exact a x z
  .rw[zAw hc];obtain⟨a,b,c⟩:=nG (w:=w-fl r 3) (rs:=rs) Zz fun q hq=>hr q (.tail _ hq);refine⟨fun x hx=>?_,by rw[List.sum_cons];lia,by rw[List.sum_cons];lia⟩;rcases zAo.mp hx with z|z
   .lia
   .exact a x z
theorem xj:∀{rs:List (List Int)} {sh:List Int},sh.length=rs.length->(∀x∈sh,0<=x)->aN (fG (rs.zip sh))=sh.sum
 |[],[],_,_=>rfl
 |[],_::_,h,_=>by simp at h
 |_::_,[],h,_=>by simp at h
 |r::rs,x::sh,h,hn=>by
  have ih:=xj (rs:=rs) (sh:=sh) (by simpa using h) fun y hy=>hn y (.tail _ hy);have hx:=hn x (.head _);rw[List.zip_cons_cons,List.sum_cons,<-ih];unfold fG;by_cases hp:0<x
  .rw[zBe (p:=fun(p:List Int×Int)=>decide (0<p.2)) (zAu hp),zAk];unfold aN wts;rw[zAk,List.sum_cons];rfl
  .rw[zBd (p:=fun(p:List Int×Int)=>decide (0<p.2)) (by rw[Zq];exact hp)];have:x=0:=Zz
   rw[this,Int.zero_add]
theorem Bl{w:Int}{cl ow:List (List Int)}(hw:0<=w)(hc:∀r∈cl,r.length=4/\1<=fl r 3/\fl r 3<=99)(hz:cl.length<=80)(ho:∀r∈ow,0<=fl r 3):(∀x∈shr w cl ow,0<=x)/\0<=(shr w cl ow).sum/\(shr w cl ow).sum<=w:=by
 have hs:(∀x∈bx w cl,0<=x)/\(bx w cl).sum<=w:=by
  unfold bx;by_cases h:(wts cl).sum<=w
  .rw[zAx h];refine⟨fun x hx=>?_,h⟩;obtain⟨r,hr,rfl⟩:=zA5.mp hx;have:=(hc r hr).2.1;lia
  .rw[zAw h]
   have ok:K42P.OkW (wts cl):=by
    refine⟨?_,by unfold wts;rw[zA1];exact hz,fun x hx=>?_⟩
    .cases fq:cl with
     |nil=>
      rw[fq]at h;exact absurd hw h
     |cons r jS=>
      unfold wts;rw[zA1,zAe];lia
    .obtain⟨r,hr,rfl⟩:=zA5.mp hx;exact(hc r hr).2
   refine⟨fun x hx=>?_,by rw[K42P.res_sum ok];exact Int.le_refl _⟩;obtain⟨i,hi,e⟩:=List.getElem_of_mem hx;have hX:i<(wts cl).length:=by rw[K42P.res_len]at hi;exact hi
   exact(K42P.res_get ok hw Zz (i:=i) (r:=x) (w:=(wts cl)[i]) (by rw[zA0 hi,e]) (zA0 hX)).1
 obtain⟨h1,h2⟩:=hs;have h3:=(gC h1).1;obtain⟨m1,m2,m3⟩:=nG (w:=w-(bx w cl).sum) (rs:=ow) Zz ho;unfold shr;refine⟨fun x hx=>(zA6.mp hx).elim (h1 x) (m1 x),?_,?_⟩
 .rw[List.sum_append];lia
 .rw[List.sum_append];lia
theorem xm{w:Int}{cl ow:List (List Int)}(hw:0<=w)(hc:∀r∈cl,r.length=4/\1<=fl r 3/\fl r 3<=99)(hz:cl.length<=80)(ho:∀r∈ow,0<=fl r 3):aN (fG ((cl++ow).zip (shr w cl ow)))=(shr w cl ow).sum/\0<=w-aN (fG ((cl++ow).zip (shr w cl ow))):=by
 obtain⟨a,b,c⟩:=Bl hw hc hz ho;have e:=xj (rs:=cl++ow) (sh:=shr w cl ow) (by unfold shr;rw[zA2,zA2,shares_len,fc]) a;exact⟨e,by rw[e];lia⟩
def rle(a b:List Int):Bool:=!HT.lexLt b a
theorem HN(a b c:List Int)(h1:rle a b=true)(h2:rle b c=true):rle a c=true:=by
 unfold rle at *;rw[Bool.not_eq_true']at *
 cases h:HT.lexLt c a with
 |false=>rfl
 |true=>
  rcases wN c b a h with z|z
  .rw[z]at h2;cases h2
  .rw[z]at h1;cases h1
theorem Eg(a b:List Int):(rle a b||rle b a)=true:=by
 unfold rle
 cases h:HT.lexLt b a with
 |false=>rfl
 |true=>
  cases h':HT.lexLt a b with
  |false=>rfl
  |true=>
   have:=rA a b a h' h;rw[rm]at this;cases this
def srt(rs:List (List Int)):List (List Int):=rs.mergeSort rle
theorem Bm{rs jS:List (List Int)}(pm:jS.Perm rs)(so:jS.Pairwise (fun a b=>HT.lexLt b a=false)):jS=srt rs:=by
 have ED:jS.Pairwise (fun a b=>rle a b=true):=so.imp fun{a b} h=>by unfold rle;rw[h];rfl
 refine List.Perm.eq_of_pairwise (le:=fun a b=>rle a b=true) (fun a b _ _ h1 h2=>?_) ED (List.pairwise_mergeSort HN Eg rs) (pm.trans (List.mergeSort_perm rs rle).symm);unfold rle at h1 h2;rw[Bool.not_eq_true']at h1 h2;exact lJ a b h2 h1
structure Yr where
 g:List (List Int)
 k:List (List Int)
 l:List Int
 d:Int
def aJ(ps ow:List (List Int))(sort:Int):List (List Int):=ow.filter fun r=>decide (fl (ps.getD (fl r 1).toNat []) 1=sort)
def Jw(c:List Int)(ps ss ow:List (List Int))(y:Int)(a:Yr)(sort:Nat):Yr:=
 ⟨a.g++fG ((aF ps ss sort y++aJ ps ow sort).zip (shr (c.getD sort 0+a.d) (aF ps ss sort y) (aJ ps ow sort))),
  a.k++cX ((aF ps ss sort y++aJ ps ow sort).zip (shr (c.getD sort 0+a.d) (aF ps ss sort y) (aJ ps ow sort))),
  a.l++[c.getD sort 0+a.d-aN (fG ((aF ps ss sort y++aJ ps ow sort).zip (shr (c.getD sort 0+a.d) (aF ps ss sort y) (aJ ps ow sort))))],
  c.getD sort 0+a.d-aN (fG ((aF ps ss sort y++aJ ps ow sort).zip (shr (c.getD sort 0+a.d) (aF ps ss sort y) (aJ ps ow sort))))⟩
def yTo(c:List Int)(ps ss ow:List (List Int))(y:Int):Nat->Yr
 |0=>⟨[],[],[],0⟩
 |n+1=>Jw c ps ss ow y (yTo c ps ss ow y n) n
def okO(ps:List (List Int))(r:List Int):Prop:=r.length=4/\0<=fl r 1/\fl r 1<ps.length/\1<=fl r 3
theorem gj{ps ow:List (List Int)}{sort:Int}(h:∀r∈ow,okO ps r):∀r∈aJ ps ow sort,okO ps r:=fun r hr=>h r (zAq.mp hr).1
theorem qe(ps ow:List (List Int))(sort:Int):(aJ ps ow sort).length<=ow.length:=List.length_filter_le _ _
theorem d7{ps ss:List (List Int)}{sort year:Int}(hu:un ps ss=none)(h5:∀s∈ss,s.length=5)(okp:∀r∈ps,okP r):∀r∈aF ps ss sort year,r.length=4/\1<=fl r 3/\fl r 3<=99:=fun r hr=>by
 obtain⟨a,b,c,_⟩:=FZ (sort:=sort) (year:=year) hu h5 okp ps.length (zA3 _) r hr;exact⟨a,b,c⟩
theorem cC{ps ss:List (List Int)}{sort year:Int}(h:ps.length<=10):(aF ps ss sort year).length<=80:=by
 have:=jD ps ss sort year ps.length;unfold aF;lia
theorem Eh{c:List Int}{ps ss ow:List (List Int)}{y:Int}(hc:∀x∈c,0<=x)(hu:un ps ss=none)(h5:∀s∈ss,s.length=5)(okp:∀r∈ps,okP r)(hl:ps.length<=10)(ho:∀r∈ow,okO ps r):∀n,0<=(yTo c ps ss ow y n).d
 |0=>Int.le_refl _
 |n+1=>by
  have ih:=Eh (y:=y) hc hu h5 okp hl ho n
  have hw:0<=c.getD n 0+(yTo c ps ss ow y n).d:=by
   have:=jE hc n;lia
  exact(xm hw (d7 hu h5 okp) (cC hl) fun r hr=>by have:=(gj ho r hr).2.2.2;lia).2
theorem xn(P:List (List Int×Int)):(fG P).length<=P.length:=by
 unfold fG;rw[zA1];exact List.length_filter_le _ _
theorem nH(P:List (List Int×Int)):(cX P).length<=P.length:=by
 unfold cX;rw[zA1];exact List.length_filter_le _ _
theorem G3{c:List Int}{ps ss ow:List (List Int)}{y:Int}(hl:ps.length<=10):∀n,(yTo c ps ss ow y n).g.length<=n*(80+ow.length)/\(yTo c ps ss ow y n).k.length<=n*(80+ow.length)/\(yTo c ps ss ow y n).l.length=n
 |0=>⟨zAp _,zAp _,rfl⟩
 |n+1=>by
  obtain⟨a,b,d⟩:=G3 (c:=c) (ss:=ss) (ow:=ow) (y:=y) hl n;have h1:=cC (ss:=ss) (sort:=n) (year:=y) hl;have h2:=qe ps ow n
  have hz:∀sh:List Int,((aF ps ss n y++aJ ps ow n).zip sh).length<=80+ow.length:=fun sh=>by
   rw[zAs,zA2];lia
  rw[Nat.succ_mul];refine⟨?_,?_,?_⟩
  .show((yTo c ps ss ow y n).g++fG _).length<=_;rw[zA2];have:=xn ((aF ps ss n y++aJ ps ow n).zip (shr (c.getD n 0+(yTo c ps ss ow y n).d) (aF ps ss n y) (aJ ps ow n)));have:=hz (shr (c.getD n 0+(yTo c ps ss ow y n).d) (aF ps ss n y) (aJ ps ow n));lia
  .show((yTo c ps ss ow y n).k++cX _).length<=_;rw[zA2];have:=nH ((aF ps ss n y++aJ ps ow n).zip (shr (c.getD n 0+(yTo c ps ss ow y n).d) (aF ps ss n y) (aJ ps ow n)));have:=hz (shr (c.getD n 0+(yTo c ps ss ow y n).d) (aF ps ss n y) (aJ ps ow n));lia
  .show((yTo c ps ss ow y n).l++[_]).length=n+1;rw[zA2,d];rfl
theorem y_row{c:List Int}{ps ss ow:List (List Int)}{y:Int}:∀n,(∀r∈(yTo c ps ss ow y n).g,r.length=4)/\∀r∈(yTo c ps ss ow y n).k,r.length=4
 |0=>⟨fun r hr=>(by cases hr),fun r hr=>(by cases hr)⟩
 |n+1=>by
  obtain⟨a,b⟩:=y_row (c:=c) (ps:=ps) (ss:=ss) (ow:=ow) (y:=y) n;refine⟨fun r hr=>?_,fun r hr=>?_⟩
  .rcases zA6.mp (show r∈(yTo c ps ss ow y n).g++fG _ from hr)with z|z
   .exact a r z
   .obtain⟨p,_,rfl⟩:=zA5.mp z;rfl
  .rcases zA6.mp (show r∈(yTo c ps ss ow y n).k++cX _ from hr)with z|z
   .exact b r z
   .obtain⟨p,_,rfl⟩:=zA5.mp z;rfl
def vInt:V->Int
 |.int i=>i
 |_=>0
def j5(H:Hp)(a:Addr):List Int:=match H a with
 |some (.tup xs)=>xs.map vInt
 |_=>[]
theorem Ei{H:Hp}{a:Addr}{r:List Int}(e:H a=some (.tup (r.map V.int))):j5 H a=r:=by
 unfold j5;rw[e];show(r.map V.int).map vInt=r;rw[zAr];exact List.map_id _
theorem lN{H:Hp}:∀{xs:List V} {rs:List (List Int)},Els H xs rs->∃ads:List Addr,xs=ads.map V.ref/\rs=ads.map (j5 H)/\∀a∈ads,H a=some (.tup ((j5 H a).map V.int))
 |[],[],_=>⟨[],rfl,rfl,fun a ha=>(by cases ha)⟩
 |[],_::_,h=>by have:=h.1;simp at this
 |_::_,[],h=>by have:=h.1;simp at this
 |x::xs,r::rs,h=>by
  obtain⟨t,e1,e2⟩:=h.2 0 r rfl;rw[List.getElem?_cons_zero]at e1;cases e1
  obtain⟨ads,f1,f2,f3⟩:=lN (xs:=xs) (rs:=rs) ⟨by have:=h.1;simpa using this,fun i q e=>by
   obtain⟨u,g1,g2⟩:=h.2 (i+1) q (by rw[List.getElem?_cons_succ];exact e);rw[List.getElem?_cons_succ]at g1
   exact⟨u,g1,g2⟩⟩
  have er:=Ei e2;refine⟨t::ads,by rw[f1];rfl,by rw[f2,zAk,er,<-f2],fun a ha=>?_⟩;rcases zAo.mp ha with z|z
  .rw[z,er];exact e2
  .exact f3 a z
theorem Bo{H H':Hp}{l':List Addr}(h:∀a∈l',H' a=some (.tup ((j5 H a).map V.int))):Els H' (l'.map V.ref) (l'.map (j5 H)):=by
 refine⟨by rw[zA1,zA1],fun i r e=>?_⟩;rw[zAb]at e
 cases z:l'[i]? with
 |none=>rw[z]at e;cases e
 |some a=>
  rw[z]at e;cases e;exact⟨a,by rw[zAb,z];rfl,h a (zB8 z)⟩
inductive SpYearI(vs:List V)(H:Hp)(Q:VK):Prop
 |mk:∀bk y lo ac xc cs ap xp ps ah xs ss xo ow,(vs=[.ref bk,.int y,.ref lo])->(H bk=some (.tup [.ref ac,.ref ap,.ref ah]))->(RowsAt H ac xc cs)->((∀r∈cs,r.length=3/\∀x∈r,0<=x))->(0<=y)->(y<cs.length)->(RowsAt H ap xp ps)->(ps.length<=10)->((∀r∈ps,okP r))->(RowsAt H ah xs ss)->(ss.length<=12)->((∀s∈ss,s.length=5))->(un ps ss=none)->(H lo=some (.lst xo))->(Els H xo ow)->((∀r∈ow,okO ps r))->(ow.length<=10000)->(∀t g k tl xg xk H',Same H H'->H' t=some (.tup [.ref g,.ref k,.ref tl])->H g=none->H k=none->(g≠sysModules/\k≠sysModules)->H' g=some (.lst xg)->Els H' xg (srt (yTo (cs.getD y.toNat []) ps ss ow y 3).g)->H' k=some (.lst xk)->Els H' xk (srt (yTo (cs.getD y.toNat []) ps ss ow y 3).k)->H' tl=some (.tup ((yTo (cs.getD y.toNat []) ps ss ow y 3).l.map V.int))->Q (.ref t) H')->SpYearI  vs H Q
def Bp:Sp:=fun vs H Q _=>SpYearI  vs H Q
theorem xq{ps ss:List (List Int)}(h:un ps ss=none)(h5:∀s∈ss,s.length=5):∀s∈ss,okS s:=fun s hs=>by
 obtain⟨j,hj,e⟩:=List.getElem_of_mem hs;have:=Bk h j hj;rw[getD_get hj,e]at this;exact jA (h5 s hs) this
theorem vK{D:Ends}{tb:TS}{σ:L2.St}{H:Hp}(R:Hp->Prop)(h:R H)(g:∀H,R H->tb D σ H):tb D σ H:=g H h
variable{P:Program}{w:World}{K:Frag}{mg:Str->Option Value}{base:Heap}{f:Addr}{fd:FuncData}
theorem boot_sorted:bootBuiltins "sorted"=some (.builtin "sorted"):=by decide +kernel
theorem ndZ:(["row","promises","sort"]:List Str).Nodup:=by decide +kernel
theorem scZ1:FnScope ["book","year","owed","clips","promises","sales","gifts","lacking","left","down","sort","wool","claims","ahead","given","lacked"] ["book","year","owed"] (aM (top 49)):=fQS
theorem Ej(F:Fun K "year_given" "year_given" (top 49) f fd)(T:Mg mg)(N:Nums mg)(Tr:mg "range"=none)(Ts:mg "sorted"=none)(c1:Cal P w K mg base 2 "claims_in" ["promises","sales","sort","year"] nF)(c2:Cal P w K mg base 8 "sort_given" ["wool","claims","owed"] Bg)(c3:Cal P w K mg base 1 "sacks_of" ["rows"] lM):FnOk P w K mg base CX0 9 f fd ["book","year","owed"] Bp:=by
 refine F.ok scZ1 (fun vs H Q E h=>?_) (fun ax A outer s H vs Q E hr h=>?_)
 .obtain⟨bk,y,lo,ac,xc,cs,ap,xp,ps,ah,xs,ss,xo,ow,rfl,_⟩:=h;rfl
 .obtain⟨bk,y,lo,ac,xc,cs,ap,xp,ps,ah,xs,ss,xo,ow,rfl,eb,rc,okc,y0,y1,rp,lp,okp,rs,ls,h5,hu,eo,f7,sj,NU,q⟩:=h;obtain⟨t3,e3⟩:=N.sorts
  refine K42P.ok_b (aY ⟨cG (pv 0) (bK rfl (aq (pgn 3 scZ1.nd) (aq (bf (i:=4) scZ1.nd rfl (Or.inr rfl)) (aq (pgn 5 scZ1.nd) aX))))⟩
   (aY (lA 6 scZ1.nd (v7 gq))
   (aY (lA 7 scZ1.nd (v7 gq))
   (aY (lA 8 scZ1.nd (v7 gq))
   (aY (lA 9 scZ1.nd Hg)
   (aY ⟨bT zB4 rfl (aZ rfl Tr (au (bM (v:=.int 3) rfl e3 ⟨_,rfl⟩) ao)) (bf (i:=10) scZ1.nd rfl (Or.inr rfl))
    (jk (aY (lA 11 scZ1.nd (FJ bj (FN bL (FN bL ⟨pv 3⟩ ⟨pv 1⟩ (fun _ _=>rfl)) ⟨pv 10⟩ (fun _ _=>rfl)) ⟨pv 9⟩))
    (aY (lA 12 scZ1.nd ⟨aK c1 hr (au (pv 4) (au (pv 5) (au (pv 10) (au (pv 1) ao))))⟩)
    (aY ⟨iz (i:=13) ["row","promises","sort"] [none,some 4,some 10] rfl scZ1.nd rfl (Or.inl rfl) (dG (pv 2)) (fun C fp Zt s₂ H₂=>⟨pgn 0 ndZ,gn (bN oX (pX (K42P.ix_tupK (K:=K) rfl) (pX (K42P.ix_tupK (K:=K) rfl) (pv 1) (pX (K42P.ix_tupK (K:=K) rfl) (pv 0) aB)) aB) (pv 2) (bQ _)),pv 0⟩) (fun C=>cI (cI trivial)) ⟨rfl,rfl,rfl,rfl⟩⟩
    (aY ⟨cG (aK c2 hr (au (pv 11) (au (pv 12) (au (pv 13) ao)))) (bK rfl (aq (pgn 14 scZ1.nd) (aq (pgn 15 scZ1.nd) aX)))⟩
    (aY (lA 9 scZ1.nd (FJ eF ⟨pv 11⟩ ⟨aK c3 hr (au (pv 14) ao)⟩))
    (aY ⟨lZ (i:=6) scZ1.nd rfl (Or.inl rfl) (pv 14) rB⟩
    (aY ⟨lZ (i:=7) scZ1.nd rfl (Or.inl rfl) (pv 15) rB⟩
    (dq ⟨cW (jd zBc zBg zBf dN (pv 8) (au (pv 9) ao))⟩)))))))))⟩
   (dq (v9 (v6 (jj ⟨aP fW rfl Ts boot_sorted (au (pv 6) ao)⟩ (jj ⟨aP fW rfl Ts boot_sorted (au (pv 7) ao)⟩ (jj ⟨cH cB rfl T.tuple boot_tuple (au (pv 8) ao)⟩ gq)))))))))))) ?_
  refine aG ?_;refine⟨_,rfl,bk,_,rfl,SqT.of eb,rfl,_,_,rfl,_,_,rfl,_,_,rfl,rfl,?_⟩;dsimp only;refine aG (aW ?_);refine⟨zL,fun lg EE=>?_⟩;refine aH ?_;dsimp only;refine aG (aW ?_);refine⟨zL,fun lk jv=>?_⟩;refine aH ?_;dsimp only;refine aG (aW ?_);refine⟨zL,fun ll ip=>?_⟩;refine aH ?_;dsimp only;refine aG (aW ?_);refine aH ?_;dsimp only;have s1:=Same.upd (o:=.lst []) EE;have s2:=Same.upd (o:=.lst []) jv;have s3:=Same.upd (o:=.lst []) ip;have N0:H lg=none:=EE;have N1:H lk=none:=s1.free jv;have N3:H ll=none:=(s1.trans s2).free ip
  have Lh:lg≠lk:=fun z=>by rw[<-z,aj]at jv;cases jv
  have Li:lk≠ll:=fun z=>by rw[<-z,aj]at ip;cases ip
  have Lj:lg≠ll:=fun z=>by rw[<-z,s2 _ _ aj]at ip;cases ip
  refine vK (fun H1=>Same H H1/\H1 lg=some (.lst [])/\H1 lk=some (.lst [])/\H1 ll=some (.lst [])) ⟨(s1.trans s2).trans s3,s3 _ _ (s2 _ _ aj),s3 _ _ aj,aj⟩ fun H1 ⟨k1,yB,N4,el1⟩=>?_;clear s1 s2 s3 EE jv ip;have EF:y.toNat<cs.length:=Zz
  obtain⟨tc,As,Ll⟩:=fP rc y0 (show cs[y.toNat]?=some cs[y.toNat]from zA0 EF);have N5:cs.getD y.toNat []=cs[y.toNat]:=getD_get EF;have sv:=okc _ (zAh EF);rw[N5]at q;generalize cs[y.toNat]=c at q Ll sv;have c9:=xq hu h5;refine aG ?_;refine⟨3,rfl,by decide,by decide,?_⟩;refine cu (lo:=0) (fun i σ Hc=>∃gS ff de df oP oQ xg xk,σ=[some (.ref bk),some (.int y),some (.ref lo),some (.ref ac),some (.ref ap),some (.ref ah),some (.ref lg),some (.ref lk),some (.ref ll),some (.int (yTo c ps ss ow y i).d),gS,ff,de,df,oP,oQ]/\Same H Hc/\Hc lg=some (.lst xg)/\Els Hc xg (yTo c ps ss ow y i).g/\Hc lk=some (.lst xk)/\Els Hc xk (yTo c ps ss ow y i).k/\Hc ll=some (.lst ((yTo c ps ss ow y i).l.map V.int))) ?_ ?_ ?_
  .exact⟨none,none,none,none,none,none,[],[],rfl,k1,yB,Els.nil,N4,Els.nil,el1⟩
  .rintro i σ Hc hi ⟨gS,ff,de,df,oP,oQ,xg,xk,rfl,k,eg,kz,ek,ix,el⟩;have hi:i<3:=hi;obtain⟨TK,TL,N6⟩:=G3 (c:=c) (ss:=ss) (ow:=ow) (y:=y) lp i;refine aH ?_;have z0:(0:Int)+(i:Int)=i:=Zz
   rw[z0];refine Kr fun De Bn=>?_
   have N7:(c.map V.int)[i]?=some (.int (c.getD i 0)):=by
    have eJ:i<c.length:=Zz
    rw[zAb,zA7,zA0 eJ];rfl
   refine aG (aW ?_);refine⟨_,rfl,_,rfl,ac,xc,y,.ref tc,rfl,rfl,SqT.of (k _ _ rc.e),As,_,rfl,tc,_,i,.int (c.getD i 0),rfl,rfl,SqT.of (k _ _ Ll),di N7,_,rfl,_,_,rfl,rfl,?_⟩;refine aH ?_;dsimp only;have dn:=Eh (c:=c) (y:=y) sv.2 hu h5 okp lp sj i;have cn:=jE sv.2 i;refine aG (aW ?_);refine⟨_,rfl,_,rfl,_,rfl,_,rfl,ap,xp,ps,ah,xs,ss,i,y,rfl,rp.same k,lp,okp,rs.same k,ls,c9,fun lc N8 H2 s2 TN zo EG=>?_⟩;refine aH ?_;dsimp only;have k2:=k.trans s2;refine aG ?_;refine⟨_,rfl,lo,rfl,⟨_,SqL.of (k2 _ _ eo)⟩,fD ow.length (fun j ys σ Hj=>Same H2 Hj/\(∃o1,σ=[o1,some (.ref ap),some (.int i)])/\Els Hj ys (aJ ps (ow.take j) i)) ⟨Same.refl _,⟨_,rfl⟩,Els.nil⟩ Zu ?_ ?_⟩
   .rintro j ys σ Hj hj hy ⟨sc,⟨o1,rfl⟩,kc⟩;have kj:=k2.trans sc;have iO:SqL K Hj lo xo:=SqL.of (kj _ _ eo);obtain⟨tr,ex,fh⟩:=f7.2 j ow[j] (zA0 hj);obtain⟨o4,o5,o6,o7⟩:=sj _ (zAh hj);have EH:=fh;rw[dI o4]at fh;obtain⟨p,hp,ep,op⟩:=f9 okp o5 o6;obtain⟨tp,fy,fk⟩:=fP rp o5 hp;rw[dH op.1]at fk
    have dA:aJ ps (ow.take (j+1)) i=aJ ps (ow.take j) i++(if fl p 1=i then[ow[j]]else[]):=by
     rw[zAj,zA0 hj];unfold aJ;rw[show(some ow[j]).toList=[ow[j]]from rfl,List.filter_append];congr 1;by_cases h:fl p 1=i
     .rw[zAx h,zBe (by rw[ep];exact zAu h)];rfl
     .rw[zAw h,zBd (by rw[ep,Zq];exact h)];rfl
    refine⟨⟨_,_,iO,ex⟩,fun x H' yv R hR=>?_⟩;obtain⟨rfl,yv⟩:=yv;have yv:=yv _ iO;rw[ex]at yv;cases yv;refine aH ?_;refine⟨_,rfl,_,rfl,tr,_,1,.int (fl ow[j] 1),rfl,rfl,SqT.of (kj _ _ fh),rfl,ap,xp,_,.ref tp,rfl,rfl,SqT.of (kj _ _ rp.e),fy,tp,_,1,.int (fl p 1),rfl,rfl,SqT.of (kj _ _ fk),rfl,_,rfl,rfl,_,rfl,?_⟩;by_cases h:fl p 1=i
    .rw[zAu (by rw[h])];refine bV ⟨_,rfl,hR _ _ _ (by rw[zA2];show ys.length+1<=j+1;lia) ⟨sc,⟨_,rfl⟩,?_⟩⟩;rw[dA,zAx h];exact kc.app (Els.one (kj _ _ EH))
    .rw[zB5 (fun z=>h (by injection z))];refine bO (hR _ _ _ Zz ⟨sc,⟨_,rfl⟩,?_⟩);rw[dA,zAw h,zAn];exact kc
   rintro ya σ Hj hy ⟨sc,_,oS⟩;rw[zAm]at oS;refine⟨⟨_,SqL.of (sc _ _ (k2 _ _ eo)),by rw[f7.1];exact zA3 _⟩,fun la tJ=>?_⟩;have sa:=sc.updR (o:=.lst ya) tJ;have Lm:=aj (H:=Hj) (a:=la) (o:=.lst ya);have oS:=oS.same (Same.upd (o:=.lst ya) tJ);generalize upd Hj la (.lst ya)=H3 at sa Lm oS⊢;have k3:=k2.trans sa;have sH:=s2.trans sa;dsimp only;have lT:=d7 (sort:=i) (year:=y) hu h5 okp;have zh:=cC (ss:=ss) (sort:=i) (year:=y) lp;have N9:=gj (sort:=i) sj;have TQ:=qe ps ow i;refine aG ?_;refine⟨_,rfl,_,rfl,_,rfl,c.getD i 0+(yTo c ps ss ow y i).d,lc,N8,aF ps ss i y,la,ya,aJ ps ow i,rfl,sa _ _ zo,EG.same sa,lT,zh,Zz,Lm,oS,fun r hr=>(N9 r hr).1,Zz,fun t g kk l7 nv H4 s4 et ng nk Ln nB Oa sx=>⟨t,_,rfl,SqT.of et,rfl,_,_,rfl,_,_,rfl,rfl,?_⟩⟩;have k4:=k3.trans s4;have Ob:=sH.trans s4;have gl:=xn ((aF ps ss i y++aJ ps ow i).zip (shr (c.getD i 0+(yTo c ps ss ow y i).d) (aF ps ss i y) (aJ ps ow i)));have kl:=nH ((aF ps ss i y++aJ ps ow i).zip (shr (c.getD i 0+(yTo c ps ss ow y i).d) (aF ps ss i y) (aJ ps ow i)))
   have zl:((aF ps ss i y++aJ ps ow i).zip (shr (c.getD i 0+(yTo c ps ss ow y i).d) (aF ps ss i y) (aJ ps ow i))).length<=80+ow.length:=by
    rw[zAs,zA2];lia
   have e1:(yTo c ps ss ow y (i+1)).g=(yTo c ps ss ow y i).g++fG ((aF ps ss i y++aJ ps ow i).zip (shr (c.getD i 0+(yTo c ps ss ow y i).d) (aF ps ss i y) (aJ ps ow i))):=rfl;have e2:(yTo c ps ss ow y (i+1)).k=(yTo c ps ss ow y i).k++cX ((aF ps ss i y++aJ ps ow i).zip (shr (c.getD i 0+(yTo c ps ss ow y i).d) (aF ps ss i y) (aJ ps ow i))):=rfl;have e3:(yTo c ps ss ow y (i+1)).l=(yTo c ps ss ow y i).l++[c.getD i 0+(yTo c ps ss ow y i).d-aN (fG ((aF ps ss i y++aJ ps ow i).zip (shr (c.getD i 0+(yTo c ps ss ow y i).d) (aF ps ss i y) (aJ ps ow i))))]:=rfl;have e4:(yTo c ps ss ow y (i+1)).d=c.getD i 0+(yTo c ps ss ow y i).d-aN (fG ((aF ps ss i y++aJ ps ow i).zip (shr (c.getD i 0+(yTo c ps ss ow y i).d) (aF ps ss i y) (aJ ps ow i)))):=rfl
   have g4:∀r∈fG ((aF ps ss i y++aJ ps ow i).zip (shr (c.getD i 0+(yTo c ps ss ow y i).d) (aF ps ss i y) (aJ ps ow i))),r.length=4:=fun r hr=>by
    obtain⟨p,_,rfl⟩:=zA5.mp hr;rfl
   rw[e1,e2,e3,e4]at Bn;generalize fG ((aF ps ss i y++aJ ps ow i).zip (shr (c.getD i 0+(yTo c ps ss ow y i).d) (aF ps ss i y) (aJ ps ow i)))=GG at nB g4 gl Bn⊢;generalize cX ((aF ps ss i y++aJ ps ow i).zip (shr (c.getD i 0+(yTo c ps ss ow y i).d) (aF ps ss i y) (aJ ps ow i)))=KK at sx kl Bn⊢;dsimp only;refine aG (aW ?_);refine⟨_,rfl,_,rfl,g,l7,GG,rfl,Ln,nB,g4,Zz,fun H5 s5=>⟨_,_,rfl,rfl,?_⟩⟩;refine aH ?_;dsimp only;have k5:=k4.trans s5;have Au:=Ob.trans s5;have TR:g≠lg:=(aC (sH _ _ eg) ng).symm;have Oc:kk≠lg:=(aC (sH _ _ eg) nk).symm;have Lo:=Au _ _ eg;have Od:=Au _ _ ek;have el5:=Au _ _ el;refine aG ?_;refine⟨_,rfl,_,rfl,lg,g,xg,l7,rfl,rfl,Lo,s5 _ _ Ln,by rw[kz.1,nB.1,sizeLine_eq];have:i*(80+ow.length)<=3*(80+ow.length):=Nat.mul_le_mul_right _ Zz;lia,?_⟩;dsimp only
   have EI:∀b z,H5 b=some (.tup z)->upd H5 lg (.lst (xg++l7)) b=some (.tup z):=fun b z e=>by
    rw[az fun w=>by rw[w,Lo]at e;cases e];exact e
   have k6:Same H (upd H5 lg (.lst (xg++l7))):=fun b o e=>by
    rw[az (aC e N0)];exact k5 _ _ e
   have Lp:=aj (H:=H5) (a:=lg) (o:=.lst (xg++l7));have AB:=((kz.same Au).app (nB.same s5)).keep EI;have EJ:upd H5 lg (.lst (xg++l7)) lk=some (.lst xk):=by rw[az Lh.symm];exact Od
   have AD:upd H5 lg (.lst (xg++l7)) kk=some (.lst nv):=by rw[az Oc];exact s5 _ _ Oa
   have Lq:upd H5 lg (.lst (xg++l7)) ll=some (.lst ((yTo c ps ss ow y i).l.map V.int)):=by rw[az Lj.symm];exact el5
   have AE:=(ix.same Au).keep EI;have pd:=(sx.same s5).keep EI;generalize upd H5 lg (.lst (xg++l7))=H6 at k6 Lp AB EJ AD Lq AE pd⊢;refine aG ?_;refine⟨_,rfl,_,rfl,lk,kk,xk,nv,rfl,rfl,EJ,AD,by rw[ix.1,sx.1,sizeLine_eq];have:i*(80+ow.length)<=3*(80+ow.length):=Nat.mul_le_mul_right _ Zz;lia,?_⟩;dsimp only
   have Lr:∀b z,H6 b=some (.tup z)->upd H6 lk (.lst (xk++nv)) b=some (.tup z):=fun b z e=>by
    rw[az fun w=>by rw[w,EJ]at e;cases e];exact e
   have k7:Same H (upd H6 lk (.lst (xk++nv))):=fun b o e=>by
    rw[az (aC e N1)];exact k6 _ _ e
   have Ls:upd H6 lk (.lst (xk++nv)) lg=some (.lst (xg++l7)):=by rw[az Lh];exact Lp
   have AF:=AB.keep Lr;have Lu:=aj (H:=H6) (a:=lk) (o:=.lst (xk++nv));have AG:=(AE.app pd).keep Lr;have Bz:upd H6 lk (.lst (xk++nv)) ll=some (.lst ((yTo c ps ss ow y i).l.map V.int)):=by rw[az Li.symm];exact Lq
   generalize upd H6 lk (.lst (xk++nv))=H7 at k7 Ls AF Lu AG Bz⊢;refine⟨_,rfl,.inl ⟨rfl,_,SqL.of Bz⟩,_,rfl,ll,_,_,rfl,rfl,Bz,by rw[zA1,N6,sizeLine_eq];lia,?_⟩
   have Lv:∀{o:HO} b z,H7 b=some (.tup z)->upd H7 ll o b=some (.tup z):=fun b z e=>by
    rw[az fun w=>by rw[w,Bz]at e;cases e];exact e
   refine Bn _ _ ⟨_,_,_,_,_,_,xg++l7,xk++nv,rfl,fun b o e=>?_,?_,AF.keep Lv,?_,AG.keep Lv,?_⟩
   .rw[az (aC e N3)];exact k7 _ _ e
   .rw[az Lj];exact Ls
   .rw[az Li];exact Lu
   .rw[aj,zA4];rfl
  .rintro σ Hc ⟨gS,ff,de,df,oP,oQ,xg,xk,rfl,k,eg,kz,ek,ix,el⟩;obtain⟨Oe,Of⟩:=y_row (c:=c) (ps:=ps) (ss:=ss) (ow:=ow) (y:=y) 3;have q:∀t g k tl xg xk H',Same H H'->H' t=some (.tup [.ref g,.ref k,.ref tl])->H g=none->H k=none->(g≠sysModules/\k≠sysModules)->H' g=some (.lst xg)->Els H' xg (srt (yTo c ps ss ow y 3).g)->H' k=some (.lst xk)->Els H' xk (srt (yTo c ps ss ow y 3).k)->H' tl=some (.tup ((yTo c ps ss ow y 3).l.map V.int))->Q (.ref t) H':=q;have kz:Els Hc xg (yTo c ps ss ow y 3).g:=kz;have ix:Els Hc xk (yTo c ps ss ow y 3).k:=ix;have el:Hc ll=some (.lst ((yTo c ps ss ow y 3).l.map V.int)):=el;obtain⟨ag,Og,Lw,Lx⟩:=lN kz;obtain⟨ak,Oh,tq,Ly⟩:=lN ix;subst Og Oh;dsimp only
   have nn:∀{rs:List (List Int)} {ads:List Addr},rs=ads.map (j5 Hc)->(∀r∈rs,r.length=4)->∀a∈ads,j5 Hc a≠[]:=fun{rs ads} h h4 a ha z=>by
    have:=h4 (j5 Hc a) (by rw[h];exact List.mem_map_of_mem ha);rw[z]at this;cases this
   refine⟨_,rfl,lg,ag,j5 Hc,rfl,SqL.of eg,fun a ha=>⟨SqT.of (Lx a ha),nn Lw Oe a ha⟩,fun g l1 hg EK Lz Oj=>?_⟩;have sg:=Same.upd (o:=.lst (l1.map V.ref)) hg;refine⟨_,rfl,lk,ak,j5 Hc,rfl,SqL.of (sg _ _ ek),fun a ha=>⟨SqT.of (sg _ _ (Ly a ha)),nn tq Of a ha⟩,fun kk l2 hk Ol AH Om=>?_⟩;have sk:=sg.updR (o:=.lst (l2.map V.ref)) hk;refine⟨_,rfl,ll,_,rfl,.inl ⟨SqL.of (sk _ _ el),fun tl LA=>?_⟩⟩;have sl:=sk.updR (o:=.tup ((yTo c ps ss ow y 3).l.map V.int)) LA;refine⟨zL,fun t ht=>?_⟩;have st:=sl.updR (o:=.tup [.ref g,.ref kk,.ref tl]) ht;have u1:=Same.upd (o:=.lst (l2.map V.ref)) hk;have u2:=Same.upd (o:=.tup ((yTo c ps ss ow y 3).l.map V.int)) LA;have u3:=Same.upd (o:=.tup [.ref g,.ref kk,.ref tl]) ht;have Oo:l1.map (j5 Hc)=srt (yTo c ps ss ow y 3).g:=Bm (by rw[Lw];exact Lz.map _) (List.pairwise_map.mpr Oj);have Oq:l2.map (j5 Hc)=srt (yTo c ps ss ow y 3).k:=Bm (by rw[tq];exact AH.map _) (List.pairwise_map.mpr Om);refine q t g kk tl _ _ _ (k.trans st) aj (k.free hg) (k.free (sg.free hk)) ⟨EK,Ol⟩ (u3 _ _ (u2 _ _ (u1 _ _ aj))) ?_ (u3 _ _ (u2 _ _ aj)) ?_ (u3 _ _ aj)
   .rw[<-Oo];exact Bo fun a ha=>st _ _ (Lx a (Lz.mem_iff.mp ha))
   .rw[<-Oq];exact Bo fun a ha=>st _ _ (Ly a (AH.mem_iff.mp ha))
def cnt(ps ow:List (List Int)):Nat->Nat
 |0=>0
 |n+1=>cnt ps ow n+(aJ ps ow n).length
theorem cnt_nil(ps:List (List Int)):∀n,cnt ps [] n=0
 |0=>rfl
 |n+1=>by
  unfold cnt;rw[cnt_nil ps n];rfl
theorem cnt_cons(ps ow:List (List Int))(r:List Int):∀n,cnt ps (r::ow) n=cnt ps ow n+(if 0<=fl (ps.getD (fl r 1).toNat []) 1/\fl (ps.getD (fl r 1).toNat []) 1<n then 1 else 0)
 |0=>by
  rw[zAw Zz];rfl
 |n+1=>by
  show cnt ps (r::ow) n+(aJ ps (r::ow) n).length=cnt ps ow n+(aJ ps ow n).length+_;rw[cnt_cons ps ow r n];unfold aJ;by_cases h:fl (ps.getD (fl r 1).toNat []) 1=n
  .rw[zBe (p:=fun(r:List Int)=>decide (fl (ps.getD (fl r 1).toNat []) 1=(n:Int))) (zAu h),zAe,zAw Zz,zAx Zz];lia
  .rw[zBd (p:=fun(r:List Int)=>decide (fl (ps.getD (fl r 1).toNat []) 1=(n:Int))) (by rw[Zq];exact h)];by_cases h2:0<=fl (ps.getD (fl r 1).toNat []) 1/\fl (ps.getD (fl r 1).toNat []) 1<n
   .rw[zAx h2,zAx Zz];lia
   .rw[zAw h2,zAw Zz];lia
theorem Bq(ps:List (List Int))(n:Nat):∀ow:List (List Int),cnt ps ow n<=ow.length
 |[]=>by rw[cnt_nil];exact zA3 _
 |r::ow=>by
  rw[cnt_cons,zAe];have:=Bq ps n ow;split<;>lia
theorem G4{c:List Int}{ps ss ow:List (List Int)}{y:Int}(hl:ps.length<=10):∀n,(yTo c ps ss ow y n).k.length<=80*n+cnt ps ow n
 |0=>zAp _
 |n+1=>by
  have a:=G4 (c:=c) (ss:=ss) (ow:=ow) (y:=y) hl n;have h1:=cC (ss:=ss) (sort:=n) (year:=y) hl;have h3:=nH ((aF ps ss n y++aJ ps ow n).zip (shr (c.getD n 0+(yTo c ps ss ow y n).d) (aF ps ss n y) (aJ ps ow n)));show((yTo c ps ss ow y n).k++cX _).length<=80*(n+1)+(cnt ps ow n+(aJ ps ow n).length);rw[zA2];rw[zAs,zA2]at h3;lia
theorem Jx{c:List Int}{ps ss ow:List (List Int)}{y:Int}(hu:un ps ss=none)(h5:∀s∈ss,s.length=5)(okp:∀r∈ps,okP r)(ho:∀r∈ow,okO ps r):∀n,∀r∈(yTo c ps ss ow y n).k,okO ps r
 |0,r,hr=>by cases hr
 |n+1,r,hr=>by
  rcases zA6.mp (show r∈(yTo c ps ss ow y n).k++cX _ from hr)with z|z
  .exact Jx (c:=c) (y:=y) hu h5 okp ho n r z
  .obtain⟨p,hp,rfl⟩:=zA5.mp z;obtain⟨h1,h2⟩:=zAq.mp hp;have h2:=zB6 h2;have hm:p.1∈aF ps ss n y++aJ ps ow n:=(List.of_mem_zip (show(p.1,p.2)∈_ from h1)).1
   have hn:0<=fl p.1 1/\fl p.1 1<ps.length:=by
    rcases zA6.mp hm with w|w
    .obtain⟨_,_,_,_,a,b⟩:=FZ (sort:=n) (year:=y) hu h5 okp ps.length (zA3 _) p.1 w;exact⟨a,b⟩
    .have:=gj ho p.1 w;exact⟨this.2.1,this.2.2.1⟩
   refine⟨rfl,hn.1,hn.2,?_⟩;show 1<=fl p.1 3-p.2;lia
def dF(cs ps ss:List (List Int)):Nat->List (List Int)
 |0=>[]
 |n+1=>srt (yTo (cs.getD n []) ps ss (dF cs ps ss n) n 3).k
theorem uw{cs ps ss:List (List Int)}(hl:ps.length<=10)(hu:un ps ss=none)(h5:∀s∈ss,s.length=5)(okp:∀r∈ps,okP r):∀n,(∀r∈dF cs ps ss n,okO ps r)/\(dF cs ps ss n).length<=240*n
 |0=>⟨fun r hr=>(by cases hr),zA3 _⟩
 |n+1=>by
  obtain⟨a,b⟩:=uw (cs:=cs) hl hu h5 okp n;have pm:=List.mergeSort_perm (yTo (cs.getD n []) ps ss (dF cs ps ss n) n 3).k rle;refine⟨fun r hr=>Jx (c:=cs.getD n []) (y:=n) hu h5 okp a 3 r (pm.mem_iff.mp hr),?_⟩;show(srt (yTo (cs.getD n []) ps ss (dF cs ps ss n) n 3).k).length<=_;unfold srt;rw[pm.length_eq];have:=G4 (c:=cs.getD n []) (ss:=ss) (ow:=dF cs ps ss n) (y:=n) hl 3;have:=Bq ps 3 (dF cs ps ss n);lia
def bz(ps:List (List Int))(r:List Int):Int:=fl (ps.getD (fl r 1).toNat []) 1
def keyOf(r:List Int):List Int:=[fl r 0,fl r 1,fl r 2]
theorem Br(rs:List (List Int)):(srt rs).Perm rs:=List.mergeSort_perm rs rle
theorem vL{ps ss:List (List Int)}{sort year:Int}:∀{k:Nat} {r:List Int},r∈gD ps ss sort year k->∃(j h:Nat) (x:Int),j<k/\h<8/\fl (ps.getD j []) 1=sort/\r=[year,j,h,x]
 |0,r,hr=>by cases hr
 |k+1,r,hr=>by
  rcases zA6.mp (show r∈gD ps ss sort year k++gH ps ss sort year k from hr)with z|z
  .obtain⟨j,h,x,a,b⟩:=vL z;exact⟨j,h,x,Zz,b⟩
  .unfold gH at z;split at z
   .rename_i hs
    obtain⟨q,hq,rfl⟩:=zA5.mp z;unfold dB at hq;obtain⟨h,hh,rfl⟩:=zA5.mp hq;have:=List.mem_range.mp (zAq.mp hh).1;exact⟨k,h,_,Zz,this,hs,rfl⟩
   .cases z
theorem G5{ps ss:List (List Int)}{sort year:Int}:∀k,((gD ps ss sort year k).map keyOf).Nodup
 |0=>List.nodup_nil
 |k+1=>by
  show((gD ps ss sort year k++gH ps ss sort year k).map keyOf).Nodup;rw[zA4,List.nodup_append];refine⟨G5 k,?_,fun a ha b hb e=>?_⟩
  .unfold gH;split
   .unfold dB;rw[zAr,zAr];refine List.Pairwise.map _ (R:=fun a b=>a≠b) (fun a b h e=>h ?_) (List.nodup_range.filter _);have e:[year,(k:Int),(a:Int)]=[year,(k:Int),(b:Int)]:=e;injection e with _ e;injection e with _ e;injection e with e;lia
   .exact List.nodup_nil
  .subst e;obtain⟨r,hr,e1⟩:=zA5.mp ha;obtain⟨j,h,x,a1,a2,a3,rfl⟩:=vL hr;obtain⟨r',fq,e2⟩:=zA5.mp hb;unfold gH at fq;split at fq
   .obtain⟨q,hq,rfl⟩:=zA5.mp fq;rw[<-e1]at e2;have e2:[year,(k:Int),_]=[year,(j:Int),(h:Int)]:=e2;injection e2 with _ e2;injection e2 with e2;lia
   .cases fq
theorem fQ{ps ss:List (List Int)}{sort year:Int}{r:List Int}(hr:r∈aF ps ss sort year):fl r 0=year/\bz ps r=sort/\0<=fl r 1/\fl r 1<ps.length/\0<=fl r 2/\fl r 2<8:=by
 obtain⟨j,h,x,a1,a2,a3,rfl⟩:=vL hr;refine⟨rfl,?_,?_,?_,?_,?_⟩
 .show fl (ps.getD ((j:Int)).toNat []) 1=sort;rw[zAi];exact a3
 .show(0:Int)<=j;lia
 .show(j:Int)<ps.length;lia
 .show(0:Int)<=h;lia
 .show(h:Int)<8;lia
theorem G6{w:Int}{cl:List (List Int)}(hw:0<=w)(hc:∀r∈cl,r.length=4/\1<=fl r 3/\fl r 3<=99)(hz:cl.length<=80):∀p∈cl.zip (bx w cl),p.2<=fl p.1 3:=fun p hp=>by
 obtain⟨i,hi⟩:=List.mem_iff_getElem?.mp hp;obtain⟨h1,h2⟩:=List.getElem?_zip_eq_some.mp hi;have e3:(wts cl)[i]?=some (fl p.1 3):=by unfold wts;rw[zAb,h1];rfl
 unfold bx at h2;split at h2
 .rw[e3]at h2;rw[<-zAl h2];exact Int.le_refl _
 .rename_i hs
  have ok:K42P.OkW (wts cl):=by
   refine⟨?_,?_,fun x hx=>?_⟩
   .have:=(zAa.mp e3).1;lia
   .unfold wts;rw[zA1];exact hz
   .obtain⟨r,hr,rfl⟩:=zA5.mp hx;exact(hc r hr).2
  exact(K42P.res_get ok hw Zz h2 e3).2
def Jy(cs ps ss:List (List Int))(j:Nat):Yr:=yTo (cs.getD j []) ps ss (dF cs ps ss j) j 3
def YAt(H0:Hp)(l:Addr)(cs ps ss:List (List Int))(H:Hp)(a:Addr)(j:Nat):Prop:=∃g k tl xg xk,H a=some (.tup [.ref g,.ref k,.ref tl])/\H0 g=none/\H0 k=none/\g≠l/\k≠l/\H g=some (.lst xg)/\Els H xg (srt (Jy cs ps ss j).g)/\H k=some (.lst xk)/\Els H xk (dF cs ps ss (j+1))/\H tl=some (.tup ((Jy cs ps ss j).l.map V.int))/\(g≠sysModules/\k≠sysModules)
theorem YAt.keep{H0 H H':Hp}{l a:Addr}{cs ps ss:List (List Int)}{j:Nat}(h:YAt H0 l cs ps ss H a j)(k:∀b o,b≠l->H b=some o->H' b=some o)(hl:∃xs,H l=some (.lst xs)):YAt H0 l cs ps ss H' a j:=by
 obtain⟨xs,hl⟩:=hl;obtain⟨g,kk,tl,xg,xk,e1,n1,n2,d1,d2,e2,e3,e4,e5,e6,e7⟩:=h
 have nt:∀b z,H b=some (.tup z)->b≠l:=fun b z e w=>by rw[w,hl]at e;cases e
 exact⟨g,kk,tl,xg,xk,k _ _ (nt _ _ e1) e1,n1,n2,d1,d2,k _ _ d1 e2,e3.keep fun b z e=>k _ _ (nt _ _ e) e,k _ _ d2 e4,e5.keep fun b z e=>k _ _ (nt _ _ e) e,k _ _ (nt _ _ e6) e6,e7⟩
inductive SpYearsI(vs:List V)(H:Hp)(Q:VK):Prop
 |mk:∀bk y ac xc cs ap xp ps ah xs ss,(vs=[.ref bk,.int y])->(H bk=some (.tup [.ref ac,.ref ap,.ref ah]))->(RowsAt H ac xc cs)->((∀r∈cs,r.length=3/\∀x∈r,0<=x))->(cs.length<=20)->(0<=y)->(y<cs.length)->(RowsAt H ap xp ps)->(ps.length<=10)->((∀r∈ps,okP r))->(RowsAt H ah xs ss)->(ss.length<=12)->((∀s∈ss,s.length=5))->(un ps ss=none)->(∀l (ts:List Addr) H',Same H H'->H l=none->H' l=some (.lst (ts.map V.ref))->(ts.length:Int)=y+1->(∀j a,ts[j]?=some a->YAt H l cs ps ss H' a j)->Q (.ref l) H')->SpYearsI  vs H Q
def xu:Sp:=fun vs H Q _=>SpYearsI  vs H Q
theorem scYB:FnScope ["book","year","years","owed","at","gifts","left"] ["book","year"] (aM (top 50)):=fQS
theorem Bs(F:Fun K "years_given" "years_given" (top 50) f fd)(Tr:mg "range"=none)(c1:Cal P w K mg base 9 "year_given" ["book","year","owed"] Bp):FnOk P w K mg base CX0 10 f fd ["book","year"] xu:=by
 refine F.ok scYB (fun vs H Q E h=>?_) (fun ax A outer s H vs Q E hr h=>?_)
 .obtain⟨bk,y,ac,xc,cs,ap,xp,ps,ah,xs,ss,rfl,_⟩:=h;rfl
 .obtain⟨bk,y,ac,xc,cs,ap,xp,ps,ah,xs,ss,rfl,eb,rc,okc,lc,y0,y1,rp,lp,okp,rs,ls,h5,hu,q⟩:=h
  refine⟨_,aA (pss 2 scYB.nd (cj ao))
   (aA (pss 3 scYB.nd (cj ao))
   (aA (bT zB4 rfl (aZ rfl Tr (au (aV bj (pv 1) aB) ao)) (pgn 4 scYB.nd)
    (aA (cG (aK c1 hr (au (pv 0) (au (pv 4) (au (pv 3) ao)))) (bK rfl (aq (pgn 5 scYB.nd) (aq (pgn 3 scYB.nd) (aq (pgn 6 scYB.nd) aX)))))
    (aD (cW (jd zBc zBg zBf dN (pv 2) (au (bW (au (pv 5) (au (pv 3) (au (pv 6) ao)))) ao))))))
   (aD (aQ (pv 2))))),?_⟩
  refine aG (aW ?_);refine⟨zL,fun l hl=>?_⟩;refine aH ?_;dsimp only;refine aG (aW ?_);refine⟨zL,fun EL cE=>?_⟩;refine aH ?_;dsimp only;have s1:=Same.upd (o:=.lst []) hl;have s2:=Same.upd (o:=.lst []) cE
  have Ou:EL≠l:=fun z=>by rw[z,aj]at cE;cases cE
  refine vK (fun H1=>Same H H1/\H1 l=some (.lst [])/\H1 EL=some (.lst [])) ⟨s1.trans s2,s2 _ _ aj,aj⟩ fun H1 ⟨k1,el1,Ov⟩=>?_;refine aG ?_;refine⟨_,rfl,_,_,rfl,rfl,y+1,rfl,Zz,Zz,?_⟩;refine cu (lo:=0) (fun i σ Hc=>∃x4 x5 x6 lo xo,∃ts:List Addr,σ=[some (.ref bk),some (.int y),some (.ref l),some (.ref lo),x4,x5,x6]/\Same H Hc/\Hc l=some (.lst (ts.map V.ref))/\ts.length=i/\(∀j a,ts[j]?=some a->YAt H l cs ps ss Hc a j)/\lo≠l/\Hc lo=some (.lst xo)/\Els Hc xo (dF cs ps ss i)) ?_ ?_ ?_
  .exact⟨none,none,none,EL,[],[],rfl,k1,el1,rfl,fun j a e=>(by simp at e),Ou,Ov,Els.nil⟩
  .rintro i σ Hc hi ⟨x4,x5,x6,lo,xo,ts,rfl,k,el,lt,hy,dl,eo,f7⟩;obtain⟨sj,Ow⟩:=uw (cs:=cs) lp hu h5 okp i;refine aH ?_;have z0:(0:Int)+(i:Int)=i:=Zz
   rw[z0];refine aG ?_;refine⟨_,rfl,_,rfl,_,rfl,bk,i,lo,ac,xc,cs,ap,xp,ps,ah,xs,ss,xo,dF cs ps ss i,rfl,k _ _ eb,rc.same k,okc,Zz,Zz,rp.same k,lp,okp,rs.same k,ls,h5,hu,eo,f7,sj,Zz,fun t g kk tl xg xk H2 s2 et ng nk EK eg kz ek ix LB=>?_⟩;rw[zAi]at kz ix LB;refine⟨t,_,rfl,SqT.of et,rfl,_,_,rfl,_,_,rfl,_,_,rfl,rfl,?_⟩;dsimp only;have k2:=k.trans s2;have el2:=s2 _ _ el;have dg:g≠l:=(aC el ng).symm;have dk:kk≠l:=(aC el nk).symm;refine⟨_,rfl,.inl ⟨rfl,_,SqL.of el2⟩,_,rfl,_,rfl,_,rfl,zL,fun tt BA=>⟨l,_,_,rfl,rfl,Same.upd BA _ _ el2,by rw[zA1,lt,sizeLine_eq];lia,?_⟩⟩;have s3:=Same.upd (o:=.tup [.ref g,.ref kk,.ref tl]) BA
   have nt:tt≠l:=fun z=>by rw[z,el2]at BA;cases BA
   have kp:∀{o:HO} b u,b≠l->H2 b=some u->upd (upd H2 tt (.tup [.ref g,.ref kk,.ref tl])) l o b=some u:=fun b u n e=>by
    rw[az n];exact s3 _ _ e
   have ke:∀{o:HO} b z,H2 b=some (.tup z)->upd (upd H2 tt (.tup [.ref g,.ref kk,.ref tl])) l o b=some (.tup z):=fun b z e=>kp b _ (fun w=>by rw[w,el2]at e;cases e) e;refine⟨_,_,_,kk,xk,ts++[tt],rfl,fun b o e=>?_,?_,by rw[zA2,lt];rfl,fun j a e=>?_,dk,kp _ _ dk ek,ix.keep ke⟩
   .exact kp _ _ (aC e hl) (k2 _ _ e)
   .rw[aj,zA4];rfl
   .by_cases hj:j<ts.length
    .rw[zBa hj]at e;exact(hy j a e).keep (fun b o n z=>kp _ _ n (s2 _ _ z)) ⟨_,el⟩
    .have yi:j=i:=by
      have:=(zAa.mp e).1;rw[zA2]at this;simp at this;lia
     subst yi;rw[zB9 Zz,lt,Nat.sub_self]at e;cases e;exact⟨g,kk,tl,xg,xk,by rw[az nt];exact aj,k.free ng,k.free nk,dg,dk,kp _ _ dg eg,kz.keep ke,kp _ _ dk ek,ix.keep ke,ke _ _ LB,EK⟩
  .rintro σ Hc ⟨x4,x5,x6,lo,xo,ts,rfl,k,el,lt,hy,dl,eo,f7⟩;exact⟨_,rfl,q l ts Hc k hl el (by rw[lt];lia) hy⟩
abbrev ky(n y:Int):List Key:=[.inl n,.inl y]
def KsOk(kv:List (Key×V)):Prop:=∀p∈kv,∃h:Int,p.1=.inl h/\0<=h/\h<8
theorem KsOk.put{kv:List (Key×V)}(g:KsOk kv){h:Int}(h0:0<=h)(h8:h<8)(v:V):KsOk (putK kv (.inl h) v):=by
 intro p hp;unfold putK at hp;split at hp
 .obtain⟨q,hq,rfl⟩:=zA5.mp hp;split
  .exact g q hq
  .exact g q hq
 .rcases zA6.mp hp with z|z
  .exact g p z
  .rw[List.mem_singleton.mp z];exact⟨h,rfl,h0,h8⟩
structure Dts(fo:Addr)(H0 H:Hp)(dm:Int->Int->Prop)(f:Int->Int->Int->Int)(b:Int->Int->Nat)(kvs:List (List Key×V)):Prop where
 sm:Same H0 H
 nf:H0 fo=none
 e:H fo=some (.dT kvs)
 g:∀n y,dm n y->∃d kv,cg kvs (ky n y)=some (.ref d)/\H d=some (.dK kv)/\(kv.length<=b n y/\KsOk kv)/\∀h,0<=h->h<8->(cg kv (.inl h)).getD (.int 0)=.int (f n y h)
 no:∀n y,¬dm n y->cg kvs (ky n y)=none
 i:∀n y n' y' d,cg kvs (ky n y)=some (.ref d)->cg kvs (ky n' y')=some (.ref d)->n=n'/\y=y'
 fr:∀n y d,cg kvs (ky n y)=some (.ref d)->H0 d=none/\d≠fo/\∃o,H d=some o
theorem Dts.new{fo p:Addr}{o:HO}{H0 H:Hp}{dm:Int->Int->Prop}{f:Int->Int->Int->Int}{b:Int->Int->Nat}{kvs:List (List Key×V)}(g:Dts fo H0 H dm f b kvs)(hp:H p=none):Dts fo H0 (upd H p o) dm f b kvs:=
 ⟨g.sm.updR hp,g.nf,Same.upd hp _ _ g.e,fun n y h=>by
  obtain⟨d,kv,e1,e2,r⟩:=g.g n y h
  exact⟨d,kv,e1,Same.upd hp _ _ e2,r⟩,g.no,g.i,fun n y d h=>by
  obtain⟨e1,e2,o',e3⟩:=g.fr n y d h
  exact⟨e1,e2,o',Same.upd hp _ _ e3⟩⟩
theorem Dts.same{fo:Addr}{H0 H H':Hp}{dm:Int->Int->Prop}{f:Int->Int->Int->Int}{b:Int->Int->Nat}{kvs:List (List Key×V)}(g:Dts fo H0 H dm f b kvs)(s:Same H H'):Dts fo H0 H' dm f b kvs:=
 ⟨g.sm.trans s,g.nf,s _ _ g.e,fun n y h=>by
  obtain⟨d,kv,e1,e2,r⟩:=g.g n y h
  exact⟨d,kv,e1,s _ _ e2,r⟩,g.no,g.i,fun n y d h=>by
  obtain⟨e1,e2,o',e3⟩:=g.fr n y d h
  exact⟨e1,e2,o',s _ _ e3⟩⟩
theorem vM{n y n' y':Int}(h:ky n y=ky n' y'):n=n'/\y=y':=by
 injection h with h1 h2;injection h2 with h2 _;injection h1 with h1;injection h2 with h2;exact⟨h1,h2⟩
theorem Dts.wr{fo d:Addr}{H0 H:Hp}{dm:Int->Int->Prop}{f f':Int->Int->Int->Int}{b b':Int->Int->Nat}{kvs:List (List Key×V)}{ub:List (Key×V)}{N Y:Int}(g:Dts fo H0 H dm f b kvs)(hv:cg kvs (ky N Y)=some (.ref d))
  (h1:(ub.length<=b' N Y/\KsOk ub)/\∀h,0<=h->h<8->(cg ub (.inl h)).getD (.int 0)=.int (f' N Y h)) (h2:∀n y,dm n y->¬(n=N/\y=Y)->b n y<=b' n y/\∀h,0<=h->h<8->f' n y h=f n y h):Dts fo H0 (upd H d (.dK ub)) dm f' b' kvs:=by
 obtain⟨w1,w2,_⟩:=g.fr _ _ _ hv;refine⟨fun c o e=>by rw[az (aC e w1)];exact g.sm _ _ e,g.nf,by rw[az w2.symm];exact g.e,fun n y hd=>?_,g.no,g.i,fun n y d' hd=>?_⟩
 .by_cases hk:n=N/\y=Y
  .obtain⟨rfl,rfl⟩:=hk;exact⟨d,ub,hv,aj,h1⟩
  .obtain⟨d',kv,q1,q2,q3,q4⟩:=g.g n y hd;have nd:d'≠d:=fun z=>hk (g.i _ _ _ _ _ (z▸q1) hv);obtain⟨k1,k2⟩:=h2 n y hd hk;exact⟨d',kv,q1,by rw[az nd];exact q2,⟨Nat.le_trans q3.1 k1,q3.2⟩,fun h z1 z2=>by rw[k2 h z1 z2];exact q4 h z1 z2⟩
 .obtain⟨w3,w4,o,w5⟩:=g.fr n y d' hd;by_cases LC:d'=d
  .exact⟨w3,w4,.dK ub,by rw[LC];exact aj⟩
  .exact⟨w3,w4,o,by rw[az LC];exact w5⟩
theorem Dts.cast{fo:Addr}{H0 H:Hp}{dm:Int->Int->Prop}{f f':Int->Int->Int->Int}{b b':Int->Int->Nat}{kvs:List (List Key×V)}(g:Dts fo H0 H dm f b kvs)(h2:∀n y,dm n y->b n y<=b' n y/\∀h,0<=h->h<8->f' n y h=f n y h):Dts fo H0 H dm f' b' kvs:=
 ⟨g.sm,g.nf,g.e,fun n y hd=>by
  obtain⟨d',kv,q1,q2,q3,q4⟩:=g.g n y hd;obtain⟨k1,k2⟩:=h2 n y hd
  exact⟨d',kv,q1,q2,⟨Nat.le_trans q3.1 k1,q3.2⟩,fun h z1 z2=>by rw[k2 h z1 z2];exact q4 h z1 z2⟩,g.no,g.i,g.fr⟩
def dom(ps:List (List Int))(n y:Int):Prop:=0<=n/\n<ps.length/\fl (ps.getD n.toNat []) 2<=y/\y<=fl (ps.getD n.toNat []) 3
def f0(ps:List (List Int))(n y h:Int):Int:=if h=fl (ps.getD n.toNat []) 0 then fl (ps.getD n.toNat []) 4 else 0
inductive SpBegunI(vs:List V)(H:Hp)(Q:VK):Prop
 |mk:∀ap xp ps,(vs=[.ref ap])->(RowsAt H ap xp ps)->(ps.length<=10)->((∀r∈ps,okP r))->(∀fo H' kvs,Dts fo H H' (dom ps) (f0 ps) (fun _ _=>1) kvs->Q (.ref fo) H')->SpBegunI  vs H Q
def xx:Sp:=fun vs H Q _=>SpBegunI  vs H Q
theorem sc34s:FnScope ["_law_promises_here","_law_found","_law_number","_law_holder","_law_sort","_law_first","_law_last","_law_sacks","_law_price","_law_year"] ["_law_promises_here"] (aM (top 72)):=fQS
theorem Bt(F:Fun K "_law_begun" "_law_begun" (top 72) f fd)(Te:mg "enumerate"=none)(Tr:mg "range"=none):FnOk P w K mg base CX0 1 f fd ["_law_promises_here"] xx:=by
 refine F.ok sc34s (fun vs H Q E h=>?_) (fun ax A outer s H vs Q E hr h=>?_)
 .obtain⟨ap,xp,ps,rfl,_⟩:=h;rfl
 .obtain⟨ap,xp,ps,rfl,rp,lp,okp,q⟩:=h
  refine⟨_,aA (pss 1 sc34s.nd tO)
   (aA (bT zB4 rfl (ZT.pi_enum true rfl Te (au (pv 0) ao)) (bK rfl (aq (pgn 2 sc34s.nd) (aq (bK rfl (aq (pgn 3 sc34s.nd) (aq (pgn 4 sc34s.nd) (aq (pgn 5 sc34s.nd)
     (aq (pgn 6 sc34s.nd) (aq (pgn 7 sc34s.nd) (aq (pgn 8 sc34s.nd) aX))))))) aX)))
    (aD (bT zB4 rfl (iy rfl Tr (au (pv 5) (au (aV bj (pv 6) aB) ao))) (pgn 9 sc34s.nd)
     (aD (lH (eQ hr) (pv 1) (bW (au (pv 2) (au (pv 9) ao))) (Dq (zT (pv 3) (pv 7) Dp) rfl rfl Zy Zx) rfl)))))
   (aD (aQ (pv 1)))),?_⟩
  refine aG (aW ?_);refine fun fo LD=>?_;refine aH ?_;dsimp only;refine aG ?_
  have d0:Dts fo H (upd H fo (.dT [])) (fun _ _=>False) (f0 ps) (fun _ _=>1) []:=⟨Same.upd LD,LD,aj,fun _ _ z=>z.elim,fun _ _ _=>rfl,fun _ _ _ _ _ z=>(by cases z),fun _ _ _ z=>(by cases z)⟩
  generalize upd H fo (.dT [])=H1 at d0⊢;refine⟨_,rfl,ap,xp,rfl,SqT.of (d0.sm _ _ rp.e),?_⟩;refine ZT.for_enum true (xs:=xp) (fun i σ Hc=>∃x2 x3 x4 x5 x6 x7 x8 x9 kvs,σ=[some (.ref ap),some (.ref fo),x2,x3,x4,x5,x6,x7,x8,x9]/\Dts fo H Hc (fun n y=>dom ps n y/\n<i) (f0 ps) (fun _ _=>1) kvs/\kvs.length<=20*i) ?_ ?_ ?_ ?_
  .exact⟨none,none,none,none,none,none,none,none,[],rfl,⟨d0.sm,d0.nf,d0.e,fun n y z=>by
    have:=z.1.1;have:=z.2
    lia,fun n y _=>d0.no n y id,d0.i,d0.fr⟩,zA3 _⟩
  .rintro i σ Hc hi ⟨x2,x3,x4,x5,x6,x7,x8,x9,kvs,rfl,dt,lk⟩;exact SqT.of (dt.sm _ _ rp.e)
  .rintro i x σ Hc T0 hx ⟨x2,x3,x4,x5,x6,x7,x8,x9,kvs,rfl,dt,lk⟩ nT
   have hi:i<ps.length:=by
    have:=(zAa.mp hx).1;rw[rp.l]at this;exact this
   obtain⟨tr,gL,fh⟩:=rp.g i ps[i] (zA0 hi)
   have:x=.ref tr:=by
    rw[hx]at gL;exact zAl gL
   subst this;have op:=okp ps[i] (zAh hi)
   have ep:ps.getD ((i:Int)).toNat []=ps[i]:=by
    rw[zAi];exact getD_get hi
   have dT:=dt.new (o:=.tup [V.int i,V.ref tr]) nT;generalize TU:ps[i]=p at fh op ep;have LF:=dT.sm _ _ fh;rw[dH op.1]at LF;obtain⟨_,⟨a1,a2⟩,_,⟨c1,c2,c3⟩,⟨e1,e2⟩,_⟩:=op;refine⟨T0,_,rfl,SqT.of aj,rfl,_,_,rfl,_,_,rfl,?_⟩;refine⟨tr,_,rfl,SqT.of LF,rfl,_,_,rfl,_,_,rfl,_,_,rfl,_,_,rfl,_,_,rfl,_,_,rfl,rfl,rfl,?_⟩;refine⟨_,rfl,_,rfl,_,_,rfl,rfl,fl p 2,fl p 3+1,rfl,⟨Zz,Zz,Zz,Zz⟩,?_⟩;generalize upd Hc T0 (.tup [V.int i,V.ref tr])=H2 at dT⊢;refine cu (lo:=fl p 2) (n:=(fl p 3+1-fl p 2).toNat) (fun j σ Hj=>∃x9 kvs,σ=[some (.ref ap),some (.ref fo),some (.int i),some (.int (fl p 0)),some (.int (fl p 1)),some (.int (fl p 2)),some (.int (fl p 3)),some (.int (fl p 4)),some (.int (fl p 5)),x9]/\Dts fo H Hj (fun n y=>dom ps n y/\(n<i\/(n=i/\y<fl p 2+j))) (f0 ps) (fun _ _=>1) kvs/\kvs.length<=20*i+j) ?_ ?_ ?_
   .exact⟨x9,kvs,rfl,⟨dT.sm,dT.nf,dT.e,fun n y z=>dT.g n y ⟨z.1,by
     rcases z.2 with z2|⟨z2,z3⟩
     .exact z2
     .obtain⟨_,_,w1,_⟩:=z.1;rw[z2,ep]at w1
      lia⟩,fun n y z=>dT.no n y fun z'=>z ⟨z'.1,.inl z'.2⟩,dT.i,dT.fr⟩,lk⟩
   .rintro j σ Hj hj ⟨x9,kvs,rfl,dj,lj⟩;refine aH ?_;refine fun p1 ui=>?_;refine⟨_,rfl,_,rfl,aj,[(.inl (fl p 0),.int (fl p 4))],rfl,(by show 1<=15;decide),?_⟩
    have hD:∀b o,Hj b=some o->upd (upd Hj p1 (.dK [])) p1 (.dK (gU [] [(.inl (fl p 0),.int (fl p 4))])) b=some o:=fun b o e=>by
     rw[az (aC e ui),az (aC e ui)];exact e
    have tf:upd (upd Hj p1 (.dK [])) p1 (.dK (gU [] [(.inl (fl p 0),.int (fl p 4))])) p1=some (.dK [(.inl (fl p 0),.int (fl p 4))]):=aj;generalize upd (upd Hj p1 (.dK [])) p1 (.dK (gU [] [(.inl (fl p 0),.int (fl p 4))]))=HD at hD tf⊢
    have LG:p1≠fo:=fun z=>by
     rw[z,dj.e]at ui;cases ui
    refine⟨_,rfl,_,rfl,_,rfl,zL,fun t ht=>⟨fo,_,rfl,DPut.t (k:=ky i (fl p 2+j)) (Same.upd ht _ _ (hD _ _ dj.e)) aj Zu,?_⟩⟩
    have kp:∀b o,Hj b=some o->b≠fo->upd (upd HD t (.tup [V.int i,V.int (fl p 2+j)])) fo (.dT (putK kvs (ky i (fl p 2+j)) (.ref p1))) b=some o:=fun b o e ne=>by
     rw[az ne];exact Same.upd ht _ _ (hD _ _ e)
    have AI:upd (upd HD t (.tup [V.int i,V.int (fl p 2+j)])) fo (.dT (putK kvs (ky i (fl p 2+j)) (.ref p1))) p1=some (.dK [(.inl (fl p 0),.int (fl p 4))]):=by
     rw[az LG];exact Same.upd ht _ _ tf
    have Ox:H p1=none:=dj.sm.free ui;refine⟨_,_,rfl,⟨fun b o e=>kp b o (dj.sm _ _ e) (aC e dj.nf),dj.nf,aj,fun n y z=>?_,fun n y z=>?_,fun n y n' y' d z z'=>?_,fun n y d z=>?_⟩,?_⟩
    .by_cases hk:ky n y=ky i (fl p 2+j)
     .obtain⟨rfl,rfl⟩:=vM hk;refine⟨p1,_,by rw[dY,zAx rfl],AI,⟨zA3 _,fun p hp=>⟨fl _ 0,by rw[List.mem_singleton.mp hp],a1,Zz⟩⟩,fun h h0 h8=>?_⟩;unfold f0;rw[ep];by_cases hh:h=fl p 0
      .rw[zAx hh,cJ (show(Sum.inl (fl p 0):Key)=.inl h by rw[hh])];rfl
      .rw[zAw hh,cM (fun z=>hh (by injection z with z;exact z.symm))];rfl
     .have hd:dom ps n y/\(n<i\/(n=i/\y<fl p 2+j)):=⟨z.1,by
       rcases z.2 with z2|⟨z2,z3⟩
       .exact .inl z2
       .refine .inr ⟨z2,?_⟩;have:y≠fl p 2+j:=fun w=>hk (by rw[z2,w])
        lia⟩
      obtain⟨d,kv,q1,q2,q3⟩:=dj.g n y hd;exact⟨d,kv,by rw[dY,zAw hk];exact q1,kp _ _ q2 (dj.fr n y d q1).2.1,q3⟩
    .have hk:¬ky n y=ky i (fl p 2+j):=fun w=>by
      obtain⟨rfl,rfl⟩:=vM w;exact z ⟨⟨Zz,Zz,by rw[ep];lia,by rw[ep];lia⟩,.inr ⟨rfl,Zz⟩⟩
     rw[dY,zAw hk];exact dj.no n y fun z'=>z ⟨z'.1,z'.2.elim .inl fun w=>.inr ⟨w.1,Zz⟩⟩
    .rw[dY]at z z'
     have old:∀n y,cg kvs (ky n y)=some (.ref p1)->False:=fun n y w=>by
      obtain⟨_,_,o,w3⟩:=dj.fr n y p1 w;rw[ui]at w3;cases w3
     by_cases h1:ky n y=ky i (fl p 2+j)
     .rw[zAx h1]at z;by_cases h2:ky n' y'=ky i (fl p 2+j)
      .exact vM (h1.trans h2.symm)
      .rw[zAw h2]at z';injection z with z;injection z with z;rw[<-z]at z';exact(old _ _ z').elim
     .rw[zAw h1]at z;by_cases h2:ky n' y'=ky i (fl p 2+j)
      .rw[zAx h2]at z';injection z' with z';injection z' with z';rw[<-z']at z;exact(old _ _ z).elim
      .rw[zAw h2]at z';exact dj.i _ _ _ _ _ z z'
    .rw[dY]at z;by_cases h1:ky n y=ky i (fl p 2+j)
     .rw[zAx h1]at z;injection z with z;injection z with z;rw[<-z];exact⟨Ox,LG,_,AI⟩
     .rw[zAw h1]at z;obtain⟨w1,w2,o,w3⟩:=dj.fr n y d z;exact⟨w1,w2,o,kp _ _ w3 w2⟩
    .have:=cO kvs (ky i (fl p 2+j)) (V.ref p1);lia
   .rintro σ Hj ⟨x9,kvs,rfl,dj,lj⟩;refine⟨_,_,_,_,_,_,_,_,kvs,rfl,⟨dj.sm,dj.nf,dj.e,fun n y z=>dj.g n y ⟨z.1,?_⟩,fun n y z=>dj.no n y fun z'=>z ⟨z'.1,z'.2.elim (fun w=>by lia) fun w=>by lia⟩,dj.i,dj.fr⟩,Zz⟩;by_cases hn:n<i
    .exact .inl hn
    .have e9:n=i:=by
      have:=z.2;lia
     refine .inr ⟨e9,?_⟩;obtain⟨_,_,_,w1⟩:=z.1;rw[e9,ep]at w1;lia
  .rintro σ Hc ⟨x2,x3,x4,x5,x6,x7,x8,x9,kvs,rfl,dt,lk⟩;refine⟨_,rfl,q fo Hc kvs ⟨dt.sm,dt.nf,dt.e,fun n y z=>dt.g n y ⟨z,?_⟩,fun n y z=>dt.no n y fun z'=>z z'.1,dt.i,dt.fr⟩⟩;rw[rp.l];exact z.2.1
def nJ(ps:List (List Int))(f:Int->Int->Int->Int)(s:List Int):Bool:=oM ps s&&(years (fl s 4) (fl (nu ps s) 3)).all fun y=>decide (fl s 3<=f (fl s 0) y (fl s 1))
inductive SpLHoldsI(vs:List V)(H:Hp)(Q:VK):Prop
 |mk:∀ap xp ps fo H0 f b kvs t s,(vs=[.ref ap,.ref fo,.ref t])->(RowsAt H ap xp ps)->((∀r∈ps,okP r))->(Dts fo H0 H (dom ps) f b kvs)->(H t=some (.tup (s.map V.int)))->(s.length=5)->(∀H',Same H H'->Q (.bl (nJ ps f s)) H')->SpLHoldsI  vs H Q
def uz:Sp:=fun vs H Q _=>SpLHoldsI  vs H Q
theorem Ek{ns:List Int}{M k:Int}(h1:M∈ns)(h2:∀a∈ns,M<=a):decide (k<=M)=ns.all fun a=>decide (k<=a):=by
 rw[Bool.eq_iff_iff,Zq,List.all_eq_true];exact⟨fun h a ha=>zAu (Int.le_trans h (h2 a ha)),fun h=>zB6 (h M h1)⟩
theorem Jz{σ:St}{H:Hp}{ta tb:TE}{i j:Int}(a:Ev σ H ta (.int i))(b:Ev σ H tb (.int j)):Ev σ H (tOp rEq ta tb) (.bl (decide (i=j))):=fun Q q=>a _ (b _ ⟨rfl,by
 have ed:decide (V.int i=V.int j)=decide (i=j):=decide_eq_decide.mpr ⟨fun z=>by injection z,fun z=>by rw[z]⟩;rw[ed]
 exact q⟩)
theorem sc35s:FnScope ["_law_promises_here","_law_rows","_law_sale","_law_number","_law_seller","_law_buyer","_law_sacks","_law_year","_law_first","_law_last"] ["_law_promises_here","_law_rows","_law_sale"] (aM (top 73)):=fQS
theorem Ky:(["_law_one","_law_rows","_law_number","_law_seller"]:List Str).Nodup:=by decide +kernel
theorem yP(F:Fun K "_law_holds" "_law_holds" (top 73) f fd)(T:Mg mg)(Tr:mg "range"=none)(Tm:mg "min"=none):FnOk P w K mg base CX0 1 f fd ["_law_promises_here","_law_rows","_law_sale"] uz:=by
 refine F.ok sc35s (fun vs H Q E h=>?_) (fun ax A outer s H vs Q E hr h=>?_)
 .obtain⟨ap,xp,ps,fo,H0,g,b,kvs,t,r,rfl,_⟩:=h;rfl
 .obtain⟨ap,xp,ps,fo,H0,g,b,kvs,t,r,rfl,rp,okp,dt,et,h5,q⟩:=h
  refine⟨_,aA (cG (pv 2) (bK rfl (aq (bf (i:=3) sc35s.nd rfl (Or.inr rfl)) (aq (bf (i:=4) sc35s.nd rfl (Or.inr rfl)) (aq (pgn 5 sc35s.nd) (aq (pgn 6 sc35s.nd) (aq (pgn 7 sc35s.nd) aX)))))))
   (aA (cQ (PW.pt (sO (cP (fj bJ km aB (pv 3) (aP bC rfl T.len PySem.boot_len (au (pv 0) ao)))) (sO (cP (fj bJ bJ aB (pv 4) aB)) (sO (cP (fj bJ bJ aB (pv 5) aB)) (uN (bN oX (pv 4) (pv 5) (bQ _))))))) (aD (aQ j8)) bB)
   (aA (uO (i:=8) (j:=9) rfl sc35s.nd rfl rfl Zx rfl rfl (au (pX bL (pX bL (pv 0) (pv 3)) aB) (au (pX bL (pX bL (pv 0) (pv 3)) aB) ao)) rfl)
   (aA (cQ (PW.pt (sO (cP (fj bJ bJ aB (pv 6) aB)) (uN (cP (fj bJ bJ (pv 8) (pv 7) (pv 9)))))) (aD (aQ j8)) bB)
   (aD (aQ (j9 wg (aP (oF rfl) rfl Tm boot_min (au (bG ["_law_one","_law_rows","_law_number","_law_seller"] [none,some 1,some 3,some 4] rfl (iy rfl Tr (au (pv 7) (au (aV bj (pv 9) aB) ao)))
    (fun C fp Zt s₂ H₂=>⟨pgn 0 Ky,bu,mO (eQ hr) (fM (eQ hr) (pv 1) (bW (au (pv 2) (au (pv 0) ao))) (fun _ _=>rfl)) (pv 3) aB (by constructor<;>rfl)⟩)
    (fun C=>cI (cI (cI trivial))) ⟨rfl,rfl,rfl,rfl⟩) ao)) (pv 6) (bQ _))))))),?_⟩
  have fin:=q;unfold nJ oM at fin;rw[il h5]at et;refine aG ?_;refine⟨_,rfl,t,_,rfl,SqT.of et,rfl,_,_,rfl,_,_,rfl,_,_,rfl,_,_,rfl,_,_,rfl,rfl,?_⟩;dsimp only;refine aG ?_;refine bR (p:=fun i j=>decide (i<=j)) (q:=fun i j=>decide (i<j)) (i:=0) (j:=fl r 0) (k:=(xp.length:Int)) eV (du rfl) (fun Q h=>⟨_,rfl,ap,xp,rfl,.inr (SqT.of rp.e),h⟩) _ ⟨_,rfl,?_⟩;rw[rp.l]
  cases e1:(decide (0<=fl r 0)&&decide (fl r 0<ps.length))with
  |false=>
   rw[e1]at fin;exact bV (bV (fin H (Same.refl H)))
  |true=>
  rw[e1]at fin;refine bO ?_;refine bR (p:=fun i j=>decide (i<=j)) (q:=fun i j=>decide (i<=j)) (i:=0) (j:=fl r 1) (k:=7) eV (du rfl) eV _ ⟨_,rfl,?_⟩;dsimp only;rw[show decide (fl r 1<=7)=decide (fl r 1<8)from decide_eq_decide.mpr Zz]
  cases e2:(decide (0<=fl r 1)&&decide (fl r 1<8))with
  |false=>
   rw[e2]at fin;exact bV (bV (fin H (Same.refl H)))
  |true=>
  rw[e2]at fin;refine bO ?_;refine bR (p:=fun i j=>decide (i<=j)) (q:=fun i j=>decide (i<=j)) (i:=0) (j:=fl r 2) (k:=7) eV (du rfl) eV _ ⟨_,rfl,?_⟩;dsimp only;rw[show decide (fl r 2<=7)=decide (fl r 2<8)from decide_eq_decide.mpr Zz]
  cases e3:(decide (0<=fl r 2)&&decide (fl r 2<8))with
  |false=>
   rw[e3]at fin;exact bV (bV (fin H (Same.refl H)))
  |true=>
  rw[e3]at fin;refine bO ?_;refine Jz (i:=fl r 1) (j:=fl r 2) (du rfl) (du rfl) _ ⟨_,rfl,?_⟩
  cases e4:decide (fl r 1=fl r 2)with
  |true=>
   rw[e4]at fin;exact bV (fin H (Same.refl H))
  |false=>
  rw[e4]at fin;refine bO (cD ?_);dsimp only;refine aG ?_;rw[zAc,Zq,Zq]at e1 e2;obtain⟨p,hp,ep,op⟩:=f9 okp e1.1 e1.2;have rV:nu ps r=p:=ep;rw[rV]at fin;obtain⟨tp,fy,fk⟩:=fP rp e1.1 hp;rw[dH op.1]at fk;obtain⟨_,_,_,⟨g1,g2,g3⟩,_⟩:=id op;refine⟨_,rfl,_,rfl,ap,xp,_,.ref tp,rfl,rfl,SqT.of rp.e,fy,tp,_,2,.int (fl p 2),rfl,rfl,SqT.of fk,rfl,?_⟩;refine⟨_,rfl,_,rfl,ap,xp,_,.ref tp,rfl,rfl,SqT.of rp.e,fy,tp,_,3,.int (fl p 3),rfl,rfl,SqT.of fk,rfl,?_⟩;refine⟨_,_,rfl,?_⟩;dsimp only;refine aG ?_;refine bR (p:=fun i j=>decide (i<=j)) (q:=fun i j=>decide (i<=j)) (i:=1) (j:=fl r 3) (k:=99) eV (du rfl) eV _ ⟨_,rfl,?_⟩;dsimp only
  cases e5:(decide (1<=fl r 3)&&decide (fl r 3<=99))with
  |false=>
   rw[e5]at fin;exact bV (bV (fin H (Same.refl H)))
  |true=>
  rw[e5]at fin;refine bO ?_;refine bR (p:=fun i j=>decide (i<=j)) (q:=fun i j=>decide (i<=j)) (i:=fl p 2) (j:=fl r 4) (k:=fl p 3) (du rfl) (du rfl) (du rfl) _ ⟨_,rfl,?_⟩;dsimp only
  cases e6:(decide (fl p 2<=fl r 4)&&decide (fl r 4<=fl p 3))with
  |false=>
   rw[e6]at fin;exact bV (fin H (Same.refl H))
  |true=>
  rw[e6]at fin;rw[zAc,Zq,Zq]at e6;refine bO (cD ?_);dsimp only;refine⟨_,rfl,_,rfl,_,_,rfl,rfl,fl r 4,fl p 3+1,rfl,⟨Zz,Zz,Zz,Zz⟩,?_⟩;refine ul (fun ys Hc=>Same H Hc/\ys=((years (fl r 4) (fl p 3)).take ys.length).map fun y=>V.int (g (fl r 0) y (fl r 1))) ⟨Same.refl _,rfl⟩ Zu ?_ ?_
  .rintro i ys Hc Qc hi hy ⟨sc,ey⟩ qc;refine⟨_,rfl,_,rfl,_,rfl,zL,fun k hk=>?_⟩;have sk:=sc.updR (o:=.tup [V.int (fl r 0),V.int (fl r 4+i)]) hk;have dk:=dt.same sk;obtain⟨d,kv,q1,q2,q3,q4⟩:=dk.g (fl r 0) (fl r 4+i) ⟨e1.1,e1.2,by rw[ep];lia,by rw[ep];lia⟩;refine⟨fo,.ref d,rfl,by rw[<-q1];exact DGet.t dk.e aj,?_⟩;refine⟨d,rfl,.inl ⟨kv,.inl q2⟩,_,rfl,_,DGet.k (k:=.inl (fl r 1)) q2,?_⟩;rw[q4 _ e2.1 e2.2];refine qc _ _ ⟨sk,?_⟩
   have hx:(years (fl r 4) (fl p 3))[ys.length]?=some (fl r 4+(i:Int)):=by
    rw[hy];exact jV hi
   exact pW ey hx
  .rintro ys Hc hy ⟨sc,ey⟩ D hD;rw[List.take_of_length_le (by rw[jU,hy];exact zA3 _)]at ey;refine⟨D,(years (fl r 4) (fl p 3)).map fun y=>g (fl r 0) y (fl r 1),rfl,SqL.of (by rw[zAr];rw[ey];exact aj),?_,fun M h1 h2=>⟨_,rfl,_,_,rfl,rfl,?_⟩⟩
   .intro z;have:=congrArg List.length z;rw[zA1,jU,List.length_nil]at this;lia
   .have em:=Ek (k:=fl r 3) h1 h2;rw[List.all_map]at em;show Q (.bl (decide (fl r 3<=M))) _;rw[em];exact fin _ (sc.updR hD)
def dl(s:List Int)(h:Int):Int:=(if h=fl s 2 then fl s 3 else 0)-(if h=fl s 1 then fl s 3 else 0)
def fS(f:Int->Int->Int->Int)(s:List Int)(n y h:Int):Int:=if n=fl s 0/\fl s 4<=y then f n y h+dl s h else f n y h
theorem El{H:Hp}{d:Addr}{a b:HO}:upd (upd H d a) d b=upd H d b:=by
 funext c;by_cases h:c=d
 .subst h;rw[aj,aj]
 .rw[az h,az h,az h]
theorem uA{L:List Int}{i v h:Int}(hl:L.length=8)(i0:0<=i)(i1:i<8)(h0:0<=h)(h1:h<8):(iY L i v).getD h.toNat 0=L.getD h.toNat 0+(if h=i then v else 0):=by
 unfold iY;rw[zA7,List.getElem?_set];by_cases hh:h=i
 .subst hh;rw[zAx rfl,zAx rfl,zAx Zz];rfl
 .rw[zAw Zz,zAw hh,<-zA7];lia
theorem yQ{L s:List Int}{n y h:Int}(hl:L.length=8)(ok:okS s)(h0:0<=h)(h1:h<8):(hstep n y L s).getD h.toNat 0=if n=fl s 0/\fl s 4<=y then L.getD h.toNat 0+dl s h else L.getD h.toNat 0:=by
 obtain⟨_,⟨a1,a2⟩,b1,b2⟩:=ok;unfold hstep dl;by_cases hc:fl s 0=n/\fl s 4<=y
 .rw[zAx hc,zAx ⟨hc.1.symm,hc.2⟩,uA (by rw[ik];exact hl) b1 b2 h0 h1,uA hl a1 a2 h0 h1];split<;>split<;>lia
 .rw[zAw hc,zAw fun z=>hc ⟨z.1.symm,z.2⟩]
theorem yR{p s:List Int}{ss:List (List Int)}{n y h:Int}(ja:fl p 2<=y/\y<=fl p 3)(ok:okS s)(h0:0<=h)(h1:h<8):
  (bF p (ss++[s]) n y).getD h.toNat 0=if n=fl s 0/\fl s 4<=y then(bF p ss n y).getD h.toNat 0+dl s h else(bF p ss n y).getD h.toNat 0:=by
 have hl:=dR p ss n y
 have e:bF p (ss++[s]) n y=hstep n y (bF p ss n y) s:=by
  unfold bF;rw[zAx ja,zAx ja,List.foldl_append];rfl
 rw[e,yQ hl ok h0 h1]
inductive SpSellI(vs:List V)(H:Hp)(Q:VK):Prop
 |mk:∀ap xp ps fo H0 f b kvs t s,(vs=[.ref ap,.ref fo,.ref t])->(RowsAt H ap xp ps)->((∀r∈ps,okP r))->(Dts fo H0 H (dom ps) f (fun _ _=>b) kvs)->(b<=1000)->(H t=some (.tup (s.map V.int)))->(s.length=5)->(nJ ps f s=true)->(∀H',Dts fo H0 H' (dom ps) (fS f s) (fun _ _=>b+2) kvs->Q .non H')->SpSellI  vs H Q
def Bu:Sp:=fun vs H Q _=>SpSellI  vs H Q
theorem sc36s:FnScope ["_law_promises_here","_law_rows","_law_sale","_law_number","_law_seller","_law_buyer","_law_sacks","_law_year","_law_one","_law_row"] ["_law_promises_here","_law_rows","_law_sale"] (aM (top 74)):=fQS
theorem Em(F:Fun K "_law_sell" "_law_sell" (top 74) f fd)(Tr:mg "range"=none):FnOk P w K mg base CX0 1 f fd ["_law_promises_here","_law_rows","_law_sale"] Bu:=by
 refine F.ok sc36s (fun vs H Q E h=>?_) (fun ax A outer s H vs Q E hr h=>?_)
 .obtain⟨ap,xp,ps,fo,H0,g,b,kvs,t,r,rfl,_⟩:=h;rfl
 .obtain⟨ap,xp,ps,fo,H0,g,b,kvs,t,r,rfl,rp,okp,dt,hb,et,h5,hh,q⟩:=h
  refine⟨_,aA (cG (pv 2) (bK rfl (aq (pgn 3 sc36s.nd) (aq (pgn 4 sc36s.nd) (aq (pgn 5 sc36s.nd) (aq (pgn 6 sc36s.nd) (aq (pgn 7 sc36s.nd) aX)))))))
   (aD (bT zB4 rfl (iy rfl Tr (au (pv 7) (au (aV bj (pX bL (pX bL (pv 0) (pv 3)) aB) aB) ao))) (pgn 8 sc36s.nd)
    (aA (pss 9 sc36s.nd (fM (eQ hr) (pv 1) (bW (au (pv 3) (au (pv 8) ao))) (fun _ _=>rfl)))
    (aA (lH (eQ hr) (pv 9) (pv 4) (aV eF (fM (eQ hr) (pv 9) (pv 4) (fun _ _=>rfl)) (pv 6)) rfl)
    (aD (lH (eQ hr) (pv 9) (pv 5) (aV bj (mO (eQ hr) (pv 9) (pv 5) aB (by constructor<;>rfl)) (pv 6)) rfl)))))),?_⟩
  rw[il h5]at et;unfold nJ oM at hh;simp only[Bool.and_eq_true,Zq,Bool.not_eq_true',decide_eq_false_iff_not]at hh;obtain⟨⟨⟨n0,n1⟩,⟨a1,a2⟩,⟨b1,b2⟩,EC,⟨k1,k2⟩,y0,y1⟩,hy⟩:=hh;obtain⟨p,hp,ep,op⟩:=f9 okp n0 n1;have rV:nu ps r=p:=ep;rw[rV]at y0 y1 hy;obtain⟨tp,fy,fk⟩:=fP rp n0 hp;rw[dH op.1]at fk;obtain⟨_,_,_,⟨g1,g2,g3⟩,_⟩:=id op;refine aG ?_;refine⟨_,rfl,t,_,rfl,SqT.of et,rfl,_,_,rfl,_,_,rfl,_,_,rfl,_,_,rfl,_,_,rfl,rfl,?_⟩;dsimp only;refine⟨_,rfl,_,rfl,_,rfl,ap,xp,_,.ref tp,rfl,rfl,SqT.of rp.e,fy,tp,_,3,.int (fl p 3),rfl,rfl,SqT.of fk,rfl,_,_,rfl,rfl,fl r 4,fl p 3+1,rfl,⟨Zz,Zz,Zz,Zz⟩,?_⟩
  refine cu (lo:=fl r 4) (n:=(fl p 3+1-fl r 4).toNat) (fun j σ Hj=>∃x8 x9,σ=[some (.ref ap),some (.ref fo),some (.ref t),some (.int (fl r 0)),some (.int (fl r 1)),some (.int (fl r 2)),some (.int (fl r 3)),some (.int (fl r 4)),x8,x9] /\
   Dts fo H0 Hj (dom ps) (fun n y h=>if n=fl r 0/\fl r 4<=y/\y<fl r 4+j then g n y h+dl r h else g n y h) (fun n y=>if n=fl r 0/\fl r 4<=y/\y<fl r 4+j then b+2 else b) kvs) ?_ ?_ ?_
  .refine⟨none,none,rfl,dt.cast fun n y hd=>?_⟩;rw[zAw Zz];exact⟨zA3 _,fun h _ _=>by rw[zAw Zz]⟩
  .rintro j σ Hj hj ⟨x8,x9,rfl,dj⟩;refine aH (aG ?_);refine aW ?_;refine⟨_,rfl,_,rfl,_,rfl,zL,fun k hk=>?_⟩;have dk:=dj.new (o:=.tup [V.int (fl r 0),V.int (fl r 4+j)]) hk;have ek:upd Hj k (.tup [V.int (fl r 0),V.int (fl r 4+j)]) k=some (.tup ((ky (fl r 0) (fl r 4+j)).map kV)):=aj;generalize upd Hj k (.tup [V.int (fl r 0),V.int (fl r 4+j)])=H1 at dk ek⊢
   have EM:dom ps (fl r 0) (fl r 4+j):=⟨n0,n1,by rw[ep];lia,by rw[ep];lia⟩
   obtain⟨d,kv,q1,q2,⟨q3,qk⟩,q4⟩:=dk.g _ _ EM;rw[if_neg Zz]at q3;refine⟨fo,.ref d,rfl,by rw[<-q1];exact DGet.t dk.e ek,?_⟩;refine aH ?_;dsimp only;have kg:=q4 (fl r 1) a1 a2;rw[if_neg Zz]at kg
   have oz:fl r 3<=g (fl r 0) (fl r 4+j) (fl r 1):=by
    have:=List.all_eq_true.mp hy (fl r 4+j) (zB8 (jV hj));exact zB6 this
   have EN:cg kv (.inl (fl r 1))=some (.int (g (fl r 0) (fl r 4+j) (fl r 1))):=by
    cases ev:cg kv (.inl (fl r 1))with
    |none=>
     rw[ev]at kg;injection kg with kg;lia
    |some v=>
     rw[ev]at kg;exact congrArg some kg
   have AJ:=q4 (fl r 2) b1 b2;rw[if_neg Zz]at AJ;refine aG ?_;refine⟨_,rfl,_,rfl,d,_,rfl,by rw[<-EN];exact DGet.k (k:=.inl (fl r 1)) q2,_,rfl,_,_,rfl,rfl,_,rfl,_,rfl,d,_,rfl,DPut.k (k:=.inl (fl r 1)) q2 Zu,?_⟩;dsimp only;have TV:=cO kv (.inl (fl r 1)) (V.int (g (fl r 0) (fl r 4+j) (fl r 1)-fl r 3))
   have vb:(cg (putK kv (.inl (fl r 1)) (V.int (g (fl r 0) (fl r 4+j) (fl r 1)-fl r 3))) (.inl (fl r 2))).getD (.int 0)=.int (g (fl r 0) (fl r 4+j) (fl r 2)):=by
    rw[dY,zAw (fun z=>EC (by injection z with z;exact z.symm))];exact AJ
   refine⟨_,rfl,d,rfl,.inl ⟨_,.inl aj⟩,_,rfl,_,DGet.k (k:=.inl (fl r 2)) aj,_,rfl,_,_,vb,rfl,_,rfl,_,rfl,d,_,rfl,DPut.k (k:=.inl (fl r 2)) aj Zu,?_⟩;have TX:=cO (putK kv (.inl (fl r 1)) (V.int (g (fl r 0) (fl r 4+j) (fl r 1)-fl r 3))) (.inl (fl r 2)) (V.int (g (fl r 0) (fl r 4+j) (fl r 2)+fl r 3));refine⟨_,_,rfl,?_⟩;rw[El]
   refine dk.wr q1 ⟨⟨?_,(qk.put a1 a2 _).put b1 b2 _⟩,fun h h0 h8=>?_⟩ fun n y hd fI=>⟨?_,fun h h0 h8=>?_⟩
   .rw[zAx ⟨rfl,Zz,Zz⟩];exact Nat.le_trans (cO _ _ _) (Nat.succ_le_succ (Nat.le_trans (cO _ _ _) (Nat.succ_le_succ q3)))
   .rw[zAx ⟨rfl,Zz,Zz⟩,dY];unfold dl;by_cases kx:h=fl r 2
    .rw[zAx (by rw[kx]),zAx kx,zAw (fun z=>EC (z.symm.trans kx))];show V.int _=V.int _;rw[kx];congr 1;lia
    .rw[zAw (fun z=>kx (by injection z)),zAw kx,dY];by_cases kq:h=fl r 1
     .rw[zAx (by rw[kq]),zAx kq];show V.int _=V.int _;rw[kq];congr 1;lia
     .rw[zAw (fun z=>kq (by injection z)),zAw kq];have:=q4 h h0 h8;rw[zAw Zz]at this;rw[this];congr 1;lia
   .split<;>split<;>lia
   .by_cases hc:n=fl r 0/\fl r 4<=y/\y<fl r 4+j
    .rw[zAx hc,zAx ⟨hc.1,hc.2.1,Zz⟩]
    .rw[zAw hc,zAw fun z=>hc ⟨z.1,z.2.1,by
      have:y≠fl r 4+j:=fun w=>fI ⟨z.1,w⟩
      lia⟩]
  .rintro σ Hj ⟨x8,x9,rfl,dj⟩;refine q Hj (dj.cast fun n y hd=>⟨by split<;>lia,fun h h0 h8=>?_⟩);unfold fS;by_cases hc:n=fl r 0/\fl r 4<=y
   .have:y<=fl p 3:=by
     have:=hd.2.2.2;rw[hc.1,ep]at this;exact this
    rw[zAx hc,zAx ⟨hc.1,hc.2,Zz⟩]
   .rw[zAw hc,zAw fun z=>hc ⟨z.1,z.2.1⟩]
inductive SpSoldRI(vs:List V)(H:Hp)(Q:VK):Prop
 |mk:∀ap xp ps ah xs ss,(vs=[.ref ap,.ref ah])->(RowsAt H ap xp ps)->(ps.length<=10)->((∀r∈ps,okP r))->(RowsAt H ah xs ss)->(ss.length<=100)->((∀s∈ss,s.length=5))->(∀t fo H',Same H H'->H' t=some (.tup [.ref fo,unV (un ps ss)])->(un ps ss=none->∃b kvs,Dts fo H H' (dom ps) (fun n y h=>(bF (ps.getD n.toNat []) ss n y).getD h.toNat 0) b kvs)->Q (.ref t) H')->SpSoldRI  vs H Q
def rQ:Sp:=fun vs H Q _=>SpSoldRI  vs H Q
inductive SpSoldI(vs:List V)(H:Hp)(Q:VK):Prop
 |mk:∀ap xp ps ah xs ss,(vs=[.ref ap,.ref ah])->(RowsAt H ap xp ps)->(ps.length<=10)->((∀r∈ps,okP r))->(RowsAt H ah xs ss)->(ss.length<=100)->((∀s∈ss,s.length=5))->(∀t fo H',Same H H'->H' t=some (.tup [.ref fo,unV (un ps ss)])->Q (.ref t) H')->SpSoldI  vs H Q
def Bv:Sp:=fun vs H Q _=>SpSoldI  vs H Q
theorem Bw{ps:List (List Int)}{n y h:Int}(ok:okP (ps.getD n.toNat []))(ja:fl (ps.getD n.toNat []) 2<=y/\y<=fl (ps.getD n.toNat []) 3)(h0:0<=h)(h8:h<8):(bF (ps.getD n.toNat []) [] n y).getD h.toNat 0=f0 ps n y h:=by
 unfold bF f0;rw[zAx ja];generalize ps.getD n.toNat []=p at ok;obtain⟨_,⟨a1,a2⟩,_⟩:=ok;show(base0 p).getD h.toNat 0=_;unfold base0;rw[zA7,List.getElem?_set];by_cases hh:h=fl p 0
 .rw[zAx (by rw[hh]),zAx (by rw[List.length_replicate];lia),zAx hh];rfl
 .rw[zAw Zz,zAw hh,List.getElem?_replicate,zAx Zz];rfl
theorem sc37s:FnScope ["_law_promises_here","_law_sales_here","_law_rows","_law_at","_law_sale"] ["_law_promises_here","_law_sales_here"] (aM (top 75)):=fQS
theorem uB(F:Fun K "_law_sold" "_law_sold" (top 75) f fd)(Te:mg "enumerate"=none)(c1:Cal P w K mg base 1 "_law_begun" ["_law_promises_here"] xx)(c2:Cal P w K mg base 1 "_law_holds" ["_law_promises_here","_law_rows","_law_sale"] uz)(c3:Cal P w K mg base 1 "_law_sell" ["_law_promises_here","_law_rows","_law_sale"] Bu):
  FnOk P w K mg base CX0 2 f fd ["_law_promises_here","_law_sales_here"] rQ:=by
 refine F.ok sc37s (fun vs H Q E h=>?_) (fun ax A outer s H vs Q E hr h=>?_)
 .obtain⟨ap,xp,ps,ah,xs,ss,rfl,_⟩:=h;rfl
 .obtain⟨ap,xp,ps,ah,xs,ss,rfl,rp,lp,okp,rs,ls,c9,q⟩:=h
  refine⟨_,aA (pss 2 sc37s.nd (aK c1 hr (au (pv 0) ao)))
   (aA (bT zB4 rfl (ZT.pi_enum true rfl Te (au (pv 1) ao)) (bK rfl (aq (pgn 3 sc37s.nd) (aq (pgn 4 sc37s.nd) aX)))
    (aA (cQ (cP (dZ (aK c2 hr (au (pv 0) (au (pv 2) (au (pv 4) ao)))))) (aD (aQ (bW (au (pv 2) (au (pv 3) ao))))) bB)
    (aD (cW (aK c3 hr (au (pv 0) (au (pv 2) (au (pv 4) ao))))))))
   (aD (aQ (bW (au (pv 2) (au qy ao)))))),?_⟩
  refine aG (aW ?_);refine⟨_,rfl,ap,xp,ps,rfl,rp,lp,okp,fun fo H1 kvs d1=>?_⟩;refine aH ?_;dsimp only;refine aG ?_;refine⟨_,rfl,ah,xs,rfl,SqT.of (d1.sm _ _ rs.e),?_⟩
  have Oy:∀n y,dom ps n y->okP (ps.getD n.toNat []):=fun n y hd=>by
   obtain⟨p,_,e2,e3⟩:=f9 okp hd.1 hd.2.1;rw[e2];exact e3
  refine ZT.for_enum true (xs:=xs) (fun i σ Hc=>∃x3 x4,σ=[some (.ref ap),some (.ref ah),some (.ref fo),x3,x4]/\Dts fo H Hc (dom ps) (fun n y h=>(bF (ps.getD n.toNat []) (ss.take i) n y).getD h.toNat 0) (fun _ _=>1+2*i) kvs/\∀j,j<i->dz ps (ss.take j) (ss.getD j [])=true) ?_ ?_ ?_ ?_
  .exact⟨none,none,rfl,d1.cast fun n y hd=>⟨zA3 _,fun h h0 h8=>Bw (Oy n y hd) hd.2.2 h0 h8⟩,fun j hj=>absurd hj (Nat.not_lt_zero _)⟩
  .rintro i σ Hc hi ⟨x3,x4,rfl,dt,hh⟩;exact SqT.of (dt.sm _ _ rs.e)
  .rintro i x σ Hc T0 hx ⟨x3,x4,rfl,dt,hh⟩ nT
   have hi:i<ss.length:=by
    have:=(zAa.mp hx).1;rw[rs.l]at this;exact this
   obtain⟨tr,gL,fh⟩:=rs.g i ss[i] (zA0 hi)
   have:x=.ref tr:=by
    rw[hx]at gL;exact zAl gL
   subst this;have h5:=c9 ss[i] (zAh hi);have dT:=dt.new (o:=.tup [V.int i,V.ref tr]) nT;have eT:upd Hc T0 (.tup [V.int i,V.ref tr]) T0=some (.tup [V.int i,V.ref tr]):=aj;generalize upd Hc T0 (.tup [V.int i,V.ref tr])=H2 at dT eT⊢;refine⟨T0,_,rfl,SqT.of eT,rfl,_,_,rfl,_,_,rfl,rfl,?_⟩;refine aG ?_;refine⟨_,rfl,_,rfl,_,rfl,ap,xp,ps,fo,H,_,_,kvs,tr,ss[i],rfl,rp.same dT.sm,okp,dT,dT.sm _ _ fh,h5,fun H3 s3=>⟨_,rfl,?_⟩⟩;have d3:=dT.same s3;have EO:nJ ps (fun n y h=>(bF (ps.getD n.toNat []) (ss.take i) n y).getD h.toNat 0) ss[i]=dz ps (ss.take i) ss[i]:=rfl
   cases eh:dz ps (ss.take i) ss[i]with
   |false=>
    rw[EO,eh];refine bV ⟨_,rfl,_,rfl,zL,fun t ht=>q t fo _ (d3.sm.updR ht) ?_ fun z=>?_⟩
    .rw[rN hh hi (by rw[getD_get hi];exact eh)];exact aj
    .rw[rN hh hi (by rw[getD_get hi];exact eh)]at z;cases z
   |true=>
    rw[EO,eh];refine bO (cD ?_);refine⟨_,rfl,_,rfl,_,rfl,ap,xp,ps,fo,H,_,1+2*i,kvs,tr,ss[i],rfl,rp.same d3.sm,okp,d3,Zz,d3.sm _ _ fh,h5,EO.trans eh,fun H4 d4=>?_⟩;have dA:ss.take (i+1)=ss.take i++[ss[i]]:=by rw[zAj,zA0 hi];rfl
    refine⟨_,_,rfl,d4.cast fun n y hd=>⟨Zz,fun h h0 h8=>?_⟩,fun j hj=>?_⟩
    .rw[dA,yR hd.2.2 (jA h5 eh) h0 h8];rfl
    .rcases Nat.lt_succ_iff_lt_or_eq.mp hj with z|z
     .exact hh j z
     .rw[z,getD_get hi];exact eh
  .rintro σ Hc ⟨x3,x4,rfl,dt,hh⟩;refine⟨_,rfl,zL,fun t ht=>q t fo _ (dt.sm.updR ht) ?_ fun _=>?_⟩
   .rw[wZ fun j hj=>hh j (by rw[rs.l];exact hj)];exact aj
   .rw[show xs.length=ss.length from rs.l,zAm]at dt;exact⟨_,kvs,dt.new ht⟩
theorem En{f:Addr}{fd:FuncData}(F:FnOk P w K mg base CX0 2 f fd ["_law_promises_here","_law_sales_here"] rQ):FnOk P w K mg base CX0 2 f fd ["_law_promises_here","_law_sales_here"] Bv:=by
 refine F.imp fun vs H Q E h=>?_;obtain⟨ap,xp,ps,ah,xs,ss,rfl,rp,lp,okp,rs,ls,c9,q⟩:=h;exact⟨ap,xp,ps,ah,xs,ss,rfl,rp,lp,okp,rs,ls,c9,fun t fo H' s e _=>q t fo H' s e⟩
def JB(st:Addr)(H:Hp)(n:Int)(v:V)(H':Hp):Prop:=∃ps:List (List Int),But st H H'/\eZ H' st/\IsTh (fun _=>False) H' v (bY ps)/\(ps.length:Int)<=n/\∀r∈ps,okP r
inductive SpProms2I(vs:List V)(H:Hp)(Q:VK):Prop
 |mk:∀st n y,(vs=[.ref st,.int n,.int y])->(eZ H st)->(1<=n)->(n<=10)->(0<=y)->(y<=1000)->(∀v H',JB st H n v H'->Q v H')->SpProms2I  vs H Q
def uC:Sp:=fun vs H Q _=>SpProms2I  vs H Q
theorem rR(F:Fun K "_law_promises" "_law_promises" (top 71) f fd)(T:Mg mg)(Tr:mg "range"=none)(Tm:mg "min"=none)(c1:Cal P w K mg base 1 "_law_take" ["_law_state_here","_law_many"] iV):FnOk P w K mg base CX0 2 f fd ["_law_state_here","_law_most","_law_years"] uC:=by
 refine F.ok sc22 (fun vs H Q E h=>?_) (fun ax A outer s H vs Q E hr h=>?_)
 .obtain⟨st,n,y,rfl,_⟩:=h;rfl
 .obtain⟨st,n,y,rfl,fg,n1,n2,y1,y2,q⟩:=h
  refine⟨_,aA (uO (i:=3) (j:=4) rfl sc22.nd rfl rfl Zx rfl rfl (au (cj ao) (au (pX c7 (cj (ji (by repeat constructor))) (aK c1 hr (au (pv 0) (au aB ao)))) ao)) rfl)
   (aA (bT zB4 rfl (aZ rfl Tr (au (aK c1 hr (au (pv 0) (au (aV bj (pv 1) aB) ao))) ao)) (pgn 5 sc22.nd)
    (aA (pss 6 sc22.nd (aK c1 hr (au (pv 0) (au (aP (fX rfl) rfl Tm boot_min (au aB (au (aV bj (pv 2) aB) ao))) ao))))
    (aA (pss 7 sc22.nd (aP (fX rfl) rfl Tm boot_min (au aB (au (aV bj (pv 6) (aK c1 hr (au (pv 0) (au (pX c7 (cj (ji (by repeat constructor))) (aK c1 hr (au (pv 0) (au aB ao)))) ao)))) ao))))
    (aA (pss 8 sc22.nd (pX c7 (wz (qW aB (qW aB (qW (aK c1 hr (au (pv 0) (au aB ao))) (qW (aV uR aB aB) gq))))) (aK c1 hr (au (pv 0) (au aB ao)))))
    (aA (pss 9 sc22.nd (pX c7 (wz (qW aB (qW aB (qW aB (qW (aK c1 hr (au (pv 0) (au aB ao))) gq))))) (aK c1 hr (au (pv 0) (au aB ao)))))
    (aD (cW (jd zBc zBg zBf dN (pv 3) (au (Fz (v6 (jj ⟨pv 9⟩ (jj ⟨aK c1 hr (au (pv 0) (au aB ao))⟩ (jj ⟨pv 6⟩ (jj ⟨pv 7⟩ (jj ⟨aV bj aB (aK c1 hr (au (pv 0) (au (pv 4) ao)))⟩ (jj ⟨pv 8⟩ gq)))))))) ao)))))))))
   (aD (aQ (cH cB rfl T.tuple boot_tuple (au (pv 3) ao))))),?_⟩
  obtain⟨a,b,es,h1,h2,h3⟩:=id fg;refine aG ?_;refine⟨zL,fun p3 mh=>?_⟩
  have gT:p3≠st:=fun z=>by
   rw[z,es]at mh;cases mh
  have g0:Mk3 st p3 [] [] H (upd H p3 (.lst [])):=⟨fun b' o' e' _=>Same.upd mh _ _ e',⟨a,b,Same.upd mh _ _ es,h1,h2,h3⟩,aj,.nil⟩
  refine⟨zL,fun p hp=>?_⟩;have g1:=g0.new (o:=.lst (([3,12,99]:List Int).map V.int)) hp
  have np:p≠st:=fun z=>by
   obtain⟨x,y,e7,_⟩:=g0.sa;rw[z,e7]at hp;cases hp
  refine⟨_,rfl,st,3,rfl,g1.sa,by decide,by decide,fun r a1 b1 r0 r1 k1 k2 k3=>?_⟩
  obtain⟨wd,hw,w1,w2⟩:∃wd:Int,atI (([3,12,99]:List Int).map V.int) r=some (.int wd)/\1<=wd/\wd<=99:=by
   have:r=0\/r=1\/r=2:=Zz
   rcases this with rfl|rfl|rfl
   .exact⟨3,rfl,by decide,by decide⟩
   .exact⟨12,rfl,by decide,by decide⟩
   .exact⟨99,rfl,by decide,by decide⟩
  refine⟨p,_,r,.int wd,rfl,rfl,SqL.of (by rw[az np];exact aj),hw,_,_,rfl,?_⟩;have g2:=g1.take gT k1 k2 k3;dsimp only;refine aG ?_;refine⟨_,rfl,_,rfl,_,_,rfl,rfl,st,n+1,rfl,g2.sa,Zz,Zz,fun r2 a2 b2 x0 x1 z1 z2 z3=>⟨r2,rfl,Zz,Zz,?_⟩⟩;have g3:=g2.take gT z1 z2 z3;refine cu (lo:=0) (n:=r2.toNat) (fun i σ H'=>∃xs ds x5 x6 x7 x8 x9,σ=[some (.ref st),some (.int n),some (.int y),some (.ref p3),some (.int wd),x5,x6,x7,x8,x9]/\Mk3 st p3 xs ds H H'/\(∃rs:List (List Int),ds=rs.map cT/\rs.length=i/\∀r∈rs,okP r)/\xs.length=i) ?_ ?_ ?_
  .exact⟨[],[],none,none,none,none,none,rfl,g3,⟨[],rfl,rfl,fun _ h=>nomatch h⟩,rfl⟩
  .rintro i σ H' hi ⟨xs,ds,x5,x6,x7,x8,x9,rfl,g,⟨rs,ER,LH,ES⟩,hl⟩
   have sA:∀{Hc:Hp} {c:Addr},Mk3 st p3 xs ds H Hc->Hc c=none->c≠st:=fun{Hc c} gc hc z=>by
    obtain⟨x,y,e7,_⟩:=gc.sa;rw[z,e7]at hc;cases hc
   refine aH (aG ?_);refine aW ?_;refine⟨_,rfl,_,rfl,_,_,rfl,rfl,_,_,rfl,st,_,rfl,g.sa,by split<;>lia,by split<;>lia,fun f1 a3 b3 o0 o1 o2 o3 o4=>?_⟩;have g4:=g.take gT o2 o3 o4;have f2:f1<20:=by split at o1<;>lia
   refine aH ?_;dsimp only;refine aG (aW ?_);refine⟨_,rfl,_,rfl,zL,fun p5 LI=>?_⟩;have n5:=sA g4 LI;have g5:=g4.new (o:=.lst (([1,4,20]:List Int).map V.int)) LI;refine⟨_,rfl,st,3,rfl,g5.sa,by decide,by decide,fun r4 a4 b4 q0 q1 q2 q3 q4=>?_⟩
   obtain⟨w5,Oz,w6,w7⟩:∃w5:Int,atI (([1,4,20]:List Int).map V.int) r4=some (.int w5)/\1<=w5/\w5<=20:=by
    have:r4=0\/r4=1\/r4=2:=Zz
    rcases this with rfl|rfl|rfl
    .exact⟨1,rfl,by decide,by decide⟩
    .exact⟨4,rfl,by decide,by decide⟩
    .exact⟨20,rfl,by decide,by decide⟩
   have g6:=g5.take gT q2 q3 q4;refine⟨p5,_,r4,.int w5,rfl,rfl,SqL.of (by rw[az n5];exact aj),Oz,st,w5,rfl,g6.sa,w6,Zz,fun r5 a5 b5 s0 s1 s2 s3 s4=>⟨_,_,rfl,rfl,_,_,rfl,?_⟩⟩;have g7:=g6.take gT s2 s3 s4;refine aH ?_;dsimp only;refine aG (aW ?_);refine⟨_,rfl,st,1000,rfl,g7.sa,by decide,by decide,fun r6 a6 b6 t0 t1 t2 t3 t4=>⟨_,_,rfl,rfl,⟨by decide,by decide,by decide⟩,zL,fun p6 LJ=>?_⟩⟩;have g8:=g7.take gT t2 t3 t4;have n6:=sA g8 LJ;have g9:=g8.new (o:=.lst [V.int 0,V.int 1,V.int r6,V.int (10^(6:Int).toNat)]) LJ;refine⟨_,rfl,st,4,rfl,g9.sa,by decide,by decide,fun r7 a7 b7 u0 u1 u2 u3 u4=>?_⟩
   obtain⟨pr,OA,OB,OC⟩:∃pr:Int,atI [V.int 0,V.int 1,V.int r6,V.int (10^(6:Int).toNat)] r7=some (.int pr)/\0<=pr/\pr<=1000000:=by
    have:r7=0\/r7=1\/r7=2\/r7=3:=Zz
    rcases this with rfl|rfl|rfl|rfl
    .exact⟨0,rfl,by decide,by decide⟩
    .exact⟨1,rfl,by decide,by decide⟩
    .exact⟨r6,rfl,t0,Zz⟩
    .exact⟨_,rfl,by decide,by decide⟩
   have ga:=g9.take gT u2 u3 u4;refine⟨p6,_,r7,.int pr,rfl,rfl,SqL.of (by rw[az n6];exact aj),OA,?_⟩;refine aH ?_;dsimp only;refine aG (aW ?_);refine⟨_,rfl,st,8,rfl,ga.sa,by decide,by decide,fun r8 a8 b8 v0 v1 v2 v3 v4=>⟨zL,fun p7 LK=>?_⟩⟩;have gb:=ga.take gT v2 v3 v4;have n7:=sA gb LK;have gc:=gb.new (o:=.lst [V.int 0,V.int 1,V.int 2,V.int r8]) LK;refine⟨_,rfl,st,4,rfl,gc.sa,by decide,by decide,fun r9 a9 b9 y0 y3 y4 y5 y6=>?_⟩
   obtain⟨ho,OD,OE,mv⟩:∃ho:Int,atI [V.int 0,V.int 1,V.int 2,V.int r8] r9=some (.int ho)/\0<=ho/\ho<8:=by
    have:r9=0\/r9=1\/r9=2\/r9=3:=Zz
    rcases this with rfl|rfl|rfl|rfl
    .exact⟨0,rfl,by decide,by decide⟩
    .exact⟨1,rfl,by decide,by decide⟩
    .exact⟨2,rfl,by decide,by decide⟩
    .exact⟨r8,rfl,v0,v1⟩
   have gd:=gc.take gT y4 y5 y6;refine⟨p7,_,r9,.int ho,rfl,rfl,SqL.of (by rw[az n7];exact aj),OD,?_⟩;refine aH ?_;dsimp only;refine⟨_,rfl,.inl ⟨rfl,_,SqL.of gd.e3⟩,?_⟩;refine⟨_,rfl,_,rfl,st,3,rfl,gd.sa,by decide,by decide,fun ra aa ba c0 c1 c2 c3 c4=>?_⟩;have ge:=gd.take gT c2 c3 c4;refine⟨_,rfl,_,rfl,_,rfl,_,rfl,st,wd,rfl,ge.sa,w1,Zz,fun rb ab bb d0 d1 d2 d3 d4=>⟨_,_,rfl,rfl,_,rfl,zL,fun l ml=>?_⟩⟩;have gf:=ge.take gT d2 d3 d4;have gg:=gf.new (o:=.tup [V.int ho,V.int ra,V.int f1,V.int (if f1+r5<19 then f1+r5 else 19),V.int (1+rb),V.int pr]) ml
   have zi:l≠p3:=fun z=>by
    rw[z,gf.e3]at ml;cases ml
   refine⟨p3,xs,.ref l,rfl,rfl,gg.e3,by rw[hl,sizeLine_eq];lia,?_⟩;refine⟨xs++[.ref l],ds++[.tuple [.int ho,.int ra,.int f1,.int (if f1+r5<19 then f1+r5 else 19),.int (1+rb),.int pr]],_,_,_,_,_,rfl,⟨fun b' o' e' ne=>?_,?_,aj,?_⟩,?_,by rw[zA2,hl];rfl⟩
   .have:b'≠p3:=aC e' mh;rw[az this];exact gg.bt b' o' e' ne
   .obtain⟨x,y',e7,k⟩:=gg.sa;exact⟨x,y',by rw[az gT.symm];exact e7,k⟩
   .refine IsThs.append (gg.ts.keep (fun c l' e'=>?_) (fun _ _ z _=>z.elim) fun _ _ z _=>z.elim) (.cons (.tup (by rw[az zi];exact aj) (.cons (.int _) (.cons (.int _) (.cons (.int _) (.cons (.int _) (.cons (.int _) (.cons (.int _) .nil))))))) .nil)
    have:c≠p3:=fun z=>by
     rw[z,gg.e3]at e';cases e'
    rw[az this];exact e'
   .refine⟨rs++[[ho,ra,f1,(if f1+r5<19 then f1+r5 else 19),1+rb,pr]],by rw[ER,zA4];rfl,by rw[zA2,LH];rfl,fun r hr=>?_⟩;rcases zA6.mp hr with z|z
    .exact ES r z
    .rw[List.mem_singleton.mp z];have lb:f1<=(if f1+r5<19 then f1+r5 else 19)/\(if f1+r5<19 then f1+r5 else 19)<=19:=by split<;>lia
     exact⟨rfl,⟨OE,mv⟩,⟨c0,c1⟩,⟨o0,lb.1,lb.2⟩,⟨(by show 1<=1+rb;lia),(by show 1+rb<=99;lia)⟩,OB,OC⟩
  .rintro σ H' ⟨xs,ds,x5,x6,x7,x8,x9,rfl,g,⟨rs,ER,LH,ES⟩,hl⟩;refine⟨_,rfl,p3,xs,rfl,.inl ⟨SqL.of g.e3,fun l ml=>?_⟩⟩;have g':=g.new (o:=.tup xs) ml;rw[ER]at g';exact q _ _ ⟨rs,g'.bt,g'.sa,.tup aj (g'.ts.keep (fun _ _ e=>e) (fun _ _ z _=>z.elim) fun _ _ z _=>z.elim),Zz,ES⟩
theorem xF{X:Cx}:OpR X (binaryOp .Add) (fun x y H Q=>∃a b xs ys,x=.ref a/\y=.ref b/\H a=some (.tup xs)/\H b=some (.tup ys)/\ys≠[]/\xs.length+ys.length<=sizeLine/\∀c H',Same H H'->H' c=some (.tup (xs++ys))->Q (.ref c) H'):=by
 intro Zt s σ H x y v u Q I rx ry h;obtain⟨a,b,xs,ys,rfl,rfl,ha,hb,hy,hz,q⟩:=h;refine Ab Zt s σ H _ _ v u Q I rx ry ⟨a,b,xs,ys,rfl,rfl,SqT.of ha,SqT.of hb,hy,hz,fun e=>q b H (Same.refl H) (by rw[e];exact hb),fun _ p hp=>q p _ (Same.upd hp) aj⟩
theorem Eo{X:Cx}:SlR X (fun x lo hi H Q=>∃a xs,x=.ref a/\H a=some (.tup xs)/\∀c H',Same H H'->H' c=some (.tup (jb xs lo hi))->Q (.ref c) H'):=by
 intro Zt s σ H x v vl vu lo hi sl Q I rx hs pl pu h;obtain⟨a,xs,rfl,ha,q⟩:=h;refine wA Zt s σ H _ v vl vu lo hi sl Q I rx hs pl pu ⟨a,xs,rfl,SqT.of ha,fun hw=>q a H (Same.refl H) ?_,fun _ p hp=>q p _ (Same.upd hp) aj⟩;rw[ha];unfold jb;rw[hw.1,hw.2,List.drop_zero,Nat.sub_zero,zAm]
theorem Dr.rows{st a:Addr}{H H':Hp}{xs:List V}{rs:List (List Int)}(g:Dr st H H')(h0:eZ H st)(r:RowsAt H a xs rs):RowsAt H' a xs rs:=by
 obtain⟨x,y,e,_⟩:=h0
 exact r.keep fun b l e'=>g.bt _ _ e' fun z=>by
  rw[z,e]at e';cases e'
theorem Dr.tup{st a:Addr}{H H':Hp}{xs:List V}(g:Dr st H H')(h0:eZ H st)(r:H a=some (.tup xs)):H' a=some (.tup xs):=by
 obtain⟨x,y,e,_⟩:=h0
 exact g.bt _ _ r fun z=>by
  rw[z,e]at r;cases r
theorem yS:bootBuiltins "max"=some (.builtin "max"):=by decide +kernel
theorem qg{H:Hp}{a b t:Addr}{xs:List V}{rs:List (List Int)}{r:List Int}(h:RowsAt H a xs rs)(et:H t=some (.tup (r.map V.int)))(eb:H b=some (.tup (xs++[V.ref t]))):RowsAt H b (xs++[V.ref t]) (rs++[r]):=by
 refine⟨eb,by rw[zA2,zA2,h.l];rfl,fun i r' e=>?_⟩;by_cases hi:i<rs.length
 .rw[zBa hi]at e;rw[zBa (by rw[h.l];exact hi)];exact h.g i r' e
 .rw[zB9 Zz]at e;rw[zB9 (by rw[h.l];lia),h.l]
  cases hj:i-rs.length with
  |zero=>
   rw[hj]at e;injection e with e;subst e;exact⟨t,rfl,et⟩
  |succ k=>
   rw[hj]at e;simp at e
def smR(s:List Int):Prop:=s.length=5/\∀i∈s,-10<=i/\i<=2000000
inductive SpAnyI(vs:List V)(H:Hp)(Q:VK):Prop
 |mk:∀st ap xp ps,(vs=[.ref st,.ref ap])->(eZ H st)->(RowsAt H ap xp ps)->(ps.length<=10)->((∀r∈ps,okP r))->(∀t s H',Dr st H H'->H' t=some (.tup (s.map V.int))->smR s->Q (.ref t) H')->SpAnyI  vs H Q
def G7:Sp:=fun vs H Q _=>SpAnyI  vs H Q
theorem sc38s:FnScope ["_law_state_here","_law_promises_here","_law_number","_law_holder","_law_sort","_law_first","_law_last","_law_sacks","_law_price","_law_seller","_law_buyer","_law_year"] ["_law_state_here","_law_promises_here"] (aM (top 76)):=fQS
theorem HQ(F:Fun K "_law_any_sale" "_law_any_sale" (top 76) f fd)(T:Mg mg)(Tm:mg "max"=none)(c1:Cal P w K mg base 1 "_law_take" ["_law_state_here","_law_many"] iV):FnOk P w K mg base CX0 2 f fd ["_law_state_here","_law_promises_here"] G7:=by
 refine F.ok sc38s (fun vs H Q E h=>?_) (fun ax A outer s H vs Q E hr h=>?_)
 .obtain⟨st,ap,xp,ps,rfl,_⟩:=h;rfl
 .obtain⟨st,ap,xp,ps,rfl,fg,rp,lp,okp,q⟩:=h
  refine⟨_,aA (pss 2 sc38s.nd (aK c1 hr (au (pv 0) (au (aP (oY rfl) rfl Tm yS (au aB (au (aP bC rfl T.len PySem.boot_len (au (pv 1) ao)) ao))) ao))))
   (aA (cG (pX bL (aV xF (pv 1) (bW (au (bW (ji (by repeat constructor))) ao))) (pv 2)) (bK rfl (aq (pgn 3 sc38s.nd) (aq (pgn 4 sc38s.nd) (aq (pgn 5 sc38s.nd)
    (aq (pgn 6 sc38s.nd) (aq (pgn 7 sc38s.nd) (aq (pgn 8 sc38s.nd) aX))))))))
   (aA (pss 9 sc38s.nd (pX c7 (cj (au (pv 3) (au (pv 3) (au (aK c1 hr (au (pv 0) (au aB ao))) ao)))) (aK c1 hr (au (pv 0) (au aB ao)))))
   (aA (pss 10 sc38s.nd (aV fV (aV bj (aV bj (pv 9) aB) (aK c1 hr (au (pv 0) (au aB ao)))) aB))
   (aA (pss 11 sc38s.nd (aV bj (pv 5) (aK c1 hr (au (pv 0) (au (aV bj (aV eF (pv 6) (pv 5)) aB) ao)))))
   (aD (aQ (Fz (v6 (jj ⟨pv 2⟩ (jj ⟨pv 9⟩ (jj ⟨pv 10⟩ (jj ⟨aV bj aB (aK c1 hr (au (pv 0) (au (pv 7) ao)))⟩ (jj ⟨pv 11⟩ gq))))))))))))),?_⟩
  have g0:Dr st H H:=⟨But.refl,fg⟩
  have TY:xp.length<=10:=by rw[rp.l];exact lp
  refine aG (aW ?_);refine⟨_,rfl,_,rfl,ap,xp,rfl,.inr (SqT.of rp.e),_,_,rfl,st,_,rfl,fg,?_,?_,fun r1 a1 b1 r0 rn k1 k2 k3=>?_⟩
  .split<;>lia
  .split<;>lia
  have g1:=g0.take k1 k2 k3;have uj:=g1.rows fg rp;have TZ:r1.toNat<xp.length+1:=by split at rn<;>lia
  generalize upd H st (.lst [.int a1,.int b1])=H1 at g1 uj⊢;refine aH ?_;dsimp only;refine aG ?_;refine⟨_,rfl,zL,fun t0 LM=>⟨zL,fun t1 AK=>?_⟩⟩;have g2:=(g1.new (o:=.tup (([0,0,0,3,9,0]:List Int).map V.int)) LM).new (o:=.tup [V.ref t0]) AK;have m2:Same H1 (upd (upd H1 t0 (.tup (([0,0,0,3,9,0]:List Int).map V.int))) t1 (.tup [V.ref t0])):=(Same.upd LM).updR AK;have LN:=Same.upd (o:=.tup [V.ref t0]) AK t0 (.tup (([0,0,0,3,9,0]:List Int).map V.int)) aj;have LO:upd (upd H1 t0 (.tup (([0,0,0,3,9,0]:List Int).map V.int))) t1 (.tup [V.ref t0]) t1=some (.tup [V.ref t0]):=aj;generalize upd (upd H1 t0 (.tup (([0,0,0,3,9,0]:List Int).map V.int))) t1 (.tup [V.ref t0])=H2 at g2 m2 LN LO⊢;refine⟨ap,t1,xp,_,rfl,rfl,m2 _ _ uj.e,LO,by simp,by rw[sizeLine_eq];show xp.length+1<=_;lia,fun c H3 s3 ec=>?_⟩;have g3:=g2.same s3;have OF:=qg ((uj.same m2).same s3) (s3 _ _ LN) ec
  have ET:∀r∈ps++[[0,0,0,3,9,0]],okP r:=fun r hr=>by
   rcases zA6.mp hr with z|z
   .exact okp r z
   .rw[List.mem_singleton.mp z];exact⟨rfl,by decide,by decide,by decide,by decide,by decide⟩
  obtain⟨p,hp,_,op⟩:=f9 (n:=r1) ET r0 (by rw[zA2,<-rp.l];show r1<((xp.length+1:Nat):Int);lia);obtain⟨tp,fy,fk⟩:=fP OF r0 hp;rw[dH op.1]at fk;obtain⟨_,⟨p1,p2⟩,_,⟨p3,p4,p5⟩,⟨p6,p7⟩,_⟩:=id op;refine⟨_,rfl,c,_,r1,.ref tp,rfl,rfl,SqT.of ec,fy,?_⟩;refine⟨tp,_,rfl,SqT.of fk,rfl,_,_,rfl,_,_,rfl,_,_,rfl,_,_,rfl,_,_,rfl,_,_,rfl,rfl,?_⟩;dsimp only;refine aG (aW ?_);refine⟨_,rfl,_,rfl,_,rfl,st,8,rfl,g3.sa,by decide,by decide,fun r2 a2 b2 i0 i1 k4 k5 k6=>⟨zL,fun l1 fN=>?_⟩⟩;have g4:=(g3.take k4 k5 k6).new (o:=.lst [V.int (fl p 0),V.int (fl p 0),V.int r2]) fN;have n4:=(g3.take k4 k5 k6).ne fN;refine⟨_,rfl,st,3,rfl,g4.sa,by decide,by decide,fun r3 a3 b3 i2 i3 k7 k8 k9=>?_⟩
  obtain⟨sl,OG,T2,qv⟩:∃sl:Int,atI [V.int (fl p 0),V.int (fl p 0),V.int r2] r3=some (.int sl)/\0<=sl/\sl<8:=by
   have:r3=0\/r3=1\/r3=2:=Zz
   rcases this with rfl|rfl|rfl
   .exact⟨_,rfl,p1,p2⟩
   .exact⟨_,rfl,p1,p2⟩
   .exact⟨_,rfl,i0,i1⟩
  have g5:=g4.take k7 k8 k9;refine⟨l1,_,r3,.int sl,rfl,rfl,SqL.of (by rw[az n4];exact aj),OG,?_⟩;refine aH ?_;dsimp only;refine aG (aW ?_);refine⟨_,rfl,_,_,rfl,rfl,_,rfl,st,7,rfl,g5.sa,by decide,by decide,fun r4 a4 b4 i4 i5 m1 OH m3=>⟨_,_,rfl,rfl,_,_,rfl,rfl,(by show(0:Int)<8;decide),?_⟩⟩;have g6:=g5.take m1 OH m3;refine aH ?_;dsimp only;refine aG (aW ?_);refine⟨_,rfl,_,rfl,_,rfl,_,rfl,_,_,rfl,rfl,_,_,rfl,rfl,st,_,rfl,g6.sa,Zz,Zz,fun r5 a5 b5 i6 i7 m4 m5 m6=>⟨_,_,rfl,rfl,?_⟩⟩;have g7:=g6.take m4 m5 m6;refine aH ?_;dsimp only;refine⟨_,rfl,_,rfl,_,rfl,_,rfl,_,rfl,st,_,rfl,g7.sa,p6,Zz,fun r6 a6 b6 i8 i9 m7 m8 m9=>⟨_,_,rfl,rfl,_,rfl,zL,fun t ht=>?_⟩⟩;have g8:=g7.take m7 m8 m9;refine q t [r1,sl,(sl+1+r4) % 8,1+r6,fl p 2+r5] _ (g8.new ht) aj ⟨rfl,fun i hi=>?_⟩;simp only[List.mem_cons,List.not_mem_nil,or_false]at hi
  have e8:0<=(sl+1+r4) % 8/\(sl+1+r4) % 8<8:=⟨Int.emod_nonneg _ Zx,Int.emod_lt_of_pos _ Zx⟩
  lia
theorem sc39s:FnScope ["_law_state_here","_law_promises_here","_law_most","_law_found","_law_turn","_law_more"] ["_law_state_here","_law_promises_here","_law_most"] (aM (top 77)):=fQS
theorem sc40s:FnScope ["_law_state_here","_law_years","_law_most","_law_sales_here","_law_clips_here","_law_promises_here"] ["_law_state_here","_law_years","_law_most","_law_sales_here"] (aM (top 78)):=fQS
def okC(r:List Int):Prop:=r.length=3/\∀x∈r,0<=x/\x<1000
def JC(st:Addr)(H:Hp)(n:Int)(v:V)(H':Hp):Prop:=∃cs:List (List Int),But st H H'/\eZ H' st/\IsTh (fun _=>False) H' v (bY cs)/\1<=cs.length/\(cs.length:Int)<=n/\∀r∈cs,okC r
inductive SpClipsRI(vs:List V)(H:Hp)(Q:VK):Prop
 |mk:∀st n,(vs=[.ref st,.int n])->(eZ H st)->(1<=n)->(n<=20)->(∀v H',JC st H n v H'->Q v H')->SpClipsRI  vs H Q
def uD:Sp:=fun vs H Q _=>SpClipsRI  vs H Q
inductive SpSalesUI(vs:List V)(H:Hp)(Q:VK):Prop
 |mk:∀st ap xp ps n,(vs=[.ref st,.ref ap,.int n])->(eZ H st)->(RowsAt H ap xp ps)->(ps.length<=10)->((∀r∈ps,okP r))->(0<=n)->(n<=12)->(∀a xs ss H',Dr st H H'->RowsAt H' a xs ss->(ss.length:Int)<=n->(∀s∈ss,smR s)->un ps ss=none->Q (.ref a) H')->SpSalesUI  vs H Q
def uE:Sp:=fun vs H Q _=>SpSalesUI  vs H Q
inductive SpBookRI(vs:List V)(H:Hp)(Q:VK):Prop
 |mk:∀(st:Addr) (y m k:Int),(vs=[.ref st,.int y,.int m,.int k])->(eZ H st)->(1<=y)->(y<=20)->(1<=m)->(m<=10)->(0<=k)->(k<=12)->(∀a ac xc cs ap xp ps ah xs ss H',Dr st H H'->H' a=some (.tup [.ref ac,.ref ap,.ref ah])->RowsAt H' ac xc cs->1<=cs.length->(cs.length:Int)<=y->(∀r∈cs,okC r)->RowsAt H' ap xp ps->(ps.length:Int)<=m->(∀r∈ps,okP r)->RowsAt H' ah xs ss->(ss.length:Int)<=k->(∀s∈ss,smR s)->un ps ss=none->Q (.ref a) H')->SpBookRI  vs H Q
def xG:Sp:=fun vs H Q _=>SpBookRI  vs H Q
theorem yU(F:Fun K "_law_clips" "_law_clips" (top 70) f fd)(T:Mg mg)(Tr:mg "range"=none)(c1:Cal P w K mg base 1 "_law_take" ["_law_state_here","_law_many"] iV):FnOk P w K mg base CX0 2 f fd ["_law_state_here","_law_most"] uD:=by
 refine F.ok sc21 (fun vs H Q E h=>?_) (fun ax A outer s H vs Q E hr h=>?_)
 .obtain⟨st,n,rfl,_⟩:=h;rfl
 .obtain⟨st,n,rfl,fg,n1,n2,q⟩:=h
  refine⟨_,aA (gO (i:=2) sc21.nd rfl (Or.inr rfl) (pX c7 (cj (ji (by repeat constructor))) (aK c1 hr (au (pv 0) (au aB ao)))))
   (aA (pss 3 sc21.nd (cj ao))
   (aA (bT zB4 rfl (aZ rfl Tr (au (aV bj aB (aK c1 hr (au (pv 0) (au (pv 1) ao)))) ao)) (pgn 4 sc21.nd)
    (aD (cW (jd zBc zBg zBf dN (pv 3) (au (cH cB rfl T.tuple boot_tuple (au
     (bG ["_law_sort","_law_state_here","_law_wide"] [none,some 0,some 2] rfl (aZ rfl Tr (au aB ao))
      (fun C fp Zt s₂ H₂=>⟨pgn 0 Kp,bu,aK c1 hr (au (pv 1) (au (pX (fB (K:=K) rfl) (cj (au (pv 2) (au aB (au (pv 2) (au aB ao))))) (aK c1 hr (au (pv 1) (au aB ao)))) ao))⟩)
      (fun C=>cI (cI trivial)) ⟨rfl,rfl,rfl,rfl⟩) ao)) ao)))))
   (aD (aQ (cH cB rfl T.tuple boot_tuple (au (pv 3) ao)))))),?_⟩
  obtain⟨a,b,es,h1,h2,h3⟩:=id fg;refine aG (aW ?_);refine⟨zL,fun p hp=>?_⟩
  have np:p≠st:=fun z=>by
   rw[z,es]at hp;cases hp
  have mN:∀o,upd H p o st=some (.lst [.int a,.int b]):=fun o=>by rw[az np.symm];exact es
  refine⟨_,rfl,st,4,rfl,⟨a,b,mN _,h1,h2,h3⟩,by decide,by decide,fun r a1 b1 r0 r1 g1 g2 g3=>?_⟩
  obtain⟨wd,hw,w1,w2⟩:∃wd:Int,atI (([4,14,45,1000]:List Int).map V.int) r=some (.int wd)/\1<=wd/\wd<=1000:=by
   have:r=0\/r=1\/r=2\/r=3:=Zz
   rcases this with rfl|rfl|rfl|rfl
   .exact⟨4,rfl,by decide,by decide⟩
   .exact⟨14,rfl,by decide,by decide⟩
   .exact⟨45,rfl,by decide,by decide⟩
   .exact⟨1000,rfl,by decide,by decide⟩
  refine⟨p,_,r,.int wd,rfl,rfl,SqL.of (by rw[az np];exact aj),hw,?_⟩;refine aH ?_;dsimp only;refine aG (aW ?_);refine⟨zL,fun p3 mh=>?_⟩;refine aH ?_;dsimp only;refine aG ?_
  have gT:p3≠st:=fun z=>by
   rw[z,aj]at mh;cases mh
  refine⟨_,rfl,_,rfl,st,n,rfl,⟨a1,b1,by rw[az gT.symm];exact aj,g1,g2,g3⟩,n1,Zz,fun r2 a2 b2 x0 x1 y1 y2 y3=>⟨_,_,rfl,rfl,1+r2,rfl,Zz,Zz,?_⟩⟩
  have pe:∀b' o',H b'=some o'->b'≠st->b'≠p/\b'≠p3:=fun b' o' e' ne=>by
   have z:b'≠p:=aC e' hp;refine⟨z,fun z2=>?_⟩;rw[<-z2,az ne,az z,e']at mh;cases mh
  refine cu (lo:=0) (n:=(1+r2).toNat) (fun i σ H'=>∃xs,∃ds:List (List Int),∃x4,σ=[some (.ref st),some (.int n),some (.int wd),some (.ref p3),x4]/\But st H H'/\eZ H' st/\H' p3=some (.lst xs)/\IsThs (fun _=>False) H' xs (ds.map cT)/\(∀r∈ds,okC r)/\ds.length=i/\xs.length=i) ?_ ?_ ?_
  .refine⟨[],[],none,rfl,fun b' o' e' ne=>?_,⟨a2,b2,aj,y1,y2,y3⟩,?_,.nil,(fun r hr=>by cases hr),rfl,rfl⟩
   .obtain⟨k1,k2⟩:=pe b' o' e' ne;rw[az ne,az k2,az ne,az k1];exact e'
   .rw[az gT];exact aj
  .rintro i σ H' hi ⟨xs,ds,x4,rfl,bt,sa,e3,ts,tm,hs,hl⟩;refine aH ?_;refine⟨_,rfl,.inl ⟨rfl,_,SqL.of e3⟩,3,rfl,by decide,by decide,?_⟩;refine⟨fun j m ys LP H2=>m=3-j/\j<=3/\∃is x0,ys=is.map V.int/\is.length=j/\(∀v∈is,0<=v/\v<1000)/\LP=[x0,some (.ref st),some (.int wd)]/\But st H' H2/\eZ H2 st,⟨3,rfl,by decide,[],none,rfl,rfl,(fun _ h=>nomatch h),rfl,fun _ _ e _=>e,sa⟩,?_⟩;rintro j m ys LP H2 ⟨rfl,hj,is,x0,rfl,EU,hv,rfl,BB,LQ⟩;refine⟨by rw[zA1,EU,sizeLine_eq];lia,?_⟩;by_cases bp:j<3
   .refine .inr ⟨bp,fun x H3 y=>?_⟩;obtain⟨e5,e6⟩:=y;subst e5;subst e6;refine aH ?_;obtain⟨a5,b5,e7,k1,k2,k3⟩:=LQ;refine⟨_,rfl,_,rfl,_,rfl,zL,fun p4 EV=>?_⟩
    have LR:p4≠st:=fun z=>by
     rw[z,e7]at EV;cases EV
    refine⟨_,rfl,st,4,rfl,⟨a5,b5,by rw[az LR.symm];exact e7,k1,k2,k3⟩,by decide,by decide,fun r3 a6 b6 z0 z1 l1 l2 l3=>?_⟩
    obtain⟨wn,OI,u1,u2⟩:∃wn:Int,atI [V.int wd,V.int 1,V.int wd,V.int 3] r3=some (.int wn)/\1<=wn/\wn<=1000:=by
     have:r3=0\/r3=1\/r3=2\/r3=3:=Zz
     rcases this with rfl|rfl|rfl|rfl
     .exact⟨wd,rfl,w1,w2⟩
     .exact⟨1,rfl,by decide,by decide⟩
     .exact⟨wd,rfl,w1,w2⟩
     .exact⟨3,rfl,by decide,by decide⟩
    refine⟨p4,_,r3,.int wn,rfl,rfl,SqL.of (by rw[az LR];exact aj),OI,st,wn,rfl,⟨a6,b6,aj,l1,l2,l3⟩,u1,Zz,fun r4 a7 b7 v0 v1 m1 m2 m3=>?_⟩;refine⟨3-(j+1),Zz,rfl,bp,is++[r4],_,by rw[zA4];rfl,by rw[zA2,EU];rfl,fun v OJ=>?_,rfl,fun b' o' e' ne=>?_,⟨a7,b7,aj,m1,m2,m3⟩⟩
    .rcases zA6.mp OJ with z|z
     .exact hv v z
     .rw[List.mem_singleton.mp z];lia
    .have e8:=BB b' o' e' ne;rw[az ne,az ne,az (aC e8 EV)];exact e8
   .have e5:j=3:=Zz
    subst e5;have e9:=BB _ _ e3 gT;refine .inl ⟨zA3 _,fun D hD=>⟨D,_,rfl,.inl ⟨SqL.of aj,fun l mf=>?_⟩⟩⟩;have sm:Same H2 (upd (upd H2 D (.lst (is.map V.int))) l (.tup (is.map V.int))):=(Same.upd hD).updR mf;refine⟨p3,xs,.ref l,rfl,rfl,sm _ _ e9,by rw[hl,sizeLine_eq];lia,?_⟩
    have zi:l≠p3:=fun z=>by
     rw[z,Same.upd hD _ _ e9]at mf;cases mf
    have tk:∀c l',(upd (upd H2 D (.lst (is.map V.int))) l (.tup (is.map V.int))) c=some (.tup l')->(upd (upd (upd H2 D (.lst (is.map V.int))) l (.tup (is.map V.int))) p3 (.lst (xs++[.ref l]))) c=some (.tup l'):=fun c l' e'=>by
     have:c≠p3:=fun z=>by
      rw[z,sm _ _ e9]at e';cases e'
     rw[az this];exact e'
    refine⟨xs++[.ref l],ds++[is],_,rfl,fun b' o' e' ne=>?_,?_,aj,?_,?_,?_,by rw[zA2,hl];rfl⟩
    .have k4:=(pe b' o' e' ne).2;rw[az k4];exact sm _ _ (BB _ _ (bt b' o' e' ne) ne)
    .obtain⟨a5,b5,e7,k1,k2,k3⟩:=LQ;exact⟨a5,b5,by rw[az gT.symm];exact sm _ _ e7,k1,k2,k3⟩
    .rw[zA4];refine IsThs.append ?_ (.cons (.tup (by rw[az zi];exact aj) (IsThs.ints is)) .nil)
     have OK:IsThs (fun _=>False) H2 xs (ds.map cT):=ts.keep (fun c l' e'=>BB c _ e' (fun z=>by
      obtain⟨a5,b5,e7,_⟩:=sa;rw[z,e7]at e'
      cases e')) (fun _ _ z _=>z.elim) fun _ _ z _=>z.elim
     exact(OK.same sm).keep tk (fun _ _ z _=>z.elim) fun _ _ z _=>z.elim
    .intro r hr;rcases zA6.mp hr with z|z
     .exact tm r z
     .rw[List.mem_singleton.mp z];exact⟨EU,hv⟩
    .rw[zA2,hs];rfl
  .rintro σ H' ⟨xs,ds,x4,rfl,bt,sa,e3,ts,tm,hs,hl⟩;refine⟨_,rfl,p3,xs,rfl,.inl ⟨SqL.of e3,fun l ml=>q _ _ ⟨ds,fun b' o' e' ne=>?_,?_,.tup aj ?_,Zz,Zz,tm⟩⟩⟩
   .rw[az (aC (bt b' o' e' ne) ml)];exact bt b' o' e' ne
   .obtain⟨a',b',e',j1,j2,j3⟩:=sa;exact⟨a',b',by rw[az (aC e' ml)];exact e',j1,j2,j3⟩
   .exact(ts.same (Same.upd ml)).keep (fun _ _ e=>e) (fun _ _ z _=>z.elim) fun _ _ z _=>z.elim
theorem Bx{u:Option Nat}(h:decide (unV u=.non)=true):u=none:=by
 have:=zB6 h
 cases u with
 |none=>rfl
 |some n=>cases this
theorem yV(F:Fun K "_law_sales" "_law_sales" (top 77) f fd)(T:Mg mg)(Tr:mg "range"=none)(c1:Cal P w K mg base 1 "_law_take" ["_law_state_here","_law_many"] iV)(c2:Cal P w K mg base 2 "_law_any_sale" ["_law_state_here","_law_promises_here"] G7)(c3:Cal P w K mg base 2 "_law_sold" ["_law_promises_here","_law_sales_here"] Bv):
  FnOk P w K mg base CX0 3 f fd ["_law_state_here","_law_promises_here","_law_most"] uE:=by
 refine F.ok sc39s (fun vs H Q E h=>?_) (fun ax A outer s H vs Q E hr h=>?_)
 .obtain⟨st,ap,xp,ps,n,rfl,_⟩:=h;rfl
 .obtain⟨st,ap,xp,ps,n,rfl,fg,rp,lp,okp,n0,n1,q⟩:=h
  refine⟨_,aA (pss 3 sc39s.nd (Du gq))
   (aA (bT zB4 rfl (aZ rfl Tr (au (aV gQ (aK c1 hr (au (pv 0) (au (aV bj (pv 2) aB) ao))) (cH ye rfl T.int boot_int (au (j9 mj (aP bC rfl T.len PySem.boot_len (au (pv 1) ao)) aB (bQ _)) ao))) ao)) (pgn 4 sc39s.nd)
    (aA (pss 5 sc39s.nd (aV xF (pv 3) (bW (au (aK c2 hr (au (pv 0) (au (pv 1) ao))) ao))))
    (aD (cQ (bN zH (pX bL (aK c3 hr (au (pv 1) (au (pv 5) ao))) aB) qy (bQ _)) (aD (pss 3 sc39s.nd (pv 5))) bB))))
   (aD (aQ (pv 3)))),?_⟩
  have g0:Dr st H H:=⟨But.refl,fg⟩
  refine aG (aW ?_);refine⟨zL,fun e0 LS=>?_⟩;have g1:=g0.new (o:=.tup []) LS
  have r1:RowsAt (upd H e0 (.tup [])) e0 [] []:=⟨aj,rfl,fun i r e=>by simp at e⟩
  have uj:=rp.same (Same.upd (o:=.tup []) LS);generalize upd H e0 (.tup [])=H1 at g1 r1 uj⊢;refine aH ?_;dsimp only;refine aG ?_;refine⟨_,rfl,_,rfl,_,_,rfl,rfl,st,n+1,rfl,g1.sa,Zz,Zz,fun r a1 b1 k0 kn k1 k2 k3=>?_⟩;have g2:=g1.take k1 k2 k3;have EW:=(Dr.take ⟨But.refl,g1.sa⟩ k1 k2 k3:Dr st H1 _).rows g1.sa uj;have r2:=(Dr.take ⟨But.refl,g1.sa⟩ k1 k2 k3:Dr st H1 _).rows g1.sa r1;generalize upd H1 st (.lst [.int a1,.int b1])=H2 at g2 EW r2⊢;refine⟨_,rfl,ap,xp,rfl,.inr (SqT.of EW.e),_,_,rfl,rfl,.inr ⟨_,rfl,_,_,rfl,rfl,.inl ⟨Zz,Zz⟩,_,rfl,?_,?_,?_⟩⟩
  .split<;>lia
  .split<;>lia
  refine cu (lo:=0) (fun i σ Hc=>∃a xs ss x4 x5,σ=[some (.ref st),some (.ref ap),some (.int n),some (.ref a),x4,x5]/\Dr st H Hc/\RowsAt Hc ap xp ps/\RowsAt Hc a xs ss/\ss.length<=i/\(∀s∈ss,smR s)/\un ps ss=none) ?_ ?_ ?_
  .exact⟨e0,[],[],none,none,rfl,g2,EW,r2,zA3 _,(fun _ h=>nomatch h),rfl⟩
  .rintro i σ Hc hi ⟨a,xs,ss,x4,x5,rfl,g,EX,BC,ls,c9,sC⟩;have hi:i<12:=by split at hi<;>lia
   refine aH (aG ?_);refine aW ?_;refine⟨_,rfl,_,rfl,_,rfl,st,ap,xp,ps,rfl,g.sa,EX,lp,okp,fun t s' H3 d3 et sm=>⟨zL,fun t1 AK=>?_⟩⟩;have OL:=d3.rows g.sa EX;have EZ:=d3.rows g.sa BC;have m4:=Same.upd (o:=.tup [V.ref t]) AK;refine⟨a,t1,xs,_,rfl,rfl,m4 _ _ EZ.e,aj,by simp,by rw[BC.l,sizeLine_eq];show _+1<=_;lia,fun c H5 s5 ec=>?_⟩;have LU:=qg ((EZ.same m4).same s5) (s5 _ _ (m4 _ _ et)) ec;have E1:=(OL.same m4).same s5;have g5:=((g.trans d3).same m4).same s5
   have LV:∀s∈ss++[s'],smR s:=fun s hs=>by
    rcases zA6.mp hs with z|z
    .exact c9 s z
    .rw[List.mem_singleton.mp z];exact sm
   have l5:(ss++[s']).length<=i+1:=by rw[zA2];show ss.length+1<=_;lia
   refine aH ?_;dsimp only;refine⟨_,rfl,_,rfl,ap,xp,ps,c,_,ss++[s'],rfl,E1,lp,okp,LU,Zz,fun s hs=>(LV s hs).1,fun tt fo H6 s6 OM=>?_⟩;refine⟨tt,_,1,unV (un ps (ss++[s'])),rfl,rfl,SqT.of OM,rfl,rfl,_,rfl,Dn (fun hb=>?_) fun _=>?_⟩
   .exact⟨_,rfl,c,_,ss++[s'],_,_,rfl,g5.same s6,E1.same s6,LU.same s6,l5,LV,Bx hb⟩
   .exact⟨a,xs,ss,_,_,rfl,g5.same s6,E1.same s6,((EZ.same m4).same s5).same s6,Zz,c9,sC⟩
  .rintro σ Hc ⟨a,xs,ss,x4,x5,rfl,g,EX,BC,ls,c9,sC⟩;refine⟨_,rfl,q a xs ss Hc g BC ?_ c9 sC⟩;split at ls<;>lia
theorem yW(F:Fun K "_law_book" "_law_book" (top 78) f fd)(T:Mg mg)(c1:Cal P w K mg base 2 "_law_clips" ["_law_state_here","_law_most"] uD)(c2:Cal P w K mg base 2 "_law_promises" ["_law_state_here","_law_most","_law_years"] uC)(c3:Cal P w K mg base 3 "_law_sales" ["_law_state_here","_law_promises_here","_law_most"] uE):
  FnOk P w K mg base CX0 4 f fd ["_law_state_here","_law_years","_law_most","_law_sales_here"] xG:=by
 refine F.ok sc40s (fun vs H Q E h=>?_) (fun ax A outer s H vs Q E hr h=>?_)
 .obtain⟨st,y,m,k,rfl,_⟩:=h;rfl
 .obtain⟨st,y,m,k,rfl,fg,y1,y2,m1,m2,k1,k2,q⟩:=h
  refine⟨_,aA (pss 4 sc40s.nd (aK c1 hr (au (pv 0) (au (pv 1) ao))))
   (aA (pss 5 sc40s.nd (aK c2 hr (au (pv 0) (au (pv 2) (au (aP bC rfl T.len PySem.boot_len (au (pv 4) ao)) ao)))))
   (aD (aQ (bW (au (pv 4) (au (pv 5) (au (aK c3 hr (au (pv 0) (au (pv 5) (au (pv 3) ao)))) ao))))))),?_⟩
  refine aG (aW ?_);refine⟨_,rfl,_,rfl,st,y,rfl,fg,y1,y2,fun vc H1 mc=>?_⟩;obtain⟨cs,ON,E2,OO,lc1,LW,okc⟩:=mc
  have d1:Dr st H H1:=⟨ON,E2⟩
  obtain⟨ac,xc,rfl,rc⟩:=lK OO;refine aH ?_;dsimp only;refine aG (aW ?_);have lc:=rc.l;refine⟨_,rfl,_,rfl,_,rfl,ac,xc,rfl,.inr (SqT.of rc.e),st,m,_,rfl,E2,m1,m2,Zz,Zz,fun vp H2 mp=>?_⟩;obtain⟨ps,OP,BD,A8,T3,okp⟩:=mp
  have d2:Dr st H1 H2:=⟨OP,BD⟩
  obtain⟨ap,xp,rfl,rp⟩:=lK A8;have OQ:=d2.rows E2 rc;refine aH ?_;dsimp only;refine⟨_,rfl,_,rfl,_,rfl,_,rfl,_,rfl,st,ap,xp,ps,k,rfl,BD,rp,Zz,okp,k1,k2,fun ah xs ss H3 d3 rs ls c9 sC=>⟨zL,fun a ha=>?_⟩⟩;have E3:=(d1.trans d2).trans d3;have ma:=Same.upd (o:=.tup [V.ref ac,V.ref ap,V.ref ah]) ha;exact q a ac xc cs ap xp ps ah xs ss _ (E3.new ha) aj ((d3.rows BD OQ).same ma) lc1 LW okc ((d3.rows BD rp).same ma) Zz okp (rs.same ma) Zz c9 sC
inductive SpRefBI(vs:List V)(H:Hp)(Q:VK):Prop
 |mk:∀S v d,(vs=[v])->(IsTh S H v d)->(sz d<=4000)->(jB d=true)->(∀H',Same H H'->Q .non H')->SpRefBI  vs H Q
def By:Sp:=fun vs H Q _=>SpRefBI  vs H Q
inductive SpRefYI(vs:List V)(H:Hp)(Q:VK):Prop
 |mk:∀ac xc cs y,(vs=[.ref ac,.int y])->(RowsAt H ac xc cs)->(0<=y)->(y<cs.length)->(∀H',Same H H'->Q .non H')->SpRefYI  vs H Q
def BJ:Sp:=fun vs H Q _=>SpRefYI  vs H Q
theorem JD:FnScope ["thing","least","most"] ["thing","least","most"] (aM (top 11)):=fQS
theorem oN(F:Fun K "is_whole_from" "is_whole_from" (top 11) f fd)(c1:Cal P w K mg base 1 "is_whole" ["thing"] (spT dh)):FnOk P w K mg base CX0 2 f fd ["thing","least","most"] (lB oK):=by
 refine F.ok JD (fun vs H Q E h=>?_) (fun ax A outer s H vs Q E hr h=>?_)
 .obtain⟨S,v,d,n,m,rfl,_⟩:=h;rfl
 .obtain⟨S,v,d,n,m,rfl,th,hz,q⟩:=h;refine⟨_,aD (aQ (cA (aK c1 hr (aR (pv 0) ao)) (dM (cR bJ bJ (pv 1) (pv 0) (pv 2))))),?_⟩;refine⟨_,rfl,S,v,d,rfl,th,hz,fun H1 s1=>⟨_,rfl,?_⟩⟩;have fin:=q H1 s1;unfold oK at fin
  cases e:dh d with
  |false=>
   rw[e]at fin;exact bO fin
  |true=>
   rw[e]at fin;obtain⟨i,rfl,rfl⟩:=jR th e;exact bV (bR (du rfl) (du rfl) (du rfl) _ fin)
theorem JF:FnScope ["thing"] ["thing"] (aM (top 34)):=fQS
theorem Ep(F:Fun K "refuse_no_book" "refuse_no_book" (top 34) f fd)(c1:Cal P w K mg base 6 "is_book" ["thing"] (spT jB)):FnOk P w K mg base CX0 7 f fd ["thing"] By:=by
 refine F.ok JF (fun vs H Q E h=>?_) (fun ax A outer s H vs Q E hr h=>?_)
 .obtain⟨S,v,d,rfl,_⟩:=h;rfl
 .obtain⟨S,v,d,rfl,th,hz,hb,q⟩:=h;refine⟨_,aD (cQ (cP (dZ (aK c1 hr (aR (pv 0) ao)))) (aD gM) bB),?_⟩;refine⟨_,rfl,S,v,d,rfl,th,hz,fun H1 s1=>⟨_,rfl,?_⟩⟩;rw[hb];exact bO (q _ s1)
theorem JG:FnScope ["clips","year"] ["clips","year"] (aM (top 51)):=fQS
theorem Er(F:Fun K "refuse_no_year_of" "refuse_no_year_of" (top 51) f fd)(T:Mg mg)(c1:Cal P w K mg base 2 "is_whole_from" ["thing","least","most"] (lB oK)):FnOk P w K mg base CX0 3 f fd ["clips","year"] BJ:=by
 refine F.ok JG (fun vs H Q E h=>?_) (fun ax A outer s H vs Q E hr h=>?_)
 .obtain⟨ac,xc,cs,y,rfl,_⟩:=h;rfl
 .obtain⟨ac,xc,cs,y,rfl,rc,y0,y1,q⟩:=h;refine⟨_,aD (cQ (cP (dZ (aK c1 hr (au (pv 1) (au aB (au (aV eF (aP bC rfl T.len PySem.boot_len (au (pv 0) ao)) aB) ao)))))) (aD gM) bB),?_⟩;refine⟨_,rfl,_,rfl,ac,_,rfl,.inr (SqT.of rc.e),_,_,rfl,rfl,fun _=>False,.int y,.int y,0,_,rfl,.int _,(by show 1<=4000;decide),fun H1 s1=>⟨_,rfl,?_⟩⟩
  have e:oK (.int y) 0 ((xc.length:Int)-1)=true:=by
   show(true&&(decide (0<=y)&&decide (y<=(xc.length:Int)-1)))=true;rw[zAu y0,zAu (by rw[rc.l];lia)];rfl
  rw[e];exact bO (q _ s1)
structure BookAt(H:Hp)(bk ac:Addr)(xc:List V)(cs:List (List Int))(ap:Addr)(xp:List V)(ps:List (List Int))(ah:Addr)(xs:List V)(ss:List (List Int)):Prop where
 e:H bk=some (.tup [.ref ac,.ref ap,.ref ah])
 rc:RowsAt H ac xc cs
 okc:∀r∈cs,r.length=3/\∀x∈r,0<=x
 lc:cs.length<=20
 rp:RowsAt H ap xp ps
 lp:ps.length<=10
 okp:∀r∈ps,okP r
 rs:RowsAt H ah xs ss
 ls:ss.length<=12
 h5:∀s∈ss,s.length=5
 un:un ps ss=none
theorem BookAt.same{H H':Hp}{bk ac:Addr}{xc:List V}{cs:List (List Int)}{ap:Addr}{xp:List V}{ps:List (List Int)}{ah:Addr}{xs:List V}{ss:List (List Int)}(b:BookAt H bk ac xc cs ap xp ps ah xs ss)(s:Same H H'):BookAt H' bk ac xc cs ap xp ps ah xs ss:=
 ⟨s _ _ b.e,b.rc.same s,b.okc,b.lc,b.rp.same s,b.lp,b.okp,b.rs.same s,b.ls,b.h5,b.un⟩
def yX(R:List (List Int)->List (List Int)->List (List Int)->Int->VK->Hp->Prop):Sp:=fun vs H Q _=>∃S bk y d ac xc cs ap xp ps ah xs ss,vs=[.ref bk,.int y]/\IsTh S H (.ref bk) d/\sz d<=4000/\jB d=true/\BookAt H bk ac xc cs ap xp ps ah xs ss/\0<=y/\y<cs.length/\R cs ps ss y Q H
def HR:List (List Int)->List (List Int)->List (List Int)->Int->VK->Hp->Prop:=fun _ _ _ _ Q H=>∀H',Same H H'->Q .non H'
theorem JH:FnScope ["book","year"] ["book","year"] (aM (top 52)):=fQS
theorem BK(F:Fun K "refuse_no_year" "refuse_no_year" (top 52) f fd)(c1:Cal P w K mg base 7 "refuse_no_book" ["thing"] By)(c2:Cal P w K mg base 3 "refuse_no_year_of" ["clips","year"] BJ):FnOk P w K mg base CX0 8 f fd ["book","year"] (yX HR):=by
 refine F.ok JH (fun vs H Q E h=>?_) (fun ax A outer s H vs Q E hr h=>?_)
 .obtain⟨S,bk,y,d,ac,xc,cs,ap,xp,ps,ah,xs,ss,rfl,_⟩:=h;rfl
 .obtain⟨S,bk,y,d,ac,xc,cs,ap,xp,ps,ah,xs,ss,rfl,th,hz,hb,B,y0,y1,q⟩:=h;refine⟨_,aA (cW (aK c1 hr (au (pv 0) ao))) (aD (cW (aK c2 hr (au (pX bL (pv 0) aB) (au (pv 1) ao))))),?_⟩;refine aG ?_;refine⟨_,rfl,S,_,d,rfl,th,hz,hb,fun H1 s1=>?_⟩;dsimp only;have B1:=B.same s1;exact⟨_,rfl,bk,_,0,.ref ac,rfl,rfl,SqT.of B1.e,rfl,_,rfl,ac,xc,cs,y,rfl,B1.rc,y0,y1,fun H2 s2=>q _ (s1.trans s2)⟩
theorem jY:∀(is:List Int),szs (is.map PyData.int)=is.length
 |[]=>rfl
 |i::is=>by
  show 1+szs (is.map PyData.int)=is.length+1;rw[jY is];lia
theorem jF{k:Nat}:∀{rs:List (List Int)},(∀r∈rs,r.length=k)->szs (rs.map cT)=(k+1)*rs.length
 |[],_=>rfl
 |r::rs,h=>by
  show(1+szs (r.map PyData.int))+szs (rs.map cT)=(k+1)*(rs.length+1);rw[jY,h r (.head _),jF fun q hq=>h q (.tail _ hq),Nat.mul_add];lia
theorem qi(rs:List (List Int)):rowsOf (bY rs)=rs:=by
 show(rs.map cT).map (fun x=>(items x).map intOf)=rs;rw[zAr];refine(List.map_congr_left fun r _=>?_).trans (List.map_id rs);show((r.map PyData.int)).map intOf=r;rw[zAr];exact List.map_id r
theorem iG{r:List Int}{n:Nat}(h:r.length=n):bw (cT r) n=true:=by
 show(bA (.tuple (r.map PyData.int)) n n&&(r.map PyData.int).all dh)=true;rw[zAc];refine⟨?_,List.all_eq_true.mpr fun x hx=>?_⟩
 .show(true&&(decide ((n:Int)<=(r.map PyData.int).length)&&decide (((r.map PyData.int).length:Int)<=n)))=true;rw[zA1,h,zAu (Int.le_refl _)];rfl
 .obtain⟨i,_,rfl⟩:=zA5.mp hx;rfl
theorem vN{ds:List PyData}{a b:Int}(h1:a<=ds.length)(h2:(ds.length:Int)<=b):bA (.tuple ds) a b=true:=by
 show(true&&(decide (a<=(ds.length:Int))&&decide ((ds.length:Int)<=b)))=true;rw[zAu h1,zAu h2];rfl
theorem Es{cs ps ss:List (List Int)}(lc1:1<=cs.length)(lc:cs.length<=20)(okc:∀r∈cs,okC r)(lp:ps.length<=10)(okp:∀r∈ps,okP r)(ls:ss.length<=12)(h5:∀s∈ss,s.length=5)(hu:un ps ss=none):jB (.tuple [bY cs,bY ps,bY ss])=true:=by
 have b0:ig (bY cs)=true:=by
  show(bA (.tuple (cs.map cT)) 1 20&&(cs.map cT).all pR)=true;rw[vN (by rw[zA1];lia) (by rw[zA1];lia),Bool.true_and];refine List.all_eq_true.mpr fun x hx=>?_;obtain⟨r,hr,rfl⟩:=zA5.mp hx;obtain⟨h3,hb⟩:=okc r hr;show(bw (cT r) 3&&(r.map PyData.int).all fun x=>decide (0<=intOf x)&&decide (intOf x<=999))=true;rw[show bw (cT r) 3=true from iG h3,Bool.true_and];refine List.all_eq_true.mpr fun x hx=>?_;obtain⟨i,hi,rfl⟩:=zA5.mp hx;have:=hb i hi;show(decide (0<=i)&&decide (i<=999))=true;rw[zAu Zz,zAu Zz];rfl
 have b1:eG (bY ps)=true:=by
  show(bA (.tuple (ps.map cT)) 0 10&&(ps.map cT).all jx)=true;rw[vN Zz (by rw[zA1];lia),Bool.true_and];refine List.all_eq_true.mpr fun x hx=>?_;obtain⟨r,hr,rfl⟩:=zA5.mp hx;obtain⟨h6,h1,h2,h3,h4,OR⟩:=okp r hr;show(bw (cT r) 6&&rF (at_ (cT r) 0) (at_ (cT r) 1) (at_ (cT r) 2) (at_ (cT r) 3) (at_ (cT r) 4) (at_ (cT r) 5))=true;rw[show bw (cT r) 6=true from iG h6,Bool.true_and]
  have ea:∀i,i<6->at_ (cT r) i=fl r i:=fun i hi=>by
   unfold at_ fl;show intOf ((r.map PyData.int).getD i .none)=r.getD i 0;rw[zA7,zA7,zAb,zA0 Zz];rfl
  rw[ea 0 Zx,ea 1 Zx,ea 2 Zx,ea 3 Zx,ea 4 Zx,ea 5 Zx];unfold rF;simp only[Bool.and_eq_true,Zq];exact⟨h1,h2,⟨h3.1,h3.2.1,h3.2.2⟩,h4,OR⟩
 have b2:eO (bY ss)=true:=by
  show(bA (.tuple (ss.map cT)) 0 12&&(ss.map cT).all fun x=>bw x 5)=true;rw[vN Zz (by rw[zA1];lia),Bool.true_and];refine List.all_eq_true.mpr fun x hx=>?_;obtain⟨r,hr,rfl⟩:=zA5.mp hx;exact iG (h5 r hr)
 show(bA (.tuple [bY cs,bY ps,bY ss]) 3 3&&(ig (bY cs)&&(eG (bY ps)&&(eO (bY ss)&&(un (rowsOf (bY ps)) (rowsOf (bY ss))).isNone))))=true;rw[b0,b1,b2,qi,qi,hu];rfl
def G8:List (List Int)->List (List Int)->List (List Int)->Int->VK->Hp->Prop:=fun cs ps ss y Q H=>∀k xk H',Same H H'->H k=none->k≠sysModules->H' k=some (.lst xk)->Els H' xk (dF cs ps ss (y.toNat+1))->Q (.ref k) H'
def uF(R:List (List Int)->List (List Int)->List (List Int)->Int->VK->Hp->Prop):Sp:=fun vs H Q _=>∃bk y ac xc cs ap xp ps ah xs ss,vs=[.ref bk,.int y]/\BookAt H bk ac xc cs ap xp ps ah xs ss/\0<=y/\y<cs.length/\R cs ps ss y Q H
theorem scYF1:FnScope ["book","year","gifts","owed","left"] ["book","year"] (aM (top 54)):=fQS
theorem BL(F:Fun K "owed_behind" "owed_behind" (top 54) f fd)(c2:Cal P w K mg base 10 "years_given" ["book","year"] xu):FnOk P w K mg base CX0 11 f fd ["book","year"] (uF G8):=by
 refine F.ok scYF1 (fun vs H Q E h=>?_) (fun ax A outer s H vs Q E hr h=>?_)
 .obtain⟨bk,y,ac,xc,cs,ap,xp,ps,ah,xs,ss,rfl,_⟩:=h;rfl
 .obtain⟨bk,y,ac,xc,cs,ap,xp,ps,ah,xs,ss,rfl,B,y0,y1,q⟩:=h
  refine⟨_,aA (cG (pX c7 (aK c2 hr (au (pv 0) (au (pv 1) ao))) (pv 1)) (bK rfl (aq (pgn 2 scYF1.nd) (aq (pgn 3 scYF1.nd) (aq (pgn 4 scYF1.nd) aX)))))
   (aD (aQ (pv 3))),?_⟩
  refine aG ?_;refine⟨_,rfl,_,rfl,bk,y,ac,xc,cs,ap,xp,ps,ah,xs,ss,rfl,B.e,B.rc,B.okc,B.lc,y0,y1,B.rp,B.lp,B.okp,B.rs,B.ls,B.h5,B.un,fun l ts H2 s2 nl el lt hy=>?_⟩;have hl:y.toNat<ts.length:=Zz
  obtain⟨g,k,tl,xg,xk,e1,n1,n2,d1,d2,e2,e3,e4,e5,e6,e7⟩:=hy y.toNat ts[y.toNat] (zA0 hl)
  have fy:atI (ts.map V.ref) y=some (.ref ts[y.toNat]):=by
   have:(ts.map V.ref)[y.toNat]?=some (.ref ts[y.toNat]):=by rw[zAb,zA0 hl];rfl
   have:=di this;rw[show((y.toNat:Nat):Int)=y by lia]at this;exact this
  refine⟨_,rfl,l,_,y,.ref ts[y.toNat],rfl,rfl,SqL.of el,fy,ts[y.toNat],_,rfl,SqT.of e1,rfl,_,_,rfl,_,_,rfl,_,_,rfl,rfl,?_⟩;dsimp only;exact⟨_,rfl,q k xk H2 s2 n2 e7.2 e4 e5⟩
def bd(r:List Int):Prop:=r.length=4/\∀x∈r,0<=x/\x<=99
theorem rT{a b c d:Int}(ha:0<=a/\a<=99)(hb:0<=b/\b<=99)(hc:0<=c/\c<=99)(hd:0<=d/\d<=99):bd [a,b,c,d]:=by
 refine⟨rfl,fun x hx=>?_⟩;simp only[List.mem_cons,List.not_mem_nil,or_false]at hx;rcases hx with rfl|rfl|rfl|rfl<;>assumption
theorem BP{r:List Int}(h:bd r):(0<=fl r 0/\fl r 0<=99)/\(0<=fl r 1/\fl r 1<=99)/\(0<=fl r 2/\fl r 2<=99)/\(0<=fl r 3/\fl r 3<=99):=by
 obtain⟨h4,h⟩:=h;rw[dI h4]at h;exact⟨h _ Zy,h _ Zy,h _ Zy,h _ Zy⟩
theorem G9:∀{w:Int} {S:List (List Int)},∀p∈S.zip (cU w S),p.2<=fl p.1 3:=fun{w S}=>by
 induction S generalizing w with
 |nil=>intro p hp;cases hp
 |cons r S ih=>
  intro p hp;unfold cU at hp;rw[List.zip_cons_cons]at hp;rcases zAo.mp hp with z|z
  .rw[z];show(if w<fl r 3 then w else fl r 3)<=fl r 3;split<;>lia
  .exact ih p z
theorem Kz{c:List Int}{ps ss ow:List (List Int)}{y:Int}(y0:0<=y)(y1:y<=99)(hc:∀x∈c,0<=x)(hu:un ps ss=none)(h5:∀s∈ss,s.length=5)(okp:∀r∈ps,okP r)(hl:ps.length<=10)(ho:∀r∈ow,okO ps r)(hb:∀r∈ow,bd r):∀n,(∀r∈(yTo c ps ss ow y n).g,bd r)/\∀r∈(yTo c ps ss ow y n).k,bd r
 |0=>⟨fun r hr=>(by cases hr),fun r hr=>(by cases hr)⟩
 |n+1=>by
  obtain⟨a,b⟩:=Kz (c:=c) (y:=y) y0 y1 hc hu h5 okp hl ho hb n;have nn:=Eh (y:=y) hc hu h5 okp hl ho n
  have hw:0<=c.getD n 0+(yTo c ps ss ow y n).d:=by
   have:=jE hc n;lia
  have lT:=d7 (sort:=n) (year:=y) hu h5 okp;have AL:=cC (ss:=ss) (sort:=n) (year:=y) hl;generalize LX:c.getD n 0+(yTo c ps ss ow y n).d=w at hw
  have LY:∀p∈(aF ps ss n y++aJ ps ow n).zip (shr w (aF ps ss n y) (aJ ps ow n)),bd p.1/\0<=p.2/\p.2<=fl p.1 3:=fun p hp=>by
   obtain⟨m1,m2⟩:=List.of_mem_zip (show(p.1,p.2)∈_ from hp);have s0:=(Bl hw lT AL (fun r hr=>by have:=(gj (sort:=n) ho r hr).2.2.2;lia)).1 p.2 m2;refine⟨?_,s0,?_⟩
   .rcases zA6.mp m1 with z|z
    .obtain⟨a1,a2,a3,a4,a5,a6⟩:=fQ z;obtain⟨b1,b2,b3⟩:=lT _ z;rw[dI b1];exact rT Zz Zz Zz Zz
    .exact hb _ (zAq.mp z).1
   .unfold shr at hp;rw[List.zip_append shares_len.symm]at hp;rcases zA6.mp hp with z|z
    .exact G6 hw lT AL p z
    .exact G9 p z
  refine⟨fun r hr=>?_,fun r hr=>?_⟩
  .rcases zA6.mp (show r∈(yTo c ps ss ow y n).g++fG _ from hr)with z|z
   .exact a r z
   .rw[LX]at z;obtain⟨p,hp,rfl⟩:=zA5.mp z;obtain⟨b1,b2,b3⟩:=LY p (zAq.mp hp).1;obtain⟨g0,g1,g2,g3⟩:=BP b1;exact rT g0 g1 g2 Zz
  .rcases zA6.mp (show r∈(yTo c ps ss ow y n).k++cX _ from hr)with z|z
   .exact b r z
   .rw[LX]at z;obtain⟨p,hp,rfl⟩:=zA5.mp z;obtain⟨b1,b2,b3⟩:=LY p (zAq.mp hp).1;obtain⟨g0,g1,g2,g3⟩:=BP b1;exact rT g0 g1 g2 Zz
theorem JK{cs:List (List Int)}(h:∀r∈cs,r.length=3/\∀x∈r,0<=x)(n:Nat):∀x∈cs.getD n [],0<=x:=fun x hx=>by
 rw[zA7]at hx
 cases e:cs[n]? with
 |none=>rw[e]at hx;cases hx
 |some r=>rw[e]at hx;exact(h r (zB8 e)).2 x hx
theorem qj:∀{w:Int} {rs:List (List Int)},0<=w->(∀r∈rs,0<=fl r 3)->(cU w rs).sum=min w (aN rs)
 |w,[],hw,_=>by
  show(0:Int)=min w 0;lia
 |w,r::rs,hw,h=>by
  have h0:=h r (.head _);have ih:=qj (w:=w-(if w<fl r 3 then w else fl r 3)) (rs:=rs) (by split<;>lia) fun q hq=>h q (.tail _ hq)
  have hn:0<=aN rs:=by
   unfold aN wts;refine(gC fun x hx=>?_).1;obtain⟨q,hq,rfl⟩:=zA5.mp hx;exact h q (.tail _ hq)
  have es:aN (r::rs)=fl r 3+aN rs:=rfl;unfold cU;rw[List.sum_cons,ih,es];split<;>lia
theorem vO{w:Int}{cl:List (List Int)}(hw:0<=w)(hc:∀r∈cl,r.length=4/\1<=fl r 3/\fl r 3<=99)(hz:cl.length<=80):(bx w cl).sum=min w (aN cl):=by
 unfold bx;by_cases h:(wts cl).sum<=w
 .rw[zAx h];show(wts cl).sum=min w (wts cl).sum;lia
 .rw[zAw h]
  have ok:K42P.OkW (wts cl):=by
   refine⟨?_,by unfold wts;rw[zA1];exact hz,fun x hx=>?_⟩
   .cases fq:cl with
    |nil=>
     rw[fq]at h;exact absurd hw h
    |cons r jS=>
     unfold wts;rw[zA1,zAe];lia
   .obtain⟨r,hr,rfl⟩:=zA5.mp hx;exact(hc r hr).2
  rw[K42P.res_sum ok];show w=min w (wts cl).sum;lia
theorem iH(a b:List (List Int)):aN (a++b)=aN a+aN b:=by
 unfold aN wts;rw[zA4,List.sum_append]
theorem jG{rs:List (List Int)}(h:∀r∈rs,0<=fl r 3):0<=aN rs:=by
 unfold aN wts;refine(gC fun x hx=>?_).1;obtain⟨q,hq,rfl⟩:=zA5.mp hx;exact h q hq
theorem Et{w:Int}{cl ow:List (List Int)}(hw:0<=w)(hc:∀r∈cl,r.length=4/\1<=fl r 3/\fl r 3<=99)(hz:cl.length<=80)(ho:∀r∈ow,0<=fl r 3):(shr w cl ow).sum=min w (aN cl+aN ow):=by
 unfold shr;have h1:=vO hw hc hz;have h2:=qj (w:=w-(bx w cl).sum) (rs:=ow) Zz ho
 have h3:=jG (rs:=cl) fun r hr=>by have:=(hc r hr).2.1;lia
 have h4:=jG ho;rw[List.sum_append,h2,h1];lia
theorem uG:∀{rs:List (List Int)} {sh:List Int},sh.length=rs.length->(∀p∈rs.zip sh,p.2<=fl p.1 3)->aN (cX (rs.zip sh))=aN rs-sh.sum
 |[],[],_,_=>rfl
 |[],_::_,h,_=>by simp at h
 |_::_,[],h,_=>by simp at h
 |r::rs,x::sh,h,hn=>by
  have ih:=uG (rs:=rs) (sh:=sh) (by simpa using h) fun y hy=>hn y (by rw[List.zip_cons_cons];exact .tail _ hy);have hx:x<=fl r 3:=hn (r,x) (by rw[List.zip_cons_cons];exact .head _);have es:aN (r::rs)=fl r 3+aN rs:=rfl;rw[List.zip_cons_cons,List.sum_cons,es];unfold cX at ih⊢;by_cases hp:x<fl r 3
  .rw[zBe (p:=fun(p:List Int×Int)=>decide (p.2<fl p.1 3)) (zAu hp),zAk];have e2:∀L,aN ([fl r 0,fl r 1,fl r 2,fl r 3-x]::L)=(fl r 3-x)+aN L:=fun L=>rfl;rw[e2,ih];lia
  .rw[zBd (p:=fun(p:List Int×Int)=>decide (p.2<fl p.1 3)) (by rw[Zq];exact hp),ih];lia
section
variable{c:List Int}{ps ss ow:List (List Int)}{y:Int}
def xD(c:List Int)(ps ss ow:List (List Int))(y:Int)(s:Nat):Int:=aN (aF ps ss s y)+aN (aJ ps ow s)-c.getD s 0
def sD(c:List Int)(ps ss ow:List (List Int))(y:Int):Nat->Int
 |0=>0
 |n+1=>sD c ps ss ow y n+xD c ps ss ow y n
theorem HS{w:Int}(hw:0<=w)(hu:un ps ss=none)(h5:∀s∈ss,s.length=5)(okp:∀r∈ps,okP r)(hl:ps.length<=10)(n:Nat):∀p∈(aF ps ss n y++aJ ps ow n).zip (shr w (aF ps ss n y) (aJ ps ow n)),p.2<=fl p.1 3:=fun p hp=>by
 unfold shr at hp;rw[List.zip_append shares_len.symm]at hp;rcases zA6.mp hp with z|z
 .exact G6 hw (d7 hu h5 okp) (cC hl) p z
 .exact G9 p z
theorem BR(hc:∀x∈c,0<=x)(hu:un ps ss=none)(h5:∀s∈ss,s.length=5)(okp:∀r∈ps,okP r)(hl:ps.length<=10)(ho:∀r∈ow,okO ps r)(n:Nat):
  aN (yTo c ps ss ow y (n+1)).k=aN (yTo c ps ss ow y n).k+max 0 (xD c ps ss ow y n-(yTo c ps ss ow y n).d)/\(yTo c ps ss ow y (n+1)).d=max 0 ((yTo c ps ss ow y n).d-xD c ps ss ow y n):=by
 have nn:=Eh (y:=y) hc hu h5 okp hl ho n
 have hw:0<=c.getD n 0+(yTo c ps ss ow y n).d:=by
  have:=jE hc n;lia
 have lT:=d7 (sort:=n) (year:=y) hu h5 okp;have AL:=cC (ss:=ss) (sort:=n) (year:=y) hl
 have LZ:∀r∈aJ ps ow n,0<=fl r 3:=fun r hr=>by have:=(gj (sort:=n) ho r hr).2.2.2;lia
 have e1:=Et hw lT AL LZ;have e2:=(xm hw lT AL LZ).1;have e3:=uG (rs:=aF ps ss n y++aJ ps ow n) (sh:=shr (c.getD n 0+(yTo c ps ss ow y n).d) (aF ps ss n y) (aJ ps ow n)) (by unfold shr;rw[zA2,zA2,shares_len,fc]) (HS hw hu h5 okp hl n);rw[iH]at e3;constructor
 .show aN ((yTo c ps ss ow y n).k++cX _)=_;rw[iH,e3,e1];unfold xD;lia
 .show c.getD n 0+(yTo c ps ss ow y n).d-aN (fG _)=_;rw[e2,e1];unfold xD;lia
theorem Ga(hc:∀x∈c,0<=x)(hu:un ps ss=none)(h5:∀s∈ss,s.length=5)(okp:∀r∈ps,okP r)(hl:ps.length<=10)(ho:∀r∈ow,okO ps r):∀n,(yTo c ps ss ow y n).d=aN (yTo c ps ss ow y n).k-sD c ps ss ow y n
 |0=>rfl
 |n+1=>by
  have ih:=Ga hc hu h5 okp hl ho n;obtain⟨a,b⟩:=BR (y:=y) hc hu h5 okp hl ho n;rw[a,b];show _=_-(sD c ps ss ow y n+xD c ps ss ow y n);lia
theorem JL(hc:∀x∈c,0<=x)(hu:un ps ss=none)(h5:∀s∈ss,s.length=5)(okp:∀r∈ps,okP r)(hl:ps.length<=10)(ho:∀r∈ow,okO ps r)(n:Nat):aN (yTo c ps ss ow y (n+1)).k=max (aN (yTo c ps ss ow y n).k) (sD c ps ss ow y (n+1)):=by
 have ih:=Ga (y:=y) hc hu h5 okp hl ho n;obtain⟨a,_⟩:=BR (y:=y) hc hu h5 okp hl ho n;rw[a];show _=max _ (sD c ps ss ow y n+xD c ps ss ow y n);lia
theorem xH{s:Nat}:∀n,aN (aJ ps (yTo c ps ss ow y n).k s)=if s<n then aN (yTo c ps ss ow y (s+1)).k-aN (yTo c ps ss ow y s).k else 0
 |0=>rfl
 |n+1=>by
  have ih:=xH (s:=s) n;have ek:∀m,(yTo c ps ss ow y (m+1)).k=(yTo c ps ss ow y m).k++cX ((aF ps ss m y++aJ ps ow m).zip (shr (c.getD m 0+(yTo c ps ss ow y m).d) (aF ps ss m y) (aJ ps ow m))):=fun m=>rfl
  have pj:∀r∈cX ((aF ps ss n y++aJ ps ow n).zip (shr (c.getD n 0+(yTo c ps ss ow y n).d) (aF ps ss n y) (aJ ps ow n))),fl (ps.getD (fl r 1).toNat []) 1=n:=fun r hr=>by
   obtain⟨p,hp,rfl⟩:=zA5.mp hr;obtain⟨m1,_⟩:=List.of_mem_zip (show(p.1,p.2)∈_ from(zAq.mp hp).1);show fl (ps.getD (fl p.1 1).toNat []) 1=n;rcases zA6.mp m1 with z|z
   .exact(fQ z).2.1
   .exact zB6 (zAq.mp z).2
  have e1:aJ ps (yTo c ps ss ow y (n+1)).k s=aJ ps (yTo c ps ss ow y n).k s++aJ ps (cX ((aF ps ss n y++aJ ps ow n).zip (shr (c.getD n 0+(yTo c ps ss ow y n).d) (aF ps ss n y) (aJ ps ow n)))) s:=by
   rw[ek n];exact List.filter_append ..
  rw[e1,iH,ih];by_cases hs:s=n
  .subst hs;rw[zAw (Nat.lt_irrefl _),zAx (Nat.lt_succ_self _),ek s,iH];have e2:aJ ps (cX ((aF ps ss s y++aJ ps ow s).zip (shr (c.getD s 0+(yTo c ps ss ow y s).d) (aF ps ss s y) (aJ ps ow s)))) s=cX ((aF ps ss s y++aJ ps ow s).zip (shr (c.getD s 0+(yTo c ps ss ow y s).d) (aF ps ss s y) (aJ ps ow s))):=List.filter_eq_self.mpr fun r hr=>zAu (pj r hr);rw[e2];lia
  .have e2:aJ ps (cX ((aF ps ss n y++aJ ps ow n).zip (shr (c.getD n 0+(yTo c ps ss ow y n).d) (aF ps ss n y) (aJ ps ow n)))) s=[]:=List.filter_eq_nil_iff.mpr fun r hr z=>by
    have:=pj r hr;have z:=zB6 z;rw[this]at z;lia
   rw[e2];have e0:aN []=0:=rfl;rw[e0,Int.add_zero];by_cases h:s<n
   .rw[zAx h,zAx Zz]
   .rw[zAw h,zAw Zz]
end
theorem BV{a b:List Int}(h:a.Perm b):a.sum=b.sum:=by
 induction h with
 |nil=>rfl
 |cons x _ ih=>rw[List.sum_cons,List.sum_cons,ih]
 |swap x y l=>
  rw[List.sum_cons,List.sum_cons,List.sum_cons,List.sum_cons];lia
 |trans _ _ h1 h2=>exact h1.trans h2
theorem nM{a b:List (List Int)}(h:a.Perm b):aN a=aN b:=by
 unfold aN wts;exact BV (h.map _)
def aO(cs ps ss:List (List Int))(m:Nat):Nat->Int
 |0=>0
 |n+1=>aO cs ps ss m n+aN (aJ ps (dF cs ps ss m) n)
def dlw(cs ps ss:List (List Int))(s m:Nat):Int:=aN (aF ps ss s m)-(cs.getD m []).getD s 0
def dS(cs ps ss:List (List Int))(m:Nat):Nat->Int
 |0=>0
 |n+1=>dS cs ps ss m n+dlw cs ps ss n m
theorem Gb{cs ps ss:List (List Int)}{m:Nat}:∀n,sD (cs.getD m []) ps ss (dF cs ps ss m) m n=aO cs ps ss m n+dS cs ps ss m n
 |0=>rfl
 |n+1=>by
  show sD _ _ _ _ _ n+xD _ _ _ _ _ n=(aO cs ps ss m n+aN _)+(dS cs ps ss m n+dlw cs ps ss n m);rw[Gb n];unfold xD dlw;lia
structure BkO(cs ps ss:List (List Int)):Prop where
 okc:∀r∈cs,r.length=3/\∀x∈r,0<=x
 hl:ps.length<=10
 hu:un ps ss=none
 h5:∀s∈ss,s.length=5
 okp:∀r∈ps,okP r
theorem lO{cs ps ss:List (List Int)}(m:Nat):∀n,n<=3->aO cs ps ss (m+1) n=aN (yTo (cs.getD m []) ps ss (dF cs ps ss m) m n).k
 |0,_=>rfl
 |n+1,h=>by
  show aO cs ps ss (m+1) n+aN (aJ ps (dF cs ps ss (m+1)) n)=_;rw[lO m n Zz];have e:aN (aJ ps (dF cs ps ss (m+1)) n)=aN (aJ ps (yTo (cs.getD m []) ps ss (dF cs ps ss m) m 3).k n):=nM ((Br _).filter _);rw[e,xH 3,zAx Zz];lia
theorem BW{cs ps ss:List (List Int)}(B:BkO cs ps ss)(m n:Nat)(hn:n+1<=3):aO cs ps ss (m+1) (n+1)=max (aO cs ps ss (m+1) n) (aO cs ps ss m (n+1)+dS cs ps ss m (n+1)):=by
 rw[lO m (n+1) hn,lO m n Zz,JL (JK B.okc m) B.hu B.h5 B.okp B.hl (uw B.hl B.hu B.h5 B.okp m).1 n,Gb]
theorem rY{cs ps ss:List (List Int)}:∀m,aO cs ps ss m 3=aN (dF cs ps ss m)
 |0=>rfl
 |m+1=>by
  rw[lO m 3 (zA3 _)];exact(nM (Br _)).symm
def BX:List (List Int)->List (List Int)->List (List Int)->Int->VK->Hp->Prop:=fun cs ps ss y Q H=>∀H',Same H H'->Q (.int (aN (dF cs ps ss (y.toNat+1)))) H'
theorem KC:FnScope ["book","year"] ["book","year"] (aM (top 62)):=fQS
theorem Eu(F:Fun K "lack_by" "lack_by" (top 62) f fd)(c1:Cal P w K mg base 8 "refuse_no_year" ["book","year"] (yX HR))(c2:Cal P w K mg base 11 "owed_behind" ["book","year"] (uF G8))(c3:Cal P w K mg base 1 "sacks_of" ["rows"] lM):FnOk P w K mg base CX0 12 f fd ["book","year"] (yX BX):=by
 refine F.ok KC (fun vs H Q E h=>?_) (fun ax A outer s H vs Q E hr h=>?_)
 .obtain⟨S,bk,y,d,ac,xc,cs,ap,xp,ps,ah,xs,ss,rfl,_⟩:=h;rfl
 .obtain⟨S,bk,y,d,ac,xc,cs,ap,xp,ps,ah,xs,ss,rfl,th,hz,hb,B,y0,y1,q⟩:=h;refine⟨_,aA (cW (aK c1 hr (au (pv 0) (au (pv 1) ao)))) (aD (aQ (aK c3 hr (au (aK c2 hr (au (pv 0) (au (pv 1) ao))) ao)))),?_⟩;refine aG ?_;refine⟨_,rfl,_,rfl,S,bk,y,d,ac,xc,cs,ap,xp,ps,ah,xs,ss,rfl,th,hz,hb,B,y0,y1,fun H1 s1=>?_⟩;dsimp only;have B1:=B.same s1;obtain⟨sj,Ow⟩:=uw (cs:=cs) B.lp B.un B.h5 B.okp (y.toNat+1);exact⟨_,rfl,_,rfl,bk,y,ac,xc,cs,ap,xp,ps,ah,xs,ss,rfl,B1,y0,y1,fun k xk H2 s2 n ns e1 e2=>⟨k,xk,_,rfl,e1,e2,fun r hr=>(sj r hr).1,by have:=B.lc;lia,fun H3 s3=>q H3 ((s1.trans s2).trans s3)⟩⟩
def jH(ns:List Int):List Int:=(List.range (ns.length+1)).map fun i=>(ns.drop i).sum
def lE(ns:List Int)(j:Nat):List Int:=(List.range (j+1)).map fun i=>(ns.drop (ns.length-i)).sum
theorem yZ(ns:List Int):lE ns 0=[0]:=by
 show[(ns.drop (ns.length-0)).sum]=[0];rw[Nat.sub_zero,List.drop_length];rfl
theorem ql(ns:List Int)(j:Nat):lE ns j=(List.range j).map (fun i=>(ns.drop (ns.length-i)).sum)++[(ns.drop (ns.length-j)).sum]:=by
 unfold lE;rw[List.range_succ,zA4];rfl
theorem za{ns:List Int}{j:Nat}{x:Int}(h:ns.reverse[j]?=some x):lE ns (j+1)=lE ns j++[(ns.drop (ns.length-j)).sum+x]:=by
 have hj:j<ns.length:=by
  have:=(zAa.mp h).1;rw[List.length_reverse]at this;exact this
 rw[List.getElem?_reverse hj]at h;rw[ql ns (j+1)];congr 2;have e:ns.length-j=(ns.length-(j+1))+1:=Zz
 have hl:ns.length-(j+1)<ns.length:=Zz
 have hx:ns[ns.length-(j+1)]=x:=by
  rw[show ns.length-1-j=ns.length-(j+1) by lia,zA0 hl]at h;exact zAl h
 rw[List.drop_eq_getElem_cons hl,<-e,hx,List.sum_cons,Int.add_comm]
theorem BZ(ns:List Int):(lE ns ns.length).reverse=jH ns:=by
 unfold lE jH;refine List.ext_getElem Zy fun i h1 h2=>?_;rw[List.getElem_reverse,List.getElem_map,List.getElem_map,List.getElem_range,List.getElem_range];simp only[List.length_reverse,List.length_map,List.length_range]at h1 h2⊢;congr 2;lia
theorem Ca{α:Type}(xs:List α)(x:α):atI (xs++[x]) (-1)=some x:=by
 have e1:ixN (xs++[x]).length (-1)=some xs.length:=by
  unfold ixN;rw[zAw Zx,zA2,List.length_singleton,zAx Zz];congr 1;lia
 unfold atI;rw[e1];exact List.getElem?_concat_length
inductive SpFromI(vs:List V)(H:Hp)(Q:VK):Prop
 |mk:∀l ns,(vs=[.ref l])->(H l=some (.lst (ns.map V.int)))->(ns.length<=100)->(∀k H',Same H H'->H k=none->H' k=some (.lst ((jH ns).map V.int))->Q (.ref k) H')->SpFromI  vs H Q
def vP:Sp:=fun vs H Q _=>SpFromI  vs H Q
structure TbAt(H:Hp)(L:Addr)(as:List Addr)(rs:List (List Int)):Prop where
 e:H L=some (.lst (as.map V.ref))
 l:as.length=rs.length
 g:∀i a,as[i]?=some a->H a=some (.lst ((rs.getD i []).map V.int))
theorem TbAt.same{H H':Hp}{L:Addr}{as:List Addr}{rs:List (List Int)}(h:TbAt H L as rs)(s:Same H H'):TbAt H' L as rs:=⟨s _ _ h.e,h.l,fun i a e=>s _ _ (h.g i a e)⟩
def clT(ps ss:List (List Int))(y s:Nat):List Int:=(List.range (y+1)).map fun(i:Nat)=>aN (aF ps ss (s:Int) (i:Int))
def j6(ps ss:List (List Int))(y n:Nat):List (List Int):=(List.range n).map fun s=>jH (clT ps ss y s)
def wlT(cs:List (List Int))(y s:Nat):List Int:=(List.range (y+1)).map fun(i:Nat)=>fl (cs.getD i []) s
def j7(cs:List (List Int))(y n:Nat):List (List Int):=(List.range n).map fun s=>jH (wlT cs y s)
def Ew:List (List Int)->List (List Int)->List (List Int)->Int->VK->Hp->Prop:=fun cs ps ss y Q H=>∀L as H',Same H H'->TbAt H' L as (j6 ps ss y.toNat 3)->Q (.ref L) H'
def Ex:List (List Int)->List (List Int)->List (List Int)->Int->VK->Hp->Prop:=fun cs ps ss y Q H=>∀L as H',Same H H'->TbAt H' L as (j7 cs y.toNat 3)->Q (.ref L) H'
theorem scO1:FnScope ["numbers","sums","number"] ["numbers"] (aM (top 56)):=fQS
theorem Ey(F:Fun K "from_each_on" "from_each_on" (top 56) f fd)(Tv:mg "reversed"=none):FnOk P w K mg base CX0 1 f fd ["numbers"] vP:=by
 refine F.ok scO1 (fun vs H Q E h=>?_) (fun ax A outer s H vs Q E hr h=>?_)
 .obtain⟨l,ns,rfl,_⟩:=h;rfl
 .obtain⟨l,ns,rfl,el,hl,q⟩:=h
  refine⟨_,aA (pss 1 scO1.nd (cj (au aB ao)))
   (aA (bT zB4 rfl (Hm rfl Tv (au (pv 0) ao)) (pgn 2 scO1.nd)
    (aD (cW (jd zBc zBg zBf dN (pv 1) (au (aV bj (pX c7 (pv 1) (zF uT aB)) (pv 2)) ao)))))
   (aD (aQ (DK (pv 1))))),?_⟩
  refine aG (aW ?_);refine⟨zL,fun l1 fN=>?_⟩;have s1:=Same.upd (o:=.lst [V.int 0]) fN;have e1:upd H l1 (.lst [V.int 0]) l1=some (.lst ((lE ns 0).map V.int)):=by rw[yZ];exact aj
  generalize upd H l1 (.lst [V.int 0])=H1 at s1 e1⊢;refine aH ?_;dsimp only;refine aG ?_;refine⟨_,rfl,l,_,rfl,SqL.of (s1 _ _ el),?_⟩;refine DG (xs:=ns.map V.int) (fun i σ Hc=>∃x2,σ=[some (.ref l),some (.ref l1),x2]/\Same H Hc/\Hc l1=some (.lst ((lE ns i).map V.int))) ?_ ?_ ?_ ?_
  .exact⟨none,rfl,s1,e1⟩
  .rintro i σ Hc hi ⟨x2,rfl,sc,e⟩;exact SqL.of (sc _ _ el)
  .rintro i x σ Hc hx ⟨x2,rfl,sc,e⟩;rw[<-List.map_reverse,zAb]at hx;obtain⟨n,hn,rfl⟩:=Option.map_eq_some_iff.mp hx
   have hi:i<ns.length:=by
    have:=(zAa.mp hn).1;rw[List.length_reverse]at this;exact this
   rw[za hn];refine aH ?_;have tJ:(lE ns i).length=i+1:=by unfold lE;rw[zA1,List.length_range]
   have fy:atI ((lE ns i).map V.int) (-1)=some (.int (ns.drop (ns.length-i)).sum):=by
    rw[ql,zA4];exact Ca _ _
   refine⟨_,rfl,.inl ⟨rfl,_,SqL.of e⟩,_,rfl,_,rfl,l1,_,-1,_,rfl,rfl,SqL.of e,fy,_,rfl,_,_,rfl,rfl,l1,_,_,rfl,rfl,e,?_,?_⟩
   .rw[zA1,tJ,sizeLine_eq];lia
   .refine⟨_,rfl,fun b o e'=>?_,?_⟩
    .rw[az (aC e' fN)];exact sc _ _ e'
    .rw[aj,zA4];rfl
  .rintro σ Hc ⟨x2,rfl,sc,e⟩;dsimp only;rw[zA1]at e;refine⟨_,rfl,l1,_,rfl,SqL.of e,fun k hk=>q k _ (sc.updR hk) (sc.free hk) ?_⟩;rw[aj,<-List.map_reverse,BZ]
theorem KD:(["sort","promises","sales","year"]:List Str).Nodup:=by decide +kernel
theorem KH:(["at","promises","sales","sort"]:List Str).Nodup:=by decide +kernel
theorem scO2:FnScope ["book","year","clips","promises","sales"] ["book","year"] (aM (top 57)):=fQS
theorem vQ(F:Fun K "claimed_since" "claimed_since" (top 57) f fd)(N:Nums mg)(Tr:mg "range"=none)(c1:Cal P w K mg base 1 "from_each_on" ["numbers"] vP)(c2:Cal P w K mg base 1 "sacks_of" ["rows"] lM)(c3:Cal P w K mg base 2 "claims_in" ["promises","sales","sort","year"] nF):FnOk P w K mg base CX0 3 f fd ["book","year"] (uF Ew):=by
 refine F.ok scO2 (fun vs H Q E h=>?_) (fun ax A outer s H vs Q E hr h=>?_)
 .obtain⟨bk,y,ac,xc,cs,ap,xp,ps,ah,xs,ss,rfl,_⟩:=h;rfl
 .obtain⟨bk,y,ac,xc,cs,ap,xp,ps,ah,xs,ss,rfl,B,y0,y1,q⟩:=h;obtain⟨t1,e1⟩:=N.sorts
  refine⟨_,aA (cG (pv 0) (bK rfl (aq (pgn 2 scO2.nd) (aq (bf (i:=3) scO2.nd rfl (Or.inr rfl)) (aq (bf (i:=4) scO2.nd rfl (Or.inr rfl)) aX)))))
   (aD (aQ (tV (x₀:="sort") ["sort","promises","sales","year"] [none,some 3,some 4,some 1] rfl (aZ rfl Tr (au (bM (v:=.int 3) rfl e1 ⟨_,rfl⟩) ao))
    (fun C fp Zt s₂ H₂=>⟨bf (i:=0) KD rfl (Or.inr rfl) (Or.inl rfl),bu,aK c1 hr (au (bG ["at","promises","sales","sort"] [none,some 1,some 2,some 0] rfl (aZ rfl Tr (au (aV bj (pv 3) aB) ao))
     (fun C fp Zt s₂ H₂=>⟨pgn 0 KH,bu,aK c2 hr (au (aK c3 hr (au (pv 1) (au (pv 2) (au (pv 3) (au (pv 0) ao))))) ao)⟩)
     (fun C=>cI (cI (cI trivial))) ⟨rfl,rfl,rfl,rfl⟩) ao)⟩)
    (fun C=>cI (cI (cI trivial))) ⟨rfl,rfl,rfl,rfl,fun _ _=>rfl,fun _=>rfl⟩))),?_⟩
  obtain⟨n,rfl⟩:∃n:Nat,y=n:=⟨y.toNat,Zz⟩
  unfold Ew at q;rw[zAi]at q;have hn:n<20:=by have:=B.lc;lia
  refine aG ?_;refine⟨_,rfl,bk,_,rfl,SqT.of B.e,rfl,_,_,rfl,_,_,rfl,_,_,rfl,rfl,?_⟩;dsimp only;refine gw ?_;refine⟨3,rfl,by decide,by decide,bZ 3 (fun i ys σ Hc=>Same H Hc/\(∃o1,σ=[o1,some (.ref ap),some (.ref ah),some (.int n)])/\∃as:List Addr,ys=as.map V.ref/\as.length=i/\∀j a,as[j]?=some a->Hc a=some (.lst (((j6 ps ss n 3).getD j []).map V.int))) ⟨Same.refl H,⟨_,rfl⟩,[],rfl,rfl,fun j a e=>by simp at e⟩ (by rw[sizeLine_eq];decide) ?_ ?_⟩
  .rintro i ys σ Hc hi hy ⟨s1,⟨o1,rfl⟩,as,rfl,la,ga⟩;refine⟨hi,fun v H' y' R hR=>?_⟩;obtain⟨eH,rfl⟩:=y';subst H';refine aH ?_;have c9:=xq B.un B.h5;have B1:=B.same s1;refine⟨_,rfl,_,_,rfl,rfl,(n:Int)+1,rfl,Zz,Zz,?_⟩;refine bZ (n+1) (fun j ys σ Hd=>Same Hc Hd/\(∃o1,σ=[o1,some (.ref ap),some (.ref ah),some (.int (0+(i:Int)))])/\ys=(((List.range j).map fun(k:Nat)=>aN (aF ps ss (i:Int) (k:Int))):List Int).map V.int) ⟨Same.refl Hc,⟨_,rfl⟩,rfl⟩ Zu ?_ ?_
   .rintro j ys σ Hd hj hy ⟨s2,⟨o1,rfl⟩,rfl⟩;refine⟨by show j<_;lia,fun v H' y' R' E4=>?_⟩;obtain⟨eH,rfl⟩:=y';subst H';refine aH ?_;have B2:=B1.same s2;refine⟨_,rfl,_,rfl,_,rfl,_,rfl,ap,xp,ps,ah,xs,ss,_,_,rfl,B2.rp,B.lp,B.okp,B2.rs,B.ls,c9,fun l xl H3 s3 nl el fm=>?_⟩;have i0:(0:Int)+(i:Int)=(i:Int):=Int.zero_add _;have j0:(0:Int)+(j:Int)=(j:Int):=Int.zero_add _;rw[i0,j0]at fm;have T4:=cC (ss:=ss) (sort:=(i:Int)) (year:=(j:Int)) B.lp;refine⟨l,xl,_,rfl,el,fm,fun r hr=>(d7 B.un B.h5 B.okp r hr).1,Zz,fun H4 s4=>E4 _ _ _ ⟨(s2.trans s3).trans s4,⟨_,rfl⟩,?_⟩⟩;rw[List.range_succ,zA4,zA4];rfl
   .rintro ys σ Hd hy ⟨s2,_,rfl⟩;refine⟨by show _<=n+1;lia,fun D hD=>?_⟩;have s3:=Same.upd (o:=.lst (((List.range (n+1)).map fun(k:Nat)=>aN (aF ps ss (i:Int) (k:Int))).map V.int)) hD;refine⟨D,_,rfl,aj,by rw[zA1,List.length_range];lia,fun k H4 s4 nk ek=>hR _ _ _ ⟨((s1.trans s2).trans s3).trans s4,⟨_,rfl⟩,as++[k],by rw[zA4];rfl,by rw[zA2,la];rfl,fun j a e=>?_⟩⟩;by_cases hj:j<as.length
    .rw[zBa hj]at e;exact s4 _ _ (s3 _ _ (s2 _ _ (ga j a e)))
    .rw[zB9 Zz]at e
     cases hk:j-as.length with
     |zero=>
      rw[hk]at e;injection e with e;subst e;have:j=i:=Zz
      rw[ek,this]
      have:(j6 ps ss n 3).getD i []=jH (clT ps ss n i):=by
       unfold j6;rw[zA7,zAb,List.getElem?_range hi];rfl
      rw[this];rfl
     |succ m=>
      rw[hk]at e;simp at e
  .rintro ys σ Hc hy ⟨s1,_,as,rfl,la,ga⟩;refine⟨by show _<=3;decide,fun D hD=>?_⟩;have s2:=Same.upd (o:=.lst (as.map V.ref)) hD;exact q D as _ (s1.trans s2) ⟨aj,by rw[la];unfold j6;rw[zA1,List.length_range],fun i a e=>s2 _ _ (ga i a e)⟩
def mnL:List Int->Int
 |[]=>0
 |[x]=>x
 |x::y::r=>if x<=mnL (y::r)then x else mnL (y::r)
theorem lQ:∀{ns:List Int},ns≠[]->mnL ns∈ns
 |[],h=>absurd rfl h
 |[x],_=>List.mem_singleton.mpr rfl
 |x::y::r,_=>by
  show(if x<=mnL (y::r)then x else mnL (y::r))∈_;split
  .exact .head _
  .exact .tail _ (lQ (fun z=>nomatch z))
theorem rZ:∀{ns:List Int},∀a∈ns,mnL ns<=a
 |[],a,h=>nomatch h
 |[x],a,h=>by rw[List.mem_singleton.mp h];exact Int.le_refl _
 |x::y::r,a,h=>by
  show(if x<=mnL (y::r)then x else mnL (y::r))<=a;rcases zAo.mp h with z|z
  .rw[z];split<;>lia
  .have:=rZ (ns:=y::r) a z;split<;>lia
theorem HW{ns:List Int}{M:Int}(h:M∈ns)(hl:∀a∈ns,M<=a):M=mnL ns:=by
 have h1:=hl _ (lQ (fun z=>by rw[z]at h;cases h));have h2:=rZ M h;lia
def tb(T:List (List Int))(s:Nat)(i:Int):Int:=(T.getD s []).getD i.toNat 0
def shV(C W:List (List Int))(p:List Int):Int:=((List.range 3).map fun s=>tb C s (fl p s)).sum-((List.range 3).map fun s=>tb W s (mnL (p.drop s))).sum
def su(n:Int)(p:List Int):Prop:=p.length=3/\∀x∈p,0<=x/\x<=n+1
inductive SpShownI(vs:List V)(H:Hp)(Q:VK):Prop
 |mk:∀lc ac C lw aw W t p n,(vs=[.ref lc,.ref lw,.ref t])->(TbAt H lc ac C)->(TbAt H lw aw W)->(C.length=3)->(W.length=3)->((∀r∈C,(r.length:Int)=n+2))->((∀r∈W,(r.length:Int)=n+2))->(H t=some (.tup (p.map V.int)))->(su n p)->(∀H',Same H H'->Q (.int (shV C W p)) H')->SpShownI  vs H Q
def sy:Sp:=fun vs H Q _=>SpShownI  vs H Q
inductive SpIsPI(vs:List V)(H:Hp)(Q:VK):Prop
 |mk:∀y t p,(vs=[.int y,.ref t])->(H t=some (.tup (p.map V.int)))->(su y p)->(∀H',Same H H'->Q (.bl true) H')->SpIsPI  vs H Q
def Gd:Sp:=fun vs H Q _=>SpIsPI  vs H Q
def iw(cs ps ss:List (List Int))(y:Nat)(p:List Int):Int:=shV (j6 ps ss y 3) (j7 cs y 3) p
inductive SpShByI(vs:List V)(H:Hp)(Q:VK):Prop
 |mk:∀S bk y t p d ac xc cs ap xp ps ah xs ss,(vs=[.ref bk,.int y,.ref t])->(IsTh S H (.ref bk) d)->(sz d<=4000)->(jB d=true)->(BookAt H bk ac xc cs ap xp ps ah xs ss)->(0<=y)->(y<cs.length)->(H t=some (.tup (p.map V.int)))->(su y p)->(∀H',Same H H'->Q (.int (iw cs ps ss y.toNat p)) H')->SpShByI  vs H Q
def Cd:Sp:=fun vs H Q _=>SpShByI  vs H Q
theorem Ce{T:List (List Int)}{s:Nat}{m:Int}(h:∀r∈T,(r.length:Int)=m)(hs:s<T.length):((T.getD s []).length:Int)=m:=by
 rw[zA7,zA0 hs];exact h _ (zAh hs)
theorem uH{n:Int}{p:List Int}(h:su n p){s:Nat}(hs:s<3):0<=fl p s/\fl p s<=n+1:=by
 have hl:s<p.length:=by rw[h.1];exact hs
 unfold fl;rw[zA7,zA0 hl];exact h.2 _ (zAh hl)
theorem xJ{n:Int}{p:List Int}(h:su n p){s:Nat}(hs:s<3):0<=mnL (p.drop s)/\mnL (p.drop s)<=n+1:=by
 have hl:p.drop s≠[]:=fun z=>by
  have:=congrArg List.length z;rw[List.length_drop,h.1]at this;simp at this;lia
 exact h.2 _ (List.mem_of_mem_drop (lQ hl))
theorem Ge{T:List (List Int)}{s:Nat}{n i:Int}(h:∀r∈T,(r.length:Int)=n+2)(hs:s<T.length)(h0:0<=i)(h1:i<=n+1):atI ((T.getD s []).map V.int) i=some (.int (tb T s i)):=by
 have hl:=Ce h hs;have:=di (gB (L:=T.getD s []) (i:=i.toNat) Zz);rw[show((i.toNat:Nat):Int)=i by lia]at this;exact this
theorem TbAt.at{H:Hp}{L:Addr}{as:List Addr}{T:List (List Int)}(h:TbAt H L as T){s:Nat}(hs:s<T.length):∃a,atI (as.map V.ref) (s:Int)=some (.ref a)/\H a=some (.lst ((T.getD s []).map V.int)):=by
 have hl:s<as.length:=by rw[h.l];exact hs
 exact⟨as[s],di (by rw[zAb,zA0 hl];rfl),h.g s _ (zA0 hl)⟩
theorem KJ:(["sort","clips","year"]:List Str).Nodup:=by decide +kernel
theorem KN:(["at","clips","sort"]:List Str).Nodup:=by decide +kernel
theorem scP2:FnScope ["book","year","clips","promises","sales"] ["book","year"] (aM (top 58)):=fQS
theorem uI(F:Fun K "wool_since" "wool_since" (top 58) f fd)(N:Nums mg)(Tr:mg "range"=none)(c1:Cal P w K mg base 1 "from_each_on" ["numbers"] vP):FnOk P w K mg base CX0 2 f fd ["book","year"] (uF Ex):=by
 refine F.ok scP2 (fun vs H Q E h=>?_) (fun ax A outer s H vs Q E hr h=>?_)
 .obtain⟨bk,y,ac,xc,cs,ap,xp,ps,ah,xs,ss,rfl,_⟩:=h;rfl
 .obtain⟨bk,y,ac,xc,cs,ap,xp,ps,ah,xs,ss,rfl,B,y0,y1,q⟩:=h;obtain⟨t1,e1⟩:=N.sorts
  refine⟨_,aA (cG (pv 0) (bK rfl (aq (bf (i:=2) scP2.nd rfl (Or.inr rfl)) (aq (pgn 3 scP2.nd) (aq (pgn 4 scP2.nd) aX)))))
   (aD (aQ (tV (x₀:="sort") ["sort","clips","year"] [none,some 2,some 1] rfl (aZ rfl Tr (au (bM (v:=.int 3) rfl e1 ⟨_,rfl⟩) ao))
    (fun C fp Zt s₂ H₂=>⟨bf (i:=0) KJ rfl (Or.inr rfl) (Or.inl rfl),bu,aK c1 hr (au (bG ["at","clips","sort"] [none,some 1,some 0] rfl (aZ rfl Tr (au (aV bj (pv 2) aB) ao))
     (fun C fp Zt s₂ H₂=>⟨pgn 0 KN,bu,pX (K42P.ix_tupK (K:=K) rfl) (pX (K42P.ix_tupK (K:=K) rfl) (pv 1) (pv 0)) (pv 2)⟩)
     (fun C=>cI (cI trivial)) ⟨rfl,rfl,rfl,rfl⟩) ao)⟩)
    (fun C=>cI (cI trivial)) ⟨rfl,rfl,rfl,rfl,fun _ _=>rfl,fun _=>rfl⟩))),?_⟩
  obtain⟨n,rfl⟩:∃n:Nat,y=n:=⟨y.toNat,Zz⟩
  unfold Ex at q;rw[zAi]at q;have hn:n<20:=by have:=B.lc;lia
  refine aG ?_;refine⟨_,rfl,bk,_,rfl,SqT.of B.e,rfl,_,_,rfl,_,_,rfl,_,_,rfl,rfl,?_⟩;dsimp only;refine gw ?_;refine⟨3,rfl,by decide,by decide,bZ 3 (fun i ys σ Hc=>Same H Hc/\(∃o1,σ=[o1,some (.ref ac),some (.int n)])/\∃as:List Addr,ys=as.map V.ref/\as.length=i/\∀j a,as[j]?=some a->Hc a=some (.lst (((j7 cs n 3).getD j []).map V.int))) ⟨Same.refl H,⟨_,rfl⟩,[],rfl,rfl,fun j a e=>by simp at e⟩ (by rw[sizeLine_eq];decide) ?_ ?_⟩
  .rintro i ys σ Hc hi hy ⟨s1,⟨o1,rfl⟩,as,rfl,la,ga⟩;refine⟨hi,fun v H' y' R hR=>?_⟩;obtain⟨eH,rfl⟩:=y';subst H';refine aH ?_;have B1:=B.same s1;refine⟨_,rfl,_,_,rfl,rfl,(n:Int)+1,rfl,Zz,Zz,?_⟩;refine bZ (n+1) (fun j ys σ Hd=>Hd=Hc/\(∃o1,σ=[o1,some (.ref ac),some (.int (0+(i:Int)))])/\ys=(((List.range j).map fun(k:Nat)=>fl (cs.getD k []) i):List Int).map V.int) ⟨rfl,⟨_,rfl⟩,rfl⟩ Zu ?_ ?_
   .rintro j ys σ Hd hj hy ⟨rfl,⟨o1,rfl⟩,rfl⟩;refine⟨by show j<_;lia,fun v H' y' R' E4=>?_⟩;obtain⟨eH,rfl⟩:=y';subst H';refine aH ?_;have E5:j<cs.length:=Zz
    obtain⟨t,ex,et⟩:=B1.rc.g j cs[j] (zA0 E5);have l3:=(B.okc _ (zAh E5)).1;have E6:atI xc (0+(j:Int))=some (.ref t):=by rw[Int.zero_add];exact di ex
    have E7:atI (cs[j].map V.int) (0+(i:Int))=some (.int (fl (cs.getD j []) i)):=by
     rw[Int.zero_add,getD_get E5];exact di (gB Zz)
    refine⟨_,rfl,_,rfl,ac,_,_,_,rfl,rfl,SqT.of B1.rc.e,E6,_,rfl,t,_,_,_,rfl,rfl,SqT.of et,E7,E4 _ _ _ ⟨rfl,⟨_,rfl⟩,?_⟩⟩;rw[List.range_succ,zA4,zA4];rfl
   .rintro ys σ Hd hy ⟨rfl,_,rfl⟩;refine⟨by show _<=n+1;lia,fun D hD=>?_⟩;have s3:=Same.upd (o:=.lst (((List.range (n+1)).map fun(k:Nat)=>fl (cs.getD k []) i).map V.int)) hD;refine⟨D,_,rfl,aj,by rw[zA1,List.length_range];lia,fun k H4 s4 nk ek=>hR _ _ _ ⟨(s1.trans s3).trans s4,⟨_,rfl⟩,as++[k],by rw[zA4];rfl,by rw[zA2,la];rfl,fun j a e=>?_⟩⟩;by_cases hj:j<as.length
    .rw[zBa hj]at e;exact s4 _ _ (s3 _ _ (ga j a e))
    .rw[zB9 Zz]at e
     cases hk:j-as.length with
     |zero=>
      rw[hk]at e;injection e with e;subst e;have:j=i:=Zz
      rw[ek,this]
      have:(j7 cs n 3).getD i []=jH (wlT cs n i):=by
       unfold j7;rw[zA7,zAb,List.getElem?_range hi];rfl
      rw[this];rfl
     |succ m=>
      rw[hk]at e;simp at e
  .rintro ys σ Hc hy ⟨s1,_,as,rfl,la,ga⟩;refine⟨by show _<=3;decide,fun D hD=>?_⟩;have s2:=Same.upd (o:=.lst (as.map V.ref)) hD;exact q D as _ (s1.trans s2) ⟨aj,by rw[la];unfold j7;rw[zA1,List.length_range],fun i a e=>s2 _ _ (ga i a e)⟩
theorem cut_drop{xs:List V}{i:Nat}(h:i<=xs.length):jb xs (some (i:Int)) none=xs.drop i:=by
 unfold jb;rw[HT.sIx_none,HT.sIx_nat,Nat.min_eq_left h,List.take_of_length_le (by rw[List.length_drop];exact zA3 _)]
theorem oO{X:Cx}{K:Frag}(hK:X.K=K)(hc:X.calm=true):dJ X (.builtin "min") (fun xs H Q=>∃(p:Addr) (ns:List Int),xs=[.ref p]/\SqT K H p (ns.map V.int)/\ns≠[]/\∀M,M∈ns->(∀a∈ns,M<=a)->Q (.int M) H):=by
 subst hK;exact rD hc
theorem JM:(["sort","since","claimed"]:List Str).Nodup:=by decide +kernel
theorem KQ:(["sort","wool","paper"]:List Str).Nodup:=by decide +kernel
theorem KR:(["since","year"]:List Str).Nodup:=by decide +kernel
theorem zb:bootBuiltins "min"=some (.builtin "min"):=by decide +kernel
theorem scQ1:FnScope ["claimed","wool","paper","claims"] ["claimed","wool","paper"] (aM (top 59)):=fQS
theorem Cg(F:Fun K "shown" "shown" (top 59) f fd)(N:Nums mg)(Tr:mg "range"=none)(Ts:mg "sum"=none)(Te:mg "enumerate"=none)(Tn:mg "min"=none):FnOk P w K mg base CX0 1 f fd ["claimed","wool","paper"] sy:=by
 refine F.ok scQ1 (fun vs H Q E h=>?_) (fun ax A outer s H vs Q E hr h=>?_)
 .obtain⟨lc,ac,C,lw,aw,W,t,p,n,rfl,_⟩:=h;rfl
 .obtain⟨lc,ac,C,lw,aw,W,t,p,n,rfl,tC,tW,lC,lW,rC,rW,et,okp,q⟩:=h;obtain⟨t1,e1⟩:=N.sorts
  refine⟨_,aA (pss 3 scQ1.nd (aP (cZ rfl) rfl Ts boot_sum (au (bG (g:=lq K 2 (cz (bH 0) (cz (bH 1) lV))) ["sort","since","claimed"] [none,none,some 0] rfl (ZT.pi_enum true rfl Te (au (pv 2) ao))
    (fun C fp Zt s₂ H₂=>⟨dU rfl rfl (aq (pgn 0 JM) (aq (pgn 1 JM) aX)),bu,pX (fB (K:=K) rfl) (pX (fB (K:=K) rfl) (pv 2) (pv 0)) (pv 1)⟩)
    (fun C=>cI trivial) ⟨rfl,rfl,rfl,rfl⟩) ao)))
   (aD (aQ (aV eF (pv 3) (aP (cZ rfl) rfl Ts boot_sum (au (bG ["sort","wool","paper"] [none,some 1,some 2] rfl (aZ rfl Tr (au (bM (v:=.int 3) rfl e1 ⟨_,rfl⟩) ao))
    (fun C fp Zt s₂ H₂=>⟨pgn 0 KQ,bu,pX (fB (K:=K) rfl) (pX (fB (K:=K) rfl) (pv 1) (pv 0)) (aP (oO (K:=K) rfl rfl) rfl Tn zb (au (mz Eo (pv 2) (qH (pv 0)) qG) ao))⟩)
    (fun C=>cI (cI trivial)) ⟨rfl,rfl,rfl,rfl⟩) ao))))),?_⟩
  have l3:=okp.1;refine aG (aW ?_);refine⟨_,rfl,t,_,rfl,SqT.of et,bZ 3 (fun i ys σ Hc=>Same H Hc/\(∃o1 o2,σ=[o1,o2,some (.ref lc)])/\ys=((List.range i).map fun s=>tb C s (fl p s)).map V.int) ⟨Same.refl H,⟨_,_,rfl⟩,rfl⟩ (by rw[sizeLine_eq];decide) ?_ ?_⟩
  .rintro i ys σ Hc hi hy ⟨s1,⟨o1,o2,rfl⟩,rfl⟩;have iO:SqT K Hc t (p.map V.int):=SqT.of (s1 _ _ et);have pb:(p.map V.int)[i]?=some (.int (fl p i)):=gB Zz;refine⟨⟨_,_,iO,pb⟩,fun x H' yv R hR=>?_⟩;obtain⟨T1,Ap,rfl,yv⟩:=yv;obtain⟨x',ko,rfl⟩:=yv _ iO;rw[pb]at ko;cases ko;have s2:=s1.updR (o:=.tup [.int (i:Int),.int (fl p i)]) Ap;obtain⟨f0,f1⟩:=uH okp hi;obtain⟨a,ha,ea⟩:=(tC.same s2).at (s:=i) Zz;refine⟨T1,_,rfl,SqT.of aj,rfl,_,_,rfl,_,_,rfl,rfl,?_⟩;refine⟨_,rfl,_,rfl,lc,_,_,_,rfl,rfl,SqL.of (tC.same s2).e,ha,_,rfl,a,_,_,_,rfl,rfl,SqL.of ea,Ge rC Zz f0 f1,hR _ _ _ ⟨s2,⟨_,_,rfl⟩,?_⟩⟩;rw[List.range_succ,zA4,zA4];rfl
  .rintro ys σ Hc hy ⟨s1,_,rfl⟩;refine⟨⟨_,SqT.of (s1 _ _ et),by rw[zA1];lia⟩,fun D hD=>⟨D,_,rfl,.inl (SqL.of aj),?_⟩⟩;have s2:=s1.updR (o:=.lst (((List.range 3).map fun s=>tb C s (fl p s)).map V.int)) hD;generalize upd Hc D (.lst (((List.range 3).map fun s=>tb C s (fl p s)).map V.int))=H2 at s2⊢;refine aH ?_;dsimp only;refine gw ?_;refine⟨_,rfl,3,rfl,by decide,by decide,bZ 3 (fun i ys σ Hc=>Same H2 Hc/\(∃o1,σ=[o1,some (.ref lw),some (.ref t)])/\ys=((List.range i).map fun s=>tb W s (mnL (p.drop s))).map V.int) ⟨Same.refl H2,⟨_,rfl⟩,rfl⟩ (by rw[sizeLine_eq];decide) ?_ ?_⟩
   .rintro i ys σ Hd hi hy ⟨s3,⟨o1,rfl⟩,rfl⟩;refine⟨hi,fun v H' y' R hR=>?_⟩;obtain⟨eH,rfl⟩:=y';subst H';refine aH ?_;have E8:=s2.trans s3;obtain⟨a,ha,ea⟩:=(tW.same E8).at (s:=i) Zz;rw[show((i:Nat):Int)=0+(i:Int) by lia]at ha;refine⟨_,rfl,_,rfl,lw,_,_,_,rfl,rfl,SqL.of (tW.same E8).e,ha,_,rfl,_,rfl,_,rfl,t,_,rfl,E8 _ _ et,fun c H4 s4 ec=>?_⟩;rw[Int.zero_add,cut_drop (by rw[zA1];lia),<-List.map_drop]at ec
    have fI:p.drop i≠[]:=fun z=>by
     have:=congrArg List.length z;rw[List.length_drop,l3]at this;simp at this;lia
    refine⟨c,_,rfl,SqT.of ec,fI,fun M hM hle=>?_⟩;have eM:=HW hM hle;subst eM;obtain⟨m0,m1⟩:=xJ okp hi;refine⟨a,_,_,_,rfl,rfl,SqL.of (s4 _ _ ea),Ge rW Zz m0 m1,hR _ _ _ ⟨s3.trans s4,⟨_,rfl⟩,?_⟩⟩;rw[List.range_succ,zA4,zA4];rfl
   .rintro ys σ Hd hy ⟨s3,_,rfl⟩;refine⟨by show _<=3;decide,fun D2 OS=>⟨D2,_,rfl,.inl (SqL.of aj),_,_,rfl,rfl,q _ ((s2.trans s3).updR OS)⟩⟩
theorem KY:FnScope ["year","thing"] ["year","thing"] (aM (top 60)):=fQS
theorem HX(F:Fun K "is_paper_for" "is_paper_for" (top 60) f fd)(T:Mg mg)(N:Nums mg)(c1:Cal P w K mg base 2 "are_wholes" ["thing","many"] (Aq bw)):FnOk P w K mg base CX0 3 f fd ["year","thing"] Gd:=by
 refine F.ok KY (fun vs H Q E h=>?_) (fun ax A outer s H vs Q E hr h=>?_)
 .obtain⟨y,t,p,rfl,_⟩:=h;rfl
 .obtain⟨y,t,p,rfl,et,okp,q⟩:=h;obtain⟨t1,e1⟩:=N.sorts
  refine⟨_,aD (aQ (cA (aK c1 hr (au (pv 1) (au (bM (v:=.int 3) rfl e1 ⟨_,rfl⟩) ao)))
   (dM (aP (dW rfl) rfl T.all boot_all (au (bG ["since","year"] [none,some 0] rfl (fU (pv 1))
    (fun C fp Zt s₂ H₂=>⟨pgn 0 KR,bu,cR bJ bJ aB (pv 0) (aV bj (pv 1) aB)⟩) (fun C=>cI trivial) ⟨rfl,rfl,rfl,rfl⟩) ao))))),?_⟩
  have l3:=okp.1;have th:IsTh (fun _=>False) H (.ref t) (cT p):=.tup et (IsThs.ints p)
  have zp:sz (cT p)<=4000:=by
   show 1+szs (p.map PyData.int)<=4000;rw[jY,l3];decide
  refine⟨_,rfl,(fun _=>False),.ref t,cT p,3,rfl,th,zp,fun H1 s1=>⟨_,rfl,?_⟩⟩;rw[show bw (cT p) 3=true from iG l3];refine bV ?_;refine⟨_,rfl,t,rfl,⟨_,SqT.of (s1 _ _ et)⟩,bZ 3 (fun i ys σ Hc=>Hc=H1/\(∃o1,σ=[o1,some (.int y)])/\ys=(List.replicate i true).map V.bl) ⟨rfl,⟨_,rfl⟩,rfl⟩ (by rw[sizeLine_eq];decide) ?_ ?_⟩
  .rintro i ys σ Hc hi hy ⟨rfl,⟨o1,rfl⟩,rfl⟩;have pb:(p.map V.int)[i]?=some (.int (fl p i)):=gB Zz;refine⟨⟨_,_,SqT.of (s1 _ _ et),pb⟩,fun v H' y' R hR=>?_⟩;obtain⟨rfl,y'⟩:=y';have hv:=y' _ (SqT.of (s1 _ _ et));rw[pb]at hv;cases hv;obtain⟨f0,f1⟩:=uH okp hi;refine aH ?_;refine bR (p:=fun i j=>decide (i<=j)) (q:=fun i j=>decide (i<=j)) (i:=0) (j:=fl p i) (k:=y+1) (fun Q q=>q) (du rfl) (fun Q q=>⟨_,rfl,_,_,rfl,rfl,q⟩) _ (hR _ _ _ ⟨rfl,⟨_,rfl⟩,?_⟩);rw[zAu f0,zAu f1,List.replicate_succ',zA4];rfl
  .rintro ys σ Hc hy ⟨rfl,_,rfl⟩;refine⟨⟨_,SqT.of (s1 _ _ et),by rw[zA1];lia⟩,fun D hD=>⟨D,_,rfl,SqL.of aj,q _ (s1.updR hD)⟩⟩
theorem jJ(ns:List Int):(jH ns).length=ns.length+1:=by unfold jH;rw[zA1,List.length_range]
theorem KZ:FnScope ["book","year","paper"] ["book","year","paper"] (aM (top 63)):=fQS
theorem Ez(F:Fun K "shown_by" "shown_by" (top 63) f fd)(c1:Cal P w K mg base 8 "refuse_no_year" ["book","year"] (yX HR))(c2:Cal P w K mg base 3 "is_paper_for" ["year","thing"] Gd)(c3:Cal P w K mg base 3 "claimed_since" ["book","year"] (uF Ew))(c4:Cal P w K mg base 2 "wool_since" ["book","year"] (uF Ex))(c5:Cal P w K mg base 1 "shown" ["claimed","wool","paper"] sy):FnOk P w K mg base CX0 9 f fd ["book","year","paper"] Cd:=by
 refine F.ok KZ (fun vs H Q E h=>?_) (fun ax A outer s H vs Q E hr h=>?_)
 .obtain⟨S,bk,y,t,p,d,ac,xc,cs,ap,xp,ps,ah,xs,ss,rfl,_⟩:=h;rfl
 .obtain⟨S,bk,y,t,p,d,ac,xc,cs,ap,xp,ps,ah,xs,ss,rfl,th,hz,hb,B,y0,y1,et,okp,q⟩:=h
  refine⟨_,aA (cW (aK c1 hr (au (pv 0) (au (pv 1) ao))))
   (aA (cQ (cP (dZ (aK c2 hr (au (pv 1) (au (pv 2) ao))))) (aD gM) bB)
   (aD (aQ (aK c5 hr (au (aK c3 hr (au (pv 0) (au (pv 1) ao))) (au (aK c4 hr (au (pv 0) (au (pv 1) ao))) (au (pv 2) ao))))))),?_⟩
  refine aG ?_;refine⟨_,rfl,_,rfl,S,bk,y,d,ac,xc,cs,ap,xp,ps,ah,xs,ss,rfl,th,hz,hb,B,y0,y1,fun H1 s1=>?_⟩;dsimp only;refine aG ?_;refine⟨_,rfl,_,rfl,y,t,p,rfl,s1 _ _ et,okp,fun H2 s2=>⟨_,rfl,?_⟩⟩;refine bO (cD ?_);dsimp only;have mS:=s1.trans s2;refine⟨_,rfl,_,rfl,bk,y,ac,xc,cs,ap,xp,ps,ah,xs,ss,rfl,B.same mS,y0,y1,fun L1 a1 H3 s3 tC=>⟨_,rfl,_,rfl,bk,y,ac,xc,cs,ap,xp,ps,ah,xs,ss,rfl,(B.same mS).same s3,y0,y1,fun L2 a2 H4 s4 tW=>?_⟩⟩;refine⟨_,rfl,L1,a1,_,L2,a2,_,t,p,y,rfl,tC.same s4,tW,by unfold j6;rw[zA1,List.length_range],by unfold j7;rw[zA1,List.length_range],fun r hr=>?_,fun r hr=>?_,s4 _ _ (s3 _ _ (mS _ _ et)),okp,fun H5 s5=>q _ (((mS.trans s3).trans s4).trans s5)⟩
  .obtain⟨i,_,rfl⟩:=zA5.mp hr;rw[jJ];unfold clT;rw[zA1,List.length_range];lia
  .obtain⟨i,_,rfl⟩:=zA5.mp hr;rw[jJ];unfold wlT;rw[zA1,List.length_range];lia
def seg(f:Nat->Int)(a:Nat):Nat->Int
 |0=>0
 |m+1=>if a<=m then seg f a m+f m else 0
def val(δ:Nat->Nat->Int)(t:Nat->Nat)(m:Nat):Nat->Int
 |0=>0
 |n+1=>val δ t m n+seg (δ n) (t n) m
def Mono(t:Nat->Nat)(n:Nat):Prop:=∀s,s+1<n->t s<=t (s+1)
theorem Mono.le{t:Nat->Nat}{n:Nat}(h:Mono t n):∀{a b},a<=b->b<n->t a<=t b:=fun{a b} E9=>by
 induction E9 with
 |refl=>exact fun _=>zA3 _
 |step _ ih=>exact fun hb=>Nat.le_trans (ih Zz) (h _ hb)
theorem lR{f:Nat->Int}{a m:Nat}(h:m<=a):seg f a m=0:=by
 cases m with
 |zero=>rfl
 |succ m=>
  show(if a<=m then _ else 0)=(0:Int);rw[zAw Zz]
theorem Ci{f:Nat->Int}{a m:Nat}(h:a<=m):seg f a (m+1)=seg f a m+f m:=zAx h
theorem xK{cs ps ss:List (List Int)}(B:BkO cs ps ss)(m:Nat):∀{a b:Nat},a<=b->aO cs ps ss m a<=aO cs ps ss m b:=fun{a b} E9=>by
 induction E9 with
 |refl=>exact Int.le_refl _
 |@step b h ih=>
  refine Int.le_trans ih ?_
  have:0<=aN (aJ ps (dF cs ps ss m) b):=jG (rs:=aJ ps (dF cs ps ss m) b) fun r hr=>by
   have:=(gj (sort:=(b:Int)) (uw B.hl B.hu B.h5 B.okp m).1 r hr).2.2.2;lia
  show aO cs ps ss m b<=aO cs ps ss m b+aN (aJ ps (dF cs ps ss m) b);exact Int.le_add_of_nonneg_right this
theorem JN{cs ps ss:List (List Int)}(B:BkO cs ps ss)(m:Nat):∀i,i<=3->aO cs ps ss m i+dS cs ps ss m i<=aO cs ps ss (m+1) i
 |0,_=>Int.le_refl _
 |i+1,h=>by
  rw[BW B m i h];lia
theorem jZ{δ:Nat->Nat->Int}{t:Nat->Nat}{m:Nat}(ds:Nat->Int)(h0:ds 0=0)(hs:∀n,ds (n+1)=ds n+δ n m):∀i,(∀s,s<i->t s<=m)->val δ t (m+1) i=val δ t m i+ds i
 |0,_=>by rw[h0];rfl
 |i+1,h=>by
  show val δ t (m+1) i+seg (δ i) (t i) (m+1)=(val δ t m i+seg (δ i) (t i) m)+ds (i+1);rw[jZ ds h0 hs i fun s hs=>h s Zz,Ci (h i Zz),hs];lia
theorem xM{δ:Nat->Nat->Int}{t:Nat->Nat}{m i:Nat}:∀n,i<=n->(∀s,i<=s->s<n->m<=t s)->val δ t m n=val δ t m i
 |0,h,_=>by
  have:i=0:=Zz
  rw[this]
 |n+1,h,ht=>by
  by_cases e:i=n+1
  .rw[e]
  .show val δ t m n+seg (δ n) (t n) m=_;rw[xM n Zz fun s h1 h2=>ht s h1 Zz,lR (ht n Zz Zz),Int.add_zero]
theorem Cj(t:Nat->Nat)(m:Nat):∀n,Mono t n->∃i,i<=n/\(∀s,s<i->t s<=m)/\∀s,i<=s->s<n->m+1<=t s
 |0,_=>⟨0,zA3 _,fun s h=>by lia,fun s _ h=>by lia⟩
 |n+1,hm=>by
  by_cases h:t n<=m
  .exact⟨n+1,zA3 _,fun s hs=>Nat.le_trans (hm.le Zz Zz) h,fun s h1 h2=>by lia⟩
  .obtain⟨i,hi,h1,h2⟩:=Cj t m n fun s hs=>hm s Zz;refine⟨i,Zz,h1,fun s hs kq=>?_⟩;by_cases e:s=n
   .rw[e];lia
   .exact h2 s hs Zz
theorem Ck{cs ps ss:List (List Int)}(B:BkO cs ps ss){t:Nat->Nat}:∀m n,n<=3->Mono t n->val (dlw cs ps ss) t m n<=aO cs ps ss m n
 |0,n,hn,_=>by
  have e:∀n,val (dlw cs ps ss) t 0 n=0:=fun n=>by
   induction n with
   |zero=>rfl
   |succ n ih=>
    show val _ t 0 n+0=0;rw[ih];rfl
  rw[e];exact xK B 0 (zAp n)
 |m+1,n,hn,hm=>by
  obtain⟨i,hi,h1,h2⟩:=Cj t m n hm;rw[xM n hi h2,jZ (dS cs ps ss m) rfl (fun _=>rfl) i h1];have a:=Ck B (t:=t) m i Zz fun s hs=>hm s Zz;have b:=JN B m i Zz;have c:=xK B (m+1) hi;lia
theorem xN{δ:Nat->Nat->Int}{t u:Nat->Nat}{m:Nat}:∀n,(∀s,s<n->t s=u s)->val δ t m n=val δ u m n
 |0,_=>rfl
 |n+1,h=>by
  show val δ t m n+seg (δ n) (t n) m=val δ u m n+seg (δ n) (u n) m;rw[xN n fun s hs=>h s Zz,h n Zz]
theorem val_eq{cs ps ss:List (List Int)}(B:BkO cs ps ss):∀m n,n<=3->∃t,Mono t n/\(∀s,s<n->t s<=m)/\val (dlw cs ps ss) t m n=aO cs ps ss m n
 |0,n,hn=>by
  refine⟨fun _=>0,fun _ _=>zA3 _,fun _ _=>zA3 _,?_⟩
  have e:∀n,val (dlw cs ps ss) (fun _=>0) 0 n=0:=fun n=>by
   induction n with
   |zero=>rfl
   |succ n ih=>
    show val _ _ 0 n+0=0;rw[ih];rfl
  have e2:∀n,aO cs ps ss 0 n=0:=fun n=>by
   induction n with
   |zero=>rfl
   |succ n ih=>
    show aO cs ps ss 0 n+aN (aJ ps [] n)=0;rw[ih];rfl
  rw[e,e2]
 |m+1,0,_=>⟨fun _=>0,fun _ _=>zA3 _,fun s hs=>by lia,rfl⟩
 |m+1,n+1,hn=>by
  rw[BW B m n hn];by_cases h:aO cs ps ss (m+1) n<=aO cs ps ss m (n+1)+dS cs ps ss m (n+1)
  .obtain⟨t,t1,t2,t3⟩:=val_eq B m (n+1) hn;refine⟨t,t1,fun s hs=>Nat.le_succ_of_le (t2 s hs),?_⟩;rw[jZ (dS cs ps ss m) rfl (fun _=>rfl) (n+1) t2,t3];lia
  .obtain⟨t,t1,t2,t3⟩:=val_eq B (m+1) n Zz;refine⟨fun s=>if s<n then t s else m+1,fun s hs=>?_,fun s hs=>?_,?_⟩
   .show(if s<n then t s else m+1)<=(if s+1<n then t (s+1)else m+1);by_cases h1:s+1<n
    .rw[zAx h1,zAx Zz];exact t1 s h1
    .rw[zAw h1,zAx Zz];exact t2 s Zz
   .show(if s<n then t s else m+1)<=m+1;split
    .exact t2 s (by assumption)
    .exact zA3 _
   .show val _ _ (m+1) n+seg _ (if n<n then t n else m+1) (m+1)=_;rw[zAw (Nat.lt_irrefl _),lR (zA3 _),xN (u:=t) n fun s hs=>zAx hs,t3];lia
theorem uJ(f:Nat->Int)(a:Nat):∀m,(((List.range m).map f).drop a).sum=seg f a m
 |0=>by
  show(([]:List Int).drop a).sum=0;rw[List.drop_nil];rfl
 |m+1=>by
  rw[List.range_succ,zA4];show(((List.range m).map f++[f m]).drop a).sum=if a<=m then seg f a m+f m else 0;by_cases h:a<=m
  .rw[zAx h,List.drop_append_of_le_length (by rw[zA1,List.length_range];exact h),List.sum_append,uJ f a m];show _+(f m+0)=_;rw[Int.add_zero]
  .rw[zAw h,List.drop_of_length_le (by rw[zA2,zA1,List.length_range];show m+1<=a;lia)];rfl
theorem Cm{ns:List Int}{k:Nat}(h:k<=ns.length):(jH ns).getD k 0=(ns.drop k).sum:=by
 unfold jH;rw[zA7,zAb,List.getElem?_range Zz];rfl
theorem Cp{f:Nat->Nat->Int}{Y s:Nat}{i:Int}(hs:s<3)(h1:i<=Y+1):tb ((List.range 3).map fun s=>jH ((List.range (Y+1)).map (f s))) s i=seg (f s) i.toNat (Y+1):=by
 unfold tb
 have e:((List.range 3).map fun s=>jH ((List.range (Y+1)).map (f s))).getD s []=jH ((List.range (Y+1)).map (f s)):=by
  rw[zA7,zAb,List.getElem?_range hs];rfl
 rw[e,Cm (by rw[zA1,List.length_range];lia),uJ]
def cF(ps ss:List (List Int))(s i:Nat):Int:=aN (aF ps ss (s:Int) (i:Int))
def wF(cs:List (List Int))(s i:Nat):Int:=fl (cs.getD i []) s
theorem qm{ps ss:List (List Int)}{Y s:Nat}{i:Int}(hs:s<3)(h1:i<=Y+1):tb (j6 ps ss Y 3) s i=seg (cF ps ss s) i.toNat (Y+1):=Cp (f:=cF ps ss) hs h1
theorem qp{cs:List (List Int)}{Y s:Nat}{i:Int}(hs:s<3)(h1:i<=Y+1):tb (j7 cs Y 3) s i=seg (wF cs s) i.toNat (Y+1):=Cp (f:=wF cs) hs h1
theorem xO{f g:Nat->Int}{a:Nat}:∀m,seg (fun j=>f j-g j) a m=seg f a m-seg g a m
 |0=>rfl
 |m+1=>by
  have ih:=xO (f:=f) (g:=g) (a:=a) m;show(if a<=m then seg (fun j=>f j-g j) a m+(f m-g m)else 0)=(if a<=m then seg f a m+f m else 0)-(if a<=m then seg g a m+g m else 0);rw[ih];split<;>lia
theorem uK{f:Nat->Int}(hf:∀j,0<=f j){a b:Nat}(h:a<=b):∀m,0<=seg f b m/\seg f b m<=seg f a m
 |0=>⟨Int.le_refl _,Int.le_refl _⟩
 |m+1=>by
  have ih:=uK hf h m;have:=hf m;show 0<=(if b<=m then seg f b m+f m else 0)/\(if b<=m then seg f b m+f m else 0)<=(if a<=m then seg f a m+f m else 0);by_cases h1:b<=m
  .rw[zAx h1,zAx Zz];lia
  .rw[zAw h1];refine⟨Int.le_refl _,?_⟩;split<;>lia
def wS(cs:List (List Int))(Y:Nat)(t:Nat->Nat):Int:=seg (wF cs 0) (t 0) (Y+1)+seg (wF cs 1) (t 1) (Y+1)+seg (wF cs 2) (t 2) (Y+1)
def cS(ps ss:List (List Int))(Y:Nat)(t:Nat->Nat):Int:=seg (cF ps ss 0) (t 0) (Y+1)+seg (cF ps ss 1) (t 1) (Y+1)+seg (cF ps ss 2) (t 2) (Y+1)
theorem Cq{cs ps ss:List (List Int)}{Y:Nat}{t:Nat->Nat}:val (dlw cs ps ss) t (Y+1) 3=cS ps ss Y t-wS cs Y t:=by
 have e:∀s,seg (dlw cs ps ss s) (t s) (Y+1)=seg (cF ps ss s) (t s) (Y+1)-seg (wF cs s) (t s) (Y+1):=fun s=>xO (f:=cF ps ss s) (g:=wF cs s) (Y+1);show 0+seg (dlw cs ps ss 0) (t 0) (Y+1)+seg (dlw cs ps ss 1) (t 1) (Y+1)+seg (dlw cs ps ss 2) (t 2) (Y+1)=_;rw[e,e,e];unfold cS wS;lia
theorem JP{cs ps ss:List (List Int)}(B:BkO cs ps ss)(s j:Nat):0<=cF ps ss s j:=jG fun r hr=>by
 have:=(d7 B.hu B.h5 B.okp r hr).2.1;lia
theorem shown_le{cs ps ss:List (List Int)}{Y:Nat}{p:List Int}(B:BkO cs ps ss)(h:su Y p):iw cs ps ss Y p<=aN (dF cs ps ss (Y+1)):=by
 have hm:∀s,s<3->mnL (p.drop s)<=fl p s:=fun s hs=>by
  refine rZ _ ?_;have hl:s<p.length:=by rw[h.1];exact hs
  rw[List.drop_eq_getElem_cons hl]
  have:fl p s=p[s]:=by
   unfold fl;rw[zA7,zA0 hl];rfl
  rw[this];exact .head _
 have OT:∀s,s+1<3->mnL (p.drop s)<=mnL (p.drop (s+1)):=fun s hs=>by
  refine rZ _ ?_
  have fI:p.drop (s+1)≠[]:=fun z=>by
   have:=congrArg List.length z;rw[List.length_drop,h.1]at this;simp at this;lia
  have:=lQ fI;have hl:s<p.length:=by rw[h.1];lia
  rw[List.drop_eq_getElem_cons hl];exact .tail _ this
 have mo:Mono (fun s=>(mnL (p.drop s)).toNat) 3:=fun s hs=>by
  have:=OT s hs;show(mnL (p.drop s)).toNat<=(mnL (p.drop (s+1))).toNat;lia
 have a:=Ck B (Y+1) 3 (zA3 _) mo;rw[rY,Cq]at a;refine Int.le_trans ?_ a;have i0:=uH h (s:=0) Zx;have i1:=uH h (s:=1) Zx;have i2:=uH h (s:=2) Zx;have m0:=xJ h (s:=0) Zx;have m1:=xJ h (s:=1) Zx;have m2:=xJ h (s:=2) Zx
 have an:∀s,s<3->seg (cF ps ss s) (fl p s).toNat (Y+1)<=seg (cF ps ss s) (mnL (p.drop s)).toNat (Y+1):=fun s hs=>by
  have:=hm s hs;exact(uK (JP B s) Zz (Y+1)).2
 have a0:=an 0 Zx;have a1:=an 1 Zx;have a2:=an 2 Zx;show(tb (j6 ps ss Y 3) 0 (fl p 0)+(tb (j6 ps ss Y 3) 1 (fl p 1)+(tb (j6 ps ss Y 3) 2 (fl p 2)+0)))-(tb (j7 cs Y 3) 0 (mnL (p.drop 0))+(tb (j7 cs Y 3) 1 (mnL (p.drop 1))+(tb (j7 cs Y 3) 2 (mnL (p.drop 2))+0)))<=_;rw[qm Zx i0.2,qm Zx i1.2,qm Zx i2.2,qp Zx m0.2,qp Zx m1.2,qp Zx m2.2];unfold cS wS;dsimp only;lia
def kvR(r:List Int):List Key×V:=((keyOf r).map Sum.inl,.int (fl r 3))
theorem lU:∀{a b:List Int},(a.map (Sum.inl:Int->Key))=b.map Sum.inl->a=b
 |[],[],_=>rfl
 |[],_::_,h=>by simp at h
 |_::_,[],h=>by simp at h
 |x::a,y::b,h=>by
  rw[zAk,zAk]at h;injection h with h1 h2;injection h1 with h1;rw[h1,lU h2]
theorem Cr{M:List (List Int)}(h:(M.map keyOf).Nodup):((M.map kvR).map (·.1)).Nodup:=by
 rw[zAr];have:((fun x:List Key×V=>x.1)∘kvR)=(fun k:List Int=>(k.map Sum.inl:List Key))∘keyOf:=rfl;rw[this,<-zAr];exact List.Pairwise.map _ (fun a b h e=>h (lU e)) h
theorem nO{κ:Type}[DecidableEq κ]{k:κ}{v:V}:∀{kvs:List (κ×V)},(kvs.map (·.1)).Nodup->(k,v)∈kvs->cg kvs k=some v
 |[],_,h=>by cases h
 |p::kvs,nd,h=>by
  rw[zAk,List.nodup_cons]at nd;rcases zAo.mp h with z|z
  .rw[<-z];exact cJ rfl
  .rw[cM fun e=>nd.1 (e▸zA5.mpr ⟨_,z,rfl⟩)];exact nO nd.2 z
def LkAt(H:Hp)(d:Addr)(M:List (List Int)):Prop:=∃Mo:List (List Int),H d=some (.dT (Mo.map kvR))/\Mo.Perm M
theorem LkAt.get{H:Hp}{d b:Addr}{M:List (List Int)}{r:List Int}(h:LkAt H d M)(nd:(M.map keyOf).Nodup)(hr:r∈M)(eb:H b=some (.tup ((keyOf r).map V.int))):DGet H d (.ref b) (some (.int (fl r 3))):=by
 obtain⟨Mo,e,pm⟩:=h;have:=nO (Cr ((pm.map _).nodup_iff.mpr nd)) (zA5.mpr ⟨r,pm.mem_iff.mpr hr,rfl⟩);rw[<-this];exact DGet.t e (by rw[eb,zAr];rfl)
def Cu(r:List Int)(x:Int)(q:List Int):List Int:=if keyOf q=keyOf r then[fl r 0,fl r 1,fl r 2,x]else q
theorem zc{Mo A B:List (List Int)}{r:List Int}{x:Int}(pm:Mo.Perm (A++r::B))(nd:((A++r::B).map keyOf).Nodup):∃uk:List (List Int),putK (Mo.map kvR) ((keyOf r).map Sum.inl) (.int x)=uk.map kvR/\uk.Perm (A++[fl r 0,fl r 1,fl r 2,x]::B):=by
 refine⟨Mo.map (Cu r x),?_,?_⟩
 .unfold putK;rw[zAx (List.any_eq_true.mpr ⟨kvR r,zA5.mpr ⟨r,pm.mem_iff.mpr (zA6.mpr (.inr (.head _))),rfl⟩,zAu rfl⟩),zAr,zAr];refine List.map_congr_left fun q _=>?_;show(if(kvR q).1=_ then((kvR q).1,V.int x)else kvR q)=kvR (Cu r x q);unfold Cu;by_cases e:keyOf q=keyOf r
  .rw[zAx e,zAx (show(kvR q).1=(keyOf r).map Sum.inl by rw[<-e];rfl)];show((keyOf q).map Sum.inl,V.int x)=((keyOf r).map Sum.inl,V.int x);rw[e]
  .rw[zAw e];exact zAw fun z=>e (lU z)
 .refine(pm.map _).trans ?_;rw[zA4,zAk,List.nodup_append,List.nodup_cons]at nd;obtain⟨_,⟨n1,_⟩,n2⟩:=nd
  have keep:∀l:List (List Int),(∀q∈l,keyOf q≠keyOf r)->l.map (Cu r x)=l:=fun l hl=>by
   refine(List.map_congr_left fun q hq=>?_).trans (List.map_id l);exact zAw (hl q hq)
  rw[zA4,zAk,keep A fun q hq e=>n2 _ (zA5.mpr ⟨q,hq,rfl⟩) _ (.head _) e,keep B fun q hq e=>n1 (by rw[<-e];exact zA5.mpr ⟨q,hq,rfl⟩),show Cu r x r=[fl r 0,fl r 1,fl r 2,x]from zAx rfl]
theorem EY{ps:List (List Int)}{r:List Int}(okp:∀r∈ps,okP r)(h0:0<=fl r 1)(h1:fl r 1<ps.length):0<=bz ps r/\bz ps r<3:=by
 obtain⟨p,_,e,op⟩:=f9 okp h0 h1;unfold bz;rw[e];exact op.2.2.1
def phi(ps:List (List Int))(t:Nat->Nat)(M:List (List Int)):Int:=(M.map fun r=>if t (bz ps r).toNat<=(fl r 0).toNat then fl r 3 else 0).sum
section
variable{cs ps ss A B M:List (List Int)}{t:Nat->Nat}
theorem sE:phi ps t (A++B)=phi ps t A+phi ps t B:=by
 unfold phi;rw[zA4,List.sum_append]
theorem jK{r:List Int}:phi ps t (r::B)=(if t (bz ps r).toNat<=(fl r 0).toNat then fl r 3 else 0)+phi ps t B:=by
 unfold phi;rw[zAk,List.sum_cons]
theorem Cv:∀{M:List (List Int)},(∀r∈M,0<=fl r 3)->phi ps t M<=aN M
 |[],_=>Int.le_refl _
 |r::M,h=>by
  rw[jK];have:=Cv fun q hq=>h q (.tail _ hq);have h0:=h r (.head _);show _<=fl r 3+aN M;split<;>lia
theorem xP{s j:Nat}:∀{M:List (List Int)},(∀r∈M,fl r 0=j/\bz ps r=s)->phi ps t M=if t s<=j then aN M else 0
 |[],_=>by
  show(0:Int)=_;split<;>rfl
 |r::M,h=>by
  rw[jK,xP fun q hq=>h q (.tail _ hq),(h r (.head _)).1,(h r (.head _)).2,zAi,zAi];split
  .rfl
  .rfl
theorem HY{s j:Nat}:phi ps t (aF ps ss s j)=if t s<=j then cF ps ss s j else 0:=xP fun r hr=>⟨(fQ hr).1,(fQ hr).2.1⟩
theorem Fb{r:List Int}{s j:Nat}{k:Int}(mo:Mono t 3)(hs:(s:Int)<=bz ps r)(T5:bz ps r<3)(h0:0<=fl r 0)(hd:fl r 0<=j)(k0:0<=k):
  phi ps t (A++r::B)-(if t s<=j then k else 0)<=phi ps t (A++[fl r 0,fl r 1,fl r 2,fl r 3-k]::B):=by
 rw[sE,sE,jK,jK];have e1:bz ps [fl r 0,fl r 1,fl r 2,fl r 3-k]=bz ps r:=rfl;have e2:fl [fl r 0,fl r 1,fl r 2,fl r 3-k] 0=fl r 0:=rfl;have e3:fl [fl r 0,fl r 1,fl r 2,fl r 3-k] 3=fl r 3-k:=rfl;rw[e1,e2,e3];have m:=mo.le (a:=s) (b:=(bz ps r).toNat) Zz Zz;by_cases h1:t (bz ps r).toNat<=(fl r 0).toNat
 .rw[zAx h1,zAx h1,zAx Zz];lia
 .rw[zAw h1,zAw h1];split<;>lia
def cN(ps ss:List (List Int))(t:Nat->Nat)(j:Nat):Nat->Int
 |0=>0
 |n+1=>cN ps ss t j n+(if t n<=j then cF ps ss n j else 0)
def wD(cs:List (List Int))(t:Nat->Nat)(j:Nat)(D:List Nat):Int:=(D.map fun s=>if t s<=j then wF cs s j else 0).sum
theorem nP{f:Nat->Int}{a m:Nat}:seg f a (m+1)=seg f a m+(if a<=m then f m else 0):=by
 by_cases h:a<=m
 .rw[Ci h,zAx h]
 .rw[lR Zz,lR Zz,zAw h];rfl
theorem Cw{j:Nat}:val (dlw cs ps ss) t (j+1) 3=val (dlw cs ps ss) t j 3+cN ps ss t j 3-wD cs t j [0,1,2]:=by
 have e:∀s,(if t s<=j then dlw cs ps ss s j else 0)=(if t s<=j then cF ps ss s j else 0)-(if t s<=j then wF cs s j else 0):=fun s=>by
  split
  .rfl
  .rfl
 show 0+seg (dlw cs ps ss 0) (t 0) (j+1)+seg (dlw cs ps ss 1) (t 1) (j+1)+seg (dlw cs ps ss 2) (t 2) (j+1)=0+seg (dlw cs ps ss 0) (t 0) j+seg (dlw cs ps ss 1) (t 1) j+seg (dlw cs ps ss 2) (t 2) j+(0+(if t 0<=j then cF ps ss 0 j else 0)+(if t 1<=j then cF ps ss 1 j else 0)+(if t 2<=j then cF ps ss 2 j else 0))-((if t 0<=j then wF cs 0 j else 0)+((if t 1<=j then wF cs 1 j else 0)+((if t 2<=j then wF cs 2 j else 0)+0)));rw[nP,nP,nP,e,e,e];lia
theorem Fd{Y:Nat}(B:BkO cs ps ss)(hM:∀r∈M,0<=fl r 3)(h:∀t,Mono t 3->val (dlw cs ps ss) t (Y+1) 3<=phi ps t M):aN (dF cs ps ss (Y+1))<=aN M:=by
 obtain⟨t,t1,t2,t3⟩:=val_eq B (Y+1) 3 (zA3 _);rw[rY]at t3;have:=h t t1;have:=Cv (t:=t) (ps:=ps) hM;lia
end
inductive SpMixedI(vs:List V)(H:Hp)(Q:VK):Prop
 |mk:∀st l,∀ns:List V,(vs=[.ref st,.ref l])->(eZ H st)->(H l=some (.lst ns))->(ns.length<=10000)->(∀m,∀ms:List V,∀H',Dr st H H'->H m=none->H' m=some (.lst ms)->ms.Perm ns->Q (.ref m) H')->SpMixedI  vs H Q
def xQ:Sp:=fun vs H Q _=>SpMixedI  vs H Q
theorem xR:∀(l:List V) (k:Nat) (h:k<l.length),(l[k]::l.eraseIdx k).Perm l
 |x::l,0,h=>List.Perm.refl _
 |x::l,k+1,h=>(List.Perm.swap x _ _).trans ((xR l k (Nat.lt_of_succ_lt_succ h)).cons x)
theorem JQ{A:Around}{k:Nat}(hr:Room k A):A.units+64<cLine:=by
 have:=hr.un;lia
theorem vR:bootBuiltins "list"=some (.type "list"):=by decide +kernel
theorem scM:FnScope ["_law_state_here","_law_some","_law_found","_law_rest"] ["_law_state_here","_law_some"] (aM (top 69)):=fQS
theorem Cy(F:Fun K "_law_mixed" "_law_mixed" (top 69) f fd)(T:Mg mg)(Tl:mg "list"=none)(c1:Cal P w K mg base 1 "_law_take" ["_law_state_here","_law_many"] iV):FnOk P w K mg base CX0 2 f fd ["_law_state_here","_law_some"] xQ:=by
 refine F.ok scM (fun vs H Q E h=>?_) (fun ax A outer s H vs Q E hr h=>?_)
 .obtain⟨st,l,ns,rfl,_⟩:=h;rfl
 .obtain⟨st,l,ns,rfl,fg,hl,hn,q⟩:=h
  refine⟨_,aA (uO (i:=2) (j:=3) rfl scM.nd rfl rfl Zx rfl rfl (au (cj ao) (au (cH jc rfl Tl vR (au (pv 1) ao)) ao)) rfl)
   (aA (zz zB4 (bN (vA (Nat.lt_of_le_of_lt (Nat.le_add_right _ 64) (JQ hr))) (pv 3) (cj ao) (bQ _))
    (aD (cW (jd zBc zBg zBf dN (pv 2) (au (jd zBc PySem.F.slot_list_pop PySem.F.type_list_pop zK (pv 3) (au (aK c1 hr (au (pv 0) (au (aP bC rfl T.len PySem.boot_len (au (pv 3) ao)) ao))) ao)) ao)))))
   (aD (aQ (pv 2)))),?_⟩
  refine aG ?_;refine⟨zL,fun lf AM=>⟨_,rfl,l,_,rfl,.inl (SqL.of (Same.upd AM _ _ hl)),fun lr fR=>⟨_,_,rfl,?_⟩⟩⟩;have s1:=Same.upd (o:=.lst []) AM;have s2:=Same.upd (o:=.lst ns) fR;have g0:=((Dr.mk (st:=st) (H:=H) But.refl fg).same s1).same s2;have K2:H lr=none:=s1.free fR
  have L0:lf≠lr:=fun z=>by rw[<-z,aj]at fR;cases fR
  have nf:lf≠st:=(Dr.mk (st:=st) (H:=H) But.refl fg).ne AM;have nr:lr≠st:=((Dr.mk (st:=st) (H:=H) But.refl fg).same s1).ne fR;have ef:=s2 _ _ (aj (H:=H) (a:=lf) (o:=.lst []));have er:=aj (H:=upd H lf (.lst [])) (a:=lr) (o:=.lst ns);dsimp only;generalize upd (upd H lf (.lst [])) lr (.lst ns)=H2 at g0 ef er⊢;clear s1 s2;refine aG ?_;refine⟨fun m σ Hc=>∃ms rs:List V,σ=[some (.ref st),some (.ref l),some (.ref lf),some (.ref lr)]/\Dr st H Hc/\Hc lf=some (.lst ms)/\Hc lr=some (.lst rs)/\(ms++rs).Perm ns/\m=rs.length,⟨ns.length,[],ns,rfl,g0,ef,er,List.Perm.refl _,rfl⟩,?_⟩;rintro m σ Hc ⟨ms,rs,rfl,g,ef,er,hp,rfl⟩
  have hlen:ms.length+rs.length<=10000:=by
   have:=hp.length_eq;rw[zA2]at this;lia
  refine⟨_,rfl,zL,fun e he=>⟨lr,e,rs,rfl,rfl,SqL.of (Same.upd he _ _ er),SqL.of aj,_,rfl,?_⟩⟩;have g1:=g.new (o:=.lst []) he;have BF:=Same.upd (o:=.lst []) he _ _ ef;have BG:=Same.upd (o:=.lst []) he _ _ er;generalize upd Hc e (.lst [])=H3 at g1 BF BG⊢;by_cases hz:rs=[]
  .subst hz;refine bO ?_;dsimp only;rw[zAn]at hp;exact⟨_,rfl,q lf ms H3 g1 AM BF hp⟩
  .have bo:0<rs.length:=List.length_pos_iff.mpr hz
   have OU:rs.isEmpty=false:=by cases rs with|nil=>exact absurd rfl hz|cons _ _=>rfl
   rw[OU];refine bV ⟨fun ar H'=>∃BH jS:List V,ar=[some (.ref st),some (.ref l),some (.ref lf),some (.ref lr)]/\Dr st H H'/\H' lf=some (.lst BH)/\H' lr=some (.lst jS)/\(BH++jS).Perm ns/\jS.length<rs.length,fun ar H' ⟨BH,jS,a1,a2,a3,a4,a5,a8⟩=>⟨_,a8,BH,jS,a1,a2,a3,a4,a5,rfl⟩,?_⟩;refine⟨_,rfl,.inl ⟨rfl,_,SqL.of BF⟩,_,rfl,.inl ⟨rfl,_,SqL.of BG⟩,_,rfl,_,rfl,lr,_,rfl,.inl (SqL.of BG),?_⟩;refine⟨st,_,rfl,g1.sa,Zz,Zz,fun r a b r0 r1 a0 b0 b1=>?_⟩;have g2:=g1.take a0 b0 b1;have L3:upd H3 st (.lst [.int a,.int b]) lf=some (.lst ms):=by rw[az nf];exact BF
   have L4:upd H3 st (.lst [.int a,.int b]) lr=some (.lst rs):=by rw[az nr];exact BG
   generalize upd H3 st (.lst [.int a,.int b])=H4 at g2 L3 L4⊢;have hk:r.toNat<rs.length:=Zz
   refine⟨lr,rs,r,r.toNat,rs[r.toNat],rfl,rfl,L4,Zz,Zz,?_,zA0 hk,?_⟩
   .have e0:¬r<0:=Zz
    simp only[seqIndex?,if_neg e0,decide_eq_true r0,decide_eq_true r1,Bool.and_self,if_true]
   .have L5:upd H4 lr (.lst (rs.eraseIdx r.toNat)) lf=some (.lst ms):=by rw[az L0];exact L3
    have L6:upd H4 lr (.lst (rs.eraseIdx r.toNat)) lr=some (.lst (rs.eraseIdx r.toNat)):=aj;have g3:=g2.put (o:=.lst (rs.eraseIdx r.toNat)) K2 nr;generalize upd H4 lr (.lst (rs.eraseIdx r.toNat))=H5 at L5 L6 g3⊢;have hle:=List.length_eraseIdx_of_lt hk;refine⟨lf,_,_,rfl,rfl,L5,by rw[sizeLine_eq];lia,ms++[rs[r.toNat]],rs.eraseIdx r.toNat,rfl,g3.put AM nf,aj,?_,?_,Zz⟩
    .rw[az L0.symm];exact L6
    .rw[zAf];exact(List.Perm.append_left ms (xR rs _ hk)).trans hp
theorem nQ:∀{a b:List Int},a.Pairwise (· < ·)->b.Pairwise (· < ·)->(∀x,x∈a↔x∈b)->a=b
 |[],[],_,_,_=>rfl
 |[],y::b,_,_,h=>absurd ((h y).mpr (.head _)) Zy
 |x::a,[],_,_,h=>absurd ((h x).mp (.head _)) Zy
 |x::a,y::b,ha,hb,h=>by
  obtain⟨L7,OV⟩:=List.pairwise_cons.mp ha;obtain⟨ua,kx⟩:=List.pairwise_cons.mp hb
  have e:x=y:=by
   rcases zAo.mp ((h x).mp (.head _))with z|z
   .exact z
   .rcases zAo.mp ((h y).mpr (.head _))with z'|z'
    .exact z'.symm
    .have:=L7 y z';have:=ua x z;lia
  subst e;rw[nQ OV kx fun z=>⟨fun hz=>?_,fun hz=>?_⟩]
  .rcases zAo.mp ((h z).mp (.tail _ hz))with w|w
   .have:=L7 z hz;lia
   .exact w
  .rcases zAo.mp ((h z).mpr (.tail _ hz))with w|w
   .have:=ua z hz;lia
   .exact w
def fH(p:Key×V):Int:=match p.1 with
 |.inl h=>h
 |.inr _=>0
theorem jL:∀{kv:List (Key×V)},KsOk kv->(kv.map fun p=>kV p.1)=(kv.map fH).map V.int/\kv.map (·.1)=(kv.map fH).map Sum.inl
 |[],_=>⟨rfl,rfl⟩
 |p::kv,g=>by
  obtain⟨h,e,_⟩:=g p (.head _);obtain⟨i1,i2⟩:=jL fun q hq=>g q (.tail _ hq);have ei:fH p=h:=by unfold fH;rw[e]
  refine⟨?_,?_⟩
  .rw[zAk,zAk,zAk,i1,ei,e];rfl
  .rw[zAk,zAk,zAk,i2,ei,e]
theorem Cz{kv:List (Key×V)}{h:Int}(hm:h∈kv.map fH)(g:KsOk kv):(cg kv (.inl h)).isSome=true:=by
 rw[<-dX,List.any_eq_true];obtain⟨p,hp,e⟩:=zA5.mp hm;obtain⟨h',e',_⟩:=g p hp;refine⟨p,hp,zAu ?_⟩;rw[e',<-e];unfold fH;rw[e']
theorem Fe{kv:List (Key×V)}{h:Int}(hs:(cg kv (.inl h)).isSome=true):h∈kv.map fH:=by
 rw[<-dX,List.any_eq_true]at hs;obtain⟨p,hp,e⟩:=hs;have e:=zB6 e;refine zA5.mpr ⟨p,hp,?_⟩;unfold fH;rw[e]
theorem CG{kv:List (Key×V)}{L ns:List Int}(hL:L.length=8)(g:KsOk kv)(nd:(kv.map (·.1)).Nodup)(hv:∀h,0<=h->h<8->(cg kv (.inl h)).getD (.int 0)=.int (L.getD h.toNat 0))(pm:ns.Perm (kv.map fH))(so:ns.Pairwise (·<=·)):
  (ns.filter fun h=>decide (0<L.getD h.toNat 0)).map (fun h=>[h,L.getD h.toNat 0])=dB L 8:=by
 have Fc:(kv.map fH).Nodup:=by
  rw[(jL g).2]at nd;exact(List.pairwise_map.mp nd).imp fun{a b} h e=>h (by rw[e])
 have Fh:ns.Nodup:=pm.nodup_iff.mpr Fc
 have lt:ns.Pairwise (· < ·):=(so.and Fh).imp fun{a b} h=>by have h1:a<=b:=h.1;have h2:a≠b:=h.2;lia
 have eq:(ns.filter fun h=>decide (0<L.getD h.toNat 0))=(((List.range 8).filter fun h=>decide (0<L.getD h 0)).map fun(h:Nat)=>(h:Int)):=by
  refine nQ (lt.filter _) ?_ fun x=>?_
  .rw[List.pairwise_map]
   exact(List.pairwise_lt_range.filter _).imp fun{a b} h=>by lia
  .rw[zAq,zA5,pm.mem_iff];constructor
   .rintro⟨h1,h2⟩;obtain⟨p,hp,e⟩:=zA5.mp h1;obtain⟨h,e',h0,h8⟩:=g p hp;have ex:x=h:=by rw[<-e];unfold fH;rw[e']
    refine⟨x.toNat,zAq.mpr ⟨List.mem_range.mpr Zz,h2⟩,Zz⟩
   .rintro⟨k,hk,rfl⟩;obtain⟨h1,h2⟩:=zAq.mp hk;have h1:=List.mem_range.mp h1;have h2:=zB6 h2;refine⟨Fe ?_,zAu (by rw[zAi];exact h2)⟩;have:=hv (k:Int) Zz Zz;rw[zAi]at this
    cases z:cg kv (.inl (k:Int))with
    |some v=>rfl
    |none=>
     rw[z]at this;injection this with this;lia
 rw[eq,zAr];unfold dB;refine List.map_congr_left fun k _=>?_;show[(k:Int),L.getD ((k:Int)).toNat 0]=_;rw[zAi]
theorem CJ:∀{l:List Int} {a:Int} {k:Nat},l.Pairwise (· < ·)->(∀x∈l,a<=x/\x<a+k)->l.length<=k
 |[],_,_,_,_=>zAp _
 |x::l,a,0,h,g=>by
  have:=g x (.head _);lia
 |x::l,a,k+1,h,g=>by
  obtain⟨h1,h2⟩:=List.pairwise_cons.mp h;have gx:=g x (.head _)
  have:=CJ (a:=a+1) (k:=k) h2 fun y hy=>by
   have:=g y (.tail _ hy);have:=h1 y hy;lia
  rw[zAe];lia
theorem xT{kv:List (Key×V)}{ns:List Int}(g:KsOk kv)(nd:(kv.map (·.1)).Nodup)(pm:ns.Perm (kv.map fH))(so:ns.Pairwise (·<=·)):ns.length<=8:=by
 have Fc:(kv.map fH).Nodup:=by
  rw[(jL g).2]at nd;exact(List.pairwise_map.mp nd).imp fun{a b} h e=>h (by rw[e])
 have Fh:ns.Nodup:=pm.nodup_iff.mpr Fc
 have lt:ns.Pairwise (· < ·):=(so.and Fh).imp fun{a b} h=>by have h1:a<=b:=h.1;have h2:a≠b:=h.2;lia
 refine CJ (a:=0) (k:=8) lt fun x hx=>?_;obtain⟨p,hp,e⟩:=zA5.mp (pm.mem_iff.mp hx);obtain⟨h,e',h0,h8⟩:=g p hp;have ex:x=h:=by rw[<-e];unfold fH;rw[e']
 lia
theorem CK{kv:List (Key×V)}(g:KsOk kv)(nd:(kv.map (·.1)).Nodup):(kv.map fH).length<=8:=by
 have pm:=List.mergeSort_perm (kv.map fH) (fun a b=>decide (a<=b))
 have so:((kv.map fH).mergeSort fun a b=>decide (a<=b)).Pairwise (·<=·):=(List.pairwise_mergeSort (le:=fun a b=>decide (a<=b)) (fun a b c h1 h2=>by simp only[Zq]at *;lia) (fun a b=>by simp only[Bool.or_eq_true,Zq];lia) _).imp fun{a b} h=>by simpa using h
 rw[<-pm.length_eq];exact xT g nd pm so
def nR(L ns:List Int):List (List Int):=(ns.filter fun h=>decide (0<L.getD h.toNat 0)).map fun h=>[h,L.getD h.toNat 0]
theorem kZ(L ns:List Int)(x:Int):nR L (ns++[x])=nR L ns++(if 0<L.getD x.toNat 0 then[[x,L.getD x.toNat 0]]else[]):=by
 unfold nR;rw[List.filter_append,zA4];congr 1;by_cases h:0<L.getD x.toNat 0
 .rw[zAx h,zBe (p:=fun(h:Int)=>decide (0<L.getD h.toNat 0)) (zAu h)];rfl
 .rw[zAw h,zBd (p:=fun(h:Int)=>decide (0<L.getD h.toNat 0)) (by rw[Zq];exact h)];rfl
def Gf(ps ss:List (List Int))(n y h:Int):Int:=(bF (ps.getD n.toNat []) ss n y).getD h.toNat 0
inductive SpLClaimsI(vs:List V)(H:Hp)(Q:VK):Prop
 |mk:∀ap xp ps fo H0 b kvs ss sort year,(vs=[.ref ap,.ref fo,.int sort,.int year])->(RowsAt H ap xp ps)->(ps.length<=10)->((∀r∈ps,okP r))->(Dts fo H0 H (dom ps) (Gf ps ss) b kvs)->(∀l xl H',Same H H'->H l=none->H' l=some (.lst xl)->Els H' xl ((aF ps ss sort year).map List.tail)->Q (.ref l) H')->SpLClaimsI  vs H Q
def qt:Sp:=fun vs H Q _=>SpLClaimsI  vs H Q
theorem zf(ps ss:List (List Int))(sort year:Int)(i:Nat):((gD ps ss sort year i).map List.tail).length<=8*i:=by
 rw[zA1];exact jD ps ss sort year i
theorem vU:bootBuiltins "list"=some (.type "list"):=by decide +kernel
theorem La:(["_law_holder","_law_number","_law_row"]:List Str).Nodup:=by decide +kernel
theorem scLD:FnScope ["_law_promises_here","_law_rows","_law_sort","_law_year","_law_found","_law_number","_law_promise","_law_row"] ["_law_promises_here","_law_rows","_law_sort","_law_year"] (aM (top 79)):=fQS
theorem vV(F:Fun K "_law_claims" "_law_claims" (top 79) f fd)(Te:mg "enumerate"=none)(Tl:mg "list"=none)(Ts:mg "sorted"=none):FnOk P w K mg base CX0 1 f fd ["_law_promises_here","_law_rows","_law_sort","_law_year"] qt:=by
 refine F.ok scLD (fun vs H Q E h=>?_) (fun ax A outer s H vs Q E hr h=>?_)
 .obtain⟨ap,xp,ps,fo,H0,b,kvs,ss,sort,year,rfl,_⟩:=h;rfl
 .obtain⟨ap,xp,ps,fo,H0,b,kvs,ss,sort,year,rfl,rp,lp,okp,dt,q⟩:=h
  refine⟨_,aA (pss 4 scLD.nd (cj ao))
   (aA (bT zB4 rfl (ZT.pi_enum true rfl Te (au (pv 0) ao)) (bK rfl (aq (bf (i:=5) scLD.nd rfl (Or.inr rfl)) (aq (pgn 6 scLD.nd) aX)))
    (aA (gO (i:=7) scLD.nd rfl (Or.inr rfl) (mO (eQ hr) (pv 1) (bW (au (pv 5) (au (pv 3) ao))) zW (by constructor<;>rfl)))
    (aD (cQ (bN oX (pX bL (pv 6) aB) (pv 2) (bQ _))
     (aD (cW (jd zBc PySem.F.slot_list_extend PySem.F.type_list_extend yl (pv 4) (au (bG ["_law_holder","_law_number","_law_row"] [none,some 5,some 7] rfl (dG (aP rE rfl Ts boot_sorted (au (cH (ni rfl) rfl Tl vU (au (pv 7) ao)) ao)))
      (fun C fp Zt s₂ H₂=>⟨pgn 0 La,gn (bN mj (fM (eQ hr) (pv 2) (pv 0) (fun _ _=>rfl)) aB (bQ _)),bW (au (pv 1) (au (pv 0) (au (fM (eQ hr) (pv 2) (pv 0) (fun _ _=>rfl)) ao)))⟩)
      (fun C=>cI (cI trivial)) ⟨rfl,rfl,rfl,rfl⟩) ao)))) bB))))
   (aD (aQ (pv 4)))),?_⟩
  refine gr fun c_ fz=>?_;refine aW ?_;refine⟨zL,fun l hl=>?_⟩;refine aH ?_;refine fz _ _ ?_;clear fz c_
  try dsimp only
  refine aG ?_;have s0:=Same.upd (o:=.lst []) hl;refine⟨_,rfl,ap,xp,rfl,SqT.of (s0 _ _ rp.e),?_⟩;refine ZT.for_enum true (xs:=xp) (fun i σ Hc=>∃x5 x6 x7 xl,σ=[some (.ref ap),some (.ref fo),some (.int sort),some (.int year),some (.ref l),x5,x6,x7]/\(∀b o,H b=some o->Hc b=some o)/\Hc l=some (.lst xl)/\Els Hc xl ((gD ps ss sort year i).map List.tail)) ?_ ?_ ?_ ?_
  .exact⟨none,none,none,[],rfl,fun b o e=>s0 _ _ e,aj,Els.nil⟩
  .rintro i σ Hc hi ⟨x5,x6,x7,xl,rfl,k,el,ht⟩;exact SqT.of (k _ _ rp.e)
  .rintro i x σ Hc T0 hx ⟨x5,x6,x7,xl,rfl,k,el,ht⟩ nT
   have hi:i<ps.length:=by
    have:=(zAa.mp hx).1;rw[rp.l]at this;exact this
   obtain⟨tr,gL,fh⟩:=rp.g i ps[i] (zA0 hi)
   have:x=.ref tr:=by
    rw[hx]at gL;exact zAl gL
   subst this;have op:=okp ps[i] (zAh hi);have ep:ps.getD i []=ps[i]:=getD_get hi;rw[dH op.1]at fh;have sT:=Same.upd (o:=.tup [V.int i,V.ref tr]) nT;have kT:Same H (upd Hc T0 (.tup [V.int i,V.ref tr])):=fun b o e=>sT _ _ (k _ _ e);have tS:=sT _ _ el;have tT:=ht.same sT;have eT:=aj (H:=Hc) (a:=T0) (o:=.tup [V.int i,V.ref tr]);generalize upd Hc T0 (.tup [V.int i,V.ref tr])=H1 at kT tS tT eT⊢;refine⟨T0,_,rfl,SqT.of eT,rfl,_,_,rfl,_,_,rfl,rfl,?_⟩;dsimp only;have AN:=dt.same kT;refine gr fun c_ fz=>?_;refine aW ?_;refine⟨_,rfl,fo,rfl,.inr ⟨kvs,.inl AN.e⟩,_,rfl,_,rfl,zL,fun kk hk=>?_⟩;have s8:=Same.upd (o:=.tup [.int i,.int year]) hk;refine fun z L8 nz=>?_;have s9:=s8.updR (o:=.dK []) L8;have L9:=Same.upd (o:=.dK []) L8 _ _ (aj (H:=H1) (a:=kk) (o:=.tup [.int i,.int year]));refine⟨_,DGet.t (k:=ky i year) (s9 _ _ AN.e) L9,?_⟩
   have row:∃dr kv,(cg kvs (ky i year)).getD (.ref z)=.ref dr/\upd (upd H1 kk (.tup [.int i,.int year])) z (.dK []) dr=some (.dK kv)/\KsOk kv/\∀h,0<=h->h<8->(cg kv (.inl h)).getD (.int 0)=.int ((bF ps[i] ss i year).getD h.toNat 0):=by
    by_cases hd:dom ps i year
    .obtain⟨dr,kv,q1,q2,q3,q4⟩:=AN.g i year hd;refine⟨dr,kv,by rw[q1];rfl,s9 _ _ q2,q3.2,fun h h0 h8=>?_⟩;have:=q4 h h0 h8;unfold Gf at this;rw[zAi,ep]at this;exact this
    .refine⟨z,[],by rw[AN.no i year hd];rfl,aj,fun p hp=>absurd hp Zy,fun h h0 h8=>?_⟩;have:¬(fl ps[i] 2<=year/\year<=fl ps[i] 3):=fun w=>hd ⟨Zz,Zz,by rw[zAi,ep];exact w.1,by rw[zAi,ep];exact w.2⟩;unfold bF;rw[if_neg this,zA7,List.getElem?_replicate,if_pos Zz];rfl
   obtain⟨dr,kv,er,BI,ks,hv⟩:=row;have Ma:(cg kvs (ky i year)).getD (.ref z)=.ref dr:=er;rw[Ma];refine aH ?_;refine fz _ _ ?_;clear fz c_
   try dsimp only
   refine vK (fun H9=>Same H1 H9/\H9 dr=some (.dK kv)) ⟨s9,BI⟩ fun H9 ⟨s9,BI⟩=>?_;clear AN L9 er Ma s8;have k9:=kT.trans s9;have Fm:=s9 _ _ tS;have Mb:=tT.same s9;have Bi:=dR ps[i] ss i year
   have kB:(gH ps ss sort year i).map List.tail=if fl ps[i] 1=sort then(dB (bF ps[i] ss i year) 8).map (fun r=>(i:Int)::r)else[]:=by
    unfold gH;rw[ep];split
    .rw[zAr];rfl
    .rfl
   have Mc:(gD ps ss sort year (i+1)).map List.tail=(gD ps ss sort year i).map List.tail++(gH ps ss sort year i).map List.tail:=by
    show(gD ps ss sort year i++gH ps ss sort year i).map List.tail=_;rw[zA4]
   rw[Mc,kB];clear Mc kB;generalize bF ps[i] ss i year=L at hv Bi⊢;refine⟨_,rfl,tr,_,1,.int (fl ps[i] 1),rfl,rfl,SqT.of (k9 _ _ fh),rfl,_,rfl,rfl,_,rfl,?_⟩;by_cases hs:fl ps[i] 1=sort
   .rw[zAu (by rw[hs])];refine bV ?_;rw[zAx hs];refine⟨_,rfl,.inl ⟨rfl,_,SqL.of Fm⟩,?_⟩;refine⟨_,rfl,dr,kv,rfl,BI,fun nd l2 iS=>?_⟩;rw[(jL ks).1];refine⟨l2,kv.map fH,rfl,SqL.of aj,(by have:=CK ks nd;lia),fun q' ns Fn pm so=>?_⟩;have AO:=(Same.upd (o:=.lst ((kv.map fH).map V.int)) iS).updR (o:=.lst (ns.map V.int)) Fn;have AQ:=AO _ _ BI;have nE:=aj (H:=upd H9 l2 (.lst ((kv.map fH).map V.int))) (a:=q') (o:=.lst (ns.map V.int));generalize upd (upd H9 l2 (.lst ((kv.map fH).map V.int))) q' (.lst (ns.map V.int))=HA at AO AQ nE⊢;have ln:=xT ks nd pm so;have fin:nR L ns=dB L 8:=CG Bi ks nd hv pm so;rw[<-fin]
    have vh:∀h∈ns,cg kv (.inl h)=some (.int (L.getD h.toNat 0)):=fun h hh=>by
     obtain⟨p,hp,e⟩:=zA5.mp (pm.mem_iff.mp hh);obtain⟨h',e',h0,h8⟩:=ks p hp;have ex:h=h':=by rw[<-e];unfold fH;rw[e']
     have vs:=Cz (pm.mem_iff.mp hh) ks;have:=hv h Zz Zz
     cases z:cg kv (.inl h)with
     |none=>rw[z]at vs;cases vs
     |some v=>
      rw[z]at this;exact congrArg some this
    have kA:=k9.trans AO;have Md:=AO _ _ Fm;have OW:=Mb.same AO;refine⟨q',rfl,⟨_,SqL.of nE⟩,fD ns.length (fun j ys σ Hc=>Same HA Hc/\(∃o1,σ=[o1,some (.int i),some (.ref dr)])/\Els Hc ys ((nR L (ns.take j)).map (fun r=>(i:Int)::r))) ⟨Same.refl _,⟨_,rfl⟩,Els.nil⟩ Zu ?_ ?_⟩
    .rintro j ys σ Hj hj hy ⟨sc,⟨o1,rfl⟩,kc⟩;have iO:SqL K Hj q' (ns.map V.int):=SqL.of (sc _ _ nE)
     have hx:(ns.map V.int)[j]?=some (.int ns[j]):=by
      rw[zAb,zA0 hj];rfl
     have dA:ns.take (j+1)=ns.take j++[ns[j]]:=by rw[zAj,zA0 hj];rfl
     have vk:=vh ns[j] (zAh hj);have Me:=sc _ _ AQ;refine⟨⟨_,_,iO,hx⟩,fun x H' yv R hR=>?_⟩;obtain⟨rfl,yv⟩:=yv;have yv:=yv _ iO;rw[hx]at yv;cases yv;refine aH ?_;refine⟨_,rfl,_,rfl,dr,_,rfl,by rw[<-vk];exact DGet.k (k:=.inl ns[j]) Me,_,_,rfl,rfl,_,rfl,?_⟩;by_cases bo:0<L.getD (ns[j]).toNat 0
     .rw[zAu bo];refine bV ⟨_,rfl,_,rfl,_,rfl,_,rfl,dr,_,rfl,by rw[<-vk];exact DGet.k (k:=.inl ns[j]) Me,zL,fun t dP=>hR _ _ _ (by rw[zA2];show ys.length+1<=j+1;lia) ⟨sc.updR dP,⟨_,rfl⟩,?_⟩⟩;rw[dA,kZ,zAx bo,zA4];exact(kc.same (Same.upd dP)).app (Els.one aj)
     .rw[zB5 bo];refine bO (hR _ _ _ Zz ⟨sc,⟨_,rfl⟩,?_⟩);rw[dA,kZ,zAw bo,zAn];exact kc
    .rintro ys σ Hj hy ⟨sc,_,kc⟩;rw[zAm]at kc;refine⟨⟨_,SqL.of (sc _ _ nE),by rw[zA1];exact zA3 _⟩,fun D hD=>?_⟩;have sD:=sc.updR (o:=.lst ys) hD;have ll:=zf ps ss sort year i;have:=ht.1;refine⟨l,D,xl,ys,rfl,rfl,sD _ _ Md,aj,by rw[sizeLine_eq];lia,?_⟩;refine⟨_,_,_,xl++ys,rfl,fun b o e=>?_,aj,?_⟩
     .rw[az (aC e hl)];exact sD _ _ (kA _ _ e)
     .refine((OW.same sD).app (kc.same (Same.upd (o:=.lst ys) hD))).keep fun b z e=>?_;rw[az fun w=>by rw[w,sD _ _ Md]at e;cases e];exact e
   .rw[zB5 (fun z=>hs (by injection z))];refine bO ?_;rw[zAw hs,zAn];exact⟨_,_,_,xl,rfl,fun b o e=>k9 _ _ e,Fm,Mb⟩
  .rintro σ Hc ⟨x5,x6,x7,xl,rfl,k,el,ht⟩;rw[show xp.length=ps.length from rp.l]at ht;exact⟨_,rfl,q l xl Hc (fun b o e=>k b o e) hl el ht⟩
def off(H:Hp)(st:Addr):Hp:=fun b=>if b=st then none else H b
theorem kh{H:Hp}{st b:Addr}(n:b≠st):off H st b=H b:=zAw n
theorem Ia{H:Hp}{st:Addr}:off H st st=none:=zAx rfl
theorem off_same{H:Hp}{st:Addr}:Same (off H st) H:=fun b o e=>by
 unfold off at e;split at e
 .cases e
 .exact e
theorem qu{H:Hp}{st b:Addr}{o:HO}(h:eZ H st)(e:H b=some o)(n:∀xs,o≠.lst xs):b≠st:=fun z=>by
 obtain⟨a,c,e',_⟩:=h;rw[z,e']at e;exact n _ (zAl e).symm
theorem vW{H:Hp}{st:Addr}(h:eZ H st)(a:Addr)(xs:List V)(e:H a=some (.tup xs)):off H st a=some (.tup xs):=by
 rw[kh (qu h e fun _ z=>by cases z)];exact e
theorem nU{H:Hp}{st a:Addr}{xs:List V}{rs:List (List Int)}(h:eZ H st)(r:RowsAt H a xs rs):RowsAt (off H st) a xs rs:=by
 refine⟨vW h _ _ r.e,r.l,fun i q e=>?_⟩;obtain⟨t,ex,et⟩:=r.g i q e;exact⟨t,ex,vW h _ _ et⟩
theorem CN{H:Hp}{st bk ac:Addr}{xc:List V}{cs:List (List Int)}{ap:Addr}{xp:List V}{ps:List (List Int)}{ah:Addr}{xs:List V}{ss:List (List Int)}(h:eZ H st)(b:BookAt H bk ac xc cs ap xp ps ah xs ss):BookAt (off H st) bk ac xc cs ap xp ps ah xs ss:=
 ⟨vW h _ _ b.e,nU h b.rc,b.okc,b.lc,nU h b.rp,b.lp,b.okp,nU h b.rs,b.ls,b.h5,b.un⟩
theorem Ff{fo st:Addr}{H0 H:Hp}{dm:Int->Int->Prop}{f:Int->Int->Int->Int}{b:Int->Int->Nat}{kvs:List (List Key×V)}(h:eZ H st)(g:Dts fo H0 H dm f b kvs):Dts fo (fun _=>none) (off H st) dm f b kvs:=by
 refine⟨fun _ _ e=>(by cases e),rfl,?_,fun n y d=>?_,g.no,g.i,fun n y d hv=>?_⟩
 .rw[kh (qu h g.e fun _ z=>by cases z)];exact g.e
 .obtain⟨d,kv,e1,e2,r⟩:=g.g n y d;exact⟨d,kv,e1,by rw[kh (qu h e2 fun _ z=>by cases z)];exact e2,r⟩
 .by_cases hd:dm n y
  .obtain⟨d',kv,e1,e2,_⟩:=g.g n y hd;rw[hv]at e1;cases e1;exact⟨rfl,(g.fr n y d hv).2.1,_,by rw[kh (qu h e2 fun _ z=>by cases z)];exact e2⟩
  .rw[g.no n y hd]at hv;cases hv
structure Ot(T Hc:Hp)(st lo:Addr)(M:List (List Int)):Prop where
 s:Same T Hc
 ns:T st=none
 nl:T lo=none
 sa:eZ Hc st
 mo:LkAt Hc lo M
section
variable{T Hc Hd:Hp}{st lo:Addr}{M M' uk:List (List Int)}
theorem Ot.ne(d:Ot T Hc st lo M):lo≠st:=by
 obtain⟨Mo,e,_⟩:=d.mo
 exact qu d.sa e fun _ z=>by cases z
theorem Ot.same(d:Ot T Hc st lo M)(s:Same Hc Hd):Ot T Hd st lo M:=by
 obtain⟨a,b,e,r⟩:=d.sa;obtain⟨Mo,e2,p⟩:=d.mo;exact⟨d.s.trans s,d.ns,d.nl,⟨a,b,s _ _ e,r⟩,Mo,s _ _ e2,p⟩
theorem Ot.put(d:Ot T Hc st lo M)(pm:uk.Perm M'):Ot T (upd Hc lo (.dT (uk.map kvR))) st lo M':=by
 obtain⟨a,b,e,r⟩:=d.sa;refine⟨fun c o ec=>?_,d.ns,d.nl,⟨a,b,by rw[az d.ne.symm];exact e,r⟩,uk,aj,pm⟩;rw[az (aC ec d.nl)];exact d.s _ _ ec
theorem Ot.dr(d:Ot T Hc st lo M)(g:Dr st Hc Hd):Ot T Hd st lo M:=by
 obtain⟨Mo,e2,p⟩:=d.mo;exact⟨fun c o ec=>g.bt _ _ (d.s _ _ ec) (aC ec d.ns),d.ns,d.nl,g.sa,Mo,g.bt _ _ e2 d.ne,p⟩
end
theorem Fg{σ:St}{H:Hp}{Q:VK}{d:Addr}{R:List (List Int)}{i:Nat}(kS:σ[i]?=some (some (.ref d)))(e:H d=some (.dT (R.map kvR)))(nd:(R.map keyOf).Nodup)(hl:R.length<=100000)
  (q:∀D H',Same H H'->H' D=some (.lst ((wts R).map V.int))->Q (.ref D) H'):Jk (sY (FP (uM i)) [none,some i] (bH 0) sX (Fy (uM 1) (uM 0))) σ H Q:=by
 refine⟨d,_,e,fun o=>?_⟩;have ez:=aj (H:=H) (a:=d) (o:=.frz o (.dT (R.map kvR)))
 have sz:∀b u,b≠d->H b=some u->upd H d (.frz o (.dT (R.map kvR))) b=some u:=fun b u n e=>by
  rw[az n];exact e
 generalize upd H d (.frz o (.dT (R.map kvR)))=Hz at ez sz⊢;refine⟨_,kS,d,o,_,rfl,ez,?_⟩
 have OX:capσ σ [none,some i]=[none,some (.ref d)]:=by
  simp[capσ,kS]
 rw[OX];refine bZ R.length (fun j ys σ Hd=>Same Hz Hd/\(∃o1,σ=[o1,some (.ref d)])/\ys=(wts (R.take j)).map V.int) ⟨Same.refl _,⟨_,rfl⟩,rfl⟩ Zu ?_ ?_
 .rintro j ys ar Hd hj hy ⟨sd,⟨o1,rfl⟩,rfl⟩;refine⟨⟨sd _ _ ez,by rw[zA1];exact hj⟩,fun x H' yv R' hR=>?_⟩;obtain⟨rfl,bb,kk,vv,rfl,AR,uu⟩:=yv;rw[zAb,zA0 hj]at AR;cases AR
  have ew:wts (R.take (j+1))=wts (R.take j)++[fl R[j] 3]:=by
   unfold wts;rw[zAj,zA0 hj,zA4];rfl
  rw[ew,zA4]at hR;refine aH ?_;exact⟨_,rfl,_,rfl,d,.int (fl R[j] 3),rfl,.inr ⟨_,_,bb,.inr ⟨o,sd _ _ ez⟩,rfl,uu,(nO (Cr nd) (zA5.mpr ⟨_,zAh hj,rfl⟩)).symm⟩,hR _ _ _ ⟨sd,⟨_,rfl⟩,rfl⟩⟩
 rintro ys ar Hd hy ⟨sd,_,rfl⟩;rw[zAm];refine⟨⟨sd _ _ ez,by rw[zA1];exact zA3 _⟩,fun D hD=>⟨Same.upd hD _ _ (sd _ _ ez),?_⟩⟩
 have nD:D≠d:=fun z=>by rw[z,sd _ _ ez]at hD;cases hD
 refine q D _ (fun b u e'=>?_) (by rw[az nD];exact aj);by_cases hb:b=d
 .subst hb;rw[e]at e';rw[aj];exact e'
 .rw[az hb];exact Same.upd hD _ _ (sd _ _ (sz _ _ hb e'))
def toN:V->Nat
 |.int k=>k.toNat
 |_=>0
structure OkM(ps:List (List Int))(j s:Nat)(M:List (List Int)):Prop where
 kd:(M.map keyOf).Nodup
 ok:∀r∈M,r.length=4/\0<=fl r 1/\fl r 1<ps.length/\0<=fl r 3/\0<=fl r 0
 yr:∀r∈M,fl r 0<j\/(fl r 0=j/\bz ps r<s)
 len:M.length<=240*j+80*s
section
variable{cs ps ss M A B:List (List Int)}{j s:Nat}
theorem Fi{Mo L:List (List Int)}{r:List Int}(pm:Mo.Perm L)(nd:((L++[r]).map keyOf).Nodup):putK (Mo.map kvR) ((keyOf r).map Sum.inl) (.int (fl r 3))=(Mo++[r]).map kvR:=by
 rw[zP,zA4]
 .rfl
 .cases zv:cg (Mo.map kvR) ((keyOf r).map Sum.inl)with
  |none=>rfl
  |some v=>
   have h1:(cg (Mo.map kvR) ((keyOf r).map Sum.inl)).isSome=true:=by rw[zv];rfl
   rw[<-dX,List.any_eq_true]at h1;obtain⟨p,hp,e⟩:=h1;have e:=zB6 e;obtain⟨q,hq,rfl⟩:=zA5.mp hp;have e:=lU (show(keyOf q).map Sum.inl=_ from e);rw[zA4,List.nodup_append]at nd;exact absurd e (nd.2.2 _ (zA5.mpr ⟨q,pm.mem_iff.mp hq,rfl⟩) _ (.head _))
theorem OkM.nil:OkM ps 0 0 []:=⟨List.nodup_nil,fun r hr=>(by cases hr),fun r hr=>(by cases hr),zAp _⟩
theorem OkM.part(g:OkM ps j s M)(hu:un ps ss=none)(h5:∀s∈ss,s.length=5)(okp:∀r∈ps,okP r)(i:Nat):((M++(aF ps ss s j).take i).map keyOf).Nodup:=by
 rw[zA4,List.nodup_append];refine⟨g.kd,?_,fun a ha b hb e=>?_⟩
 .rw[List.map_take];exact(G5 _).sublist (List.take_sublist _ _)
 .subst e;obtain⟨r,hr,e1⟩:=zA5.mp ha;obtain⟨q,hq,e2⟩:=zA5.mp hb;have c:=fQ (List.mem_of_mem_take hq);have ee:keyOf r=keyOf q:=e1.trans e2.symm;unfold keyOf at ee;injection ee with x0 ee;injection ee with x1 _;rcases g.yr r hr with z|⟨z,z2⟩
  .lia
  .have:bz ps r=bz ps q:=by unfold bz;rw[x1]
   lia
theorem OkM.claims(g:OkM ps j s M)(hu:un ps ss=none)(h5:∀s∈ss,s.length=5)(okp:∀r∈ps,okP r)(lp:ps.length<=10):OkM ps j (s+1) (M++aF ps ss s j):=by
 have nd:=g.part hu h5 okp (aF ps ss s j).length;rw[zAm]at nd;refine⟨nd,fun r hr=>?_,fun r hr=>?_,?_⟩
 .rcases zA6.mp hr with z|z
  .exact g.ok r z
  .have a:=d7 hu h5 okp r z;have c:=fQ z;exact⟨a.1,c.2.2.1,c.2.2.2.1,Zz,Zz⟩
 .rcases zA6.mp hr with z|z
  .rcases g.yr r z with y|y
   .exact .inl y
   .exact .inr ⟨y.1,Zz⟩
  .have c:=fQ z;exact .inr ⟨c.1,Zz⟩
 .have:=cC (ss:=ss) (sort:=s) (year:=j) lp;have:=g.len;rw[zA2];lia
theorem OkM.next(g:OkM ps j 3 M):OkM ps (j+1) 0 M:=⟨g.kd,g.ok,fun r hr=>.inl (by
 rcases g.yr r hr with z|z
 .lia
 .lia),by have:=g.len;lia⟩
theorem OkM.set{r:List Int}{k:Int}(g:OkM ps j s (A++r::B))(k0:k<=fl r 3):OkM ps j s (A++[fl r 0,fl r 1,fl r 2,fl r 3-k]::B):=by
 have e:∀x,keyOf [fl r 0,fl r 1,fl r 2,x]=keyOf r:=fun _=>rfl;have hr:=g.ok r (zA6.mpr (.inr (.head _)));have hy:=g.yr r (zA6.mpr (.inr (.head _)));refine⟨?_,fun q hq=>?_,fun q hq=>?_,?_⟩
 .have:=g.kd;rw[zA4,zAk]at this⊢;exact this
 .rcases zA6.mp hq with z|z
  .exact g.ok q (zA6.mpr (.inl z))
  .rcases zAo.mp z with z|z
   .rw[z];exact⟨rfl,hr.2.1,hr.2.2.1,(by show 0<=fl r 3-k;lia),hr.2.2.2.2⟩
   .exact g.ok q (zA6.mpr (.inr (.tail _ z)))
 .rcases zA6.mp hq with z|z
  .exact g.yr q (zA6.mpr (.inl z))
  .rcases zAo.mp z with z|z
   .rw[z];exact hy
   .exact g.yr q (zA6.mpr (.inr (.tail _ z)))
 .have:=g.len;rw[zA2,zAe]at this⊢;exact this
end
theorem CP{J:It}{g:TG}{tm:TM}{eC:St}{H0:Hp}{A6:List V}{Fin:List V->St->Hp->Prop}(n:Nat)(Pv:Nat->List V->St->Hp->Prop)(h0:Pv 0 A6 eC H0)(hz:∀i ys σ H,i<=n->Pv i ys σ H->ys.length<sizeLine)
  (step:∀i ys σ H,i<n->Pv i ys σ H->J.go i H/\∀x H',J.yld i H x H'->∀R:List V->St->Hp->Prop,(∀cK aS H4,Pv (i+1) cK aS H4->R cK aS H4)->g x σ H' fun aS H2=>tm ys aS H2 fun cK ar H4=>R cK ar H4)
  (fin:∀ys σ H,Pv n ys σ H->J.stop n H/\Fin ys σ H):ue J g sX tm Fin A6 eC H0:=by
 refine⟨fun i m ys σ H=>m=n-i/\i<=n/\Pv i ys σ H,⟨_,rfl,zAp _,h0⟩,?_⟩;rintro i m ys σ H ⟨rfl,hi,p⟩;refine⟨hz i ys σ H hi p,?_⟩;by_cases bp:i<n
 .obtain⟨go,st⟩:=step i ys σ H bp p;exact .inr ⟨go,fun x H' y=>st x H' y _ fun cK aS H4 p2=>⟨n-(i+1),Zz,rfl,bp,p2⟩⟩
 .have e:i=n:=Zz
  subst e;exact .inl (fin ys σ H p)
def ppI(n i:Nat):List Int:=[((i / (n*n):Nat):Int),((i / n % n:Nat):Int),((i % n:Nat):Int)]
theorem CQ{n a b c:Nat}(hb:b<n)(hc:c<n):ppI n ((a*n+b)*n+c)=[(a:Int),(b:Int),(c:Int)]:=by
 have hn:0<n:=Zz
 have e1:((a*n+b)*n+c) / n=a*n+b:=by rw[Nat.add_comm,Nat.mul_comm,Nat.add_mul_div_left _ _ hn,Nat.div_eq_of_lt hc,Nat.zero_add]
 have e2:(a*n+b) % n=b:=by rw[Nat.add_comm,Nat.add_mul_mod_self_right,Nat.mod_eq_of_lt hb]
 have e3:(a*n+b) / n=a:=by rw[Nat.add_comm,Nat.mul_comm,Nat.add_mul_div_left _ _ hn,Nat.div_eq_of_lt hb,Nat.zero_add]
 have e4:((a*n+b)*n+c) % n=c:=by rw[Nat.add_comm,Nat.add_mul_mod_self_right,Nat.mod_eq_of_lt hc]
 unfold ppI;rw[<-Nat.div_div_eq_div_mul,e1,e3,e2,e4]
def JR(n j:Nat)(as:List Addr)(H:Hp):Prop:=as.length=j/\∀i a,as[i]?=some a->H a=some (.tup ((ppI n i).map V.int))
inductive SpPapersI(vs:List V)(H:Hp)(Q:VK):Prop
 |mk:∀y:Nat,(vs=[.int y])->(y<=98)->(∀L as H',Same H H'->H' L=some (.lst (as.map V.ref))->JR (y+2) ((y+2)*(y+2)*(y+2)) as H'->Q (.ref L) H')->SpPapersI  vs H Q
def uL:Sp:=fun vs H Q _=>SpPapersI  vs H Q
theorem Ib:(["best","middle","least","year"]:List Str).Nodup:=by decide +kernel
theorem Lb:FnScope ["year"] ["year"] (aM (top 61)):=fQS
theorem zg(F:Fun K "papers_for" "papers_for" (top 61) f fd)(Tr:mg "range"=none):FnOk P w K mg base CX0 1 f fd ["year"] uL:=by
 refine F.ok Lb (fun vs H Q E h=>?_) (fun ax A outer s H vs Q E hr h=>?_)
 .obtain⟨y,rfl,_⟩:=h;rfl
 .obtain⟨y,rfl,hy,q⟩:=h
  refine⟨_,aD (aQ (An ["best","middle","least","year"] [none,none,none,some 0] rfl (aZ rfl Tr (au (aV bj (pv 0) aB) ao)) (fun it D env=>wR rfl rfl)
   (fun C fp Zt s₂ H₂=>⟨pgn 0 Ib,bu,fun D ap=>Am rfl rfl ap rfl (fun it=>wR rfl rfl) (aZ rfl Tr (au (aV bj (pv 3) aB) ao)) (pgn 1 Ib) bu
    (Am rfl rfl ap rfl (fun it=>yJ rfl rfl) (aZ rfl Tr (au (aV bj (pv 3) aB) ao)) (pgn 2 Ib) bu (Ht ap rfl (bW (au (pv 0) (au (pv 1) (au (pv 2) ao))))))⟩)
   (fun C=>cI trivial) ⟨rfl,rfl,rfl,rfl⟩)),?_⟩
  refine gw ?_;have hn:((y:Int)+2).toNat=y+2:=Zz
  have big:(y+2)*(y+2)*(y+2)<=1000000:=Nat.le_trans (Nat.mul_le_mul (Nat.mul_le_mul (show y+2<=100 by lia) (show y+2<=100 by lia)) (show y+2<=100 by lia)) Zx;generalize hN:y+2=n at q hn big;have Fs:((y:Int)+2).toNat=n:=Zz
  let Pv:Nat->List V->Hp->Prop:=fun j ys Hc=>Same H Hc/\∃as,ys=as.map V.ref/\JR n j as Hc
  have hz:∀j ys Hc,j<=n*n*n->Pv j ys Hc->ys.length<sizeLine:=fun j ys Hc hj p=>by
   obtain⟨_,as,rfl,hl,_⟩:=p;rw[zA1,hl,sizeLine_eq];lia
  have OY:∀{a b c:Nat},a<n->b<n->c<=n->(a*n+b)*n+c<=n*n*n:=fun{a b c} ha hb hc=>by
   have h1:a*n+b+1<=n*n:=by
    have:=Nat.mul_le_mul_right n (show a+1<=n from ha);rw[Nat.add_mul,Nat.one_mul]at this;lia
   have h2:=Nat.mul_le_mul_right n h1;rw[Nat.add_mul,Nat.one_mul]at h2;lia
  refine⟨_,rfl,_,_,rfl,rfl,(y:Int)+2,rfl,Zz,Zz,?_⟩;rw[Fs];refine CP n (fun a ys σ Hc=>(∃o1 o2 o3,σ=[o1,o2,o3,some (.int y)])/\Pv (a*n*n) ys Hc) ⟨⟨_,_,_,rfl⟩,Same.refl H,[],rfl,by rw[Nat.zero_mul,Nat.zero_mul];rfl,fun i a e=>by simp at e⟩ (fun a ys σ Hc ha p=>hz _ _ _ (Nat.mul_le_mul_right n (Nat.mul_le_mul_right n ha)) p.2) ?_ ?_
  .rintro a ys σ Hc ha ⟨⟨o1,o2,o3,rfl⟩,p⟩;refine⟨ha,fun v H' y' R hR=>?_⟩;obtain⟨eH,rfl⟩:=y';subst H';refine aH ?_;refine⟨_,rfl,_,_,rfl,rfl,(y:Int)+2,rfl,Zz,Zz,?_⟩;rw[Fs];refine CP n (fun b ys σ Hc=>(∃o2 o3,σ=[some (.int (0+(a:Int))),o2,o3,some (.int y)])/\Pv ((a*n+b)*n) ys Hc) ⟨⟨_,_,rfl⟩,p⟩ (fun b ys σ Hc hb p=>hz _ _ _ ?_ p.2) ?_ ?_
   .have h1:=Nat.mul_le_mul_right n (show a+1<=n from ha);rw[Nat.add_mul,Nat.one_mul]at h1;exact Nat.mul_le_mul_right n Zz
   .rintro b ys σ Hc hb ⟨⟨o2,o3,rfl⟩,p⟩;refine⟨hb,fun v H' y' R hR=>?_⟩;obtain⟨eH,rfl⟩:=y';subst H';refine aH ?_;refine⟨_,rfl,_,_,rfl,rfl,(y:Int)+2,rfl,Zz,Zz,?_⟩;rw[Fs];refine CP n (fun c ys σ Hc=>(∃o3,σ=[some (.int (0+(a:Int))),some (.int (0+(b:Int))),o3,some (.int y)])/\Pv ((a*n+b)*n+c) ys Hc) ⟨⟨_,rfl⟩,p⟩ (fun c ys σ Hc hc p=>hz _ _ _ (OY ha hb hc) p.2) ?_ ?_
    .rintro c ys σ Hc hc ⟨⟨o3,rfl⟩,s1,as,rfl,l1,g1⟩;refine⟨hc,fun v H' y' R hR=>?_⟩;obtain⟨eH,rfl⟩:=y';subst H';refine aH ?_;refine⟨_,rfl,_,rfl,_,rfl,by simp[sizeLine_eq],fun t ht=>hR _ _ _ ⟨⟨_,rfl⟩,s1.updR ht,as++[t],by rw[List.map_append];rfl,?_⟩⟩;refine⟨by rw[zA2,l1];rfl,fun i z e=>?_⟩;rcases Nat.lt_or_ge i as.length with hi|hi
     .rw[zBa hi]at e;have:=g1 i z e;rw[az (aC this ht)];exact this
     .rw[zB9 hi]at e
      have OZ:i=as.length:=by
       have:=zAa.mp e;obtain⟨h1,_⟩:=this;simp at h1;lia
      subst OZ;rw[Nat.sub_self]at e;cases e;rw[aj,l1,CQ hb hc];simp only[Int.zero_add];rfl
    .rintro ys σ Hc ⟨⟨o3,rfl⟩,p⟩;refine⟨zA3 _,hR _ _ _ ⟨⟨_,_,rfl⟩,?_⟩⟩;rw[show(a*n+(b+1))*n=(a*n+b)*n+n by rw[<-Nat.add_assoc,Nat.add_mul _ 1,Nat.one_mul]];exact p
   .rintro ys σ Hc ⟨⟨o2,o3,rfl⟩,p⟩;refine⟨zA3 _,hR _ _ _ ⟨⟨_,_,_,rfl⟩,?_⟩⟩;rw[show(a+1)*n=a*n+n by rw[Nat.add_mul,Nat.one_mul]];exact p
  .rintro ys σ Hc ⟨_,s1,as,rfl,p⟩;refine⟨zA3 _,fun D hD=>q D as _ (s1.updR hD) aj ⟨p.1,fun i a e=>?_⟩⟩;have:=p.2 i a e;rw[az (aC this hD)];exact this
theorem BookAt.bko{H:Hp}{bk ac:Addr}{xc:List V}{cs:List (List Int)}{ap:Addr}{xp:List V}{ps:List (List Int)}{ah:Addr}{xs:List V}{ss:List (List Int)}(b:BookAt H bk ac xc cs ap xp ps ah xs ss):BkO cs ps ss:=⟨b.okc,b.lp,b.un,b.h5,b.okp⟩
theorem JS{cs ps ss:List (List Int)}(B:BkO cs ps ss)(Y:Nat):∃a b c:Nat,a<=Y+1/\b<=Y+1/\c<=Y+1/\iw cs ps ss Y [(a:Int),(b:Int),(c:Int)]=aN (dF cs ps ss (Y+1)):=by
 obtain⟨t,t1,t2,t3⟩:=val_eq B (Y+1) 3 (zA3 _);rw[rY,Cq]at t3;have h0:=t2 0 Zx;have h1:=t2 1 Zx;have h2:=t2 2 Zx;have m1:t 0<=t 1:=t1 0 Zx;have m2:t 1<=t 2:=t1 1 Zx;refine⟨t 0,t 1,t 2,h0,h1,h2,?_⟩;have e2:mnL [((t 2:Nat):Int)]=(t 2:Nat):=rfl;have e1:mnL [((t 1:Nat):Int),((t 2:Nat):Int)]=(t 1:Nat):=if_pos (by rw[e2];lia);have e0:mnL [((t 0:Nat):Int),((t 1:Nat):Int),((t 2:Nat):Int)]=(t 0:Nat):=if_pos (by rw[e1];lia);show(tb (j6 ps ss Y 3) 0 (t 0:Nat)+(tb (j6 ps ss Y 3) 1 (t 1:Nat)+(tb (j6 ps ss Y 3) 2 (t 2:Nat)+0)))-(tb (j7 cs Y 3) 0 (mnL [((t 0:Nat):Int),((t 1:Nat):Int),((t 2:Nat):Int)])+(tb (j7 cs Y 3) 1 (mnL [((t 1:Nat):Int),((t 2:Nat):Int)])+(tb (j7 cs Y 3) 2 (mnL [((t 2:Nat):Int)])+0)))=_;rw[e0,e1,e2,qm Zx Zz,qm Zx Zz,qm Zx Zz,qp Zx Zz,qp Zx Zz,qp Zx Zz];unfold cS wS at t3;simp only[Int.toNat_natCast];lia
theorem Gg{n i:Nat}(hi:i<(n+2)*(n+2)*(n+2)):su n (ppI (n+2) i):=by
 refine⟨rfl,fun x hx=>?_⟩;have h1:i / ((n+2)*(n+2))<n+2:=Nat.div_lt_of_lt_mul hi;have h2:i / (n+2) % (n+2)<n+2:=Nat.mod_lt _ Zz;have h3:i % (n+2)<n+2:=Nat.mod_lt _ Zz;unfold ppI at hx;rcases zAo.mp hx with z|z
 .rw[z];exact⟨Int.natCast_nonneg _,Zz⟩
 rcases zAo.mp z with z|z
 .rw[z];exact⟨Int.natCast_nonneg _,Zz⟩
 .rw[List.mem_singleton.mp z];exact⟨Int.natCast_nonneg _,Zz⟩
theorem JT{m a b c:Nat}(ha:a<m)(hb:b<m)(hc:c<m):(a*m+b)*m+c<m*m*m:=by
 have h1:a*m+b+1<=m*m:=by
  have:=Nat.mul_le_mul_right m (show a+1<=m from ha);rw[Nat.add_mul,Nat.one_mul]at this;lia
 have h2:=Nat.mul_le_mul_right m h1;rw[Nat.add_mul,Nat.one_mul]at h2;lia
inductive SpPOfI(vs:List V)(H:Hp)(Q:VK):Prop
 |mk:∀S bk y d ac xc cs ap xp ps ah xs ss,(vs=[.ref bk,.int y])->(IsTh S H (.ref bk) d)->(sz d<=4000)->(jB d=true)->(BookAt H bk ac xc cs ap xp ps ah xs ss)->(0<=y)->(y<cs.length)->(∀t p H',Same H H'->H' t=some (.tup (p.map V.int))->su y p->iw cs ps ss y.toNat p=aN (dF cs ps ss (y.toNat+1))->Q (.ref t) H')->SpPOfI  vs H Q
def Gh:Sp:=fun vs H Q _=>SpPOfI  vs H Q
theorem Ld:(["paper","lack","claimed","wool"]:List Str).Nodup:=by decide +kernel
theorem scPG:FnScope ["book","year","lack","claimed","wool"] ["book","year"] (aM (top 64)):=fQS
theorem Ie(F:Fun K "paper_of" "paper_of" (top 64) f fd)(c1:Cal P w K mg base 12 "lack_by" ["book","year"] (yX BX))(c3:Cal P w K mg base 3 "claimed_since" ["book","year"] (uF Ew))(c4:Cal P w K mg base 2 "wool_since" ["book","year"] (uF Ex))(c5:Cal P w K mg base 1 "shown" ["claimed","wool","paper"] sy)(c6:Cal P w K mg base 1 "papers_for" ["year"] uL):FnOk P w K mg base CX0 13 f fd ["book","year"] Gh:=by
 refine F.ok scPG (fun vs H Q E h=>?_) (fun ax A outer s H vs Q E hr h=>?_)
 .obtain⟨S,bk,y,d,ac,xc,cs,ap,xp,ps,ah,xs,ss,rfl,_⟩:=h;rfl
 .obtain⟨S,bk,y,d,ac,xc,cs,ap,xp,ps,ah,xs,ss,rfl,th,hz,hb,B,y0,y1,q⟩:=h
  refine⟨_,aA (gO (i:=2) scPG.nd rfl (Or.inr rfl) (aK c1 hr (au (pv 0) (au (pv 1) ao))))
   (aA (gO (i:=3) scPG.nd rfl (Or.inr rfl) (aK c3 hr (au (pv 0) (au (pv 1) ao))))
   (aA (gO (i:=4) scPG.nd rfl (Or.inr rfl) (aK c4 hr (au (pv 0) (au (pv 1) ao))))
   (aD (aQ (pX (fB (K:=K) rfl) (bG ["paper","lack","claimed","wool"] [none,some 2,some 3,some 4] rfl (K42P.pi_listK (K:=K) rfl (aK c6 hr (au (pv 1) ao)))
    (fun C fp Zt s₂ H₂=>⟨pgn 0 Ld,gn (bN oX (aK c5 hr (au (pv 2) (au (pv 3) (au (pv 0) ao)))) (pv 1) (bQ _)),pv 0⟩)
    (fun C=>cI (cI (cI trivial))) ⟨rfl,rfl,rfl,rfl⟩) aB))))),?_⟩
  refine aG (aW ?_);refine⟨_,rfl,_,rfl,S,bk,y,d,ac,xc,cs,ap,xp,ps,ah,xs,ss,rfl,th,hz,hb,B,y0,y1,fun H1 s1=>?_⟩;refine aH (cD ?_);dsimp only;refine aG (aW ?_);refine⟨_,rfl,_,rfl,bk,y,ac,xc,cs,ap,xp,ps,ah,xs,ss,rfl,B.same s1,y0,y1,fun L1 a1 H2 s2 tC=>?_⟩;refine aH (cD ?_);dsimp only;refine aG (aW ?_);refine⟨_,rfl,_,rfl,bk,y,ac,xc,cs,ap,xp,ps,ah,xs,ss,rfl,(B.same s1).same s2,y0,y1,fun L2 a2 H3 s3 tW=>?_⟩;refine aH (cD ?_);dsimp only;refine gw ?_
  obtain⟨n,rfl⟩:∃n:Nat,y=n:=⟨y.toNat,Zz⟩
  have lc:=B.lc;refine⟨_,rfl,n,rfl,Zz,fun L as H4 s4 eL pp=>⟨L,rfl,⟨_,SqL.of eL⟩,?_⟩⟩;have big:(n+2)*(n+2)*(n+2)<=1000000:=Nat.le_trans (Nat.mul_le_mul (Nat.mul_le_mul (show n+2<=100 by lia) (show n+2<=100 by lia)) (show n+2<=100 by lia)) Zx;rw[zAi]at tC tW q⊢;generalize jv:aN (dF cs ps ss (n+1))=lk at q⊢
  refine fD ((n+2)*(n+2)*(n+2)) (fun i ys σ Hc=>Same H4 Hc/\(∃o1,σ=[o1,some (.int lk),some (.ref L1),some (.ref L2)])/\(∀v∈ys,∃j a,v=V.ref a/\as[j]?=some a/\j<(n+2)*(n+2)*(n+2)/\iw cs ps ss n (ppI (n+2) j)=lk)/\∀j,j<i->iw cs ps ss n (ppI (n+2) j)=lk->ys≠[])
   ⟨Same.refl _,⟨_,rfl⟩,fun v hv=>absurd hv Zy,fun j hj=>absurd hj Zz⟩ Zu ?_ ?_
  .rintro i ys σ Hc hi hy ⟨s5,⟨o1,rfl⟩,g1,g2⟩;have BM:i<as.length:=by rw[pp.1];exact hi
   have Mf:=s5 _ _ eL;refine⟨⟨_,.ref as[i],SqL.of Mf,by rw[zAb,zA0 BM];rfl⟩,fun x H' y' R hR=>?_⟩;obtain⟨eH,hx⟩:=y';subst H';have hx:=hx _ (SqL.of Mf);rw[zAb,zA0 BM]at hx;cases hx;refine aH ?_;have ea:=s5 _ _ (pp.2 i as[i] (zA0 BM));have Mi:=s4.trans s5;refine⟨_,rfl,_,rfl,_,rfl,L1,a1,_,L2,a2,_,as[i],_,n,rfl,tC.same (s3.trans Mi),tW.same Mi,by unfold j6;rw[zA1,List.length_range],by unfold j7;rw[zA1,List.length_range],fun r hr=>?_,fun r hr=>?_,ea,?_,fun H6 s6=>⟨_,rfl,rfl,_,rfl,?_⟩⟩
   .obtain⟨k,_,rfl⟩:=zA5.mp hr;rw[jJ];unfold clT;rw[zA1,List.length_range];lia
   .obtain⟨k,_,rfl⟩:=zA5.mp hr;rw[jJ];unfold wlT;rw[zA1,List.length_range];lia
   .exact Gg hi
   .dsimp only;by_cases e:iw cs ps ss n (ppI (n+2) i)=lk
    .rw[if_pos (by rw[lF];exact beq_iff_eq.mpr e)];refine⟨_,rfl,hR _ _ _ (by rw[List.length_append];exact Nat.succ_le_succ hy) ⟨s5.trans s6,⟨_,rfl⟩,fun v hv=>?_,fun j hj ej=>by simp⟩⟩;rcases zA6.mp hv with z|z
     .exact g1 v z
     .rw[List.mem_singleton.mp z];exact⟨i,as[i],rfl,zA0 BM,hi,e⟩
    .rw[zAw (by rw[lF];exact fun z=>e (beq_iff_eq.mp z))];refine hR _ _ _ Zz ⟨s5.trans s6,⟨_,rfl⟩,g1,fun j hj ej=>?_⟩;rcases Nat.lt_or_ge j i with z|z
     .exact g2 j z ej
     .have:j=i:=Zz
      subst this;exact absurd ej e
  .rintro ys σ Hc hy ⟨s5,_,g1,g2⟩;refine⟨⟨_,SqL.of (s5 _ _ eL),by rw[zA1,pp.1];exact zA3 _⟩,fun D hD=>?_⟩;obtain⟨a,b,c,ha,hb,hc,e⟩:=JS B.bko n;rw[jv]at e;have fI:=g2 ((a*(n+2)+b)*(n+2)+c) (JT Zz Zz Zz) (by rw[CQ Zz Zz];exact e)
   cases ys with
   |nil=>exact absurd rfl fI
   |cons v r=>
    obtain⟨j,t,rfl,ej,hj,eq⟩:=g1 v (.head _);have s6:=s5.updR (o:=.lst (V.ref t::r)) hD;exact⟨D,_,_,_,rfl,rfl,SqL.of aj,di (j:=0) rfl,q t _ _ ((((s1.trans s2).trans s3).trans s4).trans s6) (s6 _ _ (pp.2 j t ej)) (Gg hj) eq⟩
inductive SpOtherI(vs:List V)(H:Hp)(Q:VK):Prop
 |mk:∀st bk y ac xc cs ap xp ps ah xs ss,(vs=[.ref st,.ref bk,.int y])->(eZ H st)->(BookAt H bk ac xc cs ap xp ps ah xs ss)->(0<=y)->(y<cs.length)->(∀(x:Int) H',Dr st H H'->aN (dF cs ps ss (y.toNat+1))<=x->Q (.int x) H')->SpOtherI  vs H Q
def xU:Sp:=fun vs H Q _=>SpOtherI  vs H Q
theorem qw:bootBuiltins "min"=some (.builtin "min"):=by decide +kernel
theorem Le:(["_law_one","_law_book_here","_law_sort"]:List Str).Nodup:=by decide +kernel
theorem Lf:(["_law_one","_law_owing"]:List Str).Nodup:=by decide +kernel
theorem scOT:FnScope ["_law_state_here","_law_book_here","_law_year","_law_rows","_law_owing","_law_here","_law_sort","_law_number","_law_holder","_law_sacks","_law_have","_law_some","_law_one","_law_made"] ["_law_state_here","_law_book_here","_law_year"] (aM (top 80)):=fQS
theorem CT(F:Fun K "_law_other" "_law_other" (top 80) f fd)(T:Mg mg)(Tr:mg "range"=none)(To:mg "sorted"=none)(Tn:mg "min"=none)(Ts:mg "sum"=none)(c1:Cal P w K mg base 1 "_law_claims" ["_law_promises_here","_law_rows","_law_sort","_law_year"] qt)(c2:Cal P w K mg base 2 "_law_sold" ["_law_promises_here","_law_sales_here"] rQ)(c3:Cal P w K mg base 2 "_law_mixed" ["_law_state_here","_law_some"] xQ):
  FnOk P w K mg base CX0 3 f fd ["_law_state_here","_law_book_here","_law_year"] xU:=by
 refine F.ok scOT (fun vs H Q E h=>?_) (fun ax A outer s H vs Q E hr h=>?_)
 .obtain⟨st,bk,y,ac,xc,cs,ap,xp,ps,ah,xs,ss,rfl,_⟩:=h;rfl
 .obtain⟨st,bk,y,ac,xc,cs,ap,xp,ps,ah,xs,ss,rfl,fg,B,y0,y1,q⟩:=h
  refine K42P.ok_b (aY ⟨cG (bW (au (pX bL (aK c2 hr (au (pX bL (pv 1) aB) (au (pX bL (pv 1) aB) ao))) aB) (au tO ao))) (bK rfl (aq (pgn 3 scOT.nd) (aq (bf (i:=4) scOT.nd rfl (Or.inr rfl)) aX)))⟩
   (aY ⟨bT zB4 rfl (aZ rfl Tr (au (aV bj (pv 2) aB) ao)) (pgn 5 scOT.nd)
    (jk (aY ⟨bT zB4 rfl (aZ rfl Tr (au aB ao)) (bf (i:=6) scOT.nd rfl (Or.inr rfl))
     (jk (dq ⟨bT zB4 rfl (dG (aK c1 hr (au (pX bL (pv 1) aB) (au (pv 3) (au (pv 6) (au (pv 5) ao)))))) (bK rfl (aq (pgn 7 scOT.nd) (aq (pgn 8 scOT.nd) (aq (pgn 9 scOT.nd) aX))))
      (jk (dq ⟨lH (eQ hr) (pv 4) (bW (au (pv 5) (au (pv 7) (au (pv 8) ao)))) (pv 9) rfl⟩))⟩))⟩
    (dq ⟨bT zB4 rfl (dG (aK c3 hr (au (pv 0) (au (cj (au aB (au aB (au aB ao)))) ao)))) (bf (i:=6) scOT.nd rfl (Or.inr rfl))
     (jk (aY (lA 10 scOT.nd ⟨pX bL (pX bL (pX bL (pv 1) aB) (pv 5)) (pv 6)⟩)
     (aY ⟨Hr (iz (i:=11) ["_law_one","_law_book_here","_law_sort"] [none,some 1,some 6] rfl scOT.nd rfl (Or.inl rfl) (wQ (pv 4)) (fun C fp Zt s₂ H₂=>⟨pgn 0 Le,gn (bN wg (pX (K42P.ix_tupK (K:=K) rfl) (pX (K42P.ix_tupK (K:=K) rfl) (pX (K42P.ix_tupK (K:=K) rfl) (pv 1) aB) (pX (K42P.ix_tupK (K:=K) rfl) (pv 0) aB)) aB) (pv 2) (bQ _)),pv 0⟩) (fun C=>cI (cI trivial)) ⟨rfl,rfl,rfl,rfl⟩)⟩
     (dq ⟨bT zB4 rfl (dG (aK c3 hr (au (pv 0) (au (aP jw rfl To boot_sorted (au (pv 11) ao)) ao)))) (pgn 12 scOT.nd)
      (jk (aY (lA 13 scOT.nd ⟨aP (fX rfl) rfl Tn qw (au (pv 10) (au (fM (eQ hr) (pv 4) (pv 12) (fun _ _=>rfl)) ao))⟩)
      (dq ⟨cG (bW (au (aV eF (fM (eQ hr) (pv 4) (pv 12) (fun _ _=>rfl)) (pv 13)) (au (aV eF (pv 10) (pv 13)) ao))) (bK rfl (aq (qC (pv 4) (pv 12) (set_dict (eQ hr))) (aq (pgn 10 scOT.nd) aX)))⟩)))⟩))))⟩)))⟩
   (dq (v9 ⟨aP (cZ rfl) rfl Ts boot_sum (au (Hq (bG ["_law_one","_law_owing"] [none,some 4] rfl (wQ (pv 4)) (fun C fp Zt s₂ H₂=>⟨pgn 0 Lf,bu,fM (eQ hr) (pv 1) (pv 0) (fun _ _=>rfl)⟩) (fun C=>cI trivial) ⟨rfl,rfl,rfl,rfl⟩)) ao)⟩)))) ?_
  obtain⟨n,rfl⟩:∃n:Nat,y=n:=⟨y.toNat,Zz⟩
  rw[zAi]at q;refine aG (aW ?_);refine⟨_,rfl,bk,_,_,_,rfl,rfl,SqT.of B.e,rfl,_,rfl,bk,_,_,_,rfl,rfl,SqT.of B.e,rfl,ap,xp,ps,ah,xs,ss,rfl,B.rp,B.lp,B.okp,B.rs,by have:=B.ls;lia,B.h5,fun t fo H1 s1 et hd=>?_⟩;obtain⟨b,kvs,dt⟩:=hd B.un;refine⟨t,_,_,_,rfl,rfl,SqT.of et,rfl,fun lo cE=>⟨zL,fun tp uS=>?_⟩⟩
  have BN:eZ H1 st:=by
   obtain⟨a,b,e,r⟩:=fg;exact⟨a,b,s1 _ _ e,r⟩
  have Mj:=Ff BN dt;have BT:=CN BN (B.same s1);have sL:=Same.upd (o:=.dT []) cE;have sP:=Same.upd (o:=.tup [V.ref fo,V.ref lo]) uS;have eP:=aj (H:=upd H1 lo (.dT [])) (a:=tp) (o:=.tup [V.ref fo,V.ref lo])
  have O0:Ot (off H1 st) (upd (upd H1 lo (.dT [])) tp (.tup [V.ref fo,V.ref lo])) st lo []:=by
   obtain⟨x,y,e,r⟩:=BN
   have O5:lo≠st:=fun z=>by rw[z,e]at cE;cases cE
   exact⟨(off_same.trans sL).trans sP,Ia,by rw[kh O5];exact cE,⟨x,y,sP _ _ (sL _ _ e),r⟩,[],sP _ _ aj,List.Perm.refl _⟩
  refine⟨tp,_,rfl,SqT.of eP,rfl,?_⟩;generalize upd (upd H1 lo (.dT [])) tp (.tup [V.ref fo,V.ref lo])=H2 at O0⊢
  have fin:∀{Hc M},Ot (off H1 st) Hc st lo M->Dr st H Hc:=fun{Hc M} O=>⟨fun b o e n=>O.s _ _ (by rw[kh n];exact s1 _ _ e),O.sa⟩
  generalize off H1 st=T at O0 fin Mj BT;clear sL sP eP cE uS dt s1 et BN hd;refine⟨_,_,rfl,aH ⟨_,_,rfl,aH ⟨rfl,?_⟩⟩⟩;refine cD ?_;dsimp only;refine aG ?_;have lc:=B.lc;refine⟨_,rfl,_,_,rfl,rfl,(n:Int)+1,rfl,Zz,Zz,?_⟩;rw[show((n:Int)+1).toNat=n+1 by lia];refine cu (lo:=0) (fun j σ Hc=>∃x5 x6 x7 x8 x9 gS ff de df M,σ=[some (.ref st),some (.ref bk),some (.int n),some (.ref fo),some (.ref lo),x5,x6,x7,x8,x9,gS,ff,de,df]/\Ot T Hc st lo M/\OkM ps j 0 M/\∀t,Mono t 3->val (dlw cs ps ss) t j 3<=phi ps t M) ?_ ?_ ?_
  .exact⟨none,none,none,none,none,none,none,none,none,[],rfl,O0,OkM.nil,fun t _=>Int.le_refl _⟩
  .rintro j σ Hc hj ⟨x5,x6,x7,x8,x9,gS,ff,de,df,M,rfl,O,g,hv⟩;have hj:j<n+1:=hj;refine aH ?_;have z0:(0:Int)+(j:Int)=j:=Zz
   rw[z0];refine aG ?_;refine⟨3,rfl,by decide,by decide,?_⟩;refine cu (lo:=0) (fun s σ Hc=>∃x6 x7 x8 x9 gS ff de df M,σ=[some (.ref st),some (.ref bk),some (.int n),some (.ref fo),some (.ref lo),some (.int j),x6,x7,x8,x9,gS,ff,de,df]/\Ot T Hc st lo M/\OkM ps j s M/\∀t,Mono t 3->val (dlw cs ps ss) t j 3+cN ps ss t j s<=phi ps t M) ?_ ?_ ?_
   .exact⟨_,_,_,_,_,_,_,_,M,rfl,O,g,fun t mo=>by have:=hv t mo;show _+0<=_;lia⟩
   .rintro s σ Hc hs ⟨x6,x7,x8,x9,gS,ff,de,df,M,rfl,O,g,hv⟩;have hs:s<3:=hs;refine aH ?_;have z1:(0:Int)+(s:Int)=s:=Zz
    rw[z1];have Bc:=BT.same O.s;refine⟨_,rfl,bk,_,_,_,rfl,rfl,SqT.of Bc.e,rfl,_,rfl,_,rfl,_,rfl,ap,xp,ps,fo,_,b,kvs,ss,s,j,rfl,Bc.rp,B.lp,B.okp,Mj.same O.s,fun l xl H3 s3 nl el fm=>⟨l,rfl,⟨_,SqL.of el⟩,?_⟩⟩;have O3:=O.same s3;clear Bc s3
    obtain⟨cl,kB⟩:∃cl,cl=aF ps ss s j:=⟨_,rfl⟩
    rw[<-kB]at fm;have lT:=d7 (sort:=s) (year:=j) B.un B.h5 B.okp;rw[<-kB]at lT;have O9:xl.length=cl.length:=by rw[fm.1,zA1]
    refine gP (xs:=xl) (fun i σ Hi=>∃x7 x8 x9,σ=[some (.ref st),some (.ref bk),some (.int n),some (.ref fo),some (.ref lo),some (.int j),some (.int s),x7,x8,x9,gS,ff,de,df]/\Ot T Hi st lo (M++cl.take i)/\Hi l=some (.lst xl)/\Els Hi xl (cl.map List.tail)) ?_ ?_ ?_ ?_
    .exact⟨_,_,_,rfl,by rw[List.take_zero,zAn];exact O3,el,fm⟩
    .rintro i σ Hi hi ⟨x7,x8,x9,rfl,Oi,u7,nI⟩;exact SqL.of u7
    .rintro i x σ Hi hx ⟨x7,x8,x9,rfl,Oi,u7,nI⟩
     have hi:i<cl.length:=by
      have:=(zAa.mp hx).1;lia
     obtain⟨t,ex,et⟩:=nI.2 i cl[i].tail (by rw[zAb,zA0 hi];rfl);rw[hx]at ex;cases ex;have e4:=(lT _ (zAh hi)).1
     have Pa:cl[i].tail=[fl cl[i] 1,fl cl[i] 2,fl cl[i] 3]:=by
      conv=>lhs;rw[dI e4]
      rfl
     rw[Pa]at et;have Pb:fl cl[i] 0=j:=(fQ (by rw[<-kB];exact zAh hi)).1;obtain⟨Mo,f7,l8⟩:=Oi.mo;refine⟨t,_,rfl,SqT.of et,rfl,_,_,rfl,aH ⟨_,_,rfl,aH ⟨_,_,rfl,aH ⟨rfl,?_⟩⟩⟩⟩;refine⟨_,rfl,_,rfl,_,rfl,_,rfl,_,rfl,zL,fun tk vS=>⟨lo,_,rfl,DPut.t (k:=(keyOf cl[i]).map Sum.inl) (Same.upd vS _ _ f7) (by rw[aj];show some (HO.tup [V.int j,V.int (fl cl[i] 1),V.int (fl cl[i] 2)])=some (HO.tup [V.int (fl cl[i] 0),V.int (fl cl[i] 1),V.int (fl cl[i] 2)]);rw[Pb]) ?_,?_⟩⟩
     .have h1:=l8.length_eq;have h2:=g.len;have h3:=cC (ss:=ss) (sort:=s) (year:=j) B.lp;rw[<-kB]at h3;rw[zA2,zAd]at h1;rw[zA1,sizeLine_eq];lia
     .have sK:=Same.upd (o:=.tup [V.int j,V.int (fl cl[i] 1),V.int (fl cl[i] 2)]) vS;have dA:cl.take (i+1)=cl.take i++[cl[i]]:=by rw[zAj,zA0 hi];rfl
      have nd:=g.part (ss:=ss) B.un B.h5 B.okp (i+1);rw[<-kB,dA,<-zAf]at nd;rw[Fi l8 nd]
      have kp:∀{c:Addr} {u:HO},c≠lo->Hi c=some u->upd (upd Hi tk (.tup [V.int j,V.int (fl cl[i] 1),V.int (fl cl[i] 2)])) lo (.dT ((Mo++[cl[i]]).map kvR)) c=some u:=fun{c u} n e=>by
       rw[az n];exact sK _ _ e
      refine⟨_,_,_,rfl,(Oi.same sK).put (by rw[dA,<-zAf];exact l8.append_right _),kp (fun z=>by rw[z,f7]at u7;cases u7) u7,nI.keep fun c z e=>kp (fun w=>by rw[w,f7]at e;cases e) e⟩
    .rintro σ Hi ⟨x7,x8,x9,rfl,Oi,u7,nI⟩;rw[O9,zAm,kB]at Oi;refine⟨_,_,_,_,_,_,_,_,_,rfl,Oi,g.claims B.un B.h5 B.okp B.lp,fun t mo=>?_⟩;rw[sE,HY];have:=hv t mo;show _+(cN ps ss t j s+_)<=_;lia
   .rintro σ Hc ⟨x6,x7,x8,x9,gS,ff,de,df,M,rfl,O,g,hv⟩;dsimp only;refine⟨_,rfl,zL,fun l3 Ml=>?_⟩;have s3:=Same.upd (o:=.lst [V.int 0,V.int 1,V.int 2]) Ml;have O3:=O.same s3;refine⟨st,l3,_,rfl,O3.sa,aj,(by show 3<=10000;decide),fun m ms H4 dr nm em pm=>⟨m,rfl,⟨_,SqL.of em⟩,?_⟩⟩;have O4:=O3.dr dr
    have sA:m≠st:=fun z=>by
     obtain⟨a,b,e,_⟩:=O3.sa;rw[z,e]at nm;cases nm
    clear dr nm s3 O3 Ml O;refine gP (xs:=ms) (fun i σ Hi=>∃x6 gS ff de df M,σ=[some (.ref st),some (.ref bk),some (.int n),some (.ref fo),some (.ref lo),some (.int j),x6,x7,x8,x9,gS,ff,de,df]/\Ot T Hi st lo M/\OkM ps j 3 M/\Hi m=some (.lst ms)/\∀t,Mono t 3->val (dlw cs ps ss) t j 3+cN ps ss t j 3-wD cs t j ((ms.take i).map toN)<=phi ps t M) ?_ ?_ ?_ ?_
    .exact⟨_,_,_,_,_,M,rfl,O4,g,em,fun t mo=>by have h:_+cN ps ss t j 3<=_:=hv t mo;rw[List.take_zero];show _-0<=_;lia⟩
    .rintro i σ Hi hi ⟨x6,gS,ff,de,df,M,rfl,Oi,gi,BO,BQ⟩;exact SqL.of BO
    .rintro i x σ Hi hx ⟨x6,gS,ff,de,df,M,rfl,Oi,gi,BO,BQ⟩
     obtain⟨s,hs,rfl⟩:∃s:Nat,s<3/\x=.int s:=by
      have:=pm.mem_iff.mp (zB8 hx);rcases zAo.mp this with z|z
      .exact⟨0,by decide,z⟩
      rcases zAo.mp z with z|z
      .exact⟨1,by decide,z⟩
      .exact⟨2,by decide,List.mem_singleton.mp z⟩
     refine aH ?_;have Bc:=BT.same Oi.s;have AS:j<cs.length:=Zz
     obtain⟨tc,ex,et⟩:=Bc.rc.g j cs[j] (zA0 AS);have l3:=(B.okc _ (zAh AS)).1
     have hw:(cs[j].map V.int)[s]?=some (.int (wF cs s j)):=by
      unfold wF;rw[zAb,getD_get AS];unfold fl;rw[zA7,zA0 Zz];rfl
     refine aG (aW ?_);refine⟨_,rfl,bk,_,_,_,rfl,rfl,SqT.of Bc.e,rfl,_,rfl,ac,_,j,.ref tc,rfl,rfl,SqT.of Bc.rc.e,di ex,_,rfl,tc,_,s,.int (wF cs s j),rfl,rfl,SqT.of et,di hw,?_⟩;refine aH (cD ?_);dsimp only;obtain⟨Mo,f7,l8⟩:=id Oi.mo
     have cE:Mo.length<=10000:=by
      have:=l8.length_eq;have:=gi.len;lia
     refine aG ?_;refine⟨lo,_,f7,fun o=>?_⟩;have ez:=aj (H:=Hi) (a:=lo) (o:=.frz o (.dT (Mo.map kvR)))
     have sz:∀b u,b≠lo->Hi b=some u->upd Hi lo (.frz o (.dT (Mo.map kvR))) b=some u:=fun b u n e=>by
      rw[az n];exact e
     generalize upd Hi lo (.frz o (.dT (Mo.map kvR)))=Hz at ez sz⊢;have tz:∀{Hd:Hp},Same Hz Hd->∀b z,Hi b=some (.tup z)->Hd b=some (.tup z):=fun{Hd} sd b z e=>sd _ _ (sz _ _ (fun w=>by rw[w,f7]at e;cases e) e);refine⟨_,rfl,lo,o,_,rfl,ez,fD Mo.length (fun q ys σ Hd=>Same Hz Hd/\(∃o1,σ=[o1,some (.ref bk),some (.int s)])/\Els Hd ys (((Mo.take q).filter fun r=>decide ((s:Int)<=bz ps r)).map keyOf)) ⟨Same.refl _,⟨_,rfl⟩,Els.nil⟩ Zu ?_ ?_⟩
     .rintro q ys σ Hd hq hy ⟨sd,⟨o1,rfl⟩,va⟩;have Fu:=gi.ok Mo[q] (l8.mem_iff.mp (zAh hq));obtain⟨p,hp,ep,op⟩:=f9 B.okp Fu.2.1 Fu.2.2.1;obtain⟨tp,fy,fk⟩:=fP Bc.rp Fu.2.1 hp;rw[dH op.1]at fk;have es:bz ps Mo[q]=fl p 1:=by unfold bz;rw[ep]
      have dA:((Mo.take (q+1)).filter fun r=>decide ((s:Int)<=bz ps r)).map keyOf=((Mo.take q).filter fun r=>decide ((s:Int)<=bz ps r)).map keyOf++(if(s:Int)<=fl p 1 then[keyOf Mo[q]]else[]):=by
       rw[zAj,zA0 hq,show(some Mo[q]).toList=[Mo[q]]from rfl,List.filter_append,zA4];congr 1;by_cases h:(s:Int)<=fl p 1
       .rw[zAx h,zBe (by rw[es];exact zAu h)];rfl
       .rw[zAw h,zBd (by rw[es,Zq];exact h)];rfl
      refine⟨⟨sd _ _ ez,by rw[zA1];exact hq⟩,fun x H' yv R hR=>?_⟩;obtain⟨rfl,bb,kk,vv,rfl,AR,uu⟩:=yv;rw[zAb,zA0 hq]at AR;cases AR;have uu:H' bb=some (.tup [.int (fl Mo[q] 0),.int (fl Mo[q] 1),.int (fl Mo[q] 2)]):=uu;refine aH ?_;refine⟨_,rfl,bk,_,1,.ref ap,rfl,rfl,SqT.of (tz sd _ _ Bc.e),rfl,_,rfl,bb,_,1,.int (fl Mo[q] 1),rfl,rfl,SqT.of uu,rfl,ap,xp,_,.ref tp,rfl,rfl,SqT.of (tz sd _ _ Bc.rp.e),fy,tp,_,1,.int (fl p 1),rfl,rfl,SqT.of (tz sd _ _ fk),rfl,_,rfl,_,_,rfl,rfl,_,rfl,?_⟩;by_cases h:fl p 1≥(s:Int)
      .rw[zAu h];refine bV ⟨_,rfl,hR _ _ _ (by rw[zA2];show ys.length+1<=q+1;lia) ⟨sd,⟨_,rfl⟩,?_⟩⟩;rw[dA,zAx h];exact va.app (Els.one uu)
      .rw[zB5 h];refine bO (hR _ _ _ Zz ⟨sd,⟨_,rfl⟩,?_⟩);rw[dA,zAw h,zAn];exact va
     rintro ys σ Hd hy ⟨sd,_,va⟩;rw[zAm]at va;refine⟨⟨sd _ _ ez,by rw[zA1];exact zA3 _⟩,fun D hD=>⟨Same.upd hD _ _ (sd _ _ ez),?_⟩⟩
     have nD:D≠lo:=fun z=>by rw[z,sd _ _ ez]at hD;cases hD
     have S6:Same Hi (upd (upd Hd D (.lst ys)) lo (.dT (Mo.map kvR))):=fun b u e=>by
      by_cases hb:b=lo
      .subst hb;rw[f7]at e;cases e;exact aj
      .rw[az hb];exact Same.upd hD _ _ (sd _ _ (sz _ _ hb e))
     have eD:upd (upd Hd D (.lst ys)) lo (.dT (Mo.map kvR)) D=some (.lst ys):=by rw[az nD];exact aj
     have gN:Els (upd (upd Hd D (.lst ys)) lo (.dT (Mo.map kvR))) ys ((Mo.filter fun r=>decide ((s:Int)<=bz ps r)).map keyOf):=va.keep fun b l e=>by
      rw[az (fun w=>by rw[w,sd _ _ ez]at e;cases e)];exact Same.upd hD _ _ e
     generalize upd (upd Hd D (.lst ys)) lo (.dT (Mo.map kvR))=H6 at S6 eD gN⊢;clear va sd sz tz ez hD;dsimp only;have O6:=Oi.same S6;have Mm:=S6 _ _ BO
     have Pc:ys.length<=10000:=by
      have:=List.length_filter_le (fun r=>decide ((s:Int)<=bz ps r)) Mo;rw[gN.1,zA1];lia
     obtain⟨ads,ey,CM,BU⟩:=lN gN;subst ey
     have FA:∀a∈ads,∃r∈Mo,(s:Int)<=bz ps r/\H6 a=some (.tup ((keyOf r).map V.int)):=fun a ha=>by
      have h1:j5 H6 a∈(Mo.filter fun r=>decide ((s:Int)<=bz ps r)).map keyOf:=by rw[CM];exact List.mem_map_of_mem ha
      obtain⟨r,hr,e⟩:=zA5.mp h1;have h2:=zAq.mp hr;exact⟨r,h2.1,zB6 h2.2,by rw[e];exact BU a ha⟩
     refine⟨_,rfl,_,rfl,D,ads,j5 H6,rfl,SqL.of eD,fun a ha=>⟨SqT.of (BU a ha),fun z=>?_⟩,fun q' l' hq AH ED=>?_⟩
     .obtain⟨r,_,_,e⟩:=FA a ha;rw[BU a ha,z]at e;cases e
     have s7:=Same.upd (o:=.lst (l'.map V.ref)) hq;have O7:=O6.same s7;have Mp:=s7 _ _ Mm;have ll:=AH.length_eq;refine⟨st,q',_,rfl,O7.sa,aj,(by rw[zA1]at Pc⊢;lia),fun m2 BY H8 B0 Pd Mq Pe=>⟨m2,rfl,⟨_,SqL.of Mq⟩,?_⟩⟩;have O8:=O7.dr B0;have Pf:=B0.bt _ _ Mp sA
     have Pg:∀x∈BY,∃a r,x=.ref a/\r∈Mo/\(s:Int)<=bz ps r/\H8 a=some (.tup ((keyOf r).map V.int)):=fun x hx=>by
      obtain⟨a,ha,rfl⟩:=zA5.mp (Pe.mem_iff.mp hx);obtain⟨r,hr,cm,e⟩:=FA a (AH.mem_iff.mp ha);have e7:=s7 _ _ e;exact⟨a,r,rfl,hr,cm,B0.bt _ _ e7 (qu O7.sa e7 fun _ z=>by cases z)⟩
     have w0:0<=wF cs s j:=by
      unfold wF;rw[getD_get AS];unfold fl;rw[zA7,zA0 Zz];exact(B.okc _ (zAh AS)).2 _ (zAh _)
     clear B0 Pd O7 s7 O6 S6 eD gN BU FA CM hq ED ll Mp Mm
     refine gP (xs:=BY) (fun k σ Hk=>∃de df M' w,σ=[some (.ref st),some (.ref bk),some (.int n),some (.ref fo),some (.ref lo),some (.int j),some (.int s),x7,x8,x9,some (.int w),some (.ref D),de,df]/\Ot T Hk st lo M'/\OkM ps j 3 M'/\(∀r∈Mo,∃r'∈M',keyOf r'=keyOf r)/\Hk m=some (.lst ms)/\Hk m2=some (.lst BY)/\(∀x∈BY,∃a r,x=.ref a/\r∈Mo/\(s:Int)<=bz ps r/\Hk a=some (.tup ((keyOf r).map V.int)))/\0<=w /\
      ∀t,Mono t 3->val (dlw cs ps ss) t j 3+cN ps ss t j 3-wD cs t j ((ms.take i).map toN)-(if t s<=j then wF cs s j-w else 0)<=phi ps t M') ?_ ?_ ?_ ?_
     .exact⟨_,_,M,wF cs s j,rfl,O8,gi,fun r hr=>⟨r,l8.mem_iff.mp hr,rfl⟩,Pf,Mq,Pg,w0,fun t mo=>by
       have:=BQ t mo;rw[Int.sub_self]
       split<;>lia⟩
     .rintro k σ Hk hk ⟨de,df,M',w,rfl,Ok,gk,kk,ve,ki,B9,h0,Cb⟩;exact SqL.of ki
     .rintro k x σ Hk hx ⟨de,df,M',w,rfl,Ok,gk,kk,ve,ki,B9,h0,Cb⟩;obtain⟨a,r,rfl,hr,T6,ea⟩:=B9 x (zB8 hx);obtain⟨r',fq,ek⟩:=kk r hr;obtain⟨A',B',rfl⟩:=List.append_of_mem fq;have FC:Hk a=some (.tup ((keyOf r').map V.int)):=by rw[ek];exact ea
      refine aH (aG ?_);refine aW ?_;refine⟨_,rfl,_,rfl,_,rfl,lo,.int (fl r' 3),rfl,Ok.mo.get gk.kd fq FC,_,_,rfl,?_⟩;have r3:=(gk.ok r' fq).2.2.2.1;have k1:(if fl r' 3<w then fl r' 3 else w)<=fl r' 3:=by split<;>lia
      have k2:(if fl r' 3<w then fl r' 3 else w)<=w:=by split<;>lia
      have k0:0<=(if fl r' 3<w then fl r' 3 else w):=by split<;>lia
      generalize(if fl r' 3<w then fl r' 3 else w)=y at k0 k1 k2⊢;refine aH (cD ?_);dsimp only;obtain⟨Mk,ix,Mr⟩:=id Ok.mo;obtain⟨Mn,Ph,Pj⟩:=zc (x:=fl r' 3-y) Mr gk.kd;refine aW ?_;refine⟨_,rfl,_,rfl,lo,.int (fl r' 3),rfl,Ok.mo.get gk.kd fq FC,_,rfl,_,_,rfl,rfl,_,rfl,_,rfl,_,_,rfl,rfl,zL,fun tp uS=>?_⟩;have sP:=Same.upd (o:=.tup [V.int (fl r' 3-y),V.int (w-y)]) uS;have eP:=aj (H:=Hk) (a:=tp) (o:=.tup [V.int (fl r' 3-y),V.int (w-y)]);refine⟨tp,_,rfl,SqT.of eP,rfl,_,_,rfl,_,rfl,_,rfl,lo,_,rfl,DPut.t (k:=(keyOf r').map Sum.inl) (sP _ _ ix) (by rw[sP _ _ FC,zAr];rfl) ?_,_,_,rfl,aH ⟨rfl,?_⟩⟩
      .have h1:=Mr.length_eq;have h2:=gk.len;rw[zA1,sizeLine_eq];lia
      rw[Ph]
      have kp:∀{c:Addr} {u:HO},c≠lo->Hk c=some u->upd (upd Hk tp (.tup [V.int (fl r' 3-y),V.int (w-y)])) lo (.dT (Mn.map kvR)) c=some u:=fun{c u} n e=>by
       rw[az n];exact sP _ _ e
      have ks:0<=bz ps r'/\bz ps r'<3:=EY B.okp (gk.ok r' fq).2.1 (gk.ok r' fq).2.2.1
      have es:bz ps r'=bz ps r:=by
       unfold keyOf at ek;injection ek with _ ek;injection ek with ek _;unfold bz;rw[ek]
      refine⟨_,_,_,w-y,rfl,(Ok.same sP).put Pj,gk.set k1,fun q hq=>?_,kp (fun z=>by rw[z,ix]at ve;cases ve) ve,kp (fun z=>by rw[z,ix]at ki;cases ki) ki,fun x hx=>?_,Zz,fun t mo=>?_⟩
      .obtain⟨q',Fn,e⟩:=kk q hq;rcases zA6.mp Fn with z|z
       .exact⟨q',zA6.mpr (.inl z),e⟩
       .rcases zAo.mp z with z|z
        .subst z;exact⟨_,zA6.mpr (.inr (.head _)),e⟩
        .exact⟨q',zA6.mpr (.inr (.tail _ z)),e⟩
      .obtain⟨a2,r2,e1,e2,e3,e4⟩:=B9 x hx;exact⟨a2,r2,e1,e2,e3,kp (fun z=>by rw[z,ix]at e4;cases e4) e4⟩
      .have h:=Cb t mo
       have yr:fl r' 0<=j:=by
        rcases gk.yr r' fq with z|z<;>lia
       have p:=Fb (A:=A') (B:=B') (ps:=ps) (t:=t) (s:=s) (j:=j) (k:=y) mo Zz ks.2 (gk.ok r' fq).2.2.2.2 yr k0;refine Int.le_trans ?_ p;split at h<;>split<;>lia
     .rintro σ Hk ⟨de,df,M',w,rfl,Ok,gk,kk,ve,ki,B9,h0,Cb⟩;refine⟨_,_,_,_,_,M',rfl,Ok,gk,ve,fun t mo=>?_⟩;have h:=Cb t mo
      have e:wD cs t j ((ms.take (i+1)).map toN)=wD cs t j ((ms.take i).map toN)+(if t s<=j then wF cs s j else 0):=by
       unfold wD;rw[zAj,hx,zA4,zA4,List.sum_append];show _+((if t ((s:Int).toNat)<=j then wF cs ((s:Int).toNat) j else 0)+0)=_;rw[zAi,Int.add_zero]
      rw[e];split at h<;>split<;>lia
    .rintro σ Hi ⟨x6,gS,ff,de,df,M,rfl,Oi,gi,BO,BQ⟩;refine⟨_,_,_,_,_,_,_,_,_,M,rfl,Oi,gi.next,fun t mo=>?_⟩;have h:=BQ t mo;rw[Cw];rw[zAm]at h;have e:wD cs t j (ms.map toN)=wD cs t j [0,1,2]:=BV ((pm.map toN).map _);rw[e]at h;exact h
  .rintro σ Hc ⟨x5,x6,x7,x8,x9,gS,ff,de,df,M,rfl,O,g,hv⟩;dsimp only;refine gw ?_;obtain⟨Mo,f7,l8⟩:=id O.mo;have gl:=g.len;have pl:=l8.length_eq
   refine Fg rfl f7 ((l8.map keyOf).nodup_iff.mpr g.kd) Zz fun D H5 s5 eD=>⟨D,wts Mo,rfl,.inl (SqL.of eD),?_⟩
   refine q _ _ (fin (O.same s5)) ?_;have:=Fd B.bko (fun r hr=>(g.ok r hr).2.2.2.1) hv;rw[<-nM l8]at this;exact this
structure TB(H:Hp)(bk ac:Addr)(xc:List V)(cs:List (List Int))(ap:Addr)(xp:List V)(ps:List (List Int))(ah:Addr)(xs:List V)(ss:List (List Int)):Prop where
 b:BookAt H bk ac xc cs ap xp ps ah xs ss
 okc:∀r∈cs,okC r
 lc1:1<=cs.length
section
variable{H H':Hp}{bk ac:Addr}{xc:List V}{cs:List (List Int)}{ap:Addr}{xp:List V}{ps:List (List Int)}{ah:Addr}{xs:List V}{ss:List (List Int)}
theorem TB.same(h:TB H bk ac xc cs ap xp ps ah xs ss)(s:Same H H'):TB H' bk ac xc cs ap xp ps ah xs ss:=⟨h.b.same s,h.okc,h.lc1⟩
theorem TB.keep(h:TB H bk ac xc cs ap xp ps ah xs ss)(k:∀b l,H b=some (.tup l)->H' b=some (.tup l)):TB H' bk ac xc cs ap xp ps ah xs ss:=⟨⟨k _ _ h.b.e,h.b.rc.keep k,h.b.okc,h.b.lc,h.b.rp.keep k,h.b.lp,h.b.okp,h.b.rs.keep k,h.b.ls,h.b.h5,h.b.un⟩,h.okc,h.lc1⟩
theorem TB.bko(h:TB H bk ac xc cs ap xp ps ah xs ss):BkO cs ps ss:=⟨h.b.okc,h.b.lp,h.b.un,h.b.h5,h.b.okp⟩
theorem TB.th(h:TB H bk ac xc cs ap xp ps ah xs ss):IsTh (fun _=>False) H (.ref bk) (.tuple [bY cs,bY ps,bY ss]):=.tup h.b.e (.cons h.b.rc.th (.cons h.b.rp.th (.cons h.b.rs.th .nil)))
theorem TB.sz(h:TB H bk ac xc cs ap xp ps ah xs ss):L2.sz (.tuple [bY cs,bY ps,bY ss])<=4000:=by
 show 1+((1+szs (cs.map cT))+((1+szs (ps.map cT))+((1+szs (ss.map cT))+0)))<=4000;rw[jF (k:=3) fun r hr=>(h.okc r hr).1,jF (k:=6) fun r hr=>(h.b.okp r hr).1,jF (k:=5) h.b.h5];have:=h.b.lc;have:=h.b.lp;have:=h.b.ls;lia
theorem TB.ok(h:TB H bk ac xc cs ap xp ps ah xs ss):jB (.tuple [bY cs,bY ps,bY ss])=true:=Es h.lc1 h.b.lc h.okc h.b.lp h.b.okp h.b.ls h.b.h5 h.b.un
end
inductive SpLawI(K:Frag)(vs:List V)(H:Hp)(Q:VK):Prop
 |mk:∀(a:Addr) (ns:List Int),(vs=[.ref a])->(SqL K H a (ns.map V.int))->(ns.length<=63)->(∀H',Q (.bl true) H')->SpLawI K vs H Q
def xV(K:Frag):Sp:=fun vs H Q _=>SpLawI K vs H Q
theorem zj:bootBuiltins "max"=some (.builtin "max"):=by decide +kernel
theorem zm:bootBuiltins "tuple"=some (.type "tuple"):=by decide +kernel
theorem Lg:(["_law_sort","_law_state_here","_law_year"]:List Str).Nodup:=by decide +kernel
theorem scLI:FnScope ["_law_script","_law_k","_law_state_here","_law_book_here","_law_turn","_law_year","_law_least","_law_again","_law_paper"] ["_law_script"] (aM (top 81)):=fQS
theorem Ig(F:Fun K "law" "law" (top 81) f fd)(T:Mg mg)(Tr:mg "range"=none)(Tm:mg "max"=none)(Tn:mg "min"=none)
  (c0:Cal P w K mg base 1 "_law_take" ["_law_state_here","_law_many"] iV) (c1:Cal P w K mg base 2 "_law_state" ["_law_script","_law_k"] (wU K)) (c2:Cal P w K mg base 4 "_law_book" ["_law_state_here","_law_years","_law_most","_law_sales_here"] xG) (c3:Cal P w K mg base 12 "lack_by" ["book","year"] (yX BX)) (c4:Cal P w K mg base 9 "shown_by" ["book","year","paper"] Cd) (c5:Cal P w K mg base 13 "paper_of" ["book","year"] Gh) (c6:Cal P w K mg base 3 "_law_other" ["_law_state_here","_law_book_here","_law_year"] xU):FnOk P w K mg base CX0 63 f fd ["_law_script"] (xV K):=by
 refine F.ok scLI (fun vs H Q E h=>?_) (fun ax A outer s H vs Q E hr h=>?_)
 .obtain⟨a,ns,rfl,_⟩:=h;rfl
 .obtain⟨a,ns,rfl,hS,hl,q⟩:=h
  refine K42P.ok_b (aY ⟨bT zB4 rfl (aZ rfl Tr (au (aP (oY rfl) rfl Tm zj (au aB (au (aP (fX rfl) rfl Tn qw (au (aP bC rfl T.len PySem.boot_len (au (pv 0) ao)) (au aB ao))) ao))) ao)) (pgn 1 scLI.nd)
   (jk (aY (v8 (i:=2) scLI.nd rfl (Or.inr rfl) ⟨aK c1 hr (au (pv 0) (au (pv 1) ao))⟩)
   (aY (lA 3 scLI.nd ⟨aK c2 hr (au (pv 2) (au aB (au aB (au aB ao))))⟩)
   (dq ⟨bT zB4 rfl (aZ rfl Tr (au aB ao)) (pgn 4 scLI.nd)
    (jk (aY (v8 (i:=5) scLI.nd rfl (Or.inr rfl) ⟨pX c7 (cj (au (aK c0 hr (au (pv 2) (au (aP bC rfl T.len PySem.boot_len (au (pX bL (pv 3) aB) ao)) ao))) (au (aV eF (aP bC rfl T.len PySem.boot_len (au (pX bL (pv 3) aB) ao)) aB) ao))) (aV fV (pv 4) aB)⟩)
    (aY (lA 6 scLI.nd ⟨aK c3 hr (au (pv 3) (au (pv 5) ao))⟩)
    (aY ⟨cQ (PW.pt (sO (bN Fp (aK c4 hr (au (pv 3) (au (pv 5) (au (aK c5 hr (au (pv 3) (au (pv 5) ao))) ao)))) (pv 6) (bQ _)) (uN (bN km (aK c6 hr (au (pv 2) (au (pv 3) (au (pv 5) ao)))) (pv 6) (bQ _))))) (aD (aQ j8)) bB⟩
    (dq ⟨bT zB4 rfl (aZ rfl Tr (au aB ao)) (pgn 7 scLI.nd)
     (jk (aY (lA 8 scLI.nd ⟨cH cB rfl T.tuple zm (au (bG ["_law_sort","_law_state_here","_law_year"] [none,some 2,some 5] rfl (aZ rfl Tr (au aB ao)) (fun C fp Zt s₂ H₂=>⟨pgn 0 Lg,bu,aK c0 hr (au (pv 1) (au (aV bj (pv 2) aB) ao))⟩) (fun C=>cI (cI trivial)) ⟨rfl,rfl,rfl,rfl⟩) ao)⟩)
     (dq ⟨cQ (bN mj (aK c4 hr (au (pv 3) (au (pv 5) (au (pv 8) ao)))) (pv 6) (bQ _)) (aD (aQ j8)) bB⟩)))⟩)))))⟩))))⟩
   (dq (v9 J8))) ?_
  refine aG ?_;have ml:(ns.map V.int).length<=63:=by rw[zA1];exact hl
  refine⟨_,rfl,a,_,rfl,.inl hS,_,_,rfl,_,_,rfl,_,rfl,?_,?_,?_⟩
  .split<;>split<;>lia
  .split<;>split<;>lia
  refine cu (lo:=0) (fun i σ Hc=>∃x1 x2 x3 x4 x5 x6 x7 x8,σ=[some (.ref a),x1,x2,x3,x4,x5,x6,x7,x8]/\Same H Hc) ?_ ?_ ?_
  .exact⟨none,none,none,none,none,none,none,none,rfl,Same.refl H⟩
  .rintro i σ H1 hi ⟨x1,x2,x3,x4,x5,x6,x7,x8,rfl,s1⟩;refine aH (aG ?_);refine aW ?_;refine⟨_,rfl,_,rfl,a,ns,_,rfl,s1.seq hS,Zz,fun st x y hn D5 Pk si=>?_⟩;have sA:H st=none:=s1.free hn
   have g1:eZ (upd H1 st (.lst [.int x,.int y])) st:=⟨x,y,aj,D5,Pk,si⟩
   have s2:Same H (upd H1 st (.lst [.int x,.int y])):=s1.updR hn;generalize upd H1 st (.lst [.int x,.int y])=H2 at g1 s2⊢;refine aH ?_;dsimp only;have sN:∀{H3},Dr st H2 H3->Same H H3:=fun d b o e=>d.bt b o (s2 _ _ e) (aC e sA);refine aG (aW ?_);refine⟨_,rfl,st,10,8,4,rfl,g1,by decide,by decide,by decide,by decide,by decide,by decide,fun bk ac xc cs ap xp ps ah xs ss H3 d3 eb rc lc1 LW okc rp lp okp rs ls c9 sC=>?_⟩
   have B3:TB H3 bk ac xc cs ap xp ps ah xs ss:=⟨⟨eb,rc,fun r hr=>⟨(okc r hr).1,fun x hx=>((okc r hr).2 x hx).1⟩,Zz,rp,Zz,okp,rs,Zz,fun s hs=>(c9 s hs).1,sC⟩,okc,lc1⟩
   clear eb rc rp rs c9 okp okc;refine aH ?_;dsimp only;refine⟨3,rfl,by decide,by decide,?_⟩;refine cu (lo:=0) (fun j σ Hc=>∃x4 x5 x6 x7 x8,σ=[some (.ref a),some (.int (0+i)),some (.ref st),some (.ref bk),x4,x5,x6,x7,x8]/\Dr st H3 Hc) ?_ ?_ ?_
   .exact⟨_,_,_,_,_,rfl,⟨But.refl,d3.sa⟩⟩
   .rintro j σ Hc hj ⟨x4,x5,x6,x7,x8,rfl,dc⟩;have hj:j<3:=hj;have Bc:=B3.keep fun b l e=>dc.tup d3.sa e;refine aH (aG ?_);refine aW ?_;have lx:xc.length=cs.length:=B3.b.rc.l;have Pl:=B3.b.lc;have Pm:=B3.lc1;refine⟨_,rfl,_,rfl,bk,_,0,.ref ac,rfl,rfl,SqT.of Bc.b.e,rfl,ac,xc,rfl,.inr (SqT.of Bc.b.rc.e),?_⟩;refine⟨st,_,rfl,dc.sa,Zz,Zz,fun r a' b' r0 r1 a0 b0 b1=>?_⟩;have d4:=dc.take a0 b0 b1;generalize upd Hc st (.lst [.int a',.int b'])=H4 at d4⊢;have B4:=B3.keep fun b l e=>d4.tup d3.sa e;refine⟨_,rfl,bk,_,0,.ref ac,rfl,rfl,SqT.of B4.b.e,rfl,ac,xc,rfl,.inr (SqT.of B4.b.rc.e),_,_,rfl,rfl,zL,fun ly Ms=>?_⟩;have d5:=d4.new (o:=.lst [V.int r,V.int ((xc.length:Int)-1)]) Ms;have e5:=aj (H:=H4) (a:=ly) (o:=.lst [V.int r,V.int ((xc.length:Int)-1)]);generalize upd H4 ly (.lst [V.int r,V.int ((xc.length:Int)-1)])=H5 at d5 e5⊢;clear Ms B4 d4;have B5:=B3.keep fun b l e=>d5.tup d3.sa e
    obtain⟨y,hy,y0,y1⟩:∃y:Int,atI [V.int r,V.int ((xc.length:Int)-1)] ((0+(j:Int)) % 2)=some (.int y)/\0<=y/\y<cs.length:=by
     rcases(show j=0\/j=1\/j=2 by lia)with z|z|z
     .subst z;exact⟨r,rfl,r0,Zz⟩
     .subst z;exact⟨(xc.length:Int)-1,rfl,Zz,Zz⟩
     .subst z;exact⟨r,rfl,r0,Zz⟩
    refine⟨_,rfl,_,_,rfl,rfl,(show(0:Int)<2 by decide),ly,_,_,.int y,rfl,rfl,SqL.of e5,hy,?_⟩;refine aH ?_;dsimp only;refine aG (aW ?_);refine⟨_,rfl,_,rfl,fun _=>False,bk,y,_,ac,xc,cs,ap,xp,ps,ah,xs,ss,rfl,B5.th,B5.sz,B5.ok,B5.b,y0,y1,fun H6 s6=>?_⟩;refine aH ?_;dsimp only;have B6:=B5.same s6;have d6:=d5.same s6
    obtain⟨lk,jv⟩:∃lk,lk=aN (dF cs ps ss (y.toNat+1)):=⟨_,rfl⟩
    rw[<-jv];refine aG ?_;refine⟨_,rfl,_,rfl,_,rfl,_,rfl,fun _=>False,bk,y,_,ac,xc,cs,ap,xp,ps,ah,xs,ss,rfl,B6.th,B6.sz,B6.ok,B6.b,y0,y1,fun t p H7 s7 et okp zt=>?_⟩;have B7:=B6.same s7;refine⟨fun _=>False,bk,y,t,p,_,ac,xc,cs,ap,xp,ps,ah,xs,ss,rfl,B7.th,B7.sz,B7.ok,B7.b,y0,y1,et,okp,fun H8 s8=>⟨_,rfl,rfl,_,rfl,?_⟩⟩;rw[zt,<-jv,decide_eq_true rfl];refine bO ?_;have B8:=B7.same s8;have d8:=(d6.same s7).same s8;refine⟨_,rfl,_,rfl,_,rfl,st,bk,y,ac,xc,cs,ap,xp,ps,ah,xs,ss,rfl,d8.sa,B8.b,y0,y1,fun x H9 d9 hx=>⟨_,rfl,_,_,rfl,rfl,_,rfl,?_⟩⟩;rw[<-jv]at hx;rw[decide_eq_false (show¬x<lk by lia)];refine bO ?_;have Pn:=d8.trans d9;clear d9 hx et zt okp B8 B7 B6 B5 s6 s7 s8 d8 d6 d5 e5 Bc dc hy;dsimp only;refine⟨4,rfl,by decide,by decide,?_⟩;refine cu (lo:=0) (fun k σ Hk=>∃x7 x8,σ=[some (.ref a),some (.int (0+i)),some (.ref st),some (.ref bk),some (.int (0+j)),some (.int y),some (.int lk),x7,x8]/\Dr st H3 Hk) ?_ ?_ ?_
    .exact⟨_,_,rfl,Pn⟩
    .rintro k σ Hk hk ⟨x7,x8,rfl,dk⟩;refine aH (aG ?_);refine aW ?_;refine⟨3,rfl,by decide,by decide,bZ 3 (fun i ys σ Hd=>Dr st H3 Hd/\(∃o1,σ=[o1,some (.ref st),some (.int y)])/\∃ns:List Int,ys=ns.map V.int/\∀x∈ns,0<=x/\x<=y+1) ⟨dk,⟨_,rfl⟩,[],rfl,fun x hx=>by cases hx⟩ (by rw[sizeLine_eq];decide) ?_ ?_⟩
     .rintro q ys σ Hd hq FD ⟨dd,⟨o1,rfl⟩,ns,rfl,hn⟩;refine⟨hq,fun v H' y' R hR=>?_⟩;obtain⟨eH,rfl⟩:=y';subst H';refine aH ?_;refine⟨_,rfl,_,rfl,_,_,rfl,rfl,st,_,rfl,dd.sa,Zz,Zz,fun r a' b' r0 r1 a0 b0 b1=>hR _ _ _ ⟨dd.take a0 b0 b1,⟨_,rfl⟩,ns++[r],by rw[zA4];rfl,fun x hx=>?_⟩⟩;rcases zA6.mp hx with z|z
      .exact hn x z
      .rw[List.mem_singleton.mp z];lia
     rintro ys σ Hd FD ⟨dd,_,ns,rfl,hn⟩;rw[zA1]at FD;refine⟨by show _<=3;decide,fun D hD=>⟨D,_,rfl,.inl ⟨SqL.of aj,fun tp uS=>?_⟩⟩⟩;have FE:=(dd.new (o:=.lst (ns.map V.int)) hD).new (o:=.tup (ns.map V.int)) uS;have et:=aj (H:=upd Hd D (.lst (ns.map V.int))) (a:=tp) (o:=.tup (ns.map V.int));generalize upd (upd Hd D (.lst (ns.map V.int))) tp (.tup (ns.map V.int))=He at FE et⊢;refine aH ?_;dsimp only;have Be:=B3.keep fun b l e=>FE.tup d3.sa e
     have okp:su y ns:=⟨FD,hn⟩
     refine⟨_,rfl,_,rfl,_,rfl,fun _=>False,bk,y,tp,ns,_,ac,xc,cs,ap,xp,ps,ah,xs,ss,rfl,Be.th,Be.sz,Be.ok,Be.b,y0,y1,et,okp,fun H' s'=>⟨_,rfl,_,_,rfl,rfl,_,rfl,?_⟩⟩;have le:=shown_le (Y:=y.toNat) Be.bko (by rw[Int.toNat_of_nonneg y0];exact okp);rw[<-jv]at le;rw[zB5 (show¬lk<iw cs ps ss y.toNat ns by lia)];refine bO ?_;exact⟨_,_,rfl,FE.same s'⟩
    .rintro σ Hk ⟨x7,x8,rfl,dk⟩;exact⟨_,_,_,_,_,rfl,dk⟩
   .rintro σ Hc ⟨x4,x5,x6,x7,x8,rfl,dc⟩;exact⟨_,_,_,_,_,_,_,_,rfl,sN (d3.trans dc)⟩
  .rintro σ Hc ⟨x1,x2,x3,x4,x5,x6,x7,x8,rfl,sc⟩;exact q Hc
end K42
structure PySem.W.Fast:Prop where
 (tw14484546261349156992 tw16105086181901535360 tw9704537044036523264 tw8733743608275771712 tw3052450177804368192 tw10776980252871215456 tw11038632292690245056 tw3670420296091595264 tw15594140505359523360 tw17669252983165227680 tw6742457529660777184 tw13285813450924686144 tw9133404025644695392 tw2925729415790951296 tw4834243775231186945 tw10648810416886527041 tw14550857128447797505 tw14063860324695727425 tw17287651359276432801 tw11691149344594606529 tw14059655635618860513 tw5600322285841876545 tw12199251112987567681 tw14515775179944642145 tw14084006257254804065 tw7294654058128179905 tw10003658915417702145 tw11465994496536783681 tw10347575169906596673 tw17771894322434277345 tw12563222769467234306 tw1046193097409704962 tw1140395219064459298 tw15968936487746510946 tw17845789093307163874 tw7247237264220913314 tw10707872386524417794 tw3874738380988276514 tw17632943512469717826 tw13307445057764609027 tw3064855725545602211 tw5839122684164770979 tw11943018543427598563 tw14369428988251836707 tw5960638386568231235 tw2629788952448047459 tw5350504225502827939 tw13694245212173748675 tw16770911014736229219 tw6112046219373680515 tw14111433488563755907 tw3522175039655046276 tw3015791452335952036 tw15473234140551066820 tw7375250648107941348 tw2449589945165732516 tw6775465233484372676 tw6300373366794330884 tw3176511209815598948 tw10426110655442018309 tw3067401926414815301 tw10641663180656954629 tw10504956276541051173 tw15792388556613953925 tw516288306764958085 tw10940174397843538341 tw18076744429531764389 tw3147214351131505445 tw5256228745236010885 tw11426425348351911877 tw8954215611653872613 tw5548347877347599398 tw932036698193543206 tw4074054565989728390 tw71377134084224166 tw352575252740419878 tw2748711916877020454 tw16223528491761191302 tw17254914709681309158 tw18119943101807088134 tw4918167247696059046 tw11873125745645353702 tw9610444034102596358 tw2983908835447737094 tw11163419846755479334 tw15407097097346819942 tw6111074487735281574 tw12323083515382312934 tw3498895387382585639 tw10043660229294049639 tw4140239510445096295 tw15760044286014736839 tw9934868238565634503 tw1655000870364959303 tw7249422421910971015 tw11669014226386918087 tw16806582646589094631 tw12454601288011250535 tw5476341740255251335 tw5419963527102651271 tw5576103467177383911 tw12398689360947012680 tw5719483607747323976 tw11759202335688945768 tw11970628176106333480 tw8680171336644638056 tw655894303513756072 tw16194706958882149896 tw2917669027756983880 tw12532005103146116712 tw624500290408765032 tw4423011490834949960 tw3576349537774933832 tw6278516810183780200 tw16179720120332763401 tw15440991675839219977 tw229103475412794729 tw18287798868792183177 tw2125257961624676873 tw5606684723855968809 tw5803207805749159465 tw1184906801468410473 tw10436526569980055177 tw14640666309639455401 tw17679360985673761545 tw14042843250938543881 tw11337070334072079177 tw5529299457990152073 tw13897124038737342377 tw7317298625902769129 tw5609627706723877994 tw24462511878775946 tw10913020760211034250 tw9592878512703917290 tw5803853196692027658 tw12762014854761819562 tw182747152486355530 tw1682161669087428170 tw12470915144799470218 tw9615292771471305418 tw5162309590898370410 tw9594207304965715818 tw8895357221473933258 tw4948762618052607978 tw13575270385493590091 tw10638296383875359851 tw13892161727350924459 tw6517603951700148427 tw4468089176800049355 tw6296130537412482315 tw10478557786120685867 tw17629003217619473739 tw2052107446680683883 tw9815762558929456491 tw15674818401553167755 tw9802952701504615915 tw11873148349787537995 tw2782185758363563627 tw11286372774849367691 tw2229718817803831947 tw8415008410025337611 tw7619656198229705707 tw6194167006563026060 tw3528213672250238092 tw13119500345586231564 tw3296051556062221580 tw15761241365765055756 tw4467566453224778156 tw1279818401396876780 tw11741413001143930412 tw11327683790159393420 tw1245861513098493580 tw3770599231413429900 tw17063646264194920108 tw9851000071129871052 tw6413377988373553996 tw12682115076791622476 tw3196878672261365644 tw8337265518235870124 tw13199080497175570412 tw5516901105557576684 tw10569985886723072013 tw1534866469697877005 tw836076224491916333 tw10372856252411947213 tw4221741290722328813 tw3854312319892297997 tw9870483223108939085 tw13019110681889206637 tw11391006921923132781 tw12799852231116176781 tw5652400337524127181 tw10469095931673579021 tw12786358334310501933 tw12383465930126377645 tw10564497577898661613 tw7769898543784428301 tw14735543605307147053 tw322843230492153709 tw13500933413874599789 tw385049120428705677 tw11969409914218437517 tw2656168462691247085 tw9947191458571405326 tw16905186495542321294 tw18027257114068056302 tw4729342030713229582 tw11463424722539975982 tw6901498591797698990 tw16583446435606564398 tw8424209287017795278 tw10573064598024692462 tw14253493652202726286 tw7157102475279244270 tw15596063892667251951 tw15957632591625535727 tw6766986307069823343 tw3228300658313833967 tw7714294079420532303 tw16598542127854246479 tw7934838299354583855 tw15382588614536519503 tw8218535150329526127 tw12276141887008877423 tw1229032423705975791 tw17097343963876712431 tw9381748634575046704 tw17586855576841249872 tw3057668135942542512 tw11816269291565901200 tw13490663005631985072 tw13688288737822984656 tw4166897114022329840 tw13191422096391497232 tw5490506441330415312 tw3099075585224606448 tw6213285257281278768 tw7587697101496073072 tw3073035573170098064 tw15547600404219652016 tw10430941019998881809 tw6655462279440779409 tw13517850118964971729 tw5683906787284509937 tw17520409827077820785 tw18113597101760893329 tw17676915473011752369 tw15297578195414528593 tw8602099958874380913 tw7297163243532266225 tw211197731111559921 tw5096240187651791633 tw13715510639326144273 tw7285685987109967793 tw7130640029228147665 tw16564790100411676722 tw11685990550618120338 tw15583809616741702066 tw5062988565190140434 tw15504584005509041778 tw6131002537115428498 tw10275181758997567122 tw15137947360467866354 tw9655964543514737458 tw16917224216049662099 tw10337434891297038515 tw877680040209189139 tw1677860325129425235 tw15555974924444529011 tw13523952316725988787 tw11116476720374782387 tw3751753284943628915 tw4718379916422897459 tw17484578697573326675 tw13520912034486982643 tw4851074531243859988 tw13718867129333008404 tw18370251561934370900 tw9835512773739022420 tw1556681423418133620 tw4640216494273095284 tw8692551332788802260 tw399541619157185236 tw6873642568979864340 tw10962900287952686068 tw14168576512233747477 tw10406043960605281365 tw5818114241497966709 tw15791621641805038933 tw1646427146688653749 tw17914725646531490229 tw9456975613406654965 tw8250987512760070677 tw10639829986425799221 tw18313145215498870357 tw4375603529428564661 tw14265334223684912917 tw114558100300297045 tw9492794369211061109 tw7965459264715773014 tw10842915206610332022 tw2642656324473715222 tw4853912392012118646 tw4099367998367624854 tw16684722780311833334 tw5357947845120320278 tw14125937472443301654 tw15133351070320195382 tw5237479977357121366 tw11031678795903134646 tw1113469606065498070 tw9076437943515982838 tw12215407883661325687 tw9650895017329699255 tw9840680691227025879 tw11697576746189924983 tw7516990894608796375 tw16836401281433354999 tw10250569839650926583 tw3329359497843020856 tw2686984764330462328 tw2804084481052261528 tw14136102735502349496 tw4608846855751706808 tw17483943542193572024 tw7704608855206745336 tw2536858384602877176 tw6489377245899561240 tw17210389927423054200 tw8576241579612674456 tw1117790243265593752 tw18306321131276522968 tw16004169015876250072 tw2807554659145421304 tw6955163307076294136 tw16258989338388159992 tw15213654490550741592 tw9007721708667077240 tw12407493542868129400 tw8589664916045960824 tw15200526554478586616 tw8437652908121041688 tw4600747401120106264 tw8068224256766403544 tw8683680866918093913 tw7647187270275232889 tw10834296917366503609 tw18203551023703009497 tw14657508326121782585 tw17733759075499712825 tw14340960684044744025 tw18238896964711150969 tw7947891703712192921 tw9180226053781931481 tw6114300122114519545 tw14953147259370316345 tw13674396728020525657 tw4876775979056140953 tw13578264971028485977 tw17198577055957685209 tw10446614379120709625 tw4885702750805818394 tw11210786216723811578 tw10936025114969904474 tw10033227025931902394 tw12868627182808144378 tw557389058867090042 tw6668828436402784986 tw6473013542672715482 tw15788887221213098842 tw18784891236406138 tw15073965214040217466 tw5469347449593684858 tw12978539994216489083 tw17483501242404756731 tw4604778887424309723 tw3548377253351946715 tw10724350119251777019 tw3001073262602061339 tw9307749579234790011 tw9855290629297855259 tw14021475340654362395 tw13600566163949294395 tw5437246093922043771 tw3721126820143016923 tw12987177564966961147 tw339637518994673916 tw12828454557878483260 tw8909061755190631836 tw14592105873965648636 tw4223798964515828476 tw5769631773875527516 tw10082061821164867452 tw14066128324154197213 tw572331986142959965 tw16003137847363870045 tw4127369639727590749 tw17554839778733043261 tw6125830952867249757 tw206923212163006077 tw13022697619949451965 tw2891706108514330429 tw4273501843136061277 tw9708194493869183869 tw2257858700139788157 tw15302729335619499933 tw7663191848612122525 tw15828989129104831421 tw8172919360730644413 tw10109885601060458654 tw4068609071443461310 tw12288274854973569214 tw1976935735333181790 tw6129397389982510462 tw5433197100222405022 tw2374931817862545918 tw7492691609745349182 tw6702491268934381214 tw5463721176345137854 tw6544623974845919006 tw388618940538600318 tw11270656058587302782 tw3567228598237319166 tw17655483562711533631 tw4265360370002113631 tw871266965842944095 tw13623435580658471135 tw2316797232020669695 tw18253548782950704415 tw3495339763676369407 tw2836503483324156511 tw12788866832898109023 tw2860200582150900447 tw9801465269679695647 tw16667926015175568159 tw3637707901338969951 tw6943484256361707359 tw18070662452325224319 tw7005318085821900767 tw11446129262885720174:True)
namespace K42
open PySem L2
theorem el1{C:List Value->Prop}(h:∀a0:Value,C [a0]):∀us:List Value,us.length=1->C us:=fun us e=>match us,e with|[a0],_=>h a0
theorem el2{C:List Value->Prop}(h:∀a0 a1:Value,C [a0,a1]):∀us:List Value,us.length=2->C us:=fun us e=>match us,e with|[a0,a1],_=>h a0 a1
theorem el3{C:List Value->Prop}(h:∀a0 a1 a2:Value,C [a0,a1,a2]):∀us:List Value,us.length=3->C us:=fun us e=>match us,e with|[a0,a1,a2],_=>h a0 a1 a2
theorem el4{C:List Value->Prop}(h:∀a0 a1 a2 a3:Value,C [a0,a1,a2,a3]):∀us:List Value,us.length=4->C us:=fun us e=>match us,e with|[a0,a1,a2,a3],_=>h a0 a1 a2 a3
theorem el5{C:List Value->Prop}(h:∀a0 a1 a2 a3 a4:Value,C [a0,a1,a2,a3,a4]):∀us:List Value,us.length=5->C us:=fun us e=>match us,e with|[a0,a1,a2,a3,a4],_=>h a0 a1 a2 a3 a4
def Has(K:Frag)(x:Str)(st:Stmt):Prop:=∃(f:Addr) (od an:Option Addr) (sl:Array (Option Value)) (oc kV dc pm cd ct:Value),PySem.W.nsIn K mainGlobals x=some (some (.ref f)) /\
 K.lookup f=some ⟨oc,od,.func (PySem.W.fnOf x x (fJ st) (eU st) (aM st) .none kV dc pm an cd ct),sl⟩/\PySem.W.codeIn K cd x=true/\PySem.W.keepIn K (.ref f)=true
theorem has_mk{K:Frag}{x:Str}{st:Stmt}{f:Addr}{od an:Option Addr}{sl:Array (Option Value)}{oc kV dc pm cd ct:Value}(a:PySem.W.nsIn K mainGlobals x=some (some (.ref f)))
  (l:K.lookup f=some ⟨oc,od,.func (PySem.W.fnOf x x (fJ st) (eU st) (aM st) .none kV dc pm an cd ct),sl⟩) (c:PySem.W.codeIn K cd x=true) (k:PySem.W.keepIn K (.ref f)=true):Has K x st:=⟨f,od,an,sl,oc,kV,dc,pm,cd,ct,a,l,c,k⟩
theorem Has.get{K:Frag}{x:Str}{st:Stmt}{h:Heap}{mg:Str->Option Value}(H:Has K x st)(X:K.In h)(G:h.Ns mainGlobals mg):∃f fd,Fun K x x st f fd/\mg x=some (.ref f):=by
 obtain⟨f,od,an,sl,oc,kV,dc,pm,cd,ct,a,l,c,k⟩:=H;exact⟨f,_,zN (st:=st) l c k,PySem.W.mg_of X G a⟩
theorem aU(P:Program)(w:World)(base:Heap){K:Frag}{mg:Str->Option Value}{k:Nat}{x:Str}{ps:List Str}{sp:Sp}{f:Addr}{fd:FuncData}(F:FnOk P w K mg base CX0 k f fd ps sp)(m:mg x=some (.ref f))(kp:PySem.W.keepIn K (.ref f)=true)(b:Binds K fd ps []):Cal P w K mg base k x ps sp:=⟨f,fd,F,m,kp,b⟩
theorem all_mk{l:PySem.W.OpenLaw}{w:World}{K:Frag}{h:Heap}{mg:Str->Option Value}{fa fL:Addr}{Po Mt:Option Addr}{Pp:Array (Option Value)}{Pq Mu Mv tF FF Mw:Value}{t0 t1 t2 t3 t4 t5 t6 t7 t8 t9 Mx:Tok}(X:K.In h)(G:h.Ns mainGlobals mg)(Pr:mg "law"=some (.ref fa))
  (h10:Has K "is_whole" (top 10))
  (h11:Has K "is_whole_from" (top 11))
  (h12:Has K "is_tuple_of" (top 12))
  (h13:Has K "are_wholes" (top 13))
  (h24:Has K "is_clip" (top 24))
  (h25:Has K "are_clips" (top 25))
  (h26:Has K "is_promise" (top 26))
  (h27:Has K "are_promises" (top 27))
  (h28:Has K "are_sales" (top 28))
  (h29:Has K "held_in" (top 29))
  (h30:Has K "is_sale_between" (top 30))
  (h31:Has K "sale_holds" (top 31))
  (h32:Has K "first_unheld" (top 32))
  (h33:Has K "is_book" (top 33))
  (h34:Has K "refuse_no_book" (top 34))
  (h38:Has K "are_weights" (top 38))
  (h39:Has K "refuse_unpartable" (top 39))
  (h40:Has K "places_by_rest" (top 40))
  (h41:Has K "parts_of" (top 41))
  (h42:Has K "parted" (top 42))
  (h44:Has K "sacks_of" (top 44))
  (h45:Has K "claims_in" (top 45))
  (h46:Has K "shares_of" (top 46))
  (h47:Has K "made_good" (top 47))
  (h48:Has K "sort_given" (top 48))
  (h49:Has K "year_given" (top 49))
  (h50:Has K "years_given" (top 50))
  (h51:Has K "refuse_no_year_of" (top 51))
  (h52:Has K "refuse_no_year" (top 52))
  (h54:Has K "owed_behind" (top 54))
  (h56:Has K "from_each_on" (top 56))
  (h57:Has K "claimed_since" (top 57))
  (h58:Has K "wool_since" (top 58))
  (h59:Has K "shown" (top 59))
  (h60:Has K "is_paper_for" (top 60))
  (h61:Has K "papers_for" (top 61))
  (h62:Has K "lack_by" (top 62))
  (h63:Has K "shown_by" (top 63))
  (h64:Has K "paper_of" (top 64))
  (h66:Has K "_law_cell_at" (top 66))
  (h67:Has K "_law_state" (top 67))
  (h68:Has K "_law_take" (top 68))
  (h69:Has K "_law_mixed" (top 69))
  (h70:Has K "_law_clips" (top 70))
  (h71:Has K "_law_promises" (top 71))
  (h72:Has K "_law_begun" (top 72))
  (h73:Has K "_law_holds" (top 73))
  (h74:Has K "_law_sell" (top 74))
  (h75:Has K "_law_sold" (top 75))
  (h76:Has K "_law_any_sale" (top 76))
  (h77:Has K "_law_sales" (top 77))
  (h78:Has K "_law_book" (top 78))
  (h79:Has K "_law_claims" (top 79))
  (h80:Has K "_law_other" (top 80))
  (aL:PySem.W.nsIn K mainGlobals "law"=some (some (.ref fL))) (lL:K.lookup fL=some ⟨Pq,Po,.func (PySem.W.fnOf "law" "law" (fJ (top 81)) (eU (top 81)) (aM (top 81)) .none Mu Mv tF Mt FF Mw),Pp⟩) (cL:PySem.W.codeIn K FF "law"=true) (kL:PySem.W.keepIn K (.ref fL)=true)
  (n0:PySem.W.nsIn K mainGlobals "SORTS"=some (some (.int 3 t0)))
  (n1:PySem.W.nsIn K mainGlobals "HOLDERS"=some (some (.int 8 t1)))
  (n2:PySem.W.nsIn K mainGlobals "LAST_YEAR"=some (some (.int 19 t2)))
  (n3:PySem.W.nsIn K mainGlobals "MOST_CLIPS"=some (some (.int 20 t3)))
  (n4:PySem.W.nsIn K mainGlobals "MOST_PROMISES"=some (some (.int 10 t4)))
  (n5:PySem.W.nsIn K mainGlobals "MOST_WOOL"=some (some (.int 999 t5)))
  (n6:PySem.W.nsIn K mainGlobals "MOST_SACKS"=some (some (.int 99 t6)))
  (n7:PySem.W.nsIn K mainGlobals "MOST_PRICE"=some (some (.int 1000000 t7)))
  (n8:PySem.W.nsIn K mainGlobals "MOST_SALES"=some (some (.int 12 t8)))
  (n9:PySem.W.nsIn K mainGlobals "MOST_WEIGHTS"=some (some (.int 80 t9)))
  (n10:PySem.W.nsIn K mainGlobals "MOST_WEIGHT"=some (some (.int 99 Mx)))
  (cw:PySem.W.nsIn K mainGlobals "isinstance"=some none)
  (pz:PySem.W.nsIn K mainGlobals "int"=some none)
  (l9:PySem.W.nsIn K mainGlobals "bool"=some none)
  (iP:PySem.W.nsIn K mainGlobals "tuple"=some none)
  (pE:PySem.W.nsIn K mainGlobals "len"=some none)
  (pS:PySem.W.nsIn K mainGlobals "all"=some none)
  (ay:PySem.W.nsIn K mainGlobals "range"=some none)
  (iA:PySem.W.nsIn K mainGlobals "list"=some none)
  (pT:PySem.W.nsIn K mainGlobals "max"=some none)
  (fA:PySem.W.nsIn K mainGlobals "min"=some none)
  (AU:PySem.W.nsIn K mainGlobals "zip"=some none)
  (av:PySem.W.nsIn K mainGlobals "enumerate"=some none)
  (cx:PySem.W.nsIn K mainGlobals "sorted"=some none)
  (eW:PySem.W.nsIn K mainGlobals "sum"=some none)
  (iE:PySem.W.nsIn K mainGlobals "reversed"=some none)
  : ∃fd:FuncData,(∀(s:Shared) (v:Value),BindsTo s fd ⟨[v],[]⟩ [("_law_script",v)])/\∀base:Heap,K.In base->base.Ns mainGlobals mg->FnOk l.prog w K mg base CX0 63 fa fd ["_law_script"] (xV K):=by
 have e:=Pr.symm.trans (PySem.W.mg_of X G aL);cases e;have FL:=zN (st:=top 81) lL cL kL;obtain⟨T7,Pt,FG,Pu⟩:=h10.get X G;have Pw:=FG.binds (ps:=["thing"]) fun _ _ _ _ _ _=>el1 fun _=>rfl;obtain⟨T8,Px,FH,Py⟩:=h11.get X G;have Pz:=FH.binds (ps:=["thing","least","most"]) fun _ _ _ _ _ _=>el3 fun _ _ _=>rfl;obtain⟨T9,PB,FI,PD⟩:=h12.get X G;have PF:=FI.binds (ps:=["thing","fewest","most"]) fun _ _ _ _ _ _=>el3 fun _ _ _=>rfl;obtain⟨Ua,PH,FK,PJ⟩:=h13.get X G;have PL:=FK.binds (ps:=["thing","many"]) fun _ _ _ _ _ _=>el2 fun _ _=>rfl;obtain⟨Ub,PN,FO,PQ⟩:=h24.get X G;have PR:=FO.binds (ps:=["thing"]) fun _ _ _ _ _ _=>el1 fun _=>rfl;obtain⟨Uc,PU,FR,PV⟩:=h25.get X G;have PX:=FR.binds (ps:=["thing"]) fun _ _ _ _ _ _=>el1 fun _=>rfl;obtain⟨Ud,PY,FU,PZ⟩:=h26.get X G;have P0:=FU.binds (ps:=["thing"]) fun _ _ _ _ _ _=>el1 fun _=>rfl;obtain⟨Ue,P1,FV,P2⟩:=h27.get X G;have P4:=FV.binds (ps:=["thing"]) fun _ _ _ _ _ _=>el1 fun _=>rfl;obtain⟨Ug,P5,FX,P6⟩:=h28.get X G;have P7:=FX.binds (ps:=["thing"]) fun _ _ _ _ _ _=>el1 fun _=>rfl;obtain⟨Uh,P8,FY,P9⟩:=h29.get X G;have Qa:=FY.binds (ps:=["promises","sales","number","year"]) fun _ _ _ _ _ _=>el4 fun _ _ _ _=>rfl;obtain⟨Ui,Qb,F1,Qd⟩:=h30.get X G;have Qe:=F1.binds (ps:=["promises","sale"]) fun _ _ _ _ _ _=>el2 fun _ _=>rfl;obtain⟨Uj,Qf,F2,Qg⟩:=h31.get X G;have Qh:=F2.binds (ps:=["promises","ahead","sale"]) fun _ _ _ _ _ _=>el3 fun _ _ _=>rfl;obtain⟨Uk,Qi,F3,Qj⟩:=h32.get X G;have Qk:=F3.binds (ps:=["promises","sales"]) fun _ _ _ _ _ _=>el2 fun _ _=>rfl;obtain⟨Ul,Ql,F4,Qm⟩:=h33.get X G;have Qn:=F4.binds (ps:=["thing"]) fun _ _ _ _ _ _=>el1 fun _=>rfl;obtain⟨Um,Qo,F5,Qp⟩:=h34.get X G;have Qq:=F5.binds (ps:=["thing"]) fun _ _ _ _ _ _=>el1 fun _=>rfl;obtain⟨Uo,Qr,F6,Qs⟩:=h38.get X G;have Qt:=F6.binds (ps:=["thing"]) fun _ _ _ _ _ _=>el1 fun _=>rfl;obtain⟨Up,Qu,F7,Qv⟩:=h39.get X G;have Qw:=F7.binds (ps:=["sacks","weights"]) fun _ _ _ _ _ _=>el2 fun _ _=>rfl;obtain⟨Uq,Qx,F9,Qy⟩:=h40.get X G;have Qz:=F9.binds (ps:=["rests"]) fun _ _ _ _ _ _=>el1 fun _=>rfl;obtain⟨Ur,QA,GA,QB⟩:=h41.get X G;have QC:=GA.binds (ps:=["sacks","weights"]) fun _ _ _ _ _ _=>el2 fun _ _=>rfl;obtain⟨Us,QD,GB,QE⟩:=h42.get X G;have QF:=GB.binds (ps:=["sacks","weights"]) fun _ _ _ _ _ _=>el2 fun _ _=>rfl;obtain⟨Ut,QG,GH,QH⟩:=h44.get X G;have QI:=GH.binds (ps:=["rows"]) fun _ _ _ _ _ _=>el1 fun _=>rfl;obtain⟨Uu,QJ,GI,QK⟩:=h45.get X G;have QL:=GI.binds (ps:=["promises","sales","sort","year"]) fun _ _ _ _ _ _=>el4 fun _ _ _ _=>rfl;obtain⟨Uv,QM,GL,QN⟩:=h46.get X G;have QO:=GL.binds (ps:=["wool","claims"]) fun _ _ _ _ _ _=>el2 fun _ _=>rfl;obtain⟨Uw,QP,GN,QQ⟩:=h47.get X G;have QR:=GN.binds (ps:=["wool","owed"]) fun _ _ _ _ _ _=>el2 fun _ _=>rfl;obtain⟨Ux,QS,GO,QT⟩:=h48.get X G;have QU:=GO.binds (ps:=["wool","claims","owed"]) fun _ _ _ _ _ _=>el3 fun _ _ _=>rfl;obtain⟨Uy,QV,GS,QW⟩:=h49.get X G;have QX:=GS.binds (ps:=["book","year","owed"]) fun _ _ _ _ _ _=>el3 fun _ _ _=>rfl;obtain⟨Uz,QY,GU,QZ⟩:=h50.get X G;have Q0:=GU.binds (ps:=["book","year"]) fun _ _ _ _ _ _=>el2 fun _ _=>rfl;obtain⟨UA,Q3,GV,Q4⟩:=h51.get X G;have Q5:=GV.binds (ps:=["clips","year"]) fun _ _ _ _ _ _=>el2 fun _ _=>rfl;obtain⟨UB,Q6,GW,Q7⟩:=h52.get X G;have Q8:=GW.binds (ps:=["book","year"]) fun _ _ _ _ _ _=>el2 fun _ _=>rfl;obtain⟨UC,Q9,GY,Ra⟩:=h54.get X G;have Rb:=GY.binds (ps:=["book","year"]) fun _ _ _ _ _ _=>el2 fun _ _=>rfl;obtain⟨UD,Rc,G0,Rf⟩:=h56.get X G;have Rg:=G0.binds (ps:=["numbers"]) fun _ _ _ _ _ _=>el1 fun _=>rfl;obtain⟨UE,Rh,G1,Ri⟩:=h57.get X G;have Rj:=G1.binds (ps:=["book","year"]) fun _ _ _ _ _ _=>el2 fun _ _=>rfl;obtain⟨UG,Rk,HC,Rl⟩:=h58.get X G;have Rm:=HC.binds (ps:=["book","year"]) fun _ _ _ _ _ _=>el2 fun _ _=>rfl;obtain⟨UH,Rn,HE,Ro⟩:=h59.get X G;have Rp:=HE.binds (ps:=["claimed","wool","paper"]) fun _ _ _ _ _ _=>el3 fun _ _ _=>rfl;obtain⟨UI,Rq,HG,Rr⟩:=h60.get X G;have Rt:=HG.binds (ps:=["year","thing"]) fun _ _ _ _ _ _=>el2 fun _ _=>rfl;obtain⟨UJ,Ru,HI,Rv⟩:=h61.get X G;have Rw:=HI.binds (ps:=["year"]) fun _ _ _ _ _ _=>el1 fun _=>rfl;obtain⟨UK,Rx,HK,Ry⟩:=h62.get X G;have Rz:=HK.binds (ps:=["book","year"]) fun _ _ _ _ _ _=>el2 fun _ _=>rfl;obtain⟨UL,RA,HL,RB⟩:=h63.get X G;have RC:=HL.binds (ps:=["book","year","paper"]) fun _ _ _ _ _ _=>el3 fun _ _ _=>rfl;obtain⟨UM,RD,HM,RE⟩:=h64.get X G;have RF:=HM.binds (ps:=["book","year"]) fun _ _ _ _ _ _=>el2 fun _ _=>rfl;obtain⟨UN,RG,HP,RH⟩:=h66.get X G;have RI:=HP.binds (ps:=["_law_script","_law_k"]) fun _ _ _ _ _ _=>el2 fun _ _=>rfl;obtain⟨UO,RJ,HU,RK⟩:=h67.get X G;have RL:=HU.binds (ps:=["_law_script","_law_k"]) fun _ _ _ _ _ _=>el2 fun _ _=>rfl;obtain⟨UP,RM,HV,RN⟩:=h68.get X G;have RO:=HV.binds (ps:=["_law_state_here","_law_many"]) fun _ _ _ _ _ _=>el2 fun _ _=>rfl;obtain⟨UQ,RP,HZ,RQ⟩:=h69.get X G;have RS:=HZ.binds (ps:=["_law_state_here","_law_some"]) fun _ _ _ _ _ _=>el2 fun _ _=>rfl;obtain⟨UR,RT,Ic,RU⟩:=h70.get X G;have RV:=Ic.binds (ps:=["_law_state_here","_law_most"]) fun _ _ _ _ _ _=>el2 fun _ _=>rfl;obtain⟨US,RW,Iq,RX⟩:=h71.get X G;have RY:=Iq.binds (ps:=["_law_state_here","_law_most","_law_years"]) fun _ _ _ _ _ _=>el3 fun _ _ _=>rfl;obtain⟨UT,RZ,Iy,R0⟩:=h72.get X G;have R1:=Iy.binds (ps:=["_law_promises_here"]) fun _ _ _ _ _ _=>el1 fun _=>rfl;obtain⟨UU,R3,IA,R4⟩:=h73.get X G;have R5:=IA.binds (ps:=["_law_promises_here","_law_rows","_law_sale"]) fun _ _ _ _ _ _=>el3 fun _ _ _=>rfl;obtain⟨UW,R6,IB,R7⟩:=h74.get X G;have R8:=IB.binds (ps:=["_law_promises_here","_law_rows","_law_sale"]) fun _ _ _ _ _ _=>el3 fun _ _ _=>rfl;obtain⟨UX,R9,AV,My⟩:=h75.get X G;have Mz:=AV.binds (ps:=["_law_promises_here","_law_sales_here"]) fun _ _ _ _ _ _=>el2 fun _ _=>rfl;obtain⟨UY,Sa,IC,Sb⟩:=h76.get X G;have Sd:=IC.binds (ps:=["_law_state_here","_law_promises_here"]) fun _ _ _ _ _ _=>el2 fun _ _=>rfl;obtain⟨UZ,Se,ID,Sf⟩:=h77.get X G;have Sg:=ID.binds (ps:=["_law_state_here","_law_promises_here","_law_most"]) fun _ _ _ _ _ _=>el3 fun _ _ _=>rfl;obtain⟨U0,Sh,IE,Si⟩:=h78.get X G;have Sj:=IE.binds (ps:=["_law_state_here","_law_years","_law_most","_law_sales_here"]) fun _ _ _ _ _ _=>el4 fun _ _ _ _=>rfl;obtain⟨U1,Sk,IF,Sl⟩:=h79.get X G;have Sn:=IF.binds (ps:=["_law_promises_here","_law_rows","_law_sort","_law_year"]) fun _ _ _ _ _ _=>el4 fun _ _ _ _=>rfl;obtain⟨U2,So,IG,Sr⟩:=h80.get X G;have Ss:=IG.binds (ps:=["_law_state_here","_law_book_here","_law_year"]) fun _ _ _ _ _ _=>el3 fun _ _ _=>rfl
 have T:Mg mg:=⟨(zAv X G cw),(zAv X G pz),(zAv X G l9),(zAv X G iP),(zAv X G pE),(zAv X G pS)⟩
 have TP:K42.Mg mg:=⟨(zAv X G cw),(zAv X G pz),(zAv X G l9),(zAv X G iP),(zAv X G pE),(zAv X G pS)⟩
 have N:Nums mg:=⟨⟨t0,PySem.W.mg_of X G n0⟩,⟨t1,PySem.W.mg_of X G n1⟩,⟨t2,PySem.W.mg_of X G n2⟩,⟨t3,PySem.W.mg_of X G n3⟩,⟨t4,PySem.W.mg_of X G n4⟩,⟨t5,PySem.W.mg_of X G n5⟩,⟨t6,PySem.W.mg_of X G n6⟩,⟨t7,PySem.W.mg_of X G n7⟩⟩
 have NP:K42P.Nums mg:=⟨⟨t9,PySem.W.mg_of X G n9⟩,⟨Mx,PySem.W.mg_of X G n10⟩⟩
 have N2:MS mg:=⟨⟨t8,PySem.W.mg_of X G n8⟩⟩
 refine⟨PySem.W.fnOf "law" "law" (fJ (top 81)) (eU (top 81)) (aM (top 81)) .none Mu Mv tF Mt FF Mw,fun s v=>.of_eq rfl,fun base _ _=>?_⟩;have MA:=aU l.prog w base (ug FG T) Pu FG.kp Pw;have IH:=aU l.prog w base (oN FH MA) Py FH.kp Pz;have vi:=aU l.prog w base (nq FI T) PD FI.kp PF;have Cc:=aU l.prog w base (oH FK T MA vi) PJ FK.kp PL;have Su:=aU l.prog w base (vC FO T N Cc) PQ FO.kp PR;have Sv:=aU l.prog w base (rJ FR T N Su vi) PV FR.kp PX;have Sw:=aU l.prog w base (oJ FU T N Cc) PZ FU.kp P0;have MB:=aU l.prog w base (lD FV T N Sw vi) P2 FV.kp P4;have MC:=aU l.prog w base (rM FX T N2 Cc vi) P6 FX.kp P7;have MD:=aU l.prog w base (DX FY N) P9 FY.kp Qa;have Sx:=aU l.prog w base (DY F1 T N) Qd F1.kp Qe;have Sy:=aU l.prog w base (Az F2 T (zAv X G ay) Sx MD) Qg F2.kp Qh;have Sz:=aU l.prog w base (Ba F3 (zAv X G av) MB MC Sy) Qj F3.kp Qk;have SA:=aU l.prog w base (Ea F4 vi Sv MB MC Sz) Qm F4.kp Qn;have SD:=aU l.prog w base (Ep F5 SA) Qp F5.kp Qq;have SE:=aU l.prog w base (K42P.ok_are_weights F6 TP NP IH vi) Qs F6.kp Qt;have SF:=aU l.prog w base (K42P.ok_refuse F7 (zAv X G eW) SE IH) Qv F7.kp Qw;have SI:=aU l.prog w base (K42P.ok_places F9 (zAv X G av) (zAv X G cx)) Qy F9.kp Qz;have SJ:=aU l.prog w base (K42P.ok_parts GA TP (zAv X G eW) SI) QB GA.kp QC;have SK:=aU l.prog w base (K42P.ok_parted GB SF SJ) QE GB.kp QF;have II:=aU l.prog w base (Bb GH (zAv X G eW)) QH GH.kp QI;have ME:=aU l.prog w base (yO GI (zAv X G av) MD) QK GI.kp QL;have SM:=aU l.prog w base (yN GL T (zAv X G eW) SK) QN GL.kp QO;have SN:=aU l.prog w base (Ed GN (zAv X G fA)) QQ GN.kp QR;have SO:=aU l.prog w base (Bh GO (zAv X G eW) (zAv X G iA) (zAv X G AU) SM SN) QT GO.kp QU;have SR:=aU l.prog w base (Ej GS T N (zAv X G ay) (zAv X G cx) ME SO II) QW GS.kp QX;have SS:=aU l.prog w base (Bs GU (zAv X G ay) SR) QZ GU.kp Q0;have SU:=aU l.prog w base (Er GV T IH) Q4 GV.kp Q5;have MF:=aU l.prog w base (BK GW SD SU) Q7 GW.kp Q8;have SV:=aU l.prog w base (BL GY SS) Ra GY.kp Rb;have MG:=aU l.prog w base (Ey G0 (zAv X G iE)) Rf G0.kp Rg;have MJ:=aU l.prog w base (vQ G1 N (zAv X G ay) MG II ME) Ri G1.kp Rj;have MK:=aU l.prog w base (uI HC N (zAv X G ay) MG) Rl HC.kp Rm;have ML:=aU l.prog w base (Cg HE N (zAv X G ay) (zAv X G eW) (zAv X G av) (zAv X G fA)) Ro HE.kp Rp;have SW:=aU l.prog w base (HX HG T N Cc) Rr HG.kp Rt;have SX:=aU l.prog w base (zg HI (zAv X G ay)) Rv HI.kp Rw;have MM:=aU l.prog w base (Eu HK MF SV II) Ry HK.kp Rz;have SY:=aU l.prog w base (Ez HL MF SW MJ MK ML) RB HL.kp RC;have S0:=aU l.prog w base (Ie HM MM MJ MK ML SX) RE HM.kp RF;have S4:=aU l.prog w base (DR HP T) RH HP.kp RI;have S5:=aU l.prog w base (Aw HU S4) RK HU.kp RL;have vj:=aU l.prog w base (DW HV) RN HV.kp RO;have S7:=aU l.prog w base (Cy HZ T (zAv X G iA) vj) RQ HZ.kp RS;have S8:=aU l.prog w base (yU Ic T (zAv X G ay) vj) RU Ic.kp RV;have S9:=aU l.prog w base (rR Iq T (zAv X G ay) (zAv X G fA) vj) RX Iq.kp RY;have MN:=aU l.prog w base (Bt Iy (zAv X G av) (zAv X G ay)) R0 Iy.kp R1;have MO:=aU l.prog w base (yP IA T (zAv X G ay) (zAv X G fA)) R4 IA.kp R5;have MP:=aU l.prog w base (Em IB (zAv X G ay)) R7 IB.kp R8;have Ta:=aU l.prog w base (uB AV (zAv X G av) MN MO MP) My AV.kp Mz;have CS:=aU l.prog w base (En (uB AV (zAv X G av) MN MO MP)) My AV.kp Mz;have Tb:=aU l.prog w base (HQ IC T (zAv X G pT) vj) Sb IC.kp Sd;have Tc:=aU l.prog w base (yV ID T (zAv X G ay) vj Tb CS) Sf ID.kp Sg;have Td:=aU l.prog w base (yW IE T S8 S9 Tc) Si IE.kp Sj;have Tf:=aU l.prog w base (vV IF (zAv X G av) (zAv X G iA) (zAv X G cx)) Sl IF.kp Sn;have Tg:=aU l.prog w base (CT IG T (zAv X G ay) (zAv X G cx) (zAv X G fA) (zAv X G eW) Tf Ta S7) Sr IG.kp Ss;exact Ig FL T (zAv X G ay) (zAv X G pT) (zAv X G fA) vj S5 Td MM SY S0 Tg
theorem walk{l:PySem.W.OpenLaw}{q:Program}{loose:List Str}{XP:(Str->Option Value)->Heap->Prop}{YP:World->Heap->Prop}{d:DefRec}{K:Params->Frag}(hn:l.most=some 63)(wo:d.params.defaults=[])
  (hY:∀(w:World) (h:Heap),YP w h->(K w.params).In h)
  (F:∀(w:World) (mg:Str->Option Value) (fa:Addr) (h:Heap),(K w.params).In h->h.Ns mainGlobals mg->mg d.name=some (.ref fa)->
   ∃fd:FuncData,(∀(s:Shared) (u:Value),BindsTo s fd ⟨[u],[]⟩ [("_law_script",u)])/\∀base:Heap,(K w.params).In base->base.Ns mainGlobals mg->FnOk l.prog w (K w.params) mg base CX0 63 fa fd ["_law_script"] (xV (K w.params))):
  PySem.W.WalkO q loose XP YP l.row.toRowW d [] (fun f vs=>PySem.call f vs):=
 L2.walk_of (n:=63) (k:=63) (x:="_law_script") (CX:=fun _=>CX0) (sp:=fun w=>xV (K w.params)) hn Zx wo ⟨rfl,by decide,by decide,rfl⟩ hY F (fun _ _ a ns hl _ hS=>⟨a,ns,rfl,hS,hl,fun _=>rfl⟩) fun _ _ _ _ _ z=>z
end K42
open PySem PySem.W PyProof.Rows
set_option maxRecDepth 100000 in
set_option maxHeartbeats 0 in
theorem PySem.Challenge.cw_woolyears_k42_whole_no_giving_leaves_les_holds : PySem.Challenge.rw_woolyears_k42_whole_no_giving_leaves_les.Holds := by
 w_on;o_law;k_head;(case hw=>w_witness2)
 k_fill
 refine K42.walk (l:=PySem.Challenge.rw_woolyears_k42_whole_no_giving_leaves_les) rfl rfl (fun w h Y=>PySem.W.kIn_of Y) ?F
 case F =>
  intro w mg fa h KX G hmg
  refine' K42.all_mk KX G hmg ?h10 ?h11 ?h12 ?h13 ?h24 ?h25 ?h26 ?h27 ?h28 ?h29 ?h30 ?h31 ?h32 ?h33 ?h34 ?h38 ?h39 ?h40 ?h41 ?h42 ?h44 ?h45 ?h46 ?h47 ?h48 ?h49 ?h50 ?h51 ?h52 ?h54 ?h56 ?h57 ?h58 ?h59 ?h60 ?h61 ?h62 ?h63 ?h64 ?h66 ?h67 ?h68 ?h69 ?h70 ?h71 ?h72 ?h73 ?h74 ?h75 ?h76 ?h77 ?h78 ?h79 ?h80 ?aL ?lL ?cL ?kL ?n0 ?n1 ?n2 ?n3 ?n4 ?n5 ?n6 ?n7 ?n8 ?n9 ?n10 ?z0 ?z1 ?z2 ?z3 ?z4 ?z5 ?z6 ?z7 ?z8 ?z9 ?z10 ?z11 ?z12 ?z13 ?z14
  case h10|h11|h12|h13|h24|h25|h26|h27|h28|h29|h30|h31|h32|h33|h34|h38|h39|h40|h41|h42|h44|h45|h46|h47|h48|h49|h50|h51|h52|h54|h56|h57|h58|h59|h60|h61|h62|h63|h64|h66|h67|h68|h69|h70|h71|h72|h73|h74|h75|h76|h77|h78|h79|h80=>
   refine' K42.has_mk ?a ?l ?c ?k
   case a|l|c|k=>k_is
  case aL|lL|cL|kL|n0|n1|n2|n3|n4|n5|n6|n7|n8|n9|n10|z0|z1|z2|z3|z4|z5|z6|z7|z8|z9|z10|z11|z12|z13|z14=>k_is
