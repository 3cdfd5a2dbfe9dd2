import PyProof.Rows.All
import Wide.All
import OpenK.AllK
import Wide.FinOn
import Lean
import PyProof.EqAt
import PyProof.EqKinds
import PyProof.TupleCall
import PyProof.StrLawsRepr
import PyProof.ZipIter
import PySem.Challenge.RW_woolyears_k91_whole_told_late
import PyProof.Rows.SortRunsK
import PyProof.AttrMissHeap
import PyProof.SeqRoads
import PyProof.ListOps
import PyProof.SetKind
import KE.KDictList
import PyProof.TupleKey
import PyProof.DictUpdate
import PyProof.Rows.SetFrom
import PyProof.FactsAll.subtypes_5
import PyProof.FactsAll.set_1
import PyProof.FactsAll.set_2
import PyProof.DictWalks
import KE.KItemsList
set_option compiler.extract_closed false
set_option Elab.async false
set_option linter.all false
set_option maxRecDepth 100000
set_option maxHeartbeats 4000000
noncomputable section
theorem Zz{p:Prop}(h:p:=by lia):p:=h
theorem Zy{p:Prop}(h:p:=by simp):p:=h
theorem Zx{p:Prop}(h:p:=by decide):p:=h
theorem Zv{p:Prop}(h:p:=by decide +kernel):p:=h
theorem Zu{p:Prop}(h:p:=by rw[sizeLine_eq];lia):p:=h
def Zp:=@decide_eq_true_eq
open PySem.W (Frag)
def zAt:=@PySem.wpAny_bind
def zAu:=@decide_eq_true
def zAv:=@PySem.wpAny_pure
def zAw:=@PySem.Heap.get?_push_of_some
def zAx:=@if_neg
def zAy:=@PySem.W.mg_none_of
def zAz:=@if_pos
def zB0:=@PySem.Heap.lt_size
def zB1:=@List.mem_append_right
def zB2:=@PySem.Heap.get?_push_size
def zB3:=@List.getElem?_append_right
def zB4:=@List.mem_of_getElem?
def zB5:=@decide_eq_false
def zB6:=@Nat.lt_of_lt_of_le
def zB7:=@List.getElem?_append_left
def zB8:=@Nat.ne_of_lt
def zB9:=@List.take_append_drop
def zBa:=@of_decide_eq_true
def zBb:=@PySem.PassesOwn.never
def zBc:=@List.filter_cons_of_neg
def zBd:=@List.filter_cons_of_pos
def zBe:=@PySem.F.type_list_append
def zBf:=@PySem.F.slot_list_append
def zBg:=@PySem.F.plainAttrs_list
def zA0:=@List.getElem?_eq_getElem
def zA1:=@List.length_map
def zA2:=@List.length_append
def zA3:=@Nat.le_refl
def zA4:=@List.map_append
def zA5:=@List.mem_map
def zA6:=@List.mem_append
def zA7:=@List.getD_eq_getElem?_getD
def zA8:=@List.size_toArray
def zA9:=@Array.length_toList
def zAa:=@List.getElem?_eq_some_iff
def zAb:=@List.getElem?_map
def zAc:=@Bool.and_eq_true
def zAd:=@List.length_take
def zAe:=@List.length_cons
def zAf:=@List.append_assoc
def zAg:=@Bool.false_ne_true
def zAh:=@List.getElem_mem
def zAi:=@Int.toNat_natCast
def zAj:=@List.take_add_one
def zAk:=@List.map_cons
def zAl:=@Option.some.inj
def zAm:=@List.take_length
def zAn:=@List.append_nil
def zAo:=@List.mem_cons
def zAp:=@Nat.zero_le
def zAq:=@List.mem_filter
def zAr:=@List.map_map
def zAs:=@List.length_zip
namespace L2
open PySem PySem.Spec PyProof.Rows
abbrev Key:=Sum Int Str
def kh:Key->Value->Bool
 |.inl k,v=>Value.isInt k v
 |.inr x,v=>Value.isStrOf x v
def K5(w:World):Key->Int
 |.inl k=>hashInt k
 |.inr x=>hashStr w x
theorem bO:∀{k:Key} {v:Value},kh k v=true->(∃i t,k=Sum.inl i/\v=Value.int i t)\/(∃x t,k=Sum.inr x/\v=Value.str x t)
 |.inl i,v,h=>by
  obtain⟨t,e⟩:=Value.isInt_shape (k:=i) (v:=v) h;exact .inl ⟨i,t,rfl,e⟩
 |.inr x,v,h=>by
  obtain⟨t,e⟩:=Value.isStrOf_shape (x:=x) (v:=v) h;exact .inr ⟨x,t,rfl,e⟩
theorem xR(i:Int)(t:Tok):kh (.inl i) (.int i t)=true:=by simp[kh,Value.isInt]
theorem xT(x:Str)(t:Tok):kh (.inr x) (.str x t)=true:=by simp[kh,Value.isStrOf]
theorem Gi(a b:Int):decide ((Sum.inl a:Key)=Sum.inl b)=(a==b):=by
 by_cases e:a=b
 .subst e;simp
 .have h:¬(Sum.inl a:Key)=Sum.inl b:=fun q=>e (Sum.inl.inj q);rw[zB5 h];exact(beq_eq_false_iff_ne.mpr e).symm
theorem Gj(a b:Str):decide ((Sum.inr a:Key)=Sum.inr b)=decide (a=b):=by
 by_cases e:a=b
 .subst e;simp
 .have h:¬(Sum.inr a:Key)=Sum.inr b:=fun q=>e (Sum.inr.inj q);rw[zB5 h,zB5 e]
theorem Gk(a:Int)(b:Str):decide ((Sum.inl a:Key)=Sum.inr b)=false:=zB5 (fun q=>nomatch q)
theorem Gm(a:Str)(b:Int):decide ((Sum.inr a:Key)=Sum.inl b)=false:=zB5 (fun q=>nomatch q)
def aX(prog:Program)(w:World):PySem.KeyKind prog w Key where
 is:=kh
 hash:=K5 w
 inj:=fun v a b ha hb=>by
  rcases bO ha with⟨i,t,rfl,rfl⟩|⟨x,t,rfl,rfl⟩
  .rcases bO hb with⟨j,u,rfl,e⟩|⟨y,u,rfl,e⟩
   .injection e with e1 _;rw[e1]
   .exact nomatch e
  .rcases bO hb with⟨j,u,rfl,e⟩|⟨y,u,rfl,e⟩
   .exact nomatch e
   .injection e with e1 _;rw[e1]
 byValue:=fun k v h=>by
  rcases bO h with⟨i,t,rfl,rfl⟩|⟨x,t,rfl,rfl⟩<;>rfl
 pyHash:=fun hv h=>by
  rcases bO hv with⟨i,t,rfl,rfl⟩|⟨x,t,rfl,rfl⟩
  .exact wpAny_pyHash_int h
  .exact wpAny_pyHash_str h
 eqBool:=fun hu hv h=>by
  rcases bO hu with⟨i,t,rfl,rfl⟩|⟨x,t,rfl,rfl⟩
  .rcases bO hv with⟨j,u,rfl,rfl⟩|⟨y,u,rfl,rfl⟩
   .rw[Gi]at h;exact wpAny_eqBool_int h
   .rw[Gk]at h;exact SeqAt.EqAt.int_str i t y u _ _ _ _ h
  .rcases bO hv with⟨j,u,rfl,rfl⟩|⟨y,u,rfl,rfl⟩
   .rw[Gm]at h;exact SeqAt.EqAt.str_int x t j u _ _ _ _ h
   .rw[Gj]at h;exact wpAny_eqBool_str h
 «strs»:=fun k x t v h=>by
  rcases bO h with⟨i,u,rfl,e⟩|⟨y,u,rfl,e⟩
  .exact nomatch e
  .injection e with e1 _;subst e1;cases v<;>rfl
theorem sI(prog:Program)(w:World)(i:Int)(t:Tok):(aX prog w).is (.inl i) (.int i t)=true:=xR i t
theorem sJ(prog:Program)(w:World)(x:Str)(t:Tok):(aX prog w).is (.inr x) (.str x t)=true:=xT x t
inductive V where
 |non|bl (b:Bool)|int (i:Int)|str (x:Str)|byt (b:Array UInt8)|flt (b:UInt64)|ref (a:Addr)|ty (n:String)
 deriving DecidableEq
def RelV:V->Value->Prop
 |.non,u=>u=Value.none
 |.bl b,u=>u=Value.bool b
 |.int i,u=>∃t,u=Value.int i t
 |.str x,u=>∃t,u=Value.str x t
 |.byt b,u=>∃t,u=Value.bytes b t
 |.flt b,u=>∃t,u=Value.float b t
 |.ref a,u=>u=Value.ref a
 |.ty n,u=>u=Value.type n
abbrev Vals:List V->List Value->Prop:=Paired RelV
theorem Vals.length{xs:List V}{us:List Value}(r:Vals xs us):xs.length=us.length:=Paired.length r
theorem Vals.get:∀{xs:List V} {us:List Value} {i:Nat} {x:V},Vals xs us->xs[i]?=some x->∃u,us[i]?=some u/\RelV x u
 |_,_,_,_,.nil,e=>by simp at e
 |_,_,0,_,.cons r _,e=>by simp at e;subst e;exact⟨_,rfl,r⟩
 |_,_,i+1,x,.cons _ t,e=>by
  obtain⟨u,h1,h2⟩:=Vals.get (i:=i) (x:=x) t (by simpa using e);exact⟨u,by simpa using h1,h2⟩
theorem Vals.set{x:V}{u:Value}(r:RelV x u):∀{xs:List V} {us:List Value} (i:Nat),Vals xs us->Vals (xs.set i x) (us.set i u)
 |_,_,_,.nil=>.nil
 |_,_,0,.cons _ t=>.cons r t
 |_,_,i+1,.cons q t=>.cons q (Vals.set r i t)
theorem Vals.append:∀{xs ys:List V} {us ws:List Value},Vals xs us->Vals ys ws->Vals (xs++ys) (us++ws)
 |_,_,_,_,.nil,s=>s
 |_,_,_,_,.cons r t,s=>.cons r (Vals.append t s)
theorem Vals.take:∀{xs:List V} {us:List Value} (n:Nat),Vals xs us->Vals (xs.take n) (us.take n)
 |_,_,0,_=>.nil
 |_,_,_+1,.nil=>.nil
 |_,_,n+1,.cons r t=>.cons r (Vals.take n t)
theorem Vals.drop:∀{xs:List V} {us:List Value} (n:Nat),Vals xs us->Vals (xs.drop n) (us.drop n)
 |_,_,0,r=>r
 |_,_,_+1,.nil=>.nil
 |_,_,n+1,.cons _ t=>Vals.drop n t
def RelO:Option V->Option Value->Prop
 |some v,some u=>RelV v u
 |none,none=>True
 |_,_=>False
def KV{κ:Type}:List (κ×V)->List (κ×Value)->Prop:=Paired fun(p:κ×V) (q:κ×Value)=>p.1=q.1/\RelV p.2 q.2
def kV:Key->V
 |.inl i=>.int i
 |.inr x=>.str x
inductive HO where
  |lst (xs:List V)
  |tup (xs:List V)
  |dK (Zs:List (Key×V))|dT (Zs:List (List Key×V))
  |set (S:Int->Bool) (n:Nat)
  |ins (C dx:Addr) (fs:List (Str×V))
  |own (x:Addr)
  |xd (fs:List (Str×V))
  |met (f x:Addr)
  |rng (lo hi:Int)
  |frz (o:Obj) (u:HO)
  |tbl (ps:Array Value)
  |ext (φ:Heap->Prop)
abbrev Hp:=Addr->Option HO
def upd(H:Hp)(a:Addr)(o:HO):Hp:=fun b=>if b=a then some o else H b
theorem aj{H:Hp}{a:Addr}{o:HO}:upd H a o a=some o:=by unfold upd;rw[zAz rfl]
theorem aA{H:Hp}{a b:Addr}{o:HO}(h:b≠a):upd H a o b=H b:=by unfold upd;rw[zAx h]
theorem Fy{H:Hp}{a b:Addr}{o u:HO}(h:H a=some o)(h':H b=some u)(d:o≠u):a≠b:=by
 intro e;subst e;rw[h]at h';exact d (zAl h')
theorem aC{H:Hp}{a b:Addr}{o:HO}(h:H a=some o)(h':H b=none):a≠b:=by
 intro e;subst e;rw[h]at h';cases h'
section
variable(P:Program)(w:World)
def ObjOk(H:Hp)(h:Heap)(a:Addr):HO->Prop
 |.lst xs=>xs.length<=sizeLine/\∃(Zr:List Value) (n:Nat),Vals xs Zr/\h.get? a=some {cls:=.type "list",data:=.seq Zr.toArray n}
 |.tup xs=>xs.length<=sizeLine/\∃Zr:List Value,Vals xs Zr/\IsTup h a Zr.toArray
 |.dK Zs=>Zs.length<=sizeLine/\(a==sysModules)=false/\∃vs,KV Zs vs/\h.DictOf (aX P w) a vs
 |.dT Zs=>Zs.length<=sizeLine/\(a==sysModules)=false/\∃xs:List (List Key×Addr×Value),
   Paired (fun(p:List Key×V) (q:List Key×Addr×Value)=>p.1=q.1/\H q.2.1=some (.tup (p.1.map kV))/\RelV p.2 q.2.2) Zs xs /\
   ∃o es ep,h.get? a=some o/\o.ExactDict/\o.data=.dict es ep/\es.toList=xs.map (entryOfKey (tupleKind (aX P w)))/\(xs.map (·.1)).Nodup
 |.set S n=>h.SetOf (intKind P w) a S n
 |.ins C dx fs=>H dx=some (.own a)/\fs.length<=1000/\dx≠a/\h.get? a=some (PySem.W.instObj C dx) /\
   ∃mA,h.Ns1 dx mA/\(∀f,RelO (fs.lookup f) (mA f))/\PySem.Within mA (fs.map (·.1))
 |.own _=>∃o,h.get? a=some o
 |.xd fs=>∃mA,h.Ns1 a mA/\∀f,RelO (fs.lookup f) (mA f)
 |.rng lo hi=>∃t u v,h.get? a=some {cls:=.type "range",data:=.fields #[.int lo t,.int hi u,.int 1 v]}
 |.frz o u=>h.get? a=some o/\ObjOk H h a u
 |.tbl ps=>h.get? a=some {cls:=.none,data:=.fields ps}
 |.met f x=>h.get? a=some (PySem.W.methodObj (.ref f) (.ref x))
 |.ext φ=>φ h/\(∃o,h.get? a=some o)/\∀h1 h2:Heap,φ h1->(∀o,h1.get? a=some o->h2.get? a=some o)->φ h2
def HOk(H:Hp)(h:Heap):Prop:=∀a o,H a=some o->ObjOk P w H h a o
end
section
variable{P:Program}{w:World}{H H':Hp}{h h':Heap}{a:Addr}{o:HO}
theorem ObjOk.lt(x:ObjOk P w H h a o):a<h.objs.size:=by
 cases o with
 |lst xs=>obtain⟨_,_,_,_,e⟩:=x;exact zB0 e
 |tup xs=>obtain⟨_,_,_,p⟩:=x;exact p.lt
 |dK Zs=>obtain⟨_,_,_,_,o,_,_,e,_⟩:=x;exact zB0 e
 |dT Zs=>obtain⟨_,_,_,_,o,_,_,e,_⟩:=x;exact zB0 e
 |set S n=>obtain⟨o,_,_,_,e,_⟩:=x;exact zB0 e
 |ins C dx fs=>obtain⟨_,_,_,e,_⟩:=x;exact zB0 e
 |own y=>obtain⟨_,e⟩:=x;exact zB0 e
 |xd fs=>obtain⟨_,⟨_,_,_,e,_⟩,_⟩:=x;exact zB0 e
 |rng lo hi=>obtain⟨_,_,_,e⟩:=x;exact zB0 e
 |frz ob u=>obtain⟨e,_⟩:=x;exact zB0 e
 |tbl ps=>exact zB0 (show h.get? a=some _ from x)
 |met f y=>exact zB0 (show h.get? a=some _ from x)
 |ext φ=>obtain⟨_,⟨_,e⟩,_⟩:=x;exact zB0 e
theorem Paired.mapP{α β:Type}{F G:α->β->Prop}:∀{l₁:List α} {xw:List β},Paired F l₁ xw->(∀a b,F a b->G a b)->Paired G l₁ xw
 |_,_,.nil,_=>.nil
 |_,_,.cons r t,f=>.cons (f _ _ r) (Paired.mapP t f)
theorem ObjOk.stay(x:ObjOk P w H h a o)(k:∀b u,(b=a\/H b=some (.own a))->h.get? b=some u->h'.get? b=some u)
  (ho:∀b,H b=some (.own a)->H' b=some (.own a)) (ht:∀b xs,H b=some (.tup xs)->H' b=some (.tup xs)):ObjOk P w H' h' a o:=by
 induction o with
 |lst xs=>obtain⟨z,Zr,n,r,e⟩:=x;exact⟨z,Zr,n,r,k _ _ (.inl rfl) e⟩
 |tup xs=>obtain⟨z,Zr,r,ob,e,c⟩:=x;exact⟨z,Zr,r,ob,k _ _ (.inl rfl) e,c⟩
 |dK Zs=>obtain⟨z,y,vs,r,ob,es,ep,e,c⟩:=x;exact⟨z,y,vs,r,ob,es,ep,k _ _ (.inl rfl) e,c⟩
 |dT Zs=>
  obtain⟨z,y,xs,r,ob,es,ep,e,c⟩:=x;exact⟨z,y,xs,Paired.mapP r fun p q z=>⟨z.1,ht _ _ z.2.1,z.2.2⟩,ob,es,ep,k _ _ (.inl rfl) e,c⟩
 |set S n=>obtain⟨ob,es,ep,t,e,c⟩:=x;exact⟨ob,es,ep,t,k _ _ (.inl rfl) e,c⟩
 |ins C dx fs=>
  obtain⟨d,z,ne,e,mA,⟨od,es,ep,e2,c⟩,r⟩:=x;exact⟨ho _ d,z,ne,k _ _ (.inl rfl) e,mA,⟨od,es,ep,k _ _ (.inr d) e2,c⟩,r⟩
 |own y=>obtain⟨ob,e⟩:=x;exact⟨ob,k _ _ (.inl rfl) e⟩
 |xd fs=>obtain⟨mA,⟨od,es,ep,e,c⟩,r⟩:=x;exact⟨mA,⟨od,es,ep,k _ _ (.inl rfl) e,c⟩,r⟩
 |rng lo hi=>obtain⟨t,u,v,e⟩:=x;exact⟨t,u,v,k _ _ (.inl rfl) e⟩
 |frz ob u ih=>obtain⟨e,q⟩:=x;exact⟨k _ _ (.inl rfl) e,ih q⟩
 |tbl ps=>
  have e:h.get? a=some {cls:=.none,data:=.fields ps}:=x;show h'.get? a=some {cls:=.none,data:=.fields ps};exact k a _ (.inl rfl) e
 |met f y=>
  have e:h.get? a=some (PySem.W.methodObj (.ref f) (.ref y)):=x;show h'.get? a=some (PySem.W.methodObj (.ref f) (.ref y));exact k a _ (.inl rfl) e
 |ext φ=>obtain⟨p,⟨o,e⟩,st⟩:=x;exact⟨st _ _ p fun o q=>k _ _ (.inl rfl) q,⟨o,k _ _ (.inl rfl) e⟩,st⟩
theorem HOk.lt(x:HOk P w H h)(e:H a=some o):a<h.objs.size:=(x a o e).lt
theorem HOk.fresh(x:HOk P w H h)(e:h.objs.size<=a):H a=none:=by
 cases q:H a with
 |none=>rfl
 |some u=>exact absurd (zB6 (x.lt q) e) (Nat.lt_irrefl _)
theorem HOk.kept(x:HOk P w H h)(k:∀b u,h.get? b=some u->h'.get? b=some u):HOk P w H h':=fun a o e=>
 (x a o e).stay (fun b u _ q=>k b u q) (fun _ q=>q) fun _ _ q=>q
theorem HOk.laid(x:HOk P w H h)(k:∀b u,h.get? b=some u->h'.get? b=some u)(hp:h.objs.size<=a)(new:ObjOk P w (upd H a o) h' a o):HOk P w (upd H a o) h':=fun b u e=>by
 have hn:=x.fresh hp;by_cases hb:b=a
 .subst hb;rw[aj]at e;cases e;exact new
 .rw[aA hb]at e
  exact(x b u e).stay (fun c v _ q=>k c v q) (fun c q=>by rw[aA (aC q hn)];exact q) fun c xs q=>by rw[aA (aC q hn)];exact q
end
def Rd(H:Hp)(a:Addr)(u:HO):Prop:=H a=some u\/∃o,H a=some (.frz o u)
theorem Rd.ok{P:Program}{w:World}{H:Hp}{h:Heap}{a:Addr}{u:HO}(r:Rd H a u)(x:HOk P w H h):ObjOk P w H h a u:=by
 rcases r with r|⟨o,r⟩
 .exact x a u r
 .obtain⟨_,q⟩:=x a _ r;exact q
def Mut:Option HO->Prop
 |some (.lst _)=>True
 |some (.dK _)=>True
 |some (.dT _)=>True
 |some (.set _ _)=>True
 |some (.ins _ _ _)=>True
 |some (.ext _)=>True
 |_=>False
section
variable{P:Program}{w:World}{H:Hp}{h h':Heap}{x e:Addr}{o':HO}
theorem HOk.write(ok:HOk P w H h)(mu:Mut (H x))(he:e=x\/H e=some (.own x))(k:∀b u,b≠e->h.get? b=some u->h'.get? b=some u)(vc:∃u,h'.get? e=some u)
  (new:ObjOk P w (upd H x o') h' x o'):HOk P w (upd H x o') h':=fun b u q=>by
 have xy:∀c y,H c=some (.own y)->c≠x:=fun c y r z=>by subst z;rw[r]at mu;exact mu
 have C9:∀c xs,H c=some (.tup xs)->c≠x:=fun c xs r z=>by subst z;rw[r]at mu;exact mu
 by_cases hb:b=x
 .subst hb;rw[aj]at q;cases q;exact new
 .rw[aA hb]at q;by_cases qk:b=e
  .have q':H b=some (.own x):=by
    rcases he with z|z
    .exact absurd (qk.trans z) hb
    .rw[qk];exact z
   rw[q]at q';cases q';obtain⟨v,hv⟩:=vc;exact⟨v,by rw[qk];exact hv⟩
  .refine(ok b u q).stay (fun c v hc r=>k c v ?_ r) (fun c r=>by rw[aA (xy c b r)];exact r) fun c xs r=>by rw[aA (C9 c xs r)];exact r
   rcases hc with rfl|hc
   .exact qk
   .rintro rfl;rcases he with z|z
    .exact xy c b hc z
    .rw[hc]at z;cases z;exact hb rfl
end
structure Un(fs ex:List Addr)(H H':Hp)(h h':Heap):Prop where
 keep:∀b o,h.get? b=some o->H b=none->b∉fs->b∉ex->h'.get? b=some o
 slot:∀b o,h.get? b=some o->H b=none->b∈fs->b∉ex->∃sl,h'.get? b=some {o with slots:=sl}
 free:∀b o,h.get? b=some o->H b=none->b∉ex->H' b=none
 there:∀b o,h.get? b=some o->b∉ex->∃o',h'.get? b=some o'
 tups:∀b xs,H b=some (.tup xs)->H' b=some (.tup xs)
 frzs:∀b o u,H b=some (.frz o u)->H' b=some (.frz o u)
 tbls:∀b ps,H b=some (.tbl ps)->∃more,H' b=some (.tbl (ps++more))
section
variable{fs M8 ex S8:List Addr}{H H1 H2:Hp}{h h1 h2 h':Heap}{a x e:Addr}{o:HO}
theorem Un.any(u:Un fs ex H H1 h h1){b:Addr}{ob:Obj}(q:h.get? b=some ob)(n:H b=none)(hx:b∉ex):∃sl,h1.get? b=some {ob with slots:=sl}:=by
 by_cases hb:b∈fs
 .exact u.slot b ob q n hb hx
 .exact⟨ob.slots,u.keep b ob q n hb hx⟩
theorem Un.kept(k:∀b u,h.get? b=some u->h'.get? b=some u):Un fs ex H H h h':=
 ⟨fun b ob q _ _ _=>k b ob q,fun b ob q _ _ _=>⟨ob.slots,k b ob q⟩,fun _ _ _ n _=>n,fun b ob q _=>⟨ob,k b ob q⟩,fun _ _ q=>q,fun _ _ _ q=>q,fun _ ps q=>⟨#[],by rw[q];simp⟩⟩
theorem Un.refl:Un fs ex H H h h:=Un.kept fun _ _ q=>q
theorem Un.laid(k:∀b u,h.get? b=some u->h'.get? b=some u)(hp:h.objs.size<=a)(hn:H a=none):Un fs ex H (upd H a o) h h' where
 keep:=fun b u q _ _ _=>k b u q
 slot:=fun b u q _ _ _=>⟨u.slots,k b u q⟩
 free:=fun b u q n _=>by rw[aA (zB8 (zB6 (zB0 q) hp))];exact n
 there:=fun b u q _=>⟨u,k b u q⟩
 tups:=fun b xs q=>by rw[aA (aC q hn)];exact q
 frzs:=fun b u xs q=>by rw[aA (aC q hn)];exact q
 tbls:=fun b ps q=>⟨#[],by rw[aA (aC q hn),q];simp⟩
theorem Un.write(mu:Mut (H x))(he:e=x\/H e=some (.own x))(k:∀b u,b≠e->h.get? b=some u->h'.get? b=some u)(vc:∃u,h'.get? e=some u):Un fs ex H (upd H x o) h h':=by
 have hx:∀b,H b=none->b≠x:=fun b n z=>by subst z;rw[n]at mu;exact mu
 have hb:∀b,H b=none->b≠e:=fun b n z=>by
  subst z;rcases he with r|r
  .exact hx b n r
  .rw[n]at r;cases r
 have hm:∀b u,H b=some u->¬Mut (some u)->b≠x:=fun b u q nm z=>by subst z;rw[q]at mu;exact nm mu
 refine⟨fun b u q n _ _=>k b u (hb b n) q,fun b u q n _ _=>⟨u.slots,k b u (hb b n) q⟩,fun b u q n _=>by rw[aA (hx b n)];exact n,fun b u q _=>?_,
  fun b xs q=>by rw[aA (hm b _ q fun z=>z)];exact q,fun b u xs q=>by rw[aA (hm b _ q fun z=>z)];exact q,fun b ps q=>⟨#[],by rw[aA (hm b _ q fun z=>z),q];simp⟩⟩
 by_cases qk:b=e
 .subst qk;exact vc
 .exact⟨u,k b u qk q⟩
end
def trk(h:Heap)(H:Hp):List Addr:=(List.range h.objs.size).filter fun a=>(H a).isSome
def ql(h:Heap)(H:Hp):Heap:=PySem.W.hideAll h (trk h H)
theorem xU(h:Heap)(H:Hp):(ql h H).objs.size=h.objs.size:=PySem.W.hideAll_size _ _
theorem yX{h:Heap}{H:Hp}{b:Addr}{o:Obj}(e:h.get? b=some o)(n:H b=none):(ql h H).get? b=some o:=
 PySem.W.hideAll_get _ e fun hm=>by
  have q:(H b).isSome=true:=(zAq.mp hm).2;rw[n]at q;simp at q
theorem CV{h:Heap}{H:Hp}{b:Addr}{o:Obj}(e:(ql h H).get? b=some o):h.get? b=some o/\H b=none:=by
 have e':h.get? b=some o:=PySem.W.of_hideAll (trk h H) e;refine⟨e',?_⟩
 cases q:H b with
 |none=>rfl
 |some x=>
  have hm:b∈trk h H:=List.mem_filter.mpr ⟨List.mem_range.mpr (Heap.lt_size e'),by simp[q]⟩;have z:(ql h H).get? b=none:=PySem.W.hideAll_none (trk h H) hm;rw[z]at e;cases e
structure Mod(K:Frag)(mg:Str->Option Value)(base:Heap):Prop where
 kin:K.In base
 glob:base.Ns mainGlobals mg
 blt:∃mb,base.Ns builtinsNs mb/\∀x:Str,x≠"__name__"->mb x=bootBuiltins x
 nolimit:base.NoLimit
structure Cx where
 prog:Program
 w:World
 K:Frag
 mg:Str->Option Value
 base:Heap
 A:Around
 N:List Str
 s₀:Shared
 H₀:Hp
 env:Env
 outer:List Env
 stack:List Env
 ex:List Addr
 fn:Str->Bool
 calm:Bool
 pn:List (Addr×Obj)
 xe:Value->Shared->Prop
def frs(l:List Env):List Addr:=l.filterMap (·.frame)
abbrev Cx.fs(X:Cx):List Addr:=frs X.outer
def Vis(sc:Scope)(x:Str):Prop:=sc.names.lookup x=some .local\/sc.names.lookup x=some .cell\/sc.names.lookup x=some .free
def Loc(sc:Scope)(x:Str):Prop:=sc.names.lookup x=some .local\/sc.names.lookup x=some .cell
def Look(env:Env)(h:Heap)(m:Str->Option Value)(x:Str)(u:Value):Prop:=
 (env.kindOf x=some .local/\m x=some u)\/((env.kindOf x=some .cell\/env.kindOf x=some .free)/\∃c,env.cells.lookup x=some c/\h.IsCell c (some u))
structure Cx.Ok(X:Cx):Prop where
 mod:Mod X.K X.mg X.base
 kind:X.env.scope.kind=.function
 glob:X.env.globals=mainGlobals
 blt:X.env.builtins=builtinsNs
 above:X.s₀.heap.objs.size<=X.env.locals
 inj:∀x y c,X.env.cells.lookup x=some c->X.env.cells.lookup y=some c->x=y
 has:∀x,(X.env.kindOf x=some .cell\/X.env.kindOf x=some .free)->∃c,X.env.cells.lookup x=some c
 cab:∀x c,X.fn x=true->X.env.cells.lookup x=some c->X.s₀.heap.objs.size<=c
 hd:X.calm=true->X.A.handled=none
 frames:X.A.frames=some X.stack
 stk:X.stack=X.outer\/(X.stack=X.env::X.outer/\X.env.frame=some X.env.locals)
 exf:∀b∈X.ex,b≠X.env.locals/\∀x c,X.env.cells.lookup x=some c->c≠b
 bs:∀b o,X.base.get? b=some o->X.s₀.heap.get? b=some o/\X.H₀ b=none
 bsz:X.base.objs.size<=X.s₀.heap.objs.size
 noex:∀b o,X.base.get? b=some o->b∉X.ex
 exfs:∀b∈X.ex,b∉X.fs
 funs:X.s₀.heap.FunFrames X.base X.outer
 frf:∀b∈X.fs,X.H₀ b=none
structure Inv(X:Cx)(Zt:List (Addr×Obj))(σ:List (Option V))(H:Hp)(s:Shared):Prop where
 ok:X.Ok
 os:s.os=X.s₀.os
 bare:AllBare s.gens
 base:Un X.fs X.ex X.H₀ H X.s₀.heap s.heap
 loc:∃m,s.heap.Ns X.env.locals m/\∀(i:Nat) (x:Str) (v:V),X.N[i]?=some x->σ[i]?=some (some v)->Vis X.env.scope x->∃u,RelV v u/\Look X.env s.heap m x u
 cell:∀x c,X.env.cells.lookup x=some c->∃v,s.heap.IsCell c v
 free:H X.env.locals=none
 freeC:∀x c,X.env.cells.lookup x=some c->H c=none
 pin:∀p∈X.pn++Zt,s.heap.get? p.1=some p.2/\H p.1=none/\p.1≠X.env.locals/\p.1∉X.fs/\∀v,p.2.data≠.cell v
 hok:HOk X.prog X.w H s.heap
 len:σ.length=X.N.length
section
variable{X:Cx}{Zt:List (Addr×Obj)}{σ:List (Option V)}{H H':Hp}{s:Shared}{h':Heap}
theorem Cx.Ok.nofr(ok:X.Ok){b:Addr}{o:Obj}(e:X.base.get? b=some o):b∉X.fs:=fun hb=>by
 have:=(ok.funs.mem hb).1;rw[e]at this;cases this
theorem Inv.bs(I:Inv X Zt σ H s):∀b o,X.base.get? b=some o->s.heap.get? b=some o/\H b=none:=fun b o e=>
 ⟨I.base.keep b o (I.ok.bs b o e).1 (I.ok.bs b o e).2 (I.ok.nofr e) (I.ok.noex b o e),I.base.free b o (I.ok.bs b o e).1 (I.ok.bs b o e).2 (I.ok.noex b o e)⟩
theorem Inv.bk(I:Inv X Zt σ H s):∀b o,X.base.get? b=some o->s.heap.get? b=some o:=fun b o e=>(I.bs b o e).1
theorem Inv.mod(I:Inv X Zt σ H s):Mod X.K X.mg X.base:=I.ok.mod
theorem Inv.kIn(I:Inv X Zt σ H s):X.K.In s.heap:=I.ok.mod.kin.keeps I.bk
theorem Inv.lt(I:Inv X Zt σ H s):X.env.locals<s.heap.objs.size:=by obtain⟨_,hn,_⟩:=I.loc;exact hn.lt
theorem Inv.sz(I:Inv X Zt σ H s):X.s₀.heap.objs.size<=s.heap.objs.size:=Nat.le_trans I.ok.above (Nat.le_of_lt I.lt)
theorem Inv.nofs(I:Inv X Zt σ H s){a:Addr}(h:s.heap.objs.size<=a):a∉X.fs:=fun hb=>by
 obtain⟨_,o,ho,_⟩:=I.ok.funs.mem hb;exact absurd (zB6 (zB0 ho) (Nat.le_trans I.sz h)) (Nat.lt_irrefl _)
theorem Inv.cne(I:Inv X Zt σ H s):∀x c,X.env.cells.lookup x=some c->c≠X.env.locals:=fun x c e z=>by
 obtain⟨v,o,ho,hd⟩:=I.cell x c e;obtain⟨m,⟨o',es,ep,jv,Cb,_⟩,_⟩:=I.loc;rw[z,jv]at ho;cases ho;rw[Cb]at hd;cases hd
theorem Inv.funs(I:Inv X Zt σ H s):s.heap.FunFrames X.base X.outer:=by
 have all:∀(l:List Env),(∀b∈frs l,b∈X.fs)->X.s₀.heap.FunFrames X.base l->s.heap.FunFrames X.base l:=by
  intro l
  induction l with
  |nil=>intro _ _;trivial
  |cons env r ih=>
   intro hs hl;obtain⟨hk,⟨L,o,hf,hn,ho,hd⟩,hr⟩:=hl;have hL:L∈X.fs:=hs L (by unfold frs;rw[List.filterMap_cons,hf];exact List.mem_cons_self);obtain⟨sl,e⟩:=I.base.slot L o ho (I.ok.frf L hL) hL fun z=>I.ok.exfs L z hL;exact⟨hk,⟨L,_,hf,hn,e,hd⟩,ih (fun b hb=>hs b (by unfold frs;rw[List.filterMap_cons,hf];exact List.mem_cons_of_mem _ hb)) hr⟩
 exact all X.outer (fun _ hb=>hb) I.ok.funs
theorem Inv.stack(I:Inv X Zt σ H s):s.heap.FunFrames X.base X.stack:=by
 rcases I.ok.stk with e|⟨e,hf⟩
 .rw[e];exact I.funs
 .rw[e];obtain⟨m,hn,_⟩:=I.loc;refine .cons (by rw[I.ok.kind];decide) hf hn ?_ I.funs;exact Heap.get?_none_of_le (Nat.le_trans I.ok.bsz I.ok.above)
theorem Inv.stkSub(I:Inv X Zt σ H s):∀b∈frs X.stack,b∈X.env.locals::X.fs:=fun b hb=>by
 rcases I.ok.stk with e|⟨e,hf⟩
 .rw[e]at hb;exact List.mem_cons_of_mem _ hb
 .rw[e]at hb;unfold frs at hb;rw[List.filterMap_cons,hf]at hb;exact hb
theorem Inv.stkFree(I:Inv X Zt σ H s):∀b∈frs X.stack,H b=none:=fun b hb=>by
 rcases zAo.mp (I.stkSub b hb)with e|hb
 .rw[e];exact I.free
 .obtain⟨_,o,ho,_⟩:=I.ok.funs.mem hb;exact I.base.free b o ho (I.ok.frf b hb) fun z=>I.ok.exfs b z hb
theorem Inv.step{g':Array GenState}{t':Nat}{d':Drawn}{ch:List Addr}(I:Inv X Zt σ H s)
  (l9:∀b∈ch,(b∈X.ex\/X.s₀.heap.objs.size<=b)/\b≠X.env.locals/\(∀x c,X.env.cells.lookup x=some c->c≠b)/\∀p∈X.pn++Zt,p.1≠b)
  (keep:∀b o,b≠X.env.locals->b∉X.fs->b∉ch->s.heap.get? b=some o->H b=none->h'.get? b=some o)
  (slot:∀b o,b≠X.env.locals->b∈X.fs->b∉ch->s.heap.get? b=some o->H b=none->∃sl,h'.get? b=some {o with slots:=sl}) (free:∀b o,b∉ch->s.heap.get? b=some o->H b=none->H' b=none)
  (there:∀b o,b∉ch->s.heap.get? b=some o->∃o',h'.get? b=some o')
  (tups:∀b xs,H b=some (.tup xs)->H' b=some (.tup xs)) (frzs:∀b o u,H b=some (.frz o u)->H' b=some (.frz o u)) (tbls:∀b ps,H b=some (.tbl ps)->∃more,H' b=some (.tbl (ps++more)))
  (ns:∀m,s.heap.Ns X.env.locals m->h'.Ns X.env.locals m) (hok:HOk X.prog X.w H' h') (hg:AllBare g'):
  Inv X Zt σ H' {s with heap:=h',gens:=g',drawn:=d',toks:=t'}:=by
 have Kt:∀b o,X.s₀.heap.get? b=some o->b≠X.env.locals:=fun b o e=>zB8 (zB6 (zB0 e) I.ok.above)
 have Cc:∀b o,X.s₀.heap.get? b=some o->b∉X.ex->b∉ch:=fun b o e hx hb=>by
  rcases(l9 b hb).1 with z|z
  .exact hx z
  .exact absurd (zB6 (zB0 e) z) (Nat.lt_irrefl _)
 have cellK:∀x c,X.env.cells.lookup x=some c->∀v,s.heap.IsCell c v->h'.IsCell c v:=fun x c e v hZ=>by
  obtain⟨o,ho,hd⟩:=hZ;have xA:c∉ch:=fun z=>(l9 c z).2.2.1 x c e rfl;by_cases hc:c∈X.fs
  .obtain⟨sl,q⟩:=slot c o (I.cne x c e) hc xA ho (I.freeC x c e);exact⟨_,q,hd⟩
  .exact⟨o,keep c o (I.cne x c e) hc xA ho (I.freeC x c e),hd⟩
 refine⟨I.ok,I.os,hg,⟨fun b o e n hb hx=>?_,fun b o e n hb hx=>?_,fun b o e n hx=>?_,fun b o e hx=>?_,fun b xs e=>tups b xs (I.base.tups b xs e),fun b o xs e=>frzs b o xs (I.base.frzs b o xs e),fun b ps e=>?_⟩,?_,fun x c e=>?_,?_,fun x c e=>?_,fun p hp=>?_,hok,I.len⟩
 .exact keep b o (Kt b o e) hb (Cc b o e hx) (I.base.keep b o e n hb hx) (I.base.free b o e n hx)
 .obtain⟨sl,e1⟩:=I.base.slot b o e n hb hx;obtain⟨Dx,e2⟩:=slot b _ (Kt b o e) hb (Cc b o e hx) e1 (I.base.free b o e n hx);exact⟨Dx,e2⟩
 .obtain⟨o',e1⟩:=I.base.there b o e hx;exact free b o' (Cc b o e hx) e1 (I.base.free b o e n hx)
 .obtain⟨o',e1⟩:=I.base.there b o e hx;exact there b o' (Cc b o e hx) e1
 .obtain⟨m1,e1⟩:=I.base.tbls b ps e;obtain⟨m2,e2⟩:=tbls b _ e1;exact⟨m1++m2,by rw[e2,Array.append_assoc]⟩
 .obtain⟨m,hn,hl⟩:=I.loc;refine⟨m,ns m hn,fun i x v e1 e2 e3=>?_⟩;obtain⟨u,r,l⟩:=hl i x v e1 e2 e3;refine⟨u,r,?_⟩;rcases l with l|⟨k,c,e,z⟩
  .exact .inl l
  .exact .inr ⟨k,c,e,cellK x c e _ z⟩
 .obtain⟨v,z⟩:=I.cell x c e;exact⟨v,cellK x c e v z⟩
 .obtain⟨m,⟨o,_,_,ho,_⟩,_⟩:=I.loc;exact free _ o (fun z=>(l9 _ z).2.1 rfl) ho I.free
 .obtain⟨v,o,ho,hd⟩:=I.cell x c e;exact free c o (fun z=>(l9 c z).2.2.1 x c e rfl) ho (I.freeC x c e)
 .obtain⟨e,n,ne,nf,d⟩:=I.pin p hp;have xA:p.1∉ch:=fun z=>(l9 p.1 z).2.2.2 p hp rfl;exact⟨keep p.1 p.2 ne nf xA e n,free p.1 p.2 xA e n,ne,nf,d⟩
theorem Inv.un{t':Nat}(I:Inv X Zt σ H s)(u:Un X.fs [] H H' s.heap h')(hok:HOk X.prog X.w H' h'):Inv X Zt σ H' {s with heap:=h',toks:=t'}:=by
 obtain⟨m,⟨o,es,ep,ho,r⟩,_⟩:=id I.loc;obtain⟨sl,hL⟩:=u.any ho I.free Zy
 exact I.step (g':=s.gens) (d':=s.drawn) (ch:=[]) (fun _ z=>nomatch z) (fun b o _ hb _ e n=>u.keep b o e n hb Zy) (fun b o _ hb _ e n=>u.slot b o e n hb Zy) (fun b o _ e n=>u.free b o e n Zy) (fun b o _ e=>u.there b o e Zy) u.tups u.frzs u.tbls (fun m' hm=>by
  obtain⟨o',dE,aE,jv,r'⟩:=hm;rw[ho]at jv;cases jv
  exact⟨_,dE,aE,hL,r'⟩) hok I.bare
theorem Inv.call{g':Array GenState}{t':Nat}{d':Drawn}{ch:List Addr}(I:Inv X Zt σ H s)(u:Un (frs X.stack) ch H H' s.heap h')(hok:HOk X.prog X.w H' h')(hg:AllBare g')
  (l9:∀b∈ch,(b∈X.ex\/X.s₀.heap.objs.size<=b)/\b≠X.env.locals/\(∀x c,X.env.cells.lookup x=some c->c≠b)/\∀p∈X.pn++Zt,p.1≠b):
  Inv X Zt σ H' {s with heap:=h',gens:=g',drawn:=d',toks:=t'}:=by
 obtain⟨m,⟨o,es,ep,ho,r⟩,_⟩:=id I.loc;obtain⟨sl,hL⟩:=u.any ho I.free fun z=>(l9 _ z).2.1 rfl
 exact I.step (ch:=ch) l9 (fun b o hL hb hc e n=>u.keep b o e n (fun z=>(zAo.mp (I.stkSub b z)).elim hL hb) hc) (fun b o _ _ hc e n=>u.any e n hc) (fun b o hc e n=>u.free b o e n hc) (fun b o hc e=>u.there b o e hc) u.tups u.frzs u.tbls (fun m' hm=>by
  obtain⟨o',dE,aE,jv,r'⟩:=hm;rw[ho]at jv;cases jv
  exact⟨_,dE,aE,hL,r'⟩) hok hg
theorem Inv.turned{t':Nat}{it:Addr}(I:Inv X Zt σ H s)(k:∀b o,b≠it->s.heap.get? b=some o->h'.get? b=some o)(hn:H it=none)(hL:it≠X.env.locals)
  (h1:it∈X.ex\/X.s₀.heap.objs.size<=it) (h2:∀x c,X.env.cells.lookup x=some c->c≠it) (h3:∀p∈X.pn++Zt,p.1≠it):Inv X Zt σ H {s with heap:=h',toks:=t'}:=by
 have Kx:∀b u,H b=some u->b≠it:=fun b u e z=>by rw[z,hn]at e;cases e
 refine I.step (g':=s.gens) (d':=s.drawn) (ch:=[it]) (fun b hb=>?_) (fun b o _ _ hc e _=>k b o (fun z=>hc (by simp[z])) e) (fun b o _ _ hc e _=>⟨o.slots,k b o (fun z=>hc (by simp[z])) e⟩) (fun _ _ _ _ n=>n)
  (fun b o hc e=>⟨o,k b o (fun z=>hc (by simp[z])) e⟩) (fun _ _ e=>e) (fun _ _ _ e=>e) (fun b ps e=>⟨#[],by rw[e];simp⟩) (fun m hm=>?_) (fun b u e=>?_) I.bare
 .have e:b=it:=by simpa using hb
  subst e;exact⟨h1,hL,h2,h3⟩
 .obtain⟨o,es,ep,ho,r⟩:=hm;exact⟨o,es,ep,k _ o (Ne.symm hL) ho,r⟩
 .refine(I.hok b u e).stay (fun c v hc q=>k c v ?_ q) (fun _ q=>q) fun _ _ q=>q;rcases hc with z|z
  .rw[z];exact Kx b u e
  .exact Kx c _ z
theorem Inv.tok(I:Inv X Zt σ H s)(t:Nat):Inv X Zt σ H {s with toks:=t}:=I.un (h':=s.heap) (t':=t) Un.refl I.hok
theorem Inv.kept{t':Nat}(I:Inv X Zt σ H s)(k:∀b u,s.heap.get? b=some u->h'.get? b=some u):Inv X Zt σ H {s with heap:=h',toks:=t'}:=I.un (Un.kept k) (I.hok.kept k)
theorem Inv.laid{a:Addr}{o:HO}{t':Nat}(I:Inv X Zt σ H s)(k:∀b u,s.heap.get? b=some u->h'.get? b=some u)(hp:s.heap.objs.size<=a)(new:ObjOk X.prog X.w (upd H a o) h' a o):
  Inv X Zt σ (upd H a o) {s with heap:=h',toks:=t'}:=I.un (Un.laid k hp (I.hok.fresh hp)) (I.hok.laid k hp new)
theorem Inv.write{x e:Addr}{o:HO}{t':Nat}(I:Inv X Zt σ H s)(mu:Mut (H x))(he:e=x\/H e=some (.own x))(k:∀b u,b≠e->s.heap.get? b=some u->h'.get? b=some u)(vc:∃u,h'.get? e=some u)
  (new:ObjOk X.prog X.w (upd H x o) h' x o):Inv X Zt σ (upd H x o) {s with heap:=h',toks:=t'}:=I.un (Un.write mu he k vc) (I.hok.write mu he k vc new)
theorem Inv.pins_of{nS:List (Addr×Obj)}(I:Inv X Zt σ H s)(h:∀p∈nS,s.heap.get? p.1=some p.2/\H p.1=none/\p.1≠X.env.locals/\p.1∉X.fs/\∀v,p.2.data≠.cell v):Inv X nS σ H s:=
 ⟨I.ok,I.os,I.bare,I.base,I.loc,I.cell,I.free,I.freeC,fun p hp=>(zA6.mp hp).elim (fun z=>I.pin p (List.mem_append_left _ z)) (h p),I.hok,I.len⟩
theorem sO{N:List Str}(hN:N.Nodup){i j:Nat}{x:Str}(a:N[i]?=some x)(b:N[j]?=some x):i=j:=by
 obtain⟨h1,e1⟩:=zAa.mp a;obtain⟨h2,e2⟩:=zAa.mp b;exact(List.getElem_inj hN).mp (e1.trans e2.symm)
theorem oA{M:Model}{A:Around}{E:Value->Shared->Prop}{i:Nat}{x:Str}{v:V}{u:Value}{Q:Unit->Shared->Prop}(I:Inv X Zt σ H s)(hN:X.N.Nodup)(hi:X.N[i]?=some x)(hx:Loc X.env.scope x)(r:RelV v u)
  (h:∀s',Inv X Zt (σ.set i (some v)) H s'->(∃a,Heap.SameBut a s.heap s'.heap/\(a=X.env.locals\/X.env.cells.lookup x=some a))->Q () s') (hf:X.fn x=true\/X.env.scope.names.lookup x=some .local:=by first|exact .inl rfl|exact .inr rfl|assumption):wpAny M A (storeName X.env x u) Q E s:=by
 obtain⟨m,hn,hl⟩:=id I.loc;have DA:(X.env.scope.kind==.class||(X.env.scope.kind==.module&&X.env.locals != X.env.globals))=false:=by rw[I.ok.kind];rfl
 have xB:i<σ.length:=by rw[I.len];exact(zAa.mp hi).1
 have cne:=I.cne
 have tracked:∀{a:Addr} {h':Heap},(∃o,s.heap.get? a=some o/\H a=none)->Heap.SameBut a s.heap h'->HOk X.prog X.w H h':=fun{a h'} ha hs b ob e=>by
  obtain⟨_,_,hfree⟩:=ha;refine(I.hok b ob e).stay (fun c w' hc q=>(hs.2 c ?_).trans q) (fun _ q=>q) fun _ _ q=>q;rintro rfl;rcases hc with rfl|hc
  .rw[hfree]at e;cases e
  .rw[hfree]at hc;cases hc
 rcases hx with hk|hk
 .refine wpAny_storeName_local hk hn (fun h' xC hs=>?_) DA;obtain⟨oL,_,_,M9,_⟩:=id hn;refine h _ ⟨I.ok,I.os,I.bare,⟨fun b o e n hb hx=>?_,fun b o e n hb hx=>?_,I.base.free,fun b o e hx=>?_,I.base.tups,I.base.frzs,I.base.tbls⟩,⟨_,xC,fun j y v' e1 e2 e3=>?_⟩,fun y c e=>?_,I.free,I.freeC,fun p hp=>?_,tracked ⟨oL,M9,I.free⟩ hs,by simpa using I.len⟩ ⟨_,hs,.inl rfl⟩
  .exact(hs.2 b (zB8 (zB6 (zB0 e) I.ok.above))).trans (I.base.keep b o e n hb hx)
  .obtain⟨sl,e1⟩:=I.base.slot b o e n hb hx;exact⟨sl,(hs.2 b (zB8 (zB6 (zB0 e) I.ok.above))).trans e1⟩
  .obtain⟨o',e1⟩:=I.base.there b o e hx;exact⟨o',(hs.2 b (zB8 (zB6 (zB0 e) I.ok.above))).trans e1⟩
  .by_cases hj:j=i
   .subst hj;rw[hi]at e1;cases e1;rw[List.getElem?_set_self xB]at e2;cases e2;exact⟨u,r,.inl ⟨hk,by simp⟩⟩
   .rw[List.getElem?_set_ne (Ne.symm hj)]at e2;obtain⟨u',r',q⟩:=hl j y v' e1 e2 e3;refine⟨u',r',?_⟩;rcases q with⟨k,e⟩|⟨k,c,e,z⟩
    .refine .inl ⟨k,?_⟩;have:y≠x:=fun e=>hj (sO hN e1 (e▸hi));simp[this,e]
    .exact .inr ⟨k,c,e,z.sameBut hs (cne y c e)⟩
  .obtain⟨w',z⟩:=I.cell y c e;exact⟨w',z.sameBut hs (cne y c e)⟩
  .obtain⟨e,n,ne,nf,d⟩:=I.pin p hp;exact⟨(hs.2 p.1 ne).trans e,n,ne,nf,d⟩
 .have DB:X.fn x=true:=by
   rcases hf with z|z
   .exact z
   .rw[z]at hk;cases hk
  obtain⟨c,hc⟩:=I.ok.has x (.inl hk);obtain⟨w',z⟩:=I.cell x c hc;refine wpAny_storeName_cell I.ok.kind hk hc z (fun h' ai hs=>?_);obtain⟨oc,KA,DC⟩:=id z;refine h {s with heap:=h'} ⟨I.ok,I.os,I.bare,⟨fun b o e n hb hx=>?_,fun b o e n hb hx=>?_,I.base.free,fun b o e hx=>?_,I.base.tups,I.base.frzs,I.base.tbls⟩,⟨m,hn.sameBut hs (Ne.symm (cne x c hc)),fun j y v' e1 e2 e3=>?_⟩,fun y c' e=>?_,I.free,I.freeC,fun p hp=>?_,tracked ⟨oc,KA,I.freeC x c hc⟩ hs,by simpa using I.len⟩ ⟨c,hs,.inr hc⟩
  .exact(hs.2 b (zB8 (zB6 (zB0 e) (I.ok.cab x c DB hc)))).trans (I.base.keep b o e n hb hx)
  .obtain⟨sl,e1⟩:=I.base.slot b o e n hb hx;exact⟨sl,(hs.2 b (zB8 (zB6 (zB0 e) (I.ok.cab x c DB hc)))).trans e1⟩
  .obtain⟨o',e1⟩:=I.base.there b o e hx;exact⟨o',(hs.2 b (zB8 (zB6 (zB0 e) (I.ok.cab x c DB hc)))).trans e1⟩
  .by_cases hj:j=i
   .subst hj;rw[hi]at e1;cases e1;rw[List.getElem?_set_self xB]at e2;cases e2;exact⟨u,r,.inr ⟨.inl hk,c,hc,ai⟩⟩
   .rw[List.getElem?_set_ne (Ne.symm hj)]at e2;obtain⟨u',r',q⟩:=hl j y v' e1 e2 e3;refine⟨u',r',?_⟩;rcases q with q|⟨k,c',e,z'⟩
    .exact .inl q
    .refine .inr ⟨k,c',e,z'.sameBut hs ?_⟩;rintro rfl;exact hj (sO hN e1 (I.ok.inj _ _ _ e hc▸hi))
  .by_cases KG:c'=c
   .subst KG;exact⟨_,ai⟩
   .obtain⟨w2,z2⟩:=I.cell y c' e;exact⟨w2,z2.sameBut hs KG⟩
  .obtain⟨e,n,ne,nf,d⟩:=I.pin p hp;refine⟨(hs.2 p.1 ?_).trans e,n,ne,nf,d⟩;intro q;rw[q,KA]at e;have q':oc=p.2:=zAl e;exact d w' (by rw[<-q'];exact DC)
theorem gG{M:Model}{A:Around}{E:Value->Shared->Prop}{i:Nat}{x:Str}{v:V}{u:Value}{Q:Unit->Shared->Prop}(I:Inv X Zt σ H s)(hN:X.N.Nodup)(hi:X.N[i]?=some x)(hx:Loc X.env.scope x)(r:RelV v u)
  (h:∀s',Inv X Zt (σ.set i (some v)) H s'->Q () s') (hf:X.fn x=true\/X.env.scope.names.lookup x=some .local:=by first|exact .inl rfl|exact .inr rfl|assumption):wpAny M A (storeName X.env x u) Q E s:=
 oA I hN hi hx r (fun s' I' _=>h s' I') hf
theorem Inv.call'{s':Shared}{ch:List Addr}(I:Inv X Zt σ H s)(ho:s'.os=s.os)(u:Un (frs X.stack) ch H H' s.heap s'.heap)(hok:HOk X.prog X.w H' s'.heap)(hg:AllBare s'.gens)
  (l9:∀b∈ch,(b∈X.ex\/X.s₀.heap.objs.size<=b)/\b≠X.env.locals/\(∀x c,X.env.cells.lookup x=some c->c≠b)/\∀p∈X.pn++Zt,p.1≠b):Inv X Zt σ H' s':=by
 obtain⟨h',g',d',t',o'⟩:=s';have e:o'=s.os:=ho;subst e;exact I.call (g':=g') (t':=t') (d':=d') u hok hg l9
end
abbrev XK:=Value->Option Addr->Hp->Prop
abbrev St:=List (Option V)
abbrev VK:=V->Hp->Prop
abbrev TE:=St->Hp->VK->Prop
abbrev TT:=St->Hp->(Bool->Hp->Prop)->Prop
abbrev TA:=St->Hp->(List V->Hp->Prop)->Prop
structure Ends where
 nx:St->Hp->Prop
 rt:VK
 bk:St->Hp->Prop:=fun _ _=>False
 ct:St->Hp->Prop:=fun _ _=>False
abbrev TS:=Ends->St->Hp->Prop
def EP(X:Cx)(Zt:List (Addr×Obj))(σ:St)(Q:VK)(u:Value)(s':Shared):Prop:=∃v H',Inv X Zt σ H' s'/\RelV v u/\Q v H'
def TP(X:Cx)(Zt:List (Addr×Obj))(σ:St)(Q:Bool->Hp->Prop)(b:Bool)(s':Shared):Prop:=∃H',Inv X Zt σ H' s'/\Q b H'
def AP(X:Cx)(Zt:List (Addr×Obj))(σ:St)(Q:List V->Hp->Prop)(us:List Value)(s':Shared):Prop:=∃vs H',Inv X Zt σ H' s'/\Vals vs us/\Q vs H'
def SP(X:Cx)(Zt:List (Addr×Obj))(D:Ends)(f:Flow)(s':Shared):Prop:=
 match f with
 |.next=>∃ah H',Inv X Zt ah H' s'/\D.nx ah H'
 |.brk=>∃ah H',Inv X Zt ah H' s'/\D.bk ah H'
 |.cont=>∃ah H',Inv X Zt ah H' s'/\D.ct ah H'
 |.ret u=>∃v ah H',Inv X Zt ah H' s'/\RelV v u/\D.rt v H'
def PE(X:Cx)(e:Expr)(t:TE):Prop:=
 ∀(Zt:List (Addr×Obj)) (s:Shared) (σ:St) (H:Hp) (Q:VK),Inv X Zt σ H s->t σ H Q->wpAny (model X.prog X.w) X.A (eval e X.env) (EP X Zt σ Q) X.xe s
def PT(X:Cx)(e:Expr)(t:TT):Prop:=
 ∀(Zt:List (Addr×Obj)) (s:Shared) (σ:St) (H:Hp) (Q:Bool->Hp->Prop),Inv X Zt σ H s->t σ H Q->wpAny (model X.prog X.w) X.A (isTrue e X.env (eval e X.env)) (TP X Zt σ Q) X.xe s
def PW(X:Cx)(e:Expr)(t:TT):Prop:=
 ∀(whole:Sem Value) (Zt:List (Addr×Obj)) (s:Shared) (σ:St) (H:Hp) (Q:Bool->Hp->Prop),Inv X Zt σ H s->t σ H Q->wpAny (model X.prog X.w) X.A (isTrue e X.env whole) (TP X Zt σ Q) X.xe s
theorem PW.pt{X:Cx}{e:Expr}{t:TT}(h:PW X e t):PT X e t:=h _
def PA(X:Cx)(es:List Expr)(t:TA):Prop:=
 ∀(pos:Pos) (Zt:List (Addr×Obj)) (s:Shared) (σ:St) (H:Hp) (Q:List V->Hp->Prop),Inv X Zt σ H s->t σ H Q->wpAny (model X.prog X.w) X.A (spliced (backTo pos (starEach es X.env))) (AP X Zt σ Q) X.xe s
def PS(X:Cx)(st:Stmt)(t:TS):Prop:=
 ∀(Zt:List (Addr×Obj)) (s:Shared) (σ:St) (H:Hp) (D:Ends),Inv X Zt σ H s->t D σ H->wpAny (model X.prog X.w) X.A (exec st X.env) (SP X Zt D) X.xe s
def PSs(X:Cx)(st:List Stmt)(t:TS):Prop:=
 ∀(Zt:List (Addr×Obj)) (s:Shared) (σ:St) (H:Hp) (D:Ends),Inv X Zt σ H s->t D σ H->wpAny (model X.prog X.w) X.A (execs st X.env) (SP X Zt D) X.xe s
theorem thn{α:Type}{t:Sem α}{Q Q':α->Shared->Prop}{M:Model}{A:Around}{E:Value->Shared->Prop}{s:Shared}(h:wpAny M A t Q E s)(hQ:∀a s,Q a s->Q' a s):wpAny M A t Q' E s:=wpAny_mono h hQ fun _ _ x=>x
section
variable{X:Cx}
theorem bin{a b:Expr}{ta tb:TE}(ha:PE X a ta)(hb:PE X b tb){Zt:List (Addr×Obj)}{s:Shared}{σ:St}{H:Hp}{R:V->V->Hp->Prop}(I:Inv X Zt σ H s)(h:ta σ H fun x H1=>tb σ H1 fun y H2=>R x y H2)
  {α:Type} {Q:α->Shared->Prop} {f:Value->Value->Sem α}
  (hf:∀v u s2 x y H2,Inv X Zt σ H2 s2->RelV x v->RelV y u->R x y H2->wpAny (model X.prog X.w) X.A (f v u) Q X.xe s2):
  wpAny (model X.prog X.w) X.A (eval a X.env) (fun v s₁=>wpAny (model X.prog X.w) X.A (eval b X.env) (fun u s₂=>wpAny (model X.prog X.w) X.A (f v u) Q X.xe s₂) X.xe s₁) X.xe s:=by
 refine thn (ha Zt s σ H _ I h) fun v s1=>?_;rintro⟨x,H1,I1,r1,q1⟩;refine thn (hb Zt s1 σ H1 _ I1 q1) fun u s2=>?_;rintro⟨y,H2,I2,r2,q2⟩;exact hf v u s2 x y H2 I2 r1 r2 q2
inductive TVarI(i:Nat)(σ:St)(H:Hp)(Q:VK):Prop
 |mk:∀v,(σ[i]?=some (some v))->(Q v H)->TVarI i σ H Q
def CW(i:Nat):TE:=fun σ H Q=>TVarI i σ H Q
def tC(v:V):TE:=fun _ H Q=>Q v H
theorem Gn{i:Nat}{x:Str}{pos:Pos}(hN:X.N[i]?=some x)(hv:Vis X.env.scope x)(hd:(x==("__debug__":Str))=false:=by decide)(jI:(x==("__classdict__":Str))=false:=by decide):PE X (.Name x pos) (CW i):=by
 intro Zt s σ H Q I h;obtain⟨v,e,h⟩:=h;obtain⟨m,hn,hl⟩:=I.loc;obtain⟨u,r,l⟩:=hl i x v hN e hv
 have fin:EP X Zt σ Q u s:=⟨v,H,I,r,h⟩
 rcases l with⟨hk,hm⟩|⟨hk,c,hc,hcell⟩
 .exact wpAny_Name (wpAny_loadName_local I.ok.kind hk hn hm fin) hd
 .rcases hk with hk|hk
  .exact wpAny_Name (wpAny_loadName_cell I.ok.kind hk hc hcell fin) hd
  .exact wpAny_Name (wpAny_loadName_free I.ok.kind hk hc hcell fin jI) hd
theorem az{i j pos}:PE X (.Constant (.int i) j pos) (tC (.int i)):=fun _ _ _ H _ I h=>wpAny_Constant_int ⟨.int i,H,I.tok _,⟨_,rfl⟩,h⟩
theorem jG{b j pos}:PE X (.Constant (.bool b) j pos) (tC (.bl b)):=fun _ _ _ H _ I h=>Constant_bool ⟨.bl b,H,I,rfl,h⟩
theorem qm{j pos}:PE X (.Constant .none j pos) (tC .non):=fun _ _ _ H _ I h=>Constant_none ⟨.non,H,I,rfl,h⟩
def Gl(X:Cx)(x:Str):Prop:=X.env.kindOf x=some .globalImplicit
theorem vX{E:Value->Shared->Prop}{Zt:List (Addr×Obj)}{s:Shared}{σ:St}{H:Hp}{x:Str}{u:Value}{pos:Pos}{Q:Value->Shared->Prop}(I:Inv X Zt σ H s)(hg:Gl X x)(hm:X.mg x=some u)(h:Q u s)
  (hd:(x==("__debug__":Str))=false:=by decide):wpAny (model X.prog X.w) X.A (eval (.Name x pos) X.env) Q E s:=
 Calls.Name_function_global I.ok.kind hg (Calls.loadGlobal_global (by rw[I.ok.glob];exact I.mod.glob.keeps I.bk) hm h) hd
theorem gb{E:Value->Shared->Prop}{Zt:List (Addr×Obj)}{s:Shared}{σ:St}{H:Hp}{x:Str}{u:Value}{pos:Pos}{Q:Value->Shared->Prop}(I:Inv X Zt σ H s)(hg:Gl X x)(hm:X.mg x=none)(hv:bootBuiltins x=some u)(h:Q u s)
  (hn:x≠"__name__":=by decide) (hd:(x==("__debug__":Str))=false:=by decide):wpAny (model X.prog X.w) X.A (eval (.Name x pos) X.env) Q E s:=by
 obtain⟨mb,h1,h2⟩:=I.mod.blt;exact Calls.Name_function_global I.ok.kind hg (Calls.loadGlobal_builtin (by rw[I.ok.glob];exact I.mod.glob.keeps I.bk) hm (by rw[I.ok.blt];exact h1.keeps I.bk) ((h2 x hn).trans hv) h) hd
theorem bR{x:Str}{v:V}{u:Value}{pos:Pos}(hg:Gl X x)(hm:X.mg x=some u)(r:RelV v u)(hd:(x==("__debug__":Str))=false:=by decide):PE X (.Name x pos) (tC v):=
 fun _ _ _ H _ I h=>vX I hg hm ⟨v,H,I,r,h⟩ hd
theorem qp{x:Str}{v:V}{u:Value}{pos:Pos}(hg:Gl X x)(hm:X.mg x=none)(hv:bootBuiltins x=some u)(r:RelV v u)(hn:x≠"__name__":=by decide)(hd:(x==("__debug__":Str))=false:=by decide):PE X (.Name x pos) (tC v):=
 fun _ _ _ H _ I h=>gb I hg hm hv ⟨v,H,I,r,h⟩ hn hd
variable{a b:Expr}{ta tb:TE}{pos:Pos}
def PC(X:Cx)(op:CmpOp)(a b:Expr)(t:TE):Prop:=
 ∀(Zt:List (Addr×Obj)) (s:Shared) (σ:St) (H:Hp) (Q:VK),Inv X Zt σ H s->t σ H Q->
  wpAny (model X.prog X.w) X.A (eval a X.env) (fun v s₁=>wpAny (model X.prog X.w) X.A (eval b X.env) (fun u s₂=>wpAny (model X.prog X.w) X.A (compareOp op v u) (EP X Zt σ Q) X.xe s₂) X.xe s₁) X.xe s
def tB(t:TE):TT:=fun σ H Q=>t σ H fun x H1=>∃c,x=.bl c/\Q c H1
theorem Gp{op:CmpOp}{t:TE}(h:PC X op a b t)(h1:behindInMarks op b=false:=by first|exact nobehind _ Zx Zx|rfl):PT X (.Compare a [op] [b] pos) (tB t):=by
 intro Zt s σ H Q I hw;refine wpAny_isTrue_Compare1 (thn (h Zt s σ H _ I hw) fun v s1 h1=>thn h1 fun u s2 h2=>thn h2 fun c s3=>?_) h1;rintro⟨x,H1,I1,r1,q1⟩;obtain⟨d,rfl,q⟩:=q1;cases r1;exact wpAny_truthy_bool ⟨H1,I1,q⟩
theorem eF{e:Expr}{t:TE}(h:PE X e t)(he:∀whole,isTrue e X.env whole=(do let v <-whole;standAt e.pos;holding [v] (truthy v)):=by intro _;rfl):PT X e (tB t):=by
 intro Zt s σ H Q I hw;refine isTrue_plain (thn (h Zt s σ H _ I hw) fun v s1=>?_) (he _);rintro⟨x,H1,I1,r1,q1⟩;obtain⟨d,rfl,q⟩:=q1;cases r1;exact wpAny_truthy_bool ⟨H1,I1,q⟩
variable{tA Cf:TT}{rest:List Expr}
def K6(t u:TT):TT:=fun σ H Q=>t σ H fun c H1=>if c=true then u σ H1 Q else Q false H1
def tOr(t u:TT):TT:=fun σ H Q=>t σ H fun c H1=>if c=true then Q true H1 else u σ H1 Q
def K7(t:TT):TT:=fun σ H Q=>t σ H fun c H1=>Q (!c) H1
theorem vY(ha:PT X a tA):PW X (.BoolOp .And [a] pos) tA:=by
 intro wh Zt s σ H Q I h;refine isTrue_and (thn (ha Zt s σ H Q I h) fun c s1 e=>?_)
 cases c with
 |true=>exact isTrue_and_nil e
 |false=>exact e
theorem qt(ha:PT X a tA):PW X (.BoolOp .Or [a] pos) tA:=by
 intro wh Zt s σ H Q I h;refine isTrue_or (thn (ha Zt s σ H Q I h) fun c s1 e=>?_)
 cases c with
 |false=>exact isTrue_or_nil e
 |true=>exact e
theorem yZ(ha:PT X a tA)(hb:PW X (.BoolOp .And (b::rest) pos) Cf):PW X (.BoolOp .And (a::b::rest) pos) (K6 tA Cf):=by
 intro wh Zt s σ H Q I h;refine isTrue_and (thn (ha Zt s σ H _ I h) fun c s1=>?_);rintro⟨H1,I1,q1⟩
 cases c with
 |true=>exact hb wh Zt s1 σ H1 Q I1 q1
 |false=>exact⟨H1,I1,q1⟩
theorem km(ha:PT X a tA)(hb:PW X (.BoolOp .Or (b::rest) pos) Cf):PW X (.BoolOp .Or (a::b::rest) pos) (tOr tA Cf):=by
 intro wh Zt s σ H Q I h;refine isTrue_or (thn (ha Zt s σ H _ I h) fun c s1=>?_);rintro⟨H1,I1,q1⟩
 cases c with
 |true=>exact⟨H1,I1,q1⟩
 |false=>exact hb wh Zt s1 σ H1 Q I1 q1
theorem cX(ha:PT X a tA):PT X (.UnaryOp .Not a pos) (K7 tA):=by
 intro Zt s σ H Q I h;exact isTrue_not (ha Zt s σ H (fun c H1=>Q (!c) H1) I h)
def Fz(ta tb:TE):TE:=fun σ H Q=>ta σ H fun x H1=>∃c,x=.bl c/\if c=true then tb σ H1 Q else Q (.bl false) H1
def Ik(ta:TE):TE:=fun σ H Q=>ta σ H fun x H1=>∃c,x=.bl c/\Q (.bl (!c)) H1
theorem dC{op}{t:TE}(h:PE X a t):PE X (.BoolOp op [a] pos) t:=fun Zt s σ H Q I hw=>BoolOp_one (h Zt s σ H Q I hw)
theorem bY(ha:PE X a ta)(hb:PE X (.BoolOp .And (b::rest) pos) tb):PE X (.BoolOp .And (a::b::rest) pos) (Fz ta tb):=by
 intro Zt s σ H Q I h;refine BoolOp_and (thn (ha Zt s σ H _ I h) fun v s1=>?_);rintro⟨x,H1,I1,r1,q1⟩;obtain⟨c,rfl,q1⟩:=q1;cases r1;refine wpAny_truthy_bool ?_
 cases c with
 |true=>exact hb Zt s1 σ H1 Q I1 q1
 |false=>exact⟨.bl false,H1,I1,rfl,q1⟩
theorem Gq(ha:PE X a ta):PE X (.UnaryOp .Not a pos) (Ik ta):=by
 intro Zt s σ H Q I h;refine UnaryOp_ (thn (ha Zt s σ H _ I h) fun v s1=>?_);rintro⟨x,H1,I1,r1,q1⟩;obtain⟨c,rfl,q1⟩:=q1;cases r1;exact not_of (wpAny_truthy_bool ⟨.bl (!c),H1,I1,rfl,q1⟩)
def tIf(t:TT)(ta tb:TE):TE:=fun σ H Q=>t σ H fun c H1=>if c=true then ta σ H1 Q else tb σ H1 Q
theorem za{c:Expr}(hc:PT X c tA)(ha:PE X a ta)(hb:PE X b tb):PE X (.IfExp c a b pos) (tIf tA ta tb):=by
 intro Zt s σ H Q I h;refine wpAny_IfExp (thn (hc Zt s σ H _ I h) fun d s1=>?_);rintro⟨H1,I1,q1⟩
 cases d with
 |true=>exact ha Zt s1 σ H1 Q I1 q1
 |false=>exact hb Zt s1 σ H1 Q I1 q1
end
def SqL(K:Frag)(H:Hp)(a:Addr)(xs:List V):Prop:=
 Rd H a (.lst xs) \/
  ∃(o:Obj) (Zr:Array Value) (n:Nat),K.lookup a=some o/\o.cls=.type "list"/\o.dict=none/\o.data=.seq Zr n/\Zr.size<=sizeLine/\Vals xs Zr.toList
def SqT(K:Frag)(H:Hp)(a:Addr)(xs:List V):Prop:=
 Rd H a (.tup xs) \/
  ∃(o:Obj) (Zr:Array Value) (n:Nat),K.lookup a=some o/\o.cls=.type "tuple"/\o.data=.seq Zr n/\Zr.size<=sizeLine/\Vals xs Zr.toList
def K8:Value->Option V
 |.none=>some .non
 |.bool b=>some (.bl b)
 |.int i _=>some (.int i)
 |.str x _=>some (.str x)
 |.bytes b _=>some (.byt b)
 |.float b _=>some (.flt b)
 |.ref a=>some (.ref a)
 |.type n=>some (.ty n)
 |_=>none
theorem RelV.abs{x:V}{u:Value}(r:RelV x u):K8 u=some x:=by
 cases x with
 |non=>cases r;rfl
 |bl _=>cases r;rfl
 |int _=>obtain⟨t,rfl⟩:=r;rfl
 |str _=>obtain⟨t,rfl⟩:=r;rfl
 |byt _=>obtain⟨t,rfl⟩:=r;rfl
 |flt _=>obtain⟨t,rfl⟩:=r;rfl
 |ref _=>cases r;rfl
 |ty _=>cases r;rfl
theorem RelV.inj{x y:V}{u:Value}(r:RelV x u)(q:RelV y u):x=y:=zAl (r.abs.symm.trans q.abs)
theorem Vals.inj:∀{xs ys:List V} {us:List Value},Vals xs us->Vals ys us->xs=ys
 |_,_,_,.nil,.nil=>rfl
 |_,_,_,.cons r t,.cons r' t'=>by rw[r.inj r',Vals.inj t t']
section
variable{X:Cx}{Zt:List (Addr×Obj)}{σ:St}{H:Hp}{s:Shared}{a:Addr}{xs ys:List V}
theorem SqL.of{K:Frag}(h:H a=some (.lst xs)):SqL K H a xs:=.inl (.inl h)
theorem SqT.of{K:Frag}(h:H a=some (.tup xs)):SqT K H a xs:=.inl (.inl h)
theorem Inv.list(I:Inv X Zt σ H s)(h:SqL X.K H a xs):∃Zr:List Value,Vals xs Zr/\PlainL s.heap a Zr.toArray/\xs.length<=sizeLine:=by
 rcases h with h|⟨o,Zr,n,hk,hc,hd,hs,hz,r⟩
 .obtain⟨z,Zr,n,r,e⟩:=h.ok I.hok;exact⟨Zr,r,⟨_,n,e,rfl,rfl,rfl⟩,z⟩
 .refine⟨Zr.toList,r,⟨o,n,I.kIn a o hk,hc,hd,by simpa using hs⟩,?_⟩;have e:=r.length;simp only[Array.length_toList]at e;lia
theorem Inv.tuple(I:Inv X Zt σ H s)(h:SqT X.K H a xs):∃Zr:List Value,Vals xs Zr/\IsTup s.heap a Zr.toArray/\xs.length<=sizeLine:=by
 rcases h with h|⟨o,Zr,n,hk,hc,hs,hz,r⟩
 .obtain⟨z,Zr,r,p⟩:=h.ok I.hok;exact⟨Zr,r,p,z⟩
 .refine⟨Zr.toList,r,⟨o,I.kIn a o hk,hc,n,by simpa using hs⟩,?_⟩;have e:=r.length;simp only[Array.length_toList]at e;lia
theorem Inv.list_inj(I:Inv X Zt σ H s)(h:SqL X.K H a xs)(h':SqL X.K H a ys):xs=ys:=by
 obtain⟨Zr,r,⟨o,n,e,_,_,d⟩,_⟩:=I.list h;obtain⟨its',r',⟨o',n',e',_,_,d'⟩,_⟩:=I.list h';rw[e]at e';cases e';rw[d]at d';injection d' with d1 _;have:Zr=its':=by simpa using congrArg Array.toList d1
 subst this;exact r.inj r'
theorem Inv.tuple_inj(I:Inv X Zt σ H s)(h:SqT X.K H a xs)(h':SqT X.K H a ys):xs=ys:=by
 obtain⟨Zr,r,⟨o,e,_,n,d⟩,_⟩:=I.tuple h;obtain⟨its',r',⟨o',e',_,n',d'⟩,_⟩:=I.tuple h';rw[e]at e';cases e';rw[d]at d';injection d' with d1 _;have:Zr=its':=by simpa using congrArg Array.toList d1
 subst this;exact r.inj r'
end
abbrev Cx.wish(X:Cx)(E:Value->Shared->Prop):Cx:={X with xe:=E}
abbrev Cx.nox(X:Cx):Cx:=X.wish fun _ _=>False
theorem Cx.Ok.wish{X:Cx}(ok:X.Ok)(E:Value->Shared->Prop):(X.wish E).Ok:=
 ⟨ok.mod,ok.kind,ok.glob,ok.blt,ok.above,ok.inj,ok.has,ok.cab,ok.hd,ok.frames,ok.stk,ok.exf,ok.bs,ok.bsz,ok.noex,ok.exfs,ok.funs,ok.frf⟩
theorem Cx.Ok.unwish{X:Cx}{E:Value->Shared->Prop}(ok:(X.wish E).Ok):X.Ok:=
 ⟨ok.mod,ok.kind,ok.glob,ok.blt,ok.above,ok.inj,ok.has,ok.cab,ok.hd,ok.frames,ok.stk,ok.exf,ok.bs,ok.bsz,ok.noex,ok.exfs,ok.funs,ok.frf⟩
section
variable{X:Cx}{Zt:List (Addr×Obj)}{σ:St}{H:Hp}{s:Shared}{E:Value->Shared->Prop}
theorem Inv.wish(I:Inv X Zt σ H s)(E:Value->Shared->Prop):Inv (X.wish E) Zt σ H s:=⟨I.ok.wish E,I.os,I.bare,I.base,I.loc,I.cell,I.free,I.freeC,I.pin,I.hok,I.len⟩
theorem Inv.unwish(I:Inv (X.wish E) Zt σ H s):Inv X Zt σ H s:=⟨I.ok.unwish,I.os,I.bare,I.base,I.loc,I.cell,I.free,I.freeC,I.pin,I.hok,I.len⟩
theorem SP.unwish{D:Ends}{f:Flow}{s':Shared}(h:SP (X.wish E) Zt D f s'):SP X Zt D f s':=by
 cases f with
 |next=>obtain⟨ah,H',I,q⟩:=h;exact⟨ah,H',I.unwish,q⟩
 |brk=>obtain⟨ah,H',I,q⟩:=h;exact⟨ah,H',I.unwish,q⟩
 |cont=>obtain⟨ah,H',I,q⟩:=h;exact⟨ah,H',I.unwish,q⟩
 |ret u=>obtain⟨v,ah,H',I,r,q⟩:=h;exact⟨v,ah,H',I.unwish,r,q⟩
theorem PSs.nox{st:List Stmt}{t:TS}(h:PSs X.nox st t):PSs X st t:=fun Zt s σ H D I hw=>
 wpAny_mono (h Zt s σ H D (I.wish _) hw) (fun _ _ q=>q.unwish) fun _ _ z=>False.elim z
end
section
variable{X:Cx}{st:Stmt}{rest:List Stmt}{t u:TS}{e:Expr}{te:TE}{pos:Pos}
def FJ:TS:=fun D σ H=>D.nx σ H
def CZ(t u:TS):TS:=fun D σ H=>t {D with nx:=u D} σ H
theorem bf:PSs X [] FJ:=fun _ _ σ H _ I h=>wpAny_execs_nil ⟨σ,H,I,h⟩
theorem aB(h1:PS X st t)(h2:PSs X rest u):PSs X (st::rest) (CZ t u):=by
 intro Zt s σ H D I h;refine wpAny_execs_cons (thn (h1 Zt s σ H {D with nx:=u D} I h) fun f s1 q=>?_)
 cases f with
 |next=>
  obtain⟨ah,H',I',q⟩:=q;exact h2 Zt s1 ah H' D I' q
 |ret v=>exact q
 |brk=>exact q
 |cont=>exact q
theorem aD(h1:PS X st t):PSs X [st] t:=by
 intro Zt s σ H D I h;refine wpAny_execs_cons (thn (h1 Zt s σ H D I h) fun f s1 q=>?_)
 cases f with
 |next=>exact wpAny_execs_nil q
 |ret v=>exact q
 |brk=>exact q
 |cont=>exact q
theorem Inv.quiet{Zt:List (Addr×Obj)}{σ:St}{H:Hp}{s:Shared}(I:Inv X Zt σ H s):interactive X.env=false:=by simp[interactive,I.ok.kind]
def Il(te:TE):TS:=fun D σ H=>te σ H fun _ H1=>D.nx σ H1
theorem cY(he:PE X e te)(hs:swapsWith e none pos.line X.env=pure false:=by rfl):PS X (.Expr e pos) (Il te):=by
 intro Zt s σ H D I h;exact wpAny_Expr_any (thn (he Zt s σ H _ I h) fun v s1=>by rintro⟨x,H1,I1,r1,q1⟩;exact⟨σ,H1,I1,q1⟩) I.quiet hs
def Gr(te:TE):TS:=fun D σ H=>te σ H D.rt
theorem aQ(he:PE X e te):PS X (.Return (some e) pos) (Gr te):=by
 intro Zt s σ H D I h;exact wpAny_Return_some (thn (he Zt s σ H _ I h) fun v s1=>by rintro⟨x,H1,I1,r1,q1⟩;exact⟨x,σ,H1,I1,r1,q1⟩)
def K9(c:TT)(t u:TS):TS:=fun D σ H=>c σ H fun b H1=>if b=true then t D σ H1 else u D σ H1
theorem bZ{c:Expr}{a b:List Stmt}{tc:TT}(hc:PT X c tc)(ha:PSs X a t)(hb:PSs X b u):PS X (.If c a b pos) (K9 tc t u):=by
 intro Zt s σ H D I h;refine wpAny_If (thn (hc Zt s σ H _ I h) fun d s1=>?_);rintro⟨H1,I1,q1⟩
 cases d with
 |true=>exact ha Zt s1 σ H1 D I1 q1
 |false=>exact hb Zt s1 σ H1 D I1 q1
def zb:TS:=fun _ _ _=>False
theorem fM:PS X st zb:=fun _ _ _ _ _ _ h=>h.elim
theorem oE{DD:List Stmt}:PSs X DD zb:=fun _ _ _ _ _ _ h=>h.elim
end
abbrev TG:=V->St->Hp->(St->Hp->Prop)->Prop
abbrev TGs:=List V->St->Hp->(St->Hp->Prop)->Prop
def PG(X:Cx)(target:Expr)(t:TG):Prop:=
 ∀(Zt:List (Addr×Obj)) (s:Shared) (σ:St) (H:Hp) (v:V) (u:Value) (Q:St->Hp->Prop),Inv X Zt σ H s->RelV v u->t v σ H Q->
  wpAny (model X.prog X.w) X.A (assign target X.env u) (fun _ s'=>∃ah H',Inv X Zt ah H' s'/\Q ah H') X.xe s
def PGs(X:Cx)(ts:List Expr)(t:TGs):Prop:=
 ∀(Zt:List (Addr×Obj)) (s:Shared) (σ:St) (H:Hp) (vs:List V) (us:List Value) (Q:St->Hp->Prop),Inv X Zt σ H s->Vals vs us->t vs σ H Q->
  wpAny (model X.prog X.w) X.A (assignInOrder ((assignEach ts X.env).map (·.2)) us) (fun _ s'=>∃ah H',Inv X Zt ah H' s'/\Q ah H') X.xe s
abbrev zc:=V->V->V->Hp->(Hp->Prop)->Prop
def Gs(X:Cx)(t:zc):Prop:=
 ∀(Zt:List (Addr×Obj)) (s:Shared) (σ:St) (H:Hp) (o i v:V) (ov iv u:Value) (Q:Hp->Prop),Inv X Zt σ H s->RelV o ov->RelV i iv->RelV v u->t o i v H Q->
  wpAny (model X.prog X.w) X.A (setItem ov iv u) (fun _ s'=>∃H',Inv X Zt σ H' s'/\Q H') X.xe s
abbrev TIp:=V->V->Hp->VK->Prop
def PIp(X:Cx)(op:Operator)(t:TIp):Prop:=
 ∀(Zt:List (Addr×Obj)) (s:Shared) (σ:St) (H:Hp) (x y:V) (v u:Value) (Q:VK),Inv X Zt σ H s->RelV x v->RelV y u->t x y H Q->
  wpAny (model X.prog X.w) X.A (inplaceOp op v u) (EP X Zt σ Q) X.xe s
section
variable{X:Cx}{pos:Pos}
def bu(i:Nat):TG:=fun v σ H Q=>Q (σ.set i (some v)) H
theorem bw{i:Nat}{x:Str}(hN:X.N.Nodup)(hi:X.N[i]?=some x)(hx:Loc X.env.scope x)(hf:X.fn x=true\/X.env.scope.names.lookup x=some .local:=by first|exact .inl rfl|exact .inr rfl|assumption):PG X (.Name x pos) (bu i):=by
 intro Zt s σ H v u Q I r h;exact wpAny_assign_Name (gG I hN hi hx r (fun s' I'=>⟨_,H,I',h⟩) hf)
def jo:TGs:=fun vs σ H Q=>vs=[]/\Q σ H
def bG(t:TG)(u:TGs):TGs:=fun vs σ H Q=>∃v r,vs=v::r/\t v σ H fun ah H'=>u r ah H' Q
theorem aV:PGs X [] jo:=by
 intro Zt s σ H vs us Q I r h;obtain⟨e,h⟩:=h;subst e;cases r;exact assignInOrder_nil ⟨σ,H,I,h⟩
theorem aq{e:Expr}{es:List Expr}{t:TG}{u:TGs}(h1:PG X e t)(h2:PGs X es u)
  (hs:(assignEach (e::es) X.env).map (·.2)=assign e X.env::(assignEach es X.env).map (·.2):=by rfl):PGs X (e::es) (bG t u):=by
 intro Zt s σ H vs us Q I r h;obtain⟨v,vr,e1,h⟩:=h;subst e1
 cases r with
 |cons r rr=>
  rw[hs];refine assignInOrder_cons (thn (h1 Zt s σ H _ _ _ I r h) fun _ s1=>?_);rintro⟨DE,H1,I1,q1⟩;exact h2 Zt s1 DE H1 _ _ Q I1 rr q1
inductive GTupI(K:Frag)(n:Nat)(t:TGs)(v:V)(σ:St)(H:Hp)(Q:St->Hp->Prop):Prop
 |mk:∀a xs,(v=.ref a)->(SqT K H a xs)->(xs.length=n)->(t xs σ H Q)->GTupI K n t v σ H Q
def j6(K:Frag)(n:Nat)(t:TGs):TG:=fun v σ H Q=>GTupI K n t v σ H Q
theorem bL{es:List Expr}{k:Nat}{t:TGs}{n:Nat}(hc:X.calm=true)(h:PGs X es t)
  (hn:(assignEach es X.env).length=n:=by rfl) (gi:(assignEach es X.env).findIdx? (·.1)=none:=by rfl):PG X (.Tuple es k pos) (j6 X.K n t):=by
 intro Zt s σ H v u Q I r hw;obtain⟨a,xs,e1,hq,hl,hw⟩:=hw;subst e1;cases r;obtain⟨Zr,rv,ht,hz⟩:=I.tuple hq;refine assign_Tuple_tuple (I.ok.hd hc) ht (by simp[hn,<-hl,rv.length]) gi fun h' hx=>?_;have I1:Inv X Zt σ H {s with heap:=h'}:=I.kept (t':=s.toks) fun b o e=>hx b o (Nat.ne_of_lt (Heap.lt_size e)) e;exact h Zt _ σ H xs _ Q I1 (by simpa using rv) hw
def Ka(to ti:TE)(t:zc):TG:=fun v σ H Q=>to σ H fun o H1=>ti σ H1 fun i H2=>t o i v H2 fun H3=>Q σ H3
theorem jq{o i:Expr}{to ti:TE}{t:zc}(ho:PE X o to)(hi:PE X i ti)(hs:Gs X t)
  (ha:∀v,assign (.Subscript o i pos) X.env v=(do
   let ov <-holding [v] (eval o X.env)
   let iv <-holding [v,ov] (eval i X.env)
   standAt pos
   holding [v,ov,iv] (setItem ov iv v)
   release [v,ov,iv] []):=by intro _;rfl):PG X (.Subscript o i pos) (Ka to ti t):=by
 intro Zt s σ H v u Q I r h;rw[ha];refine zAt (wpAny_holding (thn (ho Zt s σ H _ I h) fun ov s1=>?_));rintro⟨x,H1,I1,r1,q1⟩;refine zAt (wpAny_holding (thn (hi Zt s1 σ H1 _ I1 q1) fun iv s2=>?_));rintro⟨y,H2,I2,r2,q2⟩;refine zAt (wpAny_standAt (zAt (wpAny_holding (thn (hs Zt s2 σ H2 x y v ov iv u _ I2 r1 r2 r q2) fun _ s3=>?_))));rintro⟨H3,I3,q3⟩;exact wpAny_release ⟨σ,H3,I3,q3⟩
def xV(te:TE)(g:TG):TS:=fun D σ H=>te σ H fun x H1=>g x σ H1 D.nx
theorem cA{tg e:Expr}{te:TE}{g:TG}(he:PE X e te)(hg:PG X tg g)(hs:swapsWithSole [tg] e pos.line X.env=pure false:=by rfl)(hw:swappedStores [tg] e X.env=pure none:=by rfl)
  (h1:(assignEach [tg] X.env).map (·.2)=[assign tg X.env]:=by rfl):PS X (.Assign [tg] e pos) (xV te g):=by
 intro Zt s σ H D I h;refine wpAny_Assign_stores (thn (he Zt s σ H _ I h) fun v s1=>?_) hs hw;rintro⟨x,H1,I1,r1,q1⟩;rw[h1];exact thn (hg Zt s1 σ H1 x v _ I1 r1 q1) fun _ s2 q=>q
theorem qu{i:Nat}{x:Str}{e:Expr}{te:TE}{pos':Pos}(hN:X.N.Nodup)(hi:X.N[i]?=some x)(hx:Loc X.env.scope x)(he:PE X e te)(hs:swapsWith e (some (.Name x pos')) pos.line X.env=pure false:=by rfl)(hf:X.fn x=true\/X.env.scope.names.lookup x=some .local:=by first|exact .inl rfl|exact .inr rfl|assumption):
  PS X (.Assign [.Name x pos'] e pos) (xV te (bu i)):=by
 intro Zt s σ H D I h;refine wpAny_Assign_Name (thn (he Zt s σ H _ I h) fun v s1=>?_) hs;rintro⟨y,H1,I1,r1,q1⟩;exact gG I1 hN hi hx r1 (fun s2 I2=>⟨_,H1,I2,q1⟩) hf
def Kc(i j:Nat)(ta:TA):TS:=fun D σ H=>ta σ H fun vs H1=>∃v w,vs=[v,w]/\D.nx ((σ.set i (some v)).set j (some w)) H1
theorem Gu{i j:Nat}{x y:Str}{a b:Expr}{ta:TA}{px py pt:Pos}{kt k2 pt2}(hc:X.calm=true)(hN:X.N.Nodup)(hi:X.N[i]?=some x)(hj:X.N[j]?=some y)(cv:i≠j)
  (hx:X.env.scope.names.lookup x=some .local) (hy:X.env.scope.names.lookup y=some .local) (ha:PA X [a,b] ta)
  (hw:swappedStores [.Tuple [.Name x px,.Name y py] kt pt] (.Tuple [a,b] k2 pt2) X.env=pure (some [x,y]))
  (hs:swapsWithSole [.Tuple [.Name x px,.Name y py] kt pt] (.Tuple [a,b] k2 pt2) pos.line X.env=pure false:=by rfl):
  PS X (.Assign [.Tuple [.Name x px,.Name y py] kt pt] (.Tuple [a,b] k2 pt2) pos) (Kc i j ta):=by
 intro Zt s σ H D I h;rw[exec_Assign_arm];refine zAt (wpAny_standAt ?_);rw[hs];refine zAt (zAv ?_);rw[zAx Zx];refine zAt (Tuple_ (thn (ha _ Zt s σ H _ I h) fun us s1=>?_));rintro⟨vs,H1,I1,r1,q1⟩;obtain⟨v,w,e1,q1⟩:=q1;subst e1
 obtain⟨u1,u2,rfl,rv,de⟩:∃u1 u2,us=[u1,u2]/\RelV v u1/\RelV w u2:=by
  cases r1 with
  |cons p q=>
   cases q with
   |cons p' q'=>
    cases q';exact⟨_,_,rfl,p,p'⟩
 refine wpAny_newObj_type ?_ (by show 2<=sizeLine;decide);have I2:Inv X Zt σ H1 {s1 with heap:=s1.heap.push {cls:=.type "tuple",data:=.seq [u1,u2].toArray}}:=I1.kept (t':=s1.toks) fun b o e=>zAw _ e;rw[hw];refine zAt (zAv ?_);show wpAny (model X.prog X.w) X.A (do rule "assign.swapped-stores";let items <-unpackItems (.ref s1.heap.objs.size) 2 none;assignInOrder [fun v=>bindName X.env y v,fun v=>bindName X.env x v] items.reverse;pure Flow.next) _ _ _;refine zAt (wpAny_rule (zAt (unpackItems_tuple (items:=#[u1,u2]) (I.ok.hd hc) (IsTup.new s1.heap _) fun h' gI=>?_)));have I3:=I2.kept (h':=h') (t':=s1.toks) fun b o e=>gI b o (zB8 (zB0 e)) e;show wpAny _ _ (assignInOrder [fun v=>bindName X.env y v,fun v=>bindName X.env x v] [u2,u1]>>=fun _=>pure Flow.next) _ _ _;refine zAt (assignInOrder_cons (wpAny_bindName (gG I3 hN hj (.inl hy) de (fun s2 I4=>?_) (.inr hy))));refine assignInOrder_cons (wpAny_bindName (gG I4 hN hi (.inl hx) rv (fun s3 I5=>assignInOrder_nil (zAv ?_)) (.inr hx)));rw[List.set_comm _ _ (Ne.symm cv)]at I5;exact⟨_,H1,I5,q1⟩
inductive TAugI(i:Nat)(te:TE)(ti:TIp)(D:Ends)(σ:St)(H:Hp):Prop
 |mk:∀x,(σ[i]?=some (some x))->(te σ H fun y H1=>ti x y H1 fun z H2=>D.nx (σ.set i (some z)) H2)->TAugI i te ti D σ H
def Kd(i:Nat)(te:TE)(ti:TIp):TS:=fun D σ H=>TAugI i te ti D σ H
theorem jr{i:Nat}{x:Str}{e:Expr}{te:TE}{op:Operator}{ti:TIp}{pos':Pos}(hN:X.N.Nodup)(hi:X.N[i]?=some x)(hx:Loc X.env.scope x)(he:PE X e te)(ho:PIp X op ti)(hf:X.fn x=true\/X.env.scope.names.lookup x=some .local:=by first|exact .inl rfl|exact .inr rfl|assumption):
  PS X (.AugAssign (.Name x pos') op e pos) (Kd i te ti):=by
 intro Zt s σ H D I h;obtain⟨v,e1,h⟩:=h;obtain⟨m,hn,hl⟩:=I.loc;have Na:Vis X.env.scope x:=by rcases hx with k|k;exact .inl k;exact .inr (.inl k)
 obtain⟨u,r,l⟩:=hl i x v hi e1 Na;refine wpAny_AugAssign_Name ?_
 have go:wpAny (model X.prog X.w) X.A (eval e X.env) (fun w s₂=>wpAny (model X.prog X.w) X.A (inplaceOp op u w) (fun r s₃=>wpAny (model X.prog X.w) X.A (storeName X.env x r) (fun _=>SP X Zt D .next) X.xe s₃) X.xe s₂) X.xe s:=by
  refine thn (he Zt s σ H _ I h) fun w s1=>?_;rintro⟨y,H1,I1,r1,q1⟩;refine thn (ho Zt s1 σ H1 v y u w _ I1 r r1 q1) fun z s2=>?_;rintro⟨zv,H2,I2,r2,q2⟩;exact gG I2 hN hi hx r2 (fun s3 I3=>⟨_,H2,I3,q2⟩) hf
 rcases l with⟨hk,hm⟩|⟨hk,c,hc,hcell⟩
 .exact wpAny_loadName_local I.ok.kind hk hn hm go
 .rcases hk with hk|hk
  .exact wpAny_loadName_cell I.ok.kind hk hc hcell go
  .rcases hx with k|k
   .have:X.env.scope.names.lookup x=some .free:=hk;rw[k]at this;cases this
   .have:X.env.scope.names.lookup x=some .free:=hk;rw[k]at this;cases this
def Im(to ti te:TE)(mn:V->V->Hp->VK->Prop)(Cn:TIp)(mv:zc):TS:=fun D σ H=>to σ H fun o H1=>ti σ H1 fun i H2=>mn o i H2 fun x H3=>te σ H3 fun y H4=>Cn x y H4 fun z H5=>mv o i z H5 fun H6=>D.nx σ H6
def Ip(X:Cx)(t:V->V->Hp->VK->Prop):Prop:=
 ∀(Zt:List (Addr×Obj)) (s:Shared) (σ:St) (H:Hp) (o i:V) (ov iv:Value) (Q:VK),Inv X Zt σ H s->RelV o ov->RelV i iv->t o i H Q->
  wpAny (model X.prog X.w) X.A (getItem ov iv) (EP X Zt σ Q) X.xe s
theorem qw{o i e:Expr}{to ti te:TE}{mn:V->V->Hp->VK->Prop}{Cn:TIp}{mv:zc}{op:Operator}{qo:Pos}(ho:PE X o to)(hi:PE X i ti)(hg:Ip X mn)(he:PE X e te)(hp:PIp X op Cn)(hs:Gs X mv)
  (ha:∀ov iv new,augStore i ov iv new=(do holding [new,ov,iv] (setItem ov iv new);release [new,ov,iv] [];pure .next):=by intros;rfl):PS X (.AugAssign (.Subscript o i qo) op e pos) (Im to ti te mn Cn mv):=by
 intro Zt s σ H D I h;refine wpAny_AugAssign_SubscriptAny (thn (ho Zt s σ H _ I h) fun ov s1=>?_) ha;rintro⟨x1,H1,I1,r1,q1⟩;refine thn (hi Zt s1 σ H1 _ I1 q1) fun iv s2=>?_;rintro⟨x2,H2,I2,r2,q2⟩;refine thn (hg Zt s2 σ H2 x1 x2 ov iv _ I2 r1 r2 q2) fun old s3=>?_;rintro⟨x3,H3,I3,r3,q3⟩;refine thn (he Zt s3 σ H3 _ I3 q3) fun v s4=>?_;rintro⟨x4,H4,I4,r4,q4⟩;refine thn (hp Zt s4 σ H4 x3 x4 old v _ I4 r3 r4 q4) fun new s5=>?_;rintro⟨x5,H5,I5,r5,q5⟩
 exact thn (hs Zt s5 σ H5 x1 x2 x5 ov iv new _ I5 r1 r2 r5 q5) fun _ s6=>by rintro⟨H6,I6,q6⟩;exact⟨σ,H6,I6,q6⟩
def ipI(f:Int->Int->Int):TIp:=fun x y H Q=>∃i j,x=.int i/\y=.int j/\Q (.int (f i j)) H
theorem zf:PIp X .Add (ipI fun i j=>i+j):=by
 intro Zt s σ H x y v u Q I r1 r2 h;obtain⟨i,j,e1,e2,q⟩:=h;subst e1;subst e2;obtain⟨t,rfl⟩:=r1;obtain⟨t',rfl⟩:=r2;exact iadd_int ⟨.int _,H,I.tok _,⟨_,rfl⟩,q⟩
theorem zg:PIp X .Sub (ipI fun i j=>i-j):=by
 intro Zt s σ H x y v u Q I r1 r2 h;obtain⟨i,j,e1,e2,q⟩:=h;subst e1;subst e2;obtain⟨t,rfl⟩:=r1;obtain⟨t',rfl⟩:=r2;exact isub_int ⟨.int _,H,I.tok _,⟨_,rfl⟩,q⟩
end
section
variable{X:Cx}{pos:Pos}
end
structure It where
 go:Nat->Hp->Prop
 yld:Nat->Hp->V->Hp->Prop
 stop:Nat->Hp->Prop
def gD(X:Cx)(Zt:List (Addr×Obj))(H:Hp)(b:Addr):Prop:=
 H b=none/\b≠X.env.locals/\b∉X.fs/\(b∈X.ex\/X.s₀.heap.objs.size<=b)/\(∀x c,X.env.cells.lookup x=some c->c≠b)/\∀p∈X.pn++Zt,p.1≠b
theorem Inv.fpOk{X:Cx}{Zt:List (Addr×Obj)}{σ:St}{H H':Hp}{s:Shared}{b:Addr}(I:Inv X Zt σ H s)(hb:s.heap.objs.size<=b)(hn:H' b=none):gD X Zt H' b:=by
 refine⟨hn,Nat.ne_of_gt (zB6 I.lt hb),I.nofs hb,.inr (Nat.le_trans I.sz hb),fun x c e z=>?_,fun p hp z=>?_⟩
 .obtain⟨v,q⟩:=I.cell x c e;exact absurd (zB6 q.lt (by rw[z];exact hb)) (Nat.lt_irrefl _)
 .exact absurd (zB6 (zB0 (I.pin p hp).1) (by rw[z];exact hb)) (Nat.lt_irrefl _)
structure Turn(P:Program)(w:World)(K:Frag)(tg:Expr)(J:It)(fp:List Addr)(it:Addr)(tn:Nat->Heap->Prop):Prop where
 mem:it∈fp
 obj:∀i h,tn i h->∀b∈fp,∃o,h.get? b=some o/\∀v,o.data≠.cell v
 keep:∀i h h',tn i h->(∀b∈fp,∀o,h.get? b=some o->h'.get? b=some o)->tn i h'
 item:∀(X:Cx),X.prog=P->X.w=w->X.K=K->X.calm=true->∀(i:Nat) (Zt:List (Addr×Obj)) (s:Shared) (σ:St) (H:Hp) (E:Value->Shared->Prop),Inv X Zt σ H s->(∀b∈fp,gD X Zt H b)->tn i s.heap->J.go i H->
  wpAny (model P w) X.A (pyNext (.ref it)) (fun r s1=>∃u,r=some u /\
   wpAny (model P w) X.A (letOwnedTupleGo tg (.ref it) u) (fun _ s2=>∃x H',Inv X Zt σ H' s2/\RelV x u/\J.yld i H x H'/\tn (i+1) s2.heap/\∀b∈fp,H' b=none) E s1) E s
 done:∀(X:Cx),X.prog=P->X.w=w->X.K=K->X.calm=true->∀(i:Nat) (Zt:List (Addr×Obj)) (s:Shared) (σ:St) (H:Hp) (E:Value->Shared->Prop),Inv X Zt σ H s->(∀b∈fp,gD X Zt H b)->tn i s.heap->J.stop i H->
  wpAny (model P w) X.A (pyNext (.ref it)) (fun r s1=>r=none/\Inv X Zt σ H s1) E s
 self:∀(A:Around) (i:Nat) (s:Shared) (Q:Value->Shared->Prop) (E:Value->Shared->Prop),tn i s.heap->Q (.ref it) s->wpAny (model P w) A (pyIter (.ref it)) Q E s
abbrev TI:=St->Hp->(It->Hp->Prop)->Prop
def PIE(X:Cx)(Zt:List (Addr×Obj))(σ:St)(tg:Expr)(R:It->Hp->Prop)(xD:Value)(s2:Shared):Prop:=
 ∃(it:Addr) (fp:List Addr) (tn:Nat->Heap->Prop) (J:It) (H':Hp),xD=.ref it/\Inv X Zt σ H' s2/\Turn X.prog X.w X.K tg J fp it tn/\tn 0 s2.heap/\(∀b∈fp,gD X Zt H' b)/\R J H'
def PI(X:Cx)(tg iter:Expr)(wi:TI):Prop:=
 ∀(Zt:List (Addr×Obj)) (s:Shared) (σ:St) (H:Hp) (R:It->Hp->Prop),Inv X Zt σ H s->wi σ H R->
  wpAny (model X.prog X.w) X.A (eval iter X.env) (fun v s1=>wpAny (model X.prog X.w) X.A (pyIter v) (PIE X Zt σ tg R) X.xe s1) X.xe s
theorem vZ{M:Model}{A:Around}{E:Value->Shared->Prop}{s:Shared}{tg:Expr}{it:Addr}{u:Value}{o:Obj}{n:String}{vs:Array Value}{Q:Unit->Shared->Prop}(ho:s.heap.get? it=some o)(hc:o.cls=.type n)(hd:o.data=.fields vs)
  (hn:["enumerate","zip","dict_itemiterator","dict_reverseitemiterator","odict_iterator","itertools.zip_longest","itertools.pairwise"].contains n=false) (hQ:Q () s):wpAny M A (letOwnedTupleGo tg (.ref it) u) Q E s:=by
 unfold letOwnedTupleGo
 cases tg<;>first
  |exact zAv hQ
  | (cases u<;>first
    |exact zAv hQ
    | (refine zAt (wpAny_load ho ?_)
       rw[hc,hd];show wpAny M A (if(["enumerate","zip","dict_itemiterator","dict_reverseitemiterator","odict_iterator","itertools.zip_longest","itertools.pairwise"].contains n&&vs[0]?==some (rawInt _))=true then _ else _) Q E s;rw[zAx (by intro h;rw[hn,Bool.false_and]at h;cases h)]
       exact zAv hQ))
def Itl(K:Frag)(a:Addr):It:=
 ⟨fun i H=>∃xs x,SqL K H a xs/\xs[i]?=some x,fun i H x H'=>H'=H/\∀xs,SqL K H a xs->xs[i]?=some x,fun i H=>∃xs,SqL K H a xs/\xs.length<=i⟩
def Itt(K:Frag)(a:Addr):It:=
 ⟨fun i H=>∃xs x,SqT K H a xs/\xs[i]?=some x,fun i H x H'=>H'=H/\∀xs,SqT K H a xs->xs[i]?=some x,fun i H=>∃xs,SqT K H a xs/\xs.length<=i⟩
def Itr(lo:Int)(n:Nat):It:=⟨fun i _=>i<n,fun i H x H'=>H'=H/\x=.int (lo+i),fun i _=>n<=i⟩
theorem xW{P:Program}{w:World}{K:Frag}{tg:Expr}(a it:Addr):Turn P w K tg (Itl K a) [it] it (fun i h=>h.IsListIter it a i) where
 mem:=by simp
 obj:=fun i h st b hb=>by
  have e:b=it:=by simpa using hb
  subst e;obtain⟨o,e,c,d⟩:=st;exact⟨o,e,fun v z=>by rw[d]at z;cases z⟩
 keep:=fun i h h' st k=>st.at fun o e=>k it Zy o e
 item:=by
  intro X hP hw hK hc i Zt s σ H E I hf st hg;subst hP hw hK;obtain⟨xs,x,hq,hx⟩:=hg;obtain⟨Zr,rv,p,hz⟩:=I.list hq;obtain⟨u,hu,ru⟩:=rv.get hx;obtain⟨f0,f1,f2,f3,f4,f5⟩:=hf it Zy;refine wpAny_pyNext_list_item st p.isList (x:=u) (by simpa using hu) fun h' Zq sb=>?_;have I1:Inv X Zt σ H {s with heap:=h'}:=I.turned (t':=s.toks) (fun b o hb e=>(sb.2 b hb).trans e) f0 f1 f3 f4 f5;obtain⟨o,e,c,d⟩:=id Zq;exact⟨u,rfl,vZ (s:={s with heap:=h'}) e c d Zx ⟨x,H,I1,ru,⟨rfl,fun ys hy=>by rw[I.list_inj hy hq];exact hx⟩,Zq,fun b hb=>(hf b hb).1⟩⟩
 done:=by
  intro X hP hw hK hc i Zt s σ H E I hf st hg;subst hP hw hK;obtain⟨xs,hq,hx⟩:=hg;obtain⟨Zr,rv,p,hz⟩:=I.list hq;obtain⟨f0,f1,f2,f3,f4,f5⟩:=hf it Zy;have hl:=rv.length
  exact wpAny_pyNext_list_end (I.ok.hd hc) st p.isList (by simp;lia) fun h' eb=>⟨rfl,I.turned (t':=s.toks) (fun b o hb e=>eb b o hb e) f0 f1 f3 f4 f5⟩
 self:=fun _ _ _ _ _ st h=>wpAny_pyIter_listiter st h
theorem uP{P:Program}{w:World}{K:Frag}{tg:Expr}(a it:Addr):Turn P w K tg (Itt K a) [it] it (fun i h=>h.IsTupleIter it a i) where
 mem:=by simp
 obj:=fun i h st b hb=>by
  have e:b=it:=by simpa using hb
  subst e;obtain⟨o,e,c,d⟩:=st;exact⟨o,e,fun v z=>by rw[d]at z;cases z⟩
 keep:=fun i h h' st k=>st.at fun o e=>k it Zy o e
 item:=by
  intro X hP hw hK hc i Zt s σ H E I hf st hg;subst hP hw hK;obtain⟨xs,x,hq,hx⟩:=hg;obtain⟨Zr,rv,p,hz⟩:=I.tuple hq;obtain⟨u,hu,ru⟩:=rv.get hx;obtain⟨f0,f1,f2,f3,f4,f5⟩:=hf it Zy;refine wpAny_pyNext_tuple_item st (show s.heap.IsTuple a Zr.toArray from p) (x:=u) (by simpa using hu) fun h' Zq sb=>?_;have I1:Inv X Zt σ H {s with heap:=h'}:=I.turned (t':=s.toks) (fun b o hb e=>(sb.2 b hb).trans e) f0 f1 f3 f4 f5;obtain⟨o,e,c,d⟩:=id Zq;exact⟨u,rfl,vZ (s:={s with heap:=h'}) e c d Zx ⟨x,H,I1,ru,⟨rfl,fun ys hy=>by rw[I.tuple_inj hy hq];exact hx⟩,Zq,fun b hb=>(hf b hb).1⟩⟩
 done:=by
  intro X hP hw hK hc i Zt s σ H E I hf st hg;subst hP hw hK;obtain⟨xs,hq,hx⟩:=hg;obtain⟨Zr,rv,p,hz⟩:=I.tuple hq;obtain⟨f0,f1,f2,f3,f4,f5⟩:=hf it Zy;have hl:=rv.length
  exact wpAny_pyNext_tuple_end (I.ok.hd hc) st (show s.heap.IsTuple a Zr.toArray from p) (by simp;lia) fun h' eb=>⟨rfl,I.turned (t':=s.toks) (fun b o hb e=>eb b o hb e) f0 f1 f3 f4 f5⟩
 self:=fun _ _ _ _ _ st h=>wpAny_pyIter_tupleiter st h
theorem uQ{P:Program}{w:World}{K:Frag}{tg:Expr}(it:Addr)(lo:Int)(n:Nat):Turn P w K tg (Itr lo n) [it] it (fun i h=>IsRangeIter h it (lo+(i:Nat)*1) ((n:Int)-(i:Nat)) 1) where
 mem:=by simp
 obj:=fun i h st b hb=>by
  have e:b=it:=by simpa using hb
  subst e
  exact⟨_,st,fun v z=>by
   have z':Data.fields _=Data.cell v:=z
   cases z'⟩
 keep:=fun i h h' st k=>k it Zy _ st
 item:=by
  intro X hP hw hK hc i Zt s σ H E I hf st hg;subst hP hw hK;obtain⟨f0,f1,f2,f3,f4,f5⟩:=hf it Zy;have W:=Walks.range (prog:=X.prog) (w:=X.w) (I.ok.hd hc) it lo 1 n;refine W.item i s _ _ hg st fun v h' tk hv Zq kk=>?_;obtain⟨t,rfl⟩:=hv;have I1:Inv X Zt σ H {s with heap:=h',toks:=tk}:=I.turned (fun b o hb e=>kk b o (by simpa using hb) e) f0 f1 f3 f4 f5;refine⟨_,rfl,vZ (s:={s with heap:=h',toks:=tk}) (n:="range_iterator") Zq rfl rfl Zx ⟨.int (lo+i),H,I1,⟨t,?_⟩,⟨rfl,rfl⟩,Zq,fun b hb=>(hf b hb).1⟩⟩;rw[Int.mul_one]
 done:=by
  intro X hP hw hK hc i Zt s σ H E I hf st hg;subst hP hw hK;obtain⟨f0,f1,f2,f3,f4,f5⟩:=hf it Zy
  exact wpAny_pyNext_range_end (I.ok.hd hc) st (by have:n<=i:=hg;lia) fun h' eb=>⟨rfl,I.turned (t':=s.toks) (fun b o hb e=>eb b o hb e) f0 f1 f3 f4 f5⟩
 self:=fun _ _ _ _ _ st h=>wpAny_pyIter_rangeiter st h
section
variable{X:Cx}{tg:Expr}
def FN(K:Frag)(tl:TE):TI:=fun σ H R=>tl σ H fun x H1=>∃a,x=.ref a/\(∃xs,SqL K H1 a xs)/\R (Itl K a) H1
def Ir(K:Frag)(tl:TE):TI:=fun σ H R=>tl σ H fun x H1=>∃a,x=.ref a/\(∃xs,SqT K H1 a xs)/\R (Itt K a) H1
theorem cF{l:Expr}{tl:TE}(hl:PE X l tl):PI X tg l (FN X.K tl):=by
 intro Zt s σ H R I h;refine thn (hl Zt s σ H _ I h) fun v s1=>?_;rintro⟨x,H1,I1,r1,q1⟩;obtain⟨a,e,⟨xs,hq⟩,q⟩:=q1;subst e;cases r1;obtain⟨Zr,rv,p,hz⟩:=I1.list hq;refine wpAny_pyIter_list p.isList ?_;refine⟨s1.heap.objs.size,[s1.heap.objs.size],_,_,H1,rfl,I1.kept (t':=s1.toks) fun b o e=>Heap.get?_push_of_some _ e,xW a _,⟨_,Heap.get?_push_size _ rfl,rfl,rfl⟩,fun b hb=>?_,q⟩;have e:b=s1.heap.objs.size:=by simpa using hb
 subst e;exact I1.fpOk (zA3 _) (I1.hok.fresh (zA3 _))
theorem gf{l:Expr}{tl:TE}(hl:PE X l tl):PI X tg l (Ir X.K tl):=by
 intro Zt s σ H R I h;refine thn (hl Zt s σ H _ I h) fun v s1=>?_;rintro⟨x,H1,I1,r1,q1⟩;obtain⟨a,e,⟨xs,hq⟩,q⟩:=q1;subst e;cases r1;obtain⟨Zr,rv,p,hz⟩:=I1.tuple hq;refine wpAny_pyIter_tuple (show s1.heap.IsTuple a Zr.toArray from p) ?_;refine⟨s1.heap.objs.size,[s1.heap.objs.size],_,_,H1,rfl,I1.kept (t':=s1.toks) fun b o e=>Heap.get?_push_of_some _ e,uP a _,⟨_,Heap.get?_push_size _ rfl,rfl,rfl⟩,fun b hb=>?_,q⟩;have e:b=s1.heap.objs.size:=by simpa using hb
 subst e;exact I1.fpOk (zA3 _) (I1.hok.fresh (zA3 _))
theorem sS{Zt:List (Addr×Obj)}{σ:St}{H:Hp}{s:Shared}{R:It->Hp->Prop}{E:Value->Shared->Prop}{lo hi:Int}{t u v:Tok}{tk:Nat}(I:Inv X Zt σ H s)(h1:-(2^62)<=lo)(h2:lo<2^62)(h3:-(2^62)<=hi)(h4:hi<2^62)
  (q:R (Itr lo (hi-lo).toNat) H):wpAny (model X.prog X.w) X.A (pyIter (.ref s.heap.objs.size)) (PIE X Zt σ tg R) E {s with heap:=s.heap.push {cls:=.type "range",data:=.fields #[.int lo t,.int hi u,.int 1 v]},toks:=tk}:=by
 refine wpAny_pyIter_range (IsRange.new ..) (small_one h1 h2 h3 h4) ?_;have I1:Inv X Zt σ H {s with heap:=s.heap.push {cls:=.type "range",data:=.fields #[.int lo t,.int hi u,.int 1 v]},toks:=tk}:=I.kept fun b o e=>zAw _ e
 refine⟨(s.heap.push {cls:=.type "range",data:=.fields #[.int lo t,.int hi u,.int 1 v]}).objs.size,[(s.heap.push {cls:=.type "range",data:=.fields #[.int lo t,.int hi u,.int 1 v]}).objs.size],_,_,H,rfl,
  I1.kept (t':=tk) fun b o e=>zAw _ e,uQ _ lo (hi-lo).toNat,?_,fun b hb=>?_,q⟩
 .have e1:lo+((0:Nat):Int)*1=lo:=by simp
  have e2:(((hi-lo).toNat:Nat):Int)-((0:Nat):Int)=Builtin.Range.rangeSize lo hi 1:=by rw[rangeSize_one];split<;>lia
  show IsRangeIter _ _ (lo+((0:Nat):Int)*1) ((((hi-lo).toNat:Nat):Int)-((0:Nat):Int)) 1;rw[e1,e2];exact zB2 _ rfl
 .have e:b=(s.heap.push {cls:=.type "range",data:=.fields #[.int lo t,.int hi u,.int 1 v]}).objs.size:=by simpa using hb
  subst e;exact I1.fpOk (zA3 _) (I1.hok.fresh (zA3 _))
def Iu(ta:TA):TI:=fun σ H R=>ta σ H fun vs H1=>∃j:Int,vs=[.int j]/\-(2^62)<=j/\j<2^62/\R (Itr 0 j.toNat) H1
def Iv(ta:TA):TI:=fun σ H R=>ta σ H fun vs H1=>∃i j:Int,vs=[.int i,.int j]/\(-(2^62)<=i/\i<2^62/\-(2^62)<=j/\j<2^62)/\R (Itr i (j-i).toNat) H1
theorem cO{a:Expr}{ta:TA}{p pos:Pos}(hg:Gl X "range")(hm:X.mg "range"=none)(ha:PA X [a] ta)(hs:starEach [a] X.env=[(false,eval a X.env)]:=by rfl):PI X tg (.Call (.Name "range" p) [a] [] pos) (Iu ta):=by
 intro Zt s σ H R I h;refine Call_ (gb I hg hm boot_range (PyProof.Rows.callWith_type1 (thn (ha pos Zt s σ H _ I h) fun us s1=>?_) hs rfl));rintro⟨vs,H1,I1,r1,q1⟩;obtain⟨j,e,q1,q2,q⟩:=q1;subst e
 cases r1 with
 |cons r rr=>
  cases rr;obtain⟨t,rfl⟩:=r;exact call_range_1 (sS I1 Zz Zz q1 q2 (by simpa using q))
theorem oF{a b:Expr}{ta:TA}{p pos:Pos}(hg:Gl X "range")(hm:X.mg "range"=none)(ha:PA X [a,b] ta)(hs:starEach [a,b] X.env=[(false,eval a X.env),(false,eval b X.env)]:=by rfl)(nV:starEach [b] X.env=[(false,eval b X.env)]:=by rfl):
  PI X tg (.Call (.Name "range" p) [a,b] [] pos) (Iv ta):=by
 intro Zt s σ H R I h;refine Call_ (gb I hg hm boot_range (PyProof.Rows.callWith_type1 (thn (ha pos Zt s σ H _ I h) fun us s1=>?_) (by rw[hs,nV]) (by rw[nV];rfl)));rintro⟨vs,H1,I1,r1,q1⟩;obtain⟨i,j,e,⟨q1,q2,q3,q4⟩,q⟩:=q1;subst e
 cases r1 with
 |cons r rr=>
  cases rr with
  |cons r' rr=>
   cases rr;obtain⟨t,rfl⟩:=r;obtain⟨t',rfl⟩:=r';exact call_range_2 (sS I1 q1 q2 q3 q4 q)
def Ke(wi:TI)(g:TG)(tb:TS):TS:=fun D σ H=>wi σ H fun J H1=>∃W:Nat->Nat->St->Hp->Prop,(∃m,W 0 m σ H1)/\∀i m σ H,W i m σ H->
 (J.stop i H/\D.nx σ H)\/(J.go i H/\∃N:St->Hp->Prop,(∀ah H',N ah H'->∃m',m'<m/\W (i+1) m' ah H')/\∀x H',J.yld i H x H'->g x σ H' fun aw H2=>tb {D with nx:=N,ct:=N,bk:=D.nx} aw H2)
def gH(fp:List Addr)(h:Heap):List (Addr×Obj):=fp.filterMap fun b=>(h.get? b).map fun o=>(b,o)
theorem du{fp:List Addr}{h:Heap}{b:Addr}{o:Obj}(hb:b∈fp)(e:h.get? b=some o):(b,o)∈gH fp h:=List.mem_filterMap.mpr ⟨b,hb,by rw[e];rfl⟩
theorem oG{fp:List Addr}{h:Heap}{p:Addr×Obj}(hp:p∈gH fp h):p.1∈fp/\h.get? p.1=some p.2:=by
 obtain⟨b,hb,e⟩:=List.mem_filterMap.mp hp
 cases q:h.get? b with
 |none=>rw[q]at e;cases e
 |some o=>
  rw[q]at e;have e':(b,o)=p:=zAl e;subst e';exact⟨hb,q⟩
theorem Inv.pinned{Zt:List (Addr×Obj)}{σ:St}{H:Hp}{s:Shared}{fp:List Addr}(I:Inv X Zt σ H s)(hf:∀b∈fp,gD X Zt H b)(ho:∀b∈fp,∃o,s.heap.get? b=some o/\∀v,o.data≠.cell v):Inv X (Zt++gH fp s.heap) σ H s:=
 I.pins_of fun p hp=>(zA6.mp hp).elim (fun z=>I.pin p (zB1 _ z)) fun z=>by
  obtain⟨hb,e⟩:=oG z;obtain⟨f0,f1,f2,_⟩:=hf p.1 hb;obtain⟨o,e',d⟩:=ho p.1 hb;rw[e]at e';cases e';exact⟨e,f0,f1,f2,d⟩
theorem Inv.unpinned{Zt pl:List (Addr×Obj)}{σ:St}{H:Hp}{s:Shared}(I:Inv X (Zt++pl) σ H s):Inv X Zt σ H s:=I.pins_of fun p hp=>I.pin p (zB1 _ (List.mem_append_left _ hp))
theorem cH{iter:Expr}{body:List Stmt}{wi:TI}{g:TG}{tb:TS}{pos:Pos}(hp:PassesOwn (model X.prog X.w) X.A X.env X.xe)(hc:X.calm=true)(hi:PI X tg iter wi)(hg:PG X tg g)(hb:PSs X body tb)
  (hs:∀x,foldedSetIterable iter X.env x=pure x:=by intro _;rfl):PS X (.For tg iter body [] pos) (Ke wi g tb):=by
 intro Zt s σ H D I h;refine wpAny_For (thn (hi Zt s σ H _ I h) fun v s1 h1=>thn h1 fun xD s2 h2=>?_) hs;obtain⟨it,fp,tn,J,H2,e,I2,T,st2,f2,W,⟨m0,w0⟩,turn⟩:=h2;subst e
 have qq:∀{H':Hp},(∀b∈fp,H' b=none)->∀b∈fp,gD X Zt H' b:=fun hn b hb=>⟨hn b hb,(f2 b hb).2⟩
 refine codeAny_forLoop_any (fun n s'=>∃i ah H',Inv X Zt ah H' s'/\tn i s'.heap/\(∀b∈fp,H' b=none)/\W i n ah H') ?_ m0 ⟨0,σ,H2,I2,st2,fun b hb=>(f2 b hb).1,w0⟩;rintro n s3 ⟨i,dQ,H3,I3,fx,nX,w3⟩;rcases turn i n dQ H3 w3 with⟨stop,qn⟩|⟨go,N,hN,step⟩
 .refine wpAny_passesOwn hp (thn (T.done X rfl rfl rfl hc i Zt s3 dQ H3 X.xe I3 (qq nX) fx stop) fun r s4=>?_);rintro⟨hr,I4⟩;subst hr;exact wpAny_execs_nil ⟨dQ,H3,I4,qn⟩
 .refine wpAny_passesOwn hp (thn (T.item X rfl rfl rfl hc i Zt s3 dQ H3 X.xe I3 (qq nX) fx go) fun r s4=>?_);rintro⟨u,hr,h4⟩;subst hr;refine wpAny_passesOwn hp (thn h4 fun _ s5=>?_);rintro⟨x,H5,I5,r5,y5,jS,xE⟩;have xI:=I5.pinned (qq xE) (T.obj _ _ jS);refine wpAny_passesOwn hp (thn (hg _ s5 dQ H5 x u _ xI r5 (step x H5 y5)) fun _ s6=>?_);rintro⟨ma,H6,I6,q6⟩;refine wpAny_passesOwn hp (thn (hb _ s6 ma H6 _ I6 q6) fun f s7 q7=>?_)
  have again:∀{kc:St} {H7:Hp},Inv X (Zt++gH fp s5.heap) kc H7 s7->N kc H7->∃m,m<n/\∃i ah H',Inv X Zt ah H' s7/\tn i s7.heap/\(∀b∈fp,H' b=none)/\W i m ah H':=fun{kc H7} I7 n7=>by
   obtain⟨m',hm,w7⟩:=hN kc H7 n7;refine⟨m',hm,i+1,kc,H7,I7.unpinned,T.keep _ _ _ jS fun b hb o e=>(I7.pin (b,o) (zB1 _ (zB1 _ (du hb e)))).1,fun b hb=>?_,w7⟩;obtain⟨o,e,d⟩:=T.obj _ _ jS b hb;exact(I7.pin (b,o) (zB1 _ (zB1 _ (du hb e)))).2.1
  cases f with
  |next=>obtain⟨kc,H7,I7,n7⟩:=q7;exact again I7 n7
  |cont=>obtain⟨kc,H7,I7,n7⟩:=q7;exact again I7 n7
  |brk=>obtain⟨kc,H7,I7,q7⟩:=q7;exact⟨kc,H7,I7.unpinned,q7⟩
  |ret v=>obtain⟨x7,kc,H7,I7,r7,q7⟩:=q7;exact⟨x7,kc,H7,I7.unpinned,r7,q7⟩
end
theorem gJ{K:Frag}{a:Addr}{xs:List V}{g:TG}{tb:TS}{D:Ends}{σ:St}{H:Hp}(Pv:Nat->St->Hp->Prop)(h0:Pv 0 σ H)(hl:∀i σ H,i<=xs.length->Pv i σ H->SqL K H a xs)
  (hs:∀i x σ H,xs[i]?=some x->Pv i σ H->g x σ H fun aw H2=>tb {D with nx:=Pv (i+1),ct:=Pv (i+1),bk:=D.nx} aw H2) (hd:∀σ H,Pv xs.length σ H->D.nx σ H):
  ∃W:Nat->Nat->St->Hp->Prop,(∃m,W 0 m σ H)/\∀i m σ H,W i m σ H->
   ((Itl K a).stop i H/\D.nx σ H)\/((Itl K a).go i H/\∃N:St->Hp->Prop,(∀ah H',N ah H'->∃m',m'<m/\W (i+1) m' ah H')/\∀x H',(Itl K a).yld i H x H'->g x σ H' fun aw H2=>tb {D with nx:=N,ct:=N,bk:=D.nx} aw H2):=by
 refine⟨fun i m σ H=>m=xs.length-i/\i<=xs.length/\Pv i σ H,⟨xs.length,by simp,Nat.zero_le _,h0⟩,?_⟩;rintro i m σ H ⟨rfl,hi,p⟩;have q:=hl i σ H hi p;by_cases ay:i<xs.length
 .refine .inr ⟨⟨xs,xs[i],q,by simp[ay]⟩,Pv (i+1),fun ah H' p'=>⟨xs.length-(i+1),Zz,rfl,ay,p'⟩,fun x H' y=>?_⟩;obtain⟨e,y⟩:=y;subst e;exact hs i x σ _ (y xs q) p
 .have e:i=xs.length:=Zz
  subst e;exact .inl ⟨⟨xs,q,zA3 _⟩,hd σ H p⟩
theorem Dc{K:Frag}{a:Addr}{xs:List V}{g:TG}{tb:TS}{D:Ends}{σ:St}{H:Hp}(Pv:Nat->St->Hp->Prop)(h0:Pv 0 σ H)(hl:∀i σ H,i<=xs.length->Pv i σ H->SqT K H a xs)
  (hs:∀i x σ H,xs[i]?=some x->Pv i σ H->g x σ H fun aw H2=>tb {D with nx:=Pv (i+1),ct:=Pv (i+1),bk:=D.nx} aw H2) (hd:∀σ H,Pv xs.length σ H->D.nx σ H):
  ∃W:Nat->Nat->St->Hp->Prop,(∃m,W 0 m σ H)/\∀i m σ H,W i m σ H->
   ((Itt K a).stop i H/\D.nx σ H)\/((Itt K a).go i H/\∃N:St->Hp->Prop,(∀ah H',N ah H'->∃m',m'<m/\W (i+1) m' ah H')/\∀x H',(Itt K a).yld i H x H'->g x σ H' fun aw H2=>tb {D with nx:=N,ct:=N,bk:=D.nx} aw H2):=by
 refine⟨fun i m σ H=>m=xs.length-i/\i<=xs.length/\Pv i σ H,⟨xs.length,by simp,Nat.zero_le _,h0⟩,?_⟩;rintro i m σ H ⟨rfl,hi,p⟩;have q:=hl i σ H hi p;by_cases ay:i<xs.length
 .refine .inr ⟨⟨xs,xs[i],q,by simp[ay]⟩,Pv (i+1),fun ah H' p'=>⟨xs.length-(i+1),Zz,rfl,ay,p'⟩,fun x H' y=>?_⟩;obtain⟨e,y⟩:=y;subst e;exact hs i x σ _ (y xs q) p
 .have e:i=xs.length:=Zz
  subst e;exact .inl ⟨⟨xs,q,zA3 _⟩,hd σ H p⟩
theorem dW{lo:Int}{n:Nat}{g:TG}{tb:TS}{D:Ends}{σ:St}{H:Hp}(Pv:Nat->St->Hp->Prop)(h0:Pv 0 σ H)
  (hs:∀i σ H,i<n->Pv i σ H->g (.int (lo+i)) σ H fun aw H2=>tb {D with nx:=Pv (i+1),ct:=Pv (i+1),bk:=D.nx} aw H2) (hd:∀σ H,Pv n σ H->D.nx σ H):
  ∃W:Nat->Nat->St->Hp->Prop,(∃m,W 0 m σ H)/\∀i m σ H,W i m σ H->
   ((Itr lo n).stop i H/\D.nx σ H)\/((Itr lo n).go i H/\∃N:St->Hp->Prop,(∀ah H',N ah H'->∃m',m'<m/\W (i+1) m' ah H')/\∀x H',(Itr lo n).yld i H x H'->g x σ H' fun aw H2=>tb {D with nx:=N,ct:=N,bk:=D.nx} aw H2):=by
 refine⟨fun i m σ H=>m=n-i/\i<=n/\Pv i σ H,⟨n,by simp,Nat.zero_le _,h0⟩,?_⟩;rintro i m σ H ⟨rfl,hi,p⟩;by_cases ay:i<n
 .refine .inr ⟨ay,Pv (i+1),fun ah H' p'=>⟨n-(i+1),Zz,rfl,ay,p'⟩,fun x H' y=>?_⟩;obtain⟨e,y⟩:=y;subst e y;exact hs i σ _ ay p
 .have e:i=n:=Zz
  subst e;exact .inl ⟨zA3 _,hd σ H p⟩
abbrev R2:=V->V->Hp->VK->Prop
def OpR(X:Cx)(f:Value->Value->Sem Value)(r:R2):Prop:=
 ∀(Zt:List (Addr×Obj)) (s:Shared) (σ:St) (H:Hp) (x y:V) (v u:Value) (Q:VK),Inv X Zt σ H s->RelV x v->RelV y u->r x y H Q->
  wpAny (model X.prog X.w) X.A (f v u) (EP X Zt σ Q) X.xe s
def UnR(X:Cx)(f:Value->Sem Value)(r:V->Hp->VK->Prop):Prop:=
 ∀(Zt:List (Addr×Obj)) (s:Shared) (σ:St) (H:Hp) (x:V) (v:Value) (Q:VK),Inv X Zt σ H s->RelV x v->r x H Q->
  wpAny (model X.prog X.w) X.A (f v) (EP X Zt σ Q) X.xe s
def di(X:Cx)(f:Value)(r:List V->Hp->VK->Prop):Prop:=
 ∀(Zt:List (Addr×Obj)) (s:Shared) (σ:St) (H:Hp) (xs:List V) (us:List Value) (Q:VK),Inv X Zt σ H s->Vals xs us->r xs H Q->
  wpAny (model X.prog X.w) X.A (call f us) (EP X Zt σ Q) X.xe s
def tOp(r:R2)(ta tb:TE):TE:=fun σ H Q=>ta σ H fun x H1=>tb σ H1 fun y H2=>r x y H2 Q
def tUn(r:V->Hp->VK->Prop)(ta:TE):TE:=fun σ H Q=>ta σ H fun x H1=>r x H1 Q
inductive RII(C:Int->Int->Prop)(g:Int->Int->V)(x:V)(y:V)(H:Hp)(Q:VK):Prop
 |mk:∀i j,(x=.int i)->(y=.int j)->(C i j)->(Q (g i j) H)->RII C g x y H Q
def rI(C:Int->Int->Prop)(g:Int->Int->V):R2:=fun x y H Q=>RII C g x y H Q
inductive RI0I(g:Int->Int->V)(x:V)(y:V)(H:Hp)(Q:VK):Prop
 |mk:∀i j,(x=.int i)->(y=.int j)->(Q (g i j) H)->RI0I g x y H Q
def rI0(g:Int->Int->V):R2:=fun x y H Q=>RI0I g x y H Q
inductive RUI(g:Int->V)(x:V)(H:Hp)(Q:VK):Prop
 |mk:∀i,(x=.int i)->(Q (g i) H)->RUI g x H Q
def rU(g:Int->V):V->Hp->VK->Prop:=fun x H Q=>RUI g x H Q
section
variable{X:Cx}{a b c:Expr}{ta tb tc:TE}{pos:Pos}
theorem Gv(ha:PE X a ta)(hb:PE X b tb){Zt:List (Addr×Obj)}{s:Shared}{σ:St}{H:Hp}{R:V->V->Hp->Prop}(I:Inv X Zt σ H s)
  (h:ta σ H fun x H1=>tb σ H1 fun y H2=>R x y H2) {Q:Value->Shared->Prop} {f:Value->Value->Sem Value}
  (hf:∀v u s2 x y H2,Inv X Zt σ H2 s2->RelV x v->RelV y u->R x y H2->wpAny (model X.prog X.w) X.A (f v u) Q X.xe s2):
  wpAny (model X.prog X.w) X.A (eval a X.env) (fun v s₁=>wpAny (model X.prog X.w) X.A (eval b X.env) (fun u s₂=>wpAny (model X.prog X.w) X.A (f v u) Q X.xe s₂) X.xe s₁) X.xe s:=by
 refine thn (ha Zt s σ H _ I h) fun v s1=>?_;rintro⟨x,H1,I1,r1,q1⟩;refine thn (hb Zt s1 σ H1 _ I1 q1) fun u s2=>?_;rintro⟨y,H2,I2,r2,q2⟩;exact hf v u s2 x y H2 I2 r1 r2 q2
theorem aW{op:Operator}{r:R2}(ho:OpR X (binaryOp op) r)(ha:PE X a ta)(hb:PE X b tb):PE X (.BinOp a op b pos) (tOp r ta tb):=by
 intro Zt s σ H Q I h;exact wpAny_BinOp (Gv ha hb I h fun v u s2 x y H2 I2 rx ry q=>ho Zt s2 σ H2 x y v u Q I2 rx ry q)
theorem Iw{op:UnaryOp}{r:V->Hp->VK->Prop}(ho:UnR X (unaryOp op) r)(ha:PE X a ta):PE X (.UnaryOp op a pos) (tUn r ta):=by
 intro Zt s σ H Q I h;exact UnaryOp_ (thn (ha Zt s σ H _ I h) fun v s1=>by rintro⟨x,H1,I1,r1,q1⟩;exact ho Zt s1 σ H1 x v Q I1 r1 q1)
theorem opI{f:Value->Value->Sem Value}{C:Int->Int->Prop}{g:Int->Int->Int}
  (rule:∀(i j:Int) (t u:Tok) (s:Shared) (Q:Value->Shared->Prop) (E:Value->Shared->Prop),C i j->Q (.int (g i j) s.toks) {s with toks:=s.toks+1}->wpAny (model X.prog X.w) X.A (f (.int i t) (.int j u)) Q E s):
  OpR X f (rI C fun i j=>.int (g i j)):=by
 intro Zt s σ H x y v u Q I rx ry h;obtain⟨i,j,rfl,rfl,hc,q⟩:=h;obtain⟨t,rfl⟩:=rx;obtain⟨t',rfl⟩:=ry;exact rule i j t t' s _ _ hc ⟨.int (g i j),H,I.tok _,⟨_,rfl⟩,q⟩
theorem Iz{f:Value->Value->Sem Value}{g:Int->Int->Int}
  (rule:∀(i j:Int) (t u:Tok) (s:Shared) (Q:Value->Shared->Prop) (E:Value->Shared->Prop),Q (.int (g i j) s.toks) {s with toks:=s.toks+1}->wpAny (model X.prog X.w) X.A (f (.int i t) (.int j u)) Q E s):
  OpR X f (rI0 fun i j=>.int (g i j)):=by
 intro Zt s σ H x y v u Q I rx ry h;obtain⟨i,j,rfl,rfl,q⟩:=h;obtain⟨t,rfl⟩:=rx;obtain⟨t',rfl⟩:=ry;exact rule i j t t' s _ _ ⟨.int (g i j),H,I.tok _,⟨_,rfl⟩,q⟩
theorem Dd{f:Value->Value->Sem Value}{g:Int->Int->Bool}
  (rule:∀(i j:Int) (t u:Tok) (s:Shared) (Q:Value->Shared->Prop) (E:Value->Shared->Prop),Q (.bool (g i j)) s->wpAny (model X.prog X.w) X.A (f (.int i t) (.int j u)) Q E s):
  OpR X f (rI0 fun i j=>.bl (g i j)):=by
 intro Zt s σ H x y v u Q I rx ry h;obtain⟨i,j,rfl,rfl,q⟩:=h;obtain⟨t,rfl⟩:=rx;obtain⟨t',rfl⟩:=ry;exact rule i j t t' s _ _ ⟨.bl (g i j),H,I,rfl,q⟩
def Kf(i j:Int):Prop:=0<j/\j<1073741824
def Kg(i j:Int):Prop:=0<=j/\j<=1000000/\i.natAbs<2^64
def CMul(i j:Int):Prop:=(-(2^64)<i/\i<2^64)\/(-(2^64)<j/\j<2^64)
theorem CMul.ok{i j:Int}(h:CMul i j):IntMulOk i j:=by
 rcases h with⟨h1,h2⟩|⟨h1,h2⟩
 .exact .of_left (intBits_le_64 h1 h2)
 .exact .of_right (intBits_le_64 h1 h2)
theorem cj:OpR X (binaryOp .Add) (rI0 fun i j=>.int (i+j)):=Iz fun _ _ _ _ _ _ _ q=>add_int q
theorem fG:OpR X (binaryOp .Sub) (rI0 fun i j=>.int (i-j)):=Iz fun _ _ _ _ _ _ _ q=>sub_int q
theorem gK:OpR X (binaryOp .Mult) (rI CMul fun i j=>.int (i*j)):=opI fun _ _ _ _ _ _ _ hc q=>mul_int q hc.ok
theorem qx:OpR X (binaryOp .FloorDiv) (rI Kf fun i j=>.int (i / j)):=opI fun i j _ _ _ _ _ hc q=>by
 have h1:(0:Int)<j:=hc.1;have h2:j<1073741824:=hc.2;exact floordiv_int Zz (by rw[Int.fdiv_eq_ediv_of_nonneg i Zz];exact q) (.inl (PyProof.noPylong_small Zz))
theorem iJ:OpR X (binaryOp .Mod) (rI (fun _ j=>0<j) fun i j=>.int (i % j)):=opI fun i j _ _ _ _ _ hc q=>by
 have h1:(0:Int)<j:=hc;exact mod_int' Zz (by rw[Int.fmod_eq_emod_of_nonneg i Zz];exact q)
theorem Gw:OpR X (binaryOp .Pow) (rI Kg fun i j=>.int (i^j.toNat)):=opI fun _ _ _ _ _ _ _ hc q=>pow_int_small hc.1 hc.2.1 hc.2.2 q
theorem unI{f:Value->Sem Value}{g:Int->Int}
  (rule:∀(i:Int) (t:Tok) (s:Shared) (Q:Value->Shared->Prop) (E:Value->Shared->Prop),Q (.int (g i) s.toks) {s with toks:=s.toks+1}->wpAny (model X.prog X.w) X.A (f (.int i t)) Q E s):
  UnR X f (rU fun i=>.int (g i)):=by
 intro Zt s σ H x v Q I rx h;obtain⟨i,rfl,q⟩:=h;obtain⟨t,rfl⟩:=rx;exact rule i t s _ _ ⟨.int (g i),H,I.tok _,⟨_,rfl⟩,q⟩
theorem Gx:UnR X (unaryOp .USub) (rU fun i=>.int (-i)):=unI fun _ _ _ _ _ q=>neg_int q
end
def IK:V->V->Bool
 |.non,.non=>true|.non,.int _=>true|.int _,.non=>true|.non,.bl _=>true|.bl _,.non=>true|.non,.str _=>true|.str _,.non=>true
 |.int _,.int _=>true|.bl _,.bl _=>true|.str _,.str _=>true|.byt _,.byt _=>true
 |.int _,.str _=>true|.str _,.int _=>true|.bl _,.str _=>true|.str _,.bl _=>true
 |_,_=>false
def rEq:R2:=fun x y H Q=>IK x y=true/\Q (.bl (decide (x=y))) H
def rNe:R2:=fun x y H Q=>IK x y=true/\Q (.bl (!decide (x=y))) H
theorem w5{i j:Int}:decide (V.int i=V.int j)=(i==j):=by
 rw[Bool.eq_iff_iff];simp
theorem zj{i j:Bool}:decide (V.bl i=V.bl j)=(i==j):=by
 rw[Bool.eq_iff_iff];simp
theorem wg{i j:Str}:decide (V.str i=V.str j)=(i==j):=by
 rw[Bool.eq_iff_iff];simp
theorem wj{i j:Array UInt8}:decide (V.byt i=V.byt j)=(i.toList==j.toList):=by
 rw[Bool.eq_iff_iff];cases i;cases j;simp
section
variable{X:Cx}{a b c:Expr}{ta tb tc:TE}{pos:Pos}
theorem bA{Zt:List (Addr×Obj)}{σ:St}{H:Hp}{s:Shared}{Q:VK}{k k':Bool}(I:Inv X Zt σ H s)(q:Q (.bl k) H)(e:k=k'):EP X Zt σ Q (.bool k') s:=by
 subst e;exact⟨.bl k,H,I,rfl,q⟩
theorem kE:OpR X (compareOp .Eq) rEq:=by
 intro Zt s σ H x y v u Q I rx ry h;obtain⟨hs,q⟩:=h
 cases x with
 |non=>
  cases rx
  cases y with
  |non=>cases ry;exact PySem.EqNone.eq_none_none (bA I q Zy)
  |bl j=>cases ry;exact PySem.EqNone.eq_none_bool (bA I q Zy)
  |int j=>obtain⟨t',rfl⟩:=ry;exact PySem.EqNone.eq_none_int (bA I q Zy)
  |str j=>obtain⟨t',rfl⟩:=ry;exact PySem.EqNone.eq_none_str (bA I q Zy)
  |_=>exact absurd (show false=true from hs) zAg
 |bl i=>
  cases rx
  cases y with
  |non=>cases ry;exact PySem.EqNone.eq_bool_none (bA I q Zy)
  |bl j=>cases ry;exact eq_bool (bA I q zj)
  |str j=>obtain⟨t',rfl⟩:=ry;exact PySem.EqMixed.eq_bool_str (bA I q Zy)
  |_=>exact absurd (show false=true from hs) zAg
 |int i=>
  obtain⟨t,rfl⟩:=rx
  cases y with
  |non=>cases ry;exact PySem.EqNone.eq_int_none (bA I q Zy)
  |int j=>obtain⟨t',rfl⟩:=ry;exact eq_int (bA I q w5)
  |str j=>obtain⟨t',rfl⟩:=ry;exact PySem.EqMixed.eq_int_str (bA I q Zy)
  |_=>exact absurd (show false=true from hs) zAg
 |str i=>
  obtain⟨t,rfl⟩:=rx
  cases y with
  |non=>cases ry;exact PySem.EqNone.eq_str_none (bA I q Zy)
  |bl j=>cases ry;exact PySem.EqMixed.eq_str_bool (bA I q Zy)
  |int j=>obtain⟨t',rfl⟩:=ry;exact PySem.EqMixed.eq_str_int (bA I q Zy)
  |str j=>obtain⟨t',rfl⟩:=ry;exact eq_str (bA I q wg)
  |_=>exact absurd (show false=true from hs) zAg
 |byt i=>
  obtain⟨t,rfl⟩:=rx
  cases y with
  |byt j=>obtain⟨t',rfl⟩:=ry;exact PySem.W.eq_bytes (bA I q wj)
  |_=>exact absurd (show false=true from hs) zAg
 |_=>cases y<;>exact absurd (show false=true from hs) zAg
theorem FP:OpR X (compareOp .NotEq) rNe:=by
 intro Zt s σ H x y v u Q I rx ry h;obtain⟨hs,q⟩:=h
 cases x with
 |non=>
  cases rx
  cases y with
  |non=>cases ry;exact PySem.EqNone.ne_none_none (bA I q Zy)
  |bl j=>cases ry;exact PySem.EqNone.ne_none_bool (bA I q Zy)
  |int j=>obtain⟨t',rfl⟩:=ry;exact PySem.EqNone.ne_none_int (bA I q Zy)
  |str j=>obtain⟨t',rfl⟩:=ry;exact PySem.EqNone.ne_none_str (bA I q Zy)
  |_=>exact absurd (show false=true from hs) zAg
 |bl i=>
  cases rx
  cases y with
  |non=>cases ry;exact PySem.EqNone.ne_bool_none (bA I q Zy)
  |bl j=>cases ry;exact ne_bool (bA I q (congrArg not zj))
  |str j=>obtain⟨t',rfl⟩:=ry;exact PySem.EqMixed.ne_bool_str (bA I q Zy)
  |_=>exact absurd (show false=true from hs) zAg
 |int i=>
  obtain⟨t,rfl⟩:=rx
  cases y with
  |non=>cases ry;exact PySem.EqNone.ne_int_none (bA I q Zy)
  |int j=>obtain⟨t',rfl⟩:=ry;exact ne_int (bA I q (congrArg not w5))
  |str j=>obtain⟨t',rfl⟩:=ry;exact PySem.EqMixed.ne_int_str (bA I q Zy)
  |_=>exact absurd (show false=true from hs) zAg
 |str i=>
  obtain⟨t,rfl⟩:=rx
  cases y with
  |non=>cases ry;exact PySem.EqNone.ne_str_none (bA I q Zy)
  |bl j=>cases ry;exact PySem.EqMixed.ne_str_bool (bA I q Zy)
  |int j=>obtain⟨t',rfl⟩:=ry;exact PySem.EqMixed.ne_str_int (bA I q Zy)
  |str j=>obtain⟨t',rfl⟩:=ry;exact ne_str (bA I q (congrArg not wg))
  |_=>exact absurd (show false=true from hs) zAg
 |byt i=>
  obtain⟨t,rfl⟩:=rx
  cases y with
  |byt j=>obtain⟨t',rfl⟩:=ry;exact PySem.W.ne_bytes (bA I q (congrArg not wj))
  |_=>exact absurd (show false=true from hs) zAg
 |_=>cases y<;>exact absurd (show false=true from hs) zAg
theorem gB:OpR X (compareOp .Lt) (rI0 fun i j=>.bl (decide (i<j))):=Dd fun _ _ _ _ _ _ _ q=>lt_int q
theorem bW:OpR X (compareOp .LtE) (rI0 fun i j=>.bl (decide (i<=j))):=Dd fun _ _ _ _ _ _ _ q=>le_int q
theorem sU:OpR X (compareOp .Gt) (rI0 fun i j=>.bl (decide (j<i))):=Dd fun _ _ _ _ _ _ _ q=>gt_int q
theorem zm:OpR X (compareOp .GtE) (rI0 fun i j=>.bl (decide (j<=i))):=Dd fun _ _ _ _ _ _ _ q=>ge_int q
theorem zq:OpR X (compareOp .Is) (fun x y H Q=>y=.non/\Q (.bl (decide (x=.non))) H):=by
 intro Zt s σ H x y v u Q I rx ry h;obtain⟨rfl,q⟩:=h;cases ry;refine is_none_gen (bA I q ?_)
 cases x<;>first
  | (cases rx;rfl)
  | (obtain⟨t,rfl⟩:=rx;rfl)
theorem bx(b:Expr){op:CmpOp}(h:op≠.In:=by decide)(h2:op≠.NotIn:=by decide):behindInMarks op b=false:=by
 have e1:(op==CmpOp.In)=false:=by cases op<;>first|rfl|exact absurd rfl h
 have e2:(op==CmpOp.NotIn)=false:=by cases op<;>first|rfl|exact absurd rfl h2
 cases b<;>simp[behindInMarks,e1,e2]
theorem jV{op:CmpOp}{r:R2}(ho:OpR X (compareOp op) r)(ha:PE X a ta)(hb:PE X b tb)(hm:behindInMarks op b=false):PE X (.Compare a [op] [b] pos) (tOp r ta tb):=by
 intro Zt s σ H Q I h;exact wpAny_Compare1 (Gv ha hb I h fun v u s2 x y H2 I2 rx ry q=>ho Zt s2 σ H2 x y v u Q I2 rx ry q) hm
def FQ(t:TE):TT:=fun σ H Q=>t σ H fun x H'=>∃k,x=.bl k/\Q k H'
theorem aY{op:CmpOp}{r:R2}(ho:OpR X (compareOp op) r)(ha:PE X a ta)(hb:PE X b tb)(hm:behindInMarks op b=false):PT X (.Compare a [op] [b] pos) (FQ (tOp r ta tb)):=by
 intro Zt s σ H Q I h
 refine wpAny_isTrue_Compare1 (thn (ha Zt s σ H _ I h) fun v s1 ⟨x,H1,I1,r1,q1⟩=>thn (hb Zt s1 σ H1 _ I1 q1) fun u s2 ⟨y,H2,I2,r2,q2⟩=>
  thn (ho Zt s2 σ H2 x y v u _ I2 r1 r2 q2) fun c s3 ⟨z,H3,I3,r3,k,e,q3⟩=>?_) hm
 subst e;cases r3;exact wpAny_truthy_bool ⟨H3,I3,q3⟩
def uR(r r':R2)(ta tb tc:TE):TE:=fun σ H Q=>ta σ H fun x H1=>tb σ H1 fun y H2=>r x y H2 fun z H3=>∃k,z=.bl k /\
 (if k=true then tc σ H3 fun w' H4=>r' y w' H4 Q else Q (.bl false) H3)
theorem cJ{op qr:CmpOp}{r r':R2}(ho:OpR X (compareOp op) r)(jv:OpR X (compareOp qr) r')(ha:PE X a ta)(hb:PE X b tb)(hc:PE X c tc)
  (hm:lastMarks [op,qr] [b,c]=false:=by with_unfolding_all rfl):PE X (.Compare a [op,qr] [b,c] pos) (uR r r' ta tb tc):=by
 intro Zt s σ H Q I h
 refine Compare_chain (thn (ha Zt s σ H _ I h) fun v s1 ⟨x,H1,I1,r1,q1⟩=>chain_link (thn (hb Zt s1 σ H1 _ I1 q1) fun u s2 ⟨y,H2,I2,r2,q2⟩=>
  thn (ho Zt s2 σ H2 x y v u _ I2 r1 r2 q2) fun d s3 ⟨z,H3,I3,r3,k,e,q3⟩=>?_)) hm
 subst e;cases r3;refine wpAny_truthy_bool ?_
 cases k with
 |false=>exact ite_ff ⟨.bl false,H3,I3,rfl,q3⟩
 |true=>exact ite_tt (chain_last (thn (hc Zt s3 σ H3 _ I3 q3) fun w' s4=>by rintro⟨z',H4,I4,r4,q4⟩;exact jv Zt s4 σ H4 y z' u w' Q I4 r2 r4 q4))
theorem kI{op qr:CmpOp}{r r':R2}(ho:OpR X (compareOp op) r)(jv:OpR X (compareOp qr) r')(ha:PE X a ta)(hb:PE X b tb)(hc:PE X c tc)
  (hm:lastMarks [op,qr] [b,c]=false:=by with_unfolding_all rfl):PT X (.Compare a [op,qr] [b,c] pos) (FQ (uR r r' ta tb tc)):=by
 intro Zt s σ H Q I h
 refine isTrue_chain (thn (ha Zt s σ H _ I h) fun v s1 ⟨x,H1,I1,r1,q1⟩=>test_link (thn (hb Zt s1 σ H1 _ I1 q1) fun u s2 ⟨y,H2,I2,r2,q2⟩=>
  thn (ho Zt s2 σ H2 x y v u _ I2 r1 r2 q2) fun d s3 ⟨z,H3,I3,r3,k,e,q3⟩=>?_)) hm
 subst e;cases r3;refine wpAny_truthy_bool ?_
 cases k with
 |false=>
  obtain⟨k',e',q'⟩:=q3;cases e';exact ite_ff ⟨H3,I3,q'⟩
 |true=>
  refine ite_tt (test_last (thn (hc Zt s3 σ H3 _ I3 q3) fun w' s4 ⟨z',H4,I4,r4,q4⟩=>thn (jv Zt s4 σ H4 y z' u w' _ I4 r2 r4 q4) fun d' s5=>?_));rintro⟨z2,H5,I5,r5,k2,e2,q5⟩;subst e2;cases r5;exact wpAny_truthy_bool ⟨H5,I5,q5⟩
theorem kJ:(sizeLine:Nat)<2^63:=by rw[sizeLine_eq];decide
theorem vals1{x:V}{us:List Value}(r:Vals [x] us):∃u,us=[u]/\RelV x u:=by
 cases r with
 |cons r1 r2=>cases r2;exact⟨_,rfl,r1⟩
theorem vals2{x y:V}{us:List Value}(r:Vals [x,y] us):∃u w',us=[u,w']/\RelV x u/\RelV y w':=by
 cases r with
 |cons r1 r2=>
  cases r2 with
  |cons r3 r4=>cases r4;exact⟨_,_,rfl,r1,r3⟩
theorem ir(hc:X.calm=true):di X (.builtin "max") (fun xs H Q=>∃i j,xs=[.int i,.int j]/\Q (.int (if j>i then j else i)) H):=by
 intro Zt s σ H xs us Q I r h;obtain⟨i,j,rfl,q⟩:=h;obtain⟨u,w',rfl,⟨t,rfl⟩,⟨t',rfl⟩⟩:=vals2 r
 refine max_two_ints (I.ok.hd hc) fun h' tk k=>⟨_,H,I.kept k,?_,q⟩
 by_cases hj:j>i
 .rw[zAz hj,zAz hj];exact⟨_,rfl⟩
 .rw[zAx hj,zAx hj];exact⟨_,rfl⟩
theorem fO(hc:X.calm=true):di X (.builtin "min") (fun xs H Q=>∃i j,xs=[.int i,.int j]/\Q (.int (if j<i then j else i)) H):=by
 intro Zt s σ H xs us Q I r h;obtain⟨i,j,rfl,q⟩:=h;obtain⟨u,w',rfl,⟨t,rfl⟩,⟨t',rfl⟩⟩:=vals2 r
 refine min_two_ints (I.ok.hd hc) fun h' tk k=>⟨_,H,I.kept k,?_,q⟩
 by_cases hj:j<i
 .rw[zAz hj,zAz hj];exact⟨_,rfl⟩
 .rw[zAx hj,zAx hj];exact⟨_,rfl⟩
theorem xX:di X (.type "int") (fun xs H Q=>(∃i,xs=[.int i]/\Q (.int i) H)\/∃k,xs=[.bl k]/\Q (.int (if k then 1 else 0)) H):=by
 intro Zt s σ H xs us Q I r h;rcases h with⟨i,rfl,q⟩|⟨k,rfl,q⟩
 .obtain⟨u,rfl,t,rfl⟩:=vals1 r;exact call_int_int ⟨.int i,H,I,⟨_,rfl⟩,q⟩
 .obtain⟨u,rfl,r1⟩:=vals1 r;cases r1;exact call_int_bool ⟨.int (if k then 1 else 0),H,I.tok _,⟨_,rfl⟩,q⟩
end
structure ObjM(h:Heap)(x dx C:Addr)(mA:Str->Option Value):Prop where
 obj:h.get? x=some (PySem.W.instObj C dx)
 ns:h.Ns1 dx mA
 ne:dx≠x
theorem xY{h:Heap}{dx:Addr}{mA:Str->Option Value}(n:h.Ns1 dx mA):∃od,h.get? dx=some od/\∀name,PySem.W.lookIn name od=some (mA name):=by
 obtain⟨o,es,ep,ho,hd,hk,_,hm⟩:=n;refine⟨o,ho,fun name=>?_⟩;have e:=hm name;unfold nsFind findBy at e;rw[<-Array.find?_toList]at e;unfold PySem.W.lookIn;rw[hd];dsimp only;split
 .rename_i y q
  rw[q]at e;exact congrArg some e
 .rename_i q
  rw[q]at e
  have a:es.toList.any (·.refKey)=false:=by
   rw[List.any_eq_false];intro y hy;obtain⟨z,t,DF⟩:=hk y (Array.mem_toList_iff.mp hy);simp[DictEntry.refKey,DF]
  have a':¬es.toList.any (·.refKey)=true:=by rw[a];exact zAg
  rw[zAx a'];exact congrArg some e
theorem ObjM.look{h:Heap}{x dx C:Addr}{mA:Str->Option Value}(I:ObjM h x dx C mA):∃od,PySem.W.InstAt h x (PySem.W.instObj C dx) C (some od)/\∀name,PySem.W.lookIn name od=some (mA name):=
 let⟨od,ho,hl⟩:=xY I.ns
 ⟨od,⟨I.obj,rfl,rfl,ho⟩,hl⟩
section
variable{prog:Program}{w:World}{A:Around}{E:Value->Shared->Prop}{s:Shared}{K:Frag}{x dx C f:Addr}{mA:Str->Option Value}{name:Str}{v:Value}
end
theorem RelO.some_of{v:V}{o:Option Value}(r:RelO (some v) o):∃u,o=some u/\RelV v u:=by
 cases o with
 |none=>exact(show False from r).elim
 |some u=>exact⟨u,rfl,r⟩
section
variable{P:Program}{w:World}{H H':Hp}{h h':Heap}{a C dx:Addr}{fs M8:List (Str×V)}
theorem Df(hok:HOk P w H h)(e:H a=some (.ins C dx fs)):∃mA,ObjM h a dx C mA/\(∀f,RelO (fs.lookup f) (mA f))/\PySem.Within mA (fs.map (·.1))/\fs.length<=1000/\H dx=some (.own a):=by
 obtain⟨d,z,ne,ob,mA,n,r,q⟩:=(show ObjOk P w H h a (.ins C dx fs)from hok a _ e)
 exact⟨mA,⟨ob,n,ne⟩,r,q,z,d⟩
end
structure Cls(K:Frag)(C:Addr):Prop where
 pg:PySem.W.plainGet K C Str.empty=true
 hd:PySem.W.hasDictIn K C=true
 po:PySem.W.plainOver K C=true
 sa:PySem.W.findIn K (.ref C) "__setattr__"=some (some (.builtin "object.__setattr__"))
theorem Cls.get{K:Frag}{C:Addr}(c:Cls K C)(f:Str):PySem.W.plainGet K C f=true:=c.pg
section
variable{X:Cx}{Zt:List (Addr×Obj)}{σ:St}{H:Hp}{s:Shared}{a C dx:Addr}{fs:List (Str×V)}{f:Str}{v:V}{A:Around}{E:Value->Shared->Prop}
end
section
variable{X:Cx}{o e value:Expr}{f:Str}{pos pos' qo:Pos}{ta tv:TE}
end
section
variable{X:Cx}{Zt:List (Addr×Obj)}{σ:St}{H:Hp}{s:Shared}{A:Around}{E:Value->Shared->Prop}{Q:Value->Shared->Prop}{c:Value}{b:Bool}
inductive TyOf(K:Frag)(H:Hp):V->Value->Prop where
 |non:TyOf K H .non (.type "NoneType")
 |bl (x:Bool):TyOf K H (.bl x) (.type "bool")
 |int (i:Int):TyOf K H (.int i) (.type "int")
 |str (x:Str):TyOf K H (.str x) (.type "str")
 |flt (x:UInt64):TyOf K H (.flt x) (.type "float")
 |lst {a:Addr} {xs:List V} (e:H a=some (.lst xs)):TyOf K H (.ref a) (.type "list")
 |frz {a:Addr} {o:Obj} {xs:List V} (e:H a=some (.frz o (.lst xs))):TyOf K H (.ref a) (.type "list")
 |tup {a:Addr} {xs:List V} (e:H a=some (.tup xs)):TyOf K H (.ref a) (.type "tuple")
 |dK {a:Addr} {Zs:List (Key×V)} (e:H a=some (.dK Zs)):TyOf K H (.ref a) (.type "dict")
 |dT {a:Addr} {Zs:List (List Key×V)} (e:H a=some (.dT Zs)):TyOf K H (.ref a) (.type "dict")
 |ins {a C dx:Addr} {fs:List (Str×V)} (e:H a=some (.ins C dx fs)) (cl:Cls K C) (ha:PySem.W.findIn K (.ref C) "__class__"=some (some (.builtin "object.__class__")))
   (hn:PySem.W.specialIn K (.builtin "object.__class__") "__get__"=some (some (.builtin "getset_descriptor.__get__"))) (oj:PySem.W.takesIn K (.builtin "object.__class__")=some true)
   (hm:PySem.W.mroIn K C (.type "object")=some true):TyOf K H (.ref a) (.ref C)
theorem xZ{x:V}{u t:Value}(I:Inv X Zt σ H s)(rx:RelV x u)(ty:TyOf X.K H x t)(e:PySem.W.kitOne X.K t c=some b)(h:∀tk,Q (.bool b) {s with toks:=tk}):
  wpAny (model X.prog X.w) A (call (.builtin "isinstance") [u,c]) Q E s:=by
 cases ty with
 |non=>cases(show u=Value.none from rx);exact PySem.W.kia_one PySem.W.kitx_none I.kIn True.intro e (fun z=>nomatch z) h
 |bl y=>cases(show u=Value.bool y from rx);exact PySem.W.kia_one PySem.W.kitx_bool I.kIn True.intro e (fun z=>nomatch z) h
 |int i=>obtain⟨t,q⟩:=(show ∃t,u=Value.int i t from rx);cases q;exact PySem.W.kia_one PySem.W.kitx_int I.kIn True.intro e (fun z=>nomatch z) h
 |str y=>obtain⟨t,q⟩:=(show ∃t,u=Value.str y t from rx);cases q;exact PySem.W.kia_one PySem.W.kitx_str I.kIn True.intro e (fun z=>nomatch z) h
 |flt y=>obtain⟨t,q⟩:=(show ∃t,u=Value.float y t from rx);cases q;exact PySem.W.kia_one PySem.W.kitx_float I.kIn True.intro e (fun z=>nomatch z) h
 |@lst a xs ea=>
  cases(show u=Value.ref a from rx)
  obtain⟨_,_,n,_,h1⟩:=(show ObjOk X.prog X.w H s.heap a (.lst xs)from I.hok a _ ea)
  exact PySem.W.kia_one PySem.W.kitx_list I.kIn ⟨_,h1,rfl⟩ e (fun z=>nomatch z) h
 |@frz a ob xs ea=>
  cases(show u=Value.ref a from rx)
  obtain⟨_,_,_,n,_,h1⟩:=(show ObjOk X.prog X.w H s.heap a (.frz ob (.lst xs))from I.hok a _ ea)
  exact PySem.W.kia_one PySem.W.kitx_list I.kIn ⟨_,h1,rfl⟩ e (fun z=>nomatch z) h
 |@tup a xs ea=>
  cases(show u=Value.ref a from rx)
  obtain⟨_,_,_,p⟩:=(show ObjOk X.prog X.w H s.heap a (.tup xs)from I.hok a _ ea)
  obtain⟨o,h1,h2,_⟩:=p;exact PySem.W.kia_one PySem.W.kitx_tuple I.kIn ⟨o,h1,h2⟩ e (fun z=>nomatch z) h
 |@dK a Zs ea=>
  cases(show u=Value.ref a from rx)
  obtain⟨_,_,vs,_,p⟩:=(show ObjOk X.prog X.w H s.heap a (.dK Zs)from I.hok a _ ea)
  obtain⟨o,es,ep,h1,h2,_⟩:=p;exact PySem.W.kia_one PySem.W.kitx_dict I.kIn ⟨o,h1,h2.1⟩ e (fun z=>nomatch z) h
 |@dT a Zs ea=>
  cases(show u=Value.ref a from rx)
  obtain⟨_,_,xs,_,o,es,ep,h1,h2,_⟩:=(show ObjOk X.prog X.w H s.heap a (.dT Zs)from I.hok a _ ea)
  exact PySem.W.kia_one PySem.W.kitx_dict I.kIn ⟨o,h1,h2.1⟩ e (fun z=>nomatch z) h
 |@ins a C dx fs ea cl ha hn oj hm=>
  cases(show u=Value.ref a from rx);obtain⟨mA,O,_⟩:=Df I.hok ea;obtain⟨od,J,_⟩:=O.look;exact PySem.W.kia_one (PySem.W.kitx_own (cl.get _) cl.hd ha hn oj hm) I.kIn J e (fun z=>nomatch z) h
end
structure Room(k:Nat)(A:Around):Prop where
 hd:A.handled=none
 dp:A.depth+3*k+5<recursionLimit
 un:A.units+16*k+200<cLine
 gd:A.guards=some []
theorem Room.mono{j k:Nat}{A:Around}(r:Room k A)(h:j<=k):Room j A:=⟨r.hd,by have:=r.dp;lia,by have:=r.un;lia,r.gd⟩
theorem Room.deeper{k:Nat}{A:Around}(r:Room (k+1) A)(env:Env):Room k (A.deeper env):=
 ⟨r.hd,by have:=r.dp;show A.depth+1+3*k+5<_;lia,by have:=r.un;show A.units+3+16*k+200<_;lia,r.gd⟩
theorem Room.depth{k:Nat}{A:Around}(r:Room k A):A.depth<recursionLimit:=by have:=r.dp;lia
theorem Room.units{k:Nat}{A:Around}(r:Room k A):A.units+64<cLine:=by have:=r.un;lia
theorem Room.units0{k:Nat}{A:Around}(r:Room k A):A.units<cLine:=by have:=r.un;lia
def Gy:TA:=fun _ H Q=>Q [] H
def sV(ta:TE)(tr:TA):TA:=fun σ H Q=>ta σ H fun x H1=>tr σ H1 fun xs H2=>Q (x::xs) H2
section
variable{X:Cx}{e:Expr}{es:List Expr}{te:TE}{t:TA}{pos:Pos}
theorem ao:PA X [] Gy:=fun _ _ _ _ H Q I h=>Calls.spliced_nil ⟨[],H,I,.nil,h⟩
theorem aP(ha:PE X e te)(hr:PA X es t)(hs:starEach (e::es) X.env=(false,eval e X.env)::starEach es X.env:=by rfl):PA X (e::es) (sV te t):=by
 intro pos Zt s σ H Q I h;rw[hs];show wpAny _ _ (spliced ((false,eval e X.env)::backTo pos (starEach es X.env))) _ _ s;refine Calls.spliced_cons (thn (ha Zt s σ H _ I h) fun u s1=>?_);rintro⟨x,H1,I1,r1,q1⟩
 exact thn (hr pos Zt s1 σ H1 _ I1 q1) fun us s2=>by rintro⟨xs,H2,I2,r2,q2⟩;exact⟨x::xs,H2,I2,.cons r1 r2,q2⟩
def Gz(t:TA):TE:=fun σ H Q=>t σ H fun xs H1=>xs.length<=sizeLine/\∀p,H1 p=none->Q (.ref p) (upd H1 p (.tup xs))
def Dg(t:TA):TE:=fun σ H Q=>t σ H fun xs H1=>xs.length<=sizeLine/\∀p,H1 p=none->Q (.ref p) (upd H1 p (.lst xs))
theorem bB{x1}(h:PA X es t):PE X (.Tuple es x1 pos) (Gz t):=by
 intro Zt s σ H Q I hq;refine wpAny_Tuple_spliced (thn (h pos Zt s σ H _ I hq) fun us s1 ⟨xs,H1,I1,r,z,q⟩=>⟨by rw[<-r.length];exact z,?_⟩);have hf:H1 s1.heap.objs.size=none:=I1.hok.fresh (zA3 _);refine⟨.ref s1.heap.objs.size,upd H1 s1.heap.objs.size (.tup xs),I1.laid (t':=s1.toks) (fun b u e=>zAw _ e) (zA3 _) ?_,rfl,q _ hf⟩;exact⟨z,us,r,⟨_,zB2 _ rfl,rfl,_,rfl⟩⟩
theorem dw(h:PA X es t):PE X (.List es pos) (Dg t):=by
 intro Zt s σ H Q I hq;refine wpAny_List_spliced (thn (h pos Zt s σ H _ I hq) fun us s1 ⟨xs,H1,I1,r,z,q⟩=>⟨by rw[<-r.length];exact z,?_⟩);have hf:H1 s1.heap.objs.size=none:=I1.hok.fresh (zA3 _);refine⟨.ref s1.heap.objs.size,upd H1 s1.heap.objs.size (.lst xs),I1.laid (t':=s1.toks) (fun b u e=>zAw _ e) (zA3 _) ?_,rfl,q _ hf⟩;exact⟨z,us,0,r,zB2 _ rfl⟩
end
abbrev Sp:=List V->Hp->VK->XK->Prop
abbrev CXT:=List Env->Hp->Shared->XK->Value->Shared->Prop
structure Env0(P:Program)(w:World)(K:Frag)(mg:Str->Option Value)(base:Heap)(A:Around)(outer:List Env)(s:Shared)(H:Hp):Prop where
 frames:A.frames=some outer
 mod:Mod K mg base
 bs:∀b o,base.get? b=some o->s.heap.get? b=some o/\H b=none
 bsz:base.objs.size<=s.heap.objs.size
 funs:s.heap.FunFrames base outer
 frf:∀b∈frs outer,H b=none
 hok:HOk P w H s.heap
 bare:AllBare s.gens
def CE(outer:List Env)(P:Program)(w:World)(H:Hp)(s:Shared)(Q:VK)(u:Value)(s':Shared):Prop:=
 ∃v H',s'.os=s.os/\AllBare s'.gens/\Un (frs outer) [] H H' s.heap s'.heap/\HOk P w H' s'.heap/\RelV v u/\Q v H'
def CR(CX:CXT)(outer:List Env)(P:Program)(w:World)(H:Hp)(s:Shared)(Q:VK)(E:XK)(r:Result)(s':Shared):Prop:=
 match r with
 |.ok (.ret u)=>CE outer P w H s Q u s'
 |.ok _=>False
 |.error e=>CX outer H s E e s'
structure FnOk(P:Program)(w:World)(K:Frag)(mg:Str->Option Value)(base:Heap)(CX:CXT)(k:Nat)(f:Addr)(fd:FuncData)(ps:List Str)(sp:Sp):Prop where
 len:∀vs H Q E,sp vs H Q E->vs.length=ps.length
 run:∀(A:Around) (outer:List Env) (s:Shared) (H:Hp) (args:Args) (us:List Value) (vs:List V) (Q:VK) (E:XK),Room k A->Env0 P w K mg base A outer s H->BindsTo s fd args (ps.zip us)->Vals vs us->sp vs H Q E->
  codeAny (model P w) A (.call (.ref f) args) (CR CX outer P w H s Q E) s
section
variable{X:Cx}{Zt:List (Addr×Obj)}{σ:St}{H:Hp}{s s':Shared}
theorem Inv.env0(I:Inv X Zt σ H s):Env0 X.prog X.w X.K X.mg X.base X.A X.stack s H:=
 ⟨I.ok.frames,I.ok.mod,I.bs,Nat.le_trans I.ok.bsz I.sz,I.stack,I.stkFree,I.hok,I.bare⟩
theorem Inv.after{Q:VK}{u:Value}(I:Inv X Zt σ H s)(h:CE X.stack X.prog X.w H s Q u s'):EP X Zt σ Q u s':=by
 obtain⟨v,H',os,bare,un,hok,r,q⟩:=h;obtain⟨hh,g,d,t,Nb⟩:=s';obtain rfl:Nb=s.os:=os;exact⟨v,H',I.call (h':=hh) (g':=g) (d':=d) (t':=t) (ch:=[]) un hok bare (fun b z=>absurd z Zy),r,q⟩
end
def FT(sp:Sp)(om:List V)(E:XK)(t:TA):TE:=fun σ H Q=>t σ H fun vs H1=>sp (vs++om) H1 Q E
def Binds(K:Frag)(fd:FuncData)(ps:List Str)(ds:List Value):Prop:=
 ∀(s:Shared) (us:List Value),K.In s.heap->(us++ds).length=ps.length->BindsTo s fd ⟨us,[]⟩ (ps.zip (us++ds))
theorem Binds.all{K:Frag}{fd:FuncData}{ps:List Str}(h:∀us:List Value,us.length=ps.length->bindArgs fd ⟨us,[]⟩=pure (ps.zip us)):Binds K fd ps []:=fun s us _ hl=>by
 rw[zAn]at hl⊢;exact .of_eq (h us hl)
def uT(CX:CXT)(X:Cx)(E:XK):Prop:=∀(Zt:List (Addr×Obj)) (σ:St) (H:Hp) (s:Shared) (e:Value) (s':Shared),Inv X Zt σ H s->CX X.stack H s E e s'->X.xe e s'
section
variable{X:Cx}{CX:CXT}{k:Nat}{f C:Addr}{fd:FuncData}{ps:List Str}{sp:Sp}{om:List V}{ds:List Value}{E:XK}{x m:Str}{p pos apos:Pos}{e o:Expr}{es:List Expr}{ta:TE}{t:TA}
theorem GC{Zt:List (Addr×Obj)}{σ:St}{H:Hp}{s:Shared}{Q:VK}{us:List Value}{vs:List V}(F:FnOk X.prog X.w X.K X.mg X.base CX k f fd ps sp)(hr:Room k X.A)(hb:Binds X.K fd ps ds)(hd:Vals om ds)(hx:uT CX X E)
  (I:Inv X Zt σ H s) (r:Vals vs us) (h:sp (vs++om) H Q E):wpAny (model X.prog X.w) X.A (call (.ref f) us) (EP X Zt σ Q) X.xe s:=by
 have r2:Vals (vs++om) (us++ds):=r.append hd;have hl:(us++ds).length=ps.length:=by rw[<-r2.length];exact F.len _ _ _ _ h
 refine wpAny_call (codeAny_mono (F.run X.A X.stack s H ⟨us,[]⟩ (us++ds) (vs++om) Q E hr I.env0 (hb s us I.kIn hl) r2 h) fun r s' hq=>?_)
 cases r with
 |error e=>exact hx Zt σ H s e s' I hq
 |ok fl=>
  cases fl with
  |ret u=>exact I.after hq
  |next=>exact False.elim hq
  |brk=>exact False.elim hq
  |cont=>exact False.elim hq
theorem Dh(F:FnOk X.prog X.w X.K X.mg X.base CX k f fd ps sp)(hr:Room k X.A)(hg:Gl X x)(hm:X.mg x=some (.ref f))(hk:PySem.W.keepIn X.K (.ref f)=true)(hb:Binds X.K fd ps ds)(hd:Vals om ds)(hx:uT CX X E)
  (ha:PA X (e::es) t) (qv:(x==("__debug__":Str))=false:=by decide) (he:starEach (e::es) X.env=(false,eval e X.env)::starEach es X.env:=by rfl) (oo:(backTo pos (starEach es X.env)).any (·.1)=false:=by rfl):
  PE X (.Call (.Name x p) (e::es) [] pos) (FT sp om E t):=by
 intro Zt s σ H Q I h;refine wpAny_Call_Name_kw (vX I hg hm ?_ qv);refine PySem.W.callWith_K (h₀:=X.base) I.ok.mod.kin hk (thn (ha pos Zt s σ H _ I h) fun us s1 ⟨vs,H1,I1,r,q⟩=>⟨I1.kIn,?_⟩) he oo;exact GC F hr hb hd hx I1 r q
end
section
variable{X:Cx}{CX:CXT}{k:Nat}{f C:Addr}{fd:FuncData}{ps ks:List Str}{sp:Sp}{E:XK}{x m:Str}{p pos apos Nd:Pos}{e o:Expr}{es:List Expr}{S9:List Keyword}{te ta:TE}{t tk:TA}{nm:Option Str}
variable{g:List Value->List Value->List Value}{gV:List V->List V->List V}
end
structure FnScope(N P:List Str)(sc:Scope):Prop where
 kind:sc.kind=.function
 co:sc.isCoroutine=false
 gen:sc.isGenerator=false
 nd:N.Nodup
 pre:N.take P.length=P
 par:∀x∈P,sc.names.lookup x=some .local\/sc.names.lookup x=some .cell
 nofree:∀y∈sc.names,y.2≠.free
theorem oH{kindOf:Str->Option NameKind}{x:Str}:∀{binds:List (Str×Value)} {m:Str->Option Value},(∀v,(x,v)∉binds)->bindL kindOf binds m x=m x
 |[],_,_=>rfl
 | (n,v)::r,m,h=>by
  unfold bindL;rw[oH fun w hw=>h w (List.mem_cons_of_mem _ hw)];split
  .have:x≠n:=by rintro rfl;exact h v List.mem_cons_self
   simp[this]
  .rfl
theorem oJ{kindOf:Str->Option NameKind}{x:Str}:∀{binds:List (Str×Value)} {m:Str->Option Value},(∀v,(x,v)∉binds)->bindC kindOf binds m x=m x
 |[],_,_=>rfl
 | (n,v)::r,m,h=>by
  unfold bindC;rw[oJ fun w hw=>h w (List.mem_cons_of_mem _ hw)];split
  .rfl
  .have:x≠n:=by rintro rfl;exact h v List.mem_cons_self
   simp[this]
theorem oK{kindOf:Str->Option NameKind}{x:Str}{v:Value}:∀{P:List Str} {vs:List Value} {i:Nat} {m:Str->Option Value},P.Nodup->P[i]?=some x->vs[i]?=some v->kindOf x=some .local->
  bindL kindOf (P.zip vs) m x=some v
 |[],_,_,_,_,h,_,_=>by simp at h
 |_::_,[],_,_,_,_,h,_=>by simp at h
 |p::P,w::vs,0,m,nd,h1,h2,hk=>by
  simp at h1 h2;subst h1;subst h2;show bindL kindOf ((p,w)::P.zip vs) m p=_;unfold bindL;rw[oH fun v hv=>(List.nodup_cons.mp nd).1 (List.of_mem_zip hv).1,if_pos hk];simp
 |p::P,w::vs,i+1,m,nd,h1,h2,hk=>by
  show bindL kindOf ((p,w)::P.zip vs) m x=_;unfold bindL;exact oK (i:=i) (List.nodup_cons.mp nd).2 (by simpa using h1) (by simpa using h2) hk
theorem oM{kindOf:Str->Option NameKind}{x:Str}{v:Value}:∀{P:List Str} {vs:List Value} {i:Nat} {m:Str->Option Value},P.Nodup->P[i]?=some x->vs[i]?=some v->kindOf x≠some .local->
  bindC kindOf (P.zip vs) m x=some v
 |[],_,_,_,_,h,_,_=>by simp at h
 |_::_,[],_,_,_,_,h,_=>by simp at h
 |p::P,w::vs,0,m,nd,h1,h2,hk=>by
  simp at h1 h2;subst h1;subst h2;show bindC kindOf ((p,w)::P.zip vs) m p=_;unfold bindC;rw[oJ fun v hv=>(List.nodup_cons.mp nd).1 (List.of_mem_zip hv).1,if_neg hk];simp
 |p::P,w::vs,i+1,m,nd,h1,h2,hk=>by
  show bindC kindOf ((p,w)::P.zip vs) m x=_;unfold bindC;exact oM (i:=i) (List.nodup_cons.mp nd).2 (by simpa using h1) (by simpa using h2) hk
def start(N:List Str)(vs:List V):St:=vs.map some++List.replicate (N.length-vs.length) none
def yc(CX:CXT)(P:Program)(w:World)(K:Frag)(mg:Str->Option Value)(base:Heap)(N:List Str)(qual:Str)(scope:Scope)(f:Addr)(cd:Value)(A:Around)(outer:List Env)(s:Shared)(H:Hp)(E:XK):Cx where
 prog:=P
 w:=w
 K:=K
 mg:=mg
 base:=base
 A:=A.deeper (envOfC qual scope s.heap.objs.size f cd)
 N:=N
 s₀:=s
 H₀:=H
 env:=envOfC qual scope s.heap.objs.size f cd
 outer:=outer
 stack:=envOfC qual scope s.heap.objs.size f cd::outer
 ex:=[]
 calm:=true
 fn:=fun _=>true
 pn:=[]
 xe:=fun e s'=>wpAny (model P w) (A.deeper (envOfC qual scope s.heap.objs.size f cd)) (leaving (envOfC qual scope s.heap.objs.size f cd) e) (fun _ ve=>CX outer H s E e ve) (fun e' ve=>CX outer H s E e' ve) s'
theorem sW{sc:Scope}{n:Nat}{x:Str}(h:sc.names.lookup x=some .cell):∃c,(cellsFrom n sc.names []).lookup x=some c:=by
 have q:=PySem.W.cellsFrom_some sc.names n [] (.inl h);exact Option.isSome_iff_exists.mp q
theorem yd{CX:CXT}{P:Program}{w:World}{K:Frag}{mg:Str->Option Value}{base:Heap}{N ps:List Str}{qual:Str}{scope:Scope}{f:Addr}{cd:Value}{A:Around}{outer:List Env}{s s1:Shared}{H:Hp}{E:XK}{us:List Value}{vs:List V}
  (S:FnScope N ps scope) (hd:A.handled=none) (e0:Env0 P w K mg base A outer s H) (hl:vs.length=ps.length) (r:Vals vs us)
  (x:InCallC s s.heap.objs.size (bindL (envOfC qual scope s.heap.objs.size f cd).kindOf (ps.zip us) fun _=>none) (cellsFrom (s.heap.objs.size+1) scope.names []) (bindC (envOfC qual scope s.heap.objs.size f cd).kindOf (ps.zip us) fun _=>none) s1):
  Inv (yc CX P w K mg base N qual scope f cd A outer s H E) [] (start N vs) H s1:=by
 have oo:ps.length<=N.length:=by have:=congrArg List.length S.pre;rw[zAd]at this;lia
 obtain⟨h1,tk,rfl,hk⟩:=x.done;have xS:∀b:Addr,b∉(yc CX P w K mg base N qual scope f cd A outer s H E).ex:=fun b z=>absurd (show b∈([]:List Addr)from z) Zy
 refine⟨⟨e0.mod,S.kind,rfl,rfl,zA3 _,fun y z c h1 h2=>?_,fun y hy=>?_,fun y c _ h=>?_,fun _=>hd,Around.frames_deeper e0.frames,.inr ⟨rfl,rfl⟩,fun b z=>absurd z (xS b),e0.bs,e0.bsz,fun b _ _=>xS b,fun b z=>absurd z (xS b),e0.funs,e0.frf⟩,
  rfl,e0.bare,Un.kept hk,⟨_,x.toInCall.ns,fun i y v h1 h2 h3=>?_⟩,fun y c h=>⟨_,x.cell y c h⟩,e0.hok.fresh (Nat.le_refl _),fun y c h=>?_,fun p hp=>absurd (show p∈([]:List (Addr×Obj))from hp) Zy,e0.hok.kept hk,?_⟩
 .exact name_of_addr x.apart (PySem.mem_of_lookup h1) (PySem.mem_of_lookup h2)
 .have hy:scope.names.lookup y=some .cell\/scope.names.lookup y=some .free:=hy;rcases hy with hy|hy
  .exact sW hy
  .exact absurd rfl (S.nofree _ (PySem.mem_of_lookup hy))
 .exact Nat.le_of_lt (x.above y c (PySem.mem_of_lookup h))
 .have hi:i<vs.length:=by
   unfold start at h2;by_cases hi:i<vs.length
   .exact hi
   .rw[List.getElem?_append_right (by simpa using hi)]at h2;rw[List.getElem?_replicate]at h2;split at h2<;>cases h2
  have ha:vs[i]?=some v:=by
   unfold start at h2;rw[List.getElem?_append_left (by simpa using hi),List.getElem?_map]at h2
   cases e:vs[i]? with
   |none=>rw[e]at h2;cases h2
   |some a=>rw[e]at h2;cases h2;rfl
  obtain⟨u,hu,rv⟩:=r.get ha
  have hp:ps[i]?=some y:=by
   rw[<-S.pre,List.getElem?_take_of_lt Zz];exact h1
  have KI:ps.Nodup:=by rw[<-S.pre];exact S.nd.sublist (List.take_sublist _ _)
  refine⟨u,rv,?_⟩;rcases S.par y (zB4 hp)with k|k
  .exact .inl ⟨k,oK KI hp hu k⟩
  .obtain⟨c,e⟩:=sW (n:=s.heap.objs.size+1) k;refine .inr ⟨.inl k,c,e,?_⟩;have q:=x.cell y c e;rw[oM KI hp hu (by show scope.names.lookup y≠_;rw[k];decide)]at q;exact q
 .exact e0.hok.fresh (Nat.le_of_lt (x.above y c (PySem.mem_of_lookup h)))
 .unfold start;show _=N.length;rw[zA2,zA1,List.length_replicate];lia
theorem IV{CX:CXT}{P:Program}{w:World}{K:Frag}{mg:Str->Option Value}{base:Heap}{k:Nat}{f:Addr}{name qual:Str}{params:Arguments}{body:List Stmt}{scope:Scope}{dV kV doc pm ar ct oc:Value}{an od:Option Addr}
  {oq:Array (Option Value)} {N ps:List Str} {sp:Sp} (lk:K.lookup f=some ⟨oc,od,.func (PySem.W.fnOf name qual params body scope dV kV doc pm an ar ct),oq⟩) (jI:PySem.W.codeIn K ar qual=true) (S:FnScope N ps scope)
  (len:∀vs H Q E,sp vs H Q E->vs.length=ps.length)
  (kg:∀(A:Around) (outer:List Env) (s:Shared) (H:Hp) (vs:List V) (Q:VK) (E:XK),Room k (A.deeper (envOfC qual scope s.heap.objs.size f ar))->sp vs H Q E->
   ∃t,PSs (yc CX P w K mg base N qual scope f ar A outer s H E) body t/\t {nx:=fun _ H'=>Q .non H',rt:=Q} (start N vs) H):
  FnOk P w K mg base CX (k+1) f (PySem.W.fnOf name qual params body scope dV kV doc pm an ar ct) ps sp:=by
 refine⟨len,fun A outer s H args us vs Q E hr e0 hb r ot=>?_⟩;have hl:=len _ _ _ _ ot;have KX:K.In s.heap:=e0.mod.kin.keeps fun b o e=>(e0.bs b o e).1;have lim:s.heap.NoLimit:=e0.mod.nolimit.keeps fun b o e=>(e0.bs b o e).1
 have yb:∀y∈ps.zip us,scope.names.lookup y.1=some .local\/(scope.names.lookup y.1=some .cell/\((cellsFrom (s.heap.objs.size+1) scope.names []).lookup y.1).isSome=true):=fun⟨n,v⟩ hy=>by
  rcases S.par n (List.of_mem_zip hy).1 with q|q
  .exact .inl q
  .exact .inr ⟨q,PySem.W.cellsFrom_some _ _ _ (.inl q)⟩
 refine codeAny_call_function hr.depth (KX _ _ lk) rfl S.co S.gen rfl (PySem.W.codeRec_of KX jI) (hb _ _ _ _ ?_);refine wpAny_newFunctionEnv_cells S.kind yb fun env he s1 x=>?_;subst he;refine⟨lim.keeps x.toInCall.keep,codeAny_func ?_⟩;obtain⟨t,ht,hq⟩:=kg A outer s H vs Q E (hr.deeper _) ot;have I:Inv (yc CX P w K mg base N qual scope f ar A outer s H E) [] (start N vs) H s1:=yd S hr.hd e0 hl r x;refine wpAny_mono (ht [] s1 (start N vs) H _ I hq) (fun fl s' hs=>?_) fun e s' hs=>hs
 have fin:∀{ah:St} {H':Hp} {v:V} {u:Value},Inv (yc CX P w K mg base N qual scope f ar A outer s H E) [] ah H' s'->RelV v u->Q v H'->CE outer P w H s Q u s':=
  fun{ah H' v u} J rv q=>⟨v,H',J.os,J.bare,J.base,J.hok,rv,q⟩
 cases fl with
 |ret u=>
  obtain⟨v,ah,H',J,rv,q⟩:=hs;exact fin J rv q
 |next=>
  obtain⟨ah,H',J,q⟩:=hs;exact fin (v:=V.non) (u:=Value.none) J rfl q
 |brk=>
  obtain⟨_,_,_,q⟩:=hs;exact False.elim q
 |cont=>
  obtain⟨_,_,_,q⟩:=hs;exact False.elim q
section
variable{X:Cx}{x:Str}{p pos:Pos}{e:Expr}{es:List Expr}{t:TA}{id T:String}{r:List V->Hp->VK->Prop}
def tCB(r:List V->Hp->VK->Prop)(t:TA):TE:=fun σ H Q=>t σ H fun vs H1=>r vs H1 Q
theorem aO(hc:di X (.builtin id) r)(hg:Gl X x)(hm:X.mg x=none)(hv:bootBuiltins x=some (.builtin id))(ha:PA X (e::es) t)(hn:x≠"__name__":=by decide)(qv:(x==("__debug__":Str))=false:=by decide)
  (he:starEach (e::es) X.env=(false,eval e X.env)::starEach es X.env:=by rfl) (oo:(backTo pos (starEach es X.env)).any (·.1)=false:=by rfl):PE X (.Call (.Name x p) (e::es) [] pos) (tCB r t):=by
 intro Zt s σ H Q I h;refine wpAny_Call_Name_kw (gb I hg hm hv ?_ hn qv);exact PyProof.Rows.callWith_builtin1 (thn (ha pos Zt s σ H _ I h) fun us s1=>by rintro⟨vs,H1,I1,r1,q1⟩;exact hc Zt s1 σ H1 vs us Q I1 r1 q1) he oo
theorem cu(hc:di X (.type T) r)(hg:Gl X x)(hm:X.mg x=none)(hv:bootBuiltins x=some (.type T))(ha:PA X (e::es) t)(hn:x≠"__name__":=by decide)(qv:(x==("__debug__":Str))=false:=by decide)
  (he:starEach (e::es) X.env=(false,eval e X.env)::starEach es X.env:=by rfl) (oo:(backTo pos (starEach es X.env)).any (·.1)=false:=by rfl):PE X (.Call (.Name x p) (e::es) [] pos) (tCB r t):=by
 intro Zt s σ H Q I h;refine wpAny_Call_Name_kw (gb I hg hm hv ?_ hn qv);exact PyProof.Rows.callWith_type1 (thn (ha pos Zt s σ H _ I h) fun us s1=>by rintro⟨vs,H1,I1,r1,q1⟩;exact hc Zt s1 σ H1 vs us Q I1 r1 q1) he oo
end
end L2
namespace HT
open PySem PyProof.Rows
def lexLt:List Int->List Int->Bool
 |[],[]=>false
 |[],_::_=>true
 |_::_,[]=>false
 |x::xs,y::ys=>if x=y then lexLt xs ys else decide (x<y)
theorem lexLt_cons(x y:Int)(xs ys:List Int):lexLt (x::xs) (y::ys)=if x=y then lexLt xs ys else decide (x<y):=rfl
section
open PySem.SeqAt
open PySem.AutoSeq1 (wpAny_loadPart')
open PySem.MeetsSeq PySem.MeetsSeq2 PySem.MeetsSeq3
end
section
variable{prog:Program}{w:World}{A:Around}{E:Value->Shared->Prop}{s:Shared}
theorem cat_tup{t b:Addr}{vs ws:List Value}{Q:Value->Shared->Prop}(ht:IsTup s.heap t vs.toArray)(hb:IsTup s.heap b ws.toArray)(hv:vs≠[])
  (h1:ws=[]->Q (.ref t) s) (h2:ws≠[]->Q (.ref s.heap.objs.size) {s with heap:=s.heap.push {cls:=.type "tuple",data:=.seq (vs++ws).toArray}})
  (hsz:vs.length+ws.length<=sizeLine):wpAny (model prog w) A (binaryOp .Add (.ref t) (.ref b)) Q E s:=by
 obtain⟨⟨cls,dd,data,sl⟩,ho,hc,n,hd⟩:=id ht;obtain⟨⟨DH,vi,data2,qA⟩,qB,yi,n2,hd2⟩:=id hb;simp only at hc hd yi hd2;subst hc hd yi hd2;have e:vs.toArray++ws.toArray=(vs++ws).toArray:=by simp
 by_cases hw:ws=[]
 .exact concat_meets ⟨_,ho,rfl⟩ ⟨_,qB,rfl⟩ noFill_tuple_add seq_tuple_add PySem.F.slot_tuple_add PySem.F.entry_tuple_add (PySem.F.args_tuple_add_2 _ _)
   (tuple_addW1 t b vs.toArray ws.toArray n n2 dd vi sl qA (by simpa using hv) (by simp[hw])) ⟨ho,qB,h1 hw⟩
 .refine concat_meets ⟨_,ho,rfl⟩ ⟨_,qB,rfl⟩ noFill_tuple_add seq_tuple_add PySem.F.slot_tuple_add PySem.F.entry_tuple_add (PySem.F.args_tuple_add_2 _ _)
   (tuple_addW2 t b vs.toArray ws.toArray n n2 dd vi sl qA (by simpa using hv) (by simpa using hw) (by rw[List.size_toArray,List.size_toArray];exact hsz)) ⟨ho,qB,?_⟩
  rw[e];exact h2 hw
def sIx(n d:Nat):Option Int->Nat
 |none=>d
 |some v=>if v<0 then(v+(n:Int)).toNat else min v.toNat n
theorem sIx_none(n d:Nat):sIx n d none=d:=rfl
theorem sIx_nat(n d k:Nat):sIx n d (some (k:Int))=min k n:=by
 show(if(k:Int)<0 then((k:Int)+(n:Int)).toNat else min (k:Int).toNat n)=min k n;rw[zAx Zz,zAi]
theorem GD(n d:Nat)(hd:d<=n)(o:Option Int):sIx n d o<=n:=by
 cases o with
 |none=>exact hd
 |some v=>
  show(if v<0 then(v+(n:Int)).toNat else min v.toNat n)<=n;by_cases hv:v<0
  .rw[zAz hv];lia
  .rw[zAx hv];exact Nat.min_le_right _ _
theorem wk(v:Int)(n d:Nat):(if v<0 then max (v+(n:Int)) 0 else min v (n:Int))=((sIx n d (some v):Nat):Int):=by
 show(if v<0 then max (v+(n:Int)) 0 else min v (n:Int))=(((if v<0 then(v+(n:Int)).toNat else min v.toNat n):Nat):Int);by_cases hv:v<0
 .simp only[if_pos hv];lia
 .simp only[if_neg hv];lia
theorem uU(lo hi:Option Int)(n:Nat):Builtin.Slice.sliceAdjust lo hi 1 (n:Int)=(((sIx n 0 lo:Nat):Int),((sIx n n hi:Nat):Int)):=by
 have h1:¬((1:Int)<0):=Zz
 unfold Builtin.Slice.sliceAdjust;simp only[h1,if_false];refine Prod.ext ?_ ?_
 .cases lo with
  |none=>rfl
  |some v=>exact wk v n 0
 .cases hi with
  |none=>rfl
  |some v=>exact wk v n n
theorem uV(i j:Nat):Builtin.Slice.slicePlaces (i:Int) (j:Int) 1=j-i:=by
 unfold Builtin.Slice.slicePlaces;have h1:(1:Int)>0:=Zz
 simp only[h1,if_true,Int.ediv_one];split<;>lia
theorem kW{v:Value}{o:Option Int}{Q:Option Int->Shared->Prop}(p:IsPart v o)(h:Q o s):wpAny (model prog w) A (Builtin.Slice.slicePartIndex v) Q E s:=by
 cases p with
 |none=>exact slicePart_none h
 |int i t=>exact slicePart_int h
theorem fP{sl:Addr}{vl vu:Value}{lo hi:Option Int}{n:Nat}{Q:Int×Int×Nat->Shared->Prop}(hs:s.heap.IsSliceOf sl vl vu .none)(pl:IsPart vl lo)(pu:IsPart vu hi)
  (h:Q (((sIx n 0 lo:Nat):Int),1,sIx n n hi-sIx n 0 lo) s):wpAny (model prog w) A (Builtin.Slice.sliceApplied (.ref sl) (pure (n:Int))) Q E s:=by
 obtain⟨os,qE,Co,yn⟩:=id hs;unfold Builtin.Slice.sliceApplied Builtin.Slice.sliceFields;refine zAt (zAt (wpAny_field qE yn (x:=vl) rfl (zAt (wpAny_field qE yn (x:=vu) rfl (zAt (wpAny_field qE yn (x:=.none) rfl (zAv ?_)))))));refine zAt (slicePart_none ?_);show wpAny _ _ (if((1:Int)==0)=true then _ else _) _ _ s;rw[zAx Zx];refine zAt (kW pl (zAt (kW pu (zAt (zAv ?_)))));show wpAny _ _ (match Builtin.Slice.sliceAdjust lo hi 1 (n:Int)with | (lo,hi)=>pure (lo,(1:Int),Builtin.Slice.slicePlaces lo hi 1)) _ _ s;rw[uU lo hi n];show wpAny _ _ (pure (((sIx n 0 lo:Nat):Int),(1:Int),Builtin.Slice.slicePlaces ((sIx n 0 lo:Nat):Int) ((sIx n n hi:Nat):Int) 1)) _ _ s;rw[uV];exact zAv h
theorem zr(xs:Array Value)(i k:Nat):((List.range k).filterMap fun(m:Nat)=>xs[((i:Int)+(m:Int)*1).toNat]?).toArray=((xs.toList.drop i).take k).toArray:=by
 have e:(fun(m:Nat)=>xs[((i:Int)+(m:Int)*1).toNat]?)=fun m=>xs[i+m]?:=by
  funext m;have:((i:Int)+(m:Int)*1).toNat=i+m:=Zz
  rw[this]
 rw[e];have:=pick_run xs i k;rw[List.filterMap_map]at this;have e2:((fun x=>xs[x]?)∘fun x=>i+x)=fun m=>xs[i+m]?:=rfl;rw[e2]at this;rw[this]
theorem getItem_tuple_cut{t sl:Addr}{items:Array Value}{vl vu:Value}{lo hi:Option Int}{Q:Value->Shared->Prop}(ht:IsTup s.heap t items)(hs:s.heap.IsSliceOf sl vl vu .none)(pl:IsPart vl lo)(pu:IsPart vu hi)
  (hw:¬(sIx items.size 0 lo=0/\sIx items.size items.size hi=items.size))
  (h:Q (.ref s.heap.objs.size) {s with heap:=s.heap.push {cls:=.type "tuple",data:=.seq ((items.toList.drop (sIx items.size 0 lo)).take (sIx items.size items.size hi-sIx items.size 0 lo)).toArray}})
  (hsz:items.size<=sizeLine):wpAny (model prog w) A (getItem (.ref t) (.ref sl)) Q E s:=by
 have gL:sizeOk (.seq ((items.toList.drop (sIx items.size 0 lo)).take (sIx items.size items.size hi-sIx items.size 0 lo)).toArray):=by
  show((items.toList.drop (sIx items.size 0 lo)).take (sIx items.size items.size hi-sIx items.size 0 lo)).toArray.size<=sizeLine;rw[zA8,zAd,List.length_drop,zA9];lia
 have hj:sIx items.size items.size hi<=items.size:=GD _ _ (zA3 _) hi;obtain⟨os,qE,Co,yn⟩:=id hs
 have DI:s.TypeIs (.ref sl) "slice":=⟨os,qE,Co⟩
 unfold getItem
 try with_reducible refine wpAny_holding ?_
 first|refine zAt (zAv ?_)|skip
 refine zAt (wpAny_sequenceKey ht.typeIs Zx ?_)
 refine zAt (wpAny_callSpecial?_slot (name:=Str.ofString "__getitem__") ht.typeIs PyProof.Rows.slot_tuple_getitem
  (wpAny_call_entry PyProof.Rows.slot_tuple_getitem ht.typeIs entry_tuple_getitem ?_ (args_tuple_getitem _ _)))
 show wpAny _ _ (Builtin.Tuple.tupleItemsOf (.ref t)>>=_) _ _ s;refine zAt (tupleItemsOf_ ht ?_);refine zAt (wpAny_typeOf DI ?_);rw[zAz Zx];refine zAt (fP hs pl pu ?_)
 have Nf:¬((((sIx items.size 0 lo:Nat):Int)==0&&(1:Int)==1&&(sIx items.size items.size hi-sIx items.size 0 lo)==items.size)=true):=by
  intro q;rw[zAc,zAc]at q;have q1:((sIx items.size 0 lo:Nat):Int)=0:=eq_of_beq q.1.1;have q2:sIx items.size items.size hi-sIx items.size 0 lo=items.size:=eq_of_beq q.2;exact hw ⟨Zz,Zz⟩
 show wpAny _ _ (if(((sIx items.size 0 lo:Nat):Int)==0&&(1:Int)==1&&(sIx items.size items.size hi-sIx items.size 0 lo)==items.size)=true then _ else _) _ _ s;rw[zAx Nf,zr]
 first
  |exact zAt (m:=Builtin.Tuple.tupleExact _) (wpAny_newObj_type (zAv ⟨_,rfl,zAv h⟩) gL)
  |exact zAt (m:=Builtin.Tuple.tupleExact _) (wpAny_newObj_type (zAt (zAv (zAv ⟨_,rfl,zAv h⟩))) gL)
  |exact zAt (zAt (m:=Builtin.Tuple.tupleExact _) (wpAny_newObj_type (zAv (zAv ⟨_,rfl,zAv h⟩)) gL))
  |exact zAt (zAt (m:=Builtin.Tuple.tupleExact _) (wpAny_newObj_type (zAv ⟨_,rfl,zAv h⟩) gL))
end
end HT
namespace L2
open PySem PySem.Spec PyProof.Rows
abbrev TO:=St->Hp->(Option Int->Hp->Prop)->Prop
def PO(X:Cx)(e:Option Expr)(t:TO):Prop:=
 ∀(Zt:List (Addr×Obj)) (s:Shared) (σ:St) (H:Hp) (Q:Option Int->Hp->Prop),Inv X Zt σ H s->t σ H Q->
  wpAny (model X.prog X.w) X.A (evalPart e X.env) (fun u s'=>∃o H',Inv X Zt σ H' s'/\IsPart u o/\Q o H') X.xe s
def Di:TO:=fun _ H Q=>Q none H
def IW(t:TE):TO:=fun σ H Q=>t σ H fun x H1=>∃i,x=.int i/\Q (some i) H1
theorem intsAre_of{ns:List Int}:∀{us:List Value},Vals (ns.map V.int) us->IntsAre us ns:=by
 induction ns with
 |nil=>intro us r;rw[List.map_nil]at r;cases r;exact .nil
 |cons n ns ih=>
  intro us r;rw[zAk]at r
  cases r with
  |cons r1 r2=>
   obtain⟨t,e⟩:=r1;subst e;exact .cons n t (ih r2)
section
variable{X:Cx}{e:Expr}{te:TE}{lo hi:Option Expr}{tl th:TO}{pos p2:Pos}
theorem wu:PO X none Di:=by
 intro Zt s σ H Q I h;rw[evalPart_none];exact zAv ⟨none,H,I,.none,h⟩
theorem wy(h:PE X e te):PO X (some e) (IW te):=by
 intro Zt s σ H Q I hw;rw[evalPart_some];refine thn (h Zt s σ H _ I hw) fun u s1=>?_;rintro⟨x,H1,I1,r1,q1⟩;obtain⟨i,rfl,q⟩:=q1;obtain⟨t,rfl⟩:=r1;exact⟨some i,H1,I1,.int i t,q⟩
def SlR(X:Cx)(r:V->Option Int->Option Int->Hp->VK->Prop):Prop:=
 ∀(Zt:List (Addr×Obj)) (s:Shared) (σ:St) (H:Hp) (x:V) (v vl vu:Value) (lo hi:Option Int) (sl:Addr) (Q:VK),Inv X Zt σ H s->RelV x v->s.heap.IsSliceOf sl vl vu .none->IsPart vl lo->IsPart vu hi->r x lo hi H Q->
  ∃T id,typeLookup (.type T) "__getitem__"=pure (some (.builtin id))/\s.TypeIs v T/\wpAny (model X.prog X.w) X.A (getItem v (.ref sl)) (EP X Zt σ Q) X.xe s
def tSl(r:V->Option Int->Option Int->Hp->VK->Prop)(te:TE)(tl th:TO):TE:=fun σ H Q=>te σ H fun x H1=>tl σ H1 fun l H2=>th σ H2 fun u H3=>r x l u H3 Q
theorem sX{r:V->Option Int->Option Int->Hp->VK->Prop}(hr:SlR X r)(he:PE X e te)(hl:PO X lo tl)(hu:PO X hi th):PE X (.Subscript e (.Slice lo hi none p2) pos) (tSl r te tl th):=by
 intro Zt s σ H Q I h;refine Subscript_ (thn (he Zt s σ H _ I h) fun v s1=>?_);rintro⟨x,H1,I1,r1,q1⟩;refine wpAny_Slice (thn (hl Zt s1 σ H1 _ I1 q1) fun vl s2 ⟨l,H2,I2,pl,q2⟩=>thn (hu Zt s2 σ H2 _ I2 q2) fun vu s3=>?_);rintro⟨u,H3,I3,pu,q3⟩;rw[evalPart_none];refine zAv ?_;have I4:Inv X Zt σ H3 {s3 with heap:=s3.heap.push {cls:=.type "slice",data:=.fields #[vl,vu,.none]}}:=I3.kept (t':=s3.toks) fun b ob q=>zAw _ q;obtain⟨T,id,hT,ht,hg⟩:=hr Zt {s3 with heap:=s3.heap.push {cls:=.type "slice",data:=.fields #[vl,vu,.none]}} σ H3 x v vl vu l u s3.heap.objs.size Q I4 r1 (Heap.IsSliceOf.new ..) pl pu q3;show wpAny (model X.prog X.w) X.A (subscriptTail e (.Slice lo hi none p2) v (.ref s3.heap.objs.size)) (EP X Zt σ Q) X.xe {s3 with heap:=s3.heap.push {cls:=.type "slice",data:=.fields #[vl,vu,.none]}};exact tail_any (ops:=[.ref s3.heap.objs.size,v]) ht hT hg (by with_unfolding_all rfl)
def nu(xs:List V)(lo hi:Option Int):List V:=(xs.drop (HT.sIx xs.length 0 lo)).take (HT.sIx xs.length xs.length hi-HT.sIx xs.length 0 lo)
theorem jH(xs:List V)(lo hi:Option Int):(nu xs lo hi).length<=xs.length:=by
 unfold nu;rw[zAd,List.length_drop];lia
inductive RSlTI(K:Frag)(x:V)(lo:Option Int)(hi:Option Int)(H:Hp)(Q:VK):Prop
 |mk:∀a xs,(x=.ref a)->(SqT K H a xs)->(¬(HT.sIx xs.length 0 lo=0/\HT.sIx xs.length xs.length hi=xs.length))->(∀p,H p=none->Q (.ref p) (upd H p (.tup (nu xs lo hi))))->RSlTI K x lo hi H Q
def Kh(K:Frag):V->Option Int->Option Int->Hp->VK->Prop:=fun x lo hi H Q=>RSlTI K x lo hi H Q
theorem GF:SlR X (Kh X.K):=by
 intro Zt s σ H x v vl vu lo hi sl Q I rx hs pl pu h;obtain⟨a,xs,rfl,hx,hw,q⟩:=h;cases rx;obtain⟨Zr,r,ht,hz⟩:=I.tuple hx;have hlen:Zr.toArray.size=xs.length:=by rw[zA8];exact r.length.symm
 refine⟨"tuple",_,PyProof.Rows.slot_tuple_getitem.lookup,ht.typeIs,?_⟩;refine HT.getItem_tuple_cut ht hs pl pu (by rw[hlen];exact hw) ?_ (by rw[hlen];exact hz);rw[hlen];refine⟨.ref s.heap.objs.size,_,I.laid (t':=s.toks) (o:=.tup (nu xs lo hi)) (fun b ob q=>zAw _ q) (zA3 _) ?_,rfl,q _ (I.hok.fresh (zA3 _))⟩;exact⟨Nat.le_trans (jH xs lo hi) hz,_,(r.drop (HT.sIx xs.length 0 lo)).take (HT.sIx xs.length xs.length hi-HT.sIx xs.length 0 lo),IsTup.new _ _⟩
inductive RCatTI(K:Frag)(x:V)(y:V)(H:Hp)(Q:VK):Prop
 |mk:∀a b xs ys,(x=.ref a)->(y=.ref b)->(SqT K H a xs)->(SqT K H b ys)->(xs≠[])->(xs.length+ys.length<=sizeLine)->((ys=[]->Q (.ref a) H))->((ys≠[]->∀p,H p=none->Q (.ref p) (upd H p (.tup (xs++ys)))))->RCatTI K x y H Q
def J0(K:Frag):R2:=fun x y H Q=>RCatTI K x y H Q
theorem Vals.nil_iff{xs:List V}{us:List Value}(r:Vals xs us):us=[]↔xs=[]:=by
 cases r with
 |nil=>simp
 |cons _ _=>simp
theorem qy:OpR X (binaryOp .Add) (J0 X.K):=by
 intro Zt s σ H x y v u Q I rx ry h;obtain⟨a,b,xs,ys,rfl,rfl,ha,hb,hx,hz,q1,q2⟩:=h;cases rx;cases ry;obtain⟨Zr,r1,p1,_⟩:=I.tuple ha;obtain⟨bo,r2,p2,_⟩:=I.tuple hb;refine HT.cat_tup p1 p2 (fun z=>hx (r1.nil_iff.mp z)) (fun z=>⟨.ref a,H,I,rfl,q1 (r2.nil_iff.mp z)⟩) (fun z=>?_) (by rw[<-r1.length,<-r2.length];exact hz);refine⟨.ref s.heap.objs.size,_,I.laid (t':=s.toks) (o:=.tup (xs++ys)) (fun b ob q=>zAw _ q) (zA3 _) ?_,rfl,q2 (fun w=>z (r2.nil_iff.mpr w)) _ (I.hok.fresh (zA3 _))⟩;exact⟨by rw[zA2];exact hz,_,r1.append r2,IsTup.new _ _⟩
end
def ixN(n:Nat)(i:Int):Option Nat:=if 0<=i then(if i<n then some i.toNat else none)else if -(n:Int)<=i then some (i+n).toNat else none
def atI{α:Type}(xs:List α)(i:Int):Option α:=(ixN xs.length i).bind fun j=>xs[j]?
theorem wz{n:Nat}{i:Int}{j:Nat}(h:ixN n i=some j):seqIndex? i n=some j/\j<n/\-(n:Int)<=i/\i<n:=by
 unfold ixN at h;by_cases h0:0<=i
 .rw[zAz h0]at h;by_cases h1:i<n
  .rw[zAz h1]at h;have e:i.toNat=j:=zAl h;exact⟨by rw[seqIndex_of h0 h1,e],Zz,Zz,h1⟩
  .rw[zAx h1]at h;cases h
 .rw[zAx h0]at h;by_cases h1:-(n:Int)<=i
  .rw[zAz h1]at h;have e:(i+n).toNat=j:=zAl h;exact⟨by rw[seqIndex_neg Zz h1,e],Zz,h1,Zz⟩
  .rw[zAx h1]at h;cases h
theorem wA{α:Type}{xs:List α}{i:Int}{v:α}(h:atI xs i=some v):∃j,seqIndex? i xs.length=some j/\xs[j]?=some v/\j<xs.length/\-(xs.length:Int)<=i/\i<xs.length:=by
 unfold atI at h
 cases e:ixN xs.length i with
 |none=>rw[e]at h;cases h
 |some j=>
  rw[e]at h;obtain⟨h1,h2,h3,h4⟩:=wz e;exact⟨j,h1,h,h2,h3,h4⟩
theorem dI{α:Type}{xs:List α}{j:Nat}{v:α}(h:xs[j]?=some v):atI xs (j:Int)=some v:=by
 have hj:j<xs.length:=(zAa.mp h).1
 have e:ixN xs.length (j:Int)=some j:=by
  unfold ixN;rw[if_pos Zz,if_pos Zz];simp
 unfold atI;rw[e];exact h
def qz(b:Expr):Prop:=∀o i,subscripted b false o i=operate [o,i] (getItem o i)
def IxR(X:Cx)(r:R2):Prop:=
 ∀(value slice:Expr) (Zt:List (Addr×Obj)) (s:Shared) (σ:St) (H:Hp) (x y:V) (v u:Value) (Q:VK),Inv X Zt σ H s->RelV x v->RelV y u->r x y H Q->
  subscripted slice false v u=operate [v,u] (getItem v u)->wpAny (model X.prog X.w) X.A (subscriptTail value slice v u) (EP X Zt σ Q) X.xe s
def MtR(X:Cx)(id:String)(r:V->List V->Hp->VK->Prop):Prop:=
 ∀(Zt:List (Addr×Obj)) (s:Shared) (σ:St) (H:Hp) (x:V) (xs:List V) (v:Value) (us:List Value) (Q:VK),Inv X Zt σ H s->RelV x v->Vals xs us->r x xs H Q->
  wpAny (model X.prog X.w) X.A (call (.builtin id) (v::us)) (EP X Zt σ Q) X.xe s
section
variable{X:Cx}{a b:Expr}{ta tb:TE}{pos:Pos}
theorem FW{r:R2}(hr:IxR X r)(ha:PE X a ta)(hb:PE X b tb)(hs:qz b):PE X (.Subscript a b pos) (tOp r ta tb):=by
 intro Zt s σ H Q I h;exact Subscript_ (Gv ha hb I h fun v u s2 x y H2 I2 rx ry q=>hr a b Zt s2 σ H2 x y v u Q I2 rx ry q (hs _ _))
inductive RIxLI(K:Frag)(x:V)(y:V)(H:Hp)(Q:VK):Prop
 |mk:∀p xs i v,(x=.ref p)->(y=.int i)->(SqL K H p xs)->(atI xs i=some v)->(Q v H)->RIxLI K x y H Q
def J1(K:Frag):R2:=fun x y H Q=>RIxLI K x y H Q
inductive RIxTI(K:Frag)(x:V)(y:V)(H:Hp)(Q:VK):Prop
 |mk:∀p xs i v,(x=.ref p)->(y=.int i)->(SqT K H p xs)->(atI xs i=some v)->(Q v H)->RIxTI K x y H Q
def J2(K:Frag):R2:=fun x y H Q=>RIxTI K x y H Q
theorem bM:IxR X (J1 X.K):=by
 intro value slice Zt s σ H x y v u Q I rx ry h hs;obtain⟨p,xs,i,z,rfl,rfl,hq,he,q⟩:=h;cases rx;obtain⟨t,rfl⟩:=ry;obtain⟨Zr,r,pl,hz⟩:=I.list hq;obtain⟨j,h1,h2,h3,h4,h5⟩:=wA he;obtain⟨w,ew,de⟩:=r.get h2;have hl:=r.length;have hn:=kJ
 have fin:EP X Zt σ Q w s:=⟨z,H,I,de,q⟩
 by_cases h0:0<=i
 .have hj:i.toNat=j:=by
   rw[seqIndex_of h0 h5]at h1;exact zAl h1
  exact item_listR pl.isList h0 Zz (by rw[hj];simpa using ew) fin hs
 .have hj:(i+(Zr.toArray.size:Int)).toNat=j:=by
   rw[seqIndex_neg Zz h4]at h1;rw[zA8,<-hl];exact zAl h1
  exact subscriptTail_builtinR (x:=w) pl.isList.typeIs slot_list_getitem.lookup
   (wpAny_getItem_list_neg (Q:=fun r s'=>r=w/\EP X Zt σ Q r s') pl.isList Zz (by rw[List.size_toArray]<;>lia) Zz (by rw[hj];simpa using ew) ⟨rfl,fin⟩) hs
theorem bC:IxR X (J2 X.K):=by
 intro value slice Zt s σ H x y v u Q I rx ry h hs;obtain⟨p,xs,i,z,rfl,rfl,hq,he,q⟩:=h;cases rx;obtain⟨t,rfl⟩:=ry;obtain⟨Zr,r,pl,hz⟩:=I.tuple hq;obtain⟨j,h1,h2,h3,h4,h5⟩:=wA he;obtain⟨w,ew,de⟩:=r.get h2;have hl:=r.length;have hn:=kJ
 have fin:EP X Zt σ Q w s:=⟨z,H,I,de,q⟩
 exact subscriptTail_builtinR (x:=w) pl.typeIs slot_tuple_getitem.lookup
  (getItem_tuple (j:=j) (Q:=fun r s'=>r=w/\EP X Zt σ Q r s') pl Zz Zz (by rw[List.size_toArray,<-hl];exact h1) (by simpa using ew) ⟨rfl,fin⟩) hs
theorem uW(Zr:List Value)(n j:Nat)(u:Value):Obj.mapSeq (·.setIfInBounds j u) {cls:=.type "list",data:=.seq Zr.toArray n}={cls:=.type "list",data:=.seq (Zr.set j u).toArray n}:=by
 simp[Obj.mapSeq]
theorem Inv.lst{Zt:List (Addr×Obj)}{σ:St}{H:Hp}{s:Shared}{p:Addr}{xs:List V}(I:Inv X Zt σ H s)(h:H p=some (.lst xs)):
  ∃(Zr:List Value) (n:Nat),Vals xs Zr/\s.heap.get? p=some {cls:=.type "list",data:=.seq Zr.toArray n}/\xs.length<=sizeLine:=by
 obtain⟨z,Zr,n,r,e⟩:=I.hok p _ h;exact⟨Zr,n,r,e,z⟩
theorem Inv.lstUpd{Zt:List (Addr×Obj)}{σ:St}{H:Hp}{s:Shared}{p:Addr}{xs ys:List V}{Zr its':List Value}{n n':Nat}{f:Obj->Obj}(I:Inv X Zt σ H s)(h:H p=some (.lst xs))
  (ho:s.heap.get? p=some {cls:=.type "list",data:=.seq Zr.toArray n}) (hf:f {cls:=.type "list",data:=.seq Zr.toArray n}={cls:=.type "list",data:=.seq its'.toArray n'}) (r:Vals ys its') (hz:ys.length<=sizeLine) (t:Nat):
  Inv X Zt σ (upd H p (.lst ys)) {s with heap:=s.heap.update p f,toks:=t}:=by
 have e:(s.heap.update p f).get? p=some {cls:=.type "list",data:=.seq its'.toArray n'}:=by
  rw[Heap.get?_update_self f ho (by rw[hf]<;>rfl),hf]
 refine I.write (x:=p) (e:=p) (by rw[h];trivial) (.inl rfl) (fun b u hb q=>(Heap.get?_update_other _ _ (Ne.symm hb)).trans q) ⟨_,e⟩ ?_;exact⟨hz,its',n',r,e⟩
inductive RSetLI(o:V)(i:V)(v:V)(H:Hp)(Q:Hp->Prop):Prop
 |mk:∀p xs k j,(o=.ref p)->(i=.int k)->(H p=some (.lst xs))->(ixN xs.length k=some j)->(Q (upd H p (.lst (xs.set j v))))->RSetLI  o i v H Q
def J3:V->V->V->Hp->(Hp->Prop)->Prop:=fun o i v H Q=>RSetLI  o i v H Q
theorem set_list:Gs X J3:=by
 intro Zt s σ H o i v ov iv u Q I ro ri rv h;obtain⟨p,xs,k,j,rfl,rfl,hp,hj,q⟩:=h;cases ro;obtain⟨t,rfl⟩:=ri;obtain⟨Zr,n,r,ho,hz⟩:=I.lst hp;obtain⟨h1,h2,h3,h4⟩:=wz hj;have hl:=r.length;have hn:=kJ
 have I':Inv X Zt σ (upd H p (.lst (xs.set j v))) {s with heap:=s.heap.update p (Obj.mapSeq (·.setIfInBounds j u))}:=
  I.lstUpd hp ho (uW Zr n j u) (r.set rv j) (by rw[List.length_set];exact hz) s.toks
 by_cases h0:0<=k
 .have hk:k.toNat=j:=by
   rw[seqIndex_of h0 h4]at h1;exact zAl h1
  exact PySem.W.ki_setAt ho h0 Zz (by rw[zA8,<-hl];exact h4) (by rw[hk];exact⟨_,I',q⟩)
 .have hk:(k+(Zr.toArray.size:Int)).toNat=j:=by
   rw[seqIndex_neg Zz h3]at h1;rw[zA8,<-hl];exact zAl h1
  exact PySem.W.ki_setBack ho Zz (by rw[zA8,<-hl];exact h3) Zz (by rw[hk];exact⟨_,I',q⟩)
theorem qC(lo hi:Option Int)(n:Nat):(sliceBounds lo hi none n).1=((HT.sIx n 0 lo:Nat):Int)/\(sliceBounds lo hi none n).2.1=((HT.sIx n n hi:Nat):Int)/\(sliceBounds lo hi none n).2.2=1:=by
 refine⟨?_,?_,rfl⟩
 .cases lo with
  |none=>simp[sliceBounds,HT.sIx]
  |some i=>
   simp only[sliceBounds,HT.sIx,Option.getD_none,show(1:Int)>0 by decide,if_true];by_cases h:i<0
   .simp only[h,if_true]<;>lia
   .simp only[h,if_false]<;>lia
 .cases hi with
  |none=>simp[sliceBounds,HT.sIx]
  |some i=>
   simp only[sliceBounds,HT.sIx,Option.getD_none,show(1:Int)>0 by decide,if_true];by_cases h:i<0
   .simp only[h,if_true]<;>lia
   .simp only[h,if_false]<;>lia
theorem nA(Zr:List Value)(lo hi:Option Int):slicePick Zr.toArray lo hi none=((Zr.drop (HT.sIx Zr.length 0 lo)).take (HT.sIx Zr.length Zr.length hi-HT.sIx Zr.length 0 lo)).toArray:=by
 obtain⟨h1,h2,h3⟩:=qC lo hi Zr.toArray.size;unfold slicePick;rw[h1,h2,h3];simp only[sliceRange_one,pick_run,List.size_toArray]<;>rfl
inductive RSlLI(K:Frag)(x:V)(lo:Option Int)(hi:Option Int)(H:Hp)(Q:VK):Prop
 |mk:∀a xs,(x=.ref a)->(SqL K H a xs)->(∀p,H p=none->Q (.ref p) (upd H p (.lst (nu xs lo hi))))->RSlLI K x lo hi H Q
def Kl(K:Frag):V->Option Int->Option Int->Hp->VK->Prop:=fun x lo hi H Q=>RSlLI K x lo hi H Q
theorem Dj:SlR X (Kl X.K):=by
 intro Zt s σ H x v vl vu lo hi sl Q I rx hs pl pu h;obtain⟨a,xs,rfl,hx,q⟩:=h;cases rx;obtain⟨Zr,r,ht,hz⟩:=I.list hx;have hlen:=r.length;refine⟨"list",_,slot_list_getitem.lookup,ht.isList.typeIs,?_⟩;refine wpAny_getItem_list_slice ht.isList hs pl pu .none Zy ?_ (by rw[List.size_toArray]<;>lia);rw[nA,<-hlen];refine⟨.ref s.heap.objs.size,_,I.laid (t':=s.toks) (o:=.lst (nu xs lo hi)) (fun b ob q=>Heap.get?_push_of_some _ q) (zA3 _) ?_,rfl,q _ (I.hok.fresh (zA3 _))⟩;exact⟨Nat.le_trans (jH xs lo hi) hz,_,0,(r.drop (HT.sIx xs.length 0 lo)).take (HT.sIx xs.length xs.length hi-HT.sIx xs.length 0 lo),Heap.get?_push_size _ rfl⟩
theorem bh:di X (.builtin "len") (fun xs H Q=>∃p ys,xs=[.ref p]/\(SqL X.K H p ys\/SqT X.K H p ys)/\Q (.int ys.length) H):=by
 intro Zt s σ H xs us Q I r h;obtain⟨p,ys,rfl,hq,q⟩:=h;obtain⟨u,rfl,rx⟩:=vals1 r;cases rx;have hn:=kJ;rcases hq with hq|hq
 .obtain⟨Zr,r',pl,hz⟩:=I.list hq;have hlen:=r'.length;exact Calls.call_len_list pl.isList (by simp only[List.size_toArray]<;>lia) ⟨.int ys.length,H,I.tok _,⟨s.toks+1,by rw[List.size_toArray,hlen]⟩,q⟩
 .obtain⟨Zr,r',pl,hz⟩:=I.tuple hq;have hlen:=r'.length;exact len_tuple pl (by simp only[List.size_toArray]<;>lia) ⟨.int ys.length,H,I.tok _,⟨s.toks+1,by rw[List.size_toArray,hlen]⟩,q⟩
theorem qD:di X (.type "list") (fun xs H Q=>∃p ys,xs=[.ref p]/\(SqL X.K H p ys\/SqT X.K H p ys)/\∀l,H l=none->Q (.ref l) (upd H l (.lst ys))):=by
 intro Zt s σ H xs us Q I r h;obtain⟨p,ys,rfl,hq,q⟩:=h;obtain⟨u,rfl,rx⟩:=vals1 r;cases rx
 have fin:∀(Zr:List Value),Vals ys Zr->ys.length<=sizeLine->∀(h':Heap) (c':Nat),(∀b o',s.heap.get? b=some o'->h'.get? b=some o')->
   h'.get? s.heap.objs.size=some {cls:=.type "list",dict:=none,data:=.seq Zr.toArray c',slots:=#[]}->EP X Zt σ Q (.ref s.heap.objs.size) {s with heap:=h'}:=fun Zr r' hz h' c' kp e=>
  ⟨.ref s.heap.objs.size,_,I.laid (t':=s.toks) kp (zA3 _) (show ObjOk X.prog X.w _ h' _ (.lst ys)from⟨hz,Zr,c',r',e⟩),rfl,q _ (I.hok.fresh (zA3 _))⟩
 rcases hq with hq|hq
 .obtain⟨Zr,r',pl,hz⟩:=I.list hq;have hlen:=r'.length;obtain⟨o,ho,hc,n,hd⟩:=pl.isList;exact call_list_seq p (.inl rfl) ho hc hd (fun h' c' kp e=>fin Zr r' hz h' c' kp e) (by simp only[List.size_toArray]<;>lia)
 .obtain⟨Zr,r',pl,hz⟩:=I.tuple hq;have hlen:=r'.length;obtain⟨o,ho,hc,n,hd⟩:=pl;exact call_list_seq p (.inr rfl) ho hc hd (fun h' c' kp e=>fin Zr r' hz h' c' kp e) (by simp only[List.size_toArray]<;>lia)
theorem bV:di X (.type "tuple") (fun xs H Q=>∃p ys,xs=[.ref p]/\((SqL X.K H p ys/\∀l,H l=none->Q (.ref l) (upd H l (.tup ys)))\/(SqT X.K H p ys/\Q (.ref p) H))):=by
 intro Zt s σ H xs us Q I r h;obtain⟨p,ys,rfl,h⟩:=h;obtain⟨u,rfl,rx⟩:=vals1 r;cases rx;rcases h with⟨hq,q⟩|⟨hq,q⟩
 .obtain⟨Zr,r',pl,hz⟩:=I.list hq;have hlen:=r'.length;refine call_tuple_list pl.isList (fun h' kp=>?_) (by simp only[List.size_toArray]<;>lia);have I1:Inv X Zt σ H {s with heap:=h'}:=I.kept (t':=s.toks) kp
  have I2:Inv X Zt σ (upd H h'.objs.size (.tup ys)) {s with heap:=h'.push {cls:=.type "tuple",data:=.seq Zr.toArray}}:=
   I1.laid (t':=s.toks) (fun b o e=>zAw _ e) (zA3 _) (show ObjOk X.prog X.w _ _ _ (.tup ys)from⟨hz,Zr,r',IsTup.new _ _⟩)
  exact⟨.ref h'.objs.size,_,I2,rfl,q _ (I1.hok.fresh (zA3 _))⟩
 .obtain⟨Zr,r',pl,hz⟩:=I.tuple hq;exact call_tuple_same pl ⟨.ref p,H,I,rfl,q⟩
def tyV(K:Frag)(T:String)(x:V)(H:Hp):Prop:=match x with
 |.str _=>T="str"
 |.int _=>T="int"
 |.ref p=>(T="list"/\∃xs,SqL K H p xs)\/(T="tuple"/\∃o,K.lookup p=some o/\o.cls=.type "tuple"/\o.dict=none) \/
   (T="dict"/\((∃Zs,H p=some (.dK Zs))\/∃Zs,H p=some (.dT Zs)))\/(T="set"/\∃S n,H p=some (.set S n))
 |_=>False
theorem GJ{Zt:List (Addr×Obj)}{σ:St}{H:Hp}{s:Shared}{T:String}{x:V}{v:Value}(I:Inv X Zt σ H s)(r:RelV x v)(ty:tyV X.K T x H):
  s.TypeIs v T/\∀a,v=.ref a->∃ob,s.heap.get? a=some ob/\ob.dict=none:=by
 cases x with
 |str z=>
  obtain⟨t,rfl⟩:=r;cases(show T="str" from ty);exact⟨typeIs_str s z t,fun _ e=>nomatch e⟩
 |int i=>
  obtain⟨t,rfl⟩:=r;cases(show T="int" from ty);exact⟨typeIs_int s i t,fun _ e=>nomatch e⟩
 |ref p=>
  cases r;rcases ty with⟨rfl,xs,hq⟩|⟨rfl,o,hk,hc,hd⟩|⟨rfl,hk⟩|⟨rfl,S,n,hk⟩
  .obtain⟨Zr,_,pl,_⟩:=I.list hq;refine⟨pl.isList.typeIs,fun a e=>?_⟩;cases e;obtain⟨o,n,e,c,hd,_⟩:=pl;exact⟨o,e,hd⟩
  .refine⟨⟨o,I.kIn p o hk,hc⟩,fun a e=>?_⟩;cases e;exact⟨o,I.kIn _ o hk,hd⟩
  .have z:∃o,s.heap.get? p=some o/\o.ExactDict:=by
    rcases hk with⟨Zs,hk⟩|⟨Zs,hk⟩
    .obtain⟨_,_,_,_,o,_,_,e,ex,_⟩:=I.hok p _ hk;exact⟨o,e,ex⟩
    .obtain⟨_,_,_,_,o,_,_,e,ex,_⟩:=I.hok p _ hk;exact⟨o,e,ex⟩
   obtain⟨o,e,ex⟩:=z;refine⟨⟨o,e,ex.1⟩,fun a e2=>?_⟩;cases e2;exact⟨o,e,ex.2.1⟩
  .obtain⟨o,_,_,_,e,ex,_⟩:=I.hok p _ hk;refine⟨⟨o,e,ex.1⟩,fun a e2=>?_⟩;cases e2;exact⟨o,e,ex.2.1⟩
 |_=>exact False.elim ty
def tBM(K:Frag)(T:String)(r:V->List V->Hp->VK->Prop)(to:TE)(t:TA):TE:=fun σ H Q=>to σ H fun x H1=>tyV K T x H1/\t σ H1 fun xs H2=>r x xs H2 Q
variable{o e:Expr}{es:List Expr}{to:TE}{t:TA}{name:Str}{apos bX:Pos}{T id:String}{r:V->List V->Hp->VK->Prop}
theorem wB(pa:PlainAttrs T)(slot:Slot T name id)(Ng:typeOf (.builtin id)=pure (.type "method_descriptor"))(hm:MtR X id r)(ho:PE X o to)(ha:PA X (e::es) t)
  (yy:attributeBase o name X.env (eval o X.env)=eval o X.env:=by rfl)
  (DJ:((backTo bX (starEach (e::es) X.env)).all (fun x=>!x.1)&&(backToKw bX (keywordEach [] X.env)).all (fun x=>x.1.isSome)
   && decide ((e::es).length+([]:List Keyword).length+(if([]:List Keyword).isEmpty then 0 else 1)<30))=true:=by rfl)
  (yA:(apos.endLine==bX.line)=true:=by rfl) (hs:starEach (e::es) X.env=(false,eval e X.env)::starEach es X.env:=by rfl) (qS:(backTo bX (starEach es X.env)).any (·.1)=false:=by rfl):
  PE X (.Call (.Attribute o name apos) (e::es) [] bX) (tBM X.K T r to t):=by
 intro Zt s σ H Q I h;refine wpAny_Call_method_late yy DJ yA rfl (thn (ho Zt s σ H _ I h) fun v s1=>?_);rintro⟨x,H1,I1,r1,ty,q1⟩;obtain⟨h1,h2⟩:=GJ I1 r1 ty;refine⟨T,id,pa,slot,Ng,h1,h2,?_⟩;have hA:=ha bX Zt s1 σ H1 _ I1 q1;rw[hs]at hA⊢;refine Calls.callWith_builtin (by show(false||(backTo bX (starEach es X.env)).any (·.1))=false;rw[qS]<;>rfl) (Calls.evalArgs_plain ?_);exact thn hA fun us s2=>by rintro⟨vs,H2,I2,r2,q2⟩;exact hm Zt s2 σ H2 x vs v us Q I2 r1 r2 q2
end
def MtM(X:Cx)(id:String)(r:V->List V->Hp->VK->Prop):Prop:=
 ∀(Zt:List (Addr×Obj)) (s:Shared) (σ:St) (H:Hp) (x:V) (xs:List V) (v:Value) (us:List Value) (Q:VK),Inv X Zt σ H s->RelV x v->Vals xs us->r x xs H Q->
  wpAny (model X.prog X.w) X.A (call (.builtin id) (v::us)) (EP X Zt σ Q) X.xe s
theorem Vals.one:∀{x:V} {us:List Value},Vals [x] us->∃u,us=[u]/\RelV x u
 |_,_,.cons r .nil=>⟨_,rfl,r⟩
theorem Vals.zero:∀{us:List Value},Vals [] us->us=[]
 |_,.nil=>rfl
theorem Vals.rep{xs:List V}{us:List Value}(h:Vals xs us):∀k:Nat,Vals (List.replicate k xs).flatten (List.replicate k us).flatten
 |0=>.nil
 |k+1=>by
  rw[List.replicate_succ,List.replicate_succ,List.flatten_cons,List.flatten_cons];exact Vals.append h (Vals.rep h k)
theorem foldl_rep(Zr:List Value):∀(k:Nat) (acc:List Value),
  List.foldl (fun x1 x2=>x1++x2) acc.toArray (List.replicate k Zr.toArray)=(acc++(List.replicate k Zr).flatten).toArray
 |0,acc=>by simp
 |k+1,acc=>by
  have e:acc.toArray++Zr.toArray=(acc++Zr).toArray:=by simp
  have e2:(acc++Zr)++(List.replicate k Zr).flatten=acc++(List.replicate (k+1) Zr).flatten:=by
   rw[List.replicate_succ,List.flatten_cons,zAf]
  rw[<-e2,<-foldl_rep Zr k (acc++Zr),<-e,List.replicate_succ,List.foldl_cons]
section
variable{X:Cx}{Zt:List (Addr×Obj)}{σ:St}{H:Hp}{s:Shared}{l b:Addr}{xs ys zs:List V}
theorem Inv.lset{Zr its':List Value}{n:Nat}{f:Array Value->Array Value}{t':Nat}(I:Inv X Zt σ H s)(hH:H l=some (.lst xs))
  (e:s.heap.get? l=some {cls:=.type "list",data:=.seq Zr.toArray n}) (hf:f Zr.toArray=its'.toArray) (hv:Vals ys its') (hz:ys.length<=sizeLine):
  Inv X Zt σ (upd H l (.lst ys)) {s with heap:=s.heap.update l (Obj.mapSeq f),toks:=t'}:=by
 have q:=PySem.IsL.update e f;rw[hf]at q;refine I.write (x:=l) (e:=l) (by rw[hH];exact trivial) (.inl rfl) (fun b' u hb hu=>(Heap.get?_update_other s.heap (Obj.mapSeq f) (Ne.symm hb)).trans hu) ⟨_,q⟩ ?_;exact⟨hz,its',_,hv,q⟩
theorem Inv.lnew{Zr:List Value}{t':Nat}(I:Inv X Zt σ H s)(hv:Vals ys Zr)(hz:ys.length<=sizeLine):
  Inv X Zt σ (upd H s.heap.objs.size (.lst ys)) {s with heap:=s.heap.push {cls:=.type "list",data:=.seq Zr.toArray},toks:=t'}:=
 I.laid (fun _ _ q=>zAw _ q) (zA3 _) ⟨hz,Zr,0,hv,zB2 _ rfl⟩
theorem Inv.fresh(I:Inv X Zt σ H s):H s.heap.objs.size=none:=I.hok.fresh (zA3 _)
theorem Inv.lstM(I:Inv X Zt σ H s)(hH:H l=some (.lst xs)):xs.length<=sizeLine/\∃(Zr:List Value) (n:Nat),Vals xs Zr/\xs.length=Zr.length/\s.heap.get? l=some {cls:=.type "list",data:=.seq Zr.toArray n}:=by
 obtain⟨z,Zr,n,r,e⟩:=I.hok l _ hH;exact⟨z,Zr,n,r,r.length,e⟩
theorem kY{n:Nat}(h:n<=sizeLine):Builtin.List.listTooLong n=false:=by
 unfold Builtin.List.listTooLong;exact zB5 Zz
end
section
variable{X:Cx}
inductive RAppendI(x:V)(vs:List V)(H:Hp)(Q:VK):Prop
 |mk:∀l xs y,(x=.ref l)->(vs=[y])->(H l=some (.lst xs))->(xs.length<sizeLine)->(Q .non (upd H l (.lst (xs++[y]))))->RAppendI  x vs H Q
def Dk:V->List V->Hp->VK->Prop:=fun x vs H Q=>RAppendI  x vs H Q
theorem iu:MtM X "list.append" Dk:=by
 intro Zt s σ H x vs v us Q I rx rv h;obtain⟨l,xs,y,rfl,rfl,hH,hz,q⟩:=h;cases rx;obtain⟨u,rfl,ru⟩:=rv.one;obtain⟨z,Zr,n,r,hl,e⟩:=I.lstM hH;refine call_meets F.slot_list_append ⟨_,e,rfl⟩ F.entry_list_append (F.args_list_append_2 _ _) (PySem.list_append l Zr.toArray n u (by rw[zA8];lia)) ⟨e,?_⟩;refine⟨.non,_,I.lset (its':=Zr++[u]) hH e Zy (r.append (.cons ru .nil)) ?_,rfl,q⟩;rw[zA2,List.length_singleton];lia
inductive RExtendI(x:V)(vs:List V)(H:Hp)(Q:VK):Prop
 |mk:∀l b xs zs,(x=.ref l)->(vs=[.ref b])->(H l=some (.lst xs))->(H b=some (.lst zs))->(xs.length+zs.length<=sizeLine)->(Q .non (upd H l (.lst (xs++zs))))->RExtendI  x vs H Q
def Dl:V->List V->Hp->VK->Prop:=fun x vs H Q=>RExtendI  x vs H Q
theorem Ij:MtM X "list.extend" Dl:=by
 intro Zt s σ H x vs v us Q I rx rv h;obtain⟨l,b,xs,zs,rfl,rfl,hH,hB,hz,q⟩:=h;cases rx;obtain⟨u,rfl,ru⟩:=rv.one;cases ru;obtain⟨z,Zr,n,r,hl,e⟩:=I.lstM hH;obtain⟨z2,bo,n2,r2,ki,e2⟩:=I.lstM hB;have hsz:Zr.toArray.size+bo.toArray.size<=sizeLine:=by rw[zA8,zA8];lia
 have fy:¬(!Zr.toArray.isEmpty&&Builtin.List.listTooLong (Zr.toArray.size+bo.toArray.size))=true:=by
  rw[kY hsz,Bool.and_false];exact zAg
 refine call_meets F.slot_list_extend ⟨_,e,rfl⟩ F.entry_list_extend (F.args_list_extend_2 _ _)
  (AutoSeq1.list_extend_list_list_0 l Zr.toArray n b bo.toArray n2 fy (by rw[zA8];lia) Zz) ⟨e,e2,?_⟩
 refine⟨.non,_,I.lset (its':=Zr++bo) hH e Zy (r.append r2) ?_,rfl,q⟩;rw[zA2];lia
inductive RCatI(x:V)(y:V)(H:Hp)(Q:VK):Prop
 |mk:∀l b xs zs,(x=.ref l)->(y=.ref b)->(H l=some (.lst xs))->(H b=some (.lst zs))->(xs.length+zs.length<=sizeLine)->(∀p,H p=none->Q (.ref p) (upd H p (.lst (xs++zs))))->RCatI  x y H Q
def Km:R2:=fun x y H Q=>RCatI  x y H Q
theorem GK:OpR X (binaryOp .Add) Km:=by
 intro Zt s σ H x y v u Q I rx ry h;obtain⟨l,b,xs,zs,rfl,rfl,hH,hB,hz,q⟩:=h;cases rx;cases ry;obtain⟨z,Zr,n,r,hl,e⟩:=I.lstM hH;obtain⟨z2,bo,n2,r2,ki,e2⟩:=I.lstM hB;refine PySem.P.add_list e e2 ?_ (by rw[zA8,zA8];lia);have ea:Zr.toArray++bo.toArray=(Zr++bo).toArray:=by simp
 rw[ea];exact⟨.ref _,_,I.lnew (t':=s.toks) (r.append r2) (by rw[zA2];lia),rfl,q _ I.fresh⟩
inductive RRepI(x:V)(y:V)(H:Hp)(Q:VK):Prop
 |mk:∀l k xs,(x=.ref l)->(y=.int k)->(H l=some (.lst xs))->(-(2^63)<=k)->(k<2^63)->(xs.length*k.toNat<=sizeLine)->(∀p,H p=none->Q (.ref p) (upd H p (.lst (List.replicate k.toNat xs).flatten)))->RRepI  x y H Q
def Ko:R2:=fun x y H Q=>RRepI  x y H Q
theorem len_rep{α:Type}(xs:List α)(k:Nat):(List.replicate k xs).flatten.length=k*xs.length:=by
 induction k with
 |zero=>simp
 |succ k ih=>rw[List.replicate_succ,List.flatten_cons,zA2,ih,Nat.succ_mul,Nat.add_comm]
theorem GP:OpR X (binaryOp .Mult) Ko:=by
 intro Zt s σ H x y v u Q I rx ry h;obtain⟨l,k,xs,rfl,rfl,hH,h1,h2,hz,q⟩:=h;cases rx;obtain⟨t,rfl⟩:=ry;obtain⟨z,Zr,n,r,hl,e⟩:=I.lstM hH;have hlen:Zr.toArray.size*k.toNat<=sizeLine:=by rw[zA8,<-hl];exact hz
 have DL:¬Zr.toArray.size*k.toNat>(2^63-1) / 8:=by
  have:(sizeLine:Nat)<=(2^63-1) / 8:=by decide
  lia
 have DM:¬(!Builtin.List.listFitsIndex k)=true:=by
  rw[fitsIndex_both h1 h2];exact zAg
 have fy:¬Builtin.List.listTooLong (Zr.toArray.size*k.toNat)=true:=by
  rw[kY hlen];exact zAg
 have DO:List.foldl (fun x1 x2=>x1++x2) #[] (List.replicate (if Zr.toArray.isEmpty=true then 0 else k.toNat) Zr.toArray)=(List.replicate k.toNat Zr).flatten.toArray:=by
  have f0:∀m:Nat,List.foldl (fun x1 x2=>x1++x2) #[] (List.replicate m Zr.toArray)=(List.replicate m Zr).flatten.toArray:=fun m=>by
   have:=foldl_rep Zr m [];rw[List.nil_append]at this;exact this
  rw[f0]
  cases Zr with
  |nil=>simp
  |cons a r'=>rw[if_neg Zy]
 refine wpAny_binaryOp_repeat_ref (T:="list") (U:="int") Zx ⟨_,e,rfl⟩ (fun s'=>typeIs_int s' k t) noFill_list_mul F.fills_int_mul F.slot_int_rmul repeat_list F.slot_int_index.lookup
  (call_meets F.slot_int_rmul (typeIs_int s k t) F.entry_int_rmul (F.args_int_rmul_2 _ _) (int___rmul___int_list k t l Zr.toArray n)
   ⟨e,rfl,⟨_,e,rfl⟩,call_meets F.slot_list_mul ⟨_,e,rfl⟩ F.entry_list_mul (F.args_list_mul_2 _ _) (AutoListH.list___mul___list_int_3 l Zr.toArray n k t DM DL fy) ⟨e,?_⟩⟩)
 rw[DO];exact⟨.ref _,_,I.lnew (t':=s.toks) (r.rep k.toNat) (by rw[len_rep,Nat.mul_comm];exact hz),rfl,q _ I.fresh⟩
end
section
variable{prog:Program}{w:World}{A:Around}{E:Value->Shared->Prop}{s:Shared}
set_option maxRecDepth 100000 in
end
section
variable{X:Cx}
end
end L2
namespace Att
open PySem PySem.W PySem.Calls PyProof.Rows
theorem jN{P:Params}{h:Heap}:∀(ns:List Int) (vs:List Value),WellAll P h vs (ns.map WData.int)->IntsAre vs ns:=by
 intro ns
 induction ns with
 |nil=>
  intro vs w;rw[List.map_nil]at w;cases w;exact .nil
 |cons n ns ih=>
  intro vs w;rw[zAk]at w
  cases w with
  |cons a b=>
   cases a;exact .cons _ _ (ih _ b)
theorem ye{l:OpenLaw}{n:Nat}(hn:l.most=some n){P:Params}{h:Heap}{args:List WData}{vals:List Value}
  (mw:l.row.toRowW.claim.pre args=true) (DS:WellAll P h vals args):
  ∃a vs ns,vals=[Value.ref a]/\args=[WData.list (ns.map WData.int)]/\h.get? a=some {cls:=.type "list",data:=.seq vs.toArray}/\IntsAre vs ns/\ns.length<=n:=by
 have hsh:WShape.hasAll [] args [.list .int]=true:=(pre_splitW mw).1;have hc:l.pre.holds [] {args:=args}=true:=(pre_splitW mw).2;obtain⟨d,r,rfl,h1,h2⟩:=hasAllW_cons hsh;obtain rfl:=hasAllW_nil h2;obtain⟨xs,rfl,h3⟩:=hasW_list h1;obtain⟨ns,rfl⟩:=items_int h3
 have hlen:ns.length<=n:=by
  unfold OpenLaw.pre at hc
  have h4:(WTm.not (.lt (.lit (.int (n:Int))) (.len (.arg 0)))).holds [] {args:=[.list (ns.map .int)]}=true:=by
   have h4:=(holds_andW hc).1;rw[hn]at h4;exact h4
  have h5:=condW_of h4 (w_not (w_lt w_lit (w_len_list (w_arg rfl))));rw[zA1]at h5;refine Nat.le_of_not_lt fun q=>?_;have q':(n:Int)<((ns.length:Nat):Int):=Zz
  first
   | (rw[zAu q']at h5;exact absurd h5 Zx)
   | (simp at h5;lia)
 cases DS with
 |cons w1 w2=>
  cases w2
  cases w1 with
  |list ho bP=>exact⟨_,_,ns,rfl,rfl,ho,jN ns _ bP,hlen⟩
theorem yf(l:OpenLaw)(args:List WData):l.row.toRowW.claim.post args (.bool true) args=true:=
 postW_of (r:=l.row.toRowW) (X:=(true==true))
  (show WShape.has [] (.bool true) .bool=true by first|rfl|decide|simp[WShape.has,WShape.arms,WShape.armsAll])
  (show(WTm.eq .res (.lit (.bool true))).value [] {args:=args,res:=some (.bool true),after:=args}=some (.bool (true==true))from w_eq_bool (w_res rfl) w_lit) rfl
theorem attach_call{l:OpenLaw}{n:Nat}{q:Program}{loose:List Str}{XP:(Str->Option Value)->Heap->Prop}{YP:World->Heap->Prop}{d:DefRec}
  (hn:l.most=some n) (yB:d.params.defaults=[])
  (call:∀(w:World) (s₀ s₁:Shared) (mg mb:Str->Option Value) (fa:Addr) (o:Obj) (pm cd doc:Value) (a:Addr) (vs:List Value) (ns:List Int),
   Ground q loose [] XP w s₀ mg mb s₁.heap->YP w s₁.heap->
   s₁.heap.get? fa=some o->o.data=.func (docDef d.name d.params d.body d.scope pm cd doc)->s₁.heap.CodeRec cd d.name->mg d.name=some (.ref fa)->
   s₁.heap.get? a=some {cls:=.type "list",data:=.seq vs.toArray}->IntsAre vs ns->ns.length<=n->s₁.gens=#[]->
   codeAny (model l.prog w) callerA (.call (.ref fa) ⟨[.ref a],[]⟩) (fun r s'=>r=.ok (.ret (.bool true))/\OldK s₁.heap s'.heap/\s'.os=s₁.os/\AllBare s'.gens) s₁):
  WalkO q loose XP YP l.row.toRowW d [] (fun f vs=>PySem.call f vs):=by
 intro w s₀ s₁ mg mb G Y fa o pm cd doc dV kV ho hd jI hD hmg hg args vals as mw Nh Ta DS dS;obtain rfl:dV=.none:=Dflts.none hD yB;obtain rfl:kV=.none:=Dflts.noKw hD;obtain⟨a,vs,ns,rfl,rfl,qV,hints,hlen⟩:=ye hn mw DS;refine enter_call (codeAny_mono (call w s₀ s₁ mg mb fa o pm cd doc a vs ns G Y ho (fd_plain hd) jI hmg qV hints hlen hg) fun r s' hq=>?_);obtain⟨rfl,h2,h3,h4⟩:=hq;exact⟨.inl ⟨.bool true,.bool true,[],rfl,fun _=>rfl,.bool true,yf l _,fun _=>⟨List.Pairwise.nil,fun _ hm=>(nomatch hm)⟩⟩,h2,h3,h4⟩
section
variable{prog:Program}{w:World}{A:Around}{E:Value->Shared->Prop}{s:Shared}{K:Frag}
end
end Att
namespace L2
open PySem PySem.Spec PyProof.Rows
theorem oN:∀{vs:List Value} {ns:List Int},IntsAre vs ns->Vals (ns.map V.int) vs
 |_,_,.nil=>.nil
 |_,_,.cons n t h=>.cons ⟨t,rfl⟩ (oN h)
def Only(H:Hp):Prop:=∀b,H b=none\/∃o xs,H b=some (.frz o (.lst xs))
theorem zu{P:Program}{w:World}{K:Frag}{mg mb:Str->Option Value}{CX:CXT}{k:Nat}{fa a:Addr}{fd:FuncData}{x:Str}{sp:Sp}{s₁:Shared}{vs:List Value}{ns:List Int}
  (KX:K.In s₁.heap) (KL:s₁.heap.Ns mainGlobals mg) (hb:s₁.heap.Ns builtinsNs mb) (Ni:∀x:Str,x≠"__name__"->mb x=bootBuiltins x) (DT:s₁.heap.NoLimit) (hg:s₁.gens=#[])
  (ha:s₁.heap.get? a=some {cls:=.type "list",data:=.seq vs.toArray}) (hi:IntsAre vs ns) (hl:ns.length<=sizeLine) (hr:Room k callerA)
  (F:∀base:Heap,K.In base->base.Ns mainGlobals mg->FnOk P w K mg base CX k fa fd [x] sp) (yT:∀(s:Shared) (u:Value),BindsTo s fd ⟨[u],[]⟩ [(x,u)])
  (ot:∀H:Hp,Only H->SqL K H a (ns.map V.int)->sp [.ref a] H (fun v _=>v=.bl true) fun _ _ _=>False)
  (DU:∀H e s',CX [] H s₁ (fun _ _ _=>False) e s'->False):
  codeAny (model P w) callerA (.call (.ref fa) ⟨[.ref a],[]⟩) (fun r s'=>r=.ok (.ret (.bool true))/\OldK s₁.heap s'.heap/\s'.os=s₁.os/\AllBare s'.gens) s₁:=by
 have rv:=oN hi;have DV:=hi.length
 have core:∀H:Hp,Only H->SqL K H a (ns.map V.int)->HOk P w H s₁.heap->(∀b,H b≠none->b=a)->(H a≠none->K.lookup a=none)->
   codeAny (model P w) callerA (.call (.ref fa) ⟨[.ref a],[]⟩) (fun r s'=>r=.ok (.ret (.bool true))/\OldK s₁.heap s'.heap/\s'.os=s₁.os/\AllBare s'.gens) s₁:=by
  intro H hO hS hok hA hK;have gX:∀{b:Addr} {o:Obj},s₁.heap.get? b=some o->H b=none->(ql s₁.heap H).get? b=some o:=fun e n=>yX e n
  have xS:∀{b:Addr} {o:Obj} {es:Array DictEntry} {ep:Nat},s₁.heap.get? b=some o->o.data=.dict es ep->H b=none:=fun{b o es ep} e d=>by
   cases q:H b with
   |none=>rfl
   |some u=>
    have e':b=a:=hA b (by rw[q];simp);subst e';rw[ha]at e;cases e;have d':Data.seq vs.toArray _=Data.dict es ep:=d;cases d'
  have Cs:∀{b:Addr} {m:Str->Option Value},s₁.heap.Ns b m->(ql s₁.heap H).Ns b m:=fun{b m} ⟨o,es,ep,e,d,r⟩=>⟨o,es,ep,gX e (xS e d),d,r⟩
  have KO:K.In (ql s₁.heap H):=fun b o e=>gX (KX b o e) (by
   cases q:H b with
   |none=>rfl
   |some u=>
    have e':b=a:=hA b (by rw[q];simp);subst e'
    rw[hK (by rw[q];simp)]at e;cases e)
  have hM:Mod K mg (ql s₁.heap H):=⟨KO,Cs KL,⟨mb,Cs hb,Ni⟩,let⟨mc,h1,h2⟩:=DT;⟨mc,Cs h1,h2⟩⟩
  have e0:Env0 P w K mg (ql s₁.heap H) callerA [] s₁ H:=⟨rfl,hM,fun b o e=>CV e,Nat.le_of_eq (xU _ _),trivial,fun b hb=>absurd (show b∈([]:List Addr)from hb) Zy,hok,.of_eq hg⟩
  refine codeAny_mono ((F _ KO (Cs KL)).run callerA [] s₁ H ⟨[.ref a],[]⟩ [.ref a] [.ref a] _ _ hr e0 (yT s₁ (.ref a)) (.cons rfl .nil) (ot H hO hS)) fun r s' h=>?_
  cases r with
  |error e=>exact(DU H e s' h).elim
  |ok fl=>
   cases fl with
   |next=>exact False.elim h
   |brk=>exact False.elim h
   |cont=>exact False.elim h
   |ret u=>
    obtain⟨v,H',os,bare,un,DZ,r',q⟩:=h;have q':v=.bl true:=q;subst q';obtain rfl:u=Value.bool true:=r';refine⟨rfl,OldK.of_keep fun b o e=>?_,os,bare⟩
    cases q:H b with
    |none=>exact un.keep b o e q (by intro z;exact absurd (show b∈([]:List Addr)from z) Zy) Zy
    |some u=>
     rcases hO b with z|⟨ob,xs,z⟩
     .rw[q]at z;cases z
     .have z2:=un.frzs b ob _ z;obtain⟨e1,_⟩:=hok b _ z;obtain⟨e2,_⟩:=DZ b _ z2;rw[e]at e1;cases e1;exact e2
 cases hk:K.lookup a with
 |some o=>
  have e:=KX a o hk;rw[ha]at e;cases e;refine core (fun _=>none) (fun _=>.inl rfl) (.inr ⟨_,vs.toArray,_,hk,rfl,rfl,rfl,by rw[List.size_toArray,DV];exact hl,by simpa using rv⟩) (fun b u z=>by have z':(none:Option HO)=some u:=z;cases z') (fun b z=>absurd rfl z) fun z=>absurd rfl z
 |none=>
  refine core (fun b=>if b=a then some (.frz {cls:=.type "list",data:=.seq vs.toArray} (.lst (ns.map V.int)))else none) (fun b=>?_) (.inl (.inr ⟨{cls:=.type "list",data:=.seq vs.toArray},zAz rfl⟩)) (fun b u z=>?_) (fun b z=>?_) fun _=>hk
  .by_cases hb:b=a
   .exact .inr ⟨_,_,zAz hb⟩
   .exact .inl (zAx hb)
  .by_cases hb:b=a
   .have z':=(zAz hb).symm.trans z;cases z';subst hb;exact⟨ha,by rw[zA1];exact hl,vs,_,rv,ha⟩
   .have z':=(zAx hb).symm.trans z;cases z'
  .by_cases hb:b=a
   .exact hb
   .exact absurd (zAx hb) z
theorem walk_of{l:PySem.W.OpenLaw}{n k:Nat}{q:Program}{loose:List Str}{XP:(Str->Option Value)->Heap->Prop}{YP:World->Heap->Prop}{d:DefRec}{K:Params->Frag}{CX:World->CXT}{sp:World->Sp}{x:Str}
  (hn:l.most=some n) (rb:n<=sizeLine) (yB:d.params.defaults=[]) (hr:Room k callerA)
  (hY:∀(w:World) (h:Heap),YP w h->(K w.params).In h)
  (F:∀(w:World) (mg:Str->Option Value) (fa:Addr) (h:Heap),(K w.params).In h->h.Ns mainGlobals mg->mg d.name=some (.ref fa)->
   ∃fd:FuncData,(∀(s:Shared) (u:Value),BindsTo s fd ⟨[u],[]⟩ [(x,u)]) /\
    ∀base:Heap,(K w.params).In base->base.Ns mainGlobals mg->FnOk l.prog w (K w.params) mg base (CX w) k fa fd [x] (sp w))
  (ot:∀(w:World) (H:Hp) (a:Addr) (ns:List Int),ns.length<=n->Only H->SqL (K w.params) H a (ns.map V.int)->sp w [.ref a] H (fun v _=>v=.bl true) fun _ _ _=>False)
  (DU:∀(w:World) (H:Hp) (s:Shared) (e:Value) (s':Shared),CX w [] H s (fun _ _ _=>False) e s'->False):
  PySem.W.WalkO q loose XP YP l.row.toRowW d [] (fun f vs=>PySem.call f vs):=by
 refine Att.attach_call hn yB fun w s₀ s₁ mg mb fa o pm cd doc a vs ns G Y ho hd jI hmg qV hints hlen hg=>?_;have KX:=hY w _ Y;obtain⟨fd,hb,hF⟩:=F w mg fa _ KX G.T.g hmg;exact zu KX G.T.g G.T.b G.T.builtins G.T.nolimit hg qV hints (Nat.le_trans hlen rb) hr hF hb (fun H hO hS=>ot w H a ns hlen hO hS) fun H e s'=>DU w H s₁ e s'
def fc(s:Stmt):Arguments:=match s with
 |.FunctionDef _ a _ _ _ _ _ _ _ _=>a
 |_=>{posonlyargs:=[],args:=[],vararg:=none,kwonlyargs:=[],kw_defaults:=[],kwarg:=none,defaults:=[]}
def dJ(s:Stmt):List Stmt:=match s with
 |.FunctionDef _ _ b _ _ _ _ _ _ _=>b
 |_=>[]
def aJ(s:Stmt):Scope:=match s with
 |.FunctionDef _ _ _ _ _ _ sc _ _ _=>sc
 |_=>{kind:=.function,names:=[],isGenerator:=false,isCoroutine:=false}
abbrev CX0:CXT:=fun _ _ _ _ _ _=>False
abbrev E0:XK:=fun _ _ _=>False
theorem J5{X:Cx}:uT CX0 X E0:=fun _ _ _ _ _ _ _ h=>h.elim
structure Fun(K:Frag)(x qual:Str)(st:Stmt)(f:Addr)(fd:FuncData):Prop where
 ex:∃(oc:Value) (od:Option Addr) (kV doc pm:Value) (an:Option Addr) (ar ct:Value) (oq:Array (Option Value)),
  fd=PySem.W.fnOf x qual (fc st) (dJ st) (aJ st) .none kV doc pm an ar ct/\K.lookup f=some ⟨oc,od,.func fd,oq⟩/\PySem.W.codeIn K ar qual=true
 kp:PySem.W.keepIn K (.ref f)=true
section
variable{P:Program}{w:World}{K:Frag}{mg:Str->Option Value}{base:Heap}{f:Addr}{fd:FuncData}
theorem Fun.ok{x qual:Str}{st:Stmt}{f:Addr}{fd:FuncData}{N ps:List Str}{k:Nat}{sp:Sp}(F:Fun K x qual st f fd)(S:FnScope N ps (aJ st))(len:∀vs H Q E,sp vs H Q E->vs.length=ps.length)
  (kg:∀(ar:Value) (A:Around) (outer:List Env) (s:Shared) (H:Hp) (vs:List V) (Q:VK) (E:XK),Room k (A.deeper (envOfC qual (aJ st) s.heap.objs.size f ar))->sp vs H Q E->
   ∃t,PSs (yc CX0 P w K mg base N qual (aJ st) f ar A outer s H E).nox (dJ st) t/\t {nx:=fun _ H'=>Q .non H',rt:=Q} (start N vs) H):FnOk P w K mg base CX0 (k+1) f fd ps sp:=by
 obtain⟨oc,od,kV,doc,pm,an,ar,ct,oq,rfl,lk,jI⟩:=F.ex;refine IV lk jI S len fun A outer s H vs Q E hr ot=>?_;obtain⟨t,h,q⟩:=kg ar A outer s H vs Q E hr ot;exact⟨t,h.nox,q⟩
theorem Fun.binds{x qual:Str}{st:Stmt}{f:Addr}{fd:FuncData}{ps:List Str}(F:Fun K x qual st f fd)
  (h:∀(kV doc pm:Value) (an:Option Addr) (ar ct:Value) (us:List Value),us.length=ps.length->bindArgs (PySem.W.fnOf x qual (fc st) (dJ st) (aJ st) .none kV doc pm an ar ct) ⟨us,[]⟩=pure (ps.zip us)):Binds K fd ps []:=by
 obtain⟨oc,od,kV,doc,pm,an,ar,ct,oq,rfl,lk,jI⟩:=F.ex;exact .all (h kV doc pm an ar ct)
theorem zx{x qual:Str}{st:Stmt}{f:Addr}{oc:Value}{od an:Option Addr}{oq:Array (Option Value)}{kV doc pm ar ct:Value}(l:K.lookup f=some ⟨oc,od,.func (PySem.W.fnOf x qual (fc st) (dJ st) (aJ st) .none kV doc pm an ar ct),oq⟩)
  (c:PySem.W.codeIn K ar qual=true) (k:PySem.W.keepIn K (.ref f)=true):Fun K x qual st f (PySem.W.fnOf x qual (fc st) (dJ st) (aJ st) .none kV doc pm an ar ct):=⟨⟨oc,od,kV,doc,pm,an,ar,ct,oq,rfl,l,c⟩,k⟩
end
theorem iH{A:Around}{k:Nat}(hr:Room k A):A.units+1<cLine:=Nat.lt_of_le_of_lt (Nat.add_le_add_left (by decide:1<=64) _) hr.units
section
variable{X:Cx}
theorem pv(i:Nat){x:Str}{pos:Pos}(hN:X.N[i]?=some x:=by rfl)(hv:Vis X.env.scope x:=by first|exact Or.inl rfl|exact Or.inr (Or.inl rfl)|exact Or.inr (Or.inr rfl))(hd:(x==("__debug__":Str))=false:=by decide)
  (jI:(x==("__classdict__":Str))=false:=by decide):PE X (.Name x pos) (CW i):=Gn hN hv hd jI
end
theorem bD{A B:Prop}(h:B):if false=true then A else B:=by
 rw[zAx zAg];exact h
theorem bQ{A B:Prop}(h:A):if true=true then A else B:=by
 rw[zAz rfl];exact h
theorem Dm{c A B:Prop}[Decidable c](h1:c->A)(h2:¬c->B):if c then A else B:=by
 by_cases h:c
 .rw[zAz h];exact h1 h
 .rw[zAx h];exact h2 h
def Same(H H':Hp):Prop:=∀b o,H b=some o->H' b=some o
theorem Same.refl(H:Hp):Same H H:=fun _ _ h=>h
theorem Same.trans{H H1 H2:Hp}(a:Same H H1)(b:Same H1 H2):Same H H2:=fun c o h=>b c o (a c o h)
theorem Same.free{H H':Hp}(e:Same H H'){l:Addr}(h:H' l=Option.none):H l=Option.none:=by
 cases q:H l with
 |none=>rfl
 |some o=>
  rw[e l o q]at h;cases h
theorem Same.seq{K:Frag}{H H':Hp}{a:Addr}{xs:List V}(e:Same H H')(h:SqL K H a xs):SqL K H' a xs:=by
 rcases h with(h|⟨o,h⟩)|h
 .exact .inl (.inl (e _ _ h))
 .exact .inl (.inr ⟨o,e _ _ h⟩)
 .exact .inr h
end L2
inductive Xe3{A B C:Type}(p:A->B->C->Prop):Prop
 |mk:∀a b c,p a b c->Xe3 p
inductive Xe4{A B C D:Type}(p:A->B->C->D->Prop):Prop
 |mk:∀a b c d,p a b c d->Xe4 p
inductive Xe5{A B C D E:Type}(p:A->B->C->D->E->Prop):Prop
 |mk:∀a b c d e,p a b c d e->Xe5 p
inductive Xe6{A B C D E F:Type}(p:A->B->C->D->E->F->Prop):Prop
 |mk:∀a b c d e f,p a b c d e f->Xe6 p
inductive Xe7{A B C D E F G:Type}(p:A->B->C->D->E->F->G->Prop):Prop
 |mk:∀a b c d e f g,p a b c d e f g->Xe7 p
inductive Xe8{A B C D E F G H:Type}(p:A->B->C->D->E->F->G->H->Prop):Prop
 |mk:∀a b c d e f g h,p a b c d e f g h->Xe8 p
inductive Xe9{A B C D E F G H I:Type}(p:A->B->C->D->E->F->G->H->I->Prop):Prop
 |mk:∀a b c d e f g h i,p a b c d e f g h i->Xe9 p
inductive Xe14{A B C D E F G H I J K L M N:Type}(p:A->B->C->D->E->F->G->H->I->J->K->L->M->N->Prop):Prop
 |mk:∀a b c d e f g h i j k l m n,p a b c d e f g h i j k l m n->Xe14 p
inductive Xe15{A B C D E F G H I J K L M N O:Type}(p:A->B->C->D->E->F->G->H->I->J->K->L->M->N->O->Prop):Prop
 |mk:∀a b c d e f g h i j k l m n o,p a b c d e f g h i j k l m n o->Xe15 p
inductive Xa2(a b:Prop):Prop
 |mk:a->b->Xa2 a b
inductive Xa3(a b c:Prop):Prop
 |mk:a->b->c->Xa3 a b c
inductive Xa4(a b c d:Prop):Prop
 |mk:a->b->c->d->Xa4 a b c d
inductive Xa5(a b c d e:Prop):Prop
 |mk:a->b->c->d->e->Xa5 a b c d e
inductive Xa6(a b c d e f:Prop):Prop
 |mk:a->b->c->d->e->f->Xa6 a b c d e f
inductive Xa7(a b c d e f g:Prop):Prop
 |mk:a->b->c->d->e->f->g->Xa7 a b c d e f g
inductive Xa8(a b c d e f g h:Prop):Prop
 |mk:a->b->c->d->e->f->g->h->Xa8 a b c d e f g h
namespace L2
open PySem PySem.Spec PyProof.Rows
def cZ(cells:List (Str×Addr)):List (Str×NameKind)->List (Str×Addr)->List (Str×Addr)
 |[],acc=>acc
 | (n,k)::r,acc=>cZ cells r (if k=.free then(n,(cells.lookup n).getD 0)::acc else acc)
theorem oO{env:Env}:∀(l:List (Str×NameKind)) (acc:List (Str×Addr)),(∀p∈l,p.2=NameKind.free->(env.cells.lookup p.1).isSome=true)->
  (forIn l acc fun(x:Str×NameKind) (r:List (Str×Addr))=>(if(x.2==NameKind.free)=true then do let a <-cellOf env x.1;pure (ForInStep.yield ((x.1,a)::r))else pure (ForInStep.yield r):Sem (ForInStep (List (Str×Addr)))))=pure (cZ env.cells l acc)
 |[],acc,_=>rfl
 | (n,k)::r,acc,h=>by
  rw[List.forIn_cons];have ih:=fun a=>oO (env:=env) r a fun p hp=>h p (List.mem_cons_of_mem _ hp);by_cases hk:k=.free
  .subst hk;have hs:=h (n,.free) List.mem_cons_self rfl;obtain⟨c,hc⟩:=Option.isSome_iff_exists.mp hs;have e1:cellOf env n=pure c:=by unfold cellOf;rw[show env.cells.lookup n=some c from hc]
   have e2:cZ env.cells ((n,.free)::r) acc=cZ env.cells r ((n,c)::acc):=by
    show cZ env.cells r (if NameKind.free=NameKind.free then(n,(env.cells.lookup n).getD 0)::acc else acc)=_;rw[zAz rfl,show env.cells.lookup n=some c from hc];rfl
   rw[e2];simp only[beq_self_eq_true,if_true,e1,pure_bind];exact ih _
  .have hb:(k==NameKind.free)=false:=by simpa using hk
   have e2:cZ env.cells ((n,k)::r) acc=cZ env.cells r acc:=by
    show cZ env.cells r (if k=NameKind.free then _ else acc)=_;rw[zAx hk]
   rw[e2];simp only[hb,Bool.false_eq_true,if_false,pure_bind];exact ih _
theorem qF{scope:Scope}{env:Env}(h:∀p∈scope.names,p.2=NameKind.free->(env.cells.lookup p.1).isSome=true):closureFor scope env=pure (cZ env.cells scope.names []):=by
 have e:=oO (env:=env) scope.names [] h;unfold closureFor;simp only[bind_pure];exact e
theorem kZ{cells:List (Str×Addr)}{x:Str}{c:Addr}:∀(l:List (Str×NameKind)) (acc:List (Str×Addr)),(∀p∈l,p.2=NameKind.free->(cells.lookup p.1).isSome=true)->(cZ cells l acc).lookup x=some c->
  acc.lookup x=some c\/cells.lookup x=some c
 |[],_,_,h=>.inl h
 | (n,k)::r,acc,hf,h=>by
  have h':(cZ cells r (if k=.free then(n,(cells.lookup n).getD 0)::acc else acc)).lookup x=some c:=h;rcases kZ r _ (fun p hp=>hf p (List.mem_cons_of_mem _ hp)) h' with e|e
  .by_cases hk:k=.free
   .rw[zAz hk]at e;obtain⟨d,hd⟩:=Option.isSome_iff_exists.mp (hf (n,k) List.mem_cons_self hk);rw[show cells.lookup n=some d from hd]at e;rw[List.lookup_cons]at e
    cases hx:x==n with
    |true=>
     rw[hx]at e;have:x=n:=by simpa using hx
     subst this;exact .inr (hd.trans (by simpa using e))
    |false=>
     rw[hx]at e;exact .inl e
   .rw[zAx hk]at e;exact .inl e
  .exact .inr e
theorem lu{cells:List (Str×Addr)}{x:Str}:∀(l:List (Str×NameKind)) (acc:List (Str×Addr)),((∃k,(x,k)∈l/\k=NameKind.free)\/(∃c,acc.lookup x=some c))->∃c,(cZ cells l acc).lookup x=some c
 |[],_,h=>by
  rcases h with⟨k,hk,_⟩|h
  .exact absurd hk Zy
  .exact h
 | (n,k)::r,acc,h=>by
  show ∃c,(cZ cells r (if k=.free then(n,(cells.lookup n).getD 0)::acc else acc)).lookup x=some c;refine lu r _ ?_;rcases h with⟨k',hk,e⟩|⟨c,hc⟩
  .rcases zAo.mp hk with z|z
   .cases z;refine .inr ?_;rw[zAz e];exact⟨_,by rw[List.lookup_cons,beq_self_eq_true]⟩
   .exact .inl ⟨k',z,e⟩
  .refine .inr ?_;by_cases hk:k=.free
   .rw[zAz hk,List.lookup_cons]
    cases hx:x==n with
    |true=>exact⟨_,rfl⟩
    |false=>exact⟨c,hc⟩
   .rw[zAx hk];exact⟨c,hc⟩
theorem fj{scope:Scope}{env:Env}{x:Str}{k:NameKind}(hc:∀p∈scope.names,p.2≠NameKind.cell)(h:(relabel scope env).names.lookup x=some k)(hk:k=.cell\/k=.free):∃k',(x,k')∈scope.names/\k'=NameKind.free:=by
 have m:=PySem.mem_of_lookup h;obtain⟨⟨n,k0⟩,hm,e⟩:=zA5.mp m;dsimp only at e;split at e
 .rename_i c
  cases e
  have:(k0==NameKind.free)=true:=by
   cases q:(k0==NameKind.free)with
   |true=>rfl
   |false=>rw[q]at c;simp at c
  exact⟨k0,hm,by simpa using this⟩
 .cases e;rcases hk with z|z
  .exact absurd z (hc _ hm)
  .exact⟨_,hm,z⟩
def cxC(X:Cx)(scope:Scope)(Nc:List Str)(C:Addr)(fp:List Addr)(Zt:List (Addr×Obj))(s₂:Shared)(H₂:Hp):Cx where
 prog:=X.prog
 w:=X.w
 K:=X.K
 mg:=X.mg
 base:=X.base
 A:=X.A
 N:=Nc
 s₀:=s₂
 H₀:=H₂
 env:=compEnvC scope (cZ X.env.cells scope.names []) C X.env
 outer:=X.stack
 stack:=X.stack
 ex:=fp
 fn:=fun _=>false
 calm:=X.calm
 pn:=X.pn++Zt
 xe:=fun _ _=>False
def Caps(X:Cx)(aS:Env):List Str->List (Option Nat)->Prop
 |[],[]=>True
 |_::N,none::r=>Caps X aS N r
 |x::N,some i::r=>(X.N[i]?=some x/\(X.env.kindOf x=some .cell\/X.env.kindOf x=some .free)/\aS.cells.lookup x=X.env.cells.lookup x/\(aS.kindOf x=some .cell\/aS.kindOf x=some .free))/\Caps X aS N r
 |_,_=>False
def capσ(σ:St)(src:List (Option Nat)):St:=src.map fun o=>match o with|none=>none|some i=>(σ[i]?).join
theorem Caps.len{X:Cx}{aS:Env}:∀{N:List Str} {src:List (Option Nat)},Caps X aS N src->src.length=N.length
 |[],[],_=>rfl
 |[],_::_,h=>h.elim
 |_::_,[],h=>h.elim
 |_::N,none::r,h=>by
  have h':Caps X aS N r:=h;have:=Caps.len (N:=N) (src:=r) h';simp[this]
 |_::N,some _::r,h=>by
  have:=Caps.len (N:=N) (src:=r) h.2;simp[this]
theorem Caps.get{X:Cx}{aS:Env}{x:Str}:∀{N:List Str} {src:List (Option Nat)} {j i:Nat},Caps X aS N src->N[j]?=some x->src[j]?=some (some i)->
  X.N[i]?=some x/\(X.env.kindOf x=some .cell\/X.env.kindOf x=some .free)/\aS.cells.lookup x=X.env.cells.lookup x/\(aS.kindOf x=some .cell\/aS.kindOf x=some .free)
 |[],[],_,_,_,e,_=>by simp at e
 |[],_::_,_,_,h,_,_=>h.elim
 |_::_,[],_,_,h,_,_=>h.elim
 |_::_,none::_,0,_,_,_,e=>by simp at e
 |_::N,none::r,j+1,_,h,e1,e2=>by
  have h':Caps X aS N r:=h;exact Caps.get (N:=N) (src:=r) (j:=j) h' (by simpa using e1) (by simpa using e2)
 |_::_,some _::_,0,_,h,e1,e2=>by
  simp at e1 e2;subst e1 e2;exact h.1
 |_::_,some _::_,j+1,_,h,e1,e2=>Caps.get (j:=j) h.2 (by simpa using e1) (by simpa using e2)
structure CScope(X:Cx)(scope:Scope):Prop where
 kind:scope.kind=.function
 cell:scope.names.all (fun p=>p.2 != .cell)=true
 names:scope.names.all (fun p=>p.2 != .local||scope.names.lookup p.1==some .local)=true
 free:scope.names.all (fun p=>p.2 != .free||(X.env.cells.lookup p.1).isSome)=true
section
variable{X:Cx}{scope:Scope}
theorem CScope.hcell(S:CScope X scope):∀p∈scope.names,p.2≠NameKind.cell:=fun p hp=>by
 have:=List.all_eq_true.mp S.cell p hp;simpa using this
theorem CScope.hnames(S:CScope X scope):∀p∈scope.names,p.2=.local->scope.names.lookup p.1=some .local:=fun p hp e=>by
 have:=List.all_eq_true.mp S.names p hp;simpa[e]using this
theorem CScope.hfree(S:CScope X scope):∀p∈scope.names,p.2=NameKind.free->(X.env.cells.lookup p.1).isSome=true:=fun p hp e=>by
 have:=List.all_eq_true.mp S.free p hp;simpa[e]using this
end
def PTs(X:Cx)(ifs:List Expr)(t:TT):Prop:=
 ∀(Zt:List (Addr×Obj)) (s:Shared) (σ:St) (H:Hp) (Q:Bool->Hp->Prop),Inv X Zt σ H s->t σ H Q->
  wpAny (model X.prog X.w) X.A (forIn ifs true fun c r=>if r=true then do let ok <-isTrue c X.env (eval c X.env);pure (ForInStep.yield ok)else pure (ForInStep.yield r)) (TP X Zt σ Q) X.xe s
def uX:TT:=fun _ H Q=>Q true H
theorem bH{X:Cx}:PTs X [] uX:=fun _ _ _ H _ I h=>wpAny_tests_nil ⟨H,I,h⟩
theorem iw{X:Cx}{c:Expr}{t:TT}(h:PT X c t):PTs X [c] t:=fun Zt s σ H Q I q=>wpAny_tests_one (h Zt s σ H Q I q)
theorem Dn{prog:Program}{w:World}{A:Around}{R:Result->Shared->Prop}{s:Shared}{elt target iter:Expr}{ifs:List Expr}{scope:Scope}{pos:Pos}{it acc:Value}{env:Env}(I:Nat->Shared->Prop)
  (turn:∀n s,I n s->wpAny (model prog w) A (pyNext it) (fun r s₁=>match r with
   |none=>R (.ok .next) s₁
   |some v=>wpAny (model prog w) A (letOwnedTupleGo target it v) (fun _ oz=>wpAny (model prog w) A (assign target env v) (fun _ s₂=>
     wpAny (model prog w) A (forIn ifs true fun c r=>if r=true then do let ok <-isTrue c env (eval c env);pure (ForInStep.yield ok)else pure (ForInStep.yield r)) (fun ok s₃=>
      if ok=true then wpAny (model prog w) A (eval elt env) (fun x fz=>
       wpAny (model prog w) A (call (.builtin "list.append") [acc,x]) (fun _ yY=>∃m,m<n/\I m yY) (fun _ _=>False) fz) (fun _ _=>False) s₃
      else ∃m,m<n/\I m s₃) (fun _ _=>False) s₂) (fun _ _=>False) oz) (fun _ _=>False) s₁) (fun _ _=>False) s)
  (n:Nat) (h:I n s):
  codeAny (model prog w) A (.compLoop (.ListComp elt [⟨target,iter,ifs,0⟩] scope pos) 0 it acc env) R s:=by
 refine codeAny_loop rfl I (fun n s hI=>?_) n h;show wpAny _ A ((compTurn (.ListComp elt [⟨target,iter,ifs,0⟩] scope pos) 0 it acc env).onRaise (fun x=>do noteFrame x env;theTreesLotGoes x)) _ _ s;refine wpAny_noted ?_;rw[compTurn_list];refine zAt (wpAny_standAt (zAt (wpAny_mono (turn n s hI) (fun r s₁ cy=>?_) fun _ _ h'=>h'.elim)))
 cases r with
 |none=>exact zAv cy
 |some v=>
  refine zAt (wpAny_mono cy (fun _ oz y7=>?_) fun _ _ h'=>h'.elim);refine zAt (wpAny_mono y7 (fun _ s₂ ko=>zAt (wpAny_mono ko (fun ok s₃ mx=>?_) fun _ _ h'=>h'.elim)) fun _ _ h'=>h'.elim)
  cases ok with
  |false=>exact zAv ⟨rfl,mx⟩
  |true=>
   exact zAt (zAt (wpAny_mono mx (fun x fz D0=>zAt (wpAny_mono D0 (fun _ yY D1=>zAv (zAv ⟨rfl,D1⟩)) fun _ _ h'=>h'.elim)) fun _ _ h'=>h'.elim))
def lw(J:It)(g:TG)(tt:TT)(te:TE)(Fin:List V->Hp->Prop)(cS:St)(H0:Hp):Prop:=
 ∃W:Nat->Nat->List V->St->Hp->Prop,(∃m,W 0 m [] cS H0)/\∀i m ys σ H,W i m ys σ H->ys.length<sizeLine /\
  ((J.stop i H/\Fin ys H)\/(J.go i H/\∀x H',J.yld i H x H'->g x σ H' fun aw H2=>tt aw H2 fun b H3=>
   if b=true then te aw H3 fun y H4=>∃m',m'<m/\W (i+1) m' (ys++[y]) aw H4 else ∃m',m'<m/\W (i+1) m' ys aw H3))
abbrev TM:=List V->St->Hp->(List V->St->Hp->Prop)->Prop
abbrev uY(us:List Value)(k:Nat):Obj:={cls:=.type "list",data:=.seq us.toArray k}
def Apart(X:Cx)(D:Addr):Prop:=D≠X.env.locals/\D∉X.fs/\X.s₀.heap.objs.size<=D/\(∀x c,X.env.cells.lookup x=some c->c≠D)/\∀p∈X.pn,p.1≠D
structure Fil(X:Cx)(Zt:List (Addr×Obj))(D:Addr)(σ:St)(H:Hp)(s:Shared)(ys:List V):Prop where
 inv:Inv X Zt σ H s
 nD:H D=none
 np:∀p∈Zt,p.1≠D
 obj:∃us k,s.heap.get? D=some (uY us k)/\Vals ys us
def PM(X:Cx)(D:Addr)(M:Sem Fin->Sem Fin)(tm:TM):Prop:=
 ∀(Zt:List (Addr×Obj)) (s:Shared) (σ:St) (H:Hp) (Q:List V->St->Hp->Prop) (ys:List V),Fil X Zt D σ H s ys->ys.length<sizeLine->tm ys σ H Q->∀(c:Sem Fin) (R:Fin->Shared->Prop) (E:Value->Shared->Prop),
  (∀s' fk ah H',Fil X Zt D ah H' s' fk->Q fk ah H'->wpAny (model X.prog X.w) X.A c R E s')->wpAny (model X.prog X.w) X.A (M c) R E s
def tmE(te:TE):TM:=fun ys σ H Q=>te σ H fun y H'=>Q (ys++[y]) σ H'
def Do(elt:Expr)(D:Addr)(env:Env):Sem Fin->Sem Fin:=fun c=>(do let _ <-call (.builtin "list.append") [.ref D,<-eval elt env])>>=fun _=>c
theorem thx{α:Type}{t:Sem α}{Q Q':α->Shared->Prop}{M:Model}{A:Around}{E:Value->Shared->Prop}{s:Shared}(h:wpAny M A t Q (fun _ _=>False) s)(hQ:∀a s,Q a s->Q' a s):wpAny M A t Q' E s:=wpAny_mono h hQ fun _ _ x=>x.elim
theorem GQ{X:Cx}{D:Addr}{elt:Expr}{te:TE}(ap:Apart X D)(hx:X.xe=fun _ _=>False)(he:PE X elt te):PM X D (Do elt D X.env) (tmE te):=by
 intro Zt s σ H Q ys F hsz h c R E hc;obtain⟨I,nD,np,us,k,oD,rv⟩:=F;obtain⟨a1,a2,a3,a4,a5⟩:=ap
 have I':Inv X (Zt++[(D,uY us k)]) σ H s:=I.pins_of fun p hp=>(zA6.mp hp).elim (fun z=>I.pin p (zB1 _ z)) fun z=>by
  rw[List.mem_singleton.mp z];exact⟨oD,nD,a1,a2,fun v z=>by cases z⟩
 have vj:=he _ s σ H _ I' h;rw[hx]at vj;refine zAt (zAt (thx vj fun xv s8=>?_));rintro⟨y,H8,I8,r8,q8⟩;have pD:=I8.pin (D,uY us k) (zB1 _ (zB1 _ (List.mem_singleton.mpr rfl)));refine zAt (append_at (hsz:=by rw[zA8,<-rv.length];exact Nat.le_of_lt hsz) pD.1 fun h9 Nj Nk=>zAv ?_);refine hc _ _ _ _ ⟨I8.unpinned.turned (t':=s8.toks) (fun b o hb e=>Nj.extBut b o hb e) pD.2.1 a1 (.inr a3) a4 fun p hp=>?_,pD.2.1,np,us++[xv],k+1,?_,rv.append (.cons r8 .nil)⟩ q8
 .exact(zA6.mp hp).elim (a5 p) (np p)
 .show h9.get? D=_;rw[Nk,List.push_toArray]
def FZ(J:It)(g:TG)(tt:TT)(tm:TM)(Fin:List V->St->Hp->Prop)(Nl:List V)(cS:St)(H0:Hp):Prop:=
 ∃W:Nat->Nat->List V->St->Hp->Prop,(∃m,W 0 m Nl cS H0)/\∀i m ys σ H,W i m ys σ H->ys.length<sizeLine /\
  ((J.stop i H/\Fin ys σ H)\/(J.go i H/\∀x H',J.yld i H x H'->g x σ H' fun aw H2=>tt aw H2 fun b H3=>
   if b=true then tm ys aw H3 fun fk ah H4=>∃m',m'<m/\W (i+1) m' fk ah H4 else ∃m',m'<m/\W (i+1) m' ys aw H3))
def oR(tg:Expr)(ifs:List Expr)(p:Pos)(it:Value)(env:Env)(M:Sem Fin->Sem Fin)(c:Sem Fin):Sem Fin:=do
 standAt p
 match <-pyNext it with
 |none=>pure (.done .next)
 |some v=>
  letOwnedTupleGo tg it v
  assign tg env v
  let ok <-forIn ifs true fun c r=>if r=true then do let ok <-isTrue c env (eval c env);pure (ForInStep.yield ok)else pure (ForInStep.yield r)
  if ok=true then M c else c
theorem J6{X:Cx}{elt:Expr}{gens:List Comprehension}{scope:Scope}{pos p:Pos}{d:Nat}{tg:Expr}{ifs:List Expr}{it D:Addr}{M:Sem Fin->Sem Fin}{g:TG}{tt:TT}{tm:TM}(hc:X.calm=true)(hx:X.xe=fun _ _=>False)
  (ap:Apart X D) (ht:compTurn (.ListComp elt gens scope pos) d (.ref it) (.ref D) X.env=oR tg ifs p (.ref it) X.env M (again (.compLoop (.ListComp elt gens scope pos) d (.ref it) (.ref D) X.env)))
  (hg:PG X tg g) (oB:PTs X ifs tt) (hm:PM X D M tm)
  {Zt:List (Addr×Obj)} {s:Shared} {σ:St} {H:Hp} {ys:List V} {fp:List Addr} {tn:Nat->Heap->Prop} {J:It} (F:Fil X Zt D σ H s ys) (T:Turn X.prog X.w X.K tg J fp it tn) (st:tn 0 s.heap) (hf:∀b∈fp,gD X Zt H b/\b≠D)
  {Q:List V->St->Hp->Prop} (hW:FZ J g tt tm Q ys σ H) {R:Result->Shared->Prop} (hR:∀s' fk ah H',Fil X Zt D ah H' s' fk->fk.length<sizeLine->Q fk ah H'->R (.ok .next) s'):
  codeAny (model X.prog X.w) X.A (.compLoop (.ListComp elt gens scope pos) d (.ref it) (.ref D) X.env) R s:=by
 obtain⟨W,⟨m0,w0⟩,step⟩:=hW;refine codeAny_loop rfl (fun n s'=>∃i ys ah H',Fil X Zt D ah H' s' ys/\tn i s'.heap/\(∀b∈fp,H' b=none)/\W i n ys ah H') (fun n s3 hI=>?_) m0 ⟨0,ys,σ,H,F,st,fun b hb=>(hf b hb).1.1,w0⟩;obtain⟨i,ys,dQ,H3,⟨I3,mB,np,us,k,Nm,y8⟩,fx,nX,w3⟩:=hI;show wpAny _ _ ((compTurn (.ListComp elt gens scope pos) d (.ref it) (.ref D) X.env).onRaise (fun x=>do noteFrame x X.env;theTreesLotGoes x)) _ _ s3;refine wpAny_noted ?_;rw[ht];obtain⟨a1,a2,a3,a4,a5⟩:=ap;obtain⟨hsz,rf⟩:=step i n ys dQ H3 w3
 have KP:Inv X (Zt++[(D,uY us k)]) dQ H3 s3:=I3.pins_of fun p hp=>(zA6.mp hp).elim (fun z=>I3.pin p (zB1 _ z)) fun z=>by
  rw[List.mem_singleton.mp z];exact⟨Nm,mB,a1,a2,fun v z=>by cases z⟩
 have kr:∀{H':Hp},(∀b∈fp,H' b=none)->∀b∈fp,gD X (Zt++[(D,uY us k)]) H' b:=fun{H'} hn b hb=>by
  obtain⟨⟨_,f1,f2,f3,f4,f5⟩,f6⟩:=hf b hb;refine⟨hn b hb,f1,f2,f3,f4,fun q hq=>?_⟩;rw[<-zAf]at hq;rcases zA6.mp hq with z|z
  .exact f5 q z
  .rw[List.mem_singleton.mp z];exact f6.symm
 refine zAt (wpAny_standAt (zAt ?_));rcases rf with⟨stop,fin⟩|⟨go,turn⟩
 .refine thx (T.done X rfl rfl rfl hc i _ s3 dQ H3 (fun _ _=>False) KP (kr nX) fx stop) fun r s4=>?_;rintro⟨hr,I4⟩;subst hr;have pD:=I4.pin (D,uY us k) (zB1 _ (zB1 _ (List.mem_singleton.mpr rfl)));exact zAv (hR s4 ys dQ H3 ⟨I4.unpinned,mB,np,us,k,pD.1,y8⟩ hsz fin)
 .refine thx (T.item X rfl rfl rfl hc i _ s3 dQ H3 (fun _ _=>False) KP (kr nX) fx go) fun r s4=>?_;rintro⟨u,hr,h4⟩;subst hr;refine zAt (thx h4 fun _ s5=>?_);rintro⟨x,H5,I5,r5,y5,jS,xE⟩;have xI:=I5.pinned (kr xE) (T.obj _ _ jS);have y9:=hg _ s5 dQ H5 x u _ xI r5 (turn x H5 y5);rw[hx]at y9;refine zAt (thx y9 fun _ s6=>?_);rintro⟨ma,H6,I6,q6⟩;have f7:=oB _ s6 ma H6 _ I6 q6;rw[hx]at f7;refine zAt (thx f7 fun okb s7=>?_);rintro⟨H7,I7,q7⟩;have pD:=I7.pin (D,uY us k) (zB1 _ (List.mem_append_left _ (zB1 _ (List.mem_singleton.mpr rfl))));have KS:Inv X (Zt++gH fp s5.heap) ma H7 s7:=I7.pins_of fun q hq=>(zA6.mp hq).elim (fun z=>I7.pin q (zB1 _ (List.mem_append_left _ (List.mem_append_left _ z)))) fun z=>I7.pin q (zB1 _ (zB1 _ z));have KU:∀q∈Zt++gH fp s5.heap,q.1≠D:=fun q hq=>(zA6.mp hq).elim (np q) fun z=>(hf _ (oG z).1).2
  have back:∀{H8:Hp} {s8:Shared} {ku:St} {zd:List V},Fil X (Zt++gH fp s5.heap) D ku H8 s8 zd->Fil X Zt D ku H8 s8 zd/\tn (i+1) s8.heap/\∀b∈fp,H8 b=none:=fun{H8 s8 ku zd} F8=>by
   obtain⟨I8,n8,_,o8⟩:=F8;have pf:∀b∈fp,∀o,s5.heap.get? b=some o->s8.heap.get? b=some o:=fun b hb o e=>(I8.pin (b,o) (zB1 _ (zB1 _ (du hb e)))).1;refine⟨⟨I8.unpinned,n8,np,o8⟩,T.keep _ _ _ jS pf,fun b hb=>?_⟩;obtain⟨o,e,_⟩:=T.obj _ _ jS b hb;exact(I8.pin (b,o) (zB1 _ (zB1 _ (du hb e)))).2.1
  cases okb with
  |false=>
   obtain⟨m',kx,w7⟩:=q7;obtain⟨b1,b2,b3⟩:=back ⟨KS,pD.2.1,KU,us,k,pD.1,y8⟩;exact zAv ⟨rfl,m',kx,i+1,ys,ma,H7,b1,b2,b3,w7⟩
  |true=>
   refine hm _ s7 ma H7 _ ys ⟨KS,pD.2.1,KU,us,k,pD.1,y8⟩ hsz q7 _ _ _ fun s8 zd ku H8 F8 q8=>?_;obtain⟨m',kx,w8⟩:=q8;obtain⟨b1,b2,b3⟩:=back F8;exact zAv ⟨rfl,m',kx,i+1,zd,ku,H8,b1,b2,b3,w8⟩
theorem zy{prog:Program}{w:World}{A:Around}{R:Result->Shared->Prop}{s:Shared}{elt:Expr}{gens:List Comprehension}{c:Comprehension}{scope:Scope}{pos:Pos}{d:Nat}{it acc:Value}{env:Env}(hd:gens[d]?=some c)(ha:c.is_async=0)
  (h0:codeAny (model prog w) A (.compLoop (.ListComp elt gens scope pos) d it acc env) R s)
  (h:wpAny (model prog w) A (pyIter it) (fun ze s'=>codeAny (model prog w) A (.compLoop (.ListComp elt gens scope pos) d ze acc env) R s') (fun _ _=>False) s):
  codeAny (model prog w) A (.compStart (.ListComp elt gens scope pos) d it acc env) R s:=by
 refine codeAny_of_tree ?_;show wpAny _ _ ((compStart (.ListComp elt gens scope pos) d it acc env).onRaise (fun x=>do noteFrame x env;standAt theWindowsPlace)) _ _ s;refine wpAny_notedAt ?_;have e:(clausesOf (.ListComp elt gens scope pos))[d]?=some c:=hd;unfold compStart;rw[e];have e2:(Option.elim (some c) false fun x=>x.is_async != 0)=false:=by show(c.is_async != 0)=false;rw[ha];rfl
 rw[e2];show wpAny _ _ (ask>>=_) _ _ s;refine zAt (wpAny_askSetting (wpAny_ite ?_));split
 .exact zAv (And.intro rfl h0)
 .refine zAt (wpAny_rule (zAt (wpAny_standAt (zAt (thx h fun ze s' h'=>zAv (And.intro rfl h'))))))
section
variable{elt tg iter Td KW:Expr}{gens:List Comprehension}{ifs Nn:List Expr}{scope:Scope}{pos:Pos}{d:Nat}{it:Value}{D:Addr}{env:Env}
theorem yg(hg:gens[d]?=some ⟨tg,iter,ifs,0⟩)(hn:gens[d+1]?=none):compTurn (.ListComp elt gens scope pos) d it (.ref D) env=oR tg ifs iter.pos it env (Do elt D env) (again (.compLoop (.ListComp elt gens scope pos) d it (.ref D) env)):=by
 unfold compTurn oR Do;simp only[hg,hn];rfl
end
theorem uZ{X:Cx}{tg iter elt:Expr}{ifs:List Expr}{gens:List Comprehension}{scope:Scope}{pos p:Pos}{Nc:List Str}{src:List (Option Nat)}{g:TG}{tt:TT}{tm:TM}{M:Addr->Env->Sem Fin->Sem Fin}(hc:X.calm=true)(S:CScope X scope)
  (hd:gens[0]?=some ⟨tg,iter,ifs,0⟩) (zh:∀it D env,compTurn (.ListComp elt gens scope pos) 0 (.ref it) (.ref D) env=oR tg ifs p (.ref it) env (M D env) (again (.compLoop (.ListComp elt gens scope pos) 0 (.ref it) (.ref D) env)))
  (aI:∀C,Caps X (compEnvC scope (cZ X.env.cells scope.names []) C X.env) Nc src)
  (hb:∀C fp Zt s₂ H₂,PG (cxC X scope Nc C fp Zt s₂ H₂) tg g/\PTs (cxC X scope Nc C fp Zt s₂ H₂) ifs tt/\∀D,Apart (cxC X scope Nc C fp Zt s₂ H₂) D->PM (cxC X scope Nc C fp Zt s₂ H₂) D (M D (cxC X scope Nc C fp Zt s₂ H₂).env) tm)
  {Zt:List (Addr×Obj)} {s₂:Shared} {σ:St} {H₂:Hp} {it:Addr} {fp:List Addr} {tn:Nat->Heap->Prop} {J:It} (ae:Inv X Zt σ H₂ s₂) (T:Turn X.prog X.w X.K tg J fp it tn) (st:tn 0 s₂.heap) (hf:∀b∈fp,gD X Zt H₂ b)
  {Fin:List V->Hp->Prop} (hW:FZ J g tt tm (fun ys _ H=>Fin ys H) [] (capσ σ src) H₂) {RR:Value->Addr->Result->Shared->Prop} {E:Value->Shared->Prop}
  (zi:∀D C s' ys H' m,Fin ys H'->H' D=none->Inv X Zt σ (upd H' D (.lst ys)) s'->s'.heap.Ns C m->gD X Zt (upd H' D (.lst ys)) C->RR (.ref D) C (.ok .next) s'):
  wpAny (model X.prog X.w) X.A (newList []) (fun acc s₃=>wpAny (model X.prog X.w) X.A (newFunctionEnv scope X.env.globals (cZ X.env.cells scope.names []) [] X.env.qual none .none (some X.env)) (fun fA fz=>
   codeAny (model X.prog X.w) X.A (.compStart (.ListComp elt gens scope pos) 0 (.ref it) acc {fA with scope:=relabel scope X.env}) (RR acc fA.locals) fz) E s₃) E s₂:=by
 refine wpAny_newObj_type (wpAny_newFunctionEnv S.hcell (by intro y hy;simp at hy) (fun cy bp aT=>?_) S.kind);dsimp only at bp aT⊢;generalize D2:s₂.heap.push {cls:=.type "list",dict:=none,data:=.seq ([]:List Value).toArray}=HH at bp aT⊢;generalize oC:s₂.heap.objs.size=D at bp aT⊢;have hC:HH.objs.size=D+1:=by rw[<-D2,Heap.size_push,oC]
 generalize rg:HH.objs.size=C at bp aT hC⊢;have D3:D≠C:=Zz
 have below:∀b,b<s₂.heap.objs.size->b≠C/\b≠D:=fun b hb=>by rw[oC]at hb;exact⟨by rw[hC];exact zB8 (Nat.lt_succ_of_lt hb),zB8 hb⟩
 have av:∀{b o},s₂.heap.get? b=some o->b≠C/\b≠D:=fun{b o} e=>below b (zB0 e);have old:∀b o,s₂.heap.get? b=some o->cy.get? b=some o:=fun b o e=>aT.extBut b o (av e).1 (zAw _ (D2▸zAw _ e));have mE:cy.get? D=some {cls:=.type "list",data:=.seq ([]:List Value).toArray}:=aT.extBut _ _ D3 (zAw _ (D2▸oC▸zB2 _ rfl))
 have D4:∀b∈fp,∃o,s₂.heap.get? b=some o:=fun b hb=>by obtain⟨o,e,_⟩:=T.obj _ _ st b hb;exact⟨o,e⟩
 have rh:∀b∈fp,b≠C/\b≠D:=fun b hb=>by obtain⟨o,e⟩:=D4 b hb;exact av e
 have sub:∀{x c},(cZ X.env.cells scope.names []).lookup x=some c->X.env.cells.lookup x=some c:=fun{x c} e=>by
  rcases kZ scope.names [] S.hfree e with z|z
  .simp at z
  .exact z
 have D5:∀{b o},s₂.heap.get? b=some o->b<D:=fun{b o} e=>by rw[<-oC];exact zB0 e
 have fresh:∀a,D<=a->H₂ a=none:=fun a ha=>ae.hok.fresh (by rw[oC];exact ha)
 have hG:∀{x c},X.env.cells.lookup x=some c->∃o,s₂.heap.get? c=some o:=fun{x c} e=>by obtain⟨v,o,ho,_⟩:=ae.cell x c e;exact⟨o,ho⟩
 have rj:∀b∈frs X.stack,∃o,s₂.heap.get? b=some o:=fun b hb=>by
  rcases zAo.mp (ae.stkSub b hb)with e|hb
  .rw[e];obtain⟨m,⟨o,_,_,ho,_⟩,_⟩:=ae.loc;exact⟨o,ho⟩
  .obtain⟨_,o,ho,_⟩:=ae.funs.mem hb;exact⟨o,ho⟩
 have zk:∀a,D<=a->a∉frs X.stack:=fun a ha hb=>by
  obtain⟨o,e⟩:=rj a hb;exact absurd (zB6 (D5 e) ha) (Nat.lt_irrefl _)
 have zo:∀b∈fp,b∉frs X.stack:=fun b hb z=>by
  obtain⟨_,f1,f2,_⟩:=hf b hb;rcases zAo.mp (ae.stkSub b z)with e|e
  .exact f1 e
  .exact f2 e
 generalize bq:cxC X scope Nc C fp Zt s₂ H₂=X';obtain⟨hg,ht,hm⟩:=hb C fp Zt s₂ H₂;rw[bq]at hg ht hm
 have D6:X'.Ok:=by
  subst bq;refine⟨ae.ok.mod,S.kind,ae.ok.glob,ae.ok.blt,?_,?_,?_,?_,ae.ok.hd,ae.ok.frames,.inl rfl,?_,ae.bs,Nat.le_trans ae.ok.bsz ae.sz,?_,zo,ae.stack,ae.stkFree⟩
  .show s₂.heap.objs.size<=C;lia
  .exact fun x y c e1 e2=>ae.ok.inj x y c (sub e1) (sub e2)
  .intro x hx;have hx:(relabel scope X.env).names.lookup x=some .cell\/(relabel scope X.env).names.lookup x=some .free:=hx
   have:∃k',(x,k')∈scope.names/\k'=NameKind.free:=by
    rcases hx with z|z
    .exact fj S.hcell z (.inl rfl)
    .exact fj S.hcell z (.inr rfl)
   exact lu scope.names [] (.inl this)
  .intro x c z;exact absurd z (by show¬(false=true);simp)
  .intro b hb;exact⟨(rh b hb).1,fun x c e=>(hf b hb).2.2.2.2.1 x c (sub e)⟩
  .intro b o e hb;obtain⟨_,_,_,f3,_⟩:=hf b hb;rcases f3 with z|z
   .exact ae.ok.noex b o e z
   .exact absurd (zB6 (zB0 (ae.ok.bs b o e).1) z) (Nat.lt_irrefl _)
 have eP:X'.prog=X.prog:=by subst bq;rfl
 have ew:X'.w=X.w:=by subst bq;rfl
 have eK:X'.K=X.K:=by subst bq;rfl
 have eA:X'.A=X.A:=by subst bq;rfl
 have eE:X'.xe=fun _ _=>False:=by subst bq;rfl
 have eL:X'.env.locals=C:=by subst bq;rfl
 have eN:X'.env=compEnvC scope (cZ X.env.cells scope.names []) C X.env:=by subst bq;rfl
 have ec:X'.calm=true:=by subst bq;exact hc
 have eS:X'.s₀=s₂:=by subst bq;rfl
 have eH:X'.H₀=H₂:=by subst bq;rfl
 have ef:X'.fs=frs X.stack:=by subst bq;rfl
 have ex:X'.ex=fp:=by subst bq;rfl
 have ep:X'.pn=X.pn++Zt:=by subst bq;rfl
 have I0:Inv X' [] (capσ σ src) H₂ {s₂ with heap:=cy,toks:=s₂.toks+([]:List (Str×Value)).length}:=by
  refine⟨D6,by rw[eS],ae.bare,by rw[eS,eH];exact Un.kept old,⟨_,by rw[eL];exact bp,?_⟩,?_,by rw[eL];exact fresh _ Zz,?_,?_,by rw[eP,ew];exact ae.hok.kept old,?_⟩
  .intro j x v e1 e2 e3;have e1:Nc[j]?=some x:=by subst bq;exact e1
   have e4:∃i,src[j]?=some (some i)/\(σ[i]?).join=some v:=by
    unfold capσ at e2;rw[zAb]at e2
    cases q:src[j]? with
    |none=>rw[q]at e2;cases e2
    |some o=>
     rw[q]at e2
     cases o with
     |none=>simp at e2
     |some i=>exact⟨i,rfl,by simpa using e2⟩
   obtain⟨i,e5,e6⟩:=e4;obtain⟨c1,c2,c3,c4⟩:=(aI C).get e1 e5
   have e7:σ[i]?=some (some v):=by
    cases q:σ[i]? with
    |none=>rw[q]at e6;simp at e6
    |some o=>rw[q]at e6;simp at e6;rw[e6]
   obtain⟨m,_,hl⟩:=ae.loc;obtain⟨u,r,l⟩:=hl i x v c1 e7 (.inr (by rcases c2 with z|z;exact .inl z;exact .inr z));refine⟨u,r,?_⟩;rcases l with⟨k,_⟩|⟨_,c,e,z⟩
   .rcases c2 with c2|c2<;>(rw[k]at c2;cases c2)
   .refine .inr ⟨by rw[eN];exact c4,c,by rw[eN];exact c3.trans e,?_⟩;obtain⟨o,ho,hd⟩:=z;exact⟨o,old c o ho,hd⟩
  .intro x c e;rw[eN]at e;obtain⟨v,o,ho,hd⟩:=ae.cell x c (sub e);exact⟨v,o,old c o ho,hd⟩
  .intro x c e;rw[eN]at e;exact ae.freeC x c (sub e)
  .intro p hp;rw[ep,zAn]at hp;obtain⟨e,n,ne,nf,d⟩:=ae.pin p hp;refine⟨old _ _ e,n,by rw[eL];exact(av e).1,?_,d⟩;rw[ef];intro z;rcases zAo.mp (ae.stkSub _ z)with q|q
   .exact ne q
   .exact nf q
  .have:=(aI C).len;subst bq;show(capσ σ src).length=Nc.length;unfold capσ;rw[zA1,this]
 have Np:∀p∈X'.pn,p.1≠D:=fun p hp=>by
  rw[ep]at hp;exact(av (ae.pin p hp).1).2
 have zt:∀x c,X'.env.cells.lookup x=some c->c≠D:=fun x c e=>by
  rw[eN]at e;obtain⟨o,ho⟩:=hG (sub e);exact(av ho).2
 have kr:∀{P:List (Addr×Obj)} {H:Hp},(∀p∈P,p.1=D)->(∀b∈fp,H b=none)->∀b∈fp,gD X' P H b:=fun{P H} hP hn b hb=>by
  refine⟨hn b hb,by rw[eL];exact(rh b hb).1,by rw[ef];exact zo b hb,.inl (by rw[ex];exact hb),fun x c e=>?_,fun p hp=>?_⟩
  .rw[eN]at e;exact(hf b hb).2.2.2.2.1 x c (sub e)
  .rcases zA6.mp hp with z|z
   .rw[ep]at z;exact(hf b hb).2.2.2.2.2 p z
   .rw[hP p z];exact(rh b hb).2.symm
 have ap:Apart X' D:=⟨by rw[eL];exact D3,by rw[ef];exact zk _ (zA3 _),by rw[eS,oC];exact zA3 _,zt,Np⟩
 have T':Turn X'.prog X'.w X'.K tg J fp it tn:=by rw[eP,ew,eK];exact T
 have loop:∀s₃:Shared,s₃={s₂ with heap:=cy,toks:=s₂.toks+([]:List (Str×Value)).length}->
   codeAny (model X.prog X.w) X.A (.compLoop (.ListComp elt gens scope pos) 0 (.ref it) (.ref D) (compEnvC scope (cZ X.env.cells scope.names []) C X.env)) (RR (.ref D) C) s₃:=by
  rintro s₃ rfl
  have L:=J6 (X:=X') (R:=RR (.ref D) C) ec eE ap (zh it D X'.env) hg ht (hm D ap) ⟨I0,fresh _ (Nat.le_refl _),fun p hp=>absurd hp Zy,[],_,mE,.nil⟩ T' (T.keep _ _ _ st fun b _ o e=>old b o e)
   (fun b hb=>⟨kr (fun p hp=>absurd hp Zy) (fun b hb=>(hf b hb).1) b hb,(rh b hb).2⟩) hW ?_
  .rw[eP,ew,eA,eN]at L;exact L
  rintro s4 ys dQ H3 ⟨I4,mB,_,us,k,oD,y8⟩ hsz fin;obtain⟨mC,zw,_⟩:=I4.loc;rw[eL]at zw;have kB:=I4.base;rw[eS,eH,ef,ex]at kB;have hlen:ys.length<=sizeLine:=Nat.le_of_lt hsz
  have rl:HOk X.prog X.w (upd H3 D (.lst ys)) s4.heap:=fun b u e=>by
   by_cases hb:b=D
   .subst hb;rw[aj]at e;cases e;exact⟨hlen,us,k,y8,oD⟩
   .rw[aA hb]at e;have z:=I4.hok b u e;rw[eP,ew]at z
    exact z.stay (fun c v _ q=>q) (fun c q=>by rw[aA (aC q mB)];exact q) fun c xs q=>by rw[aA (aC q mB)];exact q
  have un:Un (frs X.stack) fp H₂ (upd H3 D (.lst ys)) s₂.heap s4.heap:=⟨kB.keep,kB.slot,fun b o e n hx=>by rw[aA (av e).2];exact kB.free b o e n hx,kB.there,
   fun b xs e=>by
    have z:=kB.tups b xs e
    rw[aA (aC z mB)];exact z,
   fun b o u e=>by
    have z:=kB.frzs b o u e
    rw[aA (aC z mB)];exact z,
   fun b ps e=>by
    obtain⟨mo,z⟩:=kB.tbls b ps e
    exact⟨mo,by rw[aA (aC z mB)];exact z⟩⟩
  have J4:Inv X Zt σ (upd H3 D (.lst ys)) s4:=ae.call' (ch:=fp) (by have:=I4.os;rw[eS]at this;exact this) un rl I4.bare fun b hb=>by
   obtain⟨_,f1,f2,f3,f4,f5⟩:=hf b hb;exact⟨f3,f1,f4,f5⟩
  refine zi D C s4 ys H3 mC fin mB J4 zw ⟨?_,?_,?_,.inr ?_,?_,?_⟩
  .rw[aA D3.symm];have:=I4.free;rw[eL]at this;exact this
  .have:=ae.lt;rw[oC]at this;exact Nat.ne_of_gt (zB6 this (by rw[hC];exact Nat.le_succ _))
  .intro z;obtain⟨_,o,ho,_⟩:=ae.funs.mem z;exact(av ho).1 rfl
  .have:=ae.sz;rw[oC]at this;lia
  .intro x c e z;obtain⟨o,ho⟩:=hG e;exact(av ho).1 z
  .intro p hp z;exact(av (ae.pin p hp).1).1 z
 exact zy hd rfl (loop _ rfl) (T.self _ 0 _ _ _ (T.keep _ _ _ st fun b _ o e=>old b o e) (loop _ rfl))
theorem oU{X:Cx}{tg iter elt:Expr}{ifs:List Expr}{scope:Scope}{pos:Pos}{Nc:List Str}{src:List (Option Nat)}{g:TG}{tt:TT}{te:TE}(hc:X.calm=true)(S:CScope X scope)
  (aI:∀C,Caps X (compEnvC scope (cZ X.env.cells scope.names []) C X.env) Nc src)
  (hb:∀C fp Zt s₂ H₂,PG (cxC X scope Nc C fp Zt s₂ H₂) tg g/\PTs (cxC X scope Nc C fp Zt s₂ H₂) ifs tt/\PE (cxC X scope Nc C fp Zt s₂ H₂) elt te)
  {Zt:List (Addr×Obj)} {s₂:Shared} {σ:St} {H₂:Hp} {it:Addr} {fp:List Addr} {tn:Nat->Heap->Prop} {J:It} (ae:Inv X Zt σ H₂ s₂) (T:Turn X.prog X.w X.K tg J fp it tn) (st:tn 0 s₂.heap) (hf:∀b∈fp,gD X Zt H₂ b)
  {Fin:List V->Hp->Prop} (hW:lw J g tt te Fin (capσ σ src) H₂) {RR:Value->Addr->Result->Shared->Prop} {E:Value->Shared->Prop}
  (zi:∀D C s' ys H' m,Fin ys H'->H' D=none->Inv X Zt σ (upd H' D (.lst ys)) s'->s'.heap.Ns C m->gD X Zt (upd H' D (.lst ys)) C->RR (.ref D) C (.ok .next) s'):
  wpAny (model X.prog X.w) X.A (newList []) (fun acc s₃=>wpAny (model X.prog X.w) X.A (newFunctionEnv scope X.env.globals (cZ X.env.cells scope.names []) [] X.env.qual none .none (some X.env)) (fun fA fz=>
   codeAny (model X.prog X.w) X.A (.compStart (.ListComp elt [⟨tg,iter,ifs,0⟩] scope pos) 0 (.ref it) acc {fA with scope:=relabel scope X.env}) (RR acc fA.locals) fz) E s₃) E s₂:=by
 exact uZ (gens:=[⟨tg,iter,ifs,0⟩]) (p:=iter.pos) (M:=fun D env=>Do elt D env) (tm:=tmE te) hc S rfl (fun it D env=>yg rfl rfl) aI (fun C fp Zt s₂ H₂=>⟨(hb C fp Zt s₂ H₂).1,(hb C fp Zt s₂ H₂).2.1,fun D ap=>GQ ap rfl (hb C fp Zt s₂ H₂).2.2⟩) ae T st hf hW zi
def zz(wi:TI)(src:List (Option Nat))(g:TG)(tt:TT)(te:TE):TE:=fun σ H Q=>wi σ H fun J H1=>lw J g tt te (fun ys H'=>∀D,H' D=none->Q (.ref D) (upd H' D (.lst ys))) (capσ σ src) H1
section
variable{X:Cx}{tg iter elt:Expr}{ifs:List Expr}{scope:Scope}{pos:Pos}{Nc:List Str}{wi:TI}{g:TG}{tt:TT}{te:TE}
theorem bK(Nc:List Str)(src:List (Option Nat))(hc:X.calm=true)(hi:PI X tg iter wi)
  (hb:∀C fp Zt s₂ H₂,PG (cxC X scope Nc C fp Zt s₂ H₂) tg g/\PTs (cxC X scope Nc C fp Zt s₂ H₂) ifs tt/\PE (cxC X scope Nc C fp Zt s₂ H₂) elt te)
  (aI:∀C,Caps X (compEnvC scope (cZ X.env.cells scope.names []) C X.env) Nc src) (S:CScope X scope)
  (hs:∀x,foldedSetIterable iter X.env x=pure x:=by intro _;rfl):PE X (.ListComp elt [⟨tg,iter,ifs,0⟩] scope pos) (zz wi src g tt te):=by
 intro Zt s σ H Q I h;rw[eval_ListComp];refine wpAny_comprehension_free (use:=none) rfl hs (qF S.hfree) S.kind S.hnames ?_;refine thn (hi Zt s σ H _ I h) fun v s1 h1=>thn h1 fun xD s2 h2=>?_;obtain⟨it,fp,tn,J,H2,e,I2,T,st2,f2,hW⟩:=h2;subst e;refine oU (RR:=fun acc C=>compPost (model X.prog X.w) X.A X.xe none (EP X Zt σ Q) acc C) hc S aI hb I2 T st2 f2 hW ?_;intro D C s' ys H' m fin nD J' hn fC;obtain⟨f0,f1,_,f3,f4,f5⟩:=fC;refine⟨m,hn,fun K0 kC=>?_⟩;exact⟨.ref D,_,J'.turned (t':=s'.toks) (fun b o hb e=>kC.extBut b o hb e) f0 f1 f3 f4 f5,rfl,fin D nD⟩
def GR(wi:TI)(src:List (Option Nat))(g:TG)(tt:TT)(te:TE)(i:Nat):TS:=fun D σ H=>zz wi src g tt te σ H fun v H'=>D.nx (σ.set i (some v)) H'
theorem iy{i:Nat}{x:Str}{pos' zI:Pos}(Nc:List Str)(src:List (Option Nat))(hc:X.calm=true)(hN:X.N.Nodup)(dP:X.N[i]?=some x)(hx:Loc X.env.scope x)(hi:PI X tg iter wi)
  (hb:∀C fp Zt s₂ H₂,PG (cxC X scope Nc C fp Zt s₂ H₂) tg g/\PTs (cxC X scope Nc C fp Zt s₂ H₂) ifs tt/\PE (cxC X scope Nc C fp Zt s₂ H₂) elt te)
  (aI:∀C,Caps X (compEnvC scope (cZ X.env.cells scope.names []) C X.env) Nc src) (S:CScope X scope)
  (Nq:swapsWith (.ListComp elt [⟨tg,iter,ifs,0⟩] scope pos) (some (.Name x pos')) zI.line X.env=pure true:=by rfl)
  (hf:X.fn x=true\/X.env.scope.names.lookup x=some .local:=by first|exact .inl rfl|exact .inr rfl|assumption)
  (hs:∀x,foldedSetIterable iter X.env x=pure x:=by intro _;rfl):PS X (.Assign [.Name x pos'] (.ListComp elt [⟨tg,iter,ifs,0⟩] scope pos) zI) (GR wi src g tt te i):=by
 intro Zt s σ H D I h;rw[exec_Assign_Name_used _ _ _ _ Nq];refine zAt (wpAny_standAt (zAt ?_));show wpAny _ _ (do let _ <-comprehension (.ListComp elt [⟨tg,iter,ifs,0⟩] scope pos) scope X.env _ (newList []) false (eval iter X.env) (some (assign (.Name x pos') X.env))) _ _ s;refine zAt (thn (wpAny_comprehension_free (use:=some (assign (.Name x pos') X.env)) (Q:=fun _ s'=>∃ah H',Inv X Zt ah H' s'/\D.nx ah H') rfl hs (qF S.hfree) S.kind S.hnames ?_) fun _ s' hq=>zAv (zAv hq));refine thn (hi Zt s σ H _ I h) fun v s1 h1=>thn h1 fun xD s2 h2=>?_;obtain⟨it,fp,tn,J,H2,e,I2,T,st2,f2,hW⟩:=h2;subst e;refine oU (RR:=fun acc C=>compPost (model X.prog X.w) X.A X.xe (some (assign (.Name x pos') X.env)) (fun _ s'=>∃ah H',Inv X Zt ah H' s'/\D.nx ah H') acc C) hc S aI hb I2 T st2 f2 hW ?_;intro A C s' ys H' m fin nD J' hn fC;obtain⟨f0,f1,Tf,f3,f4,f5⟩:=fC;refine wpAny_assign_Name (oA J' hN dP hx (v:=.ref A) rfl (fun ve Nr Nt=>?_) hf)
 have rb:∃m',ve.heap.Ns C m':=by
  obtain⟨a,sb,ha⟩:=Nt
  have hJ:C≠a:=by
   rcases ha with z|z
   .rw[z];exact f1
   .exact fun q=>f4 x a z q.symm
  exact⟨m,hn.sameBut sb hJ⟩
 obtain⟨m',rb⟩:=rb;refine⟨m',rb,fun K0 kC=>?_⟩;exact⟨_,_,Nr.turned (t':=ve.toks) (fun b o hb e=>kC.extBut b o hb e) f0 f1 f3 f4 f5,fin A nD⟩
end
section
variable{X:Cx}
theorem gM:di X (.builtin "isinstance") (fun xs H Q=>∃x t n b,xs=[x,.ty n]/\TyOf X.K H x t/\PySem.W.kitOne X.K t (.type n)=some b/\Q (.bl b) H):=by
 intro Zt s σ H xs us Q I r h;obtain⟨x,t,n,b,rfl,ty,e,q⟩:=h;obtain⟨u,c,rfl,ru,rc⟩:=vals2 r;obtain rfl:c=Value.type n:=rc
 exact xZ I ru ty e fun tk=>⟨.bl b,H,I.tok _,rfl,q⟩
theorem sY{prog:Program}{w:World}{A:Around}(bs:List Bool):TruthOf prog w A (fun i v=>∃b,bs[i]?=some b/\v=Value.bool b) (fun i=>(bs[i]?).getD false):=by
 intro i v s Q E hP hQ;obtain⟨b,hb,rfl⟩:=hP;dsimp only at hQ;rw[hb]at hQ;exact wpAny_truthy_bool hQ
theorem all_range(bs:List Bool):(List.range bs.length).all (fun i=>(bs[i]?).getD false)=bs.all id:=by
 apply Bool.eq_iff_iff.mpr;rw[List.all_eq_true,List.all_eq_true];constructor
 .intro h b hb;obtain⟨i,hi,e⟩:=List.getElem_of_mem hb;have:=h i (List.mem_range.mpr hi);rw[zA0 hi,e]at this;exact this
 .intro h i hi;have hi:=List.mem_range.mp hi;rw[zA0 hi];exact h _ (zAh hi)
theorem lA:∀{bs:List Bool} {us:List Value},Vals (bs.map V.bl) us->us=bs.map Value.bool
 |[],_,.nil=>rfl
 |_::bs,_,.cons r t=>by
  rw[lA (bs:=bs) t,show _=Value.bool _ from r];rfl
theorem eQ(hc:X.calm=true):di X (.builtin "all") (fun xs H Q=>∃(p:Addr) (bs:List Bool),xs=[.ref p]/\SqL X.K H p (bs.map V.bl)/\Q (.bl (bs.all id)) H):=by
 intro Zt s σ H xs us Q I r h;obtain⟨p,bs,rfl,hq,q⟩:=h;obtain⟨u,rfl,ru⟩:=vals1 r;cases ru;obtain⟨Zr,rv,pl,hz⟩:=I.list hq;have ei:=lA rv;subst ei;have ay:p<s.heap.objs.size:=by obtain⟨_,e,_⟩:=pl.isList;exact zB0 e
 refine call_all_walk (wpAny_pyIter_list pl.isList ?_);have W:=Walks.list (prog:=X.prog) (w:=X.w) (A:=X.A.in1) (I.ok.hd hc) s.heap.objs.size p (zB8 ay) (bs.map Value.bool).toArray;refine⟨_,_,_,_,_,_,_,rfl,{sub:=W.sub,frame:=W.frame,item:=fun i s Q E hi st hQ=>W.item i s Q E hi st fun v h' tk hP=>hQ v h' tk ?_,done:=W.done,self:=W.self},⟨⟨_,zB2 _ rfl,rfl,rfl⟩,pl.isList.push _⟩,sY bs,fun h' tk k=>?_⟩
 .have zS:(bs.map Value.bool).toArray[i]?=some v:=hP;rw[List.getElem?_toArray,zAb]at zS
  cases e:bs[i]? with
  |none=>rw[e]at zS;cases zS
  |some b=>rw[e]at zS;exact⟨b,rfl,(zAl zS).symm⟩
 .have hsz:(bs.map Value.bool).toArray.size=bs.length:=by simp
  rw[hsz,all_range];refine⟨.bl _,H,?_,rfl,q⟩;refine I.kept (h':=h') (t':=tk) fun b o e=>k b o ?_ (Heap.get?_push_of_some _ e);intro z;have:b=s.heap.objs.size:=by simpa using z
  exact absurd (zB0 e) (by rw[this];exact Nat.lt_irrefl _)
end
theorem jt{K:Frag}:PySem.W.kitOne K (.type "NoneType") (.type "int")=some false:=by kernel_rfl
theorem j7{K:Frag}:PySem.W.kitOne K (.type "NoneType") (.type "bool")=some false:=by kernel_rfl
theorem iK{K:Frag}:PySem.W.kitOne K (.type "NoneType") (.type "tuple")=some false:=by kernel_rfl
theorem qG{K:Frag}:PySem.W.kitOne K (.type "bool") (.type "int")=some true:=by kernel_rfl
theorem nC{K:Frag}:PySem.W.kitOne K (.type "bool") (.type "bool")=some true:=by kernel_rfl
theorem lB{K:Frag}:PySem.W.kitOne K (.type "bool") (.type "tuple")=some false:=by kernel_rfl
theorem sZ{K:Frag}:PySem.W.kitOne K (.type "int") (.type "int")=some true:=by kernel_rfl
theorem qH{K:Frag}:PySem.W.kitOne K (.type "int") (.type "bool")=some false:=by kernel_rfl
theorem nF{K:Frag}:PySem.W.kitOne K (.type "int") (.type "tuple")=some false:=by kernel_rfl
theorem tD{K:Frag}:PySem.W.kitOne K (.type "str") (.type "int")=some false:=by kernel_rfl
theorem qI{K:Frag}:PySem.W.kitOne K (.type "str") (.type "bool")=some false:=by kernel_rfl
theorem nG{K:Frag}:PySem.W.kitOne K (.type "str") (.type "tuple")=some false:=by kernel_rfl
theorem qJ{K:Frag}:PySem.W.kitOne K (.type "list") (.type "int")=some false:=by kernel_rfl
theorem nH{K:Frag}:PySem.W.kitOne K (.type "list") (.type "bool")=some false:=by kernel_rfl
theorem lC{K:Frag}:PySem.W.kitOne K (.type "list") (.type "tuple")=some false:=by kernel_rfl
theorem nJ{K:Frag}:PySem.W.kitOne K (.type "tuple") (.type "int")=some false:=by kernel_rfl
theorem lD{K:Frag}:PySem.W.kitOne K (.type "tuple") (.type "bool")=some false:=by kernel_rfl
theorem jO{K:Frag}:PySem.W.kitOne K (.type "tuple") (.type "tuple")=some true:=by kernel_rfl
theorem qK{K:Frag}:PySem.W.kitOne K (.type "dict") (.type "int")=some false:=by kernel_rfl
theorem nM{K:Frag}:PySem.W.kitOne K (.type "dict") (.type "bool")=some false:=by kernel_rfl
theorem lE{K:Frag}:PySem.W.kitOne K (.type "dict") (.type "tuple")=some false:=by kernel_rfl
section
variable{κ:Type}[DecidableEq κ]
def cB(Zs:List (κ×V))(k:κ):Option V:=(Zs.find? fun kv=>decide (kv.1=k)).map (·.2)
def putK(Zs:List (κ×V))(k:κ)(v:V):List (κ×V):=
 if(Zs.any fun kv=>decide (kv.1=k))=true then Zs.map (fun kv=>if kv.1=k then(kv.1,v)else kv)else Zs++[(k,v)]
theorem cM{p:κ×V}{r:List (κ×V)}{k:κ}(e:p.1=k):cB (p::r) k=some p.2:=by simp[cB,List.find?_cons,e]
theorem cN{p:κ×V}{r:List (κ×V)}{k:κ}(e:¬p.1=k):cB (p::r) k=cB r k:=by simp[cB,List.find?_cons,e]
theorem eV(k:κ):∀Zs:List (κ×V),(Zs.any fun kv=>decide (kv.1=k))=(cB Zs k).isSome
 |[]=>rfl
 |p::r=>by
  rw[List.any_cons];by_cases e:p.1=k
  .simp only[cM e,decide_eq_true e,Bool.true_or,Option.isSome_some]
  .rw[cN e,zB5 e,Bool.false_or];exact eV k r
theorem tE(k j:κ)(y:V):∀Zs:List (κ×V),cB (Zs.map fun kv=>if kv.1=k then(kv.1,y)else kv) j=(cB Zs j).map fun x=>if j=k then y else x
 |[]=>rfl
 |p::r=>by
  have ih:=tE k j y r;rw[zAk];by_cases h:p.1=k
  .rw[zAz h];by_cases e:p.1=j
   .rw[cM (p:=(p.1,y)) e,cM e,Option.map_some,zAz (e.symm.trans h)]
   .rw[cN (p:=(p.1,y)) e,cN e,ih]
  .rw[zAx h];by_cases e:p.1=j
   .rw[cM (p:=p) e,cM e,Option.map_some,zAx (fun z=>h (e.trans z))]
   .rw[cN (p:=p) e,cN e,ih]
theorem oV(k j:κ)(y:V):∀Zs:List (κ×V),cB Zs k=none->cB (Zs++[(k,y)]) j=if j=k then some y else cB Zs j
 |[],_=>by
  by_cases e:k=j
  .rw[zAz e.symm];exact cM (p:=(k,y)) e
  .rw[zAx (fun z=>e z.symm)];exact cN (p:=(k,y)) e
 |p::r,hn=>by
  rw[List.cons_append]
  have hk:¬p.1=k:=fun z=>by rw[cM z]at hn;cases hn
  rw[cN hk]at hn;have ih:=oV k j y r hn;by_cases e:p.1=j
  .rw[cM e,cM e,zAx (fun z=>hk (e.trans z))]
  .rw[cN e,cN e,ih]
theorem fQ(Zs:List (κ×V))(k j:κ)(y:V):cB (putK Zs k y) j=if j=k then some y else cB Zs j:=by
 unfold putK;by_cases a:(Zs.any fun kv=>decide (kv.1=k))=true
 .rw[zAz a,tE];rw[eV]at a;by_cases e:j=k
  .obtain⟨x,hx⟩:=Option.isSome_iff_exists.mp a;rw[zAz e,e,hx,Option.map_some,zAz rfl]
  .rw[zAx e]
   cases cB Zs j with
   |none=>rfl
   |some x=>rw[Option.map_some,zAx e]
 .rw[zAx a];refine oV k j y Zs ?_;rw[eV]at a
  cases q:cB Zs k with
  |none=>rfl
  |some x=>rw[q]at a;exact(a rfl).elim
theorem fu(Zs:List (κ×V))(k:κ)(v:V):(putK Zs k v).length<=Zs.length+1:=by
 unfold putK;split
 .rw[zA1];lia
 .rw[zA2,zAe,List.length_nil];lia
theorem lF{Zs:List (κ×V)}{k:κ}(v:V)(h:cB Zs k=none):putK Zs k v=Zs++[(k,v)]:=by
 unfold putK;rw[eV,h];exact zAx Zx
theorem RelO.isSome_eq{o:Option V}{u:Option Value}(r:RelO o u):o.isSome=u.isSome:=by
 cases o with
 |none=>cases u with
  |none=>rfl
  |some _=>exact(show False from r).elim
 |some _=>cases u with
  |none=>exact(show False from r).elim
  |some _=>rfl
theorem RelO.getD{o:Option V}{u:Option Value}{d:V}{d':Value}(r:RelO o u)(rd:RelV d d'):RelV (o.getD d) (u.getD d'):=by
 cases o with
 |none=>cases u with
  |none=>exact rd
  |some _=>exact(show False from r).elim
 |some _=>cases u with
  |none=>exact(show False from r).elim
  |some _=>exact r
theorem KV.val{Zs:List (κ×V)}{vs:List (κ×Value)}(r:KV Zs vs)(k:κ):RelO (cB Zs k) (valueAt vs k):=by
 unfold KV at r
 induction r with
 |nil=>exact True.intro
 |@cons p q ps qs h t ih=>
  obtain⟨h1,h2⟩:=h;by_cases e:p.1=k
  .have e':q.1=k:=h1.symm.trans e;have b:valueAt (q::qs) k=some q.2:=by simp[valueAt,List.find?_cons,e']
   rw[cM e,b];exact h2
  .have e':¬q.1=k:=fun z=>e (h1.trans z);have b:valueAt (q::qs) k=valueAt qs k:=by simp[valueAt,List.find?_cons,e']
   rw[cN e,b];exact ih
theorem KV.any{Zs:List (κ×V)}{vs:List (κ×Value)}(r:KV Zs vs)(k:κ):(Zs.any fun kv=>decide (kv.1=k))=vs.any fun kv=>decide (kv.1=k):=by
 unfold KV at r
 induction r with
 |nil=>rfl
 |cons h t ih=>rw[List.any_cons,List.any_cons,ih,h.1]
theorem KV.repl{Zs:List (κ×V)}{vs:List (κ×Value)}(r:KV Zs vs)(k:κ){y:V}{u:Value}(ry:RelV y u):
  KV (Zs.map fun kv=>if kv.1=k then(kv.1,y)else kv) (vs.map fun kv=>if kv.1=k then(kv.1,u)else kv):=by
 unfold KV at r⊢
 induction r with
 |nil=>exact .nil
 |@cons p q ps qs h t ih=>
  rw[zAk,zAk];refine .cons ?_ ih;obtain⟨h1,h2⟩:=h;by_cases e:p.1=k
  .rw[zAz e,zAz (h1.symm.trans e)];exact⟨h1,ry⟩
  .rw[zAx e,zAx (fun z=>e (h1.trans z))];exact⟨h1,h2⟩
theorem KV.put{Zs:List (κ×V)}{vs:List (κ×Value)}(r:KV Zs vs)(k:κ){y:V}{u:Value}(ry:RelV y u):KV (putK Zs k y) (stored vs k u):=by
 unfold putK stored;rw[r.any k];by_cases e:(vs.any fun kv=>decide (kv.1=k))=true
 .rw[zAz e,zAz e];exact r.repl k ry
 .rw[zAx e,zAx e];exact Paired.snoc r ⟨rfl,ry⟩
theorem KV.length{Zs:List (κ×V)}{vs:List (κ×Value)}(r:KV Zs vs):Zs.length=vs.length:=Paired.length r
end
theorem tG{P:Program}{w:World}{k:Key}{u:Value}(r:RelV (kV k) u):(aX P w).is k u=true:=by
 cases k with
 |inl i=>obtain⟨t,e⟩:=(show ∃t,u=Value.int i t from r);subst e;exact sI P w i t
 |inr x=>obtain⟨t,e⟩:=(show ∃t,u=Value.str x t from r);subst e;exact sJ P w x t
theorem oW{P:Program}{w:World}:∀{ks:List Key} {us:List Value},Vals (ks.map kV) us->ItemsAre (aX P w) ks us
 |[],_,r=>by rw[List.map_nil]at r;cases r;exact .nil
 |k::ks,_,r=>by
  rw[zAk]at r
  cases r with
  |cons h t=>exact .cons (tG h) (oW t)
abbrev KT(H:Hp):List (List Key×V)->List (List Key×Addr×Value)->Prop:=Paired fun p q=>p.1=q.1/\H q.2.1=some (.tup (p.1.map kV))/\RelV p.2 q.2.2
theorem KT.val{H:Hp}{Zs:List (List Key×V)}{xs:List (List Key×Addr×Value)}(r:KT H Zs xs)(k:List Key):RelO (cB Zs k) ((atKey xs k).map (·.2)):=by
 induction r with
 |nil=>exact True.intro
 |@cons p q ps qs h t ih=>
  obtain⟨h1,_,h2⟩:=h;by_cases e:p.1=k
  .have e':q.1=k:=h1.symm.trans e;have b:atKey (q::qs) k=some q.2:=by simp[atKey,List.find?_cons,e']
   rw[cM e,b];exact h2
  .have e':¬q.1=k:=fun z=>e (h1.trans z);have b:atKey (q::qs) k=atKey qs k:=by simp[atKey,List.find?_cons,e']
   rw[cN e,b];exact ih
theorem KT.repl{H:Hp}{Zs:List (List Key×V)}{xs:List (List Key×Addr×Value)}(r:KT H Zs xs)(k:List Key){y:V}{u:Value}(ry:RelV y u):
  KT H (Zs.map fun kv=>if kv.1=k then(kv.1,y)else kv) (xs.map (putAt k u)):=by
 induction r with
 |nil=>exact .nil
 |@cons p q ps qs h t ih=>
  rw[zAk,zAk];refine .cons ?_ ih;obtain⟨h1,h2,h3⟩:=h;unfold putAt;by_cases e:p.1=k
  .rw[zAz e,zAz (h1.symm.trans e)];exact⟨h1,h2,ry⟩
  .rw[zAx e,zAx (fun z=>e (h1.trans z))];exact⟨h1,h2,h3⟩
theorem KT.put{H:Hp}{Zs:List (List Key×V)}{xs:List (List Key×Addr×Value)}(r:KT H Zs xs)(k:List Key){b:Addr}{y:V}{u:Value}(hb:H b=some (.tup (k.map kV)))(ry:RelV y u):
  KT H (putK Zs k y) (storedH xs k b u):=by
 have e:(Zs.any fun kv=>decide (kv.1=k))=(atKey xs k).isSome:=by
  rw[eV,(r.val k).isSome_eq,Option.isSome_map]
 unfold putK storedH;rw[e];by_cases q:(atKey xs k).isSome=true
 .rw[zAz q,zAz q];exact r.repl k ry
 .rw[zAx q,zAx q];exact Paired.snoc r ⟨rfl,hb,ry⟩
theorem KT.keeps{H H':Hp}{Zs:List (List Key×V)}{xs:List (List Key×Addr×Value)}(r:KT H Zs xs)(ht:∀b ys,H b=some (.tup ys)->H' b=some (.tup ys)):KT H' Zs xs:=
 Paired.mapP r fun _ _ z=>⟨z.1,ht _ _ z.2.1,z.2.2⟩
section
variable{P:Program}{w:World}{H:Hp}{h:Heap}{a:Addr}
theorem G3{u:HO}(ok:HOk P w H h)(e:Rd H a u):ObjOk P w H h a u:=e.ok ok
theorem oX{Zs:List (Key×V)}(ok:HOk P w H h)(e:Rd H a (.dK Zs)):Zs.length<=sizeLine/\(a==sysModules)=false/\∃vs,KV Zs vs/\h.DictOf (aX P w) a vs:=
 show ObjOk P w H h a (.dK Zs)from G3 ok e
theorem J7{Zs:List (Key×V)}(ok:HOk P w H h)(e:H a=some (.dK Zs)):Zs.length<=sizeLine/\(a==sysModules)=false/\∃vs,KV Zs vs/\h.DictOf (aX P w) a vs:=oX ok (.inl e)
theorem iM{ks:List Key}(ok:HOk P w H h)(e:H a=some (.tup (ks.map kV))):(tupleKind (aX P w)).is h ks a:=by
 obtain⟨_,Zr,r,o,h1,h2,n,h3⟩:=(show ObjOk P w H h a (.tup (ks.map kV))from ok a _ e)
 exact⟨o,Zr.toArray,n,h1,h2,h3,by simpa using oW r⟩
theorem oY{Zs:List (List Key×V)}(ok:HOk P w H h)(e:Rd H a (.dT Zs)):Zs.length<=sizeLine/\(a==sysModules)=false /\
  ∃xs,KT H Zs xs/\h.DictOfH (tupleKind (aX P w)) a xs:=by
 obtain⟨z,y,xs,r,o,es,ep,h1,h2,h3,h4,h5⟩:=(show ObjOk P w H h a (.dT Zs)from G3 ok e)
 refine⟨z,y,xs,r,o,es,ep,h1,h2,h3,h4,fun x hx=>?_,h5⟩
 have all:∀{l:List (List Key×V)} {m:List (List Key×Addr×Value)},KT H l m->∀x∈m,(tupleKind (aX P w)).is h x.1 x.2.1:=by
  intro l m q
  induction q with
  |nil=>intro x hx;exact nomatch hx
  |@cons p q ps qs hq t ih=>
   intro x hx;rcases zAo.mp hx with e|hx
   .subst e;exact iM ok (by rw[<-hq.1];exact hq.2.1)
   .exact ih x hx
 exact all r x hx
theorem G4{Zs:List (List Key×V)}(ok:HOk P w H h)(e:H a=some (.dT Zs)):Zs.length<=sizeLine/\(a==sysModules)=false /\
  ∃xs,KT H Zs xs/\h.DictOfH (tupleKind (aX P w)) a xs:=oY ok (.inl e)
end
def DGet(H:Hp)(a:Addr)(y:V)(r:Option V):Prop:=
 (∃Zs k,Rd H a (.dK Zs)/\y=kV k/\r=cB Zs k)\/∃Zs k b,Rd H a (.dT Zs)/\y=.ref b/\H b=some (.tup (k.map kV))/\r=cB Zs k
def DPut(H:Hp)(a:Addr)(y v:V)(H':Hp):Prop:=
 (∃Zs k,H a=some (.dK Zs)/\y=kV k/\Zs.length<sizeLine/\H'=upd H a (.dK (putK Zs k v))) \/
 ∃Zs k b,H a=some (.dT Zs)/\y=.ref b/\H b=some (.tup (k.map kV))/\Zs.length<sizeLine/\H'=upd H a (.dT (putK Zs k v))
theorem DGet.t{H:Hp}{a b:Addr}{Zs:List (List Key×V)}{k:List Key}(e:H a=some (.dT Zs))(eb:H b=some (.tup (k.map kV))):DGet H a (.ref b) (cB Zs k):=.inr ⟨Zs,k,b,.inl e,rfl,eb,rfl⟩
theorem DPut.t{H:Hp}{a b:Addr}{Zs:List (List Key×V)}{k:List Key}{v:V}(e:H a=some (.dT Zs))(eb:H b=some (.tup (k.map kV)))(hl:Zs.length<sizeLine):
  DPut H a (.ref b) v (upd H a (.dT (putK Zs k v))):=.inr ⟨Zs,k,b,e,rfl,eb,hl,rfl⟩
section
variable{X:Cx}{Zt:List (Addr×Obj)}{σ:St}{H:Hp}{s:Shared}{a:Addr}{y v:V}{u r:Value}{o:Option V}{A:Around}{E:Value->Shared->Prop}
theorem Inv.big(I:Inv X Zt σ H s):sysModules<s.heap.objs.size:=by
 have h:mainGlobals<s.heap.objs.size:=(I.mod.glob.keeps I.bk).lt;exact Nat.lt_trans Zx h
theorem yh{Q:Value->Shared->Prop}(hu:A.units+1<cLine)(I:Inv X Zt σ H s)(g:DGet H a y (some v))(ry:RelV y u)(h:∀w' s',Inv X Zt σ H s'->RelV v w'->Q w' s'):
  wpAny (model X.prog X.w) A (getItem (.ref a) u) Q E s:=by
 rcases g with⟨Zs,k,e,ey,l⟩|⟨Zs,k,b,e,ey,eb,l⟩
 .subst ey;obtain⟨z,hd,vs,rel,dd⟩:=oX I.hok e;obtain⟨w',hw,de⟩:=RelO.some_of (v:=v) (o:=valueAt vs k) (by rw[l];exact rel.val k);exact wpAny_getItem_of (tG ry) dd.mapOf hw (h w' _ (I.tok _) de)
 .subst ey;cases(show u=Value.ref b from ry);obtain⟨z,hd,xs,rel,dd⟩:=oY I.hok e;obtain⟨w',hw,de⟩:=RelO.some_of (v:=v) (o:=(atKey xs k).map (·.2)) (by rw[l];exact rel.val k);obtain⟨p,hp,md⟩:=Option.map_eq_some_iff.mp hw;refine wpAny_getItem_heap (tupleKind_room_in1 hu) (iM I.hok eb) dd hp ?_;rw[md];exact h w' _ (I.tok _) de
theorem Dp{Q:Value->Shared->Prop}(hu:A.units+1<cLine)(I:Inv X Zt σ H s)(g:DGet H a y o)(ry:RelV y u)(h:∀s',Inv X Zt σ H s'->Q (.bool (!o.isSome)) s'):
  wpAny (model X.prog X.w) A (compareOp .NotIn u (.ref a)) Q E s:=by
 rcases g with⟨Zs,k,e,ey,l⟩|⟨Zs,k,b,e,ey,eb,l⟩
 .subst ey;obtain⟨z,hd,vs,rel,dd⟩:=oX I.hok e;refine wpAny_notIn_of (tG ry) hd dd.mapOf ?_;rw[<-(rel.val k).isSome_eq,<-l];exact h _ (I.tok _)
 .subst ey;cases(show u=Value.ref b from ry);obtain⟨z,hd,xs,rel,dd⟩:=oY I.hok e;refine wpAny_notIn_heap (tupleKind_room_in1 hu) (iM I.hok eb) hd dd ?_;have q:=(rel.val k).isSome_eq;rw[Option.isSome_map]at q;rw[<-q,<-l];exact h _ (I.tok _)
theorem qL{h':Heap}{t':Nat}{ob:HO}(I:Inv X Zt σ H s)(mu:Mut (H a))(hs:Heap.SameBut a s.heap h')(he:∃q,h'.get? a=some q)(new:ObjOk X.prog X.w (upd H a ob) h' a ob):
  Inv X Zt σ (upd H a ob) {s with heap:=h',toks:=t'}:=
 I.write (x:=a) (e:=a) mu (.inl rfl) (fun b q hb z=>(hs.2 b hb).trans z) he new
theorem GX{P:Program}{w:World}{H':Hp}{h':Heap}{Zs:List (Key×V)}{vs:List (Key×Value)}(z:Zs.length<=sizeLine)(hd:(a==sysModules)=false)(rel:KV Zs vs)(dd:h'.DictOf (aX P w) a vs):
  ObjOk P w H' h' a (.dK Zs):=⟨z,hd,vs,rel,dd⟩
theorem yj{H':Hp}{Q:Unit->Shared->Prop}(hu:A.units+1<cLine)(I:Inv X Zt σ H s)(g:DPut H a y v H')(ry:RelV y u)(rv:RelV v r)(h:∀s',Inv X Zt σ H' s'->Q () s'):
  wpAny (model X.prog X.w) A (setItem (.ref a) u r) Q E s:=by
 rcases g with⟨Zs,k,e,ey,l,eH⟩|⟨Zs,k,b,e,ey,eb,l,eH⟩
 .subst ey eH;obtain⟨z,hd,vs,rel,dd⟩:=J7 I.hok e;have hz:vs.length<=sizeLine:=by rw[<-rel.length];exact z
  have hl:(putK Zs k v).length<=sizeLine:=by have:=fu Zs k v;lia
  refine wpAny_setItem_pairs (hsz:=hz) (tG ry) dd fun h' vk hs=>h _ ?_
  have he:∃q,h'.get? a=some q:=by obtain⟨q,_,_,hq,_⟩:=vk;exact⟨q,hq⟩
  exact qL I (by rw[e];exact True.intro) hs he (GX hl hd (rel.put k rv) vk)
 .subst ey eH;cases(show u=Value.ref b from ry);obtain⟨z,hd,xs,rel,dd⟩:=G4 I.hok e;have hz:xs.length<=sizeLine:=by rw[<-Paired.length rel];exact z
  have hl:(putK Zs k v).length<=sizeLine:=by have:=fu Zs k v;lia
  refine wpAny_setItem_heap (hsz:=hz) (tupleKind_room_in1 hu) (iM I.hok eb) dd fun h' vk hs=>h _ ?_;obtain⟨q,es,ep,hq,h2,h3,h4,_,h5⟩:=vk;refine qL I (by rw[e];exact True.intro) hs ⟨q,hq⟩ ⟨hl,hd,_,(rel.put k eb rv).keeps fun c ys ec=>?_,q,es,ep,hq,h2,h3,h4,h5⟩;rw[aA (Fy ec e (fun z=>nomatch z))];exact ec
end
section
variable{X:Cx}{Zt:List (Addr×Obj)}{σ:St}{H:Hp}{s:Shared}{a:Addr}{Zs:List (Key×V)}{k:Key}{u:Value}{A:Around}{E:Value->Shared->Prop}
end
def J8(i:Expr):Prop:=∀ov iv,subscripted i false ov iv=operate [ov,iv] (getItem ov iv)
theorem Dq{prog:Program}{w:World}{A:Around}{E:Value->Shared->Prop}{s:Shared}{env:Env}{value slice:Expr}{pos:Pos}{T id:String}{Q:Value->Shared->Prop}
  (hl:typeLookup (.type T) "__getitem__"=pure (some (.builtin id))) (hs:J8 slice)
  (h:wpAny (model prog w) A (eval value env) (fun o s₁=>wpAny (model prog w) A (eval slice env) (fun i s₂=>s₂.TypeIs o T/\wpAny (model prog w) A (getItem o i) Q E s₂) E s₁) E s):
  wpAny (model prog w) A (eval (.Subscript value slice pos) env) Q E s:=by
 refine Subscript_ (wpAny_mono h (fun o s₁ cy=>wpAny_mono cy (fun i s₂ ko=>?_) fun _ _ x=>x) fun _ _ x=>x);obtain⟨hT,ko⟩:=ko;unfold subscriptTail;refine zAt ?_;rw[getitemInPython_of_ne hT.not_modules];refine zAt (wpAny_specialOf hT hl ?_)
 have fin:wpAny (model prog w) A (subscripted slice false o i) (fun r s₃=>wpAny (model prog w) A (letTemporaryGo value o r>>=fun _=>pure r) Q E s₃) E s₂:=by
  rw[hs o i];exact wpAny_operating (wpAny_mono ko (fun r s₃ mx=>zAt (wpAny_letTemporaryGo (zAv mx))) fun _ _ x=>x)
 first
  |exact zAv (zAt fin)
  |exact zAt (zAv (zAt fin))
  |exact zAt fin
theorem tH{X:Cx}{Zt:List (Addr×Obj)}{σ:St}{H:Hp}{s:Shared}{a:Addr}{y:V}{o:Option V}(I:Inv X Zt σ H s)(g:DGet H a y o):s.TypeIs (.ref a) "dict":=by
 rcases g with⟨Zs,k,e,_,_⟩|⟨Zs,k,b,e,_,_,_⟩
 .obtain⟨_,_,vs,_,dd⟩:=oX I.hok e;exact dd.typeIs
 .obtain⟨_,_,xs,_,dd⟩:=oY I.hok e;exact dd.typeIs
def J9(td ty:TE):TE:=fun σ H Q=>td σ H fun x H1=>ty σ H1 fun y H2=>∃a v,x=.ref a/\DGet H2 a y (some v)/\Q v H2
def Ds(ty td:TE):TE:=fun σ H Q=>ty σ H fun y H1=>td σ H1 fun x H2=>∃a o,x=.ref a/\DGet H2 a y o/\Q (.bl (!o.isSome)) H2
def Ja(td ty tv:TE):TS:=fun D σ H=>tv σ H fun v H1=>td σ H1 fun x H2=>ty σ H2 fun y H3=>∃a H4,x=.ref a/\DPut H3 a y v H4/\D.nx σ H4
section
variable{X:Cx}{o i e value:Expr}{pos pos' qo:Pos}{td ty tv:TE}
theorem j8(hu:X.A.units+1<cLine)(ho:PE X o td)(hi:PE X i ty)(hs:J8 i):PE X (.Subscript o i pos) (J9 td ty):=by
 intro Zt s σ H Q I h;refine Dq PySem.F.slot_dict_getitem.lookup hs (thn (ho Zt s σ H _ I h) fun u s1 ⟨x,H1,I1,rx,q1⟩=>thn (hi Zt s1 σ H1 _ I1 q1) fun iv s2=>?_);rintro⟨y,H2,I2,ry,a,v,ex,g,q2⟩;subst ex;obtain rfl:u=Value.ref a:=rx;exact⟨tH I2 g,yh hu I2 g ry fun w' s3 I3 de=>⟨v,H2,I3,de,q2⟩⟩
theorem yl(hu:X.A.units+1<cLine)(hi:PE X i ty)(ho:PE X o td):PC X .NotIn i o (Ds ty td):=by
 intro Zt s σ H Q I h;refine thn (hi Zt s σ H _ I h) fun iv s1 ⟨y,H1,I1,ry,q1⟩=>thn (ho Zt s1 σ H1 _ I1 q1) fun u s2=>?_;rintro⟨x,H2,I2,rx,a,ov,ex,g,q2⟩;subst ex;obtain rfl:u=Value.ref a:=rx
 exact Dp hu I2 g ry fun s3 I3=>⟨.bl (!ov.isSome),H2,I3,rfl,q2⟩
theorem Dt(hu:X.A.units+1<cLine)(ho:PE X o td)(hi:PE X i ty)(hv:PE X value tv)(hs:swapsWith value (some (.Subscript o i pos')) pos.line X.env=pure false):
  PS X (.Assign [.Subscript o i pos'] value pos) (Ja td ty tv):=by
 intro Zt s σ H D I h;refine wpAny_Assign_Subscript (thn (hv Zt s σ H _ I h) fun r s1 ⟨v,H1,I1,rv,q1⟩=>thn (ho Zt s1 σ H1 _ I1 q1) fun u s2 ⟨x,H2,I2,rx,q2⟩=>thn (hi Zt s2 σ H2 _ I2 q2) fun iv s3=>?_) hs;rintro⟨y,H3,I3,ry,a,H4,ex,g,q3⟩;subst ex;obtain rfl:u=Value.ref a:=rx
 exact yj hu I3 g ry rv fun s4 I4=>⟨σ,H4,I4,q3⟩
end
theorem tK{P:Program}{w:World}{H:Hp}(h:Heap)(hb:sysModules<h.objs.size):ObjOk P w H (h.push {cls:=.type "dict",data:=.dict #[]}) h.objs.size (.dT []):=
 ⟨zAp _,beq_eq_false_iff_ne.mpr (Ne.symm (zB8 hb)),[],.nil,_,#[],0,zB2 _ rfl,⟨rfl,rfl,rfl⟩,rfl,rfl,List.nodup_nil⟩
def GZ:TE:=fun _ H Q=>∀p,H p=none->Q (.ref p) (upd H p (.dT []))
section
variable{X:Cx}{pos:Pos}
theorem zF:PE X (.Dict [] [] pos) GZ:=fun Zt s σ H Q I h=>
 wpAny_Dict_empty ⟨.ref s.heap.objs.size,_,I.laid (a:=s.heap.objs.size) (o:=.dT []) (t':=s.toks) (fun _ _ q=>zAw _ q) (zA3 _) (tK s.heap I.big),rfl,h _ (I.hok.fresh (zA3 _))⟩
end
structure M2(X:Cx)(o:Expr)(m:Str)(apos:Pos)(e f:Expr)(bX:Pos):Prop where
 base:attributeBase o m X.env (eval o X.env)=eval o X.env
 few:((backTo bX (starEach [e,f] X.env)).all (fun x=>!x.1)&&(backToKw bX (keywordEach [] X.env)).all (fun x=>x.1.isSome)
  && decide (([e,f]:List Expr).length+([]:List Keyword).length+(if([]:List Keyword).isEmpty then 0 else 1)<30))=true
 line:(apos.endLine==bX.line)=true
 trees:backTo bX (starEach [e,f] X.env)=[(false,eval e X.env),(false,eval f X.env)]
def IsD(H:Hp)(a:Addr):Prop:=(∃Zs,Rd H a (.dK Zs))\/∃Zs,Rd H a (.dT Zs)
theorem Hf{X:Cx}{Zt:List (Addr×Obj)}{σ:St}{H:Hp}{s:Shared}{a:Addr}(I:Inv X Zt σ H s)(d:IsD H a):
  s.TypeIs (.ref a) "dict"/\(∀b,Value.ref a=.ref b->∃ob,s.heap.get? b=some ob/\ob.dict=none)/\(a==sysModules)=false:=by
 rcases d with⟨Zs,e⟩|⟨Zs,e⟩
 .obtain⟨_,hd,vs,_,dd⟩:=oX I.hok e;refine⟨dd.typeIs,fun b q=>?_,hd⟩;cases q;obtain⟨ob,_,_,h1,h2,_⟩:=dd;exact⟨ob,h1,h2.2.1⟩
 .obtain⟨_,hd,xs,_,dd⟩:=oY I.hok e;refine⟨dd.typeIs,fun b q=>?_,hd⟩;cases q;obtain⟨ob,_,_,h1,h2,_⟩:=dd;exact⟨ob,h1,h2.2.1⟩
section
variable{X:Cx}{Zt:List (Addr×Obj)}{σ:St}{H:Hp}{s:Shared}{a:Addr}{y d:V}{u r:Value}{o:Option V}{A:Around}{E:Value->Shared->Prop}
theorem Hg{Q:Value->Shared->Prop}(hu:A.units+1<cLine)(I:Inv X Zt σ H s)(g:DGet H a y o)(ry:RelV y u)(rd:RelV d r)(h:∀w' s',Inv X Zt σ H s'->RelV (o.getD d) w'->Q w' s'):
  wpAny (model X.prog X.w) A (call (.builtin "dict.get") [.ref a,u,r]) Q E s:=by
 rcases g with⟨Zs,k,e,ey,l⟩|⟨Zs,k,b,e,ey,eb,l⟩
 .subst ey;obtain⟨z,hd,vs,rel,dd⟩:=oX I.hok e;refine call_meetsIn PySem.F.slot_dict_get dd.typeIs PySem.F.entry_dict_get (PySem.F.args_dict_get_3 _ _ _) (meets_dict_get_default (aX X.prog X.w) a (tG ry) hd r) ⟨_,dd.mapOf,h _ _ (I.tok _) ?_⟩;rw[l];exact(rel.val k).getD rd
 .subst ey;cases(show u=Value.ref b from ry);obtain⟨z,hd,xs,rel,dd⟩:=oY I.hok e;refine call_meetsIn PySem.F.slot_dict_get dd.typeIs PySem.F.entry_dict_get (PySem.F.args_dict_get_3 _ _ _) (meetsH_dict_get_default (tupleKind (aX X.prog X.w)) a b hd r) ⟨tupleKind_room_in1 hu,k,xs,iM I.hok eb,dd,h _ _ (I.tok _) ?_⟩;rw[l];exact(rel.val k).getD rd
end
def Hh(td ty tx:TE):TE:=fun σ H Q=>td σ H fun x H1=>∃a,x=.ref a/\IsD H1 a/\ty σ H1 fun y H2=>tx σ H2 fun z H3=>∃o,DGet H3 a y o/\Q (o.getD z) H3
section
variable{X:Cx}{o e f:Expr}{apos bX:Pos}{td ty tx:TE}
theorem tL(hu:X.A.units+1<cLine)(ho:PE X o td)(he:PE X e ty)(hf:PE X f tx)(m:M2 X o "get" apos e f bX):PE X (.Call (.Attribute o "get" apos) [e,f] [] bX) (Hh td ty tx):=by
 intro Zt s σ H Q I h;refine wpAny_Call_method m.base m.few m.line PySem.F.plainAttrs_dict PySem.F.slot_dict_get PySem.F.type_dict_get (thn (ho Zt s σ H _ I h) fun u s1=>?_);rintro⟨x,H1,I1,rx,a,ex,d,q1⟩;subst ex;obtain rfl:u=Value.ref a:=rx;obtain⟨t1,t2,_⟩:=Hf I1 d;refine⟨t1,t2,?_⟩;rw[m.trees]
 refine Calls.callWith_builtin rfl (Calls.evalArgs_plain (Calls.spliced_cons (thn (he Zt s1 σ H1 _ I1 q1) fun iv s2 ⟨y,H2,I2,ry,q2⟩=>
  Calls.spliced_cons (thn (hf Zt s2 σ H2 _ I2 q2) fun fv s3 ⟨z,H3,I3,rz,ov,g,q3⟩=>Calls.spliced_nil ?_))))
 exact Hg hu I3 g ry rz fun w' s4 I4 de=>⟨_,H3,I4,de,q3⟩
end
section
variable{X:Cx}{Zt:List (Addr×Obj)}{σ:St}{H:Hp}{s:Shared}{a:Addr}{Zs:List (Key×V)}{A:Around}{E:Value->Shared->Prop}
end
section
variable{X:Cx}{Zt:List (Addr×Obj)}{σ:St}{H:Hp}{s:Shared}{a:Addr}{y:V}{u:Value}{A:Around}{E:Value->Shared->Prop}
end
def Du:Key->PyData
 |.inl i=>.int i
 |.inr x=>.str x
mutual
inductive IsTh(S:Addr->Prop)(H:Hp):V->PyData->Prop
 |non:IsTh S H .non .none
 |bl (b:Bool):IsTh S H (.bl b) (.bool b)
 |int (i:Int):IsTh S H (.int i) (.int i)
 |str (x:Str):IsTh S H (.str x) (.str x)
 |lst {a:Addr} {xs:List V} {ds:List PyData} (hs:S a) (e:H a=some (.lst xs)) (r:IsThs S H xs ds):IsTh S H (.ref a) (.list ds)
 |tup {a:Addr} {xs:List V} {ds:List PyData} (e:H a=some (.tup xs)) (r:IsThs S H xs ds):IsTh S H (.ref a) (.tuple ds)
 |dct {a:Addr} {ks:List (Key×Int)} (hs:S a) (e:H a=some (.dK (ks.map fun p=>(p.1,V.int p.2)))):IsTh S H (.ref a) (.dict (ks.map fun p=>(Du p.1,.int p.2)))
inductive IsThs(S:Addr->Prop)(H:Hp):List V->List PyData->Prop
 |nil:IsThs S H [] []
 |cons {v:V} {d:PyData} {vs:List V} {ds:List PyData} (h:IsTh S H v d) (t:IsThs S H vs ds):IsThs S H (v::vs) (d::ds)
end
section
variable{S S':Addr->Prop}{H H':Hp}
theorem IsThs.length:∀{vs:List V} {ds:List PyData},IsThs S H vs ds->vs.length=ds.length
 |_,_,.nil=>rfl
 |_,_,.cons _ t=>by rw[zAe,zAe,IsThs.length t]
theorem IsThs.get:∀{vs:List V} {ds:List PyData} {i:Nat} {v:V},IsThs S H vs ds->vs[i]?=some v->∃d,ds[i]?=some d/\IsTh S H v d
 |_,_,_,_,.nil,e=>by simp at e
 |_,_,0,_,.cons h _,e=>by simp at e;subst e;exact⟨_,rfl,h⟩
 |_,_,i+1,v,.cons _ t,e=>by
  obtain⟨d,h1,h2⟩:=IsThs.get (i:=i) (v:=v) t (by simpa using e);exact⟨d,by simpa using h1,h2⟩
theorem IsThs.append:∀{vs ws:List V} {ds es:List PyData},IsThs S H vs ds->IsThs S H ws es->IsThs S H (vs++ws) (ds++es)
 |_,_,_,_,.nil,s=>s
 |_,_,_,_,.cons h t,s=>.cons h (IsThs.append t s)
theorem IsThs.ints:∀(ns:List Int),IsThs S H (ns.map V.int) (ns.map PyData.int)
 |[]=>.nil
 |n::ns=>.cons (.int n) (IsThs.ints ns)
mutual
theorem IsTh.keep(ht:∀b xs,H b=some (.tup xs)->H' b=some (.tup xs))(hs:∀b o,S b->H b=some o->H' b=some o)(hS:∀b o,S b->H b=some o->S' b):∀{v:V} {d:PyData},IsTh S H v d->IsTh S' H' v d
 |_,_,.non=>.non
 |_,_,.bl b=>.bl b
 |_,_,.int i=>.int i
 |_,_,.str x=>.str x
 |_,_,.lst s e r=>.lst (hS _ _ s e) (hs _ _ s e) (IsThs.keep ht hs hS r)
 |_,_,.tup e r=>.tup (ht _ _ e) (IsThs.keep ht hs hS r)
 |_,_,.dct s e=>.dct (hS _ _ s e) (hs _ _ s e)
theorem IsThs.keep(ht:∀b xs,H b=some (.tup xs)->H' b=some (.tup xs))(hs:∀b o,S b->H b=some o->H' b=some o)(hS:∀b o,S b->H b=some o->S' b):∀{vs:List V} {ds:List PyData},IsThs S H vs ds->IsThs S' H' vs ds
 |_,_,.nil=>.nil
 |_,_,.cons h t=>.cons (IsTh.keep ht hs hS h) (IsThs.keep ht hs hS t)
end
def tyD:PyData->String
 |.none=>"NoneType"
 |.bool _=>"bool"
 |.int _=>"int"
 |.str _=>"str"
 |.list _=>"list"
 |.tuple _=>"tuple"
 |.dict _=>"dict"
theorem IsTh.ty{K:Frag}{v:V}{d:PyData}(h:IsTh S H v d):TyOf K H v (.type (tyD d)):=by
 cases h with
 |non=>exact .non
 |bl b=>exact .bl b
 |int i=>exact .int i
 |str x=>exact .str x
 |lst s e r=>exact .lst e
 |tup e r=>exact .tup e
 |dct s e=>exact .dK e
def qM:PyData->Bool
 |.int _=>true
 |.bool _=>true
 |_=>false
def qN:PyData->Bool
 |.bool _=>true
 |_=>false
def qO:PyData->Bool
 |.tuple _=>true
 |_=>false
theorem Dv{K:Frag}(d:PyData):PySem.W.kitOne K (.type (tyD d)) (.type "int")=some (qM d):=by
 cases d
 .exact jt
 .exact qG
 .exact sZ
 .exact tD
 .exact qJ
 .exact nJ
 .exact qK
theorem zG{K:Frag}(d:PyData):PySem.W.kitOne K (.type (tyD d)) (.type "bool")=some (qN d):=by
 cases d
 .exact j7
 .exact nC
 .exact qH
 .exact qI
 .exact nH
 .exact lD
 .exact nM
theorem Dw{K:Frag}(d:PyData):PySem.W.kitOne K (.type (tyD d)) (.type "tuple")=some (qO d):=by
 cases d
 .exact iK
 .exact lB
 .exact nF
 .exact nG
 .exact lC
 .exact jO
 .exact lE
end
mutual
def sz:PyData->Nat
 |.none=>1
 |.bool _=>1
 |.int _=>1
 |.str _=>1
 |.list xs=>1+szs xs
 |.tuple xs=>1+szs xs
 |.dict Zs=>1+4*Zs.length
def szs:List PyData->Nat
 |[]=>0
 |x::xs=>sz x+szs xs
end
section
variable{X:Cx}{Zt:List (Addr×Obj)}{σ:St}{H:Hp}{s:Shared}{S:Addr->Prop}
theorem lG{P:Program}{w:World}:∀{ks:List (Key×Int)} {vs:List (Key×Value)} {es:List DictEntry},KV (ks.map fun p=>(p.1,V.int p.2)) vs->Pairs (aX P w) es vs->
  (∃as,ReadsAll s.heap (es.map (·.key)) ((ks.map fun p=>(Du p.1,PyData.int p.2)).map (·.1)) as/\as=[])/\∃as,ReadsAll s.heap (es.map (·.val)) ((ks.map fun p=>(Du p.1,PyData.int p.2)).map (·.2)) as/\as=[]
 |[],vs,es,r,p=>by
  cases r;cases p;exact⟨⟨_,.nil,rfl⟩,⟨_,.nil,rfl⟩⟩
 | (k,n)::ks,vs,es,r,p=>by
  cases r with
  |@cons a b l1 l2 h t=>
   cases p with
   |@cons e kv dE kvs' h1 h2 h3=>
    obtain⟨⟨_,i1,rfl⟩,⟨_,i2,rfl⟩⟩:=lG (ks:=ks) t h3;obtain⟨q1,q2⟩:=h;have As:kh b.1 e.key=true:=h1;rw[<-q1]at As;obtain⟨tv,Nu⟩:∃t,b.2=Value.int n t:=q2;rw[Nu]at h2;refine⟨⟨_,?_,rfl⟩,⟨_,?_,rfl⟩⟩
    .show ReadsAll s.heap (e.key::dE.map (·.key)) (Du k::_) ([]++[]);rcases bO As with⟨i,tk,ei,ev⟩|⟨x,tk,ei,ev⟩
     .have ei:k=Sum.inl i:=ei;rw[ev,ei];exact .cons (.int _ _) i1
     .have ei:k=Sum.inr x:=ei;rw[ev,ei];exact .cons (.str _ _) i1
    .show ReadsAll s.heap (e.val::dE.map (·.val)) (PyData.int n::_) ([]++[]);rw[h2];exact .cons (.int _ _) i2
mutual
theorem IsTh.reads(I:Inv X Zt σ H s):∀{v:V} {d:PyData} {u:Value},IsTh S H v d->RelV v u->∃as,Reads s.heap u d as/\∀a∈as,S a
 |_,_,_,.non,r=>by cases(show _=Value.none from r);exact⟨[],.none,fun _ h=>nomatch h⟩
 |_,_,_,.bl b,r=>by cases(show _=Value.bool b from r);exact⟨[],.bool b,fun _ h=>nomatch h⟩
 |_,_,_,.int i,r=>by obtain⟨t,rfl⟩:=r;exact⟨[],.int i t,fun _ h=>nomatch h⟩
 |_,_,_,.str x,r=>by obtain⟨t,rfl⟩:=r;exact⟨[],.str x t,fun _ h=>nomatch h⟩
 |_,_,_,@IsTh.lst _ _ a xs ds hs e t,r=>by
  cases(show _=Value.ref a from r)
  obtain⟨_,Zr,n,rv,ho⟩:=(show ObjOk X.prog X.w H s.heap a (.lst xs)from I.hok a _ e)
  obtain⟨as,h1,h2⟩:=IsThs.reads I t rv;refine⟨a::as,.list ho rfl rfl (by simpa using h1),fun b hb=>?_⟩;rcases zAo.mp hb with z|z
  .rw[z];exact hs
  .exact h2 b z
 |_,_,_,@IsTh.tup _ _ a xs ds e t,r=>by
  cases(show _=Value.ref a from r)
  obtain⟨_,Zr,rv,o,ho,hc,n,hd⟩:=(show ObjOk X.prog X.w H s.heap a (.tup xs)from I.hok a _ e)
  obtain⟨as,h1,h2⟩:=IsThs.reads I t rv;exact⟨as,.tuple ho hc hd (by simpa using h1),h2⟩
 |_,_,_,@IsTh.dct _ _ a ks hs e,r=>by
  cases(show _=Value.ref a from r)
  obtain⟨_,_,vs,rel,o,es,ep,ho,hx,hd,_,hp,_⟩:=(show ObjOk X.prog X.w H s.heap a (.dK _)from I.hok a _ e)
  obtain⟨⟨_,i1,rfl⟩,⟨_,i2,rfl⟩⟩:=lG (s:=s) rel hp;refine⟨a::[]++[],.dict ho hx.1 hd i1 i2,fun b hb=>?_⟩;rw[show b=a by simpa using hb];exact hs
theorem IsThs.reads(I:Inv X Zt σ H s):∀{vs:List V} {ds:List PyData} {us:List Value},IsThs S H vs ds->Vals vs us->∃as,ReadsAll s.heap us ds as/\∀a∈as,S a
 |_,_,_,.nil,r=>by cases r;exact⟨[],.nil,fun _ h=>nomatch h⟩
 |_,_,_,.cons h t,r=>by
  cases r with
  |cons r1 r2=>
   obtain⟨as,h1,h2⟩:=IsTh.reads I h r1;obtain⟨bs,h3,h4⟩:=IsThs.reads I t r2;exact⟨as++bs,.cons h1 h3,fun b hb=>(zA6.mp hb).elim (h2 b) (h4 b)⟩
end
end
section
variable{X:Cx}
theorem yo(hu:X.A.units<cLine):OpR X (compareOp .Eq) (fun x y H Q=>∃a b xs,x=.ref a/\y=.ref b/\SqT X.K H a xs/\SqT X.K H b []/\Q (.bl xs.isEmpty) H):=by
 intro Zt s σ H x y v u Q I rx ry h;obtain⟨a,b,xs,rfl,rfl,ha,hb,q⟩:=h;cases rx;cases ry;obtain⟨Zr,r1,p1,_⟩:=I.tuple ha;obtain⟨bo,r2,p2,_⟩:=I.tuple hb;have e2:bo=[]:=r2.zero;subst e2;refine PySem.SeqAt.eq_tupleAt (e:=fun _=>true) p1 p2 hu (fun j h1 h2=>absurd h2 Zy) ?_
 have e3:((List.range (min Zr.toArray.size ([]:List Value).toArray.size)).all (fun _=>true)&&Zr.toArray.size==([]:List Value).toArray.size)=xs.isEmpty:=by
  have:=r1.length
  cases Zr with
  |nil=>
   cases r1;rfl
  |cons a r=>cases xs with
   |nil=>simp at this
   |cons b r'=>simp
 rw[e3];exact⟨.bl _,H,I,rfl,q⟩
end
section
variable{prog:Program}{w:World}{A:Around}{E:Value->Shared->Prop}{s:Shared}
theorem Hk{j t:Addr}{i:Nat}{Zr:Array Value}{x:Value}{Q:Value->Shared->Prop}(hj:s.heap.IsTupleIter j t i)(ht:s.heap.IsTuple t Zr)(hx:Zr[i]?=some x)
  (hQ:∀h',h'.IsTupleIter j t (i+1)->Heap.SameBut j s.heap h'->Q x {s with heap:=h'}):wpAny (model prog w) A (Builtin.SmallTypes.nextOf (.ref j)) Q E s:=by
 obtain⟨o,ho,hc,hd⟩:=id hj;obtain⟨p,hp,_,m,hm⟩:=ht;unfold Builtin.SmallTypes.nextOf;refine wpAny_bind (wpAny_callSpecial?_slot (name:=Str.ofString "__next__") hj.typeIs F.slot_tuple_iterator_next (wpAny_call_entry F.slot_tuple_iterator_next hj.typeIs F.entry_tuple_iterator_next ?_ (F.args_tuple_iterator_next_1 _)));show wpAny _ _ (field (.ref j) 0>>=_) _ _ s;refine wpAny_bind (wpAny_field ho hd (x:=.ref t) rfl ?_);show wpAny _ _ (if(Value.ref t==Value.none)=true then _ else _) _ _ s;rw[if_neg (show¬((Value.ref t==Value.none)=true) by intro z;exact zAg z)];show wpAny _ _ (field (.ref j) 1>>=_) _ _ s;refine wpAny_bind (wpAny_field ho hd (x:=.int i 0) rfl (wpAny_bind (wpAny_seqItems hp hm ?_)));simp only[Int.toNat_natCast,hx]
 refine wpAny_bind (wpAny_setField ho hd Zy (wpAny_pure ⟨x,rfl,wpAny_pure (hQ _ ⟨_,Heap.get?_update_self _ ho (Obj.isFreed_of_fields (Obj.data_mapFields hd _)),(Obj.cls_mapFields ..).trans hc,by
  rw[Obj.data_mapFields hd]
  simp[rawInt]⟩ (Heap.SameBut.update ..))⟩))
theorem v7{j t:Addr}{i:Nat}{Zr:Array Value}{Q:Value->Shared->Prop}(hh:A.handled=none)(hj:s.heap.IsTupleIter j t i)(ht:s.heap.IsTuple t Zr)(hx:Zr[i]?=none)
  (hE:∀h' e,Heap.ExtBut j s.heap h'->(∃o,h'.get? e=some o/\o.cls=.type "StopIteration")->E (.ref e) {s with heap:=h'}):wpAny (model prog w) A (Builtin.SmallTypes.nextOf (.ref j)) Q E s:=by
 obtain⟨o,ho,hc,hd⟩:=id hj;obtain⟨p,hp,_,m,hm⟩:=ht;unfold Builtin.SmallTypes.nextOf;refine wpAny_bind (wpAny_callSpecial?_slot (name:=Str.ofString "__next__") hj.typeIs F.slot_tuple_iterator_next (wpAny_call_entry F.slot_tuple_iterator_next hj.typeIs F.entry_tuple_iterator_next ?_ (F.args_tuple_iterator_next_1 _)));show wpAny _ _ (field (.ref j) 0>>=_) _ _ s;refine wpAny_bind (wpAny_field ho hd (x:=.ref t) rfl ?_);show wpAny _ _ (if(Value.ref t==Value.none)=true then _ else _) _ _ s;rw[if_neg (show¬((Value.ref t==Value.none)=true) by intro z;exact zAg z)];show wpAny _ _ (field (.ref j) 1>>=_) _ _ s;refine wpAny_bind (wpAny_field ho hd (x:=.int i 0) rfl (wpAny_bind (wpAny_seqItems hp hm ?_)));simp only[Int.toNat_natCast,hx];refine wpAny_bind (wpAny_rule (wpAny_bind (wpAny_setField ho hd Zy ?_)));show wpAny _ _ (newExc (.type "StopIteration") []>>=_) _ _ _;refine wpAny_bind ?_;simp only[newExc,newTuple];refine wpAny_bind (wpAny_newObj_type (wpAny_bind (m:=firstArgMember _ _) (wpAny_of_eq (a:=Value.none) (by first|rfl | (simp only[firstArgMember];rfl)) (wpAny_newObj_type ?_ (by size_fits)))) (by size_fits));simp only[raiseNew];refine wpAny_bind (wpAny_handled ?_)
 first
  |rw[show A.in1.handled=none from hh]
  |rw[hh]
 exact zAt (zAv (wpAny_throw (hE _ _ (((Heap.SameBut.update ..).extBut.push _).push _) ⟨_,zB2 _ rfl,rfl⟩)))
end
section
variable{X:Cx}
end
theorem IsTh.same{S:Addr->Prop}{H H':Hp}{v:V}{d:PyData}(h:IsTh S H v d)(s:Same H H'):IsTh S H' v d:=h.keep (fun b xs e=>s b _ e) (fun b o _ e=>s b o e) fun _ _ z _=>z
theorem IsThs.same{S:Addr->Prop}{H H':Hp}{v:List V}{d:List PyData}(h:IsThs S H v d)(s:Same H H'):IsThs S H' v d:=h.keep (fun b xs e=>s b _ e) (fun b o _ e=>s b o e) fun _ _ z _=>z
theorem Same.upd{H:Hp}{D:Addr}{o:HO}(h:H D=none):Same H (upd H D o):=fun b u e=>by rw[aA (aC e h)];exact e
theorem Same.updR{H H':Hp}{D:Addr}{o:HO}(s:Same H H')(h:H' D=none):Same H (L2.upd H' D o):=s.trans (Same.upd h)
theorem tM{K:Frag}{S:Addr->Prop}{te:TE}{a:Addr}{xs:List V}{ds:List PyData}(f:PyData->Bool){cS:St}{j:Nat}{H0:Hp}{Fin:List V->Hp->Prop}(hT:H0 a=some (.tup xs))(th:IsThs S H0 xs ds)(hl:xs.length<sizeLine)
  (Au:∀v d H Q,d∈ds->Same H0 H->IsTh S H v d->(∀H',Same H H'->Q (.bl (f d)) H')->te (cS.set j (some v)) H Q)
  (fin:∀H',Same H0 H'->Fin (ds.map fun d=>V.bl (f d)) H'):lw (Itt K a) (bu j) uX te Fin cS H0:=by
 have hlen:=th.length;refine⟨fun i m ys σ H=>m=xs.length-i/\i<=xs.length/\ys=(ds.take i).map (fun d=>V.bl (f d))/\(∀o,σ.set j o=cS.set j o)/\Same H0 H,⟨_,rfl,zAp _,rfl,fun _=>rfl,Same.refl _⟩,?_⟩;rintro i m ys σ H ⟨rfl,hi,rfl,oI,hs⟩;have sq:SqT K H a xs:=SqT.of (hs _ _ hT);refine⟨by rw[zA1,zAd];lia,?_⟩;by_cases ay:i<xs.length
 .refine .inr ⟨⟨xs,xs[i],sq,by simp[ay]⟩,fun x H' y=>?_⟩;obtain⟨e,y⟩:=y;subst e;have hx:=y xs sq;obtain⟨d,hd,ht⟩:=(th.same hs).get hx;show te (σ.set j (some x)) H' _;rw[oI]
  refine Au x d H' _ (zB4 hd) hs ht fun H2 s2=>⟨xs.length-(i+1),Zz,rfl,ay,?_,fun o=>by rw[List.set_set],hs.trans s2⟩
  rw[zAj,hd];simp
 .have e:i=xs.length:=Zz
  subst e;refine .inl ⟨⟨xs,sq,zA3 _⟩,?_⟩;rw[hlen,zAm];exact fin H hs
theorem zH{ds:List PyData}{f:PyData->Bool}:ds.map (fun d=>V.bl (f d))=(ds.map f).map V.bl:=by rw[zAr];rfl
theorem Hl{ds:List PyData}{f:PyData->Bool}:(ds.map f).all id=ds.all f:=by rw[List.all_map];rfl
section
variable{X:Cx}{es:List Expr}{t:TA}{pos:Pos}
end
section
variable{X:Cx}{a b c d:Expr}{ta tb tc td:TE}{pos:Pos}
def wC(r r' Ct:R2)(ta tb tc td:TE):TE:=fun σ H Q=>ta σ H fun x H1=>tb σ H1 fun y H2=>r x y H2 fun z H3=>∃k,z=.bl k /\
 (if k=true then tc σ H3 fun x2 H4=>r' y x2 H4 fun z2 H5=>∃k2,z2=.bl k2/\(if k2=true then td σ H5 fun x3 H6=>Ct x2 x3 H6 Q else Q (.bl false) H5)else Q (.bl false) H3)
theorem yp{o1 o2 o3:CmpOp}{r r' Ct:R2}(h1:OpR X (compareOp o1) r)(h2:OpR X (compareOp o2) r')(h3:OpR X (compareOp o3) Ct)(ha:PE X a ta)(hb:PE X b tb)(hc:PE X c tc)(hd:PE X d td)
  (hm:lastMarks [o1,o2,o3] [b,c,d]=false:=by with_unfolding_all rfl):PE X (.Compare a [o1,o2,o3] [b,c,d] pos) (wC r r' Ct ta tb tc td):=by
 intro Zt s σ H Q I h
 refine Compare_chain (thn (ha Zt s σ H _ I h) fun v s1 ⟨x,H1,I1,r1,q1⟩=>chain_link (thn (hb Zt s1 σ H1 _ I1 q1) fun u s2 ⟨y,H2,I2,r2,q2⟩=>
  thn (h1 Zt s2 σ H2 x y v u _ I2 r1 r2 q2) fun g s3 ⟨z,H3,I3,r3,k,e,q3⟩=>?_)) hm
 subst e;cases r3;refine wpAny_truthy_bool ?_
 cases k with
 |false=>exact ite_ff ⟨.bl false,H3,I3,rfl,q3⟩
 |true=>
  refine ite_tt (chain_link (thn (hc Zt s3 σ H3 _ I3 q3) fun w' s4 ⟨z',H4,I4,r4,q4⟩=>thn (h2 Zt s4 σ H4 y z' u w' _ I4 r2 r4 q4) fun g2 s5=>?_));rintro⟨z5,H5,I5,r5,k2,e2,q5⟩;subst e2;cases r5;refine wpAny_truthy_bool ?_
  cases k2 with
  |false=>exact ite_ff ⟨.bl false,H5,I5,rfl,q5⟩
  |true=>exact ite_tt (chain_last (thn (hd Zt s5 σ H5 _ I5 q5) fun w6 s6=>by rintro⟨z6,H6,I6,r6,q6⟩;exact h3 Zt s6 σ H6 z' z6 w' w6 Q I6 r4 r6 q6))
end
def Ev(σ:St)(H:Hp)(t:TE)(v:V):Prop:=∀Q:VK,Q v H->t σ H Q
section
variable{σ:St}{H:Hp}{ta tb tc td:TE}
theorem gh{v:V}:Ev σ H (tC v) v:=fun _ h=>h
theorem f9{i:Nat}{v:V}(h:σ[i]?=some (some v)):Ev σ H (CW i) v:=fun _ q=>⟨v,h,q⟩
theorem cD{p q:Int->Int->Bool}{i j k:Int}(a:Ev σ H ta (.int i))(b:Ev σ H tb (.int j))(c:Ev σ H tc (.int k)):
  Ev σ H (uR (rI0 fun i j=>.bl (p i j)) (rI0 fun i j=>.bl (q i j)) ta tb tc) (.bl (p i j&&q j k)):=fun Q h=>a _ (b _ ⟨i,j,rfl,rfl,_,rfl,by
 cases e:p i j with
 |false=>
  rw[e]at h;exact bD h
 |true=>
  rw[e]at h
  exact bQ (c _ ⟨j,k,rfl,rfl,h⟩)⟩)
theorem yq{p q r:Int->Int->Bool}{i j k l:Int}(a:Ev σ H ta (.int i))(b:Ev σ H tb (.int j))(c:Ev σ H tc (.int k))(d:Ev σ H td (.int l)):
  Ev σ H (wC (rI0 fun i j=>.bl (p i j)) (rI0 fun i j=>.bl (q i j)) (rI0 fun i j=>.bl (r i j)) ta tb tc td) (.bl (p i j&&(q j k&&r k l))):=fun Q h=>a _ (b _ ⟨i,j,rfl,rfl,_,rfl,by
 cases e:p i j with
 |false=>
  rw[e]at h;exact bD h
 |true=>
  rw[e]at h;refine bQ (c _ ⟨j,k,rfl,rfl,_,rfl,?_⟩)
  cases e2:q j k with
  |false=>
   rw[e2]at h;exact bD h
  |true=>
   rw[e2]at h
   exact bQ (d _ ⟨k,l,rfl,rfl,h⟩)⟩)
theorem gO{b c:Bool}(x:Ev σ H ta (.bl b))(y:b=true->Ev σ H tb (.bl c)):Ev σ H (Fz ta tb) (.bl (b&&c)):=fun Q h=>x _ ⟨b,rfl,by
 cases e:b with
 |false=>
  rw[e]at h;exact bD h
 |true=>
  rw[e]at h
  exact bQ (y e _ h)⟩
end
structure Plain(e:Expr):Prop where
 eq:∀(es:List Expr) (env:Env),starEach (e::es) env=(false,eval e env)::starEach es env
theorem gP{c j p}:Plain (.Constant c j p):=⟨fun _ _=>rfl⟩
theorem iR{x p}:Plain (.Name x p):=⟨fun _ _=>rfl⟩
theorem gQ{es k p}:Plain (.Tuple es k p):=⟨fun _ _=>rfl⟩
theorem iT{es p}:Plain (.List es p):=⟨fun _ _=>rfl⟩
theorem iU{f as ks p}:Plain (.Call f as ks p):=⟨fun _ _=>rfl⟩
theorem plain_bin{a o b p}:Plain (.BinOp a o b p):=⟨fun _ _=>rfl⟩
theorem lH{o a p}:Plain (.UnaryOp o a p):=⟨fun _ _=>rfl⟩
theorem ju{a b p}:Plain (.Subscript a b p):=⟨fun _ _=>rfl⟩
theorem iV{a b c p}:Plain (.ListComp a b c p):=⟨fun _ _=>rfl⟩
theorem jw{a b c p}:Plain (.Compare a b c p):=⟨fun _ _=>rfl⟩
section
variable{X:Cx}{e:Expr}{es:List Expr}{te:TE}{t:TA}
theorem au(ha:PE X e te)(hr:PA X es t)(hp:Plain e:=by first|exact iR|exact gP|exact iU|exact gQ|exact iT|exact plain_bin|exact ju|exact lH|exact plain_dict|exact iV|exact jw):PA X (e::es) (sV te t):=
 aP ha hr (hp.eq _ _)
end
structure AA(X:Cx)(es:List Expr)(t:TA):Prop where
 run:PA X es t
section
variable{X:Cx}{e:Expr}{es:List Expr}{te:TE}{t:TA}{pos:Pos}
theorem fH:AA X [] Gy:=⟨ao⟩
theorem Dy(ha:PE X e te)(hr:AA X es t)(hp:Plain e:=by first|exact iR|exact gP|exact iU|exact gQ|exact iT|exact plain_bin|exact ju|exact lH|exact plain_dict|exact iV|exact jw):AA X (e::es) (sV te t):=
 ⟨aP ha hr.run (hp.eq _ _)⟩
theorem wF{x1}(h:AA X es t):PE X (.Tuple es x1 pos) (Gz t):=bB h.run
theorem Dz(h:AA X es t):PE X (.List es pos) (Dg t):=dw h.run
end
inductive IsInts:List Expr->List Int->Prop
 |nil:IsInts [] []
 |cons {i:Int} {j:Nat} {p:Pos} {es:List Expr} {is:List Int}:IsInts es is->IsInts (.Constant (.int i) j p::es) (i::is)
def G5(is:List Int):TA:=fun _ H Q=>Q (is.map V.int) H
theorem jW{X:Cx}:∀{es:List Expr} {is:List Int},IsInts es is->PA X es (G5 is)
 |_,_,.nil=>fun _ _ _ _ H Q I h=>Calls.spliced_nil ⟨[],H,I,.nil,h⟩
 |_,_,@IsInts.cons i j p es is r=>by
  have h:=au (X:=X) (az (i:=i) (j:=j) (pos:=p)) (jW r);exact h
theorem cR{X:Cx}{es:List Expr}{k:Nat}{pos:Pos}{t:TGs}{K:Frag}{n:Nat}(hK:X.K=K)(hc:X.calm=true)(h:PGs X es t)(hn:(assignEach es X.env).length=n:=by rfl)(gi:(assignEach es X.env).findIdx? (·.1)=none:=by rfl):
  PG X (.Tuple es k pos) (j6 K n t):=by
 subst hK;exact bL hc h hn gi
structure BE(X:Cx)(e:Expr)(t:TE):Prop where
 run:PE X e t
section
variable{X:Cx}{e:Expr}{es:List Expr}{te:TE}{t:TA}{pos:Pos}
theorem gj(ha:BE X e te)(hr:AA X es t)(hp:Plain e:=by first|exact iR|exact gP|exact iU|exact gQ|exact iT|exact plain_bin|exact ju|exact lH|exact plain_dict|exact iV|exact jw):AA X (e::es) (sV te t):=Dy ha.run hr hp
theorem G6(h:BE X e te):PE X e te:=h.run
theorem Hm{i:Int}{j}:BE X (.Constant (.int i) j pos) (tC (.int i)):=⟨az⟩
theorem Jb{b:Bool}{j}:BE X (.Constant (.bool b) j pos) (tC (.bl b)):=⟨jG⟩
theorem v8{x1}(h:AA X es t):BE X (.Tuple es x1 pos) (Gz t):=⟨bB h.run⟩
theorem qP(h:AA X es t):BE X (.List es pos) (Dg t):=⟨dw h.run⟩
end
structure BS(X:Cx)(st:Stmt)(t:TS):Prop where
 run:PS X st t
structure BSs(X:Cx)(DD:List Stmt)(t:TS):Prop where
 run:PSs X DD t
section
variable{X:Cx}{st:Stmt}{rest:List Stmt}{t u:TS}{pos:Pos}
theorem jJ(h:BSs X rest t):PSs X rest t:=h.run
theorem aN(h1:BS X st t)(h2:BSs X rest u):BSs X (st::rest) (CZ t u):=⟨aB h1.run h2.run⟩
theorem cG(h1:BS X st t):BSs X [st] t:=⟨aD h1.run⟩
theorem qQ{i:Nat}{x:Str}{e:Expr}{te:TE}{pos':Pos}(hN:X.N.Nodup)(hi:X.N[i]?=some x)(hx:Loc X.env.scope x)(he:BE X e te)(hs:swapsWith e (some (.Name x pos')) pos.line X.env=pure false:=by rfl)(hf:X.fn x=true\/X.env.scope.names.lookup x=some .local:=by first|exact .inl rfl|exact .inr rfl|assumption):
  BS X (.Assign [.Name x pos'] e pos) (xV te (bu i)):=⟨qu hN hi hx he.run hs hf⟩
theorem qR{e:Expr}{te:TE}(he:BE X e te):BS X (.Return (some e) pos) (Gr te):=⟨aQ he.run⟩
theorem G7{op:Operator}{r:R2}{a b:Expr}{ta tb:TE}(ho:OpR X (binaryOp op) r)(ha:BE X a ta)(hb:BE X b tb):BE X (.BinOp a op b pos) (tOp r ta tb):=⟨aW ho ha.run hb.run⟩
theorem zJ{r:R2}{a b:Expr}{ta tb:TE}(hr:IxR X r)(ha:BE X a ta)(hb:BE X b tb)(hs:qz b):BE X (.Subscript a b pos) (tOp r ta tb):=⟨FW hr ha.run hb.run hs⟩
end
theorem pgn{X:Cx}{x:Str}{pos:Pos}(i:Nat)(hN:X.N.Nodup)(hi:X.N[i]?=some x:=by rfl)(hx:Loc X.env.scope x:=by exact Or.inl rfl)(hf:X.fn x=true\/X.env.scope.names.lookup x=some .local:=by first|exact .inl rfl|exact .inr rfl):PG X (.Name x pos) (bu i):=bw hN hi hx hf
theorem pss{X:Cx}{x:Str}{pos pos':Pos}{e:Expr}{te:TE}(i:Nat)(hN:X.N.Nodup)(he:PE X e te)(hi:X.N[i]?=some x:=by rfl)(hx:Loc X.env.scope x:=by exact Or.inl rfl)(hs:swapsWith e (some (.Name x pos')) pos.line X.env=pure false:=by rfl)(hf:X.fn x=true\/X.env.scope.names.lookup x=some .local:=by first|exact .inl rfl|exact .inr rfl):PS X (.Assign [.Name x pos'] e pos) (xV te (bu i)):=qu hN hi hx he hs hf
theorem iG{X:Cx}{x:Str}{pos pos':Pos}{e:Expr}{te:TE}(i:Nat)(hN:X.N.Nodup)(he:BE X e te)(hi:X.N[i]?=some x:=by rfl)(hx:Loc X.env.scope x:=by exact Or.inl rfl)(hs:swapsWith e (some (.Name x pos')) pos.line X.env=pure false:=by rfl)(hf:X.fn x=true\/X.env.scope.names.lookup x=some .local:=by first|exact .inl rfl|exact .inr rfl):BS X (.Assign [.Name x pos'] e pos) (xV te (bu i)):=qQ hN hi hx he hs hf
theorem pX{X:Cx}{r:R2}{a b:Expr}{ta tb:TE}{pos:Pos}(hr:IxR X r)(ha:PE X a ta)(hb:PE X b tb)(hs:qz b:=by exact fun _ _=>rfl):PE X (.Subscript a b pos) (tOp r ta tb):=FW hr ha hb hs
theorem zL{n:Nat}(h:Nat.ble n 1000=true:=by rfl):n<=sizeLine:=Nat.le_trans (Nat.le_of_ble_eq_true h) Zx
theorem cI{X:Cx}{aS:Env}{x:Str}{i:Nat}{N:List Str}{r:List (Option Nat)}(h:Caps X aS N r)(h1:X.N[i]?=some x:=by rfl)(h2:X.env.kindOf x=some .cell:=by rfl)(h3:aS.cells.lookup x=X.env.cells.lookup x:=by rfl)(h4:aS.kindOf x=some .cell:=by rfl):Caps X aS (x::N) (some i::r):=⟨⟨h1,.inl h2,h3,.inl h4⟩,h⟩
theorem fQS{N P:List Str}{sc:Scope}(h1:sc.kind=.function:=by rfl)(h2:sc.isCoroutine=false:=by rfl)(h3:sc.isGenerator=false:=by rfl)(h4:N.Nodup:=by decide +kernel)(h5:N.take P.length=P:=by rfl)(h6:∀x∈P,sc.names.lookup x=some .local\/sc.names.lookup x=some .cell:=by decide +kernel)(h7:∀y∈sc.names,y.2≠.free:=by decide +kernel):FnScope N P sc:=⟨h1,h2,h3,h4,h5,h6,h7⟩
section
variable{X:Cx}{es:List Expr}{t:TA}{pos:Pos}
end
section
variable{S:Addr->Prop}{σ:St}{H:Hp}
end
section
variable{D:Ends}{σ:St}{H:Hp}{t u:TS}{te:TE}{ta:TA}{g:TG}{Q:VK}
theorem dM(h:D.nx σ H):FJ D σ H:=h
theorem aF(h:t {D with nx:=u D} σ H):CZ t u D σ H:=h
theorem cT(h:∀c:St->Hp->Prop,(∀ah H',u D ah H'->c ah H')->t {D with nx:=c} σ H):CZ t u D σ H:=h (u D) fun _ _ z=>z
theorem aR(h:te σ H fun x H1=>g x σ H1 D.nx):xV te g D σ H:=h
theorem lJ(h:te σ H D.rt):Gr te D σ H:=h
theorem aM{i:Nat}{v:V}{R:St->Hp->Prop}(h:R (σ.set i (some v)) H):bu i v σ H R:=h
end
end L2
namespace L2.ZT
open PySem PySem.Spec PyProof.Rows L2
def nm(t:Bool):String:=match t with|true=>"tuple_iterator"|false=>"list_iterator"
def tn(t:Bool):String:=match t with|true=>"tuple"|false=>"list"
def Io(t:Bool)(h:Heap)(a l:Addr)(i:Nat):Prop:=∃o,h.get? a=some o/\o.cls=.type (nm t)/\o.data=.fields #[.ref l,.int i 0]
def Sq(t:Bool)(h:Heap)(a:Addr)(items:Array Value):Prop:=∃o,h.get? a=some o/\o.cls=.type (tn t)/\∃n,o.data=.seq items n
def SQ(t:Bool)(K:Frag)(H:Hp)(a:Addr)(xs:List V):Prop:=match t with|true=>SqT K H a xs|false=>SqL K H a xs
theorem Io.at{t:Bool}{h h':Heap}{a l:Addr}{i:Nat}(x:Io t h a l i)(e:∀o,h.get? a=some o->h'.get? a=some o):Io t h' a l i:=by obtain⟨o,ho,r⟩:=x;exact⟨o,e _ ho,r⟩
theorem Io.extBut{t:Bool}{h h':Heap}{a b l:Addr}{i:Nat}(x:Io t h a l i)(e:Heap.ExtBut b h h')(n:a≠b):Io t h' a l i:=x.at fun o q=>e _ _ n q
theorem Sq.at{t:Bool}{h h':Heap}{a:Addr}{xs:Array Value}(x:Sq t h a xs)(e:∀o,h.get? a=some o->h'.get? a=some o):Sq t h' a xs:=by obtain⟨o,ho,r⟩:=x;exact⟨o,e _ ho,r⟩
theorem Sq.extBut{t:Bool}{h h':Heap}{a b:Addr}{xs:Array Value}(x:Sq t h a xs)(e:Heap.ExtBut b h h')(n:a≠b):Sq t h' a xs:=x.at fun o q=>e _ _ n q
theorem jK{t:Bool}{X:Cx}{Zt:List (Addr×Obj)}{σ:St}{H:Hp}{s:Shared}{a:Addr}{xs:List V}(I:Inv X Zt σ H s)(h:SQ t X.K H a xs):∃Zr:List Value,Vals xs Zr/\Sq t s.heap a Zr.toArray/\xs.length<=sizeLine:=by
 cases t
 .obtain⟨Zr,r,p,z⟩:=I.list h;exact⟨Zr,r,p.isList,z⟩
 .exact I.tuple h
theorem v9{t:Bool}{X:Cx}{Zt:List (Addr×Obj)}{σ:St}{H:Hp}{s:Shared}{a:Addr}{xs ys:List V}(I:Inv X Zt σ H s)(h:SQ t X.K H a xs)(h':SQ t X.K H a ys):xs=ys:=by
 cases t
 .exact I.list_inj h h'
 .exact I.tuple_inj h h'
section
variable{prog:Program}{w:World}{A:Around}{E:Value->Shared->Prop}{s:Shared}
theorem nx{t:Bool}{j l:Addr}{i:Nat}{Zr:Array Value}{x:Value}{Q:Value->Shared->Prop}(hj:Io t s.heap j l i)(ht:Sq t s.heap l Zr)(hx:Zr[i]?=some x)
  (hQ:∀h',Io t h' j l (i+1)->Heap.SameBut j s.heap h'->Q x {s with heap:=h'}):wpAny (model prog w) A (Builtin.SmallTypes.nextOf (.ref j)) Q E s:=by
 cases t
 .exact wpAny_nextOf_list_item hj ht hx hQ
 .exact Hk hj ht hx hQ
theorem vd{t:Bool}{j l:Addr}{i:Nat}{Zr:Array Value}{Q:Value->Shared->Prop}(hh:A.handled=none)(hj:Io t s.heap j l i)(ht:Sq t s.heap l Zr)(hx:Zr[i]?=none)
  (hE:∀h' e,Heap.ExtBut j s.heap h'->(∃o,h'.get? e=some o/\o.cls=.type "StopIteration")->E (.ref e) {s with heap:=h'}):wpAny (model prog w) A (Builtin.SmallTypes.nextOf (.ref j)) Q E s:=by
 cases t
 .exact wpAny_nextOf_list_end hh hj ht hx hE
 .exact v7 hh hj ht hx hE
theorem lK{t:Bool}{l:Addr}{Zr:Array Value}{Q:Value->Shared->Prop}(hl:Sq t s.heap l Zr)
  (hQ:Q (.ref s.heap.objs.size) {s with heap:=s.heap.push {cls:=.type (nm t),data:=.fields #[.ref l,.int 0 0]}}):wpAny (model prog w) A (pyIter (.ref l)) Q E s:=by
 cases t
 .exact wpAny_pyIter_list hl hQ
 .exact wpAny_pyIter_tuple hl hQ
end
theorem draws{t:Bool}{prog:Program}{w:World}{A:Around}(hh:A.handled=none)(it a:Addr)(hJ:a≠it)(Zr:Array Value):
  Draws prog w A it [it,a] Zr.size (fun i v=>Zr[i]?=some v) (fun i h=>Io t h it a i/\Sq t h a Zr) where
 live:=fun _ _ st=>by obtain⟨o,ho,_⟩:=st.1;exact⟨o,ho⟩
 frame:=fun _ _ _ st hk=>⟨st.1.at fun o e=>hk it Zy o e,st.2.at fun o e=>hk a Zy o e⟩
 item:=fun i s Q E hi st hQ=>nx st.1 st.2 (x:=Zr[i]) (by simp[hi]) fun h' h1 h2=>hQ _ h' s.toks (by simp[hi]) ⟨h1,st.2.extBut h2.extBut hJ⟩ h2
 done:=fun s Q E st hE=>vd hh st.1 st.2 Zy hE
abbrev eA(t0:Bool)(h:Heap)(t:Addr):Heap:=h.push {cls:=.type (nm t0),data:=.fields #[.ref t,.int 0 0]}
theorem lM{t0:Bool}(t:Addr)(Zr:Array Value):
  Meets (Builtin.«enumerate.__new__» ⟨[.type "enumerate",.ref t],[]⟩) (fun _ R s=>Sq t0 s.heap t Zr /\
   R (.ok (.ret (.ref (eA t0 s.heap t).objs.size))) {s with heap:=(eA t0 s.heap t).push {cls:=.type "enumerate",data:=.fields #[.none,.bool false,.ref s.heap.objs.size,rawInt 0,.none,.none]}}):=
 .of_wp fun prog w A R s h=>by
  obtain⟨hp,g,d,tk,os⟩:=s;obtain⟨ht,h⟩:=h;have mI:=sub_enumerate;have hT:Sq t0 (Shared.heap ⟨hp,g,d,tk,os⟩) t Zr:=ht
  wp_walk
  refine wpAny_stack_any fun st=>zAv ?_;split
  .rename_i c _ _ _ _ _
   cases(c==Value.type "enumerate")
   .wp_walk using lK hT
    exact⟨_,rfl,h⟩
   .wp_walk using lK hT
    exact⟨_,rfl,h⟩
  .wp_walk using lK hT
   exact⟨_,rfl,h⟩
theorem nO{t0:Bool}{prog:Program}{w:World}{A:Around}{E:Value->Shared->Prop}{s:Shared}{t:Addr}{Zr:Array Value}{Q:Value->Shared->Prop}(ht:Sq t0 s.heap t Zr)
  (h:∀h',IsEnum h' (s.heap.objs.size+1) s.heap.objs.size 0 .none->Io t0 h' s.heap.objs.size t 0->(∀c o,s.heap.get? c=some o->h'.get? c=some o)->Q (.ref (s.heap.objs.size+1)) {s with heap:=h'}):
  wpAny (model prog w) A (call (.type "enumerate") [.ref t]) Q E s:=by
 refine callType_new F.called_enumerate Zx (F.typeCall_enumerate_1 _) (F.newCall_enumerate_1 _) (fun obj=>F.args_object_init_2 obj _) F.entry_enumerate_new (lM t Zr) ⟨ht,?_⟩;have e1:(eA t0 s.heap t).objs.size=s.heap.objs.size+1:=Heap.size_push ..;have g2:=zB2 (eA t0 s.heap t) (o:={cls:=.type "enumerate",data:=.fields #[.none,.bool false,.ref s.heap.objs.size,rawInt 0,.none,.none]}) rfl;have g1:=zAw {cls:=.type "enumerate",data:=.fields #[.none,.bool false,.ref s.heap.objs.size,rawInt 0,.none,.none]} (zB2 s.heap (o:={cls:=.type (nm t0),data:=.fields #[.ref t,.int 0 0]}) rfl);show _/\_;rw[e1]at g2⊢;exact⟨⟨_,g2,rfl⟩,h _ g2 ⟨_,g1,rfl,rfl⟩ fun c o x=>zAw _ (zAw _ x)⟩
def Ite(t0:Bool)(K:Frag)(a:Addr):It:=
 ⟨fun i H=>∃xs x,SQ t0 K H a xs/\xs[i]?=some x,
  fun i H v H'=>∃T,H T=none/\v=.ref T/\∀xs,SQ t0 K H a xs->∃x,xs[i]?=some x/\H'=upd H T (.tup [.int i,x]),
  fun i H=>∃xs,SQ t0 K H a xs/\xs.length<=i⟩
def tne(t0:Bool)(e it a:Addr)(i:Nat)(h:Heap):Prop:=(∃old,IsEnum h e it i old)/\Io t0 h it a i
theorem yr{t0:Bool}{P:Program}{w:World}{K:Frag}{es:List Expr}{k:Nat}{pos:Pos}{e it a:Addr}(D7:e≠it)(Nv:e≠a)(Nw:a≠it):
  Turn P w K (.Tuple es k pos) (Ite t0 K a) [e,it] e (tne t0 e it a) where
 mem:=by simp
 obj:=fun i h st c hc=>by
  obtain⟨⟨old,s1⟩,⟨o4,s4,c4,d4⟩⟩:=st;simp only[List.mem_cons,List.not_mem_nil,or_false]at hc;rcases hc with z|z<;>subst z
  .exact⟨_,s1,fun v q=>by cases q⟩
  .exact⟨_,s4,fun v q=>by rw[d4]at q;cases q⟩
 keep:=fun i h h' st kp=>by
  obtain⟨⟨old,s1⟩,s4⟩:=st;exact⟨⟨old,kp e Zy _ s1⟩,s4.at fun o z=>kp it Zy o z⟩
 item:=by
  intro X hP hw hK hc i Zt s σ H E I hf st hg;subst hP hw hK;obtain⟨⟨old,s1⟩,s4⟩:=st;obtain⟨xs,x,hX,hx⟩:=hg;obtain⟨Zr,rv,p,_⟩:=jK I hX;obtain⟨ux,vn,rx⟩:=rv.get hx
  have ay:i<Zr.toArray.size:=by
   have:=(zAa.mp vn).1;simpa using this
  have D:=draws (t:=t0) (prog:=X.prog) (w:=X.w) (A:=X.A.in1) (I.ok.hd hc) it a Nw Zr.toArray;refine wpAny_pyNext_enum_itemD D s1 ⟨s4,p⟩ ay D7 (by simp[D7,Nv]) fun u h1 tk hu g1 g3 g5 g6 kp=>?_
  have eu:u=ux:=by
   have hu:Zr.toArray[i]?=some u:=hu;rw[List.getElem?_toArray,vn]at hu;exact(zAl hu).symm
  subst eu;refine⟨_,rfl,?_⟩;refine wpAny_letOwnedTupleGo_enum g1 fun h2 e1 sb=>?_
  have live:∀c,c∈[e,it]->∃o,s.heap.get? c=some o:=fun c ai=>by
   simp only[List.mem_cons,List.not_mem_nil,or_false]at ai;rcases ai with q|q<;>subst q
   .exact⟨_,s1⟩
   .obtain⟨o,h,_⟩:=s4;exact⟨o,h⟩
  have ne:∀c,c∈[e,it]->c≠s.heap.objs.size:=fun c ai z=>by
   obtain⟨o,ho⟩:=live c ai;exact absurd (zB0 ho) (by rw[z];exact Nat.lt_irrefl _)
  have hT:H s.heap.objs.size=none:=I.hok.fresh (zA3 _)
  have kept:∀c o,c∉[e,it]->s.heap.get? c=some o->h2.get? c=some o:=fun c o ai z=>
   sb.extBut _ _ (fun q=>ai (by simp[q])) (kp c o (fun q=>ai (by simp[q])) (fun q=>ai (by simp[q])) z)
  have trk:∀c o,H c=some o->c∉[e,it]:=fun c o z ai=>by
   have:=(hf c ai).1;rw[z]at this;cases this
  have kD:h2.get? s.heap.objs.size=some {cls:=.type "tuple",data:=.seq #[.int i tk,u]}:=sb.extBut _ _ (Ne.symm (ne e Zy)) g5
  have kF:HOk X.prog X.w (upd H s.heap.objs.size (.tup [.int i,x])) h2:=fun c o z=>by
   by_cases hb:c=s.heap.objs.size
   .subst hb;rw[aj]at z;cases z;exact⟨by show 2<=sizeLine;decide,[.int i tk,u],.cons ⟨tk,rfl⟩ (.cons rx .nil),_,kD,rfl,_,rfl⟩
   .rw[aA hb]at z
    refine(I.hok c o z).stay (fun d v hd q=>kept d v ?_ q) (fun d q=>by rw[aA (aC q hT)];exact q) fun d l q=>by rw[aA (aC q hT)];exact q
    rcases hd with e'|e'
    .rw[e'];exact trk c o z
    .exact trk d _ e'
  have I2:Inv X Zt σ (upd H s.heap.objs.size (.tup [.int i,x])) {s with heap:=h2,toks:=tk+1}:=by
   refine I.step (g':=s.gens) (d':=s.drawn) (t':=tk+1) (ch:=[e,it]) (fun c ai=>?_) (fun c o _ _ hn z _=>kept c o hn z) (fun c o _ _ hn z _=>⟨o.slots,kept c o hn z⟩)
    (fun c o _ z n=>by rw[aA (zB8 (zB0 z))];exact n) (fun c o hn z=>⟨o,kept c o hn z⟩) (fun c l z=>by rw[aA (aC z hT)];exact z) (fun c o l z=>by rw[aA (aC z hT)];exact z)
    (fun c l z=>⟨#[],by rw[aA (aC z hT),z];simp⟩) (fun m hm=>?_) kF I.bare
   .obtain⟨f0,f1,f2,f3,f4,f5⟩:=hf c ai;exact⟨f3,f1,f4,f5⟩
   .obtain⟨o,dE,ep,ho,r⟩:=hm;refine⟨o,dE,ep,kept _ o (fun ai=>?_) ho,r⟩;exact(hf _ ai).2.1 rfl
  refine⟨.ref s.heap.objs.size,_,I2,rfl,⟨s.heap.objs.size,hT,rfl,fun K2 AB=>⟨x,?_,rfl⟩⟩,⟨⟨u,?_⟩,?_⟩,fun c ai=>?_⟩
  .rw[v9 I AB hX];exact hx
  .have:=e1;rw[show(((i+1:Nat):Int))=(i:Int)+1 by lia];exact this
  .exact g3.1.extBut sb.extBut D7.symm
  .rw[aA (ne c ai)];exact(hf c ai).1
 done:=by
  intro X hP hw hK hc i Zt s σ H E I hf st hg;subst hP hw hK;obtain⟨⟨old,s1⟩,s4⟩:=st;obtain⟨xs,hX,hlen⟩:=hg;obtain⟨Zr,rv,p,_⟩:=jK I hX;have hl:=rv.length
  have hT:s.TypeIs (.ref e) "enumerate":=⟨_,s1,rfl⟩
  have fin:∀h',Heap.ExtBut it s.heap h'->Inv X Zt σ H {s with heap:=h'}:=fun h' kp=>by
   obtain⟨f0,f1,f2,f3,f4,f5⟩:=hf it Zy;exact I.turned (t':=s.toks) (fun b o hb z=>kp b o hb z) f0 f1 f3 f4 f5
  unfold pyNext;refine wpAny_bind (wpAny_attempt (wpAny_callSpecial?_slot (name:=Str.ofString "__next__") hT F.slot_enumerate_next (wpAny_call_entry F.slot_enumerate_next hT F.entry_enumerate_next ?_ (F.args_enumerate_next_1 _))));show wpAny _ _ (field (.ref e) 2>>=_) _ _ _;refine wpAny_bind (wpAny_field s1 rfl (x:=.ref it) rfl ?_);refine wpAny_bind (vd (I.ok.hd hc) s4 p (by simp;lia) fun h' x vj gI=>?_);obtain⟨o,ho,D8⟩:=gI;refine wpAny_bind (wpAny_isInstance (T:="StopIteration") (b:=true) ⟨o,ho,D8⟩ isSubtype_stop (wpAny_pure ⟨rfl,fin h' vj⟩))
 self:=fun _ _ _ _ _ st h=>wpAny_pyIter_enum st.1.choose_spec h
section
variable{X:Cx}
def Jc(t0:Bool)(K:Frag)(t:TA):TI:=fun σ H R=>t σ H fun vs H1=>∃a xs,vs=[.ref a]/\SQ t0 K H1 a xs/\R (Ite t0 K a) H1
theorem pi_enum(t0:Bool){es:List Expr}{k:Nat}{tp:Pos}{a:Expr}{ta:TA}{p pos:Pos}(hg:Gl X "enumerate")(hm:X.mg "enumerate"=none)(ha:PA X [a] ta)(hs:starEach [a] X.env=[(false,eval a X.env)]:=by rfl):
  PI X (.Tuple es k tp) (.Call (.Name "enumerate" p) [a] [] pos) (Jc t0 X.K ta):=by
 intro Zt s σ H R I h;refine Call_ (gb I hg hm boot_enumerate (PyProof.Rows.callWith_type1 (thn (ha pos Zt s σ H _ I h) fun us s1=>?_) hs rfl));rintro⟨vs,H1,I1,r1,q1⟩;obtain⟨x,xs,e,hx,q⟩:=q1;subst e;obtain⟨u,rfl,ru⟩:=vals1 r1;cases ru;obtain⟨Zr,_,p1,_⟩:=jK I1 hx;refine nO p1 fun h' z1 z4 kp=>?_;refine wpAny_pyIter_enum z1 ?_;have lx:x<s1.heap.objs.size:=by obtain⟨_,e,_⟩:=p1;exact zB0 e
 refine⟨_,_,_,_,H1,rfl,I1.kept (t':=s1.toks) kp,yr (e:=s1.heap.objs.size+1) (it:=s1.heap.objs.size) (a:=x) (Nat.succ_ne_self _) (Nat.ne_of_gt (Nat.lt_succ_of_lt lx)) (zB8 lx),⟨⟨_,z1⟩,z4⟩,fun c hc=>?_,q⟩
 have hle:s1.heap.objs.size<=c:=by
  simp only[List.mem_cons,List.not_mem_nil,or_false]at hc;rcases hc with q|q<;>subst q
  .exact Nat.le_add_right _ 1
  .exact zA3 _
 exact I1.fpOk hle (I1.hok.fresh hle)
end
theorem for_enum(t0:Bool){K:Frag}{a:Addr}{xs:List V}{g:TG}{tb:TS}{D:Ends}{σ:St}{H:Hp}(Pv:Nat->St->Hp->Prop)(h0:Pv 0 σ H)(hl:∀i σ H,i<=xs.length->Pv i σ H->SQ t0 K H a xs)
  (hs:∀i x σ H T,xs[i]?=some x->Pv i σ H->H T=none->g (.ref T) σ (upd H T (.tup [.int i,x])) fun aw H2=>tb {D with nx:=Pv (i+1),ct:=Pv (i+1),bk:=D.nx} aw H2) (hd:∀σ H,Pv xs.length σ H->D.nx σ H):
  ∃W:Nat->Nat->St->Hp->Prop,(∃m,W 0 m σ H)/\∀i m σ H,W i m σ H->
   ((Ite t0 K a).stop i H/\D.nx σ H)\/((Ite t0 K a).go i H/\∃N:St->Hp->Prop,(∀ah H',N ah H'->∃m',m'<m/\W (i+1) m' ah H')/\∀x H',(Ite t0 K a).yld i H x H'->g x σ H' fun aw H2=>tb {D with nx:=N,ct:=N,bk:=D.nx} aw H2):=by
 refine⟨fun i m σ H=>m=xs.length-i/\i<=xs.length/\Pv i σ H,⟨xs.length,by simp,Nat.zero_le _,h0⟩,?_⟩;rintro i m σ H ⟨rfl,hi,p⟩;have q:=hl i σ H hi p;by_cases ay:i<xs.length
 .refine .inr ⟨⟨xs,xs[i],q,by simp[ay]⟩,Pv (i+1),fun ah H' p'=>⟨xs.length-(i+1),Zz,rfl,ay,p'⟩,fun x H' y=>?_⟩;obtain⟨T,nT,rfl,y⟩:=y;obtain⟨x,ex,rfl⟩:=y xs q;exact hs i x σ H T ex p nT
 .have e:i=xs.length:=Zz
  subst e;exact .inl ⟨⟨xs,q,zA3 _⟩,hd σ H p⟩
end L2.ZT
namespace L2
open PySem PySem.Spec PyProof.Rows
section
variable{X:Cx}
theorem nP(hc:X.calm=true):di X (.builtin "min") (fun xs H Q=>∃(p:Addr) (ns:List Int),xs=[.ref p]/\SqL X.K H p (ns.map V.int)/\ns≠[]/\∀M,M∈ns->(∀a∈ns,M<=a)->Q (.int M) H):=by
 intro Zt s σ H xs us Q I r h;obtain⟨p,ns,rfl,hq,hJ,q⟩:=h;obtain⟨u,rfl,ru⟩:=vals1 r;cases ru;obtain⟨Zr,rv,pl,hz⟩:=I.list hq;have hi:IntsAre Zr ns:=intsAre_of rv;obtain⟨zs,ez⟩:=(hi.allInts:AllInts Zr.toArray).items;have en:numsOf Zr=ns:=hi.numsOf;have hl:s.heap.IsList p (intItems zs):=ez▸pl.isList
 have bS:0<zs.size:=by
  have e1:(intItems zs).size=Zr.length:=by rw[<-ez,zA8]
  have e2:=rv.length;rw[zA1]at e2;have e3:0<ns.length:=List.length_pos_iff.mpr hJ;simp only[intItems,Array.size_map]at e1;lia
 have hn:numsOf (intItems zs).toList=ns:=by rw[<-ez];exact en
 refine min_intList (I.ok.hd hc) hl bS fun v h' tk hv hk=>?_;obtain⟨t,rfl⟩:=intItems_at hv;obtain⟨h1,h2⟩:=argBest_lt (numAt zs) (zs.size-1);rw[nums_intItems]at hn;refine⟨.int _,H,I.kept (t':=tk) hk,⟨t,rfl⟩,q _ ?_ fun a ha=>?_⟩
 .rw[<-hn,numAt_eq];exact getD_mem (by rw[zA1,zA9];lia)
 .rw[<-hn]at ha;obtain⟨j,hj,rfl⟩:=mem_getD ha;rw[zA1,zA9]at hj;rw[<-numAt_eq];exact h2 j Zz
inductive RCatT0I(K:Frag)(x:V)(y:V)(H:Hp)(Q:VK):Prop
 |mk:∀a b ys,(x=.ref a)->(y=.ref b)->(SqT K H a [])->(SqT K H b ys)->(Q (.ref b) H)->RCatT0I K x y H Q
def Hn(K:Frag):R2:=fun x y H Q=>RCatT0I K x y H Q
open Builtin in
theorem zK(l b:Addr)(Zr:Array Value)(n m:Nat)(dd vi:Option Addr)(sl qA:Array (Option Value)):
  Meets (Builtin.«tuple.__add__» ⟨[.ref l,.ref b],[]⟩) (fun _ R s=>s.heap.get? l=some {cls:=.type "tuple",dict:=dd,data:=.seq #[] n,slots:=sl}/\s.heap.get? b=some {cls:=.type "tuple",dict:=vi,data:=.seq Zr m,slots:=qA}/\R (.ok (.ret (.ref b))) s):=by
 refine .of_wp fun prog w A R s h=>?_;obtain⟨hp,g,d,tk,os⟩:=s;obtain⟨hl,hb,h⟩:=h;have f2:=PySem.AutoSeq1.sub_tuple_tuple
 wp_walk
 exact⟨_,rfl,h⟩
theorem zM:OpR X (binaryOp .Add) (Hn X.K):=by
 intro Zt s σ H x y v u Q I rx ry h;obtain⟨a,b,ys,rfl,rfl,ha,hb,q⟩:=h;cases rx;cases ry;obtain⟨Zr,r1,p1,_⟩:=I.tuple ha;obtain⟨bo,r2,p2,_⟩:=I.tuple hb;have e:Zr=[]:=r1.zero;subst e;obtain⟨⟨cls,dd,data,sl⟩,ho,hc,n,hd⟩:=id p1;obtain⟨⟨DH,vi,data2,qA⟩,qB,yi,n2,hd2⟩:=id p2;simp only at hc hd yi hd2;subst hc hd yi hd2;exact concat_meets ⟨_,ho,rfl⟩ ⟨_,qB,rfl⟩ noFill_tuple_add seq_tuple_add PySem.F.slot_tuple_add PySem.F.entry_tuple_add (PySem.F.args_tuple_add_2 _ _) (zK a b bo.toArray n n2 dd vi sl qA) ⟨ho,qB,.ref b,H,I,rfl,q⟩
theorem zN:OpR X (binaryOp .Add) (fun x y H Q=>∃a b xs ys,x=.ref a/\y=.ref b/\SqT X.K H a xs/\SqT X.K H b ys/\ys≠[]/\xs.length+ys.length<=sizeLine/\(xs=[]->Q (.ref b) H)/\(xs≠[]->∀p,H p=none->Q (.ref p) (upd H p (.tup (xs++ys))))):=by
 intro Zt s σ H x y v u Q I rx ry h;obtain⟨a,b,xs,ys,rfl,rfl,ha,hb,hy,hz,q1,q2⟩:=h;by_cases hx:xs=[]
 .subst hx;exact zM Zt s σ H _ _ v u Q I rx ry ⟨a,b,ys,rfl,rfl,ha,hb,q1 rfl⟩
 .exact qy Zt s σ H _ _ v u Q I rx ry ⟨a,b,xs,ys,rfl,rfl,ha,hb,hx,hz,fun z=>absurd z hy,fun _=>q2 hx⟩
end
section
variable{prog:Program}{w:World}{A:Around}{E:Value->Shared->Prop}{s:Shared}
open HT in
theorem j9{t sl:Addr}{items:Array Value}{vl vu:Value}{lo hi:Option Int}{Q:Value->Shared->Prop}(ht:IsTup s.heap t items)(hs:s.heap.IsSliceOf sl vl vu .none)(pl:IsPart vl lo)(pu:IsPart vu hi)
  (h1:sIx items.size 0 lo=0) (h2:sIx items.size items.size hi=items.size) (h:Q (.ref t) s):wpAny (model prog w) A (getItem (.ref t) (.ref sl)) Q E s:=by
 obtain⟨os,qE,Co,yn⟩:=id hs
 have DI:s.TypeIs (.ref sl) "slice":=⟨os,qE,Co⟩
 unfold getItem
 try with_reducible refine wpAny_holding ?_
 first|refine zAt (zAv ?_)|skip
 refine zAt (wpAny_sequenceKey ht.typeIs Zx ?_)
 refine zAt (wpAny_callSpecial?_slot (name:=Str.ofString "__getitem__") ht.typeIs PyProof.Rows.slot_tuple_getitem
  (wpAny_call_entry PyProof.Rows.slot_tuple_getitem ht.typeIs entry_tuple_getitem ?_ (args_tuple_getitem _ _)))
 show wpAny _ _ (Builtin.Tuple.tupleItemsOf (.ref t)>>=_) _ _ s;refine wpAny_bind (tupleItemsOf_ ht ?_);refine wpAny_bind (wpAny_typeOf DI ?_);rw[if_pos Zx];refine wpAny_bind (fP hs pl pu ?_);rw[h1,h2];show wpAny _ _ (if((((0:Nat):Int))==0&&(1:Int)==1&&(items.size-0)==items.size)=true then _ else _) _ _ s;rw[if_pos Zy];unfold Builtin.Tuple.tupleIsExact;refine wpAny_bind (wpAny_bind (wpAny_typeOf ht.typeIs (wpAny_pure ?_)));rw[if_pos Zx];exact wpAny_bind (wpAny_rule (wpAny_pure ⟨_,rfl,wpAny_pure h⟩))
end
section
variable{X:Cx}
inductive RSlWI(K:Frag)(x:V)(lo:Option Int)(hi:Option Int)(H:Hp)(Q:VK):Prop
 |mk:∀a xs,(x=.ref a)->(SqT K H a xs)->(((HT.sIx xs.length 0 lo=0/\HT.sIx xs.length xs.length hi=xs.length)->Q (.ref a) H))->((¬(HT.sIx xs.length 0 lo=0/\HT.sIx xs.length xs.length hi=xs.length)->∀p,H p=none->Q (.ref p) (upd H p (.tup (nu xs lo hi)))))->RSlWI K x lo hi H Q
def Kp(K:Frag):V->Option Int->Option Int->Hp->VK->Prop:=fun x lo hi H Q=>RSlWI K x lo hi H Q
theorem DG:SlR X (Kp X.K):=by
 intro Zt s σ H x v vl vu lo hi sl Q I rx hs pl pu h;obtain⟨a,xs,rfl,hx,q1,q2⟩:=h;by_cases hw:HT.sIx xs.length 0 lo=0/\HT.sIx xs.length xs.length hi=xs.length
 .cases rx;obtain⟨Zr,r,ht,hz⟩:=I.tuple hx;have hlen:Zr.toArray.size=xs.length:=by rw[zA8];exact r.length.symm
  refine⟨"tuple",_,PyProof.Rows.slot_tuple_getitem.lookup,ht.typeIs,?_⟩;exact j9 ht hs pl pu (by rw[hlen];exact hw.1) (by rw[hlen];exact hw.2) ⟨.ref a,H,I,rfl,q1 hw⟩
 .exact GF Zt s σ H _ v vl vu lo hi sl Q I rx hs pl pu ⟨a,xs,rfl,hx,hw,q2 hw⟩
end
section
variable{prog:Program}{w:World}{A:Around}{E:Value->Shared->Prop}{s:Shared}
end
section
variable{X:Cx}{e:Expr}{te:TE}{pos p2 p3 p4:Pos}{j:Nat}
end
end L2
namespace L2.ZT
open PySem PySem.Spec PyProof.Rows L2
section
variable{prog:Program}{w:World}{A:Around}{E:Value->Shared->Prop}{s:Shared}
theorem tO{t1 t2:Bool}{z TI TO i1 i2 l1 l2:Addr}{k:Nat}{xs ys:Array Value}{x y a b:Value}{Q:Option Value->Shared->Prop}(D:ZipApart z TI TO i1 i2 l1 l2)
  (hz:IsZip s.heap z TI TO .none) (rq:IsPair s.heap TI (.ref i1) (.ref i2)) (rL:IsPair s.heap TO a b)
  (h1:Io t1 s.heap i1 l1 k) (h2:Io t2 s.heap i2 l2 k) (gg:Sq t1 s.heap l1 xs) (ki:Sq t2 s.heap l2 ys) (hx:xs[k]?=some x) (hy:ys[k]?=some y)
  (hQ:∀h',IsZip h' z TI TO (rawInt s.heap.objs.size)->IsPair h' TO x y->Io t1 h' i1 l1 (k+1)->Io t2 h' i2 l2 (k+1)->IsPair h' s.heap.objs.size x y->h'.objs.size=s.heap.objs.size+1->
   (∀c o,c≠z->c≠TO->c≠i1->c≠i2->s.heap.get? c=some o->h'.get? c=some o)->Q (some (.ref s.heap.objs.size)) {s with heap:=h'}):
  wpAny (model prog w) A (pyNext (.ref z)) Q E s:=by
 have hT:s.TypeIs (.ref z) "zip":=⟨_,hz,rfl⟩
 unfold pyNext;refine wpAny_bind (wpAny_attempt (wpAny_callSpecial?_slot (name:=Str.ofString "__next__") hT F.slot_zip_next (wpAny_call_entry F.slot_zip_next hT F.entry_zip_next ?_ (F.args_zip_next_1 _))));show wpAny _ _ (field (.ref z) 2>>=_) _ _ _;refine wpAny_bind (wpAny_field hz rfl (x:=.bool false) rfl ?_);show wpAny _ _ (field (.ref z) 3>>=_) _ _ _;refine wpAny_bind (wpAny_field hz rfl (x:=.ref TI) rfl (wpAny_bind (wpAny_seqItems rq rfl ?_)));show wpAny _ _ (Builtin.SmallTypes.ownedTupleIsFree (.ref z)>>=_) _ _ _;refine wpAny_bind ?_;unfold Builtin.SmallTypes.ownedTupleIsFree;refine wpAny_bind (wpAny_field hz rfl (x:=.none) rfl (wpAny_pure ?_));simp only[if_true];refine wpAny_bind (wpAny_rule (wpAny_bind (wpAny_field hz rfl (x:=.ref TO) rfl (wpAny_bind (wpAny_setField_rec hz Zy fun g1 z1 s1=>?_)))))
 replace z1:IsZip g1 z TI TO .ellipsis:=z1
 refine wpAny_bind ?_;simp only[List.zipIdx_cons,List.zipIdx_nil,List.forIn_cons,List.forIn_nil];refine wpAny_bind (wpAny_bind (wpAny_onRaise ?_));show wpAny _ _ (Builtin.SmallTypes.nextOf (.ref i1)>>=_) _ _ _;refine wpAny_bind (nx (h1.extBut s1.extBut D.i1z) (gg.extBut s1.extBut D.l1z) hx fun g2 q1 s2=>wpAny_pure ?_);have o2:IsPair g2 TO a b:=s2.extBut _ _ D.TOi1 (s1.extBut _ _ D.TOz rL);refine wpAny_bind (wpAny_seqItems o2 rfl (wpAny_bind (wpAny_updateSeq_pair o2 fun g3 o3 s3=>?_)))
 replace o3:IsPair g3 TO x b:=o3
 refine zAt (wpAny_letGo (zAv (zAt (zAt (wpAny_onRaise ?_)))));show wpAny _ _ (Builtin.SmallTypes.nextOf (.ref i2)>>=_) _ _ _;refine zAt (nx (((h2.extBut s1.extBut D.i2z).extBut s2.extBut D.i12.symm).extBut s3.extBut D.TOi2.symm) (((ki.extBut s1.extBut D.l2z).extBut s2.extBut D.l2i1).extBut s3.extBut D.l2TO) hy fun g4 q2 s4=>zAv ?_);have o4:IsPair g4 TO x b:=s4.extBut _ _ D.TOi2 o3;refine zAt (wpAny_seqItems o4 rfl (zAt (wpAny_updateSeq_pair o4 fun g5 o5 s5=>?_)))
 replace o5:IsPair g5 TO x y:=o5
 refine zAt (wpAny_letGo (zAv (zAv (zAt (wpAny_seqItems o5 rfl (zAt (wpAny_newTuple ?_)))))));have hsz:g5.objs.size=s.heap.objs.size:=by rw[s5.1,s4.1,s3.1,s2.1,s1.1]
 have z5:IsZip g5 z TI TO .ellipsis:=s5.extBut _ _ D.TOz.symm (s4.extBut _ _ D.i2z.symm (s3.extBut _ _ D.TOz.symm (s2.extBut _ _ D.i1z.symm z1)));have k5:∀c o,c≠z->c≠TO->c≠i1->c≠i2->s.heap.get? c=some o->g5.get? c=some o:=fun c o c1 c2 c3 c4 e=>s5.extBut _ _ c2 (s4.extBut _ _ c4 (s3.extBut _ _ c2 (s2.extBut _ _ c3 (s1.extBut _ _ c1 e))));have p1:Io t1 g5 i1 l1 (k+1):=((q1.extBut s3.extBut D.TOi1.symm).extBut s4.extBut D.i12).extBut s5.extBut D.TOi1.symm;have p2:Io t2 g5 i2 l2 (k+1):=q2.extBut s5.extBut D.TOi2.symm;have AD:z<g5.objs.size:=Heap.lt_size z5;show wpAny _ _ (Builtin.SmallTypes.ownedTupleHandOut (.ref z) (.ref g5.objs.size)>>=_) _ _ _;refine wpAny_bind ?_;unfold Builtin.SmallTypes.ownedTupleHandOut;have z6:IsZip (g5.push {cls:=.type "tuple",data:=.seq #[x,y]}) z TI TO .ellipsis:=Heap.get?_push_of_some _ z5;refine wpAny_bind (wpAny_setField_rec z6 Zy fun g7 z7 s7=>?_)
 replace z7:IsZip g7 z TI TO (rawInt g5.objs.size):=z7
 refine wpAny_setField_rec z7 Zy fun g8 z8 s8=>?_
 replace z8:IsZip g8 z TI TO (rawInt g5.objs.size):=z8
 have up:∀c o,c≠z->g5.get? c=some o->g8.get? c=some o:=fun c o c1 e=>s8.extBut _ _ c1 (s7.extBut _ _ c1 (zAw _ e));have t8:IsPair g8 g5.objs.size x y:=s8.extBut _ _ (Nat.ne_of_gt AD) (s7.extBut _ _ (Nat.ne_of_gt AD) (zB2 _ rfl));have n8:g8.objs.size=g5.objs.size+1:=by rw[s8.1,s7.1,Heap.size_push]
 rw[hsz]at z8 t8 n8;refine zAv ⟨_,rfl,zAv ?_⟩;show Q (some (.ref g5.objs.size)) _;rw[hsz];exact hQ g8 z8 (up _ _ D.TOz o5) (p1.at fun o e=>up _ o D.i1z e) (p2.at fun o e=>up _ o D.i2z e) t8 n8 fun c o c1 c2 c3 c4 e=>up c o c1 (k5 c o c1 c2 c3 c4 e)
theorem vf{t1:Bool}{z TI TO i1 i2 l1 l2:Addr}{k:Nat}{xs:Array Value}{a b:Value}{Q:Option Value->Shared->Prop}(hh:A.handled=none)(D:ZipApart z TI TO i1 i2 l1 l2)
  (hz:IsZip s.heap z TI TO .none) (rq:IsPair s.heap TI (.ref i1) (.ref i2)) (rL:IsPair s.heap TO a b) (h1:Io t1 s.heap i1 l1 k) (gg:Sq t1 s.heap l1 xs) (hx:xs[k]?=none)
  (hQ:∀h',(∀c o,c≠z->c≠i1->s.heap.get? c=some o->h'.get? c=some o)->Q none {s with heap:=h'}):wpAny (model prog w) A (pyNext (.ref z)) Q E s:=by
 have hT:s.TypeIs (.ref z) "zip":=⟨_,hz,rfl⟩
 unfold pyNext;refine wpAny_bind (wpAny_attempt (wpAny_callSpecial?_slot (name:=Str.ofString "__next__") hT F.slot_zip_next (wpAny_call_entry F.slot_zip_next hT F.entry_zip_next ?_ (F.args_zip_next_1 _))));show wpAny _ _ (field (.ref z) 2>>=_) _ _ _;refine wpAny_bind (wpAny_field hz rfl (x:=.bool false) rfl ?_);show wpAny _ _ (field (.ref z) 3>>=_) _ _ _;refine wpAny_bind (wpAny_field hz rfl (x:=.ref TI) rfl (wpAny_bind (wpAny_seqItems rq rfl ?_)));show wpAny _ _ (Builtin.SmallTypes.ownedTupleIsFree (.ref z)>>=_) _ _ _;refine wpAny_bind ?_;unfold Builtin.SmallTypes.ownedTupleIsFree;refine wpAny_bind (wpAny_field hz rfl (x:=.none) rfl (wpAny_pure ?_));simp only[if_true];refine wpAny_bind (wpAny_rule (wpAny_bind (wpAny_field hz rfl (x:=.ref TO) rfl (wpAny_bind (wpAny_setField_rec hz Zy fun g1 z1 s1=>?_)))))
 replace z1:IsZip g1 z TI TO .ellipsis:=z1
 refine wpAny_bind ?_;simp only[List.zipIdx_cons,List.zipIdx_nil,List.forIn_cons,List.forIn_nil];refine wpAny_bind (wpAny_bind (wpAny_onRaise ?_));show wpAny _ _ (Builtin.SmallTypes.nextOf (.ref i1)>>=_) _ _ _;refine wpAny_bind (vd hh (h1.extBut s1.extBut D.i1z) (gg.extBut s1.extBut D.l1z) hx fun g2 e s2 he=>?_);obtain⟨oe,rS,AE⟩:=he;have z2:IsZip g2 z TI TO .ellipsis:=s2 _ _ D.i1z.symm z1
 have D9:e≠z:=fun q=>by
  subst q;rw[z2]at rS;cases rS;simp at AE
 refine wpAny_setField_rec z2 Zy fun g3 _ s3=>?_;refine wpAny_bind (wpAny_isInstance (T:="StopIteration") (b:=true) ⟨oe,s3.extBut _ _ D9 rS,AE⟩ isSubtype_stop (wpAny_pure (hQ _ fun c o c1 c2 q=>s3.extBut _ _ c1 (s2 _ _ c2 (s1.extBut _ _ c1 q)))))
end
abbrev zA(t1:Bool)(h:Heap)(t:Addr):Heap:=h.push {cls:=.type (nm t1),data:=.fields #[.ref t,.int 0 0]}
abbrev zB(t1 t2:Bool)(h:Heap)(t l:Addr):Heap:=(zA t1 h t).push {cls:=.type (nm t2),data:=.fields #[.ref l,.int 0 0]}
abbrev zC(t1 t2:Bool)(h:Heap)(t l:Addr):Heap:=(zB t1 t2 h t l).push {cls:=.type "tuple",data:=.seq #[.ref h.objs.size,.ref (zA t1 h t).objs.size]}
abbrev zD(t1 t2:Bool)(h:Heap)(t l:Addr):Heap:=(zC t1 t2 h t l).push {cls:=.type "tuple",data:=.seq #[.none,.none]}
abbrev zE(t1 t2:Bool)(h:Heap)(t l:Addr):Heap:=(zD t1 t2 h t l).push {cls:=.type "zip",data:=.fields #[.none,.bool false,.bool false,.ref (zB t1 t2 h t l).objs.size,.ref (zC t1 t2 h t l).objs.size]}
theorem qT{t1 t2:Bool}(t l:Addr)(xs ys:Array Value):
  Meets (Builtin.«zip.__new__» ⟨[.type "zip",.ref t,.ref l],[]⟩) (fun _ R s=>Sq t1 s.heap t xs/\Sq t2 s.heap l ys/\R (.ok (.ret (.ref (zD t1 t2 s.heap t l).objs.size))) {s with heap:=zE t1 t2 s.heap t l}):=
 .of_wp fun prog w A R s h=>by
  obtain⟨hp,g,d,tk,os⟩:=s;obtain⟨ht,hl,h⟩:=h;have mI:=sub_zip;have hT:Sq t1 (Shared.heap ⟨hp,g,d,tk,os⟩) t xs:=ht;have hL:Sq t2 (Shared.heap ⟨hp.push {cls:=.type (nm t1),data:=.fields #[.ref t,.int 0 0]},g,d,tk,os⟩) l ys:=hl.at fun o e=>zAw _ e
  wp_walk using lK hT,lK hL
  exact⟨_,rfl,h⟩
theorem call_zip_tt{t1 t2:Bool}{prog:Program}{w:World}{A:Around}{E:Value->Shared->Prop}{s:Shared}{t l:Addr}{xs ys:Array Value}{Q:Value->Shared->Prop}(ht:Sq t1 s.heap t xs)(hl:Sq t2 s.heap l ys)
  (h:∀h',IsZip h' (s.heap.objs.size+4) (s.heap.objs.size+2) (s.heap.objs.size+3) .none->IsPair h' (s.heap.objs.size+2) (.ref s.heap.objs.size) (.ref (s.heap.objs.size+1))->IsPair h' (s.heap.objs.size+3) .none .none->
   Io t1 h' s.heap.objs.size t 0->Io t2 h' (s.heap.objs.size+1) l 0->(∀c o,s.heap.get? c=some o->h'.get? c=some o)->Q (.ref (s.heap.objs.size+4)) {s with heap:=h'}):
  wpAny (model prog w) A (call (.type "zip") [.ref t,.ref l]) Q E s:=by
 refine callType_new F.called_zip Zx (F.typeCall_zip_2 _ _) (F.newCall_zip_2 _ _) (fun obj=>F.args_object_init_3 obj _ _) F.entry_zip_new (qT t l xs ys) ⟨ht,hl,?_⟩;have e1:(zA t1 s.heap t).objs.size=s.heap.objs.size+1:=Heap.size_push ..;have e2:(zB t1 t2 s.heap t l).objs.size=s.heap.objs.size+2:=by rw[Heap.size_push,e1]
 have e3:(zC t1 t2 s.heap t l).objs.size=s.heap.objs.size+3:=by rw[Heap.size_push,e2]
 have e4:(zD t1 t2 s.heap t l).objs.size=s.heap.objs.size+4:=by rw[Heap.size_push,e3]
 have La:∀{c o},(zD t1 t2 s.heap t l).get? c=some o->(zE t1 t2 s.heap t l).get? c=some o:=fun e=>zAw _ e;have Lb:∀{c o},(zC t1 t2 s.heap t l).get? c=some o->(zE t1 t2 s.heap t l).get? c=some o:=fun e=>La (zAw _ e);have Lc:∀{c o},(zB t1 t2 s.heap t l).get? c=some o->(zE t1 t2 s.heap t l).get? c=some o:=fun e=>Lb (zAw _ e);have up1:∀{c o},(zA t1 s.heap t).get? c=some o->(zE t1 t2 s.heap t l).get? c=some o:=fun e=>Lc (zAw _ e);have g5:(zE t1 t2 s.heap t l).get? (zD t1 t2 s.heap t l).objs.size=some _:=zB2 _ rfl;have g4:(zE t1 t2 s.heap t l).get? (zC t1 t2 s.heap t l).objs.size=some _:=La (zB2 _ rfl);have g3:(zE t1 t2 s.heap t l).get? (zB t1 t2 s.heap t l).objs.size=some _:=Lb (zB2 _ rfl);have g2:(zE t1 t2 s.heap t l).get? (zA t1 s.heap t).objs.size=some _:=Lc (zB2 _ rfl);have g1:(zE t1 t2 s.heap t l).get? s.heap.objs.size=some _:=up1 (zB2 _ rfl);show _/\_;rw[e4,e2,e3]at g5;rw[e2,e1]at g3;rw[e3]at g4;rw[e1]at g2;rw[e4];exact⟨⟨_,g5,rfl⟩,h _ g5 g3 g4 ⟨_,g1,rfl,rfl⟩ ⟨_,g2,rfl,rfl⟩ fun c o x=>up1 (zAw _ x)⟩
def Itz(t1 t2:Bool)(K:Frag)(a b:Addr):It:=
 ⟨fun i H=>∃xs ys x y,SQ t1 K H a xs/\SQ t2 K H b ys/\xs[i]?=some x/\ys[i]?=some y,
  fun i H v H'=>∃T,H T=none/\v=.ref T/\∀xs ys,SQ t1 K H a xs->SQ t2 K H b ys->∃x y,xs[i]?=some x/\ys[i]?=some y/\H'=upd H T (.tup [x,y]),
  fun i H=>∃xs,SQ t1 K H a xs/\xs.length<=i⟩
def tnz(t1 t2:Bool)(z TI TO i1 i2 a b:Addr)(i:Nat)(h:Heap):Prop:=IsZip h z TI TO .none/\IsPair h TI (.ref i1) (.ref i2)/\(∃u v,IsPair h TO u v)/\Io t1 h i1 a i/\Io t2 h i2 b i
theorem zP{t1 t2:Bool}{P:Program}{w:World}{K:Frag}{es:List Expr}{k:Nat}{pos:Pos}{z TI TO i1 i2 a b:Addr}(D:ZipApart z TI TO i1 i2 a b):
  Turn P w K (.Tuple es k pos) (Itz t1 t2 K a b) [z,TI,TO,i1,i2] z (tnz t1 t2 z TI TO i1 i2 a b) where
 mem:=by simp
 obj:=fun i h st c hc=>by
  obtain⟨s1,s2,⟨u,v,s3⟩,⟨o4,s4,c4,d4⟩,⟨o5,s5,c5,d5⟩⟩:=st;simp only[List.mem_cons,List.not_mem_nil,or_false]at hc;rcases hc with e|e|e|e|e<;>subst e
  .exact⟨_,s1,fun v q=>by cases q⟩
  .exact⟨_,s2,fun v q=>by cases q⟩
  .exact⟨_,s3,fun v q=>by cases q⟩
  .exact⟨_,s4,fun v q=>by rw[d4]at q;cases q⟩
  .exact⟨_,s5,fun v q=>by rw[d5]at q;cases q⟩
 keep:=fun i h h' st kp=>by
  obtain⟨s1,s2,⟨u,v,s3⟩,s4,s5⟩:=st;exact⟨kp z Zy _ s1,kp TI Zy _ s2,⟨u,v,kp TO Zy _ s3⟩,s4.at fun o e=>kp i1 Zy o e,s5.at fun o e=>kp i2 Zy o e⟩
 item:=by
  intro X hP hw hK hc i Zt s σ H E I hf st hg;subst hP hw hK;obtain⟨s1,s2,⟨u,v,s3⟩,s4,s5⟩:=st;obtain⟨xs,ys,x,y,hX,rV,hx,hy⟩:=hg;obtain⟨Zr,rv,p,_⟩:=jK I hX;obtain⟨Ee,de,q,_⟩:=jK I rV;obtain⟨ux,vn,rx⟩:=rv.get hx;obtain⟨uy,EA,ry⟩:=de.get hy;refine tO D s1 s2 s3 s4 s5 p q (x:=ux) (y:=uy) (by simpa using vn) (by simpa using EA) fun h1 g1 g2 g3 g4 g5 g6 kp=>?_;refine⟨_,rfl,?_⟩;refine wpAny_letOwnedTupleGo_zip g1 fun h2 e1 sb=>?_
  have ne:∀c,c∈[z,TI,TO,i1,i2]->c≠s.heap.objs.size:=fun c ai e=>by
   obtain⟨f0,f1,f2,f3,f4,f5⟩:=hf c ai
   have:∃o,s.heap.get? c=some o:=by
    simp only[List.mem_cons,List.not_mem_nil,or_false]at ai;rcases ai with q|q|q|q|q<;>subst q
    .exact⟨_,s1⟩
    .exact⟨_,s2⟩
    .exact⟨_,s3⟩
    .obtain⟨o,h,_⟩:=s4;exact⟨o,h⟩
    .obtain⟨o,h,_⟩:=s5;exact⟨o,h⟩
   obtain⟨o,ho⟩:=this;exact absurd (zB0 ho) (by rw[e];exact Nat.lt_irrefl _)
  have hT:H s.heap.objs.size=none:=I.hok.fresh (zA3 _)
  have kept:∀c o,c∉[z,TO,i1,i2]->s.heap.get? c=some o->h2.get? c=some o:=fun c o ai e=>
   sb.extBut _ _ (fun q=>ai (by simp[q])) (kp c o (fun q=>ai (by simp[q])) (fun q=>ai (by simp[q])) (fun q=>ai (by simp[q])) (fun q=>ai (by simp[q])) e)
  have rX:∀c,c∈[z,TO,i1,i2]->c∈[z,TI,TO,i1,i2]:=fun c ai=>by
   simp only[List.mem_cons,List.not_mem_nil,or_false]at ai⊢;rcases ai with q|q|q|q<;>simp[q]
  have trk:∀c o,H c=some o->c∉[z,TO,i1,i2]:=fun c o e ai=>by
   have:=(hf c (rX c ai)).1;rw[e]at this;cases this
  have kD:h2.get? s.heap.objs.size=some {cls:=.type "tuple",data:=.seq #[ux,uy]}:=sb.extBut _ _ (Ne.symm (ne z Zy)) g5
  have kF:HOk X.prog X.w (upd H s.heap.objs.size (.tup [x,y])) h2:=fun c o e=>by
   by_cases hb:c=s.heap.objs.size
   .subst hb;rw[aj]at e;cases e;exact⟨by show 2<=sizeLine;decide,[ux,uy],.cons rx (.cons ry .nil),_,kD,rfl,_,rfl⟩
   .rw[aA hb]at e
    refine(I.hok c o e).stay (fun d v hd q=>kept d v ?_ q) (fun d q=>by rw[aA (aC q hT)];exact q) fun d l q=>by rw[aA (aC q hT)];exact q
    rcases hd with e'|e'
    .rw[e'];exact trk c o e
    .exact trk d _ e'
  have I2:Inv X Zt σ (upd H s.heap.objs.size (.tup [x,y])) {s with heap:=h2}:=by
   refine I.step (g':=s.gens) (d':=s.drawn) (t':=s.toks) (ch:=[z,TO,i1,i2]) (fun c ai=>?_) (fun c o _ _ hn e _=>kept c o hn e) (fun c o _ _ hn e _=>⟨o.slots,kept c o hn e⟩)
    (fun c o _ e n=>by rw[aA (zB8 (zB0 e))];exact n) (fun c o hn e=>⟨o,kept c o hn e⟩) (fun c l e=>by rw[aA (aC e hT)];exact e) (fun c o l e=>by rw[aA (aC e hT)];exact e)
    (fun c l e=>⟨#[],by rw[aA (aC e hT),e];simp⟩) (fun m hm=>?_) kF I.bare
   .obtain⟨f0,f1,f2,f3,f4,f5⟩:=hf c (rX c ai);exact⟨f3,f1,f4,f5⟩
   .obtain⟨o,dE,ep,ho,r⟩:=hm;refine⟨o,dE,ep,kept _ o (fun ai=>?_) ho,r⟩;exact(hf _ (rX _ ai)).2.1 rfl
  refine⟨.ref s.heap.objs.size,_,I2,rfl,⟨s.heap.objs.size,hT,rfl,fun K2 fk AB AF=>⟨x,y,?_,?_,rfl⟩⟩,⟨e1,?_,?_,?_,?_⟩,fun c ai=>?_⟩
  .rw[v9 I AB hX];exact hx
  .rw[v9 I AF rV];exact hy
  .exact sb.extBut _ _ D.TIz (kp _ _ D.TIz D.TITO D.TIi1 D.TIi2 s2)
  .exact⟨_,_,sb.extBut _ _ D.TOz g2⟩
  .exact g3.extBut sb.extBut D.i1z
  .exact g4.extBut sb.extBut D.i2z
  .rw[aA (ne c ai)];exact(hf c ai).1
 done:=by
  intro X hP hw hK hc i Zt s σ H E I hf st hg;subst hP hw hK;obtain⟨s1,s2,⟨u,v,s3⟩,s4,s5⟩:=st;obtain⟨xs,hX,hlen⟩:=hg;obtain⟨Zr,rv,p,_⟩:=jK I hX;have hl:=rv.length
  refine vf (I.ok.hd hc) D s1 s2 s3 s4 p (by simp;lia) fun h' kp=>⟨rfl,?_⟩
  refine I.step (h':=h') (H':=H) (g':=s.gens) (d':=s.drawn) (t':=s.toks) (ch:=[z,i1]) (fun c ai=>?_) (fun c o _ _ hn e _=>kp c o (fun q=>hn (by simp[q])) (fun q=>hn (by simp[q])) e)
   (fun c o _ _ hn e _=>⟨o.slots,kp c o (fun q=>hn (by simp[q])) (fun q=>hn (by simp[q])) e⟩) (fun c o _ e n=>n) (fun c o hn e=>⟨o,kp c o (fun q=>hn (by simp[q])) (fun q=>hn (by simp[q])) e⟩)
   (fun _ _ e=>e) (fun _ _ _ e=>e) (fun c l e=>⟨#[],by rw[e];simp⟩) (fun m hm=>?_) (fun c o e=>?_) I.bare
  .have:c∈[z,TI,TO,i1,i2]:=by
    simp only[List.mem_cons,List.not_mem_nil,or_false]at ai⊢;rcases ai with q|q<;>simp[q]
   obtain⟨f0,f1,f2,f3,f4,f5⟩:=hf c this;exact⟨f3,f1,f4,f5⟩
  .obtain⟨o,dE,ep,ho,r⟩:=hm;exact⟨o,dE,ep,kp _ o (Ne.symm (hf z Zy).2.1) (Ne.symm (hf i1 Zy).2.1) ho,r⟩
  .have nn:∀d v c',c'∈[z,TI,TO,i1,i2]->H d=some v->d≠c':=fun d v c' ai q e'=>by
    have:=(hf c' ai).1;rw[<-e',q]at this;cases this
   have nz:∀d v,H d=some v->d≠z/\d≠i1:=fun d v q=>⟨nn d v z Zy q,nn d v i1 Zy q⟩
   refine(I.hok c o e).stay (fun d v hd q=>?_) (fun _ q=>q) fun _ _ q=>q;rcases hd with e'|e'
   .rw[e']at q⊢;exact kp c v (nz c o e).1 (nz c o e).2 q
   .exact kp d v (nz d _ e').1 (nz d _ e').2 q
 self:=fun _ _ _ _ _ st h=>wpAny_pyIter_zip st.1 h
section
variable{X:Cx}
def Kq(t1 t2:Bool)(K:Frag)(t:TA):TI:=fun σ H R=>t σ H fun vs H1=>∃a b xs ys,vs=[.ref a,.ref b]/\SQ t1 K H1 a xs/\SQ t2 K H1 b ys/\R (Itz t1 t2 K a b) H1
theorem pi_zip(t1 t2:Bool){es:List Expr}{k:Nat}{tp:Pos}{a b:Expr}{ta:TA}{p pos:Pos}(hg:Gl X "zip")(hm:X.mg "zip"=none)(ha:PA X [a,b] ta)(hs:starEach [a,b] X.env=[(false,eval a X.env),(false,eval b X.env)]:=by rfl)(nV:starEach [b] X.env=[(false,eval b X.env)]:=by rfl):
  PI X (.Tuple es k tp) (.Call (.Name "zip" p) [a,b] [] pos) (Kq t1 t2 X.K ta):=by
 intro Zt s σ H R I h;refine Call_ (gb I hg hm boot_zip (PyProof.Rows.callWith_type1 (thn (ha pos Zt s σ H _ I h) fun us s1=>?_) (by rw[hs,nV]) (by rw[nV];rfl)));rintro⟨vs,H1,I1,r1,q1⟩;obtain⟨x,y,xs,ys,e,hx,hy,q⟩:=q1;subst e;obtain⟨u,v,rfl,ru,rv⟩:=vals2 r1;cases ru;cases rv;obtain⟨Zr,_,p1,_⟩:=jK I1 hx;obtain⟨Ee,_,p2,_⟩:=jK I1 hy;refine call_zip_tt p1 p2 fun h' z1 z2 z3 z4 z5 kp=>?_;refine wpAny_pyIter_zip z1 ?_;have lx:x<s1.heap.objs.size:=by obtain⟨_,e,_⟩:=p1;exact zB0 e
 have ly:y<s1.heap.objs.size:=by obtain⟨_,e,_⟩:=p2;exact zB0 e
 refine⟨_,_,_,_,H1,rfl,I1.kept (t':=s1.toks) kp,zP (zipApart_new lx ly),⟨z1,z2,⟨_,_,z3⟩,z4,z5⟩,fun c hc=>?_,q⟩
 have hle:s1.heap.objs.size<=c:=by
  simp only[List.mem_cons,List.not_mem_nil,or_false]at hc;rcases hc with q|q|q|q|q<;>subst q
  .exact Nat.le_add_right _ 4
  .exact Nat.le_add_right _ 2
  .exact Nat.le_add_right _ 3
  .exact zA3 _
  .exact Nat.le_add_right _ 1
 exact I1.fpOk hle (I1.hok.fresh hle)
end
end L2.ZT
namespace L2
open PySem PySem.Spec PyProof.Rows PySem.Calls
section
variable{X:Cx}
theorem dX(hc:X.calm=true):di X (.builtin "sum") (fun xs H Q=>∃(p:Addr) (ns:List Int),xs=[.ref p]/\(SqL X.K H p (ns.map V.int)\/SqT X.K H p (ns.map V.int))/\Q (.int ns.sum) H):=by
 intro Zt s σ H xs us Q I r h;obtain⟨p,ns,rfl,hq,q⟩:=h;obtain⟨u,rfl,ru⟩:=vals1 r;cases ru
 have go:∀Zr:List Value,Vals (ns.map V.int) Zr->∃zs:Array (Int×Tok),Zr.toArray=intItems zs/\preSum (numAt zs) zs.size=ns.sum:=fun Zr rv=>by
  have hi:IntsAre Zr ns:=intsAre_of rv;obtain⟨zs,ez⟩:=(hi.allInts:AllInts Zr.toArray).items;refine⟨zs,ez,?_⟩;have en:numsOf Zr.toArray.toList=ns:=hi.numsOf;rw[ez,nums_intItems]at en;rw[preSum_eq,List.take_of_length_le Zy,en]
 rcases hq with hq|hq
 .obtain⟨Zr,rv,pl,hz⟩:=I.list hq;obtain⟨zs,ez,es⟩:=go Zr rv;refine sum_intListG (I.ok.hd hc) (ez▸pl.isList) fun h' tk t' hk=>?_;rw[es];exact⟨.int _,H,I.kept (t':=tk) hk,⟨t',rfl⟩,q⟩
 .obtain⟨Zr,rv,pl,hz⟩:=I.tuple hq;obtain⟨zs,ez,es⟩:=go Zr rv;have ht:s.heap.IsTuple p Zr.toArray:=pl;refine PySem.W.ktm_sumG (I.ok.hd hc) (ez▸ht) fun h' tk t' hk=>?_;rw[es];exact⟨.int _,H,I.kept (t':=tk) hk,⟨t',rfl⟩,q⟩
end
section
open PySem.W
variable{prog:Program}{w:World}{A:Around}{E:Value->Shared->Prop}{s:Shared}
end
section
variable{X:Cx}
end
end L2
namespace Srt
open PySem PyProof.Rows
def fB:Bool->Keyed->Array Keyed->Nat->Nat->Nat->StateT SortSt Sem (Option Nat):=sortPriv% PySem.Builtin.gallop
section
variable{prog:Program}{w:World}{A:Around}{E:Value->Shared->Prop}{s:Shared}{κ:PyProof.Rows.KeyKind}
def Jd(prog:Program)(w:World)(A:Around)(E:Value->Shared->Prop)(s:Shared)(κ:PyProof.Rows.KeyKind)(st:SortSt):Prop:=
 ∀(x y:Keyed) (a b:κ.α) (Q:Option Bool->SortSt->Prop),κ.keyOf x.1=some a->κ.keyOf y.1=some b->Q (some (κ.blt a b)) st->wpS (model prog w) A E s (lt' x y) Q st
theorem aZ{arr:Array Keyed}{i:Nat}{p:Keyed}{Q:Keyed->SortSt->Prop}{st:SortSt}(e:arr[i]?=some p)(h:Q p st):wpS (model prog w) A E s (elem' arr i) Q st:=by
 rw[elem'_eq,e];exact wpS_pure h
def bey(κ:PyProof.Rows.KeyKind)(left:Bool)(k:κ.α)(x:κ.α):Bool:=if left then κ.blt x k else !(κ.blt k x)
theorem dz{left:Bool}{key:Keyed}{arr:Array Keyed}{b n h:Nat}{Q:Option Nat->SortSt->Prop}{st:SortSt}{kk:κ.α}(hL:Jd prog w A E s κ st)(hk:κ.keyOf key.1=some kk)(hn:h<n)
  (iE:∀i,i<n->∃p a,arr[b+i]?=some p/\κ.keyOf p.1=some a/\KK κ arr (b+i)=a) (hm:∀i j,i<=j->j<n->bey κ left kk (KK κ arr (b+j))=true->bey κ left kk (KK κ arr (b+i))=true)
  (q:∀k,k<=n->(∀i,i<k->bey κ left kk (KK κ arr (b+i))=true)->(∀i,k<=i->i<n->bey κ left kk (KK κ arr (b+i))=false)->Q (some k) st):
  wpS (model prog w) A E s (fB left key arr b n h) Q st:=by
 have iF:∀(i:Nat) (R:Option Bool->SortSt->Prop),i<n->R (some (bey κ left kk (KK κ arr (b+i)))) st->wpS (model prog w) A E s (do
   let x <-elem' arr (b+i)
   if left=true then lt' x key else do
    let r <-lt' key x
    pure (Option.map (fun x=>!x) r)) R st:=fun i R hi hR=>by
  obtain⟨p,a,e1,e2,e3⟩:=iE i hi;refine wpS_bind (aZ e1 ?_);unfold bey at hR;rw[e3]at hR
  cases left with
  |true=>
   rw[zAz rfl];exact hL _ _ _ _ _ e2 hk hR
  |false=>
   rw[zAx Zx];exact wpS_bind (hL _ _ _ _ _ hk e2 (wpS_pure hR))
 generalize Nx:(fun i=>bey κ left kk (KK κ arr (b+i)))=β
 have EB:∀i,bey κ left kk (KK κ arr (b+i))=β i:=fun i=>by rw[<-Nx]
 simp only[EB]at iF hm q
 delta fB
 refine wpS_bind (iF h _ hn ?_)
 cases e0:β h with
 |true=>
  dsimp only;rw[if_pos rfl]
  refine wpS_bind (wpS_mono (wpS_forRange (I:=fun x c Zq=>Zq=st/\c.1=none/\c.2.1<c.2.2/\c.2.1<n-h/\x<c.2.2/\β (h+c.2.1)=true)
   (Q:=fun c Zq=>Zq=st/\c.1=none/\c.2.1<c.2.2/\c.2.1<n-h/\β (h+c.2.1)=true/\(c.2.2≥n-h\/(c.2.2<n-h/\β (h+c.2.2)=false))) ?_ ?_ ⟨rfl,rfl,(by show 0<1;decide),(by show 0<n-h;lia),(by show 0<1;decide),(show β (h+0)=true from e0)⟩) ?_)
  .rintro x ⟨c0,l,o⟩ Zq _ hx ⟨rfl,rfl,g1,g2,g3,g4⟩;dsimp only at g1 g2 g3 g4⊢;by_cases ho:o≥n-h
   .rw[zAz ho];exact wpS_pure ⟨rfl,rfl,g1,g2,g4,.inl ho⟩
   .rw[zAx ho];refine wpS_bind (iF (h+o) _ Zz ?_)
    cases eb:β (h+o)with
    |true=>
     dsimp only;rw[if_neg Zx];exact wpS_pure ⟨rfl,rfl,by dsimp only;lia,by dsimp only;lia,by dsimp only;lia,eb⟩
    |false=>
     dsimp only;rw[if_pos Zx];exact wpS_pure ⟨rfl,rfl,g1,g2,g4,.inr ⟨by dsimp only;lia,eb⟩⟩
  .rintro⟨c0,l,o⟩ Zq ⟨rfl,rfl,g1,g2,g3,g4⟩;dsimp only at g1 g2 g3 g4⊢;exact⟨rfl,rfl,g1,g2,g4,.inl Zz⟩
  .rintro⟨c0,l,o⟩ Zq ⟨rfl,rfl,g1,g2,g4,g5⟩;dsimp only at g1 g2 g4 g5⊢
   have w4:∀i,h+min o (n-h)<=i->i<n->β i=false:=fun i hi gp=>by
    rcases g5 with g5|⟨g5,g6⟩
    .lia
    .cases e2:β i with
     |false=>rfl
     |true=>
      have:=hm (h+o) i Zz gp e2;rw[g6]at this;cases this
   obtain⟨lo,dS⟩:∃lo,lo=h+l+1:=⟨_,rfl⟩
   obtain⟨hi,ja⟩:∃hi,hi=h+min o (n-h):=⟨_,rfl⟩
   have w1:lo<=hi:=Zz
   have w2:hi<=n:=Zz
   have w3:∀i,i<lo->β i=true:=fun i hi=>hm i (h+l) Zz Zz g4;have w4:∀i,hi<=i->i<n->β i=false:=by rw[ja];exact w4
   rw[<-dS,<-ja]
   refine wpS_bind (wpS_mono (wpS_forRange (I:=fun x c cE=>cE=Zq/\c.1=none/\c.2.1<=c.2.2/\c.2.2<=n/\c.2.2-c.2.1<=n-x/\(∀i,i<c.2.1->β i=true)/\(∀i,c.2.2<=i->i<n->β i=false))
    (Q:=fun c cE=>cE=Zq/\c.1=none/\c.2.2<=n/\(∀i,i<c.2.2->β i=true)/\(∀i,c.2.2<=i->i<n->β i=false)) ?_ ?_ ⟨rfl,rfl,w1,w2,(by show hi-lo<=n-0;lia),w3,w4⟩) ?_)
   .rintro x ⟨c0,l,r⟩ cE _ hx ⟨rfl,rfl,g1,g2,g3,g4,g5⟩;dsimp only at g1 g2 g3 g4 g5⊢;by_cases iL:l≥r
    .rw[zAz iL];have e:l=r:=Zz
     exact wpS_pure ⟨rfl,rfl,g2,by rw[<-e];exact g4,g5⟩
    .rw[zAx iL];refine wpS_bind (iF (l+(r-l) / 2) _ Zz ?_)
     cases eb:β (l+(r-l) / 2)with
     |true=>
      dsimp only;rw[if_pos rfl];exact wpS_pure ⟨rfl,rfl,by dsimp only;lia,g2,by dsimp only;lia,fun i hi=>hm i _ (by dsimp only at hi;lia) Zz eb,g5⟩
     |false=>
      dsimp only;rw[if_neg Zx];refine wpS_pure ⟨rfl,rfl,by dsimp only;lia,by dsimp only;lia,by dsimp only;lia,g4,fun i hi gp=>?_⟩
      cases e2:β i with
      |false=>rfl
      |true=>
       have:=hm (l+(r-l) / 2) i hi gp e2;rw[eb]at this;cases this
   .rintro⟨c0,l,r⟩ cE ⟨rfl,rfl,g1,g2,g3,g4,g5⟩;dsimp only at g1 g2 g3 g4 g5⊢;have e:l=r:=Zz
    exact⟨rfl,rfl,g2,by rw[<-e];exact g4,g5⟩
   .rintro⟨c0,l,r⟩ cE ⟨rfl,rfl,g1,g2,g3⟩;exact wpS_pure (q _ g1 g2 g3)
 |false=>
  dsimp only;rw[if_neg Zx]
  refine wpS_bind (wpS_mono (wpS_forRange (I:=fun x c Zq=>Zq=st/\c.1=none/\c.2.1<c.2.2/\c.2.1<h+1/\x<c.2.2/\β (h-c.2.1)=false)
   (Q:=fun c Zq=>Zq=st/\c.1=none/\c.2.1<c.2.2/\c.2.1<h+1/\β (h-c.2.1)=false/\(c.2.2≥h+1\/(c.2.2<h+1/\β (h-c.2.2)=true))) ?_ ?_ ⟨rfl,rfl,(by show 0<1;decide),(by show 0<h+1;lia),(by show 0<1;decide),(show β (h-0)=false from e0)⟩) ?_)
  .rintro x ⟨c0,l,o⟩ Zq _ hx ⟨rfl,rfl,g1,g2,g3,g4⟩;dsimp only at g1 g2 g3 g4⊢;by_cases ho:o≥h+1
   .rw[zAz ho];exact wpS_pure ⟨rfl,rfl,g1,g2,g4,.inl ho⟩
   .rw[zAx ho];refine wpS_bind (iF (h-o) _ Zz ?_)
    cases eb:β (h-o)with
    |false=>
     dsimp only;rw[if_neg Zx];exact wpS_pure ⟨rfl,rfl,by dsimp only;lia,by dsimp only;lia,by dsimp only;lia,eb⟩
    |true=>
     dsimp only;rw[if_pos rfl];exact wpS_pure ⟨rfl,rfl,g1,g2,g4,.inr ⟨by dsimp only;lia,eb⟩⟩
  .rintro⟨c0,l,o⟩ Zq ⟨rfl,rfl,g1,g2,g3,g4⟩;dsimp only at g1 g2 g3 g4⊢;exact⟨rfl,rfl,g1,g2,g4,.inl Zz⟩
  .rintro⟨c0,l,o⟩ Zq ⟨rfl,rfl,g1,g2,g4,g5⟩;dsimp only at g1 g2 g4 g5⊢
   have w3:∀i,i<h+1-min o (h+1)->β i=true:=fun i hi=>by
    rcases g5 with g5|⟨g5,g6⟩
    .lia
    .exact hm i (h-o) Zz Zz g6
   have w4:∀i,h-l<=i->i<n->β i=false:=fun i hi gp=>by
    cases e2:β i with
    |false=>rfl
    |true=>
     have:=hm (h-l) i hi gp e2;rw[g4]at this;cases this
   obtain⟨lo,dS⟩:∃lo,lo=h+1-min o (h+1):=⟨_,rfl⟩
   obtain⟨hi,ja⟩:∃hi,hi=h-l:=⟨_,rfl⟩
   have w1:lo<=hi:=Zz
   have w2:hi<=n:=Zz
   have w3:∀i,i<lo->β i=true:=by rw[dS];exact w3
   have w4:∀i,hi<=i->i<n->β i=false:=by rw[ja];exact w4
   rw[<-dS,<-ja]
   refine wpS_bind (wpS_mono (wpS_forRange (I:=fun x c cE=>cE=Zq/\c.1=none/\c.2.1<=c.2.2/\c.2.2<=n/\c.2.2-c.2.1<=n-x/\(∀i,i<c.2.1->β i=true)/\(∀i,c.2.2<=i->i<n->β i=false))
    (Q:=fun c cE=>cE=Zq/\c.1=none/\c.2.2<=n/\(∀i,i<c.2.2->β i=true)/\(∀i,c.2.2<=i->i<n->β i=false)) ?_ ?_ ⟨rfl,rfl,w1,w2,(by show hi-lo<=n-0;lia),w3,w4⟩) ?_)
   .rintro x ⟨c0,l,r⟩ cE _ hx ⟨rfl,rfl,g1,g2,g3,g4,g5⟩;dsimp only at g1 g2 g3 g4 g5⊢;by_cases iL:l≥r
    .rw[zAz iL];have e:l=r:=Zz
     exact wpS_pure ⟨rfl,rfl,g2,by rw[<-e];exact g4,g5⟩
    .rw[zAx iL];refine wpS_bind (iF (l+(r-l) / 2) _ Zz ?_)
     cases eb:β (l+(r-l) / 2)with
     |true=>
      dsimp only;rw[if_pos rfl];exact wpS_pure ⟨rfl,rfl,by dsimp only;lia,g2,by dsimp only;lia,fun i hi=>hm i _ (by dsimp only at hi;lia) Zz eb,g5⟩
     |false=>
      dsimp only;rw[if_neg Zx];refine wpS_pure ⟨rfl,rfl,by dsimp only;lia,by dsimp only;lia,by dsimp only;lia,g4,fun i hi gp=>?_⟩
      cases e2:β i with
      |false=>rfl
      |true=>
       have:=hm (l+(r-l) / 2) i hi gp e2;rw[eb]at this;cases this
   .rintro⟨c0,l,r⟩ cE ⟨rfl,rfl,g1,g2,g3,g4,g5⟩;dsimp only at g1 g2 g3 g4 g5⊢;have e:l=r:=Zz
    exact⟨rfl,rfl,g2,by rw[<-e];exact g4,g5⟩
   .rintro⟨c0,l,r⟩ cE ⟨rfl,rfl,g1,g2,g3⟩;exact wpS_pure (q _ g1 g2 g3)
end
abbrev Sm:=StateT SortSt Sem
def yt(lo a m:Nat):Sm AscSt:=
 forIn [a:m] ((none,a):AscSt) fun _ c=>do
  let x <-ltAt' (lo+c.snd) (lo+c.snd-1)
  match x with
  |some b=>if b=true then pure (ForInStep.done (none,c.snd))else pure (ForInStep.yield (none,c.snd+1))
  |_=>pure (ForInStep.done (some none,c.snd))
def oZ(lo n m:Nat):Sm (Option Nat):=do
 reverseSlice' lo (lo+n)
 let c <-yt lo n m
 match c.fst with
 |some r=>pure r
 |none=>pure (some c.snd)
def wG(lo n m:Nat):Sm DescSt:=
 forIn [n:m] ((none,n,0):DescSt) fun _ c=>do
  let x <-ltAt' (lo+c.snd.fst) (lo+c.snd.fst-1)
  match x with
  |some b=>
   if b=true then
    if c.snd.snd>0 then do
     reverseSlice' (lo+c.snd.fst-(c.snd.snd+1)) (lo+c.snd.fst)
     pure (ForInStep.yield (none,c.snd.fst+1,0))
    else pure (ForInStep.yield (none,c.snd.fst+1,0))
   else do
    let y <-ltAt' (lo+c.snd.fst-1) (lo+c.snd.fst)
    match y with
    |some d=>
     if d=true then pure (ForInStep.done (none,c.snd.fst,c.snd.snd))
     else pure (ForInStep.yield (none,c.snd.fst+1,c.snd.snd+1))
    |_=>pure (ForInStep.done (some none,c.snd.fst,c.snd.snd))
  |_=>pure (ForInStep.done (some none,c.snd.fst,c.snd.snd))
def ph(lo n m:Nat):Sm (Option Nat):=do
 liftM (rule "list.sort.descending-run")
 let c <-wG lo (n+1) m
 match c.fst with
 |some r=>pure r
 |none=>
  if c.snd.snd>0 then do
   reverseSlice' (lo+c.snd.fst-(c.snd.snd+1)) (lo+c.snd.fst)
   oZ lo c.snd.fst m
  else oZ lo c.snd.fst m
theorem bc{α β:Type}{m m':Sm α}{f f':α->Sm β}(h:m=m')(h':f=f'):(m>>=f)=(m'>>=f'):=by rw[h,h']
theorem yu(lo m:Nat):countRun' lo m=(do
  let c <-yt lo 1 m
  match c.fst with
  |some r=>pure r
  |none=>
   if(c.snd==m)=true then pure (some c.snd)
   else if c.snd>1 then do
    let x <-ltAt' lo (lo+c.snd-1)
    match x with
    |some b=>if b=true then pure (some c.snd)else do
      reverseSlice' lo (lo+c.snd)
      ph lo c.snd m
    |_=>pure none
   else ph lo c.snd m):=by
 rw[countRun'_eq]
 have tl:∀n:Nat,((do
   reverseSlice' lo (lo+n)
   let mut n:=n
   for _ in[n:m]do
    let some smaller <-ltAt' (lo+n) (lo+n-1)|return none
    if smaller then break
    n:=n+1
   return some n):Sm (Option Nat))=oZ lo n m:=fun n=>by
  unfold oZ yt;refine bc rfl (funext fun u=>bc rfl (funext fun c=>?_));obtain⟨r,n⟩:=c;cases r<;>rfl
 have pl:∀n:Nat,((do
   rule "list.sort.descending-run"
   let mut n:=n+1
   let mut neq:=0
   for _ in[n:m]do
    let some smaller <-ltAt' (lo+n) (lo+n-1)|return none
    if smaller then
     if neq>0 then reverseSlice' (lo+n-(neq+1)) (lo+n)
     neq:=0
    else
     let some larger <-ltAt' (lo+n-1) (lo+n)|return none
     if larger then break
     neq:=neq+1
    n:=n+1
   if neq>0 then reverseSlice' (lo+n-(neq+1)) (lo+n)
   reverseSlice' lo (lo+n)
   for _ in[n:m]do
    let some smaller <-ltAt' (lo+n) (lo+n-1)|return none
    if smaller then break
    n:=n+1
   return some n):Sm (Option Nat))=ph lo n m:=fun n=>by
  unfold ph wG;refine bc rfl (funext fun u=>bc rfl (funext fun c=>?_));obtain⟨r,n2,q2⟩:=c
  cases r with
  |some r=>rfl
  |none=>
   dsimp only;split
   .exact bc rfl (funext fun u=>tl n2)
   .exact tl n2
 unfold yt;refine bc rfl (funext fun c=>?_);obtain⟨r,n⟩:=c
 cases r with
 |some r=>rfl
 |none=>
  dsimp only;split
  .rfl
  .split
   .refine bc rfl (funext fun x=>?_)
    cases x with
    |none=>rfl
    |some b=>
     dsimp only;split
     .rfl
     .exact bc rfl (funext fun u=>pl n)
   .exact pl n
structure SB(ks:SortKind)(ab:Array Keyed)(st:SortSt):Prop where
 kind:kindOf st=ks
 ok:failedOf st=none
 pm:(arrOf st).Perm ab
def Seg(κ:PyProof.Rows.KeyKind)(xs:Array Keyed)(a b:Nat):Prop:=∀i j,a<=i->i<=j->j<b->κ.kle (KK κ xs i) (KK κ xs j)
def Non(κ:PyProof.Rows.KeyKind)(xs:Array Keyed)(a b:Nat):Prop:=∀i j,a<=i->i<=j->j<b->κ.kle (KK κ xs j) (KK κ xs i)
structure Out(st Zq:SortSt)(a b:Nat):Prop where
 out:∀k,(k<a\/b<=k)->(arrOf Zq)[k]?=(arrOf st)[k]?
 pend:pendingOf Zq=pendingOf st
theorem Out.refl(st:SortSt)(a b:Nat):Out st st a b:=⟨fun _ _=>rfl,rfl⟩
theorem Out.trans{st fE st2:SortSt}{a b:Nat}(h:Out st fE a b)(h':Out fE st2 a b):Out st st2 a b:=⟨fun k hk=>(h'.out k hk).trans (h.out k hk),h'.pend.trans h.pend⟩
section
variable{prog:Program}{w:World}{A:Around}{E:Value->Shared->Prop}{s:Shared}{κ:PyProof.Rows.KeyKind}{ks:SortKind}{ab:Array Keyed}
def LtAll(prog:Program)(w:World)(A:Around)(E:Value->Shared->Prop)(s:Shared)(κ:PyProof.Rows.KeyKind)(ks:SortKind):Prop:=∀st,kindOf st=ks->Jd prog w A E s κ st
theorem SB.size{st:SortSt}(B:SB ks ab st):(arrOf st).size=ab.size:=B.pm.size_eq
theorem SB.item{st:SortSt}(B:SB ks ab st)(h0:KeysOf κ ab){i:Nat}(hi:i<ab.size):∃p a,(arrOf st)[i]?=some p/\κ.keyOf p.1=some a/\KK κ (arrOf st) i=a:=by
 have dP:i<(arrOf st).size:=by rw[B.size];exact hi
 have e:(arrOf st)[i]?=some (arrOf st)[i]:=Array.getElem?_eq_getElem dP;have hm:(arrOf st)[i]∈ab.toList:=(Array.perm_iff_toList_perm.mp B.pm).mem_iff.mp (Array.mem_toList_iff.mpr (Array.getElem_mem dP));obtain⟨a,ha⟩:=h0 _ hm;refine⟨_,a,e,ha,?_⟩;unfold KK;rw[e];dsimp only;rw[ha];rfl
theorem SB.arr{st:SortSt}(B:SB ks ab st){xs:Array Keyed}(h:xs.Perm (arrOf st)):SB ks ab (setArr st xs):=⟨B.kind,B.ok,h.trans B.pm⟩
theorem ltA(hL:LtAll prog w A E s κ ks){st:SortSt}{i j:Nat}{Q:Option Bool->SortSt->Prop}(B:SB ks ab st)(h0:KeysOf κ ab)(hi:i<ab.size)(hj:j<ab.size)(h:Q (some (κ.blt (KK κ (arrOf st) i) (KK κ (arrOf st) j))) st):
  wpS (model prog w) A E s (ltAt' i j) Q st:=by
 obtain⟨p,a,e1,ka,ea⟩:=B.item (κ:=κ) h0 hi;obtain⟨q,b,e2,kb,eb⟩:=B.item (κ:=κ) h0 hj;rw[ea,eb]at h;rw[ltAt'_eq];refine wpS_bind (wpS_get (wpS_bind (aZ e1 (wpS_bind (aZ e2 ?_)))));exact hL st B.kind p q a b Q ka kb h
theorem qU{st:SortSt}{i j:Nat}{Q:Unit->SortSt->Prop}(h:Q () (setArr st (mirror (arrOf st) i j ((j-i) / 2)))):wpS (model prog w) A E s (reverseSlice' i j) Q st:=wpS_reverse h
theorem Out.rev{st:SortSt}{i j a b:Nat}(hj:j<=(arrOf st).size)(h1:a<=i)(h2:j<=b):Out st (setArr st (mirror (arrOf st) i j ((j-i) / 2))) a b:=by
 refine⟨fun k hk=>?_,rfl⟩;show(mirror (arrOf st) i j ((j-i) / 2))[k]?=_;rw[getElem?_mirror_all hj,zAx Zz]
theorem wH(hL:LtAll prog w A E s κ ks)(h0:KeysOf κ ab){st:SortSt}{lo a m:Nat}{Q:AscSt->SortSt->Prop}(hn:lo+m<=ab.size)(ha:1<=a)(Ny:a<=m)(B:SB ks ab st)(hs:Seg κ (arrOf st) lo (lo+a))
  (h:∀n,a<=n->n<=m->Seg κ (arrOf st) lo (lo+n)->(n=m\/κ.klt (KK κ (arrOf st) (lo+n)) (KK κ (arrOf st) (lo+n-1)))->Q (none,n) st):wpS (model prog w) A E s (yt lo a m) Q st:=by
 unfold yt;refine wpS_forRange (I:=fun x c Zq=>Zq=st/\c=(none,x)/\Seg κ (arrOf st) lo (lo+x)) ?_ ?_ ⟨rfl,rfl,hs⟩
 .rintro x c Zq EC Nz ⟨rfl,rfl,cw⟩;dsimp only;refine wpS_bind (ltA hL B h0 Zz Zz ?_)
  cases e:κ.blt (KK κ (arrOf Zq) (lo+x)) (KK κ (arrOf Zq) (lo+x-1))with
  |true=>
   dsimp only;rw[if_pos rfl];exact wpS_pure (h x EC Zz cw (.inr e))
  |false=>
   dsimp only;rw[if_neg Zx];refine wpS_pure ⟨rfl,rfl,fun i j hi cv hj=>?_⟩;by_cases AG:j<lo+x
   .exact cw i j hi cv AG
   .have ej:j=lo+x:=Zz
    subst ej;by_cases ei:i=lo+x
    .rw[ei];exact KeyOrd.kle_refl _
    .exact KeyOrd.kle_trans (cw i (lo+x-1) hi Zz Zz) e
 .rintro c Zq ⟨rfl,rfl,cw⟩;rw[show max a m=m by lia]at cw⊢;exact h m Ny (zA3 _) cw (.inl rfl)
theorem tQ(hL:LtAll prog w A E s κ ks)(h0:KeysOf κ ab){st:SortSt}{lo n m:Nat}{Q:Option Nat->SortSt->Prop}(hn:lo+m<=ab.size)(h1:1<=n)(mM:n<=m)(B:SB ks ab st)(hs:Non κ (arrOf st) lo (lo+n))
  (h:∀k Zq,SB ks ab Zq->Out st Zq lo (lo+m)->1<=k->k<=m->Seg κ (arrOf Zq) lo (lo+k)->Q (some k) Zq):wpS (model prog w) A E s (oZ lo n m) Q st:=by
 unfold oZ;have hsz:lo+n<=(arrOf st).size:=by rw[B.size];lia
 refine wpS_bind (qU ?_);have B':=B.arr (mirror_perm (arrOf st) lo (lo+n) ((lo+n-lo) / 2));refine wpS_bind (wH hL h0 hn h1 mM B' ?_ fun k Tg AH NA _=>wpS_pure (h k _ B' (Out.rev hsz (zA3 _) Zz) Zz AH NA));intro i j hi cv hj;show κ.kle (KK κ (mirror (arrOf st) lo (lo+n) ((lo+n-lo) / 2)) i) (KK κ (mirror (arrOf st) lo (lo+n) ((lo+n-lo) / 2)) j);rw[KK_mirror hsz,KK_mirror hsz,zAz Zz,zAz Zz];exact hs _ _ Zz Zz Zz
theorem zQ(hL:LtAll prog w A E s κ ks)(h0:KeysOf κ ab){st:SortSt}{lo n m:Nat}{Q:DescSt->SortSt->Prop}(hn:lo+m<=ab.size)(h1:1<=n)(mM:n<=m)(B:SB ks ab st)(hs:Non κ (arrOf st) lo (lo+n))
  (h:∀k q Zq,SB ks ab Zq->Out st Zq lo (lo+m)->n<=k->k<=m->Non κ (arrOf Zq) lo (lo+k)->q+1<=k->(∀i,lo+k-(q+1)<=i->i<lo+k->KK κ (arrOf Zq) i=KK κ (arrOf Zq) (lo+k-1))->Q (none,k,q) Zq):
  wpS (model prog w) A E s (wG lo n m) Q st:=by
 unfold wG
 refine wpS_forRange (I:=fun x c Zq=>∃q,c=(none,x,q)/\SB ks ab Zq/\Out st Zq lo (lo+m)/\Non κ (arrOf Zq) lo (lo+x)/\q+1<=x/\(∀i,lo+x-(q+1)<=i->i<lo+x->KK κ (arrOf Zq) i=KK κ (arrOf Zq) (lo+x-1))) ?_ ?_
  ⟨0,rfl,B,Out.refl _ _ _,hs,Zz,fun i z1 z2=>by congr 1;lia⟩
 .rintro x c Zq EC Nz ⟨q,rfl,B',O',cw,hq,he⟩;dsimp only;have hsz:lo+x<=(arrOf Zq).size:=by rw[B'.size];lia
  refine wpS_bind (ltA hL B' h0 Zz Zz ?_)
  cases e:κ.blt (KK κ (arrOf Zq) (lo+x)) (KK κ (arrOf Zq) (lo+x-1))with
  |true=>
   dsimp only;rw[if_pos rfl]
   have more:∀xs:Array Keyed,(∀k,KK κ xs k=KK κ (arrOf Zq) k)->Non κ xs lo (lo+(x+1)):=fun xs hk i j hi cv hj=>by
    rw[hk,hk];by_cases AG:j<lo+x
    .exact cw i j hi cv AG
    .have ej:j=lo+x:=Zz
     subst ej;by_cases ei:i=lo+x
     .rw[ei];exact KeyOrd.kle_refl _
     .exact KeyOrd.kle_trans (KeyOrd.kle_of_klt e) (cw i (lo+x-1) hi Zz Zz)
   by_cases AI:q>0
   .rw[zAz AI];refine wpS_bind (qU (wpS_pure ⟨0,rfl,B'.arr (mirror_perm _ _ _ _),O'.trans (Out.rev hsz Zz Zz),more _ (KK_mirror_equal hsz he),Zz,fun i z1 z2=>by congr 1;lia⟩))
   .rw[zAx AI];exact wpS_pure ⟨0,rfl,B',O',more _ (fun _=>rfl),Zz,fun i z1 z2=>by congr 1;lia⟩
  |false=>
   dsimp only;rw[if_neg Zx];refine wpS_bind (ltA hL B' h0 Zz Zz ?_)
   cases e2:κ.blt (KK κ (arrOf Zq) (lo+x-1)) (KK κ (arrOf Zq) (lo+x))with
   |true=>
    dsimp only;rw[if_pos rfl];exact wpS_pure (h x q Zq B' O' EC Zz cw hq he)
   |false=>
    dsimp only;rw[if_neg Zx];have ex:KK κ (arrOf Zq) (lo+x)=KK κ (arrOf Zq) (lo+x-1):=KeyOrd.kle_antisymm e2 e;refine wpS_pure ⟨q+1,rfl,B',O',fun i j hi cv hj=>?_,Zz,fun i z1 z2=>?_⟩
    .by_cases AG:j<lo+x
     .exact cw i j hi cv AG
     .have ej:j=lo+x:=Zz
      subst ej;by_cases ei:i=lo+x
      .rw[ei];exact KeyOrd.kle_refl _
      .rw[ex];exact cw i (lo+x-1) hi Zz Zz
    .rw[show lo+(x+1)-1=lo+x by lia];by_cases ei:i=lo+x
     .rw[ei]
     .rw[ex];exact he i Zz Zz
 .rintro c Zq ⟨q,rfl,B',O',cw,hq,he⟩;rw[show max n m=m by lia]at cw hq he⊢;exact h m q Zq B' O' mM (zA3 _) cw hq he
theorem tR(hL:LtAll prog w A E s κ ks)(h0:KeysOf κ ab){st:SortSt}{lo n m:Nat}{Q:Option Nat->SortSt->Prop}(hn:lo+m<=ab.size)(mM:n+1<=m)(B:SB ks ab st)(hs:Non κ (arrOf st) lo (lo+(n+1)))
  (h:∀k Zq,SB ks ab Zq->Out st Zq lo (lo+m)->1<=k->k<=m->Seg κ (arrOf Zq) lo (lo+k)->Q (some k) Zq):wpS (model prog w) A E s (ph lo n m) Q st:=by
 unfold ph;refine wpS_bind (wpS_lift (wpAny_rule ⟨rfl,?_⟩));refine wpS_bind (zQ hL h0 hn Zz mM B hs fun k q Zq B' O' k1 k2 cw hq he=>?_);dsimp only;have hsz:lo+k<=(arrOf Zq).size:=by rw[B'.size];lia
 by_cases AI:q>0
 .rw[zAz AI];refine wpS_bind (qU (tQ hL h0 hn Zz k2 (B'.arr (mirror_perm _ _ _ _)) ?_ fun k' st2 B2 O2=>h k' st2 B2 ((O'.trans (Out.rev hsz Zz Zz)).trans O2)));intro i j hi cv hj;show κ.kle (KK κ (mirror (arrOf Zq) _ _ _) j) (KK κ (mirror (arrOf Zq) _ _ _) i);rw[KK_mirror_equal hsz he,KK_mirror_equal hsz he];exact cw i j hi cv hj
 .rw[zAx AI];exact tQ hL h0 hn Zz k2 B' cw fun k' st2 B2 O2=>h k' st2 B2 (O'.trans O2)
theorem zR(hL:LtAll prog w A E s κ ks)(h0:KeysOf κ ab){st:SortSt}{lo m:Nat}{Q:Option Nat->SortSt->Prop}(hn:lo+m<=ab.size)(h1:1<=m)(B:SB ks ab st)
  (h:∀k Zq,SB ks ab Zq->Out st Zq lo (lo+m)->1<=k->k<=m->Seg κ (arrOf Zq) lo (lo+k)->Q (some k) Zq):wpS (model prog w) A E s (countRun' lo m) Q st:=by
 rw[yu];refine wpS_bind (wH hL h0 hn (zA3 1) h1 B (fun i j hi cv hj=>by have:i=j:=Zz;rw[this];exact KeyOrd.kle_refl _) fun n n1 n2 CA NB=>?_);dsimp only;by_cases mM:n=m
 .rw[if_pos (by simpa using mM)];exact wpS_pure (h n st B (Out.refl _ _ _) n1 n2 CA)
 .rw[if_neg (by simpa using mM)];have ay:=NB.resolve_left mM;by_cases Ld:n>1
  .rw[zAz Ld];refine wpS_bind (ltA hL B h0 Zz Zz ?_)
   cases e:κ.blt (KK κ (arrOf st) lo) (KK κ (arrOf st) (lo+n-1))with
   |true=>
    dsimp only;rw[if_pos rfl];exact wpS_pure (h n st B (Out.refl _ _ _) n1 n2 CA)
   |false=>
    dsimp only;rw[if_neg Zx];have hsz:lo+n<=(arrOf st).size:=by rw[B.size];lia
    have bP:∀k,lo<=k->k<lo+n->KK κ (arrOf st) k=KK κ (arrOf st) (lo+n-1):=fun k vt hk=>by
     have a1:=CA lo k (zA3 _) vt hk;have a2:=CA k (lo+n-1) vt Zz Zz;exact KeyOrd.kle_antisymm a2 (KeyOrd.kle_trans e a1)
    refine wpS_bind (qU (tR hL h0 hn Zz (B.arr (mirror_perm _ _ _ _)) ?_ fun k st2 B2 O2=>h k st2 B2 ((Out.rev hsz (zA3 _) Zz).trans O2)));intro i j hi cv hj;show κ.kle (KK κ (mirror (arrOf st) _ _ _) j) (KK κ (mirror (arrOf st) _ _ _) i);rw[KK_mirror_equal hsz bP,KK_mirror_equal hsz bP];by_cases NC:j<lo+n
    .rw[bP i hi Zz,bP j Zz NC];exact KeyOrd.kle_refl _
    .have ej:j=lo+n:=Zz
     subst ej;by_cases ei:i=lo+n
     .rw[ei];exact KeyOrd.kle_refl _
     .rw[bP i hi Zz];exact KeyOrd.kle_of_klt ay
  .rw[zAx Ld];have e1:n=1:=Zz
   subst e1;refine tR hL h0 hn Zz B ?_ h;intro i j hi cv hj;by_cases ei:i=j
   .rw[ei];exact KeyOrd.kle_refl _
   .have i0:i=lo:=Zz
    have j1:j=lo+1:=Zz
    rw[i0,j1];exact KeyOrd.kle_of_klt ay
theorem Ho(hL:LtAll prog w A E s κ ks)(h0:KeysOf κ ab){st:SortSt}{lo n ok:Nat}{Q:Bool->SortSt->Prop}(hn:lo+n<=ab.size)(hok:ok<=n)(B:SB ks ab st)(hs:Seg κ (arrOf st) lo (lo+ok))
  (h:∀Zq,SB ks ab Zq->Out st Zq lo (lo+n)->Seg κ (arrOf Zq) lo (lo+n)->Q true Zq):wpS (model prog w) A E s (binarySort' lo n ok) Q st:=by
 rw[binarySort'_eq]
 refine wpS_bind (wpS_mono (wpS_forRange (I:=fun k c Zq=>c=(none,())/\SB ks ab Zq/\Out st Zq lo (lo+n)/\Seg κ (arrOf Zq) lo (lo+min k n))
  (Q:=fun c Zq=>c=(none,())/\SB ks ab Zq/\Out st Zq lo (lo+n)/\Seg κ (arrOf Zq) lo (lo+n)) ?_ ?_ ?_) ?_)
 .rintro k c Zq vt Th ⟨rfl,B',O',cw⟩;rw[show min k n=k by lia]at cw
  refine wpS_bind (wpS_mono (wpS_forRange (I:=fun x c st2=>st2=Zq/\∃l r,c=(none,l,r)/\l<=r/\r<=k/\r-l<=k-x/\(∀i,i<l->κ.kle (KK κ (arrOf Zq) (lo+i)) (KK κ (arrOf Zq) (lo+k)))/\(∀i,r<=i->i<k->κ.klt (KK κ (arrOf Zq) (lo+k)) (KK κ (arrOf Zq) (lo+i))))
   (Q:=fun c st2=>st2=Zq/\∃l r,c=(none,l,r)/\l<=k/\(∀i,i<l->κ.kle (KK κ (arrOf Zq) (lo+i)) (KK κ (arrOf Zq) (lo+k)))/\(∀i,l<=i->i<k->κ.klt (KK κ (arrOf Zq) (lo+k)) (KK κ (arrOf Zq) (lo+i)))) ?_ ?_ ?_) ?_)
  .rintro x c st2 _ Ti ⟨rfl,l,r,rfl,iL,vw,hm,dS,ja⟩;dsimp only;by_cases sf:l≥r
   .rw[zAz sf];have e:l=r:=Zz
    subst e;exact wpS_pure ⟨rfl,l,l,rfl,vw,dS,ja⟩
   .rw[zAx sf];refine wpS_bind (ltA hL B' h0 Zz Zz ?_)
    cases e:κ.blt (KK κ (arrOf st2) (lo+k)) (KK κ (arrOf st2) (lo+(l+r) / 2))with
    |true=>
     dsimp only;rw[if_pos rfl];exact wpS_pure ⟨rfl,l,(l+r) / 2,rfl,Zz,Zz,Zz,dS,fun i z1 z2=>KeyOrd.klt_of_klt_of_kle e (cw (lo+(l+r) / 2) (lo+i) Zz Zz Zz)⟩
    |false=>
     dsimp only;rw[if_neg Zx];exact wpS_pure ⟨rfl,(l+r) / 2+1,r,rfl,Zz,Zz,Zz,fun i z1=>KeyOrd.kle_trans (cw (lo+i) (lo+(l+r) / 2) Zz Zz Zz) (show κ.kle _ _ from e),ja⟩
  .rintro c st2 ⟨rfl,l,r,rfl,iL,vw,hm,dS,ja⟩;have e:l=r:=Zz
   subst e;exact⟨rfl,l,l,rfl,vw,dS,ja⟩
  .exact⟨rfl,0,k,rfl,Zz,Zz,Zz,fun i hi=>by lia,fun i z1 z2=>by lia⟩
  .rintro c st2 ⟨rfl,l,r,rfl,vx,dS,ja⟩;show wpS _ _ _ _ (do moveDown' (lo+k) (lo+l);pure (ForInStep.yield (none,()))) _ _;rw[moveDown'_eq];have ED:lo+k<(arrOf st2).size:=by rw[B'.size];lia
   refine wpS_bind (wpS_modify (wpS_pure ⟨rfl,B'.arr (bubble_perm _ _ _),O'.trans ⟨fun z hz=>?_,rfl⟩,?_⟩))
   .show(bubble (arrOf st2) (lo+k) (lo+k-(lo+l)))[z]?=_;rw[getElem?_bubble ED _ Zz,zAx Zz,zAx Zz]
   .rw[show min (k+1) n=k+1 by lia];intro i j hi cv hj;show κ.kle (KK κ (bubble (arrOf st2) (lo+k) (lo+k-(lo+l))) i) (KK κ (bubble (arrOf st2) (lo+k) (lo+k-(lo+l))) j);rw[KK_bubble ED Zz,KK_bubble ED Zz,show lo+k-(lo+k-(lo+l))=lo+l by lia]
    have EE:∀z,lo<=z->z<lo+l->κ.kle (KK κ (arrOf st2) z) (KK κ (arrOf st2) (lo+k)):=fun z z1 z2=>by
     have:=dS (z-lo) Zz;rw[show lo+(z-lo)=z by lia]at this;exact this
    have EF:∀z,lo+l<=z->z<lo+k->κ.kle (KK κ (arrOf st2) (lo+k)) (KK κ (arrOf st2) z):=fun z z1 z2=>by
     have:=ja (z-lo) Zz Zz;rw[show lo+(z-lo)=z by lia]at this;exact KeyOrd.kle_of_klt this
    repeat' split
    all_goals first
     | (exfalso;lia)
     |exact KeyOrd.kle_refl _
     |exact EE _ Zz Zz
     |exact EF _ Zz Zz
     |exact cw _ _ Zz Zz Zz
 .rintro c Zq ⟨hc,B',O',cw⟩;refine⟨hc,B',O',?_⟩
  rwa [show min (max (max ok 1) n) n=n by lia]at cw
 .refine⟨rfl,B,Out.refl _ _ _,fun i j hi cv hj=>?_⟩;by_cases z:ok=0
  .have e:i=j:=Zz
   rw[e];exact KeyOrd.kle_refl _
  .exact hs i j hi cv Zz
 .rintro c Zq ⟨rfl,B',O',cw⟩;exact wpS_pure (h Zq B' O' cw)
end
section
variable{α:Type}{le:α->α->Prop}
structure MI(le:α->α->Prop)(la lb lo:List α)(ia ib:Nat):Prop where
 pm:lo.Perm (la.take ia++lb.take ib)
 sr:lo.Pairwise le
 be:∀x∈lo,∀y,y∈la.drop ia\/y∈lb.drop ib->le x y
theorem gR{l:List α}{i j:Nat}{y:α}(cv:i<=j)(h:y∈l.drop j):y∈l.drop i:=by
 have:l.drop j=(l.drop i).drop (j-i):=by rw[List.drop_drop];congr 1;lia
 rw[this]at h;exact List.mem_of_mem_drop h
theorem wI{l:List α}(h:l.Pairwise le){i j:Nat}(cv:i<=j):∀x∈(l.drop i).take (j-i),∀y∈l.drop j,le x y:=by
 have e:l.drop i=(l.drop i).take (j-i)++l.drop j:=by
  have:=zB9 (j-i) (l.drop i);rw[List.drop_drop]at this;rw[show i+(j-i)=j by lia]at this;exact this.symm
 have hp:(l.drop i).Pairwise le:=h.sublist (List.drop_sublist _ _);rw[e]at hp;exact fun x hx y hy=>(List.pairwise_append.mp hp).2.2 x hx y hy
theorem pq(l:List α)(i k:Nat):l.take (i+k)=l.take i++(l.drop i).take k:=List.take_add
theorem MI.segA{la lb lo:List α}{ia ib k:Nat}(m:MI le la lb lo ia ib)(sa:la.Pairwise le)(h:∀x∈(la.drop ia).take k,∀y∈lb.drop ib,le x y):MI le la lb (lo++(la.drop ia).take k) (ia+k) ib:=by
 refine⟨?_,List.pairwise_append.mpr ⟨m.sr,(sa.sublist (List.drop_sublist _ _)).sublist (List.take_sublist _ _),fun x hx y hy=>m.be x hx y (.inl (List.mem_of_mem_take hy))⟩,fun x hx y hy=>?_⟩
 .rw[pq];refine(m.pm.append_right _).trans ?_;rw[zAf,zAf];exact List.Perm.append_left _ (List.perm_append_comm)
 .rcases zA6.mp hx with z|z
  .exact m.be x z y (hy.imp (gR Zz) id)
  .rcases hy with hy|hy
   .have:=wI sa (i:=ia) (j:=ia+k) Zz x (by rw[show ia+k-ia=k by lia];exact z) y hy;exact this
   .exact h x z y hy
theorem MI.segB{la lb lo:List α}{ia ib k:Nat}(m:MI le la lb lo ia ib)(sb:lb.Pairwise le)(h:∀x∈(lb.drop ib).take k,∀y∈la.drop ia,le x y):MI le la lb (lo++(lb.drop ib).take k) ia (ib+k):=by
 refine⟨?_,List.pairwise_append.mpr ⟨m.sr,(sb.sublist (List.drop_sublist _ _)).sublist (List.take_sublist _ _),fun x hx y hy=>m.be x hx y (.inr (List.mem_of_mem_take hy))⟩,fun x hx y hy=>?_⟩
 .rw[pq];refine(m.pm.append_right _).trans ?_;rw[zAf]
 .rcases zA6.mp hx with z|z
  .exact m.be x z y (hy.imp id (gR Zz))
  .rcases hy with hy|hy
   .exact h x z y hy
   .have:=wI sb (i:=ib) (j:=ib+k) Zz x (by rw[show ib+k-ib=k by lia];exact z) y hy;exact this
structure Done(le:α->α->Prop)(la lb lo:List α):Prop where
 pm:lo.Perm (la++lb)
 sr:lo.Pairwise le
theorem MI.endB{la lb lo:List α}{ia ib:Nat}(m:MI le la lb lo ia ib)(sa:la.Pairwise le)(hb:lb.length<=ib):Done le la lb (lo++la.drop ia++lb.drop ib):=by
 have e:lb.drop ib=[]:=List.drop_of_length_le hb;have e2:lb.take ib=lb:=List.take_of_length_le hb;rw[e,zAn];refine⟨?_,List.pairwise_append.mpr ⟨m.sr,sa.sublist (List.drop_sublist _ _),fun x hx y hy=>m.be x hx y (.inl hy)⟩⟩;have:=m.pm;rw[e2]at this;refine(this.append_right _).trans ?_;rw[zAf];refine(List.Perm.append_left _ List.perm_append_comm).trans ?_;rw[<-zAf,zB9]
theorem MI.endA{la lb lo:List α}{ia ib:Nat}(m:MI le la lb lo ia ib)(sb:lb.Pairwise le)(ha:la.length<=ia):Done le la lb (lo++la.drop ia++lb.drop ib):=by
 have e:la.drop ia=[]:=List.drop_of_length_le ha;have e2:la.take ia=la:=List.take_of_length_le ha;rw[e,zAn];refine⟨?_,List.pairwise_append.mpr ⟨m.sr,sb.sublist (List.drop_sublist _ _),fun x hx y hy=>m.be x hx y (.inr hy)⟩⟩;have:=m.pm;rw[e2]at this;refine(this.append_right _).trans ?_;rw[zAf,zB9]
theorem MI.last{la lb lo:List α}{ia ib:Nat}(m:MI le la lb lo ia ib)(sa:la.Pairwise le)(sb:lb.Pairwise le)(h:∀y∈lb.drop ib,∀x∈la.drop ia,le y x):Done le la lb (lo++lb.drop ib++la.drop ia):=by
 refine⟨?_,List.pairwise_append.mpr ⟨List.pairwise_append.mpr ⟨m.sr,sb.sublist (List.drop_sublist _ _),fun x hx y hy=>m.be x hx y (.inr hy)⟩,sa.sublist (List.drop_sublist _ _),fun x hx y hy=>?_⟩⟩
 .refine((m.pm.append_right _).append_right _).trans ?_
  have e:(la.take ia++lb.take ib++lb.drop ib++la.drop ia)=la.take ia++(lb++la.drop ia):=by
   rw[zAf (la.take ia),zB9,zAf]
  rw[e];refine(List.Perm.append_left _ List.perm_append_comm).trans ?_;rw[<-zAf,zB9]
 .rcases zA6.mp hx with z|z
  .exact m.be x z y (.inl hy)
  .exact h x z y hy
end
def jb:Array Keyed->Array Keyed->Sm (Array Keyed):=sortPriv% PySem.Builtin.mergeLo
def jc:Nat->Sm Unit:=sortPriv% PySem.Builtin.setMinGallop
abbrev C1:=Option (Array Keyed)×Array Keyed×Nat×Nat×Nat×Nat
abbrev C2:=Option (Array Keyed)×Array Keyed×Nat×Nat×Nat×Nat×Nat
abbrev C0:=Option (Array Keyed)×Array Keyed×Nat×Nat×Nat
def one(a b:Array Keyed)(g:Nat)(out:Array Keyed)(ia ib ac bc:Nat):Sm (ForInStep C1):=do
 let y <-elem' b ib
 let x <-elem' a ia
 let r <-lt' y x
 match r with
 |some w=>
  if w=true then do
   let y <-elem' b ib
   if(ib+1==b.size)=true then pure (ForInStep.done (some (out.push y++a.extract ia a.size++b.extract (ib+1) b.size),out.push y,ia,ib+1,0,bc+1))
   else if bc+1≥g then pure (ForInStep.done (none,out.push y,ia,ib+1,0,bc+1))else pure (ForInStep.yield (none,out.push y,ia,ib+1,0,bc+1))
  else do
   let x <-elem' a ia
   if(ia+1+1==a.size)=true then pure (ForInStep.done (some (out.push x++b.extract ib b.size++a.extract (ia+1) a.size),out.push x,ia+1,ib,ac+1,0))
   else if ac+1≥g then pure (ForInStep.done (none,out.push x,ia+1,ib,ac+1,0))else pure (ForInStep.yield (none,out.push x,ia+1,ib,ac+1,0))
 |_=>pure (ForInStep.done (some (out++a.extract ia a.size++b.extract ib b.size),out,ia,ib,ac,bc))
def gl4(a b:Array Keyed)(out:Array Keyed)(ia ib g k k1:Nat):Sm (ForInStep C2):=do
 let x <-elem' a ia
 if(ia+1+1==a.size)=true then pure (ForInStep.done (some (out.push x++b.extract ib b.size++a.extract (ia+1) a.size),out.push x,ia+1,ib,g,k,k1))
 else if(decide (k<7)&&decide (k1<7))=true then pure (ForInStep.done (none,out.push x,ia+1,ib,g,k,k1))else pure (ForInStep.yield (none,out.push x,ia+1,ib,g,k,k1))
def gl3(a b:Array Keyed)(out:Array Keyed)(ia ib g k bc:Nat):Sm (ForInStep C2):=do
 let x <-elem' a ia
 let r <-fB true x b ib (b.size-ib) 0
 match r with
 |some k1=>
  if k1>0 then
   if(ib+k1==b.size)=true then pure (ForInStep.done (some (out++b.extract ib (ib+k1)++a.extract ia a.size++b.extract (ib+k1) b.size),out++b.extract ib (ib+k1),ia,ib+k1,g,k,k1))
   else gl4 a b (out++b.extract ib (ib+k1)) ia (ib+k1) g k k1
  else gl4 a b out ia ib g k k1
 |_=>pure (ForInStep.done (some (out++a.extract ia a.size++b.extract ib b.size),out,ia,ib,g,k,bc))
def gl2(a b:Array Keyed)(out:Array Keyed)(ia ib g k bc:Nat):Sm (ForInStep C2):=do
 let y <-elem' b ib
 if(ib+1==b.size)=true then pure (ForInStep.done (some (out.push y++a.extract ia a.size++b.extract (ib+1) b.size),out.push y,ia,ib+1,g,k,bc))
 else gl3 a b (out.push y) ia (ib+1) g k bc
def gl1(a b:Array Keyed)(out:Array Keyed)(ia ib g ac bc:Nat):Sm (ForInStep C2):=do
 jc g
 let y <-elem' b ib
 let r <-fB false y a ia (a.size-ia) 0
 match r with
 |some k=>
  if k>0 then
   if(ia+k+1==a.size)=true then pure (ForInStep.done (some (out++a.extract ia (ia+k)++b.extract ib b.size++a.extract (ia+k) a.size),out++a.extract ia (ia+k),ia+k,ib,g,k,bc))
   else if(ia+k==a.size)=true then pure (ForInStep.done (some (out++a.extract ia (ia+k)++a.extract (ia+k) a.size++b.extract ib b.size),out++a.extract ia (ia+k),ia+k,ib,g,k,bc))
   else gl2 a b (out++a.extract ia (ia+k)) (ia+k) ib g k bc
  else gl2 a b out ia ib g k bc
 |_=>pure (ForInStep.done (some (out++a.extract ia a.size++b.extract ib b.size),out,ia,ib,g,ac,bc))
def gal(a b:Array Keyed)(out:Array Keyed)(ia ib g ac bc:Nat):Sm (ForInStep C2):=if g>1 then gl1 a b out ia ib (g-1) ac bc else gl1 a b out ia ib g ac bc
def round(a b:Array Keyed)(out:Array Keyed)(ia ib g:Nat):Sm (ForInStep C0):=do
 let c <-forIn [0:a.size+b.size] ((none,out,ia,ib,0,0):C1) fun _ c=>one a b g c.2.1 c.2.2.1 c.2.2.2.1 c.2.2.2.2.1 c.2.2.2.2.2
 match c.1 with
 |some r=>pure (ForInStep.done (some r,c.2.1,c.2.2.1,c.2.2.2.1,g))
 |none=>do
  liftM (rule "list.sort.gallop")
  let d <-forIn [0:a.size+b.size] ((none,c.2.1,c.2.2.1,c.2.2.2.1,g+1,c.2.2.2.2.1,c.2.2.2.2.2):C2) fun _ d=>gal a b d.2.1 d.2.2.1 d.2.2.2.1 d.2.2.2.2.1 d.2.2.2.2.2.1 d.2.2.2.2.2.2
  match d.1 with
  |some r=>pure (ForInStep.done (some r,d.2.1,d.2.2.1,d.2.2.2.1,d.2.2.2.2.1))
  |none=>do
   jc (d.2.2.2.2.1+1)
   pure (ForInStep.yield (none,d.2.1,d.2.2.1,d.2.2.2.1,d.2.2.2.2.1+1))
theorem fi{β:Type}{r:Std.Legacy.Range}{c:β}{f f':Nat->β->Sm (ForInStep β)}(h:f=f'):(forIn r c f:Sm β)=forIn r c f':=by rw[h]
theorem ic{α:Type}{c:Prop}[Decidable c]{x x' y y':α}(h:x=x')(h':y=y'):(if c then x else y)=if c then x' else y':=by rw[h,h']
theorem Je(a b:Array Keyed):jb a b=(do
  liftM (rule "list.sort.merge-lo")
  let e <-elem' b 0
  if(1==b.size)=true then pure (#[e]++a.extract 0 a.size++b.extract 1 b.size)
  else if(0+1==a.size)=true then pure (#[e]++b.extract 1 b.size++a.extract 0 a.size)
  else do
   let s <-get
   let c <-forIn [0:a.size+b.size] ((none,#[e],0,1,gallopOf s):C0) fun _ c=>round a b c.2.1 c.2.2.1 c.2.2.2.1 c.2.2.2.2
   match c.1 with
   |some r=>pure r
   |none=>liftM (unsupported "internal:list.sort.merge-bound")):=by
 delta jb
 refine bc rfl (funext fun u=>bc rfl (funext fun e=>ic rfl (ic rfl (bc rfl (funext fun s=>bc (fi (funext fun x=>funext fun c=>?_)) (funext fun c=>?_))))))
 .unfold round;refine bc (fi (funext fun x=>funext fun c1=>?_)) (funext fun c1=>?_)
  .unfold one;refine bc rfl (funext fun y=>bc rfl (funext fun x=>bc rfl (funext fun r=>?_)))
   cases r with
   |none=>rfl
   |some w=>exact ic (bc rfl (funext fun y=>ic rfl (ic rfl rfl))) (bc rfl (funext fun y=>ic rfl (ic rfl rfl)))
  .obtain⟨r,c1⟩:=c1
   cases r with
   |some r=>rfl
   |none=>
    refine bc rfl (funext fun u=>bc (fi (funext fun x=>funext fun d=>?_)) (funext fun d=>?_))
    .unfold gal;refine ic ?_ ?_
     .unfold gl1;exact bc rfl (funext fun u=>bc rfl (funext fun y=>bc rfl (funext fun r=>by cases r with|none=>rfl|some k=>exact ic (ic rfl (ic rfl (by unfold gl2;exact bc rfl (funext fun y=>ic rfl (by unfold gl3;exact bc rfl (funext fun x=>bc rfl (funext fun r=>by cases r with|none=>rfl|some k1=>exact ic (ic rfl (by unfold gl4;exact bc rfl (funext fun x=>ic rfl (ic rfl rfl)))) (by unfold gl4;exact bc rfl (funext fun x=>ic rfl (ic rfl rfl)))))))))) (by unfold gl2;exact bc rfl (funext fun y=>ic rfl (by unfold gl3;exact bc rfl (funext fun x=>bc rfl (funext fun r=>by cases r with|none=>rfl|some k1=>exact ic (ic rfl (by unfold gl4;exact bc rfl (funext fun x=>ic rfl (ic rfl rfl)))) (by unfold gl4;exact bc rfl (funext fun x=>ic rfl (ic rfl rfl)))))))))))
     .unfold gl1;exact bc rfl (funext fun u=>bc rfl (funext fun y=>bc rfl (funext fun r=>by cases r with|none=>rfl|some k=>exact ic (ic rfl (ic rfl (by unfold gl2;exact bc rfl (funext fun y=>ic rfl (by unfold gl3;exact bc rfl (funext fun x=>bc rfl (funext fun r=>by cases r with|none=>rfl|some k1=>exact ic (ic rfl (by unfold gl4;exact bc rfl (funext fun x=>ic rfl (ic rfl rfl)))) (by unfold gl4;exact bc rfl (funext fun x=>ic rfl (ic rfl rfl)))))))))) (by unfold gl2;exact bc rfl (funext fun y=>ic rfl (by unfold gl3;exact bc rfl (funext fun x=>bc rfl (funext fun r=>by cases r with|none=>rfl|some k1=>exact ic (ic rfl (by unfold gl4;exact bc rfl (funext fun x=>ic rfl (ic rfl rfl)))) (by unfold gl4;exact bc rfl (funext fun x=>ic rfl (ic rfl rfl)))))))))))
    .obtain⟨r,d⟩:=d;cases r<;>rfl
 .obtain⟨r,c⟩:=c;cases r<;>rfl
def key(κ:PyProof.Rows.KeyKind)(p:Keyed):κ.α:=(κ.keyOf p.1).getD κ.dflt
def leK(κ:PyProof.Rows.KeyKind)(x y:Keyed):Prop:=κ.kle (key κ x) (key κ y)
theorem cV{κ:PyProof.Rows.KeyKind}{x y z:Keyed}(h:leK κ x y)(h':leK κ y z):leK κ x z:=KeyOrd.kle_trans h h'
structure SG(st Zq:SortSt):Prop where
 kind:kindOf Zq=kindOf st
 arr:arrOf Zq=arrOf st
 pend:pendingOf Zq=pendingOf st
 fail:failedOf Zq=failedOf st
theorem SG.refl(st:SortSt):SG st st:=⟨rfl,rfl,rfl,rfl⟩
structure Two(κ:PyProof.Rows.KeyKind)(a b:Array Keyed):Prop where
 ka:KeysOf κ a
 kb:KeysOf κ b
 sa:a.toList.Pairwise (leK κ)
 sb:b.toList.Pairwise (leK κ)
theorem item{κ:PyProof.Rows.KeyKind}{a:Array Keyed}(ka:KeysOf κ a){i:Nat}(hi:i<a.size):∃p,a[i]?=some p/\κ.keyOf p.1=some (key κ p)/\KK κ a i=key κ p/\a.toList.drop i=p::a.toList.drop (i+1):=by
 have e:a[i]?=some a[i]:=Array.getElem?_eq_getElem hi;obtain⟨k,hk⟩:=ka a[i] (Array.mem_toList_iff.mpr (Array.getElem_mem hi))
 have ek:key κ a[i]=k:=by
  unfold key;rw[hk];rfl
 refine⟨a[i],e,by rw[ek];exact hk,?_,?_⟩
 .unfold KK;rw[e,ek];dsimp only;rw[hk];rfl
 .have:=List.drop_eq_getElem_cons (l:=a.toList) (i:=i) (by simpa using hi);rw[this];simp
theorem jd{κ:PyProof.Rows.KeyKind}{l r:List Keyed}{p:Keyed}{i:Nat}(h:l.Pairwise (leK κ))(e:l.drop i=p::r):∀y∈l.drop i,leK κ p y:=by
 have hp:=h.sublist (List.drop_sublist i l);rw[e]at hp⊢;intro y hy;rcases zAo.mp hy with z|z
 .rw[z];exact KeyOrd.kle_refl _
 .exact(List.pairwise_cons.mp hp).1 y z
theorem fU(a:Array Keyed)(i j:Nat):(a.extract i j).toList=(a.toList.drop i).take (j-i):=by
 rw[Array.toList_extract]
theorem iz(a:Array Keyed)(i:Nat):(a.extract i a.size).toList=a.toList.drop i:=by
 rw[fU];refine List.take_of_length_le ?_;rw[List.length_drop,zA9];exact zA3 _
theorem je{κ:PyProof.Rows.KeyKind}{a:Array Keyed}(ka:KeysOf κ a){i k:Nat}{x:Keyed}(h:x∈(a.toList.drop i).take k):∃j,j<k/\i+j<a.size/\KK κ a (i+j)=key κ x:=by
 obtain⟨j,hj,rfl⟩:=List.getElem_of_mem h;rw[zAd,List.length_drop,zA9]at hj;refine⟨j,Zz,Zz,?_⟩;obtain⟨p,e1,e2,e3,e4⟩:=item ka (i:=i+j) Zz;rw[e3,List.getElem_take,List.getElem_drop]
 have:a.toList[i+j]?=some p:=by
  rw[Array.getElem?_toList];exact e1
 rw[zA0 (by rw[zA9];lia)]at this;rw[zAl this]
theorem lO{κ:PyProof.Rows.KeyKind}{a:Array Keyed}(ka:KeysOf κ a){i:Nat}{x:Keyed}(h:x∈a.toList.drop i):∃j,i<=j/\j<a.size/\KK κ a j=key κ x:=by
 have h':x∈(a.toList.drop i).take (a.toList.drop i).length:=by rw[zAm];exact h
 obtain⟨j,_,h2,h3⟩:=je ka h';exact⟨i+j,Zz,h2,h3⟩
theorem jf{κ:PyProof.Rows.KeyKind}{a:Array Keyed}(ka:KeysOf κ a)(sa:a.toList.Pairwise (leK κ)){i j:Nat}(cv:i<=j)(hj:j<a.size):κ.kle (KK κ a i) (KK κ a j):=by
 obtain⟨p,_,_,e3,e4⟩:=item ka (i:=i) Zz;obtain⟨q,_,_,f3,f4⟩:=item ka (i:=j) hj;rw[e3,f3];refine jd sa e4 q ?_;have:q∈a.toList.drop j:=by rw[f4];exact List.mem_cons_self
 exact gR cv this
section
variable{prog:Program}{w:World}{A:Around}{E:Value->Shared->Prop}{s:Shared}{κ:PyProof.Rows.KeyKind}{ks:SortKind}{a b:Array Keyed}
theorem iB{g:Nat}{Q:Unit->SortSt->Prop}{st:SortSt}(h:∀Zq,SG st Zq->Q () Zq):wpS (model prog w) A E s (jc g) Q st:=wpS_modify (h _ ⟨rfl,rfl,rfl,rfl⟩)
structure At(κ:PyProof.Rows.KeyKind)(a b out:Array Keyed)(ia ib:Nat):Prop where
 mi:MI (leK κ) a.toList b.toList out.toList ia ib
 ha:ia+1<a.size
 hb:ib<b.size
theorem At.pushA{out:Array Keyed}{ia ib:Nat}{x:Keyed}(T:Two κ a b)(m:MI (leK κ) a.toList b.toList out.toList ia ib)(e:a.toList.drop ia=x::a.toList.drop (ia+1))(h:∀y∈b.toList.drop ib,leK κ x y):
  MI (leK κ) a.toList b.toList (out.push x).toList (ia+1) ib:=by
 have:=m.segA (k:=1) T.sa fun z hz y hy=>by
  rw[e]at hz;have:z=x:=by simpa using hz
  rw[this];exact h y hy
 rw[e]at this;rw[Array.toList_push];exact this
theorem At.pushB{out:Array Keyed}{ia ib:Nat}{x:Keyed}(T:Two κ a b)(m:MI (leK κ) a.toList b.toList out.toList ia ib)(e:b.toList.drop ib=x::b.toList.drop (ib+1))(h:∀y∈a.toList.drop ia,leK κ x y):
  MI (leK κ) a.toList b.toList (out.push x).toList ia (ib+1):=by
 have:=m.segB (k:=1) T.sb fun z hz y hy=>by
  rw[e]at hz;have:z=x:=by simpa using hz
  rw[this];exact h y hy
 rw[e]at this;rw[Array.toList_push];exact this
theorem At.segA{out:Array Keyed}{ia ib k:Nat}(T:Two κ a b)(m:MI (leK κ) a.toList b.toList out.toList ia ib)(h:∀x∈(a.toList.drop ia).take k,∀y∈b.toList.drop ib,leK κ x y):MI (leK κ) a.toList b.toList (out++a.extract ia (ia+k)).toList (ia+k) ib:=by
 have:=m.segA (k:=k) T.sa h;rw[Array.toList_append,fU,show ia+k-ia=k by lia];exact this
theorem At.segB{out:Array Keyed}{ia ib k:Nat}(T:Two κ a b)(m:MI (leK κ) a.toList b.toList out.toList ia ib)(h:∀x∈(b.toList.drop ib).take k,∀y∈a.toList.drop ia,leK κ x y):MI (leK κ) a.toList b.toList (out++b.extract ib (ib+k)).toList ia (ib+k):=by
 have:=m.segB (k:=k) T.sb h;rw[Array.toList_append,fU,show ib+k-ib=k by lia];exact this
abbrev Rs(κ:PyProof.Rows.KeyKind)(a b:Array Keyed)(r:Array Keyed):Prop:=Done (leK κ) a.toList b.toList r.toList
def iI(κ:PyProof.Rows.KeyKind)(a b:Array Keyed):Prop:=∀y∈b.toList,∀x∈a.toList.drop (a.size-1),leK κ y x
theorem wJ{out:Array Keyed}{ia ib:Nat}(T:Two κ a b)(m:MI (leK κ) a.toList b.toList out.toList ia ib)(h:ib=b.size):Rs κ a b (out++a.extract ia a.size++b.extract ib b.size):=by
 have:=m.endB T.sa (by rw[zA9];lia);unfold Rs;rw[Array.toList_append,Array.toList_append,iz,iz];exact this
theorem Jf{out:Array Keyed}{ia ib:Nat}(T:Two κ a b)(m:MI (leK κ) a.toList b.toList out.toList ia ib)(h:ia=a.size):Rs κ a b (out++a.extract ia a.size++b.extract ib b.size):=by
 have:=m.endA T.sb (by rw[zA9];lia);unfold Rs;rw[Array.toList_append,Array.toList_append,iz,iz];exact this
theorem wK{out:Array Keyed}{ia ib:Nat}(T:Two κ a b)(L:iI κ a b)(m:MI (leK κ) a.toList b.toList out.toList ia ib)(h:ia+1=a.size):Rs κ a b (out++b.extract ib b.size++a.extract ia a.size):=by
 have:=m.last T.sa T.sb fun y hy x hx=>L y (List.mem_of_mem_drop hy) x (by rw[show a.size-1=ia by lia];exact hx);unfold Rs;rw[Array.toList_append,Array.toList_append,iz,iz];exact this
theorem vg(hL:LtAll prog w A E s κ ks)(T:Two κ a b)(L:iI κ a b){g ia ib ac bc:Nat}{out:Array Keyed}{st:SortSt}(hk:kindOf st=ks)(m:At κ a b out ia ib):
  wpS (model prog w) A E s (one a b g out ia ib ac bc) (fun r Zq=>Zq=st/\match r with
   |.done c=>(∃z,c.1=some z/\Rs κ a b z)\/(c.1=none/\At κ a b c.2.1 c.2.2.1 c.2.2.2.1/\ia+ib+1=c.2.2.1+c.2.2.2.1)
   |.yield c=>c.1=none/\At κ a b c.2.1 c.2.2.1 c.2.2.2.1/\ia+ib+1=c.2.2.1+c.2.2.2.1) st:=by
 obtain⟨x,x1,x2,x3,x4⟩:=item T.ka (i:=ia) (by have:=m.ha;lia);obtain⟨y,y1,y2,y3,y4⟩:=item T.kb m.hb;unfold one;refine wpS_bind (aZ y1 (wpS_bind (aZ x1 (wpS_bind (hL st hk _ _ _ _ _ y2 x2 ?_)))))
 cases e:κ.blt (key κ y) (key κ x)with
 |true=>
  dsimp only;rw[if_pos rfl];refine wpS_bind (aZ y1 ?_);have m':=At.pushB T m.mi y4 fun z hz=>cV (KeyOrd.kle_of_klt e) (jd T.sa x4 z hz);by_cases hb:ib+1=b.size
  .rw[if_pos (by simpa using hb)];exact wpS_pure ⟨rfl,.inl ⟨_,rfl,wJ T m' hb⟩⟩
  .rw[if_neg (by simpa using hb)]
   have at':At κ a b (out.push y) ia (ib+1):=⟨m',m.ha,by have:=m.hb;lia⟩
   split
   .exact wpS_pure ⟨rfl,.inr ⟨rfl,at',by dsimp only;lia⟩⟩
   .exact wpS_pure ⟨rfl,rfl,at',by dsimp only;lia⟩
 |false=>
  dsimp only;rw[if_neg Zx];refine wpS_bind (aZ x1 ?_);have m':=At.pushA T m.mi x4 fun z hz=>cV (show leK κ x y from e) (jd T.sb y4 z hz);by_cases ha:ia+1+1=a.size
  .rw[if_pos (by simpa using ha)];exact wpS_pure ⟨rfl,.inl ⟨_,rfl,wK T L m' ha⟩⟩
  .rw[if_neg (by simpa using ha)]
   have at':At κ a b (out.push x) (ia+1) ib:=⟨m',by have:=m.ha;lia,m.hb⟩
   split
   .exact wpS_pure ⟨rfl,.inr ⟨rfl,at',by dsimp only;lia⟩⟩
   .exact wpS_pure ⟨rfl,rfl,at',by dsimp only;lia⟩
def G2(κ:PyProof.Rows.KeyKind)(a b:Array Keyed)(n:Nat)(st:SortSt)(r:ForInStep C2)(Zq:SortSt):Prop:=SG st Zq/\match r with
 |.done c=>(∃z,c.1=some z/\Rs κ a b z)\/(c.1=none/\At κ a b c.2.1 c.2.2.1 c.2.2.2.1/\n<=c.2.2.1+c.2.2.2.1)
 |.yield c=>c.1=none/\At κ a b c.2.1 c.2.2.1 c.2.2.2.1/\n<=c.2.2.1+c.2.2.2.1
theorem lQ(T:Two κ a b)(L:iI κ a b){g ia ib k k1 n:Nat}{out:Array Keyed}{bg st:SortSt}(sg:SG bg st)(m:At κ a b out ia ib)(hn:n<=ia+ib+1)(h:∀y∈b.toList.drop ib,∀x,a[ia]?=some x->leK κ x y):
  wpS (model prog w) A E s (gl4 a b out ia ib g k k1) (G2 κ a b n bg) st:=by
 obtain⟨x,x1,x2,x3,x4⟩:=item T.ka (i:=ia) (by have:=m.ha;lia);unfold gl4;refine wpS_bind (aZ x1 ?_);have m':=At.pushA T m.mi x4 fun z hz=>h z hz x x1;by_cases ha:ia+1+1=a.size
 .rw[if_pos (by simpa using ha)];exact wpS_pure ⟨sg,.inl ⟨_,rfl,wK T L m' ha⟩⟩
 .rw[if_neg (by simpa using ha)]
  have at':At κ a b (out.push x) (ia+1) ib:=⟨m',by have:=m.ha;lia,m.hb⟩
  split
  .exact wpS_pure ⟨sg,.inr ⟨rfl,at',by dsimp only;lia⟩⟩
  .exact wpS_pure ⟨sg,rfl,at',by dsimp only;lia⟩
theorem vh(hL:LtAll prog w A E s κ ks)(T:Two κ a b)(L:iI κ a b){g ia ib k bc n:Nat}{out:Array Keyed}{bg st:SortSt}(hk:kindOf st=ks)(sg:SG bg st)(m:At κ a b out ia ib)(hn:n<=ia+ib+1):
  wpS (model prog w) A E s (gl3 a b out ia ib g k bc) (G2 κ a b n bg) st:=by
 obtain⟨x,x1,x2,x3,x4⟩:=item T.ka (i:=ia) (by have:=m.ha;lia);have hb:=m.hb;unfold gl3;refine wpS_bind (aZ x1 ?_);refine wpS_bind (dz (κ:=κ) (kk:=key κ x) (hL st hk) x2 Zz (fun i hi=>?_) (fun i j cv hj iN=>?_) fun k1 kn kt kf=>?_)
 .obtain⟨p,p1,p2,p3,_⟩:=item T.kb (i:=ib+i) Zz;exact⟨p,_,p1,p2,p3⟩
 .have mono:=jf T.kb T.sb (i:=ib+i) (j:=ib+j) Zz Zz;exact KeyOrd.klt_of_kle_of_klt mono iN
 .have late:∀y∈b.toList.drop (ib+k1),∀z,a[ia]?=some z->leK κ z y:=fun y hy z hz=>by
   rw[x1]at hz;cases hz;obtain⟨j,j1,j2,j3⟩:=lO T.kb hy;have:=kf (j-ib) Zz Zz;rw[show ib+(j-ib)=j by lia,j3]at this;exact this
  by_cases h0:k1>0
  .dsimp only;rw[if_pos h0]
   have m':=At.segB (k:=k1) T m.mi fun z hz y hy=>by
    obtain⟨j,j1,j2,j3⟩:=je T.kb hz;have:=kt j j1;rw[j3]at this;exact cV (KeyOrd.kle_of_klt this) (jd T.sa x4 y hy)
   by_cases e:ib+k1=b.size
   .rw[if_pos (by simpa using e)];exact wpS_pure ⟨sg,.inl ⟨_,rfl,wJ T m' e⟩⟩
   .rw[if_neg (by simpa using e)];exact lQ T L sg ⟨m',m.ha,Zz⟩ Zz late
  .dsimp only;rw[if_neg h0];have e:k1=0:=Zz
   rw[e]at late;exact lQ T L sg m hn late
theorem lU(hL:LtAll prog w A E s κ ks)(T:Two κ a b)(L:iI κ a b){g ia ib k bc n:Nat}{out:Array Keyed}{bg st:SortSt}(hk:kindOf st=ks)(sg:SG bg st)(m:At κ a b out ia ib)(hn:n<=ia+ib+1)(h:∀x∈a.toList.drop ia,∀y,b[ib]?=some y->leK κ y x):
  wpS (model prog w) A E s (gl2 a b out ia ib g k bc) (G2 κ a b n bg) st:=by
 obtain⟨y,y1,y2,y3,y4⟩:=item T.kb m.hb;unfold gl2;refine wpS_bind (aZ y1 ?_);have m':=At.pushB T m.mi y4 fun z hz=>h z hz y y1;by_cases hb:ib+1=b.size
 .rw[if_pos (by simpa using hb)];exact wpS_pure ⟨sg,.inl ⟨_,rfl,wJ T m' hb⟩⟩
 .rw[if_neg (by simpa using hb)];exact vh hL T L hk sg ⟨m',m.ha,by have:=m.hb;lia⟩ Zz
theorem vm(hL:LtAll prog w A E s κ ks)(T:Two κ a b)(L:iI κ a b){g ia ib ac bc n:Nat}{out:Array Keyed}{bg st:SortSt}(hk:kindOf st=ks)(sg:SG bg st)(m:At κ a b out ia ib)(hn:n<=ia+ib+1):
  wpS (model prog w) A E s (gl1 a b out ia ib g ac bc) (G2 κ a b n bg) st:=by
 obtain⟨y,y1,y2,y3,y4⟩:=item T.kb m.hb;have ha:=m.ha;unfold gl1;refine wpS_bind (iB fun Zq fF=>?_);have cc:kindOf Zq=ks:=fF.kind.trans hk
 have bE:SG bg Zq:=⟨fF.kind.trans sg.kind,fF.arr.trans sg.arr,fF.pend.trans sg.pend,fF.fail.trans sg.fail⟩
 refine wpS_bind (aZ y1 ?_);refine wpS_bind (dz (κ:=κ) (kk:=key κ y) (hL Zq cc) y2 Zz (fun i hi=>?_) (fun i j cv hj iN=>?_) fun k kn kt kf=>?_)
 .obtain⟨p,p1,p2,p3,_⟩:=item T.ka (i:=ia+i) Zz;exact⟨p,_,p1,p2,p3⟩
 .have mono:=jf T.ka T.sa (i:=ia+i) (j:=ia+j) Zz Zz;have iN:(!κ.blt (key κ y) (KK κ a (ia+j)))=true:=iN;show(!κ.blt (key κ y) (KK κ a (ia+i)))=true;rw[Bool.not_eq_true']at iN⊢;exact KeyOrd.kle_trans mono iN
 .have late:∀x∈a.toList.drop (ia+k),∀z,b[ib]?=some z->leK κ z x:=fun x hx z hz=>by
   rw[y1]at hz;cases hz;obtain⟨j,j1,j2,j3⟩:=lO T.ka hx;have:=kf (j-ia) Zz Zz;rw[show ia+(j-ia)=j by lia,j3]at this;have this:(!κ.blt (key κ y) (key κ x))=false:=this;rw[Bool.not_eq_false']at this;exact KeyOrd.kle_of_klt this
  by_cases h0:k>0
  .dsimp only;rw[if_pos h0]
   have m':=At.segA (k:=k) T m.mi fun z hz x hx=>by
    obtain⟨j,j1,j2,j3⟩:=je T.ka hz;have:=kt j j1;rw[j3]at this;have this:(!κ.blt (key κ y) (key κ z))=true:=this;rw[Bool.not_eq_true']at this;exact cV (show leK κ z y from this) (jd T.sb y4 x hx)
   by_cases e:ia+k+1=a.size
   .rw[if_pos (by simpa using e)];exact wpS_pure ⟨bE,.inl ⟨_,rfl,wK T L m' e⟩⟩
   .rw[if_neg (by simpa using e)];by_cases e2:ia+k=a.size
    .rw[if_pos (by simpa using e2)];exact wpS_pure ⟨bE,.inl ⟨_,rfl,Jf T m' e2⟩⟩
    .rw[if_neg (by simpa using e2)];exact lU hL T L cc bE ⟨m',Zz,m.hb⟩ Zz late
  .dsimp only;rw[if_neg h0];have e:k=0:=Zz
   rw[e]at late;exact lU hL T L cc bE m hn late
theorem lV(hL:LtAll prog w A E s κ ks)(T:Two κ a b)(L:iI κ a b){g ia ib:Nat}{out:Array Keyed}{bg st:SortSt}(hk:kindOf st=ks)(sg:SG bg st)(m:At κ a b out ia ib):
  wpS (model prog w) A E s (round a b out ia ib g) (fun r Zq=>SG bg Zq/\match r with
   |.done c=>∃z,c.1=some z/\Rs κ a b z
   |.yield c=>c.1=none/\At κ a b c.2.1 c.2.2.1 c.2.2.2.1/\ia+ib+1<=c.2.2.1+c.2.2.2.1) st:=by
 unfold round;have ND:0<a.size+b.size:=by have:=m.ha;lia
 refine wpS_bind (wpS_mono (wpS_forRange (I:=fun x c Zq=>Zq=st/\c.1=none/\At κ a b c.2.1 c.2.2.1 c.2.2.2.1/\ia+ib+x=c.2.2.1+c.2.2.2.1)
  (Q:=fun c Zq=>Zq=st/\((∃z,c.1=some z/\Rs κ a b z)\/(c.1=none/\At κ a b c.2.1 c.2.2.1 c.2.2.2.1/\ia+ib+1<=c.2.2.1+c.2.2.2.1))) ?_ ?_ ⟨rfl,rfl,m,rfl⟩) ?_)
 .rintro x ⟨c0,o,i,j,ac,bc⟩ Zq _ hx ⟨rfl,rfl,m',e⟩;dsimp only at m' e⊢;refine wpS_mono (vg hL T L hk m') fun r st2 h2=>?_;obtain⟨rfl,h2⟩:=h2
  cases r with
  |done c=>
   rcases h2 with h2|⟨h2,h3,h4⟩
   .exact⟨rfl,.inl h2⟩
   .exact⟨rfl,.inr ⟨h2,h3,Zz⟩⟩
  |yield c=>
   obtain⟨h2,h3,h4⟩:=h2;exact⟨rfl,h2,h3,Zz⟩
 .rintro c Zq ⟨rfl,h1,h2,h3⟩;exact⟨rfl,.inr ⟨h1,h2,Zz⟩⟩
 .rintro⟨c0,o,i,j,ac,bc⟩ Zq ⟨rfl,h⟩;dsimp only at h⊢;rcases h with⟨z,rfl,hz⟩|⟨rfl,m',cv⟩
  .exact wpS_pure ⟨sg,z,rfl,hz⟩
  .dsimp only;refine wpS_bind (wpS_lift (wpAny_rule ⟨rfl,?_⟩))
   refine wpS_bind (wpS_mono (wpS_forRange (I:=fun x c st2=>SG bg st2/\c.1=none/\At κ a b c.2.1 c.2.2.1 c.2.2.2.1/\ia+ib+1<=c.2.2.1+c.2.2.2.1)
    (Q:=fun c st2=>SG bg st2/\((∃z,c.1=some z/\Rs κ a b z)\/(c.1=none/\At κ a b c.2.1 c.2.2.1 c.2.2.2.1/\ia+ib+1<=c.2.2.1+c.2.2.2.1))) ?_ ?_ ⟨sg,rfl,m',cv⟩) ?_)
   .rintro x ⟨c0,o,i,j,g2,ac,bc⟩ st2 _ hx ⟨bE,rfl,m2,e2⟩;dsimp only at m2 e2⊢;have AH:kindOf st2=ks:=bE.kind.trans (sg.kind.symm.trans hk);have go:∀g',wpS (model prog w) A E s (gl1 a b o i j g' ac bc) (G2 κ a b (ia+ib+1) bg) st2:=fun g'=>vm hL T L AH bE m2 Zz;unfold gal;split
    .refine wpS_mono (go _) fun r fx h3=>?_;obtain⟨h3,h4⟩:=h3
     cases r with
     |done c=>exact⟨h3,h4⟩
     |yield c=>exact⟨h3,h4⟩
    .refine wpS_mono (go _) fun r fx h3=>?_;obtain⟨h3,h4⟩:=h3
     cases r with
     |done c=>exact⟨h3,h4⟩
     |yield c=>exact⟨h3,h4⟩
   .rintro c st2 ⟨h0,h1,h2,h3⟩;exact⟨h0,.inr ⟨h1,h2,h3⟩⟩
   .rintro⟨c0,o,i,j,g2,ac,bc⟩ st2 ⟨bE,h⟩;dsimp only at h⊢;rcases h with⟨z,rfl,hz⟩|⟨rfl,m2,si⟩
    .exact wpS_pure ⟨bE,z,rfl,hz⟩
    .dsimp only;refine wpS_bind (iB fun fx mN=>wpS_pure ⟨⟨mN.kind.trans bE.kind,mN.arr.trans bE.arr,mN.pend.trans bE.pend,mN.fail.trans bE.fail⟩,rfl,m2,si⟩)
theorem Jg(hL:LtAll prog w A E s κ ks)(T:Two κ a b)(L:iI κ a b)(ha:0<a.size)(hb:0<b.size)(F:∀x∈a.toList,∀y,b[0]?=some y->leK κ y x){st:SortSt}(hk:kindOf st=ks){Q:Array Keyed->SortSt->Prop}
  (h:∀r Zq,SG st Zq->Rs κ a b r->Q r Zq):wpS (model prog w) A E s (jb a b) Q st:=by
 rw[Je];obtain⟨y,y1,y2,y3,y4⟩:=item T.kb hb;refine wpS_bind (wpS_lift (wpAny_rule ⟨rfl,?_⟩));refine wpS_bind (aZ y1 ?_)
 have m0:MI (leK κ) a.toList b.toList ([]:List Keyed) 0 0:=⟨by simp,.nil,fun x hx=>absurd hx Zy⟩
 have m:MI (leK κ) a.toList b.toList (#[y]:Array Keyed).toList 0 1:=by
  have:=At.pushB (out:=#[]) T m0 y4 fun z hz=>F z hz y y1;exact this
 by_cases e1:1=b.size
 .rw[if_pos (by simpa using e1)];exact wpS_pure (h _ st (SG.refl _) (wJ T m e1))
 .rw[if_neg (by simpa using e1)];by_cases e2:0+1=a.size
  .rw[if_pos (by simpa using e2)];exact wpS_pure (h _ st (SG.refl _) (wK T L m e2))
  .rw[if_neg (by simpa using e2)];refine wpS_bind (wpS_get ?_)
   refine wpS_bind (wpS_mono (wpS_forRange (I:=fun x c Zq=>SG st Zq/\c.1=none/\At κ a b c.2.1 c.2.2.1 c.2.2.2.1/\1+x<=c.2.2.1+c.2.2.2.1)
    (Q:=fun c Zq=>SG st Zq/\∃z,c.1=some z/\Rs κ a b z) ?_ ?_ ⟨SG.refl _,rfl,⟨m,by dsimp only;lia,by dsimp only;lia⟩,by dsimp only;lia⟩) ?_)
   .rintro x ⟨c0,o,i,j,g⟩ Zq _ hx ⟨sg,rfl,m',e⟩;dsimp only at m' e⊢;refine wpS_mono (lV hL T L (sg.kind.trans hk) sg m') fun r st2 h2=>?_;obtain⟨bE,h2⟩:=h2
    cases r with
    |done c=>exact⟨bE,h2⟩
    |yield c=>
     obtain⟨h2,h3,h4⟩:=h2;exact⟨bE,h2,h3,Zz⟩
   .rintro c Zq ⟨sg,h1,m',e⟩;have:=m'.ha;have:=m'.hb;exact absurd e Zz
   .rintro⟨c0,o,i,j,g⟩ Zq ⟨sg,z,e,hz⟩;dsimp only at e;rw[e];exact wpS_pure (h z Zq sg hz)
end
def jg:Array Keyed->Array Keyed->Sm (Array Keyed):=sortPriv% PySem.Builtin.mergeHi
namespace Hi
abbrev dn(a b out:Array Keyed)(na nb:Nat):Array Keyed:=a.extract 0 na++b.extract 0 nb++out.reverse
abbrev fb(a b out:Array Keyed)(na nb:Nat):Array Keyed:=b.extract 0 nb++a.extract 0 na++out.reverse
abbrev H1:=Option (Array Keyed)×Nat×Nat×Array Keyed×Nat×Nat
abbrev H2:=Option (Array Keyed)×Nat×Nat×Array Keyed×Nat×Nat×Nat
abbrev H0:=Option (Array Keyed)×Nat×Nat×Array Keyed×Nat
def one(a b:Array Keyed)(g:Nat)(na nb:Nat)(out:Array Keyed)(ac bc:Nat):Sm (ForInStep H1):=do
 let y <-elem' b (nb-1)
 let x <-elem' a (na-1)
 let r <-lt' y x
 match r with
 |some w=>
  if w=true then do
   let x <-elem' a (na-1)
   if(na-1==0)=true then pure (ForInStep.done (some (dn a b (out.push x) (na-1) nb),na-1,nb,out.push x,ac+1,0))
   else if ac+1≥g then pure (ForInStep.done (none,na-1,nb,out.push x,ac+1,0))else pure (ForInStep.yield (none,na-1,nb,out.push x,ac+1,0))
  else do
   let y <-elem' b (nb-1)
   if(nb-1==1)=true then pure (ForInStep.done (some (fb a b (out.push y) na (nb-1)),na,nb-1,out.push y,0,bc+1))
   else if bc+1≥g then pure (ForInStep.done (none,na,nb-1,out.push y,0,bc+1))else pure (ForInStep.yield (none,na,nb-1,out.push y,0,bc+1))
 |_=>pure (ForInStep.done (some (dn a b out na nb),na,nb,out,ac,bc))
def gl4(a b:Array Keyed)(na nb:Nat)(out:Array Keyed)(g k k1:Nat):Sm (ForInStep H2):=do
 let x <-elem' a (na-1)
 if(na-1==0)=true then pure (ForInStep.done (some (dn a b (out.push x) (na-1) nb),na-1,nb,out.push x,g,k,k1))
 else if(decide (k<7)&&decide (k1<7))=true then pure (ForInStep.done (none,na-1,nb,out.push x,g,k,k1))else pure (ForInStep.yield (none,na-1,nb,out.push x,g,k,k1))
def gl3(a b:Array Keyed)(na nb:Nat)(out:Array Keyed)(g k bc:Nat):Sm (ForInStep H2):=do
 let x <-elem' a (na-1)
 let r <-fB true x b 0 nb (nb-1)
 match r with
 |some t=>
  if nb-t>0 then
   if(t==1)=true then pure (ForInStep.done (some (fb a b (out++(b.extract t nb).reverse) na t),na,t,out++(b.extract t nb).reverse,g,k,nb-t))
   else if(t==0)=true then pure (ForInStep.done (some (dn a b (out++(b.extract t nb).reverse) na t),na,t,out++(b.extract t nb).reverse,g,k,nb-t))
   else gl4 a b na t (out++(b.extract t nb).reverse) g k (nb-t)
  else gl4 a b na nb out g k (nb-t)
 |_=>pure (ForInStep.done (some (dn a b out na nb),na,nb,out,g,k,bc))
def gl2(a b:Array Keyed)(na nb:Nat)(out:Array Keyed)(g k bc:Nat):Sm (ForInStep H2):=do
 let y <-elem' b (nb-1)
 if(nb-1==1)=true then pure (ForInStep.done (some (fb a b (out.push y) na (nb-1)),na,nb-1,out.push y,g,k,bc))
 else gl3 a b na (nb-1) (out.push y) g k bc
def gl1(a b:Array Keyed)(na nb:Nat)(out:Array Keyed)(g ac bc:Nat):Sm (ForInStep H2):=do
 jc g
 let y <-elem' b (nb-1)
 let r <-fB false y a 0 na (na-1)
 match r with
 |some t=>
  if na-t>0 then
   if(t==0)=true then pure (ForInStep.done (some (dn a b (out++(a.extract t na).reverse) t nb),t,nb,out++(a.extract t na).reverse,g,na-t,bc))
   else gl2 a b t nb (out++(a.extract t na).reverse) g (na-t) bc
  else gl2 a b na nb out g (na-t) bc
 |_=>pure (ForInStep.done (some (dn a b out na nb),na,nb,out,g,ac,bc))
def gal(a b:Array Keyed)(na nb:Nat)(out:Array Keyed)(g ac bc:Nat):Sm (ForInStep H2):=if g>1 then gl1 a b na nb out (g-1) ac bc else gl1 a b na nb out g ac bc
def round(a b:Array Keyed)(na nb:Nat)(out:Array Keyed)(g:Nat):Sm (ForInStep H0):=do
 let c <-forIn [0:a.size+b.size] ((none,na,nb,out,0,0):H1) fun _ c=>one a b g c.2.1 c.2.2.1 c.2.2.2.1 c.2.2.2.2.1 c.2.2.2.2.2
 match c.1 with
 |some r=>pure (ForInStep.done (some r,c.2.1,c.2.2.1,c.2.2.2.1,g))
 |none=>do
  liftM (rule "list.sort.gallop")
  let d <-forIn [0:a.size+b.size] ((none,c.2.1,c.2.2.1,c.2.2.2.1,g+1,c.2.2.2.2.1,c.2.2.2.2.2):H2) fun _ d=>gal a b d.2.1 d.2.2.1 d.2.2.2.1 d.2.2.2.2.1 d.2.2.2.2.2.1 d.2.2.2.2.2.2
  match d.1 with
  |some r=>pure (ForInStep.done (some r,d.2.1,d.2.2.1,d.2.2.2.1,d.2.2.2.2.1))
  |none=>do
   jc (d.2.2.2.2.1+1)
   pure (ForInStep.yield (none,d.2.1,d.2.2.1,d.2.2.2.1,d.2.2.2.2.1+1))
theorem Jh(a b:Array Keyed):jg a b=(do
  liftM (rule "list.sort.merge-hi")
  let e <-elem' a (a.size-1)
  if(a.size-1==0)=true then pure (dn a b #[e] (a.size-1) b.size)
  else if(b.size==1)=true then pure (fb a b #[e] (a.size-1) b.size)
  else do
   let s <-get
   let c <-forIn [0:a.size+b.size] ((none,a.size-1,b.size,#[e],gallopOf s):H0) fun _ c=>round a b c.2.1 c.2.2.1 c.2.2.2.1 c.2.2.2.2
   match c.1 with
   |some r=>pure r
   |none=>liftM (unsupported "internal:list.sort.merge-bound")):=by
 delta jg
 refine bc rfl (funext fun u=>bc rfl (funext fun e=>ic rfl (ic rfl (bc rfl (funext fun s=>bc (fi (funext fun x=>funext fun c=>?_)) (funext fun c=>?_))))))
 .unfold round;refine bc (fi (funext fun x=>funext fun c1=>?_)) (funext fun c1=>?_)
  .unfold one;refine bc rfl (funext fun y=>bc rfl (funext fun x=>bc rfl (funext fun r=>?_)))
   cases r with
   |none=>rfl
   |some w=>exact ic (bc rfl (funext fun y=>ic rfl (ic rfl rfl))) (bc rfl (funext fun y=>ic rfl (ic rfl rfl)))
  .obtain⟨r,c1⟩:=c1
   cases r with
   |some r=>rfl
   |none=>
    refine bc rfl (funext fun u=>bc (fi (funext fun x=>funext fun d=>?_)) (funext fun d=>?_))
    .unfold gal;refine ic ?_ ?_
     .unfold gl1;exact bc rfl (funext fun u=>bc rfl (funext fun y=>bc rfl (funext fun r=>by cases r with|none=>rfl|some k=>exact ic (ic rfl (by unfold gl2;exact bc rfl (funext fun y=>ic rfl (by unfold gl3;exact bc rfl (funext fun x=>bc rfl (funext fun r=>by cases r with|none=>rfl|some k1=>exact ic (ic rfl (ic rfl (by unfold gl4;exact bc rfl (funext fun x=>ic rfl (ic rfl rfl))))) (by unfold gl4;exact bc rfl (funext fun x=>ic rfl (ic rfl rfl))))))))) (by unfold gl2;exact bc rfl (funext fun y=>ic rfl (by unfold gl3;exact bc rfl (funext fun x=>bc rfl (funext fun r=>by cases r with|none=>rfl|some k1=>exact ic (ic rfl (ic rfl (by unfold gl4;exact bc rfl (funext fun x=>ic rfl (ic rfl rfl))))) (by unfold gl4;exact bc rfl (funext fun x=>ic rfl (ic rfl rfl)))))))))))
     .unfold gl1;exact bc rfl (funext fun u=>bc rfl (funext fun y=>bc rfl (funext fun r=>by cases r with|none=>rfl|some k=>exact ic (ic rfl (by unfold gl2;exact bc rfl (funext fun y=>ic rfl (by unfold gl3;exact bc rfl (funext fun x=>bc rfl (funext fun r=>by cases r with|none=>rfl|some k1=>exact ic (ic rfl (ic rfl (by unfold gl4;exact bc rfl (funext fun x=>ic rfl (ic rfl rfl))))) (by unfold gl4;exact bc rfl (funext fun x=>ic rfl (ic rfl rfl))))))))) (by unfold gl2;exact bc rfl (funext fun y=>ic rfl (by unfold gl3;exact bc rfl (funext fun x=>bc rfl (funext fun r=>by cases r with|none=>rfl|some k1=>exact ic (ic rfl (ic rfl (by unfold gl4;exact bc rfl (funext fun x=>ic rfl (ic rfl rfl))))) (by unfold gl4;exact bc rfl (funext fun x=>ic rfl (ic rfl rfl)))))))))))
    .obtain⟨r,d⟩:=d;cases r<;>rfl
 .obtain⟨r,c⟩:=c;cases r<;>rfl
section
variable{α:Type}{le:α->α->Prop}
structure MH(le:α->α->Prop)(la lb lo:List α)(na nb:Nat):Prop where
 pm:lo.Perm (la.drop na++lb.drop nb)
 sr:lo.Pairwise le
 be:∀x∈lo,∀y,y∈la.take na\/y∈lb.take nb->le y x
theorem wL{l:List α}{i j:Nat}{y:α}(h:i<=j)(hy:y∈l.take i):y∈l.take j:=by
 rw[show i=min i j by lia,<-List.take_take]at hy;exact List.mem_of_mem_take hy
theorem cut_drop{l:List α}{t n:Nat}(h:t<=n)(hn:n<=l.length):(l.take n).drop t++l.drop n=l.drop t:=by
 have e:=zB9 n l;have:(l.take n++l.drop n).drop t=(l.take n).drop t++l.drop n:=List.drop_append_of_le_length (by rw[zAd];lia);rw[e]at this;exact this.symm
theorem zT{l:List α}(hp:l.Pairwise le){t n:Nat}(h:t<=n):∀y∈l.take t,∀x∈(l.take n).drop t,le y x:=by
 have h2:(l.take n).Pairwise le:=hp.sublist (List.take_sublist _ _);have e:=zB9 t (l.take n);rw[<-e]at h2;rw[List.take_take,show min t n=t by lia]at h2;exact fun y hy x hx=>(List.pairwise_append.mp h2).2.2 y hy x hx
theorem MH.segA{la lb lo:List α}{na nb t:Nat}(m:MH le la lb lo na nb)(sa:la.Pairwise le)(ht:t<=na)(hn:na<=la.length)(h:∀x∈(la.take na).drop t,∀y∈lb.take nb,le y x):MH le la lb ((la.take na).drop t++lo) t nb:=by
 refine⟨?_,List.pairwise_append.mpr ⟨(sa.sublist (List.take_sublist _ _)).sublist (List.drop_sublist _ _),m.sr,fun x hx y hy=>m.be y hy x (.inl (List.mem_of_mem_drop hx))⟩,fun x hx y hy=>?_⟩
 .refine(List.Perm.append_left _ m.pm).trans ?_;rw[<-zAf,cut_drop ht hn]
 .rcases zA6.mp hx with z|z
  .rcases hy with hy|hy
   .exact zT sa ht y hy x z
   .exact h x z y hy
  .exact m.be x z y (hy.imp (wL ht) id)
theorem MH.segB{la lb lo:List α}{na nb t:Nat}(m:MH le la lb lo na nb)(sb:lb.Pairwise le)(ht:t<=nb)(hn:nb<=lb.length)(h:∀x∈(lb.take nb).drop t,∀y∈la.take na,le y x):MH le la lb ((lb.take nb).drop t++lo) na t:=by
 refine⟨?_,List.pairwise_append.mpr ⟨(sb.sublist (List.take_sublist _ _)).sublist (List.drop_sublist _ _),m.sr,fun x hx y hy=>m.be y hy x (.inr (List.mem_of_mem_drop hx))⟩,fun x hx y hy=>?_⟩
 .refine(List.Perm.append_left _ m.pm).trans ?_;refine(List.perm_append_comm_assoc _ _ _).trans ?_;rw[cut_drop ht hn]
 .rcases zA6.mp hx with z|z
  .rcases hy with hy|hy
   .exact h x z y hy
   .exact zT sb ht y hy x z
  .exact m.be x z y (hy.imp id (wL ht))
theorem MH.first{la lb lo:List α}{na nb:Nat}(m:MH le la lb lo na nb)(sa:la.Pairwise le)(sb:lb.Pairwise le)(h:∀y∈lb.take nb,∀x∈la.take na,le y x):Done le la lb (lb.take nb++la.take na++lo):=by
 refine⟨?_,List.pairwise_append.mpr ⟨List.pairwise_append.mpr ⟨sb.sublist (List.take_sublist _ _),sa.sublist (List.take_sublist _ _),h⟩,m.sr,fun x hx y hy=>m.be y hy x ((zA6.mp hx).symm)⟩⟩;refine(List.Perm.append_left _ m.pm).trans ?_
 have e:lb.take nb++la.take na++(la.drop na++lb.drop nb)=lb.take nb++(la++lb.drop nb):=by
  rw[zAf,<-zAf (la.take na),zB9]
 rw[e];refine(List.perm_append_comm_assoc _ _ _).trans ?_;rw[zB9]
theorem MH.endA{la lb lo:List α}{nb:Nat}(m:MH le la lb lo 0 nb)(sa:la.Pairwise le)(sb:lb.Pairwise le):Done le la lb (la.take 0++lb.take nb++lo):=by
 have:=m.first sa sb fun y _ x hx=>absurd hx Zy
 rw[List.take_zero,zAn]at this;rw[List.take_zero,List.nil_append];exact this
theorem MH.endB{la lb lo:List α}{na:Nat}(m:MH le la lb lo na 0)(sa:la.Pairwise le)(sb:lb.Pairwise le):Done le la lb (la.take na++lb.take 0++lo):=by
 have:=m.first sa sb fun y hy x _=>absurd hy Zy
 rw[List.take_zero,List.nil_append]at this;rw[List.take_zero,zAn];exact this
end
section
variable{prog:Program}{w:World}{A:Around}{E:Value->Shared->Prop}{s:Shared}{κ:PyProof.Rows.KeyKind}{ks:SortKind}{a b:Array Keyed}
theorem yw(a:Array Keyed)(n:Nat):(a.extract 0 n).toList=a.toList.take n:=by
 rw[fU];simp
theorem ext_cut(a:Array Keyed)(t n:Nat):(a.extract t n).toList=(a.toList.take n).drop t:=by
 rw[fU,List.drop_take]
theorem tU(out:Array Keyed)(x:Keyed):(out.push x).reverse.toList=x::out.reverse.toList:=by simp
theorem wM(out seg:Array Keyed):(out++seg.reverse).reverse.toList=seg.toList++out.reverse.toList:=by simp
abbrev Mh(κ:PyProof.Rows.KeyKind)(a b out:Array Keyed)(na nb:Nat):Prop:=MH (leK κ) a.toList b.toList out.reverse.toList na nb
structure At(κ:PyProof.Rows.KeyKind)(a b out:Array Keyed)(na nb:Nat):Prop where
 mi:Mh κ a b out na nb
 a1:1<=na
 a2:na<=a.size
 b1:2<=nb
 b2:nb<=b.size
theorem gk{κ:PyProof.Rows.KeyKind}{a:Array Keyed}(ka:KeysOf κ a){n:Nat}(h1:1<=n)(h2:n<=a.size):∃p,a[n-1]?=some p/\κ.keyOf p.1=some (key κ p)/\KK κ a (n-1)=key κ p/\(a.toList.take n).drop (n-1)=[p]:=by
 obtain⟨p,p1,p2,p3,p4⟩:=item ka (i:=n-1) Zz;refine⟨p,p1,p2,p3,?_⟩;rw[List.drop_take,p4,show n-(n-1)=1 by lia];rfl
theorem take_key{κ:PyProof.Rows.KeyKind}{a:Array Keyed}(ka:KeysOf κ a){n t:Nat}{x:Keyed}(h:x∈(a.toList.take n).drop t):∃j,t<=j/\j<n/\j<a.size/\KK κ a j=key κ x:=by
 rw[List.drop_take]at h;obtain⟨j,j1,j2,j3⟩:=je ka h;exact⟨t+j,Zz,Zz,j2,j3⟩
theorem take_key0{κ:PyProof.Rows.KeyKind}{a:Array Keyed}(ka:KeysOf κ a){n:Nat}{x:Keyed}(h:x∈a.toList.take n):∃j,j<n/\j<a.size/\KK κ a j=key κ x:=by
 have h':x∈(a.toList.take n).drop 0:=by rw[List.drop_zero];exact h
 obtain⟨j,_,j1,j2,j3⟩:=take_key ka h';exact⟨j,j1,j2,j3⟩
theorem wN{κ:PyProof.Rows.KeyKind}{a:Array Keyed}(ka:KeysOf κ a)(sa:a.toList.Pairwise (leK κ)){n:Nat}{p:Keyed}(h1:1<=n)(h2:n<=a.size)(e:KK κ a (n-1)=key κ p):∀y∈a.toList.take n,leK κ y p:=fun y hy=>by
 obtain⟨j,j1,j2,j3⟩:=take_key0 ka hy;have:=jf ka sa (i:=j) (j:=n-1) Zz Zz;rw[j3,e]at this;exact this
theorem pushA{out:Array Keyed}{na nb:Nat}{x:Keyed}(T:Two κ a b)(m:Mh κ a b out na nb)(h1:1<=na)(h2:na<=a.size)(e:(a.toList.take na).drop (na-1)=[x])(h:∀y∈b.toList.take nb,leK κ y x):Mh κ a b (out.push x) (na-1) nb:=by
 have:=MH.segA (t:=na-1) m T.sa Zz (by rw[zA9];exact h2) fun z hz y hy=>by
  rw[e]at hz;rw[List.mem_singleton.mp hz];exact h y hy
 rw[e]at this;unfold Mh;rw[tU];exact this
theorem pushB{out:Array Keyed}{na nb:Nat}{x:Keyed}(T:Two κ a b)(m:Mh κ a b out na nb)(h1:1<=nb)(h2:nb<=b.size)(e:(b.toList.take nb).drop (nb-1)=[x])(h:∀y∈a.toList.take na,leK κ y x):Mh κ a b (out.push x) na (nb-1):=by
 have:=MH.segB (t:=nb-1) m T.sb Zz (by rw[zA9];exact h2) fun z hz y hy=>by
  rw[e]at hz;rw[List.mem_singleton.mp hz];exact h y hy
 rw[e]at this;unfold Mh;rw[tU];exact this
theorem Ji{out:Array Keyed}{na nb t:Nat}(T:Two κ a b)(m:Mh κ a b out na nb)(ht:t<=na)(h2:na<=a.size)(h:∀x∈(a.toList.take na).drop t,∀y∈b.toList.take nb,leK κ y x):Mh κ a b (out++(a.extract t na).reverse) t nb:=by
 have:=MH.segA m T.sa ht (by rw[zA9];exact h2) h;unfold Mh;rw[wM,ext_cut];exact this
theorem Jj{out:Array Keyed}{na nb t:Nat}(T:Two κ a b)(m:Mh κ a b out na nb)(ht:t<=nb)(h2:nb<=b.size)(h:∀x∈(b.toList.take nb).drop t,∀y∈a.toList.take na,leK κ y x):Mh κ a b (out++(b.extract t nb).reverse) na t:=by
 have:=MH.segB m T.sb ht (by rw[zA9];exact h2) h;unfold Mh;rw[wM,ext_cut];exact this
def FirstB(κ:PyProof.Rows.KeyKind)(a b:Array Keyed):Prop:=∀y∈b.toList.take 1,∀x∈a.toList,leK κ y x
theorem e_a{out:Array Keyed}{na nb:Nat}(T:Two κ a b)(m:Mh κ a b out na nb)(h:na=0):Rs κ a b (dn a b out na nb):=by
 subst h;have:=MH.endA m T.sa T.sb;unfold Rs dn;rw[Array.toList_append,Array.toList_append,yw,yw];exact this
theorem e_b{out:Array Keyed}{na nb:Nat}(T:Two κ a b)(m:Mh κ a b out na nb)(h:nb=0):Rs κ a b (dn a b out na nb):=by
 subst h;have:=MH.endB m T.sa T.sb;unfold Rs dn;rw[Array.toList_append,Array.toList_append,yw,yw];exact this
theorem e_f{out:Array Keyed}{na nb:Nat}(T:Two κ a b)(F:FirstB κ a b)(m:Mh κ a b out na nb)(h:nb=1):Rs κ a b (fb a b out na nb):=by
 subst h
 have:=MH.first m T.sa T.sb fun y hy x hx=>F y hy x (List.mem_of_mem_take hx)
 unfold Rs fb;rw[Array.toList_append,Array.toList_append,yw,yw];exact this
theorem vg(hL:LtAll prog w A E s κ ks)(T:Two κ a b)(F:FirstB κ a b){g na nb ac bc:Nat}{out:Array Keyed}{st:SortSt}(hk:kindOf st=ks)(m:At κ a b out na nb):
  wpS (model prog w) A E s (one a b g na nb out ac bc) (fun r Zq=>Zq=st/\match r with
   |.done c=>(∃z,c.1=some z/\Rs κ a b z)\/(c.1=none/\At κ a b c.2.2.2.1 c.2.1 c.2.2.1/\c.2.1+c.2.2.1+1=na+nb)
   |.yield c=>c.1=none/\At κ a b c.2.2.2.1 c.2.1 c.2.2.1/\c.2.1+c.2.2.1+1=na+nb) st:=by
 obtain⟨mi,a1,a2,b1,b2⟩:=m;obtain⟨x,x1,x2,x3,x4⟩:=gk T.ka a1 a2;obtain⟨y,y1,y2,y3,y4⟩:=gk T.kb (show 1<=nb by lia) b2;unfold one;refine wpS_bind (aZ y1 (wpS_bind (aZ x1 (wpS_bind (hL st hk _ _ _ _ _ y2 x2 ?_)))))
 cases e:κ.blt (key κ y) (key κ x)with
 |true=>
  dsimp only;rw[if_pos rfl];refine wpS_bind (aZ x1 ?_);have m':=pushA T mi a1 a2 x4 fun z hz=>cV (wN T.kb T.sb Zz b2 y3 z hz) (KeyOrd.kle_of_klt e);by_cases h0:na-1=0
  .rw[if_pos (by simpa using h0)];exact wpS_pure ⟨rfl,.inl ⟨_,rfl,e_a T m' h0⟩⟩
  .rw[if_neg (by simpa using h0)]
   have at':At κ a b (out.push x) (na-1) nb:=⟨m',Zz,Zz,b1,b2⟩
   split
   .exact wpS_pure ⟨rfl,.inr ⟨rfl,at',by dsimp only;lia⟩⟩
   .exact wpS_pure ⟨rfl,rfl,at',by dsimp only;lia⟩
 |false=>
  dsimp only;rw[if_neg Zx];refine wpS_bind (aZ y1 ?_);have m':=pushB T mi Zz b2 y4 fun z hz=>cV (wN T.ka T.sa a1 a2 x3 z hz) (show leK κ x y from e);by_cases h0:nb-1=1
  .rw[if_pos (by simpa using h0)];exact wpS_pure ⟨rfl,.inl ⟨_,rfl,e_f T F m' h0⟩⟩
  .rw[if_neg (by simpa using h0)]
   have at':At κ a b (out.push y) na (nb-1):=⟨m',a1,a2,Zz,Zz⟩
   split
   .exact wpS_pure ⟨rfl,.inr ⟨rfl,at',by dsimp only;lia⟩⟩
   .exact wpS_pure ⟨rfl,rfl,at',by dsimp only;lia⟩
def G2(κ:PyProof.Rows.KeyKind)(a b:Array Keyed)(n:Nat)(st:SortSt)(r:ForInStep H2)(Zq:SortSt):Prop:=SG st Zq/\match r with
 |.done c=>(∃z,c.1=some z/\Rs κ a b z)\/(c.1=none/\At κ a b c.2.2.2.1 c.2.1 c.2.2.1/\c.2.1+c.2.2.1<n)
 |.yield c=>c.1=none/\At κ a b c.2.2.2.1 c.2.1 c.2.2.1/\c.2.1+c.2.2.1<n
theorem lQ(T:Two κ a b){g na nb k k1 n:Nat}{out:Array Keyed}{bg st:SortSt}(sg:SG bg st)(m:At κ a b out na nb)(hn:na+nb<=n)(h:∀y∈b.toList.take nb,∀x,a[na-1]?=some x->leK κ y x):
  wpS (model prog w) A E s (gl4 a b na nb out g k k1) (G2 κ a b n bg) st:=by
 obtain⟨mi,a1,a2,b1,b2⟩:=m;obtain⟨x,x1,x2,x3,x4⟩:=gk T.ka a1 a2;unfold gl4;refine wpS_bind (aZ x1 ?_);have m':=pushA T mi a1 a2 x4 fun z hz=>h z hz x x1;by_cases h0:na-1=0
 .rw[if_pos (by simpa using h0)];exact wpS_pure ⟨sg,.inl ⟨_,rfl,e_a T m' h0⟩⟩
 .rw[if_neg (by simpa using h0)]
  have at':At κ a b (out.push x) (na-1) nb:=⟨m',Zz,Zz,b1,b2⟩
  split
  .exact wpS_pure ⟨sg,.inr ⟨rfl,at',by dsimp only;lia⟩⟩
  .exact wpS_pure ⟨sg,rfl,at',by dsimp only;lia⟩
theorem vh(hL:LtAll prog w A E s κ ks)(T:Two κ a b)(F:FirstB κ a b){g na nb k bc n:Nat}{out:Array Keyed}{bg st:SortSt}(hk:kindOf st=ks)(sg:SG bg st)(m:At κ a b out na nb)(hn:na+nb<=n):
  wpS (model prog w) A E s (gl3 a b na nb out g k bc) (G2 κ a b n bg) st:=by
 obtain⟨mi,a1,a2,b1,b2⟩:=id m;obtain⟨x,x1,x2,x3,x4⟩:=gk T.ka a1 a2;unfold gl3;refine wpS_bind (aZ x1 ?_);refine wpS_bind (dz (κ:=κ) (kk:=key κ x) (hL st hk) x2 Zz (fun i hi=>?_) (fun i j cv hj iN=>?_) fun t kn kt kf=>?_)
 .obtain⟨p,p1,p2,p3,_⟩:=item T.kb (i:=0+i) Zz;exact⟨p,_,p1,p2,p3⟩
 .have mono:=jf T.kb T.sb (i:=0+i) (j:=0+j) Zz Zz;exact KeyOrd.klt_of_kle_of_klt mono iN
 .have early:∀y∈b.toList.take t,∀z,a[na-1]?=some z->leK κ y z:=fun y hy z hz=>by
   rw[x1]at hz;cases hz;obtain⟨j,j1,j2,j3⟩:=take_key0 T.kb hy;have:=kt j j1;rw[Nat.zero_add,j3]at this;exact KeyOrd.kle_of_klt this
  by_cases h0:nb-t>0
  .dsimp only;rw[if_pos h0]
   have m':=Jj T mi (show t<=nb by lia) b2 fun z hz y hy=>by
    obtain⟨j,j1,j2,j3,j4⟩:=take_key T.kb hz;have:=kf j j1 j2;rw[Nat.zero_add,j4]at this;exact cV (wN T.ka T.sa a1 a2 x3 y hy) (show leK κ x z from this)
   by_cases e:t=1
   .rw[if_pos (by simpa using e)];exact wpS_pure ⟨sg,.inl ⟨_,rfl,e_f T F m' e⟩⟩
   .rw[if_neg (by simpa using e)];by_cases e2:t=0
    .rw[if_pos (by simpa using e2)];exact wpS_pure ⟨sg,.inl ⟨_,rfl,e_b T m' e2⟩⟩
    .rw[if_neg (by simpa using e2)];exact lQ T sg ⟨m',a1,a2,Zz,Zz⟩ Zz early
  .dsimp only;rw[if_neg h0];have e:t=nb:=Zz
   rw[e]at early;exact lQ T sg m hn early
theorem lU(hL:LtAll prog w A E s κ ks)(T:Two κ a b)(F:FirstB κ a b){g na nb k bc n:Nat}{out:Array Keyed}{bg st:SortSt}(hk:kindOf st=ks)(sg:SG bg st)(m:At κ a b out na nb)(hn:na+nb<=n)(h:∀x∈a.toList.take na,∀y,b[nb-1]?=some y->leK κ x y):
  wpS (model prog w) A E s (gl2 a b na nb out g k bc) (G2 κ a b n bg) st:=by
 obtain⟨mi,a1,a2,b1,b2⟩:=m;obtain⟨y,y1,y2,y3,y4⟩:=gk T.kb (show 1<=nb by lia) b2;unfold gl2;refine wpS_bind (aZ y1 ?_);have m':=pushB T mi Zz b2 y4 fun z hz=>h z hz y y1;by_cases h0:nb-1=1
 .rw[if_pos (by simpa using h0)];exact wpS_pure ⟨sg,.inl ⟨_,rfl,e_f T F m' h0⟩⟩
 .rw[if_neg (by simpa using h0)];exact vh hL T F hk sg ⟨m',a1,a2,Zz,Zz⟩ Zz
theorem vm(hL:LtAll prog w A E s κ ks)(T:Two κ a b)(F:FirstB κ a b){g na nb ac bc n:Nat}{out:Array Keyed}{bg st:SortSt}(hk:kindOf st=ks)(sg:SG bg st)(m:At κ a b out na nb)(hn:na+nb<=n):
  wpS (model prog w) A E s (gl1 a b na nb out g ac bc) (G2 κ a b n bg) st:=by
 obtain⟨mi,a1,a2,b1,b2⟩:=id m;obtain⟨y,y1,y2,y3,y4⟩:=gk T.kb (show 1<=nb by lia) b2;unfold gl1;refine wpS_bind (iB fun Zq fF=>?_);have cc:kindOf Zq=ks:=fF.kind.trans hk
 have bE:SG bg Zq:=⟨fF.kind.trans sg.kind,fF.arr.trans sg.arr,fF.pend.trans sg.pend,fF.fail.trans sg.fail⟩
 refine wpS_bind (aZ y1 ?_);refine wpS_bind (dz (κ:=κ) (kk:=key κ y) (hL Zq cc) y2 Zz (fun i hi=>?_) (fun i j cv hj iN=>?_) fun t kn kt kf=>?_)
 .obtain⟨p,p1,p2,p3,_⟩:=item T.ka (i:=0+i) Zz;exact⟨p,_,p1,p2,p3⟩
 .have mono:=jf T.ka T.sa (i:=0+i) (j:=0+j) Zz Zz;have iN:(!κ.blt (key κ y) (KK κ a (0+j)))=true:=iN;show(!κ.blt (key κ y) (KK κ a (0+i)))=true;rw[Bool.not_eq_true']at iN⊢;exact KeyOrd.kle_trans mono iN
 .have early:∀x∈a.toList.take t,∀z,b[nb-1]?=some z->leK κ x z:=fun x hx z hz=>by
   rw[y1]at hz;cases hz;obtain⟨j,j1,j2,j3⟩:=take_key0 T.ka hx;have:=kt j j1;rw[Nat.zero_add,j3]at this;have this:(!κ.blt (key κ y) (key κ x))=true:=this;rw[Bool.not_eq_true']at this;exact this
  by_cases h0:na-t>0
  .dsimp only;rw[if_pos h0]
   have m':=Ji T mi (show t<=na by lia) a2 fun z hz x hx=>by
    obtain⟨j,j1,j2,j3,j4⟩:=take_key T.ka hz;have:=kf j j1 j2;rw[Nat.zero_add,j4]at this;have this:(!κ.blt (key κ y) (key κ z))=false:=this;rw[Bool.not_eq_false']at this;exact cV (wN T.kb T.sb Zz b2 y3 x hx) (KeyOrd.kle_of_klt this)
   by_cases e:t=0
   .rw[if_pos (by simpa using e)];exact wpS_pure ⟨bE,.inl ⟨_,rfl,e_a T m' e⟩⟩
   .rw[if_neg (by simpa using e)];exact lU hL T F cc bE ⟨m',Zz,Zz,b1,b2⟩ Zz early
  .dsimp only;rw[if_neg h0];have e:t=na:=Zz
   rw[e]at early;exact lU hL T F cc bE m hn early
theorem lV(hL:LtAll prog w A E s κ ks)(T:Two κ a b)(F:FirstB κ a b){g na nb:Nat}{out:Array Keyed}{bg st:SortSt}(hk:kindOf st=ks)(sg:SG bg st)(m:At κ a b out na nb):
  wpS (model prog w) A E s (round a b na nb out g) (fun r Zq=>SG bg Zq/\match r with
   |.done c=>∃z,c.1=some z/\Rs κ a b z
   |.yield c=>c.1=none/\At κ a b c.2.2.2.1 c.2.1 c.2.2.1/\c.2.1+c.2.2.1<na+nb) st:=by
 unfold round
 have ND:0<a.size+b.size:=by
  have:=m.a1;have:=m.a2;lia
 refine wpS_bind (wpS_mono (wpS_forRange (I:=fun x c Zq=>Zq=st/\c.1=none/\At κ a b c.2.2.2.1 c.2.1 c.2.2.1/\c.2.1+c.2.2.1+x=na+nb)
  (Q:=fun c Zq=>Zq=st/\((∃z,c.1=some z/\Rs κ a b z)\/(c.1=none/\At κ a b c.2.2.2.1 c.2.1 c.2.2.1/\c.2.1+c.2.2.1<na+nb))) ?_ ?_ ⟨rfl,rfl,m,rfl⟩) ?_)
 .rintro x ⟨c0,i,j,o,ac,bc⟩ Zq _ hx ⟨rfl,rfl,m',e⟩;dsimp only at m' e⊢;refine wpS_mono (vg hL T F hk m') fun r st2 h2=>?_;obtain⟨rfl,h2⟩:=h2
  cases r with
  |done c=>
   rcases h2 with h2|⟨h2,h3,h4⟩
   .exact⟨rfl,.inl h2⟩
   .exact⟨rfl,.inr ⟨h2,h3,Zz⟩⟩
  |yield c=>
   obtain⟨h2,h3,h4⟩:=h2;exact⟨rfl,h2,h3,Zz⟩
 .rintro c Zq ⟨rfl,h1,h2,h3⟩;exact⟨rfl,.inr ⟨h1,h2,Zz⟩⟩
 .rintro⟨c0,i,j,o,ac,bc⟩ Zq ⟨rfl,h⟩;dsimp only at h⊢;rcases h with⟨z,rfl,hz⟩|⟨rfl,m',cv⟩
  .exact wpS_pure ⟨sg,z,rfl,hz⟩
  .dsimp only;refine wpS_bind (wpS_lift (wpAny_rule ⟨rfl,?_⟩))
   refine wpS_bind (wpS_mono (wpS_forRange (I:=fun x c st2=>SG bg st2/\c.1=none/\At κ a b c.2.2.2.1 c.2.1 c.2.2.1/\c.2.1+c.2.2.1<na+nb)
    (Q:=fun c st2=>SG bg st2/\((∃z,c.1=some z/\Rs κ a b z)\/(c.1=none/\At κ a b c.2.2.2.1 c.2.1 c.2.2.1/\c.2.1+c.2.2.1<na+nb))) ?_ ?_ ⟨sg,rfl,m',cv⟩) ?_)
   .rintro x ⟨c0,i,j,o,g2,ac,bc⟩ st2 _ hx ⟨bE,rfl,m2,e2⟩;dsimp only at m2 e2⊢;have AH:kindOf st2=ks:=bE.kind.trans (sg.kind.symm.trans hk);have go:∀g',wpS (model prog w) A E s (gl1 a b i j o g' ac bc) (G2 κ a b (na+nb) bg) st2:=fun g'=>vm hL T F AH bE m2 Zz;unfold gal;split
    .refine wpS_mono (go _) fun r fx h3=>?_;obtain⟨h3,h4⟩:=h3
     cases r with
     |done c=>exact⟨h3,h4⟩
     |yield c=>exact⟨h3,h4⟩
    .refine wpS_mono (go _) fun r fx h3=>?_;obtain⟨h3,h4⟩:=h3
     cases r with
     |done c=>exact⟨h3,h4⟩
     |yield c=>exact⟨h3,h4⟩
   .rintro c st2 ⟨h0,h1,h2,h3⟩;exact⟨h0,.inr ⟨h1,h2,h3⟩⟩
   .rintro⟨c0,i,j,o,g2,ac,bc⟩ st2 ⟨bE,h⟩;dsimp only at h⊢;rcases h with⟨z,rfl,hz⟩|⟨rfl,m2,si⟩
    .exact wpS_pure ⟨bE,z,rfl,hz⟩
    .dsimp only;refine wpS_bind (iB fun fx mN=>wpS_pure ⟨⟨mN.kind.trans bE.kind,mN.arr.trans bE.arr,mN.pend.trans bE.pend,mN.fail.trans bE.fail⟩,rfl,m2,si⟩)
theorem hi_wp(hL:LtAll prog w A E s κ ks)(T:Two κ a b)(L:iI κ a b)(F:FirstB κ a b)(ha:0<a.size)(hb:0<b.size){st:SortSt}(hk:kindOf st=ks){Q:Array Keyed->SortSt->Prop}
  (h:∀r Zq,SG st Zq->Rs κ a b r->Q r Zq):wpS (model prog w) A E s (jg a b) Q st:=by
 rw[Jh];obtain⟨x,x1,x2,x3,x4⟩:=gk T.ka (n:=a.size) ha (zA3 _);refine wpS_bind (wpS_lift (wpAny_rule ⟨rfl,?_⟩));refine wpS_bind (aZ x1 ?_)
 have m0:Mh κ a b #[] a.size b.size:=by
  refine⟨?_,List.Pairwise.nil,fun x hx=>absurd hx Zy⟩;rw[List.drop_of_length_le (by rw[zA9];exact zA3 _),List.drop_of_length_le (by rw[zA9];exact zA3 _)];exact List.Perm.nil
 have m:Mh κ a b #[x] (a.size-1) b.size:=pushA (out:=#[]) T m0 ha (zA3 _) x4 fun y hy=>L y (List.mem_of_mem_take hy) x (by
  rw[<-zA9,zAm,zA9]at x4;rw[x4]
  exact List.mem_cons_self)
 by_cases e1:a.size-1=0
 .rw[if_pos (by simpa using e1)];exact wpS_pure (h _ st (SG.refl _) (e_a T m e1))
 .rw[if_neg (by simpa using e1)];by_cases e2:b.size=1
  .rw[if_pos (by simpa using e2)];exact wpS_pure (h _ st (SG.refl _) (e_f T F m e2))
  .rw[if_neg (by simpa using e2)];refine wpS_bind (wpS_get ?_)
   refine wpS_bind (wpS_mono (wpS_forRange (I:=fun x c Zq=>SG st Zq/\c.1=none/\At κ a b c.2.2.2.1 c.2.1 c.2.2.1/\c.2.1+c.2.2.1+x<a.size+b.size)
    (Q:=fun c Zq=>SG st Zq/\∃z,c.1=some z/\Rs κ a b z) ?_ ?_ ⟨SG.refl _,rfl,⟨m,by dsimp only;lia,by dsimp only;lia,by dsimp only;lia,Nat.le_refl _⟩,by dsimp only;lia⟩) ?_)
   .rintro x ⟨c0,i,j,o,g⟩ Zq _ hx ⟨sg,rfl,m',e⟩;dsimp only at m' e⊢;refine wpS_mono (lV hL T F (sg.kind.trans hk) sg m') fun r st2 h2=>?_;obtain⟨bE,h2⟩:=h2
    cases r with
    |done c=>exact⟨bE,h2⟩
    |yield c=>
     obtain⟨h2,h3,h4⟩:=h2;exact⟨bE,h2,h3,Zz⟩
   .rintro c Zq ⟨sg,h1,m',e⟩;exact absurd e Zz
   .rintro⟨c0,i,j,o,g⟩ Zq ⟨sg,z,e,hz⟩;dsimp only at e;rw[e];exact wpS_pure (h z Zq sg hz)
end
end Hi
open PySem PyProof.Rows
def over(arr:Array Keyed)(n:Nat)(l:List Keyed):Array Keyed:=l.zipIdx.foldl (fun a p=>a.setIfInBounds (n+p.2) p.1) arr
theorem qW:∀(l:List Keyed) (j n:Nat) (arr:Array Keyed),n+j+l.length<=arr.size->
  (((l.zipIdx j).foldl (fun a p=>a.setIfInBounds (n+p.2) p.1) arr).size=arr.size/\∀i,((l.zipIdx j).foldl (fun a p=>a.setIfInBounds (n+p.2) p.1) arr)[i]?=if n+j<=i/\i<n+j+l.length then l[i-(n+j)]? else arr[i]?)
 |[],j,n,arr,_=>by
  refine⟨rfl,fun i=>?_⟩;rw[zAx (by rw[List.length_nil];lia)];rfl
 |p::l,j,n,arr,h=>by
  rw[zAe]at h;rw[List.zipIdx_cons,List.foldl_cons];obtain⟨h1,h2⟩:=qW l (j+1) n (arr.setIfInBounds (n+j) p) (by rw[Array.size_setIfInBounds];lia);refine⟨by rw[h1,Array.size_setIfInBounds],fun i=>?_⟩;rw[h2 i,zAe,Array.getElem?_setIfInBounds];by_cases e:n+j=i
  .subst e;rw[if_neg Zz,if_pos rfl,if_pos Zz,if_pos Zz];simp
  .rw[zAx e];by_cases e2:n+(j+1)<=i/\i<n+(j+1)+l.length
   .rw[zAz e2,zAz Zz,show i-(n+j)=(i-(n+(j+1)))+1 by lia];rfl
   .rw[zAx e2,zAx Zz]
theorem yx{arr:Array Keyed}{n:Nat}{l:List Keyed}(h:n+l.length<=arr.size):(over arr n l).toList=arr.toList.take n++l++arr.toList.drop (n+l.length):=by
 obtain⟨h1,h2⟩:=qW l 0 n arr Zz;refine List.ext_getElem? fun i=>?_;rw[Array.getElem?_toList];show((l.zipIdx 0).foldl (fun a p=>a.setIfInBounds (n+p.2) p.1) arr)[i]?=_;have hl:arr.toList.length=arr.size:=zA9;rw[h2 i,zAf,List.getElem?_append,zAd,hl,show min n arr.size=n by lia,List.getElem?_append];by_cases e1:i<n
 .rw[zAx Zz,zAz e1,List.getElem?_take,zAz e1,Array.getElem?_toList]
 .rw[zAx e1];by_cases e2:i<n+l.length
  .rw[zAz Zz,zAz Zz];rfl
  .rw[zAx Zz,zAx Zz,List.getElem?_drop,Array.getElem?_toList];congr 1;lia
theorem pw_of_seg{κ:PyProof.Rows.KeyKind}{arr:Array Keyed}(ka:KeysOf κ arr){lo hi:Nat}(hh:hi<=arr.size)(h:Seg κ arr lo hi):((arr.toList.take hi).drop lo).Pairwise (leK κ):=by
 rw[List.pairwise_iff_getElem];intro i j dP me cv;rw[List.length_drop,zAd,zA9]at dP me;rw[List.getElem_drop,List.getElem_drop,List.getElem_take,List.getElem_take]
 have dv:∀k,(hk:k<arr.toList.length)->k<arr.size->key κ arr.toList[k]=KK κ arr k:=fun k hk cc=>by
  obtain⟨p,p1,p2,p3,p4⟩:=item ka cc;rw[p3]
  have e:arr.toList[k]?=some p:=by
   rw[Array.getElem?_toList];exact p1
  rw[zA0 hk]at e;rw[zAl e]
 unfold leK;rw[dv _ _ Zz,dv _ _ Zz];exact h _ _ Zz Zz Zz
theorem yz{κ:PyProof.Rows.KeyKind}{arr:Array Keyed}(ka:KeysOf κ arr){lo hi:Nat}(hh:hi<=arr.size)(h:((arr.toList.take hi).drop lo).Pairwise (leK κ)):Seg κ arr lo hi:=by
 intro i j h1 h2 h3;by_cases e:i=j
 .rw[e];exact KeyOrd.kle_refl _
 .rw[List.pairwise_iff_getElem]at h
  have dv:∀k,(hk:k<arr.toList.length)->k<arr.size->key κ arr.toList[k]=KK κ arr k:=fun k hk cc=>by
   obtain⟨p,p1,p2,p3,p4⟩:=item ka cc;rw[p3]
   have e:arr.toList[k]?=some p:=by
    rw[Array.getElem?_toList];exact p1
   rw[zA0 hk]at e;rw[zAl e]
  have:=h (i-lo) (j-lo) (by rw[List.length_drop,zAd,zA9];lia) (by rw[List.length_drop,zAd,zA9];lia) Zz;rw[List.getElem_drop,List.getElem_drop,List.getElem_take,List.getElem_take]at this;unfold leK at this;rw[dv _ _ Zz,dv _ _ Zz]at this;rw[show lo+(i-lo)=i by lia,show lo+(j-lo)=j by lia]at this;exact this
theorem Jk(i:Nat):mergeAt' i=(do
  let s <-get
  match(pendingOf s)[i]?,(pendingOf s)[i+1]? with
  |some p,some q=>do
   set (setPending s (((pendingOf s).setIfInBounds i (p.1,p.2.1+q.2.1,p.2.2)).eraseIdxIfInBounds (i+1)))
   let y <-elem' (arrOf s) q.1
   let r <-fB false y (arrOf s) p.1 p.2.1 0
   match r with
   |some k=>
    if(p.2.1-k==0)=true then pure true
    else do
     let x <-elem' (arrOf s) (p.1+k+(p.2.1-k)-1)
     let r <-fB true x (arrOf s) q.1 q.2.1 (q.2.1-1)
     match r with
     |some n=>
      if(n==0)=true then pure true
      else do
       let m <-if p.2.1-k<=n then jb ((arrOf s).extract (p.1+k) q.1) ((arrOf s).extract q.1 (q.1+n))else jg ((arrOf s).extract (p.1+k) q.1) ((arrOf s).extract q.1 (q.1+n))
       modify fun s'=>setArr s' (over (arrOf s') (p.1+k) m.toList)
       let s' <-get
       pure (failedOf s').isNone
     |_=>pure false
   |_=>pure false
  |_,_=>liftM (unsupported "internal:list.sort.pending")):=by
 delta mergeAt'
 refine bc rfl (funext fun s=>?_);generalize e1:(pendingOf s)[i]?=o1;generalize e2:(pendingOf s)[i+1]?=o2
 cases o1 with
 |none=>cases o2<;>rfl
 |some p=>
  obtain⟨sa,na,pw⟩:=p
  cases o2 with
  |none=>rfl
  |some q=>
   obtain⟨sb,nb,EG⟩:=q;refine bc rfl (funext fun u=>bc rfl (funext fun y=>bc rfl (funext fun r=>?_)))
   cases r with
   |none=>rfl
   |some k=>
    refine ic rfl (bc rfl (funext fun x=>bc rfl (funext fun r=>?_)))
    cases r with
    |none=>rfl
    |some n=>exact ic rfl (ic (bc rfl (funext fun m=>rfl)) (bc rfl (funext fun m=>rfl)))
theorem keys_perm{κ:PyProof.Rows.KeyKind}{ab xs:Array Keyed}(h0:KeysOf κ ab)(h:xs.Perm ab):KeysOf κ xs:=fun p hp=>h0 p ((Array.perm_iff_toList_perm.mp h).mem_iff.mp hp)
theorem tV{κ:PyProof.Rows.KeyKind}{xs:Array Keyed}(h0:KeysOf κ xs)(i j:Nat):KeysOf κ (xs.extract i j):=fun p hp=>by
 rw[fU]at hp;exact h0 p (List.mem_of_mem_drop (List.mem_of_mem_take hp))
section
variable{prog:Program}{w:World}{A:Around}{E:Value->Shared->Prop}{s:Shared}{κ:PyProof.Rows.KeyKind}{ks:SortKind}{ab:Array Keyed}
structure Mg(κ:PyProof.Rows.KeyKind)(ks:SortKind)(ab:Array Keyed)(st Zq:SortSt)(sa hi:Nat)(pend:Array (Nat×Nat×Nat)):Prop where
 base:SB ks ab Zq
 out:∀k,(k<sa\/hi<=k)->(arrOf Zq)[k]?=(arrOf st)[k]?
 seg:Seg κ (arrOf Zq) sa hi
 pend:pendingOf Zq=pend
theorem zU{l:List Keyed}{i j k m:Nat}(h1:i<=j)(h2:j<=k)(h3:k<=m)(h4:m<=l.length):(l.take m).drop i=(l.take j).drop i++((l.take k).drop j++(l.take m).drop k):=by
 have c:∀{x y z:Nat},x<=y->y<=z->z<=l.length->(l.take z).drop x=(l.take y).drop x++(l.take z).drop y:=fun{x y z} a b d=>by
  have:=Hi.cut_drop (l:=l.take z) (t:=x) (n:=y) a (by rw[zAd];lia);rw[List.take_take,show min y z=y by lia]at this;exact this.symm
 rw[c h1 Zz h4,c h2 h3 h4]
theorem Jl(hL:LtAll prog w A E s κ ks)(h0:KeysOf κ ab){st:SortSt}(B:SB ks ab st){i sa na pw nb EG:Nat}(e1:(pendingOf st)[i]?=some (sa,na,pw))(e2:(pendingOf st)[i+1]?=some (sa+na,nb,EG))
  (n1:1<=na) (n2:1<=nb) (hz:sa+na+nb<=ab.size) (s1:Seg κ (arrOf st) sa (sa+na)) (s2:Seg κ (arrOf st) (sa+na) (sa+na+nb)) {Q:Bool->SortSt->Prop}
  (h:∀Zq,Mg κ ks ab st Zq sa (sa+na+nb) (((pendingOf st).setIfInBounds i (sa,na+nb,pw)).eraseIdxIfInBounds (i+1))->Q true Zq):wpS (model prog w) A E s (mergeAt' i) Q st:=by
 rw[Jk];refine wpS_bind (wpS_get ?_);rw[e1,e2];dsimp only;have kA:KeysOf κ (arrOf st):=keys_perm h0 B.pm;have hsz:(arrOf st).size=ab.size:=B.size;have gu:(arrOf st).toList.length=ab.size:=by rw[zA9,hsz]
 obtain⟨P,eP⟩:∃P,P=((pendingOf st).setIfInBounds i (sa,na+nb,pw)).eraseIdxIfInBounds (i+1):=⟨_,rfl⟩
 rw[<-eP]at h⊢
 have EH:∀{R:PUnit->SortSt->Prop},R ⟨⟩ (setPending st P)->wpS (model prog w) A E s (set (setPending st P):Sm PUnit) R st:=fun hR=>by
  unfold wpS;rw[StateT.run_set];exact zAv ⟨rfl,hR⟩
 refine wpS_bind (EH ?_)
 obtain⟨fE,iO⟩:∃fE,fE=setPending st P:=⟨_,rfl⟩
 have k1:kindOf fE=ks:=by rw[iO];exact B.kind
 have a1:arrOf fE=arrOf st:=by rw[iO]
 have p1:pendingOf fE=P:=by rw[iO]
 have f1:failedOf fE=none:=by rw[iO];exact B.ok
 rw[<-iO]
 have all:Seg κ (arrOf st) sa (sa+na+nb)->Mg κ ks ab st fE sa (sa+na+nb) P:=fun sg=>⟨⟨k1,f1,by rw[a1];exact B.pm⟩,fun k _=>by rw[a1],by rw[a1];exact sg,p1⟩
 obtain⟨y,y1,y2,y3,y4⟩:=item kA (i:=sa+na) Zz;refine wpS_bind (aZ y1 ?_);refine wpS_bind (dz (κ:=κ) (kk:=key κ y) (hL fE k1) y2 Zz (fun j hj=>?_) (fun j j' NF me hb=>?_) fun k kn kt kf=>?_)
 .obtain⟨p,q1,q2,q3,_⟩:=item kA (i:=sa+j) Zz;exact⟨p,_,q1,q2,q3⟩
 .have mono:=s1 (sa+j) (sa+j') Zz Zz Zz;have hb:(!κ.blt (key κ y) (KK κ (arrOf st) (sa+j')))=true:=hb;show(!κ.blt (key κ y) (KK κ (arrOf st) (sa+j)))=true;rw[Bool.not_eq_true']at hb⊢;exact KeyOrd.kle_trans mono hb
 .have EI:∀j,sa<=j->j<sa+k->κ.kle (KK κ (arrOf st) j) (KK κ (arrOf st) (sa+na)):=fun j j1 j2=>by
   have:=kt (j-sa) Zz;rw[show sa+(j-sa)=j by lia]at this;have this:(!κ.blt (key κ y) (KK κ (arrOf st) j))=true:=this;rw[Bool.not_eq_true']at this;rw[y3];exact this
  have NG:∀j,sa+k<=j->j<sa+na->κ.kle (KK κ (arrOf st) (sa+na)) (KK κ (arrOf st) j):=fun j j1 j2=>by
   have:=kf (j-sa) Zz Zz;rw[show sa+(j-sa)=j by lia]at this;have this:(!κ.blt (key κ y) (KK κ (arrOf st) j))=false:=this;rw[Bool.not_eq_false']at this;rw[y3];exact KeyOrd.kle_of_klt this
  dsimp only;by_cases vt:na-k=0
  .rw[if_pos (by simpa using vt)];refine wpS_pure (h fE (all fun u v hu AJ hv=>?_));by_cases c1:v<sa+na
   .exact s1 u v hu AJ c1
   .by_cases c2:u<sa+na
    .exact KeyOrd.kle_trans (EI u hu Zz) (s2 (sa+na) v (zA3 _) Zz hv)
    .exact s2 u v Zz AJ hv
  .rw[if_neg (by simpa using vt)];rw[show sa+k+(na-k)-1=sa+na-1 by lia];obtain⟨x,x1,x2,x3,x4⟩:=item kA (i:=sa+na-1) Zz;refine wpS_bind (aZ x1 ?_);refine wpS_bind (dz (κ:=κ) (kk:=key κ x) (hL fE k1) x2 Zz (fun j hj=>?_) (fun j j' NF me hb=>?_) fun n nn nt nf=>?_)
   .obtain⟨p,q1,q2,q3,_⟩:=item kA (i:=sa+na+j) Zz;exact⟨p,_,q1,q2,q3⟩
   .exact KeyOrd.klt_of_kle_of_klt (s2 (sa+na+j) (sa+na+j') Zz Zz Zz) hb
   .have NH:∀j,sa+na<=j->j<sa+na+n->κ.kle (KK κ (arrOf st) j) (KK κ (arrOf st) (sa+na-1)):=fun j j1 j2=>by
     have:=nt (j-(sa+na)) Zz;rw[show sa+na+(j-(sa+na))=j by lia]at this;rw[x3];exact KeyOrd.kle_of_klt this
    have Le:∀j,sa+na+n<=j->j<sa+na+nb->κ.kle (KK κ (arrOf st) (sa+na-1)) (KK κ (arrOf st) j):=fun j j1 j2=>by
     have:=nf (j-(sa+na)) Zz Zz;rw[show sa+na+(j-(sa+na))=j by lia]at this;rw[x3];exact this
    dsimp only;by_cases AK:n=0
    .rw[if_pos (by simpa using AK)];refine wpS_pure (h fE (all fun u v hu AJ hv=>?_));by_cases c1:v<sa+na
     .exact s1 u v hu AJ c1
     .by_cases c2:u<sa+na
      .exact KeyOrd.kle_trans (s1 u (sa+na-1) hu Zz Zz) (Le v Zz hv)
      .exact s2 u v Zz AJ hv
    .rw[if_neg (by simpa using AK)]
     obtain⟨X,eX⟩:∃X,X=(arrOf st).extract (sa+k) (sa+na):=⟨_,rfl⟩
     obtain⟨Y,eY⟩:∃Y,Y=(arrOf st).extract (sa+na) (sa+na+n):=⟨_,rfl⟩
     rw[<-eX,<-eY];have lX:X.toList=((arrOf st).toList.take (sa+na)).drop (sa+k):=by rw[eX,Hi.ext_cut]
     have lY:Y.toList=((arrOf st).toList.take (sa+na+n)).drop (sa+na):=by rw[eY,Hi.ext_cut]
     have zX:X.size=na-k:=by rw[<-zA9,lX,List.length_drop,zAd,gu];lia
     have zY:Y.size=n:=by rw[<-zA9,lY,List.length_drop,zAd,gu];lia
     have pA:=pw_of_seg kA Zz s1;have pB:=pw_of_seg kA Zz s2;have eA:=zU (l:=(arrOf st).toList) (i:=sa) (j:=sa+k) (k:=sa+na) (m:=sa+na) Zz Zz (zA3 _) (by rw[gu];lia);have eB:=zU (l:=(arrOf st).toList) (i:=sa+na) (j:=sa+na+n) (k:=sa+na+nb) (m:=sa+na+nb) Zz Zz (zA3 _) (by rw[gu];lia);have EJ:((arrOf st).toList.take (sa+na)).drop (sa+na)=[]:=List.drop_of_length_le (by rw[zAd];lia);have EK:((arrOf st).toList.take (sa+na+nb)).drop (sa+na+nb)=[]:=List.drop_of_length_le (by rw[zAd];lia);rw[EJ,zAn,<-lX]at eA;rw[EK,zAn,<-lY]at eB
     obtain⟨A1,EL⟩:∃A1,A1=((arrOf st).toList.take (sa+k)).drop sa:=⟨_,rfl⟩
     obtain⟨B2,EM⟩:∃B2,B2=((arrOf st).toList.take (sa+na+nb)).drop (sa+na+n):=⟨_,rfl⟩
     rw[<-EL]at eA;rw[<-EM]at eB;rw[eA]at pA;rw[eB]at pB;obtain⟨NI,pX,NJ⟩:=List.pairwise_append.mp pA;obtain⟨pY,NK,NL⟩:=List.pairwise_append.mp pB
     have Lf:∀z∈X.toList,∃j,sa+k<=j/\j<sa+na/\KK κ (arrOf st) j=key κ z:=fun z cK=>by
      rw[lX]at cK;obtain⟨j,j1,j2,_,j4⟩:=Hi.take_key kA cK;exact⟨j,j1,j2,j4⟩
     have Lg:∀z∈Y.toList,∃j,sa+na<=j/\j<sa+na+n/\KK κ (arrOf st) j=key κ z:=fun z cK=>by
      rw[lY]at cK;obtain⟨j,j1,j2,_,j4⟩:=Hi.take_key kA cK;exact⟨j,j1,j2,j4⟩
     have NM:∀z∈A1,∃j,sa<=j/\j<sa+k/\KK κ (arrOf st) j=key κ z:=fun z cK=>by
      rw[EL]at cK;obtain⟨j,j1,j2,_,j4⟩:=Hi.take_key kA cK;exact⟨j,j1,j2,j4⟩
     have Lh:∀z∈B2,∃j,sa+na+n<=j/\j<sa+na+nb/\KK κ (arrOf st) j=key κ z:=fun z cK=>by
      rw[EM]at cK;obtain⟨j,j1,j2,_,j4⟩:=Hi.take_key kA cK;exact⟨j,j1,j2,j4⟩
     have TT:Two κ X Y:=⟨by rw[eX];exact tV kA _ _,by rw[eY];exact tV kA _ _,pX,pY⟩
     have LL:iI κ X Y:=fun z cK v hv=>by
      obtain⟨j,j1,j2,j3⟩:=Lg z cK;obtain⟨j',AL,AM,sv⟩:=lO TT.ka hv;have ej:j'=X.size-1:=Zz
      have e:KK κ X j'=KK κ (arrOf st) (sa+na-1):=by
       refine KK_congr ?_;rw[eX,Array.getElem?_extract,zAz Zz];congr 1;lia
      show κ.kle (key κ z) (key κ v);rw[<-j3,<-sv,e];exact NH j j1 j2
     have F0:∀v∈X.toList,∀z,Y[0]?=some z->leK κ z v:=fun v hv z cK=>by
      obtain⟨j,j1,j2,j3⟩:=Lf v hv
      have ez:z=y:=by
       rw[eY,Array.getElem?_extract,zAz Zz,Nat.add_zero,y1]at cK;exact(zAl cK).symm
      show κ.kle (key κ z) (key κ v);rw[ez,<-y3,<-j3];exact NG j j1 j2
     have FB:Hi.FirstB κ X Y:=fun z cK v hv=>by
      obtain⟨j,j1,j2,j3⟩:=Hi.take_key0 TT.kb cK;obtain⟨q,q1,q2,q3,_⟩:=item TT.kb (i:=0) Zz;have e0:j=0:=Zz
      rw[e0,q3]at j3;have:=F0 v hv q q1;unfold leK at this⊢;rw[<-j3];exact this
     have fin:∀m st2,SG fE st2->Rs κ X Y m->wpS (model prog w) A E s (do
       modify fun s'=>setArr s' (over (arrOf s') (sa+k) m.toList)
       let s' <-get
       pure (failedOf s').isNone) Q st2:=fun m st2 sg D=>by
      refine wpS_bind (wpS_modify (wpS_bind (wpS_get (wpS_pure ?_))))
      have ft:(failedOf (setArr st2 (over (arrOf st2) (sa+k) m.toList))).isNone=true:=by
       show(failedOf st2).isNone=true;rw[sg.fail,f1];rfl
      rw[ft];have am:arrOf st2=arrOf st:=sg.arr.trans a1
      have lm:m.toList.length=na-k+n:=by
       rw[D.pm.length_eq,zA2,zA9,zA9,zX,zY]
      have ol:(over (arrOf st) (sa+k) m.toList).toList=(arrOf st).toList.take (sa+k)++m.toList++(arrOf st).toList.drop (sa+na+n):=by
       rw[yx (by rw[lm,hsz];lia),lm,show sa+k+(na-k+n)=sa+na+n by lia]
      have AN:(over (arrOf st) (sa+k) m.toList).toList.Perm (arrOf st).toList:=by
       rw[ol]
       have e:(arrOf st).toList=(arrOf st).toList.take (sa+k)++(X.toList++Y.toList)++(arrOf st).toList.drop (sa+na+n):=by
        rw[lX,lY];have c1:=Hi.cut_drop (l:=(arrOf st).toList) (t:=sa+na) (n:=sa+na+n) Zz (by rw[gu];lia);have c2:=Hi.cut_drop (l:=(arrOf st).toList) (t:=sa+k) (n:=sa+na) Zz (by rw[gu];lia);rw[zAf,zAf,c1,c2,zB9]
       conv=>rhs;rw[e]
       exact List.Perm.append_right _ (List.Perm.append_left _ D.pm)
      have kG:(over (arrOf st) (sa+k) m.toList).Perm (arrOf st):=Array.perm_iff_toList_perm.mpr AN;have kO:KeysOf κ (over (arrOf st) (sa+k) m.toList):=keys_perm kA kG;have zO:(over (arrOf st) (sa+k) m.toList).size=ab.size:=kG.size_eq.trans hsz;have og:∀j,(over (arrOf st) (sa+k) m.toList)[j]?=if sa+k+0<=j/\j<sa+k+0+m.toList.length then m.toList[j-(sa+k+0)]? else(arrOf st)[j]?:=(qW m.toList 0 (sa+k) (arrOf st) (by rw[lm,hsz];lia)).2;refine h _ ⟨⟨sg.kind.trans k1,by show failedOf st2=none;rw[sg.fail,f1],?_⟩,fun j hj=>?_,?_,?_⟩
      .show(over (arrOf st2) (sa+k) m.toList).Perm ab;rw[am];exact kG.trans B.pm
      .show(over (arrOf st2) (sa+k) m.toList)[j]?=_;rw[am,og j,zAx (by rw[lm];lia)]
      .show Seg κ (over (arrOf st2) (sa+k) m.toList) sa (sa+na+nb);rw[am];refine yz kO (by rw[zO];exact hz) ?_
       have cut:((over (arrOf st) (sa+k) m.toList).toList.take (sa+na+nb)).drop sa=A1++(m.toList++B2):=by
        rw[ol,EL,EM];have tl:((arrOf st).toList.take (sa+k)).length=sa+k:=by rw[zAd,gu];lia
        rw[zAf,List.take_append,tl,List.take_of_length_le (l:=(arrOf st).toList.take (sa+k)) (by rw[tl];lia),List.take_append,lm,List.take_of_length_le (l:=m.toList) (by rw[lm];lia)];rw[List.drop_append_of_le_length (by rw[tl];lia)];congr 2;rw[List.drop_take];congr 1;lia
       rw[cut];refine List.pairwise_append.mpr ⟨NI,List.pairwise_append.mpr ⟨D.sr,NK,fun u hu v hv=>?_⟩,fun u hu v hv=>?_⟩
       .rcases zA6.mp (D.pm.mem_iff.mp hu)with c|c
        .obtain⟨j,j1,j2,j3⟩:=Lf u c;obtain⟨j',AL,AM,sv⟩:=Lh v hv;show κ.kle (key κ u) (key κ v);rw[<-j3,<-sv];exact KeyOrd.kle_trans (s1 j (sa+na-1) Zz Zz Zz) (Le j' AL AM)
        .exact NL u c v hv
       .obtain⟨j,j1,j2,j3⟩:=NM u hu;rcases zA6.mp hv with c|c
        .rcases zA6.mp (D.pm.mem_iff.mp c)with c|c
         .exact NJ u hu v c
         .obtain⟨j',AL,AM,sv⟩:=Lg v c;show κ.kle (key κ u) (key κ v);rw[<-j3,<-sv];exact KeyOrd.kle_trans (EI j j1 j2) (s2 (sa+na) j' (zA3 _) AL Zz)
        .obtain⟨j',AL,AM,sv⟩:=Lh v c;show κ.kle (key κ u) (key κ v);rw[<-j3,<-sv];exact KeyOrd.kle_trans (EI j j1 j2) (s2 (sa+na) j' (zA3 _) Zz AM)
      .show pendingOf st2=P;rw[sg.pend,p1]
     by_cases hc:na-k<=n
     .rw[zAz hc];exact wpS_bind (Jg hL TT LL Zz Zz F0 k1 fun m st2 sg D=>fin m st2 sg D)
     .rw[zAx hc];exact wpS_bind (Hi.hi_wp hL TT LL FB Zz Zz k1 fun m st2 sg D=>fin m st2 sg D)
end
abbrev Run:=Nat×Nat×Nat
def Ch(κ:PyProof.Rows.KeyKind)(arr:Array Keyed):List Run->Nat->Nat->Prop
 |[],a,b=>a=b
 |r::l,a,b=>r.1=a/\1<=r.2.1/\Seg κ arr a (a+r.2.1)/\Ch κ arr l (a+r.2.1) b
theorem Ch.le{κ:PyProof.Rows.KeyKind}{arr:Array Keyed}:∀{l:List Run} {a b:Nat},Ch κ arr l a b->a+l.length<=b
 |[],a,b,h=>by
  have h:a=b:=h;simp[h]
 |r::l,a,b,h=>by
  have:=Ch.le h.2.2.2;have:=h.2.1;rw[zAe];lia
theorem Ch.split{κ:PyProof.Rows.KeyKind}{arr:Array Keyed}:∀{l1 l2:List Run} {a b:Nat},Ch κ arr (l1++l2) a b↔∃m,Ch κ arr l1 a m/\Ch κ arr l2 m b
 |[],l2,a,b=>⟨fun h=>⟨a,rfl,h⟩,fun hZ=>by
  obtain⟨m,h1,h2⟩:=hZ;have h1:a=m:=h1;rw[h1]
  exact h2⟩
 |r::l1,l2,a,b=>by
  constructor
  .intro h;obtain⟨m,h1,h2⟩:=Ch.split.mp h.2.2.2;exact⟨m,⟨h.1,h.2.1,h.2.2.1,h1⟩,h2⟩
  .rintro⟨m,h1,h2⟩;exact⟨h1.1,h1.2.1,h1.2.2.1,Ch.split.mpr ⟨m,h1.2.2.2,h2⟩⟩
theorem tW{κ:PyProof.Rows.KeyKind}{arr kH:Array Keyed}{a b:Nat}(h:Seg κ arr a b)(e:∀k,a<=k->k<b->kH[k]?=arr[k]?):Seg κ kH a b:=fun i j h1 h2 h3=>by
 rw[KK_congr (e i h1 Zz),KK_congr (e j Zz h3)];exact h i j h1 h2 h3
theorem Ch.same{κ:PyProof.Rows.KeyKind}{arr kH:Array Keyed}:∀{l:List Run} {a b:Nat},Ch κ arr l a b->(∀k,a<=k->k<b->kH[k]?=arr[k]?)->Ch κ kH l a b
 |[],_,_,h,_=>h
 |r::l,a,b,h,e=>by
  have:=Ch.le h.2.2.2;exact⟨h.1,h.2.1,tW h.2.2.1 fun k k1 k2=>e k k1 Zz,h.2.2.2.same fun k k1 k2=>e k Zz k2⟩
theorem yC{p:Array Run}{i:Nat}{v:Run}(h:i+1<p.size):((p.setIfInBounds i v).eraseIdxIfInBounds (i+1)).toList=p.toList.take i++v::p.toList.drop (i+2):=by
 have hl:p.toList.length=p.size:=zA9
 have e1:(p.setIfInBounds i v).eraseIdxIfInBounds (i+1)=(p.setIfInBounds i v).eraseIdx (i+1) (by rw[Array.size_setIfInBounds];exact h):=by
  rw[Array.eraseIdxIfInBounds,dif_pos (by rw[Array.size_setIfInBounds];exact h)]
 rw[e1,Array.toList_eraseIdx,Array.toList_setIfInBounds,List.eraseIdx_eq_take_drop_succ,List.take_set,List.drop_set,zAz Zz]
 have e2:p.toList.take (i+1)=p.toList.take i++[p.toList[i]'Zz]:=by
  rw[zAj,zA0 Zz];rfl
 rw[e2,List.set_append_right _ _ (by rw[zAd];lia)];rw[zAd,show i-min i p.toList.length=0 by lia];simp
section
variable{prog:Program}{w:World}{A:Around}{E:Value->Shared->Prop}{s:Shared}{κ:PyProof.Rows.KeyKind}{ks:SortKind}{ab:Array Keyed}
structure St(κ:PyProof.Rows.KeyKind)(ks:SortKind)(ab:Array Keyed)(st:SortSt)(lo:Nat):Prop where
 base:SB ks ab st
 ch:Ch κ (arrOf st) (pendingOf st).toList 0 lo
 le:lo<=ab.size
theorem tX(hL:LtAll prog w A E s κ ks)(h0:KeysOf κ ab){st:SortSt}{lo i:Nat}(S:St κ ks ab st lo)(hi:i+1<(pendingOf st).size){Q:Bool->SortSt->Prop}
  (h:∀Zq,St κ ks ab Zq lo->(pendingOf Zq).size+1=(pendingOf st).size->(∀k,lo<=k->(arrOf Zq)[k]?=(arrOf st)[k]?)->Q true Zq):wpS (model prog w) A E s (mergeAt' i) Q st:=by
 have hl:(pendingOf st).toList.length=(pendingOf st).size:=zA9;have d1:(pendingOf st).toList.drop i=(pendingOf st).toList[i]'Zz::(pendingOf st).toList.drop (i+1):=List.drop_eq_getElem_cons Zz;have d2:(pendingOf st).toList.drop (i+1)=(pendingOf st).toList[i+1]'Zz::(pendingOf st).toList.drop (i+2):=List.drop_eq_getElem_cons Zz;have g1:(pendingOf st)[i]?=some ((pendingOf st).toList[i]'Zz):=by rw[<-Array.getElem?_toList,zA0 Zz]
 have g2:(pendingOf st)[i+1]?=some ((pendingOf st).toList[i+1]'Zz):=by rw[<-Array.getElem?_toList,zA0 Zz]
 obtain⟨⟨sa,na,pw⟩,ep⟩:∃r,r=(pendingOf st).toList[i]'Zz:=⟨_,rfl⟩
 obtain⟨⟨sb,nb,EG⟩,eq⟩:∃r,r=(pendingOf st).toList[i+1]'Zz:=⟨_,rfl⟩
 rw[<-ep]at d1 g1;rw[<-eq]at d2 g2;have c:=S.ch;rw[<-List.take_append_drop i (pendingOf st).toList,d1,d2]at c;obtain⟨m,c1,c2⟩:=Ch.split.mp c;obtain⟨q1,q2,q3,q4,q5,q6,q7⟩:=c2;dsimp only at q1 q2 q3 q4 q5 q6 q7;subst q1;subst q4;have lb:=Ch.le q7;have lm:=Ch.le c1;refine Jl hL h0 S.base g1 g2 q2 q5 (by have:=S.le;lia) q3 q6 fun Zq M=>?_;have pl:(pendingOf Zq).toList=(pendingOf st).toList.take i++(sa,na+nb,pw)::(pendingOf st).toList.drop (i+2):=by rw[M.pend,yC hi]
 refine h Zq ⟨M.base,?_,S.le⟩ ?_ fun k hk=>M.out k (.inr Zz)
 .rw[pl];refine Ch.split.mpr ⟨sa,c1.same fun k _ k2=>M.out k (.inl k2),rfl,by dsimp only;lia,?_,?_⟩
  .dsimp only;rw[<-Nat.add_assoc];exact M.seg
  .dsimp only;rw[<-Nat.add_assoc];exact q7.same fun k k1 _=>M.out k (.inr k1)
 .rw[<-zA9,pl,zA2,zAe,zAd,List.length_drop];lia
def rest(z lo n:Nat):Sm (ForInStep (Option Unit×Nat)):=do
 let s <-get
 match(pendingOf s).back? with
 |some (s1,n1,_)=>do
  let c <-forIn [0:z] ((none,()):Option Unit×Unit) fun _ _=>do
    let s <-get
    match(if(pendingOf s).size>1 then(pendingOf s)[(pendingOf s).size-2]? else none)with
    |some (_,_,oP)=>
     if oP<=power' z (2*s1+n1) (2*s1+n1+n1+n) z then pure (ForInStep.done (none,()))
     else do
      let b <-mergeAt' ((pendingOf s).size-2)
      if(!b)=true then pure (ForInStep.done (some (),()))else pure (ForInStep.yield (none,()))
    |_=>pure (ForInStep.done (none,()))
  match c.1 with
  |some r=>pure (ForInStep.done (some r,lo))
  |none=>do
   modify fun s=>setPending s ((pendingOf s).modify ((pendingOf s).size-1) fun x=>(x.1,x.2.1,power' z (2*s1+n1) (2*s1+n1+n1+n) z))
   modify fun s=>setPending s ((pendingOf s).push (lo,n,0))
   pure (ForInStep.yield (none,lo+n))
 |_=>do
  modify fun s=>setPending s ((pendingOf s).push (lo,n,0))
  pure (ForInStep.yield (none,lo+n))
theorem Ch.pw{κ:PyProof.Rows.KeyKind}{arr:Array Keyed}(f:Run->Run)(hf:∀r,(f r).1=r.1/\(f r).2.1=r.2.1):∀{l:List Run} {a b i:Nat},Ch κ arr l a b->Ch κ arr (l.modify i f) a b
 |[],a,b,i,h=>by
  cases i<;>exact h
 |r::l,a,b,0,h=>by
  obtain⟨e1,e2⟩:=hf r;refine⟨e1.trans h.1,by rw[e2];exact h.2.1,by rw[e2];exact h.2.2.1,?_⟩;rw[e2];exact h.2.2.2
 |r::l,a,b,i+1,h=>⟨h.1,h.2.1,h.2.2.1,Ch.pw f hf h.2.2.2⟩
theorem St.push{st:SortSt}{lo n:Nat}(S:St κ ks ab st lo)(n1:1<=n)(hn:lo+n<=ab.size)(sg:Seg κ (arrOf st) lo (lo+n)):St κ ks ab (setPending st ((pendingOf st).push (lo,n,0))) (lo+n):=by
 refine⟨⟨S.base.kind,S.base.ok,S.base.pm⟩,?_,hn⟩;show Ch κ (arrOf st) ((pendingOf st).push (lo,n,0)).toList 0 (lo+n);rw[Array.toList_push];exact Ch.split.mpr ⟨lo,S.ch,rfl,n1,sg,rfl⟩
theorem St.pw{st:SortSt}{lo i:Nat}(S:St κ ks ab st lo)(f:Run->Run)(hf:∀r,(f r).1=r.1/\(f r).2.1=r.2.1):St κ ks ab (setPending st ((pendingOf st).modify i f)) lo:=by
 refine⟨⟨S.base.kind,S.base.ok,S.base.pm⟩,?_,S.le⟩;show Ch κ (arrOf st) ((pendingOf st).modify i f).toList 0 lo;rw[Array.toList_modify];exact S.ch.pw f hf
theorem wO(hL:LtAll prog w A E s κ ks)(h0:KeysOf κ ab){st:SortSt}{lo n x:Nat}(S:St κ ks ab st lo)(n1:1<=n)(hn:lo+n<=ab.size)(sg:Seg κ (arrOf st) lo (lo+n))(hx:x<=lo){Q:ForInStep (Option Unit×Nat)->SortSt->Prop}
  (h:∀Zq,St κ ks ab Zq (lo+n)->Q (.yield (none,lo+n)) Zq):wpS (model prog w) A E s (rest ab.size lo n) Q st:=by
 unfold rest;refine wpS_bind (wpS_get ?_)
 cases(pendingOf st).back? with
 |none=>exact wpS_bind (wpS_modify (wpS_pure (h _ (S.push n1 hn sg))))
 |some q=>
  obtain⟨s1,AO,p1⟩:=q;dsimp only;refine wpS_bind (wpS_mono (wpS_forRange (I:=fun _ c Zq=>c=(none,())/\St κ ks ab Zq lo/\Seg κ (arrOf Zq) lo (lo+n)) (Q:=fun c Zq=>c=(none,())/\St κ ks ab Zq lo/\Seg κ (arrOf Zq) lo (lo+n)) ?_ (fun _ _ z=>z) ⟨rfl,S,sg⟩) ?_)
  .rintro y c Zq _ _ ⟨rfl,S',fF⟩;refine wpS_bind (wpS_get ?_);by_cases h1:(pendingOf Zq).size>1
   .rw[zAz h1];have hl:(pendingOf Zq).size-2<(pendingOf Zq).size:=Zz
    rw[Array.getElem?_eq_getElem hl]
    obtain⟨⟨a1,a2,oP⟩,eo⟩:∃r,r=(pendingOf Zq)[(pendingOf Zq).size-2]:=⟨_,rfl⟩
    rw[<-eo];dsimp only;split
    .exact wpS_pure ⟨rfl,S',fF⟩
    .refine wpS_bind (tX hL h0 S' Zz fun st2 S2 _ o2=>?_);rw[zAx Zx];exact wpS_pure ⟨rfl,S2,tW fF fun k k1 _=>o2 k k1⟩
   .rw[zAx h1];exact wpS_pure ⟨rfl,S',fF⟩
  .rintro c Zq ⟨rfl,S',fF⟩;dsimp only;refine wpS_bind (wpS_modify (wpS_bind (wpS_modify (wpS_pure (h _ ?_)))));exact(S'.pw (fun x=>(x.1,x.2.1,power' ab.size (2*s1+AO) (2*s1+AO+AO+n) ab.size)) fun _=>⟨rfl,rfl⟩).push n1 hn fF
theorem ifl(c:Prop)[Decidable c](n:Nat):(if c then n-1 else n)<=n:=by split<;>lia
theorem runs_wp(hL:LtAll prog w A E s κ ks)(h0:KeysOf κ ab){st:SortSt}(B:SB ks ab st)(hp:pendingOf st=#[]){Q:Unit->SortSt->Prop}
  (h:∀Zq,SB ks ab Zq->Seg κ (arrOf Zq) 0 ab.size->Q () Zq):wpS (model prog w) A E s sortRuns' Q st:=by
 rw[sortRuns'_eq];refine wpS_bind (wpS_get ?_);dsimp only;rw[B.size];generalize minRun' ab.size ab.size 0=mr;refine wpS_bind (wpS_mono (wpS_forRange (I:=fun x c Zq=>c.1=none/\St κ ks ab Zq c.2/\x<=c.2) (Q:=fun c Zq=>c.1=none/\St κ ks ab Zq ab.size) ?_ ?_ ⟨rfl,⟨B,by rw[hp];rfl,zAp _⟩,zA3 _⟩) ?_)
 .rintro x ⟨c0,lo⟩ Zq _ hx ⟨rfl,S,dS⟩;dsimp only at S dS⊢;by_cases sf:lo≥ab.size
  .rw[zAz sf]
   have e:lo=ab.size:=by
    have:=S.le;lia
   refine wpS_pure ⟨rfl,?_⟩;rw[<-e];exact S
  .rw[if_neg sf];refine wpS_bind (zR hL h0 Zz Zz S.base fun n fE B1 O1 n1 n2 Li=>?_);dsimp only
   have S1:St κ ks ab fE lo:=⟨B1,by rw[O1.pend];exact S.ch.same fun k _ k2=>O1.out k (.inl k2),S.le⟩
   have tr:∀{m m':Sm (ForInStep (Option Unit×Nat))} {R:ForInStep (Option Unit×Nat)->SortSt->Prop} {st2:SortSt},m=m'->wpS (model prog w) A E s m' R st2->wpS (model prog w) A E s m R st2:=fun e h=>e▸h;by_cases hm:n<mr
   .rw[if_pos hm];refine wpS_bind (wpS_lift (wpAny_rule ⟨rfl,?_⟩));refine wpS_bind (Ho hL h0 Zz Zz B1 Li fun st2 B2 O2 bE=>?_);rw[if_neg Zx];refine tr ?_ (wO hL h0 ⟨B2,by rw[O2.pend];exact S1.ch.same fun k _ k2=>O2.out k (.inl k2),S.le⟩ Zz Zz bE dS fun fx S3=>⟨rfl,S3,by dsimp only;lia⟩)
    .skip
     unfold rest;refine bc rfl (funext fun s=>?_)
     cases(pendingOf s).back? with
     |none=>rfl
     |some q=>
      obtain⟨s1,n1,p⟩:=q;refine bc (fi (funext fun x=>funext fun c=>bc rfl (funext fun s=>?_))) (funext fun c=>?_)
      .generalize(if(pendingOf s).size>1 then(pendingOf s)[(pendingOf s).size-2]? else none)=o
       cases o with
       |none=>rfl
       |some r=>
        obtain⟨r1,r2,r3⟩:=r;exact ic rfl (bc rfl (funext fun b=>rfl))
      .obtain⟨r,u⟩:=c;cases r<;>rfl
   .rw[if_neg hm];refine tr ?_ (wO hL h0 S1 n1 Zz Li dS fun fx S3=>⟨rfl,S3,by dsimp only;lia⟩)
    .skip
     unfold rest;refine bc rfl (funext fun s=>?_)
     cases(pendingOf s).back? with
     |none=>rfl
     |some q=>
      obtain⟨s1,n1,p⟩:=q;refine bc (fi (funext fun x=>funext fun c=>bc rfl (funext fun s=>?_))) (funext fun c=>?_)
      .generalize(if(pendingOf s).size>1 then(pendingOf s)[(pendingOf s).size-2]? else none)=o
       cases o with
       |none=>rfl
       |some r=>
        obtain⟨r1,r2,r3⟩:=r;exact ic rfl (bc rfl (funext fun b=>rfl))
      .obtain⟨r,u⟩:=c;cases r<;>rfl
 .rintro⟨c0,lo⟩ Zq ⟨h1,S,h2⟩;dsimp only at h1 S h2⊢
  have e:lo=ab.size:=by
   have:=S.le;lia
  rw[<-e];exact⟨h1,S⟩
 .rintro⟨c0,lo⟩ Zq ⟨h1,S⟩;dsimp only at h1;subst h1;dsimp only
  have one:∀{Zq:SortSt},St κ ks ab Zq ab.size->(pendingOf Zq).size<=1->Seg κ (arrOf Zq) 0 ab.size:=fun{Zq} S hs=>by
   have c:=S.ch;rw[<-zA9]at hs
   cases e:(pendingOf Zq).toList with
   |nil=>
    rw[e]at c;have c:0=ab.size:=c;intro i j _ _ h3;lia
   |cons r l=>
    rw[e]at c hs
    have l0:l=[]:=by
     cases l with
     |nil=>rfl
     |cons _ _=>rw[zAe,zAe]at hs;lia
    rw[l0]at c;obtain⟨_,_,sg,c4⟩:=c;have c4:0+r.2.1=ab.size:=c4;rw[c4]at sg;exact sg
  have p0:(pendingOf Zq).size<=ab.size:=by
   have:=Ch.le S.ch;rw[zA9]at this;lia
  refine wpS_bind (wpS_mono (wpS_forRange (I:=fun x c st2=>c=(none,())/\St κ ks ab st2 ab.size/\(pendingOf st2).size+x<=ab.size) (Q:=fun c st2=>c=(none,())/\St κ ks ab st2 ab.size/\(pendingOf st2).size<=1) ?_ ?_ ⟨rfl,S,Zz⟩) ?_)
  .rintro x c st2 _ hx ⟨rfl,S2,md⟩;refine wpS_bind (wpS_get ?_);by_cases h1:(pendingOf st2).size<=1
   .rw[zAz h1];exact wpS_pure ⟨rfl,S2,h1⟩
   .rw[zAx h1];have hz:2<=(pendingOf st2).size:=Zz
    refine wpS_bind (tX hL h0 S2 (Nat.lt_of_le_of_lt (Nat.succ_le_succ (ifl _ _)) (show(pendingOf st2).size-2+1<(pendingOf st2).size by lia)) fun fx S3 z3 _=>?_);rw[zAx Zx];exact wpS_pure ⟨rfl,S3,Zz⟩
  .rintro c st2 ⟨rfl,S2,md⟩;exact⟨rfl,S2,Zz⟩
  .rintro c st2 ⟨rfl,S2,md⟩;exact wpS_pure (h st2 S2.base (one S2 md))
end
end Srt
namespace L2
open PySem PySem.Spec PyProof.Rows PySem.Calls
theorem qX:∀a:List Int,HT.lexLt a a=false
 |[]=>rfl
 |x::xs=>by
  rw[HT.lexLt_cons,zAz rfl];exact qX xs
theorem jX:∀a b:List Int,HT.lexLt a b=false->HT.lexLt b a=false->a=b
 |[],[],_,_=>rfl
 |[],_::_,h,_=>by cases h
 |_::_,[],_,h=>by cases h
 |x::xs,y::ys,h1,h2=>by
  rw[HT.lexLt_cons]at h1 h2;by_cases e:x=y
  .subst e;rw[zAz rfl]at h1 h2;rw[jX xs ys h1 h2]
  .rw[zAx e]at h1;rw[zAx (Ne.symm e)]at h2;have h1:=of_decide_eq_false h1;have h2:=of_decide_eq_false h2;lia
theorem qY:∀a b c:List Int,HT.lexLt a b=true->HT.lexLt b c=true->HT.lexLt a c=true
 |[],[],_,h,_=>by cases h
 |[],_::_,[],_,h=>by cases h
 |[],_::_,_::_,_,_=>rfl
 |_::_,[],_,h,_=>by cases h
 |_::_,_::_,[],_,h=>by cases h
 |x::xs,y::ys,z::zs,h1,h2=>by
  rw[HT.lexLt_cons]at h1 h2⊢;by_cases e1:x=y
  .subst e1;rw[zAz rfl]at h1;by_cases e2:x=z
   .subst e2;rw[zAz rfl]at h2⊢;exact qY xs ys zs h1 h2
   .rw[zAx e2]at h2⊢;exact h2
  .rw[zAx e1]at h1;have h1:=zBa h1;by_cases e2:y=z
   .subst e2;rw[zAx e1];exact zAu h1
   .rw[zAx e2]at h2;have h2:=zBa h2;rw[zAx Zz];exact zAu Zz
theorem wQ(a b c:List Int)(h:HT.lexLt a c=true):HT.lexLt a b=true\/HT.lexLt b c=true:=by
 cases e1:HT.lexLt a b with
 |true=>exact .inl rfl
 |false=>
  cases e2:HT.lexLt b a with
  |true=>exact .inr (qY b a c e2 h)
  |false=>exact .inr (by rw[<-jX a b e1 e2];exact h)
def DK(ads:List Addr)(row:Addr->List Int):PyProof.Rows.KeyKind where
 α:=List Int
 blt:=HT.lexLt
 irrefl:=qX
 trans:=qY
 negTrans:=wQ
 total:=jX
 keyOf:=fun u=>match u with
  |.ref a=>if ads.contains a=true then some (row a)else none
  |_=>none
 dflt:=[]
section
open PySem.W
variable{prog:Program}{w:World}{A:Around}{E:Value->Shared->Prop}{s:Shared}
theorem zV{Q:Bool->Shared->Prop}:∀{ns ms:List Int} {us vs:List Value} {i:Nat},Vals (ns.map V.int) us->Vals (ms.map V.int) vs->Q (HT.lexLt ns ms) s->KatLex prog w A true (decide (ns.length<ms.length)) Q (us.zip vs) i s
 |[],[],_,_,_,.nil,.nil,h=>h
 |[],_::_,_,_,_,.nil,.cons _ _,h=>by
  refine kat_nil ?_;rw[decide_eq_true Zy];exact h
 |_::_,[],_,_,_,.cons _ _,.nil,h=>by
  refine kat_nil ?_;rw[decide_eq_false Zy];exact h
 |x::ns,y::ms,_,_,i,.cons r1 t1,.cons r2 t2,h=>by
  obtain⟨k1,rfl⟩:=r1;obtain⟨k2,rfl⟩:=r2;rw[HT.lexLt_cons]at h;refine kat_cons (wpAny_eqBool_int ?_);by_cases e:x=y
  .subst e;rw[zAz rfl]at h;rw[show(x==x)=true from beq_self_eq_true x];refine kat_yes ?_;have:=zV (i:=i+1) t1 t2 h;rw[show decide ((x::ns).length<(x::ms).length)=decide (ns.length<ms.length) by rw[zAe,zAe];exact decide_eq_decide.mpr Zz];exact this
  .rw[zAx e]at h;rw[show(x==y)=false from beq_false_of_ne e];refine kat_no ?_
   cases hi:(true&&i==0)with
   |true=>exact oneLt_int h
   |false=>exact kat_one _ _ (lt_int h)
theorem DN{x y:Addr}{ox oy:Obj}{nx ny:Nat}{ns ms:List Int}{us vs:List Value}{Q:Bool->Shared->Prop}(hx:s.heap.get? x=some ox)(dx:ox.data=.seq us.toArray nx)(hy:s.heap.get? y=some oy)(dy:oy.data=.seq vs.toArray ny)
  (r1:Vals (ns.map V.int) us) (r2:Vals (ms.map V.int) vs) (h:Q (HT.lexLt ns ms) s):wpAny (model prog w) A (keyLt' (tuples' true) (.ref x) (.ref y)) Q E s:=by
 refine kat_lt hx dx hy dy ?_;have l1:=r1.length;have l2:=r2.length;rw[zA1]at l1 l2;have:=zV (prog:=prog) (w:=w) (A:=A) (s:=s) (Q:=Q) (i:=0) r1 r2 h;rw[zA8,zA8,<-l1,<-l2];exact this
theorem DP{l:Addr}{vs:List Value}{Q:Value->Shared->Prop}{R:List Value->Prop}(lst:s.heap.IsList l vs.toArray)(fits:vs.length<=sizeLine)(small:vs.length<2->R vs)
  (big:2<=vs.length->∀g,(∀b o,s.heap.get? b=some o->g.get? b=some o)->wpAny (model prog w) A.in1.in1 (keyKind' vs.toArray) (fun κ s1=>s1={s with heap:=g} /\
    wpS (model prog w) A.in1.in1 (fun _ _=>False) {s with heap:=g} sortRuns' (fun _ st=>failedOf st=none/\∃out,(arrOf st).map (·.2)=List.toArray out/\R out) (SortSt.mk' κ (vs.toArray.zip vs.toArray) #[] 7 none)) (fun _ _=>False) {s with heap:=g})
  (len:∀out,R out->out.length=vs.length)
  (fin:∀out,R out->∀h2 c,(∀b o,s.heap.get? b=some o->h2.get? b=some o)->h2.get? (s.heap.objs.size+1)=some (seqObj "list" out.toArray c)->Q (.ref (s.heap.objs.size+1)) {s with heap:=h2}):
  wpAny (model prog w) A (call (.builtin "sorted") [.ref l]) Q E s:=by
 refine call_function_entry kind_sorted plain_sorted entry_sorted (args_sorted1 _) ?_;unfold Builtin.«sorted»;refine zAt (m:=checkCount "sorted" 1 1 _) (zAv (zAt (collect_list lst ?_ fits)));refine zAt (wpAny_newList ?_ fits);have kK:((s.heap.push (seqObj "list" #[] 0)).update s.heap.objs.size (Obj.mapSeq (·++vs.toArray))).objs.size=s.heap.objs.size+1:=by rw[Heap.size_update,Heap.size_push]
 obtain⟨g1,mP⟩:∃g1,g1=((s.heap.push (seqObj "list" #[] 0)).update s.heap.objs.size (Obj.mapSeq (·++vs.toArray))).push (seqObj "list" vs.toArray 0):=⟨_,rfl⟩
 have mf:g1.get? (s.heap.objs.size+1)=some (seqObj "list" vs.toArray 0):=by rw[mP,<-kK];exact zB2 _ rfl
 have EN:∀b o,s.heap.get? b=some o->g1.get? b=some o:=fun b o q=>by
  have lt:b<s.heap.objs.size:=zB0 q;rw[mP,Heap.get?_push_ne _ _ _ (by rw[kK];exact zB8 (Nat.lt_succ_of_lt lt)),Heap.get?_update_ne _ _ _ _ (zB8 lt),Heap.get?_push_ne _ _ _ (zB8 lt)];exact q
 show wpAny _ _ _ _ _ {s with heap:=_};rw[kK,show((s.heap.push (seqObj "list" #[] 0)).update s.heap.objs.size (Obj.mapSeq (·++vs.toArray))).push (seqObj "list" vs.toArray 0)=g1 from mP.symm];refine zAt (wpAny_holding (wpAny_call_entry slot_list_sort ⟨_,mf,rfl⟩ entry_list_sort ?body (args_list_sort _)))
 obtain⟨D,eD⟩:∃D,D=s.heap.objs.size+1:=⟨_,rfl⟩
 rw[<-eD]at mf fin⊢
 have apart:∀b o,s.heap.get? b=some o->b≠D:=fun b o q e=>by
  have lt:b<s.heap.objs.size:=zB0 q;rw[e,eD]at lt;exact absurd lt (Nat.not_lt_of_le (Nat.le_succ _))
 obtain⟨g2,sx⟩:∃g2,g2=g1.update D (Obj.mapSeq fun _=>(#[]:Array Value)):=⟨_,rfl⟩
 have fI:Heap.SameBut D g1 g2:=sx▸Heap.SameBut.update g1 D _
 obtain⟨e1,at2⟩:∃e1,g2.get? D=some (seqObj "list" #[] e1):=⟨_,sx▸get?_update_seq mf fun _=>#[]⟩
 obtain⟨g3,sA⟩:∃g3,g3=(g2.push (seqObj "tuple" vs.toArray 0)).push (seqObj "list" #[] 0):=⟨_,rfl⟩
 have iP:g3.get? D=some (seqObj "list" #[] e1):=sA▸Heap.get?_push_of_some _ (Heap.get?_push_of_some _ at2);have sC:∀b o,s.heap.get? b=some o->g3.get? b=some o:=fun b o q=>sA▸Heap.get?_push_of_some _ (Heap.get?_push_of_some _ ((fI.2 b (apart b o q)).trans (EN b o q)));rw[list_sort_plain];refine wpAny_bind (listItems_at mf rfl (wpAny_bind (listUpdate_at mf rfl ?_ (by rw[zA8];exact fits) (zAp _))));rw[<-sx];refine wpAny_bind (seqEpoch_at at2 rfl (wpAny_bind (wpAny_newTuple (wpAny_bind (wpAny_newList (wpAny_holding ?_) (zAp _))) fits)));show wpAny (model prog w) A.in1.in1 _ _ _ {s with heap:=(g2.push (seqObj "tuple" vs.toArray 0)).push (seqObj "list" #[] 0)};rw[<-sA];dsimp only;by_cases two:vs.toArray.size<2
 .have gv:vs.length<2:=by rw[zA8]at two;exact two
  rw[if_pos two,if_pos two];refine wpAny_bind (wpAny_pure ?_);show wpAny _ _ (do let r <-(pure ((),SortSt.mk' general' (vs.toArray.zip vs.toArray) #[] 7 none):Sem (Unit×SortSt));_) _ _ _;refine wpAny_bind (wpAny_pure ?_);dsimp only
  have em:(vs.toArray.zip vs.toArray).map (·.2)=vs.toArray:=by
   apply Array.toList_inj.mp;simp only[Array.toList_map,Array.toList_zip];exact List.map_snd_zip (zA3 _)
  rw[em];refine wpAny_bind (seqEpoch_at iP rfl (wpAny_bind (listUpdate_at iP rfl ?_ (zAp _) (by rw[zA8];lia))));simp only[bne_self_eq_false,Bool.false_eq_true,if_false];have sF:=Heap.SameBut.update g3 D (Obj.mapSeq fun _=>vs.toArray);exact wpAny_pure ⟨_,rfl,wpAny_pure ⟨_,rfl,fin vs (small gv) _ _ (fun b o z=>(sF.2 b (apart b o z)).trans (sC b o z)) (get?_update_seq iP _)⟩⟩
 .have gv:2<=vs.length:=by rw[zA8]at two;lia
  rw[if_neg two,if_neg two];refine wpAny_bind (wpAny_mono (big gv g3 sC) (fun κ s1=>?_) fun _ _ x=>x.elim);rintro⟨iO,run⟩;subst iO;refine wpAny_bind (wpAny_mono run ?_ fun _ _ x=>x.elim);rintro⟨⟨⟩,st⟩ s2 ⟨EO,AQ,out,kM,hR⟩;subst EO;dsimp only at AQ kM⊢;rw[kM];refine wpAny_bind (seqEpoch_at iP rfl (wpAny_bind (listUpdate_at iP rfl ?_ (zAp _) (by rw[zA8,len out hR];lia))));rw[AQ];simp only[bne_self_eq_false,Bool.false_eq_true,if_false];have sF:=Heap.SameBut.update g3 D (Obj.mapSeq fun _=>out.toArray);exact wpAny_pure ⟨_,rfl,wpAny_pure ⟨_,rfl,fin out hR _ _ (fun b o z=>(sF.2 b (apart b o z)).trans (sC b o z)) (get?_update_seq iP _)⟩⟩
theorem lW{g:Heap}{ads:List Addr}{row:Addr->List Int}:∀{l:List Addr},(∀a∈l,∃(us:List Value) (o:Obj) (n:Nat),g.get? a=some o/\o.cls=.type "tuple"/\o.data=.seq us.toArray n/\Vals ((row a).map V.int) us/\row a≠[])->∃fs,KatTups g (l.map Value.ref) fs/\fs.length=l.length/\∀v∈fs,∃i t,v=.int i t
 |[],_=>⟨[],.nil,rfl,fun _ h=>absurd h Zy⟩
 |a::l,h=>by
  obtain⟨us,o,n,h1,h2,h3,h4,h5⟩:=h a (.head _);obtain⟨fs,k,hl,hi⟩:=lW (ads:=ads) (row:=row) (l:=l) fun b hb=>h b (.tail _ hb)
  cases er:row a with
  |nil=>exact absurd er h5
  |cons i r=>
   rw[er]at h4
   cases h4 with
   |cons r1 t1=>
    obtain⟨t,rfl⟩:=r1;refine⟨_,.cons h1 h2 h3 (f:=.int i t) Zy k,by rw[List.length_cons,List.length_cons,hl],fun v hv=>?_⟩;rcases zAo.mp hv with z|z
    .exact⟨i,t,z⟩
    .exact hi v z
theorem wR{l:List Addr}{row:Addr->List Int}{Q:SortKind->Shared->Prop}(obj:∀a∈l,∃(us:List Value) (o:Obj) (n:Nat),s.heap.get? a=some o/\o.cls=.type "tuple"/\o.data=.seq us.toArray n/\Vals ((row a).map V.int) us/\row a≠[])(hl:0<l.length)(h:Q (tuples' true) s):
  wpAny (model prog w) A (keyKind' (l.map Value.ref).toArray) Q E s:=by
 obtain⟨fs,kt,fl,fi⟩:=lW (ads:=l) (row:=row) obj;refine PySem.W.kat_kind (T:=.type "int") kt (by rw[fl];exact hl) (fun v hv=>?_) Zx h;obtain⟨i,t,rfl⟩:=fi v hv;exact .now
theorem vo{l:List Addr}{row:Addr->List Int}(obj:∀a∈l,∃(us:List Value) (o:Obj) (n:Nat),s.heap.get? a=some o/\o.cls=.type "tuple"/\o.data=.seq us.toArray n/\Vals ((row a).map V.int) us/\row a≠[]):
  Srt.LtAll prog w A E s (DK l row) (tuples' true):=fun st hk x y a b Q' ka kb hQ=>by
 obtain⟨x1,x2⟩:=x;obtain⟨y1,y2⟩:=y
 cases x1 with
 |ref xa=>
  cases y1 with
  |ref ya=>
   have ka:(if l.contains xa=true then some (row xa)else none)=some a:=ka;have kb:(if l.contains ya=true then some (row ya)else none)=some b:=kb;by_cases c1:l.contains xa=true
   .rw[zAz c1]at ka;by_cases c2:l.contains ya=true
    .rw[if_pos c2]at kb;cases ka;cases kb;obtain⟨Tj,o1,n1,g1,_,d1,r1,_⟩:=obj xa (by simpa using c1);obtain⟨To,o2,n2,g2,_,d2,r2,_⟩:=obj ya (by simpa using c2);rw[lt'_eq];refine wpS_bind (wpS_get ?_);rw[hk];refine wpS_bind (wpS_lift (wpAny_attempt (DN g1 d1 g2 d2 r1 r2 ⟨rfl,?_⟩)));exact wpS_pure hQ
    .rw[zAx c2]at kb;cases kb
   .rw[zAx c1]at ka;cases ka
  |_=>cases kb
 |_=>cases ka
theorem tY(l:List Addr):((l.map Value.ref).toArray.zip (l.map Value.ref).toArray).toList=l.map fun a=>(Value.ref a,Value.ref a):=by
 rw[Array.toList_zip];show(l.map Value.ref).zip (l.map Value.ref)=_;rw[List.zip_map']
theorem pC(l:List Addr)(row:Addr->List Int):KeysOf (DK l row) ((l.map Value.ref).toArray.zip (l.map Value.ref).toArray):=fun z cK=>by
 rw[tY]at cK;obtain⟨a,ha,rfl⟩:=zA5.mp cK;refine⟨row a,?_⟩;show(if l.contains a=true then some (row a)else none)=some (row a);rw[if_pos (by simpa using ha)]
def zW(p:Keyed):Addr:=match p.1 with
 |.ref a=>a
 |_=>0
theorem tZ{l:List Addr}{row:Addr->List Int}{a:Addr}(h:a∈l):Srt.key (DK l row) (Value.ref a,Value.ref a)=row a:=by
 show(if l.contains a=true then some (row a)else none).getD []=row a;rw[if_pos (by simpa using h)];rfl
theorem pF{l:List Addr}{row:Addr->List Int}(obj:∀a∈l,∃(us:List Value) (o:Obj) (n:Nat),s.heap.get? a=some o/\o.cls=.type "tuple"/\o.data=.seq us.toArray n/\Vals ((row a).map V.int) us/\row a≠[]){Q:Unit->SortSt->Prop}
  (h:∀st (l':List Addr),failedOf st=none->(arrOf st).map (·.2)=List.toArray (l'.map Value.ref)->l'.Perm l->l'.Pairwise (fun a b=>HT.lexLt (row b) (row a)=false)->Q () st):
  wpS (model prog w) A E s sortRuns' Q (SortSt.mk' (tuples' true) ((l.map Value.ref).toArray.zip (l.map Value.ref).toArray) #[] 7 none):=by
 refine Srt.runs_wp (κ:=DK l row) (ks:=tuples' true) (vo obj) (pC l row) ⟨rfl,rfl,.refl _⟩ rfl fun Zq B sg=>?_;have vE:=Array.perm_iff_toList_perm.mp B.pm;rw[tY]at vE
 have e:(arrOf Zq).toList=((arrOf Zq).toList.map zW).map (fun a=>(Value.ref a,Value.ref a)):=by
  rw[zAr]
  conv=>lhs;rw[<-List.map_id (arrOf Zq).toList]
  refine List.map_congr_left fun z cK=>?_;obtain⟨a,ha,rfl⟩:=zA5.mp (vE.mem_iff.mp cK);rfl
 have pm:((arrOf Zq).toList.map zW).Perm l:=by
  have:=vE.map zW;rw[zAr]at this;rw[show(zW∘fun a=>(Value.ref a,Value.ref a))=id from rfl,List.map_id]at this;exact this
 generalize(arrOf Zq).toList.map zW=l' at e pm;refine h Zq l' B.ok ?_ pm ?_
 .apply Array.toList_inj.mp;rw[Array.toList_map,e,zAr];rfl
 .have ka:=Srt.keys_perm (pC l row) B.pm;have:=Srt.pw_of_seg ka (by rw[B.size];exact zA3 _) sg;rw[List.drop_zero,<-B.size,<-zA9,zAm,e,List.pairwise_map]at this;refine this.imp_of_mem fun{a b} ha hb hle=>?_;unfold Srt.leK at hle;rw[tZ (pm.mem_iff.mp ha),tZ (pm.mem_iff.mp hb)]at hle;exact hle
end
section
variable{X:Cx}
theorem pG:∀{l:List Addr} {us:List Value},Vals (l.map V.ref) us->us=l.map Value.ref
 |[],_,.nil=>rfl
 |a::l,_,.cons r t=>by
  rw[pG t,show _=Value.ref a from r];rfl
theorem qZ:∀(l:List Addr),Vals (l.map V.ref) (l.map Value.ref)
 |[]=>.nil
 |_::l=>.cons rfl (qZ l)
theorem u0{α:Type}{R:α->α->Prop}:∀{l:List α},l.length<2->l.Pairwise R
 |[],_=>.nil
 |[_],_=>List.pairwise_singleton _ _
 |_::_::_,h=>absurd h Zy
theorem fJ:di X (.builtin "sorted") (fun xs H Q=>∃(p:Addr) (l:List Addr) (row:Addr->List Int),xs=[.ref p]/\SqL X.K H p (l.map V.ref)/\(∀a∈l,SqT X.K H a ((row a).map V.int)/\row a≠[]) /\
  ∀(q:Addr) (l':List Addr),H q=none->q≠sysModules->l'.Perm l->l'.Pairwise (fun a b=>HT.lexLt (row b) (row a)=false)->Q (.ref q) (upd H q (.lst (l'.map V.ref)))):=by
 intro Zt s σ H xs us Q I r h;obtain⟨p,l,row,rfl,hp,iS,q⟩:=h;obtain⟨u,rfl,ru⟩:=vals1 r;cases ru;obtain⟨Zr,rv,pl,hz⟩:=I.list hp;have ei:=pG rv;subst ei
 have hlen:(l.map Value.ref).length<=sizeLine:=by
  rw[zA1]at hz⊢;exact hz
 have obj:∀a∈l,∃(us:List Value) (o:Obj) (n:Nat),s.heap.get? a=some o/\o.cls=.type "tuple"/\o.data=.seq us.toArray n/\Vals ((row a).map V.int) us/\row a≠[]:=fun a ha=>by
  obtain⟨ht,hJ⟩:=iS a ha;obtain⟨as,ra,pa,_⟩:=I.tuple ht;obtain⟨oa,ga,ca,na,da⟩:=pa;exact⟨as,oa,na,ga,ca,da,ra,hJ⟩
 refine DP (R:=fun out=>∃l':List Addr,out=l'.map Value.ref/\l'.Perm l/\l'.Pairwise fun a b=>HT.lexLt (row b) (row a)=false) pl.isList hlen (fun hs=>⟨l,rfl,.refl _,?_⟩) (fun hb g kp=>?_) (fun out ⟨l',e,pm,_⟩=>by rw[e,zA1,zA1,pm.length_eq]) fun out ⟨l',e,pm,pw⟩ h2 c mh at2=>?_
 .rw[zA1]at hs;exact u0 hs
 .have kN:∀a∈l,∃(us:List Value) (o:Obj) (n:Nat),g.get? a=some o/\o.cls=.type "tuple"/\o.data=.seq us.toArray n/\Vals ((row a).map V.int) us/\row a≠[]:=fun a ha=>by
   obtain⟨us,o,n,h1,h2⟩:=obj a ha;exact⟨us,o,n,kp _ _ h1,h2⟩
  refine wR (s:={s with heap:=g}) kN (by rw[zA1]at hb;lia) ?_;refine⟨rfl,pF (s:={s with heap:=g}) kN fun st l' e1 e2 e3 e4=>⟨e1,l'.map Value.ref,e2,l',rfl,e3,e4⟩⟩
 .subst e;exact⟨.ref (s.heap.objs.size+1),_,I.laid (t':=s.toks) mh (Nat.le_succ _) (show ObjOk X.prog X.w _ h2 _ (.lst (l'.map V.ref))from⟨by rw[zA1,pm.length_eq];rw[zA1]at hz;exact hz,_,c,qZ l',at2⟩),rfl,q _ l' (I.hok.fresh (Nat.le_succ _)) (Nat.ne_of_gt (zB6 I.big (Nat.le_succ _))) pm pw⟩
theorem rA:di X (.builtin "sorted") (fun xs H Q=>∃(p:Addr) (l:List Addr) (row:Addr->List Int),xs=[.ref p]/\SqL X.K H p (l.map V.ref)/\(∀a∈l,SqT X.K H a ((row a).map V.int)/\row a≠[]) /\
  ∀(q:Addr) (l':List Addr),H q=none->l'.Perm l->l'.Pairwise (fun a b=>HT.lexLt (row b) (row a)=false)->Q (.ref q) (upd H q (.lst (l'.map V.ref)))):=by
 intro Zt s σ H xs us Q I r h;obtain⟨p,l,row,e,hp,iS,q⟩:=h;exact fJ Zt s σ H xs us Q I r ⟨p,l,row,e,hp,iS,fun q' l' a _ b c=>q q' l' a b c⟩
end
theorem yD{M:Model}{A:Around}{E:Value->Shared->Prop}{s:Shared}{a b:Value}{Q:Value->Shared->Prop}(ha:s.TypeIs a "list")(hb:s.TypeIs b "list")(hc:wpAny M A (call (.builtin "list.__iadd__") [a,b]) Q E s):wpAny M A (inplaceOp .Add a b) Q E s:=by
 unfold inplaceOp;refine wpAny_holding ?_;have hl:typeLookup (.type "list") (dunderI "add")=pure (some (.builtin "list.__iadd__")):=F.slot_list_iadd.lookup
 have NN:fillsInplaceSlot (.type "list") "add" (Operator.Add==.Add)=pure false:=by
  unfold fillsInplaceSlot;show(typeLookup (.type "list") (dunderI "add")>>=fun fi=>pure (fi.isSome&&!isSeqSlot fi))=pure false;rw[hl];have:isSeqSlot (some (.builtin "list.__iadd__"))=true:=by decide +kernel
  show(pure (true&&!isSeqSlot (some (.builtin "list.__iadd__"))):Sem Bool)=_;rw[this];rfl
 have Lj:seqSlot? (.type "list") (dunderI "add")=pure (some (.builtin "list.__iadd__")):=PySem.seqSlot_of F.slot_list_iadd.lookup Zv;refine zAt (wpAny_typeOf ha (zAt (wpAny_of_eq NN ?_)));show wpAny M A (if false=true then _ else _) Q E s;rw[zAx zAg];refine zAt (wpAny_binaryOp1_none (nm:="add") ha hb noFill_list_add ?_);refine zAt (wpAny_of_eq Lj ?_);exact zAt (wpAny_rule hc)
inductive RICatI(x:V)(y:V)(H:Hp)(Q:VK):Prop
 |mk:∀l b xs zs,(x=.ref l)->(y=.ref b)->(H l=some (.lst xs))->(H b=some (.lst zs))->(xs.length+zs.length<=sizeLine)->(Q (.ref l) (upd H l (.lst (xs++zs))))->RICatI  x y H Q
def Jm:TIp:=fun x y H Q=>RICatI  x y H Q
theorem lZ{X:Cx}:PIp X .Add Jm:=by
 intro Zt s σ H x y v u Q I rx ru h;obtain⟨l,b,xs,zs,rfl,rfl,hH,hB,hz,q⟩:=h;cases rx;cases ru;obtain⟨z,Zr,n,r,hl,e⟩:=I.lstM hH;obtain⟨z2,bo,n2,r2,ki,e2⟩:=I.lstM hB;have hsz:Zr.toArray.size+bo.toArray.size<=sizeLine:=by rw[zA8,zA8];lia
 have fy:¬(!Zr.toArray.isEmpty&&Builtin.List.listTooLong (Zr.toArray.size+bo.toArray.size))=true:=by
  rw[kY hsz,Bool.and_false];exact zAg
 refine yD ⟨_,e,rfl⟩ ⟨_,e2,rfl⟩ (call_meets F.slot_list_iadd ⟨_,e,rfl⟩ F.entry_list_iadd (F.args_list_iadd_2 _ _)
  (AutoSeq1.list___iadd___list_list_0 l Zr.toArray n b bo.toArray n2 fy (by rw[zA8];lia) Zz) ⟨e,e2,?_⟩)
 refine⟨.ref l,_,I.lset (its':=Zr++bo) hH e Zy (r.append r2) ?_,rfl,q⟩;rw[zA2];lia
abbrev TN:=St->Hp->(St->Hp->Prop)->Prop
def mKv(k v:Expr)(D:Addr)(env:Env):Sem Unit:=do
 let kv <-eval k env
 let vv <-holding [kv] (eval v env)
 standAt {k.pos with endLine:=v.pos.endLine,endCol:=v.pos.endCol}
 holding [kv,vv] (dictSet D kv vv)
def PN(X:Cx)(D:Addr)(k v:Expr)(tm:TN):Prop:=
 ∀(Zt:List (Addr×Obj)) (s:Shared) (σ:St) (H:Hp) (Q:St->Hp->Prop),Inv X Zt σ H s->tm σ H Q->wpAny (model X.prog X.w) X.A (mKv k v D X.env) (fun _ s'=>∃ah H',Inv X Zt ah H' s'/\Q ah H') X.xe s
def tKv(D:Addr)(tk tv:TE):TN:=fun σ H Q=>tk σ H fun x H1=>tv σ H1 fun y H2=>∃Zs k b,H2 D=some (.dT Zs)/\x=.ref b/\H2 b=some (.tup (k.map kV))/\Zs.length<sizeLine/\Q σ (upd H2 D (.dT (putK Zs k y)))
theorem Jo{X:Cx}{D:Addr}{k v:Expr}{tk tv:TE}(hu:X.A.units<cLine)(hk:PE X k tk)(hv:PE X v tv):PN X D k v (tKv D tk tv):=by
 intro Zt s σ H Q I h;refine zAt (thn (hk Zt s σ H _ I h) fun u s1=>?_);rintro⟨x,H1,I1,r1,q1⟩;refine zAt (wpAny_holding (thn (hv Zt s1 σ H1 _ I1 q1) fun u2 s2=>?_));rintro⟨y,H2,I2,r2,Zs,ks,b,e1,e2,e3,e4,q2⟩;subst e2;cases r1;refine zAt (wpAny_standAt (wpAny_holding ?_));obtain⟨z,hd,xs,rel,dd⟩:=G4 I2.hok e1;have hl:(putK Zs ks y).length<=sizeLine:=by have:=fu Zs ks y;lia
 refine wpAny_dictSet_heap (hsz:=by rw[<-Paired.length rel];exact z) hu (iM I2.hok e3) dd fun h' vk hs=>?_;obtain⟨q,es,ep,hq,h2,h3,h4,_,h5⟩:=vk;refine⟨σ,_,qL (ob:=.dT (putK Zs ks y)) I2 (by rw[e1];trivial) hs ⟨q,hq⟩ ⟨hl,hd,_,(rel.put ks e3 r2).keeps fun c ys ec=>?_,q,es,ep,hq,h2,h3,h4,h5⟩,q2⟩;rw[aA (Fy ec e1 fun z=>nomatch z)];exact ec
def wU(J:It)(g:TG)(tt:TT)(tm:TN)(Fin:Hp->Prop)(cS:St)(H0:Hp):Prop:=
 ∃W:Nat->Nat->St->Hp->Prop,(∃m,W 0 m cS H0)/\∀i m σ H,W i m σ H->
  ((J.stop i H/\Fin H)\/(J.go i H/\∀x H',J.yld i H x H'->g x σ H' fun aw H2=>tt aw H2 fun b H3=>
   if b=true then tm aw H3 fun ah H4=>∃m',m'<m/\W (i+1) m' ah H4 else ∃m',m'<m/\W (i+1) m' aw H3))
theorem DQ{k v tg iter:Expr}{ifs:List Expr}{scope:Scope}{pos:Pos}{it:Value}{D:Addr}{env:Env}:compTurn (.DictComp k v [⟨tg,iter,ifs,0⟩] scope pos) 0 it (.ref D) env=oR tg ifs iter.pos it env (fun c=>mKv k v D env>>=fun _=>c) (again (.compLoop (.DictComp k v [⟨tg,iter,ifs,0⟩] scope pos) 0 it (.ref D) env)):=by
 unfold compTurn oR mKv;rfl
theorem Jp{X:Cx}{k v tg iter:Expr}{ifs:List Expr}{scope:Scope}{pos:Pos}{it D:Addr}{g:TG}{tt:TT}{tm:TN}(hc:X.calm=true)(hx:X.xe=fun _ _=>False)(hg:PG X tg g)(oB:PTs X ifs tt)(hm:PN X D k v tm)
  {Zt:List (Addr×Obj)} {s:Shared} {σ:St} {H:Hp} {fp:List Addr} {tn:Nat->Heap->Prop} {J:It} (I:Inv X Zt σ H s) (T:Turn X.prog X.w X.K tg J fp it tn) (st:tn 0 s.heap) (hf:∀b∈fp,gD X Zt H b)
  {Q:Hp->Prop} (hW:wU J g tt tm Q σ H) {R:Result->Shared->Prop} (hR:∀s' ah H',Inv X Zt ah H' s'->Q H'->R (.ok .next) s'):
  codeAny (model X.prog X.w) X.A (.compLoop (.DictComp k v [⟨tg,iter,ifs,0⟩] scope pos) 0 (.ref it) (.ref D) X.env) R s:=by
 obtain⟨W,⟨m0,w0⟩,step⟩:=hW;refine codeAny_loop rfl (fun n s'=>∃i ah H',Inv X Zt ah H' s'/\tn i s'.heap/\(∀b∈fp,H' b=none)/\W i n ah H') (fun n s3 hI=>?_) m0 ⟨0,σ,H,I,st,fun b hb=>(hf b hb).1,w0⟩;obtain⟨i,dQ,H3,I3,fx,nX,w3⟩:=hI;show wpAny _ _ ((compTurn (.DictComp k v [⟨tg,iter,ifs,0⟩] scope pos) 0 (.ref it) (.ref D) X.env).onRaise (fun x=>do noteFrame x X.env;theTreesLotGoes x)) _ _ s3;refine wpAny_noted ?_;rw[DQ]
 have kr:∀{H':Hp},(∀b∈fp,H' b=none)->∀b∈fp,gD X Zt H' b:=fun{H'} hn b hb=>by
  obtain⟨_,f⟩:=hf b hb;exact⟨hn b hb,f⟩
 refine zAt (wpAny_standAt (zAt ?_));rcases step i n dQ H3 w3 with⟨stop,fin⟩|⟨go,turn⟩
 .refine thx (T.done X rfl rfl rfl hc i _ s3 dQ H3 (fun _ _=>False) I3 (kr nX) fx stop) fun r s4=>?_;rintro⟨hr,I4⟩;subst hr;exact zAv (hR s4 dQ H3 I4 fin)
 .refine thx (T.item X rfl rfl rfl hc i _ s3 dQ H3 (fun _ _=>False) I3 (kr nX) fx go) fun r s4=>?_;rintro⟨u,hr,h4⟩;subst hr;refine zAt (thx h4 fun _ s5=>?_);rintro⟨x,H5,I5,r5,y5,jS,xE⟩;have xI:=I5.pinned (kr xE) (T.obj _ _ jS);have y9:=hg _ s5 dQ H5 x u _ xI r5 (turn x H5 y5);rw[hx]at y9;refine zAt (thx y9 fun _ s6=>?_);rintro⟨ma,H6,I6,q6⟩;have f7:=oB _ s6 ma H6 _ I6 q6;rw[hx]at f7;refine zAt (thx f7 fun okb s7=>?_);rintro⟨H7,I7,q7⟩
  have back:∀{H8:Hp} {s8:Shared} {ku:St},Inv X (Zt++gH fp s5.heap) ku H8 s8->Inv X Zt ku H8 s8/\tn (i+1) s8.heap/\∀b∈fp,H8 b=none:=fun{H8 s8 ku} I8=>by
   have pf:∀b∈fp,∀o,s5.heap.get? b=some o->s8.heap.get? b=some o:=fun b hb o e=>(I8.pin (b,o) (zB1 _ (zB1 _ (du hb e)))).1;refine⟨I8.unpinned,T.keep _ _ _ jS pf,fun b hb=>?_⟩;obtain⟨o,e,_⟩:=T.obj _ _ jS b hb;exact(I8.pin (b,o) (zB1 _ (zB1 _ (du hb e)))).2.1
  cases okb with
  |false=>
   obtain⟨m',kx,w7⟩:=q7;obtain⟨b1,b2,b3⟩:=back I7;exact zAv ⟨rfl,m',kx,i+1,ma,H7,b1,b2,b3,w7⟩
  |true=>
   have kx:=hm _ s7 ma H7 _ I7 q7;rw[hx]at kx;refine zAt (thx kx fun _ s8=>?_);rintro⟨ku,H8,I8,m',kx,w8⟩;obtain⟨b1,b2,b3⟩:=back I8;exact zAv ⟨rfl,m',kx,i+1,ku,H8,b1,b2,b3,w8⟩
theorem zZ{prog:Program}{w:World}{A:Around}{R:Result->Shared->Prop}{s:Shared}{k v:Expr}{c:Comprehension}{scope:Scope}{pos:Pos}{it acc:Value}{env:Env}(ha:c.is_async=0)
  (h0:codeAny (model prog w) A (.compLoop (.DictComp k v [c] scope pos) 0 it acc env) R s)
  (h:wpAny (model prog w) A (pyIter it) (fun ze s'=>codeAny (model prog w) A (.compLoop (.DictComp k v [c] scope pos) 0 ze acc env) R s') (fun _ _=>False) s):
  codeAny (model prog w) A (.compStart (.DictComp k v [c] scope pos) 0 it acc env) R s:=by
 refine codeAny_of_tree ?_;show wpAny _ _ ((compStart (.DictComp k v [c] scope pos) 0 it acc env).onRaise (fun x=>do noteFrame x env;standAt theWindowsPlace)) _ _ s;refine wpAny_notedAt ?_;have e:(clausesOf (.DictComp k v [c] scope pos))[0]?=some c:=rfl;unfold compStart;rw[e];have e2:(Option.elim (some c) false fun x=>x.is_async != 0)=false:=by show(c.is_async != 0)=false;rw[ha];rfl
 rw[e2];show wpAny _ _ (ask>>=_) _ _ s;refine zAt (wpAny_askSetting (wpAny_ite ?_));split
 .exact zAv (And.intro rfl h0)
 .refine zAt (wpAny_rule (zAt (wpAny_standAt (zAt (thx h fun ze s' h'=>zAv (And.intro rfl h'))))))
theorem DR{X:Cx}{k v tg iter:Expr}{ifs:List Expr}{scope:Scope}{pos:Pos}{Nc:List Str}{src:List (Option Nat)}{g:TG}{tt:TT}{tm:TN}{D:Addr}(hc:X.calm=true)(S:CScope X scope)
  (aI:∀C,Caps X (compEnvC scope (cZ X.env.cells scope.names []) C X.env) Nc src)
  (hb:∀C fp Zt s₂ H₂,PG (cxC X scope Nc C fp Zt s₂ H₂) tg g/\PTs (cxC X scope Nc C fp Zt s₂ H₂) ifs tt/\PN (cxC X scope Nc C fp Zt s₂ H₂) D k v tm)
  {Zt:List (Addr×Obj)} {s₂:Shared} {σ:St} {H₂:Hp} {it:Addr} {fp:List Addr} {tn:Nat->Heap->Prop} {J:It} (ae:Inv X Zt σ H₂ s₂) (T:Turn X.prog X.w X.K tg J fp it tn) (st:tn 0 s₂.heap) (hf:∀b∈fp,gD X Zt H₂ b)
  {Fin:Hp->Prop} (hW:wU J g tt tm Fin (capσ σ src) H₂) {RR:Addr->Result->Shared->Prop} {E:Value->Shared->Prop}
  (zi:∀C s' H' m,Fin H'->Inv X Zt σ H' s'->s'.heap.Ns C m->gD X Zt H' C->RR C (.ok .next) s'):
  wpAny (model X.prog X.w) X.A (newFunctionEnv scope X.env.globals (cZ X.env.cells scope.names []) [] X.env.qual none .none (some X.env)) (fun fA fz=>
   codeAny (model X.prog X.w) X.A (.compStart (.DictComp k v [⟨tg,iter,ifs,0⟩] scope pos) 0 (.ref it) (.ref D) {fA with scope:=relabel scope X.env}) (RR fA.locals) fz) E s₂:=by
 refine wpAny_newFunctionEnv S.hcell (by intro y hy;simp at hy) (fun cy bp aT=>?_) S.kind;generalize rg:s₂.heap.objs.size=C at bp aT⊢
 have av:∀{b o},s₂.heap.get? b=some o->b≠C:=fun{b o} e=>by rw[<-rg];exact zB8 (zB0 e)
 have old:∀b o,s₂.heap.get? b=some o->cy.get? b=some o:=fun b o e=>aT.extBut b o (av e) (zAw _ e)
 have D4:∀b∈fp,∃o,s₂.heap.get? b=some o:=fun b hb=>by obtain⟨o,e,_⟩:=T.obj _ _ st b hb;exact⟨o,e⟩
 have rh:∀b∈fp,b≠C:=fun b hb=>by obtain⟨o,e⟩:=D4 b hb;exact av e
 have sub:∀{x c},(cZ X.env.cells scope.names []).lookup x=some c->X.env.cells.lookup x=some c:=fun{x c} e=>by
  rcases kZ scope.names [] S.hfree e with z|z
  .simp at z
  .exact z
 have D5:∀{b o},s₂.heap.get? b=some o->b<C:=fun{b o} e=>by rw[<-rg];exact zB0 e
 have fresh:∀a,C<=a->H₂ a=none:=fun a ha=>ae.hok.fresh (by rw[rg];exact ha)
 have hG:∀{x c},X.env.cells.lookup x=some c->∃o,s₂.heap.get? c=some o:=fun{x c} e=>by obtain⟨v,o,ho,_⟩:=ae.cell x c e;exact⟨o,ho⟩
 have rj:∀b∈frs X.stack,∃o,s₂.heap.get? b=some o:=fun b hb=>by
  rcases zAo.mp (ae.stkSub b hb)with e|hb
  .rw[e];obtain⟨m,⟨o,_,_,ho,_⟩,_⟩:=ae.loc;exact⟨o,ho⟩
  .obtain⟨_,o,ho,_⟩:=ae.funs.mem hb;exact⟨o,ho⟩
 have zk:∀a,C<=a->a∉frs X.stack:=fun a ha hb=>by
  obtain⟨o,e⟩:=rj a hb;exact absurd (zB6 (D5 e) ha) (Nat.lt_irrefl _)
 have zo:∀b∈fp,b∉frs X.stack:=fun b hb z=>by
  obtain⟨_,f1,f2,_⟩:=hf b hb;rcases zAo.mp (ae.stkSub b z)with e|e
  .exact f1 e
  .exact f2 e
 generalize bq:cxC X scope Nc C fp Zt s₂ H₂=X';obtain⟨hg,ht,hm⟩:=hb C fp Zt s₂ H₂;rw[bq]at hg ht hm
 have D6:X'.Ok:=by
  subst bq;refine⟨ae.ok.mod,S.kind,ae.ok.glob,ae.ok.blt,?_,?_,?_,?_,ae.ok.hd,ae.ok.frames,.inl rfl,?_,ae.bs,Nat.le_trans ae.ok.bsz ae.sz,?_,zo,ae.stack,ae.stkFree⟩
  .show s₂.heap.objs.size<=C;rw[rg];exact zA3 _
  .exact fun x y c e1 e2=>ae.ok.inj x y c (sub e1) (sub e2)
  .intro x hx;have hx:(relabel scope X.env).names.lookup x=some .cell\/(relabel scope X.env).names.lookup x=some .free:=hx
   have:∃k',(x,k')∈scope.names/\k'=NameKind.free:=by
    rcases hx with z|z
    .exact fj S.hcell z (.inl rfl)
    .exact fj S.hcell z (.inr rfl)
   exact lu scope.names [] (.inl this)
  .intro x c z;exact absurd z (by show¬(false=true);simp)
  .intro b hb;exact⟨rh b hb,fun x c e=>(hf b hb).2.2.2.2.1 x c (sub e)⟩
  .intro b o e hb;obtain⟨_,_,_,f3,_⟩:=hf b hb;rcases f3 with z|z
   .exact ae.ok.noex b o e z
   .exact absurd (zB6 (zB0 (ae.ok.bs b o e).1) z) (Nat.lt_irrefl _)
 have eP:X'.prog=X.prog:=by subst bq;rfl
 have ew:X'.w=X.w:=by subst bq;rfl
 have eK:X'.K=X.K:=by subst bq;rfl
 have eA:X'.A=X.A:=by subst bq;rfl
 have eE:X'.xe=fun _ _=>False:=by subst bq;rfl
 have eL:X'.env.locals=C:=by subst bq;rfl
 have eN:X'.env=compEnvC scope (cZ X.env.cells scope.names []) C X.env:=by subst bq;rfl
 have ec:X'.calm=true:=by subst bq;exact hc
 have eS:X'.s₀=s₂:=by subst bq;rfl
 have eH:X'.H₀=H₂:=by subst bq;rfl
 have ef:X'.fs=frs X.stack:=by subst bq;rfl
 have ex:X'.ex=fp:=by subst bq;rfl
 have ep:X'.pn=X.pn++Zt:=by subst bq;rfl
 have I0:Inv X' [] (capσ σ src) H₂ {s₂ with heap:=cy,toks:=s₂.toks+([]:List (Str×Value)).length}:=by
  refine⟨D6,by rw[eS],ae.bare,by rw[eS,eH];exact Un.kept old,⟨_,by rw[eL];exact bp,?_⟩,?_,by rw[eL];exact fresh _ (zA3 _),?_,?_,by rw[eP,ew];exact ae.hok.kept old,?_⟩
  .intro j x v e1 e2 e3;have e1:Nc[j]?=some x:=by subst bq;exact e1
   have e4:∃i,src[j]?=some (some i)/\(σ[i]?).join=some v:=by
    unfold capσ at e2;rw[zAb]at e2
    cases q:src[j]? with
    |none=>rw[q]at e2;cases e2
    |some o=>
     rw[q]at e2
     cases o with
     |none=>simp at e2
     |some i=>exact⟨i,rfl,by simpa using e2⟩
   obtain⟨i,e5,e6⟩:=e4;obtain⟨c1,c2,c3,c4⟩:=(aI C).get e1 e5
   have e7:σ[i]?=some (some v):=by
    cases q:σ[i]? with
    |none=>rw[q]at e6;simp at e6
    |some o=>rw[q]at e6;simp at e6;rw[e6]
   obtain⟨m,_,hl⟩:=ae.loc;obtain⟨u,r,l⟩:=hl i x v c1 e7 (.inr (by rcases c2 with z|z;exact .inl z;exact .inr z));refine⟨u,r,?_⟩;rcases l with⟨k,_⟩|⟨_,c,e,z⟩
   .rcases c2 with c2|c2<;>(rw[k]at c2;cases c2)
   .refine .inr ⟨by rw[eN];exact c4,c,by rw[eN];exact c3.trans e,?_⟩;obtain⟨o,ho,hd⟩:=z;exact⟨o,old c o ho,hd⟩
  .intro x c e;rw[eN]at e;obtain⟨v,o,ho,hd⟩:=ae.cell x c (sub e);exact⟨v,o,old c o ho,hd⟩
  .intro x c e;rw[eN]at e;exact ae.freeC x c (sub e)
  .intro p hp;rw[ep,zAn]at hp;obtain⟨e,n,ne,nf,d⟩:=ae.pin p hp;refine⟨old _ _ e,n,by rw[eL];exact av e,?_,d⟩;rw[ef];intro z;rcases zAo.mp (ae.stkSub _ z)with q|q
   .exact ne q
   .exact nf q
  .have:=(aI C).len;subst bq;show(capσ σ src).length=Nc.length;unfold capσ;rw[zA1,this]
 have kr:∀b∈fp,gD X' [] H₂ b:=fun b hb=>by
  refine⟨(hf b hb).1,by rw[eL];exact rh b hb,by rw[ef];exact zo b hb,.inl (by rw[ex];exact hb),fun x c e=>?_,fun p hp=>?_⟩
  .rw[eN]at e;exact(hf b hb).2.2.2.2.1 x c (sub e)
  .rw[zAn,ep]at hp;exact(hf b hb).2.2.2.2.2 p hp
 have T':Turn X'.prog X'.w X'.K tg J fp it tn:=by rw[eP,ew,eK];exact T
 have loop:∀s₃:Shared,s₃={s₂ with heap:=cy,toks:=s₂.toks+([]:List (Str×Value)).length}->
   codeAny (model X.prog X.w) X.A (.compLoop (.DictComp k v [⟨tg,iter,ifs,0⟩] scope pos) 0 (.ref it) (.ref D) (compEnvC scope (cZ X.env.cells scope.names []) C X.env)) (RR C) s₃:=by
  rintro s₃ rfl;have L:=Jp (X:=X') (iter:=iter) (scope:=scope) (pos:=pos) (R:=RR C) ec eE hg ht hm I0 T' (T.keep _ _ _ st fun b _ o e=>old b o e) kr hW ?_
  .rw[eP,ew,eA,eN]at L;exact L
  rintro s4 dQ H3 I4 fin;obtain⟨mC,zw,_⟩:=I4.loc;rw[eL]at zw;have kB:=I4.base;rw[eS,eH,ef,ex]at kB
  have rl:HOk X.prog X.w H3 s4.heap:=by
   have:=I4.hok;rw[eP,ew]at this;exact this
  have J4:Inv X Zt σ H3 s4:=ae.call' (ch:=fp) (by have:=I4.os;rw[eS]at this;exact this) kB rl I4.bare fun b hb=>by
   obtain⟨_,f1,f2,f3,f4,f5⟩:=hf b hb;exact⟨f3,f1,f4,f5⟩
  refine zi C s4 H3 mC fin J4 zw ⟨?_,?_,?_,.inr ?_,?_,?_⟩
  .have:=I4.free;rw[eL]at this;exact this
  .have:=ae.lt;rw[rg]at this;exact Nat.ne_of_gt this
  .intro z;obtain⟨_,o,ho,_⟩:=ae.funs.mem z;exact av ho rfl
  .have:=ae.sz;rw[rg]at this;exact this
  .intro x c e z;obtain⟨o,ho⟩:=hG e;exact av ho z
  .intro p hp z;exact av (ae.pin p hp).1 z
 exact zZ rfl (loop _ rfl) (T.self _ 0 _ _ _ (T.keep _ _ _ st fun b _ o e=>old b o e) (loop _ rfl))
def Hq(wi:TI)(src:List (Option Nat))(g:TG)(tt:TT)(tm:Addr->TN):TE:=fun σ H Q=>wi σ H fun J H1=>∀D,H1 D=none->wU J g tt (tm D) (fun H'=>Q (.ref D) H') (capσ σ src) (upd H1 D (.dT []))
theorem Aa{X:Cx}{k v tg iter:Expr}{ifs:List Expr}{scope:Scope}{pos:Pos}{wi:TI}{g:TG}{tt:TT}{tm:Addr->TN}(Nc:List Str)(src:List (Option Nat))(hc:X.calm=true)(hi:PI X tg iter wi)
  (hb:∀C fp Zt s₂ H₂,PG (cxC X scope Nc C fp Zt s₂ H₂) tg g/\PTs (cxC X scope Nc C fp Zt s₂ H₂) ifs tt/\∀D,PN (cxC X scope Nc C fp Zt s₂ H₂) D k v (tm D))
  (aI:∀C,Caps X (compEnvC scope (cZ X.env.cells scope.names []) C X.env) Nc src) (S:CScope X scope)
  (hs:∀x,foldedSetIterable iter X.env x=pure x:=by intro _;rfl):PE X (.DictComp k v [⟨tg,iter,ifs,0⟩] scope pos) (Hq wi src g tt tm):=by
 intro Zt s σ H Q I h;show wpAny _ _ (eval (.DictComp k v [⟨tg,iter,ifs,0⟩] scope pos) X.env) _ _ s;unfold eval;refine wpAny_comprehension_free (use:=none) rfl hs (qF S.hfree) S.kind S.hnames ?_;refine thn (hi Zt s σ H _ I h) fun vv s1 h1=>thn h1 fun xD s2 h2=>?_;obtain⟨it,fp,tn,J,H2,e,I2,T,st2,f2,hW⟩:=h2;subst e;refine wpAny_newObj_type ?_;have I3:=I2.laid (a:=s2.heap.objs.size) (o:=.dT []) (t':=s2.toks) (fun _ _ q=>zAw _ q) (zA3 _) (tK s2.heap I2.big);have nD:=I2.hok.fresh (zA3 s2.heap.objs.size)
 have NO:∀b∈fp,b≠s2.heap.objs.size:=fun b hb=>by
  obtain⟨o,e,_⟩:=T.obj _ _ st2 b hb;exact zB8 (zB0 e)
 refine DR (RR:=fun C=>compPost (model X.prog X.w) X.A X.xe none (EP X Zt σ Q) (.ref s2.heap.objs.size) C) (tm:=tm s2.heap.objs.size) hc S aI (fun C fp Zt s₂ H₂=>⟨(hb C fp Zt s₂ H₂).1,(hb C fp Zt s₂ H₂).2.1,(hb C fp Zt s₂ H₂).2.2 _⟩) I3 T (T.keep _ _ _ st2 fun b _ o e=>zAw _ e) (fun b hb=>?_) (hW _ nD) ?_
 .obtain⟨f0,f⟩:=f2 b hb;exact⟨by rw[aA (NO b hb)];exact f0,f⟩
 .intro C s' H' m fin J' hn fC;obtain⟨f0,f1,_,f3,f4,f5⟩:=fC;refine⟨m,hn,fun K0 kC=>?_⟩;exact⟨.ref _,_,J'.turned (t':=s'.toks) (fun b o hb e=>kC.extBut b o hb e) f0 f1 f3 f4 f5,rfl,fin⟩
end L2
namespace St
open PySem PySem.SetTable
def lcg(M x:Nat):Nat:=(x*5+1) % M
def itn(f:Nat->Nat):Nat->Nat->Nat
 |0,x=>x
 |n+1,x=>itn f n (f x)
theorem fD(f:Nat->Nat):∀m n x,itn f (m+n) x=itn f n (itn f m x)
 |0,n,x=>by rw[Nat.zero_add];rfl
 |m+1,n,x=>by
  rw[show m+1+n=(m+n)+1 by lia];exact fD f m n (f x)
theorem Ab{M:Nat}(hM:0<M):∀n x,x<M->itn (lcg M) n x<M
 |0,x,h=>h
 |n+1,x,_=>Ab hM n _ (Nat.mod_lt _ hM)
def cyc(M:Nat):Nat->Nat->Bool
 |0,_=>false
 |f+1,x=>if(x*5+1) % M=0 then f=0 else cyc M f ((x*5+1) % M)
theorem u5(M:Nat):∀f x,cyc M f x=true->itn (lcg M) f x=0/\∀m,0<m->m<f->itn (lcg M) m x≠0
 |0,x,h=>by cases h
 |f+1,x,h=>by
  unfold cyc at h;by_cases e:(x*5+1) % M=0
  .rw[zAz e]at h;have h:f=0:=zBa h;subst h;exact⟨e,fun m h1 h2=>by lia⟩
  .rw[zAx e]at h;obtain⟨a,b⟩:=u5 M f _ h;refine⟨a,fun m h1 h2=>?_⟩
   cases m with
   |zero=>lia
   |succ m=>
    cases m with
    |zero=>exact e
    |succ m=>exact b (m+1) Zz Zz
def jP(M:Nat):Prop:=0<M/\∀x y,x<M->y<M->∃m,m<=M/\itn (lcg M) m x=y
theorem nodup_le:∀{l s:List Nat},l.Nodup->(∀x∈l,x∈s)->l.length<=s.length
 |[],s,_,_=>zAp _
 |a::l,s,nd,h=>by
  obtain⟨na,nd⟩:=List.nodup_cons.mp nd;have ha:=h a (.head _);have:=nodup_le (s:=s.erase a) nd fun x hx=>(List.mem_erase_of_ne (show x≠a from fun z=>by rw[z]at hx;exact na hx)).mpr (h x (.tail _ hx));rw[List.length_erase_of_mem ha]at this;have:=List.length_pos_of_mem ha;rw[zAe];lia
theorem rB{M:Nat}{l:List Nat}(nd:l.Nodup)(hl:l.length=M)(hb:∀x∈l,x<M):∀y,y<M->y∈l:=fun y hy=>by
 refine Classical.byContradiction fun ny=>?_;have:=nodup_le (s:=(List.range M).erase y) nd fun x hx=>(List.mem_erase_of_ne (show x≠y from fun z=>by rw[z]at hx;exact ny hx)).mpr (List.mem_range.mpr (hb x hx));rw[List.length_erase_of_mem (List.mem_range.mpr hy),List.length_range]at this;lia
theorem DW{M:Nat}(hM:0<M)(h:cyc M M 0=true):jP M:=by
 obtain⟨c0,c1⟩:=u5 M M 0 h
 have Tp:∀k,itn (lcg M) (M*k) 0=0:=fun k=>by
  induction k with
  |zero=>rfl
  |succ k ih=>rw[Nat.mul_succ,fD,ih,c0]
 have inj:∀a b,a<b->b<M->itn (lcg M) a 0≠itn (lcg M) b 0:=fun a b h1 h2 e=>by
  have:itn (lcg M) (M-b) (itn (lcg M) a 0)=itn (lcg M) (M-b) (itn (lcg M) b 0):=by rw[e]
  rw[<-fD,<-fD,show b+(M-b)=M by lia,c0]at this;exact c1 (a+(M-b)) Zz Zz this
 have nd:((List.range M).map fun n=>itn (lcg M) n 0).Nodup:=by
  rw[List.Nodup,List.pairwise_map];refine(List.nodup_range (n:=M)).imp_of_mem fun{a b} ha hb ne=>?_;rcases Nat.lt_trichotomy a b with z|z|z
  .exact inj a b z (List.mem_range.mp hb)
  .exact absurd z ne
  .exact(inj b a z (List.mem_range.mp ha)).symm
 have all:=rB nd (by rw[zA1,List.length_range]) fun x hx=>by
  obtain⟨n,_,rfl⟩:=zA5.mp hx;exact Ab hM n 0 hM
 have Lk:∀y,y<M->∃n,n<M/\itn (lcg M) n 0=y:=fun y hy=>by
  obtain⟨n,hn,e⟩:=zA5.mp (all y hy);exact⟨n,List.mem_range.mp hn,e⟩
 refine⟨hM,fun x y hx hy=>?_⟩;obtain⟨a,ha,ea⟩:=Lk x hx;obtain⟨b,hb,eb⟩:=Lk y hy;by_cases ml:a<=b
 .refine⟨b-a,Zz,?_⟩;rw[<-ea,<-fD,show a+(b-a)=b by lia,eb]
 .refine⟨M-a+b,Zz,?_⟩;rw[<-ea,<-fD,show a+(M-a+b)=M+b by lia,fD,c0,eb]
theorem u6:∀k,3<=k->k<=14->jP (2^k):=fun k h1 h2=>by
 refine DW (Nat.pow_pos Zx) ?_;have:k=3\/k=4\/k=5\/k=6\/k=7\/k=8\/k=9\/k=10\/k=11\/k=12\/k=13\/k=14:=Zz
 rcases this with rfl|rfl|rfl|rfl|rfl|rfl|rfl|rfl|rfl|rfl|rfl|rfl<;>decide +kernel
def stp(t:SetTable):Nat->Probe->Probe
 |0,p=>p
 |n+1,p=>stp t n (t.advance p)
theorem dO(t:SetTable):∀m n p,stp t (m+n) p=stp t n (stp t m p)
 |0,n,p=>by rw[Nat.zero_add];rfl
 |m+1,n,p=>by
  rw[show m+1+n=(m+n)+1 by lia];exact dO t m n (t.advance p)
def blk(t:SetTable)(i q:Nat):Probe:={j:=i,more:=runEnd t.mask i-i,i,perturb:=q,dummy:=none}
theorem rC(t:SetTable):∀r (p:Probe),p.more=r->stp t r p={p with j:=p.j+r,more:=0}
 |0,p,h=>by
  show p=_;cases p;cases h;rfl
 |r+1,p,h=>by
  show stp t r (t.advance p)=_
  have e:t.advance p={p with j:=p.j+1,more:=p.more-1}:=by
   unfold advance;rw[zAz Zz]
  rw[e,rC t r _ (by show p.more-1=r;lia)];show({p with j:=p.j+1+r,more:=0}:Probe)=_;rw[show p.j+1+r=p.j+(r+1) by lia]
theorem Hr(mask i:Nat):runEnd mask i-i<=9:=by
 unfold runEnd;split<;>lia
theorem DX(t:SetTable)(i q:Nat):∃r,r<=10/\stp t r (blk t i q)=blk t ((i*5+1+q / 32) % (t.mask+1)) (q / 32):=by
 refine⟨runEnd t.mask i-i+1,by have:=Hr t.mask i;lia,?_⟩;rw[dO,rC t (runEnd t.mask i-i) (blk t i q) rfl];rfl
def cC(t:SetTable)(h:Int):Nat->Nat×Nat
 |0=>(bits h % (t.mask+1),bits h)
 |m+1=>(((cC t h m).1*5+1+(cC t h m).2 / 32) % (t.mask+1),(cC t h m).2 / 32)
theorem u9(t:SetTable)(h:Int):∀m,∃n,n<=10*m/\stp t n (t.probeStart h)=blk t (cC t h m).1 (cC t h m).2
 |0=>⟨0,Zz,rfl⟩
 |m+1=>by
  obtain⟨n,h1,h2⟩:=u9 t h m;obtain⟨r,r1,r2⟩:=DX t (cC t h m).1 (cC t h m).2;exact⟨n+r,Zz,by rw[dO,h2,r2];rfl⟩
theorem DY(h:Int):bits h<2^64:=by
 unfold bits;have h1:=Int.emod_nonneg h (show(2^64:Int)≠0 by decide);have h2:=Int.emod_lt_of_pos h (show(0:Int)<2^64 by decide);lia
theorem Ac(t:SetTable)(h:Int):∀m,(cC t h m).2=bits h / 32^m
 |0=>by rw[Nat.pow_zero,Nat.div_one];rfl
 |m+1=>by
  show(cC t h m).2 / 32=_;rw[Ac t h m,Nat.div_div_eq_div_mul,Nat.pow_succ]
theorem Hs(t:SetTable)(h:Int){m:Nat}(hm:13<=m):(cC t h m).2=0:=by
 rw[Ac];refine Nat.div_eq_of_lt (zB6 (DY h) ?_);have:32^13<=32^m:=Nat.pow_le_pow_right Zx hm;exact Nat.le_trans Zx this
theorem vp(t:SetTable)(h:Int):∀n,(cC t h (13+n)).1=itn (lcg (t.mask+1)) n (cC t h 13).1
 |0=>rfl
 |n+1=>by
  rw[fD (lcg (t.mask+1)) n 1,<-vp t h n];show((cC t h (13+n)).1*5+1+(cC t h (13+n)).2 / 32) % (t.mask+1)=lcg (t.mask+1) (cC t h (13+n)).1;rw[Hs t h Zz];rfl
theorem wV(t:SetTable)(h:Int)(m:Nat):(cC t h m).1<t.mask+1:=by
 cases m with
 |zero=>exact Nat.mod_lt _ (Nat.succ_pos _)
 |succ m=>exact Nat.mod_lt _ (Nat.succ_pos _)
theorem cover{t:SetTable}(F:jP (t.mask+1))(h:Int){j:Nat}(hj:j<=t.mask):∃n,n<10*turns t.mask/\(stp t n (t.probeStart h)).j=j:=by
 obtain⟨m,hm,e⟩:=F.2 (cC t h 13).1 j (wV t h 13) Zz;obtain⟨n,hn,en⟩:=u9 t h (13+m);refine⟨n,by unfold turns;lia,?_⟩;rw[en,vp,e];rfl
def Stop(t:SetTable)(ha:Nat->Int)(h:Int)(j:Nat):Prop:=match t.slot j with
 |.empty=>True
 |.dummy=>False
 |.live i=>ha i=h
theorem mj(t:SetTable)(ha:Nat->Int)(h:Int)(nod:∀j,t.slot j≠.dummy):∀n f p,n<f->Stop t ha h (stp t n p).j->(∀m,m<n->¬Stop t ha h (stp t m p).j)->
  probe.go t ha h f p=(match t.slot (stp t n p).j with
   |.empty=>some (.empty (stp t n p).j (stp t n p).dummy)
   |.dummy=>none
   |.live i=>some (.candidate (stp t n p).j i (t.advance (stp t n p))))
 |n,0,p,hn,_,_=>absurd hn (Nat.not_lt_zero _)
 |0,f+1,p,_,st,_=>by
  show probe.go t ha h (f+1) p=match t.slot p.j with
   |.empty=>some (.empty p.j p.dummy)
   |.dummy=>none
   |.live i=>some (.candidate p.j i (t.advance p))
  have st:Stop t ha h p.j:=st;unfold probe.go;unfold Stop at st
  cases e:t.slot p.j with
  |empty=>rfl
  |dummy=>exact absurd e (nod _)
  |live i=>
   rw[e]at st;have st:ha i=h:=st;show(if(ha i==h)=true then _ else _)=_;rw[zAz (beq_iff_eq.mpr st)]
 |n+1,f+1,p,hn,st,ns=>by
  have n0:=ns 0 Zz;have ih:=mj t ha h nod n f (t.advance p) Zz st fun m hm=>ns (m+1) Zz;rw[show stp t (n+1) p=stp t n (t.advance p)from rfl,<-ih];have n0:¬Stop t ha h p.j:=n0
  conv=>lhs;unfold probe.go
  unfold Stop at n0
  cases e:t.slot p.j with
  |empty=>rw[e]at n0;exact absurd trivial n0
  |dummy=>exact absurd e (nod _)
  |live i=>
   rw[e]at n0;have n0:¬ha i=h:=n0;show(if(ha i==h)=true then _ else _)=_;rw[zAx (by rw[beq_iff_eq];exact n0)]
theorem pH(t:SetTable):∀n p,(stp t n p).dummy=p.dummy
 |0,p=>rfl
 |n+1,p=>by
  show(stp t n (t.advance p)).dummy=p.dummy;rw[pH t n];unfold advance;split<;>rfl
theorem least{P:Nat->Prop}:∀{n},P n->∃m,m<=n/\P m/\∀k,k<m->¬P k:=fun{n} h=>by
 classical
 induction n using Nat.strongRecOn with
 |_ n ih=>
  by_cases q:∃k,k<n/\P k
  .obtain⟨k,h1,h2⟩:=q;obtain⟨m,a,b,c⟩:=ih k h1 h2;exact⟨m,Zz,b,c⟩
  .exact⟨n,zA3 _,h,fun k hk pk=>q ⟨k,hk,pk⟩⟩
theorem uc{t:SetTable}(F:jP (t.mask+1))(nod:∀j,t.slot j≠.dummy)(ha:Nat->Int)(h:Int){j0:Nat}(hj:j0<=t.mask)(he:t.slot j0=.empty):
  ∃n,(∀m,m<n->¬Stop t ha h (stp t m (t.probeStart h)).j)/\Stop t ha h (stp t n (t.probeStart h)).j /\
   t.probe ha h (t.probeStart h)=(match t.slot (stp t n (t.probeStart h)).j with
    |.empty=>some (.empty (stp t n (t.probeStart h)).j none)
    |.dummy=>none
    |.live i=>some (.candidate (stp t n (t.probeStart h)).j i (t.advance (stp t n (t.probeStart h))))):=by
 obtain⟨n0,AK,e0⟩:=cover F h hj
 have s0:Stop t ha h (stp t n0 (t.probeStart h)).j:=by
  unfold Stop;rw[e0,he]
  trivial
 obtain⟨n,h1,h2,h3⟩:=least (P:=fun n=>Stop t ha h (stp t n (t.probeStart h)).j) s0;refine⟨n,h3,h2,?_⟩;have:=mj t ha h nod n (10*turns t.mask) (t.probeStart h) Zz h2 h3;rw[pH]at this;exact this
theorem mq{xs:Array Nat}{j:Nat}(R:xs.toList.Pairwise (· < ·)):∀f lo hi,hi<=lo+f->lo<=hi->hi<=xs.size->(∀i x,i<lo->xs[i]?=some x->x<j)->(∀i x,hi<=i->xs[i]?=some x->j<=x)->
  (∀i x,i<below.go xs j f lo hi->xs[i]?=some x->x<j)/\(∀i x,below.go xs j f lo hi<=i->xs[i]?=some x->j<=x)/\below.go xs j f lo hi<=xs.size
 |0,lo,hi,h1,h2,h3,a,b=>by
  have:lo=hi:=Zz
  subst this;exact⟨a,b,h3⟩
 |f+1,lo,hi,h1,h2,h3,a,b=>by
  unfold below.go;by_cases h:lo<hi
  .rw[zAz h];have hm:(lo+hi) / 2<xs.size:=Zz
   have eg:xs[(lo+hi) / 2]?=some (xs.getD ((lo+hi) / 2) j):=by
    rw[Array.getD_eq_getD_getElem?,Array.getElem?_eq_getElem hm];rfl
   have mono:∀i k x y,i<=k->xs[i]?=some x->xs[k]?=some y->x<=y:=fun i k x y NQ hx hy=>by
    rcases Nat.lt_or_ge i k with z|z
    .rw[<-Array.getElem?_toList]at hx hy;obtain⟨dP,ex⟩:=zAa.mp hx;obtain⟨cc,ey⟩:=zAa.mp hy;have:=List.pairwise_iff_getElem.mp R i k dP cc z;rw[ex,ey]at this;exact Nat.le_of_lt this
    .have:i=k:=Nat.le_antisymm NQ z;subst this;rw[hx]at hy;cases hy;exact zA3 _
   show(∀i x,i<(if xs.getD ((lo+hi) / 2) j<j then below.go xs j f ((lo+hi) / 2+1) hi else below.go xs j f lo ((lo+hi) / 2))->_)/\(∀i x,(if xs.getD ((lo+hi) / 2) j<j then below.go xs j f ((lo+hi) / 2+1) hi else below.go xs j f lo ((lo+hi) / 2))<=i->_)/\(if xs.getD ((lo+hi) / 2) j<j then below.go xs j f ((lo+hi) / 2+1) hi else below.go xs j f lo ((lo+hi) / 2))<=_;by_cases c:xs.getD ((lo+hi) / 2) j<j
   .rw[zAz c];exact mq R f _ hi Zz Zz h3 (fun i x dP hx=>by have:=mono i _ x _ (show i<=(lo+hi) / 2 by lia) hx eg;lia) b
   .rw[zAx c];exact mq R f lo _ Zz Zz Zz a (fun i x dP hx=>by have:=mono _ i _ x dP eg hx;lia)
  .rw[zAx h];have:lo=hi:=Zz
   subst this;exact⟨a,b,h3⟩
theorem gm{xs:Array Nat}(R:xs.toList.Pairwise (· < ·))(j:Nat):(∀i x,i<below xs j->xs[i]?=some x->x<j)/\(∀i x,below xs j<=i->xs[i]?=some x->j<=x)/\below xs j<=xs.size:=
 mq R xs.size 0 xs.size Zz (zAp _) (zA3 _) (fun i x h=>absurd h (Nat.not_lt_zero _)) fun i x h e=>by
  rw[Array.getElem?_eq_none h]at e;cases e
theorem below_at{xs:Array Nat}(R:xs.toList.Pairwise (· < ·)){i j:Nat}(h:xs[i]?=some j):below xs j=i:=by
 obtain⟨a,b,c⟩:=gm R j;rcases Nat.lt_trichotomy (below xs j) i with z|z|z
 .have hi:i<xs.size:=(Array.getElem?_eq_some_iff.mp h).1;have hb:below xs j<xs.size:=Zz
  have e:=b (below xs j) xs[below xs j] (zA3 _) (Array.getElem?_eq_getElem hb);rw[<-Array.getElem?_toList]at h;obtain⟨dP,ex⟩:=zAa.mp h;have:=List.pairwise_iff_getElem.mp R (below xs j) i (by rw[zA9];exact hb) dP z;rw[ex,Array.getElem_toList]at this;lia
 .exact z
 .have:=a i j z h;lia
structure Tb(t:SetTable)(ps:List Nat):Prop where
 pl:t.place=ps.toArray
 no:t.dummies=#[]
 up:ps.Pairwise (· < ·)
 le:∀j∈ps,j<=t.mask
 few:ps.length<=t.mask
theorem wW(j:Nat):has #[] j=false:=by
 unfold has;rfl
theorem Tb.slot{t:SetTable}{ps:List Nat}(T:Tb t ps)(j:Nat):(t.slot j=.empty/\j∉ps)\/∃i,t.slot j=.live i/\ps[i]?=some j:=by
 unfold SetTable.slot;rw[T.no,wW,T.pl];dsimp only;by_cases h:j∈ps
 .obtain⟨i,hi⟩:=List.getElem?_of_mem h;have e:(ps.toArray)[i]?=some j:=by rw[List.getElem?_toArray];exact hi
  have eb:=below_at (xs:=ps.toArray) T.up e;rw[eb,e,if_pos Zy];exact .inr ⟨i,rfl,hi⟩
 .refine .inl ⟨?_,h⟩;rw[zAx,zAx Zx];intro z;rw[beq_iff_eq,List.getElem?_toArray]at z;exact h (zB4 z)
theorem Tb.empty{t:SetTable}{ps:List Nat}(T:Tb t ps){j:Nat}(h:j∉ps):t.slot j=.empty:=by
 rcases T.slot j with⟨e,_⟩|⟨i,_,hi⟩
 .exact e
 .exact absurd (zB4 hi) h
theorem Tb.nod{t:SetTable}{ps:List Nat}(T:Tb t ps)(j:Nat):t.slot j≠.dummy:=by
 rcases T.slot j with⟨e,_⟩|⟨i,e,_⟩<;>rw[e]<;>exact fun z=>by cases z
theorem Tb.free{t:SetTable}{ps:List Nat}(T:Tb t ps):∃j,j<=t.mask/\j∉ps:=by
 refine Classical.byContradiction fun no=>?_;have:=nodup_le (l:=List.range (t.mask+1)) (s:=ps) List.nodup_range fun x hx=>Classical.byContradiction fun nx=>no ⟨x,by have:=List.mem_range.mp hx;lia,nx⟩;rw[List.length_range]at this;have:=T.few;lia
theorem Tb.put{t:SetTable}{ps:List Nat}(T:Tb t ps){j:Nat}(hj:j<=t.mask)(nj:j∉ps)(room:ps.length+1<=t.mask):∃p,p<=ps.length/\t.put j=({t with place:=(ps.take p++j::ps.drop p).toArray},p)/\Tb {t with place:=(ps.take p++j::ps.drop p).toArray} (ps.take p++j::ps.drop p):=by
 obtain⟨a,b,c⟩:=gm (xs:=t.place) (by rw[T.pl];exact T.up) j;rw[T.pl]at a b c;refine⟨below ps.toArray j,by simpa using c,?_,?_⟩
 .unfold SetTable.put;rw[T.no,wW,T.pl];dsimp only;rw[if_neg Zx];congr 2;unfold insertAt;simp;rw[List.take_of_length_le (by rw[List.length_drop];lia)]
 .have hp:below ps.toArray j<=ps.length:=by simpa using c
  refine⟨rfl,T.no,?_,fun k hk=>?_,?_⟩
  .rw[List.pairwise_append];refine⟨T.up.sublist (List.take_sublist _ _),List.pairwise_cons.mpr ⟨fun x hx=>?_,T.up.sublist (List.drop_sublist _ _)⟩,fun x hx y hy=>?_⟩
   .obtain⟨i,hi⟩:=List.getElem?_of_mem hx;rw[List.getElem?_drop]at hi;have:=b (below ps.toArray j+i) x Zz (by rw[List.getElem?_toArray];exact hi);have:x≠j:=fun z=>nj (z▸zB4 hi);lia
   .have lx:x<j:=by
     obtain⟨i,hi⟩:=List.getElem?_of_mem hx;have hl:=(zAa.mp hi).1;rw[zAd]at hl;rw[List.getElem?_take_of_lt Zz]at hi;exact a i x Zz (by rw[List.getElem?_toArray];exact hi)
    rcases zAo.mp hy with z|z
    .rw[z];exact lx
    .obtain⟨i,hi⟩:=List.getElem?_of_mem z;rw[List.getElem?_drop]at hi;have:=b (below ps.toArray j+i) y Zz (by rw[List.getElem?_toArray];exact hi);lia
  .rcases zA6.mp hk with z|z
   .exact T.le k (List.mem_of_mem_take z)
   .rcases zAo.mp z with w|w
    .rw[w];exact hj
    .exact T.le k (List.mem_of_mem_drop w)
  .show(ps.take _++j::ps.drop _).length<=t.mask;rw[zA2,zAe,zAd,List.length_drop];lia
theorem my{t t':SetTable}(h:t'.mask=t.mask):∀n p,stp t' n p=stp t n p
 |0,_=>rfl
 |n+1,p=>by
  show stp t' n (t'.advance p)=stp t n (t.advance p);rw[my h n];congr 1;unfold advance;rw[h]
theorem mz{t t':SetTable}(h:t'.mask=t.mask)(x:Int):t'.probeStart x=t.probeStart x:=by
 unfold probeStart;rw[h]
theorem Ad{mask i:Nat}(h:i<=mask):i+(runEnd mask i-i)<=mask:=by
 unfold runEnd;split<;>lia
theorem Ae(t:SetTable):∀n p,p.j+p.more<=t.mask->(stp t n p).j+(stp t n p).more<=t.mask
 |0,_,h=>h
 |n+1,p,h=>by
  refine Ae t n (t.advance p) ?_;unfold advance;by_cases c:p.more>0
  .rw[zAz c];show p.j+1+(p.more-1)<=t.mask;lia
  .rw[zAx c];have:(leap t.mask p.i p.perturb).1<=t.mask:=Nat.lt_succ_iff.mp (Nat.mod_lt _ (Nat.succ_pos _));exact Ad this
theorem Af(t:SetTable)(h:Int)(n:Nat):(stp t n (t.probeStart h)).j<=t.mask:=by
 have:=Ae t n (t.probeStart h) (Ad (Nat.lt_succ_iff.mp (Nat.mod_lt (bits h) (Nat.succ_pos t.mask))));lia
def hAt(hs:List Int)(i:Nat):Int:=(hs[i]?).getD 0
def Road(t:SetTable)(ps:List Nat)(h:Int)(j:Nat):Prop:=∃n,(stp t n (t.probeStart h)).j=j/\∀m,m<n->(stp t m (t.probeStart h)).j∈ps
theorem Road.up{t t':SetTable}{ps ps':List Nat}{x:Int}{k:Nat}(h:t'.mask=t.mask)(sub:∀a∈ps,a∈ps')(r:Road t ps x k):Road t' ps' x k:=by
 obtain⟨n,a,b⟩:=r;refine⟨n,by rw[my h,mz h];exact a,fun m hm=>?_⟩;rw[my h,mz h];exact sub _ (b m hm)
structure Rc(t:SetTable)(ps:List Nat)(hs:List Int):Prop where
 tb:Tb t ps
 full:jP (t.mask+1)
 len:hs.length=ps.length
 nd:hs.Nodup
 road:∀(i j:Nat) (h:Int),ps[i]?=some j->hs[i]?=some h->Road t ps h j
theorem Rc.new{t:SetTable}{ps:List Nat}{hs:List Int}(R:Rc t ps hs){h:Int}(nh:h∉hs):∃j,j<=t.mask/\j∉ps/\Road t ps h j/\t.probe (hAt hs) h (t.probeStart h)=some (.empty j none):=by
 obtain⟨j0,l0,n0⟩:=R.tb.free;obtain⟨n,ns,st,e⟩:=uc R.full R.tb.nod (hAt hs) h l0 (R.tb.empty n0)
 have ha:∀i j,ps[i]?=some j->hAt hs i≠h:=fun i j hi z=>by
  have hl:i<hs.length:=by rw[R.len];exact(zAa.mp hi).1
  unfold hAt at z;rw[zA0 hl]at z;exact nh (z▸zAh hl)
 have NR:∀m,m<n->(stp t m (t.probeStart h)).j∈ps:=fun m hm=>by
  rcases R.tb.slot (stp t m (t.probeStart h)).j with⟨e1,_⟩|⟨i,_,hi⟩
  .refine absurd ?_ (ns m hm);unfold Stop;rw[e1]
   trivial
  .exact zB4 hi
 rcases R.tb.slot (stp t n (t.probeStart h)).j with⟨e1,e2⟩|⟨i,e1,hi⟩
 .refine⟨_,Af t h n,e2,⟨n,rfl,NR⟩,?_⟩;rw[e,e1]
 .unfold Stop at st;rw[e1]at st;exact absurd st (ha i _ hi)
theorem Rc.old{t:SetTable}{ps:List Nat}{hs:List Int}(R:Rc t ps hs){h:Int}{i:Nat}(hi:hs[i]?=some h):∃j nx,ps[i]?=some j/\t.probe (hAt hs) h (t.probeStart h)=some (.candidate j i nx):=by
 have hl:i<ps.length:=by rw[<-R.len];exact(zAa.mp hi).1
 have hj:=zA0 hl;generalize ps[i]=j at hj;obtain⟨n,en,on⟩:=R.road i j h hj hi;obtain⟨n0,h1,h2,h3⟩:=least (P:=fun n=>(stp t n (t.probeStart h)).j=j) en;obtain⟨n',c1,c2⟩:=cover R.full h (R.tb.le j (zB4 hj))
 have AK:n0<10*turns t.mask:=by
  rcases Nat.lt_or_ge n' n0 with z|z
  .exact absurd c2 (h3 n' z)
  .lia
 have sj:t.slot j=.live i:=by
  rcases R.tb.slot j with⟨_,e2⟩|⟨k,e1,hk⟩
  .exact absurd (zB4 hj) e2
  .have:k=i:=by
    have a:=below_at (xs:=ps.toArray) R.tb.up (i:=k) (j:=j) (by rw[List.getElem?_toArray];exact hk);have b:=below_at (xs:=ps.toArray) R.tb.up (i:=i) (j:=j) (by rw[List.getElem?_toArray];exact hj);lia
   rw[e1,this]
 have sp:Stop t (hAt hs) h (stp t n0 (t.probeStart h)).j:=by
  unfold Stop;rw[h2,sj];show hAt hs i=h;unfold hAt;rw[hi];rfl
 have ns:∀m,m<n0->¬Stop t (hAt hs) h (stp t m (t.probeStart h)).j:=fun m hm z=>by
  have mem:=on m Zz;rcases R.tb.slot (stp t m (t.probeStart h)).j with⟨_,e2⟩|⟨k,e1,hk⟩
  .exact e2 mem
  .unfold Stop at z;rw[e1]at z;have z:hAt hs k=h:=z;have kl:k<hs.length:=by rw[R.len];exact(zAa.mp hk).1
   unfold hAt at z;rw[zA0 kl]at z;have z:hs[k]=h:=z;obtain⟨il,ei⟩:=zAa.mp hi
   have:k=i:=by
    rcases Nat.lt_trichotomy k i with w|w|w
    .exact absurd (z.trans ei.symm) (List.pairwise_iff_getElem.mp R.nd k i kl il w)
    .exact w
    .exact absurd (ei.trans z.symm) (List.pairwise_iff_getElem.mp R.nd i k il kl w)
   rw[this,hj]at hk;exact h3 m hm (zAl hk).symm
 have:=mj t (hAt hs) h R.tb.nod n0 (10*turns t.mask) (t.probeStart h) AK sp ns;rw[h2,sj]at this;exact⟨j,_,hj,this⟩
theorem Rc.put{t:SetTable}{ps:List Nat}{hs:List Int}(R:Rc t ps hs){h:Int}(nh:h∉hs){j:Nat}(hj:j<=t.mask)(nj:j∉ps)(rd:Road t ps h j)(room:ps.length+1<=t.mask):
  ∃p,p<=ps.length/\t.put j=({t with place:=(ps.take p++j::ps.drop p).toArray},p)/\Rc {t with place:=(ps.take p++j::ps.drop p).toArray} (ps.take p++j::ps.drop p) (hs.take p++h::hs.drop p):=by
 obtain⟨p,hp,e,T⟩:=R.tb.put hj nj room;refine⟨p,hp,e,T,R.full,?_,?_,fun i k x hk hx=>?_⟩
 .have:=R.len;rw[zA2,zA2,zAe,zAe,zAd,zAd,List.length_drop,List.length_drop];lia
 .refine(List.perm_middle.nodup_iff).mpr ?_;rw[zB9];exact List.nodup_cons.mpr ⟨nh,R.nd⟩
 .have sub:∀a∈ps,a∈ps.take p++j::ps.drop p:=fun a ha=>by
   rw[<-zB9 p ps]at ha;rcases zA6.mp ha with z|z
   .exact List.mem_append_left _ z
   .exact zB1 _ (List.mem_cons_of_mem _ z)
  refine Road.up (t:=t) rfl sub ?_;have lp:(ps.take p).length=p:=by rw[zAd];lia
  have lh:(hs.take p).length=p:=by have:=R.len;rw[zAd];lia
  rcases Nat.lt_trichotomy i p with z|z|z
  .rw[zB7 Zz,List.getElem?_take_of_lt z]at hk;rw[zB7 Zz,List.getElem?_take_of_lt z]at hx;exact R.road i k x hk hx
  .subst z;rw[zB3 Zz,lp,Nat.sub_self]at hk;rw[zB3 Zz,lh,Nat.sub_self]at hx;cases hk;cases hx;exact rd
  .rw[zB3 Zz,lp,show i-p=(i-p-1)+1 by lia,List.getElem?_cons_succ,List.getElem?_drop]at hk;rw[zB3 Zz,lh,show i-p=(i-p-1)+1 by lia,List.getElem?_cons_succ,List.getElem?_drop]at hx;exact R.road _ k x hk hx
theorem Ag(t:SetTable)(i q:Nat){k:Nat}(hk:k<=runEnd t.mask i-i):(stp t k (blk t i q)).j=i+k/\∀{m},m<=k->(stp t m (blk t i q)).j=i+m:=by
 have gen:∀m,m<=runEnd t.mask i-i->stp t m (blk t i q)={blk t i q with j:=i+m,more:=runEnd t.mask i-i-m}:=fun m=>by
  induction m with
  |zero=>exact fun _=>rfl
  |succ m ih=>
   intro hm;rw[dO t m 1,ih Zz];show t.advance _=_;unfold advance;rw[zAz (show runEnd t.mask i-i-m>0 by lia)];show({blk t i q with j:=i+m+1,more:=runEnd t.mask i-i-m-1}:Probe)=_;rw[show i+m+1=i+(m+1) by lia,show runEnd t.mask i-i-m-1=runEnd t.mask i-i-(m+1) by lia]
 exact⟨by rw[gen k hk],fun{m} hm=>by rw[gen m Zz]⟩
theorem Ah(t:SetTable)(i q:Nat):stp t (runEnd t.mask i-i+1) (blk t i q)=blk t ((i*5+1+q / 32) % (t.mask+1)) (q / 32):=by
 rw[dO,rC t (runEnd t.mask i-i) (blk t i q) rfl];rfl
def Own(owner:Array (Option Nat))(j:Nat):Prop:=(owner.getD j (some 0)).isNone=false
theorem pI(t:SetTable)(owner:Array (Option Nat))(h:Int):∀f m n,stp t n (t.probeStart h)=blk t (cC t h m).1 (cC t h m).2->(∀k,k<n->Own owner (stp t k (t.probeStart h)).j)->(∃M,m<=M/\M<m+f/\¬Own owner (cC t h M).1)->
  ∃j n',layClean.free t.mask owner f (cC t h m).1 (cC t h m).2=some j/\¬Own owner j/\(stp t n' (t.probeStart h)).j=j/\∀k,k<n'->Own owner (stp t k (t.probeStart h)).j
 |0,m,n,_,_,⟨M,h1,h2,_⟩=>by lia
 |f+1,m,n,en,oc,⟨M,h1,h2,h3⟩=>by
  unfold layClean.free
  cases q:(List.range (runEnd t.mask (cC t h m).1+1-(cC t h m).1)).find? fun k=>(owner.getD ((cC t h m).1+k) (some 0)).isNone with
  |some k=>
   obtain⟨hp,as,bs,e,hb⟩:=List.find?_eq_some_iff_append.mp q;have hk:=List.mem_range.mp (List.mem_of_find?_eq_some q)
   have hk:k<=runEnd t.mask (cC t h m).1-(cC t h m).1:=by
    unfold runEnd at hk⊢;split at hk<;>split<;>lia
   obtain⟨s1,s2⟩:=Ag t (cC t h m).1 (cC t h m).2 hk;refine⟨_,n+k,rfl,fun z=>?_,by rw[dO,en,s1],fun x hx=>?_⟩
   .unfold Own at z;rw[hp]at z;cases z
   .rcases Nat.lt_or_ge x n with w|w
    .exact oc x w
    .obtain⟨y,rfl⟩:∃y,x=n+y:=⟨x-n,Zz⟩
     rw[dO,en,s2 Zz];have yk:y<k:=Zz
     have:(as++k::bs)[y]?=some y:=by
      rw[<-e,List.getElem?_range (by have:=List.mem_range.mp (List.mem_of_find?_eq_some q);lia)]
     have al:as.length=k:=by
      have:=congrArg (fun l=>l[as.length]?) e;simp only[List.getElem?_append_right (Nat.le_refl _),Nat.sub_self,List.getElem?_cons_zero]at this;obtain⟨z1,z2⟩:=zAa.mp this;rw[List.getElem_range]at z2;exact z2
     have ym:y∈as:=by
      rw[zB7 Zz]at this;exact zB4 this
     have:=hb y ym;unfold Own;simpa using this
  |none=>
   have no:=List.find?_eq_none.mp q
   have full:∀y,y<=runEnd t.mask (cC t h m).1-(cC t h m).1->Own owner ((cC t h m).1+y):=fun y hy=>by
    have hr:(cC t h m).1<=runEnd t.mask (cC t h m).1:=by unfold runEnd;split<;>lia
    exact(Bool.not_eq_true _).mp (no y (List.mem_range.mpr Zz))
   refine pI t owner h f (m+1) (n+(runEnd t.mask (cC t h m).1-(cC t h m).1+1)) ?_ (fun x hx=>?_) ?_
   .rw[dO,en,Ah];rfl
   .rcases Nat.lt_or_ge x n with w|w
    .exact oc x w
    .obtain⟨y,rfl⟩:∃y,x=n+y:=⟨x-n,Zz⟩
     have hy:y<=runEnd t.mask (cC t h m).1-(cC t h m).1:=Zz
     rw[dO,en,(Ag t _ _ hy).1];exact full y hy
   .refine⟨M,?_,Zz,h3⟩;rcases Nat.lt_or_ge m M with z|z
    .exact z
    .have:M=m:=Zz
     subst this;exact absurd (full 0 (zAp _)) h3
theorem Ai{t:SetTable}(F:jP (t.mask+1)){owner:Array (Option Nat)}{j0:Nat}(hj:j0<=t.mask)(nj:¬Own owner j0)(h:Int):
  ∃j n,layClean.free t.mask owner (turns t.mask) (bits h % (t.mask+1)) (bits h)=some j/\¬Own owner j/\(stp t n (t.probeStart h)).j=j/\∀k,k<n->Own owner (stp t k (t.probeStart h)).j:=by
 refine pI t owner h (turns t.mask) 0 0 rfl (fun k hk=>absurd hk (Nat.not_lt_zero _)) ?_;obtain⟨m,hm,e⟩:=F.2 (cC t h 13).1 j0 (wV t h 13) Zz;refine⟨13+m,zAp _,by unfold turns;lia,?_⟩;rw[vp,e];exact nj
structure Lay(t:SetTable)(owner:Array (Option Nat))(sl:List Nat)(hs:List Int):Prop where
 sz:owner.size=t.mask+1
 len:sl.length=hs.length
 nd:sl.Nodup
 le:∀j∈sl,j<=t.mask
 own:∀(k j:Nat),sl[k]?=some j->owner[j]?=some (some k)
 non:∀j,j<=t.mask->j∉sl->owner[j]?=some none
 road:∀(k j:Nat) (h:Int),sl[k]?=some j->hs[k]?=some h->Road t sl h j
theorem Lay.own_iff{t:SetTable}{owner:Array (Option Nat)}{sl:List Nat}{hs:List Int}(L:Lay t owner sl hs){j:Nat}(hj:j<=t.mask):Own owner j↔j∈sl:=by
 unfold Own;rw[Array.getD_eq_getD_getElem?];by_cases h:j∈sl
 .obtain⟨k,hk⟩:=List.getElem?_of_mem h;rw[L.own k j hk];exact⟨fun _=>h,fun _=>rfl⟩
 .rw[L.non j hj h];exact⟨fun z=>(by cases z),fun z=>absurd z h⟩
theorem Lay.nil(t:SetTable):Lay t (Array.replicate (t.mask+1) none) [] []:=
 ⟨by rw[Array.size_replicate],rfl,List.nodup_nil,fun j h=>(by cases h),fun k j h=>(by simp at h),fun j hj _=>by rw[Array.getElem?_replicate,if_pos Zz],fun k j h hk=>(by simp at hk)⟩
theorem Lay.step{t:SetTable}(F:jP (t.mask+1)){owner:Array (Option Nat)}{sl:List Nat}{hs:List Int}(L:Lay t owner sl hs)(room:sl.length<=t.mask)(h:Int):
  ∃j,layClean.free t.mask owner (turns t.mask) (bits h % (t.mask+1)) (bits h)=some j/\Lay t (owner.setIfInBounds j (some hs.length)) (sl++[j]) (hs++[h]):=by
 have fr:∃j,j<=t.mask/\j∉sl:=by
  refine Classical.byContradiction fun no=>?_;have:=nodup_le (l:=List.range (t.mask+1)) (s:=sl) List.nodup_range fun x hx=>Classical.byContradiction fun nx=>no ⟨x,by have:=List.mem_range.mp hx;lia,nx⟩;rw[List.length_range]at this;lia
 obtain⟨j0,l0,n0⟩:=fr;obtain⟨j,n,e,nj,ej,oc⟩:=Ai F (owner:=owner) l0 (fun z=>n0 ((L.own_iff l0).mp z)) h;have lj:j<=t.mask:=by rw[<-ej];exact Af t h n
 have nj:j∉sl:=fun z=>nj ((L.own_iff lj).mpr z)
 have rd:Road t sl h j:=⟨n,ej,fun m hm=>(L.own_iff (Af t h m)).mp (oc m hm)⟩
 have up:∀{x k},Road t sl x k->Road t (sl++[j]) x k:=fun r=>r.up rfl fun a ha=>List.mem_append_left _ ha;refine⟨j,e,by rw[Array.size_setIfInBounds];exact L.sz,by rw[zA2,zA2,L.len];rfl,?_,fun x hx=>?_,fun k x hk=>?_,fun x hx nx=>?_,fun k x y hk hy=>?_⟩
 .rw[List.nodup_append];refine⟨L.nd,List.nodup_cons.mpr ⟨by simp,List.nodup_nil⟩,fun a ha b hb=>?_⟩;rw[List.mem_singleton.mp hb];exact fun z=>nj (z▸ha)
 .rcases zA6.mp hx with z|z
  .exact L.le x z
  .rw[List.mem_singleton.mp z];exact lj
 .rw[Array.getElem?_setIfInBounds];rcases Nat.lt_or_ge k sl.length with z|z
  .rw[zB7 z]at hk;rw[zAx (show¬j=x from fun w=>nj (by rw[w];exact zB4 hk))];exact L.own k x hk
  .have cc:=(zAa.mp hk).1;rw[zA2]at cc;have:k=sl.length:=by simp at cc;lia
   subst this;rw[zB3 (zA3 _),Nat.sub_self]at hk;cases hk;rw[zAz rfl,zAz (by rw[L.sz];lia),L.len]
 .have hn:x≠j:=fun z=>nx (by rw[z];exact zB1 _ (List.mem_singleton.mpr rfl));rw[Array.getElem?_setIfInBounds,zAx (Ne.symm hn)];exact L.non x hx fun z=>nx (List.mem_append_left _ z)
 .rcases Nat.lt_or_ge k sl.length with z|z
  .rw[zB7 z]at hk;rw[zB7 (by rw[<-L.len];exact z)]at hy;exact up (L.road k x y hk hy)
  .have cc:=(zAa.mp hk).1;rw[zA2]at cc;have:k=sl.length:=by simp at cc;lia
   subst this;rw[zB3 (zA3 _),Nat.sub_self]at hk;rw[zB3 (by rw[L.len];exact zA3 _),L.len,Nat.sub_self]at hy;cases hk;cases hy;exact up rd
theorem Aj{t:SetTable}(F:jP (t.mask+1)):∀(rest:List Int) (owner:Array (Option Nat)) (sl:List Nat) (hs:List Int),Lay t owner sl hs->sl.length+rest.length<=t.mask+1->
  ∃kP Dx,(rest.foldl (fun(acc:Option (Array (Option Nat)×Nat)) h=>do
   let(owner,k) <-acc
   let j <-layClean.free t.mask owner (turns t.mask) (bits h % (t.mask+1)) (bits h)
   pure (owner.setIfInBounds j (some k),k+1)) (some (owner,hs.length)))=some (kP,(hs++rest).length)/\Lay t kP Dx (hs++rest)
 |[],owner,sl,hs,L,_=>⟨owner,sl,by rw[zAn];rfl,by rw[zAn];exact L⟩
 |h::rest,owner,sl,hs,L,room=>by
  obtain⟨j,e,L2⟩:=L.step F (by rw[zAe]at room;lia) h;obtain⟨o',s',e2,L3⟩:=Aj F rest _ _ _ L2 (by rw[List.length_append,List.length_cons]at *;simp;lia);refine⟨o',s',?_,by rw[zAf]at L3;exact L3⟩;rw[List.foldl_cons];show rest.foldl _ ((some (owner,hs.length)).bind fun p=>(layClean.free t.mask p.1 (turns t.mask) (bits h % (t.mask+1)) (bits h)).bind fun j=>some (p.1.setIfInBounds j (some p.2),p.2+1))=_;rw[Option.bind_some];show rest.foldl _ ((layClean.free t.mask owner (turns t.mask) (bits h % (t.mask+1)) (bits h)).bind fun j=>some (owner.setIfInBounds j (some hs.length),hs.length+1))=_;rw[e,Option.bind_some];rw[zAf,zA2]at e2;simp only[List.length_append,List.length_cons,List.length_nil,Nat.zero_add]at e2⊢;rw[show 1+rest.length=rest.length+1 by lia]at e2;exact e2
theorem Ea{t:SetTable}(F:jP (t.mask+1)){hs:List Int}(room:hs.length<=t.mask+1):∃owner sl,layClean t.mask hs.toArray=some owner/\Lay t owner sl hs:=by
 obtain⟨o,s,e,L⟩:=Aj F hs _ _ _ (Lay.nil t) (by simpa using room);refine⟨o,s,?_,by simpa using L⟩;unfold layClean;rw[List.foldl_toArray];show(hs.foldl _ (some (Array.replicate (t.mask+1) none,0))).map (·.1)=_
 have e:hs.foldl (fun(acc:Option (Array (Option Nat)×Nat)) h=>do
   let(owner,k) <-acc
   let j <-layClean.free t.mask owner (turns t.mask) (bits h % (t.mask+1)) (bits h)
   pure (owner.setIfInBounds j (some k),k+1)) (some (Array.replicate (t.mask+1) none,0))=some (o,([]++hs).length):=e
 rw[e];rfl
def dD(mask:Nat)(owner:Array (Option Nat)):List (Nat×Nat):=(List.range (mask+1)).filterMap fun j=>(owner.getD j none).map (j,·)
section
variable{t:SetTable}{owner:Array (Option Nat)}{sl:List Nat}{hs:List Int}
theorem Lay.at(L:Lay t owner sl hs){j:Nat}(hj:j<=t.mask)(k:Nat):owner.getD j none=some k↔sl[k]?=some j:=by
 rw[Array.getD_eq_getD_getElem?];constructor
 .intro e;by_cases h:j∈sl
  .obtain⟨i,hi⟩:=List.getElem?_of_mem h;rw[L.own i j hi]at e;cases e;exact hi
  .rw[L.non j hj h]at e;cases e
 .intro e;rw[L.own k j e];rfl
theorem Lay.live(L:Lay t owner sl hs)(j k:Nat):(j,k)∈dD t.mask owner↔sl[k]?=some j:=by
 unfold dD;rw[List.mem_filterMap];constructor
 .rintro⟨a,ha,e⟩;have ha:a<=t.mask:=by have:=List.mem_range.mp ha;lia
  cases q:owner.getD a none with
  |none=>rw[q]at e;cases e
  |some i=>
   rw[q]at e;have e:(a,i)=(j,k):=zAl e;have e1:a=j:=congrArg Prod.fst e;have e2:i=k:=congrArg Prod.snd e;rw[e1,e2]at q;rw[e1]at ha;exact(L.at ha k).mp q
 .intro e;have hj:=L.le j (zB4 e);exact⟨j,List.mem_range.mpr Zz,by rw[(L.at hj k).mpr e];rfl⟩
theorem wX(mask:Nat)(owner:Array (Option Nat)):((dD mask owner).map (·.1)).Pairwise (· < ·):=by
 rw[List.pairwise_map];unfold dD;rw[List.pairwise_filterMap];refine List.pairwise_lt_range.imp fun{a b} ml x hx y hy=>?_
 cases q:owner.getD a none with
 |none=>rw[q]at hx;cases hx
 |some i=>
  cases q':owner.getD b none with
  |none=>rw[q']at hy;cases hy
  |some i'=>
   rw[q]at hx;rw[q']at hy;cases hx;cases hy;exact ml
theorem Lay.live_nd(L:Lay t owner sl hs):((dD t.mask owner).map (·.2)).Nodup:=by
 rw[List.Nodup,List.pairwise_map];have:=wX t.mask owner;rw[List.pairwise_map]at this;refine this.imp_of_mem fun{a b} ha hb ml e=>?_;have h1:=(L.live a.1 a.2).mp ha;have h2:=(L.live b.1 b.2).mp hb;rw[e,h2]at h1;have:=zAl h1;lia
theorem Lay.order(L:Lay t owner sl hs):((dD t.mask owner).map (·.2)).Perm (List.range hs.length):=by
 refine(List.perm_ext_iff_of_nodup L.live_nd List.nodup_range).mpr fun k=>?_;rw[List.mem_range,zA5];constructor
 .rintro⟨⟨j,i⟩,h,rfl⟩;have:=(zAa.mp ((L.live j i).mp h)).1;rw[L.len]at this;exact this
 .intro hk;have hk:k<sl.length:=by rw[L.len];exact hk
  exact⟨(sl[k],k),(L.live _ _).mpr (zA0 hk),rfl⟩
theorem Lay.places(L:Lay t owner sl hs)(j:Nat):j∈(dD t.mask owner).map (·.1)↔j∈sl:=by
 rw[zA5];constructor
 .rintro⟨⟨a,i⟩,h,rfl⟩;exact zB4 ((L.live a i).mp h)
 .intro h;obtain⟨k,hk⟩:=List.getElem?_of_mem h;exact⟨(j,k),(L.live j k).mpr hk,rfl⟩
theorem Eb{t:SetTable}(F:jP (t.mask+1)){hs:List Int}(nd:hs.Nodup)(room:hs.length<=t.mask):∃ps od,SetTable.laid t.mask t.finger t.moves t.led t.plain hs.toArray=some ({t with place:=List.toArray ps,dummies:=#[]},List.toArray od) /\
  od.Perm (List.range hs.length)/\Rc {t with place:=List.toArray ps,dummies:=#[]} ps (od.map fun k=>hs.getD k 0):=by
 obtain⟨owner,sl,e,L⟩:=Ea F (hs:=hs) Zz;refine⟨(dD t.mask owner).map (·.1),(dD t.mask owner).map (·.2),?_,L.order,?_⟩
 .unfold SetTable.laid;rw[e];rfl
 .have ln:((dD t.mask owner).map (·.2)).length=hs.length:=by rw[L.order.length_eq,List.length_range]
  have lp:(dD t.mask owner).length=hs.length:=by rw[zA1]at ln;exact ln
  refine⟨⟨rfl,rfl,wX _ _,fun j hj=>L.le j ((L.places j).mp hj),by rw[zA1,lp];exact room⟩,F,by rw[zA1,zA1,zA1],?_,fun i j h hj hh=>?_⟩
  .rw[List.Nodup,List.pairwise_map];refine L.live_nd.imp_of_mem fun{a b} ha hb ml=>?_;have la:=List.mem_range.mp (L.order.mem_iff.mp ha);have lb:=List.mem_range.mp (L.order.mem_iff.mp hb);rw[zA7,zA7,zA0 la,zA0 lb];show hs[a]≠hs[b];rcases Nat.lt_trichotomy a b with z|z|z
   .exact List.pairwise_iff_getElem.mp nd a b la lb z
   .exact absurd z ml
   .exact(List.pairwise_iff_getElem.mp nd b a lb la z).symm
  .rw[zAb]at hj;rw[zAb,zAb]at hh
   cases q:(dD t.mask owner)[i]? with
   |none=>rw[q]at hj;cases hj
   |some x=>
    rw[q]at hj hh;cases hj;have hx:=(L.live x.1 x.2).mp (zB4 q);have hk:x.2<hs.length:=by rw[<-L.len];exact(zAa.mp hx).1
    have eh:hs[x.2]?=some h:=by
     have hh:some (hs.getD x.2 0)=some h:=hh;rw[<-hh,zA7,zA0 hk];rfl
    exact Road.up (t:=t) rfl (fun a ha=>(L.places a).mpr ha) (L.road x.2 x.1 h hx eh)
end
structure SetAt(b:Bool)(h:Heap)(a:Addr)(L:List (Int×Value))(o:Obj)(ep:Nat)(t:SetTable)(ps:List Nat):Prop where
 get:h.get? a=some o
 ex:o.ExactSet
 dat:o.data=.set L.toArray ep t
 rc:Rc t ps (L.map (·.1))
 led:t.led=b
 pla:t.plain=true
 odd:t.mask % 2=1
 sml:t.mask<2^14
theorem SetAt.at{b:Bool}{h h':Heap}{a:Addr}{L:List (Int×Value)}{o:Obj}{ep:Nat}{t:SetTable}{ps:List Nat}(S:SetAt b h a L o ep t ps)(k:h'.get? a=some o):SetAt b h' a L o ep t ps:=⟨k,S.ex,S.dat,S.rc,S.led,S.pla,S.odd,S.sml⟩
theorem Rc.as{t t':SetTable}{ps:List Nat}{hs:List Int}(R:Rc t ps hs)(h1:t'.mask=t.mask)(h2:t'.place=t.place)(h3:t'.dummies=t.dummies):Rc t' ps hs:=
 ⟨⟨h2.trans R.tb.pl,h3.trans R.tb.no,R.tb.up,fun j hj=>by rw[h1];exact R.tb.le j hj,by rw[h1];exact R.tb.few⟩,by rw[h1];exact R.full,R.len,R.nd,fun i j x hi hx=>(R.road i j x hi hx).up h1 fun _ h=>h⟩
theorem Rc.fits{t:SetTable}{ps:List Nat}{hs:List Int}(R:Rc t ps hs):t.fits hs.length=true:=by
 unfold SetTable.fits SetTable.fill;rw[R.tb.pl,R.tb.no,R.len];have:=R.tb.few;simp;lia
theorem Ak(L:List (Int×Value))(i:Nat):((L.toArray)[i]?.map (·.1)).getD 0=hAt (L.map (·.1)) i:=by
 unfold hAt;rw[List.getElem?_toArray,zAb]
theorem ue{t:SetTable}{g:Nat->Int}{h:Int}{m:Met}(e:t.probe g h (t.probeStart h)=some m){f:Nat->Int}(hf:∀i,f i=g i):t.probe f h (none.getD (t.probeStart h))=some m:=by
 rw[show f=g from funext hf];exact e
section
variable{b:Bool}{prog:Program}{w:World}{A:Around}{E:Value->Shared->Prop}{s:Shared}
theorem SetAt.state{a:Addr}{L:List (Int×Value)}{o:Obj}{ep:Nat}{t:SetTable}{ps:List Nat}(S:SetAt b s.heap a L o ep t ps){Q:(Array (Int×Value)×Nat×SetTable)->Shared->Prop}(h:Q (L.toArray,ep,t) s):wpAny (model prog w) A (setState a) Q E s:=
 wpAny_setState_of S.get S.dat (by have:=S.rc.fits;rw[List.length_map]at this;simpa using this) h
theorem SetAt.search_new{a:Addr}{L:List (Int×Value)}{o:Obj}{ep:Nat}{t:SetTable}{ps:List Nat}(S:SetAt b s.heap a L o ep t ps){x:Value}{h:Int}(nh:h∉L.map (·.1)){Q:SetFound->Shared->Prop}
  (q:∀j,j<=t.mask->j∉ps->Road t ps h j->Q (.free j false) s):wpAny (model prog w) A (setSearch a x h true) Q E s:=by
 obtain⟨j,hj,nj,rd,e⟩:=S.rc.new nh;unfold setSearch;rw[show(100000:Nat)=99999+1 from rfl];unfold setSearchFrom;refine wpAny_bind (S.state ?_);dsimp only
 have gw:t.gaveWay=false:=by
  unfold SetTable.gaveWay;rw[S.odd];rfl
 rw[gw];simp only[Bool.false_eq_true,↓reduceIte];rw[ue e]
 .exact zAv (q j hj nj rd)
 .exact fun i=>Ak L i
theorem SetAt.search_old{a:Addr}{L:List (Int×Value)}{o:Obj}{ep:Nat}{t:SetTable}{ps:List Nat}(S:SetAt b s.heap a L o ep t ps){x y:Value}{h:Int}{i:Nat}(hi:L[i]?=some (h,y)){Q:SetFound->Shared->Prop}
  (eq:∀{Q':Bool->Shared->Prop} {E':Value->Shared->Prop},Q' true s->wpAny (model prog w) A (eqBool y x) Q' E' s) (seen:b=false->∀{A:Around} {Q':Bool->Shared->Prop} {E':Value->Shared->Prop} (ys:List Value),(∀v∈ys,v∈L.map (·.2))->Q' false s->wpAny (model prog w) A (searchCouldBeSeen x ys) Q' E' s) (q:Q (.there none) s):wpAny (model prog w) A (setSearch a x h true) Q E s:=by
 obtain⟨j,nx,hj,e⟩:=S.rc.old (h:=h) (i:=i) (by rw[zAb,hi];rfl);unfold setSearch;rw[show(100000:Nat)=99999+1 from rfl];unfold setSearchFrom;refine wpAny_bind (S.state ?_);dsimp only
 have gw:t.gaveWay=false:=by
  unfold SetTable.gaveWay;rw[S.odd];rfl
 rw[gw];simp only[Bool.false_eq_true,↓reduceIte];rw[ue e]
 .dsimp only;rw[S.led]
  have sub:∀v∈(L.toArray.filter (·.1==h)).toList.map (·.2),v∈L.map (·.2):=fun v hv=>by
   obtain⟨p,hp,rfl⟩:=zA5.mp hv;rw[Array.mem_toList_iff,Array.mem_filter]at hp;exact List.mem_map.mpr ⟨p,by simpa using hp.1,rfl⟩
  cases hb:b
  .simp only[Bool.not_false,↓reduceIte];refine wpAny_bind (seen hb _ sub ?_);simp only[Bool.false_eq_true,↓reduceIte];rw[List.getElem?_toArray,hi];dsimp only;refine wpAny_bind (wpAny_holding (eq (wpAny_bind (S.state ?_))));dsimp only;simp only[Bool.and_self,↓reduceIte];exact wpAny_pure q
  .simp only[Bool.not_true,Bool.false_eq_true,↓reduceIte];rw[List.getElem?_toArray,hi];dsimp only;refine wpAny_bind (wpAny_holding (eq (wpAny_bind (S.state ?_))));dsimp only;simp only[Bool.and_self,↓reduceIte];exact wpAny_pure q
 .exact fun i=>Ak L i
theorem mD{b:Addr}{es:Array (Int×Value)}:byScan (.ref b) es=false:=rfl
theorem SetAt.add_old{a c:Addr}{L:List (Int×Value)}{o:Obj}{ep:Nat}{t:SetTable}{ps:List Nat}(S:SetAt b s.heap a L o ep t ps){y:Value}{h:Int}{i:Nat}(hi:L[i]?=some (h,y)){Q:Bool->Shared->Prop}
  (eq:∀{Q':Bool->Shared->Prop} {E':Value->Shared->Prop},Q' true s->wpAny (model prog w) A (eqBool y (.ref c)) Q' E' s) (seen:b=false->∀{A:Around} {Q':Bool->Shared->Prop} {E':Value->Shared->Prop} (ys:List Value),(∀v∈ys,v∈L.map (·.2))->Q' false s->wpAny (model prog w) A (searchCouldBeSeen (.ref c) ys) Q' E' s) (q:Q false s):wpAny (model prog w) A (setAddHashed a (.ref c) h) Q E s:=by
 unfold setAddHashed;refine wpAny_holding ?_;rw[show(100000:Nat)=99999+1 from rfl];unfold setAddHashedIn;refine wpAny_bind (S.state ?_);dsimp only;rw[mD];simp only[Bool.false_eq_true,↓reduceIte];refine wpAny_bind (S.search_old hi eq seen ?_);exact wpAny_pure q
end
section
variable{b:Bool}{prog:Program}{w:World}{A:Around}{E:Value->Shared->Prop}{s:Shared}
theorem Al{α:Type}(L:List α)(p:Nat)(hp:p<=L.length)(x:α):insertAt L.toArray p x=(L.take p++x::L.drop p).toArray:=by
 unfold insertAt;simp;rw[List.take_of_length_le (by rw[List.length_drop];lia)]
theorem SetAt.store{a:Addr}{L L':List (Int×Value)}{o:Obj}{ep:Nat}{t t':SetTable}{ps ps':List Nat}(S:SetAt b s.heap a L o ep t ps)(R:Rc t' ps' (L'.map (·.1)))(l1:t'.led=b)(p1:t'.plain=true)(o1:t'.mask % 2=1)(s1:t'.mask<2^14){Q:Unit->Shared->Prop}
  (q:∀h',Heap.SameBut a s.heap h'->SetAt b h' a L' {o with data:=.set L'.toArray (ep+1) t'} (ep+1) t' ps'->Q () {s with heap:=h'}):wpAny (model prog w) A (storeSet a L'.toArray t') Q E s:=by
 have len:L'.length<=2^14:=by
  have h1:=R.tb.few;have h2:=R.len;rw[zA1]at h2;lia
 refine wpAny_storeSet_of S.get S.dat (q _ (Heap.SameBut.update s.heap a _) ⟨?_,S.ex,rfl,R,l1,p1,o1,s1⟩) (by rw[zA8,sizeLine_eq];lia);have:=Heap.get?_update_self (Obj.putSet L'.toArray t') S.get (by rw[putSet_of _ _ S.dat];rfl);rw[putSet_of _ _ S.dat]at this;exact this
end
section
variable{b:Bool}{prog:Program}{w:World}{A:Around}{E:Value->Shared->Prop}{s:Shared}
theorem uf{α:Type}(L:List α)(p:Nat)(x:α):(L.take p++x::L.drop p).Perm (x::L):=by
 refine List.perm_middle.trans ?_;rw[zB9]
theorem SetAt.add_new{a c:Addr}{L:List (Int×Value)}{o:Obj}{ep:Nat}{t:SetTable}{ps:List Nat}(S:SetAt b s.heap a L o ep t ps){h:Int}(nh:h∉L.map (·.1))(room:(L.length+1)*5<t.mask*3)
  (hv:∀{A:Around} {Q':Bool->Shared->Prop} {E':Value->Shared->Prop},Q' true s->wpAny (model prog w) A (hashByValue 8 (.ref c)) Q' E' s) {Q:Bool->Shared->Prop}
  (q:∀h' L' o' aE t' ps',Heap.SameBut a s.heap h'->SetAt b h' a L' o' aE t' ps'->L'.Perm ((h,.ref c)::L)->t'.mask=t.mask->Q true {s with heap:=h'}):wpAny (model prog w) A (setAddHashed a (.ref c) h) Q E s:=by
 unfold setAddHashed;refine wpAny_holding ?_;rw[show(100000:Nat)=99999+1 from rfl];unfold setAddHashedIn;refine wpAny_bind (S.state ?_);dsimp only;rw[mD];simp only[Bool.false_eq_true,↓reduceIte];refine wpAny_bind (S.search_new nh fun j hj nj rd=>?_);dsimp only;refine wpAny_bind (S.state ?_);dsimp only
 have lp:ps.length=L.length:=by
  have:=S.rc.len;rw[zA1]at this;exact this.symm
 obtain⟨p,hp,e,R⟩:=S.rc.put nh hj nj rd Zz;rw[e];dsimp only;rw[if_pos S.pla];refine wpAny_bind (hv ?_);simp only[↓reduceIte];rw[Al L p Zz]
 have em:(L.take p++(h,Value.ref c)::L.drop p).map (·.1)=(L.map (·.1)).take p++h::(L.map (·.1)).drop p:=by
  rw[zA4,zAk,List.map_take,List.map_drop]
 refine zAt (S.store (t':={t with place:=(ps.take p++j::ps.drop p).toArray}) (L':=L.take p++(h,Value.ref c)::L.drop p) (ps':=ps.take p++j::ps.drop p) (by rw[em];exact R) S.led S.pla S.odd S.sml fun h' sb S'=>?_)
 have nf:SetTable.tooFull {t with place:=(ps.take p++j::ps.drop p).toArray}=false:=by
  unfold SetTable.tooFull SetTable.fill;dsimp only;rw[S.rc.tb.no,zA8,(uf ps p j).length_eq,zAe];refine decide_eq_false ?_;show¬(ps.length+1+0)*5≥t.mask*3;lia
 rw[nf];simp only[Bool.not_false,Bool.and_false,Bool.false_eq_true,↓reduceIte];exact wpAny_pure (q _ _ _ _ _ _ sb S' (uf L p _) rfl)
theorem ug{n:Nat}(hn:n<2^13):∀f k,k<=13->13<=k+f->∃m,k<=m/\m<=13/\sizeAbove.go n f (2^k)=2^m/\n<2^m
 |0,k,h1,h2=>⟨k,zA3 _,h1,rfl,by rw[show k=13 by lia];exact hn⟩
 |f+1,k,h1,h2=>by
  unfold sizeAbove.go;by_cases c:2^k<=n
  .rw[zAz c,<-Nat.pow_succ]
   have:k≠13:=fun z=>by rw[z]at c;lia
   obtain⟨m,a,r⟩:=ug hn f (k+1) Zz Zz;exact⟨m,Zz,r⟩
  .rw[zAx c];exact⟨k,zA3 _,h1,rfl,Zz⟩
theorem Am{n:Nat}(hn:n<2^13):∃k,3<=k/\k<=13/\sizeAbove n=2^k/\n<2^k:=ug hn 64 3 Zz Zz
theorem An{α:Type}(L:List α):(List.range L.length).filterMap (L[·]?)=L:=by
 have e5:(List.range L.length).map (L[·]?)=L.map some:=by
  refine List.ext_getElem? fun i=>?_;rw[zAb,zAb];by_cases hi:i<L.length
  .rw[List.getElem?_range hi,zA0 hi];show some L[i]?=some (some L[i]);rw[zA0 hi]
  .rw[List.getElem?_eq_none (by rw[List.length_range];lia),List.getElem?_eq_none Zz];rfl
 have e6:=List.filterMap_map (f:=(L[·]?)) (g:=id) (l:=List.range L.length);rw[e5,List.filterMap_map]at e6;exact e6.symm.trans List.filterMap_some
theorem Ao(L:List (Int×Value)):∀l:List Nat,(∀k∈l,k<L.length)->(l.filterMap (L[·]?)).map (·.1)=l.map (fun k=>(L.map (·.1)).getD k 0)
 |[],_=>rfl
 |x::l,hl=>by
  rw[List.filterMap_cons,zA0 (hl x List.mem_cons_self)];dsimp only;rw[zAk,zAk,Ao L l fun k hk=>hl k (List.mem_cons_of_mem _ hk),zA7,zAb,zA0 (hl x List.mem_cons_self)];rfl
theorem G8{L:List (Int×Value)}{t1:SetTable}(F:jP (t1.mask+1))(nd:(L.map (·.1)).Nodup)(room:L.length<=t1.mask):∃(od ps:List Nat),laid t1.mask t1.finger t1.moves t1.led t1.plain (L.toArray.map (·.1))=some ({t1 with place:=List.toArray ps,dummies:=#[]},od.toArray) /\
  od.toArray.filterMap (L.toArray[·]?)=(od.filterMap (L[·]?)).toArray/\((od.filterMap (L[·]?)).toArray.size != L.toArray.size)=false/\(od.filterMap (L[·]?)).Perm L/\Rc {t1 with place:=List.toArray ps,dummies:=#[]} ps ((od.filterMap (L[·]?)).map (·.1)):=by
 obtain⟨sL,od,e,po,R⟩:=Eb (t:=t1) F (hs:=L.map (·.1)) nd (by rw[zA1];exact room)
 have lo:∀k∈od,k<L.length:=fun k hk=>by
  have:=List.mem_range.mp (po.mem_iff.mp hk)
  rwa [zA1]at this
 have pL:(od.filterMap (L[·]?)).Perm L:=by
  refine(po.filterMap _).trans ?_;rw[zA1,An]
 exact⟨od,sL,by rw[List.map_toArray,e],by simp,by rw[List.size_toArray,List.size_toArray,pL.length_eq];simp,pL,by rw[Ao L od lo];exact R⟩
theorem Ec{k:Nat}(h:3<=k):(2^k-1) % 2=1:=by
 have h1:2^k=2^(k-1)*2:=by
  rw[<-Nat.pow_succ];congr 1;lia
 have:0<2^(k-1):=Nat.pow_pos Zx;lia
theorem SetAt.relay{a:Addr}{L:List (Int×Value)}{o:Obj}{ep:Nat}{t:SetTable}{ps:List Nat}(S:SetAt b s.heap a L o ep t ps){n:Nat}(hn:n<2^13)(hl:L.length<=n){Q:Unit->Shared->Prop}
  (q:∀h' L' o' aE t' ps',Heap.SameBut a s.heap h'->SetAt b h' a L' o' aE t' ps'->L'.Perm L->n<=t'.mask->Q () {s with heap:=h'}):wpAny (model prog w) A (setRelay a n) Q E s:=by
 obtain⟨k,k1,k2,ek,lk⟩:=Am hn;have p8:2^3<=2^k:=Nat.pow_le_pow_right Zx k1;have pm:2^k<=2^13:=Nat.pow_le_pow_right Zx k2
 obtain⟨t1,CB⟩:∃t1:SetTable,t1={t with mask:=2^k-1,moves:=t.movedTo (2^k-1)}:=⟨_,rfl⟩
 have hm:t1.mask=2^k-1:=by rw[CB]
 have F:jP (t1.mask+1):=by
  rw[hm,show 2^k-1+1=2^k by lia];exact u6 k k1 Zz
 obtain⟨od,sL,e1,e2,e3,pL,R⟩:=G8 (L:=L) F S.rc.nd (by rw[hm];lia);unfold setRelay;refine wpAny_bind (S.state ?_);dsimp only;rw[ek,if_neg Zu]
 have er:t.relaid (L.toArray.map (·.1)) n=laid t1.mask t1.finger t1.moves t1.led t1.plain (L.toArray.map (·.1)):=by
  unfold SetTable.relaid;rw[ek,CB]
 refine zAt ?_;rw[er,e1]
 wp_delta
 dsimp only;rw[e2,e3];simp only[Bool.false_eq_true,↓reduceIte];refine wpAny_pure ?_;refine S.store (t':={t1 with place:=List.toArray sL,dummies:=#[]}) (L':=od.filterMap (L[·]?)) (ps':=sL) R (by rw[CB];exact S.led) (by rw[CB];exact S.pla) (by show t1.mask % 2=1;rw[hm];exact Ec k1) (by show t1.mask<2^14;rw[hm];lia) fun h' sb S'=>?_;exact q _ _ _ _ _ _ sb S' pL (by show n<=t1.mask;rw[hm];lia)
theorem SetAt.roomFor{a:Addr}{L:List (Int×Value)}{o:Obj}{ep:Nat}{t:SetTable}{ps:List Nat}(S:SetAt b s.heap a L o ep t ps){m:Nat}(hm:(L.length+m)*2<2^13){Q:Unit->Shared->Prop}
  (q:∀h' L' o' aE t' ps',Heap.SameBut a s.heap h'->SetAt b h' a L' o' aE t' ps'->L'.Perm L->(L.length+m)*5<t'.mask*3->Q () {s with heap:=h'}):wpAny (model prog w) A (setRoomFor a m) Q E s:=by
 unfold setRoomFor;refine wpAny_bind (S.state ?_);dsimp only
 have lp:t.place.size=L.length:=by
  have:=S.rc.len;rw[zA1]at this;rw[S.rc.tb.pl,zA8,this]
 have lf:t.fill=L.length:=by
  unfold SetTable.fill;rw[lp,S.rc.tb.no];rfl
 unfold SetTable.roomFor;rw[lf,lp];by_cases c:(L.length+m)*5≥t.mask*3
 .rw[if_pos c];dsimp only;have:=S.rc.tb.few;have h2:=S.rc.len;rw[zA1]at h2;have pos:1<=t.mask:=by have:=S.odd;lia
  exact S.relay hm Zz fun h' L' o' aE t' ps' sb S' p l=>q _ _ _ _ _ _ sb S' p Zz
 .rw[zAx c];exact zAv (q s.heap L o ep t ps (Heap.SameBut.refl a s.heap) S (.refl _) Zz)
end
section
variable{b:Bool}{prog:Program}{w:World}{A:Around}{E:Value->Shared->Prop}{s:Shared}{K:Type}[DecidableEq K]{knd:KeyKind prog w K}
def ITup(knd:KeyKind prog w K)(h:Heap)(ks:List K)(c:Addr):Prop:=IsTupleKey knd h ks c/\∃o us n,h.get? c=some o/\o.cls=.type "tuple"/\o.data=.seq us n/\∀v∈us.toList,∃i t,v=Value.int i t
theorem ITup.at{h h':Heap}{ks:List K}{c:Addr}(x:ITup knd h ks c)(k:∀o,h.get? c=some o->h'.get? c=some o):ITup knd h' ks c:=by
 obtain⟨⟨o,us,n,g,r⟩,o',NS,n',g',r'⟩:=x;exact⟨⟨o,us,n,k _ g,r⟩,o',NS,n',k _ g',r'⟩
theorem Aq{ks:List K}{c:Addr}{Q:Bool->Shared->Prop}(x:ITup knd s.heap ks c)(q:Q true s):wpAny (model prog w) A (hashByValue 8 (.ref c)) Q E s:=by
 obtain⟨hk,o,us,n,g,hc,hd,hi⟩:=x;unfold hashByValue;refine zAt (wpAny_specialOf hk.typeIs F.slot_tuple_hash.lookup ?_);show wpAny _ _ (seqItems? (.ref c)>>=_) _ _ s;refine zAt (wpAny_seqItems g hd ?_);refine zAt ?_;show wpAny _ _ (forIn us _ _) _ _ s;rw[<-Array.forIn_toList];refine wpAny_forIn_list _ (fun rest r s'=>r.1=none/\s'=s/\∀v∈rest,∃i t,v=Value.int i t) _ ?_ ?_ _ _ ⟨rfl,rfl,hi⟩
 .rintro v rest r s' ⟨hr,rfl,bP⟩;obtain⟨i,t,rfl⟩:=bP v List.mem_cons_self;refine wpAny_bind ?_;unfold hashByValue;refine wpAny_pure ?_;simp only[Bool.not_true,Bool.false_eq_true,if_false];exact wpAny_pure ⟨rfl,rfl,fun u AR=>bP u (List.mem_cons_of_mem _ AR)⟩
 .rintro⟨r1,r2⟩ s' ⟨hr,rfl,_⟩;simp only at hr;subst hr;exact wpAny_pure q
theorem wY{ks:List K}{c:Addr}{Q:Bool->Shared->Prop}(x:ITup knd s.heap ks c)(q:Q false s):wpAny (model prog w) A (ofAClassStatement 8 (.ref c)) Q E s:=by
 obtain⟨hk,o,us,n,g,hc,hd,hi⟩:=x;unfold ofAClassStatement;refine wpAny_bind (wpAny_typeOf hk.typeIs ?_);dsimp only;simp only[beq_self_eq_true,↓reduceIte];refine wpAny_bind (wpAny_pure ?_);simp only[Bool.not_true,Bool.false_eq_true,↓reduceIte];refine wpAny_bind (wpAny_seqItems g hd ?_);dsimp only;refine wpAny_bind ?_;rw[<-Array.forIn_toList];refine wpAny_forIn_list _ (fun rest r s'=>r.1=none/\s'=s/\∀v∈rest,∃i t,v=Value.int i t) _ ?_ ?_ _ _ ⟨rfl,rfl,hi⟩
 .rintro v rest r s' ⟨hr,rfl,bP⟩;obtain⟨i,t,rfl⟩:=bP v List.mem_cons_self;refine wpAny_bind ?_;unfold ofAClassStatement;refine wpAny_pure ?_;simp only[Bool.false_eq_true,if_false];exact wpAny_pure ⟨rfl,rfl,fun u AR=>bP u (List.mem_cons_of_mem _ AR)⟩
 .rintro⟨r1,r2⟩ s' ⟨hr,rfl,_⟩;simp only at hr;subst hr;exact wpAny_pure q
theorem Ar{ks:List K}{c:Addr}{Q:Bool->Shared->Prop}(x:ITup knd s.heap ks c)(ys:List Value)(hy:∀v∈ys,∃d k,v=.ref d/\ITup knd s.heap k d)(q:Q false s):wpAny (model prog w) A (searchCouldBeSeen (.ref c) ys) Q E s:=by
 unfold searchCouldBeSeen;refine zAt ?_;refine wpAny_forIn_list _ (fun rest r s'=>r.1=none/\s'=s/\∀v∈rest,∃d k,v=Value.ref d/\ITup knd s.heap k d) _ ?_ ?_ _ _ ⟨rfl,rfl,hy⟩
 .rintro v rest r s' ⟨hr,rfl,bP⟩;obtain⟨d,k,rfl,hd⟩:=bP v List.mem_cons_self;have oQ:=fun u AR=>bP u (List.mem_cons_of_mem _ AR);dsimp only;by_cases e:(c==d||(carriedByValue (.ref c)&&carriedByValue (.ref d)))=true
  .rw[zAz e];exact zAv ⟨rfl,rfl,oQ⟩
  .rw[if_neg e];refine wpAny_bind (wpAny_eqIsQuiet_tuple x.1 ?_);simp only[Bool.not_true,Bool.false_eq_true,if_false];refine wpAny_bind (wpAny_eqIsQuiet_tuple hd.1 ?_);simp only[Bool.not_true,Bool.false_eq_true,if_false];refine wpAny_bind (wY x ?_);simp only[Bool.false_eq_true,if_false];refine wpAny_bind (wY hd ?_);simp only[Bool.false_eq_true,if_false];exact wpAny_pure ⟨rfl,rfl,oQ⟩
 .rintro⟨r1,r2⟩ s' ⟨hr,rfl,_⟩;simp only at hr;subst hr;exact wpAny_pure q
theorem pJ{α:Type}(next:Nat->Nat):∀(f k:Nat) (left:List α) (out:Array α),left.length<=f->(pickOrder.go next f k left out).toList.Perm (out.toList++left)
 |0,k,left,out,h=>by
  have:left=[]:=List.length_eq_zero_iff.mp (Nat.le_zero.mp h);rw[this,zAn];exact .refl _
 |f+1,k,[],out,h=>by
  rw[zAn];exact .refl _
 |f+1,k,x::l,out,h=>by
  unfold pickOrder.go
  have hi:next k % (x::l).length<(x::l).length:=Nat.mod_lt _ (by rw[zAe];lia)
  rw[zA0 hi];dsimp only;refine(pJ next f (k+1) _ _ (by rw[List.length_eraseIdx_of_lt hi];lia)).trans ?_;rw[Array.toList_push,zAf];refine List.Perm.append_left _ ?_;rw[List.eraseIdx_eq_take_drop_succ];refine(List.perm_middle (l₁:=(x::l).take _)).symm.trans ?_;rw[<-List.drop_eq_getElem_cons hi,List.take_append_drop]
def ord(w:World)(a:Addr)(ep:Nat)(L:List (Int×Value)):List (Int×Value):=if w.params.followText "set-order"=true then(pickOrder (w.params.setOrder a ep) L.toArray).toList else L
theorem ord_perm(w:World)(a:Addr)(ep:Nat)(L:List (Int×Value)):(ord w a ep L).Perm L:=by
 unfold ord;split
 .have:=pJ (w.params.setOrder a ep) L.toArray.size 0 L.toArray.toList #[] Zy;simpa[pickOrder]using this
 .exact .refl _
def ledW(w:World):Bool:=!w.params.followText "set-order"
theorem SetAt.walk{a:Addr}{L:List (Int×Value)}{o:Obj}{ep:Nat}{t:SetTable}{ps:List Nat}(S:SetAt (ledW w) s.heap a L o ep t ps){Q:Array (Int×Value)->Shared->Prop}(q:Q (ord w a ep L).toArray s):wpAny (model prog w) A (setWalk a) Q E s:=by
 unfold setWalk;refine wpAny_bind (S.state ?_);dsimp only;unfold setsByText;refine wpAny_bind (wpAny_bind (wpAny_askSetting (wpAny_pure ?_)));have hl:=S.led;unfold ledW at hl;unfold ord at q;show wpAny _ _ (if w.params.followText "set-order"=true then _ else _) _ _ _
 cases hf:w.params.followText "set-order" with
 |true=>
  rw[hf]at q;simp only[↓reduceIte]at q⊢;refine wpAny_bind (wpAny_askSetting (wpAny_pure ?_));show Q (pickOrder (w.params.setOrder a ep) L.toArray) s;simpa using q
 |false=>
  rw[hf]at q hl;simp only[Bool.false_eq_true,↓reduceIte]at q⊢;show wpAny _ _ (if(!t.plain&&decide (L.toArray.size>1))=true then _ else _) _ _ _;rw[S.pla];simp only[Bool.not_true,Bool.false_and,Bool.false_eq_true,↓reduceIte];refine wpAny_bind ?_;show wpAny _ _ (if(!t.led&&decide (L.toArray.size>1))=true then _ else _) _ _ _;rw[hl];simp only[Bool.not_not,Bool.false_and,Bool.not_false,Bool.not_true,Bool.false_eq_true,↓reduceIte];exact wpAny_pure (wpAny_pure q)
theorem SetAt.unseen{a:Addr}{L:List (Int×Value)}{o:Obj}{ep:Nat}{t:SetTable}{ps:List Nat}(S:SetAt (ledW w) s.heap a L o ep t ps)(os:List Addr)(f:Option Addr){Q:Array (Int×Value)->Shared->Prop}(q:Q (ord w a ep L).toArray s):wpAny (model prog w) A (setWalkUnseen a os f) Q E s:=by
 unfold setWalkUnseen;refine wpAny_bind (S.state ?_);dsimp only;unfold setsByText;refine wpAny_bind (wpAny_bind (wpAny_askSetting (wpAny_pure ?_)));have hl:=S.led;unfold ledW at hl;show wpAny _ _ (if(w.params.followText "set-order"||(t.led&&t.plain)||decide (L.toArray.size<=1))=true then _ else _) _ _ _;rw[if_pos (by rw[hl,S.pla];cases w.params.followText "set-order"<;>rfl)];exact S.walk q
end
def uni(L M:List (Int×Value)):List (Int×Value):=L++M.filter fun p=>decide (p.1∉L.map (·.1))
theorem rD(M:List (Int×Value)):uni [] M=M:=by
 unfold uni;rw[List.nil_append];exact List.filter_eq_self.mpr fun p _=>decide_eq_true Zy
section
variable{prog:Program}{w:World}{A:Around}{E:Value->Shared->Prop}{s:Shared}{K:Type}[DecidableEq K]{knd:KeyKind prog w K}{U:List K->Prop}
def Gd(knd:KeyKind prog w K)(U:List K->Prop)(h:Heap)(L:List (Int×Value)):Prop:=∀p∈L,∃c ks,p=(tupleKeyHash knd ks,.ref c)/\U ks/\ITup knd h ks c
theorem Gd.at{h h':Heap}{L:List (Int×Value)}{b:Bool}{a:Addr}{M:List (Int×Value)}{o:Obj}{ep:Nat}{t:SetTable}{ps:List Nat}(g:Gd knd U h L)(S:SetAt b h a M o ep t ps)(sb:Heap.SameBut a h h'):Gd knd U h' L:=fun p hp=>by
 obtain⟨c,ks,e,u,x⟩:=g p hp;refine⟨c,ks,e,u,x.at fun o' ho=>?_⟩
 have:c≠a:=fun z=>by
  obtain⟨_,o2,us,n,g2,c2,d2,_⟩:=x;rw[z,S.get]at g2;cases g2;rw[S.ex.1]at c2;exact absurd c2 Zx
 exact(sb.2 c this).trans ho
theorem Gd.perm{h:Heap}{L M:List (Int×Value)}(g:Gd knd U h L)(p:M.Perm L):Gd knd U h M:=fun q hq=>g q (p.mem_iff.mp hq)
theorem Gd.uni{h:Heap}{L M:List (Int×Value)}(g:Gd knd U h L)(g':Gd knd U h M):Gd knd U h (uni L M):=fun q hq=>(zA6.mp hq).elim (g q) fun z=>g' q (zAq.mp z).1
theorem SetAt.merge{a c:Addr}{L M:List (Int×Value)}{o oc:Obj}{ep ec:Nat}{t tc:SetTable}{ps pc:List Nat}(S:SetAt (ledW w) s.heap a L o ep t ps)(T:SetAt (ledW w) s.heap c M oc ec tc pc)(ne:a≠c)(hu:A.units<cLine)
  (inj:∀x y,U x->U y->tupleKeyHash knd x=tupleKeyHash knd y->x=y) (gS:Gd knd U s.heap L) (gT:Gd knd U s.heap M) (room:(L.length+M.length)*2<2^13) (each:Sem Unit)
  (he:∀{Q':Unit->Shared->Prop} {s':Shared},s'.heap.get? c=some oc->Q' () s'->wpAny (model prog w) A each Q' E s') {Q:Unit->Shared->Prop}
  (q:∀h' L' o' aE t' ps',Heap.SameBut a s.heap h'->SetAt (ledW w) h' a L' o' aE t' ps'->L'.Perm (uni L M)->Q () {s with heap:=h'}):wpAny (model prog w) A (setMerge a c each) Q E s:=by
 unfold setMerge;rw[if_neg (show¬(a==c)=true by rw[beq_iff_eq];exact ne)];refine wpAny_bind (T.state ?_);dsimp only;by_cases hM:M=[]
 .subst hM;exact zAv (q s.heap L o ep t ps (Heap.SameBut.refl _ _) S (by unfold uni;rw[List.filter_nil,zAn]))
 rw[if_neg (show¬M.toArray.isEmpty=true by rw[List.isEmpty_toArray,List.isEmpty_iff];exact hM)];refine wpAny_bind (S.roomFor (m:=M.toArray.size) (by rw[zA8];exact room) fun h1 L1 o1 e1 t1 p1 js S1 eC vF=>?_);rw[zA8]at vF;have T1:SetAt (ledW w) h1 c M oc ec tc pc:=T.at ((js.2 c ne.symm).trans T.get);refine wpAny_bind (SetAt.state (s:={s with heap:=h1}) S1 ?_);dsimp only
 have l1:p1.length=L1.length:=by
  have:=S1.rc.len;rw[zA1]at this;exact this.symm
 have f1:t1.fill=L1.length:=by
  unfold SetTable.fill;rw[S1.rc.tb.no,S1.rc.tb.pl,zA8,l1];rfl
 unfold SetTable.road;rw[f1];by_cases hL:L=[]
 .subst hL;have e0:L1=[]:=List.perm_nil.mp eC;subst e0;simp only[List.length_nil,bne_self_eq_false,Bool.false_eq_true,↓reduceIte];by_cases hm:(t1.mask==tc.mask&&tc.dummies.isEmpty)=true
  .rw[if_pos hm];rw[zAc,beq_iff_eq]at hm;dsimp only;refine SetAt.store (s:={s with heap:=h1}) S1 (t':={tc with finger:=t1.finger,led:=t1.led&&tc.led,moves:=t1.moves,plain:=t1.plain&&tc.plain}) (L':=M) (ps':=pc) (T.rc.as rfl rfl rfl) (by show(t1.led&&tc.led)=_;rw[S1.led,T.led,Bool.and_self]) (by show(t1.plain&&tc.plain)=_;rw[S1.pla,T.pla];rfl) T.odd T.sml fun h2 fI S2=>?_;exact q _ _ _ _ _ _ (js.trans fI) S2 (by rw[rD])
  .rw[if_neg hm];dsimp only;obtain⟨od,sL,x1,x2,x3,pL,R⟩:=G8 (L:=M) (t1:={t1 with led:=t1.led&&tc.led,plain:=t1.plain&&tc.plain}) S1.rc.full T.rc.nd (by rw[List.length_nil]at vF;show M.length<=t1.mask;lia);dsimp only at x1;refine wpAny_bind ?_;rw[x1]
   wp_delta
   dsimp only;rw[x2,x3];simp only[Bool.false_eq_true,↓reduceIte];refine wpAny_pure ?_;refine SetAt.store (s:={s with heap:=h1}) S1 (t':={t1 with place:=List.toArray sL,dummies:=#[],led:=t1.led&&tc.led,plain:=t1.plain&&tc.plain}) (L':=od.filterMap (M[·]?)) (ps':=sL) (R.as rfl rfl rfl) (by show(t1.led&&tc.led)=_;rw[S1.led,T.led,Bool.and_self]) (by show(t1.plain&&tc.plain)=_;rw[S1.pla,T.pla];rfl) S1.odd S1.sml fun h2 fI S2=>?_;exact q _ _ _ _ _ _ (js.trans fI) S2 (by rw[rD];exact pL)
 .have ER:L1.length≠0:=fun z=>hL (List.nil_perm.mp (by rw[List.length_eq_zero_iff.mp z]at eC;exact eC));rw[if_pos (show(L1.length != 0)=true by rw[bne_iff_ne];exact ER)];dsimp only;refine wpAny_bind (SetAt.unseen (s:={s with heap:=h1}) T1 [a] (some a) ?_);have po:=ord_perm w c ec M;generalize ord w c ec M=N at po;have Ll:(N.map (·.1)).Nodup:=(po.map _).nodup_iff.mpr T.rc.nd;have lN:N.length=M.length:=po.length_eq;have gN:=gT.perm po;refine wpAny_bind ?_;rw[<-Array.forIn_toList];refine wpAny_forIn_list _ (fun rest _ s'=>∃done h' L' o' aE t' ps',N=done++rest/\s'={s with heap:=h'}/\Heap.SameBut a s.heap h'/\SetAt (ledW w) h' a L' o' aE t' ps'/\L'.Perm (uni L done)/\(L.length+M.length)*5<t'.mask*3) _ ?_ ?_ _ _ ⟨[],h1,L1,o1,e1,t1,p1,rfl,rfl,js,S1,by unfold uni;rw[List.filter_nil,zAn];exact eC,vF⟩
  .rintro p rest _ s' ⟨done,h',L',o',aE,t',ps',eN,rfl,sb,S',pm,rm⟩;obtain⟨d,ks,ep,up,xp⟩:=(gN.at S sb) p (by rw[eN];exact zB1 _ List.mem_cons_self)
   have pd:p.1∉done.map (·.1):=fun z=>by
    rw[eN,zA4,zAk,List.nodup_append]at Ll;exact Ll.2.2 _ z _ List.mem_cons_self rfl
   have le:L'.length+1<=L.length+M.length:=by
    have h1:=congrArg List.length eN;rw[zA2,zAe]at h1;have h2:=pm.length_eq;unfold uni at h2;rw[zA2]at h2;have h3:=List.length_filter_le (fun p:Int×Value=>decide (p.1∉L.map (·.1))) done;lia
   have Tc:SetAt (ledW w) h' c M oc ec tc pc:=T.at ((sb.2 c ne.symm).trans T.get);have gU:Gd knd U h' (uni L done):=(gS.at S sb).uni fun q hq=>(gN.at S sb) q (by rw[eN];exact List.mem_append_left _ hq)
   have tail:∀h2 L2 o2 e2 t2 p2,Heap.SameBut a h' h2->SetAt (ledW w) h2 a L2 o2 e2 t2 p2->L2.Perm (uni L (done++[p]))->t2.mask=t'.mask->∃done h' L' o' aE t' ps',N=done++rest/\({s with heap:=h2}:Shared)={s with heap:=h'}/\Heap.SameBut a s.heap h'/\SetAt (ledW w) h' a L' o' aE t' ps'/\L'.Perm (uni L done)/\(L.length+M.length)*5<t'.mask*3:=
    fun h2 L2 o2 e2 t2 p2 fI S2 hZ em=>⟨done++[p],h2,L2,o2,e2,t2,p2,by rw[eN,zAf];rfl,rfl,sb.trans fI,S2,hZ,by rw[em];exact rm⟩
   have us:uni L (done++[p])=if p.1∈L.map (·.1)then uni L done else uni L done++[p]:=by
    unfold uni;rw[List.filter_append];by_cases z:p.1∈L.map (·.1)
    .rw[zAz z,zBc (p:=fun p:Int×Value=>decide (p.1∉L.map (·.1))) (by rw[Zp];exact fun n=>n z),List.filter_nil,zAn]
    .rw[zAx z,zBd (p:=fun p:Int×Value=>decide (p.1∉L.map (·.1))) (zAu z),List.filter_nil,zAf]
   subst ep;dsimp only at pd us⊢;by_cases iE:tupleKeyHash knd ks∈L'.map (·.1)
   .obtain⟨y,hy,ey⟩:=zA5.mp iE;obtain⟨i,hi⟩:=List.getElem?_of_mem hy;obtain⟨d2,k2,e2,u2,x2⟩:=(gU.perm pm) y hy;subst e2;have ek:k2=ks:=inj _ _ u2 up ey;subst ek;refine zAt (wpAny_holding (SetAt.add_old (s:={s with heap:=h'}) S' hi (fun q'=>wpAny_eqBool_tuple hu x2.1 xp.1 (by rw[zAu rfl];exact q')) (fun _ {A Q' E'} ys rV q'=>Ar xp ys (fun v hv=>?_) q') ?_))
    .obtain⟨z,hz,rfl⟩:=zA5.mp (rV v hv);obtain⟨d3,k3,e3,_,x3⟩:=(gU.perm pm) z hz;subst e3;exact⟨d3,k3,rfl,x3⟩
    .refine wpAny_bind (he (s':={s with heap:=h'}) Tc.get ?_);refine wpAny_bind (SetAt.state (s:={s with heap:=h'}) Tc ?_);dsimp only;simp only[bne_self_eq_false,Bool.false_eq_true,↓reduceIte]
     have NT:tupleKeyHash knd k2∈L.map (·.1):=by
      have:=(pm.map (·.1)).mem_iff.mp iE;unfold uni at this;rw[zA4]at this;rcases zA6.mp this with z|z
      .exact z
      .obtain⟨r,hr,er⟩:=zA5.mp z;exact absurd (zA5.mpr ⟨r,(zAq.mp hr).1,er⟩) pd
     rw[zAz NT]at us;refine zAv (tail h' L' o' aE t' ps' (Heap.SameBut.refl _ _) S' (by rw[us];exact pm) rfl)
   .refine wpAny_bind (wpAny_holding (SetAt.add_new (s:={s with heap:=h'}) S' iE Zz (fun q'=>Aq xp q') fun h2 L2 o2 e2 t2 p2 fI S2 hZ em=>?_));have Lm:SetAt (ledW w) h2 c M oc ec tc pc:=Tc.at ((fI.2 c ne.symm).trans Tc.get);refine wpAny_bind (he (s':={s with heap:=h2}) Lm.get ?_);refine wpAny_bind (SetAt.state (s:={s with heap:=h2}) Lm ?_);dsimp only;simp only[bne_self_eq_false,Bool.false_eq_true,↓reduceIte];have nL:tupleKeyHash knd ks∉L.map (·.1):=fun z=>iE ((pm.map (·.1)).mem_iff.mpr (by unfold uni;rw[zA4];exact List.mem_append_left _ z));rw[if_neg nL]at us;refine wpAny_pure (tail h2 L2 o2 e2 t2 p2 fI S2 ?_ em);rw[us];exact hZ.trans ((pm.cons _).trans (List.perm_append_singleton _ _).symm)
  .rintro _ s' ⟨done,h',L',o',aE,t',ps',eN,rfl,sb,S',pm,rm⟩;rw[zAn]at eN;subst eN;refine zAv (q _ _ _ _ _ _ sb S' (pm.trans ?_));unfold uni;exact(po.filter _).append_left _
end
section
variable{prog:Program}{w:World}{A:Around}{E:Value->Shared->Prop}{s:Shared}{K:Type}[DecidableEq K]{knd:KeyKind prog w K}{U:List K->Prop}
def pairs(es:Array DictEntry):List (Int×Value):=es.toList.map fun e=>(e.hash,e.key)
theorem Av{d:Addr}{Q:Bool->Shared->Prop}(hT:s.TypeIs (.ref d) "dict")(q:Q false s):wpAny (model prog w) A (Builtin.Frozenset.isAnySet (.ref d)) Q E s:=by
 unfold Builtin.Frozenset.isAnySet;refine zAt (wpAny_isInstance hT F.sub_dict_set ?_);exact wpAny_isInstance hT F.sub_dict_frozenset q
theorem rE{d:Addr}{Q:Bool->Shared->Prop}(hT:s.TypeIs (.ref d) "set")(q:Q true s):wpAny (model prog w) A (Builtin.Frozenset.isAnySet (.ref d)) Q E s:=by
 unfold Builtin.Frozenset.isAnySet;exact zAt (wpAny_isInstance hT sub_set_self (zAv q))
theorem SetAt.typ{b:Bool}{a:Addr}{L:List (Int×Value)}{o:Obj}{ep:Nat}{t:SetTable}{ps:List Nat}(S:SetAt b s.heap a L o ep t ps):s.TypeIs (.ref a) "set":=⟨o,S.get,S.ex.1⟩
theorem SetAt.fill{a d:Addr}{o od:Obj}{ep ed:Nat}{t:SetTable}{ps:List Nat}{es:Array DictEntry}{id:String}(S:SetAt (ledW w) s.heap a [] o ep t ps)(hd:s.heap.get? d=some od)(ex:od.ExactDict)(dat:od.data=.dict es ed)(lo:(d==sysModules)=false)(ne:a≠d)
  (g:Gd knd U s.heap (pairs es)) (nd:((pairs es).map (·.1)).Nodup) (room:es.size*2<2^13) {Q:Unit->Shared->Prop}
  (q:∀h' L' o' aE t' ps',Heap.SameBut a s.heap h'->SetAt (ledW w) h' a L' o' aE t' ps'->L'.Perm (pairs es)->Q () {s with heap:=h'}):wpAny (model prog w) A (Builtin.Frozenset.updateFrom id a (.ref d)) Q E s:=by
 have hT:s.TypeIs (.ref d) "dict":=⟨od,hd,ex.1⟩
 unfold Builtin.Frozenset.updateFrom;refine wpAny_bind (Av hT ?_);simp only[Bool.false_eq_true,↓reduceIte];refine wpAny_bind (wpAny_typeOf hT ?_);simp only[beq_self_eq_true,↓reduceIte];refine wpAny_bind (wpAny_rule ?_);refine wpAny_bind (m:=Builtin.Frozenset.addrOf (.ref d)) (wpAny_pure ?_);rw[lo];simp only[Bool.false_eq_true,↓reduceIte];refine wpAny_bind (wpAny_dictEpoch hd dat ?_);refine wpAny_bind (wpAny_dictEntries hd dat ?_);refine wpAny_bind (S.roomFor (m:=es.size) (by rw[List.length_nil,Nat.zero_add];exact room) fun h1 L1 o1 e1 t1 p1 js S1 eC vF=>?_);have e0:L1=[]:=List.perm_nil.mp eC;subst e0;rw[List.length_nil,Nat.zero_add]at vF;have kd:∀{h'},Heap.SameBut a s.heap h'->h'.get? d=some od:=fun sb=>(sb.2 d ne.symm).trans hd;refine wpAny_bind (wpAny_dictEntries (s:={s with heap:=h1}) (kd js) dat ?_);refine wpAny_bind ?_;rw[Std.Legacy.Range.forIn_eq_forIn_range'];simp only[Std.Legacy.Range.size,Nat.sub_zero,Nat.add_sub_cancel,Nat.div_one];refine wpAny_forIn_list _ (fun rest _ s'=>∃i h' L' o' aE t' ps',rest=List.range' i (es.size-i)/\i<=es.size/\s'={s with heap:=h'}/\Heap.SameBut a s.heap h'/\SetAt (ledW w) h' a L' o' aE t' ps'/\L'.Perm ((pairs es).take i)/\es.size*5<t'.mask*3) _ ?_ ?_ _ _ ⟨0,h1,[],o1,e1,t1,p1,rfl,zAp _,rfl,js,S1,.refl _,vF⟩
 .rintro j rest r s' ⟨i,h',L',o',aE,t',ps',er,hi,rfl,sb,S',pm,rm⟩
  have lt:i<es.size:=by
   rcases Nat.lt_or_ge i es.size with z|z
   .exact z
   .rw[Nat.sub_eq_zero_of_le z]at er;cases er
  obtain⟨ej,er⟩:j=i/\rest=List.range' (i+1) (es.size-(i+1)):=by
   rw[show es.size-i=(es.size-(i+1))+1 by lia,List.range'_succ]at er;exact⟨(List.cons.inj er).1,(List.cons.inj er).2⟩
  subst ej;refine wpAny_bind (wpAny_dictEntries (s:={s with heap:=h'}) (kd sb) dat ?_);have ee:es[j]?=some es[j]:=Array.getElem?_eq_getElem lt;rw[ee];dsimp only;have lp:(pairs es).length=es.size:=by unfold pairs;rw[zA1,zA9]
  have ep:(pairs es)[j]?=some (es[j].hash,es[j].key):=by
   unfold pairs;rw[zAb,Array.getElem?_toList,ee];rfl
  obtain⟨c,ks,ec,up,xp⟩:=(g.at S sb) _ (zB4 ep);have tk:(pairs es).take (j+1)=(pairs es).take j++[(es[j].hash,es[j].key)]:=by rw[zAj,ep];rfl
  have nh:es[j].hash∉L'.map (·.1):=fun z=>by
   have z:=(pm.map (·.1)).mem_iff.mp z;have nd2:(((pairs es).take (j+1)).map (·.1)).Nodup:=nd.sublist ((List.take_sublist _ _).map _);rw[tk,zA4,List.nodup_append]at nd2;exact nd2.2.2 _ z _ (List.mem_singleton.mpr rfl) rfl
  have e1:es[j].hash=tupleKeyHash knd ks:=congrArg Prod.fst ec;have e2:es[j].key=.ref c:=congrArg Prod.snd ec;have ll:L'.length=j:=by rw[pm.length_eq,zAd,lp];lia
  rw[e2];refine wpAny_bind (wpAny_holding (SetAt.add_new (s:={s with heap:=h'}) S' nh Zz (fun q'=>Aq xp q') fun h2 L2 o2 AF t2 p2 fI S2 hZ em=>?_));refine wpAny_bind (wpAny_dictEpoch (s:={s with heap:=h2}) (kd (sb.trans fI)) dat ?_);simp only[bne_self_eq_false,Bool.false_eq_true,↓reduceIte];refine wpAny_pure ⟨j+1,h2,L2,o2,AF,t2,p2,er,lt,rfl,sb.trans fI,S2,?_,by rw[em];exact rm⟩;rw[tk,e2];exact hZ.trans ((pm.cons _).trans (List.perm_append_singleton _ _).symm)
 .rintro r s' ⟨i,h',L',o',aE,t',ps',er,hi,rfl,sb,S',pm,rm⟩
  have:i=es.size:=by
   have:=congrArg List.length er;rw[List.length_range',List.length_nil]at this;lia
  subst this;rw[List.take_of_length_le (by unfold pairs;rw[zA1,zA9];exact zA3 _)]at pm;exact zAv (q _ _ _ _ _ _ sb S' pm)
end
section
variable{prog:Program}{w:World}{A:Around}{E:Value->Shared->Prop}{s:Shared}{K:Type}[DecidableEq K]{knd:KeyKind prog w K}{U:List K->Prop}
def emp(w:World):Obj:={cls:=.type "set",dict:=none,data:=.set #[] 0 (.fresh 0 0 (ledW w))}
theorem Aw(h:Heap):SetAt (ledW w) (h.push (emp w)) h.objs.size [] (emp w) 0 (.fresh 0 0 (ledW w)) []:=
 ⟨Heap.get?_push_size _ rfl,⟨rfl,rfl,rfl⟩,rfl,⟨⟨rfl,rfl,List.Pairwise.nil,fun j hj=>(by cases hj),Nat.zero_le _⟩,u6 3 Zx Zx,rfl,List.nodup_nil,fun i j h hi=>(by simp at hi)⟩,rfl,rfl,by show(7:Nat) % 2=1;decide,by show(7:Nat)<2^14;decide⟩
theorem wZ{Q:Value->Shared->Prop}(q:Q (.ref s.heap.objs.size) {s with heap:=s.heap.push (emp w)}):wpAny (model prog w) A (newSet (.type "set")) Q E s:=by
 unfold newSet setsByText;refine wpAny_bind (wpAny_bind (wpAny_askSetting (wpAny_pure ?_)));dsimp only;simp only[newObj];exact wpAny_bind (wpAny_alloc (wpAny_pure q))
theorem Ax(a:Value){Q:Value->Shared->Prop}(q:Q (.ref s.heap.objs.size) {s with heap:=s.heap.push (emp w)}):codeAny (model prog w) A (.call (.builtin "set.__new__") ⟨[.type "set",a],[]⟩) (wants Q E) s:=by
 refine codeAny_of_tree ?_;refine wpAny_bind (m:=checkBuiltinCall "set.__new__" _) (wpAny_of_eq (F.newCall_set_1 a) (wpAny_pure ⟨plainId_quiet F.plain_set_new _,codeAny_builtin F.entry_set_new ?_⟩));rw[Around.under_plainId F.plain_set_new _];unfold Builtin.«set.__new__» Builtin.Frozenset.newClass;have mI:=sub_set_self;dsimp only;generalize hN:newSet=N
 wp_walk
 subst hN;exact wZ (zAv q)
theorem Ay{a d:Addr}{o od:Obj}{ed:Nat}{es:Array DictEntry}(S:SetAt (ledW w) s.heap a [] o 0 (.fresh 0 0 (ledW w)) [])(hd:s.heap.get? d=some od)(ex:od.ExactDict)(dat:od.data=.dict es ed)(lo:(d==sysModules)=false)(ne:a≠d)
  (g:Gd knd U s.heap (pairs es)) (nd:((pairs es).map (·.1)).Nodup) (room:es.size*2<2^13) {P:Fin->Shared->Prop}
  (q:∀h' L' o' aE t' ps',Heap.SameBut a s.heap h'->SetAt (ledW w) h' a L' o' aE t' ps'->L'.Perm (pairs es)->P (.done (.ret .none)) {s with heap:=h'}):wpAny (model prog w) A (Builtin.«set.__init__» ⟨[.ref a,.ref d],[]⟩) P E s:=by
 unfold Builtin.«set.__init__» noKeywords;generalize hU:Builtin.Frozenset.updateFrom=UF;generalize hV:setUsed=VF;have hT:=S.typ
 wp_walk
 subst hU hV;unfold setUsed;refine wpAny_bind (S.state (wpAny_pure ?_));dsimp only;rw[show((SetTable.fresh 0 0 (ledW w)).fill != 0)=false from rfl];simp only[Bool.false_eq_true,↓reduceIte];exact wpAny_bind (S.fill hd ex dat lo ne g nd room fun h' L' o' aE t' ps' sb S' pm=>wpAny_pure (q h' L' o' aE t' ps' sb S' pm))
theorem call_set{d:Addr}{od:Obj}{ed:Nat}{es:Array DictEntry}(hd:s.heap.get? d=some od)(ex:od.ExactDict)(dat:od.data=.dict es ed)(lo:(d==sysModules)=false)
  (g:Gd knd U s.heap (pairs es)) (nd:((pairs es).map (·.1)).Nodup) (room:es.size*2<2^13) {Q:Value->Shared->Prop}
  (q:∀h' L' o' aE t' ps',(∀b o,s.heap.get? b=some o->h'.get? b=some o)->SetAt (ledW w) h' s.heap.objs.size L' o' aE t' ps'->L'.Perm (pairs es)->Q (.ref s.heap.objs.size) {s with heap:=h'}):wpAny (model prog w) A (call (.type "set") [.ref d]) Q E s:=by
 obtain⟨c,tl,NU⟩:=F.called_set.mro;have Ln:=F.called_set.made;have mI:=F.called_set.sub;refine wpAny_call (codeAny_of_tree ?_);refine zAv (show _/\_ from⟨Code.quiet_builtin _ Zv,codeAny_builtin F.entry_type_call ?_⟩);rw[Around.under_plain (weight_type_call_type "set" [.ref d] []) rfl];have h1:=F.called_set.notType;have h2:=F.called_set.canCreate;have Tq:=F.typeCall_set_1 (.ref d)
 repeat (any_goals (first|assumption|wp_step))
 refine codeAny_mono (Ax (.ref d) (E:=E) (Q:=fun v s1=>v=.ref s.heap.objs.size/\s1={s with heap:=s.heap.push (emp w)}) ⟨rfl,rfl⟩) fun r s1 hr=>?_
 cases r with
 |error e=>exact hr
 |ok fl=>
  cases fl with
  |ret obj=>
   obtain⟨rfl,rfl⟩:=hr;have S:=Aw (w:=w) s.heap
   have hT:Shared.TypeIs {s with heap:=s.heap.push (emp w)} (.ref s.heap.objs.size) "set":=⟨_,S.get,rfl⟩
   have Tt:=F.called_set.init.lookup;have Tu:=F.called_set.init.bind (.ref s.heap.objs.size)
   repeat (any_goals (first|assumption|wp_step))
   refine codeAny_mono (codeAny_call_builtin (R:=wants (fun r s2=>r=.none/\Q (.ref s.heap.objs.size) s2) E) F.called_set.init.plain F.entry_set_init (check_set_init_1 hT ?_)) fun r2 s2 ES=>?_
   .have up:∀b o,s.heap.get? b=some o->(s.heap.push (emp w)).get? b=some o:=fun b o e=>zAw _ e;refine Ay (knd:=knd) (U:=U) (s:={s with heap:=s.heap.push (emp w)}) S (up _ _ hd) ex dat lo (Nat.ne_of_gt (zB0 hd)) (fun p hp=>?_) nd room fun h' L' o' aE t' ps' sb S' pm=>?_
    .obtain⟨c,ks,e,u,x⟩:=g p hp;exact⟨c,ks,e,u,x.at fun o e=>up _ _ e⟩
    .exact⟨rfl,q h' L' o' aE t' ps' (fun b o e=>(sb.2 b (zB8 (zB0 e))).trans (up _ _ e)) S' pm⟩
   .cases r2 with
    |error e=>exact ES
    |ok fl2=>
     cases fl2 with
     |ret r=>
      obtain⟨rfl,hq⟩:=ES
      repeat (any_goals (first|assumption|wp_step))
     |_=>exact ES.elim
  |_=>exact hr.elim
end
theorem Az:entryFor table "set.__or__"=some Builtin.«frozenset.__or__»:=entryFor_alias (id':="frozenset.__or__") (by rw[fastTable_eq_tree];kernel_rfl) (by first|rfl|decide +kernel) Zv (by rw[fastTable_eq_tree];kernel_rfl)
section
variable{prog:Program}{w:World}{A:Around}{E:Value->Shared->Prop}{s:Shared}{K:Type}[DecidableEq K]{knd:KeyKind prog w K}{U:List K->Prop}
theorem Gd.push{h:Heap}{L:List (Int×Value)}(g:Gd knd U h L)(o:Obj):Gd knd U (h.push o) L:=fun p hp=>by
 obtain⟨c,ks,e,u,x⟩:=g p hp;exact⟨c,ks,e,u,x.at fun o e=>zAw _ e⟩
theorem or_set{a c:Addr}{L M:List (Int×Value)}{oa oc:Obj}{ea ec:Nat}{ta tc:SetTable}{pa pc:List Nat}(S:SetAt (ledW w) s.heap a L oa ea ta pa)(T:SetAt (ledW w) s.heap c M oc ec tc pc)(ne:a≠c)(hu:A.in1.units<cLine)
  (inj:∀x y,U x->U y->tupleKeyHash knd x=tupleKeyHash knd y->x=y) (gS:Gd knd U s.heap L) (gT:Gd knd U s.heap M) (room:(L.length+M.length)*2<2^13) {Q:Value->Shared->Prop}
  (q:∀h' L' o' aE t' ps',(∀b o,s.heap.get? b=some o->h'.get? b=some o)->SetAt (ledW w) h' s.heap.objs.size L' o' aE t' ps'->L'.Perm (uni L M)->Q (.ref s.heap.objs.size) {s with heap:=h'}):wpAny (model prog w) A (binaryOp .BitOr (.ref a) (.ref c)) Q E s:=by
 refine wpAny_binaryOp_same (op:=.BitOr) S.typ T.typ F.fills_set_or F.slot_set_or (wpAny_call_entry F.slot_set_or S.typ Az ?_ (F.args_set_or_2 _ _));have up:∀b o,s.heap.get? b=some o->(s.heap.push (emp w)).get? b=some o:=fun b o e=>zAw _ e;have Ep:=Aw (w:=w) s.heap
 obtain⟨N,eN⟩:∃N,N=s.heap.objs.size:=⟨_,rfl⟩
 obtain⟨g,eg⟩:∃g,g=s.heap.push (emp w):=⟨_,rfl⟩
 have na:N≠a:=by rw[eN];exact Nat.ne_of_gt (zB0 S.get)
 have nc:N≠c:=by rw[eN];exact Nat.ne_of_gt (zB0 T.get)
 unfold Builtin.«frozenset.__or__»
 wp_delta
 refine wpAny_bind (m:=Builtin.Frozenset.slot1 "__or__" _) (wpAny_bind (wpAny_pure (wpAny_pure ?_)));dsimp only;simp only[Bool.false_eq_true,↓reduceIte];refine wpAny_bind (m:=_ <&&> _) (wpAny_bind (rE S.typ ?_));refine rE T.typ ?_;simp only[Bool.not_true,Bool.false_eq_true,↓reduceIte];refine wpAny_bind (m:=Builtin.Frozenset.addrOf (.ref a)) (wpAny_pure ?_);refine wpAny_bind ?_
 wp_delta
 refine wpAny_bind ?_;unfold Builtin.Frozenset.copyOf;refine wpAny_bind ?_;unfold Builtin.Frozenset.baseOf;refine wpAny_bind (wpAny_isInstance S.typ sub_set_self ?_);simp only[↓reduceIte];refine wpAny_pure (wpAny_bind (wZ ?_));refine wpAny_bind (m:=Builtin.Frozenset.addrOf (.ref _)) (wpAny_pure ?_);rw[<-eN,<-eg];rw[<-eN,<-eg]at Ep;rw[<-eg]at up;have S1:SetAt (ledW w) g a L oa ea ta pa:=S.at (up _ _ S.get);have T1:SetAt (ledW w) g c M oc ec tc pc:=T.at (up _ _ T.get);have Lo:Gd knd U g L:=by rw[eg];exact gS.push _
 have NV:Gd knd U g M:=by rw[eg];exact gT.push _
 refine wpAny_bind (SetAt.merge (s:={s with heap:=g}) Ep S1 na hu inj (fun p hp=>(by cases hp)) Lo (by rw[List.length_nil];lia) _ (fun _ q'=>wpAny_pure q') fun h1 L1 o1 e1 t1 p1 js R1 eC=>?_);rw[rD]at eC;refine wpAny_pure ?_;rw[if_pos (show(Value.ref c != Value.ref a)=true by rw[bne_iff_ne];exact fun z=>ne (by injection z with z;exact z.symm))];refine wpAny_bind (m:=Builtin.Frozenset.addrOf (.ref N)) (wpAny_pure (wpAny_bind (wpAny_holding ?_)));unfold Builtin.Frozenset.updateFrom;have T2:SetAt (ledW w) h1 c M oc ec tc pc:=T1.at ((js.2 c nc.symm).trans T1.get);refine wpAny_bind (rE (s:={s with heap:=h1}) T2.typ ?_);simp only[↓reduceIte];refine wpAny_bind (m:=Builtin.Frozenset.addrOf (.ref c)) (wpAny_pure ?_);unfold Builtin.Frozenset.merge;refine wpAny_bind ?_;unfold setEpoch;refine wpAny_bind (SetAt.state (s:={s with heap:=h1}) T2 (wpAny_pure ?_));refine SetAt.merge (s:={s with heap:=h1}) R1 T2 nc hu inj ((Lo.at Ep js).perm eC) (NV.at Ep js) (by rw[eC.length_eq];exact room) _ (fun{Q' s'} gc q'=>?_) fun h2 L2 o2 e2 t2 p2 fI R2 hZ=>?_
 .unfold Builtin.Frozenset.unchanged setEpoch;refine wpAny_bind (wpAny_bind (SetAt.state (T2.at gc) (wpAny_pure ?_)));simp only[bne_self_eq_false,Bool.false_eq_true,↓reduceIte];exact wpAny_pure q'
 .refine zAv (zAv ⟨_,rfl,(fun z=>by cases z),?_⟩);rw[eN]at R2⊢;refine q h2 L2 o2 e2 t2 p2 (fun b o e=>?_) R2 (hZ.trans ?_)
  .have nb:b≠N:=by rw[eN];exact zB8 (zB0 e)
   exact(fI.2 b nb).trans ((js.2 b nb).trans (up _ _ e))
  .unfold uni;refine eC.append ?_
   have:(fun p:Int×Value=>decide (p.1∉L1.map (·.1)))=fun p=>decide (p.1∉L.map (·.1)):=funext fun p=>by
    congr 1;rw[(eC.map (·.1)).mem_iff]
   rw[this]
end
end St
namespace L2
open PySem PySem.Spec PyProof.Rows
section
variable{prog:Program}{w:World}{A:Around}{E:Value->Shared->Prop}{s:Shared}{d it:Addr}{o:Obj}{es:Array DictEntry}{ep i:Nat}
theorem Ed{R:Value->Shared->Prop}(n1:(d==sysModules)=false)(g1:s.heap.get? d=some o)(g2:o.ExactDict)(g3:o.data=.dict es ep)
  (q:R (.ref s.heap.objs.size) {s with heap:=s.heap.push {cls:=.type "dict_keyiterator",data:=.fields #[.ref d,.int 0 0,.int es.size 0,.int ep 0]}}):wpAny (model prog w) A (pyIter (.ref d)) R E s:=by
 have ty:s.TypeIs (.ref d) "dict":=⟨o,g1,g2.1⟩
 refine wpAny_pyIter_slot ty F.slot_dict_iter (wpAny_call_entry F.slot_dict_iter ty F.entry_dict_iter ?_ (F.args_dict_iter_1 _));unfold Builtin.«dict.__iter__»;refine zAt ?_;unfold Builtin.Dict.dictSlotNone;refine zAt (wpAny_notOrdered_dict ty (show wpAny _ _ (pure (Value.ref d)) _ _ s from zAv ?_));show wpAny (model prog w) _ (Builtin.Dict.showsAll d>>=_) _ E s;unfold Builtin.Dict.showsAll;rw[n1,zAx zAg];refine zAt (zAv (zAt (wpAny_dictEntries g1 g3 (zAt (wpAny_dictEpoch g1 g3 ?_)))));refine zAt (wpAny_newObj_type (zAv ⟨_,rfl,"dict_keyiterator",_,⟨_,zB2 _ rfl,rfl⟩,F.slot_dict_keyiterator_next.lookup,?_⟩));exact q
theorem Ef{e:DictEntry}{R:Option Value->Shared->Prop}(st:s.heap.IsKeyIter it d i es.size ep)(g1:s.heap.get? d=some o)(g3:o.data=.dict es ep)(hx:es[i]?=some e)
  (q:∀h',h'.IsKeyIter it d (i+1) es.size ep->Heap.SameBut it s.heap h'->R (some e.key) {s with heap:=h'}):wpAny (model prog w) A (pyNext (.ref it)) R E s:=by
 obtain⟨oi,i1,i2,i3⟩:=id st;have hb:i<es.size:=(Array.getElem?_eq_some_iff.mp hx).1;unfold pyNext;refine zAt (wpAny_attempt (wpAny_callSpecial?_slot (name:=Str.ofString "__next__") st.typeIs F.slot_dict_keyiterator_next (wpAny_call_entry F.slot_dict_keyiterator_next st.typeIs F.entry_dict_keyiterator_next ?_ (F.args_dict_keyiterator_next_1 _))));refine zAt (zAv (zAt (zAt ?_)));refine zAt (wpAny_typeNameOfWhole_keyiter st.typeIs (zAv (zAt (wpAny_fieldsOf i1 i3 ?_))));have ow:Builtin.Dict_items.ownsTuple "dict_keyiterator"=false:=by decide
 simp only[ow,Bool.false_eq_true,if_false];show wpAny (model prog w) _ (if(Value.ref d==Value.none)=true then _ else _) _ _ s;rw[if_neg (show¬(Value.ref d==Value.none)=true from zAg)];refine wpAny_bind (wpAny_pure (wpAny_bind (wpAny_dictEntries g1 g3 ?_)));rw[if_neg Zy];refine wpAny_bind (wpAny_pure (wpAny_bind (wpAny_dictEpoch g1 g3 ?_)));rw[if_neg Zy];refine wpAny_pure ?_;simp only[show¬((i:Int)<0)from by lia,if_false,Int.toNat_natCast,hx];refine wpAny_bind (wpAny_bind (wpAny_typeNameOfWhole_keyiter st.typeIs (wpAny_pure ?_)));refine wpAny_bind (wpAny_isOneOf_keyiter st.typeIs ?_);show wpAny (model prog w) _ (setField (.ref it) 1 (rawInt ((i:Int)+1))>>=_) _ _ s;refine wpAny_bind (wpAny_setField i1 i3 Zy ?_)
 have Zq:(s.heap.update it (Obj.mapFields (·.setIfInBounds 1 (rawInt ((i:Int)+1))))).IsKeyIter it d (i+1) es.size ep:=
  ⟨_,Heap.get?_update_self _ i1 (Obj.isFreed_of_fields (Obj.data_mapFields i3 _)),(Obj.cls_mapFields ..).trans i2,by rw[Obj.data_mapFields i3];simp[rawInt]⟩
 refine zAt (wpAny_holding (zAt (wpAny_isOneOf_keyiter (s:={s with heap:=s.heap.update it (Obj.mapFields (·.setIfInBounds 1 (rawInt ((i:Int)+1))))}) Zq.typeIs ?_)));show wpAny (model prog w) _ (pure e.key) _ _ _;exact zAv (zAv ⟨_,rfl,zAv (q _ Zq (Heap.SameBut.update ..))⟩)
theorem Ht{R:Option Value->Shared->Prop}(hh:A.handled=none)(st:s.heap.IsKeyIter it d i es.size ep)(g1:s.heap.get? d=some o)(g3:o.data=.dict es ep)(hx:es.size<=i)
  (q:∀h',Heap.ExtBut it s.heap h'->R none {s with heap:=h'}):wpAny (model prog w) A (pyNext (.ref it)) R E s:=by
 obtain⟨oi,i1,i2,i3⟩:=id st;unfold pyNext;refine zAt (wpAny_attempt (wpAny_callSpecial?_slot (name:=Str.ofString "__next__") st.typeIs F.slot_dict_keyiterator_next (wpAny_call_entry F.slot_dict_keyiterator_next st.typeIs F.entry_dict_keyiterator_next ?_ (F.args_dict_keyiterator_next_1 _))));refine zAt (zAv (zAt (zAt ?_)));refine zAt (wpAny_typeNameOfWhole_keyiter st.typeIs (zAv (zAt (wpAny_fieldsOf i1 i3 ?_))));have ow:Builtin.Dict_items.ownsTuple "dict_keyiterator"=false:=by decide
 simp only[ow,Bool.false_eq_true,if_false];show wpAny (model prog w) _ (if(Value.ref d==Value.none)=true then _ else _) _ _ s;rw[if_neg (show¬(Value.ref d==Value.none)=true from zAg)];refine wpAny_bind (wpAny_pure (wpAny_bind (wpAny_dictEntries g1 g3 ?_)));rw[if_neg Zy];refine wpAny_bind (wpAny_pure (wpAny_bind (wpAny_dictEpoch g1 g3 ?_)));rw[if_neg Zy];refine wpAny_pure ?_;simp only[show¬((i:Int)<0)from by lia,if_false,Int.toNat_natCast,Array.getElem?_eq_none hx];refine wpAny_bind (wpAny_bind (wpAny_typeNameOfWhole_keyiter st.typeIs (wpAny_pure ?_)));show wpAny (model prog w) _ (setField (.ref it) 0 .none>>=_) _ _ s;refine wpAny_bind (wpAny_setField i1 i3 Zy ?_);show wpAny (model prog w) _ (newExc (.type "StopIteration") []>>=_) _ _ _;refine wpAny_bind ?_;simp only[newExc,newTuple];refine wpAny_bind (wpAny_newObj_type (wpAny_bind (m:=firstArgMember _ _) (wpAny_of_eq (a:=Value.none) (by first|rfl | (simp only[firstArgMember];rfl)) ?_)) (by size_fits));refine wpAny_newObj_type ?_ (by size_fits);simp only[raiseNew];refine wpAny_bind (wpAny_handled ?_);rw[show A.in1.handled=none from hh];refine wpAny_bind (wpAny_pure (wpAny_throw ?_));refine wpAny_bind (wpAny_isInstance (b:=true) (T:="StopIteration") ⟨_,Heap.get?_push_size _ rfl,rfl⟩ isSubtype_stop ?_);exact wpAny_pure (q _ (((Heap.SameBut.update ..).extBut.push _).push _))
end
def Itd(d:Addr)(o:Obj)(Zs:List (List Key×V)):It:=
 ⟨fun i H=>H d=some (.frz o (.dT Zs))/\i<Zs.length,fun i H x H'=>H'=H/\∃b k v,x=.ref b/\Zs[i]?=some (k,v)/\H b=some (.tup (k.map kV)),fun i H=>H d=some (.frz o (.dT Zs))/\Zs.length<=i⟩
theorem KT.get{H:Hp}:∀{Zs:List (List Key×V)} {xs:List (List Key×Addr×Value)} {i:Nat} {k:List Key} {v:V},KT H Zs xs->Zs[i]?=some (k,v)->∃b u,xs[i]?=some (k,b,u)/\H b=some (.tup (k.map kV))
 |_,_,_,_,_,.nil,e=>by simp at e
 |p::_,q::_,0,k,v,.cons r t,e=>by
  rw[List.getElem?_cons_zero]at e;cases e;obtain⟨h1,h2,_⟩:=r;refine⟨q.2.1,q.2.2,?_,h2⟩;rw[List.getElem?_cons_zero];show some q=some (k,q.2.1,q.2.2);rw[show k=q.1 from h1]
 |p::_,q::_,i+1,k,v,.cons r t,e=>by
  rw[List.getElem?_cons_succ]at e;obtain⟨b,u,e1,e2⟩:=KT.get t e;exact⟨b,u,by rw[List.getElem?_cons_succ];exact e1,e2⟩
theorem KT.len{H:Hp}:∀{Zs:List (List Key×V)} {xs:List (List Key×Addr×Value)},KT H Zs xs->xs.length=Zs.length
 |_,_,.nil=>rfl
 |_,_,.cons _ t=>by rw[zAe,zAe,KT.len t]
theorem Inv.frzT{X:Cx}{Zt:List (Addr×Obj)}{σ:St}{H:Hp}{s:Shared}{d:Addr}{o:Obj}{Zs:List (List Key×V)}(I:Inv X Zt σ H s)(e:H d=some (.frz o (.dT Zs))):s.heap.get? d=some o/\o.ExactDict/\(d==sysModules)=false /\
  ∃es ep xs,o.data=.dict es ep/\KT H Zs xs/\es.toList=xs.map (entryOfKey (tupleKind (aX X.prog X.w))):=by
 obtain⟨e0,_,hs,xs,kt,o',es,ep,g1,g2,g3,g4,_⟩:=(show ObjOk X.prog X.w H s.heap d (.frz o (.dT Zs))from I.hok _ _ e)
 rw[e0]at g1;cases g1;exact⟨e0,g2,hs,es,ep,xs,g3,kt,g4⟩
theorem pK{P:Program}{w:World}{H:Hp}{Zs:List (List Key×V)}{xs:List (List Key×Addr×Value)}{es:Array DictEntry}(kt:KT H Zs xs)(e:es.toList=xs.map (entryOfKey (tupleKind (aX P w)))):es.size=Zs.length:=by
 rw[<-zA9,e,zA1,kt.len]
theorem yE{P:Program}{w:World}{K:Frag}{tg:Expr}(d it:Addr)(o:Obj)(Zs:List (List Key×V))(es:Array DictEntry)(ep:Nat)(od:o.data=.dict es ep)(hz:es.size=Zs.length):Turn P w K tg (Itd d o Zs) [it] it (fun i h=>h.IsKeyIter it d i es.size ep) where
 mem:=by simp
 obj:=fun i h st b hb=>by
  have e:b=it:=by simpa using hb
  subst e;obtain⟨o,e,c,d⟩:=st;exact⟨o,e,fun v z=>by rw[d]at z;cases z⟩
 keep:=fun i h h' st k=>st.at fun o e=>k it Zy o e
 item:=by
  intro X hP hw hK hc i Zt s σ H E I hf st hg;subst hP hw hK;obtain⟨hq,hx⟩:=hg;obtain⟨e0,g2,hs,dE,aE,xs,g3,kt,g4⟩:=I.frzT hq;rw[od]at g3;cases g3;obtain⟨b,u,ex,eb⟩:=kt.get (k:=Zs[i].1) (v:=Zs[i].2) (zA0 hx);have ee:es[i]?=some (entryOfKey (tupleKind (aX X.prog X.w)) (Zs[i].1,b,u)):=by rw[entry_at g4,ex];rfl
  obtain⟨f0,f1,f2,f3,f4,f5⟩:=hf it Zy;refine Ef st e0 od ee fun h' Zq sb=>?_;have I1:Inv X Zt σ H {s with heap:=h'}:=I.turned (t':=s.toks) (fun b o hb e=>(sb.2 b hb).trans e) f0 f1 f3 f4 f5;obtain⟨o2,e2,c2,d2⟩:=id Zq;exact⟨.ref b,rfl,vZ (s:={s with heap:=h'}) e2 c2 d2 Zx ⟨.ref b,H,I1,rfl,⟨rfl,b,Zs[i].1,Zs[i].2,rfl,zA0 hx,eb⟩,Zq,fun b hb=>(hf b hb).1⟩⟩
 done:=by
  intro X hP hw hK hc i Zt s σ H E I hf st hg;subst hP hw hK;obtain⟨hq,hx⟩:=hg;obtain⟨e0,g2,hs,dE,aE,xs,g3,kt,g4⟩:=I.frzT hq;rw[od]at g3;cases g3;obtain⟨f0,f1,f2,f3,f4,f5⟩:=hf it Zy
  exact Ht (I.ok.hd hc) st e0 od Zz fun h' eb=>⟨rfl,I.turned (t':=s.toks) (fun b o hb e=>eb b o hb e) f0 f1 f3 f4 f5⟩
 self:=fun _ _ _ _ _ st h=>wpAny_pyIter_keyiter st h
section
variable{X:Cx}{tg:Expr}
def Jq(tl:TE):TI:=fun σ H R=>tl σ H fun x H1=>∃d o Zs,x=.ref d/\H1 d=some (.frz o (.dT Zs))/\R (Itd d o Zs) H1
theorem Eg{l:Expr}{tl:TE}(hl:PE X l tl):PI X tg l (Jq tl):=by
 intro Zt s σ H R I h;refine thn (hl Zt s σ H _ I h) fun v s1=>?_;rintro⟨x,H1,I1,r1,q1⟩;obtain⟨d,o,Zs,e,hq,q⟩:=q1;subst e;cases r1;obtain⟨e0,g2,hs,es,ep,xs,g3,kt,g4⟩:=I1.frzT hq;refine Ed hs e0 g2 g3 ?_;refine⟨s1.heap.objs.size,[s1.heap.objs.size],_,_,H1,rfl,I1.kept (t':=s1.toks) fun b o e=>Heap.get?_push_of_some _ e,yE d _ o Zs es ep g3 (pK kt g4),⟨_,Heap.get?_push_size _ rfl,rfl,rfl⟩,fun b hb=>?_,q⟩;have e:b=s1.heap.objs.size:=by simpa using hb
 subst e;exact I1.fpOk (zA3 _) (I1.hok.fresh (zA3 _))
end
end L2
namespace St
open PySem PySem.SetTable
theorem vq:entryFor table "set.__iter__"=some Builtin.«frozenset.__iter__»:=entryFor_alias (id':="frozenset.__iter__") (by rw[fastTable_eq_tree];kernel_rfl) (by first|rfl|decide +kernel) Zv (by rw[fastTable_eq_tree];kernel_rfl)
theorem entry_next:entryFor table "set_iterator.__next__"=some Builtin.«set_iterator.__next__»:=entryFor_of_tree (by kernel_rfl)
theorem entry_self:entryFor table "set_iterator.__iter__"=some Builtin.«dict_keyiterator.__iter__»:=entryFor_alias (id':="dict_keyiterator.__iter__") (by rw[fastTable_eq_tree];kernel_rfl) (by first|rfl|decide +kernel) Zv (by rw[fastTable_eq_tree];kernel_rfl)
theorem slot_next:Slot "set_iterator" "__next__" "set_iterator.__next__":=
 .of (owner:="set_iterator") (n:="__next__") (by rw[typeLookup_type,builtinLookup_eq_fast];kernel_rfl) Zv Zv Zv (by first|exact .inl Zv|exact .inr Zv) (by rw[isSubtype_type];kernel_rfl)
theorem slot_self:Slot "set_iterator" "__iter__" "set_iterator.__iter__":=
 .of (owner:="set_iterator") (n:="__iter__") (by rw[typeLookup_type,builtinLookup_eq_fast];kernel_rfl) Zv Zv Zv (by first|exact .inl Zv|exact .inr Zv) (by rw[isSubtype_type];kernel_rfl)
theorem uh:Manifest.owners.lookup (String.ofList ['r','o','t','a','r','e','t','i','_','t','e','s'].reverse)=some Manifest.sig_set_iterator:=by kernel_rfl
theorem args_next(a:Value):argsOk "set_iterator.__next__" ⟨[a],[]⟩:=by
 unfold argsOk;rw[signature?_of (id:="set_iterator.__next__") (n:=['_','_','t','x','e','n','_','_']) (o:=['r','o','t','a','r','e','t','i','_','t','e','s']) (by kernel_rfl) uh]
 kernel_rfl
theorem args_self(a:Value):argsOk "set_iterator.__iter__" ⟨[a],[]⟩:=by
 unfold argsOk;rw[signature?_of (id:="set_iterator.__iter__") (n:=['_','_','r','e','t','i','_','_']) (o:=['r','o','t','a','r','e','t','i','_','t','e','s']) (by kernel_rfl) uh]
 kernel_rfl
section
variable{prog:Program}{w:World}{A:Around}{E:Value->Shared->Prop}{s:Shared}
theorem um{ps:List Nat}(up:ps.Pairwise (· < ·)):below ps.toArray 0=0:=by
 obtain⟨a,_,c⟩:=gm (xs:=ps.toArray) up 0;rcases Nat.eq_zero_or_pos (below ps.toArray 0)with z|z
 .exact z
 .have h0:0<ps.toArray.size:=Zz
  have:=a 0 _ z (Array.getElem?_eq_getElem h0);lia
theorem vy{ps:List Nat}(up:ps.Pairwise (· < ·)){i j:Nat}(h:ps[i]?=some j):below ps.toArray (j+1)=i+1:=by
 obtain⟨a,b,c⟩:=gm (xs:=ps.toArray) up (j+1);obtain⟨hi,ej⟩:=zAa.mp h;rw[zA8]at c
 have h1:i<below ps.toArray (j+1):=by
  rcases Nat.lt_or_ge i (below ps.toArray (j+1))with z|z
  .exact z
  .have:=b i j z (by rw[List.getElem?_toArray];exact h);lia
 rcases Nat.lt_or_ge (i+1) (below ps.toArray (j+1))with z|z
 .have hk:i+1<ps.length:=Zz
  have h2:=a (i+1) ps[i+1] z (by rw[List.getElem?_toArray];exact zA0 hk);have h3:=List.pairwise_iff_getElem.mp up i (i+1) hi hk (Nat.lt_succ_self _);lia
 .lia
theorem SetAt.nxt{d:Addr}{L:List (Int×Value)}{o:Obj}{ep:Nat}{t:SetTable}{ps:List Nat}(S:SetAt (ledW w) s.heap d L o ep t ps){x i:Nat}(hx:ledW w=true->below ps.toArray x=i){Q:Option (Value×Nat)->Shared->Prop}
  (q:∀x',(i<L.length->ledW w=true->below ps.toArray x'=i+1)->Q (((ord w d ep L)[i]?).map fun p=>(p.2,x')) s):wpAny (model prog w) A (setNext d x i ep) Q E s:=by
 unfold setNext;refine wpAny_bind (S.state ?_);dsimp only;unfold setsByText;refine wpAny_bind (wpAny_bind (wpAny_askSetting (wpAny_pure ?_)));have hl:=S.led;show wpAny _ _ (if w.params.followText "set-order"=true then _ else _) _ _ _
 cases hf:w.params.followText "set-order" with
 |true=>
  simp only[bne_self_eq_false,Bool.false_eq_true,↓reduceIte];refine wpAny_bind (S.walk (wpAny_pure ?_));rw[List.getElem?_toArray]
  exact q x fun _ z=>by unfold ledW at z;rw[hf]at z;cases z
 |false=>
  have hw:ledW w=true:=by unfold ledW;rw[hf];rfl
  rw[hw]at hl;simp only[Bool.false_eq_true,↓reduceIte];show wpAny _ _ (if(!t.plain&&decide (L.toArray.size>1))=true then _ else _) _ _ _;rw[S.pla];simp only[Bool.not_true,Bool.false_and,Bool.false_eq_true,↓reduceIte];refine wpAny_bind ?_
  wp_delta
  rw[hl];simp only[Bool.not_true,Bool.false_and,Bool.false_eq_true,↓reduceIte];refine wpAny_pure (wpAny_pure ?_);have hb:=hx hw;have eo:ord w d ep L=L:=by unfold ord;rw[hf];rfl
  have lp:ps.length=L.length:=by
   have:=S.rc.len;rw[zA1]at this;exact this.symm
  rw[S.rc.tb.pl,hb,List.getElem?_toArray,List.getElem?_toArray];rw[eo]at q;rcases Nat.lt_or_ge i L.length with z|z
  .have hp:i<ps.length:=Zz
   rw[zA0 z,zA0 hp];have:=q (ps[i]+1) fun _ _=>vy S.rc.tb.up (zA0 hp);rw[zA0 z]at this;exact this
  .rw[List.getElem?_eq_none z];have:=q 0 fun y=>absurd y Zz;rw[List.getElem?_eq_none z]at this;exact this
def ItAt(w:World)(h:Heap)(it d:Addr)(n ep i:Nat)(ps:List Nat):Prop:=∃x:Nat,(ledW w=true->below ps.toArray x=i)/\∃oi,h.get? it=some oi/\oi.cls=.type "set_iterator"/\oi.data=.fields #[.int x 0,.int i 0,.ref d,.int n 0,.int ep 0]
theorem ItAt.typ{it d:Addr}{n ep i:Nat}{ps:List Nat}(I:ItAt w s.heap it d n ep i ps):s.TypeIs (.ref it) "set_iterator":=by
 obtain⟨x,_,oi,g,c,_⟩:=I;exact⟨oi,g,c⟩
theorem Eh{d:Addr}{L:List (Int×Value)}{o:Obj}{ep:Nat}{t:SetTable}{ps:List Nat}(S:SetAt (ledW w) s.heap d L o ep t ps){Q:Value->Shared->Prop}
  (q:Q (.ref s.heap.objs.size) {s with heap:=s.heap.push {cls:=.type "set_iterator",data:=.fields #[.int 0 0,.int 0 0,.ref d,.int L.length 0,.int ep 0]}}):wpAny (model prog w) A (pyIter (.ref d)) Q E s:=by
 refine wpAny_pyIter_slot S.typ F.slot_set_iter (wpAny_call_entry F.slot_set_iter S.typ vq ?_ (F.args_set_iter_1 _));unfold Builtin.«frozenset.__iter__»;refine wpAny_bind (m:=Builtin.Frozenset.slot0 "__iter__" _) (wpAny_pure ?_);refine wpAny_bind ?_;unfold Builtin.Frozenset.sizeOf setEntries;refine wpAny_bind (wpAny_bind (S.state (wpAny_pure (wpAny_pure ?_))));refine wpAny_bind ?_;unfold setDrawn;refine wpAny_bind (S.state ?_);dsimp only;unfold setsByText;refine wpAny_bind (wpAny_bind (wpAny_askSetting (wpAny_pure ?_)));refine wpAny_pure ?_;show wpAny _ _ (if(!_&&(!t.plain&&decide (L.toArray.size>1)))=true then _ else _) _ _ _;rw[S.pla];simp only[Bool.not_true,Bool.false_and,Bool.and_false,Bool.false_eq_true,↓reduceIte];refine wpAny_bind (wpAny_pure ?_);refine wpAny_bind ?_;unfold setEpoch;refine wpAny_bind (S.state (wpAny_pure ?_));refine wpAny_bind (wpAny_newObj_type (wpAny_pure ⟨_,rfl,"set_iterator",_,⟨_,Heap.get?_push_size _ rfl,rfl⟩,slot_next.lookup,?_⟩));exact q
end
section
variable{prog:Program}{w:World}{A:Around}{E:Value->Shared->Prop}{s:Shared}
theorem Ei{it d:Addr}{L:List (Int×Value)}{o:Obj}{ep i:Nat}{t:SetTable}{ps:List Nat}{p:Int×Value}(S:SetAt (ledW w) s.heap d L o ep t ps)(I:ItAt w s.heap it d L.length ep i ps)(hp:(ord w d ep L)[i]?=some p){R:Option Value->Shared->Prop}
  (q:∀h',ItAt w h' it d L.length ep (i+1) ps->Heap.SameBut it s.heap h'->R (some p.2) {s with heap:=h'}):wpAny (model prog w) A (pyNext (.ref it)) R E s:=by
 have hT:=I.typ;obtain⟨x,hx,oi,g,hc,hd⟩:=I;unfold pyNext;refine wpAny_bind (wpAny_attempt (wpAny_callSpecial?_slot (name:=Str.ofString "__next__") hT slot_next (wpAny_call_entry slot_next hT entry_next ?_ (args_next _))));unfold Builtin.«set_iterator.__next__»;refine wpAny_bind (m:=slotArgs "__next__" 0 _) (wpAny_pure ?_);refine wpAny_bind (wpAny_fieldsOf g hd ?_);dsimp only;unfold setEntries;refine wpAny_bind (wpAny_bind (S.state (wpAny_pure ?_)));rw[if_neg Zy];simp only[Int.toNat_natCast];refine wpAny_bind (S.nxt hx fun x' gI=>?_);rw[hp];dsimp only[Option.map]
 have hi:i<L.length:=by
  have:=(zAa.mp hp).1
  rwa [(ord_perm w d ep L).length_eq]at this
 refine wpAny_bind (wpAny_setField g hd Zy ?_);have g1:=Heap.get?_update_self (Obj.mapFields (·.setIfInBounds 0 (rawInt (x':Int)))) g (Obj.isFreed_of_fields (Obj.data_mapFields hd _));have d1:=Obj.data_mapFields hd (·.setIfInBounds 0 (rawInt (x':Int)));refine wpAny_bind (wpAny_setField (s:={s with heap:=s.heap.update it (Obj.mapFields (·.setIfInBounds 0 (rawInt (x':Int))))}) g1 d1 Zy ?_);have g2:=Heap.get?_update_self (Obj.mapFields (·.setIfInBounds 1 (rawInt ((i:Int)+1)))) g1 (Obj.isFreed_of_fields (Obj.data_mapFields d1 _));refine wpAny_pure ⟨_,rfl,wpAny_pure (q _ ⟨x',gI hi,_,g2,?_,?_⟩ ((Heap.SameBut.update ..).trans (Heap.SameBut.update ..)))⟩
 .rw[Obj.cls_mapFields,Obj.cls_mapFields];exact hc
 .rw[Obj.data_mapFields d1];simp[rawInt]
theorem Hu{it d:Addr}{L:List (Int×Value)}{o:Obj}{ep:Nat}{t:SetTable}{ps:List Nat}(hh:A.handled=none)(S:SetAt (ledW w) s.heap d L o ep t ps)(I:ItAt w s.heap it d L.length ep L.length ps){R:Option Value->Shared->Prop}
  (q:∀h',Heap.ExtBut it s.heap h'->R none {s with heap:=h'}):wpAny (model prog w) A (pyNext (.ref it)) R E s:=by
 have hT:=I.typ;obtain⟨x,hx,oi,g,hc,hd⟩:=I;unfold pyNext;refine wpAny_bind (wpAny_attempt (wpAny_callSpecial?_slot (name:=Str.ofString "__next__") hT slot_next (wpAny_call_entry slot_next hT entry_next ?_ (args_next _))));unfold Builtin.«set_iterator.__next__»;refine wpAny_bind (m:=slotArgs "__next__" 0 _) (wpAny_pure ?_);refine wpAny_bind (wpAny_fieldsOf g hd ?_);dsimp only;unfold setEntries;refine wpAny_bind (wpAny_bind (S.state (wpAny_pure ?_)));rw[if_neg Zy];simp only[Int.toNat_natCast];refine wpAny_bind (S.nxt hx fun x' gI=>?_);rw[List.getElem?_eq_none (by rw[(ord_perm w d ep L).length_eq];exact zA3 _)];dsimp only[Option.map];refine wpAny_bind (wpAny_setField g hd Zy ?_);refine wpAny_bind ?_;simp only[newExc,newTuple];refine wpAny_bind (wpAny_newObj_type (wpAny_bind (m:=firstArgMember _ _) (wpAny_of_eq (a:=Value.none) (by first|rfl | (simp only[firstArgMember];rfl)) ?_)) (by size_fits));refine wpAny_newObj_type ?_ (by size_fits);simp only[raiseNew];refine wpAny_bind (wpAny_handled ?_);rw[show A.in1.handled=none from hh];refine wpAny_bind (wpAny_pure (wpAny_throw ?_));refine wpAny_bind (wpAny_isInstance (b:=true) (T:="StopIteration") ⟨_,Heap.get?_push_size _ rfl,rfl⟩ isSubtype_stop ?_);exact wpAny_pure (q _ (((Heap.SameBut.update ..).extBut.push _).push _))
theorem Ba{r:Addr}{Q:Bool->Shared->Prop}(hT:s.TypeIs (.ref r) "set")(h:Q false s):wpAny (model prog w) A (Builtin.List.listLengthHint (.ref r)) Q E s:=by
 unfold Builtin.List.listLengthHint;refine zAt (wpAny_specialOf hT F.slot_set_len.lookup ?_);generalize Lp:("set.__len__":String)=NW
 wp_delta
 rw[show splitId NW=some ("set","__len__")from by subst Lp;decide +kernel];subst Lp;refine zAt (wpAny_isInstance (T:="set") (b:=true) hT sub_set_self ?_);refine wpAny_ite_split (fun z=>absurd z Zx) (fun _=>?_);refine wpAny_ite_split (fun _=>?_) (fun z=>absurd Zv z);exact zAt (wpAny_typeOf hT (zAv h))
theorem src_set{d:Addr}{L:List (Int×Value)}{o:Obj}{ep:Nat}{t:SetTable}{ps:List Nat}(S0:∀h:Heap,h.get? d=some o->SetAt (ledW w) h d L o ep t ps):PySem.W.KdlSrc prog w "set" d d L.length (fun i v=>∃p,(ord w d ep L)[i]?=some p/\v=p.2) (fun h=>h.get? d=some o) where
 type:=fun s hm=>(S0 s.heap hm).typ
 there:=fun _ hm=>⟨zB0 hm,zB0 hm⟩
 keep:=fun _ _ hm hk=>hk d (.inl rfl) o hm
 notList:=by decide
 notTuple:=by decide
 hint:=fun _ _ s _ hm hq=>Ba (S0 s.heap hm).typ hq
 iter:=fun A s hh hm=>⟨_,fun i h=>ItAt w h s.heap.objs.size d L.length ep i ps/\h.get? d=some o,(fun _ _ hq=>Eh (S0 s.heap hm) hq),
  {
   sub:=fun b hb=>by simp at hb;simp[hb]
   frame:=fun _ _ _ st hk=>by
    obtain⟨⟨x,hx,oi,g,r⟩,hd⟩:=st;exact⟨⟨x,hx,oi,hk _ Zy oi g,r⟩,hk d Zy _ hd⟩
   item:=fun i s' Q E hi st hQ=>by
    have hi:i<(ord w d ep L).length:=by rw[(ord_perm w d ep L).length_eq];exact hi
    refine Ei (S0 s'.heap st.2) st.1 (zA0 hi) fun h' Zq sb=>?_;exact hQ _ h' s'.toks ⟨_,List.getElem?_eq_getElem hi,rfl⟩ ⟨Zq,sb.extBut _ _ (Nat.ne_of_lt (Heap.lt_size hm)) st.2⟩ fun b o hb e=>sb.extBut b o (fun h=>hb (by simp[h])) e
   done:=fun s' Q E st hQ=>Hu hh (S0 s'.heap st.2) st.1 fun h' vj=>hQ h' s'.toks fun b o hb e=>vj b o (fun h=>hb (by simp[h])) e
   self:=fun s' A' E' Q st hQ=>by
    refine wpAny_pyIter_slot st.1.typ slot_self (wpAny_call_entry slot_self st.1.typ entry_self ?_ (args_self _))
    exact zAv ⟨_,rfl,"set_iterator",_,st.1.typ,slot_next.lookup,hQ⟩},⟨⟨0,fun _=>um (S0 s.heap hm).rc.tb.up,_,zB2 _ rfl,rfl,rfl⟩,zAw _ hm⟩⟩
end
end St
namespace L2
open PySem PySem.Spec PyProof.Rows PySem.Calls
section
open PySem.W
variable{prog:Program}{w:World}{A:Around}{E:Value->Shared->Prop}{s:Shared}
theorem uo{T:String}{r d:Addr}{n:Nat}{P:Nat->Value->Prop}{OK:Heap->Prop}{R:List Value->Shared->Prop}(K:KdlSrc prog w T r d n P OK)(hh:A.handled=none)(hok:OK s.heap)(hn:n<=sizeLine)
  (h:∀h' tk acc,(∀b o,s.heap.get? b=some o->h'.get? b=some o)->s.heap.objs.size<h'.objs.size->ItemsOf P acc n->R acc.toList {s with heap:=h',toks:=tk}):wpAny (model prog w) A (collect (.ref r)) R E s:=by
 obtain⟨l1,l2⟩:=K.there _ hok
 obtain⟨S,eS⟩:∃S,S=s.heap.objs.size:=⟨_,rfl⟩
 obtain⟨g,eg⟩:∃g,g=s.heap.push {cls:=.type "list",data:=.seq ([]:List Value).toArray}:=⟨_,rfl⟩
 have atS:g.get? S=some {cls:=.type "list",data:=.seq #[]}:=by rw[eg,eS];exact zB2 _ rfl
 have ext:=kdl_extend (A:=A) (s:={s with heap:=g})
  (R:=fun q s'=>∃h' tk acc,q=Except.ok (.ret (.ref S))/\s'={s with heap:=h',toks:=tk}/\(∀b o,s.heap.get? b=some o->h'.get? b=some o)/\(∃c,h'.get? S=some {cls:=.type "list",dict:=none,data:=.seq acc c,slots:=#[]})/\ItemsOf P acc n)
  K hh (K.keep _ _ hok fun b _ o e=>by rw[eg];exact zAw _ e) S (by rw[eS];exact Nat.ne_of_gt l1) (by rw[eS];exact Nat.ne_of_gt l2) (.ref S) 0 atS
  (fun h' tk acc c kp at' it=>⟨h',tk,acc,rfl,rfl,fun b o e=>kp b o (by rw[eS];exact zB8 (zB0 e)) (by rw[eg];exact zAw _ e),⟨c,at'⟩,it⟩) hn
 unfold collect;refine zAt (wpAny_runValue (codeAny_builtin entry_proto_collect' ?_));rw[Around.under_plainId PySem.F.plain_proto_collect _];show wpAny _ A.in1 (newList []>>=fun l=>again (.builtin "list.__iadd__" ⟨[l,.ref r],[]⟩)) _ _ s;refine zAt (wpAny_newObj_type (zAv ⟨plainId_quiet PySem.F.plain_list_iadd _,codeAny_builtin entry_list_iadd' ?_⟩));rw[Around.under_plainId PySem.F.plain_list_iadd _];show wpAny _ A.in1 (Builtin.List.listExtendWith (.ref s.heap.objs.size) (.ref r) (.ref s.heap.objs.size)) _ _ {s with heap:=s.heap.push {cls:=.type "list",data:=.seq ([]:List Value).toArray}};rw[<-eS,<-eg];refine wpAny_mono ext (fun fin s' x=>?_) fun e s' x=>?_
 .cases fin with
  |done f=>
   obtain⟨h',tk,acc,e,rfl,kp,at',it⟩:=x;cases e;obtain⟨c,at'⟩:=at';refine zAt (wpAny_load at' (zAv (h h' tk acc kp (by rw[<-eS];exact zB0 at') it)))
  |again c₁=>
   refine⟨x.1,codeAny_mono x.2 fun q s₂ y=>?_⟩;obtain⟨h',tk,acc,rfl,rfl,kp,⟨c,at'⟩,it⟩:=y;refine zAt (wpAny_load at' (zAv (h h' tk acc kp (by rw[<-eS];exact zB0 at') it)))
 .obtain⟨_,_,_,e',_⟩:=x;cases e'
theorem Bb{T:String}{r d:Addr}{n:Nat}{P:Nat->Value->Prop}{OK:Heap->Prop}{Q:Value->Shared->Prop}{R:List Value->List Value->Prop}(K:KdlSrc prog w T r d n P OK)(hh:A.handled=none)(hok:OK s.heap)(hn:n<=sizeLine)
  (small:∀vs:List Value,vs.length=n->(∀j v,vs[j]?=some v->P j v)->vs.length<2->R vs vs)
  (big:∀vs:List Value,vs.length=n->(∀j v,vs[j]?=some v->P j v)->2<=vs.length->∀g tk,(∀b o,s.heap.get? b=some o->g.get? b=some o)->wpAny (model prog w) A.in1.in1 (keyKind' vs.toArray) (fun κ s1=>s1={s with heap:=g,toks:=tk} /\
    wpS (model prog w) A.in1.in1 (fun _ _=>False) {s with heap:=g,toks:=tk} sortRuns' (fun _ st=>failedOf st=none/\∃out,(arrOf st).map (·.2)=List.toArray out/\R vs out) (SortSt.mk' κ (vs.toArray.zip vs.toArray) #[] 7 none)) (fun _ _=>False) {s with heap:=g,toks:=tk})
  (len:∀vs out,vs.length=n->R vs out->out.length=vs.length)
  (fin:∀vs out,R vs out->∀D h2 c tk,s.heap.objs.size<=D->(∀b o,s.heap.get? b=some o->h2.get? b=some o)->h2.get? D=some (seqObj "list" out.toArray c)->Q (.ref D) {s with heap:=h2,toks:=tk}):
  wpAny (model prog w) A (call (.builtin "sorted") [.ref r]) Q E s:=by
 refine call_function_entry kind_sorted plain_sorted entry_sorted (args_sorted1 _) ?_;unfold Builtin.«sorted»;refine zAt (m:=checkCount "sorted" 1 1 _) (zAv ?_);refine zAt (uo (A:=A.in1) K hh hok hn fun h' tk acc hk hsz mE=>?_);have lv:acc.toList.length=n:=by rw[zA9];exact mE.1
 have hP:∀j v,acc.toList[j]?=some v->P j v:=fun j v e=>mE.2 j v (by rw[<-Array.getElem?_toList];exact e);generalize acc.toList=vs at lv hP;have fits:vs.length<=sizeLine:=by rw[lv];exact hn
 refine zAt (wpAny_newList ?_ fits)
 obtain⟨g1,mP⟩:∃g1,g1=h'.push (seqObj "list" vs.toArray 0):=⟨_,rfl⟩
 obtain⟨D,eD⟩:∃D,D=h'.objs.size:=⟨_,rfl⟩
 have mf:g1.get? D=some (seqObj "list" vs.toArray 0):=by rw[mP,eD];exact zB2 _ rfl
 have EN:∀b o,s.heap.get? b=some o->g1.get? b=some o:=fun b o q=>by rw[mP];exact zAw _ (hk b o q)
 have hD:s.heap.objs.size<=D:=by
  rw[eD];exact Nat.le_of_lt hsz
 show wpAny _ _ _ _ _ {s with toks:=tk,heap:=h'.push (seqObj "list" vs.toArray 0)};rw[<-eD,<-mP];refine zAt (wpAny_holding (wpAny_call_entry slot_list_sort ⟨_,mf,rfl⟩ entry_list_sort ?body (args_list_sort _)))
 have apart:∀b o,s.heap.get? b=some o->b≠D:=fun b o q e=>by
  have lt:b<h'.objs.size:=zB0 (hk b o q);rw[e,eD]at lt;exact absurd lt (Nat.lt_irrefl _)
 obtain⟨g2,sx⟩:∃g2,g2=g1.update D (Obj.mapSeq fun _=>(#[]:Array Value)):=⟨_,rfl⟩
 have fI:Heap.SameBut D g1 g2:=sx▸Heap.SameBut.update g1 D _
 obtain⟨e1,at2⟩:∃e1,g2.get? D=some (seqObj "list" #[] e1):=⟨_,sx▸get?_update_seq mf fun _=>#[]⟩
 obtain⟨g3,sA⟩:∃g3,g3=(g2.push (seqObj "tuple" vs.toArray 0)).push (seqObj "list" #[] 0):=⟨_,rfl⟩
 have iP:g3.get? D=some (seqObj "list" #[] e1):=sA▸Heap.get?_push_of_some _ (Heap.get?_push_of_some _ at2);have sC:∀b o,s.heap.get? b=some o->g3.get? b=some o:=fun b o q=>sA▸Heap.get?_push_of_some _ (Heap.get?_push_of_some _ ((fI.2 b (apart b o q)).trans (EN b o q)));rw[list_sort_plain];refine wpAny_bind (listItems_at mf rfl (wpAny_bind (listUpdate_at mf rfl ?_ (by rw[zA8];exact fits) (zAp _))));rw[<-sx];refine wpAny_bind (seqEpoch_at at2 rfl (wpAny_bind (wpAny_newTuple (wpAny_bind (wpAny_newList (wpAny_holding ?_) (zAp _))) fits)));show wpAny (model prog w) A.in1.in1 _ _ _ {s with toks:=tk,heap:=(g2.push (seqObj "tuple" vs.toArray 0)).push (seqObj "list" #[] 0)};rw[<-sA];dsimp only;by_cases two:vs.toArray.size<2
 .have gv:vs.length<2:=by rw[zA8]at two;exact two
  rw[if_pos two,if_pos two];refine wpAny_bind (wpAny_pure ?_);show wpAny _ _ (do let r <-(pure ((),SortSt.mk' general' (vs.toArray.zip vs.toArray) #[] 7 none):Sem (Unit×SortSt));_) _ _ _;refine wpAny_bind (wpAny_pure ?_);dsimp only
  have em:(vs.toArray.zip vs.toArray).map (·.2)=vs.toArray:=by
   apply Array.toList_inj.mp;simp only[Array.toList_map,Array.toList_zip];exact List.map_snd_zip (zA3 _)
  rw[em];refine wpAny_bind (seqEpoch_at iP rfl (wpAny_bind (listUpdate_at iP rfl ?_ (zAp _) (by rw[zA8];lia))));simp only[bne_self_eq_false,Bool.false_eq_true,if_false];have sF:=Heap.SameBut.update g3 D (Obj.mapSeq fun _=>vs.toArray);exact wpAny_pure ⟨_,rfl,wpAny_pure ⟨_,rfl,fin vs vs (small vs lv hP gv) D _ _ tk hD (fun b o z=>(sF.2 b (apart b o z)).trans (sC b o z)) (get?_update_seq iP _)⟩⟩
 .have gv:2<=vs.length:=by rw[zA8]at two;lia
  rw[if_neg two,if_neg two];refine wpAny_bind (wpAny_mono (big vs lv hP gv g3 tk sC) (fun κ s1=>?_) fun _ _ x=>x.elim);rintro⟨iO,run⟩;subst iO;refine wpAny_bind (wpAny_mono run ?_ fun _ _ x=>x.elim);rintro⟨⟨⟩,st⟩ s2 ⟨EO,AQ,out,kM,hR⟩;subst EO;dsimp only at AQ kM⊢;rw[kM];refine wpAny_bind (seqEpoch_at iP rfl (wpAny_bind (listUpdate_at iP rfl ?_ (zAp _) (by rw[zA8,len vs out lv hR];lia))));rw[AQ];simp only[bne_self_eq_false,Bool.false_eq_true,if_false];have sF:=Heap.SameBut.update g3 D (Obj.mapSeq fun _=>out.toArray);exact wpAny_pure ⟨_,rfl,wpAny_pure ⟨_,rfl,fin vs out hR D _ _ tk hD (fun b o z=>(sF.2 b (apart b o z)).trans (sC b o z)) (get?_update_seq iP _)⟩⟩
end
section
variable{X:Cx}
def jx(H:Hp)(a:Addr):List Int:=match H a with
 |some (.tup xs)=>xs.map fun v=>match v with
  |.int i=>i
  |_=>0
 |_=>[]
theorem xf{H:Hp}{a:Addr}{r:List Int}(e:H a=some (.tup (r.map V.int))):jx H a=r:=by
 unfold jx;rw[e];show(r.map V.int).map _=r;rw[zAr];exact List.map_id r
end
def itm(P:Program)(w:World)(x:List Key×Addr):Int×Value:=(tupleKeyHash (aX P w) x.1,.ref x.2)
def StO(P:Program)(w:World)(a:Addr)(L:List (List Key×Addr)):HO:=.ext fun h=>∃M o ep t ps,St.SetAt (St.ledW w) h a M o ep t ps/\M.Perm (L.map (itm P w))
def Bd(P:Program)(w:World)(a:Addr)(L:List (List Key×Addr))(o:HO):Prop:=o=StO P w a L
def Rws(U:List Key->Prop)(H:Hp)(L:List (List Key×Addr)):Prop:=∀x∈L,U x.1/\(∃r:List Int,x.1=r.map Sum.inl/\r≠[])/\H x.2=some (.tup (x.1.map kV))
open Classical in
def uq(L M:List (List Key×Addr)):List (List Key×Addr):=L++M.filter fun x=>decide (x.1∉L.map (·.1))
section
variable{X:Cx}{U:List Key->Prop}
theorem Be{H:Hp}{h:Heap}{a:Addr}{L:List (List Key×Addr)}{M:List (Int×Value)}{o:Obj}{ep:Nat}{t:SetTable}{ps:List Nat}(S:St.SetAt (St.ledW X.w) h a M o ep t ps)(p:M.Perm (L.map (itm X.prog X.w))):ObjOk X.prog X.w H h a (StO X.prog X.w a L):=
 ⟨⟨M,o,ep,t,ps,S,p⟩,⟨o,S.get⟩,fun h1 h2 ⟨M,o,ep,t,ps,S,p⟩ k=>⟨M,o,ep,t,ps,S.at (k _ S.get),p⟩⟩
theorem Jr{H:Hp}{Zt:List (Addr×Obj)}{σ:St}{s:Shared}(I:Inv X Zt σ H s){ks:List Key}{c:Addr}(hr:∃r:List Int,ks=r.map Sum.inl/\r≠[])(hc:H c=some (.tup (ks.map kV))):St.ITup (aX X.prog X.w) s.heap ks c:=by
 obtain⟨r,rfl,_⟩:=hr;refine⟨iM I.hok hc,?_⟩;rw[zAr]at hc;obtain⟨us,ru,⟨o,g,ET,n,hd⟩,_⟩:=I.tuple (SqT.of hc);refine⟨o,us.toArray,n,g,ET,hd,fun v hv=>?_⟩;obtain⟨i,hi⟩:=List.getElem?_of_mem hv;have hi:us[i]?=some v:=hi;have hl:=ru.length;have il:i<(r.map (kV∘Sum.inl)).length:=by rw[hl];exact(zAa.mp hi).1
 obtain⟨u,hu,rv⟩:=ru.get (zA0 il);rw[hi]at hu;cases hu;rw[List.getElem_map]at rv
 obtain⟨t,e⟩:=(show ∃t,v=Value.int _ t from rv)
 exact⟨_,t,e⟩
theorem Bf{H:Hp}{Zt:List (Addr×Obj)}{σ:St}{s:Shared}(I:Inv X Zt σ H s){L:List (List Key×Addr)}(h:Rws U H L):St.Gd (aX X.prog X.w) U s.heap (L.map (itm X.prog X.w)):=fun p hp=>by
 obtain⟨x,hx,rfl⟩:=zA5.mp hp;obtain⟨u,r,e⟩:=h x hx;exact⟨x.2,x.1,rfl,u,Jr I r e⟩
theorem pM(inj:∀x y,U x->U y->tupleKeyHash (aX X.prog X.w) x=tupleKeyHash (aX X.prog X.w) y->x=y):di X (.type "set") (fun xs H Q=>∃(d:Addr) (Zs:List (List Key×V)),xs=[.ref d]/\H d=some (.dT Zs)/\(∀p∈Zs,U p.1/\∃r:List Int,p.1=r.map Sum.inl/\r≠[])/\Zs.length*2<2^13 /\
  ∀(q:Addr) (L:List (List Key×Addr)) (o:HO),H q=none->Bd X.prog X.w q L o->L.map (·.1)=Zs.map (·.1)->Rws U H L->Q (.ref q) (upd H q o)):=by
 intro Zt s σ H xs us Q I r h;obtain⟨d,Zs,rfl,hd,hk,hz,q⟩:=h;obtain⟨u,rfl,ru⟩:=vals1 r;cases ru
 obtain⟨_,lo,xs,kt,o,es,ep,g1,g2,g3,g4,g5⟩:=(show ObjOk X.prog X.w H s.heap d (.dT Zs)from I.hok _ _ hd)
 have kt:KT H Zs xs:=kt;have hsz:es.size=Zs.length:=pK kt g4
 obtain⟨L,eL⟩:∃L:List (List Key×Addr),L=xs.map fun x=>(x.1,x.2.1):=⟨_,rfl⟩
 have ek:∀{Zs:List (List Key×V)} {xs:List (List Key×Addr×Value)},KT H Zs xs->(xs.map fun x=>(x.1,x.2.1)).map (·.1)=Zs.map (·.1):=fun{Zs xs} k=>by
  induction k with
  |nil=>rfl
  |cons a _ ih=>rw[zAk,zAk,zAk,ih,a.1]
 have et:∀{Zs:List (List Key×V)} {xs:List (List Key×Addr×Value)},KT H Zs xs->∀x∈xs.map (fun x=>(x.1,x.2.1)),H x.2=some (.tup (x.1.map kV)):=fun{Zs xs} k=>by
  induction k with
  |nil=>intro x hx;cases hx
  |cons a _ ih=>
   intro x hx;rcases zAo.mp hx with z|z
   .subst z;show H _=some (.tup (_));rw[<-a.1];exact a.2.1
   .exact ih x z
 have vS:L.map (·.1)=Zs.map (·.1):=by rw[eL];exact ek kt
 have de:Rws U H L:=fun x hx=>by
  have hm:x.1∈Zs.map (·.1):=by rw[<-vS];exact zA5.mpr ⟨x,hx,rfl⟩
  obtain⟨p,hp,e⟩:=zA5.mp hm;obtain⟨u,r⟩:=hk p hp;rw[e]at u r;exact⟨u,r,et kt x (by rw[<-eL];exact hx)⟩
 have aE:St.pairs es=L.map (itm X.prog X.w):=by
  unfold St.pairs;rw[g4,eL,zAr,zAr];rfl
 have gd:=Bf I de;rw[<-aE]at gd
 have nd:((St.pairs es).map (·.1)).Nodup:=by
  have Lq:(L.map (·.1)).Nodup:=by
   rw[eL,zAr];exact g5
  rw[aE,zAr];rw[List.Nodup,List.pairwise_map]at Lq⊢;refine Lq.imp_of_mem fun{a b} ha hb n e=>n (inj _ _ (de a ha).1 (de b hb).1 e)
 refine St.call_set g1 g2 g3 lo gd nd (by rw[hsz];exact hz) fun h' L' o' EU t' ps' k S pm=>?_;rw[aE]at pm;exact⟨.ref _,_,I.laid (t':=s.toks) k (zA3 _) (Be S pm),rfl,q _ L _ I.fresh rfl vS de⟩
theorem Ej(inj:∀x y,U x->U y->tupleKeyHash (aX X.prog X.w) x=tupleKeyHash (aX X.prog X.w) y->x=y){H:Hp}{L M:List (List Key×Addr)}(hL:Rws U H L)(hM:Rws U H M):St.uni (L.map (itm X.prog X.w)) (M.map (itm X.prog X.w))=(uq L M).map (itm X.prog X.w):=by
 unfold St.uni uq;rw[zA4,List.filter_map];congr 2;refine List.filter_congr fun x hx=>?_;refine decide_eq_decide.mpr (not_congr ?_);rw[zAr];constructor
 .intro h;obtain⟨y,hy,e⟩:=zA5.mp h;exact zA5.mpr ⟨y,hy,inj _ _ (hL y hy).1 (hM x hx).1 e⟩
 .intro h;obtain⟨y,hy,e⟩:=zA5.mp h;refine zA5.mpr ⟨y,hy,?_⟩;show tupleKeyHash _ y.1=tupleKeyHash _ x.1;rw[e]
theorem Hv(hu:X.A.in1.units<cLine)(inj:∀x y,U x->U y->tupleKeyHash (aX X.prog X.w) x=tupleKeyHash (aX X.prog X.w) y->x=y):OpR X (binaryOp .BitOr) (fun x y H Q=>∃a c L M oa oc,x=.ref a/\y=.ref c/\a≠c/\H a=some oa/\Bd X.prog X.w a L oa/\H c=some oc/\Bd X.prog X.w c M oc/\Rws U H L/\Rws U H M/\(L.length+M.length)*2<2^13 /\
  ∀q o,H q=none->Bd X.prog X.w q (uq L M) o->Q (.ref q) (upd H q o)):=by
 intro Zt s σ H x y v u Q I rx ry h;obtain⟨a,c,L,M,oa,oc,rfl,rfl,ne,ha,rfl,hc,rfl,hL,hM,hz,q⟩:=h;cases rx;cases ry
 obtain⟨⟨L1,o1,e1,t1,p1,S1,eC⟩,_⟩:=(show ObjOk X.prog X.w H s.heap a (StO X.prog X.w a L)from I.hok _ _ ha)
 obtain⟨⟨L2,o2,e2,t2,p2,S2,hZ⟩,_⟩:=(show ObjOk X.prog X.w H s.heap c (StO X.prog X.w c M)from I.hok _ _ hc)
 refine St.or_set S1 S2 ne hu inj ((Bf I hL).perm eC) ((Bf I hM).perm hZ) (by rw[eC.length_eq,hZ.length_eq,zA1,zA1];exact hz) fun h' L' o' aE t' ps' k S pm=>?_;refine⟨.ref _,_,I.laid (t':=s.toks) k (zA3 _) (Be S (L:=uq L M) (pm.trans ?_)),rfl,q _ _ I.fresh rfl⟩;rw[<-Ej inj hL hM];unfold St.uni;refine eC.append ?_
 have:(fun p:Int×Value=>decide (p.1∉L1.map (·.1)))=fun p=>decide (p.1∉(L.map (itm X.prog X.w)).map (·.1)):=funext fun p=>by
  congr 1;rw[(eC.map (·.1)).mem_iff]
 rw[this];exact hZ.filter _
theorem nQ(hc:X.calm=true):di X (.builtin "sorted") (fun xs H Q=>∃(a:Addr) (L:List (List Key×Addr)) (o:HO) (rk:List Key->List Int),xs=[.ref a]/\H a=some o/\Bd X.prog X.w a L o/\L.length<=sizeLine/\(∀x∈L,x.1=(rk x.1).map Sum.inl/\rk x.1≠[]/\H x.2=some (.tup (x.1.map kV))) /\
  ∀(q:Addr) (l':List Addr) (row:Addr->List Int),H q=none->(l'.map row).Perm (L.map fun x=>rk x.1)->l'.Pairwise (fun a b=>HT.lexLt (row b) (row a)=false)->(∀a∈l',H a=some (.tup ((row a).map V.int)))->Q (.ref q) (upd H q (.lst (l'.map V.ref)))):=by
 intro Zt s σ H xs us Q I r h;obtain⟨a,L,o,rk,rfl,ha,rfl,hz,hk,q⟩:=h;obtain⟨u,rfl,ru⟩:=vals1 r;cases ru
 obtain⟨⟨M,o,ep,t,ps,S,pm⟩,_⟩:=(show ObjOk X.prog X.w H s.heap a (StO X.prog X.w a L)from I.hok _ _ ha)
 have po:=(St.ord_perm X.w a ep M).trans pm
 obtain⟨N,eN⟩:∃N,N=St.ord X.w a ep M:=⟨_,rfl⟩
 rw[<-eN]at po
 have at':∀p∈N,∃c r,p.2=Value.ref c/\r≠[]/\H c=some (.tup (r.map V.int)):=fun p hp=>by
  obtain⟨x,hx,rfl⟩:=zA5.mp (po.mem_iff.mp hp);obtain⟨e1,e2,e3⟩:=hk x hx;refine⟨x.2,rk x.1,rfl,e2,?_⟩;rw[e3];congr 2
  conv=>lhs;rw[e1]
  rw[zAr];rfl
 let ad:Int×Value->Addr:=fun p=>match p.2 with
  |.ref c=>c
  |_=>0
 obtain⟨l,el⟩:∃l:List Addr,l=N.map ad:=⟨_,rfl⟩
 have ev:N.map (·.2)=l.map Value.ref:=by
  rw[el,zAr];refine List.map_congr_left fun p hp=>?_;obtain⟨c,r,e,_⟩:=at' p hp;show p.2=.ref (ad p);simp only[ad,e]
 have hl:∀b∈l,H b=some (.tup ((jx H b).map V.int))/\jx H b≠[]:=fun b hb=>by
  rw[el]at hb;obtain⟨p,hp,rfl⟩:=zA5.mp hb;obtain⟨c,r,e,ne,hc⟩:=at' p hp;have:ad p=c:=by simp only[ad,e]
  rw[this,xf hc];exact⟨hc,ne⟩
 have oS:(l.map (jx H)).Perm (L.map fun x=>rk x.1):=by
  rw[el,zAr];refine(po.map _).trans ?_;rw[zAr];refine .of_eq (List.map_congr_left fun x hx=>?_);obtain⟨e1,e2,e3⟩:=hk x hx;show jx H x.2=rk x.1;refine xf ?_;rw[e3];congr 2
  conv=>lhs;rw[e1]
  rw[zAr];rfl
 have ln:M.length=l.length:=by rw[el,zA1,eN,(St.ord_perm X.w a ep M).length_eq]
 have lL:l.length=L.length:=by have:=oS.length_eq;rwa [zA1,zA1]at this
 have vals:∀vs:List Value,vs.length=M.length->(∀(j:Nat) (v:Value),vs[j]?=some v->∃p,(St.ord X.w a ep M)[j]?=some p/\v=p.2)->vs=l.map Value.ref:=fun vs h1 h2=>by
  rw[<-ev];refine List.ext_getElem? fun j=>?_;by_cases hj:j<vs.length
  .obtain⟨p,e1,e2⟩:=h2 j vs[j] (zA0 hj);rw[zA0 hj,zAb,eN,e1,e2];rfl
  .rw[List.getElem?_eq_none Zz,List.getElem?_eq_none (by rw[zA1,eN,(St.ord_perm X.w a ep M).length_eq];lia)]
 have obj:∀b∈l,∃(us:List Value) (o:Obj) (n:Nat),s.heap.get? b=some o/\o.cls=.type "tuple"/\o.data=.seq us.toArray n/\Vals ((jx H b).map V.int) us/\jx H b≠[]:=fun b hb=>by
  obtain⟨ht,hJ⟩:=hl b hb;obtain⟨as,ra,⟨oa,ga,ca,na,da⟩,_⟩:=I.tuple (SqT.of ht);exact⟨as,oa,na,ga,ca,da,ra,hJ⟩
 refine Bb (R:=fun _ out=>∃l':List Addr,out=l'.map Value.ref/\l'.Perm l/\l'.Pairwise fun a b=>HT.lexLt (jx H b) (jx H a)=false) (St.src_set fun h e=>S.at e) (I.ok.hd hc) S.get (by rw[ln,lL];exact hz) (fun vs h1 h2 hs=>⟨l,vals vs h1 h2,.refl _,u0 Zz⟩) (fun vs h1 h2 hb g tk kp=>?_) (fun vs out hv ⟨l',e,pm,_⟩=>by rw[e,zA1,pm.length_eq,<-ln,hv]) fun vs out ⟨l',e,pm,pw⟩ D h2 c tk hD mh at2=>?_
 .have ev:=vals vs h1 h2;subst ev
  have kN:∀a∈l,∃(us:List Value) (o:Obj) (n:Nat),g.get? a=some o/\o.cls=.type "tuple"/\o.data=.seq us.toArray n/\Vals ((jx H a).map V.int) us/\jx H a≠[]:=fun a ha=>by
   obtain⟨us,o,n,h1,h2⟩:=obj a ha;exact⟨us,o,n,kp _ _ h1,h2⟩
  refine wR (s:={s with heap:=g,toks:=tk}) kN (by rw[zA1]at hb;lia) ?_;refine⟨rfl,pF (s:={s with heap:=g,toks:=tk}) kN fun st l' e1 e2 e3 e4=>⟨e1,l'.map Value.ref,e2,l',rfl,e3,e4⟩⟩
 .subst e;exact⟨.ref D,_,I.laid (t':=tk) mh hD (show ObjOk X.prog X.w _ h2 _ (.lst (l'.map V.ref))from⟨by rw[zA1,pm.length_eq,lL];exact hz,_,c,qZ l',at2⟩),rfl,q D l' (jx H) (I.hok.fresh hD) ((pm.map _).trans oS) pw fun a ha=>(hl a (pm.mem_iff.mp ha)).1⟩
end
end L2
namespace St
open PySem L2
def ur(acc h:Nat):Nat:=((((acc+h*14029467366897019727) % 2^64)*2^31) % 2^64+((acc+h*14029467366897019727) % 2^64) / 2^33)*11400714785074694791 % 2^64
def Hw(acc:Nat)(h:Int):Nat:=ur acc (h % ((2^64:Nat):Int)).toNat
def jQ(acc:Nat):Int:=if acc==2^64-1 then 1546275796 else if acc<2^63 then acc else(acc:Int)-(2^64:Nat)
def hLen(n:Nat):Nat:=n ^^^ (2870177450012600261 ^^^ 3527539)
theorem Js(hs:List Int):Builtin.Tuple.tupleHashOf hs=jQ ((hs.foldl Hw 2870177450012600261+hLen hs.length) % 2^64):=rfl
theorem mF{acc k:Nat}(h:k<100):Hw acc (k:Int)=ur acc k:=by
 unfold Hw;rw[Int.emod_eq_of_lt Zz Zz,zAi]
def Bg(y n h:Nat):Nat:=(ur (ur (ur 2870177450012600261 y) n) h+hLen 3) % 2^64
theorem Bh{y n h:Nat}(hy:y<100)(hn:n<100)(hh:h<100):Builtin.Tuple.tupleHashOf [(y:Int),(n:Int),(h:Int)]=jQ (Bg y n h):=by
 rw[Js,List.foldl_cons,List.foldl_cons,List.foldl_cons,List.foldl_nil,mF hy,mF hn,mF hh];rfl
theorem Bj:∀k:_root_.Fin 100,hashInt ((k.1:Nat):Int)=(k.1:Int):=by decide +kernel
def hOf(ks:List Int):Int:=reduceHash (Builtin.Tuple.tupleHashOf ks)
theorem vz{a:Nat}(n:a≠2^64-1):jQ a=if a<2^63 then(a:Int)else(a:Int)-(2^64:Nat):=by
 unfold jQ;rw[if_neg (by simpa using n)]
theorem xj{a:Nat}(h:a<2^64)(n:a≠2^64-1):reduceHash (jQ a)=jQ a:=by
 have b:-(2^63:Int)<=jQ a/\jQ a<2^63/\jQ a≠-1:=by
  rw[vz n];split<;>lia
 generalize jQ a=x at b;unfold reduceHash;rw[if_pos (by rw[Bool.and_eq_true,Zp,Zp];exact⟨b.1,b.2.1⟩),if_neg (by simpa using b.2.2)]
theorem Ek{a b:Nat}(ha:a<2^64)(na:a≠2^64-1)(hb:b<2^64)(nb:b≠2^64-1)(e:jQ a=jQ b):a=b:=by
 rw[vz na,vz nb]at e;split at e<;>split at e<;>lia
def apart(acc:Nat):List Nat->Bool
 |[]=>true
 |a::l=>match acc.testBit a with
  |true=>false
  |false=>apart (acc |||2^a) l
theorem ut:∀{l:List Nat} {acc:Nat},apart acc l=true->l.Nodup/\∀a∈l,acc.testBit a=false
 |[],_,_=>⟨List.nodup_nil,fun a h=>by cases h⟩
 |a::l,acc,h=>by
  unfold apart at h;split at h
  .cases h
  .rename_i e
   obtain⟨h1,h2⟩:=ut h;refine⟨List.nodup_cons.mpr ⟨fun hm=>?_,h1⟩,fun b hb=>?_⟩
   .have:=h2 a hm;rw[Nat.testBit_or,Nat.testBit_two_pow_self,Bool.or_true]at this;cases this
   .rcases zAo.mp hb with z|z
    .rw[z];exact e
    .have:=h2 b z;rw[Nat.testBit_or,Bool.or_eq_false_iff]at this;exact this.1
def hsh(j:Nat):Nat:=Bg (j / 80) (j / 8 % 10) (j % 8)
theorem Hx:apart 0 ((List.range 1600).map fun j=>hsh j % 60127)=true:=by decide +kernel
theorem Hy:((List.range 1600).all fun j=>!(hsh j==2^64-1))=true:=by decide +kernel
theorem rF(y n h:Nat):Bg y n h<2^64:=Nat.mod_lt _ Zx
theorem vA{y n h:Nat}(hn:n<10)(hh:h<8):hsh (80*y+8*n+h)=Bg y n h:=by
 unfold hsh;rw[show(80*y+8*n+h) / 80=y by lia,show(80*y+8*n+h) / 8 % 10=n by lia,show(80*y+8*n+h) % 8=h by lia]
theorem El{y n h y' n' h':Nat}(hy:y<20)(hn:n<10)(hh:h<8)(gx:y'<20)(xC:n'<10)(CC:h'<8)(e:hOf [(y:Int),(n:Int),(h:Int)]=hOf [(y':Int),(n':Int),(h':Int)]):y=y'/\n=n'/\h=h':=by
 have top:=List.all_eq_true.mp Hy
 have nt:∀y n h,y<20->n<10->h<8->Bg y n h≠2^64-1:=fun y n h hy hn hh=>by
  have:=top (80*y+8*n+h) (List.mem_range.mpr Zz);rw[vA hn hh]at this;simpa using this
 unfold hOf at e;rw[Bh Zz Zz Zz,Bh Zz Zz Zz,xj (rF ..) (nt y n h hy hn hh),xj (rF ..) (nt y' n' h' gx xC CC)]at e;have e:=Ek (rF ..) (nt y n h hy hn hh) (rF ..) (nt y' n' h' gx xC CC) e;have nd:=List.pairwise_iff_getElem.mp (ut Hx).1
 have inj:∀i j,i<1600->j<1600->hsh i=hsh j->i=j:=fun i j hi hj e=>by
  rcases Nat.lt_trichotomy i j with z|z|z
  .have:=nd i j (by simpa using hi) (by simpa using hj) z;simp only[List.getElem_map,List.getElem_range]at this;exact absurd (by rw[e]) this
  .exact z
  .have:=nd j i (by simpa using hj) (by simpa using hi) z;simp only[List.getElem_map,List.getElem_range]at this;exact absurd (by rw[e]) this
 have:=inj (80*y+8*n+h) (80*y'+8*n'+h') Zz Zz (by rw[vA hn hh,vA xC CC];exact e);lia
def UK(k:List Key):Prop:=∃y n h:Nat,y<20/\n<10/\h<8/\k=[.inl (y:Int),.inl (n:Int),.inl (h:Int)]
theorem uk_inj{P:Program}{w:World}(x y:List Key)(hx:UK x)(hy:UK y)(e:tupleKeyHash (aX P w) x=tupleKeyHash (aX P w) y):x=y:=by
 obtain⟨a,b,c,ha,hb,hc,rfl⟩:=hx;obtain⟨a',b',c',Lr,AS,ai,rfl⟩:=hy
 have hk:∀{a b c:Nat},a<20->b<10->c<8->tupleKeyHash (aX P w) [.inl (a:Int),.inl (b:Int),.inl (c:Int)]=hOf [(a:Int),(b:Int),(c:Int)]:=fun{a b c} ha hb hc=>by
  have el:tupleKeyHash (aX P w) [.inl (a:Int),.inl (b:Int),.inl (c:Int)]=reduceHash (Builtin.Tuple.tupleHashOf [hashInt (a:Int),hashInt (b:Int),hashInt (c:Int)]):=rfl;have h1:=Bj ⟨a,Zz⟩;have h2:=Bj ⟨b,Zz⟩;have h3:=Bj ⟨c,Zz⟩;dsimp only at h1 h2 h3;rw[el,h1,h2,h3];rfl
 rw[hk ha hb hc,hk Lr AS ai]at e;obtain⟨rfl,rfl,rfl⟩:=El ha hb hc Lr AS ai e;rfl
end St
namespace L2
open PySem PyProof.Rows HT
section
variable{X:Cx}{tg:Expr}
inductive TFrzSI(t:TS)(D:Ends)(σ:St)(H:Hp):Prop
 |mk:∀d Zs,(H d=some (.dT Zs))->(∀o,t {D with nx:=fun ah H'=>H' d=some (.frz o (.dT Zs))/\D.nx ah (upd H' d (.dT Zs)),bk:=fun _ _=>False,ct:=fun _ _=>False,rt:=fun _ _=>False} σ (upd H d (.frz o (.dT Zs))))->TFrzSI t D σ H
def Jt(t:TS):TS:=fun D σ H=>TFrzSI t D σ H
theorem HB{e:Stmt}{t:TS}(h:PS X e t):PS X e (Jt t):=by
 intro Zt s σ H D I hq;obtain⟨d,Zs,ed,hq⟩:=hq
 obtain⟨hz,hs,xs,kt,o,es,ep,g1,g⟩:=(show ObjOk X.prog X.w H s.heap d (.dT Zs)from I.hok _ _ ed)
 have nt:∀{b:Addr} {u:HO},H b=some u->u≠.dT Zs->b≠d:=fun{b u} e n z=>by
  rw[z,ed]at e;exact n (zAl e).symm
 have I1:Inv X Zt σ (upd H d (.frz o (.dT Zs))) {s with heap:=s.heap,toks:=s.toks}:=by
  refine I.un ⟨fun b ob q _ _ _=>q,fun b ob q _ _ _=>⟨ob.slots,q⟩,fun b ob q n _=>?_,fun b ob q _=>⟨ob,q⟩,fun b xs q=>?_,fun b ob u q=>?_,fun b ps q=>⟨#[],?_⟩⟩ fun b u e=>?_
  .rw[aA fun z=>by rw[z,ed]at n;cases n];exact n
  .rw[aA (nt q fun z=>by cases z)];exact q
  .rw[aA (nt q fun z=>by cases z)];exact q
  .rw[aA (nt q fun z=>by cases z),q];simp
  .have fN:∀c xs,H c=some (.tup xs)->upd H d (.frz o (.dT Zs)) c=some (.tup xs):=fun c xs q=>by
    rw[aA (nt q fun z=>by cases z)];exact q
   by_cases hb:b=d
   .subst hb;rw[aj]at e;cases e;exact⟨g1,(show ObjOk X.prog X.w H s.heap b (.dT Zs)from I.hok _ _ ed).stay (fun _ _ _ q=>q) (fun c q=>by rw[aA (nt q fun z=>by cases z)];exact q) fN⟩
   .rw[aA hb]at e;exact(I.hok b u e).stay (fun _ _ _ q=>q) (fun c q=>by rw[aA (nt q fun z=>by cases z)];exact q) fN
 refine thn (h Zt s σ _ _ I1 (hq o)) fun fl s1 CD=>?_
 cases fl with
 |brk=>obtain⟨_,_,_,z⟩:=CD;exact z.elim
 |cont=>obtain⟨_,_,_,z⟩:=CD;exact z.elim
 |ret u=>obtain⟨_,_,_,_,_,z⟩:=CD;exact z.elim
 |next=>
 obtain⟨DE,H1,J,e1,q1⟩:=CD
 have CF:∀{b:Addr} {u:HO},H1 b=some u->u≠.frz o (.dT Zs)->b≠d:=fun{b u} e n z=>by
  rw[z,e1]at e;exact n (zAl e).symm
 have fr:∀b,H1 b=none->upd H1 d (.dT Zs) b=none:=fun b n=>by
  rw[aA fun z=>by rw[z,e1]at n;cases n];exact n
 refine⟨DE,upd H1 d (.dT Zs),⟨J.ok,J.os,J.bare,⟨J.base.keep,J.base.slot,fun b ob q n hx=>fr b (J.base.free b ob q n hx),J.base.there,fun b xs q=>?_,fun b ob u q=>?_,fun b ps q=>?_⟩,J.loc,J.cell,fr _ J.free,fun y c e=>fr _ (J.freeC y c e),fun p hp=>?_,fun b u e=>?_,J.len⟩,q1⟩
 .have:=J.base.tups b xs q;rw[aA (CF this fun z=>by cases z)];exact this
 .have h0:=I.base.frzs b ob u q;have:=J.base.frzs b ob u q;rw[aA (nt h0 fun z=>by cases z)];exact this
 .obtain⟨m,e⟩:=J.base.tbls b ps q;exact⟨m,by rw[aA (CF e fun z=>by cases z)];exact e⟩
 .obtain⟨a,n,c⟩:=J.pin p hp;exact⟨a,fr _ n,c⟩
 .have fN:∀c xs,H1 c=some (.tup xs)->upd H1 d (.dT Zs) c=some (.tup xs):=fun c xs q=>by
   rw[aA (CF q fun z=>by cases z)];exact q
  have oT:∀a c,H1 c=some (.own a)->upd H1 d (.dT Zs) c=some (.own a):=fun a c q=>by
   rw[aA (CF q fun z=>by cases z)];exact q
  by_cases hb:b=d
  .subst hb;rw[aj]at e;cases e;exact ObjOk.stay (show ObjOk X.prog X.w H1 s1.heap b (.dT Zs)from(show ObjOk X.prog X.w H1 s1.heap b (.frz o (.dT Zs))from J.hok _ _ e1).2) (fun _ _ _ q=>q) (oT b) fN
  .rw[aA hb]at e;exact(J.hok b u e).stay (fun _ _ _ q=>q) (oT b) fN
end
end L2
namespace L2.EZ
open PySem PySem.Spec PyProof.Rows
abbrev IsZ(h:Heap)(z TI TO:Addr)(f0 f1:Value):Prop:=h.get? z=some {cls:=.type "zip",dict:=none,data:=.fields #[f0,f1,.bool false,.ref TI,.ref TO],slots:=#[]}
theorem nn{a b:Nat}(h:a≠b):@Ne Addr a b:=h
structure Ap(l1 l2 i1 i2 TI TO z e:Nat):Prop where
 a1:l1<i1
 a2:l2<i1
 b1:i1<i2
 b2:i2<TI
 b3:TI<TO
 b4:TO<z
 b5:z<e
def Ow(f0:Value):Prop:=f0=.none\/∃a:Nat,f0=rawInt a
section
variable{prog:Program}{w:World}{A:Around}{E:Value->Shared->Prop}{s:Shared}{l1 l2 i1 i2 TI TO z e:Nat}{xs ys:Array Value}
theorem alive{a:Addr}{Q:Option Obj->Shared->Prop}(h:Q (s.heap.get? a) s):wpAny (model prog w) A (loadIfAlive a) Q E s:=fun _ _ _=>h
theorem Ju{f0:Value}{f:Bool}{Q:Bool->Shared->Prop}(hf:Ow f0)(hz:IsZ s.heap z TI TO f0 (.bool f))(q1:Q true s)(q2:∀g0,IsZ g0 z TI TO f0 (.bool true)->Heap.SameBut z s.heap g0->Q false {s with heap:=g0}):
  wpAny (model prog w) A (Builtin.SmallTypes.ownedTupleIsFree (.ref z)) Q E s:=by
 unfold Builtin.SmallTypes.ownedTupleIsFree;refine zAt (wpAny_field hz rfl (x:=f0) rfl ?_);rcases hf with rfl|⟨a,rfl⟩
 .exact zAv q1
 .show wpAny _ _ (loadIfAlive ((a:Int).toNat)>>=_) _ _ _;refine zAt (alive ?_)
  cases(s.heap.get? ((a:Int).toNat)).isNone with
  |true=>
   rw[zAz rfl];exact zAv q1
  |false=>
   rw[zAx zAg];refine zAt (wpAny_field hz rfl (x:=.bool f) rfl ?_)
   cases f with
   |true=>
    rw[zAx (show¬((Value.bool true != Value.bool true)=true)from zAg)];exact zAv (q2 s.heap hz (Heap.SameBut.refl _ _))
   |false=>
    rw[if_pos (show(Value.bool false != Value.bool true)=true from rfl)];exact wpAny_bind (wpAny_setField_rec hz Zy fun g0 z0 s0=>wpAny_pure (q2 g0 z0 s0))
theorem Em{k:Nat}{x y f0:Value}{f:Bool}{Q:Value->Shared->Prop}(D:Ap l1 l2 i1 i2 TI TO z e)(hf:Ow f0)(hz:IsZ s.heap z TI TO f0 (.bool f))(rq:IsPair s.heap TI (.ref i1) (.ref i2))(rL:∃a b,IsPair s.heap TO a b)
  (h1:s.heap.IsListIter i1 l1 k) (h2:s.heap.IsListIter i2 l2 k) (q1:s.heap.IsList l1 xs) (q2:s.heap.IsList l2 ys) (hx:xs[k]?=some x) (hy:ys[k]?=some y)
  (hQ:∀h' CH f',Ow CH->IsZ h' z TI TO CH (.bool f')->(∃a b,IsPair h' TO a b)->h'.IsListIter i1 l1 (k+1)->h'.IsListIter i2 l2 (k+1)->IsPair h' s.heap.objs.size x y->h'.objs.size=s.heap.objs.size+1->
   (∀c o,c≠z->c≠TO->c≠i1->c≠i2->s.heap.get? c=some o->h'.get? c=some o)->Q (.ref s.heap.objs.size) {s with heap:=h'}):
  wpAny (model prog w) A (Builtin.SmallTypes.nextOf (.ref z)) Q E s:=by
 obtain⟨a1,a2,b1,b2,b3,b4,_⟩:=D;obtain⟨a,b,rL⟩:=rL
 have hT:s.TypeIs (.ref z) "zip":=⟨_,hz,rfl⟩
 unfold Builtin.SmallTypes.nextOf;refine zAt (wpAny_callSpecial?_slot (name:=Str.ofString "__next__") hT F.slot_zip_next (wpAny_call_entry F.slot_zip_next hT F.entry_zip_next ?_ (F.args_zip_next_1 _)));show wpAny _ _ (field (.ref z) 2>>=_) _ _ _;refine zAt (wpAny_field hz rfl (x:=.bool false) rfl ?_);show wpAny _ _ (field (.ref z) 3>>=_) _ _ _;refine zAt (wpAny_field hz rfl (x:=.ref TI) rfl (zAt (wpAny_seqItems rq rfl ?_)));show wpAny _ _ (Builtin.SmallTypes.ownedTupleIsFree (.ref z)>>=_) _ _ _;refine zAt (Ju hf hz ?_ fun g0 z0 s0=>?_)
 .simp only[if_true];refine wpAny_bind (wpAny_rule (wpAny_bind (wpAny_field hz rfl (x:=.ref TO) rfl (wpAny_bind (wpAny_setField_rec hz Zy fun g1 z1 s1=>?_)))))
  replace z1:IsZ g1 z TI TO .ellipsis (.bool f):=z1
  refine wpAny_bind ?_;simp only[List.zipIdx_cons,List.zipIdx_nil,List.forIn_cons,List.forIn_nil];refine wpAny_bind (wpAny_bind (wpAny_onRaise ?_));show wpAny _ _ (Builtin.SmallTypes.nextOf (.ref i1)>>=_) _ _ _;refine wpAny_bind (wpAny_nextOf_list_item (h1.extBut s1.extBut (nn Zz)) (q1.extBut s1.extBut (nn Zz)) hx fun g2 p1 s2=>wpAny_pure ?_);have o2:IsPair g2 TO a b:=s2.extBut _ _ (nn Zz) (s1.extBut _ _ (nn Zz) rL);refine wpAny_bind (wpAny_seqItems o2 rfl (wpAny_bind (wpAny_updateSeq_pair o2 fun g3 o3 s3=>?_)))
  replace o3:IsPair g3 TO x b:=o3
  refine zAt (wpAny_letGo (zAv (zAt (zAt (wpAny_onRaise ?_)))));show wpAny _ _ (Builtin.SmallTypes.nextOf (.ref i2)>>=_) _ _ _;have k3:∀d o,d≠z->d≠TO->d≠i1->s.heap.get? d=some o->g3.get? d=some o:=fun d o n1 n2 n3 e=>s3.extBut _ _ n2 (s2.extBut _ _ n3 (s1.extBut _ _ n1 e));refine zAt (wpAny_nextOf_list_item (h2.at fun o e=>k3 _ o (nn Zz) (nn Zz) (nn Zz) e) (q2.at fun o e=>k3 _ o (nn Zz) (nn Zz) (nn Zz) e) hy fun g4 p2 s4=>zAv ?_);have o4:IsPair g4 TO x b:=s4.extBut _ _ (nn Zz) o3;refine zAt (wpAny_seqItems o4 rfl (zAt (wpAny_updateSeq_pair o4 fun g5 o5 s5=>?_)))
  replace o5:IsPair g5 TO x y:=o5
  refine zAt (wpAny_letGo (zAv (zAv (zAt (wpAny_seqItems o5 rfl (zAt (wpAny_newTuple ?_)))))));have hsz:g5.objs.size=s.heap.objs.size:=by rw[s5.1,s4.1,s3.1,s2.1,s1.1]
  have k5:∀d o,d≠TO->d≠i2->g3.get? d=some o->g5.get? d=some o:=fun d o n1 n2 e=>s5.extBut _ _ n1 (s4.extBut _ _ n2 e);have z5:IsZ g5 z TI TO .ellipsis (.bool f):=k5 _ _ (nn Zz) (nn Zz) (s3.extBut _ _ (nn Zz) (s2.extBut _ _ (nn Zz) z1));have AD:z<g5.objs.size:=Heap.lt_size z5;show wpAny _ _ (Builtin.SmallTypes.ownedTupleHandOut (.ref z) (.ref g5.objs.size)>>=_) _ _ _;refine wpAny_bind ?_;unfold Builtin.SmallTypes.ownedTupleHandOut;have z6:IsZ (g5.push {cls:=.type "tuple",data:=.seq #[x,y]}) z TI TO .ellipsis (.bool f):=Heap.get?_push_of_some _ z5;refine wpAny_bind (wpAny_setField_rec z6 Zy fun g7 z7 s7=>?_)
  replace z7:IsZ g7 z TI TO (rawInt g5.objs.size) (.bool f):=z7
  refine wpAny_setField_rec z7 Zy fun g8 z8 s8=>?_
  replace z8:IsZ g8 z TI TO (rawInt g5.objs.size) (.bool false):=z8
  have up:∀c o,c≠z->g5.get? c=some o->g8.get? c=some o:=fun c o c1 e=>s8.extBut _ _ c1 (s7.extBut _ _ c1 (zAw _ e));have t8:IsPair g8 g5.objs.size x y:=s8.extBut _ _ (Nat.ne_of_gt AD) (s7.extBut _ _ (Nat.ne_of_gt AD) (zB2 _ rfl));have n8:g8.objs.size=g5.objs.size+1:=by rw[s8.1,s7.1,Heap.size_push]
  rw[hsz]at z8 t8 n8;refine zAv ⟨_,rfl,zAv ?_⟩;show Q (.ref g5.objs.size) _;rw[hsz];exact hQ g8 _ false (.inr ⟨_,rfl⟩) z8 ⟨_,_,up _ _ (nn Zz) o5⟩ (p1.at fun o e=>up _ o (nn Zz) (k5 _ o (nn Zz) (nn Zz) (s3.extBut _ _ (nn Zz) e))) (p2.at fun o e=>up _ o (nn Zz) (s5.extBut _ _ (nn Zz) e)) t8 n8 fun c o c1 c2 c3 c4 e=>up c o c1 (k5 c o c2 c4 (k3 c o c1 c2 c3 e))
 .simp only[Bool.false_eq_true,if_false,List.forIn_toArray,List.forIn_cons,List.forIn_nil];refine wpAny_bind (wpAny_bind (wpAny_bind (wpAny_holding ?_)));show wpAny _ _ (Builtin.SmallTypes.nextOf (.ref i1)>>=_) _ _ _;refine wpAny_bind (wpAny_nextOf_list_item (h1.extBut s0.extBut (nn Zz)) (q1.extBut s0.extBut (nn Zz)) hx fun g1 p1 s1=>wpAny_pure (wpAny_pure ?_));have k1:∀d o,d≠z->d≠i1->s.heap.get? d=some o->g1.get? d=some o:=fun d o n1 n2 e=>s1.extBut _ _ n2 (s0.extBut _ _ n1 e);refine wpAny_bind (wpAny_bind (wpAny_holding ?_));show wpAny _ _ (Builtin.SmallTypes.nextOf (.ref i2)>>=_) _ _ _;refine wpAny_bind (wpAny_nextOf_list_item (h2.at fun o e=>k1 _ o (nn Zz) (nn Zz) e) (q2.at fun o e=>k1 _ o (nn Zz) (nn Zz) e) hy fun g2 p2 s2=>wpAny_pure (wpAny_pure (wpAny_pure ?_)));have k2:∀d o,d≠z->d≠i1->d≠i2->s.heap.get? d=some o->g2.get? d=some o:=fun d o n1 n2 n3 e=>s2.extBut _ _ n3 (k1 _ _ n1 n2 e);refine wpAny_bind (wpAny_newTuple (hsz:=by show 2<=sizeLine;decide) ?_);have hsz:g2.objs.size=s.heap.objs.size:=by rw[s2.1,s1.1,s0.1]
  have z3:IsZ g2 z TI TO f0 (.bool true):=s2.extBut _ _ (nn Zz) (s1.extBut _ _ (nn Zz) z0);have tn:IsPair (g2.push {cls:=.type "tuple",data:=.seq #[x,y]}) g2.objs.size x y:=zB2 _ rfl;have Ls:(g2.push {cls:=.type "tuple",data:=.seq #[x,y]}).objs.size=g2.objs.size+1:=Heap.size_push ..;rw[hsz]at tn Ls;refine zAv ⟨_,rfl,zAv ?_⟩;show Q (.ref g2.objs.size) _;rw[hsz];exact hQ _ f0 true hf (zAw _ z3) ⟨_,_,zAw _ (k2 _ _ (nn Zz) (nn Zz) (nn Zz) rL)⟩ (p1.at fun o e=>zAw _ (s2.extBut _ _ (nn Zz) e)) (p2.at fun o e=>zAw _ e) tn Ls fun d o n1 n2 n3 n4 e=>zAw _ (k2 _ _ n1 n3 n4 e)
theorem HD{k:Nat}{f0:Value}{f:Bool}{Q:Value->Shared->Prop}(hh:A.handled=none)(D:Ap l1 l2 i1 i2 TI TO z e)(hf:Ow f0)(hz:IsZ s.heap z TI TO f0 (.bool f))(rq:IsPair s.heap TI (.ref i1) (.ref i2))
  (h1:s.heap.IsListIter i1 l1 k) (q1:s.heap.IsList l1 xs) (hx:xs[k]?=none)
  (hE:∀h' x,(∀c o,c≠z->c≠i1->s.heap.get? c=some o->h'.get? c=some o)->(∃o,h'.get? x=some o/\o.cls=.type "StopIteration")->E (.ref x) {s with heap:=h'}):
  wpAny (model prog w) A (Builtin.SmallTypes.nextOf (.ref z)) Q E s:=by
 obtain⟨a1,a2,b1,b2,b3,b4,_⟩:=D
 have hT:s.TypeIs (.ref z) "zip":=⟨_,hz,rfl⟩
 unfold Builtin.SmallTypes.nextOf;refine zAt (wpAny_callSpecial?_slot (name:=Str.ofString "__next__") hT F.slot_zip_next (wpAny_call_entry F.slot_zip_next hT F.entry_zip_next ?_ (F.args_zip_next_1 _)));show wpAny _ _ (field (.ref z) 2>>=_) _ _ _;refine zAt (wpAny_field hz rfl (x:=.bool false) rfl ?_);show wpAny _ _ (field (.ref z) 3>>=_) _ _ _;refine zAt (wpAny_field hz rfl (x:=.ref TI) rfl (zAt (wpAny_seqItems rq rfl ?_)));show wpAny _ _ (Builtin.SmallTypes.ownedTupleIsFree (.ref z)>>=_) _ _ _;refine zAt (Ju hf hz ?_ fun g0 z0 s0=>?_)
 .simp only[if_true];refine wpAny_bind (wpAny_rule (wpAny_bind (wpAny_field hz rfl (x:=.ref TO) rfl (wpAny_bind (wpAny_setField_rec hz Zy fun g1 z1 s1=>?_)))))
  replace z1:IsZ g1 z TI TO .ellipsis (.bool f):=z1
  refine wpAny_bind ?_;simp only[List.zipIdx_cons,List.zipIdx_nil,List.forIn_cons,List.forIn_nil];refine wpAny_bind (wpAny_bind (wpAny_onRaise ?_));show wpAny _ _ (Builtin.SmallTypes.nextOf (.ref i1)>>=_) _ _ _;refine wpAny_bind (wpAny_nextOf_list_end hh (h1.extBut s1.extBut (nn Zz)) (q1.extBut s1.extBut (nn Zz)) hx fun g2 x s2 he=>?_);obtain⟨oe,rS,AE⟩:=he;have z2:IsZ g2 z TI TO .ellipsis (.bool f):=s2 _ _ (nn Zz) z1
  have D9:x≠z:=fun q=>by
   subst q;rw[z2]at rS;cases rS;simp at AE
  refine wpAny_setField_rec z2 Zy fun g3 _ s3=>?_;exact hE g3 x (fun c o n1 n2 q=>s3.extBut _ _ n1 (s2 _ _ n2 (s1.extBut _ _ n1 q))) ⟨oe,s3.extBut _ _ D9 rS,AE⟩
 .simp only[Bool.false_eq_true,if_false,List.forIn_toArray,List.forIn_cons,List.forIn_nil];refine wpAny_bind (wpAny_bind (wpAny_bind (wpAny_holding ?_)));show wpAny _ _ (Builtin.SmallTypes.nextOf (.ref i1)>>=_) _ _ _;exact wpAny_bind (wpAny_nextOf_list_end hh (h1.extBut s0.extBut (nn Zz)) (q1.extBut s0.extBut (nn Zz)) hx fun g1 x s1 he=>hE g1 x (fun d o n1 n2 y=>s1 _ _ n2 (s0.extBut _ _ n1 y)) he)
end
section
variable{prog:Program}{w:World}{A:Around}{E:Value->Shared->Prop}{s:Shared}{l1 l2 i1 i2 TI TO z e:Nat}{xs ys:Array Value}
theorem En{old:Value}{i:Nat}{G:Value->Heap->Prop}{Q:Option Value->Shared->Prop}(he:IsEnum s.heap e z i old)
  (NX:∀{Q':Value->Shared->Prop} {E':Value->Shared->Prop},(∀x h1,h1.get? e=s.heap.get? e->G x h1->Q' x {s with heap:=h1})->wpAny (model prog w) A.in1 (Builtin.SmallTypes.nextOf (.ref z)) Q' E' s)
  (hQ:∀x h1 h',G x h1->IsEnumOut h' e z ((i:Int)+1) x h1.objs.size->h'.get? h1.objs.size=some {cls:=.type "tuple",data:=.seq #[.int i s.toks,x]}->h'.objs.size=h1.objs.size+1->(∀b o,b≠e->h1.get? b=some o->h'.get? b=some o)->Q (some (.ref h1.objs.size)) {s with heap:=h',toks:=s.toks+1}):
  wpAny (model prog w) A (pyNext (.ref e)) Q E s:=by
 have hT:s.TypeIs (.ref e) "enumerate":=⟨_,he,rfl⟩
 unfold pyNext;refine wpAny_bind (wpAny_attempt (wpAny_callSpecial?_slot (name:=Str.ofString "__next__") hT F.slot_enumerate_next (wpAny_call_entry F.slot_enumerate_next hT F.entry_enumerate_next ?_ (F.args_enumerate_next_1 _))));show wpAny _ _ (field (.ref e) 2>>=_) _ _ _;refine wpAny_bind (wpAny_field he rfl (x:=.ref z) rfl ?_);refine wpAny_bind (NX fun x h1 e1 g1=>?_);have EV:IsEnum h1 e z i old:=e1.trans he;show wpAny _ _ (field (.ref e) 3>>=_) _ _ {s with heap:=h1};refine wpAny_bind (wpAny_field EV rfl (x:=rawInt i) rfl ?_);show wpAny _ _ (field (.ref e) 4>>=_) _ _ {s with heap:=h1};refine wpAny_bind (wpAny_field EV rfl (x:=.none) rfl ?_);show wpAny _ _ (mkInt i>>=_) _ _ {s with heap:=h1};refine wpAny_bind (wpAny_mkInt ?_);show wpAny _ _ (setField (.ref e) 3 (rawInt ((i:Int)+1))>>=_) _ _ {s with heap:=h1,toks:=s.toks+1};refine wpAny_bind (wpAny_setField_rec EV Zy fun h2 EW s2=>?_)
 replace EW:IsEnum h2 e z ((i:Int)+1) old:=EW
 refine wpAny_bind (wpAny_setField_rec EW Zy fun h3 CI s3=>?_)
 replace CI:IsEnum h3 e z ((i:Int)+1) old:=CI
 replace s2:Heap.SameBut e h1 h2:=s2
 replace s3:Heap.SameBut e h2 h3:=s3
 refine zAt (m:=newTuple [.int i s.toks,x]) (wpAny_newTuple ?_);have EX:IsEnum (h3.push {cls:=.type "tuple",data:=.seq #[.int i s.toks,x]}) e z ((i:Int)+1) old:=zAw _ CI;have hsz:h3.objs.size=h1.objs.size:=by rw[s3.1,s2.1]
 have E1:e<h3.objs.size:=Heap.lt_size CI;show wpAny _ _ (Builtin.SmallTypes.ownedTupleIsFree (.ref e)>>=_) _ _ _;refine wpAny_bind ?_;unfold Builtin.SmallTypes.ownedTupleIsFree;refine wpAny_bind (wpAny_field EX rfl (x:=.none) rfl (wpAny_pure ?_));simp only[if_true];refine wpAny_bind (wpAny_rule ?_);refine wpAny_bind (wpAny_field EX rfl (x:=old) rfl ?_);refine wpAny_bind (wpAny_setField_rec EX Zy fun h5 E2 s5=>?_)
 replace E2:IsEnum h5 e z ((i:Int)+1) x:=E2
 show wpAny _ _ (Builtin.SmallTypes.ownedTupleHandOut (.ref e) (.ref h3.objs.size)>>=_) _ _ _;refine wpAny_bind ?_;unfold Builtin.SmallTypes.ownedTupleHandOut;refine wpAny_bind (wpAny_setField_rec E2 Zy fun h6 E3 s6=>?_)
 replace E3:IsEnumOut h6 e z ((i:Int)+1) x h3.objs.size:=E3
 refine wpAny_setField_rec E3 Zy fun h7 CL s7=>?_
 replace CL:IsEnumOut h7 e z ((i:Int)+1) x h3.objs.size:=CL
 replace s5:Heap.SameBut e (h3.push {cls:=.type "tuple",data:=.seq #[.int i s.toks,x]}) h5:=s5
 replace s6:Heap.SameBut e h5 h6:=s6
 replace s7:Heap.SameBut e h6 h7:=s7
 refine zAt (wpAny_letGo (zAv ⟨_,rfl,?_⟩));have t7:h7.get? h3.objs.size=some {cls:=.type "tuple",data:=.seq #[.int i s.toks,x]}:=s7.extBut _ _ (Nat.ne_of_gt E1) (s6.extBut _ _ (Nat.ne_of_gt E1) (s5.extBut _ _ (Nat.ne_of_gt E1) (zB2 _ rfl)));have n7:h7.objs.size=h3.objs.size+1:=by rw[s7.1,s6.1,s5.1,Heap.size_push]
 rw[hsz]at CL t7 n7;refine zAv ?_;show Q (some (.ref h3.objs.size)) _;rw[hsz];exact hQ x h1 h7 g1 CL t7 n7 fun b o hb q=>s7.extBut b o hb (s6.extBut b o hb (s5.extBut b o hb (zAw _ (s3.extBut b o hb (s2.extBut b o hb q)))))
end
def Itq(K:Frag)(a b:Addr):It:=
 ⟨fun i H=>∃xs ys x y,SqL K H a xs/\SqL K H b ys/\xs[i]?=some x/\ys[i]?=some y,
  fun i H v H'=>∃T U,H T=none/\H U=none/\T≠U/\v=.ref U/\∀xs ys,SqL K H a xs->SqL K H b ys->∃x y,xs[i]?=some x/\ys[i]?=some y/\H'=upd (upd H T (.tup [x,y])) U (.tup [.int i,.ref T]),
  fun i H=>∃xs,SqL K H a xs/\xs.length<=i⟩
def tnE(l1 l2 i1 i2 TI TO z e:Nat)(i:Nat)(h:Heap):Prop:=(∃old,IsEnum h e z i old)/\(∃f0 f,Ow f0/\IsZ h z TI TO f0 (.bool f))/\IsPair h TI (.ref i1) (.ref i2)/\(∃u v,IsPair h TO u v)/\h.IsListIter i1 l1 i/\h.IsListIter i2 l2 i
theorem HF{P:Program}{w:World}{K:Frag}{es:List Expr}{k:Nat}{pos:Pos}{l1 l2 i1 i2 TI TO z e:Nat}(D:Ap l1 l2 i1 i2 TI TO z e):
  Turn P w K (.Tuple es k pos) (Itq K l1 l2) [e,z,TI,TO,i1,i2] e (tnE l1 l2 i1 i2 TI TO z e) where
 mem:=by simp
 obj:=fun i h st c hc=>by
  obtain⟨⟨old,s1⟩,⟨f0,f,_,s2⟩,s3,⟨u,v,s4⟩,⟨o5,s5,c5,d5⟩,⟨o6,s6,c6,d6⟩⟩:=st;simp only[List.mem_cons,List.not_mem_nil,or_false]at hc;rcases hc with e|e|e|e|e|e<;>subst e
  .exact⟨_,s1,fun v q=>by cases q⟩
  .exact⟨_,s2,fun v q=>by cases q⟩
  .exact⟨_,s3,fun v q=>by cases q⟩
  .exact⟨_,s4,fun v q=>by cases q⟩
  .exact⟨_,s5,fun v q=>by rw[d5]at q;cases q⟩
  .exact⟨_,s6,fun v q=>by rw[d6]at q;cases q⟩
 keep:=fun i h h' st kp=>by
  obtain⟨⟨old,s1⟩,⟨f0,f,ow,s2⟩,s3,⟨u,v,s4⟩,s5,s6⟩:=st;exact⟨⟨old,kp e Zy _ s1⟩,⟨f0,f,ow,kp z Zy _ s2⟩,kp TI Zy _ s3,⟨u,v,kp TO Zy _ s4⟩,s5.at fun o q=>kp i1 Zy o q,s6.at fun o q=>kp i2 Zy o q⟩
 item:=by
  intro X hP hw hK hc i Zt s σ H E I hf st hg;subst hP hw hK;obtain⟨⟨old,s1⟩,⟨f0,f,ow,s2⟩,s3,s4,s5,s6⟩:=st;obtain⟨xs,ys,x,y,hX,rV,hx,hy⟩:=hg;obtain⟨Zr,rv,p,_⟩:=I.list hX;obtain⟨Ee,de,q,_⟩:=I.list rV;obtain⟨ux,vn,rx⟩:=rv.get hx;obtain⟨uy,EA,ry⟩:=de.get hy;have D':=D;obtain⟨a1,a2,b1,b2,b3,b4,b5⟩:=D
  refine En (G:=fun v h1=>v=.ref s.heap.objs.size/\(∃f0 f,Ow f0/\IsZ h1 z TI TO f0 (.bool f))/\(∃u v,IsPair h1 TO u v)/\h1.IsListIter i1 l1 (i+1)/\h1.IsListIter i2 l2 (i+1)/\IsPair h1 s.heap.objs.size ux uy/\h1.objs.size=s.heap.objs.size+1/\∀c o,c≠z->c≠TO->c≠i1->c≠i2->s.heap.get? c=some o->h1.get? c=some o) s1
   (fun{Q' E'} k=>Em D' ow s2 s3 s4 s5 s6 p.isList q.isList (x:=ux) (y:=uy) (by simpa using vn) (by simpa using EA) fun h1 g0 g CH z1 o1 p1 p2 t1 n1 kp=>k _ h1 ((kp _ _ (nn Zz) (nn Zz) (nn Zz) (nn Zz) s1).trans s1.symm) ⟨rfl,⟨_,_,CH,z1⟩,o1,p1,p2,t1,n1,kp⟩) fun v h1 h2 g e2 t2 n2 k2=>?_
  obtain⟨rfl,⟨g0,g,mS,z1⟩,⟨u,v,o1⟩,p1,p2,t1,n1,k1⟩:=g;refine⟨_,rfl,?_⟩;refine wpAny_letOwnedTupleGo_enum e2 fun h3 e3 sb=>?_
  have live:∀c,c∈[e,z,TI,TO,i1,i2]->c<s.heap.objs.size:=fun c ai=>by
   have:=Heap.lt_size s1;simp only[List.mem_cons,List.not_mem_nil,or_false]at ai;rcases ai with q|q|q|q|q|q<;>(rw[q];exact Nat.lt_of_le_of_lt Zz this)
  rw[n1]at t2 n2;have hT:H s.heap.objs.size=none:=I.hok.fresh (zA3 _);have hU:H (s.heap.objs.size+1)=none:=I.hok.fresh (Nat.le_succ _);have el:e<s.heap.objs.size:=zB0 s1
  have kept:∀c o,c∉[e,z,TO,i1,i2]->s.heap.get? c=some o->h3.get? c=some o:=fun c o ai q=>by
   simp only[List.mem_cons,List.not_mem_nil,or_false,not_or]at ai;obtain⟨c1,c2,c3,c4,c5⟩:=ai;exact sb.extBut _ _ c1 (k2 c o c1 (k1 c o c2 c3 c4 c5 q))
  have rX:∀c,c∈[e,z,TO,i1,i2]->c∈[e,z,TI,TO,i1,i2]:=fun c ai=>by
   simp only[List.mem_cons,List.not_mem_nil,or_false]at ai⊢;rcases ai with q|q|q|q|q<;>simp[q]
  have trk:∀c o,H c=some o->c∉[e,z,TO,i1,i2]:=fun c o q ai=>by
   have:=(hf c (rX c ai)).1;rw[q]at this;cases this
  have kD:h3.get? s.heap.objs.size=some {cls:=.type "tuple",data:=.seq #[ux,uy]}:=sb.extBut _ _ (Nat.ne_of_gt el) (k2 _ _ (Nat.ne_of_gt el) t1);have E4:h3.get? (s.heap.objs.size+1)=some {cls:=.type "tuple",data:=.seq #[.int i s.toks,.ref s.heap.objs.size]}:=sb.extBut _ _ (nn Zz) t2;have tu:s.heap.objs.size≠s.heap.objs.size+1:=zB8 (Nat.lt_succ_self _)
  obtain⟨H2,AU⟩:∃H2,H2=upd (upd H s.heap.objs.size (.tup [x,y])) (s.heap.objs.size+1) (.tup [.int i,.ref s.heap.objs.size]):=⟨_,rfl⟩
  have kQ:∀{c o},H c=some o->H2 c=some o:=fun{c o} q=>by
   rw[AU,aA (aC q hU),aA (aC q hT)];exact q
  have kF:HOk X.prog X.w H2 h3:=fun c o q=>by
   rw[AU]at q;by_cases hb:c=s.heap.objs.size+1
   .subst hb;rw[aj]at q;cases q;exact⟨by show 2<=sizeLine;decide,[.int i s.toks,.ref s.heap.objs.size],.cons ⟨s.toks,rfl⟩ (.cons rfl .nil),_,E4,rfl,_,rfl⟩
   .rw[aA hb]at q;by_cases hb:c=s.heap.objs.size
    .subst hb;rw[aj]at q;cases q;exact⟨by show 2<=sizeLine;decide,[ux,uy],.cons rx (.cons ry .nil),_,kD,rfl,_,rfl⟩
    .rw[aA hb]at q;refine(I.hok c o q).stay (fun d v hd q'=>kept d v ?_ q') (fun d q'=>kQ q') fun d l q'=>kQ q';rcases hd with e'|e'
     .rw[e'];exact trk c o q
     .exact trk d _ e'
  have I2:Inv X Zt σ H2 {s with heap:=h3,toks:=s.toks+1}:=by
   refine I.step (g':=s.gens) (d':=s.drawn) (t':=s.toks+1) (ch:=[e,z,TO,i1,i2]) (fun c ai=>?_) (fun c o _ _ hn q _=>kept c o hn q) (fun c o _ _ hn q _=>⟨o.slots,kept c o hn q⟩)
    (fun c o _ q n=>by rw[AU,aA (zB8 (Nat.lt_succ_of_lt (zB0 q))),aA (zB8 (zB0 q))];exact n) (fun c o hn q=>⟨o,kept c o hn q⟩) (fun c l q=>kQ q) (fun c o l q=>kQ q)
    (fun c l q=>⟨#[],by rw[kQ q];simp⟩) (fun m hm=>?_) kF I.bare
   .obtain⟨f0,f1,f2,f3,f4,f5⟩:=hf c (rX c ai);exact⟨f3,f1,f4,f5⟩
   .obtain⟨o,dE,ep,ho,r⟩:=hm;refine⟨o,dE,ep,kept _ o (fun ai=>?_) ho,r⟩;exact(hf _ (rX _ ai)).2.1 rfl
  have AO:h1.objs.size=s.heap.objs.size+1:=n1;refine⟨.ref h1.objs.size,H2,I2,rfl,⟨s.heap.objs.size,s.heap.objs.size+1,hT,hU,tu,by rw[AO],fun K2 fk AB AF=>⟨x,y,?_,?_,AU⟩⟩,⟨⟨.ref s.heap.objs.size,?_⟩,⟨g0,g,mS,?_⟩,?_,⟨u,v,?_⟩,?_,?_⟩,fun c ai=>?_⟩
  .rw[I.list_inj AB hX];exact hx
  .rw[I.list_inj AF rV];exact hy
  .rw[show(((i+1:Nat):Int))=(i:Int)+1 by lia];exact e3
  .exact sb.extBut _ _ (nn Zz) (k2 _ _ (nn Zz) z1)
  .exact sb.extBut _ _ (nn Zz) (k2 _ _ (nn Zz) (k1 _ _ (nn Zz) (nn Zz) (nn Zz) (nn Zz) s3))
  .exact sb.extBut _ _ (nn Zz) (k2 _ _ (nn Zz) o1)
  .exact p1.at fun o q=>sb.extBut _ _ (nn Zz) (k2 _ _ (nn Zz) q)
  .exact p2.at fun o q=>sb.extBut _ _ (nn Zz) (k2 _ _ (nn Zz) q)
  .have:=live c ai;rw[AU,aA (nn Zz),aA (nn Zz)];exact(hf c ai).1
 done:=by
  intro X hP hw hK hc i Zt s σ H E I hf st hg;subst hP hw hK;obtain⟨⟨old,s1⟩,⟨f0,f,ow,s2⟩,s3,s4,s5,s6⟩:=st;obtain⟨xs,hX,hlen⟩:=hg;obtain⟨Zr,rv,p,_⟩:=I.list hX;have hl:=rv.length
  have hT:s.TypeIs (.ref e) "enumerate":=⟨_,s1,rfl⟩
  unfold pyNext;refine wpAny_bind (wpAny_attempt (wpAny_callSpecial?_slot (name:=Str.ofString "__next__") hT F.slot_enumerate_next (wpAny_call_entry F.slot_enumerate_next hT F.entry_enumerate_next ?_ (F.args_enumerate_next_1 _))));show wpAny _ _ (field (.ref e) 2>>=_) _ _ _;refine wpAny_bind (wpAny_field s1 rfl (x:=.ref z) rfl ?_);refine wpAny_bind (HD (I.ok.hd hc) D ow s2 s3 s5 p.isList (by simp;lia) fun h' x kp gI=>?_);obtain⟨o,ho,D8⟩:=gI;refine wpAny_bind (wpAny_isInstance (T:="StopIteration") (b:=true) ⟨o,ho,D8⟩ isSubtype_stop (wpAny_pure ⟨rfl,?_⟩))
  refine I.step (h':=h') (H':=H) (g':=s.gens) (d':=s.drawn) (t':=s.toks) (ch:=[z,i1]) (fun c ai=>?_) (fun c o _ _ hn e _=>kp c o (fun q=>hn (by simp[q])) (fun q=>hn (by simp[q])) e)
   (fun c o _ _ hn e _=>⟨o.slots,kp c o (fun q=>hn (by simp[q])) (fun q=>hn (by simp[q])) e⟩) (fun c o _ e n=>n) (fun c o hn e=>⟨o,kp c o (fun q=>hn (by simp[q])) (fun q=>hn (by simp[q])) e⟩)
   (fun _ _ e=>e) (fun _ _ _ e=>e) (fun c l e=>⟨#[],by rw[e];simp⟩) (fun m hm=>?_) (fun c o ec=>?_) I.bare
  .have:c∈[e,z,TI,TO,i1,i2]:=by
    simp only[List.mem_cons,List.not_mem_nil,or_false]at ai⊢;rcases ai with q|q<;>simp[q]
   obtain⟨f0,f1,f2,f3,f4,f5⟩:=hf c this;exact⟨f3,f1,f4,f5⟩
  .obtain⟨o,dE,ep,ho,r⟩:=hm;exact⟨o,dE,ep,kp _ o (Ne.symm (hf z Zy).2.1) (Ne.symm (hf i1 Zy).2.1) ho,r⟩
  .have Lu:∀d v c',c'∈[e,z,TI,TO,i1,i2]->H d=some v->d≠c':=fun d v c' ai q e'=>by
    have:=(hf c' ai).1;rw[<-e',q]at this;cases this
   have nz:∀d v,H d=some v->d≠z/\d≠i1:=fun d v q=>⟨Lu d v z Zy q,Lu d v i1 Zy q⟩
   refine(I.hok c o ec).stay (fun d v hd q=>?_) (fun _ q=>q) fun _ _ q=>q;rcases hd with e'|e'
   .rw[e']at q⊢;exact kp c v (nz c o ec).1 (nz c o ec).2 q
   .exact kp d v (nz d _ e').1 (nz d _ e').2 q
 self:=fun _ _ _ _ _ st h=>wpAny_pyIter_enum st.1.choose_spec h
theorem rG(z TI TO:Addr):
  Meets (Builtin.«enumerate.__new__» ⟨[.type "enumerate",.ref z],[]⟩) (fun _ R s=>IsZip s.heap z TI TO .none /\
   R (.ok (.ret (.ref s.heap.objs.size))) {s with heap:=s.heap.push {cls:=.type "enumerate",data:=.fields #[.none,.bool false,.ref z,rawInt 0,.none,.none]}}):=
 .of_wp fun prog w A R s h=>by
  obtain⟨hp,g,d,tk,os⟩:=s;obtain⟨hz,h⟩:=h;have mI:=sub_enumerate;have cK:IsZip (Shared.heap ⟨hp,g,d,tk,os⟩) z TI TO .none:=hz
  wp_walk
  refine wpAny_stack_any fun st=>zAv ?_;split
  .rename_i c _ _ _ _ _
   cases(c==Value.type "enumerate")
   .wp_walk using wpAny_pyIter_zip cK
    exact⟨_,rfl,h⟩
   .wp_walk using wpAny_pyIter_zip cK
    exact⟨_,rfl,h⟩
  .wp_walk using wpAny_pyIter_zip cK
   exact⟨_,rfl,h⟩
theorem uv{prog:Program}{w:World}{A:Around}{E:Value->Shared->Prop}{s:Shared}{z TI TO:Addr}{Q:Value->Shared->Prop}(hz:IsZip s.heap z TI TO .none)
  (h:∀h',IsEnum h' s.heap.objs.size z 0 .none->(∀c o,s.heap.get? c=some o->h'.get? c=some o)->Q (.ref s.heap.objs.size) {s with heap:=h'}):wpAny (model prog w) A (call (.type "enumerate") [.ref z]) Q E s:=by
 refine callType_new F.called_enumerate Zx (F.typeCall_enumerate_1 _) (F.newCall_enumerate_1 _) (fun obj=>F.args_object_init_2 obj _) F.entry_enumerate_new (rG z TI TO) ⟨hz,?_⟩;have g:=zB2 s.heap (o:={cls:=.type "enumerate",data:=.fields #[.none,.bool false,.ref z,rawInt 0,.none,.none]}) rfl;exact⟨⟨_,g,rfl⟩,h _ g fun c o x=>zAw _ x⟩
section
variable{X:Cx}
def iQ(K:Frag)(t:TA):TI:=fun σ H R=>t σ H fun vs H1=>∃a b xs ys,vs=[.ref a,.ref b]/\SqL K H1 a xs/\SqL K H1 b ys/\R (Itq K a b) H1
theorem pi_q{es:List Expr}{k:Nat}{tp:Pos}{a b:Expr}{ta:TA}{p p2 pos kR:Pos}(hg:Gl X "enumerate")(hm:X.mg "enumerate"=none)(E5:Gl X "zip")(NY:X.mg "zip"=none)(ha:PA X [a,b] ta)
  (h1:starEach [.Call (.Name "zip" p2) [a,b] [] kR] X.env=[(false,eval (.Call (.Name "zip" p2) [a,b] [] kR) X.env)]:=by rfl)
  (hs:starEach [a,b] X.env=[(false,eval a X.env),(false,eval b X.env)]:=by rfl) (nV:starEach [b] X.env=[(false,eval b X.env)]:=by rfl):
  PI X (.Tuple es k tp) (.Call (.Name "enumerate" p) [.Call (.Name "zip" p2) [a,b] [] kR] [] pos) (iQ X.K ta):=by
 intro Zt s σ H R I h;refine Call_ (gb I hg hm boot_enumerate (PyProof.Rows.callWith_type1 ?_ h1 rfl));rw[h1];show wpAny _ _ (spliced ((false,eval (.Call (.Name "zip" p2) [a,b] [] kR) X.env)::[])) _ _ s;refine Calls.spliced_cons ?_;refine Call_ (gb I E5 NY boot_zip (PyProof.Rows.callWith_type1 (thn (ha kR Zt s σ H _ I h) fun us s1=>?_) (by rw[hs,nV]) (by rw[nV];rfl)));rintro⟨vs,H1,I1,r1,q1⟩;obtain⟨x,y,xs,ys,e,hx,hy,q⟩:=q1;subst e;obtain⟨u,v,rfl,ru,rv⟩:=vals2 r1;cases ru;cases rv;obtain⟨Zr,_,p1,_⟩:=I1.list hx;obtain⟨Ee,_,p3,_⟩:=I1.list hy;refine ZT.call_zip_tt (t1:=false) (t2:=false) p1.isList p3.isList fun h' z1 z2 z3 z4 z5 kp=>?_;refine Calls.spliced_nil ?_;refine uv (s:={s1 with heap:=h'}) z1 fun h2 e1 mh=>?_;refine wpAny_pyIter_enum e1 ?_;have lx:x<s1.heap.objs.size:=by obtain⟨_,_,e,_⟩:=p1;exact zB0 e
 have ly:y<s1.heap.objs.size:=by obtain⟨_,_,e,_⟩:=p3;exact zB0 e
 have D:Ap x y s1.heap.objs.size (s1.heap.objs.size+1) (s1.heap.objs.size+2) (s1.heap.objs.size+3) (s1.heap.objs.size+4) h'.objs.size:=⟨lx,ly,Nat.lt_succ_self _,Nat.lt_succ_self _,Nat.lt_succ_self _,Nat.lt_succ_self _,zB0 z1⟩
 refine⟨_,_,_,_,H1,rfl,I1.kept (t':=s1.toks) fun b o q=>mh _ _ (kp b o q),HF D,⟨⟨_,e1⟩,⟨_,_,.inl rfl,mh _ _ z1⟩,mh _ _ z2,⟨_,_,mh _ _ z3⟩,z4.at fun o q=>mh _ o q,z5.at fun o q=>mh _ o q⟩,fun c hc=>?_,q⟩
 have hle:s1.heap.objs.size<=c:=by
  have:=Heap.lt_size z1;simp only[List.mem_cons,List.not_mem_nil,or_false]at hc;rcases hc with q|q|q|q|q|q<;>(rw[q];first|lia|exact Nat.le_of_lt (Nat.lt_of_le_of_lt (Nat.le_add_right _ 4) this))
 exact I1.fpOk hle (I1.hok.fresh hle)
end
theorem for_q{K:Frag}{a b:Addr}{xs ys:List V}{g:TG}{tb:TS}{D:Ends}{σ:St}{H:Hp}(Pv:Nat->St->Hp->Prop)(he:xs.length=ys.length)(h0:Pv 0 σ H)(hl:∀i σ H,i<=xs.length->Pv i σ H->SqL K H a xs/\SqL K H b ys)
  (hs:∀i x y σ H T U,xs[i]?=some x->ys[i]?=some y->Pv i σ H->H T=none->H U=none->T≠U->g (.ref U) σ (upd (upd H T (.tup [x,y])) U (.tup [.int i,.ref T])) fun aw H2=>tb {D with nx:=Pv (i+1),ct:=Pv (i+1),bk:=D.nx} aw H2) (hd:∀σ H,Pv xs.length σ H->D.nx σ H):
  ∃W:Nat->Nat->St->Hp->Prop,(∃m,W 0 m σ H)/\∀i m σ H,W i m σ H->
   ((Itq K a b).stop i H/\D.nx σ H)\/((Itq K a b).go i H/\∃N:St->Hp->Prop,(∀ah H',N ah H'->∃m',m'<m/\W (i+1) m' ah H')/\∀x H',(Itq K a b).yld i H x H'->g x σ H' fun aw H2=>tb {D with nx:=N,ct:=N,bk:=D.nx} aw H2):=by
 refine⟨fun i m σ H=>m=xs.length-i/\i<=xs.length/\Pv i σ H,⟨xs.length,by simp,Nat.zero_le _,h0⟩,?_⟩;rintro i m σ H ⟨rfl,hi,p⟩;obtain⟨q1,q2⟩:=hl i σ H hi p;by_cases ay:i<xs.length
 .have E6:i<ys.length:=Zz
  refine .inr ⟨⟨xs,ys,xs[i],ys[i],q1,q2,by simp[ay],by simp[E6]⟩,Pv (i+1),fun ah H' p'=>⟨xs.length-(i+1),Zz,rfl,ay,p'⟩,fun v H' y=>?_⟩;obtain⟨T,U,nT,nU,tu,rfl,y⟩:=y;obtain⟨x,z,ex,ez,rfl⟩:=y xs ys q1 q2;exact hs i x z σ H T U ex ez p nT nU tu
 .have e:i=xs.length:=Zz
  subst e;exact .inl ⟨⟨xs,q1,zA3 _⟩,hd σ H p⟩
end L2.EZ
namespace L2
open PySem PySem.Spec PyProof.Rows PySem.SeqAt
theorem vB{X:Cx}{S:Addr->Prop}(hu:X.A.units+64<cLine):OpR X (compareOp .NotEq) (fun x y H Q=>∃d,IsTh S H x d/\IsTh S H y d/\shaped d=true/\noMix d d=true/\Q (.bl false) H):=by
 intro Zt s σ H x y v u Q I rx ry h;obtain⟨d,t1,t2,sh,nm,q⟩:=h;obtain⟨as,r1,_⟩:=t1.reads I rx;obtain⟨bs,r2,_⟩:=t2.reads I ry;refine ne_dataH_same r1 r2 sh sh hu nm ⟨.bl false,H,I,?_,q⟩;rw[Spec.same_self];rfl
theorem uw:∀ns:List Int,PyData.canLayAll0 (ns.map PyData.int)=true
 |[]=>rfl
 |_::r=>by simp[PyData.canLayAll0,PyData.canLay0,uw r]
theorem uz:∀ns:List Int,noMixAll (ns.map PyData.int) (ns.map PyData.int)=true
 |[]=>rfl
 |_::r=>by simp[noMixAll,noMix,uz r]
end L2
namespace K91
open PySem L2
def top(i:Nat):Stmt:=PySem.Challenge.pw_woolyears_k91_whole_told_late.main.body.getD i (.Pass ⟨0,0,0,0⟩)
def cP(d:PyData):Bool:=qM d&&!qN d
def items:PyData->List PyData
 |.tuple ds=>ds
 |_=>[]
def intOf:PyData->Int
 |.int i=>i
 |_=>0
def bz(d:PyData)(f m:Int):Bool:=qO d&&(decide (f<=(items d).length)&&decide (((items d).length:Int)<=m))
def bj(d:PyData)(n:Int):Bool:=bz d n n&&(items d).all cP
def pN(d:PyData):Bool:=bj d 3&&(items d).all fun x=>decide (0<=intOf x)&&decide (intOf x<=999)
def gW(d:PyData):Bool:=bz d 1 20&&(items d).all pN
def at_(d:PyData)(i:Nat):Int:=intOf ((items d).getD i .none)
def jy(a b c d e f:Int):Bool:=
 (decide (0<=a)&&decide (a<8))&&((decide (0<=b)&&decide (b<3))&&((decide (0<=c)&&(decide (c<=d)&&decide (d<=19)))&&((decide (1<=e)&&decide (e<=99))&&(decide (0<=f)&&decide (f<=1000000)))))
def gY(d:PyData):Bool:=bj d 6&&jy (at_ d 0) (at_ d 1) (at_ d 2) (at_ d 3) (at_ d 4) (at_ d 5)
def dF(d:PyData):Bool:=bz d 0 10&&(items d).all gY
theorem nd1(x:Str):([x]:List Str).Nodup:=by simp
theorem Bl(d:PyData):1<=sz d:=by cases d<;>simp[sz]
theorem rH:∀(ds:List PyData),ds.length<=szs ds
 |[]=>zAp _
 |d::ds=>by
  have:=rH ds;have:=Bl d;simp only[List.length_cons,szs];lia
theorem rJ:∀{ds:List PyData} {d:PyData},d∈ds->sz d<=szs ds
 |x::ds,d,h=>by
  simp only[szs];rcases zAo.mp h with e|e
  .rw[e];lia
  .have:=rJ e;lia
theorem jh{ds:List PyData}{d:PyData}(h:d∈ds)(hz:sz (.tuple ds)<=4000):sz d<=4000:=by
 have:=rJ h;simp only[sz]at hz;lia
theorem eZ{S:Addr->Prop}{H:Hp}{xs:List V}{ds:List PyData}(r:IsThs S H xs ds)(hz:sz (.tuple ds)<=4000):xs.length<sizeLine:=by
 have:=rH ds;have:=r.length;simp only[sz]at hz;rw[sizeLine_eq];lia
def spT(f:PyData->Bool):Sp:=fun vs H Q _=>∃S v d,vs=[v]/\IsTh S H v d/\sz d<=4000/\∀H',Same H H'->Q (.bl (f d)) H'
inductive SpT1I(f:PyData->Int->Bool)(vs:List V)(H:Hp)(Q:VK):Prop
 |mk:∀S v d n,(vs=[v,.int n])->(IsTh S H v d)->(sz d<=4000)->(∀H',Same H H'->Q (.bl (f d n)) H')->SpT1I f vs H Q
def Eo(f:PyData->Int->Bool):Sp:=fun vs H Q _=>SpT1I f vs H Q
def jR(f:PyData->Int->Int->Bool):Sp:=fun vs H Q _=>∃S v d n m,vs=[v,.int n,.int m]/\IsTh S H v d/\sz d<=4000/\∀H',Same H H'->Q (.bl (f d n m)) H'
structure Mg(mg:Str->Option Value):Prop where
 isinstance:mg "isinstance"=none
 int:mg "int"=none
 bool:mg "bool"=none
 tuple:mg "tuple"=none
 len:mg "len"=none
 all:mg "all"=none
theorem boot_int:bootBuiltins "int"=some (.type "int"):=by decide +kernel
theorem boot_bool:bootBuiltins "bool"=some (.type "bool"):=by decide +kernel
theorem boot_tuple:bootBuiltins "tuple"=some (.type "tuple"):=by decide +kernel
theorem boot_isinstance:bootBuiltins "isinstance"=some (.builtin "isinstance"):=by decide +kernel
theorem boot_all:bootBuiltins "all"=some (.builtin "all"):=by decide +kernel
theorem cU{K:Frag}{S:Addr->Prop}{te:TE}{src:List (Option Nat)}{i j:Nat}{σ:St}{H:Hp}{Q:VK}{a:Addr}{xs:List V}{ds:List PyData}(f:PyData->Bool)(oI:σ[i]?=some (some (.ref a)))(ea:H a=some (.tup xs))(r:IsThs S H xs ds)(hl:xs.length<sizeLine)
  (Au:∀v d H1 Q1,d∈ds->Same H H1->IsTh S H1 v d->(∀H',Same H1 H'->Q1 (.bl (f d)) H')->te ((capσ σ src).set j (some v)) H1 Q1) (q:∀H',Same H H'->Q (.bl (ds.all f)) H'):
  tCB (fun xs H Q=>∃(p:Addr) (bs:List Bool),xs=[.ref p]/\SqL K H p (bs.map V.bl)/\Q (.bl (bs.all id)) H) (sV (zz (Ir K (CW i)) src (bu j) uX te) Gy) σ H Q:=by
 refine⟨_,oI,a,rfl,⟨xs,SqT.of ea⟩,tM (j:=j) f ea r hl Au fun H2 s2 D hD=>⟨D,ds.map f,rfl,?_,?_⟩⟩
 .rw[<-zH];exact SqL.of aj
 .rw[Hl];exact q _ (s2.updR hD)
structure Nums(mg:Str->Option Value):Prop where
 sorts:∃t,mg "SORTS"=some (.int 3 t)
 holders:∃t,mg "HOLDERS"=some (.int 8 t)
 year:∃t,mg "LAST_YEAR"=some (.int 19 t)
 clips:∃t,mg "MOST_CLIPS"=some (.int 20 t)
 proms:∃t,mg "MOST_PROMISES"=some (.int 10 t)
 wool:∃t,mg "MOST_WOOL"=some (.int 999 t)
 sacks:∃t,mg "MOST_SACKS"=some (.int 99 t)
 price:∃t,mg "MOST_PRICE"=some (.int 1000000 t)
theorem jz{d:PyData}{n:Int}(h:bj d n=true):bz d n n=true/\∀x∈items d,cP x=true:=by
 unfold bj at h;rw[zAc]at h;exact⟨h.1,List.all_eq_true.mp h.2⟩
theorem jA{S:Addr->Prop}{H:Hp}{v:V}{d:PyData}(h:IsTh S H v d)(e:cP d=true):∃i,v=.int i/\d=.int i:=by
 cases h with
 |int i=>exact⟨i,rfl,rfl⟩
 |_=>cases e
theorem ji{α:Type}{n:Nat}{l:List α}(h:l.length=n+1):∃a t,l=a::t/\t.length=n:=by
 cases l with
 |nil=>cases h
 |cons a t=>exact⟨a,t,rfl,Nat.succ.inj h⟩
theorem Jv{α:Type}{l:List α}(h:l.length=5):∃a b c d e,l=[a,b,c,d,e]:=by
 obtain⟨a,l1,e1,h1⟩:=ji h;obtain⟨b,l2,e2,h2⟩:=ji h1;obtain⟨c,l3,e3,h3⟩:=ji h2;obtain⟨d,l4,e4,h4⟩:=ji h3;obtain⟨e,l5,e5,h5⟩:=ji h4;exact⟨a,b,c,d,e,by rw[e1,e2,e3,e4,e5,List.length_eq_zero_iff.mp h5]⟩
theorem Jw{α:Type}{l:List α}(h:l.length=6):∃a b c d e f,l=[a,b,c,d,e,f]:=by
 obtain⟨a,l1,e1,h1⟩:=ji h;obtain⟨b,c,d,e,f,e2⟩:=Jv h1;exact⟨a,b,c,d,e,f,by rw[e1,e2]⟩
theorem fV{S:Addr->Prop}{H:Hp}{xs:List V}{d:PyData}{ds:List PyData}(r:IsThs S H xs (d::ds))(e:cP d=true):∃i t,xs=.int i::t/\d=.int i/\IsThs S H t ds:=by
 cases r with
 |cons h1 r=>
  obtain⟨i,rfl,rfl⟩:=jA h1 e;exact⟨i,_,rfl,rfl,r⟩
theorem mG{S:Addr->Prop}{H:Hp}{xs:List V}{d:PyData}{ds:List PyData}(r:IsThs S H xs (d::ds)):∃v t,xs=v::t/\IsTh S H v d/\IsThs S H t ds:=by
 cases r with
 |cons h1 r=>exact⟨_,_,rfl,h1,r⟩
theorem yF{S:Addr->Prop}{H:Hp}{xs:List V}{ds:List PyData}(r:IsThs S H xs ds)(hl:ds.length=3):∃v0 v1 v2 d0 d1 d2,xs=[v0,v1,v2]/\ds=[d0,d1,d2]/\IsTh S H v0 d0/\IsTh S H v1 d1/\IsTh S H v2 d2:=by
 obtain⟨d0,l1,e1,h1⟩:=ji hl;obtain⟨d1,l2,e2,h2⟩:=ji h1;obtain⟨d2,l3,e3,h3⟩:=ji h2;have e:ds=[d0,d1,d2]:=by rw[e1,e2,e3,List.length_eq_zero_iff.mp h3]
 subst e;obtain⟨v0,t0,f0,i0,r0⟩:=mG r;obtain⟨v1,t1,f1,i1,r1⟩:=mG r0;obtain⟨v2,t2,f2,i2,r2⟩:=mG r1;cases r2;exact⟨v0,v1,v2,d0,d1,d2,by rw[f0,f1,f2],rfl,i0,i1,i2⟩
theorem Bm{S:Addr->Prop}{H:Hp}{xs:List V}{ds:List PyData}(r:IsThs S H xs ds)(hl:ds.length=6)(hw:∀x∈ds,cP x=true):
  ∃i1 i2 i3 i4 i5 i6:Int,xs=[.int i1,.int i2,.int i3,.int i4,.int i5,.int i6]/\ds=[.int i1,.int i2,.int i3,.int i4,.int i5,.int i6]:=by
 obtain⟨d1,d2,d3,d4,d5,d6,rfl⟩:=Jw hl;obtain⟨i1,t1,e1,rfl,r1⟩:=fV r (hw _ Zy);obtain⟨i2,t2,e2,rfl,r2⟩:=fV r1 (hw _ Zy);obtain⟨i3,t3,e3,rfl,r3⟩:=fV r2 (hw _ Zy);obtain⟨i4,t4,e4,rfl,r4⟩:=fV r3 (hw _ Zy);obtain⟨i5,t5,e5,rfl,r5⟩:=fV r4 (hw _ Zy);obtain⟨i6,t6,e6,rfl,r6⟩:=fV r5 (hw _ Zy);cases r6;exact⟨i1,i2,i3,i4,i5,i6,by rw[e1,e2,e3,e4,e5,e6],rfl⟩
theorem yG{ds:List PyData}{n m:Int}(h:bz (.tuple ds) n m=true):n<=(ds.length:Int)/\(ds.length:Int)<=m:=by
 have h:(true&&(decide (n<=(ds.length:Int))&&decide ((ds.length:Int)<=m)))=true:=h;rw[Bool.true_and,zAc]at h;exact⟨zBa h.1,zBa h.2⟩
def Cal(P:Program)(w:World)(K:Frag)(mg:Str->Option Value)(base:Heap)(k:Nat)(x:Str)(ps:List Str)(sp:Sp):Prop:=
 ∃f fd,FnOk P w K mg base CX0 k f fd ps sp/\mg x=some (.ref f)/\PySem.W.keepIn K (.ref f)=true/\Binds K fd ps []
theorem aG{X:Cx}{k j:Nat}{x:Str}{ps:List Str}{sp:Sp}{p pos:Pos}{e:Expr}{es:List Expr}{t:TA}(c:Cal X.prog X.w X.K X.mg X.base j x ps sp)(hr:Room k X.A)(ha:PA X (e::es) t)(NZ:j<=k:=by decide)(hg:Gl X x:=by exact rfl)
  (qv:(x==("__debug__":Str))=false:=by decide) (he:starEach (e::es) X.env=(false,eval e X.env)::starEach es X.env:=by rfl) (oo:(backTo pos (starEach es X.env)).any (·.1)=false:=by rfl):
  PE X (.Call (.Name x p) (e::es) [] pos) (FT sp [] E0 t):=by
 obtain⟨f,fd,F,hm,hk,hb⟩:=c;exact Dh F (hr.mono NZ) hg hm hk hb .nil J5 ha qv he oo
variable{P:Program}{w:World}{K:Frag}{mg:Str->Option Value}{base:Heap}{f:Addr}{fd:FuncData}
theorem sc1:FnScope ["thing"] ["thing"] (aJ (top 11)):=fQS
theorem uA(F:Fun K "is_whole" "is_whole" (top 11) f fd)(T:Mg mg):FnOk P w K mg base CX0 1 f fd ["thing"] (spT cP):=by
 refine F.ok sc1 (fun vs H Q E h=>?_) (fun ar A outer s H vs Q E hr h=>?_)
 .obtain⟨S,v,d,rfl,_⟩:=h;rfl
 .obtain⟨S,v,d,rfl,th,hz,q⟩:=h
  refine⟨_,aD (aQ (bY (aO gM rfl T.isinstance boot_isinstance (aP (pv 0) (aP (qp rfl T.int boot_int (v:=.ty "int") rfl) ao)))
   (dC (Gq (aO gM rfl T.isinstance boot_isinstance (aP (pv 0) (aP (qp rfl T.bool boot_bool (v:=.ty "bool") rfl) ao))))))),?_⟩
  refine⟨_,rfl,v,_,"int",qM d,rfl,th.ty,Dv d,_,rfl,?_⟩;have fin:=q H (Same.refl H);unfold cP at fin
  cases e:qM d with
  |false=>
   rw[e]at fin;exact bD fin
  |true=>
   rw[e]at fin;exact bQ ⟨_,rfl,v,_,"bool",qN d,rfl,th.ty,zG d,_,rfl,fin⟩
theorem sc2:FnScope ["thing","fewest","most"] ["thing","fewest","most"] (aJ (top 13)):=fQS
theorem mH(F:Fun K "is_tuple_of" "is_tuple_of" (top 13) f fd)(T:Mg mg):FnOk P w K mg base CX0 1 f fd ["thing","fewest","most"] (jR bz):=by
 refine F.ok sc2 (fun vs H Q E h=>?_) (fun ar A outer s H vs Q E hr h=>?_)
 .obtain⟨S,v,d,n,m,rfl,_⟩:=h;rfl
 .obtain⟨S,v,d,n,m,rfl,th,hz,q⟩:=h
  refine⟨_,aD (aQ (bY (aO gM rfl T.isinstance boot_isinstance (aP (pv 0) (aP (qp rfl T.tuple boot_tuple (v:=.ty "tuple") rfl) ao)))
   (dC (cJ bW bW (pv 1) (aO bh rfl T.len PySem.boot_len (aP (pv 0) ao)) (pv 2))))),?_⟩
  refine⟨_,rfl,v,_,"tuple",qO d,rfl,th.ty,Dw d,_,rfl,?_⟩;have fin:=q H (Same.refl H);unfold bz at fin
  cases e:qO d with
  |false=>
   rw[e]at fin;exact bD fin
  |true=>
   rw[e]at fin;refine bQ ?_
   cases th with
   |@tup a xs ds ea r=>
    have hl:=r.length;refine⟨_,rfl,_,rfl,a,xs,rfl,.inr (SqT.of ea),_,_,rfl,rfl,_,rfl,?_⟩;rw[hl];have fin:Q (.bl (true&&(decide (n<=(ds.length:Int))&&decide ((ds.length:Int)<=m)))) H:=fin
    cases e1:decide (n<=(ds.length:Int))with
    |false=>
     rw[e1]at fin;exact bD fin
    |true=>
     rw[e1]at fin;exact bQ ⟨_,rfl,_,_,rfl,rfl,fin⟩
   |_=>cases e
theorem sc3:FnScope ["thing","many"] ["thing","many"] (aJ (top 14)):=fQS
theorem nR(F:Fun K "are_wholes" "are_wholes" (top 14) f fd)(T:Mg mg)(c1:Cal P w K mg base 1 "is_whole" ["thing"] (spT cP))(c2:Cal P w K mg base 1 "is_tuple_of" ["thing","fewest","most"] (jR bz)):
  FnOk P w K mg base CX0 2 f fd ["thing","many"] (Eo bj):=by
 refine F.ok sc3 (fun vs H Q E h=>?_) (fun ar A outer s H vs Q E hr h=>?_)
 .obtain⟨S,v,d,n,rfl,_⟩:=h;rfl
 .obtain⟨S,v,d,n,rfl,th,hz,q⟩:=h
  refine⟨_,aD (aQ (bY (aG c2 hr (aP (pv 0) (aP (pv 1) (aP (pv 1) ao))))
   (dC (aO (eQ rfl) rfl T.all boot_all (aP (bK ["part"] [none] rfl (gf (pv 0))
    (fun C fp Zt s₂ H₂=>⟨bw (i:=0) (nd1 _) rfl (Or.inl rfl),bH,aG c1 hr (aP (pv 0) ao)⟩) (fun C=>trivial) ⟨rfl,rfl,rfl,rfl⟩) ao))))),?_⟩
  refine⟨_,rfl,_,rfl,_,rfl,S,v,d,n,n,rfl,th,hz,fun H1 s1=>⟨_,rfl,?_⟩⟩;have eI:=th.same s1
  cases e:bz d n n with
  |false=>
   refine bD ?_;have fin:=q H1 s1;unfold bj at fin;rw[e]at fin;exact fin
  |true=>
   refine bQ ?_
   cases eI with
   |@tup a xs ds ea r=>
    have ew:bj (.tuple ds) n=ds.all cP:=by unfold bj;rw[e];rfl
    refine cU cP rfl ea r (eZ r hz) (fun v d H2 Q2 hm s2 t2 q2=>⟨_,rfl,S,v,d,rfl,t2,jh hm hz,q2⟩) fun H2 s2=>?_;rw[<-ew];exact q _ (s1.trans s2)
   |_=>cases e
theorem sc13:FnScope ["thing"] ["thing"] (aJ (top 25)):=fQS
theorem vC(F:Fun K "is_clip" "is_clip" (top 25) f fd)(T:Mg mg)(N:Nums mg)(c1:Cal P w K mg base 2 "are_wholes" ["thing","many"] (Eo bj)):
  FnOk P w K mg base CX0 3 f fd ["thing"] (spT pN):=by
 refine F.ok sc13 (fun vs H Q E h=>?_) (fun ar A outer s H vs Q E hr h=>?_)
 .obtain⟨S,v,d,rfl,_⟩:=h;rfl
 .obtain⟨S,v,d,rfl,th,hz,q⟩:=h;obtain⟨t3,e3⟩:=N.sorts;obtain⟨t9,e9⟩:=N.wool
  refine⟨_,aD (aQ (bY (aG c1 hr (aP (pv 0) (aP (bR (v:=.int 3) rfl e3 ⟨_,rfl⟩) ao)))
   (dC (aO (eQ rfl) rfl T.all boot_all (aP (bK ["sacks"] [none] rfl (gf (pv 0))
    (fun C fp Zt s₂ H₂=>⟨bw (i:=0) (nd1 _) rfl (Or.inl rfl),bH,cJ bW bW az (pv 0) (bR (v:=.int 999) rfl e9 ⟨_,rfl⟩)⟩) (fun C=>trivial) ⟨rfl,rfl,rfl,rfl⟩) ao))))),?_⟩
  refine⟨_,rfl,S,v,d,3,rfl,th,hz,fun H1 s1=>⟨_,rfl,?_⟩⟩;have eI:=th.same s1;have fin:=fun H' (s:Same H H')=>q H' s;unfold pN at fin
  cases e:bj d 3 with
  |false=>
   rw[e]at fin;exact bD (fin _ s1)
  |true=>
   rw[e]at fin;refine bQ ?_;obtain⟨e1,e2⟩:=jz e
   cases eI with
   |@tup a xs ds ea r=>
    refine cU (fun x=>decide (0<=intOf x)&&decide (intOf x<=999)) rfl ea r (eZ r hz) (fun v d H2 Q2 hm s2 t2 q2=>?_) fun H2 s2=>fin _ (s1.trans s2);obtain⟨i,rfl,rfl⟩:=jA t2 (e2 d hm);refine⟨_,rfl,_,_,rfl,rfl,_,rfl,?_⟩;have q3:=q2 H2 (Same.refl _);show if decide ((0:Int)<=i)=true then _ else _
    cases e5:decide ((0:Int)<=i)with
    |false=>
     refine bD ?_;have q3:Q2 (.bl (decide ((0:Int)<=i)&&decide (i<=999))) H2:=q3;rw[e5]at q3;exact q3
    |true=>
     refine bQ ⟨_,_,rfl,rfl,?_⟩;have q3:Q2 (.bl (decide ((0:Int)<=i)&&decide (i<=999))) H2:=q3;rw[e5]at q3;exact q3
   |_=>cases e1
theorem sc14:FnScope ["thing"] ["thing"] (aJ (top 26)):=fQS
theorem rK(F:Fun K "are_clips" "are_clips" (top 26) f fd)(T:Mg mg)(N:Nums mg)(c1:Cal P w K mg base 3 "is_clip" ["thing"] (spT pN))(c2:Cal P w K mg base 1 "is_tuple_of" ["thing","fewest","most"] (jR bz)):
  FnOk P w K mg base CX0 4 f fd ["thing"] (spT gW):=by
 refine F.ok sc14 (fun vs H Q E h=>?_) (fun ar A outer s H vs Q E hr h=>?_)
 .obtain⟨S,v,d,rfl,_⟩:=h;rfl
 .obtain⟨S,v,d,rfl,th,hz,q⟩:=h;obtain⟨t3,e3⟩:=N.clips
  refine⟨_,aD (aQ (bY (aG c2 hr (aP (pv 0) (aP az (aP (bR (v:=.int 20) rfl e3 ⟨_,rfl⟩) ao))))
   (dC (aO (eQ rfl) rfl T.all boot_all (aP (bK ["part"] [none] rfl (gf (pv 0))
    (fun C fp Zt s₂ H₂=>⟨bw (i:=0) (nd1 _) rfl (Or.inl rfl),bH,aG c1 hr (aP (pv 0) ao)⟩) (fun C=>trivial) ⟨rfl,rfl,rfl,rfl⟩) ao))))),?_⟩
  refine⟨_,rfl,S,v,d,1,20,rfl,th,hz,fun H1 s1=>⟨_,rfl,?_⟩⟩;have eI:=th.same s1;have fin:=fun H' (s:Same H H')=>q H' s;unfold gW at fin
  cases e:bz d 1 20 with
  |false=>
   rw[e]at fin;exact bD (fin _ s1)
  |true=>
   rw[e]at fin;refine bQ ?_
   cases eI with
   |@tup a xs ds ea r=>exact cU pN rfl ea r (eZ r hz) (fun v d H2 Q2 hm s2 t2 q2=>⟨_,rfl,S,v,d,rfl,t2,jh hm hz,q2⟩) fun H2 s2=>fin _ (s1.trans s2)
   |_=>cases e
theorem sc15:FnScope ["thing","holder","sort","first","last","sacks","price"] ["thing"] (aJ (top 27)):=fQS
theorem nW(F:Fun K "is_promise" "is_promise" (top 27) f fd)(T:Mg mg)(N:Nums mg)(c1:Cal P w K mg base 2 "are_wholes" ["thing","many"] (Eo bj)):
  FnOk P w K mg base CX0 3 f fd ["thing"] (spT gY):=by
 refine F.ok sc15 (fun vs H Q E h=>?_) (fun ar A outer s H vs Q E hr h=>?_)
 .obtain⟨S,v,d,rfl,_⟩:=h;rfl
 .obtain⟨S,v,d,rfl,th,hz,q⟩:=h;obtain⟨t1,e1⟩:=N.holders;obtain⟨t2,e2⟩:=N.sorts;obtain⟨t3,e3⟩:=N.year;obtain⟨t4,e4⟩:=N.sacks;obtain⟨t5,e5⟩:=N.price
  refine⟨_,aB (bZ (cX (eF (aG c1 hr (aP (pv 0) (aP az ao))))) (aD (aQ jG)) bf)
   (aB (cA (pv 0) (bL rfl (aq (pgn 1 sc15.nd) (aq (pgn 2 sc15.nd) (aq (pgn 3 sc15.nd)
    (aq (pgn 4 sc15.nd) (aq (pgn 5 sc15.nd) (aq (pgn 6 sc15.nd) aV))))))))
   (aD (aQ (bY (cJ bW gB az (pv 1) (bR (v:=.int 8) rfl e1 ⟨_,rfl⟩)) (bY (cJ bW gB az (pv 2) (bR (v:=.int 3) rfl e2 ⟨_,rfl⟩))
    (bY (yp bW bW bW az (pv 3) (pv 4) (bR (v:=.int 19) rfl e3 ⟨_,rfl⟩)) (bY (cJ bW bW az (pv 5) (bR (v:=.int 99) rfl e4 ⟨_,rfl⟩))
     (dC (cJ bW bW az (pv 6) (bR (v:=.int 1000000) rfl e5 ⟨_,rfl⟩)))))))))),?_⟩
  refine⟨_,rfl,S,v,d,6,rfl,th,hz,fun H1 s1=>⟨_,rfl,?_⟩⟩;have eI:=th.same s1;have fin:=fun H' (s:Same H H')=>q H' s;unfold gY at fin
  cases e:bj d 6 with
  |false=>
   rw[e]at fin;exact bQ (fin _ s1)
  |true=>
   rw[e]at fin;refine bD ?_;obtain⟨z1,z2⟩:=jz e
   cases eI with
   |@tup a xs ds ea r=>
    have hl:ds.length=6:=by
     have:=yG z1;lia
    obtain⟨i1,i2,i3,i4,i5,i6,rfl,rfl⟩:=Bm r hl z2;refine⟨_,rfl,a,_,rfl,SqT.of ea,rfl,_,_,rfl,_,_,rfl,_,_,rfl,_,_,rfl,_,_,rfl,_,_,rfl,rfl,?_⟩;refine gO (cD gh (f9 rfl) gh) (fun _=>gO (cD gh (f9 rfl) gh) fun _=>gO (yq gh (f9 rfl) (f9 rfl) gh) fun _=>gO (cD gh (f9 rfl) gh) fun _=>cD gh (f9 rfl) gh) _ ?_;exact fin H1 s1
   |_=>cases z1
theorem Kr:FnScope ["thing"] ["thing"] (aJ (top 28)):=fQS
theorem jT(F:Fun K "are_promises" "are_promises" (top 28) f fd)(T:Mg mg)(N:Nums mg)(c1:Cal P w K mg base 3 "is_promise" ["thing"] (spT gY))(c2:Cal P w K mg base 1 "is_tuple_of" ["thing","fewest","most"] (jR bz)):
  FnOk P w K mg base CX0 4 f fd ["thing"] (spT dF):=by
 refine F.ok Kr (fun vs H Q E h=>?_) (fun ar A outer s H vs Q E hr h=>?_)
 .obtain⟨S,v,d,rfl,_⟩:=h;rfl
 .obtain⟨S,v,d,rfl,th,hz,q⟩:=h;obtain⟨t3,e3⟩:=N.proms
  refine⟨_,aD (aQ (bY (aG c2 hr (aP (pv 0) (aP az (aP (bR (v:=.int 10) rfl e3 ⟨_,rfl⟩) ao))))
   (dC (aO (eQ rfl) rfl T.all boot_all (aP (bK ["part"] [none] rfl (gf (pv 0))
    (fun C fp Zt s₂ H₂=>⟨bw (i:=0) (nd1 _) rfl (Or.inl rfl),bH,aG c1 hr (aP (pv 0) ao)⟩) (fun C=>trivial) ⟨rfl,rfl,rfl,rfl⟩) ao))))),?_⟩
  refine⟨_,rfl,S,v,d,0,10,rfl,th,hz,fun H1 s1=>⟨_,rfl,?_⟩⟩;have eI:=th.same s1;have fin:=fun H' (s:Same H H')=>q H' s;unfold dF at fin
  cases e:bz d 0 10 with
  |false=>
   rw[e]at fin;exact bD (fin _ s1)
  |true=>
   rw[e]at fin;refine bQ ?_
   cases eI with
   |@tup a xs ds ea r=>exact cU gY rfl ea r (eZ r hz) (fun v d H2 Q2 hm s2 t2 q2=>⟨_,rfl,S,v,d,rfl,t2,jh hm hz,q2⟩) fun H2 s2=>fin _ (s1.trans s2)
   |_=>cases e
def nY(d:PyData)(lo hi:Int):Bool:=cP d&&(decide (lo<=intOf d)&&decide (intOf d<=hi))
theorem uB{X:Cx}{K:Frag}(hK:X.K=K):IxR X (J1 K):=by
 subst hK;exact bM
theorem boot_min:bootBuiltins "min"=some (.builtin "min"):=by decide +kernel
theorem room_un{A:Around}{k:Nat}(hr:Room k A):A.units<cLine:=by
 have:=hr.un;lia
def rowD(r:List Int):PyData:=.tuple (r.map .int)
def bU(rs:List (List Int)):PyData:=.tuple (rs.map rowD)
def fl(r:List Int)(i:Nat):Int:=r.getD i 0
def okP(r:List Int):Prop:=r.length=6/\(0<=fl r 0/\fl r 0<8)/\(0<=fl r 1/\fl r 1<3)/\(0<=fl r 2/\fl r 2<=fl r 3/\fl r 3<=19)/\(1<=fl r 4/\fl r 4<=99)/\(0<=fl r 5/\fl r 5<=1000000)
def dG(d:PyData):Bool:=bz d 0 12&&(items d).all fun x=>bj x 5
def rowsOf(d:PyData):List (List Int):=(items d).map fun x=>(items x).map intOf
theorem Bo:∀{ds:List PyData},(∀x∈ds,cP x=true)->ds=(ds.map intOf).map PyData.int
 |[],_=>rfl
 |d::ds,h=>by
  rw[zAk,zAk,<-Bo fun x hx=>h x (List.mem_cons_of_mem _ hx)];have:=h d List.mem_cons_self
  cases d with
  |int i=>rfl
  |_=>cases this
theorem iW{x:PyData}{n:Nat}(h:bj x n=true):x=rowD ((items x).map intOf)/\((items x).map intOf).length=n:=by
 obtain⟨h1,h2⟩:=jz h;unfold bz at h1;rw[zAc,zAc,Zp,Zp]at h1;obtain⟨ht,gg,ki⟩:=h1
 cases x with
 |tuple ds=>
  have gg:(n:Int)<=ds.length:=gg;have ki:(ds.length:Int)<=n:=ki;refine⟨?_,by show(ds.map intOf).length=n;rw[zA1];lia⟩;exact congrArg PyData.tuple (Bo h2)
 |_=>cases ht
theorem xm{ds:List PyData}{n:Nat}(h:∀x∈ds,bj x n=true):ds=(ds.map fun x=>(items x).map intOf).map rowD:=by
 induction ds with
 |nil=>rfl
 |cons d ds ih=>
  rw[zAk,zAk,<-ih fun x hx=>h x (List.mem_cons_of_mem _ hx),<-(iW (h d List.mem_cons_self)).1]
theorem jB{d:PyData}{f m:Int}(h:bz d f m=true):∃ds,d=.tuple ds/\f<=ds.length/\(ds.length:Int)<=m:=by
 unfold bz at h;rw[zAc,zAc,Zp,Zp]at h
 cases d with
 |tuple ds=>exact⟨ds,rfl,h.2⟩
 |_=>cases h.1
theorem pO(r:List Int)(i:Nat)(h:i<r.length):at_ (rowD r) i=fl r i:=by
 show intOf ((r.map PyData.int).getD i .none)=r.getD i 0;rw[zA7,zA7,zAb,zA0 h];rfl
theorem vD{d:PyData}(h:dF d=true):d=bU (rowsOf d)/\(rowsOf d).length<=10/\∀r∈rowsOf d,okP r:=by
 unfold dF at h;rw[zAc]at h;obtain⟨ds,rfl,_,hl⟩:=jB h.1;have h2:∀x∈ds,gY x=true:=List.all_eq_true.mp h.2
 have h3:∀x∈ds,bj x 6=true:=fun x hx=>by
  have:=h2 x hx;unfold gY at this;rw[zAc]at this;exact this.1
 refine⟨congrArg PyData.tuple (xm (n:=6) h3),by show(ds.map _).length<=10;rw[zA1];lia,fun r hr=>?_⟩;obtain⟨x,hx,rfl⟩:=zA5.mp hr;have hx:x∈ds:=hx;obtain⟨e,N0⟩:=iW (n:=6) (h3 x hx);have:=h2 x hx;unfold gY at this;rw[zAc]at this;have p:=this.2;rw[e]at p;rw[pO _ 0 Zz,pO _ 1 Zz,pO _ 2 Zz,pO _ 3 Zz,pO _ 4 Zz,pO _ 5 Zz]at p;unfold jy at p;simp only[Bool.and_eq_true,Zp]at p;obtain⟨⟨a1,a2⟩,⟨b1,b2⟩,⟨c1,c2,c3⟩,⟨d1,d2⟩,e1,e2⟩:=p;exact⟨N0,⟨a1,a2⟩,⟨b1,b2⟩,⟨c1,c2,c3⟩,⟨d1,d2⟩,e1,e2⟩
theorem vG{d:PyData}(h:dG d=true):d=bU (rowsOf d)/\(rowsOf d).length<=12/\∀r∈rowsOf d,r.length=5:=by
 unfold dG at h;rw[zAc]at h;obtain⟨ds,rfl,_,hl⟩:=jB h.1;have h3:∀x∈ds,bj x 5=true:=List.all_eq_true.mp h.2;refine⟨congrArg PyData.tuple (xm (n:=5) h3),by show(ds.map _).length<=12;rw[zA1];lia,fun r hr=>?_⟩;obtain⟨x,hx,rfl⟩:=zA5.mp hr;exact(iW (n:=5) (h3 x hx)).2
structure RowsAt(H:Hp)(a:Addr)(xs:List V)(rs:List (List Int)):Prop where
 e:H a=some (.tup xs)
 l:xs.length=rs.length
 g:∀(i:Nat) (r:List Int),rs[i]?=some r->∃t,xs[i]?=some (V.ref t)/\H t=some (.tup (r.map V.int))
theorem RowsAt.keep{H H':Hp}{a:Addr}{xs:List V}{rs:List (List Int)}(h:RowsAt H a xs rs)(k:∀b l,H b=some (.tup l)->H' b=some (.tup l)):RowsAt H' a xs rs:=
 ⟨k _ _ h.e,h.l,fun i r e=>by
  obtain⟨t,e1,e2⟩:=h.g i r e
  exact⟨t,e1,k _ _ e2⟩⟩
theorem RowsAt.same{H H':Hp}{a:Addr}{xs:List V}{rs:List (List Int)}(h:RowsAt H a xs rs)(s:Same H H'):RowsAt H' a xs rs:=h.keep fun _ _ e=>s _ _ e
theorem uC{S:Addr->Prop}{H:Hp}:∀{r:List Int} {xs:List V},IsThs S H xs (r.map .int)->xs=r.map V.int
 |[],_,.nil=>rfl
 |i::r,_,.cons h t=>by
  cases h;rw[uC (r:=r) t];rfl
theorem HJ{S:Addr->Prop}{H:Hp}{v:V}{r:List Int}(h:IsTh S H v (rowD r)):∃t,v=V.ref t/\H t=some (.tup (r.map V.int)):=by
 generalize hd:rowD r=d at h
 cases h with
 |@tup a xs ds e t=>
  injection hd with hd;subst hd;rw[uC t]at e;exact⟨a,rfl,e⟩
 |_=>cases hd
theorem th_rows{S:Addr->Prop}{H:Hp}{v:V}{rs:List (List Int)}(h:IsTh S H v (bU rs)):∃a xs,v=.ref a/\RowsAt H a xs rs:=by
 generalize hd:bU rs=d at h
 cases h with
 |@tup a xs ds e t=>
  injection hd with hd;subst hd;refine⟨a,xs,rfl,e,by rw[t.length,zA1],fun i r hr=>?_⟩;have hi:i<rs.length:=(zAa.mp hr).1;have hx:xs[i]?=some (xs[i]'(by rw[t.length,zA1];exact hi)):=zA0 _;obtain⟨d,h1,h2⟩:=t.get hx;rw[zAb,hr]at h1;injection h1 with h1;subst h1;obtain⟨t',e1,e2⟩:=HJ h2;exact⟨t',by rw[hx,e1],e2⟩
 |_=>cases hd
theorem RowsAt.th{H:Hp}{a:Addr}:∀{rs:List (List Int)} {xs:List V},RowsAt H a xs rs->IsTh (fun _=>False) H (.ref a) (bU rs):=by
 intro rs xs h;refine .tup h.e ?_
 have gen:∀(rs:List (List Int)) (xs:List V),xs.length=rs.length->(∀(i:Nat) (r:List Int),rs[i]?=some r->∃t,xs[i]?=some (V.ref t)/\H t=some (.tup (r.map V.int)))->IsThs (fun _=>False) H xs (rs.map rowD):=by
  intro rs
  induction rs with
  |nil=>
   intro xs hl _;have:xs=[]:=List.length_eq_zero_iff.mp hl;subst this;exact .nil
  |cons r rs ih=>
   intro xs hl hg
   cases xs with
   |nil=>simp at hl
   |cons x xs=>
    obtain⟨t,e1,e2⟩:=hg 0 r rfl;have e1:x=.ref t:=by simpa using e1
    subst e1;exact .cons (.tup e2 (IsThs.ints r)) (ih xs (by simpa using hl) fun i r' e=>hg (i+1) r' (by simpa using e))
 exact gen rs xs h.l h.g
def fW(L:List Int)(i:Int)(v:Int):List Int:=L.set i.toNat (L.getD i.toNat 0+v)
def hstep(n y:Int)(L:List Int)(s:List Int):List Int:=if fl s 0=n/\fl s 4<=y then fW (fW L (fl s 1) (-(fl s 3))) (fl s 2) (fl s 3)else L
def base0(p:List Int):List Int:=(List.replicate 8 0).set (fl p 0).toNat (fl p 4)
def bI(p:List Int)(ss:List (List Int))(n y:Int):List Int:=if fl p 2<=y/\y<=fl p 3 then ss.foldl (hstep n y) (base0 p)else List.replicate 8 0
def jU(ps:List (List Int))(s:List Int):List Int:=ps.getD (fl s 0).toNat []
def nZ(ps:List (List Int))(s:List Int):Bool:=(decide (0<=fl s 0)&&decide (fl s 0<ps.length))&&((decide (0<=fl s 1)&&decide (fl s 1<8))&&((decide (0<=fl s 2)&&decide (fl s 2<8))&&((!decide (fl s 1=fl s 2))&&((decide (1<=fl s 3)&&decide (fl s 3<=99))&&(decide (fl (jU ps s) 2<=fl s 4)&&decide (fl s 4<=fl (jU ps s) 3))))))
def years(a b:Int):List Int:=(List.range (b+1-a).toNat).map fun(i:Nat)=>a+i
def bT(ps ss:List (List Int))(s:List Int):Bool:=nZ ps s&&(years (fl s 4) (fl (jU ps s) 3)).all fun y=>decide (fl s 3<=(bI (jU ps s) ss (fl s 0) y).getD (fl s 1).toNat 0)
def un(ps ss:List (List Int)):Option Nat:=(List.range ss.length).find? fun i=>!bT ps (ss.take i) (ss.getD i [])
theorem gZ(L:List Int)(i v:Int):(fW L i v).length=L.length:=by unfold fW;rw[List.length_set]
theorem yH(n y:Int)(L s:List Int):(hstep n y L s).length=L.length:=by
 unfold hstep;split
 .rw[gZ,gZ]
 .rfl
theorem dY(p:List Int)(ss:List (List Int))(n y:Int):(bI p ss n y).length=8:=by
 unfold bI;split
 .have:∀(ss:List (List Int)) (L:List Int),L.length=8->(ss.foldl (hstep n y) L).length=8:=by
   intro ss
   induction ss with
   |nil=>exact fun L h=>h
   |cons s ss ih=>exact fun L h=>ih _ (by rw[yH];exact h)
  exact this ss _ (by unfold base0;rw[List.length_set,List.length_replicate])
 .rw[List.length_replicate]
theorem iC{X:Cx}:Ip X (fun x y H Q=>Xe4 fun p xs i v=>Xa6 (x=.ref p) (y=.int i) (SqL X.K H p xs) (0<=i) (xs[i.toNat]?=some v) (Q v H)):=by
 intro Zt s σ H x y v u Q I rx ry h;obtain⟨p,xs,i,z,rfl,rfl,hq,h0,he,q⟩:=h;cases rx;obtain⟨t,rfl⟩:=ry;obtain⟨Zr,r,pl,hz⟩:=I.list hq;obtain⟨w,ew,de⟩:=r.get he;have hn:=kJ;have hl:=r.length;have hi:=(zAa.mp he).1;exact PySem.wpAny_getItem_list pl.isList h0 Zz (by simpa using ew) ⟨z,H,I,de,q⟩
theorem six_row{p:List Int}(h:p.length=6):p=[fl p 0,fl p 1,fl p 2,fl p 3,fl p 4,fl p 5]:=by
 obtain⟨a,b,c,d,e,f,rfl⟩:=Jw h;rfl
theorem jj{p:List Int}(h:p.length=5):p=[fl p 0,fl p 1,fl p 2,fl p 3,fl p 4]:=by
 obtain⟨a,b,c,d,e,rfl⟩:=Jv h;rfl
theorem rM(L:List Int)(i:Nat)(v:Int):(L.map V.int).set i (.int v)=(L.set i v).map V.int:=by rw[List.map_set]
theorem rN{L:List Int}{i:Nat}(h:i<L.length):(L.map V.int)[i]?=some (.int (L.getD i 0)):=by
 rw[zAb,zA0 h,zA7,zA0 h];rfl
theorem xn{n:Nat}{i:Int}(h0:0<=i)(h1:i<n):ixN n i=some i.toNat:=by
 unfold ixN;rw[zAz h0,zAz h1]
def okS(s:List Int):Prop:=s.length=5/\(0<=fl s 1/\fl s 1<8)/\(0<=fl s 2/\fl s 2<8)
inductive SpHeldI(vs:List V)(H:Hp)(Q:VK):Prop
 |mk:∀ap xp ps af xs ss n y,(vs=[.ref ap,.ref af,.int n,.int y])->(RowsAt H ap xp ps)->(RowsAt H af xs ss)->(0<=n)->(n<ps.length)->(okP (ps.getD n.toNat []))->(ss.length<=12)->((∀s∈ss,okS s))->(∀l H',Same H H'->H' l=some (.lst ((bI (ps.getD n.toNat []) ss n y).map V.int))->Q (.ref l) H')->SpHeldI  vs H Q
def vH:Sp:=fun vs H Q _=>SpHeldI  vs H Q
structure MS(mg:Str->Option Value):Prop where
 sales:∃t,mg "MOST_SALES"=some (.int 12 t)
theorem Jx:FnScope ["thing"] ["thing"] (aJ (top 29)):=fQS
theorem rO(F:Fun K "are_sales" "are_sales" (top 29) f fd)(T:Mg mg)(N:MS mg)(c1:Cal P w K mg base 2 "are_wholes" ["thing","many"] (Eo bj))(c2:Cal P w K mg base 1 "is_tuple_of" ["thing","fewest","most"] (jR bz)):
  FnOk P w K mg base CX0 3 f fd ["thing"] (spT dG):=by
 refine F.ok Jx (fun vs H Q E h=>?_) (fun ar A outer s H vs Q E hr h=>?_)
 .obtain⟨S,v,d,rfl,_⟩:=h;rfl
 .obtain⟨S,v,d,rfl,th,hz,q⟩:=h;obtain⟨t3,e3⟩:=N.sales
  refine⟨_,aD (aQ (bY (aG c2 hr (au (pv 0) (au az (au (bR (v:=.int 12) rfl e3 ⟨_,rfl⟩) ao))))
   (dC (aO (eQ rfl) rfl T.all boot_all (au (bK ["part"] [none] rfl (gf (pv 0))
    (fun C fp Zt s₂ H₂=>⟨bw (i:=0) (nd1 _) rfl (Or.inl rfl),bH,aG c1 hr (au (pv 0) (au az ao))⟩) (fun C=>trivial) ⟨rfl,rfl,rfl,rfl⟩) ao))))),?_⟩
  refine⟨_,rfl,S,v,d,0,12,rfl,th,hz,fun H1 s1=>⟨_,rfl,?_⟩⟩;have eI:=th.same s1;have fin:=fun H' (s:Same H H')=>q H' s;unfold dG at fin
  cases e:bz d 0 12 with
  |false=>
   rw[e]at fin;exact bD (fin _ s1)
  |true=>
   rw[e]at fin;refine bQ ?_
   cases eI with
   |@tup a xs ds ea r=>exact cU (fun x=>bj x 5) rfl ea r (eZ r hz) (fun v d H2 Q2 hm s2 t2 q2=>⟨_,rfl,S,v,d,5,rfl,t2,jh hm hz,q2⟩) fun H2 s2=>fin _ (s1.trans s2)
   |_=>cases e
theorem sc23s:FnScope ["promises","sales","number","year","holder","sort","first","last","sacks","price","held","promise","seller","buyer","sold","since"] ["promises","sales","number","year"] (aJ (top 31)):=fQS
theorem Er(F:Fun K "held_in" "held_in" (top 31) f fd)(N:Nums mg):FnOk P w K mg base CX0 1 f fd ["promises","sales","number","year"] vH:=by
 refine F.ok sc23s (fun vs H Q E h=>?_) (fun ar A outer s H vs Q E hr h=>?_)
 .obtain⟨ap,xp,ps,af,xs,ss,n,y,rfl,_⟩:=h;rfl
 .obtain⟨ap,xp,ps,af,xs,ss,n,y,rfl,rp,rs,n0,n1,okp,hl,eJ,q⟩:=h;obtain⟨t1,e1⟩:=N.holders
  refine⟨_,aB (cA (pX bC (pv 0) (pv 2)) (bL rfl (aq (pgn 4 sc23s.nd) (aq (pgn 5 sc23s.nd) (aq (pgn 6 sc23s.nd)
    (aq (pgn 7 sc23s.nd) (aq (pgn 8 sc23s.nd) (aq (pgn 9 sc23s.nd) aV))))))))
   (aB (pss 10 sc23s.nd (aW GP (dw (au az ao)) (bR (v:=.int 8) rfl e1 ⟨_,rfl⟩)))
   (aB (bZ (cX (kI bW bW (pv 6) (pv 3) (pv 7))) (aD (aQ (pv 10))) bf)
   (aB (cA (pv 8) (jq (pv 10) (pv 4) set_list))
   (aB (cH zBb rfl (gf (pv 1)) (bL rfl (aq (pgn 11 sc23s.nd) (aq (pgn 12 sc23s.nd) (aq (pgn 13 sc23s.nd)
     (aq (pgn 14 sc23s.nd) (aq (pgn 15 sc23s.nd) aV))))))
    (aD (bZ (PW.pt (yZ (aY kE (pv 11) (pv 2) (bx _)) (vY (aY bW (pv 15) (pv 3) (bx _)))))
     (aB (qw (pv 10) (pv 12) iC (pv 14) zg set_list) (aD (qw (pv 10) (pv 13) iC (pv 14) zf set_list))) bf)))
   (aD (aQ (pv 10))))))),?_⟩
  obtain⟨p,hp⟩:∃p,ps[n.toNat]?=some p:=⟨_,zA0 Zz⟩
  have ep:ps.getD n.toNat []=p:=by rw[zA7,hp];rfl
  rw[ep]at okp q;obtain⟨t,ex,et⟩:=rp.g _ _ hp;have p6:=six_row okp.1;obtain⟨l6,⟨a1,a2⟩,b,⟨c1,c2,c3⟩,⟨d1,d2⟩,ee⟩:=id okp
  have eM:atI xp n=some (.ref t):=by
   have:=dI ex;rw[show((n.toNat:Nat):Int)=n by lia]at this;exact this
  rw[p6]at et;refine aF ?_;refine⟨_,rfl,_,rfl,ap,xp,n,.ref t,rfl,rfl,SqT.of rp.e,eM,?_⟩;refine⟨t,_,rfl,SqT.of et,rfl,_,_,rfl,_,_,rfl,_,_,rfl,_,_,rfl,_,_,rfl,_,_,rfl,rfl,?_⟩;dsimp only;refine aF (aR ?_);refine⟨zL,fun l0 Lv=>⟨l0,8,_,rfl,rfl,aj,by decide,by decide,zL,fun l1 gg=>?_⟩⟩;have s1:Same H (upd (upd H l0 (.lst [V.int 0])) l1 (.lst (List.replicate (8:Int).toNat [V.int 0]).flatten)):=(Same.upd Lv).updR gg;have el1:upd (upd H l0 (.lst [V.int 0])) l1 (.lst (List.replicate (8:Int).toNat [V.int 0]).flatten) l1=some (.lst ((List.replicate 8 (0:Int)).map V.int)):=aj;have CM:H l1=none:=(Same.upd Lv).free gg;generalize upd (upd H l0 (.lst [V.int 0])) l1 (.lst (List.replicate (8:Int).toNat [V.int 0]).flatten)=H1 at s1 el1⊢;refine aM ?_;dsimp only;refine aF ?_;refine cD (p:=fun i j=>decide (i<=j)) (q:=fun i j=>decide (i<=j)) (i:=fl p 2) (j:=y) (k:=fl p 3) (f9 rfl) (f9 rfl) (f9 rfl) _ ⟨_,rfl,?_⟩;by_cases iE:fl p 2<=y/\y<=fl p 3
  .rw[decide_eq_true iE.1,decide_eq_true iE.2];refine bD (dM ?_);dsimp only;refine aF ?_;refine⟨_,rfl,_,rfl,_,rfl,l1,_,fl p 0,(fl p 0).toNat,rfl,rfl,el1,xn a1 (by show fl p 0<8;exact a2),?_⟩;rw[rM];dsimp only;refine aF ?_;have N4:af≠l1:=aC rs.e CM;refine⟨_,rfl,af,rfl,⟨xs,SqT.of (by rw[aA N4];exact s1 _ _ rs.e)⟩,?_⟩
   have E7:∀{Hc:Hp} {o:HO},Same H Hc->Same H (upd Hc l1 o):=fun{Hc o} sm b u e=>by
    rw[aA (aC e CM)];exact sm _ _ e
   refine Dc (xs:=xs) (fun i σ Hc=>Xe5 fun eR eW e8 fe ff=>Xa3 (σ=[some (.ref ap),some (.ref af),some (.int n),some (.int y),some (.int (fl p 0)),some (.int (fl p 1)),some (.int (fl p 2)),some (.int (fl p 3)),some (.int (fl p 4)),some (.int (fl p 5)),some (.ref l1),eR,eW,e8,fe,ff]) (Same H Hc) (Hc l1=some (.lst (((ss.take i).foldl (hstep n y) (base0 p)).map V.int)))) ?_ ?_ ?_ ?_
   .exact⟨none,none,none,none,none,rfl,E7 s1,aj⟩
   .rintro i σ Hc hi ⟨eR,eW,e8,fe,ff,rfl,sm,el⟩;exact SqT.of (sm _ _ rs.e)
   .rintro i x σ Hc hx ⟨eR,eW,e8,fe,ff,rfl,sm,el⟩
    have hi:i<ss.length:=by
     have:=(zAa.mp hx).1;rw[rs.l]at this;exact this
    obtain⟨tr,h8,fq⟩:=rs.g i ss[i] (zA0 hi)
    have:x=.ref tr:=by
     rw[hx]at h8;exact zAl h8
    subst this;obtain⟨o1,⟨o2,o3⟩,o4,o5⟩:=eJ ss[i] (zAh hi);have s5:=jj o1;have df:ss.take (i+1)=ss.take i++[ss[i]]:=by rw[zAj,zA0 hi];rfl
    have AV:(ss.take (i+1)).foldl (hstep n y) (base0 p)=hstep n y ((ss.take i).foldl (hstep n y) (base0 p)) ss[i]:=by rw[df,List.foldl_append];rfl
    rw[AV];generalize hL:(ss.take i).foldl (hstep n y) (base0 p)=L at el⊢
    have lL:L.length=8:=by
     have:=dY p (ss.take i) n y;unfold bI at this;rw[zAz iE,hL]at this;exact this
    generalize ss[i]=r at fq s5 o2 o3 o4 o5⊢;rw[s5]at fq;refine⟨tr,_,rfl,SqT.of (sm _ _ fq),rfl,_,_,rfl,_,_,rfl,_,_,rfl,_,_,rfl,_,_,rfl,rfl,?_⟩;refine⟨_,rfl,_,rfl,rfl,_,rfl,?_⟩;by_cases hn:fl r 0=n
    .rw[zAu (show V.int (fl r 0)=V.int n by rw[hn])];refine bQ ?_;refine⟨_,rfl,_,rfl,_,_,rfl,rfl,_,rfl,?_⟩;by_cases hy:fl r 4<=y
     .rw[zAu hy];refine bQ ?_;have e1:hstep n y L r=fW (fW L (fl r 1) (-(fl r 3))) (fl r 2) (fl r 3):=zAz ⟨hn,hy⟩;rw[e1];refine aF ?_;refine⟨_,rfl,_,rfl,l1,_,fl r 1,_,rfl,rfl,SqL.of el,o2,rN Zz,_,rfl,_,_,rfl,rfl,l1,_,fl r 1,(fl r 1).toNat,rfl,rfl,el,xn o2 (by rw[zA1];lia),?_⟩;rw[rM]
      have e2:L.set (fl r 1).toNat (L.getD (fl r 1).toNat 0-fl r 3)=fW L (fl r 1) (-(fl r 3)):=by
       unfold fW;rw[Int.sub_eq_add_neg]
      rw[e2];generalize ER:fW L (fl r 1) (-(fl r 3))=L1;have Tv:L1.length=8:=by rw[<-ER,gZ];exact lL
      refine⟨_,rfl,_,rfl,l1,_,fl r 2,_,rfl,rfl,SqL.of aj,o4,rN Zz,_,rfl,_,_,rfl,rfl,l1,_,fl r 2,(fl r 2).toNat,rfl,rfl,aj,xn o4 (by rw[zA1];lia),?_⟩;rw[rM];exact⟨_,_,_,_,_,rfl,E7 (E7 sm),aj⟩
     .rw[zB5 hy];refine bD ?_;have e1:hstep n y L r=L:=zAx fun z=>hy z.2;rw[e1];exact⟨_,_,_,_,_,rfl,sm,el⟩
    .rw[zB5 (fun z:V.int (fl r 0)=V.int n=>hn (by injection z))];refine bD (bD ?_);have e1:hstep n y L r=L:=zAx fun z=>hn z.1;rw[e1];exact⟨_,_,_,_,_,rfl,sm,el⟩
   .rintro σ Hc ⟨eR,eW,e8,fe,ff,rfl,sm,el⟩;rw[rs.l,zAm]at el;refine⟨_,rfl,q _ _ sm ?_⟩;unfold bI;rw[zAz iE];exact el
  .have hb:(decide (fl p 2<=y)&&decide (y<=fl p 3))=false:=by
    cases e:(decide (fl p 2<=y)&&decide (y<=fl p 3))with
    |false=>rfl
    |true=>
     rw[zAc,Zp,Zp]at e;exact absurd e iE
   rw[hb];refine bQ ⟨_,rfl,q _ _ s1 ?_⟩;unfold bI;rw[zAx iE];exact el1
theorem Bp{te:TE}{lo:Int}{n:Nat}{cS:St}{j:Nat}{H0:Hp}{Fin:List V->Hp->Prop}(Pv:List V->Hp->Prop)(h0:Pv [] H0)(hz:n<sizeLine)
  (step:∀i ys H Q,i<n->ys.length=i->Pv ys H->(∀y H',Pv (ys++[y]) H'->Q y H')->te (cS.set j (some (.int (lo+i)))) H Q)
  (fin:∀ys H,ys.length=n->Pv ys H->Fin ys H):lw (Itr lo n) (bu j) uX te Fin cS H0:=by
 refine⟨fun i m ys σ H=>m=n-i/\i<=n/\ys.length=i/\(∀o,σ.set j o=cS.set j o)/\Pv ys H,⟨_,rfl,zAp _,rfl,fun _=>rfl,h0⟩,?_⟩;rintro i m ys σ H ⟨rfl,hi,hy,oI,p⟩;refine⟨Zz,?_⟩;by_cases ay:i<n
 .refine .inr ⟨ay,fun x H' y=>?_⟩;obtain⟨e,e2⟩:=y;subst e;subst e2;show te (σ.set j (some (.int (lo+i)))) H' _;rw[oI]
  exact step i ys H' _ ay hy p fun y H2 p2=>⟨n-(i+1),Zz,rfl,ay,by rw[zA2,hy];rfl,fun o=>by rw[List.set_set],p2⟩
 .have e:i=n:=Zz
  subst e;exact .inl ⟨zA3 _,fin ys H hy p⟩
theorem Jy{σ:St}{H:Hp}{ta tb:TE}{i j:Int}(a:Ev σ H ta (.int i))(b:Ev σ H tb (.int j)):Ev σ H (tOp rNe ta tb) (.bl (!decide (i=j))):=fun Q q=>a _ (b _ ⟨rfl,by
 have ed:decide (V.int i=V.int j)=decide (i=j):=decide_eq_decide.mpr ⟨fun z=>by injection z,fun z=>by rw[z]⟩;rw[ed]
 exact q⟩)
theorem yI(a b:Int):(years a b).length=(b+1-a).toNat:=by unfold years;rw[zA1,List.length_range]
theorem yJ{a b:Int}{i:Nat}(h:i<(b+1-a).toNat):(years a b)[i]?=some (a+i):=by
 unfold years;rw[zAb,List.getElem?_range h];rfl
theorem yK{α β:Type}{l:List α}{f:α->β}{ys:List β}{x:α}(ey:ys=(l.take ys.length).map f)(hx:l[ys.length]?=some x):ys++[f x]=(l.take (ys++[f x]).length).map f:=by
 rw[zA2,List.length_singleton,zAj,hx,zA4,<-ey];rfl
inductive SpBetwI(vs:List V)(H:Hp)(Q:VK):Prop
 |mk:∀ap xp ps t s,(vs=[.ref ap,.ref t])->(RowsAt H ap xp ps)->((∀r∈ps,okP r))->(H t=some (.tup (s.map V.int)))->(s.length=5)->(Q (.bl (nZ ps s)) H)->SpBetwI  vs H Q
def Bq:Sp:=fun vs H Q _=>SpBetwI  vs H Q
inductive SpHoldsI(vs:List V)(H:Hp)(Q:VK):Prop
 |mk:∀ap xp ps af xs ss t s,(vs=[.ref ap,.ref af,.ref t])->(RowsAt H ap xp ps)->((∀r∈ps,okP r))->(RowsAt H af xs ss)->(ss.length<=12)->((∀s∈ss,okS s))->(H t=some (.tup (s.map V.int)))->(s.length=5)->(∀H',Same H H'->Q (.bl (bT ps ss s)) H')->SpHoldsI  vs H Q
def xq:Sp:=fun vs H Q _=>SpHoldsI  vs H Q
def unV:Option Nat->V
 |none=>.non
 |some i=>.int i
inductive SpFirstI(vs:List V)(H:Hp)(Q:VK):Prop
 |mk:∀S v d S' u e,(vs=[v,u])->(IsTh S H v d)->(IsTh S' H u e)->(dF d=true)->(dG e=true)->(sz d<=4000)->(sz e<=4000)->(∀H',Same H H'->Q (unV (un (rowsOf d) (rowsOf e))) H')->SpFirstI  vs H Q
def xu:Sp:=fun vs H Q _=>SpFirstI  vs H Q
theorem prom_ok{ps:List (List Int)}{n:Int}(h:∀r∈ps,okP r)(h0:0<=n)(h1:n<ps.length):∃p,ps[n.toNat]?=some p/\ps.getD n.toNat []=p/\okP p:=by
 have hn:n.toNat<ps.length:=Zz
 refine⟨ps[n.toNat],zA0 hn,?_,h _ (zAh hn)⟩;rw[zA7,zA0 hn];rfl
theorem rows_at{H:Hp}{a:Addr}{xs:List V}{rs:List (List Int)}{n:Int}{r:List Int}(h:RowsAt H a xs rs)(h0:0<=n)(e:rs[n.toNat]?=some r):∃t,atI xs n=some (.ref t)/\H t=some (.tup (r.map V.int)):=by
 obtain⟨t,e1,e2⟩:=h.g _ _ e;refine⟨t,?_,e2⟩;have:=dI e1;rw[show((n.toNat:Nat):Int)=n by lia]at this;exact this
theorem sc24s:FnScope ["promises","sale","number","seller","buyer","sacks","year","holder","sort","first","last","due","price"] ["promises","sale"] (aJ (top 32)):=fQS
theorem Es(F:Fun K "is_sale_between" "is_sale_between" (top 32) f fd)(T:Mg mg)(N:Nums mg):FnOk P w K mg base CX0 1 f fd ["promises","sale"] Bq:=by
 refine F.ok sc24s (fun vs H Q E h=>?_) (fun ar A outer s H vs Q E hr h=>?_)
 .obtain⟨ap,xp,ps,t,r,rfl,_⟩:=h;rfl
 .obtain⟨ap,xp,ps,t,r,rfl,rp,okp,et,h5,q⟩:=h;obtain⟨t1,e1⟩:=N.holders;obtain⟨t4,e4⟩:=N.sacks
  refine⟨_,aB (cA (pv 1) (bL rfl (aq (pgn 2 sc24s.nd) (aq (pgn 3 sc24s.nd) (aq (pgn 4 sc24s.nd) (aq (pgn 5 sc24s.nd) (aq (pgn 6 sc24s.nd) aV)))))))
   (aB (bZ (cX (kI bW gB az (pv 2) (aO bh rfl T.len PySem.boot_len (au (pv 0) ao)))) (aD (aQ jG)) bf)
   (aB (cA (pX bC (pv 0) (pv 2)) (bL rfl (aq (pgn 7 sc24s.nd) (aq (pgn 8 sc24s.nd) (aq (pgn 9 sc24s.nd)
    (aq (pgn 10 sc24s.nd) (aq (pgn 11 sc24s.nd) (aq (pgn 12 sc24s.nd) aV))))))))
   (aD (aQ (bY (cJ bW gB az (pv 3) (bR (v:=.int 8) rfl e1 ⟨_,rfl⟩)) (bY (cJ bW gB az (pv 4) (bR (v:=.int 8) rfl e1 ⟨_,rfl⟩)) (bY (jV FP (pv 3) (pv 4) (bx _))
    (bY (cJ bW bW az (pv 5) (bR (v:=.int 99) rfl e4 ⟨_,rfl⟩)) (dC (cJ bW bW (pv 9) (pv 6) (pv 10))))))))))),?_⟩
  rw[jj h5]at et;refine aF ?_;refine⟨_,rfl,t,_,rfl,SqT.of et,rfl,_,_,rfl,_,_,rfl,_,_,rfl,_,_,rfl,_,_,rfl,rfl,?_⟩;dsimp only;refine aF ?_;refine cD (p:=fun i j=>decide (i<=j)) (q:=fun i j=>decide (i<j)) (i:=0) (j:=fl r 0) (k:=(xp.length:Int)) gh (f9 rfl) (fun Q h=>⟨_,rfl,ap,xp,rfl,.inr (SqT.of rp.e),h⟩) _ ⟨_,rfl,?_⟩;have fin:=q;unfold nZ at fin;rw[rp.l]
  cases e:(decide (0<=fl r 0)&&decide (fl r 0<ps.length))with
  |false=>
   rw[e]at fin;exact bQ fin
  |true=>
   rw[e]at fin;rw[zAc,Zp,Zp]at e;obtain⟨p,hp,ep,op⟩:=prom_ok okp e.1 e.2;obtain⟨tp,eM,fR⟩:=rows_at rp e.1 hp;rw[six_row op.1]at fR;refine bD (dM ?_);dsimp only;refine aF ?_;refine⟨_,rfl,_,rfl,ap,xp,_,.ref tp,rfl,rfl,SqT.of rp.e,eM,?_⟩;refine⟨tp,_,rfl,SqT.of fR,rfl,_,_,rfl,_,_,rfl,_,_,rfl,_,_,rfl,_,_,rfl,_,_,rfl,rfl,?_⟩;have E8:jU ps r=p:=ep;rw[E8]at fin;exact gO (cD gh (f9 rfl) gh) (fun _=>gO (cD gh (f9 rfl) gh) fun _=>gO (Jy (f9 rfl) (f9 rfl)) fun _=>gO (cD gh (f9 rfl) gh) fun _=>cD (f9 rfl) (f9 rfl) (f9 rfl)) _ fin
theorem sc25s:FnScope ["promises","ahead","sale","number","seller","buyer","sacks","year","last"] ["promises","ahead","sale"] (aJ (top 33)):=fQS
theorem Ks:(["at","promises","ahead","number","seller","sacks"]:List Str).Nodup:=by decide +kernel
theorem Br(F:Fun K "sale_holds" "sale_holds" (top 33) f fd)(T:Mg mg)(Tr:mg "range"=none)(c1:Cal P w K mg base 1 "is_sale_between" ["promises","sale"] Bq)(c2:Cal P w K mg base 1 "held_in" ["promises","sales","number","year"] vH):
  FnOk P w K mg base CX0 2 f fd ["promises","ahead","sale"] xq:=by
 refine F.ok sc25s (fun vs H Q E h=>?_) (fun ar A outer s H vs Q E hr h=>?_)
 .obtain⟨ap,xp,ps,af,xs,ss,t,r,rfl,_⟩:=h;rfl
 .obtain⟨ap,xp,ps,af,xs,ss,t,r,rfl,rp,okp,rs,hl,eJ,et,h5,q⟩:=h
  refine⟨_,aB (bZ (cX (eF (aG c1 hr (au (pv 0) (au (pv 2) ao))))) (aD (aQ jG)) bf)
   (aB (cA (pv 2) (bL rfl (aq (bw (i:=3) sc25s.nd rfl (Or.inr rfl)) (aq (bw (i:=4) sc25s.nd rfl (Or.inr rfl)) (aq (pgn 5 sc25s.nd) (aq (bw (i:=6) sc25s.nd rfl (Or.inr rfl)) (aq (pgn 7 sc25s.nd) aV)))))))
   (aB (pss 8 sc25s.nd (pX bC (pX bC (pv 0) (pv 3)) az))
   (aD (aQ (aO (eQ rfl) rfl T.all boot_all (au (bK ["at","promises","ahead","number","seller","sacks"] [none,some 0,some 1,some 3,some 4,some 6] rfl (oF rfl Tr (au (pv 7) (au (aW cj (pv 8) az) ao)))
    (fun C fp Zt s₂ H₂=>⟨pgn 0 Ks,bH,jV zm (pX (uB (K:=K) rfl) (aG c2 hr (au (pv 1) (au (pv 2) (au (pv 3) (au (pv 0) ao))))) (pv 4)) (pv 5) (bx _)⟩)
    (fun C=>cI (cI (cI (cI (cI trivial))))) ⟨rfl,rfl,rfl,rfl⟩) ao)))))),?_⟩
  have fin:=q;unfold bT at fin;refine aF ?_;refine⟨_,rfl,_,rfl,ap,xp,ps,t,r,rfl,rp,okp,et,h5,_,rfl,?_⟩
  cases e:nZ ps r with
  |false=>
   rw[e]at fin;exact bQ (fin _ (Same.refl _))
  |true=>
   rw[e]at fin;refine bD (dM ?_);dsimp only;refine aF ?_;unfold nZ at e;simp only[Bool.and_eq_true,Zp]at e;obtain⟨⟨n0,n1⟩,⟨b0,b1⟩,_,_,⟨k0,k1⟩,y0,y1⟩:=e;obtain⟨p,hp,ep,op⟩:=prom_ok okp n0 n1;have E8:jU ps r=p:=ep;rw[E8]at fin y0 y1;obtain⟨tp,eM,fR⟩:=rows_at rp n0 hp;rw[jj h5]at et;rw[six_row op.1]at fR;obtain⟨_,_,_,⟨g1,g2,g3⟩,_⟩:=id op;refine⟨_,rfl,t,_,rfl,SqT.of et,rfl,_,_,rfl,_,_,rfl,_,_,rfl,_,_,rfl,_,_,rfl,rfl,?_⟩;dsimp only;refine aF (aR ?_);refine⟨_,rfl,_,rfl,ap,xp,_,.ref tp,rfl,rfl,SqT.of rp.e,eM,tp,_,3,.int (fl p 3),rfl,rfl,SqT.of fR,rfl,?_⟩;refine aM ?_;dsimp only;refine⟨_,rfl,_,rfl,_,_,rfl,rfl,fl r 4,fl p 3+1,rfl,⟨Zz,Zz,Zz,Zz⟩,?_⟩;refine Bp (fun ys Hc=>Same H Hc/\ys=((years (fl r 4) (fl p 3)).take ys.length).map fun y=>V.bl (decide (fl r 3<=(bI p ss (fl r 0) y).getD (fl r 1).toNat 0))) ⟨Same.refl _,rfl⟩ Zu ?_ ?_
   .rintro i ys Hc Qc hi hy ⟨sc,ey⟩ qc;refine⟨_,rfl,_,rfl,_,rfl,_,rfl,ap,xp,ps,af,xs,ss,fl r 0,fl r 4+i,rfl,rp.same sc,rs.same sc,n0,n1,by rw[ep];exact op,hl,eJ,fun l H' s' el=>?_⟩;rw[ep]at el;refine⟨_,rfl,l,_,fl r 1,.int ((bI p ss (fl r 0) (fl r 4+i)).getD (fl r 1).toNat 0),rfl,rfl,SqL.of el,?_,_,rfl,_,_,rfl,rfl,qc _ _ ⟨sc.trans s',?_⟩⟩
    .unfold atI;rw[xn b0 (by rw[zA1,dY];lia)];exact rN (by rw[dY];lia)
    .have hx:(years (fl r 4) (fl p 3))[ys.length]?=some (fl r 4+(i:Int)):=by
      rw[hy];exact yJ hi
     exact yK ey hx
   .rintro ys Hc hy ⟨sc,ey⟩ D hD;rw[List.take_of_length_le (by rw[yI,hy];exact zA3 _)]at ey;refine⟨D,(years (fl r 4) (fl p 3)).map fun y=>decide (fl r 3<=(bI p ss (fl r 0) y).getD (fl r 1).toNat 0),rfl,SqL.of (by rw[zAr];rw[ey];exact aj),?_⟩;rw[List.all_map];exact fin _ (sc.updR hD)
theorem mJ{xs:List V}{i:Nat}(h:i<=xs.length):nu xs none (some (i:Int))=xs.take i:=by
 unfold nu;rw[HT.sIx_none,HT.sIx_nat,List.drop_zero,Nat.min_eq_left h,Nat.sub_zero]
theorem RowsAt.cut{H:Hp}{a p:Addr}{xs:List V}{rs:List (List Int)}(h:RowsAt H a xs rs)(i:Nat)(hp:H p=none):RowsAt (upd H p (.tup (xs.take i))) p (xs.take i) (rs.take i):=by
 refine⟨aj,by rw[zAd,zAd,h.l],fun j r e=>?_⟩
 have hj:j<i:=by
  rw[List.getElem?_take]at e;split at e
  .assumption
  .cases e
 rw[List.getElem?_take_of_lt hj]at e;obtain⟨t,e1,e2⟩:=h.g j r e;exact⟨t,by rw[List.getElem?_take_of_lt hj];exact e1,Same.upd hp _ _ e2⟩
theorem xx{ps ss:List (List Int)}{i:Nat}(h:∀j,j<i->bT ps (ss.take j) (ss.getD j [])=true)(hi:i<ss.length)(hn:bT ps (ss.take i) (ss.getD i [])=false):un ps ss=some i:=by
 unfold un;rw[List.find?_range_eq_some];exact⟨by rw[hn];rfl,List.mem_range.mpr hi,fun j hj=>by rw[h j hj];rfl⟩
theorem rP{ps ss:List (List Int)}(h:∀j,j<ss.length->bT ps (ss.take j) (ss.getD j [])=true):un ps ss=none:=by
 unfold un;rw[List.find?_range_eq_none]
 exact fun j hj=>by rw[h j hj];rfl
theorem mK{ps ss:List (List Int)}{s:List Int}(h5:s.length=5)(h:bT ps ss s=true):okS s:=by
 unfold bT nZ at h;simp only[Bool.and_eq_true,Zp]at h;exact⟨h5,h.1.2.1,h.1.2.2.1⟩
theorem getD_get{ss:List (List Int)}{i:Nat}(h:i<ss.length):ss.getD i []=ss[i]:=by
 rw[zA7,zA0 h];rfl
def part(d:PyData)(i:Nat):PyData:=(items d).getD i .none
def jL(d:PyData):Bool:=bz d 3 3&&(gW (part d 0)&&(dF (part d 1)&&(dG (part d 2)&&(un (rowsOf (part d 1)) (rowsOf (part d 2))).isNone)))
theorem sc26s:FnScope ["promises","sales","at","sale"] ["promises","sales"] (aJ (top 34)):=fQS
theorem Bs(F:Fun K "first_unheld" "first_unheld" (top 34) f fd)(Te:mg "enumerate"=none)(c1:Cal P w K mg base 4 "are_promises" ["thing"] (spT dF))(c2:Cal P w K mg base 3 "are_sales" ["thing"] (spT dG))(c3:Cal P w K mg base 2 "sale_holds" ["promises","ahead","sale"] xq):
  FnOk P w K mg base CX0 5 f fd ["promises","sales"] xu:=by
 refine F.ok sc26s (fun vs H Q E h=>?_) (fun ar A outer s H vs Q E hr h=>?_)
 .obtain⟨S,v,d,S',u,e,rfl,_⟩:=h;rfl
 .obtain⟨S,v,d,S',u,e,rfl,Lw,ths,hp,hs,zp,zs,q⟩:=h
  refine⟨_,aB (bZ (cX (eF (aG c1 hr (au (pv 0) ao)))) oE bf)
   (aB (bZ (cX (eF (aG c2 hr (au (pv 1) ao)))) oE bf)
   (aB (cH zBb rfl (ZT.pi_enum true rfl Te (au (pv 1) ao)) (bL rfl (aq (pgn 2 sc26s.nd) (aq (pgn 3 sc26s.nd) aV)))
    (aD (bZ (cX (eF (aG c3 hr (au (pv 0) (au (sX DG (pv 1) wu (wy (pv 2))) (au (pv 3) ao)))))) (aD (aQ (pv 2))) bf)))
   (aD (aQ qm)))),?_⟩
  refine aF ?_;refine⟨_,rfl,S,v,d,rfl,Lw,zp,fun H1 s1=>⟨_,rfl,?_⟩⟩;rw[hp];refine bD (dM ?_);dsimp only;refine aF ?_;refine⟨_,rfl,S',u,e,rfl,ths.same s1,zs,fun H2 s2=>⟨_,rfl,?_⟩⟩;rw[hs];refine bD (dM ?_);dsimp only;have sM:=s1.trans s2;obtain⟨ep,lp,okp⟩:=vD hp;obtain⟨es,ls,eJ⟩:=vG hs;have eI:=Lw.same sM;have E9:=ths.same sM;rw[ep]at eI;rw[es]at E9;generalize rowsOf d=ps at q lp okp eI;generalize rowsOf e=ss at q ls eJ E9;obtain⟨ap,xp,rfl,rp⟩:=th_rows eI;obtain⟨af,xs,rfl,rs⟩:=th_rows E9;refine aF ?_;refine⟨_,rfl,af,xs,rfl,SqT.of rs.e,?_⟩;refine ZT.for_enum true (xs:=xs) (fun i σ Hc=>∃x2 x3,σ=[some (.ref ap),some (.ref af),x2,x3]/\Same H2 Hc/\∀j,j<i->bT ps (ss.take j) (ss.getD j [])=true) ?_ ?_ ?_ ?_
  .exact⟨none,none,rfl,Same.refl _,fun j hj=>absurd hj (Nat.not_lt_zero _)⟩
  .rintro i σ Hc hi ⟨x2,x3,rfl,sm,hh⟩;exact SqT.of (sm _ _ rs.e)
  .rintro i x σ Hc T0 hx ⟨x2,x3,rfl,sm,hh⟩ nT
   have hi:i<ss.length:=by
    have:=(zAa.mp hx).1;rw[rs.l]at this;exact this
   have wa:i<xs.length:=by rw[rs.l];exact hi
   obtain⟨tr,h8,fq⟩:=rs.g i ss[i] (zA0 hi)
   have:x=.ref tr:=by
    rw[hx]at h8;exact zAl h8
   subst this;have h5:=eJ ss[i] (zAh hi);have sT:=sm.updR (o:=.tup [V.int i,V.ref tr]) nT;refine⟨T0,_,rfl,SqT.of aj,rfl,_,_,rfl,_,_,rfl,rfl,?_⟩;refine⟨_,rfl,_,rfl,_,rfl,i,rfl,af,xs,rfl,SqT.of (sT _ _ rs.e),fun hw=>?_,fun _ p Lx=>?_⟩
   .have:=hw.2;rw[HT.sIx_nat]at this;exact absurd this Zz
   rw[mJ (Nat.le_of_lt wa)];have sp:=sT.updR (o:=.tup (xs.take i)) Lx;refine⟨_,rfl,ap,xp,ps,p,xs.take i,ss.take i,tr,ss[i],rfl,rp.same sp,okp,(rs.same sT).cut i Lx,?_,?_,sp _ _ fq,h5,fun H' s'=>⟨_,rfl,?_⟩⟩
   .rw[zAd];lia
   .intro s cw;obtain⟨j,hj,e'⟩:=List.getElem_of_mem cw;rw[zAd]at hj;have N5:j<i:=Zz
    have Lz:j<ss.length:=Zz
    have e2:ss[j]=s:=by rw[<-e',List.getElem_take]
    rw[<-e2];have:=hh j N5;rw[getD_get Lz]at this;exact mK (eJ _ (zAh Lz)) this
   .cases eh:bT ps (ss.take i) ss[i]with
    |false=>
     refine bQ ⟨_,rfl,?_⟩;have:=q H' (sM.trans (sp.trans s'));rw[xx hh hi (by rw[getD_get hi];exact eh)]at this;exact this
    |true=>
     refine bD ⟨_,_,rfl,sp.trans s',fun j hj=>?_⟩;rcases Nat.lt_succ_iff_lt_or_eq.mp hj with z|z
     .exact hh j z
     .rw[z,getD_get hi];exact eh
  .rintro σ Hc ⟨x2,x3,rfl,sm,hh⟩;have:=q Hc (sM.trans sm);rw[rP fun j hj=>hh j (by rw[rs.l];exact hj)]at this;exact this
theorem sc27s:FnScope ["thing","clips","promises","sales"] ["thing"] (aJ (top 35)):=fQS
theorem ok_book(F:Fun K "is_book" "is_book" (top 35) f fd)(c0:Cal P w K mg base 1 "is_tuple_of" ["thing","fewest","most"] (jR bz))(c1:Cal P w K mg base 4 "are_clips" ["thing"] (spT gW))(c2:Cal P w K mg base 4 "are_promises" ["thing"] (spT dF))(c3:Cal P w K mg base 3 "are_sales" ["thing"] (spT dG))(c4:Cal P w K mg base 5 "first_unheld" ["promises","sales"] xu):
  FnOk P w K mg base CX0 6 f fd ["thing"] (spT jL):=by
 refine F.ok sc27s (fun vs H Q E h=>?_) (fun ar A outer s H vs Q E hr h=>?_)
 .obtain⟨S,v,d,rfl,_⟩:=h;rfl
 .obtain⟨S,v,d,rfl,th,hz,q⟩:=h
  refine⟨_,aB (bZ (cX (eF (aG c0 hr (au (pv 0) (au az (au az ao)))))) (aD (aQ jG)) bf)
   (aB (cA (pv 0) (bL rfl (aq (pgn 1 sc27s.nd) (aq (pgn 2 sc27s.nd) (aq (pgn 3 sc27s.nd) aV)))))
   (aD (aQ (bY (aG c1 hr (au (pv 1) ao)) (bY (aG c2 hr (au (pv 2) ao)) (bY (aG c3 hr (au (pv 3) ao)) (dC (jV zq (aG c4 hr (au (pv 2) (au (pv 3) ao))) qm (bx _))))))))),?_⟩
  have fin:=q;unfold jL at fin;refine aF ?_;refine⟨_,rfl,S,v,d,3,3,rfl,th,hz,fun H1 s1=>⟨_,rfl,?_⟩⟩
  cases e:bz d 3 3 with
  |false=>
   rw[e]at fin;exact bQ (fin _ s1)
  |true=>
   rw[e]at fin;refine bD (dM ?_);dsimp only;obtain⟨ds,rfl,l1,l2⟩:=jB e;have eI:=th.same s1
   cases eI with
   |@tup a xs _ ea r=>
    obtain⟨v0,v1,v2,d0,d1,d2,rfl,rfl,h0,h1,h2⟩:=yF r (show ds.length=3 by lia);have z0:=jh (d:=d0) Zy hz;have z1:=jh (d:=d1) Zy hz;have z2:=jh (d:=d2) Zy hz;refine aF ?_;refine⟨_,rfl,a,_,rfl,SqT.of ea,rfl,_,_,rfl,_,_,rfl,_,_,rfl,rfl,?_⟩;dsimp only;have fin:∀H',Same H H'->Q (.bl (true&&(gW d0&&(dF d1&&(dG d2&&(un (rowsOf d1) (rowsOf d2)).isNone))))) H':=fin;refine⟨_,rfl,S,_,d0,rfl,h0,z0,fun H2 s2=>⟨_,rfl,?_⟩⟩
    cases e0:gW d0 with
    |false=>
     rw[e0]at fin;exact bD (fin _ (s1.trans s2))
    |true=>
     rw[e0]at fin;refine bQ ?_;refine⟨_,rfl,S,_,d1,rfl,h1.same s2,z1,fun H3 s3=>⟨_,rfl,?_⟩⟩
     cases e1:dF d1 with
     |false=>
      rw[e1]at fin;exact bD (fin _ ((s1.trans s2).trans s3))
     |true=>
      rw[e1]at fin;refine bQ ?_;refine⟨_,rfl,S,_,d2,rfl,h2.same (s2.trans s3),z2,fun H4 s4=>⟨_,rfl,?_⟩⟩
      cases e2:dG d2 with
      |false=>
       rw[e2]at fin;exact bD (fin _ (((s1.trans s2).trans s3).trans s4))
      |true=>
       rw[e2]at fin;refine bQ ?_;have Fc:=(s2.trans s3).trans s4;refine⟨_,rfl,_,rfl,S,_,d1,S,_,d2,rfl,h1.same Fc,h2.same Fc,e1,e2,z1,z2,fun H5 s5=>⟨rfl,?_⟩⟩;have:=fin H5 (s1.trans (Fc.trans s5))
       cases eu:un (rowsOf d1) (rowsOf d2)with
       |none=>
        rw[eu]at this;exact this
       |some i=>
        rw[eu]at this;exact this
def Els(H:Hp)(xs:List V)(rs:List (List Int)):Prop:=xs.length=rs.length/\∀(i:Nat) (r:List Int),rs[i]?=some r->∃t,xs[i]?=some (V.ref t)/\H t=some (.tup (r.map V.int))
theorem Els.keep{H H':Hp}{xs:List V}{rs:List (List Int)}(h:Els H xs rs)(k:∀b l,H b=some (.tup l)->H' b=some (.tup l)):Els H' xs rs:=
 ⟨h.1,fun i r e=>by
  obtain⟨t,e1,e2⟩:=h.2 i r e
  exact⟨t,e1,k _ _ e2⟩⟩
theorem Els.same{H H':Hp}{xs:List V}{rs:List (List Int)}(h:Els H xs rs)(s:Same H H'):Els H' xs rs:=h.keep fun _ _ e=>s _ _ e
theorem Els.nil{H:Hp}:Els H [] []:=⟨rfl,fun i r e=>by simp at e⟩
theorem Els.app{H:Hp}{xs ys:List V}{rs qs:List (List Int)}(h:Els H xs rs)(g:Els H ys qs):Els H (xs++ys) (rs++qs):=by
 refine⟨by rw[zA2,zA2,h.1,g.1],fun i r e=>?_⟩;by_cases hi:i<rs.length
 .rw[zB7 hi]at e;obtain⟨t,e1,e2⟩:=h.2 i r e;exact⟨t,by rw[zB7 (by rw[h.1];exact hi)];exact e1,e2⟩
 .rw[zB3 Zz]at e;obtain⟨t,e1,e2⟩:=g.2 _ r e;exact⟨t,by rw[zB3 (by rw[h.1];lia),h.1];exact e1,e2⟩
theorem Els.one{H:Hp}{t:Addr}{r:List Int}(e:H t=some (.tup (r.map V.int))):Els H [.ref t] [r]:=⟨rfl,fun i q e'=>by
 cases i with
 |zero=>
  rw[List.getElem?_cons_zero]at e';cases e';exact⟨t,rfl,e⟩
 |succ i=>simp at e'⟩
theorem dB{r:List Int}(h:r.length=4):r=[fl r 0,fl r 1,fl r 2,fl r 3]:=by
 match r,h with
 |[a,b,c,d],_=>rfl
theorem yL{t:TS}{D:Ends}{N:L2.St->Hp->Prop}{σ:L2.St}{H:Hp}(h:∀D':Ends,(∀σ H,N σ H->D'.nx σ H)->t D' σ H):t {D with nx:=N,ct:=N,bk:=D.nx} σ H:=h _ fun _ _ z=>z
theorem cz{J:It}{g:TG}{te:TE}{cS:St}{H0:Hp}{Fin:List V->Hp->Prop}(n:Nat)(Pv:Nat->List V->St->Hp->Prop)(h0:Pv 0 [] cS H0)(hz:n<sizeLine)
  (step:∀i ys σ H,i<n->ys.length=i->Pv i ys σ H->J.go i H/\∀x H',J.yld i H x H'->∀R:V->St->Hp->Prop,(∀y aw H4,Pv (i+1) (ys++[y]) aw H4->R y aw H4)->g x σ H' fun aw H2=>te aw H2 fun y H4=>R y aw H4)
  (fin:∀ys σ H,ys.length=n->Pv n ys σ H->J.stop n H/\Fin ys H):lw J g uX te Fin cS H0:=by
 refine⟨fun i m ys σ H=>m=n-i/\i<=n/\ys.length=i/\Pv i ys σ H,⟨_,rfl,zAp _,rfl,h0⟩,?_⟩;rintro i m ys σ H ⟨rfl,hi,hy,p⟩;refine⟨Zz,?_⟩;by_cases ay:i<n
 .obtain⟨go,st⟩:=step i ys σ H ay hy p;exact .inr ⟨go,fun x H' y=>st x H' y _ fun y aw H4 p2=>⟨n-(i+1),Zz,rfl,ay,by rw[zA2,hy];rfl,p2⟩⟩
 .have e:i=n:=Zz
  subst e;exact .inl (fin ys σ H hy p)
def wts(rs:List (List Int)):List Int:=rs.map fun r=>fl r 3
def dR(rs:List (List Int)):Int:=(wts rs).sum
inductive SpSacksI(vs:List V)(H:Hp)(Q:VK):Prop
 |mk:∀l xs rs,(vs=[.ref l])->(H l=some (.lst xs))->(Els H xs rs)->((∀r∈rs,r.length=4))->(rs.length<=100000)->(∀H',Same H H'->Q (.int (dR rs)) H')->SpSacksI  vs H Q
def xF:Sp:=fun vs H Q _=>SpSacksI  vs H Q
theorem boot_sum:bootBuiltins "sum"=some (.builtin "sum"):=by decide +kernel
theorem nd4:(["due","number","holder","sacks"]:List Str).Nodup:=by decide +kernel
theorem Ku:FnScope ["rows"] ["rows"] (aJ (top 46)):=fQS
theorem Bt(F:Fun K "sacks_of" "sacks_of" (top 46) f fd)(Ts:mg "sum"=none):FnOk P w K mg base CX0 1 f fd ["rows"] xF:=by
 refine F.ok Ku (fun vs H Q E h=>?_) (fun ar A outer s H vs Q E hr h=>?_)
 .obtain⟨l,xs,rs,rfl,_⟩:=h;rfl
 .obtain⟨l,xs,rs,rfl,el,cq,h4,hz,q⟩:=h
  refine⟨_,aD (aQ (aO (dX rfl) rfl Ts boot_sum (au (bK (g:=j6 K 4 (bG (bu 0) (bG (bu 1) (bG (bu 2) (bG (bu 3) jo))))) ["due","number","holder","sacks"] [none,none,none,none] rfl (cF (pv 0))
   (fun C fp Zt s₂ H₂=>⟨cR rfl rfl (aq (pgn 0 nd4) (aq (pgn 1 nd4) (aq (pgn 2 nd4) (aq (pgn 3 nd4) aV)))),bH,pv 3⟩) (fun C=>trivial) ⟨rfl,rfl,rfl,rfl⟩) ao))),?_⟩
  refine⟨_,rfl,l,rfl,⟨_,SqL.of el⟩,cz rs.length (fun i ys σ Hc=>Same H Hc/\(∃o1 o2 o3 o4,σ=[o1,o2,o3,o4])/\ys=(wts (rs.take i)).map V.int) ⟨Same.refl H,⟨_,_,_,_,rfl⟩,rfl⟩ Zu ?_ ?_⟩
  .rintro i ys σ Hc hi hy ⟨s1,⟨o1,o2,o3,o4,rfl⟩,rfl⟩;obtain⟨t,ex,et⟩:=cq.2 i rs[i] (zA0 hi);rw[dB (h4 _ (zAh hi))]at et;refine⟨⟨_,_,SqL.of (s1 _ _ el),ex⟩,fun v H' y R hR=>?_⟩;obtain⟨rfl,y⟩:=y;have hv:=y _ (SqL.of (s1 _ _ el));rw[ex]at hv;cases hv;refine⟨t,_,rfl,SqT.of (s1 _ _ et),rfl,_,_,rfl,_,_,rfl,_,_,rfl,_,_,rfl,rfl,_,rfl,hR _ _ _ ⟨s1,⟨_,_,_,_,rfl⟩,?_⟩⟩;unfold wts;rw[zAj,zA0 hi,zA4,zA4];rfl
  .rintro ys σ Hc hy ⟨s1,_,rfl⟩;refine⟨⟨_,SqL.of (s1 _ _ el),by rw[cq.1];exact zA3 _⟩,fun D hD=>?_⟩;rw[zAm];exact⟨D,wts rs,rfl,.inl (SqL.of aj),q _ (s1.updR hD)⟩
end K91
open K91 (top cP items intOf bz nd1 Bl rH rJ jh eZ spT jR Mg boot_tuple boot_all cU Cal aG nY boot_sum cz sc1 iC mJ)
namespace K91P
open PySem L2
structure Nums(mg:Str->Option Value):Prop where
 many:∃t,mg "MOST_WEIGHTS"=some (.int 80 t)
 most:∃t,mg "MOST_WEIGHT"=some (.int 99 t)
def ie(d:PyData):Bool:=bz d 1 80&&(items d).all fun x=>nY x 1 99
theorem boot_sorted:bootBuiltins "sorted"=some (.builtin "sorted"):=by decide +kernel
theorem nd2(x y:Str)(h:x≠y):([x,y]:List Str).Nodup:=by simp[h]
section
variable{P:Program}{w:World}{K:Frag}{mg:Str->Option Value}{base:Heap}{f:Addr}{fd:FuncData}
theorem Kv:FnScope ["thing"] ["thing"] (aJ (top 40)):=fQS
theorem ok_are_weights(F:Fun K "are_weights" "are_weights" (top 40) f fd)(T:Mg mg)(N:Nums mg)(c1:Cal P w K mg base 2 "is_whole_from" ["thing","least","most"] (jR nY))(c2:Cal P w K mg base 1 "is_tuple_of" ["thing","fewest","most"] (jR bz)):
  FnOk P w K mg base CX0 4 f fd ["thing"] (spT ie):=by
 refine F.ok Kv (fun vs H Q E h=>?_) (fun ar A outer s H vs Q E hr h=>?_)
 .obtain⟨S,v,d,rfl,_⟩:=h;rfl
 .obtain⟨S,v,d,rfl,th,hz,q⟩:=h;obtain⟨t3,e3⟩:=N.many;obtain⟨t4,e4⟩:=N.most
  refine⟨_,aD (aQ (bY (aG c2 hr (aP (pv 0) (aP az (aP (bR (v:=.int 80) rfl e3 ⟨_,rfl⟩) ao))))
   (dC (aO (eQ rfl) rfl T.all boot_all (aP (bK ["part"] [none] rfl (gf (pv 0))
    (fun C fp Zt s₂ H₂=>⟨bw (i:=0) (nd1 _) rfl (Or.inl rfl),bH,aG c1 hr (aP (pv 0) (aP az (aP (bR (v:=.int 99) rfl e4 ⟨_,rfl⟩) ao)))⟩) (fun C=>trivial) ⟨rfl,rfl,rfl,rfl⟩) ao))))),?_⟩
  refine⟨_,rfl,S,v,d,1,80,rfl,th,hz,fun H1 s1=>⟨_,rfl,?_⟩⟩;have eI:=th.same s1;have fin:=fun H' (s:Same H H')=>q H' s;unfold ie at fin
  cases e:bz d 1 80 with
  |false=>
   rw[e]at fin;exact bD (fin _ s1)
  |true=>
   rw[e]at fin;refine bQ ?_
   cases eI with
   |@tup a xs ds ea r=>exact cU (fun x=>nY x 1 99) rfl ea r (eZ r hz) (fun v d H2 Q2 hm s2 t2 q2=>⟨_,rfl,S,v,d,1,99,rfl,t2,jh hm hz,q2⟩) fun H2 s2=>fin _ (s1.trans s2)
   |_=>cases e
end
section
variable{X:Cx}{K:Frag}{tg l:Expr}{tl:TE}
theorem Bu(hK:X.K=K)(hl:PE X l tl):PI X tg l (FN K tl):=by
 subst hK;exact cF hl
theorem ix_tupK(hK:X.K=K):IxR X (J2 K):=by
 subst hK;exact bC
theorem mL(hK:X.K=K):di X (.type "tuple") (fun xs H Q=>∃p ys,xs=[.ref p]/\((SqL K H p ys/\∀l,H l=none->Q (.ref l) (upd H l (.tup ys)))\/(SqT K H p ys/\Q (.ref p) H))):=by
 subst hK;exact bV
end
def StAt(H:Hp)(st:Addr):Prop:=∃a b c:Int,H st=some (.lst [.int a,.int b,.int c])/\0<=a/\0<=b/\b<4294967296
structure Dr(st:Addr)(H H':Hp):Prop where
 bt:∀b o,H b=some o->b≠st->H' b=some o
 sa:StAt H' st
theorem Dr.same{st:Addr}{H H1 H2:Hp}(g:Dr st H H1)(s:Same H1 H2):Dr st H H2:=by
 obtain⟨a,b,c,e,h⟩:=g.sa;exact⟨fun b' o' e' ne=>s _ _ (g.bt b' o' e' ne),a,b,c,s _ _ e,h⟩
theorem Dr.trans{st:Addr}{H H1 H2:Hp}(g:Dr st H H1)(g':Dr st H1 H2):Dr st H H2:=⟨fun b' o' e' ne=>g'.bt _ _ (g.bt b' o' e' ne) ne,g'.sa⟩
theorem Dr.refl{st:Addr}{H:Hp}(h:StAt H st):Dr st H H:=⟨fun _ _ e _=>e,h⟩
theorem Dr.draw{st:Addr}{H H1:Hp}(g:Dr st H H1){a b c:Int}(h1:0<=a)(h2:0<=b)(h3:b<4294967296):Dr st H (upd H1 st (.lst [.int a,.int b,.int c])):=
 ⟨fun b' o' e' ne=>by rw[aA ne];exact g.bt _ _ e' ne,a,b,c,aj,h1,h2,h3⟩
theorem Dr.ne{st p:Addr}{H H1:Hp}(g:Dr st H H1)(hp:H1 p=none):p≠st:=fun z=>by
 obtain⟨a,b,c,e,_⟩:=g.sa;rw[z,e]at hp;cases hp
theorem Dr.tups{st:Addr}{H H1:Hp}(g:Dr st H H1)(h0:StAt H st):∀b xs,H b=some (.tup xs)->H1 b=some (.tup xs):=fun b xs e=>g.bt _ _ e fun z=>by
 obtain⟨_,_,_,e',_⟩:=h0;rw[z,e']at e;cases e
theorem Dr.ths{st:Addr}{H H1:Hp}{vs:List V}{ds:List PyData}(g:Dr st H H1)(h0:StAt H st)(t:IsThs (fun _=>False) H vs ds):IsThs (fun _=>False) H1 vs ds:=t.keep (g.tups h0) (fun _ _ z _=>z.elim) fun _ _ z _=>z.elim
inductive SpCellI(K:Frag)(vs:List V)(H:Hp)(Q:VK):Prop
 |mk:∀(a:Addr) (ns:List Int) (k:Int),(vs=[.ref a,.int k])->(SqL K H a (ns.map V.int))->(0<=k)->(∀i,Q (.int i) H)->SpCellI K vs H Q
def Bv(K:Frag):Sp:=fun vs H Q _=>SpCellI K vs H Q
inductive SpStateI(K:Frag)(vs:List V)(H:Hp)(Q:VK):Prop
 |mk:∀(a:Addr) (ns:List Int) (k:Int),(vs=[.ref a,.int k])->(SqL K H a (ns.map V.int))->(0<=k)->(∀(p:Addr) (x y z:Int),H p=none->0<=x->0<=y->y<4294967296->Q (.ref p) (upd H p (.lst [.int x,.int y,.int z])))->SpStateI K vs H Q
def spState(K:Frag):Sp:=fun vs H Q _=>SpStateI K vs H Q
inductive SpChoiceI(vs:List V)(H:Hp)(Q:VK):Prop
 |mk:∀(st:Addr) (n:Int),(vs=[.ref st,.int n])->(StAt H st)->(1<=n)->(n<1073741824)->(∀r a b c:Int,0<=r->r<n->0<=a->0<=b->b<4294967296->Q (.int r) (upd H st (.lst [.int a,.int b,.int c])))->SpChoiceI  vs H Q
def spChoice:Sp:=fun vs H Q _=>SpChoiceI  vs H Q
theorem pP:bootBuiltins "max"=some (.builtin "max"):=by decide +kernel
theorem pQ:bootBuiltins "min"=some (.builtin "min"):=by decide +kernel
section
variable{P:Program}{w:World}{K:Frag}{mg:Str->Option Value}{base:Heap}{f:Addr}{fd:FuncData}
theorem Kw:FnScope ["_law_script","_law_k"] ["_law_script","_law_k"] (aJ (top 65)):=fQS
theorem ok_cell(F:Fun K "_law_cell_at" "_law_cell_at" (top 65) f fd)(T:Mg mg):FnOk P w K mg base CX0 1 f fd ["_law_script","_law_k"] (Bv K):=by
 refine F.ok Kw (fun vs H Q E h=>?_) (fun ar A outer s H vs Q E hr h=>?_)
 .obtain⟨a,ns,k,rfl,_⟩:=h;rfl
 .obtain⟨a,ns,k,rfl,hS,h0,q⟩:=h;refine⟨_,aB (bZ (aY gB (pv 1) (aO bh rfl T.len PySem.boot_len (aP (pv 0) ao)) (bx _)) (aD (aQ (pX bM (pv 0) (pv 1)))) bf) (aD (aQ az)),?_⟩;refine⟨_,rfl,_,rfl,a,_,rfl,.inl hS,_,_,rfl,rfl,_,rfl,?_⟩;refine Dm (fun c=>?_) (fun _=>q 0);have c:=zBa c;rw[zA1]at c;have hk:k.toNat<ns.length:=Zz
  refine⟨_,rfl,_,rfl,a,_,k,.int ns[k.toNat],rfl,rfl,hS,?_,q _⟩;have e:(ns.map V.int)[k.toNat]?=some (.int ns[k.toNat]):=by rw[zAb,zA0 hk];rfl
  have:=dI e;rw[show((k.toNat:Nat):Int)=k by lia]at this;exact this
theorem sc26:FnScope ["_law_script","_law_k","_law_cell"] ["_law_script","_law_k"] (aJ (top 66)):=fQS
theorem ok_state(F:Fun K "_law_state" "_law_state" (top 66) f fd)(Tm:mg "max"=none)(c1:Cal P w K mg base 1 "_law_cell_at" ["_law_script","_law_k"] (Bv K)):FnOk P w K mg base CX0 2 f fd ["_law_script","_law_k"] (spState K):=by
 refine F.ok sc26 (fun vs H Q E h=>?_) (fun ar A outer s H vs Q E hr h=>?_)
 .obtain⟨a,ns,k,rfl,_⟩:=h;rfl
 .obtain⟨a,ns,k,rfl,hS,h0,q⟩:=h
  refine⟨_,aB (pss 2 sc26.nd (aG c1 hr (aP (pv 0) (aP (pv 1) ao))))
   (aD (aQ (dw (au (aO (ir rfl) rfl Tm pP (au az (au (aW fG (pv 2) (aW Gw az az)) ao))) (au (aW cj (aW iJ (pv 2) az) az) (au az ao)))))),?_⟩
  refine⟨_,rfl,_,rfl,a,ns,k,rfl,hS,h0,fun c=>?_⟩;refine⟨_,rfl,_,_,rfl,rfl,⟨by decide,by decide,by decide⟩,_,_,rfl,rfl,_,_,rfl,_,rfl,_,_,rfl,rfl,(by show(0:Int)<2147483629;decide),_,_,rfl,rfl,zL,fun p hp=>?_⟩;refine q p _ _ _ hp ?_ ?_ ?_
  .split<;>lia
  .show 0<=c % 2147483629+1;lia
  .show c % 2147483629+1<4294967296;lia
theorem sc27:FnScope ["_law_state_here","_law_many","_law_found","_law_mixed"] ["_law_state_here","_law_many"] (aJ (top 67)):=fQS
theorem ok_choice(F:Fun K "_law_choice" "_law_choice" (top 67) f fd):FnOk P w K mg base CX0 1 f fd ["_law_state_here","_law_many"] spChoice:=by
 refine F.ok sc27 (fun vs H Q E h=>?_) (fun ar A outer s H vs Q E hr h=>?_)
 .obtain⟨st,n,rfl,_⟩:=h;rfl
 .obtain⟨st,n,rfl,⟨a,b,c,es,ha,hb,Fh⟩,h1,h2,q⟩:=h
  refine⟨_,aB (bZ (aY sU (pX bM (pv 0) az) az (bx _))
    (aB (pss 2 sc27.nd (aW iJ (pX bM (pv 0) az) (pv 1)))
     (aB (cA (aW qx (pX bM (pv 0) az) (pv 1)) (jq (pv 0) az set_list)) (aD (aQ (pv 2))))) bf)
   (aB (cA (aW cj (pX bM (pv 0) az) az) (jq (pv 0) az set_list))
   (aB (cA (aW iJ (aW cj (aW cj (aW gK (pX bM (pv 0) az) az) az) (pX bM (pv 0) az)) az) (jq (pv 0) az set_list))
   (aB (pss 3 sc27.nd (aW iJ (aW cj (aW cj (aW gK (pX bM (pv 0) az) (pX bM (pv 0) az)) (aW gK az (pX bM (pv 0) az))) az) az))
   (aB (pss 3 sc27.nd (aW iJ (aW cj (aW gK (pv 3) (pv 3)) (aW gK az (pv 3))) az))
   (aD (aQ (aW iJ (aW qx (pv 3) az) (pv 1)))))))),?_⟩
  refine⟨_,rfl,st,_,0,.int a,rfl,rfl,SqL.of es,rfl,_,_,rfl,rfl,_,rfl,?_⟩;refine Dm (fun hc=>?_) (fun _=>?_)
  .refine⟨_,rfl,st,_,0,.int a,rfl,rfl,SqL.of es,rfl,_,rfl,_,_,rfl,rfl,(by show 0<n;lia),?_⟩;refine⟨_,rfl,st,_,0,.int a,rfl,rfl,SqL.of es,rfl,_,rfl,_,_,rfl,rfl,⟨Zz,h2⟩,_,rfl,st,_,0,0,rfl,rfl,es,rfl,_,rfl,?_⟩;exact q (a % n) (a / n) b c (Int.emod_nonneg a Zz) (Int.emod_lt_of_pos a Zz) (Int.ediv_nonneg ha Zz) hb Fh
  .refine⟨_,rfl,st,_,2,.int c,rfl,rfl,SqL.of es,rfl,_,_,rfl,rfl,_,rfl,st,_,2,2,rfl,rfl,es,rfl,?_⟩;have eL:([V.int a,V.int b,V.int c].set 2 ((fun i j:Int=>V.int (i+j)) c 1))=[V.int a,V.int b,V.int (c+1)]:=rfl;rw[eL];have iO:upd H st (.lst [.int a,.int b,.int (c+1)]) st=some (.lst [.int a,.int b,.int (c+1)]):=aj;refine⟨_,rfl,st,_,1,.int b,rfl,rfl,SqL.of iO,rfl,_,_,rfl,rfl,.inl ⟨Zz,Zz⟩,_,_,rfl,rfl,_,rfl,st,_,2,.int (c+1),rfl,rfl,SqL.of iO,rfl,_,_,rfl,rfl,_,_,rfl,rfl,(by show(0:Int)<2147483647;decide),_,rfl,st,_,1,1,rfl,rfl,iO,rfl,?_⟩;have LA:0<=(b*48271+29+(c+1)) % 2147483647:=Int.emod_nonneg _ Zx;have N6:(b*48271+29+(c+1)) % 2147483647<2147483647:=Int.emod_lt_of_pos _ Zx
   obtain⟨m,hm⟩:∃m,m=(b*48271+29+(c+1)) % 2147483647:=⟨_,rfl⟩
   rw[<-hm]at LA N6;have eL:([V.int a,V.int b,V.int (c+1)].set 1 ((fun i j:Int=>V.int (i % j)) (b*48271+29+(c+1)) 2147483647))=[V.int a,V.int m,V.int (c+1)]:=by rw[hm];rfl
   rw[eL]
   have eu:upd (upd H st (.lst [.int a,.int b,.int (c+1)])) st (.lst [.int a,.int m,.int (c+1)])=upd H st (.lst [.int a,.int m,.int (c+1)]):=by
    funext z;by_cases hz:z=st
    .rw[hz,aj,aj]
    .rw[aA hz,aA hz,aA hz]
   rw[eu];have dE:upd H st (.lst [.int a,.int m,.int (c+1)]) st=some (.lst [.int a,.int m,.int (c+1)]):=aj;refine⟨_,rfl,st,_,1,.int m,rfl,rfl,SqL.of dE,rfl,_,rfl,st,_,1,.int m,rfl,rfl,SqL.of dE,rfl,_,_,rfl,rfl,.inl ⟨Zz,Zz⟩,_,rfl,st,_,1,.int m,rfl,rfl,SqL.of dE,rfl,_,_,rfl,rfl,.inl ⟨by decide,by decide⟩,_,_,rfl,rfl,_,_,rfl,rfl,_,_,rfl,rfl,(by show(0:Int)<2147483629;decide),?_⟩;have Fm:0<=(m*m+39373*m+7) % 2147483629:=Int.emod_nonneg _ Zx;have sP:(m*m+39373*m+7) % 2147483629<2147483629:=Int.emod_lt_of_pos _ Zx;refine⟨_,rfl,_,rfl,_,_,rfl,rfl,.inl ⟨Int.lt_of_lt_of_le Zx Fm,Int.lt_trans sP Zx⟩,_,rfl,_,_,rfl,rfl,.inl ⟨by decide,by decide⟩,_,_,rfl,rfl,_,_,rfl,rfl,(by show(0:Int)<2147483587;decide),?_⟩;refine⟨_,rfl,_,_,rfl,rfl,⟨by decide,by decide⟩,_,rfl,_,_,rfl,rfl,(by show 0<n;lia),?_⟩;exact q _ a m (c+1) (Int.emod_nonneg _ Zz) (Int.emod_lt_of_pos _ Zz) ha LA Zz
end
theorem ok_b{X:Cx}{body:List Stmt}{t:TS}{R:TS->Prop}(h:BSs X body t)(q:R t):∃t,PSs X body t/\R t:=⟨t,h.run,q⟩
def rr(rs:List Int)(i:Nat):Int:=rs.getD i 0
def bef(rs:List Int)(i j:Nat):Bool:=decide (rr rs j<rr rs i)||(decide (rr rs i=rr rs j)&&decide (i<=j))
theorem jk{rs:List Int}{i j:Nat}:bef rs i j=true↔rr rs j<rr rs i\/(rr rs i=rr rs j/\i<=j):=by
 unfold bef;rw[Bool.or_eq_true,zAc,decide_eq_true_iff,decide_eq_true_iff,decide_eq_true_iff]
structure Ord(rs:List Int)(pl:List Nat):Prop where
 pm:pl.Perm (List.range rs.length)
 so:pl.Pairwise fun i j=>bef rs i j=true
theorem ig(rs:List Int):∃pl,Ord rs pl:=by
 refine⟨(List.range rs.length).mergeSort (bef rs),List.mergeSort_perm _ _,List.pairwise_mergeSort (fun a b c h1 h2=>?_) (fun a b=>?_) _⟩
 .rw[jk]at h1 h2⊢;lia
 .rw[Bool.or_eq_true,jk,jk];lia
theorem HN{rs:List Int}{p q:List Nat}(h:Ord rs p)(h':Ord rs q):p=q:=by
 refine List.Perm.eq_of_pairwise (fun a b _ _ h1 h2=>?_) h.so h'.so (h.pm.trans h'.pm.symm);rw[jk]at h1 h2;lia
def cW(fs:List Int)(pl:List Nat):List Int:=pl.foldl (fun l i=>l.set i (l.getD i 0+1)) fs
theorem vI(fs:List Int)(pl:List Nat)(i:Nat):cW fs (pl++[i])=(cW fs pl).set i ((cW fs pl).getD i 0+1):=by
 unfold cW;rw[List.foldl_append];rfl
theorem jC:∀(pl:List Nat) (fs:List Int),(cW fs pl).length=fs.length
 |[],_=>rfl
 |i::pl,fs=>by
  show(cW (fs.set i _) pl).length=_;rw[jC pl,List.length_set]
def fs(n:Int)(ws:List Int):List Int:=ws.map fun w=>n*w / ws.sum
def rs(n:Int)(ws:List Int):List Int:=ws.map fun w=>n*w % ws.sum
def lf(n:Int)(ws:List Int):Int:=n-(fs n ws).sum
def OkW(ws:List Int):Prop:=1<=ws.length/\ws.length<=80/\∀w∈ws,1<=w/\w<=99
theorem rQ{B:Int}:∀{l:List Int},(∀a∈l,a<=B)->l.sum<=B*l.length
 |[],_=>by simp
 |a::l,h=>by
  have h1:=rQ (B:=B) (l:=l) fun b hb=>h b (.tail _ hb);have h2:=h a (.head _);rw[List.sum_cons,List.length_cons,show B*((l.length+1:Nat):Int)=B*l.length+B by rw[Int.natCast_add,Int.mul_add];simp];lia
theorem iY:∀{l:List Int},(∀a∈l,0<=a)->0<=l.sum
 |[],_=>by simp
 |a::l,h=>by
  have h1:=iY (l:=l) fun b hb=>h b (.tail _ hb);have h2:=h a (.head _);rw[List.sum_cons];lia
theorem OkW.pos{ws:List Int}(h:OkW ws):1<=ws.sum:=by
 obtain⟨h1,_,h3⟩:=h
 match ws,h1,h3 with
 |w::ws,_,h3=>
  have:=iY (l:=ws) fun a ha=>by have:=h3 a (.tail _ ha);lia
  have:=h3 w (.head _);rw[List.sum_cons];lia
theorem OkW.top{ws:List Int}(h:OkW ws):ws.sum<=7920:=by
 have h1:=rQ (B:=99) fun a ha=>(h.2.2 a ha).2;have:=h.2.1;lia
theorem divs(n T:Int):∀ws:List Int,T*(ws.map fun w=>n*w / T).sum+(ws.map fun w=>n*w % T).sum=n*ws.sum
 |[]=>by simp
 |w::ws=>by
  have h1:=divs n T ws;have h2:=Int.mul_ediv_add_emod (n*w) T;simp only[List.map_cons,List.sum_cons,Int.mul_add];lia
theorem HQ(n:Int)(ws:List Int):ws.sum*lf n ws=(rs n ws).sum:=by
 have h:=divs n ws.sum ws;unfold lf fs rs;rw[Int.mul_sub,Int.mul_comm ws.sum n];lia
theorem Jz{n:Int}{ws:List Int}(h:OkW ws):∀r∈rs n ws,0<=r:=fun r hr=>by
 obtain⟨w,_,rfl⟩:=zA5.mp hr;have:=h.pos;exact Int.emod_nonneg _ Zz
theorem JB{n:Int}{ws:List Int}(h:OkW ws):∀r∈rs n ws,r<=ws.sum:=fun r hr=>by
 obtain⟨w,_,rfl⟩:=zA5.mp hr;have:=h.pos;exact Int.le_of_lt (Int.emod_lt_of_pos _ Zz)
theorem rR(n:Int)(ws:List Int):(fs n ws).length=ws.length:=zA1 _
theorem jD(n:Int)(ws:List Int):(rs n ws).length=ws.length:=zA1 _
theorem Bw{n:Int}{ws:List Int}(h:OkW ws):0<=lf n ws:=by
 have h1:=HQ n ws;have h2:=iY (Jz (n:=n) h);have h3:=h.pos;refine Int.le_of_not_gt fun c=>?_;have:=Int.mul_le_mul_of_nonneg_left (c:=ws.sum) (show lf n ws<=-1 by lia) Zz;lia
theorem G9{n:Int}{ws:List Int}(h:OkW ws):lf n ws<=ws.length:=by
 have h1:=HQ n ws;have h2:=rQ (JB (n:=n) h);rw[jD]at h2;have h3:=h.pos;refine Int.le_of_not_gt fun c=>?_;have:=Int.mul_le_mul_of_nonneg_left (c:=ws.sum) (show(ws.length:Int)+1<=lf n ws by lia) Zz;rw[Int.mul_add]at this;lia
theorem HR{ws:List Int}(h:OkW ws):lf ws.sum ws=0:=by
 have h1:=HQ ws.sum ws
 have h2:(rs ws.sum ws).sum<=0:=by
  have:=rQ (B:=0) (l:=rs ws.sum ws) fun r hr=>by
   obtain⟨w,_,rfl⟩:=zA5.mp hr;rw[Int.mul_emod_right];exact Int.le_refl _
  lia
 have h3:=h.pos;have h4:=Bw (n:=ws.sum) h;refine Int.le_antisymm (Int.le_of_not_gt fun c=>?_) h4;have:=Int.mul_le_mul_of_nonneg_left (c:=ws.sum) (show 1<=lf ws.sum ws by lia) Zz;lia
theorem pR:∀(pl:List Nat) (l:List Int) (i:Nat),i<l.length->(cW l pl).getD i 0=l.getD i 0+pl.count i
 |[],l,i,_=>by simp[cW]
 |j::pl,l,i,h=>by
  show(cW (l.set j (l.getD j 0+1)) pl).getD i 0=_;rw[pR pl _ i (by rw[List.length_set];exact h),List.count_cons];by_cases e:j=i
  .subst e;rw[zA7,List.getElem?_set_self h,Option.getD_some,beq_self_eq_true,zAz rfl];lia
  .rw[List.getD_eq_getElem?_getD,List.getElem?_set_ne e,<-List.getD_eq_getElem?_getD,if_neg (by simp[e])];lia
theorem Ord.nd{r:List Int}{pl:List Nat}(h:Ord r pl):pl.Nodup:=h.pm.nodup_iff.mpr List.nodup_range
theorem Ord.len{r:List Int}{pl:List Nat}(h:Ord r pl):pl.length=r.length:=by rw[h.pm.length_eq,List.length_range]
theorem Ord.lt{r:List Int}{pl:List Nat}(h:Ord r pl):∀i∈pl,i<r.length:=fun i hi=>List.mem_range.mp (h.pm.mem_iff.mp hi)
def res(n:Int)(ws:List Int):List Int:=cW (fs n ws) ((ig (rs n ws)).choose.take (lf n ws).toNat)
theorem HS{n:Int}{ws:List Int}{pl:List Nat}(h:Ord (rs n ws) pl):cW (fs n ws) (pl.take (lf n ws).toNat)=res n ws:=by
 unfold res;rw[HN h (ig (rs n ws)).choose_spec]
theorem res_len(n:Int)(ws:List Int):(res n ws).length=ws.length:=by
 unfold res;rw[jC,rR]
theorem res_get{n:Int}{ws:List Int}(h:OkW ws)(n0:0<=n)(n1:n<=ws.sum){i:Nat}{r w:Int}(hr:(res n ws)[i]?=some r)(hw:ws[i]?=some w):0<=r/\r<=w:=by
 have hi:i<ws.length:=(zAa.mp hw).1;have hp:=h.pos;have ww:=h.2.2 w (zB4 hw)
 have e:r=n*w / ws.sum+((ig (rs n ws)).choose.take (lf n ws).toNat).count i:=by
  have:=pR ((ig (rs n ws)).choose.take (lf n ws).toNat) (fs n ws) i (by rw[rR];exact hi)
  have e2:(fs n ws).getD i 0=n*w / ws.sum:=by
   unfold fs;rw[zA7,zAb,hw];rfl
  rw[e2]at this;rw[<-this,show cW (fs n ws) _=res n ws from rfl,zA7,hr];rfl
 have c1:((ig (rs n ws)).choose.take (lf n ws).toNat).count i<=1:=List.nodup_iff_count.mp ((ig (rs n ws)).choose_spec.nd.sublist (List.take_sublist _ _)) i;have q0:0<=n*w / ws.sum:=Int.ediv_nonneg (Int.mul_nonneg n0 Zz) Zz;refine⟨Zz,?_⟩;by_cases en:n=ws.sum
 .have:((ig (rs n ws)).choose.take (lf n ws).toNat)=[]:=by
   rw[en,HR h];rfl
  rw[this]at e;rw[en,Int.mul_ediv_cancel_left _ Zz]at e;simp at e;lia
 .have:n*w / ws.sum<w:=by
   refine Int.ediv_lt_of_lt_mul Zz ?_;rw[Int.mul_comm w];exact Int.mul_lt_mul_of_pos_right Zz Zz
  lia
theorem pU{K:Frag}{te:TE}{p:Addr}{ws:List Int}{cS:St}{H0:Hp}{Fin:List V->Hp->Prop}(f:Int->Int)(ep:H0 p=some (.tup (ws.map V.int)))(hl:ws.length<sizeLine)
  (Au:∀(z:Int) (Q:VK),z∈ws->Q (.int (f z)) H0->te (cS.set 0 (some (.int z))) H0 Q) (fin:Fin ((ws.map f).map V.int) H0):lw (Itt K p) (bu 0) uX te Fin cS H0:=by
 refine cz ws.length (fun i ys σ H=>H=H0/\(∀o,σ.set 0 o=cS.set 0 o)/\ys=((ws.take i).map f).map V.int) ⟨rfl,fun _=>rfl,rfl⟩ hl ?_ ?_
 .rintro i ys σ H hi hy ⟨rfl,oI,rfl⟩;have hz:(ws.map V.int)[i]?=some (.int ws[i]):=by rw[zAb,zA0 hi];rfl
  refine⟨⟨_,_,SqT.of ep,hz⟩,fun v H' y' R hR=>?_⟩;obtain⟨rfl,y'⟩:=y';have hv:=y' _ (SqT.of ep);rw[hz]at hv;cases hv;show te (σ.set 0 (some (.int ws[i]))) _ _;rw[oI];refine Au ws[i] _ (zAh hi) (hR _ _ _ ⟨rfl,fun o=>by rw[List.set_set],?_⟩);rw[zAj,zA0 hi,zA4,zA4];rfl
 .rintro ys σ H hy ⟨rfl,oI,rfl⟩;refine⟨⟨_,SqT.of ep,by rw[zA1];exact zA3 _⟩,?_⟩;rw[zAm];exact fin
def wD(ws:List Int):PyData:=.tuple (ws.map PyData.int)
theorem uD:∀(r:List Int),szs (r.map PyData.int)=r.length
 |[]=>rfl
 |_::r=>by
  show 1+szs (r.map PyData.int)=r.length+1;rw[uD r,Nat.add_comm]
theorem Ky(ws:List Int):sz (wD ws)=1+ws.length:=by
 show 1+szs (ws.map PyData.int)=_;rw[uD]
theorem Kz{ws:List Int}(h:OkW ws):ie (wD ws)=true:=by
 unfold ie;rw[zAc];refine⟨?_,List.all_eq_true.mpr fun d hd=>?_⟩
 .show(true&&(decide (1<=((ws.map PyData.int).length:Int))&&decide (((ws.map PyData.int).length:Int)<=80)))=true;have h1:=h.1;have h2:=h.2.1;rw[zA1,zAu Zz,zAu Zz];rfl
 .obtain⟨w,hw,rfl⟩:=zA5.mp hd;have:=h.2.2 w hw;show(true&&(decide (1<=w)&&decide (w<=99)))=true;rw[zAu this.1,zAu this.2];rfl
inductive SpRefuseI(vs:List V)(H:Hp)(Q:VK):Prop
 |mk:∀n p ws,(vs=[.int n,.ref p])->(H p=some (.tup (ws.map V.int)))->(OkW ws)->(0<=n)->(n<=ws.sum)->(∀H',Same H H'->Q .non H')->SpRefuseI  vs H Q
def uE:Sp:=fun vs H Q _=>SpRefuseI  vs H Q
inductive SpPlacesI(vs:List V)(H:Hp)(Q:VK):Prop
 |mk:∀p rests,(vs=[.ref p])->(H p=some (.lst ((rests:List Int).map V.int)))->(rests.length<sizeLine)->(∀H' q pl,Ord rests pl->Same H H'->H q=none->H' q=some (.lst (pl.map fun j:Nat=>V.int (j:Int)))->Q (.ref q) H')->SpPlacesI  vs H Q
def uF:Sp:=fun vs H Q _=>SpPlacesI  vs H Q
inductive SpPartsI(vs:List V)(H:Hp)(Q:VK):Prop
 |mk:∀n p ws,(vs=[.int n,.ref p])->(H p=some (.tup (ws.map V.int)))->(OkW ws)->(0<=n)->(n<=ws.sum)->(∀H' q,Same H H'->H' q=some (.tup ((res n ws).map V.int))->Q (.ref q) H')->SpPartsI  vs H Q
def spParts:Sp:=fun vs H Q _=>SpPartsI  vs H Q
def gC(H:Hp)(a:Addr):Nat:=match H a with
 |some (.tup [_,.int y])=>y.toNat
 |_=>0
def rowAt(H:Hp)(a:Addr):List Int:=match H a with
 |some (.tup [.int x,.int y])=>[x,y]
 |_=>[]
theorem JC{rests:List Int}{i:Nat}{x:Int}(h:rests[i]?=some x):rr rests i=x:=by
 unfold rr;rw[zA7,h];rfl
theorem Et{rests:List Int}{i j:Nat}(h:HT.lexLt [-(rr rests j),(j:Int)] [-(rr rests i),(i:Int)]=false):bef rests i j=true:=by
 rw[jk];rw[HT.lexLt_cons]at h;by_cases e:-(rr rests j)=-(rr rests i)
 .rw[zAz e,HT.lexLt_cons]at h;by_cases e2:(j:Int)=(i:Int)
  .exact .inr ⟨Zz,Zz⟩
  .rw[zAx e2]at h;have:=of_decide_eq_false h;exact .inr ⟨Zz,Zz⟩
 .rw[zAx e]at h;have:=of_decide_eq_false h;exact .inl Zz
section
variable{P:Program}{w:World}{K:Frag}{mg:Str->Option Value}{base:Heap}{f:Addr}{fd:FuncData}
theorem KC:FnScope ["sacks","weights"] ["sacks","weights"] (aJ (top 41)):=fQS
theorem ok_refuse(F:Fun K "refuse_unpartable" "refuse_unpartable" (top 41) f fd)(Ts:mg "sum"=none)(c1:Cal P w K mg base 4 "are_weights" ["thing"] (spT ie))(c2:Cal P w K mg base 2 "is_whole_from" ["thing","least","most"] (jR nY)):
  FnOk P w K mg base CX0 5 f fd ["sacks","weights"] uE:=by
 refine F.ok KC (fun vs H Q E h=>?_) (fun ar A outer s H vs Q E hr h=>?_)
 .obtain⟨n,p,ws,rfl,_⟩:=h;rfl
 .obtain⟨n,p,ws,rfl,ep,ok,n0,n1,q⟩:=h
  refine⟨_,aB (bZ (cX (eF (aG c1 hr (aP (pv 1) ao)))) (aD fM) bf)
   (aD (bZ (cX (eF (aG c2 hr (aP (pv 0) (aP az (aP (aO (dX rfl) rfl Ts boot_sum (au (pv 1) ao)) ao)))))) (aD fM) bf)),?_⟩
  refine aF ?_;refine⟨_,rfl,fun _=>False,_,wD ws,rfl,.tup ep (IsThs.ints ws),by rw[Ky];have:=ok.2.1;lia,fun H1 s1=>⟨_,rfl,?_⟩⟩;rw[Kz ok];refine bD ?_;dsimp only;refine⟨_,rfl,_,rfl,p,ws,rfl,.inr (SqT.of (s1 _ _ ep)),fun _=>False,_,.int n,0,_,rfl,.int n,(by show 1<=4000;decide),fun H2 s2=>⟨_,rfl,?_⟩⟩
  have e:nY (.int n) 0 ws.sum=true:=by
   show(true&&(decide (0<=n)&&decide (n<=ws.sum)))=true;rw[zAu n0,zAu n1];rfl
  rw[e];exact bD (q H2 (s1.trans s2))
theorem sc13:FnScope ["rests","ranked"] ["rests"] (aJ (top 42)):=fQS
theorem ok_places(F:Fun K "places_by_rest" "places_by_rest" (top 42) f fd)(Te:mg "enumerate"=none)(Ts:mg "sorted"=none):FnOk P w K mg base CX0 1 f fd ["rests"] uF:=by
 refine F.ok sc13 (fun vs H Q E h=>?_) (fun ar A outer s H vs Q E hr h=>?_)
 .obtain⟨p,rests,rfl,_⟩:=h;rfl
 .obtain⟨p,rests,rfl,ep,hz,q⟩:=h
  refine⟨_,aB (pss 1 sc13.nd (aO rA rfl Ts boot_sorted (au (bK (g:=j6 K 2 (bG (bu 0) (bG (bu 1) jo))) ["at","rest"] [none,none] rfl (ZT.pi_enum false rfl Te (au (pv 0) ao))
    (fun C fp Zt s₂ H₂=>⟨cR rfl rfl (aq (bw (i:=0) (nd2 _ _ Zx) rfl (Or.inl rfl) (Or.inr rfl)) (aq (bw (i:=1) (nd2 _ _ Zx) rfl (Or.inl rfl) (Or.inr rfl)) aV)),bH,
     bB (au (Iw Gx (pv 1)) (au (pv 0) ao))⟩) (fun C=>trivial) ⟨rfl,rfl,rfl,rfl⟩) ao)))
   (aD (aQ (bK (g:=j6 K 2 (bG (bu 0) (bG (bu 1) jo))) ["minus","at"] [none,none] rfl (cF (pv 1))
    (fun C fp Zt s₂ H₂=>⟨cR rfl rfl (aq (bw (i:=0) (nd2 _ _ Zx) rfl (Or.inl rfl) (Or.inr rfl)) (aq (bw (i:=1) (nd2 _ _ Zx) rfl (Or.inl rfl) (Or.inr rfl)) aV)),bH,
     pv 1⟩) (fun C=>trivial) ⟨rfl,rfl,rfl,rfl⟩))),?_⟩
  refine aF ?_;refine⟨_,rfl,p,_,rfl,SqL.of ep,cz rests.length (fun i ys σ Hc=>Same H Hc/\(∃o1 o2,σ=[o1,o2])/\∃ts:List Addr,ys=ts.map V.ref/\∀j,j<i->∃a,ts[j]?=some a/\Hc a=some (.tup [.int (-(rr rests j)),.int (j:Int)])) ⟨Same.refl H,⟨_,_,rfl⟩,[],rfl,fun j hj=>absurd hj (Nat.not_lt_zero _)⟩ hz ?_ ?_⟩
  .rintro i ys σ Hc hi hy ⟨s1,⟨o1,o2,rfl⟩,ts,rfl,oB⟩;rw[zA1]at hy;have pb:SqL K Hc p (rests.map V.int):=SqL.of (s1 _ _ ep)
   have hx:(rests.map V.int)[i]?=some (.int (rr rests i)):=by
    rw[zAb,zA0 hi,JC (zA0 hi)];rfl
   refine⟨⟨_,_,pb,hx⟩,fun v H' y R hR=>?_⟩;obtain⟨T,nT,rfl,y⟩:=y;obtain⟨x',gI,rfl⟩:=y _ pb;rw[hx]at gI;cases gI;have s2:=s1.updR (o:=.tup [.int (i:Int),.int (rr rests i)]) nT;refine⟨T,_,rfl,SqT.of aj,rfl,_,_,rfl,_,_,rfl,rfl,_,rfl,rr rests i,rfl,_,rfl,zL,fun t ht=>?_⟩;refine hR _ _ _ ⟨s2.updR ht,⟨_,_,rfl⟩,ts++[t],by rw[zA4];rfl,fun j hj=>?_⟩;by_cases e:j<i
   .obtain⟨a,h1,h2⟩:=oB j e;refine⟨a,by rw[zB7 Zz];exact h1,?_⟩;exact Same.upd ht _ _ (Same.upd nT _ _ h2)
   .have e:j=i:=Zz
    subst e;refine⟨t,by rw[zB3 Zz,hy,Nat.sub_self];rfl,aj⟩
  .rintro ys σ Hc hy ⟨s1,_,ts,rfl,oB⟩;rw[zA1]at hy;refine⟨⟨_,SqL.of (s1 _ _ ep),by rw[zA1];exact zA3 _⟩,fun D hD=>?_⟩;have s2:=s1.updR (o:=.lst (ts.map V.ref)) hD
   have sQ:∀j,j<rests.length->∃a,ts[j]?=some a/\upd Hc D (.lst (ts.map V.ref)) a=some (.tup [.int (-(rr rests j)),.int (j:Int)]):=fun j hj=>by
    obtain⟨a,h1,h2⟩:=oB j hj;exact⟨a,h1,Same.upd hD _ _ h2⟩
   have eD:=aj (H:=Hc) (a:=D) (o:=.lst (ts.map V.ref));generalize upd Hc D (.lst (ts.map V.ref))=H2 at s2 sQ eD⊢;clear oB hD s1
   have pe:∀a∈ts,∃j,j<rests.length/\H2 a=some (.tup [.int (-(rr rests j)),.int (j:Int)]):=fun a ha=>by
    obtain⟨j,hj,e⟩:=List.getElem_of_mem ha;obtain⟨b,h1,h2⟩:=sQ j Zz;rw[zA0 hj]at h1;injection h1 with h1;refine⟨j,Zz,?_⟩;rw[<-e,h1];exact h2
   refine⟨D,ts,rowAt H2,rfl,SqL.of eD,fun a ha=>?_,fun q' l' hq pm so=>?_⟩
   .obtain⟨j,hj,e⟩:=pe a ha;have er:rowAt H2 a=[-(rr rests j),(j:Int)]:=by unfold rowAt;rw[e]
    rw[er];exact⟨SqT.of e,by simp⟩
   have CO:∀a∈l',∃j,j<rests.length/\H2 a=some (.tup [.int (-(rr rests j)),.int (j:Int)]):=fun a ha=>pe a (pm.mem_iff.mp ha)
   have sn:∀a∈l',H2 a=some (.tup [.int (-(rr rests (gC H2 a))),.int (gC H2 a:Int)])/\rowAt H2 a=[-(rr rests (gC H2 a)),(gC H2 a:Int)]:=fun a ha=>by
    obtain⟨j,hj,e⟩:=CO a ha;have er:rowAt H2 a=[-(rr rests j),(j:Int)]:=by unfold rowAt;rw[e]
    have es:gC H2 a=j:=by unfold gC;rw[e];exact zAi j
    rw[er,es];exact⟨e,rfl⟩
   have ord:Ord rests (l'.map (gC H2)):=by
    refine⟨?_,?_⟩
    .refine(pm.map _).trans (List.Perm.of_eq (List.ext_getElem? fun j=>?_));by_cases hj:j<rests.length
     .obtain⟨a,h1,h2⟩:=sQ j hj;rw[zAb,h1,List.getElem?_range hj];show some (gC H2 a)=some j;unfold gC;rw[h2];exact congrArg some (zAi j)
     .rw[List.getElem?_eq_none (by rw[zA1];lia),List.getElem?_eq_none (by rw[List.length_range];lia)]
    .refine List.pairwise_map.mpr (so.imp_of_mem fun{a b} ha hb h=>?_);rw[(sn a ha).2,(sn b hb).2]at h;exact Et h
   have s3:=s2.updR (o:=.lst (l'.map V.ref)) hq;have Tw:l'.length=rests.length:=by rw[pm.length_eq,hy]
   have AW:=aj (H:=H2) (a:=q') (o:=.lst (l'.map V.ref));have Fn:∀a∈l',upd H2 q' (.lst (l'.map V.ref)) a=some (.tup [.int (-(rr rests (gC H2 a))),.int (gC H2 a:Int)]):=fun a ha=>Same.upd hq _ _ (sn a ha).1;generalize gC H2=sd at ord Fn;generalize upd H2 q' (.lst (l'.map V.ref))=H3 at s3 AW Fn⊢;dsimp only;refine lJ ?_;refine⟨_,rfl,q',rfl,⟨_,SqL.of AW⟩,cz rests.length (fun i ys σ Hc=>Same H3 Hc/\(∃o1 o2,σ=[o1,o2])/\ys=((l'.take i).map sd).map fun j:Nat=>V.int (j:Int)) ⟨Same.refl H3,⟨_,_,rfl⟩,rfl⟩ hz ?_ ?_⟩
   .rintro i ys σ Hc hi hy ⟨s4,⟨o1,o2,rfl⟩,rfl⟩;have dP:i<l'.length:=Zz
    have hu:(l'.map V.ref)[i]?=some (.ref l'[i]):=by rw[zAb,zA0 dP];rfl
    refine⟨⟨_,_,SqL.of (s4 _ _ AW),hu⟩,fun v H' y R hR=>?_⟩;obtain⟨rfl,y⟩:=y;have hv:=y _ (SqL.of (s4 _ _ AW));rw[hu]at hv;cases hv;refine⟨l'[i],_,rfl,SqT.of (s4 _ _ (Fn _ (zAh dP))),rfl,_,_,rfl,_,_,rfl,rfl,_,rfl,hR _ _ _ ⟨s4,⟨_,_,rfl⟩,?_⟩⟩;rw[zAj,zA0 dP,zA4,zA4];rfl
   .rintro ys σ Hc gx ⟨s4,_,rfl⟩;refine⟨⟨_,SqL.of (s4 _ _ AW),by rw[zA1];lia⟩,fun D' LB=>?_⟩;have s5:=s3.trans s4;have hn:H D'=none:=s5.free LB;refine q _ D' _ ord (s5.updR LB) hn ?_;rw[aj,List.take_of_length_le Zz]
end
theorem Eu{n j:Nat}(h:j<n):ixN n (j:Int)=some j:=by
 unfold ixN;rw[zAz Zz,zAz Zz,zAi]
theorem HW{ws:List Int}(ok:OkW ws):ws.length<sizeLine:=by
 have:=ok.2.1;rw[sizeLine_eq];lia
section
variable{P:Program}{w:World}{K:Frag}{mg:Str->Option Value}{base:Heap}{f:Addr}{fd:FuncData}
theorem JD:(["weight","sacks","together"]:List Str).Nodup:=by decide +kernel
theorem sc14:FnScope ["sacks","weights","together","parts","rests","left","at"] ["sacks","weights"] (aJ (top 43)):=fQS
theorem ok_parts(F:Fun K "parts_of" "parts_of" (top 43) f fd)(T:Mg mg)(Ts:mg "sum"=none)(c1:Cal P w K mg base 1 "places_by_rest" ["rests"] uF):FnOk P w K mg base CX0 2 f fd ["sacks","weights"] spParts:=by
 refine F.ok sc14 (fun vs H Q E h=>?_) (fun ar A outer s H vs Q E hr h=>?_)
 .obtain⟨n,p,ws,rfl,_⟩:=h;rfl
 .obtain⟨n,p,ws,rfl,ep,ok,n0,n1,q⟩:=h
  refine⟨_,aB (qu (i:=2) sc14.nd rfl (Or.inr rfl) (aO (dX rfl) rfl Ts boot_sum (au (pv 1) ao)))
   (aB (iy (i:=3) ["weight","sacks","together"] [none,some 0,some 2] rfl sc14.nd rfl (Or.inl rfl) (gf (pv 1))
    (fun C fp Zt s₂ H₂=>⟨pgn 0 JD,bH,aW qx (aW gK (pv 1) (pv 0)) (pv 2)⟩) (fun C=>cI (cI trivial)) ⟨rfl,rfl,rfl,rfl⟩)
   (aB (iy (i:=4) ["weight","sacks","together"] [none,some 0,some 2] rfl sc14.nd rfl (Or.inl rfl) (gf (pv 1))
    (fun C fp Zt s₂ H₂=>⟨pgn 0 JD,bH,aW iJ (aW gK (pv 1) (pv 0)) (pv 2)⟩) (fun C=>cI (cI trivial)) ⟨rfl,rfl,rfl,rfl⟩)
   (aB (pss 5 sc14.nd (aW fG (pv 0) (aO (dX rfl) rfl Ts boot_sum (au (pv 3) ao))))
   (aB (cH zBb rfl (cF (sX Dj (aG c1 hr (au (pv 4) ao)) wu (wy (pv 5)))) (pgn 6 sc14.nd)
    (aD (qw (pv 3) (pv 6) iC az zf set_list)))
   (aD (aQ (cu bV rfl T.tuple boot_tuple (au (pv 3) ao)))))))),?_⟩
  have hp:=ok.pos;have ht:=ok.top;have AX:=HW ok;refine aF ?_;refine⟨_,rfl,p,ws,rfl,.inr (SqT.of ep),?_⟩;dsimp only;refine aF ?_;refine⟨_,rfl,p,rfl,⟨_,SqT.of ep⟩,pU (fun z=>n*z / ws.sum) ep AX (fun z Q hz h=>⟨_,rfl,_,rfl,_,_,rfl,rfl,.inl ⟨Zz,Zz⟩,_,rfl,_,_,rfl,rfl,⟨Zz,Zz⟩,h⟩) ?_⟩;rw[show ws.map (fun z=>n*z / ws.sum)=fs n ws from rfl];intro l1 gg;have s1:=Same.upd (o:=.lst ((fs n ws).map V.int)) gg;have el1:=aj (H:=H) (a:=l1) (o:=.lst ((fs n ws).map V.int));generalize upd H l1 _=H1 at s1 el1⊢;dsimp only;refine aF ?_;refine⟨_,rfl,p,rfl,⟨_,SqT.of (s1 _ _ ep)⟩,pU (fun z=>n*z % ws.sum) (s1 _ _ ep) AX (fun z Q hz h=>⟨_,rfl,_,rfl,_,_,rfl,rfl,.inl ⟨Zz,Zz⟩,_,rfl,_,_,rfl,rfl,(by show 0<ws.sum;lia),h⟩) ?_⟩;rw[show ws.map (fun z=>n*z % ws.sum)=rs n ws from rfl];intro l2 ki;have s2:=s1.updR (o:=.lst ((rs n ws).map V.int)) ki;have el2:=aj (H:=H1) (a:=l2) (o:=.lst ((rs n ws).map V.int));have kS:=Same.upd (o:=.lst ((rs n ws).map V.int)) ki _ _ el1;have CM:H l1=none:=gg;clear gg ki;generalize upd H1 l2 _=H2 at s2 el2 kS⊢;clear el1 s1;dsimp only;refine aF ?_;refine⟨_,rfl,_,rfl,l1,fs n ws,rfl,.inl (SqL.of kS),_,_,rfl,rfl,?_⟩;show _;dsimp only;rw[show n-(fs n ws).sum=lf n ws from rfl];refine aF ?_;refine⟨_,rfl,l2,rs n ws,rfl,el2,by rw[jD];exact AX,fun H3 l3 pl ord s3 N7 el3=>⟨_,rfl,_,rfl,l3,_,rfl,SqL.of el3,fun l4 wb=>⟨l4,rfl,⟨_,SqL.of aj⟩,?_⟩⟩⟩;have Tx:=Bw (n:=n) ok;have TC:=G9 (n:=n) ok;have N8:=ord.len;rw[jD]at N8
  have Fs:nu (pl.map fun j:Nat=>V.int (j:Int)) none (some (lf n ws))=(pl.take (lf n ws).toNat).map fun j:Nat=>V.int (j:Int):=by
   rw[List.map_take,<-mJ (i:=(lf n ws).toNat) (by rw[zA1];lia),show((lf n ws).toNat:Int)=lf n ws by lia]
  rw[Fs];have fin:=HS ord
  have inr:∀j∈pl.take (lf n ws).toNat,j<ws.length:=fun j hj=>by
   have:=ord.lt j (List.mem_of_mem_take hj);rw[jD]at this;exact this
  generalize pl.take (lf n ws).toNat=pk at fin inr wb⊢;have s4:=(s2.trans s3).updR (o:=.lst (pk.map fun j:Nat=>V.int (j:Int))) wb;have el4:=aj (H:=H3) (a:=l4) (o:=.lst (pk.map fun j:Nat=>V.int (j:Int)));have AY:=Same.upd (o:=.lst (pk.map fun j:Nat=>V.int (j:Int))) wb _ _ (s3 _ _ kS)
  have N9:l4≠l1:=fun z=>by
   rw[z,s3 _ _ kS]at wb;cases wb
  generalize upd H3 l4 (.lst (pk.map fun j:Nat=>V.int (j:Int)))=H4 at s4 el4 AY⊢;clear wb el3 N7 s3 kS el2 s2;refine gJ (xs:=pk.map fun j:Nat=>V.int (j:Int)) (fun i σ Hc=>∃o6,σ=[some (.int n),some (.ref p),some (.int ws.sum),some (.ref l1),some (.ref l2),some (.int (lf n ws)),o6]/\Same H Hc/\Hc l4=some (.lst (pk.map fun j:Nat=>V.int (j:Int)))/\Hc l1=some (.lst ((cW (fs n ws) (pk.take i)).map V.int))) ?_ ?_ ?_ ?_
  .exact⟨none,rfl,s4,el4,AY⟩
  .rintro i σ Hc hi ⟨o6,rfl,s5,e4,e1⟩;exact SqL.of e4
  .rintro i v σ Hc hv ⟨o6,rfl,s5,e4,e1⟩;rw[zAb]at hv
   cases hj:pk[i]? with
   |none=>rw[hj]at hv;cases hv
   |some j=>
    rw[hj]at hv;cases hv;refine aM ?_
    have kp:∀o,Same H (upd Hc l1 o):=fun o b u e=>by
     rw[aA (aC e CM)];exact s5 _ _ e
    have ay:j<(cW (fs n ws) (pk.take i)).length:=by
     rw[jC,rR];exact inr j (zB4 hj)
    have hx:((cW (fs n ws) (pk.take i)).map V.int)[((j:Nat):Int).toNat]?=some (.int ((cW (fs n ws) (pk.take i)).getD j 0)):=by
     rw[zAi,zAb,zA0 ay,zA7,zA0 ay];rfl
    refine⟨_,rfl,_,rfl,l1,_,(j:Int),_,rfl,rfl,SqL.of e1,Zz,hx,_,_,rfl,rfl,l1,_,(j:Int),j,rfl,rfl,e1,Eu (by rw[zA1];exact ay),?_⟩;refine⟨_,rfl,kp _,by rw[aA N9];exact e4,?_⟩;rw[aj,zAj,hj];show _=some (HO.lst ((cW (fs n ws) (pk.take i++[j])).map V.int));rw[vI,List.map_set]
  .rintro σ Hc ⟨o6,rfl,s5,e4,e1⟩;rw[zA1,zAm,fin]at e1;dsimp only;refine lJ ?_;exact⟨_,rfl,l1,_,rfl,.inl ⟨SqL.of e1,fun t ht=>q _ t (s5.updR ht) aj⟩⟩
theorem sc15:FnScope ["sacks","weights"] ["sacks","weights"] (aJ (top 44)):=fQS
theorem ok_parted(F:Fun K "parted" "parted" (top 44) f fd)(c1:Cal P w K mg base 5 "refuse_unpartable" ["sacks","weights"] uE)(c2:Cal P w K mg base 2 "parts_of" ["sacks","weights"] spParts):FnOk P w K mg base CX0 6 f fd ["sacks","weights"] spParts:=by
 refine F.ok sc15 (fun vs H Q E h=>?_) (fun ar A outer s H vs Q E hr h=>?_)
 .obtain⟨n,p,ws,rfl,_⟩:=h;rfl
 .obtain⟨n,p,ws,rfl,ep,ok,n0,n1,q⟩:=h;refine⟨_,aB (cY (aG c1 hr (au (pv 0) (au (pv 1) ao)))) (aD (aQ (aG c2 hr (au (pv 0) (au (pv 1) ao))))),?_⟩;refine aF ?_;refine⟨_,rfl,_,rfl,n,p,ws,rfl,ep,ok,n0,n1,fun H1 s1=>?_⟩;dsimp only;refine lJ ?_;exact⟨_,rfl,_,rfl,n,p,ws,rfl,s1 _ _ ep,ok,n0,n1,fun H2 t s2 et=>q H2 t (s1.trans s2) et⟩
end
end K91P
namespace K91
open PySem L2
def cQ:Int->List (List Int)->List Int
 |_,[]=>[]
 |w,r::rs=>(if w<fl r 3 then w else fl r 3)::cQ (w-(if w<fl r 3 then w else fl r 3)) rs
theorem iZ:∀(w:Int) (rs:List (List Int)) (r:List Int),cQ w (rs++[r])=cQ w rs++[if w-(cQ w rs).sum<fl r 3 then w-(cQ w rs).sum else fl r 3]
 |w,[],r=>by
  show[_]=[_];rw[show(cQ w []).sum=0 from rfl,Int.sub_zero]
 |w,q::rs,r=>by
  rw[List.cons_append];unfold cQ;rw[iZ _ rs r,List.cons_append,List.sum_cons,show ∀a b c:Int,a-b-c=a-(b+c)from fun a b c=>by lia]
theorem fX:∀(w:Int) (rs:List (List Int)),(cQ w rs).length=rs.length
 |_,[]=>rfl
 |w,r::rs=>by
  unfold cQ;rw[zAe,zAe,fX]
inductive SpMadeI(vs:List V)(H:Hp)(Q:VK):Prop
 |mk:∀w l xs rs,(vs=[.int w,.ref l])->(H l=some (.lst xs))->(Els H xs rs)->((∀r∈rs,r.length=4))->(rs.length<=100000)->(∀m H',Same H H'->H m=none->H' m=some (.lst ((cQ w rs).map V.int))->Q (.ref m) H')->SpMadeI  vs H Q
def Bx:Sp:=fun vs H Q _=>SpMadeI  vs H Q
def bJ(w:Int)(rs:List (List Int)):List Int:=if(wts rs).sum<=w then wts rs else K91P.res w (wts rs)
inductive SpSharesI(vs:List V)(H:Hp)(Q:VK):Prop
 |mk:∀w l xs rs,(vs=[.int w,.ref l])->(H l=some (.lst xs))->(Els H xs rs)->((∀r∈rs,r.length=4/\1<=fl r 3/\fl r 3<=99))->(rs.length<=80)->(0<=w)->(∀t H',Same H H'->H' t=some (.tup ((bJ w rs).map V.int))->Q (.ref t) H')->SpSharesI  vs H Q
def uG:Sp:=fun vs H Q _=>SpSharesI  vs H Q
variable{P:Program}{w:World}{K:Frag}{mg:Str->Option Value}{base:Heap}{f:Addr}{fd:FuncData}
theorem scT1:FnScope ["wool","owed","shares","left","due","number","holder","sacks","share"] ["wool","owed"] (aJ (top 49)):=fQS
theorem Ew(F:Fun K "made_good" "made_good" (top 49) f fd)(Tn:mg "min"=none):FnOk P w K mg base CX0 1 f fd ["wool","owed"] Bx:=by
 refine F.ok scT1 (fun vs H Q E h=>?_) (fun ar A outer s H vs Q E hr h=>?_)
 .obtain⟨w0,l,xs,rs,rfl,_⟩:=h;rfl
 .obtain⟨w0,l,xs,rs,rfl,el,cq,h4,hz,q⟩:=h
  refine⟨_,aB (pss 2 scT1.nd (dw ao))
   (aB (pss 3 scT1.nd (pv 0))
   (aB (cH zBb rfl (cF (pv 1)) (bL rfl (aq (pgn 4 scT1.nd) (aq (pgn 5 scT1.nd) (aq (pgn 6 scT1.nd) (aq (pgn 7 scT1.nd) aV)))))
    (aB (pss 8 scT1.nd (aO (fO rfl) rfl Tn boot_min (au (pv 7) (au (pv 3) ao))))
    (aB (cY (wB zBg zBf zBe iu (pv 2) (au (pv 8) ao)))
    (aD (jr (i:=3) scT1.nd rfl (Or.inl rfl) (pv 8) zg)))))
   (aD (aQ (pv 2))))),?_⟩
  refine aF (aR ?_);refine⟨zL,fun m hm=>?_⟩;refine aM ?_;dsimp only;refine aF (aR ?_);refine⟨_,rfl,?_⟩;refine aM ?_;dsimp only;refine aF ?_;have s1:=Same.upd (o:=.lst []) hm;have nl:l≠m:=aC el hm;refine⟨_,rfl,l,rfl,⟨_,SqL.of (s1 _ _ el)⟩,?_⟩;refine gJ (xs:=xs) (fun i σ Hc=>Xe5 fun x4 x5 x6 x7 x8=>Xa3 (σ=[some (.int w0),some (.ref l),some (.ref m),some (.int (w0-(cQ w0 (rs.take i)).sum)),x4,x5,x6,x7,x8]) ((∀b o,H b=some o->Hc b=some o)) (Hc m=some (.lst ((cQ w0 (rs.take i)).map V.int)))) ?_ ?_ ?_ ?_
  .refine⟨none,none,none,none,none,?_,fun b o e=>s1 _ _ e,aj⟩;rw[List.take_zero,show(cQ w0 []).sum=0 from rfl,Int.sub_zero];rfl
  .rintro i σ Hc hi ⟨x4,x5,x6,x7,x8,rfl,k,em⟩;exact SqL.of (k _ _ el)
  .rintro i x σ Hc hx ⟨x4,x5,x6,x7,x8,rfl,k,em⟩
   have hi:i<rs.length:=by
    have:=(zAa.mp hx).1;rw[cq.1]at this;exact this
   obtain⟨t,ex,et⟩:=cq.2 i rs[i] (zA0 hi);rw[ex]at hx;cases hx;rw[dB (h4 _ (zAh hi))]at et;refine⟨t,_,rfl,SqT.of (k _ _ et),rfl,_,_,rfl,_,_,rfl,_,_,rfl,_,_,rfl,rfl,?_⟩;refine aF (aR ?_);refine⟨_,rfl,_,rfl,_,_,rfl,?_⟩;refine aM ?_;dsimp only;refine aF ?_;refine⟨_,rfl,.inl ⟨rfl,_,SqL.of em⟩,_,rfl,m,_,_,rfl,rfl,em,?_,?_⟩
   .rw[zA1,fX,zAd,sizeLine_eq];lia
   have df:rs.take (i+1)=rs.take i++[rs[i]]:=by rw[zAj,zA0 hi];rfl
   dsimp only;refine⟨_,rfl,_,rfl,_,_,rfl,rfl,some (.int (fl rs[i] 0)),some (.int (fl rs[i] 1)),some (.int (fl rs[i] 2)),some (.int (fl rs[i] 3)),some (.int (if w0-(cQ w0 (rs.take i)).sum<fl rs[i] 3 then w0-(cQ w0 (rs.take i)).sum else fl rs[i] 3)),?_,fun b o e=>?_,?_⟩
   .rw[df,iZ,List.sum_append,List.sum_cons,List.sum_nil,Int.add_zero,show ∀a b c:Int,a-(b+c)=a-b-c from fun a b c=>by lia];rfl
   .rw[aA (aC e hm)];exact k _ _ e
   .rw[aj,df,iZ,zA4];rfl
  .rintro σ Hc ⟨x4,x5,x6,x7,x8,rfl,k,em⟩;rw[show xs.length=rs.length from cq.1,zAm]at em;exact⟨_,rfl,q m Hc (fun b o e=>k b o e) hm em⟩
theorem scT2:FnScope ["wool","claims","weights"] ["wool","claims"] (aJ (top 48)):=fQS
theorem yM(F:Fun K "shares_of" "shares_of" (top 48) f fd)(T:Mg mg)(Ts:mg "sum"=none)(c1:Cal P w K mg base 6 "parted" ["sacks","weights"] K91P.spParts):FnOk P w K mg base CX0 7 f fd ["wool","claims"] uG:=by
 refine F.ok scT2 (fun vs H Q E h=>?_) (fun ar A outer s H vs Q E hr h=>?_)
 .obtain⟨w0,l,xs,rs,rfl,_⟩:=h;rfl
 .obtain⟨w0,l,xs,rs,rfl,el,cq,h4,hz,hw,q⟩:=h
  refine⟨_,aB (pss 2 scT2.nd (cu bV rfl T.tuple boot_tuple (au (bK (g:=j6 K 4 (bG (bu 0) (bG (bu 1) (bG (bu 2) (bG (bu 3) jo))))) ["due","number","holder","sacks"] [none,none,none,none] rfl (cF (pv 1))
    (fun C fp Zt s₂ H₂=>⟨cR rfl rfl (aq (pgn 0 nd4) (aq (pgn 1 nd4) (aq (pgn 2 nd4) (aq (pgn 3 nd4) aV)))),bH,pv 3⟩) (fun C=>trivial) ⟨rfl,rfl,rfl,rfl⟩) ao)))
   (aD (aQ (za (aY bW (aO (dX rfl) rfl Ts boot_sum (au (pv 2) ao)) (pv 0) (bx _)) (pv 2) (aG c1 hr (au (pv 0) (au (pv 2) ao)))))),?_⟩
  refine aF (aR ?_);refine⟨_,rfl,l,rfl,⟨_,SqL.of el⟩,cz rs.length (fun i ys σ Hc=>Same H Hc/\(∃o1 o2 o3 o4,σ=[o1,o2,o3,o4])/\ys=(wts (rs.take i)).map V.int) ⟨Same.refl H,⟨_,_,_,_,rfl⟩,rfl⟩ Zu ?_ ?_⟩
  .rintro i ys σ Hc hi hy ⟨s1,⟨o1,o2,o3,o4,rfl⟩,rfl⟩;obtain⟨t,ex,et⟩:=cq.2 i rs[i] (zA0 hi);rw[dB (h4 _ (zAh hi)).1]at et;refine⟨⟨_,_,SqL.of (s1 _ _ el),ex⟩,fun v H' y R hR=>?_⟩;obtain⟨rfl,y⟩:=y;have hv:=y _ (SqL.of (s1 _ _ el));rw[ex]at hv;cases hv;refine⟨t,_,rfl,SqT.of (s1 _ _ et),rfl,_,_,rfl,_,_,rfl,_,_,rfl,_,_,rfl,rfl,_,rfl,hR _ _ _ ⟨s1,⟨_,_,_,_,rfl⟩,?_⟩⟩;unfold wts;rw[zAj,zA0 hi,zA4,zA4];rfl
  .rintro ys σ Hc hy ⟨s1,_,rfl⟩;refine⟨⟨_,SqL.of (s1 _ _ el),by rw[cq.1];exact zA3 _⟩,fun D hD=>?_⟩;rw[zAm];refine⟨D,_,rfl,.inl ⟨SqL.of aj,fun t ht=>?_⟩⟩;have s2:=(s1.updR (o:=.lst ((wts rs).map V.int)) hD).updR (o:=.tup ((wts rs).map V.int)) ht;have et:=aj (H:=upd Hc D (.lst ((wts rs).map V.int))) (a:=t) (o:=.tup ((wts rs).map V.int));generalize upd (upd Hc D (.lst ((wts rs).map V.int))) t (.tup ((wts rs).map V.int))=H2 at s2 et⊢;refine aM ?_;dsimp only;refine⟨_,rfl,t,wts rs,rfl,.inr (SqT.of et),_,rfl,_,_,rfl,rfl,_,rfl,?_⟩;by_cases hs:(wts rs).sum<=w0
   .rw[zAu hs];refine bQ ⟨_,rfl,q t H2 s2 ?_⟩;unfold bJ;rw[zAz hs];exact et
   .rw[zB5 hs];refine bD ⟨_,rfl,_,rfl,w0,t,wts rs,rfl,et,⟨?_,?_,fun x hx=>?_⟩,hw,Zz,fun H3 t3 s3 e3=>q t3 H3 (s2.trans s3) ?_⟩
    .cases sR:rs with
     |nil=>
      rw[sR]at hs;exact absurd hw hs
     |cons r wc=>
      unfold wts;rw[zA1,zAe];lia
    .unfold wts;rw[zA1];exact hz
    .obtain⟨r,sR,rfl⟩:=zA5.mp hx;exact(h4 r sR).2
    .unfold bJ;rw[zAx hs];exact e3
theorem fY{J:It}{g:TG}{tt:TT}{te:TE}{cS:St}{H0:Hp}{Fin:List V->Hp->Prop}(n:Nat)(Pv:Nat->List V->St->Hp->Prop)(h0:Pv 0 [] cS H0)(hz:n<sizeLine)
  (step:∀i ys σ H,i<n->ys.length<=i->Pv i ys σ H->J.go i H/\∀x H',J.yld i H x H'->∀R:List V->St->Hp->Prop,(∀fk aw H4,fk.length<=i+1->Pv (i+1) fk aw H4->R fk aw H4)->g x σ H' fun aw H2=>tt aw H2 fun b H3=>if b=true then te aw H3 fun y H4=>R (ys++[y]) aw H4 else R ys aw H3)
  (fin:∀ys σ H,ys.length<=n->Pv n ys σ H->J.stop n H/\Fin ys H):lw J g tt te Fin cS H0:=by
 refine⟨fun i m ys σ H=>m=n-i/\i<=n/\ys.length<=i/\Pv i ys σ H,⟨_,rfl,zAp _,zA3 _,h0⟩,?_⟩;rintro i m ys σ H ⟨rfl,hi,hy,p⟩;refine⟨Zz,?_⟩;by_cases ay:i<n
 .obtain⟨go,st⟩:=step i ys σ H ay hy p;exact .inr ⟨go,fun x H' y=>st x H' y (fun fk aw H4=>∃m',m'<n-i/\m'=n-(i+1)/\i+1<=n/\fk.length<=i+1/\Pv (i+1) fk aw H4) fun fk aw H4 l2 p2=>⟨n-(i+1),Zz,rfl,ay,l2,p2⟩⟩
 .have e:i=n:=Zz
  subst e;exact .inl (fin ys σ H hy p)
def dH(P:List (List Int×Int)):List (List Int):=(P.filter fun p=>decide (0<p.2)).map fun p=>[fl p.1 0,fl p.1 1,fl p.1 2,p.2]
def dq(P:List (List Int×Int)):List (List Int):=(P.filter fun p=>decide (p.2<fl p.1 3)).map fun p=>[fl p.1 0,fl p.1 1,fl p.1 2,fl p.1 3-p.2]
theorem pW(P:List (List Int×Int))(p:List Int×Int):dH (P++[p])=dH P++(if 0<p.2 then[[fl p.1 0,fl p.1 1,fl p.1 2,p.2]]else[]):=by
 unfold dH;rw[List.filter_append,zA4];congr 1;by_cases h:0<p.2
 .rw[zAz h,zBd (p:=fun(p:List Int×Int)=>decide (0<p.2)) (zAu h)];rfl
 .rw[zAx h,zBc (p:=fun(p:List Int×Int)=>decide (0<p.2)) (by rw[Zp];exact h)];rfl
theorem mO(P:List (List Int×Int))(p:List Int×Int):dq (P++[p])=dq P++(if p.2<fl p.1 3 then[[fl p.1 0,fl p.1 1,fl p.1 2,fl p.1 3-p.2]]else[]):=by
 unfold dq;rw[List.filter_append,zA4];congr 1;by_cases h:p.2<fl p.1 3
 .rw[zAz h,zBd (p:=fun(p:List Int×Int)=>decide (p.2<fl p.1 3)) (zAu h)];rfl
 .rw[zAx h,zBc (p:=fun(p:List Int×Int)=>decide (p.2<fl p.1 3)) (by rw[Zp];exact h)];rfl
theorem j5{w:Int}{rs:List (List Int)}:(bJ w rs).length=rs.length:=by
 unfold bJ;split
 .unfold wts;rw[zA1]
 .rw[K91P.res_len];unfold wts;rw[zA1]
def shr(w:Int)(cl ow:List (List Int)):List Int:=bJ w cl++cQ (w-(bJ w cl).sum) ow
inductive SpSortI(vs:List V)(H:Hp)(Q:VK):Prop
 |mk:∀w lc xc cl lo xo ow,(vs=[.int w,.ref lc,.ref lo])->(H lc=some (.lst xc))->(Els H xc cl)->((∀r∈cl,r.length=4/\1<=fl r 3/\fl r 3<=99))->(cl.length<=80)->(0<=w)->(H lo=some (.lst xo))->(Els H xo ow)->((∀r∈ow,r.length=4))->(ow.length<=10000)->(∀t g k xg xk H',Same H H'->H' t=some (.tup [.ref g,.ref k])->H g=none->H k=none->H' g=some (.lst xg)->Els H' xg (dH ((cl++ow).zip (shr w cl ow)))->H' k=some (.lst xk)->Els H' xk (dq ((cl++ow).zip (shr w cl ow)))->Q (.ref t) H')->SpSortI  vs H Q
def By:Sp:=fun vs H Q _=>SpSortI  vs H Q
theorem uH:bootBuiltins "list"=some (.type "list"):=by decide +kernel
theorem nd5:(["due","number","holder","sacks","share"]:List Str).Nodup:=by decide +kernel
theorem scU1:FnScope ["wool","claims","owed","shares","rows","gifts","lacking"] ["wool","claims","owed"] (aJ (top 50)):=fQS
theorem BJ(F:Fun K "sort_given" "sort_given" (top 50) f fd)(Ts:mg "sum"=none)(Tl:mg "list"=none)(Tz:mg "zip"=none)(c1:Cal P w K mg base 7 "shares_of" ["wool","claims"] uG)(c2:Cal P w K mg base 1 "made_good" ["wool","owed"] Bx):FnOk P w K mg base CX0 8 f fd ["wool","claims","owed"] By:=by
 refine F.ok scU1 (fun vs H Q E h=>?_) (fun ar A outer s H vs Q E hr h=>?_)
 .obtain⟨w0,lc,xc,cl,lo,xo,ow,rfl,_⟩:=h;rfl
 .obtain⟨w0,lc,xc,cl,lo,xo,ow,rfl,ec,AZ,LC,Oa,hw,eo,mT,LD,Ob,q⟩:=h
  refine⟨_,aB (pss 3 scU1.nd (cu qD rfl Tl uH (au (aG c1 hr (au (pv 0) (au (pv 1) ao))) ao)))
   (aB (pss 4 scU1.nd (aW GK (pv 1) (pv 2)))
   (aB (jr (i:=3) scU1.nd rfl (Or.inl rfl) (aG c2 hr (au (aW fG (pv 0) (aO (dX rfl) rfl Ts boot_sum (au (pv 3) ao))) (au (pv 2) ao))) lZ)
   (aB (iy (g:=j6 K 2 (bG (j6 K 4 (bG (bu 0) (bG (bu 1) (bG (bu 2) (bG (bu 3) jo))))) (bG (bu 4) jo))) (i:=5) ["due","number","holder","sacks","share"] [none,none,none,none,none] rfl scU1.nd rfl (Or.inl rfl) (ZT.pi_zip false false rfl Tz (au (pv 4) (au (pv 3) ao))) (fun C fp Zt s₂ H₂=>⟨cR rfl rfl (aq (cR rfl rfl (aq (pgn 0 nd5) (aq (pgn 1 nd5) (aq (pgn 2 nd5) (aq (pgn 3 nd5) aV))))) (aq (pgn 4 nd5) aV)),iw (aY sU (pv 4) az (bx _)),bB (au (pv 0) (au (pv 1) (au (pv 2) (au (pv 4) ao))))⟩) (fun C=>trivial) ⟨rfl,rfl,rfl,rfl⟩)
   (aB (iy (g:=j6 K 2 (bG (j6 K 4 (bG (bu 0) (bG (bu 1) (bG (bu 2) (bG (bu 3) jo))))) (bG (bu 4) jo))) (i:=6) ["due","number","holder","sacks","share"] [none,none,none,none,none] rfl scU1.nd rfl (Or.inl rfl) (ZT.pi_zip false false rfl Tz (au (pv 4) (au (pv 3) ao))) (fun C fp Zt s₂ H₂=>⟨cR rfl rfl (aq (cR rfl rfl (aq (pgn 0 nd5) (aq (pgn 1 nd5) (aq (pgn 2 nd5) (aq (pgn 3 nd5) aV))))) (aq (pgn 4 nd5) aV)),iw (aY sU (pv 3) (pv 4) (bx _)),bB (au (pv 0) (au (pv 1) (au (pv 2) (au (aW fG (pv 3) (pv 4)) ao))))⟩) (fun C=>trivial) ⟨rfl,rfl,rfl,rfl⟩)
   (aD (aQ (bB (au (pv 5) (au (pv 6) ao))))))))),?_⟩
  refine cT fun c_ ck=>?_;refine aR ?_;refine⟨_,rfl,_,rfl,w0,lc,xc,cl,rfl,ec,AZ,LC,Oa,hw,fun t H1 s1 et=>⟨t,_,rfl,.inr (SqT.of et),fun ls A0=>?_⟩⟩;have s2:=s1.updR (o:=.lst ((bJ w0 cl).map V.int)) A0;have Oc:H ls=none:=s1.free A0;have cq:=aj (H:=H1) (a:=ls) (o:=.lst ((bJ w0 cl).map V.int));generalize upd H1 ls (.lst ((bJ w0 cl).map V.int))=H2 at s2 cq⊢;refine aM ?_;refine ck _ _ ?_;clear ck c_
  try dsimp only
  refine cT fun c_ ck=>?_;refine aR ?_;refine⟨_,rfl,_,rfl,lc,lo,xc,xo,rfl,rfl,s2 _ _ ec,s2 _ _ eo,by rw[AZ.1,mT.1,sizeLine_eq];lia,fun lr iL=>?_⟩;have s3:=s2.updR (o:=.lst (xc++xo)) iL;have TF:H lr=none:=s2.free iL;have nr:=Same.upd (o:=.lst (xc++xo)) iL _ _ cq;have Fu:=aj (H:=H2) (a:=lr) (o:=.lst (xc++xo))
  have Od:lr≠ls:=fun z=>by rw[z,cq]at iL;cases iL
  generalize upd H2 lr (.lst (xc++xo))=H3 at s3 nr Fu⊢;refine aM ?_;refine ck _ _ ?_;clear ck c_
  try dsimp only
  refine cT fun c_ ck=>?_;refine⟨_,rfl,_,rfl,_,rfl,ls,bJ w0 cl,rfl,.inl (SqL.of nr),_,_,rfl,rfl,_,rfl,_,lo,xo,ow,rfl,s3 _ _ eo,mT.same s3,LD,Zz,fun m H4 s4 nm em=>?_⟩;refine⟨ls,m,_,_,rfl,rfl,s4 _ _ nr,em,by rw[zA1,zA1,j5,fX,sizeLine_eq];lia,?_⟩;have LF:(bJ w0 cl).map V.int++(cQ (w0-(bJ w0 cl).sum) ow).map V.int=(shr w0 cl ow).map V.int:=by unfold shr;rw[zA4]
  rw[LF]
  have tf:(shr w0 cl ow).length=(cl++ow).length:=by
   unfold shr;rw[zA2,zA2,j5,fX]
  generalize shr w0 cl ow=SH at q tf;refine ck _ _ ?_;clear ck c_
  try dsimp only
  have k5:Same H (upd H4 ls (.lst (SH.map V.int))):=fun b o e=>by
   rw[aA (aC e Oc)];exact s4 _ _ (s3 _ _ e)
  have kU:=aj (H:=H4) (a:=ls) (o:=.lst (SH.map V.int));have gy:upd H4 ls (.lst (SH.map V.int)) lr=some (.lst (xc++xo)):=by rw[aA Od];exact s4 _ _ Fu
  generalize upd H4 ls (.lst (SH.map V.int))=H5 at k5 kU gy⊢;have we:Els H (xc++xo) (cl++ow):=AZ.app mT;have LG:∀r∈cl++ow,r.length=4:=fun r hr=>(zA6.mp hr).elim (fun z=>(LC r z).1) (LD r);have Oe:(cl++ow).length<=20000:=by rw[zA2];lia
  generalize xc++xo=xr at gy we;generalize cl++ow=rr at q tf we LG Oe;clear cq nr Fu LF s1 s2 s3 s4 em et
  obtain⟨ZP,CS⟩:∃ZP,ZP=rr.zip SH:=⟨_,rfl⟩
  rw[<-CS]at q;have nv:ZP.length=rr.length:=by rw[CS,zAs,tf,Nat.min_self]
  have tj:∀i (h:i<ZP.length),rr[i]?=some ZP[i].1:=fun i h=>by
   have hi:i<rr.length:=Zz
   rw[zA0 hi];congr 1;simp only[CS,List.getElem_zip]
  have A2:∀i (h:i<ZP.length),SH[i]?=some ZP[i].2:=fun i h=>by
   have hi:i<SH.length:=Zz
   rw[zA0 hi];congr 1;simp only[CS,List.getElem_zip]
  have A3:∀i (h:i<ZP.length),(ZP[i].1).length=4:=fun i h=>LG _ (zB4 (tj i h));refine cT fun c_ ck=>?_;refine⟨_,rfl,_,rfl,lr,ls,xr,_,rfl,SqL.of gy,SqL.of kU,fY rr.length (fun i ys σ Hc=>Same H5 Hc/\(∃o1 o2 o3 o4 o5,σ=[o1,o2,o3,o4,o5])/\Els Hc ys (dH (ZP.take i))) ⟨Same.refl _,⟨_,_,_,_,_,rfl⟩,Els.nil⟩ Zu ?_ ?_⟩
  .rintro i ys σ Hc hi hy ⟨sc,⟨o1,o2,o3,o4,o5,rfl⟩,ht⟩;have hP:i<ZP.length:=by rw[nv];exact hi
   obtain⟨tr,ex,et⟩:=we.2 i ZP[i].1 (tj i hP);have er:SqL K Hc lr xr:=SqL.of (sc _ _ gy);have es:SqL K Hc ls (SH.map V.int):=SqL.of (sc _ _ kU);have gx:(SH.map V.int)[i]?=some (.int ZP[i].2):=by rw[zAb,A2 i hP];rfl
   have df:ZP.take (i+1)=ZP.take i++[ZP[i]]:=by rw[zAj,zA0 hP];rfl
   have pj:=sc _ _ (k5 _ _ et);rw[dB (A3 i hP)]at pj;refine⟨⟨_,_,_,_,er,es,ex,gx⟩,fun x H' yv R hR=>?_⟩;obtain⟨T0,nT,rfl,yv⟩:=yv;obtain⟨x',y',sP,tq,rfl⟩:=yv _ _ er es;rw[ex]at sP;cases sP;rw[gx]at tq;cases tq;have pz:=sc.updR (o:=.tup [.ref tr,.int ZP[i].2]) nT;refine⟨T0,_,rfl,SqT.of aj,rfl,_,_,rfl,?_⟩;refine⟨tr,_,rfl,SqT.of (Same.upd nT _ _ pj),rfl,_,_,rfl,_,_,rfl,_,_,rfl,_,_,rfl,rfl,?_⟩;refine⟨_,_,rfl,rfl,?_⟩;refine⟨_,rfl,_,_,rfl,rfl,_,rfl,?_⟩;by_cases bS:0<ZP[i].2
   .rw[zAu bS];refine bQ ⟨_,rfl,_,rfl,_,rfl,_,rfl,zL,fun t f7=>hR _ _ _ (by rw[zA2];show ys.length+1<=i+1;lia) ⟨pz.updR f7,⟨_,_,_,_,_,rfl⟩,?_⟩⟩;rw[df,pW,zAz bS];exact(((ht.same (Same.upd nT)).same (Same.upd f7))).app (Els.one aj)
   .rw[zB5 bS];refine bD (hR _ _ _ Zz ⟨pz,⟨_,_,_,_,_,rfl⟩,?_⟩);rw[df,pW,zAx bS,zAn];exact ht.same (Same.upd nT)
  rintro ys σ Hc hy ⟨sc,_,ht⟩;rw[<-nv,zAm]at ht;refine⟨⟨_,SqL.of (sc _ _ gy),by rw[we.1];exact zA3 _⟩,fun g hg=>?_⟩;have k6:=(k5.trans sc).updR (o:=.lst ys) hg;have ng:H g=none:=(k5.trans sc).free hg;have eg:=aj (H:=Hc) (a:=g) (o:=.lst ys);have fg:=ht.same (Same.upd (o:=.lst ys) hg);have nB:=Same.upd (o:=.lst ys) hg _ _ (sc _ _ gy);have tw:=Same.upd (o:=.lst ys) hg _ _ (sc _ _ kU);generalize upd Hc g (.lst ys)=H6 at k6 eg fg nB tw⊢;clear sc ht hy kU gy k5;refine ck _ _ ?_;clear ck c_
  try dsimp only
  refine cT fun c_ ck=>?_;refine⟨_,rfl,_,rfl,lr,ls,xr,_,rfl,SqL.of nB,SqL.of tw,fY rr.length (fun i ys σ Hc=>Same H6 Hc/\(∃o1 o2 o3 o4 o5,σ=[o1,o2,o3,o4,o5])/\Els Hc ys (dq (ZP.take i))) ⟨Same.refl _,⟨_,_,_,_,_,rfl⟩,Els.nil⟩ Zu ?_ ?_⟩
  .rintro i ys σ Hc hi hy ⟨sc,⟨o1,o2,o3,o4,o5,rfl⟩,ht⟩;have hP:i<ZP.length:=by rw[nv];exact hi
   obtain⟨tr,ex,et⟩:=we.2 i ZP[i].1 (tj i hP);have er:SqL K Hc lr xr:=SqL.of (sc _ _ nB);have es:SqL K Hc ls (SH.map V.int):=SqL.of (sc _ _ tw);have gx:(SH.map V.int)[i]?=some (.int ZP[i].2):=by rw[zAb,A2 i hP];rfl
   have df:ZP.take (i+1)=ZP.take i++[ZP[i]]:=by rw[zAj,zA0 hP];rfl
   have pj:=sc _ _ (k6 _ _ et);rw[dB (A3 i hP)]at pj;refine⟨⟨_,_,_,_,er,es,ex,gx⟩,fun x H' yv R hR=>?_⟩;obtain⟨T0,nT,rfl,yv⟩:=yv;obtain⟨x',y',sP,tq,rfl⟩:=yv _ _ er es;rw[ex]at sP;cases sP;rw[gx]at tq;cases tq;have pz:=sc.updR (o:=.tup [.ref tr,.int ZP[i].2]) nT;refine⟨T0,_,rfl,SqT.of aj,rfl,_,_,rfl,?_⟩;refine⟨tr,_,rfl,SqT.of (Same.upd nT _ _ pj),rfl,_,_,rfl,_,_,rfl,_,_,rfl,_,_,rfl,rfl,?_⟩;refine⟨_,_,rfl,rfl,?_⟩;refine⟨_,rfl,_,rfl,_,_,rfl,rfl,_,rfl,?_⟩;by_cases bS:ZP[i].2<fl ZP[i].1 3
   .rw[zAu bS];refine bQ ⟨_,rfl,_,rfl,_,rfl,_,rfl,_,rfl,_,_,rfl,rfl,zL,fun t f7=>hR _ _ _ (by rw[zA2];show ys.length+1<=i+1;lia) ⟨pz.updR f7,⟨_,_,_,_,_,rfl⟩,?_⟩⟩;rw[df,mO,zAz bS];exact(((ht.same (Same.upd nT)).same (Same.upd f7))).app (Els.one aj)
   .rw[zB5 bS];refine bD (hR _ _ _ Zz ⟨pz,⟨_,_,_,_,_,rfl⟩,?_⟩);rw[df,mO,zAx bS,zAn];exact ht.same (Same.upd nT)
  rintro FA σ Hc hy ⟨sc,_,ht⟩;rw[<-nv,zAm]at ht;refine⟨⟨_,SqL.of (sc _ _ nB),by rw[we.1];exact zA3 _⟩,fun k hk=>?_⟩;have k7:=(k6.trans sc).updR (o:=.lst FA) hk;have nk:H k=none:=(k6.trans sc).free hk;have sk:=Same.upd (o:=.lst FA) hk;refine ck _ _ ?_;clear ck c_
  try dsimp only
  refine⟨_,rfl,_,rfl,zL,fun t f7=>?_⟩;have st:=Same.upd (o:=.tup [.ref g,.ref k]) f7;exact q t g k ys FA _ (k7.trans st) aj ng nk (st _ _ (sk _ _ (sc _ _ eg))) (((fg.same sc).same sk).same st) (st _ _ aj) ((ht.same sk).same st)
def gn(L:List Int)(i:Nat):List (List Int):=((List.range i).filter fun h=>decide (0<L.getD h 0)).map fun(h:Nat)=>[(h:Int),L.getD h 0]
theorem jM(L:List Int)(i:Nat):gn L (i+1)=gn L i++(if 0<L.getD i 0 then[[(i:Int),L.getD i 0]]else[]):=by
 unfold gn;rw[List.range_succ,List.filter_append,zA4];congr 1;by_cases h:0<L.getD i 0
 .rw[zAz h,zBd (p:=fun h=>decide (0<L.getD h 0)) (zAu h)];rfl
 .rw[zAx h,zBc (p:=fun h=>decide (0<L.getD h 0)) (by rw[Zp];exact h)];rfl
theorem vJ(L:List Int)(i:Nat):(gn L i).length<=i:=by
 unfold gn;rw[zA1];have:=List.length_filter_le (fun h=>decide (0<L.getD h 0)) (List.range i);rw[List.length_range]at this;exact this
def gF(ps ss:List (List Int))(sort year:Int)(n:Nat):List (List Int):=if fl (ps.getD n []) 1=sort then(gn (bI (ps.getD n []) ss n year) 8).map (fun r=>year::(n:Int)::r)else[]
def gq(ps ss:List (List Int))(sort year:Int):Nat->List (List Int)
 |0=>[]
 |k+1=>gq ps ss sort year k++gF ps ss sort year k
def aH(ps ss:List (List Int))(sort year:Int):List (List Int):=gq ps ss sort year ps.length
theorem BK(ps ss:List (List Int))(sort year:Int)(n:Nat):(gF ps ss sort year n).length<=8:=by
 unfold gF;split
 .rw[zA1];exact vJ _ 8
 .exact zAp _
theorem mQ(ps ss:List (List Int))(sort year:Int):∀k,(gq ps ss sort year k).length<=8*k
 |0=>zA3 _
 |k+1=>by
  unfold gq;rw[zA2];have:=mQ ps ss sort year k;have:=BK ps ss sort year k;lia
inductive SpClaimsI(vs:List V)(H:Hp)(Q:VK):Prop
 |mk:∀ap xp ps af xs ss sort year,(vs=[.ref ap,.ref af,.int sort,.int year])->(RowsAt H ap xp ps)->(ps.length<=10)->((∀r∈ps,okP r))->(RowsAt H af xs ss)->(ss.length<=12)->((∀s∈ss,okS s))->(∀l xl H',Same H H'->H l=none->H' l=some (.lst xl)->Els H' xl (aH ps ss sort year)->Q (.ref l) H')->SpClaimsI  vs H Q
def uI:Sp:=fun vs H Q _=>SpClaimsI  vs H Q
theorem ndV:(["holder","sacks","year","number"]:List Str).Nodup:=by decide +kernel
theorem scV1:FnScope ["promises","sales","sort","year","claims","number","promise","held"] ["promises","sales","sort","year"] (aJ (top 47)):=fQS
theorem yN(F:Fun K "claims_in" "claims_in" (top 47) f fd)(Te:mg "enumerate"=none)(c1:Cal P w K mg base 1 "held_in" ["promises","sales","number","year"] vH):FnOk P w K mg base CX0 2 f fd ["promises","sales","sort","year"] uI:=by
 refine F.ok scV1 (fun vs H Q E h=>?_) (fun ar A outer s H vs Q E hr h=>?_)
 .obtain⟨ap,xp,ps,af,xs,ss,sort,year,rfl,_⟩:=h;rfl
 .obtain⟨ap,xp,ps,af,xs,ss,sort,year,rfl,rp,lp,okp,rs,ls,eJ,q⟩:=h
  refine⟨_,aB (pss 4 scV1.nd (dw ao))
   (aB (cH zBb rfl (ZT.pi_enum true rfl Te (au (pv 0) ao)) (bL rfl (aq (bw (i:=5) scV1.nd rfl (Or.inr rfl)) (aq (pgn 6 scV1.nd) aV)))
    (aD (bZ (aY kE (pX bC (pv 6) az) (pv 2) (bx _))
     (aB (pss 7 scV1.nd (aG c1 hr (au (pv 0) (au (pv 1) (au (pv 5) (au (pv 3) ao))))))
     (aD (jr (i:=4) scV1.nd rfl (Or.inl rfl) (bK (g:=j6 K 2 (bG (bu 0) (bG (bu 1) jo))) ["holder","sacks","year","number"] [none,none,some 3,some 5] rfl (ZT.pi_enum false rfl Te (au (pv 7) ao))
      (fun C fp Zt s₂ H₂=>⟨cR rfl rfl (aq (pgn 0 ndV) (aq (pgn 1 ndV) aV)),iw (aY sU (pv 1) az (bx _)),bB (au (pv 2) (au (pv 3) (au (pv 0) (au (pv 1) ao))))⟩)
      (fun C=>cI (cI trivial)) ⟨rfl,rfl,rfl,rfl⟩) lZ))) bf)))
   (aD (aQ (pv 4)))),?_⟩
  refine aF (aR ?_);refine⟨zL,fun l hl=>?_⟩;refine aM ?_;dsimp only;refine aF ?_;have s0:=Same.upd (o:=.lst []) hl;refine⟨_,rfl,ap,xp,rfl,SqT.of (s0 _ _ rp.e),?_⟩;refine ZT.for_enum true (xs:=xp) (fun i σ Hc=>Xe4 fun x5 x6 x7 xl=>Xa4 (σ=[some (.ref ap),some (.ref af),some (.int sort),some (.int year),some (.ref l),x5,x6,x7]) ((∀b o,H b=some o->Hc b=some o)) (Hc l=some (.lst xl)) (Els Hc xl (gq ps ss sort year i))) ?_ ?_ ?_ ?_
  .exact⟨none,none,none,[],rfl,fun b o e=>s0 _ _ e,aj,Els.nil⟩
  .rintro i σ Hc hi ⟨x5,x6,x7,xl,rfl,k,el,ht⟩;exact SqT.of (k _ _ rp.e)
  .rintro i x σ Hc T0 hx ⟨x5,x6,x7,xl,rfl,k,el,ht⟩ nT
   have hi:i<ps.length:=by
    have:=(zAa.mp hx).1;rw[rp.l]at this;exact this
   obtain⟨tr,h8,fq⟩:=rp.g i ps[i] (zA0 hi)
   have:x=.ref tr:=by
    rw[hx]at h8;exact zAl h8
   subst this;have op:=okp ps[i] (zAh hi);have ep:ps.getD i []=ps[i]:=getD_get hi;rw[six_row op.1]at fq;have sT:=Same.upd (o:=.tup [V.int i,V.ref tr]) nT;have kT:Same H (upd Hc T0 (.tup [V.int i,V.ref tr])):=fun b o e=>sT _ _ (k _ _ e);have FC:=sT _ _ el;have FD:=ht.same sT;have eT:=aj (H:=Hc) (a:=T0) (o:=.tup [V.int i,V.ref tr]);generalize upd Hc T0 (.tup [V.int i,V.ref tr])=H1 at kT FC FD eT⊢;refine⟨T0,_,rfl,SqT.of eT,rfl,_,_,rfl,_,_,rfl,rfl,?_⟩;refine⟨_,rfl,tr,_,1,.int (fl ps[i] 1),rfl,rfl,SqT.of (kT _ _ fq),rfl,_,rfl,rfl,_,rfl,?_⟩;by_cases hs:fl ps[i] 1=sort
   .rw[zAu (by rw[hs])];refine bQ (aF ?_);refine aR ?_;refine⟨_,rfl,_,rfl,_,rfl,_,rfl,ap,xp,ps,af,xs,ss,i,year,rfl,rp.same kT,rs.same kT,Zz,Zz,by rw[zAi,ep];exact op,ls,eJ,fun hd H2 s2 e2=>?_⟩;rw[zAi,ep]at e2;have LH:=dY ps[i] ss i year
    have LI:gF ps ss sort year i=(gn (bI ps[i] ss i year) 8).map (fun r=>year::(i:Int)::r):=by
     unfold gF;rw[ep,zAz hs]
    generalize bI ps[i] ss i year=L at e2 LH LI;have k2:=kT.trans s2;have el2:=s2 _ _ FC;have FE:=FD.same s2;refine aM ?_;dsimp only;refine⟨_,rfl,_,rfl,hd,_,rfl,SqL.of e2,fY 8 (fun j ys σ Hj=>Same H2 Hj/\(∃o1 o2,σ=[o1,o2,some (.int year),some (.int i)])/\Els Hj ys ((gn L j).map (fun r=>year::(i:Int)::r))) ⟨Same.refl _,⟨_,_,rfl⟩,Els.nil⟩ (by rw[sizeLine_eq];decide) ?_ ?_⟩
    .rintro j ys σ Hj hj hy ⟨sc,⟨o1,o2,rfl⟩,tF⟩;have pb:SqL K Hj hd (L.map V.int):=SqL.of (sc _ _ e2)
     have LJ:(L.map V.int)[j]?=some (.int (L.getD j 0)):=by
      have cc:j<L.length:=Zz
      rw[zAb,zA7,zA0 cc];rfl
     refine⟨⟨_,_,pb,LJ⟩,fun x H' yv R hR=>?_⟩;obtain⟨T1,FF,rfl,yv⟩:=yv;obtain⟨x',gI,rfl⟩:=yv _ pb;rw[LJ]at gI;cases gI;have pz:=sc.updR (o:=.tup [.int (j:Int),.int (L.getD j 0)]) FF;refine⟨T1,_,rfl,SqT.of aj,rfl,_,_,rfl,_,_,rfl,rfl,?_⟩;refine⟨_,rfl,_,_,rfl,rfl,_,rfl,?_⟩;by_cases bS:0<L.getD j 0
     .rw[zAu bS];refine bQ ⟨_,rfl,_,rfl,_,rfl,_,rfl,zL,fun t f7=>hR _ _ _ (by rw[zA2];show ys.length+1<=j+1;lia) ⟨pz.updR f7,⟨_,_,rfl⟩,?_⟩⟩;rw[jM,zAz bS,zA4];exact((tF.same (Same.upd FF)).same (Same.upd f7)).app (Els.one aj)
     .rw[zB5 bS];refine bD (hR _ _ _ Zz ⟨pz,⟨_,_,rfl⟩,?_⟩);rw[jM,zAx bS,zAn];exact tF.same (Same.upd FF)
    .rintro ys σ Hj hy ⟨sc,_,tF⟩;refine⟨⟨_,SqL.of (sc _ _ e2),by rw[zA1];lia⟩,fun D hD=>?_⟩;have sD:=sc.updR (o:=.lst ys) hD
     have nD:D≠l:=fun z=>by rw[z,sc _ _ el2]at hD;cases hD
     have ll:=mQ ps ss sort year i;have:=ht.1;refine⟨l,D,xl,ys,rfl,rfl,sD _ _ el2,aj,by rw[sizeLine_eq];lia,?_⟩;refine⟨_,_,_,xl++ys,rfl,fun b o e=>?_,aj,?_⟩
     .rw[aA (aC e hl)];exact sD _ _ (k2 _ _ e)
     .have e3:=(FE.same sD).app (tF.same (Same.upd (o:=.lst ys) hD));rw[<-LI]at e3;refine e3.keep fun b z e=>?_;rw[aA fun w=>by rw[w,sD _ _ el2]at e;cases e];exact e
   .rw[zB5 (fun z=>hs (by injection z))];refine bD ?_;refine⟨_,_,_,xl,rfl,fun b o e=>kT _ _ e,FC,?_⟩
    have:gq ps ss sort year (i+1)=gq ps ss sort year i:=by
     show gq ps ss sort year i++gF ps ss sort year i=_;unfold gF;rw[ep,zAx hs,zAn]
    rw[this];exact FD
  .rintro σ Hc ⟨x5,x6,x7,xl,rfl,k,el,ht⟩;rw[show xp.length=ps.length from rp.l]at ht;exact⟨_,rfl,q l xl Hc (fun b o e=>k b o e) hl el ht⟩
theorem sum_set:∀(L:List Int) (i:Nat) (a:Int),i<L.length->(L.set i a).sum=L.sum-L.getD i 0+a
 |[],i,a,h=>by simp at h
 |x::L,0,a,h=>by
  rw[List.set_cons_zero,List.sum_cons,List.sum_cons,List.getD_cons_zero];lia
 |x::L,i+1,a,h=>by
  rw[List.set_cons_succ,List.sum_cons,List.sum_cons,List.getD_cons_succ,sum_set L i a (by simpa using h)];lia
theorem uJ{L:List Int}{i v:Int}(h:i.toNat<L.length):(fW L i v).sum=L.sum+v:=by
 unfold fW;rw[sum_set _ _ _ h];lia
theorem iY:∀{L:List Int},(∀x∈L,0<=x)->0<=L.sum/\∀x∈L,x<=L.sum
 |[],_=>⟨Int.le_refl _,fun x hx=>by cases hx⟩
 |y::L,h=>by
  obtain⟨h1,h2⟩:=iY (L:=L) fun x hx=>h x (.tail _ hx);have hy:=h y (.head _);rw[List.sum_cons];refine⟨Zz,fun x hx=>?_⟩;rcases zAo.mp hx with z|z
  .lia
  .have:=h2 x z;lia
theorem rT{L:List Int}(h:∀x∈L,0<=x)(i:Nat):0<=L.getD i 0:=by
 rw[zA7]
 cases e:L[i]? with
 |none=>exact Int.le_refl _
 |some y=>exact h y (zB4 e)
theorem xG{L:List Int}{i v:Int}(h:∀x∈L,0<=x)(hv:0<=L.getD i.toNat 0+v):∀x∈fW L i v,0<=x:=by
 intro x hx;unfold fW at hx;rcases List.mem_or_eq_of_mem_set hx with z|z
 .exact h x z
 .rw[z];exact hv
theorem vK{ps ss:List (List Int)}(h:un ps ss=none):∀j,j<ss.length->bT ps (ss.take j) (ss.getD j [])=true:=fun j hj=>by
 unfold un at h;have:=List.find?_eq_none.mp h j (List.mem_range.mpr hj);simpa using this
theorem Ex{ps ss:List (List Int)}{n:Nat}{y:Int}(hu:un ps ss=none)(h5:∀s∈ss,s.length=5)(op:okP (ps.getD n [])):
  ∀k,k<=ss.length->(∀x∈bI (ps.getD n []) (ss.take k) n y,0<=x)/\(bI (ps.getD n []) (ss.take k) n y).sum<=99:=by
 intro k;by_cases hy:fl (ps.getD n []) 2<=y/\y<=fl (ps.getD n []) 3
 .obtain⟨_,⟨a1,a2⟩,_,_,⟨e1,e2⟩,_⟩:=id op
  induction k with
  |zero=>
   intro _;rw[List.take_zero];unfold bI;rw[zAz hy];show(∀x∈base0 (ps.getD n []),0<=x)/\(base0 (ps.getD n [])).sum<=99;unfold base0;refine⟨fun x hx=>?_,?_⟩
   .rcases List.mem_or_eq_of_mem_set hx with z|z
    .rw[List.eq_of_mem_replicate z];exact Int.le_refl _
    .lia
   .rw[sum_set _ _ _ (by rw[List.length_replicate];lia)];have:(List.replicate 8 (0:Int)).sum=0:=rfl
    have e:(List.replicate 8 (0:Int)).getD (fl (ps.getD n []) 0).toNat 0=0:=by
     rw[zA7,List.getElem?_replicate,zAz Zz];rfl
    rw[this,e];lia
  |succ k ih=>
   intro hk;have cc:k<ss.length:=Zz
   obtain⟨i1,i2⟩:=ih Zz;have hB:=vK hu k cc;rw[getD_get cc]at hB;have df:ss.take (k+1)=ss.take k++[ss[k]]:=by rw[zAj,zA0 cc];rfl
   have eh:bI (ps.getD n []) (ss.take (k+1)) n y=hstep n y (bI (ps.getD n []) (ss.take k) n y) ss[k]:=by
    unfold bI;rw[zAz hy,zAz hy,df,List.foldl_append];rfl
   have Of:=mK (h5 _ (zAh cc)) hB;obtain⟨_,⟨b1,b2⟩,c1,c2⟩:=Of;have hl:=dY (ps.getD n []) (ss.take k) n y;rw[eh];unfold hstep;by_cases hc:fl ss[k] 0=n/\fl ss[k] 4<=y
   .rw[zAz hc];unfold bT at hB;rw[zAc]at hB;obtain⟨FG,Fh⟩:=hB
    have ep:jU ps ss[k]=ps.getD n []:=by
     unfold jU;rw[hc.1,zAi]
    have sf:fl ss[k] 3<=(bI (ps.getD n []) (ss.take k) n y).getD (fl ss[k] 1).toNat 0:=by
     have:=List.all_eq_true.mp Fh y (by
      unfold years;refine zA5.mpr ⟨(y-fl ss[k] 4).toNat,List.mem_range.mpr ?_,?_⟩
      .rw[ep];lia
      .lia)
     have:=zBa this;rw[ep,hc.1]at this;exact this
    unfold nZ at FG;simp only[Bool.and_eq_true,Zp,Bool.not_eq_true',decide_eq_false_iff_not]at FG;obtain⟨_,_,_,TH,⟨v1,v2⟩,_⟩:=FG;generalize bI (ps.getD n []) (ss.take k) n y=L at i1 i2 hl sf;have n1:=xG (i:=fl ss[k] 1) (v:=-(fl ss[k] 3)) i1 Zz;refine⟨xG n1 ?_,?_⟩
    .have:=rT n1 (fl ss[k] 2).toNat;lia
    .rw[uJ (by rw[gZ];lia),uJ Zz];lia
   .rw[zAx hc];exact⟨i1,i2⟩
 .intro _;unfold bI;rw[zAx hy];refine⟨fun x hx=>by rw[List.eq_of_mem_replicate hx];exact Int.le_refl _,by decide⟩
theorem Ga{ps ss:List (List Int)}{sort year:Int}(hu:un ps ss=none)(h5:∀s∈ss,s.length=5)(okp:∀r∈ps,okP r):∀k,k<=ps.length->∀r∈gq ps ss sort year k,r.length=4/\1<=fl r 3/\fl r 3<=99/\fl r 0=year/\0<=fl r 1/\fl r 1<k:=by
 intro k
 induction k with
 |zero=>intro _ r hr;cases hr
 |succ k ih=>
  intro hk r hr;rcases zA6.mp (show r∈gq ps ss sort year k++gF ps ss sort year k from hr)with z|z
  .obtain⟨h1,h2,h3,h4,h6,h7⟩:=ih Zz r z;exact⟨h1,h2,h3,h4,h6,Zz⟩
  .unfold gF at z;split at z
   .obtain⟨q,hq,rfl⟩:=zA5.mp z;unfold gn at hq;obtain⟨h,hh,rfl⟩:=zA5.mp hq;have hp:=zBa (zAq.mp hh).2;have cc:k<ps.length:=Zz
    obtain⟨a,b⟩:=Ex (n:=k) (y:=year) hu h5 (by rw[getD_get cc];exact okp _ (zAh cc)) ss.length (zA3 _);rw[zAm]at a b
    have le:(bI (ps.getD k []) ss k year).getD h 0<=99:=by
     rw[zA7]at hp⊢
     cases e:(bI (ps.getD k []) ss k year)[h]? with
     |none=>show(0:Int)<=99;decide
     |some y=>
      have:=(iY a).2 y (zB4 e);show y<=99;lia
    refine⟨rfl,?_,le,rfl,?_,?_⟩
    .show 1<=(bI (ps.getD k []) ss k year).getD h 0;lia
    .show(0:Int)<=(k:Int);lia
    .show(k:Int)<((k+1:Nat):Int);lia
   .cases z
end K91
namespace K91P
open PySem L2
theorem sum_set:∀{l:List Int} {i:Nat} {x:Int},i<l.length->(l.set i (l.getD i 0+x)).sum=l.sum+x
 |a::l,0,x,_=>by simp;lia
 |a::l,i+1,x,h=>by
  have:=sum_set (l:=l) (i:=i) (x:=x) (by simpa using h);simp only[List.set_cons_succ,List.sum_cons,List.getD_cons_succ];lia
theorem pZ:∀(pl:List Nat) (l:List Int),(∀i∈pl,i<l.length)->(cW l pl).sum=l.sum+pl.length
 |[],l,_=>by simp[cW]
 |i::pl,l,h=>by
  show(cW (l.set i (l.getD i 0+1)) pl).sum=_;rw[pZ pl _ fun j hj=>by rw[List.length_set];exact h j (.tail _ hj),sum_set (h i (.head _)),zAe];lia
theorem res_sum{n:Int}{ws:List Int}(ok:OkW ws):(res n ws).sum=n:=by
 have o:=(ig (rs n ws)).choose_spec;have hl:=o.len;rw[jD]at hl;have l0:=Bw (n:=n) ok;have l1:=G9 (n:=n) ok;unfold res;rw[pZ _ _ fun i hi=>by rw[rR];have:=o.lt i (List.mem_of_mem_take hi);rw[jD]at this;exact this,zAd,Nat.min_eq_left Zz];have:lf n ws=n-(fs n ws).sum:=rfl;lia
end K91P
namespace K91
open PySem L2
theorem mR:∀{w:Int} {rs:List (List Int)},0<=w->(∀r∈rs,0<=fl r 3)->(∀x∈cQ w rs,0<=x)/\0<=(cQ w rs).sum/\(cQ w rs).sum<=w
 |w,[],h,_=>⟨fun x hx=>(by cases hx),Int.le_refl _,h⟩
 |w,r::rs,h,hr=>by
  have h3:=hr r (.head _);unfold cQ;by_cases hc:w<fl r 3
  .rw[zAz hc];obtain⟨a,b,c⟩:=mR (w:=w-w) (rs:=rs) Zz fun q hq=>hr q (.tail _ hq);refine⟨fun x hx=>?_,by rw[List.sum_cons];lia,by rw[List.sum_cons];lia⟩;rcases zAo.mp hx with z|z
   .lia
   .exact a x z
  .rw[zAx hc];obtain⟨a,b,c⟩:=mR (w:=w-fl r 3) (rs:=rs) Zz fun q hq=>hr q (.tail _ hq);refine⟨fun x hx=>?_,by rw[List.sum_cons];lia,by rw[List.sum_cons];lia⟩;rcases zAo.mp hx with z|z
   .lia
   .exact a x z
theorem xH:∀{rs:List (List Int)} {sh:List Int},sh.length=rs.length->(∀x∈sh,0<=x)->dR (dH (rs.zip sh))=sh.sum
 |[],[],_,_=>rfl
 |[],_::_,h,_=>by simp at h
 |_::_,[],h,_=>by simp at h
 |r::rs,x::sh,h,hn=>by
  have ih:=xH (rs:=rs) (sh:=sh) (by simpa using h) fun y hy=>hn y (.tail _ hy);have hx:=hn x (.head _);rw[List.zip_cons_cons,List.sum_cons,<-ih];unfold dH;by_cases hp:0<x
  .rw[zBd (p:=fun(p:List Int×Int)=>decide (0<p.2)) (zAu hp),zAk];unfold dR wts;rw[zAk,List.sum_cons];rfl
  .rw[zBc (p:=fun(p:List Int×Int)=>decide (0<p.2)) (by rw[Zp];exact hp)];have:x=0:=Zz
   rw[this,Int.zero_add]
theorem HX{w:Int}{cl ow:List (List Int)}(hw:0<=w)(hc:∀r∈cl,r.length=4/\1<=fl r 3/\fl r 3<=99)(hz:cl.length<=80)(ho:∀r∈ow,0<=fl r 3):(∀x∈shr w cl ow,0<=x)/\0<=(shr w cl ow).sum/\(shr w cl ow).sum<=w:=by
 have hs:(∀x∈bJ w cl,0<=x)/\(bJ w cl).sum<=w:=by
  unfold bJ;by_cases h:(wts cl).sum<=w
  .rw[zAz h];refine⟨fun x hx=>?_,h⟩;obtain⟨r,hr,rfl⟩:=zA5.mp hx;have:=(hc r hr).2.1;lia
  .rw[zAx h]
   have ok:K91P.OkW (wts cl):=by
    refine⟨?_,by unfold wts;rw[zA1];exact hz,fun x hx=>?_⟩
    .cases sR:cl with
     |nil=>
      rw[sR]at h;exact absurd hw h
     |cons r wc=>
      unfold wts;rw[zA1,zAe];lia
    .obtain⟨r,hr,rfl⟩:=zA5.mp hx;exact(hc r hr).2
   refine⟨fun x hx=>?_,by rw[K91P.res_sum ok];exact Int.le_refl _⟩;obtain⟨i,hi,e⟩:=List.getElem_of_mem hx;have dP:i<(wts cl).length:=by rw[K91P.res_len]at hi;exact hi
   exact(K91P.res_get ok hw Zz (i:=i) (r:=x) (w:=(wts cl)[i]) (by rw[zA0 hi,e]) (zA0 dP)).1
 obtain⟨h1,h2⟩:=hs;have h3:=(iY h1).1;obtain⟨m1,m2,m3⟩:=mR (w:=w-(bJ w cl).sum) (rs:=ow) Zz ho;unfold shr;refine⟨fun x hx=>(zA6.mp hx).elim (h1 x) (m1 x),?_,?_⟩
 .rw[List.sum_append];lia
 .rw[List.sum_append];lia
theorem Ey{w:Int}{cl ow:List (List Int)}(hw:0<=w)(hc:∀r∈cl,r.length=4/\1<=fl r 3/\fl r 3<=99)(hz:cl.length<=80)(ho:∀r∈ow,0<=fl r 3):dR (dH ((cl++ow).zip (shr w cl ow)))=(shr w cl ow).sum/\0<=w-dR (dH ((cl++ow).zip (shr w cl ow))):=by
 obtain⟨a,b,c⟩:=HX hw hc hz ho;have e:=xH (rs:=cl++ow) (sh:=shr w cl ow) (by unfold shr;rw[zA2,zA2,j5,fX]) a;exact⟨e,by rw[e];lia⟩
def rle(a b:List Int):Bool:=!HT.lexLt b a
theorem BL(a b c:List Int)(h1:rle a b=true)(h2:rle b c=true):rle a c=true:=by
 unfold rle at *;rw[Bool.not_eq_true']at *
 cases h:HT.lexLt c a with
 |false=>rfl
 |true=>
  rcases wQ c b a h with z|z
  .rw[z]at h2;cases h2
  .rw[z]at h1;cases h1
theorem xJ(a b:List Int):(rle a b||rle b a)=true:=by
 unfold rle
 cases h:HT.lexLt b a with
 |false=>rfl
 |true=>
  cases h':HT.lexLt a b with
  |false=>rfl
  |true=>
   have:=qY a b a h' h;rw[qX]at this;cases this
def srt(rs:List (List Int)):List (List Int):=rs.mergeSort rle
theorem vL{rs wc:List (List Int)}(pm:wc.Perm rs)(so:wc.Pairwise (fun a b=>HT.lexLt b a=false)):wc=srt rs:=by
 have Og:wc.Pairwise (fun a b=>rle a b=true):=so.imp fun{a b} h=>by unfold rle;rw[h];rfl
 refine List.Perm.eq_of_pairwise (le:=fun a b=>rle a b=true) (fun a b _ _ h1 h2=>?_) Og (List.pairwise_mergeSort BL xJ rs) (pm.trans (List.mergeSort_perm rs rle).symm);unfold rle at h1 h2;rw[Bool.not_eq_true']at h1 h2;exact jX a b h2 h1
structure Yr where
 g:List (List Int)
 k:List (List Int)
 l:List Int
 d:Int
def aK(ps ow:List (List Int))(sort:Int):List (List Int):=ow.filter fun r=>decide (fl (ps.getD (fl r 1).toNat []) 1=sort)
def mU(c:List Int)(ps ss ow:List (List Int))(y:Int)(a:Yr)(sort:Nat):Yr:=
 ⟨a.g++dH ((aH ps ss sort y++aK ps ow sort).zip (shr (c.getD sort 0+a.d) (aH ps ss sort y) (aK ps ow sort))),
  a.k++dq ((aH ps ss sort y++aK ps ow sort).zip (shr (c.getD sort 0+a.d) (aH ps ss sort y) (aK ps ow sort))),
  a.l++[c.getD sort 0+a.d-dR (dH ((aH ps ss sort y++aK ps ow sort).zip (shr (c.getD sort 0+a.d) (aH ps ss sort y) (aK ps ow sort))))],
  c.getD sort 0+a.d-dR (dH ((aH ps ss sort y++aK ps ow sort).zip (shr (c.getD sort 0+a.d) (aH ps ss sort y) (aK ps ow sort))))⟩
def yTo(c:List Int)(ps ss ow:List (List Int))(y:Int):Nat->Yr
 |0=>⟨[],[],[],0⟩
 |n+1=>mU c ps ss ow y (yTo c ps ss ow y n) n
def okO(ps:List (List Int))(r:List Int):Prop:=r.length=4/\0<=fl r 1/\fl r 1<ps.length/\1<=fl r 3
theorem mV{ps ow:List (List Int)}{sort:Int}(h:∀r∈ow,okO ps r):∀r∈aK ps ow sort,okO ps r:=fun r hr=>h r (zAq.mp hr).1
theorem q9(ps ow:List (List Int))(sort:Int):(aK ps ow sort).length<=ow.length:=List.length_filter_le _ _
theorem qb{ps ss:List (List Int)}{sort year:Int}(hu:un ps ss=none)(h5:∀s∈ss,s.length=5)(okp:∀r∈ps,okP r):∀r∈aH ps ss sort year,r.length=4/\1<=fl r 3/\fl r 3<=99:=fun r hr=>by
 obtain⟨a,b,c,_⟩:=Ga (sort:=sort) (year:=year) hu h5 okp ps.length (zA3 _) r hr;exact⟨a,b,c⟩
theorem gr{ps ss:List (List Int)}{sort year:Int}(h:ps.length<=10):(aH ps ss sort year).length<=80:=by
 have:=mQ ps ss sort year ps.length;unfold aH;lia
theorem JF{c:List Int}{ps ss ow:List (List Int)}{y:Int}(hc:∀x∈c,0<=x)(hu:un ps ss=none)(h5:∀s∈ss,s.length=5)(okp:∀r∈ps,okP r)(hl:ps.length<=10)(ho:∀r∈ow,okO ps r):∀n,0<=(yTo c ps ss ow y n).d
 |0=>Int.le_refl _
 |n+1=>by
  have ih:=JF (y:=y) hc hu h5 okp hl ho n
  have hw:0<=c.getD n 0+(yTo c ps ss ow y n).d:=by
   have:=rT hc n;lia
  exact(Ey hw (qb hu h5 okp) (gr hl) fun r hr=>by have:=(mV ho r hr).2.2.2;lia).2
theorem xK(P:List (List Int×Int)):(dH P).length<=P.length:=by
 unfold dH;rw[zA1];exact List.length_filter_le _ _
theorem mW(P:List (List Int×Int)):(dq P).length<=P.length:=by
 unfold dq;rw[zA1];exact List.length_filter_le _ _
theorem BP{c:List Int}{ps ss ow:List (List Int)}{y:Int}(hl:ps.length<=10):∀n,(yTo c ps ss ow y n).g.length<=n*(80+ow.length)/\(yTo c ps ss ow y n).k.length<=n*(80+ow.length)/\(yTo c ps ss ow y n).l.length=n
 |0=>⟨zAp _,zAp _,rfl⟩
 |n+1=>by
  obtain⟨a,b,d⟩:=BP (c:=c) (ss:=ss) (ow:=ow) (y:=y) hl n;have h1:=gr (ss:=ss) (sort:=n) (year:=y) hl;have h2:=q9 ps ow n
  have hz:∀sh:List Int,((aH ps ss n y++aK ps ow n).zip sh).length<=80+ow.length:=fun sh=>by
   rw[zAs,zA2];lia
  rw[Nat.succ_mul];refine⟨?_,?_,?_⟩
  .show((yTo c ps ss ow y n).g++dH _).length<=_;rw[zA2];have:=xK ((aH ps ss n y++aK ps ow n).zip (shr (c.getD n 0+(yTo c ps ss ow y n).d) (aH ps ss n y) (aK ps ow n)));have:=hz (shr (c.getD n 0+(yTo c ps ss ow y n).d) (aH ps ss n y) (aK ps ow n));lia
  .show((yTo c ps ss ow y n).k++dq _).length<=_;rw[zA2];have:=mW ((aH ps ss n y++aK ps ow n).zip (shr (c.getD n 0+(yTo c ps ss ow y n).d) (aH ps ss n y) (aK ps ow n)));have:=hz (shr (c.getD n 0+(yTo c ps ss ow y n).d) (aH ps ss n y) (aK ps ow n));lia
  .show((yTo c ps ss ow y n).l++[_]).length=n+1;rw[zA2,d];rfl
theorem y_row{c:List Int}{ps ss ow:List (List Int)}{y:Int}:∀n,(∀r∈(yTo c ps ss ow y n).g,r.length=4)/\∀r∈(yTo c ps ss ow y n).k,r.length=4
 |0=>⟨fun r hr=>(by cases hr),fun r hr=>(by cases hr)⟩
 |n+1=>by
  obtain⟨a,b⟩:=y_row (c:=c) (ps:=ps) (ss:=ss) (ow:=ow) (y:=y) n;refine⟨fun r hr=>?_,fun r hr=>?_⟩
  .rcases zA6.mp (show r∈(yTo c ps ss ow y n).g++dH _ from hr)with z|z
   .exact a r z
   .obtain⟨p,_,rfl⟩:=zA5.mp z;rfl
  .rcases zA6.mp (show r∈(yTo c ps ss ow y n).k++dq _ from hr)with z|z
   .exact b r z
   .obtain⟨p,_,rfl⟩:=zA5.mp z;rfl
def vInt:V->Int
 |.int i=>i
 |_=>0
def jE(H:Hp)(a:Addr):List Int:=match H a with
 |some (.tup xs)=>xs.map vInt
 |_=>[]
theorem Ez{H:Hp}{a:Addr}{r:List Int}(e:H a=some (.tup (r.map V.int))):jE H a=r:=by
 unfold jE;rw[e];show(r.map V.int).map vInt=r;rw[zAr];exact List.map_id _
theorem rW{H:Hp}:∀{xs:List V} {rs:List (List Int)},Els H xs rs->∃ads:List Addr,xs=ads.map V.ref/\rs=ads.map (jE H)/\∀a∈ads,H a=some (.tup ((jE H a).map V.int))
 |[],[],_=>⟨[],rfl,rfl,fun a ha=>(by cases ha)⟩
 |[],_::_,h=>by have:=h.1;simp at this
 |_::_,[],h=>by have:=h.1;simp at this
 |x::xs,r::rs,h=>by
  obtain⟨t,e1,e2⟩:=h.2 0 r rfl;rw[List.getElem?_cons_zero]at e1;cases e1
  obtain⟨ads,f1,f2,f3⟩:=rW (xs:=xs) (rs:=rs) ⟨by have:=h.1;simpa using this,fun i q e=>by
   obtain⟨u,g1,g2⟩:=h.2 (i+1) q (by rw[List.getElem?_cons_succ];exact e);rw[List.getElem?_cons_succ]at g1
   exact⟨u,g1,g2⟩⟩
  have er:=Ez e2;refine⟨t::ads,by rw[f1];rfl,by rw[f2,zAk,er,<-f2],fun a ha=>?_⟩;rcases zAo.mp ha with z|z
  .rw[z,er];exact e2
  .exact f3 a z
theorem BR{H H':Hp}{l':List Addr}(h:∀a∈l',H' a=some (.tup ((jE H a).map V.int))):Els H' (l'.map V.ref) (l'.map (jE H)):=by
 refine⟨by rw[zA1,zA1],fun i r e=>?_⟩;rw[zAb]at e
 cases z:l'[i]? with
 |none=>rw[z]at e;cases e
 |some a=>
  rw[z]at e;cases e;exact⟨a,by rw[zAb,z];rfl,h a (zB4 z)⟩
inductive SpYearI(vs:List V)(H:Hp)(Q:VK):Prop
 |mk:∀bk y lo ac xc cs ap xp ps af xs ss xo ow,(vs=[.ref bk,.int y,.ref lo])->(H bk=some (.tup [.ref ac,.ref ap,.ref af]))->(RowsAt H ac xc cs)->((∀r∈cs,r.length=3/\∀x∈r,0<=x))->(0<=y)->(y<cs.length)->(RowsAt H ap xp ps)->(ps.length<=10)->((∀r∈ps,okP r))->(RowsAt H af xs ss)->(ss.length<=12)->((∀s∈ss,s.length=5))->(un ps ss=none)->(H lo=some (.lst xo))->(Els H xo ow)->((∀r∈ow,okO ps r))->(ow.length<=10000)->(∀t g k tl xg xk H',Same H H'->H' t=some (.tup [.ref g,.ref k,.ref tl])->H g=none->H k=none->(g≠sysModules/\k≠sysModules)->H' g=some (.lst xg)->Els H' xg (srt (yTo (cs.getD y.toNat []) ps ss ow y 3).g)->H' k=some (.lst xk)->Els H' xk (srt (yTo (cs.getD y.toNat []) ps ss ow y 3).k)->H' tl=some (.tup ((yTo (cs.getD y.toNat []) ps ss ow y 3).l.map V.int))->Q (.ref t) H')->SpYearI  vs H Q
def BV:Sp:=fun vs H Q _=>SpYearI  vs H Q
theorem EY{ps ss:List (List Int)}(h:un ps ss=none)(h5:∀s∈ss,s.length=5):∀s∈ss,okS s:=fun s hs=>by
 obtain⟨j,hj,e⟩:=List.getElem_of_mem hs;have:=vK h j hj;rw[getD_get hj,e]at this;exact mK (h5 s hs) this
theorem BW{D:Ends}{tb:TS}{σ:L2.St}{H:Hp}(R:Hp->Prop)(h:R H)(g:∀H,R H->tb D σ H):tb D σ H:=g H h
variable{P:Program}{w:World}{K:Frag}{mg:Str->Option Value}{base:Heap}{f:Addr}{fd:FuncData}
theorem boot_sorted:bootBuiltins "sorted"=some (.builtin "sorted"):=by decide +kernel
theorem ndZ:(["row","promises","sort"]:List Str).Nodup:=by decide +kernel
theorem scZ1:FnScope ["book","year","owed","clips","promises","sales","gifts","lacking","left","down","sort","wool","claims","ahead","given","lacked"] ["book","year","owed"] (aJ (top 51)):=fQS
theorem Fb(F:Fun K "year_given" "year_given" (top 51) f fd)(T:Mg mg)(N:Nums mg)(Tr:mg "range"=none)(Ts:mg "sorted"=none)(c1:Cal P w K mg base 2 "claims_in" ["promises","sales","sort","year"] uI)(c2:Cal P w K mg base 8 "sort_given" ["wool","claims","owed"] By)(c3:Cal P w K mg base 1 "sacks_of" ["rows"] xF):FnOk P w K mg base CX0 9 f fd ["book","year","owed"] BV:=by
 refine F.ok scZ1 (fun vs H Q E h=>?_) (fun ar A outer s H vs Q E hr h=>?_)
 .obtain⟨bk,y,lo,ac,xc,cs,ap,xp,ps,af,xs,ss,xo,ow,rfl,_⟩:=h;rfl
 .obtain⟨bk,y,lo,ac,xc,cs,ap,xp,ps,af,xs,ss,xo,ow,rfl,eb,rc,okc,y0,y1,rp,lp,okp,rs,ls,h5,hu,eo,mT,pE,Ob,q⟩:=h;obtain⟨t3,e3⟩:=N.sorts
  refine K91P.ok_b (aN ⟨cA (pv 0) (bL rfl (aq (pgn 3 scZ1.nd) (aq (bw (i:=4) scZ1.nd rfl (Or.inr rfl)) (aq (pgn 5 scZ1.nd) aV))))⟩
   (aN (iG 6 scZ1.nd (qP fH))
   (aN (iG 7 scZ1.nd (qP fH))
   (aN (iG 8 scZ1.nd (qP fH))
   (aN (iG 9 scZ1.nd Hm)
   (aN ⟨cH zBb rfl (cO rfl Tr (au (bR (v:=.int 3) rfl e3 ⟨_,rfl⟩) ao)) (bw (i:=10) scZ1.nd rfl (Or.inr rfl))
    (jJ (aN (iG 11 scZ1.nd (G7 cj (zJ bC (zJ bC ⟨pv 3⟩ ⟨pv 1⟩ (fun _ _=>rfl)) ⟨pv 10⟩ (fun _ _=>rfl)) ⟨pv 9⟩))
    (aN (iG 12 scZ1.nd ⟨aG c1 hr (au (pv 4) (au (pv 5) (au (pv 10) (au (pv 1) ao))))⟩)
    (aN ⟨iy (i:=13) ["row","promises","sort"] [none,some 4,some 10] rfl scZ1.nd rfl (Or.inl rfl) (cF (pv 2)) (fun C fp Zt s₂ H₂=>⟨pgn 0 ndZ,iw (aY kE (pX (K91P.ix_tupK (K:=K) rfl) (pX (K91P.ix_tupK (K:=K) rfl) (pv 1) (pX (K91P.ix_tupK (K:=K) rfl) (pv 0) az)) az) (pv 2) (bx _)),pv 0⟩) (fun C=>cI (cI trivial)) ⟨rfl,rfl,rfl,rfl⟩⟩
    (aN ⟨cA (aG c2 hr (au (pv 11) (au (pv 12) (au (pv 13) ao)))) (bL rfl (aq (pgn 14 scZ1.nd) (aq (pgn 15 scZ1.nd) aV)))⟩
    (aN (iG 9 scZ1.nd (G7 fG ⟨pv 11⟩ ⟨aG c3 hr (au (pv 14) ao)⟩))
    (aN ⟨jr (i:=6) scZ1.nd rfl (Or.inl rfl) (pv 14) lZ⟩
    (aN ⟨jr (i:=7) scZ1.nd rfl (Or.inl rfl) (pv 15) lZ⟩
    (cG ⟨cY (wB zBg zBf zBe iu (pv 8) (au (pv 9) ao))⟩)))))))))⟩
   (cG (qR (v8 (gj ⟨aO fJ rfl Ts boot_sorted (au (pv 6) ao)⟩ (gj ⟨aO fJ rfl Ts boot_sorted (au (pv 7) ao)⟩ (gj ⟨cu bV rfl T.tuple boot_tuple (au (pv 8) ao)⟩ fH)))))))))))) ?_
  refine aF ?_;refine⟨_,rfl,bk,_,rfl,SqT.of eb,rfl,_,_,rfl,_,_,rfl,_,_,rfl,rfl,?_⟩;dsimp only;refine aF (aR ?_);refine⟨zL,fun lg wm=>?_⟩;refine aM ?_;dsimp only;refine aF (aR ?_);refine⟨zL,fun lk vx=>?_⟩;refine aM ?_;dsimp only;refine aF (aR ?_);refine⟨zL,fun ll gu=>?_⟩;refine aM ?_;dsimp only;refine aF (aR ?_);refine aM ?_;dsimp only;have s1:=Same.upd (o:=.lst []) wm;have s2:=Same.upd (o:=.lst []) vx;have s3:=Same.upd (o:=.lst []) gu;have Oh:H lg=none:=wm;have Oi:H lk=none:=s1.free vx;have Oj:H ll=none:=(s1.trans s2).free gu
  have LK:lg≠lk:=fun z=>by rw[<-z,aj]at vx;cases vx
  have LM:lk≠ll:=fun z=>by rw[<-z,aj]at gu;cases gu
  have LN:lg≠ll:=fun z=>by rw[<-z,s2 _ _ aj]at gu;cases gu
  refine BW (fun H1=>Same H H1/\H1 lg=some (.lst [])/\H1 lk=some (.lst [])/\H1 ll=some (.lst [])) ⟨(s1.trans s2).trans s3,s3 _ _ (s2 _ _ aj),s3 _ _ aj,aj⟩ fun H1=>?_;rintro⟨k1,mP,Ol,el1⟩;clear s1 s2 s3 wm vx gu;have FH:y.toNat<cs.length:=Zz
  obtain⟨tc,A4,LO⟩:=rows_at rc y0 (show cs[y.toNat]?=some cs[y.toNat]from zA0 FH);have Om:cs.getD y.toNat []=cs[y.toNat]:=getD_get FH;have tI:=okc _ (zAh FH);rw[Om]at q;generalize cs[y.toNat]=c at q LO tI;have eJ:=EY hu h5;refine aF ?_;refine⟨3,rfl,by decide,by decide,?_⟩;refine dW (lo:=0) (fun i σ Hc=>Xe8 fun fw eR eW e8 fe ff xg xk=>Xa7 (σ=[some (.ref bk),some (.int y),some (.ref lo),some (.ref ac),some (.ref ap),some (.ref af),some (.ref lg),some (.ref lk),some (.ref ll),some (.int (yTo c ps ss ow y i).d),fw,eR,eW,e8,fe,ff]) (Same H Hc) (Hc lg=some (.lst xg)) (Els Hc xg (yTo c ps ss ow y i).g) (Hc lk=some (.lst xk)) (Els Hc xk (yTo c ps ss ow y i).k) (Hc ll=some (.lst ((yTo c ps ss ow y i).l.map V.int)))) ?_ ?_ ?_
  .exact⟨none,none,none,none,none,none,[],[],rfl,k1,mP,Els.nil,Ol,Els.nil,el1⟩
  .rintro i σ Hc hi ⟨fw,eR,eW,e8,fe,ff,xg,xk,rfl,k,eg,fg,ek,ij,el⟩;have hi:i<3:=hi;obtain⟨TJ,TK,Oo⟩:=BP (c:=c) (ss:=ss) (ow:=ow) (y:=y) lp i;refine aM ?_;have z0:(0:Int)+(i:Int)=i:=Zz
   rw[z0];refine yL fun De CU=>?_
   have Oq:(c.map V.int)[i]?=some (.int (c.getD i 0)):=by
    have cc:i<c.length:=Zz
    rw[zAb,zA7,zA0 cc];rfl
   refine aF (aR ?_);refine⟨_,rfl,_,rfl,ac,xc,y,.ref tc,rfl,rfl,SqT.of (k _ _ rc.e),A4,_,rfl,tc,_,i,.int (c.getD i 0),rfl,rfl,SqT.of (k _ _ LO),dI Oq,_,rfl,_,_,rfl,rfl,?_⟩;refine aM ?_;dsimp only;have dn:=JF (c:=c) (y:=y) tI.2 hu h5 okp lp pE i;have cn:=rT tI.2 i;refine aF (aR ?_);refine⟨_,rfl,_,rfl,_,rfl,_,rfl,ap,xp,ps,af,xs,ss,i,y,rfl,rp.same k,lp,okp,rs.same k,ls,eJ,fun lc Ot H2 s2 TL AZ FI=>?_⟩;refine aM ?_;dsimp only;have k2:=k.trans s2;refine aF ?_;refine⟨_,rfl,lo,rfl,⟨_,SqL.of (k2 _ _ eo)⟩,fY ow.length (fun j ys σ Hj=>Same H2 Hj/\(∃o1,σ=[o1,some (.ref ap),some (.int i)])/\Els Hj ys (aK ps (ow.take j) i)) ⟨Same.refl _,⟨_,rfl⟩,Els.nil⟩ Zu ?_ ?_⟩
   .rintro j ys σ Hj hj hy ⟨sc,⟨o1,rfl⟩,tF⟩;have kj:=k2.trans sc;have pb:SqL K Hj lo xo:=SqL.of (kj _ _ eo);obtain⟨tr,ex,fq⟩:=mT.2 j ow[j] (zA0 hj);obtain⟨o4,o5,o6,o7⟩:=pE _ (zAh hj);have FK:=fq;rw[dB o4]at fq;obtain⟨p,hp,ep,op⟩:=prom_ok okp o5 o6;obtain⟨tp,eM,fR⟩:=rows_at rp o5 hp;rw[six_row op.1]at fR
    have df:aK ps (ow.take (j+1)) i=aK ps (ow.take j) i++(if fl p 1=i then[ow[j]]else[]):=by
     rw[zAj,zA0 hj];unfold aK;rw[show(some ow[j]).toList=[ow[j]]from rfl,List.filter_append];congr 1;by_cases h:fl p 1=i
     .rw[zAz h,zBd (by rw[ep];exact zAu h)];rfl
     .rw[zAx h,zBc (by rw[ep,Zp];exact h)];rfl
    refine⟨⟨_,_,pb,ex⟩,fun x H' yv R hR=>?_⟩;obtain⟨rfl,yv⟩:=yv;have yv:=yv _ pb;rw[ex]at yv;cases yv;refine aM ?_;refine⟨_,rfl,_,rfl,tr,_,1,.int (fl ow[j] 1),rfl,rfl,SqT.of (kj _ _ fq),rfl,ap,xp,_,.ref tp,rfl,rfl,SqT.of (kj _ _ rp.e),eM,tp,_,1,.int (fl p 1),rfl,rfl,SqT.of (kj _ _ fR),rfl,_,rfl,rfl,_,rfl,?_⟩;by_cases h:fl p 1=i
    .rw[zAu (by rw[h])];refine bQ ⟨_,rfl,hR _ _ _ (by rw[zA2];show ys.length+1<=j+1;lia) ⟨sc,⟨_,rfl⟩,?_⟩⟩;rw[df,zAz h];exact tF.app (Els.one (kj _ _ FK))
    .rw[zB5 (fun z=>h (by injection z))];refine bD (hR _ _ _ Zz ⟨sc,⟨_,rfl⟩,?_⟩);rw[df,zAx h,zAn];exact tF
   rintro ya σ Hj hy ⟨sc,_,pe⟩;rw[zAm]at pe;refine⟨⟨_,SqL.of (sc _ _ (k2 _ _ eo)),by rw[mT.1];exact zA3 _⟩,fun la CO=>?_⟩;have sa:=sc.updR (o:=.lst ya) CO;have CY:=aj (H:=Hj) (a:=la) (o:=.lst ya);have pe:=pe.same (Same.upd (o:=.lst ya) CO);generalize upd Hj la (.lst ya)=H3 at sa CY pe⊢;have k3:=k2.trans sa;have sH:=s2.trans sa;dsimp only;have ET:=qb (sort:=i) (year:=y) hu h5 okp;have AX:=gr (ss:=ss) (sort:=i) (year:=y) lp;have Ou:=mV (sort:=i) pE;have TQ:=q9 ps ow i;refine aF ?_;refine⟨_,rfl,_,rfl,_,rfl,c.getD i 0+(yTo c ps ss ow y i).d,lc,Ot,aH ps ss i y,la,ya,aK ps ow i,rfl,sa _ _ AZ,FI.same sa,ET,AX,Zz,CY,pe,fun r hr=>(Ou r hr).1,Zz,fun t g kk iX nE H4 s4 et ng nk tJ fh Ov tN=>⟨t,_,rfl,SqT.of et,rfl,_,_,rfl,_,_,rfl,rfl,?_⟩⟩;have k4:=k3.trans s4;have Ox:=sH.trans s4;have gl:=xK ((aH ps ss i y++aK ps ow i).zip (shr (c.getD i 0+(yTo c ps ss ow y i).d) (aH ps ss i y) (aK ps ow i)));have kl:=mW ((aH ps ss i y++aK ps ow i).zip (shr (c.getD i 0+(yTo c ps ss ow y i).d) (aH ps ss i y) (aK ps ow i)))
   have zl:((aH ps ss i y++aK ps ow i).zip (shr (c.getD i 0+(yTo c ps ss ow y i).d) (aH ps ss i y) (aK ps ow i))).length<=80+ow.length:=by
    rw[zAs,zA2];lia
   have e1:(yTo c ps ss ow y (i+1)).g=(yTo c ps ss ow y i).g++dH ((aH ps ss i y++aK ps ow i).zip (shr (c.getD i 0+(yTo c ps ss ow y i).d) (aH ps ss i y) (aK ps ow i))):=rfl;have e2:(yTo c ps ss ow y (i+1)).k=(yTo c ps ss ow y i).k++dq ((aH ps ss i y++aK ps ow i).zip (shr (c.getD i 0+(yTo c ps ss ow y i).d) (aH ps ss i y) (aK ps ow i))):=rfl;have e3:(yTo c ps ss ow y (i+1)).l=(yTo c ps ss ow y i).l++[c.getD i 0+(yTo c ps ss ow y i).d-dR (dH ((aH ps ss i y++aK ps ow i).zip (shr (c.getD i 0+(yTo c ps ss ow y i).d) (aH ps ss i y) (aK ps ow i))))]:=rfl;have e4:(yTo c ps ss ow y (i+1)).d=c.getD i 0+(yTo c ps ss ow y i).d-dR (dH ((aH ps ss i y++aK ps ow i).zip (shr (c.getD i 0+(yTo c ps ss ow y i).d) (aH ps ss i y) (aK ps ow i)))):=rfl
   have g4:∀r∈dH ((aH ps ss i y++aK ps ow i).zip (shr (c.getD i 0+(yTo c ps ss ow y i).d) (aH ps ss i y) (aK ps ow i))),r.length=4:=fun r hr=>by
    obtain⟨p,_,rfl⟩:=zA5.mp hr;rfl
   rw[e1,e2,e3,e4]at CU;generalize dH ((aH ps ss i y++aK ps ow i).zip (shr (c.getD i 0+(yTo c ps ss ow y i).d) (aH ps ss i y) (aK ps ow i)))=GG at fh g4 gl CU⊢;generalize dq ((aH ps ss i y++aK ps ow i).zip (shr (c.getD i 0+(yTo c ps ss ow y i).d) (aH ps ss i y) (aK ps ow i)))=KK at tN kl CU⊢;dsimp only;refine aF (aR ?_);refine⟨_,rfl,_,rfl,g,iX,GG,rfl,tJ,fh,g4,Zz,fun H5 s5=>⟨_,_,rfl,rfl,?_⟩⟩;refine aM ?_;dsimp only;have k5:=k4.trans s5;have A5:=Ox.trans s5;have TR:g≠lg:=(aC (sH _ _ eg) ng).symm;have Oy:kk≠lg:=(aC (sH _ _ eg) nk).symm;have LP:=A5 _ _ eg;have Oz:=A5 _ _ ek;have el5:=A5 _ _ el;refine aF ?_;refine⟨_,rfl,_,rfl,lg,g,xg,iX,rfl,rfl,LP,s5 _ _ tJ,by rw[fg.1,fh.1,sizeLine_eq];have:i*(80+ow.length)<=3*(80+ow.length):=Nat.mul_le_mul_right _ Zz;lia,?_⟩;dsimp only
   have FO:∀b z,H5 b=some (.tup z)->upd H5 lg (.lst (xg++iX)) b=some (.tup z):=fun b z e=>by
    rw[aA fun w=>by rw[w,LP]at e;cases e];exact e
   have k6:Same H (upd H5 lg (.lst (xg++iX))):=fun b o e=>by
    rw[aA (aC e Oh)];exact k5 _ _ e
   have LQ:=aj (H:=H5) (a:=lg) (o:=.lst (xg++iX));have A6:=((fg.same A5).app (fh.same s5)).keep FO;have FR:upd H5 lg (.lst (xg++iX)) lk=some (.lst xk):=by rw[aA LK.symm];exact Oz
   have A7:upd H5 lg (.lst (xg++iX)) kk=some (.lst nE):=by rw[aA Oy];exact s5 _ _ Ov
   have LR:upd H5 lg (.lst (xg++iX)) ll=some (.lst ((yTo c ps ss ow y i).l.map V.int)):=by rw[aA LN.symm];exact el5
   have A8:=(ij.same A5).keep FO;have pS:=(tN.same s5).keep FO;generalize upd H5 lg (.lst (xg++iX))=H6 at k6 LQ A6 FR A7 LR A8 pS⊢;refine aF ?_;refine⟨_,rfl,_,rfl,lk,kk,xk,nE,rfl,rfl,FR,A7,by rw[ij.1,tN.1,sizeLine_eq];have:i*(80+ow.length)<=3*(80+ow.length):=Nat.mul_le_mul_right _ Zz;lia,?_⟩;dsimp only
   have LS:∀b z,H6 b=some (.tup z)->upd H6 lk (.lst (xk++nE)) b=some (.tup z):=fun b z e=>by
    rw[aA fun w=>by rw[w,FR]at e;cases e];exact e
   have k7:Same H (upd H6 lk (.lst (xk++nE))):=fun b o e=>by
    rw[aA (aC e Oi)];exact k6 _ _ e
   have LU:upd H6 lk (.lst (xk++nE)) lg=some (.lst (xg++iX)):=by rw[aA LK];exact LQ
   have A9:=A6.keep LS;have LV:=aj (H:=H6) (a:=lk) (o:=.lst (xk++nE));have Bi:=(A8.app pS).keep LS;have pT:upd H6 lk (.lst (xk++nE)) ll=some (.lst ((yTo c ps ss ow y i).l.map V.int)):=by rw[aA LM.symm];exact LR
   generalize upd H6 lk (.lst (xk++nE))=H7 at k7 LU A9 LV Bi pT⊢;refine⟨_,rfl,.inl ⟨rfl,_,SqL.of pT⟩,_,rfl,ll,_,_,rfl,rfl,pT,by rw[zA1,Oo,sizeLine_eq];lia,?_⟩
   have LW:∀{o:HO} b z,H7 b=some (.tup z)->upd H7 ll o b=some (.tup z):=fun b z e=>by
    rw[aA fun w=>by rw[w,pT]at e;cases e];exact e
   refine CU _ _ ⟨_,_,_,_,_,_,xg++iX,xk++nE,rfl,fun b o e=>?_,?_,A9.keep LW,?_,Bi.keep LW,?_⟩
   .rw[aA (aC e Oj)];exact k7 _ _ e
   .rw[aA LN];exact LU
   .rw[aA LM];exact LV
   .rw[aj,zA4];rfl
  .rintro σ Hc ⟨fw,eR,eW,e8,fe,ff,xg,xk,rfl,k,eg,fg,ek,ij,el⟩;obtain⟨OA,OB⟩:=y_row (c:=c) (ps:=ps) (ss:=ss) (ow:=ow) (y:=y) 3;have q:∀t g k tl xg xk H',Same H H'->H' t=some (.tup [.ref g,.ref k,.ref tl])->H g=none->H k=none->(g≠sysModules/\k≠sysModules)->H' g=some (.lst xg)->Els H' xg (srt (yTo c ps ss ow y 3).g)->H' k=some (.lst xk)->Els H' xk (srt (yTo c ps ss ow y 3).k)->H' tl=some (.tup ((yTo c ps ss ow y 3).l.map V.int))->Q (.ref t) H':=q;have fg:Els Hc xg (yTo c ps ss ow y 3).g:=fg;have ij:Els Hc xk (yTo c ps ss ow y 3).k:=ij;have el:Hc ll=some (.lst ((yTo c ps ss ow y 3).l.map V.int)):=el;obtain⟨ag,OC,LX,LY⟩:=rW fg;obtain⟨ak,OD,vw,LZ⟩:=rW ij;subst OC OD;dsimp only
   have nn:∀{rs:List (List Int)} {ads:List Addr},rs=ads.map (jE Hc)->(∀r∈rs,r.length=4)->∀a∈ads,jE Hc a≠[]:=fun{rs ads} h h4 a ha z=>by
    have:=h4 (jE Hc a) (by rw[h];exact List.mem_map_of_mem ha);rw[z]at this;cases this
   refine⟨_,rfl,lg,ag,jE Hc,rfl,SqL.of eg,fun a ha=>⟨SqT.of (LY a ha),nn LX OA a ha⟩,fun g l1 hg wo eC OE=>?_⟩;have sg:=Same.upd (o:=.lst (l1.map V.ref)) hg;refine⟨_,rfl,lk,ak,jE Hc,rfl,SqL.of (sg _ _ ek),fun a ha=>⟨SqT.of (sg _ _ (LZ a ha)),nn vw OB a ha⟩,fun kk l2 hk OF hZ OG=>?_⟩;have sk:=sg.updR (o:=.lst (l2.map V.ref)) hk;refine⟨_,rfl,ll,_,rfl,.inl ⟨SqL.of (sk _ _ el),fun tl L0=>?_⟩⟩;have sl:=sk.updR (o:=.tup ((yTo c ps ss ow y 3).l.map V.int)) L0;refine⟨zL,fun t ht=>?_⟩;have st:=sl.updR (o:=.tup [.ref g,.ref kk,.ref tl]) ht;have u1:=Same.upd (o:=.lst (l2.map V.ref)) hk;have u2:=Same.upd (o:=.tup ((yTo c ps ss ow y 3).l.map V.int)) L0;have u3:=Same.upd (o:=.tup [.ref g,.ref kk,.ref tl]) ht;have OH:l1.map (jE Hc)=srt (yTo c ps ss ow y 3).g:=vL (by rw[LX];exact eC.map _) (List.pairwise_map.mpr OE);have OI:l2.map (jE Hc)=srt (yTo c ps ss ow y 3).k:=vL (by rw[vw];exact hZ.map _) (List.pairwise_map.mpr OG);refine q t g kk tl _ _ _ (k.trans st) aj (k.free hg) (k.free (sg.free hk)) ⟨wo,OF⟩ (u3 _ _ (u2 _ _ (u1 _ _ aj))) ?_ (u3 _ _ (u2 _ _ aj)) ?_ (u3 _ _ aj)
   .rw[<-OH];exact BR fun a ha=>st _ _ (LY a (eC.mem_iff.mp ha))
   .rw[<-OI];exact BR fun a ha=>st _ _ (LZ a (hZ.mem_iff.mp ha))
def cnt(ps ow:List (List Int)):Nat->Nat
 |0=>0
 |n+1=>cnt ps ow n+(aK ps ow n).length
theorem cnt_nil(ps:List (List Int)):∀n,cnt ps [] n=0
 |0=>rfl
 |n+1=>by
  unfold cnt;rw[cnt_nil ps n];rfl
theorem cnt_cons(ps ow:List (List Int))(r:List Int):∀n,cnt ps (r::ow) n=cnt ps ow n+(if 0<=fl (ps.getD (fl r 1).toNat []) 1/\fl (ps.getD (fl r 1).toNat []) 1<n then 1 else 0)
 |0=>by
  rw[zAx Zz];rfl
 |n+1=>by
  show cnt ps (r::ow) n+(aK ps (r::ow) n).length=cnt ps ow n+(aK ps ow n).length+_;rw[cnt_cons ps ow r n];unfold aK;by_cases h:fl (ps.getD (fl r 1).toNat []) 1=n
  .rw[zBd (p:=fun(r:List Int)=>decide (fl (ps.getD (fl r 1).toNat []) 1=(n:Int))) (zAu h),zAe,zAx Zz,zAz Zz];lia
  .rw[zBc (p:=fun(r:List Int)=>decide (fl (ps.getD (fl r 1).toNat []) 1=(n:Int))) (by rw[Zp];exact h)];by_cases h2:0<=fl (ps.getD (fl r 1).toNat []) 1/\fl (ps.getD (fl r 1).toNat []) 1<n
   .rw[zAz h2,zAz Zz];lia
   .rw[zAx h2,zAx Zz];lia
theorem BX(ps:List (List Int))(n:Nat):∀ow:List (List Int),cnt ps ow n<=ow.length
 |[]=>by rw[cnt_nil];exact zA3 _
 |r::ow=>by
  rw[cnt_cons,zAe];have:=BX ps n ow;split<;>lia
theorem Gb{c:List Int}{ps ss ow:List (List Int)}{y:Int}(hl:ps.length<=10):∀n,(yTo c ps ss ow y n).k.length<=80*n+cnt ps ow n
 |0=>zAp _
 |n+1=>by
  have a:=Gb (c:=c) (ss:=ss) (ow:=ow) (y:=y) hl n;have h1:=gr (ss:=ss) (sort:=n) (year:=y) hl;have h3:=mW ((aH ps ss n y++aK ps ow n).zip (shr (c.getD n 0+(yTo c ps ss ow y n).d) (aH ps ss n y) (aK ps ow n)));show((yTo c ps ss ow y n).k++dq _).length<=80*(n+1)+(cnt ps ow n+(aK ps ow n).length);rw[zA2];rw[zAs,zA2]at h3;lia
theorem JG{c:List Int}{ps ss ow:List (List Int)}{y:Int}(hu:un ps ss=none)(h5:∀s∈ss,s.length=5)(okp:∀r∈ps,okP r)(ho:∀r∈ow,okO ps r):∀n,∀r∈(yTo c ps ss ow y n).k,okO ps r
 |0,r,hr=>by cases hr
 |n+1,r,hr=>by
  rcases zA6.mp (show r∈(yTo c ps ss ow y n).k++dq _ from hr)with z|z
  .exact JG (c:=c) (y:=y) hu h5 okp ho n r z
  .obtain⟨p,hp,rfl⟩:=zA5.mp z;obtain⟨h1,h2⟩:=zAq.mp hp;have h2:=zBa h2;have hm:p.1∈aH ps ss n y++aK ps ow n:=(List.of_mem_zip (show(p.1,p.2)∈_ from h1)).1
   have hn:0<=fl p.1 1/\fl p.1 1<ps.length:=by
    rcases zA6.mp hm with w|w
    .obtain⟨_,_,_,_,a,b⟩:=Ga (sort:=n) (year:=y) hu h5 okp ps.length (zA3 _) p.1 w;exact⟨a,b⟩
    .have:=mV ho p.1 w;exact⟨this.2.1,this.2.2.1⟩
   refine⟨rfl,hn.1,hn.2,?_⟩;show 1<=fl p.1 3-p.2;lia
def dh(cs ps ss:List (List Int)):Nat->List (List Int)
 |0=>[]
 |n+1=>srt (yTo (cs.getD n []) ps ss (dh cs ps ss n) n 3).k
theorem qd{cs ps ss:List (List Int)}(hl:ps.length<=10)(hu:un ps ss=none)(h5:∀s∈ss,s.length=5)(okp:∀r∈ps,okP r):∀n,(∀r∈dh cs ps ss n,okO ps r)/\(dh cs ps ss n).length<=240*n
 |0=>⟨fun r hr=>(by cases hr),zA3 _⟩
 |n+1=>by
  obtain⟨a,b⟩:=qd (cs:=cs) hl hu h5 okp n;have pm:=List.mergeSort_perm (yTo (cs.getD n []) ps ss (dh cs ps ss n) n 3).k rle;refine⟨fun r hr=>JG (c:=cs.getD n []) (y:=n) hu h5 okp a 3 r (pm.mem_iff.mp hr),?_⟩;show(srt (yTo (cs.getD n []) ps ss (dh cs ps ss n) n 3).k).length<=_;unfold srt;rw[pm.length_eq];have:=Gb (c:=cs.getD n []) (ss:=ss) (ow:=dh cs ps ss n) (y:=n) hl 3;have:=BX ps 3 (dh cs ps ss n);lia
def fK(cs ps ss:List (List Int))(j:Nat):Yr:=yTo (cs.getD j []) ps ss (dh cs ps ss j) j 3
def YAt(H0:Hp)(l:Addr)(cs ps ss:List (List Int))(H:Hp)(a:Addr)(j:Nat):Prop:=∃g k tl xg xk,H a=some (.tup [.ref g,.ref k,.ref tl])/\H0 g=none/\H0 k=none/\g≠l/\k≠l/\H g=some (.lst xg)/\Els H xg (srt (fK cs ps ss j).g)/\H k=some (.lst xk)/\Els H xk (dh cs ps ss (j+1))/\H tl=some (.tup ((fK cs ps ss j).l.map V.int))/\(g≠sysModules/\k≠sysModules)
theorem YAt.keep{H0 H H':Hp}{l a:Addr}{cs ps ss:List (List Int)}{j:Nat}(h:YAt H0 l cs ps ss H a j)(k:∀b o,b≠l->H b=some o->H' b=some o)(hl:∃xs,H l=some (.lst xs)):YAt H0 l cs ps ss H' a j:=by
 obtain⟨xs,hl⟩:=hl;obtain⟨g,kk,tl,xg,xk,e1,n1,n2,d1,d2,e2,e3,e4,e5,e6,e7⟩:=h
 have nt:∀b z,H b=some (.tup z)->b≠l:=fun b z e w=>by rw[w,hl]at e;cases e
 exact⟨g,kk,tl,xg,xk,k _ _ (nt _ _ e1) e1,n1,n2,d1,d2,k _ _ d1 e2,e3.keep fun b z e=>k _ _ (nt _ _ e) e,k _ _ d2 e4,e5.keep fun b z e=>k _ _ (nt _ _ e) e,k _ _ (nt _ _ e6) e6,e7⟩
inductive SpYearsI(vs:List V)(H:Hp)(Q:VK):Prop
 |mk:∀bk y ac xc cs ap xp ps af xs ss,(vs=[.ref bk,.int y])->(H bk=some (.tup [.ref ac,.ref ap,.ref af]))->(RowsAt H ac xc cs)->((∀r∈cs,r.length=3/\∀x∈r,0<=x))->(cs.length<=20)->(0<=y)->(y<cs.length)->(RowsAt H ap xp ps)->(ps.length<=10)->((∀r∈ps,okP r))->(RowsAt H af xs ss)->(ss.length<=12)->((∀s∈ss,s.length=5))->(un ps ss=none)->(∀l (ts:List Addr) H',Same H H'->H l=none->H' l=some (.lst (ts.map V.ref))->(ts.length:Int)=y+1->(∀j a,ts[j]?=some a->YAt H l cs ps ss H' a j)->Q (.ref l) H')->SpYearsI  vs H Q
def jY:Sp:=fun vs H Q _=>SpYearsI  vs H Q
theorem scYB:FnScope ["book","year","years","owed","at","gifts","left"] ["book","year"] (aJ (top 52)):=fQS
theorem BZ(F:Fun K "years_given" "years_given" (top 52) f fd)(Tr:mg "range"=none)(c1:Cal P w K mg base 9 "year_given" ["book","year","owed"] BV):FnOk P w K mg base CX0 10 f fd ["book","year"] jY:=by
 refine F.ok scYB (fun vs H Q E h=>?_) (fun ar A outer s H vs Q E hr h=>?_)
 .obtain⟨bk,y,ac,xc,cs,ap,xp,ps,af,xs,ss,rfl,_⟩:=h;rfl
 .obtain⟨bk,y,ac,xc,cs,ap,xp,ps,af,xs,ss,rfl,eb,rc,okc,lc,y0,y1,rp,lp,okp,rs,ls,h5,hu,q⟩:=h
  refine⟨_,aB (pss 2 scYB.nd (dw ao))
   (aB (pss 3 scYB.nd (dw ao))
   (aB (cH zBb rfl (cO rfl Tr (au (aW cj (pv 1) az) ao)) (pgn 4 scYB.nd)
    (aB (cA (aG c1 hr (au (pv 0) (au (pv 4) (au (pv 3) ao)))) (bL rfl (aq (pgn 5 scYB.nd) (aq (pgn 3 scYB.nd) (aq (pgn 6 scYB.nd) aV)))))
    (aD (cY (wB zBg zBf zBe iu (pv 2) (au (bB (au (pv 5) (au (pv 3) (au (pv 6) ao)))) ao))))))
   (aD (aQ (pv 2))))),?_⟩
  refine aF (aR ?_);refine⟨zL,fun l hl=>?_⟩;refine aM ?_;dsimp only;refine aF (aR ?_);refine⟨zL,fun FU dS=>?_⟩;refine aM ?_;dsimp only;have s1:=Same.upd (o:=.lst []) hl;have s2:=Same.upd (o:=.lst []) dS
  have OJ:FU≠l:=fun z=>by rw[z,aj]at dS;cases dS
  refine BW (fun H1=>Same H H1/\H1 l=some (.lst [])/\H1 FU=some (.lst [])) ⟨s1.trans s2,s2 _ _ aj,aj⟩ fun H1=>?_;rintro⟨k1,el1,OL⟩;refine aF ?_;refine⟨_,rfl,_,_,rfl,rfl,y+1,rfl,Zz,Zz,?_⟩;refine dW (lo:=0) (fun i σ Hc=>Xe6 fun x4 x5 x6 lo xo (ts:List Addr)=>Xa8 (σ=[some (.ref bk),some (.int y),some (.ref l),some (.ref lo),x4,x5,x6]) (Same H Hc) (Hc l=some (.lst (ts.map V.ref))) (ts.length=i) ((∀j a,ts[j]?=some a->YAt H l cs ps ss Hc a j)) (lo≠l) (Hc lo=some (.lst xo)) (Els Hc xo (dh cs ps ss i))) ?_ ?_ ?_
  .exact⟨none,none,none,FU,[],[],rfl,k1,el1,rfl,fun j a e=>(by simp at e),OJ,OL,Els.nil⟩
  .rintro i σ Hc hi ⟨x4,x5,x6,lo,xo,ts,rfl,k,el,lt,hy,dl,eo,mT⟩;obtain⟨pE,L4⟩:=qd (cs:=cs) lp hu h5 okp i;refine aM ?_;have z0:(0:Int)+(i:Int)=i:=Zz
   rw[z0];refine aF ?_;refine⟨_,rfl,_,rfl,_,rfl,bk,i,lo,ac,xc,cs,ap,xp,ps,af,xs,ss,xo,dh cs ps ss i,rfl,k _ _ eb,rc.same k,okc,Zz,Zz,rp.same k,lp,okp,rs.same k,ls,h5,hu,eo,mT,pE,Zz,fun t g kk tl xg xk H2 s2 et ng nk wo eg fg ek ij L5=>?_⟩;rw[zAi]at fg ij L5;refine⟨t,_,rfl,SqT.of et,rfl,_,_,rfl,_,_,rfl,_,_,rfl,rfl,?_⟩;dsimp only;have k2:=k.trans s2;have el2:=s2 _ _ el;have dg:g≠l:=(aC el ng).symm;have dk:kk≠l:=(aC el nk).symm;refine⟨_,rfl,.inl ⟨rfl,_,SqL.of el2⟩,_,rfl,_,rfl,_,rfl,zL,fun tt C3=>⟨l,_,_,rfl,rfl,Same.upd C3 _ _ el2,by rw[zA1,lt,sizeLine_eq];lia,?_⟩⟩;have s3:=Same.upd (o:=.tup [.ref g,.ref kk,.ref tl]) C3
   have nt:tt≠l:=fun z=>by rw[z,el2]at C3;cases C3
   have kp:∀{o:HO} b u,b≠l->H2 b=some u->upd (upd H2 tt (.tup [.ref g,.ref kk,.ref tl])) l o b=some u:=fun b u n e=>by
    rw[aA n];exact s3 _ _ e
   have ke:∀{o:HO} b z,H2 b=some (.tup z)->upd (upd H2 tt (.tup [.ref g,.ref kk,.ref tl])) l o b=some (.tup z):=fun b z e=>kp b _ (fun w=>by rw[w,el2]at e;cases e) e;refine⟨_,_,_,kk,xk,ts++[tt],rfl,fun b o e=>?_,?_,by rw[zA2,lt];rfl,fun j a e=>?_,dk,kp _ _ dk ek,ij.keep ke⟩
   .exact kp _ _ (aC e hl) (k2 _ _ e)
   .rw[aj,zA4];rfl
   .by_cases hj:j<ts.length
    .rw[zB7 hj]at e;exact(hy j a e).keep (fun b o n z=>kp _ _ n (s2 _ _ z)) ⟨_,el⟩
    .have me:j=i:=by
      have:=(zAa.mp e).1;rw[zA2]at this;simp at this;lia
     subst me;rw[zB3 Zz,lt,Nat.sub_self]at e;cases e;exact⟨g,kk,tl,xg,xk,by rw[aA nt];exact aj,k.free ng,k.free nk,dg,dk,kp _ _ dg eg,fg.keep ke,kp _ _ dk ek,ij.keep ke,ke _ _ L5,wo⟩
  .rintro σ Hc ⟨x4,x5,x6,lo,xo,ts,rfl,k,el,lt,hy,dl,eo,mT⟩;exact⟨_,rfl,q l ts Hc k hl el (by rw[lt];lia) hy⟩
theorem yO{p:List Int}{n y Y:Int}{lt:List (List Int)}(hy:y<Y)(hl:∀s∈lt,Y<=fl s 4):∀L,lt.foldl (hstep n y) L=L:=by
 induction lt with
 |nil=>exact fun _=>rfl
 |cons s lt ih=>
  intro L;have h:=hl s (.head _);show lt.foldl (hstep n y) (hstep n y L s)=L;rw[show hstep n y L s=L by unfold hstep;rw[zAx Zz]];exact ih (fun q hq=>hl q (.tail _ hq)) L
theorem vM{p:List Int}{n y Y:Int}{ss lt:List (List Int)}(hy:y<Y)(hl:∀s∈lt,Y<=fl s 4):bI p (ss++lt) n y=bI p ss n y:=by
 unfold bI;rw[List.foldl_append,yO (p:=p) hy hl]
theorem fZ{ps fr:List (List Int)}{n:Nat}(h:n<ps.length):(ps++fr).getD n []=ps.getD n []:=by
 rw[zA7,zA7,zB7 h]
theorem Fd{ps ss:List (List Int)}{sort y:Int}{n:Nat}(h:y<fl (ps.getD n []) 2):gF ps ss sort y n=[]:=by
 unfold gF;split
 .rw[show bI (ps.getD n []) ss n y=List.replicate 8 0 by unfold bI;rw[zAx Zz]];rfl
 .rfl
theorem mX{ps fr ss lt:List (List Int)}{sort y Y:Int}(hy:y<Y)(hl:∀s∈lt,Y<=fl s 4):∀k,k<=ps.length->gq (ps++fr) (ss++lt) sort y k=gq ps ss sort y k
 |0,_=>rfl
 |k+1,h=>by
  unfold gq;rw[mX hy hl k Zz];congr 1;unfold gF;rw[fZ Zz,vM hy hl]
theorem qe{ps fr ss lt:List (List Int)}{sort y Y:Int}(hy:y<Y)(hf:∀r∈fr,Y<=fl r 2):∀k,k<=fr.length->gq (ps++fr) (ss++lt) sort y (ps.length+k)=gq (ps++fr) (ss++lt) sort y ps.length
 |0,_=>rfl
 |k+1,h=>by
  have hk:k<fr.length:=Zz
  have e:(ps++fr).getD (ps.length+k) []=fr[k]:=by
   rw[zA7,zB3 Zz,show ps.length+k-ps.length=k by lia,zA0 hk];rfl
  show gq _ _ sort y (ps.length+k)++gF _ _ sort y (ps.length+k)=_;rw[qe hy hf k Zz,Fd (by rw[e];have:=hf _ (zAh hk);lia),zAn]
theorem vN{ps fr ss lt:List (List Int)}{sort y Y:Int}(hy:y<Y)(hf:∀r∈fr,Y<=fl r 2)(hl:∀s∈lt,Y<=fl s 4):aH (ps++fr) (ss++lt) sort y=aH ps ss sort y:=by
 unfold aH;rw[zA2,qe hy hf _ (zA3 _),mX hy hl _ (zA3 _)]
theorem yP{ps fr ow:List (List Int)}{sort:Int}(ho:∀r∈ow,okO ps r):aK (ps++fr) ow sort=aK ps ow sort:=by
 unfold aK;refine List.filter_congr fun r hr=>?_;obtain⟨_,h0,h1,_⟩:=ho r hr;rw[fZ Zz]
theorem rY{c:List Int}{ps fr ss lt ow:List (List Int)}{y Y:Int}(hy:y<Y)(hf:∀r∈fr,Y<=fl r 2)(hl:∀s∈lt,Y<=fl s 4)(ho:∀r∈ow,okO ps r):∀n,yTo c (ps++fr) (ss++lt) ow y n=yTo c ps ss ow y n
 |0=>rfl
 |n+1=>by
  show mU c (ps++fr) (ss++lt) ow y (yTo c (ps++fr) (ss++lt) ow y n) n=mU c ps ss ow y (yTo c ps ss ow y n) n;rw[rY hy hf hl ho n];unfold mU;rw[vN hy hf hl,yP ho]
theorem vO{cs cs2 ps fr ss lt:List (List Int)}{Y:Nat}(hc:∀j,j<Y->cs2.getD j []=cs.getD j [])(hf:∀r∈fr,(Y:Int)<=fl r 2)(hl:∀s∈lt,(Y:Int)<=fl s 4)(lp:ps.length<=10)(hu:un ps ss=none)(h5:∀s∈ss,s.length=5)(okp:∀r∈ps,okP r):∀n,n<=Y->dh cs2 (ps++fr) (ss++lt) n=dh cs ps ss n
 |0,_=>rfl
 |n+1,h=>by
  show srt (yTo (cs2.getD n []) (ps++fr) (ss++lt) (dh cs2 (ps++fr) (ss++lt) n) n 3).k=srt (yTo (cs.getD n []) ps ss (dh cs ps ss n) n 3).k;rw[vO hc hf hl lp hu h5 okp n Zz,hc n Zz,rY (Y:=Y) Zz hf hl (qd lp hu h5 okp n).1]
theorem Ca{cs cs2 ps fr ss lt:List (List Int)}{Y:Nat}(hc:∀j,j<Y->cs2.getD j []=cs.getD j [])(hf:∀r∈fr,(Y:Int)<=fl r 2)(hl:∀s∈lt,(Y:Int)<=fl s 4)(lp:ps.length<=10)(hu:un ps ss=none)(h5:∀s∈ss,s.length=5)(okp:∀r∈ps,okP r){n:Nat}(h:n<Y):fK cs2 (ps++fr) (ss++lt) n=fK cs ps ss n:=by
 unfold fK;rw[vO hc hf hl lp hu h5 okp n Zz,hc n h,rY (Y:=Y) Zz hf hl (qd lp hu h5 okp n).1]
theorem vP{ps fr ss:List (List Int)}(hu:un ps ss=none):un (ps++fr) ss=none:=by
 refine rP fun j hj=>?_;have h:=vK hu j hj;generalize ss.getD j []=s at h⊢;generalize ss.take j=sa at h⊢;unfold bT at h⊢;obtain⟨h1,h2⟩:=Bool.and_eq_true_iff.mp h;have As:=h1;unfold nZ at As;simp only[Bool.and_eq_true,Zp]at As
 have e:jU (ps++fr) s=jU ps s:=by
  unfold jU;exact fZ Zz
 rw[e,h2,Bool.and_true];unfold nZ at h1⊢;rw[e];simp only[Bool.and_eq_true,Zp]at h1⊢;rw[zA2];refine⟨⟨h1.1.1,Zz⟩,h1.2⟩
theorem xM{P:List (List Int×Int)}{r:List Int}(h:r∈dH P):∃p∈P,fl r 0=fl p.1 0/\fl r 1=fl p.1 1/\fl r 2=fl p.1 2/\r.length=4:=by
 obtain⟨p,hp,rfl⟩:=zA5.mp h;exact⟨p,(zAq.mp hp).1,rfl,rfl,rfl,rfl⟩
theorem uK{P:List (List Int×Int)}{r:List Int}(h:r∈dq P):∃p∈P,fl r 0=fl p.1 0/\fl r 1=fl p.1 1/\fl r 2=fl p.1 2/\r.length=4:=by
 obtain⟨p,hp,rfl⟩:=zA5.mp h;exact⟨p,(zAq.mp hp).1,rfl,rfl,rfl,rfl⟩
def Src(ps ss ow:List (List Int))(y:Int)(n:Nat)(r:List Int):Prop:=∃s q,s<n/\(q∈aH ps ss (s:Nat) y\/q∈aK ps ow (s:Nat))/\fl r 0=fl q 0/\fl r 1=fl q 1/\fl r 2=fl q 2/\r.length=4
section
variable{c:List Int}{ps ss ow:List (List Int)}{y:Int}
theorem Cd:∀n,(∀r∈(yTo c ps ss ow y n).g,Src ps ss ow y n r)/\∀r∈(yTo c ps ss ow y n).k,Src ps ss ow y n r
 |0=>⟨fun r h=>(by cases h),fun r h=>(by cases h)⟩
 |n+1=>by
  obtain⟨a,b⟩:=Cd n
  have up:∀{r},Src ps ss ow y n r->Src ps ss ow y (n+1) r:=fun⟨s,q,h,z⟩=>⟨s,q,Zz,z⟩
  have zp:∀{sh:List Int} {p:List Int×Int},p∈(aH ps ss (n:Nat) y++aK ps ow (n:Nat)).zip sh->p.1∈aH ps ss (n:Nat) y\/p.1∈aK ps ow (n:Nat):=fun{sh p} h=>zA6.mp (List.of_mem_zip h).1;refine⟨fun r h=>?_,fun r h=>?_⟩
  .rcases zA6.mp (show r∈(yTo c ps ss ow y n).g++dH _ from h)with z|z
   .exact up (a r z)
   .obtain⟨p,hp,e⟩:=xM z;exact⟨n,p.1,Nat.lt_succ_self _,zp hp,e⟩
  .rcases zA6.mp (show r∈(yTo c ps ss ow y n).k++dq _ from h)with z|z
   .exact up (b r z)
   .obtain⟨p,hp,e⟩:=uK z;exact⟨n,p.1,Nat.lt_succ_self _,zp hp,e⟩
theorem mY{sort:Int}:∀k,∀r∈gq ps ss sort y k,fl (ps.getD (fl r 1).toNat []) 1=sort/\fl r 0=y/\0<=fl r 1/\fl r 1<k/\0<=fl r 2/\fl r 2<8
 |0,r,h=>by cases h
 |k+1,r,h=>by
  rcases zA6.mp (show r∈gq ps ss sort y k++gF ps ss sort y k from h)with z|z
  .obtain⟨a,b,c,d,e⟩:=mY k r z;exact⟨a,b,c,Zz,e⟩
  .unfold gF at z;split at z
   .rename_i hs
    obtain⟨q,hq,rfl⟩:=zA5.mp z;obtain⟨j,hh,rfl⟩:=zA5.mp hq;have:=List.mem_range.mp (zAq.mp hh).1;have e1:fl (y::(k:Int)::[(j:Int),(bI (ps.getD k []) ss k y).getD j 0]) 1=(k:Int):=rfl;have e2:fl (y::(k:Int)::[(j:Int),(bI (ps.getD k []) ss k y).getD j 0]) 2=(j:Int):=rfl;rw[e1,e2,zAi];exact⟨hs,rfl,Zz,Zz,Zz,Zz⟩
   .cases z
def kOk(N:Nat)(Y:Int)(r:List Int):Prop:=r.length=4/\0<=fl r 0/\fl r 0<Y/\0<=fl r 1/\fl r 1<N/\0<=fl r 2/\fl r 2<8
theorem Ce{n:Nat}{r:List Int}(y0:0<=y)(ho:∀r∈ow,kOk ps.length y r)(h:Src ps ss ow y n r):kOk ps.length (y+1) r/\fl (ps.getD (fl r 1).toNat []) 1<n:=by
 obtain⟨s,q,hs,hq,e0,e1,e2,e3⟩:=h;unfold kOk;rw[e0,e1,e2];rcases hq with z|z
 .obtain⟨a,b,c,d,e,f⟩:=mY ps.length q z;exact⟨⟨e3,Zz,Zz,c,d,e,f⟩,Zz⟩
 .obtain⟨hm,hd⟩:=zAq.mp z;have hd:=zBa hd;obtain⟨_,a,b,c,d,e,f⟩:=ho q hm;exact⟨⟨e3,a,Zz,c,d,e,f⟩,Zz⟩
end
theorem rZ{cs ps ss:List (List Int)}:∀n,∀r∈dh cs ps ss n,kOk ps.length n r
 |0,r,h=>by cases h
 |n+1,r,h=>by
  have pm:=List.mergeSort_perm (yTo (cs.getD n []) ps ss (dh cs ps ss n) n 3).k rle;have:=(Ce (Int.natCast_nonneg n) (rZ n) ((Cd 3).2 r (pm.mem_iff.mp h))).1;rw[show((n+1:Nat):Int)=(n:Int)+1 by lia];exact this
theorem xN{cs ps ss:List (List Int)}(n:Nat):∀r∈srt (fK cs ps ss n).g,kOk ps.length (n+1) r:=fun r h=>by
 have pm:=List.mergeSort_perm (fK cs ps ss n).g rle;exact(Ce (Int.natCast_nonneg n) (rZ n) ((Cd 3).1 r (pm.mem_iff.mp h))).1
theorem jZ(p:List Int->Bool)(L:List (List Int)):(srt L).filter p=srt (L.filter p):=by
 refine vL ((List.mergeSort_perm L rle).filter p) ?_;refine List.Pairwise.sublist List.filter_sublist ?_;refine(List.pairwise_mergeSort BL xJ L).imp fun{a b} h=>?_;unfold rle at h;simpa using h
def bet(ps:List (List Int))(S:Nat)(r:List Int):Bool:=decide (fl (ps.getD (fl r 1).toNat []) 1<S)
theorem Fe{ps fr:List (List Int)}{S:Nat}{r:List Int}(h0:0<=fl r 1)(h1:fl r 1<ps.length):bet (ps++fr) S r=bet ps S r:=by
 unfold bet;rw[fZ Zz]
section
variable{c:List Int}{ps ss ow:List (List Int)}{y:Int}{S:Nat}
theorem HY(n:Nat){P:List (List Int×Int)}(hP:∀p∈P,p.1∈aH ps ss (n:Nat) y\/p.1∈aK ps ow (n:Nat)):(∀r∈dH P,fl (ps.getD (fl r 1).toNat []) 1=n)/\∀r∈dq P,fl (ps.getD (fl r 1).toNat []) 1=n:=by
 have key:∀p∈P,fl (ps.getD (fl p.1 1).toNat []) 1=n:=fun p hp=>by
  rcases hP p hp with z|z
  .exact(mY ps.length p.1 z).1
  .exact zBa (zAq.mp z).2
 refine⟨fun r hr=>?_,fun r hr=>?_⟩
 .obtain⟨p,hp,_,e,_⟩:=xM hr;rw[e];exact key p hp
 .obtain⟨p,hp,_,e,_⟩:=uK hr;rw[e];exact key p hp
theorem jl:∀n,(yTo c ps ss ow y n).g.filter (bet ps S)=(yTo c ps ss ow y (min n S)).g/\(yTo c ps ss ow y n).k.filter (bet ps S)=(yTo c ps ss ow y (min n S)).k
 |0=>by rw[Nat.zero_min];exact⟨rfl,rfl⟩
 |n+1=>by
  obtain⟨a,b⟩:=jl n;obtain⟨sg,sk⟩:=HY (ps:=ps) (ss:=ss) (ow:=ow) (y:=y) n (P:=(aH ps ss (n:Nat) y++aK ps ow (n:Nat)).zip (shr (c.getD n 0+(yTo c ps ss ow y n).d) (aH ps ss (n:Nat) y) (aK ps ow (n:Nat)))) fun p hp=>zA6.mp (List.of_mem_zip hp).1;have eg:(yTo c ps ss ow y (n+1)).g=(yTo c ps ss ow y n).g++dH ((aH ps ss (n:Nat) y++aK ps ow (n:Nat)).zip (shr (c.getD n 0+(yTo c ps ss ow y n).d) (aH ps ss (n:Nat) y) (aK ps ow (n:Nat)))):=rfl;have ek:(yTo c ps ss ow y (n+1)).k=(yTo c ps ss ow y n).k++dq ((aH ps ss (n:Nat) y++aK ps ow (n:Nat)).zip (shr (c.getD n 0+(yTo c ps ss ow y n).d) (aH ps ss (n:Nat) y) (aK ps ow (n:Nat)))):=rfl;rcases Nat.lt_or_ge n S with z|z
  .rw[Nat.min_eq_left Zz]at a b;rw[Nat.min_eq_left Zz,eg,ek,List.filter_append,List.filter_append,a,b];refine⟨congrArg _ (List.filter_eq_self.mpr fun r hr=>?_),congrArg _ (List.filter_eq_self.mpr fun r hr=>?_)⟩
   .refine zAu ?_;rw[sg r hr];lia
   .refine zAu ?_;rw[sk r hr];lia
  .rw[Nat.min_eq_right Zz]at a b;rw[Nat.min_eq_right Zz,eg,ek,List.filter_append,List.filter_append,a,b]
   have ng:∀{L:List (List Int)},(∀r∈L,fl (ps.getD (fl r 1).toNat []) 1=n)->L.filter (bet ps S)=[]:=fun{L} h=>List.filter_eq_nil_iff.mpr fun r hr w=>by
    have:=zBa w;rw[h r hr]at this;lia
   rw[ng sg,ng sk,zAn,zAn];exact⟨rfl,rfl⟩
end
theorem vQ{ps ss:List (List Int)}{m:List Int}{s:Nat}{y:Int}(h:(s:Int)<fl m 1):aH (ps++[m]) ss (s:Nat) y=aH ps ss (s:Nat) y:=by
 have e1:=mX (ps:=ps) (fr:=[m]) (ss:=ss) (lt:=[]) (sort:=(s:Int)) (y:=y) (Y:=y+1) Zz (fun _ h=>by cases h) ps.length (zA3 _);rw[zAn]at e1;unfold aH;rw[zA2];show gq (ps++[m]) ss s y ps.length++gF (ps++[m]) ss s y ps.length=_;rw[e1]
 have:gF (ps++[m]) ss s y ps.length=[]:=by
  unfold gF;rw[zA7,zB3 (zA3 _),Nat.sub_self];exact zAx (by show¬fl m 1=s;lia)
 rw[this,zAn]
theorem su{c m:List Int}{ps ss ow mS:List (List Int)}{y:Int}:∀n:Nat,(n:Int)<=fl m 1->(∀s:Nat,s<n->aK (ps++[m]) mS s=aK ps ow s)->yTo c (ps++[m]) ss mS y n=yTo c ps ss ow y n
 |0,_,_=>rfl
 |n+1,h,ha=>by
  show mU c (ps++[m]) ss mS y (yTo c (ps++[m]) ss mS y n) n=mU c ps ss ow y (yTo c ps ss ow y n) n;rw[su n Zz fun s hs=>ha s Zz];unfold mU;rw[vQ Zz,ha n (Nat.lt_succ_self _)]
theorem qg{ps ow mS:List (List Int)}{m:List Int}{S:Nat}(hk:∀r∈ow,0<=fl r 1/\fl r 1<ps.length)(e:mS.filter (bet (ps++[m]) S)=ow.filter (bet ps S)){s:Nat}(hs:s<S):aK (ps++[m]) mS s=aK ps ow s:=by
 have f:∀(q:List (List Int)) (o:List (List Int)),aK q o s=(o.filter (bet q S)).filter fun r=>decide (fl (q.getD (fl r 1).toNat []) 1=s):=fun q o=>by
  unfold aK;rw[List.filter_filter];refine List.filter_congr fun r _=>?_;unfold bet;by_cases z:fl (q.getD (fl r 1).toNat []) 1=s
  .rw[zAu z,zAu (show fl (q.getD (fl r 1).toNat []) 1<S by lia)];rfl
  .rw[zB5 z];rfl
 rw[f,f,e];refine List.filter_congr fun r hr=>?_;obtain⟨a,b⟩:=hk r (zAq.mp hr).1;rw[fZ Zz]
theorem vR{cs ps ss:List (List Int)}{m:List Int}{S:Nat}(hS:fl m 1=S)(S3:S<=3):∀n,(dh cs (ps++[m]) ss n).filter (bet (ps++[m]) S)=(dh cs ps ss n).filter (bet ps S)
 |0=>rfl
 |n+1=>by
  have ih:=vR (cs:=cs) (ps:=ps) (ss:=ss) hS S3 n;show(srt (yTo (cs.getD n []) (ps++[m]) ss (dh cs (ps++[m]) ss n) n 3).k).filter (bet (ps++[m]) S)=(srt (yTo (cs.getD n []) ps ss (dh cs ps ss n) n 3).k).filter (bet ps S);rw[jZ,jZ,(jl 3).2,(jl 3).2,Nat.min_eq_right S3,su S Zz fun s hs=>qg (fun r hr=>by have:=rZ n r hr;exact⟨this.2.2.2.1,this.2.2.2.2.1⟩) ih hs]
theorem I9{cs ps ss:List (List Int)}{m:List Int}{S:Nat}(hS:fl m 1=S)(S3:S<=3)(n:Nat):(srt (fK cs (ps++[m]) ss n).g).filter (bet (ps++[m]) S)=(srt (fK cs ps ss n).g).filter (bet ps S):=by
 have ih:=vR (cs:=cs) (ps:=ps) (ss:=ss) hS S3 n;unfold fK;rw[jZ,jZ,(jl 3).1,(jl 3).1,Nat.min_eq_right S3,su S Zz fun s hs=>qg (fun r hr=>by have:=rZ n r hr;exact⟨this.2.2.2.1,this.2.2.2.2.1⟩) ih hs]
inductive SpRefBI(vs:List V)(H:Hp)(Q:VK):Prop
 |mk:∀S v d,(vs=[v])->(IsTh S H v d)->(sz d<=4000)->(jL d=true)->(∀H',Same H H'->Q .non H')->SpRefBI  vs H Q
def vV:Sp:=fun vs H Q _=>SpRefBI  vs H Q
inductive SpRefYI(vs:List V)(H:Hp)(Q:VK):Prop
 |mk:∀ac xc cs y,(vs=[.ref ac,.int y])->(RowsAt H ac xc cs)->(0<=y)->(y<cs.length)->(∀H',Same H H'->Q .non H')->SpRefYI  vs H Q
def Cg:Sp:=fun vs H Q _=>SpRefYI  vs H Q
theorem JH:FnScope ["thing","least","most"] ["thing","least","most"] (aJ (top 12)):=fQS
theorem o9(F:Fun K "is_whole_from" "is_whole_from" (top 12) f fd)(c1:Cal P w K mg base 1 "is_whole" ["thing"] (spT cP)):FnOk P w K mg base CX0 2 f fd ["thing","least","most"] (jR nY):=by
 refine F.ok JH (fun vs H Q E h=>?_) (fun ar A outer s H vs Q E hr h=>?_)
 .obtain⟨S,v,d,n,m,rfl,_⟩:=h;rfl
 .obtain⟨S,v,d,n,m,rfl,th,hz,q⟩:=h;refine⟨_,aD (aQ (bY (aG c1 hr (aP (pv 0) ao)) (dC (cJ bW bW (pv 1) (pv 0) (pv 2))))),?_⟩;refine⟨_,rfl,S,v,d,rfl,th,hz,fun H1 s1=>⟨_,rfl,?_⟩⟩;have fin:=q H1 s1;unfold nY at fin
  cases e:cP d with
  |false=>
   rw[e]at fin;exact bD fin
  |true=>
   rw[e]at fin;obtain⟨i,rfl,rfl⟩:=jA th e;exact bQ (cD (f9 rfl) (f9 rfl) (f9 rfl) _ fin)
theorem JK:FnScope ["thing"] ["thing"] (aJ (top 36)):=fQS
theorem Ff(F:Fun K "refuse_no_book" "refuse_no_book" (top 36) f fd)(c1:Cal P w K mg base 6 "is_book" ["thing"] (spT jL)):FnOk P w K mg base CX0 7 f fd ["thing"] vV:=by
 refine F.ok JK (fun vs H Q E h=>?_) (fun ar A outer s H vs Q E hr h=>?_)
 .obtain⟨S,v,d,rfl,_⟩:=h;rfl
 .obtain⟨S,v,d,rfl,th,hz,hb,q⟩:=h;refine⟨_,aD (bZ (cX (eF (aG c1 hr (aP (pv 0) ao)))) (aD fM) bf),?_⟩;refine⟨_,rfl,S,v,d,rfl,th,hz,fun H1 s1=>⟨_,rfl,?_⟩⟩;rw[hb];exact bD (q _ s1)
theorem JL:FnScope ["clips","year"] ["clips","year"] (aJ (top 54)):=fQS
theorem Fg(F:Fun K "refuse_no_year_of" "refuse_no_year_of" (top 54) f fd)(T:Mg mg)(c1:Cal P w K mg base 2 "is_whole_from" ["thing","least","most"] (jR nY)):FnOk P w K mg base CX0 3 f fd ["clips","year"] Cg:=by
 refine F.ok JL (fun vs H Q E h=>?_) (fun ar A outer s H vs Q E hr h=>?_)
 .obtain⟨ac,xc,cs,y,rfl,_⟩:=h;rfl
 .obtain⟨ac,xc,cs,y,rfl,rc,y0,y1,q⟩:=h;refine⟨_,aD (bZ (cX (eF (aG c1 hr (au (pv 1) (au az (au (aW fG (aO bh rfl T.len PySem.boot_len (au (pv 0) ao)) az) ao)))))) (aD fM) bf),?_⟩;refine⟨_,rfl,_,rfl,ac,_,rfl,.inr (SqT.of rc.e),_,_,rfl,rfl,fun _=>False,.int y,.int y,0,_,rfl,.int _,(by show 1<=4000;decide),fun H1 s1=>⟨_,rfl,?_⟩⟩
  have e:nY (.int y) 0 ((xc.length:Int)-1)=true:=by
   show(true&&(decide (0<=y)&&decide (y<=(xc.length:Int)-1)))=true;rw[zAu y0,zAu (by rw[rc.l];lia)];rfl
  rw[e];exact bD (q _ s1)
structure BookAt(H:Hp)(bk ac:Addr)(xc:List V)(cs:List (List Int))(ap:Addr)(xp:List V)(ps:List (List Int))(af:Addr)(xs:List V)(ss:List (List Int)):Prop where
 e:H bk=some (.tup [.ref ac,.ref ap,.ref af])
 rc:RowsAt H ac xc cs
 okc:∀r∈cs,r.length=3/\∀x∈r,0<=x
 lc:cs.length<=20
 rp:RowsAt H ap xp ps
 lp:ps.length<=10
 okp:∀r∈ps,okP r
 rs:RowsAt H af xs ss
 ls:ss.length<=12
 h5:∀s∈ss,s.length=5
 un:un ps ss=none
theorem BookAt.same{H H':Hp}{bk ac:Addr}{xc:List V}{cs:List (List Int)}{ap:Addr}{xp:List V}{ps:List (List Int)}{af:Addr}{xs:List V}{ss:List (List Int)}(b:BookAt H bk ac xc cs ap xp ps af xs ss)(s:Same H H'):BookAt H' bk ac xc cs ap xp ps af xs ss:=
 ⟨s _ _ b.e,b.rc.same s,b.okc,b.lc,b.rp.same s,b.lp,b.okp,b.rs.same s,b.ls,b.h5,b.un⟩
def sy(R:List (List Int)->List (List Int)->List (List Int)->Int->VK->Hp->Prop):Sp:=fun vs H Q _=>∃S bk y d ac xc cs ap xp ps af xs ss,vs=[.ref bk,.int y]/\IsTh S H (.ref bk) d/\sz d<=4000/\jL d=true/\BookAt H bk ac xc cs ap xp ps af xs ss/\0<=y/\y<cs.length/\R cs ps ss y Q H
def Ia:List (List Int)->List (List Int)->List (List Int)->Int->VK->Hp->Prop:=fun _ _ _ _ Q H=>∀H',Same H H'->Q .non H'
def Ci:List (List Int)->List (List Int)->List (List Int)->Int->VK->Hp->Prop:=fun cs ps ss y Q H=>∀g xg H',Same H H'->H g=none->g≠sysModules->H' g=some (.lst xg)->Els H' xg (srt (fK cs ps ss y.toNat).g)->Q (.ref g) H'
theorem JM:FnScope ["book","year"] ["book","year"] (aJ (top 55)):=fQS
theorem Cj(F:Fun K "refuse_no_year" "refuse_no_year" (top 55) f fd)(c1:Cal P w K mg base 7 "refuse_no_book" ["thing"] vV)(c2:Cal P w K mg base 3 "refuse_no_year_of" ["clips","year"] Cg):FnOk P w K mg base CX0 8 f fd ["book","year"] (sy Ia):=by
 refine F.ok JM (fun vs H Q E h=>?_) (fun ar A outer s H vs Q E hr h=>?_)
 .obtain⟨S,bk,y,d,ac,xc,cs,ap,xp,ps,af,xs,ss,rfl,_⟩:=h;rfl
 .obtain⟨S,bk,y,d,ac,xc,cs,ap,xp,ps,af,xs,ss,rfl,th,hz,hb,B,y0,y1,q⟩:=h;refine⟨_,aB (cY (aG c1 hr (au (pv 0) ao))) (aD (cY (aG c2 hr (au (pX bC (pv 0) az) (au (pv 1) ao))))),?_⟩;refine aF ?_;refine⟨_,rfl,S,_,d,rfl,th,hz,hb,fun H1 s1=>?_⟩;dsimp only;have B1:=B.same s1;exact⟨_,rfl,bk,_,0,.ref ac,rfl,rfl,SqT.of B1.e,rfl,_,rfl,ac,xc,cs,y,rfl,B1.rc,y0,y1,fun H2 s2=>q _ (s1.trans s2)⟩
theorem scYD2:FnScope ["book","year","gifts","owed","left"] ["book","year"] (aJ (top 56)):=fQS
theorem Ck(F:Fun K "gifts_in" "gifts_in" (top 56) f fd)(c1:Cal P w K mg base 8 "refuse_no_year" ["book","year"] (sy Ia))(c2:Cal P w K mg base 10 "years_given" ["book","year"] jY):FnOk P w K mg base CX0 11 f fd ["book","year"] (sy Ci):=by
 refine F.ok scYD2 (fun vs H Q E h=>?_) (fun ar A outer s H vs Q E hr h=>?_)
 .obtain⟨S,bk,y,d,ac,xc,cs,ap,xp,ps,af,xs,ss,rfl,_⟩:=h;rfl
 .obtain⟨S,bk,y,d,ac,xc,cs,ap,xp,ps,af,xs,ss,rfl,th,hz,hb,B,y0,y1,q⟩:=h
  refine⟨_,aB (cY (aG c1 hr (au (pv 0) (au (pv 1) ao))))
   (aB (cA (pX bM (aG c2 hr (au (pv 0) (au (pv 1) ao))) (pv 1)) (bL rfl (aq (pgn 2 scYD2.nd) (aq (pgn 3 scYD2.nd) (aq (pgn 4 scYD2.nd) aV)))))
   (aD (aQ (pv 2)))),?_⟩
  refine aF ?_;refine⟨_,rfl,_,rfl,S,bk,y,d,ac,xc,cs,ap,xp,ps,af,xs,ss,rfl,th,hz,hb,B,y0,y1,fun H1 s1=>?_⟩;dsimp only;have B1:=B.same s1;refine aF ?_;refine⟨_,rfl,_,rfl,bk,y,ac,xc,cs,ap,xp,ps,af,xs,ss,rfl,B1.e,B1.rc,B1.okc,B1.lc,y0,y1,B1.rp,B1.lp,B1.okp,B1.rs,B1.ls,B1.h5,B1.un,fun l ts H2 s2 nl el lt hy=>?_⟩;have hl:y.toNat<ts.length:=Zz
  obtain⟨g,k,tl,xg,xk,e1,n1,n2,d1,d2,e2,e3,e4,e5,e6⟩:=hy y.toNat ts[y.toNat] (zA0 hl)
  have eM:atI (ts.map V.ref) y=some (.ref ts[y.toNat]):=by
   have:(ts.map V.ref)[y.toNat]?=some (.ref ts[y.toNat]):=by rw[zAb,zA0 hl];rfl
   have:=dI this;rw[show((y.toNat:Nat):Int)=y by lia]at this;exact this
  refine⟨_,rfl,l,_,y,.ref ts[y.toNat],rfl,rfl,SqL.of el,eM,ts[y.toNat],_,rfl,SqT.of e1,rfl,_,_,rfl,_,_,rfl,_,_,rfl,rfl,?_⟩;dsimp only;exact⟨_,rfl,q g xg H2 (s1.trans s2) (s1.free n1) e6.2.1 e2 e3⟩
def uL:List (List Int)->List (List Int)->List (List Int)->Int->VK->Hp->Prop:=fun cs ps ss y Q H=>∀k xk H',Same H H'->H k=none->k≠sysModules->H' k=some (.lst xk)->Els H' xk (dh cs ps ss (y.toNat+1))->Q (.ref k) H'
def JN(R:List (List Int)->List (List Int)->List (List Int)->Int->VK->Hp->Prop):Sp:=fun vs H Q _=>∃bk y ac xc cs ap xp ps af xs ss,vs=[.ref bk,.int y]/\BookAt H bk ac xc cs ap xp ps af xs ss/\0<=y/\y<cs.length/\R cs ps ss y Q H
theorem scYF1:FnScope ["book","year","gifts","owed","left"] ["book","year"] (aJ (top 58)):=fQS
theorem Cm(F:Fun K "owed_behind" "owed_behind" (top 58) f fd)(c2:Cal P w K mg base 10 "years_given" ["book","year"] jY):FnOk P w K mg base CX0 11 f fd ["book","year"] (JN uL):=by
 refine F.ok scYF1 (fun vs H Q E h=>?_) (fun ar A outer s H vs Q E hr h=>?_)
 .obtain⟨bk,y,ac,xc,cs,ap,xp,ps,af,xs,ss,rfl,_⟩:=h;rfl
 .obtain⟨bk,y,ac,xc,cs,ap,xp,ps,af,xs,ss,rfl,B,y0,y1,q⟩:=h
  refine⟨_,aB (cA (pX bM (aG c2 hr (au (pv 0) (au (pv 1) ao))) (pv 1)) (bL rfl (aq (pgn 2 scYF1.nd) (aq (pgn 3 scYF1.nd) (aq (pgn 4 scYF1.nd) aV)))))
   (aD (aQ (pv 3))),?_⟩
  refine aF ?_;refine⟨_,rfl,_,rfl,bk,y,ac,xc,cs,ap,xp,ps,af,xs,ss,rfl,B.e,B.rc,B.okc,B.lc,y0,y1,B.rp,B.lp,B.okp,B.rs,B.ls,B.h5,B.un,fun l ts H2 s2 nl el lt hy=>?_⟩;have hl:y.toNat<ts.length:=Zz
  obtain⟨g,k,tl,xg,xk,e1,n1,n2,d1,d2,e2,e3,e4,e5,e6,e7⟩:=hy y.toNat ts[y.toNat] (zA0 hl)
  have eM:atI (ts.map V.ref) y=some (.ref ts[y.toNat]):=by
   have:(ts.map V.ref)[y.toNat]?=some (.ref ts[y.toNat]):=by rw[zAb,zA0 hl];rfl
   have:=dI this;rw[show((y.toNat:Nat):Int)=y by lia]at this;exact this
  refine⟨_,rfl,l,_,y,.ref ts[y.toNat],rfl,rfl,SqL.of el,eM,ts[y.toNat],_,rfl,SqT.of e1,rfl,_,_,rfl,_,_,rfl,_,_,rfl,rfl,?_⟩;dsimp only;exact⟨_,rfl,q k xk H2 s2 n2 e7.2 e4 e5⟩
theorem JP:FnScope ["book","year"] ["book","year"] (aJ (top 59)):=fQS
theorem Fi(F:Fun K "owed_by" "owed_by" (top 59) f fd)(c1:Cal P w K mg base 8 "refuse_no_year" ["book","year"] (sy Ia))(c2:Cal P w K mg base 11 "owed_behind" ["book","year"] (JN uL)):FnOk P w K mg base CX0 12 f fd ["book","year"] (sy uL):=by
 refine F.ok JP (fun vs H Q E h=>?_) (fun ar A outer s H vs Q E hr h=>?_)
 .obtain⟨S,bk,y,d,ac,xc,cs,ap,xp,ps,af,xs,ss,rfl,_⟩:=h;rfl
 .obtain⟨S,bk,y,d,ac,xc,cs,ap,xp,ps,af,xs,ss,rfl,th,hz,hb,B,y0,y1,q⟩:=h;refine⟨_,aB (cY (aG c1 hr (au (pv 0) (au (pv 1) ao)))) (aD (aQ (aG c2 hr (au (pv 0) (au (pv 1) ao))))),?_⟩;refine aF ?_;refine⟨_,rfl,_,rfl,S,bk,y,d,ac,xc,cs,ap,xp,ps,af,xs,ss,rfl,th,hz,hb,B,y0,y1,fun H1 s1=>?_⟩;dsimp only;exact⟨_,rfl,_,rfl,bk,y,ac,xc,cs,ap,xp,ps,af,xs,ss,rfl,B.same s1,y0,y1,fun k xk H2 s2 n ns e1 e2=>q k xk H2 (s1.trans s2) (s1.free n) ns e1 e2⟩
def Bk(H:Hp)(bk:Addr)(cs ps ss:List (List Int)):Prop:=∃ac xc ap xp af xs,BookAt H bk ac xc cs ap xp ps af xs ss
inductive SpMoreI(vs:List V)(H:Hp)(Q:VK):Prop
 |mk:∀a xs m,(vs=[.ref a,.int m])->(H a=some (.tup xs))->((xs.length:Int)<m)->(Q .non H)->SpMoreI  vs H Q
def Cp:Sp:=fun vs H Q _=>SpMoreI  vs H Q
inductive SpGBYI(vs:List V)(H:Hp)(Q:VK):Prop
 |mk:∀bk cs ps ss,(vs=[.ref bk])->(Bk H bk cs ps ss)->(1<=cs.length)->(∀l,∀gs:List Addr,∀H',Same H H'->H l=none->H' l=some (.lst (gs.map V.ref))->gs.length=cs.length->(∀(j:Nat) g,gs[j]?=some g->∃xg,H g=none/\H' g=some (.lst xg)/\Els H' xg (srt (fK cs ps ss j).g))->Q (.ref l) H')->SpGBYI  vs H Q
def Ge:Sp:=fun vs H Q _=>SpGBYI  vs H Q
theorem KD:FnScope ["rows","most"] ["rows","most"] (aJ (top 30)):=fQS
theorem Fj(F:Fun K "refuse_one_more" "refuse_one_more" (top 30) f fd)(T:Mg mg):FnOk P w K mg base CX0 1 f fd ["rows","most"] Cp:=by
 refine F.ok KD (fun vs H Q E h=>?_) (fun ar A outer s H vs Q E hr h=>?_)
 .obtain⟨a,xs,m,rfl,_⟩:=h;rfl
 .obtain⟨a,xs,m,rfl,e,hl,q⟩:=h;refine⟨_,aD (bZ (aY zm (aO bh rfl T.len PySem.boot_len (au (pv 0) ao)) (pv 1) (bx _)) (aD fM) bf),?_⟩;refine⟨_,rfl,a,xs,rfl,.inr (SqT.of e),_,rfl,_,_,rfl,rfl,_,rfl,?_⟩;rw[zB5 (show¬((xs.length:Int)≥m) by lia)];exact bD q
theorem Ib:(["gifts","owed","left"]:List Str).Nodup:=by decide +kernel
theorem KH:FnScope ["book"] ["book"] (aJ (top 53)):=fQS
theorem Ie(F:Fun K "gifts_by_year" "gifts_by_year" (top 53) f fd)(T:Mg mg)(c1:Cal P w K mg base 10 "years_given" ["book","year"] jY):FnOk P w K mg base CX0 11 f fd ["book"] Ge:=by
 refine F.ok KH (fun vs H Q E h=>?_) (fun ar A outer s H vs Q E hr h=>?_)
 .obtain⟨bk,cs,ps,ss,rfl,_⟩:=h;rfl
 .obtain⟨bk,cs,ps,ss,rfl,b,l1,q⟩:=h;obtain⟨ac,xc,ap,xp,af,xs,B⟩:=b
  refine⟨_,aD (aQ (bK (g:=j6 K 3 (bG (bu 0) (bG (bu 1) (bG (bu 2) jo)))) ["gifts","owed","left"] [none,none,none] rfl (cF (aG c1 hr (au (pv 0) (au (aW fG (aO bh rfl T.len PySem.boot_len (au (pX bC (pv 0) az) ao)) az) ao))))
   (fun C fp Zt s₂ H₂=>⟨cR rfl rfl (aq (pgn 0 Ib) (aq (pgn 1 Ib) (aq (pgn 2 Ib) aV))),bH,pv 0⟩) (fun C=>trivial) ⟨rfl,rfl,rfl,rfl⟩)),?_⟩
  have TU:=B.rc.l;refine⟨_,rfl,_,rfl,bk,_,0,.ref ac,rfl,rfl,SqT.of B.e,rfl,ac,xc,rfl,.inr (SqT.of B.rc.e),_,_,rfl,rfl,bk,_,ac,xc,cs,ap,xp,ps,af,xs,ss,rfl,B.e,B.rc,B.okc,B.lc,Zz,Zz,B.rp,B.lp,B.okp,B.rs,B.ls,B.h5,B.un,fun l ts H2 s2 nl el lt hy=>?_⟩;have ay:ts.length=cs.length:=Zz
  refine⟨l,rfl,⟨_,SqL.of el⟩,cz ts.length (fun i ys σ Hc=>Same H2 Hc/\(∃o1 o2 o3,σ=[o1,o2,o3])/\∃gs:List Addr,ys=gs.map V.ref/\gs.length=i/\∀(j:Nat) g,gs[j]?=some g->∃xg,H g=none/\H2 g=some (.lst xg)/\Els H2 xg (srt (fK cs ps ss j).g)) ⟨Same.refl _,⟨_,_,_,rfl⟩,[],rfl,rfl,fun j g e=>(by cases e)⟩ (by rw[sizeLine_eq];have:=B.lc;lia) ?_ ?_⟩
  .rintro i ys σ Hc hi OM ⟨sc,⟨o1,o2,o3,rfl⟩,gs,rfl,lg,hg⟩;obtain⟨g,k,tl,xg,xk,e1,n1,n2,d1,d2,e2,e3,e4,e5,e6⟩:=hy i ts[i] (zA0 hi);have ex:(ts.map V.ref)[i]?=some (.ref ts[i]):=by rw[zAb,zA0 hi];rfl
   refine⟨⟨_,_,SqL.of (sc _ _ el),ex⟩,fun v H' y R hR=>?_⟩;obtain⟨rfl,y⟩:=y;have hv:=y _ (SqL.of (sc _ _ el));rw[ex]at hv;cases hv;refine⟨ts[i],_,rfl,SqT.of (sc _ _ e1),rfl,_,_,rfl,_,_,rfl,_,_,rfl,rfl,_,rfl,hR _ _ _ ⟨sc,⟨_,_,_,rfl⟩,gs++[g],by rw[zA4];rfl,by rw[zA2,lg];rfl,fun j g' ej=>?_⟩⟩;by_cases hj:j<gs.length
   .rw[zB7 hj]at ej;exact hg j g' ej
   .have me:j=i:=by
     have:=(zAa.mp ej).1;rw[zA2]at this;simp at this;lia
    subst me;rw[zB3 Zz,lg,Nat.sub_self]at ej;cases ej;exact⟨xg,n1,e2,e3⟩
  rintro ys σ Hc OM ⟨sc,_,gs,rfl,lg,hg⟩;refine⟨⟨_,SqL.of (sc _ _ el),by rw[zA1];exact zA3 _⟩,fun D hD=>?_⟩;have u:=sc.updR (o:=.lst (gs.map V.ref)) hD
  exact q D gs _ (s2.trans u) ((s2.trans sc).free hD) aj Zz fun j g ej=>by
   obtain⟨xg,n,a,b⟩:=hg j g ej;exact⟨xg,n,u _ _ a,b.same u⟩
def bF(r:List Int):List Key:=[.inl (fl r 0),.inl (fl r 1),.inl (fl r 2)]
def dU(rs:List (List Int)):List (List Key×V):=rs.foldl (fun Zs r=>putK Zs (bF r) (.int (fl r 3))) []
theorem dZ(rs:List (List Int))(r:List Int):dU (rs++[r])=putK (dU rs) (bF r) (.int (fl r 3)):=by
 unfold dU;rw[List.foldl_append];rfl
theorem snoc_ind{α:Type}{p:List α->Prop}(h0:p [])(hs:∀l a,p l->p (l++[a])):∀l,p l:=fun l=>by
 have:∀r:List α,p r.reverse:=fun r=>by
  induction r with
  |nil=>exact h0
  |cons a r ih=>
   rw[List.reverse_cons];exact hs _ _ ih
 have:=this l.reverse
 rwa [List.reverse_reverse]at this
theorem Cq:∀rs,(dU rs).length<=rs.length:=snoc_ind (zA3 _) fun l a h=>by
 rw[dZ,zA2];have:=fu (dU l) (bF a) (.int (fl a 3));show _<=l.length+1;lia
theorem uM(k:List Key):∀rs,cB (dU rs) k=(rs.filter fun r=>decide (bF r=k)).foldl (fun _ r=>some (V.int (fl r 3))) none:=snoc_ind rfl fun l a h=>by
 rw[dZ,fQ,List.filter_append,List.foldl_append,<-h];by_cases e:bF a=k
 .rw[zAz e.symm,zBd (p:=fun r=>decide (bF r=k)) (zAu e)];rfl
 .rw[zAx fun z=>e z.symm,zBc (p:=fun r=>decide (bF r=k)) (by rw[Zp];exact e)];rfl
theorem Cr{Zs:List (List Key×V)}{k:List Key}{v:V}{p:List Key×V}(h:p∈putK Zs k v):p.1=k\/p∈Zs:=by
 unfold putK at h;split at h
 .obtain⟨q,hq,e⟩:=zA5.mp h;by_cases z:q.1=k
  .rw[zAz z]at e;rw[<-e];exact .inl z
  .rw[zAx z]at e;rw[<-e];exact .inr hq
 .rcases zA6.mp h with z|z
  .exact .inr z
  .rw[List.mem_singleton.mp z];exact .inl rfl
theorem uN:∀rs,∀p∈dU rs,∃r∈rs,p.1=bF r:=snoc_ind (fun p hp=>by cases hp) fun l a h p hp=>by
 rw[dZ]at hp;rcases Cr hp with z|z
 .exact⟨a,by simp,z⟩
 .obtain⟨r,hr,e⟩:=h p z;exact⟨r,List.mem_append_left _ hr,e⟩
theorem Cu:∀rs,∀p∈dU rs,∃i,p.2=V.int i:=snoc_ind (fun p hp=>by cases hp) fun l a h p hp=>by
 rw[dZ]at hp;unfold putK at hp;split at hp
 .obtain⟨q,hq,e⟩:=zA5.mp hp;by_cases z:q.1=bF a
  .rw[zAz z]at e;rw[<-e];exact⟨_,rfl⟩
  .rw[zAx z]at e;rw[<-e];exact h q hq
 .rcases zA6.mp hp with z|z
  .exact h p z
  .rw[List.mem_singleton.mp z];exact⟨_,rfl⟩
theorem JQ{N:Nat}{Y:Int}{r:List Int}(hN:N<=10)(hY:Y<=20)(h:kOk N Y r):St.UK (bF r):=by
 obtain⟨_,a,b,c,d,e,f⟩:=h;refine⟨(fl r 0).toNat,(fl r 1).toNat,(fl r 2).toNat,Zz,Zz,Zz,?_⟩;unfold bF;rw[show(((fl r 0).toNat:Nat):Int)=fl r 0 by lia,show(((fl r 1).toNat:Nat):Int)=fl r 1 by lia,show(((fl r 2).toNat:Nat):Int)=fl r 2 by lia]
def JR(k:List Key):Nat:=match k with
 |[.inl a,.inl b,.inl c]=>80*a.toNat+8*b.toNat+c.toNat
 |_=>0
theorem Cv{L:List (List Key)}(nd:L.Nodup)(hu:∀k∈L,St.UK k):L.length<=1600:=by
 have nd2:(L.map JR).Nodup:=by
  rw[List.Nodup,List.pairwise_map];refine nd.imp_of_mem fun{a b} ha hb n e=>n ?_;obtain⟨y,m,h,hy,hm,hh,rfl⟩:=hu a ha;obtain⟨y',m',h',gx,kx,CC,rfl⟩:=hu b hb;have e:80*(y:Int).toNat+8*(m:Int).toNat+(h:Int).toNat=80*(y':Int).toNat+8*(m':Int).toNat+(h':Int).toNat:=e;obtain⟨rfl,rfl,rfl⟩:y=y'/\m=m'/\h=h':=Zz
  rfl
 have:=St.nodup_le (s:=List.range 1600) nd2 fun x hx=>by
  obtain⟨k,hk,rfl⟩:=zA5.mp hx;obtain⟨y,m,h,hy,hm,hh,rfl⟩:=hu k hk;refine List.mem_range.mpr ?_;show 80*(y:Int).toNat+8*(m:Int).toNat+(h:Int).toNat<1600;lia
 rwa [zA1,List.length_range]at this
theorem yQ{J:It}{g:TG}{tm:TN}{cS:L2.St}{H0:Hp}{Fin:Hp->Prop}(n:Nat)(Pv:Nat->L2.St->Hp->Prop)(h0:Pv 0 cS H0)
  (step:∀i σ H,i<n->Pv i σ H->J.go i H/\∀x H',J.yld i H x H'->∀R:L2.St->Hp->Prop,(∀aw H4,Pv (i+1) aw H4->R aw H4)->g x σ H' fun aw H2=>tm aw H2 R) (fin:∀σ H,Pv n σ H->J.stop n H/\Fin H):wU J g uX tm Fin cS H0:=by
 refine⟨fun i m σ H=>m=n-i/\i<=n/\Pv i σ H,⟨_,rfl,zAp _,h0⟩,?_⟩;rintro i m σ H ⟨rfl,hi,p⟩;by_cases ay:i<n
 .obtain⟨go,st⟩:=step i σ H ay p;exact .inr ⟨go,fun x H' y=>st x H' y _ fun aw H4 p2=>⟨n-(i+1),Zz,rfl,ay,p2⟩⟩
 .have e:i=n:=Zz
  subst e;exact .inl (fin σ H p)
inductive SpSbcI(vs:List V)(H:Hp)(Q:VK):Prop
 |mk:∀l xs rs,(vs=[.ref l])->(H l=some (.lst xs))->(Els H xs rs)->((∀r∈rs,r.length=4))->(rs.length<=100000)->(∀d H',Same H H'->H d=none->H' d=some (.dT (dU rs))->Q (.ref d) H')->SpSbcI  vs H Q
def Gf:Sp:=fun vs H Q _=>SpSbcI  vs H Q
theorem KJ:FnScope ["gifts"] ["gifts"] (aJ (top 61)):=fQS
theorem Ig(F:Fun K "sacks_by_claim" "sacks_by_claim" (top 61) f fd):FnOk P w K mg base CX0 1 f fd ["gifts"] Gf:=by
 refine F.ok KJ (fun vs H Q E h=>?_) (fun ar A outer s H vs Q E hr h=>?_)
 .obtain⟨l,xs,rs,rfl,_⟩:=h;rfl
 .obtain⟨l,xs,rs,rfl,el,cq,h4,hz,q⟩:=h
  refine⟨_,aD (aQ (Aa (g:=j6 K 4 (bG (bu 0) (bG (bu 1) (bG (bu 2) (bG (bu 3) jo))))) ["due","number","holder","sacks"] [none,none,none,none] rfl (cF (pv 0))
   (fun C fp Zt s₂ H₂=>⟨cR rfl rfl (aq (pgn 0 nd4) (aq (pgn 1 nd4) (aq (pgn 2 nd4) (aq (pgn 3 nd4) aV)))),bH,fun D=>Jo (tk:=_) (tv:=_) hr.units0 (bB (au (pv 0) (au (pv 1) (au (pv 2) ao)))) (pv 3)⟩) (fun C=>trivial) ⟨rfl,rfl,rfl,rfl⟩)),?_⟩
  refine⟨_,rfl,l,rfl,⟨_,SqL.of el⟩,fun D hD=>yQ rs.length (fun i σ Hc=>Same H Hc/\(∃o1 o2 o3 o4,σ=[o1,o2,o3,o4])/\Hc D=some (.dT (dU (rs.take i)))) ⟨Same.upd hD,⟨_,_,_,_,rfl⟩,aj⟩ ?_ ?_⟩
  .rintro i σ Hc hi ⟨s1,⟨o1,o2,o3,o4,rfl⟩,ed⟩;obtain⟨t,ex,et⟩:=cq.2 i rs[i] (zA0 hi);rw[dB (h4 _ (zAh hi))]at et;refine⟨⟨_,_,SqL.of (s1 _ _ el),ex⟩,fun v H' y R hR=>?_⟩;obtain⟨rfl,y⟩:=y;have hv:=y _ (SqL.of (s1 _ _ el));rw[ex]at hv;cases hv;refine⟨t,_,rfl,SqT.of (s1 _ _ et),rfl,_,_,rfl,_,_,rfl,_,_,rfl,_,_,rfl,rfl,?_⟩;refine⟨_,rfl,_,rfl,_,rfl,by show 3<=sizeLine;decide,fun b hb=>⟨_,rfl,dU (rs.take i),bF rs[i],b,?_,rfl,aj,?_,hR _ _ ?_⟩⟩
   .rw[aA fun z=>by rw[z,hb]at ed;cases ed];exact ed
   .have:=Cq (rs.take i);rw[zAd]at this;rw[sizeLine_eq];lia
   .refine⟨fun c o e=>?_,⟨_,_,_,_,rfl⟩,?_⟩
    .rw[aA (aC e hD),aA fun z=>by rw[<-z,s1 _ _ e]at hb;cases hb];exact s1 _ _ e
    .rw[aj,zAj,zA0 hi];show _=some (HO.dT (dU (rs.take i++[rs[i]])));rw[dZ]
  .rintro σ Hc ⟨s1,_,ed⟩;rw[zAm]at ed;exact⟨⟨_,SqL.of (s1 _ _ el),by rw[cq.1];exact zA3 _⟩,q D Hc s1 hD ed⟩
theorem yR(Zs:List (List Key×V))(k:List Key)(v:V)(h:(Zs.map (·.1)).Nodup):((putK Zs k v).map (·.1)).Nodup:=by
 unfold putK;split
 .rw[zAr];rw[List.Nodup,List.pairwise_map]at h⊢;refine h.imp fun{a b} n=>?_;show(if a.1=k then _ else a).1≠(if b.1=k then _ else b).1
  have e:∀p:List Key×V,(if p.1=k then(p.1,v)else p).1=p.1:=fun p=>by split<;>rfl
  rw[e,e];exact n
 .rename_i hn
  rw[zA4,List.nodup_append];refine⟨h,by simp,fun a ha b hb z=>hn ?_⟩;rw[z,List.mem_singleton.mp hb]at ha;obtain⟨p,hp,e⟩:=zA5.mp ha;exact List.any_eq_true.mpr ⟨p,hp,decide_eq_true e⟩
theorem Fl:∀rs,((dU rs).map (·.1)).Nodup:=snoc_ind List.nodup_nil fun l a h=>by
 rw[dZ];exact yR _ _ _ h
def rkK(k:List Key):List Int:=k.map fun x=>match x with
 |.inl i=>i
 |.inr _=>0
theorem Cw(r:List Int):rkK (bF r)=[fl r 0,fl r 1,fl r 2]:=rfl
def gvK(rs:List (List Int))(k:List Key):Int:=match cB (dU rs) k with
 |some (.int i)=>i
 |_=>0
theorem yS{Zs:List (List Key×V)}{k:List Key}{v:V}(h:cB Zs k=some v):∃p∈Zs,p.2=v:=by
 unfold cB at h;obtain⟨p,hp,e⟩:=Option.map_eq_some_iff.mp h;exact⟨p,List.mem_of_find?_eq_some hp,e⟩
theorem Cy(rs:List (List Int))(k:List Key):(cB (dU rs) k).getD (.int 0)=.int (gvK rs k):=by
 unfold gvK
 cases e:cB (dU rs) k with
 |none=>rfl
 |some v=>
  obtain⟨p,hp,e2⟩:=yS e;obtain⟨i,e3⟩:=Cu rs p hp;rw[<-e2,e3];rfl
def Ih(y:Int)(A B:List (List Int))(r:List Int):Prop:=∃q,(q∈A\/q∈B)/\r=[y,fl q 0,fl q 1,fl q 2,gvK A (bF q),gvK B (bF q)]/\gvK A (bF q)≠gvK B (bF q)
inductive SpMiI(vs:List V)(H:Hp)(Q:VK):Prop
 |mk:∀y l1 x1 A l2 x2 B,(vs=[.int y,.ref l1,.ref l2])->(H l1=some (.lst x1))->(Els H x1 A)->((∀r∈A,kOk 10 20 r))->(A.length<=100000)->(H l2=some (.lst x2))->(Els H x2 B)->((∀r∈B,kOk 10 20 r))->(B.length<=100000)->(∀l xs R H',Same H H'->H l=none->H' l=some (.lst xs)->Els H' xs R->R.length<=3200->(∀r∈R,Ih y A B r)->Q (.ref l) H')->SpMiI  vs H Q
def JS:Sp:=fun vs H Q _=>SpMiI  vs H Q
theorem boot_set:bootBuiltins "set"=some (.type "set"):=by decide +kernel
theorem scMi:FnScope ["year","before","after","old","new","moves","claim","sacks"] ["year","before","after"] (aJ (top 62)):=fQS
theorem JT(F:Fun K "moves_in" "moves_in" (top 62) f fd)(ON:mg "sorted"=none)(L6:mg "set"=none)(c1:Cal P w K mg base 1 "sacks_by_claim" ["gifts"] Gf):FnOk P w K mg base CX0 2 f fd ["year","before","after"] JS:=by
 refine F.ok scMi (fun vs H Q E h=>?_) (fun ar A outer s H vs Q E hr h=>?_)
 .obtain⟨y,l1,x1,A,l2,x2,B,rfl,_⟩:=h;rfl
 .obtain⟨y,l1,x1,A1,l2,x2,B1,rfl,e1,el1,FV,OO,e2,el2,Bn,OP,q⟩:=h
  refine⟨_,aB (pss 3 scMi.nd (aG c1 hr (au (pv 1) ao)))
   (aB (pss 4 scMi.nd (aG c1 hr (au (pv 2) ao)))
   (aB (pss 5 scMi.nd (dw ao))
   (aB (cH zBb rfl (cF (aO (nQ rfl) rfl ON boot_sorted (aP (aW (Hv (U:=St.UK) (iH hr) St.uk_inj) (cu (pM (U:=St.UK) St.uk_inj) rfl L6 boot_set (au (pv 3) ao)) (cu (pM (U:=St.UK) St.uk_inj) rfl L6 boot_set (au (pv 4) ao))) ao))) (pgn 6 scMi.nd)
    (aB (pss 7 scMi.nd (bB (aP (tL (iH hr) (pv 3) (pv 6) az (by constructor<;>rfl)) (aP (tL (iH hr) (pv 4) (pv 6) az (by constructor<;>rfl)) ao))))
    (aD (bZ (aY FP (pX bC (pv 7) az) (pX bC (pv 7) az) (bx _))
     (aD (cY (wB zBg zBf zBe iu (pv 5) (au (aW qy (aW qy (bB (au (pv 0) ao)) (pv 6)) (pv 7)) ao)))) bf))))
   (aD (aQ (pv 5)))))),?_⟩
  refine cT fun c_ ck=>?_;refine aR ?_;refine⟨_,rfl,l1,x1,A1,rfl,e1,el1,fun r hr=>(FV r hr).1,OO,fun d1 H1 s1 n1 wq=>?_⟩;refine aM ?_;refine ck _ _ ?_;clear ck c_
  try dsimp only
  refine cT fun c_ ck=>?_;refine aR ?_;refine⟨_,rfl,l2,x2,B1,rfl,s1 _ _ e2,el2.same s1,fun r hr=>(Bn r hr).1,OP,fun d2 H2 s2 n2 wt=>?_⟩;refine aM ?_;refine ck _ _ ?_;clear ck c_
  try dsimp only
  refine cT fun c_ ck=>?_;refine aR ?_;refine⟨zL,fun lm nI=>?_⟩;refine aM ?_;refine ck _ _ ?_;clear ck c_
  try dsimp only
  have k3:Same H (upd H2 lm (.lst [])):=(s1.trans s2).trans (Same.upd nI);have tP:=Same.upd (o:=.lst []) nI _ _ (s2 _ _ wq);have tS:=Same.upd (o:=.lst []) nI _ _ wt;have kX:=aj (H:=H2) (a:=lm) (o:=.lst []);have Bz:H lm=none:=(s1.trans s2).free nI;generalize upd H2 lm (.lst [])=H3 at k3 tP tS kX⊢;clear s1 s2 wq wt nI
  have uk:∀{R:List (List Int)},(∀r∈R,kOk 10 20 r)->∀p∈dU R,St.UK p.1/\∃r:List Int,p.1=r.map Sum.inl/\r≠[]:=fun{R} ok p hp=>by
   obtain⟨r,hr,e⟩:=uN R p hp;rw[e];exact⟨JQ (Nat.le_refl _) (Int.le_refl _) (ok r hr),[fl r 0,fl r 1,fl r 2],rfl,by simp⟩
  have len:∀{R:List (List Int)},(∀r∈R,kOk 10 20 r)->(dU R).length<=1600:=fun{R} ok=>by
   have:=Cv (Fl R) fun k hk=>by
    obtain⟨p,hp,rfl⟩:=zA5.mp hk;exact(uk ok p hp).1
   rwa [zA1]at this
  refine cT fun c_ ck=>?_;have z1:=len FV;have z2:=len Bn
  have rws:∀{Ha Hb:Hp} {L:List (List Key×Addr)},Same Ha Hb->Rws St.UK Ha L->Rws St.UK Hb L:=fun s r x hx=>by
   obtain⟨a,b,c⟩:=r x hx;exact⟨a,b,s _ _ c⟩
  have ul:∀(L M:List (List Key×Addr)),(uq L M).length<=L.length+M.length:=fun L M=>by
   unfold uq;rw[zA2];exact Nat.add_le_add_left (List.length_filter_le _ _) _
  have ll:∀{L:List (List Key×Addr)} {R:List (List Int)},L.map (·.1)=(dU R).map (·.1)->L.length=(dU R).length:=fun h=>by
   have:=congrArg List.length h
   rwa [zA1,zA1]at this
  refine⟨_,rfl,d1,dU A1,rfl,tP,uk FV,Zz,fun N1 L1 o1 m1 i1 k1 r1=>⟨_,rfl,d2,dU B1,rfl,Same.upd m1 _ _ tS,uk Bn,Zz,fun N2 C4 o2 m2 i2 k2 r2=>?_⟩⟩;have s4:=Same.upd (o:=o1) m1;have s5:=Same.upd (o:=o2) m2;have a1:=ll k1;have a2:=ll k2;have OQ:=ul L1 C4;refine⟨N1,N2,L1,C4,o1,o2,rfl,rfl,fun z=>?_,s5 _ _ aj,i1,aj,i2,rws (s4.trans s5) r1,rws s5 r2,Zz,fun N3 o3 m3 i3=>?_⟩
  .rw[<-z,aj]at m2;cases m2
  have s6:=Same.upd (o:=o3) m3
  have rU:∀x∈uq L1 C4,∃q,(q∈A1\/q∈B1)/\x.1=bF q/\upd (upd (upd H3 N1 o1) N2 o2) N3 o3 x.2=some (.tup (x.1.map kV)):=fun x hx=>by
   have mem:∀{L:List (List Key×Addr)} {R:List (List Int)},L.map (·.1)=(dU R).map (·.1)->x∈L->∃q∈R,x.1=bF q:=fun{L R} h hx=>by
    have hm:x.1∈(dU R).map (·.1):=by rw[<-h];exact zA5.mpr ⟨x,hx,rfl⟩
    obtain⟨p,hp,e⟩:=zA5.mp hm;obtain⟨q,hq,e2⟩:=uN R p hp;exact⟨q,hq,e.symm.trans e2⟩
   rcases zA6.mp hx with z|z
   .obtain⟨q,hq,e⟩:=mem k1 z;exact⟨q,.inl hq,e,s6 _ _ (s5 _ _ (s4 _ _ (r1 x z).2.2))⟩
   .have z:=(zAq.mp z).1;obtain⟨q,hq,e⟩:=mem k2 z;exact⟨q,.inr hq,e,s6 _ _ (s5 _ _ (r2 x z).2.2)⟩
  refine⟨N3,uq L1 C4,o3,rkK,rfl,aj,i3,by rw[sizeLine_eq];lia,fun x hx=>?_,fun lq l' row nq pm pw iS=>?_⟩
  .obtain⟨q,hq,e,et⟩:=rU x hx;refine⟨?_,?_,et⟩<;>rw[e]
   .rfl
   .rw[Cw];simp
  have FX:∀a∈l',∃q,(q∈A1\/q∈B1)/\row a=[fl q 0,fl q 1,fl q 2]:=fun a ha=>by
   obtain⟨x,hx,e⟩:=zA5.mp (pm.mem_iff.mp (zA5.mpr ⟨a,ha,rfl⟩));obtain⟨q,hq,e2,_⟩:=rU x hx;exact⟨q,hq,by rw[<-e,e2,Cw]⟩
  have lN:l'.length<=3200:=by
   have:=pm.length_eq;rw[zA1,zA1]at this;lia
  have s7:=Same.upd (o:=.lst (l'.map V.ref)) nq;have k7:=(k3.trans (s4.trans s5)).trans (s6.trans s7);have f3:∀{b o},H3 b=some o->upd (upd (upd (upd H3 N1 o1) N2 o2) N3 o3) lq (.lst (l'.map V.ref)) b=some o:=fun e=>s7 _ _ (s6 _ _ (s5 _ _ (s4 _ _ e)));have wq:=f3 tP;have wt:=f3 tS;have em:=f3 kX
  have OR:lq≠lm:=fun z=>by
   have:=s6 _ _ (s5 _ _ (s4 _ _ kX));rw[<-z,nq]at this;cases this
  have et:∀a∈l',upd (upd (upd (upd H3 N1 o1) N2 o2) N3 o3) lq (.lst (l'.map V.ref)) a=some (.tup ((row a).map V.int)):=fun a ha=>s7 _ _ (iS a ha);have eq:=aj (H:=upd (upd (upd H3 N1 o1) N2 o2) N3 o3) (a:=lq) (o:=.lst (l'.map V.ref));refine⟨lq,rfl,⟨_,SqL.of eq⟩,?_⟩;generalize upd (upd (upd (upd H3 N1 o1) N2 o2) N3 o3) lq (.lst (l'.map V.ref))=H7 at k7 wq wt em et eq⊢;clear s4 s5 s6 s7 f3 rU nq iS pm r1 r2 k1 k2 m1 m2 m3 a1 a2 OQ;refine gJ (xs:=l'.map V.ref) (fun i σ Hc=>Xe4 fun x6 x7 xs R=>Xa6 (σ=[some (.int y),some (.ref l1),some (.ref l2),some (.ref d1),some (.ref d2),some (.ref lm),x6,x7]) ((∀b o,b≠lm->H7 b=some o->Hc b=some o)) (Hc lm=some (.lst xs)) (Els Hc xs R) (R.length<=i) (∀r∈R,Ih y A1 B1 r)) ?_ ?_ ?_ ?_
  .exact⟨none,none,[],[],rfl,fun _ _ _ e=>e,em,Els.nil,zA3 _,fun r hr=>(by cases hr)⟩
  .rintro i σ Hc hi ⟨x6,x7,xs,R,rfl,kp,_⟩;exact SqL.of (kp _ _ OR eq)
  .rintro i x σ Hc hx ⟨x6,x7,xs,R,rfl,kp,nK,cq,lR,mm⟩;rw[zAb]at hx;obtain⟨a,ha,rfl⟩:=Option.map_eq_some_iff.mp hx;have hi:=(zAa.mp ha).1;have am:=zB4 ha;obtain⟨k,hk,er⟩:=FX a am;have eta:=et a am;rw[er]at eta
   have nm:∀{b:Addr} {o:HO},H7 b=some o->o≠.lst []->b≠lm:=fun{b o} e n z=>by
    rw[z,em]at e;exact n (zAl e).symm
   have ta:=kp _ _ (nm eta Zy) eta;have t1:=kp _ _ (nm wq Zy) wq;have t2:=kp _ _ (nm wt Zy) wt;refine aM (aF ?_);refine aR ?_;refine⟨_,rfl,d1,rfl,.inr ⟨_,.inl t1⟩,_,rfl,_,DGet.t (k:=bF k) t1 ta,?_⟩;rw[Cy];refine⟨_,rfl,d2,rfl,.inr ⟨_,.inl t2⟩,_,rfl,_,DGet.t (k:=bF k) t2 ta,?_⟩;rw[Cy];refine⟨by show 2<=sizeLine;decide,fun t7 h7=>?_⟩;refine aM ?_;dsimp only;have u7:=Same.upd (o:=.tup [V.int (gvK A1 (bF k)),V.int (gvK B1 (bF k))]) h7;have e7:=aj (H:=Hc) (a:=t7) (o:=.tup [V.int (gvK A1 (bF k)),V.int (gvK B1 (bF k))]);have L7:=u7 _ _ ta;have lI:=u7 _ _ nK;have pT:=cq.same u7;have FY:∀b o,b≠lm->H7 b=some o->upd Hc t7 (.tup [V.int (gvK A1 (bF k)),V.int (gvK B1 (bF k))]) b=some o:=fun b o n e=>u7 _ _ (kp b o n e);generalize upd Hc t7 (.tup [V.int (gvK A1 (bF k)),V.int (gvK B1 (bF k))])=Hd at e7 L7 lI pT FY⊢;refine⟨_,rfl,t7,_,0,.int (gvK A1 (bF k)),rfl,rfl,SqT.of e7,rfl,_,rfl,t7,_,1,.int (gvK B1 (bF k)),rfl,rfl,SqT.of e7,rfl,rfl,_,rfl,?_⟩;by_cases e:gvK A1 (bF k)=gvK B1 (bF k)
   .rw[show(!decide (V.int (gvK A1 (bF k))=V.int (gvK B1 (bF k))))=false by rw[e];simp];exact bD ⟨_,_,xs,R,rfl,FY,lI,pT,Zz,mm⟩
   .rw[show(!decide (V.int (gvK A1 (bF k))=V.int (gvK B1 (bF k))))=true by simp[e]];refine bQ ?_;refine⟨_,rfl,.inl ⟨rfl,_,SqL.of lI⟩,_,rfl,by show 1<=sizeLine;decide,fun p1 OS=>?_⟩;have v1:=Same.upd (o:=.tup [.int y]) OS;refine⟨_,rfl,p1,a,_,_,rfl,rfl,SqT.of aj,SqT.of (v1 _ _ L7),by simp,by show 4<=sizeLine;decide,fun z=>(by cases z),fun _ p2 md=>?_⟩;have v2:=Same.upd (o:=.tup ([.int y]++[fl k 0,fl k 1,fl k 2].map V.int)) md;refine⟨_,rfl,p2,t7,_,_,rfl,rfl,SqT.of aj,SqT.of (v2 _ _ (v1 _ _ e7)),by simp,by show 6<=sizeLine;decide,fun z=>(by cases z),fun _ p3 OT=>?_⟩;have v3:=Same.upd (o:=.tup (([.int y]++[fl k 0,fl k 1,fl k 2].map V.int)++[V.int (gvK A1 (bF k)),V.int (gvK B1 (bF k))])) OT;have v:=(v1.trans v2).trans v3;have e9:=aj (H:=upd (upd Hd p1 (.tup [.int y])) p2 (.tup ([.int y]++[fl k 0,fl k 1,fl k 2].map V.int))) (a:=p3) (o:=.tup (([.int y]++[fl k 0,fl k 1,fl k 2].map V.int)++[V.int (gvK A1 (bF k)),V.int (gvK B1 (bF k))]));refine⟨lm,xs,.ref p3,rfl,rfl,v _ _ lI,?_,?_⟩
    .rw[cq.1,sizeLine_eq];lia
    generalize upd (upd (upd Hd p1 (.tup [.int y])) p2 (.tup ([.int y]++[fl k 0,fl k 1,fl k 2].map V.int))) p3 (.tup (([.int y]++[fl k 0,fl k 1,fl k 2].map V.int)++[V.int (gvK A1 (bF k)),V.int (gvK B1 (bF k))]))=He at v e9⊢
    have tp:∀{o:HO} b z,He b=some (.tup z)->upd He lm o b=some (.tup z):=fun b z e=>by
     rw[aA fun w=>by rw[w,v _ _ lI]at e;cases e];exact e
    refine⟨_,_,xs++[.ref p3],R++[[y,fl k 0,fl k 1,fl k 2,gvK A1 (bF k),gvK B1 (bF k)]],rfl,fun b o n e=>?_,aj,((pT.same v).app (Els.one e9)).keep tp,?_,fun r hr=>?_⟩
    .rw[aA n];exact v _ _ (FY b o n e)
    .rw[zA2];show R.length+1<=i+1;lia
    .rcases zA6.mp hr with z|z
     .exact mm r z
     .rw[List.mem_singleton.mp z];exact⟨k,hk,rfl,e⟩
  .rintro σ Hc ⟨x6,x7,xs,R,rfl,kp,nK,cq,lR,mm⟩;rw[zA1]at lR;refine ck _ _ ?_;clear ck c_;refine⟨_,rfl,q lm xs R Hc (fun b o e=>kp b o (aC e Bz) (k7 _ _ e)) Bz nK cq Zz mm⟩
abbrev ky(n y:Int):List Key:=[.inl n,.inl y]
theorem sE{n y n' y':Int}(h:ky n y=ky n' y'):n=n'/\y=y':=by
 injection h with h1 h2;injection h2 with h2 _;injection h1 with h1;injection h2 with h2;exact⟨h1,h2⟩
def dom(ps:List (List Int))(n y:Int):Prop:=0<=n/\n<ps.length/\fl (ps.getD n.toNat []) 2<=y/\y<=fl (ps.getD n.toNat []) 3
def hl(ps ss:List (List Int))(n y:Int):List Int:=bI (ps.getD n.toNat []) ss n y
structure Lts(fo:Addr)(H0 H:Hp)(dm:Int->Int->Prop)(f:Int->Int->List Int)(Zs:List (List Key×V)):Prop where
 sm:Same H0 H
 nf:H0 fo=none
 e:H fo=some (.dT Zs)
 g:∀n y,dm n y->∃d,cB Zs (ky n y)=some (.ref d)/\H d=some (.lst ((f n y).map V.int))
 no:∀n y,¬dm n y->cB Zs (ky n y)=none
 i:∀n y n' y' d,cB Zs (ky n y)=some (.ref d)->cB Zs (ky n' y')=some (.ref d)->n=n'/\y=y'
 fr:∀n y d,cB Zs (ky n y)=some (.ref d)->H0 d=none/\d≠fo
 kd:(Zs.map (·.1)).Nodup
 kk:∀k∈Zs.map (·.1),∃n y,k=ky n y/\dm n y
theorem Fo{Zs:List (List Key×V)}{k:List Key}(h:cB Zs k=none):¬k∈Zs.map (·.1):=fun hk=>by
 obtain⟨p,hp,e⟩:=zA5.mp hk
 have:(cB Zs k).isSome=true:=by
  rw[<-eV,List.any_eq_true];exact⟨p,hp,zAu e⟩
 rw[h]at this;cases this
theorem Cz{Zs:List (List Key×V)}{k:List Key}{v:V}(hn:(Zs.map (·.1)).Nodup)(h:cB Zs k=none):((putK Zs k v).map (·.1)).Nodup:=by
 rw[lF _ h,zA4,List.nodup_append];refine⟨hn,Zy,fun a ha b hb z=>?_⟩;rw[List.mem_singleton.mp hb]at z;have z':a=k:=z;rw[z']at ha;exact Fo h ha
section
variable{fo:Addr}{H0 H H':Hp}{dm:Int->Int->Prop}{f f':Int->Int->List Int}{Zs:List (List Key×V)}
theorem Lts.same(g:Lts fo H0 H dm f Zs)(s:Same H H'):Lts fo H0 H' dm f Zs:=
 ⟨g.sm.trans s,g.nf,s _ _ g.e,fun n y h=>by
  obtain⟨d,e1,e2⟩:=g.g n y h
  exact⟨d,e1,s _ _ e2⟩,g.no,g.i,g.fr,g.kd,g.kk⟩
theorem Lts.wr{d:Addr}{N Y:Int}{L:List Int}(g:Lts fo H0 H dm f Zs)(hv:cB Zs (ky N Y)=some (.ref d))(h1:f' N Y=L)(h2:∀n y,dm n y->¬(n=N/\y=Y)->f' n y=f n y):Lts fo H0 (upd H d (.lst (L.map V.int))) dm f' Zs:=by
 obtain⟨w1,w2⟩:=g.fr _ _ _ hv;refine⟨fun c o e=>by rw[aA (aC e w1)];exact g.sm _ _ e,g.nf,by rw[aA w2.symm];exact g.e,fun n y hd=>?_,g.no,g.i,g.fr,g.kd,g.kk⟩;by_cases hk:n=N/\y=Y
 .obtain⟨rfl,rfl⟩:=hk;exact⟨d,hv,by rw[aj,h1]⟩
 .obtain⟨d',q1,q2⟩:=g.g n y hd;have nd:d'≠d:=fun z=>hk (g.i _ _ _ _ _ (z▸q1) hv);exact⟨d',q1,by rw[aA nd,h2 n y hd hk];exact q2⟩
theorem Lts.cast(g:Lts fo H0 H dm f Zs)(h:∀n y,dm n y->f' n y=f n y):Lts fo H0 H dm f' Zs:=
 ⟨g.sm,g.nf,g.e,fun n y hd=>by
  obtain⟨d,e1,e2⟩:=g.g n y hd
  exact⟨d,e1,by rw[h n y hd];exact e2⟩,g.no,g.i,g.fr,g.kd,g.kk⟩
theorem Lts.put{d:Addr}{N Y:Int}{L:List Int}{Ma:Int->Int->Prop}(g:Lts fo H0 H dm f Zs)(sH:Same H H')(BA:H d=none)(ed:H' d=some (.lst (L.map V.int)))(hL:f N Y=L)(hn:¬dm N Y)(BB:∀n y,Ma n y↔(dm n y\/(n=N/\y=Y))):Lts fo H0 (upd H' fo (.dT (putK Zs (ky N Y) (.ref d)))) Ma f (putK Zs (ky N Y) (.ref d)):=by
 have Mb:d≠fo:=fun z=>by rw[z,g.e]at BA;cases BA
 have kp:∀b o,b≠fo->H b=some o->upd H' fo (.dT (putK Zs (ky N Y) (.ref d))) b=some o:=fun b o n e=>by
  rw[aA n];exact sH _ _ e
 have nn:=g.no N Y hn;refine⟨fun b o e=>kp b o (aC e g.nf) (g.sm _ _ e),g.nf,aj,fun n y z=>?_,fun n y z=>?_,fun n y n' y' d' z z'=>?_,fun n y d' z=>?_,Cz g.kd nn,fun k hk=>?_⟩
 .by_cases hk:ky n y=ky N Y
  .obtain⟨rfl,rfl⟩:=sE hk;exact⟨d,by rw[fQ,zAz rfl],by rw[aA Mb,hL];exact ed⟩
  .have hd:=((BB n y).mp z).resolve_right fun w=>hk (by rw[w.1,w.2]);obtain⟨d',q1,q2⟩:=g.g n y hd;exact⟨d',by rw[fQ,zAx hk];exact q1,kp _ _ (g.fr n y d' q1).2 q2⟩
 .have hk:¬ky n y=ky N Y:=fun w=>z ((BB n y).mpr (.inr (sE w)));rw[fQ,zAx hk];exact g.no n y fun w=>z ((BB n y).mpr (.inl w))
 .have key:∀{n y},cB Zs (ky n y)=some (.ref d)->False:=fun{n y} w=>by
   by_cases hd:dm n y
   .obtain⟨TV,q1,q2⟩:=g.g n y hd;rw[w]at q1;cases q1;rw[q2]at BA;cases BA
   .rw[g.no n y hd]at w;cases w
  rw[fQ]at z z';by_cases h1:ky n y=ky N Y<;>by_cases h2:ky n' y'=ky N Y
  .obtain⟨rfl,rfl⟩:=sE h1;obtain⟨rfl,rfl⟩:=sE h2;exact⟨rfl,rfl⟩
  .rw[zAz h1]at z;rw[zAx h2]at z';cases z;exact(key z').elim
  .rw[zAx h1]at z;rw[zAz h2]at z';cases z';exact(key z).elim
  .rw[zAx h1]at z;rw[zAx h2]at z';exact g.i _ _ _ _ _ z z'
 .rw[fQ]at z;by_cases h1:ky n y=ky N Y
  .rw[zAz h1]at z;cases z;exact⟨g.sm.free BA,Mb⟩
  .rw[zAx h1]at z;exact g.fr n y d' z
 .rw[lF _ nn,zA4]at hk;rcases zA6.mp hk with z|z
  .obtain⟨n,y,a,b⟩:=g.kk k z;exact⟨n,y,a,(BB n y).mpr (.inl b)⟩
  .rw[List.mem_singleton.mp z];exact⟨N,Y,rfl,(BB N Y).mpr (.inr ⟨rfl,rfl⟩)⟩
end
inductive SpRowsI(vs:List V)(H:Hp)(Q:VK):Prop
 |mk:∀ap xp ps af xs ss,(vs=[.ref ap,.ref af])->(RowsAt H ap xp ps)->(ps.length<=10)->((∀r∈ps,okP r))->(RowsAt H af xs ss)->(ss.length<=100)->((∀s∈ss,s.length=5))->(∀t fo H',Same H H'->H' t=some (.tup [.ref fo,unV (un ps ss)])->(un ps ss=none->∃Zs,Lts fo H H' (dom ps) (hl ps ss) Zs)->Q (.ref t) H')->SpRowsI  vs H Q
def spRows:Sp:=fun vs H Q _=>SpRowsI  vs H Q
def CG(p:List Int):List Int:=(List.range 8).map fun i=>fl p 4*(if((i:Nat):Int)=fl p 0 then 1 else 0)
theorem Fp{ps:List (List Int)}{n y:Int}(op:okP (ps.getD n.toNat []))(hy:fl (ps.getD n.toNat []) 2<=y/\y<=fl (ps.getD n.toNat []) 3):hl ps [] n y=CG (ps.getD n.toNat []):=by
 unfold hl bI;rw[zAz hy];show base0 (ps.getD n.toNat [])=CG _;generalize ps.getD n.toNat []=p at op;obtain⟨_,⟨a,b⟩,_⟩:=op;unfold base0 CG
 obtain⟨h,eh⟩:∃h:Nat,fl p 0=h:=⟨(fl p 0).toNat,Zz⟩
 rw[eh,zAi];have hb:h<8:=Zz
 generalize fl p 4=k;have:h=0\/h=1\/h=2\/h=3\/h=4\/h=5\/h=6\/h=7:=Zz
 rcases this with rfl|rfl|rfl|rfl|rfl|rfl|rfl|rfl<;>simp[List.range_succ,List.replicate]
theorem CJ(ps ss:List (List Int))(n y:Int):(hl ps ss n y).length=8:=dY _ _ _ _
theorem Fq{ps ss:List (List Int)}{s:List Int}{n y:Int}(hd:dom ps n y):hl ps (ss++[s]) n y=hstep n y (hl ps ss n y) s:=by
 unfold hl bI;rw[zAz hd.2.2,zAz hd.2.2,List.foldl_append];rfl
theorem holds_iff{ps sa:List (List Int)}{s:List Int}{n a b k y:Int}(ea:fl s 0=n)(eb:fl s 1=a)(ec:fl s 2=b)(ed:fl s 3=k)(ee:fl s 4=y):bT ps sa s=true↔(dom ps n y/\(0<=a/\a<8)/\(0<=b/\b<8)/\a≠b/\(1<=k/\k<=99))/\∀z,dom ps n z->y<=z->k<=(hl ps sa n z).getD a.toNat 0:=by
 have em:∀{u v z:Int},z∈years u v↔u<=z/\z<=v:=fun{u v z}=>by
  unfold years;rw[zA5];constructor
  .rintro⟨i,hi,rfl⟩;have:=List.mem_range.mp hi;lia
  .rintro⟨h1,h2⟩;exact⟨(z-u).toNat,List.mem_range.mpr Zz,Zz⟩
 unfold bT nZ jU;rw[ea,eb,ec,ed,ee];simp only[Bool.and_eq_true,Zp,Bool.not_eq_true',decide_eq_false_iff_not,List.all_eq_true];unfold dom;constructor
 .rintro⟨⟨h1,h2,h3,h4,h5,h6⟩,h7⟩;exact⟨⟨⟨h1.1,h1.2,h6.1,h6.2⟩,h2,h3,h4,h5⟩,fun z hz hy=>h7 z (em.mpr ⟨hy,hz.2.2.2⟩)⟩
 .rintro⟨⟨h1,h2,h3,h4,h5⟩,h7⟩
  exact⟨⟨⟨h1.1,h1.2.1⟩,h2,h3,h4,h5,h1.2.2⟩,fun z hz=>by
   obtain⟨q1,q2⟩:=em.mp hz
   exact h7 z ⟨h1.1,h1.2.1,Zz,q2⟩ q1⟩
def yk(n y:Int)(p:List Key×V):Option Int:=match p.1 with
 |[.inl n',.inl z]=>if n'=n/\y<=z then some z else none
 |_=>none
theorem qi:bootBuiltins "min"=some (.builtin "min"):=by decide +kernel
theorem yU:bootBuiltins "max"=some (.builtin "max"):=by decide +kernel
theorem KN:(["_law_one","_law_sacks","_law_holder"]:List Str).Nodup:=by decide +kernel
theorem JV:(["_law_number_of","_law_one","_law_number","_law_year"]:List Str).Nodup:=by decide +kernel
theorem KQ:(["_law_one","_law_rows_here","_law_number","_law_seller"]:List Str).Nodup:=by decide +kernel
theorem scX:FnScope ["_law_promises","_law_sales","_law_rows_here","_law_number","_law_holder","_law_sort","_law_first","_law_last","_law_sacks","_law_price","_law_year","_law_at","_law_seller","_law_buyer","_law_years","_law_least","_law_one"] ["_law_promises","_law_sales"] (aJ (top 69)):=fQS
theorem Ft(F:Fun K "_law_rows" "_law_rows" (top 69) f fd)(T:Mg mg)(Te:mg "enumerate"=none)(Tr:mg "range"=none)(Tn:mg "min"=none)(Tm:mg "max"=none):FnOk P w K mg base CX0 1 f fd ["_law_promises","_law_sales"] spRows:=by
 refine F.ok scX (fun vs H Q E h=>?_) (fun ar A outer s H vs Q E hr h=>?_)
 .obtain⟨ap,xp,ps,af,xs,ss,rfl,_⟩:=h;rfl
 .obtain⟨ap,xp,ps,af,xs,ss,rfl,rp,lp,okp,rs,ls,h5,q⟩:=h
  refine K91P.ok_b (aN (qQ (i:=2) scX.nd rfl (Or.inr rfl) ⟨zF⟩)
   (aN ⟨cH zBb rfl (ZT.pi_enum true rfl Te (au (pv 0) ao)) (bL rfl (aq (bw (i:=3) scX.nd rfl (Or.inr rfl)) (aq (bL rfl (aq (bw (i:=4) scX.nd rfl (Or.inr rfl)) (aq (pgn 5 scX.nd) (aq (pgn 6 scX.nd)
     (aq (pgn 7 scX.nd) (aq (bw (i:=8) scX.nd rfl (Or.inr rfl)) (aq (pgn 9 scX.nd) aV))))))) aV)))
    (jJ (cG ⟨cH zBb rfl (oF rfl Tr (au (pv 6) (au (aW cj (pv 7) az) ao))) (bw (i:=10) scX.nd rfl (Or.inr rfl))
     (jJ (cG ⟨Dt (iH hr) (pv 2) (bB (au (pv 3) (au (pv 10) ao))) (bK ["_law_one","_law_sacks","_law_holder"] [none,some 8,some 4] rfl (cO rfl Tr (au az ao)) (fun C fp Zt s₂ H₂=>⟨pgn 0 KN,bH,aW gK (pv 1) (cu xX rfl T.int boot_int (au (jV kE (pv 0) (pv 2) (bx _)) ao))⟩) (fun C=>cI (cI trivial)) ⟨rfl,rfl,rfl,rfl⟩) rfl⟩))⟩))⟩
   (aN ⟨cH zBb rfl (ZT.pi_enum true rfl Te (au (pv 1) ao)) (bL rfl (aq (pgn 11 scX.nd) (aq (bL rfl (aq (bw (i:=3) scX.nd rfl (Or.inr rfl)) (aq (bw (i:=12) scX.nd rfl (Or.inr rfl)) (aq (pgn 13 scX.nd)
     (aq (bw (i:=8) scX.nd rfl (Or.inr rfl)) (aq (bw (i:=10) scX.nd rfl (Or.inr rfl)) aV)))))) aV)))
    (jJ (aN ⟨bZ (PW.pt (km (aY kE (pv 12) (pv 13) (bx _)) (km (aY gB (aO (fO rfl) rfl Tn qi (au (pv 12) (au (pv 13) ao))) az (bx _)) (km (aY sU (aO (ir rfl) rfl Tm yU (au (pv 12) (au (pv 13) ao))) az (bx _)) (qt (Gp (yl (iH hr) (bB (au (pv 3) (au (pv 10) ao))) (pv 2)))))))) (aD (aQ (bB (au (pv 2) (au (pv 11) ao))))) bf⟩
    (aN ⟨HB (iy (i:=14) (g:=j6 K 2 (bG (bu 0) (bG (bu 1) jo))) ["_law_number_of","_law_one","_law_number","_law_year"] [none,none,some 3,some 10] rfl scX.nd rfl (Or.inl rfl) (Eg (pv 2)) (fun C fp Zt s₂ H₂=>⟨cR rfl rfl (aq (pgn 0 JV) (aq (pgn 1 JV) aV)),iw (PW.pt (yZ (aY kE (pv 0) (pv 2) (bx _)) (vY (aY zm (pv 1) (pv 3) (bx _))))),pv 1⟩) (fun C=>cI (cI trivial)) ⟨rfl,rfl,rfl,rfl⟩)⟩
    (aN (iG 15 scX.nd ⟨aO (nP rfl) rfl Tn qi (aP (bK ["_law_one","_law_rows_here","_law_number","_law_seller"] [none,some 2,some 3,some 12] rfl (cF (pv 14)) (fun C fp Zt s₂ H₂=>⟨pgn 0 KQ,bH,pX (uB (K:=K) rfl) (j8 (iH hr) (pv 1) (bB (au (pv 2) (au (pv 0) ao))) (fun _ _=>rfl)) (pv 3)⟩) (fun C=>cI (cI (cI trivial))) ⟨rfl,rfl,rfl,rfl⟩) ao)⟩)
    (aN ⟨bZ (PW.pt (km (cX (kI bW bW az (pv 8) az)) (qt (aY gB (pv 15) (pv 8) (bx _))))) (aD (aQ (bB (au (pv 2) (au (pv 11) ao))))) bf⟩
    (cG ⟨cH zBb rfl (cF (pv 14)) (pgn 16 scX.nd)
     (jJ (aN ⟨cA (aW fG (pX bM (j8 (iH hr) (pv 2) (bB (au (pv 3) (au (pv 16) ao))) (fun _ _=>rfl)) (pv 12)) (pv 8)) (jq (j8 (iH hr) (pv 2) (bB (au (pv 3) (au (pv 16) ao))) (fun _ _=>rfl)) (pv 12) set_list)⟩
     (cG ⟨cA (aW cj (pX bM (j8 (iH hr) (pv 2) (bB (au (pv 3) (au (pv 16) ao))) (fun _ _=>rfl)) (pv 13)) (pv 8)) (jq (j8 (iH hr) (pv 2) (bB (au (pv 3) (au (pv 16) ao))) (fun _ _=>rfl)) (pv 13) set_list)⟩)))⟩))))))⟩
   (cG (qR ⟨bB (au (pv 2) (au qm ao))⟩))))) ?_
  refine aF (aR ?_);refine fun fo Mc=>?_;refine aM ?_;dsimp only
  have d0:Lts fo H (upd H fo (.dT [])) (fun _ _=>False) (hl ps []) []:=⟨Same.upd Mc,Mc,aj,fun _ _ z=>z.elim,fun _ _ _=>rfl,fun _ _ _ _ _ z=>(by cases z),fun _ _ _ z=>(by cases z),List.nodup_nil,fun k hk=>(by cases hk)⟩
  generalize upd H fo (.dT [])=H1 at d0⊢;refine aF ?_;refine⟨_,rfl,ap,xp,rfl,SqT.of (d0.sm _ _ rp.e),?_⟩;refine ZT.for_enum true (xs:=xp) (fun i σ Hc=>Xe15 fun x3 x4 x5 x6 x7 x8 x9 fw eR eW e8 fe ff gz Zs=>Xa3 (σ=[some (.ref ap),some (.ref af),some (.ref fo),x3,x4,x5,x6,x7,x8,x9,fw,eR,eW,e8,fe,ff,gz]) (Lts fo H Hc (fun n y=>dom ps n y/\n<i) (hl ps []) Zs) (Zs.length<=20*i)) ?_ ?_ ?_ ?_
  .exact⟨none,none,none,none,none,none,none,none,none,none,none,none,none,none,[],rfl,⟨d0.sm,d0.nf,d0.e,fun n y z=>by
    have:=z.1.1;have:=z.2
    lia,fun n y _=>rfl,d0.i,d0.fr,d0.kd,fun k hk=>(by cases hk)⟩,zA3 _⟩
  .rintro i σ Hc hi ⟨x3,x4,x5,x6,x7,x8,x9,fw,eR,eW,e8,fe,ff,gz,Zs,rfl,dt,lk⟩;exact SqT.of (dt.sm _ _ rp.e)
  .rintro i x σ Hc T0 hx ⟨x3,x4,x5,x6,x7,x8,x9,fw,eR,eW,e8,fe,ff,gz,Zs,rfl,dt,lk⟩ nT
   have hi:i<ps.length:=by
    have:=(zAa.mp hx).1;rw[rp.l]at this;exact this
   obtain⟨tr,h8,fq⟩:=rp.g i ps[i] (zA0 hi)
   have:x=.ref tr:=by
    rw[hx]at h8;exact zAl h8
   subst this;have op:=okp ps[i] (zAh hi)
   have ep:ps.getD ((i:Int)).toNat []=ps[i]:=by
    rw[zAi];exact getD_get hi
   have dT:=dt.same (Same.upd (o:=.tup [V.int i,V.ref tr]) nT);generalize TX:ps[i]=p at fq op ep;have wx:=dT.sm _ _ fq;rw[six_row op.1]at wx;have OU:=op;obtain⟨_,⟨a1,a2⟩,_,⟨c1,c2,c3⟩,⟨e1,e2⟩,_⟩:=op;refine⟨T0,_,rfl,SqT.of aj,rfl,_,_,rfl,_,_,rfl,?_⟩;refine⟨tr,_,rfl,SqT.of wx,rfl,_,_,rfl,_,_,rfl,_,_,rfl,_,_,rfl,_,_,rfl,_,_,rfl,rfl,rfl,?_⟩;refine yL fun De BC=>?_;refine⟨_,rfl,_,rfl,_,_,rfl,rfl,fl p 2,fl p 3+1,rfl,⟨Zz,Zz,Zz,Zz⟩,?_⟩;generalize upd Hc T0 (.tup [V.int i,V.ref tr])=H2 at dT⊢;refine dW (lo:=fl p 2) (n:=(fl p 3+1-fl p 2).toNat) (fun j σ Hj=>∃fw Zs,σ=[some (.ref ap),some (.ref af),some (.ref fo),some (.int i),some (.int (fl p 0)),some (.int (fl p 1)),some (.int (fl p 2)),some (.int (fl p 3)),some (.int (fl p 4)),some (.int (fl p 5)),fw,eR,eW,e8,fe,ff,gz]/\Lts fo H Hj (fun n y=>dom ps n y/\(n<i\/(n=i/\y<fl p 2+j))) (hl ps []) Zs/\Zs.length<=20*i+j) ?_ ?_ ?_
   .refine⟨fw,Zs,rfl,⟨dT.sm,dT.nf,dT.e,fun n y z=>dT.g n y ⟨z.1,?_⟩,fun n y z=>dT.no n y fun z'=>z ⟨z'.1,.inl z'.2⟩,dT.i,dT.fr,dT.kd,fun k hk=>?_⟩,lk⟩
    .rcases z.2 with z2|⟨z2,z3⟩
     .exact z2
     .obtain⟨_,_,w1,_⟩:=z.1;rw[z2,ep]at w1;lia
    .obtain⟨n,y,a,b⟩:=dT.kk k hk;exact⟨n,y,a,b.1,.inl b.2⟩
   .rintro j σ Hj hj ⟨fw,Zs,rfl,dj,lj⟩;refine aM ?_;refine yL fun OV rb=>?_;refine⟨8,rfl,by decide,by decide,cz 8 (fun i ys σ Hc=>Hc=Hj/\(∃o1,σ=[o1,some (.int (fl p 4)),some (.int (fl p 0))])/\ys=(((List.range i).map fun i=>fl p 4*(if((i:Nat):Int)=fl p 0 then 1 else 0)):List Int).map V.int) ⟨rfl,⟨_,rfl⟩,rfl⟩ (by rw[sizeLine_eq];decide) ?_ ?_⟩
    .rintro i' ys σ Hc dP hy ⟨rfl,⟨o1,rfl⟩,rfl⟩;refine⟨dP,fun v H' y' R hR=>?_⟩;obtain⟨rfl,rfl⟩:=y';refine aM ?_;have z0:(0:Int)+(i':Int)=i':=Zz
     rw[z0];refine⟨_,rfl,_,rfl,_,rfl,rfl,.inr ⟨_,rfl,_,_,rfl,rfl,.inl ⟨Zz,Zz⟩,hR _ _ _ ⟨rfl,⟨_,rfl⟩,?_⟩⟩⟩;rw[List.range_succ,zA4,zA4];congr 1;show[V.int _]=[V.int _];congr 2;dsimp only;by_cases hh:(i':Int)=fl p 0
     .rw[zAz hh,zAu (by rw[hh])];rfl
     .rw[zAx hh,zB5 (fun z=>hh (by injection z))];rfl
    rintro ys σ Hc hy ⟨rfl,_,rfl⟩;refine⟨zA3 _,fun d hd=>?_⟩;have ud:=Same.upd (o:=.lst ((CG p).map V.int)) hd;have ed:=aj (H:=Hc) (a:=d) (o:=.lst ((CG p).map V.int));refine⟨_,rfl,_,rfl,_,rfl,zL,fun t ht=>⟨fo,_,rfl,DPut.t (k:=ky i (fl p 2+j)) (Same.upd ht _ _ (ud _ _ dj.e)) aj Zu,?_⟩⟩;have u2:=ud.updR (o:=.tup [V.int i,V.int (fl p 2+j)]) ht
    refine rb _ _ ⟨_,_,rfl,dj.put u2 hd (Same.upd ht _ _ ed) (Fp (by rw[ep];exact OU) (by rw[ep];lia) |>.trans (by rw[ep])) (fun z=>by
     rcases z.2 with z2|⟨z2,z3⟩<;>lia) (fun n y=>⟨fun z=>?_,fun z=>?_⟩),?_⟩
    .rcases z.2 with z2|⟨z2,z3⟩
     .exact .inl ⟨z.1,.inl z2⟩
     .by_cases gx:y=fl p 2+j
      .exact .inr ⟨z2,gx⟩
      .exact .inl ⟨z.1,.inr ⟨z2,Zz⟩⟩
    .rcases z with z|⟨rfl,rfl⟩
     .exact⟨z.1,z.2.imp id fun w=>⟨w.1,Zz⟩⟩
     .exact⟨⟨Zz,Zz,by rw[ep];lia,by rw[ep];lia⟩,.inr ⟨rfl,Zz⟩⟩
    .rw[lF _ (dj.no _ _ fun z=>by rcases z.2 with z2|⟨z2,z3⟩<;>lia),zA2];show Zs.length+1<=20*i+(j+1);lia
   .rintro σ Hj ⟨fw,Zs,rfl,dj,lj⟩;refine BC _ _ ⟨_,_,_,_,_,_,_,_,_,_,_,_,_,_,Zs,rfl,⟨dj.sm,dj.nf,dj.e,fun n y z=>dj.g n y ⟨z.1,?_⟩,fun n y z=>dj.no n y fun z'=>z ⟨z'.1,?_⟩,dj.i,dj.fr,dj.kd,fun k hk=>?_⟩,Zz⟩
    .by_cases hn:n<i
     .exact .inl hn
     .have Md:n=i:=Zz
      refine .inr ⟨Md,?_⟩;obtain⟨_,_,_,w⟩:=z.1;rw[Md,ep]at w;lia
    .rcases z'.2 with w|⟨w,_⟩<;>lia
    .obtain⟨n,y,a,b⟩:=dj.kk k hk;refine⟨n,y,a,b.1,?_⟩;rcases b.2 with w|⟨w,_⟩<;>lia
  rintro σ Hc ⟨x3,x4,x5,x6,x7,x8,x9,fw,eR,eW,e8,fe,ff,gz,kvs0,rfl,dt,lk⟩
  have F1:Lts fo H Hc (dom ps) (hl ps []) kvs0:=⟨dt.sm,dt.nf,dt.e,fun n y z=>dt.g n y ⟨z,by rw[rp.l];exact z.2.1⟩,fun n y z=>dt.no n y fun w=>z w.1,dt.i,dt.fr,dt.kd,fun k hk=>by
   obtain⟨n,y,a,b⟩:=dt.kk k hk
   exact⟨n,y,a,b.1⟩⟩
  have TY:kvs0.length<=200:=by
   rw[rp.l]at lk;lia
  clear dt lk d0;dsimp only;refine aF ?_;refine⟨_,rfl,af,xs,rfl,SqT.of (F1.sm _ _ rs.e),?_⟩;refine ZT.for_enum true (xs:=xs) (fun i σ Hc=>Xe14 fun x3 x4 x5 x6 x7 x8 x9 fw eR eW e8 fe ff gz=>Xa3 (σ=[some (.ref ap),some (.ref af),some (.ref fo),x3,x4,x5,x6,x7,x8,x9,fw,eR,eW,e8,fe,ff,gz]) (Lts fo H Hc (dom ps) (hl ps (ss.take i)) kvs0) (∀j,j<i->bT ps (ss.take j) (ss.getD j [])=true)) ?_ ?_ ?_ ?_
  .exact⟨_,_,_,_,_,_,_,_,_,_,_,_,_,_,rfl,by rw[List.take_zero];exact F1,fun j hj=>Zz⟩
  .rintro i σ Hc hi ⟨x3,x4,x5,x6,x7,x8,x9,fw,eR,eW,e8,fe,ff,gz,rfl,dt,hh⟩;exact SqT.of (dt.sm _ _ rs.e)
  .clear F1;rintro i x σ Hc T0 hx ⟨x3,x4,x5,x6,x7,x8,x9,fw,eR,eW,e8,fe,ff,gz,rfl,dt,hh⟩ nT
   have hi:i<ss.length:=by
    have:=(zAa.mp hx).1;rw[rs.l]at this;exact this
   obtain⟨tr,h8,fq⟩:=rs.g i ss[i] (zA0 hi)
   have:x=.ref tr:=by
    rw[hx]at h8;exact zAl h8
   subst this;have eg:ss.getD i []=ss[i]:=getD_get hi
   have df:ss.take (i+1)=ss.take i++[ss[i]]:=by
    rw[zAj,zA0 hi];rfl
   have l5:=h5 _ (zAh hi);have dT:=dt.same (Same.upd (o:=.tup [V.int i,V.ref tr]) nT);have wx:=dT.sm _ _ fq;generalize Lj:ss[i]=s at eg df l5 wx;generalize OW:ss.take i=sa at dT df;have hH:bT ps sa s=bT ps (ss.take i) (ss.getD i []):=by rw[OW,eg]
   obtain⟨n,ea⟩:∃n,fl s 0=n:=⟨_,rfl⟩
   obtain⟨a,eb⟩:∃n,fl s 1=n:=⟨_,rfl⟩
   obtain⟨b,ec⟩:∃n,fl s 2=n:=⟨_,rfl⟩
   obtain⟨k,ed⟩:∃n,fl s 3=n:=⟨_,rfl⟩
   obtain⟨y,ee⟩:∃n,fl s 4=n:=⟨_,rfl⟩
   have Me:upd Hc T0 (.tup [V.int i,V.ref tr]) tr=some (.tup [.int n,.int a,.int b,.int k,.int y]):=by
    rw[wx,jj l5,ea,eb,ec,ed,ee];rfl
   refine⟨T0,_,rfl,SqT.of aj,rfl,_,_,rfl,_,_,rfl,?_⟩;refine⟨tr,_,rfl,SqT.of Me,rfl,_,_,rfl,_,_,rfl,_,_,rfl,_,_,rfl,_,_,rfl,rfl,rfl,?_⟩;generalize upd Hc T0 (.tup [V.int i,V.ref tr])=H2 at dT⊢;clear dt nT wx Me fq
   have bad:∀{Hd:Hp},Same H Hd->bT ps sa s=false->∀t,Hd t=none->Q (.ref t) (upd Hd t (.tup [.ref fo,.int i])):=fun{Hd} sd hf t ht=>by
    have eu:un ps ss=some i:=xx hh hi (by rw[<-hH];exact hf);refine q t fo _ (sd.updR ht) (by rw[aj,eu];rfl) fun z=>?_;rw[eu]at z;cases z
   have Mf:=holds_iff (ps:=ps) (sa:=sa) ea eb ec ed ee
   have gE:¬((dom ps n y/\(0<=a/\a<8)/\(0<=b/\b<8)/\a≠b/\(1<=k/\k<=99))/\∀z,dom ps n z->y<=z->k<=(hl ps sa n z).getD a.toNat 0)->bT ps sa s=false:=fun h=>by
    cases z:bT ps sa s with
    |false=>rfl
    |true=>exact absurd (Mf.mp z) h
   refine aF ?_;refine⟨_,rfl,_,rfl,rfl,_,rfl,?_⟩;by_cases ml:a=b
   .rw[zAu (by rw[ml])];exact bQ (bQ ⟨_,rfl,_,rfl,zL,fun t ht=>bad dT.sm (gE fun h=>h.1.2.2.2.1 ml) t ht⟩)
   rw[zB5 (fun z=>ml (by injection z))];refine bD ⟨_,rfl,_,rfl,_,_,rfl,_,_,rfl,rfl,_,rfl,?_⟩;by_cases lP:(if b<a then b else a)<0
   .rw[zAu lP];refine bQ (bQ ⟨_,rfl,_,rfl,zL,fun t ht=>bad dT.sm (gE fun h=>?_) t ht⟩);have:=h.1.2.1;have:=h.1.2.2.1;split at lP<;>lia
   rw[zB5 lP];refine bD ⟨_,rfl,_,rfl,_,_,rfl,_,_,rfl,rfl,_,rfl,?_⟩;by_cases lS:(if b>a then b else a)>7
   .rw[zAu lS];refine bQ (bQ ⟨_,rfl,_,rfl,zL,fun t ht=>bad dT.sm (gE fun h=>?_) t ht⟩);have:=h.1.2.1;have:=h.1.2.2.1;split at lS<;>lia
   rw[zB5 lS];have ha:0<=a/\a<8:=by split at lP<;>split at lS<;>lia
   have hb:0<=b/\b<8:=by split at lP<;>split at lS<;>lia
   refine bD ⟨_,rfl,_,rfl,zL,fun tk oj=>?_⟩;have dK:=dT.same (Same.upd (o:=.tup [V.int n,V.int y]) oj);refine⟨_,rfl,fo,_,rfl,DGet.t (k:=ky n y) dK.e aj,_,rfl,?_⟩;generalize upd H2 tk (.tup [V.int n,V.int y])=H3 at dK⊢;by_cases hd:¬dom ps n y
   .rw[dK.no n y hd];exact bQ ⟨_,rfl,_,rfl,zL,fun t ht=>bad dK.sm (gE fun h=>hd h.1.1) t ht⟩
   have hd:=Classical.not_not.mp hd;obtain⟨d1,v1,_⟩:=dK.g n y hd;rw[v1];refine bD (dM ?_);dsimp only;clear v1 dT oj;refine aF ?_;refine⟨fo,kvs0,dK.e,fun ob=>?_⟩;have ez:=aj (H:=H3) (a:=fo) (o:=.frz ob (.dT kvs0))
   have kz:∀b u,b≠fo->H3 b=some u->upd H3 fo (.frz ob (.dT kvs0)) b=some u:=fun b u n e=>by
    rw[aA n];exact e
   generalize upd H3 fo (.frz ob (.dT kvs0))=Hz at ez kz⊢;refine⟨_,rfl,fo,ob,_,rfl,ez,fY kvs0.length (fun j ys σ Hd=>Same Hz Hd/\(∃o1 o2,σ=[o1,o2,some (.int n),some (.int y)])/\ys=((kvs0.take j).filterMap (yk n y)).map V.int) ⟨Same.refl _,⟨_,_,rfl⟩,rfl⟩ Zu ?_ ?_⟩
   .rintro j ys σ Hd hj hy ⟨sd,⟨o1,o2,rfl⟩,rfl⟩;refine⟨⟨sd _ _ ez,hj⟩,fun x H' yv R hR=>?_⟩;obtain⟨rfl,bb,kk,vv,rfl,Mi,F2⟩:=yv;obtain⟨n',z',rfl,tT⟩:=dK.kk kk (zA5.mpr ⟨(kk,vv),zB4 Mi,rfl⟩);have F2:H' bb=some (.tup [.int n',.int z']):=F2
    have F3:(kvs0.take (j+1)).filterMap (yk n y)=(kvs0.take j).filterMap (yk n y)++(if n'=n/\y<=z' then[z']else[]):=by
     rw[zAj,Mi,List.filterMap_append];congr 1;have e0:yk n y (ky n' z',vv)=if n'=n/\y<=z' then some z' else none:=rfl;show[(ky n' z',vv)].filterMap (yk n y)=_;rw[List.filterMap_cons,e0];by_cases hc:n'=n/\y<=z'
     .rw[zAz hc,zAz hc];rfl
     .rw[zAx hc,zAx hc];rfl
    refine⟨bb,_,rfl,SqT.of F2,rfl,_,_,rfl,_,_,rfl,rfl,?_⟩;refine⟨_,rfl,_,rfl,rfl,_,rfl,?_⟩;by_cases h1:n'=n
    .rw[zAu (by rw[h1])];refine bQ ⟨_,rfl,_,rfl,_,_,rfl,rfl,_,rfl,?_⟩;by_cases h2:z'≥y
     .rw[zAu h2];refine bQ ⟨_,rfl,hR _ _ _ (by rw[zA2];show _+1<=j+1;lia) ⟨sd,⟨_,_,rfl⟩,?_⟩⟩;rw[F3,zAz ⟨h1,h2⟩,zA4];rfl
     .rw[zB5 h2];refine bD (hR _ _ _ Zz ⟨sd,⟨_,_,rfl⟩,?_⟩);rw[F3,zAx (fun w=>h2 w.2),zAn]
    .rw[zB5 (fun z=>h1 (by injection z))];refine bD (bD (hR _ _ _ Zz ⟨sd,⟨_,_,rfl⟩,?_⟩));rw[F3,zAx (fun w=>h1 w.1),zAn]
   rintro ys σ Hd hy ⟨sd,_,rfl⟩;rw[zAm];refine⟨⟨sd _ _ ez,zA3 _⟩,fun Ly nN=>⟨Same.upd nN _ _ (sd _ _ ez),?_⟩⟩
   obtain⟨zs,BD⟩:∃zs,zs=kvs0.filterMap (yk n y):=⟨_,rfl⟩
   have ua:∀z,z∈zs↔dom ps n z/\y<=z:=fun z=>by
    rw[BD,List.mem_filterMap];constructor
    .rintro⟨⟨kk,vv⟩,hp,e⟩;obtain⟨n',z',rfl,tT⟩:=dK.kk kk (zA5.mpr ⟨_,hp,rfl⟩);have e:(if n'=n/\y<=z' then some z' else none)=some z:=e;by_cases hc:n'=n/\y<=z'
     .rw[zAz hc]at e;cases e;obtain⟨rfl,h2⟩:=hc;exact⟨tT,h2⟩
     .rw[zAx hc]at e;cases e
    .rintro⟨h1,h2⟩;obtain⟨d,v,_⟩:=dK.g n z h1
     have:(ky n z)∈kvs0.map (·.1):=by
      have hs:(cB kvs0 (ky n z)).isSome=true:=by rw[v];rfl
      rw[<-eV,List.any_eq_true]at hs;obtain⟨p,hp,e⟩:=hs;exact zA5.mpr ⟨p,hp,zBa e⟩
     obtain⟨p,hp,e⟩:=zA5.mp this;refine⟨p,hp,?_⟩;unfold yk;rw[show p.1=ky n z from e];show(if n=n/\y<=z then some z else none)=some z;rw[zAz ⟨rfl,h2⟩]
   have OX:zs.Nodup:=by
    rw[BD]
    have:∀{l:List (List Key×V)},(l.map (·.1)).Nodup->(∀k∈l.map (·.1),∃n y,k=ky n y)->(l.filterMap (yk n y)).Nodup:=fun{l}=>by
     induction l with
     |nil=>exact fun _ _=>List.nodup_nil
     |cons p l ih=>
      intro nd kk;rw[zAk,List.nodup_cons]at nd
      have i1:=ih nd.2 fun k hk=>kk k (zA5.mpr (by
       obtain⟨q,hq,e⟩:=zA5.mp hk
       exact⟨q,.tail _ hq,e⟩))
      rw[List.filterMap_cons];obtain⟨n',z',e'⟩:=kk p.1 (zA5.mpr ⟨p,.head _,rfl⟩)
      cases e:yk n y p with
      |none=>exact i1
      |some z=>
       refine List.nodup_cons.mpr ⟨fun hm=>?_,i1⟩;obtain⟨q,hq,eq⟩:=List.mem_filterMap.mp hm;obtain⟨n2,z2,e2⟩:=kk q.1 (zA5.mpr ⟨q,.tail _ hq,rfl⟩)
       have key:∀{r:List Key×V} {n3 z3 z:Int},r.1=ky n3 z3->yk n y r=some z->n3=n/\z3=z:=fun{r n3 z3 z} h1 h2=>by
        unfold yk at h2;rw[h1]at h2;have h2:(if n3=n/\y<=z3 then some z3 else none)=some z:=h2;by_cases hc:n3=n/\y<=z3
        .rw[zAz hc]at h2;cases h2;exact⟨hc.1,rfl⟩
        .rw[zAx hc]at h2;cases h2
       obtain⟨w1,w2⟩:=key e' e;obtain⟨w3,w4⟩:=key e2 eq;exact nd.1 (zA5.mpr ⟨q,hq,by show q.1=p.1;rw[e',e2,w1,w2,w3,w4]⟩)
    exact this dK.kd fun k hk=>by
     obtain⟨n,y,a,_⟩:=dK.kk k hk;exact⟨n,y,a⟩
   have TZ:zs.length<=200:=by
    rw[BD];have:=List.length_filterMap_le (yk n y) kvs0;lia
   rw[<-BD]
   have nD:Ly≠fo:=fun z=>by rw[z,sd _ _ ez]at nN;cases nN
   have S6:Same H3 (upd (upd Hd Ly (.lst (zs.map V.int))) fo (.dT kvs0)):=fun b u e=>by
    by_cases w9:b=fo
    .subst w9;rw[dK.e]at e;cases e;exact aj
    .rw[aA w9];exact Same.upd nN _ _ (sd _ _ (kz _ _ w9 e))
   have ub:upd (upd Hd Ly (.lst (zs.map V.int))) fo (.dT kvs0) Ly=some (.lst (zs.map V.int)):=by rw[aA nD];exact aj
   have d6:=dK.same S6
   have OY:H Ly=none:=by
    cases z:H Ly with
    |none=>rfl
    |some o=>
     by_cases w9:Ly=fo
     .exact absurd w9 nD
     .rw[sd _ _ (kz _ _ w9 (dK.sm _ _ z))]at nN;cases nN
   have F4:∀m z d,cB kvs0 (ky m z)=some (.ref d)->d≠Ly:=fun m z d hv w=>by
    by_cases hm:dom ps m z
    .obtain⟨d',q1,q2⟩:=dK.g m z hm;rw[hv]at q1;cases q1;rw[w]at q2;rw[sd _ _ (kz _ _ nD q2)]at nN;cases nN
    .rw[dK.no m z hm]at hv;cases hv
   generalize upd (upd Hd Ly (.lst (zs.map V.int))) fo (.dT kvs0)=H6 at S6 ub d6⊢;clear S6 dK nN sd ez kz hy BD;dsimp only;refine aF (aR ?_);refine⟨_,rfl,Ly,rfl,⟨_,SqL.of ub⟩,cz zs.length (fun j ys σ Hc=>Same H6 Hc/\(∃o1,σ=[o1,some (.ref fo),some (.int n),some (.int a)])/\ys=(((zs.take j).map fun z=>(hl ps sa n z).getD a.toNat 0):List Int).map V.int) ⟨Same.refl _,⟨_,rfl⟩,rfl⟩ Zu ?_ ?_⟩
   .rintro j ys σ Hc hj hy ⟨sc,⟨o1,rfl⟩,rfl⟩;have ex:(zs.map V.int)[j]?=some (.int zs[j]):=by rw[zAb,zA0 hj];rfl
    refine⟨⟨_,_,SqL.of (sc _ _ ub),ex⟩,fun v H' y' R hR=>?_⟩;obtain⟨rfl,y'⟩:=y';have hv:=y' _ (SqL.of (sc _ _ ub));rw[ex]at hv;cases hv;refine aM ?_;obtain⟨tT,_⟩:=(ua zs[j]).mp (zAh hj);obtain⟨d,v1,v2⟩:=(d6.same sc).g n zs[j] tT;refine⟨_,rfl,_,rfl,_,rfl,zL,fun tk oj=>?_⟩;have u:=Same.upd (o:=.tup [V.int n,V.int zs[j]]) oj
    have eM:atI ((hl ps sa n zs[j]).map V.int) a=some (.int ((hl ps sa n zs[j]).getD a.toNat 0)):=by
     have LH:=CJ ps sa n zs[j]
     have:((hl ps sa n zs[j]).map V.int)[a.toNat]?=some (.int ((hl ps sa n zs[j]).getD a.toNat 0)):=by
      rw[zAb,zA7,zA0 Zz];rfl
     have:=dI this;rw[show((a.toNat:Nat):Int)=a by lia]at this;exact this
    refine⟨fo,.ref d,rfl,v1▸DGet.t (k:=ky n zs[j]) (u _ _ (sc _ _ d6.e)) aj,_,rfl,d,_,a,_,rfl,rfl,SqL.of (u _ _ v2),eM,hR _ _ _ ⟨sc.updR oj,⟨_,rfl⟩,?_⟩⟩;rw[zAj,zA0 hj,zA4,zA4];rfl
   rintro ys σ Hc hy ⟨sc,_,rfl⟩;rw[zAm];refine⟨⟨_,SqL.of (sc _ _ ub),by rw[zA1];exact zA3 _⟩,fun D hD=>⟨D,_,rfl,SqL.of aj,?_,fun M hM OZ=>aM ?_⟩⟩
   .have:=(ua y).mpr ⟨hd,Int.le_refl _⟩;intro z;rw[List.map_eq_nil_iff]at z;rw[z]at this;cases this
   have d7:=(d6.same sc).same (Same.upd (o:=.lst (((zs.map fun z=>(hl ps sa n z).getD a.toNat 0):List Int).map V.int)) hD);have ui:=Same.upd (o:=.lst (((zs.map fun z=>(hl ps sa n z).getD a.toNat 0):List Int).map V.int)) hD _ _ (sc _ _ ub);generalize upd Hc D (.lst (((zs.map fun z=>(hl ps sa n z).getD a.toNat 0):List Int).map V.int))=H7 at d7 ui⊢;clear d6 sc hD ub hy;dsimp only;refine aF ?_;refine cD (p:=fun i j=>decide (i<=j)) (q:=fun i j=>decide (i<=j)) (i:=1) (j:=k) (k:=99) gh (f9 rfl) gh _ ⟨_,rfl,?_⟩;dsimp only
   cases ek:(decide (1<=k)&&decide (k<=99))with
   |false=>
    refine bQ (bQ ⟨_,rfl,_,rfl,zL,fun t ht=>bad d7.sm (gE fun h=>?_) t ht⟩);rw[zAu h.1.2.2.2.2.1,zAu h.1.2.2.2.2.2]at ek;cases ek
   |true=>
   obtain⟨k1,k2⟩:=Bool.and_eq_true_iff.mp ek;have k1:=zBa k1;have k2:=zBa k2;refine bD ⟨_,rfl,_,rfl,_,_,rfl,rfl,_,rfl,?_⟩;by_cases Mj:M<k
   .rw[zAu Mj];refine bQ ⟨_,rfl,_,rfl,zL,fun t ht=>bad d7.sm (gE fun h=>?_) t ht⟩;obtain⟨z,hz,rfl⟩:=zA5.mp hM;have:=h.2 z ((ua z).mp hz).1 ((ua z).mp hz).2;lia
   rw[decide_eq_false Mj];refine bD (dM ?_);dsimp only
   have good:bT ps sa s=true:=Mf.mpr ⟨⟨hd,ha,hb,ml,k1,k2⟩,fun z h1 h2=>by
    have:=OZ _ (zA5.mpr ⟨z,(ua z).mpr ⟨h1,h2⟩,rfl⟩)
    lia⟩
   clear bad gE
   have T3:∀(j:Nat),∃fm:Int->Int->List Int,fm=fun n' z'=>if n'=n/\z'∈zs.take j then hstep n z' (hl ps sa n z') s else hl ps sa n' z':=fun j=>⟨_,rfl⟩
   refine⟨_,rfl,Ly,rfl,⟨_,SqL.of ui⟩,?_⟩;refine gJ (xs:=zs.map V.int) (fun j σ Hd=>∃gz,σ=[some (.ref ap),some (.ref af),some (.ref fo),some (.int n),x4,x5,x6,x7,some (.int k),x9,some (.int y),some (.int i),some (.int a),some (.int b),some (.ref Ly),some (.int M),gz]/\Lts fo H Hd (dom ps) (fun n' z'=>if n'=n/\z'∈zs.take j then hstep n z' (hl ps sa n z') s else hl ps sa n' z') kvs0/\Hd Ly=some (.lst (zs.map V.int))) ?_ ?_ ?_ ?_
   .refine⟨_,rfl,d7.cast fun n' z' _=>?_,ui⟩;rw[List.take_zero,zAx (fun w=>by cases w.2)]
   .rintro j σ Hd hj ⟨gz,rfl,dj,eL⟩;exact SqL.of eL
   .rintro j v σ Hd hv ⟨gz,rfl,dj,eL⟩
    have hj:j<zs.length:=by
     have:=(zAa.mp hv).1;rw[zA1]at this;exact this
    have ev:v=.int zs[j]:=by
     rw[zAb,zA0 hj]at hv;exact(zAl hv).symm
    subst ev;obtain⟨tT,Ml⟩:=(ua zs[j]).mp (zAh hj)
    have Mm:¬(zs[j]∈zs.take j):=fun hm=>by
     obtain⟨j',me,e⟩:=List.getElem_of_mem hm;rw[zAd]at me;rw[List.getElem_take]at e;exact List.pairwise_iff_getElem.mp OX j' j Zz hj Zz e
    generalize hz:zs[j]=z at tT Ml Mm⊢
    obtain⟨L,F5⟩:∃L,L=hl ps sa n z:=⟨_,rfl⟩
    have l8:L.length=8:=by rw[F5];exact CJ _ _ _ _
    obtain⟨d,v1,v2⟩:=dj.g n z tT;rw[zAx (fun w=>Mm w.2),<-F5]at v2;have Mn:=F4 n z d v1
    have wa:∀{c:Int} {L:List Int},L.length=8->0<=c/\c<8->ixN (L.map V.int).length c=some c.toNat/\atI (L.map V.int) c=some (.int (L.getD c.toNat 0)):=fun{c L} l8 hc=>by
     refine⟨?_,?_⟩
     .unfold ixN;rw[zA1,l8,zAz hc.1,zAz Zz]
     .have:(L.map V.int)[c.toNat]?=some (.int (L.getD c.toNat 0)):=by
       rw[zAb,zA7,zA0 Zz];rfl
      have:=dI this;rw[show((c.toNat:Nat):Int)=c by lia]at this;exact this
    refine aM ?_;refine yL fun De BC=>?_;refine aF (aR ?_);refine⟨_,rfl,_,rfl,_,rfl,zL,fun t1 h1=>?_⟩;have w1:=Same.upd (o:=.tup [V.int n,V.int z]) h1;refine⟨fo,.ref d,rfl,v1▸DGet.t (k:=ky n z) (w1 _ _ dj.e) aj,_,rfl,d,_,a,_,rfl,rfl,SqL.of (w1 _ _ v2),(wa l8 ha).2,_,rfl,_,_,rfl,rfl,?_⟩;have d1:=dj.same w1;have F6:=w1 _ _ v2;have vS:=w1 _ _ eL;generalize upd Hd t1 (.tup [V.int n,V.int z])=Ha at d1 F6 vS⊢;refine⟨_,rfl,_,rfl,_,rfl,zL,fun t2 h2=>?_⟩;have w2:=Same.upd (o:=.tup [V.int n,V.int z]) h2;refine⟨fo,.ref d,rfl,v1▸DGet.t (k:=ky n z) (w2 _ _ d1.e) aj,_,rfl,d,_,a,_,rfl,rfl,w2 _ _ F6,(wa l8 ha).1,?_⟩;have d2:=d1.same w2;have F7:=w2 _ _ vS;generalize upd Ha t2 (.tup [V.int n,V.int z])=Hb at d2 F7⊢;rw[show(L.map V.int).set a.toNat (.int (L.getD a.toNat 0-k))=(fW L a (-k)).map V.int by unfold fW;rw[List.map_set];rfl]
    obtain⟨L1,uj⟩:∃L1,L1=fW L a (-k):=⟨_,rfl⟩
    rw[<-uj];have Mo:L1.length=8:=by rw[uj,gZ];exact l8
    have d3:=d2.wr (f':=fun n' z'=>if n'=n/\z'=z then L1 else if n'=n/\z'∈zs.take j then hstep n z' (hl ps sa n z') s else hl ps sa n' z') (L:=L1) v1 (by rw[zAz ⟨rfl,rfl⟩]) fun n' z' _ hJ=>by rw[zAx hJ]
    have e3:=aj (H:=Hb) (a:=d) (o:=.lst (L1.map V.int));have Mp:upd Hb d (.lst (L1.map V.int)) Ly=some (.lst (zs.map V.int)):=by rw[aA Mn.symm];exact F7
    generalize upd Hb d (.lst (L1.map V.int))=Hc at d3 e3 Mp⊢;clear d1 d2 F6 vS F7 w1 w2 h1 h2 dj v2 eL;dsimp only;refine aR ?_;refine⟨_,rfl,_,rfl,_,rfl,zL,fun t1 h1=>?_⟩;have w1:=Same.upd (o:=.tup [V.int n,V.int z]) h1;refine⟨fo,.ref d,rfl,v1▸DGet.t (k:=ky n z) (w1 _ _ d3.e) aj,_,rfl,d,_,b,_,rfl,rfl,SqL.of (w1 _ _ e3),(wa Mo hb).2,_,rfl,_,_,rfl,rfl,?_⟩;have d4:=d3.same w1;have e4:=w1 _ _ e3;have Mq:=w1 _ _ Mp;generalize upd Hc t1 (.tup [V.int n,V.int z])=Ha at d4 e4 Mq⊢;refine⟨_,rfl,_,rfl,_,rfl,zL,fun t2 h2=>?_⟩;have w2:=Same.upd (o:=.tup [V.int n,V.int z]) h2;refine⟨fo,.ref d,rfl,v1▸DGet.t (k:=ky n z) (w2 _ _ d4.e) aj,_,rfl,d,_,b,_,rfl,rfl,w2 _ _ e4,(wa Mo hb).1,?_⟩;have d5:=d4.same w2;have Mr:=w2 _ _ Mq;generalize upd Ha t2 (.tup [V.int n,V.int z])=Hb at d5 Mr⊢;rw[show(L1.map V.int).set b.toNat (.int (L1.getD b.toNat 0+k))=(fW L1 b k).map V.int by unfold fW;rw[List.map_set]]
    have hs:hstep n z L s=fW L1 b k:=by
     unfold hstep;rw[ea,eb,ec,ed,ee,zAz ⟨rfl,Ml⟩,uj]
    refine BC _ _ ⟨_,rfl,d5.wr (L:=fW L1 b k) v1 ?_ fun n' z' _ hJ=>?_,by rw[aA Mn.symm];exact Mr⟩
    .rw[zAz ⟨rfl,by rw[zAj,zA0 hj,hz];exact zA6.mpr (.inr (.head _))⟩,<-hs,F5]
    .rw[zAx hJ]
     have:(n'=n/\z'∈zs.take (j+1))↔(n'=n/\z'∈zs.take j):=by
      rw[zAj,zA0 hj,hz];constructor
      .rintro⟨g1,g2⟩;refine⟨g1,?_⟩;rcases zA6.mp g2 with w|w
       .exact w
       .exact absurd ⟨g1,List.mem_singleton.mp w⟩ hJ
      .rintro⟨g1,g2⟩;exact⟨g1,zA6.mpr (.inl g2)⟩
     by_cases hc:n'=n/\z'∈zs.take j
     .rw[zAz hc,zAz (this.mpr hc)]
     .rw[zAx hc,zAx fun w=>hc (this.mp w)]
   .rintro σ Hd ⟨gz,rfl,dj,eL⟩;rw[zA1,zAm]at dj;refine⟨_,_,_,_,_,_,_,_,_,_,_,_,_,_,rfl,dj.cast fun n' z' Cb=>?_,fun j' me=>?_⟩
    .rw[df,Fq Cb];by_cases hc:n'=n/\z'∈zs
     .obtain⟨rfl,hc⟩:=hc;rw[zAz ⟨rfl,hc⟩]
     .rw[zAx hc];unfold hstep;rw[ea,ee,zAx fun w=>hc ⟨w.1.symm,(ua z').mpr ⟨by rw[w.1];exact Cb,w.2⟩⟩]
    .by_cases ay:j'<i
     .exact hh j' ay
     .have:j'=i:=Zz
      rw[this,<-hH];exact good
  rintro σ Hc ⟨x3,x4,x5,x6,x7,x8,x9,fw,eR,eW,e8,fe,ff,gz,rfl,dt,hh⟩;have hu:un ps ss=none:=rP fun j hj=>hh j (by rw[rs.l];exact hj);dsimp only;refine⟨_,rfl,zL,fun t ht=>?_⟩
  refine q t fo _ (dt.sm.updR ht) (by rw[aj,hu];rfl) fun _=>⟨kvs0,?_⟩
  have:=dt.same (Same.upd (o:=.tup [V.ref fo,V.non]) ht);rw[rs.l,zAm]at this;exact this
end K91
namespace K91Q
open PySem L2 K91P
def okC(r:List Int):Prop:=r.length=3/\∀x∈r,0<=x/\x<1000
def smR(s:List Int):Prop:=s.length=5/\∀i∈s,-10<=i/\i<=2000000
inductive SpClipsI(vs:List V)(H:Hp)(Q:VK):Prop
 |mk:∀st n,(vs=[.ref st,.int n])->(StAt H st)->(1<=n)->(n<=20)->(∀ac xc cs H',Dr st H H'->K91.RowsAt H' ac xc cs->1<=cs.length->(cs.length:Int)<=n->(∀r∈cs,okC r)->Q (.ref ac) H')->SpClipsI  vs H Q
def xO:Sp:=fun vs H Q _=>SpClipsI  vs H Q
inductive SpPromI(vs:List V)(H:Hp)(Q:VK):Prop
 |mk:∀st y,(vs=[.ref st,.int y])->(StAt H st)->(0<=y)->(y<=1000)->(∀t r H',Dr st H H'->H' t=some (.tup (r.map V.int))->K91.okP r->Q (.ref t) H')->SpPromI  vs H Q
def spProm:Sp:=fun vs H Q _=>SpPromI  vs H Q
inductive SpSaleI(vs:List V)(H:Hp)(Q:VK):Prop
 |mk:∀st ap xp ps,(vs=[.ref st,.ref ap])->(StAt H st)->(K91.RowsAt H ap xp ps)->(ps.length<=10)->((∀r∈ps,K91.okP r))->(∀t s H',Dr st H H'->H' t=some (.tup (s.map V.int))->smR s->Q (.ref t) H')->SpSaleI  vs H Q
def CK:Sp:=fun vs H Q _=>SpSaleI  vs H Q
inductive SpBookI(vs:List V)(H:Hp)(Q:VK):Prop
 |mk:∀(st:Addr) (y m:Int),(vs=[.ref st,.int y,.int m])->(StAt H st)->(1<=y)->(y<=20)->(0<=m)->(m<=10)->(∀a ac xc cs ap xp ps af xs ss H',Dr st H H'->H' a=some (.tup [.ref ac,.ref ap,.ref af])->K91.RowsAt H' ac xc cs->1<=cs.length->(cs.length:Int)<=y->(∀r∈cs,okC r)->K91.RowsAt H' ap xp ps->(ps.length:Int)<=m->(∀r∈ps,K91.okP r)->K91.RowsAt H' af xs ss->ss.length<=6->(∀s∈ss,smR s)->K91.un ps ss=none->Q (.ref a) H')->SpBookI  vs H Q
def spBook:Sp:=fun vs H Q _=>SpBookI  vs H Q
theorem _root_.K91P.Dr.new{st p:Addr}{o:HO}{H H1:Hp}(g:Dr st H H1)(hp:H1 p=none):Dr st H (upd H1 p o):=g.same (Same.upd hp)
theorem _root_.K91P.Dr.rows{st a:Addr}{H H':Hp}{xs:List V}{rs:List (List Int)}(g:Dr st H H')(h0:StAt H st)(r:K91.RowsAt H a xs rs):K91.RowsAt H' a xs rs:=r.keep (g.tups h0)
theorem ik{X:Cx}{i j k:Int}{a b c p q r pos}:BE X (.List [.Constant (.int i) a p,.Constant (.int j) b q,.Constant (.int k) c r] pos) (Dg (G5 [i,j,k])):=⟨dw (jW (.cons (.cons (.cons .nil))))⟩
section
variable{P:Program}{w:World}{K:Frag}{mg:Str->Option Value}{base:Heap}{f:Addr}{fd:FuncData}
theorem ndC:(["_law_year","_law_state_here","_law_wide"]:List Str).Nodup:=by decide +kernel
theorem scC:FnScope ["_law_state_here","_law_most","_law_wide","_law_many"] ["_law_state_here","_law_most"] (aJ (top 70)):=fQS
theorem ok_clips(F:Fun K "_law_clips" "_law_clips" (top 70) f fd)(T:Mg mg)(Tr:mg "range"=none)(c1:Cal P w K mg base 1 "_law_choice" ["_law_state_here","_law_many"] spChoice):FnOk P w K mg base CX0 2 f fd ["_law_state_here","_law_most"] xO:=by
 refine F.ok scC (fun vs H Q E h=>?_) (fun ar A outer s H vs Q E hr h=>?_)
 .obtain⟨st,n,rfl,_⟩:=h;rfl
 .obtain⟨st,n,rfl,gi,n0,n1,q⟩:=h
  refine ok_b (aN (qQ (i:=2) scC.nd rfl (Or.inr rfl) (zJ bM (qP (gj ik (gj ik (gj ik (gj ik (gj ik fH)))))) ⟨aG c1 hr (au (pv 0) (au az ao))⟩ (fun _ _=>rfl)))
   (aN ⟨pss 3 scC.nd (aW cj az (aG c1 hr (au (pv 0) (au (pv 1) ao))))⟩
   (cG ⟨aQ (cu bV rfl T.tuple boot_tuple (au (bK ["_law_year","_law_state_here","_law_wide"] [none,some 0,some 2] rfl (cO rfl Tr (au (pv 3) ao))
    (fun C fp Zt s₂ H₂=>⟨pgn 0 ndC,bH,cu (mL (K:=K) rfl) rfl T.tuple boot_tuple (au
     (bK ["_law_one","_law_state_here"] [none,some 1] rfl (Bu (K:=K) rfl (pv 2)) (fun C fp Zt s₂ H₂=>⟨bw (i:=0) (nd2 _ _ Zx) rfl (Or.inl rfl),bH,aG c1 hr (au (pv 1) (au (pv 0) ao))⟩)
      (fun C=>cI trivial) ⟨rfl,rfl,rfl,rfl⟩) ao)⟩)
    (fun C=>cI (cI trivial)) ⟨rfl,rfl,rfl,rfl⟩) ao))⟩))) ?_
  refine aF (aR ?_);refine⟨zL,fun l1 h1=>⟨zL,fun l2 h2=>⟨zL,fun l3 h3=>⟨zL,fun l4 h4=>⟨zL,fun l5 h5=>⟨zL,fun L hL=>?_⟩⟩⟩⟩⟩⟩;have m1:=Same.upd (o:=.lst (([3,3,3]:List Int).map V.int)) h1;have m2:=Same.upd (o:=.lst (([12,30,30]:List Int).map V.int)) h2;have m3:=Same.upd (o:=.lst (([60,3,200]:List Int).map V.int)) h3;have m4:=Same.upd (o:=.lst (([1,1,1]:List Int).map V.int)) h4;have m5:=Same.upd (o:=.lst (([1000,1000,1000]:List Int).map V.int)) h5;have m6:=Same.upd (o:=.lst [V.ref l1,V.ref l2,V.ref l3,V.ref l4,V.ref l5]) hL;have f5:=m6 _ _ (aj (a:=l5) (o:=.lst (([1000,1000,1000]:List Int).map V.int)));have f4:=m6 _ _ (m5 _ _ (aj (a:=l4) (o:=.lst (([1,1,1]:List Int).map V.int))));have f3:=m6 _ _ (m5 _ _ (m4 _ _ (aj (a:=l3) (o:=.lst (([60,3,200]:List Int).map V.int)))));have f2:=m6 _ _ (m5 _ _ (m4 _ _ (m3 _ _ (aj (a:=l2) (o:=.lst (([12,30,30]:List Int).map V.int))))));have f1:=m6 _ _ (m5 _ _ (m4 _ _ (m3 _ _ (m2 _ _ (aj (a:=l1) (o:=.lst (([3,3,3]:List Int).map V.int)))))));have ms:=m1.trans (m2.trans (m3.trans (m4.trans (m5.trans m6))));have fL:upd (upd (upd (upd (upd (upd H l1 (.lst (([3,3,3]:List Int).map V.int))) l2 (.lst (([12,30,30]:List Int).map V.int))) l3 (.lst (([60,3,200]:List Int).map V.int))) l4 (.lst (([1,1,1]:List Int).map V.int))) l5 (.lst (([1000,1000,1000]:List Int).map V.int))) L (.lst [V.ref l1,V.ref l2,V.ref l3,V.ref l4,V.ref l5]) L=some (.lst [V.ref l1,V.ref l2,V.ref l3,V.ref l4,V.ref l5]):=aj
  have old:∀b o,H b=some o->b≠l1/\b≠l2/\b≠l3/\b≠l4/\b≠l5/\b≠L:=fun b o e=>⟨aC e h1,aC (m1 _ _ e) h2,aC (m2 _ _ (m1 _ _ e)) h3,aC (m3 _ _ (m2 _ _ (m1 _ _ e))) h4,aC (m4 _ _ (m3 _ _ (m2 _ _ (m1 _ _ e)))) h5,aC (m5 _ _ (m4 _ _ (m3 _ _ (m2 _ _ (m1 _ _ e))))) hL⟩
  obtain⟨a0,b0,c0,O0,_⟩:=id gi;obtain⟨v1,v2,v3,v4,v5,v6⟩:=old _ _ O0;generalize upd (upd (upd (upd (upd (upd H l1 _) l2 _) l3 _) l4 _) l5 _) L _=H1 at f1 f2 f3 f4 f5 fL ms⊢;clear m1 m2 m3 m4 m5 m6 h1 h2 h3 h4 h5 hL old
  have uu:StAt H1 st:=by
   obtain⟨a,b,c,e,h⟩:=gi;exact⟨a,b,c,ms _ _ e,h⟩
  have g1:Dr st H H1:=⟨fun b o e _=>ms _ _ e,uu⟩
  refine⟨_,rfl,st,5,rfl,uu,by decide,by decide,fun r a b c r0 r1 a0 b0 b1=>?_⟩
  have BF:∃wd ws,([V.ref l1,V.ref l2,V.ref l3,V.ref l4,V.ref l5]:List V)[r.toNat]?=some (.ref wd)/\H1 wd=some (.lst ((ws:List Int).map V.int))/\wd≠st/\ws.length=3/\∀x∈ws,1<=x/\x<=1000:=by
   have:r.toNat=0\/r.toNat=1\/r.toNat=2\/r.toNat=3\/r.toNat=4:=Zz
   rcases this with z|z|z|z|z<;>rw[z]
   .exact⟨l1,_,rfl,f1,v1.symm,rfl,by decide⟩
   .exact⟨l2,_,rfl,f2,v2.symm,rfl,by decide⟩
   .exact⟨l3,_,rfl,f3,v3.symm,rfl,by decide⟩
   .exact⟨l4,_,rfl,f4,v4.symm,rfl,by decide⟩
   .exact⟨l5,_,rfl,f5,v5.symm,rfl,by decide⟩
  obtain⟨wd,ws,ei,Ms,BG,O3,bws⟩:=BF;have g2:Dr st H (upd H1 st (.lst [.int a,.int b,.int c])):=g1.draw a0 b0 b1;refine⟨L,_,r,.ref wd,rfl,rfl,SqL.of (by rw[aA v6.symm];exact fL),?_,?_⟩
  .have:=dI ei;rw[show((r.toNat:Nat):Int)=r by lia]at this;exact this
  have uS:upd H1 st (.lst [.int a,.int b,.int c]) wd=some (.lst (ws.map V.int)):=by
   rw[aA BG];exact Ms
  generalize upd H1 st (.lst [.int a,.int b,.int c])=H2 at g2 uS⊢;clear f1 f2 f3 f4 f5 fL ms g1 uu Ms ei;refine aM ?_;dsimp only;refine aF ?_;refine⟨_,rfl,_,rfl,st,n,rfl,g2.sa,n0,Zz,fun m a b c m0 m1 a0 b0 b1=>⟨_,_,rfl,rfl,?_⟩⟩;have g3:=g2.draw (c:=c) a0 b0 b1
  have BH:upd H2 st (.lst [.int a,.int b,.int c]) wd=some (.lst (ws.map V.int)):=by
   rw[aA BG];exact uS
  generalize upd H2 st (.lst [.int a,.int b,.int c])=H3 at g3 BH⊢;clear g2 uS;dsimp only;refine lJ ?_;refine⟨_,rfl,1+m,rfl,Zz,Zz,?_⟩
  have lz:(1+m).toNat<sizeLine:=by
   rw[sizeLine_eq];lia
  refine cz (1+m).toNat (fun i ys σ Hc=>Dr st H3 Hc/\(∃o,σ=[o,some (.ref st),some (.ref wd)])/\∃rows:List (List Int),rows.length=i/\(∀r∈rows,okC r)/\IsThs (fun _=>False) Hc ys (rows.map K91.rowD)) ⟨Dr.refl g3.sa,⟨_,rfl⟩,[],rfl,fun _ h=>(List.not_mem_nil h).elim,.nil⟩ lz ?_ ?_
  .rintro i ys σ Hc hi hy ⟨g4,⟨o,rfl⟩,rows,ip,BI,it⟩;refine⟨hi,fun v H' y R hR=>?_⟩;obtain⟨eH,rfl⟩:=y;subst H';refine aM ?_;have u4:=g4.bt _ _ BH BG;refine⟨_,rfl,wd,rfl,⟨_,SqL.of u4⟩,cz 3 (fun j zs σ H5=>Dr st Hc H5/\(∃o,σ=[o,some (.ref st)])/\∃r:List Int,r.length=j/\(∀n∈r,0<=n/\n<1000)/\zs=r.map V.int) ⟨Dr.refl g4.sa,⟨_,rfl⟩,[],rfl,fun _ h=>(List.not_mem_nil h).elim,rfl⟩ Zx ?_ ?_⟩
   .rintro j zs σ H5 hj hz ⟨g5,⟨o,rfl⟩,r,lr,br,rfl⟩;have BM:=g5.bt _ _ u4 BG;have Mt:j<ws.length:=Zz
    have ex:(ws.map V.int)[j]?=some (.int ws[j]):=by rw[zAb,zA0 Mt];rfl
    refine⟨⟨_,_,SqL.of BM,ex⟩,fun v H' y R hR=>?_⟩;obtain⟨eH,y⟩:=y;subst H';have hv:=y _ (SqL.of BM);rw[ex]at hv;cases hv;have hb:=bws _ (zAh Mt);refine aM ?_;refine⟨_,rfl,_,rfl,st,_,rfl,g5.sa,hb.1,Zz,fun t a b c t0 t1 a0 b0 b1=>hR _ _ _ ⟨g5.draw a0 b0 b1,⟨_,rfl⟩,r++[t],by rw[zA2,lr];rfl,fun n hn=>?_,by rw[zA4];rfl⟩⟩;rcases zA6.mp hn with z|z
    .exact br n z
    .rw[List.mem_singleton.mp z];lia
   .rintro zs σ H5 hz ⟨g5,_,r,lr,br,rfl⟩;refine⟨⟨_,SqL.of (g5.bt _ _ u4 BG),by rw[zA1,O3];exact zA3 _⟩,fun D hD=>⟨D,_,rfl,.inl ⟨SqL.of aj,fun t ht=>?_⟩⟩⟩;have s6:=(Same.upd (o:=.lst (r.map V.int)) hD).updR (o:=.tup (r.map V.int)) ht;refine hR _ _ _ ⟨(g4.trans g5).same s6,⟨_,rfl⟩,rows++[r],by rw[zA2,ip];rfl,fun x hx=>?_,?_⟩
    .rcases zA6.mp hx with z|z
     .exact BI x z
     .rw[List.mem_singleton.mp z];exact⟨lr,br⟩
    .rw[zA4];exact((g5.ths g4.sa it).same s6).append (.cons (.tup aj (IsThs.ints r)) .nil)
  .rintro ys σ Hc hy ⟨g4,_,rows,ip,BI,it⟩;refine⟨zA3 _,fun D hD=>⟨D,_,rfl,.inl ⟨SqL.of aj,fun t ht=>?_⟩⟩⟩;have s6:=(Same.upd (o:=.lst ys) hD).updR (o:=.tup ys) ht;obtain⟨ac,xc,ev,rr⟩:=K91.th_rows (rs:=rows) (.tup aj (it.same s6));cases ev;exact q _ xc rows _ ((g3.trans g4).same s6) rr Zz Zz BI
end
section
variable{P:Program}{w:World}{K:Frag}{mg:Str->Option Value}{base:Heap}{f:Addr}{fd:FuncData}
theorem scP:FnScope ["_law_state_here","_law_years","_law_first","_law_last","_law_sacks","_law_price"] ["_law_state_here","_law_years"] (aJ (top 71)):=fQS
theorem ok_prom(F:Fun K "_law_promise" "_law_promise" (top 71) f fd)(Tm:mg "min"=none)(c1:Cal P w K mg base 1 "_law_choice" ["_law_state_here","_law_many"] spChoice):FnOk P w K mg base CX0 2 f fd ["_law_state_here","_law_years"] spProm:=by
 refine F.ok scP (fun vs H Q E h=>?_) (fun ar A outer s H vs Q E hr h=>?_)
 .obtain⟨st,y,rfl,_⟩:=h;rfl
 .obtain⟨st,y,rfl,gi,y0,y1,q⟩:=h
  refine ok_b (aN ⟨pss 2 scP.nd (aO (fO rfl) rfl Tm pQ (au az (au (aG c1 hr (au (pv 0) (au (aW cj (pv 1) az) ao))) ao)))⟩
   (aN ⟨pss 3 scP.nd (aO (fO rfl) rfl Tm pQ (au az (au (aW cj (pv 2) (pX bM (Dz (Dy az (Dy (aG c1 hr (au (pv 0) (au az ao))) (Dy (aG c1 hr (au (pv 0) (au az ao))) fH)))) (aG c1 hr (au (pv 0) (au az ao))))) ao)))⟩
   (aN ⟨Gu (i:=4) (j:=5) rfl scP.nd rfl rfl Zx rfl rfl (au (aW cj az (aG c1 hr (au (pv 0) (au (pX bM (dw (jW (by repeat constructor))) (aG c1 hr (au (pv 0) (au az ao)))) ao)))) (au (aG c1 hr (au (pv 0) (au az ao))) ao)) rfl⟩
   (cG ⟨aQ (G6 (v8 (gj ⟨aG c1 hr (au (pv 0) (au az ao))⟩ (gj ⟨aG c1 hr (au (pv 0) (au az ao))⟩ (gj ⟨pv 2⟩ (gj ⟨pv 3⟩ (gj ⟨pv 4⟩ (gj ⟨pv 5⟩ fH))))))))⟩)))) ?_
  have g0:Dr st H H:=Dr.refl gi;refine aF (aR ?_);refine⟨_,rfl,_,rfl,_,_,rfl,rfl,st,_,rfl,gi,Zz,Zz,fun r1 a1 b1 pV T4 T5 k1 k2 k3=>⟨_,_,rfl,?_⟩⟩;have g1:=g0.draw (c:=pV) k1 k2 k3
  obtain⟨fi,O4,O5,T6⟩:∃fi:Int,fi=(if r1<19 then r1 else 19)/\0<=fi/\fi<=19:=⟨_,rfl,by split<;>lia,by split<;>lia⟩
  rw[<-O4];generalize upd H st (.lst [.int a1,.int b1,.int pV])=H1 at g1⊢;refine aM ?_;dsimp only;refine aF (aR ?_);refine⟨_,rfl,_,rfl,st,4,rfl,g1.sa,by decide,by decide,fun r2 a2 b2 c2 O6 T7 k4 k5 k6=>⟨_,rfl,st,20,rfl,(g1.draw k4 k5 k6).sa,by decide,by decide,fun r3 a3 b3 c3 O7 O8 k7 k8 k9=>⟨zL,fun p hp=>?_⟩⟩⟩;have g3:=(g1.draw (c:=c2) k4 k5 k6).draw (c:=c3) k7 k8 k9;have np:=g3.ne hp;have g4:=g3.new (o:=.lst [V.int 0,V.int r2,V.int r3]) hp;have ep:upd (upd (upd H1 st (.lst [.int a2,.int b2,.int c2])) st (.lst [.int a3,.int b3,.int c3])) p (.lst [V.int 0,V.int r2,V.int r3]) p=some (.lst [V.int 0,V.int r2,V.int r3]):=aj;generalize upd (upd (upd H1 st (.lst [.int a2,.int b2,.int c2])) st (.lst [.int a3,.int b3,.int c3])) p (.lst [V.int 0,V.int r2,V.int r3])=H2 at g4 ep⊢;refine⟨_,rfl,st,3,rfl,g4.sa,by decide,by decide,fun r4 a4 b4 c4 T8 T9 k1 k2 k3=>?_⟩
  obtain⟨d,hd,d0,d1⟩:∃d:Int,atI [V.int 0,V.int r2,V.int r3] r4=some (.int d)/\0<=d/\d<20:=by
   have:r4=0\/r4=1\/r4=2:=Zz
   rcases this with rfl|rfl|rfl
   .exact⟨_,rfl,by decide,by decide⟩
   .exact⟨_,rfl,O6,Zz⟩
   .exact⟨_,rfl,O7,O8⟩
  refine⟨p,_,r4,.int d,rfl,rfl,SqL.of (by rw[aA np];exact ep),hd,_,_,rfl,rfl,_,_,rfl,?_⟩;have g5:=g4.draw (c:=c4) k1 k2 k3
  obtain⟨la,CY,O9,Pa⟩:∃la:Int,la=(if fi+d<19 then fi+d else 19)/\fi<=la/\la<=19:=⟨_,rfl,by split<;>lia,by split<;>lia⟩
  rw[<-CY];clear ep np g3;generalize upd H2 st (.lst [.int a4,.int b4,.int c4])=H3 at g5⊢;refine aM ?_;dsimp only;refine aF ?_;refine⟨_,rfl,zL,fun p2 md=>?_⟩;have Pb:=g5.ne md;have g6:=g5.new (o:=.lst (([4,12,99]:List Int).map V.int)) md;have EU:upd H3 p2 (.lst (([4,12,99]:List Int).map V.int)) p2=some (.lst (([4,12,99]:List Int).map V.int)):=aj;generalize upd H3 p2 (.lst (([4,12,99]:List Int).map V.int))=H4 at g6 EU⊢;refine⟨_,rfl,st,3,rfl,g6.sa,by decide,by decide,fun r5 a5 b5 c5 Ua Ub k4 k5 k6=>?_⟩
  obtain⟨wd,hw,w1,w2⟩:∃wd:Int,atI (([4,12,99]:List Int).map V.int) r5=some (.int wd)/\1<=wd/\wd<=99:=by
   have:r5=0\/r5=1\/r5=2:=Zz
   rcases this with rfl|rfl|rfl
   .exact⟨4,rfl,by decide,by decide⟩
   .exact⟨12,rfl,by decide,by decide⟩
   .exact⟨99,rfl,by decide,by decide⟩
  have g7:=g6.draw (c:=c5) k4 k5 k6;refine⟨p2,_,r5,.int wd,rfl,rfl,SqL.of (by rw[aA Pb];exact EU),hw,st,wd,rfl,g7.sa,w1,Zz,fun r6 a6 b6 c6 Uc Ud k7 k8 k9=>⟨_,_,rfl,rfl,?_⟩⟩;have g8:=g7.draw (c:=c6) k7 k8 k9;generalize upd (upd H4 st (.lst [.int a5,.int b5,.int c5])) st (.lst [.int a6,.int b6,.int c6])=H5 at g8⊢;refine⟨_,rfl,st,500,rfl,g8.sa,by decide,by decide,fun r7 a7 b7 c7 Pc Ue k1 k2 k3=>⟨_,_,rfl,?_⟩⟩;have g9:=g8.draw (c:=c7) k1 k2 k3;generalize upd H5 st (.lst [.int a7,.int b7,.int c7])=H6 at g9⊢;dsimp only;refine lJ ?_;refine⟨_,rfl,st,8,rfl,g9.sa,by decide,by decide,fun r8 a8 b8 c8 Pd Pe k4 k5 k6=>⟨_,rfl,st,3,rfl,(g9.draw k4 k5 k6).sa,by decide,by decide,fun r9 a9 b9 c9 Pf Pg k7 k8 k9=>⟨_,rfl,_,rfl,_,rfl,_,rfl,zL,fun t ht=>?_⟩⟩⟩;have ga:=((g9.draw (c:=c8) k4 k5 k6).draw (c:=c9) k7 k8 k9).new (o:=.tup [V.int r8,V.int r9,V.int fi,V.int la,V.int (1+r6),V.int r7]) ht;exact q t [r8,r9,fi,la,1+r6,r7] _ ga aj ⟨rfl,⟨Pd,Pe⟩,⟨Pf,Pg⟩,⟨O5,O9,Pa⟩,⟨by show 1<=1+r6;lia,by show 1+r6<=99;lia⟩,⟨Pc,by show r7<=1000000;lia⟩⟩
theorem scS:FnScope ["_law_state_here","_law_promises","_law_number","_law_holder","_law_sort","_law_first","_law_last","_law_sacks","_law_price","_law_seller","_law_year"] ["_law_state_here","_law_promises"] (aJ (top 72)):=fQS
theorem ok_sale(F:Fun K "_law_sale" "_law_sale" (top 72) f fd)(T:K91.Mg mg)(Tm:mg "max"=none)(c1:Cal P w K mg base 1 "_law_choice" ["_law_state_here","_law_many"] spChoice):FnOk P w K mg base CX0 2 f fd ["_law_state_here","_law_promises"] CK:=by
 refine F.ok scS (fun vs H Q E h=>?_) (fun ar A outer s H vs Q E hr h=>?_)
 .obtain⟨st,ap,xp,ps,rfl,_⟩:=h;rfl
 .obtain⟨st,ap,xp,ps,rfl,gi,rp,lp,okp,q⟩:=h
  refine⟨_,aB (pss 2 scS.nd (aG c1 hr (au (pv 0) (au (aO (ir rfl) rfl Tm pP (au az (au (aO bh rfl T.len PySem.boot_len (au (pv 1) ao)) ao))) ao))))
   (aB (bZ (aY (yo (K91.room_un hr)) (pv 1) (wF fH) (bx _)) (aD (aQ (bB (jW (by repeat constructor))))) bf)
   (aB (cA (pX bC (pv 1) (pv 2)) (bL rfl (aq (pgn 3 scS.nd) (aq (pgn 4 scS.nd) (aq (pgn 5 scS.nd)
    (aq (pgn 6 scS.nd) (aq (pgn 7 scS.nd) (aq (pgn 8 scS.nd) aV))))))))
   (aB (pss 9 scS.nd (pX bM (dw (au (pv 3) (au (pv 3) (au (aG c1 hr (au (pv 0) (au az ao))) ao)))) (aG c1 hr (au (pv 0) (au az ao)))))
   (aB (pss 10 scS.nd (aW cj (pv 5) (aG c1 hr (au (pv 0) (au (aW cj (aW fG (pv 6) (pv 5)) az) ao)))))
   (aD (aQ (G6 (v8 (gj ⟨pv 2⟩ (gj ⟨pv 9⟩ (gj ⟨aG c1 hr (au (pv 0) (au az ao))⟩ (gj ⟨aW cj az (aG c1 hr (au (pv 0) (au (pv 7) ao)))⟩ (gj ⟨pv 10⟩ fH))))))))))))),?_⟩
  have g0:Dr st H H:=Dr.refl gi;have Ug:xp.length<=10:=by rw[rp.l];exact lp
  refine aF (aR ?_);refine⟨_,rfl,_,rfl,ap,xp,rfl,.inr (SqT.of rp.e),_,_,rfl,st,_,rfl,gi,?_,?_,fun r1 a1 b1 pV r0 rn k1 k2 k3=>?_⟩
  .split<;>lia
  .split<;>lia
  have g1:=g0.draw (c:=pV) k1 k2 k3;have Mu:=g1.rows gi rp;generalize upd H st (.lst [.int a1,.int b1,.int pV])=H1 at g1 Mu⊢;refine aM ?_;dsimp only;refine aF ?_;refine⟨_,rfl,zL,fun e0 xb=>?_⟩;have g2:=g1.new (o:=.tup []) xb;have m2:=Same.upd (o:=.tup []) xb;have Mv:upd H1 e0 (.tup []) e0=some (.tup []):=aj;have C5:=Mu.same m2;generalize upd H1 e0 (.tup [])=H2 at g2 m2 Mv C5⊢;refine⟨ap,e0,xp,rfl,rfl,SqT.of C5.e,SqT.of Mv,_,rfl,Dm (fun hb=>?_) fun hb=>?_⟩
  .refine⟨zL,fun t ht=>?_⟩;exact q t [0,0,1,1,0] _ (g2.new ht) aj ⟨rfl,by decide⟩
  have px:0<xp.length:=by
   cases xp with
   |nil=>exact absurd rfl hb
   |cons a l=>exact Nat.succ_pos _
  have Uh:r1.toNat<xp.length:=by split at rn<;>lia
  dsimp only;refine aF ?_;obtain⟨p,hp,_,op⟩:=K91.prom_ok (n:=r1) okp r0 (by rw[<-rp.l];lia);obtain⟨tp,eM,fR⟩:=K91.rows_at C5 r0 hp;rw[K91.six_row op.1]at fR;obtain⟨_,⟨p1,p2⟩,_,⟨p3,p4,p5⟩,⟨p6,p7⟩,_⟩:=id op;refine⟨_,rfl,_,rfl,ap,_,r1,.ref tp,rfl,rfl,SqT.of C5.e,eM,?_⟩;refine⟨tp,_,rfl,SqT.of fR,rfl,_,_,rfl,_,_,rfl,_,_,rfl,_,_,rfl,_,_,rfl,_,_,rfl,rfl,?_⟩;dsimp only;refine aF (aR ?_);refine⟨_,rfl,_,rfl,_,rfl,st,8,rfl,g2.sa,by decide,by decide,fun r2 a2 b2 c2 i0 i1 k4 k5 k6=>⟨zL,fun l1 gg=>?_⟩⟩;have g4:=(g2.draw (c:=c2) k4 k5 k6).new (o:=.lst [V.int (K91.fl p 0),V.int (K91.fl p 0),V.int r2]) gg;have n4:=(g2.draw k4 k5 k6).ne gg;refine⟨_,rfl,st,3,rfl,g4.sa,by decide,by decide,fun r3 a3 b3 c3 i2 i3 k7 k8 k9=>?_⟩
  obtain⟨sl,Ph,Ui,qA⟩:∃sl:Int,atI [V.int (K91.fl p 0),V.int (K91.fl p 0),V.int r2] r3=some (.int sl)/\0<=sl/\sl<8:=by
   have:r3=0\/r3=1\/r3=2:=Zz
   rcases this with rfl|rfl|rfl
   .exact⟨_,rfl,p1,p2⟩
   .exact⟨_,rfl,p1,p2⟩
   .exact⟨_,rfl,i0,i1⟩
  have g5:=g4.draw (c:=c3) k7 k8 k9;refine⟨l1,_,r3,.int sl,rfl,rfl,SqL.of (by rw[aA n4];exact aj),Ph,?_⟩;refine aM ?_;dsimp only;refine aF (aR ?_);refine⟨_,rfl,_,rfl,_,rfl,_,rfl,_,_,rfl,rfl,_,_,rfl,rfl,st,_,rfl,g5.sa,Zz,Zz,fun r5 a5 b5 c5 i6 i7 m4 m5 m6=>⟨_,_,rfl,rfl,?_⟩⟩;have g7:=g5.draw (c:=c5) m4 m5 m6;refine aM ?_;dsimp only;refine⟨_,rfl,_,rfl,_,rfl,st,8,rfl,g7.sa,by decide,by decide,fun r4 a4 b4 c4 i4 i5 m1 Mw m3=>⟨_,rfl,_,rfl,st,_,rfl,(g7.draw m1 Mw m3).sa,p6,Zz,fun r6 a6 b6 c6 i8 i9 m7 m8 m9=>⟨_,_,rfl,rfl,_,rfl,zL,fun t ht=>?_⟩⟩⟩;have g8:=(g7.draw (c:=c4) m1 Mw m3).draw (c:=c6) m7 m8 m9;refine q t [r1,sl,r4,1+r6,K91.fl p 2+r5] _ (g8.new ht) aj ⟨rfl,fun i hi=>?_⟩;simp only[List.mem_cons,List.not_mem_nil,or_false]at hi;lia
end
theorem op_catU{X:Cx}:OpR X (binaryOp .Add) (fun x y H Q=>Xe4 fun a b xs ys=>Xa7 (x=.ref a) (y=.ref b) (H a=some (.tup xs)) (H b=some (.tup ys)) (ys≠[]) (xs.length+ys.length<=sizeLine) (∀c H',Same H H'->H' c=some (.tup (xs++ys))->Q (.ref c) H')):=by
 intro Zt s σ H x y v u Q I rx ry h;obtain⟨a,b,xs,ys,rfl,rfl,ha,hb,hy,hz,q⟩:=h;refine zN Zt s σ H _ _ v u Q I rx ry ⟨a,b,xs,ys,rfl,rfl,SqT.of ha,SqT.of hb,hy,hz,fun e=>q b H (Same.refl H) (by rw[e];exact hb),fun _ p hp=>q p _ (Same.upd hp) aj⟩
theorem rows_snoc{H:Hp}{a b t:Addr}{xs:List V}{rs:List (List Int)}{r:List Int}(h:K91.RowsAt H a xs rs)(et:H t=some (.tup (r.map V.int)))(eb:H b=some (.tup (xs++[V.ref t]))):K91.RowsAt H b (xs++[V.ref t]) (rs++[r]):=by
 refine⟨eb,by rw[zA2,zA2,h.l];rfl,fun i r' e=>?_⟩;by_cases hi:i<rs.length
 .rw[zB7 hi]at e;rw[zB7 (by rw[h.l];exact hi)];exact h.g i r' e
 .rw[zB3 Zz]at e;rw[zB3 (by rw[h.l];lia),h.l]
  cases hj:i-rs.length with
  |zero=>
   rw[hj]at e;injection e with e;subst e;exact⟨t,rfl,et⟩
  |succ k=>
   rw[hj]at e;simp at e
theorem CN{u:Option Nat}(h:decide (K91.unV u=.non)=true):u=none:=by
 have:=zBa h
 cases u with
 |none=>rfl
 |some n=>cases this
theorem oh{X:Cx}{K:Frag}(hK:X.K=K):di X (.builtin "len") (fun xs H Q=>∃p ys,xs=[.ref p]/\(SqL K H p ys\/SqT K H p ys)/\Q (.int ys.length) H):=by
 subst hK;exact bh
section
variable{P:Program}{w:World}{K:Frag}{mg:Str->Option Value}{base:Heap}{f:Addr}{fd:FuncData}
theorem ndB:(["_law_turn","_law_state_here","_law_clips_here"]:List Str).Nodup:=by decide +kernel
theorem scB:FnScope ["_law_state_here","_law_years","_law_most","_law_clips_here","_law_promises","_law_sales","_law_turn","_law_sale_here"] ["_law_state_here","_law_years","_law_most"] (aJ (top 73)):=fQS
theorem ok_book(F:Fun K "_law_book" "_law_book" (top 73) f fd)(T:Mg mg)(Tr:mg "range"=none)(Tl:mg "len"=none)(c1:Cal P w K mg base 1 "_law_choice" ["_law_state_here","_law_many"] spChoice)(c2:Cal P w K mg base 2 "_law_clips" ["_law_state_here","_law_most"] xO)(c3:Cal P w K mg base 2 "_law_promise" ["_law_state_here","_law_years"] spProm)(c4:Cal P w K mg base 2 "_law_sale" ["_law_state_here","_law_promises"] CK)(c5:Cal P w K mg base 1 "_law_rows" ["_law_promises","_law_sales"] K91.spRows):
  FnOk P w K mg base CX0 3 f fd ["_law_state_here","_law_years","_law_most"] spBook:=by
 refine F.ok scB (fun vs H Q E h=>?_) (fun ar A outer s H vs Q E hr h=>?_)
 .obtain⟨st,y,m,rfl,_⟩:=h;rfl
 .obtain⟨st,y,m,rfl,gi,y1,y2,m1,m2,q⟩:=h
  refine⟨_,aB (qu (i:=3) scB.nd rfl (Or.inr rfl) (aG c2 hr (au (pv 0) (au (pv 1) ao))))
   (aB (pss 4 scB.nd (cu bV rfl T.tuple boot_tuple (au (bK ["_law_turn","_law_state_here","_law_clips_here"] [none,some 0,some 3] rfl (cO rfl Tr (au (aG c1 hr (au (pv 0) (au (aW cj (pv 2) az) ao))) ao))
    (fun C fp Zt s₂ H₂=>⟨pgn 0 ndB,bH,aG c3 hr (au (pv 1) (au (aO (oh (K:=K) rfl) rfl Tl PySem.boot_len (au (pv 2) ao)) ao))⟩)
    (fun C=>cI (cI trivial)) ⟨rfl,rfl,rfl,rfl⟩) ao)))
   (aB (pss 5 scB.nd (wF fH))
   (aB (cH zBb rfl (cO rfl Tr (au (aG c1 hr (au (pv 0) (au az ao))) ao)) (pgn 6 scB.nd)
    (aB (pss 7 scB.nd (aG c4 hr (au (pv 0) (au (pv 4) ao))))
    (aD (bZ (aY zq (pX bC (aG c5 hr (au (pv 4) (au (aW op_catU (pv 5) (bB (au (pv 7) ao))) ao))) az) qm (bx _)) (aD (pss 5 scB.nd (aW op_catU (pv 5) (bB (au (pv 7) ao))))) bf))))
   (aD (aQ (bB (au (pv 3) (au (pv 4) (au (pv 5) ao)))))))))  ,?_⟩
  refine aF (aR ?_);refine⟨_,rfl,_,rfl,st,y,rfl,gi,y1,y2,fun ac xc cs H1 d1 rc lc1 Mx okc=>?_⟩;refine aM ?_;dsimp only;refine aF (aR ?_);refine⟨_,rfl,_,rfl,_,_,rfl,rfl,st,m+1,rfl,d1.sa,Zz,Zz,fun r a1 b1 pV k0 kn k1 k2 k3=>⟨r,rfl,Zz,Zz,?_⟩⟩;have d2:=(Dr.refl d1.sa).draw (c:=pV) k1 k2 k3;have C6:=d2.rows d1.sa rc;have F9:=d1.trans d2;generalize upd H1 st (.lst [.int a1,.int b1,.int pV])=H2 at d2 F9 C6⊢
  have lz:r.toNat<sizeLine:=by
   rw[sizeLine_eq];lia
  refine cz r.toNat (fun i ys σ Hc=>Dr st H2 Hc/\(∃o,σ=[o,some (.ref st),some (.ref ac)])/\∃rows:List (List Int),rows.length=i/\(∀r∈rows,K91.okP r)/\IsThs (fun _=>False) Hc ys (rows.map K91.rowD)) ⟨Dr.refl d2.sa,⟨_,rfl⟩,[],rfl,fun _ h=>(List.not_mem_nil h).elim,.nil⟩ lz ?_ ?_
  .rintro i ys σ Hc hi hy ⟨g4,⟨o,rfl⟩,rows,ip,BI,it⟩;refine⟨hi,fun v H' y R hR=>?_⟩;obtain⟨eH,rfl⟩:=y;subst H';refine aM ?_;have Pj:=g4.rows d2.sa C6;have:=rc.l;refine⟨_,rfl,_,rfl,ac,xc,rfl,.inr (SqT.of Pj.e),st,_,rfl,g4.sa,Zz,Zz,fun t My H5 d5 et Pk=>hR _ _ _ ⟨g4.trans d5,⟨_,rfl⟩,rows++[My],by rw[zA2,ip];rfl,fun x hx=>?_,?_⟩⟩
   .rcases zA6.mp hx with z|z
    .exact BI x z
    .rw[List.mem_singleton.mp z];exact Pk
   .rw[zA4];exact(d5.ths g4.sa it).append (.cons (.tup et (IsThs.ints My)) .nil)
  rintro ys σ Hc hy ⟨g4,_,ps,Uj,okp,it⟩;refine⟨zA3 _,fun D hD=>⟨D,_,rfl,.inl ⟨SqL.of aj,fun t ht=>?_⟩⟩⟩;have s6:=(Same.upd (o:=.lst ys) hD).updR (o:=.tup ys) ht;obtain⟨ap,xp,ev,rp⟩:=K91.th_rows (rs:=ps) (.tup aj (it.same s6));cases ev;have Mz:=(g4.rows d2.sa C6).same s6;have MA:=(F9.trans g4).same s6;generalize upd (upd Hc D (.lst ys)) t (.tup ys)=H3 at rp Mz MA⊢;clear C6 d2 g4 it s6 ht hD F9 rc d1;refine aM ?_;dsimp only;refine aF (aR ?_);refine⟨zL,fun e0 xb=>?_⟩;have d6:=MA.new (o:=.tup []) xb
  have r6:K91.RowsAt (upd H3 e0 (.tup [])) e0 [] []:=⟨aj,rfl,fun i r e=>by simp at e⟩
  have MB:=rp.same (Same.upd (o:=.tup []) xb);have MC:=Mz.same (Same.upd (o:=.tup []) xb);generalize upd H3 e0 (.tup [])=H4 at d6 r6 MB MC⊢;refine aM ?_;dsimp only;refine aF ?_;refine⟨_,rfl,st,7,rfl,d6.sa,by decide,by decide,fun r2 a2 b2 MD q0 qn q1 q2 q3=>⟨r2,rfl,Zz,Zz,?_⟩⟩;have d7:=(Dr.refl d6.sa).draw (c:=MD) q1 q2 q3;have ME:=d7.rows d6.sa MB;have MF:=d7.rows d6.sa MC;have r7:=d7.rows d6.sa r6;have MG:=d6.trans d7;generalize upd H4 st (.lst [.int a2,.int b2,.int MD])=H5 at MG ME MF r7⊢;refine dW (lo:=0) (n:=r2.toNat) (fun i σ Hc=>Xe5 fun a xs ss x6 x7=>Xa8 (σ=[some (.ref st),some (.int y),some (.int m),some (.ref ac),some (.ref t),some (.ref a),x6,x7]) (Dr st H Hc) (K91.RowsAt Hc ac xc cs) (K91.RowsAt Hc t xp ps) (K91.RowsAt Hc a xs ss) (ss.length<=i) ((∀s∈ss,smR s)) (K91.un ps ss=none)) ?_ ?_ ?_
  .exact⟨e0,[],[],none,none,rfl,MG,MF,ME,r7,zA3 _,(fun _ h=>nomatch h),rfl⟩
  .rintro i σ Hc hi ⟨a,xs,ss,x6,x7,rfl,g,rcc,C7,GA,ls,eJ,BN⟩;refine aM (aF ?_);refine aR ?_;refine⟨_,rfl,_,rfl,st,t,xp,ps,rfl,g.sa,C7,Zz,okp,fun t' s' H6 d8 et sm=>?_⟩;have MJ:=d8.rows g.sa rcc;have GB:=d8.rows g.sa C7;have xh:=d8.rows g.sa GA;have gd:=g.trans d8;refine aM ?_;dsimp only
   have MK:∀s∈ss++[s'],smR s:=fun s hs=>by
    rcases zA6.mp hs with z|z
    .exact eJ s z
    .rw[List.mem_singleton.mp z];exact sm
   have l5:(ss++[s']).length<=i+1:=by rw[zA2];show ss.length+1<=_;lia
   have A0:=xh.l;refine⟨_,rfl,_,rfl,_,rfl,zL,fun t1 Pl=>?_⟩;have m4:=Same.upd (o:=.tup [V.ref t']) Pl;refine⟨a,t1,xs,_,rfl,rfl,m4 _ _ xh.e,aj,by simp,by rw[A0,sizeLine_eq];show _+1<=_;lia,fun c H7 s7 ec=>?_⟩;have Pm:=rows_snoc ((xh.same m4).same s7) (s7 _ _ (m4 _ _ et)) ec;refine⟨t,xp,ps,c,_,ss++[s'],rfl,(GB.same m4).same s7,Zz,okp,Pm,Zz,fun s hs=>(MK s hs).1,fun tt fo H8 s8 Pn _=>?_⟩;have xi:=(m4.trans s7).trans s8;refine⟨tt,_,1,K91.unV (K91.un ps (ss++[s'])),rfl,rfl,SqT.of Pn,rfl,rfl,_,rfl,Dm (fun hb=>?_) fun _=>?_⟩
   .refine aR ?_;refine⟨_,rfl,_,rfl,zL,fun t2 FE=>?_⟩;have m9:=Same.upd (o:=.tup [V.ref t']) FE;refine⟨a,t2,xs,_,rfl,rfl,m9 _ _ (xi _ _ xh.e),aj,by simp,by rw[A0,sizeLine_eq];show _+1<=_;lia,fun c' H9 s9 Po=>?_⟩;have BO:=(xi.trans m9).trans s9;exact⟨c',_,ss++[s'],_,_,rfl,gd.same BO,MJ.same BO,GB.same BO,rows_snoc (xh.same BO) (BO _ _ et) Po,l5,MK,CN hb⟩
   .exact⟨a,xs,ss,_,_,rfl,gd.same xi,MJ.same xi,GB.same xi,xh.same xi,Zz,eJ,BN⟩
  .rintro σ Hc ⟨a,xs,ss,x6,x7,rfl,g,rcc,C7,GA,ls,eJ,BN⟩;refine⟨_,rfl,_,rfl,_,rfl,zL,fun b hb=>?_⟩;have mb:=Same.upd (o:=.tup [V.ref ac,V.ref t,V.ref a]) hb;exact q b ac xc cs t xp ps a xs ss _ (g.new hb) aj (rcc.same mb) lc1 Mx okc (C7.same mb) Zz okp (GA.same mb) Zz eJ BN
end
end K91Q
namespace K91
open PySem L2
def okC(r:List Int):Prop:=r.length=3/\∀x∈r,0<=x/\x<1000
theorem jF:∀(is:List Int),szs (is.map PyData.int)=is.length
 |[]=>rfl
 |i::is=>by
  show 1+szs (is.map PyData.int)=is.length+1;rw[jF is];lia
theorem jm{k:Nat}:∀{rs:List (List Int)},(∀r∈rs,r.length=k)->szs (rs.map rowD)=(k+1)*rs.length
 |[],_=>rfl
 |r::rs,h=>by
  show(1+szs (r.map PyData.int))+szs (rs.map rowD)=(k+1)*(rs.length+1);rw[jF,h r (.head _),jm fun q hq=>h q (.tail _ hq),Nat.mul_add];lia
theorem mZ:∀(is:List Int),PyData.depthAll (is.map PyData.int)=0
 |[]=>rfl
 |i::is=>by
  show max 0 (PyData.depthAll (is.map PyData.int))=0;rw[mZ is];rfl
theorem ni:∀(rs:List (List Int)),PyData.depthAll (rs.map rowD)<=1
 |[]=>zAp _
 |r::rs=>by
  show max (PyData.depthAll (r.map PyData.int)+1) (PyData.depthAll (rs.map rowD))<=1;rw[mZ];have:=ni rs;lia
theorem gA{S:Addr->Prop}{H:Hp}:∀{xs:List V} {rs:List (List Int)},Els H xs rs->IsThs S H xs (rs.map rowD)
 |[],[],_=>.nil
 |[],_::_,h=>by have:=h.1;simp at this
 |_::_,[],h=>by have:=h.1;simp at this
 |x::xs,r::rs,h=>by
  obtain⟨t,e1,e2⟩:=h.2 0 r rfl;rw[List.getElem?_cons_zero]at e1;cases e1;refine .cons (.tup e2 (IsThs.ints r)) (gA ⟨by have:=h.1;simpa using this,fun i q e=>?_⟩);obtain⟨u,g1,g2⟩:=h.2 (i+1) q (by rw[List.getElem?_cons_succ];exact e);rw[List.getElem?_cons_succ]at g1;exact⟨u,g1,g2⟩
theorem qj(rs:List (List Int)):rowsOf (bU rs)=rs:=by
 show(rs.map rowD).map (fun x=>(items x).map intOf)=rs;rw[zAr];refine(List.map_congr_left fun r _=>?_).trans (List.map_id rs);show((r.map PyData.int)).map intOf=r;rw[zAr];exact List.map_id r
theorem iD{r:List Int}{n:Nat}(h:r.length=n):bj (rowD r) n=true:=by
 show(bz (.tuple (r.map PyData.int)) n n&&(r.map PyData.int).all cP)=true;rw[zAc];refine⟨?_,List.all_eq_true.mpr fun x hx=>?_⟩
 .show(true&&(decide ((n:Int)<=(r.map PyData.int).length)&&decide (((r.map PyData.int).length:Int)<=n)))=true;rw[zA1,h,zAu (Int.le_refl _)];rfl
 .obtain⟨i,_,rfl⟩:=zA5.mp hx;rfl
theorem vW{ds:List PyData}{a b:Int}(h1:a<=ds.length)(h2:(ds.length:Int)<=b):bz (.tuple ds) a b=true:=by
 show(true&&(decide (a<=(ds.length:Int))&&decide ((ds.length:Int)<=b)))=true;rw[zAu h1,zAu h2];rfl
theorem Fv{cs ps ss:List (List Int)}(lc1:1<=cs.length)(lc:cs.length<=20)(okc:∀r∈cs,okC r)(lp:ps.length<=10)(okp:∀r∈ps,okP r)(ls:ss.length<=12)(h5:∀s∈ss,s.length=5)(hu:un ps ss=none):jL (.tuple [bU cs,bU ps,bU ss])=true:=by
 have b0:gW (bU cs)=true:=by
  show(bz (.tuple (cs.map rowD)) 1 20&&(cs.map rowD).all pN)=true;rw[vW (by rw[zA1];lia) (by rw[zA1];lia),Bool.true_and];refine List.all_eq_true.mpr fun x hx=>?_;obtain⟨r,hr,rfl⟩:=zA5.mp hx;obtain⟨h3,hb⟩:=okc r hr;show(bj (rowD r) 3&&(r.map PyData.int).all fun x=>decide (0<=intOf x)&&decide (intOf x<=999))=true;rw[show bj (rowD r) 3=true from iD h3,Bool.true_and];refine List.all_eq_true.mpr fun x hx=>?_;obtain⟨i,hi,rfl⟩:=zA5.mp hx;have:=hb i hi;show(decide (0<=i)&&decide (i<=999))=true;rw[zAu Zz,zAu Zz];rfl
 have b1:dF (bU ps)=true:=by
  show(bz (.tuple (ps.map rowD)) 0 10&&(ps.map rowD).all gY)=true;rw[vW Zz (by rw[zA1];lia),Bool.true_and];refine List.all_eq_true.mpr fun x hx=>?_;obtain⟨r,hr,rfl⟩:=zA5.mp hx;obtain⟨h6,h1,h2,h3,h4,GH⟩:=okp r hr;show(bj (rowD r) 6&&jy (at_ (rowD r) 0) (at_ (rowD r) 1) (at_ (rowD r) 2) (at_ (rowD r) 3) (at_ (rowD r) 4) (at_ (rowD r) 5))=true;rw[show bj (rowD r) 6=true from iD h6,Bool.true_and]
  have ea:∀i,i<6->at_ (rowD r) i=fl r i:=fun i hi=>by
   unfold at_ fl;show intOf ((r.map PyData.int).getD i .none)=r.getD i 0;rw[zA7,zA7,zAb,zA0 Zz];rfl
  rw[ea 0 Zx,ea 1 Zx,ea 2 Zx,ea 3 Zx,ea 4 Zx,ea 5 Zx];unfold jy;simp only[Bool.and_eq_true,Zp];exact⟨h1,h2,⟨h3.1,h3.2.1,h3.2.2⟩,h4,GH⟩
 have b2:dG (bU ss)=true:=by
  show(bz (.tuple (ss.map rowD)) 0 12&&(ss.map rowD).all fun x=>bj x 5)=true;rw[vW Zz (by rw[zA1];lia),Bool.true_and];refine List.all_eq_true.mpr fun x hx=>?_;obtain⟨r,hr,rfl⟩:=zA5.mp hx;exact iD (h5 r hr)
 show(bz (.tuple [bU cs,bU ps,bU ss]) 3 3&&(gW (bU cs)&&(dF (bU ps)&&(dG (bU ss)&&(un (rowsOf (bU ps)) (rowsOf (bU ss))).isNone))))=true;rw[b0,b1,b2,qj,qj,hu];rfl
variable{P:Program}{w:World}{K:Frag}{mg:Str->Option Value}{base:Heap}{f:Addr}{fd:FuncData}
theorem CP{r:List Int}(h:okP r):gY (rowD r)=true:=by
 obtain⟨h6,h1,h2,h3,h4,GH⟩:=h;show(bj (rowD r) 6&&jy (at_ (rowD r) 0) (at_ (rowD r) 1) (at_ (rowD r) 2) (at_ (rowD r) 3) (at_ (rowD r) 4) (at_ (rowD r) 5))=true;rw[show bj (rowD r) 6=true from iD h6,Bool.true_and]
 have ea:∀i,i<6->at_ (rowD r) i=fl r i:=fun i hi=>by
  unfold at_ fl;show intOf ((r.map PyData.int).getD i .none)=r.getD i 0;rw[zA7,zA7,zAb,zA0 Zz];rfl
 rw[ea 0 Zx,ea 1 Zx,ea 2 Zx,ea 3 Zx,ea 4 Zx,ea 5 Zx];unfold jy;simp only[Bool.and_eq_true,Zp];exact⟨h1,h2,⟨h3.1,h3.2.1,h3.2.2⟩,h4,GH⟩
theorem Gg{cs ps ss:List (List Int)}(lp:ps.length<=10)(hu:un ps ss=none)(h5:∀s∈ss,s.length=5)(okp:∀r∈ps,okP r){n:Nat}(hn:n<20):(srt (fK cs ps ss n).g).length<=100000:=by
 unfold srt;rw[(List.mergeSort_perm _ rle).length_eq];have h1:=(BP (c:=cs.getD n []) (ss:=ss) (ow:=dh cs ps ss n) (y:=n) lp 3).1;have h2:=(qd (cs:=cs) lp hu h5 okp n).2;unfold fK;lia
theorem CQ{N:Nat}{Y:Int}{r:List Int}(hN:N<=10)(hY:Y<=20)(h:kOk N Y r):kOk 10 20 r:=by
 obtain⟨a,b,c,d,e,f,g⟩:=h;exact⟨a,b,Zz,d,Zz,f,g⟩
def MvY(cs ps ss:List (List Int))(m:List Int)(r:List Int):Prop:=∃n:Nat,n<cs.length/\Ih n (srt (fK cs ps ss n).g) (srt (fK cs (ps++[m]) ss n).g) r
inductive SpMbI(vs:List V)(H:Hp)(Q:VK):Prop
 |mk:∀S bk tm d ac xc cs ap xp ps af xs ss m,(vs=[.ref bk,.ref tm])->(IsTh S H (.ref bk) d)->(sz d<=4000)->(jL d=true)->(BookAt H bk ac xc cs ap xp ps af xs ss)->(1<=cs.length)->(ps.length<10)->(H tm=some (.tup (m.map V.int)))->(okP m)->(∀l ys R H',Same H H'->H l=none->H' l=some (.lst ys)->Els H' ys R->R.length<=100000->(∀r∈R,MvY cs ps ss m r)->Q (.ref l) H')->SpMbI  vs H Q
def JW:Sp:=fun vs H Q _=>SpMbI  vs H Q
theorem scMb:FnScope ["book","promise","clips","promises","sales","late","moves","year","before","after"] ["book","promise"] (aJ (top 63)):=fQS
theorem JX(F:Fun K "moved_by" "moved_by" (top 63) f fd)(N:Nums mg)(Te:mg "enumerate"=none)(Tz:mg "zip"=none)(c1:Cal P w K mg base 7 "refuse_no_book" ["thing"] vV)(c2:Cal P w K mg base 3 "is_promise" ["thing"] (spT gY))(c3:Cal P w K mg base 1 "refuse_one_more" ["rows","most"] Cp)(c4:Cal P w K mg base 11 "gifts_by_year" ["book"] Ge)(c5:Cal P w K mg base 2 "moves_in" ["year","before","after"] JS):FnOk P w K mg base CX0 12 f fd ["book","promise"] JW:=by
 refine F.ok scMb (fun vs H Q E h=>?_) (fun ar A outer s H vs Q E hr h=>?_)
 .obtain⟨S,bk,tm,d,ac,xc,cs,ap,xp,ps,af,xs,ss,m,rfl,_⟩:=h;rfl
 .obtain⟨S,bk,tm,d,ac,xc,cs,ap,xp,ps,af,xs,ss,m,rfl,th,hz,hb,B,lc1,lp,em,fS,q⟩:=h;obtain⟨t1,e1⟩:=N.proms
  refine K91P.ok_b (aN ⟨cY (aG c1 hr (au (pv 0) ao))⟩
   (aN ⟨bZ (cX (eF (aG c2 hr (au (pv 1) ao)))) (aD fM) bf⟩
   (aN ⟨cA (pv 0) (bL rfl (aq (pgn 2 scMb.nd) (aq (pgn 3 scMb.nd) (aq (pgn 4 scMb.nd) aV))))⟩
   (aN ⟨cY (aG c3 hr (au (pv 3) (au (bR (v:=.int 10) rfl e1 ⟨_,rfl⟩) ao)))⟩
   (aN (iG 5 scMb.nd ⟨bB (au (pv 2) (au (aW K91Q.op_catU (pv 3) (bB (au (pv 1) ao))) (au (pv 4) ao)))⟩)
   (aN ⟨pss 6 scMb.nd (dw ao)⟩
   (aN ⟨cH zBb rfl (EZ.pi_q rfl Te rfl Tz (au (aG c4 hr (au (pv 0) ao)) (au (aG c4 hr (au (pv 5) ao)) ao))) (bL rfl (aq (pgn 7 scMb.nd) (aq (bL rfl (aq (pgn 8 scMb.nd) (aq (pgn 9 scMb.nd) aV))) aV)))
    (aD (jr (i:=6) scMb.nd rfl (Or.inl rfl) (aG c5 hr (au (pv 7) (au (pv 8) (au (pv 9) ao)))) lZ))⟩
   (cG (qR ⟨pv 6⟩))))))))) ?_
  refine aF ?_;refine⟨_,rfl,S,_,d,rfl,th,hz,hb,fun H1 s1=>?_⟩;dsimp only;refine aF ?_;refine⟨_,rfl,fun _=>False,.ref tm,rowD m,rfl,.tup (s1 _ _ em) (IsThs.ints m),?_,fun H2 s2=>⟨_,rfl,?_⟩⟩
  .show 1+szs (m.map PyData.int)<=4000;rw[jF,fS.1];decide
  rw[CP fS];refine bD (dM ?_);dsimp only;have k2:=s1.trans s2;have B2:=B.same k2;have ML:=k2 _ _ em;refine aF ?_;refine⟨_,rfl,bk,_,rfl,SqT.of B2.e,rfl,_,_,rfl,_,_,rfl,_,_,rfl,rfl,?_⟩;dsimp only;refine aF ?_;refine⟨_,rfl,ap,xp,10,rfl,B2.rp.e,by rw[B2.rp.l];lia,?_⟩;dsimp only;refine aF (aR ?_);refine⟨_,rfl,_,rfl,_,rfl,by show 1<=sizeLine;decide,fun u1 p9=>?_⟩;have s3:=Same.upd (o:=.tup [V.ref tm]) p9;refine⟨ap,u1,xp,_,rfl,rfl,s3 _ _ B2.rp.e,aj,by simp,by rw[B2.rp.l,sizeLine_eq];show _+1<=_;lia,fun c H4 s4 ec=>⟨_,rfl,by show 3<=sizeLine;decide,fun tn MM=>?_⟩⟩;refine aM ?_;dsimp only;have s5:=Same.upd (o:=.tup [V.ref ac,V.ref c,V.ref af]) MM;have k5:=((k2.trans s3).trans s4).trans s5;have B5:=B2.same ((s3.trans s4).trans s5);have rc:=(K91Q.rows_snoc ((B2.rp.same s3).same s4) (s4 _ _ (s3 _ _ ML)) ec).same s5
  have bN:BookAt (upd H4 tn (.tup [V.ref ac,V.ref c,V.ref af])) tn ac xc cs c (xp++[V.ref tm]) (ps++[m]) af xs ss:=⟨aj,B5.rc,B5.okc,B5.lc,rc,by rw[zA2];show ps.length+1<=10;lia,fun r' sR=>by
   rcases zA6.mp sR with z|z
   .exact B.okp r' z
   .rw[List.mem_singleton.mp z]
    exact fS,B5.rs,B5.ls,B5.h5,vP B.un⟩
  generalize upd H4 tn (.tup [V.ref ac,V.ref c,V.ref af])=H5 at bN k5 B5⊢;clear s3 s4 s5 rc ec MM p9 B2 ML;refine aF (aR ?_);refine⟨zL,fun lm nI=>?_⟩;refine aM ?_;dsimp only;have s6:=Same.upd (o:=.lst []) nI;have k6:=k5.trans s6;have Bz:H lm=none:=k5.free nI;have kX:=aj (H:=H5) (a:=lm) (o:=.lst []);have B6:=B5.same s6;have b6:=bN.same s6;generalize upd H5 lm (.lst [])=H6 at k6 kX B6 b6⊢;clear s6 nI bN B5 k5;refine cT fun c_ ck=>?_;refine⟨_,rfl,bk,cs,ps,ss,rfl,⟨_,_,_,_,_,_,B6⟩,lc1,fun l1 Pp H7 s7 n7 el1 GI Pq=>⟨_,rfl,tn,cs,ps++[m],ss,rfl,⟨_,_,_,_,_,_,b6.same s7⟩,lc1,fun l2 Pr H8 s8 n8 el2 Pt E5=>⟨l1,l2,_,_,rfl,SqL.of (s8 _ _ el1),SqL.of el2,?_⟩⟩⟩
  have m1:l1≠lm:=fun z=>by rw[z,kX]at n7;cases n7
  have m2:l2≠lm:=fun z=>by rw[z,s7 _ _ kX]at n8;cases n8
  have lc:=B.lc;refine EZ.for_q (xs:=Pp.map V.ref) (ys:=Pr.map V.ref) (fun i σ Hc=>Xe5 fun x7 x8 x9 ys R=>Xa6 (σ=[some (.ref bk),some (.ref tm),some (.ref ac),some (.ref ap),some (.ref af),some (.ref tn),some (.ref lm),x7,x8,x9]) ((∀b o,b≠lm->H8 b=some o->Hc b=some o)) (Hc lm=some (.lst ys)) (Els Hc ys R) (R.length<=3200*i) (∀r∈R,MvY cs ps ss m r)) (by rw[zA1,zA1,GI,Pt]) ?_ ?_ ?_ ?_
  .exact⟨none,none,none,[],[],rfl,fun _ _ _ e=>e,s8 _ _ (s7 _ _ kX),Els.nil,zA3 _,fun r hr=>(by cases hr)⟩
  .rintro i σ Hc hi ⟨x7,x8,x9,ys,R,rfl,kp,_⟩;exact⟨SqL.of (kp _ _ m1 (s8 _ _ el1)),SqL.of (kp _ _ m2 el2)⟩
  .rintro i x y σ Hc T U hx hy ⟨x7,x8,x9,ys,R,rfl,kp,nK,cq,lR,mm⟩ hT hU tu;rw[zAb]at hx hy;obtain⟨g1,h1,rfl⟩:=Option.map_eq_some_iff.mp hx;obtain⟨g2,h2,rfl⟩:=Option.map_eq_some_iff.mp hy;have hi:i<cs.length:=by rw[<-GI];exact(zAa.mp h1).1
   obtain⟨Pu,q1,a1,b1⟩:=Pq i g1 h1;obtain⟨Pw,q2,a2,b2⟩:=E5 i g2 h2
   have o1:g1≠lm:=fun z=>by rw[z,kX]at q1;cases q1
   have o2:g2≠lm:=fun z=>by rw[z,s7 _ _ kX]at q2;cases q2
   have vT:=Same.upd (o:=.tup [V.ref g1,V.ref g2]) hT;have Px:upd Hc T (.tup [V.ref g1,V.ref g2]) U=none:=by rw[aA tu.symm];exact hU
   have vU:=Same.upd (o:=.tup [.int i,V.ref T]) Px;have v:=vT.trans vU;have eT:=vU _ _ (aj (H:=Hc) (a:=T) (o:=.tup [V.ref g1,V.ref g2]));have eU:=aj (H:=upd Hc T (.tup [V.ref g1,V.ref g2])) (a:=U) (o:=.tup [.int i,V.ref T]);generalize upd (upd Hc T (.tup [V.ref g1,V.ref g2])) U (.tup [.int i,V.ref T])=Hd at v eT eU⊢;have MN:∀b z,H8 b=some (.tup z)->Hc b=some (.tup z):=fun b z e=>kp b _ (fun w=>by rw[w,s8 _ _ (s7 _ _ kX)]at e;cases e) e;have GL:(ps++[m]).length<=10:=by rw[zA2];show ps.length+1<=10;lia
   refine⟨U,_,rfl,SqT.of eU,rfl,_,_,rfl,?_⟩;refine⟨_,_,rfl,⟨T,_,rfl,SqT.of eT,rfl,_,_,rfl,_,_,rfl,rfl,?_⟩⟩;refine⟨rfl,?_⟩;refine⟨_,rfl,_,rfl,_,rfl,_,rfl,i,g1,Pu,srt (fK cs ps ss i).g,g2,Pw,srt (fK cs (ps++[m]) ss i).g,rfl,v _ _ (kp _ _ o1 (s8 _ _ a1)),((b1.same s8).keep MN).same v,fun r hr=>CQ B.lp Zz (xN i r hr),Gg B.lp B.un B.h5 B.okp Zz,v _ _ (kp _ _ o2 a2),(b2.keep MN).same v,fun r hr=>CQ GL Zz (xN i r hr),Gg GL (vP B.un) B.h5 b6.okp Zz,fun l zs R2 He se nl GN BQ Uk Bn=>?_⟩
   have ll:l≠lm:=fun z=>by rw[z,v _ _ nK]at nl;cases nl
   refine⟨lm,l,ys,zs,rfl,rfl,se _ _ (v _ _ nK),GN,?_,?_⟩
   .rw[cq.1,BQ.1,sizeLine_eq];lia
   have tp:∀{o:HO} b z,He b=some (.tup z)->upd He lm o b=some (.tup z):=fun b z e=>by
    rw[aA fun w=>by rw[w,se _ _ (v _ _ nK)]at e;cases e];exact e
   refine⟨_,_,_,ys++zs,R++R2,rfl,fun b o n e=>?_,aj,(((cq.same v).same se).app BQ).keep tp,?_,fun r hr=>?_⟩
   .rw[aA n];exact se _ _ (v _ _ (kp b o n e))
   .rw[zA2];lia
   .rcases zA6.mp hr with z|z
    .exact mm r z
    .exact⟨i,hi,Bn r z⟩
  .rintro σ Hc ⟨x7,x8,x9,ys,R,rfl,kp,nK,cq,lR,mm⟩;rw[zA1,GI]at lR;refine ck _ _ ?_;clear ck c_;exact⟨_,rfl,q lm ys R Hc (fun b o e=>kp b o (aC e Bz) (s8 _ _ (s7 _ _ (k6 _ _ e)))) Bz nK cq Zz mm⟩
structure TB(H:Hp)(bk ac:Addr)(xc:List V)(cs:List (List Int))(ap:Addr)(xp:List V)(ps:List (List Int))(af:Addr)(xs:List V)(ss:List (List Int)):Prop where
 b:BookAt H bk ac xc cs ap xp ps af xs ss
 okc:∀r∈cs,okC r
 lc1:1<=cs.length
section
variable{H H':Hp}{bk ac:Addr}{xc:List V}{cs:List (List Int)}{ap:Addr}{xp:List V}{ps:List (List Int)}{af:Addr}{xs:List V}{ss:List (List Int)}
theorem TB.same(h:TB H bk ac xc cs ap xp ps af xs ss)(s:Same H H'):TB H' bk ac xc cs ap xp ps af xs ss:=⟨h.b.same s,h.okc,h.lc1⟩
theorem TB.keep(h:TB H bk ac xc cs ap xp ps af xs ss)(k:∀b l,H b=some (.tup l)->H' b=some (.tup l)):TB H' bk ac xc cs ap xp ps af xs ss:=⟨⟨k _ _ h.b.e,h.b.rc.keep k,h.b.okc,h.b.lc,h.b.rp.keep k,h.b.lp,h.b.okp,h.b.rs.keep k,h.b.ls,h.b.h5,h.b.un⟩,h.okc,h.lc1⟩
theorem TB.th(h:TB H bk ac xc cs ap xp ps af xs ss):IsTh (fun _=>False) H (.ref bk) (.tuple [bU cs,bU ps,bU ss]):=.tup h.b.e (.cons h.b.rc.th (.cons h.b.rp.th (.cons h.b.rs.th .nil)))
theorem TB.sz(h:TB H bk ac xc cs ap xp ps af xs ss):L2.sz (.tuple [bU cs,bU ps,bU ss])<=4000:=by
 show 1+((1+szs (cs.map rowD))+((1+szs (ps.map rowD))+((1+szs (ss.map rowD))+0)))<=4000;rw[jm (k:=3) fun r hr=>(h.okc r hr).1,jm (k:=6) fun r hr=>(h.b.okp r hr).1,jm (k:=5) h.b.h5];have:=h.b.lc;have:=h.b.lp;have:=h.b.ls;lia
theorem TB.ok(h:TB H bk ac xc cs ap xp ps af xs ss):jL (.tuple [bU cs,bU ps,bU ss])=true:=Fv h.lc1 h.b.lc h.okc h.b.lp h.b.okp h.b.ls h.b.h5 h.b.un
theorem TB.by_{R:List (List Int)->List (List Int)->List (List Int)->Int->VK->Hp->Prop}{y:Int}{Q:VK}(h:TB H bk ac xc cs ap xp ps af xs ss)(y0:0<=y)(y1:y<cs.length)(q:R cs ps ss y Q H):sy R [.ref bk,.int y] H Q E0:=
 ⟨fun _=>False,bk,y,_,ac,xc,cs,ap,xp,ps,af,xs,ss,rfl,h.th,h.sz,h.ok,h.b,y0,y1,q⟩
end
theorem uO:∀rs:List (List Int),PyData.canLayAll0 (rs.map rowD)=true
 |[]=>rfl
 |r::rs=>by simp[PyData.canLayAll0,PyData.canLay0,rowD,uw r,uO rs]
theorem jn:∀rs:List (List Int),PySem.SeqAt.noMixAll (rs.map rowD) (rs.map rowD)=true
 |[]=>rfl
 |r::rs=>by simp[PySem.SeqAt.noMixAll,PySem.SeqAt.noMix,rowD,uz r,jn rs]
theorem sG(rs:List (List Int)):PySem.SeqAt.shaped (.list (rs.map rowD))=true:=by
 show(PyData.canLayAll0 (rs.map rowD)&&decide (PyData.depthAll (rs.map rowD)+1<=64))=true;rw[uO,zAu (by have:=ni rs;lia)];rfl
theorem CT{A:Around}{k:Nat}(hr:Room k A):A.units+64<cLine:=by
 have:=hr.un;lia
def ou(ps:List (List Int))(s:Int)(r:List Int):Bool:=decide (fl (ps.getD (fl r 1).toNat []) 1<s)
inductive SpBetI(vs:List V)(H:Hp)(Q:VK):Prop
 |mk:∀bk y s ac xc cs ap xp ps af xs ss,(vs=[.ref bk,.int y,.int s])->(TB H bk ac xc cs ap xp ps af xs ss)->(0<=y)->(y<cs.length)->(∀l zs H',Same H H'->H' l=some (.lst zs)->Els H' zs ((dh cs ps ss (y.toNat+1)).filter (ou ps s))->Q (.ref l) H')->SpBetI  vs H Q
def Gh:Sp:=fun vs H Q _=>SpBetI  vs H Q
theorem KR:(["_law_one","_law_book_here","_law_sort"]:List Str).Nodup:=by decide +kernel
theorem KY:FnScope ["_law_book_here","_law_year","_law_sort"] ["_law_book_here","_law_year","_law_sort"] (aJ (top 74)):=fQS
theorem JZ(F:Fun K "_law_better" "_law_better" (top 74) f fd)(c1:Cal P w K mg base 12 "owed_by" ["book","year"] (sy uL)):FnOk P w K mg base CX0 13 f fd ["_law_book_here","_law_year","_law_sort"] Gh:=by
 refine F.ok KY (fun vs H Q E h=>?_) (fun ar A outer s H vs Q E hr h=>?_)
 .obtain⟨bk,y,s,ac,xc,cs,ap,xp,ps,af,xs,ss,rfl,_⟩:=h;rfl
 .obtain⟨bk,y,so,ac,xc,cs,ap,xp,ps,af,xs,ss,rfl,B,y0,y1,q⟩:=h;refine⟨_,aD (aQ (bK ["_law_one","_law_book_here","_law_sort"] [none,some 0,some 2] rfl (cF (aG c1 hr (au (pv 0) (au (pv 1) ao)))) (fun C fp Zt s₂ H₂=>⟨pgn 0 KR,iw (aY gB (pX (K91P.ix_tupK (K:=K) rfl) (pX (K91P.ix_tupK (K:=K) rfl) (pX (K91P.ix_tupK (K:=K) rfl) (pv 1) az) (pX (K91P.ix_tupK (K:=K) rfl) (pv 0) az)) az) (pv 2) (bx _)),pv 0⟩) (fun C=>cI (cI trivial)) ⟨rfl,rfl,rfl,rfl⟩)),?_⟩;refine⟨_,rfl,_,rfl,B.by_ y0 y1 fun k xk H1 s1 nk _ ek ij=>⟨k,rfl,⟨_,SqL.of ek⟩,?_⟩⟩;obtain⟨pE,L4⟩:=qd (cs:=cs) B.b.lp B.b.un B.b.h5 B.b.okp (y.toNat+1);have lc:=B.b.lc;have B1:=B.same s1;generalize dh cs ps ss (y.toNat+1)=ow at q ij pE L4;refine fY ow.length (fun i ys σ Hc=>Hc=H1/\(∃o1,σ=[o1,some (.ref bk),some (.int so)])/\Els H1 ys ((ow.take i).filter (ou ps so))) ⟨rfl,⟨_,rfl⟩,Els.nil⟩ Zu ?_ ?_
  .rintro i ys σ Hc hi hy ⟨rfl,⟨o1,rfl⟩,ht⟩;obtain⟨t,ex,et⟩:=ij.2 i ow[i] (zA0 hi);obtain⟨l4,n0,n1,_⟩:=pE _ (zAh hi);have pj:=et;rw[dB l4]at pj;obtain⟨p,hp,ep,op⟩:=prom_ok B.b.okp n0 n1;obtain⟨tp,eM,fR⟩:=rows_at B1.b.rp n0 hp;rw[six_row op.1]at fR
   have df:(ow.take (i+1)).filter (ou ps so)=(ow.take i).filter (ou ps so)++(if fl p 1<so then[ow[i]]else[]):=by
    rw[zAj,zA0 hi,show(some ow[i]).toList=[ow[i]]from rfl,List.filter_append];congr 1;by_cases h:fl p 1<so
    .rw[zAz h,zBd (by unfold ou;rw[ep];exact zAu h)];rfl
    .rw[zAx h,zBc (by unfold ou;rw[ep,Zp];exact h)];rfl
   refine⟨⟨_,_,SqL.of ek,ex⟩,fun v H' y R hR=>?_⟩;obtain⟨rfl,y⟩:=y;have hv:=y _ (SqL.of ek);rw[ex]at hv;cases hv;refine aM ?_;refine⟨_,rfl,bk,_,1,.ref ap,rfl,rfl,SqT.of B1.b.e,rfl,_,rfl,t,_,1,.int (fl ow[i] 1),rfl,rfl,SqT.of pj,rfl,ap,xp,fl ow[i] 1,.ref tp,rfl,rfl,SqT.of B1.b.rp.e,eM,tp,_,1,.int (fl p 1),rfl,rfl,SqT.of fR,rfl,_,rfl,_,_,rfl,rfl,_,rfl,?_⟩;by_cases h:fl p 1<so
   .rw[zAz h]at df;rw[zAu h];refine bQ ⟨_,rfl,hR _ _ _ ?_ ⟨rfl,⟨_,rfl⟩,?_⟩⟩
    .rw[zA2];show _+1<=_;lia
    .rw[df];exact ht.app (Els.one et)
   .rw[zAx h,zAn]at df;rw[zB5 h];exact bD (hR _ _ _ Zz ⟨rfl,⟨_,rfl⟩,by rw[df];exact ht⟩)
  .rintro ys σ Hc hy ⟨rfl,_,ht⟩;rw[zAm]at ht;refine⟨⟨_,SqL.of ek,by rw[ij.1];exact zA3 _⟩,fun D hD=>?_⟩;have u:=Same.upd (o:=.lst ys) hD;exact q D ys _ (s1.trans u) aj (ht.same u)
theorem K1{A B:List (List Int)}{k:List Key}(h:(A.filter fun r=>decide (bF r=k))=B.filter fun r=>decide (bF r=k)):gvK A k=gvK B k:=by
 unfold gvK;rw[uM,uM,h]
theorem Fw{r q:List Int}(h:bF r=bF q):fl r 1=fl q 1:=by
 unfold bF at h;simp at h;exact h.2.1
theorem xP{ps:List (List Int)}{S:Nat}{q:List Int}(hb:bet ps S q=true)(A:List (List Int)):(A.filter fun r=>decide (bF r=bF q))=(A.filter (bet ps S)).filter fun r=>decide (bF r=bF q):=by
 rw[List.filter_filter];refine List.filter_congr fun r _=>?_;by_cases e:bF r=bF q
 .rw[zAu e,Bool.true_and];unfold bet at hb⊢;rw[Fw e];exact hb.symm
 .rw[zB5 e];rfl
section
variable{cs ps ss:List (List Int)}{m r:List Int}
theorem K3(lp:ps.length<10)(hu:un ps ss=none)(h5:∀s∈ss,s.length=5)(okp:∀r∈ps,okP r)(fS:okP m)(h:MvY cs ps ss m r):∃n k0 k1 k2 b a:Int,r=[n,k0,k1,k2,b,a]/\¬n<fl m 2/\0<=k1/\k1<ps.length+1/\¬fl ((ps++[m]).getD k1.toNat []) 1<fl m 1/\b≠a:=by
 obtain⟨n,hn,q,hq,rfl,ne⟩:=h;have GL:(ps++[m]).length=ps.length+1:=by rw[zA2];rfl
 have kq:kOk (ps++[m]).length (n+1) q:=by
  rcases hq with z|z
  .have:=xN n q z;exact⟨this.1,this.2.1,this.2.2.1,this.2.2.2.1,by have:=this.2.2.2.2.1;lia,this.2.2.2.2.2⟩
  .exact xN n q z
 obtain⟨_,_,_,k0,k1,_⟩:=kq;refine⟨n,fl q 0,fl q 1,fl q 2,_,_,rfl,fun z=>ne ?_,k0,Zz,fun z=>ne ?_,ne⟩
 .have:=Ca (cs:=cs) (cs2:=cs) (ps:=ps) (fr:=[m]) (ss:=ss) (lt:=[]) (Y:=n+1) (fun _ _=>rfl) (fun r hr=>by rw[List.mem_singleton.mp hr];lia) (fun s hs=>by cases hs) Zz hu h5 okp (Nat.lt_succ_self n);rw[zAn]at this;rw[this]
 .have o2:=fS.2.2.1
  obtain⟨S,eS⟩:∃S:Nat,fl m 1=S:=⟨(fl m 1).toNat,Zz⟩
  have AS:bet (ps++[m]) S q=true:=zAu (by rw[<-eS];exact z)
  have ay:fl q 1<ps.length:=by
   rcases Int.lt_or_le (fl q 1) ps.length with w|w
   .exact w
   .have e:(fl q 1).toNat=ps.length:=Zz
    rw[e,zA7,zB3 (zA3 _),Nat.sub_self]at z;exact absurd z (Int.lt_irrefl _)
  have hb:bet ps S q=true:=by rw[<-Fe (fr:=[m]) k0 ay];exact AS
  exact K1 ((xP hb _).trans ((congrArg _ (I9 eS Zz n).symm).trans (xP AS _).symm))
theorem K4(fS:okP m)(n:Nat):(dh cs (ps++[m]) ss n).filter (ou (ps++[m]) (fl m 1))=(dh cs ps ss n).filter (ou ps (fl m 1)):=by
 have o2:=fS.2.2.1
 obtain⟨S,eS⟩:∃S:Nat,fl m 1=S:=⟨(fl m 1).toNat,Zz⟩
 have:∀q:List (List Int),ou q (fl m 1)=bet q S:=fun q=>by
  funext r;unfold ou bet;rw[eS]
 rw[this,this,vR eS Zz]
end
section
variable{H:Hp}{bk ac:Addr}{xc:List V}{cs:List (List Int)}{ap:Addr}{xp:List V}{ps:List (List Int)}{af:Addr}{xs:List V}{ss:List (List Int)}
theorem TB.more{b c tm:Addr}{m:List Int}(h:TB H bk ac xc cs ap xp ps af xs ss)(lp:ps.length<10)(fS:okP m)(em:H tm=some (.tup (m.map V.int)))(ec:H c=some (.tup (xp++[.ref tm])))(eb:H b=some (.tup [.ref ac,.ref c,.ref af])):TB H b ac xc cs c (xp++[.ref tm]) (ps++[m]) af xs ss:=
 ⟨⟨eb,h.b.rc,h.b.okc,h.b.lc,K91Q.rows_snoc h.b.rp em ec,by rw[zA2];show ps.length+1<=10;lia,fun r hr=>by
  rcases zA6.mp hr with z|z
  .exact h.b.okp r z
  .rw[List.mem_singleton.mp z]
   exact fS,h.b.rs,h.b.ls,h.b.h5,vP h.b.un⟩,h.okc,h.lc1⟩
theorem TB.long{b c tm:Addr}{m:List Int}(h:TB H bk ac xc cs ap xp ps af xs ss)(lc:cs.length<20)(fS:okC m)(em:H tm=some (.tup (m.map V.int)))(ec:H c=some (.tup (xc++[.ref tm])))(eb:H b=some (.tup [.ref c,.ref ap,.ref af])):TB H b c (xc++[.ref tm]) (cs++[m]) ap xp ps af xs ss:=by
 have ok:∀r∈cs++[m],okC r:=fun r hr=>by
  rcases zA6.mp hr with z|z
  .exact h.okc r z
  .rw[List.mem_singleton.mp z];exact fS
 exact⟨⟨eb,K91Q.rows_snoc h.b.rc em ec,fun r hr=>⟨(ok r hr).1,fun x hx=>((ok r hr).2 x hx).1⟩,by rw[zA2];show cs.length+1<=20;lia,h.b.rp,h.b.lp,h.b.okp,h.b.rs,h.b.ls,h.b.h5,h.b.un⟩,ok,by rw[zA2];show 1<=cs.length+1;lia⟩
theorem Fx{clip:List Int}(h:TB H bk ac xc cs ap xp ps af xs ss){n:Nat}(hn:n<cs.length):fK (cs++[clip]) ps ss n=fK cs ps ss n/\dh (cs++[clip]) ps ss (n+1)=dh cs ps ss (n+1):=by
 have hc:∀j,j<cs.length->(cs++[clip]).getD j []=cs.getD j []:=fun j hj=>fZ hj;have h1:=Ca (cs:=cs) (cs2:=cs++[clip]) (ps:=ps) (fr:=[]) (ss:=ss) (lt:=[]) hc (fun _ hr=>by cases hr) (fun _ hr=>by cases hr) h.b.lp h.b.un h.b.h5 h.b.okp hn;have h2:=vO (cs:=cs) (cs2:=cs++[clip]) (ps:=ps) (fr:=[]) (ss:=ss) (lt:=[]) hc (fun _ hr=>by cases hr) (fun _ hr=>by cases hr) h.b.lp h.b.un h.b.h5 h.b.okp (n+1) hn;rw[zAn,zAn]at h1 h2;exact⟨h1,h2⟩
end
inductive SpLawI(K:Frag)(vs:List V)(H:Hp)(Q:VK):Prop
 |mk:∀(a:Addr) (ns:List Int),(vs=[.ref a])->(SqL K H a (ns.map V.int))->(ns.length<=63)->(∀H',Q (.bl true) H')->SpLawI K vs H Q
def xQ(K:Frag):Sp:=fun vs H Q _=>SpLawI K vs H Q
theorem yV:bootBuiltins "max"=some (.builtin "max"):=by decide +kernel
theorem yW:bootBuiltins "min"=some (.builtin "min"):=by decide +kernel
theorem KZ:(["_law_sort","_law_state_here"]:List Str).Nodup:=by decide +kernel
theorem scLL:FnScope ["_law_script","_law_k","_law_state_here","_law_book_here","_law_last","_law_turn","_law_more","_law_wider","_law_year","_law_due","_law_number","_law_holder","_law_before","_law_after","_law_clip","_law_longer"] ["_law_script"] (aJ (top 75)):=fQS
theorem Ii(F:Fun K "law" "law" (top 75) f fd)(T:Mg mg)(Tr:mg "range"=none)(Tm:mg "max"=none)(Tn:mg "min"=none)
  (c0:Cal P w K mg base 1 "_law_choice" ["_law_state_here","_law_many"] K91P.spChoice) (c1:Cal P w K mg base 2 "_law_state" ["_law_script","_law_k"] (K91P.spState K)) (c2:Cal P w K mg base 3 "_law_book" ["_law_state_here","_law_years","_law_most"] K91Q.spBook) (c3:Cal P w K mg base 2 "_law_promise" ["_law_state_here","_law_years"] K91Q.spProm)
  (cm:Cal P w K mg base 12 "moved_by" ["book","promise"] JW) (cb:Cal P w K mg base 13 "_law_better" ["_law_book_here","_law_year","_law_sort"] Gh) (cg:Cal P w K mg base 11 "gifts_in" ["book","year"] (sy Ci)) (co:Cal P w K mg base 12 "owed_by" ["book","year"] (sy uL)):FnOk P w K mg base CX0 63 f fd ["_law_script"] (xQ K):=by
 refine F.ok scLL (fun vs H Q E h=>?_) (fun ar A outer s H vs Q E hr h=>?_)
 .obtain⟨a,ns,rfl,_⟩:=h;rfl
 .obtain⟨a,ns,rfl,hS,hl,q⟩:=h
  refine K91P.ok_b (aN ⟨cH zBb rfl (cO rfl Tr (au (aO (ir rfl) rfl Tm yV (au az (au (aO (fO rfl) rfl Tn yW (au (aO bh rfl T.len PySem.boot_len (au (pv 0) ao)) (au az ao))) ao))) ao)) (pgn 1 scLL.nd)
   (jJ (aN (qQ (i:=2) scLL.nd rfl (Or.inr rfl) ⟨aG c1 hr (au (pv 0) (au (pv 1) ao))⟩)
   (aN (iG 3 scLL.nd ⟨aG c2 hr (au (pv 2) (au az (au az ao)))⟩)
   (aN (iG 4 scLL.nd ⟨aW fG (aO bh rfl T.len PySem.boot_len (au (pX bC (pv 3) az) ao)) az⟩)
   (aN ⟨cH zBb rfl (cO rfl Tr (au az ao)) (pgn 5 scLL.nd)
    (jJ (aN (iG 6 scLL.nd ⟨aG c3 hr (au (pv 2) (au (aO bh rfl T.len PySem.boot_len (au (pX bC (pv 3) az) ao)) ao))⟩)
    (aN (iG 7 scLL.nd ⟨bB (au (pX bC (pv 3) az) (au (aW K91Q.op_catU (pX bC (pv 3) az) (bB (au (pv 6) ao))) (au (pX bC (pv 3) az) ao)))⟩)
    (aN ⟨cH zBb rfl (cF (aG cm hr (au (pv 3) (au (pv 6) ao)))) (bL rfl (aq (pgn 8 scLL.nd) (aq (pgn 9 scLL.nd) (aq (pgn 10 scLL.nd) (aq (pgn 11 scLL.nd) (aq (pgn 12 scLL.nd) (aq (pgn 13 scLL.nd) aV)))))))
     (aD (bZ (PW.pt (km (aY gB (pv 8) (pX bC (pv 6) az) (bx _)) (km (aY gB (pX bC (pX bC (pX bC (pv 7) az) (pv 10)) az) (pX bC (pv 6) az) (bx _)) (qt (aY kE (pv 12) (pv 13) (bx _)))))) (aD (aQ jG)) bf))⟩
    (cG ⟨bZ (aY (vB (S:=fun _=>True) (CT hr)) (aG cb hr (au (pv 7) (au (pv 4) (au (pX bC (pv 6) az) ao)))) (aG cb hr (au (pv 3) (au (pv 4) (au (pX bC (pv 6) az) ao)))) (bx _)) (aD (aQ jG)) bf⟩)))))⟩
   (aN (iG 14 scLL.nd ⟨cu bV rfl T.tuple boot_tuple (au (bK ["_law_sort","_law_state_here"] [none,some 2] rfl (cO rfl Tr (au az ao)) (fun C fp Zt s₂ H₂=>⟨pgn 0 KZ,bH,aG c0 hr (au (pv 1) (au az ao))⟩) (fun C=>cI trivial) ⟨rfl,rfl,rfl,rfl⟩) ao)⟩)
   (cG ⟨bZ (aY gB (aO bh rfl T.len PySem.boot_len (au (pX bC (pv 3) az) ao)) az (bx _))
    (jJ (aN (iG 15 scLL.nd ⟨bB (au (aW K91Q.op_catU (pX bC (pv 3) az) (bB (au (pv 14) ao))) (au (pX bC (pv 3) az) (au (pX bC (pv 3) az) ao)))⟩)
    (aN (iG 8 scLL.nd ⟨aG c0 hr (au (pv 2) (au (aO bh rfl T.len PySem.boot_len (au (pX bC (pv 3) az) ao)) ao))⟩)
    (cG ⟨bZ (PW.pt (km (aY (vB (S:=fun _=>True) (CT hr)) (aG cg hr (au (pv 15) (au (pv 8) ao))) (aG cg hr (au (pv 3) (au (pv 8) ao))) (bx _)) (qt (aY (vB (S:=fun _=>True) (CT hr)) (aG co hr (au (pv 15) (au (pv 8) ao))) (aG co hr (au (pv 3) (au (pv 8) ao))) (bx _))))) (aD (aQ jG)) bf⟩)))) bf⟩)))))))⟩
   (cG (qR Jb))) ?_
  refine aF ?_;have Ul:(ns.map V.int).length<=63:=by rw[zA1];exact hl
  refine⟨_,rfl,a,_,rfl,.inl hS,_,_,rfl,_,_,rfl,_,rfl,?_,?_,?_⟩
  .split<;>split<;>lia
  .split<;>split<;>lia
  refine dW (lo:=0) (fun i σ Hc=>Xe15 fun x1 x2 x3 x4 x5 x6 x7 x8 x9 y1 y2 y3 y4 y5 y6=>Xa2 (σ=[some (.ref a),x1,x2,x3,x4,x5,x6,x7,x8,x9,y1,y2,y3,y4,y5,y6]) (Same H Hc)) ?_ ?_ ?_
  .exact⟨none,none,none,none,none,none,none,none,none,none,none,none,none,none,none,rfl,Same.refl H⟩
  .rintro i σ H1 hi ⟨x1,x2,x3,x4,x5,x6,x7,x8,x9,y1,y2,y3,y4,y5,y6,rfl,s1⟩;refine aM ?_;refine yL fun De BC=>?_;refine aF (aR ?_);refine⟨_,rfl,_,rfl,a,ns,_,rfl,s1.seq hS,Zz,fun st x y z hn Fm Py tq=>?_⟩;have Pz:H st=none:=s1.free hn
   have g1:K91P.StAt (upd H1 st (.lst [.int x,.int y,.int z])) st:=⟨x,y,z,aj,Fm,Py,tq⟩
   have s2:Same H (upd H1 st (.lst [.int x,.int y,.int z])):=s1.updR hn;generalize upd H1 st (.lst [.int x,.int y,.int z])=H2 at g1 s2⊢;refine aM ?_;dsimp only;have sN:∀{H3},K91P.Dr st H2 H3->Same H H3:=fun d b o e=>d.bt b o (s2 _ _ e) (aC e Pz);refine aF (aR ?_);refine⟨_,rfl,st,12,9,rfl,g1,by decide,by decide,by decide,by decide,fun bk ac xc cs ap xp ps af xs ss H3 d3 eb rc lc1 Mx okc rp lp okp rs ls eJ BN=>?_⟩;have PB:cs.length<=12:=Zz
   have GO:ps.length<10:=Zz
   have B3:TB H3 bk ac xc cs ap xp ps af xs ss:=⟨⟨eb,rc,fun r hr=>⟨(okc r hr).1,fun x hx=>((okc r hr).2 x hx).1⟩,Zz,rp,Zz,okp,rs,Zz,fun s hs=>(eJ s hs).1,BN⟩,okc,lc1⟩
   have PD:=rc.l;clear rc rp rs eJ;refine aM ?_;dsimp only;refine aF (aR ?_);refine⟨_,rfl,bk,_,0,.ref ac,rfl,rfl,SqT.of eb,rfl,ac,xc,rfl,.inr (SqT.of B3.b.rc.e),_,_,rfl,rfl,?_⟩;refine aM ?_;dsimp only;refine cT fun c_ ck=>?_;refine⟨_,rfl,by decide,by decide,?_⟩;refine dW (lo:=0) (fun j σ Hc=>Xe9 fun x5 x6 x7 x8 x9 y1 y2 y3 y4=>Xa2 (σ=[some (.ref a),some (.int (0+(i:Int))),some (.ref st),some (.ref bk),some (.int ((xc.length:Int)-1)),x5,x6,x7,x8,x9,y1,y2,y3,y4,y5,y6]) (K91P.Dr st H3 Hc)) ?_ ?_ ?_
   .exact⟨_,_,_,_,_,_,_,_,_,rfl,K91P.Dr.refl d3.sa⟩
   .rintro j σ Hc hj ⟨x5,x6,x7,x8,x9,y1,y2,y3,y4,rfl,dc⟩;refine aM ?_;refine yL fun OV GS=>?_;have Bc:=B3.keep (dc.tups d3.sa);refine aF (aR ?_);refine⟨_,rfl,_,rfl,bk,_,0,.ref ac,rfl,rfl,SqT.of Bc.b.e,rfl,ac,xc,rfl,.inr (SqT.of Bc.b.rc.e),st,_,rfl,dc.sa,Zz,Zz,fun tm m H4 d4 em fS=>?_⟩;refine aM ?_;dsimp only;have B4:=Bc.keep (d4.tups dc.sa);have PF:=dc.trans d4;refine aF (aR ?_);refine⟨_,rfl,bk,_,0,.ref ac,rfl,rfl,SqT.of B4.b.e,rfl,_,rfl,bk,_,1,.ref ap,rfl,rfl,SqT.of B4.b.e,rfl,_,rfl,by show 1<=sizeLine;decide,fun u1 p9=>?_⟩;have v1:=Same.upd (o:=.tup [V.ref tm]) p9;refine⟨ap,u1,xp,_,rfl,rfl,v1 _ _ B4.b.rp.e,aj,by simp,by rw[B4.b.rp.l,sizeLine_eq];show _+1<=_;lia,fun c H5 v2 ec=>?_⟩;have va:=v1.trans v2;have B5:=B4.same va;refine⟨_,rfl,bk,_,2,.ref af,rfl,rfl,SqT.of B5.b.e,rfl,by show 3<=sizeLine;decide,fun wd MO=>?_⟩;have v3:=Same.upd (o:=.tup [V.ref ac,V.ref c,V.ref af]) MO;have B6:=B5.same v3;have v:=va.trans v3;have W6:=B6.more GO fS (v _ _ em) (v3 _ _ ec) aj;have GU:=v _ _ em;have d6:=PF.same v;generalize upd H5 wd (.tup [V.ref ac,V.ref c,V.ref af])=H6 at B6 v W6 GU d6⊢;clear v1 v2 v3 va p9 MO ec B5 B4;refine aM ?_;dsimp only;refine cT fun Um GV=>?_;refine⟨_,rfl,_,rfl,fun _=>False,bk,tm,_,ac,xc,cs,ap,xp,ps,af,xs,ss,m,rfl,B6.th,B6.sz,B6.ok,B6.b,lc1,GO,GU,fS,fun l ys R H7 s7 nl el cq lR mm=>⟨l,rfl,⟨_,SqL.of el⟩,?_⟩⟩;have B7:=B6.same s7;have W7:=W6.same s7;have lI:=s7 _ _ GU;rw[K91.six_row fS.1]at lI;refine gJ (xs:=ys) (fun k σ Hc=>Xe6 fun x8 x9 y1 y2 y3 y4=>Xa2 (σ=[some (.ref a),some (.int (0+(i:Int))),some (.ref st),some (.ref bk),some (.int ((xc.length:Int)-1)),some (.int (0+(j:Int))),some (.ref tm),some (.ref wd),x8,x9,y1,y2,y3,y4,y5,y6]) (Hc=H7)) ⟨_,_,_,_,_,_,rfl,rfl⟩ ?_ ?_ ?_
    .rintro k σ Hc hk ⟨_,_,_,_,_,_,_,rfl⟩;exact SqL.of el
    .rintro k x σ Hc hx ⟨x8,x9,y1,y2,y3,y4,rfl,rfl⟩;have hk:k<R.length:=by rw[<-cq.1];exact(zAa.mp hx).1
     obtain⟨t,ex,et⟩:=cq.2 k R[k] (zA0 hk);rw[ex]at hx;cases hx;obtain⟨n,k0,k1,k2,b,aa,er,h1,h2,h3,h4,h5⟩:=K3 GO B3.b.un B3.b.h5 okp fS (mm _ (zAh hk));rw[er]at et;obtain⟨p,hp,ep,op⟩:=prom_ok (ps:=ps++[m]) (n:=k1) W7.b.okp h2 (by rw[zA2];exact h3);obtain⟨tp,eM,fR⟩:=rows_at W7.b.rp h2 hp;rw[six_row op.1]at fR;refine⟨t,_,rfl,SqT.of et,rfl,_,_,rfl,_,_,rfl,_,_,rfl,_,_,rfl,_,_,rfl,_,_,rfl,rfl,?_⟩;dsimp only;refine⟨_,rfl,_,rfl,tm,_,2,.int (fl m 2),rfl,rfl,SqT.of lI,rfl,_,_,rfl,rfl,_,rfl,?_⟩;rw[decide_eq_false h1];refine bD ?_;refine⟨_,rfl,wd,_,1,.ref c,rfl,rfl,SqT.of W7.b.e,rfl,_,rfl,c,_,k1,.ref tp,rfl,rfl,SqT.of W7.b.rp.e,eM,tp,_,1,.int (fl p 1),rfl,rfl,SqT.of fR,rfl,_,rfl,tm,_,1,.int (fl m 1),rfl,rfl,SqT.of lI,rfl,_,_,rfl,rfl,_,rfl,?_⟩;rw[decide_eq_false (by rw[<-ep];exact h4)];refine bD ?_;refine⟨_,rfl,_,rfl,rfl,_,rfl,?_⟩;rw[decide_eq_false fun z=>h5 (by injection z)];refine bD ?_;exact⟨_,_,_,_,_,_,rfl,rfl⟩
    .rintro σ Hc ⟨x8,x9,y1,y2,y3,y4,rfl,rfl⟩;refine GV _ _ ?_;refine⟨_,rfl,_,rfl,_,rfl,tm,_,1,.int (fl m 1),rfl,rfl,SqT.of lI,rfl,wd,_,_,ac,xc,cs,c,_,_,af,xs,ss,rfl,W7,Zz,Zz,fun l1 z1 H8 s8 e1 g1=>?_⟩;rw[K4 fS]at g1;refine⟨_,rfl,_,rfl,_,rfl,tm,_,1,.int (fl m 1),rfl,rfl,SqT.of (s8 _ _ lI),rfl,bk,_,_,ac,xc,cs,ap,_,_,af,xs,ss,rfl,B7.same s8,Zz,Zz,fun l2 z2 H9 s9 e2 g2=>?_⟩;refine⟨.list (List.map rowD _),.lst trivial (s9 _ _ e1) (gA (g1.same s9)),.lst trivial e2 (gA g2),sG _,jn _,_,rfl,?_⟩;refine bD ?_;exact GS _ _ ⟨_,_,_,_,_,_,_,_,_,rfl,(d6.same s7).same (s8.trans s9)⟩
   .rintro σ Hc ⟨x5,x6,x7,x8,x9,y1,y2,y3,y4,rfl,dc⟩;refine ck _ _ ?_;have Bc:=B3.keep (dc.tups d3.sa);have dN:=d3.trans dc;clear B3 eb;refine aF (aR ?_);refine⟨_,rfl,by decide,by decide,cz 3 (fun j zs σ H5=>K91P.Dr st Hc H5/\(∃o,σ=[o,some (.ref st)])/\∃r:List Int,r.length=j/\(∀n∈r,0<=n/\n<1000)/\zs=r.map V.int) ⟨K91P.Dr.refl dc.sa,⟨_,rfl⟩,[],rfl,fun _ h=>(List.not_mem_nil h).elim,rfl⟩ Zx ?_ ?_⟩
    .rintro j zs σ H5 hj hz ⟨g5,⟨o,rfl⟩,r,lr,br,rfl⟩;refine⟨hj,fun v H' y R hR=>?_⟩;obtain⟨eH,rfl⟩:=y;subst H';refine aM ?_;refine⟨_,rfl,st,_,rfl,g5.sa,by decide,by decide,fun t a b c t0 t1 a0 b0 b1=>hR _ _ _ ⟨g5.draw a0 b0 b1,⟨_,rfl⟩,r++[t],by rw[zA2,lr];rfl,fun n hn=>?_,by rw[zA4];rfl⟩⟩;rcases zA6.mp hn with z|z
     .exact br n z
     .rw[List.mem_singleton.mp z];lia
    rintro zs σ H5 hz ⟨g5,_,r,lr,br,rfl⟩;refine⟨zA3 _,fun D hD=>⟨D,_,rfl,.inl ⟨SqL.of aj,fun t ht=>?_⟩⟩⟩;have s6:=(Same.upd (o:=.lst (r.map V.int)) hD).updR (o:=.tup (r.map V.int)) ht;have B6:=(Bc.keep (g5.tups dc.sa)).same s6;have d6:=(dN.trans g5).same s6;have et:upd (upd H5 D (.lst (r.map V.int))) t (.tup (r.map V.int)) t=some (.tup (r.map V.int)):=aj;generalize upd (upd H5 D (.lst (r.map V.int))) t (.tup (r.map V.int))=H6 at B6 d6 et⊢;clear Bc dN g5 s6 ht hD;refine aM ?_;refine⟨_,rfl,bk,_,0,.ref ac,rfl,rfl,SqT.of B6.b.e,rfl,ac,xc,rfl,.inr (SqT.of B6.b.rc.e),_,_,rfl,rfl,_,rfl,?_⟩;rw[decide_eq_true (show(xc.length:Int)<20 by lia)];refine bQ (aF ?_);refine aR ?_;refine⟨_,rfl,bk,_,0,.ref ac,rfl,rfl,SqT.of B6.b.e,rfl,_,rfl,by show 1<=sizeLine;decide,fun u1 p9=>?_⟩;have v1:=Same.upd (o:=.tup [V.ref t]) p9;refine⟨ac,u1,xc,_,rfl,rfl,v1 _ _ B6.b.rc.e,aj,by simp,by rw[PD,sizeLine_eq];show _+1<=_;lia,fun c H7 v2 ec=>?_⟩;have va:=v1.trans v2;have B7:=B6.same va;refine⟨_,rfl,bk,_,1,.ref ap,rfl,rfl,SqT.of B7.b.e,rfl,_,rfl,bk,_,2,.ref af,rfl,rfl,SqT.of B7.b.e,rfl,by show 3<=sizeLine;decide,fun lg wm=>?_⟩;have v3:=Same.upd (o:=.tup [V.ref c,V.ref ap,V.ref af]) wm;have v:=va.trans v3;have B8:=B6.same v;have L8:=B8.long Zz ⟨lr,br⟩ (v _ _ et) (v3 _ _ ec) aj;have d8:=d6.same v;generalize upd H7 lg (.tup [V.ref c,V.ref ap,V.ref af])=H8 at B8 L8 d8⊢;clear v1 v2 v3 va v p9 wm ec B6 B7 d6 et;refine aM ?_;dsimp only;refine aF (aR ?_);refine⟨_,rfl,_,rfl,bk,_,0,.ref ac,rfl,rfl,SqT.of B8.b.e,rfl,ac,xc,rfl,.inr (SqT.of B8.b.rc.e),st,_,rfl,d8.sa,Zz,Zz,fun y a b c y0 y1 a0 b0 b1=>?_⟩;have C8:=(K91P.Dr.refl d8.sa).draw (c:=c) a0 b0 b1;have B9:=B8.keep (C8.tups d8.sa);have L9:=L8.keep (C8.tups d8.sa);have d9:=d8.trans C8;generalize upd H8 st (.lst [.int a,.int b,.int c])=H9 at B9 L9 d9⊢;clear B8 L8 d8 C8;have hy:y<cs.length:=Zz
    have gx:y<(cs++[r]).length:=by rw[zA2];show y<(cs.length:Int)+1;lia
    obtain⟨eG,eO⟩:=Fx (clip:=r) B9 (n:=y.toNat) Zz;refine aM ?_;dsimp only;refine⟨_,rfl,_,rfl,L9.by_ y0 gx fun g xg Uo MP ng wo eg fg=>⟨_,rfl,_,rfl,(B9.same MP).by_ y0 hy fun g' iX Up GW MQ BU tJ fh=>?_⟩⟩;rw[eG]at fg;refine⟨.list (List.map rowD _),.lst trivial (GW _ _ eg) (gA (fg.same GW)),.lst trivial tJ (gA fh),sG _,jn _,_,rfl,?_⟩;refine bD ?_;have s':=MP.trans GW;clear ng wo eg fg MQ BU tJ fh;refine⟨_,rfl,_,rfl,(L9.same s').by_ y0 gx fun g xg Uq sM ng wo eg fg=>⟨_,rfl,_,rfl,((B9.same s').same sM).by_ y0 hy fun g' iX Ur GY MQ BU tJ fh=>?_⟩⟩;rw[eO]at fg;refine⟨.list (List.map rowD _),.lst trivial (GY _ _ eg) (gA (fg.same GY)),.lst trivial tJ (gA fh),sG _,jn _,_,rfl,?_⟩;refine bD ?_;exact BC _ _ ⟨_,_,_,_,_,_,_,_,_,_,_,_,_,_,_,rfl,sN (d9.same (s'.trans (sM.trans GY)))⟩
  .rintro σ Hc ⟨x1,x2,x3,x4,x5,x6,x7,x8,x9,y1,y2,y3,y4,y5,y6,rfl,s1⟩;exact q _
end K91
structure PySem.W.Fast:Prop where
 (tw4875492993255916544 tw11157593035173175392 tw6862880695419376800 tw7333856468063790336 tw12051079874838872352 tw7470221555997961504 tw17238560540603628928 tw15437696745580883392 tw10421607480773112352 tw2613432158826296928 tw6991880693033916032 tw12958726538193453920 tw9556628883736686625 tw2706540210299340865 tw3866455971072836737 tw12010781915285802241 tw3447387801994458465 tw5441025522132723201 tw8397806473097825793 tw3667934831241306657 tw17874403612888210145 tw6467641751743002529 tw2411237577868350786 tw4104167763087004002 tw16781322207279832578 tw7806310292725402466 tw2159460898413301730 tw11178589708870784195 tw2371047634819900643 tw12668108947845677315 tw799152395748081955 tw9478559162255496707 tw15433143069050858019 tw18391833721043793635 tw14336085034434674467 tw1013661953803962307 tw10288861437156591587 tw10745185236679008420 tw13339091173117950212 tw14648274842596386052 tw6908580346481923396 tw4760547442345290148 tw4511164214199300644 tw10941636108604538500 tw12385012163626260164 tw14623448424582922948 tw7766675792384409412 tw11062638405179682821 tw6569698685334218917 tw10596554261123092677 tw16576018416348692741 tw13159617826725756293 tw2392169538270421797 tw11542533713285451589 tw13935654213279344581 tw7041906261424483430 tw17696928278638622822 tw8689473708641103974 tw17256589805593009382 tw8368798811239592166 tw187921788085940454 tw15628750234633977190 tw5338046312596981126 tw7784605126313763206 tw16552505141784225222 tw18324560034563733958 tw10544144567832414726 tw1368908601438253574 tw1295284145382210086 tw15370409954037725766 tw2310042661381716646 tw13596619053324979878 tw7783579202598366886 tw1159428736032073446 tw10013054958543755014 tw246820430676794214 tw12239556888335332294 tw18074618524450380807 tw1725266451058791463 tw11628873036185335847 tw7002891829242070151 tw14911893196128040071 tw6743604948143410375 tw13662608955424455943 tw17325301765036247431 tw5927029268406652327 tw11048984708165678727 tw6747166778291041991 tw11547018529932195719 tw16433636724515986343 tw15280277938995559367 tw14520432561730606120 tw6192655586211099720 tw5023728992573376616 tw17375016721549385864 tw16692654881921186952 tw16784781981891249352 tw9521018326397297032 tw11840340258312984072 tw5750397074992471720 tw6412511388539422536 tw6185733413920389096 tw1430820909992230025 tw13291481489999808777 tw6677726766542719369 tw18269042763171317129 tw5247639720987264489 tw11999523759540165097 tw9862208864880359177 tw2137364906889103177 tw12652426590422456201 tw15702759303447510090 tw13452291191555355754 tw6417981684489169034 tw7366571466447668682 tw2390571350967549546 tw9393731061965351594 tw5728223658071545642 tw15098243472981469227 tw9983476309949026347 tw11622559329872178283 tw15984763435324498283 tw15264588297285358059 tw368274186665285131 tw976331116786977355 tw2147506121321101931 tw5063343442501167723 tw14542898468461532875 tw497448359288653771 tw2099502905900667980 tw17092501371470238828 tw9972889249544993964 tw16307370376115669196 tw7643695158413358380 tw14890304012272807276 tw17830395610972191148 tw10734361300245205708 tw6899589370928443405 tw15263510413357930637 tw17884524247543726253 tw44399604780901549 tw16342796614754866605 tw10083380470666635757 tw18045118192905700877 tw5656249898722411341 tw5735562593932770189 tw17254750614194478061 tw6505454260375926798 tw17451352790475126862 tw2858879193087924494 tw3447679571875676462 tw13091363214079530382 tw9808132710272597454 tw17445372908576088558 tw14313665616716766862 tw15573344496232775438 tw10000206182931725166 tw5940578581520932782 tw5031621504305855438 tw17921865150146880462 tw10086009577695516654 tw14326429909894067279 tw11540257121796718703 tw6971868681638363503 tw13007335343138638191 tw12199903408097256847 tw13149153288494243311 tw15212924945010763247 tw18203499339838910991 tw9028186186080210575 tw6796066248021641935 tw8849437037096161007 tw9403689328826614639 tw9481638145696628591 tw987315007575184335 tw16693415914947338223 tw16042561907176053776 tw9319294225493742672 tw12458709820689254480 tw12031590296595138736 tw3046507939984468208 tw9150633243338970512 tw17912261652850064 tw5292904187758764624 tw10552330286872095408 tw6955633758529118000 tw17420098231913777040 tw7153574809506267088 tw4686572576220959761 tw4346618491605783793 tw17341377281688515857 tw3423605593809000849 tw6829004374744187537 tw3168345792808088529 tw16811470030850293906 tw13703970248667741426 tw8383256339605916082 tw13429242009875168722 tw1667091448919290354 tw5088712697231650386 tw7964322799624372946 tw7956629139842237170 tw17455024111424259858 tw223333447223082770 tw6447358027887201202 tw8284959467406376882 tw11936903390446901202 tw3049511821526335442 tw16180658806065351763 tw170031292594732403 tw11507319963528656435 tw5847713928173877875 tw4206510248893507219 tw9919342382690072339 tw12481073252414367635 tw5455738653427483635 tw5178056592578634772 tw3376706098737444980 tw4109658859829130356 tw10163232894039326996 tw8797692886419381652 tw3684288467555754388 tw12295473321396586132 tw13538253121343517428 tw8810076520369375060 tw3830035644917787701 tw18280318403175473237 tw5360986776510594229 tw15712776014156853461 tw10419520305579641205 tw16766405289755645653 tw2372884837158748917 tw1060974215102099349 tw13192701595434598293 tw5068174761035162710 tw1344060244899342582 tw15096466724706675030 tw15961713919368170998 tw245679471999382070 tw14807256497088623350 tw3287036225523222358 tw2927407183515818007 tw16711148804280379447 tw120426372625274039 tw12399358425059596503 tw2291735139265333495 tw5537199980158885207 tw17900737599929473463 tw7455208626850479639 tw10949179123573186167 tw8387495936067410807 tw6721699434621609847 tw5245528370784217079 tw8163252710146068504 tw17445730984267374712 tw4457648834177530008 tw11495420603431007416 tw10233952406352637240 tw12385180069532326200 tw14372927064919499064 tw1616127739862933912 tw9304363609335798328 tw962847224965320376 tw1309437630946621176 tw5710694695658401560 tw12538496435559604024 tw6319998441104621432 tw16134346478439798712 tw512180075528766713 tw7665409619895890201 tw7259671301788556569 tw18012140605746069945 tw4301613587428683321 tw10026712668733359897 tw15341982554506590009 tw3359882181651269465 tw15221847237014472601 tw4526329909349103802 tw11502116885813463226 tw13397287673799720154 tw15493681268878333434 tw11151344869818294874 tw10743535516399690458 tw808539693684221690 tw11287326548479488826 tw8311425073733347451 tw14039035867007510683 tw17105391195752560827 tw8268405257342942427 tw6583816488838520091 tw17410376919202872635 tw436616841068364123 tw10747936414343072123 tw13132700142588682747 tw3386810603485990523 tw3049294934142592667 tw10274916387938694011 tw15350404988520297371 tw5347765925826829243 tw7897131905222334459 tw9213374229622606012 tw9286902037657897468 tw13227135116305160764 tw1356654914565951100 tw7894208549022520124 tw6510607354054121372 tw7809056785711575964 tw8334385348931061821 tw5106570287274654845 tw6519170018265934045 tw17327595487243345213 tw17493296618773473629 tw13582446894675760573 tw7394908902855500381 tw4825838120059775581 tw8529967608085695101 tw2442252414407247517 tw17796647435451856605 tw63260877727588157 tw4394725745142519645 tw1059178256652535805 tw2728128942540022846 tw17853029244110985310 tw1224967466744239294 tw6998765202647068190 tw17243482911902169758 tw10057828941311599390 tw16028455395278735166 tw16121015968870396766 tw4854200920304520062 tw8261749114569763806 tw8914357272577936382 tw13980845314667105439 tw12919619854013634847 tw15616820942237353471 tw9691965304208171551 tw5770620557215223487 tw17470969878881988351 tw7025772948586724127 tw14656846530159111135 tw7216021404631648806:True)
namespace K91
open PySem L2
theorem elZ{C:List Value->Prop}(h:C []):∀us:List Value,us.length=0->C us:=by
 intro us e
 cases us with
 |nil=>exact h
 |cons _ _=>cases e
theorem elS{C:List Value->Prop}{n:Nat}(h:∀a,∀us:List Value,us.length=n->C (a::us)):∀us:List Value,us.length=n+1->C us:=by
 intro us e
 cases us with
 |nil=>cases e
 |cons a r=>exact h a r (Nat.succ.inj e)
theorem el1{C:List Value->Prop}(h:∀a0:Value,C [a0]):∀us:List Value,us.length=1->C us:=elS (fun a0=>elZ (h a0))
theorem el2{C:List Value->Prop}(h:∀a0 a1:Value,C [a0,a1]):∀us:List Value,us.length=2->C us:=elS (fun a0=>elS (fun a1=>elZ (h a0 a1)))
theorem el3{C:List Value->Prop}(h:∀a0 a1 a2:Value,C [a0,a1,a2]):∀us:List Value,us.length=3->C us:=elS (fun a0=>elS (fun a1=>elS (fun a2=>elZ (h a0 a1 a2))))
theorem el4{C:List Value->Prop}(h:∀a0 a1 a2 a3:Value,C [a0,a1,a2,a3]):∀us:List Value,us.length=4->C us:=elS (fun a0=>elS (fun a1=>elS (fun a2=>elS (fun a3=>elZ (h a0 a1 a2 a3)))))
theorem el5{C:List Value->Prop}(h:∀a0 a1 a2 a3 a4:Value,C [a0,a1,a2,a3,a4]):∀us:List Value,us.length=5->C us:=elS (fun a0=>elS (fun a1=>elS (fun a2=>elS (fun a3=>elS (fun a4=>elZ (h a0 a1 a2 a3 a4))))))
def Has(K:Frag)(x:Str)(st:Stmt):Prop:=∃(f:Addr) (od an:Option Addr) (sl:Array (Option Value)) (oc kV dc pm cd ct:Value),PySem.W.nsIn K mainGlobals x=some (some (.ref f)) /\
 K.lookup f=some ⟨oc,od,.func (PySem.W.fnOf x x (fc st) (dJ st) (aJ st) .none kV dc pm an cd ct),sl⟩/\PySem.W.codeIn K cd x=true/\PySem.W.keepIn K (.ref f)=true
theorem has_mk{K:Frag}{x:Str}{st:Stmt}{f:Addr}{od an:Option Addr}{sl:Array (Option Value)}{oc kV dc pm cd ct:Value}(a:PySem.W.nsIn K mainGlobals x=some (some (.ref f)))
  (l:K.lookup f=some ⟨oc,od,.func (PySem.W.fnOf x x (fc st) (dJ st) (aJ st) .none kV dc pm an cd ct),sl⟩) (c:PySem.W.codeIn K cd x=true) (k:PySem.W.keepIn K (.ref f)=true):Has K x st:=⟨f,od,an,sl,oc,kV,dc,pm,cd,ct,a,l,c,k⟩
theorem Has.get{K:Frag}{x:Str}{st:Stmt}{h:Heap}{mg:Str->Option Value}(H:Has K x st)(X:K.In h)(G:h.Ns mainGlobals mg):∃f fd,Fun K x x st f fd/\mg x=some (.ref f):=by
 obtain⟨f,od,an,sl,oc,kV,dc,pm,cd,ct,a,l,c,k⟩:=H;exact⟨f,_,zx (st:=st) l c k,PySem.W.mg_of X G a⟩
theorem aU(P:Program)(w:World)(base:Heap){K:Frag}{mg:Str->Option Value}{k:Nat}{x:Str}{ps:List Str}{sp:Sp}{f:Addr}{fd:FuncData}(F:FnOk P w K mg base CX0 k f fd ps sp)(m:mg x=some (.ref f))(kp:PySem.W.keepIn K (.ref f)=true)(b:Binds K fd ps []):Cal P w K mg base k x ps sp:=⟨f,fd,F,m,kp,b⟩
theorem all_mk{l:PySem.W.OpenLaw}{w:World}{K:Frag}{h:Heap}{mg:Str->Option Value}{fa fL:Addr}{PH MR:Option Addr}{PJ:Array (Option Value)}{PL MT MU vE G0 MV:Value}{t0 t1 t2 t3 t4 t5 t6 t7 t8 t9 MW:Tok}(X:K.In h)(G:h.Ns mainGlobals mg)(PQ:mg "law"=some (.ref fa))
  (h11:Has K "is_whole" (top 11))
  (h12:Has K "is_whole_from" (top 12))
  (h13:Has K "is_tuple_of" (top 13))
  (h14:Has K "are_wholes" (top 14))
  (h25:Has K "is_clip" (top 25))
  (h26:Has K "are_clips" (top 26))
  (h27:Has K "is_promise" (top 27))
  (h28:Has K "are_promises" (top 28))
  (h29:Has K "are_sales" (top 29))
  (h31:Has K "held_in" (top 31))
  (h32:Has K "is_sale_between" (top 32))
  (h33:Has K "sale_holds" (top 33))
  (h34:Has K "first_unheld" (top 34))
  (h35:Has K "is_book" (top 35))
  (h36:Has K "refuse_no_book" (top 36))
  (h40:Has K "are_weights" (top 40))
  (h41:Has K "refuse_unpartable" (top 41))
  (h42:Has K "places_by_rest" (top 42))
  (h43:Has K "parts_of" (top 43))
  (h44:Has K "parted" (top 44))
  (h46:Has K "sacks_of" (top 46))
  (h47:Has K "claims_in" (top 47))
  (h48:Has K "shares_of" (top 48))
  (h49:Has K "made_good" (top 49))
  (h50:Has K "sort_given" (top 50))
  (h51:Has K "year_given" (top 51))
  (h52:Has K "years_given" (top 52))
  (h54:Has K "refuse_no_year_of" (top 54))
  (h55:Has K "refuse_no_year" (top 55))
  (h56:Has K "gifts_in" (top 56))
  (h58:Has K "owed_behind" (top 58))
  (h59:Has K "owed_by" (top 59))
  (h30:Has K "refuse_one_more" (top 30))
  (h53:Has K "gifts_by_year" (top 53))
  (h61:Has K "sacks_by_claim" (top 61))
  (h62:Has K "moves_in" (top 62))
  (h63:Has K "moved_by" (top 63))
  (h65:Has K "_law_cell_at" (top 65))
  (h66:Has K "_law_state" (top 66))
  (h67:Has K "_law_choice" (top 67))
  (h69:Has K "_law_rows" (top 69))
  (h70:Has K "_law_clips" (top 70))
  (h71:Has K "_law_promise" (top 71))
  (h72:Has K "_law_sale" (top 72))
  (h73:Has K "_law_book" (top 73))
  (h74:Has K "_law_better" (top 74))
  (aL:PySem.W.nsIn K mainGlobals "law"=some (some (.ref fL))) (lL:K.lookup fL=some ⟨PL,PH,.func (PySem.W.fnOf "law" "law" (fc (top 75)) (dJ (top 75)) (aJ (top 75)) .none MT MU vE MR G0 MV),PJ⟩) (cL:PySem.W.codeIn K G0 "law"=true) (kL:PySem.W.keepIn K (.ref fL)=true)
  (n0:PySem.W.nsIn K mainGlobals "SORTS"=some (some (.int 3 t0)))
  (n1:PySem.W.nsIn K mainGlobals "HOLDERS"=some (some (.int 8 t1)))
  (n2:PySem.W.nsIn K mainGlobals "LAST_YEAR"=some (some (.int 19 t2)))
  (n3:PySem.W.nsIn K mainGlobals "MOST_CLIPS"=some (some (.int 20 t3)))
  (n4:PySem.W.nsIn K mainGlobals "MOST_PROMISES"=some (some (.int 10 t4)))
  (n5:PySem.W.nsIn K mainGlobals "MOST_WOOL"=some (some (.int 999 t5)))
  (n6:PySem.W.nsIn K mainGlobals "MOST_SACKS"=some (some (.int 99 t6)))
  (n7:PySem.W.nsIn K mainGlobals "MOST_PRICE"=some (some (.int 1000000 t7)))
  (n8:PySem.W.nsIn K mainGlobals "MOST_SALES"=some (some (.int 12 t8)))
  (n9:PySem.W.nsIn K mainGlobals "MOST_WEIGHTS"=some (some (.int 80 t9)))
  (n10:PySem.W.nsIn K mainGlobals "MOST_WEIGHT"=some (some (.int 99 MW)))
  (cx:PySem.W.nsIn K mainGlobals "isinstance"=some none)
  (qa:PySem.W.nsIn K mainGlobals "int"=some none)
  (lT:PySem.W.nsIn K mainGlobals "bool"=some none)
  (iq:PySem.W.nsIn K mainGlobals "tuple"=some none)
  (l7:PySem.W.nsIn K mainGlobals "len"=some none)
  (qf:PySem.W.nsIn K mainGlobals "all"=some none)
  (ba:PySem.W.nsIn K mainGlobals "range"=some none)
  (vb:PySem.W.nsIn K mainGlobals "list"=some none)
  (ix:PySem.W.nsIn K mainGlobals "max"=some none)
  (iA:PySem.W.nsIn K mainGlobals "min"=some none)
  (qh:PySem.W.nsIn K mainGlobals "zip"=some none)
  (ax:PySem.W.nsIn K mainGlobals "enumerate"=some none)
  (dA:PySem.W.nsIn K mainGlobals "sorted"=some none)
  (fT:PySem.W.nsIn K mainGlobals "sum"=some none)
  (BY:PySem.W.nsIn K mainGlobals "set"=some none)
  : ∃fd:FuncData,(∀(s:Shared) (v:Value),BindsTo s fd ⟨[v],[]⟩ [("_law_script",v)])/\∀base:Heap,K.In base->base.Ns mainGlobals mg->FnOk l.prog w K mg base CX0 63 fa fd ["_law_script"] (xQ K):=by
 have e:=PQ.symm.trans (PySem.W.mg_of X G aL);cases e;have FL:=zx (st:=top 75) lL cL kL;obtain⟨Us,PR,G1,PU⟩:=h11.get X G;have PV:=G1.binds (ps:=["thing"]) fun _ _ _ _ _ _=>el1 fun _=>rfl;obtain⟨Ut,PX,HA,PY⟩:=h12.get X G;have PZ:=HA.binds (ps:=["thing","least","most"]) fun _ _ _ _ _ _=>el3 fun _ _ _=>rfl;obtain⟨Uu,P0,HC,P1⟩:=h13.get X G;have P2:=HC.binds (ps:=["thing","fewest","most"]) fun _ _ _ _ _ _=>el3 fun _ _ _=>rfl;obtain⟨Uv,P4,HE,P5⟩:=h14.get X G;have P6:=HE.binds (ps:=["thing","many"]) fun _ _ _ _ _ _=>el2 fun _ _=>rfl;obtain⟨Uw,P7,HG,P8⟩:=h25.get X G;have P9:=HG.binds (ps:=["thing"]) fun _ _ _ _ _ _=>el1 fun _=>rfl;obtain⟨Ux,Qa,HI,Qb⟩:=h26.get X G;have Qd:=HI.binds (ps:=["thing"]) fun _ _ _ _ _ _=>el1 fun _=>rfl;obtain⟨Uy,Qe,HK,Qf⟩:=h27.get X G;have Qg:=HK.binds (ps:=["thing"]) fun _ _ _ _ _ _=>el1 fun _=>rfl;obtain⟨Uz,Qh,HL,Qi⟩:=h28.get X G;have Qj:=HL.binds (ps:=["thing"]) fun _ _ _ _ _ _=>el1 fun _=>rfl;obtain⟨UA,Qk,HM,Ql⟩:=h29.get X G;have Qm:=HM.binds (ps:=["thing"]) fun _ _ _ _ _ _=>el1 fun _=>rfl;obtain⟨UB,Qn,HP,Qo⟩:=h31.get X G;have Qp:=HP.binds (ps:=["promises","sales","number","year"]) fun _ _ _ _ _ _=>el4 fun _ _ _ _=>rfl;obtain⟨UC,Qq,HU,Qr⟩:=h32.get X G;have Qs:=HU.binds (ps:=["promises","sale"]) fun _ _ _ _ _ _=>el2 fun _ _=>rfl;obtain⟨UD,Qt,HV,Qu⟩:=h33.get X G;have Qv:=HV.binds (ps:=["promises","ahead","sale"]) fun _ _ _ _ _ _=>el3 fun _ _ _=>rfl;obtain⟨UE,Qw,HZ,Qx⟩:=h34.get X G;have Qy:=HZ.binds (ps:=["promises","sales"]) fun _ _ _ _ _ _=>el2 fun _ _=>rfl;obtain⟨UG,Qz,Ic,QA⟩:=h35.get X G;have QB:=Ic.binds (ps:=["thing"]) fun _ _ _ _ _ _=>el1 fun _=>rfl;obtain⟨UH,QC,Iq,QD⟩:=h36.get X G;have QE:=Iq.binds (ps:=["thing"]) fun _ _ _ _ _ _=>el1 fun _=>rfl;obtain⟨UI,QF,Iy,QG⟩:=h40.get X G;have QH:=Iy.binds (ps:=["thing"]) fun _ _ _ _ _ _=>el1 fun _=>rfl;obtain⟨UJ,QI,IA,QJ⟩:=h41.get X G;have QK:=IA.binds (ps:=["sacks","weights"]) fun _ _ _ _ _ _=>el2 fun _ _=>rfl;obtain⟨UL,QL,IB,QM⟩:=h42.get X G;have QN:=IB.binds (ps:=["rests"]) fun _ _ _ _ _ _=>el1 fun _=>rfl;obtain⟨UM,QO,IC,QP⟩:=h43.get X G;have QQ:=IC.binds (ps:=["sacks","weights"]) fun _ _ _ _ _ _=>el2 fun _ _=>rfl;obtain⟨UN,QR,ID,QS⟩:=h44.get X G;have QT:=ID.binds (ps:=["sacks","weights"]) fun _ _ _ _ _ _=>el2 fun _ _=>rfl;obtain⟨UO,QU,IE,QV⟩:=h46.get X G;have QW:=IE.binds (ps:=["rows"]) fun _ _ _ _ _ _=>el1 fun _=>rfl;obtain⟨UP,QX,IF,QY⟩:=h47.get X G;have QZ:=IF.binds (ps:=["promises","sales","sort","year"]) fun _ _ _ _ _ _=>el4 fun _ _ _ _=>rfl;obtain⟨UQ,Q0,IG,Q3⟩:=h48.get X G;have Q4:=IG.binds (ps:=["wool","claims"]) fun _ _ _ _ _ _=>el2 fun _ _=>rfl;obtain⟨UR,Q5,IH,Q6⟩:=h49.get X G;have Q7:=IH.binds (ps:=["wool","owed"]) fun _ _ _ _ _ _=>el2 fun _ _=>rfl;obtain⟨US,Q8,II,Q9⟩:=h50.get X G;have Ra:=II.binds (ps:=["wool","claims","owed"]) fun _ _ _ _ _ _=>el3 fun _ _ _=>rfl;obtain⟨UT,Rb,IJ,Rf⟩:=h51.get X G;have Rg:=IJ.binds (ps:=["book","year","owed"]) fun _ _ _ _ _ _=>el3 fun _ _ _=>rfl;obtain⟨UU,Rh,IL,Ri⟩:=h52.get X G;have Rj:=IL.binds (ps:=["book","year"]) fun _ _ _ _ _ _=>el2 fun _ _=>rfl;obtain⟨UW,Rk,IM,Rl⟩:=h54.get X G;have Rm:=IM.binds (ps:=["clips","year"]) fun _ _ _ _ _ _=>el2 fun _ _=>rfl;obtain⟨UX,Rn,IP,Ro⟩:=h55.get X G;have Rp:=IP.binds (ps:=["book","year"]) fun _ _ _ _ _ _=>el2 fun _ _=>rfl;obtain⟨UY,Rq,IQ,Rr⟩:=h56.get X G;have Rt:=IQ.binds (ps:=["book","year"]) fun _ _ _ _ _ _=>el2 fun _ _=>rfl;obtain⟨UZ,Ru,IS,Rv⟩:=h58.get X G;have Rw:=IS.binds (ps:=["book","year"]) fun _ _ _ _ _ _=>el2 fun _ _=>rfl;obtain⟨U0,Rx,IT,Ry⟩:=h59.get X G;have Rz:=IT.binds (ps:=["book","year"]) fun _ _ _ _ _ _=>el2 fun _ _=>rfl;obtain⟨U1,RA,IU,RB⟩:=h30.get X G;have RC:=IU.binds (ps:=["rows","most"]) fun _ _ _ _ _ _=>el2 fun _ _=>rfl;obtain⟨U2,RD,IX,RE⟩:=h53.get X G;have RF:=IX.binds (ps:=["book"]) fun _ _ _ _ _ _=>el1 fun _=>rfl;obtain⟨U3,RG,IY,RH⟩:=h61.get X G;have RI:=IY.binds (ps:=["gifts"]) fun _ _ _ _ _ _=>el1 fun _=>rfl;obtain⟨U4,RJ,IZ,RK⟩:=h62.get X G;have RL:=IZ.binds (ps:=["year","before","after"]) fun _ _ _ _ _ _=>el3 fun _ _ _=>rfl;obtain⟨U5,RM,Jn,RN⟩:=h63.get X G;have RO:=Jn.binds (ps:=["book","promise"]) fun _ _ _ _ _ _=>el2 fun _ _=>rfl;obtain⟨U6,RP,JA,RQ⟩:=h65.get X G;have RS:=JA.binds (ps:=["_law_script","_law_k"]) fun _ _ _ _ _ _=>el2 fun _ _=>rfl;obtain⟨U7,RT,JE,RU⟩:=h66.get X G;have RV:=JE.binds (ps:=["_law_script","_law_k"]) fun _ _ _ _ _ _=>el2 fun _ _=>rfl;obtain⟨U8,RW,JI,RX⟩:=h67.get X G;have RY:=JI.binds (ps:=["_law_state_here","_law_many"]) fun _ _ _ _ _ _=>el2 fun _ _=>rfl;obtain⟨U9,RZ,JJ,R0⟩:=h69.get X G;have R3:=JJ.binds (ps:=["_law_promises","_law_sales"]) fun _ _ _ _ _ _=>el2 fun _ _=>rfl;obtain⟨Va,R4,JO,R5⟩:=h70.get X G;have R6:=JO.binds (ps:=["_law_state_here","_law_most"]) fun _ _ _ _ _ _=>el2 fun _ _=>rfl;obtain⟨Vb,R7,JU,R8⟩:=h71.get X G;have R9:=JU.binds (ps:=["_law_state_here","_law_years"]) fun _ _ _ _ _ _=>el2 fun _ _=>rfl;obtain⟨Vc,Sa,JY,Sb⟩:=h72.get X G;have Sd:=JY.binds (ps:=["_law_state_here","_law_promises"]) fun _ _ _ _ _ _=>el2 fun _ _=>rfl;obtain⟨Vd,Se,Kb,Sf⟩:=h73.get X G;have Sg:=Kb.binds (ps:=["_law_state_here","_law_years","_law_most"]) fun _ _ _ _ _ _=>el3 fun _ _ _=>rfl;obtain⟨Ve,Sh,Ki,Si⟩:=h74.get X G;have Sj:=Ki.binds (ps:=["_law_book_here","_law_year","_law_sort"]) fun _ _ _ _ _ _=>el3 fun _ _ _=>rfl
 have T:Mg mg:=⟨(zAy X G cx),(zAy X G qa),(zAy X G lT),(zAy X G iq),(zAy X G l7),(zAy X G qf)⟩
 have TP:K91.Mg mg:=⟨(zAy X G cx),(zAy X G qa),(zAy X G lT),(zAy X G iq),(zAy X G l7),(zAy X G qf)⟩
 have N:Nums mg:=⟨⟨t0,PySem.W.mg_of X G n0⟩,⟨t1,PySem.W.mg_of X G n1⟩,⟨t2,PySem.W.mg_of X G n2⟩,⟨t3,PySem.W.mg_of X G n3⟩,⟨t4,PySem.W.mg_of X G n4⟩,⟨t5,PySem.W.mg_of X G n5⟩,⟨t6,PySem.W.mg_of X G n6⟩,⟨t7,PySem.W.mg_of X G n7⟩⟩
 have NP:K91P.Nums mg:=⟨⟨t9,PySem.W.mg_of X G n9⟩,⟨MW,PySem.W.mg_of X G n10⟩⟩
 have N2:MS mg:=⟨⟨t8,PySem.W.mg_of X G n8⟩⟩
 refine⟨PySem.W.fnOf "law" "law" (fc (top 75)) (dJ (top 75)) (aJ (top 75)) .none MT MU vE MR G0 MV,fun s v=>.of_eq rfl,fun base _ _=>?_⟩;have MX:=aU l.prog w base (uA G1 T) PU G1.kp PV;have Kj:=aU l.prog w base (o9 HA MX) PY HA.kp PZ;have xt:=aU l.prog w base (mH HC T) P1 HC.kp P2;have Kk:=aU l.prog w base (nR HE T MX xt) P5 HE.kp P6;have Sk:=aU l.prog w base (vC HG T N Kk) P8 HG.kp P9;have Sl:=aU l.prog w base (rK HI T N Sk xt) Qb HI.kp Qd;have MY:=aU l.prog w base (nW HK T N Kk) Qf HK.kp Qg;have MZ:=aU l.prog w base (jT HL T N MY xt) Qi HL.kp Qj;have M0:=aU l.prog w base (rO HM T N2 Kk xt) Ql HM.kp Qm;have M3:=aU l.prog w base (Er HP N) Qo HP.kp Qp;have Sn:=aU l.prog w base (Es HU T N) Qr HU.kp Qs;have So:=aU l.prog w base (Br HV T (zAy X G ba) Sn M3) Qu HV.kp Qv;have Sr:=aU l.prog w base (Bs HZ (zAy X G ax) MZ M0 So) Qx HZ.kp Qy;have Ss:=aU l.prog w base (ok_book Ic xt Sl MZ M0 Sr) QA Ic.kp QB;have M4:=aU l.prog w base (Ff Iq Ss) QD Iq.kp QE;have Su:=aU l.prog w base (K91P.ok_are_weights Iy TP NP Kj xt) QG Iy.kp QH;have Sv:=aU l.prog w base (K91P.ok_refuse IA (zAy X G fT) Su Kj) QJ IA.kp QK;have Sw:=aU l.prog w base (K91P.ok_places IB (zAy X G ax) (zAy X G dA)) QM IB.kp QN;have Sx:=aU l.prog w base (K91P.ok_parts IC TP (zAy X G fT) Sw) QP IC.kp QQ;have Sy:=aU l.prog w base (K91P.ok_parted ID Sv Sx) QS ID.kp QT;have Sz:=aU l.prog w base (Bt IE (zAy X G fT)) QV IE.kp QW;have SA:=aU l.prog w base (yN IF (zAy X G ax) M3) QY IF.kp QZ;have SD:=aU l.prog w base (yM IG T (zAy X G fT) Sy) Q3 IG.kp Q4;have SE:=aU l.prog w base (Ew IH (zAy X G iA)) Q6 IH.kp Q7;have SF:=aU l.prog w base (BJ II (zAy X G fT) (zAy X G vb) (zAy X G qh) SD SE) Q9 II.kp Ra;have SI:=aU l.prog w base (Fb IJ T N (zAy X G ba) (zAy X G dA) SA SF Sz) Rf IJ.kp Rg;have Kn:=aU l.prog w base (BZ IL (zAy X G ba) SI) Ri IL.kp Rj;have SJ:=aU l.prog w base (Fg IM T Kj) Rl IM.kp Rm;have M5:=aU l.prog w base (Cj IP M4 SJ) Ro IP.kp Rp;have SK:=aU l.prog w base (Ck IQ M5 Kn) Rr IQ.kp Rt;have SM:=aU l.prog w base (Cm IS Kn) Rv IS.kp Rw;have M6:=aU l.prog w base (Fi IT M5 SM) Ry IT.kp Rz;have SN:=aU l.prog w base (Fj IU T) RB IU.kp RC;have SO:=aU l.prog w base (Ie IX T Kn) RE IX.kp RF;have SR:=aU l.prog w base (Ig IY) RH IY.kp RI;have SS:=aU l.prog w base (JT IZ (zAy X G dA) (zAy X G BY) SR) RK IZ.kp RL;have SU:=aU l.prog w base (JX Jn N (zAy X G ax) (zAy X G qh) M4 MY SN SO SS) RN Jn.kp RO;have SV:=aU l.prog w base (K91P.ok_cell JA TP) RQ JA.kp RS;have SW:=aU l.prog w base (K91P.ok_state JE (zAy X G ix) SV) RU JE.kp RV;have B0:=aU l.prog w base (K91P.ok_choice JI) RX JI.kp RY;have SX:=aU l.prog w base (Ft JJ T (zAy X G ax) (zAy X G ba) (zAy X G iA) (zAy X G ix)) R0 JJ.kp R3;have SY:=aU l.prog w base (K91Q.ok_clips JO TP (zAy X G ba) B0) R5 JO.kp R6;have M7:=aU l.prog w base (K91Q.ok_prom JU (zAy X G iA) B0) R8 JU.kp R9;have S4:=aU l.prog w base (K91Q.ok_sale JY T (zAy X G ix) B0) Sb JY.kp Sd;have S5:=aU l.prog w base (K91Q.ok_book Kb TP (zAy X G ba) (zAy X G l7) B0 SY M7 S4 SX) Sf Kb.kp Sg;have S7:=aU l.prog w base (JZ Ki M6) Si Ki.kp Sj;exact Ii FL T (zAy X G ba) (zAy X G ix) (zAy X G iA) B0 SW S5 M7 SU S7 SK M6
theorem walk{l:PySem.W.OpenLaw}{q:Program}{loose:List Str}{XP:(Str->Option Value)->Heap->Prop}{YP:World->Heap->Prop}{d:DefRec}{K:Params->Frag}(hn:l.most=some 63)(yB:d.params.defaults=[])
  (hY:∀(w:World) (h:Heap),YP w h->(K w.params).In h)
  (F:∀(w:World) (mg:Str->Option Value) (fa:Addr) (h:Heap),(K w.params).In h->h.Ns mainGlobals mg->mg d.name=some (.ref fa)->
   ∃fd:FuncData,(∀(s:Shared) (u:Value),BindsTo s fd ⟨[u],[]⟩ [("_law_script",u)])/\∀base:Heap,(K w.params).In base->base.Ns mainGlobals mg->FnOk l.prog w (K w.params) mg base CX0 63 fa fd ["_law_script"] (xQ (K w.params))):
  PySem.W.WalkO q loose XP YP l.row.toRowW d [] (fun f vs=>PySem.call f vs):=
 L2.walk_of (n:=63) (k:=63) (x:="_law_script") (CX:=fun _=>CX0) (sp:=fun w=>xQ (K w.params)) hn Zx yB ⟨rfl,by decide,by decide,rfl⟩ hY F (fun _ _ a ns hl _ hS=>⟨a,ns,rfl,hS,hl,fun _=>rfl⟩) fun _ _ _ _ _ z=>z
end K91
open PySem PySem.W PyProof.Rows
set_option maxRecDepth 100000 in
set_option maxHeartbeats 0 in
theorem PySem.Challenge.cw_woolyears_k91_whole_told_late_holds : PySem.Challenge.rw_woolyears_k91_whole_told_late.Holds := by
 w_on;o_law;k_head;(case hw=>w_witness2)
 k_fill
 refine K91.walk (l:=PySem.Challenge.rw_woolyears_k91_whole_told_late) rfl rfl (fun w h Y=>PySem.W.kIn_of Y) ?F
 case F =>
  intro w mg fa h KX G hmg
  refine' K91.all_mk KX G hmg ?h11 ?h12 ?h13 ?h14 ?h25 ?h26 ?h27 ?h28 ?h29 ?h31 ?h32 ?h33 ?h34 ?h35 ?h36 ?h40 ?h41 ?h42 ?h43 ?h44 ?h46 ?h47 ?h48 ?h49 ?h50 ?h51 ?h52 ?h54 ?h55 ?h56 ?h58 ?h59 ?h30 ?h53 ?h61 ?h62 ?h63 ?h65 ?h66 ?h67 ?h69 ?h70 ?h71 ?h72 ?h73 ?h74 ?aL ?lL ?cL ?kL ?n0 ?n1 ?n2 ?n3 ?n4 ?n5 ?n6 ?n7 ?n8 ?n9 ?n10 ?z0 ?z1 ?z2 ?z3 ?z4 ?z5 ?z6 ?z7 ?z8 ?z9 ?z10 ?z11 ?z12 ?z13 ?z14
  case h11|h12|h13|h14|h25|h26|h27|h28|h29|h31|h32|h33|h34|h35|h36|h40|h41|h42|h43|h44|h46|h47|h48|h49|h50|h51|h52|h54|h55|h56|h58|h59|h30|h53|h61|h62|h63|h65|h66|h67|h69|h70|h71|h72|h73|h74=>
   refine' K91.has_mk ?a ?l ?c ?k
   case a|l|c|k=>k_is
  case aL|lL|cL|kL|n0|n1|n2|n3|n4|n5|n6|n7|n8|n9|n10|z0|z1|z2|z3|z4|z5|z6|z7|z8|z9|z10|z11|z12|z13|z14=>k_is
