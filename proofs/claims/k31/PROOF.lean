import PyProof.Rows.All
import Wide.All
import OpenK.AllK
import Wide.FinOn
import Lean
import PyProof.EqAt
import PyProof.EqKinds
import PyProof.TupleCall
import PyProof.StrLawsRepr
import PyProof.ZipIter
import PySem.Challenge.RW_woolyears_k31_sums_of_each_holder
import PyProof.Rows.SortRunsK
import PyProof.AttrMissHeap
import PyProof.SeqRoads
import PyProof.ListOps
import PyProof.DictUpdate
import PyProof.DictWalks
import KE.KItemsList
import PyProof.ListNew
import PyProof.ListRange
set_option compiler.extract_closed false
set_option Elab.async false
set_option linter.all false
set_option maxRecDepth 100000
set_option maxHeartbeats 4000000
noncomputable section
theorem Zz{p:Prop}(h:p:=by lia):p:=h
theorem Zy{p:Prop}(h:p:=by simp):p:=h
theorem Zx{p:Prop}(h:p:=by decide):p:=h
theorem Zv{p:Prop}(h:p:=by decide +kernel):p:=h
theorem Zu{p:Prop}(h:p:=by rw[sizeLine_eq];lia):p:=h
def Zp:=@decide_eq_true_eq
open PySem.W (Frag)
def zAt:=@decide_eq_true
def zAu:=@PySem.wpAny_bind
def zAv:=@if_neg
def zAw:=@PySem.Heap.get?_push_of_some
def zAx:=@PySem.W.mg_none_of
def zAy:=@if_pos
def zAz:=@PySem.wpAny_pure
def zB0:=@decide_eq_false
def zB1:=@PySem.Heap.lt_size
def zB2:=@PySem.Heap.get?_push_size
def zB3:=@PySem.PassesOwn.never
def zB4:=@List.filter_cons_of_pos
def zB5:=@List.mem_of_getElem?
def zB6:=@Nat.lt_of_lt_of_le
def zB7:=@List.filter_cons_of_neg
def zB8:=@of_decide_eq_true
def zB9:=@Nat.ne_of_lt
def zBa:=@List.take_append_drop
def zBb:=@PySem.F.plainAttrs_list
def zBc:=@List.getElem?_append_left
def zBd:=@List.getElem?_append_right
def zBe:=@PySem.F.type_list_append
def zBf:=@PySem.F.slot_list_append
def zBg:=@List.mem_append_right
def zA0:=@List.getElem?_eq_getElem
def zA1:=@List.length_map
def zA2:=@List.length_append
def zA3:=@Nat.le_refl
def zA4:=@List.map_append
def zA5:=@List.mem_map
def zA6:=@List.mem_append
def zA7:=@List.getD_eq_getElem?_getD
def zA8:=@List.size_toArray
def zA9:=@Array.length_toList
def zAa:=@List.getElem?_eq_some_iff
def zAb:=@List.getElem?_map
def zAc:=@Bool.and_eq_true
def zAd:=@List.length_take
def zAe:=@List.length_cons
def zAf:=@List.append_assoc
def zAg:=@Bool.false_ne_true
def zAh:=@List.getElem_mem
def zAi:=@Int.toNat_natCast
def zAj:=@List.take_add_one
def zAk:=@List.map_cons
def zAl:=@Option.some.inj
def zAm:=@List.take_length
def zAn:=@List.append_nil
def zAo:=@List.mem_cons
def zAp:=@Nat.zero_le
def zAq:=@List.mem_filter
def zAr:=@List.map_map
def zAs:=@List.length_zip
namespace L2
open PySem PySem.Spec PyProof.Rows
abbrev Key:=Sum Int Str
def mQ:Key->Value->Bool
 |.inl k,v=>Value.isInt k v
 |.inr x,v=>Value.isStrOf x v
def JW(w:World):Key->Int
 |.inl k=>hashInt k
 |.inr x=>hashStr w x
theorem cg:∀{k:Key} {v:Value},mQ k v=true->(∃i t,k=Sum.inl i/\v=Value.int i t)\/(∃x t,k=Sum.inr x/\v=Value.str x t)
 |.inl i,v,h=>by
  obtain⟨t,e⟩:=Value.isInt_shape (k:=i) (v:=v) h;exact .inl ⟨i,t,rfl,e⟩
 |.inr x,v,h=>by
  obtain⟨t,e⟩:=Value.isStrOf_shape (x:=x) (v:=v) h;exact .inr ⟨x,t,rfl,e⟩
theorem yh(i:Int)(t:Tok):mQ (.inl i) (.int i t)=true:=by simp[mQ,Value.isInt]
theorem yj(x:Str)(t:Tok):mQ (.inr x) (.str x t)=true:=by simp[mQ,Value.isStrOf]
theorem Gq(a b:Int):decide ((Sum.inl a:Key)=Sum.inl b)=(a==b):=by
 by_cases e:a=b
 .subst e;simp
 .have h:¬(Sum.inl a:Key)=Sum.inl b:=fun q=>e (Sum.inl.inj q);rw[zB0 h];exact(beq_eq_false_iff_ne.mpr e).symm
theorem Gr(a b:Str):decide ((Sum.inr a:Key)=Sum.inr b)=decide (a=b):=by
 by_cases e:a=b
 .subst e;simp
 .have h:¬(Sum.inr a:Key)=Sum.inr b:=fun q=>e (Sum.inr.inj q);rw[zB0 h,zB0 e]
theorem Gs(a:Int)(b:Str):decide ((Sum.inl a:Key)=Sum.inr b)=false:=zB0 (fun q=>nomatch q)
theorem Gu(a:Str)(b:Int):decide ((Sum.inr a:Key)=Sum.inl b)=false:=zB0 (fun q=>nomatch q)
def cC(prog:Program)(w:World):PySem.KeyKind prog w Key where
 is:=mQ
 hash:=JW w
 inj:=fun v a b ha hb=>by
  rcases cg ha with⟨i,t,rfl,rfl⟩|⟨x,t,rfl,rfl⟩
  .rcases cg hb with⟨j,u,rfl,e⟩|⟨y,u,rfl,e⟩
   .injection e with e1 _;rw[e1]
   .exact nomatch e
  .rcases cg hb with⟨j,u,rfl,e⟩|⟨y,u,rfl,e⟩
   .exact nomatch e
   .injection e with e1 _;rw[e1]
 byValue:=fun k v h=>by
  rcases cg h with⟨i,t,rfl,rfl⟩|⟨x,t,rfl,rfl⟩<;>rfl
 pyHash:=fun hv h=>by
  rcases cg hv with⟨i,t,rfl,rfl⟩|⟨x,t,rfl,rfl⟩
  .exact wpAny_pyHash_int h
  .exact wpAny_pyHash_str h
 eqBool:=fun hu hv h=>by
  rcases cg hu with⟨i,t,rfl,rfl⟩|⟨x,t,rfl,rfl⟩
  .rcases cg hv with⟨j,u,rfl,rfl⟩|⟨y,u,rfl,rfl⟩
   .rw[Gq]at h;exact wpAny_eqBool_int h
   .rw[Gs]at h;exact SeqAt.EqAt.int_str i t y u _ _ _ _ h
  .rcases cg hv with⟨j,u,rfl,rfl⟩|⟨y,u,rfl,rfl⟩
   .rw[Gu]at h;exact SeqAt.EqAt.str_int x t j u _ _ _ _ h
   .rw[Gr]at h;exact wpAny_eqBool_str h
 «strs»:=fun k x t v h=>by
  rcases cg h with⟨i,u,rfl,e⟩|⟨y,u,rfl,e⟩
  .exact nomatch e
  .injection e with e1 _;subst e1;cases v<;>rfl
theorem tD(prog:Program)(w:World)(i:Int)(t:Tok):(cC prog w).is (.inl i) (.int i t)=true:=yh i t
theorem tE(prog:Program)(w:World)(x:Str)(t:Tok):(cC prog w).is (.inr x) (.str x t)=true:=yj x t
inductive V where
 |non|bl (b:Bool)|int (i:Int)|str (x:Str)|byt (b:Array UInt8)|flt (b:UInt64)|ref (a:Addr)|ty (n:String)
 deriving DecidableEq
def RelV:V->Value->Prop
 |.non,u=>u=Value.none
 |.bl b,u=>u=Value.bool b
 |.int i,u=>∃t,u=Value.int i t
 |.str x,u=>∃t,u=Value.str x t
 |.byt b,u=>∃t,u=Value.bytes b t
 |.flt b,u=>∃t,u=Value.float b t
 |.ref a,u=>u=Value.ref a
 |.ty n,u=>u=Value.type n
abbrev Vals:List V->List Value->Prop:=Paired RelV
theorem Vals.length{xs:List V}{us:List Value}(r:Vals xs us):xs.length=us.length:=Paired.length r
theorem Vals.get:∀{xs:List V} {us:List Value} {i:Nat} {x:V},Vals xs us->xs[i]?=some x->∃u,us[i]?=some u/\RelV x u
 |_,_,_,_,.nil,e=>by simp at e
 |_,_,0,_,.cons r _,e=>by simp at e;subst e;exact⟨_,rfl,r⟩
 |_,_,i+1,x,.cons _ t,e=>by
  obtain⟨u,h1,h2⟩:=Vals.get (i:=i) (x:=x) t (by simpa using e);exact⟨u,by simpa using h1,h2⟩
theorem Vals.set{x:V}{u:Value}(r:RelV x u):∀{xs:List V} {us:List Value} (i:Nat),Vals xs us->Vals (xs.set i x) (us.set i u)
 |_,_,_,.nil=>.nil
 |_,_,0,.cons _ t=>.cons r t
 |_,_,i+1,.cons q t=>.cons q (Vals.set r i t)
theorem Vals.append:∀{xs ys:List V} {us ws:List Value},Vals xs us->Vals ys ws->Vals (xs++ys) (us++ws)
 |_,_,_,_,.nil,s=>s
 |_,_,_,_,.cons r t,s=>.cons r (Vals.append t s)
theorem Vals.take:∀{xs:List V} {us:List Value} (n:Nat),Vals xs us->Vals (xs.take n) (us.take n)
 |_,_,0,_=>.nil
 |_,_,_+1,.nil=>.nil
 |_,_,n+1,.cons r t=>.cons r (Vals.take n t)
theorem Vals.drop:∀{xs:List V} {us:List Value} (n:Nat),Vals xs us->Vals (xs.drop n) (us.drop n)
 |_,_,0,r=>r
 |_,_,_+1,.nil=>.nil
 |_,_,n+1,.cons _ t=>Vals.drop n t
def RelO:Option V->Option Value->Prop
 |some v,some u=>RelV v u
 |none,none=>True
 |_,_=>False
def KV{κ:Type}:List (κ×V)->List (κ×Value)->Prop:=Paired fun(p:κ×V) (q:κ×Value)=>p.1=q.1/\RelV p.2 q.2
def kV:Key->V
 |.inl i=>.int i
 |.inr x=>.str x
inductive HO where
  |lst (xs:List V)
  |tup (xs:List V)
  |dK (Zs:List (Key×V))|dT (Zs:List (List Key×V))
  |set (S:Int->Bool) (n:Nat)
  |ins (C dx:Addr) (fs:List (Str×V))
  |own (x:Addr)
  |xd (fs:List (Str×V))
  |met (f x:Addr)
  |rng (lo hi:Int)
  |frz (o:Obj) (u:HO)
  |tbl (ps:Array Value)
  |ext (φ:Heap->Prop)
abbrev Hp:=Addr->Option HO
def upd(H:Hp)(a:Addr)(o:HO):Hp:=fun b=>if b=a then some o else H b
theorem aa{H:Hp}{a:Addr}{o:HO}:upd H a o a=some o:=by unfold upd;rw[zAy rfl]
theorem au{H:Hp}{a b:Addr}{o:HO}(h:b≠a):upd H a o b=H b:=by unfold upd;rw[zAv h]
theorem Ij{H:Hp}{a b:Addr}{o u:HO}(h:H a=some o)(h':H b=some u)(d:o≠u):a≠b:=by
 intro e;subst e;rw[h]at h';exact d (zAl h')
theorem az{H:Hp}{a b:Addr}{o:HO}(h:H a=some o)(h':H b=none):a≠b:=by
 intro e;subst e;rw[h]at h';cases h'
section
variable(P:Program)(w:World)
def ObjOk(H:Hp)(h:Heap)(a:Addr):HO->Prop
 |.lst xs=>xs.length<=sizeLine/\∃(Zr:List Value) (n:Nat),Vals xs Zr/\h.get? a=some {cls:=.type "list",data:=.seq Zr.toArray n}
 |.tup xs=>xs.length<=sizeLine/\∃Zr:List Value,Vals xs Zr/\IsTup h a Zr.toArray
 |.dK Zs=>Zs.length<=sizeLine/\(a==sysModules)=false/\∃vs,KV Zs vs/\h.DictOf (cC P w) a vs
 |.dT Zs=>Zs.length<=sizeLine/\(a==sysModules)=false/\∃xs:List (List Key×Addr×Value),
   Paired (fun(p:List Key×V) (q:List Key×Addr×Value)=>p.1=q.1/\H q.2.1=some (.tup (p.1.map kV))/\RelV p.2 q.2.2) Zs xs /\
   ∃o es ep,h.get? a=some o/\o.ExactDict/\o.data=.dict es ep/\es.toList=xs.map (entryOfKey (tupleKind (cC P w)))/\(xs.map (·.1)).Nodup
 |.set S n=>h.SetOf (intKind P w) a S n
 |.ins C dx fs=>H dx=some (.own a)/\fs.length<=1000/\dx≠a/\h.get? a=some (PySem.W.instObj C dx) /\
   ∃mA,h.Ns1 dx mA/\(∀f,RelO (fs.lookup f) (mA f))/\PySem.Within mA (fs.map (·.1))
 |.own _=>∃o,h.get? a=some o
 |.xd fs=>∃mA,h.Ns1 a mA/\∀f,RelO (fs.lookup f) (mA f)
 |.rng lo hi=>∃t u v,h.get? a=some {cls:=.type "range",data:=.fields #[.int lo t,.int hi u,.int 1 v]}
 |.frz o u=>h.get? a=some o/\ObjOk H h a u
 |.tbl ps=>h.get? a=some {cls:=.none,data:=.fields ps}
 |.met f x=>h.get? a=some (PySem.W.methodObj (.ref f) (.ref x))
 |.ext φ=>φ h/\(∃o,h.get? a=some o)/\∀h1 h2:Heap,φ h1->(∀o,h1.get? a=some o->h2.get? a=some o)->φ h2
def HOk(H:Hp)(h:Heap):Prop:=∀a o,H a=some o->ObjOk P w H h a o
end
section
variable{P:Program}{w:World}{H H':Hp}{h h':Heap}{a:Addr}{o:HO}
theorem ObjOk.lt(x:ObjOk P w H h a o):a<h.objs.size:=by
 cases o with
 |lst xs=>obtain⟨_,_,_,_,e⟩:=x;exact zB1 e
 |tup xs=>obtain⟨_,_,_,p⟩:=x;exact p.lt
 |dK Zs=>obtain⟨_,_,_,_,o,_,_,e,_⟩:=x;exact zB1 e
 |dT Zs=>obtain⟨_,_,_,_,o,_,_,e,_⟩:=x;exact zB1 e
 |set S n=>obtain⟨o,_,_,_,e,_⟩:=x;exact zB1 e
 |ins C dx fs=>obtain⟨_,_,_,e,_⟩:=x;exact zB1 e
 |own y=>obtain⟨_,e⟩:=x;exact zB1 e
 |xd fs=>obtain⟨_,⟨_,_,_,e,_⟩,_⟩:=x;exact zB1 e
 |rng lo hi=>obtain⟨_,_,_,e⟩:=x;exact zB1 e
 |frz ob u=>obtain⟨e,_⟩:=x;exact zB1 e
 |tbl ps=>exact zB1 (show h.get? a=some _ from x)
 |met f y=>exact zB1 (show h.get? a=some _ from x)
 |ext φ=>obtain⟨_,⟨_,e⟩,_⟩:=x;exact zB1 e
theorem Paired.mapP{α β:Type}{F G:α->β->Prop}:∀{AH:List α} {AI:List β},Paired F AH AI->(∀a b,F a b->G a b)->Paired G AH AI
 |_,_,.nil,_=>.nil
 |_,_,.cons r t,f=>.cons (f _ _ r) (Paired.mapP t f)
theorem ObjOk.stay(x:ObjOk P w H h a o)(k:∀b u,(b=a\/H b=some (.own a))->h.get? b=some u->h'.get? b=some u)
  (ho:∀b,H b=some (.own a)->H' b=some (.own a)) (ht:∀b xs,H b=some (.tup xs)->H' b=some (.tup xs)):ObjOk P w H' h' a o:=by
 induction o with
 |lst xs=>obtain⟨z,Zr,n,r,e⟩:=x;exact⟨z,Zr,n,r,k _ _ (.inl rfl) e⟩
 |tup xs=>obtain⟨z,Zr,r,ob,e,c⟩:=x;exact⟨z,Zr,r,ob,k _ _ (.inl rfl) e,c⟩
 |dK Zs=>obtain⟨z,y,vs,r,ob,es,ep,e,c⟩:=x;exact⟨z,y,vs,r,ob,es,ep,k _ _ (.inl rfl) e,c⟩
 |dT Zs=>
  obtain⟨z,y,xs,r,ob,es,ep,e,c⟩:=x;exact⟨z,y,xs,Paired.mapP r fun p q z=>⟨z.1,ht _ _ z.2.1,z.2.2⟩,ob,es,ep,k _ _ (.inl rfl) e,c⟩
 |set S n=>obtain⟨ob,es,ep,t,e,c⟩:=x;exact⟨ob,es,ep,t,k _ _ (.inl rfl) e,c⟩
 |ins C dx fs=>
  obtain⟨d,z,ne,e,mA,⟨od,es,ep,e2,c⟩,r⟩:=x;exact⟨ho _ d,z,ne,k _ _ (.inl rfl) e,mA,⟨od,es,ep,k _ _ (.inr d) e2,c⟩,r⟩
 |own y=>obtain⟨ob,e⟩:=x;exact⟨ob,k _ _ (.inl rfl) e⟩
 |xd fs=>obtain⟨mA,⟨od,es,ep,e,c⟩,r⟩:=x;exact⟨mA,⟨od,es,ep,k _ _ (.inl rfl) e,c⟩,r⟩
 |rng lo hi=>obtain⟨t,u,v,e⟩:=x;exact⟨t,u,v,k _ _ (.inl rfl) e⟩
 |frz ob u ih=>obtain⟨e,q⟩:=x;exact⟨k _ _ (.inl rfl) e,ih q⟩
 |tbl ps=>
  have e:h.get? a=some {cls:=.none,data:=.fields ps}:=x;show h'.get? a=some {cls:=.none,data:=.fields ps};exact k a _ (.inl rfl) e
 |met f y=>
  have e:h.get? a=some (PySem.W.methodObj (.ref f) (.ref y)):=x;show h'.get? a=some (PySem.W.methodObj (.ref f) (.ref y));exact k a _ (.inl rfl) e
 |ext φ=>obtain⟨p,⟨o,e⟩,st⟩:=x;exact⟨st _ _ p fun o q=>k _ _ (.inl rfl) q,⟨o,k _ _ (.inl rfl) e⟩,st⟩
theorem HOk.lt(x:HOk P w H h)(e:H a=some o):a<h.objs.size:=(x a o e).lt
theorem HOk.fresh(x:HOk P w H h)(e:h.objs.size<=a):H a=none:=by
 cases q:H a with
 |none=>rfl
 |some u=>exact absurd (zB6 (x.lt q) e) (Nat.lt_irrefl _)
theorem HOk.kept(x:HOk P w H h)(k:∀b u,h.get? b=some u->h'.get? b=some u):HOk P w H h':=fun a o e=>
 (x a o e).stay (fun b u _ q=>k b u q) (fun _ q=>q) fun _ _ q=>q
theorem HOk.laid(x:HOk P w H h)(k:∀b u,h.get? b=some u->h'.get? b=some u)(hp:h.objs.size<=a)(new:ObjOk P w (upd H a o) h' a o):HOk P w (upd H a o) h':=fun b u e=>by
 have hn:=x.fresh hp;by_cases hb:b=a
 .subst hb;rw[aa]at e;cases e;exact new
 .rw[au hb]at e
  exact(x b u e).stay (fun c v _ q=>k c v q) (fun c q=>by rw[au (az q hn)];exact q) fun c xs q=>by rw[au (az q hn)];exact q
end
def Rd(H:Hp)(a:Addr)(u:HO):Prop:=H a=some u\/∃o,H a=some (.frz o u)
theorem Rd.ok{P:Program}{w:World}{H:Hp}{h:Heap}{a:Addr}{u:HO}(r:Rd H a u)(x:HOk P w H h):ObjOk P w H h a u:=by
 rcases r with r|⟨o,r⟩
 .exact x a u r
 .obtain⟨_,q⟩:=x a _ r;exact q
def Mut:Option HO->Prop
 |some (.lst _)=>True
 |some (.dK _)=>True
 |some (.dT _)=>True
 |some (.set _ _)=>True
 |some (.ins _ _ _)=>True
 |some (.ext _)=>True
 |_=>False
section
variable{P:Program}{w:World}{H:Hp}{h h':Heap}{x e:Addr}{o':HO}
theorem HOk.write(ok:HOk P w H h)(mu:Mut (H x))(he:e=x\/H e=some (.own x))(k:∀b u,b≠e->h.get? b=some u->h'.get? b=some u)(yi:∃u,h'.get? e=some u)
  (new:ObjOk P w (upd H x o') h' x o'):HOk P w (upd H x o') h':=fun b u q=>by
 have AJ:∀c y,H c=some (.own y)->c≠x:=fun c y r z=>by subst z;rw[r]at mu;exact mu
 have FI:∀c xs,H c=some (.tup xs)->c≠x:=fun c xs r z=>by subst z;rw[r]at mu;exact mu
 by_cases hb:b=x
 .subst hb;rw[aa]at q;cases q;exact new
 .rw[au hb]at q;by_cases sx:b=e
  .have q':H b=some (.own x):=by
    rcases he with z|z
    .exact absurd (sx.trans z) hb
    .rw[sx];exact z
   rw[q]at q';cases q';obtain⟨v,hv⟩:=yi;exact⟨v,by rw[sx];exact hv⟩
  .refine(ok b u q).stay (fun c v hc r=>k c v ?_ r) (fun c r=>by rw[au (AJ c b r)];exact r) fun c xs r=>by rw[au (FI c xs r)];exact r
   rcases hc with rfl|hc
   .exact sx
   .rintro rfl;rcases he with z|z
    .exact AJ c b hc z
    .rw[hc]at z;cases z;exact hb rfl
end
structure Un(fs ex:List Addr)(H H':Hp)(h h':Heap):Prop where
 keep:∀b o,h.get? b=some o->H b=none->b∉fs->b∉ex->h'.get? b=some o
 slot:∀b o,h.get? b=some o->H b=none->b∈fs->b∉ex->∃sl,h'.get? b=some {o with slots:=sl}
 free:∀b o,h.get? b=some o->H b=none->b∉ex->H' b=none
 there:∀b o,h.get? b=some o->b∉ex->∃o',h'.get? b=some o'
 tups:∀b xs,H b=some (.tup xs)->H' b=some (.tup xs)
 frzs:∀b o u,H b=some (.frz o u)->H' b=some (.frz o u)
 tbls:∀b ps,H b=some (.tbl ps)->∃more,H' b=some (.tbl (ps++more))
section
variable{fs Px ex FK:List Addr}{H H1 H2:Hp}{h h1 h2 h':Heap}{a x e:Addr}{o:HO}
theorem Un.any(u:Un fs ex H H1 h h1){b:Addr}{ob:Obj}(q:h.get? b=some ob)(n:H b=none)(hx:b∉ex):∃sl,h1.get? b=some {ob with slots:=sl}:=by
 by_cases hb:b∈fs
 .exact u.slot b ob q n hb hx
 .exact⟨ob.slots,u.keep b ob q n hb hx⟩
theorem Un.kept(k:∀b u,h.get? b=some u->h'.get? b=some u):Un fs ex H H h h':=
 ⟨fun b ob q _ _ _=>k b ob q,fun b ob q _ _ _=>⟨ob.slots,k b ob q⟩,fun _ _ _ n _=>n,fun b ob q _=>⟨ob,k b ob q⟩,fun _ _ q=>q,fun _ _ _ q=>q,fun _ ps q=>⟨#[],by rw[q];simp⟩⟩
theorem Un.refl:Un fs ex H H h h:=Un.kept fun _ _ q=>q
theorem Un.laid(k:∀b u,h.get? b=some u->h'.get? b=some u)(hp:h.objs.size<=a)(hn:H a=none):Un fs ex H (upd H a o) h h' where
 keep:=fun b u q _ _ _=>k b u q
 slot:=fun b u q _ _ _=>⟨u.slots,k b u q⟩
 free:=fun b u q n _=>by rw[au (zB9 (zB6 (zB1 q) hp))];exact n
 there:=fun b u q _=>⟨u,k b u q⟩
 tups:=fun b xs q=>by rw[au (az q hn)];exact q
 frzs:=fun b u xs q=>by rw[au (az q hn)];exact q
 tbls:=fun b ps q=>⟨#[],by rw[au (az q hn),q];simp⟩
theorem Un.write(mu:Mut (H x))(he:e=x\/H e=some (.own x))(k:∀b u,b≠e->h.get? b=some u->h'.get? b=some u)(yi:∃u,h'.get? e=some u):Un fs ex H (upd H x o) h h':=by
 have hx:∀b,H b=none->b≠x:=fun b n z=>by subst z;rw[n]at mu;exact mu
 have hb:∀b,H b=none->b≠e:=fun b n z=>by
  subst z;rcases he with r|r
  .exact hx b n r
  .rw[n]at r;cases r
 have hm:∀b u,H b=some u->¬Mut (some u)->b≠x:=fun b u q nm z=>by subst z;rw[q]at mu;exact nm mu
 refine⟨fun b u q n _ _=>k b u (hb b n) q,fun b u q n _ _=>⟨u.slots,k b u (hb b n) q⟩,fun b u q n _=>by rw[au (hx b n)];exact n,fun b u q _=>?_,
  fun b xs q=>by rw[au (hm b _ q fun z=>z)];exact q,fun b u xs q=>by rw[au (hm b _ q fun z=>z)];exact q,fun b ps q=>⟨#[],by rw[au (hm b _ q fun z=>z),q];simp⟩⟩
 by_cases sx:b=e
 .subst sx;exact yi
 .exact⟨u,k b u sx q⟩
end
def trk(h:Heap)(H:Hp):List Addr:=(List.range h.objs.size).filter fun a=>(H a).isSome
def qO(h:Heap)(H:Hp):Heap:=PySem.W.hideAll h (trk h H)
theorem yl(h:Heap)(H:Hp):(qO h H).objs.size=h.objs.size:=PySem.W.hideAll_size _ _
theorem zW{h:Heap}{H:Hp}{b:Addr}{o:Obj}(e:h.get? b=some o)(n:H b=none):(qO h H).get? b=some o:=
 PySem.W.hideAll_get _ e fun hm=>by
  have q:(H b).isSome=true:=(zAq.mp hm).2;rw[n]at q;simp at q
theorem DK{h:Heap}{H:Hp}{b:Addr}{o:Obj}(e:(qO h H).get? b=some o):h.get? b=some o/\H b=none:=by
 have e':h.get? b=some o:=PySem.W.of_hideAll (trk h H) e;refine⟨e',?_⟩
 cases q:H b with
 |none=>rfl
 |some x=>
  have hm:b∈trk h H:=List.mem_filter.mpr ⟨List.mem_range.mpr (Heap.lt_size e'),by simp[q]⟩;have z:(qO h H).get? b=none:=PySem.W.hideAll_none (trk h H) hm;rw[z]at e;cases e
structure Mod(K:Frag)(mg:Str->Option Value)(base:Heap):Prop where
 kin:K.In base
 glob:base.Ns mainGlobals mg
 blt:∃mb,base.Ns builtinsNs mb/\∀x:Str,x≠"__name__"->mb x=bootBuiltins x
 nolimit:base.NoLimit
structure Cx where
 prog:Program
 w:World
 K:Frag
 mg:Str->Option Value
 base:Heap
 A:Around
 N:List Str
 s₀:Shared
 H₀:Hp
 env:Env
 outer:List Env
 stack:List Env
 ex:List Addr
 fn:Str->Bool
 calm:Bool
 pn:List (Addr×Obj)
 xe:Value->Shared->Prop
def frs(l:List Env):List Addr:=l.filterMap (·.frame)
abbrev Cx.fs(X:Cx):List Addr:=frs X.outer
def Vis(sc:Scope)(x:Str):Prop:=sc.names.lookup x=some .local\/sc.names.lookup x=some .cell\/sc.names.lookup x=some .free
def Loc(sc:Scope)(x:Str):Prop:=sc.names.lookup x=some .local\/sc.names.lookup x=some .cell
def Look(env:Env)(h:Heap)(m:Str->Option Value)(x:Str)(u:Value):Prop:=
 (env.kindOf x=some .local/\m x=some u)\/((env.kindOf x=some .cell\/env.kindOf x=some .free)/\∃c,env.cells.lookup x=some c/\h.IsCell c (some u))
structure Cx.Ok(X:Cx):Prop where
 mod:Mod X.K X.mg X.base
 kind:X.env.scope.kind=.function
 glob:X.env.globals=mainGlobals
 blt:X.env.builtins=builtinsNs
 above:X.s₀.heap.objs.size<=X.env.locals
 inj:∀x y c,X.env.cells.lookup x=some c->X.env.cells.lookup y=some c->x=y
 has:∀x,(X.env.kindOf x=some .cell\/X.env.kindOf x=some .free)->∃c,X.env.cells.lookup x=some c
 cab:∀x c,X.fn x=true->X.env.cells.lookup x=some c->X.s₀.heap.objs.size<=c
 hd:X.calm=true->X.A.handled=none
 frames:X.A.frames=some X.stack
 stk:X.stack=X.outer\/(X.stack=X.env::X.outer/\X.env.frame=some X.env.locals)
 exf:∀b∈X.ex,b≠X.env.locals/\∀x c,X.env.cells.lookup x=some c->c≠b
 bs:∀b o,X.base.get? b=some o->X.s₀.heap.get? b=some o/\X.H₀ b=none
 bsz:X.base.objs.size<=X.s₀.heap.objs.size
 noex:∀b o,X.base.get? b=some o->b∉X.ex
 exfs:∀b∈X.ex,b∉X.fs
 funs:X.s₀.heap.FunFrames X.base X.outer
 frf:∀b∈X.fs,X.H₀ b=none
structure Inv(X:Cx)(Zt:List (Addr×Obj))(σ:List (Option V))(H:Hp)(s:Shared):Prop where
 ok:X.Ok
 os:s.os=X.s₀.os
 bare:AllBare s.gens
 base:Un X.fs X.ex X.H₀ H X.s₀.heap s.heap
 loc:∃m,s.heap.Ns X.env.locals m/\∀(i:Nat) (x:Str) (v:V),X.N[i]?=some x->σ[i]?=some (some v)->Vis X.env.scope x->∃u,RelV v u/\Look X.env s.heap m x u
 cell:∀x c,X.env.cells.lookup x=some c->∃v,s.heap.IsCell c v
 free:H X.env.locals=none
 freeC:∀x c,X.env.cells.lookup x=some c->H c=none
 pin:∀p∈X.pn++Zt,s.heap.get? p.1=some p.2/\H p.1=none/\p.1≠X.env.locals/\p.1∉X.fs/\∀v,p.2.data≠.cell v
 hok:HOk X.prog X.w H s.heap
 len:σ.length=X.N.length
section
variable{X:Cx}{Zt:List (Addr×Obj)}{σ:List (Option V)}{H H':Hp}{s:Shared}{h':Heap}
theorem Cx.Ok.nofr(ok:X.Ok){b:Addr}{o:Obj}(e:X.base.get? b=some o):b∉X.fs:=fun hb=>by
 have:=(ok.funs.mem hb).1;rw[e]at this;cases this
theorem Inv.bs(I:Inv X Zt σ H s):∀b o,X.base.get? b=some o->s.heap.get? b=some o/\H b=none:=fun b o e=>
 ⟨I.base.keep b o (I.ok.bs b o e).1 (I.ok.bs b o e).2 (I.ok.nofr e) (I.ok.noex b o e),I.base.free b o (I.ok.bs b o e).1 (I.ok.bs b o e).2 (I.ok.noex b o e)⟩
theorem Inv.bk(I:Inv X Zt σ H s):∀b o,X.base.get? b=some o->s.heap.get? b=some o:=fun b o e=>(I.bs b o e).1
theorem Inv.mod(I:Inv X Zt σ H s):Mod X.K X.mg X.base:=I.ok.mod
theorem Inv.kIn(I:Inv X Zt σ H s):X.K.In s.heap:=I.ok.mod.kin.keeps I.bk
theorem Inv.lt(I:Inv X Zt σ H s):X.env.locals<s.heap.objs.size:=let⟨_,hn,_⟩:=I.loc;hn.lt
theorem Inv.sz(I:Inv X Zt σ H s):X.s₀.heap.objs.size<=s.heap.objs.size:=Nat.le_trans I.ok.above (Nat.le_of_lt I.lt)
theorem Inv.nofs(I:Inv X Zt σ H s){a:Addr}(h:s.heap.objs.size<=a):a∉X.fs:=fun hb=>by
 obtain⟨_,o,ho,_⟩:=I.ok.funs.mem hb;exact absurd (zB6 (zB1 ho) (Nat.le_trans I.sz h)) (Nat.lt_irrefl _)
theorem Inv.cne(I:Inv X Zt σ H s):∀x c,X.env.cells.lookup x=some c->c≠X.env.locals:=fun x c e z=>by
 obtain⟨v,o,ho,hd⟩:=I.cell x c e;obtain⟨m,⟨o',es,ep,kB,D4,_⟩,_⟩:=I.loc;rw[z,kB]at ho;cases ho;rw[D4]at hd;cases hd
theorem Inv.funs(I:Inv X Zt σ H s):s.heap.FunFrames X.base X.outer:=by
 have all:∀(l:List Env),(∀b∈frs l,b∈X.fs)->X.s₀.heap.FunFrames X.base l->s.heap.FunFrames X.base l:=by
  intro l
  induction l with
  |nil=>intro _ _;trivial
  |cons env r ih=>
   intro hs hl;obtain⟨hk,⟨L,o,hf,hn,ho,hd⟩,hr⟩:=hl;have hL:L∈X.fs:=hs L (by unfold frs;rw[List.filterMap_cons,hf];exact List.mem_cons_self);obtain⟨sl,e⟩:=I.base.slot L o ho (I.ok.frf L hL) hL fun z=>I.ok.exfs L z hL;exact⟨hk,⟨L,_,hf,hn,e,hd⟩,ih (fun b hb=>hs b (by unfold frs;rw[List.filterMap_cons,hf];exact List.mem_cons_of_mem _ hb)) hr⟩
 exact all X.outer (fun _ hb=>hb) I.ok.funs
theorem Inv.stack(I:Inv X Zt σ H s):s.heap.FunFrames X.base X.stack:=by
 rcases I.ok.stk with e|⟨e,hf⟩
 .rw[e];exact I.funs
 .rw[e];obtain⟨m,hn,_⟩:=I.loc;refine .cons (by rw[I.ok.kind];decide) hf hn ?_ I.funs;exact Heap.get?_none_of_le (Nat.le_trans I.ok.bsz I.ok.above)
theorem Inv.stkSub(I:Inv X Zt σ H s):∀b∈frs X.stack,b∈X.env.locals::X.fs:=fun b hb=>by
 rcases I.ok.stk with e|⟨e,hf⟩
 .rw[e]at hb;exact List.mem_cons_of_mem _ hb
 .rw[e]at hb;unfold frs at hb;rw[List.filterMap_cons,hf]at hb;exact hb
theorem Inv.stkFree(I:Inv X Zt σ H s):∀b∈frs X.stack,H b=none:=fun b hb=>by
 rcases zAo.mp (I.stkSub b hb)with e|hb
 .rw[e];exact I.free
 .obtain⟨_,o,ho,_⟩:=I.ok.funs.mem hb;exact I.base.free b o ho (I.ok.frf b hb) fun z=>I.ok.exfs b z hb
theorem Inv.step{g':Array GenState}{t':Nat}{d':Drawn}{ch:List Addr}(I:Inv X Zt σ H s)
  (mB:∀b∈ch,(b∈X.ex\/X.s₀.heap.objs.size<=b)/\b≠X.env.locals/\(∀x c,X.env.cells.lookup x=some c->c≠b)/\∀p∈X.pn++Zt,p.1≠b)
  (keep:∀b o,b≠X.env.locals->b∉X.fs->b∉ch->s.heap.get? b=some o->H b=none->h'.get? b=some o)
  (slot:∀b o,b≠X.env.locals->b∈X.fs->b∉ch->s.heap.get? b=some o->H b=none->∃sl,h'.get? b=some {o with slots:=sl}) (free:∀b o,b∉ch->s.heap.get? b=some o->H b=none->H' b=none)
  (there:∀b o,b∉ch->s.heap.get? b=some o->∃o',h'.get? b=some o')
  (tups:∀b xs,H b=some (.tup xs)->H' b=some (.tup xs)) (frzs:∀b o u,H b=some (.frz o u)->H' b=some (.frz o u)) (tbls:∀b ps,H b=some (.tbl ps)->∃more,H' b=some (.tbl (ps++more)))
  (ns:∀m,s.heap.Ns X.env.locals m->h'.Ns X.env.locals m) (hok:HOk X.prog X.w H' h') (hg:AllBare g'):
  Inv X Zt σ H' {s with heap:=h',gens:=g',drawn:=d',toks:=t'}:=by
 have M4:∀b o,X.s₀.heap.get? b=some o->b≠X.env.locals:=fun b o e=>zB9 (zB6 (zB1 e) I.ok.above)
 have D5:∀b o,X.s₀.heap.get? b=some o->b∉X.ex->b∉ch:=fun b o e hx hb=>by
  rcases(mB b hb).1 with z|z
  .exact hx z
  .exact absurd (zB6 (zB1 e) z) (Nat.lt_irrefl _)
 have cellK:∀x c,X.env.cells.lookup x=some c->∀v,s.heap.IsCell c v->h'.IsCell c v:=fun x c e v ⟨o,ho,hd⟩=>by
  have AK:c∉ch:=fun z=>(mB c z).2.2.1 x c e rfl;by_cases hc:c∈X.fs
  .obtain⟨sl,q⟩:=slot c o (I.cne x c e) hc AK ho (I.freeC x c e);exact⟨_,q,hd⟩
  .exact⟨o,keep c o (I.cne x c e) hc AK ho (I.freeC x c e),hd⟩
 refine⟨I.ok,I.os,hg,⟨fun b o e n hb hx=>?_,fun b o e n hb hx=>?_,fun b o e n hx=>?_,fun b o e hx=>?_,fun b xs e=>tups b xs (I.base.tups b xs e),fun b o xs e=>frzs b o xs (I.base.frzs b o xs e),fun b ps e=>?_⟩,?_,fun x c e=>?_,?_,fun x c e=>?_,fun p hp=>?_,hok,I.len⟩
 .exact keep b o (M4 b o e) hb (D5 b o e hx) (I.base.keep b o e n hb hx) (I.base.free b o e n hx)
 .obtain⟨sl,e1⟩:=I.base.slot b o e n hb hx;obtain⟨Py,e2⟩:=slot b _ (M4 b o e) hb (D5 b o e hx) e1 (I.base.free b o e n hx);exact⟨Py,e2⟩
 .obtain⟨o',e1⟩:=I.base.there b o e hx;exact free b o' (D5 b o e hx) e1 (I.base.free b o e n hx)
 .obtain⟨o',e1⟩:=I.base.there b o e hx;exact there b o' (D5 b o e hx) e1
 .obtain⟨m1,e1⟩:=I.base.tbls b ps e;obtain⟨m2,e2⟩:=tbls b _ e1;exact⟨m1++m2,by rw[e2,Array.append_assoc]⟩
 .obtain⟨m,hn,hl⟩:=I.loc;refine⟨m,ns m hn,fun i x v e1 e2 e3=>?_⟩;obtain⟨u,r,l⟩:=hl i x v e1 e2 e3;refine⟨u,r,?_⟩;rcases l with l|⟨k,c,e,z⟩
  .exact .inl l
  .exact .inr ⟨k,c,e,cellK x c e _ z⟩
 .obtain⟨v,z⟩:=I.cell x c e;exact⟨v,cellK x c e v z⟩
 .obtain⟨m,⟨o,_,_,ho,_⟩,_⟩:=I.loc;exact free _ o (fun z=>(mB _ z).2.1 rfl) ho I.free
 .obtain⟨v,o,ho,hd⟩:=I.cell x c e;exact free c o (fun z=>(mB c z).2.2.1 x c e rfl) ho (I.freeC x c e)
 .obtain⟨e,n,ne,nf,d⟩:=I.pin p hp;have AK:p.1∉ch:=fun z=>(mB p.1 z).2.2.2 p hp rfl;exact⟨keep p.1 p.2 ne nf AK e n,free p.1 p.2 AK e n,ne,nf,d⟩
theorem Inv.un{t':Nat}(I:Inv X Zt σ H s)(u:Un X.fs [] H H' s.heap h')(hok:HOk X.prog X.w H' h'):Inv X Zt σ H' {s with heap:=h',toks:=t'}:=by
 obtain⟨m,⟨o,es,ep,ho,r⟩,_⟩:=id I.loc;obtain⟨sl,hL⟩:=u.any ho I.free Zy
 exact I.step (g':=s.gens) (d':=s.drawn) (ch:=[]) (fun _ z=>nomatch z) (fun b o _ hb _ e n=>u.keep b o e n hb Zy) (fun b o _ hb _ e n=>u.slot b o e n hb Zy) (fun b o _ e n=>u.free b o e n Zy) (fun b o _ e=>u.there b o e Zy) u.tups u.frzs u.tbls (fun m' hm=>by
  obtain⟨o',fR,AL,kB,r'⟩:=hm;rw[ho]at kB;cases kB
  exact⟨_,fR,AL,hL,r'⟩) hok I.bare
theorem Inv.call{g':Array GenState}{t':Nat}{d':Drawn}{ch:List Addr}(I:Inv X Zt σ H s)(u:Un (frs X.stack) ch H H' s.heap h')(hok:HOk X.prog X.w H' h')(hg:AllBare g')
  (mB:∀b∈ch,(b∈X.ex\/X.s₀.heap.objs.size<=b)/\b≠X.env.locals/\(∀x c,X.env.cells.lookup x=some c->c≠b)/\∀p∈X.pn++Zt,p.1≠b):
  Inv X Zt σ H' {s with heap:=h',gens:=g',drawn:=d',toks:=t'}:=by
 obtain⟨m,⟨o,es,ep,ho,r⟩,_⟩:=id I.loc;obtain⟨sl,hL⟩:=u.any ho I.free fun z=>(mB _ z).2.1 rfl
 exact I.step (ch:=ch) mB (fun b o hL hb hc e n=>u.keep b o e n (fun z=>(zAo.mp (I.stkSub b z)).elim hL hb) hc) (fun b o _ _ hc e n=>u.any e n hc) (fun b o hc e n=>u.free b o e n hc) (fun b o hc e=>u.there b o e hc) u.tups u.frzs u.tbls (fun m' hm=>by
  obtain⟨o',fR,AL,kB,r'⟩:=hm;rw[ho]at kB;cases kB
  exact⟨_,fR,AL,hL,r'⟩) hok hg
theorem Inv.turned{t':Nat}{it:Addr}(I:Inv X Zt σ H s)(k:∀b o,b≠it->s.heap.get? b=some o->h'.get? b=some o)(hn:H it=none)(hL:it≠X.env.locals)
  (h1:it∈X.ex\/X.s₀.heap.objs.size<=it) (h2:∀x c,X.env.cells.lookup x=some c->c≠it) (h3:∀p∈X.pn++Zt,p.1≠it):Inv X Zt σ H {s with heap:=h',toks:=t'}:=by
 have M5:∀b u,H b=some u->b≠it:=fun b u e z=>by rw[z,hn]at e;cases e
 refine I.step (g':=s.gens) (d':=s.drawn) (ch:=[it]) (fun b hb=>?_) (fun b o _ _ hc e _=>k b o (fun z=>hc (by simp[z])) e) (fun b o _ _ hc e _=>⟨o.slots,k b o (fun z=>hc (by simp[z])) e⟩) (fun _ _ _ _ n=>n)
  (fun b o hc e=>⟨o,k b o (fun z=>hc (by simp[z])) e⟩) (fun _ _ e=>e) (fun _ _ _ e=>e) (fun b ps e=>⟨#[],by rw[e];simp⟩) (fun m hm=>?_) (fun b u e=>?_) I.bare
 .have e:b=it:=by simpa using hb
  subst e;exact⟨h1,hL,h2,h3⟩
 .obtain⟨o,es,ep,ho,r⟩:=hm;exact⟨o,es,ep,k _ o (Ne.symm hL) ho,r⟩
 .refine(I.hok b u e).stay (fun c v hc q=>k c v ?_ q) (fun _ q=>q) fun _ _ q=>q;rcases hc with z|z
  .rw[z];exact M5 b u e
  .exact M5 c _ z
theorem Inv.tok(I:Inv X Zt σ H s)(t:Nat):Inv X Zt σ H {s with toks:=t}:=I.un (h':=s.heap) (t':=t) Un.refl I.hok
theorem Inv.kept{t':Nat}(I:Inv X Zt σ H s)(k:∀b u,s.heap.get? b=some u->h'.get? b=some u):Inv X Zt σ H {s with heap:=h',toks:=t'}:=I.un (Un.kept k) (I.hok.kept k)
theorem Inv.laid{a:Addr}{o:HO}{t':Nat}(I:Inv X Zt σ H s)(k:∀b u,s.heap.get? b=some u->h'.get? b=some u)(hp:s.heap.objs.size<=a)(new:ObjOk X.prog X.w (upd H a o) h' a o):
  Inv X Zt σ (upd H a o) {s with heap:=h',toks:=t'}:=I.un (Un.laid k hp (I.hok.fresh hp)) (I.hok.laid k hp new)
theorem Inv.write{x e:Addr}{o:HO}{t':Nat}(I:Inv X Zt σ H s)(mu:Mut (H x))(he:e=x\/H e=some (.own x))(k:∀b u,b≠e->s.heap.get? b=some u->h'.get? b=some u)(yi:∃u,h'.get? e=some u)
  (new:ObjOk X.prog X.w (upd H x o) h' x o):Inv X Zt σ (upd H x o) {s with heap:=h',toks:=t'}:=I.un (Un.write mu he k yi) (I.hok.write mu he k yi new)
theorem Inv.pins_of{pV:List (Addr×Obj)}(I:Inv X Zt σ H s)(h:∀p∈pV,s.heap.get? p.1=some p.2/\H p.1=none/\p.1≠X.env.locals/\p.1∉X.fs/\∀v,p.2.data≠.cell v):Inv X pV σ H s:=
 ⟨I.ok,I.os,I.bare,I.base,I.loc,I.cell,I.free,I.freeC,fun p hp=>(zA6.mp hp).elim (fun z=>I.pin p (List.mem_append_left _ z)) (h p),I.hok,I.len⟩
theorem tG{N:List Str}(hN:N.Nodup){i j:Nat}{x:Str}(a:N[i]?=some x)(b:N[j]?=some x):i=j:=by
 obtain⟨h1,e1⟩:=zAa.mp a;obtain⟨h2,e2⟩:=zAa.mp b;exact(List.getElem_inj hN).mp (e1.trans e2.symm)
theorem pK{M:Model}{A:Around}{E:Value->Shared->Prop}{i:Nat}{x:Str}{v:V}{u:Value}{Q:Unit->Shared->Prop}(I:Inv X Zt σ H s)(hN:X.N.Nodup)(hi:X.N[i]?=some x)(hx:Loc X.env.scope x)(r:RelV v u)
  (h:∀s',Inv X Zt (σ.set i (some v)) H s'->(∃a,Heap.SameBut a s.heap s'.heap/\(a=X.env.locals\/X.env.cells.lookup x=some a))->Q () s') (hf:X.fn x=true\/X.env.scope.names.lookup x=some .local:=by first|exact .inl rfl|exact .inr rfl|assumption):wpAny M A (storeName X.env x u) Q E s:=by
 obtain⟨m,hn,hl⟩:=id I.loc;have FO:(X.env.scope.kind==.class||(X.env.scope.kind==.module&&X.env.locals != X.env.globals))=false:=by rw[I.ok.kind];rfl
 have AM:i<σ.length:=by rw[I.len];exact(zAa.mp hi).1
 have cne:=I.cne
 have tracked:∀{a:Addr} {h':Heap},(∃o,s.heap.get? a=some o/\H a=none)->Heap.SameBut a s.heap h'->HOk X.prog X.w H h':=fun{a h'} ha hs b ob e=>by
  obtain⟨_,_,hfree⟩:=ha;refine(I.hok b ob e).stay (fun c w' hc q=>(hs.2 c ?_).trans q) (fun _ q=>q) fun _ _ q=>q;rintro rfl;rcases hc with rfl|hc
  .rw[hfree]at e;cases e
  .rw[hfree]at hc;cases hc
 rcases hx with hk|hk
 .refine wpAny_storeName_local hk hn (fun h' Pz hs=>?_) FO;obtain⟨oL,_,_,PB,_⟩:=id hn;refine h _ ⟨I.ok,I.os,I.bare,⟨fun b o e n hb hx=>?_,fun b o e n hb hx=>?_,I.base.free,fun b o e hx=>?_,I.base.tups,I.base.frzs,I.base.tbls⟩,⟨_,Pz,fun j y v' e1 e2 e3=>?_⟩,fun y c e=>?_,I.free,I.freeC,fun p hp=>?_,tracked ⟨oL,PB,I.free⟩ hs,by simpa using I.len⟩ ⟨_,hs,.inl rfl⟩
  .exact(hs.2 b (zB9 (zB6 (zB1 e) I.ok.above))).trans (I.base.keep b o e n hb hx)
  .obtain⟨sl,e1⟩:=I.base.slot b o e n hb hx;exact⟨sl,(hs.2 b (zB9 (zB6 (zB1 e) I.ok.above))).trans e1⟩
  .obtain⟨o',e1⟩:=I.base.there b o e hx;exact⟨o',(hs.2 b (zB9 (zB6 (zB1 e) I.ok.above))).trans e1⟩
  .by_cases hj:j=i
   .subst hj;rw[hi]at e1;cases e1;rw[List.getElem?_set_self AM]at e2;cases e2;exact⟨u,r,.inl ⟨hk,by simp⟩⟩
   .rw[List.getElem?_set_ne (Ne.symm hj)]at e2;obtain⟨u',r',q⟩:=hl j y v' e1 e2 e3;refine⟨u',r',?_⟩;rcases q with⟨k,e⟩|⟨k,c,e,z⟩
    .refine .inl ⟨k,?_⟩;have:y≠x:=fun e=>hj (tG hN e1 (e▸hi));simp[this,e]
    .exact .inr ⟨k,c,e,z.sameBut hs (cne y c e)⟩
  .obtain⟨w',z⟩:=I.cell y c e;exact⟨w',z.sameBut hs (cne y c e)⟩
  .obtain⟨e,n,ne,nf,d⟩:=I.pin p hp;exact⟨(hs.2 p.1 ne).trans e,n,ne,nf,d⟩
 .have FR:X.fn x=true:=by
   rcases hf with z|z
   .exact z
   .rw[z]at hk;cases hk
  obtain⟨c,hc⟩:=I.ok.has x (.inl hk);obtain⟨w',z⟩:=I.cell x c hc;refine wpAny_storeName_cell I.ok.kind hk hc z (fun h' ay hs=>?_);obtain⟨oc,M6,FU⟩:=id z;refine h {s with heap:=h'} ⟨I.ok,I.os,I.bare,⟨fun b o e n hb hx=>?_,fun b o e n hb hx=>?_,I.base.free,fun b o e hx=>?_,I.base.tups,I.base.frzs,I.base.tbls⟩,⟨m,hn.sameBut hs (Ne.symm (cne x c hc)),fun j y v' e1 e2 e3=>?_⟩,fun y c' e=>?_,I.free,I.freeC,fun p hp=>?_,tracked ⟨oc,M6,I.freeC x c hc⟩ hs,by simpa using I.len⟩ ⟨c,hs,.inr hc⟩
  .exact(hs.2 b (zB9 (zB6 (zB1 e) (I.ok.cab x c FR hc)))).trans (I.base.keep b o e n hb hx)
  .obtain⟨sl,e1⟩:=I.base.slot b o e n hb hx;exact⟨sl,(hs.2 b (zB9 (zB6 (zB1 e) (I.ok.cab x c FR hc)))).trans e1⟩
  .obtain⟨o',e1⟩:=I.base.there b o e hx;exact⟨o',(hs.2 b (zB9 (zB6 (zB1 e) (I.ok.cab x c FR hc)))).trans e1⟩
  .by_cases hj:j=i
   .subst hj;rw[hi]at e1;cases e1;rw[List.getElem?_set_self AM]at e2;cases e2;exact⟨u,r,.inr ⟨.inl hk,c,hc,ay⟩⟩
   .rw[List.getElem?_set_ne (Ne.symm hj)]at e2;obtain⟨u',r',q⟩:=hl j y v' e1 e2 e3;refine⟨u',r',?_⟩;rcases q with q|⟨k,c',e,z'⟩
    .exact .inl q
    .refine .inr ⟨k,c',e,z'.sameBut hs ?_⟩;rintro rfl;exact hj (tG hN e1 (I.ok.inj _ _ _ e hc▸hi))
  .by_cases AN:c'=c
   .subst AN;exact⟨_,ay⟩
   .obtain⟨w2,z2⟩:=I.cell y c' e;exact⟨w2,z2.sameBut hs AN⟩
  .obtain⟨e,n,ne,nf,d⟩:=I.pin p hp;refine⟨(hs.2 p.1 ?_).trans e,n,ne,nf,d⟩;intro q;rw[q,M6]at e;have q':oc=p.2:=zAl e;exact d w' (by rw[<-q'];exact FU)
theorem fc{M:Model}{A:Around}{E:Value->Shared->Prop}{i:Nat}{x:Str}{v:V}{u:Value}{Q:Unit->Shared->Prop}(I:Inv X Zt σ H s)(hN:X.N.Nodup)(hi:X.N[i]?=some x)(hx:Loc X.env.scope x)(r:RelV v u)
  (h:∀s',Inv X Zt (σ.set i (some v)) H s'->Q () s') (hf:X.fn x=true\/X.env.scope.names.lookup x=some .local:=by first|exact .inl rfl|exact .inr rfl|assumption):wpAny M A (storeName X.env x u) Q E s:=
 pK I hN hi hx r (fun s' I' _=>h s' I') hf
theorem Inv.call'{s':Shared}{ch:List Addr}(I:Inv X Zt σ H s)(ho:s'.os=s.os)(u:Un (frs X.stack) ch H H' s.heap s'.heap)(hok:HOk X.prog X.w H' s'.heap)(hg:AllBare s'.gens)
  (mB:∀b∈ch,(b∈X.ex\/X.s₀.heap.objs.size<=b)/\b≠X.env.locals/\(∀x c,X.env.cells.lookup x=some c->c≠b)/\∀p∈X.pn++Zt,p.1≠b):Inv X Zt σ H' s':=by
 obtain⟨h',g',d',t',o'⟩:=s';have e:o'=s.os:=ho;subst e;exact I.call (g':=g') (t':=t') (d':=d') u hok hg mB
end
abbrev XK:=Value->Option Addr->Hp->Prop
abbrev St:=List (Option V)
abbrev VK:=V->Hp->Prop
abbrev TE:=St->Hp->VK->Prop
abbrev TT:=St->Hp->(Bool->Hp->Prop)->Prop
abbrev TA:=St->Hp->(List V->Hp->Prop)->Prop
structure Ends where
 nx:St->Hp->Prop
 rt:VK
 bk:St->Hp->Prop:=fun _ _=>False
 ct:St->Hp->Prop:=fun _ _=>False
abbrev TS:=Ends->St->Hp->Prop
def EP(X:Cx)(Zt:List (Addr×Obj))(σ:St)(Q:VK)(u:Value)(s':Shared):Prop:=∃v H',Inv X Zt σ H' s'/\RelV v u/\Q v H'
def TP(X:Cx)(Zt:List (Addr×Obj))(σ:St)(Q:Bool->Hp->Prop)(b:Bool)(s':Shared):Prop:=∃H',Inv X Zt σ H' s'/\Q b H'
def AP(X:Cx)(Zt:List (Addr×Obj))(σ:St)(Q:List V->Hp->Prop)(us:List Value)(s':Shared):Prop:=∃vs H',Inv X Zt σ H' s'/\Vals vs us/\Q vs H'
def SP(X:Cx)(Zt:List (Addr×Obj))(D:Ends)(f:Flow)(s':Shared):Prop:=
 match f with
 |.next=>∃ah H',Inv X Zt ah H' s'/\D.nx ah H'
 |.brk=>∃ah H',Inv X Zt ah H' s'/\D.bk ah H'
 |.cont=>∃ah H',Inv X Zt ah H' s'/\D.ct ah H'
 |.ret u=>∃v ah H',Inv X Zt ah H' s'/\RelV v u/\D.rt v H'
def PE(X:Cx)(e:Expr)(t:TE):Prop:=
 ∀(Zt:List (Addr×Obj)) (s:Shared) (σ:St) (H:Hp) (Q:VK),Inv X Zt σ H s->t σ H Q->wpAny (model X.prog X.w) X.A (eval e X.env) (EP X Zt σ Q) X.xe s
def PT(X:Cx)(e:Expr)(t:TT):Prop:=
 ∀(Zt:List (Addr×Obj)) (s:Shared) (σ:St) (H:Hp) (Q:Bool->Hp->Prop),Inv X Zt σ H s->t σ H Q->wpAny (model X.prog X.w) X.A (isTrue e X.env (eval e X.env)) (TP X Zt σ Q) X.xe s
def PW(X:Cx)(e:Expr)(t:TT):Prop:=
 ∀(whole:Sem Value) (Zt:List (Addr×Obj)) (s:Shared) (σ:St) (H:Hp) (Q:Bool->Hp->Prop),Inv X Zt σ H s->t σ H Q->wpAny (model X.prog X.w) X.A (isTrue e X.env whole) (TP X Zt σ Q) X.xe s
theorem PW.pt{X:Cx}{e:Expr}{t:TT}(h:PW X e t):PT X e t:=h _
def PA(X:Cx)(es:List Expr)(t:TA):Prop:=
 ∀(pos:Pos) (Zt:List (Addr×Obj)) (s:Shared) (σ:St) (H:Hp) (Q:List V->Hp->Prop),Inv X Zt σ H s->t σ H Q->wpAny (model X.prog X.w) X.A (spliced (backTo pos (starEach es X.env))) (AP X Zt σ Q) X.xe s
def PS(X:Cx)(st:Stmt)(t:TS):Prop:=
 ∀(Zt:List (Addr×Obj)) (s:Shared) (σ:St) (H:Hp) (D:Ends),Inv X Zt σ H s->t D σ H->wpAny (model X.prog X.w) X.A (exec st X.env) (SP X Zt D) X.xe s
def PSs(X:Cx)(st:List Stmt)(t:TS):Prop:=
 ∀(Zt:List (Addr×Obj)) (s:Shared) (σ:St) (H:Hp) (D:Ends),Inv X Zt σ H s->t D σ H->wpAny (model X.prog X.w) X.A (execs st X.env) (SP X Zt D) X.xe s
theorem thn{α:Type}{t:Sem α}{Q Q':α->Shared->Prop}{M:Model}{A:Around}{E:Value->Shared->Prop}{s:Shared}(h:wpAny M A t Q E s)(hQ:∀a s,Q a s->Q' a s):wpAny M A t Q' E s:=wpAny_mono h hQ fun _ _ x=>x
section
variable{X:Cx}
theorem bin{a b:Expr}{ta tb:TE}(ha:PE X a ta)(hb:PE X b tb){Zt:List (Addr×Obj)}{s:Shared}{σ:St}{H:Hp}{R:V->V->Hp->Prop}(I:Inv X Zt σ H s)(h:ta σ H fun x H1=>tb σ H1 fun y H2=>R x y H2)
  {α:Type} {Q:α->Shared->Prop} {f:Value->Value->Sem α}
  (hf:∀v u s2 x y H2,Inv X Zt σ H2 s2->RelV x v->RelV y u->R x y H2->wpAny (model X.prog X.w) X.A (f v u) Q X.xe s2):
  wpAny (model X.prog X.w) X.A (eval a X.env) (fun v s₁=>wpAny (model X.prog X.w) X.A (eval b X.env) (fun u s₂=>wpAny (model X.prog X.w) X.A (f v u) Q X.xe s₂) X.xe s₁) X.xe s:=by
 refine thn (ha Zt s σ H _ I h) fun v s1 ⟨x,H1,I1,r1,q1⟩=>?_;refine thn (hb Zt s1 σ H1 _ I1 q1) fun u s2 ⟨y,H2,I2,r2,q2⟩=>?_;exact hf v u s2 x y H2 I2 r1 r2 q2
inductive TVarI(i:Nat)(σ:St)(H:Hp)(Q:VK):Prop
 |mk:∀v,(σ[i]?=some (some v))->(Q v H)->TVarI i σ H Q
def DN(i:Nat):TE:=fun σ H Q=>TVarI i σ H Q
def tC(v:V):TE:=fun _ H Q=>Q v H
theorem Gv{i:Nat}{x:Str}{pos:Pos}(hN:X.N[i]?=some x)(hv:Vis X.env.scope x)(hd:(x==("__debug__":Str))=false:=by decide)(kC:(x==("__classdict__":Str))=false:=by decide):PE X (.Name x pos) (DN i):=by
 intro Zt s σ H Q I h;obtain⟨v,e,h⟩:=h;obtain⟨m,hn,hl⟩:=I.loc;obtain⟨u,r,l⟩:=hl i x v hN e hv
 have fin:EP X Zt σ Q u s:=⟨v,H,I,r,h⟩
 rcases l with⟨hk,hm⟩|⟨hk,c,hc,hcell⟩
 .exact wpAny_Name (wpAny_loadName_local I.ok.kind hk hn hm fin) hd
 .rcases hk with hk|hk
  .exact wpAny_Name (wpAny_loadName_cell I.ok.kind hk hc hcell fin) hd
  .exact wpAny_Name (wpAny_loadName_free I.ok.kind hk hc hcell fin kC) hd
theorem aA{i j pos}:PE X (.Constant (.int i) j pos) (tC (.int i)):=fun _ _ _ H _ I h=>wpAny_Constant_int ⟨.int i,H,I.tok _,⟨_,rfl⟩,h⟩
theorem mR{b j pos}:PE X (.Constant (.bool b) j pos) (tC (.bl b)):=fun _ _ _ H _ I h=>Constant_bool ⟨.bl b,H,I,rfl,h⟩
theorem qP{j pos}:PE X (.Constant .none j pos) (tC .non):=fun _ _ _ H _ I h=>Constant_none ⟨.non,H,I,rfl,h⟩
def Gl(X:Cx)(x:Str):Prop:=X.env.kindOf x=some .globalImplicit
theorem vQ{E:Value->Shared->Prop}{Zt:List (Addr×Obj)}{s:Shared}{σ:St}{H:Hp}{x:Str}{u:Value}{pos:Pos}{Q:Value->Shared->Prop}(I:Inv X Zt σ H s)(hg:Gl X x)(hm:X.mg x=some u)(h:Q u s)
  (hd:(x==("__debug__":Str))=false:=by decide):wpAny (model X.prog X.w) X.A (eval (.Name x pos) X.env) Q E s:=
 Calls.Name_function_global I.ok.kind hg (Calls.loadGlobal_global (by rw[I.ok.glob];exact I.mod.glob.keeps I.bk) hm h) hd
theorem gZ{E:Value->Shared->Prop}{Zt:List (Addr×Obj)}{s:Shared}{σ:St}{H:Hp}{x:Str}{u:Value}{pos:Pos}{Q:Value->Shared->Prop}(I:Inv X Zt σ H s)(hg:Gl X x)(hm:X.mg x=none)(hv:bootBuiltins x=some u)(h:Q u s)
  (hn:x≠"__name__":=by decide) (hd:(x==("__debug__":Str))=false:=by decide):wpAny (model X.prog X.w) X.A (eval (.Name x pos) X.env) Q E s:=by
 obtain⟨mb,h1,h2⟩:=I.mod.blt;exact Calls.Name_function_global I.ok.kind hg (Calls.loadGlobal_builtin (by rw[I.ok.glob];exact I.mod.glob.keeps I.bk) hm (by rw[I.ok.blt];exact h1.keeps I.bk) ((h2 x hn).trans hv) h) hd
theorem bY{x:Str}{v:V}{u:Value}{pos:Pos}(hg:Gl X x)(hm:X.mg x=some u)(r:RelV v u)(hd:(x==("__debug__":Str))=false:=by decide):PE X (.Name x pos) (tC v):=
 fun _ _ _ H _ I h=>vQ I hg hm ⟨v,H,I,r,h⟩ hd
theorem qQ{x:Str}{v:V}{u:Value}{pos:Pos}(hg:Gl X x)(hm:X.mg x=none)(hv:bootBuiltins x=some u)(r:RelV v u)(hn:x≠"__name__":=by decide)(hd:(x==("__debug__":Str))=false:=by decide):PE X (.Name x pos) (tC v):=
 fun _ _ _ H _ I h=>gZ I hg hm hv ⟨v,H,I,r,h⟩ hn hd
variable{a b:Expr}{ta tb:TE}{pos:Pos}
def PC(X:Cx)(op:CmpOp)(a b:Expr)(t:TE):Prop:=
 ∀(Zt:List (Addr×Obj)) (s:Shared) (σ:St) (H:Hp) (Q:VK),Inv X Zt σ H s->t σ H Q->
  wpAny (model X.prog X.w) X.A (eval a X.env) (fun v s₁=>wpAny (model X.prog X.w) X.A (eval b X.env) (fun u s₂=>wpAny (model X.prog X.w) X.A (compareOp op v u) (EP X Zt σ Q) X.xe s₂) X.xe s₁) X.xe s
def tB(t:TE):TT:=fun σ H Q=>t σ H fun x H1=>∃c,x=.bl c/\Q c H1
theorem zZ{op:CmpOp}{t:TE}(h:PC X op a b t)(h1:behindInMarks op b=false:=by first|exact nobehind _ Zx Zx|rfl):PT X (.Compare a [op] [b] pos) (tB t):=by
 intro Zt s σ H Q I hw;refine wpAny_isTrue_Compare1 (thn (h Zt s σ H _ I hw) fun v s1 h1=>thn h1 fun u s2 h2=>thn h2 fun c s3 ⟨x,H1,I1,r1,q1⟩=>?_) h1;obtain⟨d,rfl,q⟩:=q1;cases r1;exact wpAny_truthy_bool ⟨H1,I1,q⟩
theorem fU{e:Expr}{t:TE}(h:PE X e t)(he:∀whole,isTrue e X.env whole=(do let v <-whole;standAt e.pos;holding [v] (truthy v)):=by intro _;rfl):PT X e (tB t):=by
 intro Zt s σ H Q I hw;refine isTrue_plain (thn (h Zt s σ H _ I hw) fun v s1 ⟨x,H1,I1,r1,q1⟩=>?_) (he _);obtain⟨d,rfl,q⟩:=q1;cases r1;exact wpAny_truthy_bool ⟨H1,I1,q⟩
variable{tA D6:TT}{rest:List Expr}
def JX(t u:TT):TT:=fun σ H Q=>t σ H fun c H1=>if c=true then u σ H1 Q else Q false H1
def tOr(t u:TT):TT:=fun σ H Q=>t σ H fun c H1=>if c=true then Q true H1 else u σ H1 Q
def JZ(t:TT):TT:=fun σ H Q=>t σ H fun c H1=>Q (!c) H1
theorem lZ(ha:PT X a tA):PW X (.BoolOp .And [a] pos) tA:=by
 intro wh Zt s σ H Q I h;refine isTrue_and (thn (ha Zt s σ H Q I h) fun c s1 e=>?_)
 cases c with
 |true=>exact isTrue_and_nil e
 |false=>exact e
theorem Aa(ha:PT X a tA):PW X (.BoolOp .Or [a] pos) tA:=by
 intro wh Zt s σ H Q I h;refine isTrue_or (thn (ha Zt s σ H Q I h) fun c s1 e=>?_)
 cases c with
 |false=>exact isTrue_or_nil e
 |true=>exact e
theorem qR(ha:PT X a tA)(hb:PW X (.BoolOp .And (b::rest) pos) D6):PW X (.BoolOp .And (a::b::rest) pos) (JX tA D6):=by
 intro wh Zt s σ H Q I h;refine isTrue_and (thn (ha Zt s σ H _ I h) fun c s1 ⟨H1,I1,q1⟩=>?_)
 cases c with
 |true=>exact hb wh Zt s1 σ H1 Q I1 q1
 |false=>exact⟨H1,I1,q1⟩
theorem vR(ha:PT X a tA)(hb:PW X (.BoolOp .Or (b::rest) pos) D6):PW X (.BoolOp .Or (a::b::rest) pos) (tOr tA D6):=by
 intro wh Zt s σ H Q I h;refine isTrue_or (thn (ha Zt s σ H _ I h) fun c s1 ⟨H1,I1,q1⟩=>?_)
 cases c with
 |true=>exact⟨H1,I1,q1⟩
 |false=>exact hb wh Zt s1 σ H1 Q I1 q1
theorem dR(ha:PT X a tA):PT X (.UnaryOp .Not a pos) (JZ tA):=by
 intro Zt s σ H Q I h;exact isTrue_not (ha Zt s σ H (fun c H1=>Q (!c) H1) I h)
def FQ(ta tb:TE):TE:=fun σ H Q=>ta σ H fun x H1=>∃c,x=.bl c/\if c=true then tb σ H1 Q else Q (.bl false) H1
def Ik(ta:TE):TE:=fun σ H Q=>ta σ H fun x H1=>∃c,x=.bl c/\Q (.bl (!c)) H1
theorem fG{op}{t:TE}(h:PE X a t):PE X (.BoolOp op [a] pos) t:=fun Zt s σ H Q I hw=>BoolOp_one (h Zt s σ H Q I hw)
theorem cO(ha:PE X a ta)(hb:PE X (.BoolOp .And (b::rest) pos) tb):PE X (.BoolOp .And (a::b::rest) pos) (FQ ta tb):=by
 intro Zt s σ H Q I h;refine BoolOp_and (thn (ha Zt s σ H _ I h) fun v s1 ⟨x,H1,I1,r1,q1⟩=>?_);obtain⟨c,rfl,q1⟩:=q1;cases r1;refine wpAny_truthy_bool ?_
 cases c with
 |true=>exact hb Zt s1 σ H1 Q I1 q1
 |false=>exact⟨.bl false,H1,I1,rfl,q1⟩
theorem Gw(ha:PE X a ta):PE X (.UnaryOp .Not a pos) (Ik ta):=by
 intro Zt s σ H Q I h;refine UnaryOp_ (thn (ha Zt s σ H _ I h) fun v s1 ⟨x,H1,I1,r1,q1⟩=>?_);obtain⟨c,rfl,q1⟩:=q1;cases r1;exact not_of (wpAny_truthy_bool ⟨.bl (!c),H1,I1,rfl,q1⟩)
def tIf(t:TT)(ta tb:TE):TE:=fun σ H Q=>t σ H fun c H1=>if c=true then ta σ H1 Q else tb σ H1 Q
theorem tH{c:Expr}(hc:PT X c tA)(ha:PE X a ta)(hb:PE X b tb):PE X (.IfExp c a b pos) (tIf tA ta tb):=by
 intro Zt s σ H Q I h;refine wpAny_IfExp (thn (hc Zt s σ H _ I h) fun d s1 ⟨H1,I1,q1⟩=>?_)
 cases d with
 |true=>exact ha Zt s1 σ H1 Q I1 q1
 |false=>exact hb Zt s1 σ H1 Q I1 q1
end
def SqL(K:Frag)(H:Hp)(a:Addr)(xs:List V):Prop:=
 Rd H a (.lst xs) \/
  ∃(o:Obj) (Zr:Array Value) (n:Nat),K.lookup a=some o/\o.cls=.type "list"/\o.dict=none/\o.data=.seq Zr n/\Zr.size<=sizeLine/\Vals xs Zr.toList
def SqT(K:Frag)(H:Hp)(a:Addr)(xs:List V):Prop:=
 Rd H a (.tup xs) \/
  ∃(o:Obj) (Zr:Array Value) (n:Nat),K.lookup a=some o/\o.cls=.type "tuple"/\o.data=.seq Zr n/\Zr.size<=sizeLine/\Vals xs Zr.toList
def K1:Value->Option V
 |.none=>some .non
 |.bool b=>some (.bl b)
 |.int i _=>some (.int i)
 |.str x _=>some (.str x)
 |.bytes b _=>some (.byt b)
 |.float b _=>some (.flt b)
 |.ref a=>some (.ref a)
 |.type n=>some (.ty n)
 |_=>none
theorem RelV.abs{x:V}{u:Value}(r:RelV x u):K1 u=some x:=by
 cases x with
 |non=>cases r;rfl
 |bl _=>cases r;rfl
 |int _=>obtain⟨t,rfl⟩:=r;rfl
 |str _=>obtain⟨t,rfl⟩:=r;rfl
 |byt _=>obtain⟨t,rfl⟩:=r;rfl
 |flt _=>obtain⟨t,rfl⟩:=r;rfl
 |ref _=>cases r;rfl
 |ty _=>cases r;rfl
theorem RelV.inj{x y:V}{u:Value}(r:RelV x u)(q:RelV y u):x=y:=zAl (r.abs.symm.trans q.abs)
theorem Vals.inj:∀{xs ys:List V} {us:List Value},Vals xs us->Vals ys us->xs=ys
 |_,_,_,.nil,.nil=>rfl
 |_,_,_,.cons r t,.cons r' t'=>by rw[r.inj r',Vals.inj t t']
section
variable{X:Cx}{Zt:List (Addr×Obj)}{σ:St}{H:Hp}{s:Shared}{a:Addr}{xs ys:List V}
theorem SqL.of{K:Frag}(h:H a=some (.lst xs)):SqL K H a xs:=.inl (.inl h)
theorem SqT.of{K:Frag}(h:H a=some (.tup xs)):SqT K H a xs:=.inl (.inl h)
theorem Inv.list(I:Inv X Zt σ H s)(h:SqL X.K H a xs):∃Zr:List Value,Vals xs Zr/\PlainL s.heap a Zr.toArray/\xs.length<=sizeLine:=by
 rcases h with h|⟨o,Zr,n,hk,hc,hd,hs,hz,r⟩
 .obtain⟨z,Zr,n,r,e⟩:=h.ok I.hok;exact⟨Zr,r,⟨_,n,e,rfl,rfl,rfl⟩,z⟩
 .refine⟨Zr.toList,r,⟨o,n,I.kIn a o hk,hc,hd,by simpa using hs⟩,?_⟩;have e:=r.length;simp only[Array.length_toList]at e;lia
theorem Inv.tuple(I:Inv X Zt σ H s)(h:SqT X.K H a xs):∃Zr:List Value,Vals xs Zr/\IsTup s.heap a Zr.toArray/\xs.length<=sizeLine:=by
 rcases h with h|⟨o,Zr,n,hk,hc,hs,hz,r⟩
 .obtain⟨z,Zr,r,p⟩:=h.ok I.hok;exact⟨Zr,r,p,z⟩
 .refine⟨Zr.toList,r,⟨o,I.kIn a o hk,hc,n,by simpa using hs⟩,?_⟩;have e:=r.length;simp only[Array.length_toList]at e;lia
theorem Inv.list_inj(I:Inv X Zt σ H s)(h:SqL X.K H a xs)(h':SqL X.K H a ys):xs=ys:=by
 obtain⟨Zr,r,⟨o,n,e,_,_,d⟩,_⟩:=I.list h;obtain⟨its',r',⟨o',n',e',_,_,d'⟩,_⟩:=I.list h';rw[e]at e';cases e';rw[d]at d';injection d' with d1 _;have:Zr=its':=by simpa using congrArg Array.toList d1
 subst this;exact r.inj r'
theorem Inv.tuple_inj(I:Inv X Zt σ H s)(h:SqT X.K H a xs)(h':SqT X.K H a ys):xs=ys:=by
 obtain⟨Zr,r,⟨o,e,_,n,d⟩,_⟩:=I.tuple h;obtain⟨its',r',⟨o',e',_,n',d'⟩,_⟩:=I.tuple h';rw[e]at e';cases e';rw[d]at d';injection d' with d1 _;have:Zr=its':=by simpa using congrArg Array.toList d1
 subst this;exact r.inj r'
end
abbrev Cx.wish(X:Cx)(E:Value->Shared->Prop):Cx:={X with xe:=E}
abbrev Cx.nox(X:Cx):Cx:=X.wish fun _ _=>False
theorem Cx.Ok.wish{X:Cx}(ok:X.Ok)(E:Value->Shared->Prop):(X.wish E).Ok:=
 ⟨ok.mod,ok.kind,ok.glob,ok.blt,ok.above,ok.inj,ok.has,ok.cab,ok.hd,ok.frames,ok.stk,ok.exf,ok.bs,ok.bsz,ok.noex,ok.exfs,ok.funs,ok.frf⟩
theorem Cx.Ok.unwish{X:Cx}{E:Value->Shared->Prop}(ok:(X.wish E).Ok):X.Ok:=
 ⟨ok.mod,ok.kind,ok.glob,ok.blt,ok.above,ok.inj,ok.has,ok.cab,ok.hd,ok.frames,ok.stk,ok.exf,ok.bs,ok.bsz,ok.noex,ok.exfs,ok.funs,ok.frf⟩
section
variable{X:Cx}{Zt:List (Addr×Obj)}{σ:St}{H:Hp}{s:Shared}{E:Value->Shared->Prop}
theorem Inv.wish(I:Inv X Zt σ H s)(E:Value->Shared->Prop):Inv (X.wish E) Zt σ H s:=⟨I.ok.wish E,I.os,I.bare,I.base,I.loc,I.cell,I.free,I.freeC,I.pin,I.hok,I.len⟩
theorem Inv.unwish(I:Inv (X.wish E) Zt σ H s):Inv X Zt σ H s:=⟨I.ok.unwish,I.os,I.bare,I.base,I.loc,I.cell,I.free,I.freeC,I.pin,I.hok,I.len⟩
theorem SP.unwish{D:Ends}{f:Flow}{s':Shared}(h:SP (X.wish E) Zt D f s'):SP X Zt D f s':=by
 cases f with
 |next=>obtain⟨ah,H',I,q⟩:=h;exact⟨ah,H',I.unwish,q⟩
 |brk=>obtain⟨ah,H',I,q⟩:=h;exact⟨ah,H',I.unwish,q⟩
 |cont=>obtain⟨ah,H',I,q⟩:=h;exact⟨ah,H',I.unwish,q⟩
 |ret u=>obtain⟨v,ah,H',I,r,q⟩:=h;exact⟨v,ah,H',I.unwish,r,q⟩
theorem PSs.nox{st:List Stmt}{t:TS}(h:PSs X.nox st t):PSs X st t:=fun Zt s σ H D I hw=>
 wpAny_mono (h Zt s σ H D (I.wish _) hw) (fun _ _ q=>q.unwish) fun _ _ z=>False.elim z
end
section
variable{X:Cx}{st:Stmt}{rest:List Stmt}{t u:TS}{e:Expr}{te:TE}{pos:Pos}
def FT:TS:=fun D σ H=>D.nx σ H
def DP(t u:TS):TS:=fun D σ H=>t {D with nx:=u D} σ H
theorem bz:PSs X [] FT:=fun _ _ σ H _ I h=>wpAny_execs_nil ⟨σ,H,I,h⟩
theorem aB(h1:PS X st t)(h2:PSs X rest u):PSs X (st::rest) (DP t u):=by
 intro Zt s σ H D I h;refine wpAny_execs_cons (thn (h1 Zt s σ H {D with nx:=u D} I h) fun f s1 q=>?_)
 cases f with
 |next=>
  obtain⟨ah,H',I',q⟩:=q;exact h2 Zt s1 ah H' D I' q
 |ret v=>exact q
 |brk=>exact q
 |cont=>exact q
theorem aG(h1:PS X st t):PSs X [st] t:=by
 intro Zt s σ H D I h;refine wpAny_execs_cons (thn (h1 Zt s σ H D I h) fun f s1 q=>?_)
 cases f with
 |next=>exact wpAny_execs_nil q
 |ret v=>exact q
 |brk=>exact q
 |cont=>exact q
theorem Inv.quiet{Zt:List (Addr×Obj)}{σ:St}{H:Hp}{s:Shared}(I:Inv X Zt σ H s):interactive X.env=false:=by simp[interactive,I.ok.kind]
def Il(te:TE):TS:=fun D σ H=>te σ H fun _ H1=>D.nx σ H1
theorem dC(he:PE X e te)(hs:swapsWith e none pos.line X.env=pure false:=by rfl):PS X (.Expr e pos) (Il te):=by
 intro Zt s σ H D I h;exact wpAny_Expr_any (thn (he Zt s σ H _ I h) fun v s1 ⟨x,H1,I1,r1,q1⟩=>⟨σ,H1,I1,q1⟩) I.quiet hs
def Gx(te:TE):TS:=fun D σ H=>te σ H D.rt
theorem aQ(he:PE X e te):PS X (.Return (some e) pos) (Gx te):=by
 intro Zt s σ H D I h;exact wpAny_Return_some (thn (he Zt s σ H _ I h) fun v s1 ⟨x,H1,I1,r1,q1⟩=>⟨x,σ,H1,I1,r1,q1⟩)
def K3(c:TT)(t u:TS):TS:=fun D σ H=>c σ H fun b H1=>if b=true then t D σ H1 else u D σ H1
theorem cU{c:Expr}{a b:List Stmt}{tc:TT}(hc:PT X c tc)(ha:PSs X a t)(hb:PSs X b u):PS X (.If c a b pos) (K3 tc t u):=by
 intro Zt s σ H D I h;refine wpAny_If (thn (hc Zt s σ H _ I h) fun d s1 ⟨H1,I1,q1⟩=>?_)
 cases d with
 |true=>exact ha Zt s1 σ H1 D I1 q1
 |false=>exact hb Zt s1 σ H1 D I1 q1
def Ab:TS:=fun _ _ _=>False
theorem jw:PS X st Ab:=fun _ _ _ _ _ _ h=>h.elim
theorem pL{FV:List Stmt}:PSs X FV Ab:=fun _ _ _ _ _ _ h=>h.elim
end
abbrev TG:=V->St->Hp->(St->Hp->Prop)->Prop
abbrev TGs:=List V->St->Hp->(St->Hp->Prop)->Prop
def PG(X:Cx)(target:Expr)(t:TG):Prop:=
 ∀(Zt:List (Addr×Obj)) (s:Shared) (σ:St) (H:Hp) (v:V) (u:Value) (Q:St->Hp->Prop),Inv X Zt σ H s->RelV v u->t v σ H Q->
  wpAny (model X.prog X.w) X.A (assign target X.env u) (fun _ s'=>∃ah H',Inv X Zt ah H' s'/\Q ah H') X.xe s
def PGs(X:Cx)(ts:List Expr)(t:TGs):Prop:=
 ∀(Zt:List (Addr×Obj)) (s:Shared) (σ:St) (H:Hp) (vs:List V) (us:List Value) (Q:St->Hp->Prop),Inv X Zt σ H s->Vals vs us->t vs σ H Q->
  wpAny (model X.prog X.w) X.A (assignInOrder ((assignEach ts X.env).map (·.2)) us) (fun _ s'=>∃ah H',Inv X Zt ah H' s'/\Q ah H') X.xe s
abbrev ym:=V->V->V->Hp->(Hp->Prop)->Prop
def DQ(X:Cx)(t:ym):Prop:=
 ∀(Zt:List (Addr×Obj)) (s:Shared) (σ:St) (H:Hp) (o i v:V) (ov iv u:Value) (Q:Hp->Prop),Inv X Zt σ H s->RelV o ov->RelV i iv->RelV v u->t o i v H Q->
  wpAny (model X.prog X.w) X.A (setItem ov iv u) (fun _ s'=>∃H',Inv X Zt σ H' s'/\Q H') X.xe s
abbrev TIp:=V->V->Hp->VK->Prop
def PIp(X:Cx)(op:Operator)(t:TIp):Prop:=
 ∀(Zt:List (Addr×Obj)) (s:Shared) (σ:St) (H:Hp) (x y:V) (v u:Value) (Q:VK),Inv X Zt σ H s->RelV x v->RelV y u->t x y H Q->
  wpAny (model X.prog X.w) X.A (inplaceOp op v u) (EP X Zt σ Q) X.xe s
section
variable{X:Cx}{pos:Pos}
def bH(i:Nat):TG:=fun v σ H Q=>Q (σ.set i (some v)) H
theorem bj{i:Nat}{x:Str}(hN:X.N.Nodup)(hi:X.N[i]?=some x)(hx:Loc X.env.scope x)(hf:X.fn x=true\/X.env.scope.names.lookup x=some .local:=by first|exact .inl rfl|exact .inr rfl|assumption):PG X (.Name x pos) (bH i):=by
 intro Zt s σ H v u Q I r h;exact wpAny_assign_Name (fc I hN hi hx r (fun s' I'=>⟨_,H,I',h⟩) hf)
def lN:TGs:=fun vs σ H Q=>vs=[]/\Q σ H
def cz(t:TG)(u:TGs):TGs:=fun vs σ H Q=>∃v r,vs=v::r/\t v σ H fun ah H'=>u r ah H' Q
theorem aV:PGs X [] lN:=by
 intro Zt s σ H vs us Q I r h;obtain⟨e,h⟩:=h;subst e;cases r;exact assignInOrder_nil ⟨σ,H,I,h⟩
theorem ao{e:Expr}{es:List Expr}{t:TG}{u:TGs}(h1:PG X e t)(h2:PGs X es u)
  (hs:(assignEach (e::es) X.env).map (·.2)=assign e X.env::(assignEach es X.env).map (·.2):=by rfl):PGs X (e::es) (cz t u):=by
 intro Zt s σ H vs us Q I r h;obtain⟨v,vr,e1,h⟩:=h;subst e1
 cases r with
 |cons r rr=>
  rw[hs];refine assignInOrder_cons (thn (h1 Zt s σ H _ _ _ I r h) fun _ s1 ⟨FX,H1,I1,q1⟩=>?_);exact h2 Zt s1 FX H1 _ _ Q I1 rr q1
inductive GTupI(K:Frag)(n:Nat)(t:TGs)(v:V)(σ:St)(H:Hp)(Q:St->Hp->Prop):Prop
 |mk:∀a xs,(v=.ref a)->(SqT K H a xs)->(xs.length=n)->(t xs σ H Q)->GTupI K n t v σ H Q
def jY(K:Frag)(n:Nat)(t:TGs):TG:=fun v σ H Q=>GTupI K n t v σ H Q
theorem bF{es:List Expr}{k:Nat}{t:TGs}{n:Nat}(hc:X.calm=true)(h:PGs X es t)
  (hn:(assignEach es X.env).length=n:=by rfl) (gz:(assignEach es X.env).findIdx? (·.1)=none:=by rfl):PG X (.Tuple es k pos) (jY X.K n t):=by
 intro Zt s σ H v u Q I r hw;obtain⟨a,xs,e1,hq,hl,hw⟩:=hw;subst e1;cases r;obtain⟨Zr,rv,ht,hz⟩:=I.tuple hq;refine assign_Tuple_tuple (I.ok.hd hc) ht (by simp[hn,<-hl,rv.length]) gz fun h' hx=>?_;have I1:Inv X Zt σ H {s with heap:=h'}:=I.kept (t':=s.toks) fun b o e=>hx b o (Nat.ne_of_lt (Heap.lt_size e)) e;exact h Zt _ σ H xs _ Q I1 (by simpa using rv) hw
def K4(to ti:TE)(t:ym):TG:=fun v σ H Q=>to σ H fun o H1=>ti σ H1 fun i H2=>t o i v H2 fun H3=>Q σ H3
theorem ie{o i:Expr}{to ti:TE}{t:ym}(ho:PE X o to)(hi:PE X i ti)(hs:DQ X t)
  (ha:∀v,assign (.Subscript o i pos) X.env v=(do
   let ov <-holding [v] (eval o X.env)
   let iv <-holding [v,ov] (eval i X.env)
   standAt pos
   holding [v,ov,iv] (setItem ov iv v)
   release [v,ov,iv] []):=by intro _;rfl):PG X (.Subscript o i pos) (K4 to ti t):=by
 intro Zt s σ H v u Q I r h;rw[ha];refine zAu (wpAny_holding (thn (ho Zt s σ H _ I h) fun ov s1 ⟨x,H1,I1,r1,q1⟩=>?_));refine zAu (wpAny_holding (thn (hi Zt s1 σ H1 _ I1 q1) fun iv s2 ⟨y,H2,I2,r2,q2⟩=>?_));refine zAu (wpAny_standAt (zAu (wpAny_holding (thn (hs Zt s2 σ H2 x y v ov iv u _ I2 r1 r2 r q2) fun _ s3 ⟨H3,I3,q3⟩=>?_))));exact wpAny_release ⟨σ,H3,I3,q3⟩
def yo(te:TE)(g:TG):TS:=fun D σ H=>te σ H fun x H1=>g x σ H1 D.nx
theorem cJ{tg e:Expr}{te:TE}{g:TG}(he:PE X e te)(hg:PG X tg g)(hs:swapsWithSole [tg] e pos.line X.env=pure false:=by rfl)(hw:swappedStores [tg] e X.env=pure none:=by rfl)
  (h1:(assignEach [tg] X.env).map (·.2)=[assign tg X.env]:=by rfl):PS X (.Assign [tg] e pos) (yo te g):=by
 intro Zt s σ H D I h;refine wpAny_Assign_stores (thn (he Zt s σ H _ I h) fun v s1 ⟨x,H1,I1,r1,q1⟩=>?_) hs hw;rw[h1];exact thn (hg Zt s1 σ H1 x v _ I1 r1 q1) fun _ s2 q=>q
theorem jZ{i:Nat}{x:Str}{e:Expr}{te:TE}{pos':Pos}(hN:X.N.Nodup)(hi:X.N[i]?=some x)(hx:Loc X.env.scope x)(he:PE X e te)(hs:swapsWith e (some (.Name x pos')) pos.line X.env=pure false:=by rfl)(hf:X.fn x=true\/X.env.scope.names.lookup x=some .local:=by first|exact .inl rfl|exact .inr rfl|assumption):
  PS X (.Assign [.Name x pos'] e pos) (yo te (bH i)):=by
 intro Zt s σ H D I h;refine wpAny_Assign_Name (thn (he Zt s σ H _ I h) fun v s1 ⟨y,H1,I1,r1,q1⟩=>?_) hs;exact fc I1 hN hi hx r1 (fun s2 I2=>⟨_,H1,I2,q1⟩) hf
def K5(i j:Nat)(ta:TA):TS:=fun D σ H=>ta σ H fun vs H1=>∃v w,vs=[v,w]/\D.nx ((σ.set i (some v)).set j (some w)) H1
theorem Ac{i j:Nat}{x y:Str}{a b:Expr}{ta:TA}{px py pt:Pos}{kt k2 pt2}(hc:X.calm=true)(hN:X.N.Nodup)(hi:X.N[i]?=some x)(hj:X.N[j]?=some y)(ck:i≠j)
  (hx:X.env.scope.names.lookup x=some .local) (hy:X.env.scope.names.lookup y=some .local) (ha:PA X [a,b] ta)
  (hw:swappedStores [.Tuple [.Name x px,.Name y py] kt pt] (.Tuple [a,b] k2 pt2) X.env=pure (some [x,y]))
  (hs:swapsWithSole [.Tuple [.Name x px,.Name y py] kt pt] (.Tuple [a,b] k2 pt2) pos.line X.env=pure false:=by rfl):
  PS X (.Assign [.Tuple [.Name x px,.Name y py] kt pt] (.Tuple [a,b] k2 pt2) pos) (K5 i j ta):=by
 intro Zt s σ H D I h;rw[exec_Assign_arm];refine zAu (wpAny_standAt ?_);rw[hs];refine zAu (zAz ?_);rw[zAv Zx];refine zAu (Tuple_ (thn (ha _ Zt s σ H _ I h) fun us s1 ⟨vs,H1,I1,r1,q1⟩=>?_));obtain⟨v,w,e1,q1⟩:=q1;subst e1
 obtain⟨u1,u2,rfl,rv,f7⟩:∃u1 u2,us=[u1,u2]/\RelV v u1/\RelV w u2:=by
  cases r1 with
  |cons p q=>
   cases q with
   |cons p' q'=>
    cases q';exact⟨_,_,rfl,p,p'⟩
 refine wpAny_newObj_type ?_ (by show 2<=sizeLine;decide);have I2:Inv X Zt σ H1 {s1 with heap:=s1.heap.push {cls:=.type "tuple",data:=.seq [u1,u2].toArray}}:=I1.kept (t':=s1.toks) fun b o e=>zAw _ e;rw[hw];refine zAu (zAz ?_);show wpAny (model X.prog X.w) X.A (do rule "assign.swapped-stores";let items <-unpackItems (.ref s1.heap.objs.size) 2 none;assignInOrder [fun v=>bindName X.env y v,fun v=>bindName X.env x v] items.reverse;pure Flow.next) _ _ _;refine zAu (wpAny_rule (zAu (unpackItems_tuple (items:=#[u1,u2]) (I.ok.hd hc) (IsTup.new s1.heap _) fun h' kD=>?_)));have I3:=I2.kept (h':=h') (t':=s1.toks) fun b o e=>kD b o (zB9 (zB1 e)) e;show wpAny _ _ (assignInOrder [fun v=>bindName X.env y v,fun v=>bindName X.env x v] [u2,u1]>>=fun _=>pure Flow.next) _ _ _;refine zAu (assignInOrder_cons (wpAny_bindName (fc I3 hN hj (.inl hy) f7 (fun s2 I4=>?_) (.inr hy))));refine assignInOrder_cons (wpAny_bindName (fc I4 hN hi (.inl hx) rv (fun s3 I5=>assignInOrder_nil (zAz ?_)) (.inr hx)));rw[List.set_comm _ _ (Ne.symm ck)]at I5;exact⟨_,H1,I5,q1⟩
inductive TAugI(i:Nat)(te:TE)(ti:TIp)(D:Ends)(σ:St)(H:Hp):Prop
 |mk:∀x,(σ[i]?=some (some x))->(te σ H fun y H1=>ti x y H1 fun z H2=>D.nx (σ.set i (some z)) H2)->TAugI i te ti D σ H
def K6(i:Nat)(te:TE)(ti:TIp):TS:=fun D σ H=>TAugI i te ti D σ H
theorem jj{i:Nat}{x:Str}{e:Expr}{te:TE}{op:Operator}{ti:TIp}{pos':Pos}(hN:X.N.Nodup)(hi:X.N[i]?=some x)(hx:Loc X.env.scope x)(he:PE X e te)(ho:PIp X op ti)(hf:X.fn x=true\/X.env.scope.names.lookup x=some .local:=by first|exact .inl rfl|exact .inr rfl|assumption):
  PS X (.AugAssign (.Name x pos') op e pos) (K6 i te ti):=by
 intro Zt s σ H D I h;obtain⟨v,e1,h⟩:=h;obtain⟨m,hn,hl⟩:=I.loc;have PD:Vis X.env.scope x:=by rcases hx with k|k;exact .inl k;exact .inr (.inl k)
 obtain⟨u,r,l⟩:=hl i x v hi e1 PD;refine wpAny_AugAssign_Name ?_
 have go:wpAny (model X.prog X.w) X.A (eval e X.env) (fun w s₂=>wpAny (model X.prog X.w) X.A (inplaceOp op u w) (fun r s₃=>wpAny (model X.prog X.w) X.A (storeName X.env x r) (fun _=>SP X Zt D .next) X.xe s₃) X.xe s₂) X.xe s:=by
  refine thn (he Zt s σ H _ I h) fun w s1 ⟨y,H1,I1,r1,q1⟩=>?_;refine thn (ho Zt s1 σ H1 v y u w _ I1 r r1 q1) fun z s2 ⟨zv,H2,I2,r2,q2⟩=>?_;exact fc I2 hN hi hx r2 (fun s3 I3=>⟨_,H2,I3,q2⟩) hf
 rcases l with⟨hk,hm⟩|⟨hk,c,hc,hcell⟩
 .exact wpAny_loadName_local I.ok.kind hk hn hm go
 .rcases hk with hk|hk
  .exact wpAny_loadName_cell I.ok.kind hk hc hcell go
  .rcases hx with k|k
   .have:X.env.scope.names.lookup x=some .free:=hk;rw[k]at this;cases this
   .have:X.env.scope.names.lookup x=some .free:=hk;rw[k]at this;cases this
def Im(to ti te:TE)(nh:V->V->Hp->VK->Prop)(D7:TIp)(nr:ym):TS:=fun D σ H=>to σ H fun o H1=>ti σ H1 fun i H2=>nh o i H2 fun x H3=>te σ H3 fun y H4=>D7 x y H4 fun z H5=>nr o i z H5 fun H6=>D.nx σ H6
def Ip(X:Cx)(t:V->V->Hp->VK->Prop):Prop:=
 ∀(Zt:List (Addr×Obj)) (s:Shared) (σ:St) (H:Hp) (o i:V) (ov iv:Value) (Q:VK),Inv X Zt σ H s->RelV o ov->RelV i iv->t o i H Q->
  wpAny (model X.prog X.w) X.A (getItem ov iv) (EP X Zt σ Q) X.xe s
theorem mj{o i e:Expr}{to ti te:TE}{nh:V->V->Hp->VK->Prop}{D7:TIp}{nr:ym}{op:Operator}{sC:Pos}(ho:PE X o to)(hi:PE X i ti)(hg:Ip X nh)(he:PE X e te)(hp:PIp X op D7)(hs:DQ X nr)
  (ha:∀ov iv new,augStore i ov iv new=(do holding [new,ov,iv] (setItem ov iv new);release [new,ov,iv] [];pure .next):=by intros;rfl):PS X (.AugAssign (.Subscript o i sC) op e pos) (Im to ti te nh D7 nr):=by
 intro Zt s σ H D I h;refine wpAny_AugAssign_SubscriptAny (thn (ho Zt s σ H _ I h) fun ov s1 ⟨x1,H1,I1,r1,q1⟩=>?_) ha;refine thn (hi Zt s1 σ H1 _ I1 q1) fun iv s2 ⟨x2,H2,I2,r2,q2⟩=>?_;refine thn (hg Zt s2 σ H2 x1 x2 ov iv _ I2 r1 r2 q2) fun old s3 ⟨x3,H3,I3,r3,q3⟩=>?_;refine thn (he Zt s3 σ H3 _ I3 q3) fun v s4 ⟨x4,H4,I4,r4,q4⟩=>?_;refine thn (hp Zt s4 σ H4 x3 x4 old v _ I4 r3 r4 q4) fun new s5 ⟨x5,H5,I5,r5,q5⟩=>?_
 exact thn (hs Zt s5 σ H5 x1 x2 x5 ov iv new _ I5 r1 r2 r5 q5) fun _ s6 ⟨H6,I6,q6⟩=>⟨σ,H6,I6,q6⟩
def ipI(f:Int->Int->Int):TIp:=fun x y H Q=>∃i j,x=.int i/\y=.int j/\Q (.int (f i j)) H
theorem uQ:PIp X .Add (ipI fun i j=>i+j):=by
 intro Zt s σ H x y v u Q I r1 r2 h;obtain⟨i,j,e1,e2,q⟩:=h;subst e1;subst e2;obtain⟨t,rfl⟩:=r1;obtain⟨t',rfl⟩:=r2;exact iadd_int ⟨.int _,H,I.tok _,⟨_,rfl⟩,q⟩
theorem Ad:PIp X .Sub (ipI fun i j=>i-j):=by
 intro Zt s σ H x y v u Q I r1 r2 h;obtain⟨i,j,e1,e2,q⟩:=h;subst e1;subst e2;obtain⟨t,rfl⟩:=r1;obtain⟨t',rfl⟩:=r2;exact isub_int ⟨.int _,H,I.tok _,⟨_,rfl⟩,q⟩
end
section
variable{X:Cx}{pos:Pos}
end
structure It where
 go:Nat->Hp->Prop
 yld:Nat->Hp->V->Hp->Prop
 stop:Nat->Hp->Prop
def qT(X:Cx)(Zt:List (Addr×Obj))(H:Hp)(b:Addr):Prop:=
 H b=none/\b≠X.env.locals/\b∉X.fs/\(b∈X.ex\/X.s₀.heap.objs.size<=b)/\(∀x c,X.env.cells.lookup x=some c->c≠b)/\∀p∈X.pn++Zt,p.1≠b
theorem Inv.fpOk{X:Cx}{Zt:List (Addr×Obj)}{σ:St}{H H':Hp}{s:Shared}{b:Addr}(I:Inv X Zt σ H s)(hb:s.heap.objs.size<=b)(hn:H' b=none):qT X Zt H' b:=by
 refine⟨hn,Nat.ne_of_gt (zB6 I.lt hb),I.nofs hb,.inr (Nat.le_trans I.sz hb),fun x c e z=>?_,fun p hp z=>?_⟩
 .obtain⟨v,q⟩:=I.cell x c e;exact absurd (zB6 q.lt (by rw[z];exact hb)) (Nat.lt_irrefl _)
 .exact absurd (zB6 (zB1 (I.pin p hp).1) (by rw[z];exact hb)) (Nat.lt_irrefl _)
structure Turn(P:Program)(w:World)(K:Frag)(tg:Expr)(J:It)(fp:List Addr)(it:Addr)(tn:Nat->Heap->Prop):Prop where
 mem:it∈fp
 obj:∀i h,tn i h->∀b∈fp,∃o,h.get? b=some o/\∀v,o.data≠.cell v
 keep:∀i h h',tn i h->(∀b∈fp,∀o,h.get? b=some o->h'.get? b=some o)->tn i h'
 item:∀(X:Cx),X.prog=P->X.w=w->X.K=K->X.calm=true->∀(i:Nat) (Zt:List (Addr×Obj)) (s:Shared) (σ:St) (H:Hp) (E:Value->Shared->Prop),Inv X Zt σ H s->(∀b∈fp,qT X Zt H b)->tn i s.heap->J.go i H->
  wpAny (model P w) X.A (pyNext (.ref it)) (fun r s1=>∃u,r=some u /\
   wpAny (model P w) X.A (letOwnedTupleGo tg (.ref it) u) (fun _ s2=>∃x H',Inv X Zt σ H' s2/\RelV x u/\J.yld i H x H'/\tn (i+1) s2.heap/\∀b∈fp,H' b=none) E s1) E s
 done:∀(X:Cx),X.prog=P->X.w=w->X.K=K->X.calm=true->∀(i:Nat) (Zt:List (Addr×Obj)) (s:Shared) (σ:St) (H:Hp) (E:Value->Shared->Prop),Inv X Zt σ H s->(∀b∈fp,qT X Zt H b)->tn i s.heap->J.stop i H->
  wpAny (model P w) X.A (pyNext (.ref it)) (fun r s1=>r=none/\Inv X Zt σ H s1) E s
 self:∀(A:Around) (i:Nat) (s:Shared) (Q:Value->Shared->Prop) (E:Value->Shared->Prop),tn i s.heap->Q (.ref it) s->wpAny (model P w) A (pyIter (.ref it)) Q E s
abbrev TI:=St->Hp->(It->Hp->Prop)->Prop
def PIE(X:Cx)(Zt:List (Addr×Obj))(σ:St)(tg:Expr)(R:It->Hp->Prop)(D8:Value)(s2:Shared):Prop:=
 ∃(it:Addr) (fp:List Addr) (tn:Nat->Heap->Prop) (J:It) (H':Hp),D8=.ref it/\Inv X Zt σ H' s2/\Turn X.prog X.w X.K tg J fp it tn/\tn 0 s2.heap/\(∀b∈fp,qT X Zt H' b)/\R J H'
def PI(X:Cx)(tg iter:Expr)(wi:TI):Prop:=
 ∀(Zt:List (Addr×Obj)) (s:Shared) (σ:St) (H:Hp) (R:It->Hp->Prop),Inv X Zt σ H s->wi σ H R->
  wpAny (model X.prog X.w) X.A (eval iter X.env) (fun v s1=>wpAny (model X.prog X.w) X.A (pyIter v) (PIE X Zt σ tg R) X.xe s1) X.xe s
theorem vU{M:Model}{A:Around}{E:Value->Shared->Prop}{s:Shared}{tg:Expr}{it:Addr}{u:Value}{o:Obj}{n:String}{vs:Array Value}{Q:Unit->Shared->Prop}(ho:s.heap.get? it=some o)(hc:o.cls=.type n)(hd:o.data=.fields vs)
  (hn:["enumerate","zip","dict_itemiterator","dict_reverseitemiterator","odict_iterator","itertools.zip_longest","itertools.pairwise"].contains n=false) (hQ:Q () s):wpAny M A (letOwnedTupleGo tg (.ref it) u) Q E s:=by
 unfold letOwnedTupleGo
 cases tg<;>first
  |exact zAz hQ
  | (cases u<;>first
    |exact zAz hQ
    | (refine zAu (wpAny_load ho ?_)
       rw[hc,hd];show wpAny M A (if(["enumerate","zip","dict_itemiterator","dict_reverseitemiterator","odict_iterator","itertools.zip_longest","itertools.pairwise"].contains n&&vs[0]?==some (rawInt _))=true then _ else _) Q E s;rw[zAv (by intro h;rw[hn,Bool.false_and]at h;cases h)]
       exact zAz hQ))
def Itl(K:Frag)(a:Addr):It:=
 ⟨fun i H=>∃xs x,SqL K H a xs/\xs[i]?=some x,fun i H x H'=>H'=H/\∀xs,SqL K H a xs->xs[i]?=some x,fun i H=>∃xs,SqL K H a xs/\xs.length<=i⟩
def Itt(K:Frag)(a:Addr):It:=
 ⟨fun i H=>∃xs x,SqT K H a xs/\xs[i]?=some x,fun i H x H'=>H'=H/\∀xs,SqT K H a xs->xs[i]?=some x,fun i H=>∃xs,SqT K H a xs/\xs.length<=i⟩
def Itr(lo:Int)(n:Nat):It:=⟨fun i _=>i<n,fun i H x H'=>H'=H/\x=.int (lo+i),fun i _=>n<=i⟩
theorem yp{P:Program}{w:World}{K:Frag}{tg:Expr}(a it:Addr):Turn P w K tg (Itl K a) [it] it (fun i h=>h.IsListIter it a i) where
 mem:=by simp
 obj:=fun i h st b hb=>by
  have e:b=it:=by simpa using hb
  subst e;obtain⟨o,e,c,d⟩:=st;exact⟨o,e,fun v z=>by rw[d]at z;cases z⟩
 keep:=fun i h h' st k=>st.at fun o e=>k it Zy o e
 item:=by
  intro X hP hw hK hc i Zt s σ H E I hf st hg;subst hP hw hK;obtain⟨xs,x,hq,hx⟩:=hg;obtain⟨Zr,rv,p,hz⟩:=I.list hq;obtain⟨u,hu,ru⟩:=rv.get hx;obtain⟨f0,f1,f2,f3,f4,f5⟩:=hf it Zy;refine wpAny_pyNext_list_item st p.isList (x:=u) (by simpa using hu) fun h' Zq sb=>?_;have I1:Inv X Zt σ H {s with heap:=h'}:=I.turned (t':=s.toks) (fun b o hb e=>(sb.2 b hb).trans e) f0 f1 f3 f4 f5;obtain⟨o,e,c,d⟩:=id Zq;exact⟨u,rfl,vU (s:={s with heap:=h'}) e c d Zx ⟨x,H,I1,ru,⟨rfl,fun ys hy=>by rw[I.list_inj hy hq];exact hx⟩,Zq,fun b hb=>(hf b hb).1⟩⟩
 done:=by
  intro X hP hw hK hc i Zt s σ H E I hf st hg;subst hP hw hK;obtain⟨xs,hq,hx⟩:=hg;obtain⟨Zr,rv,p,hz⟩:=I.list hq;obtain⟨f0,f1,f2,f3,f4,f5⟩:=hf it Zy;have hl:=rv.length
  exact wpAny_pyNext_list_end (I.ok.hd hc) st p.isList (by simp;lia) fun h' eb=>⟨rfl,I.turned (t':=s.toks) (fun b o hb e=>eb b o hb e) f0 f1 f3 f4 f5⟩
 self:=fun _ _ _ _ _ st h=>wpAny_pyIter_listiter st h
theorem uR{P:Program}{w:World}{K:Frag}{tg:Expr}(a it:Addr):Turn P w K tg (Itt K a) [it] it (fun i h=>h.IsTupleIter it a i) where
 mem:=by simp
 obj:=fun i h st b hb=>by
  have e:b=it:=by simpa using hb
  subst e;obtain⟨o,e,c,d⟩:=st;exact⟨o,e,fun v z=>by rw[d]at z;cases z⟩
 keep:=fun i h h' st k=>st.at fun o e=>k it Zy o e
 item:=by
  intro X hP hw hK hc i Zt s σ H E I hf st hg;subst hP hw hK;obtain⟨xs,x,hq,hx⟩:=hg;obtain⟨Zr,rv,p,hz⟩:=I.tuple hq;obtain⟨u,hu,ru⟩:=rv.get hx;obtain⟨f0,f1,f2,f3,f4,f5⟩:=hf it Zy;refine wpAny_pyNext_tuple_item st (show s.heap.IsTuple a Zr.toArray from p) (x:=u) (by simpa using hu) fun h' Zq sb=>?_;have I1:Inv X Zt σ H {s with heap:=h'}:=I.turned (t':=s.toks) (fun b o hb e=>(sb.2 b hb).trans e) f0 f1 f3 f4 f5;obtain⟨o,e,c,d⟩:=id Zq;exact⟨u,rfl,vU (s:={s with heap:=h'}) e c d Zx ⟨x,H,I1,ru,⟨rfl,fun ys hy=>by rw[I.tuple_inj hy hq];exact hx⟩,Zq,fun b hb=>(hf b hb).1⟩⟩
 done:=by
  intro X hP hw hK hc i Zt s σ H E I hf st hg;subst hP hw hK;obtain⟨xs,hq,hx⟩:=hg;obtain⟨Zr,rv,p,hz⟩:=I.tuple hq;obtain⟨f0,f1,f2,f3,f4,f5⟩:=hf it Zy;have hl:=rv.length
  exact wpAny_pyNext_tuple_end (I.ok.hd hc) st (show s.heap.IsTuple a Zr.toArray from p) (by simp;lia) fun h' eb=>⟨rfl,I.turned (t':=s.toks) (fun b o hb e=>eb b o hb e) f0 f1 f3 f4 f5⟩
 self:=fun _ _ _ _ _ st h=>wpAny_pyIter_tupleiter st h
theorem uT{P:Program}{w:World}{K:Frag}{tg:Expr}(it:Addr)(lo:Int)(n:Nat):Turn P w K tg (Itr lo n) [it] it (fun i h=>IsRangeIter h it (lo+(i:Nat)*1) ((n:Int)-(i:Nat)) 1) where
 mem:=by simp
 obj:=fun i h st b hb=>by
  have e:b=it:=by simpa using hb
  subst e
  exact⟨_,st,fun v z=>by
   have z':Data.fields _=Data.cell v:=z
   cases z'⟩
 keep:=fun i h h' st k=>k it Zy _ st
 item:=by
  intro X hP hw hK hc i Zt s σ H E I hf st hg;subst hP hw hK;obtain⟨f0,f1,f2,f3,f4,f5⟩:=hf it Zy;have W:=Walks.range (prog:=X.prog) (w:=X.w) (I.ok.hd hc) it lo 1 n;refine W.item i s _ _ hg st fun v h' tk hv Zq kk=>?_;obtain⟨t,rfl⟩:=hv;have I1:Inv X Zt σ H {s with heap:=h',toks:=tk}:=I.turned (fun b o hb e=>kk b o (by simpa using hb) e) f0 f1 f3 f4 f5;refine⟨_,rfl,vU (s:={s with heap:=h',toks:=tk}) (n:="range_iterator") Zq rfl rfl Zx ⟨.int (lo+i),H,I1,⟨t,?_⟩,⟨rfl,rfl⟩,Zq,fun b hb=>(hf b hb).1⟩⟩;rw[Int.mul_one]
 done:=by
  intro X hP hw hK hc i Zt s σ H E I hf st hg;subst hP hw hK;obtain⟨f0,f1,f2,f3,f4,f5⟩:=hf it Zy
  exact wpAny_pyNext_range_end (I.ok.hd hc) st (by have:n<=i:=hg;lia) fun h' eb=>⟨rfl,I.turned (t':=s.toks) (fun b o hb e=>eb b o hb e) f0 f1 f3 f4 f5⟩
 self:=fun _ _ _ _ _ st h=>wpAny_pyIter_rangeiter st h
section
variable{X:Cx}{tg:Expr}
def FW(K:Frag)(tl:TE):TI:=fun σ H R=>tl σ H fun x H1=>∃a,x=.ref a/\(∃xs,SqL K H1 a xs)/\R (Itl K a) H1
def Ir(K:Frag)(tl:TE):TI:=fun σ H R=>tl σ H fun x H1=>∃a,x=.ref a/\(∃xs,SqT K H1 a xs)/\R (Itt K a) H1
theorem bL{l:Expr}{tl:TE}(hl:PE X l tl):PI X tg l (FW X.K tl):=by
 intro Zt s σ H R I h;refine thn (hl Zt s σ H _ I h) fun v s1 ⟨x,H1,I1,r1,q1⟩=>?_;obtain⟨a,e,⟨xs,hq⟩,q⟩:=q1;subst e;cases r1;obtain⟨Zr,rv,p,hz⟩:=I1.list hq;refine wpAny_pyIter_list p.isList ?_;refine⟨s1.heap.objs.size,[s1.heap.objs.size],_,_,H1,rfl,I1.kept (t':=s1.toks) fun b o e=>Heap.get?_push_of_some _ e,yp a _,⟨_,Heap.get?_push_size _ rfl,rfl,rfl⟩,fun b hb=>?_,q⟩;have e:b=s1.heap.objs.size:=by simpa using hb
 subst e;exact I1.fpOk (zA3 _) (I1.hok.fresh (zA3 _))
theorem ig{l:Expr}{tl:TE}(hl:PE X l tl):PI X tg l (Ir X.K tl):=by
 intro Zt s σ H R I h;refine thn (hl Zt s σ H _ I h) fun v s1 ⟨x,H1,I1,r1,q1⟩=>?_;obtain⟨a,e,⟨xs,hq⟩,q⟩:=q1;subst e;cases r1;obtain⟨Zr,rv,p,hz⟩:=I1.tuple hq;refine wpAny_pyIter_tuple (show s1.heap.IsTuple a Zr.toArray from p) ?_;refine⟨s1.heap.objs.size,[s1.heap.objs.size],_,_,H1,rfl,I1.kept (t':=s1.toks) fun b o e=>Heap.get?_push_of_some _ e,uR a _,⟨_,Heap.get?_push_size _ rfl,rfl,rfl⟩,fun b hb=>?_,q⟩;have e:b=s1.heap.objs.size:=by simpa using hb
 subst e;exact I1.fpOk (zA3 _) (I1.hok.fresh (zA3 _))
theorem tK{Zt:List (Addr×Obj)}{σ:St}{H:Hp}{s:Shared}{R:It->Hp->Prop}{E:Value->Shared->Prop}{lo hi:Int}{t u v:Tok}{tk:Nat}(I:Inv X Zt σ H s)(h1:-(2^62)<=lo)(h2:lo<2^62)(h3:-(2^62)<=hi)(h4:hi<2^62)
  (q:R (Itr lo (hi-lo).toNat) H):wpAny (model X.prog X.w) X.A (pyIter (.ref s.heap.objs.size)) (PIE X Zt σ tg R) E {s with heap:=s.heap.push {cls:=.type "range",data:=.fields #[.int lo t,.int hi u,.int 1 v]},toks:=tk}:=by
 refine wpAny_pyIter_range (IsRange.new ..) (small_one h1 h2 h3 h4) ?_;have I1:Inv X Zt σ H {s with heap:=s.heap.push {cls:=.type "range",data:=.fields #[.int lo t,.int hi u,.int 1 v]},toks:=tk}:=I.kept fun b o e=>zAw _ e
 refine⟨(s.heap.push {cls:=.type "range",data:=.fields #[.int lo t,.int hi u,.int 1 v]}).objs.size,[(s.heap.push {cls:=.type "range",data:=.fields #[.int lo t,.int hi u,.int 1 v]}).objs.size],_,_,H,rfl,
  I1.kept (t':=tk) fun b o e=>zAw _ e,uT _ lo (hi-lo).toNat,?_,fun b hb=>?_,q⟩
 .have e1:lo+((0:Nat):Int)*1=lo:=by simp
  have e2:(((hi-lo).toNat:Nat):Int)-((0:Nat):Int)=Builtin.Range.rangeSize lo hi 1:=by rw[rangeSize_one];split<;>lia
  show IsRangeIter _ _ (lo+((0:Nat):Int)*1) ((((hi-lo).toNat:Nat):Int)-((0:Nat):Int)) 1;rw[e1,e2];exact zB2 _ rfl
 .have e:b=(s.heap.push {cls:=.type "range",data:=.fields #[.int lo t,.int hi u,.int 1 v]}).objs.size:=by simpa using hb
  subst e;exact I1.fpOk (zA3 _) (I1.hok.fresh (zA3 _))
def Iu(ta:TA):TI:=fun σ H R=>ta σ H fun vs H1=>∃j:Int,vs=[.int j]/\-(2^62)<=j/\j<2^62/\R (Itr 0 j.toNat) H1
def Iv(ta:TA):TI:=fun σ H R=>ta σ H fun vs H1=>∃i j:Int,vs=[.int i,.int j]/\(-(2^62)<=i/\i<2^62/\-(2^62)<=j/\j<2^62)/\R (Itr i (j-i).toNat) H1
theorem bU{a:Expr}{ta:TA}{p pos:Pos}(hg:Gl X "range")(hm:X.mg "range"=none)(ha:PA X [a] ta)(hs:starEach [a] X.env=[(false,eval a X.env)]:=by rfl):PI X tg (.Call (.Name "range" p) [a] [] pos) (Iu ta):=by
 intro Zt s σ H R I h;refine Call_ (gZ I hg hm boot_range (PyProof.Rows.callWith_type1 (thn (ha pos Zt s σ H _ I h) fun us s1 ⟨vs,H1,I1,r1,q1⟩=>?_) hs rfl));obtain⟨j,e,q1,q2,q⟩:=q1;subst e
 cases r1 with
 |cons r rr=>
  cases rr;obtain⟨t,rfl⟩:=r;exact call_range_1 (tK I1 Zz Zz q1 q2 (by simpa using q))
theorem pM{a b:Expr}{ta:TA}{p pos:Pos}(hg:Gl X "range")(hm:X.mg "range"=none)(ha:PA X [a,b] ta)(hs:starEach [a,b] X.env=[(false,eval a X.env),(false,eval b X.env)]:=by rfl)(p9:starEach [b] X.env=[(false,eval b X.env)]:=by rfl):
  PI X tg (.Call (.Name "range" p) [a,b] [] pos) (Iv ta):=by
 intro Zt s σ H R I h;refine Call_ (gZ I hg hm boot_range (PyProof.Rows.callWith_type1 (thn (ha pos Zt s σ H _ I h) fun us s1 ⟨vs,H1,I1,r1,q1⟩=>?_) (by rw[hs,p9]) (by rw[p9];rfl)));obtain⟨i,j,e,⟨q1,q2,q3,q4⟩,q⟩:=q1;subst e
 cases r1 with
 |cons r rr=>
  cases rr with
  |cons r' rr=>
   cases rr;obtain⟨t,rfl⟩:=r;obtain⟨t',rfl⟩:=r';exact call_range_2 (tK I1 q1 q2 q3 q4 q)
def K7(wi:TI)(g:TG)(tb:TS):TS:=fun D σ H=>wi σ H fun J H1=>∃W:Nat->Nat->St->Hp->Prop,(∃m,W 0 m σ H1)/\∀i m σ H,W i m σ H->
 (J.stop i H/\D.nx σ H)\/(J.go i H/\∃N:St->Hp->Prop,(∀ah H',N ah H'->∃m',m'<m/\W (i+1) m' ah H')/\∀x H',J.yld i H x H'->g x σ H' fun aS H2=>tb {D with nx:=N,ct:=N,bk:=D.nx} aS H2)
def mU(fp:List Addr)(h:Heap):List (Addr×Obj):=fp.filterMap fun b=>(h.get? b).map fun o=>(b,o)
theorem ik{fp:List Addr}{h:Heap}{b:Addr}{o:Obj}(hb:b∈fp)(e:h.get? b=some o):(b,o)∈mU fp h:=List.mem_filterMap.mpr ⟨b,hb,by rw[e];rfl⟩
theorem yq{fp:List Addr}{h:Heap}{p:Addr×Obj}(hp:p∈mU fp h):p.1∈fp/\h.get? p.1=some p.2:=by
 obtain⟨b,hb,e⟩:=List.mem_filterMap.mp hp
 cases q:h.get? b with
 |none=>rw[q]at e;cases e
 |some o=>
  rw[q]at e;have e':(b,o)=p:=zAl e;subst e';exact⟨hb,q⟩
theorem Inv.pinned{Zt:List (Addr×Obj)}{σ:St}{H:Hp}{s:Shared}{fp:List Addr}(I:Inv X Zt σ H s)(hf:∀b∈fp,qT X Zt H b)(ho:∀b∈fp,∃o,s.heap.get? b=some o/\∀v,o.data≠.cell v):Inv X (Zt++mU fp s.heap) σ H s:=
 I.pins_of fun p hp=>(zA6.mp hp).elim (fun z=>I.pin p (zBg _ z)) fun z=>by
  obtain⟨hb,e⟩:=yq z;obtain⟨f0,f1,f2,_⟩:=hf p.1 hb;obtain⟨o,e',d⟩:=ho p.1 hb;rw[e]at e';cases e';exact⟨e,f0,f1,f2,d⟩
theorem Inv.unpinned{Zt pl:List (Addr×Obj)}{σ:St}{H:Hp}{s:Shared}(I:Inv X (Zt++pl) σ H s):Inv X Zt σ H s:=I.pins_of fun p hp=>I.pin p (zBg _ (List.mem_append_left _ hp))
theorem bN{iter:Expr}{body:List Stmt}{wi:TI}{g:TG}{tb:TS}{pos:Pos}(hp:PassesOwn (model X.prog X.w) X.A X.env X.xe)(hc:X.calm=true)(hi:PI X tg iter wi)(hg:PG X tg g)(hb:PSs X body tb)
  (hs:∀x,foldedSetIterable iter X.env x=pure x:=by intro _;rfl):PS X (.For tg iter body [] pos) (K7 wi g tb):=by
 intro Zt s σ H D I h;refine wpAny_For (thn (hi Zt s σ H _ I h) fun v s1 h1=>thn h1 fun D8 s2 h2=>?_) hs;obtain⟨it,fp,tn,J,H2,e,I2,T,st2,f2,W,⟨m0,w0⟩,turn⟩:=h2;subst e
 have sM:∀{H':Hp},(∀b∈fp,H' b=none)->∀b∈fp,qT X Zt H' b:=fun hn b hb=>⟨hn b hb,(f2 b hb).2⟩
 refine codeAny_forLoop_any (fun n s'=>∃i ah H',Inv X Zt ah H' s'/\tn i s'.heap/\(∀b∈fp,H' b=none)/\W i n ah H') ?_ m0 ⟨0,σ,H2,I2,st2,fun b hb=>(f2 b hb).1,w0⟩;rintro n s3 ⟨i,kG,H3,I3,iq,AO,w3⟩;rcases turn i n kG H3 w3 with⟨stop,qn⟩|⟨go,N,hN,step⟩
 .refine wpAny_passesOwn hp (thn (T.done X rfl rfl rfl hc i Zt s3 kG H3 X.xe I3 (sM AO) iq stop) fun r s4 ⟨hr,I4⟩=>?_);subst hr;exact wpAny_execs_nil ⟨kG,H3,I4,qn⟩
 .refine wpAny_passesOwn hp (thn (T.item X rfl rfl rfl hc i Zt s3 kG H3 X.xe I3 (sM AO) iq go) fun r s4 ⟨u,hr,h4⟩=>?_);subst hr;refine wpAny_passesOwn hp (thn h4 fun _ s5 ⟨x,H5,I5,r5,y5,sN,FY⟩=>?_);have F1:=I5.pinned (sM FY) (T.obj _ _ sN);refine wpAny_passesOwn hp (thn (hg _ s5 kG H5 x u _ F1 r5 (step x H5 y5)) fun _ s6 ⟨nv,H6,I6,q6⟩=>?_);refine wpAny_passesOwn hp (thn (hb _ s6 nv H6 _ I6 q6) fun f s7 q7=>?_)
  have again:∀{kH:St} {H7:Hp},Inv X (Zt++mU fp s5.heap) kH H7 s7->N kH H7->∃m,m<n/\∃i ah H',Inv X Zt ah H' s7/\tn i s7.heap/\(∀b∈fp,H' b=none)/\W i m ah H':=fun{kH H7} I7 n7=>by
   obtain⟨m',hm,w7⟩:=hN kH H7 n7;refine⟨m',hm,i+1,kH,H7,I7.unpinned,T.keep _ _ _ sN fun b hb o e=>(I7.pin (b,o) (zBg _ (zBg _ (ik hb e)))).1,fun b hb=>?_,w7⟩;obtain⟨o,e,d⟩:=T.obj _ _ sN b hb;exact(I7.pin (b,o) (zBg _ (zBg _ (ik hb e)))).2.1
  cases f with
  |next=>obtain⟨kH,H7,I7,n7⟩:=q7;exact again I7 n7
  |cont=>obtain⟨kH,H7,I7,n7⟩:=q7;exact again I7 n7
  |brk=>obtain⟨kH,H7,I7,q7⟩:=q7;exact⟨kH,H7,I7.unpinned,q7⟩
  |ret v=>obtain⟨x7,kH,H7,I7,r7,q7⟩:=q7;exact⟨x7,kH,H7,I7.unpinned,r7,q7⟩
end
theorem fj{K:Frag}{a:Addr}{xs:List V}{g:TG}{tb:TS}{D:Ends}{σ:St}{H:Hp}(Pv:Nat->St->Hp->Prop)(h0:Pv 0 σ H)(hl:∀i σ H,i<=xs.length->Pv i σ H->SqL K H a xs)
  (hs:∀i x σ H,xs[i]?=some x->Pv i σ H->g x σ H fun aS H2=>tb {D with nx:=Pv (i+1),ct:=Pv (i+1),bk:=D.nx} aS H2) (hd:∀σ H,Pv xs.length σ H->D.nx σ H):
  ∃W:Nat->Nat->St->Hp->Prop,(∃m,W 0 m σ H)/\∀i m σ H,W i m σ H->
   ((Itl K a).stop i H/\D.nx σ H)\/((Itl K a).go i H/\∃N:St->Hp->Prop,(∀ah H',N ah H'->∃m',m'<m/\W (i+1) m' ah H')/\∀x H',(Itl K a).yld i H x H'->g x σ H' fun aS H2=>tb {D with nx:=N,ct:=N,bk:=D.nx} aS H2):=by
 refine⟨fun i m σ H=>m=xs.length-i/\i<=xs.length/\Pv i σ H,⟨xs.length,by simp,Nat.zero_le _,h0⟩,?_⟩;rintro i m σ H ⟨rfl,hi,p⟩;have q:=hl i σ H hi p;by_cases ax:i<xs.length
 .refine .inr ⟨⟨xs,xs[i],q,by simp[ax]⟩,Pv (i+1),fun ah H' p'=>⟨xs.length-(i+1),Zz,rfl,ax,p'⟩,fun x H' y=>?_⟩;obtain⟨e,y⟩:=y;subst e;exact hs i x σ _ (y xs q) p
 .have e:i=xs.length:=Zz
  subst e;exact .inl ⟨⟨xs,q,zA3 _⟩,hd σ H p⟩
theorem DR{K:Frag}{a:Addr}{xs:List V}{g:TG}{tb:TS}{D:Ends}{σ:St}{H:Hp}(Pv:Nat->St->Hp->Prop)(h0:Pv 0 σ H)(hl:∀i σ H,i<=xs.length->Pv i σ H->SqT K H a xs)
  (hs:∀i x σ H,xs[i]?=some x->Pv i σ H->g x σ H fun aS H2=>tb {D with nx:=Pv (i+1),ct:=Pv (i+1),bk:=D.nx} aS H2) (hd:∀σ H,Pv xs.length σ H->D.nx σ H):
  ∃W:Nat->Nat->St->Hp->Prop,(∃m,W 0 m σ H)/\∀i m σ H,W i m σ H->
   ((Itt K a).stop i H/\D.nx σ H)\/((Itt K a).go i H/\∃N:St->Hp->Prop,(∀ah H',N ah H'->∃m',m'<m/\W (i+1) m' ah H')/\∀x H',(Itt K a).yld i H x H'->g x σ H' fun aS H2=>tb {D with nx:=N,ct:=N,bk:=D.nx} aS H2):=by
 refine⟨fun i m σ H=>m=xs.length-i/\i<=xs.length/\Pv i σ H,⟨xs.length,by simp,Nat.zero_le _,h0⟩,?_⟩;rintro i m σ H ⟨rfl,hi,p⟩;have q:=hl i σ H hi p;by_cases ax:i<xs.length
 .refine .inr ⟨⟨xs,xs[i],q,by simp[ax]⟩,Pv (i+1),fun ah H' p'=>⟨xs.length-(i+1),Zz,rfl,ax,p'⟩,fun x H' y=>?_⟩;obtain⟨e,y⟩:=y;subst e;exact hs i x σ _ (y xs q) p
 .have e:i=xs.length:=Zz
  subst e;exact .inl ⟨⟨xs,q,zA3 _⟩,hd σ H p⟩
theorem cP{lo:Int}{n:Nat}{g:TG}{tb:TS}{D:Ends}{σ:St}{H:Hp}(Pv:Nat->St->Hp->Prop)(h0:Pv 0 σ H)
  (hs:∀i σ H,i<n->Pv i σ H->g (.int (lo+i)) σ H fun aS H2=>tb {D with nx:=Pv (i+1),ct:=Pv (i+1),bk:=D.nx} aS H2) (hd:∀σ H,Pv n σ H->D.nx σ H):
  ∃W:Nat->Nat->St->Hp->Prop,(∃m,W 0 m σ H)/\∀i m σ H,W i m σ H->
   ((Itr lo n).stop i H/\D.nx σ H)\/((Itr lo n).go i H/\∃N:St->Hp->Prop,(∀ah H',N ah H'->∃m',m'<m/\W (i+1) m' ah H')/\∀x H',(Itr lo n).yld i H x H'->g x σ H' fun aS H2=>tb {D with nx:=N,ct:=N,bk:=D.nx} aS H2):=by
 refine⟨fun i m σ H=>m=n-i/\i<=n/\Pv i σ H,⟨n,by simp,Nat.zero_le _,h0⟩,?_⟩;rintro i m σ H ⟨rfl,hi,p⟩;by_cases ax:i<n
 .refine .inr ⟨ax,Pv (i+1),fun ah H' p'=>⟨n-(i+1),Zz,rfl,ax,p'⟩,fun x H' y=>?_⟩;obtain⟨e,y⟩:=y;subst e y;exact hs i σ _ ax p
 .have e:i=n:=Zz
  subst e;exact .inl ⟨zA3 _,hd σ H p⟩
abbrev R2:=V->V->Hp->VK->Prop
def OpR(X:Cx)(f:Value->Value->Sem Value)(r:R2):Prop:=
 ∀(Zt:List (Addr×Obj)) (s:Shared) (σ:St) (H:Hp) (x y:V) (v u:Value) (Q:VK),Inv X Zt σ H s->RelV x v->RelV y u->r x y H Q->
  wpAny (model X.prog X.w) X.A (f v u) (EP X Zt σ Q) X.xe s
def UnR(X:Cx)(f:Value->Sem Value)(r:V->Hp->VK->Prop):Prop:=
 ∀(Zt:List (Addr×Obj)) (s:Shared) (σ:St) (H:Hp) (x:V) (v:Value) (Q:VK),Inv X Zt σ H s->RelV x v->r x H Q->
  wpAny (model X.prog X.w) X.A (f v) (EP X Zt σ Q) X.xe s
def dU(X:Cx)(f:Value)(r:List V->Hp->VK->Prop):Prop:=
 ∀(Zt:List (Addr×Obj)) (s:Shared) (σ:St) (H:Hp) (xs:List V) (us:List Value) (Q:VK),Inv X Zt σ H s->Vals xs us->r xs H Q->
  wpAny (model X.prog X.w) X.A (call f us) (EP X Zt σ Q) X.xe s
def tOp(r:R2)(ta tb:TE):TE:=fun σ H Q=>ta σ H fun x H1=>tb σ H1 fun y H2=>r x y H2 Q
def tUn(r:V->Hp->VK->Prop)(ta:TE):TE:=fun σ H Q=>ta σ H fun x H1=>r x H1 Q
inductive RII(C:Int->Int->Prop)(g:Int->Int->V)(x:V)(y:V)(H:Hp)(Q:VK):Prop
 |mk:∀i j,(x=.int i)->(y=.int j)->(C i j)->(Q (g i j) H)->RII C g x y H Q
def rI(C:Int->Int->Prop)(g:Int->Int->V):R2:=fun x y H Q=>RII C g x y H Q
inductive RI0I(g:Int->Int->V)(x:V)(y:V)(H:Hp)(Q:VK):Prop
 |mk:∀i j,(x=.int i)->(y=.int j)->(Q (g i j) H)->RI0I g x y H Q
def rI0(g:Int->Int->V):R2:=fun x y H Q=>RI0I g x y H Q
inductive RUI(g:Int->V)(x:V)(H:Hp)(Q:VK):Prop
 |mk:∀i,(x=.int i)->(Q (g i) H)->RUI g x H Q
def rU(g:Int->V):V->Hp->VK->Prop:=fun x H Q=>RUI g x H Q
section
variable{X:Cx}{a b c:Expr}{ta tb tc:TE}{pos:Pos}
theorem Gy(ha:PE X a ta)(hb:PE X b tb){Zt:List (Addr×Obj)}{s:Shared}{σ:St}{H:Hp}{R:V->V->Hp->Prop}(I:Inv X Zt σ H s)
  (h:ta σ H fun x H1=>tb σ H1 fun y H2=>R x y H2) {Q:Value->Shared->Prop} {f:Value->Value->Sem Value}
  (hf:∀v u s2 x y H2,Inv X Zt σ H2 s2->RelV x v->RelV y u->R x y H2->wpAny (model X.prog X.w) X.A (f v u) Q X.xe s2):
  wpAny (model X.prog X.w) X.A (eval a X.env) (fun v s₁=>wpAny (model X.prog X.w) X.A (eval b X.env) (fun u s₂=>wpAny (model X.prog X.w) X.A (f v u) Q X.xe s₂) X.xe s₁) X.xe s:=by
 refine thn (ha Zt s σ H _ I h) fun v s1 ⟨x,H1,I1,r1,q1⟩=>?_;refine thn (hb Zt s1 σ H1 _ I1 q1) fun u s2 ⟨y,H2,I2,r2,q2⟩=>?_;exact hf v u s2 x y H2 I2 r1 r2 q2
theorem aU{op:Operator}{r:R2}(ho:OpR X (binaryOp op) r)(ha:PE X a ta)(hb:PE X b tb):PE X (.BinOp a op b pos) (tOp r ta tb):=by
 intro Zt s σ H Q I h;exact wpAny_BinOp (Gy ha hb I h fun v u s2 x y H2 I2 rx ry q=>ho Zt s2 σ H2 x y v u Q I2 rx ry q)
theorem FZ{op:UnaryOp}{r:V->Hp->VK->Prop}(ho:UnR X (unaryOp op) r)(ha:PE X a ta):PE X (.UnaryOp op a pos) (tUn r ta):=by
 intro Zt s σ H Q I h;exact UnaryOp_ (thn (ha Zt s σ H _ I h) fun v s1 ⟨x,H1,I1,r1,q1⟩=>ho Zt s1 σ H1 x v Q I1 r1 q1)
theorem opI{f:Value->Value->Sem Value}{C:Int->Int->Prop}{g:Int->Int->Int}
  (rule:∀(i j:Int) (t u:Tok) (s:Shared) (Q:Value->Shared->Prop) (E:Value->Shared->Prop),C i j->Q (.int (g i j) s.toks) {s with toks:=s.toks+1}->wpAny (model X.prog X.w) X.A (f (.int i t) (.int j u)) Q E s):
  OpR X f (rI C fun i j=>.int (g i j)):=by
 intro Zt s σ H x y v u Q I rx ry h;obtain⟨i,j,rfl,rfl,hc,q⟩:=h;obtain⟨t,rfl⟩:=rx;obtain⟨t',rfl⟩:=ry;exact rule i j t t' s _ _ hc ⟨.int (g i j),H,I.tok _,⟨_,rfl⟩,q⟩
theorem Iw{f:Value->Value->Sem Value}{g:Int->Int->Int}
  (rule:∀(i j:Int) (t u:Tok) (s:Shared) (Q:Value->Shared->Prop) (E:Value->Shared->Prop),Q (.int (g i j) s.toks) {s with toks:=s.toks+1}->wpAny (model X.prog X.w) X.A (f (.int i t) (.int j u)) Q E s):
  OpR X f (rI0 fun i j=>.int (g i j)):=by
 intro Zt s σ H x y v u Q I rx ry h;obtain⟨i,j,rfl,rfl,q⟩:=h;obtain⟨t,rfl⟩:=rx;obtain⟨t',rfl⟩:=ry;exact rule i j t t' s _ _ ⟨.int (g i j),H,I.tok _,⟨_,rfl⟩,q⟩
theorem DW{f:Value->Value->Sem Value}{g:Int->Int->Bool}
  (rule:∀(i j:Int) (t u:Tok) (s:Shared) (Q:Value->Shared->Prop) (E:Value->Shared->Prop),Q (.bool (g i j)) s->wpAny (model X.prog X.w) X.A (f (.int i t) (.int j u)) Q E s):
  OpR X f (rI0 fun i j=>.bl (g i j)):=by
 intro Zt s σ H x y v u Q I rx ry h;obtain⟨i,j,rfl,rfl,q⟩:=h;obtain⟨t,rfl⟩:=rx;obtain⟨t',rfl⟩:=ry;exact rule i j t t' s _ _ ⟨.bl (g i j),H,I,rfl,q⟩
def K8(i j:Int):Prop:=0<j/\j<1073741824
def K9(i j:Int):Prop:=0<=j/\j<=1000000/\i.natAbs<2^64
def CMul(i j:Int):Prop:=(-(2^64)<i/\i<2^64)\/(-(2^64)<j/\j<2^64)
theorem CMul.ok{i j:Int}(h:CMul i j):IntMulOk i j:=by
 rcases h with⟨h1,h2⟩|⟨h1,h2⟩
 .exact .of_left (intBits_le_64 h1 h2)
 .exact .of_right (intBits_le_64 h1 h2)
theorem bO:OpR X (binaryOp .Add) (rI0 fun i j=>.int (i+j)):=Iw fun _ _ _ _ _ _ _ q=>add_int q
theorem dW:OpR X (binaryOp .Sub) (rI0 fun i j=>.int (i-j)):=Iw fun _ _ _ _ _ _ _ q=>sub_int q
theorem gB:OpR X (binaryOp .Mult) (rI CMul fun i j=>.int (i*j)):=opI fun _ _ _ _ _ _ _ hc q=>mul_int q hc.ok
theorem mq:OpR X (binaryOp .FloorDiv) (rI K8 fun i j=>.int (i / j)):=opI fun i j _ _ _ _ _ hc q=>by
 have h1:(0:Int)<j:=hc.1;have h2:j<1073741824:=hc.2;exact floordiv_int Zz (by rw[Int.fdiv_eq_ediv_of_nonneg i Zz];exact q) (.inl (PyProof.noPylong_small Zz))
theorem iH:OpR X (binaryOp .Mod) (rI (fun _ j=>0<j) fun i j=>.int (i % j)):=opI fun i j _ _ _ _ _ hc q=>by
 have h1:(0:Int)<j:=hc;exact mod_int' Zz (by rw[Int.fmod_eq_emod_of_nonneg i Zz];exact q)
theorem Gz:OpR X (binaryOp .Pow) (rI K9 fun i j=>.int (i^j.toNat)):=opI fun _ _ _ _ _ _ _ hc q=>pow_int_small hc.1 hc.2.1 hc.2.2 q
theorem unI{f:Value->Sem Value}{g:Int->Int}
  (rule:∀(i:Int) (t:Tok) (s:Shared) (Q:Value->Shared->Prop) (E:Value->Shared->Prop),Q (.int (g i) s.toks) {s with toks:=s.toks+1}->wpAny (model X.prog X.w) X.A (f (.int i t)) Q E s):
  UnR X f (rU fun i=>.int (g i)):=by
 intro Zt s σ H x v Q I rx h;obtain⟨i,rfl,q⟩:=h;obtain⟨t,rfl⟩:=rx;exact rule i t s _ _ ⟨.int (g i),H,I.tok _,⟨_,rfl⟩,q⟩
theorem Ae:UnR X (unaryOp .USub) (rU fun i=>.int (-i)):=unI fun _ _ _ _ _ q=>neg_int q
end
def Iz:V->V->Bool
 |.non,.non=>true|.non,.int _=>true|.int _,.non=>true|.non,.bl _=>true|.bl _,.non=>true|.non,.str _=>true|.str _,.non=>true
 |.int _,.int _=>true|.bl _,.bl _=>true|.str _,.str _=>true|.byt _,.byt _=>true
 |.int _,.str _=>true|.str _,.int _=>true|.bl _,.str _=>true|.str _,.bl _=>true
 |_,_=>false
def rEq:R2:=fun x y H Q=>Iz x y=true/\Q (.bl (decide (x=y))) H
def rNe:R2:=fun x y H Q=>Iz x y=true/\Q (.bl (!decide (x=y))) H
theorem vV{i j:Int}:decide (V.int i=V.int j)=(i==j):=by
 rw[Bool.eq_iff_iff];simp
theorem Af{i j:Bool}:decide (V.bl i=V.bl j)=(i==j):=by
 rw[Bool.eq_iff_iff];simp
theorem vW{i j:Str}:decide (V.str i=V.str j)=(i==j):=by
 rw[Bool.eq_iff_iff];simp
theorem vX{i j:Array UInt8}:decide (V.byt i=V.byt j)=(i.toList==j.toList):=by
 rw[Bool.eq_iff_iff];cases i;cases j;simp
section
variable{X:Cx}{a b c:Expr}{ta tb tc:TE}{pos:Pos}
theorem bG{Zt:List (Addr×Obj)}{σ:St}{H:Hp}{s:Shared}{Q:VK}{k k':Bool}(I:Inv X Zt σ H s)(q:Q (.bl k) H)(e:k=k'):EP X Zt σ Q (.bool k') s:=by
 subst e;exact⟨.bl k,H,I,rfl,q⟩
theorem iI:OpR X (compareOp .Eq) rEq:=by
 intro Zt s σ H x y v u Q I rx ry h;obtain⟨hs,q⟩:=h
 cases x with
 |non=>
  cases rx
  cases y with
  |non=>cases ry;exact PySem.EqNone.eq_none_none (bG I q Zy)
  |bl j=>cases ry;exact PySem.EqNone.eq_none_bool (bG I q Zy)
  |int j=>obtain⟨t',rfl⟩:=ry;exact PySem.EqNone.eq_none_int (bG I q Zy)
  |str j=>obtain⟨t',rfl⟩:=ry;exact PySem.EqNone.eq_none_str (bG I q Zy)
  |_=>exact absurd (show false=true from hs) zAg
 |bl i=>
  cases rx
  cases y with
  |non=>cases ry;exact PySem.EqNone.eq_bool_none (bG I q Zy)
  |bl j=>cases ry;exact eq_bool (bG I q Af)
  |str j=>obtain⟨t',rfl⟩:=ry;exact PySem.EqMixed.eq_bool_str (bG I q Zy)
  |_=>exact absurd (show false=true from hs) zAg
 |int i=>
  obtain⟨t,rfl⟩:=rx
  cases y with
  |non=>cases ry;exact PySem.EqNone.eq_int_none (bG I q Zy)
  |int j=>obtain⟨t',rfl⟩:=ry;exact eq_int (bG I q vV)
  |str j=>obtain⟨t',rfl⟩:=ry;exact PySem.EqMixed.eq_int_str (bG I q Zy)
  |_=>exact absurd (show false=true from hs) zAg
 |str i=>
  obtain⟨t,rfl⟩:=rx
  cases y with
  |non=>cases ry;exact PySem.EqNone.eq_str_none (bG I q Zy)
  |bl j=>cases ry;exact PySem.EqMixed.eq_str_bool (bG I q Zy)
  |int j=>obtain⟨t',rfl⟩:=ry;exact PySem.EqMixed.eq_str_int (bG I q Zy)
  |str j=>obtain⟨t',rfl⟩:=ry;exact eq_str (bG I q vW)
  |_=>exact absurd (show false=true from hs) zAg
 |byt i=>
  obtain⟨t,rfl⟩:=rx
  cases y with
  |byt j=>obtain⟨t',rfl⟩:=ry;exact PySem.W.eq_bytes (bG I q vX)
  |_=>exact absurd (show false=true from hs) zAg
 |_=>cases y<;>exact absurd (show false=true from hs) zAg
theorem G3:OpR X (compareOp .NotEq) rNe:=by
 intro Zt s σ H x y v u Q I rx ry h;obtain⟨hs,q⟩:=h
 cases x with
 |non=>
  cases rx
  cases y with
  |non=>cases ry;exact PySem.EqNone.ne_none_none (bG I q Zy)
  |bl j=>cases ry;exact PySem.EqNone.ne_none_bool (bG I q Zy)
  |int j=>obtain⟨t',rfl⟩:=ry;exact PySem.EqNone.ne_none_int (bG I q Zy)
  |str j=>obtain⟨t',rfl⟩:=ry;exact PySem.EqNone.ne_none_str (bG I q Zy)
  |_=>exact absurd (show false=true from hs) zAg
 |bl i=>
  cases rx
  cases y with
  |non=>cases ry;exact PySem.EqNone.ne_bool_none (bG I q Zy)
  |bl j=>cases ry;exact ne_bool (bG I q (congrArg not Af))
  |str j=>obtain⟨t',rfl⟩:=ry;exact PySem.EqMixed.ne_bool_str (bG I q Zy)
  |_=>exact absurd (show false=true from hs) zAg
 |int i=>
  obtain⟨t,rfl⟩:=rx
  cases y with
  |non=>cases ry;exact PySem.EqNone.ne_int_none (bG I q Zy)
  |int j=>obtain⟨t',rfl⟩:=ry;exact ne_int (bG I q (congrArg not vV))
  |str j=>obtain⟨t',rfl⟩:=ry;exact PySem.EqMixed.ne_int_str (bG I q Zy)
  |_=>exact absurd (show false=true from hs) zAg
 |str i=>
  obtain⟨t,rfl⟩:=rx
  cases y with
  |non=>cases ry;exact PySem.EqNone.ne_str_none (bG I q Zy)
  |bl j=>cases ry;exact PySem.EqMixed.ne_str_bool (bG I q Zy)
  |int j=>obtain⟨t',rfl⟩:=ry;exact PySem.EqMixed.ne_str_int (bG I q Zy)
  |str j=>obtain⟨t',rfl⟩:=ry;exact ne_str (bG I q (congrArg not vW))
  |_=>exact absurd (show false=true from hs) zAg
 |byt i=>
  obtain⟨t,rfl⟩:=rx
  cases y with
  |byt j=>obtain⟨t',rfl⟩:=ry;exact PySem.W.ne_bytes (bG I q (congrArg not vX))
  |_=>exact absurd (show false=true from hs) zAg
 |_=>cases y<;>exact absurd (show false=true from hs) zAg
theorem jf:OpR X (compareOp .Lt) (rI0 fun i j=>.bl (decide (i<j))):=DW fun _ _ _ _ _ _ _ q=>lt_int q
theorem cD:OpR X (compareOp .LtE) (rI0 fun i j=>.bl (decide (i<=j))):=DW fun _ _ _ _ _ _ _ q=>le_int q
theorem jx:OpR X (compareOp .Gt) (rI0 fun i j=>.bl (decide (j<i))):=DW fun _ _ _ _ _ _ _ q=>gt_int q
theorem Ag:OpR X (compareOp .GtE) (rI0 fun i j=>.bl (decide (j<=i))):=DW fun _ _ _ _ _ _ _ q=>ge_int q
theorem Ah:OpR X (compareOp .Is) (fun x y H Q=>y=.non/\Q (.bl (decide (x=.non))) H):=by
 intro Zt s σ H x y v u Q I rx ry h;obtain⟨rfl,q⟩:=h;cases ry;refine is_none_gen (bG I q ?_)
 cases x<;>first
  | (cases rx;rfl)
  | (obtain⟨t,rfl⟩:=rx;rfl)
theorem bu(b:Expr){op:CmpOp}(h:op≠.In:=by decide)(h2:op≠.NotIn:=by decide):behindInMarks op b=false:=by
 have e1:(op==CmpOp.In)=false:=by cases op<;>first|rfl|exact absurd rfl h
 have e2:(op==CmpOp.NotIn)=false:=by cases op<;>first|rfl|exact absurd rfl h2
 cases b<;>simp[behindInMarks,e1,e2]
theorem jy{op:CmpOp}{r:R2}(ho:OpR X (compareOp op) r)(ha:PE X a ta)(hb:PE X b tb)(hm:behindInMarks op b=false):PE X (.Compare a [op] [b] pos) (tOp r ta tb):=by
 intro Zt s σ H Q I h;exact wpAny_Compare1 (Gy ha hb I h fun v u s2 x y H2 I2 rx ry q=>ho Zt s2 σ H2 x y v u Q I2 rx ry q) hm
def G4(t:TE):TT:=fun σ H Q=>t σ H fun x H'=>∃k,x=.bl k/\Q k H'
theorem bf{op:CmpOp}{r:R2}(ho:OpR X (compareOp op) r)(ha:PE X a ta)(hb:PE X b tb)(hm:behindInMarks op b=false):PT X (.Compare a [op] [b] pos) (G4 (tOp r ta tb)):=by
 intro Zt s σ H Q I h
 refine wpAny_isTrue_Compare1 (thn (ha Zt s σ H _ I h) fun v s1 ⟨x,H1,I1,r1,q1⟩=>thn (hb Zt s1 σ H1 _ I1 q1) fun u s2 ⟨y,H2,I2,r2,q2⟩=>
  thn (ho Zt s2 σ H2 x y v u _ I2 r1 r2 q2) fun c s3 ⟨z,H3,I3,r3,k,e,q3⟩=>?_) hm
 subst e;cases r3;exact wpAny_truthy_bool ⟨H3,I3,q3⟩
def uU(r r':R2)(ta tb tc:TE):TE:=fun σ H Q=>ta σ H fun x H1=>tb σ H1 fun y H2=>r x y H2 fun z H3=>∃k,z=.bl k /\
 (if k=true then tc σ H3 fun w' H4=>r' y w' H4 Q else Q (.bl false) H3)
theorem dw{op sQ:CmpOp}{r r':R2}(ho:OpR X (compareOp op) r)(kB:OpR X (compareOp sQ) r')(ha:PE X a ta)(hb:PE X b tb)(hc:PE X c tc)
  (hm:lastMarks [op,sQ] [b,c]=false:=by with_unfolding_all rfl):PE X (.Compare a [op,sQ] [b,c] pos) (uU r r' ta tb tc):=by
 intro Zt s σ H Q I h
 refine Compare_chain (thn (ha Zt s σ H _ I h) fun v s1 ⟨x,H1,I1,r1,q1⟩=>chain_link (thn (hb Zt s1 σ H1 _ I1 q1) fun u s2 ⟨y,H2,I2,r2,q2⟩=>
  thn (ho Zt s2 σ H2 x y v u _ I2 r1 r2 q2) fun d s3 ⟨z,H3,I3,r3,k,e,q3⟩=>?_)) hm
 subst e;cases r3;refine wpAny_truthy_bool ?_
 cases k with
 |false=>exact ite_ff ⟨.bl false,H3,I3,rfl,q3⟩
 |true=>exact ite_tt (chain_last (thn (hc Zt s3 σ H3 _ I3 q3) fun w' s4 ⟨z',H4,I4,r4,q4⟩=>kB Zt s4 σ H4 y z' u w' Q I4 r2 r4 q4))
theorem mV{op sQ:CmpOp}{r r':R2}(ho:OpR X (compareOp op) r)(kB:OpR X (compareOp sQ) r')(ha:PE X a ta)(hb:PE X b tb)(hc:PE X c tc)
  (hm:lastMarks [op,sQ] [b,c]=false:=by with_unfolding_all rfl):PT X (.Compare a [op,sQ] [b,c] pos) (G4 (uU r r' ta tb tc)):=by
 intro Zt s σ H Q I h
 refine isTrue_chain (thn (ha Zt s σ H _ I h) fun v s1 ⟨x,H1,I1,r1,q1⟩=>test_link (thn (hb Zt s1 σ H1 _ I1 q1) fun u s2 ⟨y,H2,I2,r2,q2⟩=>
  thn (ho Zt s2 σ H2 x y v u _ I2 r1 r2 q2) fun d s3 ⟨z,H3,I3,r3,k,e,q3⟩=>?_)) hm
 subst e;cases r3;refine wpAny_truthy_bool ?_
 cases k with
 |false=>
  obtain⟨k',e',q'⟩:=q3;cases e';exact ite_ff ⟨H3,I3,q'⟩
 |true=>
  refine ite_tt (test_last (thn (hc Zt s3 σ H3 _ I3 q3) fun w' s4 ⟨z',H4,I4,r4,q4⟩=>thn (kB Zt s4 σ H4 y z' u w' _ I4 r2 r4 q4) fun d' s5 ⟨z2,H5,I5,r5,k2,e2,q5⟩=>?_));subst e2;cases r5;exact wpAny_truthy_bool ⟨H5,I5,q5⟩
theorem mW:(sizeLine:Nat)<2^63:=by rw[sizeLine_eq];decide
theorem vals1{x:V}{us:List Value}(r:Vals [x] us):∃u,us=[u]/\RelV x u:=by
 cases r with
 |cons r1 r2=>cases r2;exact⟨_,rfl,r1⟩
theorem vals2{x y:V}{us:List Value}(r:Vals [x,y] us):∃u w',us=[u,w']/\RelV x u/\RelV y w':=by
 cases r with
 |cons r1 r2=>
  cases r2 with
  |cons r3 r4=>cases r4;exact⟨_,_,rfl,r1,r3⟩
theorem j8(hc:X.calm=true):dU X (.builtin "max") (fun xs H Q=>∃i j,xs=[.int i,.int j]/\Q (.int (if j>i then j else i)) H):=by
 intro Zt s σ H xs us Q I r h;obtain⟨i,j,rfl,q⟩:=h;obtain⟨u,w',rfl,⟨t,rfl⟩,⟨t',rfl⟩⟩:=vals2 r
 refine max_two_ints (I.ok.hd hc) fun h' tk k=>⟨_,H,I.kept k,?_,q⟩
 by_cases hj:j>i
 .rw[zAy hj,zAy hj];exact⟨_,rfl⟩
 .rw[zAv hj,zAv hj];exact⟨_,rfl⟩
theorem fQ(hc:X.calm=true):dU X (.builtin "min") (fun xs H Q=>∃i j,xs=[.int i,.int j]/\Q (.int (if j<i then j else i)) H):=by
 intro Zt s σ H xs us Q I r h;obtain⟨i,j,rfl,q⟩:=h;obtain⟨u,w',rfl,⟨t,rfl⟩,⟨t',rfl⟩⟩:=vals2 r
 refine min_two_ints (I.ok.hd hc) fun h' tk k=>⟨_,H,I.kept k,?_,q⟩
 by_cases hj:j<i
 .rw[zAy hj,zAy hj];exact⟨_,rfl⟩
 .rw[zAv hj,zAv hj];exact⟨_,rfl⟩
theorem yt:dU X (.type "int") (fun xs H Q=>(∃i,xs=[.int i]/\Q (.int i) H)\/∃k,xs=[.bl k]/\Q (.int (if k then 1 else 0)) H):=by
 intro Zt s σ H xs us Q I r h;rcases h with⟨i,rfl,q⟩|⟨k,rfl,q⟩
 .obtain⟨u,rfl,t,rfl⟩:=vals1 r;exact call_int_int ⟨.int i,H,I,⟨_,rfl⟩,q⟩
 .obtain⟨u,rfl,r1⟩:=vals1 r;cases r1;exact call_int_bool ⟨.int (if k then 1 else 0),H,I.tok _,⟨_,rfl⟩,q⟩
end
structure ObjM(h:Heap)(x dx C:Addr)(mA:Str->Option Value):Prop where
 obj:h.get? x=some (PySem.W.instObj C dx)
 ns:h.Ns1 dx mA
 ne:dx≠x
theorem yu{h:Heap}{dx:Addr}{mA:Str->Option Value}(n:h.Ns1 dx mA):∃od,h.get? dx=some od/\∀name,PySem.W.lookIn name od=some (mA name):=by
 obtain⟨o,es,ep,ho,hd,hk,_,hm⟩:=n;refine⟨o,ho,fun name=>?_⟩;have e:=hm name;unfold nsFind findBy at e;rw[<-Array.find?_toList]at e;unfold PySem.W.lookIn;rw[hd];dsimp only;split
 .rename_i y q
  rw[q]at e;exact congrArg some e
 .rename_i q
  rw[q]at e
  have a:es.toList.any (·.refKey)=false:=by
   rw[List.any_eq_false];intro y hy;obtain⟨z,t,F2⟩:=hk y (Array.mem_toList_iff.mp hy);simp[DictEntry.refKey,F2]
  have a':¬es.toList.any (·.refKey)=true:=by rw[a];exact zAg
  rw[zAv a'];exact congrArg some e
theorem ObjM.look{h:Heap}{x dx C:Addr}{mA:Str->Option Value}(I:ObjM h x dx C mA):∃od,PySem.W.InstAt h x (PySem.W.instObj C dx) C (some od)/\∀name,PySem.W.lookIn name od=some (mA name):=
 let⟨od,ho,hl⟩:=yu I.ns
 ⟨od,⟨I.obj,rfl,rfl,ho⟩,hl⟩
section
variable{prog:Program}{w:World}{A:Around}{E:Value->Shared->Prop}{s:Shared}{K:Frag}{x dx C f:Addr}{mA:Str->Option Value}{name:Str}{v:Value}
end
theorem RelO.some_of{v:V}{o:Option Value}(r:RelO (some v) o):∃u,o=some u/\RelV v u:=by
 cases o with
 |none=>exact(show False from r).elim
 |some u=>exact⟨u,rfl,r⟩
section
variable{P:Program}{w:World}{H H':Hp}{h h':Heap}{a C dx:Addr}{fs Px:List (Str×V)}
theorem DX(hok:HOk P w H h)(e:H a=some (.ins C dx fs)):∃mA,ObjM h a dx C mA/\(∀f,RelO (fs.lookup f) (mA f))/\PySem.Within mA (fs.map (·.1))/\fs.length<=1000/\H dx=some (.own a):=by
 obtain⟨d,z,ne,ob,mA,n,r,q⟩:=(show ObjOk P w H h a (.ins C dx fs)from hok a _ e)
 exact⟨mA,⟨ob,n,ne⟩,r,q,z,d⟩
end
structure Cls(K:Frag)(C:Addr):Prop where
 pg:PySem.W.plainGet K C Str.empty=true
 hd:PySem.W.hasDictIn K C=true
 po:PySem.W.plainOver K C=true
 sa:PySem.W.findIn K (.ref C) "__setattr__"=some (some (.builtin "object.__setattr__"))
theorem Cls.get{K:Frag}{C:Addr}(c:Cls K C)(f:Str):PySem.W.plainGet K C f=true:=c.pg
section
variable{X:Cx}{Zt:List (Addr×Obj)}{σ:St}{H:Hp}{s:Shared}{a C dx:Addr}{fs:List (Str×V)}{f:Str}{v:V}{A:Around}{E:Value->Shared->Prop}
end
section
variable{X:Cx}{o e value:Expr}{f:Str}{pos pos' sC:Pos}{ta tv:TE}
end
section
variable{X:Cx}{Zt:List (Addr×Obj)}{σ:St}{H:Hp}{s:Shared}{A:Around}{E:Value->Shared->Prop}{Q:Value->Shared->Prop}{c:Value}{b:Bool}
inductive TyOf(K:Frag)(H:Hp):V->Value->Prop where
 |non:TyOf K H .non (.type "NoneType")
 |bl (x:Bool):TyOf K H (.bl x) (.type "bool")
 |int (i:Int):TyOf K H (.int i) (.type "int")
 |str (x:Str):TyOf K H (.str x) (.type "str")
 |flt (x:UInt64):TyOf K H (.flt x) (.type "float")
 |lst {a:Addr} {xs:List V} (e:H a=some (.lst xs)):TyOf K H (.ref a) (.type "list")
 |frz {a:Addr} {o:Obj} {xs:List V} (e:H a=some (.frz o (.lst xs))):TyOf K H (.ref a) (.type "list")
 |tup {a:Addr} {xs:List V} (e:H a=some (.tup xs)):TyOf K H (.ref a) (.type "tuple")
 |dK {a:Addr} {Zs:List (Key×V)} (e:H a=some (.dK Zs)):TyOf K H (.ref a) (.type "dict")
 |dT {a:Addr} {Zs:List (List Key×V)} (e:H a=some (.dT Zs)):TyOf K H (.ref a) (.type "dict")
 |ins {a C dx:Addr} {fs:List (Str×V)} (e:H a=some (.ins C dx fs)) (cl:Cls K C) (ha:PySem.W.findIn K (.ref C) "__class__"=some (some (.builtin "object.__class__")))
   (hn:PySem.W.specialIn K (.builtin "object.__class__") "__get__"=some (some (.builtin "getset_descriptor.__get__"))) (mE:PySem.W.takesIn K (.builtin "object.__class__")=some true)
   (hm:PySem.W.mroIn K C (.type "object")=some true):TyOf K H (.ref a) (.ref C)
theorem yw{x:V}{u t:Value}(I:Inv X Zt σ H s)(rx:RelV x u)(ty:TyOf X.K H x t)(e:PySem.W.kitOne X.K t c=some b)(h:∀tk,Q (.bool b) {s with toks:=tk}):
  wpAny (model X.prog X.w) A (call (.builtin "isinstance") [u,c]) Q E s:=by
 cases ty with
 |non=>cases(show u=Value.none from rx);exact PySem.W.kia_one PySem.W.kitx_none I.kIn True.intro e (fun z=>nomatch z) h
 |bl y=>cases(show u=Value.bool y from rx);exact PySem.W.kia_one PySem.W.kitx_bool I.kIn True.intro e (fun z=>nomatch z) h
 |int i=>obtain⟨t,q⟩:=(show ∃t,u=Value.int i t from rx);cases q;exact PySem.W.kia_one PySem.W.kitx_int I.kIn True.intro e (fun z=>nomatch z) h
 |str y=>obtain⟨t,q⟩:=(show ∃t,u=Value.str y t from rx);cases q;exact PySem.W.kia_one PySem.W.kitx_str I.kIn True.intro e (fun z=>nomatch z) h
 |flt y=>obtain⟨t,q⟩:=(show ∃t,u=Value.float y t from rx);cases q;exact PySem.W.kia_one PySem.W.kitx_float I.kIn True.intro e (fun z=>nomatch z) h
 |@lst a xs ea=>
  cases(show u=Value.ref a from rx)
  obtain⟨_,_,n,_,h1⟩:=(show ObjOk X.prog X.w H s.heap a (.lst xs)from I.hok a _ ea)
  exact PySem.W.kia_one PySem.W.kitx_list I.kIn ⟨_,h1,rfl⟩ e (fun z=>nomatch z) h
 |@frz a ob xs ea=>
  cases(show u=Value.ref a from rx)
  obtain⟨_,_,_,n,_,h1⟩:=(show ObjOk X.prog X.w H s.heap a (.frz ob (.lst xs))from I.hok a _ ea)
  exact PySem.W.kia_one PySem.W.kitx_list I.kIn ⟨_,h1,rfl⟩ e (fun z=>nomatch z) h
 |@tup a xs ea=>
  cases(show u=Value.ref a from rx)
  obtain⟨_,_,_,p⟩:=(show ObjOk X.prog X.w H s.heap a (.tup xs)from I.hok a _ ea)
  obtain⟨o,h1,h2,_⟩:=p;exact PySem.W.kia_one PySem.W.kitx_tuple I.kIn ⟨o,h1,h2⟩ e (fun z=>nomatch z) h
 |@dK a Zs ea=>
  cases(show u=Value.ref a from rx)
  obtain⟨_,_,vs,_,p⟩:=(show ObjOk X.prog X.w H s.heap a (.dK Zs)from I.hok a _ ea)
  obtain⟨o,es,ep,h1,h2,_⟩:=p;exact PySem.W.kia_one PySem.W.kitx_dict I.kIn ⟨o,h1,h2.1⟩ e (fun z=>nomatch z) h
 |@dT a Zs ea=>
  cases(show u=Value.ref a from rx)
  obtain⟨_,_,xs,_,o,es,ep,h1,h2,_⟩:=(show ObjOk X.prog X.w H s.heap a (.dT Zs)from I.hok a _ ea)
  exact PySem.W.kia_one PySem.W.kitx_dict I.kIn ⟨o,h1,h2.1⟩ e (fun z=>nomatch z) h
 |@ins a C dx fs ea cl ha hn mE hm=>
  cases(show u=Value.ref a from rx);obtain⟨mA,O,_⟩:=DX I.hok ea;obtain⟨od,J,_⟩:=O.look;exact PySem.W.kia_one (PySem.W.kitx_own (cl.get _) cl.hd ha hn mE hm) I.kIn J e (fun z=>nomatch z) h
end
structure Room(k:Nat)(A:Around):Prop where
 hd:A.handled=none
 dp:A.depth+3*k+5<recursionLimit
 un:A.units+16*k+200<cLine
 gd:A.guards=some []
theorem Room.mono{j k:Nat}{A:Around}(r:Room k A)(h:j<=k):Room j A:=⟨r.hd,by have:=r.dp;lia,by have:=r.un;lia,r.gd⟩
theorem Room.deeper{k:Nat}{A:Around}(r:Room (k+1) A)(env:Env):Room k (A.deeper env):=
 ⟨r.hd,by have:=r.dp;show A.depth+1+3*k+5<_;lia,by have:=r.un;show A.units+3+16*k+200<_;lia,r.gd⟩
theorem Room.depth{k:Nat}{A:Around}(r:Room k A):A.depth<recursionLimit:=by have:=r.dp;lia
theorem Room.units{k:Nat}{A:Around}(r:Room k A):A.units+64<cLine:=by have:=r.un;lia
def GC:TA:=fun _ H Q=>Q [] H
def tL(ta:TE)(tr:TA):TA:=fun σ H Q=>ta σ H fun x H1=>tr σ H1 fun xs H2=>Q (x::xs) H2
section
variable{X:Cx}{e:Expr}{es:List Expr}{te:TE}{t:TA}{pos:Pos}
theorem aj:PA X [] GC:=fun _ _ _ _ H Q I h=>Calls.spliced_nil ⟨[],H,I,.nil,h⟩
theorem aP(ha:PE X e te)(hr:PA X es t)(hs:starEach (e::es) X.env=(false,eval e X.env)::starEach es X.env:=by rfl):PA X (e::es) (tL te t):=by
 intro pos Zt s σ H Q I h;rw[hs];show wpAny _ _ (spliced ((false,eval e X.env)::backTo pos (starEach es X.env))) _ _ s;refine Calls.spliced_cons (thn (ha Zt s σ H _ I h) fun u s1 ⟨x,H1,I1,r1,q1⟩=>?_)
 exact thn (hr pos Zt s1 σ H1 _ I1 q1) fun us s2 ⟨xs,H2,I2,r2,q2⟩=>⟨x::xs,H2,I2,.cons r1 r2,q2⟩
def GD(t:TA):TE:=fun σ H Q=>t σ H fun xs H1=>xs.length<=sizeLine/\∀p,H1 p=none->Q (.ref p) (upd H1 p (.tup xs))
def DY(t:TA):TE:=fun σ H Q=>t σ H fun xs H1=>xs.length<=sizeLine/\∀p,H1 p=none->Q (.ref p) (upd H1 p (.lst xs))
theorem bB{x1}(h:PA X es t):PE X (.Tuple es x1 pos) (GD t):=by
 intro Zt s σ H Q I hq;refine wpAny_Tuple_spliced (thn (h pos Zt s σ H _ I hq) fun us s1 ⟨xs,H1,I1,r,z,q⟩=>⟨by rw[<-r.length];exact z,?_⟩);have hf:H1 s1.heap.objs.size=none:=I1.hok.fresh (zA3 _);refine⟨.ref s1.heap.objs.size,upd H1 s1.heap.objs.size (.tup xs),I1.laid (t':=s1.toks) (fun b u e=>zAw _ e) (zA3 _) ?_,rfl,q _ hf⟩;exact⟨z,us,r,⟨_,zB2 _ rfl,rfl,_,rfl⟩⟩
theorem cQ(h:PA X es t):PE X (.List es pos) (DY t):=by
 intro Zt s σ H Q I hq;refine wpAny_List_spliced (thn (h pos Zt s σ H _ I hq) fun us s1 ⟨xs,H1,I1,r,z,q⟩=>⟨by rw[<-r.length];exact z,?_⟩);have hf:H1 s1.heap.objs.size=none:=I1.hok.fresh (zA3 _);refine⟨.ref s1.heap.objs.size,upd H1 s1.heap.objs.size (.lst xs),I1.laid (t':=s1.toks) (fun b u e=>zAw _ e) (zA3 _) ?_,rfl,q _ hf⟩;exact⟨z,us,0,r,zB2 _ rfl⟩
end
abbrev Sp:=List V->Hp->VK->XK->Prop
abbrev CXT:=List Env->Hp->Shared->XK->Value->Shared->Prop
structure Env0(P:Program)(w:World)(K:Frag)(mg:Str->Option Value)(base:Heap)(A:Around)(outer:List Env)(s:Shared)(H:Hp):Prop where
 frames:A.frames=some outer
 mod:Mod K mg base
 bs:∀b o,base.get? b=some o->s.heap.get? b=some o/\H b=none
 bsz:base.objs.size<=s.heap.objs.size
 funs:s.heap.FunFrames base outer
 frf:∀b∈frs outer,H b=none
 hok:HOk P w H s.heap
 bare:AllBare s.gens
def CE(outer:List Env)(P:Program)(w:World)(H:Hp)(s:Shared)(Q:VK)(u:Value)(s':Shared):Prop:=
 ∃v H',s'.os=s.os/\AllBare s'.gens/\Un (frs outer) [] H H' s.heap s'.heap/\HOk P w H' s'.heap/\RelV v u/\Q v H'
def CR(CX:CXT)(outer:List Env)(P:Program)(w:World)(H:Hp)(s:Shared)(Q:VK)(E:XK)(r:Result)(s':Shared):Prop:=
 match r with
 |.ok (.ret u)=>CE outer P w H s Q u s'
 |.ok _=>False
 |.error e=>CX outer H s E e s'
structure FnOk(P:Program)(w:World)(K:Frag)(mg:Str->Option Value)(base:Heap)(CX:CXT)(k:Nat)(f:Addr)(fd:FuncData)(ps:List Str)(sp:Sp):Prop where
 len:∀vs H Q E,sp vs H Q E->vs.length=ps.length
 run:∀(A:Around) (outer:List Env) (s:Shared) (H:Hp) (args:Args) (us:List Value) (vs:List V) (Q:VK) (E:XK),Room k A->Env0 P w K mg base A outer s H->BindsTo s fd args (ps.zip us)->Vals vs us->sp vs H Q E->
  codeAny (model P w) A (.call (.ref f) args) (CR CX outer P w H s Q E) s
section
variable{X:Cx}{Zt:List (Addr×Obj)}{σ:St}{H:Hp}{s s':Shared}
theorem Inv.env0(I:Inv X Zt σ H s):Env0 X.prog X.w X.K X.mg X.base X.A X.stack s H:=
 ⟨I.ok.frames,I.ok.mod,I.bs,Nat.le_trans I.ok.bsz I.sz,I.stack,I.stkFree,I.hok,I.bare⟩
theorem Inv.after{Q:VK}{u:Value}(I:Inv X Zt σ H s)(h:CE X.stack X.prog X.w H s Q u s'):EP X Zt σ Q u s':=by
 obtain⟨v,H',os,bare,un,hok,r,q⟩:=h;obtain⟨hh,g,d,t,PF⟩:=s';obtain rfl:PF=s.os:=os;exact⟨v,H',I.call (h':=hh) (g':=g) (d':=d) (t':=t) (ch:=[]) un hok bare (fun b z=>absurd z Zy),r,q⟩
end
def G5(sp:Sp)(qa:List V)(E:XK)(t:TA):TE:=fun σ H Q=>t σ H fun vs H1=>sp (vs++qa) H1 Q E
def Binds(K:Frag)(fd:FuncData)(ps:List Str)(ds:List Value):Prop:=
 ∀(s:Shared) (us:List Value),K.In s.heap->(us++ds).length=ps.length->BindsTo s fd ⟨us,[]⟩ (ps.zip (us++ds))
theorem Binds.all{K:Frag}{fd:FuncData}{ps:List Str}(h:∀us:List Value,us.length=ps.length->bindArgs fd ⟨us,[]⟩=pure (ps.zip us)):Binds K fd ps []:=fun s us _ hl=>by
 rw[zAn]at hl⊢;exact .of_eq (h us hl)
def uV(CX:CXT)(X:Cx)(E:XK):Prop:=∀(Zt:List (Addr×Obj)) (σ:St) (H:Hp) (s:Shared) (e:Value) (s':Shared),Inv X Zt σ H s->CX X.stack H s E e s'->X.xe e s'
section
variable{X:Cx}{CX:CXT}{k:Nat}{f C:Addr}{fd:FuncData}{ps:List Str}{sp:Sp}{qa:List V}{ds:List Value}{E:XK}{x m:Str}{p pos apos:Pos}{e o:Expr}{es:List Expr}{ta:TE}{t:TA}
theorem GF{Zt:List (Addr×Obj)}{σ:St}{H:Hp}{s:Shared}{Q:VK}{us:List Value}{vs:List V}(F:FnOk X.prog X.w X.K X.mg X.base CX k f fd ps sp)(hr:Room k X.A)(hb:Binds X.K fd ps ds)(hd:Vals qa ds)(hx:uV CX X E)
  (I:Inv X Zt σ H s) (r:Vals vs us) (h:sp (vs++qa) H Q E):wpAny (model X.prog X.w) X.A (call (.ref f) us) (EP X Zt σ Q) X.xe s:=by
 have r2:Vals (vs++qa) (us++ds):=r.append hd;have hl:(us++ds).length=ps.length:=by rw[<-r2.length];exact F.len _ _ _ _ h
 refine wpAny_call (codeAny_mono (F.run X.A X.stack s H ⟨us,[]⟩ (us++ds) (vs++qa) Q E hr I.env0 (hb s us I.kIn hl) r2 h) fun r s' hq=>?_)
 cases r with
 |error e=>exact hx Zt σ H s e s' I hq
 |ok fl=>
  cases fl with
  |ret u=>exact I.after hq
  |next=>exact False.elim hq
  |brk=>exact False.elim hq
  |cont=>exact False.elim hq
theorem Ea(F:FnOk X.prog X.w X.K X.mg X.base CX k f fd ps sp)(hr:Room k X.A)(hg:Gl X x)(hm:X.mg x=some (.ref f))(hk:PySem.W.keepIn X.K (.ref f)=true)(hb:Binds X.K fd ps ds)(hd:Vals qa ds)(hx:uV CX X E)
  (ha:PA X (e::es) t) (sR:(x==("__debug__":Str))=false:=by decide) (he:starEach (e::es) X.env=(false,eval e X.env)::starEach es X.env:=by rfl) (qh:(backTo pos (starEach es X.env)).any (·.1)=false:=by rfl):
  PE X (.Call (.Name x p) (e::es) [] pos) (G5 sp qa E t):=by
 intro Zt s σ H Q I h;refine wpAny_Call_Name_kw (vQ I hg hm ?_ sR);refine PySem.W.callWith_K (h₀:=X.base) I.ok.mod.kin hk (thn (ha pos Zt s σ H _ I h) fun us s1 ⟨vs,H1,I1,r,q⟩=>⟨I1.kIn,?_⟩) he qh;exact GF F hr hb hd hx I1 r q
end
section
variable{X:Cx}{CX:CXT}{k:Nat}{f C:Addr}{fd:FuncData}{ps ks:List Str}{sp:Sp}{E:XK}{x m:Str}{p pos apos PH:Pos}{e o:Expr}{es:List Expr}{Wn:List Keyword}{te ta:TE}{t tk:TA}{nm:Option Str}
variable{g:List Value->List Value->List Value}{gV:List V->List V->List V}
end
structure FnScope(N P:List Str)(sc:Scope):Prop where
 kind:sc.kind=.function
 co:sc.isCoroutine=false
 gen:sc.isGenerator=false
 nd:N.Nodup
 pre:N.take P.length=P
 par:∀x∈P,sc.names.lookup x=some .local\/sc.names.lookup x=some .cell
 nofree:∀y∈sc.names,y.2≠.free
theorem pN{kindOf:Str->Option NameKind}{x:Str}:∀{binds:List (Str×Value)} {m:Str->Option Value},(∀v,(x,v)∉binds)->bindL kindOf binds m x=m x
 |[],_,_=>rfl
 | (n,v)::r,m,h=>by
  unfold bindL;rw[pN fun w hw=>h w (List.mem_cons_of_mem _ hw)];split
  .have:x≠n:=by rintro rfl;exact h v List.mem_cons_self
   simp[this]
  .rfl
theorem pO{kindOf:Str->Option NameKind}{x:Str}:∀{binds:List (Str×Value)} {m:Str->Option Value},(∀v,(x,v)∉binds)->bindC kindOf binds m x=m x
 |[],_,_=>rfl
 | (n,v)::r,m,h=>by
  unfold bindC;rw[pO fun w hw=>h w (List.mem_cons_of_mem _ hw)];split
  .rfl
  .have:x≠n:=by rintro rfl;exact h v List.mem_cons_self
   simp[this]
theorem pP{kindOf:Str->Option NameKind}{x:Str}{v:Value}:∀{P:List Str} {vs:List Value} {i:Nat} {m:Str->Option Value},P.Nodup->P[i]?=some x->vs[i]?=some v->kindOf x=some .local->
  bindL kindOf (P.zip vs) m x=some v
 |[],_,_,_,_,h,_,_=>by simp at h
 |_::_,[],_,_,_,_,h,_=>by simp at h
 |p::P,w::vs,0,m,nd,h1,h2,hk=>by
  simp at h1 h2;subst h1;subst h2;show bindL kindOf ((p,w)::P.zip vs) m p=_;unfold bindL;rw[pN fun v hv=>(List.nodup_cons.mp nd).1 (List.of_mem_zip hv).1,if_pos hk];simp
 |p::P,w::vs,i+1,m,nd,h1,h2,hk=>by
  show bindL kindOf ((p,w)::P.zip vs) m x=_;unfold bindL;exact pP (i:=i) (List.nodup_cons.mp nd).2 (by simpa using h1) (by simpa using h2) hk
theorem pQ{kindOf:Str->Option NameKind}{x:Str}{v:Value}:∀{P:List Str} {vs:List Value} {i:Nat} {m:Str->Option Value},P.Nodup->P[i]?=some x->vs[i]?=some v->kindOf x≠some .local->
  bindC kindOf (P.zip vs) m x=some v
 |[],_,_,_,_,h,_,_=>by simp at h
 |_::_,[],_,_,_,_,h,_=>by simp at h
 |p::P,w::vs,0,m,nd,h1,h2,hk=>by
  simp at h1 h2;subst h1;subst h2;show bindC kindOf ((p,w)::P.zip vs) m p=_;unfold bindC;rw[pO fun v hv=>(List.nodup_cons.mp nd).1 (List.of_mem_zip hv).1,if_neg hk];simp
 |p::P,w::vs,i+1,m,nd,h1,h2,hk=>by
  show bindC kindOf ((p,w)::P.zip vs) m x=_;unfold bindC;exact pQ (i:=i) (List.nodup_cons.mp nd).2 (by simpa using h1) (by simpa using h2) hk
def start(N:List Str)(vs:List V):St:=vs.map some++List.replicate (N.length-vs.length) none
def yx(CX:CXT)(P:Program)(w:World)(K:Frag)(mg:Str->Option Value)(base:Heap)(N:List Str)(qual:Str)(scope:Scope)(f:Addr)(cd:Value)(A:Around)(outer:List Env)(s:Shared)(H:Hp)(E:XK):Cx where
 prog:=P
 w:=w
 K:=K
 mg:=mg
 base:=base
 A:=A.deeper (envOfC qual scope s.heap.objs.size f cd)
 N:=N
 s₀:=s
 H₀:=H
 env:=envOfC qual scope s.heap.objs.size f cd
 outer:=outer
 stack:=envOfC qual scope s.heap.objs.size f cd::outer
 ex:=[]
 calm:=true
 fn:=fun _=>true
 pn:=[]
 xe:=fun e s'=>wpAny (model P w) (A.deeper (envOfC qual scope s.heap.objs.size f cd)) (leaving (envOfC qual scope s.heap.objs.size f cd) e) (fun _ yn=>CX outer H s E e yn) (fun e' yn=>CX outer H s E e' yn) s'
theorem tM{sc:Scope}{n:Nat}{x:Str}(h:sc.names.lookup x=some .cell):∃c,(cellsFrom n sc.names []).lookup x=some c:=by
 have q:=PySem.W.cellsFrom_some sc.names n [] (.inl h);exact Option.isSome_iff_exists.mp q
theorem yz{CX:CXT}{P:Program}{w:World}{K:Frag}{mg:Str->Option Value}{base:Heap}{N ps:List Str}{qual:Str}{scope:Scope}{f:Addr}{cd:Value}{A:Around}{outer:List Env}{s s1:Shared}{H:Hp}{E:XK}{us:List Value}{vs:List V}
  (S:FnScope N ps scope) (hd:A.handled=none) (e0:Env0 P w K mg base A outer s H) (hl:vs.length=ps.length) (r:Vals vs us)
  (x:InCallC s s.heap.objs.size (bindL (envOfC qual scope s.heap.objs.size f cd).kindOf (ps.zip us) fun _=>none) (cellsFrom (s.heap.objs.size+1) scope.names []) (bindC (envOfC qual scope s.heap.objs.size f cd).kindOf (ps.zip us) fun _=>none) s1):
  Inv (yx CX P w K mg base N qual scope f cd A outer s H E) [] (start N vs) H s1:=by
 have qh:ps.length<=N.length:=by have:=congrArg List.length S.pre;rw[zAd]at this;lia
 obtain⟨h1,tk,rfl,hk⟩:=x.done;have AQ:∀b:Addr,b∉(yx CX P w K mg base N qual scope f cd A outer s H E).ex:=fun b z=>absurd (show b∈([]:List Addr)from z) Zy
 refine⟨⟨e0.mod,S.kind,rfl,rfl,zA3 _,fun y z c h1 h2=>?_,fun y hy=>?_,fun y c _ h=>?_,fun _=>hd,Around.frames_deeper e0.frames,.inr ⟨rfl,rfl⟩,fun b z=>absurd z (AQ b),e0.bs,e0.bsz,fun b _ _=>AQ b,fun b z=>absurd z (AQ b),e0.funs,e0.frf⟩,
  rfl,e0.bare,Un.kept hk,⟨_,x.toInCall.ns,fun i y v h1 h2 h3=>?_⟩,fun y c h=>⟨_,x.cell y c h⟩,e0.hok.fresh (Nat.le_refl _),fun y c h=>?_,fun p hp=>absurd (show p∈([]:List (Addr×Obj))from hp) Zy,e0.hok.kept hk,?_⟩
 .exact name_of_addr x.apart (PySem.mem_of_lookup h1) (PySem.mem_of_lookup h2)
 .have hy:scope.names.lookup y=some .cell\/scope.names.lookup y=some .free:=hy;rcases hy with hy|hy
  .exact tM hy
  .exact absurd rfl (S.nofree _ (PySem.mem_of_lookup hy))
 .exact Nat.le_of_lt (x.above y c (PySem.mem_of_lookup h))
 .have hi:i<vs.length:=by
   unfold start at h2;by_cases hi:i<vs.length
   .exact hi
   .rw[List.getElem?_append_right (by simpa using hi)]at h2;rw[List.getElem?_replicate]at h2;split at h2<;>cases h2
  have ha:vs[i]?=some v:=by
   unfold start at h2;rw[List.getElem?_append_left (by simpa using hi),List.getElem?_map]at h2
   cases e:vs[i]? with
   |none=>rw[e]at h2;cases h2
   |some a=>rw[e]at h2;cases h2;rfl
  obtain⟨u,hu,rv⟩:=r.get ha
  have hp:ps[i]?=some y:=by
   rw[<-S.pre,List.getElem?_take_of_lt Zz];exact h1
  have M7:ps.Nodup:=by rw[<-S.pre];exact S.nd.sublist (List.take_sublist _ _)
  refine⟨u,rv,?_⟩;rcases S.par y (zB5 hp)with k|k
  .exact .inl ⟨k,pP M7 hp hu k⟩
  .obtain⟨c,e⟩:=tM (n:=s.heap.objs.size+1) k;refine .inr ⟨.inl k,c,e,?_⟩;have q:=x.cell y c e;rw[pQ M7 hp hu (by show scope.names.lookup y≠_;rw[k];decide)]at q;exact q
 .exact e0.hok.fresh (Nat.le_of_lt (x.above y c (PySem.mem_of_lookup h)))
 .unfold start;show _=N.length;rw[zA2,zA1,List.length_replicate];lia
theorem IK{CX:CXT}{P:Program}{w:World}{K:Frag}{mg:Str->Option Value}{base:Heap}{k:Nat}{f:Addr}{name qual:Str}{params:Arguments}{body:List Stmt}{scope:Scope}{dV kV doc pm ai ct oc:Value}{an od:Option Addr}
  {qo:Array (Option Value)} {N ps:List Str} {sp:Sp} (lk:K.lookup f=some ⟨oc,od,.func (PySem.W.fnOf name qual params body scope dV kV doc pm an ai ct),qo⟩) (kC:PySem.W.codeIn K ai qual=true) (S:FnScope N ps scope)
  (len:∀vs H Q E,sp vs H Q E->vs.length=ps.length)
  (kK:∀(A:Around) (outer:List Env) (s:Shared) (H:Hp) (vs:List V) (Q:VK) (E:XK),Room k (A.deeper (envOfC qual scope s.heap.objs.size f ai))->sp vs H Q E->
   ∃t,PSs (yx CX P w K mg base N qual scope f ai A outer s H E) body t/\t {nx:=fun _ H'=>Q .non H',rt:=Q} (start N vs) H):
  FnOk P w K mg base CX (k+1) f (PySem.W.fnOf name qual params body scope dV kV doc pm an ai ct) ps sp:=by
 refine⟨len,fun A outer s H args us vs Q E hr e0 hb r mI=>?_⟩;have hl:=len _ _ _ _ mI;have KX:K.In s.heap:=e0.mod.kin.keeps fun b o e=>(e0.bs b o e).1;have lim:s.heap.NoLimit:=e0.mod.nolimit.keeps fun b o e=>(e0.bs b o e).1
 have AR:∀y∈ps.zip us,scope.names.lookup y.1=some .local\/(scope.names.lookup y.1=some .cell/\((cellsFrom (s.heap.objs.size+1) scope.names []).lookup y.1).isSome=true):=fun⟨n,v⟩ hy=>by
  rcases S.par n (List.of_mem_zip hy).1 with q|q
  .exact .inl q
  .exact .inr ⟨q,PySem.W.cellsFrom_some _ _ _ (.inl q)⟩
 refine codeAny_call_function hr.depth (KX _ _ lk) rfl S.co S.gen rfl (PySem.W.codeRec_of KX kC) (hb _ _ _ _ ?_);refine wpAny_newFunctionEnv_cells S.kind AR fun env he s1 x=>?_;subst he;refine⟨lim.keeps x.toInCall.keep,codeAny_func ?_⟩;obtain⟨t,ht,hq⟩:=kK A outer s H vs Q E (hr.deeper _) mI;have I:Inv (yx CX P w K mg base N qual scope f ai A outer s H E) [] (start N vs) H s1:=yz S hr.hd e0 hl r x;refine wpAny_mono (ht [] s1 (start N vs) H _ I hq) (fun fl s' hs=>?_) fun e s' hs=>hs
 have fin:∀{ah:St} {H':Hp} {v:V} {u:Value},Inv (yx CX P w K mg base N qual scope f ai A outer s H E) [] ah H' s'->RelV v u->Q v H'->CE outer P w H s Q u s':=
  fun{ah H' v u} J rv q=>⟨v,H',J.os,J.bare,J.base,J.hok,rv,q⟩
 cases fl with
 |ret u=>
  obtain⟨v,ah,H',J,rv,q⟩:=hs;exact fin J rv q
 |next=>
  obtain⟨ah,H',J,q⟩:=hs;exact fin (v:=V.non) (u:=Value.none) J rfl q
 |brk=>
  obtain⟨_,_,_,q⟩:=hs;exact False.elim q
 |cont=>
  obtain⟨_,_,_,q⟩:=hs;exact False.elim q
section
variable{X:Cx}{x:Str}{p pos:Pos}{e:Expr}{es:List Expr}{t:TA}{id T:String}{r:List V->Hp->VK->Prop}
def tCB(r:List V->Hp->VK->Prop)(t:TA):TE:=fun σ H Q=>t σ H fun vs H1=>r vs H1 Q
theorem aM(hc:dU X (.builtin id) r)(hg:Gl X x)(hm:X.mg x=none)(hv:bootBuiltins x=some (.builtin id))(ha:PA X (e::es) t)(hn:x≠"__name__":=by decide)(sR:(x==("__debug__":Str))=false:=by decide)
  (he:starEach (e::es) X.env=(false,eval e X.env)::starEach es X.env:=by rfl) (qh:(backTo pos (starEach es X.env)).any (·.1)=false:=by rfl):PE X (.Call (.Name x p) (e::es) [] pos) (tCB r t):=by
 intro Zt s σ H Q I h;refine wpAny_Call_Name_kw (gZ I hg hm hv ?_ hn sR);exact PyProof.Rows.callWith_builtin1 (thn (ha pos Zt s σ H _ I h) fun us s1 ⟨vs,H1,I1,r1,q1⟩=>hc Zt s1 σ H1 vs us Q I1 r1 q1) he qh
theorem cR(hc:dU X (.type T) r)(hg:Gl X x)(hm:X.mg x=none)(hv:bootBuiltins x=some (.type T))(ha:PA X (e::es) t)(hn:x≠"__name__":=by decide)(sR:(x==("__debug__":Str))=false:=by decide)
  (he:starEach (e::es) X.env=(false,eval e X.env)::starEach es X.env:=by rfl) (qh:(backTo pos (starEach es X.env)).any (·.1)=false:=by rfl):PE X (.Call (.Name x p) (e::es) [] pos) (tCB r t):=by
 intro Zt s σ H Q I h;refine wpAny_Call_Name_kw (gZ I hg hm hv ?_ hn sR);exact PyProof.Rows.callWith_type1 (thn (ha pos Zt s σ H _ I h) fun us s1 ⟨vs,H1,I1,r1,q1⟩=>hc Zt s1 σ H1 vs us Q I1 r1 q1) he qh
end
end L2
namespace HT
open PySem PyProof.Rows
def lexLt:List Int->List Int->Bool
 |[],[]=>false
 |[],_::_=>true
 |_::_,[]=>false
 |x::xs,y::ys=>if x=y then lexLt xs ys else decide (x<y)
theorem lexLt_cons(x y:Int)(xs ys:List Int):lexLt (x::xs) (y::ys)=if x=y then lexLt xs ys else decide (x<y):=rfl
section
open PySem.SeqAt
open PySem.AutoSeq1 (wpAny_loadPart')
open PySem.MeetsSeq PySem.MeetsSeq2 PySem.MeetsSeq3
end
section
variable{prog:Program}{w:World}{A:Around}{E:Value->Shared->Prop}{s:Shared}
theorem cat_tup{t b:Addr}{vs ws:List Value}{Q:Value->Shared->Prop}(ht:IsTup s.heap t vs.toArray)(hb:IsTup s.heap b ws.toArray)(hv:vs≠[])
  (h1:ws=[]->Q (.ref t) s) (h2:ws≠[]->Q (.ref s.heap.objs.size) {s with heap:=s.heap.push {cls:=.type "tuple",data:=.seq (vs++ws).toArray}})
  (hsz:vs.length+ws.length<=sizeLine):wpAny (model prog w) A (binaryOp .Add (.ref t) (.ref b)) Q E s:=by
 obtain⟨⟨cls,dd,data,sl⟩,ho,hc,n,hd⟩:=id ht;obtain⟨⟨F3,yy,data2,tf⟩,tj,AS,n2,hd2⟩:=id hb;simp only at hc hd AS hd2;subst hc hd AS hd2;have e:vs.toArray++ws.toArray=(vs++ws).toArray:=by simp
 by_cases hw:ws=[]
 .exact concat_meets ⟨_,ho,rfl⟩ ⟨_,tj,rfl⟩ noFill_tuple_add seq_tuple_add PySem.F.slot_tuple_add PySem.F.entry_tuple_add (PySem.F.args_tuple_add_2 _ _)
   (tuple_addW1 t b vs.toArray ws.toArray n n2 dd yy sl tf (by simpa using hv) (by simp[hw])) ⟨ho,tj,h1 hw⟩
 .refine concat_meets ⟨_,ho,rfl⟩ ⟨_,tj,rfl⟩ noFill_tuple_add seq_tuple_add PySem.F.slot_tuple_add PySem.F.entry_tuple_add (PySem.F.args_tuple_add_2 _ _)
   (tuple_addW2 t b vs.toArray ws.toArray n n2 dd yy sl tf (by simpa using hv) (by simpa using hw) (by rw[List.size_toArray,List.size_toArray];exact hsz)) ⟨ho,tj,?_⟩
  rw[e];exact h2 hw
def sIx(n d:Nat):Option Int->Nat
 |none=>d
 |some v=>if v<0 then(v+(n:Int)).toNat else min v.toNat n
theorem sIx_none(n d:Nat):sIx n d none=d:=rfl
theorem sIx_nat(n d k:Nat):sIx n d (some (k:Int))=min k n:=by
 show(if(k:Int)<0 then((k:Int)+(n:Int)).toNat else min (k:Int).toNat n)=min k n;rw[zAv Zz,zAi]
theorem GJ(n d:Nat)(hd:d<=n)(o:Option Int):sIx n d o<=n:=by
 cases o with
 |none=>exact hd
 |some v=>
  show(if v<0 then(v+(n:Int)).toNat else min v.toNat n)<=n;by_cases hv:v<0
  .rw[zAy hv];lia
  .rw[zAv hv];exact Nat.min_le_right _ _
theorem vY(v:Int)(n d:Nat):(if v<0 then max (v+(n:Int)) 0 else min v (n:Int))=((sIx n d (some v):Nat):Int):=by
 show(if v<0 then max (v+(n:Int)) 0 else min v (n:Int))=(((if v<0 then(v+(n:Int)).toNat else min v.toNat n):Nat):Int);by_cases hv:v<0
 .simp only[if_pos hv];lia
 .simp only[if_neg hv];lia
theorem uW(lo hi:Option Int)(n:Nat):Builtin.Slice.sliceAdjust lo hi 1 (n:Int)=(((sIx n 0 lo:Nat):Int),((sIx n n hi:Nat):Int)):=by
 have h1:¬((1:Int)<0):=Zz
 unfold Builtin.Slice.sliceAdjust;simp only[h1,if_false];refine Prod.ext ?_ ?_
 .cases lo with
  |none=>rfl
  |some v=>exact vY v n 0
 .cases hi with
  |none=>rfl
  |some v=>exact vY v n n
theorem uX(i j:Nat):Builtin.Slice.slicePlaces (i:Int) (j:Int) 1=j-i:=by
 unfold Builtin.Slice.slicePlaces;have h1:(1:Int)>0:=Zz
 simp only[h1,if_true,Int.ediv_one];split<;>lia
theorem mX{v:Value}{o:Option Int}{Q:Option Int->Shared->Prop}(p:IsPart v o)(h:Q o s):wpAny (model prog w) A (Builtin.Slice.slicePartIndex v) Q E s:=by
 cases p with
 |none=>exact slicePart_none h
 |int i t=>exact slicePart_int h
theorem gK{sl:Addr}{vl vu:Value}{lo hi:Option Int}{n:Nat}{Q:Int×Int×Nat->Shared->Prop}(hs:s.heap.IsSliceOf sl vl vu .none)(pl:IsPart vl lo)(pu:IsPart vu hi)
  (h:Q (((sIx n 0 lo:Nat):Int),1,sIx n n hi-sIx n 0 lo) s):wpAny (model prog w) A (Builtin.Slice.sliceApplied (.ref sl) (pure (n:Int))) Q E s:=by
 obtain⟨os,tq,fT,AU⟩:=id hs;unfold Builtin.Slice.sliceApplied Builtin.Slice.sliceFields;refine zAu (zAu (wpAny_field tq AU (x:=vl) rfl (zAu (wpAny_field tq AU (x:=vu) rfl (zAu (wpAny_field tq AU (x:=.none) rfl (zAz ?_)))))));refine zAu (slicePart_none ?_);show wpAny _ _ (if((1:Int)==0)=true then _ else _) _ _ s;rw[zAv Zx];refine zAu (mX pl (zAu (mX pu (zAu (zAz ?_)))));show wpAny _ _ (match Builtin.Slice.sliceAdjust lo hi 1 (n:Int)with | (lo,hi)=>pure (lo,(1:Int),Builtin.Slice.slicePlaces lo hi 1)) _ _ s;rw[uW lo hi n];show wpAny _ _ (pure (((sIx n 0 lo:Nat):Int),(1:Int),Builtin.Slice.slicePlaces ((sIx n 0 lo:Nat):Int) ((sIx n n hi:Nat):Int) 1)) _ _ s;rw[uX];exact zAz h
theorem Ai(xs:Array Value)(i k:Nat):((List.range k).filterMap fun(m:Nat)=>xs[((i:Int)+(m:Int)*1).toNat]?).toArray=((xs.toList.drop i).take k).toArray:=by
 have e:(fun(m:Nat)=>xs[((i:Int)+(m:Int)*1).toNat]?)=fun m=>xs[i+m]?:=by
  funext m;have:((i:Int)+(m:Int)*1).toNat=i+m:=Zz
  rw[this]
 rw[e];have:=pick_run xs i k;rw[List.filterMap_map]at this;have e2:((fun x=>xs[x]?)∘fun x=>i+x)=fun m=>xs[i+m]?:=rfl;rw[e2]at this;rw[this]
theorem getItem_tuple_cut{t sl:Addr}{items:Array Value}{vl vu:Value}{lo hi:Option Int}{Q:Value->Shared->Prop}(ht:IsTup s.heap t items)(hs:s.heap.IsSliceOf sl vl vu .none)(pl:IsPart vl lo)(pu:IsPart vu hi)
  (hw:¬(sIx items.size 0 lo=0/\sIx items.size items.size hi=items.size))
  (h:Q (.ref s.heap.objs.size) {s with heap:=s.heap.push {cls:=.type "tuple",data:=.seq ((items.toList.drop (sIx items.size 0 lo)).take (sIx items.size items.size hi-sIx items.size 0 lo)).toArray}})
  (hsz:items.size<=sizeLine):wpAny (model prog w) A (getItem (.ref t) (.ref sl)) Q E s:=by
 have ix:sizeOk (.seq ((items.toList.drop (sIx items.size 0 lo)).take (sIx items.size items.size hi-sIx items.size 0 lo)).toArray):=by
  show((items.toList.drop (sIx items.size 0 lo)).take (sIx items.size items.size hi-sIx items.size 0 lo)).toArray.size<=sizeLine;rw[zA8,zAd,List.length_drop,zA9];lia
 have hj:sIx items.size items.size hi<=items.size:=GJ _ _ (zA3 _) hi;obtain⟨os,tq,fT,AU⟩:=id hs
 have F4:s.TypeIs (.ref sl) "slice":=⟨os,tq,fT⟩
 unfold getItem
 try with_reducible refine wpAny_holding ?_
 first|refine zAu (zAz ?_)|skip
 refine zAu (wpAny_sequenceKey ht.typeIs Zx ?_)
 refine zAu (wpAny_callSpecial?_slot (name:=Str.ofString "__getitem__") ht.typeIs PyProof.Rows.slot_tuple_getitem
  (wpAny_call_entry PyProof.Rows.slot_tuple_getitem ht.typeIs entry_tuple_getitem ?_ (args_tuple_getitem _ _)))
 show wpAny _ _ (Builtin.Tuple.tupleItemsOf (.ref t)>>=_) _ _ s;refine zAu (tupleItemsOf_ ht ?_);refine zAu (wpAny_typeOf F4 ?_);rw[zAy Zx];refine zAu (gK hs pl pu ?_)
 have F5:¬((((sIx items.size 0 lo:Nat):Int)==0&&(1:Int)==1&&(sIx items.size items.size hi-sIx items.size 0 lo)==items.size)=true):=by
  intro q;rw[zAc,zAc]at q;have q1:((sIx items.size 0 lo:Nat):Int)=0:=eq_of_beq q.1.1;have q2:sIx items.size items.size hi-sIx items.size 0 lo=items.size:=eq_of_beq q.2;exact hw ⟨Zz,Zz⟩
 show wpAny _ _ (if(((sIx items.size 0 lo:Nat):Int)==0&&(1:Int)==1&&(sIx items.size items.size hi-sIx items.size 0 lo)==items.size)=true then _ else _) _ _ s;rw[zAv F5,Ai]
 first
  |exact zAu (m:=Builtin.Tuple.tupleExact _) (wpAny_newObj_type (zAz ⟨_,rfl,zAz h⟩) ix)
  |exact zAu (m:=Builtin.Tuple.tupleExact _) (wpAny_newObj_type (zAu (zAz (zAz ⟨_,rfl,zAz h⟩))) ix)
  |exact zAu (zAu (m:=Builtin.Tuple.tupleExact _) (wpAny_newObj_type (zAz (zAz ⟨_,rfl,zAz h⟩)) ix))
  |exact zAu (zAu (m:=Builtin.Tuple.tupleExact _) (wpAny_newObj_type (zAz ⟨_,rfl,zAz h⟩) ix))
end
end HT
namespace L2
open PySem PySem.Spec PyProof.Rows
abbrev TO:=St->Hp->(Option Int->Hp->Prop)->Prop
def PO(X:Cx)(e:Option Expr)(t:TO):Prop:=
 ∀(Zt:List (Addr×Obj)) (s:Shared) (σ:St) (H:Hp) (Q:Option Int->Hp->Prop),Inv X Zt σ H s->t σ H Q->
  wpAny (model X.prog X.w) X.A (evalPart e X.env) (fun u s'=>∃o H',Inv X Zt σ H' s'/\IsPart u o/\Q o H') X.xe s
def Eb:TO:=fun _ H Q=>Q none H
def IV(t:TE):TO:=fun σ H Q=>t σ H fun x H1=>∃i,x=.int i/\Q (some i) H1
theorem intsAre_of{ns:List Int}:∀{us:List Value},Vals (ns.map V.int) us->IntsAre us ns:=by
 induction ns with
 |nil=>intro us r;rw[List.map_nil]at r;cases r;exact .nil
 |cons n ns ih=>
  intro us r;rw[zAk]at r
  cases r with
  |cons r1 r2=>
   obtain⟨t,e⟩:=r1;subst e;exact .cons n t (ih r2)
section
variable{X:Cx}{e:Expr}{te:TE}{lo hi:Option Expr}{tl th:TO}{pos p2:Pos}
theorem jz:PO X none Eb:=by
 intro Zt s σ H Q I h;rw[evalPart_none];exact zAz ⟨none,H,I,.none,h⟩
theorem jA(h:PE X e te):PO X (some e) (IV te):=by
 intro Zt s σ H Q I hw;rw[evalPart_some];refine thn (h Zt s σ H _ I hw) fun u s1 ⟨x,H1,I1,r1,q1⟩=>?_;obtain⟨i,rfl,q⟩:=q1;obtain⟨t,rfl⟩:=r1;exact⟨some i,H1,I1,.int i t,q⟩
def SlR(X:Cx)(r:V->Option Int->Option Int->Hp->VK->Prop):Prop:=
 ∀(Zt:List (Addr×Obj)) (s:Shared) (σ:St) (H:Hp) (x:V) (v vl vu:Value) (lo hi:Option Int) (sl:Addr) (Q:VK),Inv X Zt σ H s->RelV x v->s.heap.IsSliceOf sl vl vu .none->IsPart vl lo->IsPart vu hi->r x lo hi H Q->
  ∃T id,typeLookup (.type T) "__getitem__"=pure (some (.builtin id))/\s.TypeIs v T/\wpAny (model X.prog X.w) X.A (getItem v (.ref sl)) (EP X Zt σ Q) X.xe s
def tSl(r:V->Option Int->Option Int->Hp->VK->Prop)(te:TE)(tl th:TO):TE:=fun σ H Q=>te σ H fun x H1=>tl σ H1 fun l H2=>th σ H2 fun u H3=>r x l u H3 Q
theorem iJ{r:V->Option Int->Option Int->Hp->VK->Prop}(hr:SlR X r)(he:PE X e te)(hl:PO X lo tl)(hu:PO X hi th):PE X (.Subscript e (.Slice lo hi none p2) pos) (tSl r te tl th):=by
 intro Zt s σ H Q I h;refine Subscript_ (thn (he Zt s σ H _ I h) fun v s1 ⟨x,H1,I1,r1,q1⟩=>?_);refine wpAny_Slice (thn (hl Zt s1 σ H1 _ I1 q1) fun vl s2 ⟨l,H2,I2,pl,q2⟩=>thn (hu Zt s2 σ H2 _ I2 q2) fun vu s3 ⟨u,H3,I3,pu,q3⟩=>?_);rw[evalPart_none];refine zAz ?_;have I4:Inv X Zt σ H3 {s3 with heap:=s3.heap.push {cls:=.type "slice",data:=.fields #[vl,vu,.none]}}:=I3.kept (t':=s3.toks) fun b ob q=>zAw _ q;obtain⟨T,id,hT,ht,hg⟩:=hr Zt {s3 with heap:=s3.heap.push {cls:=.type "slice",data:=.fields #[vl,vu,.none]}} σ H3 x v vl vu l u s3.heap.objs.size Q I4 r1 (Heap.IsSliceOf.new ..) pl pu q3;show wpAny (model X.prog X.w) X.A (subscriptTail e (.Slice lo hi none p2) v (.ref s3.heap.objs.size)) (EP X Zt σ Q) X.xe {s3 with heap:=s3.heap.push {cls:=.type "slice",data:=.fields #[vl,vu,.none]}};exact tail_any (ops:=[.ref s3.heap.objs.size,v]) ht hT hg (by with_unfolding_all rfl)
def lO(xs:List V)(lo hi:Option Int):List V:=(xs.drop (HT.sIx xs.length 0 lo)).take (HT.sIx xs.length xs.length hi-HT.sIx xs.length 0 lo)
theorem lD(xs:List V)(lo hi:Option Int):(lO xs lo hi).length<=xs.length:=by
 unfold lO;rw[zAd,List.length_drop];lia
inductive RSlTI(K:Frag)(x:V)(lo:Option Int)(hi:Option Int)(H:Hp)(Q:VK):Prop
 |mk:∀a xs,(x=.ref a)->(SqT K H a xs)->(¬(HT.sIx xs.length 0 lo=0/\HT.sIx xs.length xs.length hi=xs.length))->(∀p,H p=none->Q (.ref p) (upd H p (.tup (lO xs lo hi))))->RSlTI K x lo hi H Q
def Ka(K:Frag):V->Option Int->Option Int->Hp->VK->Prop:=fun x lo hi H Q=>RSlTI K x lo hi H Q
theorem GK:SlR X (Ka X.K):=by
 intro Zt s σ H x v vl vu lo hi sl Q I rx hs pl pu h;obtain⟨a,xs,rfl,hx,hw,q⟩:=h;cases rx;obtain⟨Zr,r,ht,hz⟩:=I.tuple hx;have hlen:Zr.toArray.size=xs.length:=by rw[zA8];exact r.length.symm
 refine⟨"tuple",_,PyProof.Rows.slot_tuple_getitem.lookup,ht.typeIs,?_⟩;refine HT.getItem_tuple_cut ht hs pl pu (by rw[hlen];exact hw) ?_ (by rw[hlen];exact hz);rw[hlen];refine⟨.ref s.heap.objs.size,_,I.laid (t':=s.toks) (o:=.tup (lO xs lo hi)) (fun b ob q=>zAw _ q) (zA3 _) ?_,rfl,q _ (I.hok.fresh (zA3 _))⟩;exact⟨Nat.le_trans (lD xs lo hi) hz,_,(r.drop (HT.sIx xs.length 0 lo)).take (HT.sIx xs.length xs.length hi-HT.sIx xs.length 0 lo),IsTup.new _ _⟩
inductive RCatTI(K:Frag)(x:V)(y:V)(H:Hp)(Q:VK):Prop
 |mk:∀a b xs ys,(x=.ref a)->(y=.ref b)->(SqT K H a xs)->(SqT K H b ys)->(xs≠[])->(xs.length+ys.length<=sizeLine)->((ys=[]->Q (.ref a) H))->((ys≠[]->∀p,H p=none->Q (.ref p) (upd H p (.tup (xs++ys)))))->RCatTI K x y H Q
def IW(K:Frag):R2:=fun x y H Q=>RCatTI K x y H Q
theorem Vals.nil_iff{xs:List V}{us:List Value}(r:Vals xs us):us=[]↔xs=[]:=by
 cases r with
 |nil=>simp
 |cons _ _=>simp
theorem Ec:OpR X (binaryOp .Add) (IW X.K):=by
 intro Zt s σ H x y v u Q I rx ry h;obtain⟨a,b,xs,ys,rfl,rfl,ha,hb,hx,hz,q1,q2⟩:=h;cases rx;cases ry;obtain⟨Zr,r1,p1,_⟩:=I.tuple ha;obtain⟨bE,r2,p2,_⟩:=I.tuple hb;refine HT.cat_tup p1 p2 (fun z=>hx (r1.nil_iff.mp z)) (fun z=>⟨.ref a,H,I,rfl,q1 (r2.nil_iff.mp z)⟩) (fun z=>?_) (by rw[<-r1.length,<-r2.length];exact hz);refine⟨.ref s.heap.objs.size,_,I.laid (t':=s.toks) (o:=.tup (xs++ys)) (fun b ob q=>zAw _ q) (zA3 _) ?_,rfl,q2 (fun w=>z (r2.nil_iff.mpr w)) _ (I.hok.fresh (zA3 _))⟩;exact⟨by rw[zA2];exact hz,_,r1.append r2,IsTup.new _ _⟩
end
def ixN(n:Nat)(i:Int):Option Nat:=if 0<=i then(if i<n then some i.toNat else none)else if -(n:Int)<=i then some (i+n).toNat else none
def atI{α:Type}(xs:List α)(i:Int):Option α:=(ixN xs.length i).bind fun j=>xs[j]?
theorem vZ{n:Nat}{i:Int}{j:Nat}(h:ixN n i=some j):seqIndex? i n=some j/\j<n/\-(n:Int)<=i/\i<n:=by
 unfold ixN at h;by_cases h0:0<=i
 .rw[zAy h0]at h;by_cases h1:i<n
  .rw[zAy h1]at h;have e:i.toNat=j:=zAl h;exact⟨by rw[seqIndex_of h0 h1,e],Zz,Zz,h1⟩
  .rw[zAv h1]at h;cases h
 .rw[zAv h0]at h;by_cases h1:-(n:Int)<=i
  .rw[zAy h1]at h;have e:(i+n).toNat=j:=zAl h;exact⟨by rw[seqIndex_neg Zz h1,e],Zz,h1,Zz⟩
  .rw[zAv h1]at h;cases h
theorem w5{α:Type}{xs:List α}{i:Int}{v:α}(h:atI xs i=some v):∃j,seqIndex? i xs.length=some j/\xs[j]?=some v/\j<xs.length/\-(xs.length:Int)<=i/\i<xs.length:=by
 unfold atI at h
 cases e:ixN xs.length i with
 |none=>rw[e]at h;cases h
 |some j=>
  rw[e]at h;obtain⟨h1,h2,h3,h4⟩:=vZ e;exact⟨j,h1,h,h2,h3,h4⟩
theorem du{α:Type}{xs:List α}{j:Nat}{v:α}(h:xs[j]?=some v):atI xs (j:Int)=some v:=by
 have hj:j<xs.length:=(zAa.mp h).1
 have e:ixN xs.length (j:Int)=some j:=by
  unfold ixN;rw[if_pos Zz,if_pos Zz];simp
 unfold atI;rw[e];exact h
def qU(b:Expr):Prop:=∀o i,subscripted b false o i=operate [o,i] (getItem o i)
def IxR(X:Cx)(r:R2):Prop:=
 ∀(value slice:Expr) (Zt:List (Addr×Obj)) (s:Shared) (σ:St) (H:Hp) (x y:V) (v u:Value) (Q:VK),Inv X Zt σ H s->RelV x v->RelV y u->r x y H Q->
  subscripted slice false v u=operate [v,u] (getItem v u)->wpAny (model X.prog X.w) X.A (subscriptTail value slice v u) (EP X Zt σ Q) X.xe s
def MtR(X:Cx)(id:String)(r:V->List V->Hp->VK->Prop):Prop:=
 ∀(Zt:List (Addr×Obj)) (s:Shared) (σ:St) (H:Hp) (x:V) (xs:List V) (v:Value) (us:List Value) (Q:VK),Inv X Zt σ H s->RelV x v->Vals xs us->r x xs H Q->
  wpAny (model X.prog X.w) X.A (call (.builtin id) (v::us)) (EP X Zt σ Q) X.xe s
section
variable{X:Cx}{a b:Expr}{ta tb:TE}{pos:Pos}
theorem G6{r:R2}(hr:IxR X r)(ha:PE X a ta)(hb:PE X b tb)(hs:qU b):PE X (.Subscript a b pos) (tOp r ta tb):=by
 intro Zt s σ H Q I h;exact Subscript_ (Gy ha hb I h fun v u s2 x y H2 I2 rx ry q=>hr a b Zt s2 σ H2 x y v u Q I2 rx ry q (hs _ _))
inductive RIxLI(K:Frag)(x:V)(y:V)(H:Hp)(Q:VK):Prop
 |mk:∀p xs i v,(x=.ref p)->(y=.int i)->(SqL K H p xs)->(atI xs i=some v)->(Q v H)->RIxLI K x y H Q
def J0(K:Frag):R2:=fun x y H Q=>RIxLI K x y H Q
inductive RIxTI(K:Frag)(x:V)(y:V)(H:Hp)(Q:VK):Prop
 |mk:∀p xs i v,(x=.ref p)->(y=.int i)->(SqT K H p xs)->(atI xs i=some v)->(Q v H)->RIxTI K x y H Q
def J1(K:Frag):R2:=fun x y H Q=>RIxTI K x y H Q
theorem bV:IxR X (J0 X.K):=by
 intro value slice Zt s σ H x y v u Q I rx ry h hs;obtain⟨p,xs,i,z,rfl,rfl,hq,he,q⟩:=h;cases rx;obtain⟨t,rfl⟩:=ry;obtain⟨Zr,r,pl,hz⟩:=I.list hq;obtain⟨j,h1,h2,h3,h4,h5⟩:=w5 he;obtain⟨w,ew,f7⟩:=r.get h2;have hl:=r.length;have hn:=mW
 have fin:EP X Zt σ Q w s:=⟨z,H,I,f7,q⟩
 by_cases h0:0<=i
 .have hj:i.toNat=j:=by
   rw[seqIndex_of h0 h5]at h1;exact zAl h1
  exact item_listR pl.isList h0 Zz (by rw[hj];simpa using ew) fin hs
 .have hj:(i+(Zr.toArray.size:Int)).toNat=j:=by
   rw[seqIndex_neg Zz h4]at h1;rw[zA8,<-hl];exact zAl h1
  exact subscriptTail_builtinR (x:=w) pl.isList.typeIs slot_list_getitem.lookup
   (wpAny_getItem_list_neg (Q:=fun r s'=>r=w/\EP X Zt σ Q r s') pl.isList Zz (by rw[List.size_toArray]<;>lia) Zz (by rw[hj];simpa using ew) ⟨rfl,fin⟩) hs
theorem bT:IxR X (J1 X.K):=by
 intro value slice Zt s σ H x y v u Q I rx ry h hs;obtain⟨p,xs,i,z,rfl,rfl,hq,he,q⟩:=h;cases rx;obtain⟨t,rfl⟩:=ry;obtain⟨Zr,r,pl,hz⟩:=I.tuple hq;obtain⟨j,h1,h2,h3,h4,h5⟩:=w5 he;obtain⟨w,ew,f7⟩:=r.get h2;have hl:=r.length;have hn:=mW
 have fin:EP X Zt σ Q w s:=⟨z,H,I,f7,q⟩
 exact subscriptTail_builtinR (x:=w) pl.typeIs slot_tuple_getitem.lookup
  (getItem_tuple (j:=j) (Q:=fun r s'=>r=w/\EP X Zt σ Q r s') pl Zz Zz (by rw[List.size_toArray,<-hl];exact h1) (by simpa using ew) ⟨rfl,fin⟩) hs
theorem uY(Zr:List Value)(n j:Nat)(u:Value):Obj.mapSeq (·.setIfInBounds j u) {cls:=.type "list",data:=.seq Zr.toArray n}={cls:=.type "list",data:=.seq (Zr.set j u).toArray n}:=by
 simp[Obj.mapSeq]
theorem Inv.lst{Zt:List (Addr×Obj)}{σ:St}{H:Hp}{s:Shared}{p:Addr}{xs:List V}(I:Inv X Zt σ H s)(h:H p=some (.lst xs)):
  ∃(Zr:List Value) (n:Nat),Vals xs Zr/\s.heap.get? p=some {cls:=.type "list",data:=.seq Zr.toArray n}/\xs.length<=sizeLine:=by
 obtain⟨z,Zr,n,r,e⟩:=I.hok p _ h;exact⟨Zr,n,r,e,z⟩
theorem Inv.lstUpd{Zt:List (Addr×Obj)}{σ:St}{H:Hp}{s:Shared}{p:Addr}{xs ys:List V}{Zr its':List Value}{n n':Nat}{f:Obj->Obj}(I:Inv X Zt σ H s)(h:H p=some (.lst xs))
  (ho:s.heap.get? p=some {cls:=.type "list",data:=.seq Zr.toArray n}) (hf:f {cls:=.type "list",data:=.seq Zr.toArray n}={cls:=.type "list",data:=.seq its'.toArray n'}) (r:Vals ys its') (hz:ys.length<=sizeLine) (t:Nat):
  Inv X Zt σ (upd H p (.lst ys)) {s with heap:=s.heap.update p f,toks:=t}:=by
 have e:(s.heap.update p f).get? p=some {cls:=.type "list",data:=.seq its'.toArray n'}:=by
  rw[Heap.get?_update_self f ho (by rw[hf]<;>rfl),hf]
 refine I.write (x:=p) (e:=p) (by rw[h];trivial) (.inl rfl) (fun b u hb q=>(Heap.get?_update_other _ _ (Ne.symm hb)).trans q) ⟨_,e⟩ ?_;exact⟨hz,its',n',r,e⟩
inductive RSetLI(o:V)(i:V)(v:V)(H:Hp)(Q:Hp->Prop):Prop
 |mk:∀p xs k j,(o=.ref p)->(i=.int k)->(H p=some (.lst xs))->(ixN xs.length k=some j)->(Q (upd H p (.lst (xs.set j v))))->RSetLI  o i v H Q
def J2:V->V->V->Hp->(Hp->Prop)->Prop:=fun o i v H Q=>RSetLI  o i v H Q
theorem set_list:DQ X J2:=by
 intro Zt s σ H o i v ov iv u Q I ro ri rv h;obtain⟨p,xs,k,j,rfl,rfl,hp,hj,q⟩:=h;cases ro;obtain⟨t,rfl⟩:=ri;obtain⟨Zr,n,r,ho,hz⟩:=I.lst hp;obtain⟨h1,h2,h3,h4⟩:=vZ hj;have hl:=r.length;have hn:=mW
 have I':Inv X Zt σ (upd H p (.lst (xs.set j v))) {s with heap:=s.heap.update p (Obj.mapSeq (·.setIfInBounds j u))}:=
  I.lstUpd hp ho (uY Zr n j u) (r.set rv j) (by rw[List.length_set];exact hz) s.toks
 by_cases h0:0<=k
 .have hk:k.toNat=j:=by
   rw[seqIndex_of h0 h4]at h1;exact zAl h1
  exact PySem.W.ki_setAt ho h0 Zz (by rw[zA8,<-hl];exact h4) (by rw[hk];exact⟨_,I',q⟩)
 .have hk:(k+(Zr.toArray.size:Int)).toNat=j:=by
   rw[seqIndex_neg Zz h3]at h1;rw[zA8,<-hl];exact zAl h1
  exact PySem.W.ki_setBack ho Zz (by rw[zA8,<-hl];exact h3) Zz (by rw[hk];exact⟨_,I',q⟩)
theorem qW(lo hi:Option Int)(n:Nat):(sliceBounds lo hi none n).1=((HT.sIx n 0 lo:Nat):Int)/\(sliceBounds lo hi none n).2.1=((HT.sIx n n hi:Nat):Int)/\(sliceBounds lo hi none n).2.2=1:=by
 refine⟨?_,?_,rfl⟩
 .cases lo with
  |none=>simp[sliceBounds,HT.sIx]
  |some i=>
   simp only[sliceBounds,HT.sIx,Option.getD_none,show(1:Int)>0 by decide,if_true];by_cases h:i<0
   .simp only[h,if_true]<;>lia
   .simp only[h,if_false]<;>lia
 .cases hi with
  |none=>simp[sliceBounds,HT.sIx]
  |some i=>
   simp only[sliceBounds,HT.sIx,Option.getD_none,show(1:Int)>0 by decide,if_true];by_cases h:i<0
   .simp only[h,if_true]<;>lia
   .simp only[h,if_false]<;>lia
theorem oO(Zr:List Value)(lo hi:Option Int):slicePick Zr.toArray lo hi none=((Zr.drop (HT.sIx Zr.length 0 lo)).take (HT.sIx Zr.length Zr.length hi-HT.sIx Zr.length 0 lo)).toArray:=by
 obtain⟨h1,h2,h3⟩:=qW lo hi Zr.toArray.size;unfold slicePick;rw[h1,h2,h3];simp only[sliceRange_one,pick_run,List.size_toArray]<;>rfl
inductive RSlLI(K:Frag)(x:V)(lo:Option Int)(hi:Option Int)(H:Hp)(Q:VK):Prop
 |mk:∀a xs,(x=.ref a)->(SqL K H a xs)->(∀p,H p=none->Q (.ref p) (upd H p (.lst (lO xs lo hi))))->RSlLI K x lo hi H Q
def Kc(K:Frag):V->Option Int->Option Int->Hp->VK->Prop:=fun x lo hi H Q=>RSlLI K x lo hi H Q
theorem wg:SlR X (Kc X.K):=by
 intro Zt s σ H x v vl vu lo hi sl Q I rx hs pl pu h;obtain⟨a,xs,rfl,hx,q⟩:=h;cases rx;obtain⟨Zr,r,ht,hz⟩:=I.list hx;have hlen:=r.length;refine⟨"list",_,slot_list_getitem.lookup,ht.isList.typeIs,?_⟩;refine wpAny_getItem_list_slice ht.isList hs pl pu .none Zy ?_ (by rw[List.size_toArray]<;>lia);rw[oO,<-hlen];refine⟨.ref s.heap.objs.size,_,I.laid (t':=s.toks) (o:=.lst (lO xs lo hi)) (fun b ob q=>Heap.get?_push_of_some _ q) (zA3 _) ?_,rfl,q _ (I.hok.fresh (zA3 _))⟩;exact⟨Nat.le_trans (lD xs lo hi) hz,_,0,(r.drop (HT.sIx xs.length 0 lo)).take (HT.sIx xs.length xs.length hi-HT.sIx xs.length 0 lo),Heap.get?_push_size _ rfl⟩
theorem bZ:dU X (.builtin "len") (fun xs H Q=>∃p ys,xs=[.ref p]/\(SqL X.K H p ys\/SqT X.K H p ys)/\Q (.int ys.length) H):=by
 intro Zt s σ H xs us Q I r h;obtain⟨p,ys,rfl,hq,q⟩:=h;obtain⟨u,rfl,rx⟩:=vals1 r;cases rx;have hn:=mW;rcases hq with hq|hq
 .obtain⟨Zr,r',pl,hz⟩:=I.list hq;have hlen:=r'.length;exact Calls.call_len_list pl.isList (by simp only[List.size_toArray]<;>lia) ⟨.int ys.length,H,I.tok _,⟨s.toks+1,by rw[List.size_toArray,hlen]⟩,q⟩
 .obtain⟨Zr,r',pl,hz⟩:=I.tuple hq;have hlen:=r'.length;exact len_tuple pl (by simp only[List.size_toArray]<;>lia) ⟨.int ys.length,H,I.tok _,⟨s.toks+1,by rw[List.size_toArray,hlen]⟩,q⟩
theorem jB:dU X (.type "list") (fun xs H Q=>∃p ys,xs=[.ref p]/\(SqL X.K H p ys\/SqT X.K H p ys)/\∀l,H l=none->Q (.ref l) (upd H l (.lst ys))):=by
 intro Zt s σ H xs us Q I r h;obtain⟨p,ys,rfl,hq,q⟩:=h;obtain⟨u,rfl,rx⟩:=vals1 r;cases rx
 have fin:∀(Zr:List Value),Vals ys Zr->ys.length<=sizeLine->∀(h':Heap) (c':Nat),(∀b o',s.heap.get? b=some o'->h'.get? b=some o')->
   h'.get? s.heap.objs.size=some {cls:=.type "list",dict:=none,data:=.seq Zr.toArray c',slots:=#[]}->EP X Zt σ Q (.ref s.heap.objs.size) {s with heap:=h'}:=fun Zr r' hz h' c' kp e=>
  ⟨.ref s.heap.objs.size,_,I.laid (t':=s.toks) kp (zA3 _) (show ObjOk X.prog X.w _ h' _ (.lst ys)from⟨hz,Zr,c',r',e⟩),rfl,q _ (I.hok.fresh (zA3 _))⟩
 rcases hq with hq|hq
 .obtain⟨Zr,r',pl,hz⟩:=I.list hq;have hlen:=r'.length;obtain⟨o,ho,hc,n,hd⟩:=pl.isList;exact call_list_seq p (.inl rfl) ho hc hd (fun h' c' kp e=>fin Zr r' hz h' c' kp e) (by simp only[List.size_toArray]<;>lia)
 .obtain⟨Zr,r',pl,hz⟩:=I.tuple hq;have hlen:=r'.length;obtain⟨o,ho,hc,n,hd⟩:=pl;exact call_list_seq p (.inr rfl) ho hc hd (fun h' c' kp e=>fin Zr r' hz h' c' kp e) (by simp only[List.size_toArray]<;>lia)
theorem cj:dU X (.type "tuple") (fun xs H Q=>∃p ys,xs=[.ref p]/\((SqL X.K H p ys/\∀l,H l=none->Q (.ref l) (upd H l (.tup ys)))\/(SqT X.K H p ys/\Q (.ref p) H))):=by
 intro Zt s σ H xs us Q I r h;obtain⟨p,ys,rfl,h⟩:=h;obtain⟨u,rfl,rx⟩:=vals1 r;cases rx;rcases h with⟨hq,q⟩|⟨hq,q⟩
 .obtain⟨Zr,r',pl,hz⟩:=I.list hq;have hlen:=r'.length;refine call_tuple_list pl.isList (fun h' kp=>?_) (by simp only[List.size_toArray]<;>lia);have I1:Inv X Zt σ H {s with heap:=h'}:=I.kept (t':=s.toks) kp
  have I2:Inv X Zt σ (upd H h'.objs.size (.tup ys)) {s with heap:=h'.push {cls:=.type "tuple",data:=.seq Zr.toArray}}:=
   I1.laid (t':=s.toks) (fun b o e=>zAw _ e) (zA3 _) (show ObjOk X.prog X.w _ _ _ (.tup ys)from⟨hz,Zr,r',IsTup.new _ _⟩)
  exact⟨.ref h'.objs.size,_,I2,rfl,q _ (I1.hok.fresh (zA3 _))⟩
 .obtain⟨Zr,r',pl,hz⟩:=I.tuple hq;exact call_tuple_same pl ⟨.ref p,H,I,rfl,q⟩
def tyV(K:Frag)(T:String)(x:V)(H:Hp):Prop:=match x with
 |.str _=>T="str"
 |.int _=>T="int"
 |.ref p=>(T="list"/\∃xs,SqL K H p xs)\/(T="tuple"/\∃o,K.lookup p=some o/\o.cls=.type "tuple"/\o.dict=none) \/
   (T="dict"/\((∃Zs,H p=some (.dK Zs))\/∃Zs,H p=some (.dT Zs)))\/(T="set"/\∃S n,H p=some (.set S n))
 |_=>False
theorem Aj{Zt:List (Addr×Obj)}{σ:St}{H:Hp}{s:Shared}{T:String}{x:V}{v:Value}(I:Inv X Zt σ H s)(r:RelV x v)(ty:tyV X.K T x H):
  s.TypeIs v T/\∀a,v=.ref a->∃ob,s.heap.get? a=some ob/\ob.dict=none:=by
 cases x with
 |str z=>
  obtain⟨t,rfl⟩:=r;cases(show T="str" from ty);exact⟨typeIs_str s z t,fun _ e=>nomatch e⟩
 |int i=>
  obtain⟨t,rfl⟩:=r;cases(show T="int" from ty);exact⟨typeIs_int s i t,fun _ e=>nomatch e⟩
 |ref p=>
  cases r;rcases ty with⟨rfl,xs,hq⟩|⟨rfl,o,hk,hc,hd⟩|⟨rfl,hk⟩|⟨rfl,S,n,hk⟩
  .obtain⟨Zr,_,pl,_⟩:=I.list hq;refine⟨pl.isList.typeIs,fun a e=>?_⟩;cases e;obtain⟨o,n,e,c,hd,_⟩:=pl;exact⟨o,e,hd⟩
  .refine⟨⟨o,I.kIn p o hk,hc⟩,fun a e=>?_⟩;cases e;exact⟨o,I.kIn _ o hk,hd⟩
  .have z:∃o,s.heap.get? p=some o/\o.ExactDict:=by
    rcases hk with⟨Zs,hk⟩|⟨Zs,hk⟩
    .obtain⟨_,_,_,_,o,_,_,e,ex,_⟩:=I.hok p _ hk;exact⟨o,e,ex⟩
    .obtain⟨_,_,_,_,o,_,_,e,ex,_⟩:=I.hok p _ hk;exact⟨o,e,ex⟩
   obtain⟨o,e,ex⟩:=z;refine⟨⟨o,e,ex.1⟩,fun a e2=>?_⟩;cases e2;exact⟨o,e,ex.2.1⟩
  .obtain⟨o,_,_,_,e,ex,_⟩:=I.hok p _ hk;refine⟨⟨o,e,ex.1⟩,fun a e2=>?_⟩;cases e2;exact⟨o,e,ex.2.1⟩
 |_=>exact False.elim ty
def Kd(K:Frag)(T:String)(r:V->List V->Hp->VK->Prop)(to:TE):TE:=fun σ H Q=>to σ H fun x H1=>tyV K T x H1/\r x [] H1 Q
def tBM(K:Frag)(T:String)(r:V->List V->Hp->VK->Prop)(to:TE)(t:TA):TE:=fun σ H Q=>to σ H fun x H1=>tyV K T x H1/\t σ H1 fun xs H2=>r x xs H2 Q
variable{o e:Expr}{es:List Expr}{to:TE}{t:TA}{name:Str}{apos fw:Pos}{T id:String}{r:V->List V->Hp->VK->Prop}
theorem Ak(pa:PlainAttrs T)(slot:Slot T name id)(F6:typeOf (.builtin id)=pure (.type "method_descriptor"))(hm:MtR X id r)(ho:PE X o to)
  (kM:attributeBase o name X.env (eval o X.env)=eval o X.env:=by rfl) (kN:(apos.endLine==fw.line)=true:=by rfl):PE X (.Call (.Attribute o name apos) [] [] fw) (Kd X.K T r to):=by
 intro Zt s σ H Q I h;refine wpAny_Call_method0_late kM kN (thn (ho Zt s σ H _ I h) fun v s1 ⟨x,H1,I1,r1,ty,q1⟩=>?_);obtain⟨h1,h2⟩:=Aj I1 r1 ty;exact⟨T,id,pa,slot,F6,h1,h2,Calls.callWith_builtin rfl (PySem.evalArgs_none (hm Zt s1 σ H1 x [] v [] Q I1 r1 .nil q1))⟩
theorem lE(pa:PlainAttrs T)(slot:Slot T name id)(F6:typeOf (.builtin id)=pure (.type "method_descriptor"))(hm:MtR X id r)(ho:PE X o to)(ha:PA X (e::es) t)
  (kM:attributeBase o name X.env (eval o X.env)=eval o X.env:=by rfl)
  (F7:((backTo fw (starEach (e::es) X.env)).all (fun x=>!x.1)&&(backToKw fw (keywordEach [] X.env)).all (fun x=>x.1.isSome)
   && decide ((e::es).length+([]:List Keyword).length+(if([]:List Keyword).isEmpty then 0 else 1)<30))=true:=by rfl)
  (kN:(apos.endLine==fw.line)=true:=by rfl) (hs:starEach (e::es) X.env=(false,eval e X.env)::starEach es X.env:=by rfl) (tw:(backTo fw (starEach es X.env)).any (·.1)=false:=by rfl):
  PE X (.Call (.Attribute o name apos) (e::es) [] fw) (tBM X.K T r to t):=by
 intro Zt s σ H Q I h;refine wpAny_Call_method_late kM F7 kN rfl (thn (ho Zt s σ H _ I h) fun v s1 ⟨x,H1,I1,r1,ty,q1⟩=>?_);obtain⟨h1,h2⟩:=Aj I1 r1 ty;refine⟨T,id,pa,slot,F6,h1,h2,?_⟩;have hA:=ha fw Zt s1 σ H1 _ I1 q1;rw[hs]at hA⊢;refine Calls.callWith_builtin (by show(false||(backTo fw (starEach es X.env)).any (·.1))=false;rw[tw]<;>rfl) (Calls.evalArgs_plain ?_);exact thn hA fun us s2 ⟨vs,H2,I2,r2,q2⟩=>hm Zt s2 σ H2 x vs v us Q I2 r1 r2 q2
end
def MtM(X:Cx)(id:String)(r:V->List V->Hp->VK->Prop):Prop:=
 ∀(Zt:List (Addr×Obj)) (s:Shared) (σ:St) (H:Hp) (x:V) (xs:List V) (v:Value) (us:List Value) (Q:VK),Inv X Zt σ H s->RelV x v->Vals xs us->r x xs H Q->
  wpAny (model X.prog X.w) X.A (call (.builtin id) (v::us)) (EP X Zt σ Q) X.xe s
theorem Vals.one:∀{x:V} {us:List Value},Vals [x] us->∃u,us=[u]/\RelV x u
 |_,_,.cons r .nil=>⟨_,rfl,r⟩
theorem Vals.zero:∀{us:List Value},Vals [] us->us=[]
 |_,.nil=>rfl
theorem Vals.dropLast{xs:List V}{us:List Value}(h:Vals xs us):Vals xs.dropLast us.dropLast:=by
 induction h with
 |nil=>exact .nil
 |cons r t ih=>
  cases t with
  |nil=>exact .nil
  |cons q t'=>exact .cons r ih
theorem Vals.reverse{xs:List V}{us:List Value}(h:Vals xs us):Vals xs.reverse us.reverse:=by
 induction h with
 |nil=>exact .nil
 |cons r t ih=>rw[List.reverse_cons,List.reverse_cons];exact Vals.append ih (.cons r .nil)
theorem Vals.rep{xs:List V}{us:List Value}(h:Vals xs us):∀k:Nat,Vals (List.replicate k xs).flatten (List.replicate k us).flatten
 |0=>.nil
 |k+1=>by
  rw[List.replicate_succ,List.replicate_succ,List.flatten_cons,List.flatten_cons];exact Vals.append h (Vals.rep h k)
theorem uZ{α:Type}(l:List α):l.eraseIdx (l.length-1)=l.dropLast:=by
 induction l with
 |nil=>rfl
 |cons a r ih=>
  cases r with
  |nil=>rfl
  |cons b r=>
   have e:(a::b::r).length-1=((b::r).length-1)+1:=by
    have h1:(a::b::r).length=r.length+2:=rfl;have h2:(b::r).length=r.length+1:=rfl;lia
   rw[e,List.eraseIdx_cons_succ,ih]
   all_goals rfl
theorem foldl_rep(Zr:List Value):∀(k:Nat) (acc:List Value),
  List.foldl (fun x1 x2=>x1++x2) acc.toArray (List.replicate k Zr.toArray)=(acc++(List.replicate k Zr).flatten).toArray
 |0,acc=>by simp
 |k+1,acc=>by
  have e:acc.toArray++Zr.toArray=(acc++Zr).toArray:=by simp
  have e2:(acc++Zr)++(List.replicate k Zr).flatten=acc++(List.replicate (k+1) Zr).flatten:=by
   rw[List.replicate_succ,List.flatten_cons,zAf]
  rw[<-e2,<-foldl_rep Zr k (acc++Zr),<-e,List.replicate_succ,List.foldl_cons]
section
variable{X:Cx}{Zt:List (Addr×Obj)}{σ:St}{H:Hp}{s:Shared}{l b:Addr}{xs ys zs:List V}
theorem Inv.lset{Zr its':List Value}{n:Nat}{f:Array Value->Array Value}{t':Nat}(I:Inv X Zt σ H s)(hH:H l=some (.lst xs))
  (e:s.heap.get? l=some {cls:=.type "list",data:=.seq Zr.toArray n}) (hf:f Zr.toArray=its'.toArray) (hv:Vals ys its') (hz:ys.length<=sizeLine):
  Inv X Zt σ (upd H l (.lst ys)) {s with heap:=s.heap.update l (Obj.mapSeq f),toks:=t'}:=by
 have q:=PySem.IsL.update e f;rw[hf]at q;refine I.write (x:=l) (e:=l) (by rw[hH];exact trivial) (.inl rfl) (fun b' u hb hu=>(Heap.get?_update_other s.heap (Obj.mapSeq f) (Ne.symm hb)).trans hu) ⟨_,q⟩ ?_;exact⟨hz,its',_,hv,q⟩
theorem Inv.lnew{Zr:List Value}{t':Nat}(I:Inv X Zt σ H s)(hv:Vals ys Zr)(hz:ys.length<=sizeLine):
  Inv X Zt σ (upd H s.heap.objs.size (.lst ys)) {s with heap:=s.heap.push {cls:=.type "list",data:=.seq Zr.toArray},toks:=t'}:=
 I.laid (fun _ _ q=>zAw _ q) (zA3 _) ⟨hz,Zr,0,hv,zB2 _ rfl⟩
theorem Inv.fresh(I:Inv X Zt σ H s):H s.heap.objs.size=none:=I.hok.fresh (zA3 _)
theorem Inv.lstM(I:Inv X Zt σ H s)(hH:H l=some (.lst xs)):xs.length<=sizeLine/\∃(Zr:List Value) (n:Nat),Vals xs Zr/\xs.length=Zr.length/\s.heap.get? l=some {cls:=.type "list",data:=.seq Zr.toArray n}:=by
 obtain⟨z,Zr,n,r,e⟩:=I.hok l _ hH;exact⟨z,Zr,n,r,r.length,e⟩
theorem jC{n:Nat}(h:n<=sizeLine):Builtin.List.listTooLong n=false:=by
 unfold Builtin.List.listTooLong;exact zB0 Zz
end
section
variable{X:Cx}
inductive RAppendI(x:V)(vs:List V)(H:Hp)(Q:VK):Prop
 |mk:∀l xs y,(x=.ref l)->(vs=[y])->(H l=some (.lst xs))->(xs.length<sizeLine)->(Q .non (upd H l (.lst (xs++[y]))))->RAppendI  x vs H Q
def Ed:V->List V->Hp->VK->Prop:=fun x vs H Q=>RAppendI  x vs H Q
theorem eQ:MtM X "list.append" Ed:=by
 intro Zt s σ H x vs v us Q I rx rv h;obtain⟨l,xs,y,rfl,rfl,hH,hz,q⟩:=h;cases rx;obtain⟨u,rfl,ru⟩:=rv.one;obtain⟨z,Zr,n,r,hl,e⟩:=I.lstM hH;refine call_meets F.slot_list_append ⟨_,e,rfl⟩ F.entry_list_append (F.args_list_append_2 _ _) (PySem.list_append l Zr.toArray n u (by rw[zA8];lia)) ⟨e,?_⟩;refine⟨.non,_,I.lset (its':=Zr++[u]) hH e Zy (r.append (.cons ru .nil)) ?_,rfl,q⟩;rw[zA2,List.length_singleton];lia
inductive RExtendI(x:V)(vs:List V)(H:Hp)(Q:VK):Prop
 |mk:∀l b xs zs,(x=.ref l)->(vs=[.ref b])->(H l=some (.lst xs))->(H b=some (.lst zs))->(xs.length+zs.length<=sizeLine)->(Q .non (upd H l (.lst (xs++zs))))->RExtendI  x vs H Q
def Ef:V->List V->Hp->VK->Prop:=fun x vs H Q=>RExtendI  x vs H Q
theorem Ii:MtM X "list.extend" Ef:=by
 intro Zt s σ H x vs v us Q I rx rv h;obtain⟨l,b,xs,zs,rfl,rfl,hH,hB,hz,q⟩:=h;cases rx;obtain⟨u,rfl,ru⟩:=rv.one;cases ru;obtain⟨z,Zr,n,r,hl,e⟩:=I.lstM hH;obtain⟨z2,bE,n2,r2,eW,e2⟩:=I.lstM hB;have hsz:Zr.toArray.size+bE.toArray.size<=sizeLine:=by rw[zA8,zA8];lia
 have fe:¬(!Zr.toArray.isEmpty&&Builtin.List.listTooLong (Zr.toArray.size+bE.toArray.size))=true:=by
  rw[jC hsz,Bool.and_false];exact zAg
 refine call_meets F.slot_list_extend ⟨_,e,rfl⟩ F.entry_list_extend (F.args_list_extend_2 _ _)
  (AutoSeq1.list_extend_list_list_0 l Zr.toArray n b bE.toArray n2 fe (by rw[zA8];lia) Zz) ⟨e,e2,?_⟩
 refine⟨.non,_,I.lset (its':=Zr++bE) hH e Zy (r.append r2) ?_,rfl,q⟩;rw[zA2];lia
inductive RPopI(x:V)(vs:List V)(H:Hp)(Q:VK):Prop
 |mk:∀l xs y,(x=.ref l)->(vs=[])->(H l=some (.lst xs))->(xs[xs.length-1]?=some y)->(Q y (upd H l (.lst xs.dropLast)))->RPopI  x vs H Q
def Ke:V->List V->Hp->VK->Prop:=fun x vs H Q=>RPopI  x vs H Q
theorem GP:MtM X "list.pop" Ke:=by
 intro Zt s σ H x vs v us Q I rx rv h;obtain⟨l,xs,y,rfl,rfl,hH,hy,q⟩:=h;cases rx;have F8:=rv.zero;subst F8;obtain⟨z,Zr,n,r,hl,e⟩:=I.lstM hH;obtain⟨u,hu,ru⟩:=r.get hy
 have mM:Zr.toArray[Zr.toArray.size-1]?=some u:=by
  show Zr.toArray[Zr.length-1]?=some u;rw[<-Array.getElem?_toList,<-hl];exact hu
 refine call_meets F.slot_list_pop ⟨_,e,rfl⟩ F.entry_list_pop (F.args_list_pop_1 _) (MeetsSeq.list_pop_last l Zr.toArray n u mM (by rw[zA8];lia)) ⟨e,?_⟩;refine⟨y,_,I.lset (its':=Zr.dropLast) hH e ?_ r.dropLast ?_,ru,q⟩
 .show Zr.toArray.eraseIdxIfInBounds (Zr.toArray.size-1)=Zr.dropLast.toArray;rw[zA8,List.eraseIdxIfInBounds_toArray,uZ]
 .rw[List.length_dropLast];lia
inductive RReverseI(x:V)(vs:List V)(H:Hp)(Q:VK):Prop
 |mk:∀l xs,(x=.ref l)->(vs=[])->(H l=some (.lst xs))->(Q .non (upd H l (.lst xs.reverse)))->RReverseI  x vs H Q
def Al:V->List V->Hp->VK->Prop:=fun x vs H Q=>RReverseI  x vs H Q
theorem v7:MtM X "list.reverse" Al:=by
 intro Zt s σ H x vs v us Q I rx rv h;obtain⟨l,xs,rfl,rfl,hH,q⟩:=h;cases rx;have F8:=rv.zero;subst F8;obtain⟨z,Zr,n,r,hl,e⟩:=I.lstM hH;refine call_meets F.slot_list_reverse ⟨_,e,rfl⟩ F.entry_list_reverse (F.args_list_reverse_1 _) (AutoSeq1.list_reverse_list_0 l Zr.toArray n (by rw[zA8];lia)) ⟨e,?_⟩;refine⟨.non,_,I.lset (its':=Zr.reverse) hH e Zy r.reverse ?_,rfl,q⟩;rw[List.length_reverse];lia
inductive RCatI(x:V)(y:V)(H:Hp)(Q:VK):Prop
 |mk:∀l b xs zs,(x=.ref l)->(y=.ref b)->(H l=some (.lst xs))->(H b=some (.lst zs))->(xs.length+zs.length<=sizeLine)->(∀p,H p=none->Q (.ref p) (upd H p (.lst (xs++zs))))->RCatI  x y H Q
def Kf:R2:=fun x y H Q=>RCatI  x y H Q
theorem v8:OpR X (binaryOp .Add) Kf:=by
 intro Zt s σ H x y v u Q I rx ry h;obtain⟨l,b,xs,zs,rfl,rfl,hH,hB,hz,q⟩:=h;cases rx;cases ry;obtain⟨z,Zr,n,r,hl,e⟩:=I.lstM hH;obtain⟨z2,bE,n2,r2,eW,e2⟩:=I.lstM hB;refine PySem.P.add_list e e2 ?_ (by rw[zA8,zA8];lia);have ea:Zr.toArray++bE.toArray=(Zr++bE).toArray:=by simp
 rw[ea];exact⟨.ref _,_,I.lnew (t':=s.toks) (r.append r2) (by rw[zA2];lia),rfl,q _ I.fresh⟩
inductive RRepI(x:V)(y:V)(H:Hp)(Q:VK):Prop
 |mk:∀l k xs,(x=.ref l)->(y=.int k)->(H l=some (.lst xs))->(-(2^63)<=k)->(k<2^63)->(xs.length*k.toNat<=sizeLine)->(∀p,H p=none->Q (.ref p) (upd H p (.lst (List.replicate k.toNat xs).flatten)))->RRepI  x y H Q
def Kg:R2:=fun x y H Q=>RRepI  x y H Q
theorem len_rep{α:Type}(xs:List α)(k:Nat):(List.replicate k xs).flatten.length=k*xs.length:=by
 induction k with
 |zero=>simp
 |succ k ih=>rw[List.replicate_succ,List.flatten_cons,zA2,ih,Nat.succ_mul,Nat.add_comm]
theorem GQ:OpR X (binaryOp .Mult) Kg:=by
 intro Zt s σ H x y v u Q I rx ry h;obtain⟨l,k,xs,rfl,rfl,hH,h1,h2,hz,q⟩:=h;cases rx;obtain⟨t,rfl⟩:=ry;obtain⟨z,Zr,n,r,hl,e⟩:=I.lstM hH;have hlen:Zr.toArray.size*k.toNat<=sizeLine:=by rw[zA8,<-hl];exact hz
 have tF:¬Zr.toArray.size*k.toNat>(2^63-1) / 8:=by
  have:(sizeLine:Nat)<=(2^63-1) / 8:=by decide
  lia
 have tI:¬(!Builtin.List.listFitsIndex k)=true:=by
  rw[fitsIndex_both h1 h2];exact zAg
 have fe:¬Builtin.List.listTooLong (Zr.toArray.size*k.toNat)=true:=by
  rw[jC hlen];exact zAg
 have tJ:List.foldl (fun x1 x2=>x1++x2) #[] (List.replicate (if Zr.toArray.isEmpty=true then 0 else k.toNat) Zr.toArray)=(List.replicate k.toNat Zr).flatten.toArray:=by
  have f0:∀m:Nat,List.foldl (fun x1 x2=>x1++x2) #[] (List.replicate m Zr.toArray)=(List.replicate m Zr).flatten.toArray:=fun m=>by
   have:=foldl_rep Zr m [];rw[List.nil_append]at this;exact this
  rw[f0]
  cases Zr with
  |nil=>simp
  |cons a r'=>rw[if_neg Zy]
 refine wpAny_binaryOp_repeat_ref (T:="list") (U:="int") Zx ⟨_,e,rfl⟩ (fun s'=>typeIs_int s' k t) noFill_list_mul F.fills_int_mul F.slot_int_rmul repeat_list F.slot_int_index.lookup
  (call_meets F.slot_int_rmul (typeIs_int s k t) F.entry_int_rmul (F.args_int_rmul_2 _ _) (int___rmul___int_list k t l Zr.toArray n)
   ⟨e,rfl,⟨_,e,rfl⟩,call_meets F.slot_list_mul ⟨_,e,rfl⟩ F.entry_list_mul (F.args_list_mul_2 _ _) (AutoListH.list___mul___list_int_3 l Zr.toArray n k t tI tF fe) ⟨e,?_⟩⟩)
 rw[tJ];exact⟨.ref _,_,I.lnew (t':=s.toks) (r.rep k.toNat) (by rw[len_rep,Nat.mul_comm];exact hz),rfl,q _ I.fresh⟩
end
section
variable{prog:Program}{w:World}{A:Around}{E:Value->Shared->Prop}{s:Shared}
set_option maxRecDepth 100000 in
end
section
variable{X:Cx}
end
end L2
namespace Att
open PySem PySem.W PySem.Calls PyProof.Rows
theorem lQ{P:Params}{h:Heap}:∀(ns:List Int) (vs:List Value),WellAll P h vs (ns.map WData.int)->IntsAre vs ns:=by
 intro ns
 induction ns with
 |nil=>
  intro vs w;rw[List.map_nil]at w;cases w;exact .nil
 |cons n ns ih=>
  intro vs w;rw[zAk]at w
  cases w with
  |cons a b=>
   cases a;exact .cons _ _ (ih _ b)
theorem yC{l:OpenLaw}{n:Nat}(hn:l.most=some n){P:Params}{h:Heap}{args:List WData}{vals:List Value}
  (nB:l.row.toRowW.claim.pre args=true) (GA:WellAll P h vals args):
  ∃a vs ns,vals=[Value.ref a]/\args=[WData.list (ns.map WData.int)]/\h.get? a=some {cls:=.type "list",data:=.seq vs.toArray}/\IntsAre vs ns/\ns.length<=n:=by
 have PJ:WShape.hasAll [] args [.list .int]=true:=(pre_splitW nB).1;have hc:l.pre.holds [] {args:=args}=true:=(pre_splitW nB).2;obtain⟨d,r,rfl,h1,h2⟩:=hasAllW_cons PJ;obtain rfl:=hasAllW_nil h2;obtain⟨xs,rfl,h3⟩:=hasW_list h1;obtain⟨ns,rfl⟩:=items_int h3
 have hlen:ns.length<=n:=by
  unfold OpenLaw.pre at hc
  have h4:(WTm.not (.lt (.lit (.int (n:Int))) (.len (.arg 0)))).holds [] {args:=[.list (ns.map .int)]}=true:=by
   have h4:=(holds_andW hc).1;rw[hn]at h4;exact h4
  have h5:=condW_of h4 (w_not (w_lt w_lit (w_len_list (w_arg rfl))));rw[zA1]at h5;refine Nat.le_of_not_lt fun q=>?_;have q':(n:Int)<((ns.length:Nat):Int):=Zz
  first
   | (rw[zAt q']at h5;exact absurd h5 Zx)
   | (simp at h5;lia)
 cases GA with
 |cons w1 w2=>
  cases w2
  cases w1 with
  |list ho gE=>exact⟨_,_,ns,rfl,rfl,ho,lQ ns _ gE,hlen⟩
theorem yD(l:OpenLaw)(args:List WData):l.row.toRowW.claim.post args (.bool true) args=true:=
 postW_of (r:=l.row.toRowW) (X:=(true==true))
  (show WShape.has [] (.bool true) .bool=true by first|rfl|decide|simp[WShape.has,WShape.arms,WShape.armsAll])
  (show(WTm.eq .res (.lit (.bool true))).value [] {args:=args,res:=some (.bool true),after:=args}=some (.bool (true==true))from w_eq_bool (w_res rfl) w_lit) rfl
theorem attach_call{l:OpenLaw}{n:Nat}{q:Program}{loose:List Str}{XP:(Str->Option Value)->Heap->Prop}{YP:World->Heap->Prop}{d:DefRec}
  (hn:l.most=some n) (AV:d.params.defaults=[])
  (call:∀(w:World) (s₀ s₁:Shared) (mg mb:Str->Option Value) (fa:Addr) (o:Obj) (pm cd doc:Value) (a:Addr) (vs:List Value) (ns:List Int),
   Ground q loose [] XP w s₀ mg mb s₁.heap->YP w s₁.heap->
   s₁.heap.get? fa=some o->o.data=.func (docDef d.name d.params d.body d.scope pm cd doc)->s₁.heap.CodeRec cd d.name->mg d.name=some (.ref fa)->
   s₁.heap.get? a=some {cls:=.type "list",data:=.seq vs.toArray}->IntsAre vs ns->ns.length<=n->s₁.gens=#[]->
   codeAny (model l.prog w) callerA (.call (.ref fa) ⟨[.ref a],[]⟩) (fun r s'=>r=.ok (.ret (.bool true))/\OldK s₁.heap s'.heap/\s'.os=s₁.os/\AllBare s'.gens) s₁):
  WalkO q loose XP YP l.row.toRowW d [] (fun f vs=>PySem.call f vs):=by
 intro w s₀ s₁ mg mb G Y fa o pm cd doc dV kV ho hd kC hD hmg hg args vals as nB PL D9 GA fz;obtain rfl:dV=.none:=Dflts.none hD AV;obtain rfl:kV=.none:=Dflts.noKw hD;obtain⟨a,vs,ns,rfl,rfl,tN,hints,hlen⟩:=yC hn nB GA;refine enter_call (codeAny_mono (call w s₀ s₁ mg mb fa o pm cd doc a vs ns G Y ho (fd_plain hd) kC hmg tN hints hlen hg) fun r s' hq=>?_);obtain⟨rfl,h2,h3,h4⟩:=hq;exact⟨.inl ⟨.bool true,.bool true,[],rfl,fun _=>rfl,.bool true,yD l _,fun _=>⟨List.Pairwise.nil,fun _ hm=>(nomatch hm)⟩⟩,h2,h3,h4⟩
section
variable{prog:Program}{w:World}{A:Around}{E:Value->Shared->Prop}{s:Shared}{K:Frag}
end
end Att
namespace L2
open PySem PySem.Spec PyProof.Rows
theorem pU:∀{vs:List Value} {ns:List Int},IntsAre vs ns->Vals (ns.map V.int) vs
 |_,_,.nil=>.nil
 |_,_,.cons n t h=>.cons ⟨t,rfl⟩ (pU h)
def Only(H:Hp):Prop:=∀b,H b=none\/∃o xs,H b=some (.frz o (.lst xs))
theorem Am{P:Program}{w:World}{K:Frag}{mg mb:Str->Option Value}{CX:CXT}{k:Nat}{fa a:Addr}{fd:FuncData}{x:Str}{sp:Sp}{s₁:Shared}{vs:List Value}{ns:List Int}
  (KX:K.In s₁.heap) (fx:s₁.heap.Ns mainGlobals mg) (hb:s₁.heap.Ns builtinsNs mb) (PM:∀x:Str,x≠"__name__"->mb x=bootBuiltins x) (GB:s₁.heap.NoLimit) (hg:s₁.gens=#[])
  (ha:s₁.heap.get? a=some {cls:=.type "list",data:=.seq vs.toArray}) (hi:IntsAre vs ns) (hl:ns.length<=sizeLine) (hr:Room k callerA)
  (F:∀base:Heap,K.In base->base.Ns mainGlobals mg->FnOk P w K mg base CX k fa fd [x] sp) (AW:∀(s:Shared) (u:Value),BindsTo s fd ⟨[u],[]⟩ [(x,u)])
  (mI:∀H:Hp,Only H->SqL K H a (ns.map V.int)->sp [.ref a] H (fun v _=>v=.bl true) fun _ _ _=>False)
  (GH:∀H e s',CX [] H s₁ (fun _ _ _=>False) e s'->False):
  codeAny (model P w) callerA (.call (.ref fa) ⟨[.ref a],[]⟩) (fun r s'=>r=.ok (.ret (.bool true))/\OldK s₁.heap s'.heap/\s'.os=s₁.os/\AllBare s'.gens) s₁:=by
 have rv:=pU hi;have GI:=hi.length
 have core:∀H:Hp,Only H->SqL K H a (ns.map V.int)->HOk P w H s₁.heap->(∀b,H b≠none->b=a)->(H a≠none->K.lookup a=none)->
   codeAny (model P w) callerA (.call (.ref fa) ⟨[.ref a],[]⟩) (fun r s'=>r=.ok (.ret (.bool true))/\OldK s₁.heap s'.heap/\s'.os=s₁.os/\AllBare s'.gens) s₁:=by
  intro H hO hS hok hA hK;have iA:∀{b:Addr} {o:Obj},s₁.heap.get? b=some o->H b=none->(qO s₁.heap H).get? b=some o:=fun e n=>zW e n
  have AQ:∀{b:Addr} {o:Obj} {es:Array DictEntry} {ep:Nat},s₁.heap.get? b=some o->o.data=.dict es ep->H b=none:=fun{b o es ep} e d=>by
   cases q:H b with
   |none=>rfl
   |some u=>
    have e':b=a:=hA b (by rw[q];simp);subst e';rw[ha]at e;cases e;have d':Data.seq vs.toArray _=Data.dict es ep:=d;cases d'
  have Ee:∀{b:Addr} {m:Str->Option Value},s₁.heap.Ns b m->(qO s₁.heap H).Ns b m:=fun{b m} ⟨o,es,ep,e,d,r⟩=>⟨o,es,ep,iA e (AQ e d),d,r⟩
  have M8:K.In (qO s₁.heap H):=fun b o e=>iA (KX b o e) (by
   cases q:H b with
   |none=>rfl
   |some u=>
    have e':b=a:=hA b (by rw[q];simp);subst e'
    rw[hK (by rw[q];simp)]at e;cases e)
  have hM:Mod K mg (qO s₁.heap H):=⟨M8,Ee fx,⟨mb,Ee hb,PM⟩,let⟨mc,h1,h2⟩:=GB;⟨mc,Ee h1,h2⟩⟩
  have e0:Env0 P w K mg (qO s₁.heap H) callerA [] s₁ H:=⟨rfl,hM,fun b o e=>DK e,Nat.le_of_eq (yl _ _),trivial,fun b hb=>absurd (show b∈([]:List Addr)from hb) Zy,hok,.of_eq hg⟩
  refine codeAny_mono ((F _ M8 (Ee fx)).run callerA [] s₁ H ⟨[.ref a],[]⟩ [.ref a] [.ref a] _ _ hr e0 (AW s₁ (.ref a)) (.cons rfl .nil) (mI H hO hS)) fun r s' h=>?_
  cases r with
  |error e=>exact(GH H e s' h).elim
  |ok fl=>
   cases fl with
   |next=>exact False.elim h
   |brk=>exact False.elim h
   |cont=>exact False.elim h
   |ret u=>
    obtain⟨v,H',os,bare,un,GL,r',q⟩:=h;have q':v=.bl true:=q;subst q';obtain rfl:u=Value.bool true:=r';refine⟨rfl,OldK.of_keep fun b o e=>?_,os,bare⟩
    cases q:H b with
    |none=>exact un.keep b o e q (by intro z;exact absurd (show b∈([]:List Addr)from z) Zy) Zy
    |some u=>
     rcases hO b with z|⟨ob,xs,z⟩
     .rw[q]at z;cases z
     .have z2:=un.frzs b ob _ z;obtain⟨e1,_⟩:=hok b _ z;obtain⟨e2,_⟩:=GL b _ z2;rw[e]at e1;cases e1;exact e2
 cases hk:K.lookup a with
 |some o=>
  have e:=KX a o hk;rw[ha]at e;cases e;refine core (fun _=>none) (fun _=>.inl rfl) (.inr ⟨_,vs.toArray,_,hk,rfl,rfl,rfl,by rw[List.size_toArray,GI];exact hl,by simpa using rv⟩) (fun b u z=>by have z':(none:Option HO)=some u:=z;cases z') (fun b z=>absurd rfl z) fun z=>absurd rfl z
 |none=>
  refine core (fun b=>if b=a then some (.frz {cls:=.type "list",data:=.seq vs.toArray} (.lst (ns.map V.int)))else none) (fun b=>?_) (.inl (.inr ⟨{cls:=.type "list",data:=.seq vs.toArray},zAy rfl⟩)) (fun b u z=>?_) (fun b z=>?_) fun _=>hk
  .by_cases hb:b=a
   .exact .inr ⟨_,_,zAy hb⟩
   .exact .inl (zAv hb)
  .by_cases hb:b=a
   .have z':=(zAy hb).symm.trans z;cases z';subst hb;exact⟨ha,by rw[zA1];exact hl,vs,_,rv,ha⟩
   .have z':=(zAv hb).symm.trans z;cases z'
  .by_cases hb:b=a
   .exact hb
   .exact absurd (zAv hb) z
theorem walk_of{l:PySem.W.OpenLaw}{n k:Nat}{q:Program}{loose:List Str}{XP:(Str->Option Value)->Heap->Prop}{YP:World->Heap->Prop}{d:DefRec}{K:Params->Frag}{CX:World->CXT}{sp:World->Sp}{x:Str}
  (hn:l.most=some n) (kP:n<=sizeLine) (AV:d.params.defaults=[]) (hr:Room k callerA)
  (hY:∀(w:World) (h:Heap),YP w h->(K w.params).In h)
  (F:∀(w:World) (mg:Str->Option Value) (fa:Addr) (h:Heap),(K w.params).In h->h.Ns mainGlobals mg->mg d.name=some (.ref fa)->
   ∃fd:FuncData,(∀(s:Shared) (u:Value),BindsTo s fd ⟨[u],[]⟩ [(x,u)]) /\
    ∀base:Heap,(K w.params).In base->base.Ns mainGlobals mg->FnOk l.prog w (K w.params) mg base (CX w) k fa fd [x] (sp w))
  (mI:∀(w:World) (H:Hp) (a:Addr) (ns:List Int),ns.length<=n->Only H->SqL (K w.params) H a (ns.map V.int)->sp w [.ref a] H (fun v _=>v=.bl true) fun _ _ _=>False)
  (GH:∀(w:World) (H:Hp) (s:Shared) (e:Value) (s':Shared),CX w [] H s (fun _ _ _=>False) e s'->False):
  PySem.W.WalkO q loose XP YP l.row.toRowW d [] (fun f vs=>PySem.call f vs):=by
 refine Att.attach_call hn AV fun w s₀ s₁ mg mb fa o pm cd doc a vs ns G Y ho hd kC hmg tN hints hlen hg=>?_;have KX:=hY w _ Y;obtain⟨fd,hb,hF⟩:=F w mg fa _ KX G.T.g hmg;exact Am KX G.T.g G.T.b G.T.builtins G.T.nolimit hg tN hints (Nat.le_trans hlen kP) hr hF hb (fun H hO hS=>mI w H a ns hlen hO hS) fun H e s'=>GH w H s₁ e s'
def gb(s:Stmt):Arguments:=match s with
 |.FunctionDef _ a _ _ _ _ _ _ _ _=>a
 |_=>{posonlyargs:=[],args:=[],vararg:=none,kwonlyargs:=[],kw_defaults:=[],kwarg:=none,defaults:=[]}
def fP(s:Stmt):List Stmt:=match s with
 |.FunctionDef _ _ b _ _ _ _ _ _ _=>b
 |_=>[]
def aJ(s:Stmt):Scope:=match s with
 |.FunctionDef _ _ _ _ _ _ sc _ _ _=>sc
 |_=>{kind:=.function,names:=[],isGenerator:=false,isCoroutine:=false}
abbrev CX0:CXT:=fun _ _ _ _ _ _=>False
abbrev E0:XK:=fun _ _ _=>False
theorem J3{X:Cx}:uV CX0 X E0:=fun _ _ _ _ _ _ _ h=>h.elim
structure Fun(K:Frag)(x qual:Str)(st:Stmt)(f:Addr)(fd:FuncData):Prop where
 ex:∃(oc:Value) (od:Option Addr) (kV doc pm:Value) (an:Option Addr) (ai ct:Value) (qo:Array (Option Value)),
  fd=PySem.W.fnOf x qual (gb st) (fP st) (aJ st) .none kV doc pm an ai ct/\K.lookup f=some ⟨oc,od,.func fd,qo⟩/\PySem.W.codeIn K ai qual=true
 kp:PySem.W.keepIn K (.ref f)=true
section
variable{P:Program}{w:World}{K:Frag}{mg:Str->Option Value}{base:Heap}{f:Addr}{fd:FuncData}
theorem Fun.ok{x qual:Str}{st:Stmt}{f:Addr}{fd:FuncData}{N ps:List Str}{k:Nat}{sp:Sp}(F:Fun K x qual st f fd)(S:FnScope N ps (aJ st))(len:∀vs H Q E,sp vs H Q E->vs.length=ps.length)
  (kK:∀(ai:Value) (A:Around) (outer:List Env) (s:Shared) (H:Hp) (vs:List V) (Q:VK) (E:XK),Room k (A.deeper (envOfC qual (aJ st) s.heap.objs.size f ai))->sp vs H Q E->
   ∃t,PSs (yx CX0 P w K mg base N qual (aJ st) f ai A outer s H E).nox (fP st) t/\t {nx:=fun _ H'=>Q .non H',rt:=Q} (start N vs) H):FnOk P w K mg base CX0 (k+1) f fd ps sp:=by
 obtain⟨oc,od,kV,doc,pm,an,ai,ct,qo,rfl,lk,kC⟩:=F.ex;refine IK lk kC S len fun A outer s H vs Q E hr mI=>?_;obtain⟨t,h,q⟩:=kK ai A outer s H vs Q E hr mI;exact⟨t,h.nox,q⟩
theorem Fun.binds{x qual:Str}{st:Stmt}{f:Addr}{fd:FuncData}{ps:List Str}(F:Fun K x qual st f fd)
  (h:∀(kV doc pm:Value) (an:Option Addr) (ai ct:Value) (us:List Value),us.length=ps.length->bindArgs (PySem.W.fnOf x qual (gb st) (fP st) (aJ st) .none kV doc pm an ai ct) ⟨us,[]⟩=pure (ps.zip us)):Binds K fd ps []:=by
 obtain⟨oc,od,kV,doc,pm,an,ai,ct,qo,rfl,lk,kC⟩:=F.ex;exact .all (h kV doc pm an ai ct)
theorem An{x qual:Str}{st:Stmt}{f:Addr}{oc:Value}{od an:Option Addr}{qo:Array (Option Value)}{kV doc pm ai ct:Value}(l:K.lookup f=some ⟨oc,od,.func (PySem.W.fnOf x qual (gb st) (fP st) (aJ st) .none kV doc pm an ai ct),qo⟩)
  (c:PySem.W.codeIn K ai qual=true) (k:PySem.W.keepIn K (.ref f)=true):Fun K x qual st f (PySem.W.fnOf x qual (gb st) (fP st) (aJ st) .none kV doc pm an ai ct):=⟨⟨oc,od,kV,doc,pm,an,ai,ct,qo,rfl,l,c⟩,k⟩
end
theorem fM{A:Around}{k:Nat}(hr:Room k A):A.units+1<cLine:=Nat.lt_of_le_of_lt (Nat.add_le_add_left (by decide:1<=64) _) hr.units
section
variable{X:Cx}
theorem pv(i:Nat){x:Str}{pos:Pos}(hN:X.N[i]?=some x:=by rfl)(hv:Vis X.env.scope x:=by first|exact Or.inl rfl|exact Or.inr (Or.inl rfl)|exact Or.inr (Or.inr rfl))(hd:(x==("__debug__":Str))=false:=by decide)
  (kC:(x==("__classdict__":Str))=false:=by decide):PE X (.Name x pos) (DN i):=Gv hN hv hd kC
end
theorem bA{A B:Prop}(h:B):if false=true then A else B:=by
 rw[zAv zAg];exact h
theorem bK{A B:Prop}(h:A):if true=true then A else B:=by
 rw[zAy rfl];exact h
theorem Eg{c A B:Prop}[Decidable c](h1:c->A)(h2:¬c->B):if c then A else B:=by
 by_cases h:c
 .rw[zAy h];exact h1 h
 .rw[zAv h];exact h2 h
def Same(H H':Hp):Prop:=∀b o,H b=some o->H' b=some o
theorem Same.refl(H:Hp):Same H H:=fun _ _ h=>h
theorem Same.trans{H H1 H2:Hp}(a:Same H H1)(b:Same H1 H2):Same H H2:=fun c o h=>b c o (a c o h)
theorem Same.free{H H':Hp}(e:Same H H'){l:Addr}(h:H' l=Option.none):H l=Option.none:=by
 cases q:H l with
 |none=>rfl
 |some o=>
  rw[e l o q]at h;cases h
theorem Same.seq{K:Frag}{H H':Hp}{a:Addr}{xs:List V}(e:Same H H')(h:SqL K H a xs):SqL K H' a xs:=by
 rcases h with(h|⟨o,h⟩)|h
 .exact .inl (.inl (e _ _ h))
 .exact .inl (.inr ⟨o,e _ _ h⟩)
 .exact .inr h
def gC(cells:List (Str×Addr)):List (Str×NameKind)->List (Str×Addr)->List (Str×Addr)
 |[],acc=>acc
 | (n,k)::r,acc=>gC cells r (if k=.free then(n,(cells.lookup n).getD 0)::acc else acc)
theorem pW{env:Env}:∀(l:List (Str×NameKind)) (acc:List (Str×Addr)),(∀p∈l,p.2=NameKind.free->(env.cells.lookup p.1).isSome=true)->
  (forIn l acc fun(x:Str×NameKind) (r:List (Str×Addr))=>(if(x.2==NameKind.free)=true then do let a <-cellOf env x.1;pure (ForInStep.yield ((x.1,a)::r))else pure (ForInStep.yield r):Sem (ForInStep (List (Str×Addr)))))=pure (gC env.cells l acc)
 |[],acc,_=>rfl
 | (n,k)::r,acc,h=>by
  rw[List.forIn_cons];have ih:=fun a=>pW (env:=env) r a fun p hp=>h p (List.mem_cons_of_mem _ hp);by_cases hk:k=.free
  .subst hk;have hs:=h (n,.free) List.mem_cons_self rfl;obtain⟨c,hc⟩:=Option.isSome_iff_exists.mp hs;have e1:cellOf env n=pure c:=by unfold cellOf;rw[show env.cells.lookup n=some c from hc]
   have e2:gC env.cells ((n,.free)::r) acc=gC env.cells r ((n,c)::acc):=by
    show gC env.cells r (if NameKind.free=NameKind.free then(n,(env.cells.lookup n).getD 0)::acc else acc)=_;rw[zAy rfl,show env.cells.lookup n=some c from hc];rfl
   rw[e2];simp only[beq_self_eq_true,if_true,e1,pure_bind];exact ih _
  .have hb:(k==NameKind.free)=false:=by simpa using hk
   have e2:gC env.cells ((n,k)::r) acc=gC env.cells r acc:=by
    show gC env.cells r (if k=NameKind.free then _ else acc)=_;rw[zAv hk]
   rw[e2];simp only[hb,Bool.false_eq_true,if_false,pure_bind];exact ih _
theorem wj{scope:Scope}{env:Env}(h:∀p∈scope.names,p.2=NameKind.free->(env.cells.lookup p.1).isSome=true):closureFor scope env=pure (gC env.cells scope.names []):=by
 have e:=pW (env:=env) scope.names [] h;unfold closureFor;simp only[bind_pure];exact e
theorem tO{cells:List (Str×Addr)}{x:Str}{c:Addr}:∀(l:List (Str×NameKind)) (acc:List (Str×Addr)),(∀p∈l,p.2=NameKind.free->(cells.lookup p.1).isSome=true)->(gC cells l acc).lookup x=some c->
  acc.lookup x=some c\/cells.lookup x=some c
 |[],_,_,h=>.inl h
 | (n,k)::r,acc,hf,h=>by
  have h':(gC cells r (if k=.free then(n,(cells.lookup n).getD 0)::acc else acc)).lookup x=some c:=h;rcases tO r _ (fun p hp=>hf p (List.mem_cons_of_mem _ hp)) h' with e|e
  .by_cases hk:k=.free
   .rw[zAy hk]at e;obtain⟨d,hd⟩:=Option.isSome_iff_exists.mp (hf (n,k) List.mem_cons_self hk);rw[show cells.lookup n=some d from hd]at e;rw[List.lookup_cons]at e
    cases hx:x==n with
    |true=>
     rw[hx]at e;have:x=n:=by simpa using hx
     subst this;exact .inr (hd.trans (by simpa using e))
    |false=>
     rw[hx]at e;exact .inl e
   .rw[zAv hk]at e;exact .inl e
  .exact .inr e
theorem tQ{cells:List (Str×Addr)}{x:Str}:∀(l:List (Str×NameKind)) (acc:List (Str×Addr)),((∃k,(x,k)∈l/\k=NameKind.free)\/(∃c,acc.lookup x=some c))->∃c,(gC cells l acc).lookup x=some c
 |[],_,h=>by
  rcases h with⟨k,hk,_⟩|h
  .exact absurd hk Zy
  .exact h
 | (n,k)::r,acc,h=>by
  show ∃c,(gC cells r (if k=.free then(n,(cells.lookup n).getD 0)::acc else acc)).lookup x=some c;refine tQ r _ ?_;rcases h with⟨k',hk,e⟩|⟨c,hc⟩
  .rcases zAo.mp hk with z|z
   .cases z;refine .inr ?_;rw[zAy e];exact⟨_,by rw[List.lookup_cons,beq_self_eq_true]⟩
   .exact .inl ⟨k',z,e⟩
  .refine .inr ?_;by_cases hk:k=.free
   .rw[zAy hk,List.lookup_cons]
    cases hx:x==n with
    |true=>exact⟨_,rfl⟩
    |false=>exact⟨c,hc⟩
   .rw[zAv hk];exact⟨c,hc⟩
theorem lF{scope:Scope}{env:Env}{x:Str}{k:NameKind}(hc:∀p∈scope.names,p.2≠NameKind.cell)(h:(relabel scope env).names.lookup x=some k)(hk:k=.cell\/k=.free):∃k',(x,k')∈scope.names/\k'=NameKind.free:=by
 have m:=PySem.mem_of_lookup h;obtain⟨⟨n,k0⟩,hm,e⟩:=zA5.mp m;dsimp only at e;split at e
 .rename_i c
  cases e
  have:(k0==NameKind.free)=true:=by
   cases q:(k0==NameKind.free)with
   |true=>rfl
   |false=>rw[q]at c;simp at c
  exact⟨k0,hm,by simpa using this⟩
 .cases e;rcases hk with z|z
  .exact absurd z (hc _ hm)
  .exact⟨_,hm,z⟩
def cxC(X:Cx)(scope:Scope)(Nc:List Str)(C:Addr)(fp:List Addr)(Zt:List (Addr×Obj))(s₂:Shared)(H₂:Hp):Cx where
 prog:=X.prog
 w:=X.w
 K:=X.K
 mg:=X.mg
 base:=X.base
 A:=X.A
 N:=Nc
 s₀:=s₂
 H₀:=H₂
 env:=compEnvC scope (gC X.env.cells scope.names []) C X.env
 outer:=X.stack
 stack:=X.stack
 ex:=fp
 fn:=fun _=>false
 calm:=X.calm
 pn:=X.pn++Zt
 xe:=fun _ _=>False
def Caps(X:Cx)(bg:Env):List Str->List (Option Nat)->Prop
 |[],[]=>True
 |_::N,none::r=>Caps X bg N r
 |x::N,some i::r=>(X.N[i]?=some x/\(X.env.kindOf x=some .cell\/X.env.kindOf x=some .free)/\bg.cells.lookup x=X.env.cells.lookup x/\(bg.kindOf x=some .cell\/bg.kindOf x=some .free))/\Caps X bg N r
 |_,_=>False
def capσ(σ:St)(src:List (Option Nat)):St:=src.map fun o=>match o with|none=>none|some i=>(σ[i]?).join
theorem Caps.len{X:Cx}{bg:Env}:∀{N:List Str} {src:List (Option Nat)},Caps X bg N src->src.length=N.length
 |[],[],_=>rfl
 |[],_::_,h=>h.elim
 |_::_,[],h=>h.elim
 |_::N,none::r,h=>by
  have h':Caps X bg N r:=h;have:=Caps.len (N:=N) (src:=r) h';simp[this]
 |_::N,some _::r,h=>by
  have:=Caps.len (N:=N) (src:=r) h.2;simp[this]
theorem Caps.get{X:Cx}{bg:Env}{x:Str}:∀{N:List Str} {src:List (Option Nat)} {j i:Nat},Caps X bg N src->N[j]?=some x->src[j]?=some (some i)->
  X.N[i]?=some x/\(X.env.kindOf x=some .cell\/X.env.kindOf x=some .free)/\bg.cells.lookup x=X.env.cells.lookup x/\(bg.kindOf x=some .cell\/bg.kindOf x=some .free)
 |[],[],_,_,_,e,_=>by simp at e
 |[],_::_,_,_,h,_,_=>h.elim
 |_::_,[],_,_,h,_,_=>h.elim
 |_::_,none::_,0,_,_,_,e=>by simp at e
 |_::N,none::r,j+1,_,h,e1,e2=>by
  have h':Caps X bg N r:=h;exact Caps.get (N:=N) (src:=r) (j:=j) h' (by simpa using e1) (by simpa using e2)
 |_::_,some _::_,0,_,h,e1,e2=>by
  simp at e1 e2;subst e1 e2;exact h.1
 |_::_,some _::_,j+1,_,h,e1,e2=>Caps.get (j:=j) h.2 (by simpa using e1) (by simpa using e2)
structure CScope(X:Cx)(scope:Scope):Prop where
 kind:scope.kind=.function
 cell:scope.names.all (fun p=>p.2 != .cell)=true
 names:scope.names.all (fun p=>p.2 != .local||scope.names.lookup p.1==some .local)=true
 free:scope.names.all (fun p=>p.2 != .free||(X.env.cells.lookup p.1).isSome)=true
section
variable{X:Cx}{scope:Scope}
theorem CScope.hcell(S:CScope X scope):∀p∈scope.names,p.2≠NameKind.cell:=fun p hp=>by
 have:=List.all_eq_true.mp S.cell p hp;simpa using this
theorem CScope.hnames(S:CScope X scope):∀p∈scope.names,p.2=.local->scope.names.lookup p.1=some .local:=fun p hp e=>by
 have:=List.all_eq_true.mp S.names p hp;simpa[e]using this
theorem CScope.hfree(S:CScope X scope):∀p∈scope.names,p.2=NameKind.free->(X.env.cells.lookup p.1).isSome=true:=fun p hp e=>by
 have:=List.all_eq_true.mp S.free p hp;simpa[e]using this
end
def PTs(X:Cx)(ifs:List Expr)(t:TT):Prop:=
 ∀(Zt:List (Addr×Obj)) (s:Shared) (σ:St) (H:Hp) (Q:Bool->Hp->Prop),Inv X Zt σ H s->t σ H Q->
  wpAny (model X.prog X.w) X.A (forIn ifs true fun c r=>if r=true then do let ok <-isTrue c X.env (eval c X.env);pure (ForInStep.yield ok)else pure (ForInStep.yield r)) (TP X Zt σ Q) X.xe s
def tR:TT:=fun _ H Q=>Q true H
theorem bI{X:Cx}:PTs X [] tR:=fun _ _ _ H _ I h=>wpAny_tests_nil ⟨H,I,h⟩
theorem dM{X:Cx}{c:Expr}{t:TT}(h:PT X c t):PTs X [c] t:=fun Zt s σ H Q I q=>wpAny_tests_one (h Zt s σ H Q I q)
theorem qX{prog:Program}{w:World}{A:Around}{R:Result->Shared->Prop}{s:Shared}{elt target iter:Expr}{ifs:List Expr}{scope:Scope}{pos:Pos}{it acc:Value}{env:Env}(I:Nat->Shared->Prop)
  (turn:∀n s,I n s->wpAny (model prog w) A (pyNext it) (fun r s₁=>match r with
   |none=>R (.ok .next) s₁
   |some v=>wpAny (model prog w) A (letOwnedTupleGo target it v) (fun _ qr=>wpAny (model prog w) A (assign target env v) (fun _ s₂=>
     wpAny (model prog w) A (forIn ifs true fun c r=>if r=true then do let ok <-isTrue c env (eval c env);pure (ForInStep.yield ok)else pure (ForInStep.yield r)) (fun ok s₃=>
      if ok=true then wpAny (model prog w) A (eval elt env) (fun x nE=>
       wpAny (model prog w) A (call (.builtin "list.append") [acc,x]) (fun _ AX=>∃m,m<n/\I m AX) (fun _ _=>False) nE) (fun _ _=>False) s₃
      else ∃m,m<n/\I m s₃) (fun _ _=>False) s₂) (fun _ _=>False) qr) (fun _ _=>False) s₁) (fun _ _=>False) s)
  (n:Nat) (h:I n s):
  codeAny (model prog w) A (.compLoop (.ListComp elt [⟨target,iter,ifs,0⟩] scope pos) 0 it acc env) R s:=by
 refine codeAny_loop rfl I (fun n s hI=>?_) n h;show wpAny _ A ((compTurn (.ListComp elt [⟨target,iter,ifs,0⟩] scope pos) 0 it acc env).onRaise (fun x=>do noteFrame x env;theTreesLotGoes x)) _ _ s;refine wpAny_noted ?_;rw[compTurn_list];refine zAu (wpAny_standAt (zAu (wpAny_mono (turn n s hI) (fun r s₁ h₁=>?_) fun _ _ h'=>h'.elim)))
 cases r with
 |none=>exact zAz h₁
 |some v=>
  refine zAu (wpAny_mono h₁ (fun _ qr AY=>?_) fun _ _ h'=>h'.elim);refine zAu (wpAny_mono AY (fun _ s₂ kQ=>zAu (wpAny_mono kQ (fun ok s₃ nI=>?_) fun _ _ h'=>h'.elim)) fun _ _ h'=>h'.elim)
  cases ok with
  |false=>exact zAz ⟨rfl,nI⟩
  |true=>
   exact zAu (zAu (wpAny_mono nI (fun x nE GN=>zAu (wpAny_mono GN (fun _ AX GO=>zAz (zAz ⟨rfl,GO⟩)) fun _ _ h'=>h'.elim)) fun _ _ h'=>h'.elim))
def jD(J:It)(g:TG)(tt:TT)(te:TE)(Fin:List V->Hp->Prop)(dv:St)(H0:Hp):Prop:=
 ∃W:Nat->Nat->List V->St->Hp->Prop,(∃m,W 0 m [] dv H0)/\∀i m ys σ H,W i m ys σ H->ys.length<sizeLine /\
  ((J.stop i H/\Fin ys H)\/(J.go i H/\∀x H',J.yld i H x H'->g x σ H' fun aS H2=>tt aS H2 fun b H3=>
   if b=true then te aS H3 fun y H4=>∃m',m'<m/\W (i+1) m' (ys++[y]) aS H4 else ∃m',m'<m/\W (i+1) m' ys aS H3))
theorem pZ{X:Cx}{tg iter elt:Expr}{ifs:List Expr}{scope:Scope}{pos:Pos}{Nc:List Str}{src:List (Option Nat)}{g:TG}{tt:TT}{te:TE}(hc:X.calm=true)(S:CScope X scope)
  (fA:∀C,Caps X (compEnvC scope (gC X.env.cells scope.names []) C X.env) Nc src)
  (hb:∀C fp Zt s₂ H₂,PG (cxC X scope Nc C fp Zt s₂ H₂) tg g/\PTs (cxC X scope Nc C fp Zt s₂ H₂) ifs tt/\PE (cxC X scope Nc C fp Zt s₂ H₂) elt te)
  {Zt:List (Addr×Obj)} {s₂:Shared} {σ:St} {H₂:Hp} {it:Addr} {fp:List Addr} {tn:Nat->Heap->Prop} {J:It} (ar:Inv X Zt σ H₂ s₂) (T:Turn X.prog X.w X.K tg J fp it tn) (st:tn 0 s₂.heap) (hf:∀b∈fp,qT X Zt H₂ b)
  {Fin:List V->Hp->Prop} (hW:jD J g tt te Fin (capσ σ src) H₂) {RR:Value->Addr->Result->Shared->Prop} {E:Value->Shared->Prop}
  (PN:∀D C s' ys H' m,Fin ys H'->H' D=none->Inv X Zt σ (upd H' D (.lst ys)) s'->s'.heap.Ns C m->qT X Zt (upd H' D (.lst ys)) C->RR (.ref D) C (.ok .next) s'):
  wpAny (model X.prog X.w) X.A (newList []) (fun acc s₃=>wpAny (model X.prog X.w) X.A (newFunctionEnv scope X.env.globals (gC X.env.cells scope.names []) [] X.env.qual none .none (some X.env)) (fun AZ nE=>
   codeAny (model X.prog X.w) X.A (.compStart (.ListComp elt [⟨tg,iter,ifs,0⟩] scope pos) 0 (.ref it) acc {AZ with scope:=relabel scope X.env}) (RR acc AZ.locals) nE) E s₃) E s₂:=by
 refine wpAny_newObj_type (wpAny_newFunctionEnv S.hcell (by intro y hy;simp at hy) (fun h₁ ff dA=>?_) S.kind);dsimp only at ff dA⊢;generalize GS:s₂.heap.push {cls:=.type "list",dict:=none,data:=.seq ([]:List Value).toArray}=HH at ff dA⊢;generalize qv:s₂.heap.objs.size=D at ff dA⊢;have hC:HH.objs.size=D+1:=by rw[<-GS,Heap.size_push,qv]
 generalize Wo:HH.objs.size=C at ff dA hC⊢;have EA:D≠C:=Zz
 have below:∀b,b<s₂.heap.objs.size->b≠C/\b≠D:=fun b hb=>by rw[qv]at hb;exact⟨by rw[hC];exact zB9 (Nat.lt_succ_of_lt hb),zB9 hb⟩
 have bo:∀{b o},s₂.heap.get? b=some o->b≠C/\b≠D:=fun{b o} e=>below b (zB1 e);have old:∀b o,s₂.heap.get? b=some o->h₁.get? b=some o:=fun b o e=>dA.extBut b o (bo e).1 (zAw _ (GS▸zAw _ e));have cq:h₁.get? D=some {cls:=.type "list",data:=.seq ([]:List Value).toArray}:=dA.extBut _ _ EA (zAw _ (GS▸qv▸zB2 _ rfl))
 have PQ:∀b∈fp,∃o,s₂.heap.get? b=some o:=fun b hb=>let⟨o,e,_⟩:=T.obj _ _ st b hb;⟨o,e⟩
 have EB:∀b∈fp,b≠C/\b≠D:=fun b hb=>let⟨o,e⟩:=PQ b hb;bo e
 have sub:∀{x c},(gC X.env.cells scope.names []).lookup x=some c->X.env.cells.lookup x=some c:=fun{x c} e=>by
  rcases tO scope.names [] S.hfree e with z|z
  .simp at z
  .exact z
 have PR:∀{b o},s₂.heap.get? b=some o->b<D:=fun{b o} e=>by rw[<-qv];exact zB1 e
 have fresh:∀a,D<=a->H₂ a=none:=fun a ha=>ar.hok.fresh (by rw[qv];exact ha)
 have qA:∀{x c},X.env.cells.lookup x=some c->∃o,s₂.heap.get? c=some o:=fun{x c} e=>let⟨v,o,ho,_⟩:=ar.cell x c e;⟨o,ho⟩
 have GU:∀b∈frs X.stack,∃o,s₂.heap.get? b=some o:=fun b hb=>by
  rcases zAo.mp (ar.stkSub b hb)with e|hb
  .rw[e];obtain⟨m,⟨o,_,_,ho,_⟩,_⟩:=ar.loc;exact⟨o,ho⟩
  .obtain⟨_,o,ho,_⟩:=ar.funs.mem hb;exact⟨o,ho⟩
 have GV:∀a,D<=a->a∉frs X.stack:=fun a ha hb=>by
  obtain⟨o,e⟩:=GU a hb;exact absurd (zB6 (PR e) ha) (Nat.lt_irrefl _)
 have M9:∀b∈fp,b∉frs X.stack:=fun b hb z=>by
  obtain⟨_,f1,f2,_⟩:=hf b hb;rcases zAo.mp (ar.stkSub b z)with e|e
  .exact f1 e
  .exact f2 e
 generalize gc:cxC X scope Nc C fp Zt s₂ H₂=X';obtain⟨hg,ht,he⟩:=hb C fp Zt s₂ H₂;rw[gc]at hg ht he
 have PU:X'.Ok:=by
  subst gc;refine⟨ar.ok.mod,S.kind,ar.ok.glob,ar.ok.blt,?_,?_,?_,?_,ar.ok.hd,ar.ok.frames,.inl rfl,?_,ar.bs,Nat.le_trans ar.ok.bsz ar.sz,?_,M9,ar.stack,ar.stkFree⟩
  .show s₂.heap.objs.size<=C;lia
  .exact fun x y c e1 e2=>ar.ok.inj x y c (sub e1) (sub e2)
  .intro x hx;have hx:(relabel scope X.env).names.lookup x=some .cell\/(relabel scope X.env).names.lookup x=some .free:=hx
   have:∃k',(x,k')∈scope.names/\k'=NameKind.free:=by
    rcases hx with z|z
    .exact lF S.hcell z (.inl rfl)
    .exact lF S.hcell z (.inr rfl)
   exact tQ scope.names [] (.inl this)
  .intro x c z;exact absurd z (by show¬(false=true);simp)
  .intro b hb;exact⟨(EB b hb).1,fun x c e=>(hf b hb).2.2.2.2.1 x c (sub e)⟩
  .intro b o e hb;obtain⟨_,_,_,f3,_⟩:=hf b hb;rcases f3 with z|z
   .exact ar.ok.noex b o e z
   .exact absurd (zB6 (zB1 (ar.ok.bs b o e).1) z) (Nat.lt_irrefl _)
 have eP:X'.prog=X.prog:=by subst gc;rfl
 have ew:X'.w=X.w:=by subst gc;rfl
 have eK:X'.K=X.K:=by subst gc;rfl
 have eA:X'.A=X.A:=by subst gc;rfl
 have eE:X'.xe=fun _ _=>False:=by subst gc;rfl
 have eL:X'.env.locals=C:=by subst gc;rfl
 have eN:X'.env=compEnvC scope (gC X.env.cells scope.names []) C X.env:=by subst gc;rfl
 have ec:X'.calm=true:=by subst gc;exact hc
 have eS:X'.s₀=s₂:=by subst gc;rfl
 have eH:X'.H₀=H₂:=by subst gc;rfl
 have ef:X'.fs=frs X.stack:=by subst gc;rfl
 have ex:X'.ex=fp:=by subst gc;rfl
 have ep:X'.pn=X.pn++Zt:=by subst gc;rfl
 have I0:Inv X' [] (capσ σ src) H₂ {s₂ with heap:=h₁,toks:=s₂.toks+([]:List (Str×Value)).length}:=by
  refine⟨PU,by rw[eS],ar.bare,by rw[eS,eH];exact Un.kept old,⟨_,by rw[eL];exact ff,?_⟩,?_,by rw[eL];exact fresh _ Zz,?_,?_,by rw[eP,ew];exact ar.hok.kept old,?_⟩
  .intro j x v e1 e2 e3;have e1:Nc[j]?=some x:=by subst gc;exact e1
   have e4:∃i,src[j]?=some (some i)/\(σ[i]?).join=some v:=by
    unfold capσ at e2;rw[zAb]at e2
    cases q:src[j]? with
    |none=>rw[q]at e2;cases e2
    |some o=>
     rw[q]at e2
     cases o with
     |none=>simp at e2
     |some i=>exact⟨i,rfl,by simpa using e2⟩
   obtain⟨i,e5,e6⟩:=e4;obtain⟨c1,c2,c3,c4⟩:=(fA C).get e1 e5
   have e7:σ[i]?=some (some v):=by
    cases q:σ[i]? with
    |none=>rw[q]at e6;simp at e6
    |some o=>rw[q]at e6;simp at e6;rw[e6]
   obtain⟨m,_,hl⟩:=ar.loc;obtain⟨u,r,l⟩:=hl i x v c1 e7 (.inr (by rcases c2 with z|z;exact .inl z;exact .inr z));refine⟨u,r,?_⟩;rcases l with⟨k,_⟩|⟨_,c,e,z⟩
   .rcases c2 with c2|c2<;>(rw[k]at c2;cases c2)
   .refine .inr ⟨by rw[eN];exact c4,c,by rw[eN];exact c3.trans e,?_⟩;obtain⟨o,ho,hd⟩:=z;exact⟨o,old c o ho,hd⟩
  .intro x c e;rw[eN]at e;obtain⟨v,o,ho,hd⟩:=ar.cell x c (sub e);exact⟨v,o,old c o ho,hd⟩
  .intro x c e;rw[eN]at e;exact ar.freeC x c (sub e)
  .intro p hp;rw[ep,zAn]at hp;obtain⟨e,n,ne,nf,d⟩:=ar.pin p hp;refine⟨old _ _ e,n,by rw[eL];exact(bo e).1,?_,d⟩;rw[ef];intro z;rcases zAo.mp (ar.stkSub _ z)with q|q
   .exact ne q
   .exact nf q
  .have:=(fA C).len;subst gc;show(capσ σ src).length=Nc.length;unfold capσ;rw[zA1,this]
 have PV:∀p∈X'.pn,p.1≠D:=fun p hp=>by
  rw[ep]at hp;exact(bo (ar.pin p hp).1).2
 have A4:∀x c,X'.env.cells.lookup x=some c->c≠D:=fun x c e=>by
  rw[eN]at e;obtain⟨o,ho⟩:=qA (sub e);exact(bo ho).2
 have GW:∀{P:List (Addr×Obj)} {H:Hp},(∀p∈P,p.1=D)->(∀b∈fp,H b=none)->∀b∈fp,qT X' P H b:=fun{P H} hP hn b hb=>by
  refine⟨hn b hb,by rw[eL];exact(EB b hb).1,by rw[ef];exact M9 b hb,.inl (by rw[ex];exact hb),fun x c e=>?_,fun p hp=>?_⟩
  .rw[eN]at e;exact(hf b hb).2.2.2.2.1 x c (sub e)
  .rcases zA6.mp hp with z|z
   .rw[ep]at z;exact(hf b hb).2.2.2.2.2 p z
   .rw[hP p z];exact(EB b hb).2.symm
 obtain⟨W,⟨m0,w0⟩,step⟩:=hW
 have loop:∀s₃:Shared,s₃={s₂ with heap:=h₁,toks:=s₂.toks+([]:List (Str×Value)).length}->
   codeAny (model X.prog X.w) X.A (.compLoop (.ListComp elt [⟨tg,iter,ifs,0⟩] scope pos) 0 (.ref it) (.ref D) (compEnvC scope (gC X.env.cells scope.names []) C X.env)) (RR (.ref D) C) s₃:=by
  rintro s₃ rfl
  refine qX (fun n s'=>∃i ys us k ah H',Inv X' [] ah H' s'/\tn i s'.heap/\(∀b∈fp,H' b=none)/\H' D=none/\s'.heap.get? D=some {cls:=.type "list",data:=.seq (List.toArray us) k}/\Vals ys us/\W i n ys ah H') ?_ m0
   ⟨0,[],[],_,_,_,I0,T.keep _ _ _ st fun b _ o e=>old b o e,fun b hb=>(hf b hb).1,fresh _ (zA3 _),cq,.nil,w0⟩
  rintro n s3 ⟨i,ys,us,k,kG,H3,I3,iq,AO,tP,PX,EC,w3⟩;obtain⟨hsz,tS⟩:=step i n ys kG H3 w3
  have Na:Inv X' [(D,{cls:=.type "list",data:=.seq us.toArray k})] kG H3 s3:=I3.pins_of fun p hp=>by
   rw[List.mem_singleton.mp hp];exact⟨PX,tP,by rw[eL];exact EA,by rw[ef];exact GV _ (zA3 _),fun v z=>by cases z⟩
  have tT:∀p∈[(D,({cls:=.type "list",data:=.seq us.toArray k}:Obj))],p.1=D:=fun p hp=>by rw[List.mem_singleton.mp hp]
  rcases tS with⟨stop,fin⟩|⟨go,turn⟩
  ·-- the end
   have hd:=T.done X' eP ew eK ec i _ s3 kG H3 (fun _ _=>False) Na (GW tT AO) iq stop;rw[eA]at hd;refine thn hd fun r s4 ⟨hr,I4⟩=>?_;subst hr;have pD:=I4.pin (D,{cls:=.type "list",data:=.seq us.toArray k}) (zBg _ (List.mem_singleton.mpr rfl));obtain⟨mC,Nb,_⟩:=I4.loc;rw[eL]at Nb;have qB:=I4.base;rw[eS,eH,ef,ex]at qB;have hlen:ys.length<=sizeLine:=Nat.le_of_lt hsz
   have GY:HOk X.prog X.w (upd H3 D (.lst ys)) s4.heap:=fun b u e=>by
    by_cases hb:b=D
    .subst hb;rw[aa]at e;cases e;exact⟨hlen,us,k,EC,pD.1⟩
    .rw[au hb]at e;have z:=I4.hok b u e;rw[eP,ew]at z
     exact z.stay (fun c v _ q=>q) (fun c q=>by rw[au (az q tP)];exact q) fun c xs q=>by rw[au (az q tP)];exact q
   have un:Un (frs X.stack) fp H₂ (upd H3 D (.lst ys)) s₂.heap s4.heap:=⟨qB.keep,qB.slot,fun b o e n hx=>by rw[au (bo e).2];exact qB.free b o e n hx,qB.there,
    fun b xs e=>by
     have z:=qB.tups b xs e
     rw[au (az z tP)];exact z,
    fun b o u e=>by
     have z:=qB.frzs b o u e
     rw[au (az z tP)];exact z,
    fun b ps e=>by
     obtain⟨mo,z⟩:=qB.tbls b ps e
     exact⟨mo,by rw[au (az z tP)];exact z⟩⟩
   have J4:Inv X Zt σ (upd H3 D (.lst ys)) s4:=ar.call' (ch:=fp) (by have:=I4.os;rw[eS]at this;exact this) un GY I4.bare fun b hb=>by
    obtain⟨_,f1,f2,f3,f4,f5⟩:=hf b hb;exact⟨f3,f1,f4,f5⟩
   refine PN D C s4 ys H3 mC fin tP J4 Nb ⟨?_,?_,?_,.inr ?_,?_,?_⟩
   .rw[au EA.symm];have:=I4.free;rw[eL]at this;exact this
   .have:=ar.lt;rw[qv]at this;exact Nat.ne_of_gt (zB6 this (by rw[hC];exact Nat.le_succ _))
   .intro z;obtain⟨_,o,ho,_⟩:=ar.funs.mem z;exact(bo ho).1 rfl
   .have:=ar.sz;rw[qv]at this;lia
   .intro x c e z;obtain⟨o,ho⟩:=qA e;exact(bo ho).1 z
   .intro p hp z;exact(bo (ar.pin p hp).1).1 z
  ·-- a turn
   have hd:=T.item X' eP ew eK ec i _ s3 kG H3 (fun _ _=>False) Na (GW tT AO) iq go;rw[eA]at hd;refine thn hd fun r s4 ⟨u,hr,h4⟩=>?_;subst hr;refine thn h4 fun _ s5 ⟨x,H5,I5,r5,y5,sN,FY⟩=>?_;have F1:=I5.pinned (GW tT FY) (T.obj _ _ sN);have Nd:=hg _ s5 kG H5 x u _ F1 r5 (turn x H5 y5);rw[eP,ew,eA,eE,eN]at Nd;refine thn Nd fun _ s6 ⟨nv,H6,I6,q6⟩=>?_;have gy:=ht _ s6 nv H6 _ I6 q6;rw[eP,ew,eA,eE,eN]at gy;refine thn gy fun okb s7 ⟨H7,I7,q7⟩=>?_
   have back:∀{H8:Hp} {s8:Shared},Inv X' ([(D,({cls:=.type "list",data:=.seq us.toArray k}:Obj))]++mU fp s5.heap) nv H8 s8->
     Inv X' [] nv H8 s8/\tn (i+1) s8.heap/\(∀b∈fp,H8 b=none)/\H8 D=none/\s8.heap.get? D=some {cls:=.type "list",data:=.seq us.toArray k}/\(∀b∈fp,∀o,s5.heap.get? b=some o->s8.heap.get? b=some o):=fun{H8 s8} I8=>by
    have pD:=I8.pin (D,{cls:=.type "list",data:=.seq us.toArray k}) (List.mem_append_right _ (List.mem_append_left _ (List.mem_singleton.mpr rfl)));have pf:∀b∈fp,∀o,s5.heap.get? b=some o->s8.heap.get? b=some o:=fun b hb o e=>(I8.pin (b,o) (List.mem_append_right _ (List.mem_append_right _ (ik hb e)))).1;refine⟨I8.pins_of fun p hp=>absurd hp Zy,T.keep _ _ _ sN pf,fun b hb=>?_,pD.2.1,pD.1,pf⟩;obtain⟨o,e,d⟩:=T.obj _ _ sN b hb;exact(I8.pin (b,o) (List.mem_append_right _ (List.mem_append_right _ (ik hb e)))).2.1
   cases okb with
   |false=>
    obtain⟨b1,b2,b3,b4,b5,_⟩:=back I7;obtain⟨m',hm,w7⟩:=q7;exact⟨m',hm,i+1,ys,us,k,nv,H7,b1,b2,b3,b4,b5,EC,w7⟩
   |true=>
    have yA:=he _ s7 nv H7 _ I7 q7;rw[eP,ew,eA,eE,eN]at yA;show wpAny _ _ (eval elt _) _ _ s7;refine thn yA fun xv s8 ⟨y,H8,I8,r8,m',hm,w8⟩=>?_;obtain⟨b1,b2,b3,b4,b5,b6⟩:=back I8;refine append_at (hsz:=by rw[zA8,<-EC.length];exact Nat.le_of_lt hsz) b5 fun h9 Nf PY=>?_
    have I9:Inv X' [] nv H8 {s8 with heap:=h9}:=b1.turned (t':=s8.toks) (fun b o hb e=>Nf.extBut b o hb e) b4 (by rw[eL];exact EA) (.inr (by rw[eS,qv];exact zA3 _)) A4 fun p hp=>by
     rw[zAn]at hp;exact PV p hp
    refine⟨m',hm,i+1,ys++[y],us++[xv],k+1,nv,H8,I9,T.keep _ _ _ b2 fun b hb o e=>Nf.extBut b o (EB b hb).2 e,b3,b4,?_,EC.append (.cons r8 .nil),w8⟩;show h9.get? D=_;rw[PY,List.push_toArray]
 refine codeAny_compStart_list (loop _ rfl) ?_;exact T.self _ 0 _ _ _ (T.keep _ _ _ st fun b _ o e=>old b o e) (loop _ rfl)
def Ao(wi:TI)(src:List (Option Nat))(g:TG)(tt:TT)(te:TE):TE:=fun σ H Q=>wi σ H fun J H1=>jD J g tt te (fun ys H'=>∀D,H' D=none->Q (.ref D) (upd H' D (.lst ys))) (capσ σ src) H1
section
variable{X:Cx}{tg iter elt:Expr}{ifs:List Expr}{scope:Scope}{pos:Pos}{Nc:List Str}{wi:TI}{g:TG}{tt:TT}{te:TE}
theorem bx(Nc:List Str)(src:List (Option Nat))(hc:X.calm=true)(hi:PI X tg iter wi)
  (hb:∀C fp Zt s₂ H₂,PG (cxC X scope Nc C fp Zt s₂ H₂) tg g/\PTs (cxC X scope Nc C fp Zt s₂ H₂) ifs tt/\PE (cxC X scope Nc C fp Zt s₂ H₂) elt te)
  (fA:∀C,Caps X (compEnvC scope (gC X.env.cells scope.names []) C X.env) Nc src) (S:CScope X scope)
  (hs:∀x,foldedSetIterable iter X.env x=pure x:=by intro _;rfl):PE X (.ListComp elt [⟨tg,iter,ifs,0⟩] scope pos) (Ao wi src g tt te):=by
 intro Zt s σ H Q I h;rw[eval_ListComp];refine wpAny_comprehension_free (use:=none) rfl hs (wj S.hfree) S.kind S.hnames ?_;refine thn (hi Zt s σ H _ I h) fun v s1 h1=>thn h1 fun D8 s2 h2=>?_;obtain⟨it,fp,tn,J,H2,e,I2,T,st2,f2,hW⟩:=h2;subst e;refine pZ (RR:=fun acc C=>compPost (model X.prog X.w) X.A X.xe none (EP X Zt σ Q) acc C) hc S fA hb I2 T st2 f2 hW ?_;intro D C s' ys H' m fin nD J' hn fC;obtain⟨f0,f1,_,f3,f4,f5⟩:=fC;refine⟨m,hn,fun PZ ua=>?_⟩;exact⟨.ref D,_,J'.turned (t':=s'.toks) (fun b o hb e=>ua.extBut b o hb e) f0 f1 f3 f4 f5,rfl,fin D nD⟩
def GR(wi:TI)(src:List (Option Nat))(g:TG)(tt:TT)(te:TE)(i:Nat):TS:=fun D σ H=>Ao wi src g tt te σ H fun v H'=>D.nx (σ.set i (some v)) H'
theorem gh{i:Nat}{x:Str}{pos' A5:Pos}(Nc:List Str)(src:List (Option Nat))(hc:X.calm=true)(hN:X.N.Nodup)(dQ:X.N[i]?=some x)(hx:Loc X.env.scope x)(hi:PI X tg iter wi)
  (hb:∀C fp Zt s₂ H₂,PG (cxC X scope Nc C fp Zt s₂ H₂) tg g/\PTs (cxC X scope Nc C fp Zt s₂ H₂) ifs tt/\PE (cxC X scope Nc C fp Zt s₂ H₂) elt te)
  (fA:∀C,Caps X (compEnvC scope (gC X.env.cells scope.names []) C X.env) Nc src) (S:CScope X scope)
  (P0:swapsWith (.ListComp elt [⟨tg,iter,ifs,0⟩] scope pos) (some (.Name x pos')) A5.line X.env=pure true:=by rfl)
  (hf:X.fn x=true\/X.env.scope.names.lookup x=some .local:=by first|exact .inl rfl|exact .inr rfl|assumption)
  (hs:∀x,foldedSetIterable iter X.env x=pure x:=by intro _;rfl):PS X (.Assign [.Name x pos'] (.ListComp elt [⟨tg,iter,ifs,0⟩] scope pos) A5) (GR wi src g tt te i):=by
 intro Zt s σ H D I h;rw[exec_Assign_Name_used _ _ _ _ P0];refine zAu (wpAny_standAt (zAu ?_));show wpAny _ _ (do let _ <-comprehension (.ListComp elt [⟨tg,iter,ifs,0⟩] scope pos) scope X.env _ (newList []) false (eval iter X.env) (some (assign (.Name x pos') X.env))) _ _ s;refine zAu (thn (wpAny_comprehension_free (use:=some (assign (.Name x pos') X.env)) (Q:=fun _ s'=>∃ah H',Inv X Zt ah H' s'/\D.nx ah H') rfl hs (wj S.hfree) S.kind S.hnames ?_) fun _ s' hq=>zAz (zAz hq));refine thn (hi Zt s σ H _ I h) fun v s1 h1=>thn h1 fun D8 s2 h2=>?_;obtain⟨it,fp,tn,J,H2,e,I2,T,st2,f2,hW⟩:=h2;subst e;refine pZ (RR:=fun acc C=>compPost (model X.prog X.w) X.A X.xe (some (assign (.Name x pos') X.env)) (fun _ s'=>∃ah H',Inv X Zt ah H' s'/\D.nx ah H') acc C) hc S fA hb I2 T st2 f2 hW ?_;intro A C s' ys H' m fin nD J' hn fC;obtain⟨f0,f1,Wq,f3,f4,f5⟩:=fC;refine wpAny_assign_Name (pK J' hN dQ hx (v:=.ref A) rfl (fun yn P1 P2=>?_) hf)
 have kP:∃m',yn.heap.Ns C m':=by
  obtain⟨a,sb,ha⟩:=P2
  have fE:C≠a:=by
   rcases ha with z|z
   .rw[z];exact f1
   .exact fun q=>f4 x a z q.symm
  exact⟨m,hn.sameBut sb fE⟩
 obtain⟨m',kP⟩:=kP;refine⟨m',kP,fun PZ ua=>?_⟩;exact⟨_,_,P1.turned (t':=yn.toks) (fun b o hb e=>ua.extBut b o hb e) f0 f1 f3 f4 f5,fin A nD⟩
end
section
variable{X:Cx}
theorem iK:dU X (.builtin "isinstance") (fun xs H Q=>∃x t n b,xs=[x,.ty n]/\TyOf X.K H x t/\PySem.W.kitOne X.K t (.type n)=some b/\Q (.bl b) H):=by
 intro Zt s σ H xs us Q I r h;obtain⟨x,t,n,b,rfl,ty,e,q⟩:=h;obtain⟨u,c,rfl,ru,rc⟩:=vals2 r;obtain rfl:c=Value.type n:=rc
 exact yw I ru ty e fun tk=>⟨.bl b,H,I.tok _,rfl,q⟩
theorem tU{prog:Program}{w:World}{A:Around}(bs:List Bool):TruthOf prog w A (fun i v=>∃b,bs[i]?=some b/\v=Value.bool b) (fun i=>(bs[i]?).getD false):=by
 intro i v s Q E hP hQ;obtain⟨b,hb,rfl⟩:=hP;dsimp only at hQ;rw[hb]at hQ;exact wpAny_truthy_bool hQ
theorem all_range(bs:List Bool):(List.range bs.length).all (fun i=>(bs[i]?).getD false)=bs.all id:=by
 apply Bool.eq_iff_iff.mpr;rw[List.all_eq_true,List.all_eq_true];constructor
 .intro h b hb;obtain⟨i,hi,e⟩:=List.getElem_of_mem hb;have:=h i (List.mem_range.mpr hi);rw[zA0 hi,e]at this;exact this
 .intro h i hi;have hi:=List.mem_range.mp hi;rw[zA0 hi];exact h _ (zAh hi)
theorem mY:∀{bs:List Bool} {us:List Value},Vals (bs.map V.bl) us->us=bs.map Value.bool
 |[],_,.nil=>rfl
 |_::bs,_,.cons r t=>by
  rw[mY (bs:=bs) t,show _=Value.bool _ from r];rfl
theorem fV(hc:X.calm=true):dU X (.builtin "all") (fun xs H Q=>∃(p:Addr) (bs:List Bool),xs=[.ref p]/\SqL X.K H p (bs.map V.bl)/\Q (.bl (bs.all id)) H):=by
 intro Zt s σ H xs us Q I r h;obtain⟨p,bs,rfl,hq,q⟩:=h;obtain⟨u,rfl,ru⟩:=vals1 r;cases ru;obtain⟨Zr,rv,pl,hz⟩:=I.list hq;have ei:=mY rv;subst ei;have ax:p<s.heap.objs.size:=by obtain⟨_,e,_⟩:=pl.isList;exact zB1 e
 refine call_all_walk (wpAny_pyIter_list pl.isList ?_);have W:=Walks.list (prog:=X.prog) (w:=X.w) (A:=X.A.in1) (I.ok.hd hc) s.heap.objs.size p (zB9 ax) (bs.map Value.bool).toArray;refine⟨_,_,_,_,_,_,_,rfl,{sub:=W.sub,frame:=W.frame,item:=fun i s Q E hi st hQ=>W.item i s Q E hi st fun v h' tk hP=>hQ v h' tk ?_,done:=W.done,self:=W.self},⟨⟨_,zB2 _ rfl,rfl,rfl⟩,pl.isList.push _⟩,tU bs,fun h' tk k=>?_⟩
 .have A6:(bs.map Value.bool).toArray[i]?=some v:=hP;rw[List.getElem?_toArray,zAb]at A6
  cases e:bs[i]? with
  |none=>rw[e]at A6;cases A6
  |some b=>rw[e]at A6;exact⟨b,rfl,(zAl A6).symm⟩
 .have hsz:(bs.map Value.bool).toArray.size=bs.length:=by simp
  rw[hsz,all_range];refine⟨.bl _,H,?_,rfl,q⟩;refine I.kept (h':=h') (t':=tk) fun b o e=>k b o ?_ (Heap.get?_push_of_some _ e);intro z;have:b=s.heap.objs.size:=by simpa using z
  exact absurd (zB1 e) (by rw[this];exact Nat.lt_irrefl _)
end
theorem kh{K:Frag}:PySem.W.kitOne K (.type "NoneType") (.type "int")=some false:=by kernel_rfl
theorem jE{K:Frag}:PySem.W.kitOne K (.type "NoneType") (.type "bool")=some false:=by kernel_rfl
theorem jk{K:Frag}:PySem.W.kitOne K (.type "NoneType") (.type "tuple")=some false:=by kernel_rfl
theorem qY{K:Frag}:PySem.W.kitOne K (.type "bool") (.type "int")=some true:=by kernel_rfl
theorem oR{K:Frag}:PySem.W.kitOne K (.type "bool") (.type "bool")=some true:=by kernel_rfl
theorem mZ{K:Frag}:PySem.W.kitOne K (.type "bool") (.type "tuple")=some false:=by kernel_rfl
theorem tV{K:Frag}:PySem.W.kitOne K (.type "int") (.type "int")=some true:=by kernel_rfl
theorem qZ{K:Frag}:PySem.W.kitOne K (.type "int") (.type "bool")=some false:=by kernel_rfl
theorem oU{K:Frag}:PySem.W.kitOne K (.type "int") (.type "tuple")=some false:=by kernel_rfl
theorem tW{K:Frag}:PySem.W.kitOne K (.type "str") (.type "int")=some false:=by kernel_rfl
theorem rm{K:Frag}:PySem.W.kitOne K (.type "str") (.type "bool")=some false:=by kernel_rfl
theorem oV{K:Frag}:PySem.W.kitOne K (.type "str") (.type "tuple")=some false:=by kernel_rfl
theorem rz{K:Frag}:PySem.W.kitOne K (.type "list") (.type "int")=some false:=by kernel_rfl
theorem oW{K:Frag}:PySem.W.kitOne K (.type "list") (.type "bool")=some false:=by kernel_rfl
theorem ni{K:Frag}:PySem.W.kitOne K (.type "list") (.type "tuple")=some false:=by kernel_rfl
theorem oX{K:Frag}:PySem.W.kitOne K (.type "tuple") (.type "int")=some false:=by kernel_rfl
theorem nj{K:Frag}:PySem.W.kitOne K (.type "tuple") (.type "bool")=some false:=by kernel_rfl
theorem lU{K:Frag}:PySem.W.kitOne K (.type "tuple") (.type "tuple")=some true:=by kernel_rfl
theorem rA{K:Frag}:PySem.W.kitOne K (.type "dict") (.type "int")=some false:=by kernel_rfl
theorem oY{K:Frag}:PySem.W.kitOne K (.type "dict") (.type "bool")=some false:=by kernel_rfl
theorem nq{K:Frag}:PySem.W.kitOne K (.type "dict") (.type "tuple")=some false:=by kernel_rfl
section
variable{κ:Type}[DecidableEq κ]
def cV(Zs:List (κ×V))(k:κ):Option V:=(Zs.find? fun kv=>decide (kv.1=k)).map (·.2)
def putK(Zs:List (κ×V))(k:κ)(v:V):List (κ×V):=
 if(Zs.any fun kv=>decide (kv.1=k))=true then Zs.map (fun kv=>if kv.1=k then(kv.1,v)else kv)else Zs++[(k,v)]
theorem cW{p:κ×V}{r:List (κ×V)}{k:κ}(e:p.1=k):cV (p::r) k=some p.2:=by simp[cV,List.find?_cons,e]
theorem cX{p:κ×V}{r:List (κ×V)}{k:κ}(e:¬p.1=k):cV (p::r) k=cV r k:=by simp[cV,List.find?_cons,e]
theorem dX(k:κ):∀Zs:List (κ×V),(Zs.any fun kv=>decide (kv.1=k))=(cV Zs k).isSome
 |[]=>rfl
 |p::r=>by
  rw[List.any_cons];by_cases e:p.1=k
  .simp only[cW e,decide_eq_true e,Bool.true_or,Option.isSome_some]
  .rw[cX e,zB0 e,Bool.false_or];exact dX k r
theorem tX(k j:κ)(y:V):∀Zs:List (κ×V),cV (Zs.map fun kv=>if kv.1=k then(kv.1,y)else kv) j=(cV Zs j).map fun x=>if j=k then y else x
 |[]=>rfl
 |p::r=>by
  have ih:=tX k j y r;rw[zAk];by_cases h:p.1=k
  .rw[zAy h];by_cases e:p.1=j
   .rw[cW (p:=(p.1,y)) e,cW e,Option.map_some,zAy (e.symm.trans h)]
   .rw[cX (p:=(p.1,y)) e,cX e,ih]
  .rw[zAv h];by_cases e:p.1=j
   .rw[cW (p:=p) e,cW e,Option.map_some,zAv (fun z=>h (e.trans z))]
   .rw[cX (p:=p) e,cX e,ih]
theorem q8(k j:κ)(y:V):∀Zs:List (κ×V),cV Zs k=none->cV (Zs++[(k,y)]) j=if j=k then some y else cV Zs j
 |[],_=>by
  by_cases e:k=j
  .rw[zAy e.symm];exact cW (p:=(k,y)) e
  .rw[zAv (fun z=>e z.symm)];exact cX (p:=(k,y)) e
 |p::r,hn=>by
  rw[List.cons_append]
  have hk:¬p.1=k:=fun z=>by rw[cW z]at hn;cases hn
  rw[cX hk]at hn;have ih:=q8 k j y r hn;by_cases e:p.1=j
  .rw[cW e,cW e,zAv (fun z=>hk (e.trans z))]
  .rw[cX e,cX e,ih]
theorem iM(Zs:List (κ×V))(k j:κ)(y:V):cV (putK Zs k y) j=if j=k then some y else cV Zs j:=by
 unfold putK;by_cases a:(Zs.any fun kv=>decide (kv.1=k))=true
 .rw[zAy a,tX];rw[dX]at a;by_cases e:j=k
  .obtain⟨x,hx⟩:=Option.isSome_iff_exists.mp a;rw[zAy e,e,hx,Option.map_some,zAy rfl]
  .rw[zAv e]
   cases cV Zs j with
   |none=>rfl
   |some x=>rw[Option.map_some,zAv e]
 .rw[zAv a];refine q8 k j y Zs ?_;rw[dX]at a
  cases q:cV Zs k with
  |none=>rfl
  |some x=>rw[q]at a;exact(a rfl).elim
theorem lG(Zs:List (κ×V))(k:κ)(v:V):(putK Zs k v).length<=Zs.length+1:=by
 unfold putK;split
 .rw[zA1];lia
 .rw[zA2,zAe,List.length_nil];lia
theorem jF{Zs:List (κ×V)}{k:κ}(v:V)(h:cV Zs k=none):putK Zs k v=Zs++[(k,v)]:=by
 unfold putK;rw[dX,h];exact zAv Zx
theorem RelO.isSome_eq{o:Option V}{u:Option Value}(r:RelO o u):o.isSome=u.isSome:=by
 cases o with
 |none=>cases u with
  |none=>rfl
  |some _=>exact(show False from r).elim
 |some _=>cases u with
  |none=>exact(show False from r).elim
  |some _=>rfl
theorem KV.val{Zs:List (κ×V)}{vs:List (κ×Value)}(r:KV Zs vs)(k:κ):RelO (cV Zs k) (valueAt vs k):=by
 unfold KV at r
 induction r with
 |nil=>exact True.intro
 |@cons p q ps qs h t ih=>
  obtain⟨h1,h2⟩:=h;by_cases e:p.1=k
  .have e':q.1=k:=h1.symm.trans e;have b:valueAt (q::qs) k=some q.2:=by simp[valueAt,List.find?_cons,e']
   rw[cW e,b];exact h2
  .have e':¬q.1=k:=fun z=>e (h1.trans z);have b:valueAt (q::qs) k=valueAt qs k:=by simp[valueAt,List.find?_cons,e']
   rw[cX e,b];exact ih
theorem KV.any{Zs:List (κ×V)}{vs:List (κ×Value)}(r:KV Zs vs)(k:κ):(Zs.any fun kv=>decide (kv.1=k))=vs.any fun kv=>decide (kv.1=k):=by
 unfold KV at r
 induction r with
 |nil=>rfl
 |cons h t ih=>rw[List.any_cons,List.any_cons,ih,h.1]
theorem KV.repl{Zs:List (κ×V)}{vs:List (κ×Value)}(r:KV Zs vs)(k:κ){y:V}{u:Value}(ry:RelV y u):
  KV (Zs.map fun kv=>if kv.1=k then(kv.1,y)else kv) (vs.map fun kv=>if kv.1=k then(kv.1,u)else kv):=by
 unfold KV at r⊢
 induction r with
 |nil=>exact .nil
 |@cons p q ps qs h t ih=>
  rw[zAk,zAk];refine .cons ?_ ih;obtain⟨h1,h2⟩:=h;by_cases e:p.1=k
  .rw[zAy e,zAy (h1.symm.trans e)];exact⟨h1,ry⟩
  .rw[zAv e,zAv (fun z=>e (h1.trans z))];exact⟨h1,h2⟩
theorem KV.put{Zs:List (κ×V)}{vs:List (κ×Value)}(r:KV Zs vs)(k:κ){y:V}{u:Value}(ry:RelV y u):KV (putK Zs k y) (stored vs k u):=by
 unfold putK stored;rw[r.any k];by_cases e:(vs.any fun kv=>decide (kv.1=k))=true
 .rw[zAy e,zAy e];exact r.repl k ry
 .rw[zAv e,zAv e];exact Paired.snoc r ⟨rfl,ry⟩
theorem KV.length{Zs:List (κ×V)}{vs:List (κ×Value)}(r:KV Zs vs):Zs.length=vs.length:=Paired.length r
end
theorem tY{P:Program}{w:World}{k:Key}{u:Value}(r:RelV (kV k) u):(cC P w).is k u=true:=by
 cases k with
 |inl i=>obtain⟨t,e⟩:=(show ∃t,u=Value.int i t from r);subst e;exact tD P w i t
 |inr x=>obtain⟨t,e⟩:=(show ∃t,u=Value.str x t from r);subst e;exact tE P w x t
theorem q9{P:Program}{w:World}:∀{ks:List Key} {us:List Value},Vals (ks.map kV) us->ItemsAre (cC P w) ks us
 |[],_,r=>by rw[List.map_nil]at r;cases r;exact .nil
 |k::ks,_,r=>by
  rw[zAk]at r
  cases r with
  |cons h t=>exact .cons (tY h) (q9 t)
abbrev KT(H:Hp):List (List Key×V)->List (List Key×Addr×Value)->Prop:=Paired fun p q=>p.1=q.1/\H q.2.1=some (.tup (p.1.map kV))/\RelV p.2 q.2.2
theorem KT.val{H:Hp}{Zs:List (List Key×V)}{xs:List (List Key×Addr×Value)}(r:KT H Zs xs)(k:List Key):RelO (cV Zs k) ((atKey xs k).map (·.2)):=by
 induction r with
 |nil=>exact True.intro
 |@cons p q ps qs h t ih=>
  obtain⟨h1,_,h2⟩:=h;by_cases e:p.1=k
  .have e':q.1=k:=h1.symm.trans e;have b:atKey (q::qs) k=some q.2:=by simp[atKey,List.find?_cons,e']
   rw[cW e,b];exact h2
  .have e':¬q.1=k:=fun z=>e (h1.trans z);have b:atKey (q::qs) k=atKey qs k:=by simp[atKey,List.find?_cons,e']
   rw[cX e,b];exact ih
theorem KT.repl{H:Hp}{Zs:List (List Key×V)}{xs:List (List Key×Addr×Value)}(r:KT H Zs xs)(k:List Key){y:V}{u:Value}(ry:RelV y u):
  KT H (Zs.map fun kv=>if kv.1=k then(kv.1,y)else kv) (xs.map (putAt k u)):=by
 induction r with
 |nil=>exact .nil
 |@cons p q ps qs h t ih=>
  rw[zAk,zAk];refine .cons ?_ ih;obtain⟨h1,h2,h3⟩:=h;unfold putAt;by_cases e:p.1=k
  .rw[zAy e,zAy (h1.symm.trans e)];exact⟨h1,h2,ry⟩
  .rw[zAv e,zAv (fun z=>e (h1.trans z))];exact⟨h1,h2,h3⟩
theorem KT.put{H:Hp}{Zs:List (List Key×V)}{xs:List (List Key×Addr×Value)}(r:KT H Zs xs)(k:List Key){b:Addr}{y:V}{u:Value}(hb:H b=some (.tup (k.map kV)))(ry:RelV y u):
  KT H (putK Zs k y) (storedH xs k b u):=by
 have e:(Zs.any fun kv=>decide (kv.1=k))=(atKey xs k).isSome:=by
  rw[dX,(r.val k).isSome_eq,Option.isSome_map]
 unfold putK storedH;rw[e];by_cases q:(atKey xs k).isSome=true
 .rw[zAy q,zAy q];exact r.repl k ry
 .rw[zAv q,zAv q];exact Paired.snoc r ⟨rfl,hb,ry⟩
theorem KT.keeps{H H':Hp}{Zs:List (List Key×V)}{xs:List (List Key×Addr×Value)}(r:KT H Zs xs)(ht:∀b ys,H b=some (.tup ys)->H' b=some (.tup ys)):KT H' Zs xs:=
 Paired.mapP r fun _ _ z=>⟨z.1,ht _ _ z.2.1,z.2.2⟩
section
variable{P:Program}{w:World}{H:Hp}{h:Heap}{a:Addr}
theorem G7{u:HO}(ok:HOk P w H h)(e:Rd H a u):ObjOk P w H h a u:=e.ok ok
theorem tZ{Zs:List (Key×V)}(ok:HOk P w H h)(e:Rd H a (.dK Zs)):Zs.length<=sizeLine/\(a==sysModules)=false/\∃vs,KV Zs vs/\h.DictOf (cC P w) a vs:=
 show ObjOk P w H h a (.dK Zs)from G7 ok e
theorem J5{Zs:List (Key×V)}(ok:HOk P w H h)(e:H a=some (.dK Zs)):Zs.length<=sizeLine/\(a==sysModules)=false/\∃vs,KV Zs vs/\h.DictOf (cC P w) a vs:=tZ ok (.inl e)
theorem nu{ks:List Key}(ok:HOk P w H h)(e:H a=some (.tup (ks.map kV))):(tupleKind (cC P w)).is h ks a:=by
 obtain⟨_,Zr,r,o,h1,h2,n,h3⟩:=(show ObjOk P w H h a (.tup (ks.map kV))from ok a _ e)
 exact⟨o,Zr.toArray,n,h1,h2,h3,by simpa using q9 r⟩
theorem u0{Zs:List (List Key×V)}(ok:HOk P w H h)(e:Rd H a (.dT Zs)):Zs.length<=sizeLine/\(a==sysModules)=false /\
  ∃xs,KT H Zs xs/\h.DictOfH (tupleKind (cC P w)) a xs:=by
 obtain⟨z,y,xs,r,o,es,ep,h1,h2,h3,h4,h5⟩:=(show ObjOk P w H h a (.dT Zs)from G7 ok e)
 refine⟨z,y,xs,r,o,es,ep,h1,h2,h3,h4,fun x hx=>?_,h5⟩
 have all:∀{l:List (List Key×V)} {m:List (List Key×Addr×Value)},KT H l m->∀x∈m,(tupleKind (cC P w)).is h x.1 x.2.1:=by
  intro l m q
  induction q with
  |nil=>intro x hx;exact nomatch hx
  |@cons p q ps qs hq t ih=>
   intro x hx;rcases zAo.mp hx with e|hx
   .subst e;exact nu ok (by rw[<-hq.1];exact hq.2.1)
   .exact ih x hx
 exact all r x hx
theorem J6{Zs:List (List Key×V)}(ok:HOk P w H h)(e:H a=some (.dT Zs)):Zs.length<=sizeLine/\(a==sysModules)=false /\
  ∃xs,KT H Zs xs/\h.DictOfH (tupleKind (cC P w)) a xs:=u0 ok (.inl e)
end
def DGet(H:Hp)(a:Addr)(y:V)(r:Option V):Prop:=
 (∃Zs k,Rd H a (.dK Zs)/\y=kV k/\r=cV Zs k)\/∃Zs k b,Rd H a (.dT Zs)/\y=.ref b/\H b=some (.tup (k.map kV))/\r=cV Zs k
def DPut(H:Hp)(a:Addr)(y v:V)(H':Hp):Prop:=
 (∃Zs k,H a=some (.dK Zs)/\y=kV k/\Zs.length<sizeLine/\H'=upd H a (.dK (putK Zs k v))) \/
 ∃Zs k b,H a=some (.dT Zs)/\y=.ref b/\H b=some (.tup (k.map kV))/\Zs.length<sizeLine/\H'=upd H a (.dT (putK Zs k v))
theorem DGet.t{H:Hp}{a b:Addr}{Zs:List (List Key×V)}{k:List Key}(e:H a=some (.dT Zs))(eb:H b=some (.tup (k.map kV))):DGet H a (.ref b) (cV Zs k):=.inr ⟨Zs,k,b,.inl e,rfl,eb,rfl⟩
theorem DPut.t{H:Hp}{a b:Addr}{Zs:List (List Key×V)}{k:List Key}{v:V}(e:H a=some (.dT Zs))(eb:H b=some (.tup (k.map kV)))(hl:Zs.length<sizeLine):
  DPut H a (.ref b) v (upd H a (.dT (putK Zs k v))):=.inr ⟨Zs,k,b,e,rfl,eb,hl,rfl⟩
section
variable{X:Cx}{Zt:List (Addr×Obj)}{σ:St}{H:Hp}{s:Shared}{a:Addr}{y v:V}{u r:Value}{o:Option V}{A:Around}{E:Value->Shared->Prop}
theorem Inv.big(I:Inv X Zt σ H s):sysModules<s.heap.objs.size:=by
 have h:mainGlobals<s.heap.objs.size:=(I.mod.glob.keeps I.bk).lt;exact Nat.lt_trans Zx h
theorem yE{Q:Value->Shared->Prop}(hu:A.units+1<cLine)(I:Inv X Zt σ H s)(g:DGet H a y (some v))(ry:RelV y u)(h:∀w' s',Inv X Zt σ H s'->RelV v w'->Q w' s'):
  wpAny (model X.prog X.w) A (getItem (.ref a) u) Q E s:=by
 rcases g with⟨Zs,k,e,ey,l⟩|⟨Zs,k,b,e,ey,eb,l⟩
 .subst ey;obtain⟨z,hd,vs,rel,dd⟩:=tZ I.hok e;obtain⟨w',hw,f7⟩:=RelO.some_of (v:=v) (o:=valueAt vs k) (by rw[l];exact rel.val k);exact wpAny_getItem_of (tY ry) dd.mapOf hw (h w' _ (I.tok _) f7)
 .subst ey;cases(show u=Value.ref b from ry);obtain⟨z,hd,xs,rel,dd⟩:=u0 I.hok e;obtain⟨w',hw,f7⟩:=RelO.some_of (v:=v) (o:=(atKey xs k).map (·.2)) (by rw[l];exact rel.val k);obtain⟨p,hp,qE⟩:=Option.map_eq_some_iff.mp hw;refine wpAny_getItem_heap (tupleKind_room_in1 hu) (nu I.hok eb) dd hp ?_;rw[qE];exact h w' _ (I.tok _) f7
theorem Kh{Q:Value->Shared->Prop}(hu:A.units+1<cLine)(I:Inv X Zt σ H s)(g:DGet H a y o)(ry:RelV y u)(h:∀s',Inv X Zt σ H s'->Q (.bool o.isSome) s'):
  wpAny (model X.prog X.w) A (compareOp .In u (.ref a)) Q E s:=by
 rcases g with⟨Zs,k,e,ey,l⟩|⟨Zs,k,b,e,ey,eb,l⟩
 .subst ey;obtain⟨z,hd,vs,rel,dd⟩:=tZ I.hok e;refine wpAny_in_of (tY ry) hd dd.mapOf ?_;rw[<-(rel.val k).isSome_eq,<-l];exact h _ (I.tok _)
 .subst ey;cases(show u=Value.ref b from ry);obtain⟨z,hd,xs,rel,dd⟩:=u0 I.hok e;refine wpAny_in_heap (tupleKind_room_in1 hu) (nu I.hok eb) hd dd ?_;have q:=(rel.val k).isSome_eq;rw[Option.isSome_map]at q;rw[<-q,<-l];exact h _ (I.tok _)
theorem Eh{Q:Value->Shared->Prop}(hu:A.units+1<cLine)(I:Inv X Zt σ H s)(g:DGet H a y o)(ry:RelV y u)(h:∀s',Inv X Zt σ H s'->Q (.bool (!o.isSome)) s'):
  wpAny (model X.prog X.w) A (compareOp .NotIn u (.ref a)) Q E s:=by
 rcases g with⟨Zs,k,e,ey,l⟩|⟨Zs,k,b,e,ey,eb,l⟩
 .subst ey;obtain⟨z,hd,vs,rel,dd⟩:=tZ I.hok e;refine wpAny_notIn_of (tY ry) hd dd.mapOf ?_;rw[<-(rel.val k).isSome_eq,<-l];exact h _ (I.tok _)
 .subst ey;cases(show u=Value.ref b from ry);obtain⟨z,hd,xs,rel,dd⟩:=u0 I.hok e;refine wpAny_notIn_heap (tupleKind_room_in1 hu) (nu I.hok eb) hd dd ?_;have q:=(rel.val k).isSome_eq;rw[Option.isSome_map]at q;rw[<-q,<-l];exact h _ (I.tok _)
theorem wk{h':Heap}{t':Nat}{ob:HO}(I:Inv X Zt σ H s)(mu:Mut (H a))(hs:Heap.SameBut a s.heap h')(he:∃q,h'.get? a=some q)(new:ObjOk X.prog X.w (upd H a ob) h' a ob):
  Inv X Zt σ (upd H a ob) {s with heap:=h',toks:=t'}:=
 I.write (x:=a) (e:=a) mu (.inl rfl) (fun b q hb z=>(hs.2 b hb).trans z) he new
theorem GX{P:Program}{w:World}{H':Hp}{h':Heap}{Zs:List (Key×V)}{vs:List (Key×Value)}(z:Zs.length<=sizeLine)(hd:(a==sysModules)=false)(rel:KV Zs vs)(dd:h'.DictOf (cC P w) a vs):
  ObjOk P w H' h' a (.dK Zs):=⟨z,hd,vs,rel,dd⟩
theorem qb{H':Hp}{Q:Unit->Shared->Prop}(hu:A.units+1<cLine)(I:Inv X Zt σ H s)(g:DPut H a y v H')(ry:RelV y u)(rv:RelV v r)(h:∀s',Inv X Zt σ H' s'->Q () s'):
  wpAny (model X.prog X.w) A (setItem (.ref a) u r) Q E s:=by
 rcases g with⟨Zs,k,e,ey,l,eH⟩|⟨Zs,k,b,e,ey,eb,l,eH⟩
 .subst ey eH;obtain⟨z,hd,vs,rel,dd⟩:=J5 I.hok e;have hz:vs.length<=sizeLine:=by rw[<-rel.length];exact z
  have hl:(putK Zs k v).length<=sizeLine:=by have:=lG Zs k v;lia
  refine wpAny_setItem_pairs (hsz:=hz) (tY ry) dd fun h' ED hs=>h _ ?_
  have he:∃q,h'.get? a=some q:=let⟨q,_,_,hq,_⟩:=ED;⟨q,hq⟩
  exact wk I (by rw[e];exact True.intro) hs he (GX hl hd (rel.put k rv) ED)
 .subst ey eH;cases(show u=Value.ref b from ry);obtain⟨z,hd,xs,rel,dd⟩:=J6 I.hok e;have hz:xs.length<=sizeLine:=by rw[<-Paired.length rel];exact z
  have hl:(putK Zs k v).length<=sizeLine:=by have:=lG Zs k v;lia
  refine wpAny_setItem_heap (hsz:=hz) (tupleKind_room_in1 hu) (nu I.hok eb) dd fun h' ED hs=>h _ ?_;obtain⟨q,es,ep,hq,h2,h3,h4,_,h5⟩:=ED;refine wk I (by rw[e];exact True.intro) hs ⟨q,hq⟩ ⟨hl,hd,_,(rel.put k eb rv).keeps fun c ys ec=>?_,q,es,ep,hq,h2,h3,h4,h5⟩;rw[au (Ij ec e (fun z=>nomatch z))];exact ec
end
section
variable{X:Cx}{Zt:List (Addr×Obj)}{σ:St}{H:Hp}{s:Shared}{a:Addr}{Zs:List (Key×V)}{k:Key}{u:Value}{A:Around}{E:Value->Shared->Prop}
end
def J7(i:Expr):Prop:=∀ov iv,subscripted i false ov iv=operate [ov,iv] (getItem ov iv)
theorem Ei{prog:Program}{w:World}{A:Around}{E:Value->Shared->Prop}{s:Shared}{env:Env}{value slice:Expr}{pos:Pos}{T id:String}{Q:Value->Shared->Prop}
  (hl:typeLookup (.type T) "__getitem__"=pure (some (.builtin id))) (hs:J7 slice)
  (h:wpAny (model prog w) A (eval value env) (fun o s₁=>wpAny (model prog w) A (eval slice env) (fun i s₂=>s₂.TypeIs o T/\wpAny (model prog w) A (getItem o i) Q E s₂) E s₁) E s):
  wpAny (model prog w) A (eval (.Subscript value slice pos) env) Q E s:=by
 refine Subscript_ (wpAny_mono h (fun o s₁ h₁=>wpAny_mono h₁ (fun i s₂ kQ=>?_) fun _ _ x=>x) fun _ _ x=>x);obtain⟨hT,kQ⟩:=kQ;unfold subscriptTail;refine zAu ?_;rw[getitemInPython_of_ne hT.not_modules];refine zAu (wpAny_specialOf hT hl ?_)
 have fin:wpAny (model prog w) A (subscripted slice false o i) (fun r s₃=>wpAny (model prog w) A (letTemporaryGo value o r>>=fun _=>pure r) Q E s₃) E s₂:=by
  rw[hs o i];exact wpAny_operating (wpAny_mono kQ (fun r s₃ nI=>zAu (wpAny_letTemporaryGo (zAz nI))) fun _ _ x=>x)
 first
  |exact zAz (zAu fin)
  |exact zAu (zAz (zAu fin))
  |exact zAu fin
theorem u5{X:Cx}{Zt:List (Addr×Obj)}{σ:St}{H:Hp}{s:Shared}{a:Addr}{y:V}{o:Option V}(I:Inv X Zt σ H s)(g:DGet H a y o):s.TypeIs (.ref a) "dict":=by
 rcases g with⟨Zs,k,e,_,_⟩|⟨Zs,k,b,e,_,_,_⟩
 .obtain⟨_,_,vs,_,dd⟩:=tZ I.hok e;exact dd.typeIs
 .obtain⟨_,_,xs,_,dd⟩:=u0 I.hok e;exact dd.typeIs
def J8(td ty:TE):TE:=fun σ H Q=>td σ H fun x H1=>ty σ H1 fun y H2=>∃a v,x=.ref a/\DGet H2 a y (some v)/\Q v H2
def Kl(ty td:TE):TE:=fun σ H Q=>ty σ H fun y H1=>td σ H1 fun x H2=>∃a o,x=.ref a/\DGet H2 a y o/\Q (.bl o.isSome) H2
def Ej(ty td:TE):TE:=fun σ H Q=>ty σ H fun y H1=>td σ H1 fun x H2=>∃a o,x=.ref a/\DGet H2 a y o/\Q (.bl (!o.isSome)) H2
def J9(td ty tv:TE):TS:=fun D σ H=>tv σ H fun v H1=>td σ H1 fun x H2=>ty σ H2 fun y H3=>∃a H4,x=.ref a/\DPut H3 a y v H4/\D.nx σ H4
section
variable{X:Cx}{o i e value:Expr}{pos pos' sC:Pos}{td ty tv:TE}
theorem dY(hu:X.A.units+1<cLine)(ho:PE X o td)(hi:PE X i ty)(hs:J7 i):PE X (.Subscript o i pos) (J8 td ty):=by
 intro Zt s σ H Q I h;refine Ei PySem.F.slot_dict_getitem.lookup hs (thn (ho Zt s σ H _ I h) fun u s1 ⟨x,H1,I1,rx,q1⟩=>thn (hi Zt s1 σ H1 _ I1 q1) fun iv s2 ⟨y,H2,I2,ry,a,v,ex,g,q2⟩=>?_);subst ex;obtain rfl:u=Value.ref a:=rx;exact⟨u5 I2 g,yE hu I2 g ry fun w' s3 I3 f7=>⟨v,H2,I3,f7,q2⟩⟩
theorem GZ(hu:X.A.units+1<cLine)(hi:PE X i ty)(ho:PE X o td):PC X .In i o (Kl ty td):=by
 intro Zt s σ H Q I h;refine thn (hi Zt s σ H _ I h) fun iv s1 ⟨y,H1,I1,ry,q1⟩=>thn (ho Zt s1 σ H1 _ I1 q1) fun u s2 ⟨x,H2,I2,rx,a,ov,ex,g,q2⟩=>?_;subst ex;obtain rfl:u=Value.ref a:=rx
 exact Kh hu I2 g ry fun s3 I3=>⟨.bl ov.isSome,H2,I3,rfl,q2⟩
theorem yF(hu:X.A.units+1<cLine)(hi:PE X i ty)(ho:PE X o td):PC X .NotIn i o (Ej ty td):=by
 intro Zt s σ H Q I h;refine thn (hi Zt s σ H _ I h) fun iv s1 ⟨y,H1,I1,ry,q1⟩=>thn (ho Zt s1 σ H1 _ I1 q1) fun u s2 ⟨x,H2,I2,rx,a,ov,ex,g,q2⟩=>?_;subst ex;obtain rfl:u=Value.ref a:=rx
 exact Eh hu I2 g ry fun s3 I3=>⟨.bl (!ov.isSome),H2,I3,rfl,q2⟩
theorem wu(hu:X.A.units+1<cLine)(ho:PE X o td)(hi:PE X i ty)(hv:PE X value tv)(hs:swapsWith value (some (.Subscript o i pos')) pos.line X.env=pure false):
  PS X (.Assign [.Subscript o i pos'] value pos) (J9 td ty tv):=by
 intro Zt s σ H D I h;refine wpAny_Assign_Subscript (thn (hv Zt s σ H _ I h) fun r s1 ⟨v,H1,I1,rv,q1⟩=>thn (ho Zt s1 σ H1 _ I1 q1) fun u s2 ⟨x,H2,I2,rx,q2⟩=>thn (hi Zt s2 σ H2 _ I2 q2) fun iv s3 ⟨y,H3,I3,ry,a,H4,ex,g,q3⟩=>?_) hs;subst ex;obtain rfl:u=Value.ref a:=rx
 exact qb hu I3 g ry rv fun s4 I4=>⟨σ,H4,I4,q3⟩
end
theorem Aq{P:Program}{w:World}{H:Hp}(h:Heap)(hb:sysModules<h.objs.size):ObjOk P w H (h.push {cls:=.type "dict",data:=.dict #[]}) h.objs.size (.dT []):=
 ⟨zAp _,beq_eq_false_iff_ne.mpr (Ne.symm (zB9 hb)),[],.nil,_,#[],0,zB2 _ rfl,⟨rfl,rfl,rfl⟩,rfl,rfl,List.nodup_nil⟩
def Hf:TE:=fun _ H Q=>∀p,H p=none->Q (.ref p) (upd H p (.dT []))
section
variable{X:Cx}{pos:Pos}
theorem u6:PE X (.Dict [] [] pos) Hf:=fun Zt s σ H Q I h=>
 wpAny_Dict_empty ⟨.ref s.heap.objs.size,_,I.laid (a:=s.heap.objs.size) (o:=.dT []) (t':=s.toks) (fun _ _ q=>zAw _ q) (zA3 _) (Aq s.heap I.big),rfl,h _ (I.hok.fresh (zA3 _))⟩
end
section
variable{X:Cx}{Zt:List (Addr×Obj)}{σ:St}{H:Hp}{s:Shared}{a:Addr}{y d:V}{u r:Value}{o:Option V}{A:Around}{E:Value->Shared->Prop}
end
section
variable{X:Cx}{o e f:Expr}{apos fw:Pos}{td ty tx:TE}
end
section
variable{X:Cx}{Zt:List (Addr×Obj)}{σ:St}{H:Hp}{s:Shared}{a:Addr}{Zs:List (Key×V)}{A:Around}{E:Value->Shared->Prop}
end
section
variable{X:Cx}{Zt:List (Addr×Obj)}{σ:St}{H:Hp}{s:Shared}{a:Addr}{y:V}{u:Value}{A:Around}{E:Value->Shared->Prop}
end
def Ek:Key->PyData
 |.inl i=>.int i
 |.inr x=>.str x
mutual
inductive IsTh(S:Addr->Prop)(H:Hp):V->PyData->Prop
 |non:IsTh S H .non .none
 |bl (b:Bool):IsTh S H (.bl b) (.bool b)
 |int (i:Int):IsTh S H (.int i) (.int i)
 |str (x:Str):IsTh S H (.str x) (.str x)
 |lst {a:Addr} {xs:List V} {ds:List PyData} (hs:S a) (e:H a=some (.lst xs)) (r:IsThs S H xs ds):IsTh S H (.ref a) (.list ds)
 |tup {a:Addr} {xs:List V} {ds:List PyData} (e:H a=some (.tup xs)) (r:IsThs S H xs ds):IsTh S H (.ref a) (.tuple ds)
 |dct {a:Addr} {ks:List (Key×Int)} (hs:S a) (e:H a=some (.dK (ks.map fun p=>(p.1,V.int p.2)))):IsTh S H (.ref a) (.dict (ks.map fun p=>(Ek p.1,.int p.2)))
inductive IsThs(S:Addr->Prop)(H:Hp):List V->List PyData->Prop
 |nil:IsThs S H [] []
 |cons {v:V} {d:PyData} {vs:List V} {ds:List PyData} (h:IsTh S H v d) (t:IsThs S H vs ds):IsThs S H (v::vs) (d::ds)
end
section
variable{S S':Addr->Prop}{H H':Hp}
theorem IsThs.length:∀{vs:List V} {ds:List PyData},IsThs S H vs ds->vs.length=ds.length
 |_,_,.nil=>rfl
 |_,_,.cons _ t=>by rw[zAe,zAe,IsThs.length t]
theorem IsThs.get:∀{vs:List V} {ds:List PyData} {i:Nat} {v:V},IsThs S H vs ds->vs[i]?=some v->∃d,ds[i]?=some d/\IsTh S H v d
 |_,_,_,_,.nil,e=>by simp at e
 |_,_,0,_,.cons h _,e=>by simp at e;subst e;exact⟨_,rfl,h⟩
 |_,_,i+1,v,.cons _ t,e=>by
  obtain⟨d,h1,h2⟩:=IsThs.get (i:=i) (v:=v) t (by simpa using e);exact⟨d,by simpa using h1,h2⟩
theorem IsThs.append:∀{vs ws:List V} {ds es:List PyData},IsThs S H vs ds->IsThs S H ws es->IsThs S H (vs++ws) (ds++es)
 |_,_,_,_,.nil,s=>s
 |_,_,_,_,.cons h t,s=>.cons h (IsThs.append t s)
theorem IsThs.ints:∀(ns:List Int),IsThs S H (ns.map V.int) (ns.map PyData.int)
 |[]=>.nil
 |n::ns=>.cons (.int n) (IsThs.ints ns)
mutual
theorem IsTh.keep(ht:∀b xs,H b=some (.tup xs)->H' b=some (.tup xs))(hs:∀b o,S b->H b=some o->H' b=some o)(hS:∀b o,S b->H b=some o->S' b):∀{v:V} {d:PyData},IsTh S H v d->IsTh S' H' v d
 |_,_,.non=>.non
 |_,_,.bl b=>.bl b
 |_,_,.int i=>.int i
 |_,_,.str x=>.str x
 |_,_,.lst s e r=>.lst (hS _ _ s e) (hs _ _ s e) (IsThs.keep ht hs hS r)
 |_,_,.tup e r=>.tup (ht _ _ e) (IsThs.keep ht hs hS r)
 |_,_,.dct s e=>.dct (hS _ _ s e) (hs _ _ s e)
theorem IsThs.keep(ht:∀b xs,H b=some (.tup xs)->H' b=some (.tup xs))(hs:∀b o,S b->H b=some o->H' b=some o)(hS:∀b o,S b->H b=some o->S' b):∀{vs:List V} {ds:List PyData},IsThs S H vs ds->IsThs S' H' vs ds
 |_,_,.nil=>.nil
 |_,_,.cons h t=>.cons (IsTh.keep ht hs hS h) (IsThs.keep ht hs hS t)
end
def tyD:PyData->String
 |.none=>"NoneType"
 |.bool _=>"bool"
 |.int _=>"int"
 |.str _=>"str"
 |.list _=>"list"
 |.tuple _=>"tuple"
 |.dict _=>"dict"
theorem IsTh.ty{K:Frag}{v:V}{d:PyData}(h:IsTh S H v d):TyOf K H v (.type (tyD d)):=by
 cases h with
 |non=>exact .non
 |bl b=>exact .bl b
 |int i=>exact .int i
 |str x=>exact .str x
 |lst s e r=>exact .lst e
 |tup e r=>exact .tup e
 |dct s e=>exact .dK e
def rB:PyData->Bool
 |.int _=>true
 |.bool _=>true
 |_=>false
def rC:PyData->Bool
 |.bool _=>true
 |_=>false
def rD:PyData->Bool
 |.tuple _=>true
 |_=>false
theorem El{K:Frag}(d:PyData):PySem.W.kitOne K (.type (tyD d)) (.type "int")=some (rB d):=by
 cases d
 .exact kh
 .exact qY
 .exact tV
 .exact tW
 .exact rz
 .exact oX
 .exact rA
theorem Ar{K:Frag}(d:PyData):PySem.W.kitOne K (.type (tyD d)) (.type "bool")=some (rC d):=by
 cases d
 .exact jE
 .exact oR
 .exact qZ
 .exact rm
 .exact oW
 .exact nj
 .exact oY
theorem Em{K:Frag}(d:PyData):PySem.W.kitOne K (.type (tyD d)) (.type "tuple")=some (rD d):=by
 cases d
 .exact jk
 .exact mZ
 .exact oU
 .exact oV
 .exact ni
 .exact lU
 .exact nq
end
mutual
def sz:PyData->Nat
 |.none=>1
 |.bool _=>1
 |.int _=>1
 |.str _=>1
 |.list xs=>1+szs xs
 |.tuple xs=>1+szs xs
 |.dict Zs=>1+4*Zs.length
def szs:List PyData->Nat
 |[]=>0
 |x::xs=>sz x+szs xs
end
mutual
def tame:PyData->Bool
 |.none=>true
 |.bool _=>true
 |.int i=>decide (i.natAbs<2^128)
 |.str x=>decide (x.length<=10)&&x.cps.toList.all fun c=>decide (c<16^8)
 |.list xs=>jg xs
 |.tuple xs=>jg xs
 |.dict Zs=>aY Zs
def jg:List PyData->Bool
 |[]=>true
 |x::xs=>tame x&&jg xs
def aY:List (PyData×PyData)->Bool
 |[]=>true
 | (.int i,.int j)::r=>decide (i.natAbs<2^128)&&decide (j.natAbs<2^128)&&aY r
 | (.str x,.int j)::r=>(decide (x.length<=10)&&x.cps.toList.all fun c=>decide (c<16^8))&&decide (j.natAbs<2^128)&&aY r
 |_::_=>false
end
theorem my{i:Int}(h:i.natAbs<2^128):(Str.ofString (toString i)).length<=130:=by
 have e:=int_text_length_le (a:=i) (k:=128) Zx (by
  by_cases h0:i.natAbs=0
  .rw[h0];decide
  .exact(Nat.log2_lt h0).mpr h)
 rw[PySem.ofString_length];lia
theorem lH:∀(ts:List Str) (k:Nat) (acc:Str),(textFrom k acc ts).length<=acc.length+piled ts
 |[],k,acc=>by show acc.length<=acc.length+0;lia
 |t::r,k,acc=>by
  have h:=lH r (k+1) (acc++(if k>0 then ", " else "":String)++t)
  have e:(acc++(if k>0 then ", " else "":String)++t).length<=acc.length+2+t.length:=by
   rw[strLen_append,strLen_append];split
   .show acc.length+2+t.length<=_;lia
   .show acc.length+0+t.length<=_;lia
  rw[piled_cons];show(textFrom (k+1) _ r).length<=_;lia
theorem u9(ts:List Str):(listText ts).length<=piled ts+2:=by
 have h:=lH ts 0 "[";unfold listText;rw[strLen_append];have e1:(("[":Str)).length=1:=rfl;have e2:(("]":Str)).length=1:=rfl;lia
theorem wy(ts:List Str):(Str.join ", " ts).length<=piled ts:=by
 by_cases h:ts=[]
 .subst h;show 0<=_;lia
 .have:=join_length_add ts h;lia
theorem rE(ts:List Str):(tupleText ts).length<=piled ts+3:=by
 have h:=wy ts;unfold tupleText;rw[strLen_append,strLen_append];have e1:(("(":Str)).length=1:=rfl
 have e2:((if ts.length==1 then ",)" else ")":String):Str).length<=2:=by
  split
  .exact zA3 2
  .exact Nat.le_succ 1
 lia
theorem uc(ts:List Str):(dictText ts).length<=piled ts+2:=by
 have h:=wy ts;unfold dictText;rw[strLen_append,strLen_append];have e1:(("{":Str)).length=1:=rfl;have e2:(("}":Str)).length=1:=rfl;lia
theorem shownKv_le:∀(Zs:List (PyData×PyData)),aY Zs=true->piled (PyData.shownKv Zs)<=400*Zs.length
 |[],_=>by show 0<=_;lia
 | (.int i,.int j)::r,h=>by
  have h':(decide (i.natAbs<2^128)&&decide (j.natAbs<2^128)&&aY r)=true:=h;simp only[Bool.and_eq_true,Zp]at h';have h1:=my h'.1.1;have h2:=my h'.1.2;have h3:=shownKv_le r h'.2;show piled ((PyData.shown (.int i)++": " ++ PyData.shown (.int j))::PyData.shownKv r)<=_;rw[piled_cons,strLen_append,strLen_append];have e1:((": ":Str)).length=2:=rfl;have e2:PyData.shown (.int i)=Str.ofString (toString i):=rfl;have e3:PyData.shown (.int j)=Str.ofString (toString j):=rfl;rw[e1,e2,e3,zAe];lia
 | (.none,_)::_,h=>by simp[aY]at h
 | (.bool _,_)::_,h=>by simp[aY]at h
 | (.str x,.int j)::r,h=>by
  have h':((decide (x.length<=10)&&x.cps.toList.all fun c=>decide (c<16^8))&&decide (j.natAbs<2^128)&&aY r)=true:=h;rw[zAc,zAc,zAc,Zp,Zp]at h';have h0:x.length<=10:=h'.1.1.1
  have h1:=StrLaws.reprText_len x fun c hc=>by simpa using List.all_eq_true.mp h'.1.1.2 c hc
  have h2:=my h'.1.2;have h3:=shownKv_le r h'.2;show piled ((PyData.shown (.str x)++": " ++ PyData.shown (.int j))::PyData.shownKv r)<=_;rw[piled_cons,strLen_append,strLen_append];have e1:((": ":Str)).length=2:=rfl;have e2:PyData.shown (.str x)=reprText x:=rfl;have e3:PyData.shown (.int j)=Str.ofString (toString j):=rfl;rw[e1,e2,e3,zAe];lia
 | (.str _,.none)::_,h=>by simp[aY]at h
 | (.str _,.bool _)::_,h=>by simp[aY]at h
 | (.str _,.str _)::_,h=>by simp[aY]at h
 | (.str _,.list _)::_,h=>by simp[aY]at h
 | (.str _,.tuple _)::_,h=>by simp[aY]at h
 | (.str _,.dict _)::_,h=>by simp[aY]at h
 | (.list _,_)::_,h=>by simp[aY]at h
 | (.tuple _,_)::_,h=>by simp[aY]at h
 | (.dict _,_)::_,h=>by simp[aY]at h
 | (.int _,.none)::_,h=>by simp[aY]at h
 | (.int _,.bool _)::_,h=>by simp[aY]at h
 | (.int _,.str _)::_,h=>by simp[aY]at h
 | (.int _,.list _)::_,h=>by simp[aY]at h
 | (.int _,.tuple _)::_,h=>by simp[aY]at h
 | (.int _,.dict _)::_,h=>by simp[aY]at h
mutual
theorem qd:∀(d:PyData),tame d=true->d.shown.length+2<=200*sz d
 |.none,_=>by decide +kernel
 |.bool true,_=>by decide +kernel
 |.bool false,_=>by decide +kernel
 |.int i,h=>by
  have:=my (i:=i) (by simpa[tame]using h);show(Str.ofString (toString i)).length+2<=200*1;lia
 |.str x,h=>by
  have h':(decide (x.length<=10)&&x.cps.toList.all fun c=>decide (c<16^8))=true:=h;rw[zAc]at h';have h1:x.length<=10:=by simpa using h'.1
  have:=StrLaws.reprText_len x fun c hc=>by simpa using List.all_eq_true.mp h'.2 c hc
  show(reprText x).length+2<=200*1;lia
 |.list xs,h=>by
  have h1:=il xs (by simpa[tame]using h);have h2:=u9 (PyData.shownAll xs);show(listText (PyData.shownAll xs)).length+2<=200*(1+szs xs);lia
 |.tuple xs,h=>by
  have h1:=il xs (by simpa[tame]using h);have h2:=rE (PyData.shownAll xs);show(tupleText (PyData.shownAll xs)).length+2<=200*(1+szs xs);lia
 |.dict Zs,h=>by
  have h1:=shownKv_le Zs (by simpa[tame]using h);have h2:=uc (PyData.shownKv Zs);show(dictText (PyData.shownKv Zs)).length+2<=200*(1+4*Zs.length);lia
theorem il:∀(xs:List PyData),jg xs=true->piled (PyData.shownAll xs)<=200*szs xs
 |[],_=>by show 0<=_;lia
 |x::xs,h=>by
  have h':(tame x&&jg xs)=true:=h;rw[zAc]at h';have h1:=qd x h'.1;have h2:=il xs h'.2;show piled (PyData.shown x::PyData.shownAll xs)<=200*(sz x+szs xs);rw[piled_cons];lia
end
theorem gD:∀(Zs:List (PyData×PyData)),aY Zs=true->PyData.showableKv Zs=true
 |[],_=>rfl
 | (.int i,.int j)::r,h=>by
  have h':(decide (i.natAbs<2^128)&&decide (j.natAbs<2^128)&&aY r)=true:=h;simp only[Bool.and_eq_true,Zp]at h'
  have big:∀{n:Int},n.natAbs<2^128->n.natAbs.log2<1920:=fun{n} hn=>by
   by_cases h0:n.natAbs=0
   .rw[h0];decide
   .exact Nat.lt_trans ((Nat.log2_lt h0).mpr hn) Zx
  simp only[PyData.showableKv,PyData.showable,Bool.and_eq_true,Zp];exact⟨⟨big h'.1.1,big h'.1.2⟩,gD r h'.2⟩
 | (.none,_)::_,h=>by simp[aY]at h
 | (.bool _,_)::_,h=>by simp[aY]at h
 | (.str x,.int j)::r,h=>by
  have h':((decide (x.length<=10)&&x.cps.toList.all fun c=>decide (c<16^8))&&decide (j.natAbs<2^128)&&aY r)=true:=h;rw[zAc,zAc,Zp]at h'
  have big:∀{n:Int},n.natAbs<2^128->n.natAbs.log2<1920:=fun{n} hn=>by
   by_cases h0:n.natAbs=0
   .rw[h0];decide
   .exact Nat.lt_trans ((Nat.log2_lt h0).mpr hn) Zx
  simp only[PyData.showableKv,PyData.showable,Bool.and_eq_true,Zp];exact⟨⟨trivial,big h'.1.2⟩,gD r h'.2⟩
 | (.str _,.none)::_,h=>by simp[aY]at h
 | (.str _,.bool _)::_,h=>by simp[aY]at h
 | (.str _,.str _)::_,h=>by simp[aY]at h
 | (.str _,.list _)::_,h=>by simp[aY]at h
 | (.str _,.tuple _)::_,h=>by simp[aY]at h
 | (.str _,.dict _)::_,h=>by simp[aY]at h
 | (.list _,_)::_,h=>by simp[aY]at h
 | (.tuple _,_)::_,h=>by simp[aY]at h
 | (.dict _,_)::_,h=>by simp[aY]at h
 | (.int _,.none)::_,h=>by simp[aY]at h
 | (.int _,.bool _)::_,h=>by simp[aY]at h
 | (.int _,.str _)::_,h=>by simp[aY]at h
 | (.int _,.list _)::_,h=>by simp[aY]at h
 | (.int _,.tuple _)::_,h=>by simp[aY]at h
 | (.int _,.dict _)::_,h=>by simp[aY]at h
mutual
theorem lJ:∀(d:PyData),tame d=true->d.showable=true
 |.none,_=>rfl
 |.bool _,_=>rfl
 |.int i,h=>by
  have h':i.natAbs<2^128:=by simpa[tame]using h
  have:i.natAbs.log2<1920:=by
   by_cases h0:i.natAbs=0
   .rw[h0];decide
   .exact Nat.lt_trans ((Nat.log2_lt h0).mpr h') Zx
  simp only[PyData.showable];exact decide_eq_true this
 |.str _,_=>rfl
 |.list xs,h=>by
  simp only[PyData.showable];exact ir xs (by simpa[tame]using h)
 |.tuple xs,h=>by
  simp only[PyData.showable];exact ir xs (by simpa[tame]using h)
 |.dict Zs,h=>by
  simp only[PyData.showable];exact gD Zs (by simpa[tame]using h)
theorem ir:∀(xs:List PyData),jg xs=true->PyData.showableAll xs=true
 |[],_=>rfl
 |x::xs,h=>by
  have h':(tame x&&jg xs)=true:=h;rw[zAc]at h';simp only[PyData.showableAll,Bool.and_eq_true];exact⟨lJ x h'.1,ir xs h'.2⟩
end
section
variable{X:Cx}{Zt:List (Addr×Obj)}{σ:St}{H:Hp}{s:Shared}{S:Addr->Prop}
theorem nA{P:Program}{w:World}:∀{ks:List (Key×Int)} {vs:List (Key×Value)} {es:List DictEntry},KV (ks.map fun p=>(p.1,V.int p.2)) vs->Pairs (cC P w) es vs->
  (∃as,ReadsAll s.heap (es.map (·.key)) ((ks.map fun p=>(Ek p.1,PyData.int p.2)).map (·.1)) as/\as=[])/\∃as,ReadsAll s.heap (es.map (·.val)) ((ks.map fun p=>(Ek p.1,PyData.int p.2)).map (·.2)) as/\as=[]
 |[],vs,es,r,p=>by
  cases r;cases p;exact⟨⟨_,.nil,rfl⟩,⟨_,.nil,rfl⟩⟩
 | (k,n)::ks,vs,es,r,p=>by
  cases r with
  |@cons a b l1 l2 h t=>
   cases p with
   |@cons e kv fR kvs' h1 h2 h3=>
    obtain⟨⟨_,i1,rfl⟩,⟨_,i2,rfl⟩⟩:=nA (ks:=ks) t h3;obtain⟨q1,q2⟩:=h;have Ng:mQ b.1 e.key=true:=h1;rw[<-q1]at Ng;obtain⟨tv,P4⟩:∃t,b.2=Value.int n t:=q2;rw[P4]at h2;refine⟨⟨_,?_,rfl⟩,⟨_,?_,rfl⟩⟩
    .show ReadsAll s.heap (e.key::fR.map (·.key)) (Ek k::_) ([]++[]);rcases cg Ng with⟨i,tk,ei,ev⟩|⟨x,tk,ei,ev⟩
     .have ei:k=Sum.inl i:=ei;rw[ev,ei];exact .cons (.int _ _) i1
     .have ei:k=Sum.inr x:=ei;rw[ev,ei];exact .cons (.str _ _) i1
    .show ReadsAll s.heap (e.val::fR.map (·.val)) (PyData.int n::_) ([]++[]);rw[h2];exact .cons (.int _ _) i2
mutual
theorem IsTh.reads(I:Inv X Zt σ H s):∀{v:V} {d:PyData} {u:Value},IsTh S H v d->RelV v u->∃as,Reads s.heap u d as/\∀a∈as,S a
 |_,_,_,.non,r=>by cases(show _=Value.none from r);exact⟨[],.none,fun _ h=>nomatch h⟩
 |_,_,_,.bl b,r=>by cases(show _=Value.bool b from r);exact⟨[],.bool b,fun _ h=>nomatch h⟩
 |_,_,_,.int i,r=>by obtain⟨t,rfl⟩:=r;exact⟨[],.int i t,fun _ h=>nomatch h⟩
 |_,_,_,.str x,r=>by obtain⟨t,rfl⟩:=r;exact⟨[],.str x t,fun _ h=>nomatch h⟩
 |_,_,_,@IsTh.lst _ _ a xs ds hs e t,r=>by
  cases(show _=Value.ref a from r)
  obtain⟨_,Zr,n,rv,ho⟩:=(show ObjOk X.prog X.w H s.heap a (.lst xs)from I.hok a _ e)
  obtain⟨as,h1,h2⟩:=IsThs.reads I t rv;refine⟨a::as,.list ho rfl rfl (by simpa using h1),fun b hb=>?_⟩;rcases zAo.mp hb with z|z
  .rw[z];exact hs
  .exact h2 b z
 |_,_,_,@IsTh.tup _ _ a xs ds e t,r=>by
  cases(show _=Value.ref a from r)
  obtain⟨_,Zr,rv,o,ho,hc,n,hd⟩:=(show ObjOk X.prog X.w H s.heap a (.tup xs)from I.hok a _ e)
  obtain⟨as,h1,h2⟩:=IsThs.reads I t rv;exact⟨as,.tuple ho hc hd (by simpa using h1),h2⟩
 |_,_,_,@IsTh.dct _ _ a ks hs e,r=>by
  cases(show _=Value.ref a from r)
  obtain⟨_,_,vs,rel,o,es,ep,ho,hx,hd,_,hp,_⟩:=(show ObjOk X.prog X.w H s.heap a (.dK _)from I.hok a _ e)
  obtain⟨⟨_,i1,rfl⟩,⟨_,i2,rfl⟩⟩:=nA (s:=s) rel hp;refine⟨a::[]++[],.dict ho hx.1 hd i1 i2,fun b hb=>?_⟩;rw[show b=a by simpa using hb];exact hs
theorem IsThs.reads(I:Inv X Zt σ H s):∀{vs:List V} {ds:List PyData} {us:List Value},IsThs S H vs ds->Vals vs us->∃as,ReadsAll s.heap us ds as/\∀a∈as,S a
 |_,_,_,.nil,r=>by cases r;exact⟨[],.nil,fun _ h=>nomatch h⟩
 |_,_,_,.cons h t,r=>by
  cases r with
  |cons r1 r2=>
   obtain⟨as,h1,h2⟩:=IsTh.reads I h r1;obtain⟨bs,h3,h4⟩:=IsThs.reads I t r2;exact⟨as++bs,.cons h1 h3,fun b hb=>(zA6.mp hb).elim (h2 b) (h4 b)⟩
end
end
section
variable{X:Cx}
theorem yG(hu:X.A.units<cLine):OpR X (compareOp .Eq) (fun x y H Q=>∃a b xs,x=.ref a/\y=.ref b/\SqT X.K H a xs/\SqT X.K H b []/\Q (.bl xs.isEmpty) H):=by
 intro Zt s σ H x y v u Q I rx ry h;obtain⟨a,b,xs,rfl,rfl,ha,hb,q⟩:=h;cases rx;cases ry;obtain⟨Zr,r1,p1,_⟩:=I.tuple ha;obtain⟨bE,r2,p2,_⟩:=I.tuple hb;have e2:bE=[]:=r2.zero;subst e2;refine PySem.SeqAt.eq_tupleAt (e:=fun _=>true) p1 p2 hu (fun j h1 h2=>absurd h2 Zy) ?_
 have e3:((List.range (min Zr.toArray.size ([]:List Value).toArray.size)).all (fun _=>true)&&Zr.toArray.size==([]:List Value).toArray.size)=xs.isEmpty:=by
  have:=r1.length
  cases Zr with
  |nil=>
   cases r1;rfl
  |cons a r=>cases xs with
   |nil=>simp at this
   |cons b r'=>simp
 rw[e3];exact⟨.bl _,H,I,rfl,q⟩
end
section
variable{prog:Program}{w:World}{A:Around}{E:Value->Shared->Prop}{s:Shared}
theorem Hg{j t:Addr}{i:Nat}{Zr:Array Value}{x:Value}{Q:Value->Shared->Prop}(hj:s.heap.IsTupleIter j t i)(ht:s.heap.IsTuple t Zr)(hx:Zr[i]?=some x)
  (hQ:∀h',h'.IsTupleIter j t (i+1)->Heap.SameBut j s.heap h'->Q x {s with heap:=h'}):wpAny (model prog w) A (Builtin.SmallTypes.nextOf (.ref j)) Q E s:=by
 obtain⟨o,ho,hc,hd⟩:=id hj;obtain⟨p,hp,_,m,hm⟩:=ht;unfold Builtin.SmallTypes.nextOf;refine wpAny_bind (wpAny_callSpecial?_slot (name:=Str.ofString "__next__") hj.typeIs F.slot_tuple_iterator_next (wpAny_call_entry F.slot_tuple_iterator_next hj.typeIs F.entry_tuple_iterator_next ?_ (F.args_tuple_iterator_next_1 _)));show wpAny _ _ (field (.ref j) 0>>=_) _ _ s;refine wpAny_bind (wpAny_field ho hd (x:=.ref t) rfl ?_);show wpAny _ _ (if(Value.ref t==Value.none)=true then _ else _) _ _ s;rw[if_neg (show¬((Value.ref t==Value.none)=true) by intro z;exact zAg z)];show wpAny _ _ (field (.ref j) 1>>=_) _ _ s;refine wpAny_bind (wpAny_field ho hd (x:=.int i 0) rfl (wpAny_bind (wpAny_seqItems hp hm ?_)));simp only[Int.toNat_natCast,hx]
 refine wpAny_bind (wpAny_setField ho hd Zy (wpAny_pure ⟨x,rfl,wpAny_pure (hQ _ ⟨_,Heap.get?_update_self _ ho (Obj.isFreed_of_fields (Obj.data_mapFields hd _)),(Obj.cls_mapFields ..).trans hc,by
  rw[Obj.data_mapFields hd]
  simp[rawInt]⟩ (Heap.SameBut.update ..))⟩))
theorem v9{j t:Addr}{i:Nat}{Zr:Array Value}{Q:Value->Shared->Prop}(hh:A.handled=none)(hj:s.heap.IsTupleIter j t i)(ht:s.heap.IsTuple t Zr)(hx:Zr[i]?=none)
  (hE:∀h' e,Heap.ExtBut j s.heap h'->(∃o,h'.get? e=some o/\o.cls=.type "StopIteration")->E (.ref e) {s with heap:=h'}):wpAny (model prog w) A (Builtin.SmallTypes.nextOf (.ref j)) Q E s:=by
 obtain⟨o,ho,hc,hd⟩:=id hj;obtain⟨p,hp,_,m,hm⟩:=ht;unfold Builtin.SmallTypes.nextOf;refine wpAny_bind (wpAny_callSpecial?_slot (name:=Str.ofString "__next__") hj.typeIs F.slot_tuple_iterator_next (wpAny_call_entry F.slot_tuple_iterator_next hj.typeIs F.entry_tuple_iterator_next ?_ (F.args_tuple_iterator_next_1 _)));show wpAny _ _ (field (.ref j) 0>>=_) _ _ s;refine wpAny_bind (wpAny_field ho hd (x:=.ref t) rfl ?_);show wpAny _ _ (if(Value.ref t==Value.none)=true then _ else _) _ _ s;rw[if_neg (show¬((Value.ref t==Value.none)=true) by intro z;exact zAg z)];show wpAny _ _ (field (.ref j) 1>>=_) _ _ s;refine wpAny_bind (wpAny_field ho hd (x:=.int i 0) rfl (wpAny_bind (wpAny_seqItems hp hm ?_)));simp only[Int.toNat_natCast,hx];refine wpAny_bind (wpAny_rule (wpAny_bind (wpAny_setField ho hd Zy ?_)));show wpAny _ _ (newExc (.type "StopIteration") []>>=_) _ _ _;refine wpAny_bind ?_;simp only[newExc,newTuple];refine wpAny_bind (wpAny_newObj_type (wpAny_bind (m:=firstArgMember _ _) (wpAny_of_eq (a:=Value.none) (by first|rfl | (simp only[firstArgMember];rfl)) (wpAny_newObj_type ?_ (by size_fits)))) (by size_fits));simp only[raiseNew];refine wpAny_bind (wpAny_handled ?_)
 first
  |rw[show A.in1.handled=none from hh]
  |rw[hh]
 exact zAu (zAz (wpAny_throw (hE _ _ (((Heap.SameBut.update ..).extBut.push _).push _) ⟨_,zB2 _ rfl,rfl⟩)))
end
section
variable{X:Cx}
end
theorem IsTh.same{S:Addr->Prop}{H H':Hp}{v:V}{d:PyData}(h:IsTh S H v d)(s:Same H H'):IsTh S H' v d:=h.keep (fun b xs e=>s b _ e) (fun b o _ e=>s b o e) fun _ _ z _=>z
theorem IsThs.same{S:Addr->Prop}{H H':Hp}{v:List V}{d:List PyData}(h:IsThs S H v d)(s:Same H H'):IsThs S H' v d:=h.keep (fun b xs e=>s b _ e) (fun b o _ e=>s b o e) fun _ _ z _=>z
theorem Same.upd{H:Hp}{D:Addr}{o:HO}(h:H D=none):Same H (upd H D o):=fun b u e=>by rw[au (az e h)];exact e
theorem Same.updR{H H':Hp}{D:Addr}{o:HO}(s:Same H H')(h:H' D=none):Same H (L2.upd H' D o):=s.trans (Same.upd h)
theorem ue{K:Frag}{S:Addr->Prop}{te:TE}{a:Addr}{xs:List V}{ds:List PyData}(f:PyData->Bool){dv:St}{j:Nat}{H0:Hp}{Fin:List V->Hp->Prop}(hT:H0 a=some (.tup xs))(th:IsThs S H0 xs ds)(hl:xs.length<sizeLine)
  (nK:∀v d H Q,d∈ds->Same H0 H->IsTh S H v d->(∀H',Same H H'->Q (.bl (f d)) H')->te (dv.set j (some v)) H Q)
  (fin:∀H',Same H0 H'->Fin (ds.map fun d=>V.bl (f d)) H'):jD (Itt K a) (bH j) tR te Fin dv H0:=by
 have hlen:=th.length;refine⟨fun i m ys σ H=>m=xs.length-i/\i<=xs.length/\ys=(ds.take i).map (fun d=>V.bl (f d))/\(∀o,σ.set j o=dv.set j o)/\Same H0 H,⟨_,rfl,zAp _,rfl,fun _=>rfl,Same.refl _⟩,?_⟩;rintro i m ys σ H ⟨rfl,hi,rfl,iE,hs⟩;have sq:SqT K H a xs:=SqT.of (hs _ _ hT);refine⟨by rw[zA1,zAd];lia,?_⟩;by_cases ax:i<xs.length
 .refine .inr ⟨⟨xs,xs[i],sq,by simp[ax]⟩,fun x H' y=>?_⟩;obtain⟨e,y⟩:=y;subst e;have hx:=y xs sq;obtain⟨d,hd,ht⟩:=(th.same hs).get hx;show te (σ.set j (some x)) H' _;rw[iE]
  refine nK x d H' _ (zB5 hd) hs ht fun H2 s2=>⟨xs.length-(i+1),Zz,rfl,ax,?_,fun o=>by rw[List.set_set],hs.trans s2⟩
  rw[zAj,hd];simp
 .have e:i=xs.length:=Zz
  subst e;refine .inl ⟨⟨xs,sq,zA3 _⟩,?_⟩;rw[hlen,zAm];exact fin H hs
theorem Av{ds:List PyData}{f:PyData->Bool}:ds.map (fun d=>V.bl (f d))=(ds.map f).map V.bl:=by rw[zAr];rfl
theorem Hh{ds:List PyData}{f:PyData->Bool}:(ds.map f).all id=ds.all f:=by rw[List.all_map];rfl
section
variable{X:Cx}{es:List Expr}{t:TA}{pos:Pos}
end
section
variable{X:Cx}{a b c d:Expr}{ta tb tc td:TE}{pos:Pos}
def wz(r r' EE:R2)(ta tb tc td:TE):TE:=fun σ H Q=>ta σ H fun x H1=>tb σ H1 fun y H2=>r x y H2 fun z H3=>∃k,z=.bl k /\
 (if k=true then tc σ H3 fun x2 H4=>r' y x2 H4 fun z2 H5=>∃k2,z2=.bl k2/\(if k2=true then td σ H5 fun x3 H6=>EE x2 x3 H6 Q else Q (.bl false) H5)else Q (.bl false) H3)
theorem yH{o1 o2 o3:CmpOp}{r r' EE:R2}(h1:OpR X (compareOp o1) r)(h2:OpR X (compareOp o2) r')(h3:OpR X (compareOp o3) EE)(ha:PE X a ta)(hb:PE X b tb)(hc:PE X c tc)(hd:PE X d td)
  (hm:lastMarks [o1,o2,o3] [b,c,d]=false:=by with_unfolding_all rfl):PE X (.Compare a [o1,o2,o3] [b,c,d] pos) (wz r r' EE ta tb tc td):=by
 intro Zt s σ H Q I h
 refine Compare_chain (thn (ha Zt s σ H _ I h) fun v s1 ⟨x,H1,I1,r1,q1⟩=>chain_link (thn (hb Zt s1 σ H1 _ I1 q1) fun u s2 ⟨y,H2,I2,r2,q2⟩=>
  thn (h1 Zt s2 σ H2 x y v u _ I2 r1 r2 q2) fun g s3 ⟨z,H3,I3,r3,k,e,q3⟩=>?_)) hm
 subst e;cases r3;refine wpAny_truthy_bool ?_
 cases k with
 |false=>exact ite_ff ⟨.bl false,H3,I3,rfl,q3⟩
 |true=>
  refine ite_tt (chain_link (thn (hc Zt s3 σ H3 _ I3 q3) fun w' s4 ⟨z',H4,I4,r4,q4⟩=>thn (h2 Zt s4 σ H4 y z' u w' _ I4 r2 r4 q4) fun g2 s5 ⟨z5,H5,I5,r5,k2,e2,q5⟩=>?_));subst e2;cases r5;refine wpAny_truthy_bool ?_
  cases k2 with
  |false=>exact ite_ff ⟨.bl false,H5,I5,rfl,q5⟩
  |true=>exact ite_tt (chain_last (thn (hd Zt s5 σ H5 _ I5 q5) fun w6 s6 ⟨z6,H6,I6,r6,q6⟩=>h3 Zt s6 σ H6 z' z6 w' w6 Q I6 r4 r6 q6))
end
def Ev(σ:St)(H:Hp)(t:TE)(v:V):Prop:=∀Q:VK,Q v H->t σ H Q
section
variable{σ:St}{H:Hp}{ta tb tc td:TE}
theorem iu{v:V}:Ev σ H (tC v) v:=fun _ h=>h
theorem fZ{i:Nat}{v:V}(h:σ[i]?=some (some v)):Ev σ H (DN i) v:=fun _ q=>⟨v,h,q⟩
theorem cY{p q:Int->Int->Bool}{i j k:Int}(a:Ev σ H ta (.int i))(b:Ev σ H tb (.int j))(c:Ev σ H tc (.int k)):
  Ev σ H (uU (rI0 fun i j=>.bl (p i j)) (rI0 fun i j=>.bl (q i j)) ta tb tc) (.bl (p i j&&q j k)):=fun Q h=>a _ (b _ ⟨i,j,rfl,rfl,_,rfl,by
 cases e:p i j with
 |false=>
  rw[e]at h;exact bA h
 |true=>
  rw[e]at h
  exact bK (c _ ⟨j,k,rfl,rfl,h⟩)⟩)
theorem yI{p q r:Int->Int->Bool}{i j k l:Int}(a:Ev σ H ta (.int i))(b:Ev σ H tb (.int j))(c:Ev σ H tc (.int k))(d:Ev σ H td (.int l)):
  Ev σ H (wz (rI0 fun i j=>.bl (p i j)) (rI0 fun i j=>.bl (q i j)) (rI0 fun i j=>.bl (r i j)) ta tb tc td) (.bl (p i j&&(q j k&&r k l))):=fun Q h=>a _ (b _ ⟨i,j,rfl,rfl,_,rfl,by
 cases e:p i j with
 |false=>
  rw[e]at h;exact bA h
 |true=>
  rw[e]at h;refine bK (c _ ⟨j,k,rfl,rfl,_,rfl,?_⟩)
  cases e2:q j k with
  |false=>
   rw[e2]at h;exact bA h
  |true=>
   rw[e2]at h
   exact bK (d _ ⟨k,l,rfl,rfl,h⟩)⟩)
theorem iQ{b c:Bool}(x:Ev σ H ta (.bl b))(y:b=true->Ev σ H tb (.bl c)):Ev σ H (FQ ta tb) (.bl (b&&c)):=fun Q h=>x _ ⟨b,rfl,by
 cases e:b with
 |false=>
  rw[e]at h;exact bA h
 |true=>
  rw[e]at h
  exact bK (y e _ h)⟩
end
structure Plain(e:Expr):Prop where
 eq:∀(es:List Expr) (env:Env),starEach (e::es) env=(false,eval e env)::starEach es env
theorem iR{c j p}:Plain (.Constant c j p):=⟨fun _ _=>rfl⟩
theorem jl{x p}:Plain (.Name x p):=⟨fun _ _=>rfl⟩
theorem iT{es k p}:Plain (.Tuple es k p):=⟨fun _ _=>rfl⟩
theorem jm{es p}:Plain (.List es p):=⟨fun _ _=>rfl⟩
theorem jn{ks vs p}:Plain (.Dict ks vs p):=⟨fun _ _=>rfl⟩
theorem jo{f as ks p}:Plain (.Call f as ks p):=⟨fun _ _=>rfl⟩
theorem plain_bin{a o b p}:Plain (.BinOp a o b p):=⟨fun _ _=>rfl⟩
theorem nC{o a p}:Plain (.UnaryOp o a p):=⟨fun _ _=>rfl⟩
theorem km{a b p}:Plain (.Subscript a b p):=⟨fun _ _=>rfl⟩
theorem jq{a b c p}:Plain (.ListComp a b c p):=⟨fun _ _=>rfl⟩
theorem kE{a b c p}:Plain (.Compare a b c p):=⟨fun _ _=>rfl⟩
section
variable{X:Cx}{e:Expr}{es:List Expr}{te:TE}{t:TA}
theorem aq(ha:PE X e te)(hr:PA X es t)(hp:Plain e:=by first|exact jl|exact iR|exact jo|exact iT|exact jm|exact plain_bin|exact km|exact nC|exact jn|exact jq|exact kE):PA X (e::es) (tL te t):=
 aP ha hr (hp.eq _ _)
end
structure AA(X:Cx)(es:List Expr)(t:TA):Prop where
 run:PA X es t
section
variable{X:Cx}{e:Expr}{es:List Expr}{te:TE}{t:TA}{pos:Pos}
theorem fH:AA X [] GC:=⟨aj⟩
theorem En(ha:PE X e te)(hr:AA X es t)(hp:Plain e:=by first|exact jl|exact iR|exact jo|exact iT|exact jm|exact plain_bin|exact km|exact nC|exact jn|exact jq|exact kE):AA X (e::es) (tL te t):=
 ⟨aP ha hr.run (hp.eq _ _)⟩
theorem wA{x1}(h:AA X es t):PE X (.Tuple es x1 pos) (GD t):=bB h.run
theorem Eo(h:AA X es t):PE X (.List es pos) (DY t):=cQ h.run
end
inductive IsInts:List Expr->List Int->Prop
 |nil:IsInts [] []
 |cons {i:Int} {j:Nat} {p:Pos} {es:List Expr} {is:List Int}:IsInts es is->IsInts (.Constant (.int i) j p::es) (i::is)
def G8(is:List Int):TA:=fun _ H Q=>Q (is.map V.int) H
theorem mz{X:Cx}:∀{es:List Expr} {is:List Int},IsInts es is->PA X es (G8 is)
 |_,_,.nil=>fun _ _ _ _ H Q I h=>Calls.spliced_nil ⟨[],H,I,.nil,h⟩
 |_,_,@IsInts.cons i j p es is r=>by
  have h:=aq (X:=X) (aA (i:=i) (j:=j) (pos:=p)) (mz r);exact h
theorem dZ{X:Cx}{es:List Expr}{k:Nat}{pos:Pos}{t:TGs}{K:Frag}{n:Nat}(hK:X.K=K)(hc:X.calm=true)(h:PGs X es t)(hn:(assignEach es X.env).length=n:=by rfl)(gz:(assignEach es X.env).findIdx? (·.1)=none:=by rfl):
  PG X (.Tuple es k pos) (jY K n t):=by
 subst hK;exact bF hc h hn gz
structure BE(X:Cx)(e:Expr)(t:TE):Prop where
 run:PE X e t
section
variable{X:Cx}{e:Expr}{es:List Expr}{te:TE}{t:TA}{pos:Pos}
theorem fu(ha:BE X e te)(hr:AA X es t)(hp:Plain e:=by first|exact jl|exact iR|exact jo|exact iT|exact jm|exact plain_bin|exact km|exact nC|exact jn|exact jq|exact kE):AA X (e::es) (tL te t):=En ha.run hr hp
theorem wB(h:BE X e te):PE X e te:=h.run
theorem Hl{i:Int}{j}:BE X (.Constant (.int i) j pos) (tC (.int i)):=⟨aA⟩
theorem Ja{b:Bool}{j}:BE X (.Constant (.bool b) j pos) (tC (.bl b)):=⟨mR⟩
theorem nF{x1}(h:AA X es t):BE X (.Tuple es x1 pos) (GD t):=⟨bB h.run⟩
theorem rF(h:AA X es t):BE X (.List es pos) (DY t):=⟨cQ h.run⟩
end
structure BS(X:Cx)(st:Stmt)(t:TS):Prop where
 run:PS X st t
structure BSs(X:Cx)(FV:List Stmt)(t:TS):Prop where
 run:PSs X FV t
section
variable{X:Cx}{st:Stmt}{rest:List Stmt}{t u:TS}{pos:Pos}
theorem gj(h:BSs X rest t):PSs X rest t:=h.run
theorem aN(h1:BS X st t)(h2:BSs X rest u):BSs X (st::rest) (DP t u):=⟨aB h1.run h2.run⟩
theorem bQ(h1:BS X st t):BSs X [st] t:=⟨aG h1.run⟩
theorem vd{i:Nat}{x:Str}{e:Expr}{te:TE}{pos':Pos}(hN:X.N.Nodup)(hi:X.N[i]?=some x)(hx:Loc X.env.scope x)(he:BE X e te)(hs:swapsWith e (some (.Name x pos')) pos.line X.env=pure false:=by rfl)(hf:X.fn x=true\/X.env.scope.names.lookup x=some .local:=by first|exact .inl rfl|exact .inr rfl|assumption):
  BS X (.Assign [.Name x pos'] e pos) (yo te (bH i)):=⟨jZ hN hi hx he.run hs hf⟩
theorem rG{e:Expr}{te:TE}(he:BE X e te):BS X (.Return (some e) pos) (Gx te):=⟨aQ he.run⟩
theorem Aw{op:Operator}{r:R2}{a b:Expr}{ta tb:TE}(ho:OpR X (binaryOp op) r)(ha:BE X a ta)(hb:BE X b tb):BE X (.BinOp a op b pos) (tOp r ta tb):=⟨aU ho ha.run hb.run⟩
theorem Ax{r:R2}{a b:Expr}{ta tb:TE}(hr:IxR X r)(ha:BE X a ta)(hb:BE X b tb)(hs:qU b):BE X (.Subscript a b pos) (tOp r ta tb):=⟨G6 hr ha.run hb.run hs⟩
end
theorem pgn{X:Cx}{x:Str}{pos:Pos}(i:Nat)(hN:X.N.Nodup)(hi:X.N[i]?=some x:=by rfl)(hx:Loc X.env.scope x:=by exact Or.inl rfl)(hf:X.fn x=true\/X.env.scope.names.lookup x=some .local:=by first|exact .inl rfl|exact .inr rfl):PG X (.Name x pos) (bH i):=bj hN hi hx hf
theorem pss{X:Cx}{x:Str}{pos pos':Pos}{e:Expr}{te:TE}(i:Nat)(hN:X.N.Nodup)(he:PE X e te)(hi:X.N[i]?=some x:=by rfl)(hx:Loc X.env.scope x:=by exact Or.inl rfl)(hs:swapsWith e (some (.Name x pos')) pos.line X.env=pure false:=by rfl)(hf:X.fn x=true\/X.env.scope.names.lookup x=some .local:=by first|exact .inl rfl|exact .inr rfl):PS X (.Assign [.Name x pos'] e pos) (yo te (bH i)):=jZ hN hi hx he hs hf
theorem gF{X:Cx}{x:Str}{pos pos':Pos}{e:Expr}{te:TE}(i:Nat)(hN:X.N.Nodup)(he:BE X e te)(hi:X.N[i]?=some x:=by rfl)(hx:Loc X.env.scope x:=by exact Or.inl rfl)(hs:swapsWith e (some (.Name x pos')) pos.line X.env=pure false:=by rfl)(hf:X.fn x=true\/X.env.scope.names.lookup x=some .local:=by first|exact .inl rfl|exact .inr rfl):BS X (.Assign [.Name x pos'] e pos) (yo te (bH i)):=vd hN hi hx he hs hf
theorem pX{X:Cx}{r:R2}{a b:Expr}{ta tb:TE}{pos:Pos}(hr:IxR X r)(ha:PE X a ta)(hb:PE X b tb)(hs:qU b:=by exact fun _ _=>rfl):PE X (.Subscript a b pos) (tOp r ta tb):=G6 hr ha hb hs
theorem zL{n:Nat}(h:Nat.ble n 1000=true:=by rfl):n<=sizeLine:=Nat.le_trans (Nat.le_of_ble_eq_true h) Zx
theorem cI{X:Cx}{bg:Env}{x:Str}{i:Nat}{N:List Str}{r:List (Option Nat)}(h:Caps X bg N r)(h1:X.N[i]?=some x:=by rfl)(h2:X.env.kindOf x=some .cell:=by rfl)(h3:bg.cells.lookup x=X.env.cells.lookup x:=by rfl)(h4:bg.kindOf x=some .cell:=by rfl):Caps X bg (x::N) (some i::r):=⟨⟨h1,.inl h2,h3,.inl h4⟩,h⟩
theorem fS{N P:List Str}{sc:Scope}(h1:sc.kind=.function:=by rfl)(h2:sc.isCoroutine=false:=by rfl)(h3:sc.isGenerator=false:=by rfl)(h4:N.Nodup:=by decide +kernel)(h5:N.take P.length=P:=by rfl)(h6:∀x∈P,sc.names.lookup x=some .local\/sc.names.lookup x=some .cell:=by decide +kernel)(h7:∀y∈sc.names,y.2≠.free:=by decide +kernel):FnScope N P sc:=⟨h1,h2,h3,h4,h5,h6,h7⟩
section
variable{X:Cx}{es:List Expr}{t:TA}{pos:Pos}
end
section
variable{S:Addr->Prop}{σ:St}{H:Hp}
end
section
variable{D:Ends}{σ:St}{H:Hp}{t u:TS}{te:TE}{ta:TA}{g:TG}{Q:VK}
theorem eF(h:D.nx σ H):FT D σ H:=h
theorem aC(h:t {D with nx:=u D} σ H):DP t u D σ H:=h
theorem cN(h:∀c:St->Hp->Prop,(∀ah H',u D ah H'->c ah H')->t {D with nx:=c} σ H):DP t u D σ H:=h (u D) fun _ _ z=>z
theorem aR(h:te σ H fun x H1=>g x σ H1 D.nx):yo te g D σ H:=h
theorem iw(h:te σ H D.rt):Gx te D σ H:=h
theorem aF{i:Nat}{v:V}{R:St->Hp->Prop}(h:R (σ.set i (some v)) H):bH i v σ H R:=h
end
section
variable{X:Cx}{pos:Pos}
def Jb(i j k:Nat)(ta:TA):TS:=fun D σ H=>ta σ H fun vs H1=>∃v w u,vs=[v,w,u]/\D.nx (((σ.set i (some v)).set j (some w)).set k (some u)) H1
theorem Ep{i j k:Nat}{x y z:Str}{a b c:Expr}{ta:TA}{px py pz pt:Pos}{kt k2 pt2}(hc:X.calm=true)(hN:X.N.Nodup)(hi:X.N[i]?=some x)(hj:X.N[j]?=some y)(hk:X.N[k]?=some z)(ck:i≠j)(P5:i≠k)(G0:j≠k)
  (hx:X.env.scope.names.lookup x=some .local) (hy:X.env.scope.names.lookup y=some .local) (hz:X.env.scope.names.lookup z=some .local) (ha:PA X [a,b,c] ta)
  (hw:swappedStores [.Tuple [.Name x px,.Name y py,.Name z pz] kt pt] (.Tuple [a,b,c] k2 pt2) X.env=pure (some [x,y,z]))
  (hs:swapsWithSole [.Tuple [.Name x px,.Name y py,.Name z pz] kt pt] (.Tuple [a,b,c] k2 pt2) pos.line X.env=pure false:=by rfl):
  PS X (.Assign [.Tuple [.Name x px,.Name y py,.Name z pz] kt pt] (.Tuple [a,b,c] k2 pt2) pos) (Jb i j k ta):=by
 intro Zt s σ H D I h;refine Assign_Tuple_swapped (names:=[x,y,z]) (Tuple_ (thn (ha _ Zt s σ H _ I h) fun us s1 ⟨vs,H1,I1,r1,q1⟩=>?_)) hs hw;obtain⟨v,w,u,e1,q1⟩:=q1;subst e1
 obtain⟨u1,u2,u3,rfl,rv,f7,ru⟩:∃u1 u2 u3,us=[u1,u2,u3]/\RelV v u1/\RelV w u2/\RelV u u3:=by
  cases r1 with
  |cons p q=>
   cases q with
   |cons p' q'=>
    cases q' with
    |cons p2 q2=>
     cases q2;exact⟨_,_,_,rfl,p,p',p2⟩
 refine wpAny_newObj_type ?_ (by show 3<=sizeLine;decide);have I2:Inv X Zt σ H1 {s1 with heap:=s1.heap.push {cls:=.type "tuple",data:=.seq [u1,u2,u3].toArray}}:=I1.kept (t':=s1.toks) fun b o e=>zAw _ e;refine unpackItems_tuple (items:=#[u1,u2,u3]) (I.ok.hd hc) (IsTup.new s1.heap _) fun h' kD=>?_;have I3:=I2.kept (h':=h') (t':=s1.toks) fun b o e=>kD b o (zB9 (zB1 e)) e;show wpAny _ _ (assignInOrder [fun v=>bindName X.env z v,fun v=>bindName X.env y v,fun v=>bindName X.env x v] [u3,u2,u1]) _ _ _;refine assignInOrder_cons (wpAny_bindName (fc I3 hN hk (.inl hz) ru (fun s2 I4=>?_) (.inr hz)));refine assignInOrder_cons (wpAny_bindName (fc I4 hN hj (.inl hy) f7 (fun s3 I5=>?_) (.inr hy)));refine assignInOrder_cons (wpAny_bindName (fc I5 hN hi (.inl hx) rv (fun s4 I6=>assignInOrder_nil ?_) (.inr hx)));rw[List.set_comm _ _ (Ne.symm ck),List.set_comm _ _ (Ne.symm P5),List.set_comm _ _ (Ne.symm G0)]at I6;exact⟨_,H1,I6,q1⟩
end
end L2
namespace L2.ZT
open PySem PySem.Spec PyProof.Rows L2
def nm(t:Bool):String:=match t with|true=>"tuple_iterator"|false=>"list_iterator"
def tn(t:Bool):String:=match t with|true=>"tuple"|false=>"list"
def Io(t:Bool)(h:Heap)(a l:Addr)(i:Nat):Prop:=∃o,h.get? a=some o/\o.cls=.type (nm t)/\o.data=.fields #[.ref l,.int i 0]
def Sq(t:Bool)(h:Heap)(a:Addr)(items:Array Value):Prop:=∃o,h.get? a=some o/\o.cls=.type (tn t)/\∃n,o.data=.seq items n
def SQ(t:Bool)(K:Frag)(H:Hp)(a:Addr)(xs:List V):Prop:=match t with|true=>SqT K H a xs|false=>SqL K H a xs
theorem Io.at{t:Bool}{h h':Heap}{a l:Addr}{i:Nat}(x:Io t h a l i)(e:∀o,h.get? a=some o->h'.get? a=some o):Io t h' a l i:=let⟨o,ho,r⟩:=x;⟨o,e _ ho,r⟩
theorem Io.extBut{t:Bool}{h h':Heap}{a b l:Addr}{i:Nat}(x:Io t h a l i)(e:Heap.ExtBut b h h')(n:a≠b):Io t h' a l i:=x.at fun o q=>e _ _ n q
theorem Sq.at{t:Bool}{h h':Heap}{a:Addr}{xs:Array Value}(x:Sq t h a xs)(e:∀o,h.get? a=some o->h'.get? a=some o):Sq t h' a xs:=let⟨o,ho,r⟩:=x;⟨o,e _ ho,r⟩
theorem Sq.extBut{t:Bool}{h h':Heap}{a b:Addr}{xs:Array Value}(x:Sq t h a xs)(e:Heap.ExtBut b h h')(n:a≠b):Sq t h' a xs:=x.at fun o q=>e _ _ n q
theorem lK{t:Bool}{X:Cx}{Zt:List (Addr×Obj)}{σ:St}{H:Hp}{s:Shared}{a:Addr}{xs:List V}(I:Inv X Zt σ H s)(h:SQ t X.K H a xs):∃Zr:List Value,Vals xs Zr/\Sq t s.heap a Zr.toArray/\xs.length<=sizeLine:=by
 cases t
 .obtain⟨Zr,r,p,z⟩:=I.list h;exact⟨Zr,r,p.isList,z⟩
 .exact I.tuple h
theorem vf{t:Bool}{X:Cx}{Zt:List (Addr×Obj)}{σ:St}{H:Hp}{s:Shared}{a:Addr}{xs ys:List V}(I:Inv X Zt σ H s)(h:SQ t X.K H a xs)(h':SQ t X.K H a ys):xs=ys:=by
 cases t
 .exact I.list_inj h h'
 .exact I.tuple_inj h h'
section
variable{prog:Program}{w:World}{A:Around}{E:Value->Shared->Prop}{s:Shared}
theorem nx{t:Bool}{j l:Addr}{i:Nat}{Zr:Array Value}{x:Value}{Q:Value->Shared->Prop}(hj:Io t s.heap j l i)(ht:Sq t s.heap l Zr)(hx:Zr[i]?=some x)
  (hQ:∀h',Io t h' j l (i+1)->Heap.SameBut j s.heap h'->Q x {s with heap:=h'}):wpAny (model prog w) A (Builtin.SmallTypes.nextOf (.ref j)) Q E s:=by
 cases t
 .exact wpAny_nextOf_list_item hj ht hx hQ
 .exact Hg hj ht hx hQ
theorem vg{t:Bool}{j l:Addr}{i:Nat}{Zr:Array Value}{Q:Value->Shared->Prop}(hh:A.handled=none)(hj:Io t s.heap j l i)(ht:Sq t s.heap l Zr)(hx:Zr[i]?=none)
  (hE:∀h' e,Heap.ExtBut j s.heap h'->(∃o,h'.get? e=some o/\o.cls=.type "StopIteration")->E (.ref e) {s with heap:=h'}):wpAny (model prog w) A (Builtin.SmallTypes.nextOf (.ref j)) Q E s:=by
 cases t
 .exact wpAny_nextOf_list_end hh hj ht hx hE
 .exact v9 hh hj ht hx hE
theorem nG{t:Bool}{l:Addr}{Zr:Array Value}{Q:Value->Shared->Prop}(hl:Sq t s.heap l Zr)
  (hQ:Q (.ref s.heap.objs.size) {s with heap:=s.heap.push {cls:=.type (nm t),data:=.fields #[.ref l,.int 0 0]}}):wpAny (model prog w) A (pyIter (.ref l)) Q E s:=by
 cases t
 .exact wpAny_pyIter_list hl hQ
 .exact wpAny_pyIter_tuple hl hQ
end
theorem draws{t:Bool}{prog:Program}{w:World}{A:Around}(hh:A.handled=none)(it a:Addr)(fE:a≠it)(Zr:Array Value):
  Draws prog w A it [it,a] Zr.size (fun i v=>Zr[i]?=some v) (fun i h=>Io t h it a i/\Sq t h a Zr) where
 live:=fun _ _ st=>let⟨o,ho,_⟩:=st.1;⟨o,ho⟩
 frame:=fun _ _ _ st hk=>⟨st.1.at fun o e=>hk it Zy o e,st.2.at fun o e=>hk a Zy o e⟩
 item:=fun i s Q E hi st hQ=>nx st.1 st.2 (x:=Zr[i]) (by simp[hi]) fun h' h1 h2=>hQ _ h' s.toks (by simp[hi]) ⟨h1,st.2.extBut h2.extBut fE⟩ h2
 done:=fun s Q E st hE=>vg hh st.1 st.2 Zy hE
abbrev eA(t0:Bool)(h:Heap)(t:Addr):Heap:=h.push {cls:=.type (nm t0),data:=.fields #[.ref t,.int 0 0]}
theorem nH{t0:Bool}(t:Addr)(Zr:Array Value):
  Meets (Builtin.«enumerate.__new__» ⟨[.type "enumerate",.ref t],[]⟩) (fun _ R s=>Sq t0 s.heap t Zr /\
   R (.ok (.ret (.ref (eA t0 s.heap t).objs.size))) {s with heap:=(eA t0 s.heap t).push {cls:=.type "enumerate",data:=.fields #[.none,.bool false,.ref s.heap.objs.size,rawInt 0,.none,.none]}}):=
 .of_wp fun prog w A R s h=>by
  obtain⟨hp,g,d,tk,os⟩:=s;obtain⟨ht,h⟩:=h;have A7:=sub_enumerate;have hT:Sq t0 (Shared.heap ⟨hp,g,d,tk,os⟩) t Zr:=ht
  wp_walk
  refine wpAny_stack_any fun st=>zAz ?_;split
  .rename_i c _ _ _ _ _
   cases(c==Value.type "enumerate")
   .wp_walk using nG hT
    exact⟨_,rfl,h⟩
   .wp_walk using nG hT
    exact⟨_,rfl,h⟩
  .wp_walk using nG hT
   exact⟨_,rfl,h⟩
theorem oZ{t0:Bool}{prog:Program}{w:World}{A:Around}{E:Value->Shared->Prop}{s:Shared}{t:Addr}{Zr:Array Value}{Q:Value->Shared->Prop}(ht:Sq t0 s.heap t Zr)
  (h:∀h',IsEnum h' (s.heap.objs.size+1) s.heap.objs.size 0 .none->Io t0 h' s.heap.objs.size t 0->(∀c o,s.heap.get? c=some o->h'.get? c=some o)->Q (.ref (s.heap.objs.size+1)) {s with heap:=h'}):
  wpAny (model prog w) A (call (.type "enumerate") [.ref t]) Q E s:=by
 refine callType_new F.called_enumerate Zx (F.typeCall_enumerate_1 _) (F.newCall_enumerate_1 _) (fun obj=>F.args_object_init_2 obj _) F.entry_enumerate_new (nH t Zr) ⟨ht,?_⟩;have e1:(eA t0 s.heap t).objs.size=s.heap.objs.size+1:=Heap.size_push ..;have g2:=zB2 (eA t0 s.heap t) (o:={cls:=.type "enumerate",data:=.fields #[.none,.bool false,.ref s.heap.objs.size,rawInt 0,.none,.none]}) rfl;have g1:=zAw {cls:=.type "enumerate",data:=.fields #[.none,.bool false,.ref s.heap.objs.size,rawInt 0,.none,.none]} (zB2 s.heap (o:={cls:=.type (nm t0),data:=.fields #[.ref t,.int 0 0]}) rfl);show _/\_;rw[e1]at g2⊢;exact⟨⟨_,g2,rfl⟩,h _ g2 ⟨_,g1,rfl,rfl⟩ fun c o x=>zAw _ (zAw _ x)⟩
def Ite(t0:Bool)(K:Frag)(a:Addr):It:=
 ⟨fun i H=>∃xs x,SQ t0 K H a xs/\xs[i]?=some x,
  fun i H v H'=>∃T,H T=none/\v=.ref T/\∀xs,SQ t0 K H a xs->∃x,xs[i]?=some x/\H'=upd H T (.tup [.int i,x]),
  fun i H=>∃xs,SQ t0 K H a xs/\xs.length<=i⟩
def tne(t0:Bool)(e it a:Addr)(i:Nat)(h:Heap):Prop:=(∃old,IsEnum h e it i old)/\Io t0 h it a i
theorem yJ{t0:Bool}{P:Program}{w:World}{K:Frag}{es:List Expr}{k:Nat}{pos:Pos}{e it a:Addr}(G1:e≠it)(P6:e≠a)(P7:a≠it):
  Turn P w K (.Tuple es k pos) (Ite t0 K a) [e,it] e (tne t0 e it a) where
 mem:=by simp
 obj:=fun i h st c hc=>by
  obtain⟨⟨old,s1⟩,⟨o4,s4,c4,d4⟩⟩:=st;simp only[List.mem_cons,List.not_mem_nil,or_false]at hc;rcases hc with z|z<;>subst z
  .exact⟨_,s1,fun v q=>by cases q⟩
  .exact⟨_,s4,fun v q=>by rw[d4]at q;cases q⟩
 keep:=fun i h h' st kp=>by
  obtain⟨⟨old,s1⟩,s4⟩:=st;exact⟨⟨old,kp e Zy _ s1⟩,s4.at fun o z=>kp it Zy o z⟩
 item:=by
  intro X hP hw hK hc i Zt s σ H E I hf st hg;subst hP hw hK;obtain⟨⟨old,s1⟩,s4⟩:=st;obtain⟨xs,x,nL,hx⟩:=hg;obtain⟨Zr,rv,p,_⟩:=lK I nL;obtain⟨ux,EF,rx⟩:=rv.get hx
  have ax:i<Zr.toArray.size:=by
   have:=(zAa.mp EF).1;simpa using this
  have D:=draws (t:=t0) (prog:=X.prog) (w:=X.w) (A:=X.A.in1) (I.ok.hd hc) it a P7 Zr.toArray;refine wpAny_pyNext_enum_itemD D s1 ⟨s4,p⟩ ax G1 (by simp[G1,P6]) fun u h1 tk hu g1 g3 g5 g6 kp=>?_
  have eu:u=ux:=by
   have hu:Zr.toArray[i]?=some u:=hu;rw[List.getElem?_toArray,EF]at hu;exact(zAl hu).symm
  subst eu;refine⟨_,rfl,?_⟩;refine wpAny_letOwnedTupleGo_enum g1 fun h2 e1 sb=>?_
  have live:∀c,c∈[e,it]->∃o,s.heap.get? c=some o:=fun c ay=>by
   simp only[List.mem_cons,List.not_mem_nil,or_false]at ay;rcases ay with q|q<;>subst q
   .exact⟨_,s1⟩
   .exact let⟨o,h,_⟩:=s4;⟨o,h⟩
  have ne:∀c,c∈[e,it]->c≠s.heap.objs.size:=fun c ay z=>by
   obtain⟨o,ho⟩:=live c ay;exact absurd (zB1 ho) (by rw[z];exact Nat.lt_irrefl _)
  have hT:H s.heap.objs.size=none:=I.hok.fresh (zA3 _)
  have kept:∀c o,c∉[e,it]->s.heap.get? c=some o->h2.get? c=some o:=fun c o ay z=>
   sb.extBut _ _ (fun q=>ay (by simp[q])) (kp c o (fun q=>ay (by simp[q])) (fun q=>ay (by simp[q])) z)
  have trk:∀c o,H c=some o->c∉[e,it]:=fun c o z ay=>by
   have:=(hf c ay).1;rw[z]at this;cases this
  have ub:h2.get? s.heap.objs.size=some {cls:=.type "tuple",data:=.seq #[.int i tk,u]}:=sb.extBut _ _ (Ne.symm (ne e Zy)) g5
  have ui:HOk X.prog X.w (upd H s.heap.objs.size (.tup [.int i,x])) h2:=fun c o z=>by
   by_cases hb:c=s.heap.objs.size
   .subst hb;rw[aa]at z;cases z;exact⟨by show 2<=sizeLine;decide,[.int i tk,u],.cons ⟨tk,rfl⟩ (.cons rx .nil),_,ub,rfl,_,rfl⟩
   .rw[au hb]at z
    refine(I.hok c o z).stay (fun d v hd q=>kept d v ?_ q) (fun d q=>by rw[au (az q hT)];exact q) fun d l q=>by rw[au (az q hT)];exact q
    rcases hd with e'|e'
    .rw[e'];exact trk c o z
    .exact trk d _ e'
  have I2:Inv X Zt σ (upd H s.heap.objs.size (.tup [.int i,x])) {s with heap:=h2,toks:=tk+1}:=by
   refine I.step (g':=s.gens) (d':=s.drawn) (t':=tk+1) (ch:=[e,it]) (fun c ay=>?_) (fun c o _ _ hn z _=>kept c o hn z) (fun c o _ _ hn z _=>⟨o.slots,kept c o hn z⟩)
    (fun c o _ z n=>by rw[au (zB9 (zB1 z))];exact n) (fun c o hn z=>⟨o,kept c o hn z⟩) (fun c l z=>by rw[au (az z hT)];exact z) (fun c o l z=>by rw[au (az z hT)];exact z)
    (fun c l z=>⟨#[],by rw[au (az z hT),z];simp⟩) (fun m hm=>?_) ui I.bare
   .obtain⟨f0,f1,f2,f3,f4,f5⟩:=hf c ay;exact⟨f3,f1,f4,f5⟩
   .obtain⟨o,fR,ep,ho,r⟩:=hm;refine⟨o,fR,ep,kept _ o (fun ay=>?_) ho,r⟩;exact(hf _ ay).2.1 rfl
  refine⟨.ref s.heap.objs.size,_,I2,rfl,⟨s.heap.objs.size,hT,rfl,fun P8 yB=>⟨x,?_,rfl⟩⟩,⟨⟨u,?_⟩,?_⟩,fun c ay=>?_⟩
  .rw[vf I yB nL];exact hx
  .have:=e1;rw[show(((i+1:Nat):Int))=(i:Int)+1 by lia];exact this
  .exact g3.1.extBut sb.extBut G1.symm
  .rw[au (ne c ay)];exact(hf c ay).1
 done:=by
  intro X hP hw hK hc i Zt s σ H E I hf st hg;subst hP hw hK;obtain⟨⟨old,s1⟩,s4⟩:=st;obtain⟨xs,nL,hlen⟩:=hg;obtain⟨Zr,rv,p,_⟩:=lK I nL;have hl:=rv.length
  have hT:s.TypeIs (.ref e) "enumerate":=⟨_,s1,rfl⟩
  have fin:∀h',Heap.ExtBut it s.heap h'->Inv X Zt σ H {s with heap:=h'}:=fun h' kp=>by
   obtain⟨f0,f1,f2,f3,f4,f5⟩:=hf it Zy;exact I.turned (t':=s.toks) (fun b o hb z=>kp b o hb z) f0 f1 f3 f4 f5
  unfold pyNext;refine wpAny_bind (wpAny_attempt (wpAny_callSpecial?_slot (name:=Str.ofString "__next__") hT F.slot_enumerate_next (wpAny_call_entry F.slot_enumerate_next hT F.entry_enumerate_next ?_ (F.args_enumerate_next_1 _))));show wpAny _ _ (field (.ref e) 2>>=_) _ _ _;refine wpAny_bind (wpAny_field s1 rfl (x:=.ref it) rfl ?_);refine wpAny_bind (vg (I.ok.hd hc) s4 p (by simp;lia) fun h' x yA kD=>?_);obtain⟨o,ho,P9⟩:=kD;refine wpAny_bind (wpAny_isInstance (T:="StopIteration") (b:=true) ⟨o,ho,P9⟩ isSubtype_stop (wpAny_pure ⟨rfl,fin h' yA⟩))
 self:=fun _ _ _ _ _ st h=>wpAny_pyIter_enum st.1.choose_spec h
section
variable{X:Cx}
def Jc(t0:Bool)(K:Frag)(t:TA):TI:=fun σ H R=>t σ H fun vs H1=>∃a xs,vs=[.ref a]/\SQ t0 K H1 a xs/\R (Ite t0 K a) H1
theorem pi_enum(t0:Bool){es:List Expr}{k:Nat}{tp:Pos}{a:Expr}{ta:TA}{p pos:Pos}(hg:Gl X "enumerate")(hm:X.mg "enumerate"=none)(ha:PA X [a] ta)(hs:starEach [a] X.env=[(false,eval a X.env)]:=by rfl):
  PI X (.Tuple es k tp) (.Call (.Name "enumerate" p) [a] [] pos) (Jc t0 X.K ta):=by
 intro Zt s σ H R I h;refine Call_ (gZ I hg hm boot_enumerate (PyProof.Rows.callWith_type1 (thn (ha pos Zt s σ H _ I h) fun us s1 ⟨vs,H1,I1,r1,q1⟩=>?_) hs rfl));obtain⟨x,xs,e,hx,q⟩:=q1;subst e;obtain⟨u,rfl,ru⟩:=vals1 r1;cases ru;obtain⟨Zr,_,p1,_⟩:=lK I1 hx;refine oZ p1 fun h' z1 z4 kp=>?_;refine wpAny_pyIter_enum z1 ?_;have lx:x<s1.heap.objs.size:=by obtain⟨_,e,_⟩:=p1;exact zB1 e
 refine⟨_,_,_,_,H1,rfl,I1.kept (t':=s1.toks) kp,yJ (e:=s1.heap.objs.size+1) (it:=s1.heap.objs.size) (a:=x) (Nat.succ_ne_self _) (Nat.ne_of_gt (Nat.lt_succ_of_lt lx)) (zB9 lx),⟨⟨_,z1⟩,z4⟩,fun c hc=>?_,q⟩
 have hle:s1.heap.objs.size<=c:=by
  simp only[List.mem_cons,List.not_mem_nil,or_false]at hc;rcases hc with q|q<;>subst q
  .exact Nat.le_add_right _ 1
  .exact zA3 _
 exact I1.fpOk hle (I1.hok.fresh hle)
end
theorem for_enum(t0:Bool){K:Frag}{a:Addr}{xs:List V}{g:TG}{tb:TS}{D:Ends}{σ:St}{H:Hp}(Pv:Nat->St->Hp->Prop)(h0:Pv 0 σ H)(hl:∀i σ H,i<=xs.length->Pv i σ H->SQ t0 K H a xs)
  (hs:∀i x σ H T,xs[i]?=some x->Pv i σ H->H T=none->g (.ref T) σ (upd H T (.tup [.int i,x])) fun aS H2=>tb {D with nx:=Pv (i+1),ct:=Pv (i+1),bk:=D.nx} aS H2) (hd:∀σ H,Pv xs.length σ H->D.nx σ H):
  ∃W:Nat->Nat->St->Hp->Prop,(∃m,W 0 m σ H)/\∀i m σ H,W i m σ H->
   ((Ite t0 K a).stop i H/\D.nx σ H)\/((Ite t0 K a).go i H/\∃N:St->Hp->Prop,(∀ah H',N ah H'->∃m',m'<m/\W (i+1) m' ah H')/\∀x H',(Ite t0 K a).yld i H x H'->g x σ H' fun aS H2=>tb {D with nx:=N,ct:=N,bk:=D.nx} aS H2):=by
 refine⟨fun i m σ H=>m=xs.length-i/\i<=xs.length/\Pv i σ H,⟨xs.length,by simp,Nat.zero_le _,h0⟩,?_⟩;rintro i m σ H ⟨rfl,hi,p⟩;have q:=hl i σ H hi p;by_cases ax:i<xs.length
 .refine .inr ⟨⟨xs,xs[i],q,by simp[ax]⟩,Pv (i+1),fun ah H' p'=>⟨xs.length-(i+1),Zz,rfl,ax,p'⟩,fun x H' y=>?_⟩;obtain⟨T,nT,rfl,y⟩:=y;obtain⟨x,ex,rfl⟩:=y xs q;exact hs i x σ H T ex p nT
 .have e:i=xs.length:=Zz
  subst e;exact .inl ⟨⟨xs,q,zA3 _⟩,hd σ H p⟩
end L2.ZT
namespace L2
open PySem PySem.Spec PyProof.Rows
section
variable{X:Cx}
theorem p8(hc:X.calm=true):dU X (.builtin "min") (fun xs H Q=>∃(p:Addr) (ns:List Int),xs=[.ref p]/\SqL X.K H p (ns.map V.int)/\ns≠[]/\∀M,M∈ns->(∀a∈ns,M<=a)->Q (.int M) H):=by
 intro Zt s σ H xs us Q I r h;obtain⟨p,ns,rfl,hq,fE,q⟩:=h;obtain⟨u,rfl,ru⟩:=vals1 r;cases ru;obtain⟨Zr,rv,pl,hz⟩:=I.list hq;have hi:IntsAre Zr ns:=intsAre_of rv;obtain⟨zs,ez⟩:=(hi.allInts:AllInts Zr.toArray).items;have en:numsOf Zr=ns:=hi.numsOf;have hl:s.heap.IsList p (intItems zs):=ez▸pl.isList
 have aE:0<zs.size:=by
  have e1:(intItems zs).size=Zr.length:=by rw[<-ez,zA8]
  have e2:=rv.length;rw[zA1]at e2;have e3:0<ns.length:=List.length_pos_iff.mpr fE;simp only[intItems,Array.size_map]at e1;lia
 have hn:numsOf (intItems zs).toList=ns:=by rw[<-ez];exact en
 refine min_intList (I.ok.hd hc) hl aE fun v h' tk hv hk=>?_;obtain⟨t,rfl⟩:=intItems_at hv;obtain⟨h1,h2⟩:=argBest_lt (numAt zs) (zs.size-1);rw[nums_intItems]at hn;refine⟨.int _,H,I.kept (t':=tk) hk,⟨t,rfl⟩,q _ ?_ fun a ha=>?_⟩
 .rw[<-hn,numAt_eq];exact getD_mem (by rw[zA1,zA9];lia)
 .rw[<-hn]at ha;obtain⟨j,hj,rfl⟩:=mem_getD ha;rw[zA1,zA9]at hj;rw[<-numAt_eq];exact h2 j Zz
inductive RCatT0I(K:Frag)(x:V)(y:V)(H:Hp)(Q:VK):Prop
 |mk:∀a b ys,(x=.ref a)->(y=.ref b)->(SqT K H a [])->(SqT K H b ys)->(Q (.ref b) H)->RCatT0I K x y H Q
def Hm(K:Frag):R2:=fun x y H Q=>RCatT0I K x y H Q
open Builtin in
theorem Ay(l b:Addr)(Zr:Array Value)(n m:Nat)(dd yy:Option Addr)(sl tf:Array (Option Value)):
  Meets (Builtin.«tuple.__add__» ⟨[.ref l,.ref b],[]⟩) (fun _ R s=>s.heap.get? l=some {cls:=.type "tuple",dict:=dd,data:=.seq #[] n,slots:=sl}/\s.heap.get? b=some {cls:=.type "tuple",dict:=yy,data:=.seq Zr m,slots:=tf}/\R (.ok (.ret (.ref b))) s):=by
 refine .of_wp fun prog w A R s h=>?_;obtain⟨hp,g,d,tk,os⟩:=s;obtain⟨hl,hb,h⟩:=h;have f2:=PySem.AutoSeq1.sub_tuple_tuple
 wp_walk
 exact⟨_,rfl,h⟩
theorem Az:OpR X (binaryOp .Add) (Hm X.K):=by
 intro Zt s σ H x y v u Q I rx ry h;obtain⟨a,b,ys,rfl,rfl,ha,hb,q⟩:=h;cases rx;cases ry;obtain⟨Zr,r1,p1,_⟩:=I.tuple ha;obtain⟨bE,r2,p2,_⟩:=I.tuple hb;have e:Zr=[]:=r1.zero;subst e;obtain⟨⟨cls,dd,data,sl⟩,ho,hc,n,hd⟩:=id p1;obtain⟨⟨F3,yy,data2,tf⟩,tj,AS,n2,hd2⟩:=id p2;simp only at hc hd AS hd2;subst hc hd AS hd2;exact concat_meets ⟨_,ho,rfl⟩ ⟨_,tj,rfl⟩ noFill_tuple_add seq_tuple_add PySem.F.slot_tuple_add PySem.F.entry_tuple_add (PySem.F.args_tuple_add_2 _ _) (Ay a b bE.toArray n n2 dd yy sl tf) ⟨ho,tj,.ref b,H,I,rfl,q⟩
theorem Ba:OpR X (binaryOp .Add) (fun x y H Q=>∃a b xs ys,x=.ref a/\y=.ref b/\SqT X.K H a xs/\SqT X.K H b ys/\ys≠[]/\xs.length+ys.length<=sizeLine/\(xs=[]->Q (.ref b) H)/\(xs≠[]->∀p,H p=none->Q (.ref p) (upd H p (.tup (xs++ys))))):=by
 intro Zt s σ H x y v u Q I rx ry h;obtain⟨a,b,xs,ys,rfl,rfl,ha,hb,hy,hz,q1,q2⟩:=h;by_cases hx:xs=[]
 .subst hx;exact Az Zt s σ H _ _ v u Q I rx ry ⟨a,b,ys,rfl,rfl,ha,hb,q1 rfl⟩
 .exact Ec Zt s σ H _ _ v u Q I rx ry ⟨a,b,xs,ys,rfl,rfl,ha,hb,hx,hz,fun z=>absurd z hy,fun _=>q2 hx⟩
end
section
variable{prog:Program}{w:World}{A:Around}{E:Value->Shared->Prop}{s:Shared}
open HT in
theorem jG{t sl:Addr}{items:Array Value}{vl vu:Value}{lo hi:Option Int}{Q:Value->Shared->Prop}(ht:IsTup s.heap t items)(hs:s.heap.IsSliceOf sl vl vu .none)(pl:IsPart vl lo)(pu:IsPart vu hi)
  (h1:sIx items.size 0 lo=0) (h2:sIx items.size items.size hi=items.size) (h:Q (.ref t) s):wpAny (model prog w) A (getItem (.ref t) (.ref sl)) Q E s:=by
 obtain⟨os,tq,fT,AU⟩:=id hs
 have F4:s.TypeIs (.ref sl) "slice":=⟨os,tq,fT⟩
 unfold getItem
 try with_reducible refine wpAny_holding ?_
 first|refine zAu (zAz ?_)|skip
 refine zAu (wpAny_sequenceKey ht.typeIs Zx ?_)
 refine zAu (wpAny_callSpecial?_slot (name:=Str.ofString "__getitem__") ht.typeIs PyProof.Rows.slot_tuple_getitem
  (wpAny_call_entry PyProof.Rows.slot_tuple_getitem ht.typeIs entry_tuple_getitem ?_ (args_tuple_getitem _ _)))
 show wpAny _ _ (Builtin.Tuple.tupleItemsOf (.ref t)>>=_) _ _ s;refine wpAny_bind (tupleItemsOf_ ht ?_);refine wpAny_bind (wpAny_typeOf F4 ?_);rw[if_pos Zx];refine wpAny_bind (gK hs pl pu ?_);rw[h1,h2];show wpAny _ _ (if((((0:Nat):Int))==0&&(1:Int)==1&&(items.size-0)==items.size)=true then _ else _) _ _ s;rw[if_pos Zy];unfold Builtin.Tuple.tupleIsExact;refine wpAny_bind (wpAny_bind (wpAny_typeOf ht.typeIs (wpAny_pure ?_)));rw[if_pos Zx];exact wpAny_bind (wpAny_rule (wpAny_pure ⟨_,rfl,wpAny_pure h⟩))
end
section
variable{X:Cx}
inductive RSlWI(K:Frag)(x:V)(lo:Option Int)(hi:Option Int)(H:Hp)(Q:VK):Prop
 |mk:∀a xs,(x=.ref a)->(SqT K H a xs)->(((HT.sIx xs.length 0 lo=0/\HT.sIx xs.length xs.length hi=xs.length)->Q (.ref a) H))->((¬(HT.sIx xs.length 0 lo=0/\HT.sIx xs.length xs.length hi=xs.length)->∀p,H p=none->Q (.ref p) (upd H p (.tup (lO xs lo hi)))))->RSlWI K x lo hi H Q
def Km(K:Frag):V->Option Int->Option Int->Hp->VK->Prop:=fun x lo hi H Q=>RSlWI K x lo hi H Q
theorem wC:SlR X (Km X.K):=by
 intro Zt s σ H x v vl vu lo hi sl Q I rx hs pl pu h;obtain⟨a,xs,rfl,hx,q1,q2⟩:=h;by_cases hw:HT.sIx xs.length 0 lo=0/\HT.sIx xs.length xs.length hi=xs.length
 .cases rx;obtain⟨Zr,r,ht,hz⟩:=I.tuple hx;have hlen:Zr.toArray.size=xs.length:=by rw[zA8];exact r.length.symm
  refine⟨"tuple",_,PyProof.Rows.slot_tuple_getitem.lookup,ht.typeIs,?_⟩;exact jG ht hs pl pu (by rw[hlen];exact hw.1) (by rw[hlen];exact hw.2) ⟨.ref a,H,I,rfl,q1 hw⟩
 .exact GK Zt s σ H _ v vl vu lo hi sl Q I rx hs pl pu ⟨a,xs,rfl,hx,hw,q2 hw⟩
end
section
variable{prog:Program}{w:World}{A:Around}{E:Value->Shared->Prop}{s:Shared}
end
section
variable{X:Cx}{e:Expr}{te:TE}{pos p2 p3 p4:Pos}{j:Nat}
end
end L2
namespace L2.ZT
open PySem PySem.Spec PyProof.Rows L2
section
variable{prog:Program}{w:World}{A:Around}{E:Value->Shared->Prop}{s:Shared}
theorem uf{t1 t2:Bool}{z TI TO i1 i2 l1 l2:Addr}{k:Nat}{xs ys:Array Value}{x y a b:Value}{Q:Option Value->Shared->Prop}(D:ZipApart z TI TO i1 i2 l1 l2)
  (hz:IsZip s.heap z TI TO .none) (nN:IsPair s.heap TI (.ref i1) (.ref i2)) (EG:IsPair s.heap TO a b)
  (h1:Io t1 s.heap i1 l1 k) (h2:Io t2 s.heap i2 l2 k) (cv:Sq t1 s.heap l1 xs) (eW:Sq t2 s.heap l2 ys) (hx:xs[k]?=some x) (hy:ys[k]?=some y)
  (hQ:∀h',IsZip h' z TI TO (rawInt s.heap.objs.size)->IsPair h' TO x y->Io t1 h' i1 l1 (k+1)->Io t2 h' i2 l2 (k+1)->IsPair h' s.heap.objs.size x y->h'.objs.size=s.heap.objs.size+1->
   (∀c o,c≠z->c≠TO->c≠i1->c≠i2->s.heap.get? c=some o->h'.get? c=some o)->Q (some (.ref s.heap.objs.size)) {s with heap:=h'}):
  wpAny (model prog w) A (pyNext (.ref z)) Q E s:=by
 have hT:s.TypeIs (.ref z) "zip":=⟨_,hz,rfl⟩
 unfold pyNext;refine wpAny_bind (wpAny_attempt (wpAny_callSpecial?_slot (name:=Str.ofString "__next__") hT F.slot_zip_next (wpAny_call_entry F.slot_zip_next hT F.entry_zip_next ?_ (F.args_zip_next_1 _))));show wpAny _ _ (field (.ref z) 2>>=_) _ _ _;refine wpAny_bind (wpAny_field hz rfl (x:=.bool false) rfl ?_);show wpAny _ _ (field (.ref z) 3>>=_) _ _ _;refine wpAny_bind (wpAny_field hz rfl (x:=.ref TI) rfl (wpAny_bind (wpAny_seqItems nN rfl ?_)));show wpAny _ _ (Builtin.SmallTypes.ownedTupleIsFree (.ref z)>>=_) _ _ _;refine wpAny_bind ?_;unfold Builtin.SmallTypes.ownedTupleIsFree;refine wpAny_bind (wpAny_field hz rfl (x:=.none) rfl (wpAny_pure ?_));simp only[if_true];refine wpAny_bind (wpAny_rule (wpAny_bind (wpAny_field hz rfl (x:=.ref TO) rfl (wpAny_bind (wpAny_setField_rec hz Zy fun g1 z1 s1=>?_)))))
 replace z1:IsZip g1 z TI TO .ellipsis:=z1
 refine wpAny_bind ?_;simp only[List.zipIdx_cons,List.zipIdx_nil,List.forIn_cons,List.forIn_nil];refine wpAny_bind (wpAny_bind (wpAny_onRaise ?_));show wpAny _ _ (Builtin.SmallTypes.nextOf (.ref i1)>>=_) _ _ _;refine wpAny_bind (nx (h1.extBut s1.extBut D.i1z) (cv.extBut s1.extBut D.l1z) hx fun g2 q1 s2=>wpAny_pure ?_);have o2:IsPair g2 TO a b:=s2.extBut _ _ D.TOi1 (s1.extBut _ _ D.TOz EG);refine wpAny_bind (wpAny_seqItems o2 rfl (wpAny_bind (wpAny_updateSeq_pair o2 fun g3 o3 s3=>?_)))
 replace o3:IsPair g3 TO x b:=o3
 refine zAu (wpAny_letGo (zAz (zAu (zAu (wpAny_onRaise ?_)))));show wpAny _ _ (Builtin.SmallTypes.nextOf (.ref i2)>>=_) _ _ _;refine zAu (nx (((h2.extBut s1.extBut D.i2z).extBut s2.extBut D.i12.symm).extBut s3.extBut D.TOi2.symm) (((eW.extBut s1.extBut D.l2z).extBut s2.extBut D.l2i1).extBut s3.extBut D.l2TO) hy fun g4 q2 s4=>zAz ?_);have o4:IsPair g4 TO x b:=s4.extBut _ _ D.TOi2 o3;refine zAu (wpAny_seqItems o4 rfl (zAu (wpAny_updateSeq_pair o4 fun g5 o5 s5=>?_)))
 replace o5:IsPair g5 TO x y:=o5
 refine zAu (wpAny_letGo (zAz (zAz (zAu (wpAny_seqItems o5 rfl (zAu (wpAny_newTuple ?_)))))));have hsz:g5.objs.size=s.heap.objs.size:=by rw[s5.1,s4.1,s3.1,s2.1,s1.1]
 have z5:IsZip g5 z TI TO .ellipsis:=s5.extBut _ _ D.TOz.symm (s4.extBut _ _ D.i2z.symm (s3.extBut _ _ D.TOz.symm (s2.extBut _ _ D.i1z.symm z1)));have k5:∀c o,c≠z->c≠TO->c≠i1->c≠i2->s.heap.get? c=some o->g5.get? c=some o:=fun c o c1 c2 c3 c4 e=>s5.extBut _ _ c2 (s4.extBut _ _ c4 (s3.extBut _ _ c2 (s2.extBut _ _ c3 (s1.extBut _ _ c1 e))));have p1:Io t1 g5 i1 l1 (k+1):=((q1.extBut s3.extBut D.TOi1.symm).extBut s4.extBut D.i12).extBut s5.extBut D.TOi1.symm;have p2:Io t2 g5 i2 l2 (k+1):=q2.extBut s5.extBut D.TOi2.symm;have Nh:z<g5.objs.size:=Heap.lt_size z5;show wpAny _ _ (Builtin.SmallTypes.ownedTupleHandOut (.ref z) (.ref g5.objs.size)>>=_) _ _ _;refine wpAny_bind ?_;unfold Builtin.SmallTypes.ownedTupleHandOut;have z6:IsZip (g5.push {cls:=.type "tuple",data:=.seq #[x,y]}) z TI TO .ellipsis:=Heap.get?_push_of_some _ z5;refine wpAny_bind (wpAny_setField_rec z6 Zy fun g7 z7 s7=>?_)
 replace z7:IsZip g7 z TI TO (rawInt g5.objs.size):=z7
 refine wpAny_setField_rec z7 Zy fun g8 z8 s8=>?_
 replace z8:IsZip g8 z TI TO (rawInt g5.objs.size):=z8
 have up:∀c o,c≠z->g5.get? c=some o->g8.get? c=some o:=fun c o c1 e=>s8.extBut _ _ c1 (s7.extBut _ _ c1 (zAw _ e));have t8:IsPair g8 g5.objs.size x y:=s8.extBut _ _ (Nat.ne_of_gt Nh) (s7.extBut _ _ (Nat.ne_of_gt Nh) (zB2 _ rfl));have n8:g8.objs.size=g5.objs.size+1:=by rw[s8.1,s7.1,Heap.size_push]
 rw[hsz]at z8 t8 n8;refine zAz ⟨_,rfl,zAz ?_⟩;show Q (some (.ref g5.objs.size)) _;rw[hsz];exact hQ g8 z8 (up _ _ D.TOz o5) (p1.at fun o e=>up _ o D.i1z e) (p2.at fun o e=>up _ o D.i2z e) t8 n8 fun c o c1 c2 c3 c4 e=>up c o c1 (k5 c o c1 c2 c3 c4 e)
theorem vh{t1:Bool}{z TI TO i1 i2 l1 l2:Addr}{k:Nat}{xs:Array Value}{a b:Value}{Q:Option Value->Shared->Prop}(hh:A.handled=none)(D:ZipApart z TI TO i1 i2 l1 l2)
  (hz:IsZip s.heap z TI TO .none) (nN:IsPair s.heap TI (.ref i1) (.ref i2)) (EG:IsPair s.heap TO a b) (h1:Io t1 s.heap i1 l1 k) (cv:Sq t1 s.heap l1 xs) (hx:xs[k]?=none)
  (hQ:∀h',(∀c o,c≠z->c≠i1->s.heap.get? c=some o->h'.get? c=some o)->Q none {s with heap:=h'}):wpAny (model prog w) A (pyNext (.ref z)) Q E s:=by
 have hT:s.TypeIs (.ref z) "zip":=⟨_,hz,rfl⟩
 unfold pyNext;refine wpAny_bind (wpAny_attempt (wpAny_callSpecial?_slot (name:=Str.ofString "__next__") hT F.slot_zip_next (wpAny_call_entry F.slot_zip_next hT F.entry_zip_next ?_ (F.args_zip_next_1 _))));show wpAny _ _ (field (.ref z) 2>>=_) _ _ _;refine wpAny_bind (wpAny_field hz rfl (x:=.bool false) rfl ?_);show wpAny _ _ (field (.ref z) 3>>=_) _ _ _;refine wpAny_bind (wpAny_field hz rfl (x:=.ref TI) rfl (wpAny_bind (wpAny_seqItems nN rfl ?_)));show wpAny _ _ (Builtin.SmallTypes.ownedTupleIsFree (.ref z)>>=_) _ _ _;refine wpAny_bind ?_;unfold Builtin.SmallTypes.ownedTupleIsFree;refine wpAny_bind (wpAny_field hz rfl (x:=.none) rfl (wpAny_pure ?_));simp only[if_true];refine wpAny_bind (wpAny_rule (wpAny_bind (wpAny_field hz rfl (x:=.ref TO) rfl (wpAny_bind (wpAny_setField_rec hz Zy fun g1 z1 s1=>?_)))))
 replace z1:IsZip g1 z TI TO .ellipsis:=z1
 refine wpAny_bind ?_;simp only[List.zipIdx_cons,List.zipIdx_nil,List.forIn_cons,List.forIn_nil];refine wpAny_bind (wpAny_bind (wpAny_onRaise ?_));show wpAny _ _ (Builtin.SmallTypes.nextOf (.ref i1)>>=_) _ _ _;refine wpAny_bind (vg hh (h1.extBut s1.extBut D.i1z) (cv.extBut s1.extBut D.l1z) hx fun g2 e s2 he=>?_);obtain⟨oe,HC,Ni⟩:=he;have z2:IsZip g2 z TI TO .ellipsis:=s2 _ _ D.i1z.symm z1
 have Qa:e≠z:=fun q=>by
  subst q;rw[z2]at HC;cases HC;simp at Ni
 refine wpAny_setField_rec z2 Zy fun g3 _ s3=>?_;refine wpAny_bind (wpAny_isInstance (T:="StopIteration") (b:=true) ⟨oe,s3.extBut _ _ Qa HC,Ni⟩ isSubtype_stop (wpAny_pure (hQ _ fun c o c1 c2 q=>s3.extBut _ _ c1 (s2 _ _ c2 (s1.extBut _ _ c1 q)))))
end
abbrev zA(t1:Bool)(h:Heap)(t:Addr):Heap:=h.push {cls:=.type (nm t1),data:=.fields #[.ref t,.int 0 0]}
abbrev zB(t1 t2:Bool)(h:Heap)(t l:Addr):Heap:=(zA t1 h t).push {cls:=.type (nm t2),data:=.fields #[.ref l,.int 0 0]}
abbrev zC(t1 t2:Bool)(h:Heap)(t l:Addr):Heap:=(zB t1 t2 h t l).push {cls:=.type "tuple",data:=.seq #[.ref h.objs.size,.ref (zA t1 h t).objs.size]}
abbrev zD(t1 t2:Bool)(h:Heap)(t l:Addr):Heap:=(zC t1 t2 h t l).push {cls:=.type "tuple",data:=.seq #[.none,.none]}
abbrev zE(t1 t2:Bool)(h:Heap)(t l:Addr):Heap:=(zD t1 t2 h t l).push {cls:=.type "zip",data:=.fields #[.none,.bool false,.bool false,.ref (zB t1 t2 h t l).objs.size,.ref (zC t1 t2 h t l).objs.size]}
theorem rH{t1 t2:Bool}(t l:Addr)(xs ys:Array Value):
  Meets (Builtin.«zip.__new__» ⟨[.type "zip",.ref t,.ref l],[]⟩) (fun _ R s=>Sq t1 s.heap t xs/\Sq t2 s.heap l ys/\R (.ok (.ret (.ref (zD t1 t2 s.heap t l).objs.size))) {s with heap:=zE t1 t2 s.heap t l}):=
 .of_wp fun prog w A R s h=>by
  obtain⟨hp,g,d,tk,os⟩:=s;obtain⟨ht,hl,h⟩:=h;have A7:=sub_zip;have hT:Sq t1 (Shared.heap ⟨hp,g,d,tk,os⟩) t xs:=ht;have hL:Sq t2 (Shared.heap ⟨hp.push {cls:=.type (nm t1),data:=.fields #[.ref t,.int 0 0]},g,d,tk,os⟩) l ys:=hl.at fun o e=>zAw _ e
  wp_walk using nG hT,nG hL
  exact⟨_,rfl,h⟩
theorem ug{t1 t2:Bool}{prog:Program}{w:World}{A:Around}{E:Value->Shared->Prop}{s:Shared}{t l:Addr}{xs ys:Array Value}{Q:Value->Shared->Prop}(ht:Sq t1 s.heap t xs)(hl:Sq t2 s.heap l ys)
  (h:∀h',IsZip h' (s.heap.objs.size+4) (s.heap.objs.size+2) (s.heap.objs.size+3) .none->IsPair h' (s.heap.objs.size+2) (.ref s.heap.objs.size) (.ref (s.heap.objs.size+1))->IsPair h' (s.heap.objs.size+3) .none .none->
   Io t1 h' s.heap.objs.size t 0->Io t2 h' (s.heap.objs.size+1) l 0->(∀c o,s.heap.get? c=some o->h'.get? c=some o)->Q (.ref (s.heap.objs.size+4)) {s with heap:=h'}):
  wpAny (model prog w) A (call (.type "zip") [.ref t,.ref l]) Q E s:=by
 refine callType_new F.called_zip Zx (F.typeCall_zip_2 _ _) (F.newCall_zip_2 _ _) (fun obj=>F.args_object_init_3 obj _ _) F.entry_zip_new (rH t l xs ys) ⟨ht,hl,?_⟩;have e1:(zA t1 s.heap t).objs.size=s.heap.objs.size+1:=Heap.size_push ..;have e2:(zB t1 t2 s.heap t l).objs.size=s.heap.objs.size+2:=by rw[Heap.size_push,e1]
 have e3:(zC t1 t2 s.heap t l).objs.size=s.heap.objs.size+3:=by rw[Heap.size_push,e2]
 have e4:(zD t1 t2 s.heap t l).objs.size=s.heap.objs.size+4:=by rw[Heap.size_push,e3]
 have Nj:∀{c o},(zD t1 t2 s.heap t l).get? c=some o->(zE t1 t2 s.heap t l).get? c=some o:=fun e=>zAw _ e;have Nk:∀{c o},(zC t1 t2 s.heap t l).get? c=some o->(zE t1 t2 s.heap t l).get? c=some o:=fun e=>Nj (zAw _ e);have Nl:∀{c o},(zB t1 t2 s.heap t l).get? c=some o->(zE t1 t2 s.heap t l).get? c=some o:=fun e=>Nk (zAw _ e);have up1:∀{c o},(zA t1 s.heap t).get? c=some o->(zE t1 t2 s.heap t l).get? c=some o:=fun e=>Nl (zAw _ e);have g5:(zE t1 t2 s.heap t l).get? (zD t1 t2 s.heap t l).objs.size=some _:=zB2 _ rfl;have g4:(zE t1 t2 s.heap t l).get? (zC t1 t2 s.heap t l).objs.size=some _:=Nj (zB2 _ rfl);have g3:(zE t1 t2 s.heap t l).get? (zB t1 t2 s.heap t l).objs.size=some _:=Nk (zB2 _ rfl);have g2:(zE t1 t2 s.heap t l).get? (zA t1 s.heap t).objs.size=some _:=Nl (zB2 _ rfl);have g1:(zE t1 t2 s.heap t l).get? s.heap.objs.size=some _:=up1 (zB2 _ rfl);show _/\_;rw[e4,e2,e3]at g5;rw[e2,e1]at g3;rw[e3]at g4;rw[e1]at g2;rw[e4];exact⟨⟨_,g5,rfl⟩,h _ g5 g3 g4 ⟨_,g1,rfl,rfl⟩ ⟨_,g2,rfl,rfl⟩ fun c o x=>up1 (zAw _ x)⟩
def Itz(t1 t2:Bool)(K:Frag)(a b:Addr):It:=
 ⟨fun i H=>∃xs ys x y,SQ t1 K H a xs/\SQ t2 K H b ys/\xs[i]?=some x/\ys[i]?=some y,
  fun i H v H'=>∃T,H T=none/\v=.ref T/\∀xs ys,SQ t1 K H a xs->SQ t2 K H b ys->∃x y,xs[i]?=some x/\ys[i]?=some y/\H'=upd H T (.tup [x,y]),
  fun i H=>∃xs,SQ t1 K H a xs/\xs.length<=i⟩
def tnz(t1 t2:Bool)(z TI TO i1 i2 a b:Addr)(i:Nat)(h:Heap):Prop:=IsZip h z TI TO .none/\IsPair h TI (.ref i1) (.ref i2)/\(∃u v,IsPair h TO u v)/\Io t1 h i1 a i/\Io t2 h i2 b i
theorem Bb{t1 t2:Bool}{P:Program}{w:World}{K:Frag}{es:List Expr}{k:Nat}{pos:Pos}{z TI TO i1 i2 a b:Addr}(D:ZipApart z TI TO i1 i2 a b):
  Turn P w K (.Tuple es k pos) (Itz t1 t2 K a b) [z,TI,TO,i1,i2] z (tnz t1 t2 z TI TO i1 i2 a b) where
 mem:=by simp
 obj:=fun i h st c hc=>by
  obtain⟨s1,s2,⟨u,v,s3⟩,⟨o4,s4,c4,d4⟩,⟨o5,s5,c5,d5⟩⟩:=st;simp only[List.mem_cons,List.not_mem_nil,or_false]at hc;rcases hc with e|e|e|e|e<;>subst e
  .exact⟨_,s1,fun v q=>by cases q⟩
  .exact⟨_,s2,fun v q=>by cases q⟩
  .exact⟨_,s3,fun v q=>by cases q⟩
  .exact⟨_,s4,fun v q=>by rw[d4]at q;cases q⟩
  .exact⟨_,s5,fun v q=>by rw[d5]at q;cases q⟩
 keep:=fun i h h' st kp=>by
  obtain⟨s1,s2,⟨u,v,s3⟩,s4,s5⟩:=st;exact⟨kp z Zy _ s1,kp TI Zy _ s2,⟨u,v,kp TO Zy _ s3⟩,s4.at fun o e=>kp i1 Zy o e,s5.at fun o e=>kp i2 Zy o e⟩
 item:=by
  intro X hP hw hK hc i Zt s σ H E I hf st hg;subst hP hw hK;obtain⟨s1,s2,⟨u,v,s3⟩,s4,s5⟩:=st;obtain⟨xs,ys,x,y,nL,EH,hx,hy⟩:=hg;obtain⟨Zr,rv,p,_⟩:=lK I nL;obtain⟨Qb,f7,q,_⟩:=lK I EH;obtain⟨ux,EF,rx⟩:=rv.get hx;obtain⟨uy,Qd,ry⟩:=f7.get hy;refine uf D s1 s2 s3 s4 s5 p q (x:=ux) (y:=uy) (by simpa using EF) (by simpa using Qd) fun h1 g1 g2 g3 g4 g5 g6 kp=>?_;refine⟨_,rfl,?_⟩;refine wpAny_letOwnedTupleGo_zip g1 fun h2 e1 sb=>?_
  have ne:∀c,c∈[z,TI,TO,i1,i2]->c≠s.heap.objs.size:=fun c ay e=>by
   obtain⟨f0,f1,f2,f3,f4,f5⟩:=hf c ay
   have:∃o,s.heap.get? c=some o:=by
    simp only[List.mem_cons,List.not_mem_nil,or_false]at ay;rcases ay with q|q|q|q|q<;>subst q
    .exact⟨_,s1⟩
    .exact⟨_,s2⟩
    .exact⟨_,s3⟩
    .exact let⟨o,h,_⟩:=s4;⟨o,h⟩
    .exact let⟨o,h,_⟩:=s5;⟨o,h⟩
   obtain⟨o,ho⟩:=this;exact absurd (zB1 ho) (by rw[e];exact Nat.lt_irrefl _)
  have hT:H s.heap.objs.size=none:=I.hok.fresh (zA3 _)
  have kept:∀c o,c∉[z,TO,i1,i2]->s.heap.get? c=some o->h2.get? c=some o:=fun c o ay e=>
   sb.extBut _ _ (fun q=>ay (by simp[q])) (kp c o (fun q=>ay (by simp[q])) (fun q=>ay (by simp[q])) (fun q=>ay (by simp[q])) (fun q=>ay (by simp[q])) e)
  have HE:∀c,c∈[z,TO,i1,i2]->c∈[z,TI,TO,i1,i2]:=fun c ay=>by
   simp only[List.mem_cons,List.not_mem_nil,or_false]at ay⊢;rcases ay with q|q|q|q<;>simp[q]
  have trk:∀c o,H c=some o->c∉[z,TO,i1,i2]:=fun c o e ay=>by
   have:=(hf c (HE c ay)).1;rw[e]at this;cases this
  have ub:h2.get? s.heap.objs.size=some {cls:=.type "tuple",data:=.seq #[ux,uy]}:=sb.extBut _ _ (Ne.symm (ne z Zy)) g5
  have ui:HOk X.prog X.w (upd H s.heap.objs.size (.tup [x,y])) h2:=fun c o e=>by
   by_cases hb:c=s.heap.objs.size
   .subst hb;rw[aa]at e;cases e;exact⟨by show 2<=sizeLine;decide,[ux,uy],.cons rx (.cons ry .nil),_,ub,rfl,_,rfl⟩
   .rw[au hb]at e
    refine(I.hok c o e).stay (fun d v hd q=>kept d v ?_ q) (fun d q=>by rw[au (az q hT)];exact q) fun d l q=>by rw[au (az q hT)];exact q
    rcases hd with e'|e'
    .rw[e'];exact trk c o e
    .exact trk d _ e'
  have I2:Inv X Zt σ (upd H s.heap.objs.size (.tup [x,y])) {s with heap:=h2}:=by
   refine I.step (g':=s.gens) (d':=s.drawn) (t':=s.toks) (ch:=[z,TO,i1,i2]) (fun c ay=>?_) (fun c o _ _ hn e _=>kept c o hn e) (fun c o _ _ hn e _=>⟨o.slots,kept c o hn e⟩)
    (fun c o _ e n=>by rw[au (zB9 (zB1 e))];exact n) (fun c o hn e=>⟨o,kept c o hn e⟩) (fun c l e=>by rw[au (az e hT)];exact e) (fun c o l e=>by rw[au (az e hT)];exact e)
    (fun c l e=>⟨#[],by rw[au (az e hT),e];simp⟩) (fun m hm=>?_) ui I.bare
   .obtain⟨f0,f1,f2,f3,f4,f5⟩:=hf c (HE c ay);exact⟨f3,f1,f4,f5⟩
   .obtain⟨o,fR,ep,ho,r⟩:=hm;refine⟨o,fR,ep,kept _ o (fun ay=>?_) ho,r⟩;exact(hf _ (HE _ ay)).2.1 rfl
  refine⟨.ref s.heap.objs.size,_,I2,rfl,⟨s.heap.objs.size,hT,rfl,fun P8 qS yB HG=>⟨x,y,?_,?_,rfl⟩⟩,⟨e1,?_,?_,?_,?_⟩,fun c ay=>?_⟩
  .rw[vf I yB nL];exact hx
  .rw[vf I HG EH];exact hy
  .exact sb.extBut _ _ D.TIz (kp _ _ D.TIz D.TITO D.TIi1 D.TIi2 s2)
  .exact⟨_,_,sb.extBut _ _ D.TOz g2⟩
  .exact g3.extBut sb.extBut D.i1z
  .exact g4.extBut sb.extBut D.i2z
  .rw[au (ne c ay)];exact(hf c ay).1
 done:=by
  intro X hP hw hK hc i Zt s σ H E I hf st hg;subst hP hw hK;obtain⟨s1,s2,⟨u,v,s3⟩,s4,s5⟩:=st;obtain⟨xs,nL,hlen⟩:=hg;obtain⟨Zr,rv,p,_⟩:=lK I nL;have hl:=rv.length
  refine vh (I.ok.hd hc) D s1 s2 s3 s4 p (by simp;lia) fun h' kp=>⟨rfl,?_⟩
  refine I.step (h':=h') (H':=H) (g':=s.gens) (d':=s.drawn) (t':=s.toks) (ch:=[z,i1]) (fun c ay=>?_) (fun c o _ _ hn e _=>kp c o (fun q=>hn (by simp[q])) (fun q=>hn (by simp[q])) e)
   (fun c o _ _ hn e _=>⟨o.slots,kp c o (fun q=>hn (by simp[q])) (fun q=>hn (by simp[q])) e⟩) (fun c o _ e n=>n) (fun c o hn e=>⟨o,kp c o (fun q=>hn (by simp[q])) (fun q=>hn (by simp[q])) e⟩)
   (fun _ _ e=>e) (fun _ _ _ e=>e) (fun c l e=>⟨#[],by rw[e];simp⟩) (fun m hm=>?_) (fun c o e=>?_) I.bare
  .have:c∈[z,TI,TO,i1,i2]:=by
    simp only[List.mem_cons,List.not_mem_nil,or_false]at ay⊢;rcases ay with q|q<;>simp[q]
   obtain⟨f0,f1,f2,f3,f4,f5⟩:=hf c this;exact⟨f3,f1,f4,f5⟩
  .obtain⟨o,fR,ep,ho,r⟩:=hm;exact⟨o,fR,ep,kp _ o (Ne.symm (hf z Zy).2.1) (Ne.symm (hf i1 Zy).2.1) ho,r⟩
  .have nn:∀d v c',c'∈[z,TI,TO,i1,i2]->H d=some v->d≠c':=fun d v c' ay q e'=>by
    have:=(hf c' ay).1;rw[<-e',q]at this;cases this
   have nz:∀d v,H d=some v->d≠z/\d≠i1:=fun d v q=>⟨nn d v z Zy q,nn d v i1 Zy q⟩
   refine(I.hok c o e).stay (fun d v hd q=>?_) (fun _ q=>q) fun _ _ q=>q;rcases hd with e'|e'
   .rw[e']at q⊢;exact kp c v (nz c o e).1 (nz c o e).2 q
   .exact kp d v (nz d _ e').1 (nz d _ e').2 q
 self:=fun _ _ _ _ _ st h=>wpAny_pyIter_zip st.1 h
section
variable{X:Cx}
def Ko(t1 t2:Bool)(K:Frag)(t:TA):TI:=fun σ H R=>t σ H fun vs H1=>∃a b xs ys,vs=[.ref a,.ref b]/\SQ t1 K H1 a xs/\SQ t2 K H1 b ys/\R (Itz t1 t2 K a b) H1
theorem pi_zip(t1 t2:Bool){es:List Expr}{k:Nat}{tp:Pos}{a b:Expr}{ta:TA}{p pos:Pos}(hg:Gl X "zip")(hm:X.mg "zip"=none)(ha:PA X [a,b] ta)(hs:starEach [a,b] X.env=[(false,eval a X.env),(false,eval b X.env)]:=by rfl)(p9:starEach [b] X.env=[(false,eval b X.env)]:=by rfl):
  PI X (.Tuple es k tp) (.Call (.Name "zip" p) [a,b] [] pos) (Ko t1 t2 X.K ta):=by
 intro Zt s σ H R I h;refine Call_ (gZ I hg hm boot_zip (PyProof.Rows.callWith_type1 (thn (ha pos Zt s σ H _ I h) fun us s1 ⟨vs,H1,I1,r1,q1⟩=>?_) (by rw[hs,p9]) (by rw[p9];rfl)));obtain⟨x,y,xs,ys,e,hx,hy,q⟩:=q1;subst e;obtain⟨u,v,rfl,ru,rv⟩:=vals2 r1;cases ru;cases rv;obtain⟨Zr,_,p1,_⟩:=lK I1 hx;obtain⟨Qb,_,p2,_⟩:=lK I1 hy;refine ug p1 p2 fun h' z1 z2 z3 z4 z5 kp=>?_;refine wpAny_pyIter_zip z1 ?_;have lx:x<s1.heap.objs.size:=by obtain⟨_,e,_⟩:=p1;exact zB1 e
 have ly:y<s1.heap.objs.size:=by obtain⟨_,e,_⟩:=p2;exact zB1 e
 refine⟨_,_,_,_,H1,rfl,I1.kept (t':=s1.toks) kp,Bb (zipApart_new lx ly),⟨z1,z2,⟨_,_,z3⟩,z4,z5⟩,fun c hc=>?_,q⟩
 have hle:s1.heap.objs.size<=c:=by
  simp only[List.mem_cons,List.not_mem_nil,or_false]at hc;rcases hc with q|q|q|q|q<;>subst q
  .exact Nat.le_add_right _ 4
  .exact Nat.le_add_right _ 2
  .exact Nat.le_add_right _ 3
  .exact zA3 _
  .exact Nat.le_add_right _ 1
 exact I1.fpOk hle (I1.hok.fresh hle)
end
theorem for_zip{t1 t2:Bool}{K:Frag}{a b:Addr}{xs ys:List V}{g:TG}{tb:TS}{D:Ends}{σ:St}{H:Hp}(Pv:Nat->St->Hp->Prop)(he:xs.length=ys.length)(h0:Pv 0 σ H)(hl:∀i σ H,i<=xs.length->Pv i σ H->SQ t1 K H a xs/\SQ t2 K H b ys)
  (hs:∀i x y σ H T,xs[i]?=some x->ys[i]?=some y->Pv i σ H->H T=none->g (.ref T) σ (upd H T (.tup [x,y])) fun aS H2=>tb {D with nx:=Pv (i+1),ct:=Pv (i+1),bk:=D.nx} aS H2) (hd:∀σ H,Pv xs.length σ H->D.nx σ H):
  ∃W:Nat->Nat->St->Hp->Prop,(∃m,W 0 m σ H)/\∀i m σ H,W i m σ H->
   ((Itz t1 t2 K a b).stop i H/\D.nx σ H)\/((Itz t1 t2 K a b).go i H/\∃N:St->Hp->Prop,(∀ah H',N ah H'->∃m',m'<m/\W (i+1) m' ah H')/\∀x H',(Itz t1 t2 K a b).yld i H x H'->g x σ H' fun aS H2=>tb {D with nx:=N,ct:=N,bk:=D.nx} aS H2):=by
 refine⟨fun i m σ H=>m=xs.length-i/\i<=xs.length/\Pv i σ H,⟨xs.length,by simp,Nat.zero_le _,h0⟩,?_⟩;rintro i m σ H ⟨rfl,hi,p⟩;obtain⟨q1,q2⟩:=hl i σ H hi p;by_cases ax:i<xs.length
 .have uj:i<ys.length:=Zz
  refine .inr ⟨⟨xs,ys,xs[i],ys[i],q1,q2,by simp[ax],by simp[uj]⟩,Pv (i+1),fun ah H' p'=>⟨xs.length-(i+1),Zz,rfl,ax,p'⟩,fun v H' y=>?_⟩;obtain⟨T,nT,rfl,y⟩:=y;obtain⟨x,z,ex,ez,rfl⟩:=y xs ys q1 q2;exact hs i x z σ H T ex ez p nT
 .have e:i=xs.length:=Zz
  subst e;exact .inl ⟨⟨xs,q1,zA3 _⟩,hd σ H p⟩
end L2.ZT
namespace L2
open PySem PySem.Spec PyProof.Rows PySem.Calls
section
variable{X:Cx}
theorem cu(hc:X.calm=true):dU X (.builtin "sum") (fun xs H Q=>∃(p:Addr) (ns:List Int),xs=[.ref p]/\(SqL X.K H p (ns.map V.int)\/SqT X.K H p (ns.map V.int))/\Q (.int ns.sum) H):=by
 intro Zt s σ H xs us Q I r h;obtain⟨p,ns,rfl,hq,q⟩:=h;obtain⟨u,rfl,ru⟩:=vals1 r;cases ru
 have go:∀Zr:List Value,Vals (ns.map V.int) Zr->∃zs:Array (Int×Tok),Zr.toArray=intItems zs/\preSum (numAt zs) zs.size=ns.sum:=fun Zr rv=>by
  have hi:IntsAre Zr ns:=intsAre_of rv;obtain⟨zs,ez⟩:=(hi.allInts:AllInts Zr.toArray).items;refine⟨zs,ez,?_⟩;have en:numsOf Zr.toArray.toList=ns:=hi.numsOf;rw[ez,nums_intItems]at en;rw[preSum_eq,List.take_of_length_le Zy,en]
 rcases hq with hq|hq
 .obtain⟨Zr,rv,pl,hz⟩:=I.list hq;obtain⟨zs,ez,es⟩:=go Zr rv;refine sum_intListG (I.ok.hd hc) (ez▸pl.isList) fun h' tk t' hk=>?_;rw[es];exact⟨.int _,H,I.kept (t':=tk) hk,⟨t',rfl⟩,q⟩
 .obtain⟨Zr,rv,pl,hz⟩:=I.tuple hq;obtain⟨zs,ez,es⟩:=go Zr rv;have ht:s.heap.IsTuple p Zr.toArray:=pl;refine PySem.W.ktm_sumG (I.ok.hd hc) (ez▸ht) fun h' tk t' hk=>?_;rw[es];exact⟨.int _,H,I.kept (t':=tk) hk,⟨t',rfl⟩,q⟩
end
section
open PySem.W
variable{prog:Program}{w:World}{A:Around}{E:Value->Shared->Prop}{s:Shared}
end
section
variable{X:Cx}
end
end L2
namespace Srt
open PySem PyProof.Rows
def gq:Bool->Keyed->Array Keyed->Nat->Nat->Nat->StateT SortSt Sem (Option Nat):=sortPriv% PySem.Builtin.gallop
section
variable{prog:Program}{w:World}{A:Around}{E:Value->Shared->Prop}{s:Shared}{κ:PyProof.Rows.KeyKind}
def Jd(prog:Program)(w:World)(A:Around)(E:Value->Shared->Prop)(s:Shared)(κ:PyProof.Rows.KeyKind)(st:SortSt):Prop:=
 ∀(x y:Keyed) (a b:κ.α) (Q:Option Bool->SortSt->Prop),κ.keyOf x.1=some a->κ.keyOf y.1=some b->Q (some (κ.blt a b)) st->wpS (model prog w) A E s (lt' x y) Q st
theorem bw{arr:Array Keyed}{i:Nat}{p:Keyed}{Q:Keyed->SortSt->Prop}{st:SortSt}(e:arr[i]?=some p)(h:Q p st):wpS (model prog w) A E s (elem' arr i) Q st:=by
 rw[elem'_eq,e];exact wpS_pure h
def bey(κ:PyProof.Rows.KeyKind)(left:Bool)(k:κ.α)(x:κ.α):Bool:=if left then κ.blt x k else !(κ.blt k x)
theorem eU{left:Bool}{key:Keyed}{arr:Array Keyed}{b n h:Nat}{Q:Option Nat->SortSt->Prop}{st:SortSt}{kk:κ.α}(hL:Jd prog w A E s κ st)(hk:κ.keyOf key.1=some kk)(hn:h<n)
  (qV:∀i,i<n->∃p a,arr[b+i]?=some p/\κ.keyOf p.1=some a/\KK κ arr (b+i)=a) (hm:∀i j,i<=j->j<n->bey κ left kk (KK κ arr (b+j))=true->bey κ left kk (KK κ arr (b+i))=true)
  (q:∀k,k<=n->(∀i,i<k->bey κ left kk (KK κ arr (b+i))=true)->(∀i,k<=i->i<n->bey κ left kk (KK κ arr (b+i))=false)->Q (some k) st):
  wpS (model prog w) A E s (gq left key arr b n h) Q st:=by
 have ja:∀(i:Nat) (R:Option Bool->SortSt->Prop),i<n->R (some (bey κ left kk (KK κ arr (b+i)))) st->wpS (model prog w) A E s (do
   let x <-elem' arr (b+i)
   if left=true then lt' x key else do
    let r <-lt' key x
    pure (Option.map (fun x=>!x) r)) R st:=fun i R hi hR=>by
  obtain⟨p,a,e1,e2,e3⟩:=qV i hi;refine wpS_bind (bw e1 ?_);unfold bey at hR;rw[e3]at hR
  cases left with
  |true=>
   rw[zAy rfl];exact hL _ _ _ _ _ e2 hk hR
  |false=>
   rw[zAv Zx];exact wpS_bind (hL _ _ _ _ _ hk e2 (wpS_pure hR))
 generalize Qe:(fun i=>bey κ left kk (KK κ arr (b+i)))=β
 have HI:∀i,bey κ left kk (KK κ arr (b+i))=β i:=fun i=>by rw[<-Qe]
 simp only[HI]at ja hm q
 delta gq
 refine wpS_bind (ja h _ hn ?_)
 cases e0:β h with
 |true=>
  dsimp only;rw[if_pos rfl]
  refine wpS_bind (wpS_mono (wpS_forRange (I:=fun x c Zq=>Zq=st/\c.1=none/\c.2.1<c.2.2/\c.2.1<n-h/\x<c.2.2/\β (h+c.2.1)=true)
   (Q:=fun c Zq=>Zq=st/\c.1=none/\c.2.1<c.2.2/\c.2.1<n-h/\β (h+c.2.1)=true/\(c.2.2≥n-h\/(c.2.2<n-h/\β (h+c.2.2)=false))) ?_ ?_ ⟨rfl,rfl,(by show 0<1;decide),(by show 0<n-h;lia),(by show 0<1;decide),(show β (h+0)=true from e0)⟩) ?_)
  .rintro x ⟨c0,l,o⟩ Zq _ hx ⟨rfl,rfl,g1,g2,g3,g4⟩;dsimp only at g1 g2 g3 g4⊢;by_cases ho:o≥n-h
   .rw[zAy ho];exact wpS_pure ⟨rfl,rfl,g1,g2,g4,.inl ho⟩
   .rw[zAv ho];refine wpS_bind (ja (h+o) _ Zz ?_)
    cases eb:β (h+o)with
    |true=>
     dsimp only;rw[if_neg Zx];exact wpS_pure ⟨rfl,rfl,by dsimp only;lia,by dsimp only;lia,by dsimp only;lia,eb⟩
    |false=>
     dsimp only;rw[if_pos Zx];exact wpS_pure ⟨rfl,rfl,g1,g2,g4,.inr ⟨by dsimp only;lia,eb⟩⟩
  .rintro⟨c0,l,o⟩ Zq ⟨rfl,rfl,g1,g2,g3,g4⟩;dsimp only at g1 g2 g3 g4⊢;exact⟨rfl,rfl,g1,g2,g4,.inl Zz⟩
  .rintro⟨c0,l,o⟩ Zq ⟨rfl,rfl,g1,g2,g4,g5⟩;dsimp only at g1 g2 g4 g5⊢
   have w4:∀i,h+min o (n-h)<=i->i<n->β i=false:=fun i hi gI=>by
    rcases g5 with g5|⟨g5,g6⟩
    .lia
    .cases e2:β i with
     |false=>rfl
     |true=>
      have:=hm (h+o) i Zz gI e2;rw[g6]at this;cases this
   obtain⟨lo,fz⟩:∃lo,lo=h+l+1:=⟨_,rfl⟩
   obtain⟨hi,kq⟩:∃hi,hi=h+min o (n-h):=⟨_,rfl⟩
   have w1:lo<=hi:=Zz
   have w2:hi<=n:=Zz
   have w3:∀i,i<lo->β i=true:=fun i hi=>hm i (h+l) Zz Zz g4;have w4:∀i,hi<=i->i<n->β i=false:=by rw[kq];exact w4
   rw[<-fz,<-kq]
   refine wpS_bind (wpS_mono (wpS_forRange (I:=fun x c dE=>dE=Zq/\c.1=none/\c.2.1<=c.2.2/\c.2.2<=n/\c.2.2-c.2.1<=n-x/\(∀i,i<c.2.1->β i=true)/\(∀i,c.2.2<=i->i<n->β i=false))
    (Q:=fun c dE=>dE=Zq/\c.1=none/\c.2.2<=n/\(∀i,i<c.2.2->β i=true)/\(∀i,c.2.2<=i->i<n->β i=false)) ?_ ?_ ⟨rfl,rfl,w1,w2,(by show hi-lo<=n-0;lia),w3,w4⟩) ?_)
   .rintro x ⟨c0,l,r⟩ dE _ hx ⟨rfl,rfl,g1,g2,g3,g4,g5⟩;dsimp only at g1 g2 g3 g4 g5⊢;by_cases js:l≥r
    .rw[zAy js];have e:l=r:=Zz
     exact wpS_pure ⟨rfl,rfl,g2,by rw[<-e];exact g4,g5⟩
    .rw[zAv js];refine wpS_bind (ja (l+(r-l) / 2) _ Zz ?_)
     cases eb:β (l+(r-l) / 2)with
     |true=>
      dsimp only;rw[if_pos rfl];exact wpS_pure ⟨rfl,rfl,by dsimp only;lia,g2,by dsimp only;lia,fun i hi=>hm i _ (by dsimp only at hi;lia) Zz eb,g5⟩
     |false=>
      dsimp only;rw[if_neg Zx];refine wpS_pure ⟨rfl,rfl,by dsimp only;lia,by dsimp only;lia,by dsimp only;lia,g4,fun i hi gI=>?_⟩
      cases e2:β i with
      |false=>rfl
      |true=>
       have:=hm (l+(r-l) / 2) i hi gI e2;rw[eb]at this;cases this
   .rintro⟨c0,l,r⟩ dE ⟨rfl,rfl,g1,g2,g3,g4,g5⟩;dsimp only at g1 g2 g3 g4 g5⊢;have e:l=r:=Zz
    exact⟨rfl,rfl,g2,by rw[<-e];exact g4,g5⟩
   .rintro⟨c0,l,r⟩ dE ⟨rfl,rfl,g1,g2,g3⟩;exact wpS_pure (q _ g1 g2 g3)
 |false=>
  dsimp only;rw[if_neg Zx]
  refine wpS_bind (wpS_mono (wpS_forRange (I:=fun x c Zq=>Zq=st/\c.1=none/\c.2.1<c.2.2/\c.2.1<h+1/\x<c.2.2/\β (h-c.2.1)=false)
   (Q:=fun c Zq=>Zq=st/\c.1=none/\c.2.1<c.2.2/\c.2.1<h+1/\β (h-c.2.1)=false/\(c.2.2≥h+1\/(c.2.2<h+1/\β (h-c.2.2)=true))) ?_ ?_ ⟨rfl,rfl,(by show 0<1;decide),(by show 0<h+1;lia),(by show 0<1;decide),(show β (h-0)=false from e0)⟩) ?_)
  .rintro x ⟨c0,l,o⟩ Zq _ hx ⟨rfl,rfl,g1,g2,g3,g4⟩;dsimp only at g1 g2 g3 g4⊢;by_cases ho:o≥h+1
   .rw[zAy ho];exact wpS_pure ⟨rfl,rfl,g1,g2,g4,.inl ho⟩
   .rw[zAv ho];refine wpS_bind (ja (h-o) _ Zz ?_)
    cases eb:β (h-o)with
    |false=>
     dsimp only;rw[if_neg Zx];exact wpS_pure ⟨rfl,rfl,by dsimp only;lia,by dsimp only;lia,by dsimp only;lia,eb⟩
    |true=>
     dsimp only;rw[if_pos rfl];exact wpS_pure ⟨rfl,rfl,g1,g2,g4,.inr ⟨by dsimp only;lia,eb⟩⟩
  .rintro⟨c0,l,o⟩ Zq ⟨rfl,rfl,g1,g2,g3,g4⟩;dsimp only at g1 g2 g3 g4⊢;exact⟨rfl,rfl,g1,g2,g4,.inl Zz⟩
  .rintro⟨c0,l,o⟩ Zq ⟨rfl,rfl,g1,g2,g4,g5⟩;dsimp only at g1 g2 g4 g5⊢
   have w3:∀i,i<h+1-min o (h+1)->β i=true:=fun i hi=>by
    rcases g5 with g5|⟨g5,g6⟩
    .lia
    .exact hm i (h-o) Zz Zz g6
   have w4:∀i,h-l<=i->i<n->β i=false:=fun i hi gI=>by
    cases e2:β i with
    |false=>rfl
    |true=>
     have:=hm (h-l) i hi gI e2;rw[g4]at this;cases this
   obtain⟨lo,fz⟩:∃lo,lo=h+1-min o (h+1):=⟨_,rfl⟩
   obtain⟨hi,kq⟩:∃hi,hi=h-l:=⟨_,rfl⟩
   have w1:lo<=hi:=Zz
   have w2:hi<=n:=Zz
   have w3:∀i,i<lo->β i=true:=by rw[fz];exact w3
   have w4:∀i,hi<=i->i<n->β i=false:=by rw[kq];exact w4
   rw[<-fz,<-kq]
   refine wpS_bind (wpS_mono (wpS_forRange (I:=fun x c dE=>dE=Zq/\c.1=none/\c.2.1<=c.2.2/\c.2.2<=n/\c.2.2-c.2.1<=n-x/\(∀i,i<c.2.1->β i=true)/\(∀i,c.2.2<=i->i<n->β i=false))
    (Q:=fun c dE=>dE=Zq/\c.1=none/\c.2.2<=n/\(∀i,i<c.2.2->β i=true)/\(∀i,c.2.2<=i->i<n->β i=false)) ?_ ?_ ⟨rfl,rfl,w1,w2,(by show hi-lo<=n-0;lia),w3,w4⟩) ?_)
   .rintro x ⟨c0,l,r⟩ dE _ hx ⟨rfl,rfl,g1,g2,g3,g4,g5⟩;dsimp only at g1 g2 g3 g4 g5⊢;by_cases js:l≥r
    .rw[zAy js];have e:l=r:=Zz
     exact wpS_pure ⟨rfl,rfl,g2,by rw[<-e];exact g4,g5⟩
    .rw[zAv js];refine wpS_bind (ja (l+(r-l) / 2) _ Zz ?_)
     cases eb:β (l+(r-l) / 2)with
     |true=>
      dsimp only;rw[if_pos rfl];exact wpS_pure ⟨rfl,rfl,by dsimp only;lia,g2,by dsimp only;lia,fun i hi=>hm i _ (by dsimp only at hi;lia) Zz eb,g5⟩
     |false=>
      dsimp only;rw[if_neg Zx];refine wpS_pure ⟨rfl,rfl,by dsimp only;lia,by dsimp only;lia,by dsimp only;lia,g4,fun i hi gI=>?_⟩
      cases e2:β i with
      |false=>rfl
      |true=>
       have:=hm (l+(r-l) / 2) i hi gI e2;rw[eb]at this;cases this
   .rintro⟨c0,l,r⟩ dE ⟨rfl,rfl,g1,g2,g3,g4,g5⟩;dsimp only at g1 g2 g3 g4 g5⊢;have e:l=r:=Zz
    exact⟨rfl,rfl,g2,by rw[<-e];exact g4,g5⟩
   .rintro⟨c0,l,r⟩ dE ⟨rfl,rfl,g1,g2,g3⟩;exact wpS_pure (q _ g1 g2 g3)
end
abbrev Sm:=StateT SortSt Sem
def yK(lo a m:Nat):Sm AscSt:=
 forIn [a:m] ((none,a):AscSt) fun _ c=>do
  let x <-ltAt' (lo+c.snd) (lo+c.snd-1)
  match x with
  |some b=>if b=true then pure (ForInStep.done (none,c.snd))else pure (ForInStep.yield (none,c.snd+1))
  |_=>pure (ForInStep.done (some none,c.snd))
def qe(lo n m:Nat):Sm (Option Nat):=do
 reverseSlice' lo (lo+n)
 let c <-yK lo n m
 match c.fst with
 |some r=>pure r
 |none=>pure (some c.snd)
def wF(lo n m:Nat):Sm DescSt:=
 forIn [n:m] ((none,n,0):DescSt) fun _ c=>do
  let x <-ltAt' (lo+c.snd.fst) (lo+c.snd.fst-1)
  match x with
  |some b=>
   if b=true then
    if c.snd.snd>0 then do
     reverseSlice' (lo+c.snd.fst-(c.snd.snd+1)) (lo+c.snd.fst)
     pure (ForInStep.yield (none,c.snd.fst+1,0))
    else pure (ForInStep.yield (none,c.snd.fst+1,0))
   else do
    let y <-ltAt' (lo+c.snd.fst-1) (lo+c.snd.fst)
    match y with
    |some d=>
     if d=true then pure (ForInStep.done (none,c.snd.fst,c.snd.snd))
     else pure (ForInStep.yield (none,c.snd.fst+1,c.snd.snd+1))
    |_=>pure (ForInStep.done (some none,c.snd.fst,c.snd.snd))
  |_=>pure (ForInStep.done (some none,c.snd.fst,c.snd.snd))
def qg(lo n m:Nat):Sm (Option Nat):=do
 liftM (rule "list.sort.descending-run")
 let c <-wF lo (n+1) m
 match c.fst with
 |some r=>pure r
 |none=>
  if c.snd.snd>0 then do
   reverseSlice' (lo+c.snd.fst-(c.snd.snd+1)) (lo+c.snd.fst)
   qe lo c.snd.fst m
  else qe lo c.snd.fst m
theorem bc{α β:Type}{m m':Sm α}{f f':α->Sm β}(h:m=m')(h':f=f'):(m>>=f)=(m'>>=f'):=by rw[h,h']
theorem yL(lo m:Nat):countRun' lo m=(do
  let c <-yK lo 1 m
  match c.fst with
  |some r=>pure r
  |none=>
   if(c.snd==m)=true then pure (some c.snd)
   else if c.snd>1 then do
    let x <-ltAt' lo (lo+c.snd-1)
    match x with
    |some b=>if b=true then pure (some c.snd)else do
      reverseSlice' lo (lo+c.snd)
      qg lo c.snd m
    |_=>pure none
   else qg lo c.snd m):=by
 rw[countRun'_eq]
 have tl:∀n:Nat,((do
   reverseSlice' lo (lo+n)
   let mut n:=n
   for _ in[n:m]do
    let some smaller <-ltAt' (lo+n) (lo+n-1)|return none
    if smaller then break
    n:=n+1
   return some n):Sm (Option Nat))=qe lo n m:=fun n=>by
  unfold qe yK;refine bc rfl (funext fun u=>bc rfl (funext fun c=>?_));obtain⟨r,n⟩:=c;cases r<;>rfl
 have pl:∀n:Nat,((do
   rule "list.sort.descending-run"
   let mut n:=n+1
   let mut neq:=0
   for _ in[n:m]do
    let some smaller <-ltAt' (lo+n) (lo+n-1)|return none
    if smaller then
     if neq>0 then reverseSlice' (lo+n-(neq+1)) (lo+n)
     neq:=0
    else
     let some larger <-ltAt' (lo+n-1) (lo+n)|return none
     if larger then break
     neq:=neq+1
    n:=n+1
   if neq>0 then reverseSlice' (lo+n-(neq+1)) (lo+n)
   reverseSlice' lo (lo+n)
   for _ in[n:m]do
    let some smaller <-ltAt' (lo+n) (lo+n-1)|return none
    if smaller then break
    n:=n+1
   return some n):Sm (Option Nat))=qg lo n m:=fun n=>by
  unfold qg wF;refine bc rfl (funext fun u=>bc rfl (funext fun c=>?_));obtain⟨r,n2,q2⟩:=c
  cases r with
  |some r=>rfl
  |none=>
   dsimp only;split
   .exact bc rfl (funext fun u=>tl n2)
   .exact tl n2
 unfold yK;refine bc rfl (funext fun c=>?_);obtain⟨r,n⟩:=c
 cases r with
 |some r=>rfl
 |none=>
  dsimp only;split
  .rfl
  .split
   .refine bc rfl (funext fun x=>?_)
    cases x with
    |none=>rfl
    |some b=>
     dsimp only;split
     .rfl
     .exact bc rfl (funext fun u=>pl n)
   .exact pl n
structure SB(ks:SortKind)(ae:Array Keyed)(st:SortSt):Prop where
 kind:kindOf st=ks
 ok:failedOf st=none
 pm:(arrOf st).Perm ae
def Seg(κ:PyProof.Rows.KeyKind)(xs:Array Keyed)(a b:Nat):Prop:=∀i j,a<=i->i<=j->j<b->κ.kle (KK κ xs i) (KK κ xs j)
def Non(κ:PyProof.Rows.KeyKind)(xs:Array Keyed)(a b:Nat):Prop:=∀i j,a<=i->i<=j->j<b->κ.kle (KK κ xs j) (KK κ xs i)
structure Out(st Zq:SortSt)(a b:Nat):Prop where
 out:∀k,(k<a\/b<=k)->(arrOf Zq)[k]?=(arrOf st)[k]?
 pend:pendingOf Zq=pendingOf st
theorem Out.refl(st:SortSt)(a b:Nat):Out st st a b:=⟨fun _ _=>rfl,rfl⟩
theorem Out.trans{st gg st2:SortSt}{a b:Nat}(h:Out st gg a b)(h':Out gg st2 a b):Out st st2 a b:=⟨fun k hk=>(h'.out k hk).trans (h.out k hk),h'.pend.trans h.pend⟩
section
variable{prog:Program}{w:World}{A:Around}{E:Value->Shared->Prop}{s:Shared}{κ:PyProof.Rows.KeyKind}{ks:SortKind}{ae:Array Keyed}
def LtAll(prog:Program)(w:World)(A:Around)(E:Value->Shared->Prop)(s:Shared)(κ:PyProof.Rows.KeyKind)(ks:SortKind):Prop:=∀st,kindOf st=ks->Jd prog w A E s κ st
theorem SB.size{st:SortSt}(B:SB ks ae st):(arrOf st).size=ae.size:=B.pm.size_eq
theorem SB.item{st:SortSt}(B:SB ks ae st)(h0:KeysOf κ ae){i:Nat}(hi:i<ae.size):∃p a,(arrOf st)[i]?=some p/\κ.keyOf p.1=some a/\KK κ (arrOf st) i=a:=by
 have dQ:i<(arrOf st).size:=by rw[B.size];exact hi
 have e:(arrOf st)[i]?=some (arrOf st)[i]:=Array.getElem?_eq_getElem dQ;have hm:(arrOf st)[i]∈ae.toList:=(Array.perm_iff_toList_perm.mp B.pm).mem_iff.mp (Array.mem_toList_iff.mpr (Array.getElem_mem dQ));obtain⟨a,ha⟩:=h0 _ hm;refine⟨_,a,e,ha,?_⟩;unfold KK;rw[e];dsimp only;rw[ha];rfl
theorem SB.arr{st:SortSt}(B:SB ks ae st){xs:Array Keyed}(h:xs.Perm (arrOf st)):SB ks ae (setArr st xs):=⟨B.kind,B.ok,h.trans B.pm⟩
theorem ltA(hL:LtAll prog w A E s κ ks){st:SortSt}{i j:Nat}{Q:Option Bool->SortSt->Prop}(B:SB ks ae st)(h0:KeysOf κ ae)(hi:i<ae.size)(hj:j<ae.size)(h:Q (some (κ.blt (KK κ (arrOf st) i) (KK κ (arrOf st) j))) st):
  wpS (model prog w) A E s (ltAt' i j) Q st:=by
 obtain⟨p,a,e1,ka,ea⟩:=B.item (κ:=κ) h0 hi;obtain⟨q,b,e2,kb,eb⟩:=B.item (κ:=κ) h0 hj;rw[ea,eb]at h;rw[ltAt'_eq];refine wpS_bind (wpS_get (wpS_bind (bw e1 (wpS_bind (bw e2 ?_)))));exact hL st B.kind p q a b Q ka kb h
theorem rJ{st:SortSt}{i j:Nat}{Q:Unit->SortSt->Prop}(h:Q () (setArr st (mirror (arrOf st) i j ((j-i) / 2)))):wpS (model prog w) A E s (reverseSlice' i j) Q st:=wpS_reverse h
theorem Out.rev{st:SortSt}{i j a b:Nat}(hj:j<=(arrOf st).size)(h1:a<=i)(h2:j<=b):Out st (setArr st (mirror (arrOf st) i j ((j-i) / 2))) a b:=by
 refine⟨fun k hk=>?_,rfl⟩;show(mirror (arrOf st) i j ((j-i) / 2))[k]?=_;rw[getElem?_mirror_all hj,zAv Zz]
theorem wG(hL:LtAll prog w A E s κ ks)(h0:KeysOf κ ae){st:SortSt}{lo a m:Nat}{Q:AscSt->SortSt->Prop}(hn:lo+m<=ae.size)(ha:1<=a)(Qf:a<=m)(B:SB ks ae st)(hs:Seg κ (arrOf st) lo (lo+a))
  (h:∀n,a<=n->n<=m->Seg κ (arrOf st) lo (lo+n)->(n=m\/κ.klt (KK κ (arrOf st) (lo+n)) (KK κ (arrOf st) (lo+n-1)))->Q (none,n) st):wpS (model prog w) A E s (yK lo a m) Q st:=by
 unfold yK;refine wpS_forRange (I:=fun x c Zq=>Zq=st/\c=(none,x)/\Seg κ (arrOf st) lo (lo+x)) ?_ ?_ ⟨rfl,rfl,hs⟩
 .rintro x c Zq HM Qg ⟨rfl,rfl,cm⟩;dsimp only;refine wpS_bind (ltA hL B h0 Zz Zz ?_)
  cases e:κ.blt (KK κ (arrOf Zq) (lo+x)) (KK κ (arrOf Zq) (lo+x-1))with
  |true=>
   dsimp only;rw[if_pos rfl];exact wpS_pure (h x HM Zz cm (.inr e))
  |false=>
   dsimp only;rw[if_neg Zx];refine wpS_pure ⟨rfl,rfl,fun i j hi ck hj=>?_⟩;by_cases A8:j<lo+x
   .exact cm i j hi ck A8
   .have ej:j=lo+x:=Zz
    subst ej;by_cases ei:i=lo+x
    .rw[ei];exact KeyOrd.kle_refl _
    .exact KeyOrd.kle_trans (cm i (lo+x-1) hi Zz Zz) e
 .rintro c Zq ⟨rfl,rfl,cm⟩;rw[show max a m=m by lia]at cm⊢;exact h m Qf (zA3 _) cm (.inl rfl)
theorem uh(hL:LtAll prog w A E s κ ks)(h0:KeysOf κ ae){st:SortSt}{lo n m:Nat}{Q:Option Nat->SortSt->Prop}(hn:lo+m<=ae.size)(h1:1<=n)(nS:n<=m)(B:SB ks ae st)(hs:Non κ (arrOf st) lo (lo+n))
  (h:∀k Zq,SB ks ae Zq->Out st Zq lo (lo+m)->1<=k->k<=m->Seg κ (arrOf Zq) lo (lo+k)->Q (some k) Zq):wpS (model prog w) A E s (qe lo n m) Q st:=by
 unfold qe;have hsz:lo+n<=(arrOf st).size:=by rw[B.size];lia
 refine wpS_bind (rJ ?_);have B':=B.arr (mirror_perm (arrOf st) lo (lo+n) ((lo+n-lo) / 2));refine wpS_bind (wG hL h0 hn h1 nS B' ?_ fun k Wr uk Qh _=>wpS_pure (h k _ B' (Out.rev hsz (zA3 _) Zz) Zz uk Qh));intro i j hi ck hj;show κ.kle (KK κ (mirror (arrOf st) lo (lo+n) ((lo+n-lo) / 2)) i) (KK κ (mirror (arrOf st) lo (lo+n) ((lo+n-lo) / 2)) j);rw[KK_mirror hsz,KK_mirror hsz,zAy Zz,zAy Zz];exact hs _ _ Zz Zz Zz
theorem Bc(hL:LtAll prog w A E s κ ks)(h0:KeysOf κ ae){st:SortSt}{lo n m:Nat}{Q:DescSt->SortSt->Prop}(hn:lo+m<=ae.size)(h1:1<=n)(nS:n<=m)(B:SB ks ae st)(hs:Non κ (arrOf st) lo (lo+n))
  (h:∀k q Zq,SB ks ae Zq->Out st Zq lo (lo+m)->n<=k->k<=m->Non κ (arrOf Zq) lo (lo+k)->q+1<=k->(∀i,lo+k-(q+1)<=i->i<lo+k->KK κ (arrOf Zq) i=KK κ (arrOf Zq) (lo+k-1))->Q (none,k,q) Zq):
  wpS (model prog w) A E s (wF lo n m) Q st:=by
 unfold wF
 refine wpS_forRange (I:=fun x c Zq=>∃q,c=(none,x,q)/\SB ks ae Zq/\Out st Zq lo (lo+m)/\Non κ (arrOf Zq) lo (lo+x)/\q+1<=x/\(∀i,lo+x-(q+1)<=i->i<lo+x->KK κ (arrOf Zq) i=KK κ (arrOf Zq) (lo+x-1))) ?_ ?_
  ⟨0,rfl,B,Out.refl _ _ _,hs,Zz,fun i z1 z2=>by congr 1;lia⟩
 .rintro x c Zq HM Qg ⟨q,rfl,B',O',cm,hq,he⟩;dsimp only;have hsz:lo+x<=(arrOf Zq).size:=by rw[B'.size];lia
  refine wpS_bind (ltA hL B' h0 Zz Zz ?_)
  cases e:κ.blt (KK κ (arrOf Zq) (lo+x)) (KK κ (arrOf Zq) (lo+x-1))with
  |true=>
   dsimp only;rw[if_pos rfl]
   have more:∀xs:Array Keyed,(∀k,KK κ xs k=KK κ (arrOf Zq) k)->Non κ xs lo (lo+(x+1)):=fun xs hk i j hi ck hj=>by
    rw[hk,hk];by_cases A8:j<lo+x
    .exact cm i j hi ck A8
    .have ej:j=lo+x:=Zz
     subst ej;by_cases ei:i=lo+x
     .rw[ei];exact KeyOrd.kle_refl _
     .exact KeyOrd.kle_trans (KeyOrd.kle_of_klt e) (cm i (lo+x-1) hi Zz Zz)
   by_cases A9:q>0
   .rw[zAy A9];refine wpS_bind (rJ (wpS_pure ⟨0,rfl,B'.arr (mirror_perm _ _ _ _),O'.trans (Out.rev hsz Zz Zz),more _ (KK_mirror_equal hsz he),Zz,fun i z1 z2=>by congr 1;lia⟩))
   .rw[zAv A9];exact wpS_pure ⟨0,rfl,B',O',more _ (fun _=>rfl),Zz,fun i z1 z2=>by congr 1;lia⟩
  |false=>
   dsimp only;rw[if_neg Zx];refine wpS_bind (ltA hL B' h0 Zz Zz ?_)
   cases e2:κ.blt (KK κ (arrOf Zq) (lo+x-1)) (KK κ (arrOf Zq) (lo+x))with
   |true=>
    dsimp only;rw[if_pos rfl];exact wpS_pure (h x q Zq B' O' HM Zz cm hq he)
   |false=>
    dsimp only;rw[if_neg Zx];have ex:KK κ (arrOf Zq) (lo+x)=KK κ (arrOf Zq) (lo+x-1):=KeyOrd.kle_antisymm e2 e;refine wpS_pure ⟨q+1,rfl,B',O',fun i j hi ck hj=>?_,Zz,fun i z1 z2=>?_⟩
    .by_cases A8:j<lo+x
     .exact cm i j hi ck A8
     .have ej:j=lo+x:=Zz
      subst ej;by_cases ei:i=lo+x
      .rw[ei];exact KeyOrd.kle_refl _
      .rw[ex];exact cm i (lo+x-1) hi Zz Zz
    .rw[show lo+(x+1)-1=lo+x by lia];by_cases ei:i=lo+x
     .rw[ei]
     .rw[ex];exact he i Zz Zz
 .rintro c Zq ⟨q,rfl,B',O',cm,hq,he⟩;rw[show max n m=m by lia]at cm hq he⊢;exact h m q Zq B' O' nS (zA3 _) cm hq he
theorem ul(hL:LtAll prog w A E s κ ks)(h0:KeysOf κ ae){st:SortSt}{lo n m:Nat}{Q:Option Nat->SortSt->Prop}(hn:lo+m<=ae.size)(nS:n+1<=m)(B:SB ks ae st)(hs:Non κ (arrOf st) lo (lo+(n+1)))
  (h:∀k Zq,SB ks ae Zq->Out st Zq lo (lo+m)->1<=k->k<=m->Seg κ (arrOf Zq) lo (lo+k)->Q (some k) Zq):wpS (model prog w) A E s (qg lo n m) Q st:=by
 unfold qg;refine wpS_bind (wpS_lift (wpAny_rule ⟨rfl,?_⟩));refine wpS_bind (Bc hL h0 hn Zz nS B hs fun k q Zq B' O' k1 k2 cm hq he=>?_);dsimp only;have hsz:lo+k<=(arrOf Zq).size:=by rw[B'.size];lia
 by_cases A9:q>0
 .rw[zAy A9];refine wpS_bind (rJ (uh hL h0 hn Zz k2 (B'.arr (mirror_perm _ _ _ _)) ?_ fun k' st2 B2 O2=>h k' st2 B2 ((O'.trans (Out.rev hsz Zz Zz)).trans O2)));intro i j hi ck hj;show κ.kle (KK κ (mirror (arrOf Zq) _ _ _) j) (KK κ (mirror (arrOf Zq) _ _ _) i);rw[KK_mirror_equal hsz he,KK_mirror_equal hsz he];exact cm i j hi ck hj
 .rw[zAv A9];exact uh hL h0 hn Zz k2 B' cm fun k' st2 B2 O2=>h k' st2 B2 (O'.trans O2)
theorem Bd(hL:LtAll prog w A E s κ ks)(h0:KeysOf κ ae){st:SortSt}{lo m:Nat}{Q:Option Nat->SortSt->Prop}(hn:lo+m<=ae.size)(h1:1<=m)(B:SB ks ae st)
  (h:∀k Zq,SB ks ae Zq->Out st Zq lo (lo+m)->1<=k->k<=m->Seg κ (arrOf Zq) lo (lo+k)->Q (some k) Zq):wpS (model prog w) A E s (countRun' lo m) Q st:=by
 rw[yL];refine wpS_bind (wG hL h0 hn (zA3 1) h1 B (fun i j hi ck hj=>by have:i=j:=Zz;rw[this];exact KeyOrd.kle_refl _) fun n n1 n2 EI Qi=>?_);dsimp only;by_cases nS:n=m
 .rw[if_pos (by simpa using nS)];exact wpS_pure (h n st B (Out.refl _ _ _) n1 n2 EI)
 .rw[if_neg (by simpa using nS)];have ax:=Qi.resolve_left nS;by_cases Nm:n>1
  .rw[zAy Nm];refine wpS_bind (ltA hL B h0 Zz Zz ?_)
   cases e:κ.blt (KK κ (arrOf st) lo) (KK κ (arrOf st) (lo+n-1))with
   |true=>
    dsimp only;rw[if_pos rfl];exact wpS_pure (h n st B (Out.refl _ _ _) n1 n2 EI)
   |false=>
    dsimp only;rw[if_neg Zx];have hsz:lo+n<=(arrOf st).size:=by rw[B.size];lia
    have gE:∀k,lo<=k->k<lo+n->KK κ (arrOf st) k=KK κ (arrOf st) (lo+n-1):=fun k mN hk=>by
     have a1:=EI lo k (zA3 _) mN hk;have a2:=EI k (lo+n-1) mN Zz Zz;exact KeyOrd.kle_antisymm a2 (KeyOrd.kle_trans e a1)
    refine wpS_bind (rJ (ul hL h0 hn Zz (B.arr (mirror_perm _ _ _ _)) ?_ fun k st2 B2 O2=>h k st2 B2 ((Out.rev hsz (zA3 _) Zz).trans O2)));intro i j hi ck hj;show κ.kle (KK κ (mirror (arrOf st) _ _ _) j) (KK κ (mirror (arrOf st) _ _ _) i);rw[KK_mirror_equal hsz gE,KK_mirror_equal hsz gE];by_cases Qj:j<lo+n
    .rw[gE i hi Zz,gE j Zz Qj];exact KeyOrd.kle_refl _
    .have ej:j=lo+n:=Zz
     subst ej;by_cases ei:i=lo+n
     .rw[ei];exact KeyOrd.kle_refl _
     .rw[gE i hi Zz];exact KeyOrd.kle_of_klt ax
  .rw[zAv Nm];have e1:n=1:=Zz
   subst e1;refine ul hL h0 hn Zz B ?_ h;intro i j hi ck hj;by_cases ei:i=j
   .rw[ei];exact KeyOrd.kle_refl _
   .have i0:i=lo:=Zz
    have j1:j=lo+1:=Zz
    rw[i0,j1];exact KeyOrd.kle_of_klt ax
theorem Hn(hL:LtAll prog w A E s κ ks)(h0:KeysOf κ ae){st:SortSt}{lo n ok:Nat}{Q:Bool->SortSt->Prop}(hn:lo+n<=ae.size)(hok:ok<=n)(B:SB ks ae st)(hs:Seg κ (arrOf st) lo (lo+ok))
  (h:∀Zq,SB ks ae Zq->Out st Zq lo (lo+n)->Seg κ (arrOf Zq) lo (lo+n)->Q true Zq):wpS (model prog w) A E s (binarySort' lo n ok) Q st:=by
 rw[binarySort'_eq]
 refine wpS_bind (wpS_mono (wpS_forRange (I:=fun k c Zq=>c=(none,())/\SB ks ae Zq/\Out st Zq lo (lo+n)/\Seg κ (arrOf Zq) lo (lo+min k n))
  (Q:=fun c Zq=>c=(none,())/\SB ks ae Zq/\Out st Zq lo (lo+n)/\Seg κ (arrOf Zq) lo (lo+n)) ?_ ?_ ?_) ?_)
 .rintro k c Zq mN Ws ⟨rfl,B',O',cm⟩;rw[show min k n=k by lia]at cm
  refine wpS_bind (wpS_mono (wpS_forRange (I:=fun x c st2=>st2=Zq/\∃l r,c=(none,l,r)/\l<=r/\r<=k/\r-l<=k-x/\(∀i,i<l->κ.kle (KK κ (arrOf Zq) (lo+i)) (KK κ (arrOf Zq) (lo+k)))/\(∀i,r<=i->i<k->κ.klt (KK κ (arrOf Zq) (lo+k)) (KK κ (arrOf Zq) (lo+i))))
   (Q:=fun c st2=>st2=Zq/\∃l r,c=(none,l,r)/\l<=k/\(∀i,i<l->κ.kle (KK κ (arrOf Zq) (lo+i)) (KK κ (arrOf Zq) (lo+k)))/\(∀i,l<=i->i<k->κ.klt (KK κ (arrOf Zq) (lo+k)) (KK κ (arrOf Zq) (lo+i)))) ?_ ?_ ?_) ?_)
  .rintro x c st2 _ Wt ⟨rfl,l,r,rfl,js,yT,hm,fz,kq⟩;dsimp only;by_cases uu:l≥r
   .rw[zAy uu];have e:l=r:=Zz
    subst e;exact wpS_pure ⟨rfl,l,l,rfl,yT,fz,kq⟩
   .rw[zAv uu];refine wpS_bind (ltA hL B' h0 Zz Zz ?_)
    cases e:κ.blt (KK κ (arrOf st2) (lo+k)) (KK κ (arrOf st2) (lo+(l+r) / 2))with
    |true=>
     dsimp only;rw[if_pos rfl];exact wpS_pure ⟨rfl,l,(l+r) / 2,rfl,Zz,Zz,Zz,fz,fun i z1 z2=>KeyOrd.klt_of_klt_of_kle e (cm (lo+(l+r) / 2) (lo+i) Zz Zz Zz)⟩
    |false=>
     dsimp only;rw[if_neg Zx];exact wpS_pure ⟨rfl,(l+r) / 2+1,r,rfl,Zz,Zz,Zz,fun i z1=>KeyOrd.kle_trans (cm (lo+i) (lo+(l+r) / 2) Zz Zz Zz) (show κ.kle _ _ from e),kq⟩
  .rintro c st2 ⟨rfl,l,r,rfl,js,yT,hm,fz,kq⟩;have e:l=r:=Zz
   subst e;exact⟨rfl,l,l,rfl,yT,fz,kq⟩
  .exact⟨rfl,0,k,rfl,Zz,Zz,Zz,fun i hi=>by lia,fun i z1 z2=>by lia⟩
  .rintro c st2 ⟨rfl,l,r,rfl,kR,fz,kq⟩;show wpS _ _ _ _ (do moveDown' (lo+k) (lo+l);pure (ForInStep.yield (none,()))) _ _;rw[moveDown'_eq];have HP:lo+k<(arrOf st2).size:=by rw[B'.size];lia
   refine wpS_bind (wpS_modify (wpS_pure ⟨rfl,B'.arr (bubble_perm _ _ _),O'.trans ⟨fun z hz=>?_,rfl⟩,?_⟩))
   .show(bubble (arrOf st2) (lo+k) (lo+k-(lo+l)))[z]?=_;rw[getElem?_bubble HP _ Zz,zAv Zz,zAv Zz]
   .rw[show min (k+1) n=k+1 by lia];intro i j hi ck hj;show κ.kle (KK κ (bubble (arrOf st2) (lo+k) (lo+k-(lo+l))) i) (KK κ (bubble (arrOf st2) (lo+k) (lo+k-(lo+l))) j);rw[KK_bubble HP Zz,KK_bubble HP Zz,show lo+k-(lo+k-(lo+l))=lo+l by lia]
    have HU:∀z,lo<=z->z<lo+l->κ.kle (KK κ (arrOf st2) z) (KK κ (arrOf st2) (lo+k)):=fun z z1 z2=>by
     have:=fz (z-lo) Zz;rw[show lo+(z-lo)=z by lia]at this;exact this
    have HV:∀z,lo+l<=z->z<lo+k->κ.kle (KK κ (arrOf st2) (lo+k)) (KK κ (arrOf st2) z):=fun z z1 z2=>by
     have:=kq (z-lo) Zz Zz;rw[show lo+(z-lo)=z by lia]at this;exact KeyOrd.kle_of_klt this
    repeat' split
    all_goals first
     | (exfalso;lia)
     |exact KeyOrd.kle_refl _
     |exact HU _ Zz Zz
     |exact HV _ Zz Zz
     |exact cm _ _ Zz Zz Zz
 .rintro c Zq ⟨hc,B',O',cm⟩;refine⟨hc,B',O',?_⟩
  rwa [show min (max (max ok 1) n) n=n by lia]at cm
 .refine⟨rfl,B,Out.refl _ _ _,fun i j hi ck hj=>?_⟩;by_cases z:ok=0
  .have e:i=j:=Zz
   rw[e];exact KeyOrd.kle_refl _
  .exact hs i j hi ck Zz
 .rintro c Zq ⟨rfl,B',O',cm⟩;exact wpS_pure (h Zq B' O' cm)
end
section
variable{α:Type}{le:α->α->Prop}
structure MI(le:α->α->Prop)(la lb lo:List α)(ia ib:Nat):Prop where
 pm:lo.Perm (la.take ia++lb.take ib)
 sr:lo.Pairwise le
 be:∀x∈lo,∀y,y∈la.drop ia\/y∈lb.drop ib->le x y
theorem iU{l:List α}{i j:Nat}{y:α}(ck:i<=j)(h:y∈l.drop j):y∈l.drop i:=by
 have:l.drop j=(l.drop i).drop (j-i):=by rw[List.drop_drop];congr 1;lia
 rw[this]at h;exact List.mem_of_mem_drop h
theorem wH{l:List α}(h:l.Pairwise le){i j:Nat}(ck:i<=j):∀x∈(l.drop i).take (j-i),∀y∈l.drop j,le x y:=by
 have e:l.drop i=(l.drop i).take (j-i)++l.drop j:=by
  have:=zBa (j-i) (l.drop i);rw[List.drop_drop]at this;rw[show i+(j-i)=j by lia]at this;exact this.symm
 have hp:(l.drop i).Pairwise le:=h.sublist (List.drop_sublist _ _);rw[e]at hp;exact fun x hx y hy=>(List.pairwise_append.mp hp).2.2 x hx y hy
theorem qi(l:List α)(i k:Nat):l.take (i+k)=l.take i++(l.drop i).take k:=List.take_add
theorem MI.segA{la lb lo:List α}{ia ib k:Nat}(m:MI le la lb lo ia ib)(sa:la.Pairwise le)(h:∀x∈(la.drop ia).take k,∀y∈lb.drop ib,le x y):MI le la lb (lo++(la.drop ia).take k) (ia+k) ib:=by
 refine⟨?_,List.pairwise_append.mpr ⟨m.sr,(sa.sublist (List.drop_sublist _ _)).sublist (List.take_sublist _ _),fun x hx y hy=>m.be x hx y (.inl (List.mem_of_mem_take hy))⟩,fun x hx y hy=>?_⟩
 .rw[qi];refine(m.pm.append_right _).trans ?_;rw[zAf,zAf];exact List.Perm.append_left _ (List.perm_append_comm)
 .rcases zA6.mp hx with z|z
  .exact m.be x z y (hy.imp (iU Zz) id)
  .rcases hy with hy|hy
   .have:=wH sa (i:=ia) (j:=ia+k) Zz x (by rw[show ia+k-ia=k by lia];exact z) y hy;exact this
   .exact h x z y hy
theorem MI.segB{la lb lo:List α}{ia ib k:Nat}(m:MI le la lb lo ia ib)(sb:lb.Pairwise le)(h:∀x∈(lb.drop ib).take k,∀y∈la.drop ia,le x y):MI le la lb (lo++(lb.drop ib).take k) ia (ib+k):=by
 refine⟨?_,List.pairwise_append.mpr ⟨m.sr,(sb.sublist (List.drop_sublist _ _)).sublist (List.take_sublist _ _),fun x hx y hy=>m.be x hx y (.inr (List.mem_of_mem_take hy))⟩,fun x hx y hy=>?_⟩
 .rw[qi];refine(m.pm.append_right _).trans ?_;rw[zAf]
 .rcases zA6.mp hx with z|z
  .exact m.be x z y (hy.imp id (iU Zz))
  .rcases hy with hy|hy
   .exact h x z y hy
   .have:=wH sb (i:=ib) (j:=ib+k) Zz x (by rw[show ib+k-ib=k by lia];exact z) y hy;exact this
structure Done(le:α->α->Prop)(la lb lo:List α):Prop where
 pm:lo.Perm (la++lb)
 sr:lo.Pairwise le
theorem MI.endB{la lb lo:List α}{ia ib:Nat}(m:MI le la lb lo ia ib)(sa:la.Pairwise le)(hb:lb.length<=ib):Done le la lb (lo++la.drop ia++lb.drop ib):=by
 have e:lb.drop ib=[]:=List.drop_of_length_le hb;have e2:lb.take ib=lb:=List.take_of_length_le hb;rw[e,zAn];refine⟨?_,List.pairwise_append.mpr ⟨m.sr,sa.sublist (List.drop_sublist _ _),fun x hx y hy=>m.be x hx y (.inl hy)⟩⟩;have:=m.pm;rw[e2]at this;refine(this.append_right _).trans ?_;rw[zAf];refine(List.Perm.append_left _ List.perm_append_comm).trans ?_;rw[<-zAf,zBa]
theorem MI.endA{la lb lo:List α}{ia ib:Nat}(m:MI le la lb lo ia ib)(sb:lb.Pairwise le)(ha:la.length<=ia):Done le la lb (lo++la.drop ia++lb.drop ib):=by
 have e:la.drop ia=[]:=List.drop_of_length_le ha;have e2:la.take ia=la:=List.take_of_length_le ha;rw[e,zAn];refine⟨?_,List.pairwise_append.mpr ⟨m.sr,sb.sublist (List.drop_sublist _ _),fun x hx y hy=>m.be x hx y (.inr hy)⟩⟩;have:=m.pm;rw[e2]at this;refine(this.append_right _).trans ?_;rw[zAf,zBa]
theorem MI.last{la lb lo:List α}{ia ib:Nat}(m:MI le la lb lo ia ib)(sa:la.Pairwise le)(sb:lb.Pairwise le)(h:∀y∈lb.drop ib,∀x∈la.drop ia,le y x):Done le la lb (lo++lb.drop ib++la.drop ia):=by
 refine⟨?_,List.pairwise_append.mpr ⟨List.pairwise_append.mpr ⟨m.sr,sb.sublist (List.drop_sublist _ _),fun x hx y hy=>m.be x hx y (.inr hy)⟩,sa.sublist (List.drop_sublist _ _),fun x hx y hy=>?_⟩⟩
 .refine((m.pm.append_right _).append_right _).trans ?_
  have e:(la.take ia++lb.take ib++lb.drop ib++la.drop ia)=la.take ia++(lb++la.drop ia):=by
   rw[zAf (la.take ia),zBa,zAf]
  rw[e];refine(List.Perm.append_left _ List.perm_append_comm).trans ?_;rw[<-zAf,zBa]
 .rcases zA6.mp hx with z|z
  .exact m.be x z y (.inl hy)
  .exact h x z y hy
end
def jH:Array Keyed->Array Keyed->Sm (Array Keyed):=sortPriv% PySem.Builtin.mergeLo
def jJ:Nat->Sm Unit:=sortPriv% PySem.Builtin.setMinGallop
abbrev C1:=Option (Array Keyed)×Array Keyed×Nat×Nat×Nat×Nat
abbrev C2:=Option (Array Keyed)×Array Keyed×Nat×Nat×Nat×Nat×Nat
abbrev C0:=Option (Array Keyed)×Array Keyed×Nat×Nat×Nat
def one(a b:Array Keyed)(g:Nat)(out:Array Keyed)(ia ib ac bc:Nat):Sm (ForInStep C1):=do
 let y <-elem' b ib
 let x <-elem' a ia
 let r <-lt' y x
 match r with
 |some w=>
  if w=true then do
   let y <-elem' b ib
   if(ib+1==b.size)=true then pure (ForInStep.done (some (out.push y++a.extract ia a.size++b.extract (ib+1) b.size),out.push y,ia,ib+1,0,bc+1))
   else if bc+1≥g then pure (ForInStep.done (none,out.push y,ia,ib+1,0,bc+1))else pure (ForInStep.yield (none,out.push y,ia,ib+1,0,bc+1))
  else do
   let x <-elem' a ia
   if(ia+1+1==a.size)=true then pure (ForInStep.done (some (out.push x++b.extract ib b.size++a.extract (ia+1) a.size),out.push x,ia+1,ib,ac+1,0))
   else if ac+1≥g then pure (ForInStep.done (none,out.push x,ia+1,ib,ac+1,0))else pure (ForInStep.yield (none,out.push x,ia+1,ib,ac+1,0))
 |_=>pure (ForInStep.done (some (out++a.extract ia a.size++b.extract ib b.size),out,ia,ib,ac,bc))
def gl4(a b:Array Keyed)(out:Array Keyed)(ia ib g k k1:Nat):Sm (ForInStep C2):=do
 let x <-elem' a ia
 if(ia+1+1==a.size)=true then pure (ForInStep.done (some (out.push x++b.extract ib b.size++a.extract (ia+1) a.size),out.push x,ia+1,ib,g,k,k1))
 else if(decide (k<7)&&decide (k1<7))=true then pure (ForInStep.done (none,out.push x,ia+1,ib,g,k,k1))else pure (ForInStep.yield (none,out.push x,ia+1,ib,g,k,k1))
def gl3(a b:Array Keyed)(out:Array Keyed)(ia ib g k bc:Nat):Sm (ForInStep C2):=do
 let x <-elem' a ia
 let r <-gq true x b ib (b.size-ib) 0
 match r with
 |some k1=>
  if k1>0 then
   if(ib+k1==b.size)=true then pure (ForInStep.done (some (out++b.extract ib (ib+k1)++a.extract ia a.size++b.extract (ib+k1) b.size),out++b.extract ib (ib+k1),ia,ib+k1,g,k,k1))
   else gl4 a b (out++b.extract ib (ib+k1)) ia (ib+k1) g k k1
  else gl4 a b out ia ib g k k1
 |_=>pure (ForInStep.done (some (out++a.extract ia a.size++b.extract ib b.size),out,ia,ib,g,k,bc))
def gl2(a b:Array Keyed)(out:Array Keyed)(ia ib g k bc:Nat):Sm (ForInStep C2):=do
 let y <-elem' b ib
 if(ib+1==b.size)=true then pure (ForInStep.done (some (out.push y++a.extract ia a.size++b.extract (ib+1) b.size),out.push y,ia,ib+1,g,k,bc))
 else gl3 a b (out.push y) ia (ib+1) g k bc
def gl1(a b:Array Keyed)(out:Array Keyed)(ia ib g ac bc:Nat):Sm (ForInStep C2):=do
 jJ g
 let y <-elem' b ib
 let r <-gq false y a ia (a.size-ia) 0
 match r with
 |some k=>
  if k>0 then
   if(ia+k+1==a.size)=true then pure (ForInStep.done (some (out++a.extract ia (ia+k)++b.extract ib b.size++a.extract (ia+k) a.size),out++a.extract ia (ia+k),ia+k,ib,g,k,bc))
   else if(ia+k==a.size)=true then pure (ForInStep.done (some (out++a.extract ia (ia+k)++a.extract (ia+k) a.size++b.extract ib b.size),out++a.extract ia (ia+k),ia+k,ib,g,k,bc))
   else gl2 a b (out++a.extract ia (ia+k)) (ia+k) ib g k bc
  else gl2 a b out ia ib g k bc
 |_=>pure (ForInStep.done (some (out++a.extract ia a.size++b.extract ib b.size),out,ia,ib,g,ac,bc))
def gal(a b:Array Keyed)(out:Array Keyed)(ia ib g ac bc:Nat):Sm (ForInStep C2):=if g>1 then gl1 a b out ia ib (g-1) ac bc else gl1 a b out ia ib g ac bc
def round(a b:Array Keyed)(out:Array Keyed)(ia ib g:Nat):Sm (ForInStep C0):=do
 let c <-forIn [0:a.size+b.size] ((none,out,ia,ib,0,0):C1) fun _ c=>one a b g c.2.1 c.2.2.1 c.2.2.2.1 c.2.2.2.2.1 c.2.2.2.2.2
 match c.1 with
 |some r=>pure (ForInStep.done (some r,c.2.1,c.2.2.1,c.2.2.2.1,g))
 |none=>do
  liftM (rule "list.sort.gallop")
  let d <-forIn [0:a.size+b.size] ((none,c.2.1,c.2.2.1,c.2.2.2.1,g+1,c.2.2.2.2.1,c.2.2.2.2.2):C2) fun _ d=>gal a b d.2.1 d.2.2.1 d.2.2.2.1 d.2.2.2.2.1 d.2.2.2.2.2.1 d.2.2.2.2.2.2
  match d.1 with
  |some r=>pure (ForInStep.done (some r,d.2.1,d.2.2.1,d.2.2.2.1,d.2.2.2.2.1))
  |none=>do
   jJ (d.2.2.2.2.1+1)
   pure (ForInStep.yield (none,d.2.1,d.2.2.1,d.2.2.2.1,d.2.2.2.2.1+1))
theorem fi{β:Type}{r:Std.Legacy.Range}{c:β}{f f':Nat->β->Sm (ForInStep β)}(h:f=f'):(forIn r c f:Sm β)=forIn r c f':=by rw[h]
theorem ic{α:Type}{c:Prop}[Decidable c]{x x' y y':α}(h:x=x')(h':y=y'):(if c then x else y)=if c then x' else y':=by rw[h,h']
theorem Je(a b:Array Keyed):jH a b=(do
  liftM (rule "list.sort.merge-lo")
  let e <-elem' b 0
  if(1==b.size)=true then pure (#[e]++a.extract 0 a.size++b.extract 1 b.size)
  else if(0+1==a.size)=true then pure (#[e]++b.extract 1 b.size++a.extract 0 a.size)
  else do
   let s <-get
   let c <-forIn [0:a.size+b.size] ((none,#[e],0,1,gallopOf s):C0) fun _ c=>round a b c.2.1 c.2.2.1 c.2.2.2.1 c.2.2.2.2
   match c.1 with
   |some r=>pure r
   |none=>liftM (unsupported "internal:list.sort.merge-bound")):=by
 delta jH
 refine bc rfl (funext fun u=>bc rfl (funext fun e=>ic rfl (ic rfl (bc rfl (funext fun s=>bc (fi (funext fun x=>funext fun c=>?_)) (funext fun c=>?_))))))
 .unfold round;refine bc (fi (funext fun x=>funext fun c1=>?_)) (funext fun c1=>?_)
  .unfold one;refine bc rfl (funext fun y=>bc rfl (funext fun x=>bc rfl (funext fun r=>?_)))
   cases r with
   |none=>rfl
   |some w=>exact ic (bc rfl (funext fun y=>ic rfl (ic rfl rfl))) (bc rfl (funext fun y=>ic rfl (ic rfl rfl)))
  .obtain⟨r,c1⟩:=c1
   cases r with
   |some r=>rfl
   |none=>
    refine bc rfl (funext fun u=>bc (fi (funext fun x=>funext fun d=>?_)) (funext fun d=>?_))
    .unfold gal;refine ic ?_ ?_
     .unfold gl1;exact bc rfl (funext fun u=>bc rfl (funext fun y=>bc rfl (funext fun r=>by cases r with|none=>rfl|some k=>exact ic (ic rfl (ic rfl (by unfold gl2;exact bc rfl (funext fun y=>ic rfl (by unfold gl3;exact bc rfl (funext fun x=>bc rfl (funext fun r=>by cases r with|none=>rfl|some k1=>exact ic (ic rfl (by unfold gl4;exact bc rfl (funext fun x=>ic rfl (ic rfl rfl)))) (by unfold gl4;exact bc rfl (funext fun x=>ic rfl (ic rfl rfl)))))))))) (by unfold gl2;exact bc rfl (funext fun y=>ic rfl (by unfold gl3;exact bc rfl (funext fun x=>bc rfl (funext fun r=>by cases r with|none=>rfl|some k1=>exact ic (ic rfl (by unfold gl4;exact bc rfl (funext fun x=>ic rfl (ic rfl rfl)))) (by unfold gl4;exact bc rfl (funext fun x=>ic rfl (ic rfl rfl)))))))))))
     .unfold gl1;exact bc rfl (funext fun u=>bc rfl (funext fun y=>bc rfl (funext fun r=>by cases r with|none=>rfl|some k=>exact ic (ic rfl (ic rfl (by unfold gl2;exact bc rfl (funext fun y=>ic rfl (by unfold gl3;exact bc rfl (funext fun x=>bc rfl (funext fun r=>by cases r with|none=>rfl|some k1=>exact ic (ic rfl (by unfold gl4;exact bc rfl (funext fun x=>ic rfl (ic rfl rfl)))) (by unfold gl4;exact bc rfl (funext fun x=>ic rfl (ic rfl rfl)))))))))) (by unfold gl2;exact bc rfl (funext fun y=>ic rfl (by unfold gl3;exact bc rfl (funext fun x=>bc rfl (funext fun r=>by cases r with|none=>rfl|some k1=>exact ic (ic rfl (by unfold gl4;exact bc rfl (funext fun x=>ic rfl (ic rfl rfl)))) (by unfold gl4;exact bc rfl (funext fun x=>ic rfl (ic rfl rfl)))))))))))
    .obtain⟨r,d⟩:=d;cases r<;>rfl
 .obtain⟨r,c⟩:=c;cases r<;>rfl
def key(κ:PyProof.Rows.KeyKind)(p:Keyed):κ.α:=(κ.keyOf p.1).getD κ.dflt
def leK(κ:PyProof.Rows.KeyKind)(x y:Keyed):Prop:=κ.kle (key κ x) (key κ y)
theorem dO{κ:PyProof.Rows.KeyKind}{x y z:Keyed}(h:leK κ x y)(h':leK κ y z):leK κ x z:=KeyOrd.kle_trans h h'
structure SG(st Zq:SortSt):Prop where
 kind:kindOf Zq=kindOf st
 arr:arrOf Zq=arrOf st
 pend:pendingOf Zq=pendingOf st
 fail:failedOf Zq=failedOf st
theorem SG.refl(st:SortSt):SG st st:=⟨rfl,rfl,rfl,rfl⟩
structure Two(κ:PyProof.Rows.KeyKind)(a b:Array Keyed):Prop where
 ka:KeysOf κ a
 kb:KeysOf κ b
 sa:a.toList.Pairwise (leK κ)
 sb:b.toList.Pairwise (leK κ)
theorem item{κ:PyProof.Rows.KeyKind}{a:Array Keyed}(ka:KeysOf κ a){i:Nat}(hi:i<a.size):∃p,a[i]?=some p/\κ.keyOf p.1=some (key κ p)/\KK κ a i=key κ p/\a.toList.drop i=p::a.toList.drop (i+1):=by
 have e:a[i]?=some a[i]:=Array.getElem?_eq_getElem hi;obtain⟨k,hk⟩:=ka a[i] (Array.mem_toList_iff.mpr (Array.getElem_mem hi))
 have ek:key κ a[i]=k:=by
  unfold key;rw[hk];rfl
 refine⟨a[i],e,by rw[ek];exact hk,?_,?_⟩
 .unfold KK;rw[e,ek];dsimp only;rw[hk];rfl
 .have:=List.drop_eq_getElem_cons (l:=a.toList) (i:=i) (by simpa using hi);rw[this];simp
theorem jK{κ:PyProof.Rows.KeyKind}{l r:List Keyed}{p:Keyed}{i:Nat}(h:l.Pairwise (leK κ))(e:l.drop i=p::r):∀y∈l.drop i,leK κ p y:=by
 have hp:=h.sublist (List.drop_sublist i l);rw[e]at hp⊢;intro y hy;rcases zAo.mp hy with z|z
 .rw[z];exact KeyOrd.kle_refl _
 .exact(List.pairwise_cons.mp hp).1 y z
theorem gM(a:Array Keyed)(i j:Nat):(a.extract i j).toList=(a.toList.drop i).take (j-i):=by
 rw[Array.toList_extract]
theorem j9(a:Array Keyed)(i:Nat):(a.extract i a.size).toList=a.toList.drop i:=by
 rw[gM];refine List.take_of_length_le ?_;rw[List.length_drop,zA9];exact zA3 _
theorem jL{κ:PyProof.Rows.KeyKind}{a:Array Keyed}(ka:KeysOf κ a){i k:Nat}{x:Keyed}(h:x∈(a.toList.drop i).take k):∃j,j<k/\i+j<a.size/\KK κ a (i+j)=key κ x:=by
 obtain⟨j,hj,rfl⟩:=List.getElem_of_mem h;rw[zAd,List.length_drop,zA9]at hj;refine⟨j,Zz,Zz,?_⟩;obtain⟨p,e1,e2,e3,e4⟩:=item ka (i:=i+j) Zz;rw[e3,List.getElem_take,List.getElem_drop]
 have:a.toList[i+j]?=some p:=by
  rw[Array.getElem?_toList];exact e1
 rw[zA0 (by rw[zA9];lia)]at this;rw[zAl this]
theorem nJ{κ:PyProof.Rows.KeyKind}{a:Array Keyed}(ka:KeysOf κ a){i:Nat}{x:Keyed}(h:x∈a.toList.drop i):∃j,i<=j/\j<a.size/\KK κ a j=key κ x:=by
 have h':x∈(a.toList.drop i).take (a.toList.drop i).length:=by rw[zAm];exact h
 obtain⟨j,_,h2,h3⟩:=jL ka h';exact⟨i+j,Zz,h2,h3⟩
theorem jM{κ:PyProof.Rows.KeyKind}{a:Array Keyed}(ka:KeysOf κ a)(sa:a.toList.Pairwise (leK κ)){i j:Nat}(ck:i<=j)(hj:j<a.size):κ.kle (KK κ a i) (KK κ a j):=by
 obtain⟨p,_,_,e3,e4⟩:=item ka (i:=i) Zz;obtain⟨q,_,_,f3,f4⟩:=item ka (i:=j) hj;rw[e3,f3];refine jK sa e4 q ?_;have:q∈a.toList.drop j:=by rw[f4];exact List.mem_cons_self
 exact iU ck this
section
variable{prog:Program}{w:World}{A:Around}{E:Value->Shared->Prop}{s:Shared}{κ:PyProof.Rows.KeyKind}{ks:SortKind}{a b:Array Keyed}
theorem jb{g:Nat}{Q:Unit->SortSt->Prop}{st:SortSt}(h:∀Zq,SG st Zq->Q () Zq):wpS (model prog w) A E s (jJ g) Q st:=wpS_modify (h _ ⟨rfl,rfl,rfl,rfl⟩)
structure At(κ:PyProof.Rows.KeyKind)(a b out:Array Keyed)(ia ib:Nat):Prop where
 mi:MI (leK κ) a.toList b.toList out.toList ia ib
 ha:ia+1<a.size
 hb:ib<b.size
theorem At.pushA{out:Array Keyed}{ia ib:Nat}{x:Keyed}(T:Two κ a b)(m:MI (leK κ) a.toList b.toList out.toList ia ib)(e:a.toList.drop ia=x::a.toList.drop (ia+1))(h:∀y∈b.toList.drop ib,leK κ x y):
  MI (leK κ) a.toList b.toList (out.push x).toList (ia+1) ib:=by
 have:=m.segA (k:=1) T.sa fun z hz y hy=>by
  rw[e]at hz;have:z=x:=by simpa using hz
  rw[this];exact h y hy
 rw[e]at this;rw[Array.toList_push];exact this
theorem At.pushB{out:Array Keyed}{ia ib:Nat}{x:Keyed}(T:Two κ a b)(m:MI (leK κ) a.toList b.toList out.toList ia ib)(e:b.toList.drop ib=x::b.toList.drop (ib+1))(h:∀y∈a.toList.drop ia,leK κ x y):
  MI (leK κ) a.toList b.toList (out.push x).toList ia (ib+1):=by
 have:=m.segB (k:=1) T.sb fun z hz y hy=>by
  rw[e]at hz;have:z=x:=by simpa using hz
  rw[this];exact h y hy
 rw[e]at this;rw[Array.toList_push];exact this
theorem At.segA{out:Array Keyed}{ia ib k:Nat}(T:Two κ a b)(m:MI (leK κ) a.toList b.toList out.toList ia ib)(h:∀x∈(a.toList.drop ia).take k,∀y∈b.toList.drop ib,leK κ x y):MI (leK κ) a.toList b.toList (out++a.extract ia (ia+k)).toList (ia+k) ib:=by
 have:=m.segA (k:=k) T.sa h;rw[Array.toList_append,gM,show ia+k-ia=k by lia];exact this
theorem At.segB{out:Array Keyed}{ia ib k:Nat}(T:Two κ a b)(m:MI (leK κ) a.toList b.toList out.toList ia ib)(h:∀x∈(b.toList.drop ib).take k,∀y∈a.toList.drop ia,leK κ x y):MI (leK κ) a.toList b.toList (out++b.extract ib (ib+k)).toList ia (ib+k):=by
 have:=m.segB (k:=k) T.sb h;rw[Array.toList_append,gM,show ib+k-ib=k by lia];exact this
abbrev Rs(κ:PyProof.Rows.KeyKind)(a b:Array Keyed)(r:Array Keyed):Prop:=Done (leK κ) a.toList b.toList r.toList
def jh(κ:PyProof.Rows.KeyKind)(a b:Array Keyed):Prop:=∀y∈b.toList,∀x∈a.toList.drop (a.size-1),leK κ y x
theorem wI{out:Array Keyed}{ia ib:Nat}(T:Two κ a b)(m:MI (leK κ) a.toList b.toList out.toList ia ib)(h:ib=b.size):Rs κ a b (out++a.extract ia a.size++b.extract ib b.size):=by
 have:=m.endB T.sa (by rw[zA9];lia);unfold Rs;rw[Array.toList_append,Array.toList_append,j9,j9];exact this
theorem Jf{out:Array Keyed}{ia ib:Nat}(T:Two κ a b)(m:MI (leK κ) a.toList b.toList out.toList ia ib)(h:ia=a.size):Rs κ a b (out++a.extract ia a.size++b.extract ib b.size):=by
 have:=m.endA T.sb (by rw[zA9];lia);unfold Rs;rw[Array.toList_append,Array.toList_append,j9,j9];exact this
theorem wJ{out:Array Keyed}{ia ib:Nat}(T:Two κ a b)(L:jh κ a b)(m:MI (leK κ) a.toList b.toList out.toList ia ib)(h:ia+1=a.size):Rs κ a b (out++b.extract ib b.size++a.extract ia a.size):=by
 have:=m.last T.sa T.sb fun y hy x hx=>L y (List.mem_of_mem_drop hy) x (by rw[show a.size-1=ia by lia];exact hx);unfold Rs;rw[Array.toList_append,Array.toList_append,j9,j9];exact this
theorem vm(hL:LtAll prog w A E s κ ks)(T:Two κ a b)(L:jh κ a b){g ia ib ac bc:Nat}{out:Array Keyed}{st:SortSt}(hk:kindOf st=ks)(m:At κ a b out ia ib):
  wpS (model prog w) A E s (one a b g out ia ib ac bc) (fun r Zq=>Zq=st/\match r with
   |.done c=>(∃z,c.1=some z/\Rs κ a b z)\/(c.1=none/\At κ a b c.2.1 c.2.2.1 c.2.2.2.1/\ia+ib+1=c.2.2.1+c.2.2.2.1)
   |.yield c=>c.1=none/\At κ a b c.2.1 c.2.2.1 c.2.2.2.1/\ia+ib+1=c.2.2.1+c.2.2.2.1) st:=by
 obtain⟨x,x1,x2,x3,x4⟩:=item T.ka (i:=ia) (by have:=m.ha;lia);obtain⟨y,y1,y2,y3,y4⟩:=item T.kb m.hb;unfold one;refine wpS_bind (bw y1 (wpS_bind (bw x1 (wpS_bind (hL st hk _ _ _ _ _ y2 x2 ?_)))))
 cases e:κ.blt (key κ y) (key κ x)with
 |true=>
  dsimp only;rw[if_pos rfl];refine wpS_bind (bw y1 ?_);have m':=At.pushB T m.mi y4 fun z hz=>dO (KeyOrd.kle_of_klt e) (jK T.sa x4 z hz);by_cases hb:ib+1=b.size
  .rw[if_pos (by simpa using hb)];exact wpS_pure ⟨rfl,.inl ⟨_,rfl,wI T m' hb⟩⟩
  .rw[if_neg (by simpa using hb)]
   have at':At κ a b (out.push y) ia (ib+1):=⟨m',m.ha,by have:=m.hb;lia⟩
   split
   .exact wpS_pure ⟨rfl,.inr ⟨rfl,at',by dsimp only;lia⟩⟩
   .exact wpS_pure ⟨rfl,rfl,at',by dsimp only;lia⟩
 |false=>
  dsimp only;rw[if_neg Zx];refine wpS_bind (bw x1 ?_);have m':=At.pushA T m.mi x4 fun z hz=>dO (show leK κ x y from e) (jK T.sb y4 z hz);by_cases ha:ia+1+1=a.size
  .rw[if_pos (by simpa using ha)];exact wpS_pure ⟨rfl,.inl ⟨_,rfl,wJ T L m' ha⟩⟩
  .rw[if_neg (by simpa using ha)]
   have at':At κ a b (out.push x) (ia+1) ib:=⟨m',by have:=m.ha;lia,m.hb⟩
   split
   .exact wpS_pure ⟨rfl,.inr ⟨rfl,at',by dsimp only;lia⟩⟩
   .exact wpS_pure ⟨rfl,rfl,at',by dsimp only;lia⟩
def G2(κ:PyProof.Rows.KeyKind)(a b:Array Keyed)(n:Nat)(st:SortSt)(r:ForInStep C2)(Zq:SortSt):Prop:=SG st Zq/\match r with
 |.done c=>(∃z,c.1=some z/\Rs κ a b z)\/(c.1=none/\At κ a b c.2.1 c.2.2.1 c.2.2.2.1/\n<=c.2.2.1+c.2.2.2.1)
 |.yield c=>c.1=none/\At κ a b c.2.1 c.2.2.1 c.2.2.2.1/\n<=c.2.2.1+c.2.2.2.1
theorem nM(T:Two κ a b)(L:jh κ a b){g ia ib k k1 n:Nat}{out:Array Keyed}{bp st:SortSt}(sg:SG bp st)(m:At κ a b out ia ib)(hn:n<=ia+ib+1)(h:∀y∈b.toList.drop ib,∀x,a[ia]?=some x->leK κ x y):
  wpS (model prog w) A E s (gl4 a b out ia ib g k k1) (G2 κ a b n bp) st:=by
 obtain⟨x,x1,x2,x3,x4⟩:=item T.ka (i:=ia) (by have:=m.ha;lia);unfold gl4;refine wpS_bind (bw x1 ?_);have m':=At.pushA T m.mi x4 fun z hz=>h z hz x x1;by_cases ha:ia+1+1=a.size
 .rw[if_pos (by simpa using ha)];exact wpS_pure ⟨sg,.inl ⟨_,rfl,wJ T L m' ha⟩⟩
 .rw[if_neg (by simpa using ha)]
  have at':At κ a b (out.push x) (ia+1) ib:=⟨m',by have:=m.ha;lia,m.hb⟩
  split
  .exact wpS_pure ⟨sg,.inr ⟨rfl,at',by dsimp only;lia⟩⟩
  .exact wpS_pure ⟨sg,rfl,at',by dsimp only;lia⟩
theorem vo(hL:LtAll prog w A E s κ ks)(T:Two κ a b)(L:jh κ a b){g ia ib k bc n:Nat}{out:Array Keyed}{bp st:SortSt}(hk:kindOf st=ks)(sg:SG bp st)(m:At κ a b out ia ib)(hn:n<=ia+ib+1):
  wpS (model prog w) A E s (gl3 a b out ia ib g k bc) (G2 κ a b n bp) st:=by
 obtain⟨x,x1,x2,x3,x4⟩:=item T.ka (i:=ia) (by have:=m.ha;lia);have hb:=m.hb;unfold gl3;refine wpS_bind (bw x1 ?_);refine wpS_bind (eU (κ:=κ) (kk:=key κ x) (hL st hk) x2 Zz (fun i hi=>?_) (fun i j ck hj jv=>?_) fun k1 kn kt kf=>?_)
 .obtain⟨p,p1,p2,p3,_⟩:=item T.kb (i:=ib+i) Zz;exact⟨p,_,p1,p2,p3⟩
 .have mono:=jM T.kb T.sb (i:=ib+i) (j:=ib+j) Zz Zz;exact KeyOrd.klt_of_kle_of_klt mono jv
 .have gL:∀y∈b.toList.drop (ib+k1),∀z,a[ia]?=some z->leK κ z y:=fun y hy z hz=>by
   rw[x1]at hz;cases hz;obtain⟨j,j1,j2,j3⟩:=nJ T.kb hy;have:=kf (j-ib) Zz Zz;rw[show ib+(j-ib)=j by lia,j3]at this;exact this
  by_cases h0:k1>0
  .dsimp only;rw[if_pos h0]
   have m':=At.segB (k:=k1) T m.mi fun z hz y hy=>by
    obtain⟨j,j1,j2,j3⟩:=jL T.kb hz;have:=kt j j1;rw[j3]at this;exact dO (KeyOrd.kle_of_klt this) (jK T.sa x4 y hy)
   by_cases e:ib+k1=b.size
   .rw[if_pos (by simpa using e)];exact wpS_pure ⟨sg,.inl ⟨_,rfl,wI T m' e⟩⟩
   .rw[if_neg (by simpa using e)];exact nM T L sg ⟨m',m.ha,Zz⟩ Zz gL
  .dsimp only;rw[if_neg h0];have e:k1=0:=Zz
   rw[e]at gL;exact nM T L sg m hn gL
theorem nO(hL:LtAll prog w A E s κ ks)(T:Two κ a b)(L:jh κ a b){g ia ib k bc n:Nat}{out:Array Keyed}{bp st:SortSt}(hk:kindOf st=ks)(sg:SG bp st)(m:At κ a b out ia ib)(hn:n<=ia+ib+1)(h:∀x∈a.toList.drop ia,∀y,b[ib]?=some y->leK κ y x):
  wpS (model prog w) A E s (gl2 a b out ia ib g k bc) (G2 κ a b n bp) st:=by
 obtain⟨y,y1,y2,y3,y4⟩:=item T.kb m.hb;unfold gl2;refine wpS_bind (bw y1 ?_);have m':=At.pushB T m.mi y4 fun z hz=>h z hz y y1;by_cases hb:ib+1=b.size
 .rw[if_pos (by simpa using hb)];exact wpS_pure ⟨sg,.inl ⟨_,rfl,wI T m' hb⟩⟩
 .rw[if_neg (by simpa using hb)];exact vo hL T L hk sg ⟨m',m.ha,by have:=m.hb;lia⟩ Zz
theorem vp(hL:LtAll prog w A E s κ ks)(T:Two κ a b)(L:jh κ a b){g ia ib ac bc n:Nat}{out:Array Keyed}{bp st:SortSt}(hk:kindOf st=ks)(sg:SG bp st)(m:At κ a b out ia ib)(hn:n<=ia+ib+1):
  wpS (model prog w) A E s (gl1 a b out ia ib g ac bc) (G2 κ a b n bp) st:=by
 obtain⟨y,y1,y2,y3,y4⟩:=item T.kb m.hb;have ha:=m.ha;unfold gl1;refine wpS_bind (jb fun Zq gi=>?_);have cw:kindOf Zq=ks:=gi.kind.trans hk
 have bS:SG bp Zq:=⟨gi.kind.trans sg.kind,gi.arr.trans sg.arr,gi.pend.trans sg.pend,gi.fail.trans sg.fail⟩
 refine wpS_bind (bw y1 ?_);refine wpS_bind (eU (κ:=κ) (kk:=key κ y) (hL Zq cw) y2 Zz (fun i hi=>?_) (fun i j ck hj jv=>?_) fun k kn kt kf=>?_)
 .obtain⟨p,p1,p2,p3,_⟩:=item T.ka (i:=ia+i) Zz;exact⟨p,_,p1,p2,p3⟩
 .have mono:=jM T.ka T.sa (i:=ia+i) (j:=ia+j) Zz Zz;have jv:(!κ.blt (key κ y) (KK κ a (ia+j)))=true:=jv;show(!κ.blt (key κ y) (KK κ a (ia+i)))=true;rw[Bool.not_eq_true']at jv⊢;exact KeyOrd.kle_trans mono jv
 .have gL:∀x∈a.toList.drop (ia+k),∀z,b[ib]?=some z->leK κ z x:=fun x hx z hz=>by
   rw[y1]at hz;cases hz;obtain⟨j,j1,j2,j3⟩:=nJ T.ka hx;have:=kf (j-ia) Zz Zz;rw[show ia+(j-ia)=j by lia,j3]at this;have this:(!κ.blt (key κ y) (key κ x))=false:=this;rw[Bool.not_eq_false']at this;exact KeyOrd.kle_of_klt this
  by_cases h0:k>0
  .dsimp only;rw[if_pos h0]
   have m':=At.segA (k:=k) T m.mi fun z hz x hx=>by
    obtain⟨j,j1,j2,j3⟩:=jL T.ka hz;have:=kt j j1;rw[j3]at this;have this:(!κ.blt (key κ y) (key κ z))=true:=this;rw[Bool.not_eq_true']at this;exact dO (show leK κ z y from this) (jK T.sb y4 x hx)
   by_cases e:ia+k+1=a.size
   .rw[if_pos (by simpa using e)];exact wpS_pure ⟨bS,.inl ⟨_,rfl,wJ T L m' e⟩⟩
   .rw[if_neg (by simpa using e)];by_cases e2:ia+k=a.size
    .rw[if_pos (by simpa using e2)];exact wpS_pure ⟨bS,.inl ⟨_,rfl,Jf T m' e2⟩⟩
    .rw[if_neg (by simpa using e2)];exact nO hL T L cw bS ⟨m',Zz,m.hb⟩ Zz gL
  .dsimp only;rw[if_neg h0];have e:k=0:=Zz
   rw[e]at gL;exact nO hL T L cw bS m hn gL
theorem nP(hL:LtAll prog w A E s κ ks)(T:Two κ a b)(L:jh κ a b){g ia ib:Nat}{out:Array Keyed}{bp st:SortSt}(hk:kindOf st=ks)(sg:SG bp st)(m:At κ a b out ia ib):
  wpS (model prog w) A E s (round a b out ia ib g) (fun r Zq=>SG bp Zq/\match r with
   |.done c=>∃z,c.1=some z/\Rs κ a b z
   |.yield c=>c.1=none/\At κ a b c.2.1 c.2.2.1 c.2.2.2.1/\ia+ib+1<=c.2.2.1+c.2.2.2.1) st:=by
 unfold round;have Qk:0<a.size+b.size:=by have:=m.ha;lia
 refine wpS_bind (wpS_mono (wpS_forRange (I:=fun x c Zq=>Zq=st/\c.1=none/\At κ a b c.2.1 c.2.2.1 c.2.2.2.1/\ia+ib+x=c.2.2.1+c.2.2.2.1)
  (Q:=fun c Zq=>Zq=st/\((∃z,c.1=some z/\Rs κ a b z)\/(c.1=none/\At κ a b c.2.1 c.2.2.1 c.2.2.2.1/\ia+ib+1<=c.2.2.1+c.2.2.2.1))) ?_ ?_ ⟨rfl,rfl,m,rfl⟩) ?_)
 .rintro x ⟨c0,o,i,j,ac,bc⟩ Zq _ hx ⟨rfl,rfl,m',e⟩;dsimp only at m' e⊢;refine wpS_mono (vm hL T L hk m') fun r st2 h2=>?_;obtain⟨rfl,h2⟩:=h2
  cases r with
  |done c=>
   rcases h2 with h2|⟨h2,h3,h4⟩
   .exact⟨rfl,.inl h2⟩
   .exact⟨rfl,.inr ⟨h2,h3,Zz⟩⟩
  |yield c=>
   obtain⟨h2,h3,h4⟩:=h2;exact⟨rfl,h2,h3,Zz⟩
 .rintro c Zq ⟨rfl,h1,h2,h3⟩;exact⟨rfl,.inr ⟨h1,h2,Zz⟩⟩
 .rintro⟨c0,o,i,j,ac,bc⟩ Zq ⟨rfl,h⟩;dsimp only at h⊢;rcases h with⟨z,rfl,hz⟩|⟨rfl,m',ck⟩
  .exact wpS_pure ⟨sg,z,rfl,hz⟩
  .dsimp only;refine wpS_bind (wpS_lift (wpAny_rule ⟨rfl,?_⟩))
   refine wpS_bind (wpS_mono (wpS_forRange (I:=fun x c st2=>SG bp st2/\c.1=none/\At κ a b c.2.1 c.2.2.1 c.2.2.2.1/\ia+ib+1<=c.2.2.1+c.2.2.2.1)
    (Q:=fun c st2=>SG bp st2/\((∃z,c.1=some z/\Rs κ a b z)\/(c.1=none/\At κ a b c.2.1 c.2.2.1 c.2.2.2.1/\ia+ib+1<=c.2.2.1+c.2.2.2.1))) ?_ ?_ ⟨sg,rfl,m',ck⟩) ?_)
   .rintro x ⟨c0,o,i,j,g2,ac,bc⟩ st2 _ hx ⟨bS,rfl,m2,e2⟩;dsimp only at m2 e2⊢;have uk:kindOf st2=ks:=bS.kind.trans (sg.kind.symm.trans hk);have go:∀g',wpS (model prog w) A E s (gl1 a b o i j g' ac bc) (G2 κ a b (ia+ib+1) bp) st2:=fun g'=>vp hL T L uk bS m2 Zz;unfold gal;split
    .refine wpS_mono (go _) fun r iq h3=>?_;obtain⟨h3,h4⟩:=h3
     cases r with
     |done c=>exact⟨h3,h4⟩
     |yield c=>exact⟨h3,h4⟩
    .refine wpS_mono (go _) fun r iq h3=>?_;obtain⟨h3,h4⟩:=h3
     cases r with
     |done c=>exact⟨h3,h4⟩
     |yield c=>exact⟨h3,h4⟩
   .rintro c st2 ⟨h0,h1,h2,h3⟩;exact⟨h0,.inr ⟨h1,h2,h3⟩⟩
   .rintro⟨c0,o,i,j,g2,ac,bc⟩ st2 ⟨bS,h⟩;dsimp only at h⊢;rcases h with⟨z,rfl,hz⟩|⟨rfl,m2,uS⟩
    .exact wpS_pure ⟨bS,z,rfl,hz⟩
    .dsimp only;refine wpS_bind (jb fun iq nV=>wpS_pure ⟨⟨nV.kind.trans bS.kind,nV.arr.trans bS.arr,nV.pend.trans bS.pend,nV.fail.trans bS.fail⟩,rfl,m2,uS⟩)
theorem Jg(hL:LtAll prog w A E s κ ks)(T:Two κ a b)(L:jh κ a b)(ha:0<a.size)(hb:0<b.size)(F:∀x∈a.toList,∀y,b[0]?=some y->leK κ y x){st:SortSt}(hk:kindOf st=ks){Q:Array Keyed->SortSt->Prop}
  (h:∀r Zq,SG st Zq->Rs κ a b r->Q r Zq):wpS (model prog w) A E s (jH a b) Q st:=by
 rw[Je];obtain⟨y,y1,y2,y3,y4⟩:=item T.kb hb;refine wpS_bind (wpS_lift (wpAny_rule ⟨rfl,?_⟩));refine wpS_bind (bw y1 ?_)
 have m0:MI (leK κ) a.toList b.toList ([]:List Keyed) 0 0:=⟨by simp,.nil,fun x hx=>absurd hx Zy⟩
 have m:MI (leK κ) a.toList b.toList (#[y]:Array Keyed).toList 0 1:=by
  have:=At.pushB (out:=#[]) T m0 y4 fun z hz=>F z hz y y1;exact this
 by_cases e1:1=b.size
 .rw[if_pos (by simpa using e1)];exact wpS_pure (h _ st (SG.refl _) (wI T m e1))
 .rw[if_neg (by simpa using e1)];by_cases e2:0+1=a.size
  .rw[if_pos (by simpa using e2)];exact wpS_pure (h _ st (SG.refl _) (wJ T L m e2))
  .rw[if_neg (by simpa using e2)];refine wpS_bind (wpS_get ?_)
   refine wpS_bind (wpS_mono (wpS_forRange (I:=fun x c Zq=>SG st Zq/\c.1=none/\At κ a b c.2.1 c.2.2.1 c.2.2.2.1/\1+x<=c.2.2.1+c.2.2.2.1)
    (Q:=fun c Zq=>SG st Zq/\∃z,c.1=some z/\Rs κ a b z) ?_ ?_ ⟨SG.refl _,rfl,⟨m,by dsimp only;lia,by dsimp only;lia⟩,by dsimp only;lia⟩) ?_)
   .rintro x ⟨c0,o,i,j,g⟩ Zq _ hx ⟨sg,rfl,m',e⟩;dsimp only at m' e⊢;refine wpS_mono (nP hL T L (sg.kind.trans hk) sg m') fun r st2 h2=>?_;obtain⟨bS,h2⟩:=h2
    cases r with
    |done c=>exact⟨bS,h2⟩
    |yield c=>
     obtain⟨h2,h3,h4⟩:=h2;exact⟨bS,h2,h3,Zz⟩
   .rintro c Zq ⟨sg,h1,m',e⟩;have:=m'.ha;have:=m'.hb;exact absurd e Zz
   .rintro⟨c0,o,i,j,g⟩ Zq ⟨sg,z,e,hz⟩;dsimp only at e;rw[e];exact wpS_pure (h z Zq sg hz)
end
def jN:Array Keyed->Array Keyed->Sm (Array Keyed):=sortPriv% PySem.Builtin.mergeHi
namespace Hi
abbrev dn(a b out:Array Keyed)(na nb:Nat):Array Keyed:=a.extract 0 na++b.extract 0 nb++out.reverse
abbrev fb(a b out:Array Keyed)(na nb:Nat):Array Keyed:=b.extract 0 nb++a.extract 0 na++out.reverse
abbrev H1:=Option (Array Keyed)×Nat×Nat×Array Keyed×Nat×Nat
abbrev H2:=Option (Array Keyed)×Nat×Nat×Array Keyed×Nat×Nat×Nat
abbrev H0:=Option (Array Keyed)×Nat×Nat×Array Keyed×Nat
def one(a b:Array Keyed)(g:Nat)(na nb:Nat)(out:Array Keyed)(ac bc:Nat):Sm (ForInStep H1):=do
 let y <-elem' b (nb-1)
 let x <-elem' a (na-1)
 let r <-lt' y x
 match r with
 |some w=>
  if w=true then do
   let x <-elem' a (na-1)
   if(na-1==0)=true then pure (ForInStep.done (some (dn a b (out.push x) (na-1) nb),na-1,nb,out.push x,ac+1,0))
   else if ac+1≥g then pure (ForInStep.done (none,na-1,nb,out.push x,ac+1,0))else pure (ForInStep.yield (none,na-1,nb,out.push x,ac+1,0))
  else do
   let y <-elem' b (nb-1)
   if(nb-1==1)=true then pure (ForInStep.done (some (fb a b (out.push y) na (nb-1)),na,nb-1,out.push y,0,bc+1))
   else if bc+1≥g then pure (ForInStep.done (none,na,nb-1,out.push y,0,bc+1))else pure (ForInStep.yield (none,na,nb-1,out.push y,0,bc+1))
 |_=>pure (ForInStep.done (some (dn a b out na nb),na,nb,out,ac,bc))
def gl4(a b:Array Keyed)(na nb:Nat)(out:Array Keyed)(g k k1:Nat):Sm (ForInStep H2):=do
 let x <-elem' a (na-1)
 if(na-1==0)=true then pure (ForInStep.done (some (dn a b (out.push x) (na-1) nb),na-1,nb,out.push x,g,k,k1))
 else if(decide (k<7)&&decide (k1<7))=true then pure (ForInStep.done (none,na-1,nb,out.push x,g,k,k1))else pure (ForInStep.yield (none,na-1,nb,out.push x,g,k,k1))
def gl3(a b:Array Keyed)(na nb:Nat)(out:Array Keyed)(g k bc:Nat):Sm (ForInStep H2):=do
 let x <-elem' a (na-1)
 let r <-gq true x b 0 nb (nb-1)
 match r with
 |some t=>
  if nb-t>0 then
   if(t==1)=true then pure (ForInStep.done (some (fb a b (out++(b.extract t nb).reverse) na t),na,t,out++(b.extract t nb).reverse,g,k,nb-t))
   else if(t==0)=true then pure (ForInStep.done (some (dn a b (out++(b.extract t nb).reverse) na t),na,t,out++(b.extract t nb).reverse,g,k,nb-t))
   else gl4 a b na t (out++(b.extract t nb).reverse) g k (nb-t)
  else gl4 a b na nb out g k (nb-t)
 |_=>pure (ForInStep.done (some (dn a b out na nb),na,nb,out,g,k,bc))
def gl2(a b:Array Keyed)(na nb:Nat)(out:Array Keyed)(g k bc:Nat):Sm (ForInStep H2):=do
 let y <-elem' b (nb-1)
 if(nb-1==1)=true then pure (ForInStep.done (some (fb a b (out.push y) na (nb-1)),na,nb-1,out.push y,g,k,bc))
 else gl3 a b na (nb-1) (out.push y) g k bc
def gl1(a b:Array Keyed)(na nb:Nat)(out:Array Keyed)(g ac bc:Nat):Sm (ForInStep H2):=do
 jJ g
 let y <-elem' b (nb-1)
 let r <-gq false y a 0 na (na-1)
 match r with
 |some t=>
  if na-t>0 then
   if(t==0)=true then pure (ForInStep.done (some (dn a b (out++(a.extract t na).reverse) t nb),t,nb,out++(a.extract t na).reverse,g,na-t,bc))
   else gl2 a b t nb (out++(a.extract t na).reverse) g (na-t) bc
  else gl2 a b na nb out g (na-t) bc
 |_=>pure (ForInStep.done (some (dn a b out na nb),na,nb,out,g,ac,bc))
def gal(a b:Array Keyed)(na nb:Nat)(out:Array Keyed)(g ac bc:Nat):Sm (ForInStep H2):=if g>1 then gl1 a b na nb out (g-1) ac bc else gl1 a b na nb out g ac bc
def round(a b:Array Keyed)(na nb:Nat)(out:Array Keyed)(g:Nat):Sm (ForInStep H0):=do
 let c <-forIn [0:a.size+b.size] ((none,na,nb,out,0,0):H1) fun _ c=>one a b g c.2.1 c.2.2.1 c.2.2.2.1 c.2.2.2.2.1 c.2.2.2.2.2
 match c.1 with
 |some r=>pure (ForInStep.done (some r,c.2.1,c.2.2.1,c.2.2.2.1,g))
 |none=>do
  liftM (rule "list.sort.gallop")
  let d <-forIn [0:a.size+b.size] ((none,c.2.1,c.2.2.1,c.2.2.2.1,g+1,c.2.2.2.2.1,c.2.2.2.2.2):H2) fun _ d=>gal a b d.2.1 d.2.2.1 d.2.2.2.1 d.2.2.2.2.1 d.2.2.2.2.2.1 d.2.2.2.2.2.2
  match d.1 with
  |some r=>pure (ForInStep.done (some r,d.2.1,d.2.2.1,d.2.2.2.1,d.2.2.2.2.1))
  |none=>do
   jJ (d.2.2.2.2.1+1)
   pure (ForInStep.yield (none,d.2.1,d.2.2.1,d.2.2.2.1,d.2.2.2.2.1+1))
theorem Jh(a b:Array Keyed):jN a b=(do
  liftM (rule "list.sort.merge-hi")
  let e <-elem' a (a.size-1)
  if(a.size-1==0)=true then pure (dn a b #[e] (a.size-1) b.size)
  else if(b.size==1)=true then pure (fb a b #[e] (a.size-1) b.size)
  else do
   let s <-get
   let c <-forIn [0:a.size+b.size] ((none,a.size-1,b.size,#[e],gallopOf s):H0) fun _ c=>round a b c.2.1 c.2.2.1 c.2.2.2.1 c.2.2.2.2
   match c.1 with
   |some r=>pure r
   |none=>liftM (unsupported "internal:list.sort.merge-bound")):=by
 delta jN
 refine bc rfl (funext fun u=>bc rfl (funext fun e=>ic rfl (ic rfl (bc rfl (funext fun s=>bc (fi (funext fun x=>funext fun c=>?_)) (funext fun c=>?_))))))
 .unfold round;refine bc (fi (funext fun x=>funext fun c1=>?_)) (funext fun c1=>?_)
  .unfold one;refine bc rfl (funext fun y=>bc rfl (funext fun x=>bc rfl (funext fun r=>?_)))
   cases r with
   |none=>rfl
   |some w=>exact ic (bc rfl (funext fun y=>ic rfl (ic rfl rfl))) (bc rfl (funext fun y=>ic rfl (ic rfl rfl)))
  .obtain⟨r,c1⟩:=c1
   cases r with
   |some r=>rfl
   |none=>
    refine bc rfl (funext fun u=>bc (fi (funext fun x=>funext fun d=>?_)) (funext fun d=>?_))
    .unfold gal;refine ic ?_ ?_
     .unfold gl1;exact bc rfl (funext fun u=>bc rfl (funext fun y=>bc rfl (funext fun r=>by cases r with|none=>rfl|some k=>exact ic (ic rfl (by unfold gl2;exact bc rfl (funext fun y=>ic rfl (by unfold gl3;exact bc rfl (funext fun x=>bc rfl (funext fun r=>by cases r with|none=>rfl|some k1=>exact ic (ic rfl (ic rfl (by unfold gl4;exact bc rfl (funext fun x=>ic rfl (ic rfl rfl))))) (by unfold gl4;exact bc rfl (funext fun x=>ic rfl (ic rfl rfl))))))))) (by unfold gl2;exact bc rfl (funext fun y=>ic rfl (by unfold gl3;exact bc rfl (funext fun x=>bc rfl (funext fun r=>by cases r with|none=>rfl|some k1=>exact ic (ic rfl (ic rfl (by unfold gl4;exact bc rfl (funext fun x=>ic rfl (ic rfl rfl))))) (by unfold gl4;exact bc rfl (funext fun x=>ic rfl (ic rfl rfl)))))))))))
     .unfold gl1;exact bc rfl (funext fun u=>bc rfl (funext fun y=>bc rfl (funext fun r=>by cases r with|none=>rfl|some k=>exact ic (ic rfl (by unfold gl2;exact bc rfl (funext fun y=>ic rfl (by unfold gl3;exact bc rfl (funext fun x=>bc rfl (funext fun r=>by cases r with|none=>rfl|some k1=>exact ic (ic rfl (ic rfl (by unfold gl4;exact bc rfl (funext fun x=>ic rfl (ic rfl rfl))))) (by unfold gl4;exact bc rfl (funext fun x=>ic rfl (ic rfl rfl))))))))) (by unfold gl2;exact bc rfl (funext fun y=>ic rfl (by unfold gl3;exact bc rfl (funext fun x=>bc rfl (funext fun r=>by cases r with|none=>rfl|some k1=>exact ic (ic rfl (ic rfl (by unfold gl4;exact bc rfl (funext fun x=>ic rfl (ic rfl rfl))))) (by unfold gl4;exact bc rfl (funext fun x=>ic rfl (ic rfl rfl)))))))))))
    .obtain⟨r,d⟩:=d;cases r<;>rfl
 .obtain⟨r,c⟩:=c;cases r<;>rfl
section
variable{α:Type}{le:α->α->Prop}
structure MH(le:α->α->Prop)(la lb lo:List α)(na nb:Nat):Prop where
 pm:lo.Perm (la.drop na++lb.drop nb)
 sr:lo.Pairwise le
 be:∀x∈lo,∀y,y∈la.take na\/y∈lb.take nb->le y x
theorem wK{l:List α}{i j:Nat}{y:α}(h:i<=j)(hy:y∈l.take i):y∈l.take j:=by
 rw[show i=min i j by lia,<-List.take_take]at hy;exact List.mem_of_mem_take hy
theorem cut_drop{l:List α}{t n:Nat}(h:t<=n)(hn:n<=l.length):(l.take n).drop t++l.drop n=l.drop t:=by
 have e:=zBa n l;have:(l.take n++l.drop n).drop t=(l.take n).drop t++l.drop n:=List.drop_append_of_le_length (by rw[zAd];lia);rw[e]at this;exact this.symm
theorem Be{l:List α}(hp:l.Pairwise le){t n:Nat}(h:t<=n):∀y∈l.take t,∀x∈(l.take n).drop t,le y x:=by
 have h2:(l.take n).Pairwise le:=hp.sublist (List.take_sublist _ _);have e:=zBa t (l.take n);rw[<-e]at h2;rw[List.take_take,show min t n=t by lia]at h2;exact fun y hy x hx=>(List.pairwise_append.mp h2).2.2 y hy x hx
theorem MH.segA{la lb lo:List α}{na nb t:Nat}(m:MH le la lb lo na nb)(sa:la.Pairwise le)(ht:t<=na)(hn:na<=la.length)(h:∀x∈(la.take na).drop t,∀y∈lb.take nb,le y x):MH le la lb ((la.take na).drop t++lo) t nb:=by
 refine⟨?_,List.pairwise_append.mpr ⟨(sa.sublist (List.take_sublist _ _)).sublist (List.drop_sublist _ _),m.sr,fun x hx y hy=>m.be y hy x (.inl (List.mem_of_mem_drop hx))⟩,fun x hx y hy=>?_⟩
 .refine(List.Perm.append_left _ m.pm).trans ?_;rw[<-zAf,cut_drop ht hn]
 .rcases zA6.mp hx with z|z
  .rcases hy with hy|hy
   .exact Be sa ht y hy x z
   .exact h x z y hy
  .exact m.be x z y (hy.imp (wK ht) id)
theorem MH.segB{la lb lo:List α}{na nb t:Nat}(m:MH le la lb lo na nb)(sb:lb.Pairwise le)(ht:t<=nb)(hn:nb<=lb.length)(h:∀x∈(lb.take nb).drop t,∀y∈la.take na,le y x):MH le la lb ((lb.take nb).drop t++lo) na t:=by
 refine⟨?_,List.pairwise_append.mpr ⟨(sb.sublist (List.take_sublist _ _)).sublist (List.drop_sublist _ _),m.sr,fun x hx y hy=>m.be y hy x (.inr (List.mem_of_mem_drop hx))⟩,fun x hx y hy=>?_⟩
 .refine(List.Perm.append_left _ m.pm).trans ?_;refine(List.perm_append_comm_assoc _ _ _).trans ?_;rw[cut_drop ht hn]
 .rcases zA6.mp hx with z|z
  .rcases hy with hy|hy
   .exact h x z y hy
   .exact Be sb ht y hy x z
  .exact m.be x z y (hy.imp id (wK ht))
theorem MH.first{la lb lo:List α}{na nb:Nat}(m:MH le la lb lo na nb)(sa:la.Pairwise le)(sb:lb.Pairwise le)(h:∀y∈lb.take nb,∀x∈la.take na,le y x):Done le la lb (lb.take nb++la.take na++lo):=by
 refine⟨?_,List.pairwise_append.mpr ⟨List.pairwise_append.mpr ⟨sb.sublist (List.take_sublist _ _),sa.sublist (List.take_sublist _ _),h⟩,m.sr,fun x hx y hy=>m.be y hy x ((zA6.mp hx).symm)⟩⟩;refine(List.Perm.append_left _ m.pm).trans ?_
 have e:lb.take nb++la.take na++(la.drop na++lb.drop nb)=lb.take nb++(la++lb.drop nb):=by
  rw[zAf,<-zAf (la.take na),zBa]
 rw[e];refine(List.perm_append_comm_assoc _ _ _).trans ?_;rw[zBa]
theorem MH.endA{la lb lo:List α}{nb:Nat}(m:MH le la lb lo 0 nb)(sa:la.Pairwise le)(sb:lb.Pairwise le):Done le la lb (la.take 0++lb.take nb++lo):=by
 have:=m.first sa sb fun y _ x hx=>absurd hx Zy
 rw[List.take_zero,zAn]at this;rw[List.take_zero,List.nil_append];exact this
theorem MH.endB{la lb lo:List α}{na:Nat}(m:MH le la lb lo na 0)(sa:la.Pairwise le)(sb:lb.Pairwise le):Done le la lb (la.take na++lb.take 0++lo):=by
 have:=m.first sa sb fun y hy x _=>absurd hy Zy
 rw[List.take_zero,List.nil_append]at this;rw[List.take_zero,zAn];exact this
end
section
variable{prog:Program}{w:World}{A:Around}{E:Value->Shared->Prop}{s:Shared}{κ:PyProof.Rows.KeyKind}{ks:SortKind}{a b:Array Keyed}
theorem yM(a:Array Keyed)(n:Nat):(a.extract 0 n).toList=a.toList.take n:=by
 rw[gM];simp
theorem ext_cut(a:Array Keyed)(t n:Nat):(a.extract t n).toList=(a.toList.take n).drop t:=by
 rw[gM,List.drop_take]
theorem um(out:Array Keyed)(x:Keyed):(out.push x).reverse.toList=x::out.reverse.toList:=by simp
theorem wL(out seg:Array Keyed):(out++seg.reverse).reverse.toList=seg.toList++out.reverse.toList:=by simp
abbrev Mh(κ:PyProof.Rows.KeyKind)(a b out:Array Keyed)(na nb:Nat):Prop:=MH (leK κ) a.toList b.toList out.reverse.toList na nb
structure At(κ:PyProof.Rows.KeyKind)(a b out:Array Keyed)(na nb:Nat):Prop where
 mi:Mh κ a b out na nb
 a1:1<=na
 a2:na<=a.size
 b1:2<=nb
 b2:nb<=b.size
theorem iy{κ:PyProof.Rows.KeyKind}{a:Array Keyed}(ka:KeysOf κ a){n:Nat}(h1:1<=n)(h2:n<=a.size):∃p,a[n-1]?=some p/\κ.keyOf p.1=some (key κ p)/\KK κ a (n-1)=key κ p/\(a.toList.take n).drop (n-1)=[p]:=by
 obtain⟨p,p1,p2,p3,p4⟩:=item ka (i:=n-1) Zz;refine⟨p,p1,p2,p3,?_⟩;rw[List.drop_take,p4,show n-(n-1)=1 by lia];rfl
theorem take_key{κ:PyProof.Rows.KeyKind}{a:Array Keyed}(ka:KeysOf κ a){n t:Nat}{x:Keyed}(h:x∈(a.toList.take n).drop t):∃j,t<=j/\j<n/\j<a.size/\KK κ a j=key κ x:=by
 rw[List.drop_take]at h;obtain⟨j,j1,j2,j3⟩:=jL ka h;exact⟨t+j,Zz,Zz,j2,j3⟩
theorem take_key0{κ:PyProof.Rows.KeyKind}{a:Array Keyed}(ka:KeysOf κ a){n:Nat}{x:Keyed}(h:x∈a.toList.take n):∃j,j<n/\j<a.size/\KK κ a j=key κ x:=by
 have h':x∈(a.toList.take n).drop 0:=by rw[List.drop_zero];exact h
 obtain⟨j,_,j1,j2,j3⟩:=take_key ka h';exact⟨j,j1,j2,j3⟩
theorem wM{κ:PyProof.Rows.KeyKind}{a:Array Keyed}(ka:KeysOf κ a)(sa:a.toList.Pairwise (leK κ)){n:Nat}{p:Keyed}(h1:1<=n)(h2:n<=a.size)(e:KK κ a (n-1)=key κ p):∀y∈a.toList.take n,leK κ y p:=fun y hy=>by
 obtain⟨j,j1,j2,j3⟩:=take_key0 ka hy;have:=jM ka sa (i:=j) (j:=n-1) Zz Zz;rw[j3,e]at this;exact this
theorem pushA{out:Array Keyed}{na nb:Nat}{x:Keyed}(T:Two κ a b)(m:Mh κ a b out na nb)(h1:1<=na)(h2:na<=a.size)(e:(a.toList.take na).drop (na-1)=[x])(h:∀y∈b.toList.take nb,leK κ y x):Mh κ a b (out.push x) (na-1) nb:=by
 have:=MH.segA (t:=na-1) m T.sa Zz (by rw[zA9];exact h2) fun z hz y hy=>by
  rw[e]at hz;rw[List.mem_singleton.mp hz];exact h y hy
 rw[e]at this;unfold Mh;rw[um];exact this
theorem pushB{out:Array Keyed}{na nb:Nat}{x:Keyed}(T:Two κ a b)(m:Mh κ a b out na nb)(h1:1<=nb)(h2:nb<=b.size)(e:(b.toList.take nb).drop (nb-1)=[x])(h:∀y∈a.toList.take na,leK κ y x):Mh κ a b (out.push x) na (nb-1):=by
 have:=MH.segB (t:=nb-1) m T.sb Zz (by rw[zA9];exact h2) fun z hz y hy=>by
  rw[e]at hz;rw[List.mem_singleton.mp hz];exact h y hy
 rw[e]at this;unfold Mh;rw[um];exact this
theorem Ji{out:Array Keyed}{na nb t:Nat}(T:Two κ a b)(m:Mh κ a b out na nb)(ht:t<=na)(h2:na<=a.size)(h:∀x∈(a.toList.take na).drop t,∀y∈b.toList.take nb,leK κ y x):Mh κ a b (out++(a.extract t na).reverse) t nb:=by
 have:=MH.segA m T.sa ht (by rw[zA9];exact h2) h;unfold Mh;rw[wL,ext_cut];exact this
theorem Jj{out:Array Keyed}{na nb t:Nat}(T:Two κ a b)(m:Mh κ a b out na nb)(ht:t<=nb)(h2:nb<=b.size)(h:∀x∈(b.toList.take nb).drop t,∀y∈a.toList.take na,leK κ y x):Mh κ a b (out++(b.extract t nb).reverse) na t:=by
 have:=MH.segB m T.sb ht (by rw[zA9];exact h2) h;unfold Mh;rw[wL,ext_cut];exact this
def FirstB(κ:PyProof.Rows.KeyKind)(a b:Array Keyed):Prop:=∀y∈b.toList.take 1,∀x∈a.toList,leK κ y x
theorem e_a{out:Array Keyed}{na nb:Nat}(T:Two κ a b)(m:Mh κ a b out na nb)(h:na=0):Rs κ a b (dn a b out na nb):=by
 subst h;have:=MH.endA m T.sa T.sb;unfold Rs dn;rw[Array.toList_append,Array.toList_append,yM,yM];exact this
theorem e_b{out:Array Keyed}{na nb:Nat}(T:Two κ a b)(m:Mh κ a b out na nb)(h:nb=0):Rs κ a b (dn a b out na nb):=by
 subst h;have:=MH.endB m T.sa T.sb;unfold Rs dn;rw[Array.toList_append,Array.toList_append,yM,yM];exact this
theorem e_f{out:Array Keyed}{na nb:Nat}(T:Two κ a b)(F:FirstB κ a b)(m:Mh κ a b out na nb)(h:nb=1):Rs κ a b (fb a b out na nb):=by
 subst h
 have:=MH.first m T.sa T.sb fun y hy x hx=>F y hy x (List.mem_of_mem_take hx)
 unfold Rs fb;rw[Array.toList_append,Array.toList_append,yM,yM];exact this
theorem vm(hL:LtAll prog w A E s κ ks)(T:Two κ a b)(F:FirstB κ a b){g na nb ac bc:Nat}{out:Array Keyed}{st:SortSt}(hk:kindOf st=ks)(m:At κ a b out na nb):
  wpS (model prog w) A E s (one a b g na nb out ac bc) (fun r Zq=>Zq=st/\match r with
   |.done c=>(∃z,c.1=some z/\Rs κ a b z)\/(c.1=none/\At κ a b c.2.2.2.1 c.2.1 c.2.2.1/\c.2.1+c.2.2.1+1=na+nb)
   |.yield c=>c.1=none/\At κ a b c.2.2.2.1 c.2.1 c.2.2.1/\c.2.1+c.2.2.1+1=na+nb) st:=by
 obtain⟨mi,a1,a2,b1,b2⟩:=m;obtain⟨x,x1,x2,x3,x4⟩:=iy T.ka a1 a2;obtain⟨y,y1,y2,y3,y4⟩:=iy T.kb (show 1<=nb by lia) b2;unfold one;refine wpS_bind (bw y1 (wpS_bind (bw x1 (wpS_bind (hL st hk _ _ _ _ _ y2 x2 ?_)))))
 cases e:κ.blt (key κ y) (key κ x)with
 |true=>
  dsimp only;rw[if_pos rfl];refine wpS_bind (bw x1 ?_);have m':=pushA T mi a1 a2 x4 fun z hz=>dO (wM T.kb T.sb Zz b2 y3 z hz) (KeyOrd.kle_of_klt e);by_cases h0:na-1=0
  .rw[if_pos (by simpa using h0)];exact wpS_pure ⟨rfl,.inl ⟨_,rfl,e_a T m' h0⟩⟩
  .rw[if_neg (by simpa using h0)]
   have at':At κ a b (out.push x) (na-1) nb:=⟨m',Zz,Zz,b1,b2⟩
   split
   .exact wpS_pure ⟨rfl,.inr ⟨rfl,at',by dsimp only;lia⟩⟩
   .exact wpS_pure ⟨rfl,rfl,at',by dsimp only;lia⟩
 |false=>
  dsimp only;rw[if_neg Zx];refine wpS_bind (bw y1 ?_);have m':=pushB T mi Zz b2 y4 fun z hz=>dO (wM T.ka T.sa a1 a2 x3 z hz) (show leK κ x y from e);by_cases h0:nb-1=1
  .rw[if_pos (by simpa using h0)];exact wpS_pure ⟨rfl,.inl ⟨_,rfl,e_f T F m' h0⟩⟩
  .rw[if_neg (by simpa using h0)]
   have at':At κ a b (out.push y) na (nb-1):=⟨m',a1,a2,Zz,Zz⟩
   split
   .exact wpS_pure ⟨rfl,.inr ⟨rfl,at',by dsimp only;lia⟩⟩
   .exact wpS_pure ⟨rfl,rfl,at',by dsimp only;lia⟩
def G2(κ:PyProof.Rows.KeyKind)(a b:Array Keyed)(n:Nat)(st:SortSt)(r:ForInStep H2)(Zq:SortSt):Prop:=SG st Zq/\match r with
 |.done c=>(∃z,c.1=some z/\Rs κ a b z)\/(c.1=none/\At κ a b c.2.2.2.1 c.2.1 c.2.2.1/\c.2.1+c.2.2.1<n)
 |.yield c=>c.1=none/\At κ a b c.2.2.2.1 c.2.1 c.2.2.1/\c.2.1+c.2.2.1<n
theorem nM(T:Two κ a b){g na nb k k1 n:Nat}{out:Array Keyed}{bp st:SortSt}(sg:SG bp st)(m:At κ a b out na nb)(hn:na+nb<=n)(h:∀y∈b.toList.take nb,∀x,a[na-1]?=some x->leK κ y x):
  wpS (model prog w) A E s (gl4 a b na nb out g k k1) (G2 κ a b n bp) st:=by
 obtain⟨mi,a1,a2,b1,b2⟩:=m;obtain⟨x,x1,x2,x3,x4⟩:=iy T.ka a1 a2;unfold gl4;refine wpS_bind (bw x1 ?_);have m':=pushA T mi a1 a2 x4 fun z hz=>h z hz x x1;by_cases h0:na-1=0
 .rw[if_pos (by simpa using h0)];exact wpS_pure ⟨sg,.inl ⟨_,rfl,e_a T m' h0⟩⟩
 .rw[if_neg (by simpa using h0)]
  have at':At κ a b (out.push x) (na-1) nb:=⟨m',Zz,Zz,b1,b2⟩
  split
  .exact wpS_pure ⟨sg,.inr ⟨rfl,at',by dsimp only;lia⟩⟩
  .exact wpS_pure ⟨sg,rfl,at',by dsimp only;lia⟩
theorem vo(hL:LtAll prog w A E s κ ks)(T:Two κ a b)(F:FirstB κ a b){g na nb k bc n:Nat}{out:Array Keyed}{bp st:SortSt}(hk:kindOf st=ks)(sg:SG bp st)(m:At κ a b out na nb)(hn:na+nb<=n):
  wpS (model prog w) A E s (gl3 a b na nb out g k bc) (G2 κ a b n bp) st:=by
 obtain⟨mi,a1,a2,b1,b2⟩:=id m;obtain⟨x,x1,x2,x3,x4⟩:=iy T.ka a1 a2;unfold gl3;refine wpS_bind (bw x1 ?_);refine wpS_bind (eU (κ:=κ) (kk:=key κ x) (hL st hk) x2 Zz (fun i hi=>?_) (fun i j ck hj jv=>?_) fun t kn kt kf=>?_)
 .obtain⟨p,p1,p2,p3,_⟩:=item T.kb (i:=0+i) Zz;exact⟨p,_,p1,p2,p3⟩
 .have mono:=jM T.kb T.sb (i:=0+i) (j:=0+j) Zz Zz;exact KeyOrd.klt_of_kle_of_klt mono jv
 .have early:∀y∈b.toList.take t,∀z,a[na-1]?=some z->leK κ y z:=fun y hy z hz=>by
   rw[x1]at hz;cases hz;obtain⟨j,j1,j2,j3⟩:=take_key0 T.kb hy;have:=kt j j1;rw[Nat.zero_add,j3]at this;exact KeyOrd.kle_of_klt this
  by_cases h0:nb-t>0
  .dsimp only;rw[if_pos h0]
   have m':=Jj T mi (show t<=nb by lia) b2 fun z hz y hy=>by
    obtain⟨j,j1,j2,j3,j4⟩:=take_key T.kb hz;have:=kf j j1 j2;rw[Nat.zero_add,j4]at this;exact dO (wM T.ka T.sa a1 a2 x3 y hy) (show leK κ x z from this)
   by_cases e:t=1
   .rw[if_pos (by simpa using e)];exact wpS_pure ⟨sg,.inl ⟨_,rfl,e_f T F m' e⟩⟩
   .rw[if_neg (by simpa using e)];by_cases e2:t=0
    .rw[if_pos (by simpa using e2)];exact wpS_pure ⟨sg,.inl ⟨_,rfl,e_b T m' e2⟩⟩
    .rw[if_neg (by simpa using e2)];exact nM T sg ⟨m',a1,a2,Zz,Zz⟩ Zz early
  .dsimp only;rw[if_neg h0];have e:t=nb:=Zz
   rw[e]at early;exact nM T sg m hn early
theorem nO(hL:LtAll prog w A E s κ ks)(T:Two κ a b)(F:FirstB κ a b){g na nb k bc n:Nat}{out:Array Keyed}{bp st:SortSt}(hk:kindOf st=ks)(sg:SG bp st)(m:At κ a b out na nb)(hn:na+nb<=n)(h:∀x∈a.toList.take na,∀y,b[nb-1]?=some y->leK κ x y):
  wpS (model prog w) A E s (gl2 a b na nb out g k bc) (G2 κ a b n bp) st:=by
 obtain⟨mi,a1,a2,b1,b2⟩:=m;obtain⟨y,y1,y2,y3,y4⟩:=iy T.kb (show 1<=nb by lia) b2;unfold gl2;refine wpS_bind (bw y1 ?_);have m':=pushB T mi Zz b2 y4 fun z hz=>h z hz y y1;by_cases h0:nb-1=1
 .rw[if_pos (by simpa using h0)];exact wpS_pure ⟨sg,.inl ⟨_,rfl,e_f T F m' h0⟩⟩
 .rw[if_neg (by simpa using h0)];exact vo hL T F hk sg ⟨m',a1,a2,Zz,Zz⟩ Zz
theorem vp(hL:LtAll prog w A E s κ ks)(T:Two κ a b)(F:FirstB κ a b){g na nb ac bc n:Nat}{out:Array Keyed}{bp st:SortSt}(hk:kindOf st=ks)(sg:SG bp st)(m:At κ a b out na nb)(hn:na+nb<=n):
  wpS (model prog w) A E s (gl1 a b na nb out g ac bc) (G2 κ a b n bp) st:=by
 obtain⟨mi,a1,a2,b1,b2⟩:=id m;obtain⟨y,y1,y2,y3,y4⟩:=iy T.kb (show 1<=nb by lia) b2;unfold gl1;refine wpS_bind (jb fun Zq gi=>?_);have cw:kindOf Zq=ks:=gi.kind.trans hk
 have bS:SG bp Zq:=⟨gi.kind.trans sg.kind,gi.arr.trans sg.arr,gi.pend.trans sg.pend,gi.fail.trans sg.fail⟩
 refine wpS_bind (bw y1 ?_);refine wpS_bind (eU (κ:=κ) (kk:=key κ y) (hL Zq cw) y2 Zz (fun i hi=>?_) (fun i j ck hj jv=>?_) fun t kn kt kf=>?_)
 .obtain⟨p,p1,p2,p3,_⟩:=item T.ka (i:=0+i) Zz;exact⟨p,_,p1,p2,p3⟩
 .have mono:=jM T.ka T.sa (i:=0+i) (j:=0+j) Zz Zz;have jv:(!κ.blt (key κ y) (KK κ a (0+j)))=true:=jv;show(!κ.blt (key κ y) (KK κ a (0+i)))=true;rw[Bool.not_eq_true']at jv⊢;exact KeyOrd.kle_trans mono jv
 .have early:∀x∈a.toList.take t,∀z,b[nb-1]?=some z->leK κ x z:=fun x hx z hz=>by
   rw[y1]at hz;cases hz;obtain⟨j,j1,j2,j3⟩:=take_key0 T.ka hx;have:=kt j j1;rw[Nat.zero_add,j3]at this;have this:(!κ.blt (key κ y) (key κ x))=true:=this;rw[Bool.not_eq_true']at this;exact this
  by_cases h0:na-t>0
  .dsimp only;rw[if_pos h0]
   have m':=Ji T mi (show t<=na by lia) a2 fun z hz x hx=>by
    obtain⟨j,j1,j2,j3,j4⟩:=take_key T.ka hz;have:=kf j j1 j2;rw[Nat.zero_add,j4]at this;have this:(!κ.blt (key κ y) (key κ z))=false:=this;rw[Bool.not_eq_false']at this;exact dO (wM T.kb T.sb Zz b2 y3 x hx) (KeyOrd.kle_of_klt this)
   by_cases e:t=0
   .rw[if_pos (by simpa using e)];exact wpS_pure ⟨bS,.inl ⟨_,rfl,e_a T m' e⟩⟩
   .rw[if_neg (by simpa using e)];exact nO hL T F cw bS ⟨m',Zz,Zz,b1,b2⟩ Zz early
  .dsimp only;rw[if_neg h0];have e:t=na:=Zz
   rw[e]at early;exact nO hL T F cw bS m hn early
theorem nP(hL:LtAll prog w A E s κ ks)(T:Two κ a b)(F:FirstB κ a b){g na nb:Nat}{out:Array Keyed}{bp st:SortSt}(hk:kindOf st=ks)(sg:SG bp st)(m:At κ a b out na nb):
  wpS (model prog w) A E s (round a b na nb out g) (fun r Zq=>SG bp Zq/\match r with
   |.done c=>∃z,c.1=some z/\Rs κ a b z
   |.yield c=>c.1=none/\At κ a b c.2.2.2.1 c.2.1 c.2.2.1/\c.2.1+c.2.2.1<na+nb) st:=by
 unfold round
 have Qk:0<a.size+b.size:=by
  have:=m.a1;have:=m.a2;lia
 refine wpS_bind (wpS_mono (wpS_forRange (I:=fun x c Zq=>Zq=st/\c.1=none/\At κ a b c.2.2.2.1 c.2.1 c.2.2.1/\c.2.1+c.2.2.1+x=na+nb)
  (Q:=fun c Zq=>Zq=st/\((∃z,c.1=some z/\Rs κ a b z)\/(c.1=none/\At κ a b c.2.2.2.1 c.2.1 c.2.2.1/\c.2.1+c.2.2.1<na+nb))) ?_ ?_ ⟨rfl,rfl,m,rfl⟩) ?_)
 .rintro x ⟨c0,i,j,o,ac,bc⟩ Zq _ hx ⟨rfl,rfl,m',e⟩;dsimp only at m' e⊢;refine wpS_mono (vm hL T F hk m') fun r st2 h2=>?_;obtain⟨rfl,h2⟩:=h2
  cases r with
  |done c=>
   rcases h2 with h2|⟨h2,h3,h4⟩
   .exact⟨rfl,.inl h2⟩
   .exact⟨rfl,.inr ⟨h2,h3,Zz⟩⟩
  |yield c=>
   obtain⟨h2,h3,h4⟩:=h2;exact⟨rfl,h2,h3,Zz⟩
 .rintro c Zq ⟨rfl,h1,h2,h3⟩;exact⟨rfl,.inr ⟨h1,h2,Zz⟩⟩
 .rintro⟨c0,i,j,o,ac,bc⟩ Zq ⟨rfl,h⟩;dsimp only at h⊢;rcases h with⟨z,rfl,hz⟩|⟨rfl,m',ck⟩
  .exact wpS_pure ⟨sg,z,rfl,hz⟩
  .dsimp only;refine wpS_bind (wpS_lift (wpAny_rule ⟨rfl,?_⟩))
   refine wpS_bind (wpS_mono (wpS_forRange (I:=fun x c st2=>SG bp st2/\c.1=none/\At κ a b c.2.2.2.1 c.2.1 c.2.2.1/\c.2.1+c.2.2.1<na+nb)
    (Q:=fun c st2=>SG bp st2/\((∃z,c.1=some z/\Rs κ a b z)\/(c.1=none/\At κ a b c.2.2.2.1 c.2.1 c.2.2.1/\c.2.1+c.2.2.1<na+nb))) ?_ ?_ ⟨sg,rfl,m',ck⟩) ?_)
   .rintro x ⟨c0,i,j,o,g2,ac,bc⟩ st2 _ hx ⟨bS,rfl,m2,e2⟩;dsimp only at m2 e2⊢;have uk:kindOf st2=ks:=bS.kind.trans (sg.kind.symm.trans hk);have go:∀g',wpS (model prog w) A E s (gl1 a b i j o g' ac bc) (G2 κ a b (na+nb) bp) st2:=fun g'=>vp hL T F uk bS m2 Zz;unfold gal;split
    .refine wpS_mono (go _) fun r iq h3=>?_;obtain⟨h3,h4⟩:=h3
     cases r with
     |done c=>exact⟨h3,h4⟩
     |yield c=>exact⟨h3,h4⟩
    .refine wpS_mono (go _) fun r iq h3=>?_;obtain⟨h3,h4⟩:=h3
     cases r with
     |done c=>exact⟨h3,h4⟩
     |yield c=>exact⟨h3,h4⟩
   .rintro c st2 ⟨h0,h1,h2,h3⟩;exact⟨h0,.inr ⟨h1,h2,h3⟩⟩
   .rintro⟨c0,i,j,o,g2,ac,bc⟩ st2 ⟨bS,h⟩;dsimp only at h⊢;rcases h with⟨z,rfl,hz⟩|⟨rfl,m2,uS⟩
    .exact wpS_pure ⟨bS,z,rfl,hz⟩
    .dsimp only;refine wpS_bind (jb fun iq nV=>wpS_pure ⟨⟨nV.kind.trans bS.kind,nV.arr.trans bS.arr,nV.pend.trans bS.pend,nV.fail.trans bS.fail⟩,rfl,m2,uS⟩)
theorem hi_wp(hL:LtAll prog w A E s κ ks)(T:Two κ a b)(L:jh κ a b)(F:FirstB κ a b)(ha:0<a.size)(hb:0<b.size){st:SortSt}(hk:kindOf st=ks){Q:Array Keyed->SortSt->Prop}
  (h:∀r Zq,SG st Zq->Rs κ a b r->Q r Zq):wpS (model prog w) A E s (jN a b) Q st:=by
 rw[Jh];obtain⟨x,x1,x2,x3,x4⟩:=iy T.ka (n:=a.size) ha (zA3 _);refine wpS_bind (wpS_lift (wpAny_rule ⟨rfl,?_⟩));refine wpS_bind (bw x1 ?_)
 have m0:Mh κ a b #[] a.size b.size:=by
  refine⟨?_,List.Pairwise.nil,fun x hx=>absurd hx Zy⟩;rw[List.drop_of_length_le (by rw[zA9];exact zA3 _),List.drop_of_length_le (by rw[zA9];exact zA3 _)];exact List.Perm.nil
 have m:Mh κ a b #[x] (a.size-1) b.size:=pushA (out:=#[]) T m0 ha (zA3 _) x4 fun y hy=>L y (List.mem_of_mem_take hy) x (by
  rw[<-zA9,zAm,zA9]at x4;rw[x4]
  exact List.mem_cons_self)
 by_cases e1:a.size-1=0
 .rw[if_pos (by simpa using e1)];exact wpS_pure (h _ st (SG.refl _) (e_a T m e1))
 .rw[if_neg (by simpa using e1)];by_cases e2:b.size=1
  .rw[if_pos (by simpa using e2)];exact wpS_pure (h _ st (SG.refl _) (e_f T F m e2))
  .rw[if_neg (by simpa using e2)];refine wpS_bind (wpS_get ?_)
   refine wpS_bind (wpS_mono (wpS_forRange (I:=fun x c Zq=>SG st Zq/\c.1=none/\At κ a b c.2.2.2.1 c.2.1 c.2.2.1/\c.2.1+c.2.2.1+x<a.size+b.size)
    (Q:=fun c Zq=>SG st Zq/\∃z,c.1=some z/\Rs κ a b z) ?_ ?_ ⟨SG.refl _,rfl,⟨m,by dsimp only;lia,by dsimp only;lia,by dsimp only;lia,Nat.le_refl _⟩,by dsimp only;lia⟩) ?_)
   .rintro x ⟨c0,i,j,o,g⟩ Zq _ hx ⟨sg,rfl,m',e⟩;dsimp only at m' e⊢;refine wpS_mono (nP hL T F (sg.kind.trans hk) sg m') fun r st2 h2=>?_;obtain⟨bS,h2⟩:=h2
    cases r with
    |done c=>exact⟨bS,h2⟩
    |yield c=>
     obtain⟨h2,h3,h4⟩:=h2;exact⟨bS,h2,h3,Zz⟩
   .rintro c Zq ⟨sg,h1,m',e⟩;exact absurd e Zz
   .rintro⟨c0,i,j,o,g⟩ Zq ⟨sg,z,e,hz⟩;dsimp only at e;rw[e];exact wpS_pure (h z Zq sg hz)
end
end Hi
open PySem PyProof.Rows
def over(arr:Array Keyed)(n:Nat)(l:List Keyed):Array Keyed:=l.zipIdx.foldl (fun a p=>a.setIfInBounds (n+p.2) p.1) arr
theorem rK:∀(l:List Keyed) (j n:Nat) (arr:Array Keyed),n+j+l.length<=arr.size->
  (((l.zipIdx j).foldl (fun a p=>a.setIfInBounds (n+p.2) p.1) arr).size=arr.size/\∀i,((l.zipIdx j).foldl (fun a p=>a.setIfInBounds (n+p.2) p.1) arr)[i]?=if n+j<=i/\i<n+j+l.length then l[i-(n+j)]? else arr[i]?)
 |[],j,n,arr,_=>by
  refine⟨rfl,fun i=>?_⟩;rw[zAv (by rw[List.length_nil];lia)];rfl
 |p::l,j,n,arr,h=>by
  rw[zAe]at h;rw[List.zipIdx_cons,List.foldl_cons];obtain⟨h1,h2⟩:=rK l (j+1) n (arr.setIfInBounds (n+j) p) (by rw[Array.size_setIfInBounds];lia);refine⟨by rw[h1,Array.size_setIfInBounds],fun i=>?_⟩;rw[h2 i,zAe,Array.getElem?_setIfInBounds];by_cases e:n+j=i
  .subst e;rw[if_neg Zz,if_pos rfl,if_pos Zz,if_pos Zz];simp
  .rw[zAv e];by_cases e2:n+(j+1)<=i/\i<n+(j+1)+l.length
   .rw[zAy e2,zAy Zz,show i-(n+j)=(i-(n+(j+1)))+1 by lia];rfl
   .rw[zAv e2,zAv Zz]
theorem yN{arr:Array Keyed}{n:Nat}{l:List Keyed}(h:n+l.length<=arr.size):(over arr n l).toList=arr.toList.take n++l++arr.toList.drop (n+l.length):=by
 obtain⟨h1,h2⟩:=rK l 0 n arr Zz;refine List.ext_getElem? fun i=>?_;rw[Array.getElem?_toList];show((l.zipIdx 0).foldl (fun a p=>a.setIfInBounds (n+p.2) p.1) arr)[i]?=_;have hl:arr.toList.length=arr.size:=zA9;rw[h2 i,zAf,List.getElem?_append,zAd,hl,show min n arr.size=n by lia,List.getElem?_append];by_cases e1:i<n
 .rw[zAv Zz,zAy e1,List.getElem?_take,zAy e1,Array.getElem?_toList]
 .rw[zAv e1];by_cases e2:i<n+l.length
  .rw[zAy Zz,zAy Zz];rfl
  .rw[zAv Zz,zAv Zz,List.getElem?_drop,Array.getElem?_toList];congr 1;lia
theorem pw_of_seg{κ:PyProof.Rows.KeyKind}{arr:Array Keyed}(ka:KeysOf κ arr){lo hi:Nat}(hh:hi<=arr.size)(h:Seg κ arr lo hi):((arr.toList.take hi).drop lo).Pairwise (leK κ):=by
 rw[List.pairwise_iff_getElem];intro i j dQ kS ck;rw[List.length_drop,zAd,zA9]at dQ kS;rw[List.getElem_drop,List.getElem_drop,List.getElem_take,List.getElem_take]
 have fh:∀k,(hk:k<arr.toList.length)->k<arr.size->key κ arr.toList[k]=KK κ arr k:=fun k hk cw=>by
  obtain⟨p,p1,p2,p3,p4⟩:=item ka cw;rw[p3]
  have e:arr.toList[k]?=some p:=by
   rw[Array.getElem?_toList];exact p1
  rw[zA0 hk]at e;rw[zAl e]
 unfold leK;rw[fh _ _ Zz,fh _ _ Zz];exact h _ _ Zz Zz Zz
theorem yO{κ:PyProof.Rows.KeyKind}{arr:Array Keyed}(ka:KeysOf κ arr){lo hi:Nat}(hh:hi<=arr.size)(h:((arr.toList.take hi).drop lo).Pairwise (leK κ)):Seg κ arr lo hi:=by
 intro i j h1 h2 h3;by_cases e:i=j
 .rw[e];exact KeyOrd.kle_refl _
 .rw[List.pairwise_iff_getElem]at h
  have fh:∀k,(hk:k<arr.toList.length)->k<arr.size->key κ arr.toList[k]=KK κ arr k:=fun k hk cw=>by
   obtain⟨p,p1,p2,p3,p4⟩:=item ka cw;rw[p3]
   have e:arr.toList[k]?=some p:=by
    rw[Array.getElem?_toList];exact p1
   rw[zA0 hk]at e;rw[zAl e]
  have:=h (i-lo) (j-lo) (by rw[List.length_drop,zAd,zA9];lia) (by rw[List.length_drop,zAd,zA9];lia) Zz;rw[List.getElem_drop,List.getElem_drop,List.getElem_take,List.getElem_take]at this;unfold leK at this;rw[fh _ _ Zz,fh _ _ Zz]at this;rw[show lo+(i-lo)=i by lia,show lo+(j-lo)=j by lia]at this;exact this
theorem Jk(i:Nat):mergeAt' i=(do
  let s <-get
  match(pendingOf s)[i]?,(pendingOf s)[i+1]? with
  |some p,some q=>do
   set (setPending s (((pendingOf s).setIfInBounds i (p.1,p.2.1+q.2.1,p.2.2)).eraseIdxIfInBounds (i+1)))
   let y <-elem' (arrOf s) q.1
   let r <-gq false y (arrOf s) p.1 p.2.1 0
   match r with
   |some k=>
    if(p.2.1-k==0)=true then pure true
    else do
     let x <-elem' (arrOf s) (p.1+k+(p.2.1-k)-1)
     let r <-gq true x (arrOf s) q.1 q.2.1 (q.2.1-1)
     match r with
     |some n=>
      if(n==0)=true then pure true
      else do
       let m <-if p.2.1-k<=n then jH ((arrOf s).extract (p.1+k) q.1) ((arrOf s).extract q.1 (q.1+n))else jN ((arrOf s).extract (p.1+k) q.1) ((arrOf s).extract q.1 (q.1+n))
       modify fun s'=>setArr s' (over (arrOf s') (p.1+k) m.toList)
       let s' <-get
       pure (failedOf s').isNone
     |_=>pure false
   |_=>pure false
  |_,_=>liftM (unsupported "internal:list.sort.pending")):=by
 delta mergeAt'
 refine bc rfl (funext fun s=>?_);generalize e1:(pendingOf s)[i]?=o1;generalize e2:(pendingOf s)[i+1]?=o2
 cases o1 with
 |none=>cases o2<;>rfl
 |some p=>
  obtain⟨sa,na,pw⟩:=p
  cases o2 with
  |none=>rfl
  |some q=>
   obtain⟨sb,nb,HZ⟩:=q;refine bc rfl (funext fun u=>bc rfl (funext fun y=>bc rfl (funext fun r=>?_)))
   cases r with
   |none=>rfl
   |some k=>
    refine ic rfl (bc rfl (funext fun x=>bc rfl (funext fun r=>?_)))
    cases r with
    |none=>rfl
    |some n=>exact ic rfl (ic (bc rfl (funext fun m=>rfl)) (bc rfl (funext fun m=>rfl)))
theorem keys_perm{κ:PyProof.Rows.KeyKind}{ae xs:Array Keyed}(h0:KeysOf κ ae)(h:xs.Perm ae):KeysOf κ xs:=fun p hp=>h0 p ((Array.perm_iff_toList_perm.mp h).mem_iff.mp hp)
theorem uo{κ:PyProof.Rows.KeyKind}{xs:Array Keyed}(h0:KeysOf κ xs)(i j:Nat):KeysOf κ (xs.extract i j):=fun p hp=>by
 rw[gM]at hp;exact h0 p (List.mem_of_mem_drop (List.mem_of_mem_take hp))
section
variable{prog:Program}{w:World}{A:Around}{E:Value->Shared->Prop}{s:Shared}{κ:PyProof.Rows.KeyKind}{ks:SortKind}{ae:Array Keyed}
structure Mg(κ:PyProof.Rows.KeyKind)(ks:SortKind)(ae:Array Keyed)(st Zq:SortSt)(sa hi:Nat)(pend:Array (Nat×Nat×Nat)):Prop where
 base:SB ks ae Zq
 out:∀k,(k<sa\/hi<=k)->(arrOf Zq)[k]?=(arrOf st)[k]?
 seg:Seg κ (arrOf Zq) sa hi
 pend:pendingOf Zq=pend
theorem Bf{l:List Keyed}{i j k m:Nat}(h1:i<=j)(h2:j<=k)(h3:k<=m)(h4:m<=l.length):(l.take m).drop i=(l.take j).drop i++((l.take k).drop j++(l.take m).drop k):=by
 have c:∀{x y z:Nat},x<=y->y<=z->z<=l.length->(l.take z).drop x=(l.take y).drop x++(l.take z).drop y:=fun{x y z} a b d=>by
  have:=Hi.cut_drop (l:=l.take z) (t:=x) (n:=y) a (by rw[zAd];lia);rw[List.take_take,show min y z=y by lia]at this;exact this.symm
 rw[c h1 Zz h4,c h2 h3 h4]
theorem Jl(hL:LtAll prog w A E s κ ks)(h0:KeysOf κ ae){st:SortSt}(B:SB ks ae st){i sa na pw nb HZ:Nat}(e1:(pendingOf st)[i]?=some (sa,na,pw))(e2:(pendingOf st)[i+1]?=some (sa+na,nb,HZ))
  (n1:1<=na) (n2:1<=nb) (hz:sa+na+nb<=ae.size) (s1:Seg κ (arrOf st) sa (sa+na)) (s2:Seg κ (arrOf st) (sa+na) (sa+na+nb)) {Q:Bool->SortSt->Prop}
  (h:∀Zq,Mg κ ks ae st Zq sa (sa+na+nb) (((pendingOf st).setIfInBounds i (sa,na+nb,pw)).eraseIdxIfInBounds (i+1))->Q true Zq):wpS (model prog w) A E s (mergeAt' i) Q st:=by
 rw[Jk];refine wpS_bind (wpS_get ?_);rw[e1,e2];dsimp only;have kA:KeysOf κ (arrOf st):=keys_perm h0 B.pm;have hsz:(arrOf st).size=ae.size:=B.size;have eC:(arrOf st).toList.length=ae.size:=by rw[zA9,hsz]
 obtain⟨P,eP⟩:∃P,P=((pendingOf st).setIfInBounds i (sa,na+nb,pw)).eraseIdxIfInBounds (i+1):=⟨_,rfl⟩
 rw[<-eP]at h⊢
 have Ic:∀{R:PUnit->SortSt->Prop},R ⟨⟩ (setPending st P)->wpS (model prog w) A E s (set (setPending st P):Sm PUnit) R st:=fun hR=>by
  unfold wpS;rw[StateT.run_set];exact zAz ⟨rfl,hR⟩
 refine wpS_bind (Ic ?_)
 obtain⟨gg,jI⟩:∃gg,gg=setPending st P:=⟨_,rfl⟩
 have k1:kindOf gg=ks:=by rw[jI];exact B.kind
 have a1:arrOf gg=arrOf st:=by rw[jI]
 have p1:pendingOf gg=P:=by rw[jI]
 have f1:failedOf gg=none:=by rw[jI];exact B.ok
 rw[<-jI]
 have all:Seg κ (arrOf st) sa (sa+na+nb)->Mg κ ks ae st gg sa (sa+na+nb) P:=fun sg=>⟨⟨k1,f1,by rw[a1];exact B.pm⟩,fun k _=>by rw[a1],by rw[a1];exact sg,p1⟩
 obtain⟨y,y1,y2,y3,y4⟩:=item kA (i:=sa+na) Zz;refine wpS_bind (bw y1 ?_);refine wpS_bind (eU (κ:=κ) (kk:=key κ y) (hL gg k1) y2 Zz (fun j hj=>?_) (fun j j' Ql kS hb=>?_) fun k kn kt kf=>?_)
 .obtain⟨p,q1,q2,q3,_⟩:=item kA (i:=sa+j) Zz;exact⟨p,_,q1,q2,q3⟩
 .have mono:=s1 (sa+j) (sa+j') Zz Zz Zz;have hb:(!κ.blt (key κ y) (KK κ (arrOf st) (sa+j')))=true:=hb;show(!κ.blt (key κ y) (KK κ (arrOf st) (sa+j)))=true;rw[Bool.not_eq_true']at hb⊢;exact KeyOrd.kle_trans mono hb
 .have Iq:∀j,sa<=j->j<sa+k->κ.kle (KK κ (arrOf st) j) (KK κ (arrOf st) (sa+na)):=fun j j1 j2=>by
   have:=kt (j-sa) Zz;rw[show sa+(j-sa)=j by lia]at this;have this:(!κ.blt (key κ y) (KK κ (arrOf st) j))=true:=this;rw[Bool.not_eq_true']at this;rw[y3];exact this
  have Qm:∀j,sa+k<=j->j<sa+na->κ.kle (KK κ (arrOf st) (sa+na)) (KK κ (arrOf st) j):=fun j j1 j2=>by
   have:=kf (j-sa) Zz Zz;rw[show sa+(j-sa)=j by lia]at this;have this:(!κ.blt (key κ y) (KK κ (arrOf st) j))=false:=this;rw[Bool.not_eq_false']at this;rw[y3];exact KeyOrd.kle_of_klt this
  dsimp only;by_cases mN:na-k=0
  .rw[if_pos (by simpa using mN)];refine wpS_pure (h gg (all fun u v hu Bi hv=>?_));by_cases c1:v<sa+na
   .exact s1 u v hu Bi c1
   .by_cases c2:u<sa+na
    .exact KeyOrd.kle_trans (Iq u hu Zz) (s2 (sa+na) v (zA3 _) Zz hv)
    .exact s2 u v Zz Bi hv
  .rw[if_neg (by simpa using mN)];rw[show sa+k+(na-k)-1=sa+na-1 by lia];obtain⟨x,x1,x2,x3,x4⟩:=item kA (i:=sa+na-1) Zz;refine wpS_bind (bw x1 ?_);refine wpS_bind (eU (κ:=κ) (kk:=key κ x) (hL gg k1) x2 Zz (fun j hj=>?_) (fun j j' Ql kS hb=>?_) fun n nn nt nf=>?_)
   .obtain⟨p,q1,q2,q3,_⟩:=item kA (i:=sa+na+j) Zz;exact⟨p,_,q1,q2,q3⟩
   .exact KeyOrd.klt_of_kle_of_klt (s2 (sa+na+j) (sa+na+j') Zz Zz Zz) hb
   .have Qn:∀j,sa+na<=j->j<sa+na+n->κ.kle (KK κ (arrOf st) j) (KK κ (arrOf st) (sa+na-1)):=fun j j1 j2=>by
     have:=nt (j-(sa+na)) Zz;rw[show sa+na+(j-(sa+na))=j by lia]at this;rw[x3];exact KeyOrd.kle_of_klt this
    have Nn:∀j,sa+na+n<=j->j<sa+na+nb->κ.kle (KK κ (arrOf st) (sa+na-1)) (KK κ (arrOf st) j):=fun j j1 j2=>by
     have:=nf (j-(sa+na)) Zz Zz;rw[show sa+na+(j-(sa+na))=j by lia]at this;rw[x3];exact this
    dsimp only;by_cases Np:n=0
    .rw[if_pos (by simpa using Np)];refine wpS_pure (h gg (all fun u v hu Bi hv=>?_));by_cases c1:v<sa+na
     .exact s1 u v hu Bi c1
     .by_cases c2:u<sa+na
      .exact KeyOrd.kle_trans (s1 u (sa+na-1) hu Zz Zz) (Nn v Zz hv)
      .exact s2 u v Zz Bi hv
    .rw[if_neg (by simpa using Np)]
     obtain⟨X,eX⟩:∃X,X=(arrOf st).extract (sa+k) (sa+na):=⟨_,rfl⟩
     obtain⟨Y,eY⟩:∃Y,Y=(arrOf st).extract (sa+na) (sa+na+n):=⟨_,rfl⟩
     rw[<-eX,<-eY];have lX:X.toList=((arrOf st).toList.take (sa+na)).drop (sa+k):=by rw[eX,Hi.ext_cut]
     have lY:Y.toList=((arrOf st).toList.take (sa+na+n)).drop (sa+na):=by rw[eY,Hi.ext_cut]
     have zX:X.size=na-k:=by rw[<-zA9,lX,List.length_drop,zAd,eC];lia
     have zY:Y.size=n:=by rw[<-zA9,lY,List.length_drop,zAd,eC];lia
     have pA:=pw_of_seg kA Zz s1;have pB:=pw_of_seg kA Zz s2;have eA:=Bf (l:=(arrOf st).toList) (i:=sa) (j:=sa+k) (k:=sa+na) (m:=sa+na) Zz Zz (zA3 _) (by rw[eC];lia);have eB:=Bf (l:=(arrOf st).toList) (i:=sa+na) (j:=sa+na+n) (k:=sa+na+nb) (m:=sa+na+nb) Zz Zz (zA3 _) (by rw[eC];lia);have Iy:((arrOf st).toList.take (sa+na)).drop (sa+na)=[]:=List.drop_of_length_le (by rw[zAd];lia);have IA:((arrOf st).toList.take (sa+na+nb)).drop (sa+na+nb)=[]:=List.drop_of_length_le (by rw[zAd];lia);rw[Iy,zAn,<-lX]at eA;rw[IA,zAn,<-lY]at eB
     obtain⟨A1,IB⟩:∃A1,A1=((arrOf st).toList.take (sa+k)).drop sa:=⟨_,rfl⟩
     obtain⟨B2,IC⟩:∃B2,B2=((arrOf st).toList.take (sa+na+nb)).drop (sa+na+n):=⟨_,rfl⟩
     rw[<-IB]at eA;rw[<-IC]at eB;rw[eA]at pA;rw[eB]at pB;obtain⟨Qo,pX,Qp⟩:=List.pairwise_append.mp pA;obtain⟨pY,Qq,Qr⟩:=List.pairwise_append.mp pB
     have Nq:∀z∈X.toList,∃j,sa+k<=j/\j<sa+na/\KK κ (arrOf st) j=key κ z:=fun z dP=>by
      rw[lX]at dP;obtain⟨j,j1,j2,_,j4⟩:=Hi.take_key kA dP;exact⟨j,j1,j2,j4⟩
     have Nr:∀z∈Y.toList,∃j,sa+na<=j/\j<sa+na+n/\KK κ (arrOf st) j=key κ z:=fun z dP=>by
      rw[lY]at dP;obtain⟨j,j1,j2,_,j4⟩:=Hi.take_key kA dP;exact⟨j,j1,j2,j4⟩
     have Qs:∀z∈A1,∃j,sa<=j/\j<sa+k/\KK κ (arrOf st) j=key κ z:=fun z dP=>by
      rw[IB]at dP;obtain⟨j,j1,j2,_,j4⟩:=Hi.take_key kA dP;exact⟨j,j1,j2,j4⟩
     have Nt:∀z∈B2,∃j,sa+na+n<=j/\j<sa+na+nb/\KK κ (arrOf st) j=key κ z:=fun z dP=>by
      rw[IC]at dP;obtain⟨j,j1,j2,_,j4⟩:=Hi.take_key kA dP;exact⟨j,j1,j2,j4⟩
     have TT:Two κ X Y:=⟨by rw[eX];exact uo kA _ _,by rw[eY];exact uo kA _ _,pX,pY⟩
     have LL:jh κ X Y:=fun z dP v hv=>by
      obtain⟨j,j1,j2,j3⟩:=Nr z dP;obtain⟨j',Bn,Bz,u7⟩:=nJ TT.ka hv;have ej:j'=X.size-1:=Zz
      have e:KK κ X j'=KK κ (arrOf st) (sa+na-1):=by
       refine KK_congr ?_;rw[eX,Array.getElem?_extract,zAy Zz];congr 1;lia
      show κ.kle (key κ z) (key κ v);rw[<-j3,<-u7,e];exact Qn j j1 j2
     have F0:∀v∈X.toList,∀z,Y[0]?=some z->leK κ z v:=fun v hv z dP=>by
      obtain⟨j,j1,j2,j3⟩:=Nq v hv
      have ez:z=y:=by
       rw[eY,Array.getElem?_extract,zAy Zz,Nat.add_zero,y1]at dP;exact(zAl dP).symm
      show κ.kle (key κ z) (key κ v);rw[ez,<-y3,<-j3];exact Qm j j1 j2
     have FB:Hi.FirstB κ X Y:=fun z dP v hv=>by
      obtain⟨j,j1,j2,j3⟩:=Hi.take_key0 TT.kb dP;obtain⟨q,q1,q2,q3,_⟩:=item TT.kb (i:=0) Zz;have e0:j=0:=Zz
      rw[e0,q3]at j3;have:=F0 v hv q q1;unfold leK at this⊢;rw[<-j3];exact this
     have fin:∀m st2,SG gg st2->Rs κ X Y m->wpS (model prog w) A E s (do
       modify fun s'=>setArr s' (over (arrOf s') (sa+k) m.toList)
       let s' <-get
       pure (failedOf s').isNone) Q st2:=fun m st2 sg D=>by
      refine wpS_bind (wpS_modify (wpS_bind (wpS_get (wpS_pure ?_))))
      have ft:(failedOf (setArr st2 (over (arrOf st2) (sa+k) m.toList))).isNone=true:=by
       show(failedOf st2).isNone=true;rw[sg.fail,f1];rfl
      rw[ft];have am:arrOf st2=arrOf st:=sg.arr.trans a1
      have lm:m.toList.length=na-k+n:=by
       rw[D.pm.length_eq,zA2,zA9,zA9,zX,zY]
      have ol:(over (arrOf st) (sa+k) m.toList).toList=(arrOf st).toList.take (sa+k)++m.toList++(arrOf st).toList.drop (sa+na+n):=by
       rw[yN (by rw[lm,hsz];lia),lm,show sa+k+(na-k+n)=sa+na+n by lia]
      have BA:(over (arrOf st) (sa+k) m.toList).toList.Perm (arrOf st).toList:=by
       rw[ol]
       have e:(arrOf st).toList=(arrOf st).toList.take (sa+k)++(X.toList++Y.toList)++(arrOf st).toList.drop (sa+na+n):=by
        rw[lX,lY];have c1:=Hi.cut_drop (l:=(arrOf st).toList) (t:=sa+na) (n:=sa+na+n) Zz (by rw[eC];lia);have c2:=Hi.cut_drop (l:=(arrOf st).toList) (t:=sa+k) (n:=sa+na) Zz (by rw[eC];lia);rw[zAf,zAf,c1,c2,zBa]
       conv=>rhs;rw[e]
       exact List.Perm.append_right _ (List.Perm.append_left _ D.pm)
      have kU:(over (arrOf st) (sa+k) m.toList).Perm (arrOf st):=Array.perm_iff_toList_perm.mpr BA;have kO:KeysOf κ (over (arrOf st) (sa+k) m.toList):=keys_perm kA kU;have zO:(over (arrOf st) (sa+k) m.toList).size=ae.size:=kU.size_eq.trans hsz;have og:∀j,(over (arrOf st) (sa+k) m.toList)[j]?=if sa+k+0<=j/\j<sa+k+0+m.toList.length then m.toList[j-(sa+k+0)]? else(arrOf st)[j]?:=(rK m.toList 0 (sa+k) (arrOf st) (by rw[lm,hsz];lia)).2;refine h _ ⟨⟨sg.kind.trans k1,by show failedOf st2=none;rw[sg.fail,f1],?_⟩,fun j hj=>?_,?_,?_⟩
      .show(over (arrOf st2) (sa+k) m.toList).Perm ae;rw[am];exact kU.trans B.pm
      .show(over (arrOf st2) (sa+k) m.toList)[j]?=_;rw[am,og j,zAv (by rw[lm];lia)]
      .show Seg κ (over (arrOf st2) (sa+k) m.toList) sa (sa+na+nb);rw[am];refine yO kO (by rw[zO];exact hz) ?_
       have cut:((over (arrOf st) (sa+k) m.toList).toList.take (sa+na+nb)).drop sa=A1++(m.toList++B2):=by
        rw[ol,IB,IC];have tl:((arrOf st).toList.take (sa+k)).length=sa+k:=by rw[zAd,eC];lia
        rw[zAf,List.take_append,tl,List.take_of_length_le (l:=(arrOf st).toList.take (sa+k)) (by rw[tl];lia),List.take_append,lm,List.take_of_length_le (l:=m.toList) (by rw[lm];lia)];rw[List.drop_append_of_le_length (by rw[tl];lia)];congr 2;rw[List.drop_take];congr 1;lia
       rw[cut];refine List.pairwise_append.mpr ⟨Qo,List.pairwise_append.mpr ⟨D.sr,Qq,fun u hu v hv=>?_⟩,fun u hu v hv=>?_⟩
       .rcases zA6.mp (D.pm.mem_iff.mp hu)with c|c
        .obtain⟨j,j1,j2,j3⟩:=Nq u c;obtain⟨j',Bn,Bz,u7⟩:=Nt v hv;show κ.kle (key κ u) (key κ v);rw[<-j3,<-u7];exact KeyOrd.kle_trans (s1 j (sa+na-1) Zz Zz Zz) (Nn j' Bn Bz)
        .exact Qr u c v hv
       .obtain⟨j,j1,j2,j3⟩:=Qs u hu;rcases zA6.mp hv with c|c
        .rcases zA6.mp (D.pm.mem_iff.mp c)with c|c
         .exact Qp u hu v c
         .obtain⟨j',Bn,Bz,u7⟩:=Nr v c;show κ.kle (key κ u) (key κ v);rw[<-j3,<-u7];exact KeyOrd.kle_trans (Iq j j1 j2) (s2 (sa+na) j' (zA3 _) Bn Zz)
        .obtain⟨j',Bn,Bz,u7⟩:=Nt v c;show κ.kle (key κ u) (key κ v);rw[<-j3,<-u7];exact KeyOrd.kle_trans (Iq j j1 j2) (s2 (sa+na) j' (zA3 _) Zz Bz)
      .show pendingOf st2=P;rw[sg.pend,p1]
     by_cases hc:na-k<=n
     .rw[zAy hc];exact wpS_bind (Jg hL TT LL Zz Zz F0 k1 fun m st2 sg D=>fin m st2 sg D)
     .rw[zAv hc];exact wpS_bind (Hi.hi_wp hL TT LL FB Zz Zz k1 fun m st2 sg D=>fin m st2 sg D)
end
abbrev Run:=Nat×Nat×Nat
def Ch(κ:PyProof.Rows.KeyKind)(arr:Array Keyed):List Run->Nat->Nat->Prop
 |[],a,b=>a=b
 |r::l,a,b=>r.1=a/\1<=r.2.1/\Seg κ arr a (a+r.2.1)/\Ch κ arr l (a+r.2.1) b
theorem Ch.le{κ:PyProof.Rows.KeyKind}{arr:Array Keyed}:∀{l:List Run} {a b:Nat},Ch κ arr l a b->a+l.length<=b
 |[],a,b,h=>by
  have h:a=b:=h;simp[h]
 |r::l,a,b,h=>by
  have:=Ch.le h.2.2.2;have:=h.2.1;rw[zAe];lia
theorem Ch.split{κ:PyProof.Rows.KeyKind}{arr:Array Keyed}:∀{l1 l2:List Run} {a b:Nat},Ch κ arr (l1++l2) a b↔∃m,Ch κ arr l1 a m/\Ch κ arr l2 m b
 |[],l2,a,b=>⟨fun h=>⟨a,rfl,h⟩,fun⟨m,h1,h2⟩=>by
  have h1:a=m:=h1;rw[h1]
  exact h2⟩
 |r::l1,l2,a,b=>by
  constructor
  .intro h;obtain⟨m,h1,h2⟩:=Ch.split.mp h.2.2.2;exact⟨m,⟨h.1,h.2.1,h.2.2.1,h1⟩,h2⟩
  .rintro⟨m,h1,h2⟩;exact⟨h1.1,h1.2.1,h1.2.2.1,Ch.split.mpr ⟨m,h1.2.2.2,h2⟩⟩
theorem uq{κ:PyProof.Rows.KeyKind}{arr kX:Array Keyed}{a b:Nat}(h:Seg κ arr a b)(e:∀k,a<=k->k<b->kX[k]?=arr[k]?):Seg κ kX a b:=fun i j h1 h2 h3=>by
 rw[KK_congr (e i h1 Zz),KK_congr (e j Zz h3)];exact h i j h1 h2 h3
theorem Ch.same{κ:PyProof.Rows.KeyKind}{arr kX:Array Keyed}:∀{l:List Run} {a b:Nat},Ch κ arr l a b->(∀k,a<=k->k<b->kX[k]?=arr[k]?)->Ch κ kX l a b
 |[],_,_,h,_=>h
 |r::l,a,b,h,e=>by
  have:=Ch.le h.2.2.2;exact⟨h.1,h.2.1,uq h.2.2.1 fun k k1 k2=>e k k1 Zz,h.2.2.2.same fun k k1 k2=>e k Zz k2⟩
theorem yP{p:Array Run}{i:Nat}{v:Run}(h:i+1<p.size):((p.setIfInBounds i v).eraseIdxIfInBounds (i+1)).toList=p.toList.take i++v::p.toList.drop (i+2):=by
 have hl:p.toList.length=p.size:=zA9
 have e1:(p.setIfInBounds i v).eraseIdxIfInBounds (i+1)=(p.setIfInBounds i v).eraseIdx (i+1) (by rw[Array.size_setIfInBounds];exact h):=by
  rw[Array.eraseIdxIfInBounds,dif_pos (by rw[Array.size_setIfInBounds];exact h)]
 rw[e1,Array.toList_eraseIdx,Array.toList_setIfInBounds,List.eraseIdx_eq_take_drop_succ,List.take_set,List.drop_set,zAy Zz]
 have e2:p.toList.take (i+1)=p.toList.take i++[p.toList[i]'Zz]:=by
  rw[zAj,zA0 Zz];rfl
 rw[e2,List.set_append_right _ _ (by rw[zAd];lia)];rw[zAd,show i-min i p.toList.length=0 by lia];simp
section
variable{prog:Program}{w:World}{A:Around}{E:Value->Shared->Prop}{s:Shared}{κ:PyProof.Rows.KeyKind}{ks:SortKind}{ae:Array Keyed}
structure St(κ:PyProof.Rows.KeyKind)(ks:SortKind)(ae:Array Keyed)(st:SortSt)(lo:Nat):Prop where
 base:SB ks ae st
 ch:Ch κ (arrOf st) (pendingOf st).toList 0 lo
 le:lo<=ae.size
theorem ur(hL:LtAll prog w A E s κ ks)(h0:KeysOf κ ae){st:SortSt}{lo i:Nat}(S:St κ ks ae st lo)(hi:i+1<(pendingOf st).size){Q:Bool->SortSt->Prop}
  (h:∀Zq,St κ ks ae Zq lo->(pendingOf Zq).size+1=(pendingOf st).size->(∀k,lo<=k->(arrOf Zq)[k]?=(arrOf st)[k]?)->Q true Zq):wpS (model prog w) A E s (mergeAt' i) Q st:=by
 have hl:(pendingOf st).toList.length=(pendingOf st).size:=zA9;have d1:(pendingOf st).toList.drop i=(pendingOf st).toList[i]'Zz::(pendingOf st).toList.drop (i+1):=List.drop_eq_getElem_cons Zz;have d2:(pendingOf st).toList.drop (i+1)=(pendingOf st).toList[i+1]'Zz::(pendingOf st).toList.drop (i+2):=List.drop_eq_getElem_cons Zz;have g1:(pendingOf st)[i]?=some ((pendingOf st).toList[i]'Zz):=by rw[<-Array.getElem?_toList,zA0 Zz]
 have g2:(pendingOf st)[i+1]?=some ((pendingOf st).toList[i+1]'Zz):=by rw[<-Array.getElem?_toList,zA0 Zz]
 obtain⟨⟨sa,na,pw⟩,ep⟩:∃r,r=(pendingOf st).toList[i]'Zz:=⟨_,rfl⟩
 obtain⟨⟨sb,nb,HZ⟩,eq⟩:∃r,r=(pendingOf st).toList[i+1]'Zz:=⟨_,rfl⟩
 rw[<-ep]at d1 g1;rw[<-eq]at d2 g2;have c:=S.ch;rw[<-List.take_append_drop i (pendingOf st).toList,d1,d2]at c;obtain⟨m,c1,c2⟩:=Ch.split.mp c;obtain⟨q1,q2,q3,q4,q5,q6,q7⟩:=c2;dsimp only at q1 q2 q3 q4 q5 q6 q7;subst q1;subst q4;have lb:=Ch.le q7;have lm:=Ch.le c1;refine Jl hL h0 S.base g1 g2 q2 q5 (by have:=S.le;lia) q3 q6 fun Zq M=>?_;have pl:(pendingOf Zq).toList=(pendingOf st).toList.take i++(sa,na+nb,pw)::(pendingOf st).toList.drop (i+2):=by rw[M.pend,yP hi]
 refine h Zq ⟨M.base,?_,S.le⟩ ?_ fun k hk=>M.out k (.inr Zz)
 .rw[pl];refine Ch.split.mpr ⟨sa,c1.same fun k _ k2=>M.out k (.inl k2),rfl,by dsimp only;lia,?_,?_⟩
  .dsimp only;rw[<-Nat.add_assoc];exact M.seg
  .dsimp only;rw[<-Nat.add_assoc];exact q7.same fun k k1 _=>M.out k (.inr k1)
 .rw[<-zA9,pl,zA2,zAe,zAd,List.length_drop];lia
def rest(z lo n:Nat):Sm (ForInStep (Option Unit×Nat)):=do
 let s <-get
 match(pendingOf s).back? with
 |some (s1,n1,_)=>do
  let c <-forIn [0:z] ((none,()):Option Unit×Unit) fun _ _=>do
    let s <-get
    match(if(pendingOf s).size>1 then(pendingOf s)[(pendingOf s).size-2]? else none)with
    |some (_,_,rb)=>
     if rb<=power' z (2*s1+n1) (2*s1+n1+n1+n) z then pure (ForInStep.done (none,()))
     else do
      let b <-mergeAt' ((pendingOf s).size-2)
      if(!b)=true then pure (ForInStep.done (some (),()))else pure (ForInStep.yield (none,()))
    |_=>pure (ForInStep.done (none,()))
  match c.1 with
  |some r=>pure (ForInStep.done (some r,lo))
  |none=>do
   modify fun s=>setPending s ((pendingOf s).modify ((pendingOf s).size-1) fun x=>(x.1,x.2.1,power' z (2*s1+n1) (2*s1+n1+n1+n) z))
   modify fun s=>setPending s ((pendingOf s).push (lo,n,0))
   pure (ForInStep.yield (none,lo+n))
 |_=>do
  modify fun s=>setPending s ((pendingOf s).push (lo,n,0))
  pure (ForInStep.yield (none,lo+n))
theorem Ch.pw{κ:PyProof.Rows.KeyKind}{arr:Array Keyed}(f:Run->Run)(hf:∀r,(f r).1=r.1/\(f r).2.1=r.2.1):∀{l:List Run} {a b i:Nat},Ch κ arr l a b->Ch κ arr (l.modify i f) a b
 |[],a,b,i,h=>by
  cases i<;>exact h
 |r::l,a,b,0,h=>by
  obtain⟨e1,e2⟩:=hf r;refine⟨e1.trans h.1,by rw[e2];exact h.2.1,by rw[e2];exact h.2.2.1,?_⟩;rw[e2];exact h.2.2.2
 |r::l,a,b,i+1,h=>⟨h.1,h.2.1,h.2.2.1,Ch.pw f hf h.2.2.2⟩
theorem St.push{st:SortSt}{lo n:Nat}(S:St κ ks ae st lo)(n1:1<=n)(hn:lo+n<=ae.size)(sg:Seg κ (arrOf st) lo (lo+n)):St κ ks ae (setPending st ((pendingOf st).push (lo,n,0))) (lo+n):=by
 refine⟨⟨S.base.kind,S.base.ok,S.base.pm⟩,?_,hn⟩;show Ch κ (arrOf st) ((pendingOf st).push (lo,n,0)).toList 0 (lo+n);rw[Array.toList_push];exact Ch.split.mpr ⟨lo,S.ch,rfl,n1,sg,rfl⟩
theorem St.pw{st:SortSt}{lo i:Nat}(S:St κ ks ae st lo)(f:Run->Run)(hf:∀r,(f r).1=r.1/\(f r).2.1=r.2.1):St κ ks ae (setPending st ((pendingOf st).modify i f)) lo:=by
 refine⟨⟨S.base.kind,S.base.ok,S.base.pm⟩,?_,S.le⟩;show Ch κ (arrOf st) ((pendingOf st).modify i f).toList 0 lo;rw[Array.toList_modify];exact S.ch.pw f hf
theorem wN(hL:LtAll prog w A E s κ ks)(h0:KeysOf κ ae){st:SortSt}{lo n x:Nat}(S:St κ ks ae st lo)(n1:1<=n)(hn:lo+n<=ae.size)(sg:Seg κ (arrOf st) lo (lo+n))(hx:x<=lo){Q:ForInStep (Option Unit×Nat)->SortSt->Prop}
  (h:∀Zq,St κ ks ae Zq (lo+n)->Q (.yield (none,lo+n)) Zq):wpS (model prog w) A E s (rest ae.size lo n) Q st:=by
 unfold rest;refine wpS_bind (wpS_get ?_)
 cases(pendingOf st).back? with
 |none=>exact wpS_bind (wpS_modify (wpS_pure (h _ (S.push n1 hn sg))))
 |some q=>
  obtain⟨s1,ID,p1⟩:=q;dsimp only;refine wpS_bind (wpS_mono (wpS_forRange (I:=fun _ c Zq=>c=(none,())/\St κ ks ae Zq lo/\Seg κ (arrOf Zq) lo (lo+n)) (Q:=fun c Zq=>c=(none,())/\St κ ks ae Zq lo/\Seg κ (arrOf Zq) lo (lo+n)) ?_ (fun _ _ z=>z) ⟨rfl,S,sg⟩) ?_)
  .rintro y c Zq _ _ ⟨rfl,S',gi⟩;refine wpS_bind (wpS_get ?_);by_cases h1:(pendingOf Zq).size>1
   .rw[zAy h1];have hl:(pendingOf Zq).size-2<(pendingOf Zq).size:=Zz
    rw[Array.getElem?_eq_getElem hl]
    obtain⟨⟨a1,a2,rb⟩,eo⟩:∃r,r=(pendingOf Zq)[(pendingOf Zq).size-2]:=⟨_,rfl⟩
    rw[<-eo];dsimp only;split
    .exact wpS_pure ⟨rfl,S',gi⟩
    .refine wpS_bind (ur hL h0 S' Zz fun st2 S2 _ o2=>?_);rw[zAv Zx];exact wpS_pure ⟨rfl,S2,uq gi fun k k1 _=>o2 k k1⟩
   .rw[zAv h1];exact wpS_pure ⟨rfl,S',gi⟩
  .rintro c Zq ⟨rfl,S',gi⟩;dsimp only;refine wpS_bind (wpS_modify (wpS_bind (wpS_modify (wpS_pure (h _ ?_)))));exact(S'.pw (fun x=>(x.1,x.2.1,power' ae.size (2*s1+ID) (2*s1+ID+ID+n) ae.size)) fun _=>⟨rfl,rfl⟩).push n1 hn gi
theorem ifl(c:Prop)[Decidable c](n:Nat):(if c then n-1 else n)<=n:=by split<;>lia
theorem runs_wp(hL:LtAll prog w A E s κ ks)(h0:KeysOf κ ae){st:SortSt}(B:SB ks ae st)(hp:pendingOf st=#[]){Q:Unit->SortSt->Prop}
  (h:∀Zq,SB ks ae Zq->Seg κ (arrOf Zq) 0 ae.size->Q () Zq):wpS (model prog w) A E s sortRuns' Q st:=by
 rw[sortRuns'_eq];refine wpS_bind (wpS_get ?_);dsimp only;rw[B.size];generalize minRun' ae.size ae.size 0=mr;refine wpS_bind (wpS_mono (wpS_forRange (I:=fun x c Zq=>c.1=none/\St κ ks ae Zq c.2/\x<=c.2) (Q:=fun c Zq=>c.1=none/\St κ ks ae Zq ae.size) ?_ ?_ ⟨rfl,⟨B,by rw[hp];rfl,zAp _⟩,zA3 _⟩) ?_)
 .rintro x ⟨c0,lo⟩ Zq _ hx ⟨rfl,S,fz⟩;dsimp only at S fz⊢;by_cases uu:lo≥ae.size
  .rw[zAy uu]
   have e:lo=ae.size:=by
    have:=S.le;lia
   refine wpS_pure ⟨rfl,?_⟩;rw[<-e];exact S
  .rw[if_neg uu];refine wpS_bind (Bd hL h0 Zz Zz S.base fun n gg B1 O1 n1 n2 Nu=>?_);dsimp only
   have S1:St κ ks ae gg lo:=⟨B1,by rw[O1.pend];exact S.ch.same fun k _ k2=>O1.out k (.inl k2),S.le⟩
   have tr:∀{m m':Sm (ForInStep (Option Unit×Nat))} {R:ForInStep (Option Unit×Nat)->SortSt->Prop} {st2:SortSt},m=m'->wpS (model prog w) A E s m' R st2->wpS (model prog w) A E s m R st2:=fun e h=>e▸h;by_cases hm:n<mr
   .rw[if_pos hm];refine wpS_bind (wpS_lift (wpAny_rule ⟨rfl,?_⟩));refine wpS_bind (Hn hL h0 Zz Zz B1 Nu fun st2 B2 O2 bS=>?_);rw[if_neg Zx];refine tr ?_ (wN hL h0 ⟨B2,by rw[O2.pend];exact S1.ch.same fun k _ k2=>O2.out k (.inl k2),S.le⟩ Zz Zz bS fz fun iq S3=>⟨rfl,S3,by dsimp only;lia⟩)
    .skip
     unfold rest;refine bc rfl (funext fun s=>?_)
     cases(pendingOf s).back? with
     |none=>rfl
     |some q=>
      obtain⟨s1,n1,p⟩:=q;refine bc (fi (funext fun x=>funext fun c=>bc rfl (funext fun s=>?_))) (funext fun c=>?_)
      .generalize(if(pendingOf s).size>1 then(pendingOf s)[(pendingOf s).size-2]? else none)=o
       cases o with
       |none=>rfl
       |some r=>
        obtain⟨r1,r2,r3⟩:=r;exact ic rfl (bc rfl (funext fun b=>rfl))
      .obtain⟨r,u⟩:=c;cases r<;>rfl
   .rw[if_neg hm];refine tr ?_ (wN hL h0 S1 n1 Zz Nu fz fun iq S3=>⟨rfl,S3,by dsimp only;lia⟩)
    .skip
     unfold rest;refine bc rfl (funext fun s=>?_)
     cases(pendingOf s).back? with
     |none=>rfl
     |some q=>
      obtain⟨s1,n1,p⟩:=q;refine bc (fi (funext fun x=>funext fun c=>bc rfl (funext fun s=>?_))) (funext fun c=>?_)
      .generalize(if(pendingOf s).size>1 then(pendingOf s)[(pendingOf s).size-2]? else none)=o
       cases o with
       |none=>rfl
       |some r=>
        obtain⟨r1,r2,r3⟩:=r;exact ic rfl (bc rfl (funext fun b=>rfl))
      .obtain⟨r,u⟩:=c;cases r<;>rfl
 .rintro⟨c0,lo⟩ Zq ⟨h1,S,h2⟩;dsimp only at h1 S h2⊢
  have e:lo=ae.size:=by
   have:=S.le;lia
  rw[<-e];exact⟨h1,S⟩
 .rintro⟨c0,lo⟩ Zq ⟨h1,S⟩;dsimp only at h1;subst h1;dsimp only
  have one:∀{Zq:SortSt},St κ ks ae Zq ae.size->(pendingOf Zq).size<=1->Seg κ (arrOf Zq) 0 ae.size:=fun{Zq} S hs=>by
   have c:=S.ch;rw[<-zA9]at hs
   cases e:(pendingOf Zq).toList with
   |nil=>
    rw[e]at c;have c:0=ae.size:=c;intro i j _ _ h3;lia
   |cons r l=>
    rw[e]at c hs
    have l0:l=[]:=by
     cases l with
     |nil=>rfl
     |cons _ _=>rw[zAe,zAe]at hs;lia
    rw[l0]at c;obtain⟨_,_,sg,c4⟩:=c;have c4:0+r.2.1=ae.size:=c4;rw[c4]at sg;exact sg
  have p0:(pendingOf Zq).size<=ae.size:=by
   have:=Ch.le S.ch;rw[zA9]at this;lia
  refine wpS_bind (wpS_mono (wpS_forRange (I:=fun x c st2=>c=(none,())/\St κ ks ae st2 ae.size/\(pendingOf st2).size+x<=ae.size) (Q:=fun c st2=>c=(none,())/\St κ ks ae st2 ae.size/\(pendingOf st2).size<=1) ?_ ?_ ⟨rfl,S,Zz⟩) ?_)
  .rintro x c st2 _ hx ⟨rfl,S2,qE⟩;refine wpS_bind (wpS_get ?_);by_cases h1:(pendingOf st2).size<=1
   .rw[zAy h1];exact wpS_pure ⟨rfl,S2,h1⟩
   .rw[zAv h1];have hz:2<=(pendingOf st2).size:=Zz
    refine wpS_bind (ur hL h0 S2 (Nat.lt_of_le_of_lt (Nat.succ_le_succ (ifl _ _)) (show(pendingOf st2).size-2+1<(pendingOf st2).size by lia)) fun iq S3 z3 _=>?_);rw[zAv Zx];exact wpS_pure ⟨rfl,S3,Zz⟩
  .rintro c st2 ⟨rfl,S2,qE⟩;exact⟨rfl,S2,Zz⟩
  .rintro c st2 ⟨rfl,S2,qE⟩;exact wpS_pure (h st2 S2.base (one S2 qE))
end
end Srt
namespace L2
open PySem PySem.Spec PyProof.Rows PySem.Calls
theorem rM:∀a:List Int,HT.lexLt a a=false
 |[]=>rfl
 |x::xs=>by
  rw[HT.lexLt_cons,zAy rfl];exact rM xs
theorem mD:∀a b:List Int,HT.lexLt a b=false->HT.lexLt b a=false->a=b
 |[],[],_,_=>rfl
 |[],_::_,h,_=>by cases h
 |_::_,[],_,h=>by cases h
 |x::xs,y::ys,h1,h2=>by
  rw[HT.lexLt_cons]at h1 h2;by_cases e:x=y
  .subst e;rw[zAy rfl]at h1 h2;rw[mD xs ys h1 h2]
  .rw[zAv e]at h1;rw[zAv (Ne.symm e)]at h2;have h1:=of_decide_eq_false h1;have h2:=of_decide_eq_false h2;lia
theorem rN:∀a b c:List Int,HT.lexLt a b=true->HT.lexLt b c=true->HT.lexLt a c=true
 |[],[],_,h,_=>by cases h
 |[],_::_,[],_,h=>by cases h
 |[],_::_,_::_,_,_=>rfl
 |_::_,[],_,h,_=>by cases h
 |_::_,_::_,[],_,h=>by cases h
 |x::xs,y::ys,z::zs,h1,h2=>by
  rw[HT.lexLt_cons]at h1 h2⊢;by_cases e1:x=y
  .subst e1;rw[zAy rfl]at h1;by_cases e2:x=z
   .subst e2;rw[zAy rfl]at h2⊢;exact rN xs ys zs h1 h2
   .rw[zAv e2]at h2⊢;exact h2
  .rw[zAv e1]at h1;have h1:=zB8 h1;by_cases e2:y=z
   .subst e2;rw[zAv e1];exact zAt h1
   .rw[zAv e2]at h2;have h2:=zB8 h2;rw[zAv Zz];exact zAt Zz
theorem wO(a b c:List Int)(h:HT.lexLt a c=true):HT.lexLt a b=true\/HT.lexLt b c=true:=by
 cases e1:HT.lexLt a b with
 |true=>exact .inl rfl
 |false=>
  cases e2:HT.lexLt b a with
  |true=>exact .inr (rN b a c e2 h)
  |false=>exact .inr (by rw[<-mD a b e1 e2];exact h)
def Er(ads:List Addr)(row:Addr->List Int):PyProof.Rows.KeyKind where
 α:=List Int
 blt:=HT.lexLt
 irrefl:=rM
 trans:=rN
 negTrans:=wO
 total:=mD
 keyOf:=fun u=>match u with
  |.ref a=>if ads.contains a=true then some (row a)else none
  |_=>none
 dflt:=[]
section
open PySem.W
variable{prog:Program}{w:World}{A:Around}{E:Value->Shared->Prop}{s:Shared}
theorem Bg{Q:Bool->Shared->Prop}:∀{ns ms:List Int} {us vs:List Value} {i:Nat},Vals (ns.map V.int) us->Vals (ms.map V.int) vs->Q (HT.lexLt ns ms) s->KatLex prog w A true (decide (ns.length<ms.length)) Q (us.zip vs) i s
 |[],[],_,_,_,.nil,.nil,h=>h
 |[],_::_,_,_,_,.nil,.cons _ _,h=>by
  refine kat_nil ?_;rw[decide_eq_true Zy];exact h
 |_::_,[],_,_,_,.cons _ _,.nil,h=>by
  refine kat_nil ?_;rw[decide_eq_false Zy];exact h
 |x::ns,y::ms,_,_,i,.cons r1 t1,.cons r2 t2,h=>by
  obtain⟨k1,rfl⟩:=r1;obtain⟨k2,rfl⟩:=r2;rw[HT.lexLt_cons]at h;refine kat_cons (wpAny_eqBool_int ?_);by_cases e:x=y
  .subst e;rw[zAy rfl]at h;rw[show(x==x)=true from beq_self_eq_true x];refine kat_yes ?_;have:=Bg (i:=i+1) t1 t2 h;rw[show decide ((x::ns).length<(x::ms).length)=decide (ns.length<ms.length) by rw[zAe,zAe];exact decide_eq_decide.mpr Zz];exact this
  .rw[zAv e]at h;rw[show(x==y)=false from beq_false_of_ne e];refine kat_no ?_
   cases hi:(true&&i==0)with
   |true=>exact oneLt_int h
   |false=>exact kat_one _ _ (lt_int h)
theorem Es{x y:Addr}{ox oy:Obj}{nx ny:Nat}{ns ms:List Int}{us vs:List Value}{Q:Bool->Shared->Prop}(hx:s.heap.get? x=some ox)(dx:ox.data=.seq us.toArray nx)(hy:s.heap.get? y=some oy)(dy:oy.data=.seq vs.toArray ny)
  (r1:Vals (ns.map V.int) us) (r2:Vals (ms.map V.int) vs) (h:Q (HT.lexLt ns ms) s):wpAny (model prog w) A (keyLt' (tuples' true) (.ref x) (.ref y)) Q E s:=by
 refine kat_lt hx dx hy dy ?_;have l1:=r1.length;have l2:=r2.length;rw[zA1]at l1 l2;have:=Bg (prog:=prog) (w:=w) (A:=A) (s:=s) (Q:=Q) (i:=0) r1 r2 h;rw[zA8,zA8,<-l1,<-l2];exact this
theorem Et{l:Addr}{vs:List Value}{Q:Value->Shared->Prop}{R:List Value->Prop}(lst:s.heap.IsList l vs.toArray)(fits:vs.length<=sizeLine)(small:vs.length<2->R vs)
  (big:2<=vs.length->∀g,(∀b o,s.heap.get? b=some o->g.get? b=some o)->wpAny (model prog w) A.in1.in1 (keyKind' vs.toArray) (fun κ s1=>s1={s with heap:=g} /\
    wpS (model prog w) A.in1.in1 (fun _ _=>False) {s with heap:=g} sortRuns' (fun _ st=>failedOf st=none/\∃out,(arrOf st).map (·.2)=List.toArray out/\R out) (SortSt.mk' κ (vs.toArray.zip vs.toArray) #[] 7 none)) (fun _ _=>False) {s with heap:=g})
  (len:∀out,R out->out.length=vs.length)
  (fin:∀out,R out->∀h2 c,(∀b o,s.heap.get? b=some o->h2.get? b=some o)->h2.get? (s.heap.objs.size+1)=some (seqObj "list" out.toArray c)->Q (.ref (s.heap.objs.size+1)) {s with heap:=h2}):
  wpAny (model prog w) A (call (.builtin "sorted") [.ref l]) Q E s:=by
 refine call_function_entry kind_sorted plain_sorted entry_sorted (args_sorted1 _) ?_;unfold Builtin.«sorted»;refine zAu (m:=checkCount "sorted" 1 1 _) (zAz (zAu (collect_list lst ?_ fits)));refine zAu (wpAny_newList ?_ fits);have lh:((s.heap.push (seqObj "list" #[] 0)).update s.heap.objs.size (Obj.mapSeq (·++vs.toArray))).objs.size=s.heap.objs.size+1:=by rw[Heap.size_update,Heap.size_push]
 obtain⟨g1,nX⟩:∃g1,g1=((s.heap.push (seqObj "list" #[] 0)).update s.heap.objs.size (Obj.mapSeq (·++vs.toArray))).push (seqObj "list" vs.toArray 0):=⟨_,rfl⟩
 have mP:g1.get? (s.heap.objs.size+1)=some (seqObj "list" vs.toArray 0):=by rw[nX,<-lh];exact zB2 _ rfl
 have IE:∀b o,s.heap.get? b=some o->g1.get? b=some o:=fun b o q=>by
  have lt:b<s.heap.objs.size:=zB1 q;rw[nX,Heap.get?_push_ne _ _ _ (by rw[lh];exact zB9 (Nat.lt_succ_of_lt lt)),Heap.get?_update_ne _ _ _ _ (zB9 lt),Heap.get?_push_ne _ _ _ (zB9 lt)];exact q
 show wpAny _ _ _ _ _ {s with heap:=_};rw[lh,show((s.heap.push (seqObj "list" #[] 0)).update s.heap.objs.size (Obj.mapSeq (·++vs.toArray))).push (seqObj "list" vs.toArray 0)=g1 from nX.symm];refine zAu (wpAny_holding (wpAny_call_entry slot_list_sort ⟨_,mP,rfl⟩ entry_list_sort ?body (args_list_sort _)))
 obtain⟨D,eD⟩:∃D,D=s.heap.objs.size+1:=⟨_,rfl⟩
 rw[<-eD]at mP fin⊢
 have apart:∀b o,s.heap.get? b=some o->b≠D:=fun b o q e=>by
  have lt:b<s.heap.objs.size:=zB1 q;rw[e,eD]at lt;exact absurd lt (Nat.not_lt_of_le (Nat.le_succ _))
 obtain⟨g2,oj⟩:∃g2,g2=g1.update D (Obj.mapSeq fun _=>(#[]:Array Value)):=⟨_,rfl⟩
 have IF:Heap.SameBut D g1 g2:=oj▸Heap.SameBut.update g1 D _
 obtain⟨e1,at2⟩:∃e1,g2.get? D=some (seqObj "list" #[] e1):=⟨_,oj▸get?_update_seq mP fun _=>#[]⟩
 obtain⟨g3,va⟩:∃g3,g3=(g2.push (seqObj "tuple" vs.toArray 0)).push (seqObj "list" #[] 0):=⟨_,rfl⟩
 have jS:g3.get? D=some (seqObj "list" #[] e1):=va▸Heap.get?_push_of_some _ (Heap.get?_push_of_some _ at2);have vb:∀b o,s.heap.get? b=some o->g3.get? b=some o:=fun b o q=>va▸Heap.get?_push_of_some _ (Heap.get?_push_of_some _ ((IF.2 b (apart b o q)).trans (IE b o q)));rw[list_sort_plain];refine wpAny_bind (listItems_at mP rfl (wpAny_bind (listUpdate_at mP rfl ?_ (by rw[zA8];exact fits) (zAp _))));rw[<-oj];refine wpAny_bind (seqEpoch_at at2 rfl (wpAny_bind (wpAny_newTuple (wpAny_bind (wpAny_newList (wpAny_holding ?_) (zAp _))) fits)));show wpAny (model prog w) A.in1.in1 _ _ _ {s with heap:=(g2.push (seqObj "tuple" vs.toArray 0)).push (seqObj "list" #[] 0)};rw[<-va];dsimp only;by_cases two:vs.toArray.size<2
 .have gN:vs.length<2:=by rw[zA8]at two;exact two
  rw[if_pos two,if_pos two];refine wpAny_bind (wpAny_pure ?_);show wpAny _ _ (do let r <-(pure ((),SortSt.mk' general' (vs.toArray.zip vs.toArray) #[] 7 none):Sem (Unit×SortSt));_) _ _ _;refine wpAny_bind (wpAny_pure ?_);dsimp only
  have em:(vs.toArray.zip vs.toArray).map (·.2)=vs.toArray:=by
   apply Array.toList_inj.mp;simp only[Array.toList_map,Array.toList_zip];exact List.map_snd_zip (zA3 _)
  rw[em];refine wpAny_bind (seqEpoch_at jS rfl (wpAny_bind (listUpdate_at jS rfl ?_ (zAp _) (by rw[zA8];lia))));simp only[bne_self_eq_false,Bool.false_eq_true,if_false];have vc:=Heap.SameBut.update g3 D (Obj.mapSeq fun _=>vs.toArray);exact wpAny_pure ⟨_,rfl,wpAny_pure ⟨_,rfl,fin vs (small gN) _ _ (fun b o z=>(vc.2 b (apart b o z)).trans (vb b o z)) (get?_update_seq jS _)⟩⟩
 .have gN:2<=vs.length:=by rw[zA8]at two;lia
  rw[if_neg two,if_neg two];refine wpAny_bind (wpAny_mono (big gN g3 vb) (fun κ s1 ⟨jI,run⟩=>?_) fun _ _ x=>x.elim);subst jI;refine wpAny_bind (wpAny_mono run ?_ fun _ _ x=>x.elim);rintro⟨⟨⟩,st⟩ s2 ⟨IG,BB,out,lI,hR⟩;subst IG;dsimp only at BB lI⊢;rw[lI];refine wpAny_bind (seqEpoch_at jS rfl (wpAny_bind (listUpdate_at jS rfl ?_ (zAp _) (by rw[zA8,len out hR];lia))));rw[BB];simp only[bne_self_eq_false,Bool.false_eq_true,if_false];have vc:=Heap.SameBut.update g3 D (Obj.mapSeq fun _=>out.toArray);exact wpAny_pure ⟨_,rfl,wpAny_pure ⟨_,rfl,fin out hR _ _ (fun b o z=>(vc.2 b (apart b o z)).trans (vb b o z)) (get?_update_seq jS _)⟩⟩
theorem nQ{g:Heap}{ads:List Addr}{row:Addr->List Int}:∀{l:List Addr},(∀a∈l,∃(us:List Value) (o:Obj) (n:Nat),g.get? a=some o/\o.cls=.type "tuple"/\o.data=.seq us.toArray n/\Vals ((row a).map V.int) us/\row a≠[])->∃fs,KatTups g (l.map Value.ref) fs/\fs.length=l.length/\∀v∈fs,∃i t,v=.int i t
 |[],_=>⟨[],.nil,rfl,fun _ h=>absurd h Zy⟩
 |a::l,h=>by
  obtain⟨us,o,n,h1,h2,h3,h4,h5⟩:=h a (.head _);obtain⟨fs,k,hl,hi⟩:=nQ (ads:=ads) (row:=row) (l:=l) fun b hb=>h b (.tail _ hb)
  cases er:row a with
  |nil=>exact absurd er h5
  |cons i r=>
   rw[er]at h4
   cases h4 with
   |cons r1 t1=>
    obtain⟨t,rfl⟩:=r1;refine⟨_,.cons h1 h2 h3 (f:=.int i t) Zy k,by rw[List.length_cons,List.length_cons,hl],fun v hv=>?_⟩;rcases zAo.mp hv with z|z
    .exact⟨i,t,z⟩
    .exact hi v z
theorem wQ{l:List Addr}{row:Addr->List Int}{Q:SortKind->Shared->Prop}(obj:∀a∈l,∃(us:List Value) (o:Obj) (n:Nat),s.heap.get? a=some o/\o.cls=.type "tuple"/\o.data=.seq us.toArray n/\Vals ((row a).map V.int) us/\row a≠[])(hl:0<l.length)(h:Q (tuples' true) s):
  wpAny (model prog w) A (keyKind' (l.map Value.ref).toArray) Q E s:=by
 obtain⟨fs,kt,fl,fi⟩:=nQ (ads:=l) (row:=row) obj;refine PySem.W.kat_kind (T:=.type "int") kt (by rw[fl];exact hl) (fun v hv=>?_) Zx h;obtain⟨i,t,rfl⟩:=fi v hv;exact .now
theorem vq{l:List Addr}{row:Addr->List Int}(obj:∀a∈l,∃(us:List Value) (o:Obj) (n:Nat),s.heap.get? a=some o/\o.cls=.type "tuple"/\o.data=.seq us.toArray n/\Vals ((row a).map V.int) us/\row a≠[]):
  Srt.LtAll prog w A E s (Er l row) (tuples' true):=fun st hk x y a b Q' ka kb hQ=>by
 obtain⟨x1,x2⟩:=x;obtain⟨y1,y2⟩:=y
 cases x1 with
 |ref xa=>
  cases y1 with
  |ref ya=>
   have ka:(if l.contains xa=true then some (row xa)else none)=some a:=ka;have kb:(if l.contains ya=true then some (row ya)else none)=some b:=kb;by_cases c1:l.contains xa=true
   .rw[zAy c1]at ka;by_cases c2:l.contains ya=true
    .rw[if_pos c2]at kb;cases ka;cases kb;obtain⟨Wu,o1,n1,g1,_,d1,r1,_⟩:=obj xa (by simpa using c1);obtain⟨Wv,o2,n2,g2,_,d2,r2,_⟩:=obj ya (by simpa using c2);rw[lt'_eq];refine wpS_bind (wpS_get ?_);rw[hk];refine wpS_bind (wpS_lift (wpAny_attempt (Es g1 d1 g2 d2 r1 r2 ⟨rfl,?_⟩)));exact wpS_pure hQ
    .rw[zAv c2]at kb;cases kb
   .rw[zAv c1]at ka;cases ka
  |_=>cases kb
 |_=>cases ka
theorem ut(l:List Addr):((l.map Value.ref).toArray.zip (l.map Value.ref).toArray).toList=l.map fun a=>(Value.ref a,Value.ref a):=by
 rw[Array.toList_zip];show(l.map Value.ref).zip (l.map Value.ref)=_;rw[List.zip_map']
theorem qj(l:List Addr)(row:Addr->List Int):KeysOf (Er l row) ((l.map Value.ref).toArray.zip (l.map Value.ref).toArray):=fun z dP=>by
 rw[ut]at dP;obtain⟨a,ha,rfl⟩:=zA5.mp dP;refine⟨row a,?_⟩;show(if l.contains a=true then some (row a)else none)=some (row a);rw[if_pos (by simpa using ha)]
def Bh(p:Keyed):Addr:=match p.1 with
 |.ref a=>a
 |_=>0
theorem uv{l:List Addr}{row:Addr->List Int}{a:Addr}(h:a∈l):Srt.key (Er l row) (Value.ref a,Value.ref a)=row a:=by
 show(if l.contains a=true then some (row a)else none).getD []=row a;rw[if_pos (by simpa using h)];rfl
theorem qm{l:List Addr}{row:Addr->List Int}(obj:∀a∈l,∃(us:List Value) (o:Obj) (n:Nat),s.heap.get? a=some o/\o.cls=.type "tuple"/\o.data=.seq us.toArray n/\Vals ((row a).map V.int) us/\row a≠[]){Q:Unit->SortSt->Prop}
  (h:∀st (l':List Addr),failedOf st=none->(arrOf st).map (·.2)=List.toArray (l'.map Value.ref)->l'.Perm l->l'.Pairwise (fun a b=>HT.lexLt (row b) (row a)=false)->Q () st):
  wpS (model prog w) A E s sortRuns' Q (SortSt.mk' (tuples' true) ((l.map Value.ref).toArray.zip (l.map Value.ref).toArray) #[] 7 none):=by
 refine Srt.runs_wp (κ:=Er l row) (ks:=tuples' true) (vq obj) (qj l row) ⟨rfl,rfl,.refl _⟩ rfl fun Zq B sg=>?_;have yY:=Array.perm_iff_toList_perm.mp B.pm;rw[ut]at yY
 have e:(arrOf Zq).toList=((arrOf Zq).toList.map Bh).map (fun a=>(Value.ref a,Value.ref a)):=by
  rw[zAr]
  conv=>lhs;rw[<-List.map_id (arrOf Zq).toList]
  refine List.map_congr_left fun z dP=>?_;obtain⟨a,ha,rfl⟩:=zA5.mp (yY.mem_iff.mp dP);rfl
 have pm:((arrOf Zq).toList.map Bh).Perm l:=by
  have:=yY.map Bh;rw[zAr]at this;rw[show(Bh∘fun a=>(Value.ref a,Value.ref a))=id from rfl,List.map_id]at this;exact this
 generalize(arrOf Zq).toList.map Bh=l' at e pm;refine h Zq l' B.ok ?_ pm ?_
 .apply Array.toList_inj.mp;rw[Array.toList_map,e,zAr];rfl
 .have ka:=Srt.keys_perm (qj l row) B.pm;have:=Srt.pw_of_seg ka (by rw[B.size];exact zA3 _) sg;rw[List.drop_zero,<-B.size,<-zA9,zAm,e,List.pairwise_map]at this;refine this.imp_of_mem fun{a b} ha hb hle=>?_;unfold Srt.leK at hle;rw[uv (pm.mem_iff.mp ha),uv (pm.mem_iff.mp hb)]at hle;exact hle
end
section
variable{X:Cx}
theorem qp:∀{l:List Addr} {us:List Value},Vals (l.map V.ref) us->us=l.map Value.ref
 |[],_,.nil=>rfl
 |a::l,_,.cons r t=>by
  rw[qp t,show _=Value.ref a from r];rfl
theorem rO:∀(l:List Addr),Vals (l.map V.ref) (l.map Value.ref)
 |[]=>.nil
 |_::l=>.cons rfl (rO l)
theorem uw{α:Type}{R:α->α->Prop}:∀{l:List α},l.length<2->l.Pairwise R
 |[],_=>.nil
 |[_],_=>List.pairwise_singleton _ _
 |_::_::_,h=>absurd h Zy
theorem dI:dU X (.builtin "sorted") (fun xs H Q=>∃(p:Addr) (l:List Addr) (row:Addr->List Int),xs=[.ref p]/\SqL X.K H p (l.map V.ref)/\(∀a∈l,SqT X.K H a ((row a).map V.int)/\row a≠[]) /\
  ∀(q:Addr) (l':List Addr),H q=none->q≠sysModules->l'.Perm l->l'.Pairwise (fun a b=>HT.lexLt (row b) (row a)=false)->Q (.ref q) (upd H q (.lst (l'.map V.ref)))):=by
 intro Zt s σ H xs us Q I r h;obtain⟨p,l,row,rfl,hp,ve,q⟩:=h;obtain⟨u,rfl,ru⟩:=vals1 r;cases ru;obtain⟨Zr,rv,pl,hz⟩:=I.list hp;have ei:=qp rv;subst ei
 have hlen:(l.map Value.ref).length<=sizeLine:=by
  rw[zA1]at hz⊢;exact hz
 have obj:∀a∈l,∃(us:List Value) (o:Obj) (n:Nat),s.heap.get? a=some o/\o.cls=.type "tuple"/\o.data=.seq us.toArray n/\Vals ((row a).map V.int) us/\row a≠[]:=fun a ha=>by
  obtain⟨ht,fE⟩:=ve a ha;obtain⟨as,ra,pa,_⟩:=I.tuple ht;obtain⟨oa,ga,ca,na,da⟩:=pa;exact⟨as,oa,na,ga,ca,da,ra,fE⟩
 refine Et (R:=fun out=>∃l':List Addr,out=l'.map Value.ref/\l'.Perm l/\l'.Pairwise fun a b=>HT.lexLt (row b) (row a)=false) pl.isList hlen (fun hs=>⟨l,rfl,.refl _,?_⟩) (fun hb g kp=>?_) (fun out ⟨l',e,pm,_⟩=>by rw[e,zA1,zA1,pm.length_eq]) fun out ⟨l',e,pm,pw⟩ h2 c BD at2=>?_
 .rw[zA1]at hs;exact uw hs
 .have lP:∀a∈l,∃(us:List Value) (o:Obj) (n:Nat),g.get? a=some o/\o.cls=.type "tuple"/\o.data=.seq us.toArray n/\Vals ((row a).map V.int) us/\row a≠[]:=fun a ha=>by
   obtain⟨us,o,n,h1,h2⟩:=obj a ha;exact⟨us,o,n,kp _ _ h1,h2⟩
  refine wQ (s:={s with heap:=g}) lP (by rw[zA1]at hb;lia) ?_;refine⟨rfl,qm (s:={s with heap:=g}) lP fun st l' e1 e2 e3 e4=>⟨e1,l'.map Value.ref,e2,l',rfl,e3,e4⟩⟩
 .subst e;exact⟨.ref (s.heap.objs.size+1),_,I.laid (t':=s.toks) BD (Nat.le_succ _) (show ObjOk X.prog X.w _ h2 _ (.lst (l'.map V.ref))from⟨by rw[zA1,pm.length_eq];rw[zA1]at hz;exact hz,_,c,rO l',at2⟩),rfl,q _ l' (I.hok.fresh (Nat.le_succ _)) (Nat.ne_of_gt (zB6 I.big (Nat.le_succ _))) pm pw⟩
theorem rP:dU X (.builtin "sorted") (fun xs H Q=>∃(p:Addr) (l:List Addr) (row:Addr->List Int),xs=[.ref p]/\SqL X.K H p (l.map V.ref)/\(∀a∈l,SqT X.K H a ((row a).map V.int)/\row a≠[]) /\
  ∀(q:Addr) (l':List Addr),H q=none->l'.Perm l->l'.Pairwise (fun a b=>HT.lexLt (row b) (row a)=false)->Q (.ref q) (upd H q (.lst (l'.map V.ref)))):=by
 intro Zt s σ H xs us Q I r h;obtain⟨p,l,row,e,hp,ve,q⟩:=h;exact dI Zt s σ H xs us Q I r ⟨p,l,row,e,hp,ve,fun q' l' a _ b c=>q q' l' a b c⟩
end
section
variable{X:Cx}
theorem ph(hc:X.calm=true):dU X (.builtin "max") (fun xs H Q=>∃(p:Addr) (ns:List Int),xs=[.ref p]/\SqL X.K H p (ns.map V.int)/\ns≠[]/\∀M,M∈ns->(∀a∈ns,a<=M)->Q (.int M) H):=by
 intro Zt s σ H xs us Q I r h;obtain⟨p,ns,rfl,hq,fE,q⟩:=h;obtain⟨u,rfl,ru⟩:=vals1 r;cases ru;obtain⟨Zr,rv,pl,hz⟩:=I.list hq;have hi:IntsAre Zr ns:=intsAre_of rv;obtain⟨zs,ez⟩:=(hi.allInts:AllInts Zr.toArray).items;have en:numsOf Zr=ns:=hi.numsOf;have hl:s.heap.IsList p (intItems zs):=ez▸pl.isList
 have aE:0<zs.size:=by
  have e1:(intItems zs).size=Zr.length:=by rw[<-ez,zA8]
  have e2:=rv.length;rw[zA1]at e2;have e3:0<ns.length:=List.length_pos_iff.mpr fE;simp only[intItems,Array.size_map]at e1;lia
 have hn:numsOf (intItems zs).toList=ns:=by rw[<-ez];exact en
 refine max_intList (I.ok.hd hc) hl aE fun v h' tk hv hk=>?_;obtain⟨t,rfl⟩:=intItems_at hv;obtain⟨h1,h2⟩:=argBest_gt (numAt zs) (zs.size-1);rw[nums_intItems]at hn;refine⟨.int _,H,I.kept (t':=tk) hk,⟨t,rfl⟩,q _ ?_ fun a ha=>?_⟩
 .rw[<-hn,numAt_eq];exact getD_mem (by rw[zA1,zA9];lia)
 .rw[<-hn]at ha;obtain⟨j,hj,rfl⟩:=mem_getD ha;rw[zA1,zA9]at hj;rw[<-numAt_eq];exact h2 j Zz
def isK(k:Int):Value->Bool
 |.int n _=>n==k
 |_=>false
theorem mF:∀{ns:List Int} {us:List Value} {i:Nat} {u:Value},Vals (ns.map V.int) us->us[i]?=some u->∃n t,ns[i]?=some n/\u=.int n t
 |[],_,i,u,.nil,h=>by simp at h
 |n::ns,_,0,u,.cons r t,h=>by
  obtain⟨k,rfl⟩:=r;simp at h;exact⟨n,k,rfl,h.symm⟩
 |n::ns,_,i+1,u,.cons r t,h=>mF (i:=i) t (by simpa using h)
inductive RIndexI(x:V)(vs:List V)(H:Hp)(Q:VK):Prop
 |mk:∀(l:Addr) (ns:List Int) (k:Int) (j:Nat),(x=.ref l)->(vs=[.int k])->(H l=some (.lst (ns.map V.int)))->(ns[j]?=some k)->((∀i,i<j->ns[i]?≠some k))->(Q (.int j) H)->RIndexI  x vs H Q
def Ho:V->List V->Hp->VK->Prop:=fun x vs H Q=>RIndexI  x vs H Q
theorem Bj:MtM X "list.index" Ho:=by
 intro Zt s σ H x vs v us Q I rx rv h;obtain⟨l,ns,k,j,rfl,rfl,hH,hj,F5,q⟩:=h;cases rx;obtain⟨u,rfl,t,rfl⟩:=vals1 rv;obtain⟨z,Zr,n,r,hl,e⟩:=I.lstM hH;have hlen:=r.length;rw[zA1]at hlen
 have IH:j<Zr.length:=by
  have:=(zAa.mp hj).1;lia
 have hz:Zr.length<=sizeLine:=by
  rw[zA1]at z;lia
 rw[sizeLine_eq]at hz;refine call_meets F.slot_list_index ⟨_,e,rfl⟩ F.entry_list_index (F.args_list_index_2 _ _) (MeetsSeq.list_index l Zr.toArray n (.int k t) (isK k) (fun y hy=>?_) j (by rw[zA8];exact IH) Zz ?_ fun m hm ax=>?_) ⟨e,?_⟩
 .obtain⟨i,hi,rfl⟩:=Array.getElem_of_mem hy;obtain⟨n',t',e1,e2⟩:=mF r (i:=i) (u:=Zr.toArray[i]) (by rw[List.size_toArray]at hi;simp[hi]);rw[e2];exact MeetsSeq.EqGives.int n' k t' t
 .obtain⟨n',t',e1,e2⟩:=mF r (i:=j) (u:=Zr.toArray[j]'(by rw[List.size_toArray];exact IH)) (by simp[IH]);rw[e2];rw[hj]at e1;cases e1;exact beq_self_eq_true k
 .obtain⟨n',t',e1,e2⟩:=mF r (i:=m) (u:=Zr.toArray[m]) (by rw[List.size_toArray]at hm;simp[hm]);rw[e2];refine beq_false_of_ne fun c=>F5 m ax ?_;rw[e1,c]
 .exact⟨.int j,H,I.tok _,⟨_,rfl⟩,q⟩
end
theorem yQ{M:Model}{A:Around}{E:Value->Shared->Prop}{s:Shared}{a b:Value}{Q:Value->Shared->Prop}(ha:s.TypeIs a "list")(hb:s.TypeIs b "list")(hc:wpAny M A (call (.builtin "list.__iadd__") [a,b]) Q E s):wpAny M A (inplaceOp .Add a b) Q E s:=by
 unfold inplaceOp;refine wpAny_holding ?_;have hl:typeLookup (.type "list") (dunderI "add")=pure (some (.builtin "list.__iadd__")):=F.slot_list_iadd.lookup
 have Qt:fillsInplaceSlot (.type "list") "add" (Operator.Add==.Add)=pure false:=by
  unfold fillsInplaceSlot;show(typeLookup (.type "list") (dunderI "add")>>=fun fi=>pure (fi.isSome&&!isSeqSlot fi))=pure false;rw[hl];have:isSeqSlot (some (.builtin "list.__iadd__"))=true:=by decide +kernel
  show(pure (true&&!isSeqSlot (some (.builtin "list.__iadd__"))):Sem Bool)=_;rw[this];rfl
 have Nv:seqSlot? (.type "list") (dunderI "add")=pure (some (.builtin "list.__iadd__")):=PySem.seqSlot_of F.slot_list_iadd.lookup Zv;refine zAu (wpAny_typeOf ha (zAu (wpAny_of_eq Qt ?_)));show wpAny M A (if false=true then _ else _) Q E s;rw[zAv zAg];refine zAu (wpAny_binaryOp1_none (nm:="add") ha hb noFill_list_add ?_);refine zAu (wpAny_of_eq Nv ?_);exact zAu (wpAny_rule hc)
inductive RICatI(x:V)(y:V)(H:Hp)(Q:VK):Prop
 |mk:∀l b xs zs,(x=.ref l)->(y=.ref b)->(H l=some (.lst xs))->(H b=some (.lst zs))->(xs.length+zs.length<=sizeLine)->(Q (.ref l) (upd H l (.lst (xs++zs))))->RICatI  x y H Q
def Jm:TIp:=fun x y H Q=>RICatI  x y H Q
theorem kI{X:Cx}:PIp X .Add Jm:=by
 intro Zt s σ H x y v u Q I rx ru h;obtain⟨l,b,xs,zs,rfl,rfl,hH,hB,hz,q⟩:=h;cases rx;cases ru;obtain⟨z,Zr,n,r,hl,e⟩:=I.lstM hH;obtain⟨z2,bE,n2,r2,eW,e2⟩:=I.lstM hB;have hsz:Zr.toArray.size+bE.toArray.size<=sizeLine:=by rw[zA8,zA8];lia
 have fe:¬(!Zr.toArray.isEmpty&&Builtin.List.listTooLong (Zr.toArray.size+bE.toArray.size))=true:=by
  rw[jC hsz,Bool.and_false];exact zAg
 refine yQ ⟨_,e,rfl⟩ ⟨_,e2,rfl⟩ (call_meets F.slot_list_iadd ⟨_,e,rfl⟩ F.entry_list_iadd (F.args_list_iadd_2 _ _)
  (AutoSeq1.list___iadd___list_list_0 l Zr.toArray n b bE.toArray n2 fe (by rw[zA8];lia) Zz) ⟨e,e2,?_⟩)
 refine⟨.ref l,_,I.lset (its':=Zr++bE) hH e Zy (r.append r2) ?_,rfl,q⟩;rw[zA2];lia
section
variable{prog:Program}{w:World}{A:Around}{E:Value->Shared->Prop}{s:Shared}{d it:Addr}{o:Obj}{es:Array DictEntry}{ep i:Nat}
theorem wR{R:Value->Shared->Prop}(n1:(d==sysModules)=false)(g1:s.heap.get? d=some o)(g2:o.ExactDict)(g3:o.data=.dict es ep)
  (q:R (.ref s.heap.objs.size) {s with heap:=s.heap.push {cls:=.type "dict_keyiterator",data:=.fields #[.ref d,.int 0 0,.int es.size 0,.int ep 0]}}):wpAny (model prog w) A (pyIter (.ref d)) R E s:=by
 have ty:s.TypeIs (.ref d) "dict":=⟨o,g1,g2.1⟩
 refine wpAny_pyIter_slot ty F.slot_dict_iter (wpAny_call_entry F.slot_dict_iter ty F.entry_dict_iter ?_ (F.args_dict_iter_1 _));unfold Builtin.«dict.__iter__»;refine zAu ?_;unfold Builtin.Dict.dictSlotNone;refine zAu (wpAny_notOrdered_dict ty (show wpAny _ _ (pure (Value.ref d)) _ _ s from zAz ?_));show wpAny (model prog w) _ (Builtin.Dict.showsAll d>>=_) _ E s;unfold Builtin.Dict.showsAll;rw[n1,zAv zAg];refine zAu (zAz (zAu (wpAny_dictEntries g1 g3 (zAu (wpAny_dictEpoch g1 g3 ?_)))));refine zAu (wpAny_newObj_type (zAz ⟨_,rfl,"dict_keyiterator",_,⟨_,zB2 _ rfl,rfl⟩,F.slot_dict_keyiterator_next.lookup,?_⟩));exact q
theorem wU{e:DictEntry}{R:Option Value->Shared->Prop}(st:s.heap.IsKeyIter it d i es.size ep)(g1:s.heap.get? d=some o)(g3:o.data=.dict es ep)(hx:es[i]?=some e)
  (q:∀h',h'.IsKeyIter it d (i+1) es.size ep->Heap.SameBut it s.heap h'->R (some e.key) {s with heap:=h'}):wpAny (model prog w) A (pyNext (.ref it)) R E s:=by
 obtain⟨oi,i1,i2,i3⟩:=id st;have hb:i<es.size:=(Array.getElem?_eq_some_iff.mp hx).1;unfold pyNext;refine zAu (wpAny_attempt (wpAny_callSpecial?_slot (name:=Str.ofString "__next__") st.typeIs F.slot_dict_keyiterator_next (wpAny_call_entry F.slot_dict_keyiterator_next st.typeIs F.entry_dict_keyiterator_next ?_ (F.args_dict_keyiterator_next_1 _))));refine zAu (zAz (zAu (zAu ?_)));refine zAu (wpAny_typeNameOfWhole_keyiter st.typeIs (zAz (zAu (wpAny_fieldsOf i1 i3 ?_))));have ow:Builtin.Dict_items.ownsTuple "dict_keyiterator"=false:=by decide
 simp only[ow,Bool.false_eq_true,if_false];show wpAny (model prog w) _ (if(Value.ref d==Value.none)=true then _ else _) _ _ s;rw[if_neg (show¬(Value.ref d==Value.none)=true from zAg)];refine wpAny_bind (wpAny_pure (wpAny_bind (wpAny_dictEntries g1 g3 ?_)));rw[if_neg Zy];refine wpAny_bind (wpAny_pure (wpAny_bind (wpAny_dictEpoch g1 g3 ?_)));rw[if_neg Zy];refine wpAny_pure ?_;simp only[show¬((i:Int)<0)from by lia,if_false,Int.toNat_natCast,hx];refine wpAny_bind (wpAny_bind (wpAny_typeNameOfWhole_keyiter st.typeIs (wpAny_pure ?_)));refine wpAny_bind (wpAny_isOneOf_keyiter st.typeIs ?_);show wpAny (model prog w) _ (setField (.ref it) 1 (rawInt ((i:Int)+1))>>=_) _ _ s;refine wpAny_bind (wpAny_setField i1 i3 Zy ?_)
 have Zq:(s.heap.update it (Obj.mapFields (·.setIfInBounds 1 (rawInt ((i:Int)+1))))).IsKeyIter it d (i+1) es.size ep:=
  ⟨_,Heap.get?_update_self _ i1 (Obj.isFreed_of_fields (Obj.data_mapFields i3 _)),(Obj.cls_mapFields ..).trans i2,by rw[Obj.data_mapFields i3];simp[rawInt]⟩
 refine zAu (wpAny_holding (zAu (wpAny_isOneOf_keyiter (s:={s with heap:=s.heap.update it (Obj.mapFields (·.setIfInBounds 1 (rawInt ((i:Int)+1))))}) Zq.typeIs ?_)));show wpAny (model prog w) _ (pure e.key) _ _ _;exact zAz (zAz ⟨_,rfl,zAz (q _ Zq (Heap.SameBut.update ..))⟩)
theorem Bk{R:Option Value->Shared->Prop}(hh:A.handled=none)(st:s.heap.IsKeyIter it d i es.size ep)(g1:s.heap.get? d=some o)(g3:o.data=.dict es ep)(hx:es.size<=i)
  (q:∀h',Heap.ExtBut it s.heap h'->R none {s with heap:=h'}):wpAny (model prog w) A (pyNext (.ref it)) R E s:=by
 obtain⟨oi,i1,i2,i3⟩:=id st;unfold pyNext;refine zAu (wpAny_attempt (wpAny_callSpecial?_slot (name:=Str.ofString "__next__") st.typeIs F.slot_dict_keyiterator_next (wpAny_call_entry F.slot_dict_keyiterator_next st.typeIs F.entry_dict_keyiterator_next ?_ (F.args_dict_keyiterator_next_1 _))));refine zAu (zAz (zAu (zAu ?_)));refine zAu (wpAny_typeNameOfWhole_keyiter st.typeIs (zAz (zAu (wpAny_fieldsOf i1 i3 ?_))));have ow:Builtin.Dict_items.ownsTuple "dict_keyiterator"=false:=by decide
 simp only[ow,Bool.false_eq_true,if_false];show wpAny (model prog w) _ (if(Value.ref d==Value.none)=true then _ else _) _ _ s;rw[if_neg (show¬(Value.ref d==Value.none)=true from zAg)];refine wpAny_bind (wpAny_pure (wpAny_bind (wpAny_dictEntries g1 g3 ?_)));rw[if_neg Zy];refine wpAny_bind (wpAny_pure (wpAny_bind (wpAny_dictEpoch g1 g3 ?_)));rw[if_neg Zy];refine wpAny_pure ?_;simp only[show¬((i:Int)<0)from by lia,if_false,Int.toNat_natCast,Array.getElem?_eq_none hx];refine wpAny_bind (wpAny_bind (wpAny_typeNameOfWhole_keyiter st.typeIs (wpAny_pure ?_)));show wpAny (model prog w) _ (setField (.ref it) 0 .none>>=_) _ _ s;refine wpAny_bind (wpAny_setField i1 i3 Zy ?_);show wpAny (model prog w) _ (newExc (.type "StopIteration") []>>=_) _ _ _;refine wpAny_bind ?_;simp only[newExc,newTuple];refine wpAny_bind (wpAny_newObj_type (wpAny_bind (m:=firstArgMember _ _) (wpAny_of_eq (a:=Value.none) (by first|rfl | (simp only[firstArgMember];rfl)) ?_)) (by size_fits));refine wpAny_newObj_type ?_ (by size_fits);simp only[raiseNew];refine wpAny_bind (wpAny_handled ?_);rw[show A.in1.handled=none from hh];refine wpAny_bind (wpAny_pure (wpAny_throw ?_));refine wpAny_bind (wpAny_isInstance (b:=true) (T:="StopIteration") ⟨_,Heap.get?_push_size _ rfl,rfl⟩ isSubtype_stop ?_);exact wpAny_pure (q _ (((Heap.SameBut.update ..).extBut.push _).push _))
end
def Itd(d:Addr)(o:Obj)(Zs:List (List Key×V)):It:=
 ⟨fun i H=>H d=some (.frz o (.dT Zs))/\i<Zs.length,fun i H x H'=>H'=H/\∃b k v,x=.ref b/\Zs[i]?=some (k,v)/\H b=some (.tup (k.map kV)),fun i H=>H d=some (.frz o (.dT Zs))/\Zs.length<=i⟩
theorem KT.get{H:Hp}:∀{Zs:List (List Key×V)} {xs:List (List Key×Addr×Value)} {i:Nat} {k:List Key} {v:V},KT H Zs xs->Zs[i]?=some (k,v)->∃b u,xs[i]?=some (k,b,u)/\H b=some (.tup (k.map kV))
 |_,_,_,_,_,.nil,e=>by simp at e
 |p::_,q::_,0,k,v,.cons r t,e=>by
  rw[List.getElem?_cons_zero]at e;cases e;obtain⟨h1,h2,_⟩:=r;refine⟨q.2.1,q.2.2,?_,h2⟩;rw[List.getElem?_cons_zero];show some q=some (k,q.2.1,q.2.2);rw[show k=q.1 from h1]
 |p::_,q::_,i+1,k,v,.cons r t,e=>by
  rw[List.getElem?_cons_succ]at e;obtain⟨b,u,e1,e2⟩:=KT.get t e;exact⟨b,u,by rw[List.getElem?_cons_succ];exact e1,e2⟩
theorem KT.len{H:Hp}:∀{Zs:List (List Key×V)} {xs:List (List Key×Addr×Value)},KT H Zs xs->xs.length=Zs.length
 |_,_,.nil=>rfl
 |_,_,.cons _ t=>by rw[zAe,zAe,KT.len t]
theorem Inv.frzT{X:Cx}{Zt:List (Addr×Obj)}{σ:St}{H:Hp}{s:Shared}{d:Addr}{o:Obj}{Zs:List (List Key×V)}(I:Inv X Zt σ H s)(e:H d=some (.frz o (.dT Zs))):s.heap.get? d=some o/\o.ExactDict/\(d==sysModules)=false /\
  ∃es ep xs,o.data=.dict es ep/\KT H Zs xs/\es.toList=xs.map (entryOfKey (tupleKind (cC X.prog X.w))):=by
 obtain⟨e0,_,hs,xs,kt,o',es,ep,g1,g2,g3,g4,_⟩:=(show ObjOk X.prog X.w H s.heap d (.frz o (.dT Zs))from I.hok _ _ e)
 rw[e0]at g1;cases g1;exact⟨e0,g2,hs,es,ep,xs,g3,kt,g4⟩
theorem qt{P:Program}{w:World}{H:Hp}{Zs:List (List Key×V)}{xs:List (List Key×Addr×Value)}{es:Array DictEntry}(kt:KT H Zs xs)(e:es.toList=xs.map (entryOfKey (tupleKind (cC P w)))):es.size=Zs.length:=by
 rw[<-zA9,e,zA1,kt.len]
theorem yR{P:Program}{w:World}{K:Frag}{tg:Expr}(d it:Addr)(o:Obj)(Zs:List (List Key×V))(es:Array DictEntry)(ep:Nat)(od:o.data=.dict es ep)(hz:es.size=Zs.length):Turn P w K tg (Itd d o Zs) [it] it (fun i h=>h.IsKeyIter it d i es.size ep) where
 mem:=by simp
 obj:=fun i h st b hb=>by
  have e:b=it:=by simpa using hb
  subst e;obtain⟨o,e,c,d⟩:=st;exact⟨o,e,fun v z=>by rw[d]at z;cases z⟩
 keep:=fun i h h' st k=>st.at fun o e=>k it Zy o e
 item:=by
  intro X hP hw hK hc i Zt s σ H E I hf st hg;subst hP hw hK;obtain⟨hq,hx⟩:=hg;obtain⟨e0,g2,hs,fR,AL,xs,g3,kt,g4⟩:=I.frzT hq;rw[od]at g3;cases g3;obtain⟨b,u,ex,eb⟩:=kt.get (k:=Zs[i].1) (v:=Zs[i].2) (zA0 hx);have ee:es[i]?=some (entryOfKey (tupleKind (cC X.prog X.w)) (Zs[i].1,b,u)):=by rw[entry_at g4,ex];rfl
  obtain⟨f0,f1,f2,f3,f4,f5⟩:=hf it Zy;refine wU st e0 od ee fun h' Zq sb=>?_;have I1:Inv X Zt σ H {s with heap:=h'}:=I.turned (t':=s.toks) (fun b o hb e=>(sb.2 b hb).trans e) f0 f1 f3 f4 f5;obtain⟨o2,e2,c2,d2⟩:=id Zq;exact⟨.ref b,rfl,vU (s:={s with heap:=h'}) e2 c2 d2 Zx ⟨.ref b,H,I1,rfl,⟨rfl,b,Zs[i].1,Zs[i].2,rfl,zA0 hx,eb⟩,Zq,fun b hb=>(hf b hb).1⟩⟩
 done:=by
  intro X hP hw hK hc i Zt s σ H E I hf st hg;subst hP hw hK;obtain⟨hq,hx⟩:=hg;obtain⟨e0,g2,hs,fR,AL,xs,g3,kt,g4⟩:=I.frzT hq;rw[od]at g3;cases g3;obtain⟨f0,f1,f2,f3,f4,f5⟩:=hf it Zy
  exact Bk (I.ok.hd hc) st e0 od Zz fun h' eb=>⟨rfl,I.turned (t':=s.toks) (fun b o hb e=>eb b o hb e) f0 f1 f3 f4 f5⟩
 self:=fun _ _ _ _ _ st h=>wpAny_pyIter_keyiter st h
section
variable{X:Cx}{tg:Expr}
def Jo(tl:TE):TI:=fun σ H R=>tl σ H fun x H1=>∃d o Zs,x=.ref d/\H1 d=some (.frz o (.dT Zs))/\R (Itd d o Zs) H1
theorem rQ{l:Expr}{tl:TE}(hl:PE X l tl):PI X tg l (Jo tl):=by
 intro Zt s σ H R I h;refine thn (hl Zt s σ H _ I h) fun v s1 ⟨x,H1,I1,r1,q1⟩=>?_;obtain⟨d,o,Zs,e,hq,q⟩:=q1;subst e;cases r1;obtain⟨e0,g2,hs,es,ep,xs,g3,kt,g4⟩:=I1.frzT hq;refine wR hs e0 g2 g3 ?_;refine⟨s1.heap.objs.size,[s1.heap.objs.size],_,_,H1,rfl,I1.kept (t':=s1.toks) fun b o e=>Heap.get?_push_of_some _ e,yR d _ o Zs es ep g3 (qt kt g4),⟨_,Heap.get?_push_size _ rfl,rfl,rfl⟩,fun b hb=>?_,q⟩;have e:b=s1.heap.objs.size:=by simpa using hb
 subst e;exact I1.fpOk (zA3 _) (I1.hok.fresh (zA3 _))
inductive TFrzI(t:TE)(σ:St)(H:Hp)(Q:VK):Prop
 |mk:∀d Zs,(H d=some (.dT Zs))->(∀o,t σ (upd H d (.frz o (.dT Zs))) fun v H'=>H' d=some (.frz o (.dT Zs))/\Q v (upd H' d (.dT Zs)))->TFrzI t σ H Q
def Kp(t:TE):TE:=fun σ H Q=>TFrzI t σ H Q
theorem Bl{e:Expr}{t:TE}(h:PE X e t):PE X e (Kp t):=by
 intro Zt s σ H Q I hq;obtain⟨d,Zs,ed,hq⟩:=hq
 obtain⟨hz,hs,xs,kt,o,es,ep,g1,g⟩:=(show ObjOk X.prog X.w H s.heap d (.dT Zs)from I.hok _ _ ed)
 have nt:∀{b:Addr} {u:HO},H b=some u->u≠.dT Zs->b≠d:=fun{b u} e n z=>by
  rw[z,ed]at e;exact n (zAl e).symm
 have I1:Inv X Zt σ (upd H d (.frz o (.dT Zs))) {s with heap:=s.heap,toks:=s.toks}:=by
  refine I.un ⟨fun b ob q _ _ _=>q,fun b ob q _ _ _=>⟨ob.slots,q⟩,fun b ob q n _=>?_,fun b ob q _=>⟨ob,q⟩,fun b xs q=>?_,fun b ob u q=>?_,fun b ps q=>⟨#[],?_⟩⟩ fun b u e=>?_
  .rw[au fun z=>by rw[z,ed]at n;cases n];exact n
  .rw[au (nt q fun z=>by cases z)];exact q
  .rw[au (nt q fun z=>by cases z)];exact q
  .rw[au (nt q fun z=>by cases z),q];simp
  .have aI:∀c xs,H c=some (.tup xs)->upd H d (.frz o (.dT Zs)) c=some (.tup xs):=fun c xs q=>by
    rw[au (nt q fun z=>by cases z)];exact q
   by_cases hb:b=d
   .subst hb;rw[aa]at e;cases e;exact⟨g1,(show ObjOk X.prog X.w H s.heap b (.dT Zs)from I.hok _ _ ed).stay (fun _ _ _ q=>q) (fun c q=>by rw[au (nt q fun z=>by cases z)];exact q) aI⟩
   .rw[au hb]at e;exact(I.hok b u e).stay (fun _ _ _ q=>q) (fun c q=>by rw[au (nt q fun z=>by cases z)];exact q) aI
 refine thn (h Zt s σ _ _ I1 (hq o)) fun v s1 ⟨x,H1,J,r1,e1,q1⟩=>?_
 have om:∀{b:Addr} {u:HO},H1 b=some u->u≠.frz o (.dT Zs)->b≠d:=fun{b u} e n z=>by
  rw[z,e1]at e;exact n (zAl e).symm
 have fr:∀b,H1 b=none->upd H1 d (.dT Zs) b=none:=fun b n=>by
  rw[au fun z=>by rw[z,e1]at n;cases n];exact n
 refine⟨x,upd H1 d (.dT Zs),⟨J.ok,J.os,J.bare,⟨J.base.keep,J.base.slot,fun b ob q n hx=>fr b (J.base.free b ob q n hx),J.base.there,fun b xs q=>?_,fun b ob u q=>?_,fun b ps q=>?_⟩,J.loc,J.cell,fr _ J.free,fun y c e=>fr _ (J.freeC y c e),fun p hp=>?_,fun b u e=>?_,J.len⟩,r1,q1⟩
 .have:=J.base.tups b xs q;rw[au (om this fun z=>by cases z)];exact this
 .have h0:=I.base.frzs b ob u q;have:=J.base.frzs b ob u q;rw[au (nt h0 fun z=>by cases z)];exact this
 .obtain⟨m,e⟩:=J.base.tbls b ps q;exact⟨m,by rw[au (om e fun z=>by cases z)];exact e⟩
 .obtain⟨a,n,c⟩:=J.pin p hp;exact⟨a,fr _ n,c⟩
 .have aI:∀c xs,H1 c=some (.tup xs)->upd H1 d (.dT Zs) c=some (.tup xs):=fun c xs q=>by
   rw[au (om q fun z=>by cases z)];exact q
  have gp:∀a c,H1 c=some (.own a)->upd H1 d (.dT Zs) c=some (.own a):=fun a c q=>by
   rw[au (om q fun z=>by cases z)];exact q
  by_cases hb:b=d
  .subst hb;rw[aa]at e;cases e;exact ObjOk.stay (show ObjOk X.prog X.w H1 s1.heap b (.dT Zs)from(show ObjOk X.prog X.w H1 s1.heap b (.frz o (.dT Zs))from J.hok _ _ e1).2) (fun _ _ _ q=>q) (gp b) aI
  .rw[au hb]at e;exact(J.hok b u e).stay (fun _ _ _ q=>q) (gp b) aI
end
open PySem PyProof.Rows HT
section
variable{X:Cx}{tg:Expr}
inductive TFrzSI(t:TS)(D:Ends)(σ:St)(H:Hp):Prop
 |mk:∀d Zs,(H d=some (.dT Zs))->(∀o,t {D with nx:=fun ah H'=>H' d=some (.frz o (.dT Zs))/\D.nx ah (upd H' d (.dT Zs)),bk:=fun _ _=>False,ct:=fun _ _=>False,rt:=fun _ _=>False} σ (upd H d (.frz o (.dT Zs))))->TFrzSI t D σ H
def Jp(t:TS):TS:=fun D σ H=>TFrzSI t D σ H
theorem Hq{e:Stmt}{t:TS}(h:PS X e t):PS X e (Jp t):=by
 intro Zt s σ H D I hq;obtain⟨d,Zs,ed,hq⟩:=hq
 obtain⟨hz,hs,xs,kt,o,es,ep,g1,g⟩:=(show ObjOk X.prog X.w H s.heap d (.dT Zs)from I.hok _ _ ed)
 have nt:∀{b:Addr} {u:HO},H b=some u->u≠.dT Zs->b≠d:=fun{b u} e n z=>by
  rw[z,ed]at e;exact n (zAl e).symm
 have I1:Inv X Zt σ (upd H d (.frz o (.dT Zs))) {s with heap:=s.heap,toks:=s.toks}:=by
  refine I.un ⟨fun b ob q _ _ _=>q,fun b ob q _ _ _=>⟨ob.slots,q⟩,fun b ob q n _=>?_,fun b ob q _=>⟨ob,q⟩,fun b xs q=>?_,fun b ob u q=>?_,fun b ps q=>⟨#[],?_⟩⟩ fun b u e=>?_
  .rw[au fun z=>by rw[z,ed]at n;cases n];exact n
  .rw[au (nt q fun z=>by cases z)];exact q
  .rw[au (nt q fun z=>by cases z)];exact q
  .rw[au (nt q fun z=>by cases z),q];simp
  .have aI:∀c xs,H c=some (.tup xs)->upd H d (.frz o (.dT Zs)) c=some (.tup xs):=fun c xs q=>by
    rw[au (nt q fun z=>by cases z)];exact q
   by_cases hb:b=d
   .subst hb;rw[aa]at e;cases e;exact⟨g1,(show ObjOk X.prog X.w H s.heap b (.dT Zs)from I.hok _ _ ed).stay (fun _ _ _ q=>q) (fun c q=>by rw[au (nt q fun z=>by cases z)];exact q) aI⟩
   .rw[au hb]at e;exact(I.hok b u e).stay (fun _ _ _ q=>q) (fun c q=>by rw[au (nt q fun z=>by cases z)];exact q) aI
 refine thn (h Zt s σ _ _ I1 (hq o)) fun fl s1 EJ=>?_
 cases fl with
 |brk=>obtain⟨_,_,_,z⟩:=EJ;exact z.elim
 |cont=>obtain⟨_,_,_,z⟩:=EJ;exact z.elim
 |ret u=>obtain⟨_,_,_,_,_,z⟩:=EJ;exact z.elim
 |next=>
 obtain⟨FX,H1,J,e1,q1⟩:=EJ
 have om:∀{b:Addr} {u:HO},H1 b=some u->u≠.frz o (.dT Zs)->b≠d:=fun{b u} e n z=>by
  rw[z,e1]at e;exact n (zAl e).symm
 have fr:∀b,H1 b=none->upd H1 d (.dT Zs) b=none:=fun b n=>by
  rw[au fun z=>by rw[z,e1]at n;cases n];exact n
 refine⟨FX,upd H1 d (.dT Zs),⟨J.ok,J.os,J.bare,⟨J.base.keep,J.base.slot,fun b ob q n hx=>fr b (J.base.free b ob q n hx),J.base.there,fun b xs q=>?_,fun b ob u q=>?_,fun b ps q=>?_⟩,J.loc,J.cell,fr _ J.free,fun y c e=>fr _ (J.freeC y c e),fun p hp=>?_,fun b u e=>?_,J.len⟩,q1⟩
 .have:=J.base.tups b xs q;rw[au (om this fun z=>by cases z)];exact this
 .have h0:=I.base.frzs b ob u q;have:=J.base.frzs b ob u q;rw[au (nt h0 fun z=>by cases z)];exact this
 .obtain⟨m,e⟩:=J.base.tbls b ps q;exact⟨m,by rw[au (om e fun z=>by cases z)];exact e⟩
 .obtain⟨a,n,c⟩:=J.pin p hp;exact⟨a,fr _ n,c⟩
 .have aI:∀c xs,H1 c=some (.tup xs)->upd H1 d (.dT Zs) c=some (.tup xs):=fun c xs q=>by
   rw[au (om q fun z=>by cases z)];exact q
  have gp:∀a c,H1 c=some (.own a)->upd H1 d (.dT Zs) c=some (.own a):=fun a c q=>by
   rw[au (om q fun z=>by cases z)];exact q
  by_cases hb:b=d
  .subst hb;rw[aa]at e;cases e;exact ObjOk.stay (show ObjOk X.prog X.w H1 s1.heap b (.dT Zs)from(show ObjOk X.prog X.w H1 s1.heap b (.frz o (.dT Zs))from J.hok _ _ e1).2) (fun _ _ _ q=>q) (gp b) aI
  .rw[au hb]at e;exact(J.hok b u e).stay (fun _ _ _ q=>q) (gp b) aI
end
section
variable{X:Cx}
inductive RSetDI(o:V)(i:V)(v:V)(H:Hp)(Q:Hp->Prop):Prop
 |mk:∀a H',(o=.ref a)->(DPut H a i v H')->(Q H')->RSetDI  o i v H Q
def Jq:ym:=fun o i v H Q=>RSetDI  o i v H Q
theorem set_dict(hu:X.A.units+1<cLine):DQ X Jq:=by
 intro Zt s σ H o i v ov iv u Q I ro ri rv h;obtain⟨a,H',rfl,g,q⟩:=h;cases ro
 exact qb hu I g ri rv fun s' I'=>⟨H',I',q⟩
end
section
open PySem.W
variable{prog:Program}{w:World}{A:Around}{E:Value->Shared->Prop}{s:Shared}
theorem Eu{d:Addr}{o:Obj}{es:Array DictEntry}{ep:Nat}(lo:(d==sysModules)=false)(g2:o.ExactDict)(g3:o.data=.dict es ep):KdlSrc prog w "dict" d d es.size (fun i v=>∃e,es[i]?=some e/\v=e.key) (fun h=>h.get? d=some o) where
 type:=fun _ hm=>⟨o,hm,g2.1⟩
 there:=fun _ hm=>⟨zB1 hm,zB1 hm⟩
 keep:=fun _ _ hm hk=>hk d (.inl rfl) o hm
 notList:=by decide
 notTuple:=by decide
 hint:=fun _ _ _ _ hm hq=>kdl_hint_dict ⟨o,hm,g2.1⟩ hq
 iter:=fun A s hh hm=>⟨_,fun i h=>h.IsKeyIter s.heap.objs.size d i es.size ep/\h.get? d=some o,(fun _ _ hq=>wR lo hm g2 g3 hq),
  {
   sub:=fun b hb=>by simp at hb;simp[hb]
   frame:=fun _ _ _ st hk=>⟨st.1.at fun o e=>hk _ Zy o e,hk d Zy _ st.2⟩
   item:=fun i s' Q E hi st hQ=>by
    obtain⟨e,hx⟩:∃p,es[i]?=some p:=⟨es[i],by simp[hi]⟩
    refine wU st.1 st.2 g3 hx fun h' II cm=>?_;exact hQ e.key h' s'.toks ⟨e,hx,rfl⟩ ⟨II,cm.extBut _ _ (Nat.ne_of_lt (Heap.lt_size hm)) st.2⟩ fun b o hb e=>cm.extBut b o (fun h=>hb (by simp[h])) e
   done:=fun s' Q E st hQ=>Bk hh st.1 st.2 g3 (Nat.le_refl _) fun h' yA=>hQ h' s'.toks fun b o hb e=>yA b o (fun h=>hb (by simp[h])) e
   self:=fun _ _ _ _ st hQ=>wpAny_pyIter_keyiter st.1 hQ},⟨⟨_,zB2 _ rfl,rfl,rfl⟩,zAw _ hm⟩⟩
theorem uz{T:String}{r d:Addr}{n:Nat}{P:Nat->Value->Prop}{OK:Heap->Prop}{R:List Value->Shared->Prop}(K:KdlSrc prog w T r d n P OK)(hh:A.handled=none)(hok:OK s.heap)(hn:n<=sizeLine)
  (h:∀h' tk acc,(∀b o,s.heap.get? b=some o->h'.get? b=some o)->s.heap.objs.size<h'.objs.size->ItemsOf P acc n->R acc.toList {s with heap:=h',toks:=tk}):wpAny (model prog w) A (collect (.ref r)) R E s:=by
 obtain⟨l1,l2⟩:=K.there _ hok
 obtain⟨S,eS⟩:∃S,S=s.heap.objs.size:=⟨_,rfl⟩
 obtain⟨g,eg⟩:∃g,g=s.heap.push {cls:=.type "list",data:=.seq ([]:List Value).toArray}:=⟨_,rfl⟩
 have atS:g.get? S=some {cls:=.type "list",data:=.seq #[]}:=by rw[eg,eS];exact zB2 _ rfl
 have ext:=kdl_extend (A:=A) (s:={s with heap:=g})
  (R:=fun q s'=>∃h' tk acc,q=Except.ok (.ret (.ref S))/\s'={s with heap:=h',toks:=tk}/\(∀b o,s.heap.get? b=some o->h'.get? b=some o)/\(∃c,h'.get? S=some {cls:=.type "list",dict:=none,data:=.seq acc c,slots:=#[]})/\ItemsOf P acc n)
  K hh (K.keep _ _ hok fun b _ o e=>by rw[eg];exact zAw _ e) S (by rw[eS];exact Nat.ne_of_gt l1) (by rw[eS];exact Nat.ne_of_gt l2) (.ref S) 0 atS
  (fun h' tk acc c kp at' it=>⟨h',tk,acc,rfl,rfl,fun b o e=>kp b o (by rw[eS];exact zB9 (zB1 e)) (by rw[eg];exact zAw _ e),⟨c,at'⟩,it⟩) hn
 unfold collect;refine zAu (wpAny_runValue (codeAny_builtin entry_proto_collect' ?_));rw[Around.under_plainId PySem.F.plain_proto_collect _];show wpAny _ A.in1 (newList []>>=fun l=>again (.builtin "list.__iadd__" ⟨[l,.ref r],[]⟩)) _ _ s;refine zAu (wpAny_newObj_type (zAz ⟨plainId_quiet PySem.F.plain_list_iadd _,codeAny_builtin entry_list_iadd' ?_⟩));rw[Around.under_plainId PySem.F.plain_list_iadd _];show wpAny _ A.in1 (Builtin.List.listExtendWith (.ref s.heap.objs.size) (.ref r) (.ref s.heap.objs.size)) _ _ {s with heap:=s.heap.push {cls:=.type "list",data:=.seq ([]:List Value).toArray}};rw[<-eS,<-eg];refine wpAny_mono ext (fun fin s' x=>?_) fun e s' x=>?_
 .cases fin with
  |done f=>
   obtain⟨h',tk,acc,e,rfl,kp,at',it⟩:=x;cases e;obtain⟨c,at'⟩:=at';refine zAu (wpAny_load at' (zAz (h h' tk acc kp (by rw[<-eS];exact zB1 at') it)))
  |again c₁=>
   refine⟨x.1,codeAny_mono x.2 fun q s₂ y=>?_⟩;obtain⟨h',tk,acc,rfl,rfl,kp,⟨c,at'⟩,it⟩:=y;refine zAu (wpAny_load at' (zAz (h h' tk acc kp (by rw[<-eS];exact zB1 at') it)))
 .obtain⟨_,_,_,e',_⟩:=x;cases e'
theorem Bm{T:String}{r d:Addr}{n:Nat}{P:Nat->Value->Prop}{OK:Heap->Prop}{Q:Value->Shared->Prop}{R:List Value->List Value->Prop}(K:KdlSrc prog w T r d n P OK)(hh:A.handled=none)(hok:OK s.heap)(hn:n<=sizeLine)
  (small:∀vs:List Value,vs.length=n->(∀j v,vs[j]?=some v->P j v)->vs.length<2->R vs vs)
  (big:∀vs:List Value,vs.length=n->(∀j v,vs[j]?=some v->P j v)->2<=vs.length->∀g tk,(∀b o,s.heap.get? b=some o->g.get? b=some o)->wpAny (model prog w) A.in1.in1 (keyKind' vs.toArray) (fun κ s1=>s1={s with heap:=g,toks:=tk} /\
    wpS (model prog w) A.in1.in1 (fun _ _=>False) {s with heap:=g,toks:=tk} sortRuns' (fun _ st=>failedOf st=none/\∃out,(arrOf st).map (·.2)=List.toArray out/\R vs out) (SortSt.mk' κ (vs.toArray.zip vs.toArray) #[] 7 none)) (fun _ _=>False) {s with heap:=g,toks:=tk})
  (len:∀vs out,vs.length=n->R vs out->out.length=vs.length)
  (fin:∀vs out,R vs out->∀D h2 c tk,s.heap.objs.size<=D->(∀b o,s.heap.get? b=some o->h2.get? b=some o)->h2.get? D=some (seqObj "list" out.toArray c)->Q (.ref D) {s with heap:=h2,toks:=tk}):
  wpAny (model prog w) A (call (.builtin "sorted") [.ref r]) Q E s:=by
 refine call_function_entry kind_sorted plain_sorted entry_sorted (args_sorted1 _) ?_;unfold Builtin.«sorted»;refine zAu (m:=checkCount "sorted" 1 1 _) (zAz ?_);refine zAu (uz (A:=A.in1) K hh hok hn fun h' tk acc hk hsz cq=>?_);have lv:acc.toList.length=n:=by rw[zA9];exact cq.1
 have hP:∀j v,acc.toList[j]?=some v->P j v:=fun j v e=>cq.2 j v (by rw[<-Array.getElem?_toList];exact e);generalize acc.toList=vs at lv hP;have fits:vs.length<=sizeLine:=by rw[lv];exact hn
 refine zAu (wpAny_newList ?_ fits)
 obtain⟨g1,nX⟩:∃g1,g1=h'.push (seqObj "list" vs.toArray 0):=⟨_,rfl⟩
 obtain⟨D,eD⟩:∃D,D=h'.objs.size:=⟨_,rfl⟩
 have mP:g1.get? D=some (seqObj "list" vs.toArray 0):=by rw[nX,eD];exact zB2 _ rfl
 have IE:∀b o,s.heap.get? b=some o->g1.get? b=some o:=fun b o q=>by rw[nX];exact zAw _ (hk b o q)
 have hD:s.heap.objs.size<=D:=by
  rw[eD];exact Nat.le_of_lt hsz
 show wpAny _ _ _ _ _ {s with toks:=tk,heap:=h'.push (seqObj "list" vs.toArray 0)};rw[<-eD,<-nX];refine zAu (wpAny_holding (wpAny_call_entry slot_list_sort ⟨_,mP,rfl⟩ entry_list_sort ?body (args_list_sort _)))
 have apart:∀b o,s.heap.get? b=some o->b≠D:=fun b o q e=>by
  have lt:b<h'.objs.size:=zB1 (hk b o q);rw[e,eD]at lt;exact absurd lt (Nat.lt_irrefl _)
 obtain⟨g2,oj⟩:∃g2,g2=g1.update D (Obj.mapSeq fun _=>(#[]:Array Value)):=⟨_,rfl⟩
 have IF:Heap.SameBut D g1 g2:=oj▸Heap.SameBut.update g1 D _
 obtain⟨e1,at2⟩:∃e1,g2.get? D=some (seqObj "list" #[] e1):=⟨_,oj▸get?_update_seq mP fun _=>#[]⟩
 obtain⟨g3,va⟩:∃g3,g3=(g2.push (seqObj "tuple" vs.toArray 0)).push (seqObj "list" #[] 0):=⟨_,rfl⟩
 have jS:g3.get? D=some (seqObj "list" #[] e1):=va▸Heap.get?_push_of_some _ (Heap.get?_push_of_some _ at2);have vb:∀b o,s.heap.get? b=some o->g3.get? b=some o:=fun b o q=>va▸Heap.get?_push_of_some _ (Heap.get?_push_of_some _ ((IF.2 b (apart b o q)).trans (IE b o q)));rw[list_sort_plain];refine wpAny_bind (listItems_at mP rfl (wpAny_bind (listUpdate_at mP rfl ?_ (by rw[zA8];exact fits) (zAp _))));rw[<-oj];refine wpAny_bind (seqEpoch_at at2 rfl (wpAny_bind (wpAny_newTuple (wpAny_bind (wpAny_newList (wpAny_holding ?_) (zAp _))) fits)));show wpAny (model prog w) A.in1.in1 _ _ _ {s with toks:=tk,heap:=(g2.push (seqObj "tuple" vs.toArray 0)).push (seqObj "list" #[] 0)};rw[<-va];dsimp only;by_cases two:vs.toArray.size<2
 .have gN:vs.length<2:=by rw[zA8]at two;exact two
  rw[if_pos two,if_pos two];refine wpAny_bind (wpAny_pure ?_);show wpAny _ _ (do let r <-(pure ((),SortSt.mk' general' (vs.toArray.zip vs.toArray) #[] 7 none):Sem (Unit×SortSt));_) _ _ _;refine wpAny_bind (wpAny_pure ?_);dsimp only
  have em:(vs.toArray.zip vs.toArray).map (·.2)=vs.toArray:=by
   apply Array.toList_inj.mp;simp only[Array.toList_map,Array.toList_zip];exact List.map_snd_zip (zA3 _)
  rw[em];refine wpAny_bind (seqEpoch_at jS rfl (wpAny_bind (listUpdate_at jS rfl ?_ (zAp _) (by rw[zA8];lia))));simp only[bne_self_eq_false,Bool.false_eq_true,if_false];have vc:=Heap.SameBut.update g3 D (Obj.mapSeq fun _=>vs.toArray);exact wpAny_pure ⟨_,rfl,wpAny_pure ⟨_,rfl,fin vs vs (small vs lv hP gN) D _ _ tk hD (fun b o z=>(vc.2 b (apart b o z)).trans (vb b o z)) (get?_update_seq jS _)⟩⟩
 .have gN:2<=vs.length:=by rw[zA8]at two;lia
  rw[if_neg two,if_neg two];refine wpAny_bind (wpAny_mono (big vs lv hP gN g3 tk vb) (fun κ s1 ⟨jI,run⟩=>?_) fun _ _ x=>x.elim);subst jI;refine wpAny_bind (wpAny_mono run ?_ fun _ _ x=>x.elim);rintro⟨⟨⟩,st⟩ s2 ⟨IG,BB,out,lI,hR⟩;subst IG;dsimp only at BB lI⊢;rw[lI];refine wpAny_bind (seqEpoch_at jS rfl (wpAny_bind (listUpdate_at jS rfl ?_ (zAp _) (by rw[zA8,len vs out lv hR];lia))));rw[BB];simp only[bne_self_eq_false,Bool.false_eq_true,if_false];have vc:=Heap.SameBut.update g3 D (Obj.mapSeq fun _=>out.toArray);exact wpAny_pure ⟨_,rfl,wpAny_pure ⟨_,rfl,fin vs out hR D _ _ tk hD (fun b o z=>(vc.2 b (apart b o z)).trans (vb b o z)) (get?_update_seq jS _)⟩⟩
end
section
variable{X:Cx}
def kJ(H:Hp)(a:Addr):List Int:=match H a with
 |some (.tup xs)=>xs.map fun v=>match v with
  |.int i=>i
  |_=>0
 |_=>[]
theorem wV{H:Hp}{a:Addr}{r:List Int}(e:H a=some (.tup (r.map V.int))):kJ H a=r:=by
 unfold kJ;rw[e];show(r.map V.int).map _=r;rw[zAr];exact List.map_id r
theorem pq(hc:X.calm=true):dU X (.builtin "sorted") (fun xs H Q=>∃(d:Addr) (Zs:List (List Key×V)) (rk:List Key->List Int),xs=[.ref d]/\H d=some (.dT Zs)/\(∀p∈Zs,p.1=(rk p.1).map Sum.inl/\rk p.1≠[]) /\
  ∀(q:Addr) (l':List Addr) (row:Addr->List Int),H q=none->(l'.map row).Perm (Zs.map fun p=>rk p.1)->l'.Pairwise (fun a b=>HT.lexLt (row b) (row a)=false)->(∀a∈l',H a=some (.tup ((row a).map V.int)))->Q (.ref q) (upd H q (.lst (l'.map V.ref)))):=by
 intro Zt s σ H xs us Q I r h;obtain⟨d,Zs,rk,rfl,hd,hk,q⟩:=h;obtain⟨u,rfl,ru⟩:=vals1 r;cases ru
 obtain⟨hz,lo,xs,kt,o,es,ep,g1,g2,g3,g4,g5⟩:=(show ObjOk X.prog X.w H s.heap d (.dT Zs)from I.hok _ _ hd)
 have kt:KT H Zs xs:=kt;have hsz:es.size=Zs.length:=qt kt g4;have lx:=kt.len
 obtain⟨l,el⟩:∃l:List Addr,l=xs.map (·.2.1):=⟨_,rfl⟩
 have key:∀(j:Nat) (hj:j<Zs.length),∃b,l[j]?=some b/\H b=some (.tup ((rk Zs[j].1).map V.int))/\rk Zs[j].1≠[]/\∀v,(∃e,es[j]?=some e/\v=e.key)->v=Value.ref b:=fun j hj=>by
  obtain⟨b,u,ex,eb⟩:=kt.get (k:=Zs[j].1) (v:=Zs[j].2) (zA0 hj);obtain⟨e1,e2⟩:=hk Zs[j] (zAh hj);have ee:es[j]?=some (entryOfKey (tupleKind (cC X.prog X.w)) (Zs[j].1,b,u)):=by rw[entry_at g4,ex];rfl
  refine⟨b,by rw[el,zAb,ex];rfl,?_,e2,fun v hv=>?_⟩
  .rw[eb]
   have:Zs[j].1.map kV=(rk Zs[j].1).map V.int:=by
    conv=>lhs;rw[e1]
    rw[zAr];rfl
   rw[this]
  .obtain⟨e,he,rfl⟩:=hv;rw[ee]at he;cases he;rfl
 have ll:l.length=Zs.length:=by rw[el,zA1,lx]
 have hl:∀a∈l,H a=some (.tup ((kJ H a).map V.int))/\kJ H a≠[]:=fun a ha=>by
  obtain⟨j,hj,e⟩:=List.getElem_of_mem ha;obtain⟨b,h1,h2,h3,_⟩:=key j Zz;rw[zA0 hj,e]at h1;cases h1;rw[wV h2];exact⟨h2,h3⟩
 have BF:l.map (kJ H)=Zs.map fun p=>rk p.1:=by
  refine List.ext_getElem? fun j=>?_;by_cases hj:j<Zs.length
  .obtain⟨b,h1,h2,_⟩:=key j hj;rw[zAb,h1,zAb,zA0 hj];show some (kJ H b)=some (rk Zs[j].1);rw[wV h2]
  .rw[List.getElem?_eq_none (by rw[zA1];lia),List.getElem?_eq_none (by rw[zA1];lia)]
 have vals:∀vs:List Value,vs.length=es.size->(∀(j:Nat) (v:Value),vs[j]?=some v->∃e:DictEntry,es[j]?=some e/\v=e.key)->vs=l.map Value.ref:=fun vs h1 h2=>by
  refine List.ext_getElem? fun j=>?_;by_cases hj:j<Zs.length
  .obtain⟨b,e1,_,_,e2⟩:=key j hj;have hv:j<vs.length:=Zz
   rw[zAb,e1,zA0 hv];exact congrArg some (e2 _ (h2 j _ (zA0 hv)))
  .rw[List.getElem?_eq_none Zz,List.getElem?_eq_none (by rw[zA1];lia)]
 have obj:∀a∈l,∃(us:List Value) (o:Obj) (n:Nat),s.heap.get? a=some o/\o.cls=.type "tuple"/\o.data=.seq us.toArray n/\Vals ((kJ H a).map V.int) us/\kJ H a≠[]:=fun a ha=>by
  obtain⟨ht,fE⟩:=hl a ha;obtain⟨as,ra,pa,_⟩:=I.tuple (SqT.of ht);obtain⟨oa,ga,ca,na,da⟩:=pa;exact⟨as,oa,na,ga,ca,da,ra,fE⟩
 refine Bm (R:=fun _ out=>∃l':List Addr,out=l'.map Value.ref/\l'.Perm l/\l'.Pairwise fun a b=>HT.lexLt (kJ H b) (kJ H a)=false) (Eu lo g2 g3) (I.ok.hd hc) g1 (by rw[hsz];exact hz) (fun vs h1 h2 hs=>⟨l,vals vs h1 h2,.refl _,?_⟩) (fun vs h1 h2 hb g tk kp=>?_) (fun vs out hv ⟨l',e,pm,_⟩=>by rw[e,zA1,pm.length_eq,ll,hv,hsz]) fun vs out ⟨l',e,pm,pw⟩ D h2 c tk hD BD at2=>?_
 .exact uw Zz
 .have ev:=vals vs h1 h2;subst ev
  have lP:∀a∈l,∃(us:List Value) (o:Obj) (n:Nat),g.get? a=some o/\o.cls=.type "tuple"/\o.data=.seq us.toArray n/\Vals ((kJ H a).map V.int) us/\kJ H a≠[]:=fun a ha=>by
   obtain⟨us,o,n,h1,h2⟩:=obj a ha;exact⟨us,o,n,kp _ _ h1,h2⟩
  refine wQ (s:={s with heap:=g,toks:=tk}) lP (by rw[zA1]at hb;lia) ?_;refine⟨rfl,qm (s:={s with heap:=g,toks:=tk}) lP fun st l' e1 e2 e3 e4=>⟨e1,l'.map Value.ref,e2,l',rfl,e3,e4⟩⟩
 .subst e;refine⟨.ref D,_,I.laid (t':=tk) BD hD (show ObjOk X.prog X.w _ h2 _ (.lst (l'.map V.ref))from⟨by rw[zA1,pm.length_eq,ll];exact hz,_,c,rO l',at2⟩),rfl,q D l' (kJ H) (I.hok.fresh hD) ?_ pw fun a ha=>(hl a (pm.mem_iff.mp ha)).1⟩;rw[<-BF];exact pm.map _
end
theorem nR{X:Cx}{S:Addr->Prop}(hg:X.A.guards=some [])(hS:¬S sysModules):dU X (.builtin "repr") (fun xs H Q=>∃a ds,xs=[.ref a]/\IsTh S H (.ref a) (.list ds)/\tame (.list ds)=true/\sz (.list ds)<=80000/\X.A.units+((PyData.list ds).depth+1)<cLine/\Q (.str (PyData.list ds).shown) H):=by
 intro Zt s σ H xs us Q I r h;obtain⟨a,ds,rfl,th,tm,hz,hu,q⟩:=h;obtain⟨u,rfl,ru⟩:=vals1 r;have hl:=qd _ tm;have hsz:(PyData.list ds).shown.length<=sizeLine:=by rw[sizeLine_eq];lia
 have BG:=lJ _ tm;obtain⟨as,rd,ha⟩:=th.reads I ru;cases(show u=Value.ref a from ru);exact repr_of_reads' rd BG (fun _ hm=>hS (ha _ hm)) hg Zz (fun b o e=>e) (fun h' t tk k=>⟨.str (PyData.list ds).shown,H,I.kept k,⟨t,rfl⟩,q⟩) hsz
inductive RRepNI(x:V)(y:V)(H:Hp)(Q:VK):Prop
 |mk:∀l k xs,(x=.ref l)->(y=.int k)->(H l=some (.lst xs))->(-(2^63)<=k)->(k<2^63)->(xs.length*k.toNat<=sizeLine)->(∀p,H p=none->p≠sysModules->Q (.ref p) (upd H p (.lst (List.replicate k.toNat xs).flatten)))->RRepNI  x y H Q
def Jr:R2:=fun x y H Q=>RRepNI  x y H Q
theorem Ew{X:Cx}:OpR X (binaryOp .Mult) Jr:=by
 intro Zt s σ H x y v u Q I rx ry h;obtain⟨l,k,xs,rfl,rfl,hH,h1,h2,hz,q⟩:=h;cases rx;obtain⟨t,rfl⟩:=ry;obtain⟨z,Zr,n,r,hl,e⟩:=I.lstM hH;have hlen:Zr.toArray.size*k.toNat<=sizeLine:=by rw[zA8,<-hl];exact hz
 have tF:¬Zr.toArray.size*k.toNat>(2^63-1) / 8:=by
  have:(sizeLine:Nat)<=(2^63-1) / 8:=by decide
  lia
 have tI:¬(!Builtin.List.listFitsIndex k)=true:=by
  rw[fitsIndex_both h1 h2];exact zAg
 have fe:¬Builtin.List.listTooLong (Zr.toArray.size*k.toNat)=true:=by
  rw[jC hlen];exact zAg
 have tJ:List.foldl (fun x1 x2=>x1++x2) #[] (List.replicate (if Zr.toArray.isEmpty=true then 0 else k.toNat) Zr.toArray)=(List.replicate k.toNat Zr).flatten.toArray:=by
  have f0:∀m:Nat,List.foldl (fun x1 x2=>x1++x2) #[] (List.replicate m Zr.toArray)=(List.replicate m Zr).flatten.toArray:=fun m=>by
   have:=foldl_rep Zr m [];rw[List.nil_append]at this;exact this
  rw[f0]
  cases Zr with
  |nil=>simp
  |cons a r'=>rw[if_neg Zy]
 refine wpAny_binaryOp_repeat_ref (T:="list") (U:="int") Zx ⟨_,e,rfl⟩ (fun s'=>typeIs_int s' k t) noFill_list_mul F.fills_int_mul F.slot_int_rmul repeat_list F.slot_int_index.lookup
  (call_meets F.slot_int_rmul (typeIs_int s k t) F.entry_int_rmul (F.args_int_rmul_2 _ _) (int___rmul___int_list k t l Zr.toArray n)
   ⟨e,rfl,⟨_,e,rfl⟩,call_meets F.slot_list_mul ⟨_,e,rfl⟩ F.entry_list_mul (F.args_list_mul_2 _ _) (AutoListH.list___mul___list_int_3 l Zr.toArray n k t tI tF fe) ⟨e,?_⟩⟩)
 rw[tJ];exact⟨.ref _,_,I.lnew (t':=s.toks) (r.rep k.toNat) (by rw[len_rep,Nat.mul_comm];exact hz),rfl,q _ I.fresh (Nat.ne_of_gt I.big)⟩
end L2
namespace L2.Z3
open PySem PySem.Spec PyProof.Rows PySem.Calls
theorem tc3(a b c:Value):checkTypeCall "zip" ⟨[a,b,c],[]⟩=pure ():=by kernel_rfl
theorem nc3(a b c:Value):checkBuiltinCall "zip.__new__" ⟨[.type "zip",a,b,c],[]⟩=pure ():=by kernel_rfl
theorem oi4(a b c d:Value):argsOk "object.__init__" ⟨[a,b,c,d],[]⟩:=by
 unfold argsOk;rw[signature?_of (id:="object.__init__") (n:=['_','_','t','i','n','i','_','_']) (o:=['t','c','e','j','b','o']) (by kernel_rfl) F.owner_object]
 kernel_rfl
theorem Hr:typeLookup (.type "zip") "__len__"=pure none:=by rw[typeLookup_type,builtinLookup_eq_fast];kernel_rfl
theorem Ex:typeLookup (.type "zip") "__length_hint__"=pure none:=by rw[typeLookup_type,builtinLookup_eq_fast];kernel_rfl
abbrev IsZ(h:Heap)(z TI TO:Addr)(f0 f1:Value):Prop:=h.get? z=some {cls:=.type "zip",dict:=none,data:=.fields #[f0,f1,.bool false,.ref TI,.ref TO],slots:=#[]}
abbrev gO(h:Heap)(T:Addr)(a b c:Value):Prop:=h.get? T=some {cls:=.type "tuple",data:=.seq #[a,b,c]}
theorem nn{a b:Nat}(h:a≠b):@Ne Addr a b:=h
structure Apart(l1 l2 l3 i1 i2 i3 TI TO z:Nat):Prop where
 a1:l1<i1
 a2:l2<i1
 a3:l3<i1
 b1:i1<i2
 b2:i2<i3
 b3:i3<TI
 b4:TI<TO
 b5:TO<z
structure St(l1 l2 l3 i1 i2 i3 TI TO z:Nat)(xs ys zs:Array Value)(S:Nat)(i:Nat)(h:Heap):Prop where
 z0:(i=0/\IsZ h z TI TO .none (.bool false))\/∃(a:Nat) (oa:Obj) (f:Bool),IsZ h z TI TO (rawInt a) (.bool f)/\h.get? a=some oa/\z<a/\a≠S
 ti:gO h TI (.ref i1) (.ref i2) (.ref i3)
 to:∃a b c,gO h TO a b c
 p1:h.IsListIter i1 l1 i
 p2:h.IsListIter i2 l2 i
 p3:h.IsListIter i3 l3 i
 q1:h.IsList l1 xs
 q2:h.IsList l2 ys
 q3:h.IsList l3 zs
section
variable{prog:Program}{w:World}{A:Around}{E:Value->Shared->Prop}{s:Shared}{l1 l2 l3 i1 i2 i3 TI TO z:Nat}{xs ys zs:Array Value}
theorem Hs{T:Addr}{a b c x:Value}{k:Nat}{Q:Unit->Shared->Prop}(hT:gO s.heap T a b c)
  (h:∀h',h'.get? T=some {cls:=.type "tuple",data:=.seq ((#[a,b,c]:Array Value).setIfInBounds k x)}->Heap.SameBut T s.heap h'->Q () {s with heap:=h'}):
  wpAny (model prog w) A (updateSeq T (·.setIfInBounds k x)) Q E s:=by
 refine wpAny_updateSeq hT rfl (h _ ?_ (Heap.SameBut.update ..));rw[Heap.get?_update_self _ hT rfl];simp[Obj.mapSeq]
theorem Ey{k:Nat}{x y v a b c:Value}{Q:Value->Shared->Prop}(D:Apart l1 l2 l3 i1 i2 i3 TI TO z)(hz:IsZ s.heap z TI TO .none (.bool false))(nN:gO s.heap TI (.ref i1) (.ref i2) (.ref i3))(EG:gO s.heap TO a b c)
  (h1:s.heap.IsListIter i1 l1 k) (h2:s.heap.IsListIter i2 l2 k) (h3:s.heap.IsListIter i3 l3 k) (q1:s.heap.IsList l1 xs) (q2:s.heap.IsList l2 ys) (q3:s.heap.IsList l3 zs) (hx:xs[k]?=some x) (hy:ys[k]?=some y) (hv:zs[k]?=some v)
  (hQ:∀h',IsZ h' z TI TO (rawInt s.heap.objs.size) (.bool false)->gO h' TO x y v->h'.IsListIter i1 l1 (k+1)->h'.IsListIter i2 l2 (k+1)->h'.IsListIter i3 l3 (k+1)->gO h' s.heap.objs.size x y v->h'.objs.size=s.heap.objs.size+1->
   (∀c o,c≠z->c≠TO->c≠i1->c≠i2->c≠i3->s.heap.get? c=some o->h'.get? c=some o)->Q (.ref s.heap.objs.size) {s with heap:=h'}):
  wpAny (model prog w) A (Builtin.«zip.__next__» ⟨[.ref z],[]⟩) (fun fin s'=>∃v,fin=.done (.ret v)/\Q v s') E s:=by
 obtain⟨a1,a2,a3,b1,b2,b3,b4,b5⟩:=D;show wpAny _ _ (field (.ref z) 2>>=_) _ _ _;refine wpAny_bind (wpAny_field hz rfl (x:=.bool false) rfl ?_);show wpAny _ _ (field (.ref z) 3>>=_) _ _ _;refine wpAny_bind (wpAny_field hz rfl (x:=.ref TI) rfl ?_);refine wpAny_bind (wpAny_seqItems nN rfl ?_);show wpAny _ _ (Builtin.SmallTypes.ownedTupleIsFree (.ref z)>>=_) _ _ _;refine wpAny_bind ?_;unfold Builtin.SmallTypes.ownedTupleIsFree;refine wpAny_bind (wpAny_field hz rfl (x:=.none) rfl (wpAny_pure ?_));simp only[if_true];refine wpAny_bind (wpAny_rule ?_);refine wpAny_bind (wpAny_field hz rfl (x:=.ref TO) rfl ?_);refine wpAny_bind (wpAny_setField_rec hz Zy fun g1 IJ s1=>?_)
 replace IJ:IsZ g1 z TI TO .ellipsis (.bool false):=IJ
 refine wpAny_bind ?_;simp only[List.zipIdx_cons,List.zipIdx_nil,List.forIn_cons,List.forIn_nil];refine wpAny_bind (wpAny_bind (wpAny_onRaise ?_));show wpAny _ _ (Builtin.SmallTypes.nextOf (.ref i1)>>=_) _ _ _;refine wpAny_bind (wpAny_nextOf_list_item (h1.extBut s1.extBut (nn Zz)) (q1.extBut s1.extBut (nn Zz)) hx fun g2 p1 s2=>wpAny_pure ?_);have t2:gO g2 TO a b c:=s2.extBut _ _ (nn Zz) (s1.extBut _ _ (nn Zz) EG);refine wpAny_bind (wpAny_seqItems t2 rfl ?_);refine wpAny_bind (Hs t2 fun g3 t3 s3=>?_)
 replace t3:gO g3 TO x b c:=t3
 refine zAu (wpAny_letGo (zAz ?_));have k3:∀d o,d≠z->d≠TO->d≠i1->s.heap.get? d=some o->g3.get? d=some o:=fun d o n1 n2 n3 e=>s3.extBut _ _ n2 (s2.extBut _ _ n3 (s1.extBut _ _ n1 e));refine zAu (zAu (wpAny_onRaise ?_));show wpAny _ _ (Builtin.SmallTypes.nextOf (.ref i2)>>=_) _ _ _;refine zAu (wpAny_nextOf_list_item (h2.at fun o e=>k3 _ o (nn Zz) (nn Zz) (nn Zz) e) (q2.at fun o e=>k3 _ o (nn Zz) (nn Zz) (nn Zz) e) hy fun g4 p2 s4=>zAz ?_);have t4:gO g4 TO x b c:=s4.extBut _ _ (nn Zz) t3;refine zAu (wpAny_seqItems t4 rfl ?_);refine zAu (Hs t4 fun g5 t5 s5=>?_)
 replace t5:gO g5 TO x y c:=t5
 refine zAu (wpAny_letGo (zAz ?_));have k5:∀d o,d≠TO->d≠i2->g3.get? d=some o->g5.get? d=some o:=fun d o n1 n2 e=>s5.extBut _ _ n1 (s4.extBut _ _ n2 e);refine zAu (zAu (wpAny_onRaise ?_));show wpAny _ _ (Builtin.SmallTypes.nextOf (.ref i3)>>=_) _ _ _;refine zAu (wpAny_nextOf_list_item (h3.at fun o e=>k5 _ o (nn Zz) (nn Zz) (k3 _ o (nn Zz) (nn Zz) (nn Zz) e)) (q3.at fun o e=>k5 _ o (nn Zz) (nn Zz) (k3 _ o (nn Zz) (nn Zz) (nn Zz) e)) hv fun g6 p3 s6=>zAz ?_);have t6:gO g6 TO x y c:=s6.extBut _ _ (nn Zz) t5;refine zAu (wpAny_seqItems t6 rfl ?_);refine zAu (Hs t6 fun g7 t7 s7=>?_)
 replace t7:gO g7 TO x y v:=t7
 refine zAu (wpAny_letGo (zAz (zAz ?_)));have k7:∀d o,d≠TO->d≠i3->g5.get? d=some o->g7.get? d=some o:=fun d o n1 n2 e=>s7.extBut _ _ n1 (s6.extBut _ _ n2 e);refine zAu (wpAny_seqItems t7 rfl ?_);refine zAu (wpAny_newTuple ?_);have hsz:g7.objs.size=s.heap.objs.size:=by rw[s7.1,s6.1,s5.1,s4.1,s3.1,s2.1,s1.1]
 have z7:IsZ g7 z TI TO .ellipsis (.bool false):=k7 _ _ (nn Zz) (nn Zz) (k5 _ _ (nn Zz) (nn Zz) (s3.extBut _ _ (nn Zz) (s2.extBut _ _ (nn Zz) IJ)));have zl:z<g7.objs.size:=Heap.lt_size z7;show wpAny _ _ (Builtin.SmallTypes.ownedTupleHandOut (.ref z) (.ref g7.objs.size)>>=_) _ _ _;refine wpAny_bind ?_;unfold Builtin.SmallTypes.ownedTupleHandOut;have z8:IsZ (g7.push {cls:=.type "tuple",data:=.seq #[x,y,v]}) z TI TO .ellipsis (.bool false):=Heap.get?_push_of_some _ z7;refine wpAny_bind (wpAny_setField_rec z8 Zy fun g9 z9 s9=>?_)
 replace z9:IsZ g9 z TI TO (rawInt g7.objs.size) (.bool false):=z9
 refine wpAny_setField_rec z9 Zy fun h8 z10 y6=>?_
 replace z10:IsZ h8 z TI TO (rawInt g7.objs.size) (.bool false):=z10
 have up:∀d o,d≠z->g7.get? d=some o->h8.get? d=some o:=fun d o n e=>y6.extBut _ _ n (s9.extBut _ _ n (zAw _ e));have tn:gO h8 g7.objs.size x y v:=y6.extBut _ _ (Nat.ne_of_gt zl) (s9.extBut _ _ (Nat.ne_of_gt zl) (zB2 _ rfl));have BH:h8.objs.size=g7.objs.size+1:=by rw[y6.1,s9.1,Heap.size_push]
 rw[hsz]at z10 tn BH;refine zAz ⟨_,rfl,?_⟩;show Q (.ref g7.objs.size) _;rw[hsz];refine hQ h8 z10 (up _ _ (nn Zz) t7) (p1.at fun o e=>up _ o (nn Zz) (k7 _ _ (nn Zz) (nn Zz) (k5 _ _ (nn Zz) (nn Zz) (s3.extBut _ _ (nn Zz) e)))) (p2.at fun o e=>up _ o (nn Zz) (k7 _ _ (nn Zz) (nn Zz) (s5.extBut _ _ (nn Zz) e))) (p3.at fun o e=>up _ o (nn Zz) (s7.extBut _ _ (nn Zz) e)) tn BH fun d o n1 n2 n3 n4 n5 e=>up d o n1 (k7 _ _ n2 n5 (k5 _ _ n2 n4 (k3 _ _ n1 n2 n3 e)))
theorem wW{a:Nat}{oa:Obj}{f:Bool}(hz:IsZ s.heap z TI TO (rawInt a) (.bool f))(ha:s.heap.get? a=some oa):
  wpAny (model prog w) A (Builtin.SmallTypes.ownedTupleIsFree (.ref z)) (fun b s'=>b=false/\∃g0,s'={s with heap:=g0}/\IsZ g0 z TI TO (rawInt a) (.bool true)/\Heap.SameBut z s.heap g0) E s:=by
 unfold Builtin.SmallTypes.ownedTupleIsFree;refine wpAny_bind (wpAny_field hz rfl (x:=rawInt a) rfl ?_);show wpAny _ _ (loadIfAlive ((a:Int).toNat)>>=_) _ _ _;rw[zAi];refine wpAny_bind (PySem.W.kdx_alive ha ?_);simp only[Option.isNone_some,Bool.false_eq_true,if_false];refine wpAny_bind (wpAny_field hz rfl (x:=.bool f) rfl ?_)
 cases f with
 |true=>
  rw[zAv (show¬((Value.bool true != Value.bool true)=true)from zAg)];exact zAz ⟨rfl,s.heap,rfl,hz,Heap.SameBut.refl _ _⟩
 |false=>
  rw[if_pos (show(Value.bool false != Value.bool true)=true from rfl)];exact wpAny_bind (wpAny_setField_rec hz Zy fun g0 z0 s0=>wpAny_pure ⟨rfl,g0,rfl,z0,s0⟩)
theorem Ht{k:Nat}{x y v:Value}{a:Nat}{oa:Obj}{f:Bool}{Q:Value->Shared->Prop}(D:Apart l1 l2 l3 i1 i2 i3 TI TO z)(hz:IsZ s.heap z TI TO (rawInt a) (.bool f))(ha:s.heap.get? a=some oa)(Ww:z<a)(nN:gO s.heap TI (.ref i1) (.ref i2) (.ref i3))
  (h1:s.heap.IsListIter i1 l1 k) (h2:s.heap.IsListIter i2 l2 k) (h3:s.heap.IsListIter i3 l3 k) (q1:s.heap.IsList l1 xs) (q2:s.heap.IsList l2 ys) (q3:s.heap.IsList l3 zs) (hx:xs[k]?=some x) (hy:ys[k]?=some y) (hv:zs[k]?=some v)
  (hQ:∀h',IsZ h' z TI TO (rawInt a) (.bool true)->h'.IsListIter i1 l1 (k+1)->h'.IsListIter i2 l2 (k+1)->h'.IsListIter i3 l3 (k+1)->gO h' s.heap.objs.size x y v->h'.objs.size=s.heap.objs.size+1->
   (∀c o,c≠z->c≠i1->c≠i2->c≠i3->s.heap.get? c=some o->h'.get? c=some o)->Q (.ref s.heap.objs.size) {s with heap:=h'}):
  wpAny (model prog w) A (Builtin.«zip.__next__» ⟨[.ref z],[]⟩) (fun fin s'=>∃v,fin=.done (.ret v)/\Q v s') E s:=by
 obtain⟨a1,a2,a3,b1,b2,b3,b4,b5⟩:=D;show wpAny _ _ (field (.ref z) 2>>=_) _ _ _;refine wpAny_bind (wpAny_field hz rfl (x:=.bool false) rfl ?_);show wpAny _ _ (field (.ref z) 3>>=_) _ _ _;refine wpAny_bind (wpAny_field hz rfl (x:=.ref TI) rfl ?_);refine wpAny_bind (wpAny_seqItems nN rfl ?_);show wpAny _ _ (Builtin.SmallTypes.ownedTupleIsFree (.ref z)>>=_) _ _ _;refine wpAny_bind (wpAny_mono (wW hz ha) (fun b s' h=>?_) fun _ _ x=>x);obtain⟨rfl,g0,rfl,z0,s0⟩:=h;simp only[Bool.false_eq_true,if_false,List.forIn_toArray,List.forIn_cons,List.forIn_nil];refine wpAny_bind (wpAny_bind (wpAny_bind (wpAny_holding ?_)));show wpAny _ _ (Builtin.SmallTypes.nextOf (.ref i1)>>=_) _ _ _;refine wpAny_bind (wpAny_nextOf_list_item (h1.extBut s0.extBut (nn Zz)) (q1.extBut s0.extBut (nn Zz)) hx fun g1 p1 s1=>wpAny_pure ?_);refine wpAny_pure ?_;have k1:∀d o,d≠z->d≠i1->s.heap.get? d=some o->g1.get? d=some o:=fun d o n1 n2 e=>s1.extBut _ _ n2 (s0.extBut _ _ n1 e);refine wpAny_bind (wpAny_bind (wpAny_holding ?_));show wpAny _ _ (Builtin.SmallTypes.nextOf (.ref i2)>>=_) _ _ _;refine wpAny_bind (wpAny_nextOf_list_item (h2.at fun o e=>k1 _ o (nn Zz) (nn Zz) e) (q2.at fun o e=>k1 _ o (nn Zz) (nn Zz) e) hy fun g2 p2 s2=>wpAny_pure ?_);refine wpAny_pure ?_;have k2:∀d o,d≠z->d≠i1->d≠i2->s.heap.get? d=some o->g2.get? d=some o:=fun d o n1 n2 n3 e=>s2.extBut _ _ n3 (k1 _ _ n1 n2 e);refine wpAny_bind (wpAny_bind (wpAny_holding ?_));show wpAny _ _ (Builtin.SmallTypes.nextOf (.ref i3)>>=_) _ _ _;refine wpAny_bind (wpAny_nextOf_list_item (h3.at fun o e=>k2 _ o (nn Zz) (nn Zz) (nn Zz) e) (q3.at fun o e=>k2 _ o (nn Zz) (nn Zz) (nn Zz) e) hv fun g3 p3 s3=>wpAny_pure ?_);refine wpAny_pure (wpAny_pure ?_);have k3:∀d o,d≠z->d≠i1->d≠i2->d≠i3->s.heap.get? d=some o->g3.get? d=some o:=fun d o n1 n2 n3 n4 e=>s3.extBut _ _ n4 (k2 _ _ n1 n2 n3 e);refine wpAny_bind (wpAny_newTuple (hsz:=by show 3<=sizeLine;decide) ?_);have hsz:g3.objs.size=s.heap.objs.size:=by rw[s3.1,s2.1,s1.1,s0.1]
 have z3:IsZ g3 z TI TO (rawInt a) (.bool true):=s3.extBut _ _ (nn Zz) (s2.extBut _ _ (nn Zz) (s1.extBut _ _ (nn Zz) z0));have tn:gO (g3.push {cls:=.type "tuple",data:=.seq #[x,y,v]}) g3.objs.size x y v:=zB2 _ rfl;have BH:(g3.push {cls:=.type "tuple",data:=.seq #[x,y,v]}).objs.size=g3.objs.size+1:=Heap.size_push ..;rw[hsz]at tn BH;refine zAz ⟨_,rfl,?_⟩;show Q (.ref g3.objs.size) _;rw[hsz];exact hQ _ (zAw _ z3) (p1.at fun o e=>zAw _ (s3.extBut _ _ (nn Zz) (s2.extBut _ _ (nn Zz) e))) (p2.at fun o e=>zAw _ (s3.extBut _ _ (nn Zz) e)) (p3.at fun o e=>zAw _ e) tn BH fun d o n1 n2 n3 n4 e=>zAw _ (k3 _ _ n1 n2 n3 n4 e)
theorem Hu{k:Nat}{a:Nat}{oa:Obj}{f:Bool}{Q:Fin->Shared->Prop}(hh:A.handled=none)(D:Apart l1 l2 l3 i1 i2 i3 TI TO z)(hz:IsZ s.heap z TI TO (rawInt a) (.bool f))(ha:s.heap.get? a=some oa)(nN:gO s.heap TI (.ref i1) (.ref i2) (.ref i3))
  (h1:s.heap.IsListIter i1 l1 k) (q1:s.heap.IsList l1 xs) (hx:xs[k]?=none)
  (hE:∀h' e,(∀c o,c≠z->c≠i1->s.heap.get? c=some o->h'.get? c=some o)->(∃o,h'.get? e=some o/\o.cls=.type "StopIteration")->E (.ref e) {s with heap:=h'}):
  wpAny (model prog w) A (Builtin.«zip.__next__» ⟨[.ref z],[]⟩) Q E s:=by
 obtain⟨a1,a2,a3,b1,b2,b3,b4,b5⟩:=D;show wpAny _ _ (field (.ref z) 2>>=_) _ _ _;refine wpAny_bind (wpAny_field hz rfl (x:=.bool false) rfl ?_);show wpAny _ _ (field (.ref z) 3>>=_) _ _ _;refine wpAny_bind (wpAny_field hz rfl (x:=.ref TI) rfl ?_);refine wpAny_bind (wpAny_seqItems nN rfl ?_);show wpAny _ _ (Builtin.SmallTypes.ownedTupleIsFree (.ref z)>>=_) _ _ _;refine wpAny_bind (wpAny_mono (wW hz ha) (fun b s' h=>?_) fun _ _ x=>x);obtain⟨rfl,g0,rfl,z0,s0⟩:=h;simp only[Bool.false_eq_true,if_false,List.forIn_toArray,List.forIn_cons,List.forIn_nil];refine wpAny_bind (wpAny_bind (wpAny_bind (wpAny_holding ?_)));show wpAny _ _ (Builtin.SmallTypes.nextOf (.ref i1)>>=_) _ _ _;refine wpAny_bind (wpAny_nextOf_list_end hh (h1.extBut s0.extBut (nn Zz)) (q1.extBut s0.extBut (nn Zz)) hx fun g1 e s1 he=>hE g1 e (fun d o n1 n2 x=>s1 _ _ n2 (s0.extBut _ _ n1 x)) he)
theorem St.keep{S:Nat}{i:Nat}{h h':Heap}(x:St l1 l2 l3 i1 i2 i3 TI TO z xs ys zs S i h)(D:Apart l1 l2 l3 i1 i2 i3 TI TO z)(hS:z<S)(hk:∀b o,b≠S->h.get? b=some o->h'.get? b=some o):St l1 l2 l3 i1 i2 i3 TI TO z xs ys zs S i h':=by
 obtain⟨a1,a2,a3,b1,b2,b3,b4,b5⟩:=D;obtain⟨z0,ti,⟨a,b,c,to⟩,p1,p2,p3,q1,q2,q3⟩:=x;refine⟨?_,hk _ _ (nn Zz) ti,⟨a,b,c,hk _ _ (nn Zz) to⟩,p1.at fun o e=>hk _ o (nn Zz) e,p2.at fun o e=>hk _ o (nn Zz) e,p3.at fun o e=>hk _ o (nn Zz) e,q1.at fun o e=>hk _ o (nn Zz) e,q2.at fun o e=>hk _ o (nn Zz) e,q3.at fun o e=>hk _ o (nn Zz) e⟩;rcases z0 with⟨e,hz⟩|⟨a,oa,f,hz,ha,h1,h2⟩
 .exact .inl ⟨e,hk _ _ (nn Zz) hz⟩
 .exact .inr ⟨a,oa,f,hk _ _ (nn Zz) hz,hk _ _ h2 ha,h1,h2⟩
theorem item{S:Nat}{i:Nat}{x y v:Value}{Q:Option Value->Shared->Prop}(D:Apart l1 l2 l3 i1 i2 i3 TI TO z)(st:St l1 l2 l3 i1 i2 i3 TI TO z xs ys zs S i s.heap)(hS:S<s.heap.objs.size)(hx:xs[i]?=some x)(hy:ys[i]?=some y)(hv:zs[i]?=some v)
  (hQ:∀h',St l1 l2 l3 i1 i2 i3 TI TO z xs ys zs S (i+1) h'->gO h' s.heap.objs.size x y v->h'.objs.size=s.heap.objs.size+1->(∀c o,c≠z->c≠TO->c≠i1->c≠i2->c≠i3->s.heap.get? c=some o->h'.get? c=some o)->Q (some (.ref s.heap.objs.size)) {s with heap:=h'}):
  wpAny (model prog w) A (pyNext (.ref z)) Q E s:=by
 obtain⟨a1,a2,a3,b1,b2,b3,b4,b5⟩:=id D;obtain⟨z0,ti,⟨a,b,c,to⟩,p1,p2,p3,q1,q2,q3⟩:=st
 have zl:z<s.heap.objs.size:=by
  rcases z0 with⟨_,hz⟩|⟨_,_,_,hz,_⟩<;>exact zB1 hz
 have hT:s.TypeIs (.ref z) "zip":=by
  rcases z0 with⟨_,hz⟩|⟨_,_,_,hz,_⟩<;>exact⟨_,hz,rfl⟩
 unfold pyNext;refine zAu (wpAny_attempt (wpAny_callSpecial?_slot (name:=Str.ofString "__next__") hT F.slot_zip_next (wpAny_call_entry F.slot_zip_next hT F.entry_zip_next ?_ (F.args_zip_next_1 _))));rcases z0 with⟨rfl,hz⟩|⟨a',oa,f,hz,ha,h1,h2⟩
 .refine Ey D hz ti to p1 p2 p3 q1 q2 q3 hx hy hv fun h' e1 e2 e3 e4 e5 e6 e7 k=>zAz (hQ h' ⟨.inr ⟨_,_,_,e1,e6,zl,nn Zz⟩,k _ _ (nn Zz) (nn Zz) (nn Zz) (nn Zz) (nn Zz) ti,⟨_,_,_,e2⟩,e3,e4,e5,q1.at fun o e=>k _ o (nn Zz) (nn Zz) (nn Zz) (nn Zz) (nn Zz) e,q2.at fun o e=>k _ o (nn Zz) (nn Zz) (nn Zz) (nn Zz) (nn Zz) e,q3.at fun o e=>k _ o (nn Zz) (nn Zz) (nn Zz) (nn Zz) (nn Zz) e⟩ e6 e7 k)
 .refine Ht D hz ha h1 ti p1 p2 p3 q1 q2 q3 hx hy hv fun h' e1 e3 e4 e5 e6 e7 k=>zAz (hQ h' ⟨.inr ⟨a',oa,true,e1,k _ _ (nn Zz) (nn Zz) (nn Zz) (nn Zz) ha,h1,h2⟩,k _ _ (nn Zz) (nn Zz) (nn Zz) (nn Zz) ti,⟨_,_,_,k _ _ (nn Zz) (nn Zz) (nn Zz) (nn Zz) to⟩,e3,e4,e5,q1.at fun o e=>k _ o (nn Zz) (nn Zz) (nn Zz) (nn Zz) e,q2.at fun o e=>k _ o (nn Zz) (nn Zz) (nn Zz) (nn Zz) e,q3.at fun o e=>k _ o (nn Zz) (nn Zz) (nn Zz) (nn Zz) e⟩ e6 e7 fun c o n1 _ n3 n4 n5 e=>k c o n1 n3 n4 n5 e)
theorem done{S:Nat}{i:Nat}{Q:Option Value->Shared->Prop}(hh:A.handled=none)(D:Apart l1 l2 l3 i1 i2 i3 TI TO z)(st:St l1 l2 l3 i1 i2 i3 TI TO z xs ys zs S i s.heap)(hi:i≠0)(hx:xs[i]?=none)
  (hQ:∀h',(∀c o,c≠z->c≠i1->s.heap.get? c=some o->h'.get? c=some o)->Q none {s with heap:=h'}):wpAny (model prog w) A (pyNext (.ref z)) Q E s:=by
 obtain⟨z0,ti,⟨a,b,c,to⟩,p1,p2,p3,q1,q2,q3⟩:=st;rcases z0 with⟨e,_⟩|⟨a',oa,f,hz,ha,h1,h2⟩
 .exact absurd e hi
 have hT:s.TypeIs (.ref z) "zip":=⟨_,hz,rfl⟩
 unfold pyNext;refine zAu (wpAny_attempt (wpAny_callSpecial?_slot (name:=Str.ofString "__next__") hT F.slot_zip_next (wpAny_call_entry F.slot_zip_next hT F.entry_zip_next (Hu hh D hz ha ti p1 q1 hx fun h' e hk he=>?_) (F.args_zip_next_1 _))));obtain⟨o,ho,hc⟩:=he;exact zAu (wpAny_isInstance (T:="StopIteration") (b:=true) ⟨o,ho,hc⟩ isSubtype_stop (zAz (hQ _ hk)))
structure Gd(xs ys zs:Array Value)(lo:Nat)(h:Heap)(as:List Nat):Prop where
 rise:as.Pairwise (· < ·)
 above:∀a∈as,lo<a
 rows:∀(j:Nat) (a:Nat),as[j]?=some a->∃x y v,xs[j]?=some x/\ys[j]?=some y/\zs[j]?=some v/\gO h a x y v
end
section
variable{prog:Program}{w:World}{A:Around}{s:Shared}{R:Result->Shared->Prop}{l1 l2 l3 i1 i2 i3 TI TO z:Nat}{xs ys zs:Array Value}{n:Nat}
theorem loop{S:Nat}(hh:A.handled=none)(D:Apart l1 l2 l3 i1 i2 i3 TI TO z)(vi:z<S)(nx:xs.size=n)(ny:ys.size=n)(nz:zs.size=n)(n0:0<n)(hn:n<=sizeLine)(res:Value){h₁:Heap}
  (hR:∀h' tk acc c as,(∀b o,b≠S->b≠z->b≠TO->b≠i1->b≠i2->b≠i3->h₁.get? b=some o->h'.get? b=some o)->h'.get? S=some {cls:=.type "list",dict:=none,data:=.seq acc c,slots:=#[]}->as.length=n->Gd xs ys zs S h' as->
   acc.toList=as.map Value.ref->R (.ok (.ret res)) {s with heap:=h',toks:=tk}):
  ∀(k i:Nat) (h:Heap) (tk c:Nat) (acc:Array Value) (as:List Nat),n-i=k->i<=n->St l1 l2 l3 i1 i2 i3 TI TO z xs ys zs S i h->(∀b o,b≠S->b≠z->b≠TO->b≠i1->b≠i2->b≠i3->h₁.get? b=some o->h.get? b=some o)->
   h.get? S=some {cls:=.type "list",dict:=none,data:=.seq acc c,slots:=#[]}->acc.toList=as.map Value.ref->as.length=i->Gd xs ys zs S h as->
   codeAny (model prog w) A (.builtin "list.extend.loop" ⟨[.ref S,.ref z,res],[]⟩) R {s with heap:=h,toks:=tk}:=by
 obtain⟨a1,a2,a3,b1,b2,b3,b4,b5⟩:=id D;intro k
 induction k with
 |zero=>
  intro i h tk c acc as hk hi st lS hS cq vj hG;refine codeAny_builtin PySem.F.entry_extend_loop ?_;rw[Around.under_plainId PySem.F.plain_extend_loop _];show wpAny _ A.in1 (pyNext (.ref z)>>=_) _ _ _;refine zAu (done (s:={s with heap:=h,toks:=tk}) (A:=A.in1) hh D st Zz (Array.getElem?_eq_none Zz) fun h' he=>?_);refine zAz (hR h' tk acc c as (fun b o n1 n2 n3 n4 n5 n6 e=>he b o n2 n4 (lS b o n1 n2 n3 n4 n5 n6 e)) (he S _ (nn Zz) (nn Zz) hS) Zz ⟨hG.rise,hG.above,fun j a hj=>?_⟩ cq);obtain⟨x,y,v,e1,e2,e3,e4⟩:=hG.rows j a hj;have:=hG.above a (zB5 hj);exact⟨x,y,v,e1,e2,e3,he a _ (nn Zz) (nn Zz) e4⟩
 |succ k ih=>
  intro i h tk c acc as hk hi st lS hS cq vj hG;have ax:i<n:=Zz
  obtain⟨x,hx⟩:∃x,xs[i]?=some x:=⟨xs[i],Array.getElem?_eq_getElem Zz⟩
  obtain⟨y,hy⟩:∃x,ys[i]?=some x:=⟨ys[i],Array.getElem?_eq_getElem Zz⟩
  obtain⟨v,hv⟩:∃x,zs[i]?=some x:=⟨zs[i],Array.getElem?_eq_getElem Zz⟩
  have hsz:acc.size=i:=by rw[<-zA9,cq,zA1,vj]
  have Nw:S<h.objs.size:=Heap.lt_size hS;refine codeAny_builtin PySem.F.entry_extend_loop ?_;rw[Around.under_plainId PySem.F.plain_extend_loop _];show wpAny _ A.in1 (pyNext (.ref z)>>=_) _ _ _;refine wpAny_bind (item (s:={s with heap:=h,toks:=tk}) D st Nw hx hy hv fun h' Zq ht hz EK=>?_);dsimp only at ht hz EK⊢;have y7:=EK S _ (nn Zz) (nn Zz) (nn Zz) (nn Zz) (nn Zz) hS;have up:∀b o,b≠S->h'.get? b=some o->(h'.update S (Obj.mapSeq (·.push (Value.ref h.objs.size)))).get? b=some o:=fun b o hb e=>(Heap.get?_update_other _ _ (Ne.symm hb)).trans e;show wpAny _ A.in1 (updateSeq S (·.push (Value.ref h.objs.size))>>=_) _ _ _;refine wpAny_bind ?_
  refine wpAny_updateSeq y7 rfl (zAz ⟨plainId_quiet PySem.F.plain_extend_loop _,ih (i+1) _ tk _ (acc.push (Value.ref h.objs.size)) (as++[h.objs.size]) Zz ax (Zq.keep D vi up)
   (fun b o n1 n2 n3 n4 n5 n6 e=>up b o n1 (EK b o n2 n3 n4 n5 n6 (lS b o n1 n2 n3 n4 n5 n6 e))) (Heap.get?_update_self _ y7 rfl) (by rw[Array.toList_push,cq,zA4];rfl) (by rw[zA2,vj];rfl) ⟨?_,?_,?_⟩⟩) (by rw[hsz];lia) (by show(acc.push (Value.ref h.objs.size)).size<=sizeLine+1;rw[Array.size_push,hsz];lia)
  .refine List.pairwise_append.mpr ⟨hG.rise,List.pairwise_singleton _ _,fun a ha b hb=>?_⟩;rw[List.mem_singleton.mp hb];obtain⟨j,hj⟩:=List.mem_iff_getElem?.mp ha;obtain⟨_,_,_,_,_,_,e⟩:=hG.rows j a hj;exact zB1 e
  .intro a ha;rcases zA6.mp ha with ha|ha
   .exact hG.above a ha
   .rw[List.mem_singleton.mp ha];exact Nw
  .intro j b hj;rcases Nat.lt_trichotomy j as.length with h1|h1|h1
   .rw[zBc h1]at hj;obtain⟨x',y',v',e1,e2,e3,e4⟩:=hG.rows j b hj;have hb:=hG.above b (zB5 hj);exact⟨x',y',v',e1,e2,e3,up b _ (nn Zz) (EK b _ (nn Zz) (nn Zz) (nn Zz) (nn Zz) (nn Zz) e4)⟩
   .subst h1;have hb:h.objs.size=b:=by simpa using hj
    subst hb;exact⟨x,y,v,by rw[vj];exact hx,by rw[vj];exact hy,by rw[vj];exact hv,up _ _ (nn Zz) ht⟩
   .have BI:(as++[h.objs.size])[j]?=none:=List.getElem?_eq_none (by rw[zA2,List.length_singleton];lia);rw[BI]at hj;cases hj
end
end L2.Z3
namespace L2
open PySem PyProof.Rows HT
theorem vy:bootBuiltins "list"=some (.type "list"):=by decide +kernel
section
variable{X:Cx}
end
end L2
namespace L2.Z3
open PySem PySem.Spec PyProof.Rows PySem.Calls
abbrev g1(h:Heap)(l:Addr):Heap:=h.push {cls:=.type "list_iterator",data:=.fields #[.ref l,.int 0 0]}
abbrev g3(h:Heap)(l1 l2 l3:Addr):Heap:=g1 (g1 (g1 h l1) l2) l3
abbrev g4(h:Heap)(l1 l2 l3:Addr):Heap:=(g3 h l1 l2 l3).push {cls:=.type "tuple",data:=.seq #[.ref h.objs.size,.ref (g1 h l1).objs.size,.ref (g1 (g1 h l1) l2).objs.size]}
abbrev g5(h:Heap)(l1 l2 l3:Addr):Heap:=(g4 h l1 l2 l3).push {cls:=.type "tuple",data:=.seq #[.none,.none,.none]}
abbrev g6(h:Heap)(l1 l2 l3:Addr):Heap:=(g5 h l1 l2 l3).push {cls:=.type "zip",data:=.fields #[.none,.bool false,.bool false,.ref (g3 h l1 l2 l3).objs.size,.ref (g4 h l1 l2 l3).objs.size]}
theorem Hv(l1 l2 l3:Addr)(xs ys zs:Array Value):
  Meets (Builtin.«zip.__new__» ⟨[.type "zip",.ref l1,.ref l2,.ref l3],[]⟩) (fun _ R s=>s.heap.IsList l1 xs/\s.heap.IsList l2 ys/\s.heap.IsList l3 zs/\R (.ok (.ret (.ref (g5 s.heap l1 l2 l3).objs.size))) {s with heap:=g6 s.heap l1 l2 l3}):=
 .of_wp fun prog w A R s h=>by
  obtain⟨hp,g,d,tk,os⟩:=s;obtain⟨cv,eW,BM,h⟩:=h;have A7:=sub_zip;have IL:Heap.IsList (Shared.heap ⟨hp,g,d,tk,os⟩) l1 xs:=cv;have Qu:Heap.IsList (Shared.heap ⟨g1 hp l1,g,d,tk,os⟩) l2 ys:=Heap.IsList.push eW _;have Qv:Heap.IsList (Shared.heap ⟨g1 (g1 hp l1) l2,g,d,tk,os⟩) l3 zs:=Heap.IsList.push (Heap.IsList.push BM _) _
  wp_walk using wpAny_pyIter_list IL,wpAny_pyIter_list Qu,wpAny_pyIter_list Qv
  exact⟨_,rfl,h⟩
section
variable{prog:Program}{w:World}{A:Around}{E:Value->Shared->Prop}{s:Shared}
theorem Js{l1 l2 l3:Nat}{xs ys zs:Array Value}{Q:Value->Shared->Prop}(cv:s.heap.IsList l1 xs)(eW:s.heap.IsList l2 ys)(BM:s.heap.IsList l3 zs)
  (h:∀h',Apart l1 l2 l3 s.heap.objs.size (s.heap.objs.size+1) (s.heap.objs.size+2) (s.heap.objs.size+3) (s.heap.objs.size+4) (s.heap.objs.size+5)->(∀S,s.heap.objs.size+5<S->St l1 l2 l3 s.heap.objs.size (s.heap.objs.size+1) (s.heap.objs.size+2) (s.heap.objs.size+3) (s.heap.objs.size+4) (s.heap.objs.size+5) xs ys zs S 0 h')->
   h'.objs.size=s.heap.objs.size+6->(∀c o,s.heap.get? c=some o->h'.get? c=some o)->Q (.ref (s.heap.objs.size+5)) {s with heap:=h'}):
  wpAny (model prog w) A (call (.type "zip") [.ref l1,.ref l2,.ref l3]) Q E s:=by
 refine callType_new F.called_zip Zx (tc3 _ _ _) (nc3 _ _ _) (fun obj=>oi4 obj _ _ _) F.entry_zip_new (Hv l1 l2 l3 xs ys zs) ⟨cv,eW,BM,?_⟩
 have lt:∀{l:Addr} {zs:Array Value},s.heap.IsList l zs->l<s.heap.objs.size:=fun h=>by obtain⟨_,e,_⟩:=h;exact zB1 e
 have z1:(g1 s.heap l1).objs.size=s.heap.objs.size+1:=Heap.size_push ..;have z2:(g1 (g1 s.heap l1) l2).objs.size=s.heap.objs.size+2:=by rw[Heap.size_push,z1]
 have z3:(g3 s.heap l1 l2 l3).objs.size=s.heap.objs.size+3:=by rw[Heap.size_push,z2]
 have z4:(g4 s.heap l1 l2 l3).objs.size=s.heap.objs.size+4:=by rw[Heap.size_push,z3]
 have z5:(g5 s.heap l1 l2 l3).objs.size=s.heap.objs.size+5:=by rw[Heap.size_push,z4]
 have z6:(g6 s.heap l1 l2 l3).objs.size=s.heap.objs.size+6:=by rw[Heap.size_push,z5]
 have e6:(g6 s.heap l1 l2 l3).get? (g5 s.heap l1 l2 l3).objs.size=some _:=zB2 _ rfl;have e5:(g6 s.heap l1 l2 l3).get? (g4 s.heap l1 l2 l3).objs.size=some _:=zAw _ (zB2 _ rfl);have e4:(g6 s.heap l1 l2 l3).get? (g3 s.heap l1 l2 l3).objs.size=some _:=zAw _ (zAw _ (zB2 _ rfl));have k3:∀b o,(g3 s.heap l1 l2 l3).get? b=some o->(g6 s.heap l1 l2 l3).get? b=some o:=fun b o e=>zAw _ (zAw _ (zAw _ e));have e3:(g6 s.heap l1 l2 l3).get? (g1 (g1 s.heap l1) l2).objs.size=some _:=k3 _ _ (zB2 _ rfl);have e2:(g6 s.heap l1 l2 l3).get? (g1 s.heap l1).objs.size=some _:=k3 _ _ (zAw _ (zB2 _ rfl));have e1:(g6 s.heap l1 l2 l3).get? s.heap.objs.size=some _:=k3 _ _ (zAw _ (zAw _ (zB2 _ rfl)));have kp:∀c o,s.heap.get? c=some o->(g6 s.heap l1 l2 l3).get? c=some o:=fun c o x=>k3 _ _ (zAw _ (zAw _ (zAw _ x)));show _/\_;rw[z3,z4,z5]at e6;rw[z4]at e5;rw[z1,z2,z3]at e4;rw[z2]at e3;rw[z1]at e2;rw[z5];have n1:l1<s.heap.objs.size:=lt cv;have n2:l2<s.heap.objs.size:=lt eW;have n3:l3<s.heap.objs.size:=lt BM;exact⟨⟨_,e6,rfl⟩,h _ ⟨n1,n2,n3,Zz,Zz,Zz,Zz,Zz⟩ (fun S _=>⟨.inl ⟨rfl,e6⟩,e4,⟨_,_,_,e5⟩,⟨_,e1,rfl,rfl⟩,⟨_,e2,rfl,rfl⟩,⟨_,e3,rfl,rfl⟩,cv.at fun o e=>kp _ o e,eW.at fun o e=>kp _ o e,BM.at fun o e=>kp _ o e⟩) z6 kp⟩
end
section
variable{prog:Program}{w:World}{A:Around}{s:Shared}{l1 l2 l3 i1 i2 i3 TI TO z:Nat}{xs ys zs:Array Value}{n:Nat}
theorem ext{R:Result->Shared->Prop}{S:Nat}(hh:A.handled=none)(D:Apart l1 l2 l3 i1 i2 i3 TI TO z)(vi:z<S)(nx:xs.size=n)(ny:ys.size=n)(nz:zs.size=n)(n0:0<n)(hn:n<=sizeLine)(res:Value)(c₀:Nat)
  (st:St l1 l2 l3 i1 i2 i3 TI TO z xs ys zs S 0 s.heap) (hS:s.heap.get? S=some {cls:=.type "list",data:=.seq #[] c₀})
  (hR:∀h' tk acc c as,(∀b o,b≠S->b≠z->b≠TO->b≠i1->b≠i2->b≠i3->s.heap.get? b=some o->h'.get? b=some o)->h'.get? S=some {cls:=.type "list",dict:=none,data:=.seq acc c,slots:=#[]}->as.length=n->Gd xs ys zs S h' as->
   acc.toList=as.map Value.ref->R (.ok (.ret res)) {s with heap:=h',toks:=tk}):
  wpAny (model prog w) A.in1 (Builtin.List.listExtendWith (.ref S) (.ref z) res)
   (fun fin s'=>match fin with|.done f=>R (.ok f) s'|.again c'=>c'.quiet=true/\codeAny (model prog w) A c' R s') (fun e s'=>R (.error e) s') s:=by
 have hz:IsZ s.heap z TI TO .none (.bool false)\/∃a f,IsZ s.heap z TI TO (rawInt a) (.bool f):=by
  rcases st.z0 with⟨_,e⟩|⟨a,_,f,e,_⟩
  .exact .inl e
  .exact .inr ⟨a,f,e⟩
 have hT:s.TypeIs (.ref z) "zip":=by
  rcases hz with e|⟨_,_,e⟩<;>exact⟨_,e,rfl⟩
 unfold Builtin.List.listExtendWith;refine zAu (wpAny_typeOf hT ?_)
 have h1:Builtin.List.listSameRef (.ref S) (.ref z)=false:=by
  have:(S:Addr)≠z:=nn Zz;simp[Builtin.List.listSameRef,this]
 have h2:(Value.type "zip"==Value.type "list")=false:=by decide
 have h3:(Value.type "zip"==Value.type "tuple")=false:=by decide
 simp only[h1,h2,h3,Bool.or_false,Bool.false_eq_true,if_false]
 have hit:∀{Q:Value->Shared->Prop} {E:Value->Shared->Prop},Q (.ref z) s->wpAny (model prog w) A.in1 (pyIter (.ref z)) Q E s:=fun{Q E} q=>by
  refine wpAny_pyIter_slot hT F.slot_zip_iter (wpAny_call_entry F.slot_zip_iter hT F.entry_zip_iter ?_ (F.args_zip_iter_1 _));show wpAny _ _ (ret (.ref z)) _ _ s;exact zAz ⟨_,rfl,"zip",_,hT,F.slot_zip_next.lookup,q⟩
 refine zAu (hit ?_);refine zAu (wpAny_holding ?_);unfold Builtin.List.listLengthHint;refine zAu (wpAny_specialOf hT Hr ?_);show wpAny _ A.in1 (specialOf (Value.ref z) (Str.ofString "__length_hint__")>>=_) _ _ _;refine zAu (wpAny_specialOf hT Ex ?_);refine zAz ?_;show wpAny _ A.in1 (rule "list.extend.makes-room">>=fun _=>Builtin.List.listTouch (.ref S)>>=fun _=>again (.builtin "list.extend.loop" ⟨[.ref S,.ref z,res],[]⟩)) _ _ _;refine zAu (wpAny_rule ?_);refine zAu ?_;show wpAny _ A.in1 (updateSeq S (·.push .none)>>=fun _=>updateSeq S (·.pop)) _ _ _;refine zAu (wpAny_updateSeq hS rfl ?_);have iF:=Heap.get?_update_self (Obj.mapSeq (·.push Value.none)) hS rfl;refine wpAny_updateSeq (hz:=by seq_fits) iF rfl ?_;have BN:=Heap.get?_update_self (Obj.mapSeq (·.pop)) iF rfl
 have BO:∀b o,b≠S->s.heap.get? b=some o->((s.heap.update S (Obj.mapSeq (·.push Value.none))).update S (Obj.mapSeq (·.pop))).get? b=some o:=
  fun b o hb e=>(Heap.get?_update_other _ _ (Ne.symm hb)).trans ((Heap.get?_update_other _ _ (Ne.symm hb)).trans e)
 exact wpAny_pure ⟨plainId_quiet F.plain_extend_loop _,loop (s:=s) (h₁:=s.heap) hh D vi nx ny nz n0 hn res hR n 0 _ s.toks _ #[] [] (Nat.sub_zero _) (Nat.zero_le _) (st.keep D vi BO) (fun b o n1 _ _ _ _ _ e=>BO b o n1 e) BN rfl rfl ⟨List.Pairwise.nil,(fun _ ha=>nomatch ha),(fun j a hj=>by simp at hj)⟩⟩
theorem init{R:Result->Shared->Prop}{S:Nat}(hh:A.handled=none)(D:Apart l1 l2 l3 i1 i2 i3 TI TO z)(vi:z<S)(nx:xs.size=n)(ny:ys.size=n)(nz:zs.size=n)(n0:0<n)(hn:n<=sizeLine)
  (st:St l1 l2 l3 i1 i2 i3 TI TO z xs ys zs S 0 s.heap) (hS:s.heap.get? S=some {cls:=.type "list",data:=.seq #[]})
  (hR:∀h' tk acc c as,(∀b o,b≠S->b≠z->b≠TO->b≠i1->b≠i2->b≠i3->s.heap.get? b=some o->h'.get? b=some o)->h'.get? S=some {cls:=.type "list",dict:=none,data:=.seq acc c,slots:=#[]}->as.length=n->Gd xs ys zs S h' as->
   acc.toList=as.map Value.ref->R (.ok (.ret .none)) {s with heap:=h',toks:=tk}):
  wpAny (model prog w) A.in1 (Builtin.«list.__init__» ⟨[.ref S,.ref z],[]⟩)
   (fun fin s'=>match fin with|.done f=>R (.ok f) s'|.again c'=>c'.quiet=true/\codeAny (model prog w) A c' R s') (fun e s'=>R (.error e) s') s:=by
 show wpAny _ A.in1 (do let old <-Builtin.List.listItems (.ref S);Builtin.List.listUpdate (.ref S) (fun _=>#[]);letGo old.toList.reverse;Builtin.List.listExtendWith (.ref S) (.ref z) .none) _ _ s;refine zAu ?_;unfold Builtin.List.listItems;refine zAu (wpAny_seqItems hS rfl (zAz ?_));show wpAny _ A.in1 (updateSeq S (fun _=>#[])>>=fun _=>letGo (#[]:Array Value).toList.reverse>>=fun _=>Builtin.List.listExtendWith (.ref S) (.ref z) .none) _ _ s;refine zAu (wpAny_updateSeq hS rfl ?_);have iF:=Heap.get?_update_self (Obj.mapSeq (fun _=>(#[]:Array Value))) hS rfl;have BO:∀b o,b≠S->s.heap.get? b=some o->(s.heap.update S (Obj.mapSeq (fun _=>(#[]:Array Value)))).get? b=some o:=fun b o hb e=>(Heap.get?_update_other _ _ (Ne.symm hb)).trans e;refine zAu (wpAny_letGo ?_);refine ext hh D vi nx ny nz n0 hn .none _ (st.keep D vi BO) iF fun h' tk acc c as hk y7 hl hG cq=>?_;exact hR h' tk acc c as (fun b o n1 n2 n3 n4 n5 n6 e=>hk b o n1 n2 n3 n4 n5 n6 (BO b o n1 e)) y7 hl hG cq
theorem Jt{E:Value->Shared->Prop}{Q:Value->Shared->Prop}(hh:A.handled=none)(D:Apart l1 l2 l3 i1 i2 i3 TI TO z)(nx:xs.size=n)(ny:ys.size=n)(nz:zs.size=n)(n0:0<n)(hn:n<=sizeLine)(zl:z<s.heap.objs.size)
  (st:∀S,z<S->St l1 l2 l3 i1 i2 i3 TI TO z xs ys zs S 0 s.heap)
  (hQ:∀h' tk acc c as,(∀b o,b≠z->b≠TO->b≠i1->b≠i2->b≠i3->s.heap.get? b=some o->h'.get? b=some o)->h'.get? s.heap.objs.size=some {cls:=.type "list",dict:=none,data:=.seq acc c,slots:=#[]}->as.length=n->Gd xs ys zs s.heap.objs.size h' as->
   acc.toList=as.map Value.ref->Q (.ref s.heap.objs.size) {s with heap:=h',toks:=tk}):
  wpAny (model prog w) A (call (.type "list") [.ref z]) Q E s:=by
 refine callType_codes (Q₁:=fun obj s₁=>obj=.ref s.heap.objs.size/\s₁={s with heap:=s.heap.push {cls:=.type "list",data:=.seq #[]}}) PySem.F.called_list (PySem.F.typeCall_list_1 _) PySem.F.entry_list_init
  (code_list_new _ ⟨rfl,rfl⟩) fun obj s₁ h₁=>?_
 obtain⟨rfl,rfl⟩:=h₁;have hS:(s.heap.push {cls:=.type "list",data:=.seq #[]}).get? s.heap.objs.size=some {cls:=.type "list",data:=.seq #[]}:=zB2 _ rfl;refine⟨⟨_,hS,rfl⟩,PySem.F.args_list_init_2 _ _,init (A:=A.in1) (s:={s with heap:=s.heap.push {cls:=.type "list",data:=.seq #[]}}) hh D zl nx ny nz n0 hn ((st _ zl).keep D zl fun b o _ e=>zAw _ e) hS (fun h' tk acc c as hk y7 hl hG cq=>?_)⟩;exact⟨rfl,hQ h' tk acc c as (fun b o n2 n3 n4 n5 n6 e=>hk b o (zB9 (zB1 e)) n2 n3 n4 n5 n6 (zAw _ e)) y7 hl hG cq⟩
end
theorem Bo{X:Cx}{Zt:List (Addr×Obj)}{σ:L2.St}{H H':Hp}{s:Shared}{h':Heap}{t':Nat}(I:Inv X Zt σ H s)(k:∀b u,s.heap.get? b=some u->h'.get? b=some u)(old:∀b,b<s.heap.objs.size->H' b=H b)
  (new:∀b o,s.heap.objs.size<=b->H' b=some o->ObjOk X.prog X.w H' h' b o):Inv X Zt σ H' {s with heap:=h',toks:=t'}:=by
 have ol:∀{b:Addr} {o:HO},H b=some o->H' b=some o:=fun e=>by rw[old _ (I.hok.lt e)];exact e
 refine I.un ⟨fun b o q _ _ _=>k b o q,fun b o q _ _ _=>⟨o.slots,k b o q⟩,fun b o q n _=>by rw[old _ (Heap.lt_size q)];exact n,fun b o q _=>⟨o,k b o q⟩,fun b xs q=>ol q,fun b o u q=>ol q,fun b ps q=>⟨#[],by rw[ol q];simp⟩⟩ fun b o e=>?_;by_cases hb:b<s.heap.objs.size
 .rw[old _ hb]at e;exact(I.hok b o e).stay (fun c v _ q=>k c v q) (fun c q=>ol q) fun c xs q=>ol q
 .exact new b o (Nat.le_of_not_lt hb) e
def yS(xs ys zs:List V)(j:Nat):List V:=[xs.getD j .non,ys.getD j .non,zs.getD j .non]
def tLZ(K:Frag)(ta:TA):TE:=fun σ H Q=>ta σ H fun vs H1=>∃a b c xs ys zs,vs=[.ref a,.ref b,.ref c]/\SqL K H1 a xs/\SqL K H1 b ys/\SqL K H1 c zs/\ys.length=xs.length/\zs.length=xs.length/\0<xs.length /\
 ∀(l:Addr) (as:List Addr) (H':Hp),Same H1 H'->H1 l=none->l≠sysModules->H' l=some (.lst (as.map V.ref))->as.length=xs.length->(∀j a,as[j]?=some a->H' a=some (.tup (yS xs ys zs j)))->Q (.ref l) H'
theorem yU:bootBuiltins "zip"=some (.type "zip"):=by decide +kernel
theorem vals3:∀{a b c:V} {us:List Value},Vals [a,b,c] us->∃u v w,us=[u,v,w]/\RelV a u/\RelV b v/\RelV c w:=fun h=>by
 cases h with
 |cons r1 h=>
  cases h with
  |cons r2 h=>
   cases h with
   |cons r3 h=>
    cases h;exact⟨_,_,_,rfl,r1,r2,r3⟩
theorem Bp{as:List Nat}(h:as.Pairwise (· < ·)){i j:Nat}{a:Nat}(hi:as[i]?=some a)(hj:as[j]?=some a):i=j:=by
 have nd:as.Nodup:=h.imp fun{x y} z=>zB9 z;obtain⟨h1,e1⟩:=zAa.mp hi;obtain⟨h2,e2⟩:=zAa.mp hj;exact(List.getElem_inj nd).mp (e1.trans e2.symm)
section
variable{X:Cx}
open Classical in
theorem pe_lzip3{a b c:Expr}{ta:TA}{p p2 p3 pos:Pos}(hd:X.A.handled=none)(Qw:Gl X "list")(Qx:X.mg "list"=none)(hg:Gl X "zip")(hm:X.mg "zip"=none)(ha:PA X [a,b,c] ta)
  (hs:starEach [a,b,c] X.env=[(false,eval a X.env),(false,eval b X.env),(false,eval c X.env)]:=by rfl) (p9:starEach [b,c] X.env=[(false,eval b X.env),(false,eval c X.env)]:=by rfl)
  (he:starEach [(.Call (.Name "zip" p2) [a,b,c] [] p3)] X.env=[(false,eval (.Call (.Name "zip" p2) [a,b,c] [] p3) X.env)]:=by rfl):PE X (.Call (.Name "list" p) [.Call (.Name "zip" p2) [a,b,c] [] p3] [] pos) (tLZ X.K ta):=by
 intro Zt s σ H Q I h;refine wpAny_Call_Name_kw (gZ I Qw Qx vy ?_ Zx Zx);refine PyProof.Rows.callWith_type1 ?_ he rfl;rw[he];refine Calls.spliced_cons ?_;refine Call_ (gZ I hg hm yU (PyProof.Rows.callWith_type1 (thn (ha p3 Zt s σ H _ I h) fun us s1 ⟨vs,H1,I1,r1,q1⟩=>?_) (by rw[hs,p9]) (by rw[p9];rfl)));obtain⟨x,y,z,xs,ys,zs,e,hx,hy,hz,ly,lz,l0,q⟩:=q1;subst e;obtain⟨u1,u2,u3,rfl,Qy,Qz,QA⟩:=vals3 r1;cases Qy;cases Qz;cases QA;obtain⟨Wx,v1,QB,z1⟩:=I1.list hx;obtain⟨Wy,v2,QC,z2⟩:=I1.list hy;obtain⟨Wz,v3,QD,z3⟩:=I1.list hz;have n1:=v1.length;have n2:=v2.length;have n3:=v3.length;refine Js (l1:=x) (l2:=y) (l3:=z) QB.isList QC.isList QD.isList fun g D st gs kp=>?_;refine Calls.spliced_nil ?_;refine Jt (s:={s1 with heap:=g}) (n:=xs.length) hd D (by rw[zA8];lia) (by rw[zA8];lia) (by rw[zA8];lia) l0 z1 (by show _<g.objs.size;lia) (fun S hS=>st S hS) fun h' tk acc cc as BD at' hl hG cq=>?_;have QE:(Shared.heap {s1 with heap:=g}).objs.size=s1.heap.objs.size+6:=gs
 have QF:∀b o,s1.heap.get? b=some o->h'.get? b=some o:=fun b o e=>by
  obtain⟨b',rfl⟩:∃b':Nat,b'=b:=⟨b,rfl⟩
  have hb:@LT.lt Nat instLTNat b' s1.heap.objs.size:=zB1 e;exact BD b' o (nn Zz) (nn Zz) (nn Zz) (nn Zz) (nn Zz) (kp b' o e)
 have big:@LT.lt Nat instLTNat sysModules s1.heap.objs.size:=I1.big
 obtain⟨Lz,Nx⟩:∃Lz:Nat,Lz=(Shared.heap {s1 with heap:=g}).objs.size:=⟨_,rfl⟩
 rw[<-Nx]at at' hG QE;show EP X Zt σ Q (.ref (Shared.heap {s1 with heap:=g}).objs.size) _;rw[<-Nx]
 let H':Hp:=fun b=>if b=Lz then some (.lst (as.map V.ref))else if hj:∃j:Nat,as[j]?=some b then some (.tup (yS xs ys zs hj.choose))else H1 b
 have fE:∀{j a:Nat},as[j]?=some a->@LT.lt Nat instLTNat Lz a:=fun{j a} e=>hG.above a (zB5 e);have eL:H' Lz=some (.lst (as.map V.ref)):=zAy rfl
 have eT:∀j a,as[j]?=some a->H' a=some (.tup (yS xs ys zs j)):=fun j a e=>by
  have hj:∃j:Nat,as[j]?=some a:=⟨j,e⟩
  have n:¬(a=Lz):=Nat.ne_of_gt (fE e);show(if a=Lz then _ else if hj:∃j:Nat,as[j]?=some a then some (HO.tup (yS xs ys zs hj.choose))else H1 a)=_;rw[zAv n,dif_pos hj,Bp hG.rise hj.choose_spec e]
 have old:∀b,b<s1.heap.objs.size->H' b=H1 b:=fun b hb=>by
  obtain⟨b',rfl⟩:∃b':Nat,b'=b:=⟨b,rfl⟩
  have hb:@LT.lt Nat instLTNat b' s1.heap.objs.size:=hb;show(if b'=Lz then _ else if hj:∃j:Nat,as[j]?=some b' then some (HO.tup (yS xs ys zs hj.choose))else H1 b')=_;rw[zAv Zz,dif_neg fun⟨j,e⟩=>by have:=fE e;lia]
 have fresh:∀b:Nat,@LE.le Nat instLENat s1.heap.objs.size b->H1 b=none:=fun b hb=>I1.hok.fresh hb
 have vr:∀l:List Nat,Vals (l.map V.ref) (l.map Value.ref):=fun l=>by
  induction l with
  |nil=>exact .nil
  |cons x l ih=>exact .cons rfl ih
 have get:∀{ws:List V} {Zr:List Value} (v:Vals ws Zr) {j:Nat} {u:Value},Zr.toArray[j]?=some u->RelV (ws.getD j .non) u:=fun{ws Zr} v {j u} e=>by
  have e':Zr[j]?=some u:=by simpa using e
  have hj:j<ws.length:=by rw[v.length];exact(zAa.mp e').1
  obtain⟨u',e1,r⟩:=v.get (zA0 hj);rw[e']at e1;cases e1;rw[zA7,zA0 hj];exact r
 refine⟨.ref Lz,H',(show Inv X Zt σ H' {s1 with heap:=h',toks:=tk}from Bo I1 QF old fun b o hb e=>?_),rfl,q Lz as H' (fun b o e=>by rw[old b (I1.hok.lt e)];exact e) (fresh _ Zz) (nn Zz) eL hl eT⟩
 obtain⟨b',rfl⟩:∃b':Nat,b'=b:=⟨b,rfl⟩
 by_cases h1:b'=Lz
 .subst h1;rw[eL]at e;cases e;refine⟨by rw[zA1,hl];exact z1,as.map Value.ref,cc,vr as,?_⟩;rw[<-cq];simpa using at'
 .by_cases h2:∃j:Nat,as[j]?=some b'
  .obtain⟨j,hj⟩:=h2;rw[eT j b' hj]at e;cases e;obtain⟨u,v,w',e1,e2,e3,e4⟩:=hG.rows j b' hj;exact⟨(by show 3<=sizeLine;decide),[u,v,w'],.cons (get v1 e1) (.cons (get v2 e2) (.cons (get v3 e3) .nil)),_,e4,rfl,⟨_,rfl⟩⟩
  .exfalso
   have:H' b'=H1 b':=by
    show(if b'=Lz then _ else if hj:∃j:Nat,as[j]?=some b' then some (HO.tup (yS xs ys zs hj.choose))else H1 b')=_;rw[zAv h1,dif_neg h2]
   rw[this,fresh b' hb]at e;cases e
end
end L2.Z3
namespace L2
open PySem PySem.Spec PyProof.Rows PySem.SeqAt
theorem Hw{X:Cx}{S:Addr->Prop}(hu:X.A.units+64<cLine):OpR X (compareOp .NotEq) (fun x y H Q=>∃d,IsTh S H x d/\IsTh S H y d/\shaped d=true/\noMix d d=true/\Q (.bl false) H):=by
 intro Zt s σ H x y v u Q I rx ry h;obtain⟨d,t1,t2,sh,nm,q⟩:=h;obtain⟨as,r1,_⟩:=t1.reads I rx;obtain⟨bs,r2,_⟩:=t2.reads I ry;refine ne_dataH_same r1 r2 sh sh hu nm ⟨.bl false,H,I,?_,q⟩;rw[Spec.same_self];rfl
end L2
namespace K31
open PySem L2
def top(i:Nat):Stmt:=PySem.Challenge.pw_woolyears_k31_sums_of_each_holder.main.body.getD i (.Pass ⟨0,0,0,0⟩)
def dG(d:PyData):Bool:=rB d&&!rC d
def items:PyData->List PyData
 |.tuple ds=>ds
 |_=>[]
def intOf:PyData->Int
 |.int i=>i
 |_=>0
def bC(d:PyData)(f m:Int):Bool:=rD d&&(decide (f<=(items d).length)&&decide (((items d).length:Int)<=m))
def bD(d:PyData)(n:Int):Bool:=bC d n n&&(items d).all dG
def qu(d:PyData):Bool:=bD d 3&&(items d).all fun x=>decide (0<=intOf x)&&decide (intOf x<=999)
def iV(d:PyData):Bool:=bC d 1 20&&(items d).all qu
def at_(d:PyData)(i:Nat):Int:=intOf ((items d).getD i .none)
def rR(a b c d e f:Int):Bool:=
 (decide (0<=a)&&decide (a<8))&&((decide (0<=b)&&decide (b<3))&&((decide (0<=c)&&(decide (c<=d)&&decide (d<=19)))&&((decide (1<=e)&&decide (e<=99))&&(decide (0<=f)&&decide (f<=1000000)))))
def jO(d:PyData):Bool:=bD d 6&&rR (at_ d 0) (at_ d 1) (at_ d 2) (at_ d 3) (at_ d 4) (at_ d 5)
def fJ(d:PyData):Bool:=bC d 0 10&&(items d).all jO
theorem nd1(x:Str):([x]:List Str).Nodup:=by simp
theorem Bq(d:PyData):1<=sz d:=by cases d<;>simp[sz]
theorem rT:∀(ds:List PyData),ds.length<=szs ds
 |[]=>zAp _
 |d::ds=>by
  have:=rT ds;have:=Bq d;simp only[List.length_cons,szs];lia
theorem rW:∀{ds:List PyData} {d:PyData},d∈ds->sz d<=szs ds
 |x::ds,d,h=>by
  simp only[szs];rcases zAo.mp h with e|e
  .rw[e];lia
  .have:=rW e;lia
theorem jP{ds:List PyData}{d:PyData}(h:d∈ds)(hz:sz (.tuple ds)<=4000):sz d<=4000:=by
 have:=rW h;simp only[sz]at hz;lia
theorem fW{S:Addr->Prop}{H:Hp}{xs:List V}{ds:List PyData}(r:IsThs S H xs ds)(hz:sz (.tuple ds)<=4000):xs.length<sizeLine:=by
 have:=rT ds;have:=r.length;simp only[sz]at hz;rw[sizeLine_eq];lia
def spT(f:PyData->Bool):Sp:=fun vs H Q _=>∃S v d,vs=[v]/\IsTh S H v d/\sz d<=4000/\∀H',Same H H'->Q (.bl (f d)) H'
inductive SpT1I(f:PyData->Int->Bool)(vs:List V)(H:Hp)(Q:VK):Prop
 |mk:∀S v d n,(vs=[v,.int n])->(IsTh S H v d)->(sz d<=4000)->(∀H',Same H H'->Q (.bl (f d n)) H')->SpT1I f vs H Q
def Ez(f:PyData->Int->Bool):Sp:=fun vs H Q _=>SpT1I f vs H Q
def lV(f:PyData->Int->Int->Bool):Sp:=fun vs H Q _=>∃S v d n m,vs=[v,.int n,.int m]/\IsTh S H v d/\sz d<=4000/\∀H',Same H H'->Q (.bl (f d n m)) H'
structure Mg(mg:Str->Option Value):Prop where
 isinstance:mg "isinstance"=none
 int:mg "int"=none
 bool:mg "bool"=none
 tuple:mg "tuple"=none
 len:mg "len"=none
 all:mg "all"=none
theorem boot_int:bootBuiltins "int"=some (.type "int"):=by decide +kernel
theorem boot_bool:bootBuiltins "bool"=some (.type "bool"):=by decide +kernel
theorem boot_tuple:bootBuiltins "tuple"=some (.type "tuple"):=by decide +kernel
theorem boot_isinstance:bootBuiltins "isinstance"=some (.builtin "isinstance"):=by decide +kernel
theorem boot_all:bootBuiltins "all"=some (.builtin "all"):=by decide +kernel
theorem dN{K:Frag}{S:Addr->Prop}{te:TE}{src:List (Option Nat)}{i j:Nat}{σ:St}{H:Hp}{Q:VK}{a:Addr}{xs:List V}{ds:List PyData}(f:PyData->Bool)(iE:σ[i]?=some (some (.ref a)))(ea:H a=some (.tup xs))(r:IsThs S H xs ds)(hl:xs.length<sizeLine)
  (nK:∀v d H1 Q1,d∈ds->Same H H1->IsTh S H1 v d->(∀H',Same H1 H'->Q1 (.bl (f d)) H')->te ((capσ σ src).set j (some v)) H1 Q1) (q:∀H',Same H H'->Q (.bl (ds.all f)) H'):
  tCB (fun xs H Q=>∃(p:Addr) (bs:List Bool),xs=[.ref p]/\SqL K H p (bs.map V.bl)/\Q (.bl (bs.all id)) H) (tL (Ao (Ir K (DN i)) src (bH j) tR te) GC) σ H Q:=by
 refine⟨_,iE,a,rfl,⟨xs,SqT.of ea⟩,ue (j:=j) f ea r hl nK fun H2 s2 D hD=>⟨D,ds.map f,rfl,?_,?_⟩⟩
 .rw[<-Av];exact SqL.of aa
 .rw[Hh];exact q _ (s2.updR hD)
structure Nums(mg:Str->Option Value):Prop where
 sorts:∃t,mg "SORTS"=some (.int 3 t)
 holders:∃t,mg "HOLDERS"=some (.int 8 t)
 year:∃t,mg "LAST_YEAR"=some (.int 19 t)
 clips:∃t,mg "MOST_CLIPS"=some (.int 20 t)
 proms:∃t,mg "MOST_PROMISES"=some (.int 10 t)
 wool:∃t,mg "MOST_WOOL"=some (.int 999 t)
 sacks:∃t,mg "MOST_SACKS"=some (.int 99 t)
 price:∃t,mg "MOST_PRICE"=some (.int 1000000 t)
theorem kW{d:PyData}{n:Int}(h:bD d n=true):bC d n n=true/\∀x∈items d,dG x=true:=by
 unfold bD at h;rw[zAc]at h;exact⟨h.1,List.all_eq_true.mp h.2⟩
theorem kY{S:Addr->Prop}{H:Hp}{v:V}{d:PyData}(h:IsTh S H v d)(e:dG d=true):∃i,v=.int i/\d=.int i:=by
 cases h with
 |int i=>exact⟨i,rfl,rfl⟩
 |_=>cases e
theorem jQ{α:Type}{n:Nat}{l:List α}(h:l.length=n+1):∃a t,l=a::t/\t.length=n:=by
 cases l with
 |nil=>cases h
 |cons a t=>exact⟨a,t,rfl,Nat.succ.inj h⟩
theorem Ju{α:Type}{l:List α}(h:l.length=5):∃a b c d e,l=[a,b,c,d,e]:=by
 obtain⟨a,l1,e1,h1⟩:=jQ h;obtain⟨b,l2,e2,h2⟩:=jQ h1;obtain⟨c,l3,e3,h3⟩:=jQ h2;obtain⟨d,l4,e4,h4⟩:=jQ h3;obtain⟨e,l5,e5,h5⟩:=jQ h4;exact⟨a,b,c,d,e,by rw[e1,e2,e3,e4,e5,List.length_eq_zero_iff.mp h5]⟩
theorem Jv{α:Type}{l:List α}(h:l.length=6):∃a b c d e f,l=[a,b,c,d,e,f]:=by
 obtain⟨a,l1,e1,h1⟩:=jQ h;obtain⟨b,c,d,e,f,e2⟩:=Ju h1;exact⟨a,b,c,d,e,f,by rw[e1,e2]⟩
theorem gP{S:Addr->Prop}{H:Hp}{xs:List V}{d:PyData}{ds:List PyData}(r:IsThs S H xs (d::ds))(e:dG d=true):∃i t,xs=.int i::t/\d=.int i/\IsThs S H t ds:=by
 cases r with
 |cons h1 r=>
  obtain⟨i,rfl,rfl⟩:=kY h1 e;exact⟨i,_,rfl,rfl,r⟩
theorem nU{S:Addr->Prop}{H:Hp}{xs:List V}{d:PyData}{ds:List PyData}(r:IsThs S H xs (d::ds)):∃v t,xs=v::t/\IsTh S H v d/\IsThs S H t ds:=by
 cases r with
 |cons h1 r=>exact⟨_,_,rfl,h1,r⟩
theorem yV{S:Addr->Prop}{H:Hp}{xs:List V}{ds:List PyData}(r:IsThs S H xs ds)(hl:ds.length=3):∃v0 v1 v2 d0 d1 d2,xs=[v0,v1,v2]/\ds=[d0,d1,d2]/\IsTh S H v0 d0/\IsTh S H v1 d1/\IsTh S H v2 d2:=by
 obtain⟨d0,l1,e1,h1⟩:=jQ hl;obtain⟨d1,l2,e2,h2⟩:=jQ h1;obtain⟨d2,l3,e3,h3⟩:=jQ h2;have e:ds=[d0,d1,d2]:=by rw[e1,e2,e3,List.length_eq_zero_iff.mp h3]
 subst e;obtain⟨v0,t0,f0,i0,r0⟩:=nU r;obtain⟨v1,t1,f1,i1,r1⟩:=nU r0;obtain⟨v2,t2,f2,i2,r2⟩:=nU r1;cases r2;exact⟨v0,v1,v2,d0,d1,d2,by rw[f0,f1,f2],rfl,i0,i1,i2⟩
theorem Br{S:Addr->Prop}{H:Hp}{xs:List V}{ds:List PyData}(r:IsThs S H xs ds)(hl:ds.length=6)(hw:∀x∈ds,dG x=true):
  ∃i1 i2 i3 i4 i5 i6:Int,xs=[.int i1,.int i2,.int i3,.int i4,.int i5,.int i6]/\ds=[.int i1,.int i2,.int i3,.int i4,.int i5,.int i6]:=by
 obtain⟨d1,d2,d3,d4,d5,d6,rfl⟩:=Jv hl;obtain⟨i1,t1,e1,rfl,r1⟩:=gP r (hw _ Zy);obtain⟨i2,t2,e2,rfl,r2⟩:=gP r1 (hw _ Zy);obtain⟨i3,t3,e3,rfl,r3⟩:=gP r2 (hw _ Zy);obtain⟨i4,t4,e4,rfl,r4⟩:=gP r3 (hw _ Zy);obtain⟨i5,t5,e5,rfl,r5⟩:=gP r4 (hw _ Zy);obtain⟨i6,t6,e6,rfl,r6⟩:=gP r5 (hw _ Zy);cases r6;exact⟨i1,i2,i3,i4,i5,i6,by rw[e1,e2,e3,e4,e5,e6],rfl⟩
theorem yW{ds:List PyData}{n m:Int}(h:bC (.tuple ds) n m=true):n<=(ds.length:Int)/\(ds.length:Int)<=m:=by
 have h:(true&&(decide (n<=(ds.length:Int))&&decide ((ds.length:Int)<=m)))=true:=h;rw[Bool.true_and,zAc]at h;exact⟨zB8 h.1,zB8 h.2⟩
def Cal(P:Program)(w:World)(K:Frag)(mg:Str->Option Value)(base:Heap)(k:Nat)(x:Str)(ps:List Str)(sp:Sp):Prop:=
 ∃f fd,FnOk P w K mg base CX0 k f fd ps sp/\mg x=some (.ref f)/\PySem.W.keepIn K (.ref f)=true/\Binds K fd ps []
theorem aK{X:Cx}{k j:Nat}{x:Str}{ps:List Str}{sp:Sp}{p pos:Pos}{e:Expr}{es:List Expr}{t:TA}(c:Cal X.prog X.w X.K X.mg X.base j x ps sp)(hr:Room k X.A)(ha:PA X (e::es) t)(G0:j<=k:=by decide)(hg:Gl X x:=by exact rfl)
  (sR:(x==("__debug__":Str))=false:=by decide) (he:starEach (e::es) X.env=(false,eval e X.env)::starEach es X.env:=by rfl) (qh:(backTo pos (starEach es X.env)).any (·.1)=false:=by rfl):
  PE X (.Call (.Name x p) (e::es) [] pos) (G5 sp [] E0 t):=by
 obtain⟨f,fd,F,hm,hk,hb⟩:=c;exact Ea F (hr.mono G0) hg hm hk hb .nil J3 ha sR he qh
variable{P:Program}{w:World}{K:Frag}{mg:Str->Option Value}{base:Heap}{f:Addr}{fd:FuncData}
theorem sc1:FnScope ["thing"] ["thing"] (aJ (top 9)):=fS
theorem uA(F:Fun K "is_whole" "is_whole" (top 9) f fd)(T:Mg mg):FnOk P w K mg base CX0 1 f fd ["thing"] (spT dG):=by
 refine F.ok sc1 (fun vs H Q E h=>?_) (fun ai A outer s H vs Q E hr h=>?_)
 .obtain⟨S,v,d,rfl,_⟩:=h;rfl
 .obtain⟨S,v,d,rfl,th,hz,q⟩:=h
  refine⟨_,aG (aQ (cO (aM iK rfl T.isinstance boot_isinstance (aP (pv 0) (aP (qQ rfl T.int boot_int (v:=.ty "int") rfl) aj)))
   (fG (Gw (aM iK rfl T.isinstance boot_isinstance (aP (pv 0) (aP (qQ rfl T.bool boot_bool (v:=.ty "bool") rfl) aj))))))),?_⟩
  refine⟨_,rfl,v,_,"int",rB d,rfl,th.ty,El d,_,rfl,?_⟩;have fin:=q H (Same.refl H);unfold dG at fin
  cases e:rB d with
  |false=>
   rw[e]at fin;exact bA fin
  |true=>
   rw[e]at fin;exact bK ⟨_,rfl,v,_,"bool",rC d,rfl,th.ty,Ar d,_,rfl,fin⟩
theorem sc2:FnScope ["thing","fewest","most"] ["thing","fewest","most"] (aJ (top 11)):=fS
theorem nW(F:Fun K "is_tuple_of" "is_tuple_of" (top 11) f fd)(T:Mg mg):FnOk P w K mg base CX0 1 f fd ["thing","fewest","most"] (lV bC):=by
 refine F.ok sc2 (fun vs H Q E h=>?_) (fun ai A outer s H vs Q E hr h=>?_)
 .obtain⟨S,v,d,n,m,rfl,_⟩:=h;rfl
 .obtain⟨S,v,d,n,m,rfl,th,hz,q⟩:=h
  refine⟨_,aG (aQ (cO (aM iK rfl T.isinstance boot_isinstance (aP (pv 0) (aP (qQ rfl T.tuple boot_tuple (v:=.ty "tuple") rfl) aj)))
   (fG (dw cD cD (pv 1) (aM bZ rfl T.len PySem.boot_len (aP (pv 0) aj)) (pv 2))))),?_⟩
  refine⟨_,rfl,v,_,"tuple",rD d,rfl,th.ty,Em d,_,rfl,?_⟩;have fin:=q H (Same.refl H);unfold bC at fin
  cases e:rD d with
  |false=>
   rw[e]at fin;exact bA fin
  |true=>
   rw[e]at fin;refine bK ?_
   cases th with
   |@tup a xs ds ea r=>
    have hl:=r.length;refine⟨_,rfl,_,rfl,a,xs,rfl,.inr (SqT.of ea),_,_,rfl,rfl,_,rfl,?_⟩;rw[hl];have fin:Q (.bl (true&&(decide (n<=(ds.length:Int))&&decide ((ds.length:Int)<=m)))) H:=fin
    cases e1:decide (n<=(ds.length:Int))with
    |false=>
     rw[e1]at fin;exact bA fin
    |true=>
     rw[e1]at fin;exact bK ⟨_,rfl,_,_,rfl,rfl,fin⟩
   |_=>cases e
theorem sc3:FnScope ["thing","many"] ["thing","many"] (aJ (top 12)):=fS
theorem pC(F:Fun K "are_wholes" "are_wholes" (top 12) f fd)(T:Mg mg)(c1:Cal P w K mg base 1 "is_whole" ["thing"] (spT dG))(c2:Cal P w K mg base 1 "is_tuple_of" ["thing","fewest","most"] (lV bC)):
  FnOk P w K mg base CX0 2 f fd ["thing","many"] (Ez bD):=by
 refine F.ok sc3 (fun vs H Q E h=>?_) (fun ai A outer s H vs Q E hr h=>?_)
 .obtain⟨S,v,d,n,rfl,_⟩:=h;rfl
 .obtain⟨S,v,d,n,rfl,th,hz,q⟩:=h
  refine⟨_,aG (aQ (cO (aK c2 hr (aP (pv 0) (aP (pv 1) (aP (pv 1) aj))))
   (fG (aM (fV rfl) rfl T.all boot_all (aP (bx ["part"] [none] rfl (ig (pv 0))
    (fun C fp Zt s₂ H₂=>⟨bj (i:=0) (nd1 _) rfl (Or.inl rfl),bI,aK c1 hr (aP (pv 0) aj)⟩) (fun C=>trivial) ⟨rfl,rfl,rfl,rfl⟩) aj))))),?_⟩
  refine⟨_,rfl,_,rfl,_,rfl,S,v,d,n,n,rfl,th,hz,fun H1 s1=>⟨_,rfl,?_⟩⟩;have fF:=th.same s1
  cases e:bC d n n with
  |false=>
   refine bA ?_;have fin:=q H1 s1;unfold bD at fin;rw[e]at fin;exact fin
  |true=>
   refine bK ?_
   cases fF with
   |@tup a xs ds ea r=>
    have ew:bD (.tuple ds) n=ds.all dG:=by unfold bD;rw[e];rfl
    refine dN dG rfl ea r (fW r hz) (fun v d H2 Q2 hm s2 t2 q2=>⟨_,rfl,S,v,d,rfl,t2,jP hm hz,q2⟩) fun H2 s2=>?_;rw[<-ew];exact q _ (s1.trans s2)
   |_=>cases e
theorem sc13:FnScope ["thing"] ["thing"] (aJ (top 23)):=fS
theorem vz(F:Fun K "is_clip" "is_clip" (top 23) f fd)(T:Mg mg)(N:Nums mg)(c1:Cal P w K mg base 2 "are_wholes" ["thing","many"] (Ez bD)):
  FnOk P w K mg base CX0 3 f fd ["thing"] (spT qu):=by
 refine F.ok sc13 (fun vs H Q E h=>?_) (fun ai A outer s H vs Q E hr h=>?_)
 .obtain⟨S,v,d,rfl,_⟩:=h;rfl
 .obtain⟨S,v,d,rfl,th,hz,q⟩:=h;obtain⟨t3,e3⟩:=N.sorts;obtain⟨t9,e9⟩:=N.wool
  refine⟨_,aG (aQ (cO (aK c1 hr (aP (pv 0) (aP (bY (v:=.int 3) rfl e3 ⟨_,rfl⟩) aj)))
   (fG (aM (fV rfl) rfl T.all boot_all (aP (bx ["sacks"] [none] rfl (ig (pv 0))
    (fun C fp Zt s₂ H₂=>⟨bj (i:=0) (nd1 _) rfl (Or.inl rfl),bI,dw cD cD aA (pv 0) (bY (v:=.int 999) rfl e9 ⟨_,rfl⟩)⟩) (fun C=>trivial) ⟨rfl,rfl,rfl,rfl⟩) aj))))),?_⟩
  refine⟨_,rfl,S,v,d,3,rfl,th,hz,fun H1 s1=>⟨_,rfl,?_⟩⟩;have fF:=th.same s1;have fin:=fun H' (s:Same H H')=>q H' s;unfold qu at fin
  cases e:bD d 3 with
  |false=>
   rw[e]at fin;exact bA (fin _ s1)
  |true=>
   rw[e]at fin;refine bK ?_;obtain⟨e1,e2⟩:=kW e
   cases fF with
   |@tup a xs ds ea r=>
    refine dN (fun x=>decide (0<=intOf x)&&decide (intOf x<=999)) rfl ea r (fW r hz) (fun v d H2 Q2 hm s2 t2 q2=>?_) fun H2 s2=>fin _ (s1.trans s2);obtain⟨i,rfl,rfl⟩:=kY t2 (e2 d hm);refine⟨_,rfl,_,_,rfl,rfl,_,rfl,?_⟩;have q3:=q2 H2 (Same.refl _);show if decide ((0:Int)<=i)=true then _ else _
    cases e5:decide ((0:Int)<=i)with
    |false=>
     refine bA ?_;have q3:Q2 (.bl (decide ((0:Int)<=i)&&decide (i<=999))) H2:=q3;rw[e5]at q3;exact q3
    |true=>
     refine bK ⟨_,_,rfl,rfl,?_⟩;have q3:Q2 (.bl (decide ((0:Int)<=i)&&decide (i<=999))) H2:=q3;rw[e5]at q3;exact q3
   |_=>cases e1
theorem sc14:FnScope ["thing"] ["thing"] (aJ (top 24)):=fS
theorem rY(F:Fun K "are_clips" "are_clips" (top 24) f fd)(T:Mg mg)(N:Nums mg)(c1:Cal P w K mg base 3 "is_clip" ["thing"] (spT qu))(c2:Cal P w K mg base 1 "is_tuple_of" ["thing","fewest","most"] (lV bC)):
  FnOk P w K mg base CX0 4 f fd ["thing"] (spT iV):=by
 refine F.ok sc14 (fun vs H Q E h=>?_) (fun ai A outer s H vs Q E hr h=>?_)
 .obtain⟨S,v,d,rfl,_⟩:=h;rfl
 .obtain⟨S,v,d,rfl,th,hz,q⟩:=h;obtain⟨t3,e3⟩:=N.clips
  refine⟨_,aG (aQ (cO (aK c2 hr (aP (pv 0) (aP aA (aP (bY (v:=.int 20) rfl e3 ⟨_,rfl⟩) aj))))
   (fG (aM (fV rfl) rfl T.all boot_all (aP (bx ["part"] [none] rfl (ig (pv 0))
    (fun C fp Zt s₂ H₂=>⟨bj (i:=0) (nd1 _) rfl (Or.inl rfl),bI,aK c1 hr (aP (pv 0) aj)⟩) (fun C=>trivial) ⟨rfl,rfl,rfl,rfl⟩) aj))))),?_⟩
  refine⟨_,rfl,S,v,d,1,20,rfl,th,hz,fun H1 s1=>⟨_,rfl,?_⟩⟩;have fF:=th.same s1;have fin:=fun H' (s:Same H H')=>q H' s;unfold iV at fin
  cases e:bC d 1 20 with
  |false=>
   rw[e]at fin;exact bA (fin _ s1)
  |true=>
   rw[e]at fin;refine bK ?_
   cases fF with
   |@tup a xs ds ea r=>exact dN qu rfl ea r (fW r hz) (fun v d H2 Q2 hm s2 t2 q2=>⟨_,rfl,S,v,d,rfl,t2,jP hm hz,q2⟩) fun H2 s2=>fin _ (s1.trans s2)
   |_=>cases e
theorem sc15:FnScope ["thing","holder","sort","first","last","sacks","price"] ["thing"] (aJ (top 25)):=fS
theorem pF(F:Fun K "is_promise" "is_promise" (top 25) f fd)(T:Mg mg)(N:Nums mg)(c1:Cal P w K mg base 2 "are_wholes" ["thing","many"] (Ez bD)):
  FnOk P w K mg base CX0 3 f fd ["thing"] (spT jO):=by
 refine F.ok sc15 (fun vs H Q E h=>?_) (fun ai A outer s H vs Q E hr h=>?_)
 .obtain⟨S,v,d,rfl,_⟩:=h;rfl
 .obtain⟨S,v,d,rfl,th,hz,q⟩:=h;obtain⟨t1,e1⟩:=N.holders;obtain⟨t2,e2⟩:=N.sorts;obtain⟨t3,e3⟩:=N.year;obtain⟨t4,e4⟩:=N.sacks;obtain⟨t5,e5⟩:=N.price
  refine⟨_,aB (cU (dR (fU (aK c1 hr (aP (pv 0) (aP aA aj))))) (aG (aQ mR)) bz)
   (aB (cJ (pv 0) (bF rfl (ao (pgn 1 sc15.nd) (ao (pgn 2 sc15.nd) (ao (pgn 3 sc15.nd)
    (ao (pgn 4 sc15.nd) (ao (pgn 5 sc15.nd) (ao (pgn 6 sc15.nd) aV))))))))
   (aG (aQ (cO (dw cD jf aA (pv 1) (bY (v:=.int 8) rfl e1 ⟨_,rfl⟩)) (cO (dw cD jf aA (pv 2) (bY (v:=.int 3) rfl e2 ⟨_,rfl⟩))
    (cO (yH cD cD cD aA (pv 3) (pv 4) (bY (v:=.int 19) rfl e3 ⟨_,rfl⟩)) (cO (dw cD cD aA (pv 5) (bY (v:=.int 99) rfl e4 ⟨_,rfl⟩))
     (fG (dw cD cD aA (pv 6) (bY (v:=.int 1000000) rfl e5 ⟨_,rfl⟩)))))))))),?_⟩
  refine⟨_,rfl,S,v,d,6,rfl,th,hz,fun H1 s1=>⟨_,rfl,?_⟩⟩;have fF:=th.same s1;have fin:=fun H' (s:Same H H')=>q H' s;unfold jO at fin
  cases e:bD d 6 with
  |false=>
   rw[e]at fin;exact bK (fin _ s1)
  |true=>
   rw[e]at fin;refine bA ?_;obtain⟨z1,z2⟩:=kW e
   cases fF with
   |@tup a xs ds ea r=>
    have hl:ds.length=6:=by
     have:=yW z1;lia
    obtain⟨i1,i2,i3,i4,i5,i6,rfl,rfl⟩:=Br r hl z2;refine⟨_,rfl,a,_,rfl,SqT.of ea,rfl,_,_,rfl,_,_,rfl,_,_,rfl,_,_,rfl,_,_,rfl,_,_,rfl,rfl,?_⟩;refine iQ (cY iu (fZ rfl) iu) (fun _=>iQ (cY iu (fZ rfl) iu) fun _=>iQ (yI iu (fZ rfl) (fZ rfl) iu) fun _=>iQ (cY iu (fZ rfl) iu) fun _=>cY iu (fZ rfl) iu) _ ?_;exact fin H1 s1
   |_=>cases z1
theorem Kq:FnScope ["thing"] ["thing"] (aJ (top 26)):=fS
theorem lW(F:Fun K "are_promises" "are_promises" (top 26) f fd)(T:Mg mg)(N:Nums mg)(c1:Cal P w K mg base 3 "is_promise" ["thing"] (spT jO))(c2:Cal P w K mg base 1 "is_tuple_of" ["thing","fewest","most"] (lV bC)):
  FnOk P w K mg base CX0 4 f fd ["thing"] (spT fJ):=by
 refine F.ok Kq (fun vs H Q E h=>?_) (fun ai A outer s H vs Q E hr h=>?_)
 .obtain⟨S,v,d,rfl,_⟩:=h;rfl
 .obtain⟨S,v,d,rfl,th,hz,q⟩:=h;obtain⟨t3,e3⟩:=N.proms
  refine⟨_,aG (aQ (cO (aK c2 hr (aP (pv 0) (aP aA (aP (bY (v:=.int 10) rfl e3 ⟨_,rfl⟩) aj))))
   (fG (aM (fV rfl) rfl T.all boot_all (aP (bx ["part"] [none] rfl (ig (pv 0))
    (fun C fp Zt s₂ H₂=>⟨bj (i:=0) (nd1 _) rfl (Or.inl rfl),bI,aK c1 hr (aP (pv 0) aj)⟩) (fun C=>trivial) ⟨rfl,rfl,rfl,rfl⟩) aj))))),?_⟩
  refine⟨_,rfl,S,v,d,0,10,rfl,th,hz,fun H1 s1=>⟨_,rfl,?_⟩⟩;have fF:=th.same s1;have fin:=fun H' (s:Same H H')=>q H' s;unfold fJ at fin
  cases e:bC d 0 10 with
  |false=>
   rw[e]at fin;exact bA (fin _ s1)
  |true=>
   rw[e]at fin;refine bK ?_
   cases fF with
   |@tup a xs ds ea r=>exact dN jO rfl ea r (fW r hz) (fun v d H2 Q2 hm s2 t2 q2=>⟨_,rfl,S,v,d,rfl,t2,jP hm hz,q2⟩) fun H2 s2=>fin _ (s1.trans s2)
   |_=>cases e
def pH(d:PyData)(lo hi:Int):Bool:=dG d&&(decide (lo<=intOf d)&&decide (intOf d<=hi))
theorem nY:bootBuiltins "repr"=some (.builtin "repr"):=by decide +kernel
theorem Kr:FnScope ["_law_found","_law_due_here"] ["_law_found","_law_due_here"] (aJ (top 61)):=fS
theorem iW{X:Cx}{K:Frag}(hK:X.K=K):IxR X (J0 K):=by
 subst hK;exact bV
theorem boot_min:bootBuiltins "min"=some (.builtin "min"):=by decide +kernel
theorem room_un{A:Around}{k:Nat}(hr:Room k A):A.units<cLine:=by
 have:=hr.un;lia
theorem vA:bootBuiltins "list"=some (.type "list"):=by decide +kernel
def rowD(r:List Int):PyData:=.tuple (r.map .int)
def cF(rs:List (List Int)):PyData:=.tuple (rs.map rowD)
def fl(r:List Int)(i:Nat):Int:=r.getD i 0
def okP(r:List Int):Prop:=r.length=6/\(0<=fl r 0/\fl r 0<8)/\(0<=fl r 1/\fl r 1<3)/\(0<=fl r 2/\fl r 2<=fl r 3/\fl r 3<=19)/\(1<=fl r 4/\fl r 4<=99)/\(0<=fl r 5/\fl r 5<=1000000)
def fK(d:PyData):Bool:=bC d 0 12&&(items d).all fun x=>bD x 5
def rowsOf(d:PyData):List (List Int):=(items d).map fun x=>(items x).map intOf
theorem Bs:∀{ds:List PyData},(∀x∈ds,dG x=true)->ds=(ds.map intOf).map PyData.int
 |[],_=>rfl
 |d::ds,h=>by
  rw[zAk,zAk,<-Bs fun x hx=>h x (List.mem_cons_of_mem _ hx)];have:=h d List.mem_cons_self
  cases d with
  |int i=>rfl
  |_=>cases this
theorem jr{x:PyData}{n:Nat}(h:bD x n=true):x=rowD ((items x).map intOf)/\((items x).map intOf).length=n:=by
 obtain⟨h1,h2⟩:=kW h;unfold bC at h1;rw[zAc,zAc,Zp,Zp]at h1;obtain⟨ht,cv,eW⟩:=h1
 cases x with
 |tuple ds=>
  have cv:(n:Int)<=ds.length:=cv;have eW:(ds.length:Int)<=n:=eW;refine⟨?_,by show(ds.map intOf).length=n;rw[zA1];lia⟩;exact congrArg PyData.tuple (Bs h2)
 |_=>cases ht
theorem wX{ds:List PyData}{n:Nat}(h:∀x∈ds,bD x n=true):ds=(ds.map fun x=>(items x).map intOf).map rowD:=by
 induction ds with
 |nil=>rfl
 |cons d ds ih=>
  rw[zAk,zAk,<-ih fun x hx=>h x (List.mem_cons_of_mem _ hx),<-(jr (h d List.mem_cons_self)).1]
theorem kZ{d:PyData}{f m:Int}(h:bC d f m=true):∃ds,d=.tuple ds/\f<=ds.length/\(ds.length:Int)<=m:=by
 unfold bC at h;rw[zAc,zAc,Zp,Zp]at h
 cases d with
 |tuple ds=>exact⟨ds,rfl,h.2⟩
 |_=>cases h.1
theorem qw(r:List Int)(i:Nat)(h:i<r.length):at_ (rowD r) i=fl r i:=by
 show intOf ((r.map PyData.int).getD i .none)=r.getD i 0;rw[zA7,zA7,zAb,zA0 h];rfl
theorem vB{d:PyData}(h:fJ d=true):d=cF (rowsOf d)/\(rowsOf d).length<=10/\∀r∈rowsOf d,okP r:=by
 unfold fJ at h;rw[zAc]at h;obtain⟨ds,rfl,_,hl⟩:=kZ h.1;have h2:∀x∈ds,jO x=true:=List.all_eq_true.mp h.2
 have h3:∀x∈ds,bD x 6=true:=fun x hx=>by
  have:=h2 x hx;unfold jO at this;rw[zAc]at this;exact this.1
 refine⟨congrArg PyData.tuple (wX (n:=6) h3),by show(ds.map _).length<=10;rw[zA1];lia,fun r hr=>?_⟩;obtain⟨x,hx,rfl⟩:=zA5.mp hr;have hx:x∈ds:=hx;obtain⟨e,QG⟩:=jr (n:=6) (h3 x hx);have:=h2 x hx;unfold jO at this;rw[zAc]at this;have p:=this.2;rw[e]at p;rw[qw _ 0 Zz,qw _ 1 Zz,qw _ 2 Zz,qw _ 3 Zz,qw _ 4 Zz,qw _ 5 Zz]at p;unfold rR at p;simp only[Bool.and_eq_true,Zp]at p;obtain⟨⟨a1,a2⟩,⟨b1,b2⟩,⟨c1,c2,c3⟩,⟨d1,d2⟩,e1,e2⟩:=p;exact⟨QG,⟨a1,a2⟩,⟨b1,b2⟩,⟨c1,c2,c3⟩,⟨d1,d2⟩,e1,e2⟩
theorem vC{d:PyData}(h:fK d=true):d=cF (rowsOf d)/\(rowsOf d).length<=12/\∀r∈rowsOf d,r.length=5:=by
 unfold fK at h;rw[zAc]at h;obtain⟨ds,rfl,_,hl⟩:=kZ h.1;have h3:∀x∈ds,bD x 5=true:=List.all_eq_true.mp h.2;refine⟨congrArg PyData.tuple (wX (n:=5) h3),by show(ds.map _).length<=12;rw[zA1];lia,fun r hr=>?_⟩;obtain⟨x,hx,rfl⟩:=zA5.mp hr;exact(jr (n:=5) (h3 x hx)).2
structure RowsAt(H:Hp)(a:Addr)(xs:List V)(rs:List (List Int)):Prop where
 e:H a=some (.tup xs)
 l:xs.length=rs.length
 g:∀(i:Nat) (r:List Int),rs[i]?=some r->∃t,xs[i]?=some (V.ref t)/\H t=some (.tup (r.map V.int))
theorem RowsAt.keep{H H':Hp}{a:Addr}{xs:List V}{rs:List (List Int)}(h:RowsAt H a xs rs)(k:∀b l,H b=some (.tup l)->H' b=some (.tup l)):RowsAt H' a xs rs:=
 ⟨k _ _ h.e,h.l,fun i r e=>by
  obtain⟨t,e1,e2⟩:=h.g i r e
  exact⟨t,e1,k _ _ e2⟩⟩
theorem RowsAt.same{H H':Hp}{a:Addr}{xs:List V}{rs:List (List Int)}(h:RowsAt H a xs rs)(s:Same H H'):RowsAt H' a xs rs:=h.keep fun _ _ e=>s _ _ e
theorem uB{S:Addr->Prop}{H:Hp}:∀{r:List Int} {xs:List V},IsThs S H xs (r.map .int)->xs=r.map V.int
 |[],_,.nil=>rfl
 |i::r,_,.cons h t=>by
  cases h;rw[uB (r:=r) t];rfl
theorem Hx{S:Addr->Prop}{H:Hp}{v:V}{r:List Int}(h:IsTh S H v (rowD r)):∃t,v=V.ref t/\H t=some (.tup (r.map V.int)):=by
 generalize hd:rowD r=d at h
 cases h with
 |@tup a xs ds e t=>
  injection hd with hd;subst hd;rw[uB t]at e;exact⟨a,rfl,e⟩
 |_=>cases hd
theorem th_rows{S:Addr->Prop}{H:Hp}{v:V}{rs:List (List Int)}(h:IsTh S H v (cF rs)):∃a xs,v=.ref a/\RowsAt H a xs rs:=by
 generalize hd:cF rs=d at h
 cases h with
 |@tup a xs ds e t=>
  injection hd with hd;subst hd;refine⟨a,xs,rfl,e,by rw[t.length,zA1],fun i r hr=>?_⟩;have hi:i<rs.length:=(zAa.mp hr).1;have hx:xs[i]?=some (xs[i]'(by rw[t.length,zA1];exact hi)):=zA0 _;obtain⟨d,h1,h2⟩:=t.get hx;rw[zAb,hr]at h1;injection h1 with h1;subst h1;obtain⟨t',e1,e2⟩:=Hx h2;exact⟨t',by rw[hx,e1],e2⟩
 |_=>cases hd
theorem RowsAt.th{H:Hp}{a:Addr}:∀{rs:List (List Int)} {xs:List V},RowsAt H a xs rs->IsTh (fun _=>False) H (.ref a) (cF rs):=by
 intro rs xs h;refine .tup h.e ?_
 have gen:∀(rs:List (List Int)) (xs:List V),xs.length=rs.length->(∀(i:Nat) (r:List Int),rs[i]?=some r->∃t,xs[i]?=some (V.ref t)/\H t=some (.tup (r.map V.int)))->IsThs (fun _=>False) H xs (rs.map rowD):=by
  intro rs
  induction rs with
  |nil=>
   intro xs hl _;have:xs=[]:=List.length_eq_zero_iff.mp hl;subst this;exact .nil
  |cons r rs ih=>
   intro xs hl hg
   cases xs with
   |nil=>simp at hl
   |cons x xs=>
    obtain⟨t,e1,e2⟩:=hg 0 r rfl;have e1:x=.ref t:=by simpa using e1
    subst e1;exact .cons (.tup e2 (IsThs.ints r)) (ih xs (by simpa using hl) fun i r' e=>hg (i+1) r' (by simpa using e))
 exact gen rs xs h.l h.g
def dJ(L:List Int)(i:Int)(v:Int):List Int:=L.set i.toNat (L.getD i.toNat 0+v)
def hstep(n y:Int)(L:List Int)(s:List Int):List Int:=if fl s 0=n/\fl s 4<=y then dJ (dJ L (fl s 1) (-(fl s 3))) (fl s 2) (fl s 3)else L
def base0(p:List Int):List Int:=(List.replicate 8 0).set (fl p 0).toNat (fl p 4)
def bM(p:List Int)(ss:List (List Int))(n y:Int):List Int:=if fl p 2<=y/\y<=fl p 3 then ss.foldl (hstep n y) (base0 p)else List.replicate 8 0
def rZ(ps:List (List Int))(s:List Int):List Int:=ps.getD (fl s 0).toNat []
def uC(ps:List (List Int))(s:List Int):Bool:=(decide (0<=fl s 0)&&decide (fl s 0<ps.length))&&((decide (0<=fl s 1)&&decide (fl s 1<8))&&((decide (0<=fl s 2)&&decide (fl s 2<8))&&((!decide (fl s 1=fl s 2))&&((decide (1<=fl s 3)&&decide (fl s 3<=99))&&(decide (fl (rZ ps s) 2<=fl s 4)&&decide (fl s 4<=fl (rZ ps s) 3))))))
def years(a b:Int):List Int:=(List.range (b+1-a).toNat).map fun(i:Nat)=>a+i
def cM(ps ss:List (List Int))(s:List Int):Bool:=uC ps s&&(years (fl s 4) (fl (rZ ps s) 3)).all fun y=>decide (fl s 3<=(bM (rZ ps s) ss (fl s 0) y).getD (fl s 1).toNat 0)
def un(ps ss:List (List Int)):Option Nat:=(List.range ss.length).find? fun i=>!cM ps (ss.take i) (ss.getD i [])
theorem fX(L:List Int)(i v:Int):(dJ L i v).length=L.length:=by unfold dJ;rw[List.length_set]
theorem yX(n y:Int)(L s:List Int):(hstep n y L s).length=L.length:=by
 unfold hstep;split
 .rw[fX,fX]
 .rfl
theorem eV(p:List Int)(ss:List (List Int))(n y:Int):(bM p ss n y).length=8:=by
 unfold bM;split
 .have:∀(ss:List (List Int)) (L:List Int),L.length=8->(ss.foldl (hstep n y) L).length=8:=by
   intro ss
   induction ss with
   |nil=>exact fun L h=>h
   |cons s ss ih=>exact fun L h=>ih _ (by rw[yX];exact h)
  exact this ss _ (by unfold base0;rw[List.length_set,List.length_replicate])
 .rw[List.length_replicate]
theorem gQ{X:Cx}:Ip X (fun x y H Q=>∃p xs i v,x=.ref p/\y=.int i/\SqL X.K H p xs/\0<=i/\xs[i.toNat]?=some v/\Q v H):=by
 intro Zt s σ H x y v u Q I rx ry h;obtain⟨p,xs,i,z,rfl,rfl,hq,h0,he,q⟩:=h;cases rx;obtain⟨t,rfl⟩:=ry;obtain⟨Zr,r,pl,hz⟩:=I.list hq;obtain⟨w,ew,f7⟩:=r.get he;have hn:=mW;have hl:=r.length;have hi:=(zAa.mp he).1;exact PySem.wpAny_getItem_list pl.isList h0 Zz (by simpa using ew) ⟨z,H,I,f7,q⟩
theorem six_row{p:List Int}(h:p.length=6):p=[fl p 0,fl p 1,fl p 2,fl p 3,fl p 4,fl p 5]:=by
 obtain⟨a,b,c,d,e,f,rfl⟩:=Jv h;rfl
theorem jR{p:List Int}(h:p.length=5):p=[fl p 0,fl p 1,fl p 2,fl p 3,fl p 4]:=by
 obtain⟨a,b,c,d,e,rfl⟩:=Ju h;rfl
theorem mG(L:List Int)(i:Nat)(v:Int):(L.map V.int).set i (.int v)=(L.set i v).map V.int:=by rw[List.map_set]
theorem jc{L:List Int}{i:Nat}(h:i<L.length):(L.map V.int)[i]?=some (.int (L.getD i 0)):=by
 rw[zAb,zA0 h,zA7,zA0 h];rfl
theorem uD{n:Nat}{i:Int}(h0:0<=i)(h1:i<n):ixN n i=some i.toNat:=by
 unfold ixN;rw[zAy h0,zAy h1]
def okS(s:List Int):Prop:=s.length=5/\(0<=fl s 1/\fl s 1<8)/\(0<=fl s 2/\fl s 2<8)
inductive SpHeldI(vs:List V)(H:Hp)(Q:VK):Prop
 |mk:∀ap xp ps af xs ss n y,(vs=[.ref ap,.ref af,.int n,.int y])->(RowsAt H ap xp ps)->(RowsAt H af xs ss)->(0<=n)->(n<ps.length)->(okP (ps.getD n.toNat []))->(ss.length<=12)->((∀s∈ss,okS s))->(∀l H',Same H H'->H' l=some (.lst ((bM (ps.getD n.toNat []) ss n y).map V.int))->Q (.ref l) H')->SpHeldI  vs H Q
def vD:Sp:=fun vs H Q _=>SpHeldI  vs H Q
structure MS(mg:Str->Option Value):Prop where
 sales:∃t,mg "MOST_SALES"=some (.int 12 t)
theorem Jw:FnScope ["thing"] ["thing"] (aJ (top 27)):=fS
theorem su(F:Fun K "are_sales" "are_sales" (top 27) f fd)(T:Mg mg)(N:MS mg)(c1:Cal P w K mg base 2 "are_wholes" ["thing","many"] (Ez bD))(c2:Cal P w K mg base 1 "is_tuple_of" ["thing","fewest","most"] (lV bC)):
  FnOk P w K mg base CX0 3 f fd ["thing"] (spT fK):=by
 refine F.ok Jw (fun vs H Q E h=>?_) (fun ai A outer s H vs Q E hr h=>?_)
 .obtain⟨S,v,d,rfl,_⟩:=h;rfl
 .obtain⟨S,v,d,rfl,th,hz,q⟩:=h;obtain⟨t3,e3⟩:=N.sales
  refine⟨_,aG (aQ (cO (aK c2 hr (aq (pv 0) (aq aA (aq (bY (v:=.int 12) rfl e3 ⟨_,rfl⟩) aj))))
   (fG (aM (fV rfl) rfl T.all boot_all (aq (bx ["part"] [none] rfl (ig (pv 0))
    (fun C fp Zt s₂ H₂=>⟨bj (i:=0) (nd1 _) rfl (Or.inl rfl),bI,aK c1 hr (aq (pv 0) (aq aA aj))⟩) (fun C=>trivial) ⟨rfl,rfl,rfl,rfl⟩) aj))))),?_⟩
  refine⟨_,rfl,S,v,d,0,12,rfl,th,hz,fun H1 s1=>⟨_,rfl,?_⟩⟩;have fF:=th.same s1;have fin:=fun H' (s:Same H H')=>q H' s;unfold fK at fin
  cases e:bC d 0 12 with
  |false=>
   rw[e]at fin;exact bA (fin _ s1)
  |true=>
   rw[e]at fin;refine bK ?_
   cases fF with
   |@tup a xs ds ea r=>exact dN (fun x=>bD x 5) rfl ea r (fW r hz) (fun v d H2 Q2 hm s2 t2 q2=>⟨_,rfl,S,v,d,5,rfl,t2,jP hm hz,q2⟩) fun H2 s2=>fin _ (s1.trans s2)
   |_=>cases e
theorem sc23s:FnScope ["promises","sales","number","year","holder","sort","first","last","sacks","price","held","promise","seller","buyer","sold","since"] ["promises","sales","number","year"] (aJ (top 28)):=fS
theorem EY(F:Fun K "held_in" "held_in" (top 28) f fd)(N:Nums mg):FnOk P w K mg base CX0 1 f fd ["promises","sales","number","year"] vD:=by
 refine F.ok sc23s (fun vs H Q E h=>?_) (fun ai A outer s H vs Q E hr h=>?_)
 .obtain⟨ap,xp,ps,af,xs,ss,n,y,rfl,_⟩:=h;rfl
 .obtain⟨ap,xp,ps,af,xs,ss,n,y,rfl,rp,rs,n0,n1,okp,hl,fy,q⟩:=h;obtain⟨t1,e1⟩:=N.holders
  refine⟨_,aB (cJ (pX bT (pv 0) (pv 2)) (bF rfl (ao (pgn 4 sc23s.nd) (ao (pgn 5 sc23s.nd) (ao (pgn 6 sc23s.nd)
    (ao (pgn 7 sc23s.nd) (ao (pgn 8 sc23s.nd) (ao (pgn 9 sc23s.nd) aV))))))))
   (aB (pss 10 sc23s.nd (aU GQ (cQ (aq aA aj)) (bY (v:=.int 8) rfl e1 ⟨_,rfl⟩)))
   (aB (cU (dR (mV cD cD (pv 6) (pv 3) (pv 7))) (aG (aQ (pv 10))) bz)
   (aB (cJ (pv 8) (ie (pv 10) (pv 4) set_list))
   (aB (bN zB3 rfl (ig (pv 1)) (bF rfl (ao (pgn 11 sc23s.nd) (ao (pgn 12 sc23s.nd) (ao (pgn 13 sc23s.nd)
     (ao (pgn 14 sc23s.nd) (ao (pgn 15 sc23s.nd) aV))))))
    (aG (cU (PW.pt (qR (bf iI (pv 11) (pv 2) (bu _)) (lZ (bf cD (pv 15) (pv 3) (bu _)))))
     (aB (mj (pv 10) (pv 12) gQ (pv 14) Ad set_list) (aG (mj (pv 10) (pv 13) gQ (pv 14) uQ set_list))) bz)))
   (aG (aQ (pv 10))))))),?_⟩
  obtain⟨p,hp⟩:∃p,ps[n.toNat]?=some p:=⟨_,zA0 Zz⟩
  have ep:ps.getD n.toNat []=p:=by rw[zA7,hp];rfl
  rw[ep]at okp q;obtain⟨t,ex,et⟩:=rp.g _ _ hp;have p6:=six_row okp.1;obtain⟨l6,⟨a1,a2⟩,b,⟨c1,c2,c3⟩,⟨d1,d2⟩,ee⟩:=id okp
  have gS:atI xp n=some (.ref t):=by
   have:=du ex;rw[show((n.toNat:Nat):Int)=n by lia]at this;exact this
  rw[p6]at et;refine aC ?_;refine⟨_,rfl,_,rfl,ap,xp,n,.ref t,rfl,rfl,SqT.of rp.e,gS,?_⟩;refine⟨t,_,rfl,SqT.of et,rfl,_,_,rfl,_,_,rfl,_,_,rfl,_,_,rfl,_,_,rfl,_,_,rfl,rfl,?_⟩;dsimp only;refine aC (aR ?_);refine⟨zL,fun l0 vk=>⟨l0,8,_,rfl,rfl,aa,by decide,by decide,zL,fun l1 cv=>?_⟩⟩;have s1:Same H (upd (upd H l0 (.lst [V.int 0])) l1 (.lst (List.replicate (8:Int).toNat [V.int 0]).flatten)):=(Same.upd vk).updR cv;have el1:upd (upd H l0 (.lst [V.int 0])) l1 (.lst (List.replicate (8:Int).toNat [V.int 0]).flatten) l1=some (.lst ((List.replicate 8 (0:Int)).map V.int)):=aa;have rf:H l1=none:=(Same.upd vk).free cv;generalize upd (upd H l0 (.lst [V.int 0])) l1 (.lst (List.replicate (8:Int).toNat [V.int 0]).flatten)=H1 at s1 el1⊢;refine aF ?_;dsimp only;refine aC ?_;refine cY (p:=fun i j=>decide (i<=j)) (q:=fun i j=>decide (i<=j)) (i:=fl p 2) (j:=y) (k:=fl p 3) (fZ rfl) (fZ rfl) (fZ rfl) _ ⟨_,rfl,?_⟩;by_cases qV:fl p 2<=y/\y<=fl p 3
  .rw[decide_eq_true qV.1,decide_eq_true qV.2];refine bA (eF ?_);dsimp only;refine aC ?_;refine⟨_,rfl,_,rfl,_,rfl,l1,_,fl p 0,(fl p 0).toNat,rfl,rfl,el1,uD a1 (by show fl p 0<8;exact a2),?_⟩;rw[mG];dsimp only;refine aC ?_;have QH:af≠l1:=az rs.e rf;refine⟨_,rfl,af,rfl,⟨xs,SqT.of (by rw[au QH];exact s1 _ _ rs.e)⟩,?_⟩
   have IM:∀{Hc:Hp} {o:HO},Same H Hc->Same H (upd Hc l1 o):=fun{Hc o} sm b u e=>by
    rw[au (az e rf)];exact sm _ _ e
   refine DR (xs:=xs) (fun i σ Hc=>∃cS de df bX cb,σ=[some (.ref ap),some (.ref af),some (.int n),some (.int y),some (.int (fl p 0)),some (.int (fl p 1)),some (.int (fl p 2)),some (.int (fl p 3)),some (.int (fl p 4)),some (.int (fl p 5)),some (.ref l1),cS,de,df,bX,cb]/\Same H Hc/\Hc l1=some (.lst (((ss.take i).foldl (hstep n y) (base0 p)).map V.int))) ?_ ?_ ?_ ?_
   .exact⟨none,none,none,none,none,rfl,IM s1,aa⟩
   .rintro i σ Hc hi ⟨cS,de,df,bX,cb,rfl,sm,el⟩;exact SqT.of (sm _ _ rs.e)
   .rintro i x σ Hc hx ⟨cS,de,df,bX,cb,rfl,sm,el⟩
    have hi:i<ss.length:=by
     have:=(zAa.mp hx).1;rw[rs.l]at this;exact this
    obtain⟨tr,fk,eI⟩:=rs.g i ss[i] (zA0 hi)
    have:x=.ref tr:=by
     rw[hx]at fk;exact zAl fk
    subst this;obtain⟨o1,⟨o2,o3⟩,o4,o5⟩:=fy ss[i] (zAh hi);have s5:=jR o1;have bP:ss.take (i+1)=ss.take i++[ss[i]]:=by rw[zAj,zA0 hi];rfl
    have BQ:(ss.take (i+1)).foldl (hstep n y) (base0 p)=hstep n y ((ss.take i).foldl (hstep n y) (base0 p)) ss[i]:=by rw[bP,List.foldl_append];rfl
    rw[BQ];generalize hL:(ss.take i).foldl (hstep n y) (base0 p)=L at el⊢
    have lL:L.length=8:=by
     have:=eV p (ss.take i) n y;unfold bM at this;rw[zAy qV,hL]at this;exact this
    generalize ss[i]=r at eI s5 o2 o3 o4 o5⊢;rw[s5]at eI;refine⟨tr,_,rfl,SqT.of (sm _ _ eI),rfl,_,_,rfl,_,_,rfl,_,_,rfl,_,_,rfl,_,_,rfl,rfl,?_⟩;refine⟨_,rfl,_,rfl,rfl,_,rfl,?_⟩;by_cases hn:fl r 0=n
    .rw[zAt (show V.int (fl r 0)=V.int n by rw[hn])];refine bK ?_;refine⟨_,rfl,_,rfl,_,_,rfl,rfl,_,rfl,?_⟩;by_cases hy:fl r 4<=y
     .rw[zAt hy];refine bK ?_;have e1:hstep n y L r=dJ (dJ L (fl r 1) (-(fl r 3))) (fl r 2) (fl r 3):=zAy ⟨hn,hy⟩;rw[e1];refine aC ?_;refine⟨_,rfl,_,rfl,l1,_,fl r 1,_,rfl,rfl,SqL.of el,o2,jc Zz,_,rfl,_,_,rfl,rfl,l1,_,fl r 1,(fl r 1).toNat,rfl,rfl,el,uD o2 (by rw[zA1];lia),?_⟩;rw[mG]
      have e2:L.set (fl r 1).toNat (L.getD (fl r 1).toNat 0-fl r 3)=dJ L (fl r 1) (-(fl r 3)):=by
       unfold dJ;rw[Int.sub_eq_add_neg]
      rw[e2];generalize IL:dJ L (fl r 1) (-(fl r 3))=L1;have WC:L1.length=8:=by rw[<-IL,fX];exact lL
      refine⟨_,rfl,_,rfl,l1,_,fl r 2,_,rfl,rfl,SqL.of aa,o4,jc Zz,_,rfl,_,_,rfl,rfl,l1,_,fl r 2,(fl r 2).toNat,rfl,rfl,aa,uD o4 (by rw[zA1];lia),?_⟩;rw[mG];exact⟨_,_,_,_,_,rfl,IM (IM sm),aa⟩
     .rw[zB0 hy];refine bA ?_;have e1:hstep n y L r=L:=zAv fun z=>hy z.2;rw[e1];exact⟨_,_,_,_,_,rfl,sm,el⟩
    .rw[zB0 (fun z:V.int (fl r 0)=V.int n=>hn (by injection z))];refine bA (bA ?_);have e1:hstep n y L r=L:=zAv fun z=>hn z.1;rw[e1];exact⟨_,_,_,_,_,rfl,sm,el⟩
   .rintro σ Hc ⟨cS,de,df,bX,cb,rfl,sm,el⟩;rw[rs.l,zAm]at el;refine⟨_,rfl,q _ _ sm ?_⟩;unfold bM;rw[zAy qV];exact el
  .have hb:(decide (fl p 2<=y)&&decide (y<=fl p 3))=false:=by
    cases e:(decide (fl p 2<=y)&&decide (y<=fl p 3))with
    |false=>rfl
    |true=>
     rw[zAc,Zp,Zp]at e;exact absurd e qV
   rw[hb];refine bK ⟨_,rfl,q _ _ s1 ?_⟩;unfold bM;rw[zAv qV];exact el1
theorem Bt{te:TE}{lo:Int}{n:Nat}{dv:St}{j:Nat}{H0:Hp}{Fin:List V->Hp->Prop}(Pv:List V->Hp->Prop)(h0:Pv [] H0)(hz:n<sizeLine)
  (step:∀i ys H Q,i<n->ys.length=i->Pv ys H->(∀y H',Pv (ys++[y]) H'->Q y H')->te (dv.set j (some (.int (lo+i)))) H Q)
  (fin:∀ys H,ys.length=n->Pv ys H->Fin ys H):jD (Itr lo n) (bH j) tR te Fin dv H0:=by
 refine⟨fun i m ys σ H=>m=n-i/\i<=n/\ys.length=i/\(∀o,σ.set j o=dv.set j o)/\Pv ys H,⟨_,rfl,zAp _,rfl,fun _=>rfl,h0⟩,?_⟩;rintro i m ys σ H ⟨rfl,hi,hy,iE,p⟩;refine⟨Zz,?_⟩;by_cases ax:i<n
 .refine .inr ⟨ax,fun x H' y=>?_⟩;obtain⟨e,e2⟩:=y;subst e;subst e2;show te (σ.set j (some (.int (lo+i)))) H' _;rw[iE]
  exact step i ys H' _ ax hy p fun y H2 p2=>⟨n-(i+1),Zz,rfl,ax,by rw[zA2,hy];rfl,fun o=>by rw[List.set_set],p2⟩
 .have e:i=n:=Zz
  subst e;exact .inl ⟨zA3 _,fin ys H hy p⟩
theorem Jx{σ:St}{H:Hp}{ta tb:TE}{i j:Int}(a:Ev σ H ta (.int i))(b:Ev σ H tb (.int j)):Ev σ H (tOp rNe ta tb) (.bl (!decide (i=j))):=fun Q q=>a _ (b _ ⟨rfl,by
 have ed:decide (V.int i=V.int j)=decide (i=j):=decide_eq_decide.mpr ⟨fun z=>by injection z,fun z=>by rw[z]⟩;rw[ed]
 exact q⟩)
theorem yZ(a b:Int):(years a b).length=(b+1-a).toNat:=by unfold years;rw[zA1,List.length_range]
theorem za{a b:Int}{i:Nat}(h:i<(b+1-a).toNat):(years a b)[i]?=some (a+i):=by
 unfold years;rw[zAb,List.getElem?_range h];rfl
theorem zb{α β:Type}{l:List α}{f:α->β}{ys:List β}{x:α}(ey:ys=(l.take ys.length).map f)(hx:l[ys.length]?=some x):ys++[f x]=(l.take (ys++[f x]).length).map f:=by
 rw[zA2,List.length_singleton,zAj,hx,zA4,<-ey];rfl
inductive SpBetwI(vs:List V)(H:Hp)(Q:VK):Prop
 |mk:∀ap xp ps t s,(vs=[.ref ap,.ref t])->(RowsAt H ap xp ps)->((∀r∈ps,okP r))->(H t=some (.tup (s.map V.int)))->(s.length=5)->(Q (.bl (uC ps s)) H)->SpBetwI  vs H Q
def Bu:Sp:=fun vs H Q _=>SpBetwI  vs H Q
inductive SpHoldsI(vs:List V)(H:Hp)(Q:VK):Prop
 |mk:∀ap xp ps af xs ss t s,(vs=[.ref ap,.ref af,.ref t])->(RowsAt H ap xp ps)->((∀r∈ps,okP r))->(RowsAt H af xs ss)->(ss.length<=12)->((∀s∈ss,okS s))->(H t=some (.tup (s.map V.int)))->(s.length=5)->(∀H',Same H H'->Q (.bl (cM ps ss s)) H')->SpHoldsI  vs H Q
def wY:Sp:=fun vs H Q _=>SpHoldsI  vs H Q
def unV:Option Nat->V
 |none=>.non
 |some i=>.int i
inductive SpFirstI(vs:List V)(H:Hp)(Q:VK):Prop
 |mk:∀S v d S' u e,(vs=[v,u])->(IsTh S H v d)->(IsTh S' H u e)->(fJ d=true)->(fK e=true)->(sz d<=4000)->(sz e<=4000)->(∀H',Same H H'->Q (unV (un (rowsOf d) (rowsOf e))) H')->SpFirstI  vs H Q
def wZ:Sp:=fun vs H Q _=>SpFirstI  vs H Q
theorem prom_ok{ps:List (List Int)}{n:Int}(h:∀r∈ps,okP r)(h0:0<=n)(h1:n<ps.length):∃p,ps[n.toNat]?=some p/\ps.getD n.toNat []=p/\okP p:=by
 have hn:n.toNat<ps.length:=Zz
 refine⟨ps[n.toNat],zA0 hn,?_,h _ (zAh hn)⟩;rw[zA7,zA0 hn];rfl
theorem rows_at{H:Hp}{a:Addr}{xs:List V}{rs:List (List Int)}{n:Int}{r:List Int}(h:RowsAt H a xs rs)(h0:0<=n)(e:rs[n.toNat]?=some r):∃t,atI xs n=some (.ref t)/\H t=some (.tup (r.map V.int)):=by
 obtain⟨t,e1,e2⟩:=h.g _ _ e;refine⟨t,?_,e2⟩;have:=du e1;rw[show((n.toNat:Nat):Int)=n by lia]at this;exact this
theorem sc24s:FnScope ["promises","sale","number","seller","buyer","sacks","year","holder","sort","first","last","due","price"] ["promises","sale"] (aJ (top 29)):=fS
theorem Fb(F:Fun K "is_sale_between" "is_sale_between" (top 29) f fd)(T:Mg mg)(N:Nums mg):FnOk P w K mg base CX0 1 f fd ["promises","sale"] Bu:=by
 refine F.ok sc24s (fun vs H Q E h=>?_) (fun ai A outer s H vs Q E hr h=>?_)
 .obtain⟨ap,xp,ps,t,r,rfl,_⟩:=h;rfl
 .obtain⟨ap,xp,ps,t,r,rfl,rp,okp,et,h5,q⟩:=h;obtain⟨t1,e1⟩:=N.holders;obtain⟨t4,e4⟩:=N.sacks
  refine⟨_,aB (cJ (pv 1) (bF rfl (ao (pgn 2 sc24s.nd) (ao (pgn 3 sc24s.nd) (ao (pgn 4 sc24s.nd) (ao (pgn 5 sc24s.nd) (ao (pgn 6 sc24s.nd) aV)))))))
   (aB (cU (dR (mV cD jf aA (pv 2) (aM bZ rfl T.len PySem.boot_len (aq (pv 0) aj)))) (aG (aQ mR)) bz)
   (aB (cJ (pX bT (pv 0) (pv 2)) (bF rfl (ao (pgn 7 sc24s.nd) (ao (pgn 8 sc24s.nd) (ao (pgn 9 sc24s.nd)
    (ao (pgn 10 sc24s.nd) (ao (pgn 11 sc24s.nd) (ao (pgn 12 sc24s.nd) aV))))))))
   (aG (aQ (cO (dw cD jf aA (pv 3) (bY (v:=.int 8) rfl e1 ⟨_,rfl⟩)) (cO (dw cD jf aA (pv 4) (bY (v:=.int 8) rfl e1 ⟨_,rfl⟩)) (cO (jy G3 (pv 3) (pv 4) (bu _))
    (cO (dw cD cD aA (pv 5) (bY (v:=.int 99) rfl e4 ⟨_,rfl⟩)) (fG (dw cD cD (pv 9) (pv 6) (pv 10))))))))))),?_⟩
  rw[jR h5]at et;refine aC ?_;refine⟨_,rfl,t,_,rfl,SqT.of et,rfl,_,_,rfl,_,_,rfl,_,_,rfl,_,_,rfl,_,_,rfl,rfl,?_⟩;dsimp only;refine aC ?_;refine cY (p:=fun i j=>decide (i<=j)) (q:=fun i j=>decide (i<j)) (i:=0) (j:=fl r 0) (k:=(xp.length:Int)) iu (fZ rfl) (fun Q h=>⟨_,rfl,ap,xp,rfl,.inr (SqT.of rp.e),h⟩) _ ⟨_,rfl,?_⟩;have fin:=q;unfold uC at fin;rw[rp.l]
  cases e:(decide (0<=fl r 0)&&decide (fl r 0<ps.length))with
  |false=>
   rw[e]at fin;exact bK fin
  |true=>
   rw[e]at fin;rw[zAc,Zp,Zp]at e;obtain⟨p,hp,ep,op⟩:=prom_ok okp e.1 e.2;obtain⟨tp,gS,gT⟩:=rows_at rp e.1 hp;rw[six_row op.1]at gT;refine bA (eF ?_);dsimp only;refine aC ?_;refine⟨_,rfl,_,rfl,ap,xp,_,.ref tp,rfl,rfl,SqT.of rp.e,gS,?_⟩;refine⟨tp,_,rfl,SqT.of gT,rfl,_,_,rfl,_,_,rfl,_,_,rfl,_,_,rfl,_,_,rfl,_,_,rfl,rfl,?_⟩;have IP:rZ ps r=p:=ep;rw[IP]at fin;exact iQ (cY iu (fZ rfl) iu) (fun _=>iQ (cY iu (fZ rfl) iu) fun _=>iQ (Jx (fZ rfl) (fZ rfl)) fun _=>iQ (cY iu (fZ rfl) iu) fun _=>cY (fZ rfl) (fZ rfl) (fZ rfl)) _ fin
theorem sc25s:FnScope ["promises","ahead","sale","number","seller","buyer","sacks","year","last"] ["promises","ahead","sale"] (aJ (top 30)):=fS
theorem Ks:(["at","promises","ahead","number","seller","sacks"]:List Str).Nodup:=by decide +kernel
theorem Bv(F:Fun K "sale_holds" "sale_holds" (top 30) f fd)(T:Mg mg)(Tr:mg "range"=none)(c1:Cal P w K mg base 1 "is_sale_between" ["promises","sale"] Bu)(c2:Cal P w K mg base 1 "held_in" ["promises","sales","number","year"] vD):
  FnOk P w K mg base CX0 2 f fd ["promises","ahead","sale"] wY:=by
 refine F.ok sc25s (fun vs H Q E h=>?_) (fun ai A outer s H vs Q E hr h=>?_)
 .obtain⟨ap,xp,ps,af,xs,ss,t,r,rfl,_⟩:=h;rfl
 .obtain⟨ap,xp,ps,af,xs,ss,t,r,rfl,rp,okp,rs,hl,fy,et,h5,q⟩:=h
  refine⟨_,aB (cU (dR (fU (aK c1 hr (aq (pv 0) (aq (pv 2) aj))))) (aG (aQ mR)) bz)
   (aB (cJ (pv 2) (bF rfl (ao (bj (i:=3) sc25s.nd rfl (Or.inr rfl)) (ao (bj (i:=4) sc25s.nd rfl (Or.inr rfl)) (ao (pgn 5 sc25s.nd) (ao (bj (i:=6) sc25s.nd rfl (Or.inr rfl)) (ao (pgn 7 sc25s.nd) aV)))))))
   (aB (pss 8 sc25s.nd (pX bT (pX bT (pv 0) (pv 3)) aA))
   (aG (aQ (aM (fV rfl) rfl T.all boot_all (aq (bx ["at","promises","ahead","number","seller","sacks"] [none,some 0,some 1,some 3,some 4,some 6] rfl (pM rfl Tr (aq (pv 7) (aq (aU bO (pv 8) aA) aj)))
    (fun C fp Zt s₂ H₂=>⟨pgn 0 Ks,bI,jy Ag (pX (iW (K:=K) rfl) (aK c2 hr (aq (pv 1) (aq (pv 2) (aq (pv 3) (aq (pv 0) aj))))) (pv 4)) (pv 5) (bu _)⟩)
    (fun C=>cI (cI (cI (cI (cI trivial))))) ⟨rfl,rfl,rfl,rfl⟩) aj)))))),?_⟩
  have fin:=q;unfold cM at fin;refine aC ?_;refine⟨_,rfl,_,rfl,ap,xp,ps,t,r,rfl,rp,okp,et,h5,_,rfl,?_⟩
  cases e:uC ps r with
  |false=>
   rw[e]at fin;exact bK (fin _ (Same.refl _))
  |true=>
   rw[e]at fin;refine bA (eF ?_);dsimp only;refine aC ?_;unfold uC at e;simp only[Bool.and_eq_true,Zp]at e;obtain⟨⟨n0,n1⟩,⟨b0,b1⟩,_,_,⟨k0,k1⟩,y0,y1⟩:=e;obtain⟨p,hp,ep,op⟩:=prom_ok okp n0 n1;have IP:rZ ps r=p:=ep;rw[IP]at fin y0 y1;obtain⟨tp,gS,gT⟩:=rows_at rp n0 hp;rw[jR h5]at et;rw[six_row op.1]at gT;obtain⟨_,_,_,⟨g1,g2,g3⟩,_⟩:=id op;refine⟨_,rfl,t,_,rfl,SqT.of et,rfl,_,_,rfl,_,_,rfl,_,_,rfl,_,_,rfl,_,_,rfl,rfl,?_⟩;dsimp only;refine aC (aR ?_);refine⟨_,rfl,_,rfl,ap,xp,_,.ref tp,rfl,rfl,SqT.of rp.e,gS,tp,_,3,.int (fl p 3),rfl,rfl,SqT.of gT,rfl,?_⟩;refine aF ?_;dsimp only;refine⟨_,rfl,_,rfl,_,_,rfl,rfl,fl r 4,fl p 3+1,rfl,⟨Zz,Zz,Zz,Zz⟩,?_⟩;refine Bt (fun ys Hc=>Same H Hc/\ys=((years (fl r 4) (fl p 3)).take ys.length).map fun y=>V.bl (decide (fl r 3<=(bM p ss (fl r 0) y).getD (fl r 1).toNat 0))) ⟨Same.refl _,rfl⟩ Zu ?_ ?_
   .rintro i ys Hc Qc hi hy ⟨sc,ey⟩ qc;refine⟨_,rfl,_,rfl,_,rfl,_,rfl,ap,xp,ps,af,xs,ss,fl r 0,fl r 4+i,rfl,rp.same sc,rs.same sc,n0,n1,by rw[ep];exact op,hl,fy,fun l H' s' el=>?_⟩;rw[ep]at el;refine⟨_,rfl,l,_,fl r 1,.int ((bM p ss (fl r 0) (fl r 4+i)).getD (fl r 1).toNat 0),rfl,rfl,SqL.of el,?_,_,rfl,_,_,rfl,rfl,qc _ _ ⟨sc.trans s',?_⟩⟩
    .unfold atI;rw[uD b0 (by rw[zA1,eV];lia)];exact jc (by rw[eV];lia)
    .have hx:(years (fl r 4) (fl p 3))[ys.length]?=some (fl r 4+(i:Int)):=by
      rw[hy];exact za hi
     exact zb ey hx
   .rintro ys Hc hy ⟨sc,ey⟩ D hD;rw[List.take_of_length_le (by rw[yZ,hy];exact zA3 _)]at ey;refine⟨D,(years (fl r 4) (fl p 3)).map fun y=>decide (fl r 3<=(bM p ss (fl r 0) y).getD (fl r 1).toNat 0),rfl,SqL.of (by rw[zAr];rw[ey];exact aa),?_⟩;rw[List.all_map];exact fin _ (sc.updR hD)
theorem cut_take{xs:List V}{i:Nat}(h:i<=xs.length):lO xs none (some (i:Int))=xs.take i:=by
 unfold lO;rw[HT.sIx_none,HT.sIx_nat,List.drop_zero,Nat.min_eq_left h,Nat.sub_zero]
theorem RowsAt.cut{H:Hp}{a p:Addr}{xs:List V}{rs:List (List Int)}(h:RowsAt H a xs rs)(i:Nat)(hp:H p=none):RowsAt (upd H p (.tup (xs.take i))) p (xs.take i) (rs.take i):=by
 refine⟨aa,by rw[zAd,zAd,h.l],fun j r e=>?_⟩
 have hj:j<i:=by
  rw[List.getElem?_take]at e;split at e
  .assumption
  .cases e
 rw[List.getElem?_take_of_lt hj]at e;obtain⟨t,e1,e2⟩:=h.g j r e;exact⟨t,by rw[List.getElem?_take_of_lt hj];exact e1,Same.upd hp _ _ e2⟩
theorem xf{ps ss:List (List Int)}{i:Nat}(h:∀j,j<i->cM ps (ss.take j) (ss.getD j [])=true)(hi:i<ss.length)(hn:cM ps (ss.take i) (ss.getD i [])=false):un ps ss=some i:=by
 unfold un;rw[List.find?_range_eq_some];exact⟨by rw[hn];rfl,List.mem_range.mpr hi,fun j hj=>by rw[h j hj];rfl⟩
theorem xj{ps ss:List (List Int)}(h:∀j,j<ss.length->cM ps (ss.take j) (ss.getD j [])=true):un ps ss=none:=by
 unfold un;rw[List.find?_range_eq_none]
 exact fun j hj=>by rw[h j hj];rfl
theorem nZ{ps ss:List (List Int)}{s:List Int}(h5:s.length=5)(h:cM ps ss s=true):okS s:=by
 unfold cM uC at h;simp only[Bool.and_eq_true,Zp]at h;exact⟨h5,h.1.2.1,h.1.2.2.1⟩
theorem getD_get{ss:List (List Int)}{i:Nat}(h:i<ss.length):ss.getD i []=ss[i]:=by
 rw[zA7,zA0 h];rfl
def part(d:PyData)(i:Nat):PyData:=(items d).getD i .none
def o8(d:PyData):Bool:=bC d 3 3&&(iV (part d 0)&&(fJ (part d 1)&&(fK (part d 2)&&(un (rowsOf (part d 1)) (rowsOf (part d 2))).isNone)))
theorem sc26s:FnScope ["promises","sales","at","sale"] ["promises","sales"] (aJ (top 31)):=fS
theorem Bw(F:Fun K "first_unheld" "first_unheld" (top 31) f fd)(Te:mg "enumerate"=none)(c1:Cal P w K mg base 4 "are_promises" ["thing"] (spT fJ))(c2:Cal P w K mg base 3 "are_sales" ["thing"] (spT fK))(c3:Cal P w K mg base 2 "sale_holds" ["promises","ahead","sale"] wY):
  FnOk P w K mg base CX0 5 f fd ["promises","sales"] wZ:=by
 refine F.ok sc26s (fun vs H Q E h=>?_) (fun ai A outer s H vs Q E hr h=>?_)
 .obtain⟨S,v,d,S',u,e,rfl,_⟩:=h;rfl
 .obtain⟨S,v,d,S',u,e,rfl,Ny,ths,hp,hs,zp,zs,q⟩:=h
  refine⟨_,aB (cU (dR (fU (aK c1 hr (aq (pv 0) aj)))) pL bz)
   (aB (cU (dR (fU (aK c2 hr (aq (pv 1) aj)))) pL bz)
   (aB (bN zB3 rfl (ZT.pi_enum true rfl Te (aq (pv 1) aj)) (bF rfl (ao (pgn 2 sc26s.nd) (ao (pgn 3 sc26s.nd) aV)))
    (aG (cU (dR (fU (aK c3 hr (aq (pv 0) (aq (iJ wC (pv 1) jz (jA (pv 2))) (aq (pv 3) aj)))))) (aG (aQ (pv 2))) bz)))
   (aG (aQ qP)))),?_⟩
  refine aC ?_;refine⟨_,rfl,S,v,d,rfl,Ny,zp,fun H1 s1=>⟨_,rfl,?_⟩⟩;rw[hp];refine bA (eF ?_);dsimp only;refine aC ?_;refine⟨_,rfl,S',u,e,rfl,ths.same s1,zs,fun H2 s2=>⟨_,rfl,?_⟩⟩;rw[hs];refine bA (eF ?_);dsimp only;have EL:=s1.trans s2;obtain⟨ep,lp,okp⟩:=vB hp;obtain⟨es,ls,fy⟩:=vC hs;have fF:=Ny.same EL;have IQ:=ths.same EL;rw[ep]at fF;rw[es]at IQ;generalize rowsOf d=ps at q lp okp fF;generalize rowsOf e=ss at q ls fy IQ;obtain⟨ap,xp,rfl,rp⟩:=th_rows fF;obtain⟨af,xs,rfl,rs⟩:=th_rows IQ;refine aC ?_;refine⟨_,rfl,af,xs,rfl,SqT.of rs.e,?_⟩;refine ZT.for_enum true (xs:=xs) (fun i σ Hc=>∃x2 x3,σ=[some (.ref ap),some (.ref af),x2,x3]/\Same H2 Hc/\∀j,j<i->cM ps (ss.take j) (ss.getD j [])=true) ?_ ?_ ?_ ?_
  .exact⟨none,none,rfl,Same.refl _,fun j hj=>absurd hj (Nat.not_lt_zero _)⟩
  .rintro i σ Hc hi ⟨x2,x3,rfl,sm,hh⟩;exact SqT.of (sm _ _ rs.e)
  .rintro i x σ Hc T0 hx ⟨x2,x3,rfl,sm,hh⟩ nT
   have hi:i<ss.length:=by
    have:=(zAa.mp hx).1;rw[rs.l]at this;exact this
   have y8:i<xs.length:=by rw[rs.l];exact hi
   obtain⟨tr,fk,eI⟩:=rs.g i ss[i] (zA0 hi)
   have:x=.ref tr:=by
    rw[hx]at fk;exact zAl fk
   subst this;have h5:=fy ss[i] (zAh hi);have sT:=sm.updR (o:=.tup [V.int i,V.ref tr]) nT;refine⟨T0,_,rfl,SqT.of aa,rfl,_,_,rfl,_,_,rfl,rfl,?_⟩;refine⟨_,rfl,_,rfl,_,rfl,i,rfl,af,xs,rfl,SqT.of (sT _ _ rs.e),fun hw=>?_,fun _ p Nz=>?_⟩
   .have:=hw.2;rw[HT.sIx_nat]at this;exact absurd this Zz
   rw[cut_take (Nat.le_of_lt y8)];have sp:=sT.updR (o:=.tup (xs.take i)) Nz;refine⟨_,rfl,ap,xp,ps,p,xs.take i,ss.take i,tr,ss[i],rfl,rp.same sp,okp,(rs.same sT).cut i Nz,?_,?_,sp _ _ eI,h5,fun H' s'=>⟨_,rfl,?_⟩⟩
   .rw[zAd];lia
   .intro s cm;obtain⟨j,hj,e'⟩:=List.getElem_of_mem cm;rw[zAd]at hj;have QI:j<i:=Zz
    have NA:j<ss.length:=Zz
    have e2:ss[j]=s:=by rw[<-e',List.getElem_take]
    rw[<-e2];have:=hh j QI;rw[getD_get NA]at this;exact nZ (fy _ (zAh NA)) this
   .cases eh:cM ps (ss.take i) ss[i]with
    |false=>
     refine bK ⟨_,rfl,?_⟩;have:=q H' (EL.trans (sp.trans s'));rw[xf hh hi (by rw[getD_get hi];exact eh)]at this;exact this
    |true=>
     refine bA ⟨_,_,rfl,sp.trans s',fun j hj=>?_⟩;rcases Nat.lt_succ_iff_lt_or_eq.mp hj with z|z
     .exact hh j z
     .rw[z,getD_get hi];exact eh
  .rintro σ Hc ⟨x2,x3,rfl,sm,hh⟩;have:=q Hc (EL.trans sm);rw[xj fun j hj=>hh j (by rw[rs.l];exact hj)]at this;exact this
theorem sc27s:FnScope ["thing","clips","promises","sales"] ["thing"] (aJ (top 32)):=fS
theorem ok_book(F:Fun K "is_book" "is_book" (top 32) f fd)(c0:Cal P w K mg base 1 "is_tuple_of" ["thing","fewest","most"] (lV bC))(c1:Cal P w K mg base 4 "are_clips" ["thing"] (spT iV))(c2:Cal P w K mg base 4 "are_promises" ["thing"] (spT fJ))(c3:Cal P w K mg base 3 "are_sales" ["thing"] (spT fK))(c4:Cal P w K mg base 5 "first_unheld" ["promises","sales"] wZ):
  FnOk P w K mg base CX0 6 f fd ["thing"] (spT o8):=by
 refine F.ok sc27s (fun vs H Q E h=>?_) (fun ai A outer s H vs Q E hr h=>?_)
 .obtain⟨S,v,d,rfl,_⟩:=h;rfl
 .obtain⟨S,v,d,rfl,th,hz,q⟩:=h
  refine⟨_,aB (cU (dR (fU (aK c0 hr (aq (pv 0) (aq aA (aq aA aj)))))) (aG (aQ mR)) bz)
   (aB (cJ (pv 0) (bF rfl (ao (pgn 1 sc27s.nd) (ao (pgn 2 sc27s.nd) (ao (pgn 3 sc27s.nd) aV)))))
   (aG (aQ (cO (aK c1 hr (aq (pv 1) aj)) (cO (aK c2 hr (aq (pv 2) aj)) (cO (aK c3 hr (aq (pv 3) aj)) (fG (jy Ah (aK c4 hr (aq (pv 2) (aq (pv 3) aj))) qP (bu _))))))))),?_⟩
  have fin:=q;unfold o8 at fin;refine aC ?_;refine⟨_,rfl,S,v,d,3,3,rfl,th,hz,fun H1 s1=>⟨_,rfl,?_⟩⟩
  cases e:bC d 3 3 with
  |false=>
   rw[e]at fin;exact bK (fin _ s1)
  |true=>
   rw[e]at fin;refine bA (eF ?_);dsimp only;obtain⟨ds,rfl,l1,l2⟩:=kZ e;have fF:=th.same s1
   cases fF with
   |@tup a xs _ ea r=>
    obtain⟨v0,v1,v2,d0,d1,d2,rfl,rfl,h0,h1,h2⟩:=yV r (show ds.length=3 by lia);have z0:=jP (d:=d0) Zy hz;have z1:=jP (d:=d1) Zy hz;have z2:=jP (d:=d2) Zy hz;refine aC ?_;refine⟨_,rfl,a,_,rfl,SqT.of ea,rfl,_,_,rfl,_,_,rfl,_,_,rfl,rfl,?_⟩;dsimp only;have fin:∀H',Same H H'->Q (.bl (true&&(iV d0&&(fJ d1&&(fK d2&&(un (rowsOf d1) (rowsOf d2)).isNone))))) H':=fin;refine⟨_,rfl,S,_,d0,rfl,h0,z0,fun H2 s2=>⟨_,rfl,?_⟩⟩
    cases e0:iV d0 with
    |false=>
     rw[e0]at fin;exact bA (fin _ (s1.trans s2))
    |true=>
     rw[e0]at fin;refine bK ?_;refine⟨_,rfl,S,_,d1,rfl,h1.same s2,z1,fun H3 s3=>⟨_,rfl,?_⟩⟩
     cases e1:fJ d1 with
     |false=>
      rw[e1]at fin;exact bA (fin _ ((s1.trans s2).trans s3))
     |true=>
      rw[e1]at fin;refine bK ?_;refine⟨_,rfl,S,_,d2,rfl,h2.same (s2.trans s3),z2,fun H4 s4=>⟨_,rfl,?_⟩⟩
      cases e2:fK d2 with
      |false=>
       rw[e2]at fin;exact bA (fin _ (((s1.trans s2).trans s3).trans s4))
      |true=>
       rw[e2]at fin;refine bK ?_;have IS:=(s2.trans s3).trans s4;refine⟨_,rfl,_,rfl,S,_,d1,S,_,d2,rfl,h1.same IS,h2.same IS,e1,e2,z1,z2,fun H5 s5=>⟨rfl,?_⟩⟩;have:=fin H5 (s1.trans (IS.trans s5))
       cases eu:un (rowsOf d1) (rowsOf d2)with
       |none=>
        rw[eu]at this;exact this
       |some i=>
        rw[eu]at this;exact this
def Els(H:Hp)(xs:List V)(rs:List (List Int)):Prop:=xs.length=rs.length/\∀(i:Nat) (r:List Int),rs[i]?=some r->∃t,xs[i]?=some (V.ref t)/\H t=some (.tup (r.map V.int))
theorem Els.keep{H H':Hp}{xs:List V}{rs:List (List Int)}(h:Els H xs rs)(k:∀b l,H b=some (.tup l)->H' b=some (.tup l)):Els H' xs rs:=
 ⟨h.1,fun i r e=>by
  obtain⟨t,e1,e2⟩:=h.2 i r e
  exact⟨t,e1,k _ _ e2⟩⟩
theorem Els.same{H H':Hp}{xs:List V}{rs:List (List Int)}(h:Els H xs rs)(s:Same H H'):Els H' xs rs:=h.keep fun _ _ e=>s _ _ e
theorem Els.nil{H:Hp}:Els H [] []:=⟨rfl,fun i r e=>by simp at e⟩
theorem Els.app{H:Hp}{xs ys:List V}{rs qs:List (List Int)}(h:Els H xs rs)(g:Els H ys qs):Els H (xs++ys) (rs++qs):=by
 refine⟨by rw[zA2,zA2,h.1,g.1],fun i r e=>?_⟩;by_cases hi:i<rs.length
 .rw[zBc hi]at e;obtain⟨t,e1,e2⟩:=h.2 i r e;exact⟨t,by rw[zBc (by rw[h.1];exact hi)];exact e1,e2⟩
 .rw[zBd Zz]at e;obtain⟨t,e1,e2⟩:=g.2 _ r e;exact⟨t,by rw[zBd (by rw[h.1];lia),h.1];exact e1,e2⟩
theorem Els.one{H:Hp}{t:Addr}{r:List Int}(e:H t=some (.tup (r.map V.int))):Els H [.ref t] [r]:=⟨rfl,fun i q e'=>by
 cases i with
 |zero=>
  rw[List.getElem?_cons_zero]at e';cases e';exact⟨t,rfl,e⟩
 |succ i=>simp at e'⟩
theorem bJ{r:List Int}(h:r.length=4):r=[fl r 0,fl r 1,fl r 2,fl r 3]:=by
 match r,h with
 |[a,b,c,d],_=>rfl
theorem lq{t:TS}{D:Ends}{N:L2.St->Hp->Prop}{σ:L2.St}{H:Hp}(h:∀D':Ends,(∀σ H,N σ H->D'.nx σ H)->t D' σ H):t {D with nx:=N,ct:=N,bk:=D.nx} σ H:=h _ fun _ _ z=>z
theorem comp_gen{J:It}{g:TG}{te:TE}{dv:St}{H0:Hp}{Fin:List V->Hp->Prop}(n:Nat)(Pv:Nat->List V->St->Hp->Prop)(h0:Pv 0 [] dv H0)(hz:n<sizeLine)
  (step:∀i ys σ H,i<n->ys.length=i->Pv i ys σ H->J.go i H/\∀x H',J.yld i H x H'->∀R:V->St->Hp->Prop,(∀y aS H4,Pv (i+1) (ys++[y]) aS H4->R y aS H4)->g x σ H' fun aS H2=>te aS H2 fun y H4=>R y aS H4)
  (fin:∀ys σ H,ys.length=n->Pv n ys σ H->J.stop n H/\Fin ys H):jD J g tR te Fin dv H0:=by
 refine⟨fun i m ys σ H=>m=n-i/\i<=n/\ys.length=i/\Pv i ys σ H,⟨_,rfl,zAp _,rfl,h0⟩,?_⟩;rintro i m ys σ H ⟨rfl,hi,hy,p⟩;refine⟨Zz,?_⟩;by_cases ax:i<n
 .obtain⟨go,st⟩:=step i ys σ H ax hy p;exact .inr ⟨go,fun x H' y=>st x H' y _ fun y aS H4 p2=>⟨n-(i+1),Zz,rfl,ax,by rw[zA2,hy];rfl,p2⟩⟩
 .have e:i=n:=Zz
  subst e;exact .inl (fin ys σ H hy p)
def wts(rs:List (List Int)):List Int:=rs.map fun r=>fl r 3
def bW(rs:List (List Int)):Int:=(wts rs).sum
inductive SpSacksI(vs:List V)(H:Hp)(Q:VK):Prop
 |mk:∀l xs rs,(vs=[.ref l])->(H l=some (.lst xs))->(Els H xs rs)->((∀r∈rs,r.length=4))->(rs.length<=100000)->(∀H',Same H H'->Q (.int (bW rs)) H')->SpSacksI  vs H Q
def xm:Sp:=fun vs H Q _=>SpSacksI  vs H Q
theorem boot_sum:bootBuiltins "sum"=some (.builtin "sum"):=by decide +kernel
theorem nd4:(["due","number","holder","sacks"]:List Str).Nodup:=by decide +kernel
theorem Ku:FnScope ["rows"] ["rows"] (aJ (top 43)):=fS
theorem Bx(F:Fun K "sacks_of" "sacks_of" (top 43) f fd)(Ts:mg "sum"=none):FnOk P w K mg base CX0 1 f fd ["rows"] xm:=by
 refine F.ok Ku (fun vs H Q E h=>?_) (fun ai A outer s H vs Q E hr h=>?_)
 .obtain⟨l,xs,rs,rfl,_⟩:=h;rfl
 .obtain⟨l,xs,rs,rfl,el,aT,h4,hz,q⟩:=h
  refine⟨_,aG (aQ (aM (cu rfl) rfl Ts boot_sum (aq (bx (g:=jY K 4 (cz (bH 0) (cz (bH 1) (cz (bH 2) (cz (bH 3) lN))))) ["due","number","holder","sacks"] [none,none,none,none] rfl (bL (pv 0))
   (fun C fp Zt s₂ H₂=>⟨dZ rfl rfl (ao (pgn 0 nd4) (ao (pgn 1 nd4) (ao (pgn 2 nd4) (ao (pgn 3 nd4) aV)))),bI,pv 3⟩) (fun C=>trivial) ⟨rfl,rfl,rfl,rfl⟩) aj))),?_⟩
  refine⟨_,rfl,l,rfl,⟨_,SqL.of el⟩,comp_gen rs.length (fun i ys σ Hc=>Same H Hc/\(∃o1 o2 o3 o4,σ=[o1,o2,o3,o4])/\ys=(wts (rs.take i)).map V.int) ⟨Same.refl H,⟨_,_,_,_,rfl⟩,rfl⟩ Zu ?_ ?_⟩
  .rintro i ys σ Hc hi hy ⟨s1,⟨o1,o2,o3,o4,rfl⟩,rfl⟩;obtain⟨t,ex,et⟩:=aT.2 i rs[i] (zA0 hi);rw[bJ (h4 _ (zAh hi))]at et;refine⟨⟨_,_,SqL.of (s1 _ _ el),ex⟩,fun v H' y R hR=>?_⟩;obtain⟨rfl,y⟩:=y;have hv:=y _ (SqL.of (s1 _ _ el));rw[ex]at hv;cases hv;refine⟨t,_,rfl,SqT.of (s1 _ _ et),rfl,_,_,rfl,_,_,rfl,_,_,rfl,_,_,rfl,rfl,_,rfl,hR _ _ _ ⟨s1,⟨_,_,_,_,rfl⟩,?_⟩⟩;unfold wts;rw[zAj,zA0 hi,zA4,zA4];rfl
  .rintro ys σ Hc hy ⟨s1,_,rfl⟩;refine⟨⟨_,SqL.of (s1 _ _ el),by rw[aT.1];exact zA3 _⟩,fun D hD=>?_⟩;rw[zAm];exact⟨D,wts rs,rfl,.inl (SqL.of aa),q _ (s1.updR hD)⟩
end K31
open K31 (top dG items intOf bC nd1 Bq rT rW jP fW spT lV Mg boot_tuple boot_all dN Cal aK pH boot_sum comp_gen sc1 gQ cut_take)
namespace K31P
open PySem L2
structure Nums(mg:Str->Option Value):Prop where
 many:∃t,mg "MOST_WEIGHTS"=some (.int 80 t)
 most:∃t,mg "MOST_WEIGHT"=some (.int 99 t)
def iY(d:PyData):Bool:=bC d 1 80&&(items d).all fun x=>pH x 1 99
theorem boot_sorted:bootBuiltins "sorted"=some (.builtin "sorted"):=by decide +kernel
theorem nd2(x y:Str)(h:x≠y):([x,y]:List Str).Nodup:=by simp[h]
section
variable{P:Program}{w:World}{K:Frag}{mg:Str->Option Value}{base:Heap}{f:Addr}{fd:FuncData}
theorem Kv:FnScope ["thing"] ["thing"] (aJ (top 37)):=fS
theorem ok_are_weights(F:Fun K "are_weights" "are_weights" (top 37) f fd)(T:Mg mg)(N:Nums mg)(c1:Cal P w K mg base 2 "is_whole_from" ["thing","least","most"] (lV pH))(c2:Cal P w K mg base 1 "is_tuple_of" ["thing","fewest","most"] (lV bC)):
  FnOk P w K mg base CX0 4 f fd ["thing"] (spT iY):=by
 refine F.ok Kv (fun vs H Q E h=>?_) (fun ai A outer s H vs Q E hr h=>?_)
 .obtain⟨S,v,d,rfl,_⟩:=h;rfl
 .obtain⟨S,v,d,rfl,th,hz,q⟩:=h;obtain⟨t3,e3⟩:=N.many;obtain⟨t4,e4⟩:=N.most
  refine⟨_,aG (aQ (cO (aK c2 hr (aP (pv 0) (aP aA (aP (bY (v:=.int 80) rfl e3 ⟨_,rfl⟩) aj))))
   (fG (aM (fV rfl) rfl T.all boot_all (aP (bx ["part"] [none] rfl (ig (pv 0))
    (fun C fp Zt s₂ H₂=>⟨bj (i:=0) (nd1 _) rfl (Or.inl rfl),bI,aK c1 hr (aP (pv 0) (aP aA (aP (bY (v:=.int 99) rfl e4 ⟨_,rfl⟩) aj)))⟩) (fun C=>trivial) ⟨rfl,rfl,rfl,rfl⟩) aj))))),?_⟩
  refine⟨_,rfl,S,v,d,1,80,rfl,th,hz,fun H1 s1=>⟨_,rfl,?_⟩⟩;have fF:=th.same s1;have fin:=fun H' (s:Same H H')=>q H' s;unfold iY at fin
  cases e:bC d 1 80 with
  |false=>
   rw[e]at fin;exact bA (fin _ s1)
  |true=>
   rw[e]at fin;refine bK ?_
   cases fF with
   |@tup a xs ds ea r=>exact dN (fun x=>pH x 1 99) rfl ea r (fW r hz) (fun v d H2 Q2 hm s2 t2 q2=>⟨_,rfl,S,v,d,1,99,rfl,t2,jP hm hz,q2⟩) fun H2 s2=>fin _ (s1.trans s2)
   |_=>cases e
end
section
variable{X:Cx}{K:Frag}{tg l:Expr}{tl:TE}
theorem By(hK:X.K=K)(hl:PE X l tl):PI X tg l (FW K tl):=by
 subst hK;exact bL hl
theorem ix_tupK(hK:X.K=K):IxR X (J1 K):=by
 subst hK;exact bT
theorem o9(hK:X.K=K):dU X (.type "tuple") (fun xs H Q=>∃p ys,xs=[.ref p]/\((SqL K H p ys/\∀l,H l=none->Q (.ref l) (upd H l (.tup ys)))\/(SqT K H p ys/\Q (.ref p) H))):=by
 subst hK;exact cj
end
def StAt(H:Hp)(st:Addr):Prop:=∃a b c:Int,H st=some (.lst [.int a,.int b,.int c])/\0<=a/\0<=b/\b<4294967296
structure Dr(st:Addr)(H H':Hp):Prop where
 bt:∀b o,H b=some o->b≠st->H' b=some o
 sa:StAt H' st
theorem Dr.same{st:Addr}{H H1 H2:Hp}(g:Dr st H H1)(s:Same H1 H2):Dr st H H2:=by
 obtain⟨a,b,c,e,h⟩:=g.sa;exact⟨fun b' o' e' ne=>s _ _ (g.bt b' o' e' ne),a,b,c,s _ _ e,h⟩
theorem Dr.trans{st:Addr}{H H1 H2:Hp}(g:Dr st H H1)(g':Dr st H1 H2):Dr st H H2:=⟨fun b' o' e' ne=>g'.bt _ _ (g.bt b' o' e' ne) ne,g'.sa⟩
theorem Dr.refl{st:Addr}{H:Hp}(h:StAt H st):Dr st H H:=⟨fun _ _ e _=>e,h⟩
theorem Dr.draw{st:Addr}{H H1:Hp}(g:Dr st H H1){a b c:Int}(h1:0<=a)(h2:0<=b)(h3:b<4294967296):Dr st H (upd H1 st (.lst [.int a,.int b,.int c])):=
 ⟨fun b' o' e' ne=>by rw[au ne];exact g.bt _ _ e' ne,a,b,c,aa,h1,h2,h3⟩
theorem Dr.ne{st p:Addr}{H H1:Hp}(g:Dr st H H1)(hp:H1 p=none):p≠st:=fun z=>by
 obtain⟨a,b,c,e,_⟩:=g.sa;rw[z,e]at hp;cases hp
theorem Dr.tups{st:Addr}{H H1:Hp}(g:Dr st H H1)(h0:StAt H st):∀b xs,H b=some (.tup xs)->H1 b=some (.tup xs):=fun b xs e=>g.bt _ _ e fun z=>by
 obtain⟨_,_,_,e',_⟩:=h0;rw[z,e']at e;cases e
theorem Dr.ths{st:Addr}{H H1:Hp}{vs:List V}{ds:List PyData}(g:Dr st H H1)(h0:StAt H st)(t:IsThs (fun _=>False) H vs ds):IsThs (fun _=>False) H1 vs ds:=t.keep (g.tups h0) (fun _ _ z _=>z.elim) fun _ _ z _=>z.elim
inductive SpCellI(K:Frag)(vs:List V)(H:Hp)(Q:VK):Prop
 |mk:∀(a:Addr) (ns:List Int) (k:Int),(vs=[.ref a,.int k])->(SqL K H a (ns.map V.int))->(0<=k)->(∀i,Q (.int i) H)->SpCellI K vs H Q
def BJ(K:Frag):Sp:=fun vs H Q _=>SpCellI K vs H Q
inductive SpStateI(K:Frag)(vs:List V)(H:Hp)(Q:VK):Prop
 |mk:∀(a:Addr) (ns:List Int) (k:Int),(vs=[.ref a,.int k])->(SqL K H a (ns.map V.int))->(0<=k)->(∀(p:Addr) (x y z:Int),H p=none->0<=x->0<=y->y<4294967296->Q (.ref p) (upd H p (.lst [.int x,.int y,.int z])))->SpStateI K vs H Q
def spState(K:Frag):Sp:=fun vs H Q _=>SpStateI K vs H Q
inductive SpChoiceI(vs:List V)(H:Hp)(Q:VK):Prop
 |mk:∀(st:Addr) (n:Int),(vs=[.ref st,.int n])->(StAt H st)->(1<=n)->(n<1073741824)->(∀r a b c:Int,0<=r->r<n->0<=a->0<=b->b<4294967296->Q (.int r) (upd H st (.lst [.int a,.int b,.int c])))->SpChoiceI  vs H Q
def spChoice:Sp:=fun vs H Q _=>SpChoiceI  vs H Q
theorem lu:bootBuiltins "max"=some (.builtin "max"):=by decide +kernel
theorem qx:bootBuiltins "min"=some (.builtin "min"):=by decide +kernel
section
variable{P:Program}{w:World}{K:Frag}{mg:Str->Option Value}{base:Heap}{f:Addr}{fd:FuncData}
theorem Kw:FnScope ["_law_script","_law_k"] ["_law_script","_law_k"] (aJ (top 58)):=fS
theorem ok_cell(F:Fun K "_law_cell_at" "_law_cell_at" (top 58) f fd)(T:Mg mg):FnOk P w K mg base CX0 1 f fd ["_law_script","_law_k"] (BJ K):=by
 refine F.ok Kw (fun vs H Q E h=>?_) (fun ai A outer s H vs Q E hr h=>?_)
 .obtain⟨a,ns,k,rfl,_⟩:=h;rfl
 .obtain⟨a,ns,k,rfl,hS,h0,q⟩:=h;refine⟨_,aB (cU (bf jf (pv 1) (aM bZ rfl T.len PySem.boot_len (aP (pv 0) aj)) (bu _)) (aG (aQ (pX bV (pv 0) (pv 1)))) bz) (aG (aQ aA)),?_⟩;refine⟨_,rfl,_,rfl,a,_,rfl,.inl hS,_,_,rfl,rfl,_,rfl,?_⟩;refine Eg (fun c=>?_) (fun _=>q 0);have c:=zB8 c;rw[zA1]at c;have hk:k.toNat<ns.length:=Zz
  refine⟨_,rfl,_,rfl,a,_,k,.int ns[k.toNat],rfl,rfl,hS,?_,q _⟩;have e:(ns.map V.int)[k.toNat]?=some (.int ns[k.toNat]):=by rw[zAb,zA0 hk];rfl
  have:=du e;rw[show((k.toNat:Nat):Int)=k by lia]at this;exact this
theorem sc26:FnScope ["_law_script","_law_k","_law_cell"] ["_law_script","_law_k"] (aJ (top 59)):=fS
theorem ok_state(F:Fun K "_law_state" "_law_state" (top 59) f fd)(Tm:mg "max"=none)(c1:Cal P w K mg base 1 "_law_cell_at" ["_law_script","_law_k"] (BJ K)):FnOk P w K mg base CX0 2 f fd ["_law_script","_law_k"] (spState K):=by
 refine F.ok sc26 (fun vs H Q E h=>?_) (fun ai A outer s H vs Q E hr h=>?_)
 .obtain⟨a,ns,k,rfl,_⟩:=h;rfl
 .obtain⟨a,ns,k,rfl,hS,h0,q⟩:=h
  refine⟨_,aB (pss 2 sc26.nd (aK c1 hr (aP (pv 0) (aP (pv 1) aj))))
   (aG (aQ (cQ (aq (aM (j8 rfl) rfl Tm lu (aq aA (aq (aU dW (pv 2) (aU Gz aA aA)) aj))) (aq (aU bO (aU iH (pv 2) aA) aA) (aq aA aj)))))),?_⟩
  refine⟨_,rfl,_,rfl,a,ns,k,rfl,hS,h0,fun c=>?_⟩;refine⟨_,rfl,_,_,rfl,rfl,⟨by decide,by decide,by decide⟩,_,_,rfl,rfl,_,_,rfl,_,rfl,_,_,rfl,rfl,(by show(0:Int)<2147483629;decide),_,_,rfl,rfl,zL,fun p hp=>?_⟩;refine q p _ _ _ hp ?_ ?_ ?_
  .split<;>lia
  .show 0<=c % 2147483629+1;lia
  .show c % 2147483629+1<4294967296;lia
theorem sc27:FnScope ["_law_state_here","_law_many","_law_found","_law_mixed"] ["_law_state_here","_law_many"] (aJ (top 60)):=fS
theorem ok_choice(F:Fun K "_law_choice" "_law_choice" (top 60) f fd):FnOk P w K mg base CX0 1 f fd ["_law_state_here","_law_many"] spChoice:=by
 refine F.ok sc27 (fun vs H Q E h=>?_) (fun ai A outer s H vs Q E hr h=>?_)
 .obtain⟨st,n,rfl,_⟩:=h;rfl
 .obtain⟨st,n,rfl,⟨a,b,c,es,ha,hb,IT⟩,h1,h2,q⟩:=h
  refine⟨_,aB (cU (bf jx (pX bV (pv 0) aA) aA (bu _))
    (aB (pss 2 sc27.nd (aU iH (pX bV (pv 0) aA) (pv 1)))
     (aB (cJ (aU mq (pX bV (pv 0) aA) (pv 1)) (ie (pv 0) aA set_list)) (aG (aQ (pv 2))))) bz)
   (aB (cJ (aU bO (pX bV (pv 0) aA) aA) (ie (pv 0) aA set_list))
   (aB (cJ (aU iH (aU bO (aU bO (aU gB (pX bV (pv 0) aA) aA) aA) (pX bV (pv 0) aA)) aA) (ie (pv 0) aA set_list))
   (aB (pss 3 sc27.nd (aU iH (aU bO (aU bO (aU gB (pX bV (pv 0) aA) (pX bV (pv 0) aA)) (aU gB aA (pX bV (pv 0) aA))) aA) aA))
   (aB (pss 3 sc27.nd (aU iH (aU bO (aU gB (pv 3) (pv 3)) (aU gB aA (pv 3))) aA))
   (aG (aQ (aU iH (aU mq (pv 3) aA) (pv 1)))))))),?_⟩
  refine⟨_,rfl,st,_,0,.int a,rfl,rfl,SqL.of es,rfl,_,_,rfl,rfl,_,rfl,?_⟩;refine Eg (fun hc=>?_) (fun _=>?_)
  .refine⟨_,rfl,st,_,0,.int a,rfl,rfl,SqL.of es,rfl,_,rfl,_,_,rfl,rfl,(by show 0<n;lia),?_⟩;refine⟨_,rfl,st,_,0,.int a,rfl,rfl,SqL.of es,rfl,_,rfl,_,_,rfl,rfl,⟨Zz,h2⟩,_,rfl,st,_,0,0,rfl,rfl,es,rfl,_,rfl,?_⟩;exact q (a % n) (a / n) b c (Int.emod_nonneg a Zz) (Int.emod_lt_of_pos a Zz) (Int.ediv_nonneg ha Zz) hb IT
  .refine⟨_,rfl,st,_,2,.int c,rfl,rfl,SqL.of es,rfl,_,_,rfl,rfl,_,rfl,st,_,2,2,rfl,rfl,es,rfl,?_⟩;have eL:([V.int a,V.int b,V.int c].set 2 ((fun i j:Int=>V.int (i+j)) c 1))=[V.int a,V.int b,V.int (c+1)]:=rfl;rw[eL];have jI:upd H st (.lst [.int a,.int b,.int (c+1)]) st=some (.lst [.int a,.int b,.int (c+1)]):=aa;refine⟨_,rfl,st,_,1,.int b,rfl,rfl,SqL.of jI,rfl,_,_,rfl,rfl,.inl ⟨Zz,Zz⟩,_,_,rfl,rfl,_,rfl,st,_,2,.int (c+1),rfl,rfl,SqL.of jI,rfl,_,_,rfl,rfl,_,_,rfl,rfl,(by show(0:Int)<2147483647;decide),_,rfl,st,_,1,1,rfl,rfl,jI,rfl,?_⟩;have IU:0<=(b*48271+29+(c+1)) % 2147483647:=Int.emod_nonneg _ Zx;have QJ:(b*48271+29+(c+1)) % 2147483647<2147483647:=Int.emod_lt_of_pos _ Zx
   obtain⟨m,hm⟩:∃m,m=(b*48271+29+(c+1)) % 2147483647:=⟨_,rfl⟩
   rw[<-hm]at IU QJ;have eL:([V.int a,V.int b,V.int (c+1)].set 1 ((fun i j:Int=>V.int (i % j)) (b*48271+29+(c+1)) 2147483647))=[V.int a,V.int m,V.int (c+1)]:=by rw[hm];rfl
   rw[eL]
   have eu:upd (upd H st (.lst [.int a,.int b,.int (c+1)])) st (.lst [.int a,.int m,.int (c+1)])=upd H st (.lst [.int a,.int m,.int (c+1)]):=by
    funext z;by_cases hz:z=st
    .rw[hz,aa,aa]
    .rw[au hz,au hz,au hz]
   rw[eu];have fR:upd H st (.lst [.int a,.int m,.int (c+1)]) st=some (.lst [.int a,.int m,.int (c+1)]):=aa;refine⟨_,rfl,st,_,1,.int m,rfl,rfl,SqL.of fR,rfl,_,rfl,st,_,1,.int m,rfl,rfl,SqL.of fR,rfl,_,_,rfl,rfl,.inl ⟨Zz,Zz⟩,_,rfl,st,_,1,.int m,rfl,rfl,SqL.of fR,rfl,_,_,rfl,rfl,.inl ⟨by decide,by decide⟩,_,_,rfl,rfl,_,_,rfl,rfl,_,_,rfl,rfl,(by show(0:Int)<2147483629;decide),?_⟩;have IX:0<=(m*m+39373*m+7) % 2147483629:=Int.emod_nonneg _ Zx;have vn:(m*m+39373*m+7) % 2147483629<2147483629:=Int.emod_lt_of_pos _ Zx;refine⟨_,rfl,_,rfl,_,_,rfl,rfl,.inl ⟨Int.lt_of_lt_of_le Zx IX,Int.lt_trans vn Zx⟩,_,rfl,_,_,rfl,rfl,.inl ⟨by decide,by decide⟩,_,_,rfl,rfl,_,_,rfl,rfl,(by show(0:Int)<2147483587;decide),?_⟩;refine⟨_,rfl,_,_,rfl,rfl,⟨by decide,by decide⟩,_,rfl,_,_,rfl,rfl,(by show 0<n;lia),?_⟩;exact q _ a m (c+1) (Int.emod_nonneg _ Zz) (Int.emod_lt_of_pos _ Zz) ha IU Zz
end
theorem ok_b{X:Cx}{body:List Stmt}{t:TS}{R:TS->Prop}(h:BSs X body t)(q:R t):∃t,PSs X body t/\R t:=⟨t,h.run,q⟩
def rr(rs:List Int)(i:Nat):Int:=rs.getD i 0
def bef(rs:List Int)(i j:Nat):Bool:=decide (rr rs j<rr rs i)||(decide (rr rs i=rr rs j)&&decide (i<=j))
theorem bef_iff{rs:List Int}{i j:Nat}:bef rs i j=true↔rr rs j<rr rs i\/(rr rs i=rr rs j/\i<=j):=by
 unfold bef;rw[Bool.or_eq_true,zAc,decide_eq_true_iff,decide_eq_true_iff,decide_eq_true_iff]
structure Ord(rs:List Int)(pl:List Nat):Prop where
 pm:pl.Perm (List.range rs.length)
 so:pl.Pairwise fun i j=>bef rs i j=true
theorem iz(rs:List Int):∃pl,Ord rs pl:=by
 refine⟨(List.range rs.length).mergeSort (bef rs),List.mergeSort_perm _ _,List.pairwise_mergeSort (fun a b c h1 h2=>?_) (fun a b=>?_) _⟩
 .rw[bef_iff]at h1 h2⊢;lia
 .rw[Bool.or_eq_true,bef_iff,bef_iff];lia
theorem HB{rs:List Int}{p q:List Nat}(h:Ord rs p)(h':Ord rs q):p=q:=by
 refine List.Perm.eq_of_pairwise (fun a b _ _ h1 h2=>?_) h.so h'.so (h.pm.trans h'.pm.symm);rw[bef_iff]at h1 h2;lia
def cT(fs:List Int)(pl:List Nat):List Int:=pl.foldl (fun l i=>l.set i (l.getD i 0+1)) fs
def fO(rs:List Int)(pl:List Nat):List Int:=pl.foldl (fun l i=>l.set i (-1)) rs
theorem oh(fs:List Int)(pl:List Nat)(i:Nat):cT fs (pl++[i])=(cT fs pl).set i ((cT fs pl).getD i 0+1):=by
 unfold cT;rw[List.foldl_append];rfl
theorem vG(rs:List Int)(pl:List Nat)(i:Nat):fO rs (pl++[i])=(fO rs pl).set i (-1):=by
 unfold fO;rw[List.foldl_append];rfl
theorem jd:∀(pl:List Nat) (fs:List Int),(cT fs pl).length=fs.length
 |[],_=>rfl
 |i::pl,fs=>by
  show(cT (fs.set i _) pl).length=_;rw[jd pl,List.length_set]
theorem je:∀(pl:List Nat) (rs:List Int),(fO rs pl).length=rs.length
 |[],_=>rfl
 |i::pl,rs=>by
  show(fO (rs.set i _) pl).length=_;rw[je pl,List.length_set]
theorem qy:∀(pl:List Nat) (rs:List Int) (i:Nat),i<rs.length->(fO rs pl).getD i 0=if i∈pl then -1 else rs.getD i 0
 |[],rs,i,_=>by simp[fO]
 |j::pl,rs,i,h=>by
  show(fO (rs.set j (-1)) pl).getD i 0=_;rw[qy pl (rs.set j (-1)) i (by rw[List.length_set];exact h)];by_cases e:i∈pl
  .rw[zAy e,zAy (List.mem_cons_of_mem _ e)]
  .rw[zAv e];by_cases e2:i=j
   .subst e2;rw[zAy List.mem_cons_self,zA7,List.getElem?_set_self h];rfl
   .rw[if_neg (by simp[e,e2]),List.getD_eq_getElem?_getD,List.getElem?_set_ne (Ne.symm e2),<-List.getD_eq_getElem?_getD]
theorem pick{rs:List Int}{pl:List Nat}(h:Ord rs pl)(h0:∀r∈rs,0<=r){t:Nat}(ht:t<pl.length){M:Int}(hM:M∈fO rs (pl.take t))(fI:∀a∈fO rs (pl.take t),a<=M):
  (fO rs (pl.take t))[pl[t]]?=some M/\∀i,i<pl[t]->(fO rs (pl.take t))[i]?≠some M:=by
 have hlen:=je (pl.take t) rs;have nd:pl.Nodup:=h.pm.nodup_iff.mpr List.nodup_range;have inr:∀i∈pl,i<rs.length:=fun i hi=>List.mem_range.mp (h.pm.mem_iff.mp hi);have EM:pl[t]∈pl:=zAh ht
 have nt:pl[t]∉pl.take t:=fun hm=>by
  obtain⟨j,hj,e⟩:=List.getElem_of_mem hm;rw[zAd]at hj;rw[List.getElem_take]at e;have:=(List.getElem_inj nd).mp e;lia
 have val:∀i,i<rs.length->(fO rs (pl.take t))[i]?=some (if i∈pl.take t then -1 else rr rs i):=fun i hi=>by
  have g:=qy (pl.take t) rs i hi;rw[zA7,zA0 (by rw[hlen];exact hi),Option.getD_some]at g;rw[zA0 (by rw[hlen];exact hi),g];rfl
 have EN:∀i,i<rs.length->0<=rr rs i:=fun i hi=>by
  unfold rr;rw[zA7,zA0 hi];exact h0 _ (zAh hi)
 have rest:∀i,i<rs.length->i∉pl.take t->bef rs pl[t] i=true:=fun i hi hn=>by
  have QK:i∈pl:=h.pm.mem_iff.mpr (List.mem_range.mpr hi);obtain⟨j,hj,e⟩:=List.getElem_of_mem QK
  have kc:t<=j:=by
   refine Nat.le_of_not_lt fun c=>hn ?_;rw[<-e];have:(pl.take t)[j]'(by rw[zAd];lia)=pl[j]:=List.getElem_take;rw[<-this];exact zAh _
  by_cases c:t=j
  .subst c;rw[e,bef_iff];exact .inr ⟨rfl,zA3 _⟩
  .have:=List.pairwise_iff_getElem.mp h.so t j ht hj Zz;rw[e]at this;exact this
 have vt:=val pl[t] (inr _ EM);rw[zAv nt]at vt
 have eM:M=rr rs pl[t]:=by
  have h1:rr rs pl[t]<=M:=fI _ (zB5 vt);obtain⟨i,hi,e⟩:=List.getElem_of_mem hM;rw[hlen]at hi;have v:=val i hi;rw[zA0 (by rw[hlen];exact hi),e]at v;injection v with v;by_cases c:i∈pl.take t
  .rw[zAy c]at v;have:=EN pl[t] (inr _ EM);lia
  .rw[zAv c]at v;have:=bef_iff.mp (rest i hi c);lia
 refine⟨by rw[vt,eM],fun i hi e=>?_⟩;have dQ:i<rs.length:=Nat.lt_trans hi (inr _ EM);rw[val i dQ]at e;injection e with e;by_cases c:i∈pl.take t
 .rw[zAy c]at e;have:=EN pl[t] (inr _ EM);lia
 .rw[zAv c]at e;have:=bef_iff.mp (rest i dQ c);lia
def fs(n:Int)(ws:List Int):List Int:=ws.map fun w=>n*w / ws.sum
def rs(n:Int)(ws:List Int):List Int:=ws.map fun w=>n*w % ws.sum
def lf(n:Int)(ws:List Int):Int:=n-(fs n ws).sum
def OkW(ws:List Int):Prop:=1<=ws.length/\ws.length<=80/\∀w∈ws,1<=w/\w<=99
theorem sy{B:Int}:∀{l:List Int},(∀a∈l,a<=B)->l.sum<=B*l.length
 |[],_=>by simp
 |a::l,h=>by
  have h1:=sy (B:=B) (l:=l) fun b hb=>h b (.tail _ hb);have h2:=h a (.head _);rw[List.sum_cons,List.length_cons,show B*((l.length+1:Nat):Int)=B*l.length+B by rw[Int.natCast_add,Int.mul_add];simp];lia
theorem iZ:∀{l:List Int},(∀a∈l,0<=a)->0<=l.sum
 |[],_=>by simp
 |a::l,h=>by
  have h1:=iZ (l:=l) fun b hb=>h b (.tail _ hb);have h2:=h a (.head _);rw[List.sum_cons];lia
theorem OkW.pos{ws:List Int}(h:OkW ws):1<=ws.sum:=by
 obtain⟨h1,_,h3⟩:=h
 match ws,h1,h3 with
 |w::ws,_,h3=>
  have:=iZ (l:=ws) fun a ha=>by have:=h3 a (.tail _ ha);lia
  have:=h3 w (.head _);rw[List.sum_cons];lia
theorem OkW.top{ws:List Int}(h:OkW ws):ws.sum<=7920:=by
 have h1:=sy (B:=99) fun a ha=>(h.2.2 a ha).2;have:=h.2.1;lia
theorem divs(n T:Int):∀ws:List Int,T*(ws.map fun w=>n*w / T).sum+(ws.map fun w=>n*w % T).sum=n*ws.sum
 |[]=>by simp
 |w::ws=>by
  have h1:=divs n T ws;have h2:=Int.mul_ediv_add_emod (n*w) T;simp only[List.map_cons,List.sum_cons,Int.mul_add];lia
theorem HD(n:Int)(ws:List Int):ws.sum*lf n ws=(rs n ws).sum:=by
 have h:=divs n ws.sum ws;unfold lf fs rs;rw[Int.mul_sub,Int.mul_comm ws.sum n];lia
theorem G9{n:Int}{ws:List Int}(h:OkW ws):∀r∈rs n ws,0<=r:=fun r hr=>by
 obtain⟨w,_,rfl⟩:=zA5.mp hr;have:=h.pos;exact Int.emod_nonneg _ Zz
theorem Jy{n:Int}{ws:List Int}(h:OkW ws):∀r∈rs n ws,r<=ws.sum:=fun r hr=>by
 obtain⟨w,_,rfl⟩:=zA5.mp hr;have:=h.pos;exact Int.le_of_lt (Int.emod_lt_of_pos _ Zz)
theorem ou(n:Int)(ws:List Int):(fs n ws).length=ws.length:=zA1 _
theorem gG(n:Int)(ws:List Int):(rs n ws).length=ws.length:=zA1 _
theorem xn{n:Int}{ws:List Int}(h:OkW ws):0<=lf n ws:=by
 have h1:=HD n ws;have h2:=iZ (G9 (n:=n) h);have h3:=h.pos;refine Int.le_of_not_gt fun c=>?_;have:=Int.mul_le_mul_of_nonneg_left (c:=ws.sum) (show lf n ws<=-1 by lia) Zz;lia
theorem BK{n:Int}{ws:List Int}(h:OkW ws):lf n ws<=ws.length:=by
 have h1:=HD n ws;have h2:=sy (Jy (n:=n) h);rw[gG]at h2;have h3:=h.pos;refine Int.le_of_not_gt fun c=>?_;have:=Int.mul_le_mul_of_nonneg_left (c:=ws.sum) (show(ws.length:Int)+1<=lf n ws by lia) Zz;rw[Int.mul_add]at this;lia
theorem HF{ws:List Int}(h:OkW ws):lf ws.sum ws=0:=by
 have h1:=HD ws.sum ws
 have h2:(rs ws.sum ws).sum<=0:=by
  have:=sy (B:=0) (l:=rs ws.sum ws) fun r hr=>by
   obtain⟨w,_,rfl⟩:=zA5.mp hr;rw[Int.mul_emod_right];exact Int.le_refl _
  lia
 have h3:=h.pos;have h4:=xn (n:=ws.sum) h;refine Int.le_antisymm (Int.le_of_not_gt fun c=>?_) h4;have:=Int.mul_le_mul_of_nonneg_left (c:=ws.sum) (show 1<=lf ws.sum ws by lia) Zz;lia
theorem qz:∀(pl:List Nat) (l:List Int) (i:Nat),i<l.length->(cT l pl).getD i 0=l.getD i 0+pl.count i
 |[],l,i,_=>by simp[cT]
 |j::pl,l,i,h=>by
  show(cT (l.set j (l.getD j 0+1)) pl).getD i 0=_;rw[qz pl _ i (by rw[List.length_set];exact h),List.count_cons];by_cases e:j=i
  .subst e;rw[zA7,List.getElem?_set_self h,Option.getD_some,beq_self_eq_true,zAy rfl];lia
  .rw[List.getD_eq_getElem?_getD,List.getElem?_set_ne e,<-List.getD_eq_getElem?_getD,if_neg (by simp[e])];lia
theorem Ord.nd{r:List Int}{pl:List Nat}(h:Ord r pl):pl.Nodup:=h.pm.nodup_iff.mpr List.nodup_range
theorem Ord.len{r:List Int}{pl:List Nat}(h:Ord r pl):pl.length=r.length:=by rw[h.pm.length_eq,List.length_range]
theorem Ord.lt{r:List Int}{pl:List Nat}(h:Ord r pl):∀i∈pl,i<r.length:=fun i hi=>List.mem_range.mp (h.pm.mem_iff.mp hi)
def res(n:Int)(ws:List Int):List Int:=cT (fs n ws) ((iz (rs n ws)).choose.take (lf n ws).toNat)
theorem BL{n:Int}{ws:List Int}{pl:List Nat}(h:Ord (rs n ws) pl):cT (fs n ws) (pl.take (lf n ws).toNat)=res n ws:=by
 unfold res;rw[HB h (iz (rs n ws)).choose_spec]
theorem res_len(n:Int)(ws:List Int):(res n ws).length=ws.length:=by
 unfold res;rw[jd,ou]
theorem res_get{n:Int}{ws:List Int}(h:OkW ws)(n0:0<=n)(n1:n<=ws.sum){i:Nat}{r w:Int}(hr:(res n ws)[i]?=some r)(hw:ws[i]?=some w):0<=r/\r<=w:=by
 have hi:i<ws.length:=(zAa.mp hw).1;have hp:=h.pos;have ww:=h.2.2 w (zB5 hw)
 have e:r=n*w / ws.sum+((iz (rs n ws)).choose.take (lf n ws).toNat).count i:=by
  have:=qz ((iz (rs n ws)).choose.take (lf n ws).toNat) (fs n ws) i (by rw[ou];exact hi)
  have e2:(fs n ws).getD i 0=n*w / ws.sum:=by
   unfold fs;rw[zA7,zAb,hw];rfl
  rw[e2]at this;rw[<-this,show cT (fs n ws) _=res n ws from rfl,zA7,hr];rfl
 have c1:((iz (rs n ws)).choose.take (lf n ws).toNat).count i<=1:=List.nodup_iff_count.mp ((iz (rs n ws)).choose_spec.nd.sublist (List.take_sublist _ _)) i;have q0:0<=n*w / ws.sum:=Int.ediv_nonneg (Int.mul_nonneg n0 Zz) Zz;refine⟨Zz,?_⟩;by_cases en:n=ws.sum
 .have:((iz (rs n ws)).choose.take (lf n ws).toNat)=[]:=by
   rw[en,HF h];rfl
  rw[this]at e;rw[en,Int.mul_ediv_cancel_left _ Zz]at e;simp at e;lia
 .have:n*w / ws.sum<w:=by
   refine Int.ediv_lt_of_lt_mul Zz ?_;rw[Int.mul_comm w];exact Int.mul_lt_mul_of_pos_right Zz Zz
  lia
theorem qC{K:Frag}{te:TE}{p:Addr}{ws:List Int}{dv:St}{H0:Hp}{Fin:List V->Hp->Prop}(f:Int->Int)(ep:H0 p=some (.tup (ws.map V.int)))(hl:ws.length<sizeLine)
  (nK:∀(z:Int) (Q:VK),z∈ws->Q (.int (f z)) H0->te (dv.set 0 (some (.int z))) H0 Q) (fin:Fin ((ws.map f).map V.int) H0):jD (Itt K p) (bH 0) tR te Fin dv H0:=by
 refine comp_gen ws.length (fun i ys σ H=>H=H0/\(∀o,σ.set 0 o=dv.set 0 o)/\ys=((ws.take i).map f).map V.int) ⟨rfl,fun _=>rfl,rfl⟩ hl ?_ ?_
 .rintro i ys σ H hi hy ⟨rfl,iE,rfl⟩;have hz:(ws.map V.int)[i]?=some (.int ws[i]):=by rw[zAb,zA0 hi];rfl
  refine⟨⟨_,_,SqT.of ep,hz⟩,fun v H' y' R hR=>?_⟩;obtain⟨rfl,y'⟩:=y';have hv:=y' _ (SqT.of ep);rw[hz]at hv;cases hv;show te (σ.set 0 (some (.int ws[i]))) _ _;rw[iE];refine nK ws[i] _ (zAh hi) (hR _ _ _ ⟨rfl,fun o=>by rw[List.set_set],?_⟩);rw[zAj,zA0 hi,zA4,zA4];rfl
 .rintro ys σ H hy ⟨rfl,iE,rfl⟩;refine⟨⟨_,SqT.of ep,by rw[zA1];exact zA3 _⟩,?_⟩;rw[zAm];exact fin
def wD(ws:List Int):PyData:=.tuple (ws.map PyData.int)
theorem uE:∀(r:List Int),szs (r.map PyData.int)=r.length
 |[]=>rfl
 |_::r=>by
  show 1+szs (r.map PyData.int)=r.length+1;rw[uE r,Nat.add_comm]
theorem Ky(ws:List Int):sz (wD ws)=1+ws.length:=by
 show 1+szs (ws.map PyData.int)=_;rw[uE]
theorem Kz{ws:List Int}(h:OkW ws):iY (wD ws)=true:=by
 unfold iY;rw[zAc];refine⟨?_,List.all_eq_true.mpr fun d hd=>?_⟩
 .show(true&&(decide (1<=((ws.map PyData.int).length:Int))&&decide (((ws.map PyData.int).length:Int)<=80)))=true;have h1:=h.1;have h2:=h.2.1;rw[zA1,zAt Zz,zAt Zz];rfl
 .obtain⟨w,hw,rfl⟩:=zA5.mp hd;have:=h.2.2 w hw;show(true&&(decide (1<=w)&&decide (w<=99)))=true;rw[zAt this.1,zAt this.2];rfl
inductive SpRefuseI(vs:List V)(H:Hp)(Q:VK):Prop
 |mk:∀n p ws,(vs=[.int n,.ref p])->(H p=some (.tup (ws.map V.int)))->(OkW ws)->(0<=n)->(n<=ws.sum)->(∀H',Same H H'->Q .non H')->SpRefuseI  vs H Q
def uF:Sp:=fun vs H Q _=>SpRefuseI  vs H Q
inductive SpPlacesI(vs:List V)(H:Hp)(Q:VK):Prop
 |mk:∀p rests,(vs=[.ref p])->(H p=some (.lst ((rests:List Int).map V.int)))->(rests.length<sizeLine)->(∀H' q pl,Ord rests pl->Same H H'->H q=none->H' q=some (.lst (pl.map fun j:Nat=>V.int (j:Int)))->Q (.ref q) H')->SpPlacesI  vs H Q
def uG:Sp:=fun vs H Q _=>SpPlacesI  vs H Q
inductive SpPartsI(vs:List V)(H:Hp)(Q:VK):Prop
 |mk:∀n p ws,(vs=[.int n,.ref p])->(H p=some (.tup (ws.map V.int)))->(OkW ws)->(0<=n)->(n<=ws.sum)->(∀H' q,Same H H'->H' q=some (.tup ((res n ws).map V.int))->Q (.ref q) H')->SpPartsI  vs H Q
def spParts:Sp:=fun vs H Q _=>SpPartsI  vs H Q
def iD(H:Hp)(a:Addr):Nat:=match H a with
 |some (.tup [_,.int y])=>y.toNat
 |_=>0
def rowAt(H:Hp)(a:Addr):List Int:=match H a with
 |some (.tup [.int x,.int y])=>[x,y]
 |_=>[]
theorem Jz{rests:List Int}{i:Nat}{x:Int}(h:rests[i]?=some x):rr rests i=x:=by
 unfold rr;rw[zA7,h];rfl
theorem Fd{rests:List Int}{i j:Nat}(h:HT.lexLt [-(rr rests j),(j:Int)] [-(rr rests i),(i:Int)]=false):bef rests i j=true:=by
 rw[bef_iff];rw[HT.lexLt_cons]at h;by_cases e:-(rr rests j)=-(rr rests i)
 .rw[zAy e,HT.lexLt_cons]at h;by_cases e2:(j:Int)=(i:Int)
  .exact .inr ⟨Zz,Zz⟩
  .rw[zAv e2]at h;have:=of_decide_eq_false h;exact .inr ⟨Zz,Zz⟩
 .rw[zAv e]at h;have:=of_decide_eq_false h;exact .inl Zz
section
variable{P:Program}{w:World}{K:Frag}{mg:Str->Option Value}{base:Heap}{f:Addr}{fd:FuncData}
theorem KC:FnScope ["sacks","weights"] ["sacks","weights"] (aJ (top 38)):=fS
theorem ok_refuse(F:Fun K "refuse_unpartable" "refuse_unpartable" (top 38) f fd)(Ts:mg "sum"=none)(c1:Cal P w K mg base 4 "are_weights" ["thing"] (spT iY))(c2:Cal P w K mg base 2 "is_whole_from" ["thing","least","most"] (lV pH)):
  FnOk P w K mg base CX0 5 f fd ["sacks","weights"] uF:=by
 refine F.ok KC (fun vs H Q E h=>?_) (fun ai A outer s H vs Q E hr h=>?_)
 .obtain⟨n,p,ws,rfl,_⟩:=h;rfl
 .obtain⟨n,p,ws,rfl,ep,ok,n0,n1,q⟩:=h
  refine⟨_,aB (cU (dR (fU (aK c1 hr (aP (pv 1) aj)))) (aG jw) bz)
   (aG (cU (dR (fU (aK c2 hr (aP (pv 0) (aP aA (aP (aM (cu rfl) rfl Ts boot_sum (aq (pv 1) aj)) aj)))))) (aG jw) bz)),?_⟩
  refine aC ?_;refine⟨_,rfl,fun _=>False,_,wD ws,rfl,.tup ep (IsThs.ints ws),by rw[Ky];have:=ok.2.1;lia,fun H1 s1=>⟨_,rfl,?_⟩⟩;rw[Kz ok];refine bA ?_;dsimp only;refine⟨_,rfl,_,rfl,p,ws,rfl,.inr (SqT.of (s1 _ _ ep)),fun _=>False,_,.int n,0,_,rfl,.int n,(by show 1<=4000;decide),fun H2 s2=>⟨_,rfl,?_⟩⟩
  have e:pH (.int n) 0 ws.sum=true:=by
   show(true&&(decide (0<=n)&&decide (n<=ws.sum)))=true;rw[zAt n0,zAt n1];rfl
  rw[e];exact bA (q H2 (s1.trans s2))
theorem sc13:FnScope ["rests","ranked"] ["rests"] (aJ (top 39)):=fS
theorem ok_places(F:Fun K "places_by_rest" "places_by_rest" (top 39) f fd)(Te:mg "enumerate"=none)(Ts:mg "sorted"=none):FnOk P w K mg base CX0 1 f fd ["rests"] uG:=by
 refine F.ok sc13 (fun vs H Q E h=>?_) (fun ai A outer s H vs Q E hr h=>?_)
 .obtain⟨p,rests,rfl,_⟩:=h;rfl
 .obtain⟨p,rests,rfl,ep,hz,q⟩:=h
  refine⟨_,aB (pss 1 sc13.nd (aM rP rfl Ts boot_sorted (aq (bx (g:=jY K 2 (cz (bH 0) (cz (bH 1) lN))) ["at","rest"] [none,none] rfl (ZT.pi_enum false rfl Te (aq (pv 0) aj))
    (fun C fp Zt s₂ H₂=>⟨dZ rfl rfl (ao (bj (i:=0) (nd2 _ _ Zx) rfl (Or.inl rfl) (Or.inr rfl)) (ao (bj (i:=1) (nd2 _ _ Zx) rfl (Or.inl rfl) (Or.inr rfl)) aV)),bI,
     bB (aq (FZ Ae (pv 1)) (aq (pv 0) aj))⟩) (fun C=>trivial) ⟨rfl,rfl,rfl,rfl⟩) aj)))
   (aG (aQ (bx (g:=jY K 2 (cz (bH 0) (cz (bH 1) lN))) ["minus","at"] [none,none] rfl (bL (pv 1))
    (fun C fp Zt s₂ H₂=>⟨dZ rfl rfl (ao (bj (i:=0) (nd2 _ _ Zx) rfl (Or.inl rfl) (Or.inr rfl)) (ao (bj (i:=1) (nd2 _ _ Zx) rfl (Or.inl rfl) (Or.inr rfl)) aV)),bI,
     pv 1⟩) (fun C=>trivial) ⟨rfl,rfl,rfl,rfl⟩))),?_⟩
  refine aC ?_;refine⟨_,rfl,p,_,rfl,SqL.of ep,comp_gen rests.length (fun i ys σ Hc=>Same H Hc/\(∃o1 o2,σ=[o1,o2])/\∃ts:List Addr,ys=ts.map V.ref/\∀j,j<i->∃a,ts[j]?=some a/\Hc a=some (.tup [.int (-(rr rests j)),.int (j:Int)])) ⟨Same.refl H,⟨_,_,rfl⟩,[],rfl,fun j hj=>absurd hj (Nat.not_lt_zero _)⟩ hz ?_ ?_⟩
  .rintro i ys σ Hc hi hy ⟨s1,⟨o1,o2,rfl⟩,ts,rfl,EO⟩;rw[zA1]at hy;have rg:SqL K Hc p (rests.map V.int):=SqL.of (s1 _ _ ep)
   have hx:(rests.map V.int)[i]?=some (.int (rr rests i)):=by
    rw[zAb,zA0 hi,Jz (zA0 hi)];rfl
   refine⟨⟨_,_,rg,hx⟩,fun v H' y R hR=>?_⟩;obtain⟨T,nT,rfl,y⟩:=y;obtain⟨x',kD,rfl⟩:=y _ rg;rw[hx]at kD;cases kD;have s2:=s1.updR (o:=.tup [.int (i:Int),.int (rr rests i)]) nT;refine⟨T,_,rfl,SqT.of aa,rfl,_,_,rfl,_,_,rfl,rfl,_,rfl,rr rests i,rfl,_,rfl,zL,fun t ht=>?_⟩;refine hR _ _ _ ⟨s2.updR ht,⟨_,_,rfl⟩,ts++[t],by rw[zA4];rfl,fun j hj=>?_⟩;by_cases e:j<i
   .obtain⟨a,h1,h2⟩:=EO j e;refine⟨a,by rw[zBc Zz];exact h1,?_⟩;exact Same.upd ht _ _ (Same.upd nT _ _ h2)
   .have e:j=i:=Zz
    subst e;refine⟨t,by rw[zBd Zz,hy,Nat.sub_self];rfl,aa⟩
  .rintro ys σ Hc hy ⟨s1,_,ts,rfl,EO⟩;rw[zA1]at hy;refine⟨⟨_,SqL.of (s1 _ _ ep),by rw[zA1];exact zA3 _⟩,fun D hD=>?_⟩;have s2:=s1.updR (o:=.lst (ts.map V.ref)) hD
   have vw:∀j,j<rests.length->∃a,ts[j]?=some a/\upd Hc D (.lst (ts.map V.ref)) a=some (.tup [.int (-(rr rests j)),.int (j:Int)]):=fun j hj=>by
    obtain⟨a,h1,h2⟩:=EO j hj;exact⟨a,h1,Same.upd hD _ _ h2⟩
   have eD:=aa (H:=Hc) (a:=D) (o:=.lst (ts.map V.ref));generalize upd Hc D (.lst (ts.map V.ref))=H2 at s2 vw eD⊢;clear EO hD s1
   have rh:∀a∈ts,∃j,j<rests.length/\H2 a=some (.tup [.int (-(rr rests j)),.int (j:Int)]):=fun a ha=>by
    obtain⟨j,hj,e⟩:=List.getElem_of_mem ha;obtain⟨b,h1,h2⟩:=vw j Zz;rw[zA0 hj]at h1;injection h1 with h1;refine⟨j,Zz,?_⟩;rw[<-e,h1];exact h2
   refine⟨D,ts,rowAt H2,rfl,SqL.of eD,fun a ha=>?_,fun q' l' hq pm so=>?_⟩
   .obtain⟨j,hj,e⟩:=rh a ha;have er:rowAt H2 a=[-(rr rests j),(j:Int)]:=by unfold rowAt;rw[e]
    rw[er];exact⟨SqT.of e,by simp⟩
   have y9:∀a∈l',∃j,j<rests.length/\H2 a=some (.tup [.int (-(rr rests j)),.int (j:Int)]):=fun a ha=>rh a (pm.mem_iff.mp ha)
   have sn:∀a∈l',H2 a=some (.tup [.int (-(rr rests (iD H2 a))),.int (iD H2 a:Int)])/\rowAt H2 a=[-(rr rests (iD H2 a)),(iD H2 a:Int)]:=fun a ha=>by
    obtain⟨j,hj,e⟩:=y9 a ha;have er:rowAt H2 a=[-(rr rests j),(j:Int)]:=by unfold rowAt;rw[e]
    have es:iD H2 a=j:=by unfold iD;rw[e];exact zAi j
    rw[er,es];exact⟨e,rfl⟩
   have ord:Ord rests (l'.map (iD H2)):=by
    refine⟨?_,?_⟩
    .refine(pm.map _).trans (List.Perm.of_eq (List.ext_getElem? fun j=>?_));by_cases hj:j<rests.length
     .obtain⟨a,h1,h2⟩:=vw j hj;rw[zAb,h1,List.getElem?_range hj];show some (iD H2 a)=some j;unfold iD;rw[h2];exact congrArg some (zAi j)
     .rw[List.getElem?_eq_none (by rw[zA1];lia),List.getElem?_eq_none (by rw[List.length_range];lia)]
    .refine List.pairwise_map.mpr (so.imp_of_mem fun{a b} ha hb h=>?_);rw[(sn a ha).2,(sn b hb).2]at h;exact Fd h
   have s3:=s2.updR (o:=.lst (l'.map V.ref)) hq;have ER:l'.length=rests.length:=by rw[pm.length_eq,hy]
   have BU:=aa (H:=H2) (a:=q') (o:=.lst (l'.map V.ref));have IY:∀a∈l',upd H2 q' (.lst (l'.map V.ref)) a=some (.tup [.int (-(rr rests (iD H2 a))),.int (iD H2 a:Int)]):=fun a ha=>Same.upd hq _ _ (sn a ha).1;generalize iD H2=sd at ord IY;generalize upd H2 q' (.lst (l'.map V.ref))=H3 at s3 BU IY⊢;dsimp only;refine iw ?_;refine⟨_,rfl,q',rfl,⟨_,SqL.of BU⟩,comp_gen rests.length (fun i ys σ Hc=>Same H3 Hc/\(∃o1 o2,σ=[o1,o2])/\ys=((l'.take i).map sd).map fun j:Nat=>V.int (j:Int)) ⟨Same.refl H3,⟨_,_,rfl⟩,rfl⟩ hz ?_ ?_⟩
   .rintro i ys σ Hc hi hy ⟨s4,⟨o1,o2,rfl⟩,rfl⟩;have dQ:i<l'.length:=Zz
    have hu:(l'.map V.ref)[i]?=some (.ref l'[i]):=by rw[zAb,zA0 dQ];rfl
    refine⟨⟨_,_,SqL.of (s4 _ _ BU),hu⟩,fun v H' y R hR=>?_⟩;obtain⟨rfl,y⟩:=y;have hv:=y _ (SqL.of (s4 _ _ BU));rw[hu]at hv;cases hv;refine⟨l'[i],_,rfl,SqT.of (s4 _ _ (IY _ (zAh dQ))),rfl,_,_,rfl,_,_,rfl,rfl,_,rfl,hR _ _ _ ⟨s4,⟨_,_,rfl⟩,?_⟩⟩;rw[zAj,zA0 dQ,zA4,zA4];rfl
   .rintro ys σ Hc mM ⟨s4,_,rfl⟩;refine⟨⟨_,SqL.of (s4 _ _ BU),by rw[zA1];lia⟩,fun D' NB=>?_⟩;have s5:=s3.trans s4;have hn:H D'=none:=s5.free NB;refine q _ D' _ ord (s5.updR NB) hn ?_;rw[aa,List.take_of_length_le Zz]
end
theorem sE{n j:Nat}(h:j<n):ixN n (j:Int)=some j:=by
 unfold ixN;rw[zAy Zz,zAy Zz,zAi]
theorem BP{ws:List Int}(ok:OkW ws):ws.length<sizeLine:=by
 have:=ok.2.1;rw[sizeLine_eq];lia
section
variable{P:Program}{w:World}{K:Frag}{mg:Str->Option Value}{base:Heap}{f:Addr}{fd:FuncData}
theorem JB:(["weight","sacks","together"]:List Str).Nodup:=by decide +kernel
theorem sc14:FnScope ["sacks","weights","together","parts","rests","left","at"] ["sacks","weights"] (aJ (top 40)):=fS
theorem ok_parts(F:Fun K "parts_of" "parts_of" (top 40) f fd)(T:Mg mg)(Ts:mg "sum"=none)(c1:Cal P w K mg base 1 "places_by_rest" ["rests"] uG):FnOk P w K mg base CX0 2 f fd ["sacks","weights"] spParts:=by
 refine F.ok sc14 (fun vs H Q E h=>?_) (fun ai A outer s H vs Q E hr h=>?_)
 .obtain⟨n,p,ws,rfl,_⟩:=h;rfl
 .obtain⟨n,p,ws,rfl,ep,ok,n0,n1,q⟩:=h
  refine⟨_,aB (jZ (i:=2) sc14.nd rfl (Or.inr rfl) (aM (cu rfl) rfl Ts boot_sum (aq (pv 1) aj)))
   (aB (gh (i:=3) ["weight","sacks","together"] [none,some 0,some 2] rfl sc14.nd rfl (Or.inl rfl) (ig (pv 1))
    (fun C fp Zt s₂ H₂=>⟨pgn 0 JB,bI,aU mq (aU gB (pv 1) (pv 0)) (pv 2)⟩) (fun C=>cI (cI trivial)) ⟨rfl,rfl,rfl,rfl⟩)
   (aB (gh (i:=4) ["weight","sacks","together"] [none,some 0,some 2] rfl sc14.nd rfl (Or.inl rfl) (ig (pv 1))
    (fun C fp Zt s₂ H₂=>⟨pgn 0 JB,bI,aU iH (aU gB (pv 1) (pv 0)) (pv 2)⟩) (fun C=>cI (cI trivial)) ⟨rfl,rfl,rfl,rfl⟩)
   (aB (pss 5 sc14.nd (aU dW (pv 0) (aM (cu rfl) rfl Ts boot_sum (aq (pv 3) aj))))
   (aB (bN zB3 rfl (bL (iJ wg (aK c1 hr (aq (pv 4) aj)) jz (jA (pv 5)))) (pgn 6 sc14.nd)
    (aG (mj (pv 3) (pv 6) gQ aA uQ set_list)))
   (aG (aQ (cR cj rfl T.tuple boot_tuple (aq (pv 3) aj)))))))),?_⟩
  have hp:=ok.pos;have ht:=ok.top;have rj:=BP ok;refine aC ?_;refine⟨_,rfl,p,ws,rfl,.inr (SqT.of ep),?_⟩;dsimp only;refine aC ?_;refine⟨_,rfl,p,rfl,⟨_,SqT.of ep⟩,qC (fun z=>n*z / ws.sum) ep rj (fun z Q hz h=>⟨_,rfl,_,rfl,_,_,rfl,rfl,.inl ⟨Zz,Zz⟩,_,rfl,_,_,rfl,rfl,⟨Zz,Zz⟩,h⟩) ?_⟩;rw[show ws.map (fun z=>n*z / ws.sum)=fs n ws from rfl];intro l1 cv;have s1:=Same.upd (o:=.lst ((fs n ws).map V.int)) cv;have el1:=aa (H:=H) (a:=l1) (o:=.lst ((fs n ws).map V.int));generalize upd H l1 _=H1 at s1 el1⊢;dsimp only;refine aC ?_;refine⟨_,rfl,p,rfl,⟨_,SqT.of (s1 _ _ ep)⟩,qC (fun z=>n*z % ws.sum) (s1 _ _ ep) rj (fun z Q hz h=>⟨_,rfl,_,rfl,_,_,rfl,rfl,.inl ⟨Zz,Zz⟩,_,rfl,_,_,rfl,rfl,(by show 0<ws.sum;lia),h⟩) ?_⟩;rw[show ws.map (fun z=>n*z % ws.sum)=rs n ws from rfl];intro l2 eW;have s2:=s1.updR (o:=.lst ((rs n ws).map V.int)) eW;have el2:=aa (H:=H1) (a:=l2) (o:=.lst ((rs n ws).map V.int));have fN:=Same.upd (o:=.lst ((rs n ws).map V.int)) eW _ _ el1;have rf:H l1=none:=cv;clear cv eW;generalize upd H1 l2 _=H2 at s2 el2 fN⊢;clear el1 s1;dsimp only;refine aC ?_;refine⟨_,rfl,_,rfl,l1,fs n ws,rfl,.inl (SqL.of fN),_,_,rfl,rfl,?_⟩;show _;dsimp only;rw[show n-(fs n ws).sum=lf n ws from rfl];refine aC ?_;refine⟨_,rfl,l2,rs n ws,rfl,el2,by rw[gG];exact rj,fun H3 l3 pl ord s3 QL el3=>⟨_,rfl,_,rfl,l3,_,rfl,SqL.of el3,fun l4 zd=>⟨l4,rfl,⟨_,SqL.of aa⟩,?_⟩⟩⟩;have QM:=xn (n:=n) ok;have QN:=BK (n:=n) ok;have IZ:=ord.len;rw[gG]at IZ
  have Jn:lO (pl.map fun j:Nat=>V.int (j:Int)) none (some (lf n ws))=(pl.take (lf n ws).toNat).map fun j:Nat=>V.int (j:Int):=by
   rw[List.map_take,<-cut_take (i:=(lf n ws).toNat) (by rw[zA1];lia),show((lf n ws).toNat:Int)=lf n ws by lia]
  rw[Jn];have fin:=BL ord
  have inr:∀j∈pl.take (lf n ws).toNat,j<ws.length:=fun j hj=>by
   have:=ord.lt j (List.mem_of_mem_take hj);rw[gG]at this;exact this
  generalize pl.take (lf n ws).toNat=pk at fin inr zd⊢;have s4:=(s2.trans s3).updR (o:=.lst (pk.map fun j:Nat=>V.int (j:Int))) zd;have el4:=aa (H:=H3) (a:=l4) (o:=.lst (pk.map fun j:Nat=>V.int (j:Int)));have BY:=Same.upd (o:=.lst (pk.map fun j:Nat=>V.int (j:Int))) zd _ _ (s3 _ _ fN)
  have QO:l4≠l1:=fun z=>by
   rw[z,s3 _ _ fN]at zd;cases zd
  generalize upd H3 l4 (.lst (pk.map fun j:Nat=>V.int (j:Int)))=H4 at s4 el4 BY⊢;clear zd el3 QL s3 fN el2 s2;refine fj (xs:=pk.map fun j:Nat=>V.int (j:Int)) (fun i σ Hc=>∃o6,σ=[some (.int n),some (.ref p),some (.int ws.sum),some (.ref l1),some (.ref l2),some (.int (lf n ws)),o6]/\Same H Hc/\Hc l4=some (.lst (pk.map fun j:Nat=>V.int (j:Int)))/\Hc l1=some (.lst ((cT (fs n ws) (pk.take i)).map V.int))) ?_ ?_ ?_ ?_
  .exact⟨none,rfl,s4,el4,BY⟩
  .rintro i σ Hc hi ⟨o6,rfl,s5,e4,e1⟩;exact SqL.of e4
  .rintro i v σ Hc hv ⟨o6,rfl,s5,e4,e1⟩;rw[zAb]at hv
   cases hj:pk[i]? with
   |none=>rw[hj]at hv;cases hv
   |some j=>
    rw[hj]at hv;cases hv;refine aF ?_
    have kp:∀o,Same H (upd Hc l1 o):=fun o b u e=>by
     rw[au (az e rf)];exact s5 _ _ e
    have ax:j<(cT (fs n ws) (pk.take i)).length:=by
     rw[jd,ou];exact inr j (zB5 hj)
    have hx:((cT (fs n ws) (pk.take i)).map V.int)[((j:Nat):Int).toNat]?=some (.int ((cT (fs n ws) (pk.take i)).getD j 0)):=by
     rw[zAi,zAb,zA0 ax,zA7,zA0 ax];rfl
    refine⟨_,rfl,_,rfl,l1,_,(j:Int),_,rfl,rfl,SqL.of e1,Zz,hx,_,_,rfl,rfl,l1,_,(j:Int),j,rfl,rfl,e1,sE (by rw[zA1];exact ax),?_⟩;refine⟨_,rfl,kp _,by rw[au QO];exact e4,?_⟩;rw[aa,zAj,hj];show _=some (HO.lst ((cT (fs n ws) (pk.take i++[j])).map V.int));rw[oh,List.map_set]
  .rintro σ Hc ⟨o6,rfl,s5,e4,e1⟩;rw[zA1,zAm,fin]at e1;dsimp only;refine iw ?_;exact⟨_,rfl,l1,_,rfl,.inl ⟨SqL.of e1,fun t ht=>q _ t (s5.updR ht) aa⟩⟩
theorem sc15:FnScope ["sacks","weights"] ["sacks","weights"] (aJ (top 41)):=fS
theorem ok_parted(F:Fun K "parted" "parted" (top 41) f fd)(c1:Cal P w K mg base 5 "refuse_unpartable" ["sacks","weights"] uF)(c2:Cal P w K mg base 2 "parts_of" ["sacks","weights"] spParts):FnOk P w K mg base CX0 6 f fd ["sacks","weights"] spParts:=by
 refine F.ok sc15 (fun vs H Q E h=>?_) (fun ai A outer s H vs Q E hr h=>?_)
 .obtain⟨n,p,ws,rfl,_⟩:=h;rfl
 .obtain⟨n,p,ws,rfl,ep,ok,n0,n1,q⟩:=h;refine⟨_,aB (dC (aK c1 hr (aq (pv 0) (aq (pv 1) aj)))) (aG (aQ (aK c2 hr (aq (pv 0) (aq (pv 1) aj))))),?_⟩;refine aC ?_;refine⟨_,rfl,_,rfl,n,p,ws,rfl,ep,ok,n0,n1,fun H1 s1=>?_⟩;dsimp only;refine iw ?_;exact⟨_,rfl,_,rfl,n,p,ws,rfl,s1 _ _ ep,ok,n0,n1,fun H2 t s2 et=>q H2 t (s1.trans s2) et⟩
end
end K31P
namespace K31
open PySem L2
def aW:Int->List (List Int)->List Int
 |_,[]=>[]
 |w,r::rs=>(if w<fl r 3 then w else fl r 3)::aW (w-(if w<fl r 3 then w else fl r 3)) rs
theorem iB:∀(w:Int) (rs:List (List Int)) (r:List Int),aW w (rs++[r])=aW w rs++[if w-(aW w rs).sum<fl r 3 then w-(aW w rs).sum else fl r 3]
 |w,[],r=>by
  show[_]=[_];rw[show(aW w []).sum=0 from rfl,Int.sub_zero]
 |w,q::rs,r=>by
  rw[List.cons_append];unfold aW;rw[iB _ rs r,List.cons_append,List.sum_cons,show ∀a b c:Int,a-b-c=a-(b+c)from fun a b c=>by lia]
theorem di:∀(w:Int) (rs:List (List Int)),(aW w rs).length=rs.length
 |_,[]=>rfl
 |w,r::rs=>by
  unfold aW;rw[zAe,zAe,di]
inductive SpMadeI(vs:List V)(H:Hp)(Q:VK):Prop
 |mk:∀w l xs rs,(vs=[.int w,.ref l])->(H l=some (.lst xs))->(Els H xs rs)->((∀r∈rs,r.length=4))->(rs.length<=100000)->(∀m H',Same H H'->H m=none->H' m=some (.lst ((aW w rs).map V.int))->Q (.ref m) H')->SpMadeI  vs H Q
def BR:Sp:=fun vs H Q _=>SpMadeI  vs H Q
def aZ(w:Int)(rs:List (List Int)):List Int:=if(wts rs).sum<=w then wts rs else K31P.res w (wts rs)
inductive SpSharesI(vs:List V)(H:Hp)(Q:VK):Prop
 |mk:∀w l xs rs,(vs=[.int w,.ref l])->(H l=some (.lst xs))->(Els H xs rs)->((∀r∈rs,r.length=4/\1<=fl r 3/\fl r 3<=99))->(rs.length<=80)->(0<=w)->(∀t H',Same H H'->H' t=some (.tup ((aZ w rs).map V.int))->Q (.ref t) H')->SpSharesI  vs H Q
def uH:Sp:=fun vs H Q _=>SpSharesI  vs H Q
variable{P:Program}{w:World}{K:Frag}{mg:Str->Option Value}{base:Heap}{f:Addr}{fd:FuncData}
theorem scT1:FnScope ["wool","owed","shares","left","due","number","holder","sacks","share"] ["wool","owed"] (aJ (top 46)):=fS
theorem Fe(F:Fun K "made_good" "made_good" (top 46) f fd)(Tn:mg "min"=none):FnOk P w K mg base CX0 1 f fd ["wool","owed"] BR:=by
 refine F.ok scT1 (fun vs H Q E h=>?_) (fun ai A outer s H vs Q E hr h=>?_)
 .obtain⟨w0,l,xs,rs,rfl,_⟩:=h;rfl
 .obtain⟨w0,l,xs,rs,rfl,el,aT,h4,hz,q⟩:=h
  refine⟨_,aB (pss 2 scT1.nd (cQ aj))
   (aB (pss 3 scT1.nd (pv 0))
   (aB (bN zB3 rfl (bL (pv 1)) (bF rfl (ao (pgn 4 scT1.nd) (ao (pgn 5 scT1.nd) (ao (pgn 6 scT1.nd) (ao (pgn 7 scT1.nd) aV)))))
    (aB (pss 8 scT1.nd (aM (fQ rfl) rfl Tn boot_min (aq (pv 7) (aq (pv 3) aj))))
    (aB (dC (lE zBb zBf zBe eQ (pv 2) (aq (pv 8) aj)))
    (aG (jj (i:=3) scT1.nd rfl (Or.inl rfl) (pv 8) Ad)))))
   (aG (aQ (pv 2))))),?_⟩
  refine aC (aR ?_);refine⟨zL,fun m hm=>?_⟩;refine aF ?_;dsimp only;refine aC (aR ?_);refine⟨_,rfl,?_⟩;refine aF ?_;dsimp only;refine aC ?_;have s1:=Same.upd (o:=.lst []) hm;have nl:l≠m:=az el hm;refine⟨_,rfl,l,rfl,⟨_,SqL.of (s1 _ _ el)⟩,?_⟩;refine fj (xs:=xs) (fun i σ Hc=>∃x4 x5 x6 x7 x8,σ=[some (.int w0),some (.ref l),some (.ref m),some (.int (w0-(aW w0 (rs.take i)).sum)),x4,x5,x6,x7,x8]/\(∀b o,H b=some o->Hc b=some o)/\Hc m=some (.lst ((aW w0 (rs.take i)).map V.int))) ?_ ?_ ?_ ?_
  .refine⟨none,none,none,none,none,?_,fun b o e=>s1 _ _ e,aa⟩;rw[List.take_zero,show(aW w0 []).sum=0 from rfl,Int.sub_zero];rfl
  .rintro i σ Hc hi ⟨x4,x5,x6,x7,x8,rfl,k,em⟩;exact SqL.of (k _ _ el)
  .rintro i x σ Hc hx ⟨x4,x5,x6,x7,x8,rfl,k,em⟩
   have hi:i<rs.length:=by
    have:=(zAa.mp hx).1;rw[aT.1]at this;exact this
   obtain⟨t,ex,et⟩:=aT.2 i rs[i] (zA0 hi);rw[ex]at hx;cases hx;rw[bJ (h4 _ (zAh hi))]at et;refine⟨t,_,rfl,SqT.of (k _ _ et),rfl,_,_,rfl,_,_,rfl,_,_,rfl,_,_,rfl,rfl,?_⟩;refine aC (aR ?_);refine⟨_,rfl,_,rfl,_,_,rfl,?_⟩;refine aF ?_;dsimp only;refine aC ?_;refine⟨_,rfl,.inl ⟨rfl,_,SqL.of em⟩,_,rfl,m,_,_,rfl,rfl,em,?_,?_⟩
   .rw[zA1,di,zAd,sizeLine_eq];lia
   have bP:rs.take (i+1)=rs.take i++[rs[i]]:=by rw[zAj,zA0 hi];rfl
   dsimp only;refine⟨_,rfl,_,rfl,_,_,rfl,rfl,some (.int (fl rs[i] 0)),some (.int (fl rs[i] 1)),some (.int (fl rs[i] 2)),some (.int (fl rs[i] 3)),some (.int (if w0-(aW w0 (rs.take i)).sum<fl rs[i] 3 then w0-(aW w0 (rs.take i)).sum else fl rs[i] 3)),?_,fun b o e=>?_,?_⟩
   .rw[bP,iB,List.sum_append,List.sum_cons,List.sum_nil,Int.add_zero,show ∀a b c:Int,a-(b+c)=a-b-c from fun a b c=>by lia];rfl
   .rw[au (az e hm)];exact k _ _ e
   .rw[aa,bP,iB,zA4];rfl
  .rintro σ Hc ⟨x4,x5,x6,x7,x8,rfl,k,em⟩;rw[show xs.length=rs.length from aT.1,zAm]at em;exact⟨_,rfl,q m Hc (fun b o e=>k b o e) hm em⟩
theorem scT2:FnScope ["wool","claims","weights"] ["wool","claims"] (aJ (top 45)):=fS
theorem zc(F:Fun K "shares_of" "shares_of" (top 45) f fd)(T:Mg mg)(Ts:mg "sum"=none)(c1:Cal P w K mg base 6 "parted" ["sacks","weights"] K31P.spParts):FnOk P w K mg base CX0 7 f fd ["wool","claims"] uH:=by
 refine F.ok scT2 (fun vs H Q E h=>?_) (fun ai A outer s H vs Q E hr h=>?_)
 .obtain⟨w0,l,xs,rs,rfl,_⟩:=h;rfl
 .obtain⟨w0,l,xs,rs,rfl,el,aT,h4,hz,hw,q⟩:=h
  refine⟨_,aB (pss 2 scT2.nd (cR cj rfl T.tuple boot_tuple (aq (bx (g:=jY K 4 (cz (bH 0) (cz (bH 1) (cz (bH 2) (cz (bH 3) lN))))) ["due","number","holder","sacks"] [none,none,none,none] rfl (bL (pv 1))
    (fun C fp Zt s₂ H₂=>⟨dZ rfl rfl (ao (pgn 0 nd4) (ao (pgn 1 nd4) (ao (pgn 2 nd4) (ao (pgn 3 nd4) aV)))),bI,pv 3⟩) (fun C=>trivial) ⟨rfl,rfl,rfl,rfl⟩) aj)))
   (aG (aQ (tH (bf cD (aM (cu rfl) rfl Ts boot_sum (aq (pv 2) aj)) (pv 0) (bu _)) (pv 2) (aK c1 hr (aq (pv 0) (aq (pv 2) aj)))))),?_⟩
  refine aC (aR ?_);refine⟨_,rfl,l,rfl,⟨_,SqL.of el⟩,comp_gen rs.length (fun i ys σ Hc=>Same H Hc/\(∃o1 o2 o3 o4,σ=[o1,o2,o3,o4])/\ys=(wts (rs.take i)).map V.int) ⟨Same.refl H,⟨_,_,_,_,rfl⟩,rfl⟩ Zu ?_ ?_⟩
  .rintro i ys σ Hc hi hy ⟨s1,⟨o1,o2,o3,o4,rfl⟩,rfl⟩;obtain⟨t,ex,et⟩:=aT.2 i rs[i] (zA0 hi);rw[bJ (h4 _ (zAh hi)).1]at et;refine⟨⟨_,_,SqL.of (s1 _ _ el),ex⟩,fun v H' y R hR=>?_⟩;obtain⟨rfl,y⟩:=y;have hv:=y _ (SqL.of (s1 _ _ el));rw[ex]at hv;cases hv;refine⟨t,_,rfl,SqT.of (s1 _ _ et),rfl,_,_,rfl,_,_,rfl,_,_,rfl,_,_,rfl,rfl,_,rfl,hR _ _ _ ⟨s1,⟨_,_,_,_,rfl⟩,?_⟩⟩;unfold wts;rw[zAj,zA0 hi,zA4,zA4];rfl
  .rintro ys σ Hc hy ⟨s1,_,rfl⟩;refine⟨⟨_,SqL.of (s1 _ _ el),by rw[aT.1];exact zA3 _⟩,fun D hD=>?_⟩;rw[zAm];refine⟨D,_,rfl,.inl ⟨SqL.of aa,fun t ht=>?_⟩⟩;have s2:=(s1.updR (o:=.lst ((wts rs).map V.int)) hD).updR (o:=.tup ((wts rs).map V.int)) ht;have et:=aa (H:=upd Hc D (.lst ((wts rs).map V.int))) (a:=t) (o:=.tup ((wts rs).map V.int));generalize upd (upd Hc D (.lst ((wts rs).map V.int))) t (.tup ((wts rs).map V.int))=H2 at s2 et⊢;refine aF ?_;dsimp only;refine⟨_,rfl,t,wts rs,rfl,.inr (SqT.of et),_,rfl,_,_,rfl,rfl,_,rfl,?_⟩;by_cases hs:(wts rs).sum<=w0
   .rw[zAt hs];refine bK ⟨_,rfl,q t H2 s2 ?_⟩;unfold aZ;rw[zAy hs];exact et
   .rw[zB0 hs];refine bA ⟨_,rfl,_,rfl,w0,t,wts rs,rfl,et,⟨?_,?_,fun x hx=>?_⟩,hw,Zz,fun H3 t3 s3 e3=>q t3 H3 (s2.trans s3) ?_⟩
    .cases mS:rs with
     |nil=>
      rw[mS]at hs;exact absurd hw hs
     |cons r ze=>
      unfold wts;rw[zA1,zAe];lia
    .unfold wts;rw[zA1];exact hz
    .obtain⟨r,mS,rfl⟩:=zA5.mp hx;exact(h4 r mS).2
    .unfold aZ;rw[zAv hs];exact e3
theorem cZ{J:It}{g:TG}{tt:TT}{te:TE}{dv:St}{H0:Hp}{Fin:List V->Hp->Prop}(n:Nat)(Pv:Nat->List V->St->Hp->Prop)(h0:Pv 0 [] dv H0)(hz:n<sizeLine)
  (step:∀i ys σ H,i<n->ys.length<=i->Pv i ys σ H->J.go i H/\∀x H',J.yld i H x H'->∀R:List V->St->Hp->Prop,(∀qS aS H4,qS.length<=i+1->Pv (i+1) qS aS H4->R qS aS H4)->g x σ H' fun aS H2=>tt aS H2 fun b H3=>if b=true then te aS H3 fun y H4=>R (ys++[y]) aS H4 else R ys aS H3)
  (fin:∀ys σ H,ys.length<=n->Pv n ys σ H->J.stop n H/\Fin ys H):jD J g tt te Fin dv H0:=by
 refine⟨fun i m ys σ H=>m=n-i/\i<=n/\ys.length<=i/\Pv i ys σ H,⟨_,rfl,zAp _,zA3 _,h0⟩,?_⟩;rintro i m ys σ H ⟨rfl,hi,hy,p⟩;refine⟨Zz,?_⟩;by_cases ax:i<n
 .obtain⟨go,st⟩:=step i ys σ H ax hy p;exact .inr ⟨go,fun x H' y=>st x H' y (fun qS aS H4=>∃m',m'<n-i/\m'=n-(i+1)/\i+1<=n/\qS.length<=i+1/\Pv (i+1) qS aS H4) fun qS aS H4 l2 p2=>⟨n-(i+1),Zz,rfl,ax,l2,p2⟩⟩
 .have e:i=n:=Zz
  subst e;exact .inl (fin ys σ H hy p)
def bR(P:List (List Int×Int)):List (List Int):=(P.filter fun p=>decide (0<p.2)).map fun p=>[fl p.1 0,fl p.1 1,fl p.1 2,p.2]
def bh(P:List (List Int×Int)):List (List Int):=(P.filter fun p=>decide (p.2<fl p.1 3)).map fun p=>[fl p.1 0,fl p.1 1,fl p.1 2,fl p.1 3-p.2]
theorem gR(P:List (List Int×Int))(p:List Int×Int):bR (P++[p])=bR P++(if 0<p.2 then[[fl p.1 0,fl p.1 1,fl p.1 2,p.2]]else[]):=by
 unfold bR;rw[List.filter_append,zA4];congr 1;by_cases h:0<p.2
 .rw[zAy h,zB4 (p:=fun(p:List Int×Int)=>decide (0<p.2)) (zAt h)];rfl
 .rw[zAv h,zB7 (p:=fun(p:List Int×Int)=>decide (0<p.2)) (by rw[Zp];exact h)];rfl
theorem jt(P:List (List Int×Int))(p:List Int×Int):bh (P++[p])=bh P++(if p.2<fl p.1 3 then[[fl p.1 0,fl p.1 1,fl p.1 2,fl p.1 3-p.2]]else[]):=by
 unfold bh;rw[List.filter_append,zA4];congr 1;by_cases h:p.2<fl p.1 3
 .rw[zAy h,zB4 (p:=fun(p:List Int×Int)=>decide (p.2<fl p.1 3)) (zAt h)];rfl
 .rw[zAv h,zB7 (p:=fun(p:List Int×Int)=>decide (p.2<fl p.1 3)) (by rw[Zp];exact h)];rfl
theorem shares_len{w:Int}{rs:List (List Int)}:(aZ w rs).length=rs.length:=by
 unfold aZ;split
 .unfold wts;rw[zA1]
 .rw[K31P.res_len];unfold wts;rw[zA1]
def shr(w:Int)(cl ow:List (List Int)):List Int:=aZ w cl++aW (w-(aZ w cl).sum) ow
inductive SpSortI(vs:List V)(H:Hp)(Q:VK):Prop
 |mk:∀w lc xc cl lo xo ow,(vs=[.int w,.ref lc,.ref lo])->(H lc=some (.lst xc))->(Els H xc cl)->((∀r∈cl,r.length=4/\1<=fl r 3/\fl r 3<=99))->(cl.length<=80)->(0<=w)->(H lo=some (.lst xo))->(Els H xo ow)->((∀r∈ow,r.length=4))->(ow.length<=10000)->(∀t g k xg xk H',Same H H'->H' t=some (.tup [.ref g,.ref k])->H g=none->H k=none->H' g=some (.lst xg)->Els H' xg (bR ((cl++ow).zip (shr w cl ow)))->H' k=some (.lst xk)->Els H' xk (bh ((cl++ow).zip (shr w cl ow)))->Q (.ref t) H')->SpSortI  vs H Q
def BV:Sp:=fun vs H Q _=>SpSortI  vs H Q
theorem uI:bootBuiltins "list"=some (.type "list"):=by decide +kernel
theorem nd5:(["due","number","holder","sacks","share"]:List Str).Nodup:=by decide +kernel
theorem scU1:FnScope ["wool","claims","owed","shares","rows","gifts","lacking"] ["wool","claims","owed"] (aJ (top 47)):=fS
theorem BW(F:Fun K "sort_given" "sort_given" (top 47) f fd)(Ts:mg "sum"=none)(Tl:mg "list"=none)(Tz:mg "zip"=none)(c1:Cal P w K mg base 7 "shares_of" ["wool","claims"] uH)(c2:Cal P w K mg base 1 "made_good" ["wool","owed"] BR):FnOk P w K mg base CX0 8 f fd ["wool","claims","owed"] BV:=by
 refine F.ok scU1 (fun vs H Q E h=>?_) (fun ai A outer s H vs Q E hr h=>?_)
 .obtain⟨w0,lc,xc,cl,lo,xo,ow,rfl,_⟩:=h;rfl
 .obtain⟨w0,lc,xc,cl,lo,xo,ow,rfl,ec,B0,NC,QP,hw,eo,oo,ND,QQ,q⟩:=h
  refine⟨_,aB (pss 3 scU1.nd (cR jB rfl Tl uI (aq (aK c1 hr (aq (pv 0) (aq (pv 1) aj))) aj)))
   (aB (pss 4 scU1.nd (aU v8 (pv 1) (pv 2)))
   (aB (jj (i:=3) scU1.nd rfl (Or.inl rfl) (aK c2 hr (aq (aU dW (pv 0) (aM (cu rfl) rfl Ts boot_sum (aq (pv 3) aj))) (aq (pv 2) aj))) kI)
   (aB (gh (g:=jY K 2 (cz (jY K 4 (cz (bH 0) (cz (bH 1) (cz (bH 2) (cz (bH 3) lN))))) (cz (bH 4) lN))) (i:=5) ["due","number","holder","sacks","share"] [none,none,none,none,none] rfl scU1.nd rfl (Or.inl rfl) (ZT.pi_zip false false rfl Tz (aq (pv 4) (aq (pv 3) aj))) (fun C fp Zt s₂ H₂=>⟨dZ rfl rfl (ao (dZ rfl rfl (ao (pgn 0 nd5) (ao (pgn 1 nd5) (ao (pgn 2 nd5) (ao (pgn 3 nd5) aV))))) (ao (pgn 4 nd5) aV)),dM (bf jx (pv 4) aA (bu _)),bB (aq (pv 0) (aq (pv 1) (aq (pv 2) (aq (pv 4) aj))))⟩) (fun C=>trivial) ⟨rfl,rfl,rfl,rfl⟩)
   (aB (gh (g:=jY K 2 (cz (jY K 4 (cz (bH 0) (cz (bH 1) (cz (bH 2) (cz (bH 3) lN))))) (cz (bH 4) lN))) (i:=6) ["due","number","holder","sacks","share"] [none,none,none,none,none] rfl scU1.nd rfl (Or.inl rfl) (ZT.pi_zip false false rfl Tz (aq (pv 4) (aq (pv 3) aj))) (fun C fp Zt s₂ H₂=>⟨dZ rfl rfl (ao (dZ rfl rfl (ao (pgn 0 nd5) (ao (pgn 1 nd5) (ao (pgn 2 nd5) (ao (pgn 3 nd5) aV))))) (ao (pgn 4 nd5) aV)),dM (bf jx (pv 3) (pv 4) (bu _)),bB (aq (pv 0) (aq (pv 1) (aq (pv 2) (aq (aU dW (pv 3) (pv 4)) aj))))⟩) (fun C=>trivial) ⟨rfl,rfl,rfl,rfl⟩)
   (aG (aQ (bB (aq (pv 5) (aq (pv 6) aj))))))))),?_⟩
  refine cN fun c_ ba=>?_;refine aR ?_;refine⟨_,rfl,_,rfl,w0,lc,xc,cl,rfl,ec,B0,NC,QP,hw,fun t H1 s1 et=>⟨t,_,rfl,.inr (SqT.of et),fun ls B8=>?_⟩⟩;have s2:=s1.updR (o:=.lst ((aZ w0 cl).map V.int)) B8;have JA:H ls=none:=s1.free B8;have aT:=aa (H:=H1) (a:=ls) (o:=.lst ((aZ w0 cl).map V.int));generalize upd H1 ls (.lst ((aZ w0 cl).map V.int))=H2 at s2 aT⊢;refine aF ?_;refine ba _ _ ?_;clear ba c_
  try dsimp only
  refine cN fun c_ ba=>?_;refine aR ?_;refine⟨_,rfl,_,rfl,lc,lo,xc,xo,rfl,rfl,s2 _ _ ec,s2 _ _ eo,by rw[B0.1,oo.1,sizeLine_eq];lia,fun lr js=>?_⟩;have s3:=s2.updR (o:=.lst (xc++xo)) js;have WG:H lr=none:=s2.free js;have oq:=Same.upd (o:=.lst (xc++xo)) js _ _ aT;have JE:=aa (H:=H2) (a:=lr) (o:=.lst (xc++xo))
  have QR:lr≠ls:=fun z=>by rw[z,aT]at js;cases js
  generalize upd H2 lr (.lst (xc++xo))=H3 at s3 oq JE⊢;refine aF ?_;refine ba _ _ ?_;clear ba c_
  try dsimp only
  refine cN fun c_ ba=>?_;refine⟨_,rfl,_,rfl,_,rfl,ls,aZ w0 cl,rfl,.inl (SqL.of oq),_,_,rfl,rfl,_,rfl,_,lo,xo,ow,rfl,s3 _ _ eo,oo.same s3,ND,Zz,fun m H4 s4 nm em=>?_⟩;refine⟨ls,m,_,_,rfl,rfl,s4 _ _ oq,em,by rw[zA1,zA1,shares_len,di,sizeLine_eq];lia,?_⟩;have ku:(aZ w0 cl).map V.int++(aW (w0-(aZ w0 cl).sum) ow).map V.int=(shr w0 cl ow).map V.int:=by unfold shr;rw[zA4]
  rw[ku]
  have vx:(shr w0 cl ow).length=(cl++ow).length:=by
   unfold shr;rw[zA2,zA2,shares_len,di]
  generalize shr w0 cl ow=SH at q vx;refine ba _ _ ?_;clear ba c_
  try dsimp only
  have k5:Same H (upd H4 ls (.lst (SH.map V.int))):=fun b o e=>by
   rw[au (az e JA)];exact s4 _ _ (s3 _ _ e)
  have lT:=aa (H:=H4) (a:=ls) (o:=.lst (SH.map V.int));have gX:upd H4 ls (.lst (SH.map V.int)) lr=some (.lst (xc++xo)):=by rw[au QR];exact s4 _ _ JE
  generalize upd H4 ls (.lst (SH.map V.int))=H5 at k5 lT gX⊢;have zh:Els H (xc++xo) (cl++ow):=B0.app oo;have NF:∀r∈cl++ow,r.length=4:=fun r hr=>(zA6.mp hr).elim (fun z=>(NC r z).1) (ND r);have QS:(cl++ow).length<=20000:=by rw[zA2];lia
  generalize xc++xo=xr at gX zh;generalize cl++ow=rr at q vx zh NF QS;clear aT oq JE ku s1 s2 s3 s4 em et
  obtain⟨ZP,ES⟩:∃ZP,ZP=rr.zip SH:=⟨_,rfl⟩
  rw[<-ES]at q;have ot:ZP.length=rr.length:=by rw[ES,zAs,vx,Nat.min_self]
  have vE:∀i (h:i<ZP.length),rr[i]?=some ZP[i].1:=fun i h=>by
   have hi:i<rr.length:=Zz
   rw[zA0 hi];congr 1;simp only[ES,List.getElem_zip]
  have B9:∀i (h:i<ZP.length),SH[i]?=some ZP[i].2:=fun i h=>by
   have hi:i<SH.length:=Zz
   rw[zA0 hi];congr 1;simp only[ES,List.getElem_zip]
  have Cb:∀i (h:i<ZP.length),(ZP[i].1).length=4:=fun i h=>NF _ (zB5 (vE i h));refine cN fun c_ ba=>?_;refine⟨_,rfl,_,rfl,lr,ls,xr,_,rfl,SqL.of gX,SqL.of lT,cZ rr.length (fun i ys σ Hc=>Same H5 Hc/\(∃o1 o2 o3 o4 o5,σ=[o1,o2,o3,o4,o5])/\Els Hc ys (bR (ZP.take i))) ⟨Same.refl _,⟨_,_,_,_,_,rfl⟩,Els.nil⟩ Zu ?_ ?_⟩
  .rintro i ys σ Hc hi hy ⟨sc,⟨o1,o2,o3,o4,o5,rfl⟩,ht⟩;have hP:i<ZP.length:=by rw[ot];exact hi
   obtain⟨tr,ex,et⟩:=zh.2 i ZP[i].1 (vE i hP);have er:SqL K Hc lr xr:=SqL.of (sc _ _ gX);have es:SqL K Hc ls (SH.map V.int):=SqL.of (sc _ _ lT);have mM:(SH.map V.int)[i]?=some (.int ZP[i].2):=by rw[zAb,B9 i hP];rfl
   have bP:ZP.take (i+1)=ZP.take i++[ZP[i]]:=by rw[zAj,zA0 hP];rfl
   have Cc:=sc _ _ (k5 _ _ et);rw[bJ (Cb i hP)]at Cc;refine⟨⟨_,_,_,_,er,es,ex,mM⟩,fun x H' yv R hR=>?_⟩;obtain⟨T0,nT,rfl,yv⟩:=yv;obtain⟨x',y',vn,vF,rfl⟩:=yv _ _ er es;rw[ex]at vn;cases vn;rw[mM]at vF;cases vF;have rl:=sc.updR (o:=.tup [.ref tr,.int ZP[i].2]) nT;refine⟨T0,_,rfl,SqT.of aa,rfl,_,_,rfl,?_⟩;refine⟨tr,_,rfl,SqT.of (Same.upd nT _ _ Cc),rfl,_,_,rfl,_,_,rfl,_,_,rfl,_,_,rfl,rfl,?_⟩;refine⟨_,_,rfl,rfl,?_⟩;refine⟨_,rfl,_,_,rfl,rfl,_,rfl,?_⟩;by_cases aE:0<ZP[i].2
   .rw[zAt aE];refine bK ⟨_,rfl,_,rfl,_,rfl,_,rfl,zL,fun t gy=>hR _ _ _ (by rw[zA2];show ys.length+1<=i+1;lia) ⟨rl.updR gy,⟨_,_,_,_,_,rfl⟩,?_⟩⟩;rw[bP,gR,zAy aE];exact(((ht.same (Same.upd nT)).same (Same.upd gy))).app (Els.one aa)
   .rw[zB0 aE];refine bA (hR _ _ _ Zz ⟨rl,⟨_,_,_,_,_,rfl⟩,?_⟩);rw[bP,gR,zAv aE,zAn];exact ht.same (Same.upd nT)
  rintro ys σ Hc hy ⟨sc,_,ht⟩;rw[<-ot,zAm]at ht;refine⟨⟨_,SqL.of (sc _ _ gX),by rw[zh.1];exact zA3 _⟩,fun g hg=>?_⟩;have k6:=(k5.trans sc).updR (o:=.lst ys) hg;have ng:H g=none:=(k5.trans sc).free hg;have eg:=aa (H:=Hc) (a:=g) (o:=.lst ys);have elg:=ht.same (Same.upd (o:=.lst ys) hg);have oz:=Same.upd (o:=.lst ys) hg _ _ (sc _ _ gX);have hJ:=Same.upd (o:=.lst ys) hg _ _ (sc _ _ lT);generalize upd Hc g (.lst ys)=H6 at k6 eg elg oz hJ⊢;clear sc ht hy lT gX k5;refine ba _ _ ?_;clear ba c_
  try dsimp only
  refine cN fun c_ ba=>?_;refine⟨_,rfl,_,rfl,lr,ls,xr,_,rfl,SqL.of oz,SqL.of hJ,cZ rr.length (fun i ys σ Hc=>Same H6 Hc/\(∃o1 o2 o3 o4 o5,σ=[o1,o2,o3,o4,o5])/\Els Hc ys (bh (ZP.take i))) ⟨Same.refl _,⟨_,_,_,_,_,rfl⟩,Els.nil⟩ Zu ?_ ?_⟩
  .rintro i ys σ Hc hi hy ⟨sc,⟨o1,o2,o3,o4,o5,rfl⟩,ht⟩;have hP:i<ZP.length:=by rw[ot];exact hi
   obtain⟨tr,ex,et⟩:=zh.2 i ZP[i].1 (vE i hP);have er:SqL K Hc lr xr:=SqL.of (sc _ _ oz);have es:SqL K Hc ls (SH.map V.int):=SqL.of (sc _ _ hJ);have mM:(SH.map V.int)[i]?=some (.int ZP[i].2):=by rw[zAb,B9 i hP];rfl
   have bP:ZP.take (i+1)=ZP.take i++[ZP[i]]:=by rw[zAj,zA0 hP];rfl
   have Cc:=sc _ _ (k6 _ _ et);rw[bJ (Cb i hP)]at Cc;refine⟨⟨_,_,_,_,er,es,ex,mM⟩,fun x H' yv R hR=>?_⟩;obtain⟨T0,nT,rfl,yv⟩:=yv;obtain⟨x',y',vn,vF,rfl⟩:=yv _ _ er es;rw[ex]at vn;cases vn;rw[mM]at vF;cases vF;have rl:=sc.updR (o:=.tup [.ref tr,.int ZP[i].2]) nT;refine⟨T0,_,rfl,SqT.of aa,rfl,_,_,rfl,?_⟩;refine⟨tr,_,rfl,SqT.of (Same.upd nT _ _ Cc),rfl,_,_,rfl,_,_,rfl,_,_,rfl,_,_,rfl,rfl,?_⟩;refine⟨_,_,rfl,rfl,?_⟩;refine⟨_,rfl,_,rfl,_,_,rfl,rfl,_,rfl,?_⟩;by_cases aE:ZP[i].2<fl ZP[i].1 3
   .rw[zAt aE];refine bK ⟨_,rfl,_,rfl,_,rfl,_,rfl,_,rfl,_,_,rfl,rfl,zL,fun t gy=>hR _ _ _ (by rw[zA2];show ys.length+1<=i+1;lia) ⟨rl.updR gy,⟨_,_,_,_,_,rfl⟩,?_⟩⟩;rw[bP,jt,zAy aE];exact(((ht.same (Same.upd nT)).same (Same.upd gy))).app (Els.one aa)
   .rw[zB0 aE];refine bA (hR _ _ _ Zz ⟨rl,⟨_,_,_,_,_,rfl⟩,?_⟩);rw[bP,jt,zAv aE,zAn];exact ht.same (Same.upd nT)
  rintro JI σ Hc hy ⟨sc,_,ht⟩;rw[<-ot,zAm]at ht;refine⟨⟨_,SqL.of (sc _ _ oz),by rw[zh.1];exact zA3 _⟩,fun k hk=>?_⟩;have k7:=(k6.trans sc).updR (o:=.lst JI) hk;have nk:H k=none:=(k6.trans sc).free hk;have sk:=Same.upd (o:=.lst JI) hk;refine ba _ _ ?_;clear ba c_
  try dsimp only
  refine⟨_,rfl,_,rfl,zL,fun t gy=>?_⟩;have st:=Same.upd (o:=.tup [.ref g,.ref k]) gy;exact q t g k ys JI _ (k7.trans st) aa ng nk (st _ _ (sk _ _ (sc _ _ eg))) (((elg.same sc).same sk).same st) (st _ _ aa) ((ht.same sk).same st)
def dH(L:List Int)(i:Nat):List (List Int):=((List.range i).filter fun h=>decide (0<L.getD h 0)).map fun(h:Nat)=>[(h:Int),L.getD h 0]
theorem fB(L:List Int)(i:Nat):dH L (i+1)=dH L i++(if 0<L.getD i 0 then[[(i:Int),L.getD i 0]]else[]):=by
 unfold dH;rw[List.range_succ,List.filter_append,zA4];congr 1;by_cases h:0<L.getD i 0
 .rw[zAy h,zB4 (p:=fun h=>decide (0<L.getD h 0)) (zAt h)];rfl
 .rw[zAv h,zB7 (p:=fun h=>decide (0<L.getD h 0)) (by rw[Zp];exact h)];rfl
theorem vH(L:List Int)(i:Nat):(dH L i).length<=i:=by
 unfold dH;rw[zA1];have:=List.length_filter_le (fun h=>decide (0<L.getD h 0)) (List.range i);rw[List.length_range]at this;exact this
def gU(ps ss:List (List Int))(sort year:Int)(n:Nat):List (List Int):=if fl (ps.getD n []) 1=sort then(dH (bM (ps.getD n []) ss n year) 8).map (fun r=>year::(n:Int)::r)else[]
def gH(ps ss:List (List Int))(sort year:Int):Nat->List (List Int)
 |0=>[]
 |k+1=>gH ps ss sort year k++gU ps ss sort year k
def aD(ps ss:List (List Int))(sort year:Int):List (List Int):=gH ps ss sort year ps.length
theorem BX(ps ss:List (List Int))(sort year:Int)(n:Nat):(gU ps ss sort year n).length<=8:=by
 unfold gU;split
 .rw[zA1];exact vH _ 8
 .exact zAp _
theorem jT(ps ss:List (List Int))(sort year:Int):∀k,(gH ps ss sort year k).length<=8*k
 |0=>zA3 _
 |k+1=>by
  unfold gH;rw[zA2];have:=jT ps ss sort year k;have:=BX ps ss sort year k;lia
inductive SpClaimsI(vs:List V)(H:Hp)(Q:VK):Prop
 |mk:∀ap xp ps af xs ss sort year,(vs=[.ref ap,.ref af,.int sort,.int year])->(RowsAt H ap xp ps)->(ps.length<=10)->((∀r∈ps,okP r))->(RowsAt H af xs ss)->(ss.length<=12)->((∀s∈ss,okS s))->(∀l xl H',Same H H'->H l=none->H' l=some (.lst xl)->Els H' xl (aD ps ss sort year)->Q (.ref l) H')->SpClaimsI  vs H Q
def oA:Sp:=fun vs H Q _=>SpClaimsI  vs H Q
theorem ndV:(["holder","sacks","year","number"]:List Str).Nodup:=by decide +kernel
theorem scV1:FnScope ["promises","sales","sort","year","claims","number","promise","held"] ["promises","sales","sort","year"] (aJ (top 44)):=fS
theorem zf(F:Fun K "claims_in" "claims_in" (top 44) f fd)(Te:mg "enumerate"=none)(c1:Cal P w K mg base 1 "held_in" ["promises","sales","number","year"] vD):FnOk P w K mg base CX0 2 f fd ["promises","sales","sort","year"] oA:=by
 refine F.ok scV1 (fun vs H Q E h=>?_) (fun ai A outer s H vs Q E hr h=>?_)
 .obtain⟨ap,xp,ps,af,xs,ss,sort,year,rfl,_⟩:=h;rfl
 .obtain⟨ap,xp,ps,af,xs,ss,sort,year,rfl,rp,lp,okp,rs,ls,fy,q⟩:=h
  refine⟨_,aB (pss 4 scV1.nd (cQ aj))
   (aB (bN zB3 rfl (ZT.pi_enum true rfl Te (aq (pv 0) aj)) (bF rfl (ao (bj (i:=5) scV1.nd rfl (Or.inr rfl)) (ao (pgn 6 scV1.nd) aV)))
    (aG (cU (bf iI (pX bT (pv 6) aA) (pv 2) (bu _))
     (aB (pss 7 scV1.nd (aK c1 hr (aq (pv 0) (aq (pv 1) (aq (pv 5) (aq (pv 3) aj))))))
     (aG (jj (i:=4) scV1.nd rfl (Or.inl rfl) (bx (g:=jY K 2 (cz (bH 0) (cz (bH 1) lN))) ["holder","sacks","year","number"] [none,none,some 3,some 5] rfl (ZT.pi_enum false rfl Te (aq (pv 7) aj))
      (fun C fp Zt s₂ H₂=>⟨dZ rfl rfl (ao (pgn 0 ndV) (ao (pgn 1 ndV) aV)),dM (bf jx (pv 1) aA (bu _)),bB (aq (pv 2) (aq (pv 3) (aq (pv 0) (aq (pv 1) aj))))⟩)
      (fun C=>cI (cI trivial)) ⟨rfl,rfl,rfl,rfl⟩) kI))) bz)))
   (aG (aQ (pv 4)))),?_⟩
  refine aC (aR ?_);refine⟨zL,fun l hl=>?_⟩;refine aF ?_;dsimp only;refine aC ?_;have s0:=Same.upd (o:=.lst []) hl;refine⟨_,rfl,ap,xp,rfl,SqT.of (s0 _ _ rp.e),?_⟩;refine ZT.for_enum true (xs:=xp) (fun i σ Hc=>∃x5 x6 x7 xl,σ=[some (.ref ap),some (.ref af),some (.int sort),some (.int year),some (.ref l),x5,x6,x7]/\(∀b o,H b=some o->Hc b=some o)/\Hc l=some (.lst xl)/\Els Hc xl (gH ps ss sort year i)) ?_ ?_ ?_ ?_
  .exact⟨none,none,none,[],rfl,fun b o e=>s0 _ _ e,aa,Els.nil⟩
  .rintro i σ Hc hi ⟨x5,x6,x7,xl,rfl,k,el,ht⟩;exact SqT.of (k _ _ rp.e)
  .rintro i x σ Hc T0 hx ⟨x5,x6,x7,xl,rfl,k,el,ht⟩ nT
   have hi:i<ps.length:=by
    have:=(zAa.mp hx).1;rw[rp.l]at this;exact this
   obtain⟨tr,fk,eI⟩:=rp.g i ps[i] (zA0 hi)
   have:x=.ref tr:=by
    rw[hx]at fk;exact zAl fk
   subst this;have op:=okp ps[i] (zAh hi);have ep:ps.getD i []=ps[i]:=getD_get hi;rw[six_row op.1]at eI;have sT:=Same.upd (o:=.tup [V.int i,V.ref tr]) nT;have kT:Same H (upd Hc T0 (.tup [V.int i,V.ref tr])):=fun b o e=>sT _ _ (k _ _ e);have l7:=sT _ _ el;have vS:=ht.same sT;have eT:=aa (H:=Hc) (a:=T0) (o:=.tup [V.int i,V.ref tr]);generalize upd Hc T0 (.tup [V.int i,V.ref tr])=H1 at kT l7 vS eT⊢;refine⟨T0,_,rfl,SqT.of eT,rfl,_,_,rfl,_,_,rfl,rfl,?_⟩;refine⟨_,rfl,tr,_,1,.int (fl ps[i] 1),rfl,rfl,SqT.of (kT _ _ eI),rfl,_,rfl,rfl,_,rfl,?_⟩;by_cases hs:fl ps[i] 1=sort
   .rw[zAt (by rw[hs])];refine bK (aC ?_);refine aR ?_;refine⟨_,rfl,_,rfl,_,rfl,_,rfl,ap,xp,ps,af,xs,ss,i,year,rfl,rp.same kT,rs.same kT,Zz,Zz,by rw[zAi,ep];exact op,ls,fy,fun hd H2 s2 e2=>?_⟩;rw[zAi,ep]at e2;have ET:=eV ps[i] ss i year
    have l9:gU ps ss sort year i=(dH (bM ps[i] ss i year) 8).map (fun r=>year::(i:Int)::r):=by
     unfold gU;rw[ep,zAy hs]
    generalize bM ps[i] ss i year=L at e2 ET l9;have k2:=kT.trans s2;have el2:=s2 _ _ l7;have JJ:=vS.same s2;refine aF ?_;dsimp only;refine⟨_,rfl,_,rfl,hd,_,rfl,SqL.of e2,cZ 8 (fun j ys σ Hj=>Same H2 Hj/\(∃o1 o2,σ=[o1,o2,some (.int year),some (.int i)])/\Els Hj ys ((dH L j).map (fun r=>year::(i:Int)::r))) ⟨Same.refl _,⟨_,_,rfl⟩,Els.nil⟩ (by rw[sizeLine_eq];decide) ?_ ?_⟩
    .rintro j ys σ Hj hj hy ⟨sc,⟨o1,o2,rfl⟩,kc⟩;have rg:SqL K Hj hd (L.map V.int):=SqL.of (sc _ _ e2)
     have NG:(L.map V.int)[j]?=some (.int (L.getD j 0)):=by
      have cw:j<L.length:=Zz
      rw[zAb,zA7,zA0 cw];rfl
     refine⟨⟨_,_,rg,NG⟩,fun x H' yv R hR=>?_⟩;obtain⟨T1,JO,rfl,yv⟩:=yv;obtain⟨x',kD,rfl⟩:=yv _ rg;rw[NG]at kD;cases kD;have rl:=sc.updR (o:=.tup [.int (j:Int),.int (L.getD j 0)]) JO;refine⟨T1,_,rfl,SqT.of aa,rfl,_,_,rfl,_,_,rfl,rfl,?_⟩;refine⟨_,rfl,_,_,rfl,rfl,_,rfl,?_⟩;by_cases aE:0<L.getD j 0
     .rw[zAt aE];refine bK ⟨_,rfl,_,rfl,_,rfl,_,rfl,zL,fun t gy=>hR _ _ _ (by rw[zA2];show ys.length+1<=j+1;lia) ⟨rl.updR gy,⟨_,_,rfl⟩,?_⟩⟩;rw[fB,zAy aE,zA4];exact((kc.same (Same.upd JO)).same (Same.upd gy)).app (Els.one aa)
     .rw[zB0 aE];refine bA (hR _ _ _ Zz ⟨rl,⟨_,_,rfl⟩,?_⟩);rw[fB,zAv aE,zAn];exact kc.same (Same.upd JO)
    .rintro ys σ Hj hy ⟨sc,_,kc⟩;refine⟨⟨_,SqL.of (sc _ _ e2),by rw[zA1];lia⟩,fun D hD=>?_⟩;have sD:=sc.updR (o:=.lst ys) hD
     have nD:D≠l:=fun z=>by rw[z,sc _ _ el2]at hD;cases hD
     have ll:=jT ps ss sort year i;have:=ht.1;refine⟨l,D,xl,ys,rfl,rfl,sD _ _ el2,aa,by rw[sizeLine_eq];lia,?_⟩;refine⟨_,_,_,xl++ys,rfl,fun b o e=>?_,aa,?_⟩
     .rw[au (az e hl)];exact sD _ _ (k2 _ _ e)
     .have e3:=(JJ.same sD).app (kc.same (Same.upd (o:=.lst ys) hD));rw[<-l9]at e3;refine e3.keep fun b z e=>?_;rw[au fun w=>by rw[w,sD _ _ el2]at e;cases e];exact e
   .rw[zB0 (fun z=>hs (by injection z))];refine bA ?_;refine⟨_,_,_,xl,rfl,fun b o e=>kT _ _ e,l7,?_⟩
    have:gH ps ss sort year (i+1)=gH ps ss sort year i:=by
     show gH ps ss sort year i++gU ps ss sort year i=_;unfold gU;rw[ep,zAv hs,zAn]
    rw[this];exact vS
  .rintro σ Hc ⟨x5,x6,x7,xl,rfl,k,el,ht⟩;rw[show xp.length=ps.length from rp.l]at ht;exact⟨_,rfl,q l xl Hc (fun b o e=>k b o e) hl el ht⟩
theorem sum_set:∀(L:List Int) (i:Nat) (a:Int),i<L.length->(L.set i a).sum=L.sum-L.getD i 0+a
 |[],i,a,h=>by simp at h
 |x::L,0,a,h=>by
  rw[List.set_cons_zero,List.sum_cons,List.sum_cons,List.getD_cons_zero];lia
 |x::L,i+1,a,h=>by
  rw[List.set_cons_succ,List.sum_cons,List.sum_cons,List.getD_cons_succ,sum_set L i a (by simpa using h)];lia
theorem uJ{L:List Int}{i v:Int}(h:i.toNat<L.length):(dJ L i v).sum=L.sum+v:=by
 unfold dJ;rw[sum_set _ _ _ h];lia
theorem iZ:∀{L:List Int},(∀x∈L,0<=x)->0<=L.sum/\∀x∈L,x<=L.sum
 |[],_=>⟨Int.le_refl _,fun x hx=>by cases hx⟩
 |y::L,h=>by
  obtain⟨h1,h2⟩:=iZ (L:=L) fun x hx=>h x (.tail _ hx);have hy:=h y (.head _);rw[List.sum_cons];refine⟨Zz,fun x hx=>?_⟩;rcases zAo.mp hx with z|z
  .lia
  .have:=h2 x z;lia
theorem gr{L:List Int}(h:∀x∈L,0<=x)(i:Nat):0<=L.getD i 0:=by
 rw[zA7]
 cases e:L[i]? with
 |none=>exact Int.le_refl _
 |some y=>exact h y (zB5 e)
theorem xu{L:List Int}{i v:Int}(h:∀x∈L,0<=x)(hv:0<=L.getD i.toNat 0+v):∀x∈dJ L i v,0<=x:=by
 intro x hx;unfold dJ at hx;rcases List.mem_or_eq_of_mem_set hx with z|z
 .exact h x z
 .rw[z];exact hv
theorem BZ{ps ss:List (List Int)}(h:un ps ss=none):∀j,j<ss.length->cM ps (ss.take j) (ss.getD j [])=true:=fun j hj=>by
 unfold un at h;have:=List.find?_eq_none.mp h j (List.mem_range.mpr hj);simpa using this
theorem xx{ps ss:List (List Int)}{n:Nat}{y:Int}(hu:un ps ss=none)(h5:∀s∈ss,s.length=5)(op:okP (ps.getD n [])):
  ∀k,k<=ss.length->(∀x∈bM (ps.getD n []) (ss.take k) n y,0<=x)/\(bM (ps.getD n []) (ss.take k) n y).sum<=99:=by
 intro k;by_cases hy:fl (ps.getD n []) 2<=y/\y<=fl (ps.getD n []) 3
 .obtain⟨_,⟨a1,a2⟩,_,_,⟨e1,e2⟩,_⟩:=id op
  induction k with
  |zero=>
   intro _;rw[List.take_zero];unfold bM;rw[zAy hy];show(∀x∈base0 (ps.getD n []),0<=x)/\(base0 (ps.getD n [])).sum<=99;unfold base0;refine⟨fun x hx=>?_,?_⟩
   .rcases List.mem_or_eq_of_mem_set hx with z|z
    .rw[List.eq_of_mem_replicate z];exact Int.le_refl _
    .lia
   .rw[sum_set _ _ _ (by rw[List.length_replicate];lia)];have:(List.replicate 8 (0:Int)).sum=0:=rfl
    have e:(List.replicate 8 (0:Int)).getD (fl (ps.getD n []) 0).toNat 0=0:=by
     rw[zA7,List.getElem?_replicate,zAy Zz];rfl
    rw[this,e];lia
  |succ k ih=>
   intro hk;have cw:k<ss.length:=Zz
   obtain⟨i1,i2⟩:=ih Zz;have hB:=BZ hu k cw;rw[getD_get cw]at hB;have bP:ss.take (k+1)=ss.take k++[ss[k]]:=by rw[zAj,zA0 cw];rfl
   have eh:bM (ps.getD n []) (ss.take (k+1)) n y=hstep n y (bM (ps.getD n []) (ss.take k) n y) ss[k]:=by
    unfold bM;rw[zAy hy,zAy hy,bP,List.foldl_append];rfl
   have QT:=nZ (h5 _ (zAh cw)) hB;obtain⟨_,⟨b1,b2⟩,c1,c2⟩:=QT;have hl:=eV (ps.getD n []) (ss.take k) n y;rw[eh];unfold hstep;by_cases hc:fl ss[k] 0=n/\fl ss[k] 4<=y
   .rw[zAy hc];unfold cM at hB;rw[zAc]at hB;obtain⟨JU,IT⟩:=hB
    have ep:rZ ps ss[k]=ps.getD n []:=by
     unfold rZ;rw[hc.1,zAi]
    have uu:fl ss[k] 3<=(bM (ps.getD n []) (ss.take k) n y).getD (fl ss[k] 1).toNat 0:=by
     have:=List.all_eq_true.mp IT y (by
      unfold years;refine zA5.mpr ⟨(y-fl ss[k] 4).toNat,List.mem_range.mpr ?_,?_⟩
      .rw[ep];lia
      .lia)
     have:=zB8 this;rw[ep,hc.1]at this;exact this
    unfold uC at JU;simp only[Bool.and_eq_true,Zp,Bool.not_eq_true',decide_eq_false_iff_not]at JU;obtain⟨_,_,_,WH,⟨v1,v2⟩,_⟩:=JU;generalize bM (ps.getD n []) (ss.take k) n y=L at i1 i2 hl uu;have n1:=xu (i:=fl ss[k] 1) (v:=-(fl ss[k] 3)) i1 Zz;refine⟨xu n1 ?_,?_⟩
    .have:=gr n1 (fl ss[k] 2).toNat;lia
    .rw[uJ (by rw[fX];lia),uJ Zz];lia
   .rw[zAv hc];exact⟨i1,i2⟩
 .intro _;unfold bM;rw[zAv hy];refine⟨fun x hx=>by rw[List.eq_of_mem_replicate hx];exact Int.le_refl _,by decide⟩
theorem Ga{ps ss:List (List Int)}{sort year:Int}(hu:un ps ss=none)(h5:∀s∈ss,s.length=5)(okp:∀r∈ps,okP r):∀k,k<=ps.length->∀r∈gH ps ss sort year k,r.length=4/\1<=fl r 3/\fl r 3<=99/\fl r 0=year/\0<=fl r 1/\fl r 1<k:=by
 intro k
 induction k with
 |zero=>intro _ r hr;cases hr
 |succ k ih=>
  intro hk r hr;rcases zA6.mp (show r∈gH ps ss sort year k++gU ps ss sort year k from hr)with z|z
  .obtain⟨h1,h2,h3,h4,h6,h7⟩:=ih Zz r z;exact⟨h1,h2,h3,h4,h6,Zz⟩
  .unfold gU at z;split at z
   .obtain⟨q,hq,rfl⟩:=zA5.mp z;unfold dH at hq;obtain⟨h,hh,rfl⟩:=zA5.mp hq;have hp:=zB8 (zAq.mp hh).2;have cw:k<ps.length:=Zz
    obtain⟨a,b⟩:=xx (n:=k) (y:=year) hu h5 (by rw[getD_get cw];exact okp _ (zAh cw)) ss.length (zA3 _);rw[zAm]at a b
    have le:(bM (ps.getD k []) ss k year).getD h 0<=99:=by
     rw[zA7]at hp⊢
     cases e:(bM (ps.getD k []) ss k year)[h]? with
     |none=>show(0:Int)<=99;decide
     |some y=>
      have:=(iZ a).2 y (zB5 e);show y<=99;lia
    refine⟨rfl,?_,le,rfl,?_,?_⟩
    .show 1<=(bM (ps.getD k []) ss k year).getD h 0;lia
    .show(0:Int)<=(k:Int);lia
    .show(k:Int)<((k+1:Nat):Int);lia
   .cases z
end K31
namespace K31P
open PySem L2
theorem sum_set:∀{l:List Int} {i:Nat} {x:Int},i<l.length->(l.set i (l.getD i 0+x)).sum=l.sum+x
 |a::l,0,x,_=>by simp;lia
 |a::l,i+1,x,h=>by
  have:=sum_set (l:=l) (i:=i) (x:=x) (by simpa using h);simp only[List.set_cons_succ,List.sum_cons,List.getD_cons_succ];lia
theorem qD:∀(pl:List Nat) (l:List Int),(∀i∈pl,i<l.length)->(cT l pl).sum=l.sum+pl.length
 |[],l,_=>by simp[cT]
 |i::pl,l,h=>by
  show(cT (l.set i (l.getD i 0+1)) pl).sum=_;rw[qD pl _ fun j hj=>by rw[List.length_set];exact h j (.tail _ hj),sum_set (h i (.head _)),zAe];lia
theorem res_sum{n:Int}{ws:List Int}(ok:OkW ws):(res n ws).sum=n:=by
 have o:=(iz (rs n ws)).choose_spec;have hl:=o.len;rw[gG]at hl;have l0:=xn (n:=n) ok;have l1:=BK (n:=n) ok;unfold res;rw[qD _ _ fun i hi=>by rw[ou];have:=o.lt i (List.mem_of_mem_take hi);rw[gG]at this;exact this,zAd,Nat.min_eq_left Zz];have:lf n ws=n-(fs n ws).sum:=rfl;lia
end K31P
namespace K31
open PySem L2
theorem oE:∀{w:Int} {rs:List (List Int)},0<=w->(∀r∈rs,0<=fl r 3)->(∀x∈aW w rs,0<=x)/\0<=(aW w rs).sum/\(aW w rs).sum<=w
 |w,[],h,_=>⟨fun x hx=>(by cases hx),Int.le_refl _,h⟩
 |w,r::rs,h,hr=>by
  have h3:=hr r (.head _);unfold aW;by_cases hc:w<fl r 3
  .rw[zAy hc];obtain⟨a,b,c⟩:=oE (w:=w-w) (rs:=rs) Zz fun q hq=>hr q (.tail _ hq);refine⟨fun x hx=>?_,by rw[List.sum_cons];lia,by rw[List.sum_cons];lia⟩;rcases zAo.mp hx with z|z
   .lia
   .exact a x z
  .rw[zAv hc];obtain⟨a,b,c⟩:=oE (w:=w-fl r 3) (rs:=rs) Zz fun q hq=>hr q (.tail _ hq);refine⟨fun x hx=>?_,by rw[List.sum_cons];lia,by rw[List.sum_cons];lia⟩;rcases zAo.mp hx with z|z
   .lia
   .exact a x z
theorem xF:∀{rs:List (List Int)} {sh:List Int},sh.length=rs.length->(∀x∈sh,0<=x)->bW (bR (rs.zip sh))=sh.sum
 |[],[],_,_=>rfl
 |[],_::_,h,_=>by simp at h
 |_::_,[],h,_=>by simp at h
 |r::rs,x::sh,h,hn=>by
  have ih:=xF (rs:=rs) (sh:=sh) (by simpa using h) fun y hy=>hn y (.tail _ hy);have hx:=hn x (.head _);rw[List.zip_cons_cons,List.sum_cons,<-ih];unfold bR;by_cases hp:0<x
  .rw[zB4 (p:=fun(p:List Int×Int)=>decide (0<p.2)) (zAt hp),zAk];unfold bW wts;rw[zAk,List.sum_cons];rfl
  .rw[zB7 (p:=fun(p:List Int×Int)=>decide (0<p.2)) (by rw[Zp];exact hp)];have:x=0:=Zz
   rw[this,Int.zero_add]
theorem sG{w:Int}{cl ow:List (List Int)}(hw:0<=w)(hc:∀r∈cl,r.length=4/\1<=fl r 3/\fl r 3<=99)(hz:cl.length<=80)(ho:∀r∈ow,0<=fl r 3):(∀x∈shr w cl ow,0<=x)/\0<=(shr w cl ow).sum/\(shr w cl ow).sum<=w:=by
 have hs:(∀x∈aZ w cl,0<=x)/\(aZ w cl).sum<=w:=by
  unfold aZ;by_cases h:(wts cl).sum<=w
  .rw[zAy h];refine⟨fun x hx=>?_,h⟩;obtain⟨r,hr,rfl⟩:=zA5.mp hx;have:=(hc r hr).2.1;lia
  .rw[zAv h]
   have ok:K31P.OkW (wts cl):=by
    refine⟨?_,by unfold wts;rw[zA1];exact hz,fun x hx=>?_⟩
    .cases mS:cl with
     |nil=>
      rw[mS]at h;exact absurd hw h
     |cons r ze=>
      unfold wts;rw[zA1,zAe];lia
    .obtain⟨r,hr,rfl⟩:=zA5.mp hx;exact(hc r hr).2
   refine⟨fun x hx=>?_,by rw[K31P.res_sum ok];exact Int.le_refl _⟩;obtain⟨i,hi,e⟩:=List.getElem_of_mem hx;have dQ:i<(wts cl).length:=by rw[K31P.res_len]at hi;exact hi
   exact(K31P.res_get ok hw Zz (i:=i) (r:=x) (w:=(wts cl)[i]) (by rw[zA0 hi,e]) (zA0 dQ)).1
 obtain⟨h1,h2⟩:=hs;have h3:=(iZ h1).1;obtain⟨m1,m2,m3⟩:=oE (w:=w-(aZ w cl).sum) (rs:=ow) Zz ho;unfold shr;refine⟨fun x hx=>(zA6.mp hx).elim (h1 x) (m1 x),?_,?_⟩
 .rw[List.sum_append];lia
 .rw[List.sum_append];lia
theorem xG{w:Int}{cl ow:List (List Int)}(hw:0<=w)(hc:∀r∈cl,r.length=4/\1<=fl r 3/\fl r 3<=99)(hz:cl.length<=80)(ho:∀r∈ow,0<=fl r 3):bW (bR ((cl++ow).zip (shr w cl ow)))=(shr w cl ow).sum/\0<=w-bW (bR ((cl++ow).zip (shr w cl ow))):=by
 obtain⟨a,b,c⟩:=sG hw hc hz ho;have e:=xF (rs:=cl++ow) (sh:=shr w cl ow) (by unfold shr;rw[zA2,zA2,shares_len,di]) a;exact⟨e,by rw[e];lia⟩
def rle(a b:List Int):Bool:=!HT.lexLt b a
theorem vI(a b c:List Int)(h1:rle a b=true)(h2:rle b c=true):rle a c=true:=by
 unfold rle at *;rw[Bool.not_eq_true']at *
 cases h:HT.lexLt c a with
 |false=>rfl
 |true=>
  rcases wO c b a h with z|z
  .rw[z]at h2;cases h2
  .rw[z]at h1;cases h1
theorem sI(a b:List Int):(rle a b||rle b a)=true:=by
 unfold rle
 cases h:HT.lexLt b a with
 |false=>rfl
 |true=>
  cases h':HT.lexLt a b with
  |false=>rfl
  |true=>
   have:=rN a b a h' h;rw[rM]at this;cases this
def srt(rs:List (List Int)):List (List Int):=rs.mergeSort rle
theorem gJ{rs ze:List (List Int)}(pm:ze.Perm rs)(so:ze.Pairwise (fun a b=>HT.lexLt b a=false)):ze=srt rs:=by
 have EU:ze.Pairwise (fun a b=>rle a b=true):=so.imp fun{a b} h=>by unfold rle;rw[h];rfl
 refine List.Perm.eq_of_pairwise (le:=fun a b=>rle a b=true) (fun a b _ _ h1 h2=>?_) EU (List.pairwise_mergeSort vI sI rs) (pm.trans (List.mergeSort_perm rs rle).symm);unfold rle at h1 h2;rw[Bool.not_eq_true']at h1 h2;exact mD a b h2 h1
structure Yr where
 g:List (List Int)
 k:List (List Int)
 l:List Int
 d:Int
def aH(ps ow:List (List Int))(sort:Int):List (List Int):=ow.filter fun r=>decide (fl (ps.getD (fl r 1).toNat []) 1=sort)
def JC(c:List Int)(ps ss ow:List (List Int))(y:Int)(a:Yr)(sort:Nat):Yr:=
 ⟨a.g++bR ((aD ps ss sort y++aH ps ow sort).zip (shr (c.getD sort 0+a.d) (aD ps ss sort y) (aH ps ow sort))),
  a.k++bh ((aD ps ss sort y++aH ps ow sort).zip (shr (c.getD sort 0+a.d) (aD ps ss sort y) (aH ps ow sort))),
  a.l++[c.getD sort 0+a.d-bW (bR ((aD ps ss sort y++aH ps ow sort).zip (shr (c.getD sort 0+a.d) (aD ps ss sort y) (aH ps ow sort))))],
  c.getD sort 0+a.d-bW (bR ((aD ps ss sort y++aH ps ow sort).zip (shr (c.getD sort 0+a.d) (aD ps ss sort y) (aH ps ow sort))))⟩
def yTo(c:List Int)(ps ss ow:List (List Int))(y:Int):Nat->Yr
 |0=>⟨[],[],[],0⟩
 |n+1=>JC c ps ss ow y (yTo c ps ss ow y n) n
def okO(ps:List (List Int))(r:List Int):Prop:=r.length=4/\0<=fl r 1/\fl r 1<ps.length/\1<=fl r 3
theorem gW{ps ow:List (List Int)}{sort:Int}(h:∀r∈ow,okO ps r):∀r∈aH ps ow sort,okO ps r:=fun r hr=>h r (zAq.mp hr).1
theorem qF(ps ow:List (List Int))(sort:Int):(aH ps ow sort).length<=ow.length:=List.length_filter_le _ _
theorem dD{ps ss:List (List Int)}{sort year:Int}(hu:un ps ss=none)(h5:∀s∈ss,s.length=5)(okp:∀r∈ps,okP r):∀r∈aD ps ss sort year,r.length=4/\1<=fl r 3/\fl r 3<=99:=fun r hr=>by
 obtain⟨a,b,c,_⟩:=Ga (sort:=sort) (year:=year) hu h5 okp ps.length (zA3 _) r hr;exact⟨a,b,c⟩
theorem cA{ps ss:List (List Int)}{sort year:Int}(h:ps.length<=10):(aD ps ss sort year).length<=80:=by
 have:=jT ps ss sort year ps.length;unfold aD;lia
theorem zj{c:List Int}{ps ss ow:List (List Int)}{y:Int}(hc:∀x∈c,0<=x)(hu:un ps ss=none)(h5:∀s∈ss,s.length=5)(okp:∀r∈ps,okP r)(hl:ps.length<=10)(ho:∀r∈ow,okO ps r):∀n,0<=(yTo c ps ss ow y n).d
 |0=>Int.le_refl _
 |n+1=>by
  have ih:=zj (y:=y) hc hu h5 okp hl ho n
  have hw:0<=c.getD n 0+(yTo c ps ss ow y n).d:=by
   have:=gr hc n;lia
  exact(xG hw (dD hu h5 okp) (cA hl) fun r hr=>by have:=(gW ho r hr).2.2.2;lia).2
theorem xH(P:List (List Int×Int)):(bR P).length<=P.length:=by
 unfold bR;rw[zA1];exact List.length_filter_le _ _
theorem oF(P:List (List Int×Int)):(bh P).length<=P.length:=by
 unfold bh;rw[zA1];exact List.length_filter_le _ _
theorem xJ{c:List Int}{ps ss ow:List (List Int)}{y:Int}(hl:ps.length<=10):∀n,(yTo c ps ss ow y n).g.length<=n*(80+ow.length)/\(yTo c ps ss ow y n).k.length<=n*(80+ow.length)/\(yTo c ps ss ow y n).l.length=n
 |0=>⟨zAp _,zAp _,rfl⟩
 |n+1=>by
  obtain⟨a,b,d⟩:=xJ (c:=c) (ss:=ss) (ow:=ow) (y:=y) hl n;have h1:=cA (ss:=ss) (sort:=n) (year:=y) hl;have h2:=qF ps ow n
  have hz:∀sh:List Int,((aD ps ss n y++aH ps ow n).zip sh).length<=80+ow.length:=fun sh=>by
   rw[zAs,zA2];lia
  rw[Nat.succ_mul];refine⟨?_,?_,?_⟩
  .show((yTo c ps ss ow y n).g++bR _).length<=_;rw[zA2];have:=xH ((aD ps ss n y++aH ps ow n).zip (shr (c.getD n 0+(yTo c ps ss ow y n).d) (aD ps ss n y) (aH ps ow n)));have:=hz (shr (c.getD n 0+(yTo c ps ss ow y n).d) (aD ps ss n y) (aH ps ow n));lia
  .show((yTo c ps ss ow y n).k++bh _).length<=_;rw[zA2];have:=oF ((aD ps ss n y++aH ps ow n).zip (shr (c.getD n 0+(yTo c ps ss ow y n).d) (aD ps ss n y) (aH ps ow n)));have:=hz (shr (c.getD n 0+(yTo c ps ss ow y n).d) (aD ps ss n y) (aH ps ow n));lia
  .show((yTo c ps ss ow y n).l++[_]).length=n+1;rw[zA2,d];rfl
theorem y_row{c:List Int}{ps ss ow:List (List Int)}{y:Int}:∀n,(∀r∈(yTo c ps ss ow y n).g,r.length=4)/\∀r∈(yTo c ps ss ow y n).k,r.length=4
 |0=>⟨fun r hr=>(by cases hr),fun r hr=>(by cases hr)⟩
 |n+1=>by
  obtain⟨a,b⟩:=y_row (c:=c) (ps:=ps) (ss:=ss) (ow:=ow) (y:=y) n;refine⟨fun r hr=>?_,fun r hr=>?_⟩
  .rcases zA6.mp (show r∈(yTo c ps ss ow y n).g++bR _ from hr)with z|z
   .exact a r z
   .obtain⟨p,_,rfl⟩:=zA5.mp z;rfl
  .rcases zA6.mp (show r∈(yTo c ps ss ow y n).k++bh _ from hr)with z|z
   .exact b r z
   .obtain⟨p,_,rfl⟩:=zA5.mp z;rfl
def vInt:V->Int
 |.int i=>i
 |_=>0
def gY(H:Hp)(a:Addr):List Int:=match H a with
 |some (.tup xs)=>xs.map vInt
 |_=>[]
theorem Ff{H:Hp}{a:Addr}{r:List Int}(e:H a=some (.tup (r.map V.int))):gY H a=r:=by
 unfold gY;rw[e];show(r.map V.int).map vInt=r;rw[zAr];exact List.map_id _
theorem jU{H:Hp}:∀{xs:List V} {rs:List (List Int)},Els H xs rs->∃ads:List Addr,xs=ads.map V.ref/\rs=ads.map (gY H)/\∀a∈ads,H a=some (.tup ((gY H a).map V.int))
 |[],[],_=>⟨[],rfl,rfl,fun a ha=>(by cases ha)⟩
 |[],_::_,h=>by have:=h.1;simp at this
 |_::_,[],h=>by have:=h.1;simp at this
 |x::xs,r::rs,h=>by
  obtain⟨t,e1,e2⟩:=h.2 0 r rfl;rw[List.getElem?_cons_zero]at e1;cases e1
  obtain⟨ads,f1,f2,f3⟩:=jU (xs:=xs) (rs:=rs) ⟨by have:=h.1;simpa using this,fun i q e=>by
   obtain⟨u,g1,g2⟩:=h.2 (i+1) q (by rw[List.getElem?_cons_succ];exact e);rw[List.getElem?_cons_succ]at g1
   exact⟨u,g1,g2⟩⟩
  have er:=Ff e2;refine⟨t::ads,by rw[f1];rfl,by rw[f2,zAk,er,<-f2],fun a ha=>?_⟩;rcases zAo.mp ha with z|z
  .rw[z,er];exact e2
  .exact f3 a z
theorem Ca{H H':Hp}{l':List Addr}(h:∀a∈l',H' a=some (.tup ((gY H a).map V.int))):Els H' (l'.map V.ref) (l'.map (gY H)):=by
 refine⟨by rw[zA1,zA1],fun i r e=>?_⟩;rw[zAb]at e
 cases z:l'[i]? with
 |none=>rw[z]at e;cases e
 |some a=>
  rw[z]at e;cases e;exact⟨a,by rw[zAb,z];rfl,h a (zB5 z)⟩
inductive SpYearI(vs:List V)(H:Hp)(Q:VK):Prop
 |mk:∀bk y lo ac xc cs ap xp ps af xs ss xo ow,(vs=[.ref bk,.int y,.ref lo])->(H bk=some (.tup [.ref ac,.ref ap,.ref af]))->(RowsAt H ac xc cs)->((∀r∈cs,r.length=3/\∀x∈r,0<=x))->(0<=y)->(y<cs.length)->(RowsAt H ap xp ps)->(ps.length<=10)->((∀r∈ps,okP r))->(RowsAt H af xs ss)->(ss.length<=12)->((∀s∈ss,s.length=5))->(un ps ss=none)->(H lo=some (.lst xo))->(Els H xo ow)->((∀r∈ow,okO ps r))->(ow.length<=10000)->(∀t g k tl xg xk H',Same H H'->H' t=some (.tup [.ref g,.ref k,.ref tl])->H g=none->H k=none->(g≠sysModules/\k≠sysModules)->H' g=some (.lst xg)->Els H' xg (srt (yTo (cs.getD y.toNat []) ps ss ow y 3).g)->H' k=some (.lst xk)->Els H' xk (srt (yTo (cs.getD y.toNat []) ps ss ow y 3).k)->H' tl=some (.tup ((yTo (cs.getD y.toNat []) ps ss ow y 3).l.map V.int))->Q (.ref t) H')->SpYearI  vs H Q
def Cd:Sp:=fun vs H Q _=>SpYearI  vs H Q
theorem xK{ps ss:List (List Int)}(h:un ps ss=none)(h5:∀s∈ss,s.length=5):∀s∈ss,okS s:=fun s hs=>by
 obtain⟨j,hj,e⟩:=List.getElem_of_mem hs;have:=BZ h j hj;rw[getD_get hj,e]at this;exact nZ (h5 s hs) this
theorem sJ{D:Ends}{tb:TS}{σ:L2.St}{H:Hp}(R:Hp->Prop)(h:R H)(g:∀H,R H->tb D σ H):tb D σ H:=g H h
variable{P:Program}{w:World}{K:Frag}{mg:Str->Option Value}{base:Heap}{f:Addr}{fd:FuncData}
theorem boot_sorted:bootBuiltins "sorted"=some (.builtin "sorted"):=by decide +kernel
theorem ndZ:(["row","promises","sort"]:List Str).Nodup:=by decide +kernel
theorem scZ1:FnScope ["book","year","owed","clips","promises","sales","gifts","lacking","left","down","sort","wool","claims","ahead","given","lacked"] ["book","year","owed"] (aJ (top 48)):=fS
theorem Fg(F:Fun K "year_given" "year_given" (top 48) f fd)(T:Mg mg)(N:Nums mg)(Tr:mg "range"=none)(Ts:mg "sorted"=none)(c1:Cal P w K mg base 2 "claims_in" ["promises","sales","sort","year"] oA)(c2:Cal P w K mg base 8 "sort_given" ["wool","claims","owed"] BV)(c3:Cal P w K mg base 1 "sacks_of" ["rows"] xm):FnOk P w K mg base CX0 9 f fd ["book","year","owed"] Cd:=by
 refine F.ok scZ1 (fun vs H Q E h=>?_) (fun ai A outer s H vs Q E hr h=>?_)
 .obtain⟨bk,y,lo,ac,xc,cs,ap,xp,ps,af,xs,ss,xo,ow,rfl,_⟩:=h;rfl
 .obtain⟨bk,y,lo,ac,xc,cs,ap,xp,ps,af,xs,ss,xo,ow,rfl,eb,rc,okc,y0,y1,rp,lp,okp,rs,ls,h5,hu,eo,oo,hU,QQ,q⟩:=h;obtain⟨t3,e3⟩:=N.sorts
  refine K31P.ok_b (aN ⟨cJ (pv 0) (bF rfl (ao (pgn 3 scZ1.nd) (ao (bj (i:=4) scZ1.nd rfl (Or.inr rfl)) (ao (pgn 5 scZ1.nd) aV))))⟩
   (aN (gF 6 scZ1.nd (rF fH))
   (aN (gF 7 scZ1.nd (rF fH))
   (aN (gF 8 scZ1.nd (rF fH))
   (aN (gF 9 scZ1.nd Hl)
   (aN ⟨bN zB3 rfl (bU rfl Tr (aq (bY (v:=.int 3) rfl e3 ⟨_,rfl⟩) aj)) (bj (i:=10) scZ1.nd rfl (Or.inr rfl))
    (gj (aN (gF 11 scZ1.nd (Aw bO (Ax bT (Ax bT ⟨pv 3⟩ ⟨pv 1⟩ (fun _ _=>rfl)) ⟨pv 10⟩ (fun _ _=>rfl)) ⟨pv 9⟩))
    (aN (gF 12 scZ1.nd ⟨aK c1 hr (aq (pv 4) (aq (pv 5) (aq (pv 10) (aq (pv 1) aj))))⟩)
    (aN ⟨gh (i:=13) ["row","promises","sort"] [none,some 4,some 10] rfl scZ1.nd rfl (Or.inl rfl) (bL (pv 2)) (fun C fp Zt s₂ H₂=>⟨pgn 0 ndZ,dM (bf iI (pX (K31P.ix_tupK (K:=K) rfl) (pX (K31P.ix_tupK (K:=K) rfl) (pv 1) (pX (K31P.ix_tupK (K:=K) rfl) (pv 0) aA)) aA) (pv 2) (bu _)),pv 0⟩) (fun C=>cI (cI trivial)) ⟨rfl,rfl,rfl,rfl⟩⟩
    (aN ⟨cJ (aK c2 hr (aq (pv 11) (aq (pv 12) (aq (pv 13) aj)))) (bF rfl (ao (pgn 14 scZ1.nd) (ao (pgn 15 scZ1.nd) aV)))⟩
    (aN (gF 9 scZ1.nd (Aw dW ⟨pv 11⟩ ⟨aK c3 hr (aq (pv 14) aj)⟩))
    (aN ⟨jj (i:=6) scZ1.nd rfl (Or.inl rfl) (pv 14) kI⟩
    (aN ⟨jj (i:=7) scZ1.nd rfl (Or.inl rfl) (pv 15) kI⟩
    (bQ ⟨dC (lE zBb zBf zBe eQ (pv 8) (aq (pv 9) aj))⟩)))))))))⟩
   (bQ (rG (nF (fu ⟨aM dI rfl Ts boot_sorted (aq (pv 6) aj)⟩ (fu ⟨aM dI rfl Ts boot_sorted (aq (pv 7) aj)⟩ (fu ⟨cR cj rfl T.tuple boot_tuple (aq (pv 8) aj)⟩ fH)))))))))))) ?_
  refine aC ?_;refine⟨_,rfl,bk,_,rfl,SqT.of eb,rfl,_,_,rfl,_,_,rfl,_,_,rfl,rfl,?_⟩;dsimp only;refine aC (aR ?_);refine⟨zL,fun lg rq=>?_⟩;refine aF ?_;dsimp only;refine aC (aR ?_);refine⟨zL,fun lk kR=>?_⟩;refine aF ?_;dsimp only;refine aC (aR ?_);refine⟨zL,fun ll eC=>?_⟩;refine aF ?_;dsimp only;refine aC (aR ?_);refine aF ?_;dsimp only;have s1:=Same.upd (o:=.lst []) rq;have s2:=Same.upd (o:=.lst []) kR;have s3:=Same.upd (o:=.lst []) eC;have QU:H lg=none:=rq;have vT:H lk=none:=s1.free kR;have JY:H ll=none:=(s1.trans s2).free eC
  have NH:lg≠lk:=fun z=>by rw[<-z,aa]at kR;cases kR
  have NI:lk≠ll:=fun z=>by rw[<-z,aa]at eC;cases eC
  have NJ:lg≠ll:=fun z=>by rw[<-z,s2 _ _ aa]at eC;cases eC
  refine sJ (fun H1=>Same H H1/\H1 lg=some (.lst [])/\H1 lk=some (.lst [])/\H1 ll=some (.lst [])) ⟨(s1.trans s2).trans s3,s3 _ _ (s2 _ _ aa),s3 _ _ aa,aa⟩ fun H1 ⟨k1,nX,QV,el1⟩=>?_;clear s1 s2 s3 rq kR eC;have Kb:y.toNat<cs.length:=Zz
  obtain⟨tc,Cf,Cn⟩:=rows_at rc y0 (show cs[y.toNat]?=some cs[y.toNat]from zA0 Kb);have QW:cs.getD y.toNat []=cs[y.toNat]:=getD_get Kb;have wa:=okc _ (zAh Kb);rw[QW]at q;generalize cs[y.toNat]=c at q Cn wa;have fy:=xK hu h5;refine aC ?_;refine⟨3,rfl,by decide,by decide,?_⟩;refine cP (lo:=0) (fun i σ Hc=>∃bq cS de df bX cb xg xk,σ=[some (.ref bk),some (.int y),some (.ref lo),some (.ref ac),some (.ref ap),some (.ref af),some (.ref lg),some (.ref lk),some (.ref ll),some (.int (yTo c ps ss ow y i).d),bq,cS,de,df,bX,cb]/\Same H Hc/\Hc lg=some (.lst xg)/\Els Hc xg (yTo c ps ss ow y i).g/\Hc lk=some (.lst xk)/\Els Hc xk (yTo c ps ss ow y i).k/\Hc ll=some (.lst ((yTo c ps ss ow y i).l.map V.int))) ?_ ?_ ?_
  .exact⟨none,none,none,none,none,none,[],[],rfl,k1,nX,Els.nil,QV,Els.nil,el1⟩
  .rintro i σ Hc hi ⟨bq,cS,de,df,bX,cb,xg,xk,rfl,k,eg,elg,ek,cx,el⟩;have hi:i<3:=hi;obtain⟨WI,WJ,QX⟩:=xJ (c:=c) (ss:=ss) (ow:=ow) (y:=y) lp i;refine aF ?_;have z0:(0:Int)+(i:Int)=i:=Zz
   rw[z0];refine lq fun De zi=>?_
   have QY:(c.map V.int)[i]?=some (.int (c.getD i 0)):=by
    have cw:i<c.length:=Zz
    rw[zAb,zA7,zA0 cw];rfl
   refine aC (aR ?_);refine⟨_,rfl,_,rfl,ac,xc,y,.ref tc,rfl,rfl,SqT.of (k _ _ rc.e),Cf,_,rfl,tc,_,i,.int (c.getD i 0),rfl,rfl,SqT.of (k _ _ Cn),du QY,_,rfl,_,_,rfl,rfl,?_⟩;refine aF ?_;dsimp only;have dn:=zj (c:=c) (y:=y) wa.2 hu h5 okp lp hU i;have cn:=gr wa.2 i;refine aC (aR ?_);refine⟨_,rfl,_,rfl,_,rfl,_,rfl,ap,xp,ps,af,xs,ss,i,y,rfl,rp.same k,lp,okp,rs.same k,ls,fy,fun lc QZ H2 s2 WK B0 Ki=>?_⟩;refine aF ?_;dsimp only;have k2:=k.trans s2;refine aC ?_;refine⟨_,rfl,lo,rfl,⟨_,SqL.of (k2 _ _ eo)⟩,cZ ow.length (fun j ys σ Hj=>Same H2 Hj/\(∃o1,σ=[o1,some (.ref ap),some (.int i)])/\Els Hj ys (aH ps (ow.take j) i)) ⟨Same.refl _,⟨_,rfl⟩,Els.nil⟩ Zu ?_ ?_⟩
   .rintro j ys σ Hj hj hy ⟨sc,⟨o1,rfl⟩,kc⟩;have kj:=k2.trans sc;have rg:SqL K Hj lo xo:=SqL.of (kj _ _ eo);obtain⟨tr,ex,eI⟩:=oo.2 j ow[j] (zA0 hj);obtain⟨o4,o5,o6,o7⟩:=hU _ (zAh hj);have Kj:=eI;rw[bJ o4]at eI;obtain⟨p,hp,ep,op⟩:=prom_ok okp o5 o6;obtain⟨tp,gS,gT⟩:=rows_at rp o5 hp;rw[six_row op.1]at gT
    have bP:aH ps (ow.take (j+1)) i=aH ps (ow.take j) i++(if fl p 1=i then[ow[j]]else[]):=by
     rw[zAj,zA0 hj];unfold aH;rw[show(some ow[j]).toList=[ow[j]]from rfl,List.filter_append];congr 1;by_cases h:fl p 1=i
     .rw[zAy h,zB4 (by rw[ep];exact zAt h)];rfl
     .rw[zAv h,zB7 (by rw[ep,Zp];exact h)];rfl
    refine⟨⟨_,_,rg,ex⟩,fun x H' yv R hR=>?_⟩;obtain⟨rfl,yv⟩:=yv;have yv:=yv _ rg;rw[ex]at yv;cases yv;refine aF ?_;refine⟨_,rfl,_,rfl,tr,_,1,.int (fl ow[j] 1),rfl,rfl,SqT.of (kj _ _ eI),rfl,ap,xp,_,.ref tp,rfl,rfl,SqT.of (kj _ _ rp.e),gS,tp,_,1,.int (fl p 1),rfl,rfl,SqT.of (kj _ _ gT),rfl,_,rfl,rfl,_,rfl,?_⟩;by_cases h:fl p 1=i
    .rw[zAt (by rw[h])];refine bK ⟨_,rfl,hR _ _ _ (by rw[zA2];show ys.length+1<=j+1;lia) ⟨sc,⟨_,rfl⟩,?_⟩⟩;rw[bP,zAy h];exact kc.app (Els.one (kj _ _ Kj))
    .rw[zB0 (fun z=>h (by injection z))];refine bA (hR _ _ _ Zz ⟨sc,⟨_,rfl⟩,?_⟩);rw[bP,zAv h,zAn];exact kc
   rintro ya σ Hj hy ⟨sc,_,rh⟩;rw[zAm]at rh;refine⟨⟨_,SqL.of (sc _ _ (k2 _ _ eo)),by rw[oo.1];exact zA3 _⟩,fun la y9=>?_⟩;have sa:=sc.updR (o:=.lst ya) y9;have wb:=aa (H:=Hj) (a:=la) (o:=.lst ya);have rh:=rh.same (Same.upd (o:=.lst ya) y9);generalize upd Hj la (.lst ya)=H3 at sa wb rh⊢;have k3:=k2.trans sa;have sH:=s2.trans sa;dsimp only;have f6:=dD (sort:=i) (year:=y) hu h5 okp;have rj:=cA (ss:=ss) (sort:=i) (year:=y) lp;have Q0:=gW (sort:=i) hU;have vj:=qF ps ow i;refine aC ?_;refine⟨_,rfl,_,rfl,_,rfl,c.getD i 0+(yTo c ps ss ow y i).d,lc,QZ,aD ps ss i y,la,ya,aH ps ow i,rfl,sa _ _ B0,Ki.same sa,f6,rj,Zz,wb,rh,fun r hr=>(Q0 r hr).1,Zz,fun t g kk ma oB H4 s4 et ng nk NK oC Kk wc=>⟨t,_,rfl,SqT.of et,rfl,_,_,rfl,_,_,rfl,rfl,?_⟩⟩;have k4:=k3.trans s4;have Q3:=sH.trans s4;have gl:=xH ((aD ps ss i y++aH ps ow i).zip (shr (c.getD i 0+(yTo c ps ss ow y i).d) (aD ps ss i y) (aH ps ow i)));have kl:=oF ((aD ps ss i y++aH ps ow i).zip (shr (c.getD i 0+(yTo c ps ss ow y i).d) (aD ps ss i y) (aH ps ow i)))
   have zl:((aD ps ss i y++aH ps ow i).zip (shr (c.getD i 0+(yTo c ps ss ow y i).d) (aD ps ss i y) (aH ps ow i))).length<=80+ow.length:=by
    rw[zAs,zA2];lia
   have e1:(yTo c ps ss ow y (i+1)).g=(yTo c ps ss ow y i).g++bR ((aD ps ss i y++aH ps ow i).zip (shr (c.getD i 0+(yTo c ps ss ow y i).d) (aD ps ss i y) (aH ps ow i))):=rfl;have e2:(yTo c ps ss ow y (i+1)).k=(yTo c ps ss ow y i).k++bh ((aD ps ss i y++aH ps ow i).zip (shr (c.getD i 0+(yTo c ps ss ow y i).d) (aD ps ss i y) (aH ps ow i))):=rfl;have e3:(yTo c ps ss ow y (i+1)).l=(yTo c ps ss ow y i).l++[c.getD i 0+(yTo c ps ss ow y i).d-bW (bR ((aD ps ss i y++aH ps ow i).zip (shr (c.getD i 0+(yTo c ps ss ow y i).d) (aD ps ss i y) (aH ps ow i))))]:=rfl;have e4:(yTo c ps ss ow y (i+1)).d=c.getD i 0+(yTo c ps ss ow y i).d-bW (bR ((aD ps ss i y++aH ps ow i).zip (shr (c.getD i 0+(yTo c ps ss ow y i).d) (aD ps ss i y) (aH ps ow i)))):=rfl
   have g4:∀r∈bR ((aD ps ss i y++aH ps ow i).zip (shr (c.getD i 0+(yTo c ps ss ow y i).d) (aD ps ss i y) (aH ps ow i))),r.length=4:=fun r hr=>by
    obtain⟨p,_,rfl⟩:=zA5.mp hr;rfl
   rw[e1,e2,e3,e4]at zi;generalize bR ((aD ps ss i y++aH ps ow i).zip (shr (c.getD i 0+(yTo c ps ss ow y i).d) (aD ps ss i y) (aH ps ow i)))=GG at oC g4 gl zi⊢;generalize bh ((aD ps ss i y++aH ps ow i).zip (shr (c.getD i 0+(yTo c ps ss ow y i).d) (aD ps ss i y) (aH ps ow i)))=KK at wc kl zi⊢;dsimp only;refine aC (aR ?_);refine⟨_,rfl,_,rfl,g,ma,GG,rfl,NK,oC,g4,Zz,fun H5 s5=>⟨_,_,rfl,rfl,?_⟩⟩;refine aF ?_;dsimp only;have k5:=k4.trans s5;have Co:=Q3.trans s5;have WL:g≠lg:=(az (sH _ _ eg) ng).symm;have Q4:kk≠lg:=(az (sH _ _ eg) nk).symm;have NL:=Co _ _ eg;have Q5:=Co _ _ ek;have el5:=Co _ _ el;refine aC ?_;refine⟨_,rfl,_,rfl,lg,g,xg,ma,rfl,rfl,NL,s5 _ _ NK,by rw[elg.1,oC.1,sizeLine_eq];have:i*(80+ow.length)<=3*(80+ow.length):=Nat.mul_le_mul_right _ Zz;lia,?_⟩;dsimp only
   have Kn:∀b z,H5 b=some (.tup z)->upd H5 lg (.lst (xg++ma)) b=some (.tup z):=fun b z e=>by
    rw[au fun w=>by rw[w,NL]at e;cases e];exact e
   have k6:Same H (upd H5 lg (.lst (xg++ma))):=fun b o e=>by
    rw[au (az e QU)];exact k5 _ _ e
   have NM:=aa (H:=H5) (a:=lg) (o:=.lst (xg++ma));have Cs:=((elg.same Co).app (oC.same s5)).keep Kn;have Kt:upd H5 lg (.lst (xg++ma)) lk=some (.lst xk):=by rw[au NH.symm];exact Q5
   have Ct:upd H5 lg (.lst (xg++ma)) kk=some (.lst oB):=by rw[au Q4];exact s5 _ _ Kk
   have NN:upd H5 lg (.lst (xg++ma)) ll=some (.lst ((yTo c ps ss ow y i).l.map V.int)):=by rw[au NJ.symm];exact el5
   have me:=(cx.same Co).keep Kn;have rL:=(wc.same s5).keep Kn;generalize upd H5 lg (.lst (xg++ma))=H6 at k6 NM Cs Kt Ct NN me rL⊢;refine aC ?_;refine⟨_,rfl,_,rfl,lk,kk,xk,oB,rfl,rfl,Kt,Ct,by rw[cx.1,wc.1,sizeLine_eq];have:i*(80+ow.length)<=3*(80+ow.length):=Nat.mul_le_mul_right _ Zz;lia,?_⟩;dsimp only
   have NO:∀b z,H6 b=some (.tup z)->upd H6 lk (.lst (xk++oB)) b=some (.tup z):=fun b z e=>by
    rw[au fun w=>by rw[w,Kt]at e;cases e];exact e
   have k7:Same H (upd H6 lk (.lst (xk++oB))):=fun b o e=>by
    rw[au (az e vT)];exact k6 _ _ e
   have NQ:upd H6 lk (.lst (xk++oB)) lg=some (.lst (xg++ma)):=by rw[au NH];exact NM
   have CA:=Cs.keep NO;have NR:=aa (H:=H6) (a:=lk) (o:=.lst (xk++oB));have CB:=(me.app rL).keep NO;have we:upd H6 lk (.lst (xk++oB)) ll=some (.lst ((yTo c ps ss ow y i).l.map V.int)):=by rw[au NI.symm];exact NN
   generalize upd H6 lk (.lst (xk++oB))=H7 at k7 NQ CA NR CB we⊢;refine⟨_,rfl,.inl ⟨rfl,_,SqL.of we⟩,_,rfl,ll,_,_,rfl,rfl,we,by rw[zA1,QX,sizeLine_eq];lia,?_⟩
   have NS:∀{o:HO} b z,H7 b=some (.tup z)->upd H7 ll o b=some (.tup z):=fun b z e=>by
    rw[au fun w=>by rw[w,we]at e;cases e];exact e
   refine zi _ _ ⟨_,_,_,_,_,_,xg++ma,xk++oB,rfl,fun b o e=>?_,?_,CA.keep NS,?_,CB.keep NS,?_⟩
   .rw[au (az e JY)];exact k7 _ _ e
   .rw[au NJ];exact NQ
   .rw[au NI];exact NR
   .rw[aa,zA4];rfl
  .rintro σ Hc ⟨bq,cS,de,df,bX,cb,xg,xk,rfl,k,eg,elg,ek,cx,el⟩;obtain⟨Q6,Q7⟩:=y_row (c:=c) (ps:=ps) (ss:=ss) (ow:=ow) (y:=y) 3;have q:∀t g k tl xg xk H',Same H H'->H' t=some (.tup [.ref g,.ref k,.ref tl])->H g=none->H k=none->(g≠sysModules/\k≠sysModules)->H' g=some (.lst xg)->Els H' xg (srt (yTo c ps ss ow y 3).g)->H' k=some (.lst xk)->Els H' xk (srt (yTo c ps ss ow y 3).k)->H' tl=some (.tup ((yTo c ps ss ow y 3).l.map V.int))->Q (.ref t) H':=q;have elg:Els Hc xg (yTo c ps ss ow y 3).g:=elg;have cx:Els Hc xk (yTo c ps ss ow y 3).k:=cx;have el:Hc ll=some (.lst ((yTo c ps ss ow y 3).l.map V.int)):=el;obtain⟨ag,Q8,NT,NU⟩:=jU elg;obtain⟨ak,Q9,yT,NV⟩:=jU cx;subst Q8 Q9;dsimp only
   have nn:∀{rs:List (List Int)} {ads:List Addr},rs=ads.map (gY Hc)->(∀r∈rs,r.length=4)->∀a∈ads,gY Hc a≠[]:=fun{rs ads} h h4 a ha z=>by
    have:=h4 (gY Hc a) (by rw[h];exact List.mem_map_of_mem ha);rw[z]at this;cases this
   refine⟨_,rfl,lg,ag,gY Hc,rfl,SqL.of eg,fun a ha=>⟨SqT.of (NU a ha),nn NT Q6 a ha⟩,fun g l1 hg Kx KA Ra=>?_⟩;have sg:=Same.upd (o:=.lst (l1.map V.ref)) hg;refine⟨_,rfl,lk,ak,gY Hc,rfl,SqL.of (sg _ _ ek),fun a ha=>⟨SqT.of (sg _ _ (NV a ha)),nn yT Q7 a ha⟩,fun kk l2 hk EV CC zk=>?_⟩;have sk:=sg.updR (o:=.lst (l2.map V.ref)) hk;refine⟨_,rfl,ll,_,rfl,.inl ⟨SqL.of (sk _ _ el),fun tl EW=>?_⟩⟩;have sl:=sk.updR (o:=.tup ((yTo c ps ss ow y 3).l.map V.int)) EW;refine⟨zL,fun t ht=>?_⟩;have st:=sl.updR (o:=.tup [.ref g,.ref kk,.ref tl]) ht;have u1:=Same.upd (o:=.lst (l2.map V.ref)) hk;have u2:=Same.upd (o:=.tup ((yTo c ps ss ow y 3).l.map V.int)) EW;have u3:=Same.upd (o:=.tup [.ref g,.ref kk,.ref tl]) ht;have EX:l1.map (gY Hc)=srt (yTo c ps ss ow y 3).g:=gJ (by rw[NT];exact KA.map _) (List.pairwise_map.mpr Ra);have Rb:l2.map (gY Hc)=srt (yTo c ps ss ow y 3).k:=gJ (by rw[yT];exact CC.map _) (List.pairwise_map.mpr zk);refine q t g kk tl _ _ _ (k.trans st) aa (k.free hg) (k.free (sg.free hk)) ⟨Kx,EV⟩ (u3 _ _ (u2 _ _ (u1 _ _ aa))) ?_ (u3 _ _ (u2 _ _ aa)) ?_ (u3 _ _ aa)
   .rw[<-EX];exact Ca fun a ha=>st _ _ (NU a (KA.mem_iff.mp ha))
   .rw[<-Rb];exact Ca fun a ha=>st _ _ (NV a (CC.mem_iff.mp ha))
def cnt(ps ow:List (List Int)):Nat->Nat
 |0=>0
 |n+1=>cnt ps ow n+(aH ps ow n).length
theorem cnt_nil(ps:List (List Int)):∀n,cnt ps [] n=0
 |0=>rfl
 |n+1=>by
  unfold cnt;rw[cnt_nil ps n];rfl
theorem cnt_cons(ps ow:List (List Int))(r:List Int):∀n,cnt ps (r::ow) n=cnt ps ow n+(if 0<=fl (ps.getD (fl r 1).toNat []) 1/\fl (ps.getD (fl r 1).toNat []) 1<n then 1 else 0)
 |0=>by
  rw[zAv Zz];rfl
 |n+1=>by
  show cnt ps (r::ow) n+(aH ps (r::ow) n).length=cnt ps ow n+(aH ps ow n).length+_;rw[cnt_cons ps ow r n];unfold aH;by_cases h:fl (ps.getD (fl r 1).toNat []) 1=n
  .rw[zB4 (p:=fun(r:List Int)=>decide (fl (ps.getD (fl r 1).toNat []) 1=(n:Int))) (zAt h),zAe,zAv Zz,zAy Zz];lia
  .rw[zB7 (p:=fun(r:List Int)=>decide (fl (ps.getD (fl r 1).toNat []) 1=(n:Int))) (by rw[Zp];exact h)];by_cases h2:0<=fl (ps.getD (fl r 1).toNat []) 1/\fl (ps.getD (fl r 1).toNat []) 1<n
   .rw[zAy h2,zAy Zz];lia
   .rw[zAv h2,zAv Zz];lia
theorem Ce(ps:List (List Int))(n:Nat):∀ow:List (List Int),cnt ps ow n<=ow.length
 |[]=>by rw[cnt_nil];exact zA3 _
 |r::ow=>by
  rw[cnt_cons,zAe];have:=Ce ps n ow;split<;>lia
theorem Gb{c:List Int}{ps ss ow:List (List Int)}{y:Int}(hl:ps.length<=10):∀n,(yTo c ps ss ow y n).k.length<=80*n+cnt ps ow n
 |0=>zAp _
 |n+1=>by
  have a:=Gb (c:=c) (ss:=ss) (ow:=ow) (y:=y) hl n;have h1:=cA (ss:=ss) (sort:=n) (year:=y) hl;have h3:=oF ((aD ps ss n y++aH ps ow n).zip (shr (c.getD n 0+(yTo c ps ss ow y n).d) (aD ps ss n y) (aH ps ow n)));show((yTo c ps ss ow y n).k++bh _).length<=80*(n+1)+(cnt ps ow n+(aH ps ow n).length);rw[zA2];rw[zAs,zA2]at h3;lia
theorem JD{c:List Int}{ps ss ow:List (List Int)}{y:Int}(hu:un ps ss=none)(h5:∀s∈ss,s.length=5)(okp:∀r∈ps,okP r)(ho:∀r∈ow,okO ps r):∀n,∀r∈(yTo c ps ss ow y n).k,okO ps r
 |0,r,hr=>by cases hr
 |n+1,r,hr=>by
  rcases zA6.mp (show r∈(yTo c ps ss ow y n).k++bh _ from hr)with z|z
  .exact JD (c:=c) (y:=y) hu h5 okp ho n r z
  .obtain⟨p,hp,rfl⟩:=zA5.mp z;obtain⟨h1,h2⟩:=zAq.mp hp;have h2:=zB8 h2;have hm:p.1∈aD ps ss n y++aH ps ow n:=(List.of_mem_zip (show(p.1,p.2)∈_ from h1)).1
   have hn:0<=fl p.1 1/\fl p.1 1<ps.length:=by
    rcases zA6.mp hm with w|w
    .obtain⟨_,_,_,_,a,b⟩:=Ga (sort:=n) (year:=y) hu h5 okp ps.length (zA3 _) p.1 w;exact⟨a,b⟩
    .have:=gW ho p.1 w;exact⟨this.2.1,this.2.2.1⟩
   refine⟨rfl,hn.1,hn.2,?_⟩;show 1<=fl p.1 3-p.2;lia
def d9(cs ps ss:List (List Int)):Nat->List (List Int)
 |0=>[]
 |n+1=>srt (yTo (cs.getD n []) ps ss (d9 cs ps ss n) n 3).k
theorem ji{cs ps ss:List (List Int)}(hl:ps.length<=10)(hu:un ps ss=none)(h5:∀s∈ss,s.length=5)(okp:∀r∈ps,okP r):∀n,(∀r∈d9 cs ps ss n,okO ps r)/\(d9 cs ps ss n).length<=240*n
 |0=>⟨fun r hr=>(by cases hr),zA3 _⟩
 |n+1=>by
  obtain⟨a,b⟩:=ji (cs:=cs) hl hu h5 okp n;have pm:=List.mergeSort_perm (yTo (cs.getD n []) ps ss (d9 cs ps ss n) n 3).k rle;refine⟨fun r hr=>JD (c:=cs.getD n []) (y:=n) hu h5 okp a 3 r (pm.mem_iff.mp hr),?_⟩;show(srt (yTo (cs.getD n []) ps ss (d9 cs ps ss n) n 3).k).length<=_;unfold srt;rw[pm.length_eq];have:=Gb (c:=cs.getD n []) (ss:=ss) (ow:=d9 cs ps ss n) (y:=n) hl 3;have:=Ce ps 3 (d9 cs ps ss n);lia
def fY(cs ps ss:List (List Int))(j:Nat):Yr:=yTo (cs.getD j []) ps ss (d9 cs ps ss j) j 3
def YAt(H0:Hp)(l:Addr)(cs ps ss:List (List Int))(H:Hp)(a:Addr)(j:Nat):Prop:=∃g k tl xg xk,H a=some (.tup [.ref g,.ref k,.ref tl])/\H0 g=none/\H0 k=none/\g≠l/\k≠l/\H g=some (.lst xg)/\Els H xg (srt (fY cs ps ss j).g)/\H k=some (.lst xk)/\Els H xk (d9 cs ps ss (j+1))/\H tl=some (.tup ((fY cs ps ss j).l.map V.int))/\(g≠sysModules/\k≠sysModules)
theorem YAt.keep{H0 H H':Hp}{l a:Addr}{cs ps ss:List (List Int)}{j:Nat}(h:YAt H0 l cs ps ss H a j)(k:∀b o,b≠l->H b=some o->H' b=some o)(hl:∃xs,H l=some (.lst xs)):YAt H0 l cs ps ss H' a j:=by
 obtain⟨xs,hl⟩:=hl;obtain⟨g,kk,tl,xg,xk,e1,n1,n2,d1,d2,e2,e3,e4,e5,e6,e7⟩:=h
 have nt:∀b z,H b=some (.tup z)->b≠l:=fun b z e w=>by rw[w,hl]at e;cases e
 exact⟨g,kk,tl,xg,xk,k _ _ (nt _ _ e1) e1,n1,n2,d1,d2,k _ _ d1 e2,e3.keep fun b z e=>k _ _ (nt _ _ e) e,k _ _ d2 e4,e5.keep fun b z e=>k _ _ (nt _ _ e) e,k _ _ (nt _ _ e6) e6,e7⟩
inductive SpYearsI(vs:List V)(H:Hp)(Q:VK):Prop
 |mk:∀bk y ac xc cs ap xp ps af xs ss,(vs=[.ref bk,.int y])->(H bk=some (.tup [.ref ac,.ref ap,.ref af]))->(RowsAt H ac xc cs)->((∀r∈cs,r.length=3/\∀x∈r,0<=x))->(cs.length<=20)->(0<=y)->(y<cs.length)->(RowsAt H ap xp ps)->(ps.length<=10)->((∀r∈ps,okP r))->(RowsAt H af xs ss)->(ss.length<=12)->((∀s∈ss,s.length=5))->(un ps ss=none)->(∀l (ts:List Addr) H',Same H H'->H l=none->H' l=some (.lst (ts.map V.ref))->(ts.length:Int)=y+1->(∀j a,ts[j]?=some a->YAt H l cs ps ss H' a j)->Q (.ref l) H')->SpYearsI  vs H Q
def sO:Sp:=fun vs H Q _=>SpYearsI  vs H Q
theorem scYB:FnScope ["book","year","years","owed","at","gifts","left"] ["book","year"] (aJ (top 49)):=fS
theorem Cg(F:Fun K "years_given" "years_given" (top 49) f fd)(Tr:mg "range"=none)(c1:Cal P w K mg base 9 "year_given" ["book","year","owed"] Cd):FnOk P w K mg base CX0 10 f fd ["book","year"] sO:=by
 refine F.ok scYB (fun vs H Q E h=>?_) (fun ai A outer s H vs Q E hr h=>?_)
 .obtain⟨bk,y,ac,xc,cs,ap,xp,ps,af,xs,ss,rfl,_⟩:=h;rfl
 .obtain⟨bk,y,ac,xc,cs,ap,xp,ps,af,xs,ss,rfl,eb,rc,okc,lc,y0,y1,rp,lp,okp,rs,ls,h5,hu,q⟩:=h
  refine⟨_,aB (pss 2 scYB.nd (cQ aj))
   (aB (pss 3 scYB.nd (cQ aj))
   (aB (bN zB3 rfl (bU rfl Tr (aq (aU bO (pv 1) aA) aj)) (pgn 4 scYB.nd)
    (aB (cJ (aK c1 hr (aq (pv 0) (aq (pv 4) (aq (pv 3) aj)))) (bF rfl (ao (pgn 5 scYB.nd) (ao (pgn 3 scYB.nd) (ao (pgn 6 scYB.nd) aV)))))
    (aG (dC (lE zBb zBf zBe eQ (pv 2) (aq (bB (aq (pv 5) (aq (pv 3) (aq (pv 6) aj)))) aj))))))
   (aG (aQ (pv 2))))),?_⟩
  refine aC (aR ?_);refine⟨zL,fun l hl=>?_⟩;refine aF ?_;dsimp only;refine aC (aR ?_);refine⟨zL,fun KG fz=>?_⟩;refine aF ?_;dsimp only;have s1:=Same.upd (o:=.lst []) hl;have s2:=Same.upd (o:=.lst []) fz
  have Rc:KG≠l:=fun z=>by rw[z,aa]at fz;cases fz
  refine sJ (fun H1=>Same H H1/\H1 l=some (.lst [])/\H1 KG=some (.lst [])) ⟨s1.trans s2,s2 _ _ aa,aa⟩ fun H1 ⟨k1,el1,Rf⟩=>?_;refine aC ?_;refine⟨_,rfl,_,_,rfl,rfl,y+1,rfl,Zz,Zz,?_⟩;refine cP (lo:=0) (fun i σ Hc=>∃x4 x5 x6 lo xo,∃ts:List Addr,σ=[some (.ref bk),some (.int y),some (.ref l),some (.ref lo),x4,x5,x6]/\Same H Hc/\Hc l=some (.lst (ts.map V.ref))/\ts.length=i/\(∀j a,ts[j]?=some a->YAt H l cs ps ss Hc a j)/\lo≠l/\Hc lo=some (.lst xo)/\Els Hc xo (d9 cs ps ss i)) ?_ ?_ ?_
  .exact⟨none,none,none,KG,[],[],rfl,k1,el1,rfl,fun j a e=>(by simp at e),Rc,Rf,Els.nil⟩
  .rintro i σ Hc hi ⟨x4,x5,x6,lo,xo,ts,rfl,k,el,lt,hy,dl,eo,oo⟩;obtain⟨hU,KI⟩:=ji (cs:=cs) lp hu h5 okp i;refine aF ?_;have z0:(0:Int)+(i:Int)=i:=Zz
   rw[z0];refine aC ?_;refine⟨_,rfl,_,rfl,_,rfl,bk,i,lo,ac,xc,cs,ap,xp,ps,af,xs,ss,xo,d9 cs ps ss i,rfl,k _ _ eb,rc.same k,okc,Zz,Zz,rp.same k,lp,okp,rs.same k,ls,h5,hu,eo,oo,hU,Zz,fun t g kk tl xg xk H2 s2 et ng nk Kx eg elg ek cx CD=>?_⟩;rw[zAi]at elg cx CD;refine⟨t,_,rfl,SqT.of et,rfl,_,_,rfl,_,_,rfl,_,_,rfl,rfl,?_⟩;dsimp only;have k2:=k.trans s2;have el2:=s2 _ _ el;have dg:g≠l:=(az el ng).symm;have dk:kk≠l:=(az el nk).symm;refine⟨_,rfl,.inl ⟨rfl,_,SqL.of el2⟩,_,rfl,_,rfl,_,rfl,zL,fun tt EZ=>⟨l,_,_,rfl,rfl,Same.upd EZ _ _ el2,by rw[zA1,lt,sizeLine_eq];lia,?_⟩⟩;have s3:=Same.upd (o:=.tup [.ref g,.ref kk,.ref tl]) EZ
   have nt:tt≠l:=fun z=>by rw[z,el2]at EZ;cases EZ
   have kp:∀{o:HO} b u,b≠l->H2 b=some u->upd (upd H2 tt (.tup [.ref g,.ref kk,.ref tl])) l o b=some u:=fun b u n e=>by
    rw[au n];exact s3 _ _ e
   have ke:∀{o:HO} b z,H2 b=some (.tup z)->upd (upd H2 tt (.tup [.ref g,.ref kk,.ref tl])) l o b=some (.tup z):=fun b z e=>kp b _ (fun w=>by rw[w,el2]at e;cases e) e;refine⟨_,_,_,kk,xk,ts++[tt],rfl,fun b o e=>?_,?_,by rw[zA2,lt];rfl,fun j a e=>?_,dk,kp _ _ dk ek,cx.keep ke⟩
   .exact kp _ _ (az e hl) (k2 _ _ e)
   .rw[aa,zA4];rfl
   .by_cases hj:j<ts.length
    .rw[zBc hj]at e;exact(hy j a e).keep (fun b o n z=>kp _ _ n (s2 _ _ z)) ⟨_,el⟩
    .have kS:j=i:=by
      have:=(zAa.mp e).1;rw[zA2]at this;simp at this;lia
     subst kS;rw[zBd Zz,lt,Nat.sub_self]at e;cases e;exact⟨g,kk,tl,xg,xk,by rw[au nt];exact aa,k.free ng,k.free nk,dg,dk,kp _ _ dg eg,elg.keep ke,kp _ _ dk ek,cx.keep ke,ke _ _ CD,Kx⟩
  .rintro σ Hc ⟨x4,x5,x6,lo,xo,ts,rfl,k,el,lt,hy,dl,eo,oo⟩;exact⟨_,rfl,q l ts Hc k hl el (by rw[lt];lia) hy⟩
inductive SpRefBI(vs:List V)(H:Hp)(Q:VK):Prop
 |mk:∀S v d,(vs=[v])->(IsTh S H v d)->(sz d<=4000)->(o8 d=true)->(∀H',Same H H'->Q .non H')->SpRefBI  vs H Q
def Ci:Sp:=fun vs H Q _=>SpRefBI  vs H Q
inductive SpRefYI(vs:List V)(H:Hp)(Q:VK):Prop
 |mk:∀ac xc cs y,(vs=[.ref ac,.int y])->(RowsAt H ac xc cs)->(0<=y)->(y<cs.length)->(∀H',Same H H'->Q .non H')->SpRefYI  vs H Q
def Cj:Sp:=fun vs H Q _=>SpRefYI  vs H Q
theorem JF:FnScope ["thing","least","most"] ["thing","least","most"] (aJ (top 10)):=fS
theorem pI(F:Fun K "is_whole_from" "is_whole_from" (top 10) f fd)(c1:Cal P w K mg base 1 "is_whole" ["thing"] (spT dG)):FnOk P w K mg base CX0 2 f fd ["thing","least","most"] (lV pH):=by
 refine F.ok JF (fun vs H Q E h=>?_) (fun ai A outer s H vs Q E hr h=>?_)
 .obtain⟨S,v,d,n,m,rfl,_⟩:=h;rfl
 .obtain⟨S,v,d,n,m,rfl,th,hz,q⟩:=h;refine⟨_,aG (aQ (cO (aK c1 hr (aP (pv 0) aj)) (fG (dw cD cD (pv 1) (pv 0) (pv 2))))),?_⟩;refine⟨_,rfl,S,v,d,rfl,th,hz,fun H1 s1=>⟨_,rfl,?_⟩⟩;have fin:=q H1 s1;unfold pH at fin
  cases e:dG d with
  |false=>
   rw[e]at fin;exact bA fin
  |true=>
   rw[e]at fin;obtain⟨i,rfl,rfl⟩:=kY th e;exact bK (cY (fZ rfl) (fZ rfl) (fZ rfl) _ fin)
theorem JG:FnScope ["thing"] ["thing"] (aJ (top 33)):=fS
theorem Fi(F:Fun K "refuse_no_book" "refuse_no_book" (top 33) f fd)(c1:Cal P w K mg base 6 "is_book" ["thing"] (spT o8)):FnOk P w K mg base CX0 7 f fd ["thing"] Ci:=by
 refine F.ok JG (fun vs H Q E h=>?_) (fun ai A outer s H vs Q E hr h=>?_)
 .obtain⟨S,v,d,rfl,_⟩:=h;rfl
 .obtain⟨S,v,d,rfl,th,hz,hb,q⟩:=h;refine⟨_,aG (cU (dR (fU (aK c1 hr (aP (pv 0) aj)))) (aG jw) bz),?_⟩;refine⟨_,rfl,S,v,d,rfl,th,hz,fun H1 s1=>⟨_,rfl,?_⟩⟩;rw[hb];exact bA (q _ s1)
theorem JH:FnScope ["clips","year"] ["clips","year"] (aJ (top 50)):=fS
theorem Fj(F:Fun K "refuse_no_year_of" "refuse_no_year_of" (top 50) f fd)(T:Mg mg)(c1:Cal P w K mg base 2 "is_whole_from" ["thing","least","most"] (lV pH)):FnOk P w K mg base CX0 3 f fd ["clips","year"] Cj:=by
 refine F.ok JH (fun vs H Q E h=>?_) (fun ai A outer s H vs Q E hr h=>?_)
 .obtain⟨ac,xc,cs,y,rfl,_⟩:=h;rfl
 .obtain⟨ac,xc,cs,y,rfl,rc,y0,y1,q⟩:=h;refine⟨_,aG (cU (dR (fU (aK c1 hr (aq (pv 1) (aq aA (aq (aU dW (aM bZ rfl T.len PySem.boot_len (aq (pv 0) aj)) aA) aj)))))) (aG jw) bz),?_⟩;refine⟨_,rfl,_,rfl,ac,_,rfl,.inr (SqT.of rc.e),_,_,rfl,rfl,fun _=>False,.int y,.int y,0,_,rfl,.int _,(by show 1<=4000;decide),fun H1 s1=>⟨_,rfl,?_⟩⟩
  have e:pH (.int y) 0 ((xc.length:Int)-1)=true:=by
   show(true&&(decide (0<=y)&&decide (y<=(xc.length:Int)-1)))=true;rw[zAt y0,zAt (by rw[rc.l];lia)];rfl
  rw[e];exact bA (q _ s1)
structure BookAt(H:Hp)(bk ac:Addr)(xc:List V)(cs:List (List Int))(ap:Addr)(xp:List V)(ps:List (List Int))(af:Addr)(xs:List V)(ss:List (List Int)):Prop where
 e:H bk=some (.tup [.ref ac,.ref ap,.ref af])
 rc:RowsAt H ac xc cs
 okc:∀r∈cs,r.length=3/\∀x∈r,0<=x
 lc:cs.length<=20
 rp:RowsAt H ap xp ps
 lp:ps.length<=10
 okp:∀r∈ps,okP r
 rs:RowsAt H af xs ss
 ls:ss.length<=12
 h5:∀s∈ss,s.length=5
 un:un ps ss=none
theorem BookAt.same{H H':Hp}{bk ac:Addr}{xc:List V}{cs:List (List Int)}{ap:Addr}{xp:List V}{ps:List (List Int)}{af:Addr}{xs:List V}{ss:List (List Int)}(b:BookAt H bk ac xc cs ap xp ps af xs ss)(s:Same H H'):BookAt H' bk ac xc cs ap xp ps af xs ss:=
 ⟨s _ _ b.e,b.rc.same s,b.okc,b.lc,b.rp.same s,b.lp,b.okp,b.rs.same s,b.ls,b.h5,b.un⟩
def Ck(R:List (List Int)->List (List Int)->List (List Int)->Int->VK->Hp->Prop):Sp:=fun vs H Q _=>∃S bk y d ac xc cs ap xp ps af xs ss,vs=[.ref bk,.int y]/\IsTh S H (.ref bk) d/\sz d<=4000/\o8 d=true/\BookAt H bk ac xc cs ap xp ps af xs ss/\0<=y/\y<cs.length/\R cs ps ss y Q H
def JK:List (List Int)->List (List Int)->List (List Int)->Int->VK->Hp->Prop:=fun _ _ _ _ Q H=>∀H',Same H H'->Q .non H'
theorem JL:FnScope ["book","year"] ["book","year"] (aJ (top 51)):=fS
theorem Cm(F:Fun K "refuse_no_year" "refuse_no_year" (top 51) f fd)(c1:Cal P w K mg base 7 "refuse_no_book" ["thing"] Ci)(c2:Cal P w K mg base 3 "refuse_no_year_of" ["clips","year"] Cj):FnOk P w K mg base CX0 8 f fd ["book","year"] (Ck JK):=by
 refine F.ok JL (fun vs H Q E h=>?_) (fun ai A outer s H vs Q E hr h=>?_)
 .obtain⟨S,bk,y,d,ac,xc,cs,ap,xp,ps,af,xs,ss,rfl,_⟩:=h;rfl
 .obtain⟨S,bk,y,d,ac,xc,cs,ap,xp,ps,af,xs,ss,rfl,th,hz,hb,B,y0,y1,q⟩:=h;refine⟨_,aB (dC (aK c1 hr (aq (pv 0) aj))) (aG (dC (aK c2 hr (aq (pX bT (pv 0) aA) (aq (pv 1) aj))))),?_⟩;refine aC ?_;refine⟨_,rfl,S,_,d,rfl,th,hz,hb,fun H1 s1=>?_⟩;dsimp only;have B1:=B.same s1;exact⟨_,rfl,bk,_,0,.ref ac,rfl,rfl,SqT.of B1.e,rfl,_,rfl,ac,xc,cs,y,rfl,B1.rc,y0,y1,fun H2 s2=>q _ (s1.trans s2)⟩
def Ge:List (List Int)->List (List Int)->List (List Int)->Int->VK->Hp->Prop:=fun cs ps ss y Q H=>∀k xk H',Same H H'->H k=none->k≠sysModules->H' k=some (.lst xk)->Els H' xk (d9 cs ps ss (y.toNat+1))->Q (.ref k) H'
def Fl(R:List (List Int)->List (List Int)->List (List Int)->Int->VK->Hp->Prop):Sp:=fun vs H Q _=>∃bk y ac xc cs ap xp ps af xs ss,vs=[.ref bk,.int y]/\BookAt H bk ac xc cs ap xp ps af xs ss/\0<=y/\y<cs.length/\R cs ps ss y Q H
theorem scYF1:FnScope ["book","year","gifts","owed","left"] ["book","year"] (aJ (top 53)):=fS
theorem Cp(F:Fun K "owed_behind" "owed_behind" (top 53) f fd)(c2:Cal P w K mg base 10 "years_given" ["book","year"] sO):FnOk P w K mg base CX0 11 f fd ["book","year"] (Fl Ge):=by
 refine F.ok scYF1 (fun vs H Q E h=>?_) (fun ai A outer s H vs Q E hr h=>?_)
 .obtain⟨bk,y,ac,xc,cs,ap,xp,ps,af,xs,ss,rfl,_⟩:=h;rfl
 .obtain⟨bk,y,ac,xc,cs,ap,xp,ps,af,xs,ss,rfl,B,y0,y1,q⟩:=h
  refine⟨_,aB (cJ (pX bV (aK c2 hr (aq (pv 0) (aq (pv 1) aj))) (pv 1)) (bF rfl (ao (pgn 2 scYF1.nd) (ao (pgn 3 scYF1.nd) (ao (pgn 4 scYF1.nd) aV)))))
   (aG (aQ (pv 3))),?_⟩
  refine aC ?_;refine⟨_,rfl,_,rfl,bk,y,ac,xc,cs,ap,xp,ps,af,xs,ss,rfl,B.e,B.rc,B.okc,B.lc,y0,y1,B.rp,B.lp,B.okp,B.rs,B.ls,B.h5,B.un,fun l ts H2 s2 nl el lt hy=>?_⟩;have hl:y.toNat<ts.length:=Zz
  obtain⟨g,k,tl,xg,xk,e1,n1,n2,d1,d2,e2,e3,e4,e5,e6,e7⟩:=hy y.toNat ts[y.toNat] (zA0 hl)
  have gS:atI (ts.map V.ref) y=some (.ref ts[y.toNat]):=by
   have:(ts.map V.ref)[y.toNat]?=some (.ref ts[y.toNat]):=by rw[zAb,zA0 hl];rfl
   have:=du this;rw[show((y.toNat:Nat):Int)=y by lia]at this;exact this
  refine⟨_,rfl,l,_,y,.ref ts[y.toNat],rfl,rfl,SqL.of el,gS,ts[y.toNat],_,rfl,SqT.of e1,rfl,_,_,rfl,_,_,rfl,_,_,rfl,rfl,?_⟩;dsimp only;exact⟨_,rfl,q k xk H2 s2 n2 e7.2 e4 e5⟩
abbrev ky(n y:Int):List Key:=[.inl n,.inl y]
theorem lw{n y n' y':Int}(h:ky n y=ky n' y'):n=n'/\y=y':=by
 injection h with h1 h2;injection h2 with h2 _;injection h1 with h1;injection h2 with h2;exact⟨h1,h2⟩
def dom(ps:List (List Int))(n y:Int):Prop:=0<=n/\n<ps.length/\fl (ps.getD n.toNat []) 2<=y/\y<=fl (ps.getD n.toNat []) 3
def hl(ps ss:List (List Int))(n y:Int):List Int:=bM (ps.getD n.toNat []) ss n y
structure Lts(fo:Addr)(H0 H:Hp)(dm:Int->Int->Prop)(f:Int->Int->List Int)(Zs:List (List Key×V)):Prop where
 sm:Same H0 H
 nf:H0 fo=none
 e:H fo=some (.dT Zs)
 g:∀n y,dm n y->∃d,cV Zs (ky n y)=some (.ref d)/\H d=some (.lst ((f n y).map V.int))
 no:∀n y,¬dm n y->cV Zs (ky n y)=none
 i:∀n y n' y' d,cV Zs (ky n y)=some (.ref d)->cV Zs (ky n' y')=some (.ref d)->n=n'/\y=y'
 fr:∀n y d,cV Zs (ky n y)=some (.ref d)->H0 d=none/\d≠fo
 kd:(Zs.map (·.1)).Nodup
 kk:∀k∈Zs.map (·.1),∃n y,k=ky n y/\dm n y
theorem Fo{Zs:List (List Key×V)}{k:List Key}(h:cV Zs k=none):¬k∈Zs.map (·.1):=fun hk=>by
 obtain⟨p,hp,e⟩:=zA5.mp hk
 have:(cV Zs k).isSome=true:=by
  rw[<-dX,List.any_eq_true];exact⟨p,hp,zAt e⟩
 rw[h]at this;cases this
theorem Cq{Zs:List (List Key×V)}{k:List Key}{v:V}(hn:(Zs.map (·.1)).Nodup)(h:cV Zs k=none):((putK Zs k v).map (·.1)).Nodup:=by
 rw[jF _ h,zA4,List.nodup_append];refine⟨hn,Zy,fun a ha b hb z=>?_⟩;rw[List.mem_singleton.mp hb]at z;have z':a=k:=z;rw[z']at ha;exact Fo h ha
section
variable{fo:Addr}{H0 H H':Hp}{dm:Int->Int->Prop}{f f':Int->Int->List Int}{Zs:List (List Key×V)}
theorem Lts.same(g:Lts fo H0 H dm f Zs)(s:Same H H'):Lts fo H0 H' dm f Zs:=
 ⟨g.sm.trans s,g.nf,s _ _ g.e,fun n y h=>by
  obtain⟨d,e1,e2⟩:=g.g n y h
  exact⟨d,e1,s _ _ e2⟩,g.no,g.i,g.fr,g.kd,g.kk⟩
theorem Lts.wr{d:Addr}{N Y:Int}{L:List Int}(g:Lts fo H0 H dm f Zs)(hv:cV Zs (ky N Y)=some (.ref d))(h1:f' N Y=L)(h2:∀n y,dm n y->¬(n=N/\y=Y)->f' n y=f n y):Lts fo H0 (upd H d (.lst (L.map V.int))) dm f' Zs:=by
 obtain⟨w1,w2⟩:=g.fr _ _ _ hv;refine⟨fun c o e=>by rw[au (az e w1)];exact g.sm _ _ e,g.nf,by rw[au w2.symm];exact g.e,fun n y hd=>?_,g.no,g.i,g.fr,g.kd,g.kk⟩;by_cases hk:n=N/\y=Y
 .obtain⟨rfl,rfl⟩:=hk;exact⟨d,hv,by rw[aa,h1]⟩
 .obtain⟨d',q1,q2⟩:=g.g n y hd;have nd:d'≠d:=fun z=>hk (g.i _ _ _ _ _ (z▸q1) hv);exact⟨d',q1,by rw[au nd,h2 n y hd hk];exact q2⟩
theorem Lts.cast(g:Lts fo H0 H dm f Zs)(h:∀n y,dm n y->f' n y=f n y):Lts fo H0 H dm f' Zs:=
 ⟨g.sm,g.nf,g.e,fun n y hd=>by
  obtain⟨d,e1,e2⟩:=g.g n y hd
  exact⟨d,e1,by rw[h n y hd];exact e2⟩,g.no,g.i,g.fr,g.kd,g.kk⟩
theorem Lts.put{d:Addr}{N Y:Int}{L:List Int}{NW:Int->Int->Prop}(g:Lts fo H0 H dm f Zs)(sH:Same H H')(CF:H d=none)(ed:H' d=some (.lst (L.map V.int)))(hL:f N Y=L)(hn:¬dm N Y)(CH:∀n y,NW n y↔(dm n y\/(n=N/\y=Y))):Lts fo H0 (upd H' fo (.dT (putK Zs (ky N Y) (.ref d)))) NW f (putK Zs (ky N Y) (.ref d)):=by
 have NX:d≠fo:=fun z=>by rw[z,g.e]at CF;cases CF
 have kp:∀b o,b≠fo->H b=some o->upd H' fo (.dT (putK Zs (ky N Y) (.ref d))) b=some o:=fun b o n e=>by
  rw[au n];exact sH _ _ e
 have nn:=g.no N Y hn;refine⟨fun b o e=>kp b o (az e g.nf) (g.sm _ _ e),g.nf,aa,fun n y z=>?_,fun n y z=>?_,fun n y n' y' d' z z'=>?_,fun n y d' z=>?_,Cq g.kd nn,fun k hk=>?_⟩
 .by_cases hk:ky n y=ky N Y
  .obtain⟨rfl,rfl⟩:=lw hk;exact⟨d,by rw[iM,zAy rfl],by rw[au NX,hL];exact ed⟩
  .have hd:=((CH n y).mp z).resolve_right fun w=>hk (by rw[w.1,w.2]);obtain⟨d',q1,q2⟩:=g.g n y hd;exact⟨d',by rw[iM,zAv hk];exact q1,kp _ _ (g.fr n y d' q1).2 q2⟩
 .have hk:¬ky n y=ky N Y:=fun w=>z ((CH n y).mpr (.inr (lw w)));rw[iM,zAv hk];exact g.no n y fun w=>z ((CH n y).mpr (.inl w))
 .have key:∀{n y},cV Zs (ky n y)=some (.ref d)->False:=fun{n y} w=>by
   by_cases hd:dm n y
   .obtain⟨WM,q1,q2⟩:=g.g n y hd;rw[w]at q1;cases q1;rw[q2]at CF;cases CF
   .rw[g.no n y hd]at w;cases w
  rw[iM]at z z';by_cases h1:ky n y=ky N Y<;>by_cases h2:ky n' y'=ky N Y
  .obtain⟨rfl,rfl⟩:=lw h1;obtain⟨rfl,rfl⟩:=lw h2;exact⟨rfl,rfl⟩
  .rw[zAy h1]at z;rw[zAv h2]at z';cases z;exact(key z').elim
  .rw[zAv h1]at z;rw[zAy h2]at z';cases z';exact(key z).elim
  .rw[zAv h1]at z;rw[zAv h2]at z';exact g.i _ _ _ _ _ z z'
 .rw[iM]at z;by_cases h1:ky n y=ky N Y
  .rw[zAy h1]at z;cases z;exact⟨g.sm.free CF,NX⟩
  .rw[zAv h1]at z;exact g.fr n y d' z
 .rw[jF _ nn,zA4]at hk;rcases zA6.mp hk with z|z
  .obtain⟨n,y,a,b⟩:=g.kk k z;exact⟨n,y,a,(CH n y).mpr (.inl b)⟩
  .rw[List.mem_singleton.mp z];exact⟨N,Y,rfl,(CH N Y).mpr (.inr ⟨rfl,rfl⟩)⟩
end
inductive SpRowsI(vs:List V)(H:Hp)(Q:VK):Prop
 |mk:∀ap xp ps af xs ss,(vs=[.ref ap,.ref af])->(RowsAt H ap xp ps)->(ps.length<=10)->((∀r∈ps,okP r))->(RowsAt H af xs ss)->(ss.length<=100)->((∀s∈ss,s.length=5))->(∀t fo H',Same H H'->H' t=some (.tup [.ref fo,unV (un ps ss)])->(un ps ss=none->∃Zs,Lts fo H H' (dom ps) (hl ps ss) Zs)->Q (.ref t) H')->SpRowsI  vs H Q
def spRows:Sp:=fun vs H Q _=>SpRowsI  vs H Q
def Cr(p:List Int):List Int:=(List.range 8).map fun i=>fl p 4*(if((i:Nat):Int)=fl p 0 then 1 else 0)
theorem Fp{ps:List (List Int)}{n y:Int}(op:okP (ps.getD n.toNat []))(hy:fl (ps.getD n.toNat []) 2<=y/\y<=fl (ps.getD n.toNat []) 3):hl ps [] n y=Cr (ps.getD n.toNat []):=by
 unfold hl bM;rw[zAy hy];show base0 (ps.getD n.toNat [])=Cr _;generalize ps.getD n.toNat []=p at op;obtain⟨_,⟨a,b⟩,_⟩:=op;unfold base0 Cr
 obtain⟨h,eh⟩:∃h:Nat,fl p 0=h:=⟨(fl p 0).toNat,Zz⟩
 rw[eh,zAi];have hb:h<8:=Zz
 generalize fl p 4=k;have:h=0\/h=1\/h=2\/h=3\/h=4\/h=5\/h=6\/h=7:=Zz
 rcases this with rfl|rfl|rfl|rfl|rfl|rfl|rfl|rfl<;>simp[List.range_succ,List.replicate]
theorem sS(ps ss:List (List Int))(n y:Int):(hl ps ss n y).length=8:=eV _ _ _ _
theorem Fq{ps ss:List (List Int)}{s:List Int}{n y:Int}(hd:dom ps n y):hl ps (ss++[s]) n y=hstep n y (hl ps ss n y) s:=by
 unfold hl bM;rw[zAy hd.2.2,zAy hd.2.2,List.foldl_append];rfl
theorem holds_iff{ps sa:List (List Int)}{s:List Int}{n a b k y:Int}(ea:fl s 0=n)(eb:fl s 1=a)(ec:fl s 2=b)(ed:fl s 3=k)(ee:fl s 4=y):cM ps sa s=true↔(dom ps n y/\(0<=a/\a<8)/\(0<=b/\b<8)/\a≠b/\(1<=k/\k<=99))/\∀z,dom ps n z->y<=z->k<=(hl ps sa n z).getD a.toNat 0:=by
 have em:∀{u v z:Int},z∈years u v↔u<=z/\z<=v:=fun{u v z}=>by
  unfold years;rw[zA5];constructor
  .rintro⟨i,hi,rfl⟩;have:=List.mem_range.mp hi;lia
  .rintro⟨h1,h2⟩;exact⟨(z-u).toNat,List.mem_range.mpr Zz,Zz⟩
 unfold cM uC rZ;rw[ea,eb,ec,ed,ee];simp only[Bool.and_eq_true,Zp,Bool.not_eq_true',decide_eq_false_iff_not,List.all_eq_true];unfold dom;constructor
 .rintro⟨⟨h1,h2,h3,h4,h5,h6⟩,h7⟩;exact⟨⟨⟨h1.1,h1.2,h6.1,h6.2⟩,h2,h3,h4,h5⟩,fun z hz hy=>h7 z (em.mpr ⟨hy,hz.2.2.2⟩)⟩
 .rintro⟨⟨h1,h2,h3,h4,h5⟩,h7⟩
  exact⟨⟨⟨h1.1,h1.2.1⟩,h2,h3,h4,h5,h1.2.2⟩,fun z hz=>by
   obtain⟨q1,q2⟩:=em.mp hz
   exact h7 z ⟨h1.1,h1.2.1,Zz,q2⟩ q1⟩
def yk(n y:Int)(p:List Key×V):Option Int:=match p.1 with
 |[.inl n',.inl z]=>if n'=n/\y<=z then some z else none
 |_=>none
theorem qG:bootBuiltins "min"=some (.builtin "min"):=by decide +kernel
theorem zm:bootBuiltins "max"=some (.builtin "max"):=by decide +kernel
theorem KD:(["_law_one","_law_sacks","_law_holder"]:List Str).Nodup:=by decide +kernel
theorem JM:(["_law_number_of","_law_one","_law_number","_law_year"]:List Str).Nodup:=by decide +kernel
theorem KH:(["_law_one","_law_rows_here","_law_number","_law_seller"]:List Str).Nodup:=by decide +kernel
theorem scX:FnScope ["_law_promises","_law_sales","_law_rows_here","_law_number","_law_holder","_law_sort","_law_first","_law_last","_law_sacks","_law_price","_law_year","_law_at","_law_seller","_law_buyer","_law_years_here","_law_least","_law_one"] ["_law_promises","_law_sales"] (aJ (top 63)):=fS
theorem Ft(F:Fun K "_law_rows" "_law_rows" (top 63) f fd)(T:Mg mg)(Te:mg "enumerate"=none)(Tr:mg "range"=none)(Tn:mg "min"=none)(Tm:mg "max"=none):FnOk P w K mg base CX0 1 f fd ["_law_promises","_law_sales"] spRows:=by
 refine F.ok scX (fun vs H Q E h=>?_) (fun ai A outer s H vs Q E hr h=>?_)
 .obtain⟨ap,xp,ps,af,xs,ss,rfl,_⟩:=h;rfl
 .obtain⟨ap,xp,ps,af,xs,ss,rfl,rp,lp,okp,rs,ls,h5,q⟩:=h
  refine K31P.ok_b (aN (vd (i:=2) scX.nd rfl (Or.inr rfl) ⟨u6⟩)
   (aN ⟨bN zB3 rfl (ZT.pi_enum true rfl Te (aq (pv 0) aj)) (bF rfl (ao (bj (i:=3) scX.nd rfl (Or.inr rfl)) (ao (bF rfl (ao (bj (i:=4) scX.nd rfl (Or.inr rfl)) (ao (pgn 5 scX.nd) (ao (pgn 6 scX.nd)
     (ao (pgn 7 scX.nd) (ao (bj (i:=8) scX.nd rfl (Or.inr rfl)) (ao (pgn 9 scX.nd) aV))))))) aV)))
    (gj (bQ ⟨bN zB3 rfl (pM rfl Tr (aq (pv 6) (aq (aU bO (pv 7) aA) aj))) (bj (i:=10) scX.nd rfl (Or.inr rfl))
     (gj (bQ ⟨wu (fM hr) (pv 2) (bB (aq (pv 3) (aq (pv 10) aj))) (bx ["_law_one","_law_sacks","_law_holder"] [none,some 8,some 4] rfl (bU rfl Tr (aq aA aj)) (fun C fp Zt s₂ H₂=>⟨pgn 0 KD,bI,aU gB (pv 1) (cR yt rfl T.int boot_int (aq (jy iI (pv 0) (pv 2) (bu _)) aj))⟩) (fun C=>cI (cI trivial)) ⟨rfl,rfl,rfl,rfl⟩) rfl⟩))⟩))⟩
   (aN ⟨bN zB3 rfl (ZT.pi_enum true rfl Te (aq (pv 1) aj)) (bF rfl (ao (pgn 11 scX.nd) (ao (bF rfl (ao (bj (i:=3) scX.nd rfl (Or.inr rfl)) (ao (bj (i:=12) scX.nd rfl (Or.inr rfl)) (ao (pgn 13 scX.nd)
     (ao (bj (i:=8) scX.nd rfl (Or.inr rfl)) (ao (bj (i:=10) scX.nd rfl (Or.inr rfl)) aV)))))) aV)))
    (gj (aN ⟨cU (PW.pt (vR (bf iI (pv 12) (pv 13) (bu _)) (vR (bf jf (aM (fQ rfl) rfl Tn qG (aq (pv 12) (aq (pv 13) aj))) aA (bu _)) (vR (bf jx (aM (j8 rfl) rfl Tm zm (aq (pv 12) (aq (pv 13) aj))) aA (bu _)) (Aa (zZ (yF (fM hr) (bB (aq (pv 3) (aq (pv 10) aj))) (pv 2)))))))) (aG (aQ (bB (aq (pv 2) (aq (pv 11) aj))))) bz⟩
    (aN ⟨Hq (gh (i:=14) (g:=jY K 2 (cz (bH 0) (cz (bH 1) lN))) ["_law_number_of","_law_one","_law_number","_law_year"] [none,none,some 3,some 10] rfl scX.nd rfl (Or.inl rfl) (rQ (pv 2)) (fun C fp Zt s₂ H₂=>⟨dZ rfl rfl (ao (pgn 0 JM) (ao (pgn 1 JM) aV)),dM (PW.pt (qR (bf iI (pv 0) (pv 2) (bu _)) (lZ (bf Ag (pv 1) (pv 3) (bu _))))),pv 1⟩) (fun C=>cI (cI trivial)) ⟨rfl,rfl,rfl,rfl⟩)⟩
    (aN (gF 15 scX.nd ⟨aM (p8 rfl) rfl Tn qG (aP (bx ["_law_one","_law_rows_here","_law_number","_law_seller"] [none,some 2,some 3,some 12] rfl (bL (pv 14)) (fun C fp Zt s₂ H₂=>⟨pgn 0 KH,bI,pX (iW (K:=K) rfl) (dY (fM hr) (pv 1) (bB (aq (pv 2) (aq (pv 0) aj))) (fun _ _=>rfl)) (pv 3)⟩) (fun C=>cI (cI (cI trivial))) ⟨rfl,rfl,rfl,rfl⟩) aj)⟩)
    (aN ⟨cU (PW.pt (vR (dR (mV cD cD aA (pv 8) aA)) (Aa (bf jf (pv 15) (pv 8) (bu _))))) (aG (aQ (bB (aq (pv 2) (aq (pv 11) aj))))) bz⟩
    (bQ ⟨bN zB3 rfl (bL (pv 14)) (pgn 16 scX.nd)
     (gj (aN ⟨cJ (aU dW (pX bV (dY (fM hr) (pv 2) (bB (aq (pv 3) (aq (pv 16) aj))) (fun _ _=>rfl)) (pv 12)) (pv 8)) (ie (dY (fM hr) (pv 2) (bB (aq (pv 3) (aq (pv 16) aj))) (fun _ _=>rfl)) (pv 12) set_list)⟩
     (bQ ⟨cJ (aU bO (pX bV (dY (fM hr) (pv 2) (bB (aq (pv 3) (aq (pv 16) aj))) (fun _ _=>rfl)) (pv 13)) (pv 8)) (ie (dY (fM hr) (pv 2) (bB (aq (pv 3) (aq (pv 16) aj))) (fun _ _=>rfl)) (pv 13) set_list)⟩)))⟩))))))⟩
   (bQ (rG ⟨bB (aq (pv 2) (aq qP aj))⟩))))) ?_
  refine aC (aR ?_);refine fun fo NY=>?_;refine aF ?_;dsimp only
  have d0:Lts fo H (upd H fo (.dT [])) (fun _ _=>False) (hl ps []) []:=⟨Same.upd NY,NY,aa,fun _ _ z=>z.elim,fun _ _ _=>rfl,fun _ _ _ _ _ z=>(by cases z),fun _ _ _ z=>(by cases z),List.nodup_nil,fun k hk=>(by cases hk)⟩
  generalize upd H fo (.dT [])=H1 at d0⊢;refine aC ?_;refine⟨_,rfl,ap,xp,rfl,SqT.of (d0.sm _ _ rp.e),?_⟩;refine ZT.for_enum true (xs:=xp) (fun i σ Hc=>∃x3 x4 x5 x6 x7 x8 x9 bq cS de df bX cb fq Zs,σ=[some (.ref ap),some (.ref af),some (.ref fo),x3,x4,x5,x6,x7,x8,x9,bq,cS,de,df,bX,cb,fq]/\Lts fo H Hc (fun n y=>dom ps n y/\n<i) (hl ps []) Zs/\Zs.length<=20*i) ?_ ?_ ?_ ?_
  .exact⟨none,none,none,none,none,none,none,none,none,none,none,none,none,none,[],rfl,⟨d0.sm,d0.nf,d0.e,fun n y z=>by
    have:=z.1.1;have:=z.2
    lia,fun n y _=>rfl,d0.i,d0.fr,d0.kd,fun k hk=>(by cases hk)⟩,zA3 _⟩
  .rintro i σ Hc hi ⟨x3,x4,x5,x6,x7,x8,x9,bq,cS,de,df,bX,cb,fq,Zs,rfl,dt,lk⟩;exact SqT.of (dt.sm _ _ rp.e)
  .rintro i x σ Hc T0 hx ⟨x3,x4,x5,x6,x7,x8,x9,bq,cS,de,df,bX,cb,fq,Zs,rfl,dt,lk⟩ nT
   have hi:i<ps.length:=by
    have:=(zAa.mp hx).1;rw[rp.l]at this;exact this
   obtain⟨tr,fk,eI⟩:=rp.g i ps[i] (zA0 hi)
   have:x=.ref tr:=by
    rw[hx]at fk;exact zAl fk
   subst this;have op:=okp ps[i] (zAh hi)
   have ep:ps.getD ((i:Int)).toNat []=ps[i]:=by
    rw[zAi];exact getD_get hi
   have dT:=dt.same (Same.upd (o:=.tup [V.int i,V.ref tr]) nT);generalize WN:ps[i]=p at eI op ep;have iL:=dT.sm _ _ eI;rw[six_row op.1]at iL;have Rg:=op;obtain⟨_,⟨a1,a2⟩,_,⟨c1,c2,c3⟩,⟨e1,e2⟩,_⟩:=op;refine⟨T0,_,rfl,SqT.of aa,rfl,_,_,rfl,_,_,rfl,?_⟩;refine⟨tr,_,rfl,SqT.of iL,rfl,_,_,rfl,_,_,rfl,_,_,rfl,_,_,rfl,_,_,rfl,_,_,rfl,rfl,rfl,?_⟩;refine lq fun De oD=>?_;refine⟨_,rfl,_,rfl,_,_,rfl,rfl,fl p 2,fl p 3+1,rfl,⟨Zz,Zz,Zz,Zz⟩,?_⟩;generalize upd Hc T0 (.tup [V.int i,V.ref tr])=H2 at dT⊢;refine cP (lo:=fl p 2) (n:=(fl p 3+1-fl p 2).toNat) (fun j σ Hj=>∃bq Zs,σ=[some (.ref ap),some (.ref af),some (.ref fo),some (.int i),some (.int (fl p 0)),some (.int (fl p 1)),some (.int (fl p 2)),some (.int (fl p 3)),some (.int (fl p 4)),some (.int (fl p 5)),bq,cS,de,df,bX,cb,fq]/\Lts fo H Hj (fun n y=>dom ps n y/\(n<i\/(n=i/\y<fl p 2+j))) (hl ps []) Zs/\Zs.length<=20*i+j) ?_ ?_ ?_
   .refine⟨bq,Zs,rfl,⟨dT.sm,dT.nf,dT.e,fun n y z=>dT.g n y ⟨z.1,?_⟩,fun n y z=>dT.no n y fun z'=>z ⟨z'.1,.inl z'.2⟩,dT.i,dT.fr,dT.kd,fun k hk=>?_⟩,lk⟩
    .rcases z.2 with z2|⟨z2,z3⟩
     .exact z2
     .obtain⟨_,_,w1,_⟩:=z.1;rw[z2,ep]at w1;lia
    .obtain⟨n,y,a,b⟩:=dT.kk k hk;exact⟨n,y,a,b.1,.inl b.2⟩
   .rintro j σ Hj hj ⟨bq,Zs,rfl,dj,lj⟩;refine aF ?_;refine lq fun KL kP=>?_;refine⟨8,rfl,by decide,by decide,comp_gen 8 (fun i ys σ Hc=>Hc=Hj/\(∃o1,σ=[o1,some (.int (fl p 4)),some (.int (fl p 0))])/\ys=(((List.range i).map fun i=>fl p 4*(if((i:Nat):Int)=fl p 0 then 1 else 0)):List Int).map V.int) ⟨rfl,⟨_,rfl⟩,rfl⟩ (by rw[sizeLine_eq];decide) ?_ ?_⟩
    .rintro i' ys σ Hc dQ hy ⟨rfl,⟨o1,rfl⟩,rfl⟩;refine⟨dQ,fun v H' y' R hR=>?_⟩;obtain⟨rfl,rfl⟩:=y';refine aF ?_;have z0:(0:Int)+(i':Int)=i':=Zz
     rw[z0];refine⟨_,rfl,_,rfl,_,rfl,rfl,.inr ⟨_,rfl,_,_,rfl,rfl,.inl ⟨Zz,Zz⟩,hR _ _ _ ⟨rfl,⟨_,rfl⟩,?_⟩⟩⟩;rw[List.range_succ,zA4,zA4];congr 1;show[V.int _]=[V.int _];congr 2;dsimp only;by_cases hh:(i':Int)=fl p 0
     .rw[zAy hh,zAt (by rw[hh])];rfl
     .rw[zAv hh,zB0 (fun z=>hh (by injection z))];rfl
    rintro ys σ Hc hy ⟨rfl,_,rfl⟩;refine⟨zA3 _,fun d hd=>?_⟩;have ud:=Same.upd (o:=.lst ((Cr p).map V.int)) hd;have ed:=aa (H:=Hc) (a:=d) (o:=.lst ((Cr p).map V.int));refine⟨_,rfl,_,rfl,_,rfl,zL,fun t ht=>⟨fo,_,rfl,DPut.t (k:=ky i (fl p 2+j)) (Same.upd ht _ _ (ud _ _ dj.e)) aa Zu,?_⟩⟩;have u2:=ud.updR (o:=.tup [V.int i,V.int (fl p 2+j)]) ht
    refine kP _ _ ⟨_,_,rfl,dj.put u2 hd (Same.upd ht _ _ ed) (Fp (by rw[ep];exact Rg) (by rw[ep];lia) |>.trans (by rw[ep])) (fun z=>by
     rcases z.2 with z2|⟨z2,z3⟩<;>lia) (fun n y=>⟨fun z=>?_,fun z=>?_⟩),?_⟩
    .rcases z.2 with z2|⟨z2,z3⟩
     .exact .inl ⟨z.1,.inl z2⟩
     .by_cases mM:y=fl p 2+j
      .exact .inr ⟨z2,mM⟩
      .exact .inl ⟨z.1,.inr ⟨z2,Zz⟩⟩
    .rcases z with z|⟨rfl,rfl⟩
     .exact⟨z.1,z.2.imp id fun w=>⟨w.1,Zz⟩⟩
     .exact⟨⟨Zz,Zz,by rw[ep];lia,by rw[ep];lia⟩,.inr ⟨rfl,Zz⟩⟩
    .rw[jF _ (dj.no _ _ fun z=>by rcases z.2 with z2|⟨z2,z3⟩<;>lia),zA2];show Zs.length+1<=20*i+(j+1);lia
   .rintro σ Hj ⟨bq,Zs,rfl,dj,lj⟩;refine oD _ _ ⟨_,_,_,_,_,_,_,_,_,_,_,_,_,_,Zs,rfl,⟨dj.sm,dj.nf,dj.e,fun n y z=>dj.g n y ⟨z.1,?_⟩,fun n y z=>dj.no n y fun z'=>z ⟨z'.1,?_⟩,dj.i,dj.fr,dj.kd,fun k hk=>?_⟩,Zz⟩
    .by_cases hn:n<i
     .exact .inl hn
     .have NZ:n=i:=Zz
      refine .inr ⟨NZ,?_⟩;obtain⟨_,_,_,w⟩:=z.1;rw[NZ,ep]at w;lia
    .rcases z'.2 with w|⟨w,_⟩<;>lia
    .obtain⟨n,y,a,b⟩:=dj.kk k hk;refine⟨n,y,a,b.1,?_⟩;rcases b.2 with w|⟨w,_⟩<;>lia
  rintro σ Hc ⟨x3,x4,x5,x6,x7,x8,x9,bq,cS,de,df,bX,cb,fq,kvs0,rfl,dt,lk⟩
  have KO:Lts fo H Hc (dom ps) (hl ps []) kvs0:=⟨dt.sm,dt.nf,dt.e,fun n y z=>dt.g n y ⟨z,by rw[rp.l];exact z.2.1⟩,fun n y z=>dt.no n y fun w=>z w.1,dt.i,dt.fr,dt.kd,fun k hk=>by
   obtain⟨n,y,a,b⟩:=dt.kk k hk
   exact⟨n,y,a,b.1⟩⟩
  have WO:kvs0.length<=200:=by
   rw[rp.l]at lk;lia
  clear dt lk d0;dsimp only;refine aC ?_;refine⟨_,rfl,af,xs,rfl,SqT.of (KO.sm _ _ rs.e),?_⟩;refine ZT.for_enum true (xs:=xs) (fun i σ Hc=>∃x3 x4 x5 x6 x7 x8 x9 bq cS de df bX cb fq,σ=[some (.ref ap),some (.ref af),some (.ref fo),x3,x4,x5,x6,x7,x8,x9,bq,cS,de,df,bX,cb,fq]/\Lts fo H Hc (dom ps) (hl ps (ss.take i)) kvs0/\∀j,j<i->cM ps (ss.take j) (ss.getD j [])=true) ?_ ?_ ?_ ?_
  .exact⟨_,_,_,_,_,_,_,_,_,_,_,_,_,_,rfl,by rw[List.take_zero];exact KO,fun j hj=>Zz⟩
  .rintro i σ Hc hi ⟨x3,x4,x5,x6,x7,x8,x9,bq,cS,de,df,bX,cb,fq,rfl,dt,hh⟩;exact SqT.of (dt.sm _ _ rs.e)
  .clear KO;rintro i x σ Hc T0 hx ⟨x3,x4,x5,x6,x7,x8,x9,bq,cS,de,df,bX,cb,fq,rfl,dt,hh⟩ nT
   have hi:i<ss.length:=by
    have:=(zAa.mp hx).1;rw[rs.l]at this;exact this
   obtain⟨tr,fk,eI⟩:=rs.g i ss[i] (zA0 hi)
   have:x=.ref tr:=by
    rw[hx]at fk;exact zAl fk
   subst this;have eg:ss.getD i []=ss[i]:=getD_get hi
   have bP:ss.take (i+1)=ss.take i++[ss[i]]:=by
    rw[zAj,zA0 hi];rfl
   have l5:=h5 _ (zAh hi);have dT:=dt.same (Same.upd (o:=.tup [V.int i,V.ref tr]) nT);have iL:=dT.sm _ _ eI;generalize Nv:ss[i]=s at eg bP l5 iL;generalize Rh:ss.take i=sa at dT bP;have hH:cM ps sa s=cM ps (ss.take i) (ss.getD i []):=by rw[Rh,eg]
   obtain⟨n,ea⟩:∃n,fl s 0=n:=⟨_,rfl⟩
   obtain⟨a,eb⟩:∃n,fl s 1=n:=⟨_,rfl⟩
   obtain⟨b,ec⟩:∃n,fl s 2=n:=⟨_,rfl⟩
   obtain⟨k,ed⟩:∃n,fl s 3=n:=⟨_,rfl⟩
   obtain⟨y,ee⟩:∃n,fl s 4=n:=⟨_,rfl⟩
   have N3:upd Hc T0 (.tup [V.int i,V.ref tr]) tr=some (.tup [.int n,.int a,.int b,.int k,.int y]):=by
    rw[iL,jR l5,ea,eb,ec,ed,ee];rfl
   refine⟨T0,_,rfl,SqT.of aa,rfl,_,_,rfl,_,_,rfl,?_⟩;refine⟨tr,_,rfl,SqT.of N3,rfl,_,_,rfl,_,_,rfl,_,_,rfl,_,_,rfl,_,_,rfl,rfl,rfl,?_⟩;generalize upd Hc T0 (.tup [V.int i,V.ref tr])=H2 at dT⊢;clear dt nT iL N3 eI
   have bad:∀{Hd:Hp},Same H Hd->cM ps sa s=false->∀t,Hd t=none->Q (.ref t) (upd Hd t (.tup [.ref fo,.int i])):=fun{Hd} sd hf t ht=>by
    have eu:un ps ss=some i:=xf hh hi (by rw[<-hH];exact hf);refine q t fo _ (sd.updR ht) (by rw[aa,eu];rfl) fun z=>?_;rw[eu]at z;cases z
   have N4:=holds_iff (ps:=ps) (sa:=sa) ea eb ec ed ee
   have hV:¬((dom ps n y/\(0<=a/\a<8)/\(0<=b/\b<8)/\a≠b/\(1<=k/\k<=99))/\∀z,dom ps n z->y<=z->k<=(hl ps sa n z).getD a.toNat 0)->cM ps sa s=false:=fun h=>by
    cases z:cM ps sa s with
    |false=>rfl
    |true=>exact absurd (N4.mp z) h
   refine aC ?_;refine⟨_,rfl,_,rfl,rfl,_,rfl,?_⟩;by_cases E3:a=b
   .rw[zAt (by rw[E3])];exact bK (bK ⟨_,rfl,_,rfl,zL,fun t ht=>bad dT.sm (hV fun h=>h.1.2.2.2.1 E3) t ht⟩)
   rw[zB0 (fun z=>E3 (by injection z))];refine bA ⟨_,rfl,_,rfl,_,_,rfl,_,_,rfl,rfl,_,rfl,?_⟩;by_cases mf:(if b<a then b else a)<0
   .rw[zAt mf];refine bK (bK ⟨_,rfl,_,rfl,zL,fun t ht=>bad dT.sm (hV fun h=>?_) t ht⟩);have:=h.1.2.1;have:=h.1.2.2.1;split at mf<;>lia
   rw[zB0 mf];refine bA ⟨_,rfl,_,rfl,_,_,rfl,_,_,rfl,rfl,_,rfl,?_⟩;by_cases fI:(if b>a then b else a)>7
   .rw[zAt fI];refine bK (bK ⟨_,rfl,_,rfl,zL,fun t ht=>bad dT.sm (hV fun h=>?_) t ht⟩);have:=h.1.2.1;have:=h.1.2.2.1;split at fI<;>lia
   rw[zB0 fI];have ha:0<=a/\a<8:=by split at mf<;>split at fI<;>lia
   have hb:0<=b/\b<8:=by split at mf<;>split at fI<;>lia
   refine bA ⟨_,rfl,_,rfl,zL,fun tk mE=>?_⟩;have dK:=dT.same (Same.upd (o:=.tup [V.int n,V.int y]) mE);refine⟨_,rfl,fo,_,rfl,DGet.t (k:=ky n y) dK.e aa,_,rfl,?_⟩;generalize upd H2 tk (.tup [V.int n,V.int y])=H3 at dK⊢;by_cases hd:¬dom ps n y
   .rw[dK.no n y hd];exact bK ⟨_,rfl,_,rfl,zL,fun t ht=>bad dK.sm (hV fun h=>hd h.1.1) t ht⟩
   have hd:=Classical.not_not.mp hd;obtain⟨d1,v1,_⟩:=dK.g n y hd;rw[v1];refine bA (eF ?_);dsimp only;clear v1 dT mE;refine aC ?_;refine⟨fo,kvs0,dK.e,fun ob=>?_⟩;have ez:=aa (H:=H3) (a:=fo) (o:=.frz ob (.dT kvs0))
   have kz:∀b u,b≠fo->H3 b=some u->upd H3 fo (.frz ob (.dT kvs0)) b=some u:=fun b u n e=>by
    rw[au n];exact e
   generalize upd H3 fo (.frz ob (.dT kvs0))=Hz at ez kz⊢;refine⟨_,rfl,fo,ob,_,rfl,ez,cZ kvs0.length (fun j ys σ Hd=>Same Hz Hd/\(∃o1 o2,σ=[o1,o2,some (.int n),some (.int y)])/\ys=((kvs0.take j).filterMap (yk n y)).map V.int) ⟨Same.refl _,⟨_,_,rfl⟩,rfl⟩ Zu ?_ ?_⟩
   .rintro j ys σ Hd hj hy ⟨sd,⟨o1,o2,rfl⟩,rfl⟩;refine⟨⟨sd _ _ ez,hj⟩,fun x H' yv R hR=>?_⟩;obtain⟨rfl,bb,kk,vv,rfl,rS,iN⟩:=yv;obtain⟨n',z',rfl,wm⟩:=dK.kk kk (zA5.mpr ⟨(kk,vv),zB5 rS,rfl⟩);have iN:H' bb=some (.tup [.int n',.int z']):=iN
    have KP:(kvs0.take (j+1)).filterMap (yk n y)=(kvs0.take j).filterMap (yk n y)++(if n'=n/\y<=z' then[z']else[]):=by
     rw[zAj,rS,List.filterMap_append];congr 1;have e0:yk n y (ky n' z',vv)=if n'=n/\y<=z' then some z' else none:=rfl;show[(ky n' z',vv)].filterMap (yk n y)=_;rw[List.filterMap_cons,e0];by_cases hc:n'=n/\y<=z'
     .rw[zAy hc,zAy hc];rfl
     .rw[zAv hc,zAv hc];rfl
    refine⟨bb,_,rfl,SqT.of iN,rfl,_,_,rfl,_,_,rfl,rfl,?_⟩;refine⟨_,rfl,_,rfl,rfl,_,rfl,?_⟩;by_cases h1:n'=n
    .rw[zAt (by rw[h1])];refine bK ⟨_,rfl,_,rfl,_,_,rfl,rfl,_,rfl,?_⟩;by_cases h2:z'≥y
     .rw[zAt h2];refine bK ⟨_,rfl,hR _ _ _ (by rw[zA2];show _+1<=j+1;lia) ⟨sd,⟨_,_,rfl⟩,?_⟩⟩;rw[KP,zAy ⟨h1,h2⟩,zA4];rfl
     .rw[zB0 h2];refine bA (hR _ _ _ Zz ⟨sd,⟨_,_,rfl⟩,?_⟩);rw[KP,zAv (fun w=>h2 w.2),zAn]
    .rw[zB0 (fun z=>h1 (by injection z))];refine bA (bA (hR _ _ _ Zz ⟨sd,⟨_,_,rfl⟩,?_⟩));rw[KP,zAv (fun w=>h1 w.1),zAn]
   rintro ys σ Hd hy ⟨sd,_,rfl⟩;rw[zAm];refine⟨⟨sd _ _ ez,zA3 _⟩,fun Ly oI=>⟨Same.upd oI _ _ (sd _ _ ez),?_⟩⟩
   obtain⟨zs,CI⟩:∃zs,zs=kvs0.filterMap (yk n y):=⟨_,rfl⟩
   have wo:∀z,z∈zs↔dom ps n z/\y<=z:=fun z=>by
    rw[CI,List.mem_filterMap];constructor
    .rintro⟨⟨kk,vv⟩,hp,e⟩;obtain⟨n',z',rfl,wm⟩:=dK.kk kk (zA5.mpr ⟨_,hp,rfl⟩);have e:(if n'=n/\y<=z' then some z' else none)=some z:=e;by_cases hc:n'=n/\y<=z'
     .rw[zAy hc]at e;cases e;obtain⟨rfl,h2⟩:=hc;exact⟨wm,h2⟩
     .rw[zAv hc]at e;cases e
    .rintro⟨h1,h2⟩;obtain⟨d,v,_⟩:=dK.g n z h1
     have:(ky n z)∈kvs0.map (·.1):=by
      have hs:(cV kvs0 (ky n z)).isSome=true:=by rw[v];rfl
      rw[<-dX,List.any_eq_true]at hs;obtain⟨p,hp,e⟩:=hs;exact zA5.mpr ⟨p,hp,zB8 e⟩
     obtain⟨p,hp,e⟩:=zA5.mp this;refine⟨p,hp,?_⟩;unfold yk;rw[show p.1=ky n z from e];show(if n=n/\y<=z then some z else none)=some z;rw[zAy ⟨rfl,h2⟩]
   have KS:zs.Nodup:=by
    rw[CI]
    have:∀{l:List (List Key×V)},(l.map (·.1)).Nodup->(∀k∈l.map (·.1),∃n y,k=ky n y)->(l.filterMap (yk n y)).Nodup:=fun{l}=>by
     induction l with
     |nil=>exact fun _ _=>List.nodup_nil
     |cons p l ih=>
      intro nd kk;rw[zAk,List.nodup_cons]at nd
      have i1:=ih nd.2 fun k hk=>kk k (zA5.mpr (by
       obtain⟨q,hq,e⟩:=zA5.mp hk
       exact⟨q,.tail _ hq,e⟩))
      rw[List.filterMap_cons];obtain⟨n',z',e'⟩:=kk p.1 (zA5.mpr ⟨p,.head _,rfl⟩)
      cases e:yk n y p with
      |none=>exact i1
      |some z=>
       refine List.nodup_cons.mpr ⟨fun hm=>?_,i1⟩;obtain⟨q,hq,eq⟩:=List.mem_filterMap.mp hm;obtain⟨n2,z2,e2⟩:=kk q.1 (zA5.mpr ⟨q,.tail _ hq,rfl⟩)
       have key:∀{r:List Key×V} {n3 z3 z:Int},r.1=ky n3 z3->yk n y r=some z->n3=n/\z3=z:=fun{r n3 z3 z} h1 h2=>by
        unfold yk at h2;rw[h1]at h2;have h2:(if n3=n/\y<=z3 then some z3 else none)=some z:=h2;by_cases hc:n3=n/\y<=z3
        .rw[zAy hc]at h2;cases h2;exact⟨hc.1,rfl⟩
        .rw[zAv hc]at h2;cases h2
       obtain⟨w1,w2⟩:=key e' e;obtain⟨w3,w4⟩:=key e2 eq;exact nd.1 (zA5.mpr ⟨q,hq,by show q.1=p.1;rw[e',e2,w1,w2,w3,w4]⟩)
    exact this dK.kd fun k hk=>by
     obtain⟨n,y,a,_⟩:=dK.kk k hk;exact⟨n,y,a⟩
   have WQ:zs.length<=200:=by
    rw[CI];have:=List.length_filterMap_le (yk n y) kvs0;lia
   rw[<-CI]
   have nD:Ly≠fo:=fun z=>by rw[z,sd _ _ ez]at oI;cases oI
   have S6:Same H3 (upd (upd Hd Ly (.lst (zs.map V.int))) fo (.dT kvs0)):=fun b u e=>by
    by_cases zo:b=fo
    .subst zo;rw[dK.e]at e;cases e;exact aa
    .rw[au zo];exact Same.upd oI _ _ (sd _ _ (kz _ _ zo e))
   have wq:upd (upd Hd Ly (.lst (zs.map V.int))) fo (.dT kvs0) Ly=some (.lst (zs.map V.int)):=by rw[au nD];exact aa
   have d6:=dK.same S6
   have Ri:H Ly=none:=by
    cases z:H Ly with
    |none=>rfl
    |some o=>
     by_cases zo:Ly=fo
     .exact absurd zo nD
     .rw[sd _ _ (kz _ _ zo (dK.sm _ _ z))]at oI;cases oI
   have KU:∀m z d,cV kvs0 (ky m z)=some (.ref d)->d≠Ly:=fun m z d hv w=>by
    by_cases hm:dom ps m z
    .obtain⟨d',q1,q2⟩:=dK.g m z hm;rw[hv]at q1;cases q1;rw[w]at q2;rw[sd _ _ (kz _ _ nD q2)]at oI;cases oI
    .rw[dK.no m z hm]at hv;cases hv
   generalize upd (upd Hd Ly (.lst (zs.map V.int))) fo (.dT kvs0)=H6 at S6 wq d6⊢;clear S6 dK oI sd ez kz hy CI;dsimp only;refine aC (aR ?_);refine⟨_,rfl,Ly,rfl,⟨_,SqL.of wq⟩,comp_gen zs.length (fun j ys σ Hc=>Same H6 Hc/\(∃o1,σ=[o1,some (.ref fo),some (.int n),some (.int a)])/\ys=(((zs.take j).map fun z=>(hl ps sa n z).getD a.toNat 0):List Int).map V.int) ⟨Same.refl _,⟨_,rfl⟩,rfl⟩ Zu ?_ ?_⟩
   .rintro j ys σ Hc hj hy ⟨sc,⟨o1,rfl⟩,rfl⟩;have ex:(zs.map V.int)[j]?=some (.int zs[j]):=by rw[zAb,zA0 hj];rfl
    refine⟨⟨_,_,SqL.of (sc _ _ wq),ex⟩,fun v H' y' R hR=>?_⟩;obtain⟨rfl,y'⟩:=y';have hv:=y' _ (SqL.of (sc _ _ wq));rw[ex]at hv;cases hv;refine aF ?_;obtain⟨wm,_⟩:=(wo zs[j]).mp (zAh hj);obtain⟨d,v1,v2⟩:=(d6.same sc).g n zs[j] wm;refine⟨_,rfl,_,rfl,_,rfl,zL,fun tk mE=>?_⟩;have u:=Same.upd (o:=.tup [V.int n,V.int zs[j]]) mE
    have gS:atI ((hl ps sa n zs[j]).map V.int) a=some (.int ((hl ps sa n zs[j]).getD a.toNat 0)):=by
     have ET:=sS ps sa n zs[j]
     have:((hl ps sa n zs[j]).map V.int)[a.toNat]?=some (.int ((hl ps sa n zs[j]).getD a.toNat 0)):=by
      rw[zAb,zA7,zA0 Zz];rfl
     have:=du this;rw[show((a.toNat:Nat):Int)=a by lia]at this;exact this
    refine⟨fo,.ref d,rfl,v1▸DGet.t (k:=ky n zs[j]) (u _ _ (sc _ _ d6.e)) aa,_,rfl,d,_,a,_,rfl,rfl,SqL.of (u _ _ v2),gS,hR _ _ _ ⟨sc.updR mE,⟨_,rfl⟩,?_⟩⟩;rw[zAj,zA0 hj,zA4,zA4];rfl
   rintro ys σ Hc hy ⟨sc,_,rfl⟩;rw[zAm];refine⟨⟨_,SqL.of (sc _ _ wq),by rw[zA1];exact zA3 _⟩,fun D hD=>⟨D,_,rfl,SqL.of aa,?_,fun M hM Rj=>aF ?_⟩⟩
   .have:=(wo y).mpr ⟨hd,Int.le_refl _⟩;intro z;rw[List.map_eq_nil_iff]at z;rw[z]at this;cases this
   have d7:=(d6.same sc).same (Same.upd (o:=.lst (((zs.map fun z=>(hl ps sa n z).getD a.toNat 0):List Int).map V.int)) hD);have wt:=Same.upd (o:=.lst (((zs.map fun z=>(hl ps sa n z).getD a.toNat 0):List Int).map V.int)) hD _ _ (sc _ _ wq);generalize upd Hc D (.lst (((zs.map fun z=>(hl ps sa n z).getD a.toNat 0):List Int).map V.int))=H7 at d7 wt⊢;clear d6 sc hD wq hy;dsimp only;refine aC ?_;refine cY (p:=fun i j=>decide (i<=j)) (q:=fun i j=>decide (i<=j)) (i:=1) (j:=k) (k:=99) iu (fZ rfl) iu _ ⟨_,rfl,?_⟩;dsimp only
   cases ek:(decide (1<=k)&&decide (k<=99))with
   |false=>
    refine bK (bK ⟨_,rfl,_,rfl,zL,fun t ht=>bad d7.sm (hV fun h=>?_) t ht⟩);rw[zAt h.1.2.2.2.2.1,zAt h.1.2.2.2.2.2]at ek;cases ek
   |true=>
   obtain⟨k1,k2⟩:=Bool.and_eq_true_iff.mp ek;have k1:=zB8 k1;have k2:=zB8 k2;refine bA ⟨_,rfl,_,rfl,_,_,rfl,rfl,_,rfl,?_⟩;by_cases N5:M<k
   .rw[zAt N5];refine bK ⟨_,rfl,_,rfl,zL,fun t ht=>bad d7.sm (hV fun h=>?_) t ht⟩;obtain⟨z,hz,rfl⟩:=zA5.mp hM;have:=h.2 z ((wo z).mp hz).1 ((wo z).mp hz).2;lia
   rw[decide_eq_false N5];refine bA (eF ?_);dsimp only
   have good:cM ps sa s=true:=N4.mpr ⟨⟨hd,ha,hb,E3,k1,k2⟩,fun z h1 h2=>by
    have:=Rj _ (zA5.mpr ⟨z,(wo z).mpr ⟨h1,h2⟩,rfl⟩)
    lia⟩
   clear bad hV
   have WR:∀(j:Nat),∃fm:Int->Int->List Int,fm=fun n' z'=>if n'=n/\z'∈zs.take j then hstep n z' (hl ps sa n z') s else hl ps sa n' z':=fun j=>⟨_,rfl⟩
   refine⟨_,rfl,Ly,rfl,⟨_,SqL.of wt⟩,?_⟩;refine fj (xs:=zs.map V.int) (fun j σ Hd=>∃fq,σ=[some (.ref ap),some (.ref af),some (.ref fo),some (.int n),x4,x5,x6,x7,some (.int k),x9,some (.int y),some (.int i),some (.int a),some (.int b),some (.ref Ly),some (.int M),fq]/\Lts fo H Hd (dom ps) (fun n' z'=>if n'=n/\z'∈zs.take j then hstep n z' (hl ps sa n z') s else hl ps sa n' z') kvs0/\Hd Ly=some (.lst (zs.map V.int))) ?_ ?_ ?_ ?_
   .refine⟨_,rfl,d7.cast fun n' z' _=>?_,wt⟩;rw[List.take_zero,zAv (fun w=>by cases w.2)]
   .rintro j σ Hd hj ⟨fq,rfl,dj,eL⟩;exact SqL.of eL
   .rintro j v σ Hd hv ⟨fq,rfl,dj,eL⟩
    have hj:j<zs.length:=by
     have:=(zAa.mp hv).1;rw[zA1]at this;exact this
    have ev:v=.int zs[j]:=by
     rw[zAb,zA0 hj]at hv;exact(zAl hv).symm
    subst ev;obtain⟨wm,N6⟩:=(wo zs[j]).mp (zAh hj)
    have N7:¬(zs[j]∈zs.take j):=fun hm=>by
     obtain⟨j',kS,e⟩:=List.getElem_of_mem hm;rw[zAd]at kS;rw[List.getElem_take]at e;exact List.pairwise_iff_getElem.mp KS j' j Zz hj Zz e
    generalize hz:zs[j]=z at wm N6 N7⊢
    obtain⟨L,KW⟩:∃L,L=hl ps sa n z:=⟨_,rfl⟩
    have l8:L.length=8:=by rw[KW];exact sS _ _ _ _
    obtain⟨d,v1,v2⟩:=dj.g n z wm;rw[zAv (fun w=>N7 w.2),<-KW]at v2;have N8:=KU n z d v1
    have y8:∀{c:Int} {L:List Int},L.length=8->0<=c/\c<8->ixN (L.map V.int).length c=some c.toNat/\atI (L.map V.int) c=some (.int (L.getD c.toNat 0)):=fun{c L} l8 hc=>by
     refine⟨?_,?_⟩
     .unfold ixN;rw[zA1,l8,zAy hc.1,zAy Zz]
     .have:(L.map V.int)[c.toNat]?=some (.int (L.getD c.toNat 0)):=by
       rw[zAb,zA7,zA0 Zz];rfl
      have:=du this;rw[show((c.toNat:Nat):Int)=c by lia]at this;exact this
    refine aF ?_;refine lq fun De oD=>?_;refine aC (aR ?_);refine⟨_,rfl,_,rfl,_,rfl,zL,fun t1 h1=>?_⟩;have w1:=Same.upd (o:=.tup [V.int n,V.int z]) h1;refine⟨fo,.ref d,rfl,v1▸DGet.t (k:=ky n z) (w1 _ _ dj.e) aa,_,rfl,d,_,a,_,rfl,rfl,SqL.of (w1 _ _ v2),(y8 l8 ha).2,_,rfl,_,_,rfl,rfl,?_⟩;have d1:=dj.same w1;have K0:=w1 _ _ v2;have K2:=w1 _ _ eL;generalize upd Hd t1 (.tup [V.int n,V.int z])=Ha at d1 K0 K2⊢;refine⟨_,rfl,_,rfl,_,rfl,zL,fun t2 h2=>?_⟩;have w2:=Same.upd (o:=.tup [V.int n,V.int z]) h2;refine⟨fo,.ref d,rfl,v1▸DGet.t (k:=ky n z) (w2 _ _ d1.e) aa,_,rfl,d,_,a,_,rfl,rfl,w2 _ _ K0,(y8 l8 ha).1,?_⟩;have d2:=d1.same w2;have Lc:=w2 _ _ K2;generalize upd Ha t2 (.tup [V.int n,V.int z])=Hb at d2 Lc⊢;rw[show(L.map V.int).set a.toNat (.int (L.getD a.toNat 0-k))=(dJ L a (-k)).map V.int by unfold dJ;rw[List.map_set];rfl]
    obtain⟨L1,wx⟩:∃L1,L1=dJ L a (-k):=⟨_,rfl⟩
    rw[<-wx];have N9:L1.length=8:=by rw[wx,fX];exact l8
    have d3:=d2.wr (f':=fun n' z'=>if n'=n/\z'=z then L1 else if n'=n/\z'∈zs.take j then hstep n z' (hl ps sa n z') s else hl ps sa n' z') (L:=L1) v1 (by rw[zAy ⟨rfl,rfl⟩]) fun n' z' _ fE=>by rw[zAv fE]
    have e3:=aa (H:=Hb) (a:=d) (o:=.lst (L1.map V.int));have Oa:upd Hb d (.lst (L1.map V.int)) Ly=some (.lst (zs.map V.int)):=by rw[au N8.symm];exact Lc
    generalize upd Hb d (.lst (L1.map V.int))=Hc at d3 e3 Oa⊢;clear d1 d2 K0 K2 Lc w1 w2 h1 h2 dj v2 eL;dsimp only;refine aR ?_;refine⟨_,rfl,_,rfl,_,rfl,zL,fun t1 h1=>?_⟩;have w1:=Same.upd (o:=.tup [V.int n,V.int z]) h1;refine⟨fo,.ref d,rfl,v1▸DGet.t (k:=ky n z) (w1 _ _ d3.e) aa,_,rfl,d,_,b,_,rfl,rfl,SqL.of (w1 _ _ e3),(y8 N9 hb).2,_,rfl,_,_,rfl,rfl,?_⟩;have d4:=d3.same w1;have e4:=w1 _ _ e3;have Ob:=w1 _ _ Oa;generalize upd Hc t1 (.tup [V.int n,V.int z])=Ha at d4 e4 Ob⊢;refine⟨_,rfl,_,rfl,_,rfl,zL,fun t2 h2=>?_⟩;have w2:=Same.upd (o:=.tup [V.int n,V.int z]) h2;refine⟨fo,.ref d,rfl,v1▸DGet.t (k:=ky n z) (w2 _ _ d4.e) aa,_,rfl,d,_,b,_,rfl,rfl,w2 _ _ e4,(y8 N9 hb).1,?_⟩;have d5:=d4.same w2;have Oc:=w2 _ _ Ob;generalize upd Ha t2 (.tup [V.int n,V.int z])=Hb at d5 Oc⊢;rw[show(L1.map V.int).set b.toNat (.int (L1.getD b.toNat 0+k))=(dJ L1 b k).map V.int by unfold dJ;rw[List.map_set]]
    have hs:hstep n z L s=dJ L1 b k:=by
     unfold hstep;rw[ea,eb,ec,ed,ee,zAy ⟨rfl,N6⟩,wx]
    refine oD _ _ ⟨_,rfl,d5.wr (L:=dJ L1 b k) v1 ?_ fun n' z' _ fE=>?_,by rw[au N8.symm];exact Oc⟩
    .rw[zAy ⟨rfl,by rw[zAj,zA0 hj,hz];exact zA6.mpr (.inr (.head _))⟩,<-hs,KW]
    .rw[zAv fE]
     have:(n'=n/\z'∈zs.take (j+1))↔(n'=n/\z'∈zs.take j):=by
      rw[zAj,zA0 hj,hz];constructor
      .rintro⟨g1,g2⟩;refine⟨g1,?_⟩;rcases zA6.mp g2 with w|w
       .exact w
       .exact absurd ⟨g1,List.mem_singleton.mp w⟩ fE
      .rintro⟨g1,g2⟩;exact⟨g1,zA6.mpr (.inl g2)⟩
     by_cases hc:n'=n/\z'∈zs.take j
     .rw[zAy hc,zAy (this.mpr hc)]
     .rw[zAv hc,zAv fun w=>hc (this.mp w)]
   .rintro σ Hd ⟨fq,rfl,dj,eL⟩;rw[zA1,zAm]at dj;refine⟨_,_,_,_,_,_,_,_,_,_,_,_,_,_,rfl,dj.cast fun n' z' D4=>?_,fun j' kS=>?_⟩
    .rw[bP,Fq D4];by_cases hc:n'=n/\z'∈zs
     .obtain⟨rfl,hc⟩:=hc;rw[zAy ⟨rfl,hc⟩]
     .rw[zAv hc];unfold hstep;rw[ea,ee,zAv fun w=>hc ⟨w.1.symm,(wo z').mpr ⟨by rw[w.1];exact D4,w.2⟩⟩]
    .by_cases ax:j'<i
     .exact hh j' ax
     .have:j'=i:=Zz
      rw[this,<-hH];exact good
  rintro σ Hc ⟨x3,x4,x5,x6,x7,x8,x9,bq,cS,de,df,bX,cb,fq,rfl,dt,hh⟩;have hu:un ps ss=none:=xj fun j hj=>hh j (by rw[rs.l];exact hj);dsimp only;refine⟨_,rfl,zL,fun t ht=>?_⟩
  refine q t fo _ (dt.sm.updR ht) (by rw[aa,hu];rfl) fun _=>⟨kvs0,?_⟩
  have:=dt.same (Same.upd (o:=.tup [V.ref fo,V.non]) ht);rw[rs.l,zAm]at this;exact this
end K31
namespace K31Q
open PySem L2 K31P
def okC(r:List Int):Prop:=r.length=3/\∀x∈r,0<=x/\x<1000
def smR(s:List Int):Prop:=s.length=5/\∀i∈s,-10<=i/\i<=2000000
inductive SpClipsI(vs:List V)(H:Hp)(Q:VK):Prop
 |mk:∀st n,(vs=[.ref st,.int n])->(StAt H st)->(1<=n)->(n<=20)->(∀ac xc cs H',Dr st H H'->K31.RowsAt H' ac xc cs->1<=cs.length->(cs.length:Int)<=n->(∀r∈cs,okC r)->Q (.ref ac) H')->SpClipsI  vs H Q
def xM:Sp:=fun vs H Q _=>SpClipsI  vs H Q
inductive SpPromI(vs:List V)(H:Hp)(Q:VK):Prop
 |mk:∀st y,(vs=[.ref st,.int y])->(StAt H st)->(0<=y)->(y<=1000)->(∀t r H',Dr st H H'->H' t=some (.tup (r.map V.int))->K31.okP r->Q (.ref t) H')->SpPromI  vs H Q
def Cu:Sp:=fun vs H Q _=>SpPromI  vs H Q
inductive SpSaleI(vs:List V)(H:Hp)(Q:VK):Prop
 |mk:∀st ap xp ps,(vs=[.ref st,.ref ap])->(StAt H st)->(K31.RowsAt H ap xp ps)->(ps.length<=10)->((∀r∈ps,K31.okP r))->(∀t s H',Dr st H H'->H' t=some (.tup (s.map V.int))->smR s->Q (.ref t) H')->SpSaleI  vs H Q
def Cv:Sp:=fun vs H Q _=>SpSaleI  vs H Q
inductive SpBookI(vs:List V)(H:Hp)(Q:VK):Prop
 |mk:∀(st:Addr) (y m:Int),(vs=[.ref st,.int y,.int m])->(StAt H st)->(1<=y)->(y<=20)->(0<=m)->(m<=10)->(∀a ac xc cs ap xp ps af xs ss H',Dr st H H'->H' a=some (.tup [.ref ac,.ref ap,.ref af])->K31.RowsAt H' ac xc cs->1<=cs.length->(cs.length:Int)<=y->(∀r∈cs,okC r)->K31.RowsAt H' ap xp ps->(ps.length:Int)<=m->(∀r∈ps,K31.okP r)->K31.RowsAt H' af xs ss->ss.length<=6->(∀s∈ss,smR s)->K31.un ps ss=none->Q (.ref a) H')->SpBookI  vs H Q
def spBook:Sp:=fun vs H Q _=>SpBookI  vs H Q
theorem _root_.K31P.Dr.new{st p:Addr}{o:HO}{H H1:Hp}(g:Dr st H H1)(hp:H1 p=none):Dr st H (upd H1 p o):=g.same (Same.upd hp)
theorem _root_.K31P.Dr.rows{st a:Addr}{H H':Hp}{xs:List V}{rs:List (List Int)}(g:Dr st H H')(h0:StAt H st)(r:K31.RowsAt H a xs rs):K31.RowsAt H' a xs rs:=r.keep (g.tups h0)
theorem j5{X:Cx}{i j k:Int}{a b c p q r pos}:BE X (.List [.Constant (.int i) a p,.Constant (.int j) b q,.Constant (.int k) c r] pos) (DY (G8 [i,j,k])):=⟨cQ (mz (.cons (.cons (.cons .nil))))⟩
section
variable{P:Program}{w:World}{K:Frag}{mg:Str->Option Value}{base:Heap}{f:Addr}{fd:FuncData}
theorem ndC:(["_law_year","_law_state_here","_law_wide"]:List Str).Nodup:=by decide +kernel
theorem scC:FnScope ["_law_state_here","_law_most","_law_wide","_law_many"] ["_law_state_here","_law_most"] (aJ (top 67)):=fS
theorem ok_clips(F:Fun K "_law_clips" "_law_clips" (top 67) f fd)(T:Mg mg)(Tr:mg "range"=none)(c1:Cal P w K mg base 1 "_law_choice" ["_law_state_here","_law_many"] spChoice):FnOk P w K mg base CX0 2 f fd ["_law_state_here","_law_most"] xM:=by
 refine F.ok scC (fun vs H Q E h=>?_) (fun ai A outer s H vs Q E hr h=>?_)
 .obtain⟨st,n,rfl,_⟩:=h;rfl
 .obtain⟨st,n,rfl,gz,n0,n1,q⟩:=h
  refine ok_b (aN (vd (i:=2) scC.nd rfl (Or.inr rfl) (Ax bV (rF (fu j5 (fu j5 (fu j5 (fu j5 (fu j5 fH)))))) ⟨aK c1 hr (aq (pv 0) (aq aA aj))⟩ (fun _ _=>rfl)))
   (aN ⟨pss 3 scC.nd (aU bO aA (aK c1 hr (aq (pv 0) (aq (pv 1) aj))))⟩
   (bQ ⟨aQ (cR cj rfl T.tuple boot_tuple (aq (bx ["_law_year","_law_state_here","_law_wide"] [none,some 0,some 2] rfl (bU rfl Tr (aq (pv 3) aj))
    (fun C fp Zt s₂ H₂=>⟨pgn 0 ndC,bI,cR (o9 (K:=K) rfl) rfl T.tuple boot_tuple (aq
     (bx ["_law_one","_law_state_here"] [none,some 1] rfl (By (K:=K) rfl (pv 2)) (fun C fp Zt s₂ H₂=>⟨bj (i:=0) (nd2 _ _ Zx) rfl (Or.inl rfl),bI,aK c1 hr (aq (pv 1) (aq (pv 0) aj))⟩)
      (fun C=>cI trivial) ⟨rfl,rfl,rfl,rfl⟩) aj)⟩)
    (fun C=>cI (cI trivial)) ⟨rfl,rfl,rfl,rfl⟩) aj))⟩))) ?_
  refine aC (aR ?_);refine⟨zL,fun l1 h1=>⟨zL,fun l2 h2=>⟨zL,fun l3 h3=>⟨zL,fun l4 h4=>⟨zL,fun l5 h5=>⟨zL,fun L hL=>?_⟩⟩⟩⟩⟩⟩;have m1:=Same.upd (o:=.lst (([3,3,3]:List Int).map V.int)) h1;have m2:=Same.upd (o:=.lst (([12,30,30]:List Int).map V.int)) h2;have m3:=Same.upd (o:=.lst (([60,3,200]:List Int).map V.int)) h3;have m4:=Same.upd (o:=.lst (([1,1,1]:List Int).map V.int)) h4;have m5:=Same.upd (o:=.lst (([1000,1000,1000]:List Int).map V.int)) h5;have m6:=Same.upd (o:=.lst [V.ref l1,V.ref l2,V.ref l3,V.ref l4,V.ref l5]) hL;have f5:=m6 _ _ (aa (a:=l5) (o:=.lst (([1000,1000,1000]:List Int).map V.int)));have f4:=m6 _ _ (m5 _ _ (aa (a:=l4) (o:=.lst (([1,1,1]:List Int).map V.int))));have f3:=m6 _ _ (m5 _ _ (m4 _ _ (aa (a:=l3) (o:=.lst (([60,3,200]:List Int).map V.int)))));have f2:=m6 _ _ (m5 _ _ (m4 _ _ (m3 _ _ (aa (a:=l2) (o:=.lst (([12,30,30]:List Int).map V.int))))));have f1:=m6 _ _ (m5 _ _ (m4 _ _ (m3 _ _ (m2 _ _ (aa (a:=l1) (o:=.lst (([3,3,3]:List Int).map V.int)))))));have ms:=m1.trans (m2.trans (m3.trans (m4.trans (m5.trans m6))));have fL:upd (upd (upd (upd (upd (upd H l1 (.lst (([3,3,3]:List Int).map V.int))) l2 (.lst (([12,30,30]:List Int).map V.int))) l3 (.lst (([60,3,200]:List Int).map V.int))) l4 (.lst (([1,1,1]:List Int).map V.int))) l5 (.lst (([1000,1000,1000]:List Int).map V.int))) L (.lst [V.ref l1,V.ref l2,V.ref l3,V.ref l4,V.ref l5]) L=some (.lst [V.ref l1,V.ref l2,V.ref l3,V.ref l4,V.ref l5]):=aa
  have old:∀b o,H b=some o->b≠l1/\b≠l2/\b≠l3/\b≠l4/\b≠l5/\b≠L:=fun b o e=>⟨az e h1,az (m1 _ _ e) h2,az (m2 _ _ (m1 _ _ e)) h3,az (m3 _ _ (m2 _ _ (m1 _ _ e))) h4,az (m4 _ _ (m3 _ _ (m2 _ _ (m1 _ _ e)))) h5,az (m5 _ _ (m4 _ _ (m3 _ _ (m2 _ _ (m1 _ _ e))))) hL⟩
  obtain⟨a0,b0,c0,Rk,_⟩:=id gz;obtain⟨v1,v2,v3,v4,v5,v6⟩:=old _ _ Rk;generalize upd (upd (upd (upd (upd (upd H l1 _) l2 _) l3 _) l4 _) l5 _) L _=H1 at f1 f2 f3 f4 f5 fL ms⊢;clear m1 m2 m3 m4 m5 m6 h1 h2 h3 h4 h5 hL old
  have w9:StAt H1 st:=by
   obtain⟨a,b,c,e,h⟩:=gz;exact⟨a,b,c,ms _ _ e,h⟩
  have g1:Dr st H H1:=⟨fun b o e _=>ms _ _ e,w9⟩
  refine⟨_,rfl,st,5,rfl,w9,by decide,by decide,fun r a b c r0 r1 a0 b0 b1=>?_⟩
  have CL:∃wd ws,([V.ref l1,V.ref l2,V.ref l3,V.ref l4,V.ref l5]:List V)[r.toNat]?=some (.ref wd)/\H1 wd=some (.lst ((ws:List Int).map V.int))/\wd≠st/\ws.length=3/\∀x∈ws,1<=x/\x<=1000:=by
   have:r.toNat=0\/r.toNat=1\/r.toNat=2\/r.toNat=3\/r.toNat=4:=Zz
   rcases this with z|z|z|z|z<;>rw[z]
   .exact⟨l1,_,rfl,f1,v1.symm,rfl,by decide⟩
   .exact⟨l2,_,rfl,f2,v2.symm,rfl,by decide⟩
   .exact⟨l3,_,rfl,f3,v3.symm,rfl,by decide⟩
   .exact⟨l4,_,rfl,f4,v4.symm,rfl,by decide⟩
   .exact⟨l5,_,rfl,f5,v5.symm,rfl,by decide⟩
  obtain⟨wd,ws,ei,Od,CM,Rl,bws⟩:=CL;have g2:Dr st H (upd H1 st (.lst [.int a,.int b,.int c])):=g1.draw a0 b0 b1;refine⟨L,_,r,.ref wd,rfl,rfl,SqL.of (by rw[au v6.symm];exact fL),?_,?_⟩
  .have:=du ei;rw[show((r.toNat:Nat):Int)=r by lia]at this;exact this
  have xb:upd H1 st (.lst [.int a,.int b,.int c]) wd=some (.lst (ws.map V.int)):=by
   rw[au CM];exact Od
  generalize upd H1 st (.lst [.int a,.int b,.int c])=H2 at g2 xb⊢;clear f1 f2 f3 f4 f5 fL ms g1 w9 Od ei;refine aF ?_;dsimp only;refine aC ?_;refine⟨_,rfl,_,rfl,st,n,rfl,g2.sa,n0,Zz,fun m a b c m0 m1 a0 b0 b1=>⟨_,_,rfl,rfl,?_⟩⟩;have g3:=g2.draw (c:=c) a0 b0 b1
  have CO:upd H2 st (.lst [.int a,.int b,.int c]) wd=some (.lst (ws.map V.int)):=by
   rw[au CM];exact xb
  generalize upd H2 st (.lst [.int a,.int b,.int c])=H3 at g3 CO⊢;clear g2 xb;dsimp only;refine iw ?_;refine⟨_,rfl,1+m,rfl,Zz,Zz,?_⟩
  have lz:(1+m).toNat<sizeLine:=by
   rw[sizeLine_eq];lia
  refine comp_gen (1+m).toNat (fun i ys σ Hc=>Dr st H3 Hc/\(∃o,σ=[o,some (.ref st),some (.ref wd)])/\∃rows:List (List Int),rows.length=i/\(∀r∈rows,okC r)/\IsThs (fun _=>False) Hc ys (rows.map K31.rowD)) ⟨Dr.refl g3.sa,⟨_,rfl⟩,[],rfl,fun _ h=>(List.not_mem_nil h).elim,.nil⟩ lz ?_ ?_
  .rintro i ys σ Hc hi hy ⟨g4,⟨o,rfl⟩,rows,iO,CS,it⟩;refine⟨hi,fun v H' y R hR=>?_⟩;obtain⟨eH,rfl⟩:=y;subst H';refine aF ?_;have xh:=g4.bt _ _ CO CM;refine⟨_,rfl,wd,rfl,⟨_,SqL.of xh⟩,comp_gen 3 (fun j zs σ H5=>Dr st Hc H5/\(∃o,σ=[o,some (.ref st)])/\∃r:List Int,r.length=j/\(∀n∈r,0<=n/\n<1000)/\zs=r.map V.int) ⟨Dr.refl g4.sa,⟨_,rfl⟩,[],rfl,fun _ h=>(List.not_mem_nil h).elim,rfl⟩ Zx ?_ ?_⟩
   .rintro j zs σ H5 hj hz ⟨g5,⟨o,rfl⟩,r,lr,br,rfl⟩;have CU:=g5.bt _ _ xh CM;have Oe:j<ws.length:=Zz
    have ex:(ws.map V.int)[j]?=some (.int ws[j]):=by rw[zAb,zA0 Oe];rfl
    refine⟨⟨_,_,SqL.of CU,ex⟩,fun v H' y R hR=>?_⟩;obtain⟨eH,y⟩:=y;subst H';have hv:=y _ (SqL.of CU);rw[ex]at hv;cases hv;have hb:=bws _ (zAh Oe);refine aF ?_;refine⟨_,rfl,_,rfl,st,_,rfl,g5.sa,hb.1,Zz,fun t a b c t0 t1 a0 b0 b1=>hR _ _ _ ⟨g5.draw a0 b0 b1,⟨_,rfl⟩,r++[t],by rw[zA2,lr];rfl,fun n hn=>?_,by rw[zA4];rfl⟩⟩;rcases zA6.mp hn with z|z
    .exact br n z
    .rw[List.mem_singleton.mp z];lia
   .rintro zs σ H5 hz ⟨g5,_,r,lr,br,rfl⟩;refine⟨⟨_,SqL.of (g5.bt _ _ xh CM),by rw[zA1,Rl];exact zA3 _⟩,fun D hD=>⟨D,_,rfl,.inl ⟨SqL.of aa,fun t ht=>?_⟩⟩⟩;have s6:=(Same.upd (o:=.lst (r.map V.int)) hD).updR (o:=.tup (r.map V.int)) ht;refine hR _ _ _ ⟨(g4.trans g5).same s6,⟨_,rfl⟩,rows++[r],by rw[zA2,iO];rfl,fun x hx=>?_,?_⟩
    .rcases zA6.mp hx with z|z
     .exact CS x z
     .rw[List.mem_singleton.mp z];exact⟨lr,br⟩
    .rw[zA4];exact((g5.ths g4.sa it).same s6).append (.cons (.tup aa (IsThs.ints r)) .nil)
  .rintro ys σ Hc hy ⟨g4,_,rows,iO,CS,it⟩;refine⟨zA3 _,fun D hD=>⟨D,_,rfl,.inl ⟨SqL.of aa,fun t ht=>?_⟩⟩⟩;have s6:=(Same.upd (o:=.lst ys) hD).updR (o:=.tup ys) ht;obtain⟨ac,xc,ev,rr⟩:=K31.th_rows (rs:=rows) (.tup aa (it.same s6));cases ev;exact q _ xc rows _ ((g3.trans g4).same s6) rr Zz Zz CS
end
section
variable{P:Program}{w:World}{K:Frag}{mg:Str->Option Value}{base:Heap}{f:Addr}{fd:FuncData}
theorem scP:FnScope ["_law_state_here","_law_years_here","_law_first","_law_last","_law_sacks","_law_price"] ["_law_state_here","_law_years_here"] (aJ (top 68)):=fS
theorem ok_prom(F:Fun K "_law_promise" "_law_promise" (top 68) f fd)(Tm:mg "min"=none)(c1:Cal P w K mg base 1 "_law_choice" ["_law_state_here","_law_many"] spChoice):FnOk P w K mg base CX0 2 f fd ["_law_state_here","_law_years_here"] Cu:=by
 refine F.ok scP (fun vs H Q E h=>?_) (fun ai A outer s H vs Q E hr h=>?_)
 .obtain⟨st,y,rfl,_⟩:=h;rfl
 .obtain⟨st,y,rfl,gz,y0,y1,q⟩:=h
  refine ok_b (aN ⟨pss 2 scP.nd (aM (fQ rfl) rfl Tm qx (aq aA (aq (aK c1 hr (aq (pv 0) (aq (aU bO (pv 1) aA) aj))) aj)))⟩
   (aN ⟨pss 3 scP.nd (aM (fQ rfl) rfl Tm qx (aq aA (aq (aU bO (pv 2) (pX bV (Eo (En aA (En (aK c1 hr (aq (pv 0) (aq aA aj))) (En (aK c1 hr (aq (pv 0) (aq aA aj))) fH)))) (aK c1 hr (aq (pv 0) (aq aA aj))))) aj)))⟩
   (aN ⟨Ac (i:=4) (j:=5) rfl scP.nd rfl rfl Zx rfl rfl (aq (aU bO aA (aK c1 hr (aq (pv 0) (aq (pX bV (cQ (mz (by repeat constructor))) (aK c1 hr (aq (pv 0) (aq aA aj)))) aj)))) (aq (aK c1 hr (aq (pv 0) (aq aA aj))) aj)) rfl⟩
   (bQ ⟨aQ (wB (nF (fu ⟨aK c1 hr (aq (pv 0) (aq aA aj))⟩ (fu ⟨aK c1 hr (aq (pv 0) (aq aA aj))⟩ (fu ⟨pv 2⟩ (fu ⟨pv 3⟩ (fu ⟨pv 4⟩ (fu ⟨pv 5⟩ fH))))))))⟩)))) ?_
  have g0:Dr st H H:=Dr.refl gz;refine aC (aR ?_);refine⟨_,rfl,_,rfl,_,_,rfl,rfl,st,_,rfl,gz,Zz,Zz,fun r1 a1 b1 hX WS WT k1 k2 k3=>⟨_,_,rfl,?_⟩⟩;have g1:=g0.draw (c:=hX) k1 k2 k3
  obtain⟨fi,Rm,Rn,WU⟩:∃fi:Int,fi=(if r1<19 then r1 else 19)/\0<=fi/\fi<=19:=⟨_,rfl,by split<;>lia,by split<;>lia⟩
  rw[<-Rm];generalize upd H st (.lst [.int a1,.int b1,.int hX])=H1 at g1⊢;refine aF ?_;dsimp only;refine aC (aR ?_);refine⟨_,rfl,_,rfl,st,4,rfl,g1.sa,by decide,by decide,fun r2 a2 b2 c2 Ro WV k4 k5 k6=>⟨_,rfl,st,20,rfl,(g1.draw k4 k5 k6).sa,by decide,by decide,fun r3 a3 b3 c3 Rp Rq k7 k8 k9=>⟨zL,fun p hp=>?_⟩⟩⟩;have g3:=(g1.draw (c:=c2) k4 k5 k6).draw (c:=c3) k7 k8 k9;have np:=g3.ne hp;have g4:=g3.new (o:=.lst [V.int 0,V.int r2,V.int r3]) hp;have ep:upd (upd (upd H1 st (.lst [.int a2,.int b2,.int c2])) st (.lst [.int a3,.int b3,.int c3])) p (.lst [V.int 0,V.int r2,V.int r3]) p=some (.lst [V.int 0,V.int r2,V.int r3]):=aa;generalize upd (upd (upd H1 st (.lst [.int a2,.int b2,.int c2])) st (.lst [.int a3,.int b3,.int c3])) p (.lst [V.int 0,V.int r2,V.int r3])=H2 at g4 ep⊢;refine⟨_,rfl,st,3,rfl,g4.sa,by decide,by decide,fun r4 a4 b4 c4 WW WX k1 k2 k3=>?_⟩
  obtain⟨d,hd,d0,d1⟩:∃d:Int,atI [V.int 0,V.int r2,V.int r3] r4=some (.int d)/\0<=d/\d<20:=by
   have:r4=0\/r4=1\/r4=2:=Zz
   rcases this with rfl|rfl|rfl
   .exact⟨_,rfl,by decide,by decide⟩
   .exact⟨_,rfl,Ro,Zz⟩
   .exact⟨_,rfl,Rp,Rq⟩
  refine⟨p,_,r4,.int d,rfl,rfl,SqL.of (by rw[au np];exact ep),hd,_,_,rfl,rfl,_,_,rfl,?_⟩;have g5:=g4.draw (c:=c4) k1 k2 k3
  obtain⟨la,wb,Rr,CY⟩:∃la:Int,la=(if fi+d<19 then fi+d else 19)/\fi<=la/\la<=19:=⟨_,rfl,by split<;>lia,by split<;>lia⟩
  rw[<-wb];clear ep np g3;generalize upd H2 st (.lst [.int a4,.int b4,.int c4])=H3 at g5⊢;refine aF ?_;dsimp only;refine aC ?_;refine⟨_,rfl,zL,fun p2 qE=>?_⟩;have Rt:=g5.ne qE;have g6:=g5.new (o:=.lst (([4,12,99]:List Int).map V.int)) qE;have Of:upd H3 p2 (.lst (([4,12,99]:List Int).map V.int)) p2=some (.lst (([4,12,99]:List Int).map V.int)):=aa;generalize upd H3 p2 (.lst (([4,12,99]:List Int).map V.int))=H4 at g6 Of⊢;refine⟨_,rfl,st,3,rfl,g6.sa,by decide,by decide,fun r5 a5 b5 c5 WY WZ k4 k5 k6=>?_⟩
  obtain⟨wd,hw,w1,w2⟩:∃wd:Int,atI (([4,12,99]:List Int).map V.int) r5=some (.int wd)/\1<=wd/\wd<=99:=by
   have:r5=0\/r5=1\/r5=2:=Zz
   rcases this with rfl|rfl|rfl
   .exact⟨4,rfl,by decide,by decide⟩
   .exact⟨12,rfl,by decide,by decide⟩
   .exact⟨99,rfl,by decide,by decide⟩
  have g7:=g6.draw (c:=c5) k4 k5 k6;refine⟨p2,_,r5,.int wd,rfl,rfl,SqL.of (by rw[au Rt];exact Of),hw,st,wd,rfl,g7.sa,w1,Zz,fun r6 a6 b6 c6 W5 W6 k7 k8 k9=>⟨_,_,rfl,rfl,?_⟩⟩;have g8:=g7.draw (c:=c6) k7 k8 k9;generalize upd (upd H4 st (.lst [.int a5,.int b5,.int c5])) st (.lst [.int a6,.int b6,.int c6])=H5 at g8⊢;refine⟨_,rfl,st,500,rfl,g8.sa,by decide,by decide,fun r7 a7 b7 c7 Ru Xa k1 k2 k3=>⟨_,_,rfl,?_⟩⟩;have g9:=g8.draw (c:=c7) k1 k2 k3;generalize upd H5 st (.lst [.int a7,.int b7,.int c7])=H6 at g9⊢;dsimp only;refine iw ?_;refine⟨_,rfl,st,8,rfl,g9.sa,by decide,by decide,fun r8 a8 b8 c8 Rv Rw k4 k5 k6=>⟨_,rfl,st,3,rfl,(g9.draw k4 k5 k6).sa,by decide,by decide,fun r9 a9 b9 c9 Rx Ry k7 k8 k9=>⟨_,rfl,_,rfl,_,rfl,_,rfl,zL,fun t ht=>?_⟩⟩⟩;have ga:=((g9.draw (c:=c8) k4 k5 k6).draw (c:=c9) k7 k8 k9).new (o:=.tup [V.int r8,V.int r9,V.int fi,V.int la,V.int (1+r6),V.int r7]) ht;exact q t [r8,r9,fi,la,1+r6,r7] _ ga aa ⟨rfl,⟨Rv,Rw⟩,⟨Rx,Ry⟩,⟨Rn,Rr,CY⟩,⟨by show 1<=1+r6;lia,by show 1+r6<=99;lia⟩,⟨Ru,by show r7<=1000000;lia⟩⟩
theorem scS:FnScope ["_law_state_here","_law_promises","_law_number","_law_holder","_law_sort","_law_first","_law_last","_law_sacks","_law_price","_law_seller","_law_year"] ["_law_state_here","_law_promises"] (aJ (top 69)):=fS
theorem ok_sale(F:Fun K "_law_sale" "_law_sale" (top 69) f fd)(T:K31.Mg mg)(Tm:mg "max"=none)(c1:Cal P w K mg base 1 "_law_choice" ["_law_state_here","_law_many"] spChoice):FnOk P w K mg base CX0 2 f fd ["_law_state_here","_law_promises"] Cv:=by
 refine F.ok scS (fun vs H Q E h=>?_) (fun ai A outer s H vs Q E hr h=>?_)
 .obtain⟨st,ap,xp,ps,rfl,_⟩:=h;rfl
 .obtain⟨st,ap,xp,ps,rfl,gz,rp,lp,okp,q⟩:=h
  refine⟨_,aB (pss 2 scS.nd (aK c1 hr (aq (pv 0) (aq (aM (j8 rfl) rfl Tm lu (aq aA (aq (aM bZ rfl T.len PySem.boot_len (aq (pv 1) aj)) aj))) aj))))
   (aB (cU (bf (yG (K31.room_un hr)) (pv 1) (wA fH) (bu _)) (aG (aQ (bB (mz (by repeat constructor))))) bz)
   (aB (cJ (pX bT (pv 1) (pv 2)) (bF rfl (ao (pgn 3 scS.nd) (ao (pgn 4 scS.nd) (ao (pgn 5 scS.nd)
    (ao (pgn 6 scS.nd) (ao (pgn 7 scS.nd) (ao (pgn 8 scS.nd) aV))))))))
   (aB (pss 9 scS.nd (pX bV (cQ (aq (pv 3) (aq (pv 3) (aq (aK c1 hr (aq (pv 0) (aq aA aj))) aj)))) (aK c1 hr (aq (pv 0) (aq aA aj)))))
   (aB (pss 10 scS.nd (aU bO (pv 5) (aK c1 hr (aq (pv 0) (aq (aU bO (aU dW (pv 6) (pv 5)) aA) aj)))))
   (aG (aQ (wB (nF (fu ⟨pv 2⟩ (fu ⟨pv 9⟩ (fu ⟨aK c1 hr (aq (pv 0) (aq aA aj))⟩ (fu ⟨aU bO aA (aK c1 hr (aq (pv 0) (aq (pv 7) aj)))⟩ (fu ⟨pv 10⟩ fH))))))))))))),?_⟩
  have g0:Dr st H H:=Dr.refl gz;have Xb:xp.length<=10:=by rw[rp.l];exact lp
  refine aC (aR ?_);refine⟨_,rfl,_,rfl,ap,xp,rfl,.inr (SqT.of rp.e),_,_,rfl,st,_,rfl,gz,?_,?_,fun r1 a1 b1 hX r0 rn k1 k2 k3=>?_⟩
  .split<;>lia
  .split<;>lia
  have g1:=g0.draw (c:=hX) k1 k2 k3;have E4:=g1.rows gz rp;generalize upd H st (.lst [.int a1,.int b1,.int hX])=H1 at g1 E4⊢;refine aF ?_;dsimp only;refine aC ?_;refine⟨_,rfl,zL,fun e0 zt=>?_⟩;have g2:=g1.new (o:=.tup []) zt;have m2:=Same.upd (o:=.tup []) zt;have Og:upd H1 e0 (.tup []) e0=some (.tup []):=aa;have E5:=E4.same m2;generalize upd H1 e0 (.tup [])=H2 at g2 m2 Og E5⊢;refine⟨ap,e0,xp,rfl,rfl,SqT.of E5.e,SqT.of Og,_,rfl,Eg (fun hb=>?_) fun hb=>?_⟩
  .refine⟨zL,fun t ht=>?_⟩;exact q t [0,0,1,1,0] _ (g2.new ht) aa ⟨rfl,by decide⟩
  have px:0<xp.length:=by
   cases xp with
   |nil=>exact absurd rfl hb
   |cons a l=>exact Nat.succ_pos _
  have Xc:r1.toNat<xp.length:=by split at rn<;>lia
  dsimp only;refine aC ?_;obtain⟨p,hp,_,op⟩:=K31.prom_ok (n:=r1) okp r0 (by rw[<-rp.l];lia);obtain⟨tp,gS,gT⟩:=K31.rows_at E5 r0 hp;rw[K31.six_row op.1]at gT;obtain⟨_,⟨p1,p2⟩,_,⟨p3,p4,p5⟩,⟨p6,p7⟩,_⟩:=id op;refine⟨_,rfl,_,rfl,ap,_,r1,.ref tp,rfl,rfl,SqT.of E5.e,gS,?_⟩;refine⟨tp,_,rfl,SqT.of gT,rfl,_,_,rfl,_,_,rfl,_,_,rfl,_,_,rfl,_,_,rfl,_,_,rfl,rfl,?_⟩;dsimp only;refine aC (aR ?_);refine⟨_,rfl,_,rfl,_,rfl,st,8,rfl,g2.sa,by decide,by decide,fun r2 a2 b2 c2 i0 i1 k4 k5 k6=>⟨zL,fun l1 cv=>?_⟩⟩;have g4:=(g2.draw (c:=c2) k4 k5 k6).new (o:=.lst [V.int (K31.fl p 0),V.int (K31.fl p 0),V.int r2]) cv;have n4:=(g2.draw k4 k5 k6).ne cv;refine⟨_,rfl,st,3,rfl,g4.sa,by decide,by decide,fun r3 a3 b3 c3 i2 i3 k7 k8 k9=>?_⟩
  obtain⟨sl,Rz,Xd,tf⟩:∃sl:Int,atI [V.int (K31.fl p 0),V.int (K31.fl p 0),V.int r2] r3=some (.int sl)/\0<=sl/\sl<8:=by
   have:r3=0\/r3=1\/r3=2:=Zz
   rcases this with rfl|rfl|rfl
   .exact⟨_,rfl,p1,p2⟩
   .exact⟨_,rfl,p1,p2⟩
   .exact⟨_,rfl,i0,i1⟩
  have g5:=g4.draw (c:=c3) k7 k8 k9;refine⟨l1,_,r3,.int sl,rfl,rfl,SqL.of (by rw[au n4];exact aa),Rz,?_⟩;refine aF ?_;dsimp only;refine aC (aR ?_);refine⟨_,rfl,_,rfl,_,rfl,_,rfl,_,_,rfl,rfl,_,_,rfl,rfl,st,_,rfl,g5.sa,Zz,Zz,fun r5 a5 b5 c5 i6 i7 m4 m5 m6=>⟨_,_,rfl,rfl,?_⟩⟩;have g7:=g5.draw (c:=c5) m4 m5 m6;refine aF ?_;dsimp only;refine⟨_,rfl,_,rfl,_,rfl,st,8,rfl,g7.sa,by decide,by decide,fun r4 a4 b4 c4 i4 i5 m1 Oh m3=>⟨_,rfl,_,rfl,st,_,rfl,(g7.draw m1 Oh m3).sa,p6,Zz,fun r6 a6 b6 c6 i8 i9 m7 m8 m9=>⟨_,_,rfl,rfl,_,rfl,zL,fun t ht=>?_⟩⟩⟩;have g8:=(g7.draw (c:=c4) m1 Oh m3).draw (c:=c6) m7 m8 m9;refine q t [r1,sl,r4,1+r6,K31.fl p 2+r5] _ (g8.new ht) aa ⟨rfl,fun i hi=>?_⟩;simp only[List.mem_cons,List.not_mem_nil,or_false]at hi;lia
end
theorem op_catU{X:Cx}:OpR X (binaryOp .Add) (fun x y H Q=>∃a b xs ys,x=.ref a/\y=.ref b/\H a=some (.tup xs)/\H b=some (.tup ys)/\ys≠[]/\xs.length+ys.length<=sizeLine/\∀c H',Same H H'->H' c=some (.tup (xs++ys))->Q (.ref c) H'):=by
 intro Zt s σ H x y v u Q I rx ry h;obtain⟨a,b,xs,ys,rfl,rfl,ha,hb,hy,hz,q⟩:=h;refine Ba Zt s σ H _ _ v u Q I rx ry ⟨a,b,xs,ys,rfl,rfl,SqT.of ha,SqT.of hb,hy,hz,fun e=>q b H (Same.refl H) (by rw[e];exact hb),fun _ p hp=>q p _ (Same.upd hp) aa⟩
theorem qH{H:Hp}{a b t:Addr}{xs:List V}{rs:List (List Int)}{r:List Int}(h:K31.RowsAt H a xs rs)(et:H t=some (.tup (r.map V.int)))(eb:H b=some (.tup (xs++[V.ref t]))):K31.RowsAt H b (xs++[V.ref t]) (rs++[r]):=by
 refine⟨eb,by rw[zA2,zA2,h.l];rfl,fun i r' e=>?_⟩;by_cases hi:i<rs.length
 .rw[zBc hi]at e;rw[zBc (by rw[h.l];exact hi)];exact h.g i r' e
 .rw[zBd Zz]at e;rw[zBd (by rw[h.l];lia),h.l]
  cases hj:i-rs.length with
  |zero=>
   rw[hj]at e;injection e with e;subst e;exact⟨t,rfl,et⟩
  |succ k=>
   rw[hj]at e;simp at e
theorem Cw{u:Option Nat}(h:decide (K31.unV u=.non)=true):u=none:=by
 have:=zB8 h
 cases u with
 |none=>rfl
 |some n=>cases this
theorem pJ{X:Cx}{K:Frag}(hK:X.K=K):dU X (.builtin "len") (fun xs H Q=>∃p ys,xs=[.ref p]/\(SqL K H p ys\/SqT K H p ys)/\Q (.int ys.length) H):=by
 subst hK;exact bZ
section
variable{P:Program}{w:World}{K:Frag}{mg:Str->Option Value}{base:Heap}{f:Addr}{fd:FuncData}
theorem ndB:(["_law_turn","_law_state_here","_law_clips_here"]:List Str).Nodup:=by decide +kernel
theorem scB:FnScope ["_law_state_here","_law_years_here","_law_most","_law_clips_here","_law_promises","_law_sales","_law_turn","_law_sale_here"] ["_law_state_here","_law_years_here","_law_most"] (aJ (top 70)):=fS
theorem ok_book(F:Fun K "_law_book" "_law_book" (top 70) f fd)(T:Mg mg)(Tr:mg "range"=none)(Tl:mg "len"=none)(c1:Cal P w K mg base 1 "_law_choice" ["_law_state_here","_law_many"] spChoice)(c2:Cal P w K mg base 2 "_law_clips" ["_law_state_here","_law_most"] xM)(c3:Cal P w K mg base 2 "_law_promise" ["_law_state_here","_law_years_here"] Cu)(c4:Cal P w K mg base 2 "_law_sale" ["_law_state_here","_law_promises"] Cv)(c5:Cal P w K mg base 1 "_law_rows" ["_law_promises","_law_sales"] K31.spRows):
  FnOk P w K mg base CX0 3 f fd ["_law_state_here","_law_years_here","_law_most"] spBook:=by
 refine F.ok scB (fun vs H Q E h=>?_) (fun ai A outer s H vs Q E hr h=>?_)
 .obtain⟨st,y,m,rfl,_⟩:=h;rfl
 .obtain⟨st,y,m,rfl,gz,y1,y2,m1,m2,q⟩:=h
  refine⟨_,aB (jZ (i:=3) scB.nd rfl (Or.inr rfl) (aK c2 hr (aq (pv 0) (aq (pv 1) aj))))
   (aB (pss 4 scB.nd (cR cj rfl T.tuple boot_tuple (aq (bx ["_law_turn","_law_state_here","_law_clips_here"] [none,some 0,some 3] rfl (bU rfl Tr (aq (aK c1 hr (aq (pv 0) (aq (aU bO (pv 2) aA) aj))) aj))
    (fun C fp Zt s₂ H₂=>⟨pgn 0 ndB,bI,aK c3 hr (aq (pv 1) (aq (aM (pJ (K:=K) rfl) rfl Tl PySem.boot_len (aq (pv 2) aj)) aj))⟩)
    (fun C=>cI (cI trivial)) ⟨rfl,rfl,rfl,rfl⟩) aj)))
   (aB (pss 5 scB.nd (wA fH))
   (aB (bN zB3 rfl (bU rfl Tr (aq (aK c1 hr (aq (pv 0) (aq aA aj))) aj)) (pgn 6 scB.nd)
    (aB (pss 7 scB.nd (aK c4 hr (aq (pv 0) (aq (pv 4) aj))))
    (aG (cU (bf Ah (pX bT (aK c5 hr (aq (pv 4) (aq (aU op_catU (pv 5) (bB (aq (pv 7) aj))) aj))) aA) qP (bu _)) (aG (pss 5 scB.nd (aU op_catU (pv 5) (bB (aq (pv 7) aj))))) bz))))
   (aG (aQ (bB (aq (pv 3) (aq (pv 4) (aq (pv 5) aj)))))))))  ,?_⟩
  refine aC (aR ?_);refine⟨_,rfl,_,rfl,st,y,rfl,gz,y1,y2,fun ac xc cs H1 d1 rc lc1 Oi okc=>?_⟩;refine aF ?_;dsimp only;refine aC (aR ?_);refine⟨_,rfl,_,rfl,_,_,rfl,rfl,st,m+1,rfl,d1.sa,Zz,Zz,fun r a1 b1 hX k0 kn k1 k2 k3=>⟨r,rfl,Zz,Zz,?_⟩⟩;have d2:=(Dr.refl d1.sa).draw (c:=hX) k1 k2 k3;have E6:=d2.rows d1.sa rc;have Le:=d1.trans d2;generalize upd H1 st (.lst [.int a1,.int b1,.int hX])=H2 at d2 Le E6⊢
  have lz:r.toNat<sizeLine:=by
   rw[sizeLine_eq];lia
  refine comp_gen r.toNat (fun i ys σ Hc=>Dr st H2 Hc/\(∃o,σ=[o,some (.ref st),some (.ref ac)])/\∃rows:List (List Int),rows.length=i/\(∀r∈rows,K31.okP r)/\IsThs (fun _=>False) Hc ys (rows.map K31.rowD)) ⟨Dr.refl d2.sa,⟨_,rfl⟩,[],rfl,fun _ h=>(List.not_mem_nil h).elim,.nil⟩ lz ?_ ?_
  .rintro i ys σ Hc hi hy ⟨g4,⟨o,rfl⟩,rows,iO,CS,it⟩;refine⟨hi,fun v H' y R hR=>?_⟩;obtain⟨eH,rfl⟩:=y;subst H';refine aF ?_;have RA:=g4.rows d2.sa E6;have:=rc.l;refine⟨_,rfl,_,rfl,ac,xc,rfl,.inr (SqT.of RA.e),st,_,rfl,g4.sa,Zz,Zz,fun t Oj H5 d5 et RB=>hR _ _ _ ⟨g4.trans d5,⟨_,rfl⟩,rows++[Oj],by rw[zA2,iO];rfl,fun x hx=>?_,?_⟩⟩
   .rcases zA6.mp hx with z|z
    .exact CS x z
    .rw[List.mem_singleton.mp z];exact RB
   .rw[zA4];exact(d5.ths g4.sa it).append (.cons (.tup et (IsThs.ints Oj)) .nil)
  rintro ys σ Hc hy ⟨g4,_,ps,Xe,okp,it⟩;refine⟨zA3 _,fun D hD=>⟨D,_,rfl,.inl ⟨SqL.of aa,fun t ht=>?_⟩⟩⟩;have s6:=(Same.upd (o:=.lst ys) hD).updR (o:=.tup ys) ht;obtain⟨ap,xp,ev,rp⟩:=K31.th_rows (rs:=ps) (.tup aa (it.same s6));cases ev;have Ol:=(g4.rows d2.sa E6).same s6;have Om:=(Le.trans g4).same s6;generalize upd (upd Hc D (.lst ys)) t (.tup ys)=H3 at rp Ol Om⊢;clear E6 d2 g4 it s6 ht hD Le rc d1;refine aF ?_;dsimp only;refine aC (aR ?_);refine⟨zL,fun e0 zt=>?_⟩;have d6:=Om.new (o:=.tup []) zt
  have r6:K31.RowsAt (upd H3 e0 (.tup [])) e0 [] []:=⟨aa,rfl,fun i r e=>by simp at e⟩
  have Oo:=rp.same (Same.upd (o:=.tup []) zt);have Oq:=Ol.same (Same.upd (o:=.tup []) zt);generalize upd H3 e0 (.tup [])=H4 at d6 r6 Oo Oq⊢;refine aF ?_;dsimp only;refine aC ?_;refine⟨_,rfl,st,7,rfl,d6.sa,by decide,by decide,fun r2 a2 b2 Ot q0 qn q1 q2 q3=>⟨r2,rfl,Zz,Zz,?_⟩⟩;have d7:=(Dr.refl d6.sa).draw (c:=Ot) q1 q2 q3;have Ou:=d7.rows d6.sa Oo;have Ov:=d7.rows d6.sa Oq;have r7:=d7.rows d6.sa r6;have Ow:=d6.trans d7;generalize upd H4 st (.lst [.int a2,.int b2,.int Ot])=H5 at Ow Ou Ov r7⊢;refine cP (lo:=0) (n:=r2.toNat) (fun i σ Hc=>∃a xs ss x6 x7,σ=[some (.ref st),some (.int y),some (.int m),some (.ref ac),some (.ref t),some (.ref a),x6,x7]/\Dr st H Hc/\K31.RowsAt Hc ac xc cs/\K31.RowsAt Hc t xp ps/\K31.RowsAt Hc a xs ss/\ss.length<=i/\(∀s∈ss,smR s)/\K31.un ps ss=none) ?_ ?_ ?_
  .exact⟨e0,[],[],none,none,rfl,Ow,Ov,Ou,r7,zA3 _,(fun _ h=>nomatch h),rfl⟩
  .rintro i σ Hc hi ⟨a,xs,ss,x6,x7,rfl,g,rcc,E7,Lf,ls,fy,xi⟩;refine aF (aC ?_);refine aR ?_;refine⟨_,rfl,_,rfl,st,t,xp,ps,rfl,g.sa,E7,Zz,okp,fun t' s' H6 d8 et sm=>?_⟩;have Ox:=d8.rows g.sa rcc;have Lg:=d8.rows g.sa E7;have zw:=d8.rows g.sa Lf;have gd:=g.trans d8;refine aF ?_;dsimp only
   have Oy:∀s∈ss++[s'],smR s:=fun s hs=>by
    rcases zA6.mp hs with z|z
    .exact fy s z
    .rw[List.mem_singleton.mp z];exact sm
   have l5:(ss++[s']).length<=i+1:=by rw[zA2];show ss.length+1<=_;lia
   have B8:=zw.l;refine⟨_,rfl,_,rfl,_,rfl,zL,fun t1 oP=>?_⟩;have m4:=Same.upd (o:=.tup [V.ref t']) oP;refine⟨a,t1,xs,_,rfl,rfl,m4 _ _ zw.e,aa,by simp,by rw[B8,sizeLine_eq];show _+1<=_;lia,fun c H7 s7 ec=>?_⟩;have RD:=qH ((zw.same m4).same s7) (s7 _ _ (m4 _ _ et)) ec;refine⟨t,xp,ps,c,_,ss++[s'],rfl,(Lg.same m4).same s7,Zz,okp,RD,Zz,fun s hs=>(Oy s hs).1,fun tt fo H8 s8 E8 _=>?_⟩;have zI:=(m4.trans s7).trans s8;refine⟨tt,_,1,K31.unV (K31.un ps (ss++[s'])),rfl,rfl,SqT.of E8,rfl,rfl,_,rfl,Eg (fun hb=>?_) fun _=>?_⟩
   .refine aR ?_;refine⟨_,rfl,_,rfl,zL,fun t2 JJ=>?_⟩;have m9:=Same.upd (o:=.tup [V.ref t']) JJ;refine⟨a,t2,xs,_,rfl,rfl,m9 _ _ (zI _ _ zw.e),aa,by simp,by rw[B8,sizeLine_eq];show _+1<=_;lia,fun c' H9 s9 RE=>?_⟩;have C3:=(zI.trans m9).trans s9;exact⟨c',_,ss++[s'],_,_,rfl,gd.same C3,Ox.same C3,Lg.same C3,qH (zw.same C3) (C3 _ _ et) RE,l5,Oy,Cw hb⟩
   .exact⟨a,xs,ss,_,_,rfl,gd.same zI,Ox.same zI,Lg.same zI,zw.same zI,Zz,fy,xi⟩
  .rintro σ Hc ⟨a,xs,ss,x6,x7,rfl,g,rcc,E7,Lf,ls,fy,xi⟩;refine⟨_,rfl,_,rfl,_,rfl,zL,fun b hb=>?_⟩;have mb:=Same.upd (o:=.tup [V.ref ac,V.ref t,V.ref a]) hb;exact q b ac xc cs t xp ps a xs ss _ (g.new hb) aa (rcc.same mb) lc1 Oi okc (E7.same mb) Zz okp (Lf.same mb) Zz fy xi
end
theorem oG{K:Frag}{te:TE}{p:Addr}{ws:List Int}{dv:St}{H0:Hp}{Fin:List V->Hp->Prop}(f:Int->Int)(ep:H0 p=some (.lst (ws.map V.int)))(hl:ws.length<sizeLine)
  (nK:∀(z:Int) (Q:VK),z∈ws->Q (.int (f z)) H0->te (dv.set 0 (some (.int z))) H0 Q) (fin:Fin ((ws.map f).map V.int) H0):jD (Itl K p) (bH 0) tR te Fin dv H0:=by
 refine comp_gen ws.length (fun i ys σ H=>H=H0/\(∀o,σ.set 0 o=dv.set 0 o)/\ys=((ws.take i).map f).map V.int) ⟨rfl,fun _=>rfl,rfl⟩ hl ?_ ?_
 .rintro i ys σ H hi hy ⟨rfl,iE,rfl⟩;have hz:(ws.map V.int)[i]?=some (.int ws[i]):=by rw[zAb,zA0 hi];rfl
  refine⟨⟨_,_,SqL.of ep,hz⟩,fun v H' y' R hR=>?_⟩;obtain⟨rfl,y'⟩:=y';have hv:=y' _ (SqL.of ep);rw[hz]at hv;cases hv;show te (σ.set 0 (some (.int ws[i]))) _ _;rw[iE];refine nK ws[i] _ (zAh hi) (hR _ _ _ ⟨rfl,fun o=>by rw[List.set_set],?_⟩);rw[zAj,zA0 hi,zA4,zA4];rfl
 .rintro ys σ H hy ⟨rfl,iE,rfl⟩;refine⟨⟨_,SqL.of ep,by rw[zA1];exact zA3 _⟩,?_⟩;rw[zAm];exact fin
inductive SpLPartsI(vs:List V)(H:Hp)(Q:VK):Prop
 |mk:∀n p ws,(vs=[.int n,.ref p])->(H p=some (.lst (ws.map V.int)))->(OkW ws)->(0<=n)->(n<=ws.sum)->(∀H' q,Same H H'->H' q=some (.tup ((res n ws).map V.int))->Q (.ref q) H')->SpLPartsI  vs H Q
def spLParts:Sp:=fun vs H Q _=>SpLPartsI  vs H Q
section
variable{P:Program}{w:World}{K:Frag}{mg:Str->Option Value}{base:Heap}{f:Addr}{fd:FuncData}
theorem JN:(["_law_one","_law_sacks","_law_whole"]:List Str).Nodup:=by decide +kernel
theorem scLP:FnScope ["_law_sacks","_law_weights","_law_whole","_law_parts","_law_rests","_law_turn","_law_at"] ["_law_sacks","_law_weights"] (aJ (top 62)):=fS
theorem ok_lparted(F:Fun K "_law_parted" "_law_parted" (top 62) f fd)(T:Mg mg)(Ts:mg "sum"=none)(Tr:mg "range"=none)(Tm:mg "max"=none):FnOk P w K mg base CX0 1 f fd ["_law_sacks","_law_weights"] spLParts:=by
 refine F.ok scLP (fun vs H Q E h=>?_) (fun ai A outer s H vs Q E hr h=>?_)
 .obtain⟨n,p,ws,rfl,_⟩:=h;rfl
 .obtain⟨n,p,ws,rfl,ep,ok,n0,n1,q⟩:=h
  refine⟨_,aB (jZ (i:=2) scLP.nd rfl (Or.inr rfl) (aM (cu rfl) rfl Ts boot_sum (aq (pv 1) aj)))
   (aB (gh (i:=3) ["_law_one","_law_sacks","_law_whole"] [none,some 0,some 2] rfl scLP.nd rfl (Or.inl rfl) (bL (pv 1))
    (fun C fp Zt s₂ H₂=>⟨pgn 0 JN,bI,aU mq (aU gB (pv 1) (pv 0)) (pv 2)⟩) (fun C=>cI (cI trivial)) ⟨rfl,rfl,rfl,rfl⟩)
   (aB (gh (i:=4) ["_law_one","_law_sacks","_law_whole"] [none,some 0,some 2] rfl scLP.nd rfl (Or.inl rfl) (bL (pv 1))
    (fun C fp Zt s₂ H₂=>⟨pgn 0 JN,bI,aU iH (aU gB (pv 1) (pv 0)) (pv 2)⟩) (fun C=>cI (cI trivial)) ⟨rfl,rfl,rfl,rfl⟩)
   (aB (bN zB3 rfl (bU rfl Tr (aq (aU dW (pv 0) (aM (cu rfl) rfl Ts boot_sum (aq (pv 3) aj))) aj)) (pgn 5 scLP.nd)
    (aB (pss 6 scLP.nd (lE zBb PySem.F.slot_list_index PySem.F.type_list_index Bj (pv 4) (aq (aM (ph rfl) rfl Tm lu (aq (pv 4) aj)) aj)))
    (aG (cJ (bB (aq (aU bO (pX bV (pv 3) (pv 6)) aA) (aq (FZ Ae aA) aj))) (bF rfl (ao (ie (pv 3) (pv 6) set_list) (ao (ie (pv 4) (pv 6) set_list) aV)))))))
   (aG (aQ (cR cj rfl T.tuple boot_tuple (aq (pv 3) aj))))))),?_⟩
  have hp:=ok.pos;have ht:=ok.top;have rj:=BP ok;refine aC ?_;refine⟨_,rfl,p,ws,rfl,.inl (SqL.of ep),?_⟩;dsimp only;refine aC ?_;refine⟨_,rfl,p,rfl,⟨_,SqL.of ep⟩,oG (fun z=>n*z / ws.sum) ep rj (fun z Q hz h=>⟨_,rfl,_,rfl,_,_,rfl,rfl,.inl ⟨Zz,Zz⟩,_,rfl,_,_,rfl,rfl,⟨Zz,Zz⟩,h⟩) ?_⟩;rw[show ws.map (fun z=>n*z / ws.sum)=fs n ws from rfl];intro l1 cv;have s1:=Same.upd (o:=.lst ((fs n ws).map V.int)) cv;have el1:=aa (H:=H) (a:=l1) (o:=.lst ((fs n ws).map V.int));generalize upd H l1 _=H1 at s1 el1⊢;dsimp only;refine aC ?_;refine⟨_,rfl,p,rfl,⟨_,SqL.of (s1 _ _ ep)⟩,oG (fun z=>n*z % ws.sum) (s1 _ _ ep) rj (fun z Q hz h=>⟨_,rfl,_,rfl,_,_,rfl,rfl,.inl ⟨Zz,Zz⟩,_,rfl,_,_,rfl,rfl,(by show 0<ws.sum;lia),h⟩) ?_⟩;rw[show ws.map (fun z=>n*z % ws.sum)=rs n ws from rfl];intro l2 eW;have s2:=s1.updR (o:=.lst ((rs n ws).map V.int)) eW;have el2:=aa (H:=H1) (a:=l2) (o:=.lst ((rs n ws).map V.int));have fN:=Same.upd (o:=.lst ((rs n ws).map V.int)) eW _ _ el1;have rf:H l1=none:=cv;have RF:H l2=none:=s1.free eW
  have Oz:l1≠l2:=fun z=>by
   rw[<-z,el1]at eW;cases eW
  clear cv eW;generalize upd H1 l2 _=H2 at s2 el2 fN⊢;clear el1 s1;dsimp only;have QM:=xn (n:=n) ok;have QN:=BK (n:=n) ok;have Xf:=ok.2.1;refine aC ?_;refine⟨_,rfl,_,rfl,l1,fs n ws,rfl,.inl (SqL.of fN),_,_,rfl,rfl,lf n ws,rfl,Zz,Zz,?_⟩;obtain⟨pl,ord⟩:=iz (rs n ws);have fin:=BL ord;have IZ:=ord.len;rw[gG]at IZ;have EN:=G9 (n:=n) ok;refine cP (lo:=0) (fun i σ Hc=>∃o5 o6,σ=[some (.int n),some (.ref p),some (.int ws.sum),some (.ref l1),some (.ref l2),o5,o6]/\Same H Hc/\Hc l1=some (.lst ((cT (fs n ws) (pl.take i)).map V.int))/\Hc l2=some (.lst ((fO (rs n ws) (pl.take i)).map V.int))) ?_ ?_ ?_
  .exact⟨none,none,rfl,s2,fN,el2⟩
  .rintro i σ Hc hi ⟨o5,o6,rfl,s5,e1,e2⟩;have E9:i<pl.length:=Zz
   have hj:=ord.lt _ (zAh E9);rw[gG]at hj;refine aF (aC ?_);refine⟨_,rfl,.inl ⟨rfl,_,SqL.of e2⟩,_,rfl,l2,_,rfl,SqL.of e2,fun c=>?_,fun M hM fI=>?_⟩
   .have:=congrArg List.length c;rw[je,gG,List.length_nil]at this;have:=ok.1;lia
   obtain⟨RG,RH⟩:=pick ord EN E9 hM fI;refine⟨l2,_,M,pl[i],rfl,rfl,e2,RG,RH,?_⟩;dsimp only;have ax:pl[i]<(cT (fs n ws) (pl.take i)).length:=by rw[jd,ou];exact hj
   have uj:pl[i]<(fO (rs n ws) (pl.take i)).length:=by rw[je,gG];exact hj
   have hx:((cT (fs n ws) (pl.take i)).map V.int)[pl[i]]?=some (.int ((cT (fs n ws) (pl.take i)).getD pl[i] 0)):=by
    rw[zAb,zA0 ax,zA7,zA0 ax];rfl
   refine⟨_,rfl,_,rfl,l1,_,(pl[i]:Int),_,rfl,rfl,SqL.of e1,du hx,_,_,rfl,rfl,_,rfl,zL,fun t1 oP=>?_⟩;have s6:=s5.updR (o:=.tup [.int ((cT (fs n ws) (pl.take i)).getD pl[i] 0+1),.int (-1)]) oP;have m6:=Same.upd (o:=.tup [.int ((cT (fs n ws) (pl.take i)).getD pl[i] 0+1),.int (-1)]) oP;refine⟨t1,_,rfl,SqT.of aa,rfl,?_⟩;have OA:=m6 _ _ e1;have OB:=m6 _ _ e2;generalize upd Hc t1 _=H6 at s6 OA OB⊢;refine⟨_,_,rfl,_,rfl,_,rfl,l1,_,(pl[i]:Int),pl[i],rfl,rfl,OA,sE (by rw[zA1];exact ax),?_⟩;refine⟨_,_,rfl,_,rfl,_,rfl,l2,_,(pl[i]:Int),pl[i],rfl,rfl,by rw[au Oz.symm];exact OB,sE (by rw[zA1];exact uj),rfl,?_⟩;refine⟨_,_,rfl,?_,?_,?_⟩
   .intro b u e;rw[au (az e RF),au (az e rf)];exact s6 _ _ e
   .rw[au Oz,aa,zAj,zA0 E9];show _=some (HO.lst ((cT (fs n ws) (pl.take i++[pl[i]])).map V.int));rw[oh,List.map_set]
   .rw[aa,zAj,zA0 E9];show _=some (HO.lst ((fO (rs n ws) (pl.take i++[pl[i]])).map V.int));rw[vG,List.map_set]
  .rintro σ Hc ⟨o5,o6,rfl,s5,e1,e2⟩;rw[fin]at e1;dsimp only;refine iw ?_;exact⟨_,rfl,l1,_,rfl,.inl ⟨SqL.of e1,fun t ht=>q _ t (s5.updR ht) aa⟩⟩
end
end K31Q
namespace K31
open PySem L2
inductive SpLClaimsI(vs:List V)(H:Hp)(Q:VK):Prop
 |mk:∀ap xp ps fo H0 Zs ss sort year,(vs=[.ref ap,.ref fo,.int year,.int sort])->(RowsAt H ap xp ps)->(ps.length<=10)->((∀r∈ps,okP r))->(Lts fo H0 H (dom ps) (hl ps ss) Zs)->(∀l xl H',Same H H'->H' l=some (.lst xl)->Els H' xl ((aD ps ss sort year).map List.tail)->Q (.ref l) H')->SpLClaimsI  vs H Q
def qI:Sp:=fun vs H Q _=>SpLClaimsI  vs H Q
theorem zq(ps ss:List (List Int))(sort year:Int)(i:Nat):((gH ps ss sort year i).map List.tail).length<=8*i:=by
 rw[zA1];exact jT ps ss sort year i
theorem vJ(i:Nat):dH (List.replicate 8 0) i=[]:=by
 unfold dH;rw[List.filter_eq_nil_iff.mpr,List.map_nil];intro a _;rw[Zp,zA7,List.getElem?_replicate];split<;>simp
variable{P:Program}{w:World}{K:Frag}{mg:Str->Option Value}{base:Heap}{f:Addr}{fd:FuncData}
theorem KJ:(["_law_holder","_law_number","_law_row"]:List Str).Nodup:=by decide +kernel
theorem scLD:FnScope ["_law_promises","_law_rows_here","_law_year","_law_sort","_law_found","_law_number","_law_promise_here","_law_row"] ["_law_promises","_law_rows_here","_law_year","_law_sort"] (aJ (top 64)):=fS
theorem vK(F:Fun K "_law_claims" "_law_claims" (top 64) f fd)(Te:mg "enumerate"=none)(Tr:mg "range"=none):FnOk P w K mg base CX0 1 f fd ["_law_promises","_law_rows_here","_law_year","_law_sort"] qI:=by
 refine F.ok scLD (fun vs H Q E h=>?_) (fun ai A outer s H vs Q E hr h=>?_)
 .obtain⟨ap,xp,ps,fo,H0,Zs,ss,sort,year,rfl,_⟩:=h;rfl
 .obtain⟨ap,xp,ps,fo,H0,Zs,ss,sort,year,rfl,rp,lp,okp,dt,q⟩:=h
  refine⟨_,aB (pss 4 scLD.nd (cQ aj))
   (aB (bN zB3 rfl (ZT.pi_enum true rfl Te (aq (pv 0) aj)) (bF rfl (ao (bj (i:=5) scLD.nd rfl (Or.inr rfl)) (ao (pgn 6 scLD.nd) aV)))
    (aG (cU (PW.pt (qR (bf iI (pX bT (pv 6) aA) (pv 3) (bu _)) (lZ (zZ (GZ (fM hr) (bB (aq (pv 5) (aq (pv 2) aj))) (pv 1))))))
     (aB (jZ (i:=7) scLD.nd rfl (Or.inr rfl) (dY (fM hr) (pv 1) (bB (aq (pv 5) (aq (pv 2) aj))) (fun _ _=>rfl)))
     (aG (pss 4 scLD.nd (aU v8 (pv 4) (bx ["_law_holder","_law_number","_law_row"] [none,some 5,some 7] rfl (bU rfl Tr (aq aA aj))
      (fun C fp Zt s₂ H₂=>⟨pgn 0 KJ,dM (bf jx (pX (iW (K:=K) rfl) (pv 2) (pv 0)) aA (bu _)),bB (aq (pv 1) (aq (pv 0) (aq (pX (iW (K:=K) rfl) (pv 2) (pv 0)) aj)))⟩)
      (fun C=>cI (cI trivial)) ⟨rfl,rfl,rfl,rfl⟩))))) bz)))
   (aG (aQ (pv 4)))),?_⟩
  refine aC (aR ?_);refine⟨zL,fun l vk=>?_⟩;refine aF ?_;dsimp only;refine aC ?_;have s0:=Same.upd (o:=.lst []) vk;refine⟨_,rfl,ap,xp,rfl,SqT.of (s0 _ _ rp.e),?_⟩;refine ZT.for_enum true (xs:=xp) (fun i σ Hc=>∃l x5 x6 x7 xl,σ=[some (.ref ap),some (.ref fo),some (.int year),some (.int sort),some (.ref l),x5,x6,x7]/\Same H Hc/\Hc l=some (.lst xl)/\Els Hc xl ((gH ps ss sort year i).map List.tail)) ?_ ?_ ?_ ?_
  .exact⟨l,none,none,none,[],rfl,s0,aa,Els.nil⟩
  .rintro i σ Hc hi ⟨l,x5,x6,x7,xl,rfl,k,el,ht⟩;exact SqT.of (k _ _ rp.e)
  .rintro i x σ Hc T0 hx ⟨l,x5,x6,x7,xl,rfl,k,el,ht⟩ nT
   have hi:i<ps.length:=by
    have:=(zAa.mp hx).1;rw[rp.l]at this;exact this
   obtain⟨tr,fk,eI⟩:=rp.g i ps[i] (zA0 hi)
   have:x=.ref tr:=by
    rw[hx]at fk;exact zAl fk
   subst this;have op:=okp ps[i] (zAh hi);have ep:ps.getD i []=ps[i]:=getD_get hi;rw[six_row op.1]at eI;have sT:=Same.upd (o:=.tup [V.int i,V.ref tr]) nT;have kT:=k.trans sT;have l7:=sT _ _ el;have vS:=ht.same sT;have eT:=aa (H:=Hc) (a:=T0) (o:=.tup [V.int i,V.ref tr]);generalize upd Hc T0 (.tup [V.int i,V.ref tr])=H1 at kT l7 vS eT⊢;refine⟨T0,_,rfl,SqT.of eT,rfl,_,_,rfl,_,_,rfl,rfl,?_⟩;dsimp only
   have OC:(gH ps ss sort year (i+1)).map List.tail=(gH ps ss sort year i).map List.tail++(gU ps ss sort year i).map List.tail:=by
    show(gH ps ss sort year i++gU ps ss sort year i).map List.tail=_;rw[zA4]
   have l9:(gU ps ss sort year i).map List.tail=if fl ps[i] 1=sort then(dH (bM ps[i] ss i year) 8).map (fun r=>(i:Int)::r)else[]:=by
    unfold gU;rw[ep];split
    .rw[zAr];rfl
    .rfl
   rw[OC,l9];clear OC l9;refine⟨_,rfl,tr,_,1,.int (fl ps[i] 1),rfl,rfl,SqT.of (kT _ _ eI),rfl,_,rfl,rfl,_,rfl,?_⟩;by_cases hs:fl ps[i] 1=sort
   .rw[zAt (by rw[hs]),zAy hs];refine bK ⟨_,rfl,_,rfl,zL,fun kk hk=>?_⟩;have s8:=Same.upd (o:=.tup [.int i,.int year]) hk;have C4:=dt.same (kT.trans s8);refine⟨_,rfl,fo,_,rfl,DGet.t (k:=ky i year) C4.e aa,_,rfl,?_⟩;have k8:=kT.trans s8;have Lh:=s8 _ _ l7;have xt:=vS.same s8;generalize upd H1 kk (.tup [V.int i,V.int year])=H2 at C4 k8 Lh xt⊢;by_cases hd:dom ps i year
    .obtain⟨dr,v1,Li⟩:=C4.g i year hd;rw[v1];refine bK ?_
     have eL:hl ps ss i year=bM ps[i] ss i year:=by
      unfold hl;rw[zAi,ep]
     rw[eL]at Li;have ET:=eV ps[i] ss i year;generalize bM ps[i] ss i year=L at Li ET⊢;refine aC (aR ?_);refine⟨_,rfl,_,rfl,_,rfl,zL,fun RI uk=>?_⟩;have s9:=Same.upd (o:=.tup [.int i,.int year]) uk;refine⟨fo,_,rfl,by rw[<-v1];exact DGet.t (k:=ky i year) (s9 _ _ C4.e) aa,?_⟩;have k9:=k8.trans s9;have rV:=s9 _ _ Lh;have OD:=xt.same s9;have C5:=s9 _ _ Li;generalize upd H2 RI (.tup [V.int i,V.int year])=H3 at k9 rV OD C5⊢;refine aF ?_;dsimp only;refine aR ?_;refine⟨_,rfl,8,rfl,by decide,by decide,?_⟩;refine cZ 8 (fun j ys σ Hj=>Same H3 Hj/\(∃o1,σ=[o1,some (.int i),some (.ref dr)])/\Els Hj ys ((dH L j).map (fun r=>(i:Int)::r))) ⟨Same.refl _,⟨_,rfl⟩,Els.nil⟩ Zx ?_ ?_
     .rintro j ys σ Hj hj hy ⟨sc,⟨o1,rfl⟩,kc⟩;refine⟨hj,fun x H' yv R hR=>?_⟩;obtain⟨eH,rfl⟩:=yv;subst H';have OE:=sc _ _ C5
      have hx:atI (L.map V.int) ((0:Int)+(j:Int))=some (.int (L.getD j 0)):=by
       have:(L.map V.int)[j]?=some (.int (L.getD j 0)):=by
        rw[zAb,zA7,zA0 Zz];rfl
       rw[Int.zero_add];exact du this
      have e0:((0:Int)+(j:Int))=(j:Int):=Int.zero_add _;refine aF ?_;refine⟨_,rfl,_,rfl,dr,_,_,_,rfl,rfl,SqL.of OE,hx,_,_,rfl,rfl,_,rfl,?_⟩;by_cases aE:0<L.getD j 0
      .rw[zAt aE];refine bK ⟨_,rfl,_,rfl,_,rfl,_,rfl,dr,_,_,_,rfl,rfl,SqL.of OE,hx,zL,fun t gy=>hR _ _ _ (by rw[zA2];show ys.length+1<=j+1;lia) ⟨sc.updR gy,⟨_,rfl⟩,?_⟩⟩;rw[fB,zAy aE,zA4];refine(kc.same (Same.upd gy)).app (Els.one ?_);rw[aa,e0];rfl
      .rw[zB0 aE];refine bA (hR _ _ _ Zz ⟨sc,⟨_,rfl⟩,?_⟩);rw[fB,zAv aE,zAn];exact kc
     .rintro ys σ Hj hy ⟨sc,_,kc⟩;refine⟨zA3 _,fun D hD=>?_⟩;have sD:=sc.updR (o:=.lst ys) hD;have ll:=zq ps ss sort year i;have:=ht.1;refine⟨l,D,xl,ys,rfl,rfl,sD _ _ rV,aa,by rw[sizeLine_eq];lia,fun p hp=>?_⟩;have sp:=Same.upd (o:=.lst (xl++ys)) hp;exact⟨p,_,_,_,xl++ys,rfl,(k9.trans sD).trans sp,aa,(((OD.same sD).app (kc.same (Same.upd (o:=.lst ys) hD))).same sp)⟩
    .rw[C4.no i year hd];refine bA ?_
     have e0:bM ps[i] ss i year=List.replicate 8 0:=by
      unfold bM;rw[zAv fun w=>hd ⟨Zz,Zz,by rw[zAi,ep];exact w.1,by rw[zAi,ep];exact w.2⟩]
     rw[e0,vJ,List.map_nil,zAn];exact⟨l,_,_,_,xl,rfl,k8,Lh,xt⟩
   .rw[zB0 (fun z=>hs (by injection z)),zAv hs,zAn];exact bA ⟨l,_,_,_,xl,rfl,kT,l7,vS⟩
  .rintro σ Hc ⟨l,x5,x6,x7,xl,rfl,k,el,ht⟩;rw[show xp.length=ps.length from rp.l]at ht;exact⟨_,rfl,q l xl Hc k el ht⟩
def cG(M:List (List Int)):List (List Int):=M.filter fun r=>decide (0<fl r 3)
def aO(ps:List (List Int))(r:List Int):Int:=fl (ps.getD (fl r 1).toNat []) 1
def keyOf(r:List Int):List Int:=[fl r 0,fl r 1,fl r 2]
def iG(p:List Int×Int):List Int:=[fl p.1 0,fl p.1 1,fl p.1 2,fl p.1 3-p.2]
def zr(p:List Int×Int):List Int:=[fl p.1 0,fl p.1 1,fl p.1 2,p.2]
theorem dF(a b:List (List Int)):cG (a++b)=cG a++cG b:=List.filter_append ..
theorem jV(Z:List (List Int×Int)):cG (Z.map zr)=bR Z:=by
 unfold cG bR;rw[List.filter_map];rfl
theorem mH(Z:List (List Int×Int)):cG (Z.map iG)=bh Z:=by
 unfold cG bh;rw[List.filter_map];congr 1;refine List.filter_congr fun p _=>?_;show decide (0<fl p.1 3-p.2)=decide (p.2<fl p.1 3);exact decide_eq_decide.mpr ⟨fun h=>by lia,fun h=>by lia⟩
theorem mK(a b:List (List Int×Int)):bR (a++b)=bR a++bR b:=by
 unfold bR;rw[List.filter_append,zA4]
theorem jW(a b:List (List Int×Int)):bh (a++b)=bh a++bh b:=by
 unfold bh;rw[List.filter_append,zA4]
theorem vL:∀{w:Int} {S:List (List Int)},0<=w->(∀r∈S,0<=fl r 3)->bR (S.zip (aW w S))=bR ((cG S).zip (aW w (cG S)))/\bh (S.zip (aW w S))=bh ((cG S).zip (aW w (cG S)))/\(aW w S).sum=(aW w (cG S)).sum
 |w,[],_,_=>⟨rfl,rfl,rfl⟩
 |w,r::S,hw,h=>by
  have h0:=h r (.head _);have hS:∀r∈S,0<=fl r 3:=fun q hq=>h q (.tail _ hq);by_cases hp:0<fl r 3
  .have e:cG (r::S)=r::cG S:=zB4 (p:=fun r=>decide (0<fl r 3)) (zAt hp);obtain⟨a,b,c⟩:=vL (w:=w-(if w<fl r 3 then w else fl r 3)) (S:=S) (by split<;>lia) hS;rw[e];unfold aW;rw[List.zip_cons_cons,List.zip_cons_cons];refine⟨?_,?_,?_⟩
   .rw[<-List.singleton_append,mK,a,<-mK,List.singleton_append]
   .rw[<-List.singleton_append,jW,b,<-jW,List.singleton_append]
   .rw[List.sum_cons,List.sum_cons,c]
  .have e:cG (r::S)=cG S:=zB7 (p:=fun r=>decide (0<fl r 3)) (by rw[Zp];exact hp);have hm:(if w<fl r 3 then w else fl r 3)=0:=by split<;>lia
   obtain⟨a,b,c⟩:=vL (w:=w) (S:=S) hw hS;rw[e]
   have em:aW w (r::S)=0::aW w S:=by
    show(if w<fl r 3 then w else fl r 3)::aW (w-(if w<fl r 3 then w else fl r 3)) S=_;rw[hm,Int.sub_zero]
   rw[em,List.zip_cons_cons];refine⟨?_,?_,?_⟩
   .rw[<-List.singleton_append,mK,a,show bR [(r,0)]=[]from rfl,List.nil_append]
   .rw[<-List.singleton_append,jW,b]
    have:bh [(r,0)]=[]:=by
     unfold bh;rw[zB7 (by rw[Zp];show¬0<fl r 3;exact hp)];rfl
    rw[this,List.nil_append]
   .rw[List.sum_cons,c,Int.zero_add]
theorem Cy(rs:List (List Int)):(srt rs).Pairwise (fun a b=>HT.lexLt b a=false):=(List.pairwise_mergeSort vI sI rs).imp fun{a b} h=>by
 unfold rle at h;rw[Bool.not_eq_true']at h;exact h
theorem eG(rs:List (List Int)):(srt rs).Perm rs:=List.mergeSort_perm rs rle
theorem vM(p:List Int->Bool)(M:List (List Int)):(srt M).filter p=srt (M.filter p):=gJ ((eG M).filter p) ((Cy M).filter p)
theorem vN{ps ss:List (List Int)}{sort year:Int}:∀{k:Nat} {r:List Int},r∈gH ps ss sort year k->∃(j h:Nat) (x:Int),j<k/\h<8/\fl (ps.getD j []) 1=sort/\r=[year,j,h,x]
 |0,r,hr=>by cases hr
 |k+1,r,hr=>by
  rcases zA6.mp (show r∈gH ps ss sort year k++gU ps ss sort year k from hr)with z|z
  .obtain⟨j,h,x,a,b⟩:=vN z;exact⟨j,h,x,Zz,b⟩
  .unfold gU at z;split at z
   .rename_i hs
    obtain⟨q,hq,rfl⟩:=zA5.mp z;unfold dH at hq;obtain⟨h,hh,rfl⟩:=zA5.mp hq;have:=List.mem_range.mp (zAq.mp hh).1;exact⟨k,h,_,Zz,this,hs,rfl⟩
   .cases z
theorem Cz{ps ss:List (List Int)}{sort year:Int}:∀k,((gH ps ss sort year k).map keyOf).Nodup
 |0=>List.nodup_nil
 |k+1=>by
  show((gH ps ss sort year k++gU ps ss sort year k).map keyOf).Nodup;rw[zA4,List.nodup_append];refine⟨Cz k,?_,fun a ha b hb e=>?_⟩
  .unfold gU;split
   .unfold dH;rw[zAr,zAr];refine List.Pairwise.map _ (R:=fun a b=>a≠b) (fun a b h e=>h ?_) (List.nodup_range.filter _);have e:[year,(k:Int),(a:Int)]=[year,(k:Int),(b:Int)]:=e;injection e with _ e;injection e with _ e;injection e with e;lia
   .exact List.nodup_nil
  .subst e;obtain⟨r,hr,e1⟩:=zA5.mp ha;obtain⟨j,h,x,a1,a2,a3,rfl⟩:=vN hr;obtain⟨r',mS,e2⟩:=zA5.mp hb;unfold gU at mS;split at mS
   .obtain⟨q,hq,rfl⟩:=zA5.mp mS;rw[<-e1]at e2;have e2:[year,(k:Int),_]=[year,(j:Int),(h:Int)]:=e2;injection e2 with _ e2;injection e2 with e2;lia
   .cases mS
theorem gw{ps ss:List (List Int)}{sort year:Int}{r:List Int}(hr:r∈aD ps ss sort year):fl r 0=year/\aO ps r=sort/\0<=fl r 1/\fl r 1<ps.length/\0<=fl r 2/\fl r 2<8:=by
 obtain⟨j,h,x,a1,a2,a3,rfl⟩:=vN hr;refine⟨rfl,?_,?_,?_,?_,?_⟩
 .show fl (ps.getD ((j:Int)).toNat []) 1=sort;rw[zAi];exact a3
 .show(0:Int)<=j;lia
 .show(j:Int)<ps.length;lia
 .show(0:Int)<=h;lia
 .show(h:Int)<8;lia
theorem zu{ps:List (List Int)}{Z:List (List Int×Int)}{n:Int}(h:∀p∈Z,aO ps p.1=n):∀r∈bh Z,aO ps r=n:=fun r hr=>by
 obtain⟨p,hp,rfl⟩:=zA5.mp hr;exact h p (zAq.mp hp).1
theorem Fv{ps ow:List (List Int)}{n:Int}:∀r∈aH ps ow n,aO ps r=n:=fun r hr=>zB8 (zAq.mp hr).2
theorem vO{c:List Int}{ps ss ow:List (List Int)}{y:Int}:∀n,∀r∈(yTo c ps ss ow y n).k,aO ps r<n
 |0,r,hr=>by cases hr
 |n+1,r,hr=>by
  rcases zA6.mp (show r∈(yTo c ps ss ow y n).k++bh _ from hr)with z|z
  .have:=vO (c:=c) (y:=y) n r z;lia
  .have:=zu (n:=n) (fun p hp=>by
    rcases zA6.mp (List.of_mem_zip (show(p.1,p.2)∈_ from hp)).1 with z|z
    .exact(gw z).2.1
    .exact Fv _ z) r z
   lia
structure Stg(c:List Int)(ps ss ow:List (List Int))(y:Int)(n:Nat)(M G:List (List Int)):Prop where
 kd:(M.map keyOf).Nodup
 ok:∀r∈M,r.length=4/\0<=fl r 1/\fl r 1<ps.length/\0<=fl r 3
 yr:∀r∈M,fl r 0<y\/(fl r 0=y/\aO ps r<n)
 pm:(cG M).Perm ((yTo c ps ss ow y n).k++ow.filter fun r=>decide ((n:Int)<=aO ps r))
 gn:cG G=(yTo c ps ss ow y n).g
 g4:∀r∈G,r.length=4
 len:M.length<=240*y.toNat+80*n
 glen:G.length<=n*(240*y.toNat+400)
def elder(ps M:List (List Int))(n:Nat):List (List Int):=srt (M.filter fun r=>decide (aO ps r=n))
def others(ps M:List (List Int))(n:Nat):List (List Int):=M.filter fun r=>!decide (aO ps r=n)
theorem fD{S:List (List Int)}{m:List Int}{f:List Int×Int->List Int}(hk:∀p,keyOf (f p)=keyOf p.1)(hl:m.length=S.length):((S.zip m).map f).map keyOf=S.map keyOf:=by
 rw[zAr]
 have:(keyOf∘f)=keyOf∘Prod.fst:=by
  funext p;exact hk p
 rw[this,<-zAr,List.map_fst_zip Zz]
theorem CG(ps ow:List (List Int))(n:Nat):(ow.filter fun r=>decide ((n:Int)<=aO ps r)).filter (fun r=>decide (aO ps r=n))=aH ps ow n:=by
 rw[List.filter_filter];unfold aH;refine List.filter_congr fun r _=>?_;show(decide (aO ps r=n)&&decide ((n:Int)<=aO ps r))=decide (aO ps r=n);by_cases h:aO ps r=n
 .rw[zAt h,zAt Zz];rfl
 .rw[zB0 h];rfl
theorem zx(ps ow:List (List Int))(n:Nat):(ow.filter fun r=>decide ((n:Int)<=aO ps r)).filter (fun r=>!decide (aO ps r=n))=ow.filter fun r=>decide (((n+1:Nat):Int)<=aO ps r):=by
 rw[List.filter_filter];refine List.filter_congr fun r _=>?_;show(!decide (aO ps r=n)&&decide ((n:Int)<=aO ps r))=decide (((n+1:Nat):Int)<=aO ps r);by_cases h:aO ps r=n
 .rw[zAt h,zB0 (p:=((n+1:Nat):Int)<=aO ps r) Zz];rfl
 .rw[zB0 h];show decide ((n:Int)<=aO ps r)=_;exact decide_eq_decide.mpr ⟨fun z=>by lia,fun z=>by lia⟩
theorem Stg.elder_pos{c:List Int}{ps ss ow:List (List Int)}{y:Int}{n:Nat}{M G:List (List Int)}(g:Stg c ps ss ow y n M G)(so:ow.Pairwise (fun a b=>HT.lexLt b a=false)):cG (elder ps M n)=aH ps ow n:=by
 unfold elder cG;rw[vM,List.filter_filter]
 have e:(M.filter fun r=>decide (0<fl r 3)&&decide (aO ps r=n))=(cG M).filter fun r=>decide (aO ps r=n):=by
  unfold cG;rw[List.filter_filter];exact List.filter_congr fun r _=>Bool.and_comm _ _
 rw[e];refine(gJ ?_ (so.filter _)).symm;have:=g.pm.symm.filter fun r=>decide (aO ps r=n);rw[List.filter_append,CG,List.filter_eq_nil_iff.mpr,List.nil_append]at this
 .exact this
 .intro r hr;have:=vO n r hr;rw[Zp];lia
theorem CJ{w:Int}{cl:List (List Int)}(hw:0<=w)(hc:∀r∈cl,r.length=4/\1<=fl r 3/\fl r 3<=99)(hz:cl.length<=80):∀p∈cl.zip (aZ w cl),p.2<=fl p.1 3:=fun p hp=>by
 obtain⟨i,hi⟩:=List.mem_iff_getElem?.mp hp;obtain⟨h1,h2⟩:=List.getElem?_zip_eq_some.mp hi;have e3:(wts cl)[i]?=some (fl p.1 3):=by unfold wts;rw[zAb,h1];rfl
 unfold aZ at h2;split at h2
 .rw[e3]at h2;rw[<-zAl h2];exact Int.le_refl _
 .rename_i hs
  have ok:K31P.OkW (wts cl):=by
   refine⟨?_,?_,fun x hx=>?_⟩
   .have:=(zAa.mp e3).1;lia
   .unfold wts;rw[zA1];exact hz
   .obtain⟨r,hr,rfl⟩:=zA5.mp hx;exact(hc r hr).2
  exact(K31P.res_get ok hw Zz h2 e3).2
theorem Stg.step{c:List Int}{ps ss ow:List (List Int)}{y:Int}{n:Nat}{M G:List (List Int)}(g:Stg c ps ss ow y n M G)(so:ow.Pairwise (fun a b=>HT.lexLt b a=false))(hc:∀x∈c,0<=x)(hu:un ps ss=none)(h5:∀s∈ss,s.length=5)(okp:∀r∈ps,okP r)(hl:ps.length<=10)(ho:∀r∈ow,okO ps r)(h3:n<3)
  {w:Int} {cl:List (List Int)} {sh mg:List Int} (ew:w=c.getD n 0+(yTo c ps ss ow y n).d) (ec:cl=aD ps ss n y) (es:sh=aZ w cl) (em:mg=aW (w-sh.sum) (elder ps M n)):
  Stg c ps ss ow y (n+1) (others ps M n++((elder ps M n).zip mg).map iG++(cl.zip sh).map iG) (G++(cl.zip sh).map zr++((elder ps M n).zip mg).map zr)/\w-sh.sum-mg.sum=(yTo c ps ss ow y (n+1)).d/\0<=w-sh.sum:=by
 have ea:=g.elder_pos so
 have hE:∀r∈elder ps M n,r∈M/\aO ps r=n:=fun r hr=>by
  obtain⟨a,b⟩:=zAq.mp ((eG _).mem_iff.mp hr);exact⟨a,zB8 b⟩
 have nn:=zj (y:=y) hc hu h5 okp hl ho n
 have hw:0<=w:=by
  have:=gr hc n;lia
 have f6:=dD (sort:=n) (year:=y) hu h5 okp;have kg:=cA (ss:=ss) (sort:=n) (year:=y) hl;have C6:sh.length=cl.length:=by rw[es];exact shares_len
 have RJ:mg.length=(elder ps M n).length:=by rw[em,di]
 have zk:=sG (ow:=[]) hw (by rw[ec];exact f6) (by rw[ec];exact kg) (fun r hr=>by cases hr) (cl:=cl);unfold shr at zk;rw[<-es,show aW (w-sh.sum) []=[]from rfl,zAn]at zk;have iP:0<=w-sh.sum:=Zz
 obtain⟨m1,m2,m3⟩:=vL (w:=w-sh.sum) (S:=elder ps M n) iP fun r hr=>(g.ok r (hE r hr).1).2.2.2;rw[<-em,ea]at m1 m2 m3
 have ez:(aD ps ss n y++aH ps ow n).zip (shr (c.getD n 0+(yTo c ps ss ow y n).d) (aD ps ss n y) (aH ps ow n))=cl.zip sh++(aH ps ow n).zip (aW (w-sh.sum) (aH ps ow n)):=by
  unfold shr;rw[<-ew,<-ec,<-es,List.zip_append C6.symm]
 have ln:=(xG (w:=c.getD n 0+(yTo c ps ss ow y n).d) Zz f6 kg fun r hr=>by have:=(gW (sort:=n) ho r hr).2.2.2;lia).1;refine⟨⟨?_,?_,?_,?_,?_,?_,?_,?_⟩,?_,iP⟩
 .have p1:(others ps M n++((elder ps M n).zip mg).map iG).map keyOf |>.Perm (M.map keyOf):=by
   rw[zA4,fD (f:=iG) (fun _=>rfl) RJ,<-zA4];refine List.Perm.map _ ?_;refine(List.Perm.append_left _ (eG _)).trans (List.perm_append_comm.trans ?_);exact List.filter_append_perm (fun r=>decide (aO ps r=n)) M
  rw[zA4,List.nodup_append];refine⟨p1.nodup_iff.mpr g.kd,?_,fun a ha b hb e=>?_⟩
  .rw[fD (f:=iG) (fun _=>rfl) C6,ec];exact Cz _
  .subst e;obtain⟨r,hr,e1⟩:=zA5.mp (p1.mem_iff.mp ha);rw[fD (f:=iG) (fun _=>rfl) C6,ec]at hb;obtain⟨q,hq,e2⟩:=zA5.mp hb;obtain⟨a1,a2,_⟩:=gw hq;rw[<-e1]at e2;unfold keyOf at e2;injection e2 with e3 e2;injection e2 with e4 e2;have:aO ps r=aO ps q:=by unfold aO;rw[e4]
   rcases g.yr r hr with z|z<;>lia
 .intro r hr;rcases zA6.mp hr with hr|hr
  .rcases zA6.mp hr with hr|hr
   .exact g.ok r (zAq.mp hr).1
   .obtain⟨p,hp,rfl⟩:=zA5.mp hr;obtain⟨h1,h2⟩:=List.of_mem_zip (show(p.1,p.2)∈_ from hp);obtain⟨k1,k2,k3,k4⟩:=g.ok _ (hE _ h1).1;refine⟨rfl,k2,k3,?_⟩;show 0<=fl p.1 3-p.2
    have:∀{w:Int} {S:List (List Int)},(∀p∈S.zip (aW w S),p.2<=fl p.1 3):=fun{w S}=>by
     induction S generalizing w with
     |nil=>intro p hp;cases hp
     |cons r S ih=>
      intro p hp;unfold aW at hp;rw[List.zip_cons_cons]at hp;rcases zAo.mp hp with z|z
      .rw[z];show(if w<fl r 3 then w else fl r 3)<=fl r 3;split<;>lia
      .exact ih p z
    rw[em]at hp;have:=this p hp;lia
  .obtain⟨p,hp,rfl⟩:=zA5.mp hr;obtain⟨h1,h2⟩:=List.of_mem_zip (show(p.1,p.2)∈_ from hp);rw[ec]at h1;obtain⟨_,_,k2,k3,_⟩:=gw h1;refine⟨rfl,k2,k3,?_⟩;show 0<=fl p.1 3-p.2;have:=CJ (w:=w) (cl:=cl) hw (by rw[ec];exact f6) (by rw[ec];exact kg) p (by rw[<-es];exact hp);lia
 .intro r hr;rcases zA6.mp hr with hr|hr
  .rcases zA6.mp hr with hr|hr
   .rcases g.yr r (zAq.mp hr).1 with z|z
    .exact .inl z
    .exact .inr ⟨z.1,Zz⟩
   .obtain⟨p,hp,rfl⟩:=zA5.mp hr;obtain⟨h1,h2⟩:=List.of_mem_zip (show(p.1,p.2)∈_ from hp);rcases g.yr p.1 (hE _ h1).1 with z|z
    .exact .inl z
    .exact .inr ⟨z.1,by show aO ps p.1<_;lia⟩
  .obtain⟨p,hp,rfl⟩:=zA5.mp hr;obtain⟨h1,h2⟩:=List.of_mem_zip (show(p.1,p.2)∈_ from hp);rw[ec]at h1;obtain⟨k1,k2,_⟩:=gw h1;exact .inr ⟨k1,by show aO ps p.1<_;lia⟩
 .rw[dF,dF,mH,mH,m2]
  have eo:cG (others ps M n)=(cG M).filter fun r=>!decide (aO ps r=n):=by
   unfold cG others;rw[List.filter_filter,List.filter_filter];exact List.filter_congr fun r _=>Bool.and_comm _ _
  have po:=g.pm.filter fun r=>!decide (aO ps r=n);rw[<-eo,List.filter_append,zx,List.filter_eq_self.mpr]at po
  .show List.Perm _ (((yTo c ps ss ow y n).k++bh _)++_);rw[ez,jW];refine(List.Perm.append_right _ (List.Perm.append_right _ po)).trans ?_;rw[zAf,zAf,zAf];refine List.Perm.append_left _ ?_;refine List.perm_append_comm.trans ?_;exact List.Perm.append_right _ List.perm_append_comm
  .intro r hr;have:=vO n r hr;rw[zB0 Zz];rfl
 .rw[dF,dF,jV,jV,m1,g.gn];show _=(yTo c ps ss ow y n).g++bR _;rw[ez,mK,zAf]
 .intro r hr;rcases zA6.mp hr with hr|hr
  .rcases zA6.mp hr with hr|hr
   .exact g.g4 r hr
   .obtain⟨p,hp,rfl⟩:=zA5.mp hr;rfl
  .obtain⟨p,hp,rfl⟩:=zA5.mp hr;rfl
 .have e1:(others ps M n).length+(elder ps M n).length=M.length:=by
   have:=(List.filter_append_perm (fun r=>decide (aO ps r=n)) M).length_eq;rw[zA2]at this;have:=(eG (M.filter fun r=>decide (aO ps r=n))).length_eq;unfold others elder;lia
  rw[zA2,zA2,zA1,zA1,zAs,zAs];have:=g.len;have:cl.length<=80:=by rw[ec];exact kg
  lia
 .have e1:(elder ps M n).length<=M.length:=by
   unfold elder;rw[(eG (M.filter fun r=>decide (aO ps r=n))).length_eq];exact List.length_filter_le _ _
  rw[zA2,zA2,zA1,zA1,zAs,zAs];have:=g.len;have:=g.glen;have:cl.length<=80:=by rw[ec];exact kg
  rw[Nat.succ_mul];lia
 .show _=c.getD n 0+(yTo c ps ss ow y n).d-bW _;rw[ln,m3];unfold shr;rw[<-ew,<-ec,<-es,List.sum_append];lia
def kvS(ps:List (List Int))(r:List Int):List Key×V:=((aO ps r::keyOf r).map Sum.inl,.int (fl r 3))
def LkS(H:Hp)(d:Addr)(ps M:List (List Int)):Prop:=∃Mo:List (List Int),H d=some (.dT (Mo.map (kvS ps)))/\Mo.Perm M
theorem mL:∀{a b:List Int},(a.map (Sum.inl:Int->Key))=b.map Sum.inl->a=b
 |[],[],_=>rfl
 |[],_::_,h=>by simp at h
 |_::_,[],h=>by simp at h
 |x::a,y::b,h=>by
  rw[zAk,zAk]at h;injection h with h1 h2;injection h1 with h1;rw[h1,mL h2]
theorem LkS.same{H H':Hp}{d:Addr}{ps M:List (List Int)}(h:LkS H d ps M)(s:Same H H'):LkS H' d ps M:=by
 obtain⟨Mo,e,pm⟩:=h;exact⟨Mo,s _ _ e,pm⟩
theorem Fw{ps Mo:List (List Int)}{r:List Int}(h:¬keyOf r∈Mo.map keyOf):putK (Mo.map (kvS ps)) ((aO ps r::keyOf r).map Sum.inl) (.int (fl r 3))=(Mo++[r]).map (kvS ps):=by
 rw[jF,zA4]
 .rfl
 .cases zv:cV (Mo.map (kvS ps)) ((aO ps r::keyOf r).map Sum.inl)with
  |none=>rfl
  |some v=>
   have h1:(cV (Mo.map (kvS ps)) ((aO ps r::keyOf r).map Sum.inl)).isSome=true:=by rw[zv];rfl
   rw[<-dX,List.any_eq_true]at h1;obtain⟨p,hp,e⟩:=h1;have e:=zB8 e;obtain⟨q,hq,rfl⟩:=zA5.mp hp;have e:=mL (show(aO ps q::keyOf q).map Sum.inl=_ from e);injection e with _ e;exact absurd (zA5.mpr ⟨q,hq,e⟩) h
theorem oH{K:Frag}{te:TE}{l:Addr}{xs:List V}{cl:List (List Int)}{dv:St}{H0:Hp}{Fin:List V->Hp->Prop}(ep:H0 l=some (.lst xs))(aT:Els H0 xs (cl.map List.tail))(h4:∀r∈cl,r.length=4)(hl:cl.length<sizeLine)
  (nK:∀(t:Addr) (n h x:Int) (Q:VK),H0 t=some (.tup [.int n,.int h,.int x])->Q (.int x) H0->te (dv.set 0 (some (.ref t))) H0 Q) (fin:Fin ((wts cl).map V.int) H0):jD (Itl K l) (bH 0) tR te Fin dv H0:=by
 refine K31.comp_gen cl.length (fun j ys σ Hj=>Hj=H0/\(∀o,σ.set 0 o=dv.set 0 o)/\ys=(wts (cl.take j)).map V.int) ⟨rfl,fun _=>rfl,rfl⟩ hl ?_ ?_
 .rintro j ys σ Hj hj hy ⟨rfl,iE,rfl⟩;obtain⟨t,ex,et⟩:=aT.2 j cl[j].tail (by rw[zAb,zA0 hj];rfl);have e4:=h4 _ (zAh hj)
  have C7:cl[j].tail=[fl cl[j] 1,fl cl[j] 2,fl cl[j] 3]:=by
   conv=>lhs;rw[bJ e4]
   rfl
  rw[C7]at et;refine⟨⟨_,_,SqL.of ep,ex⟩,fun v H' y' R hR=>?_⟩;obtain⟨rfl,y'⟩:=y';have hv:=y' _ (SqL.of ep);rw[ex]at hv;cases hv;show te (σ.set 0 (some (.ref t))) _ _;rw[iE];refine nK t _ _ (fl cl[j] 3) _ et (hR _ _ _ ⟨rfl,fun o=>by rw[List.set_set],?_⟩);unfold wts;rw[zAj,zA0 hj,zA4,zA4];rfl
 .rintro ys σ Hj hy ⟨rfl,iE,rfl⟩;rw[zAm];exact⟨⟨_,SqL.of ep,by rw[aT.1,zA1];exact zA3 _⟩,fin⟩
inductive SpServedI(vs:List V)(H:Hp)(Q:VK):Prop
 |mk:∀lk ps M l xs cl y sort w,(vs=[.ref lk,.ref l,.int y,.int sort,.int w])->(LkS H lk ps M)->(M.length<=10000)->(H l=some (.lst xs))->(Els H xs (cl.map List.tail))->((∀r∈cl,r.length=4/\1<=fl r 3/\fl r 3<=99))->(cl.length<=80)->((∀r∈cl,fl r 0=y/\aO ps r=sort))->((cl.map keyOf).Nodup)->((∀r∈cl,¬keyOf r∈M.map keyOf))->(0<=w)->(∀q H',(∀b o,b≠lk->H b=some o->H' b=some o)->H' q=some (.lst ((aZ w cl).map V.int))->H q=none->LkS H' lk ps (M++bh (cl.zip (aZ w cl)))->Q (.ref q) H')->SpServedI  vs H Q
def uK:Sp:=fun vs H Q _=>SpServedI  vs H Q
theorem zy(cl:List (List Int)):bh (cl.zip (wts cl))=[]:=by
 unfold bh wts;rw[List.filter_eq_nil_iff.mpr,List.map_nil];intro p hp;obtain⟨i,hi⟩:=List.mem_iff_getElem?.mp hp;obtain⟨h1,h2⟩:=List.getElem?_zip_eq_some.mp hi;rw[zAb,h1]at h2;have h2:fl p.1 3=p.2:=zAl h2;rw[Zp];lia
theorem uL{Z:List (List Int×Int)}{k:List Int}(h:k∈(bh Z).map keyOf):∃p∈Z,keyOf p.1=k:=by
 obtain⟨r,hr,e⟩:=zA5.mp h;obtain⟨p,hp,rfl⟩:=zA5.mp hr;exact⟨p,(zAq.mp hp).1,e⟩
theorem qJ:bootBuiltins "sum"=some (.builtin "sum"):=by decide +kernel
theorem HJ:(["_law_one"]:List Str).Nodup:=by decide +kernel
theorem scLS:FnScope ["_law_lacks","_law_some","_law_year","_law_sort","_law_have","_law_wanted","_law_parts","_law_number","_law_holder","_law_sacks","_law_part"] ["_law_lacks","_law_some","_law_year","_law_sort","_law_have"] (aJ (top 65)):=fS
theorem zz(F:Fun K "_law_served" "_law_served" (top 65) f fd)(Ts:mg "sum"=none)(Tz:mg "zip"=none)(Tl:mg "list"=none)(c1:Cal P w K mg base 1 "_law_parted" ["_law_sacks","_law_weights"] K31Q.spLParts):FnOk P w K mg base CX0 2 f fd ["_law_lacks","_law_some","_law_year","_law_sort","_law_have"] uK:=by
 refine F.ok scLS (fun vs H Q E h=>?_) (fun ai A outer s H vs Q E hr h=>?_)
 .obtain⟨lk,ps,M,l,xs,cl,y,sort,w,rfl,_⟩:=h;rfl
 .obtain⟨lk,ps,M,l,xs,cl,y,sort,w,rfl,la,lM,el,aT,f6,RK,EH,Fc,Fh,w0,q⟩:=h
  refine⟨_,aB (pss 5 scLS.nd (aM (cu rfl) rfl Ts qJ (aq (bx ["_law_one"] [none] rfl (bL (pv 1)) (fun C fp Zt s₂ H₂=>⟨pgn 0 HJ,bI,pX (K31P.ix_tupK (K:=K) rfl) (pv 0) aA⟩) (fun C=>trivial) ⟨rfl,rfl,rfl,rfl⟩) aj)))
   (aB (cU (bf Ag (pv 4) (pv 5) (bu _)) (aG (aQ (bx ["_law_one"] [none] rfl (bL (pv 1)) (fun C fp Zt s₂ H₂=>⟨pgn 0 HJ,bI,pX (K31P.ix_tupK (K:=K) rfl) (pv 0) aA⟩) (fun C=>trivial) ⟨rfl,rfl,rfl,rfl⟩))) bz)
   (aB (pss 6 scLS.nd (aK c1 hr (aq (pv 4) (aq (bx ["_law_one"] [none] rfl (bL (pv 1)) (fun C fp Zt s₂ H₂=>⟨pgn 0 HJ,bI,pX (K31P.ix_tupK (K:=K) rfl) (pv 0) aA⟩) (fun C=>trivial) ⟨rfl,rfl,rfl,rfl⟩) aj))))
   (aB (bN zB3 rfl (ZT.pi_zip false true rfl Tz (aq (pv 1) (aq (pv 6) aj))) (bF rfl (ao (bF rfl (ao (pgn 7 scLS.nd) (ao (pgn 8 scLS.nd) (ao (pgn 9 scLS.nd) aV)))) (ao (pgn 10 scLS.nd) aV)))
    (aG (cU (bf jf (pv 10) (pv 9) (bu _)) (aG (wu (fM hr) (pv 0) (bB (aq (pv 3) (aq (pv 2) (aq (pv 7) (aq (pv 8) aj))))) (aU dW (pv 9) (pv 10)) rfl)) bz)))
   (aG (aQ (cR jB rfl Tl vA (aq (pv 6) aj))))))),?_⟩
  have h4:∀r∈cl,r.length=4:=fun r hr=>(f6 r hr).1;have hz:cl.length<sizeLine:=by rw[sizeLine_eq];lia
  obtain⟨Xg,cx,Xh⟩:=id la
  have vT:l≠lk:=fun z=>by rw[z,cx]at el;cases el
  refine aC (aR ?_);refine⟨_,rfl,l,rfl,⟨_,SqL.of el⟩,oH el aT h4 hz (fun t n h x Q e q=>⟨_,rfl,t,_,2,.int x,rfl,rfl,SqT.of e,rfl,q⟩) fun D hD=>?_⟩;refine⟨D,wts cl,rfl,.inl (SqL.of aa),?_⟩;have s1:=Same.upd (o:=.lst ((wts cl).map V.int)) hD;generalize upd H D (.lst ((wts cl).map V.int))=H1 at s1⊢;clear hD;refine aF ?_;dsimp only;refine aC ?_;refine⟨_,rfl,_,rfl,_,_,rfl,rfl,_,rfl,?_⟩;by_cases hw:(wts cl).sum<=w
  .have ku:aZ w cl=wts cl:=by unfold aZ;rw[zAy hw]
   rw[zAt (show w≥(wts cl).sum from hw)];refine bK ?_;refine⟨_,rfl,l,rfl,⟨_,SqL.of (s1 _ _ el)⟩,oH (s1 _ _ el) (aT.same s1) h4 hz (fun t n h x Q e q=>⟨_,rfl,t,_,2,.int x,rfl,rfl,SqT.of e,rfl,q⟩) fun D hD=>?_⟩;have s2:=s1.updR (o:=.lst ((wts cl).map V.int)) hD;refine q D _ (fun b o _ e=>s2 _ _ e) (by rw[ku];exact aa) (s1.free hD) ?_;rw[ku,zy,zAn];exact la.same s2
  have ku:aZ w cl=K31P.res w (wts cl):=by unfold aZ;rw[zAv hw]
  rw[decide_eq_false (show¬w≥(wts cl).sum from hw)];refine bA (eF ?_);dsimp only
  have RL:K31P.OkW (wts cl):=by
   refine⟨?_,by unfold wts;rw[zA1];exact RK,fun x hx=>?_⟩
   .cases z:cl with
    |nil=>
     rw[z]at hw;exact absurd w0 hw
    |cons a b=>
     unfold wts;rw[zA1];exact Nat.succ_pos _
   .obtain⟨r,hr,rfl⟩:=zA5.mp hx;exact(f6 r hr).2
  rw[ku]at q;have Lj:(K31P.res w (wts cl)).length=cl.length:=by rw[K31P.res_len];unfold wts;rw[zA1]
  refine aC (aR ?_);refine⟨_,rfl,_,rfl,l,rfl,⟨_,SqL.of (s1 _ _ el)⟩,oH (s1 _ _ el) (aT.same s1) h4 hz (fun t n h x Q e q=>⟨_,rfl,t,_,2,.int x,rfl,rfl,SqT.of e,rfl,q⟩) fun D hD=>?_⟩;have s2:=s1.updR (o:=.lst ((wts cl).map V.int)) hD;refine⟨w,D,wts cl,rfl,aa,RL,w0,Zz,fun H2 tp s3 gT=>?_⟩;have sA:=s2.trans s3;clear s1 s2 s3 hD;generalize K31P.res w (wts cl)=sh at q ku Lj gT;have RM:=la.same sA;have OF:=sA _ _ el;have Ll:=aT.same sA;refine aF ?_;dsimp only;refine aC ?_;have OG:xs.length=cl.length:=by rw[aT.1,zA1]
  refine⟨_,rfl,_,rfl,l,tp,_,_,rfl,SqL.of OF,SqT.of gT,?_⟩;refine ZT.for_zip (t1:=false) (t2:=true) (xs:=xs) (ys:=sh.map V.int) (fun j σ Hj=>∃x7 x8 x9 bq,σ=[some (.ref lk),some (.ref l),some (.int y),some (.int sort),some (.int w),some (.int (wts cl).sum),some (.ref tp),x7,x8,x9,bq]/\(∀b o,b≠lk->H b=some o->Hj b=some o)/\Hj l=some (.lst xs)/\Els Hj xs (cl.map List.tail)/\Hj tp=some (.tup (sh.map V.int))/\LkS Hj lk ps (M++bh ((cl.zip sh).take j))) (by rw[zA1];lia) ?_ ?_ ?_ ?_
  .exact⟨none,none,none,none,rfl,fun b o _ e=>sA _ _ e,OF,Ll,gT,by rw[List.take_zero,show bh []=[]from rfl,zAn];exact RM⟩
  .rintro j σ Hj hj ⟨x7,x8,x9,bq,rfl,kj,Fm,oQ,mh,zS⟩;exact⟨SqL.of Fm,SqT.of mh⟩
  .rintro j x z σ Hj T0 hx dP ⟨x7,x8,x9,bq,rfl,kj,Fm,oQ,mh,zS⟩ nT
   have hj:j<cl.length:=by
    have:=(zAa.mp hx).1;lia
   have C8:j<sh.length:=Zz
   obtain⟨t,ex,et⟩:=oQ.2 j cl[j].tail (by rw[zAb,zA0 hj];rfl);rw[hx]at ex;cases ex;rw[zAb,zA0 C8]at dP;cases dP
   have C7:cl[j].tail=[fl cl[j] 1,fl cl[j] 2,fl cl[j] 3]:=by
    conv=>lhs;rw[bJ (h4 _ (zAh hj))]
    rfl
   rw[C7]at et;obtain⟨ey,es⟩:=EH _ (zAh hj);have Lm:(cl.zip sh)[j]?=some (cl[j],sh[j]):=by rw[List.getElem?_zip_eq_some];exact⟨zA0 hj,zA0 C8⟩
   have bP:(cl.zip sh).take (j+1)=(cl.zip sh).take j++[(cl[j],sh[j])]:=by rw[zAj,Lm];rfl
   have sT:=Same.upd (o:=.tup [V.ref t,.int sh[j]]) nT;have kT:∀b o,b≠lk->H b=some o->upd Hj T0 (.tup [V.ref t,.int sh[j]]) b=some o:=fun b o n e=>sT _ _ (kj b o n e);have l7:=sT _ _ Fm;have xw:=oQ.same sT;have xy:=sT _ _ mh;have Ln:=zS.same sT;have OH:=sT _ _ et;have eT:=aa (H:=Hj) (a:=T0) (o:=.tup [V.ref t,.int sh[j]]);generalize upd Hj T0 (.tup [V.ref t,.int sh[j]])=H6 at kT l7 xw xy Ln OH eT⊢;refine⟨T0,_,rfl,SqT.of eT,rfl,_,_,rfl,t,_,rfl,SqT.of OH,rfl,_,_,rfl,_,_,rfl,_,_,rfl,rfl,_,_,rfl,rfl,?_⟩;dsimp only;rw[bP,jt];refine⟨_,rfl,_,rfl,_,_,rfl,rfl,_,rfl,?_⟩;by_cases ax:sh[j]<fl cl[j] 3
   .rw[zAt ax,zAy (show(cl[j],sh[j]).2<fl (cl[j],sh[j]).1 3 from ax)];refine bK ?_;obtain⟨Mo,me,Lo⟩:=Ln
    obtain⟨r,er⟩:∃r:List Int,r=[fl cl[j] 0,fl cl[j] 1,fl cl[j] 2,fl cl[j] 3-sh[j]]:=⟨_,rfl⟩
    have OI:keyOf r=keyOf cl[j]:=by rw[er];rfl
    have RN:aO ps r=sort:=by rw[<-es,er];rfl
    have nk:¬keyOf r∈Mo.map keyOf:=fun hm=>by
     rw[OI]at hm;have hm:=(Lo.map keyOf).mem_iff.mp hm;rw[zA4]at hm;rcases zA6.mp hm with z|z
     .exact Fh _ (zAh hj) z
     .obtain⟨p,hp,e⟩:=uL z;obtain⟨i,hi⟩:=List.mem_iff_getElem?.mp hp;rw[List.getElem?_take]at hi;split at hi
      .rename_i ck
       obtain⟨h1,_⟩:=List.getElem?_zip_eq_some.mp hi;obtain⟨dQ,h1⟩:=zAa.mp h1;have:=List.pairwise_iff_getElem.mp Fc i j (by rw[zA1];exact dQ) (by rw[zA1];exact hj) ck;rw[List.getElem_map,List.getElem_map,h1]at this;exact this e
      .cases hi
    have pn:=Fw (ps:=ps) nk;refine⟨_,rfl,_,rfl,_,_,rfl,rfl,_,rfl,_,rfl,_,rfl,_,rfl,_,rfl,zL,fun tk mE=>?_⟩;have sK:=Same.upd (o:=.tup [V.int sort,V.int y,V.int (fl cl[j] 1),V.int (fl cl[j] 2)]) mE;refine⟨lk,_,rfl,DPut.t (k:=(aO ps r::keyOf r).map Sum.inl) (sK _ _ me) ?_ ?_,?_⟩
    .rw[aa,RN,OI,zAr];show some (HO.tup [V.int sort,V.int y,_,_])=some (HO.tup [V.int sort,V.int (fl cl[j] 0),_,_]);rw[ey];rfl
    .rw[zA1,Lo.length_eq,zA2,sizeLine_eq]
     have:(bh ((cl.zip sh).take j)).length<=80:=by
      unfold bh;rw[zA1];refine Nat.le_trans (List.length_filter_le _ _) ?_;rw[zAd,zAs];lia
     lia
    have RO:fl r 3=fl cl[j] 3-sh[j]:=by rw[er];rfl
    have pn:putK (Mo.map (kvS ps)) ((aO ps r::keyOf r).map Sum.inl) (.int (fl cl[j] 3-sh[j]))=(Mo++[r]).map (kvS ps):=by rw[<-RO];exact pn
    rw[pn]
    have kt:∀b z,H6 b=some (.tup z)->upd (upd H6 tk (.tup [V.int sort,V.int y,V.int (fl cl[j] 1),V.int (fl cl[j] 2)])) lk (.dT ((Mo++[r]).map (kvS ps))) b=some (.tup z):=fun b z e=>by
     rw[au fun w=>by rw[w,me]at e;cases e];exact sK _ _ e
    refine⟨_,_,_,_,rfl,fun b o n e=>?_,?_,xw.keep kt,kt _ _ xy,⟨Mo++[r],aa,?_⟩⟩
    .rw[au n];exact sK _ _ (kT b o n e)
    .rw[au vT];exact sK _ _ l7
    .rw[<-zAf];refine(Lo.append_right _).trans ?_;rw[er]
   .rw[zB0 ax,zAv (show¬(cl[j],sh[j]).2<fl (cl[j],sh[j]).1 3 from ax),zAn];exact bA ⟨_,_,_,_,rfl,kT,l7,xw,xy,Ln⟩
  .rintro σ Hj ⟨x7,x8,x9,bq,rfl,kj,Fm,oQ,mh,zS⟩;dsimp only;refine iw ?_;refine⟨_,rfl,tp,_,rfl,.inr (SqT.of mh),fun ql Dx=>?_⟩;have sq:=Same.upd (o:=.lst (sh.map V.int)) Dx;refine q ql _ (fun b o n e=>sq _ _ (kj b o n e)) aa ?_ ?_
   .cases z:H ql with
    |none=>rfl
    |some o=>
     by_cases e:ql=lk
     .obtain⟨Mo,e1,_⟩:=zS;rw[e,e1]at Dx;cases Dx
     .rw[kj ql o e z]at Dx;cases Dx
   .have:(cl.zip sh).take xs.length=cl.zip sh:=List.take_of_length_le (by rw[zAs];lia);rw[this]at zS;exact zS.same sq
def dh(ps:List (List Int))(r:List Int):List Int:=aO ps r::keyOf r
def ju(ps M:List (List Int)):List (List Int):=M.mergeSort fun a b=>rle (dh ps a) (dh ps b)
theorem mO(ps M:List (List Int)):(ju ps M).Perm M:=List.mergeSort_perm M _
theorem xN(ps M:List (List Int)):(ju ps M).Pairwise (fun a b=>HT.lexLt (dh ps b) (dh ps a)=false):=(List.pairwise_mergeSort (le:=fun a b=>rle (dh ps a) (dh ps b)) (fun a b c h1 h2=>vI _ _ _ h1 h2) (fun a b=>sI _ _) M).imp fun{a b} h=>by
 have h:rle (dh ps a) (dh ps b)=true:=h;unfold rle at h;rw[Bool.not_eq_true']at h;exact h
theorem zF(ps M:List (List Int)):(ju ps M).map (dh ps)=srt (M.map (dh ps)):=by
 refine gJ ((mO ps M).map _) ?_;rw[List.pairwise_map];exact xN ps M
theorem CK{a b:List Int}(ha:a.length=4)(hb:b.length=4)(hk:keyOf a≠keyOf b)(h:HT.lexLt (keyOf b) (keyOf a)=false):HT.lexLt b a=false:=by
 rw[bJ ha,bJ hb];unfold keyOf at h hk;simp only[HT.lexLt_cons]at h⊢;by_cases e0:fl b 0=fl a 0
 .rw[zAy e0]at h⊢;by_cases e1:fl b 1=fl a 1
  .rw[zAy e1]at h⊢;by_cases e2:fl b 2=fl a 2
   .exact absurd (by rw[e0,e1,e2]) hk
   .rw[zAv e2]at h⊢;exact h
  .rw[zAv e1]at h⊢;exact h
 .rw[zAv e0]at h⊢;exact h
def old(ps:List (List Int))(n:Nat)(y:Int)(r:List Int):Bool:=decide (aO ps r=n)&&decide (fl r 0<y)
theorem CN{c:List Int}{ps ss ow:List (List Int)}{y:Int}{n:Nat}{M G M1 N:List (List Int)}(g:Stg c ps ss ow y n M G)(pm:M1.Perm (M++N))(hN:∀r∈N,fl r 0=y):(ju ps M1).filter (old ps n y)=elder ps M n:=by
 have pf:((ju ps M1).filter (old ps n y)).Perm (M.filter fun r=>decide (aO ps r=n)):=by
  refine(((mO ps M1).trans pm).filter _).trans (.of_eq ?_);rw[List.filter_append,List.filter_eq_nil_iff (l:=N).mpr fun r hr=>?_,zAn]
  .refine List.filter_congr fun r hr=>?_;unfold old;by_cases e:aO ps r=n
   .rw[zAt e,zAt (p:=fl r 0<y) (by rcases g.yr r hr with z|z<;>lia)];rfl
   .rw[zB0 e];rfl
  .unfold old;rw[zB0 (p:=fl r 0<y) (by have:=hN r hr;lia),Bool.and_false];exact zAg
 unfold elder;refine gJ pf ?_;have nd:(((ju ps M1).filter (old ps n y)).map keyOf).Nodup:=(pf.map keyOf).nodup_iff.mpr (g.kd.sublist (List.filter_sublist.map keyOf));have so:=(xN ps M1).filter (old ps n y);rw[List.Nodup,List.pairwise_map]at nd;refine(so.and nd).imp_of_mem fun{a b} ha hb h=>?_
 have m1:∀r∈(ju ps M1).filter (old ps n y),aO ps r=n/\r.length=4:=fun r hr=>by
  obtain⟨h1,h2⟩:=zAq.mp (pf.mem_iff.mp hr);exact⟨zB8 h2,(g.ok r h1).1⟩
 obtain⟨a1,a2⟩:=m1 a ha;obtain⟨b1,b2⟩:=m1 b hb;obtain⟨h1,h2⟩:=h;refine CK a2 b2 h2 ?_;unfold dh at h1;rw[a1,b1,HT.lexLt_cons,zAy rfl]at h1;exact h1
theorem Stg.sub{c:List Int}{ps ss ow:List (List Int)}{y:Int}{n:Nat}{M G M' G':List (List Int)}(g:Stg c ps ss ow y n M G)(sb:M'.Sublist M)(ep:cG M'=cG M)(eg:cG G'=cG G)(sg:G'.Sublist G):Stg c ps ss ow y n M' G':=
 ⟨g.kd.sublist (sb.map _),fun r hr=>g.ok r (sb.subset hr),fun r hr=>g.yr r (sb.subset hr),by rw[ep];exact g.pm,by rw[eg];exact g.gn,fun r hr=>g.g4 r (sg.subset hr),Nat.le_trans sb.length_le g.len,Nat.le_trans sg.length_le g.glen⟩
theorem uM(Z:List (List Int×Int)):(bh Z).Sublist (Z.map iG):=List.filter_sublist.map _
theorem xO(Z:List (List Int×Int)):(bR Z).Sublist (Z.map zr):=List.filter_sublist.map _
theorem xP(M:List (List Int)):cG (cG M)=cG M:=by
 unfold cG;rw[List.filter_filter];exact List.filter_congr fun r _=>Bool.and_self _
theorem CP(Z:List (List Int×Int)):cG (bh Z)=bh Z:=by rw[<-mH,xP]
theorem jX(Z:List (List Int×Int)):cG (bR Z)=bR Z:=by rw[<-jV,xP]
theorem Stg.stepS{c:List Int}{ps ss ow:List (List Int)}{y:Int}{n:Nat}{M G:List (List Int)}(g:Stg c ps ss ow y n M G)(so:ow.Pairwise (fun a b=>HT.lexLt b a=false))(hc:∀x∈c,0<=x)(hu:un ps ss=none)(h5:∀s∈ss,s.length=5)(okp:∀r∈ps,okP r)(hl:ps.length<=10)(ho:∀r∈ow,okO ps r)(h3:n<3)
  {w:Int} {cl:List (List Int)} {sh mg:List Int} (ew:w=c.getD n 0+(yTo c ps ss ow y n).d) (ec:cl=aD ps ss n y) (es:sh=aZ w cl) (em:mg=aW (w-sh.sum) (elder ps M n)):
  Stg c ps ss ow y (n+1) (others ps M n++((elder ps M n).zip mg).map iG++bh (cl.zip sh)) (G++bR (cl.zip sh)++bR ((elder ps M n).zip mg))/\w-sh.sum-mg.sum=(yTo c ps ss ow y (n+1)).d/\0<=w-sh.sum:=by
 obtain⟨s,d,e⟩:=g.step so hc hu h5 okp hl ho h3 ew ec es em;refine⟨s.sub ((List.Sublist.refl _).append (uM _)) ?_ ?_ (((List.Sublist.refl _).append (xO _)).append (xO _)),d,e⟩
 .rw[dF,dF (others ps M n++_),CP,mH (cl.zip sh)]
 .rw[dF,dF,dF (G++_),dF G,jX,jX,jV,jV]
theorem xQ{ps:List (List Int)}{q r:List Int}(e:keyOf q=keyOf r):dh ps q=dh ps r:=by
 have e1:fl q 1=fl r 1:=by
  unfold keyOf at e;injection e with _ e;injection e with e _
 unfold dh aO;rw[e,e1]
theorem uN{ps:List (List Int)}{q r:List Int}(e:dh ps q=dh ps r):keyOf q=keyOf r:=by
 unfold dh at e;injection e
theorem CQ{ps M:List (List Int)}(h:(M.map keyOf).Nodup):((M.map (kvS ps)).map (·.1)).Nodup:=by
 rw[zAr];rw[List.Nodup,List.pairwise_map]at h;rw[List.Nodup,List.pairwise_map];exact h.imp fun{a b} h e=>h (uN (ps:=ps) (mL (show(dh ps a).map Sum.inl=(dh ps b).map Sum.inl from e)))
theorem oJ{κ:Type}[DecidableEq κ]{k:κ}{v:V}:∀{Zs:List (κ×V)},(Zs.map (·.1)).Nodup->(k,v)∈Zs->cV Zs k=some v
 |[],_,h=>by cases h
 |p::Zs,nd,h=>by
  rw[zAk,List.nodup_cons]at nd;rcases zAo.mp h with z|z
  .rw[<-z];exact cW rfl
  .rw[cX fun e=>nd.1 (e▸zA5.mpr ⟨_,z,rfl⟩)];exact oJ nd.2 z
theorem LkS.get{H:Hp}{d b:Addr}{ps M:List (List Int)}{r:List Int}(h:LkS H d ps M)(nd:(M.map keyOf).Nodup)(hr:r∈M)(eb:H b=some (.tup ((dh ps r).map V.int))):DGet H d (.ref b) (some (.int (fl r 3))):=by
 obtain⟨Mo,e,pm⟩:=h;have:=oJ (CQ (ps:=ps) ((pm.map _).nodup_iff.mpr nd)) (zA5.mpr ⟨r,pm.mem_iff.mpr hr,rfl⟩);rw[<-this];exact DGet.t e (by rw[eb,zAr];rfl)
def CT(r:List Int)(x:Int)(q:List Int):List Int:=if keyOf q=keyOf r then[fl r 0,fl r 1,fl r 2,x]else q
theorem zG{ps Mo A B:List (List Int)}{r:List Int}{x:Int}(pm:Mo.Perm (A++r::B))(nd:((A++r::B).map keyOf).Nodup):∃Ap:List (List Int),putK (Mo.map (kvS ps)) ((dh ps r).map Sum.inl) (.int x)=Ap.map (kvS ps)/\Ap.Perm (A++[fl r 0,fl r 1,fl r 2,x]::B):=by
 refine⟨Mo.map (CT r x),?_,?_⟩
 .unfold putK;rw[zAy (List.any_eq_true.mpr ⟨kvS ps r,zA5.mpr ⟨r,pm.mem_iff.mpr (zA6.mpr (.inr (.head _))),rfl⟩,zAt rfl⟩),zAr,zAr];refine List.map_congr_left fun q _=>?_;show(if(kvS ps q).1=_ then((kvS ps q).1,V.int x)else kvS ps q)=kvS ps (CT r x q);unfold CT;by_cases e:keyOf q=keyOf r
  .have e4:=xQ (ps:=ps) e;rw[zAy e,zAy (show(kvS ps q).1=(dh ps r).map Sum.inl by rw[<-e4];rfl)];show((dh ps q).map Sum.inl,V.int x)=((dh ps r).map Sum.inl,V.int x);rw[e4]
  .rw[zAv e];exact zAv fun z=>e (uN (mL (show(dh ps q).map Sum.inl=(dh ps r).map Sum.inl from z)))
 .refine(pm.map _).trans ?_;rw[zA4,zAk,List.nodup_append,List.nodup_cons]at nd;obtain⟨_,⟨n1,_⟩,n2⟩:=nd
  have keep:∀l:List (List Int),(∀q∈l,keyOf q≠keyOf r)->l.map (CT r x)=l:=fun l hl=>by
   refine(List.map_congr_left fun q hq=>?_).trans (List.map_id l);exact zAv (hl q hq)
  rw[zA4,zAk,keep A fun q hq e=>n2 _ (zA5.mpr ⟨q,hq,rfl⟩) _ (.head _) e,keep B fun q hq e=>n1 (by rw[<-e];exact zA5.mpr ⟨q,hq,rfl⟩),show CT r x r=[fl r 0,fl r 1,fl r 2,x]from zAy rfl]
theorem LkS.pm{H:Hp}{d:Addr}{ps M M':List (List Int)}(h:LkS H d ps M)(p:M.Perm M'):LkS H d ps M':=by
 obtain⟨Mo,e,pm⟩:=h;exact⟨Mo,e,pm.trans p⟩
structure Lk(ps ow:List (List Int))(y:Nat)(M:List (List Int)):Prop where
 kd:(M.map keyOf).Nodup
 ok:∀r∈M,r.length=4/\0<=fl r 1/\fl r 1<ps.length/\0<=fl r 3
 yr:∀r∈M,fl r 0<y
 pm:(cG M).Perm ow
 len:M.length<=240*y
theorem xR{ps:List (List Int)}{r:List Int}(okp:∀r∈ps,okP r)(h0:0<=fl r 1)(h1:fl r 1<ps.length):0<=aO ps r/\aO ps r<3:=by
 obtain⟨p,_,e,op⟩:=prom_ok okp h0 h1;unfold aO;rw[e];exact op.2.2.1
theorem Lk.start{ps ow M:List (List Int)}{y:Nat}(g:Lk ps ow y M)(c:List Int)(ss:List (List Int))(okp:∀r∈ps,okP r)(ho:∀r∈ow,okO ps r):Stg c ps ss ow y 0 M []:=by
 refine⟨g.kd,g.ok,fun r hr=>.inl (g.yr r hr),?_,rfl,fun r hr=>(by cases hr),by have:=g.len;lia,zAp _⟩;show(cG M).Perm ([]++ow.filter _);rw[List.nil_append,List.filter_eq_self.mpr fun r hr=>zAt ?_]
 .exact g.pm
 .exact(xR okp (ho r hr).2.1 (ho r hr).2.2.1).1
theorem Stg.next{c:List Int}{ps ss ow M G:List (List Int)}{y:Nat}(g:Stg c ps ss ow y 3 M G)(okp:∀r∈ps,okP r)(ho:∀r∈ow,okO ps r):Lk ps (srt (yTo c ps ss ow y 3).k) (y+1) M:=by
 refine⟨g.kd,g.ok,fun r hr=>?_,?_,by have:=g.len;lia⟩
 .rcases g.yr r hr with z|z<;>lia
 .have:=g.pm;rw[List.filter_eq_nil_iff.mpr,zAn]at this
  .exact this.trans (eG _).symm
  .intro r hr;have:=(xR okp (ho r hr).2.1 (ho r hr).2.2.1).2;rw[Zp];lia
theorem RowsAt.but{H H':Hp}{lk a:Addr}{xs:List V}{rs:List (List Int)}{Lp:List (List Key×V)}(h:RowsAt H a xs rs)(k:∀b o,b≠lk->H b=some o->H' b=some o)(el:H lk=some (.dT Lp)):RowsAt H' a xs rs:=by
 have tp:∀b z,H b=some (.tup z)->H' b=some (.tup z):=fun b z e=>k b _ (fun w=>by rw[w,el]at e;cases e) e
 exact⟨tp _ _ h.e,h.l,fun i r e=>by
  obtain⟨t,e1,e2⟩:=h.g i r e
  exact⟨t,e1,tp _ _ e2⟩⟩
structure Wd(ps:List (List Int))(H Hc:Hp)(lk lg ll:Addr)(xg:List V)(G:List (List Int))(L:List Int)(M:List (List Int)):Prop where
 k:∀b o,b≠lk->H b=some o->Hc b=some o
 eg:Hc lg=some (.lst xg)
 elg:Els Hc xg G
 el:Hc ll=some (.lst (L.map V.int))
 lka:LkS Hc lk ps M
 nk:lg≠lk
 nl:ll≠lk
 ng:lg≠ll
 fg:H lg=none
 fl:H ll=none
section
variable{ps:List (List Int)}{H Hc Hd:Hp}{lk lg ll:Addr}{xg:List V}{G M:List (List Int)}{L:List Int}
theorem Wd.same(d:Wd ps H Hc lk lg ll xg G L M)(s:Same Hc Hd):Wd ps H Hd lk lg ll xg G L M:=
 ⟨fun b o n e=>s _ _ (d.k b o n e),s _ _ d.eg,d.elg.same s,s _ _ d.el,d.lka.same s,d.nk,d.nl,d.ng,d.fg,d.fl⟩
theorem Wd.gone{t:Addr}{r:List Int}(d:Wd ps H Hc lk lg ll xg G L M)(et:Hc t=some (.tup (r.map V.int))):Wd ps H (upd Hc lg (.lst (xg++[.ref t]))) lk lg ll (xg++[.ref t]) (G++[r]) L M:=by
 have tp:∀b z,Hc b=some (.tup z)->upd Hc lg (.lst (xg++[.ref t])) b=some (.tup z):=fun b z e=>by
  rw[au fun w=>by rw[w,d.eg]at e;cases e];exact e
 obtain⟨Zs,e,pm⟩:=d.lka;exact⟨fun b o n e=>by rw[au (az e d.fg)];exact d.k b o n e,aa,(d.elg.app (Els.one et)).keep tp,by rw[au d.ng.symm];exact d.el,⟨Zs,by rw[au d.nk.symm];exact e,pm⟩,d.nk,d.nl,d.ng,d.fg,d.fl⟩
theorem Wd.put{M' Ap:List (List Int)}(d:Wd ps H Hc lk lg ll xg G L M)(pm:Ap.Perm M'):Wd ps H (upd Hc lk (.dT (Ap.map (kvS ps)))) lk lg ll xg G L M':=by
 obtain⟨Zs,e,_⟩:=d.lka;exact⟨fun b o n e=>by rw[au n];exact d.k b o n e,by rw[au d.nk];exact d.eg,d.elg.keep fun b z e'=>by rw[au fun w=>by rw[w,e]at e';cases e'];exact e',by rw[au d.nl];exact d.el,⟨Ap,aa,pm⟩,d.nk,d.nl,d.ng,d.fg,d.fl⟩
theorem Wd.down{x:Int}(d:Wd ps H Hc lk lg ll xg G L M):Wd ps H (upd Hc ll (.lst ((L++[x]).map V.int))) lk lg ll xg G (L++[x]) M:=by
 obtain⟨Zs,e,pm⟩:=d.lka;exact⟨fun b o n e=>by rw[au (az e d.fl)];exact d.k b o n e,by rw[au d.ng];exact d.eg,d.elg.keep fun b z e'=>by rw[au fun w=>by rw[w,d.el]at e';cases e'];exact e',aa,⟨Zs,by rw[au d.nl.symm];exact e,pm⟩,d.nk,d.nl,d.ng,d.fg,d.fl⟩
end
theorem CV(a b:Int):(if b<a then b else a)=if a<b then a else b:=by split<;>split<;>lia
structure WAt(lk lf:Addr)(cs ps ss:List (List Int))(H:Hp)(a:Addr)(j:Nat)(g tl q:Addr)(xg xq:List V):Prop where
 e:H a=some (.tup [.ref g,.ref tl,.ref q])
 gk:g≠lk
 gf:g≠lf
 eg:H g=some (.lst xg)
 elg:Els H xg (srt (fY cs ps ss j).g)
 gs:g≠sysModules
 qk:q≠lk
 qf:q≠lf
 eq:H q=some (.lst xq)
 elq:Els H xq (d9 cs ps ss (j+1))
 qs:q≠sysModules
 el:H tl=some (.tup ((fY cs ps ss j).l.map V.int))
theorem WAt.keep{lk lf:Addr}{cs ps ss:List (List Int)}{H H':Hp}{a:Addr}{j:Nat}{g tl q:Addr}{xg xq:List V}{kv:List (List Key×V)}{xl:List V}(h:WAt lk lf cs ps ss H a j g tl q xg xq)(k:∀b o,b≠lk->b≠lf->H b=some o->H' b=some o)(e1:H lk=some (.dT kv))(e2:H lf=some (.lst xl)):WAt lk lf cs ps ss H' a j g tl q xg xq:=by
 have tp:∀b z,H b=some (.tup z)->H' b=some (.tup z):=fun b z e=>k b _ (fun w=>by rw[w,e1]at e;cases e) (fun w=>by rw[w,e2]at e;cases e) e;exact⟨tp _ _ h.e,h.gk,h.gf,k _ _ h.gk h.gf h.eg,h.elg.keep tp,h.gs,h.qk,h.qf,k _ _ h.qk h.qf h.eq,h.elq.keep tp,h.qs,tp _ _ h.el⟩
def WA(lk lf:Addr)(cs ps ss:List (List Int))(H:Hp)(a:Addr)(j:Nat):Prop:=∃g tl q xg xq,WAt lk lf cs ps ss H a j g tl q xg xq
theorem WA.keep{lk lf:Addr}{cs ps ss:List (List Int)}{H H':Hp}{a:Addr}{j:Nat}{kv:List (List Key×V)}{xl:List V}(h:WA lk lf cs ps ss H a j)(k:∀b o,b≠lk->b≠lf->H b=some o->H' b=some o)(e1:H lk=some (.dT kv))(e2:H lf=some (.lst xl)):WA lk lf cs ps ss H' a j:=by
 obtain⟨g,tl,q,xg,xq,h⟩:=h;exact⟨g,tl,q,xg,xq,h.keep k e1 e2⟩
theorem Gf(cs ps ss:List (List Int)):∀n,(d9 cs ps ss n).Pairwise (fun a b=>HT.lexLt b a=false)
 |0=>List.Pairwise.nil
 |n+1=>Cy _
theorem xT{H:Hp}{d b:Addr}{o:Obj}{ps M:List (List Int)}{r:List Int}(e:H d=some (.frz o (.dT (M.map (kvS ps)))))(nd:(M.map keyOf).Nodup)(hr:r∈M)(eb:H b=some (.tup ((dh ps r).map V.int))):DGet H d (.ref b) (some (.int (fl r 3))):=by
 have:=oJ (CQ (ps:=ps) nd) (zA5.mpr ⟨r,hr,rfl⟩);rw[<-this];exact .inr ⟨_,_,b,.inr ⟨o,e⟩,rfl,by rw[eb,zAr];rfl,rfl⟩
theorem Lts.but{fo lk:Addr}{H0 H H':Hp}{dm:Int->Int->Prop}{f:Int->Int->List Int}{Zs Lp:List (List Key×V)}(g:Lts fo H0 H dm f Zs)(k:∀b o,b≠lk->H b=some o->H' b=some o)(nf:fo≠lk)(n0:H0 lk=none)(el:H lk=some (.dT Lp)):Lts fo H0 H' dm f Zs:=
 ⟨fun b o e=>k _ _ (az e n0) (g.sm _ _ e),g.nf,k _ _ nf g.e,fun n y h=>by
  obtain⟨d,e1,e2⟩:=g.g n y h
  exact⟨d,e1,k _ _ (fun z=>by rw[z,el]at e2;cases e2) e2⟩,g.no,g.i,g.fr,g.kd,g.kk⟩
theorem Lts.butL{fo lf:Addr}{H0 H1 H H':Hp}{dm:Int->Int->Prop}{f:Int->Int->List Int}{Zs:List (List Key×V)}{xl:List V}(g1:Lts fo H0 H1 dm f Zs)(g:Lts fo H0 H dm f Zs)(k:∀b o,b≠lf->H b=some o->H' b=some o)(n1:H1 lf=none)(s1:Same H0 H1):Lts fo H0 H' dm f Zs:=
 ⟨fun b o e=>k _ _ (az (s1 _ _ e) n1) (g.sm _ _ e),g.nf,k _ _ (az g1.e n1) g.e,fun n y h=>by
  obtain⟨d,e1,e2⟩:=g.g n y h;obtain⟨d',yB,HG⟩:=g1.g n y h;rw[e1]at yB;cases yB
  exact⟨d,e1,k _ _ (az HG n1) e2⟩,g.no,g.i,g.fr,g.kd,g.kk⟩
def rkI(k:List Key):List Int:=k.map fun x=>match x with
 |.inl i=>i
 |.inr _=>0
theorem xU(r:List Int):rkI (r.map Sum.inl)=r:=by
 unfold rkI;rw[zAr];exact List.map_id r
def eJ(ps:List (List Int))(n:Nat)(y:Int)(R:List (List Int))(j:Nat):List (List Int):=(R.take j).filter (old ps n y)
def mJ(ps:List (List Int))(n:Nat)(y w:Int)(R:List (List Int))(j:Nat):List (List Int):=(R.take j).filter (fun r=>!old ps n y r)++((eJ ps n y R j).zip (aW w (eJ ps n y R j))).map iG++R.drop j
section
variable{ps R:List (List Int)}{n j:Nat}{y w:Int}
theorem xV(hj:j<R.length)(h:old ps n y R[j]=false):eJ ps n y R (j+1)=eJ ps n y R j:=by
 unfold eJ;rw[zAj,zA0 hj,List.filter_append,show(some R[j]).toList=[R[j]]from rfl,zB7 (by rw[h];exact zAg),List.filter_nil,zAn]
theorem CW(hj:j<R.length)(h:old ps n y R[j]=true):eJ ps n y R (j+1)=eJ ps n y R j++[R[j]]:=by
 unfold eJ;rw[zAj,zA0 hj,List.filter_append,show(some R[j]).toList=[R[j]]from rfl,zB4 h,List.filter_nil]
theorem JP(hj:j<R.length)(h:old ps n y R[j]=false):(mJ ps n y w R j).Perm (mJ ps n y w R (j+1)):=by
 unfold mJ;rw[xV hj h,zAj,zA0 hj,List.filter_append,show(some R[j]).toList=[R[j]]from rfl,zB4 (p:=fun r=>!old ps n y r) (by rw[h];rfl),List.filter_nil,List.drop_eq_getElem_cons hj,zAf,zAf,zAf];refine List.Perm.append_left _ ?_;exact List.perm_middle
theorem HN(hj:j<R.length)(h:old ps n y R[j]=true){m:Int}(hm:m=if w-(aW w (eJ ps n y R j)).sum<fl R[j] 3 then w-(aW w (eJ ps n y R j)).sum else fl R[j] 3):
  mJ ps n y w R (j+1)=(R.take j).filter (fun r=>!old ps n y r)++((eJ ps n y R j).zip (aW w (eJ ps n y R j))).map iG++iG (R[j],m)::R.drop (j+1)/\aW w (eJ ps n y R (j+1))=aW w (eJ ps n y R j)++[m]/\bR ((eJ ps n y R (j+1)).zip (aW w (eJ ps n y R (j+1))))=bR ((eJ ps n y R j).zip (aW w (eJ ps n y R j)))++(if 0<m then[zr (R[j],m)]else[]):=by
 have e1:aW w (eJ ps n y R (j+1))=aW w (eJ ps n y R j)++[m]:=by rw[CW hj h,iB,hm]
 have e2:(eJ ps n y R (j+1)).zip (aW w (eJ ps n y R (j+1)))=(eJ ps n y R j).zip (aW w (eJ ps n y R j))++[(R[j],m)]:=by
  rw[e1,CW hj h,List.zip_append (by rw[di])];rfl
 refine⟨?_,e1,?_⟩
 .unfold mJ;rw[e2,zAj,zA0 hj,List.filter_append,show(some R[j]).toList=[R[j]]from rfl,zB7 (p:=fun r=>!old ps n y r) (by rw[h];exact zAg),List.filter_nil,zAn,zA4,zAf,zAf,zAf];rfl
 .rw[e2,gR];rfl
theorem CZ(hj:j<R.length):mJ ps n y w R j=(R.take j).filter (fun r=>!old ps n y r)++((eJ ps n y R j).zip (aW w (eJ ps n y R j))).map iG++R[j]::R.drop (j+1):=by
 unfold mJ;rw[List.drop_eq_getElem_cons hj]
theorem JQ(h:(R.map keyOf).Nodup):((mJ ps n y w R j).map keyOf).Nodup:=by
 unfold mJ;rw[zA4,zA4,fD (f:=iG) (fun _=>rfl) (di _ _),<-zA4];rw[<-zBa j R,zA4]at h;refine((List.Perm.append_right _ ?_).nodup_iff).mpr h;refine List.Perm.map _ ?_;exact List.perm_append_comm.trans (List.filter_append_perm (old ps n y) (R.take j))
theorem HQ:(mJ ps n y w R j).length=R.length:=by
 unfold mJ eJ;rw[zA2,zA2,zA1,zAs,di,List.length_drop];have:=(List.filter_append_perm (old ps n y) (R.take j)).length_eq;rw[zA2,zAd]at this;lia
theorem KN:mJ ps n y w R 0=R:=rfl
end
theorem HR{c:List Int}{ps ss ow:List (List Int)}{y:Int}{n:Nat}{M G M1 N:List (List Int)}{w:Int}(g:Stg c ps ss ow y n M G)(pm:M1.Perm (M++N))(hN:∀r∈N,fl r 0=y):
  eJ ps n y (ju ps M1) (ju ps M1).length=elder ps M n/\(mJ ps n y w (ju ps M1) (ju ps M1).length).Perm (others ps M n++((elder ps M n).zip (aW w (elder ps M n))).map iG++N):=by
 have e1:eJ ps n y (ju ps M1) (ju ps M1).length=elder ps M n:=by
  unfold eJ;rw[zAm];exact CN g pm hN
 refine⟨e1,?_⟩;unfold mJ;rw[e1,zAm,List.drop_length,zAn]
 have pf:((ju ps M1).filter fun r=>!old ps n y r).Perm (others ps M n++N):=by
  refine(((mO ps M1).trans pm).filter _).trans (.of_eq ?_);rw[List.filter_append,List.filter_eq_self (l:=N).mpr fun r hr=>?_]
  .unfold others;congr 1;refine List.filter_congr fun r hr=>?_;unfold old;by_cases e:aO ps r=n
   .rw[zAt e,zAt (p:=fl r 0<y) (by rcases g.yr r hr with z|z<;>lia)];rfl
   .rw[zB0 e];rfl
  .unfold old;rw[zB0 (p:=fl r 0<y) (by have:=hN r hr;lia),Bool.and_false];rfl
 refine(pf.append_right _).trans ?_;rw[zAf,zAf];exact List.Perm.append_left _ List.perm_append_comm
theorem xW{X:Cx}:SlR X (fun x lo hi H Q=>∃a xs,x=.ref a/\H a=some (.tup xs)/\∀c H',Same H H'->H' c=some (.tup (lO xs lo hi))->Q (.ref c) H'):=by
 intro Zt s σ H x v vl vu lo hi sl Q I rx hs pl pu h;obtain⟨a,xs,rfl,ha,q⟩:=h;refine wC Zt s σ H _ v vl vu lo hi sl Q I rx hs pl pu ⟨a,xs,rfl,SqT.of ha,fun hw=>q a H (Same.refl H) ?_,fun _ p hp=>q p _ (Same.upd hp) aa⟩;rw[ha];unfold lO;rw[hw.1,hw.2,List.drop_zero,Nat.sub_zero,zAm]
theorem sU{H:Hp}{l:List Addr}{row:Addr->List Int}(h:∀a∈l,H a=some (.tup ((row a).map V.int))):Els H (l.map V.ref) (l.map row):=
 ⟨by rw[zA1,zA1],fun i r e=>by
  rw[zAb]at e⊢
  cases z:l[i]? with
  |none=>rw[z]at e;cases e
  |some a=>
   rw[z]at e;cases e
   exact⟨a,rfl,h a (zB5 z)⟩⟩
inductive SpYearsLI(vs:List V)(H:Hp)(Q:VK):Prop
 |mk:∀ac xc cs ap xp ps af xs ss,(vs=[.ref ac,.ref ap,.ref af])->(RowsAt H ac xc cs)->((∀r∈cs,r.length=3/\∀x∈r,0<=x))->(cs.length<=20)->(RowsAt H ap xp ps)->(ps.length<=10)->((∀r∈ps,okP r))->(RowsAt H af xs ss)->(ss.length<=12)->((∀s∈ss,s.length=5))->(un ps ss=none)->(∀l lk (ts:List Addr) H',Same H H'->H l=none->H' l=some (.lst (ts.map V.ref))->ts.length=cs.length->(∀j a,ts[j]?=some a->WA lk l cs ps ss H' a j)->Q (.ref l) H')->SpYearsLI  vs H Q
def uO:Sp:=fun vs H Q _=>SpYearsLI  vs H Q
theorem iC:bootBuiltins "sorted"=some (.builtin "sorted"):=by decide +kernel
theorem zH:bootBuiltins "min"=some (.builtin "min"):=by decide +kernel
theorem zJ:bootBuiltins "tuple"=some (.type "tuple"):=by decide +kernel
theorem JR:(["_law_one","_law_part","_law_year"]:List Str).Nodup:=by decide +kernel
theorem KQ:(["_law_key","_law_lacks"]:List Str).Nodup:=by decide +kernel
theorem scLY:FnScope ["_law_clips_here","_law_promises","_law_sales","_law_rows_here","_law_lacks","_law_found","_law_year","_law_clip","_law_gifts","_law_down","_law_downs","_law_sort","_law_some","_law_parts","_law_key","_law_part","_law_owing"] ["_law_clips_here","_law_promises","_law_sales"] (aJ (top 66)):=fS
theorem zK(F:Fun K "_law_years" "_law_years" (top 66) f fd)(T:Mg mg)(Te:mg "enumerate"=none)(Tr:mg "range"=none)(Tz:mg "zip"=none)(To:mg "sorted"=none)(Tn:mg "min"=none)(Ts:mg "sum"=none)(c1:Cal P w K mg base 1 "_law_rows" ["_law_promises","_law_sales"] spRows)(c2:Cal P w K mg base 1 "_law_claims" ["_law_promises","_law_rows_here","_law_year","_law_sort"] qI)(c3:Cal P w K mg base 2 "_law_served" ["_law_lacks","_law_some","_law_year","_law_sort","_law_have"] uK):
  FnOk P w K mg base CX0 3 f fd ["_law_clips_here","_law_promises","_law_sales"] uO:=by
 refine F.ok scLY (fun vs H Q E h=>?_) (fun ai A outer s H vs Q E hr h=>?_)
 .obtain⟨ac,xc,cs,ap,xp,ps,af,xs,ss,rfl,_⟩:=h;rfl
 .obtain⟨ac,xc,cs,ap,xp,ps,af,xs,ss,rfl,rc,okc,lc,rp,lp,okp,rs,ls,h5,hu,q⟩:=h
  refine K31P.ok_b (aN ⟨cJ (bB (aq (pX bT (aK c1 hr (aq (pv 1) (aq (pv 2) aj))) aA) (aq u6 (aq (cQ aj) aj)))) (bF rfl (ao (pgn 3 scLY.nd) (ao (bj (i:=4) scLY.nd rfl (Or.inr rfl)) (ao (pgn 5 scLY.nd) aV))))⟩
   (aN ⟨bN zB3 rfl (ZT.pi_enum true rfl Te (aq (pv 0) aj)) (bF rfl (ao (bj (i:=6) scLY.nd rfl (Or.inr rfl)) (ao (pgn 7 scLY.nd) aV)))
   (gj (aN ⟨Ep (i:=8) (j:=9) (k:=10) rfl scLY.nd rfl rfl rfl Zx Zx Zx rfl rfl rfl (aq (cQ aj) (aq aA (aq (cQ aj) aj))) rfl⟩
   (aN ⟨bN zB3 rfl (bU rfl Tr (aq aA aj)) (pgn 11 scLY.nd)
    (gj (aN (gF 12 scLY.nd ⟨aK c2 hr (aq (pv 1) (aq (pv 3) (aq (pv 6) (aq (pv 11) aj))))⟩)
    (aN (gF 13 scLY.nd ⟨aK c3 hr (aq (pv 4) (aq (pv 12) (aq (pv 6) (aq (pv 11) (aq (aU bO (pX bT (pv 7) (pv 11)) (pv 9)) aj)))))⟩)
    (aN (gF 8 scLY.nd ⟨aU v8 (pv 8) (bx (g:=jY K 2 (cz (bH 0) (cz (bH 1) lN))) ["_law_one","_law_part","_law_year"] [none,none,some 6] rfl (ZT.pi_zip false false rfl Tz (aq (pv 12) (aq (pv 13) aj)))
     (fun C fp Zt s₂ H₂=>⟨dZ rfl rfl (ao (pgn 0 JR) (ao (pgn 1 JR) aV)),dM (bf jx (pv 1) aA (bu _)),
      wB (nF (fu ⟨pv 2⟩ (fu ⟨pX (K31P.ix_tupK (K:=K) rfl) (pv 0) aA⟩ (fu ⟨pX (K31P.ix_tupK (K:=K) rfl) (pv 0) aA⟩ (fu ⟨pv 1⟩ fH)))))⟩)
     (fun C=>cI trivial) ⟨rfl,rfl,rfl,rfl⟩)⟩)
    (aN (gF 9 scLY.nd (Aw dW ⟨aU bO (pX bT (pv 7) (pv 11)) (pv 9)⟩ ⟨aM (cu rfl) rfl Ts qJ (aq (pv 13) aj)⟩))
    (aN ⟨bN zB3 rfl (bL (aM (pq rfl) rfl To iC (aq (pv 4) aj))) (pgn 14 scLY.nd)
     (gj (aN (gF 15 scLY.nd ⟨tH (PW.pt (qR (bf iI (pX bT (pv 14) aA) (pv 11) (bu _)) (lZ (bf jf (pX bT (pv 14) aA) (pv 6) (bu _))))) (aM (fQ rfl) rfl Tn zH (aq (pv 9) (aq (dY (fM hr) (pv 4) (pv 14) (fun _ _=>rfl)) aj))) aA⟩)
     (bQ ⟨cU (bf jx (pv 15) aA (bu _))
      (gj (aN ⟨dC (lE zBb zBf zBe eQ (pv 8) (aq (aU K31Q.op_catU (iJ xW (pv 14) (jA aA) jz) (bB (aq (pv 15) aj))) aj))⟩
      (bQ ⟨cJ (bB (aq (aU dW (dY (fM hr) (pv 4) (pv 14) (fun _ _=>rfl)) (pv 15)) (aq (aU dW (pv 9) (pv 15)) aj))) (bF rfl (ao (ie (pv 4) (pv 14) (set_dict (fM hr))) (ao (pgn 9 scLY.nd) aV)))⟩))) bz⟩)))⟩
    (bQ ⟨dC (lE zBb zBf zBe eQ (pv 10) (aq (pv 9) aj))⟩)))))))⟩
   (aN (gF 16 scLY.nd ⟨aM dI rfl To iC (aq (Bl (bx ["_law_key","_law_lacks"] [none,some 4] rfl (rQ (pv 4)) (fun C fp Zt s₂ H₂=>⟨pgn 0 KQ,dM (bf jx (dY (fM hr) (pv 1) (pv 0) (fun _ _=>rfl)) aA (bu _)),aU K31Q.op_catU (iJ xW (pv 0) (jA aA) jz) (bB (aq (dY (fM hr) (pv 1) (pv 0) (fun _ _=>rfl)) aj))⟩) (fun C=>cI trivial) ⟨rfl,rfl,rfl,rfl⟩)) aj)⟩)
   (bQ ⟨dC (lE zBb zBf zBe eQ (pv 5) (aq (wB (nF (fu ⟨aM dI rfl To iC (aq (pv 8) aj)⟩ (fu ⟨cR cj rfl T.tuple zJ (aq (pv 10) aj)⟩ (fu ⟨pv 16⟩ fH))))) aj))⟩)))))⟩
   (bQ (rG ⟨pv 5⟩)))) ?_
  refine cN fun c_ ba=>?_;refine⟨_,rfl,_,rfl,ap,xp,ps,af,xs,ss,rfl,rp,lp,okp,rs,Zz,h5,fun tt fo H1 s1 E8 OJ=>⟨tt,_,0,.ref fo,rfl,rfl,SqT.of E8,rfl,fun lk kR=>⟨zL,fun lf As=>⟨zL,fun t3 Fn=>⟨t3,_,rfl,SqT.of aa,rfl,_,_,rfl,_,_,rfl,_,_,rfl,rfl,?_⟩⟩⟩⟩⟩;obtain⟨Zs,dt⟩:=OJ hu;have u2:=Same.upd (o:=.dT []) kR;have u3:=Same.upd (o:=.lst []) As;have u4:=Same.upd (o:=.tup [.ref fo,.ref lk,.ref lf]) Fn;have vT:H lk=none:=s1.free kR;have OL:H lf=none:=(s1.trans u2).free As;have nf:fo≠lk:=az dt.e kR
  have Lq:lf≠lk:=fun z=>by rw[z,aa]at As;cases As
  have Lr:=dt.same u2;have sA:=s1.trans u2
  obtain⟨HA,Fs⟩:∃HA,HA=upd H1 lk (.dT []):=⟨_,rfl⟩
  rw[<-Fs]at Lr sA As u3 u4;refine ba _ _ ?_;clear ba c_
  try dsimp only
  rw[<-Fs];have DA:HA lk=some (.dT (([]:List (List Int)).map (kvS ps))):=by rw[Fs];exact aa
  refine sJ (fun H4=>Same H H4/\H4 lk=some (.dT (([]:List (List Int)).map (kvS ps)))/\H4 lf=some (.lst (([]:List Addr).map V.ref))/\Lts fo H H4 (dom ps) (hl ps ss) Zs) ⟨(sA.trans u3).trans u4,u4 _ _ (u3 _ _ DA),u4 _ _ aa,(Lr.same u3).same u4⟩ fun H4 ⟨S4,Ls,Lu,RP⟩=>?_;clear dt u2 u3 u4 kR Fn E8 OJ s1 DA Fs;refine aC ?_;refine⟨_,rfl,ac,xc,rfl,SqT.of (S4 _ _ rc.e),?_⟩;refine ZT.for_enum true (xs:=xc) (fun i σ Hc=>∃x6 x7 x8 x9 bq cS de df bX cb fq M,∃ts:List Addr,σ=[some (.ref ac),some (.ref ap),some (.ref af),some (.ref fo),some (.ref lk),some (.ref lf),x6,x7,x8,x9,bq,cS,de,df,bX,cb,fq]/\Same H Hc/\LkS Hc lk ps M/\Lk ps (d9 cs ps ss i) i M/\Lts fo H Hc (dom ps) (hl ps ss) Zs/\Hc lf=some (.lst (ts.map V.ref))/\ts.length=i/\∀j a,ts[j]?=some a->WA lk lf cs ps ss Hc a j) ?_ ?_ ?_ ?_
  .exact⟨none,none,none,none,none,none,none,none,none,none,none,[],[],rfl,S4,⟨[],Ls,List.Perm.refl _⟩,⟨List.nodup_nil,fun r hr=>(by cases hr),fun r hr=>(by cases hr),List.Perm.refl _,Nat.le_refl _⟩,RP,Lu,rfl,fun j a e=>(by simp at e)⟩
  .rintro i σ Hc hi ⟨x6,x7,x8,x9,bq,cS,de,df,bX,cb,fq,M,ts,rfl,k,la,Fu,dt,Au,lt,hw⟩;exact SqT.of (k _ _ rc.e)
  .rintro y x σ Hc T0 hx ⟨x6,x7,x8,x9,bq,cS,de,df,bX,cb,fq,M,ts,rfl,k,la,Fu,dt,Au,lt,hw⟩ nT
   have hy:y<cs.length:=by
    have:=(zAa.mp hx).1;rw[rc.l]at this;exact this
   obtain⟨tc,fk,Cn⟩:=rc.g y cs[y] (zA0 hy)
   have:x=.ref tc:=by
    rw[hx]at fk;exact zAl fk
   subst this;have ec:cs.getD y []=cs[y]:=getD_get hy;obtain⟨RQ,FA⟩:=okc _ (zAh hy);generalize Xi:cs[y]=c at Cn ec RQ FA;obtain⟨hU,KI⟩:=ji (cs:=cs) lp hu h5 okp y;have OM:=Gf cs ps ss y;generalize how:d9 cs ps ss y=ow at Fu hU KI OM;have sT:=Same.upd (o:=.tup [V.int y,V.ref tc]) nT;have k1:=k.trans sT;have CY:=la.same sT;have Lv:=dt.same sT;have oS:=sT _ _ Au;obtain⟨Xj,gu,KA⟩:=id CY
   have FC:∀j a,ts[j]?=some a->WA lk lf cs ps ss (upd Hc T0 (.tup [V.int y,V.ref tc])) a j:=fun j a e=>by
    obtain⟨Mo,cx,_⟩:=la;exact(hw j a e).keep (fun b o _ _ e=>sT _ _ e) cx Au
   have eT:=aa (H:=Hc) (a:=T0) (o:=.tup [V.int y,V.ref tc]);generalize upd Hc T0 (.tup [V.int y,V.ref tc])=Hy at k1 CY Lv oS gu FC eT⊢;clear hw dt la Au sT k nT;refine⟨T0,_,rfl,SqT.of eT,rfl,_,_,rfl,_,_,rfl,rfl,?_⟩;refine lq fun De zi=>?_
   try dsimp only
   have oT:=k1 _ _ Cn;have E4:=rp.same k1;refine cN fun c_ ba=>?_;refine⟨zL,fun lg rq=>⟨zL,fun ll eC=>⟨_,_,_,rfl,?_⟩⟩⟩;refine ba _ _ ?_;clear ba c_
   try dsimp only
   have W0:Wd ps Hy (upd (upd Hy lg (.lst [])) ll (.lst [])) lk lg ll [] [] [] M:=by
    have s1:=Same.upd (o:=.lst []) rq;have s2:=Same.upd (o:=.lst []) eC;exact⟨fun b o n e=>s2 _ _ (s1 _ _ e),s2 _ _ aa,Els.nil,aa,CY.same (s1.trans s2),(az gu rq).symm,(az gu (s1.free eC)).symm,(fun z=>by rw[<-z,aa]at eC;cases eC),rq,s1.free eC⟩
   refine sJ (fun H1=>Wd ps Hy H1 lk lg ll [] [] [] M) W0 fun H1 W0=>?_;clear rq eC;refine cN fun cc AN=>?_;refine⟨3,rfl,by decide,by decide,?_⟩;refine cP (lo:=0) (n:=3) (fun i σ Hc=>∃cS de df bX cb lg xg G Mi,σ=[some (.ref ac),some (.ref ap),some (.ref af),some (.ref fo),some (.ref lk),some (.ref lf),some (.int y),some (.ref tc),some (.ref lg),some (.int (yTo c ps ss ow y i).d),some (.ref ll),cS,de,df,bX,cb,fq]/\Wd ps Hy Hc lk lg ll xg G (yTo c ps ss ow y i).l Mi/\Stg c ps ss ow y i Mi G/\cG G=G) ?_ ?_ ?_
   .exact⟨_,_,_,_,_,lg,[],[],M,rfl,W0,Fu.start c ss okp hU,rfl⟩
   .rintro i σ Hc hi ⟨cS,de,df,bX,cb,lg,xg,G,Mi,rfl,W,g,pG⟩;have i3:(0:Int)+(i:Int)=(i:Int):=Int.zero_add _;refine aF ?_;rw[i3];refine lq fun KL RS=>?_
    try dsimp only
    obtain⟨cl,l9⟩:∃cl,cl=aD ps ss i y:=⟨_,rfl⟩
    obtain⟨d,ON⟩:∃d,d=(yTo c ps ss ow y i).d:=⟨_,rfl⟩
    obtain⟨w1,Lw⟩:∃w1,w1=c.getD i 0+d:=⟨_,rfl⟩
    obtain⟨sh,ku⟩:∃sh,sh=aZ w1 cl:=⟨_,rfl⟩
    obtain⟨md,DB⟩:∃md,md=aW (w1-sh.sum) (elder ps Mi i):=⟨_,rfl⟩
    obtain⟨g',ed,iP⟩:=g.stepS OM FA hu h5 okp lp hU hi (by rw[Lw,ON]) l9 ku DB;have f6:=dD (sort:=i) (year:=y) hu h5 okp;have kg:=cA (ss:=ss) (sort:=i) (year:=y) lp;rw[<-l9]at f6 kg;have C6:sh.length=cl.length:=by rw[ku];exact shares_len
    have FC:0<=w1:=by
     have:=zj (y:=y) FA hu h5 okp lp hU i;have:=gr FA i;lia
    have Xk:=g.len;have Xl:=g.glen
    have fT:∀r∈cl,fl r 0=y/\aO ps r=i:=fun r hr=>by
     rw[l9]at hr;obtain⟨a1,a2,_⟩:=gw hr;exact⟨a1,a2⟩
    have Fc:(cl.map keyOf).Nodup:=by rw[l9];exact Cz _
    have Fh:∀r∈cl,¬keyOf r∈Mi.map keyOf:=fun r hr hm=>by
     obtain⟨q',hq,e⟩:=zA5.mp hm;obtain⟨a1,a2⟩:=fT r hr;have e1:=xQ (ps:=ps) e;unfold dh at e1;injection e1 with e1 e2;unfold keyOf at e2;injection e2 with e2 _;rcases g.yr q' hq with z|z<;>lia
    have OO:(c.map V.int)[i]?=some (.int (c.getD i 0)):=by
     rw[zAb,zA7,zA0 Zz];rfl
    have OP:tc≠lk:=fun z=>by rw[z,gu]at oT;cases oT
    rw[<-ON];refine cN fun c_ ba=>?_;refine aR ?_;refine⟨_,rfl,_,rfl,_,rfl,_,rfl,ap,xp,ps,fo,H,Zs,ss,(i:Int),(y:Int),rfl,E4.but W.k gu,lp,okp,Lv.but W.k nf vT gu,fun DC OQ H2 s2 DD pb=>?_⟩;rw[<-l9]at pb;have W2:=W.same s2;refine aF ?_;refine ba _ _ ?_;clear ba c_
    try dsimp only
    refine cN fun c_ ba=>?_;refine aR ?_;refine⟨_,rfl,_,rfl,_,rfl,_,rfl,_,rfl,_,rfl,tc,_,(i:Int),.int (c.getD i 0),rfl,rfl,SqT.of (W2.k _ _ OP oT),du OO,_,rfl,_,_,rfl,rfl,lk,ps,Mi,DC,OQ,cl,(y:Int),(i:Int),w1,by rw[Lw];rfl,W2.lka,Zz,DD,pb,f6,kg,fT,Fc,Fh,FC,fun DE H3 kb AB OR mT=>?_⟩;rw[<-ku]at AB mT;obtain⟨Xm,pd,_⟩:=id W2.lka
    have Lx:DC≠lk:=fun z=>by rw[z,pd]at DD;cases DD
    have RT:DE≠lk:=(az pd OR).symm;have LA:∀b z,H2 b=some (.tup z)->H3 b=some (.tup z):=fun b z e=>kb _ _ (fun w=>by rw[w,pd]at e;cases e) e
    have W3:Wd ps Hy H3 lk lg ll xg G (yTo c ps ss ow y i).l (Mi++bh (cl.zip sh)):=⟨fun b o n e=>kb _ _ n (W2.k b o n e),kb _ _ W2.nk W2.eg,W2.elg.keep LA,kb _ _ W2.nl W2.el,mT,W2.nk,W2.nl,W2.ng,W2.fg,W2.fl⟩
    have ml:=kb _ _ Lx DD;have mm:=pb.keep LA;clear kb LA W2 pd DD pb OR mT W s2;refine aF ?_;refine ba _ _ ?_;clear ba c_
    try dsimp only
    refine cN fun c_ ba=>?_;refine aR ?_;have OG:OQ.length=cl.length:=by rw[mm.1,zA1]
    refine⟨_,rfl,_,rfl,_,rfl,DC,DE,_,_,rfl,SqL.of ml,SqL.of AB,?_⟩;refine cZ cl.length (fun j ys σ Hd=>Same H3 Hd/\(∃o1 o2,σ=[o1,o2,some (.int y)])/\Els Hd ys (bR ((cl.zip sh).take j))) ⟨Same.refl _,⟨_,_,rfl⟩,Els.nil⟩ Zu ?_ ?_
    .rintro j ys σ Hd hj nc ⟨sd,⟨o1,o2,rfl⟩,ki⟩;have C8:j<sh.length:=Zz
     obtain⟨t,ex,et⟩:=mm.2 j cl[j].tail (by rw[zAb,zA0 hj];rfl)
     have C7:cl[j].tail=[fl cl[j] 1,fl cl[j] 2,fl cl[j] 3]:=by
      conv=>lhs;rw[bJ (f6 _ (zAh hj)).1]
      rfl
     rw[C7]at et;have ey:=(fT _ (zAh hj)).1;have Lm:(cl.zip sh)[j]?=some (cl[j],sh[j]):=by rw[List.getElem?_zip_eq_some];exact⟨zA0 hj,zA0 C8⟩
     have bP:(cl.zip sh).take (j+1)=(cl.zip sh).take j++[(cl[j],sh[j])]:=by rw[zAj,Lm];rfl
     have OS:(sh.map V.int)[j]?=some (.int sh[j]):=by rw[zAb,zA0 C8];rfl
     refine⟨⟨_,_,_,_,SqL.of (sd _ _ ml),SqL.of (sd _ _ AB),ex,OS⟩,fun v H' yv R hR=>?_⟩;obtain⟨TT,LB,rfl,yv⟩:=yv;obtain⟨x',z',FK,OT,rfl⟩:=yv _ _ (SqL.of (sd _ _ ml)) (SqL.of (sd _ _ AB));rw[ex]at FK;cases FK;rw[OS]at OT;cases OT;have LC:=sd.updR (o:=.tup [V.ref t,V.int sh[j]]) LB;have iL:=LC _ _ et;refine⟨TT,_,rfl,SqT.of aa,rfl,_,_,rfl,_,_,rfl,rfl,?_⟩;refine⟨_,rfl,_,_,rfl,rfl,_,rfl,?_⟩;by_cases hp:0<sh[j]
     .rw[zAt hp];refine bK ⟨_,rfl,_,rfl,t,_,0,.int (fl cl[j] 1),rfl,rfl,SqT.of iL,rfl,_,rfl,t,_,1,.int (fl cl[j] 2),rfl,rfl,SqT.of iL,rfl,_,rfl,zL,fun t4 OU=>hR _ _ _ (by rw[zA2];show ys.length+1<=j+1;lia) ⟨LC.updR OU,⟨_,_,rfl⟩,?_⟩⟩;rw[bP,gR,zAy (show 0<(cl[j],sh[j]).2 from hp)];refine((ki.same (Same.upd LB)).same (Same.upd OU)).app (Els.one ?_);rw[aa];show some (HO.tup [V.int y,_,_,_])=some (HO.tup [V.int (fl cl[j] 0),_,_,_]);rw[ey]
     .rw[zB0 hp];refine bA (hR _ _ _ Zz ⟨LC,⟨_,_,rfl⟩,?_⟩);rw[bP,gR,zAv (show¬0<(cl[j],sh[j]).2 from hp),zAn];exact ki.same (Same.upd LB)
    rintro ys σ Hd nc ⟨sd,_,ki⟩;rw[List.take_of_length_le (by rw[zAs];lia)]at ki;refine⟨⟨_,SqL.of (sd _ _ ml),by rw[OG];exact zA3 _⟩,fun D hD=>?_⟩;have sD:=sd.updR (o:=.lst ys) hD;have WD:=W3.same sD;have DF:=WD.elg.1;refine⟨lg,D,xg,ys,rfl,rfl,WD.eg,aa,by rw[DF,sizeLine_eq];have:i*(240*(y:Int).toNat+400)<=3*(240*(y:Int).toNat+400):=Nat.mul_le_mul_right _ Zz;lia,fun hZ ij=>?_⟩;have sp:=Same.upd (o:=.lst (xg++ys)) ij
    have W4:Wd ps Hy (upd (upd Hd D (.lst ys)) hZ (.lst (xg++ys))) lk hZ ll (xg++ys) (G++bR (cl.zip sh)) (yTo c ps ss ow y i).l (Mi++bh (cl.zip sh)):=by
     have WE:=WD.same sp;obtain⟨Xn,rX,_⟩:=id WD.lka;refine⟨WE.k,aa,((WD.elg.app (ki.same (Same.upd hD))).same sp),WE.el,WE.lka,(az rX ij).symm,WE.nl,(az WD.el ij).symm,?_,WE.fl⟩
     cases z:Hy hZ with
     |none=>rfl
     |some o=>
      rw[WD.k hZ o (az rX ij).symm z]at ij;cases ij
    have xA:=sp _ _ (sD _ _ AB);have xB:=W4.k _ _ OP oT;generalize upd (upd Hd D (.lst ys)) hZ (.lst (xg++ys))=H4 at W4 xA xB⊢;generalize xg++ys=RU at W4;clear sp sD WD W3 ki ij hD sd ml mm AB DF;refine aF ?_;refine ba _ _ ?_;clear ba c_
    try dsimp only
    refine cN fun c_ ba=>?_;refine aR ?_;refine⟨_,rfl,_,rfl,tc,_,(i:Int),.int (c.getD i 0),rfl,rfl,SqT.of xB,du OO,_,rfl,_,_,rfl,rfl,_,rfl,DE,sh,rfl,.inl (SqL.of xA),_,_,rfl,rfl,?_⟩;rw[<-Lw];refine aF ?_;refine ba _ _ ?_;clear ba c_
    try dsimp only
    obtain⟨w2,RV⟩:∃w2,w2=w1-sh.sum:=⟨_,rfl⟩
    rw[<-RV]at iP DB ed⊢
    have hN:∀r∈bh (cl.zip sh),fl r 0=y:=fun r hr=>by
     obtain⟨p,hp,rfl⟩:=zA5.mp hr;exact(fT _ (List.of_mem_zip (show(p.1,p.2)∈_ from(zAq.mp hp).1)).1).1
    obtain⟨Mo,cx,mn⟩:=id W4.lka
    obtain⟨R,eR⟩:∃R,R=ju ps Mo:=⟨_,rfl⟩
    have pR:R.Perm Mo:=by rw[eR];exact mO ps Mo
    have RW:∀r∈R,r.length=4/\0<=fl r 3:=fun r hr=>by
     rcases zA6.mp (mn.mem_iff.mp (pR.mem_iff.mp hr))with z|z
     .obtain⟨a1,_,_,a4⟩:=g.ok r z;exact⟨a1,a4⟩
     .obtain⟨p,hp,rfl⟩:=zA5.mp z;have:=zB8 (zAq.mp hp).2;exact⟨rfl,by show 0<=fl p.1 3-p.2;lia⟩
    have Xo:(bh (cl.zip sh)).length<=80:=by
     unfold bh;rw[zA1];refine Nat.le_trans (List.length_filter_le _ _) ?_;rw[zAs];lia
    have lR:R.length<=10000:=by
     rw[pR.length_eq,mn.length_eq,zA2];lia
    have RX:(R.map keyOf).Nodup:=by
     refine((pR.trans mn).map keyOf).nodup_iff.mpr ?_;rw[zA4,List.nodup_append];refine⟨g.kd,?_,fun a ha b hb e=>?_⟩
     .refine Fc.sublist ?_;have:=(uM (cl.zip sh)).map keyOf;rw[fD (f:=iG) (fun _=>rfl) C6]at this;exact this
     .subst e;obtain⟨p,hp,e⟩:=uL hb;exact Fh p.1 (List.of_mem_zip (show(p.1,p.2)∈_ from hp)).1 (by rw[e];exact ha)
    refine cN fun c_ ba=>?_;refine⟨_,rfl,lk,Mo.map (kvS ps),rkI,rfl,cx,fun p hp=>?_,fun q' l' row hq pm so hH=>?_⟩
    .obtain⟨r,_,rfl⟩:=zA5.mp hp;have e:rkI (kvS ps r).1=dh ps r:=xU (dh ps r);rw[e];exact⟨rfl,by unfold dh;simp⟩
    have eL:l'.map row=R.map (dh ps):=by
     rw[eR,zF];refine gJ ?_ (List.pairwise_map.mpr so);rw[zAr]at pm;refine pm.trans (.of_eq (List.map_congr_left fun r _=>?_));exact xU (dh ps r)
    have S7:=Same.upd (o:=.lst (l'.map V.ref)) hq;have sf:=aa (H:=H4) (a:=q') (o:=.lst (l'.map V.ref))
    have pe:Els (upd H4 q' (.lst (l'.map V.ref))) (l'.map V.ref) (R.map (dh ps)):=by
     rw[<-eL];exact sU fun a ha=>S7 _ _ (hH a ha)
    have dq:q'≠hZ/\q'≠ll/\q'≠lk:=⟨(az W4.eg hq).symm,(az W4.el hq).symm,(az cx hq).symm⟩
    have W7:=W4.same S7;generalize upd H4 q' (.lst (l'.map V.ref))=H7 at W7 sf pe⊢;generalize l'.map V.ref=xq at sf pe⊢;clear W4 S7 hq pm so hH eL xA xB;have OV:xq.length=R.length:=by rw[pe.1,zA1]
    refine⟨q',rfl,⟨_,SqL.of sf⟩,?_⟩;refine fj (xs:=xq) (fun j σ Hk=>∃bX cb kx,σ=[some (.ref ac),some (.ref ap),some (.ref af),some (.ref fo),some (.ref lk),some (.ref lf),some (.int y),some (.ref tc),some (.ref hZ),some (.int (w2-(aW w2 (eJ ps i y R j)).sum)),some (.ref ll),some (.int i),some (.ref DC),some (.ref DE),bX,cb,fq]/\Wd ps Hy Hk lk hZ ll kx (G++bR (cl.zip sh)++bR ((eJ ps i y R j).zip (aW w2 (eJ ps i y R j)))) (yTo c ps ss ow y i).l (mJ ps i y w2 R j)/\Hk q'=some (.lst xq)/\Els Hk xq (R.map (dh ps))/\0<=w2-(aW w2 (eJ ps i y R j)).sum) ?_ ?_ ?_ ?_
    .refine⟨bX,cb,RU,?_,?_,sf,pe,?_⟩
     .show _=[_,_,_,_,_,_,_,_,_,some (V.int (w2-0)),_,_,_,_,_,_,_];rw[Int.sub_zero];rfl
     .rw[KN,show bR ((eJ ps i y R 0).zip (aW w2 (eJ ps i y R 0)))=[]from rfl,zAn];exact⟨W7.k,W7.eg,W7.elg,W7.el,W7.lka.pm (pR.trans mn).symm,W7.nk,W7.nl,W7.ng,W7.fg,W7.fl⟩
     .show 0<=w2-0;lia
    .rintro j σ Hk hj ⟨bX,cb,kx,rfl,Wk,AD,ko,LD⟩;exact SqL.of AD
    .rintro j x σ Hk hx ⟨bX,cb,kx,rfl,Wk,AD,ko,LD⟩
     have hj:j<R.length:=by
      have:=(zAa.mp hx).1;lia
     obtain⟨t,ex,et⟩:=ko.2 j (dh ps R[j]) (by rw[zAb,zA0 hj];rfl);rw[hx]at ex;cases ex;have et:Hk t=some (.tup [.int (aO ps R[j]),.int (fl R[j] 0),.int (fl R[j] 1),.int (fl R[j] 2)]):=et;obtain⟨r4,r0⟩:=RW _ (zAh hj);have kd:=JQ (ps:=ps) (n:=i) (y:=y) (w:=w2) (j:=j) RX;have pj:R[j]∈mJ ps i y w2 R j:=by rw[CZ hj];exact zA6.mpr (.inr (.head _))
     refine aF ?_;refine lq fun RY LF=>?_;refine cN fun cB OW=>?_;refine aR ?_
     have no:old ps i y R[j]=false->cB [some (.ref ac),some (.ref ap),some (.ref af),some (.ref fo),some (.ref lk),some (.ref lf),some (.int y),some (.ref tc),some (.ref hZ),some (.int (w2-(aW w2 (eJ ps i y R j)).sum)),some (.ref ll),some (.int i),some (.ref DC),some (.ref DE),some (.ref t),some (.int 0),fq] Hk:=fun hold=>by
      refine OW _ _ ?_;refine⟨_,rfl,_,_,rfl,rfl,_,rfl,bA ?_⟩;refine LF _ _ ⟨_,_,kx,by rw[xV hj hold],?_,AD,ko,by rw[xV hj hold];exact LD⟩;rw[xV hj hold];exact⟨Wk.k,Wk.eg,Wk.elg,Wk.el,Wk.lka.pm (JP hj hold),Wk.nk,Wk.nl,Wk.ng,Wk.fg,Wk.fl⟩
     refine⟨_,rfl,t,_,0,.int (aO ps R[j]),rfl,rfl,SqT.of et,rfl,_,rfl,rfl,_,rfl,?_⟩;by_cases hs:aO ps R[j]=i
     .rw[zAt (by rw[hs])];refine bK ⟨_,rfl,t,_,1,.int (fl R[j] 0),rfl,rfl,SqT.of et,rfl,_,rfl,_,_,rfl,rfl,_,rfl,?_⟩;by_cases ho:fl R[j] 0<y
      .rw[zAt ho];refine bK ⟨_,rfl,_,rfl,_,rfl,lk,.int (fl R[j] 3),rfl,Wk.lka.get kd pj et,_,_,rfl,?_⟩
       have hold:old ps i y R[j]=true:=by
        unfold old;rw[zAt hs,zAt ho];rfl
       rw[CV];generalize hm:(if w2-(aW w2 (eJ ps i y R j)).sum<fl R[j] 3 then w2-(aW w2 (eJ ps i y R j)).sum else fl R[j] 3)=m;obtain⟨y1,y2,y3⟩:=HN (w:=w2) hj hold hm.symm
       have IU:0<=m/\m<=w2-(aW w2 (eJ ps i y R j)).sum/\m<=fl R[j] 3:=by
        rw[<-hm];split<;>lia
       refine aF ?_;refine OW _ _ ?_
       try dsimp only
       refine⟨_,rfl,_,_,rfl,rfl,_,rfl,?_⟩
       have pS:(aW w2 (eJ ps i y R (j+1))).sum=(aW w2 (eJ ps i y R j)).sum+m:=by
        rw[y2,List.sum_append,List.sum_cons,List.sum_nil,Int.add_zero]
       by_cases hp:0<m
       .rw[decide_eq_true hp];rw[if_pos hp]at y3;refine bK ?_;refine cN fun c_ ba=>?_;refine⟨_,rfl,.inl ⟨rfl,_,SqL.of Wk.eg⟩,_,rfl,1,rfl,t,_,rfl,et,fun tk HK sK bP=>⟨_,rfl,zL,fun t1 oP=>?_⟩⟩;have bP:HK tk=some (.tup [.int (fl R[j] 0),.int (fl R[j] 1),.int (fl R[j] 2)]):=bP;have s1:=Same.upd (o:=.tup [V.int m]) oP;refine⟨tk,t1,_,_,rfl,rfl,s1 _ _ bP,aa,by simp,(by show 3+1<=sizeLine;decide),fun t2 HL sL iL=>?_⟩;have sX:=(sK.trans s1).trans sL;have DH:=Wk.same sX;have DI:=DH.elg.1;have OX:=sX _ _ et;have OY:=sX _ _ AD;have DJ:=ko.same sX;refine⟨hZ,kx,.ref t2,rfl,rfl,DH.eg,?_,?_⟩
        .have b1:(bR (cl.zip sh)).length<=80:=by
          unfold bR;rw[zA1];refine Nat.le_trans (List.length_filter_le _ _) ?_;rw[zAs];lia
         have b2:(bR ((eJ ps i y R j).zip (aW w2 (eJ ps i y R j)))).length<=10000:=by
          unfold bR eJ;rw[zA1];refine Nat.le_trans (List.length_filter_le _ _) ?_;rw[zAs];have:=List.length_filter_le (old ps i y) (R.take j);rw[zAd]at this;lia
         have b3:i*(240*(y:Int).toNat+400)<=3*(240*(y:Int).toNat+400):=Nat.mul_le_mul_right _ Zz;rw[DI,zA2,zA2,sizeLine_eq];lia
        have W8:=DH.gone (t:=t2) (r:=zr (R[j],m)) iL
        have keep:∀{b:Addr} {u:HO},b≠hZ->HL b=some u->upd HL hZ (.lst (kx++[.ref t2])) b=some u:=fun{b u} n e=>by
         rw[au n];exact e
        have aI:∀b z,HL b=some (.tup z)->upd HL hZ (.lst (kx++[.ref t2])) b=some (.tup z):=fun b z e=>keep (fun w=>by rw[w,DH.eg]at e;cases e) e;have OZ:=keep dq.1 OY;have DL:=DJ.keep aI;have LG:=aI _ _ OX;refine ba _ _ ?_;clear ba c_
        try dsimp only
        generalize upd HL hZ (.lst (kx++[.ref t2]))=H8 at W8 OZ DL LG⊢;clear keep aI s1 oP DH DI OX OY DJ sX sK sL bP iL;obtain⟨Mk,DM,LH⟩:=id W8.lka;have Xp:Mk.length<=10000:=by rw[LH.length_eq,HQ];exact lR
        have O0:=kd;rw[CZ hj]at LH O0;obtain⟨Mn,RZ,R0⟩:=zG (ps:=ps) (x:=fl R[j] 3-m) LH O0;refine⟨_,rfl,_,rfl,lk,.int (fl R[j] 3),rfl,W8.lka.get kd pj LG,_,rfl,_,_,rfl,rfl,_,rfl,_,rfl,_,_,rfl,rfl,zL,fun tp R1=>?_⟩;have sP:=Same.upd (o:=.tup [V.int (fl R[j] 3-m),V.int (w2-(aW w2 (eJ ps i y R j)).sum-m)]) R1;have eP:=aa (H:=H8) (a:=tp) (o:=.tup [V.int (fl R[j] 3-m),V.int (w2-(aW w2 (eJ ps i y R j)).sum-m)]);refine⟨tp,_,rfl,SqT.of eP,rfl,_,_,rfl,_,rfl,_,rfl,lk,_,rfl,DPut.t (k:=(dh ps R[j]).map Sum.inl) (sP _ _ DM) (by rw[sP _ _ LG];rfl) (by rw[zA1,sizeLine_eq];lia),_,_,rfl,rfl,?_⟩;rw[RZ];have W9:=(W8.same sP).put R0;refine LF _ _ ⟨some (.ref t),some (.int m),kx++[.ref t2],by rw[pS,<-Int.sub_sub];rfl,?_,?_,?_,by rw[pS];lia⟩
        .rw[y3,y1,<-zAf];exact W9
        .rw[au dq.2.2];exact sP _ _ OZ
        .exact(DL.same sP).keep fun b z e=>by
          rw[au fun w=>by rw[w,sP _ _ DM]at e;cases e];exact e
       .rw[zB0 hp];have m0:m=0:=Zz
        subst m0;rw[zAv hp,zAn]at y3;refine bA (LF _ _ ⟨some (.ref t),some (.int 0),kx,by rw[pS,Int.add_zero];rfl,?_,AD,ko,by rw[pS];lia⟩)
        have er:iG (R[j],0)=R[j]:=by
         unfold iG
         conv=>rhs;rw[bJ r4]
         show[_,_,_,fl R[j] 3-0]=_;rw[Int.sub_zero]
        rw[y3,y1,er,<-CZ hj];exact Wk
      .rw[zB0 ho];refine bA (aF (no ?_));unfold old;rw[zB0 ho,Bool.and_false]
     .rw[zB0 (fun z=>hs (by injection z))];refine bA (bA (aF (no ?_)));unfold old;rw[zB0 hs];rfl
    rintro σ Hk ⟨bX,cb,kx,rfl,Wk,AD,ko,LD⟩;obtain⟨eE,pE⟩:=HR (w:=w2) g mn hN;rw[<-eR]at eE pE;rw[OV,eE,<-DB]at Wk;rw[OV,eE,<-DB,ed];rw[<-DB]at pE;refine ba _ _ ?_;clear ba c_
    try dsimp only
    refine⟨_,rfl,.inl ⟨rfl,_,SqL.of Wk.el⟩,_,rfl,ll,_,_,rfl,rfl,Wk.el,?_,?_⟩
    .rw[zA1,(xJ (c:=c) (ss:=ss) (ow:=ow) (y:=y) lp i).2.2,sizeLine_eq];lia
    have WB:=Wk.down (x:=(yTo c ps ss ow y (i+1)).d);rw[zA4]at WB;refine RS _ _ ⟨_,_,_,_,_,hZ,kx,_,_,rfl,⟨WB.k,WB.eg,WB.elg,WB.el,WB.lka.pm pE,WB.nk,WB.nl,WB.ng,WB.fg,WB.fl⟩,g',by rw[dF,dF,pG,jX,jX]⟩
   .rintro σ Hc ⟨cS,de,df,bX,cb,lg,xg,G,Mi,rfl,W,g,pG⟩;refine AN _ _ ?_;clear AN cc
    try dsimp only
    have mT:Lk ps (d9 cs ps ss (y+1)) (y+1) Mi:=by
     show Lk ps (srt (yTo (cs.getD y []) ps ss (d9 cs ps ss y) y 3).k) (y+1) Mi;rw[ec,how]
     exact g.next okp hU
    obtain⟨Mo,cx,mn⟩:=id W.lka;have kd:(Mo.map keyOf).Nodup:=(mn.map _).nodup_iff.mpr mT.kd
    have Xq:Mo.length<=10000:=by
     have:=mT.len;have:=mn.length_eq;lia
    refine cN fun c_ ba=>?_;refine aR ?_;refine⟨lk,_,cx,fun o=>?_⟩;have ez:=aa (H:=Hc) (a:=lk) (o:=.frz o (.dT (Mo.map (kvS ps))))
    have sz:∀b u,b≠lk->Hc b=some u->upd Hc lk (.frz o (.dT (Mo.map (kvS ps)))) b=some u:=fun b u n e=>by
     rw[au n];exact e
    generalize upd Hc lk (.frz o (.dT (Mo.map (kvS ps))))=Hz at ez sz⊢;refine⟨_,rfl,lk,o,_,rfl,ez,cZ Mo.length (fun j ys σ Hd=>Same Hz Hd/\(∃o1,σ=[o1,some (.ref lk)])/\Els Hd ys (cG (Mo.take j))) ⟨Same.refl _,⟨_,rfl⟩,Els.nil⟩ Zu ?_ ?_⟩
    .rintro j ys σ Hd hj nc ⟨sd,⟨o1,rfl⟩,ki⟩;have R3:=mT.ok Mo[j] (mn.mem_iff.mp (zAh hj))
     have bP:cG (Mo.take (j+1))=cG (Mo.take j)++(if 0<fl Mo[j] 3 then[Mo[j]]else[]):=by
      rw[zAj,zA0 hj,show(some Mo[j]).toList=[Mo[j]]from rfl,dF];congr 1;unfold cG;by_cases h:0<fl Mo[j] 3
      .rw[zAy h,zB4 (p:=fun(r:List Int)=>decide (0<fl r 3)) (zAt h)];rfl
      .rw[zAv h,zB7 (p:=fun(r:List Int)=>decide (0<fl r 3)) (by rw[Zp];exact h)];rfl
     refine⟨⟨sd _ _ ez,by rw[zA1];exact hj⟩,fun x H' yv R hR=>?_⟩;obtain⟨rfl,bb,kk,vv,rfl,rS,iN⟩:=yv;rw[zAb,zA0 hj]at rS;cases rS;have iN:H' bb=some (.tup ((dh ps Mo[j]).map V.int)):=iN;have gt:=xT (sd _ _ ez) kd (zAh hj) iN;refine aF ?_;refine⟨_,rfl,_,rfl,lk,_,rfl,gt,_,_,rfl,rfl,_,rfl,?_⟩;by_cases h:0<fl Mo[j] 3
     .rw[decide_eq_true h];refine bK ⟨_,rfl,1,rfl,bb,_,rfl,iN,fun tk HK sK xC=>⟨_,rfl,_,rfl,lk,_,rfl,xT (sK _ _ (sd _ _ ez)) kd (zAh hj) (sK _ _ iN),zL,fun t1 oP=>?_⟩⟩;have s1:=Same.upd (o:=.tup [V.int (fl Mo[j] 3)]) oP;have xC:HK tk=some (.tup [.int (fl Mo[j] 0),.int (fl Mo[j] 1),.int (fl Mo[j] 2)]):=xC;refine⟨tk,t1,_,_,rfl,rfl,s1 _ _ xC,aa,by simp,(by show 3+1<=sizeLine;decide),fun t2 HL sL iL=>hR _ _ _ (by rw[List.length_append];show ys.length+1<=j+1;lia) ⟨((sd.trans sK).trans s1).trans sL,⟨_,rfl⟩,?_⟩⟩;rw[bP,if_pos h];refine(((ki.same sK).same s1).same sL).app (Els.one ?_);rw[iL]
      conv=>rhs;rw[bJ R3.1]
      rfl
     .rw[zB0 h];refine bA (hR _ _ _ Zz ⟨sd,⟨_,rfl⟩,?_⟩);rw[bP,zAv h,zAn];exact ki
    rintro ys σ Hd nc ⟨sd,_,ki⟩;rw[zAm]at ki;refine⟨⟨sd _ _ ez,by rw[zA1];exact zA3 _⟩,fun D hD=>⟨Same.upd hD _ _ (sd _ _ ez),?_⟩⟩
    have nD:D≠lk:=fun z=>by rw[z,sd _ _ ez]at hD;cases hD
    have S6:Same Hc (upd (upd Hd D (.lst ys)) lk (.dT (Mo.map (kvS ps)))):=fun b u e=>by
     by_cases hb:b=lk
     .subst hb;rw[cx]at e;cases e;exact aa
     .rw[au hb];exact Same.upd hD _ _ (sd _ _ (sz _ _ hb e))
    have eD:upd (upd Hd D (.lst ys)) lk (.dT (Mo.map (kvS ps))) D=some (.lst ys):=by rw[au nD];exact aa
    have DO:upd Hd D (.lst ys) lk=some (.frz o (.dT (Mo.map (kvS ps)))):=Same.upd hD _ _ (sd _ _ ez)
    have hJ:Els (upd (upd Hd D (.lst ys)) lk (.dT (Mo.map (kvS ps)))) ys (cG Mo):=(ki.same (Same.upd hD)).keep fun b z e=>by
     rw[au fun w=>by rw[w,DO]at e;cases e];exact e
    generalize upd (upd Hd D (.lst ys)) lk (.dT (Mo.map (kvS ps)))=H6 at S6 eD hJ⊢;clear ki sd sz ez hD DO;obtain⟨ads,ey,D9,LI⟩:=jU hJ;subst ey;refine⟨D,ads,gY H6,rfl,SqL.of eD,fun a ha=>⟨SqT.of (LI a ha),fun z=>?_⟩,fun q' l' hq R4 pm EU=>?_⟩
    .have:gY H6 a∈cG Mo:=by rw[D9];exact List.mem_map_of_mem ha
     have:=(mT.ok _ (mn.mem_iff.mp (zAq.mp this).1)).1;rw[z]at this;cases this
    have S7:=S6.updR (o:=.lst (l'.map V.ref)) hq;refine aF ?_;refine ba _ _ ?_;clear ba c_
    try dsimp only
    have EX:l'.map (gY H6)=d9 cs ps ss (y+1):=by
     refine(gJ ?_ (List.pairwise_map.mpr EU)).trans (gJ (List.Perm.refl _) (Gf cs ps ss (y+1))).symm;refine(pm.map _).trans ?_;rw[<-D9];exact(mn.filter _).trans mT.pm
    have elq:Els (upd H6 q' (.lst (l'.map V.ref))) (l'.map V.ref) (d9 cs ps ss (y+1)):=by
     rw[<-EX];exact sU fun a ha=>Same.upd hq _ _ (LI a (pm.mem_iff.mp ha))
    have sf:=aa (H:=H6) (a:=q') (o:=.lst (l'.map V.ref));have W7:=W.same S7;have LJ:Hc q'=none:=S6.free hq;generalize upd H6 q' (.lst (l'.map V.ref))=H7 at W7 sf elq⊢;generalize l'.map V.ref=xq at sf elq;clear LI D9 hJ eD S6 hq pm EU EX S7;obtain⟨R8,DS,LK⟩:=id W7.lka;have xE:=W7.k _ _ Lq oS
    have O3:q'≠lf:=fun z=>by
     rw[z,W.k _ _ Lq oS]at LJ;cases LJ
    have R9:q'≠lk:=(az cx LJ).symm;obtain⟨LM,Sa,DT,DU⟩:=jU W7.elg;have O4:=W7.eg;rw[Sa]at O4;refine⟨_,rfl,.inl ⟨rfl,_,SqL.of xE⟩,_,rfl,lg,LM,gY H7,rfl,SqL.of O4,fun a ha=>⟨SqT.of (DU a ha),fun z=>?_⟩,fun g2 l2 LN LO CC zk=>?_⟩
    .have:gY H7 a∈G:=by rw[DT];exact List.mem_map_of_mem ha
     have:=g.g4 _ this;rw[z]at this;cases this
    have Sb:l2.map (gY H7)=srt (fY cs ps ss y).g:=by
     unfold fY;rw[ec,how,<-g.gn,pG];refine gJ ?_ (List.pairwise_map.mpr zk);have:=CC.map (gY H7);rw[<-DT]at this;exact this
    have v1:=Same.upd (o:=.lst (l2.map V.ref)) LN
    have LP:Els (upd H7 g2 (.lst (l2.map V.ref))) (l2.map V.ref) (srt (fY cs ps ss y).g):=by
     rw[<-Sb];exact sU fun a ha=>v1 _ _ (DU a (CC.mem_iff.mp ha))
    have Sd:=aa (H:=H7) (a:=g2) (o:=.lst (l2.map V.ref));have Se:g2≠lk:=(az DS LN).symm;have O5:g2≠lf:=(az xE LN).symm;refine⟨_,rfl,ll,_,rfl,.inl ⟨SqL.of (v1 _ _ W7.el),fun tl EW=>?_⟩⟩;have v2:=Same.upd (o:=.tup ((yTo c ps ss ow y 3).l.map V.int)) EW;have CD:=aa (H:=upd H7 g2 (.lst (l2.map V.ref))) (a:=tl) (o:=.tup ((yTo c ps ss ow y 3).l.map V.int));have DV:=LP.same v2;have O6:=v2 _ _ Sd;have FD:=v1.trans v2;generalize upd (upd H7 g2 (.lst (l2.map V.ref))) tl (.tup ((yTo c ps ss ow y 3).l.map V.int))=H9 at FD CD DV O6⊢;refine⟨_,rfl,zL,fun t8 xt=>?_⟩;have xI:=FD _ _ xE;have u8:=Same.upd (o:=.tup [.ref g2,.ref tl,.ref q']) xt;refine⟨lf,ts.map V.ref,.ref t8,rfl,rfl,u8 _ _ xI,by rw[zA1,lt,sizeLine_eq];lia,?_⟩
    have Sf:t8≠lf:=fun z=>by rw[z,xI]at xt;cases xt
    have mv:∀{o:HO} b u,b≠lf->H9 b=some u->upd (upd H9 t8 (.tup [.ref g2,.ref tl,.ref q'])) lf o b=some u:=fun{o} b u n e=>by
     rw[au n];exact u8 _ _ e
    have keep:∀{o:HO} b u,b≠lf->H7 b=some u->upd (upd H9 t8 (.tup [.ref g2,.ref tl,.ref q'])) lf o b=some u:=fun{o} b u n e=>mv b u n (FD _ _ e);have Sg:=Lv.but W7.k nf vT gu;refine zi _ _ ⟨_,_,_,_,_,_,_,_,_,_,_,Mi,ts++[t8],rfl,fun b o e=>keep _ _ (az e OL) (W7.k _ _ (az e vT) (k1 _ _ e)),⟨R8,keep _ _ Lq.symm DS,LK⟩,mT,?_,?_,by rw[zA2,lt];rfl,fun j a e=>?_⟩
    .exact Lts.butL (xl:=[]) Lr Sg (fun b o n e=>keep _ _ n e) As sA
    .rw[aa,zA4];rfl
    .by_cases hj:j<ts.length
     .rw[zBc hj]at e;exact(FC j a e).keep (fun b o n1 n2 e=>keep _ _ n2 (W7.k _ _ n1 e)) gu oS
     .have kS:j=y:=by
       have:=(zAa.mp e).1;rw[zA2]at this;simp at this;lia
      subst kS;rw[zBd Zz,lt,Nat.sub_self]at e;cases e;have kt:∀{o:HO} b z,H9 b=some (.tup z)->upd (upd H9 t8 (.tup [.ref g2,.ref tl,.ref q'])) lf o b=some (.tup z):=fun{o} b z e=>mv b _ (fun w=>by rw[w,xI]at e;cases e) e
      have LQ:H9 tl=some (.tup ((fY cs ps ss j).l.map V.int)):=by
       unfold fY;rw[ec,how];exact CD
      exact⟨g2,tl,q',_,_,by rw[au Sf];exact aa,Se,O5,mv _ _ O5 O6,DV.keep kt,LO,R9,O3,keep _ _ O3 sf,(elq.same FD).keep kt,R4,kt _ _ LQ⟩
  .rintro σ Hc ⟨x6,x7,x8,x9,bq,cS,de,df,bX,cb,fq,M,ts,rfl,k,la,Fu,dt,Au,lt,hw⟩;rw[show xc.length=cs.length from rc.l]at lt;exact⟨_,rfl,q lf lk ts Hc k OL Au lt hw⟩
def okC(r:List Int):Prop:=r.length=3/\∀x∈r,0<=x/\x<1000
theorem lA:∀{ds:List PyData},(∀d∈ds,tame d=true)->jg ds=true
 |[],_=>rfl
 |d::ds,h=>by
  show(tame d&&jg ds)=true;rw[h d (.head _),lA fun e he=>h e (.tail _ he)];rfl
theorem Dc{r:List Int}(h:∀i∈r,-10<=i/\i<=2000000):tame (rowD r)=true:=by
 refine lA fun d hd=>?_;obtain⟨i,hi,rfl⟩:=zA5.mp hd;have:=h i hi;exact zAt Zz
theorem zM{rs:List (List Int)}(h:∀r∈rs,∀i∈r,-10<=i/\i<=2000000):jg (rs.map rowD)=true:=lA fun d hd=>by
 obtain⟨r,hr,rfl⟩:=zA5.mp hd;exact Dc (h r hr)
theorem qK:∀(is:List Int),szs (is.map PyData.int)=is.length
 |[]=>rfl
 |i::is=>by
  show 1+szs (is.map PyData.int)=is.length+1;rw[qK is];lia
theorem j6{k:Nat}:∀{rs:List (List Int)},(∀r∈rs,r.length=k)->szs (rs.map rowD)=(k+1)*rs.length
 |[],_=>rfl
 |r::rs,h=>by
  show(1+szs (r.map PyData.int))+szs (rs.map rowD)=(k+1)*(rs.length+1);rw[qK,h r (.head _),j6 fun q hq=>h q (.tail _ hq),Nat.mul_add];lia
theorem oK:∀(is:List Int),PyData.depthAll (is.map PyData.int)=0
 |[]=>rfl
 |i::is=>by
  show max 0 (PyData.depthAll (is.map PyData.int))=0;rw[oK is];rfl
theorem oM:∀(rs:List (List Int)),PyData.depthAll (rs.map rowD)<=1
 |[]=>zAp _
 |r::rs=>by
  show max (PyData.depthAll (r.map PyData.int)+1) (PyData.depthAll (rs.map rowD))<=1;rw[oK];have:=oM rs;lia
theorem KR{r:List Int}(h:okP r):∀i∈r,-10<=i/\i<=2000000:=by
 obtain⟨h0,h1,h2,h3,h4,h5⟩:=h;rw[six_row h0];intro i hi;simp only[List.mem_cons,List.not_mem_nil,or_false]at hi;rcases hi with rfl|rfl|rfl|rfl|rfl|rfl<;>lia
theorem sV{S:Addr->Prop}{H:Hp}:∀{xs:List V} {rs:List (List Int)},Els H xs rs->IsThs S H xs (rs.map rowD)
 |[],[],_=>.nil
 |[],_::_,h=>by have:=h.1;simp at this
 |_::_,[],h=>by have:=h.1;simp at this
 |x::xs,r::rs,h=>by
  obtain⟨t,e1,e2⟩:=h.2 0 r rfl;rw[List.getElem?_cons_zero]at e1;cases e1;refine .cons (.tup e2 (IsThs.ints r)) (sV ⟨by have:=h.1;simpa using this,fun i q e=>?_⟩);obtain⟨u,g1,g2⟩:=h.2 (i+1) q (by rw[List.getElem?_cons_succ];exact e);rw[List.getElem?_cons_succ]at g1;exact⟨u,g1,g2⟩
def bd(r:List Int):Prop:=r.length=4/\∀x∈r,0<=x/\x<=99
theorem sW{a b c d:Int}(ha:0<=a/\a<=99)(hb:0<=b/\b<=99)(hc:0<=c/\c<=99)(hd:0<=d/\d<=99):bd [a,b,c,d]:=by
 refine⟨rfl,fun x hx=>?_⟩;simp only[List.mem_cons,List.not_mem_nil,or_false]at hx;rcases hx with rfl|rfl|rfl|rfl<;>assumption
theorem Dd{r:List Int}(h:bd r):(0<=fl r 0/\fl r 0<=99)/\(0<=fl r 1/\fl r 1<=99)/\(0<=fl r 2/\fl r 2<=99)/\(0<=fl r 3/\fl r 3<=99):=by
 obtain⟨h4,h⟩:=h;rw[bJ h4]at h;exact⟨h _ Zy,h _ Zy,h _ Zy,h _ Zy⟩
theorem Gg:∀{w:Int} {S:List (List Int)},∀p∈S.zip (aW w S),p.2<=fl p.1 3:=fun{w S}=>by
 induction S generalizing w with
 |nil=>intro p hp;cases hp
 |cons r S ih=>
  intro p hp;unfold aW at hp;rw[List.zip_cons_cons]at hp;rcases zAo.mp hp with z|z
  .rw[z];show(if w<fl r 3 then w else fl r 3)<=fl r 3;split<;>lia
  .exact ih p z
theorem HS{c:List Int}{ps ss ow:List (List Int)}{y:Int}(y0:0<=y)(y1:y<=99)(hc:∀x∈c,0<=x)(hu:un ps ss=none)(h5:∀s∈ss,s.length=5)(okp:∀r∈ps,okP r)(hl:ps.length<=10)(ho:∀r∈ow,okO ps r)(hb:∀r∈ow,bd r):∀n,(∀r∈(yTo c ps ss ow y n).g,bd r)/\∀r∈(yTo c ps ss ow y n).k,bd r
 |0=>⟨fun r hr=>(by cases hr),fun r hr=>(by cases hr)⟩
 |n+1=>by
  obtain⟨a,b⟩:=HS (c:=c) (y:=y) y0 y1 hc hu h5 okp hl ho hb n;have nn:=zj (y:=y) hc hu h5 okp hl ho n
  have hw:0<=c.getD n 0+(yTo c ps ss ow y n).d:=by
   have:=gr hc n;lia
  have f6:=dD (sort:=n) (year:=y) hu h5 okp;have kg:=cA (ss:=ss) (sort:=n) (year:=y) hl;generalize O7:c.getD n 0+(yTo c ps ss ow y n).d=w at hw
  have DZ:∀p∈(aD ps ss n y++aH ps ow n).zip (shr w (aD ps ss n y) (aH ps ow n)),bd p.1/\0<=p.2/\p.2<=fl p.1 3:=fun p hp=>by
   obtain⟨m1,m2⟩:=List.of_mem_zip (show(p.1,p.2)∈_ from hp);have s0:=(sG hw f6 kg (fun r hr=>by have:=(gW (sort:=n) ho r hr).2.2.2;lia)).1 p.2 m2;refine⟨?_,s0,?_⟩
   .rcases zA6.mp m1 with z|z
    .obtain⟨a1,a2,a3,a4,a5,a6⟩:=gw z;obtain⟨b1,b2,b3⟩:=f6 _ z;rw[bJ b1];exact sW Zz Zz Zz Zz
    .exact hb _ (zAq.mp z).1
   .unfold shr at hp;rw[List.zip_append shares_len.symm]at hp;rcases zA6.mp hp with z|z
    .exact CJ hw f6 kg p z
    .exact Gg p z
  refine⟨fun r hr=>?_,fun r hr=>?_⟩
  .rcases zA6.mp (show r∈(yTo c ps ss ow y n).g++bR _ from hr)with z|z
   .exact a r z
   .rw[O7]at z;obtain⟨p,hp,rfl⟩:=zA5.mp z;obtain⟨b1,b2,b3⟩:=DZ p (zAq.mp hp).1;obtain⟨g0,g1,g2,g3⟩:=Dd b1;exact sW g0 g1 g2 Zz
  .rcases zA6.mp (show r∈(yTo c ps ss ow y n).k++bh _ from hr)with z|z
   .exact b r z
   .rw[O7]at z;obtain⟨p,hp,rfl⟩:=zA5.mp z;obtain⟨b1,b2,b3⟩:=DZ p (zAq.mp hp).1;obtain⟨g0,g1,g2,g3⟩:=Dd b1;exact sW g0 g1 g2 Zz
theorem Df{cs:List (List Int)}(h:∀r∈cs,r.length=3/\∀x∈r,0<=x)(n:Nat):∀x∈cs.getD n [],0<=x:=fun x hx=>by
 rw[zA7]at hx
 cases e:cs[n]? with
 |none=>rw[e]at hx;cases hx
 |some r=>rw[e]at hx;exact(h r (zB5 e)).2 x hx
theorem Dg{cs ps ss:List (List Int)}(fT:∀r∈cs,r.length=3/\∀x∈r,0<=x)(hl:ps.length<=10)(hu:un ps ss=none)(h5:∀s∈ss,s.length=5)(okp:∀r∈ps,okP r):∀n,n<=20->∀r∈d9 cs ps ss n,bd r
 |0,_,r,hr=>by cases hr
 |n+1,hn,r,hr=>by
  have ih:=Dg fT hl hu h5 okp n Zz;obtain⟨hU,_⟩:=ji (cs:=cs) hl hu h5 okp n;exact(HS (y:=n) Zz Zz (Df fT n) hu h5 okp hl hU ih 3).2 r ((eG _).mem_iff.mp hr)
theorem qL(rs:List (List Int)):rowsOf (cF rs)=rs:=by
 show(rs.map rowD).map (fun x=>(items x).map intOf)=rs;rw[zAr];refine(List.map_congr_left fun r _=>?_).trans (List.map_id rs);show((r.map PyData.int)).map intOf=r;rw[zAr];exact List.map_id r
theorem lB{r:List Int}{n:Nat}(h:r.length=n):bD (rowD r) n=true:=by
 show(bC (.tuple (r.map PyData.int)) n n&&(r.map PyData.int).all dG)=true;rw[zAc];refine⟨?_,List.all_eq_true.mpr fun x hx=>?_⟩
 .show(true&&(decide ((n:Int)<=(r.map PyData.int).length)&&decide (((r.map PyData.int).length:Int)<=n)))=true;rw[zA1,h,zAt (Int.le_refl _)];rfl
 .obtain⟨i,_,rfl⟩:=zA5.mp hx;rfl
theorem vP{ds:List PyData}{a b:Int}(h1:a<=ds.length)(h2:(ds.length:Int)<=b):bC (.tuple ds) a b=true:=by
 show(true&&(decide (a<=(ds.length:Int))&&decide ((ds.length:Int)<=b)))=true;rw[zAt h1,zAt h2];rfl
theorem Fx{cs ps ss:List (List Int)}(lc1:1<=cs.length)(lc:cs.length<=20)(okc:∀r∈cs,okC r)(lp:ps.length<=10)(okp:∀r∈ps,okP r)(ls:ss.length<=12)(h5:∀s∈ss,s.length=5)(hu:un ps ss=none):o8 (.tuple [cF cs,cF ps,cF ss])=true:=by
 have b0:iV (cF cs)=true:=by
  show(bC (.tuple (cs.map rowD)) 1 20&&(cs.map rowD).all qu)=true;rw[vP (by rw[zA1];lia) (by rw[zA1];lia),Bool.true_and];refine List.all_eq_true.mpr fun x hx=>?_;obtain⟨r,hr,rfl⟩:=zA5.mp hx;obtain⟨h3,hb⟩:=okc r hr;show(bD (rowD r) 3&&(r.map PyData.int).all fun x=>decide (0<=intOf x)&&decide (intOf x<=999))=true;rw[show bD (rowD r) 3=true from lB h3,Bool.true_and];refine List.all_eq_true.mpr fun x hx=>?_;obtain⟨i,hi,rfl⟩:=zA5.mp hx;have:=hb i hi;show(decide (0<=i)&&decide (i<=999))=true;rw[zAt Zz,zAt Zz];rfl
 have b1:fJ (cF ps)=true:=by
  show(bC (.tuple (ps.map rowD)) 0 10&&(ps.map rowD).all jO)=true;rw[vP Zz (by rw[zA1];lia),Bool.true_and];refine List.all_eq_true.mpr fun x hx=>?_;obtain⟨r,hr,rfl⟩:=zA5.mp hx;obtain⟨h6,h1,h2,h3,h4,Sh⟩:=okp r hr;show(bD (rowD r) 6&&rR (at_ (rowD r) 0) (at_ (rowD r) 1) (at_ (rowD r) 2) (at_ (rowD r) 3) (at_ (rowD r) 4) (at_ (rowD r) 5))=true;rw[show bD (rowD r) 6=true from lB h6,Bool.true_and]
  have ea:∀i,i<6->at_ (rowD r) i=fl r i:=fun i hi=>by
   unfold at_ fl;show intOf ((r.map PyData.int).getD i .none)=r.getD i 0;rw[zA7,zA7,zAb,zA0 Zz];rfl
  rw[ea 0 Zx,ea 1 Zx,ea 2 Zx,ea 3 Zx,ea 4 Zx,ea 5 Zx];unfold rR;simp only[Bool.and_eq_true,Zp];exact⟨h1,h2,⟨h3.1,h3.2.1,h3.2.2⟩,h4,Sh⟩
 have b2:fK (cF ss)=true:=by
  show(bC (.tuple (ss.map rowD)) 0 12&&(ss.map rowD).all fun x=>bD x 5)=true;rw[vP Zz (by rw[zA1];lia),Bool.true_and];refine List.all_eq_true.mpr fun x hx=>?_;obtain⟨r,hr,rfl⟩:=zA5.mp hx;exact lB (h5 r hr)
 show(bC (.tuple [cF cs,cF ps,cF ss]) 3 3&&(iV (cF cs)&&(fJ (cF ps)&&(fK (cF ss)&&(un (rowsOf (cF ps)) (rowsOf (cF ss))).isNone))))=true;rw[b0,b1,b2,qL,qL,hu];rfl
inductive SpSameLI(vs:List V)(H:Hp)(Q:VK):Prop
 |mk:∀S a b ds,(vs=[.ref a,.ref b])->(¬S sysModules)->(IsTh S H (.ref a) (.list ds))->(IsTh S H (.ref b) (.list ds))->(tame (.list ds)=true)->(sz (.list ds)<=80000)->((PyData.list ds).depth<=4)->(Q (.bl true) H)->SpSameLI  vs H Q
def xX:Sp:=fun vs H Q _=>SpSameLI  vs H Q
theorem xY{A:Around}{k d:Nat}(hr:Room k A)(h:d<=4):A.units+(d+1)<cLine:=by
 have:=hr.un;lia
theorem Dh(F:Fun K "_law_same" "_law_same" (top 61) f fd)(Tr:mg "repr"=none):FnOk P w K mg base CX0 61 f fd ["_law_found","_law_due_here"] xX:=by
 refine F.ok Kr (fun vs H Q E h=>?_) (fun ai A outer s H vs Q E hr h=>?_)
 .obtain⟨S,a,b,ds,rfl,_⟩:=h;rfl
 .obtain⟨S,a,b,ds,rfl,hS,t1,t2,m,z,dp,q⟩:=h;refine⟨_,aG (aQ (jy iI (aM (nR (S:=S) hr.gd hS) rfl Tr nY (aP (pv 0) aj)) (aM (nR (S:=S) hr.gd hS) rfl Tr nY (aP (pv 1) aj)) (bu _))),?_⟩;refine⟨_,rfl,a,ds,rfl,t1,m,z,xY hr dp,_,rfl,b,ds,rfl,t2,m,z,xY hr dp,rfl,?_⟩;rw[zAt rfl];exact q
def hsum(h v:List Int->Int)(rs:List (List Int)):List Int:=rs.foldl (fun L r=>dJ L (h r) (v r)) (List.replicate 8 0)
theorem uP(h v:List Int->Int):∀(rs:List (List Int)) (L:List Int),(rs.foldl (fun L r=>dJ L (h r) (v r)) L).length=L.length
 |[],_=>rfl
 |r::rs,L=>by
  show(rs.foldl _ (dJ L (h r) (v r))).length=_;rw[uP h v rs,fX]
theorem oN(h v:List Int->Int)(rs:List (List Int)):(hsum h v rs).length=8:=uP h v rs _
theorem zN(h v:List Int->Int)(rs:List (List Int))(r:List Int):hsum h v (rs++[r])=dJ (hsum h v rs) (h r) (v r):=by
 unfold hsum;rw[List.foldl_append];rfl
theorem zP{h v:List Int->Int}{rs:List (List Int)}{i:Nat}(hi:i<rs.length):hsum h v (rs.take (i+1))=dJ (hsum h v (rs.take i)) (h rs[i]) (v rs[i]):=by
 rw[zAj,zA0 hi];exact zN h v _ _
theorem Fy{L:List Int}{i v M B:Int}(h:∀x∈L,0<=x/\x<=M)(v0:0<=v)(v1:v<=B)(m0:0<=M):∀x∈dJ L i v,0<=x/\x<=M+B:=by
 intro x hx;unfold dJ at hx;rcases List.mem_or_eq_of_mem_set hx with z|z
 .have:=h x z;lia
 .have g:0<=L.getD i.toNat 0/\L.getD i.toNat 0<=M:=by
   rw[zA7]
   cases e:L[i.toNat]? with
   |none=>exact⟨Int.le_refl _,m0⟩
   |some y=>exact h y (zB5 e)
  lia
theorem xZ{h v:List Int->Int}{B:Int}(b0:0<=B):∀(rs:List (List Int)) (L:List Int) (M:Int),0<=M->(∀r∈rs,0<=v r/\v r<=B)->(∀x∈L,0<=x/\x<=M)->∀x∈rs.foldl (fun L r=>dJ L (h r) (v r)) L,0<=x/\x<=M+B*rs.length
 |[],L,M,m0,_,hL=>by
  intro x hx;have:=hL x hx;simpa using this
 |r::rs,L,M,m0,hv,hL=>by
  intro x hx;have:=hv r (.head _);have:=xZ b0 rs (dJ L (h r) (v r)) (M+B) Zz (fun q hq=>hv q (.tail _ hq)) (Fy hL this.1 this.2 m0) x hx;rw[zAe,Int.natCast_add,Int.mul_add];lia
def hO(r:List Int):Prop:=0<=fl r 2/\fl r 2<8
theorem y_h{c:List Int}{ps ss ow:List (List Int)}{y:Int}(ho:∀r∈ow,hO r):∀n,(∀r∈(yTo c ps ss ow y n).g,hO r)/\∀r∈(yTo c ps ss ow y n).k,hO r
 |0=>⟨fun r hr=>(by cases hr),fun r hr=>(by cases hr)⟩
 |n+1=>by
  obtain⟨a,b⟩:=y_h (c:=c) (ps:=ps) (ss:=ss) (y:=y) ho n
  have DZ:∀w,∀p∈(aD ps ss n y++aH ps ow n).zip (shr w (aD ps ss n y) (aH ps ow n)),hO p.1:=fun w p hp=>by
   obtain⟨m1,m2⟩:=List.of_mem_zip (show(p.1,p.2)∈_ from hp);rcases zA6.mp m1 with z|z
   .obtain⟨a1,a2,a3,a4,a5,a6⟩:=gw z;exact⟨a5,a6⟩
   .exact ho _ (zAq.mp z).1
  refine⟨fun r hr=>?_,fun r hr=>?_⟩
  .rcases zA6.mp (show r∈(yTo c ps ss ow y n).g++bR _ from hr)with z|z
   .exact a r z
   .obtain⟨p,hp,rfl⟩:=zA5.mp z;exact DZ _ p (zAq.mp hp).1
  .rcases zA6.mp (show r∈(yTo c ps ss ow y n).k++bh _ from hr)with z|z
   .exact b r z
   .obtain⟨p,hp,rfl⟩:=zA5.mp z;exact DZ _ p (zAq.mp hp).1
theorem zQ{cs ps ss:List (List Int)}:∀n,∀r∈d9 cs ps ss n,hO r
 |0,r,hr=>by cases hr
 |n+1,r,hr=>(y_h (zQ n) 3).2 r ((eG _).mem_iff.mp hr)
theorem g_h{cs ps ss:List (List Int)}(n:Nat):∀r∈srt (fY cs ps ss n).g,hO r:=fun r hr=>(y_h (zQ n) 3).1 r ((eG _).mem_iff.mp hr)
inductive SpByHI(vs:List V)(H:Hp)(Q:VK):Prop
 |mk:∀l xs rs,(vs=[.ref l])->(H l=some (.lst xs))->(Els H xs rs)->((∀r∈rs,r.length=4/\hO r))->(∀k H',Same H H'->H k=none->k≠sysModules->H' k=some (.lst ((hsum (fl · 2) (fl · 3) rs).map V.int))->Q (.ref k) H')->SpByHI  vs H Q
def Gh:Sp:=fun vs H Q _=>SpByHI  vs H Q
theorem scI1:FnScope ["rows","sums","due","number","holder","sacks"] ["rows"] (aJ (top 54)):=fS
theorem HW(F:Fun K "by_holder" "by_holder" (top 54) f fd)(N:Nums mg):FnOk P w K mg base CX0 1 f fd ["rows"] Gh:=by
 refine F.ok scI1 (fun vs H Q E h=>?_) (fun ai A outer s H vs Q E hr h=>?_)
 .obtain⟨l,xs,rs,rfl,_⟩:=h;rfl
 .obtain⟨l,xs,R,rfl,AE,cx,hh,q⟩:=h;obtain⟨t1,e1⟩:=N.holders
  refine⟨_,aB (pss 1 scI1.nd (aU Ew (cQ (aq aA aj)) (bY (v:=.int 8) rfl e1 ⟨_,rfl⟩)))
   (aB (bN zB3 rfl (bL (pv 0)) (bF rfl (ao (pgn 2 scI1.nd) (ao (pgn 3 scI1.nd) (ao (pgn 4 scI1.nd) (ao (pgn 5 scI1.nd) aV)))))
    (aG (mj (pv 1) (pv 4) gQ (pv 5) uQ set_list)))
   (aG (aQ (pv 1)))),?_⟩
  refine aC (aR ?_);refine⟨zL,fun l0 vk=>⟨l0,8,_,rfl,rfl,aa,by decide,by decide,zL,fun l1 cv rf=>?_⟩⟩;have s2:Same H (upd (upd H l0 (.lst [V.int 0])) l1 (.lst (List.replicate (8:Int).toNat [V.int 0]).flatten)):=(Same.upd vk).updR cv;have el1:upd (upd H l0 (.lst [V.int 0])) l1 (.lst (List.replicate (8:Int).toNat [V.int 0]).flatten) l1=some (.lst ((hsum (fl · 2) (fl · 3) []).map V.int)):=aa;have LR:H l1=none:=(Same.upd vk).free cv;generalize upd (upd H l0 (.lst [V.int 0])) l1 (.lst (List.replicate (8:Int).toNat [V.int 0]).flatten)=H2 at s2 el1⊢;refine aF ?_;dsimp only;refine aC ?_;have ek:=s2 _ _ AE;have fE:l≠l1:=az AE LR;refine⟨_,rfl,l,rfl,⟨_,SqL.of ek⟩,?_⟩;refine fj (xs:=xs) (fun i σ Hc=>∃x6 x7 x8 x9,σ=[some (.ref l),some (.ref l1),x6,x7,x8,x9]/\Same H Hc/\Hc l1=some (.lst ((hsum (fl · 2) (fl · 3) (R.take i)).map V.int))) ?_ ?_ ?_ ?_
  .exact⟨none,none,none,none,rfl,s2,el1⟩
  .rintro i σ Hc hi ⟨x6,x7,x8,x9,rfl,sm,el⟩;exact SqL.of (sm _ _ AE)
  .rintro i x σ Hc hx ⟨x6,x7,x8,x9,rfl,sm,el⟩
   have hi:i<R.length:=by
    have:=(zAa.mp hx).1;rw[cx.1]at this;exact this
   obtain⟨tr,fk,eI⟩:=cx.2 i R[i] (zA0 hi)
   have:x=.ref tr:=by
    rw[hx]at fk;exact zAl fk
   subst this;rw[zP hi];have l8:=oN (fl · 2) (fl · 3) (R.take i);generalize hsum (fl · 2) (fl · 3) (R.take i)=L at el l8⊢;obtain⟨o4,h0,h1⟩:=hh _ (zAh hi);generalize R[i]=r at eI h0 h1 o4⊢;rw[bJ o4]at eI;refine⟨tr,_,rfl,SqT.of (sm _ _ eI),rfl,_,_,rfl,_,_,rfl,_,_,rfl,_,_,rfl,rfl,?_⟩;refine⟨_,rfl,_,rfl,l1,_,fl r 2,_,rfl,rfl,SqL.of el,h0,jc Zz,_,rfl,_,_,rfl,rfl,l1,_,fl r 2,(fl r 2).toNat,rfl,rfl,el,uD h0 (by rw[zA1];lia),?_⟩;rw[mG];exact⟨_,_,_,_,rfl,fun b o e=>by rw[au (az e LR)];exact sm _ _ e,aa⟩
  .rintro σ Hc ⟨x6,x7,x8,x9,rfl,sm,el⟩;dsimp only;rw[cx.1,zAm]at el;exact⟨_,rfl,q l1 Hc sm LR rf el⟩
theorem zR(a b:List (List Int)):bW (a++b)=bW a+bW b:=by
 unfold bW wts;rw[zA4,List.sum_append]
theorem Di{rs:List (List Int)}(h:∀r∈rs,0<=fl r 3):0<=bW rs:=by
 unfold bW wts;refine(iZ fun x hx=>?_).1;obtain⟨q,hq,rfl⟩:=zA5.mp hx;exact h q hq
section
variable{c:List Int}{ps ss ow:List (List Int)}{y:Int}
theorem HX{w:Int}(hw:0<=w)(hu:un ps ss=none)(h5:∀s∈ss,s.length=5)(okp:∀r∈ps,okP r)(hl:ps.length<=10)(n:Nat):∀p∈(aD ps ss n y++aH ps ow n).zip (shr w (aD ps ss n y) (aH ps ow n)),p.2<=fl p.1 3:=fun p hp=>by
 unfold shr at hp;rw[List.zip_append shares_len.symm]at hp;rcases zA6.mp hp with z|z
 .exact CJ hw (dD hu h5 okp) (cA hl) p z
 .exact Gg p z
end
theorem Dj{a b:List Int}(h:a.Perm b):a.sum=b.sum:=by
 induction h with
 |nil=>rfl
 |cons x _ ih=>rw[List.sum_cons,List.sum_cons,ih]
 |swap x y l=>
  rw[List.sum_cons,List.sum_cons,List.sum_cons,List.sum_cons];lia
 |trans _ _ h1 h2=>exact h1.trans h2
theorem Dk{a b:List (List Int)}(h:a.Perm b):bW a=bW b:=by
 unfold bW wts;exact Dj (h.map _)
structure BkO(cs ps ss:List (List Int)):Prop where
 okc:∀r∈cs,r.length=3/\∀x∈r,0<=x
 hl:ps.length<=10
 hu:un ps ss=none
 h5:∀s∈ss,s.length=5
 okp:∀r∈ps,okP r
def clY(ps ss:List (List Int))(y:Nat):Nat->List (List Int)
 |0=>[]
 |n+1=>clY ps ss y n++aD ps ss (n:Int) (y:Int)
def cH(ps ss:List (List Int)):Nat->List (List Int)
 |0=>[]
 |m+1=>cH ps ss m++clY ps ss m 3
def dz(cs ps ss:List (List Int)):Nat->List (List Int)
 |0=>[]
 |m+1=>dz cs ps ss m++srt (fY cs ps ss m).g
theorem sY{ps ss:List (List Int)}{y:Nat}(h:ps.length<=10):∀n,(clY ps ss y n).length<=80*n
 |0=>zA3 _
 |n+1=>by
  show(clY ps ss y n++aD ps ss n y).length<=_;rw[zA2];have:=sY (ss:=ss) (y:=y) h n;have:=cA (ss:=ss) (sort:=(n:Int)) (year:=(y:Int)) h;lia
theorem lC{ps ss:List (List Int)}(h:ps.length<=10):∀m,(cH ps ss m).length<=240*m
 |0=>zA3 _
 |m+1=>by
  show(cH ps ss m++clY ps ss m 3).length<=_;rw[zA2];have:=lC (ss:=ss) h m;have:=sY (ss:=ss) (y:=m) h 3;lia
theorem Dl{ps ss:List (List Int)}{y:Nat}(hu:un ps ss=none)(h5:∀s∈ss,s.length=5)(okp:∀r∈ps,okP r):∀n,∀r∈clY ps ss y n,r.length=4/\hO r
 |0,r,hr=>by cases hr
 |n+1,r,hr=>by
  rcases zA6.mp (show r∈clY ps ss y n++aD ps ss n y from hr)with z|z
  .exact Dl hu h5 okp n r z
  .obtain⟨_,_,_,_,a5,a6⟩:=gw z;exact⟨(dD hu h5 okp r z).1,a5,a6⟩
theorem j7{ps ss:List (List Int)}(hu:un ps ss=none)(h5:∀s∈ss,s.length=5)(okp:∀r∈ps,okP r):∀m,∀r∈cH ps ss m,r.length=4/\hO r
 |0,r,hr=>by cases hr
 |m+1,r,hr=>by
  rcases zA6.mp (show r∈cH ps ss m++clY ps ss m 3 from hr)with z|z
  .exact j7 hu h5 okp m r z
  .exact Dl hu h5 okp 3 r z
theorem yc{cs ps ss:List (List Int)}(fT:∀r∈cs,r.length=3/\∀x∈r,0<=x)(hl:ps.length<=10)(hu:un ps ss=none)(h5:∀s∈ss,s.length=5)(okp:∀r∈ps,okP r){n:Nat}(hn:n<20):(∀r∈srt (fY cs ps ss n).g,bd r)/\(srt (fY cs ps ss n).g).length<=16000:=by
 obtain⟨hU,KI⟩:=ji (cs:=cs) hl hu h5 okp n;have hb:=Dg fT hl hu h5 okp n Zz;refine⟨fun r hr=>(HS (y:=n) Zz Zz (Df fT n) hu h5 okp hl hU hb 3).1 r ((eG _).mem_iff.mp hr),?_⟩;rw[(eG _).length_eq];have:=(xJ (c:=cs.getD n []) (ss:=ss) (ow:=d9 cs ps ss n) (y:=n) hl 3).1;unfold fY;lia
theorem qM{cs ps ss:List (List Int)}(fT:∀r∈cs,r.length=3/\∀x∈r,0<=x)(hl:ps.length<=10)(hu:un ps ss=none)(h5:∀s∈ss,s.length=5)(okp:∀r∈ps,okP r):∀m,m<=20->(∀r∈dz cs ps ss m,r.length=4/\hO r)/\(dz cs ps ss m).length<=16000*m
 |0,_=>⟨fun r hr=>(by cases hr),zA3 _⟩
 |m+1,h=>by
  obtain⟨a,b⟩:=qM fT hl hu h5 okp m Zz;obtain⟨c,d⟩:=yc (n:=m) fT hl hu h5 okp Zz;refine⟨fun r hr=>?_,?_⟩
  .rcases zA6.mp (show r∈dz cs ps ss m++srt (fY cs ps ss m).g from hr)with z|z
   .exact a r z
   .exact⟨(c r z).1,g_h m r z⟩
  .show(dz cs ps ss m++srt (fY cs ps ss m).g).length<=_;rw[zA2];lia
def HY:List (List Int)->List (List Int)->List (List Int)->Int->VK->Hp->Prop:=fun cs ps ss y Q H=>∀k xk H',Same H H'->H k=none->H' k=some (.lst xk)->Els H' xk (cH ps ss (y.toNat+1))->Q (.ref k) H'
def KY(A B C:List Int)(j:Nat):List Int:=[A.getD j 0,B.getD j 0,C.getD j 0]
def dB(cs ps ss:List (List Int))(m:Nat)(j:Nat):List Int:=KY (hsum (fl · 2) (fl · 3) (cH ps ss m)) (hsum (fl · 2) (fl · 3) (dz cs ps ss m)) (hsum (fl · 2) (fl · 3) (d9 cs ps ss m)) j
def Ia:List (List Int)->List (List Int)->List (List Int)->Int->VK->Hp->Prop:=fun cs ps ss y Q H=>∀l (as:List Addr) H',Same H H'->H l=none->l≠sysModules->H' l=some (.lst (as.map V.ref))->as.length=8->(∀j a,as[j]?=some a->H' a=some (.tup ((dB cs ps ss (y.toNat+1) j).map V.int)))->Q (.ref l) H'
theorem scO1:FnScope ["book","year","clips","promises","sales","claims","at","sort"] ["book","year"] (aJ (top 55)):=fS
theorem Fz(F:Fun K "claims_to" "claims_to" (top 55) f fd)(N:Nums mg)(Tr:mg "range"=none)(c3:Cal P w K mg base 2 "claims_in" ["promises","sales","sort","year"] oA):FnOk P w K mg base CX0 3 f fd ["book","year"] (Fl HY):=by
 refine F.ok scO1 (fun vs H Q E h=>?_) (fun ai A outer s H vs Q E hr h=>?_)
 .obtain⟨bk,y,ac,xc,cs,ap,xp,ps,af,xs,ss,rfl,_⟩:=h;rfl
 .obtain⟨bk,y,ac,xc,cs,ap,xp,ps,af,xs,ss,rfl,B,y0,y1,q⟩:=h;obtain⟨t1,e1⟩:=N.sorts
  refine⟨_,aB (cJ (pv 0) (bF rfl (ao (pgn 2 scO1.nd) (ao (pgn 3 scO1.nd) (ao (pgn 4 scO1.nd) aV)))))
   (aB (pss 5 scO1.nd (cQ aj))
   (aB (bN zB3 rfl (bU rfl Tr (aq (aU bO (pv 1) aA) aj)) (pgn 6 scO1.nd)
    (aG (bN zB3 rfl (bU rfl Tr (aq (bY (v:=.int 3) rfl e1 ⟨_,rfl⟩) aj)) (pgn 7 scO1.nd)
     (aG (jj (i:=5) scO1.nd rfl (Or.inl rfl) (aK c3 hr (aq (pv 3) (aq (pv 4) (aq (pv 7) (aq (pv 6) aj))))) kI)))))
   (aG (aQ (pv 5))))),?_⟩
  obtain⟨n,rfl⟩:∃n:Nat,y=n:=⟨y.toNat,Zz⟩
  unfold HY at q;rw[zAi]at q;have hn:n<20:=by have:=B.lc;lia
  have fy:=xK B.un B.h5;refine aC ?_;refine⟨_,rfl,bk,_,rfl,SqT.of B.e,rfl,_,_,rfl,_,_,rfl,_,_,rfl,rfl,?_⟩;dsimp only;refine aC (aR ?_);refine⟨zL,fun l hl=>?_⟩;have s0:=Same.upd (o:=.lst []) hl;have AE:upd H l (.lst []) l=some (.lst []):=aa;generalize upd H l (.lst [])=H0 at s0 AE⊢;refine aF ?_;dsimp only;refine aC ?_;refine⟨_,rfl,_,_,rfl,rfl,(n:Int)+1,rfl,Zz,Zz,?_⟩;refine cP (lo:=0) (fun i σ Hc=>∃x6 x7 xl,σ=[some (.ref bk),some (.int n),some (.ref ac),some (.ref ap),some (.ref af),some (.ref l),x6,x7]/\Same H Hc/\Hc l=some (.lst xl)/\Els Hc xl (cH ps ss i)) ?_ ?_ ?_
  .exact⟨none,none,[],rfl,s0,AE,Els.nil⟩
  .rintro i σ Hc hi ⟨x6,x7,xl,rfl,sc,el,aT⟩;have hi:i<n+1:=Zz
   refine aF ?_;refine lq fun De oD=>?_;refine⟨3,rfl,by decide,by decide,?_⟩;refine cP (lo:=0) (n:=3) (fun j σ Hd=>∃x7 xl,σ=[some (.ref bk),some (.int n),some (.ref ac),some (.ref ap),some (.ref af),some (.ref l),some (.int (0+(i:Int))),x7]/\Same H Hd/\Hd l=some (.lst xl)/\Els Hd xl (cH ps ss i++clY ps ss i j)) ?_ ?_ ?_
   .exact⟨_,xl,rfl,sc,el,by show Els Hc xl (cH ps ss i++[]);rw[zAn];exact aT⟩
   .rintro j σ Hd hj ⟨x7,xl,rfl,sd,el,aT⟩;refine aF ?_;have B2:=B.same sd;refine⟨_,rfl,_,rfl,_,rfl,_,rfl,_,rfl,ap,xp,ps,af,xs,ss,_,_,rfl,B2.rp,B.lp,B.okp,B2.rs,B.ls,fy,fun k xk H3 s3 nk ek cx=>?_⟩;have i0:(0:Int)+(i:Int)=(i:Int):=Int.zero_add _;have j0:(0:Int)+(j:Int)=(j:Int):=Int.zero_add _;rw[i0,j0]at cx;have a1:=aT.1;have a2:=cx.1;have b1:=lC (ss:=ss) B.lp i;have b2:=sY (ss:=ss) (y:=i) B.lp j;have b3:=cA (ss:=ss) (sort:=(j:Int)) (year:=(i:Int)) B.lp;rw[zA2]at a1;refine⟨l,k,xl,xk,rfl,rfl,s3 _ _ el,ek,by rw[sizeLine_eq];lia,?_⟩;refine⟨_,xl++xk,rfl,fun b o e=>?_,aa,?_⟩
    .rw[au (az e hl)];exact s3 _ _ (sd _ _ e)
    .have e3:=((aT.same s3).app cx).keep (H':=upd H3 l (.lst (xl++xk))) fun b z e=>by
      rw[au fun w=>?_]
      .exact e
      .rw[w,s3 _ _ el]at e;cases e
     rw[zAf]at e3;exact e3
   .rintro σ Hd ⟨x7,xl,rfl,sd,el,aT⟩;exact oD _ _ ⟨_,_,xl,rfl,sd,el,aT⟩
  .rintro σ Hc ⟨x6,x7,xl,rfl,sc,el,aT⟩;dsimp only;rw[show((n:Int)+1).toNat=n+1 by lia]at aT;exact⟨_,rfl,q l xl Hc sc hl el aT⟩
theorem scO2:FnScope ["book","year","given","gifts","owed","left"] ["book","year"] (aJ (top 56)):=fS
theorem FJ(F:Fun K "sums_by" "sums_by" (top 56) f fd)(Tl:mg "list"=none)(Tz:mg "zip"=none)(c1:Cal P w K mg base 8 "refuse_no_year" ["book","year"] (Ck JK))(c2:Cal P w K mg base 10 "years_given" ["book","year"] sO)(c3:Cal P w K mg base 3 "claims_to" ["book","year"] (Fl HY))(c4:Cal P w K mg base 11 "owed_behind" ["book","year"] (Fl Ge))(c5:Cal P w K mg base 1 "by_holder" ["rows"] Gh):FnOk P w K mg base CX0 12 f fd ["book","year"] (Ck Ia):=by
 refine F.ok scO2 (fun vs H Q E h=>?_) (fun ai A outer s H vs Q E hr h=>?_)
 .obtain⟨S,bk,y,d,ac,xc,cs,ap,xp,ps,af,xs,ss,rfl,_⟩:=h;rfl
 .obtain⟨S,bk,y,d,ac,xc,cs,ap,xp,ps,af,xs,ss,rfl,th,hz,hb,B,y0,y1,q⟩:=h
  refine⟨_,aB (dC (aK c1 hr (aq (pv 0) (aq (pv 1) aj))))
   (aB (pss 2 scO2.nd (cQ aj))
   (aB (bN zB3 rfl (bL (aK c2 hr (aq (pv 0) (aq (pv 1) aj)))) (bF rfl (ao (pgn 3 scO2.nd) (ao (pgn 4 scO2.nd) (ao (pgn 5 scO2.nd) aV))))
    (aG (jj (i:=2) scO2.nd rfl (Or.inl rfl) (pv 3) kI)))
   (aG (aQ (Z3.pe_lzip3 hr.hd rfl Tl rfl Tz (aq (aK c5 hr (aq (aK c3 hr (aq (pv 0) (aq (pv 1) aj))) aj)) (aq (aK c5 hr (aq (pv 2) aj)) (aq (aK c5 hr (aq (aK c4 hr (aq (pv 0) (aq (pv 1) aj))) aj)) aj)))))))),?_⟩
  obtain⟨n,rfl⟩:∃n:Nat,y=n:=⟨y.toNat,Zz⟩
  unfold Ia at q;rw[zAi]at q;have hn:n<20:=by have:=B.lc;lia
  refine aC ?_;refine⟨_,rfl,_,rfl,S,bk,(n:Int),d,ac,xc,cs,ap,xp,ps,af,xs,ss,rfl,th,hz,hb,B,y0,y1,fun H1 s1=>?_⟩;dsimp only;refine aC (aR ?_);refine⟨zL,fun l hl=>?_⟩;have s2:=s1.updR (o:=.lst []) hl;have Si:H l=none:=s1.free hl;have el2:upd H1 l (.lst []) l=some (.lst []):=aa;generalize upd H1 l (.lst [])=H2 at s2 el2⊢;have B2:=B.same s2;refine aF ?_;dsimp only;refine aC ?_;refine⟨_,rfl,_,rfl,bk,(n:Int),ac,xc,cs,ap,xp,ps,af,xs,ss,rfl,B2.e,B2.rc,B.okc,B.lc,y0,y1,B2.rp,B.lp,B.okp,B2.rs,B.ls,B.h5,B.un,fun ly ts H3 s3 AF D0 lt hy=>⟨ly,rfl,⟨_,SqL.of D0⟩,?_⟩⟩;have el3:=s3 _ _ el2
  have JY:ly≠l:=fun z=>by
   rw[z,el2]at AF;cases AF
  refine fj (xs:=ts.map V.ref) (fun i σ Hc=>∃x3 x4 x5 xl,σ=[some (.ref bk),some (.int n),some (.ref l),x3,x4,x5]/\(∀b o,b≠l->H3 b=some o->Hc b=some o)/\Hc l=some (.lst xl)/\Els Hc xl (dz cs ps ss i)) ?_ ?_ ?_ ?_
  .exact⟨none,none,none,[],rfl,fun _ _ _ e=>e,el3,Els.nil⟩
  .rintro i σ Hc hi ⟨x3,x4,x5,xl,rfl,sc,el,aT⟩;exact SqL.of (sc _ _ JY D0)
  .rintro i x σ Hc hx ⟨x3,x4,x5,xl,rfl,sc,el,aT⟩;rw[zAb]at hx;obtain⟨a,ha,rfl⟩:=Option.map_eq_some_iff.mp hx
   have hi:i<n+1:=by
    have:=(zAa.mp ha).1;lia
   obtain⟨g,k,tl,xg,xk,e1,n1,n2,d1,d2,e2,e3,e4,e5,e6,e7⟩:=hy i a ha
   have na:a≠l:=fun z=>by
    rw[z,el3]at e1;cases e1
   have ng:g≠l:=fun z=>by
    rw[z,el2]at n1;cases n1
   refine⟨a,_,rfl,SqT.of (sc _ _ na e1),rfl,_,_,rfl,_,_,rfl,_,_,rfl,rfl,?_⟩;have a1:=aT.1;have a2:=e3.1;have b1:=(qM B.okc B.lp B.un B.h5 B.okp i Zz).2;have b2:=(yc (n:=i) B.okc B.lp B.un B.h5 B.okp Zz).2;refine⟨_,rfl,_,rfl,l,g,xl,xg,rfl,rfl,el,sc _ _ ng e2,by rw[sizeLine_eq];lia,?_⟩
   have kp:∀b z,Hc b=some (.tup z)->upd Hc l (.lst (xl++xg)) b=some (.tup z):=fun b z e=>by
    rw[au fun w=>?_]
    .exact e
    .rw[w,el]at e;cases e
   refine⟨_,_,_,xl++xg,rfl,fun b o nb e=>by rw[au nb];exact sc _ _ nb e,aa,?_⟩;have ex:Els Hc xg (srt (fY cs ps ss i).g):=e3.keep fun b z e=>sc _ _ (fun w=>by rw[w,el3]at e;cases e) e;exact(aT.app ex).keep kp
  .rintro σ Hc ⟨x3,x4,x5,xl,rfl,sc,el,aT⟩;rw[zA1,show ts.length=n+1 by lia]at aT;have sH:Same H Hc:=fun b o e=>sc _ _ (az e Si) (s3 _ _ (s2 _ _ e));have BC:=B.same sH;dsimp only;refine iw ?_;refine⟨_,rfl,_,rfl,bk,(n:Int),ac,xc,cs,ap,xp,ps,af,xs,ss,rfl,BC,y0,y1,fun k1 Sj H4 s4 n4 e4 el4=>?_⟩;rw[zAi]at el4;refine⟨k1,Sj,_,rfl,e4,el4,j7 B.un B.h5 B.okp _,fun r1 H5 s5 n5 Xr e5=>?_⟩;have FE:=s4.trans s5;refine⟨_,rfl,l,xl,_,rfl,FE _ _ el,aT.same FE,(qM B.okc B.lp B.un B.h5 B.okp (n+1) Zz).1,fun r2 H6 s6 n6 Xs e6=>?_⟩;have Sk:=FE.trans s6;refine⟨_,rfl,_,rfl,bk,(n:Int),ac,xc,cs,ap,xp,ps,af,xs,ss,rfl,BC.same Sk,y0,y1,fun k3 Sl H7 s7 n7 Xt e7 we=>?_⟩;rw[zAi]at we;have Sn:=Dg B.okc B.lp B.un B.h5 B.okp (n+1) Zz;refine⟨k3,Sl,_,rfl,e7,we,fun r hr=>⟨(Sn r hr).1,zQ _ r hr⟩,fun r3 H8 s8 n8 Xu e8=>?_⟩;have O8:=(s6.trans s7).trans s8;have O9:=FE.trans O8;have A1:=oN (fl · 2) (fl · 3) (cH ps ss (n+1));have A2:=oN (fl · 2) (fl · 3) (dz cs ps ss (n+1));have A3:=oN (fl · 2) (fl · 3) (d9 cs ps ss (n+1));refine⟨r1,r2,r3,_,_,_,rfl,SqL.of (O8 _ _ e5),SqL.of (s8 _ _ (s7 _ _ e6)),SqL.of e8,by rw[zA1,zA1,A1,A2],by rw[zA1,zA1,A1,A3],by rw[zA1,A1];decide,fun lz as H9 s9 nz KS ez Pa hz=>?_⟩;refine q lz as H9 ((sH.trans O9).trans s9) ((sH.trans O9).free nz) KS ez (by rw[Pa,zA1,A1]) fun j a ha=>?_;rw[hz j a ha]
   have hj:j<8:=by
    have:=(zAa.mp ha).1;rw[Pa,zA1,A1]at this;exact this
   have gm:∀{L:List Int},L.length=8->(L.map V.int).getD j .non=.int (L.getD j 0):=fun{L} hL=>by
    rw[zA7,jc Zz];rfl
   show some (HO.tup [_,_,_])=some (HO.tup [_,_,_]);rw[gm A1,gm A2,gm A3]
def sF(f:List Int->Bool)(rs:List (List Int)):Int:=bW (rs.filter fun r=>f (keyOf r))
section
variable{f:List Int->Bool}
theorem eZ(a b:List (List Int)):sF f (a++b)=sF f a+sF f b:=by
 unfold sF;rw[List.filter_append,zR]
theorem Gi{a b:List (List Int)}(h:a.Perm b):sF f a=sF f b:=Dk (h.filter _)
theorem gA(r:List Int)(rs:List (List Int)):sF f (r::rs)=(if f (keyOf r)=true then fl r 3 else 0)+sF f rs:=by
 unfold sF;by_cases h:f (keyOf r)=true
 .rw[zB4 (p:=fun r=>f (keyOf r)) h,zAy h];rfl
 .rw[zB7 (p:=fun r=>f (keyOf r)) h,zAv h,Int.zero_add]
theorem Gj{rs:List (List Int)}(h:∀r∈rs,0<=fl r 3):0<=sF f rs:=Di fun r hr=>h r (zAq.mp hr).1
theorem Dm:∀{rs:List (List Int)} {sh:List Int},sh.length=rs.length->(∀x∈sh,0<=x)->(∀p∈rs.zip sh,p.2<=fl p.1 3)->sF f (bR (rs.zip sh))+sF f (bh (rs.zip sh))=sF f rs
 |[],[],_,_,_=>rfl
 |[],_::_,h,_,_=>by simp at h
 |_::_,[],h,_,_=>by simp at h
 |r::rs,x::sh,h,h0,hn=>by
  have ih:=Dm (rs:=rs) (sh:=sh) (by simpa using h) (fun y hy=>h0 y (.tail _ hy)) fun y hy=>hn y (by rw[List.zip_cons_cons];exact .tail _ hy);have x0:0<=x:=h0 x (.head _);have hx:x<=fl r 3:=hn (r,x) (by rw[List.zip_cons_cons];exact .head _)
  have g:sF f (bR ((r,x)::rs.zip sh))=(if f (keyOf r)=true then x else 0)+sF f (bR (rs.zip sh)):=by
   unfold bR;by_cases hp:0<x
   .rw[zB4 (p:=fun(p:List Int×Int)=>decide (0<p.2)) (zAt hp),zAk,gA];rfl
   .have:x=0:=Zz
    subst this;rw[List.filter_cons_of_neg (p:=fun(p:List Int×Int)=>decide (0<p.2)) (by rw[Zp];exact hp)];simp
  have k:sF f (bh ((r,x)::rs.zip sh))=(if f (keyOf r)=true then fl r 3-x else 0)+sF f (bh (rs.zip sh)):=by
   unfold bh;by_cases hp:x<fl r 3
   .rw[zB4 (p:=fun(p:List Int×Int)=>decide (p.2<fl p.1 3)) (zAt hp),zAk,gA];rfl
   .have e:fl r 3-x=0:=Zz
    rw[List.filter_cons_of_neg (p:=fun(p:List Int×Int)=>decide (p.2<fl p.1 3)) (by rw[Zp];exact hp),e];simp
  rw[List.zip_cons_cons,g,k,gA,<-ih];by_cases h:f (keyOf r)=true
  .rw[zAy h,zAy h,zAy h];lia
  .rw[zAv h,zAv h,zAv h];lia
def ahF(f:List Int->Bool)(ps ow:List (List Int)):Nat->Int
 |0=>0
 |n+1=>ahF f ps ow n+sF f (aH ps ow n)
theorem sZ{ps ow:List (List Int)}{r:List Int}{s:Int}:sF f (aH ps (r::ow) s)=(if fl (ps.getD (fl r 1).toNat []) 1=s then(if f (keyOf r)=true then fl r 3 else 0)else 0)+sF f (aH ps ow s):=by
 unfold aH;by_cases hp:fl (ps.getD (fl r 1).toNat []) 1=s
 .rw[zB4 (p:=fun r=>decide (fl (ps.getD (fl r 1).toNat []) 1=s)) (zAt hp),zAy hp,gA]
 .rw[zB7 (p:=fun r=>decide (fl (ps.getD (fl r 1).toNat []) 1=s)) (by rw[Zp];exact hp),zAv hp,Int.zero_add]
theorem Dn{ps:List (List Int)}:∀{ow:List (List Int)},(∀r∈ow,0<=fl (ps.getD (fl r 1).toNat []) 1/\fl (ps.getD (fl r 1).toNat []) 1<3)->ahF f ps ow 3=sF f ow
 |[],_=>rfl
 |r::ow,h=>by
  have ih:=Dn (ow:=ow) fun q hq=>h q (.tail _ hq);obtain⟨h0,h1⟩:=h r (.head _);have e:∀ow,ahF f ps ow 3=0+sF f (aH ps ow 0)+sF f (aH ps ow 1)+sF f (aH ps ow 2):=fun _=>rfl;rw[e]at ih;rw[e,sZ,sZ,sZ,gA,<-ih];generalize(if f (keyOf r)=true then fl r 3 else 0)=v;generalize fl (ps.getD (fl r 1).toNat []) 1=t at h0 h1⊢;have:t=0\/t=1\/t=2:=Zz
  rcases this with rfl|rfl|rfl
  .rw[zAy rfl,zAv Zx,zAv Zx];lia
  .rw[zAv Zx,zAy rfl,zAv Zx];lia
  .rw[zAv Zx,zAv Zx,zAy rfl];lia
section
variable{c:List Int}{ps ss ow:List (List Int)}{y:Nat}
theorem Do(hc:∀x∈c,0<=x)(hu:un ps ss=none)(h5:∀s∈ss,s.length=5)(okp:∀r∈ps,okP r)(hl:ps.length<=10)(ho:∀r∈ow,okO ps r):∀n,sF f (yTo c ps ss ow y n).g+sF f (yTo c ps ss ow y n).k=sF f (clY ps ss y n)+ahF f ps ow n
 |0=>rfl
 |n+1=>by
  have ih:=Do hc hu h5 okp hl ho n;have nn:=zj (y:=(y:Int)) hc hu h5 okp hl ho n
  have hw:0<=c.getD n 0+(yTo c ps ss ow y n).d:=by
   have:=gr hc n;lia
  have f6:=dD (sort:=n) (year:=(y:Int)) hu h5 okp;have kg:=cA (ss:=ss) (sort:=n) (year:=(y:Int)) hl
  have So:∀r∈aH ps ow n,0<=fl r 3:=fun r hr=>by have:=(gW (sort:=n) ho r hr).2.2.2;lia
  have e:=Dm (f:=f) (rs:=aD ps ss n y++aH ps ow n) (sh:=shr (c.getD n 0+(yTo c ps ss ow y n).d) (aD ps ss n y) (aH ps ow n)) (by unfold shr;rw[zA2,zA2,shares_len,di]) (sG hw f6 kg So).1 (HX hw hu h5 okp hl n);rw[eZ (aD ps ss n y)]at e;show sF f ((yTo c ps ss ow y n).g++bR _)+sF f ((yTo c ps ss ow y n).k++bh _)=sF f (clY ps ss y n++aD ps ss n y)+(ahF f ps ow n+sF f (aH ps ow n));rw[eZ,eZ,eZ];lia
end
theorem Ib{cs ps ss:List (List Int)}(B:BkO cs ps ss)(m:Nat):∀r∈d9 cs ps ss m,0<=fl (ps.getD (fl r 1).toNat []) 1/\fl (ps.getD (fl r 1).toNat []) 1<3:=fun r hr=>by
 obtain⟨_,h0,h1,_⟩:=(ji (cs:=cs) B.hl B.hu B.h5 B.okp m).1 r hr;obtain⟨p,_,ep,_,_,hp,_⟩:=prom_ok (n:=fl r 1) B.okp h0 h1;rw[ep];exact hp
theorem all_cons{cs ps ss:List (List Int)}(B:BkO cs ps ss):∀m,sF f (cH ps ss m)=sF f (dz cs ps ss m)+sF f (d9 cs ps ss m)
 |0=>rfl
 |m+1=>by
  have ih:=all_cons B m;have e:=Do (f:=f) (ss:=ss) (y:=m) (Df B.okc m) B.hu B.h5 B.okp B.hl (ji (cs:=cs) B.hl B.hu B.h5 B.okp m).1 3;rw[Dn (Ib B m)]at e;show sF f (cH ps ss m++clY ps ss m 3)=sF f (dz cs ps ss m++srt (fY cs ps ss m).g)+sF f (srt (yTo (cs.getD m []) ps ss (d9 cs ps ss m) m 3).k);rw[eZ,eZ,Gi (eG _),Gi (eG _)];have e2:sF f (fY cs ps ss m).g=sF f (yTo (cs.getD m []) ps ss (d9 cs ps ss m) m 3).g:=rfl;lia
end
def isH(h:Nat)(k:List Int):Bool:=decide (fl k 2=h)
theorem Dp{h:Nat}(h8:h<8):∀(rs:List (List Int)) (L:List Int),L.length=8->(∀r∈rs,hO r)->(rs.foldl (fun L r=>dJ L (fl r 2) (fl r 3)) L).getD h 0=L.getD h 0+sF (isH h) rs
 |[],L,_,_=>by
  show L.getD h 0=L.getD h 0+0;lia
 |r::rs,L,hL,ho=>by
  obtain⟨a0,a1⟩:=ho r (.head _);show(rs.foldl _ (dJ L (fl r 2) (fl r 3))).getD h 0=_;rw[Dp h8 rs _ (by rw[fX];exact hL) fun q hq=>ho q (.tail _ hq),gA];unfold dJ isH;rw[zA7,List.getElem?_set];have e:fl (keyOf r) 2=fl r 2:=rfl;by_cases hh:fl r 2=h
  .rw[zAy Zz,zAy Zz,zAy (by rw[Zp,e];exact hh),show(fl r 2).toNat=h by lia];show L.getD h 0+fl r 3+_=_;lia
  .rw[zAv Zz,zAv (by rw[Zp,e];exact hh),<-zA7];lia
theorem eO{h:Nat}(h8:h<8){rs:List (List Int)}(ho:∀r∈rs,hO r):(hsum (fl · 2) (fl · 3) rs).getD h 0=sF (isH h) rs:=by
 have:=Dp h8 rs (List.replicate 8 0) rfl ho;unfold hsum;rw[this,zA7,List.getElem?_replicate];split
 .exact Int.zero_add _
 .exact Int.zero_add _
theorem qN{cs ps ss:List (List Int)}(B:BkO cs ps ss){m:Nat}(hm:m<=20){j:Nat}(hj:j<8):fl (dB cs ps ss m j) 0=fl (dB cs ps ss m j) 1+fl (dB cs ps ss m j) 2:=by
 have a:=eO hj (rs:=cH ps ss m) fun r hr=>(j7 B.hu B.h5 B.okp m r hr).2;have b:=eO hj (rs:=dz cs ps ss m) fun r hr=>((qM B.okc B.hl B.hu B.h5 B.okp m hm).1 r hr).2;have c:=eO hj (rs:=d9 cs ps ss m) fun r hr=>zQ m r hr;show(hsum (fl · 2) (fl · 3) (cH ps ss m)).getD j 0=(hsum (fl · 2) (fl · 3) (dz cs ps ss m)).getD j 0+(hsum (fl · 2) (fl · 3) (d9 cs ps ss m)).getD j 0;rw[a,b,c];exact all_cons B m
def zT(ps ss:List (List Int))(h y:Nat):Nat->Int
 |0=>0
 |k+1=>zT ps ss h y k+(bM (ps.getD k []) ss k y).getD h 0
def Dq(ps ss:List (List Int))(h:Nat):Nat->Int
 |0=>0
 |m+1=>Dq ps ss h m+zT ps ss h m ps.length
def tu(ps ss:List (List Int))(h y:Nat)(s:Int):Nat->Int
 |0=>0
 |k+1=>tu ps ss h y s k+(if fl (ps.getD k []) 1=s then(bM (ps.getD k []) ss k y).getD h 0 else 0)
section
variable{ps ss:List (List Int)}{h y:Nat}
theorem Gk{L:List Int}{k:Nat}(nn:∀i,0<=L.getD i 0):∀i,sF (isH h) ((dH L i).map fun r=>(y:Int)::(k:Int)::r)=if h<i then L.getD h 0 else 0
 |0=>by
  rw[zAv Zz];rfl
 |i+1=>by
  rw[fB,zA4,eZ,Gk nn i]
  have e:sF (isH h) ((if 0<L.getD i 0 then[[(i:Int),L.getD i 0]]else[]).map fun r=>(y:Int)::(k:Int)::r)=if h=i then L.getD h 0 else 0:=by
   by_cases hp:0<L.getD i 0
   .rw[zAy hp];show sF (isH h) ([[(y:Int),k,i,L.getD i 0]])=_;rw[gA]
    have ek:(isH h (keyOf [(y:Int),k,i,L.getD i 0])=true)↔h=i:=by
     unfold isH;rw[Zp];show(i:Int)=(h:Int)↔_;lia
    by_cases hk:h=i
    .rw[zAy hk,zAy (ek.mpr hk),hk];show L.getD i 0+0=_;lia
    .rw[zAv hk,zAv fun z=>hk (ek.mp z)];rfl
   .rw[zAv hp];have:=nn i;have z:L.getD i 0=0:=Zz
    show 0=_;split
    .rename_i hk
     rw[hk,z]
    .rfl
  rw[e];by_cases h2:h<i
  .rw[zAy h2,zAv Zz,zAy Zz];lia
  .by_cases h3:h=i
   .rw[zAv h2,zAy h3,zAy Zz];lia
   .rw[zAv h2,zAv h3,zAv Zz];rfl
theorem JS{s:Int}(hu:un ps ss=none)(h5:∀s∈ss,s.length=5)(okp:∀r∈ps,okP r)(h8:h<8):∀k,k<=ps.length->sF (isH h) (gH ps ss s y k)=tu ps ss h y s k
 |0,_=>rfl
 |k+1,hk=>by
  show sF _ (gH ps ss s y k++gU ps ss s y k)=tu ps ss h y s k+_;have cw:k<ps.length:=Zz
  have op:okP (ps.getD k []):=by rw[getD_get cw];exact okp _ (zAh cw)
  have nn:∀i,0<=(bM (ps.getD k []) ss k y).getD i 0:=fun i=>by
   obtain⟨a,_⟩:=xx (n:=k) (y:=y) hu h5 op ss.length (zA3 _);rw[zAm]at a;exact gr a i
  rw[eZ,JS hu h5 okp h8 k Zz];unfold gU;by_cases hs:fl (ps.getD k []) 1=s
  .rw[zAy hs,zAy hs,Gk nn 8,zAy h8]
  .rw[zAv hs,zAv hs];rfl
theorem Ds(okp:∀r∈ps,okP r):∀k,k<=ps.length->tu ps ss h y 0 k+tu ps ss h y 1 k+tu ps ss h y 2 k=zT ps ss h y k
 |0,_=>rfl
 |k+1,hk=>by
  have ih:=Ds okp k Zz;have cw:k<ps.length:=Zz
  have op:okP (ps.getD k []):=by rw[getD_get cw];exact okp _ (zAh cw)
  obtain⟨_,_,⟨b0,b1⟩,_⟩:=op;show(tu ps ss h y 0 k+_)+(tu ps ss h y 1 k+_)+(tu ps ss h y 2 k+_)=zT ps ss h y k+_;generalize fl (ps.getD k []) 1=t at b0 b1⊢;have:t=0\/t=1\/t=2:=Zz
  rcases this with rfl|rfl|rfl
  .rw[zAy rfl,zAv Zx,zAv Zx];lia
  .rw[zAv Zx,zAy rfl,zAv Zx];lia
  .rw[zAv Zx,zAv Zx,zAy rfl];lia
theorem yd(hu:un ps ss=none)(h5:∀s∈ss,s.length=5)(okp:∀r∈ps,okP r)(h8:h<8):∀m,sF (isH h) (cH ps ss m)=Dq ps ss h m
 |0=>rfl
 |m+1=>by
  have e:∀s:Nat,sF (isH h) (aD ps ss s m)=_:=fun s=>JS (y:=m) (s:=s) hu h5 okp h8 ps.length (zA3 _);show sF _ (cH ps ss m++((([]++aD ps ss ((0:Nat):Int) m)++aD ps ss ((1:Nat):Int) m)++aD ps ss ((2:Nat):Int) m))=Dq ps ss h m+zT ps ss h m ps.length;rw[eZ,yd hu h5 okp h8 m,List.nil_append,eZ,eZ,e,e,e];have:=Ds (ss:=ss) (h:=h) (y:=m) okp ps.length (zA3 _);rw[show((0:Nat):Int)=0 from rfl,show((1:Nat):Int)=1 from rfl,show((2:Nat):Int)=2 from rfl];lia
end
def kF(ps ss:List (List Int))(h last:Nat):List Key->Int
 |[.inl n,.inl y]=>if y<=last then(hl ps ss n y).getD h 0 else 0
 |_=>0
def cK(len:Nat):Nat->List (List Key)
 |0=>[]
 |m+1=>cK len m++(List.range len).map fun(n:Nat)=>ky (n:Int) (m:Int)
theorem cK_mem{len:Nat}{k:List Key}:∀{m:Nat},k∈cK len m↔∃n y:Nat,n<len/\y<m/\k=ky n y
 |0=>⟨fun h=>(by cases h),fun⟨_,_,_,h,_⟩=>absurd h (Nat.not_lt_zero _)⟩
 |m+1=>by
  show k∈cK len m++_↔_;rw[zA6,cK_mem];constructor
  .rintro(⟨n,y,a,b,c⟩|z)
   .exact⟨n,y,a,Zz,c⟩
   .obtain⟨n,hn,rfl⟩:=zA5.mp z;exact⟨n,m,List.mem_range.mp hn,Zz,rfl⟩
  .rintro⟨n,y,a,b,rfl⟩;by_cases e:y=m
   .subst e;exact .inr (zA5.mpr ⟨n,List.mem_range.mpr a,rfl⟩)
   .exact .inl ⟨n,y,a,Zz,rfl⟩
theorem Dt{len:Nat}:∀m,(cK len m).Nodup
 |0=>List.nodup_nil
 |m+1=>by
  show(cK len m++_).Nodup;rw[List.nodup_append];refine⟨Dt m,List.Pairwise.map _ (R:=fun a b=>a≠b) (fun a b h e=>h ?_) List.nodup_range,fun a ha b hb e=>?_⟩
  .have:=(lw e).1;lia
  .subst e;obtain⟨n,y,_,h1,rfl⟩:=cK_mem.mp ha;obtain⟨n',_,e⟩:=zA5.mp hb;have:=(lw e).2;lia
theorem Du{ps ss:List (List Int)}{h last y:Nat}:∀k,(((List.range k).map fun(n:Nat)=>ky (n:Int) (y:Int)).map (kF ps ss h last)).sum=if y<=last then zT ps ss h y k else 0
 |0=>by
  split<;>rfl
 |k+1=>by
  rw[List.range_succ,zA4,zA4,List.sum_append,Du k];have e:(([k].map fun(n:Nat)=>ky (n:Int) (y:Int)).map (kF ps ss h last)).sum=(if(y:Int)<=last then(hl ps ss k y).getD h 0 else 0)+0:=rfl;rw[e];by_cases hy:y<=last
  .rw[zAy hy,zAy hy,zAy Zz,Int.add_zero];rfl
  .rw[zAv hy,zAv hy,zAv Zz];rfl
theorem Dv{ps ss:List (List Int)}{h last:Nat}:∀m,((cK ps.length m).map (kF ps ss h last)).sum=Dq ps ss h (min m (last+1))
 |0=>by
  rw[Nat.zero_min];rfl
 |m+1=>by
  show((cK ps.length m++_).map (kF ps ss h last)).sum=_;rw[zA4,List.sum_append,Dv m,Du];by_cases hm:m<=last
  .rw[zAy hm,Nat.min_eq_left Zz,Nat.min_eq_left Zz];rfl
  .rw[zAv hm,Nat.min_eq_right Zz,Nat.min_eq_right Zz,Int.add_zero]
theorem Ie{ps ss:List (List Int)}{h last:Nat}{n y:Int}(n0:0<=n)(n1:n<ps.length)(hd:¬dom ps n y):kF ps ss h last (ky n y)=0:=by
 show(if y<=last then(hl ps ss n y).getD h 0 else 0)=0
 have:(hl ps ss n y).getD h 0=0:=by
  unfold hl bM;rw[zAv fun z=>hd ⟨n0,n1,z.1,z.2⟩,zA7,List.getElem?_replicate];split<;>rfl
 rw[this];split<;>rfl
theorem sum_filter{α:Type}{p:α->Bool}{f:α->Int}:∀{L:List α},(∀a∈L,p a=false->f a=0)->((L.filter p).map f).sum=(L.map f).sum
 |[],_=>rfl
 |a::L,h=>by
  have ih:=sum_filter (L:=L) fun b hb=>h b (.tail _ hb);rw[zAk,List.sum_cons]
  cases e:p a with
  |true=>rw[zB4 e,zAk,List.sum_cons,ih]
  |false=>rw[zB7 (by rw[e];decide),ih,h a (.head _) e,Int.zero_add]
theorem Dw{ps ss:List (List Int)}{ks:List (List Key)}{h last:Nat}(okp:∀r∈ps,okP r)(nd:ks.Nodup)(hk:∀k,k∈ks↔∃n y,k=ky n y/\dom ps n y)(Sr:last<20):(ks.map (kF ps ss h last)).sum=Dq ps ss h (last+1):=by
 classical
 have pm:ks.Perm ((cK ps.length 20).filter fun k=>decide (k∈ks)):=by
  refine(List.perm_ext_iff_of_nodup nd ((Dt 20).filter _)).mpr fun k=>?_;rw[zAq,Zp,cK_mem];refine⟨fun z=>⟨?_,z⟩,fun z=>z.2⟩;obtain⟨n,y,rfl,n0,n1,d1,d2⟩:=(hk k).mp z;obtain⟨p,_,ep,op⟩:=prom_ok (n:=n) okp n0 n1;rw[ep]at d1 d2;obtain⟨_,_,_,⟨y0,_,y1⟩,_⟩:=op;exact⟨n.toNat,y.toNat,Zz,Zz,by rw[Int.toNat_of_nonneg n0,Int.toNat_of_nonneg Zz]⟩
 rw[Dj (pm.map _),sum_filter (p:=fun k=>decide (k∈ks)),Dv,Nat.min_eq_right Zz];intro k Ss hn;obtain⟨n,y,a,b,rfl⟩:=cK_mem.mp Ss;refine Ie Zz Zz fun z=>?_;exact of_decide_eq_false hn ((hk _).mpr ⟨n,y,rfl,z⟩)
structure RwAt(H:Hp)(ro:Addr)(ps ss:List (List Int))(kr:List (List Key×V)):Prop where
 e:H ro=some (.dT kr)
 g:∀n y,dom ps n y->∃d,cV kr (ky n y)=some (.ref d)/\H d=some (.lst ((hl ps ss n y).map V.int))
 kd:(kr.map (·.1)).Nodup
 kk:∀k,k∈kr.map (·.1)↔∃n y,k=ky n y/\dom ps n y
theorem RwAt.same{H H':Hp}{ro:Addr}{ps ss:List (List Int)}{kr:List (List Key×V)}(r:RwAt H ro ps ss kr)(s:Same H H'):RwAt H' ro ps ss kr:=⟨s _ _ r.e,fun n y h=>by
 obtain⟨d,e1,e2⟩:=r.g n y h
 exact⟨d,e1,s _ _ e2⟩,r.kd,r.kk⟩
theorem Lts.rw{fo:Addr}{H0 H:Hp}{ps ss:List (List Int)}{Zs:List (List Key×V)}(l:Lts fo H0 H (dom ps) (hl ps ss) Zs):RwAt H fo ps ss Zs:=
 ⟨l.e,l.g,l.kd,fun k=>⟨fun h=>l.kk k h,fun⟨n,y,e,d⟩=>by
  obtain⟨b,e1,_⟩:=l.g n y d;rw[e];have:(cV Zs (ky n y)).isSome=true:=by rw[e1];rfl
  rw[<-dX,List.any_eq_true]at this;obtain⟨p,hp,ep⟩:=this
  exact zA5.mpr ⟨p,hp,zB8 ep⟩⟩⟩
theorem Dy{len:Nat}:∀m,(cK len m).length=m*len
 |0=>by
  rw[Nat.zero_mul];rfl
 |m+1=>by
  show(cK len m++_).length=_;rw[zA2,Dy m,zA1,List.length_range,Nat.add_mul,Nat.one_mul]
theorem Dz{ps:List (List Int)}{ks:List (List Key)}(okp:∀r∈ps,okP r)(lp:ps.length<=10)(nd:ks.Nodup)(hk:∀k,k∈ks↔∃n y,k=ky n y/\dom ps n y):ks.length<=200:=by
 classical
 have sb:∀k∈ks,k∈cK ps.length 20:=fun k z=>by
  rw[cK_mem];obtain⟨n,y,rfl,n0,n1,d1,d2⟩:=(hk k).mp z;obtain⟨p,_,ep,op⟩:=prom_ok (n:=n) okp n0 n1;rw[ep]at d1 d2;obtain⟨_,_,_,⟨y0,_,y1⟩,_⟩:=op;exact⟨n.toNat,y.toNat,Zz,Zz,by rw[Int.toNat_of_nonneg n0,Int.toNat_of_nonneg Zz]⟩
 have pm:ks.Perm ((cK ps.length 20).filter fun k=>decide (k∈ks)):=(List.perm_ext_iff_of_nodup nd ((Dt 20).filter _)).mpr fun k=>by
  rw[zAq,Zp];exact⟨fun z=>⟨sb k z,z⟩,fun z=>z.2⟩
 rw[pm.length_eq];have:=List.length_filter_le (fun k=>decide (k∈ks)) (cK ps.length 20);rw[Dy]at this;lia
theorem ye{f:List Int->Bool}{G:List (List Int)}{i:Nat}(hi:i<G.length):sF f (G.take (i+1))=sF f (G.take i)+(if f (keyOf G[i])=true then fl G[i] 3 else 0):=by
 rw[zAj,zA0 hi,show(some G[i]).toList=[G[i]]from rfl,eZ,gA];show _+(_+0)=_;lia
def JT(t:TA):TE:=fun σ H Q=>t σ H fun xs H1=>xs.length<=sizeLine/\∀p,H1 p=none->p≠sysModules->Q (.ref p) (upd H1 p (.lst xs))
theorem FN{X:Cx}{es:List Expr}{t:TA}{pos:Pos}(h:PA X es t):PE X (.List es pos) (JT t):=by
 intro Zt s σ H Q I hq;refine wpAny_List_spliced (thn (h pos Zt s σ H _ I hq) fun us s1 ⟨xs,H1,I1,r,z,q⟩=>⟨by rw[<-r.length];exact z,?_⟩);have hf:H1 s1.heap.objs.size=none:=I1.hok.fresh (zA3 _);refine⟨.ref s1.heap.objs.size,upd H1 s1.heap.objs.size (.lst xs),I1.laid (t':=s1.toks) (fun b u e=>zAw _ e) (zA3 _) ?_,rfl,q _ hf (Nat.ne_of_gt I1.big)⟩;exact⟨z,us,0,r,zB2 _ rfl⟩
inductive SpDueI(vs:List V)(H:Hp)(Q:VK):Prop
 |mk:∀(bk ro l:Addr) (m:Nat) (lk:Addr) (ts:List Addr) (cs ps ss:List (List Int)) (kr:List (List Key×V)),(vs=[.ref bk,.ref ro,.ref l,.int m])->(BkO cs ps ss)->(cs.length<=20)->(m<cs.length)->(RwAt H ro ps ss kr)->(H l=some (.lst (ts.map V.ref)))->(ts.length=cs.length)->((∀j a,ts[j]?=some a->WA lk l cs ps ss H a j))->(∀k (as:List Addr) H',Same H H'->H k=none->k≠sysModules->H' k=some (.lst (as.map V.ref))->as.length=8->(∀j a,as[j]?=some a->H' a=some (.tup ((dB cs ps ss (m+1) j).map V.int)))->Q (.ref k) H')->SpDueI  vs H Q
def Gm:Sp:=fun vs H Q _=>SpDueI  vs H Q
theorem KZ:(["_law_key","_law_rows_here","_law_holder","_law_last"]:List Str).Nodup:=by decide +kernel
theorem La:(["_law_gift","_law_holder"]:List Str).Nodup:=by decide +kernel
theorem Lb:(["_law_one","_law_holder"]:List Str).Nodup:=by decide +kernel
theorem scDD:FnScope ["_law_book_here","_law_rows_here","_law_years_here","_law_last","_law_found","_law_holder","_law_due_here","_law_given","_law_gifts","_law_downs","_law_owing"] ["_law_book_here","_law_rows_here","_law_years_here","_law_last"] (aJ (top 71)):=fS
theorem Ig(F:Fun K "_law_due" "_law_due" (top 71) f fd)(Tr:mg "range"=none)(Ts:mg "sum"=none):FnOk P w K mg base CX0 1 f fd ["_law_book_here","_law_rows_here","_law_years_here","_law_last"] Gm:=by
 refine F.ok scDD (fun vs H Q E h=>?_) (fun ai A outer s H vs Q E hr h=>?_)
 .obtain⟨bk,ro,l,m,lk,ts,cs,ps,ss,kr,rfl,_⟩:=h;rfl
 .obtain⟨bk,ro,l,m,lk,ts,cs,ps,ss,kr,rfl,B,lc,hm,R,el,lt,hw,q⟩:=h
  refine K31P.ok_b (aN (gF 4 scDD.nd ⟨FN aj⟩)
   (aN ⟨bN zB3 rfl (bU rfl Tr (aq aA aj)) (bj (i:=5) scDD.nd rfl (Or.inr rfl))
    (gj (aN (gF 6 scDD.nd ⟨aM (cu rfl) rfl Ts boot_sum (aq (Bl (bx ["_law_key","_law_rows_here","_law_holder","_law_last"] [none,some 1,some 5,some 3] rfl (rQ (pv 1)) (fun C fp Zt s₂ H₂=>⟨pgn 0 KZ,dM (bf cD (pX (K31P.ix_tupK (K:=K) rfl) (pv 0) aA) (pv 3) (bu _)),pX (iW (K:=K) rfl) (dY (fM hr) (pv 1) (pv 0) (fun _ _=>rfl)) (pv 2)⟩) (fun C=>cI (cI (cI trivial))) ⟨rfl,rfl,rfl,rfl⟩)) aj)⟩)
    (aN (gF 7 scDD.nd ⟨aA⟩)
    (aN ⟨bN zB3 rfl (bL (iJ wg (pv 2) jz (jA (aU bO (pv 3) aA)))) (bF rfl (ao (pgn 8 scDD.nd) (ao (pgn 9 scDD.nd) (ao (pgn 10 scDD.nd) aV))))
     (gj (bQ (gF 7 scDD.nd ⟨aU bO (pv 7) (aM (cu rfl) rfl Ts boot_sum (aq (bx ["_law_gift","_law_holder"] [none,some 5] rfl (bL (pv 8)) (fun C fp Zt s₂ H₂=>⟨pgn 0 La,dM (bf iI (pX (K31P.ix_tupK (K:=K) rfl) (pv 0) aA) (pv 1) (bu _)),pX (K31P.ix_tupK (K:=K) rfl) (pv 0) aA⟩) (fun C=>cI trivial) ⟨rfl,rfl,rfl,rfl⟩) aj))⟩)))⟩
    (bQ ⟨dC (lE zBb zBf zBe eQ (pv 4) (aq (bB (aq (pv 6) (aq (pv 7) (aq (aM (cu rfl) rfl Ts boot_sum (aq (bx ["_law_one","_law_holder"] [none,some 5] rfl (bL (pX bT (pX bV (pv 2) (pv 3)) aA)) (fun C fp Zt s₂ H₂=>⟨pgn 0 Lb,dM (bf iI (pX (K31P.ix_tupK (K:=K) rfl) (pv 0) aA) (pv 1) (bu _)),pX (K31P.ix_tupK (K:=K) rfl) (pv 0) aA⟩) (fun C=>cI trivial) ⟨rfl,rfl,rfl,rfl⟩) aj)) aj)))) aj))⟩)))))⟩
   (bQ ⟨aQ (pv 4)⟩))) ?_
  have lp:=B.hl
  have Xv:kr.length<=200:=by
   have:=Dz B.okp B.hl R.kd R.kk;rw[zA1]at this;exact this
  refine aC (aR ?_);refine⟨zL,fun k0 mN Su=>?_⟩;have s1:=Same.upd (o:=.lst []) mN;have ek:=aa (H:=H) (a:=k0) (o:=.lst []);generalize upd H k0 (.lst [])=H1 at s1 ek⊢;refine aF ?_;dsimp only;refine aC ?_;refine⟨8,rfl,by decide,by decide,?_⟩;refine cP (lo:=0) (n:=8) (fun j σ Hc=>∃x5 x6 x7 x8 x9 bq,∃as:List Addr,σ=[some (.ref bk),some (.ref ro),some (.ref l),some (.int m),some (.ref k0),x5,x6,x7,x8,x9,bq]/\Same H Hc/\Hc k0=some (.lst (as.map V.ref))/\as.length=j/\∀i a,as[i]?=some a->Hc a=some (.tup ((dB cs ps ss (m+1) i).map V.int))) ?_ ?_ ?_
  .exact⟨none,none,none,none,none,none,[],rfl,s1,ek,rfl,fun i a e=>by simp at e⟩
  .rintro j σ Hc hj ⟨x5,x6,x7,x8,x9,bq,as,rfl,sc,ec,la,ha⟩;have hj:j<8:=hj;refine aF ?_;have z0:(0:Int)+(j:Int)=j:=Zz
   rw[z0];refine lq fun De oD=>?_;refine aC (aR ?_);have RC:=R.same sc;refine⟨ro,kr,RC.e,fun o=>?_⟩;have ez:=aa (H:=Hc) (a:=ro) (o:=.frz o (.dT kr))
   have sz:∀b u,b≠ro->Hc b=some u->upd Hc ro (.frz o (.dT kr)) b=some u:=fun b u n e=>by
    rw[au n];exact e
   generalize upd Hc ro (.frz o (.dT kr))=Hz at ez sz⊢;refine⟨_,rfl,ro,o,kr,rfl,ez,cZ kr.length (fun i ys σ Hd=>Same Hz Hd/\(∃o1,σ=[o1,some (.ref ro),some (.int j),some (.int m)])/\∃ns:List Int,ys=ns.map V.int/\ns.sum=((kr.take i).map fun p=>kF ps ss j m p.1).sum) ⟨Same.refl _,⟨_,rfl⟩,[],rfl,rfl⟩ Zu ?_ ?_⟩
   .rintro i ys σ Hd hi nc ⟨sd,⟨o1,rfl⟩,ns,rfl,fx⟩;refine⟨⟨sd _ _ ez,hi⟩,fun x H' yv R' hR=>?_⟩;obtain⟨rfl,bb,kk,vv,rfl,rS,iN⟩:=yv;obtain⟨n,y,Kk,dm⟩:=(RC.kk kk).mp (zA5.mpr ⟨(kk,vv),zB5 rS,rfl⟩);subst Kk;obtain⟨dr,q1,q2⟩:=RC.g n y dm
    have bP:((kr.take (i+1)).map fun p=>kF ps ss j m p.1).sum=((kr.take i).map fun p=>kF ps ss j m p.1).sum+kF ps ss j m (ky n y):=by
     rw[zAj,rS,zA4,List.sum_append];show _+(_+0)=_;rw[Int.add_zero]
    have Pb:kF ps ss j m (ky n y)=if y<=(m:Int)then(hl ps ss n y).getD j 0 else 0:=rfl;have LS:=iN;have iN:H' bb=some (.tup [.int n,.int y]):=iN
    have Sv:dr≠ro:=fun z=>by rw[z,RC.e]at q2;cases q2
    have LU:atI ((hl ps ss n y).map V.int) (j:Int)=some (.int ((hl ps ss n y).getD j 0)):=du (jc (by rw[sS];exact hj));refine aF ?_;refine⟨_,rfl,bb,_,1,.int y,rfl,rfl,SqT.of iN,rfl,_,rfl,_,_,rfl,rfl,_,rfl,?_⟩;by_cases hy:y<=(m:Int)
    .rw[zAt hy];refine bK ⟨_,rfl,_,rfl,ro,.ref dr,rfl,.inr ⟨kr,_,bb,.inr ⟨o,sd _ _ ez⟩,rfl,LS,q1.symm⟩,_,rfl,dr,_,(j:Int),_,rfl,rfl,SqL.of (sd _ _ (sz _ _ Sv q2)),LU,hR _ _ _ (by rw[zA2];show(ns.map V.int).length+1<=i+1;lia) ⟨sd,⟨_,rfl⟩,ns++[(hl ps ss n y).getD j 0],by rw[zA4];rfl,?_⟩⟩;rw[List.sum_append,fx,bP,Pb,zAy hy];show _+(_+0)=_;rw[Int.add_zero]
    .rw[zB0 hy];refine bA (hR _ _ _ Zz ⟨sd,⟨_,rfl⟩,ns,rfl,?_⟩);rw[fx,bP,Pb,zAv hy,Int.add_zero]
   rintro ys σ Hd nc ⟨sd,_,ns,rfl,fx⟩;rw[zAm]at fx;refine⟨⟨sd _ _ ez,zA3 _⟩,fun D hD=>⟨Same.upd hD _ _ (sd _ _ ez),?_⟩⟩
   have nD:D≠ro:=fun z=>by rw[z,sd _ _ ez]at hD;cases hD
   have S2:Same Hc (upd (upd Hd D (.lst (ns.map V.int))) ro (.dT kr)):=fun b u e=>by
    by_cases hb:b=ro
    .subst hb;rw[RC.e]at e;rw[aa];exact e
    .rw[au hb];exact Same.upd hD _ _ (sd _ _ (sz _ _ hb e))
   have eD:upd (upd Hd D (.lst (ns.map V.int))) ro (.dT kr) D=some (.lst (ns.map V.int)):=by rw[au nD];exact aa
   generalize upd (upd Hd D (.lst (ns.map V.int))) ro (.dT kr)=H2 at S2 eD⊢
   have D1:ns.sum=(hsum (fl · 2) (fl · 3) (cH ps ss (m+1))).getD j 0:=by
    rw[fx,eO hj fun r hr=>(j7 B.hu B.h5 B.okp (m+1) r hr).2,yd B.hu B.h5 B.okp hj,<-Dw (ss:=ss) B.okp R.kd R.kk (h:=j) (last:=m) Zz,zAr];rfl
   refine⟨D,ns,rfl,.inl (SqL.of eD),?_⟩;rw[D1];clear D1 fx eD nD hD sd ez sz RC nc;refine aF ?_;dsimp only;refine aC (aR ?_);refine aF ?_;dsimp only;have sc2:=sc.trans S2;have Pc:=S2 _ _ ec;refine aC ?_;refine⟨_,rfl,_,rfl,_,_,rfl,rfl,_,rfl,l,_,rfl,SqL.of (sc2 _ _ el),fun sp mI=>?_⟩;rw[show(m:Int)+1=((m+1:Nat):Int) by lia,K31.cut_take (by rw[zA1];lia),<-List.map_take];have s3:=Same.upd (o:=.lst ((ts.take (m+1)).map V.ref)) mI;have LV:=aa (H:=H2) (a:=sp) (o:=.lst ((ts.take (m+1)).map V.ref));generalize upd H2 sp (.lst ((ts.take (m+1)).map V.ref))=H3 at s3 LV⊢;have sc3:=sc2.trans s3;have FF:=s3 _ _ Pc;have Sw:∀i a,as[i]?=some a->H3 a=some (.tup ((dB cs ps ss (m+1) i).map V.int)):=fun i a e=>s3 _ _ (S2 _ _ (ha i a e));clear sc2 Pc s3 S2 sc ec ha;refine⟨sp,rfl,⟨_,SqL.of LV⟩,?_⟩;refine fj (xs:=(ts.take (m+1)).map V.ref) (fun i σ Hc=>∃x8 x9 bq,σ=[some (.ref bk),some (.ref ro),some (.ref l),some (.int m),some (.ref k0),some (.int j),some (.int ((hsum (fl · 2) (fl · 3) (cH ps ss (m+1))).getD j 0)),some (.int (sF (isH j) (dz cs ps ss i))),x8,x9,bq]/\Same H3 Hc) ?_ ?_ ?_ ?_
   .exact⟨_,_,_,rfl,Same.refl _⟩
   .rintro i σ Hd hi ⟨x8,x9,bq,rfl,sd⟩;exact SqL.of (sd _ _ LV)
   .rintro i x σ Hd hx ⟨x8,x9,bq,rfl,sd⟩
    have hi:i<m+1:=by
     have:=(zAa.mp hx).1;rw[zA1,zAd]at this;lia
    have Pd:i<ts.length:=Zz
    rw[zAb,List.getElem?_take_of_lt hi,zA0 Pd]at hx;have:x=.ref ts[i]:=(zAl hx).symm;subst this;obtain⟨g,tl,qq,xg,xq,W⟩:=hw i ts[i] (zA0 Pd);have sH:=sc3.trans sd;have eg:=sH _ _ W.eg;have elg:=W.elg.same sH;have oj:dz cs ps ss (i+1)=dz cs ps ss i++srt (fY cs ps ss i).g:=rfl;have gl:=(yc B.okc B.hl B.hu B.h5 B.okp (n:=i) Zz).2;have g4:∀r∈srt (fY cs ps ss i).g,r.length=4:=fun r hr=>(y_row 3).1 r ((eG _).mem_iff.mp hr);rw[oj,eZ];generalize srt (fY cs ps ss i).g=G at elg gl g4⊢;generalize sF (isH j) (dz cs ps ss i)=N0;refine⟨ts[i],_,rfl,SqT.of (sH _ _ W.e),rfl,_,_,rfl,_,_,rfl,_,_,rfl,rfl,?_⟩;refine lq fun KL kP=>?_;refine aR ?_;refine⟨_,rfl,_,rfl,g,rfl,⟨_,SqL.of eg⟩,cZ G.length (fun i ys σ He=>Same Hd He/\(∃o1,σ=[o1,some (.int j)])/\∃ns:List Int,ys=ns.map V.int/\ns.sum=sF (isH j) (G.take i)) ⟨Same.refl _,⟨_,rfl⟩,[],rfl,rfl⟩ Zu ?_ ?_⟩
    .rintro i ys σ He hi nc ⟨se,⟨o1,rfl⟩,ns,rfl,fx⟩;obtain⟨t,ex,et⟩:=elg.2 i G[i] (zA0 hi);have r4:=g4 _ (zAh hi);rw[ye hi];generalize G[i]=r at et r4⊢;rw[bJ r4]at et;refine⟨⟨_,_,SqL.of (se _ _ eg),ex⟩,fun v H' y R hR=>?_⟩;obtain⟨rfl,y⟩:=y;have hv:=y _ (SqL.of (se _ _ eg));rw[ex]at hv;cases hv;refine aF ?_;refine⟨_,rfl,t,_,2,.int (fl r 2),rfl,rfl,SqT.of (se _ _ et),rfl,_,rfl,rfl,_,rfl,?_⟩;have ih:(isH j (keyOf r)=true)↔fl r 2=(j:Int):=decide_eq_true_iff;by_cases h:fl r 2=(j:Int)
     .rw[zAt (by rw[h])];refine bK ⟨_,rfl,t,_,3,.int (fl r 3),rfl,rfl,SqT.of (se _ _ et),rfl,hR _ _ _ (by rw[zA2];show(ns.map V.int).length+1<=i+1;lia) ⟨se,⟨_,rfl⟩,ns++[fl r 3],by rw[zA4];rfl,?_⟩⟩;rw[List.sum_append,fx,zAy (ih.mpr h)];show _+(_+0)=_;rw[Int.add_zero]
     .rw[zB0 (fun z=>h (by injection z))];refine bA (hR _ _ _ Zz ⟨se,⟨_,rfl⟩,ns,rfl,?_⟩);rw[fx,zAv (fun z=>h (ih.mp z)),Int.add_zero]
    rintro ys σ He nc ⟨se,_,ns,rfl,fx⟩;rw[zAm]at fx;refine⟨⟨_,SqL.of (se _ _ eg),by rw[elg.1];exact zA3 _⟩,fun D hD=>⟨D,ns,rfl,.inl (SqL.of aa),_,_,rfl,rfl,?_⟩⟩;rw[fx];refine aF ?_;exact kP _ _ ⟨_,_,_,rfl,(sd.trans se).updR hD⟩
   rintro σ Hd ⟨x8,x9,bq,rfl,sd⟩;rw[zA1,zAd,Nat.min_eq_left Zz];have sH:=sc3.trans sd;have Pe:m<ts.length:=Zz
   obtain⟨g,tl,qq,xg,xq,W⟩:=hw m ts[m] (zA0 Pe);have gS:atI (ts.map V.ref) (m:Int)=some (.ref ts[m]):=du (by rw[zAb,zA0 Pe];rfl);have FG:=sH _ _ W.eq;have elq:=W.elq.same sH;have ql:=(ji (cs:=cs) B.hl B.hu B.h5 B.okp (m+1)).2;have q4:∀r∈d9 cs ps ss (m+1),r.length=4:=fun r hr=>((ji (cs:=cs) B.hl B.hu B.h5 B.okp (m+1)).1 r hr).1;have hC:=eO hj (rs:=d9 cs ps ss (m+1)) fun r hr=>zQ (m+1) r hr;have hB:=eO hj (rs:=dz cs ps ss (m+1)) fun r hr=>((qM B.okc B.hl B.hu B.h5 B.okp (m+1) Zz).1 r hr).2
   have eR:dB cs ps ss (m+1) j=[(hsum (fl · 2) (fl · 3) (cH ps ss (m+1))).getD j 0,sF (isH j) (dz cs ps ss (m+1)),sF (isH j) (d9 cs ps ss (m+1))]:=by
    rw[<-hB,<-hC];rfl
   clear hB hC;generalize d9 cs ps ss (m+1)=G at elq ql q4 eR;generalize(hsum (fl · 2) (fl · 3) (cH ps ss (m+1))).getD j 0=N1 at eR⊢;generalize sF (isH j) (dz cs ps ss (m+1))=N2 at eR⊢;dsimp only;refine⟨_,rfl,.inl ⟨rfl,_,SqL.of (sd _ _ FF)⟩,_,rfl,_,rfl,_,rfl,_,rfl,l,_,(m:Int),.ref ts[m],rfl,rfl,SqL.of (sH _ _ el),gS,ts[m],_,2,.ref qq,rfl,rfl,SqT.of (sH _ _ W.e),rfl,qq,rfl,⟨_,SqL.of FG⟩,cZ G.length (fun i ys σ He=>Same Hd He/\(∃o1,σ=[o1,some (.int j)])/\∃ns:List Int,ys=ns.map V.int/\ns.sum=sF (isH j) (G.take i)) ⟨Same.refl _,⟨_,rfl⟩,[],rfl,rfl⟩ Zu ?_ ?_⟩
   .rintro i ys σ He hi nc ⟨se,⟨o1,rfl⟩,ns,rfl,fx⟩;obtain⟨t,ex,et⟩:=elq.2 i G[i] (zA0 hi);have r4:=q4 _ (zAh hi);rw[ye hi];generalize G[i]=r at et r4⊢;rw[bJ r4]at et;refine⟨⟨_,_,SqL.of (se _ _ FG),ex⟩,fun v H' y R hR=>?_⟩;obtain⟨rfl,y⟩:=y;have hv:=y _ (SqL.of (se _ _ FG));rw[ex]at hv;cases hv;refine aF ?_;refine⟨_,rfl,t,_,2,.int (fl r 2),rfl,rfl,SqT.of (se _ _ et),rfl,_,rfl,rfl,_,rfl,?_⟩;have ih:(isH j (keyOf r)=true)↔fl r 2=(j:Int):=decide_eq_true_iff;by_cases h:fl r 2=(j:Int)
    .rw[zAt (by rw[h])];refine bK ⟨_,rfl,t,_,3,.int (fl r 3),rfl,rfl,SqT.of (se _ _ et),rfl,hR _ _ _ (by rw[zA2];show(ns.map V.int).length+1<=i+1;lia) ⟨se,⟨_,rfl⟩,ns++[fl r 3],by rw[zA4];rfl,?_⟩⟩;rw[List.sum_append,fx,zAy (ih.mpr h)];show _+(_+0)=_;rw[Int.add_zero]
    .rw[zB0 (fun z=>h (by injection z))];refine bA (hR _ _ _ Zz ⟨se,⟨_,rfl⟩,ns,rfl,?_⟩);rw[fx,zAv (fun z=>h (ih.mp z)),Int.add_zero]
   rintro ys σ He nc ⟨se,_,ns,rfl,fx⟩;rw[zAm]at fx;refine⟨⟨_,SqL.of (se _ _ FG),by rw[elq.1];exact zA3 _⟩,fun D hD=>⟨D,ns,rfl,.inl (SqL.of aa),zL,fun t3 Fn=>?_⟩⟩;rw[fx];have u1:=(se.updR (o:=.lst (ns.map V.int)) hD).updR (o:=.tup [.int N1,.int N2,.int (sF (isH j) G)]) Fn;have e3:upd (upd He D (.lst (ns.map V.int))) t3 (.tup [.int N1,.int N2,.int (sF (isH j) G)]) t3=some (.tup ((dB cs ps ss (m+1) j).map V.int)):=by rw[eR];exact aa
   generalize upd (upd He D (.lst (ns.map V.int))) t3 (.tup [.int N1,.int N2,.int (sF (isH j) G)])=H9 at u1 e3⊢;have S9:=sd.trans u1
   have n0:t3≠k0:=fun z=>by rw[z,S9 _ _ FF]at e3;cases e3
   refine⟨k0,_,_,rfl,rfl,S9 _ _ FF,by rw[zA1,la,sizeLine_eq];lia,?_⟩;refine oD _ _ ⟨_,_,_,_,_,_,as++[t3],rfl,fun b u e=>?_,by rw[aa,zA4];rfl,by rw[zA2,la];rfl,fun i a e=>?_⟩
   .rw[au (az e mN)];exact S9 _ _ (sc3 _ _ e)
   .have ka:∀b z,H9 b=some (.tup z)->upd H9 k0 (.lst (as.map V.ref++[.ref t3])) b=some (.tup z):=fun b z e=>by
     rw[au fun w=>by rw[w,S9 _ _ FF]at e;cases e];exact e
    by_cases hi:i<as.length
    .rw[zBc hi]at e;exact ka _ _ (S9 _ _ (Sw i a e))
    .have Sx:i=j:=by
      have:=(zAa.mp e).1;rw[zA2,List.length_singleton]at this;lia
     subst Sx;rw[<-la,List.getElem?_concat_length]at e;cases e;exact ka _ _ e3
  .rintro σ Hc ⟨x5,x6,x7,x8,x9,bq,as,rfl,sc,ec,la,ha⟩;dsimp only;refine iw ?_;exact⟨_,rfl,q k0 as Hc sc mN Su ec la ha⟩
structure TB(H:Hp)(bk ac:Addr)(xc:List V)(cs:List (List Int))(ap:Addr)(xp:List V)(ps:List (List Int))(af:Addr)(xs:List V)(ss:List (List Int)):Prop where
 b:BookAt H bk ac xc cs ap xp ps af xs ss
 okc:∀r∈cs,okC r
 lc1:1<=cs.length
section
variable{H H':Hp}{bk ac:Addr}{xc:List V}{cs:List (List Int)}{ap:Addr}{xp:List V}{ps:List (List Int)}{af:Addr}{xs:List V}{ss:List (List Int)}
theorem TB.same(h:TB H bk ac xc cs ap xp ps af xs ss)(s:Same H H'):TB H' bk ac xc cs ap xp ps af xs ss:=⟨h.b.same s,h.okc,h.lc1⟩
theorem TB.keep(h:TB H bk ac xc cs ap xp ps af xs ss)(k:∀b l,H b=some (.tup l)->H' b=some (.tup l)):TB H' bk ac xc cs ap xp ps af xs ss:=⟨⟨k _ _ h.b.e,h.b.rc.keep k,h.b.okc,h.b.lc,h.b.rp.keep k,h.b.lp,h.b.okp,h.b.rs.keep k,h.b.ls,h.b.h5,h.b.un⟩,h.okc,h.lc1⟩
theorem TB.bko(h:TB H bk ac xc cs ap xp ps af xs ss):BkO cs ps ss:=⟨h.b.okc,h.b.lp,h.b.un,h.b.h5,h.b.okp⟩
theorem TB.th(h:TB H bk ac xc cs ap xp ps af xs ss):IsTh (fun _=>False) H (.ref bk) (.tuple [cF cs,cF ps,cF ss]):=.tup h.b.e (.cons h.b.rc.th (.cons h.b.rp.th (.cons h.b.rs.th .nil)))
theorem TB.sz(h:TB H bk ac xc cs ap xp ps af xs ss):L2.sz (.tuple [cF cs,cF ps,cF ss])<=4000:=by
 show 1+((1+szs (cs.map rowD))+((1+szs (ps.map rowD))+((1+szs (ss.map rowD))+0)))<=4000;rw[j6 (k:=3) fun r hr=>(h.okc r hr).1,j6 (k:=6) fun r hr=>(h.b.okp r hr).1,j6 (k:=5) h.b.h5];have:=h.b.lc;have:=h.b.lp;have:=h.b.ls;lia
theorem TB.ok(h:TB H bk ac xc cs ap xp ps af xs ss):o8 (.tuple [cF cs,cF ps,cF ss])=true:=Fx h.lc1 h.b.lc h.okc h.b.lp h.b.okp h.b.ls h.b.h5 h.b.un
theorem TB.by_{R:List (List Int)->List (List Int)->List (List Int)->Int->VK->Hp->Prop}{y:Int}{Q:VK}(h:TB H bk ac xc cs ap xp ps af xs ss)(y0:0<=y)(y1:y<cs.length)(q:R cs ps ss y Q H):Ck R [.ref bk,.int y] H Q E0:=
 ⟨fun _=>False,bk,y,_,ac,xc,cs,ap,xp,ps,af,xs,ss,rfl,h.th,h.sz,h.ok,h.b,y0,y1,q⟩
end
theorem JV{A:Around}{k:Nat}(hr:Room k A):A.units+64<cLine:=by
 have:=hr.un;lia
theorem Gn{cs ps ss:List (List Int)}(B:BkO cs ps ss):∀m,m<=20->∀r∈dz cs ps ss m,0<=fl r 3
 |0,_,r,hr=>by cases hr
 |m+1,hm,r,hr=>by
  rcases zA6.mp (show r∈dz cs ps ss m++srt (fY cs ps ss m).g from hr)with z|z
  .exact Gn B m Zz r z
  .have b:=(yc B.okc B.hl B.hu B.h5 B.okp (n:=m) Zz).1 r z;refine(b.2 _ ?_).1;rw[bJ b.1];show fl r 3∈[fl r 0,fl r 1,fl r 2,fl r 3];simp
theorem Gp{cs ps ss:List (List Int)}(B:BkO cs ps ss):∀m,∀r∈cH ps ss m,0<=fl r 3/\fl r 3<=99
 |0,r,hr=>by cases hr
 |m+1,r,hr=>by
  rcases zA6.mp (show r∈cH ps ss m++((([]++aD ps ss ((0:Nat):Int) m)++aD ps ss ((1:Nat):Int) m)++aD ps ss ((2:Nat):Int) m)from hr)with z|z
  .exact Gp B m r z
  .have k:∀s:Nat,r∈aD ps ss s m->0<=fl r 3/\fl r 3<=99:=fun s h=>by
    obtain⟨_,h1,h2⟩:=dD B.hu B.h5 B.okp r h;lia
   rcases zA6.mp z with z|z
   .rcases zA6.mp z with z|z
    .exact k 0 z
    .exact k 1 z
   .exact k 2 z
theorem FP{cs ps ss:List (List Int)}(B:BkO cs ps ss){m:Nat}(hm:m<=20){j:Nat}(hj:j<8):∀x∈dB cs ps ss m j,-10<=x/\x<=2000000:=by
 have e:=qN B hm hj;have e3:dB cs ps ss m j=[fl (dB cs ps ss m j) 0,fl (dB cs ps ss m j) 1,fl (dB cs ps ss m j) 2]:=rfl;have a:=eO hj (rs:=cH ps ss m) fun r hr=>(j7 B.hu B.h5 B.okp m r hr).2;have b:=eO hj (rs:=dz cs ps ss m) fun r hr=>((qM B.okc B.hl B.hu B.h5 B.okp m hm).1 r hr).2;have c:=eO hj (rs:=d9 cs ps ss m) fun r hr=>zQ m r hr;have b0:=Gj (f:=isH j) (Gn B m hm)
 have c0:=Gj (f:=isH j) (rs:=d9 cs ps ss m) fun q hq=>by
  have:=((ji (cs:=cs) B.hl B.hu B.h5 B.okp m).1 q hq).2.2.2;lia
 have ab:fl (dB cs ps ss m j) 0<=99*4800:=by
  have pj:(hsum (fl · 2) (fl · 3) (cH ps ss m)).getD j 0∈hsum (fl · 2) (fl · 3) (cH ps ss m):=by
   have l8:=oN (fl · 2) (fl · 3) (cH ps ss m);rw[zA7,zA0 Zz];exact zAh _
  have:=(xZ (h:=(fl · 2)) (v:=(fl · 3)) (B:=99) Zx (cH ps ss m) (List.replicate 8 0) 0 Zx (fun r hr=>Gp B m r hr) (fun x hx=>by rw[List.eq_of_mem_replicate hx];decide) _ pj).2;have ln:=lC (ss:=ss) B.hl m;show(hsum (fl · 2) (fl · 3) (cH ps ss m)).getD j 0<=_;lia
 have eb:fl (dB cs ps ss m j) 1=sF (isH j) (dz cs ps ss m):=b;have ec:fl (dB cs ps ss m j) 2=sF (isH j) (d9 cs ps ss m):=c;intro x hx;rw[e3]at hx;simp only[List.mem_cons,List.not_mem_nil,or_false]at hx;rcases hx with rfl|rfl|rfl<;>lia
inductive SpLawI(K:Frag)(vs:List V)(H:Hp)(Q:VK):Prop
 |mk:∀(a:Addr) (ns:List Int),(vs=[.ref a])->(SqL K H a (ns.map V.int))->(ns.length<=63)->(∀H',Q (.bl true) H')->SpLawI K vs H Q
def yf(K:Frag):Sp:=fun vs H Q _=>SpLawI K vs H Q
theorem DG{H:Hp}{g st:Addr}{xg:List V}{rs:List (List Int)}(e:H g=some (.lst xg))(aT:Els H xg rs)(sa:K31P.StAt H st):g≠st:=fun z=>by
 obtain⟨x,y,w,es,_⟩:=sa;rw[z,es]at e;injection e with e;injection e with e;have l:=aT.1;rw[<-e]at l
 have hl:0<rs.length:=by
  rw[<-l];exact Nat.zero_lt_succ _
 obtain⟨t,ex,_⟩:=aT.2 0 rs[0] (zA0 hl);rw[<-e]at ex;cases ex
theorem yg{H:Hp}{as:List Addr}{R:Nat->List Int}(h8:as.length=8)(h:∀j a,as[j]?=some a->H a=some (.tup ((R j).map V.int))):Els H (as.map V.ref) ((List.range 8).map R):=by
 refine⟨by rw[zA1,zA1,List.length_range,h8],fun i r e=>?_⟩;rw[zAb]at e;obtain⟨j,ej,rfl⟩:=Option.map_eq_some_iff.mp e;obtain⟨hi,rfl⟩:=zAa.mp ej;rw[List.length_range]at hi;have dQ:i<as.length:=Zz
 refine⟨as[i],?_,?_⟩
 .rw[zAb,zA0 dQ];rfl
 .rw[List.getElem_range];exact h i _ (zA0 dQ)
theorem zU:bootBuiltins "max"=some (.builtin "max"):=by decide +kernel
theorem zV:bootBuiltins "min"=some (.builtin "min"):=by decide +kernel
theorem Ld:(["_law_one"]:List Str).Nodup:=by decide +kernel
theorem scLL:FnScope ["_law_script","_law_k","_law_state_here","_law_book_here","_law_rows_here","_law_years_here","_law_last","_law_again","_law_found"] ["_law_script"] (aJ (top 72)):=fS
theorem Ih(F:Fun K "law" "law" (top 72) f fd)(T:Mg mg)(Tr:mg "range"=none)(Tm:mg "max"=none)(Tn:mg "min"=none)
  (c0:Cal P w K mg base 1 "_law_choice" ["_law_state_here","_law_many"] K31P.spChoice) (c1:Cal P w K mg base 2 "_law_state" ["_law_script","_law_k"] (K31P.spState K)) (c2:Cal P w K mg base 3 "_law_book" ["_law_state_here","_law_years_here","_law_most"] K31Q.spBook) (c3:Cal P w K mg base 1 "_law_rows" ["_law_promises","_law_sales"] spRows) (c4:Cal P w K mg base 3 "_law_years" ["_law_clips_here","_law_promises","_law_sales"] uO)
  (c5:Cal P w K mg base 12 "sums_by" ["book","year"] (Ck Ia)) (c6:Cal P w K mg base 61 "_law_same" ["_law_found","_law_due_here"] xX) (c7:Cal P w K mg base 1 "_law_due" ["_law_book_here","_law_rows_here","_law_years_here","_law_last"] Gm):FnOk P w K mg base CX0 63 f fd ["_law_script"] (yf K):=by
 refine F.ok scLL (fun vs H Q E h=>?_) (fun ai A outer s H vs Q E hr h=>?_)
 .obtain⟨a,ns,rfl,_⟩:=h;rfl
 .obtain⟨a,ns,rfl,hS,hl,q⟩:=h
  refine K31P.ok_b (aN ⟨bN zB3 rfl (bU rfl Tr (aq (aM (j8 rfl) rfl Tm zU (aq aA (aq (aM (fQ rfl) rfl Tn zV (aq (aM bZ rfl T.len PySem.boot_len (aq (pv 0) aj)) (aq aA aj))) aj))) aj)) (pgn 1 scLL.nd)
   (gj (aN (gF 2 scLL.nd ⟨aK c1 hr (aq (pv 0) (aq (pv 1) aj))⟩)
   (aN (gF 3 scLL.nd ⟨aK c2 hr (aq (pv 2) (aq aA (aq aA aj)))⟩)
   (aN ⟨Ac (i:=4) (j:=5) rfl scLL.nd rfl rfl Zx rfl rfl (aq (pX bT (aK c3 hr (aq (pX bT (pv 3) aA) (aq (pX bT (pv 3) aA) aj))) aA) (aq (aK c4 hr (aq (pX bT (pv 3) aA) (aq (pX bT (pv 3) aA) (aq (pX bT (pv 3) aA) aj)))) aj)) rfl⟩
   (bQ ⟨bN zB3 rfl (bL (cQ (aq aA (aq (aU dW (aM bZ rfl T.len PySem.boot_len (aq (pX bT (pv 3) aA) aj)) aA) (aq (aK c0 hr (aq (pv 2) (aq (aM bZ rfl T.len PySem.boot_len (aq (pX bT (pv 3) aA) aj)) aj))) aj))))) (pgn 6 scLL.nd)
    (gj (bQ ⟨bN zB3 rfl (bU rfl Tr (aq aA aj)) (pgn 7 scLL.nd)
     (gj (aN (gF 8 scLL.nd ⟨aK c5 hr (aq (pv 3) (aq (pv 6) aj))⟩)
     (aN ⟨cU (dR (fU (aK c6 hr (aq (pv 8) (aq (aK c7 hr (aq (pv 3) (aq (pv 4) (aq (pv 5) (aq (pv 6) aj))))) aj))))) (aG (aQ mR)) bz⟩
     (aN ⟨cU (bf (Hw (S:=fun _=>True) (JV hr)) (bx ["_law_one"] [none] rfl (bL (pv 8)) (fun C fp Zt s₂ H₂=>⟨pgn 0 Ld,dM (bf G3 (pX (K31P.ix_tupK (K:=K) rfl) (pv 0) aA) (aU bO (pX (K31P.ix_tupK (K:=K) rfl) (pv 0) aA) (pX (K31P.ix_tupK (K:=K) rfl) (pv 0) aA)) (bu _)),pv 0⟩) (fun C=>trivial) ⟨rfl,rfl,rfl,rfl⟩) (cQ aj) (bu _)) (aG (aQ mR)) bz⟩
     (aN ⟨dC (Ak zBb PySem.F.slot_list_reverse PySem.F.type_list_reverse v7 (pv 8))⟩
     (bQ ⟨dC (Ak zBb PySem.F.slot_list_pop PySem.F.type_list_pop GP (pv 8))⟩))))))⟩))⟩)))))⟩
   (bQ (rG Ja))) ?_
  refine aC ?_;have Xw:(ns.map V.int).length<=63:=by rw[zA1];exact hl
  refine⟨_,rfl,a,_,rfl,.inl hS,_,_,rfl,_,_,rfl,_,rfl,?_,?_,?_⟩
  .split<;>split<;>lia
  .split<;>split<;>lia
  refine cP (lo:=0) (fun i σ Hc=>∃x1 x2 x3 x4 x5 x6 x7 x8,σ=[some (.ref a),x1,x2,x3,x4,x5,x6,x7,x8]/\Same H Hc) ?_ ?_ ?_
  .exact⟨none,none,none,none,none,none,none,none,rfl,Same.refl H⟩
  .rintro i σ H1 hi ⟨x1,x2,x3,x4,x5,x6,x7,x8,rfl,s1⟩;refine aF ?_;refine lq fun De oD=>?_;refine aC (aR ?_);refine⟨_,rfl,_,rfl,a,ns,_,rfl,s1.seq hS,Zz,fun st x y z hn IX Sy vF=>?_⟩;have Sz:H st=none:=s1.free hn
   have g1:K31P.StAt (upd H1 st (.lst [.int x,.int y,.int z])) st:=⟨x,y,z,aa,IX,Sy,vF⟩
   have s2:Same H (upd H1 st (.lst [.int x,.int y,.int z])):=s1.updR hn;generalize upd H1 st (.lst [.int x,.int y,.int z])=H2 at g1 s2⊢;refine aF ?_;dsimp only;refine aC (aR ?_);refine⟨_,rfl,st,12,10,rfl,g1,by decide,by decide,by decide,by decide,fun bk ac xc cs ap xp ps af xs ss H3 d3 eb rc lc1 Oi okc rp lp okp rs ls fy xi=>?_⟩;have SA:cs.length<=12:=Zz
   have B3:TB H3 bk ac xc cs ap xp ps af xs ss:=⟨⟨eb,rc,fun r hr=>⟨(okc r hr).1,fun x hx=>((okc r hr).2 x hx).1⟩,Zz,rp,Zz,okp,rs,Zz,fun s hs=>(fy s hs).1,xi⟩,okc,lc1⟩
   have SD:=rc.l;clear rc rp rs fy g1;refine aF ?_;dsimp only;refine aC ?_;refine⟨_,rfl,bk,_,1,.ref ap,rfl,rfl,SqT.of eb,rfl,_,rfl,bk,_,2,.ref af,rfl,rfl,SqT.of eb,rfl,ap,xp,ps,af,xs,ss,rfl,B3.b.rp,B3.b.lp,B3.b.okp,B3.b.rs,by have:=B3.b.ls;lia,B3.b.h5,fun t fo H4 s4 et hL=>?_⟩;obtain⟨kr,Pf⟩:=hL xi;have B4:=B3.same s4;refine⟨t,_,0,.ref fo,rfl,rfl,SqT.of et,rfl,?_⟩;refine⟨_,rfl,bk,_,0,.ref ac,rfl,rfl,SqT.of B4.b.e,rfl,_,rfl,bk,_,1,.ref ap,rfl,rfl,SqT.of B4.b.e,rfl,_,rfl,bk,_,2,.ref af,rfl,rfl,SqT.of B4.b.e,rfl,ac,xc,cs,ap,xp,ps,af,xs,ss,rfl,B4.b.rc,B4.b.okc,B4.b.lc,B4.b.rp,B4.b.lp,B4.b.okp,B4.b.rs,B4.b.ls,B4.b.h5,xi,fun ly lk ts H5 s5 AF D0 LW hw=>⟨_,_,rfl,?_⟩⟩;have B5:=B4.same s5;have R5:=(Pf.rw).same s5;have d5:=d3.same (s4.trans s5)
   have LX:ly≠st:=fun z=>by
    obtain⟨_,_,_,es,_⟩:=(d3.same s4).sa;rw[z,es]at AF;cases AF
   clear B3 B4 Pf et hL s4 s5 d3 eb;dsimp only;refine⟨_,rfl,bk,_,0,.ref ac,rfl,rfl,SqT.of B5.b.e,rfl,ac,xc,rfl,.inr (SqT.of B5.b.rc.e),_,_,rfl,rfl,?_⟩;refine⟨_,rfl,_,rfl,bk,_,0,.ref ac,rfl,rfl,SqT.of B5.b.e,rfl,ac,xc,rfl,.inr (SqT.of B5.b.rc.e),st,_,rfl,d5.sa,Zz,Zz,fun r a1 b1 hX r0 r1 k1 k2 k3=>?_⟩;rw[SD]at r1
   obtain⟨n,rfl⟩:∃n:Nat,r=n:=⟨r.toNat,Zz⟩
   have d6:=d5.draw (c:=hX) k1 k2 k3;have tk:=(K31P.Dr.refl d5.sa).draw (c:=hX) k1 k2 k3;have B6:=B5.keep (tk.tups d5.sa);obtain⟨Xx,Xy,Xz,LY,_⟩:=d5.sa
   have SE:fo≠st:=fun z=>by
    have e:=R5.e;rw[z,LY]at e;cases e
   have Pg:∀n y,dom ps n y->∃d,cV kr (ky n y)=some (.ref d)/\upd H5 st (.lst [.int a1,.int b1,.int hX]) d=some (.lst ((K31.hl ps ss n y).map V.int)):=fun n y h=>by
    obtain⟨d,e1,e2⟩:=R5.g n y h;refine⟨d,e1,tk.bt _ _ e2 fun z=>?_⟩;rw[z,LY]at e2;injection e2 with e2;injection e2 with e2;have e3:=congrArg List.length e2;rw[zA1,sS]at e3;cases e3
   have R6:RwAt (upd H5 st (.lst [.int a1,.int b1,.int hX])) fo ps ss kr:=⟨tk.bt _ _ R5.e SE,Pg,R5.kd,R5.kk⟩
   clear Pg;have xS:=tk.bt _ _ D0 LX
   have LZ:∀j a,ts[j]?=some a->WA lk ly cs ps ss (upd H5 st (.lst [.int a1,.int b1,.int hX])) a j:=fun j a e=>by
    obtain⟨g,tl,qq,xg,xq,W⟩:=hw j a e;have tp:=tk.tups d5.sa;exact⟨g,tl,qq,xg,xq,tp _ _ W.e,W.gk,W.gf,tk.bt _ _ W.eg (DG W.eg W.elg d5.sa),W.elg.keep tp,W.gs,W.qk,W.qf,tk.bt _ _ W.eq (DG W.eq W.elq d5.sa),W.elq.keep tp,W.qs,tp _ _ W.el⟩
   generalize upd H5 st (.lst [.int a1,.int b1,.int hX])=H6 at d6 B6 R6 xS LZ⊢;clear B5 R5 d5 tk D0 hw LY AF;refine⟨zL,fun ll eC=>?_⟩;have s7:=Same.upd (o:=.lst [.int 0,.int ((xc.length:Int)-1),.int n]) eC;have ER:=aa (H:=H6) (a:=ll) (o:=.lst [.int 0,.int ((xc.length:Int)-1),.int n]);generalize upd H6 ll (.lst [.int 0,.int ((xc.length:Int)-1),.int n])=H7 at s7 ER⊢;have B7:=B6.same s7;have R7:=R6.same s7;have d7:=d6.same s7;have L0:=s7 _ _ xS
   have SF:∀j a,ts[j]?=some a->WA lk ly cs ps ss H7 a j:=fun j a e=>by
    obtain⟨g,tl,qq,xg,xq,W⟩:=LZ j a e;exact⟨g,tl,qq,xg,xq,s7 _ _ W.e,W.gk,W.gf,s7 _ _ W.eg,W.elg.same s7,W.gs,W.qk,W.qf,s7 _ _ W.eq,W.elq.same s7,W.qs,s7 _ _ W.el⟩
   clear B6 R6 d6 xS LZ s7 eC;refine⟨ll,rfl,⟨_,SqL.of ER⟩,?_⟩;refine fj (xs:=[.int 0,.int ((xc.length:Int)-1),.int n]) (fun j σ Hc=>∃x6 x7 x8,σ=[some (.ref a),some (.int (0+(i:Int))),some (.ref st),some (.ref bk),some (.ref fo),some (.ref ly),x6,x7,x8]/\Same H7 Hc) ?_ ?_ ?_ ?_
   .exact⟨_,_,_,rfl,Same.refl _⟩
   .rintro j σ Hc hj ⟨x6,x7,x8,rfl,sc⟩;exact SqL.of (sc _ _ ER)
   .rintro j x σ Hc hx ⟨x6,x7,x8,rfl,sc⟩
    obtain⟨Y,hY,rfl⟩:∃Y:Nat,Y<cs.length/\x=.int Y:=by
     match j,hx with
     |0,hx=>exact⟨0,Zz,(zAl hx).symm⟩
     |1,hx=>exact⟨cs.length-1,Zz,by rw[<-zAl hx];congr 1;lia⟩
     |2,hx=>exact⟨n,Zz,(zAl hx).symm⟩
     |j+3,hx=>cases hx
    have j0:(0:Int)<=Y:=Zz
    have j1:(Y:Int)<cs.length:=Zz
    refine aF ?_;refine lq fun KL kP=>?_;refine⟨2,rfl,by decide,by decide,?_⟩;refine cP (lo:=0) (n:=2) (fun j σ Hc=>∃x7 x8,σ=[some (.ref a),some (.int (0+(i:Int))),some (.ref st),some (.ref bk),some (.ref fo),some (.ref ly),some (.int Y),x7,x8]/\Same H7 Hc) ?_ ?_ ?_
    .exact⟨_,_,rfl,sc⟩
    .rintro j' σ Hd kS ⟨x7,x8,rfl,sd⟩;refine aF ?_;refine lq fun RY SI=>?_;refine aC (aR ?_);refine⟨_,rfl,_,rfl,(B7.same sd).by_ j0 j1 fun l pT H8 s8 nl JA el ln ea=>?_⟩;rw[zAi]at ea;refine aF ?_;dsimp only;refine aC ?_;have S8:=sd.trans s8
     refine⟨_,rfl,_,rfl,_,rfl,_,rfl,_,rfl,bk,fo,ly,Y,lk,ts,cs,ps,ss,kr,rfl,B7.bko,Zz,hY,R7.same S8,S8 _ _ L0,LW,fun j a e=>by
      obtain⟨g,tl,qq,xg,xq,W⟩:=SF j a e
      exact⟨g,tl,qq,xg,xq,S8 _ _ W.e,W.gk,W.gf,S8 _ _ W.eg,W.elg.same S8,W.gs,W.qk,W.qf,S8 _ _ W.eq,W.elq.same S8,W.qs,S8 _ _ W.el⟩,fun k XA H9 s9 nk EV ek ln2 Ph=>?_⟩
     have E1:=(yg (R:=dB cs ps ss (Y+1)) ln ea).same s9;have E2:=yg (R:=dB cs ps ss (Y+1)) ln2 Ph
     have Pj:∀r∈(List.range 8).map (dB cs ps ss (Y+1)),r.length=3:=fun r hr=>by
      obtain⟨i,_,rfl⟩:=zA5.mp hr;rfl
     have tg:tame (.list (((List.range 8).map (dB cs ps ss (Y+1))).map rowD))=true:=zM fun r hr x hx=>by
      obtain⟨i,hi,rfl⟩:=zA5.mp hr;exact FP B7.bko Zz (List.mem_range.mp hi) x hx
     have zg:sz (.list (((List.range 8).map (dB cs ps ss (Y+1))).map rowD))<=80000:=by
      show 1+szs (((List.range 8).map (dB cs ps ss (Y+1))).map rowD)<=80000;rw[j6 (k:=3) Pj,zA1,List.length_range];lia
     have dg:(PyData.list (((List.range 8).map (dB cs ps ss (Y+1))).map rowD)).depth<=4:=by
      show PyData.depthAll (((List.range 8).map (dB cs ps ss (Y+1))).map rowD)+1<=4;have:=oM ((List.range 8).map (dB cs ps ss (Y+1)));lia
     have t1:IsTh (fun a=>a≠sysModules) H9 (.ref l) (.list (((List.range 8).map (dB cs ps ss (Y+1))).map rowD)):=.lst JA (s9 _ _ el) (sV E1);have t2:IsTh (fun a=>a≠sysModules) H9 (.ref k) (.list (((List.range 8).map (dB cs ps ss (Y+1))).map rowD)):=.lst EV ek (sV E2);refine⟨(fun a=>a≠sysModules),l,k,_,rfl,fun z=>z rfl,t1,t2,tg,zg,dg,_,rfl,?_⟩;refine bA (eF ?_);dsimp only;have rV:=s9 _ _ el;have SJ:=fun j a e=>s9 _ _ (ea j a e);have S9:=S8.trans s9;have SK:H7 l=none:=sd.free nl;clear t1 t2 tg zg dg Pj E1 E2 ek Ph nk EV el ea s8 s9 S8;refine aC ?_;refine⟨_,rfl,l,rfl,⟨_,SqL.of rV⟩,cZ 8 (fun i ys σ Hj=>Same H9 Hj/\(∃o1,σ=[o1])/\ys=[]) ⟨Same.refl _,⟨_,rfl⟩,rfl⟩ (by rw[sizeLine_eq];decide) ?_ ?_⟩
     .rintro i ys σ Hj hi hy ⟨sj,⟨o1,rfl⟩,rfl⟩;have dQ:i<pT.length:=Zz
      have ex:(pT.map V.ref)[i]?=some (.ref pT[i]):=by rw[zAb,zA0 dQ];rfl
      have et:=sj _ _ (SJ i _ (zA0 dQ));have FH:=qN B7.bko (m:=Y+1) Zz hi;have e3:dB cs ps ss (Y+1) i=[fl (dB cs ps ss (Y+1) i) 0,fl (dB cs ps ss (Y+1) i) 1,fl (dB cs ps ss (Y+1) i) 2]:=rfl;rw[e3]at et;generalize fl (dB cs ps ss (Y+1) i) 0=A0 at et FH;generalize fl (dB cs ps ss (Y+1) i) 1=A1 at et FH;generalize fl (dB cs ps ss (Y+1) i) 2=A2 at et FH;refine⟨⟨_,_,SqL.of (sj _ _ rV),ex⟩,fun v H' y R hR=>?_⟩;obtain⟨rfl,y⟩:=y;have hv:=y _ (SqL.of (sj _ _ rV));rw[ex]at hv;cases hv;refine aF ?_;refine⟨_,rfl,pT[i],_,0,.int A0,rfl,rfl,SqT.of et,rfl,_,rfl,pT[i],_,1,.int A1,rfl,rfl,SqT.of et,rfl,_,rfl,pT[i],_,2,.int A2,rfl,rfl,SqT.of et,rfl,_,_,rfl,rfl,rfl,_,rfl,?_⟩;rw[FH,zAt rfl];exact bA (hR _ _ _ (zAp _) ⟨sj,⟨_,rfl⟩,rfl⟩)
     rintro ys σ L3 hy ⟨y6,_,rfl⟩;refine⟨⟨_,SqL.of (y6 _ _ rV),by rw[zA1,ln];exact zA3 _⟩,fun la y9=>⟨zL,fun lb SM=>?_⟩⟩;have u8:=Same.upd (o:=.lst []) SM;have L4:=(y6.updR (o:=.lst []) y9).trans u8;have wb:=u8 _ _ (aa (H:=L3) (a:=la) (o:=.lst []));have Pk:=aa (H:=upd L3 la (.lst [])) (a:=lb) (o:=.lst []);generalize upd (upd L3 la (.lst [])) lb (.lst [])=SN at L4 wb Pk⊢;refine⟨.list [],.lst trivial wb .nil,.lst trivial Pk .nil,rfl,rfl,_,rfl,?_⟩;refine bA (eF ?_);dsimp only;have D2:=L4 _ _ rV;refine aC ?_;refine⟨_,rfl,.inl ⟨rfl,_,SqL.of D2⟩,l,_,rfl,rfl,D2,?_⟩;dsimp only;have er:upd SN l (.lst (pT.map V.ref).reverse) l=some (.lst (pT.map V.ref).reverse):=aa;have h8:(pT.map V.ref).reverse.length=8:=by rw[List.length_reverse,zA1,ln]
     refine⟨_,rfl,.inl ⟨rfl,_,SqL.of er⟩,l,_,_,rfl,rfl,er,zA0 Zz,?_⟩;refine SI _ _ ⟨_,_,rfl,fun b o e=>?_⟩;have nb:=az e SK;rw[au nb,au nb];exact L4 _ _ (S9 _ _ e)
    .rintro σ Hd ⟨x7,x8,rfl,sd⟩;exact kP _ _ ⟨_,_,_,rfl,sd⟩
   .rintro σ Hc ⟨x6,x7,x8,rfl,sc⟩;exact oD _ _ ⟨_,_,_,_,_,_,_,_,rfl,fun b o e=>(d7.same sc).bt b o (s2 _ _ e) (az e Sz)⟩
  .rintro σ Hc ⟨x1,x2,x3,x4,x5,x6,x7,x8,rfl,sc⟩;exact q Hc
end K31
structure PySem.W.Fast:Prop where
 (tw1564471510628426816 tw3166073422224259552 tw1383004789998671552 tw12248635035189694336 tw14175641367708365728 tw9684992506818730912 tw11912959386237930464 tw12708088099753319392 tw13715900243268984800 tw4335046673610009761 tw17049053508164544001 tw16329433653604999841 tw6118640148876676065 tw2688380129765872706 tw10057062892688158882 tw10283367126699568290 tw13424009571680944322 tw10081721711072228546 tw2471116164594130338 tw13113302508702434882 tw1714702686965559874 tw4447581196801128098 tw3675857782777188162 tw10978932863557353507 tw18427721383469953091 tw17340000859759572099 tw8829311139476650147 tw14839219132426429635 tw2712538804510463235 tw5031013605456226595 tw9744004730527002019 tw9622808388169819587 tw15915763895965729379 tw758173429159835523 tw9466669437364729827 tw2881132117389790436 tw6275668418991397092 tw17127115926514767172 tw12239225462712575332 tw10346567167191669124 tw5711236779508089412 tw11181002276014120644 tw1994366420364597060 tw17002825083886020420 tw16689725642264134500 tw2908125107861499780 tw11839750270784491460 tw16563305951880267781 tw17785476287107220517 tw8013197376088584229 tw15315215019894353957 tw8372542538615512133 tw9696326693842455653 tw1248838127677428901 tw5842637713375430821 tw1635020200066810021 tw18270205760801046725 tw13726493473589736645 tw15088992970700300677 tw14951392387040777637 tw12840043810562766341 tw4089539313455653381 tw9558074541521500709 tw4639634528043414213 tw15122994924506267461 tw5216309168769541029 tw3123546209909790693 tw8836755135909459941 tw14317748094386994758 tw10014314527834118854 tw5418555062521325318 tw6574785366534508454 tw8717028839932173254 tw8201642639109770471 tw15804889535795010791 tw15647730258872252679 tw16746803206297613575 tw1542204467301281095 tw16113311425514434887 tw577530318852267367 tw8794080946856629735 tw10472736163712726663 tw2148891187836710599 tw12376153042905581511 tw11481680424703480200 tw18235418485135532456 tw8656363762815313352 tw3208854232973169128 tw10654598572035583624 tw10459966416639239912 tw1996480689078316968 tw12433616118690124073 tw6989283568869285289 tw4322606889882711465 tw7768150620241958537 tw10055444486271274921 tw10894584439646191529 tw9568469491012903146 tw7504729922484949290 tw10536207113633622378 tw2019112890440003018 tw3608287873103040010 tw13377777512214098538 tw3279703479453581002 tw1230052287274532586 tw10509482762036468618 tw11571610249995378699 tw15429308777429174539 tw9295866612522197643 tw5931974238398810795 tw2653821380332029739 tw853606205217046507 tw7184207346616661036 tw15169255444865881228 tw13567711692738493740 tw1003035216314404172 tw16357055605919355404 tw13197296033237741292 tw10225279365521992460 tw17429850610640228332 tw8505426206644186189 tw1810244514316144941 tw18191982771987803565 tw10552973317171661261 tw2236402460619533805 tw17252935226358860429 tw11467104190661128941 tw1855003645296544525 tw2896435457717576718 tw10141517546075558958 tw14664175676868588654 tw4027184184794003662 tw12338805748611166414 tw17945416177306948846 tw12270640618990926094 tw18245451316712372558 tw11706660284674510414 tw2310001509108265582 tw1174334560829826702 tw14706214781507430222 tw9089049009537093550 tw10684125060289140783 tw12506805516259386415 tw5026037572019951695 tw6217893760138243215 tw17157105705816447215 tw6702555538778787279 tw7755420417418356880 tw11503264843877800208 tw4335929033944271152 tw18198406335767423312 tw3045606326860717456 tw3497647102123068880 tw3649215527655853680 tw13322063925437473424 tw2437116174550004400 tw9189771231556999888 tw2629587508988268272 tw1396553357305159440 tw2215084563240585104 tw17171942081919799216 tw11312373846086092784 tw2203435372641134673 tw2219996983492507729 tw15698961460190271857 tw16990408670851452369 tw13246397102458835825 tw12755150116647075729 tw8845986068145214449 tw18430848080019110930 tw2434573525114968114 tw3378991788816545874 tw10418264131902968946 tw14151661177300555954 tw8110247589235336402 tw4648097735344776498 tw17876115396179802738 tw503604333098925746 tw12822416050503810866 tw13272181457579241298 tw7631076854201572435 tw13231144685918284979 tw3961205861949460755 tw4913965350463304147 tw4681449666488796691 tw15217332798043998771 tw687141036920398419 tw3060197734868096723 tw5991493843819898643 tw13323343816620288819 tw6126845666099376947 tw1086226566640328595 tw16055123088851618739 tw4993737447671439315 tw3452034775592089620 tw15790081137388476468 tw9564223576334621908 tw16736463991249889556 tw7408020935777744276 tw471987743525306836 tw881817103063965236 tw13733184488688987732 tw15742879846285976212 tw4772349409428880116 tw4043114081451094772 tw5016125854452982837 tw11172014224424479829 tw15596415288412330133 tw6597155139644611829 tw12156882485598129461 tw292808909341081301 tw4622810323763990261 tw1674313735449105301 tw10903072135680921654 tw4411329436321120438 tw12193533561685822006 tw8807958191644451446 tw878541773098546934 tw14230269552149077782 tw12982336061234755414 tw3405775837227967318 tw12741879197247381398 tw9147868235709612055 tw9043397455926253783 tw17862888108453206647 tw2099377513982258999 tw10663801328510284631 tw5727244156976943991 tw15498005619493625719 tw14844164153904424120 tw1318189766981495000 tw11126299002431933976 tw9977670248879075928 tw18177993279933321816 tw15916060218792394488 tw5443056176730361720 tw9712597138420890584 tw1214090099913654264 tw2197450334868113465 tw16076570736393892921 tw8161125749784000569 tw9033829164495003769 tw5306636304787553433 tw11469942513397967033 tw18283040120010684889 tw9440842102239541753 tw18351100874298175993 tw17267246381727909529 tw13624127348193635001 tw687306222382925497 tw15642428336610336441 tw1116635926076419801 tw15780885661505589338 tw11346359533172915450 tw15314830480897633594 tw3629836073334264154 tw15373622671059595642 tw1822634213902951866 tw13645984330005799546 tw3850121156721660922 tw11480983337165743163 tw3982289688976028923 tw13639643870482991483 tw16817030332722109851 tw15020770124435931707 tw12161379462120234555 tw3840142729817002715 tw12891650900086765339 tw12081601864111975291 tw12801743477797567355 tw687177891180948379 tw6218371513116506204 tw14018388707614598268 tw4817254209017461948 tw14639666919036957916 tw9003327682594290908 tw6272978792494062908 tw17864475990580774364 tw5735865204368549436 tw15362443455757248092 tw14286662997018625756 tw17000294606147478236 tw17476798086509401948 tw11901501375113207901 tw9683406083522048157 tw2827284382098798781 tw16984850194522481949 tw9714847626261453277 tw6891421897460750813 tw8846512421797110269 tw9966005948012256829 tw14831058009904005757 tw16200531656122472093 tw2003731818311043773 tw11089054316922335933 tw5968795646936841085 tw12406826987680261085 tw3721350753520494589 tw15693092492978863198 tw4003807835161620606 tw17401498229642030526 tw1875093800611681822 tw14935271163969963646 tw16657339655635266334 tw13088440563097496735 tw3176417188343501087 tw12393988921689315743 tw11292920730627169727 tw9278014715058179519 tw13167064797390874079 tw13628085601609548351 tw7794491115143470687 tw17451266780471969631 tw3436539480282579903 tw6660049540788512042:True)
namespace K31
open PySem L2
theorem el1{C:List Value->Prop}(h:∀a0:Value,C [a0]):∀us:List Value,us.length=1->C us:=fun us e=>match us,e with|[a0],_=>h a0
theorem el2{C:List Value->Prop}(h:∀a0 a1:Value,C [a0,a1]):∀us:List Value,us.length=2->C us:=fun us e=>match us,e with|[a0,a1],_=>h a0 a1
theorem el3{C:List Value->Prop}(h:∀a0 a1 a2:Value,C [a0,a1,a2]):∀us:List Value,us.length=3->C us:=fun us e=>match us,e with|[a0,a1,a2],_=>h a0 a1 a2
theorem el4{C:List Value->Prop}(h:∀a0 a1 a2 a3:Value,C [a0,a1,a2,a3]):∀us:List Value,us.length=4->C us:=fun us e=>match us,e with|[a0,a1,a2,a3],_=>h a0 a1 a2 a3
theorem el5{C:List Value->Prop}(h:∀a0 a1 a2 a3 a4:Value,C [a0,a1,a2,a3,a4]):∀us:List Value,us.length=5->C us:=fun us e=>match us,e with|[a0,a1,a2,a3,a4],_=>h a0 a1 a2 a3 a4
def Has(K:Frag)(x:Str)(st:Stmt):Prop:=∃(f:Addr) (od an:Option Addr) (sl:Array (Option Value)) (oc kV dc pm cd ct:Value),PySem.W.nsIn K mainGlobals x=some (some (.ref f)) /\
 K.lookup f=some ⟨oc,od,.func (PySem.W.fnOf x x (gb st) (fP st) (aJ st) .none kV dc pm an cd ct),sl⟩/\PySem.W.codeIn K cd x=true/\PySem.W.keepIn K (.ref f)=true
theorem has_mk{K:Frag}{x:Str}{st:Stmt}{f:Addr}{od an:Option Addr}{sl:Array (Option Value)}{oc kV dc pm cd ct:Value}(a:PySem.W.nsIn K mainGlobals x=some (some (.ref f)))
  (l:K.lookup f=some ⟨oc,od,.func (PySem.W.fnOf x x (gb st) (fP st) (aJ st) .none kV dc pm an cd ct),sl⟩) (c:PySem.W.codeIn K cd x=true) (k:PySem.W.keepIn K (.ref f)=true):Has K x st:=⟨f,od,an,sl,oc,kV,dc,pm,cd,ct,a,l,c,k⟩
theorem Has.get{K:Frag}{x:Str}{st:Stmt}{h:Heap}{mg:Str->Option Value}(H:Has K x st)(X:K.In h)(G:h.Ns mainGlobals mg):∃f fd,Fun K x x st f fd/\mg x=some (.ref f):=by
 obtain⟨f,od,an,sl,oc,kV,dc,pm,cd,ct,a,l,c,k⟩:=H;exact⟨f,_,An (st:=st) l c k,PySem.W.mg_of X G a⟩
theorem aX(P:Program)(w:World)(base:Heap){K:Frag}{mg:Str->Option Value}{k:Nat}{x:Str}{ps:List Str}{sp:Sp}{f:Addr}{fd:FuncData}(F:FnOk P w K mg base CX0 k f fd ps sp)(m:mg x=some (.ref f))(kp:PySem.W.keepIn K (.ref f)=true)(b:Binds K fd ps []):Cal P w K mg base k x ps sp:=⟨f,fd,F,m,kp,b⟩
theorem all_mk{l:PySem.W.OpenLaw}{w:World}{K:Frag}{h:Heap}{mg:Str->Option Value}{fa fL:Addr}{SO Pl:Option Addr}{SR:Array (Option Value)}{SS Pm Pn yY L5 Po:Value}{t0 t1 t2 t3 t4 t5 t6 t7 t8 t9 Pp:Tok}(X:K.In h)(G:h.Ns mainGlobals mg)(SU:mg "law"=some (.ref fa))
  (h9:Has K "is_whole" (top 9))
  (h10:Has K "is_whole_from" (top 10))
  (h11:Has K "is_tuple_of" (top 11))
  (h12:Has K "are_wholes" (top 12))
  (h23:Has K "is_clip" (top 23))
  (h24:Has K "are_clips" (top 24))
  (h25:Has K "is_promise" (top 25))
  (h26:Has K "are_promises" (top 26))
  (h27:Has K "are_sales" (top 27))
  (h28:Has K "held_in" (top 28))
  (h29:Has K "is_sale_between" (top 29))
  (h30:Has K "sale_holds" (top 30))
  (h31:Has K "first_unheld" (top 31))
  (h32:Has K "is_book" (top 32))
  (h33:Has K "refuse_no_book" (top 33))
  (h37:Has K "are_weights" (top 37))
  (h38:Has K "refuse_unpartable" (top 38))
  (h39:Has K "places_by_rest" (top 39))
  (h40:Has K "parts_of" (top 40))
  (h41:Has K "parted" (top 41))
  (h43:Has K "sacks_of" (top 43))
  (h44:Has K "claims_in" (top 44))
  (h45:Has K "shares_of" (top 45))
  (h46:Has K "made_good" (top 46))
  (h47:Has K "sort_given" (top 47))
  (h48:Has K "year_given" (top 48))
  (h49:Has K "years_given" (top 49))
  (h50:Has K "refuse_no_year_of" (top 50))
  (h51:Has K "refuse_no_year" (top 51))
  (h53:Has K "owed_behind" (top 53))
  (h54:Has K "by_holder" (top 54))
  (h55:Has K "claims_to" (top 55))
  (h56:Has K "sums_by" (top 56))
  (h58:Has K "_law_cell_at" (top 58))
  (h59:Has K "_law_state" (top 59))
  (h60:Has K "_law_choice" (top 60))
  (h61:Has K "_law_same" (top 61))
  (h62:Has K "_law_parted" (top 62))
  (h63:Has K "_law_rows" (top 63))
  (h64:Has K "_law_claims" (top 64))
  (h65:Has K "_law_served" (top 65))
  (h66:Has K "_law_years" (top 66))
  (h67:Has K "_law_clips" (top 67))
  (h68:Has K "_law_promise" (top 68))
  (h69:Has K "_law_sale" (top 69))
  (h70:Has K "_law_book" (top 70))
  (h71:Has K "_law_due" (top 71))
  (aL:PySem.W.nsIn K mainGlobals "law"=some (some (.ref fL))) (lL:K.lookup fL=some ⟨SS,SO,.func (PySem.W.fnOf "law" "law" (gb (top 72)) (fP (top 72)) (aJ (top 72)) .none Pm Pn yY Pl L5 Po),SR⟩) (cL:PySem.W.codeIn K L5 "law"=true) (kL:PySem.W.keepIn K (.ref fL)=true)
  (n0:PySem.W.nsIn K mainGlobals "SORTS"=some (some (.int 3 t0)))
  (n1:PySem.W.nsIn K mainGlobals "HOLDERS"=some (some (.int 8 t1)))
  (n2:PySem.W.nsIn K mainGlobals "LAST_YEAR"=some (some (.int 19 t2)))
  (n3:PySem.W.nsIn K mainGlobals "MOST_CLIPS"=some (some (.int 20 t3)))
  (n4:PySem.W.nsIn K mainGlobals "MOST_PROMISES"=some (some (.int 10 t4)))
  (n5:PySem.W.nsIn K mainGlobals "MOST_WOOL"=some (some (.int 999 t5)))
  (n6:PySem.W.nsIn K mainGlobals "MOST_SACKS"=some (some (.int 99 t6)))
  (n7:PySem.W.nsIn K mainGlobals "MOST_PRICE"=some (some (.int 1000000 t7)))
  (n8:PySem.W.nsIn K mainGlobals "MOST_SALES"=some (some (.int 12 t8)))
  (n9:PySem.W.nsIn K mainGlobals "MOST_WEIGHTS"=some (some (.int 80 t9)))
  (n10:PySem.W.nsIn K mainGlobals "MOST_WEIGHT"=some (some (.int 99 Pp)))
  (cy:PySem.W.nsIn K mainGlobals "isinstance"=some none)
  (si:PySem.W.nsIn K mainGlobals "int"=some none)
  (mw:PySem.W.nsIn K mainGlobals "bool"=some none)
  (iS:PySem.W.nsIn K mainGlobals "tuple"=some none)
  (mx:PySem.W.nsIn K mainGlobals "len"=some none)
  (sv:PySem.W.nsIn K mainGlobals "all"=some none)
  (av:PySem.W.nsIn K mainGlobals "range"=some none)
  (ip:PySem.W.nsIn K mainGlobals "list"=some none)
  (gv:PySem.W.nsIn K mainGlobals "max"=some none)
  (gx:PySem.W.nsIn K mainGlobals "min"=some none)
  (yb:PySem.W.nsIn K mainGlobals "repr"=some none)
  (iX:PySem.W.nsIn K mainGlobals "zip"=some none)
  (aw:PySem.W.nsIn K mainGlobals "enumerate"=some none)
  (fv:PySem.W.nsIn K mainGlobals "sorted"=some none)
  (cE:PySem.W.nsIn K mainGlobals "sum"=some none)
  : ∃fd:FuncData,(∀(s:Shared) (v:Value),BindsTo s fd ⟨[v],[]⟩ [("_law_script",v)])/\∀base:Heap,K.In base->base.Ns mainGlobals mg->FnOk l.prog w K mg base CX0 63 fa fd ["_law_script"] (yf K):=by
 have e:=SU.symm.trans (PySem.W.mg_of X G aL);cases e;have FL:=An (st:=top 72) lL cL kL;obtain⟨f9,XB,F9,m9⟩:=h9.get X G;have b9:=F9.binds (ps:=["thing"]) fun _ _ _ _ _ _=>el1 fun _=>rfl;obtain⟨XC,SV,L6,SW⟩:=h10.get X G;have SX:=L6.binds (ps:=["thing","least","most"]) fun _ _ _ _ _ _=>el3 fun _ _ _=>rfl;obtain⟨XD,SY,L7,S0⟩:=h11.get X G;have S5:=L7.binds (ps:=["thing","fewest","most"]) fun _ _ _ _ _ _=>el3 fun _ _ _=>rfl;obtain⟨XE,Ta,L8,Tb⟩:=h12.get X G;have Tc:=L8.binds (ps:=["thing","many"]) fun _ _ _ _ _ _=>el2 fun _ _=>rfl;obtain⟨XF,Td,L9,Tf⟩:=h23.get X G;have Tg:=L9.binds (ps:=["thing"]) fun _ _ _ _ _ _=>el1 fun _=>rfl;obtain⟨XG,Th,Ma,Ti⟩:=h24.get X G;have Tj:=Ma.binds (ps:=["thing"]) fun _ _ _ _ _ _=>el1 fun _=>rfl;obtain⟨XH,Tp,Mb,Tq⟩:=h25.get X G;have Tt:=Mb.binds (ps:=["thing"]) fun _ _ _ _ _ _=>el1 fun _=>rfl;obtain⟨XI,Tu,Mc,Tv⟩:=h26.get X G;have Tw:=Mc.binds (ps:=["thing"]) fun _ _ _ _ _ _=>el1 fun _=>rfl;obtain⟨XJ,Tx,Md,TC⟩:=h27.get X G;have TF:=Md.binds (ps:=["thing"]) fun _ _ _ _ _ _=>el1 fun _=>rfl;obtain⟨XM,TH,Me,TJ⟩:=h28.get X G;have TK:=Me.binds (ps:=["promises","sales","number","year"]) fun _ _ _ _ _ _=>el4 fun _ _ _ _=>rfl;obtain⟨XN,TL,Mf,TM⟩:=h29.get X G;have TN:=Mf.binds (ps:=["promises","sale"]) fun _ _ _ _ _ _=>el2 fun _ _=>rfl;obtain⟨XO,TQ,Mj,TR⟩:=h30.get X G;have TU:=Mj.binds (ps:=["promises","ahead","sale"]) fun _ _ _ _ _ _=>el3 fun _ _ _=>rfl;obtain⟨XQ,TV,Ml,TX⟩:=h31.get X G;have TY:=Ml.binds (ps:=["promises","sales"]) fun _ _ _ _ _ _=>el2 fun _ _=>rfl;obtain⟨XR,TZ,Mm,T2⟩:=h32.get X G;have T3:=Mm.binds (ps:=["thing"]) fun _ _ _ _ _ _=>el1 fun _=>rfl;obtain⟨XS,T4,Mp,T5⟩:=h33.get X G;have T6:=Mp.binds (ps:=["thing"]) fun _ _ _ _ _ _=>el1 fun _=>rfl;obtain⟨XT,T7,Mq,T8⟩:=h37.get X G;have T9:=Mq.binds (ps:=["thing"]) fun _ _ _ _ _ _=>el1 fun _=>rfl;obtain⟨XU,Ua,Mr,Ub⟩:=h38.get X G;have Uc:=Mr.binds (ps:=["sacks","weights"]) fun _ _ _ _ _ _=>el2 fun _ _=>rfl;obtain⟨XW,Ud,Ms,Ue⟩:=h39.get X G;have Ug:=Ms.binds (ps:=["rests"]) fun _ _ _ _ _ _=>el1 fun _=>rfl;obtain⟨XX,Uh,Mt,Ui⟩:=h40.get X G;have Uj:=Mt.binds (ps:=["sacks","weights"]) fun _ _ _ _ _ _=>el2 fun _ _=>rfl;obtain⟨XY,Uk,Mu,Ul⟩:=h41.get X G;have Um:=Mu.binds (ps:=["sacks","weights"]) fun _ _ _ _ _ _=>el2 fun _ _=>rfl;obtain⟨XZ,Uo,Mv,Up⟩:=h43.get X G;have Uq:=Mv.binds (ps:=["rows"]) fun _ _ _ _ _ _=>el1 fun _=>rfl;obtain⟨X0,Ur,Mw,Us⟩:=h44.get X G;have Ut:=Mw.binds (ps:=["promises","sales","sort","year"]) fun _ _ _ _ _ _=>el4 fun _ _ _ _=>rfl;obtain⟨X1,Uu,Mx,Uv⟩:=h45.get X G;have Uw:=Mx.binds (ps:=["wool","claims"]) fun _ _ _ _ _ _=>el2 fun _ _=>rfl;obtain⟨X2,Ux,My,Uy⟩:=h46.get X G;have Uz:=My.binds (ps:=["wool","owed"]) fun _ _ _ _ _ _=>el2 fun _ _=>rfl;obtain⟨X3,UA,Mz,UB⟩:=h47.get X G;have UC:=Mz.binds (ps:=["wool","claims","owed"]) fun _ _ _ _ _ _=>el3 fun _ _ _=>rfl;obtain⟨X4,UD,MA,UE⟩:=h48.get X G;have UG:=MA.binds (ps:=["book","year","owed"]) fun _ _ _ _ _ _=>el3 fun _ _ _=>rfl;obtain⟨X5,UH,MB,UI⟩:=h49.get X G;have UJ:=MB.binds (ps:=["book","year"]) fun _ _ _ _ _ _=>el2 fun _ _=>rfl;obtain⟨X6,UK,MC,UL⟩:=h50.get X G;have UM:=MC.binds (ps:=["clips","year"]) fun _ _ _ _ _ _=>el2 fun _ _=>rfl;obtain⟨X7,UN,MD,UO⟩:=h51.get X G;have UP:=MD.binds (ps:=["book","year"]) fun _ _ _ _ _ _=>el2 fun _ _=>rfl;obtain⟨X8,UQ,ME,UR⟩:=h53.get X G;have US:=ME.binds (ps:=["book","year"]) fun _ _ _ _ _ _=>el2 fun _ _=>rfl;obtain⟨X9,UT,MF,UU⟩:=h54.get X G;have UW:=MF.binds (ps:=["rows"]) fun _ _ _ _ _ _=>el1 fun _=>rfl;obtain⟨Ya,UX,MG,UY⟩:=h55.get X G;have UZ:=MG.binds (ps:=["book","year"]) fun _ _ _ _ _ _=>el2 fun _ _=>rfl;obtain⟨Yb,U0,MJ,U1⟩:=h56.get X G;have U2:=MJ.binds (ps:=["book","year"]) fun _ _ _ _ _ _=>el2 fun _ _=>rfl;obtain⟨Yc,U3,MK,U4⟩:=h58.get X G;have U5:=MK.binds (ps:=["_law_script","_law_k"]) fun _ _ _ _ _ _=>el2 fun _ _=>rfl;obtain⟨Yd,U6,ML,U7⟩:=h59.get X G;have U8:=ML.binds (ps:=["_law_script","_law_k"]) fun _ _ _ _ _ _=>el2 fun _ _=>rfl;obtain⟨Ye,U9,MM,Va⟩:=h60.get X G;have Vb:=MM.binds (ps:=["_law_state_here","_law_many"]) fun _ _ _ _ _ _=>el2 fun _ _=>rfl;obtain⟨Yf,Vc,MN,Vd⟩:=h61.get X G;have Ve:=MN.binds (ps:=["_law_found","_law_due_here"]) fun _ _ _ _ _ _=>el2 fun _ _=>rfl;obtain⟨Yg,Vf,MO,Vg⟩:=h62.get X G;have Vh:=MO.binds (ps:=["_law_sacks","_law_weights"]) fun _ _ _ _ _ _=>el2 fun _ _=>rfl;obtain⟨Yh,Vi,MP,Vj⟩:=h63.get X G;have Vk:=MP.binds (ps:=["_law_promises","_law_sales"]) fun _ _ _ _ _ _=>el2 fun _ _=>rfl;obtain⟨Yi,Vl,MQ,Vm⟩:=h64.get X G;have Vn:=MQ.binds (ps:=["_law_promises","_law_rows_here","_law_year","_law_sort"]) fun _ _ _ _ _ _=>el4 fun _ _ _ _=>rfl;obtain⟨Yj,Vo,MR,Vp⟩:=h65.get X G;have Vq:=MR.binds (ps:=["_law_lacks","_law_some","_law_year","_law_sort","_law_have"]) fun _ _ _ _ _ _=>el5 fun _ _ _ _ _=>rfl;obtain⟨Yk,Vr,MT,Vs⟩:=h66.get X G;have Vt:=MT.binds (ps:=["_law_clips_here","_law_promises","_law_sales"]) fun _ _ _ _ _ _=>el3 fun _ _ _=>rfl;obtain⟨Yl,Vu,MU,Vv⟩:=h67.get X G;have Vw:=MU.binds (ps:=["_law_state_here","_law_most"]) fun _ _ _ _ _ _=>el2 fun _ _=>rfl;obtain⟨Ym,Vx,MV,Vy⟩:=h68.get X G;have Vz:=MV.binds (ps:=["_law_state_here","_law_years_here"]) fun _ _ _ _ _ _=>el2 fun _ _=>rfl;obtain⟨Yn,VA,MW,VB⟩:=h69.get X G;have VC:=MW.binds (ps:=["_law_state_here","_law_promises"]) fun _ _ _ _ _ _=>el2 fun _ _=>rfl;obtain⟨Yo,VD,MX,VE⟩:=h70.get X G;have VF:=MX.binds (ps:=["_law_state_here","_law_years_here","_law_most"]) fun _ _ _ _ _ _=>el3 fun _ _ _=>rfl;obtain⟨Yp,VG,MY,VH⟩:=h71.get X G;have VI:=MY.binds (ps:=["_law_book_here","_law_rows_here","_law_years_here","_law_last"]) fun _ _ _ _ _ _=>el4 fun _ _ _ _=>rfl
 have T:Mg mg:=⟨(zAx X G cy),(zAx X G si),(zAx X G mw),(zAx X G iS),(zAx X G mx),(zAx X G sv)⟩
 have TP:K31.Mg mg:=⟨(zAx X G cy),(zAx X G si),(zAx X G mw),(zAx X G iS),(zAx X G mx),(zAx X G sv)⟩
 have N:Nums mg:=⟨⟨t0,PySem.W.mg_of X G n0⟩,⟨t1,PySem.W.mg_of X G n1⟩,⟨t2,PySem.W.mg_of X G n2⟩,⟨t3,PySem.W.mg_of X G n3⟩,⟨t4,PySem.W.mg_of X G n4⟩,⟨t5,PySem.W.mg_of X G n5⟩,⟨t6,PySem.W.mg_of X G n6⟩,⟨t7,PySem.W.mg_of X G n7⟩⟩
 have NP:K31P.Nums mg:=⟨⟨t9,PySem.W.mg_of X G n9⟩,⟨Pp,PySem.W.mg_of X G n10⟩⟩
 have N2:MS mg:=⟨⟨t8,PySem.W.mg_of X G n8⟩⟩
 refine⟨PySem.W.fnOf "law" "law" (gb (top 72)) (fP (top 72)) (aJ (top 72)) .none Pm Pn yY Pl L5 Po,fun s v=>.of_eq rfl,fun base _ _=>?_⟩;have C9:=aX l.prog w base (uA F9 T) m9 F9.kp b9;have MZ:=aX l.prog w base (pI L6 C9) SW L6.kp SX;have AG:=aX l.prog w base (nW L7 T) S0 L7.kp S5;have M0:=aX l.prog w base (pC L8 T C9 AG) Tb L8.kp Tc;have VJ:=aX l.prog w base (vz L9 T N M0) Tf L9.kp Tg;have VL:=aX l.prog w base (rY Ma T N VJ AG) Ti Ma.kp Tj;have VM:=aX l.prog w base (pF Mb T N M0) Tq Mb.kp Tt;have Pq:=aX l.prog w base (lW Mc T N VM AG) Tv Mc.kp Tw;have Pr:=aX l.prog w base (su Md T N2 M0 AG) TC Md.kp TF;have Pt:=aX l.prog w base (EY Me N) TJ Me.kp TK;have VN:=aX l.prog w base (Fb Mf T N) TM Mf.kp TN;have VO:=aX l.prog w base (Bv Mj T (zAx X G av) VN Pt) TR Mj.kp TU;have VP:=aX l.prog w base (Bw Ml (zAx X G aw) Pq Pr VO) TX Ml.kp TY;have VQ:=aX l.prog w base (ok_book Mm AG VL Pq Pr VP) T2 Mm.kp T3;have VR:=aX l.prog w base (Fi Mp VQ) T5 Mp.kp T6;have VS:=aX l.prog w base (K31P.ok_are_weights Mq TP NP MZ AG) T8 Mq.kp T9;have VT:=aX l.prog w base (K31P.ok_refuse Mr (zAx X G cE) VS MZ) Ub Mr.kp Uc;have VU:=aX l.prog w base (K31P.ok_places Ms (zAx X G aw) (zAx X G fv)) Ue Ms.kp Ug;have VW:=aX l.prog w base (K31P.ok_parts Mt TP (zAx X G cE) VU) Ui Mt.kp Uj;have VX:=aX l.prog w base (K31P.ok_parted Mu VT VW) Ul Mu.kp Um;have VY:=aX l.prog w base (Bx Mv (zAx X G cE)) Up Mv.kp Uq;have Pu:=aX l.prog w base (zf Mw (zAx X G aw) Pt) Us Mw.kp Ut;have VZ:=aX l.prog w base (zc Mx T (zAx X G cE) VX) Uv Mx.kp Uw;have V0:=aX l.prog w base (Fe My (zAx X G gx)) Uy My.kp Uz;have V1:=aX l.prog w base (BW Mz (zAx X G cE) (zAx X G ip) (zAx X G iX) VZ V0) UB Mz.kp UC;have V2:=aX l.prog w base (Fg MA T N (zAx X G av) (zAx X G fv) Pu V1 VY) UE MA.kp UG;have Pw:=aX l.prog w base (Cg MB (zAx X G av) V2) UI MB.kp UJ;have V3:=aX l.prog w base (Fj MC T MZ) UL MC.kp UM;have V4:=aX l.prog w base (Cm MD VR V3) UO MD.kp UP;have V5:=aX l.prog w base (Cp ME Pw) UR ME.kp US;have V6:=aX l.prog w base (HW MF N) UU MF.kp UW;have V7:=aX l.prog w base (Fz MG N (zAx X G av) Pu) UY MG.kp UZ;have V8:=aX l.prog w base (FJ MJ (zAx X G ip) (zAx X G iX) V4 Pw V7 V5 V6) U1 MJ.kp U2;have V9:=aX l.prog w base (K31P.ok_cell MK TP) U4 MK.kp U5;have Wa:=aX l.prog w base (K31P.ok_state ML (zAx X G gv) V9) U7 ML.kp U8;have D3:=aX l.prog w base (K31P.ok_choice MM) Va MM.kp Vb;have Wb:=aX l.prog w base (Dh MN (zAx X G yb)) Vd MN.kp Ve;have Wc:=aX l.prog w base (K31Q.ok_lparted MO TP (zAx X G cE) (zAx X G av) (zAx X G gv)) Vg MO.kp Vh;have M3:=aX l.prog w base (Ft MP T (zAx X G aw) (zAx X G av) (zAx X G gx) (zAx X G gv)) Vj MP.kp Vk;have We:=aX l.prog w base (vK MQ (zAx X G aw) (zAx X G av)) Vm MQ.kp Vn;have Wf:=aX l.prog w base (zz MR (zAx X G cE) (zAx X G iX) (zAx X G ip) Wc) Vp MR.kp Vq;have Wg:=aX l.prog w base (zK MT T (zAx X G aw) (zAx X G av) (zAx X G iX) (zAx X G fv) (zAx X G gx) (zAx X G cE) M3 We Wf) Vs MT.kp Vt;have Wh:=aX l.prog w base (K31Q.ok_clips MU TP (zAx X G av) D3) Vv MU.kp Vw;have Wi:=aX l.prog w base (K31Q.ok_prom MV (zAx X G gx) D3) Vy MV.kp Vz;have Wj:=aX l.prog w base (K31Q.ok_sale MW T (zAx X G gv) D3) VB MW.kp VC;have Wl:=aX l.prog w base (K31Q.ok_book MX TP (zAx X G av) (zAx X G mx) D3 Wh Wi Wj M3) VE MX.kp VF;have Wm:=aX l.prog w base (Ig MY (zAx X G av) (zAx X G cE)) VH MY.kp VI;exact Ih FL T (zAx X G av) (zAx X G gv) (zAx X G gx) D3 Wa Wl M3 Wg V8 Wb Wm
theorem walk{l:PySem.W.OpenLaw}{q:Program}{loose:List Str}{XP:(Str->Option Value)->Heap->Prop}{YP:World->Heap->Prop}{d:DefRec}{K:Params->Frag}(hn:l.most=some 63)(AV:d.params.defaults=[])
  (hY:∀(w:World) (h:Heap),YP w h->(K w.params).In h)
  (F:∀(w:World) (mg:Str->Option Value) (fa:Addr) (h:Heap),(K w.params).In h->h.Ns mainGlobals mg->mg d.name=some (.ref fa)->
   ∃fd:FuncData,(∀(s:Shared) (u:Value),BindsTo s fd ⟨[u],[]⟩ [("_law_script",u)])/\∀base:Heap,(K w.params).In base->base.Ns mainGlobals mg->FnOk l.prog w (K w.params) mg base CX0 63 fa fd ["_law_script"] (yf (K w.params))):
  PySem.W.WalkO q loose XP YP l.row.toRowW d [] (fun f vs=>PySem.call f vs):=
 L2.walk_of (n:=63) (k:=63) (x:="_law_script") (CX:=fun _=>CX0) (sp:=fun w=>yf (K w.params)) hn Zx AV ⟨rfl,by decide,by decide,rfl⟩ hY F (fun _ _ a ns hl _ hS=>⟨a,ns,rfl,hS,hl,fun _=>rfl⟩) fun _ _ _ _ _ z=>z
end K31
open PySem PySem.W PyProof.Rows
set_option maxRecDepth 100000 in
set_option maxHeartbeats 0 in
theorem PySem.Challenge.cw_woolyears_k31_sums_of_each_holder_holds : PySem.Challenge.rw_woolyears_k31_sums_of_each_holder.Holds := by
 w_on;o_law;k_head;(case hw=>w_witness2)
 k_fill
 refine K31.walk (l:=PySem.Challenge.rw_woolyears_k31_sums_of_each_holder) rfl rfl (fun w h Y=>PySem.W.kIn_of Y) ?F
 case F =>
  intro w mg fa h KX G hmg
  refine' K31.all_mk KX G hmg ?h9 ?h10 ?h11 ?h12 ?h23 ?h24 ?h25 ?h26 ?h27 ?h28 ?h29 ?h30 ?h31 ?h32 ?h33 ?h37 ?h38 ?h39 ?h40 ?h41 ?h43 ?h44 ?h45 ?h46 ?h47 ?h48 ?h49 ?h50 ?h51 ?h53 ?h54 ?h55 ?h56 ?h58 ?h59 ?h60 ?h61 ?h62 ?h63 ?h64 ?h65 ?h66 ?h67 ?h68 ?h69 ?h70 ?h71 ?aL ?lL ?cL ?kL ?n0 ?n1 ?n2 ?n3 ?n4 ?n5 ?n6 ?n7 ?n8 ?n9 ?n10 ?z0 ?z1 ?z2 ?z3 ?z4 ?z5 ?z6 ?z7 ?z8 ?z9 ?z10 ?z11 ?z12 ?z13 ?z14
  case h9|h10|h11|h12|h23|h24|h25|h26|h27|h28|h29|h30|h31|h32|h33|h37|h38|h39|h40|h41|h43|h44|h45|h46|h47|h48|h49|h50|h51|h53|h54|h55|h56|h58|h59|h60|h61|h62|h63|h64|h65|h66|h67|h68|h69|h70|h71=>
   refine' K31.has_mk ?a ?l ?c ?k
   case a|l|c|k=>k_is
  case aL|lL|cL|kL|n0|n1|n2|n3|n4|n5|n6|n7|n8|n9|n10|z0|z1|z2|z3|z4|z5|z6|z7|z8|z9|z10|z11|z12|z13|z14=>k_is
