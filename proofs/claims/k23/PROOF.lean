import PyProof.Rows.All
import Wide.All
import OpenK.AllK
import Wide.FinOn
import Lean
import PyProof.EqAt
import PyProof.EqKinds
import PyProof.TupleCall
import PyProof.StrLawsRepr
import PyProof.ZipIter
import PySem.Challenge.RW_woolyears_k23_whole_short_years_are_shar
import PyProof.Rows.SortRunsK
import PyProof.AttrMissHeap
import PyProof.SeqRoads
import PyProof.ListOps
import PyProof.DictUpdate
import PyProof.DictWalks
import PyProof.MinMaxWalk
import PyProof.TupleKey
import PyProof.Rows.RuleN_abs
import KE.KDictList
import PyProof.Rows.SortWalk
set_option compiler.extract_closed false
set_option Elab.async false
set_option linter.all false
set_option maxRecDepth 100000
set_option maxHeartbeats 4000000
noncomputable section
theorem Zz{p:Prop}(h:p:=by lia):p:=h
theorem Zy{p:Prop}(h:p:=by simp):p:=h
theorem Zx{p:Prop}(h:p:=by decide):p:=h
theorem Zv{p:Prop}(h:p:=by decide +kernel):p:=h
theorem Zu{p:Prop}(h:p:=by rw[sizeLine_eq];lia):p:=h
def Zp:=@decide_eq_true_eq
open PySem.W (Frag)
def zAt:=@decide_eq_true
def zAu:=@PySem.wpAny_bind
def zAv:=@PySem.W.mg_none_of
def zAw:=@if_neg
def zAx:=@if_pos
def zAy:=@PySem.wpAny_pure
def zAz:=@PySem.Heap.get?_push_of_some
def zB0:=@PySem.Heap.lt_size
def zB1:=@decide_eq_false
def zB2:=@of_decide_eq_true
def zB3:=@PySem.Heap.get?_push_size
def zB4:=@Nat.lt_of_lt_of_le
def zB5:=@PySem.PassesOwn.never
def zB6:=@List.mem_of_getElem?
def zB7:=@Nat.ne_of_lt
def zB8:=@List.take_append_drop
def zB9:=@List.filter_cons_of_pos
def zBa:=@List.filter_cons_of_neg
def zBb:=@List.getElem?_append_right
def zBc:=@List.getElem?_append_left
def zBd:=@List.mem_append_right
def zBe:=@PySem.F.type_list_append
def zBf:=@PySem.F.slot_list_append
def zBg:=@PySem.F.plainAttrs_list
def zA0:=@List.getElem?_eq_getElem
def zA1:=@List.length_map
def zA2:=@List.length_append
def zA3:=@Nat.le_refl
def zA4:=@List.map_append
def zA5:=@List.mem_map
def zA6:=@List.mem_append
def zA7:=@List.getD_eq_getElem?_getD
def zA8:=@List.size_toArray
def zA9:=@Array.length_toList
def zAa:=@List.getElem?_eq_some_iff
def zAb:=@List.getElem?_map
def zAc:=@Bool.and_eq_true
def zAd:=@List.length_take
def zAe:=@List.length_cons
def zAf:=@List.append_assoc
def zAg:=@Bool.false_ne_true
def zAh:=@List.getElem_mem
def zAi:=@Int.toNat_natCast
def zAj:=@List.take_add_one
def zAk:=@List.map_cons
def zAl:=@Option.some.inj
def zAm:=@List.take_length
def zAn:=@List.append_nil
def zAo:=@List.mem_cons
def zAp:=@Nat.zero_le
def zAq:=@List.mem_filter
def zAr:=@List.map_map
def zAs:=@List.length_zip
namespace L2
open PySem PySem.Spec PyProof.Rows
abbrev Key:=Sum Int Str
def lB:Key->Value->Bool
 |.inl k,v=>Value.isInt k v
 |.inr x,v=>Value.isStrOf x v
def Jk(w:World):Key->Int
 |.inl k=>hashInt k
 |.inr x=>hashStr w x
theorem bR:∀{k:Key} {v:Value},lB k v=true->(∃i t,k=Sum.inl i/\v=Value.int i t)\/(∃x t,k=Sum.inr x/\v=Value.str x t)
 |.inl i,v,h=>by
  obtain⟨t,e⟩:=Value.isInt_shape (k:=i) (v:=v) h;exact .inl ⟨i,t,rfl,e⟩
 |.inr x,v,h=>by
  obtain⟨t,e⟩:=Value.isStrOf_shape (x:=x) (v:=v) h;exact .inr ⟨x,t,rfl,e⟩
theorem wU(i:Int)(t:Tok):lB (.inl i) (.int i t)=true:=by simp[lB,Value.isInt]
theorem wV(x:Str)(t:Tok):lB (.inr x) (.str x t)=true:=by simp[lB,Value.isStrOf]
theorem EY(a b:Int):decide ((Sum.inl a:Key)=Sum.inl b)=(a==b):=by
 by_cases e:a=b
 .subst e;simp
 .have h:¬(Sum.inl a:Key)=Sum.inl b:=fun q=>e (Sum.inl.inj q);rw[zB1 h];exact(beq_eq_false_iff_ne.mpr e).symm
theorem Fb(a b:Str):decide ((Sum.inr a:Key)=Sum.inr b)=decide (a=b):=by
 by_cases e:a=b
 .subst e;simp
 .have h:¬(Sum.inr a:Key)=Sum.inr b:=fun q=>e (Sum.inr.inj q);rw[zB1 h,zB1 e]
theorem Fd(a:Int)(b:Str):decide ((Sum.inl a:Key)=Sum.inr b)=false:=zB1 (fun q=>nomatch q)
theorem Fe(a:Str)(b:Int):decide ((Sum.inr a:Key)=Sum.inl b)=false:=zB1 (fun q=>nomatch q)
def bK(prog:Program)(w:World):PySem.KeyKind prog w Key where
 is:=lB
 hash:=Jk w
 inj:=fun v a b ha hb=>by
  rcases bR ha with⟨i,t,rfl,rfl⟩|⟨x,t,rfl,rfl⟩
  .rcases bR hb with⟨j,u,rfl,e⟩|⟨y,u,rfl,e⟩
   .injection e with e1 _;rw[e1]
   .exact nomatch e
  .rcases bR hb with⟨j,u,rfl,e⟩|⟨y,u,rfl,e⟩
   .exact nomatch e
   .injection e with e1 _;rw[e1]
 byValue:=fun k v h=>by
  rcases bR h with⟨i,t,rfl,rfl⟩|⟨x,t,rfl,rfl⟩<;>rfl
 pyHash:=fun hv h=>by
  rcases bR hv with⟨i,t,rfl,rfl⟩|⟨x,t,rfl,rfl⟩
  .exact wpAny_pyHash_int h
  .exact wpAny_pyHash_str h
 eqBool:=fun hu hv h=>by
  rcases bR hu with⟨i,t,rfl,rfl⟩|⟨x,t,rfl,rfl⟩
  .rcases bR hv with⟨j,u,rfl,rfl⟩|⟨y,u,rfl,rfl⟩
   .rw[EY]at h;exact wpAny_eqBool_int h
   .rw[Fd]at h;exact SeqAt.EqAt.int_str i t y u _ _ _ _ h
  .rcases bR hv with⟨j,u,rfl,rfl⟩|⟨y,u,rfl,rfl⟩
   .rw[Fe]at h;exact SeqAt.EqAt.str_int x t j u _ _ _ _ h
   .rw[Fb]at h;exact wpAny_eqBool_str h
 «strs»:=fun k x t v h=>by
  rcases bR h with⟨i,u,rfl,e⟩|⟨y,u,rfl,e⟩
  .exact nomatch e
  .injection e with e1 _;subst e1;cases v<;>rfl
theorem rD(prog:Program)(w:World)(i:Int)(t:Tok):(bK prog w).is (.inl i) (.int i t)=true:=wU i t
theorem rE(prog:Program)(w:World)(x:Str)(t:Tok):(bK prog w).is (.inr x) (.str x t)=true:=wV x t
inductive V where
 |non|bl (b:Bool)|int (i:Int)|str (x:Str)|byt (b:Array UInt8)|flt (b:UInt64)|ref (a:Addr)|ty (n:String)
 deriving DecidableEq
def RelV:V->Value->Prop
 |.non,u=>u=Value.none
 |.bl b,u=>u=Value.bool b
 |.int i,u=>∃t,u=Value.int i t
 |.str x,u=>∃t,u=Value.str x t
 |.byt b,u=>∃t,u=Value.bytes b t
 |.flt b,u=>∃t,u=Value.float b t
 |.ref a,u=>u=Value.ref a
 |.ty n,u=>u=Value.type n
abbrev Vals:List V->List Value->Prop:=Paired RelV
theorem Vals.length{xs:List V}{us:List Value}(r:Vals xs us):xs.length=us.length:=Paired.length r
theorem Vals.get:∀{xs:List V} {us:List Value} {i:Nat} {x:V},Vals xs us->xs[i]?=some x->∃u,us[i]?=some u/\RelV x u
 |_,_,_,_,.nil,e=>by simp at e
 |_,_,0,_,.cons r _,e=>by simp at e;subst e;exact⟨_,rfl,r⟩
 |_,_,i+1,x,.cons _ t,e=>by
  obtain⟨u,h1,h2⟩:=Vals.get (i:=i) (x:=x) t (by simpa using e);exact⟨u,by simpa using h1,h2⟩
theorem Vals.set{x:V}{u:Value}(r:RelV x u):∀{xs:List V} {us:List Value} (i:Nat),Vals xs us->Vals (xs.set i x) (us.set i u)
 |_,_,_,.nil=>.nil
 |_,_,0,.cons _ t=>.cons r t
 |_,_,i+1,.cons q t=>.cons q (Vals.set r i t)
theorem Vals.append:∀{xs ys:List V} {us ws:List Value},Vals xs us->Vals ys ws->Vals (xs++ys) (us++ws)
 |_,_,_,_,.nil,s=>s
 |_,_,_,_,.cons r t,s=>.cons r (Vals.append t s)
theorem Vals.take:∀{xs:List V} {us:List Value} (n:Nat),Vals xs us->Vals (xs.take n) (us.take n)
 |_,_,0,_=>.nil
 |_,_,_+1,.nil=>.nil
 |_,_,n+1,.cons r t=>.cons r (Vals.take n t)
theorem Vals.drop:∀{xs:List V} {us:List Value} (n:Nat),Vals xs us->Vals (xs.drop n) (us.drop n)
 |_,_,0,r=>r
 |_,_,_+1,.nil=>.nil
 |_,_,n+1,.cons _ t=>Vals.drop n t
def RelO:Option V->Option Value->Prop
 |some v,some u=>RelV v u
 |none,none=>True
 |_,_=>False
def KV{κ:Type}:List (κ×V)->List (κ×Value)->Prop:=Paired fun(p:κ×V) (q:κ×Value)=>p.1=q.1/\RelV p.2 q.2
def kV:Key->V
 |.inl i=>.int i
 |.inr x=>.str x
inductive HO where
  |lst (xs:List V)
  |tup (xs:List V)
  |dK (Zs:List (Key×V))|dT (Zs:List (List Key×V))
  |set (S:Int->Bool) (n:Nat)
  |ins (C dx:Addr) (fs:List (Str×V))
  |own (x:Addr)
  |xd (fs:List (Str×V))
  |met (f x:Addr)
  |rng (lo hi:Int)
  |frz (o:Obj) (u:HO)
  |tbl (ps:Array Value)
  |ext (φ:Heap->Prop)
abbrev Hp:=Addr->Option HO
def upd(H:Hp)(a:Addr)(o:HO):Hp:=fun b=>if b=a then some o else H b
theorem aj{H:Hp}{a:Addr}{o:HO}:upd H a o a=some o:=by unfold upd;rw[zAx rfl]
theorem aA{H:Hp}{a b:Addr}{o:HO}(h:b≠a):upd H a o b=H b:=by unfold upd;rw[zAw h]
theorem GF{H:Hp}{a b:Addr}{o u:HO}(h:H a=some o)(h':H b=some u)(d:o≠u):a≠b:=by
 intro e;subst e;rw[h]at h';exact d (zAl h')
theorem aG{H:Hp}{a b:Addr}{o:HO}(h:H a=some o)(h':H b=none):a≠b:=by
 intro e;subst e;rw[h]at h';cases h'
section
variable(P:Program)(w:World)
def ObjOk(H:Hp)(h:Heap)(a:Addr):HO->Prop
 |.lst xs=>xs.length<=sizeLine/\∃(Zr:List Value) (n:Nat),Vals xs Zr/\h.get? a=some {cls:=.type "list",data:=.seq Zr.toArray n}
 |.tup xs=>xs.length<=sizeLine/\∃Zr:List Value,Vals xs Zr/\IsTup h a Zr.toArray
 |.dK Zs=>Zs.length<=sizeLine/\(a==sysModules)=false/\∃vs,KV Zs vs/\h.DictOf (bK P w) a vs
 |.dT Zs=>Zs.length<=sizeLine/\(a==sysModules)=false/\∃xs:List (List Key×Addr×Value),
   Paired (fun(p:List Key×V) (q:List Key×Addr×Value)=>p.1=q.1/\H q.2.1=some (.tup (p.1.map kV))/\RelV p.2 q.2.2) Zs xs /\
   ∃o es ep,h.get? a=some o/\o.ExactDict/\o.data=.dict es ep/\es.toList=xs.map (entryOfKey (tupleKind (bK P w)))/\(xs.map (·.1)).Nodup
 |.set S n=>h.SetOf (intKind P w) a S n
 |.ins C dx fs=>H dx=some (.own a)/\fs.length<=1000/\dx≠a/\h.get? a=some (PySem.W.instObj C dx) /\
   ∃mA,h.Ns1 dx mA/\(∀f,RelO (fs.lookup f) (mA f))/\PySem.Within mA (fs.map (·.1))
 |.own _=>∃o,h.get? a=some o
 |.xd fs=>∃mA,h.Ns1 a mA/\∀f,RelO (fs.lookup f) (mA f)
 |.rng lo hi=>∃t u v,h.get? a=some {cls:=.type "range",data:=.fields #[.int lo t,.int hi u,.int 1 v]}
 |.frz o u=>h.get? a=some o/\ObjOk H h a u
 |.tbl ps=>h.get? a=some {cls:=.none,data:=.fields ps}
 |.met f x=>h.get? a=some (PySem.W.methodObj (.ref f) (.ref x))
 |.ext φ=>φ h/\(∃o,h.get? a=some o)/\∀h1 h2:Heap,φ h1->(∀o,h1.get? a=some o->h2.get? a=some o)->φ h2
def HOk(H:Hp)(h:Heap):Prop:=∀a o,H a=some o->ObjOk P w H h a o
end
section
variable{P:Program}{w:World}{H H':Hp}{h h':Heap}{a:Addr}{o:HO}
theorem ObjOk.lt(x:ObjOk P w H h a o):a<h.objs.size:=by
 cases o with
 |lst xs=>obtain⟨_,_,_,_,e⟩:=x;exact zB0 e
 |tup xs=>obtain⟨_,_,_,p⟩:=x;exact p.lt
 |dK Zs=>obtain⟨_,_,_,_,o,_,_,e,_⟩:=x;exact zB0 e
 |dT Zs=>obtain⟨_,_,_,_,o,_,_,e,_⟩:=x;exact zB0 e
 |set S n=>obtain⟨o,_,_,_,e,_⟩:=x;exact zB0 e
 |ins C dx fs=>obtain⟨_,_,_,e,_⟩:=x;exact zB0 e
 |own y=>obtain⟨_,e⟩:=x;exact zB0 e
 |xd fs=>obtain⟨_,⟨_,_,_,e,_⟩,_⟩:=x;exact zB0 e
 |rng lo hi=>obtain⟨_,_,_,e⟩:=x;exact zB0 e
 |frz ob u=>obtain⟨e,_⟩:=x;exact zB0 e
 |tbl ps=>exact zB0 (show h.get? a=some _ from x)
 |met f y=>exact zB0 (show h.get? a=some _ from x)
 |ext φ=>obtain⟨_,⟨_,e⟩,_⟩:=x;exact zB0 e
theorem Paired.mapP{α β:Type}{F G:α->β->Prop}:∀{sL:List α} {sM:List β},Paired F sL sM->(∀a b,F a b->G a b)->Paired G sL sM
 |_,_,.nil,_=>.nil
 |_,_,.cons r t,f=>.cons (f _ _ r) (Paired.mapP t f)
theorem ObjOk.stay(x:ObjOk P w H h a o)(k:∀b u,(b=a\/H b=some (.own a))->h.get? b=some u->h'.get? b=some u)
  (ho:∀b,H b=some (.own a)->H' b=some (.own a)) (ht:∀b xs,H b=some (.tup xs)->H' b=some (.tup xs)):ObjOk P w H' h' a o:=by
 induction o with
 |lst xs=>obtain⟨z,Zr,n,r,e⟩:=x;exact⟨z,Zr,n,r,k _ _ (.inl rfl) e⟩
 |tup xs=>obtain⟨z,Zr,r,ob,e,c⟩:=x;exact⟨z,Zr,r,ob,k _ _ (.inl rfl) e,c⟩
 |dK Zs=>obtain⟨z,y,vs,r,ob,es,ep,e,c⟩:=x;exact⟨z,y,vs,r,ob,es,ep,k _ _ (.inl rfl) e,c⟩
 |dT Zs=>
  obtain⟨z,y,xs,r,ob,es,ep,e,c⟩:=x;exact⟨z,y,xs,Paired.mapP r fun p q z=>⟨z.1,ht _ _ z.2.1,z.2.2⟩,ob,es,ep,k _ _ (.inl rfl) e,c⟩
 |set S n=>obtain⟨ob,es,ep,t,e,c⟩:=x;exact⟨ob,es,ep,t,k _ _ (.inl rfl) e,c⟩
 |ins C dx fs=>
  obtain⟨d,z,ne,e,mA,⟨od,es,ep,e2,c⟩,r⟩:=x;exact⟨ho _ d,z,ne,k _ _ (.inl rfl) e,mA,⟨od,es,ep,k _ _ (.inr d) e2,c⟩,r⟩
 |own y=>obtain⟨ob,e⟩:=x;exact⟨ob,k _ _ (.inl rfl) e⟩
 |xd fs=>obtain⟨mA,⟨od,es,ep,e,c⟩,r⟩:=x;exact⟨mA,⟨od,es,ep,k _ _ (.inl rfl) e,c⟩,r⟩
 |rng lo hi=>obtain⟨t,u,v,e⟩:=x;exact⟨t,u,v,k _ _ (.inl rfl) e⟩
 |frz ob u ih=>obtain⟨e,q⟩:=x;exact⟨k _ _ (.inl rfl) e,ih q⟩
 |tbl ps=>
  have e:h.get? a=some {cls:=.none,data:=.fields ps}:=x;show h'.get? a=some {cls:=.none,data:=.fields ps};exact k a _ (.inl rfl) e
 |met f y=>
  have e:h.get? a=some (PySem.W.methodObj (.ref f) (.ref y)):=x;show h'.get? a=some (PySem.W.methodObj (.ref f) (.ref y));exact k a _ (.inl rfl) e
 |ext φ=>obtain⟨p,⟨o,e⟩,st⟩:=x;exact⟨st _ _ p fun o q=>k _ _ (.inl rfl) q,⟨o,k _ _ (.inl rfl) e⟩,st⟩
theorem HOk.lt(x:HOk P w H h)(e:H a=some o):a<h.objs.size:=(x a o e).lt
theorem HOk.fresh(x:HOk P w H h)(e:h.objs.size<=a):H a=none:=by
 cases q:H a with
 |none=>rfl
 |some u=>exact absurd (zB4 (x.lt q) e) (Nat.lt_irrefl _)
theorem HOk.kept(x:HOk P w H h)(k:∀b u,h.get? b=some u->h'.get? b=some u):HOk P w H h':=fun a o e=>
 (x a o e).stay (fun b u _ q=>k b u q) (fun _ q=>q) fun _ _ q=>q
theorem HOk.laid(x:HOk P w H h)(k:∀b u,h.get? b=some u->h'.get? b=some u)(hp:h.objs.size<=a)(new:ObjOk P w (upd H a o) h' a o):HOk P w (upd H a o) h':=fun b u e=>by
 have hn:=x.fresh hp;by_cases hb:b=a
 .subst hb;rw[aj]at e;cases e;exact new
 .rw[aA hb]at e
  exact(x b u e).stay (fun c v _ q=>k c v q) (fun c q=>by rw[aA (aG q hn)];exact q) fun c xs q=>by rw[aA (aG q hn)];exact q
end
def Rd(H:Hp)(a:Addr)(u:HO):Prop:=H a=some u\/∃o,H a=some (.frz o u)
theorem Rd.ok{P:Program}{w:World}{H:Hp}{h:Heap}{a:Addr}{u:HO}(r:Rd H a u)(x:HOk P w H h):ObjOk P w H h a u:=by
 rcases r with r|⟨o,r⟩
 .exact x a u r
 .obtain⟨_,q⟩:=x a _ r;exact q
def Mut:Option HO->Prop
 |some (.lst _)=>True
 |some (.dK _)=>True
 |some (.dT _)=>True
 |some (.set _ _)=>True
 |some (.ins _ _ _)=>True
 |some (.ext _)=>True
 |_=>False
section
variable{P:Program}{w:World}{H:Hp}{h h':Heap}{x e:Addr}{o':HO}
theorem HOk.write(ok:HOk P w H h)(mu:Mut (H x))(he:e=x\/H e=some (.own x))(k:∀b u,b≠e->h.get? b=some u->h'.get? b=some u)(qV:∃u,h'.get? e=some u)
  (new:ObjOk P w (upd H x o') h' x o'):HOk P w (upd H x o') h':=fun b u q=>by
 have sP:∀c y,H c=some (.own y)->c≠x:=fun c y r z=>by subst z;rw[r]at mu;exact mu
 have AW:∀c xs,H c=some (.tup xs)->c≠x:=fun c xs r z=>by subst z;rw[r]at mu;exact mu
 by_cases hb:b=x
 .subst hb;rw[aj]at q;cases q;exact new
 .rw[aA hb]at q;by_cases nV:b=e
  .have q':H b=some (.own x):=by
    rcases he with z|z
    .exact absurd (nV.trans z) hb
    .rw[nV];exact z
   rw[q]at q';cases q';obtain⟨v,hv⟩:=qV;exact⟨v,by rw[nV];exact hv⟩
  .refine(ok b u q).stay (fun c v hc r=>k c v ?_ r) (fun c r=>by rw[aA (sP c b r)];exact r) fun c xs r=>by rw[aA (AW c xs r)];exact r
   rcases hc with rfl|hc
   .exact nV
   .rintro rfl;rcases he with z|z
    .exact sP c b hc z
    .rw[hc]at z;cases z;exact hb rfl
end
structure Un(fs ex:List Addr)(H H':Hp)(h h':Heap):Prop where
 keep:∀b o,h.get? b=some o->H b=none->b∉fs->b∉ex->h'.get? b=some o
 slot:∀b o,h.get? b=some o->H b=none->b∈fs->b∉ex->∃sl,h'.get? b=some {o with slots:=sl}
 free:∀b o,h.get? b=some o->H b=none->b∉ex->H' b=none
 there:∀b o,h.get? b=some o->b∉ex->∃o',h'.get? b=some o'
 tups:∀b xs,H b=some (.tup xs)->H' b=some (.tup xs)
 frzs:∀b o u,H b=some (.frz o u)->H' b=some (.frz o u)
 tbls:∀b ps,H b=some (.tbl ps)->∃more,H' b=some (.tbl (ps++more))
section
variable{fs K6 ex QO:List Addr}{H H1 H2:Hp}{h h1 h2 h':Heap}{a x e:Addr}{o:HO}
theorem Un.any(u:Un fs ex H H1 h h1){b:Addr}{ob:Obj}(q:h.get? b=some ob)(n:H b=none)(hx:b∉ex):∃sl,h1.get? b=some {ob with slots:=sl}:=by
 by_cases hb:b∈fs
 .exact u.slot b ob q n hb hx
 .exact⟨ob.slots,u.keep b ob q n hb hx⟩
theorem Un.kept(k:∀b u,h.get? b=some u->h'.get? b=some u):Un fs ex H H h h':=
 ⟨fun b ob q _ _ _=>k b ob q,fun b ob q _ _ _=>⟨ob.slots,k b ob q⟩,fun _ _ _ n _=>n,fun b ob q _=>⟨ob,k b ob q⟩,fun _ _ q=>q,fun _ _ _ q=>q,fun _ ps q=>⟨#[],by rw[q];simp⟩⟩
theorem Un.refl:Un fs ex H H h h:=Un.kept fun _ _ q=>q
theorem Un.laid(k:∀b u,h.get? b=some u->h'.get? b=some u)(hp:h.objs.size<=a)(hn:H a=none):Un fs ex H (upd H a o) h h' where
 keep:=fun b u q _ _ _=>k b u q
 slot:=fun b u q _ _ _=>⟨u.slots,k b u q⟩
 free:=fun b u q n _=>by rw[aA (zB7 (zB4 (zB0 q) hp))];exact n
 there:=fun b u q _=>⟨u,k b u q⟩
 tups:=fun b xs q=>by rw[aA (aG q hn)];exact q
 frzs:=fun b u xs q=>by rw[aA (aG q hn)];exact q
 tbls:=fun b ps q=>⟨#[],by rw[aA (aG q hn),q];simp⟩
theorem Un.write(mu:Mut (H x))(he:e=x\/H e=some (.own x))(k:∀b u,b≠e->h.get? b=some u->h'.get? b=some u)(qV:∃u,h'.get? e=some u):Un fs ex H (upd H x o) h h':=by
 have hx:∀b,H b=none->b≠x:=fun b n z=>by subst z;rw[n]at mu;exact mu
 have hb:∀b,H b=none->b≠e:=fun b n z=>by
  subst z;rcases he with r|r
  .exact hx b n r
  .rw[n]at r;cases r
 have hm:∀b u,H b=some u->¬Mut (some u)->b≠x:=fun b u q nm z=>by subst z;rw[q]at mu;exact nm mu
 refine⟨fun b u q n _ _=>k b u (hb b n) q,fun b u q n _ _=>⟨u.slots,k b u (hb b n) q⟩,fun b u q n _=>by rw[aA (hx b n)];exact n,fun b u q _=>?_,
  fun b xs q=>by rw[aA (hm b _ q fun z=>z)];exact q,fun b u xs q=>by rw[aA (hm b _ q fun z=>z)];exact q,fun b ps q=>⟨#[],by rw[aA (hm b _ q fun z=>z),q];simp⟩⟩
 by_cases nV:b=e
 .subst nV;exact qV
 .exact⟨u,k b u nV q⟩
end
def trk(h:Heap)(H:Hp):List Addr:=(List.range h.objs.size).filter fun a=>(H a).isSome
def pN(h:Heap)(H:Hp):Heap:=PySem.W.hideAll h (trk h H)
theorem wW(h:Heap)(H:Hp):(pN h H).objs.size=h.objs.size:=PySem.W.hideAll_size _ _
theorem yz{h:Heap}{H:Hp}{b:Addr}{o:Obj}(e:h.get? b=some o)(n:H b=none):(pN h H).get? b=some o:=
 PySem.W.hideAll_get _ e fun hm=>by
  have q:(H b).isSome=true:=(zAq.mp hm).2;rw[n]at q;simp at q
theorem By{h:Heap}{H:Hp}{b:Addr}{o:Obj}(e:(pN h H).get? b=some o):h.get? b=some o/\H b=none:=by
 have e':h.get? b=some o:=PySem.W.of_hideAll (trk h H) e;refine⟨e',?_⟩
 cases q:H b with
 |none=>rfl
 |some x=>
  have hm:b∈trk h H:=List.mem_filter.mpr ⟨List.mem_range.mpr (Heap.lt_size e'),by simp[q]⟩;have z:(pN h H).get? b=none:=PySem.W.hideAll_none (trk h H) hm;rw[z]at e;cases e
structure Mod(K:Frag)(mg:Str->Option Value)(base:Heap):Prop where
 kin:K.In base
 glob:base.Ns mainGlobals mg
 blt:∃mb,base.Ns builtinsNs mb/\∀x:Str,x≠"__name__"->mb x=bootBuiltins x
 nolimit:base.NoLimit
structure Cx where
 prog:Program
 w:World
 K:Frag
 mg:Str->Option Value
 base:Heap
 A:Around
 N:List Str
 s₀:Shared
 H₀:Hp
 env:Env
 outer:List Env
 stack:List Env
 ex:List Addr
 fn:Str->Bool
 calm:Bool
 pn:List (Addr×Obj)
 xe:Value->Shared->Prop
def frs(l:List Env):List Addr:=l.filterMap (·.frame)
abbrev Cx.fs(X:Cx):List Addr:=frs X.outer
def Vis(sc:Scope)(x:Str):Prop:=sc.names.lookup x=some .local\/sc.names.lookup x=some .cell\/sc.names.lookup x=some .free
def Loc(sc:Scope)(x:Str):Prop:=sc.names.lookup x=some .local\/sc.names.lookup x=some .cell
def Look(env:Env)(h:Heap)(m:Str->Option Value)(x:Str)(u:Value):Prop:=
 (env.kindOf x=some .local/\m x=some u)\/((env.kindOf x=some .cell\/env.kindOf x=some .free)/\∃c,env.cells.lookup x=some c/\h.IsCell c (some u))
structure Cx.Ok(X:Cx):Prop where
 mod:Mod X.K X.mg X.base
 kind:X.env.scope.kind=.function
 glob:X.env.globals=mainGlobals
 blt:X.env.builtins=builtinsNs
 above:X.s₀.heap.objs.size<=X.env.locals
 inj:∀x y c,X.env.cells.lookup x=some c->X.env.cells.lookup y=some c->x=y
 has:∀x,(X.env.kindOf x=some .cell\/X.env.kindOf x=some .free)->∃c,X.env.cells.lookup x=some c
 cab:∀x c,X.fn x=true->X.env.cells.lookup x=some c->X.s₀.heap.objs.size<=c
 hd:X.calm=true->X.A.handled=none
 frames:X.A.frames=some X.stack
 stk:X.stack=X.outer\/(X.stack=X.env::X.outer/\X.env.frame=some X.env.locals)
 exf:∀b∈X.ex,b≠X.env.locals/\∀x c,X.env.cells.lookup x=some c->c≠b
 bs:∀b o,X.base.get? b=some o->X.s₀.heap.get? b=some o/\X.H₀ b=none
 bsz:X.base.objs.size<=X.s₀.heap.objs.size
 noex:∀b o,X.base.get? b=some o->b∉X.ex
 exfs:∀b∈X.ex,b∉X.fs
 funs:X.s₀.heap.FunFrames X.base X.outer
 frf:∀b∈X.fs,X.H₀ b=none
structure Inv(X:Cx)(Zt:List (Addr×Obj))(σ:List (Option V))(H:Hp)(s:Shared):Prop where
 ok:X.Ok
 os:s.os=X.s₀.os
 bare:AllBare s.gens
 base:Un X.fs X.ex X.H₀ H X.s₀.heap s.heap
 loc:∃m,s.heap.Ns X.env.locals m/\∀(i:Nat) (x:Str) (v:V),X.N[i]?=some x->σ[i]?=some (some v)->Vis X.env.scope x->∃u,RelV v u/\Look X.env s.heap m x u
 cell:∀x c,X.env.cells.lookup x=some c->∃v,s.heap.IsCell c v
 free:H X.env.locals=none
 freeC:∀x c,X.env.cells.lookup x=some c->H c=none
 pin:∀p∈X.pn++Zt,s.heap.get? p.1=some p.2/\H p.1=none/\p.1≠X.env.locals/\p.1∉X.fs/\∀v,p.2.data≠.cell v
 hok:HOk X.prog X.w H s.heap
 len:σ.length=X.N.length
section
variable{X:Cx}{Zt:List (Addr×Obj)}{σ:List (Option V)}{H H':Hp}{s:Shared}{h':Heap}
theorem Cx.Ok.nofr(ok:X.Ok){b:Addr}{o:Obj}(e:X.base.get? b=some o):b∉X.fs:=fun hb=>by
 have:=(ok.funs.mem hb).1;rw[e]at this;cases this
theorem Inv.bs(I:Inv X Zt σ H s):∀b o,X.base.get? b=some o->s.heap.get? b=some o/\H b=none:=fun b o e=>
 ⟨I.base.keep b o (I.ok.bs b o e).1 (I.ok.bs b o e).2 (I.ok.nofr e) (I.ok.noex b o e),I.base.free b o (I.ok.bs b o e).1 (I.ok.bs b o e).2 (I.ok.noex b o e)⟩
theorem Inv.bk(I:Inv X Zt σ H s):∀b o,X.base.get? b=some o->s.heap.get? b=some o:=fun b o e=>(I.bs b o e).1
theorem Inv.mod(I:Inv X Zt σ H s):Mod X.K X.mg X.base:=I.ok.mod
theorem Inv.kIn(I:Inv X Zt σ H s):X.K.In s.heap:=I.ok.mod.kin.keeps I.bk
theorem Inv.lt(I:Inv X Zt σ H s):X.env.locals<s.heap.objs.size:=let⟨_,hn,_⟩:=I.loc;hn.lt
theorem Inv.sz(I:Inv X Zt σ H s):X.s₀.heap.objs.size<=s.heap.objs.size:=Nat.le_trans I.ok.above (Nat.le_of_lt I.lt)
theorem Inv.nofs(I:Inv X Zt σ H s){a:Addr}(h:s.heap.objs.size<=a):a∉X.fs:=fun hb=>by
 obtain⟨_,o,ho,_⟩:=I.ok.funs.mem hb;exact absurd (zB4 (zB0 ho) (Nat.le_trans I.sz h)) (Nat.lt_irrefl _)
theorem Inv.cne(I:Inv X Zt σ H s):∀x c,X.env.cells.lookup x=some c->c≠X.env.locals:=fun x c e z=>by
 obtain⟨v,o,ho,hd⟩:=I.cell x c e;obtain⟨m,⟨o',es,ep,hX,K7,_⟩,_⟩:=I.loc;rw[z,hX]at ho;cases ho;rw[K7]at hd;cases hd
theorem Inv.funs(I:Inv X Zt σ H s):s.heap.FunFrames X.base X.outer:=by
 have all:∀(l:List Env),(∀b∈frs l,b∈X.fs)->X.s₀.heap.FunFrames X.base l->s.heap.FunFrames X.base l:=by
  intro l
  induction l with
  |nil=>intro _ _;trivial
  |cons env r ih=>
   intro hs hl;obtain⟨hk,⟨L,o,hf,hn,ho,hd⟩,hr⟩:=hl;have hL:L∈X.fs:=hs L (by unfold frs;rw[List.filterMap_cons,hf];exact List.mem_cons_self);obtain⟨sl,e⟩:=I.base.slot L o ho (I.ok.frf L hL) hL fun z=>I.ok.exfs L z hL;exact⟨hk,⟨L,_,hf,hn,e,hd⟩,ih (fun b hb=>hs b (by unfold frs;rw[List.filterMap_cons,hf];exact List.mem_cons_of_mem _ hb)) hr⟩
 exact all X.outer (fun _ hb=>hb) I.ok.funs
theorem Inv.stack(I:Inv X Zt σ H s):s.heap.FunFrames X.base X.stack:=by
 rcases I.ok.stk with e|⟨e,hf⟩
 .rw[e];exact I.funs
 .rw[e];obtain⟨m,hn,_⟩:=I.loc;refine .cons (by rw[I.ok.kind];decide) hf hn ?_ I.funs;exact Heap.get?_none_of_le (Nat.le_trans I.ok.bsz I.ok.above)
theorem Inv.stkSub(I:Inv X Zt σ H s):∀b∈frs X.stack,b∈X.env.locals::X.fs:=fun b hb=>by
 rcases I.ok.stk with e|⟨e,hf⟩
 .rw[e]at hb;exact List.mem_cons_of_mem _ hb
 .rw[e]at hb;unfold frs at hb;rw[List.filterMap_cons,hf]at hb;exact hb
theorem Inv.stkFree(I:Inv X Zt σ H s):∀b∈frs X.stack,H b=none:=fun b hb=>by
 rcases zAo.mp (I.stkSub b hb)with e|hb
 .rw[e];exact I.free
 .obtain⟨_,o,ho,_⟩:=I.ok.funs.mem hb;exact I.base.free b o ho (I.ok.frf b hb) fun z=>I.ok.exfs b z hb
theorem Inv.step{g':Array GenState}{t':Nat}{d':Drawn}{ch:List Addr}(I:Inv X Zt σ H s)
  (kc:∀b∈ch,(b∈X.ex\/X.s₀.heap.objs.size<=b)/\b≠X.env.locals/\(∀x c,X.env.cells.lookup x=some c->c≠b)/\∀p∈X.pn++Zt,p.1≠b)
  (keep:∀b o,b≠X.env.locals->b∉X.fs->b∉ch->s.heap.get? b=some o->H b=none->h'.get? b=some o)
  (slot:∀b o,b≠X.env.locals->b∈X.fs->b∉ch->s.heap.get? b=some o->H b=none->∃sl,h'.get? b=some {o with slots:=sl}) (free:∀b o,b∉ch->s.heap.get? b=some o->H b=none->H' b=none)
  (there:∀b o,b∉ch->s.heap.get? b=some o->∃o',h'.get? b=some o')
  (tups:∀b xs,H b=some (.tup xs)->H' b=some (.tup xs)) (frzs:∀b o u,H b=some (.frz o u)->H' b=some (.frz o u)) (tbls:∀b ps,H b=some (.tbl ps)->∃more,H' b=some (.tbl (ps++more)))
  (ns:∀m,s.heap.Ns X.env.locals m->h'.Ns X.env.locals m) (hok:HOk X.prog X.w H' h') (hg:AllBare g'):
  Inv X Zt σ H' {s with heap:=h',gens:=g',drawn:=d',toks:=t'}:=by
 have GH:∀b o,X.s₀.heap.get? b=some o->b≠X.env.locals:=fun b o e=>zB7 (zB4 (zB0 e) I.ok.above)
 have y9:∀b o,X.s₀.heap.get? b=some o->b∉X.ex->b∉ch:=fun b o e hx hb=>by
  rcases(kc b hb).1 with z|z
  .exact hx z
  .exact absurd (zB4 (zB0 e) z) (Nat.lt_irrefl _)
 have cellK:∀x c,X.env.cells.lookup x=some c->∀v,s.heap.IsCell c v->h'.IsCell c v:=fun x c e v ⟨o,ho,hd⟩=>by
  have sQ:c∉ch:=fun z=>(kc c z).2.2.1 x c e rfl;by_cases hc:c∈X.fs
  .obtain⟨sl,q⟩:=slot c o (I.cne x c e) hc sQ ho (I.freeC x c e);exact⟨_,q,hd⟩
  .exact⟨o,keep c o (I.cne x c e) hc sQ ho (I.freeC x c e),hd⟩
 refine⟨I.ok,I.os,hg,⟨fun b o e n hb hx=>?_,fun b o e n hb hx=>?_,fun b o e n hx=>?_,fun b o e hx=>?_,fun b xs e=>tups b xs (I.base.tups b xs e),fun b o xs e=>frzs b o xs (I.base.frzs b o xs e),fun b ps e=>?_⟩,?_,fun x c e=>?_,?_,fun x c e=>?_,fun p hp=>?_,hok,I.len⟩
 .exact keep b o (GH b o e) hb (y9 b o e hx) (I.base.keep b o e n hb hx) (I.base.free b o e n hx)
 .obtain⟨sl,e1⟩:=I.base.slot b o e n hb hx;obtain⟨K8,e2⟩:=slot b _ (GH b o e) hb (y9 b o e hx) e1 (I.base.free b o e n hx);exact⟨K8,e2⟩
 .obtain⟨o',e1⟩:=I.base.there b o e hx;exact free b o' (y9 b o e hx) e1 (I.base.free b o e n hx)
 .obtain⟨o',e1⟩:=I.base.there b o e hx;exact there b o' (y9 b o e hx) e1
 .obtain⟨m1,e1⟩:=I.base.tbls b ps e;obtain⟨m2,e2⟩:=tbls b _ e1;exact⟨m1++m2,by rw[e2,Array.append_assoc]⟩
 .obtain⟨m,hn,hl⟩:=I.loc;refine⟨m,ns m hn,fun i x v e1 e2 e3=>?_⟩;obtain⟨u,r,l⟩:=hl i x v e1 e2 e3;refine⟨u,r,?_⟩;rcases l with l|⟨k,c,e,z⟩
  .exact .inl l
  .exact .inr ⟨k,c,e,cellK x c e _ z⟩
 .obtain⟨v,z⟩:=I.cell x c e;exact⟨v,cellK x c e v z⟩
 .obtain⟨m,⟨o,_,_,ho,_⟩,_⟩:=I.loc;exact free _ o (fun z=>(kc _ z).2.1 rfl) ho I.free
 .obtain⟨v,o,ho,hd⟩:=I.cell x c e;exact free c o (fun z=>(kc c z).2.2.1 x c e rfl) ho (I.freeC x c e)
 .obtain⟨e,n,ne,nf,d⟩:=I.pin p hp;have sQ:p.1∉ch:=fun z=>(kc p.1 z).2.2.2 p hp rfl;exact⟨keep p.1 p.2 ne nf sQ e n,free p.1 p.2 sQ e n,ne,nf,d⟩
theorem Inv.un{t':Nat}(I:Inv X Zt σ H s)(u:Un X.fs [] H H' s.heap h')(hok:HOk X.prog X.w H' h'):Inv X Zt σ H' {s with heap:=h',toks:=t'}:=by
 obtain⟨m,⟨o,es,ep,ho,r⟩,_⟩:=id I.loc;obtain⟨sl,hL⟩:=u.any ho I.free Zy
 exact I.step (g':=s.gens) (d':=s.drawn) (ch:=[]) (fun _ z=>nomatch z) (fun b o _ hb _ e n=>u.keep b o e n hb Zy) (fun b o _ hb _ e n=>u.slot b o e n hb Zy) (fun b o _ e n=>u.free b o e n Zy) (fun b o _ e=>u.there b o e Zy) u.tups u.frzs u.tbls (fun m' hm=>by
  obtain⟨o',eC,nX,hX,r'⟩:=hm;rw[ho]at hX;cases hX
  exact⟨_,eC,nX,hL,r'⟩) hok I.bare
theorem Inv.call{g':Array GenState}{t':Nat}{d':Drawn}{ch:List Addr}(I:Inv X Zt σ H s)(u:Un (frs X.stack) ch H H' s.heap h')(hok:HOk X.prog X.w H' h')(hg:AllBare g')
  (kc:∀b∈ch,(b∈X.ex\/X.s₀.heap.objs.size<=b)/\b≠X.env.locals/\(∀x c,X.env.cells.lookup x=some c->c≠b)/\∀p∈X.pn++Zt,p.1≠b):
  Inv X Zt σ H' {s with heap:=h',gens:=g',drawn:=d',toks:=t'}:=by
 obtain⟨m,⟨o,es,ep,ho,r⟩,_⟩:=id I.loc;obtain⟨sl,hL⟩:=u.any ho I.free fun z=>(kc _ z).2.1 rfl
 exact I.step (ch:=ch) kc (fun b o hL hb hc e n=>u.keep b o e n (fun z=>(zAo.mp (I.stkSub b z)).elim hL hb) hc) (fun b o _ _ hc e n=>u.any e n hc) (fun b o hc e n=>u.free b o e n hc) (fun b o hc e=>u.there b o e hc) u.tups u.frzs u.tbls (fun m' hm=>by
  obtain⟨o',eC,nX,hX,r'⟩:=hm;rw[ho]at hX;cases hX
  exact⟨_,eC,nX,hL,r'⟩) hok hg
theorem Inv.turned{t':Nat}{it:Addr}(I:Inv X Zt σ H s)(k:∀b o,b≠it->s.heap.get? b=some o->h'.get? b=some o)(hn:H it=none)(hL:it≠X.env.locals)
  (h1:it∈X.ex\/X.s₀.heap.objs.size<=it) (h2:∀x c,X.env.cells.lookup x=some c->c≠it) (h3:∀p∈X.pn++Zt,p.1≠it):Inv X Zt σ H {s with heap:=h',toks:=t'}:=by
 have GI:∀b u,H b=some u->b≠it:=fun b u e z=>by rw[z,hn]at e;cases e
 refine I.step (g':=s.gens) (d':=s.drawn) (ch:=[it]) (fun b hb=>?_) (fun b o _ _ hc e _=>k b o (fun z=>hc (by simp[z])) e) (fun b o _ _ hc e _=>⟨o.slots,k b o (fun z=>hc (by simp[z])) e⟩) (fun _ _ _ _ n=>n)
  (fun b o hc e=>⟨o,k b o (fun z=>hc (by simp[z])) e⟩) (fun _ _ e=>e) (fun _ _ _ e=>e) (fun b ps e=>⟨#[],by rw[e];simp⟩) (fun m hm=>?_) (fun b u e=>?_) I.bare
 .have e:b=it:=by simpa using hb
  subst e;exact⟨h1,hL,h2,h3⟩
 .obtain⟨o,es,ep,ho,r⟩:=hm;exact⟨o,es,ep,k _ o (Ne.symm hL) ho,r⟩
 .refine(I.hok b u e).stay (fun c v hc q=>k c v ?_ q) (fun _ q=>q) fun _ _ q=>q;rcases hc with z|z
  .rw[z];exact GI b u e
  .exact GI c _ z
theorem Inv.tok(I:Inv X Zt σ H s)(t:Nat):Inv X Zt σ H {s with toks:=t}:=I.un (h':=s.heap) (t':=t) Un.refl I.hok
theorem Inv.kept{t':Nat}(I:Inv X Zt σ H s)(k:∀b u,s.heap.get? b=some u->h'.get? b=some u):Inv X Zt σ H {s with heap:=h',toks:=t'}:=I.un (Un.kept k) (I.hok.kept k)
theorem Inv.laid{a:Addr}{o:HO}{t':Nat}(I:Inv X Zt σ H s)(k:∀b u,s.heap.get? b=some u->h'.get? b=some u)(hp:s.heap.objs.size<=a)(new:ObjOk X.prog X.w (upd H a o) h' a o):
  Inv X Zt σ (upd H a o) {s with heap:=h',toks:=t'}:=I.un (Un.laid k hp (I.hok.fresh hp)) (I.hok.laid k hp new)
theorem Inv.write{x e:Addr}{o:HO}{t':Nat}(I:Inv X Zt σ H s)(mu:Mut (H x))(he:e=x\/H e=some (.own x))(k:∀b u,b≠e->s.heap.get? b=some u->h'.get? b=some u)(qV:∃u,h'.get? e=some u)
  (new:ObjOk X.prog X.w (upd H x o) h' x o):Inv X Zt σ (upd H x o) {s with heap:=h',toks:=t'}:=I.un (Un.write mu he k qV) (I.hok.write mu he k qV new)
theorem Inv.pins_of{l8:List (Addr×Obj)}(I:Inv X Zt σ H s)(h:∀p∈l8,s.heap.get? p.1=some p.2/\H p.1=none/\p.1≠X.env.locals/\p.1∉X.fs/\∀v,p.2.data≠.cell v):Inv X l8 σ H s:=
 ⟨I.ok,I.os,I.bare,I.base,I.loc,I.cell,I.free,I.freeC,fun p hp=>(zA6.mp hp).elim (fun z=>I.pin p (List.mem_append_left _ z)) (h p),I.hok,I.len⟩
theorem rF{N:List Str}(hN:N.Nodup){i j:Nat}{x:Str}(a:N[i]?=some x)(b:N[j]?=some x):i=j:=by
 obtain⟨h1,e1⟩:=zAa.mp a;obtain⟨h2,e2⟩:=zAa.mp b;exact(List.getElem_inj hN).mp (e1.trans e2.symm)
theorem o8{M:Model}{A:Around}{E:Value->Shared->Prop}{i:Nat}{x:Str}{v:V}{u:Value}{Q:Unit->Shared->Prop}(I:Inv X Zt σ H s)(hN:X.N.Nodup)(hi:X.N[i]?=some x)(hx:Loc X.env.scope x)(r:RelV v u)
  (h:∀s',Inv X Zt (σ.set i (some v)) H s'->(∃a,Heap.SameBut a s.heap s'.heap/\(a=X.env.locals\/X.env.cells.lookup x=some a))->Q () s') (hf:X.fn x=true\/X.env.scope.names.lookup x=some .local:=by first|exact .inl rfl|exact .inr rfl|assumption):wpAny M A (storeName X.env x u) Q E s:=by
 obtain⟨m,hn,hl⟩:=id I.loc;have AX:(X.env.scope.kind==.class||(X.env.scope.kind==.module&&X.env.locals != X.env.globals))=false:=by rw[I.ok.kind];rfl
 have sR:i<σ.length:=by rw[I.len];exact(zAa.mp hi).1
 have cne:=I.cne
 have tracked:∀{a:Addr} {h':Heap},(∃o,s.heap.get? a=some o/\H a=none)->Heap.SameBut a s.heap h'->HOk X.prog X.w H h':=fun{a h'} ha hs b ob e=>by
  obtain⟨_,_,hfree⟩:=ha;refine(I.hok b ob e).stay (fun c w' hc q=>(hs.2 c ?_).trans q) (fun _ q=>q) fun _ _ q=>q;rintro rfl;rcases hc with rfl|hc
  .rw[hfree]at e;cases e
  .rw[hfree]at hc;cases hc
 rcases hx with hk|hk
 .refine wpAny_storeName_local hk hn (fun h' K9 hs=>?_) AX;obtain⟨oL,_,_,La,_⟩:=id hn;refine h _ ⟨I.ok,I.os,I.bare,⟨fun b o e n hb hx=>?_,fun b o e n hb hx=>?_,I.base.free,fun b o e hx=>?_,I.base.tups,I.base.frzs,I.base.tbls⟩,⟨_,K9,fun j y v' e1 e2 e3=>?_⟩,fun y c e=>?_,I.free,I.freeC,fun p hp=>?_,tracked ⟨oL,La,I.free⟩ hs,by simpa using I.len⟩ ⟨_,hs,.inl rfl⟩
  .exact(hs.2 b (zB7 (zB4 (zB0 e) I.ok.above))).trans (I.base.keep b o e n hb hx)
  .obtain⟨sl,e1⟩:=I.base.slot b o e n hb hx;exact⟨sl,(hs.2 b (zB7 (zB4 (zB0 e) I.ok.above))).trans e1⟩
  .obtain⟨o',e1⟩:=I.base.there b o e hx;exact⟨o',(hs.2 b (zB7 (zB4 (zB0 e) I.ok.above))).trans e1⟩
  .by_cases hj:j=i
   .subst hj;rw[hi]at e1;cases e1;rw[List.getElem?_set_self sR]at e2;cases e2;exact⟨u,r,.inl ⟨hk,by simp⟩⟩
   .rw[List.getElem?_set_ne (Ne.symm hj)]at e2;obtain⟨u',r',q⟩:=hl j y v' e1 e2 e3;refine⟨u',r',?_⟩;rcases q with⟨k,e⟩|⟨k,c,e,z⟩
    .refine .inl ⟨k,?_⟩;have:y≠x:=fun e=>hj (rF hN e1 (e▸hi));simp[this,e]
    .exact .inr ⟨k,c,e,z.sameBut hs (cne y c e)⟩
  .obtain⟨w',z⟩:=I.cell y c e;exact⟨w',z.sameBut hs (cne y c e)⟩
  .obtain⟨e,n,ne,nf,d⟩:=I.pin p hp;exact⟨(hs.2 p.1 ne).trans e,n,ne,nf,d⟩
 .have AY:X.fn x=true:=by
   rcases hf with z|z
   .exact z
   .rw[z]at hk;cases hk
  obtain⟨c,hc⟩:=I.ok.has x (.inl hk);obtain⟨w',z⟩:=I.cell x c hc;refine wpAny_storeName_cell I.ok.kind hk hc z (fun h' ay hs=>?_);obtain⟨oc,GL,AZ⟩:=id z;refine h {s with heap:=h'} ⟨I.ok,I.os,I.bare,⟨fun b o e n hb hx=>?_,fun b o e n hb hx=>?_,I.base.free,fun b o e hx=>?_,I.base.tups,I.base.frzs,I.base.tbls⟩,⟨m,hn.sameBut hs (Ne.symm (cne x c hc)),fun j y v' e1 e2 e3=>?_⟩,fun y c' e=>?_,I.free,I.freeC,fun p hp=>?_,tracked ⟨oc,GL,I.freeC x c hc⟩ hs,by simpa using I.len⟩ ⟨c,hs,.inr hc⟩
  .exact(hs.2 b (zB7 (zB4 (zB0 e) (I.ok.cab x c AY hc)))).trans (I.base.keep b o e n hb hx)
  .obtain⟨sl,e1⟩:=I.base.slot b o e n hb hx;exact⟨sl,(hs.2 b (zB7 (zB4 (zB0 e) (I.ok.cab x c AY hc)))).trans e1⟩
  .obtain⟨o',e1⟩:=I.base.there b o e hx;exact⟨o',(hs.2 b (zB7 (zB4 (zB0 e) (I.ok.cab x c AY hc)))).trans e1⟩
  .by_cases hj:j=i
   .subst hj;rw[hi]at e1;cases e1;rw[List.getElem?_set_self sR]at e2;cases e2;exact⟨u,r,.inr ⟨.inl hk,c,hc,ay⟩⟩
   .rw[List.getElem?_set_ne (Ne.symm hj)]at e2;obtain⟨u',r',q⟩:=hl j y v' e1 e2 e3;refine⟨u',r',?_⟩;rcases q with q|⟨k,c',e,z'⟩
    .exact .inl q
    .refine .inr ⟨k,c',e,z'.sameBut hs ?_⟩;rintro rfl;exact hj (rF hN e1 (I.ok.inj _ _ _ e hc▸hi))
  .by_cases GN:c'=c
   .subst GN;exact⟨_,ay⟩
   .obtain⟨w2,z2⟩:=I.cell y c' e;exact⟨w2,z2.sameBut hs GN⟩
  .obtain⟨e,n,ne,nf,d⟩:=I.pin p hp;refine⟨(hs.2 p.1 ?_).trans e,n,ne,nf,d⟩;intro q;rw[q,GL]at e;have q':oc=p.2:=zAl e;exact d w' (by rw[<-q'];exact AZ)
theorem gJ{M:Model}{A:Around}{E:Value->Shared->Prop}{i:Nat}{x:Str}{v:V}{u:Value}{Q:Unit->Shared->Prop}(I:Inv X Zt σ H s)(hN:X.N.Nodup)(hi:X.N[i]?=some x)(hx:Loc X.env.scope x)(r:RelV v u)
  (h:∀s',Inv X Zt (σ.set i (some v)) H s'->Q () s') (hf:X.fn x=true\/X.env.scope.names.lookup x=some .local:=by first|exact .inl rfl|exact .inr rfl|assumption):wpAny M A (storeName X.env x u) Q E s:=
 o8 I hN hi hx r (fun s' I' _=>h s' I') hf
theorem Inv.call'{s':Shared}{ch:List Addr}(I:Inv X Zt σ H s)(ho:s'.os=s.os)(u:Un (frs X.stack) ch H H' s.heap s'.heap)(hok:HOk X.prog X.w H' s'.heap)(hg:AllBare s'.gens)
  (kc:∀b∈ch,(b∈X.ex\/X.s₀.heap.objs.size<=b)/\b≠X.env.locals/\(∀x c,X.env.cells.lookup x=some c->c≠b)/\∀p∈X.pn++Zt,p.1≠b):Inv X Zt σ H' s':=by
 obtain⟨h',g',d',t',o'⟩:=s';have e:o'=s.os:=ho;subst e;exact I.call (g':=g') (t':=t') (d':=d') u hok hg kc
end
abbrev XK:=Value->Option Addr->Hp->Prop
abbrev St:=List (Option V)
abbrev VK:=V->Hp->Prop
abbrev TE:=St->Hp->VK->Prop
abbrev TT:=St->Hp->(Bool->Hp->Prop)->Prop
abbrev TA:=St->Hp->(List V->Hp->Prop)->Prop
structure Ends where
 nx:St->Hp->Prop
 rt:VK
 bk:St->Hp->Prop:=fun _ _=>False
 ct:St->Hp->Prop:=fun _ _=>False
abbrev TS:=Ends->St->Hp->Prop
def EP(X:Cx)(Zt:List (Addr×Obj))(σ:St)(Q:VK)(u:Value)(s':Shared):Prop:=∃v H',Inv X Zt σ H' s'/\RelV v u/\Q v H'
def TP(X:Cx)(Zt:List (Addr×Obj))(σ:St)(Q:Bool->Hp->Prop)(b:Bool)(s':Shared):Prop:=∃H',Inv X Zt σ H' s'/\Q b H'
def AP(X:Cx)(Zt:List (Addr×Obj))(σ:St)(Q:List V->Hp->Prop)(us:List Value)(s':Shared):Prop:=∃vs H',Inv X Zt σ H' s'/\Vals vs us/\Q vs H'
def SP(X:Cx)(Zt:List (Addr×Obj))(D:Ends)(f:Flow)(s':Shared):Prop:=
 match f with
 |.next=>∃ai H',Inv X Zt ai H' s'/\D.nx ai H'
 |.brk=>∃ai H',Inv X Zt ai H' s'/\D.bk ai H'
 |.cont=>∃ai H',Inv X Zt ai H' s'/\D.ct ai H'
 |.ret u=>∃v ai H',Inv X Zt ai H' s'/\RelV v u/\D.rt v H'
def PE(X:Cx)(e:Expr)(t:TE):Prop:=
 ∀(Zt:List (Addr×Obj)) (s:Shared) (σ:St) (H:Hp) (Q:VK),Inv X Zt σ H s->t σ H Q->wpAny (model X.prog X.w) X.A (eval e X.env) (EP X Zt σ Q) X.xe s
def PT(X:Cx)(e:Expr)(t:TT):Prop:=
 ∀(Zt:List (Addr×Obj)) (s:Shared) (σ:St) (H:Hp) (Q:Bool->Hp->Prop),Inv X Zt σ H s->t σ H Q->wpAny (model X.prog X.w) X.A (isTrue e X.env (eval e X.env)) (TP X Zt σ Q) X.xe s
def PW(X:Cx)(e:Expr)(t:TT):Prop:=
 ∀(whole:Sem Value) (Zt:List (Addr×Obj)) (s:Shared) (σ:St) (H:Hp) (Q:Bool->Hp->Prop),Inv X Zt σ H s->t σ H Q->wpAny (model X.prog X.w) X.A (isTrue e X.env whole) (TP X Zt σ Q) X.xe s
theorem PW.pt{X:Cx}{e:Expr}{t:TT}(h:PW X e t):PT X e t:=h _
def PA(X:Cx)(es:List Expr)(t:TA):Prop:=
 ∀(pos:Pos) (Zt:List (Addr×Obj)) (s:Shared) (σ:St) (H:Hp) (Q:List V->Hp->Prop),Inv X Zt σ H s->t σ H Q->wpAny (model X.prog X.w) X.A (spliced (backTo pos (starEach es X.env))) (AP X Zt σ Q) X.xe s
def PS(X:Cx)(st:Stmt)(t:TS):Prop:=
 ∀(Zt:List (Addr×Obj)) (s:Shared) (σ:St) (H:Hp) (D:Ends),Inv X Zt σ H s->t D σ H->wpAny (model X.prog X.w) X.A (exec st X.env) (SP X Zt D) X.xe s
def PSs(X:Cx)(st:List Stmt)(t:TS):Prop:=
 ∀(Zt:List (Addr×Obj)) (s:Shared) (σ:St) (H:Hp) (D:Ends),Inv X Zt σ H s->t D σ H->wpAny (model X.prog X.w) X.A (execs st X.env) (SP X Zt D) X.xe s
theorem thn{α:Type}{t:Sem α}{Q Q':α->Shared->Prop}{M:Model}{A:Around}{E:Value->Shared->Prop}{s:Shared}(h:wpAny M A t Q E s)(hQ:∀a s,Q a s->Q' a s):wpAny M A t Q' E s:=wpAny_mono h hQ fun _ _ x=>x
section
variable{X:Cx}
theorem bin{a b:Expr}{ta tb:TE}(ha:PE X a ta)(hb:PE X b tb){Zt:List (Addr×Obj)}{s:Shared}{σ:St}{H:Hp}{R:V->V->Hp->Prop}(I:Inv X Zt σ H s)(h:ta σ H fun x H1=>tb σ H1 fun y H2=>R x y H2)
  {α:Type} {Q:α->Shared->Prop} {f:Value->Value->Sem α}
  (hf:∀v u s2 x y H2,Inv X Zt σ H2 s2->RelV x v->RelV y u->R x y H2->wpAny (model X.prog X.w) X.A (f v u) Q X.xe s2):
  wpAny (model X.prog X.w) X.A (eval a X.env) (fun v s₁=>wpAny (model X.prog X.w) X.A (eval b X.env) (fun u s₂=>wpAny (model X.prog X.w) X.A (f v u) Q X.xe s₂) X.xe s₁) X.xe s:=by
 refine thn (ha Zt s σ H _ I h) fun v s1 ⟨x,H1,I1,r1,q1⟩=>?_;refine thn (hb Zt s1 σ H1 _ I1 q1) fun u s2 ⟨y,H2,I2,r2,q2⟩=>?_;exact hf v u s2 x y H2 I2 r1 r2 q2
inductive TVarI(i:Nat)(σ:St)(H:Hp)(Q:VK):Prop
 |mk:∀v,(σ[i]?=some (some v))->(Q v H)->TVarI i σ H Q
def um(i:Nat):TE:=fun σ H Q=>TVarI i σ H Q
def tC(v:V):TE:=fun _ H Q=>Q v H
theorem Ff{i:Nat}{x:Str}{pos:Pos}(hN:X.N[i]?=some x)(hv:Vis X.env.scope x)(hd:(x==("__debug__":Str))=false:=by decide)(hZ:(x==("__classdict__":Str))=false:=by decide):PE X (.Name x pos) (um i):=by
 intro Zt s σ H Q I h;obtain⟨v,e,h⟩:=h;obtain⟨m,hn,hl⟩:=I.loc;obtain⟨u,r,l⟩:=hl i x v hN e hv
 have fin:EP X Zt σ Q u s:=⟨v,H,I,r,h⟩
 rcases l with⟨hk,hm⟩|⟨hk,c,hc,hcell⟩
 .exact wpAny_Name (wpAny_loadName_local I.ok.kind hk hn hm fin) hd
 .rcases hk with hk|hk
  .exact wpAny_Name (wpAny_loadName_cell I.ok.kind hk hc hcell fin) hd
  .exact wpAny_Name (wpAny_loadName_free I.ok.kind hk hc hcell fin hZ) hd
theorem aC{i j pos}:PE X (.Constant (.int i) j pos) (tC (.int i)):=fun _ _ _ H _ I h=>wpAny_Constant_int ⟨.int i,H,I.tok _,⟨_,rfl⟩,h⟩
theorem iI{b j pos}:PE X (.Constant (.bool b) j pos) (tC (.bl b)):=fun _ _ _ H _ I h=>Constant_bool ⟨.bl b,H,I,rfl,h⟩
theorem pO{j pos}:PE X (.Constant .none j pos) (tC .non):=fun _ _ _ H _ I h=>Constant_none ⟨.non,H,I,rfl,h⟩
def Gl(X:Cx)(x:Str):Prop:=X.env.kindOf x=some .globalImplicit
theorem v8{E:Value->Shared->Prop}{Zt:List (Addr×Obj)}{s:Shared}{σ:St}{H:Hp}{x:Str}{u:Value}{pos:Pos}{Q:Value->Shared->Prop}(I:Inv X Zt σ H s)(hg:Gl X x)(hm:X.mg x=some u)(h:Q u s)
  (hd:(x==("__debug__":Str))=false:=by decide):wpAny (model X.prog X.w) X.A (eval (.Name x pos) X.env) Q E s:=
 Calls.Name_function_global I.ok.kind hg (Calls.loadGlobal_global (by rw[I.ok.glob];exact I.mod.glob.keeps I.bk) hm h) hd
theorem iM{E:Value->Shared->Prop}{Zt:List (Addr×Obj)}{s:Shared}{σ:St}{H:Hp}{x:Str}{u:Value}{pos:Pos}{Q:Value->Shared->Prop}(I:Inv X Zt σ H s)(hg:Gl X x)(hm:X.mg x=none)(hv:bootBuiltins x=some u)(h:Q u s)
  (hn:x≠"__name__":=by decide) (hd:(x==("__debug__":Str))=false:=by decide):wpAny (model X.prog X.w) X.A (eval (.Name x pos) X.env) Q E s:=by
 obtain⟨mb,h1,h2⟩:=I.mod.blt;exact Calls.Name_function_global I.ok.kind hg (Calls.loadGlobal_builtin (by rw[I.ok.glob];exact I.mod.glob.keeps I.bk) hm (by rw[I.ok.blt];exact h1.keeps I.bk) ((h2 x hn).trans hv) h) hd
theorem bY{x:Str}{v:V}{u:Value}{pos:Pos}(hg:Gl X x)(hm:X.mg x=some u)(r:RelV v u)(hd:(x==("__debug__":Str))=false:=by decide):PE X (.Name x pos) (tC v):=
 fun _ _ _ H _ I h=>v8 I hg hm ⟨v,H,I,r,h⟩ hd
theorem pP{x:Str}{v:V}{u:Value}{pos:Pos}(hg:Gl X x)(hm:X.mg x=none)(hv:bootBuiltins x=some u)(r:RelV v u)(hn:x≠"__name__":=by decide)(hd:(x==("__debug__":Str))=false:=by decide):PE X (.Name x pos) (tC v):=
 fun _ _ _ H _ I h=>iM I hg hm hv ⟨v,H,I,r,h⟩ hn hd
variable{a b:Expr}{ta tb:TE}{pos:Pos}
def PC(X:Cx)(op:CmpOp)(a b:Expr)(t:TE):Prop:=
 ∀(Zt:List (Addr×Obj)) (s:Shared) (σ:St) (H:Hp) (Q:VK),Inv X Zt σ H s->t σ H Q->
  wpAny (model X.prog X.w) X.A (eval a X.env) (fun v s₁=>wpAny (model X.prog X.w) X.A (eval b X.env) (fun u s₂=>wpAny (model X.prog X.w) X.A (compareOp op v u) (EP X Zt σ Q) X.xe s₂) X.xe s₁) X.xe s
def tB(t:TE):TT:=fun σ H Q=>t σ H fun x H1=>∃c,x=.bl c/\Q c H1
theorem Jl{op:CmpOp}{t:TE}(h:PC X op a b t)(h1:behindInMarks op b=false:=by first|exact nobehind _ Zx Zx|rfl):PT X (.Compare a [op] [b] pos) (tB t):=by
 intro Zt s σ H Q I hw;refine wpAny_isTrue_Compare1 (thn (h Zt s σ H _ I hw) fun v s1 h1=>thn h1 fun u s2 h2=>thn h2 fun c s3 ⟨x,H1,I1,r1,q1⟩=>?_) h1;obtain⟨d,rfl,q⟩:=q1;cases r1;exact wpAny_truthy_bool ⟨H1,I1,q⟩
theorem di{e:Expr}{t:TE}(h:PE X e t)(he:∀whole,isTrue e X.env whole=(do let v <-whole;standAt e.pos;holding [v] (truthy v)):=by intro _;rfl):PT X e (tB t):=by
 intro Zt s σ H Q I hw;refine isTrue_plain (thn (h Zt s σ H _ I hw) fun v s1 ⟨x,H1,I1,r1,q1⟩=>?_) (he _);obtain⟨d,rfl,q⟩:=q1;cases r1;exact wpAny_truthy_bool ⟨H1,I1,q⟩
variable{tA zd:TT}{rest:List Expr}
def Jm(t u:TT):TT:=fun σ H Q=>t σ H fun c H1=>if c=true then u σ H1 Q else Q false H1
def tOr(t u:TT):TT:=fun σ H Q=>t σ H fun c H1=>if c=true then Q true H1 else u σ H1 Q
def Jo(t:TT):TT:=fun σ H Q=>t σ H fun c H1=>Q (!c) H1
theorem kW(ha:PT X a tA):PW X (.BoolOp .And [a] pos) tA:=by
 intro wh Zt s σ H Q I h;refine isTrue_and (thn (ha Zt s σ H Q I h) fun c s1 e=>?_)
 cases c with
 |true=>exact isTrue_and_nil e
 |false=>exact e
theorem uo(ha:PT X a tA):PW X (.BoolOp .Or [a] pos) tA:=by
 intro wh Zt s σ H Q I h;refine isTrue_or (thn (ha Zt s σ H Q I h) fun c s1 e=>?_)
 cases c with
 |false=>exact isTrue_or_nil e
 |true=>exact e
theorem pQ(ha:PT X a tA)(hb:PW X (.BoolOp .And (b::rest) pos) zd):PW X (.BoolOp .And (a::b::rest) pos) (Jm tA zd):=by
 intro wh Zt s σ H Q I h;refine isTrue_and (thn (ha Zt s σ H _ I h) fun c s1 ⟨H1,I1,q1⟩=>?_)
 cases c with
 |true=>exact hb wh Zt s1 σ H1 Q I1 q1
 |false=>exact⟨H1,I1,q1⟩
theorem rG(ha:PT X a tA)(hb:PW X (.BoolOp .Or (b::rest) pos) zd):PW X (.BoolOp .Or (a::b::rest) pos) (tOr tA zd):=by
 intro wh Zt s σ H Q I h;refine isTrue_or (thn (ha Zt s σ H _ I h) fun c s1 ⟨H1,I1,q1⟩=>?_)
 cases c with
 |true=>exact⟨H1,I1,q1⟩
 |false=>exact hb wh Zt s1 σ H1 Q I1 q1
theorem cu(ha:PT X a tA):PT X (.UnaryOp .Not a pos) (Jo tA):=by
 intro Zt s σ H Q I h;exact isTrue_not (ha Zt s σ H (fun c H1=>Q (!c) H1) I h)
def Eb(ta tb:TE):TE:=fun σ H Q=>ta σ H fun x H1=>∃c,x=.bl c/\if c=true then tb σ H1 Q else Q (.bl false) H1
def Jp(ta tb:TE):TE:=fun σ H Q=>ta σ H fun x H1=>∃c,x=.bl c/\if c=true then Q (.bl true) H1 else tb σ H1 Q
def GJ(ta:TE):TE:=fun σ H Q=>ta σ H fun x H1=>∃c,x=.bl c/\Q (.bl (!c)) H1
theorem dH{op}{t:TE}(h:PE X a t):PE X (.BoolOp op [a] pos) t:=fun Zt s σ H Q I hw=>BoolOp_one (h Zt s σ H Q I hw)
theorem cG(ha:PE X a ta)(hb:PE X (.BoolOp .And (b::rest) pos) tb):PE X (.BoolOp .And (a::b::rest) pos) (Eb ta tb):=by
 intro Zt s σ H Q I h;refine BoolOp_and (thn (ha Zt s σ H _ I h) fun v s1 ⟨x,H1,I1,r1,q1⟩=>?_);obtain⟨c,rfl,q1⟩:=q1;cases r1;refine wpAny_truthy_bool ?_
 cases c with
 |true=>exact hb Zt s1 σ H1 Q I1 q1
 |false=>exact⟨.bl false,H1,I1,rfl,q1⟩
theorem Ec(ha:PE X a ta)(hb:PE X (.BoolOp .Or (b::rest) pos) tb):PE X (.BoolOp .Or (a::b::rest) pos) (Jp ta tb):=by
 intro Zt s σ H Q I h;refine BoolOp_or (thn (ha Zt s σ H _ I h) fun v s1 ⟨x,H1,I1,r1,q1⟩=>?_);obtain⟨c,rfl,q1⟩:=q1;cases r1;refine wpAny_truthy_bool ?_
 cases c with
 |false=>exact hb Zt s1 σ H1 Q I1 q1
 |true=>exact⟨.bl true,H1,I1,rfl,q1⟩
theorem Fg(ha:PE X a ta):PE X (.UnaryOp .Not a pos) (GJ ta):=by
 intro Zt s σ H Q I h;refine UnaryOp_ (thn (ha Zt s σ H _ I h) fun v s1 ⟨x,H1,I1,r1,q1⟩=>?_);obtain⟨c,rfl,q1⟩:=q1;cases r1;exact not_of (wpAny_truthy_bool ⟨.bl (!c),H1,I1,rfl,q1⟩)
def tIf(t:TT)(ta tb:TE):TE:=fun σ H Q=>t σ H fun c H1=>if c=true then ta σ H1 Q else tb σ H1 Q
theorem rH{c:Expr}(hc:PT X c tA)(ha:PE X a ta)(hb:PE X b tb):PE X (.IfExp c a b pos) (tIf tA ta tb):=by
 intro Zt s σ H Q I h;refine wpAny_IfExp (thn (hc Zt s σ H _ I h) fun d s1 ⟨H1,I1,q1⟩=>?_)
 cases d with
 |true=>exact ha Zt s1 σ H1 Q I1 q1
 |false=>exact hb Zt s1 σ H1 Q I1 q1
end
def SqL(K:Frag)(H:Hp)(a:Addr)(xs:List V):Prop:=
 Rd H a (.lst xs) \/
  ∃(o:Obj) (Zr:Array Value) (n:Nat),K.lookup a=some o/\o.cls=.type "list"/\o.dict=none/\o.data=.seq Zr n/\Zr.size<=sizeLine/\Vals xs Zr.toList
def SqT(K:Frag)(H:Hp)(a:Addr)(xs:List V):Prop:=
 Rd H a (.tup xs) \/
  ∃(o:Obj) (Zr:Array Value) (n:Nat),K.lookup a=some o/\o.cls=.type "tuple"/\o.data=.seq Zr n/\Zr.size<=sizeLine/\Vals xs Zr.toList
def Jq:Value->Option V
 |.none=>some .non
 |.bool b=>some (.bl b)
 |.int i _=>some (.int i)
 |.str x _=>some (.str x)
 |.bytes b _=>some (.byt b)
 |.float b _=>some (.flt b)
 |.ref a=>some (.ref a)
 |.type n=>some (.ty n)
 |_=>none
theorem RelV.abs{x:V}{u:Value}(r:RelV x u):Jq u=some x:=by
 cases x with
 |non=>cases r;rfl
 |bl _=>cases r;rfl
 |int _=>obtain⟨t,rfl⟩:=r;rfl
 |str _=>obtain⟨t,rfl⟩:=r;rfl
 |byt _=>obtain⟨t,rfl⟩:=r;rfl
 |flt _=>obtain⟨t,rfl⟩:=r;rfl
 |ref _=>cases r;rfl
 |ty _=>cases r;rfl
theorem RelV.inj{x y:V}{u:Value}(r:RelV x u)(q:RelV y u):x=y:=zAl (r.abs.symm.trans q.abs)
theorem Vals.inj:∀{xs ys:List V} {us:List Value},Vals xs us->Vals ys us->xs=ys
 |_,_,_,.nil,.nil=>rfl
 |_,_,_,.cons r t,.cons r' t'=>by rw[r.inj r',Vals.inj t t']
section
variable{X:Cx}{Zt:List (Addr×Obj)}{σ:St}{H:Hp}{s:Shared}{a:Addr}{xs ys:List V}
theorem SqL.of{K:Frag}(h:H a=some (.lst xs)):SqL K H a xs:=.inl (.inl h)
theorem SqT.of{K:Frag}(h:H a=some (.tup xs)):SqT K H a xs:=.inl (.inl h)
theorem Inv.list(I:Inv X Zt σ H s)(h:SqL X.K H a xs):∃Zr:List Value,Vals xs Zr/\PlainL s.heap a Zr.toArray/\xs.length<=sizeLine:=by
 rcases h with h|⟨o,Zr,n,hk,hc,hd,hs,hz,r⟩
 .obtain⟨z,Zr,n,r,e⟩:=h.ok I.hok;exact⟨Zr,r,⟨_,n,e,rfl,rfl,rfl⟩,z⟩
 .refine⟨Zr.toList,r,⟨o,n,I.kIn a o hk,hc,hd,by simpa using hs⟩,?_⟩;have e:=r.length;simp only[Array.length_toList]at e;lia
theorem Inv.tuple(I:Inv X Zt σ H s)(h:SqT X.K H a xs):∃Zr:List Value,Vals xs Zr/\IsTup s.heap a Zr.toArray/\xs.length<=sizeLine:=by
 rcases h with h|⟨o,Zr,n,hk,hc,hs,hz,r⟩
 .obtain⟨z,Zr,r,p⟩:=h.ok I.hok;exact⟨Zr,r,p,z⟩
 .refine⟨Zr.toList,r,⟨o,I.kIn a o hk,hc,n,by simpa using hs⟩,?_⟩;have e:=r.length;simp only[Array.length_toList]at e;lia
theorem Inv.list_inj(I:Inv X Zt σ H s)(h:SqL X.K H a xs)(h':SqL X.K H a ys):xs=ys:=by
 obtain⟨Zr,r,⟨o,n,e,_,_,d⟩,_⟩:=I.list h;obtain⟨its',r',⟨o',n',e',_,_,d'⟩,_⟩:=I.list h';rw[e]at e';cases e';rw[d]at d';injection d' with d1 _;have:Zr=its':=by simpa using congrArg Array.toList d1
 subst this;exact r.inj r'
theorem Inv.tuple_inj(I:Inv X Zt σ H s)(h:SqT X.K H a xs)(h':SqT X.K H a ys):xs=ys:=by
 obtain⟨Zr,r,⟨o,e,_,n,d⟩,_⟩:=I.tuple h;obtain⟨its',r',⟨o',e',_,n',d'⟩,_⟩:=I.tuple h';rw[e]at e';cases e';rw[d]at d';injection d' with d1 _;have:Zr=its':=by simpa using congrArg Array.toList d1
 subst this;exact r.inj r'
end
abbrev Cx.wish(X:Cx)(E:Value->Shared->Prop):Cx:={X with xe:=E}
abbrev Cx.nox(X:Cx):Cx:=X.wish fun _ _=>False
theorem Cx.Ok.wish{X:Cx}(ok:X.Ok)(E:Value->Shared->Prop):(X.wish E).Ok:=
 ⟨ok.mod,ok.kind,ok.glob,ok.blt,ok.above,ok.inj,ok.has,ok.cab,ok.hd,ok.frames,ok.stk,ok.exf,ok.bs,ok.bsz,ok.noex,ok.exfs,ok.funs,ok.frf⟩
theorem Cx.Ok.unwish{X:Cx}{E:Value->Shared->Prop}(ok:(X.wish E).Ok):X.Ok:=
 ⟨ok.mod,ok.kind,ok.glob,ok.blt,ok.above,ok.inj,ok.has,ok.cab,ok.hd,ok.frames,ok.stk,ok.exf,ok.bs,ok.bsz,ok.noex,ok.exfs,ok.funs,ok.frf⟩
section
variable{X:Cx}{Zt:List (Addr×Obj)}{σ:St}{H:Hp}{s:Shared}{E:Value->Shared->Prop}
theorem Inv.wish(I:Inv X Zt σ H s)(E:Value->Shared->Prop):Inv (X.wish E) Zt σ H s:=⟨I.ok.wish E,I.os,I.bare,I.base,I.loc,I.cell,I.free,I.freeC,I.pin,I.hok,I.len⟩
theorem Inv.unwish(I:Inv (X.wish E) Zt σ H s):Inv X Zt σ H s:=⟨I.ok.unwish,I.os,I.bare,I.base,I.loc,I.cell,I.free,I.freeC,I.pin,I.hok,I.len⟩
theorem SP.unwish{D:Ends}{f:Flow}{s':Shared}(h:SP (X.wish E) Zt D f s'):SP X Zt D f s':=by
 cases f with
 |next=>obtain⟨ai,H',I,q⟩:=h;exact⟨ai,H',I.unwish,q⟩
 |brk=>obtain⟨ai,H',I,q⟩:=h;exact⟨ai,H',I.unwish,q⟩
 |cont=>obtain⟨ai,H',I,q⟩:=h;exact⟨ai,H',I.unwish,q⟩
 |ret u=>obtain⟨v,ai,H',I,r,q⟩:=h;exact⟨v,ai,H',I.unwish,r,q⟩
theorem PSs.nox{st:List Stmt}{t:TS}(h:PSs X.nox st t):PSs X st t:=fun Zt s σ H D I hw=>
 wpAny_mono (h Zt s σ H D (I.wish _) hw) (fun _ _ q=>q.unwish) fun _ _ z=>False.elim z
end
section
variable{X:Cx}{st:Stmt}{rest:List Stmt}{t u:TS}{e:Expr}{te:TE}{pos:Pos}
def Ed:TS:=fun D σ H=>D.nx σ H
def BJ(t u:TS):TS:=fun D σ H=>t {D with nx:=u D} σ H
theorem aZ:PSs X [] Ed:=fun _ _ σ H _ I h=>wpAny_execs_nil ⟨σ,H,I,h⟩
theorem aB(h1:PS X st t)(h2:PSs X rest u):PSs X (st::rest) (BJ t u):=by
 intro Zt s σ H D I h;refine wpAny_execs_cons (thn (h1 Zt s σ H {D with nx:=u D} I h) fun f s1 q=>?_)
 cases f with
 |next=>
  obtain⟨ai,H',I',q⟩:=q;exact h2 Zt s1 ai H' D I' q
 |ret v=>exact q
 |brk=>exact q
 |cont=>exact q
theorem aF(h1:PS X st t):PSs X [st] t:=by
 intro Zt s σ H D I h;refine wpAny_execs_cons (thn (h1 Zt s σ H D I h) fun f s1 q=>?_)
 cases f with
 |next=>exact wpAny_execs_nil q
 |ret v=>exact q
 |brk=>exact q
 |cont=>exact q
theorem Inv.quiet{Zt:List (Addr×Obj)}{σ:St}{H:Hp}{s:Shared}(I:Inv X Zt σ H s):interactive X.env=false:=by simp[interactive,I.ok.kind]
def GK(te:TE):TS:=fun D σ H=>te σ H fun _ H1=>D.nx σ H1
theorem cW(he:PE X e te)(hs:swapsWith e none pos.line X.env=pure false:=by rfl):PS X (.Expr e pos) (GK te):=by
 intro Zt s σ H D I h;exact wpAny_Expr_any (thn (he Zt s σ H _ I h) fun v s1 ⟨x,H1,I1,r1,q1⟩=>⟨σ,H1,I1,q1⟩) I.quiet hs
def Fi(te:TE):TS:=fun D σ H=>te σ H D.rt
theorem aO(he:PE X e te):PS X (.Return (some e) pos) (Fi te):=by
 intro Zt s σ H D I h;exact wpAny_Return_some (thn (he Zt s σ H _ I h) fun v s1 ⟨x,H1,I1,r1,q1⟩=>⟨x,σ,H1,I1,r1,q1⟩)
def Jr(c:TT)(t u:TS):TS:=fun D σ H=>c σ H fun b H1=>if b=true then t D σ H1 else u D σ H1
theorem cj{c:Expr}{a b:List Stmt}{tc:TT}(hc:PT X c tc)(ha:PSs X a t)(hb:PSs X b u):PS X (.If c a b pos) (Jr tc t u):=by
 intro Zt s σ H D I h;refine wpAny_If (thn (hc Zt s σ H _ I h) fun d s1 ⟨H1,I1,q1⟩=>?_)
 cases d with
 |true=>exact ha Zt s1 σ H1 D I1 q1
 |false=>exact hb Zt s1 σ H1 D I1 q1
def yC:TS:=fun _ _ _=>False
theorem fZ:PS X st yC:=fun _ _ _ _ _ _ h=>h.elim
theorem o9{A0:List Stmt}:PSs X A0 yC:=fun _ _ _ _ _ _ h=>h.elim
end
abbrev TG:=V->St->Hp->(St->Hp->Prop)->Prop
abbrev TGs:=List V->St->Hp->(St->Hp->Prop)->Prop
def PG(X:Cx)(target:Expr)(t:TG):Prop:=
 ∀(Zt:List (Addr×Obj)) (s:Shared) (σ:St) (H:Hp) (v:V) (u:Value) (Q:St->Hp->Prop),Inv X Zt σ H s->RelV v u->t v σ H Q->
  wpAny (model X.prog X.w) X.A (assign target X.env u) (fun _ s'=>∃ai H',Inv X Zt ai H' s'/\Q ai H') X.xe s
def PGs(X:Cx)(ts:List Expr)(t:TGs):Prop:=
 ∀(Zt:List (Addr×Obj)) (s:Shared) (σ:St) (H:Hp) (vs:List V) (us:List Value) (Q:St->Hp->Prop),Inv X Zt σ H s->Vals vs us->t vs σ H Q->
  wpAny (model X.prog X.w) X.A (assignInOrder ((assignEach ts X.env).map (·.2)) us) (fun _ s'=>∃ai H',Inv X Zt ai H' s'/\Q ai H') X.xe s
abbrev yD:=V->V->V->Hp->(Hp->Prop)->Prop
def Fj(X:Cx)(t:yD):Prop:=
 ∀(Zt:List (Addr×Obj)) (s:Shared) (σ:St) (H:Hp) (o i v:V) (ov iv u:Value) (Q:Hp->Prop),Inv X Zt σ H s->RelV o ov->RelV i iv->RelV v u->t o i v H Q->
  wpAny (model X.prog X.w) X.A (setItem ov iv u) (fun _ s'=>∃H',Inv X Zt σ H' s'/\Q H') X.xe s
abbrev TIp:=V->V->Hp->VK->Prop
def PIp(X:Cx)(op:Operator)(t:TIp):Prop:=
 ∀(Zt:List (Addr×Obj)) (s:Shared) (σ:St) (H:Hp) (x y:V) (v u:Value) (Q:VK),Inv X Zt σ H s->RelV x v->RelV y u->t x y H Q->
  wpAny (model X.prog X.w) X.A (inplaceOp op v u) (EP X Zt σ Q) X.xe s
section
variable{X:Cx}{pos:Pos}
def bD(i:Nat):TG:=fun v σ H Q=>Q (σ.set i (some v)) H
theorem bH{i:Nat}{x:Str}(hN:X.N.Nodup)(hi:X.N[i]?=some x)(hx:Loc X.env.scope x)(hf:X.fn x=true\/X.env.scope.names.lookup x=some .local:=by first|exact .inl rfl|exact .inr rfl|assumption):PG X (.Name x pos) (bD i):=by
 intro Zt s σ H v u Q I r h;exact wpAny_assign_Name (gJ I hN hi hx r (fun s' I'=>⟨_,H,I',h⟩) hf)
def lC:TGs:=fun vs σ H Q=>vs=[]/\Q σ H
def cB(t:TG)(u:TGs):TGs:=fun vs σ H Q=>∃v r,vs=v::r/\t v σ H fun ai H'=>u r ai H' Q
theorem aW:PGs X [] lC:=by
 intro Zt s σ H vs us Q I r h;obtain⟨e,h⟩:=h;subst e;cases r;exact assignInOrder_nil ⟨σ,H,I,h⟩
theorem aq{e:Expr}{es:List Expr}{t:TG}{u:TGs}(h1:PG X e t)(h2:PGs X es u)
  (hs:(assignEach (e::es) X.env).map (·.2)=assign e X.env::(assignEach es X.env).map (·.2):=by rfl):PGs X (e::es) (cB t u):=by
 intro Zt s σ H vs us Q I r h;obtain⟨v,vr,e1,h⟩:=h;subst e1
 cases r with
 |cons r rr=>
  rw[hs];refine assignInOrder_cons (thn (h1 Zt s σ H _ _ _ I r h) fun _ s1 ⟨A2,H1,I1,q1⟩=>?_);exact h2 Zt s1 A2 H1 _ _ Q I1 rr q1
inductive GTupI(K:Frag)(n:Nat)(t:TGs)(v:V)(σ:St)(H:Hp)(Q:St->Hp->Prop):Prop
 |mk:∀a xs,(v=.ref a)->(SqT K H a xs)->(xs.length=n)->(t xs σ H Q)->GTupI K n t v σ H Q
def jY(K:Frag)(n:Nat)(t:TGs):TG:=fun v σ H Q=>GTupI K n t v σ H Q
theorem bG{es:List Expr}{k:Nat}{t:TGs}{n:Nat}(hc:X.calm=true)(h:PGs X es t)
  (hn:(assignEach es X.env).length=n:=by rfl) (fE:(assignEach es X.env).findIdx? (·.1)=none:=by rfl):PG X (.Tuple es k pos) (jY X.K n t):=by
 intro Zt s σ H v u Q I r hw;obtain⟨a,xs,e1,hq,hl,hw⟩:=hw;subst e1;cases r;obtain⟨Zr,rv,ht,hz⟩:=I.tuple hq;refine assign_Tuple_tuple (I.ok.hd hc) ht (by simp[hn,<-hl,rv.length]) fE fun h' hx=>?_;have I1:Inv X Zt σ H {s with heap:=h'}:=I.kept (t':=s.toks) fun b o e=>hx b o (Nat.ne_of_lt (Heap.lt_size e)) e;exact h Zt _ σ H xs _ Q I1 (by simpa using rv) hw
def Js(to ti:TE)(t:yD):TG:=fun v σ H Q=>to σ H fun o H1=>ti σ H1 fun i H2=>t o i v H2 fun H3=>Q σ H3
theorem uq{o i:Expr}{to ti:TE}{t:yD}(ho:PE X o to)(hi:PE X i ti)(hs:Fj X t)
  (ha:∀v,assign (.Subscript o i pos) X.env v=(do
   let ov <-holding [v] (eval o X.env)
   let iv <-holding [v,ov] (eval i X.env)
   standAt pos
   holding [v,ov,iv] (setItem ov iv v)
   release [v,ov,iv] []):=by intro _;rfl):PG X (.Subscript o i pos) (Js to ti t):=by
 intro Zt s σ H v u Q I r h;rw[ha];refine zAu (wpAny_holding (thn (ho Zt s σ H _ I h) fun ov s1 ⟨x,H1,I1,r1,q1⟩=>?_));refine zAu (wpAny_holding (thn (hi Zt s1 σ H1 _ I1 q1) fun iv s2 ⟨y,H2,I2,r2,q2⟩=>?_));refine zAu (wpAny_standAt (zAu (wpAny_holding (thn (hs Zt s2 σ H2 x y v ov iv u _ I2 r1 r2 r q2) fun _ s3 ⟨H3,I3,q3⟩=>?_))));exact wpAny_release ⟨σ,H3,I3,q3⟩
def wX(te:TE)(g:TG):TS:=fun D σ H=>te σ H fun x H1=>g x σ H1 D.nx
theorem cH{tg e:Expr}{te:TE}{g:TG}(he:PE X e te)(hg:PG X tg g)(hs:swapsWithSole [tg] e pos.line X.env=pure false:=by rfl)(hw:swappedStores [tg] e X.env=pure none:=by rfl)
  (h1:(assignEach [tg] X.env).map (·.2)=[assign tg X.env]:=by rfl):PS X (.Assign [tg] e pos) (wX te g):=by
 intro Zt s σ H D I h;refine wpAny_Assign_stores (thn (he Zt s σ H _ I h) fun v s1 ⟨x,H1,I1,r1,q1⟩=>?_) hs hw;rw[h1];exact thn (hg Zt s1 σ H1 x v _ I1 r1 q1) fun _ s2 q=>q
theorem pR{i:Nat}{x:Str}{e:Expr}{te:TE}{pos':Pos}(hN:X.N.Nodup)(hi:X.N[i]?=some x)(hx:Loc X.env.scope x)(he:PE X e te)(hs:swapsWith e (some (.Name x pos')) pos.line X.env=pure false:=by rfl)(hf:X.fn x=true\/X.env.scope.names.lookup x=some .local:=by first|exact .inl rfl|exact .inr rfl|assumption):
  PS X (.Assign [.Name x pos'] e pos) (wX te (bD i)):=by
 intro Zt s σ H D I h;refine wpAny_Assign_Name (thn (he Zt s σ H _ I h) fun v s1 ⟨y,H1,I1,r1,q1⟩=>?_) hs;exact gJ I1 hN hi hx r1 (fun s2 I2=>⟨_,H1,I2,q1⟩) hf
def Jt(i j:Nat)(ta:TA):TS:=fun D σ H=>ta σ H fun vs H1=>∃v w,vs=[v,w]/\D.nx ((σ.set i (some v)).set j (some w)) H1
theorem yE{i j:Nat}{x y:Str}{a b:Expr}{ta:TA}{px py pt:Pos}{kt k2 pt2}(hc:X.calm=true)(hN:X.N.Nodup)(hi:X.N[i]?=some x)(hj:X.N[j]?=some y)(bX:i≠j)
  (hx:X.env.scope.names.lookup x=some .local) (hy:X.env.scope.names.lookup y=some .local) (ha:PA X [a,b] ta)
  (hw:swappedStores [.Tuple [.Name x px,.Name y py] kt pt] (.Tuple [a,b] k2 pt2) X.env=pure (some [x,y]))
  (hs:swapsWithSole [.Tuple [.Name x px,.Name y py] kt pt] (.Tuple [a,b] k2 pt2) pos.line X.env=pure false:=by rfl):
  PS X (.Assign [.Tuple [.Name x px,.Name y py] kt pt] (.Tuple [a,b] k2 pt2) pos) (Jt i j ta):=by
 intro Zt s σ H D I h;rw[exec_Assign_arm];refine zAu (wpAny_standAt ?_);rw[hs];refine zAu (zAy ?_);rw[zAw Zx];refine zAu (Tuple_ (thn (ha _ Zt s σ H _ I h) fun us s1 ⟨vs,H1,I1,r1,q1⟩=>?_));obtain⟨v,w,e1,q1⟩:=q1;subst e1
 obtain⟨u1,u2,rfl,rv,eJ⟩:∃u1 u2,us=[u1,u2]/\RelV v u1/\RelV w u2:=by
  cases r1 with
  |cons p q=>
   cases q with
   |cons p' q'=>
    cases q';exact⟨_,_,rfl,p,p'⟩
 refine wpAny_newObj_type ?_ (by show 2<=sizeLine;decide);have I2:Inv X Zt σ H1 {s1 with heap:=s1.heap.push {cls:=.type "tuple",data:=.seq [u1,u2].toArray}}:=I1.kept (t':=s1.toks) fun b o e=>zAz _ e;rw[hw];refine zAu (zAy ?_);show wpAny (model X.prog X.w) X.A (do rule "assign.swapped-stores";let items <-unpackItems (.ref s1.heap.objs.size) 2 none;assignInOrder [fun v=>bindName X.env y v,fun v=>bindName X.env x v] items.reverse;pure Flow.next) _ _ _;refine zAu (wpAny_rule (zAu (unpackItems_tuple (items:=#[u1,u2]) (I.ok.hd hc) (IsTup.new s1.heap _) fun h' hG=>?_)));have I3:=I2.kept (h':=h') (t':=s1.toks) fun b o e=>hG b o (zB7 (zB0 e)) e;show wpAny _ _ (assignInOrder [fun v=>bindName X.env y v,fun v=>bindName X.env x v] [u2,u1]>>=fun _=>pure Flow.next) _ _ _;refine zAu (assignInOrder_cons (wpAny_bindName (gJ I3 hN hj (.inl hy) eJ (fun s2 I4=>?_) (.inr hy))));refine assignInOrder_cons (wpAny_bindName (gJ I4 hN hi (.inl hx) rv (fun s3 I5=>assignInOrder_nil (zAy ?_)) (.inr hx)));rw[List.set_comm _ _ (Ne.symm bX)]at I5;exact⟨_,H1,I5,q1⟩
inductive TAugI(i:Nat)(te:TE)(ti:TIp)(D:Ends)(σ:St)(H:Hp):Prop
 |mk:∀x,(σ[i]?=some (some x))->(te σ H fun y H1=>ti x y H1 fun z H2=>D.nx (σ.set i (some z)) H2)->TAugI i te ti D σ H
def Ju(i:Nat)(te:TE)(ti:TIp):TS:=fun D σ H=>TAugI i te ti D σ H
theorem lD{i:Nat}{x:Str}{e:Expr}{te:TE}{op:Operator}{ti:TIp}{pos':Pos}(hN:X.N.Nodup)(hi:X.N[i]?=some x)(hx:Loc X.env.scope x)(he:PE X e te)(ho:PIp X op ti)(hf:X.fn x=true\/X.env.scope.names.lookup x=some .local:=by first|exact .inl rfl|exact .inr rfl|assumption):
  PS X (.AugAssign (.Name x pos') op e pos) (Ju i te ti):=by
 intro Zt s σ H D I h;obtain⟨v,e1,h⟩:=h;obtain⟨m,hn,hl⟩:=I.loc;have Lb:Vis X.env.scope x:=by rcases hx with k|k;exact .inl k;exact .inr (.inl k)
 obtain⟨u,r,l⟩:=hl i x v hi e1 Lb;refine wpAny_AugAssign_Name ?_
 have go:wpAny (model X.prog X.w) X.A (eval e X.env) (fun w s₂=>wpAny (model X.prog X.w) X.A (inplaceOp op u w) (fun r s₃=>wpAny (model X.prog X.w) X.A (storeName X.env x r) (fun _=>SP X Zt D .next) X.xe s₃) X.xe s₂) X.xe s:=by
  refine thn (he Zt s σ H _ I h) fun w s1 ⟨y,H1,I1,r1,q1⟩=>?_;refine thn (ho Zt s1 σ H1 v y u w _ I1 r r1 q1) fun z s2 ⟨zv,H2,I2,r2,q2⟩=>?_;exact gJ I2 hN hi hx r2 (fun s3 I3=>⟨_,H2,I3,q2⟩) hf
 rcases l with⟨hk,hm⟩|⟨hk,c,hc,hcell⟩
 .exact wpAny_loadName_local I.ok.kind hk hn hm go
 .rcases hk with hk|hk
  .exact wpAny_loadName_cell I.ok.kind hk hc hcell go
  .rcases hx with k|k
   .have:X.env.scope.names.lookup x=some .free:=hk;rw[k]at this;cases this
   .have:X.env.scope.names.lookup x=some .free:=hk;rw[k]at this;cases this
def GP(to ti te:TE)(kC:V->V->Hp->VK->Prop)(ze:TIp)(kD:yD):TS:=fun D σ H=>to σ H fun o H1=>ti σ H1 fun i H2=>kC o i H2 fun x H3=>te σ H3 fun y H4=>ze x y H4 fun z H5=>kD o i z H5 fun H6=>D.nx σ H6
def GQ(X:Cx)(t:V->V->Hp->VK->Prop):Prop:=
 ∀(Zt:List (Addr×Obj)) (s:Shared) (σ:St) (H:Hp) (o i:V) (ov iv:Value) (Q:VK),Inv X Zt σ H s->RelV o ov->RelV i iv->t o i H Q->
  wpAny (model X.prog X.w) X.A (getItem ov iv) (EP X Zt σ Q) X.xe s
theorem pU{o i e:Expr}{to ti te:TE}{kC:V->V->Hp->VK->Prop}{ze:TIp}{kD:yD}{op:Operator}{oj:Pos}(ho:PE X o to)(hi:PE X i ti)(hg:GQ X kC)(he:PE X e te)(hp:PIp X op ze)(hs:Fj X kD)
  (ha:∀ov iv new,augStore i ov iv new=(do holding [new,ov,iv] (setItem ov iv new);release [new,ov,iv] [];pure .next):=by intros;rfl):PS X (.AugAssign (.Subscript o i oj) op e pos) (GP to ti te kC ze kD):=by
 intro Zt s σ H D I h;refine wpAny_AugAssign_SubscriptAny (thn (ho Zt s σ H _ I h) fun ov s1 ⟨x1,H1,I1,r1,q1⟩=>?_) ha;refine thn (hi Zt s1 σ H1 _ I1 q1) fun iv s2 ⟨x2,H2,I2,r2,q2⟩=>?_;refine thn (hg Zt s2 σ H2 x1 x2 ov iv _ I2 r1 r2 q2) fun old s3 ⟨x3,H3,I3,r3,q3⟩=>?_;refine thn (he Zt s3 σ H3 _ I3 q3) fun v s4 ⟨x4,H4,I4,r4,q4⟩=>?_;refine thn (hp Zt s4 σ H4 x3 x4 old v _ I4 r3 r4 q4) fun new s5 ⟨x5,H5,I5,r5,q5⟩=>?_
 exact thn (hs Zt s5 σ H5 x1 x2 x5 ov iv new _ I5 r1 r2 r5 q5) fun _ s6 ⟨H6,I6,q6⟩=>⟨σ,H6,I6,q6⟩
def ipI(f:Int->Int->Int):TIp:=fun x y H Q=>∃i j,x=.int i/\y=.int j/\Q (.int (f i j)) H
theorem yF:PIp X .Add (ipI fun i j=>i+j):=by
 intro Zt s σ H x y v u Q I r1 r2 h;obtain⟨i,j,e1,e2,q⟩:=h;subst e1;subst e2;obtain⟨t,rfl⟩:=r1;obtain⟨t',rfl⟩:=r2;exact iadd_int ⟨.int _,H,I.tok _,⟨_,rfl⟩,q⟩
theorem yG:PIp X .Sub (ipI fun i j=>i-j):=by
 intro Zt s σ H x y v u Q I r1 r2 h;obtain⟨i,j,e1,e2,q⟩:=h;subst e1;subst e2;obtain⟨t,rfl⟩:=r1;obtain⟨t',rfl⟩:=r2;exact isub_int ⟨.int _,H,I.tok _,⟨_,rfl⟩,q⟩
end
section
variable{X:Cx}{pos:Pos}
end
structure It where
 go:Nat->Hp->Prop
 yld:Nat->Hp->V->Hp->Prop
 stop:Nat->Hp->Prop
def pW(X:Cx)(Zt:List (Addr×Obj))(H:Hp)(b:Addr):Prop:=
 H b=none/\b≠X.env.locals/\b∉X.fs/\(b∈X.ex\/X.s₀.heap.objs.size<=b)/\(∀x c,X.env.cells.lookup x=some c->c≠b)/\∀p∈X.pn++Zt,p.1≠b
theorem Inv.fpOk{X:Cx}{Zt:List (Addr×Obj)}{σ:St}{H H':Hp}{s:Shared}{b:Addr}(I:Inv X Zt σ H s)(hb:s.heap.objs.size<=b)(hn:H' b=none):pW X Zt H' b:=by
 refine⟨hn,Nat.ne_of_gt (zB4 I.lt hb),I.nofs hb,.inr (Nat.le_trans I.sz hb),fun x c e z=>?_,fun p hp z=>?_⟩
 .obtain⟨v,q⟩:=I.cell x c e;exact absurd (zB4 q.lt (by rw[z];exact hb)) (Nat.lt_irrefl _)
 .exact absurd (zB4 (zB0 (I.pin p hp).1) (by rw[z];exact hb)) (Nat.lt_irrefl _)
structure Turn(P:Program)(w:World)(K:Frag)(tg:Expr)(J:It)(fp:List Addr)(it:Addr)(tn:Nat->Heap->Prop):Prop where
 mem:it∈fp
 obj:∀i h,tn i h->∀b∈fp,∃o,h.get? b=some o/\∀v,o.data≠.cell v
 keep:∀i h h',tn i h->(∀b∈fp,∀o,h.get? b=some o->h'.get? b=some o)->tn i h'
 item:∀(X:Cx),X.prog=P->X.w=w->X.K=K->X.calm=true->∀(i:Nat) (Zt:List (Addr×Obj)) (s:Shared) (σ:St) (H:Hp) (E:Value->Shared->Prop),Inv X Zt σ H s->(∀b∈fp,pW X Zt H b)->tn i s.heap->J.go i H->
  wpAny (model P w) X.A (pyNext (.ref it)) (fun r s1=>∃u,r=some u /\
   wpAny (model P w) X.A (letOwnedTupleGo tg (.ref it) u) (fun _ s2=>∃x H',Inv X Zt σ H' s2/\RelV x u/\J.yld i H x H'/\tn (i+1) s2.heap/\∀b∈fp,H' b=none) E s1) E s
 done:∀(X:Cx),X.prog=P->X.w=w->X.K=K->X.calm=true->∀(i:Nat) (Zt:List (Addr×Obj)) (s:Shared) (σ:St) (H:Hp) (E:Value->Shared->Prop),Inv X Zt σ H s->(∀b∈fp,pW X Zt H b)->tn i s.heap->J.stop i H->
  wpAny (model P w) X.A (pyNext (.ref it)) (fun r s1=>r=none/\Inv X Zt σ H s1) E s
 self:∀(A:Around) (i:Nat) (s:Shared) (Q:Value->Shared->Prop) (E:Value->Shared->Prop),tn i s.heap->Q (.ref it) s->wpAny (model P w) A (pyIter (.ref it)) Q E s
abbrev TI:=St->Hp->(It->Hp->Prop)->Prop
def PIE(X:Cx)(Zt:List (Addr×Obj))(σ:St)(tg:Expr)(R:It->Hp->Prop)(s9:Value)(s2:Shared):Prop:=
 ∃(it:Addr) (fp:List Addr) (tn:Nat->Heap->Prop) (J:It) (H':Hp),s9=.ref it/\Inv X Zt σ H' s2/\Turn X.prog X.w X.K tg J fp it tn/\tn 0 s2.heap/\(∀b∈fp,pW X Zt H' b)/\R J H'
def PI(X:Cx)(tg iter:Expr)(wi:TI):Prop:=
 ∀(Zt:List (Addr×Obj)) (s:Shared) (σ:St) (H:Hp) (R:It->Hp->Prop),Inv X Zt σ H s->wi σ H R->
  wpAny (model X.prog X.w) X.A (eval iter X.env) (fun v s1=>wpAny (model X.prog X.w) X.A (pyIter v) (PIE X Zt σ tg R) X.xe s1) X.xe s
theorem v9{M:Model}{A:Around}{E:Value->Shared->Prop}{s:Shared}{tg:Expr}{it:Addr}{u:Value}{o:Obj}{n:String}{vs:Array Value}{Q:Unit->Shared->Prop}(ho:s.heap.get? it=some o)(hc:o.cls=.type n)(hd:o.data=.fields vs)
  (hn:["enumerate","zip","dict_itemiterator","dict_reverseitemiterator","odict_iterator","itertools.zip_longest","itertools.pairwise"].contains n=false) (hQ:Q () s):wpAny M A (letOwnedTupleGo tg (.ref it) u) Q E s:=by
 unfold letOwnedTupleGo
 cases tg<;>first
  |exact zAy hQ
  | (cases u<;>first
    |exact zAy hQ
    | (refine zAu (wpAny_load ho ?_)
       rw[hc,hd];show wpAny M A (if(["enumerate","zip","dict_itemiterator","dict_reverseitemiterator","odict_iterator","itertools.zip_longest","itertools.pairwise"].contains n&&vs[0]?==some (rawInt _))=true then _ else _) Q E s;rw[zAw (by intro h;rw[hn,Bool.false_and]at h;cases h)]
       exact zAy hQ))
def Itl(K:Frag)(a:Addr):It:=
 ⟨fun i H=>∃xs x,SqL K H a xs/\xs[i]?=some x,fun i H x H'=>H'=H/\∀xs,SqL K H a xs->xs[i]?=some x,fun i H=>∃xs,SqL K H a xs/\xs.length<=i⟩
def Itt(K:Frag)(a:Addr):It:=
 ⟨fun i H=>∃xs x,SqT K H a xs/\xs[i]?=some x,fun i H x H'=>H'=H/\∀xs,SqT K H a xs->xs[i]?=some x,fun i H=>∃xs,SqT K H a xs/\xs.length<=i⟩
def Itr(lo:Int)(n:Nat):It:=⟨fun i _=>i<n,fun i H x H'=>H'=H/\x=.int (lo+i),fun i _=>n<=i⟩
theorem wY{P:Program}{w:World}{K:Frag}{tg:Expr}(a it:Addr):Turn P w K tg (Itl K a) [it] it (fun i h=>h.IsListIter it a i) where
 mem:=by simp
 obj:=fun i h st b hb=>by
  have e:b=it:=by simpa using hb
  subst e;obtain⟨o,e,c,d⟩:=st;exact⟨o,e,fun v z=>by rw[d]at z;cases z⟩
 keep:=fun i h h' st k=>st.at fun o e=>k it Zy o e
 item:=by
  intro X hP hw hK hc i Zt s σ H E I hf st hg;subst hP hw hK;obtain⟨xs,x,hq,hx⟩:=hg;obtain⟨Zr,rv,p,hz⟩:=I.list hq;obtain⟨u,hu,ru⟩:=rv.get hx;obtain⟨f0,f1,f2,f3,f4,f5⟩:=hf it Zy;refine wpAny_pyNext_list_item st p.isList (x:=u) (by simpa using hu) fun h' Zq sb=>?_;have I1:Inv X Zt σ H {s with heap:=h'}:=I.turned (t':=s.toks) (fun b o hb e=>(sb.2 b hb).trans e) f0 f1 f3 f4 f5;obtain⟨o,e,c,d⟩:=id Zq;exact⟨u,rfl,v9 (s:={s with heap:=h'}) e c d Zx ⟨x,H,I1,ru,⟨rfl,fun ys hy=>by rw[I.list_inj hy hq];exact hx⟩,Zq,fun b hb=>(hf b hb).1⟩⟩
 done:=by
  intro X hP hw hK hc i Zt s σ H E I hf st hg;subst hP hw hK;obtain⟨xs,hq,hx⟩:=hg;obtain⟨Zr,rv,p,hz⟩:=I.list hq;obtain⟨f0,f1,f2,f3,f4,f5⟩:=hf it Zy;have hl:=rv.length
  exact wpAny_pyNext_list_end (I.ok.hd hc) st p.isList (by simp;lia) fun h' eb=>⟨rfl,I.turned (t':=s.toks) (fun b o hb e=>eb b o hb e) f0 f1 f3 f4 f5⟩
 self:=fun _ _ _ _ _ st h=>wpAny_pyIter_listiter st h
theorem ur{P:Program}{w:World}{K:Frag}{tg:Expr}(a it:Addr):Turn P w K tg (Itt K a) [it] it (fun i h=>h.IsTupleIter it a i) where
 mem:=by simp
 obj:=fun i h st b hb=>by
  have e:b=it:=by simpa using hb
  subst e;obtain⟨o,e,c,d⟩:=st;exact⟨o,e,fun v z=>by rw[d]at z;cases z⟩
 keep:=fun i h h' st k=>st.at fun o e=>k it Zy o e
 item:=by
  intro X hP hw hK hc i Zt s σ H E I hf st hg;subst hP hw hK;obtain⟨xs,x,hq,hx⟩:=hg;obtain⟨Zr,rv,p,hz⟩:=I.tuple hq;obtain⟨u,hu,ru⟩:=rv.get hx;obtain⟨f0,f1,f2,f3,f4,f5⟩:=hf it Zy;refine wpAny_pyNext_tuple_item st (show s.heap.IsTuple a Zr.toArray from p) (x:=u) (by simpa using hu) fun h' Zq sb=>?_;have I1:Inv X Zt σ H {s with heap:=h'}:=I.turned (t':=s.toks) (fun b o hb e=>(sb.2 b hb).trans e) f0 f1 f3 f4 f5;obtain⟨o,e,c,d⟩:=id Zq;exact⟨u,rfl,v9 (s:={s with heap:=h'}) e c d Zx ⟨x,H,I1,ru,⟨rfl,fun ys hy=>by rw[I.tuple_inj hy hq];exact hx⟩,Zq,fun b hb=>(hf b hb).1⟩⟩
 done:=by
  intro X hP hw hK hc i Zt s σ H E I hf st hg;subst hP hw hK;obtain⟨xs,hq,hx⟩:=hg;obtain⟨Zr,rv,p,hz⟩:=I.tuple hq;obtain⟨f0,f1,f2,f3,f4,f5⟩:=hf it Zy;have hl:=rv.length
  exact wpAny_pyNext_tuple_end (I.ok.hd hc) st (show s.heap.IsTuple a Zr.toArray from p) (by simp;lia) fun h' eb=>⟨rfl,I.turned (t':=s.toks) (fun b o hb e=>eb b o hb e) f0 f1 f3 f4 f5⟩
 self:=fun _ _ _ _ _ st h=>wpAny_pyIter_tupleiter st h
theorem ut{P:Program}{w:World}{K:Frag}{tg:Expr}(it:Addr)(lo:Int)(n:Nat):Turn P w K tg (Itr lo n) [it] it (fun i h=>IsRangeIter h it (lo+(i:Nat)*1) ((n:Int)-(i:Nat)) 1) where
 mem:=by simp
 obj:=fun i h st b hb=>by
  have e:b=it:=by simpa using hb
  subst e
  exact⟨_,st,fun v z=>by
   have z':Data.fields _=Data.cell v:=z
   cases z'⟩
 keep:=fun i h h' st k=>k it Zy _ st
 item:=by
  intro X hP hw hK hc i Zt s σ H E I hf st hg;subst hP hw hK;obtain⟨f0,f1,f2,f3,f4,f5⟩:=hf it Zy;have W:=Walks.range (prog:=X.prog) (w:=X.w) (I.ok.hd hc) it lo 1 n;refine W.item i s _ _ hg st fun v h' tk hv Zq kk=>?_;obtain⟨t,rfl⟩:=hv;have I1:Inv X Zt σ H {s with heap:=h',toks:=tk}:=I.turned (fun b o hb e=>kk b o (by simpa using hb) e) f0 f1 f3 f4 f5;refine⟨_,rfl,v9 (s:={s with heap:=h',toks:=tk}) (n:="range_iterator") Zq rfl rfl Zx ⟨.int (lo+i),H,I1,⟨t,?_⟩,⟨rfl,rfl⟩,Zq,fun b hb=>(hf b hb).1⟩⟩;rw[Int.mul_one]
 done:=by
  intro X hP hw hK hc i Zt s σ H E I hf st hg;subst hP hw hK;obtain⟨f0,f1,f2,f3,f4,f5⟩:=hf it Zy
  exact wpAny_pyNext_range_end (I.ok.hd hc) st (by have:n<=i:=hg;lia) fun h' eb=>⟨rfl,I.turned (t':=s.toks) (fun b o hb e=>eb b o hb e) f0 f1 f3 f4 f5⟩
 self:=fun _ _ _ _ _ st h=>wpAny_pyIter_rangeiter st h
section
variable{X:Cx}{tg:Expr}
def GR(K:Frag)(tl:TE):TI:=fun σ H R=>tl σ H fun x H1=>∃a,x=.ref a/\(∃xs,SqL K H1 a xs)/\R (Itl K a) H1
def GX(K:Frag)(tl:TE):TI:=fun σ H R=>tl σ H fun x H1=>∃a,x=.ref a/\(∃xs,SqT K H1 a xs)/\R (Itt K a) H1
theorem eO{l:Expr}{tl:TE}(hl:PE X l tl):PI X tg l (GR X.K tl):=by
 intro Zt s σ H R I h;refine thn (hl Zt s σ H _ I h) fun v s1 ⟨x,H1,I1,r1,q1⟩=>?_;obtain⟨a,e,⟨xs,hq⟩,q⟩:=q1;subst e;cases r1;obtain⟨Zr,rv,p,hz⟩:=I1.list hq;refine wpAny_pyIter_list p.isList ?_;refine⟨s1.heap.objs.size,[s1.heap.objs.size],_,_,H1,rfl,I1.kept (t':=s1.toks) fun b o e=>Heap.get?_push_of_some _ e,wY a _,⟨_,Heap.get?_push_size _ rfl,rfl,rfl⟩,fun b hb=>?_,q⟩;have e:b=s1.heap.objs.size:=by simpa using hb
 subst e;exact I1.fpOk (zA3 _) (I1.hok.fresh (zA3 _))
theorem gw{l:Expr}{tl:TE}(hl:PE X l tl):PI X tg l (GX X.K tl):=by
 intro Zt s σ H R I h;refine thn (hl Zt s σ H _ I h) fun v s1 ⟨x,H1,I1,r1,q1⟩=>?_;obtain⟨a,e,⟨xs,hq⟩,q⟩:=q1;subst e;cases r1;obtain⟨Zr,rv,p,hz⟩:=I1.tuple hq;refine wpAny_pyIter_tuple (show s1.heap.IsTuple a Zr.toArray from p) ?_;refine⟨s1.heap.objs.size,[s1.heap.objs.size],_,_,H1,rfl,I1.kept (t':=s1.toks) fun b o e=>Heap.get?_push_of_some _ e,ur a _,⟨_,Heap.get?_push_size _ rfl,rfl,rfl⟩,fun b hb=>?_,q⟩;have e:b=s1.heap.objs.size:=by simpa using hb
 subst e;exact I1.fpOk (zA3 _) (I1.hok.fresh (zA3 _))
theorem rJ{Zt:List (Addr×Obj)}{σ:St}{H:Hp}{s:Shared}{R:It->Hp->Prop}{E:Value->Shared->Prop}{lo hi:Int}{t u v:Tok}{tk:Nat}(I:Inv X Zt σ H s)(h1:-(2^62)<=lo)(h2:lo<2^62)(h3:-(2^62)<=hi)(h4:hi<2^62)
  (q:R (Itr lo (hi-lo).toNat) H):wpAny (model X.prog X.w) X.A (pyIter (.ref s.heap.objs.size)) (PIE X Zt σ tg R) E {s with heap:=s.heap.push {cls:=.type "range",data:=.fields #[.int lo t,.int hi u,.int 1 v]},toks:=tk}:=by
 refine wpAny_pyIter_range (IsRange.new ..) (small_one h1 h2 h3 h4) ?_;have I1:Inv X Zt σ H {s with heap:=s.heap.push {cls:=.type "range",data:=.fields #[.int lo t,.int hi u,.int 1 v]},toks:=tk}:=I.kept fun b o e=>zAz _ e
 refine⟨(s.heap.push {cls:=.type "range",data:=.fields #[.int lo t,.int hi u,.int 1 v]}).objs.size,[(s.heap.push {cls:=.type "range",data:=.fields #[.int lo t,.int hi u,.int 1 v]}).objs.size],_,_,H,rfl,
  I1.kept (t':=tk) fun b o e=>zAz _ e,ut _ lo (hi-lo).toNat,?_,fun b hb=>?_,q⟩
 .have e1:lo+((0:Nat):Int)*1=lo:=by simp
  have e2:(((hi-lo).toNat:Nat):Int)-((0:Nat):Int)=Builtin.Range.rangeSize lo hi 1:=by rw[rangeSize_one];split<;>lia
  show IsRangeIter _ _ (lo+((0:Nat):Int)*1) ((((hi-lo).toNat:Nat):Int)-((0:Nat):Int)) 1;rw[e1,e2];exact zB3 _ rfl
 .have e:b=(s.heap.push {cls:=.type "range",data:=.fields #[.int lo t,.int hi u,.int 1 v]}).objs.size:=by simpa using hb
  subst e;exact I1.fpOk (zA3 _) (I1.hok.fresh (zA3 _))
def GZ(ta:TA):TI:=fun σ H R=>ta σ H fun vs H1=>∃j:Int,vs=[.int j]/\-(2^62)<=j/\j<2^62/\R (Itr 0 j.toNat) H1
def Hf(ta:TA):TI:=fun σ H R=>ta σ H fun vs H1=>∃i j:Int,vs=[.int i,.int j]/\(-(2^62)<=i/\i<2^62/\-(2^62)<=j/\j<2^62)/\R (Itr i (j-i).toNat) H1
theorem cY{a:Expr}{ta:TA}{p pos:Pos}(hg:Gl X "range")(hm:X.mg "range"=none)(ha:PA X [a] ta)(hs:starEach [a] X.env=[(false,eval a X.env)]:=by rfl):PI X tg (.Call (.Name "range" p) [a] [] pos) (GZ ta):=by
 intro Zt s σ H R I h;refine Call_ (iM I hg hm boot_range (PyProof.Rows.callWith_type1 (thn (ha pos Zt s σ H _ I h) fun us s1 ⟨vs,H1,I1,r1,q1⟩=>?_) hs rfl));obtain⟨j,e,q1,q2,q⟩:=q1;subst e
 cases r1 with
 |cons r rr=>
  cases rr;obtain⟨t,rfl⟩:=r;exact call_range_1 (rJ I1 Zz Zz q1 q2 (by simpa using q))
theorem ik{a b:Expr}{ta:TA}{p pos:Pos}(hg:Gl X "range")(hm:X.mg "range"=none)(ha:PA X [a,b] ta)(hs:starEach [a,b] X.env=[(false,eval a X.env),(false,eval b X.env)]:=by rfl)(f7:starEach [b] X.env=[(false,eval b X.env)]:=by rfl):
  PI X tg (.Call (.Name "range" p) [a,b] [] pos) (Hf ta):=by
 intro Zt s σ H R I h;refine Call_ (iM I hg hm boot_range (PyProof.Rows.callWith_type1 (thn (ha pos Zt s σ H _ I h) fun us s1 ⟨vs,H1,I1,r1,q1⟩=>?_) (by rw[hs,f7]) (by rw[f7];rfl)));obtain⟨i,j,e,⟨q1,q2,q3,q4⟩,q⟩:=q1;subst e
 cases r1 with
 |cons r rr=>
  cases rr with
  |cons r' rr=>
   cases rr;obtain⟨t,rfl⟩:=r;obtain⟨t',rfl⟩:=r';exact call_range_2 (rJ I1 q1 q2 q3 q4 q)
def Jv(wi:TI)(g:TG)(tb:TS):TS:=fun D σ H=>wi σ H fun J H1=>∃W:Nat->Nat->St->Hp->Prop,(∃m,W 0 m σ H1)/\∀i m σ H,W i m σ H->
 (J.stop i H/\D.nx σ H)\/(J.go i H/\∃N:St->Hp->Prop,(∀ai H',N ai H'->∃m',m'<m/\W (i+1) m' ai H')/\∀x H',J.yld i H x H'->g x σ H' fun aE H2=>tb {D with nx:=N,ct:=N,bk:=D.nx} aE H2)
def lF(fp:List Addr)(h:Heap):List (Addr×Obj):=fp.filterMap fun b=>(h.get? b).map fun o=>(b,o)
theorem gA{fp:List Addr}{h:Heap}{b:Addr}{o:Obj}(hb:b∈fp)(e:h.get? b=some o):(b,o)∈lF fp h:=List.mem_filterMap.mpr ⟨b,hb,by rw[e];rfl⟩
theorem wZ{fp:List Addr}{h:Heap}{p:Addr×Obj}(hp:p∈lF fp h):p.1∈fp/\h.get? p.1=some p.2:=by
 obtain⟨b,hb,e⟩:=List.mem_filterMap.mp hp
 cases q:h.get? b with
 |none=>rw[q]at e;cases e
 |some o=>
  rw[q]at e;have e':(b,o)=p:=zAl e;subst e';exact⟨hb,q⟩
theorem Inv.pinned{Zt:List (Addr×Obj)}{σ:St}{H:Hp}{s:Shared}{fp:List Addr}(I:Inv X Zt σ H s)(hf:∀b∈fp,pW X Zt H b)(ho:∀b∈fp,∃o,s.heap.get? b=some o/\∀v,o.data≠.cell v):Inv X (Zt++lF fp s.heap) σ H s:=
 I.pins_of fun p hp=>(zA6.mp hp).elim (fun z=>I.pin p (zBd _ z)) fun z=>by
  obtain⟨hb,e⟩:=wZ z;obtain⟨f0,f1,f2,_⟩:=hf p.1 hb;obtain⟨o,e',d⟩:=ho p.1 hb;rw[e]at e';cases e';exact⟨e,f0,f1,f2,d⟩
theorem Inv.unpinned{Zt pl:List (Addr×Obj)}{σ:St}{H:Hp}{s:Shared}(I:Inv X (Zt++pl) σ H s):Inv X Zt σ H s:=I.pins_of fun p hp=>I.pin p (zBd _ (List.mem_append_left _ hp))
theorem cD{iter:Expr}{body:List Stmt}{wi:TI}{g:TG}{tb:TS}{pos:Pos}(hp:PassesOwn (model X.prog X.w) X.A X.env X.xe)(hc:X.calm=true)(hi:PI X tg iter wi)(hg:PG X tg g)(hb:PSs X body tb)
  (hs:∀x,foldedSetIterable iter X.env x=pure x:=by intro _;rfl):PS X (.For tg iter body [] pos) (Jv wi g tb):=by
 intro Zt s σ H D I h;refine wpAny_For (thn (hi Zt s σ H _ I h) fun v s1 h1=>thn h1 fun s9 s2 h2=>?_) hs;obtain⟨it,fp,tn,J,H2,e,I2,T,st2,f2,W,⟨m0,w0⟩,turn⟩:=h2;subst e
 have om:∀{H':Hp},(∀b∈fp,H' b=none)->∀b∈fp,pW X Zt H' b:=fun hn b hb=>⟨hn b hb,(f2 b hb).2⟩
 refine codeAny_forLoop_any (fun n s'=>∃i ai H',Inv X Zt ai H' s'/\tn i s'.heap/\(∀b∈fp,H' b=none)/\W i n ai H') ?_ m0 ⟨0,σ,H2,I2,st2,fun b hb=>(f2 b hb).1,w0⟩;rintro n s3 ⟨i,ij,H3,I3,gi,tf,w3⟩;rcases turn i n ij H3 w3 with⟨stop,qn⟩|⟨go,N,hN,step⟩
 .refine wpAny_passesOwn hp (thn (T.done X rfl rfl rfl hc i Zt s3 ij H3 X.xe I3 (om tf) gi stop) fun r s4 ⟨hr,I4⟩=>?_);subst hr;exact wpAny_execs_nil ⟨ij,H3,I4,qn⟩
 .refine wpAny_passesOwn hp (thn (T.item X rfl rfl rfl hc i Zt s3 ij H3 X.xe I3 (om tf) gi go) fun r s4 ⟨u,hr,h4⟩=>?_);subst hr;refine wpAny_passesOwn hp (thn h4 fun _ s5 ⟨x,H5,I5,r5,y5,oo,A3⟩=>?_);have A4:=I5.pinned (om A3) (T.obj _ _ oo);refine wpAny_passesOwn hp (thn (hg _ s5 ij H5 x u _ A4 r5 (step x H5 y5)) fun _ s6 ⟨kF,H6,I6,q6⟩=>?_);refine wpAny_passesOwn hp (thn (hb _ s6 kF H6 _ I6 q6) fun f s7 q7=>?_)
  have again:∀{ip:St} {H7:Hp},Inv X (Zt++lF fp s5.heap) ip H7 s7->N ip H7->∃m,m<n/\∃i ai H',Inv X Zt ai H' s7/\tn i s7.heap/\(∀b∈fp,H' b=none)/\W i m ai H':=fun{ip H7} I7 n7=>by
   obtain⟨m',hm,w7⟩:=hN ip H7 n7;refine⟨m',hm,i+1,ip,H7,I7.unpinned,T.keep _ _ _ oo fun b hb o e=>(I7.pin (b,o) (zBd _ (zBd _ (gA hb e)))).1,fun b hb=>?_,w7⟩;obtain⟨o,e,d⟩:=T.obj _ _ oo b hb;exact(I7.pin (b,o) (zBd _ (zBd _ (gA hb e)))).2.1
  cases f with
  |next=>obtain⟨ip,H7,I7,n7⟩:=q7;exact again I7 n7
  |cont=>obtain⟨ip,H7,I7,n7⟩:=q7;exact again I7 n7
  |brk=>obtain⟨ip,H7,I7,q7⟩:=q7;exact⟨ip,H7,I7.unpinned,q7⟩
  |ret v=>obtain⟨x7,ip,H7,I7,r7,q7⟩:=q7;exact⟨x7,ip,H7,I7.unpinned,r7,q7⟩
end
theorem j7{K:Frag}{a:Addr}{xs:List V}{g:TG}{tb:TS}{D:Ends}{σ:St}{H:Hp}(Pv:Nat->St->Hp->Prop)(h0:Pv 0 σ H)(hl:∀i σ H,i<=xs.length->Pv i σ H->SqL K H a xs)
  (hs:∀i x σ H,xs[i]?=some x->Pv i σ H->g x σ H fun aE H2=>tb {D with nx:=Pv (i+1),ct:=Pv (i+1),bk:=D.nx} aE H2) (hd:∀σ H,Pv xs.length σ H->D.nx σ H):
  ∃W:Nat->Nat->St->Hp->Prop,(∃m,W 0 m σ H)/\∀i m σ H,W i m σ H->
   ((Itl K a).stop i H/\D.nx σ H)\/((Itl K a).go i H/\∃N:St->Hp->Prop,(∀ai H',N ai H'->∃m',m'<m/\W (i+1) m' ai H')/\∀x H',(Itl K a).yld i H x H'->g x σ H' fun aE H2=>tb {D with nx:=N,ct:=N,bk:=D.nx} aE H2):=by
 refine⟨fun i m σ H=>m=xs.length-i/\i<=xs.length/\Pv i σ H,⟨xs.length,by simp,Nat.zero_le _,h0⟩,?_⟩;rintro i m σ H ⟨rfl,hi,p⟩;have q:=hl i σ H hi p;by_cases aw:i<xs.length
 .refine .inr ⟨⟨xs,xs[i],q,by simp[aw]⟩,Pv (i+1),fun ai H' p'=>⟨xs.length-(i+1),Zz,rfl,aw,p'⟩,fun x H' y=>?_⟩;obtain⟨e,y⟩:=y;subst e;exact hs i x σ _ (y xs q) p
 .have e:i=xs.length:=Zz
  subst e;exact .inl ⟨⟨xs,q,zA3 _⟩,hd σ H p⟩
theorem BK{K:Frag}{a:Addr}{xs:List V}{g:TG}{tb:TS}{D:Ends}{σ:St}{H:Hp}(Pv:Nat->St->Hp->Prop)(h0:Pv 0 σ H)(hl:∀i σ H,i<=xs.length->Pv i σ H->SqT K H a xs)
  (hs:∀i x σ H,xs[i]?=some x->Pv i σ H->g x σ H fun aE H2=>tb {D with nx:=Pv (i+1),ct:=Pv (i+1),bk:=D.nx} aE H2) (hd:∀σ H,Pv xs.length σ H->D.nx σ H):
  ∃W:Nat->Nat->St->Hp->Prop,(∃m,W 0 m σ H)/\∀i m σ H,W i m σ H->
   ((Itt K a).stop i H/\D.nx σ H)\/((Itt K a).go i H/\∃N:St->Hp->Prop,(∀ai H',N ai H'->∃m',m'<m/\W (i+1) m' ai H')/\∀x H',(Itt K a).yld i H x H'->g x σ H' fun aE H2=>tb {D with nx:=N,ct:=N,bk:=D.nx} aE H2):=by
 refine⟨fun i m σ H=>m=xs.length-i/\i<=xs.length/\Pv i σ H,⟨xs.length,by simp,Nat.zero_le _,h0⟩,?_⟩;rintro i m σ H ⟨rfl,hi,p⟩;have q:=hl i σ H hi p;by_cases aw:i<xs.length
 .refine .inr ⟨⟨xs,xs[i],q,by simp[aw]⟩,Pv (i+1),fun ai H' p'=>⟨xs.length-(i+1),Zz,rfl,aw,p'⟩,fun x H' y=>?_⟩;obtain⟨e,y⟩:=y;subst e;exact hs i x σ _ (y xs q) p
 .have e:i=xs.length:=Zz
  subst e;exact .inl ⟨⟨xs,q,zA3 _⟩,hd σ H p⟩
theorem cT{lo:Int}{n:Nat}{g:TG}{tb:TS}{D:Ends}{σ:St}{H:Hp}(Pv:Nat->St->Hp->Prop)(h0:Pv 0 σ H)
  (hs:∀i σ H,i<n->Pv i σ H->g (.int (lo+i)) σ H fun aE H2=>tb {D with nx:=Pv (i+1),ct:=Pv (i+1),bk:=D.nx} aE H2) (hd:∀σ H,Pv n σ H->D.nx σ H):
  ∃W:Nat->Nat->St->Hp->Prop,(∃m,W 0 m σ H)/\∀i m σ H,W i m σ H->
   ((Itr lo n).stop i H/\D.nx σ H)\/((Itr lo n).go i H/\∃N:St->Hp->Prop,(∀ai H',N ai H'->∃m',m'<m/\W (i+1) m' ai H')/\∀x H',(Itr lo n).yld i H x H'->g x σ H' fun aE H2=>tb {D with nx:=N,ct:=N,bk:=D.nx} aE H2):=by
 refine⟨fun i m σ H=>m=n-i/\i<=n/\Pv i σ H,⟨n,by simp,Nat.zero_le _,h0⟩,?_⟩;rintro i m σ H ⟨rfl,hi,p⟩;by_cases aw:i<n
 .refine .inr ⟨aw,Pv (i+1),fun ai H' p'=>⟨n-(i+1),Zz,rfl,aw,p'⟩,fun x H' y=>?_⟩;obtain⟨e,y⟩:=y;subst e y;exact hs i σ _ aw p
 .have e:i=n:=Zz
  subst e;exact .inl ⟨zA3 _,hd σ H p⟩
abbrev R2:=V->V->Hp->VK->Prop
def OpR(X:Cx)(f:Value->Value->Sem Value)(r:R2):Prop:=
 ∀(Zt:List (Addr×Obj)) (s:Shared) (σ:St) (H:Hp) (x y:V) (v u:Value) (Q:VK),Inv X Zt σ H s->RelV x v->RelV y u->r x y H Q->
  wpAny (model X.prog X.w) X.A (f v u) (EP X Zt σ Q) X.xe s
def UnR(X:Cx)(f:Value->Sem Value)(r:V->Hp->VK->Prop):Prop:=
 ∀(Zt:List (Addr×Obj)) (s:Shared) (σ:St) (H:Hp) (x:V) (v:Value) (Q:VK),Inv X Zt σ H s->RelV x v->r x H Q->
  wpAny (model X.prog X.w) X.A (f v) (EP X Zt σ Q) X.xe s
def dU(X:Cx)(f:Value)(r:List V->Hp->VK->Prop):Prop:=
 ∀(Zt:List (Addr×Obj)) (s:Shared) (σ:St) (H:Hp) (xs:List V) (us:List Value) (Q:VK),Inv X Zt σ H s->Vals xs us->r xs H Q->
  wpAny (model X.prog X.w) X.A (call f us) (EP X Zt σ Q) X.xe s
def tOp(r:R2)(ta tb:TE):TE:=fun σ H Q=>ta σ H fun x H1=>tb σ H1 fun y H2=>r x y H2 Q
def tUn(r:V->Hp->VK->Prop)(ta:TE):TE:=fun σ H Q=>ta σ H fun x H1=>r x H1 Q
inductive RII(C:Int->Int->Prop)(g:Int->Int->V)(x:V)(y:V)(H:Hp)(Q:VK):Prop
 |mk:∀i j,(x=.int i)->(y=.int j)->(C i j)->(Q (g i j) H)->RII C g x y H Q
def rI(C:Int->Int->Prop)(g:Int->Int->V):R2:=fun x y H Q=>RII C g x y H Q
inductive RI0I(g:Int->Int->V)(x:V)(y:V)(H:Hp)(Q:VK):Prop
 |mk:∀i j,(x=.int i)->(y=.int j)->(Q (g i j) H)->RI0I g x y H Q
def rI0(g:Int->Int->V):R2:=fun x y H Q=>RI0I g x y H Q
inductive RUI(g:Int->V)(x:V)(H:Hp)(Q:VK):Prop
 |mk:∀i,(x=.int i)->(Q (g i) H)->RUI g x H Q
def rU(g:Int->V):V->Hp->VK->Prop:=fun x H Q=>RUI g x H Q
section
variable{X:Cx}{a b c:Expr}{ta tb tc:TE}{pos:Pos}
theorem Fl(ha:PE X a ta)(hb:PE X b tb){Zt:List (Addr×Obj)}{s:Shared}{σ:St}{H:Hp}{R:V->V->Hp->Prop}(I:Inv X Zt σ H s)
  (h:ta σ H fun x H1=>tb σ H1 fun y H2=>R x y H2) {Q:Value->Shared->Prop} {f:Value->Value->Sem Value}
  (hf:∀v u s2 x y H2,Inv X Zt σ H2 s2->RelV x v->RelV y u->R x y H2->wpAny (model X.prog X.w) X.A (f v u) Q X.xe s2):
  wpAny (model X.prog X.w) X.A (eval a X.env) (fun v s₁=>wpAny (model X.prog X.w) X.A (eval b X.env) (fun u s₂=>wpAny (model X.prog X.w) X.A (f v u) Q X.xe s₂) X.xe s₁) X.xe s:=by
 refine thn (ha Zt s σ H _ I h) fun v s1 ⟨x,H1,I1,r1,q1⟩=>?_;refine thn (hb Zt s1 σ H1 _ I1 q1) fun u s2 ⟨y,H2,I2,r2,q2⟩=>?_;exact hf v u s2 x y H2 I2 r1 r2 q2
theorem aU{op:Operator}{r:R2}(ho:OpR X (binaryOp op) r)(ha:PE X a ta)(hb:PE X b tb):PE X (.BinOp a op b pos) (tOp r ta tb):=by
 intro Zt s σ H Q I h;exact wpAny_BinOp (Fl ha hb I h fun v u s2 x y H2 I2 rx ry q=>ho Zt s2 σ H2 x y v u Q I2 rx ry q)
theorem Hg{op:UnaryOp}{r:V->Hp->VK->Prop}(ho:UnR X (unaryOp op) r)(ha:PE X a ta):PE X (.UnaryOp op a pos) (tUn r ta):=by
 intro Zt s σ H Q I h;exact UnaryOp_ (thn (ha Zt s σ H _ I h) fun v s1 ⟨x,H1,I1,r1,q1⟩=>ho Zt s1 σ H1 x v Q I1 r1 q1)
theorem opI{f:Value->Value->Sem Value}{C:Int->Int->Prop}{g:Int->Int->Int}
  (rule:∀(i j:Int) (t u:Tok) (s:Shared) (Q:Value->Shared->Prop) (E:Value->Shared->Prop),C i j->Q (.int (g i j) s.toks) {s with toks:=s.toks+1}->wpAny (model X.prog X.w) X.A (f (.int i t) (.int j u)) Q E s):
  OpR X f (rI C fun i j=>.int (g i j)):=by
 intro Zt s σ H x y v u Q I rx ry h;obtain⟨i,j,rfl,rfl,hc,q⟩:=h;obtain⟨t,rfl⟩:=rx;obtain⟨t',rfl⟩:=ry;exact rule i j t t' s _ _ hc ⟨.int (g i j),H,I.tok _,⟨_,rfl⟩,q⟩
theorem Hh{f:Value->Value->Sem Value}{g:Int->Int->Int}
  (rule:∀(i j:Int) (t u:Tok) (s:Shared) (Q:Value->Shared->Prop) (E:Value->Shared->Prop),Q (.int (g i j) s.toks) {s with toks:=s.toks+1}->wpAny (model X.prog X.w) X.A (f (.int i t) (.int j u)) Q E s):
  OpR X f (rI0 fun i j=>.int (g i j)):=by
 intro Zt s σ H x y v u Q I rx ry h;obtain⟨i,j,rfl,rfl,q⟩:=h;obtain⟨t,rfl⟩:=rx;obtain⟨t',rfl⟩:=ry;exact rule i j t t' s _ _ ⟨.int (g i j),H,I.tok _,⟨_,rfl⟩,q⟩
theorem BL{f:Value->Value->Sem Value}{g:Int->Int->Bool}
  (rule:∀(i j:Int) (t u:Tok) (s:Shared) (Q:Value->Shared->Prop) (E:Value->Shared->Prop),Q (.bool (g i j)) s->wpAny (model X.prog X.w) X.A (f (.int i t) (.int j u)) Q E s):
  OpR X f (rI0 fun i j=>.bl (g i j)):=by
 intro Zt s σ H x y v u Q I rx ry h;obtain⟨i,j,rfl,rfl,q⟩:=h;obtain⟨t,rfl⟩:=rx;obtain⟨t',rfl⟩:=ry;exact rule i j t t' s _ _ ⟨.bl (g i j),H,I,rfl,q⟩
def Jw(i j:Int):Prop:=0<j/\j<1073741824
def Jx(i j:Int):Prop:=0<=j/\j<=1000000/\i.natAbs<2^64
def CMul(i j:Int):Prop:=(-(2^64)<i/\i<2^64)\/(-(2^64)<j/\j<2^64)
theorem CMul.ok{i j:Int}(h:CMul i j):IntMulOk i j:=by
 rcases h with⟨h1,h2⟩|⟨h1,h2⟩
 .exact .of_left (intBits_le_64 h1 h2)
 .exact .of_right (intBits_le_64 h1 h2)
theorem bL:OpR X (binaryOp .Add) (rI0 fun i j=>.int (i+j)):=Hh fun _ _ _ _ _ _ _ q=>add_int q
theorem fj:OpR X (binaryOp .Sub) (rI0 fun i j=>.int (i-j)):=Hh fun _ _ _ _ _ _ _ q=>sub_int q
theorem fV:OpR X (binaryOp .Mult) (rI CMul fun i j=>.int (i*j)):=opI fun _ _ _ _ _ _ _ hc q=>mul_int q hc.ok
theorem pZ:OpR X (binaryOp .FloorDiv) (rI Jw fun i j=>.int (i / j)):=opI fun i j _ _ _ _ _ hc q=>by
 have h1:(0:Int)<j:=hc.1;have h2:j<1073741824:=hc.2;exact floordiv_int Zz (by rw[Int.fdiv_eq_ediv_of_nonneg i Zz];exact q) (.inl (PyProof.noPylong_small Zz))
theorem gB:OpR X (binaryOp .Mod) (rI (fun _ j=>0<j) fun i j=>.int (i % j)):=opI fun i j _ _ _ _ _ hc q=>by
 have h1:(0:Int)<j:=hc;exact mod_int' Zz (by rw[Int.fmod_eq_emod_of_nonneg i Zz];exact q)
theorem uv:OpR X (binaryOp .Pow) (rI Jx fun i j=>.int (i^j.toNat)):=opI fun _ _ _ _ _ _ _ hc q=>pow_int_small hc.1 hc.2.1 hc.2.2 q
theorem unI{f:Value->Sem Value}{g:Int->Int}
  (rule:∀(i:Int) (t:Tok) (s:Shared) (Q:Value->Shared->Prop) (E:Value->Shared->Prop),Q (.int (g i) s.toks) {s with toks:=s.toks+1}->wpAny (model X.prog X.w) X.A (f (.int i t)) Q E s):
  UnR X f (rU fun i=>.int (g i)):=by
 intro Zt s σ H x v Q I rx h;obtain⟨i,rfl,q⟩:=h;obtain⟨t,rfl⟩:=rx;exact rule i t s _ _ ⟨.int (g i),H,I.tok _,⟨_,rfl⟩,q⟩
theorem Fo:UnR X (unaryOp .USub) (rU fun i=>.int (-i)):=unI fun _ _ _ _ _ q=>neg_int q
end
def Hk:V->V->Bool
 |.non,.non=>true|.non,.int _=>true|.int _,.non=>true|.non,.bl _=>true|.bl _,.non=>true|.non,.str _=>true|.str _,.non=>true
 |.int _,.int _=>true|.bl _,.bl _=>true|.str _,.str _=>true|.byt _,.byt _=>true
 |.int _,.str _=>true|.str _,.int _=>true|.bl _,.str _=>true|.str _,.bl _=>true
 |_,_=>false
def rEq:R2:=fun x y H Q=>Hk x y=true/\Q (.bl (decide (x=y))) H
def rNe:R2:=fun x y H Q=>Hk x y=true/\Q (.bl (!decide (x=y))) H
theorem vd{i j:Int}:decide (V.int i=V.int j)=(i==j):=by
 rw[Bool.eq_iff_iff];simp
theorem yH{i j:Bool}:decide (V.bl i=V.bl j)=(i==j):=by
 rw[Bool.eq_iff_iff];simp
theorem vf{i j:Str}:decide (V.str i=V.str j)=(i==j):=by
 rw[Bool.eq_iff_iff];simp
theorem vg{i j:Array UInt8}:decide (V.byt i=V.byt j)=(i.toList==j.toList):=by
 rw[Bool.eq_iff_iff];cases i;cases j;simp
section
variable{X:Cx}{a b c:Expr}{ta tb tc:TE}{pos:Pos}
theorem bB{Zt:List (Addr×Obj)}{σ:St}{H:Hp}{s:Shared}{Q:VK}{k k':Bool}(I:Inv X Zt σ H s)(q:Q (.bl k) H)(e:k=k'):EP X Zt σ Q (.bool k') s:=by
 subst e;exact⟨.bl k,H,I,rfl,q⟩
theorem gK:OpR X (compareOp .Eq) rEq:=by
 intro Zt s σ H x y v u Q I rx ry h;obtain⟨hs,q⟩:=h
 cases x with
 |non=>
  cases rx
  cases y with
  |non=>cases ry;exact PySem.EqNone.eq_none_none (bB I q Zy)
  |bl j=>cases ry;exact PySem.EqNone.eq_none_bool (bB I q Zy)
  |int j=>obtain⟨t',rfl⟩:=ry;exact PySem.EqNone.eq_none_int (bB I q Zy)
  |str j=>obtain⟨t',rfl⟩:=ry;exact PySem.EqNone.eq_none_str (bB I q Zy)
  |_=>exact absurd (show false=true from hs) zAg
 |bl i=>
  cases rx
  cases y with
  |non=>cases ry;exact PySem.EqNone.eq_bool_none (bB I q Zy)
  |bl j=>cases ry;exact eq_bool (bB I q yH)
  |str j=>obtain⟨t',rfl⟩:=ry;exact PySem.EqMixed.eq_bool_str (bB I q Zy)
  |_=>exact absurd (show false=true from hs) zAg
 |int i=>
  obtain⟨t,rfl⟩:=rx
  cases y with
  |non=>cases ry;exact PySem.EqNone.eq_int_none (bB I q Zy)
  |int j=>obtain⟨t',rfl⟩:=ry;exact eq_int (bB I q vd)
  |str j=>obtain⟨t',rfl⟩:=ry;exact PySem.EqMixed.eq_int_str (bB I q Zy)
  |_=>exact absurd (show false=true from hs) zAg
 |str i=>
  obtain⟨t,rfl⟩:=rx
  cases y with
  |non=>cases ry;exact PySem.EqNone.eq_str_none (bB I q Zy)
  |bl j=>cases ry;exact PySem.EqMixed.eq_str_bool (bB I q Zy)
  |int j=>obtain⟨t',rfl⟩:=ry;exact PySem.EqMixed.eq_str_int (bB I q Zy)
  |str j=>obtain⟨t',rfl⟩:=ry;exact eq_str (bB I q vf)
  |_=>exact absurd (show false=true from hs) zAg
 |byt i=>
  obtain⟨t,rfl⟩:=rx
  cases y with
  |byt j=>obtain⟨t',rfl⟩:=ry;exact PySem.W.eq_bytes (bB I q vg)
  |_=>exact absurd (show false=true from hs) zAg
 |_=>cases y<;>exact absurd (show false=true from hs) zAg
theorem Hl:OpR X (compareOp .NotEq) rNe:=by
 intro Zt s σ H x y v u Q I rx ry h;obtain⟨hs,q⟩:=h
 cases x with
 |non=>
  cases rx
  cases y with
  |non=>cases ry;exact PySem.EqNone.ne_none_none (bB I q Zy)
  |bl j=>cases ry;exact PySem.EqNone.ne_none_bool (bB I q Zy)
  |int j=>obtain⟨t',rfl⟩:=ry;exact PySem.EqNone.ne_none_int (bB I q Zy)
  |str j=>obtain⟨t',rfl⟩:=ry;exact PySem.EqNone.ne_none_str (bB I q Zy)
  |_=>exact absurd (show false=true from hs) zAg
 |bl i=>
  cases rx
  cases y with
  |non=>cases ry;exact PySem.EqNone.ne_bool_none (bB I q Zy)
  |bl j=>cases ry;exact ne_bool (bB I q (congrArg not yH))
  |str j=>obtain⟨t',rfl⟩:=ry;exact PySem.EqMixed.ne_bool_str (bB I q Zy)
  |_=>exact absurd (show false=true from hs) zAg
 |int i=>
  obtain⟨t,rfl⟩:=rx
  cases y with
  |non=>cases ry;exact PySem.EqNone.ne_int_none (bB I q Zy)
  |int j=>obtain⟨t',rfl⟩:=ry;exact ne_int (bB I q (congrArg not vd))
  |str j=>obtain⟨t',rfl⟩:=ry;exact PySem.EqMixed.ne_int_str (bB I q Zy)
  |_=>exact absurd (show false=true from hs) zAg
 |str i=>
  obtain⟨t,rfl⟩:=rx
  cases y with
  |non=>cases ry;exact PySem.EqNone.ne_str_none (bB I q Zy)
  |bl j=>cases ry;exact PySem.EqMixed.ne_str_bool (bB I q Zy)
  |int j=>obtain⟨t',rfl⟩:=ry;exact PySem.EqMixed.ne_str_int (bB I q Zy)
  |str j=>obtain⟨t',rfl⟩:=ry;exact ne_str (bB I q (congrArg not vf))
  |_=>exact absurd (show false=true from hs) zAg
 |byt i=>
  obtain⟨t,rfl⟩:=rx
  cases y with
  |byt j=>obtain⟨t',rfl⟩:=ry;exact PySem.W.ne_bytes (bB I q (congrArg not vg))
  |_=>exact absurd (show false=true from hs) zAg
 |_=>cases y<;>exact absurd (show false=true from hs) zAg
theorem jR:OpR X (compareOp .Lt) (rI0 fun i j=>.bl (decide (i<j))):=BL fun _ _ _ _ _ _ _ q=>lt_int q
theorem bM:OpR X (compareOp .LtE) (rI0 fun i j=>.bl (decide (i<=j))):=BL fun _ _ _ _ _ _ _ q=>le_int q
theorem lG:OpR X (compareOp .Gt) (rI0 fun i j=>.bl (decide (j<i))):=BL fun _ _ _ _ _ _ _ q=>gt_int q
theorem rK:OpR X (compareOp .GtE) (rI0 fun i j=>.bl (decide (j<=i))):=BL fun _ _ _ _ _ _ _ q=>ge_int q
theorem yI:OpR X (compareOp .Is) (fun x y H Q=>y=.non/\Q (.bl (decide (x=.non))) H):=by
 intro Zt s σ H x y v u Q I rx ry h;obtain⟨rfl,q⟩:=h;cases ry;refine is_none_gen (bB I q ?_)
 cases x<;>first
  | (cases rx;rfl)
  | (obtain⟨t,rfl⟩:=rx;rfl)
theorem bf(b:Expr){op:CmpOp}(h:op≠.In:=by decide)(h2:op≠.NotIn:=by decide):behindInMarks op b=false:=by
 have e1:(op==CmpOp.In)=false:=by cases op<;>first|rfl|exact absurd rfl h
 have e2:(op==CmpOp.NotIn)=false:=by cases op<;>first|rfl|exact absurd rfl h2
 cases b<;>simp[behindInMarks,e1,e2]
theorem dM{op:CmpOp}{r:R2}(ho:OpR X (compareOp op) r)(ha:PE X a ta)(hb:PE X b tb)(hm:behindInMarks op b=false):PE X (.Compare a [op] [b] pos) (tOp r ta tb):=by
 intro Zt s σ H Q I h;exact wpAny_Compare1 (Fl ha hb I h fun v u s2 x y H2 I2 rx ry q=>ho Zt s2 σ H2 x y v u Q I2 rx ry q) hm
def Ef(t:TE):TT:=fun σ H Q=>t σ H fun x H'=>∃k,x=.bl k/\Q k H'
theorem bz{op:CmpOp}{r:R2}(ho:OpR X (compareOp op) r)(ha:PE X a ta)(hb:PE X b tb)(hm:behindInMarks op b=false):PT X (.Compare a [op] [b] pos) (Ef (tOp r ta tb)):=by
 intro Zt s σ H Q I h
 refine wpAny_isTrue_Compare1 (thn (ha Zt s σ H _ I h) fun v s1 ⟨x,H1,I1,r1,q1⟩=>thn (hb Zt s1 σ H1 _ I1 q1) fun u s2 ⟨y,H2,I2,r2,q2⟩=>
  thn (ho Zt s2 σ H2 x y v u _ I2 r1 r2 q2) fun c s3 ⟨z,H3,I3,r3,k,e,q3⟩=>?_) hm
 subst e;cases r3;exact wpAny_truthy_bool ⟨H3,I3,q3⟩
def uw(r r':R2)(ta tb tc:TE):TE:=fun σ H Q=>ta σ H fun x H1=>tb σ H1 fun y H2=>r x y H2 fun z H3=>∃k,z=.bl k /\
 (if k=true then tc σ H3 fun w' H4=>r' y w' H4 Q else Q (.bl false) H3)
theorem cX{op oq:CmpOp}{r r':R2}(ho:OpR X (compareOp op) r)(hX:OpR X (compareOp oq) r')(ha:PE X a ta)(hb:PE X b tb)(hc:PE X c tc)
  (hm:lastMarks [op,oq] [b,c]=false:=by with_unfolding_all rfl):PE X (.Compare a [op,oq] [b,c] pos) (uw r r' ta tb tc):=by
 intro Zt s σ H Q I h
 refine Compare_chain (thn (ha Zt s σ H _ I h) fun v s1 ⟨x,H1,I1,r1,q1⟩=>chain_link (thn (hb Zt s1 σ H1 _ I1 q1) fun u s2 ⟨y,H2,I2,r2,q2⟩=>
  thn (ho Zt s2 σ H2 x y v u _ I2 r1 r2 q2) fun d s3 ⟨z,H3,I3,r3,k,e,q3⟩=>?_)) hm
 subst e;cases r3;refine wpAny_truthy_bool ?_
 cases k with
 |false=>exact ite_ff ⟨.bl false,H3,I3,rfl,q3⟩
 |true=>exact ite_tt (chain_last (thn (hc Zt s3 σ H3 _ I3 q3) fun w' s4 ⟨z',H4,I4,r4,q4⟩=>hX Zt s4 σ H4 y z' u w' Q I4 r2 r4 q4))
theorem fu{op oq:CmpOp}{r r':R2}(ho:OpR X (compareOp op) r)(hX:OpR X (compareOp oq) r')(ha:PE X a ta)(hb:PE X b tb)(hc:PE X c tc)
  (hm:lastMarks [op,oq] [b,c]=false:=by with_unfolding_all rfl):PT X (.Compare a [op,oq] [b,c] pos) (Ef (uw r r' ta tb tc)):=by
 intro Zt s σ H Q I h
 refine isTrue_chain (thn (ha Zt s σ H _ I h) fun v s1 ⟨x,H1,I1,r1,q1⟩=>test_link (thn (hb Zt s1 σ H1 _ I1 q1) fun u s2 ⟨y,H2,I2,r2,q2⟩=>
  thn (ho Zt s2 σ H2 x y v u _ I2 r1 r2 q2) fun d s3 ⟨z,H3,I3,r3,k,e,q3⟩=>?_)) hm
 subst e;cases r3;refine wpAny_truthy_bool ?_
 cases k with
 |false=>
  obtain⟨k',e',q'⟩:=q3;cases e';exact ite_ff ⟨H3,I3,q'⟩
 |true=>
  refine ite_tt (test_last (thn (hc Zt s3 σ H3 _ I3 q3) fun w' s4 ⟨z',H4,I4,r4,q4⟩=>thn (hX Zt s4 σ H4 y z' u w' _ I4 r2 r4 q4) fun d' s5 ⟨z2,H5,I5,r5,k2,e2,q5⟩=>?_));subst e2;cases r5;exact wpAny_truthy_bool ⟨H5,I5,q5⟩
theorem lH:(sizeLine:Nat)<2^63:=by rw[sizeLine_eq];decide
theorem vals1{x:V}{us:List Value}(r:Vals [x] us):∃u,us=[u]/\RelV x u:=by
 cases r with
 |cons r1 r2=>cases r2;exact⟨_,rfl,r1⟩
theorem vals2{x y:V}{us:List Value}(r:Vals [x,y] us):∃u w',us=[u,w']/\RelV x u/\RelV y w':=by
 cases r with
 |cons r1 r2=>
  cases r2 with
  |cons r3 r4=>cases r4;exact⟨_,_,rfl,r1,r3⟩
theorem oh(hc:X.calm=true):dU X (.builtin "max") (fun xs H Q=>∃i j,xs=[.int i,.int j]/\Q (.int (if j>i then j else i)) H):=by
 intro Zt s σ H xs us Q I r h;obtain⟨i,j,rfl,q⟩:=h;obtain⟨u,w',rfl,⟨t,rfl⟩,⟨t',rfl⟩⟩:=vals2 r
 refine max_two_ints (I.ok.hd hc) fun h' tk k=>⟨_,H,I.kept k,?_,q⟩
 by_cases hj:j>i
 .rw[zAx hj,zAx hj];exact⟨_,rfl⟩
 .rw[zAw hj,zAw hj];exact⟨_,rfl⟩
theorem il(hc:X.calm=true):dU X (.builtin "min") (fun xs H Q=>∃i j,xs=[.int i,.int j]/\Q (.int (if j<i then j else i)) H):=by
 intro Zt s σ H xs us Q I r h;obtain⟨i,j,rfl,q⟩:=h;obtain⟨u,w',rfl,⟨t,rfl⟩,⟨t',rfl⟩⟩:=vals2 r
 refine min_two_ints (I.ok.hd hc) fun h' tk k=>⟨_,H,I.kept k,?_,q⟩
 by_cases hj:j<i
 .rw[zAx hj,zAx hj];exact⟨_,rfl⟩
 .rw[zAw hj,zAw hj];exact⟨_,rfl⟩
theorem xf:dU X (.type "int") (fun xs H Q=>(∃i,xs=[.int i]/\Q (.int i) H)\/∃k,xs=[.bl k]/\Q (.int (if k then 1 else 0)) H):=by
 intro Zt s σ H xs us Q I r h;rcases h with⟨i,rfl,q⟩|⟨k,rfl,q⟩
 .obtain⟨u,rfl,t,rfl⟩:=vals1 r;exact call_int_int ⟨.int i,H,I,⟨_,rfl⟩,q⟩
 .obtain⟨u,rfl,r1⟩:=vals1 r;cases r1;exact call_int_bool ⟨.int (if k then 1 else 0),H,I.tok _,⟨_,rfl⟩,q⟩
end
structure ObjM(h:Heap)(x dx C:Addr)(mA:Str->Option Value):Prop where
 obj:h.get? x=some (PySem.W.instObj C dx)
 ns:h.Ns1 dx mA
 ne:dx≠x
theorem xj{h:Heap}{dx:Addr}{mA:Str->Option Value}(n:h.Ns1 dx mA):∃od,h.get? dx=some od/\∀name,PySem.W.lookIn name od=some (mA name):=by
 obtain⟨o,es,ep,ho,hd,hk,_,hm⟩:=n;refine⟨o,ho,fun name=>?_⟩;have e:=hm name;unfold nsFind findBy at e;rw[<-Array.find?_toList]at e;unfold PySem.W.lookIn;rw[hd];dsimp only;split
 .rename_i y q
  rw[q]at e;exact congrArg some e
 .rename_i q
  rw[q]at e
  have a:es.toList.any (·.refKey)=false:=by
   rw[List.any_eq_false];intro y hy;obtain⟨z,t,A5⟩:=hk y (Array.mem_toList_iff.mp hy);simp[DictEntry.refKey,A5]
  have a':¬es.toList.any (·.refKey)=true:=by rw[a];exact zAg
  rw[zAw a'];exact congrArg some e
theorem ObjM.look{h:Heap}{x dx C:Addr}{mA:Str->Option Value}(I:ObjM h x dx C mA):∃od,PySem.W.InstAt h x (PySem.W.instObj C dx) C (some od)/\∀name,PySem.W.lookIn name od=some (mA name):=
 let⟨od,ho,hl⟩:=xj I.ns
 ⟨od,⟨I.obj,rfl,rfl,ho⟩,hl⟩
section
variable{prog:Program}{w:World}{A:Around}{E:Value->Shared->Prop}{s:Shared}{K:Frag}{x dx C f:Addr}{mA:Str->Option Value}{name:Str}{v:Value}
end
theorem RelO.some_of{v:V}{o:Option Value}(r:RelO (some v) o):∃u,o=some u/\RelV v u:=by
 cases o with
 |none=>exact(show False from r).elim
 |some u=>exact⟨u,rfl,r⟩
section
variable{P:Program}{w:World}{H H':Hp}{h h':Heap}{a C dx:Addr}{fs K6:List (Str×V)}
theorem BP(hok:HOk P w H h)(e:H a=some (.ins C dx fs)):∃mA,ObjM h a dx C mA/\(∀f,RelO (fs.lookup f) (mA f))/\PySem.Within mA (fs.map (·.1))/\fs.length<=1000/\H dx=some (.own a):=by
 obtain⟨d,z,ne,ob,mA,n,r,q⟩:=(show ObjOk P w H h a (.ins C dx fs)from hok a _ e)
 exact⟨mA,⟨ob,n,ne⟩,r,q,z,d⟩
end
structure Cls(K:Frag)(C:Addr):Prop where
 pg:PySem.W.plainGet K C Str.empty=true
 hd:PySem.W.hasDictIn K C=true
 po:PySem.W.plainOver K C=true
 sa:PySem.W.findIn K (.ref C) "__setattr__"=some (some (.builtin "object.__setattr__"))
theorem Cls.get{K:Frag}{C:Addr}(c:Cls K C)(f:Str):PySem.W.plainGet K C f=true:=c.pg
section
variable{X:Cx}{Zt:List (Addr×Obj)}{σ:St}{H:Hp}{s:Shared}{a C dx:Addr}{fs:List (Str×V)}{f:Str}{v:V}{A:Around}{E:Value->Shared->Prop}
end
section
variable{X:Cx}{o e value:Expr}{f:Str}{pos pos' oj:Pos}{ta tv:TE}
end
section
variable{X:Cx}{Zt:List (Addr×Obj)}{σ:St}{H:Hp}{s:Shared}{A:Around}{E:Value->Shared->Prop}{Q:Value->Shared->Prop}{c:Value}{b:Bool}
inductive TyOf(K:Frag)(H:Hp):V->Value->Prop where
 |non:TyOf K H .non (.type "NoneType")
 |bl (x:Bool):TyOf K H (.bl x) (.type "bool")
 |int (i:Int):TyOf K H (.int i) (.type "int")
 |str (x:Str):TyOf K H (.str x) (.type "str")
 |flt (x:UInt64):TyOf K H (.flt x) (.type "float")
 |lst {a:Addr} {xs:List V} (e:H a=some (.lst xs)):TyOf K H (.ref a) (.type "list")
 |frz {a:Addr} {o:Obj} {xs:List V} (e:H a=some (.frz o (.lst xs))):TyOf K H (.ref a) (.type "list")
 |tup {a:Addr} {xs:List V} (e:H a=some (.tup xs)):TyOf K H (.ref a) (.type "tuple")
 |dK {a:Addr} {Zs:List (Key×V)} (e:H a=some (.dK Zs)):TyOf K H (.ref a) (.type "dict")
 |dT {a:Addr} {Zs:List (List Key×V)} (e:H a=some (.dT Zs)):TyOf K H (.ref a) (.type "dict")
 |ins {a C dx:Addr} {fs:List (Str×V)} (e:H a=some (.ins C dx fs)) (cl:Cls K C) (ha:PySem.W.findIn K (.ref C) "__class__"=some (some (.builtin "object.__class__")))
   (hn:PySem.W.specialIn K (.builtin "object.__class__") "__get__"=some (some (.builtin "getset_descriptor.__get__"))) (GO:PySem.W.takesIn K (.builtin "object.__class__")=some true)
   (hm:PySem.W.mroIn K C (.type "object")=some true):TyOf K H (.ref a) (.ref C)
theorem xm{x:V}{u t:Value}(I:Inv X Zt σ H s)(rx:RelV x u)(ty:TyOf X.K H x t)(e:PySem.W.kitOne X.K t c=some b)(h:∀tk,Q (.bool b) {s with toks:=tk}):
  wpAny (model X.prog X.w) A (call (.builtin "isinstance") [u,c]) Q E s:=by
 cases ty with
 |non=>cases(show u=Value.none from rx);exact PySem.W.kia_one PySem.W.kitx_none I.kIn True.intro e (fun z=>nomatch z) h
 |bl y=>cases(show u=Value.bool y from rx);exact PySem.W.kia_one PySem.W.kitx_bool I.kIn True.intro e (fun z=>nomatch z) h
 |int i=>obtain⟨t,q⟩:=(show ∃t,u=Value.int i t from rx);cases q;exact PySem.W.kia_one PySem.W.kitx_int I.kIn True.intro e (fun z=>nomatch z) h
 |str y=>obtain⟨t,q⟩:=(show ∃t,u=Value.str y t from rx);cases q;exact PySem.W.kia_one PySem.W.kitx_str I.kIn True.intro e (fun z=>nomatch z) h
 |flt y=>obtain⟨t,q⟩:=(show ∃t,u=Value.float y t from rx);cases q;exact PySem.W.kia_one PySem.W.kitx_float I.kIn True.intro e (fun z=>nomatch z) h
 |@lst a xs ea=>
  cases(show u=Value.ref a from rx)
  obtain⟨_,_,n,_,h1⟩:=(show ObjOk X.prog X.w H s.heap a (.lst xs)from I.hok a _ ea)
  exact PySem.W.kia_one PySem.W.kitx_list I.kIn ⟨_,h1,rfl⟩ e (fun z=>nomatch z) h
 |@frz a ob xs ea=>
  cases(show u=Value.ref a from rx)
  obtain⟨_,_,_,n,_,h1⟩:=(show ObjOk X.prog X.w H s.heap a (.frz ob (.lst xs))from I.hok a _ ea)
  exact PySem.W.kia_one PySem.W.kitx_list I.kIn ⟨_,h1,rfl⟩ e (fun z=>nomatch z) h
 |@tup a xs ea=>
  cases(show u=Value.ref a from rx)
  obtain⟨_,_,_,p⟩:=(show ObjOk X.prog X.w H s.heap a (.tup xs)from I.hok a _ ea)
  obtain⟨o,h1,h2,_⟩:=p;exact PySem.W.kia_one PySem.W.kitx_tuple I.kIn ⟨o,h1,h2⟩ e (fun z=>nomatch z) h
 |@dK a Zs ea=>
  cases(show u=Value.ref a from rx)
  obtain⟨_,_,vs,_,p⟩:=(show ObjOk X.prog X.w H s.heap a (.dK Zs)from I.hok a _ ea)
  obtain⟨o,es,ep,h1,h2,_⟩:=p;exact PySem.W.kia_one PySem.W.kitx_dict I.kIn ⟨o,h1,h2.1⟩ e (fun z=>nomatch z) h
 |@dT a Zs ea=>
  cases(show u=Value.ref a from rx)
  obtain⟨_,_,xs,_,o,es,ep,h1,h2,_⟩:=(show ObjOk X.prog X.w H s.heap a (.dT Zs)from I.hok a _ ea)
  exact PySem.W.kia_one PySem.W.kitx_dict I.kIn ⟨o,h1,h2.1⟩ e (fun z=>nomatch z) h
 |@ins a C dx fs ea cl ha hn GO hm=>
  cases(show u=Value.ref a from rx);obtain⟨mA,O,_⟩:=BP I.hok ea;obtain⟨od,J,_⟩:=O.look;exact PySem.W.kia_one (PySem.W.kitx_own (cl.get _) cl.hd ha hn GO hm) I.kIn J e (fun z=>nomatch z) h
end
structure Room(k:Nat)(A:Around):Prop where
 hd:A.handled=none
 dp:A.depth+3*k+5<recursionLimit
 un:A.units+16*k+200<cLine
 gd:A.guards=some []
theorem Room.mono{j k:Nat}{A:Around}(r:Room k A)(h:j<=k):Room j A:=⟨r.hd,by have:=r.dp;lia,by have:=r.un;lia,r.gd⟩
theorem Room.deeper{k:Nat}{A:Around}(r:Room (k+1) A)(env:Env):Room k (A.deeper env):=
 ⟨r.hd,by have:=r.dp;show A.depth+1+3*k+5<_;lia,by have:=r.un;show A.units+3+16*k+200<_;lia,r.gd⟩
theorem Room.depth{k:Nat}{A:Around}(r:Room k A):A.depth<recursionLimit:=by have:=r.dp;lia
theorem Room.units{k:Nat}{A:Around}(r:Room k A):A.units+64<cLine:=by have:=r.un;lia
def Fp:TA:=fun _ H Q=>Q [] H
def rM(ta:TE)(tr:TA):TA:=fun σ H Q=>ta σ H fun x H1=>tr σ H1 fun xs H2=>Q (x::xs) H2
section
variable{X:Cx}{e:Expr}{es:List Expr}{te:TE}{t:TA}{pos:Pos}
theorem ao:PA X [] Fp:=fun _ _ _ _ H Q I h=>Calls.spliced_nil ⟨[],H,I,.nil,h⟩
theorem aQ(ha:PE X e te)(hr:PA X es t)(hs:starEach (e::es) X.env=(false,eval e X.env)::starEach es X.env:=by rfl):PA X (e::es) (rM te t):=by
 intro pos Zt s σ H Q I h;rw[hs];show wpAny _ _ (spliced ((false,eval e X.env)::backTo pos (starEach es X.env))) _ _ s;refine Calls.spliced_cons (thn (ha Zt s σ H _ I h) fun u s1 ⟨x,H1,I1,r1,q1⟩=>?_)
 exact thn (hr pos Zt s1 σ H1 _ I1 q1) fun us s2 ⟨xs,H2,I2,r2,q2⟩=>⟨x::xs,H2,I2,.cons r1 r2,q2⟩
def Fq(t:TA):TE:=fun σ H Q=>t σ H fun xs H1=>xs.length<=sizeLine/\∀p,H1 p=none->Q (.ref p) (upd H1 p (.tup xs))
def Ft(t:TA):TE:=fun σ H Q=>t σ H fun xs H1=>xs.length<=sizeLine/\∀p,H1 p=none->Q (.ref p) (upd H1 p (.lst xs))
theorem cz{x1}(h:PA X es t):PE X (.Tuple es x1 pos) (Fq t):=by
 intro Zt s σ H Q I hq;refine wpAny_Tuple_spliced (thn (h pos Zt s σ H _ I hq) fun us s1 ⟨xs,H1,I1,r,z,q⟩=>⟨by rw[<-r.length];exact z,?_⟩);have hf:H1 s1.heap.objs.size=none:=I1.hok.fresh (zA3 _);refine⟨.ref s1.heap.objs.size,upd H1 s1.heap.objs.size (.tup xs),I1.laid (t':=s1.toks) (fun b u e=>zAz _ e) (zA3 _) ?_,rfl,q _ hf⟩;exact⟨z,us,r,⟨_,zB3 _ rfl,rfl,_,rfl⟩⟩
theorem cJ(h:PA X es t):PE X (.List es pos) (Ft t):=by
 intro Zt s σ H Q I hq;refine wpAny_List_spliced (thn (h pos Zt s σ H _ I hq) fun us s1 ⟨xs,H1,I1,r,z,q⟩=>⟨by rw[<-r.length];exact z,?_⟩);have hf:H1 s1.heap.objs.size=none:=I1.hok.fresh (zA3 _);refine⟨.ref s1.heap.objs.size,upd H1 s1.heap.objs.size (.lst xs),I1.laid (t':=s1.toks) (fun b u e=>zAz _ e) (zA3 _) ?_,rfl,q _ hf⟩;exact⟨z,us,0,r,zB3 _ rfl⟩
end
abbrev Sp:=List V->Hp->VK->XK->Prop
abbrev CXT:=List Env->Hp->Shared->XK->Value->Shared->Prop
structure Env0(P:Program)(w:World)(K:Frag)(mg:Str->Option Value)(base:Heap)(A:Around)(outer:List Env)(s:Shared)(H:Hp):Prop where
 frames:A.frames=some outer
 mod:Mod K mg base
 bs:∀b o,base.get? b=some o->s.heap.get? b=some o/\H b=none
 bsz:base.objs.size<=s.heap.objs.size
 funs:s.heap.FunFrames base outer
 frf:∀b∈frs outer,H b=none
 hok:HOk P w H s.heap
 bare:AllBare s.gens
def CE(outer:List Env)(P:Program)(w:World)(H:Hp)(s:Shared)(Q:VK)(u:Value)(s':Shared):Prop:=
 ∃v H',s'.os=s.os/\AllBare s'.gens/\Un (frs outer) [] H H' s.heap s'.heap/\HOk P w H' s'.heap/\RelV v u/\Q v H'
def CR(CX:CXT)(outer:List Env)(P:Program)(w:World)(H:Hp)(s:Shared)(Q:VK)(E:XK)(r:Result)(s':Shared):Prop:=
 match r with
 |.ok (.ret u)=>CE outer P w H s Q u s'
 |.ok _=>False
 |.error e=>CX outer H s E e s'
structure FnOk(P:Program)(w:World)(K:Frag)(mg:Str->Option Value)(base:Heap)(CX:CXT)(k:Nat)(f:Addr)(fd:FuncData)(ps:List Str)(sp:Sp):Prop where
 len:∀vs H Q E,sp vs H Q E->vs.length=ps.length
 run:∀(A:Around) (outer:List Env) (s:Shared) (H:Hp) (args:Args) (us:List Value) (vs:List V) (Q:VK) (E:XK),Room k A->Env0 P w K mg base A outer s H->BindsTo s fd args (ps.zip us)->Vals vs us->sp vs H Q E->
  codeAny (model P w) A (.call (.ref f) args) (CR CX outer P w H s Q E) s
theorem FnOk.imp{P:Program}{w:World}{K:Frag}{mg:Str->Option Value}{base:Heap}{CX:CXT}{k:Nat}{f:Addr}{fd:FuncData}{ps:List Str}{sp sp':Sp}(F:FnOk P w K mg base CX k f fd ps sp)
  (h:∀vs H Q E,sp' vs H Q E->sp vs H Q E):FnOk P w K mg base CX k f fd ps sp':=
 ⟨fun vs H Q E q=>F.len vs H Q E (h _ _ _ _ q),fun A outer s H args us vs Q E hr he hb hv hs=>F.run A outer s H args us vs Q E hr he hb hv (h _ _ _ _ hs)⟩
section
variable{X:Cx}{Zt:List (Addr×Obj)}{σ:St}{H:Hp}{s s':Shared}
theorem Inv.env0(I:Inv X Zt σ H s):Env0 X.prog X.w X.K X.mg X.base X.A X.stack s H:=
 ⟨I.ok.frames,I.ok.mod,I.bs,Nat.le_trans I.ok.bsz I.sz,I.stack,I.stkFree,I.hok,I.bare⟩
theorem Inv.after{Q:VK}{u:Value}(I:Inv X Zt σ H s)(h:CE X.stack X.prog X.w H s Q u s'):EP X Zt σ Q u s':=by
 obtain⟨v,H',os,bare,un,hok,r,q⟩:=h;obtain⟨hh,g,d,t,Lc⟩:=s';obtain rfl:Lc=s.os:=os;exact⟨v,H',I.call (h':=hh) (g':=g) (d':=d) (t':=t) (ch:=[]) un hok bare (fun b z=>absurd z Zy),r,q⟩
end
def Eg(sp:Sp)(l9:List V)(E:XK)(t:TA):TE:=fun σ H Q=>t σ H fun vs H1=>sp (vs++l9) H1 Q E
def Binds(K:Frag)(fd:FuncData)(ps:List Str)(ds:List Value):Prop:=
 ∀(s:Shared) (us:List Value),K.In s.heap->(us++ds).length=ps.length->BindsTo s fd ⟨us,[]⟩ (ps.zip (us++ds))
theorem Binds.all{K:Frag}{fd:FuncData}{ps:List Str}(h:∀us:List Value,us.length=ps.length->bindArgs fd ⟨us,[]⟩=pure (ps.zip us)):Binds K fd ps []:=fun s us _ hl=>by
 rw[zAn]at hl⊢;exact .of_eq (h us hl)
def uz(CX:CXT)(X:Cx)(E:XK):Prop:=∀(Zt:List (Addr×Obj)) (σ:St) (H:Hp) (s:Shared) (e:Value) (s':Shared),Inv X Zt σ H s->CX X.stack H s E e s'->X.xe e s'
section
variable{X:Cx}{CX:CXT}{k:Nat}{f C:Addr}{fd:FuncData}{ps:List Str}{sp:Sp}{l9:List V}{ds:List Value}{E:XK}{x m:Str}{p pos apos:Pos}{e o:Expr}{es:List Expr}{ta:TE}{t:TA}
theorem Fv{Zt:List (Addr×Obj)}{σ:St}{H:Hp}{s:Shared}{Q:VK}{us:List Value}{vs:List V}(F:FnOk X.prog X.w X.K X.mg X.base CX k f fd ps sp)(hr:Room k X.A)(hb:Binds X.K fd ps ds)(hd:Vals l9 ds)(hx:uz CX X E)
  (I:Inv X Zt σ H s) (r:Vals vs us) (h:sp (vs++l9) H Q E):wpAny (model X.prog X.w) X.A (call (.ref f) us) (EP X Zt σ Q) X.xe s:=by
 have r2:Vals (vs++l9) (us++ds):=r.append hd;have hl:(us++ds).length=ps.length:=by rw[<-r2.length];exact F.len _ _ _ _ h
 refine wpAny_call (codeAny_mono (F.run X.A X.stack s H ⟨us,[]⟩ (us++ds) (vs++l9) Q E hr I.env0 (hb s us I.kIn hl) r2 h) fun r s' hq=>?_)
 cases r with
 |error e=>exact hx Zt σ H s e s' I hq
 |ok fl=>
  cases fl with
  |ret u=>exact I.after hq
  |next=>exact False.elim hq
  |brk=>exact False.elim hq
  |cont=>exact False.elim hq
theorem BR(F:FnOk X.prog X.w X.K X.mg X.base CX k f fd ps sp)(hr:Room k X.A)(hg:Gl X x)(hm:X.mg x=some (.ref f))(hk:PySem.W.keepIn X.K (.ref f)=true)(hb:Binds X.K fd ps ds)(hd:Vals l9 ds)(hx:uz CX X E)
  (ha:PA X (e::es) t) (ot:(x==("__debug__":Str))=false:=by decide) (he:starEach (e::es) X.env=(false,eval e X.env)::starEach es X.env:=by rfl) (md:(backTo pos (starEach es X.env)).any (·.1)=false:=by rfl):
  PE X (.Call (.Name x p) (e::es) [] pos) (Eg sp l9 E t):=by
 intro Zt s σ H Q I h;refine wpAny_Call_Name_kw (v8 I hg hm ?_ ot);refine PySem.W.callWith_K (h₀:=X.base) I.ok.mod.kin hk (thn (ha pos Zt s σ H _ I h) fun us s1 ⟨vs,H1,I1,r,q⟩=>⟨I1.kIn,?_⟩) he md;exact Fv F hr hb hd hx I1 r q
end
section
variable{X:Cx}{CX:CXT}{k:Nat}{f C:Addr}{fd:FuncData}{ps ks:List Str}{sp:Sp}{E:XK}{x m:Str}{p pos apos Ld:Pos}{e o:Expr}{es:List Expr}{QP:List Keyword}{te ta:TE}{t tk:TA}{nm:Option Str}
variable{g:List Value->List Value->List Value}{gV:List V->List V->List V}
end
structure FnScope(N P:List Str)(sc:Scope):Prop where
 kind:sc.kind=.function
 co:sc.isCoroutine=false
 gen:sc.isGenerator=false
 nd:N.Nodup
 pre:N.take P.length=P
 par:∀x∈P,sc.names.lookup x=some .local\/sc.names.lookup x=some .cell
 nofree:∀y∈sc.names,y.2≠.free
theorem ou{kindOf:Str->Option NameKind}{x:Str}:∀{binds:List (Str×Value)} {m:Str->Option Value},(∀v,(x,v)∉binds)->bindL kindOf binds m x=m x
 |[],_,_=>rfl
 | (n,v)::r,m,h=>by
  unfold bindL;rw[ou fun w hw=>h w (List.mem_cons_of_mem _ hw)];split
  .have:x≠n:=by rintro rfl;exact h v List.mem_cons_self
   simp[this]
  .rfl
theorem oA{kindOf:Str->Option NameKind}{x:Str}:∀{binds:List (Str×Value)} {m:Str->Option Value},(∀v,(x,v)∉binds)->bindC kindOf binds m x=m x
 |[],_,_=>rfl
 | (n,v)::r,m,h=>by
  unfold bindC;rw[oA fun w hw=>h w (List.mem_cons_of_mem _ hw)];split
  .rfl
  .have:x≠n:=by rintro rfl;exact h v List.mem_cons_self
   simp[this]
theorem oE{kindOf:Str->Option NameKind}{x:Str}{v:Value}:∀{P:List Str} {vs:List Value} {i:Nat} {m:Str->Option Value},P.Nodup->P[i]?=some x->vs[i]?=some v->kindOf x=some .local->
  bindL kindOf (P.zip vs) m x=some v
 |[],_,_,_,_,h,_,_=>by simp at h
 |_::_,[],_,_,_,_,h,_=>by simp at h
 |p::P,w::vs,0,m,nd,h1,h2,hk=>by
  simp at h1 h2;subst h1;subst h2;show bindL kindOf ((p,w)::P.zip vs) m p=_;unfold bindL;rw[ou fun v hv=>(List.nodup_cons.mp nd).1 (List.of_mem_zip hv).1,if_pos hk];simp
 |p::P,w::vs,i+1,m,nd,h1,h2,hk=>by
  show bindL kindOf ((p,w)::P.zip vs) m x=_;unfold bindL;exact oE (i:=i) (List.nodup_cons.mp nd).2 (by simpa using h1) (by simpa using h2) hk
theorem oF{kindOf:Str->Option NameKind}{x:Str}{v:Value}:∀{P:List Str} {vs:List Value} {i:Nat} {m:Str->Option Value},P.Nodup->P[i]?=some x->vs[i]?=some v->kindOf x≠some .local->
  bindC kindOf (P.zip vs) m x=some v
 |[],_,_,_,_,h,_,_=>by simp at h
 |_::_,[],_,_,_,_,h,_=>by simp at h
 |p::P,w::vs,0,m,nd,h1,h2,hk=>by
  simp at h1 h2;subst h1;subst h2;show bindC kindOf ((p,w)::P.zip vs) m p=_;unfold bindC;rw[oA fun v hv=>(List.nodup_cons.mp nd).1 (List.of_mem_zip hv).1,if_neg hk];simp
 |p::P,w::vs,i+1,m,nd,h1,h2,hk=>by
  show bindC kindOf ((p,w)::P.zip vs) m x=_;unfold bindC;exact oF (i:=i) (List.nodup_cons.mp nd).2 (by simpa using h1) (by simpa using h2) hk
def start(N:List Str)(vs:List V):St:=vs.map some++List.replicate (N.length-vs.length) none
def xn(CX:CXT)(P:Program)(w:World)(K:Frag)(mg:Str->Option Value)(base:Heap)(N:List Str)(qual:Str)(scope:Scope)(f:Addr)(cd:Value)(A:Around)(outer:List Env)(s:Shared)(H:Hp)(E:XK):Cx where
 prog:=P
 w:=w
 K:=K
 mg:=mg
 base:=base
 A:=A.deeper (envOfC qual scope s.heap.objs.size f cd)
 N:=N
 s₀:=s
 H₀:=H
 env:=envOfC qual scope s.heap.objs.size f cd
 outer:=outer
 stack:=envOfC qual scope s.heap.objs.size f cd::outer
 ex:=[]
 calm:=true
 fn:=fun _=>true
 pn:=[]
 xe:=fun e s'=>wpAny (model P w) (A.deeper (envOfC qual scope s.heap.objs.size f cd)) (leaving (envOfC qual scope s.heap.objs.size f cd) e) (fun _ rf=>CX outer H s E e rf) (fun e' rf=>CX outer H s E e' rf) s'
theorem rN{sc:Scope}{n:Nat}{x:Str}(h:sc.names.lookup x=some .cell):∃c,(cellsFrom n sc.names []).lookup x=some c:=by
 have q:=PySem.W.cellsFrom_some sc.names n [] (.inl h);exact Option.isSome_iff_exists.mp q
theorem xq{CX:CXT}{P:Program}{w:World}{K:Frag}{mg:Str->Option Value}{base:Heap}{N ps:List Str}{qual:Str}{scope:Scope}{f:Addr}{cd:Value}{A:Around}{outer:List Env}{s s1:Shared}{H:Hp}{E:XK}{us:List Value}{vs:List V}
  (S:FnScope N ps scope) (hd:A.handled=none) (e0:Env0 P w K mg base A outer s H) (hl:vs.length=ps.length) (r:Vals vs us)
  (x:InCallC s s.heap.objs.size (bindL (envOfC qual scope s.heap.objs.size f cd).kindOf (ps.zip us) fun _=>none) (cellsFrom (s.heap.objs.size+1) scope.names []) (bindC (envOfC qual scope s.heap.objs.size f cd).kindOf (ps.zip us) fun _=>none) s1):
  Inv (xn CX P w K mg base N qual scope f cd A outer s H E) [] (start N vs) H s1:=by
 have md:ps.length<=N.length:=by have:=congrArg List.length S.pre;rw[zAd]at this;lia
 obtain⟨h1,tk,rfl,hk⟩:=x.done;have tj:∀b:Addr,b∉(xn CX P w K mg base N qual scope f cd A outer s H E).ex:=fun b z=>absurd (show b∈([]:List Addr)from z) Zy
 refine⟨⟨e0.mod,S.kind,rfl,rfl,zA3 _,fun y z c h1 h2=>?_,fun y hy=>?_,fun y c _ h=>?_,fun _=>hd,Around.frames_deeper e0.frames,.inr ⟨rfl,rfl⟩,fun b z=>absurd z (tj b),e0.bs,e0.bsz,fun b _ _=>tj b,fun b z=>absurd z (tj b),e0.funs,e0.frf⟩,
  rfl,e0.bare,Un.kept hk,⟨_,x.toInCall.ns,fun i y v h1 h2 h3=>?_⟩,fun y c h=>⟨_,x.cell y c h⟩,e0.hok.fresh (Nat.le_refl _),fun y c h=>?_,fun p hp=>absurd (show p∈([]:List (Addr×Obj))from hp) Zy,e0.hok.kept hk,?_⟩
 .exact name_of_addr x.apart (PySem.mem_of_lookup h1) (PySem.mem_of_lookup h2)
 .have hy:scope.names.lookup y=some .cell\/scope.names.lookup y=some .free:=hy;rcases hy with hy|hy
  .exact rN hy
  .exact absurd rfl (S.nofree _ (PySem.mem_of_lookup hy))
 .exact Nat.le_of_lt (x.above y c (PySem.mem_of_lookup h))
 .have hi:i<vs.length:=by
   unfold start at h2;by_cases hi:i<vs.length
   .exact hi
   .rw[List.getElem?_append_right (by simpa using hi)]at h2;rw[List.getElem?_replicate]at h2;split at h2<;>cases h2
  have ha:vs[i]?=some v:=by
   unfold start at h2;rw[List.getElem?_append_left (by simpa using hi),List.getElem?_map]at h2
   cases e:vs[i]? with
   |none=>rw[e]at h2;cases h2
   |some a=>rw[e]at h2;cases h2;rfl
  obtain⟨u,hu,rv⟩:=r.get ha
  have hp:ps[i]?=some y:=by
   rw[<-S.pre,List.getElem?_take_of_lt Zz];exact h1
  have GS:ps.Nodup:=by rw[<-S.pre];exact S.nd.sublist (List.take_sublist _ _)
  refine⟨u,rv,?_⟩;rcases S.par y (zB6 hp)with k|k
  .exact .inl ⟨k,oE GS hp hu k⟩
  .obtain⟨c,e⟩:=rN (n:=s.heap.objs.size+1) k;refine .inr ⟨.inl k,c,e,?_⟩;have q:=x.cell y c e;rw[oF GS hp hu (by show scope.names.lookup y≠_;rw[k];decide)]at q;exact q
 .exact e0.hok.fresh (Nat.le_of_lt (x.above y c (PySem.mem_of_lookup h)))
 .unfold start;show _=N.length;rw[zA2,zA1,List.length_replicate];lia
theorem Hm{CX:CXT}{P:Program}{w:World}{K:Frag}{mg:Str->Option Value}{base:Heap}{k:Nat}{f:Addr}{name qual:Str}{params:Arguments}{body:List Stmt}{scope:Scope}{dV kV doc pm ar ct oc:Value}{an od:Option Addr}
  {me:Array (Option Value)} {N ps:List Str} {sp:Sp} (lk:K.lookup f=some ⟨oc,od,.func (PySem.W.fnOf name qual params body scope dV kV doc pm an ar ct),me⟩) (hZ:PySem.W.codeIn K ar qual=true) (S:FnScope N ps scope)
  (len:∀vs H Q E,sp vs H Q E->vs.length=ps.length)
  (iq:∀(A:Around) (outer:List Env) (s:Shared) (H:Hp) (vs:List V) (Q:VK) (E:XK),Room k (A.deeper (envOfC qual scope s.heap.objs.size f ar))->sp vs H Q E->
   ∃t,PSs (xn CX P w K mg base N qual scope f ar A outer s H E) body t/\t {nx:=fun _ H'=>Q .non H',rt:=Q} (start N vs) H):
  FnOk P w K mg base CX (k+1) f (PySem.W.fnOf name qual params body scope dV kV doc pm an ar ct) ps sp:=by
 refine⟨len,fun A outer s H args us vs Q E hr e0 hb r mf=>?_⟩;have hl:=len _ _ _ _ mf;have KX:K.In s.heap:=e0.mod.kin.keeps fun b o e=>(e0.bs b o e).1;have lim:s.heap.NoLimit:=e0.mod.nolimit.keeps fun b o e=>(e0.bs b o e).1
 have tq:∀y∈ps.zip us,scope.names.lookup y.1=some .local\/(scope.names.lookup y.1=some .cell/\((cellsFrom (s.heap.objs.size+1) scope.names []).lookup y.1).isSome=true):=fun⟨n,v⟩ hy=>by
  rcases S.par n (List.of_mem_zip hy).1 with q|q
  .exact .inl q
  .exact .inr ⟨q,PySem.W.cellsFrom_some _ _ _ (.inl q)⟩
 refine codeAny_call_function hr.depth (KX _ _ lk) rfl S.co S.gen rfl (PySem.W.codeRec_of KX hZ) (hb _ _ _ _ ?_);refine wpAny_newFunctionEnv_cells S.kind tq fun env he s1 x=>?_;subst he;refine⟨lim.keeps x.toInCall.keep,codeAny_func ?_⟩;obtain⟨t,ht,hq⟩:=iq A outer s H vs Q E (hr.deeper _) mf;have I:Inv (xn CX P w K mg base N qual scope f ar A outer s H E) [] (start N vs) H s1:=xq S hr.hd e0 hl r x;refine wpAny_mono (ht [] s1 (start N vs) H _ I hq) (fun fl s' hs=>?_) fun e s' hs=>hs
 have fin:∀{ai:St} {H':Hp} {v:V} {u:Value},Inv (xn CX P w K mg base N qual scope f ar A outer s H E) [] ai H' s'->RelV v u->Q v H'->CE outer P w H s Q u s':=
  fun{ai H' v u} J rv q=>⟨v,H',J.os,J.bare,J.base,J.hok,rv,q⟩
 cases fl with
 |ret u=>
  obtain⟨v,ai,H',J,rv,q⟩:=hs;exact fin J rv q
 |next=>
  obtain⟨ai,H',J,q⟩:=hs;exact fin (v:=V.non) (u:=Value.none) J rfl q
 |brk=>
  obtain⟨_,_,_,q⟩:=hs;exact False.elim q
 |cont=>
  obtain⟨_,_,_,q⟩:=hs;exact False.elim q
section
variable{X:Cx}{x:Str}{p pos:Pos}{e:Expr}{es:List Expr}{t:TA}{id T:String}{r:List V->Hp->VK->Prop}
def tCB(r:List V->Hp->VK->Prop)(t:TA):TE:=fun σ H Q=>t σ H fun vs H1=>r vs H1 Q
theorem aN(hc:dU X (.builtin id) r)(hg:Gl X x)(hm:X.mg x=none)(hv:bootBuiltins x=some (.builtin id))(ha:PA X (e::es) t)(hn:x≠"__name__":=by decide)(ot:(x==("__debug__":Str))=false:=by decide)
  (he:starEach (e::es) X.env=(false,eval e X.env)::starEach es X.env:=by rfl) (md:(backTo pos (starEach es X.env)).any (·.1)=false:=by rfl):PE X (.Call (.Name x p) (e::es) [] pos) (tCB r t):=by
 intro Zt s σ H Q I h;refine wpAny_Call_Name_kw (iM I hg hm hv ?_ hn ot);exact PyProof.Rows.callWith_builtin1 (thn (ha pos Zt s σ H _ I h) fun us s1 ⟨vs,H1,I1,r1,q1⟩=>hc Zt s1 σ H1 vs us Q I1 r1 q1) he md
theorem dw(hc:dU X (.type T) r)(hg:Gl X x)(hm:X.mg x=none)(hv:bootBuiltins x=some (.type T))(ha:PA X (e::es) t)(hn:x≠"__name__":=by decide)(ot:(x==("__debug__":Str))=false:=by decide)
  (he:starEach (e::es) X.env=(false,eval e X.env)::starEach es X.env:=by rfl) (md:(backTo pos (starEach es X.env)).any (·.1)=false:=by rfl):PE X (.Call (.Name x p) (e::es) [] pos) (tCB r t):=by
 intro Zt s σ H Q I h;refine wpAny_Call_Name_kw (iM I hg hm hv ?_ hn ot);exact PyProof.Rows.callWith_type1 (thn (ha pos Zt s σ H _ I h) fun us s1 ⟨vs,H1,I1,r1,q1⟩=>hc Zt s1 σ H1 vs us Q I1 r1 q1) he md
end
end L2
namespace HT
open PySem PyProof.Rows
def lexLt:List Int->List Int->Bool
 |[],[]=>false
 |[],_::_=>true
 |_::_,[]=>false
 |x::xs,y::ys=>if x=y then lexLt xs ys else decide (x<y)
theorem lexLt_cons(x y:Int)(xs ys:List Int):lexLt (x::xs) (y::ys)=if x=y then lexLt xs ys else decide (x<y):=rfl
section
open PySem.SeqAt
open PySem.AutoSeq1 (wpAny_loadPart')
open PySem.MeetsSeq PySem.MeetsSeq2 PySem.MeetsSeq3
end
section
variable{prog:Program}{w:World}{A:Around}{E:Value->Shared->Prop}{s:Shared}
theorem cat_tup{t b:Addr}{vs ws:List Value}{Q:Value->Shared->Prop}(ht:IsTup s.heap t vs.toArray)(hb:IsTup s.heap b ws.toArray)(hv:vs≠[])
  (h1:ws=[]->Q (.ref t) s) (h2:ws≠[]->Q (.ref s.heap.objs.size) {s with heap:=s.heap.push {cls:=.type "tuple",data:=.seq (vs++ws).toArray}})
  (hsz:vs.length+ws.length<=sizeLine):wpAny (model prog w) A (binaryOp .Add (.ref t) (.ref b)) Q E s:=by
 obtain⟨⟨cls,dd,data,sl⟩,ho,hc,n,hd⟩:=id ht;obtain⟨⟨A6,rg,data2,oz⟩,kG,tw,n2,hd2⟩:=id hb;simp only at hc hd tw hd2;subst hc hd tw hd2;have e:vs.toArray++ws.toArray=(vs++ws).toArray:=by simp
 by_cases hw:ws=[]
 .exact concat_meets ⟨_,ho,rfl⟩ ⟨_,kG,rfl⟩ noFill_tuple_add seq_tuple_add PySem.F.slot_tuple_add PySem.F.entry_tuple_add (PySem.F.args_tuple_add_2 _ _)
   (tuple_addW1 t b vs.toArray ws.toArray n n2 dd rg sl oz (by simpa using hv) (by simp[hw])) ⟨ho,kG,h1 hw⟩
 .refine concat_meets ⟨_,ho,rfl⟩ ⟨_,kG,rfl⟩ noFill_tuple_add seq_tuple_add PySem.F.slot_tuple_add PySem.F.entry_tuple_add (PySem.F.args_tuple_add_2 _ _)
   (tuple_addW2 t b vs.toArray ws.toArray n n2 dd rg sl oz (by simpa using hv) (by simpa using hw) (by rw[List.size_toArray,List.size_toArray];exact hsz)) ⟨ho,kG,?_⟩
  rw[e];exact h2 hw
def sIx(n d:Nat):Option Int->Nat
 |none=>d
 |some v=>if v<0 then(v+(n:Int)).toNat else min v.toNat n
theorem sIx_none(n d:Nat):sIx n d none=d:=rfl
theorem sIx_nat(n d k:Nat):sIx n d (some (k:Int))=min k n:=by
 show(if(k:Int)<0 then((k:Int)+(n:Int)).toNat else min (k:Int).toNat n)=min k n;rw[zAw Zz,zAi]
theorem Fw(n d:Nat)(hd:d<=n)(o:Option Int):sIx n d o<=n:=by
 cases o with
 |none=>exact hd
 |some v=>
  show(if v<0 then(v+(n:Int)).toNat else min v.toNat n)<=n;by_cases hv:v<0
  .rw[zAx hv];lia
  .rw[zAw hv];exact Nat.min_le_right _ _
theorem vh(v:Int)(n d:Nat):(if v<0 then max (v+(n:Int)) 0 else min v (n:Int))=((sIx n d (some v):Nat):Int):=by
 show(if v<0 then max (v+(n:Int)) 0 else min v (n:Int))=(((if v<0 then(v+(n:Int)).toNat else min v.toNat n):Nat):Int);by_cases hv:v<0
 .simp only[if_pos hv];lia
 .simp only[if_neg hv];lia
theorem uA(lo hi:Option Int)(n:Nat):Builtin.Slice.sliceAdjust lo hi 1 (n:Int)=(((sIx n 0 lo:Nat):Int),((sIx n n hi:Nat):Int)):=by
 have h1:¬((1:Int)<0):=Zz
 unfold Builtin.Slice.sliceAdjust;simp only[h1,if_false];refine Prod.ext ?_ ?_
 .cases lo with
  |none=>rfl
  |some v=>exact vh v n 0
 .cases hi with
  |none=>rfl
  |some v=>exact vh v n n
theorem uB(i j:Nat):Builtin.Slice.slicePlaces (i:Int) (j:Int) 1=j-i:=by
 unfold Builtin.Slice.slicePlaces;have h1:(1:Int)>0:=Zz
 simp only[h1,if_true,Int.ediv_one];split<;>lia
theorem lJ{v:Value}{o:Option Int}{Q:Option Int->Shared->Prop}(p:IsPart v o)(h:Q o s):wpAny (model prog w) A (Builtin.Slice.slicePartIndex v) Q E s:=by
 cases p with
 |none=>exact slicePart_none h
 |int i t=>exact slicePart_int h
theorem gh{sl:Addr}{vl vu:Value}{lo hi:Option Int}{n:Nat}{Q:Int×Int×Nat->Shared->Prop}(hs:s.heap.IsSliceOf sl vl vu .none)(pl:IsPart vl lo)(pu:IsPart vu hi)
  (h:Q (((sIx n 0 lo:Nat):Int),1,sIx n n hi-sIx n 0 lo) s):wpAny (model prog w) A (Builtin.Slice.sliceApplied (.ref sl) (pure (n:Int))) Q E s:=by
 obtain⟨os,oB,gI,tF⟩:=id hs;unfold Builtin.Slice.sliceApplied Builtin.Slice.sliceFields;refine zAu (zAu (wpAny_field oB tF (x:=vl) rfl (zAu (wpAny_field oB tF (x:=vu) rfl (zAu (wpAny_field oB tF (x:=.none) rfl (zAy ?_)))))));refine zAu (slicePart_none ?_);show wpAny _ _ (if((1:Int)==0)=true then _ else _) _ _ s;rw[zAw Zx];refine zAu (lJ pl (zAu (lJ pu (zAu (zAy ?_)))));show wpAny _ _ (match Builtin.Slice.sliceAdjust lo hi 1 (n:Int)with | (lo,hi)=>pure (lo,(1:Int),Builtin.Slice.slicePlaces lo hi 1)) _ _ s;rw[uA lo hi n];show wpAny _ _ (pure (((sIx n 0 lo:Nat):Int),(1:Int),Builtin.Slice.slicePlaces ((sIx n 0 lo:Nat):Int) ((sIx n n hi:Nat):Int) 1)) _ _ s;rw[uB];exact zAy h
theorem yJ(xs:Array Value)(i k:Nat):((List.range k).filterMap fun(m:Nat)=>xs[((i:Int)+(m:Int)*1).toNat]?).toArray=((xs.toList.drop i).take k).toArray:=by
 have e:(fun(m:Nat)=>xs[((i:Int)+(m:Int)*1).toNat]?)=fun m=>xs[i+m]?:=by
  funext m;have:((i:Int)+(m:Int)*1).toNat=i+m:=Zz
  rw[this]
 rw[e];have:=pick_run xs i k;rw[List.filterMap_map]at this;have e2:((fun x=>xs[x]?)∘fun x=>i+x)=fun m=>xs[i+m]?:=rfl;rw[e2]at this;rw[this]
theorem getItem_tuple_cut{t sl:Addr}{items:Array Value}{vl vu:Value}{lo hi:Option Int}{Q:Value->Shared->Prop}(ht:IsTup s.heap t items)(hs:s.heap.IsSliceOf sl vl vu .none)(pl:IsPart vl lo)(pu:IsPart vu hi)
  (hw:¬(sIx items.size 0 lo=0/\sIx items.size items.size hi=items.size))
  (h:Q (.ref s.heap.objs.size) {s with heap:=s.heap.push {cls:=.type "tuple",data:=.seq ((items.toList.drop (sIx items.size 0 lo)).take (sIx items.size items.size hi-sIx items.size 0 lo)).toArray}})
  (hsz:items.size<=sizeLine):wpAny (model prog w) A (getItem (.ref t) (.ref sl)) Q E s:=by
 have gp:sizeOk (.seq ((items.toList.drop (sIx items.size 0 lo)).take (sIx items.size items.size hi-sIx items.size 0 lo)).toArray):=by
  show((items.toList.drop (sIx items.size 0 lo)).take (sIx items.size items.size hi-sIx items.size 0 lo)).toArray.size<=sizeLine;rw[zA8,zAd,List.length_drop,zA9];lia
 have hj:sIx items.size items.size hi<=items.size:=Fw _ _ (zA3 _) hi;obtain⟨os,oB,gI,tF⟩:=id hs
 have A7:s.TypeIs (.ref sl) "slice":=⟨os,oB,gI⟩
 unfold getItem
 try with_reducible refine wpAny_holding ?_
 first|refine zAu (zAy ?_)|skip
 refine zAu (wpAny_sequenceKey ht.typeIs Zx ?_)
 refine zAu (wpAny_callSpecial?_slot (name:=Str.ofString "__getitem__") ht.typeIs PyProof.Rows.slot_tuple_getitem
  (wpAny_call_entry PyProof.Rows.slot_tuple_getitem ht.typeIs entry_tuple_getitem ?_ (args_tuple_getitem _ _)))
 show wpAny _ _ (Builtin.Tuple.tupleItemsOf (.ref t)>>=_) _ _ s;refine zAu (tupleItemsOf_ ht ?_);refine zAu (wpAny_typeOf A7 ?_);rw[zAx Zx];refine zAu (gh hs pl pu ?_)
 have Le:¬((((sIx items.size 0 lo:Nat):Int)==0&&(1:Int)==1&&(sIx items.size items.size hi-sIx items.size 0 lo)==items.size)=true):=by
  intro q;rw[zAc,zAc]at q;have q1:((sIx items.size 0 lo:Nat):Int)=0:=eq_of_beq q.1.1;have q2:sIx items.size items.size hi-sIx items.size 0 lo=items.size:=eq_of_beq q.2;exact hw ⟨Zz,Zz⟩
 show wpAny _ _ (if(((sIx items.size 0 lo:Nat):Int)==0&&(1:Int)==1&&(sIx items.size items.size hi-sIx items.size 0 lo)==items.size)=true then _ else _) _ _ s;rw[zAw Le,yJ]
 first
  |exact zAu (m:=Builtin.Tuple.tupleExact _) (wpAny_newObj_type (zAy ⟨_,rfl,zAy h⟩) gp)
  |exact zAu (m:=Builtin.Tuple.tupleExact _) (wpAny_newObj_type (zAu (zAy (zAy ⟨_,rfl,zAy h⟩))) gp)
  |exact zAu (zAu (m:=Builtin.Tuple.tupleExact _) (wpAny_newObj_type (zAy (zAy ⟨_,rfl,zAy h⟩)) gp))
  |exact zAu (zAu (m:=Builtin.Tuple.tupleExact _) (wpAny_newObj_type (zAy ⟨_,rfl,zAy h⟩) gp))
end
end HT
namespace L2
open PySem PySem.Spec PyProof.Rows
abbrev TO:=St->Hp->(Option Int->Hp->Prop)->Prop
def PO(X:Cx)(e:Option Expr)(t:TO):Prop:=
 ∀(Zt:List (Addr×Obj)) (s:Shared) (σ:St) (H:Hp) (Q:Option Int->Hp->Prop),Inv X Zt σ H s->t σ H Q->
  wpAny (model X.prog X.w) X.A (evalPart e X.env) (fun u s'=>∃o H',Inv X Zt σ H' s'/\IsPart u o/\Q o H') X.xe s
def BV:TO:=fun _ H Q=>Q none H
def Hn(t:TE):TO:=fun σ H Q=>t σ H fun x H1=>∃i,x=.int i/\Q (some i) H1
theorem intsAre_of{ns:List Int}:∀{us:List Value},Vals (ns.map V.int) us->IntsAre us ns:=by
 induction ns with
 |nil=>intro us r;rw[List.map_nil]at r;cases r;exact .nil
 |cons n ns ih=>
  intro us r;rw[zAk]at r
  cases r with
  |cons r1 r2=>
   obtain⟨t,e⟩:=r1;subst e;exact .cons n t (ih r2)
section
variable{X:Cx}{e:Expr}{te:TE}{lo hi:Option Expr}{tl th:TO}{pos p2:Pos}
theorem q8:PO X none BV:=by
 intro Zt s σ H Q I h;rw[evalPart_none];exact zAy ⟨none,H,I,.none,h⟩
theorem q9(h:PE X e te):PO X (some e) (Hn te):=by
 intro Zt s σ H Q I hw;rw[evalPart_some];refine thn (h Zt s σ H _ I hw) fun u s1 ⟨x,H1,I1,r1,q1⟩=>?_;obtain⟨i,rfl,q⟩:=q1;obtain⟨t,rfl⟩:=r1;exact⟨some i,H1,I1,.int i t,q⟩
def SlR(X:Cx)(r:V->Option Int->Option Int->Hp->VK->Prop):Prop:=
 ∀(Zt:List (Addr×Obj)) (s:Shared) (σ:St) (H:Hp) (x:V) (v vl vu:Value) (lo hi:Option Int) (sl:Addr) (Q:VK),Inv X Zt σ H s->RelV x v->s.heap.IsSliceOf sl vl vu .none->IsPart vl lo->IsPart vu hi->r x lo hi H Q->
  ∃T id,typeLookup (.type T) "__getitem__"=pure (some (.builtin id))/\s.TypeIs v T/\wpAny (model X.prog X.w) X.A (getItem v (.ref sl)) (EP X Zt σ Q) X.xe s
def tSl(r:V->Option Int->Option Int->Hp->VK->Prop)(te:TE)(tl th:TO):TE:=fun σ H Q=>te σ H fun x H1=>tl σ H1 fun l H2=>th σ H2 fun u H3=>r x l u H3 Q
theorem lK{r:V->Option Int->Option Int->Hp->VK->Prop}(hr:SlR X r)(he:PE X e te)(hl:PO X lo tl)(hu:PO X hi th):PE X (.Subscript e (.Slice lo hi none p2) pos) (tSl r te tl th):=by
 intro Zt s σ H Q I h;refine Subscript_ (thn (he Zt s σ H _ I h) fun v s1 ⟨x,H1,I1,r1,q1⟩=>?_);refine wpAny_Slice (thn (hl Zt s1 σ H1 _ I1 q1) fun vl s2 ⟨l,H2,I2,pl,q2⟩=>thn (hu Zt s2 σ H2 _ I2 q2) fun vu s3 ⟨u,H3,I3,pu,q3⟩=>?_);rw[evalPart_none];refine zAy ?_;have I4:Inv X Zt σ H3 {s3 with heap:=s3.heap.push {cls:=.type "slice",data:=.fields #[vl,vu,.none]}}:=I3.kept (t':=s3.toks) fun b ob q=>zAz _ q;obtain⟨T,id,hT,ht,hg⟩:=hr Zt {s3 with heap:=s3.heap.push {cls:=.type "slice",data:=.fields #[vl,vu,.none]}} σ H3 x v vl vu l u s3.heap.objs.size Q I4 r1 (Heap.IsSliceOf.new ..) pl pu q3;show wpAny (model X.prog X.w) X.A (subscriptTail e (.Slice lo hi none p2) v (.ref s3.heap.objs.size)) (EP X Zt σ Q) X.xe {s3 with heap:=s3.heap.push {cls:=.type "slice",data:=.fields #[vl,vu,.none]}};exact tail_any (ops:=[.ref s3.heap.objs.size,v]) ht hT hg (by with_unfolding_all rfl)
def nC(xs:List V)(lo hi:Option Int):List V:=(xs.drop (HT.sIx xs.length 0 lo)).take (HT.sIx xs.length xs.length hi-HT.sIx xs.length 0 lo)
theorem jT(xs:List V)(lo hi:Option Int):(nC xs lo hi).length<=xs.length:=by
 unfold nC;rw[zAd,List.length_drop];lia
inductive RSlTI(K:Frag)(x:V)(lo:Option Int)(hi:Option Int)(H:Hp)(Q:VK):Prop
 |mk:∀a xs,(x=.ref a)->(SqT K H a xs)->(¬(HT.sIx xs.length 0 lo=0/\HT.sIx xs.length xs.length hi=xs.length))->(∀p,H p=none->Q (.ref p) (upd H p (.tup (nC xs lo hi))))->RSlTI K x lo hi H Q
def Ho(K:Frag):V->Option Int->Option Int->Hp->VK->Prop:=fun x lo hi H Q=>RSlTI K x lo hi H Q
theorem yK:SlR X (Ho X.K):=by
 intro Zt s σ H x v vl vu lo hi sl Q I rx hs pl pu h;obtain⟨a,xs,rfl,hx,hw,q⟩:=h;cases rx;obtain⟨Zr,r,ht,hz⟩:=I.tuple hx;have hlen:Zr.toArray.size=xs.length:=by rw[zA8];exact r.length.symm
 refine⟨"tuple",_,PyProof.Rows.slot_tuple_getitem.lookup,ht.typeIs,?_⟩;refine HT.getItem_tuple_cut ht hs pl pu (by rw[hlen];exact hw) ?_ (by rw[hlen];exact hz);rw[hlen];refine⟨.ref s.heap.objs.size,_,I.laid (t':=s.toks) (o:=.tup (nC xs lo hi)) (fun b ob q=>zAz _ q) (zA3 _) ?_,rfl,q _ (I.hok.fresh (zA3 _))⟩;exact⟨Nat.le_trans (jT xs lo hi) hz,_,(r.drop (HT.sIx xs.length 0 lo)).take (HT.sIx xs.length xs.length hi-HT.sIx xs.length 0 lo),IsTup.new _ _⟩
inductive RCatTI(K:Frag)(x:V)(y:V)(H:Hp)(Q:VK):Prop
 |mk:∀a b xs ys,(x=.ref a)->(y=.ref b)->(SqT K H a xs)->(SqT K H b ys)->(xs≠[])->(xs.length+ys.length<=sizeLine)->((ys=[]->Q (.ref a) H))->((ys≠[]->∀p,H p=none->Q (.ref p) (upd H p (.tup (xs++ys)))))->RCatTI K x y H Q
def Hq(K:Frag):R2:=fun x y H Q=>RCatTI K x y H Q
theorem Vals.nil_iff{xs:List V}{us:List Value}(r:Vals xs us):us=[]↔xs=[]:=by
 cases r with
 |nil=>simp
 |cons _ _=>simp
theorem BW:OpR X (binaryOp .Add) (Hq X.K):=by
 intro Zt s σ H x y v u Q I rx ry h;obtain⟨a,b,xs,ys,rfl,rfl,ha,hb,hx,hz,q1,q2⟩:=h;cases rx;cases ry;obtain⟨Zr,r1,p1,_⟩:=I.tuple ha;obtain⟨br,r2,p2,_⟩:=I.tuple hb;refine HT.cat_tup p1 p2 (fun z=>hx (r1.nil_iff.mp z)) (fun z=>⟨.ref a,H,I,rfl,q1 (r2.nil_iff.mp z)⟩) (fun z=>?_) (by rw[<-r1.length,<-r2.length];exact hz);refine⟨.ref s.heap.objs.size,_,I.laid (t':=s.toks) (o:=.tup (xs++ys)) (fun b ob q=>zAz _ q) (zA3 _) ?_,rfl,q2 (fun w=>z (r2.nil_iff.mpr w)) _ (I.hok.fresh (zA3 _))⟩;exact⟨by rw[zA2];exact hz,_,r1.append r2,IsTup.new _ _⟩
end
def ixN(n:Nat)(i:Int):Option Nat:=if 0<=i then(if i<n then some i.toNat else none)else if -(n:Int)<=i then some (i+n).toNat else none
def atI{α:Type}(xs:List α)(i:Int):Option α:=(ixN xs.length i).bind fun j=>xs[j]?
theorem vm{n:Nat}{i:Int}{j:Nat}(h:ixN n i=some j):seqIndex? i n=some j/\j<n/\-(n:Int)<=i/\i<n:=by
 unfold ixN at h;by_cases h0:0<=i
 .rw[zAx h0]at h;by_cases h1:i<n
  .rw[zAx h1]at h;have e:i.toNat=j:=zAl h;exact⟨by rw[seqIndex_of h0 h1,e],Zz,Zz,h1⟩
  .rw[zAw h1]at h;cases h
 .rw[zAw h0]at h;by_cases h1:-(n:Int)<=i
  .rw[zAx h1]at h;have e:(i+n).toNat=j:=zAl h;exact⟨by rw[seqIndex_neg Zz h1,e],Zz,h1,Zz⟩
  .rw[zAw h1]at h;cases h
theorem vo{α:Type}{xs:List α}{i:Int}{v:α}(h:atI xs i=some v):∃j,seqIndex? i xs.length=some j/\xs[j]?=some v/\j<xs.length/\-(xs.length:Int)<=i/\i<xs.length:=by
 unfold atI at h
 cases e:ixN xs.length i with
 |none=>rw[e]at h;cases h
 |some j=>
  rw[e]at h;obtain⟨h1,h2,h3,h4⟩:=vm e;exact⟨j,h1,h,h2,h3,h4⟩
theorem dN{α:Type}{xs:List α}{j:Nat}{v:α}(h:xs[j]?=some v):atI xs (j:Int)=some v:=by
 have hj:j<xs.length:=(zAa.mp h).1
 have e:ixN xs.length (j:Int)=some j:=by
  unfold ixN;rw[if_pos Zz,if_pos Zz];simp
 unfold atI;rw[e];exact h
def qb(b:Expr):Prop:=∀o i,subscripted b false o i=operate [o,i] (getItem o i)
def IxR(X:Cx)(r:R2):Prop:=
 ∀(value slice:Expr) (Zt:List (Addr×Obj)) (s:Shared) (σ:St) (H:Hp) (x y:V) (v u:Value) (Q:VK),Inv X Zt σ H s->RelV x v->RelV y u->r x y H Q->
  subscripted slice false v u=operate [v,u] (getItem v u)->wpAny (model X.prog X.w) X.A (subscriptTail value slice v u) (EP X Zt σ Q) X.xe s
def MtR(X:Cx)(id:String)(r:V->List V->Hp->VK->Prop):Prop:=
 ∀(Zt:List (Addr×Obj)) (s:Shared) (σ:St) (H:Hp) (x:V) (xs:List V) (v:Value) (us:List Value) (Q:VK),Inv X Zt σ H s->RelV x v->Vals xs us->r x xs H Q->
  wpAny (model X.prog X.w) X.A (call (.builtin id) (v::us)) (EP X Zt σ Q) X.xe s
section
variable{X:Cx}{a b:Expr}{ta tb:TE}{pos:Pos}
theorem Eh{r:R2}(hr:IxR X r)(ha:PE X a ta)(hb:PE X b tb)(hs:qb b):PE X (.Subscript a b pos) (tOp r ta tb):=by
 intro Zt s σ H Q I h;exact Subscript_ (Fl ha hb I h fun v u s2 x y H2 I2 rx ry q=>hr a b Zt s2 σ H2 x y v u Q I2 rx ry q (hs _ _))
inductive RIxLI(K:Frag)(x:V)(y:V)(H:Hp)(Q:VK):Prop
 |mk:∀p xs i v,(x=.ref p)->(y=.int i)->(SqL K H p xs)->(atI xs i=some v)->(Q v H)->RIxLI K x y H Q
def Hr(K:Frag):R2:=fun x y H Q=>RIxLI K x y H Q
inductive RIxTI(K:Frag)(x:V)(y:V)(H:Hp)(Q:VK):Prop
 |mk:∀p xs i v,(x=.ref p)->(y=.int i)->(SqT K H p xs)->(atI xs i=some v)->(Q v H)->RIxTI K x y H Q
def Hs(K:Frag):R2:=fun x y H Q=>RIxTI K x y H Q
theorem bZ:IxR X (Hr X.K):=by
 intro value slice Zt s σ H x y v u Q I rx ry h hs;obtain⟨p,xs,i,z,rfl,rfl,hq,he,q⟩:=h;cases rx;obtain⟨t,rfl⟩:=ry;obtain⟨Zr,r,pl,hz⟩:=I.list hq;obtain⟨j,h1,h2,h3,h4,h5⟩:=vo he;obtain⟨w,ew,eJ⟩:=r.get h2;have hl:=r.length;have hn:=lH
 have fin:EP X Zt σ Q w s:=⟨z,H,I,eJ,q⟩
 by_cases h0:0<=i
 .have hj:i.toNat=j:=by
   rw[seqIndex_of h0 h5]at h1;exact zAl h1
  exact item_listR pl.isList h0 Zz (by rw[hj];simpa using ew) fin hs
 .have hj:(i+(Zr.toArray.size:Int)).toNat=j:=by
   rw[seqIndex_neg Zz h4]at h1;rw[zA8,<-hl];exact zAl h1
  exact subscriptTail_builtinR (x:=w) pl.isList.typeIs slot_list_getitem.lookup
   (wpAny_getItem_list_neg (Q:=fun r s'=>r=w/\EP X Zt σ Q r s') pl.isList Zz (by rw[List.size_toArray]<;>lia) Zz (by rw[hj];simpa using ew) ⟨rfl,fin⟩) hs
theorem bC:IxR X (Hs X.K):=by
 intro value slice Zt s σ H x y v u Q I rx ry h hs;obtain⟨p,xs,i,z,rfl,rfl,hq,he,q⟩:=h;cases rx;obtain⟨t,rfl⟩:=ry;obtain⟨Zr,r,pl,hz⟩:=I.tuple hq;obtain⟨j,h1,h2,h3,h4,h5⟩:=vo he;obtain⟨w,ew,eJ⟩:=r.get h2;have hl:=r.length;have hn:=lH
 have fin:EP X Zt σ Q w s:=⟨z,H,I,eJ,q⟩
 exact subscriptTail_builtinR (x:=w) pl.typeIs slot_tuple_getitem.lookup
  (getItem_tuple (j:=j) (Q:=fun r s'=>r=w/\EP X Zt σ Q r s') pl Zz Zz (by rw[List.size_toArray,<-hl];exact h1) (by simpa using ew) ⟨rfl,fin⟩) hs
theorem uC(Zr:List Value)(n j:Nat)(u:Value):Obj.mapSeq (·.setIfInBounds j u) {cls:=.type "list",data:=.seq Zr.toArray n}={cls:=.type "list",data:=.seq (Zr.set j u).toArray n}:=by
 simp[Obj.mapSeq]
theorem Inv.lst{Zt:List (Addr×Obj)}{σ:St}{H:Hp}{s:Shared}{p:Addr}{xs:List V}(I:Inv X Zt σ H s)(h:H p=some (.lst xs)):
  ∃(Zr:List Value) (n:Nat),Vals xs Zr/\s.heap.get? p=some {cls:=.type "list",data:=.seq Zr.toArray n}/\xs.length<=sizeLine:=by
 obtain⟨z,Zr,n,r,e⟩:=I.hok p _ h;exact⟨Zr,n,r,e,z⟩
theorem Inv.lstUpd{Zt:List (Addr×Obj)}{σ:St}{H:Hp}{s:Shared}{p:Addr}{xs ys:List V}{Zr its':List Value}{n n':Nat}{f:Obj->Obj}(I:Inv X Zt σ H s)(h:H p=some (.lst xs))
  (ho:s.heap.get? p=some {cls:=.type "list",data:=.seq Zr.toArray n}) (hf:f {cls:=.type "list",data:=.seq Zr.toArray n}={cls:=.type "list",data:=.seq its'.toArray n'}) (r:Vals ys its') (hz:ys.length<=sizeLine) (t:Nat):
  Inv X Zt σ (upd H p (.lst ys)) {s with heap:=s.heap.update p f,toks:=t}:=by
 have e:(s.heap.update p f).get? p=some {cls:=.type "list",data:=.seq its'.toArray n'}:=by
  rw[Heap.get?_update_self f ho (by rw[hf]<;>rfl),hf]
 refine I.write (x:=p) (e:=p) (by rw[h];trivial) (.inl rfl) (fun b u hb q=>(Heap.get?_update_other _ _ (Ne.symm hb)).trans q) ⟨_,e⟩ ?_;exact⟨hz,its',n',r,e⟩
inductive RSetLI(o:V)(i:V)(v:V)(H:Hp)(Q:Hp->Prop):Prop
 |mk:∀p xs k j,(o=.ref p)->(i=.int k)->(H p=some (.lst xs))->(ixN xs.length k=some j)->(Q (upd H p (.lst (xs.set j v))))->RSetLI  o i v H Q
def Ht:V->V->V->Hp->(Hp->Prop)->Prop:=fun o i v H Q=>RSetLI  o i v H Q
theorem set_list:Fj X Ht:=by
 intro Zt s σ H o i v ov iv u Q I ro ri rv h;obtain⟨p,xs,k,j,rfl,rfl,hp,hj,q⟩:=h;cases ro;obtain⟨t,rfl⟩:=ri;obtain⟨Zr,n,r,ho,hz⟩:=I.lst hp;obtain⟨h1,h2,h3,h4⟩:=vm hj;have hl:=r.length;have hn:=lH
 have I':Inv X Zt σ (upd H p (.lst (xs.set j v))) {s with heap:=s.heap.update p (Obj.mapSeq (·.setIfInBounds j u))}:=
  I.lstUpd hp ho (uC Zr n j u) (r.set rv j) (by rw[List.length_set];exact hz) s.toks
 by_cases h0:0<=k
 .have hk:k.toNat=j:=by
   rw[seqIndex_of h0 h4]at h1;exact zAl h1
  exact PySem.W.ki_setAt ho h0 Zz (by rw[zA8,<-hl];exact h4) (by rw[hk];exact⟨_,I',q⟩)
 .have hk:(k+(Zr.toArray.size:Int)).toNat=j:=by
   rw[seqIndex_neg Zz h3]at h1;rw[zA8,<-hl];exact zAl h1
  exact PySem.W.ki_setBack ho Zz (by rw[zA8,<-hl];exact h3) Zz (by rw[hk];exact⟨_,I',q⟩)
theorem qd(lo hi:Option Int)(n:Nat):(sliceBounds lo hi none n).1=((HT.sIx n 0 lo:Nat):Int)/\(sliceBounds lo hi none n).2.1=((HT.sIx n n hi:Nat):Int)/\(sliceBounds lo hi none n).2.2=1:=by
 refine⟨?_,?_,rfl⟩
 .cases lo with
  |none=>simp[sliceBounds,HT.sIx]
  |some i=>
   simp only[sliceBounds,HT.sIx,Option.getD_none,show(1:Int)>0 by decide,if_true];by_cases h:i<0
   .simp only[h,if_true]<;>lia
   .simp only[h,if_false]<;>lia
 .cases hi with
  |none=>simp[sliceBounds,HT.sIx]
  |some i=>
   simp only[sliceBounds,HT.sIx,Option.getD_none,show(1:Int)>0 by decide,if_true];by_cases h:i<0
   .simp only[h,if_true]<;>lia
   .simp only[h,if_false]<;>lia
theorem nF(Zr:List Value)(lo hi:Option Int):slicePick Zr.toArray lo hi none=((Zr.drop (HT.sIx Zr.length 0 lo)).take (HT.sIx Zr.length Zr.length hi-HT.sIx Zr.length 0 lo)).toArray:=by
 obtain⟨h1,h2,h3⟩:=qd lo hi Zr.toArray.size;unfold slicePick;rw[h1,h2,h3];simp only[sliceRange_one,pick_run,List.size_toArray]<;>rfl
inductive RSlLI(K:Frag)(x:V)(lo:Option Int)(hi:Option Int)(H:Hp)(Q:VK):Prop
 |mk:∀a xs,(x=.ref a)->(SqL K H a xs)->(∀p,H p=none->Q (.ref p) (upd H p (.lst (nC xs lo hi))))->RSlLI K x lo hi H Q
def Jy(K:Frag):V->Option Int->Option Int->Hp->VK->Prop:=fun x lo hi H Q=>RSlLI K x lo hi H Q
theorem BZ:SlR X (Jy X.K):=by
 intro Zt s σ H x v vl vu lo hi sl Q I rx hs pl pu h;obtain⟨a,xs,rfl,hx,q⟩:=h;cases rx;obtain⟨Zr,r,ht,hz⟩:=I.list hx;have hlen:=r.length;refine⟨"list",_,slot_list_getitem.lookup,ht.isList.typeIs,?_⟩;refine wpAny_getItem_list_slice ht.isList hs pl pu .none Zy ?_ (by rw[List.size_toArray]<;>lia);rw[nF,<-hlen];refine⟨.ref s.heap.objs.size,_,I.laid (t':=s.toks) (o:=.lst (nC xs lo hi)) (fun b ob q=>Heap.get?_push_of_some _ q) (zA3 _) ?_,rfl,q _ (I.hok.fresh (zA3 _))⟩;exact⟨Nat.le_trans (jT xs lo hi) hz,_,0,(r.drop (HT.sIx xs.length 0 lo)).take (HT.sIx xs.length xs.length hi-HT.sIx xs.length 0 lo),Heap.get?_push_size _ rfl⟩
theorem bF:dU X (.builtin "len") (fun xs H Q=>∃p ys,xs=[.ref p]/\(SqL X.K H p ys\/SqT X.K H p ys)/\Q (.int ys.length) H):=by
 intro Zt s σ H xs us Q I r h;obtain⟨p,ys,rfl,hq,q⟩:=h;obtain⟨u,rfl,rx⟩:=vals1 r;cases rx;have hn:=lH;rcases hq with hq|hq
 .obtain⟨Zr,r',pl,hz⟩:=I.list hq;have hlen:=r'.length;exact Calls.call_len_list pl.isList (by simp only[List.size_toArray]<;>lia) ⟨.int ys.length,H,I.tok _,⟨s.toks+1,by rw[List.size_toArray,hlen]⟩,q⟩
 .obtain⟨Zr,r',pl,hz⟩:=I.tuple hq;have hlen:=r'.length;exact len_tuple pl (by simp only[List.size_toArray]<;>lia) ⟨.int ys.length,H,I.tok _,⟨s.toks+1,by rw[List.size_toArray,hlen]⟩,q⟩
theorem qe:dU X (.type "list") (fun xs H Q=>∃p ys,xs=[.ref p]/\(SqL X.K H p ys\/SqT X.K H p ys)/\∀l,H l=none->Q (.ref l) (upd H l (.lst ys))):=by
 intro Zt s σ H xs us Q I r h;obtain⟨p,ys,rfl,hq,q⟩:=h;obtain⟨u,rfl,rx⟩:=vals1 r;cases rx
 have fin:∀(Zr:List Value),Vals ys Zr->ys.length<=sizeLine->∀(h':Heap) (c':Nat),(∀b o',s.heap.get? b=some o'->h'.get? b=some o')->
   h'.get? s.heap.objs.size=some {cls:=.type "list",dict:=none,data:=.seq Zr.toArray c',slots:=#[]}->EP X Zt σ Q (.ref s.heap.objs.size) {s with heap:=h'}:=fun Zr r' hz h' c' kp e=>
  ⟨.ref s.heap.objs.size,_,I.laid (t':=s.toks) kp (zA3 _) (show ObjOk X.prog X.w _ h' _ (.lst ys)from⟨hz,Zr,c',r',e⟩),rfl,q _ (I.hok.fresh (zA3 _))⟩
 rcases hq with hq|hq
 .obtain⟨Zr,r',pl,hz⟩:=I.list hq;have hlen:=r'.length;obtain⟨o,ho,hc,n,hd⟩:=pl.isList;exact call_list_seq p (.inl rfl) ho hc hd (fun h' c' kp e=>fin Zr r' hz h' c' kp e) (by simp only[List.size_toArray]<;>lia)
 .obtain⟨Zr,r',pl,hz⟩:=I.tuple hq;have hlen:=r'.length;obtain⟨o,ho,hc,n,hd⟩:=pl;exact call_list_seq p (.inr rfl) ho hc hd (fun h' c' kp e=>fin Zr r' hz h' c' kp e) (by simp only[List.size_toArray]<;>lia)
theorem cU:dU X (.type "tuple") (fun xs H Q=>∃p ys,xs=[.ref p]/\((SqL X.K H p ys/\∀l,H l=none->Q (.ref l) (upd H l (.tup ys)))\/(SqT X.K H p ys/\Q (.ref p) H))):=by
 intro Zt s σ H xs us Q I r h;obtain⟨p,ys,rfl,h⟩:=h;obtain⟨u,rfl,rx⟩:=vals1 r;cases rx;rcases h with⟨hq,q⟩|⟨hq,q⟩
 .obtain⟨Zr,r',pl,hz⟩:=I.list hq;have hlen:=r'.length;refine call_tuple_list pl.isList (fun h' kp=>?_) (by simp only[List.size_toArray]<;>lia);have I1:Inv X Zt σ H {s with heap:=h'}:=I.kept (t':=s.toks) kp
  have I2:Inv X Zt σ (upd H h'.objs.size (.tup ys)) {s with heap:=h'.push {cls:=.type "tuple",data:=.seq Zr.toArray}}:=
   I1.laid (t':=s.toks) (fun b o e=>zAz _ e) (zA3 _) (show ObjOk X.prog X.w _ _ _ (.tup ys)from⟨hz,Zr,r',IsTup.new _ _⟩)
  exact⟨.ref h'.objs.size,_,I2,rfl,q _ (I1.hok.fresh (zA3 _))⟩
 .obtain⟨Zr,r',pl,hz⟩:=I.tuple hq;exact call_tuple_same pl ⟨.ref p,H,I,rfl,q⟩
def tyV(K:Frag)(T:String)(x:V)(H:Hp):Prop:=match x with
 |.str _=>T="str"
 |.int _=>T="int"
 |.ref p=>(T="list"/\∃xs,SqL K H p xs)\/(T="tuple"/\∃o,K.lookup p=some o/\o.cls=.type "tuple"/\o.dict=none) \/
   (T="dict"/\((∃Zs,H p=some (.dK Zs))\/∃Zs,H p=some (.dT Zs)))\/(T="set"/\∃S n,H p=some (.set S n))
 |_=>False
theorem Fx{Zt:List (Addr×Obj)}{σ:St}{H:Hp}{s:Shared}{T:String}{x:V}{v:Value}(I:Inv X Zt σ H s)(r:RelV x v)(ty:tyV X.K T x H):
  s.TypeIs v T/\∀a,v=.ref a->∃ob,s.heap.get? a=some ob/\ob.dict=none:=by
 cases x with
 |str z=>
  obtain⟨t,rfl⟩:=r;cases(show T="str" from ty);exact⟨typeIs_str s z t,fun _ e=>nomatch e⟩
 |int i=>
  obtain⟨t,rfl⟩:=r;cases(show T="int" from ty);exact⟨typeIs_int s i t,fun _ e=>nomatch e⟩
 |ref p=>
  cases r;rcases ty with⟨rfl,xs,hq⟩|⟨rfl,o,hk,hc,hd⟩|⟨rfl,hk⟩|⟨rfl,S,n,hk⟩
  .obtain⟨Zr,_,pl,_⟩:=I.list hq;refine⟨pl.isList.typeIs,fun a e=>?_⟩;cases e;obtain⟨o,n,e,c,hd,_⟩:=pl;exact⟨o,e,hd⟩
  .refine⟨⟨o,I.kIn p o hk,hc⟩,fun a e=>?_⟩;cases e;exact⟨o,I.kIn _ o hk,hd⟩
  .have z:∃o,s.heap.get? p=some o/\o.ExactDict:=by
    rcases hk with⟨Zs,hk⟩|⟨Zs,hk⟩
    .obtain⟨_,_,_,_,o,_,_,e,ex,_⟩:=I.hok p _ hk;exact⟨o,e,ex⟩
    .obtain⟨_,_,_,_,o,_,_,e,ex,_⟩:=I.hok p _ hk;exact⟨o,e,ex⟩
   obtain⟨o,e,ex⟩:=z;refine⟨⟨o,e,ex.1⟩,fun a e2=>?_⟩;cases e2;exact⟨o,e,ex.2.1⟩
  .obtain⟨o,_,_,_,e,ex,_⟩:=I.hok p _ hk;refine⟨⟨o,e,ex.1⟩,fun a e2=>?_⟩;cases e2;exact⟨o,e,ex.2.1⟩
 |_=>exact False.elim ty
def tBM(K:Frag)(T:String)(r:V->List V->Hp->VK->Prop)(to:TE)(t:TA):TE:=fun σ H Q=>to σ H fun x H1=>tyV K T x H1/\t σ H1 fun xs H2=>r x xs H2 Q
variable{o e:Expr}{es:List Expr}{to:TE}{t:TA}{name:Str}{apos bE:Pos}{T id:String}{r:V->List V->Hp->VK->Prop}
theorem oG(pa:PlainAttrs T)(slot:Slot T name id)(Lf:typeOf (.builtin id)=pure (.type "method_descriptor"))(hm:MtR X id r)(ho:PE X o to)(ha:PA X (e::es) t)
  (tI:attributeBase o name X.env (eval o X.env)=eval o X.env:=by rfl)
  (A8:((backTo bE (starEach (e::es) X.env)).all (fun x=>!x.1)&&(backToKw bE (keywordEach [] X.env)).all (fun x=>x.1.isSome)
   && decide ((e::es).length+([]:List Keyword).length+(if([]:List Keyword).isEmpty then 0 else 1)<30))=true:=by rfl)
  (tJ:(apos.endLine==bE.line)=true:=by rfl) (hs:starEach (e::es) X.env=(false,eval e X.env)::starEach es X.env:=by rfl) (oC:(backTo bE (starEach es X.env)).any (·.1)=false:=by rfl):
  PE X (.Call (.Attribute o name apos) (e::es) [] bE) (tBM X.K T r to t):=by
 intro Zt s σ H Q I h;refine wpAny_Call_method_late tI A8 tJ rfl (thn (ho Zt s σ H _ I h) fun v s1 ⟨x,H1,I1,r1,ty,q1⟩=>?_);obtain⟨h1,h2⟩:=Fx I1 r1 ty;refine⟨T,id,pa,slot,Lf,h1,h2,?_⟩;have hA:=ha bE Zt s1 σ H1 _ I1 q1;rw[hs]at hA⊢;refine Calls.callWith_builtin (by show(false||(backTo bE (starEach es X.env)).any (·.1))=false;rw[oC]<;>rfl) (Calls.evalArgs_plain ?_);exact thn hA fun us s2 ⟨vs,H2,I2,r2,q2⟩=>hm Zt s2 σ H2 x vs v us Q I2 r1 r2 q2
end
def MtM(X:Cx)(id:String)(r:V->List V->Hp->VK->Prop):Prop:=
 ∀(Zt:List (Addr×Obj)) (s:Shared) (σ:St) (H:Hp) (x:V) (xs:List V) (v:Value) (us:List Value) (Q:VK),Inv X Zt σ H s->RelV x v->Vals xs us->r x xs H Q->
  wpAny (model X.prog X.w) X.A (call (.builtin id) (v::us)) (EP X Zt σ Q) X.xe s
theorem Vals.one:∀{x:V} {us:List Value},Vals [x] us->∃u,us=[u]/\RelV x u
 |_,_,.cons r .nil=>⟨_,rfl,r⟩
theorem Vals.zero:∀{us:List Value},Vals [] us->us=[]
 |_,.nil=>rfl
theorem Vals.rep{xs:List V}{us:List Value}(h:Vals xs us):∀k:Nat,Vals (List.replicate k xs).flatten (List.replicate k us).flatten
 |0=>.nil
 |k+1=>by
  rw[List.replicate_succ,List.replicate_succ,List.flatten_cons,List.flatten_cons];exact Vals.append h (Vals.rep h k)
theorem foldl_rep(Zr:List Value):∀(k:Nat) (acc:List Value),
  List.foldl (fun x1 x2=>x1++x2) acc.toArray (List.replicate k Zr.toArray)=(acc++(List.replicate k Zr).flatten).toArray
 |0,acc=>by simp
 |k+1,acc=>by
  have e:acc.toArray++Zr.toArray=(acc++Zr).toArray:=by simp
  have e2:(acc++Zr)++(List.replicate k Zr).flatten=acc++(List.replicate (k+1) Zr).flatten:=by
   rw[List.replicate_succ,List.flatten_cons,zAf]
  rw[<-e2,<-foldl_rep Zr k (acc++Zr),<-e,List.replicate_succ,List.foldl_cons]
section
variable{X:Cx}{Zt:List (Addr×Obj)}{σ:St}{H:Hp}{s:Shared}{l b:Addr}{xs ys zs:List V}
theorem Inv.lset{Zr its':List Value}{n:Nat}{f:Array Value->Array Value}{t':Nat}(I:Inv X Zt σ H s)(hH:H l=some (.lst xs))
  (e:s.heap.get? l=some {cls:=.type "list",data:=.seq Zr.toArray n}) (hf:f Zr.toArray=its'.toArray) (hv:Vals ys its') (hz:ys.length<=sizeLine):
  Inv X Zt σ (upd H l (.lst ys)) {s with heap:=s.heap.update l (Obj.mapSeq f),toks:=t'}:=by
 have q:=PySem.IsL.update e f;rw[hf]at q;refine I.write (x:=l) (e:=l) (by rw[hH];exact trivial) (.inl rfl) (fun b' u hb hu=>(Heap.get?_update_other s.heap (Obj.mapSeq f) (Ne.symm hb)).trans hu) ⟨_,q⟩ ?_;exact⟨hz,its',_,hv,q⟩
theorem Inv.lnew{Zr:List Value}{t':Nat}(I:Inv X Zt σ H s)(hv:Vals ys Zr)(hz:ys.length<=sizeLine):
  Inv X Zt σ (upd H s.heap.objs.size (.lst ys)) {s with heap:=s.heap.push {cls:=.type "list",data:=.seq Zr.toArray},toks:=t'}:=
 I.laid (fun _ _ q=>zAz _ q) (zA3 _) ⟨hz,Zr,0,hv,zB3 _ rfl⟩
theorem Inv.fresh(I:Inv X Zt σ H s):H s.heap.objs.size=none:=I.hok.fresh (zA3 _)
theorem Inv.lstM(I:Inv X Zt σ H s)(hH:H l=some (.lst xs)):xs.length<=sizeLine/\∃(Zr:List Value) (n:Nat),Vals xs Zr/\xs.length=Zr.length/\s.heap.get? l=some {cls:=.type "list",data:=.seq Zr.toArray n}:=by
 obtain⟨z,Zr,n,r,e⟩:=I.hok l _ hH;exact⟨z,Zr,n,r,r.length,e⟩
theorem lN{n:Nat}(h:n<=sizeLine):Builtin.List.listTooLong n=false:=by
 unfold Builtin.List.listTooLong;exact zB1 Zz
end
section
variable{X:Cx}
inductive RAppendI(x:V)(vs:List V)(H:Hp)(Q:VK):Prop
 |mk:∀l xs y,(x=.ref l)->(vs=[y])->(H l=some (.lst xs))->(xs.length<sizeLine)->(Q .non (upd H l (.lst (xs++[y]))))->RAppendI  x vs H Q
def Ca:V->List V->Hp->VK->Prop:=fun x vs H Q=>RAppendI  x vs H Q
theorem fc:MtM X "list.append" Ca:=by
 intro Zt s σ H x vs v us Q I rx rv h;obtain⟨l,xs,y,rfl,rfl,hH,hz,q⟩:=h;cases rx;obtain⟨u,rfl,ru⟩:=rv.one;obtain⟨z,Zr,n,r,hl,e⟩:=I.lstM hH;refine call_meets F.slot_list_append ⟨_,e,rfl⟩ F.entry_list_append (F.args_list_append_2 _ _) (PySem.list_append l Zr.toArray n u (by rw[zA8];lia)) ⟨e,?_⟩;refine⟨.non,_,I.lset (its':=Zr++[u]) hH e Zy (r.append (.cons ru .nil)) ?_,rfl,q⟩;rw[zA2,List.length_singleton];lia
inductive RExtendI(x:V)(vs:List V)(H:Hp)(Q:VK):Prop
 |mk:∀l b xs zs,(x=.ref l)->(vs=[.ref b])->(H l=some (.lst xs))->(H b=some (.lst zs))->(xs.length+zs.length<=sizeLine)->(Q .non (upd H l (.lst (xs++zs))))->RExtendI  x vs H Q
def Cd:V->List V->Hp->VK->Prop:=fun x vs H Q=>RExtendI  x vs H Q
theorem GD:MtM X "list.extend" Cd:=by
 intro Zt s σ H x vs v us Q I rx rv h;obtain⟨l,b,xs,zs,rfl,rfl,hH,hB,hz,q⟩:=h;cases rx;obtain⟨u,rfl,ru⟩:=rv.one;cases ru;obtain⟨z,Zr,n,r,hl,e⟩:=I.lstM hH;obtain⟨z2,br,n2,r2,ix,e2⟩:=I.lstM hB;have hsz:Zr.toArray.size+br.toArray.size<=sizeLine:=by rw[zA8,zA8];lia
 have eR:¬(!Zr.toArray.isEmpty&&Builtin.List.listTooLong (Zr.toArray.size+br.toArray.size))=true:=by
  rw[lN hsz,Bool.and_false];exact zAg
 refine call_meets F.slot_list_extend ⟨_,e,rfl⟩ F.entry_list_extend (F.args_list_extend_2 _ _)
  (AutoSeq1.list_extend_list_list_0 l Zr.toArray n b br.toArray n2 eR (by rw[zA8];lia) Zz) ⟨e,e2,?_⟩
 refine⟨.non,_,I.lset (its':=Zr++br) hH e Zy (r.append r2) ?_,rfl,q⟩;rw[zA2];lia
inductive RCatI(x:V)(y:V)(H:Hp)(Q:VK):Prop
 |mk:∀l b xs zs,(x=.ref l)->(y=.ref b)->(H l=some (.lst xs))->(H b=some (.lst zs))->(xs.length+zs.length<=sizeLine)->(∀p,H p=none->Q (.ref p) (upd H p (.lst (xs++zs))))->RCatI  x y H Q
def Jz:R2:=fun x y H Q=>RCatI  x y H Q
theorem Fy:OpR X (binaryOp .Add) Jz:=by
 intro Zt s σ H x y v u Q I rx ry h;obtain⟨l,b,xs,zs,rfl,rfl,hH,hB,hz,q⟩:=h;cases rx;cases ry;obtain⟨z,Zr,n,r,hl,e⟩:=I.lstM hH;obtain⟨z2,br,n2,r2,ix,e2⟩:=I.lstM hB;refine PySem.P.add_list e e2 ?_ (by rw[zA8,zA8];lia);have ea:Zr.toArray++br.toArray=(Zr++br).toArray:=by simp
 rw[ea];exact⟨.ref _,_,I.lnew (t':=s.toks) (r.append r2) (by rw[zA2];lia),rfl,q _ I.fresh⟩
inductive RRepI(x:V)(y:V)(H:Hp)(Q:VK):Prop
 |mk:∀l k xs,(x=.ref l)->(y=.int k)->(H l=some (.lst xs))->(-(2^63)<=k)->(k<2^63)->(xs.length*k.toNat<=sizeLine)->(∀p,H p=none->Q (.ref p) (upd H p (.lst (List.replicate k.toNat xs).flatten)))->RRepI  x y H Q
def JB:R2:=fun x y H Q=>RRepI  x y H Q
theorem len_rep{α:Type}(xs:List α)(k:Nat):(List.replicate k xs).flatten.length=k*xs.length:=by
 induction k with
 |zero=>simp
 |succ k ih=>rw[List.replicate_succ,List.flatten_cons,zA2,ih,Nat.succ_mul,Nat.add_comm]
theorem Fz:OpR X (binaryOp .Mult) JB:=by
 intro Zt s σ H x y v u Q I rx ry h;obtain⟨l,k,xs,rfl,rfl,hH,h1,h2,hz,q⟩:=h;cases rx;obtain⟨t,rfl⟩:=ry;obtain⟨z,Zr,n,r,hl,e⟩:=I.lstM hH;have hlen:Zr.toArray.size*k.toNat<=sizeLine:=by rw[zA8,<-hl];exact hz
 have A9:¬Zr.toArray.size*k.toNat>(2^63-1) / 8:=by
  have:(sizeLine:Nat)<=(2^63-1) / 8:=by decide
  lia
 have Bi:¬(!Builtin.List.listFitsIndex k)=true:=by
  rw[fitsIndex_both h1 h2];exact zAg
 have eR:¬Builtin.List.listTooLong (Zr.toArray.size*k.toNat)=true:=by
  rw[lN hlen];exact zAg
 have Bn:List.foldl (fun x1 x2=>x1++x2) #[] (List.replicate (if Zr.toArray.isEmpty=true then 0 else k.toNat) Zr.toArray)=(List.replicate k.toNat Zr).flatten.toArray:=by
  have f0:∀m:Nat,List.foldl (fun x1 x2=>x1++x2) #[] (List.replicate m Zr.toArray)=(List.replicate m Zr).flatten.toArray:=fun m=>by
   have:=foldl_rep Zr m [];rw[List.nil_append]at this;exact this
  rw[f0]
  cases Zr with
  |nil=>simp
  |cons a r'=>rw[if_neg Zy]
 refine wpAny_binaryOp_repeat_ref (T:="list") (U:="int") Zx ⟨_,e,rfl⟩ (fun s'=>typeIs_int s' k t) noFill_list_mul F.fills_int_mul F.slot_int_rmul repeat_list F.slot_int_index.lookup
  (call_meets F.slot_int_rmul (typeIs_int s k t) F.entry_int_rmul (F.args_int_rmul_2 _ _) (int___rmul___int_list k t l Zr.toArray n)
   ⟨e,rfl,⟨_,e,rfl⟩,call_meets F.slot_list_mul ⟨_,e,rfl⟩ F.entry_list_mul (F.args_list_mul_2 _ _) (AutoListH.list___mul___list_int_3 l Zr.toArray n k t Bi A9 eR) ⟨e,?_⟩⟩)
 rw[Bn];exact⟨.ref _,_,I.lnew (t':=s.toks) (r.rep k.toNat) (by rw[len_rep,Nat.mul_comm];exact hz),rfl,q _ I.fresh⟩
end
section
variable{prog:Program}{w:World}{A:Around}{E:Value->Shared->Prop}{s:Shared}
set_option maxRecDepth 100000 in
end
section
variable{X:Cx}
end
end L2
namespace Att
open PySem PySem.W PySem.Calls PyProof.Rows
theorem jZ{P:Params}{h:Heap}:∀(ns:List Int) (vs:List Value),WellAll P h vs (ns.map WData.int)->IntsAre vs ns:=by
 intro ns
 induction ns with
 |nil=>
  intro vs w;rw[List.map_nil]at w;cases w;exact .nil
 |cons n ns ih=>
  intro vs w;rw[zAk]at w
  cases w with
  |cons a b=>
   cases a;exact .cons _ _ (ih _ b)
theorem xu{l:OpenLaw}{n:Nat}(hn:l.most=some n){P:Params}{h:Heap}{args:List WData}{vals:List Value}
  (kH:l.row.toRowW.claim.pre args=true) (Bz:WellAll P h vals args):
  ∃a vs ns,vals=[Value.ref a]/\args=[WData.list (ns.map WData.int)]/\h.get? a=some {cls:=.type "list",data:=.seq vs.toArray}/\IntsAre vs ns/\ns.length<=n:=by
 have Lg:WShape.hasAll [] args [.list .int]=true:=(pre_splitW kH).1;have hc:l.pre.holds [] {args:=args}=true:=(pre_splitW kH).2;obtain⟨d,r,rfl,h1,h2⟩:=hasAllW_cons Lg;obtain rfl:=hasAllW_nil h2;obtain⟨xs,rfl,h3⟩:=hasW_list h1;obtain⟨ns,rfl⟩:=items_int h3
 have hlen:ns.length<=n:=by
  unfold OpenLaw.pre at hc
  have h4:(WTm.not (.lt (.lit (.int (n:Int))) (.len (.arg 0)))).holds [] {args:=[.list (ns.map .int)]}=true:=by
   have h4:=(holds_andW hc).1;rw[hn]at h4;exact h4
  have h5:=condW_of h4 (w_not (w_lt w_lit (w_len_list (w_arg rfl))));rw[zA1]at h5;refine Nat.le_of_not_lt fun q=>?_;have q':(n:Int)<((ns.length:Nat):Int):=Zz
  first
   | (rw[zAt q']at h5;exact absurd h5 Zx)
   | (simp at h5;lia)
 cases Bz with
 |cons w1 w2=>
  cases w2
  cases w1 with
  |list ho df=>exact⟨_,_,ns,rfl,rfl,ho,jZ ns _ df,hlen⟩
theorem xx(l:OpenLaw)(args:List WData):l.row.toRowW.claim.post args (.bool true) args=true:=
 postW_of (r:=l.row.toRowW) (X:=(true==true))
  (show WShape.has [] (.bool true) .bool=true by first|rfl|decide|simp[WShape.has,WShape.arms,WShape.armsAll])
  (show(WTm.eq .res (.lit (.bool true))).value [] {args:=args,res:=some (.bool true),after:=args}=some (.bool (true==true))from w_eq_bool (w_res rfl) w_lit) rfl
theorem attach_call{l:OpenLaw}{n:Nat}{q:Program}{loose:List Str}{XP:(Str->Option Value)->Heap->Prop}{YP:World->Heap->Prop}{d:DefRec}
  (hn:l.most=some n) (tN:d.params.defaults=[])
  (call:∀(w:World) (s₀ s₁:Shared) (mg mb:Str->Option Value) (fa:Addr) (o:Obj) (pm cd doc:Value) (a:Addr) (vs:List Value) (ns:List Int),
   Ground q loose [] XP w s₀ mg mb s₁.heap->YP w s₁.heap->
   s₁.heap.get? fa=some o->o.data=.func (docDef d.name d.params d.body d.scope pm cd doc)->s₁.heap.CodeRec cd d.name->mg d.name=some (.ref fa)->
   s₁.heap.get? a=some {cls:=.type "list",data:=.seq vs.toArray}->IntsAre vs ns->ns.length<=n->s₁.gens=#[]->
   codeAny (model l.prog w) callerA (.call (.ref fa) ⟨[.ref a],[]⟩) (fun r s'=>r=.ok (.ret (.bool true))/\OldK s₁.heap s'.heap/\s'.os=s₁.os/\AllBare s'.gens) s₁):
  WalkO q loose XP YP l.row.toRowW d [] (fun f vs=>PySem.call f vs):=by
 intro w s₀ s₁ mg mb G Y fa o pm cd doc dV kV ho hd hZ hD hmg hg args vals as kH Lh QQ Bz c9;obtain rfl:dV=.none:=Dflts.none hD tN;obtain rfl:kV=.none:=Dflts.noKw hD;obtain⟨a,vs,ns,rfl,rfl,oD,hints,hlen⟩:=xu hn kH Bz;refine enter_call (codeAny_mono (call w s₀ s₁ mg mb fa o pm cd doc a vs ns G Y ho (fd_plain hd) hZ hmg oD hints hlen hg) fun r s' hq=>?_);obtain⟨rfl,h2,h3,h4⟩:=hq;exact⟨.inl ⟨.bool true,.bool true,[],rfl,fun _=>rfl,.bool true,xx l _,fun _=>⟨List.Pairwise.nil,fun _ hm=>(nomatch hm)⟩⟩,h2,h3,h4⟩
section
variable{prog:Program}{w:World}{A:Around}{E:Value->Shared->Prop}{s:Shared}{K:Frag}
end
end Att
namespace L2
open PySem PySem.Spec PyProof.Rows
theorem oH:∀{vs:List Value} {ns:List Int},IntsAre vs ns->Vals (ns.map V.int) vs
 |_,_,.nil=>.nil
 |_,_,.cons n t h=>.cons ⟨t,rfl⟩ (oH h)
def Only(H:Hp):Prop:=∀b,H b=none\/∃o xs,H b=some (.frz o (.lst xs))
theorem yL{P:Program}{w:World}{K:Frag}{mg mb:Str->Option Value}{CX:CXT}{k:Nat}{fa a:Addr}{fd:FuncData}{x:Str}{sp:Sp}{s₁:Shared}{vs:List Value}{ns:List Int}
  (KX:K.In s₁.heap) (GU:s₁.heap.Ns mainGlobals mg) (hb:s₁.heap.Ns builtinsNs mb) (Li:∀x:Str,x≠"__name__"->mb x=bootBuiltins x) (BA:s₁.heap.NoLimit) (hg:s₁.gens=#[])
  (ha:s₁.heap.get? a=some {cls:=.type "list",data:=.seq vs.toArray}) (hi:IntsAre vs ns) (hl:ns.length<=sizeLine) (hr:Room k callerA)
  (F:∀base:Heap,K.In base->base.Ns mainGlobals mg->FnOk P w K mg base CX k fa fd [x] sp) (tP:∀(s:Shared) (u:Value),BindsTo s fd ⟨[u],[]⟩ [(x,u)])
  (mf:∀H:Hp,Only H->SqL K H a (ns.map V.int)->sp [.ref a] H (fun v _=>v=.bl true) fun _ _ _=>False)
  (BB:∀H e s',CX [] H s₁ (fun _ _ _=>False) e s'->False):
  codeAny (model P w) callerA (.call (.ref fa) ⟨[.ref a],[]⟩) (fun r s'=>r=.ok (.ret (.bool true))/\OldK s₁.heap s'.heap/\s'.os=s₁.os/\AllBare s'.gens) s₁:=by
 have rv:=oH hi;have BF:=hi.length
 have core:∀H:Hp,Only H->SqL K H a (ns.map V.int)->HOk P w H s₁.heap->(∀b,H b≠none->b=a)->(H a≠none->K.lookup a=none)->
   codeAny (model P w) callerA (.call (.ref fa) ⟨[.ref a],[]⟩) (fun r s'=>r=.ok (.ret (.bool true))/\OldK s₁.heap s'.heap/\s'.os=s₁.os/\AllBare s'.gens) s₁:=by
  intro H hO hS hok hA hK;have gs:∀{b:Addr} {o:Obj},s₁.heap.get? b=some o->H b=none->(pN s₁.heap H).get? b=some o:=fun e n=>yz e n
  have tj:∀{b:Addr} {o:Obj} {es:Array DictEntry} {ep:Nat},s₁.heap.get? b=some o->o.data=.dict es ep->H b=none:=fun{b o es ep} e d=>by
   cases q:H b with
   |none=>rfl
   |some u=>
    have e':b=a:=hA b (by rw[q];simp);subst e';rw[ha]at e;cases e;have d':Data.seq vs.toArray _=Data.dict es ep:=d;cases d'
  have zh:∀{b:Addr} {m:Str->Option Value},s₁.heap.Ns b m->(pN s₁.heap H).Ns b m:=fun{b m} ⟨o,es,ep,e,d,r⟩=>⟨o,es,ep,gs e (tj e d),d,r⟩
  have GV:K.In (pN s₁.heap H):=fun b o e=>gs (KX b o e) (by
   cases q:H b with
   |none=>rfl
   |some u=>
    have e':b=a:=hA b (by rw[q];simp);subst e'
    rw[hK (by rw[q];simp)]at e;cases e)
  have hM:Mod K mg (pN s₁.heap H):=⟨GV,zh GU,⟨mb,zh hb,Li⟩,let⟨mc,h1,h2⟩:=BA;⟨mc,zh h1,h2⟩⟩
  have e0:Env0 P w K mg (pN s₁.heap H) callerA [] s₁ H:=⟨rfl,hM,fun b o e=>By e,Nat.le_of_eq (wW _ _),trivial,fun b hb=>absurd (show b∈([]:List Addr)from hb) Zy,hok,.of_eq hg⟩
  refine codeAny_mono ((F _ GV (zh GU)).run callerA [] s₁ H ⟨[.ref a],[]⟩ [.ref a] [.ref a] _ _ hr e0 (tP s₁ (.ref a)) (.cons rfl .nil) (mf H hO hS)) fun r s' h=>?_
  cases r with
  |error e=>exact(BB H e s' h).elim
  |ok fl=>
   cases fl with
   |next=>exact False.elim h
   |brk=>exact False.elim h
   |cont=>exact False.elim h
   |ret u=>
    obtain⟨v,H',os,bare,un,BG,r',q⟩:=h;have q':v=.bl true:=q;subst q';obtain rfl:u=Value.bool true:=r';refine⟨rfl,OldK.of_keep fun b o e=>?_,os,bare⟩
    cases q:H b with
    |none=>exact un.keep b o e q (by intro z;exact absurd (show b∈([]:List Addr)from z) Zy) Zy
    |some u=>
     rcases hO b with z|⟨ob,xs,z⟩
     .rw[q]at z;cases z
     .have z2:=un.frzs b ob _ z;obtain⟨e1,_⟩:=hok b _ z;obtain⟨e2,_⟩:=BG b _ z2;rw[e]at e1;cases e1;exact e2
 cases hk:K.lookup a with
 |some o=>
  have e:=KX a o hk;rw[ha]at e;cases e;refine core (fun _=>none) (fun _=>.inl rfl) (.inr ⟨_,vs.toArray,_,hk,rfl,rfl,rfl,by rw[List.size_toArray,BF];exact hl,by simpa using rv⟩) (fun b u z=>by have z':(none:Option HO)=some u:=z;cases z') (fun b z=>absurd rfl z) fun z=>absurd rfl z
 |none=>
  refine core (fun b=>if b=a then some (.frz {cls:=.type "list",data:=.seq vs.toArray} (.lst (ns.map V.int)))else none) (fun b=>?_) (.inl (.inr ⟨{cls:=.type "list",data:=.seq vs.toArray},zAx rfl⟩)) (fun b u z=>?_) (fun b z=>?_) fun _=>hk
  .by_cases hb:b=a
   .exact .inr ⟨_,_,zAx hb⟩
   .exact .inl (zAw hb)
  .by_cases hb:b=a
   .have z':=(zAx hb).symm.trans z;cases z';subst hb;exact⟨ha,by rw[zA1];exact hl,vs,_,rv,ha⟩
   .have z':=(zAw hb).symm.trans z;cases z'
  .by_cases hb:b=a
   .exact hb
   .exact absurd (zAw hb) z
theorem walk_of{l:PySem.W.OpenLaw}{n k:Nat}{q:Program}{loose:List Str}{XP:(Str->Option Value)->Heap->Prop}{YP:World->Heap->Prop}{d:DefRec}{K:Params->Frag}{CX:World->CXT}{sp:World->Sp}{x:Str}
  (hn:l.most=some n) (tS:n<=sizeLine) (tN:d.params.defaults=[]) (hr:Room k callerA)
  (hY:∀(w:World) (h:Heap),YP w h->(K w.params).In h)
  (F:∀(w:World) (mg:Str->Option Value) (fa:Addr) (h:Heap),(K w.params).In h->h.Ns mainGlobals mg->mg d.name=some (.ref fa)->
   ∃fd:FuncData,(∀(s:Shared) (u:Value),BindsTo s fd ⟨[u],[]⟩ [(x,u)]) /\
    ∀base:Heap,(K w.params).In base->base.Ns mainGlobals mg->FnOk l.prog w (K w.params) mg base (CX w) k fa fd [x] (sp w))
  (mf:∀(w:World) (H:Hp) (a:Addr) (ns:List Int),ns.length<=n->Only H->SqL (K w.params) H a (ns.map V.int)->sp w [.ref a] H (fun v _=>v=.bl true) fun _ _ _=>False)
  (BB:∀(w:World) (H:Hp) (s:Shared) (e:Value) (s':Shared),CX w [] H s (fun _ _ _=>False) e s'->False):
  PySem.W.WalkO q loose XP YP l.row.toRowW d [] (fun f vs=>PySem.call f vs):=by
 refine Att.attach_call hn tN fun w s₀ s₁ mg mb fa o pm cd doc a vs ns G Y ho hd hZ hmg oD hints hlen hg=>?_;have KX:=hY w _ Y;obtain⟨fd,hb,hF⟩:=F w mg fa _ KX G.T.g hmg;exact yL KX G.T.g G.T.b G.T.builtins G.T.nolimit hg oD hints (Nat.le_trans hlen tS) hr hF hb (fun H hO hS=>mf w H a ns hlen hO hS) fun H e s'=>BB w H s₁ e s'
def fM(s:Stmt):Arguments:=match s with
 |.FunctionDef _ a _ _ _ _ _ _ _ _=>a
 |_=>{posonlyargs:=[],args:=[],vararg:=none,kwonlyargs:=[],kw_defaults:=[],kwarg:=none,defaults:=[]}
def eQ(s:Stmt):List Stmt:=match s with
 |.FunctionDef _ _ b _ _ _ _ _ _ _=>b
 |_=>[]
def aK(s:Stmt):Scope:=match s with
 |.FunctionDef _ _ _ _ _ _ sc _ _ _=>sc
 |_=>{kind:=.function,names:=[],isGenerator:=false,isCoroutine:=false}
abbrev CX0:CXT:=fun _ _ _ _ _ _=>False
abbrev E0:XK:=fun _ _ _=>False
theorem Hu{X:Cx}:uz CX0 X E0:=fun _ _ _ _ _ _ _ h=>h.elim
structure Fun(K:Frag)(x qual:Str)(st:Stmt)(f:Addr)(fd:FuncData):Prop where
 ex:∃(oc:Value) (od:Option Addr) (kV doc pm:Value) (an:Option Addr) (ar ct:Value) (me:Array (Option Value)),
  fd=PySem.W.fnOf x qual (fM st) (eQ st) (aK st) .none kV doc pm an ar ct/\K.lookup f=some ⟨oc,od,.func fd,me⟩/\PySem.W.codeIn K ar qual=true
 kp:PySem.W.keepIn K (.ref f)=true
section
variable{P:Program}{w:World}{K:Frag}{mg:Str->Option Value}{base:Heap}{f:Addr}{fd:FuncData}
theorem Fun.ok{x qual:Str}{st:Stmt}{f:Addr}{fd:FuncData}{N ps:List Str}{k:Nat}{sp:Sp}(F:Fun K x qual st f fd)(S:FnScope N ps (aK st))(len:∀vs H Q E,sp vs H Q E->vs.length=ps.length)
  (iq:∀(ar:Value) (A:Around) (outer:List Env) (s:Shared) (H:Hp) (vs:List V) (Q:VK) (E:XK),Room k (A.deeper (envOfC qual (aK st) s.heap.objs.size f ar))->sp vs H Q E->
   ∃t,PSs (xn CX0 P w K mg base N qual (aK st) f ar A outer s H E).nox (eQ st) t/\t {nx:=fun _ H'=>Q .non H',rt:=Q} (start N vs) H):FnOk P w K mg base CX0 (k+1) f fd ps sp:=by
 obtain⟨oc,od,kV,doc,pm,an,ar,ct,me,rfl,lk,hZ⟩:=F.ex;refine Hm lk hZ S len fun A outer s H vs Q E hr mf=>?_;obtain⟨t,h,q⟩:=iq ar A outer s H vs Q E hr mf;exact⟨t,h.nox,q⟩
theorem Fun.binds{x qual:Str}{st:Stmt}{f:Addr}{fd:FuncData}{ps:List Str}(F:Fun K x qual st f fd)
  (h:∀(kV doc pm:Value) (an:Option Addr) (ar ct:Value) (us:List Value),us.length=ps.length->bindArgs (PySem.W.fnOf x qual (fM st) (eQ st) (aK st) .none kV doc pm an ar ct) ⟨us,[]⟩=pure (ps.zip us)):Binds K fd ps []:=by
 obtain⟨oc,od,kV,doc,pm,an,ar,ct,me,rfl,lk,hZ⟩:=F.ex;exact .all (h kV doc pm an ar ct)
theorem yM{x qual:Str}{st:Stmt}{f:Addr}{oc:Value}{od an:Option Addr}{me:Array (Option Value)}{kV doc pm ar ct:Value}(l:K.lookup f=some ⟨oc,od,.func (PySem.W.fnOf x qual (fM st) (eQ st) (aK st) .none kV doc pm an ar ct),me⟩)
  (c:PySem.W.codeIn K ar qual=true) (k:PySem.W.keepIn K (.ref f)=true):Fun K x qual st f (PySem.W.fnOf x qual (fM st) (eQ st) (aK st) .none kV doc pm an ar ct):=⟨⟨oc,od,kV,doc,pm,an,ar,ct,me,rfl,l,c⟩,k⟩
end
theorem eG{A:Around}{k:Nat}(hr:Room k A):A.units+1<cLine:=Nat.lt_of_le_of_lt (Nat.add_le_add_left (by decide:1<=64) _) hr.units
section
variable{X:Cx}
theorem pv(i:Nat){x:Str}{pos:Pos}(hN:X.N[i]?=some x:=by rfl)(hv:Vis X.env.scope x:=by first|exact Or.inl rfl|exact Or.inr (Or.inl rfl)|exact Or.inr (Or.inr rfl))(hd:(x==("__debug__":Str))=false:=by decide)
  (hZ:(x==("__classdict__":Str))=false:=by decide):PE X (.Name x pos) (um i):=Ff hN hv hd hZ
end
theorem bw{A B:Prop}(h:B):if false=true then A else B:=by
 rw[zAw zAg];exact h
theorem bI{A B:Prop}(h:A):if true=true then A else B:=by
 rw[zAx rfl];exact h
theorem Ce{c A B:Prop}[Decidable c](h1:c->A)(h2:¬c->B):if c then A else B:=by
 by_cases h:c
 .rw[zAx h];exact h1 h
 .rw[zAw h];exact h2 h
def Same(H H':Hp):Prop:=∀b o,H b=some o->H' b=some o
theorem Same.refl(H:Hp):Same H H:=fun _ _ h=>h
theorem Same.trans{H H1 H2:Hp}(a:Same H H1)(b:Same H1 H2):Same H H2:=fun c o h=>b c o (a c o h)
theorem Same.free{H H':Hp}(e:Same H H'){l:Addr}(h:H' l=Option.none):H l=Option.none:=by
 cases q:H l with
 |none=>rfl
 |some o=>
  rw[e l o q]at h;cases h
theorem Same.seq{K:Frag}{H H':Hp}{a:Addr}{xs:List V}(e:Same H H')(h:SqL K H a xs):SqL K H' a xs:=by
 rcases h with(h|⟨o,h⟩)|h
 .exact .inl (.inl (e _ _ h))
 .exact .inl (.inr ⟨o,e _ _ h⟩)
 .exact .inr h
def fK(cells:List (Str×Addr)):List (Str×NameKind)->List (Str×Addr)->List (Str×Addr)
 |[],acc=>acc
 | (n,k)::r,acc=>fK cells r (if k=.free then(n,(cells.lookup n).getD 0)::acc else acc)
theorem oJ{env:Env}:∀(l:List (Str×NameKind)) (acc:List (Str×Addr)),(∀p∈l,p.2=NameKind.free->(env.cells.lookup p.1).isSome=true)->
  (forIn l acc fun(x:Str×NameKind) (r:List (Str×Addr))=>(if(x.2==NameKind.free)=true then do let a <-cellOf env x.1;pure (ForInStep.yield ((x.1,a)::r))else pure (ForInStep.yield r):Sem (ForInStep (List (Str×Addr)))))=pure (fK env.cells l acc)
 |[],acc,_=>rfl
 | (n,k)::r,acc,h=>by
  rw[List.forIn_cons];have ih:=fun a=>oJ (env:=env) r a fun p hp=>h p (List.mem_cons_of_mem _ hp);by_cases hk:k=.free
  .subst hk;have hs:=h (n,.free) List.mem_cons_self rfl;obtain⟨c,hc⟩:=Option.isSome_iff_exists.mp hs;have e1:cellOf env n=pure c:=by unfold cellOf;rw[show env.cells.lookup n=some c from hc]
   have e2:fK env.cells ((n,.free)::r) acc=fK env.cells r ((n,c)::acc):=by
    show fK env.cells r (if NameKind.free=NameKind.free then(n,(env.cells.lookup n).getD 0)::acc else acc)=_;rw[zAx rfl,show env.cells.lookup n=some c from hc];rfl
   rw[e2];simp only[beq_self_eq_true,if_true,e1,pure_bind];exact ih _
  .have hb:(k==NameKind.free)=false:=by simpa using hk
   have e2:fK env.cells ((n,k)::r) acc=fK env.cells r acc:=by
    show fK env.cells r (if k=NameKind.free then _ else acc)=_;rw[zAw hk]
   rw[e2];simp only[hb,Bool.false_eq_true,if_false,pure_bind];exact ih _
theorem qg{scope:Scope}{env:Env}(h:∀p∈scope.names,p.2=NameKind.free->(env.cells.lookup p.1).isSome=true):closureFor scope env=pure (fK env.cells scope.names []):=by
 have e:=oJ (env:=env) scope.names [] h;unfold closureFor;simp only[bind_pure];exact e
theorem rO{cells:List (Str×Addr)}{x:Str}{c:Addr}:∀(l:List (Str×NameKind)) (acc:List (Str×Addr)),(∀p∈l,p.2=NameKind.free->(cells.lookup p.1).isSome=true)->(fK cells l acc).lookup x=some c->
  acc.lookup x=some c\/cells.lookup x=some c
 |[],_,_,h=>.inl h
 | (n,k)::r,acc,hf,h=>by
  have h':(fK cells r (if k=.free then(n,(cells.lookup n).getD 0)::acc else acc)).lookup x=some c:=h;rcases rO r _ (fun p hp=>hf p (List.mem_cons_of_mem _ hp)) h' with e|e
  .by_cases hk:k=.free
   .rw[zAx hk]at e;obtain⟨d,hd⟩:=Option.isSome_iff_exists.mp (hf (n,k) List.mem_cons_self hk);rw[show cells.lookup n=some d from hd]at e;rw[List.lookup_cons]at e
    cases hx:x==n with
    |true=>
     rw[hx]at e;have:x=n:=by simpa using hx
     subst this;exact .inr (hd.trans (by simpa using e))
    |false=>
     rw[hx]at e;exact .inl e
   .rw[zAw hk]at e;exact .inl e
  .exact .inr e
theorem rP{cells:List (Str×Addr)}{x:Str}:∀(l:List (Str×NameKind)) (acc:List (Str×Addr)),((∃k,(x,k)∈l/\k=NameKind.free)\/(∃c,acc.lookup x=some c))->∃c,(fK cells l acc).lookup x=some c
 |[],_,h=>by
  rcases h with⟨k,hk,_⟩|h
  .exact absurd hk Zy
  .exact h
 | (n,k)::r,acc,h=>by
  show ∃c,(fK cells r (if k=.free then(n,(cells.lookup n).getD 0)::acc else acc)).lookup x=some c;refine rP r _ ?_;rcases h with⟨k',hk,e⟩|⟨c,hc⟩
  .rcases zAo.mp hk with z|z
   .cases z;refine .inr ?_;rw[zAx e];exact⟨_,by rw[List.lookup_cons,beq_self_eq_true]⟩
   .exact .inl ⟨k',z,e⟩
  .refine .inr ?_;by_cases hk:k=.free
   .rw[zAx hk,List.lookup_cons]
    cases hx:x==n with
    |true=>exact⟨_,rfl⟩
    |false=>exact⟨c,hc⟩
   .rw[zAw hk];exact⟨c,hc⟩
theorem jU{scope:Scope}{env:Env}{x:Str}{k:NameKind}(hc:∀p∈scope.names,p.2≠NameKind.cell)(h:(relabel scope env).names.lookup x=some k)(hk:k=.cell\/k=.free):∃k',(x,k')∈scope.names/\k'=NameKind.free:=by
 have m:=PySem.mem_of_lookup h;obtain⟨⟨n,k0⟩,hm,e⟩:=zA5.mp m;dsimp only at e;split at e
 .rename_i c
  cases e
  have:(k0==NameKind.free)=true:=by
   cases q:(k0==NameKind.free)with
   |true=>rfl
   |false=>rw[q]at c;simp at c
  exact⟨k0,hm,by simpa using this⟩
 .cases e;rcases hk with z|z
  .exact absurd z (hc _ hm)
  .exact⟨_,hm,z⟩
def cxC(X:Cx)(scope:Scope)(Nc:List Str)(C:Addr)(fp:List Addr)(Zt:List (Addr×Obj))(s₂:Shared)(H₂:Hp):Cx where
 prog:=X.prog
 w:=X.w
 K:=X.K
 mg:=X.mg
 base:=X.base
 A:=X.A
 N:=Nc
 s₀:=s₂
 H₀:=H₂
 env:=compEnvC scope (fK X.env.cells scope.names []) C X.env
 outer:=X.stack
 stack:=X.stack
 ex:=fp
 fn:=fun _=>false
 calm:=X.calm
 pn:=X.pn++Zt
 xe:=fun _ _=>False
def Caps(X:Cx)(aS:Env):List Str->List (Option Nat)->Prop
 |[],[]=>True
 |_::N,none::r=>Caps X aS N r
 |x::N,some i::r=>(X.N[i]?=some x/\(X.env.kindOf x=some .cell\/X.env.kindOf x=some .free)/\aS.cells.lookup x=X.env.cells.lookup x/\(aS.kindOf x=some .cell\/aS.kindOf x=some .free))/\Caps X aS N r
 |_,_=>False
def capσ(σ:St)(src:List (Option Nat)):St:=src.map fun o=>match o with|none=>none|some i=>(σ[i]?).join
theorem Caps.len{X:Cx}{aS:Env}:∀{N:List Str} {src:List (Option Nat)},Caps X aS N src->src.length=N.length
 |[],[],_=>rfl
 |[],_::_,h=>h.elim
 |_::_,[],h=>h.elim
 |_::N,none::r,h=>by
  have h':Caps X aS N r:=h;have:=Caps.len (N:=N) (src:=r) h';simp[this]
 |_::N,some _::r,h=>by
  have:=Caps.len (N:=N) (src:=r) h.2;simp[this]
theorem Caps.get{X:Cx}{aS:Env}{x:Str}:∀{N:List Str} {src:List (Option Nat)} {j i:Nat},Caps X aS N src->N[j]?=some x->src[j]?=some (some i)->
  X.N[i]?=some x/\(X.env.kindOf x=some .cell\/X.env.kindOf x=some .free)/\aS.cells.lookup x=X.env.cells.lookup x/\(aS.kindOf x=some .cell\/aS.kindOf x=some .free)
 |[],[],_,_,_,e,_=>by simp at e
 |[],_::_,_,_,h,_,_=>h.elim
 |_::_,[],_,_,h,_,_=>h.elim
 |_::_,none::_,0,_,_,_,e=>by simp at e
 |_::N,none::r,j+1,_,h,e1,e2=>by
  have h':Caps X aS N r:=h;exact Caps.get (N:=N) (src:=r) (j:=j) h' (by simpa using e1) (by simpa using e2)
 |_::_,some _::_,0,_,h,e1,e2=>by
  simp at e1 e2;subst e1 e2;exact h.1
 |_::_,some _::_,j+1,_,h,e1,e2=>Caps.get (j:=j) h.2 (by simpa using e1) (by simpa using e2)
structure CScope(X:Cx)(scope:Scope):Prop where
 kind:scope.kind=.function
 cell:scope.names.all (fun p=>p.2 != .cell)=true
 names:scope.names.all (fun p=>p.2 != .local||scope.names.lookup p.1==some .local)=true
 free:scope.names.all (fun p=>p.2 != .free||(X.env.cells.lookup p.1).isSome)=true
section
variable{X:Cx}{scope:Scope}
theorem CScope.hcell(S:CScope X scope):∀p∈scope.names,p.2≠NameKind.cell:=fun p hp=>by
 have:=List.all_eq_true.mp S.cell p hp;simpa using this
theorem CScope.hnames(S:CScope X scope):∀p∈scope.names,p.2=.local->scope.names.lookup p.1=some .local:=fun p hp e=>by
 have:=List.all_eq_true.mp S.names p hp;simpa[e]using this
theorem CScope.hfree(S:CScope X scope):∀p∈scope.names,p.2=NameKind.free->(X.env.cells.lookup p.1).isSome=true:=fun p hp e=>by
 have:=List.all_eq_true.mp S.free p hp;simpa[e]using this
end
def PTs(X:Cx)(ifs:List Expr)(t:TT):Prop:=
 ∀(Zt:List (Addr×Obj)) (s:Shared) (σ:St) (H:Hp) (Q:Bool->Hp->Prop),Inv X Zt σ H s->t σ H Q->
  wpAny (model X.prog X.w) X.A (forIn ifs true fun c r=>if r=true then do let ok <-isTrue c X.env (eval c X.env);pure (ForInStep.yield ok)else pure (ForInStep.yield r)) (TP X Zt σ Q) X.xe s
def uD:TT:=fun _ H Q=>Q true H
theorem c7{X:Cx}:PTs X [] uD:=fun _ _ _ H _ I h=>wpAny_tests_nil ⟨H,I,h⟩
theorem ir{X:Cx}{c:Expr}{t:TT}(h:PT X c t):PTs X [c] t:=fun Zt s σ H Q I q=>wpAny_tests_one (h Zt s σ H Q I q)
theorem qi{prog:Program}{w:World}{A:Around}{R:Result->Shared->Prop}{s:Shared}{elt target iter:Expr}{ifs:List Expr}{scope:Scope}{pos:Pos}{it acc:Value}{env:Env}(I:Nat->Shared->Prop)
  (turn:∀n s,I n s->wpAny (model prog w) A (pyNext it) (fun r s₁=>match r with
   |none=>R (.ok .next) s₁
   |some v=>wpAny (model prog w) A (letOwnedTupleGo target it v) (fun _ mh=>wpAny (model prog w) A (assign target env v) (fun _ s₂=>
     wpAny (model prog w) A (forIn ifs true fun c r=>if r=true then do let ok <-isTrue c env (eval c env);pure (ForInStep.yield ok)else pure (ForInStep.yield r)) (fun ok s₃=>
      if ok=true then wpAny (model prog w) A (eval elt env) (fun x kK=>
       wpAny (model prog w) A (call (.builtin "list.append") [acc,x]) (fun _ tT=>∃m,m<n/\I m tT) (fun _ _=>False) kK) (fun _ _=>False) s₃
      else ∃m,m<n/\I m s₃) (fun _ _=>False) s₂) (fun _ _=>False) mh) (fun _ _=>False) s₁) (fun _ _=>False) s)
  (n:Nat) (h:I n s):
  codeAny (model prog w) A (.compLoop (.ListComp elt [⟨target,iter,ifs,0⟩] scope pos) 0 it acc env) R s:=by
 refine codeAny_loop rfl I (fun n s hI=>?_) n h;show wpAny _ A ((compTurn (.ListComp elt [⟨target,iter,ifs,0⟩] scope pos) 0 it acc env).onRaise (fun x=>do noteFrame x env;theTreesLotGoes x)) _ _ s;refine wpAny_noted ?_;rw[compTurn_list];refine zAu (wpAny_standAt (zAu (wpAny_mono (turn n s hI) (fun r s₁ h₁=>?_) fun _ _ h'=>h'.elim)))
 cases r with
 |none=>exact zAy h₁
 |some v=>
  refine zAu (wpAny_mono h₁ (fun _ mh ua=>?_) fun _ _ h'=>h'.elim);refine zAu (wpAny_mono ua (fun _ s₂ iA=>zAu (wpAny_mono iA (fun ok s₃ kM=>?_) fun _ _ h'=>h'.elim)) fun _ _ h'=>h'.elim)
  cases ok with
  |false=>exact zAy ⟨rfl,kM⟩
  |true=>
   exact zAu (zAu (wpAny_mono kM (fun x kK BH=>zAu (wpAny_mono BH (fun _ tT BI=>zAy (zAy ⟨rfl,BI⟩)) fun _ _ h'=>h'.elim)) fun _ _ h'=>h'.elim))
def jV(J:It)(g:TG)(tt:TT)(te:TE)(Fin:List V->Hp->Prop)(dv:St)(H0:Hp):Prop:=
 ∃W:Nat->Nat->List V->St->Hp->Prop,(∃m,W 0 m [] dv H0)/\∀i m ys σ H,W i m ys σ H->ys.length<sizeLine /\
  ((J.stop i H/\Fin ys H)\/(J.go i H/\∀x H',J.yld i H x H'->g x σ H' fun aE H2=>tt aE H2 fun b H3=>
   if b=true then te aE H3 fun y H4=>∃m',m'<m/\W (i+1) m' (ys++[y]) aE H4 else ∃m',m'<m/\W (i+1) m' ys aE H3))
theorem jA{X:Cx}{tg iter elt:Expr}{ifs:List Expr}{scope:Scope}{pos:Pos}{Nc:List Str}{src:List (Option Nat)}{g:TG}{tt:TT}{te:TE}(hc:X.calm=true)(S:CScope X scope)
  (cq:∀C,Caps X (compEnvC scope (fK X.env.cells scope.names []) C X.env) Nc src)
  (hb:∀C fp Zt s₂ H₂,PG (cxC X scope Nc C fp Zt s₂ H₂) tg g/\PTs (cxC X scope Nc C fp Zt s₂ H₂) ifs tt/\PE (cxC X scope Nc C fp Zt s₂ H₂) elt te)
  {Zt:List (Addr×Obj)} {s₂:Shared} {σ:St} {H₂:Hp} {it:Addr} {fp:List Addr} {tn:Nat->Heap->Prop} {J:It} (av:Inv X Zt σ H₂ s₂) (T:Turn X.prog X.w X.K tg J fp it tn) (st:tn 0 s₂.heap) (hf:∀b∈fp,pW X Zt H₂ b)
  {Fin:List V->Hp->Prop} (hW:jV J g tt te Fin (capσ σ src) H₂) {RR:Value->Addr->Result->Shared->Prop} {E:Value->Shared->Prop}
  (Lj:∀D C s' ys H' m,Fin ys H'->H' D=none->Inv X Zt σ (upd H' D (.lst ys)) s'->s'.heap.Ns C m->pW X Zt (upd H' D (.lst ys)) C->RR (.ref D) C (.ok .next) s'):
  wpAny (model X.prog X.w) X.A (newList []) (fun acc s₃=>wpAny (model X.prog X.w) X.A (newFunctionEnv scope X.env.globals (fK X.env.cells scope.names []) [] X.env.qual none .none (some X.env)) (fun ui kK=>
   codeAny (model X.prog X.w) X.A (.compStart (.ListComp elt [⟨tg,iter,ifs,0⟩] scope pos) 0 (.ref it) acc {ui with scope:=relabel scope X.env}) (RR acc ui.locals) kK) E s₃) E s₂:=by
 refine wpAny_newObj_type (wpAny_newFunctionEnv S.hcell (by intro y hy;simp at hy) (fun h₁ cx ck=>?_) S.kind);dsimp only at cx ck⊢;generalize BM:s₂.heap.push {cls:=.type "list",dict:=none,data:=.seq ([]:List Value).toArray}=HH at cx ck⊢;generalize ml:s₂.heap.objs.size=D at cx ck⊢;have hC:HH.objs.size=D+1:=by rw[<-BM,Heap.size_push,ml]
 generalize QR:HH.objs.size=C at cx ck hC⊢;have zi:D≠C:=Zz
 have below:∀b,b<s₂.heap.objs.size->b≠C/\b≠D:=fun b hb=>by rw[ml]at hb;exact⟨by rw[hC];exact zB7 (Nat.lt_succ_of_lt hb),zB7 hb⟩
 have aT:∀{b o},s₂.heap.get? b=some o->b≠C/\b≠D:=fun{b o} e=>below b (zB0 e);have old:∀b o,s₂.heap.get? b=some o->h₁.get? b=some o:=fun b o e=>ck.extBut b o (aT e).1 (zAz _ (BM▸zAz _ e));have BN:h₁.get? D=some {cls:=.type "list",data:=.seq ([]:List Value).toArray}:=ck.extBut _ _ zi (zAz _ (BM▸ml▸zB3 _ rfl))
 have Lk:∀b∈fp,∃o,s₂.heap.get? b=some o:=fun b hb=>let⟨o,e,_⟩:=T.obj _ _ st b hb;⟨o,e⟩
 have zk:∀b∈fp,b≠C/\b≠D:=fun b hb=>let⟨o,e⟩:=Lk b hb;aT e
 have sub:∀{x c},(fK X.env.cells scope.names []).lookup x=some c->X.env.cells.lookup x=some c:=fun{x c} e=>by
  rcases rO scope.names [] S.hfree e with z|z
  .simp at z
  .exact z
 have Ll:∀{b o},s₂.heap.get? b=some o->b<D:=fun{b o} e=>by rw[<-ml];exact zB0 e
 have fresh:∀a,D<=a->H₂ a=none:=fun a ha=>av.hok.fresh (by rw[ml];exact ha)
 have mm:∀{x c},X.env.cells.lookup x=some c->∃o,s₂.heap.get? c=some o:=fun{x c} e=>let⟨v,o,ho,_⟩:=av.cell x c e;⟨o,ho⟩
 have BO:∀b∈frs X.stack,∃o,s₂.heap.get? b=some o:=fun b hb=>by
  rcases zAo.mp (av.stkSub b hb)with e|hb
  .rw[e];obtain⟨m,⟨o,_,_,ho,_⟩,_⟩:=av.loc;exact⟨o,ho⟩
  .obtain⟨_,o,ho,_⟩:=av.funs.mem hb;exact⟨o,ho⟩
 have BQ:∀a,D<=a->a∉frs X.stack:=fun a ha hb=>by
  obtain⟨o,e⟩:=BO a hb;exact absurd (zB4 (Ll e) ha) (Nat.lt_irrefl _)
 have GW:∀b∈fp,b∉frs X.stack:=fun b hb z=>by
  obtain⟨_,f1,f2,_⟩:=hf b hb;rcases zAo.mp (av.stkSub b z)with e|e
  .exact f1 e
  .exact f2 e
 generalize eW:cxC X scope Nc C fp Zt s₂ H₂=X';obtain⟨hg,ht,he⟩:=hb C fp Zt s₂ H₂;rw[eW]at hg ht he
 have Lm:X'.Ok:=by
  subst eW;refine⟨av.ok.mod,S.kind,av.ok.glob,av.ok.blt,?_,?_,?_,?_,av.ok.hd,av.ok.frames,.inl rfl,?_,av.bs,Nat.le_trans av.ok.bsz av.sz,?_,GW,av.stack,av.stkFree⟩
  .show s₂.heap.objs.size<=C;lia
  .exact fun x y c e1 e2=>av.ok.inj x y c (sub e1) (sub e2)
  .intro x hx;have hx:(relabel scope X.env).names.lookup x=some .cell\/(relabel scope X.env).names.lookup x=some .free:=hx
   have:∃k',(x,k')∈scope.names/\k'=NameKind.free:=by
    rcases hx with z|z
    .exact jU S.hcell z (.inl rfl)
    .exact jU S.hcell z (.inr rfl)
   exact rP scope.names [] (.inl this)
  .intro x c z;exact absurd z (by show¬(false=true);simp)
  .intro b hb;exact⟨(zk b hb).1,fun x c e=>(hf b hb).2.2.2.2.1 x c (sub e)⟩
  .intro b o e hb;obtain⟨_,_,_,f3,_⟩:=hf b hb;rcases f3 with z|z
   .exact av.ok.noex b o e z
   .exact absurd (zB4 (zB0 (av.ok.bs b o e).1) z) (Nat.lt_irrefl _)
 have eP:X'.prog=X.prog:=by subst eW;rfl
 have ew:X'.w=X.w:=by subst eW;rfl
 have eK:X'.K=X.K:=by subst eW;rfl
 have eA:X'.A=X.A:=by subst eW;rfl
 have eE:X'.xe=fun _ _=>False:=by subst eW;rfl
 have eL:X'.env.locals=C:=by subst eW;rfl
 have eN:X'.env=compEnvC scope (fK X.env.cells scope.names []) C X.env:=by subst eW;rfl
 have ec:X'.calm=true:=by subst eW;exact hc
 have eS:X'.s₀=s₂:=by subst eW;rfl
 have eH:X'.H₀=H₂:=by subst eW;rfl
 have ef:X'.fs=frs X.stack:=by subst eW;rfl
 have ex:X'.ex=fp:=by subst eW;rfl
 have ep:X'.pn=X.pn++Zt:=by subst eW;rfl
 have I0:Inv X' [] (capσ σ src) H₂ {s₂ with heap:=h₁,toks:=s₂.toks+([]:List (Str×Value)).length}:=by
  refine⟨Lm,by rw[eS],av.bare,by rw[eS,eH];exact Un.kept old,⟨_,by rw[eL];exact cx,?_⟩,?_,by rw[eL];exact fresh _ Zz,?_,?_,by rw[eP,ew];exact av.hok.kept old,?_⟩
  .intro j x v e1 e2 e3;have e1:Nc[j]?=some x:=by subst eW;exact e1
   have e4:∃i,src[j]?=some (some i)/\(σ[i]?).join=some v:=by
    unfold capσ at e2;rw[zAb]at e2
    cases q:src[j]? with
    |none=>rw[q]at e2;cases e2
    |some o=>
     rw[q]at e2
     cases o with
     |none=>simp at e2
     |some i=>exact⟨i,rfl,by simpa using e2⟩
   obtain⟨i,e5,e6⟩:=e4;obtain⟨c1,c2,c3,c4⟩:=(cq C).get e1 e5
   have e7:σ[i]?=some (some v):=by
    cases q:σ[i]? with
    |none=>rw[q]at e6;simp at e6
    |some o=>rw[q]at e6;simp at e6;rw[e6]
   obtain⟨m,_,hl⟩:=av.loc;obtain⟨u,r,l⟩:=hl i x v c1 e7 (.inr (by rcases c2 with z|z;exact .inl z;exact .inr z));refine⟨u,r,?_⟩;rcases l with⟨k,_⟩|⟨_,c,e,z⟩
   .rcases c2 with c2|c2<;>(rw[k]at c2;cases c2)
   .refine .inr ⟨by rw[eN];exact c4,c,by rw[eN];exact c3.trans e,?_⟩;obtain⟨o,ho,hd⟩:=z;exact⟨o,old c o ho,hd⟩
  .intro x c e;rw[eN]at e;obtain⟨v,o,ho,hd⟩:=av.cell x c (sub e);exact⟨v,o,old c o ho,hd⟩
  .intro x c e;rw[eN]at e;exact av.freeC x c (sub e)
  .intro p hp;rw[ep,zAn]at hp;obtain⟨e,n,ne,nf,d⟩:=av.pin p hp;refine⟨old _ _ e,n,by rw[eL];exact(aT e).1,?_,d⟩;rw[ef];intro z;rcases zAo.mp (av.stkSub _ z)with q|q
   .exact ne q
   .exact nf q
  .have:=(cq C).len;subst eW;show(capσ σ src).length=Nc.length;unfold capσ;rw[zA1,this]
 have Ln:∀p∈X'.pn,p.1≠D:=fun p hp=>by
  rw[ep]at hp;exact(aT (av.pin p hp).1).2
 have uj:∀x c,X'.env.cells.lookup x=some c->c≠D:=fun x c e=>by
  rw[eN]at e;obtain⟨o,ho⟩:=mm (sub e);exact(aT ho).2
 have BU:∀{P:List (Addr×Obj)} {H:Hp},(∀p∈P,p.1=D)->(∀b∈fp,H b=none)->∀b∈fp,pW X' P H b:=fun{P H} hP hn b hb=>by
  refine⟨hn b hb,by rw[eL];exact(zk b hb).1,by rw[ef];exact GW b hb,.inl (by rw[ex];exact hb),fun x c e=>?_,fun p hp=>?_⟩
  .rw[eN]at e;exact(hf b hb).2.2.2.2.1 x c (sub e)
  .rcases zA6.mp hp with z|z
   .rw[ep]at z;exact(hf b hb).2.2.2.2.2 p z
   .rw[hP p z];exact(zk b hb).2.symm
 obtain⟨W,⟨m0,w0⟩,step⟩:=hW
 have loop:∀s₃:Shared,s₃={s₂ with heap:=h₁,toks:=s₂.toks+([]:List (Str×Value)).length}->
   codeAny (model X.prog X.w) X.A (.compLoop (.ListComp elt [⟨tg,iter,ifs,0⟩] scope pos) 0 (.ref it) (.ref D) (compEnvC scope (fK X.env.cells scope.names []) C X.env)) (RR (.ref D) C) s₃:=by
  rintro s₃ rfl
  refine qi (fun n s'=>∃i ys us k ai H',Inv X' [] ai H' s'/\tn i s'.heap/\(∀b∈fp,H' b=none)/\H' D=none/\s'.heap.get? D=some {cls:=.type "list",data:=.seq (List.toArray us) k}/\Vals ys us/\W i n ys ai H') ?_ m0
   ⟨0,[],[],_,_,_,I0,T.keep _ _ _ st fun b _ o e=>old b o e,fun b hb=>(hf b hb).1,fresh _ (zA3 _),BN,.nil,w0⟩
  rintro n s3 ⟨i,ys,us,k,ij,H3,I3,gi,tf,oI,Lo,zo,w3⟩;obtain⟨hsz,oP⟩:=step i n ys ij H3 w3
  have GY:Inv X' [(D,{cls:=.type "list",data:=.seq us.toArray k})] ij H3 s3:=I3.pins_of fun p hp=>by
   rw[List.mem_singleton.mp hp];exact⟨Lo,oI,by rw[eL];exact zi,by rw[ef];exact BQ _ (zA3 _),fun v z=>by cases z⟩
  have oQ:∀p∈[(D,({cls:=.type "list",data:=.seq us.toArray k}:Obj))],p.1=D:=fun p hp=>by rw[List.mem_singleton.mp hp]
  rcases oP with⟨stop,fin⟩|⟨go,turn⟩
  ·-- the end
   have hd:=T.done X' eP ew eK ec i _ s3 ij H3 (fun _ _=>False) GY (BU oQ tf) gi stop;rw[eA]at hd;refine thn hd fun r s4 ⟨hr,I4⟩=>?_;subst hr;have pD:=I4.pin (D,{cls:=.type "list",data:=.seq us.toArray k}) (zBd _ (List.mem_singleton.mpr rfl));obtain⟨mC,G0,_⟩:=I4.loc;rw[eL]at G0;have mv:=I4.base;rw[eS,eH,ef,ex]at mv;have hlen:ys.length<=sizeLine:=Nat.le_of_lt hsz
   have BY:HOk X.prog X.w (upd H3 D (.lst ys)) s4.heap:=fun b u e=>by
    by_cases hb:b=D
    .subst hb;rw[aj]at e;cases e;exact⟨hlen,us,k,zo,pD.1⟩
    .rw[aA hb]at e;have z:=I4.hok b u e;rw[eP,ew]at z
     exact z.stay (fun c v _ q=>q) (fun c q=>by rw[aA (aG q oI)];exact q) fun c xs q=>by rw[aA (aG q oI)];exact q
   have un:Un (frs X.stack) fp H₂ (upd H3 D (.lst ys)) s₂.heap s4.heap:=⟨mv.keep,mv.slot,fun b o e n hx=>by rw[aA (aT e).2];exact mv.free b o e n hx,mv.there,
    fun b xs e=>by
     have z:=mv.tups b xs e
     rw[aA (aG z oI)];exact z,
    fun b o u e=>by
     have z:=mv.frzs b o u e
     rw[aA (aG z oI)];exact z,
    fun b ps e=>by
     obtain⟨mo,z⟩:=mv.tbls b ps e
     exact⟨mo,by rw[aA (aG z oI)];exact z⟩⟩
   have J4:Inv X Zt σ (upd H3 D (.lst ys)) s4:=av.call' (ch:=fp) (by have:=I4.os;rw[eS]at this;exact this) un BY I4.bare fun b hb=>by
    obtain⟨_,f1,f2,f3,f4,f5⟩:=hf b hb;exact⟨f3,f1,f4,f5⟩
   refine Lj D C s4 ys H3 mC fin oI J4 G0 ⟨?_,?_,?_,.inr ?_,?_,?_⟩
   .rw[aA zi.symm];have:=I4.free;rw[eL]at this;exact this
   .have:=av.lt;rw[ml]at this;exact Nat.ne_of_gt (zB4 this (by rw[hC];exact Nat.le_succ _))
   .intro z;obtain⟨_,o,ho,_⟩:=av.funs.mem z;exact(aT ho).1 rfl
   .have:=av.sz;rw[ml]at this;lia
   .intro x c e z;obtain⟨o,ho⟩:=mm e;exact(aT ho).1 z
   .intro p hp z;exact(aT (av.pin p hp).1).1 z
  ·-- a turn
   have hd:=T.item X' eP ew eK ec i _ s3 ij H3 (fun _ _=>False) GY (BU oQ tf) gi go;rw[eA]at hd;refine thn hd fun r s4 ⟨u,hr,h4⟩=>?_;subst hr;refine thn h4 fun _ s5 ⟨x,H5,I5,r5,y5,oo,A3⟩=>?_;have A4:=I5.pinned (BU oQ A3) (T.obj _ _ oo);have G1:=hg _ s5 ij H5 x u _ A4 r5 (turn x H5 y5);rw[eP,ew,eA,eE,eN]at G1;refine thn G1 fun _ s6 ⟨kF,H6,I6,q6⟩=>?_;have fy:=ht _ s6 kF H6 _ I6 q6;rw[eP,ew,eA,eE,eN]at fy;refine thn fy fun okb s7 ⟨H7,I7,q7⟩=>?_
   have back:∀{H8:Hp} {s8:Shared},Inv X' ([(D,({cls:=.type "list",data:=.seq us.toArray k}:Obj))]++lF fp s5.heap) kF H8 s8->
     Inv X' [] kF H8 s8/\tn (i+1) s8.heap/\(∀b∈fp,H8 b=none)/\H8 D=none/\s8.heap.get? D=some {cls:=.type "list",data:=.seq us.toArray k}/\(∀b∈fp,∀o,s5.heap.get? b=some o->s8.heap.get? b=some o):=fun{H8 s8} I8=>by
    have pD:=I8.pin (D,{cls:=.type "list",data:=.seq us.toArray k}) (List.mem_append_right _ (List.mem_append_left _ (List.mem_singleton.mpr rfl)));have pf:∀b∈fp,∀o,s5.heap.get? b=some o->s8.heap.get? b=some o:=fun b hb o e=>(I8.pin (b,o) (List.mem_append_right _ (List.mem_append_right _ (gA hb e)))).1;refine⟨I8.pins_of fun p hp=>absurd hp Zy,T.keep _ _ _ oo pf,fun b hb=>?_,pD.2.1,pD.1,pf⟩;obtain⟨o,e,d⟩:=T.obj _ _ oo b hb;exact(I8.pin (b,o) (List.mem_append_right _ (List.mem_append_right _ (gA hb e)))).2.1
   cases okb with
   |false=>
    obtain⟨b1,b2,b3,b4,b5,_⟩:=back I7;obtain⟨m',hm,w7⟩:=q7;exact⟨m',hm,i+1,ys,us,k,kF,H7,b1,b2,b3,b4,b5,zo,w7⟩
   |true=>
    have zt:=he _ s7 kF H7 _ I7 q7;rw[eP,ew,eA,eE,eN]at zt;show wpAny _ _ (eval elt _) _ _ s7;refine thn zt fun xv s8 ⟨y,H8,I8,r8,m',hm,w8⟩=>?_;obtain⟨b1,b2,b3,b4,b5,b6⟩:=back I8;refine append_at (hsz:=by rw[zA8,<-zo.length];exact Nat.le_of_lt hsz) b5 fun h9 He Lp=>?_
    have I9:Inv X' [] kF H8 {s8 with heap:=h9}:=b1.turned (t':=s8.toks) (fun b o hb e=>He.extBut b o hb e) b4 (by rw[eL];exact zi) (.inr (by rw[eS,ml];exact zA3 _)) uj fun p hp=>by
     rw[zAn]at hp;exact Ln p hp
    refine⟨m',hm,i+1,ys++[y],us++[xv],k+1,kF,H8,I9,T.keep _ _ _ b2 fun b hb o e=>He.extBut b o (zk b hb).2 e,b3,b4,?_,zo.append (.cons r8 .nil),w8⟩;show h9.get? D=_;rw[Lp,List.push_toArray]
 refine codeAny_compStart_list (loop _ rfl) ?_;exact T.self _ 0 _ _ _ (T.keep _ _ _ st fun b _ o e=>old b o e) (loop _ rfl)
def vq(wi:TI)(src:List (Option Nat))(g:TG)(tt:TT)(te:TE):TE:=fun σ H Q=>wi σ H fun J H1=>jV J g tt te (fun ys H'=>∀D,H' D=none->Q (.ref D) (upd H' D (.lst ys))) (capσ σ src) H1
section
variable{X:Cx}{tg iter elt:Expr}{ifs:List Expr}{scope:Scope}{pos:Pos}{Nc:List Str}{wi:TI}{g:TG}{tt:TT}{te:TE}
theorem cC(Nc:List Str)(src:List (Option Nat))(hc:X.calm=true)(hi:PI X tg iter wi)
  (hb:∀C fp Zt s₂ H₂,PG (cxC X scope Nc C fp Zt s₂ H₂) tg g/\PTs (cxC X scope Nc C fp Zt s₂ H₂) ifs tt/\PE (cxC X scope Nc C fp Zt s₂ H₂) elt te)
  (cq:∀C,Caps X (compEnvC scope (fK X.env.cells scope.names []) C X.env) Nc src) (S:CScope X scope)
  (hs:∀x,foldedSetIterable iter X.env x=pure x:=by intro _;rfl):PE X (.ListComp elt [⟨tg,iter,ifs,0⟩] scope pos) (vq wi src g tt te):=by
 intro Zt s σ H Q I h;rw[eval_ListComp];refine wpAny_comprehension_free (use:=none) rfl hs (qg S.hfree) S.kind S.hnames ?_;refine thn (hi Zt s σ H _ I h) fun v s1 h1=>thn h1 fun s9 s2 h2=>?_;obtain⟨it,fp,tn,J,H2,e,I2,T,st2,f2,hW⟩:=h2;subst e;refine jA (RR:=fun acc C=>compPost (model X.prog X.w) X.A X.xe none (EP X Zt σ Q) acc C) hc S cq hb I2 T st2 f2 hW ?_;intro D C s' ys H' m fin nD J' hn fC;obtain⟨f0,f1,_,f3,f4,f5⟩:=fC;refine⟨m,hn,fun HA iE=>?_⟩;exact⟨.ref D,_,J'.turned (t':=s'.toks) (fun b o hb e=>iE.extBut b o hb e) f0 f1 f3 f4 f5,rfl,fin D nD⟩
def FJ(wi:TI)(src:List (Option Nat))(g:TG)(tt:TT)(te:TE)(i:Nat):TS:=fun D σ H=>vq wi src g tt te σ H fun v H'=>D.nx (σ.set i (some v)) H'
theorem iu{i:Nat}{x:Str}{pos' uk:Pos}(Nc:List Str)(src:List (Option Nat))(hc:X.calm=true)(hN:X.N.Nodup)(hJ:X.N[i]?=some x)(hx:Loc X.env.scope x)(hi:PI X tg iter wi)
  (hb:∀C fp Zt s₂ H₂,PG (cxC X scope Nc C fp Zt s₂ H₂) tg g/\PTs (cxC X scope Nc C fp Zt s₂ H₂) ifs tt/\PE (cxC X scope Nc C fp Zt s₂ H₂) elt te)
  (cq:∀C,Caps X (compEnvC scope (fK X.env.cells scope.names []) C X.env) Nc src) (S:CScope X scope)
  (Lq:swapsWith (.ListComp elt [⟨tg,iter,ifs,0⟩] scope pos) (some (.Name x pos')) uk.line X.env=pure true:=by rfl)
  (hf:X.fn x=true\/X.env.scope.names.lookup x=some .local:=by first|exact .inl rfl|exact .inr rfl|assumption)
  (hs:∀x,foldedSetIterable iter X.env x=pure x:=by intro _;rfl):PS X (.Assign [.Name x pos'] (.ListComp elt [⟨tg,iter,ifs,0⟩] scope pos) uk) (FJ wi src g tt te i):=by
 intro Zt s σ H D I h;rw[exec_Assign_Name_used _ _ _ _ Lq];refine zAu (wpAny_standAt (zAu ?_));show wpAny _ _ (do let _ <-comprehension (.ListComp elt [⟨tg,iter,ifs,0⟩] scope pos) scope X.env _ (newList []) false (eval iter X.env) (some (assign (.Name x pos') X.env))) _ _ s;refine zAu (thn (wpAny_comprehension_free (use:=some (assign (.Name x pos') X.env)) (Q:=fun _ s'=>∃ai H',Inv X Zt ai H' s'/\D.nx ai H') rfl hs (qg S.hfree) S.kind S.hnames ?_) fun _ s' hq=>zAy (zAy hq));refine thn (hi Zt s σ H _ I h) fun v s1 h1=>thn h1 fun s9 s2 h2=>?_;obtain⟨it,fp,tn,J,H2,e,I2,T,st2,f2,hW⟩:=h2;subst e;refine jA (RR:=fun acc C=>compPost (model X.prog X.w) X.A X.xe (some (assign (.Name x pos') X.env)) (fun _ s'=>∃ai H',Inv X Zt ai H' s'/\D.nx ai H') acc C) hc S cq hb I2 T st2 f2 hW ?_;intro A C s' ys H' m fin nD J' hn fC;obtain⟨f0,f1,QS,f3,f4,f5⟩:=fC;refine wpAny_assign_Name (o8 J' hN hJ hx (v:=.ref A) rfl (fun rf Lr Ls=>?_) hf)
 have tS:∃m',rf.heap.Ns C m':=by
  obtain⟨a,sb,ha⟩:=Ls
  have c8:C≠a:=by
   rcases ha with z|z
   .rw[z];exact f1
   .exact fun q=>f4 x a z q.symm
  exact⟨m,hn.sameBut sb c8⟩
 obtain⟨m',tS⟩:=tS;refine⟨m',tS,fun HA iE=>?_⟩;exact⟨_,_,Lr.turned (t':=rf.toks) (fun b o hb e=>iE.extBut b o hb e) f0 f1 f3 f4 f5,fin A nD⟩
end
section
variable{X:Cx}
theorem gM:dU X (.builtin "isinstance") (fun xs H Q=>∃x t n b,xs=[x,.ty n]/\TyOf X.K H x t/\PySem.W.kitOne X.K t (.type n)=some b/\Q (.bl b) H):=by
 intro Zt s σ H xs us Q I r h;obtain⟨x,t,n,b,rfl,ty,e,q⟩:=h;obtain⟨u,c,rfl,ru,rc⟩:=vals2 r;obtain rfl:c=Value.type n:=rc
 exact xm I ru ty e fun tk=>⟨.bl b,H,I.tok _,rfl,q⟩
theorem rQ{prog:Program}{w:World}{A:Around}(bs:List Bool):TruthOf prog w A (fun i v=>∃b,bs[i]?=some b/\v=Value.bool b) (fun i=>(bs[i]?).getD false):=by
 intro i v s Q E hP hQ;obtain⟨b,hb,rfl⟩:=hP;dsimp only at hQ;rw[hb]at hQ;exact wpAny_truthy_bool hQ
theorem all_range(bs:List Bool):(List.range bs.length).all (fun i=>(bs[i]?).getD false)=bs.all id:=by
 apply Bool.eq_iff_iff.mpr;rw[List.all_eq_true,List.all_eq_true];constructor
 .intro h b hb;obtain⟨i,hi,e⟩:=List.getElem_of_mem hb;have:=h i (List.mem_range.mpr hi);rw[zA0 hi,e]at this;exact this
 .intro h i hi;have hi:=List.mem_range.mp hi;rw[zA0 hi];exact h _ (zAh hi)
theorem lO:∀{bs:List Bool} {us:List Value},Vals (bs.map V.bl) us->us=bs.map Value.bool
 |[],_,.nil=>rfl
 |_::bs,_,.cons r t=>by
  rw[lO (bs:=bs) t,show _=Value.bool _ from r];rfl
theorem fB(hc:X.calm=true):dU X (.builtin "all") (fun xs H Q=>∃(p:Addr) (bs:List Bool),xs=[.ref p]/\SqL X.K H p (bs.map V.bl)/\Q (.bl (bs.all id)) H):=by
 intro Zt s σ H xs us Q I r h;obtain⟨p,bs,rfl,hq,q⟩:=h;obtain⟨u,rfl,ru⟩:=vals1 r;cases ru;obtain⟨Zr,rv,pl,hz⟩:=I.list hq;have ei:=lO rv;subst ei;have aw:p<s.heap.objs.size:=by obtain⟨_,e,_⟩:=pl.isList;exact zB0 e
 refine call_all_walk (wpAny_pyIter_list pl.isList ?_);have W:=Walks.list (prog:=X.prog) (w:=X.w) (A:=X.A.in1) (I.ok.hd hc) s.heap.objs.size p (zB7 aw) (bs.map Value.bool).toArray;refine⟨_,_,_,_,_,_,_,rfl,{sub:=W.sub,frame:=W.frame,item:=fun i s Q E hi st hQ=>W.item i s Q E hi st fun v h' tk hP=>hQ v h' tk ?_,done:=W.done,self:=W.self},⟨⟨_,zB3 _ rfl,rfl,rfl⟩,pl.isList.push _⟩,rQ bs,fun h' tk k=>?_⟩
 .have uu:(bs.map Value.bool).toArray[i]?=some v:=hP;rw[List.getElem?_toArray,zAb]at uu
  cases e:bs[i]? with
  |none=>rw[e]at uu;cases uu
  |some b=>rw[e]at uu;exact⟨b,rfl,(zAl uu).symm⟩
 .have hsz:(bs.map Value.bool).toArray.size=bs.length:=by simp
  rw[hsz,all_range];refine⟨.bl _,H,?_,rfl,q⟩;refine I.kept (h':=h') (t':=tk) fun b o e=>k b o ?_ (Heap.get?_push_of_some _ e);intro z;have:b=s.heap.objs.size:=by simpa using z
  exact absurd (zB0 e) (by rw[this];exact Nat.lt_irrefl _)
end
theorem jB{K:Frag}:PySem.W.kitOne K (.type "NoneType") (.type "int")=some false:=by kernel_rfl
theorem j8{K:Frag}:PySem.W.kitOne K (.type "NoneType") (.type "bool")=some false:=by kernel_rfl
theorem iQ{K:Frag}:PySem.W.kitOne K (.type "NoneType") (.type "tuple")=some false:=by kernel_rfl
theorem qj{K:Frag}:PySem.W.kitOne K (.type "bool") (.type "int")=some true:=by kernel_rfl
theorem nG{K:Frag}:PySem.W.kitOne K (.type "bool") (.type "bool")=some true:=by kernel_rfl
theorem lQ{K:Frag}:PySem.W.kitOne K (.type "bool") (.type "tuple")=some false:=by kernel_rfl
theorem rR{K:Frag}:PySem.W.kitOne K (.type "int") (.type "int")=some true:=by kernel_rfl
theorem ql{K:Frag}:PySem.W.kitOne K (.type "int") (.type "bool")=some false:=by kernel_rfl
theorem nH{K:Frag}:PySem.W.kitOne K (.type "int") (.type "tuple")=some false:=by kernel_rfl
theorem rT{K:Frag}:PySem.W.kitOne K (.type "str") (.type "int")=some false:=by kernel_rfl
theorem qm{K:Frag}:PySem.W.kitOne K (.type "str") (.type "bool")=some false:=by kernel_rfl
theorem nJ{K:Frag}:PySem.W.kitOne K (.type "str") (.type "tuple")=some false:=by kernel_rfl
theorem qp{K:Frag}:PySem.W.kitOne K (.type "list") (.type "int")=some false:=by kernel_rfl
theorem nM{K:Frag}:PySem.W.kitOne K (.type "list") (.type "bool")=some false:=by kernel_rfl
theorem lR{K:Frag}:PySem.W.kitOne K (.type "list") (.type "tuple")=some false:=by kernel_rfl
theorem nO{K:Frag}:PySem.W.kitOne K (.type "tuple") (.type "int")=some false:=by kernel_rfl
theorem lU{K:Frag}:PySem.W.kitOne K (.type "tuple") (.type "bool")=some false:=by kernel_rfl
theorem kh{K:Frag}:PySem.W.kitOne K (.type "tuple") (.type "tuple")=some true:=by kernel_rfl
theorem qt{K:Frag}:PySem.W.kitOne K (.type "dict") (.type "int")=some false:=by kernel_rfl
theorem nP{K:Frag}:PySem.W.kitOne K (.type "dict") (.type "bool")=some false:=by kernel_rfl
theorem lV{K:Frag}:PySem.W.kitOne K (.type "dict") (.type "tuple")=some false:=by kernel_rfl
section
variable{κ:Type}[DecidableEq κ]
def cF(Zs:List (κ×V))(k:κ):Option V:=(Zs.find? fun kv=>decide (kv.1=k)).map (·.2)
def putK(Zs:List (κ×V))(k:κ)(v:V):List (κ×V):=
 if(Zs.any fun kv=>decide (kv.1=k))=true then Zs.map (fun kv=>if kv.1=k then(kv.1,v)else kv)else Zs++[(k,v)]
theorem cP{p:κ×V}{r:List (κ×V)}{k:κ}(e:p.1=k):cF (p::r) k=some p.2:=by simp[cF,List.find?_cons,e]
theorem cQ{p:κ×V}{r:List (κ×V)}{k:κ}(e:¬p.1=k):cF (p::r) k=cF r k:=by simp[cF,List.find?_cons,e]
theorem j9(k:κ):∀Zs:List (κ×V),(Zs.any fun kv=>decide (kv.1=k))=(cF Zs k).isSome
 |[]=>rfl
 |p::r=>by
  rw[List.any_cons];by_cases e:p.1=k
  .simp only[cP e,decide_eq_true e,Bool.true_or,Option.isSome_some]
  .rw[cQ e,zB1 e,Bool.false_or];exact j9 k r
theorem rW(k j:κ)(y:V):∀Zs:List (κ×V),cF (Zs.map fun kv=>if kv.1=k then(kv.1,y)else kv) j=(cF Zs j).map fun x=>if j=k then y else x
 |[]=>rfl
 |p::r=>by
  have ih:=rW k j y r;rw[zAk];by_cases h:p.1=k
  .rw[zAx h];by_cases e:p.1=j
   .rw[cP (p:=(p.1,y)) e,cP e,Option.map_some,zAx (e.symm.trans h)]
   .rw[cQ (p:=(p.1,y)) e,cQ e,ih]
  .rw[zAw h];by_cases e:p.1=j
   .rw[cP (p:=p) e,cP e,Option.map_some,zAw (fun z=>h (e.trans z))]
   .rw[cQ (p:=p) e,cQ e,ih]
theorem oK(k j:κ)(y:V):∀Zs:List (κ×V),cF Zs k=none->cF (Zs++[(k,y)]) j=if j=k then some y else cF Zs j
 |[],_=>by
  by_cases e:k=j
  .rw[zAx e.symm];exact cP (p:=(k,y)) e
  .rw[zAw (fun z=>e z.symm)];exact cQ (p:=(k,y)) e
 |p::r,hn=>by
  rw[List.cons_append]
  have hk:¬p.1=k:=fun z=>by rw[cP z]at hn;cases hn
  rw[cQ hk]at hn;have ih:=oK k j y r hn;by_cases e:p.1=j
  .rw[cP e,cP e,zAw (fun z=>hk (e.trans z))]
  .rw[cQ e,cQ e,ih]
theorem dW(Zs:List (κ×V))(k j:κ)(y:V):cF (putK Zs k y) j=if j=k then some y else cF Zs j:=by
 unfold putK;by_cases a:(Zs.any fun kv=>decide (kv.1=k))=true
 .rw[zAx a,rW];rw[j9]at a;by_cases e:j=k
  .obtain⟨x,hx⟩:=Option.isSome_iff_exists.mp a;rw[zAx e,e,hx,Option.map_some,zAx rfl]
  .rw[zAw e]
   cases cF Zs j with
   |none=>rfl
   |some x=>rw[Option.map_some,zAw e]
 .rw[zAw a];refine oK k j y Zs ?_;rw[j9]at a
  cases q:cF Zs k with
  |none=>rfl
  |some x=>rw[q]at a;exact(a rfl).elim
theorem cN(Zs:List (κ×V))(k:κ)(v:V):(putK Zs k v).length<=Zs.length+1:=by
 unfold putK;split
 .rw[zA1];lia
 .rw[zA2,zAe,List.length_nil];lia
theorem RelO.isSome_eq{o:Option V}{u:Option Value}(r:RelO o u):o.isSome=u.isSome:=by
 cases o with
 |none=>cases u with
  |none=>rfl
  |some _=>exact(show False from r).elim
 |some _=>cases u with
  |none=>exact(show False from r).elim
  |some _=>rfl
theorem RelO.getD{o:Option V}{u:Option Value}{d:V}{d':Value}(r:RelO o u)(rd:RelV d d'):RelV (o.getD d) (u.getD d'):=by
 cases o with
 |none=>cases u with
  |none=>exact rd
  |some _=>exact(show False from r).elim
 |some _=>cases u with
  |none=>exact(show False from r).elim
  |some _=>exact r
theorem KV.val{Zs:List (κ×V)}{vs:List (κ×Value)}(r:KV Zs vs)(k:κ):RelO (cF Zs k) (valueAt vs k):=by
 unfold KV at r
 induction r with
 |nil=>exact True.intro
 |@cons p q ps qs h t ih=>
  obtain⟨h1,h2⟩:=h;by_cases e:p.1=k
  .have e':q.1=k:=h1.symm.trans e;have b:valueAt (q::qs) k=some q.2:=by simp[valueAt,List.find?_cons,e']
   rw[cP e,b];exact h2
  .have e':¬q.1=k:=fun z=>e (h1.trans z);have b:valueAt (q::qs) k=valueAt qs k:=by simp[valueAt,List.find?_cons,e']
   rw[cQ e,b];exact ih
theorem KV.any{Zs:List (κ×V)}{vs:List (κ×Value)}(r:KV Zs vs)(k:κ):(Zs.any fun kv=>decide (kv.1=k))=vs.any fun kv=>decide (kv.1=k):=by
 unfold KV at r
 induction r with
 |nil=>rfl
 |cons h t ih=>rw[List.any_cons,List.any_cons,ih,h.1]
theorem KV.repl{Zs:List (κ×V)}{vs:List (κ×Value)}(r:KV Zs vs)(k:κ){y:V}{u:Value}(ry:RelV y u):
  KV (Zs.map fun kv=>if kv.1=k then(kv.1,y)else kv) (vs.map fun kv=>if kv.1=k then(kv.1,u)else kv):=by
 unfold KV at r⊢
 induction r with
 |nil=>exact .nil
 |@cons p q ps qs h t ih=>
  rw[zAk,zAk];refine .cons ?_ ih;obtain⟨h1,h2⟩:=h;by_cases e:p.1=k
  .rw[zAx e,zAx (h1.symm.trans e)];exact⟨h1,ry⟩
  .rw[zAw e,zAw (fun z=>e (h1.trans z))];exact⟨h1,h2⟩
theorem KV.put{Zs:List (κ×V)}{vs:List (κ×Value)}(r:KV Zs vs)(k:κ){y:V}{u:Value}(ry:RelV y u):KV (putK Zs k y) (stored vs k u):=by
 unfold putK stored;rw[r.any k];by_cases e:(vs.any fun kv=>decide (kv.1=k))=true
 .rw[zAx e,zAx e];exact r.repl k ry
 .rw[zAw e,zAw e];exact Paired.snoc r ⟨rfl,ry⟩
theorem KV.length{Zs:List (κ×V)}{vs:List (κ×Value)}(r:KV Zs vs):Zs.length=vs.length:=Paired.length r
end
theorem rY{P:Program}{w:World}{k:Key}{u:Value}(r:RelV (kV k) u):(bK P w).is k u=true:=by
 cases k with
 |inl i=>obtain⟨t,e⟩:=(show ∃t,u=Value.int i t from r);subst e;exact rD P w i t
 |inr x=>obtain⟨t,e⟩:=(show ∃t,u=Value.str x t from r);subst e;exact rE P w x t
theorem oM{P:Program}{w:World}:∀{ks:List Key} {us:List Value},Vals (ks.map kV) us->ItemsAre (bK P w) ks us
 |[],_,r=>by rw[List.map_nil]at r;cases r;exact .nil
 |k::ks,_,r=>by
  rw[zAk]at r
  cases r with
  |cons h t=>exact .cons (rY h) (oM t)
abbrev KT(H:Hp):List (List Key×V)->List (List Key×Addr×Value)->Prop:=Paired fun p q=>p.1=q.1/\H q.2.1=some (.tup (p.1.map kV))/\RelV p.2 q.2.2
theorem KT.val{H:Hp}{Zs:List (List Key×V)}{xs:List (List Key×Addr×Value)}(r:KT H Zs xs)(k:List Key):RelO (cF Zs k) ((atKey xs k).map (·.2)):=by
 induction r with
 |nil=>exact True.intro
 |@cons p q ps qs h t ih=>
  obtain⟨h1,_,h2⟩:=h;by_cases e:p.1=k
  .have e':q.1=k:=h1.symm.trans e;have b:atKey (q::qs) k=some q.2:=by simp[atKey,List.find?_cons,e']
   rw[cP e,b];exact h2
  .have e':¬q.1=k:=fun z=>e (h1.trans z);have b:atKey (q::qs) k=atKey qs k:=by simp[atKey,List.find?_cons,e']
   rw[cQ e,b];exact ih
theorem KT.repl{H:Hp}{Zs:List (List Key×V)}{xs:List (List Key×Addr×Value)}(r:KT H Zs xs)(k:List Key){y:V}{u:Value}(ry:RelV y u):
  KT H (Zs.map fun kv=>if kv.1=k then(kv.1,y)else kv) (xs.map (putAt k u)):=by
 induction r with
 |nil=>exact .nil
 |@cons p q ps qs h t ih=>
  rw[zAk,zAk];refine .cons ?_ ih;obtain⟨h1,h2,h3⟩:=h;unfold putAt;by_cases e:p.1=k
  .rw[zAx e,zAx (h1.symm.trans e)];exact⟨h1,h2,ry⟩
  .rw[zAw e,zAw (fun z=>e (h1.trans z))];exact⟨h1,h2,h3⟩
theorem KT.put{H:Hp}{Zs:List (List Key×V)}{xs:List (List Key×Addr×Value)}(r:KT H Zs xs)(k:List Key){b:Addr}{y:V}{u:Value}(hb:H b=some (.tup (k.map kV)))(ry:RelV y u):
  KT H (putK Zs k y) (storedH xs k b u):=by
 have e:(Zs.any fun kv=>decide (kv.1=k))=(atKey xs k).isSome:=by
  rw[j9,(r.val k).isSome_eq,Option.isSome_map]
 unfold putK storedH;rw[e];by_cases q:(atKey xs k).isSome=true
 .rw[zAx q,zAx q];exact r.repl k ry
 .rw[zAw q,zAw q];exact Paired.snoc r ⟨rfl,hb,ry⟩
theorem KT.keeps{H H':Hp}{Zs:List (List Key×V)}{xs:List (List Key×Addr×Value)}(r:KT H Zs xs)(ht:∀b ys,H b=some (.tup ys)->H' b=some (.tup ys)):KT H' Zs xs:=
 Paired.mapP r fun _ _ z=>⟨z.1,ht _ _ z.2.1,z.2.2⟩
section
variable{P:Program}{w:World}{H:Hp}{h:Heap}{a:Addr}
theorem Ei{u:HO}(ok:HOk P w H h)(e:Rd H a u):ObjOk P w H h a u:=e.ok ok
theorem rZ{Zs:List (Key×V)}(ok:HOk P w H h)(e:Rd H a (.dK Zs)):Zs.length<=sizeLine/\(a==sysModules)=false/\∃vs,KV Zs vs/\h.DictOf (bK P w) a vs:=
 show ObjOk P w H h a (.dK Zs)from Ei ok e
theorem Ej{Zs:List (Key×V)}(ok:HOk P w H h)(e:H a=some (.dK Zs)):Zs.length<=sizeLine/\(a==sysModules)=false/\∃vs,KV Zs vs/\h.DictOf (bK P w) a vs:=rZ ok (.inl e)
theorem qu{ks:List Key}(ok:HOk P w H h)(e:H a=some (.tup (ks.map kV))):(tupleKind (bK P w)).is h ks a:=by
 obtain⟨_,Zr,r,o,h1,h2,n,h3⟩:=(show ObjOk P w H h a (.tup (ks.map kV))from ok a _ e)
 exact⟨o,Zr.toArray,n,h1,h2,h3,by simpa using oM r⟩
theorem su{Zs:List (List Key×V)}(ok:HOk P w H h)(e:Rd H a (.dT Zs)):Zs.length<=sizeLine/\(a==sysModules)=false /\
  ∃xs,KT H Zs xs/\h.DictOfH (tupleKind (bK P w)) a xs:=by
 obtain⟨z,y,xs,r,o,es,ep,h1,h2,h3,h4,h5⟩:=(show ObjOk P w H h a (.dT Zs)from Ei ok e)
 refine⟨z,y,xs,r,o,es,ep,h1,h2,h3,h4,fun x hx=>?_,h5⟩
 have all:∀{l:List (List Key×V)} {m:List (List Key×Addr×Value)},KT H l m->∀x∈m,(tupleKind (bK P w)).is h x.1 x.2.1:=by
  intro l m q
  induction q with
  |nil=>intro x hx;exact nomatch hx
  |@cons p q ps qs hq t ih=>
   intro x hx;rcases zAo.mp hx with e|hx
   .subst e;exact qu ok (by rw[<-hq.1];exact hq.2.1)
   .exact ih x hx
 exact all r x hx
theorem yN{Zs:List (List Key×V)}(ok:HOk P w H h)(e:H a=some (.dT Zs)):Zs.length<=sizeLine/\(a==sysModules)=false /\
  ∃xs,KT H Zs xs/\h.DictOfH (tupleKind (bK P w)) a xs:=su ok (.inl e)
end
def DGet(H:Hp)(a:Addr)(y:V)(r:Option V):Prop:=
 (∃Zs k,Rd H a (.dK Zs)/\y=kV k/\r=cF Zs k)\/∃Zs k b,Rd H a (.dT Zs)/\y=.ref b/\H b=some (.tup (k.map kV))/\r=cF Zs k
def DPut(H:Hp)(a:Addr)(y v:V)(H':Hp):Prop:=
 (∃Zs k,H a=some (.dK Zs)/\y=kV k/\Zs.length<sizeLine/\H'=upd H a (.dK (putK Zs k v))) \/
 ∃Zs k b,H a=some (.dT Zs)/\y=.ref b/\H b=some (.tup (k.map kV))/\Zs.length<sizeLine/\H'=upd H a (.dT (putK Zs k v))
theorem DGet.k{H:Hp}{a:Addr}{Zs:List (Key×V)}{k:Key}(e:H a=some (.dK Zs)):DGet H a (kV k) (cF Zs k):=.inl ⟨Zs,k,.inl e,rfl,rfl⟩
theorem DGet.t{H:Hp}{a b:Addr}{Zs:List (List Key×V)}{k:List Key}(e:H a=some (.dT Zs))(eb:H b=some (.tup (k.map kV))):DGet H a (.ref b) (cF Zs k):=.inr ⟨Zs,k,b,.inl e,rfl,eb,rfl⟩
theorem DPut.k{H:Hp}{a:Addr}{Zs:List (Key×V)}{k:Key}{v:V}(e:H a=some (.dK Zs))(hl:Zs.length<sizeLine):DPut H a (kV k) v (upd H a (.dK (putK Zs k v))):=.inl ⟨Zs,k,e,rfl,hl,rfl⟩
theorem DPut.t{H:Hp}{a b:Addr}{Zs:List (List Key×V)}{k:List Key}{v:V}(e:H a=some (.dT Zs))(eb:H b=some (.tup (k.map kV)))(hl:Zs.length<sizeLine):
  DPut H a (.ref b) v (upd H a (.dT (putK Zs k v))):=.inr ⟨Zs,k,b,e,rfl,eb,hl,rfl⟩
section
variable{X:Cx}{Zt:List (Addr×Obj)}{σ:St}{H:Hp}{s:Shared}{a:Addr}{y v:V}{u r:Value}{o:Option V}{A:Around}{E:Value->Shared->Prop}
theorem Inv.big(I:Inv X Zt σ H s):sysModules<s.heap.objs.size:=by
 have h:mainGlobals<s.heap.objs.size:=(I.mod.glob.keeps I.bk).lt;exact Nat.lt_trans Zx h
theorem xF{Q:Value->Shared->Prop}(hu:A.units+1<cLine)(I:Inv X Zt σ H s)(g:DGet H a y (some v))(ry:RelV y u)(h:∀w' s',Inv X Zt σ H s'->RelV v w'->Q w' s'):
  wpAny (model X.prog X.w) A (getItem (.ref a) u) Q E s:=by
 rcases g with⟨Zs,k,e,ey,l⟩|⟨Zs,k,b,e,ey,eb,l⟩
 .subst ey;obtain⟨z,hd,vs,rel,dd⟩:=rZ I.hok e;obtain⟨w',hw,eJ⟩:=RelO.some_of (v:=v) (o:=valueAt vs k) (by rw[l];exact rel.val k);exact wpAny_getItem_of (rY ry) dd.mapOf hw (h w' _ (I.tok _) eJ)
 .subst ey;cases(show u=Value.ref b from ry);obtain⟨z,hd,xs,rel,dd⟩:=su I.hok e;obtain⟨w',hw,eJ⟩:=RelO.some_of (v:=v) (o:=(atKey xs k).map (·.2)) (by rw[l];exact rel.val k);obtain⟨p,hp,uS⟩:=Option.map_eq_some_iff.mp hw;refine wpAny_getItem_heap (tupleKind_room_in1 hu) (qu I.hok eb) dd hp ?_;rw[uS];exact h w' _ (I.tok _) eJ
theorem qw{h':Heap}{t':Nat}{ob:HO}(I:Inv X Zt σ H s)(mu:Mut (H a))(hs:Heap.SameBut a s.heap h')(he:∃q,h'.get? a=some q)(new:ObjOk X.prog X.w (upd H a ob) h' a ob):
  Inv X Zt σ (upd H a ob) {s with heap:=h',toks:=t'}:=
 I.write (x:=a) (e:=a) mu (.inl rfl) (fun b q hb z=>(hs.2 b hb).trans z) he new
theorem yO{P:Program}{w:World}{H':Hp}{h':Heap}{Zs:List (Key×V)}{vs:List (Key×Value)}(z:Zs.length<=sizeLine)(hd:(a==sysModules)=false)(rel:KV Zs vs)(dd:h'.DictOf (bK P w) a vs):
  ObjOk P w H' h' a (.dK Zs):=⟨z,hd,vs,rel,dd⟩
theorem xG{H':Hp}{Q:Unit->Shared->Prop}(hu:A.units+1<cLine)(I:Inv X Zt σ H s)(g:DPut H a y v H')(ry:RelV y u)(rv:RelV v r)(h:∀s',Inv X Zt σ H' s'->Q () s'):
  wpAny (model X.prog X.w) A (setItem (.ref a) u r) Q E s:=by
 rcases g with⟨Zs,k,e,ey,l,eH⟩|⟨Zs,k,b,e,ey,eb,l,eH⟩
 .subst ey eH;obtain⟨z,hd,vs,rel,dd⟩:=Ej I.hok e;have hz:vs.length<=sizeLine:=by rw[<-rel.length];exact z
  have hl:(putK Zs k v).length<=sizeLine:=by have:=cN Zs k v;lia
  refine wpAny_setItem_pairs (hsz:=hz) (rY ry) dd fun h' oS hs=>h _ ?_
  have he:∃q,h'.get? a=some q:=let⟨q,_,_,hq,_⟩:=oS;⟨q,hq⟩
  exact qw I (by rw[e];exact True.intro) hs he (yO hl hd (rel.put k rv) oS)
 .subst ey eH;cases(show u=Value.ref b from ry);obtain⟨z,hd,xs,rel,dd⟩:=yN I.hok e;have hz:xs.length<=sizeLine:=by rw[<-Paired.length rel];exact z
  have hl:(putK Zs k v).length<=sizeLine:=by have:=cN Zs k v;lia
  refine wpAny_setItem_heap (hsz:=hz) (tupleKind_room_in1 hu) (qu I.hok eb) dd fun h' oS hs=>h _ ?_;obtain⟨q,es,ep,hq,h2,h3,h4,_,h5⟩:=oS;refine qw I (by rw[e];exact True.intro) hs ⟨q,hq⟩ ⟨hl,hd,_,(rel.put k eb rv).keeps fun c ys ec=>?_,q,es,ep,hq,h2,h3,h4,h5⟩;rw[aA (GF ec e (fun z=>nomatch z))];exact ec
end
section
variable{X:Cx}{Zt:List (Addr×Obj)}{σ:St}{H:Hp}{s:Shared}{a:Addr}{Zs:List (Key×V)}{k:Key}{u:Value}{A:Around}{E:Value->Shared->Prop}
end
def Hv(i:Expr):Prop:=∀ov iv,subscripted i false ov iv=operate [ov,iv] (getItem ov iv)
theorem Cg{prog:Program}{w:World}{A:Around}{E:Value->Shared->Prop}{s:Shared}{env:Env}{value slice:Expr}{pos:Pos}{T id:String}{Q:Value->Shared->Prop}
  (hl:typeLookup (.type T) "__getitem__"=pure (some (.builtin id))) (hs:Hv slice)
  (h:wpAny (model prog w) A (eval value env) (fun o s₁=>wpAny (model prog w) A (eval slice env) (fun i s₂=>s₂.TypeIs o T/\wpAny (model prog w) A (getItem o i) Q E s₂) E s₁) E s):
  wpAny (model prog w) A (eval (.Subscript value slice pos) env) Q E s:=by
 refine Subscript_ (wpAny_mono h (fun o s₁ h₁=>wpAny_mono h₁ (fun i s₂ iA=>?_) fun _ _ x=>x) fun _ _ x=>x);obtain⟨hT,iA⟩:=iA;unfold subscriptTail;refine zAu ?_;rw[getitemInPython_of_ne hT.not_modules];refine zAu (wpAny_specialOf hT hl ?_)
 have fin:wpAny (model prog w) A (subscripted slice false o i) (fun r s₃=>wpAny (model prog w) A (letTemporaryGo value o r>>=fun _=>pure r) Q E s₃) E s₂:=by
  rw[hs o i];exact wpAny_operating (wpAny_mono iA (fun r s₃ kM=>zAu (wpAny_letTemporaryGo (zAy kM))) fun _ _ x=>x)
 first
  |exact zAy (zAu fin)
  |exact zAu (zAy (zAu fin))
  |exact zAu fin
theorem sy{X:Cx}{Zt:List (Addr×Obj)}{σ:St}{H:Hp}{s:Shared}{a:Addr}{y:V}{o:Option V}(I:Inv X Zt σ H s)(g:DGet H a y o):s.TypeIs (.ref a) "dict":=by
 rcases g with⟨Zs,k,e,_,_⟩|⟨Zs,k,b,e,_,_,_⟩
 .obtain⟨_,_,vs,_,dd⟩:=rZ I.hok e;exact dd.typeIs
 .obtain⟨_,_,xs,_,dd⟩:=su I.hok e;exact dd.typeIs
def Ek(td ty:TE):TE:=fun σ H Q=>td σ H fun x H1=>ty σ H1 fun y H2=>∃a v,x=.ref a/\DGet H2 a y (some v)/\Q v H2
def Hw(td ty tv:TE):TS:=fun D σ H=>tv σ H fun v H1=>td σ H1 fun x H2=>ty σ H2 fun y H3=>∃a H4,x=.ref a/\DPut H3 a y v H4/\D.nx σ H4
section
variable{X:Cx}{o i e value:Expr}{pos pos' oj:Pos}{td ty tv:TE}
theorem gC(hu:X.A.units+1<cLine)(ho:PE X o td)(hi:PE X i ty)(hs:Hv i):PE X (.Subscript o i pos) (Ek td ty):=by
 intro Zt s σ H Q I h;refine Cg PySem.F.slot_dict_getitem.lookup hs (thn (ho Zt s σ H _ I h) fun u s1 ⟨x,H1,I1,rx,q1⟩=>thn (hi Zt s1 σ H1 _ I1 q1) fun iv s2 ⟨y,H2,I2,ry,a,v,ex,g,q2⟩=>?_);subst ex;obtain rfl:u=Value.ref a:=rx;exact⟨sy I2 g,xF hu I2 g ry fun w' s3 I3 eJ=>⟨v,H2,I3,eJ,q2⟩⟩
theorem jb(hu:X.A.units+1<cLine)(ho:PE X o td)(hi:PE X i ty)(hv:PE X value tv)(hs:swapsWith value (some (.Subscript o i pos')) pos.line X.env=pure false):
  PS X (.Assign [.Subscript o i pos'] value pos) (Hw td ty tv):=by
 intro Zt s σ H D I h;refine wpAny_Assign_Subscript (thn (hv Zt s σ H _ I h) fun r s1 ⟨v,H1,I1,rv,q1⟩=>thn (ho Zt s1 σ H1 _ I1 q1) fun u s2 ⟨x,H2,I2,rx,q2⟩=>thn (hi Zt s2 σ H2 _ I2 q2) fun iv s3 ⟨y,H3,I3,ry,a,H4,ex,g,q3⟩=>?_) hs;subst ex;obtain rfl:u=Value.ref a:=rx
 exact xG hu I3 g ry rv fun s4 I4=>⟨σ,H4,I4,q3⟩
end
theorem yP{P:Program}{w:World}{H:Hp}(h:Heap)(hb:sysModules<h.objs.size):ObjOk P w H (h.push {cls:=.type "dict",data:=.dict #[]}) h.objs.size (.dK []):=
 ⟨zAp _,beq_eq_false_iff_ne.mpr (Ne.symm (zB7 hb)),[],.nil,Heap.DictOf.new h⟩
theorem yQ{P:Program}{w:World}{H:Hp}(h:Heap)(hb:sysModules<h.objs.size):ObjOk P w H (h.push {cls:=.type "dict",data:=.dict #[]}) h.objs.size (.dT []):=
 ⟨zAp _,beq_eq_false_iff_ne.mpr (Ne.symm (zB7 hb)),[],.nil,_,#[],0,zB3 _ rfl,⟨rfl,rfl,rfl⟩,rfl,rfl,List.nodup_nil⟩
def FN:TE:=fun _ H Q=>∀p,H p=none->Q (.ref p) (upd H p (.dT []))
section
variable{X:Cx}{pos:Pos}
theorem lW:PE X (.Dict [] [] pos) FN:=fun Zt s σ H Q I h=>
 wpAny_Dict_empty ⟨.ref s.heap.objs.size,_,I.laid (a:=s.heap.objs.size) (o:=.dT []) (t':=s.toks) (fun _ _ q=>zAz _ q) (zA3 _) (yQ s.heap I.big),rfl,h _ (I.hok.fresh (zA3 _))⟩
end
def uE:List (TE×TE)->St->Hp->(List (V×V)->Hp->Prop)->Prop
 |[],_,H,Q=>Q [] H
 | (tk,tv)::r,σ,H,Q=>tk σ H fun x H1=>tv σ H1 fun y H2=>uE r σ H2 fun ps H3=>Q ((x,y)::ps) H3
abbrev VV:List (V×V)->List (Value×Value)->Prop:=Paired fun p q=>RelV p.1 q.1/\RelV p.2 q.2
def PPs(X:Cx)(pos:Pos)(keys:List (Option Expr))(values:List Expr)(kN:List (TE×TE)):Prop:=
 ∀(Zt:List (Addr×Obj)) (s:Shared) (σ:St) (H:Hp) (Q:List (V×V)->Hp->Prop),Inv X Zt σ H s->uE kN σ H Q->
  wpAny (model X.prog X.w) X.A (evalPairs (pairTrees keys values X.env pos)) (fun vs s'=>∃ps H',Inv X Zt σ H' s'/\VV ps vs/\Q ps H') X.xe s
theorem Ci{X:Cx}{pos:Pos}:PPs X pos [] [] []:=fun Zt s σ H Q I h=>pairTrees_nil_walk ⟨[],H,I,.nil,h⟩
theorem yR{X:Cx}{pos:Pos}{k v:Expr}{ks:List (Option Expr)}{vs:List Expr}{tk tv:TE}{kN:List (TE×TE)}(hk:PE X k tk)(hv:PE X v tv)(hr:PPs X pos ks vs kN):
  PPs X pos (some k::ks) (v::vs) ((tk,tv)::kN):=fun Zt s σ H Q I h=>
 pairTrees_cons_walk (thn (hk Zt s σ H _ I h) fun u s1 ⟨x,H1,I1,rx,q1⟩=>thn (hv Zt s1 σ H1 _ I1 q1) fun w2 s2 ⟨y,H2,I2,ry,q2⟩=>
  thn (hr Zt s2 σ H2 _ I2 q2) fun ws s3 ⟨ps,H3,I3,rel,q3⟩=>⟨(x,y)::ps,H3,I3,.cons ⟨rx,ry⟩ rel,q3⟩)
def gO(Zs more:List (Key×V)):List (Key×V):=more.foldl (fun acc kv=>putK acc kv.1 kv.2) Zs
theorem KV.merge:∀{more:List (Key×V)} {rs:List (Key×Value)} {Zs:List (Key×V)} {vs:List (Key×Value)},KV more rs->KV Zs vs->KV (gO Zs more) (merged vs rs):=by
 intro more rs Zs vs r;unfold KV at r
 induction r generalizing Zs vs with
 |nil=>intro q;exact q
 |@cons p q ps qs h t ih=>
  intro r0
  have e:KV (putK Zs p.1 p.2) (stored vs q.1 q.2):=by
   have:=r0.put p.1 h.2;rw[<-h.1];exact this
  exact ih e
theorem iJ:∀(more Zs:List (Key×V)),(gO Zs more).length<=Zs.length+more.length
 |[],Zs=>by show Zs.length<=Zs.length+0;lia
 |p::r,Zs=>by
  have h1:=iJ r (putK Zs p.1 p.2);have h2:=cN Zs p.1 p.2;show(gO (putK Zs p.1 p.2) r).length<=_;rw[zAe];lia
theorem lZ{P:Program}{w:World}:∀{Zs:List (Key×V)} {ws:List (Value×Value)},VV (Zs.map fun kv=>(kV kv.1,kv.2)) ws->∃rs,Carries (bK P w) ws rs/\KV Zs rs
 |[],_,r=>by rw[List.map_nil]at r;cases r;exact⟨[],True.intro,.nil⟩
 |p::Zs,_,r=>by
  rw[zAk]at r
  cases r with
  |@cons a b as bs h t=>
   obtain⟨rs,c,q⟩:=lZ (P:=P) (w:=w) t;obtain⟨b1,b2⟩:=b;exact⟨(p.1,b2)::rs,⟨rY h.1,rfl,c⟩,.cons ⟨rfl,h.2⟩ q⟩
def HB(kN:List (TE×TE)):TE:=fun σ H Q=>∀p,H p=none->uE kN σ (upd H p (.dK [])) fun ps H2=>H2 p=some (.dK [])/\∃Zs:List (Key×V),ps=Zs.map (fun kv=>(kV kv.1,kv.2))/\Zs.length<=15/\Q (.ref p) (upd H2 p (.dK (gO [] Zs)))
theorem Cj{X:Cx}{pos:Pos}{keys:List (Option Expr)}{values:List Expr}{kN:List (TE×TE)}(h:PPs X pos keys values kN)(df:keys.all (·.isSome)=true)(hl:keys.length=values.length)(h0:keys≠[])
  (Lu:keys.length<=15):PE X (.Dict keys values pos) (HB kN):=by
 intro Zt s σ H Q I q;have hn:=I.hok.fresh (zA3 s.heap.objs.size);have I1:=I.laid (a:=s.heap.objs.size) (o:=.dK []) (h':=s.heap.push {cls:=.type "dict",data:=.dict #[]}) (t':=s.toks) (fun _ _ q=>zAz _ q) (zA3 _) (yP s.heap I.big);refine wpAny_Dict_walk (knd:=bK X.prog X.w) df hl h0 Lu (thn (h Zt _ σ _ _ I1 (q _ hn)) fun ws s2 ⟨ps,H2,I2,rel,e,Zs,ep,lk,q2⟩=>?_);subst ep;obtain⟨rs,c,rk⟩:=lZ (P:=X.prog) (w:=X.w) rel;obtain⟨z,hd,QT,r0,dd⟩:=Ej I2.hok e;cases r0;refine⟨rs,c,dd,fun h' oS hs=>⟨.ref s.heap.objs.size,_,?_,rfl,q2⟩⟩
 have hz:(gO [] Zs).length<=sizeLine:=by
  have h1:=iJ Zs [];rw[List.length_nil]at h1;rw[sizeLine_eq];lia
 have he:∃q,h'.get? s.heap.objs.size=some q:=let⟨q,_,_,hq,_⟩:=oS;⟨q,hq⟩
 exact qw I2 (by rw[e];exact True.intro) hs he (yO hz hd (rk.merge .nil) oS)
structure M2(X:Cx)(o:Expr)(m:Str)(apos:Pos)(e f:Expr)(bE:Pos):Prop where
 base:attributeBase o m X.env (eval o X.env)=eval o X.env
 few:((backTo bE (starEach [e,f] X.env)).all (fun x=>!x.1)&&(backToKw bE (keywordEach [] X.env)).all (fun x=>x.1.isSome)
  && decide (([e,f]:List Expr).length+([]:List Keyword).length+(if([]:List Keyword).isEmpty then 0 else 1)<30))=true
 line:(apos.endLine==bE.line)=true
 trees:backTo bE (starEach [e,f] X.env)=[(false,eval e X.env),(false,eval f X.env)]
def IsD(H:Hp)(a:Addr):Prop:=(∃Zs,Rd H a (.dK Zs))\/∃Zs,Rd H a (.dT Zs)
theorem FP{X:Cx}{Zt:List (Addr×Obj)}{σ:St}{H:Hp}{s:Shared}{a:Addr}(I:Inv X Zt σ H s)(d:IsD H a):
  s.TypeIs (.ref a) "dict"/\(∀b,Value.ref a=.ref b->∃ob,s.heap.get? b=some ob/\ob.dict=none)/\(a==sysModules)=false:=by
 rcases d with⟨Zs,e⟩|⟨Zs,e⟩
 .obtain⟨_,hd,vs,_,dd⟩:=rZ I.hok e;refine⟨dd.typeIs,fun b q=>?_,hd⟩;cases q;obtain⟨ob,_,_,h1,h2,_⟩:=dd;exact⟨ob,h1,h2.2.1⟩
 .obtain⟨_,hd,xs,_,dd⟩:=su I.hok e;refine⟨dd.typeIs,fun b q=>?_,hd⟩;cases q;obtain⟨ob,_,_,h1,h2,_⟩:=dd;exact⟨ob,h1,h2.2.1⟩
section
variable{X:Cx}{Zt:List (Addr×Obj)}{σ:St}{H:Hp}{s:Shared}{a:Addr}{y d:V}{u r:Value}{o:Option V}{A:Around}{E:Value->Shared->Prop}
theorem FQ{Q:Value->Shared->Prop}(hu:A.units+1<cLine)(I:Inv X Zt σ H s)(g:DGet H a y o)(ry:RelV y u)(rd:RelV d r)(h:∀w' s',Inv X Zt σ H s'->RelV (o.getD d) w'->Q w' s'):
  wpAny (model X.prog X.w) A (call (.builtin "dict.get") [.ref a,u,r]) Q E s:=by
 rcases g with⟨Zs,k,e,ey,l⟩|⟨Zs,k,b,e,ey,eb,l⟩
 .subst ey;obtain⟨z,hd,vs,rel,dd⟩:=rZ I.hok e;refine call_meetsIn PySem.F.slot_dict_get dd.typeIs PySem.F.entry_dict_get (PySem.F.args_dict_get_3 _ _ _) (meets_dict_get_default (bK X.prog X.w) a (rY ry) hd r) ⟨_,dd.mapOf,h _ _ (I.tok _) ?_⟩;rw[l];exact(rel.val k).getD rd
 .subst ey;cases(show u=Value.ref b from ry);obtain⟨z,hd,xs,rel,dd⟩:=su I.hok e;refine call_meetsIn PySem.F.slot_dict_get dd.typeIs PySem.F.entry_dict_get (PySem.F.args_dict_get_3 _ _ _) (meetsH_dict_get_default (tupleKind (bK X.prog X.w)) a b hd r) ⟨tupleKind_room_in1 hu,k,xs,qu I.hok eb,dd,h _ _ (I.tok _) ?_⟩;rw[l];exact(rel.val k).getD rd
end
def FT(td ty tx:TE):TE:=fun σ H Q=>td σ H fun x H1=>∃a,x=.ref a/\IsD H1 a/\ty σ H1 fun y H2=>tx σ H2 fun z H3=>∃o,DGet H3 a y o/\Q (o.getD z) H3
section
variable{X:Cx}{o e f:Expr}{apos bE:Pos}{td ty tx:TE}
theorem mj(hu:X.A.units+1<cLine)(ho:PE X o td)(he:PE X e ty)(hf:PE X f tx)(m:M2 X o "get" apos e f bE):PE X (.Call (.Attribute o "get" apos) [e,f] [] bE) (FT td ty tx):=by
 intro Zt s σ H Q I h;refine wpAny_Call_method m.base m.few m.line PySem.F.plainAttrs_dict PySem.F.slot_dict_get PySem.F.type_dict_get (thn (ho Zt s σ H _ I h) fun u s1 ⟨x,H1,I1,rx,a,ex,d,q1⟩=>?_);subst ex;obtain rfl:u=Value.ref a:=rx;obtain⟨t1,t2,_⟩:=FP I1 d;refine⟨t1,t2,?_⟩;rw[m.trees]
 refine Calls.callWith_builtin rfl (Calls.evalArgs_plain (Calls.spliced_cons (thn (he Zt s1 σ H1 _ I1 q1) fun iv s2 ⟨y,H2,I2,ry,q2⟩=>
  Calls.spliced_cons (thn (hf Zt s2 σ H2 _ I2 q2) fun fv s3 ⟨z,H3,I3,rz,ov,g,q3⟩=>Calls.spliced_nil ?_))))
 exact FQ hu I3 g ry rz fun w' s4 I4 eJ=>⟨_,H3,I4,eJ,q3⟩
end
section
variable{X:Cx}{Zt:List (Addr×Obj)}{σ:St}{H:Hp}{s:Shared}{a:Addr}{Zs:List (Key×V)}{A:Around}{E:Value->Shared->Prop}
end
section
variable{X:Cx}{Zt:List (Addr×Obj)}{σ:St}{H:Hp}{s:Shared}{a:Addr}{y:V}{u:Value}{A:Around}{E:Value->Shared->Prop}
end
def Ck:Key->PyData
 |.inl i=>.int i
 |.inr x=>.str x
mutual
inductive IsTh(S:Addr->Prop)(H:Hp):V->PyData->Prop
 |non:IsTh S H .non .none
 |bl (b:Bool):IsTh S H (.bl b) (.bool b)
 |int (i:Int):IsTh S H (.int i) (.int i)
 |str (x:Str):IsTh S H (.str x) (.str x)
 |lst {a:Addr} {xs:List V} {ds:List PyData} (hs:S a) (e:H a=some (.lst xs)) (r:IsThs S H xs ds):IsTh S H (.ref a) (.list ds)
 |tup {a:Addr} {xs:List V} {ds:List PyData} (e:H a=some (.tup xs)) (r:IsThs S H xs ds):IsTh S H (.ref a) (.tuple ds)
 |dct {a:Addr} {ks:List (Key×Int)} (hs:S a) (e:H a=some (.dK (ks.map fun p=>(p.1,V.int p.2)))):IsTh S H (.ref a) (.dict (ks.map fun p=>(Ck p.1,.int p.2)))
inductive IsThs(S:Addr->Prop)(H:Hp):List V->List PyData->Prop
 |nil:IsThs S H [] []
 |cons {v:V} {d:PyData} {vs:List V} {ds:List PyData} (h:IsTh S H v d) (t:IsThs S H vs ds):IsThs S H (v::vs) (d::ds)
end
section
variable{S S':Addr->Prop}{H H':Hp}
theorem IsThs.length:∀{vs:List V} {ds:List PyData},IsThs S H vs ds->vs.length=ds.length
 |_,_,.nil=>rfl
 |_,_,.cons _ t=>by rw[zAe,zAe,IsThs.length t]
theorem IsThs.get:∀{vs:List V} {ds:List PyData} {i:Nat} {v:V},IsThs S H vs ds->vs[i]?=some v->∃d,ds[i]?=some d/\IsTh S H v d
 |_,_,_,_,.nil,e=>by simp at e
 |_,_,0,_,.cons h _,e=>by simp at e;subst e;exact⟨_,rfl,h⟩
 |_,_,i+1,v,.cons _ t,e=>by
  obtain⟨d,h1,h2⟩:=IsThs.get (i:=i) (v:=v) t (by simpa using e);exact⟨d,by simpa using h1,h2⟩
theorem IsThs.append:∀{vs ws:List V} {ds es:List PyData},IsThs S H vs ds->IsThs S H ws es->IsThs S H (vs++ws) (ds++es)
 |_,_,_,_,.nil,s=>s
 |_,_,_,_,.cons h t,s=>.cons h (IsThs.append t s)
theorem IsThs.ints:∀(ns:List Int),IsThs S H (ns.map V.int) (ns.map PyData.int)
 |[]=>.nil
 |n::ns=>.cons (.int n) (IsThs.ints ns)
mutual
theorem IsTh.keep(ht:∀b xs,H b=some (.tup xs)->H' b=some (.tup xs))(hs:∀b o,S b->H b=some o->H' b=some o)(hS:∀b o,S b->H b=some o->S' b):∀{v:V} {d:PyData},IsTh S H v d->IsTh S' H' v d
 |_,_,.non=>.non
 |_,_,.bl b=>.bl b
 |_,_,.int i=>.int i
 |_,_,.str x=>.str x
 |_,_,.lst s e r=>.lst (hS _ _ s e) (hs _ _ s e) (IsThs.keep ht hs hS r)
 |_,_,.tup e r=>.tup (ht _ _ e) (IsThs.keep ht hs hS r)
 |_,_,.dct s e=>.dct (hS _ _ s e) (hs _ _ s e)
theorem IsThs.keep(ht:∀b xs,H b=some (.tup xs)->H' b=some (.tup xs))(hs:∀b o,S b->H b=some o->H' b=some o)(hS:∀b o,S b->H b=some o->S' b):∀{vs:List V} {ds:List PyData},IsThs S H vs ds->IsThs S' H' vs ds
 |_,_,.nil=>.nil
 |_,_,.cons h t=>.cons (IsTh.keep ht hs hS h) (IsThs.keep ht hs hS t)
end
def tyD:PyData->String
 |.none=>"NoneType"
 |.bool _=>"bool"
 |.int _=>"int"
 |.str _=>"str"
 |.list _=>"list"
 |.tuple _=>"tuple"
 |.dict _=>"dict"
theorem IsTh.ty{K:Frag}{v:V}{d:PyData}(h:IsTh S H v d):TyOf K H v (.type (tyD d)):=by
 cases h with
 |non=>exact .non
 |bl b=>exact .bl b
 |int i=>exact .int i
 |str x=>exact .str x
 |lst s e r=>exact .lst e
 |tup e r=>exact .tup e
 |dct s e=>exact .dK e
def qx:PyData->Bool
 |.int _=>true
 |.bool _=>true
 |_=>false
def qy:PyData->Bool
 |.bool _=>true
 |_=>false
def qz:PyData->Bool
 |.tuple _=>true
 |_=>false
theorem Cm{K:Frag}(d:PyData):PySem.W.kitOne K (.type (tyD d)) (.type "int")=some (qx d):=by
 cases d
 .exact jB
 .exact qj
 .exact rR
 .exact rT
 .exact qp
 .exact nO
 .exact qt
theorem yS{K:Frag}(d:PyData):PySem.W.kitOne K (.type (tyD d)) (.type "bool")=some (qy d):=by
 cases d
 .exact j8
 .exact nG
 .exact ql
 .exact qm
 .exact nM
 .exact lU
 .exact nP
theorem Cp{K:Frag}(d:PyData):PySem.W.kitOne K (.type (tyD d)) (.type "tuple")=some (qz d):=by
 cases d
 .exact iQ
 .exact lQ
 .exact nH
 .exact nJ
 .exact lR
 .exact kh
 .exact lV
end
mutual
def sz:PyData->Nat
 |.none=>1
 |.bool _=>1
 |.int _=>1
 |.str _=>1
 |.list xs=>1+szs xs
 |.tuple xs=>1+szs xs
 |.dict Zs=>1+4*Zs.length
def szs:List PyData->Nat
 |[]=>0
 |x::xs=>sz x+szs xs
end
section
variable{X:Cx}{Zt:List (Addr×Obj)}{σ:St}{H:Hp}{s:Shared}{S:Addr->Prop}
theorem mq{P:Program}{w:World}:∀{ks:List (Key×Int)} {vs:List (Key×Value)} {es:List DictEntry},KV (ks.map fun p=>(p.1,V.int p.2)) vs->Pairs (bK P w) es vs->
  (∃as,ReadsAll s.heap (es.map (·.key)) ((ks.map fun p=>(Ck p.1,PyData.int p.2)).map (·.1)) as/\as=[])/\∃as,ReadsAll s.heap (es.map (·.val)) ((ks.map fun p=>(Ck p.1,PyData.int p.2)).map (·.2)) as/\as=[]
 |[],vs,es,r,p=>by
  cases r;cases p;exact⟨⟨_,.nil,rfl⟩,⟨_,.nil,rfl⟩⟩
 | (k,n)::ks,vs,es,r,p=>by
  cases r with
  |@cons a b l1 l2 h t=>
   cases p with
   |@cons e kv eC kvs' h1 h2 h3=>
    obtain⟨⟨_,i1,rfl⟩,⟨_,i2,rfl⟩⟩:=mq (ks:=ks) t h3;obtain⟨q1,q2⟩:=h;have HC:lB b.1 e.key=true:=h1;rw[<-q1]at HC;obtain⟨tv,Lv⟩:∃t,b.2=Value.int n t:=q2;rw[Lv]at h2;refine⟨⟨_,?_,rfl⟩,⟨_,?_,rfl⟩⟩
    .show ReadsAll s.heap (e.key::eC.map (·.key)) (Ck k::_) ([]++[]);rcases bR HC with⟨i,tk,ei,ev⟩|⟨x,tk,ei,ev⟩
     .have ei:k=Sum.inl i:=ei;rw[ev,ei];exact .cons (.int _ _) i1
     .have ei:k=Sum.inr x:=ei;rw[ev,ei];exact .cons (.str _ _) i1
    .show ReadsAll s.heap (e.val::eC.map (·.val)) (PyData.int n::_) ([]++[]);rw[h2];exact .cons (.int _ _) i2
mutual
theorem IsTh.reads(I:Inv X Zt σ H s):∀{v:V} {d:PyData} {u:Value},IsTh S H v d->RelV v u->∃as,Reads s.heap u d as/\∀a∈as,S a
 |_,_,_,.non,r=>by cases(show _=Value.none from r);exact⟨[],.none,fun _ h=>nomatch h⟩
 |_,_,_,.bl b,r=>by cases(show _=Value.bool b from r);exact⟨[],.bool b,fun _ h=>nomatch h⟩
 |_,_,_,.int i,r=>by obtain⟨t,rfl⟩:=r;exact⟨[],.int i t,fun _ h=>nomatch h⟩
 |_,_,_,.str x,r=>by obtain⟨t,rfl⟩:=r;exact⟨[],.str x t,fun _ h=>nomatch h⟩
 |_,_,_,@IsTh.lst _ _ a xs ds hs e t,r=>by
  cases(show _=Value.ref a from r)
  obtain⟨_,Zr,n,rv,ho⟩:=(show ObjOk X.prog X.w H s.heap a (.lst xs)from I.hok a _ e)
  obtain⟨as,h1,h2⟩:=IsThs.reads I t rv;refine⟨a::as,.list ho rfl rfl (by simpa using h1),fun b hb=>?_⟩;rcases zAo.mp hb with z|z
  .rw[z];exact hs
  .exact h2 b z
 |_,_,_,@IsTh.tup _ _ a xs ds e t,r=>by
  cases(show _=Value.ref a from r)
  obtain⟨_,Zr,rv,o,ho,hc,n,hd⟩:=(show ObjOk X.prog X.w H s.heap a (.tup xs)from I.hok a _ e)
  obtain⟨as,h1,h2⟩:=IsThs.reads I t rv;exact⟨as,.tuple ho hc hd (by simpa using h1),h2⟩
 |_,_,_,@IsTh.dct _ _ a ks hs e,r=>by
  cases(show _=Value.ref a from r)
  obtain⟨_,_,vs,rel,o,es,ep,ho,hx,hd,_,hp,_⟩:=(show ObjOk X.prog X.w H s.heap a (.dK _)from I.hok a _ e)
  obtain⟨⟨_,i1,rfl⟩,⟨_,i2,rfl⟩⟩:=mq (s:=s) rel hp;refine⟨a::[]++[],.dict ho hx.1 hd i1 i2,fun b hb=>?_⟩;rw[show b=a by simpa using hb];exact hs
theorem IsThs.reads(I:Inv X Zt σ H s):∀{vs:List V} {ds:List PyData} {us:List Value},IsThs S H vs ds->Vals vs us->∃as,ReadsAll s.heap us ds as/\∀a∈as,S a
 |_,_,_,.nil,r=>by cases r;exact⟨[],.nil,fun _ h=>nomatch h⟩
 |_,_,_,.cons h t,r=>by
  cases r with
  |cons r1 r2=>
   obtain⟨as,h1,h2⟩:=IsTh.reads I h r1;obtain⟨bs,h3,h4⟩:=IsThs.reads I t r2;exact⟨as++bs,.cons h1 h3,fun b hb=>(zA6.mp hb).elim (h2 b) (h4 b)⟩
end
end
section
variable{X:Cx}
end
section
variable{prog:Program}{w:World}{A:Around}{E:Value->Shared->Prop}{s:Shared}
theorem FW{j t:Addr}{i:Nat}{Zr:Array Value}{x:Value}{Q:Value->Shared->Prop}(hj:s.heap.IsTupleIter j t i)(ht:s.heap.IsTuple t Zr)(hx:Zr[i]?=some x)
  (hQ:∀h',h'.IsTupleIter j t (i+1)->Heap.SameBut j s.heap h'->Q x {s with heap:=h'}):wpAny (model prog w) A (Builtin.SmallTypes.nextOf (.ref j)) Q E s:=by
 obtain⟨o,ho,hc,hd⟩:=id hj;obtain⟨p,hp,_,m,hm⟩:=ht;unfold Builtin.SmallTypes.nextOf;refine wpAny_bind (wpAny_callSpecial?_slot (name:=Str.ofString "__next__") hj.typeIs F.slot_tuple_iterator_next (wpAny_call_entry F.slot_tuple_iterator_next hj.typeIs F.entry_tuple_iterator_next ?_ (F.args_tuple_iterator_next_1 _)));show wpAny _ _ (field (.ref j) 0>>=_) _ _ s;refine wpAny_bind (wpAny_field ho hd (x:=.ref t) rfl ?_);show wpAny _ _ (if(Value.ref t==Value.none)=true then _ else _) _ _ s;rw[if_neg (show¬((Value.ref t==Value.none)=true) by intro z;exact zAg z)];show wpAny _ _ (field (.ref j) 1>>=_) _ _ s;refine wpAny_bind (wpAny_field ho hd (x:=.int i 0) rfl (wpAny_bind (wpAny_seqItems hp hm ?_)));simp only[Int.toNat_natCast,hx]
 refine wpAny_bind (wpAny_setField ho hd Zy (wpAny_pure ⟨x,rfl,wpAny_pure (hQ _ ⟨_,Heap.get?_update_self _ ho (Obj.isFreed_of_fields (Obj.data_mapFields hd _)),(Obj.cls_mapFields ..).trans hc,by
  rw[Obj.data_mapFields hd]
  simp[rawInt]⟩ (Heap.SameBut.update ..))⟩))
theorem uF{j t:Addr}{i:Nat}{Zr:Array Value}{Q:Value->Shared->Prop}(hh:A.handled=none)(hj:s.heap.IsTupleIter j t i)(ht:s.heap.IsTuple t Zr)(hx:Zr[i]?=none)
  (hE:∀h' e,Heap.ExtBut j s.heap h'->(∃o,h'.get? e=some o/\o.cls=.type "StopIteration")->E (.ref e) {s with heap:=h'}):wpAny (model prog w) A (Builtin.SmallTypes.nextOf (.ref j)) Q E s:=by
 obtain⟨o,ho,hc,hd⟩:=id hj;obtain⟨p,hp,_,m,hm⟩:=ht;unfold Builtin.SmallTypes.nextOf;refine wpAny_bind (wpAny_callSpecial?_slot (name:=Str.ofString "__next__") hj.typeIs F.slot_tuple_iterator_next (wpAny_call_entry F.slot_tuple_iterator_next hj.typeIs F.entry_tuple_iterator_next ?_ (F.args_tuple_iterator_next_1 _)));show wpAny _ _ (field (.ref j) 0>>=_) _ _ s;refine wpAny_bind (wpAny_field ho hd (x:=.ref t) rfl ?_);show wpAny _ _ (if(Value.ref t==Value.none)=true then _ else _) _ _ s;rw[if_neg (show¬((Value.ref t==Value.none)=true) by intro z;exact zAg z)];show wpAny _ _ (field (.ref j) 1>>=_) _ _ s;refine wpAny_bind (wpAny_field ho hd (x:=.int i 0) rfl (wpAny_bind (wpAny_seqItems hp hm ?_)));simp only[Int.toNat_natCast,hx];refine wpAny_bind (wpAny_rule (wpAny_bind (wpAny_setField ho hd Zy ?_)));show wpAny _ _ (newExc (.type "StopIteration") []>>=_) _ _ _;refine wpAny_bind ?_;simp only[newExc,newTuple];refine wpAny_bind (wpAny_newObj_type (wpAny_bind (m:=firstArgMember _ _) (wpAny_of_eq (a:=Value.none) (by first|rfl | (simp only[firstArgMember];rfl)) (wpAny_newObj_type ?_ (by size_fits)))) (by size_fits));simp only[raiseNew];refine wpAny_bind (wpAny_handled ?_)
 first
  |rw[show A.in1.handled=none from hh]
  |rw[hh]
 exact zAu (zAy (wpAny_throw (hE _ _ (((Heap.SameBut.update ..).extBut.push _).push _) ⟨_,zB3 _ rfl,rfl⟩)))
end
section
variable{X:Cx}
end
theorem IsTh.same{S:Addr->Prop}{H H':Hp}{v:V}{d:PyData}(h:IsTh S H v d)(s:Same H H'):IsTh S H' v d:=h.keep (fun b xs e=>s b _ e) (fun b o _ e=>s b o e) fun _ _ z _=>z
theorem IsThs.same{S:Addr->Prop}{H H':Hp}{v:List V}{d:List PyData}(h:IsThs S H v d)(s:Same H H'):IsThs S H' v d:=h.keep (fun b xs e=>s b _ e) (fun b o _ e=>s b o e) fun _ _ z _=>z
theorem Same.upd{H:Hp}{D:Addr}{o:HO}(h:H D=none):Same H (upd H D o):=fun b u e=>by rw[aA (aG e h)];exact e
theorem Same.updR{H H':Hp}{D:Addr}{o:HO}(s:Same H H')(h:H' D=none):Same H (L2.upd H' D o):=s.trans (Same.upd h)
theorem sE{K:Frag}{S:Addr->Prop}{te:TE}{a:Addr}{xs:List V}{ds:List PyData}(f:PyData->Bool){dv:St}{j:Nat}{H0:Hp}{Fin:List V->Hp->Prop}(hT:H0 a=some (.tup xs))(th:IsThs S H0 xs ds)(hl:xs.length<sizeLine)
  (u7:∀v d H Q,d∈ds->Same H0 H->IsTh S H v d->(∀H',Same H H'->Q (.bl (f d)) H')->te (dv.set j (some v)) H Q)
  (fin:∀H',Same H0 H'->Fin (ds.map fun d=>V.bl (f d)) H'):jV (Itt K a) (bD j) uD te Fin dv H0:=by
 have hlen:=th.length;refine⟨fun i m ys σ H=>m=xs.length-i/\i<=xs.length/\ys=(ds.take i).map (fun d=>V.bl (f d))/\(∀o,σ.set j o=dv.set j o)/\Same H0 H,⟨_,rfl,zAp _,rfl,fun _=>rfl,Same.refl _⟩,?_⟩;rintro i m ys σ H ⟨rfl,hi,rfl,iF,hs⟩;have sq:SqT K H a xs:=SqT.of (hs _ _ hT);refine⟨by rw[zA1,zAd];lia,?_⟩;by_cases aw:i<xs.length
 .refine .inr ⟨⟨xs,xs[i],sq,by simp[aw]⟩,fun x H' y=>?_⟩;obtain⟨e,y⟩:=y;subst e;have hx:=y xs sq;obtain⟨d,hd,ht⟩:=(th.same hs).get hx;show te (σ.set j (some x)) H' _;rw[iF]
  refine u7 x d H' _ (zB6 hd) hs ht fun H2 s2=>⟨xs.length-(i+1),Zz,rfl,aw,?_,fun o=>by rw[List.set_set],hs.trans s2⟩
  rw[zAj,hd];simp
 .have e:i=xs.length:=Zz
  subst e;refine .inl ⟨⟨xs,sq,zA3 _⟩,?_⟩;rw[hlen,zAm];exact fin H hs
theorem yU{ds:List PyData}{f:PyData->Bool}:ds.map (fun d=>V.bl (f d))=(ds.map f).map V.bl:=by rw[zAr];rfl
theorem FZ{ds:List PyData}{f:PyData->Bool}:(ds.map f).all id=ds.all f:=by rw[List.all_map];rfl
section
variable{X:Cx}{es:List Expr}{t:TA}{pos:Pos}
end
section
variable{X:Cx}{a b c d:Expr}{ta tb tc td:TE}{pos:Pos}
def vy(r r' zw:R2)(ta tb tc td:TE):TE:=fun σ H Q=>ta σ H fun x H1=>tb σ H1 fun y H2=>r x y H2 fun z H3=>∃k,z=.bl k /\
 (if k=true then tc σ H3 fun x2 H4=>r' y x2 H4 fun z2 H5=>∃k2,z2=.bl k2/\(if k2=true then td σ H5 fun x3 H6=>zw x2 x3 H6 Q else Q (.bl false) H5)else Q (.bl false) H3)
theorem xH{o1 o2 o3:CmpOp}{r r' zw:R2}(h1:OpR X (compareOp o1) r)(h2:OpR X (compareOp o2) r')(h3:OpR X (compareOp o3) zw)(ha:PE X a ta)(hb:PE X b tb)(hc:PE X c tc)(hd:PE X d td)
  (hm:lastMarks [o1,o2,o3] [b,c,d]=false:=by with_unfolding_all rfl):PE X (.Compare a [o1,o2,o3] [b,c,d] pos) (vy r r' zw ta tb tc td):=by
 intro Zt s σ H Q I h
 refine Compare_chain (thn (ha Zt s σ H _ I h) fun v s1 ⟨x,H1,I1,r1,q1⟩=>chain_link (thn (hb Zt s1 σ H1 _ I1 q1) fun u s2 ⟨y,H2,I2,r2,q2⟩=>
  thn (h1 Zt s2 σ H2 x y v u _ I2 r1 r2 q2) fun g s3 ⟨z,H3,I3,r3,k,e,q3⟩=>?_)) hm
 subst e;cases r3;refine wpAny_truthy_bool ?_
 cases k with
 |false=>exact ite_ff ⟨.bl false,H3,I3,rfl,q3⟩
 |true=>
  refine ite_tt (chain_link (thn (hc Zt s3 σ H3 _ I3 q3) fun w' s4 ⟨z',H4,I4,r4,q4⟩=>thn (h2 Zt s4 σ H4 y z' u w' _ I4 r2 r4 q4) fun g2 s5 ⟨z5,H5,I5,r5,k2,e2,q5⟩=>?_));subst e2;cases r5;refine wpAny_truthy_bool ?_
  cases k2 with
  |false=>exact ite_ff ⟨.bl false,H5,I5,rfl,q5⟩
  |true=>exact ite_tt (chain_last (thn (hd Zt s5 σ H5 _ I5 q5) fun w6 s6 ⟨z6,H6,I6,r6,q6⟩=>h3 Zt s6 σ H6 z' z6 w' w6 Q I6 r4 r6 q6))
end
def Ev(σ:St)(H:Hp)(t:TE)(v:V):Prop:=∀Q:VK,Q v H->t σ H Q
section
variable{σ:St}{H:Hp}{ta tb tc td:TE}
theorem eU{v:V}:Ev σ H (tC v) v:=fun _ h=>h
theorem dB{i:Nat}{v:V}(h:σ[i]?=some (some v)):Ev σ H (um i) v:=fun _ q=>⟨v,h,q⟩
theorem bQ{p q:Int->Int->Bool}{i j k:Int}(a:Ev σ H ta (.int i))(b:Ev σ H tb (.int j))(c:Ev σ H tc (.int k)):
  Ev σ H (uw (rI0 fun i j=>.bl (p i j)) (rI0 fun i j=>.bl (q i j)) ta tb tc) (.bl (p i j&&q j k)):=fun Q h=>a _ (b _ ⟨i,j,rfl,rfl,_,rfl,by
 cases e:p i j with
 |false=>
  rw[e]at h;exact bw h
 |true=>
  rw[e]at h
  exact bI (c _ ⟨j,k,rfl,rfl,h⟩)⟩)
theorem xJ{p q r:Int->Int->Bool}{i j k l:Int}(a:Ev σ H ta (.int i))(b:Ev σ H tb (.int j))(c:Ev σ H tc (.int k))(d:Ev σ H td (.int l)):
  Ev σ H (vy (rI0 fun i j=>.bl (p i j)) (rI0 fun i j=>.bl (q i j)) (rI0 fun i j=>.bl (r i j)) ta tb tc td) (.bl (p i j&&(q j k&&r k l))):=fun Q h=>a _ (b _ ⟨i,j,rfl,rfl,_,rfl,by
 cases e:p i j with
 |false=>
  rw[e]at h;exact bw h
 |true=>
  rw[e]at h;refine bI (c _ ⟨j,k,rfl,rfl,_,rfl,?_⟩)
  cases e2:q j k with
  |false=>
   rw[e2]at h;exact bw h
  |true=>
   rw[e2]at h
   exact bI (d _ ⟨k,l,rfl,rfl,h⟩)⟩)
theorem gP{b c:Bool}(x:Ev σ H ta (.bl b))(y:b=true->Ev σ H tb (.bl c)):Ev σ H (Eb ta tb) (.bl (b&&c)):=fun Q h=>x _ ⟨b,rfl,by
 cases e:b with
 |false=>
  rw[e]at h;exact bw h
 |true=>
  rw[e]at h
  exact bI (y e _ h)⟩
end
structure Plain(e:Expr):Prop where
 eq:∀(es:List Expr) (env:Env),starEach (e::es) env=(false,eval e env)::starEach es env
theorem gQ{c j p}:Plain (.Constant c j p):=⟨fun _ _=>rfl⟩
theorem iR{x p}:Plain (.Name x p):=⟨fun _ _=>rfl⟩
theorem gR{es k p}:Plain (.Tuple es k p):=⟨fun _ _=>rfl⟩
theorem iT{es p}:Plain (.List es p):=⟨fun _ _=>rfl⟩
theorem iU{ks vs p}:Plain (.Dict ks vs p):=⟨fun _ _=>rfl⟩
theorem iV{f as ks p}:Plain (.Call f as ks p):=⟨fun _ _=>rfl⟩
theorem plain_bin{a o b p}:Plain (.BinOp a o b p):=⟨fun _ _=>rfl⟩
theorem my{o a p}:Plain (.UnaryOp o a p):=⟨fun _ _=>rfl⟩
theorem jC{a b p}:Plain (.Subscript a b p):=⟨fun _ _=>rfl⟩
theorem iW{a b c p}:Plain (.ListComp a b c p):=⟨fun _ _=>rfl⟩
theorem jD{a b c p}:Plain (.Compare a b c p):=⟨fun _ _=>rfl⟩
section
variable{X:Cx}{e:Expr}{es:List Expr}{te:TE}{t:TA}
theorem az(ha:PE X e te)(hr:PA X es t)(hp:Plain e:=by first|exact iR|exact gQ|exact iV|exact gR|exact iT|exact plain_bin|exact jC|exact my|exact iU|exact iW|exact jD):PA X (e::es) (rM te t):=
 aQ ha hr (hp.eq _ _)
end
structure AA(X:Cx)(es:List Expr)(t:TA):Prop where
 run:PA X es t
section
variable{X:Cx}{e:Expr}{es:List Expr}{te:TE}{t:TA}{pos:Pos}
theorem gD:AA X [] Fp:=⟨ao⟩
theorem qC(ha:PE X e te)(hr:AA X es t)(hp:Plain e:=by first|exact iR|exact gQ|exact iV|exact gR|exact iT|exact plain_bin|exact jC|exact my|exact iU|exact iW|exact jD):AA X (e::es) (rM te t):=
 ⟨aQ ha hr.run (hp.eq _ _)⟩
theorem Cq{x1}(h:AA X es t):PE X (.Tuple es x1 pos) (Fq t):=cz h.run
theorem vz(h:AA X es t):PE X (.List es pos) (Ft t):=cJ h.run
end
inductive IsInts:List Expr->List Int->Prop
 |nil:IsInts [] []
 |cons {i:Int} {j:Nat} {p:Pos} {es:List Expr} {is:List Int}:IsInts es is->IsInts (.Constant (.int i) j p::es) (i::is)
def HJ(is:List Int):TA:=fun _ H Q=>Q (is.map V.int) H
theorem jc{X:Cx}:∀{es:List Expr} {is:List Int},IsInts es is->PA X es (HJ is)
 |_,_,.nil=>fun _ _ _ _ H Q I h=>Calls.spliced_nil ⟨[],H,I,.nil,h⟩
 |_,_,@IsInts.cons i j p es is r=>by
  have h:=az (X:=X) (aC (i:=i) (j:=j) (pos:=p)) (jc r);exact h
theorem dO{X:Cx}{es:List Expr}{k:Nat}{pos:Pos}{t:TGs}{K:Frag}{n:Nat}(hK:X.K=K)(hc:X.calm=true)(h:PGs X es t)(hn:(assignEach es X.env).length=n:=by rfl)(fE:(assignEach es X.env).findIdx? (·.1)=none:=by rfl):
  PG X (.Tuple es k pos) (jY K n t):=by
 subst hK;exact bG hc h hn fE
structure BE(X:Cx)(e:Expr)(t:TE):Prop where
 run:PE X e t
section
variable{X:Cx}{e:Expr}{es:List Expr}{te:TE}{t:TA}{pos:Pos}
theorem jd(ha:BE X e te)(hr:AA X es t)(hp:Plain e:=by first|exact iR|exact gQ|exact iV|exact gR|exact iT|exact plain_bin|exact jC|exact my|exact iU|exact iW|exact jD):AA X (e::es) (rM te t):=qC ha.run hr hp
theorem El(h:BE X e te):PE X e te:=h.run
theorem G3{i:Int}{j}:BE X (.Constant (.int i) j pos) (tC (.int i)):=⟨aC⟩
theorem HN{b:Bool}{j}:BE X (.Constant (.bool b) j pos) (tC (.bl b)):=⟨iI⟩
theorem uG{x1}(h:AA X es t):BE X (.Tuple es x1 pos) (Fq t):=⟨cz h.run⟩
theorem uH(h:AA X es t):BE X (.List es pos) (Ft t):=⟨cJ h.run⟩
end
structure BS(X:Cx)(st:Stmt)(t:TS):Prop where
 run:PS X st t
structure BSs(X:Cx)(A0:List Stmt)(t:TS):Prop where
 run:PSs X A0 t
section
variable{X:Cx}{st:Stmt}{rest:List Stmt}{t u:TS}{pos:Pos}
theorem vA(h:BSs X rest t):PSs X rest t:=h.run
theorem aY(h1:BS X st t)(h2:BSs X rest u):BSs X (st::rest) (BJ t u):=⟨aB h1.run h2.run⟩
theorem fO(h1:BS X st t):BSs X [st] t:=⟨aF h1.run⟩
theorem G4{i:Nat}{x:Str}{e:Expr}{te:TE}{pos':Pos}(hN:X.N.Nodup)(hi:X.N[i]?=some x)(hx:Loc X.env.scope x)(he:BE X e te)(hs:swapsWith e (some (.Name x pos')) pos.line X.env=pure false:=by rfl)(hf:X.fn x=true\/X.env.scope.names.lookup x=some .local:=by first|exact .inl rfl|exact .inr rfl|assumption):
  BS X (.Assign [.Name x pos'] e pos) (wX te (bD i)):=⟨pR hN hi hx he.run hs hf⟩
theorem yV{e:Expr}{te:TE}(he:BE X e te):BS X (.Return (some e) pos) (Fi te):=⟨aO he.run⟩
theorem Em{op:Operator}{r:R2}{a b:Expr}{ta tb:TE}(ho:OpR X (binaryOp op) r)(ha:BE X a ta)(hb:BE X b tb):BE X (.BinOp a op b pos) (tOp r ta tb):=⟨aU ho ha.run hb.run⟩
theorem En{r:R2}{a b:Expr}{ta tb:TE}(hr:IxR X r)(ha:BE X a ta)(hb:BE X b tb)(hs:qb b):BE X (.Subscript a b pos) (tOp r ta tb):=⟨Eh hr ha.run hb.run hs⟩
end
theorem pgn{X:Cx}{x:Str}{pos:Pos}(i:Nat)(hN:X.N.Nodup)(hi:X.N[i]?=some x:=by rfl)(hx:Loc X.env.scope x:=by exact Or.inl rfl)(hf:X.fn x=true\/X.env.scope.names.lookup x=some .local:=by first|exact .inl rfl|exact .inr rfl):PG X (.Name x pos) (bD i):=bH hN hi hx hf
theorem pss{X:Cx}{x:Str}{pos pos':Pos}{e:Expr}{te:TE}(i:Nat)(hN:X.N.Nodup)(he:PE X e te)(hi:X.N[i]?=some x:=by rfl)(hx:Loc X.env.scope x:=by exact Or.inl rfl)(hs:swapsWith e (some (.Name x pos')) pos.line X.env=pure false:=by rfl)(hf:X.fn x=true\/X.env.scope.names.lookup x=some .local:=by first|exact .inl rfl|exact .inr rfl):PS X (.Assign [.Name x pos'] e pos) (wX te (bD i)):=pR hN hi hx he hs hf
theorem km{X:Cx}{x:Str}{pos pos':Pos}{e:Expr}{te:TE}(i:Nat)(hN:X.N.Nodup)(he:BE X e te)(hi:X.N[i]?=some x:=by rfl)(hx:Loc X.env.scope x:=by exact Or.inl rfl)(hs:swapsWith e (some (.Name x pos')) pos.line X.env=pure false:=by rfl)(hf:X.fn x=true\/X.env.scope.names.lookup x=some .local:=by first|exact .inl rfl|exact .inr rfl):BS X (.Assign [.Name x pos'] e pos) (wX te (bD i)):=G4 hN hi hx he hs hf
theorem pX{X:Cx}{r:R2}{a b:Expr}{ta tb:TE}{pos:Pos}(hr:IxR X r)(ha:PE X a ta)(hb:PE X b tb)(hs:qb b:=by exact fun _ _=>rfl):PE X (.Subscript a b pos) (tOp r ta tb):=Eh hr ha hb hs
theorem zL{n:Nat}(h:Nat.ble n 1000=true:=by rfl):n<=sizeLine:=Nat.le_trans (Nat.le_of_ble_eq_true h) Zx
theorem cI{X:Cx}{aS:Env}{x:Str}{i:Nat}{N:List Str}{r:List (Option Nat)}(h:Caps X aS N r)(h1:X.N[i]?=some x:=by rfl)(h2:X.env.kindOf x=some .cell:=by rfl)(h3:aS.cells.lookup x=X.env.cells.lookup x:=by rfl)(h4:aS.kindOf x=some .cell:=by rfl):Caps X aS (x::N) (some i::r):=⟨⟨h1,.inl h2,h3,.inl h4⟩,h⟩
theorem fQS{N P:List Str}{sc:Scope}(h1:sc.kind=.function:=by rfl)(h2:sc.isCoroutine=false:=by rfl)(h3:sc.isGenerator=false:=by rfl)(h4:N.Nodup:=by decide +kernel)(h5:N.take P.length=P:=by rfl)(h6:∀x∈P,sc.names.lookup x=some .local\/sc.names.lookup x=some .cell:=by decide +kernel)(h7:∀y∈sc.names,y.2≠.free:=by decide +kernel):FnScope N P sc:=⟨h1,h2,h3,h4,h5,h6,h7⟩
section
variable{X:Cx}{es:List Expr}{t:TA}{pos:Pos}
end
section
variable{S:Addr->Prop}{σ:St}{H:Hp}
end
section
variable{D:Ends}{σ:St}{H:Hp}{t u:TS}{te:TE}{ta:TA}{g:TG}{Q:VK}
theorem dh(h:D.nx σ H):Ed D σ H:=h
theorem aH(h:t {D with nx:=u D} σ H):BJ t u D σ H:=h
theorem iw(h:∀c:St->Hp->Prop,(∀ai H',u D ai H'->c ai H')->t {D with nx:=c} σ H):BJ t u D σ H:=h (u D) fun _ _ z=>z
theorem aX(h:te σ H fun x H1=>g x σ H1 D.nx):wX te g D σ H:=h
theorem jE(h:te σ H D.rt):Fi te D σ H:=h
theorem aM{i:Nat}{v:V}{R:St->Hp->Prop}(h:R (σ.set i (some v)) H):bD i v σ H R:=h
end
end L2
namespace L2.ZT
open PySem PySem.Spec PyProof.Rows L2
def nm(t:Bool):String:=match t with|true=>"tuple_iterator"|false=>"list_iterator"
def tn(t:Bool):String:=match t with|true=>"tuple"|false=>"list"
def Io(t:Bool)(h:Heap)(a l:Addr)(i:Nat):Prop:=∃o,h.get? a=some o/\o.cls=.type (nm t)/\o.data=.fields #[.ref l,.int i 0]
def Sq(t:Bool)(h:Heap)(a:Addr)(items:Array Value):Prop:=∃o,h.get? a=some o/\o.cls=.type (tn t)/\∃n,o.data=.seq items n
def SQ(t:Bool)(K:Frag)(H:Hp)(a:Addr)(xs:List V):Prop:=match t with|true=>SqT K H a xs|false=>SqL K H a xs
theorem Io.at{t:Bool}{h h':Heap}{a l:Addr}{i:Nat}(x:Io t h a l i)(e:∀o,h.get? a=some o->h'.get? a=some o):Io t h' a l i:=let⟨o,ho,r⟩:=x;⟨o,e _ ho,r⟩
theorem Io.extBut{t:Bool}{h h':Heap}{a b l:Addr}{i:Nat}(x:Io t h a l i)(e:Heap.ExtBut b h h')(n:a≠b):Io t h' a l i:=x.at fun o q=>e _ _ n q
theorem Sq.at{t:Bool}{h h':Heap}{a:Addr}{xs:Array Value}(x:Sq t h a xs)(e:∀o,h.get? a=some o->h'.get? a=some o):Sq t h' a xs:=let⟨o,ho,r⟩:=x;⟨o,e _ ho,r⟩
theorem Sq.extBut{t:Bool}{h h':Heap}{a b:Addr}{xs:Array Value}(x:Sq t h a xs)(e:Heap.ExtBut b h h')(n:a≠b):Sq t h' a xs:=x.at fun o q=>e _ _ n q
theorem jW{t:Bool}{X:Cx}{Zt:List (Addr×Obj)}{σ:St}{H:Hp}{s:Shared}{a:Addr}{xs:List V}(I:Inv X Zt σ H s)(h:SQ t X.K H a xs):∃Zr:List Value,Vals xs Zr/\Sq t s.heap a Zr.toArray/\xs.length<=sizeLine:=by
 cases t
 .obtain⟨Zr,r,p,z⟩:=I.list h;exact⟨Zr,r,p.isList,z⟩
 .exact I.tuple h
theorem uI{t:Bool}{X:Cx}{Zt:List (Addr×Obj)}{σ:St}{H:Hp}{s:Shared}{a:Addr}{xs ys:List V}(I:Inv X Zt σ H s)(h:SQ t X.K H a xs)(h':SQ t X.K H a ys):xs=ys:=by
 cases t
 .exact I.list_inj h h'
 .exact I.tuple_inj h h'
section
variable{prog:Program}{w:World}{A:Around}{E:Value->Shared->Prop}{s:Shared}
theorem nx{t:Bool}{j l:Addr}{i:Nat}{Zr:Array Value}{x:Value}{Q:Value->Shared->Prop}(hj:Io t s.heap j l i)(ht:Sq t s.heap l Zr)(hx:Zr[i]?=some x)
  (hQ:∀h',Io t h' j l (i+1)->Heap.SameBut j s.heap h'->Q x {s with heap:=h'}):wpAny (model prog w) A (Builtin.SmallTypes.nextOf (.ref j)) Q E s:=by
 cases t
 .exact wpAny_nextOf_list_item hj ht hx hQ
 .exact FW hj ht hx hQ
theorem uJ{t:Bool}{j l:Addr}{i:Nat}{Zr:Array Value}{Q:Value->Shared->Prop}(hh:A.handled=none)(hj:Io t s.heap j l i)(ht:Sq t s.heap l Zr)(hx:Zr[i]?=none)
  (hE:∀h' e,Heap.ExtBut j s.heap h'->(∃o,h'.get? e=some o/\o.cls=.type "StopIteration")->E (.ref e) {s with heap:=h'}):wpAny (model prog w) A (Builtin.SmallTypes.nextOf (.ref j)) Q E s:=by
 cases t
 .exact wpAny_nextOf_list_end hh hj ht hx hE
 .exact uF hh hj ht hx hE
theorem mz{t:Bool}{l:Addr}{Zr:Array Value}{Q:Value->Shared->Prop}(hl:Sq t s.heap l Zr)
  (hQ:Q (.ref s.heap.objs.size) {s with heap:=s.heap.push {cls:=.type (nm t),data:=.fields #[.ref l,.int 0 0]}}):wpAny (model prog w) A (pyIter (.ref l)) Q E s:=by
 cases t
 .exact wpAny_pyIter_list hl hQ
 .exact wpAny_pyIter_tuple hl hQ
end
theorem draws{t:Bool}{prog:Program}{w:World}{A:Around}(hh:A.handled=none)(it a:Addr)(c8:a≠it)(Zr:Array Value):
  Draws prog w A it [it,a] Zr.size (fun i v=>Zr[i]?=some v) (fun i h=>Io t h it a i/\Sq t h a Zr) where
 live:=fun _ _ st=>let⟨o,ho,_⟩:=st.1;⟨o,ho⟩
 frame:=fun _ _ _ st hk=>⟨st.1.at fun o e=>hk it Zy o e,st.2.at fun o e=>hk a Zy o e⟩
 item:=fun i s Q E hi st hQ=>nx st.1 st.2 (x:=Zr[i]) (by simp[hi]) fun h' h1 h2=>hQ _ h' s.toks (by simp[hi]) ⟨h1,st.2.extBut h2.extBut c8⟩ h2
 done:=fun s Q E st hE=>uJ hh st.1 st.2 Zy hE
abbrev eA(t0:Bool)(h:Heap)(t:Addr):Heap:=h.push {cls:=.type (nm t0),data:=.fields #[.ref t,.int 0 0]}
theorem mD{t0:Bool}(t:Addr)(Zr:Array Value):
  Meets (Builtin.«enumerate.__new__» ⟨[.type "enumerate",.ref t],[]⟩) (fun _ R s=>Sq t0 s.heap t Zr /\
   R (.ok (.ret (.ref (eA t0 s.heap t).objs.size))) {s with heap:=(eA t0 s.heap t).push {cls:=.type "enumerate",data:=.fields #[.none,.bool false,.ref s.heap.objs.size,rawInt 0,.none,.none]}}):=
 .of_wp fun prog w A R s h=>by
  obtain⟨hp,g,d,tk,os⟩:=s;obtain⟨ht,h⟩:=h;have B0:=sub_enumerate;have hT:Sq t0 (Shared.heap ⟨hp,g,d,tk,os⟩) t Zr:=ht
  wp_walk
  refine wpAny_stack_any fun st=>zAy ?_;split
  .rename_i c _ _ _ _ _
   cases(c==Value.type "enumerate")
   .wp_walk using mz hT
    exact⟨_,rfl,h⟩
   .wp_walk using mz hT
    exact⟨_,rfl,h⟩
  .wp_walk using mz hT
   exact⟨_,rfl,h⟩
theorem nQ{t0:Bool}{prog:Program}{w:World}{A:Around}{E:Value->Shared->Prop}{s:Shared}{t:Addr}{Zr:Array Value}{Q:Value->Shared->Prop}(ht:Sq t0 s.heap t Zr)
  (h:∀h',IsEnum h' (s.heap.objs.size+1) s.heap.objs.size 0 .none->Io t0 h' s.heap.objs.size t 0->(∀c o,s.heap.get? c=some o->h'.get? c=some o)->Q (.ref (s.heap.objs.size+1)) {s with heap:=h'}):
  wpAny (model prog w) A (call (.type "enumerate") [.ref t]) Q E s:=by
 refine callType_new F.called_enumerate Zx (F.typeCall_enumerate_1 _) (F.newCall_enumerate_1 _) (fun obj=>F.args_object_init_2 obj _) F.entry_enumerate_new (mD t Zr) ⟨ht,?_⟩;have e1:(eA t0 s.heap t).objs.size=s.heap.objs.size+1:=Heap.size_push ..;have g2:=zB3 (eA t0 s.heap t) (o:={cls:=.type "enumerate",data:=.fields #[.none,.bool false,.ref s.heap.objs.size,rawInt 0,.none,.none]}) rfl;have g1:=zAz {cls:=.type "enumerate",data:=.fields #[.none,.bool false,.ref s.heap.objs.size,rawInt 0,.none,.none]} (zB3 s.heap (o:={cls:=.type (nm t0),data:=.fields #[.ref t,.int 0 0]}) rfl);show _/\_;rw[e1]at g2⊢;exact⟨⟨_,g2,rfl⟩,h _ g2 ⟨_,g1,rfl,rfl⟩ fun c o x=>zAz _ (zAz _ x)⟩
def Ite(t0:Bool)(K:Frag)(a:Addr):It:=
 ⟨fun i H=>∃xs x,SQ t0 K H a xs/\xs[i]?=some x,
  fun i H v H'=>∃T,H T=none/\v=.ref T/\∀xs,SQ t0 K H a xs->∃x,xs[i]?=some x/\H'=upd H T (.tup [.int i,x]),
  fun i H=>∃xs,SQ t0 K H a xs/\xs.length<=i⟩
def tne(t0:Bool)(e it a:Addr)(i:Nat)(h:Heap):Prop:=(∃old,IsEnum h e it i old)/\Io t0 h it a i
theorem xK{t0:Bool}{P:Program}{w:World}{K:Frag}{es:List Expr}{k:Nat}{pos:Pos}{e it a:Addr}(B5:e≠it)(Lw:e≠a)(Lx:a≠it):
  Turn P w K (.Tuple es k pos) (Ite t0 K a) [e,it] e (tne t0 e it a) where
 mem:=by simp
 obj:=fun i h st c hc=>by
  obtain⟨⟨old,s1⟩,⟨o4,s4,c4,d4⟩⟩:=st;simp only[List.mem_cons,List.not_mem_nil,or_false]at hc;rcases hc with z|z<;>subst z
  .exact⟨_,s1,fun v q=>by cases q⟩
  .exact⟨_,s4,fun v q=>by rw[d4]at q;cases q⟩
 keep:=fun i h h' st kp=>by
  obtain⟨⟨old,s1⟩,s4⟩:=st;exact⟨⟨old,kp e Zy _ s1⟩,s4.at fun o z=>kp it Zy o z⟩
 item:=by
  intro X hP hw hK hc i Zt s σ H E I hf st hg;subst hP hw hK;obtain⟨⟨old,s1⟩,s4⟩:=st;obtain⟨xs,x,kP,hx⟩:=hg;obtain⟨Zr,rv,p,_⟩:=jW I kP;obtain⟨ux,zS,rx⟩:=rv.get hx
  have aw:i<Zr.toArray.size:=by
   have:=(zAa.mp zS).1;simpa using this
  have D:=draws (t:=t0) (prog:=X.prog) (w:=X.w) (A:=X.A.in1) (I.ok.hd hc) it a Lx Zr.toArray;refine wpAny_pyNext_enum_itemD D s1 ⟨s4,p⟩ aw B5 (by simp[B5,Lw]) fun u h1 tk hu g1 g3 g5 g6 kp=>?_
  have eu:u=ux:=by
   have hu:Zr.toArray[i]?=some u:=hu;rw[List.getElem?_toArray,zS]at hu;exact(zAl hu).symm
  subst eu;refine⟨_,rfl,?_⟩;refine wpAny_letOwnedTupleGo_enum g1 fun h2 e1 sb=>?_
  have live:∀c,c∈[e,it]->∃o,s.heap.get? c=some o:=fun c ay=>by
   simp only[List.mem_cons,List.not_mem_nil,or_false]at ay;rcases ay with q|q<;>subst q
   .exact⟨_,s1⟩
   .exact let⟨o,h,_⟩:=s4;⟨o,h⟩
  have ne:∀c,c∈[e,it]->c≠s.heap.objs.size:=fun c ay z=>by
   obtain⟨o,ho⟩:=live c ay;exact absurd (zB0 ho) (by rw[z];exact Nat.lt_irrefl _)
  have hT:H s.heap.objs.size=none:=I.hok.fresh (zA3 _)
  have kept:∀c o,c∉[e,it]->s.heap.get? c=some o->h2.get? c=some o:=fun c o ay z=>
   sb.extBut _ _ (fun q=>ay (by simp[q])) (kp c o (fun q=>ay (by simp[q])) (fun q=>ay (by simp[q])) z)
  have trk:∀c o,H c=some o->c∉[e,it]:=fun c o z ay=>by
   have:=(hf c ay).1;rw[z]at this;cases this
  have oT:h2.get? s.heap.objs.size=some {cls:=.type "tuple",data:=.seq #[.int i tk,u]}:=sb.extBut _ _ (Ne.symm (ne e Zy)) g5
  have pd:HOk X.prog X.w (upd H s.heap.objs.size (.tup [.int i,x])) h2:=fun c o z=>by
   by_cases hb:c=s.heap.objs.size
   .subst hb;rw[aj]at z;cases z;exact⟨by show 2<=sizeLine;decide,[.int i tk,u],.cons ⟨tk,rfl⟩ (.cons rx .nil),_,oT,rfl,_,rfl⟩
   .rw[aA hb]at z
    refine(I.hok c o z).stay (fun d v hd q=>kept d v ?_ q) (fun d q=>by rw[aA (aG q hT)];exact q) fun d l q=>by rw[aA (aG q hT)];exact q
    rcases hd with e'|e'
    .rw[e'];exact trk c o z
    .exact trk d _ e'
  have I2:Inv X Zt σ (upd H s.heap.objs.size (.tup [.int i,x])) {s with heap:=h2,toks:=tk+1}:=by
   refine I.step (g':=s.gens) (d':=s.drawn) (t':=tk+1) (ch:=[e,it]) (fun c ay=>?_) (fun c o _ _ hn z _=>kept c o hn z) (fun c o _ _ hn z _=>⟨o.slots,kept c o hn z⟩)
    (fun c o _ z n=>by rw[aA (zB7 (zB0 z))];exact n) (fun c o hn z=>⟨o,kept c o hn z⟩) (fun c l z=>by rw[aA (aG z hT)];exact z) (fun c o l z=>by rw[aA (aG z hT)];exact z)
    (fun c l z=>⟨#[],by rw[aA (aG z hT),z];simp⟩) (fun m hm=>?_) pd I.bare
   .obtain⟨f0,f1,f2,f3,f4,f5⟩:=hf c ay;exact⟨f3,f1,f4,f5⟩
   .obtain⟨o,eC,ep,ho,r⟩:=hm;refine⟨o,eC,ep,kept _ o (fun ay=>?_) ho,r⟩;exact(hf _ ay).2.1 rfl
  refine⟨.ref s.heap.objs.size,_,I2,rfl,⟨s.heap.objs.size,hT,rfl,fun Ly rh=>⟨x,?_,rfl⟩⟩,⟨⟨u,?_⟩,?_⟩,fun c ay=>?_⟩
  .rw[uI I rh kP];exact hx
  .have:=e1;rw[show(((i+1:Nat):Int))=(i:Int)+1 by lia];exact this
  .exact g3.1.extBut sb.extBut B5.symm
  .rw[aA (ne c ay)];exact(hf c ay).1
 done:=by
  intro X hP hw hK hc i Zt s σ H E I hf st hg;subst hP hw hK;obtain⟨⟨old,s1⟩,s4⟩:=st;obtain⟨xs,kP,hlen⟩:=hg;obtain⟨Zr,rv,p,_⟩:=jW I kP;have hl:=rv.length
  have hT:s.TypeIs (.ref e) "enumerate":=⟨_,s1,rfl⟩
  have fin:∀h',Heap.ExtBut it s.heap h'->Inv X Zt σ H {s with heap:=h'}:=fun h' kp=>by
   obtain⟨f0,f1,f2,f3,f4,f5⟩:=hf it Zy;exact I.turned (t':=s.toks) (fun b o hb z=>kp b o hb z) f0 f1 f3 f4 f5
  unfold pyNext;refine wpAny_bind (wpAny_attempt (wpAny_callSpecial?_slot (name:=Str.ofString "__next__") hT F.slot_enumerate_next (wpAny_call_entry F.slot_enumerate_next hT F.entry_enumerate_next ?_ (F.args_enumerate_next_1 _))));show wpAny _ _ (field (.ref e) 2>>=_) _ _ _;refine wpAny_bind (wpAny_field s1 rfl (x:=.ref it) rfl ?_);refine wpAny_bind (uJ (I.ok.hd hc) s4 p (by simp;lia) fun h' x zt hG=>?_);obtain⟨o,ho,Lz⟩:=hG;refine wpAny_bind (wpAny_isInstance (T:="StopIteration") (b:=true) ⟨o,ho,Lz⟩ isSubtype_stop (wpAny_pure ⟨rfl,fin h' zt⟩))
 self:=fun _ _ _ _ _ st h=>wpAny_pyIter_enum st.1.choose_spec h
section
variable{X:Cx}
def HQ(t0:Bool)(K:Frag)(t:TA):TI:=fun σ H R=>t σ H fun vs H1=>∃a xs,vs=[.ref a]/\SQ t0 K H1 a xs/\R (Ite t0 K a) H1
theorem pi_enum(t0:Bool){es:List Expr}{k:Nat}{tp:Pos}{a:Expr}{ta:TA}{p pos:Pos}(hg:Gl X "enumerate")(hm:X.mg "enumerate"=none)(ha:PA X [a] ta)(hs:starEach [a] X.env=[(false,eval a X.env)]:=by rfl):
  PI X (.Tuple es k tp) (.Call (.Name "enumerate" p) [a] [] pos) (HQ t0 X.K ta):=by
 intro Zt s σ H R I h;refine Call_ (iM I hg hm boot_enumerate (PyProof.Rows.callWith_type1 (thn (ha pos Zt s σ H _ I h) fun us s1 ⟨vs,H1,I1,r1,q1⟩=>?_) hs rfl));obtain⟨x,xs,e,hx,q⟩:=q1;subst e;obtain⟨u,rfl,ru⟩:=vals1 r1;cases ru;obtain⟨Zr,_,p1,_⟩:=jW I1 hx;refine nQ p1 fun h' z1 z4 kp=>?_;refine wpAny_pyIter_enum z1 ?_;have lx:x<s1.heap.objs.size:=by obtain⟨_,e,_⟩:=p1;exact zB0 e
 refine⟨_,_,_,_,H1,rfl,I1.kept (t':=s1.toks) kp,xK (e:=s1.heap.objs.size+1) (it:=s1.heap.objs.size) (a:=x) (Nat.succ_ne_self _) (Nat.ne_of_gt (Nat.lt_succ_of_lt lx)) (zB7 lx),⟨⟨_,z1⟩,z4⟩,fun c hc=>?_,q⟩
 have hle:s1.heap.objs.size<=c:=by
  simp only[List.mem_cons,List.not_mem_nil,or_false]at hc;rcases hc with q|q<;>subst q
  .exact Nat.le_add_right _ 1
  .exact zA3 _
 exact I1.fpOk hle (I1.hok.fresh hle)
end
theorem for_enum(t0:Bool){K:Frag}{a:Addr}{xs:List V}{g:TG}{tb:TS}{D:Ends}{σ:St}{H:Hp}(Pv:Nat->St->Hp->Prop)(h0:Pv 0 σ H)(hl:∀i σ H,i<=xs.length->Pv i σ H->SQ t0 K H a xs)
  (hs:∀i x σ H T,xs[i]?=some x->Pv i σ H->H T=none->g (.ref T) σ (upd H T (.tup [.int i,x])) fun aE H2=>tb {D with nx:=Pv (i+1),ct:=Pv (i+1),bk:=D.nx} aE H2) (hd:∀σ H,Pv xs.length σ H->D.nx σ H):
  ∃W:Nat->Nat->St->Hp->Prop,(∃m,W 0 m σ H)/\∀i m σ H,W i m σ H->
   ((Ite t0 K a).stop i H/\D.nx σ H)\/((Ite t0 K a).go i H/\∃N:St->Hp->Prop,(∀ai H',N ai H'->∃m',m'<m/\W (i+1) m' ai H')/\∀x H',(Ite t0 K a).yld i H x H'->g x σ H' fun aE H2=>tb {D with nx:=N,ct:=N,bk:=D.nx} aE H2):=by
 refine⟨fun i m σ H=>m=xs.length-i/\i<=xs.length/\Pv i σ H,⟨xs.length,by simp,Nat.zero_le _,h0⟩,?_⟩;rintro i m σ H ⟨rfl,hi,p⟩;have q:=hl i σ H hi p;by_cases aw:i<xs.length
 .refine .inr ⟨⟨xs,xs[i],q,by simp[aw]⟩,Pv (i+1),fun ai H' p'=>⟨xs.length-(i+1),Zz,rfl,aw,p'⟩,fun x H' y=>?_⟩;obtain⟨T,nT,rfl,y⟩:=y;obtain⟨x,ex,rfl⟩:=y xs q;exact hs i x σ H T ex p nT
 .have e:i=xs.length:=Zz
  subst e;exact .inl ⟨⟨xs,q,zA3 _⟩,hd σ H p⟩
end L2.ZT
namespace L2
open PySem PySem.Spec PyProof.Rows
section
variable{X:Cx}
theorem nR(hc:X.calm=true):dU X (.builtin "min") (fun xs H Q=>∃(p:Addr) (ns:List Int),xs=[.ref p]/\SqL X.K H p (ns.map V.int)/\ns≠[]/\∀M,M∈ns->(∀a∈ns,M<=a)->Q (.int M) H):=by
 intro Zt s σ H xs us Q I r h;obtain⟨p,ns,rfl,hq,c8,q⟩:=h;obtain⟨u,rfl,ru⟩:=vals1 r;cases ru;obtain⟨Zr,rv,pl,hz⟩:=I.list hq;have hi:IntsAre Zr ns:=intsAre_of rv;obtain⟨zs,ez⟩:=(hi.allInts:AllInts Zr.toArray).items;have en:numsOf Zr=ns:=hi.numsOf;have hl:s.heap.IsList p (intItems zs):=ez▸pl.isList
 have aI:0<zs.size:=by
  have e1:(intItems zs).size=Zr.length:=by rw[<-ez,zA8]
  have e2:=rv.length;rw[zA1]at e2;have e3:0<ns.length:=List.length_pos_iff.mpr c8;simp only[intItems,Array.size_map]at e1;lia
 have hn:numsOf (intItems zs).toList=ns:=by rw[<-ez];exact en
 refine min_intList (I.ok.hd hc) hl aI fun v h' tk hv hk=>?_;obtain⟨t,rfl⟩:=intItems_at hv;obtain⟨h1,h2⟩:=argBest_lt (numAt zs) (zs.size-1);rw[nums_intItems]at hn;refine⟨.int _,H,I.kept (t':=tk) hk,⟨t,rfl⟩,q _ ?_ fun a ha=>?_⟩
 .rw[<-hn,numAt_eq];exact getD_mem (by rw[zA1,zA9];lia)
 .rw[<-hn]at ha;obtain⟨j,hj,rfl⟩:=mem_getD ha;rw[zA1,zA9]at hj;rw[<-numAt_eq];exact h2 j Zz
inductive RCatT0I(K:Frag)(x:V)(y:V)(H:Hp)(Q:VK):Prop
 |mk:∀a b ys,(x=.ref a)->(y=.ref b)->(SqT K H a [])->(SqT K H b ys)->(Q (.ref b) H)->RCatT0I K x y H Q
def G5(K:Frag):R2:=fun x y H Q=>RCatT0I K x y H Q
open Builtin in
theorem yW(l b:Addr)(Zr:Array Value)(n m:Nat)(dd rg:Option Addr)(sl oz:Array (Option Value)):
  Meets (Builtin.«tuple.__add__» ⟨[.ref l,.ref b],[]⟩) (fun _ R s=>s.heap.get? l=some {cls:=.type "tuple",dict:=dd,data:=.seq #[] n,slots:=sl}/\s.heap.get? b=some {cls:=.type "tuple",dict:=rg,data:=.seq Zr m,slots:=oz}/\R (.ok (.ret (.ref b))) s):=by
 refine .of_wp fun prog w A R s h=>?_;obtain⟨hp,g,d,tk,os⟩:=s;obtain⟨hl,hb,h⟩:=h;have f2:=PySem.AutoSeq1.sub_tuple_tuple
 wp_walk
 exact⟨_,rfl,h⟩
theorem yX:OpR X (binaryOp .Add) (G5 X.K):=by
 intro Zt s σ H x y v u Q I rx ry h;obtain⟨a,b,ys,rfl,rfl,ha,hb,q⟩:=h;cases rx;cases ry;obtain⟨Zr,r1,p1,_⟩:=I.tuple ha;obtain⟨br,r2,p2,_⟩:=I.tuple hb;have e:Zr=[]:=r1.zero;subst e;obtain⟨⟨cls,dd,data,sl⟩,ho,hc,n,hd⟩:=id p1;obtain⟨⟨A6,rg,data2,oz⟩,kG,tw,n2,hd2⟩:=id p2;simp only at hc hd tw hd2;subst hc hd tw hd2;exact concat_meets ⟨_,ho,rfl⟩ ⟨_,kG,rfl⟩ noFill_tuple_add seq_tuple_add PySem.F.slot_tuple_add PySem.F.entry_tuple_add (PySem.F.args_tuple_add_2 _ _) (yW a b br.toArray n n2 dd rg sl oz) ⟨ho,kG,.ref b,H,I,rfl,q⟩
theorem yZ:OpR X (binaryOp .Add) (fun x y H Q=>∃a b xs ys,x=.ref a/\y=.ref b/\SqT X.K H a xs/\SqT X.K H b ys/\ys≠[]/\xs.length+ys.length<=sizeLine/\(xs=[]->Q (.ref b) H)/\(xs≠[]->∀p,H p=none->Q (.ref p) (upd H p (.tup (xs++ys))))):=by
 intro Zt s σ H x y v u Q I rx ry h;obtain⟨a,b,xs,ys,rfl,rfl,ha,hb,hy,hz,q1,q2⟩:=h;by_cases hx:xs=[]
 .subst hx;exact yX Zt s σ H _ _ v u Q I rx ry ⟨a,b,ys,rfl,rfl,ha,hb,q1 rfl⟩
 .exact BW Zt s σ H _ _ v u Q I rx ry ⟨a,b,xs,ys,rfl,rfl,ha,hb,hx,hz,fun z=>absurd z hy,fun _=>q2 hx⟩
end
section
variable{prog:Program}{w:World}{A:Around}{E:Value->Shared->Prop}{s:Shared}
open HT in
theorem je{t sl:Addr}{items:Array Value}{vl vu:Value}{lo hi:Option Int}{Q:Value->Shared->Prop}(ht:IsTup s.heap t items)(hs:s.heap.IsSliceOf sl vl vu .none)(pl:IsPart vl lo)(pu:IsPart vu hi)
  (h1:sIx items.size 0 lo=0) (h2:sIx items.size items.size hi=items.size) (h:Q (.ref t) s):wpAny (model prog w) A (getItem (.ref t) (.ref sl)) Q E s:=by
 obtain⟨os,oB,gI,tF⟩:=id hs
 have A7:s.TypeIs (.ref sl) "slice":=⟨os,oB,gI⟩
 unfold getItem
 try with_reducible refine wpAny_holding ?_
 first|refine zAu (zAy ?_)|skip
 refine zAu (wpAny_sequenceKey ht.typeIs Zx ?_)
 refine zAu (wpAny_callSpecial?_slot (name:=Str.ofString "__getitem__") ht.typeIs PyProof.Rows.slot_tuple_getitem
  (wpAny_call_entry PyProof.Rows.slot_tuple_getitem ht.typeIs entry_tuple_getitem ?_ (args_tuple_getitem _ _)))
 show wpAny _ _ (Builtin.Tuple.tupleItemsOf (.ref t)>>=_) _ _ s;refine wpAny_bind (tupleItemsOf_ ht ?_);refine wpAny_bind (wpAny_typeOf A7 ?_);rw[if_pos Zx];refine wpAny_bind (gh hs pl pu ?_);rw[h1,h2];show wpAny _ _ (if((((0:Nat):Int))==0&&(1:Int)==1&&(items.size-0)==items.size)=true then _ else _) _ _ s;rw[if_pos Zy];unfold Builtin.Tuple.tupleIsExact;refine wpAny_bind (wpAny_bind (wpAny_typeOf ht.typeIs (wpAny_pure ?_)));rw[if_pos Zx];exact wpAny_bind (wpAny_rule (wpAny_pure ⟨_,rfl,wpAny_pure h⟩))
end
section
variable{X:Cx}
inductive RSlWI(K:Frag)(x:V)(lo:Option Int)(hi:Option Int)(H:Hp)(Q:VK):Prop
 |mk:∀a xs,(x=.ref a)->(SqT K H a xs)->(((HT.sIx xs.length 0 lo=0/\HT.sIx xs.length xs.length hi=xs.length)->Q (.ref a) H))->((¬(HT.sIx xs.length 0 lo=0/\HT.sIx xs.length xs.length hi=xs.length)->∀p,H p=none->Q (.ref p) (upd H p (.tup (nC xs lo hi)))))->RSlWI K x lo hi H Q
def JC(K:Frag):V->Option Int->Option Int->Hp->VK->Prop:=fun x lo hi H Q=>RSlWI K x lo hi H Q
theorem Cr:SlR X (JC X.K):=by
 intro Zt s σ H x v vl vu lo hi sl Q I rx hs pl pu h;obtain⟨a,xs,rfl,hx,q1,q2⟩:=h;by_cases hw:HT.sIx xs.length 0 lo=0/\HT.sIx xs.length xs.length hi=xs.length
 .cases rx;obtain⟨Zr,r,ht,hz⟩:=I.tuple hx;have hlen:Zr.toArray.size=xs.length:=by rw[zA8];exact r.length.symm
  refine⟨"tuple",_,PyProof.Rows.slot_tuple_getitem.lookup,ht.typeIs,?_⟩;exact je ht hs pl pu (by rw[hlen];exact hw.1) (by rw[hlen];exact hw.2) ⟨.ref a,H,I,rfl,q1 hw⟩
 .exact yK Zt s σ H _ v vl vu lo hi sl Q I rx hs pl pu ⟨a,xs,rfl,hx,hw,q2 hw⟩
end
section
variable{prog:Program}{w:World}{A:Around}{E:Value->Shared->Prop}{s:Shared}
end
section
variable{X:Cx}{e:Expr}{te:TE}{pos p2 p3 p4:Pos}{j:Nat}
end
end L2
namespace L2.ZT
open PySem PySem.Spec PyProof.Rows L2
section
variable{prog:Program}{w:World}{A:Around}{E:Value->Shared->Prop}{s:Shared}
theorem sG{t1 t2:Bool}{z TI TO i1 i2 l1 l2:Addr}{k:Nat}{xs ys:Array Value}{x y a b:Value}{Q:Option Value->Shared->Prop}(D:ZipApart z TI TO i1 i2 l1 l2)
  (hz:IsZip s.heap z TI TO .none) (B6:IsPair s.heap TI (.ref i1) (.ref i2)) (HE:IsPair s.heap TO a b)
  (h1:Io t1 s.heap i1 l1 k) (h2:Io t2 s.heap i2 l2 k) (fz:Sq t1 s.heap l1 xs) (ix:Sq t2 s.heap l2 ys) (hx:xs[k]?=some x) (hy:ys[k]?=some y)
  (hQ:∀h',IsZip h' z TI TO (rawInt s.heap.objs.size)->IsPair h' TO x y->Io t1 h' i1 l1 (k+1)->Io t2 h' i2 l2 (k+1)->IsPair h' s.heap.objs.size x y->h'.objs.size=s.heap.objs.size+1->
   (∀c o,c≠z->c≠TO->c≠i1->c≠i2->s.heap.get? c=some o->h'.get? c=some o)->Q (some (.ref s.heap.objs.size)) {s with heap:=h'}):
  wpAny (model prog w) A (pyNext (.ref z)) Q E s:=by
 have hT:s.TypeIs (.ref z) "zip":=⟨_,hz,rfl⟩
 unfold pyNext;refine wpAny_bind (wpAny_attempt (wpAny_callSpecial?_slot (name:=Str.ofString "__next__") hT F.slot_zip_next (wpAny_call_entry F.slot_zip_next hT F.entry_zip_next ?_ (F.args_zip_next_1 _))));show wpAny _ _ (field (.ref z) 2>>=_) _ _ _;refine wpAny_bind (wpAny_field hz rfl (x:=.bool false) rfl ?_);show wpAny _ _ (field (.ref z) 3>>=_) _ _ _;refine wpAny_bind (wpAny_field hz rfl (x:=.ref TI) rfl (wpAny_bind (wpAny_seqItems B6 rfl ?_)));show wpAny _ _ (Builtin.SmallTypes.ownedTupleIsFree (.ref z)>>=_) _ _ _;refine wpAny_bind ?_;unfold Builtin.SmallTypes.ownedTupleIsFree;refine wpAny_bind (wpAny_field hz rfl (x:=.none) rfl (wpAny_pure ?_));simp only[if_true];refine wpAny_bind (wpAny_rule (wpAny_bind (wpAny_field hz rfl (x:=.ref TO) rfl (wpAny_bind (wpAny_setField_rec hz Zy fun g1 z1 s1=>?_)))))
 replace z1:IsZip g1 z TI TO .ellipsis:=z1
 refine wpAny_bind ?_;simp only[List.zipIdx_cons,List.zipIdx_nil,List.forIn_cons,List.forIn_nil];refine wpAny_bind (wpAny_bind (wpAny_onRaise ?_));show wpAny _ _ (Builtin.SmallTypes.nextOf (.ref i1)>>=_) _ _ _;refine wpAny_bind (nx (h1.extBut s1.extBut D.i1z) (fz.extBut s1.extBut D.l1z) hx fun g2 q1 s2=>wpAny_pure ?_);have o2:IsPair g2 TO a b:=s2.extBut _ _ D.TOi1 (s1.extBut _ _ D.TOz HE);refine wpAny_bind (wpAny_seqItems o2 rfl (wpAny_bind (wpAny_updateSeq_pair o2 fun g3 o3 s3=>?_)))
 replace o3:IsPair g3 TO x b:=o3
 refine zAu (wpAny_letGo (zAy (zAu (zAu (wpAny_onRaise ?_)))));show wpAny _ _ (Builtin.SmallTypes.nextOf (.ref i2)>>=_) _ _ _;refine zAu (nx (((h2.extBut s1.extBut D.i2z).extBut s2.extBut D.i12.symm).extBut s3.extBut D.TOi2.symm) (((ix.extBut s1.extBut D.l2z).extBut s2.extBut D.l2i1).extBut s3.extBut D.l2TO) hy fun g4 q2 s4=>zAy ?_);have o4:IsPair g4 TO x b:=s4.extBut _ _ D.TOi2 o3;refine zAu (wpAny_seqItems o4 rfl (zAu (wpAny_updateSeq_pair o4 fun g5 o5 s5=>?_)))
 replace o5:IsPair g5 TO x y:=o5
 refine zAu (wpAny_letGo (zAy (zAy (zAu (wpAny_seqItems o5 rfl (zAu (wpAny_newTuple ?_)))))));have hsz:g5.objs.size=s.heap.objs.size:=by rw[s5.1,s4.1,s3.1,s2.1,s1.1]
 have z5:IsZip g5 z TI TO .ellipsis:=s5.extBut _ _ D.TOz.symm (s4.extBut _ _ D.i2z.symm (s3.extBut _ _ D.TOz.symm (s2.extBut _ _ D.i1z.symm z1)));have k5:∀c o,c≠z->c≠TO->c≠i1->c≠i2->s.heap.get? c=some o->g5.get? c=some o:=fun c o c1 c2 c3 c4 e=>s5.extBut _ _ c2 (s4.extBut _ _ c4 (s3.extBut _ _ c2 (s2.extBut _ _ c3 (s1.extBut _ _ c1 e))));have p1:Io t1 g5 i1 l1 (k+1):=((q1.extBut s3.extBut D.TOi1.symm).extBut s4.extBut D.i12).extBut s5.extBut D.TOi1.symm;have p2:Io t2 g5 i2 l2 (k+1):=q2.extBut s5.extBut D.TOi2.symm;have HG:z<g5.objs.size:=Heap.lt_size z5;show wpAny _ _ (Builtin.SmallTypes.ownedTupleHandOut (.ref z) (.ref g5.objs.size)>>=_) _ _ _;refine wpAny_bind ?_;unfold Builtin.SmallTypes.ownedTupleHandOut;have z6:IsZip (g5.push {cls:=.type "tuple",data:=.seq #[x,y]}) z TI TO .ellipsis:=Heap.get?_push_of_some _ z5;refine wpAny_bind (wpAny_setField_rec z6 Zy fun g7 z7 s7=>?_)
 replace z7:IsZip g7 z TI TO (rawInt g5.objs.size):=z7
 refine wpAny_setField_rec z7 Zy fun g8 z8 s8=>?_
 replace z8:IsZip g8 z TI TO (rawInt g5.objs.size):=z8
 have up:∀c o,c≠z->g5.get? c=some o->g8.get? c=some o:=fun c o c1 e=>s8.extBut _ _ c1 (s7.extBut _ _ c1 (zAz _ e));have t8:IsPair g8 g5.objs.size x y:=s8.extBut _ _ (Nat.ne_of_gt HG) (s7.extBut _ _ (Nat.ne_of_gt HG) (zB3 _ rfl));have n8:g8.objs.size=g5.objs.size+1:=by rw[s8.1,s7.1,Heap.size_push]
 rw[hsz]at z8 t8 n8;refine zAy ⟨_,rfl,zAy ?_⟩;show Q (some (.ref g5.objs.size)) _;rw[hsz];exact hQ g8 z8 (up _ _ D.TOz o5) (p1.at fun o e=>up _ o D.i1z e) (p2.at fun o e=>up _ o D.i2z e) t8 n8 fun c o c1 c2 c3 c4 e=>up c o c1 (k5 c o c1 c2 c3 c4 e)
theorem uK{t1:Bool}{z TI TO i1 i2 l1 l2:Addr}{k:Nat}{xs:Array Value}{a b:Value}{Q:Option Value->Shared->Prop}(hh:A.handled=none)(D:ZipApart z TI TO i1 i2 l1 l2)
  (hz:IsZip s.heap z TI TO .none) (B6:IsPair s.heap TI (.ref i1) (.ref i2)) (HE:IsPair s.heap TO a b) (h1:Io t1 s.heap i1 l1 k) (fz:Sq t1 s.heap l1 xs) (hx:xs[k]?=none)
  (hQ:∀h',(∀c o,c≠z->c≠i1->s.heap.get? c=some o->h'.get? c=some o)->Q none {s with heap:=h'}):wpAny (model prog w) A (pyNext (.ref z)) Q E s:=by
 have hT:s.TypeIs (.ref z) "zip":=⟨_,hz,rfl⟩
 unfold pyNext;refine wpAny_bind (wpAny_attempt (wpAny_callSpecial?_slot (name:=Str.ofString "__next__") hT F.slot_zip_next (wpAny_call_entry F.slot_zip_next hT F.entry_zip_next ?_ (F.args_zip_next_1 _))));show wpAny _ _ (field (.ref z) 2>>=_) _ _ _;refine wpAny_bind (wpAny_field hz rfl (x:=.bool false) rfl ?_);show wpAny _ _ (field (.ref z) 3>>=_) _ _ _;refine wpAny_bind (wpAny_field hz rfl (x:=.ref TI) rfl (wpAny_bind (wpAny_seqItems B6 rfl ?_)));show wpAny _ _ (Builtin.SmallTypes.ownedTupleIsFree (.ref z)>>=_) _ _ _;refine wpAny_bind ?_;unfold Builtin.SmallTypes.ownedTupleIsFree;refine wpAny_bind (wpAny_field hz rfl (x:=.none) rfl (wpAny_pure ?_));simp only[if_true];refine wpAny_bind (wpAny_rule (wpAny_bind (wpAny_field hz rfl (x:=.ref TO) rfl (wpAny_bind (wpAny_setField_rec hz Zy fun g1 z1 s1=>?_)))))
 replace z1:IsZip g1 z TI TO .ellipsis:=z1
 refine wpAny_bind ?_;simp only[List.zipIdx_cons,List.zipIdx_nil,List.forIn_cons,List.forIn_nil];refine wpAny_bind (wpAny_bind (wpAny_onRaise ?_));show wpAny _ _ (Builtin.SmallTypes.nextOf (.ref i1)>>=_) _ _ _;refine wpAny_bind (uJ hh (h1.extBut s1.extBut D.i1z) (fz.extBut s1.extBut D.l1z) hx fun g2 e s2 he=>?_);obtain⟨oe,B7,HI⟩:=he;have z2:IsZip g2 z TI TO .ellipsis:=s2 _ _ D.i1z.symm z1
 have LA:e≠z:=fun q=>by
  subst q;rw[z2]at B7;cases B7;simp at HI
 refine wpAny_setField_rec z2 Zy fun g3 _ s3=>?_;refine wpAny_bind (wpAny_isInstance (T:="StopIteration") (b:=true) ⟨oe,s3.extBut _ _ LA B7,HI⟩ isSubtype_stop (wpAny_pure (hQ _ fun c o c1 c2 q=>s3.extBut _ _ c1 (s2 _ _ c2 (s1.extBut _ _ c1 q)))))
end
abbrev zA(t1:Bool)(h:Heap)(t:Addr):Heap:=h.push {cls:=.type (nm t1),data:=.fields #[.ref t,.int 0 0]}
abbrev zB(t1 t2:Bool)(h:Heap)(t l:Addr):Heap:=(zA t1 h t).push {cls:=.type (nm t2),data:=.fields #[.ref l,.int 0 0]}
abbrev zC(t1 t2:Bool)(h:Heap)(t l:Addr):Heap:=(zB t1 t2 h t l).push {cls:=.type "tuple",data:=.seq #[.ref h.objs.size,.ref (zA t1 h t).objs.size]}
abbrev zD(t1 t2:Bool)(h:Heap)(t l:Addr):Heap:=(zC t1 t2 h t l).push {cls:=.type "tuple",data:=.seq #[.none,.none]}
abbrev zE(t1 t2:Bool)(h:Heap)(t l:Addr):Heap:=(zD t1 t2 h t l).push {cls:=.type "zip",data:=.fields #[.none,.bool false,.bool false,.ref (zB t1 t2 h t l).objs.size,.ref (zC t1 t2 h t l).objs.size]}
theorem qD{t1 t2:Bool}(t l:Addr)(xs ys:Array Value):
  Meets (Builtin.«zip.__new__» ⟨[.type "zip",.ref t,.ref l],[]⟩) (fun _ R s=>Sq t1 s.heap t xs/\Sq t2 s.heap l ys/\R (.ok (.ret (.ref (zD t1 t2 s.heap t l).objs.size))) {s with heap:=zE t1 t2 s.heap t l}):=
 .of_wp fun prog w A R s h=>by
  obtain⟨hp,g,d,tk,os⟩:=s;obtain⟨ht,hl,h⟩:=h;have B0:=sub_zip;have hT:Sq t1 (Shared.heap ⟨hp,g,d,tk,os⟩) t xs:=ht;have hL:Sq t2 (Shared.heap ⟨hp.push {cls:=.type (nm t1),data:=.fields #[.ref t,.int 0 0]},g,d,tk,os⟩) l ys:=hl.at fun o e=>zAz _ e
  wp_walk using mz hT,mz hL
  exact⟨_,rfl,h⟩
theorem sI{t1 t2:Bool}{prog:Program}{w:World}{A:Around}{E:Value->Shared->Prop}{s:Shared}{t l:Addr}{xs ys:Array Value}{Q:Value->Shared->Prop}(ht:Sq t1 s.heap t xs)(hl:Sq t2 s.heap l ys)
  (h:∀h',IsZip h' (s.heap.objs.size+4) (s.heap.objs.size+2) (s.heap.objs.size+3) .none->IsPair h' (s.heap.objs.size+2) (.ref s.heap.objs.size) (.ref (s.heap.objs.size+1))->IsPair h' (s.heap.objs.size+3) .none .none->
   Io t1 h' s.heap.objs.size t 0->Io t2 h' (s.heap.objs.size+1) l 0->(∀c o,s.heap.get? c=some o->h'.get? c=some o)->Q (.ref (s.heap.objs.size+4)) {s with heap:=h'}):
  wpAny (model prog w) A (call (.type "zip") [.ref t,.ref l]) Q E s:=by
 refine callType_new F.called_zip Zx (F.typeCall_zip_2 _ _) (F.newCall_zip_2 _ _) (fun obj=>F.args_object_init_3 obj _ _) F.entry_zip_new (qD t l xs ys) ⟨ht,hl,?_⟩;have e1:(zA t1 s.heap t).objs.size=s.heap.objs.size+1:=Heap.size_push ..;have e2:(zB t1 t2 s.heap t l).objs.size=s.heap.objs.size+2:=by rw[Heap.size_push,e1]
 have e3:(zC t1 t2 s.heap t l).objs.size=s.heap.objs.size+3:=by rw[Heap.size_push,e2]
 have e4:(zD t1 t2 s.heap t l).objs.size=s.heap.objs.size+4:=by rw[Heap.size_push,e3]
 have HK:∀{c o},(zD t1 t2 s.heap t l).get? c=some o->(zE t1 t2 s.heap t l).get? c=some o:=fun e=>zAz _ e;have HL:∀{c o},(zC t1 t2 s.heap t l).get? c=some o->(zE t1 t2 s.heap t l).get? c=some o:=fun e=>HK (zAz _ e);have kg:∀{c o},(zB t1 t2 s.heap t l).get? c=some o->(zE t1 t2 s.heap t l).get? c=some o:=fun e=>HL (zAz _ e);have up1:∀{c o},(zA t1 s.heap t).get? c=some o->(zE t1 t2 s.heap t l).get? c=some o:=fun e=>kg (zAz _ e);have g5:(zE t1 t2 s.heap t l).get? (zD t1 t2 s.heap t l).objs.size=some _:=zB3 _ rfl;have g4:(zE t1 t2 s.heap t l).get? (zC t1 t2 s.heap t l).objs.size=some _:=HK (zB3 _ rfl);have g3:(zE t1 t2 s.heap t l).get? (zB t1 t2 s.heap t l).objs.size=some _:=HL (zB3 _ rfl);have g2:(zE t1 t2 s.heap t l).get? (zA t1 s.heap t).objs.size=some _:=kg (zB3 _ rfl);have g1:(zE t1 t2 s.heap t l).get? s.heap.objs.size=some _:=up1 (zB3 _ rfl);show _/\_;rw[e4,e2,e3]at g5;rw[e2,e1]at g3;rw[e3]at g4;rw[e1]at g2;rw[e4];exact⟨⟨_,g5,rfl⟩,h _ g5 g3 g4 ⟨_,g1,rfl,rfl⟩ ⟨_,g2,rfl,rfl⟩ fun c o x=>up1 (zAz _ x)⟩
def Itz(t1 t2:Bool)(K:Frag)(a b:Addr):It:=
 ⟨fun i H=>∃xs ys x y,SQ t1 K H a xs/\SQ t2 K H b ys/\xs[i]?=some x/\ys[i]?=some y,
  fun i H v H'=>∃T,H T=none/\v=.ref T/\∀xs ys,SQ t1 K H a xs->SQ t2 K H b ys->∃x y,xs[i]?=some x/\ys[i]?=some y/\H'=upd H T (.tup [x,y]),
  fun i H=>∃xs,SQ t1 K H a xs/\xs.length<=i⟩
def tnz(t1 t2:Bool)(z TI TO i1 i2 a b:Addr)(i:Nat)(h:Heap):Prop:=IsZip h z TI TO .none/\IsPair h TI (.ref i1) (.ref i2)/\(∃u v,IsPair h TO u v)/\Io t1 h i1 a i/\Io t2 h i2 b i
theorem zc{t1 t2:Bool}{P:Program}{w:World}{K:Frag}{es:List Expr}{k:Nat}{pos:Pos}{z TI TO i1 i2 a b:Addr}(D:ZipApart z TI TO i1 i2 a b):
  Turn P w K (.Tuple es k pos) (Itz t1 t2 K a b) [z,TI,TO,i1,i2] z (tnz t1 t2 z TI TO i1 i2 a b) where
 mem:=by simp
 obj:=fun i h st c hc=>by
  obtain⟨s1,s2,⟨u,v,s3⟩,⟨o4,s4,c4,d4⟩,⟨o5,s5,c5,d5⟩⟩:=st;simp only[List.mem_cons,List.not_mem_nil,or_false]at hc;rcases hc with e|e|e|e|e<;>subst e
  .exact⟨_,s1,fun v q=>by cases q⟩
  .exact⟨_,s2,fun v q=>by cases q⟩
  .exact⟨_,s3,fun v q=>by cases q⟩
  .exact⟨_,s4,fun v q=>by rw[d4]at q;cases q⟩
  .exact⟨_,s5,fun v q=>by rw[d5]at q;cases q⟩
 keep:=fun i h h' st kp=>by
  obtain⟨s1,s2,⟨u,v,s3⟩,s4,s5⟩:=st;exact⟨kp z Zy _ s1,kp TI Zy _ s2,⟨u,v,kp TO Zy _ s3⟩,s4.at fun o e=>kp i1 Zy o e,s5.at fun o e=>kp i2 Zy o e⟩
 item:=by
  intro X hP hw hK hc i Zt s σ H E I hf st hg;subst hP hw hK;obtain⟨s1,s2,⟨u,v,s3⟩,s4,s5⟩:=st;obtain⟨xs,ys,x,y,kP,HM,hx,hy⟩:=hg;obtain⟨Zr,rv,p,_⟩:=jW I kP;obtain⟨LB,eJ,q,_⟩:=jW I HM;obtain⟨ux,zS,rx⟩:=rv.get hx;obtain⟨uy,LC,ry⟩:=eJ.get hy;refine sG D s1 s2 s3 s4 s5 p q (x:=ux) (y:=uy) (by simpa using zS) (by simpa using LC) fun h1 g1 g2 g3 g4 g5 g6 kp=>?_;refine⟨_,rfl,?_⟩;refine wpAny_letOwnedTupleGo_zip g1 fun h2 e1 sb=>?_
  have ne:∀c,c∈[z,TI,TO,i1,i2]->c≠s.heap.objs.size:=fun c ay e=>by
   obtain⟨f0,f1,f2,f3,f4,f5⟩:=hf c ay
   have:∃o,s.heap.get? c=some o:=by
    simp only[List.mem_cons,List.not_mem_nil,or_false]at ay;rcases ay with q|q|q|q|q<;>subst q
    .exact⟨_,s1⟩
    .exact⟨_,s2⟩
    .exact⟨_,s3⟩
    .exact let⟨o,h,_⟩:=s4;⟨o,h⟩
    .exact let⟨o,h,_⟩:=s5;⟨o,h⟩
   obtain⟨o,ho⟩:=this;exact absurd (zB0 ho) (by rw[e];exact Nat.lt_irrefl _)
  have hT:H s.heap.objs.size=none:=I.hok.fresh (zA3 _)
  have kept:∀c o,c∉[z,TO,i1,i2]->s.heap.get? c=some o->h2.get? c=some o:=fun c o ay e=>
   sb.extBut _ _ (fun q=>ay (by simp[q])) (kp c o (fun q=>ay (by simp[q])) (fun q=>ay (by simp[q])) (fun q=>ay (by simp[q])) (fun q=>ay (by simp[q])) e)
  have B9:∀c,c∈[z,TO,i1,i2]->c∈[z,TI,TO,i1,i2]:=fun c ay=>by
   simp only[List.mem_cons,List.not_mem_nil,or_false]at ay⊢;rcases ay with q|q|q|q<;>simp[q]
  have trk:∀c o,H c=some o->c∉[z,TO,i1,i2]:=fun c o e ay=>by
   have:=(hf c (B9 c ay)).1;rw[e]at this;cases this
  have oT:h2.get? s.heap.objs.size=some {cls:=.type "tuple",data:=.seq #[ux,uy]}:=sb.extBut _ _ (Ne.symm (ne z Zy)) g5
  have pd:HOk X.prog X.w (upd H s.heap.objs.size (.tup [x,y])) h2:=fun c o e=>by
   by_cases hb:c=s.heap.objs.size
   .subst hb;rw[aj]at e;cases e;exact⟨by show 2<=sizeLine;decide,[ux,uy],.cons rx (.cons ry .nil),_,oT,rfl,_,rfl⟩
   .rw[aA hb]at e
    refine(I.hok c o e).stay (fun d v hd q=>kept d v ?_ q) (fun d q=>by rw[aA (aG q hT)];exact q) fun d l q=>by rw[aA (aG q hT)];exact q
    rcases hd with e'|e'
    .rw[e'];exact trk c o e
    .exact trk d _ e'
  have I2:Inv X Zt σ (upd H s.heap.objs.size (.tup [x,y])) {s with heap:=h2}:=by
   refine I.step (g':=s.gens) (d':=s.drawn) (t':=s.toks) (ch:=[z,TO,i1,i2]) (fun c ay=>?_) (fun c o _ _ hn e _=>kept c o hn e) (fun c o _ _ hn e _=>⟨o.slots,kept c o hn e⟩)
    (fun c o _ e n=>by rw[aA (zB7 (zB0 e))];exact n) (fun c o hn e=>⟨o,kept c o hn e⟩) (fun c l e=>by rw[aA (aG e hT)];exact e) (fun c o l e=>by rw[aA (aG e hT)];exact e)
    (fun c l e=>⟨#[],by rw[aA (aG e hT),e];simp⟩) (fun m hm=>?_) pd I.bare
   .obtain⟨f0,f1,f2,f3,f4,f5⟩:=hf c (B9 c ay);exact⟨f3,f1,f4,f5⟩
   .obtain⟨o,eC,ep,ho,r⟩:=hm;refine⟨o,eC,ep,kept _ o (fun ay=>?_) ho,r⟩;exact(hf _ (B9 _ ay)).2.1 rfl
  refine⟨.ref s.heap.objs.size,_,I2,rfl,⟨s.heap.objs.size,hT,rfl,fun Ly mw rh LD=>⟨x,y,?_,?_,rfl⟩⟩,⟨e1,?_,?_,?_,?_⟩,fun c ay=>?_⟩
  .rw[uI I rh kP];exact hx
  .rw[uI I LD HM];exact hy
  .exact sb.extBut _ _ D.TIz (kp _ _ D.TIz D.TITO D.TIi1 D.TIi2 s2)
  .exact⟨_,_,sb.extBut _ _ D.TOz g2⟩
  .exact g3.extBut sb.extBut D.i1z
  .exact g4.extBut sb.extBut D.i2z
  .rw[aA (ne c ay)];exact(hf c ay).1
 done:=by
  intro X hP hw hK hc i Zt s σ H E I hf st hg;subst hP hw hK;obtain⟨s1,s2,⟨u,v,s3⟩,s4,s5⟩:=st;obtain⟨xs,kP,hlen⟩:=hg;obtain⟨Zr,rv,p,_⟩:=jW I kP;have hl:=rv.length
  refine uK (I.ok.hd hc) D s1 s2 s3 s4 p (by simp;lia) fun h' kp=>⟨rfl,?_⟩
  refine I.step (h':=h') (H':=H) (g':=s.gens) (d':=s.drawn) (t':=s.toks) (ch:=[z,i1]) (fun c ay=>?_) (fun c o _ _ hn e _=>kp c o (fun q=>hn (by simp[q])) (fun q=>hn (by simp[q])) e)
   (fun c o _ _ hn e _=>⟨o.slots,kp c o (fun q=>hn (by simp[q])) (fun q=>hn (by simp[q])) e⟩) (fun c o _ e n=>n) (fun c o hn e=>⟨o,kp c o (fun q=>hn (by simp[q])) (fun q=>hn (by simp[q])) e⟩)
   (fun _ _ e=>e) (fun _ _ _ e=>e) (fun c l e=>⟨#[],by rw[e];simp⟩) (fun m hm=>?_) (fun c o e=>?_) I.bare
  .have:c∈[z,TI,TO,i1,i2]:=by
    simp only[List.mem_cons,List.not_mem_nil,or_false]at ay⊢;rcases ay with q|q<;>simp[q]
   obtain⟨f0,f1,f2,f3,f4,f5⟩:=hf c this;exact⟨f3,f1,f4,f5⟩
  .obtain⟨o,eC,ep,ho,r⟩:=hm;exact⟨o,eC,ep,kp _ o (Ne.symm (hf z Zy).2.1) (Ne.symm (hf i1 Zy).2.1) ho,r⟩
  .have nn:∀d v c',c'∈[z,TI,TO,i1,i2]->H d=some v->d≠c':=fun d v c' ay q e'=>by
    have:=(hf c' ay).1;rw[<-e',q]at this;cases this
   have nz:∀d v,H d=some v->d≠z/\d≠i1:=fun d v q=>⟨nn d v z Zy q,nn d v i1 Zy q⟩
   refine(I.hok c o e).stay (fun d v hd q=>?_) (fun _ q=>q) fun _ _ q=>q;rcases hd with e'|e'
   .rw[e']at q⊢;exact kp c v (nz c o e).1 (nz c o e).2 q
   .exact kp d v (nz d _ e').1 (nz d _ e').2 q
 self:=fun _ _ _ _ _ st h=>wpAny_pyIter_zip st.1 h
section
variable{X:Cx}
def JD(t1 t2:Bool)(K:Frag)(t:TA):TI:=fun σ H R=>t σ H fun vs H1=>∃a b xs ys,vs=[.ref a,.ref b]/\SQ t1 K H1 a xs/\SQ t2 K H1 b ys/\R (Itz t1 t2 K a b) H1
theorem pi_zip(t1 t2:Bool){es:List Expr}{k:Nat}{tp:Pos}{a b:Expr}{ta:TA}{p pos:Pos}(hg:Gl X "zip")(hm:X.mg "zip"=none)(ha:PA X [a,b] ta)(hs:starEach [a,b] X.env=[(false,eval a X.env),(false,eval b X.env)]:=by rfl)(f7:starEach [b] X.env=[(false,eval b X.env)]:=by rfl):
  PI X (.Tuple es k tp) (.Call (.Name "zip" p) [a,b] [] pos) (JD t1 t2 X.K ta):=by
 intro Zt s σ H R I h;refine Call_ (iM I hg hm boot_zip (PyProof.Rows.callWith_type1 (thn (ha pos Zt s σ H _ I h) fun us s1 ⟨vs,H1,I1,r1,q1⟩=>?_) (by rw[hs,f7]) (by rw[f7];rfl)));obtain⟨x,y,xs,ys,e,hx,hy,q⟩:=q1;subst e;obtain⟨u,v,rfl,ru,rv⟩:=vals2 r1;cases ru;cases rv;obtain⟨Zr,_,p1,_⟩:=jW I1 hx;obtain⟨LB,_,p2,_⟩:=jW I1 hy;refine sI p1 p2 fun h' z1 z2 z3 z4 z5 kp=>?_;refine wpAny_pyIter_zip z1 ?_;have lx:x<s1.heap.objs.size:=by obtain⟨_,e,_⟩:=p1;exact zB0 e
 have ly:y<s1.heap.objs.size:=by obtain⟨_,e,_⟩:=p2;exact zB0 e
 refine⟨_,_,_,_,H1,rfl,I1.kept (t':=s1.toks) kp,zc (zipApart_new lx ly),⟨z1,z2,⟨_,_,z3⟩,z4,z5⟩,fun c hc=>?_,q⟩
 have hle:s1.heap.objs.size<=c:=by
  simp only[List.mem_cons,List.not_mem_nil,or_false]at hc;rcases hc with q|q|q|q|q<;>subst q
  .exact Nat.le_add_right _ 4
  .exact Nat.le_add_right _ 2
  .exact Nat.le_add_right _ 3
  .exact zA3 _
  .exact Nat.le_add_right _ 1
 exact I1.fpOk hle (I1.hok.fresh hle)
end
end L2.ZT
namespace L2
open PySem PySem.Spec PyProof.Rows PySem.Calls
section
variable{X:Cx}
theorem cZ(hc:X.calm=true):dU X (.builtin "sum") (fun xs H Q=>∃(p:Addr) (ns:List Int),xs=[.ref p]/\(SqL X.K H p (ns.map V.int)\/SqT X.K H p (ns.map V.int))/\Q (.int ns.sum) H):=by
 intro Zt s σ H xs us Q I r h;obtain⟨p,ns,rfl,hq,q⟩:=h;obtain⟨u,rfl,ru⟩:=vals1 r;cases ru
 have go:∀Zr:List Value,Vals (ns.map V.int) Zr->∃zs:Array (Int×Tok),Zr.toArray=intItems zs/\preSum (numAt zs) zs.size=ns.sum:=fun Zr rv=>by
  have hi:IntsAre Zr ns:=intsAre_of rv;obtain⟨zs,ez⟩:=(hi.allInts:AllInts Zr.toArray).items;refine⟨zs,ez,?_⟩;have en:numsOf Zr.toArray.toList=ns:=hi.numsOf;rw[ez,nums_intItems]at en;rw[preSum_eq,List.take_of_length_le Zy,en]
 rcases hq with hq|hq
 .obtain⟨Zr,rv,pl,hz⟩:=I.list hq;obtain⟨zs,ez,es⟩:=go Zr rv;refine sum_intListG (I.ok.hd hc) (ez▸pl.isList) fun h' tk t' hk=>?_;rw[es];exact⟨.int _,H,I.kept (t':=tk) hk,⟨t',rfl⟩,q⟩
 .obtain⟨Zr,rv,pl,hz⟩:=I.tuple hq;obtain⟨zs,ez,es⟩:=go Zr rv;have ht:s.heap.IsTuple p Zr.toArray:=pl;refine PySem.W.ktm_sumG (I.ok.hd hc) (ez▸ht) fun h' tk t' hk=>?_;rw[es];exact⟨.int _,H,I.kept (t':=tk) hk,⟨t',rfl⟩,q⟩
end
section
open PySem.W
variable{prog:Program}{w:World}{A:Around}{E:Value->Shared->Prop}{s:Shared}
end
section
variable{X:Cx}
end
end L2
namespace Srt
open PySem PyProof.Rows
def fP:Bool->Keyed->Array Keyed->Nat->Nat->Nat->StateT SortSt Sem (Option Nat):=sortPriv% PySem.Builtin.gallop
section
variable{prog:Program}{w:World}{A:Around}{E:Value->Shared->Prop}{s:Shared}{κ:PyProof.Rows.KeyKind}
def HR(prog:Program)(w:World)(A:Around)(E:Value->Shared->Prop)(s:Shared)(κ:PyProof.Rows.KeyKind)(st:SortSt):Prop:=
 ∀(x y:Keyed) (a b:κ.α) (Q:Option Bool->SortSt->Prop),κ.keyOf x.1=some a->κ.keyOf y.1=some b->Q (some (κ.blt a b)) st->wpS (model prog w) A E s (lt' x y) Q st
theorem bh{arr:Array Keyed}{i:Nat}{p:Keyed}{Q:Keyed->SortSt->Prop}{st:SortSt}(e:arr[i]?=some p)(h:Q p st):wpS (model prog w) A E s (elem' arr i) Q st:=by
 rw[elem'_eq,e];exact wpS_pure h
def bey(κ:PyProof.Rows.KeyKind)(left:Bool)(k:κ.α)(x:κ.α):Bool:=if left then κ.blt x k else !(κ.blt k x)
theorem dI{left:Bool}{key:Keyed}{arr:Array Keyed}{b n h:Nat}{Q:Option Nat->SortSt->Prop}{st:SortSt}{kk:κ.α}(hL:HR prog w A E s κ st)(hk:κ.keyOf key.1=some kk)(hn:h<n)
  (fF:∀i,i<n->∃p a,arr[b+i]?=some p/\κ.keyOf p.1=some a/\KK κ arr (b+i)=a) (hm:∀i j,i<=j->j<n->bey κ left kk (KK κ arr (b+j))=true->bey κ left kk (KK κ arr (b+i))=true)
  (q:∀k,k<=n->(∀i,i<k->bey κ left kk (KK κ arr (b+i))=true)->(∀i,k<=i->i<n->bey κ left kk (KK κ arr (b+i))=false)->Q (some k) st):
  wpS (model prog w) A E s (fP left key arr b n h) Q st:=by
 have gL:∀(i:Nat) (R:Option Bool->SortSt->Prop),i<n->R (some (bey κ left kk (KK κ arr (b+i)))) st->wpS (model prog w) A E s (do
   let x <-elem' arr (b+i)
   if left=true then lt' x key else do
    let r <-lt' key x
    pure (Option.map (fun x=>!x) r)) R st:=fun i R hi hR=>by
  obtain⟨p,a,e1,e2,e3⟩:=fF i hi;refine wpS_bind (bh e1 ?_);unfold bey at hR;rw[e3]at hR
  cases left with
  |true=>
   rw[zAx rfl];exact hL _ _ _ _ _ e2 hk hR
  |false=>
   rw[zAw Zx];exact wpS_bind (hL _ _ _ _ _ hk e2 (wpS_pure hR))
 generalize LF:(fun i=>bey κ left kk (KK κ arr (b+i)))=β
 have Cb:∀i,bey κ left kk (KK κ arr (b+i))=β i:=fun i=>by rw[<-LF]
 simp only[Cb]at gL hm q
 delta fP
 refine wpS_bind (gL h _ hn ?_)
 cases e0:β h with
 |true=>
  dsimp only;rw[if_pos rfl]
  refine wpS_bind (wpS_mono (wpS_forRange (I:=fun x c Zq=>Zq=st/\c.1=none/\c.2.1<c.2.2/\c.2.1<n-h/\x<c.2.2/\β (h+c.2.1)=true)
   (Q:=fun c Zq=>Zq=st/\c.1=none/\c.2.1<c.2.2/\c.2.1<n-h/\β (h+c.2.1)=true/\(c.2.2≥n-h\/(c.2.2<n-h/\β (h+c.2.2)=false))) ?_ ?_ ⟨rfl,rfl,(by show 0<1;decide),(by show 0<n-h;lia),(by show 0<1;decide),(show β (h+0)=true from e0)⟩) ?_)
  .rintro x ⟨c0,l,o⟩ Zq _ hx ⟨rfl,rfl,g1,g2,g3,g4⟩;dsimp only at g1 g2 g3 g4⊢;by_cases ho:o≥n-h
   .rw[zAx ho];exact wpS_pure ⟨rfl,rfl,g1,g2,g4,.inl ho⟩
   .rw[zAw ho];refine wpS_bind (gL (h+o) _ Zz ?_)
    cases eb:β (h+o)with
    |true=>
     dsimp only;rw[if_neg Zx];exact wpS_pure ⟨rfl,rfl,by dsimp only;lia,by dsimp only;lia,by dsimp only;lia,eb⟩
    |false=>
     dsimp only;rw[if_pos Zx];exact wpS_pure ⟨rfl,rfl,g1,g2,g4,.inr ⟨by dsimp only;lia,eb⟩⟩
  .rintro⟨c0,l,o⟩ Zq ⟨rfl,rfl,g1,g2,g3,g4⟩;dsimp only at g1 g2 g3 g4⊢;exact⟨rfl,rfl,g1,g2,g4,.inl Zz⟩
  .rintro⟨c0,l,o⟩ Zq ⟨rfl,rfl,g1,g2,g4,g5⟩;dsimp only at g1 g2 g4 g5⊢
   have w4:∀i,h+min o (n-h)<=i->i<n->β i=false:=fun i hi fI=>by
    rcases g5 with g5|⟨g5,g6⟩
    .lia
    .cases e2:β i with
     |false=>rfl
     |true=>
      have:=hm (h+o) i Zz fI e2;rw[g6]at this;cases this
   obtain⟨lo,c9⟩:∃lo,lo=h+l+1:=⟨_,rfl⟩
   obtain⟨hi,hU⟩:∃hi,hi=h+min o (n-h):=⟨_,rfl⟩
   have w1:lo<=hi:=Zz
   have w2:hi<=n:=Zz
   have w3:∀i,i<lo->β i=true:=fun i hi=>hm i (h+l) Zz Zz g4;have w4:∀i,hi<=i->i<n->β i=false:=by rw[hU];exact w4
   rw[<-c9,<-hU]
   refine wpS_bind (wpS_mono (wpS_forRange (I:=fun x c cm=>cm=Zq/\c.1=none/\c.2.1<=c.2.2/\c.2.2<=n/\c.2.2-c.2.1<=n-x/\(∀i,i<c.2.1->β i=true)/\(∀i,c.2.2<=i->i<n->β i=false))
    (Q:=fun c cm=>cm=Zq/\c.1=none/\c.2.2<=n/\(∀i,i<c.2.2->β i=true)/\(∀i,c.2.2<=i->i<n->β i=false)) ?_ ?_ ⟨rfl,rfl,w1,w2,(by show hi-lo<=n-0;lia),w3,w4⟩) ?_)
   .rintro x ⟨c0,l,r⟩ cm _ hx ⟨rfl,rfl,g1,g2,g3,g4,g5⟩;dsimp only at g1 g2 g3 g4 g5⊢;by_cases gN:l≥r
    .rw[zAx gN];have e:l=r:=Zz
     exact wpS_pure ⟨rfl,rfl,g2,by rw[<-e];exact g4,g5⟩
    .rw[zAw gN];refine wpS_bind (gL (l+(r-l) / 2) _ Zz ?_)
     cases eb:β (l+(r-l) / 2)with
     |true=>
      dsimp only;rw[if_pos rfl];exact wpS_pure ⟨rfl,rfl,by dsimp only;lia,g2,by dsimp only;lia,fun i hi=>hm i _ (by dsimp only at hi;lia) Zz eb,g5⟩
     |false=>
      dsimp only;rw[if_neg Zx];refine wpS_pure ⟨rfl,rfl,by dsimp only;lia,by dsimp only;lia,by dsimp only;lia,g4,fun i hi fI=>?_⟩
      cases e2:β i with
      |false=>rfl
      |true=>
       have:=hm (l+(r-l) / 2) i hi fI e2;rw[eb]at this;cases this
   .rintro⟨c0,l,r⟩ cm ⟨rfl,rfl,g1,g2,g3,g4,g5⟩;dsimp only at g1 g2 g3 g4 g5⊢;have e:l=r:=Zz
    exact⟨rfl,rfl,g2,by rw[<-e];exact g4,g5⟩
   .rintro⟨c0,l,r⟩ cm ⟨rfl,rfl,g1,g2,g3⟩;exact wpS_pure (q _ g1 g2 g3)
 |false=>
  dsimp only;rw[if_neg Zx]
  refine wpS_bind (wpS_mono (wpS_forRange (I:=fun x c Zq=>Zq=st/\c.1=none/\c.2.1<c.2.2/\c.2.1<h+1/\x<c.2.2/\β (h-c.2.1)=false)
   (Q:=fun c Zq=>Zq=st/\c.1=none/\c.2.1<c.2.2/\c.2.1<h+1/\β (h-c.2.1)=false/\(c.2.2≥h+1\/(c.2.2<h+1/\β (h-c.2.2)=true))) ?_ ?_ ⟨rfl,rfl,(by show 0<1;decide),(by show 0<h+1;lia),(by show 0<1;decide),(show β (h-0)=false from e0)⟩) ?_)
  .rintro x ⟨c0,l,o⟩ Zq _ hx ⟨rfl,rfl,g1,g2,g3,g4⟩;dsimp only at g1 g2 g3 g4⊢;by_cases ho:o≥h+1
   .rw[zAx ho];exact wpS_pure ⟨rfl,rfl,g1,g2,g4,.inl ho⟩
   .rw[zAw ho];refine wpS_bind (gL (h-o) _ Zz ?_)
    cases eb:β (h-o)with
    |false=>
     dsimp only;rw[if_neg Zx];exact wpS_pure ⟨rfl,rfl,by dsimp only;lia,by dsimp only;lia,by dsimp only;lia,eb⟩
    |true=>
     dsimp only;rw[if_pos rfl];exact wpS_pure ⟨rfl,rfl,g1,g2,g4,.inr ⟨by dsimp only;lia,eb⟩⟩
  .rintro⟨c0,l,o⟩ Zq ⟨rfl,rfl,g1,g2,g3,g4⟩;dsimp only at g1 g2 g3 g4⊢;exact⟨rfl,rfl,g1,g2,g4,.inl Zz⟩
  .rintro⟨c0,l,o⟩ Zq ⟨rfl,rfl,g1,g2,g4,g5⟩;dsimp only at g1 g2 g4 g5⊢
   have w3:∀i,i<h+1-min o (h+1)->β i=true:=fun i hi=>by
    rcases g5 with g5|⟨g5,g6⟩
    .lia
    .exact hm i (h-o) Zz Zz g6
   have w4:∀i,h-l<=i->i<n->β i=false:=fun i hi fI=>by
    cases e2:β i with
    |false=>rfl
    |true=>
     have:=hm (h-l) i hi fI e2;rw[g4]at this;cases this
   obtain⟨lo,c9⟩:∃lo,lo=h+1-min o (h+1):=⟨_,rfl⟩
   obtain⟨hi,hU⟩:∃hi,hi=h-l:=⟨_,rfl⟩
   have w1:lo<=hi:=Zz
   have w2:hi<=n:=Zz
   have w3:∀i,i<lo->β i=true:=by rw[c9];exact w3
   have w4:∀i,hi<=i->i<n->β i=false:=by rw[hU];exact w4
   rw[<-c9,<-hU]
   refine wpS_bind (wpS_mono (wpS_forRange (I:=fun x c cm=>cm=Zq/\c.1=none/\c.2.1<=c.2.2/\c.2.2<=n/\c.2.2-c.2.1<=n-x/\(∀i,i<c.2.1->β i=true)/\(∀i,c.2.2<=i->i<n->β i=false))
    (Q:=fun c cm=>cm=Zq/\c.1=none/\c.2.2<=n/\(∀i,i<c.2.2->β i=true)/\(∀i,c.2.2<=i->i<n->β i=false)) ?_ ?_ ⟨rfl,rfl,w1,w2,(by show hi-lo<=n-0;lia),w3,w4⟩) ?_)
   .rintro x ⟨c0,l,r⟩ cm _ hx ⟨rfl,rfl,g1,g2,g3,g4,g5⟩;dsimp only at g1 g2 g3 g4 g5⊢;by_cases gN:l≥r
    .rw[zAx gN];have e:l=r:=Zz
     exact wpS_pure ⟨rfl,rfl,g2,by rw[<-e];exact g4,g5⟩
    .rw[zAw gN];refine wpS_bind (gL (l+(r-l) / 2) _ Zz ?_)
     cases eb:β (l+(r-l) / 2)with
     |true=>
      dsimp only;rw[if_pos rfl];exact wpS_pure ⟨rfl,rfl,by dsimp only;lia,g2,by dsimp only;lia,fun i hi=>hm i _ (by dsimp only at hi;lia) Zz eb,g5⟩
     |false=>
      dsimp only;rw[if_neg Zx];refine wpS_pure ⟨rfl,rfl,by dsimp only;lia,by dsimp only;lia,by dsimp only;lia,g4,fun i hi fI=>?_⟩
      cases e2:β i with
      |false=>rfl
      |true=>
       have:=hm (l+(r-l) / 2) i hi fI e2;rw[eb]at this;cases this
   .rintro⟨c0,l,r⟩ cm ⟨rfl,rfl,g1,g2,g3,g4,g5⟩;dsimp only at g1 g2 g3 g4 g5⊢;have e:l=r:=Zz
    exact⟨rfl,rfl,g2,by rw[<-e];exact g4,g5⟩
   .rintro⟨c0,l,r⟩ cm ⟨rfl,rfl,g1,g2,g3⟩;exact wpS_pure (q _ g1 g2 g3)
end
abbrev Sm:=StateT SortSt Sem
def xM(lo a m:Nat):Sm AscSt:=
 forIn [a:m] ((none,a):AscSt) fun _ c=>do
  let x <-ltAt' (lo+c.snd) (lo+c.snd-1)
  match x with
  |some b=>if b=true then pure (ForInStep.done (none,c.snd))else pure (ForInStep.yield (none,c.snd+1))
  |_=>pure (ForInStep.done (some none,c.snd))
def oN(lo n m:Nat):Sm (Option Nat):=do
 reverseSlice' lo (lo+n)
 let c <-xM lo n m
 match c.fst with
 |some r=>pure r
 |none=>pure (some c.snd)
def vB(lo n m:Nat):Sm DescSt:=
 forIn [n:m] ((none,n,0):DescSt) fun _ c=>do
  let x <-ltAt' (lo+c.snd.fst) (lo+c.snd.fst-1)
  match x with
  |some b=>
   if b=true then
    if c.snd.snd>0 then do
     reverseSlice' (lo+c.snd.fst-(c.snd.snd+1)) (lo+c.snd.fst)
     pure (ForInStep.yield (none,c.snd.fst+1,0))
    else pure (ForInStep.yield (none,c.snd.fst+1,0))
   else do
    let y <-ltAt' (lo+c.snd.fst-1) (lo+c.snd.fst)
    match y with
    |some d=>
     if d=true then pure (ForInStep.done (none,c.snd.fst,c.snd.snd))
     else pure (ForInStep.yield (none,c.snd.fst+1,c.snd.snd+1))
    |_=>pure (ForInStep.done (some none,c.snd.fst,c.snd.snd))
  |_=>pure (ForInStep.done (some none,c.snd.fst,c.snd.snd))
def oO(lo n m:Nat):Sm (Option Nat):=do
 liftM (rule "list.sort.descending-run")
 let c <-vB lo (n+1) m
 match c.fst with
 |some r=>pure r
 |none=>
  if c.snd.snd>0 then do
   reverseSlice' (lo+c.snd.fst-(c.snd.snd+1)) (lo+c.snd.fst)
   oN lo c.snd.fst m
  else oN lo c.snd.fst m
theorem bc{α β:Type}{m m':Sm α}{f f':α->Sm β}(h:m=m')(h':f=f'):(m>>=f)=(m'>>=f'):=by rw[h,h']
theorem xN(lo m:Nat):countRun' lo m=(do
  let c <-xM lo 1 m
  match c.fst with
  |some r=>pure r
  |none=>
   if(c.snd==m)=true then pure (some c.snd)
   else if c.snd>1 then do
    let x <-ltAt' lo (lo+c.snd-1)
    match x with
    |some b=>if b=true then pure (some c.snd)else do
      reverseSlice' lo (lo+c.snd)
      oO lo c.snd m
    |_=>pure none
   else oO lo c.snd m):=by
 rw[countRun'_eq]
 have tl:∀n:Nat,((do
   reverseSlice' lo (lo+n)
   let mut n:=n
   for _ in[n:m]do
    let some smaller <-ltAt' (lo+n) (lo+n-1)|return none
    if smaller then break
    n:=n+1
   return some n):Sm (Option Nat))=oN lo n m:=fun n=>by
  unfold oN xM;refine bc rfl (funext fun u=>bc rfl (funext fun c=>?_));obtain⟨r,n⟩:=c;cases r<;>rfl
 have pl:∀n:Nat,((do
   rule "list.sort.descending-run"
   let mut n:=n+1
   let mut neq:=0
   for _ in[n:m]do
    let some smaller <-ltAt' (lo+n) (lo+n-1)|return none
    if smaller then
     if neq>0 then reverseSlice' (lo+n-(neq+1)) (lo+n)
     neq:=0
    else
     let some larger <-ltAt' (lo+n-1) (lo+n)|return none
     if larger then break
     neq:=neq+1
    n:=n+1
   if neq>0 then reverseSlice' (lo+n-(neq+1)) (lo+n)
   reverseSlice' lo (lo+n)
   for _ in[n:m]do
    let some smaller <-ltAt' (lo+n) (lo+n-1)|return none
    if smaller then break
    n:=n+1
   return some n):Sm (Option Nat))=oO lo n m:=fun n=>by
  unfold oO vB;refine bc rfl (funext fun u=>bc rfl (funext fun c=>?_));obtain⟨r,n2,q2⟩:=c
  cases r with
  |some r=>rfl
  |none=>
   dsimp only;split
   .exact bc rfl (funext fun u=>tl n2)
   .exact tl n2
 unfold xM;refine bc rfl (funext fun c=>?_);obtain⟨r,n⟩:=c
 cases r with
 |some r=>rfl
 |none=>
  dsimp only;split
  .rfl
  .split
   .refine bc rfl (funext fun x=>?_)
    cases x with
    |none=>rfl
    |some b=>
     dsimp only;split
     .rfl
     .exact bc rfl (funext fun u=>pl n)
   .exact pl n
structure SB(ks:SortKind)(ae:Array Keyed)(st:SortSt):Prop where
 kind:kindOf st=ks
 ok:failedOf st=none
 pm:(arrOf st).Perm ae
def Seg(κ:PyProof.Rows.KeyKind)(xs:Array Keyed)(a b:Nat):Prop:=∀i j,a<=i->i<=j->j<b->κ.kle (KK κ xs i) (KK κ xs j)
def Non(κ:PyProof.Rows.KeyKind)(xs:Array Keyed)(a b:Nat):Prop:=∀i j,a<=i->i<=j->j<b->κ.kle (KK κ xs j) (KK κ xs i)
structure Out(st Zq:SortSt)(a b:Nat):Prop where
 out:∀k,(k<a\/b<=k)->(arrOf Zq)[k]?=(arrOf st)[k]?
 pend:pendingOf Zq=pendingOf st
theorem Out.refl(st:SortSt)(a b:Nat):Out st st a b:=⟨fun _ _=>rfl,rfl⟩
theorem Out.trans{st fe st2:SortSt}{a b:Nat}(h:Out st fe a b)(h':Out fe st2 a b):Out st st2 a b:=⟨fun k hk=>(h'.out k hk).trans (h.out k hk),h'.pend.trans h.pend⟩
section
variable{prog:Program}{w:World}{A:Around}{E:Value->Shared->Prop}{s:Shared}{κ:PyProof.Rows.KeyKind}{ks:SortKind}{ae:Array Keyed}
def LtAll(prog:Program)(w:World)(A:Around)(E:Value->Shared->Prop)(s:Shared)(κ:PyProof.Rows.KeyKind)(ks:SortKind):Prop:=∀st,kindOf st=ks->HR prog w A E s κ st
theorem SB.size{st:SortSt}(B:SB ks ae st):(arrOf st).size=ae.size:=B.pm.size_eq
theorem SB.item{st:SortSt}(B:SB ks ae st)(h0:KeysOf κ ae){i:Nat}(hi:i<ae.size):∃p a,(arrOf st)[i]?=some p/\κ.keyOf p.1=some a/\KK κ (arrOf st) i=a:=by
 have hJ:i<(arrOf st).size:=by rw[B.size];exact hi
 have e:(arrOf st)[i]?=some (arrOf st)[i]:=Array.getElem?_eq_getElem hJ;have hm:(arrOf st)[i]∈ae.toList:=(Array.perm_iff_toList_perm.mp B.pm).mem_iff.mp (Array.mem_toList_iff.mpr (Array.getElem_mem hJ));obtain⟨a,ha⟩:=h0 _ hm;refine⟨_,a,e,ha,?_⟩;unfold KK;rw[e];dsimp only;rw[ha];rfl
theorem SB.arr{st:SortSt}(B:SB ks ae st){xs:Array Keyed}(h:xs.Perm (arrOf st)):SB ks ae (setArr st xs):=⟨B.kind,B.ok,h.trans B.pm⟩
theorem ltA(hL:LtAll prog w A E s κ ks){st:SortSt}{i j:Nat}{Q:Option Bool->SortSt->Prop}(B:SB ks ae st)(h0:KeysOf κ ae)(hi:i<ae.size)(hj:j<ae.size)(h:Q (some (κ.blt (KK κ (arrOf st) i) (KK κ (arrOf st) j))) st):
  wpS (model prog w) A E s (ltAt' i j) Q st:=by
 obtain⟨p,a,e1,ka,ea⟩:=B.item (κ:=κ) h0 hi;obtain⟨q,b,e2,kb,eb⟩:=B.item (κ:=κ) h0 hj;rw[ea,eb]at h;rw[ltAt'_eq];refine wpS_bind (wpS_get (wpS_bind (bh e1 (wpS_bind (bh e2 ?_)))));exact hL st B.kind p q a b Q ka kb h
theorem qF{st:SortSt}{i j:Nat}{Q:Unit->SortSt->Prop}(h:Q () (setArr st (mirror (arrOf st) i j ((j-i) / 2)))):wpS (model prog w) A E s (reverseSlice' i j) Q st:=wpS_reverse h
theorem Out.rev{st:SortSt}{i j a b:Nat}(hj:j<=(arrOf st).size)(h1:a<=i)(h2:j<=b):Out st (setArr st (mirror (arrOf st) i j ((j-i) / 2))) a b:=by
 refine⟨fun k hk=>?_,rfl⟩;show(mirror (arrOf st) i j ((j-i) / 2))[k]?=_;rw[getElem?_mirror_all hj,zAw Zz]
theorem vC(hL:LtAll prog w A E s κ ks)(h0:KeysOf κ ae){st:SortSt}{lo a m:Nat}{Q:AscSt->SortSt->Prop}(hn:lo+m<=ae.size)(ha:1<=a)(LG:a<=m)(B:SB ks ae st)(hs:Seg κ (arrOf st) lo (lo+a))
  (h:∀n,a<=n->n<=m->Seg κ (arrOf st) lo (lo+n)->(n=m\/κ.klt (KK κ (arrOf st) (lo+n)) (KK κ (arrOf st) (lo+n-1)))->Q (none,n) st):wpS (model prog w) A E s (xM lo a m) Q st:=by
 unfold xM;refine wpS_forRange (I:=fun x c Zq=>Zq=st/\c=(none,x)/\Seg κ (arrOf st) lo (lo+x)) ?_ ?_ ⟨rfl,rfl,hs⟩
 .rintro x c Zq Cc LH ⟨rfl,rfl,bp⟩;dsimp only;refine wpS_bind (ltA hL B h0 Zz Zz ?_)
  cases e:κ.blt (KK κ (arrOf Zq) (lo+x)) (KK κ (arrOf Zq) (lo+x-1))with
  |true=>
   dsimp only;rw[if_pos rfl];exact wpS_pure (h x Cc Zz bp (.inr e))
  |false=>
   dsimp only;rw[if_neg Zx];refine wpS_pure ⟨rfl,rfl,fun i j hi bX hj=>?_⟩;by_cases va:j<lo+x
   .exact bp i j hi bX va
   .have ej:j=lo+x:=Zz
    subst ej;by_cases ei:i=lo+x
    .rw[ei];exact KeyOrd.kle_refl _
    .exact KeyOrd.kle_trans (bp i (lo+x-1) hi Zz Zz) e
 .rintro c Zq ⟨rfl,rfl,bp⟩;rw[show max a m=m by lia]at bp⊢;exact h m LG (zA3 _) bp (.inl rfl)
theorem sJ(hL:LtAll prog w A E s κ ks)(h0:KeysOf κ ae){st:SortSt}{lo n m:Nat}{Q:Option Nat->SortSt->Prop}(hn:lo+m<=ae.size)(h1:1<=n)(kQ:n<=m)(B:SB ks ae st)(hs:Non κ (arrOf st) lo (lo+n))
  (h:∀k Zq,SB ks ae Zq->Out st Zq lo (lo+m)->1<=k->k<=m->Seg κ (arrOf Zq) lo (lo+k)->Q (some k) Zq):wpS (model prog w) A E s (oN lo n m) Q st:=by
 unfold oN;have hsz:lo+n<=(arrOf st).size:=by rw[B.size];lia
 refine wpS_bind (qF ?_);have B':=B.arr (mirror_perm (arrOf st) lo (lo+n) ((lo+n-lo) / 2));refine wpS_bind (vC hL h0 hn h1 kQ B' ?_ fun k QU ve LI _=>wpS_pure (h k _ B' (Out.rev hsz (zA3 _) Zz) Zz ve LI));intro i j hi bX hj;show κ.kle (KK κ (mirror (arrOf st) lo (lo+n) ((lo+n-lo) / 2)) i) (KK κ (mirror (arrOf st) lo (lo+n) ((lo+n-lo) / 2)) j);rw[KK_mirror hsz,KK_mirror hsz,zAx Zz,zAx Zz];exact hs _ _ Zz Zz Zz
theorem zf(hL:LtAll prog w A E s κ ks)(h0:KeysOf κ ae){st:SortSt}{lo n m:Nat}{Q:DescSt->SortSt->Prop}(hn:lo+m<=ae.size)(h1:1<=n)(kQ:n<=m)(B:SB ks ae st)(hs:Non κ (arrOf st) lo (lo+n))
  (h:∀k q Zq,SB ks ae Zq->Out st Zq lo (lo+m)->n<=k->k<=m->Non κ (arrOf Zq) lo (lo+k)->q+1<=k->(∀i,lo+k-(q+1)<=i->i<lo+k->KK κ (arrOf Zq) i=KK κ (arrOf Zq) (lo+k-1))->Q (none,k,q) Zq):
  wpS (model prog w) A E s (vB lo n m) Q st:=by
 unfold vB
 refine wpS_forRange (I:=fun x c Zq=>∃q,c=(none,x,q)/\SB ks ae Zq/\Out st Zq lo (lo+m)/\Non κ (arrOf Zq) lo (lo+x)/\q+1<=x/\(∀i,lo+x-(q+1)<=i->i<lo+x->KK κ (arrOf Zq) i=KK κ (arrOf Zq) (lo+x-1))) ?_ ?_
  ⟨0,rfl,B,Out.refl _ _ _,hs,Zz,fun i z1 z2=>by congr 1;lia⟩
 .rintro x c Zq Cc LH ⟨q,rfl,B',O',bp,hq,he⟩;dsimp only;have hsz:lo+x<=(arrOf Zq).size:=by rw[B'.size];lia
  refine wpS_bind (ltA hL B' h0 Zz Zz ?_)
  cases e:κ.blt (KK κ (arrOf Zq) (lo+x)) (KK κ (arrOf Zq) (lo+x-1))with
  |true=>
   dsimp only;rw[if_pos rfl]
   have more:∀xs:Array Keyed,(∀k,KK κ xs k=KK κ (arrOf Zq) k)->Non κ xs lo (lo+(x+1)):=fun xs hk i j hi bX hj=>by
    rw[hk,hk];by_cases va:j<lo+x
    .exact bp i j hi bX va
    .have ej:j=lo+x:=Zz
     subst ej;by_cases ei:i=lo+x
     .rw[ei];exact KeyOrd.kle_refl _
     .exact KeyOrd.kle_trans (KeyOrd.kle_of_klt e) (bp i (lo+x-1) hi Zz Zz)
   by_cases vi:q>0
   .rw[zAx vi];refine wpS_bind (qF (wpS_pure ⟨0,rfl,B'.arr (mirror_perm _ _ _ _),O'.trans (Out.rev hsz Zz Zz),more _ (KK_mirror_equal hsz he),Zz,fun i z1 z2=>by congr 1;lia⟩))
   .rw[zAw vi];exact wpS_pure ⟨0,rfl,B',O',more _ (fun _=>rfl),Zz,fun i z1 z2=>by congr 1;lia⟩
  |false=>
   dsimp only;rw[if_neg Zx];refine wpS_bind (ltA hL B' h0 Zz Zz ?_)
   cases e2:κ.blt (KK κ (arrOf Zq) (lo+x-1)) (KK κ (arrOf Zq) (lo+x))with
   |true=>
    dsimp only;rw[if_pos rfl];exact wpS_pure (h x q Zq B' O' Cc Zz bp hq he)
   |false=>
    dsimp only;rw[if_neg Zx];have ex:KK κ (arrOf Zq) (lo+x)=KK κ (arrOf Zq) (lo+x-1):=KeyOrd.kle_antisymm e2 e;refine wpS_pure ⟨q+1,rfl,B',O',fun i j hi bX hj=>?_,Zz,fun i z1 z2=>?_⟩
    .by_cases va:j<lo+x
     .exact bp i j hi bX va
     .have ej:j=lo+x:=Zz
      subst ej;by_cases ei:i=lo+x
      .rw[ei];exact KeyOrd.kle_refl _
      .rw[ex];exact bp i (lo+x-1) hi Zz Zz
    .rw[show lo+(x+1)-1=lo+x by lia];by_cases ei:i=lo+x
     .rw[ei]
     .rw[ex];exact he i Zz Zz
 .rintro c Zq ⟨q,rfl,B',O',bp,hq,he⟩;rw[show max n m=m by lia]at bp hq he⊢;exact h m q Zq B' O' kQ (zA3 _) bp hq he
theorem sO(hL:LtAll prog w A E s κ ks)(h0:KeysOf κ ae){st:SortSt}{lo n m:Nat}{Q:Option Nat->SortSt->Prop}(hn:lo+m<=ae.size)(kQ:n+1<=m)(B:SB ks ae st)(hs:Non κ (arrOf st) lo (lo+(n+1)))
  (h:∀k Zq,SB ks ae Zq->Out st Zq lo (lo+m)->1<=k->k<=m->Seg κ (arrOf Zq) lo (lo+k)->Q (some k) Zq):wpS (model prog w) A E s (oO lo n m) Q st:=by
 unfold oO;refine wpS_bind (wpS_lift (wpAny_rule ⟨rfl,?_⟩));refine wpS_bind (zf hL h0 hn Zz kQ B hs fun k q Zq B' O' k1 k2 bp hq he=>?_);dsimp only;have hsz:lo+k<=(arrOf Zq).size:=by rw[B'.size];lia
 by_cases vi:q>0
 .rw[zAx vi];refine wpS_bind (qF (sJ hL h0 hn Zz k2 (B'.arr (mirror_perm _ _ _ _)) ?_ fun k' st2 B2 O2=>h k' st2 B2 ((O'.trans (Out.rev hsz Zz Zz)).trans O2)));intro i j hi bX hj;show κ.kle (KK κ (mirror (arrOf Zq) _ _ _) j) (KK κ (mirror (arrOf Zq) _ _ _) i);rw[KK_mirror_equal hsz he,KK_mirror_equal hsz he];exact bp i j hi bX hj
 .rw[zAw vi];exact sJ hL h0 hn Zz k2 B' bp fun k' st2 B2 O2=>h k' st2 B2 (O'.trans O2)
theorem zg(hL:LtAll prog w A E s κ ks)(h0:KeysOf κ ae){st:SortSt}{lo m:Nat}{Q:Option Nat->SortSt->Prop}(hn:lo+m<=ae.size)(h1:1<=m)(B:SB ks ae st)
  (h:∀k Zq,SB ks ae Zq->Out st Zq lo (lo+m)->1<=k->k<=m->Seg κ (arrOf Zq) lo (lo+k)->Q (some k) Zq):wpS (model prog w) A E s (countRun' lo m) Q st:=by
 rw[xN];refine wpS_bind (vC hL h0 hn (zA3 1) h1 B (fun i j hi bX hj=>by have:i=j:=Zz;rw[this];exact KeyOrd.kle_refl _) fun n n1 n2 Ap LJ=>?_);dsimp only;by_cases kQ:n=m
 .rw[if_pos (by simpa using kQ)];exact wpS_pure (h n st B (Out.refl _ _ _) n1 n2 Ap)
 .rw[if_neg (by simpa using kQ)];have aw:=LJ.resolve_left kQ;by_cases HP:n>1
  .rw[zAx HP];refine wpS_bind (ltA hL B h0 Zz Zz ?_)
   cases e:κ.blt (KK κ (arrOf st) lo) (KK κ (arrOf st) (lo+n-1))with
   |true=>
    dsimp only;rw[if_pos rfl];exact wpS_pure (h n st B (Out.refl _ _ _) n1 n2 Ap)
   |false=>
    dsimp only;rw[if_neg Zx];have hsz:lo+n<=(arrOf st).size:=by rw[B.size];lia
    have df:∀k,lo<=k->k<lo+n->KK κ (arrOf st) k=KK κ (arrOf st) (lo+n-1):=fun k rj hk=>by
     have a1:=Ap lo k (zA3 _) rj hk;have a2:=Ap k (lo+n-1) rj Zz Zz;exact KeyOrd.kle_antisymm a2 (KeyOrd.kle_trans e a1)
    refine wpS_bind (qF (sO hL h0 hn Zz (B.arr (mirror_perm _ _ _ _)) ?_ fun k st2 B2 O2=>h k st2 B2 ((Out.rev hsz (zA3 _) Zz).trans O2)));intro i j hi bX hj;show κ.kle (KK κ (mirror (arrOf st) _ _ _) j) (KK κ (mirror (arrOf st) _ _ _) i);rw[KK_mirror_equal hsz df,KK_mirror_equal hsz df];by_cases LK:j<lo+n
    .rw[df i hi Zz,df j Zz LK];exact KeyOrd.kle_refl _
    .have ej:j=lo+n:=Zz
     subst ej;by_cases ei:i=lo+n
     .rw[ei];exact KeyOrd.kle_refl _
     .rw[df i hi Zz];exact KeyOrd.kle_of_klt aw
  .rw[zAw HP];have e1:n=1:=Zz
   subst e1;refine sO hL h0 hn Zz B ?_ h;intro i j hi bX hj;by_cases ei:i=j
   .rw[ei];exact KeyOrd.kle_refl _
   .have i0:i=lo:=Zz
    have j1:j=lo+1:=Zz
    rw[i0,j1];exact KeyOrd.kle_of_klt aw
theorem G6(hL:LtAll prog w A E s κ ks)(h0:KeysOf κ ae){st:SortSt}{lo n ok:Nat}{Q:Bool->SortSt->Prop}(hn:lo+n<=ae.size)(hok:ok<=n)(B:SB ks ae st)(hs:Seg κ (arrOf st) lo (lo+ok))
  (h:∀Zq,SB ks ae Zq->Out st Zq lo (lo+n)->Seg κ (arrOf Zq) lo (lo+n)->Q true Zq):wpS (model prog w) A E s (binarySort' lo n ok) Q st:=by
 rw[binarySort'_eq]
 refine wpS_bind (wpS_mono (wpS_forRange (I:=fun k c Zq=>c=(none,())/\SB ks ae Zq/\Out st Zq lo (lo+n)/\Seg κ (arrOf Zq) lo (lo+min k n))
  (Q:=fun c Zq=>c=(none,())/\SB ks ae Zq/\Out st Zq lo (lo+n)/\Seg κ (arrOf Zq) lo (lo+n)) ?_ ?_ ?_) ?_)
 .rintro k c Zq rj QV ⟨rfl,B',O',bp⟩;rw[show min k n=k by lia]at bp
  refine wpS_bind (wpS_mono (wpS_forRange (I:=fun x c st2=>st2=Zq/\∃l r,c=(none,l,r)/\l<=r/\r<=k/\r-l<=k-x/\(∀i,i<l->κ.kle (KK κ (arrOf Zq) (lo+i)) (KK κ (arrOf Zq) (lo+k)))/\(∀i,r<=i->i<k->κ.klt (KK κ (arrOf Zq) (lo+k)) (KK κ (arrOf Zq) (lo+i))))
   (Q:=fun c st2=>st2=Zq/\∃l r,c=(none,l,r)/\l<=k/\(∀i,i<l->κ.kle (KK κ (arrOf Zq) (lo+i)) (KK κ (arrOf Zq) (lo+k)))/\(∀i,l<=i->i<k->κ.klt (KK κ (arrOf Zq) (lo+k)) (KK κ (arrOf Zq) (lo+i)))) ?_ ?_ ?_) ?_)
  .rintro x c st2 _ QW ⟨rfl,l,r,rfl,gN,rl,hm,c9,hU⟩;dsimp only;by_cases mx:l≥r
   .rw[zAx mx];have e:l=r:=Zz
    subst e;exact wpS_pure ⟨rfl,l,l,rfl,rl,c9,hU⟩
   .rw[zAw mx];refine wpS_bind (ltA hL B' h0 Zz Zz ?_)
    cases e:κ.blt (KK κ (arrOf st2) (lo+k)) (KK κ (arrOf st2) (lo+(l+r) / 2))with
    |true=>
     dsimp only;rw[if_pos rfl];exact wpS_pure ⟨rfl,l,(l+r) / 2,rfl,Zz,Zz,Zz,c9,fun i z1 z2=>KeyOrd.klt_of_klt_of_kle e (bp (lo+(l+r) / 2) (lo+i) Zz Zz Zz)⟩
    |false=>
     dsimp only;rw[if_neg Zx];exact wpS_pure ⟨rfl,(l+r) / 2+1,r,rfl,Zz,Zz,Zz,fun i z1=>KeyOrd.kle_trans (bp (lo+i) (lo+(l+r) / 2) Zz Zz Zz) (show κ.kle _ _ from e),hU⟩
  .rintro c st2 ⟨rfl,l,r,rfl,gN,rl,hm,c9,hU⟩;have e:l=r:=Zz
   subst e;exact⟨rfl,l,l,rfl,rl,c9,hU⟩
  .exact⟨rfl,0,k,rfl,Zz,Zz,Zz,fun i hi=>by lia,fun i z1 z2=>by lia⟩
  .rintro c st2 ⟨rfl,l,r,rfl,rq,c9,hU⟩;show wpS _ _ _ _ (do moveDown' (lo+k) (lo+l);pure (ForInStep.yield (none,()))) _ _;rw[moveDown'_eq];have Cf:lo+k<(arrOf st2).size:=by rw[B'.size];lia
   refine wpS_bind (wpS_modify (wpS_pure ⟨rfl,B'.arr (bubble_perm _ _ _),O'.trans ⟨fun z hz=>?_,rfl⟩,?_⟩))
   .show(bubble (arrOf st2) (lo+k) (lo+k-(lo+l)))[z]?=_;rw[getElem?_bubble Cf _ Zz,zAw Zz,zAw Zz]
   .rw[show min (k+1) n=k+1 by lia];intro i j hi bX hj;show κ.kle (KK κ (bubble (arrOf st2) (lo+k) (lo+k-(lo+l))) i) (KK κ (bubble (arrOf st2) (lo+k) (lo+k-(lo+l))) j);rw[KK_bubble Cf Zz,KK_bubble Cf Zz,show lo+k-(lo+k-(lo+l))=lo+l by lia]
    have Cn:∀z,lo<=z->z<lo+l->κ.kle (KK κ (arrOf st2) z) (KK κ (arrOf st2) (lo+k)):=fun z z1 z2=>by
     have:=c9 (z-lo) Zz;rw[show lo+(z-lo)=z by lia]at this;exact this
    have Co:∀z,lo+l<=z->z<lo+k->κ.kle (KK κ (arrOf st2) (lo+k)) (KK κ (arrOf st2) z):=fun z z1 z2=>by
     have:=hU (z-lo) Zz Zz;rw[show lo+(z-lo)=z by lia]at this;exact KeyOrd.kle_of_klt this
    repeat' split
    all_goals first
     | (exfalso;lia)
     |exact KeyOrd.kle_refl _
     |exact Cn _ Zz Zz
     |exact Co _ Zz Zz
     |exact bp _ _ Zz Zz Zz
 .rintro c Zq ⟨hc,B',O',bp⟩;refine⟨hc,B',O',?_⟩
  rwa [show min (max (max ok 1) n) n=n by lia]at bp
 .refine⟨rfl,B,Out.refl _ _ _,fun i j hi bX hj=>?_⟩;by_cases z:ok=0
  .have e:i=j:=Zz
   rw[e];exact KeyOrd.kle_refl _
  .exact hs i j hi bX Zz
 .rintro c Zq ⟨rfl,B',O',bp⟩;exact wpS_pure (h Zq B' O' bp)
end
section
variable{α:Type}{le:α->α->Prop}
structure MI(le:α->α->Prop)(la lb lo:List α)(ia ib:Nat):Prop where
 pm:lo.Perm (la.take ia++lb.take ib)
 sr:lo.Pairwise le
 be:∀x∈lo,∀y,y∈la.drop ia\/y∈lb.drop ib->le x y
theorem gU{l:List α}{i j:Nat}{y:α}(bX:i<=j)(h:y∈l.drop j):y∈l.drop i:=by
 have:l.drop j=(l.drop i).drop (j-i):=by rw[List.drop_drop];congr 1;lia
 rw[this]at h;exact List.mem_of_mem_drop h
theorem vD{l:List α}(h:l.Pairwise le){i j:Nat}(bX:i<=j):∀x∈(l.drop i).take (j-i),∀y∈l.drop j,le x y:=by
 have e:l.drop i=(l.drop i).take (j-i)++l.drop j:=by
  have:=zB8 (j-i) (l.drop i);rw[List.drop_drop]at this;rw[show i+(j-i)=j by lia]at this;exact this.symm
 have hp:(l.drop i).Pairwise le:=h.sublist (List.drop_sublist _ _);rw[e]at hp;exact fun x hx y hy=>(List.pairwise_append.mp hp).2.2 x hx y hy
theorem oR(l:List α)(i k:Nat):l.take (i+k)=l.take i++(l.drop i).take k:=List.take_add
theorem MI.segA{la lb lo:List α}{ia ib k:Nat}(m:MI le la lb lo ia ib)(sa:la.Pairwise le)(h:∀x∈(la.drop ia).take k,∀y∈lb.drop ib,le x y):MI le la lb (lo++(la.drop ia).take k) (ia+k) ib:=by
 refine⟨?_,List.pairwise_append.mpr ⟨m.sr,(sa.sublist (List.drop_sublist _ _)).sublist (List.take_sublist _ _),fun x hx y hy=>m.be x hx y (.inl (List.mem_of_mem_take hy))⟩,fun x hx y hy=>?_⟩
 .rw[oR];refine(m.pm.append_right _).trans ?_;rw[zAf,zAf];exact List.Perm.append_left _ (List.perm_append_comm)
 .rcases zA6.mp hx with z|z
  .exact m.be x z y (hy.imp (gU Zz) id)
  .rcases hy with hy|hy
   .have:=vD sa (i:=ia) (j:=ia+k) Zz x (by rw[show ia+k-ia=k by lia];exact z) y hy;exact this
   .exact h x z y hy
theorem MI.segB{la lb lo:List α}{ia ib k:Nat}(m:MI le la lb lo ia ib)(sb:lb.Pairwise le)(h:∀x∈(lb.drop ib).take k,∀y∈la.drop ia,le x y):MI le la lb (lo++(lb.drop ib).take k) ia (ib+k):=by
 refine⟨?_,List.pairwise_append.mpr ⟨m.sr,(sb.sublist (List.drop_sublist _ _)).sublist (List.take_sublist _ _),fun x hx y hy=>m.be x hx y (.inr (List.mem_of_mem_take hy))⟩,fun x hx y hy=>?_⟩
 .rw[oR];refine(m.pm.append_right _).trans ?_;rw[zAf]
 .rcases zA6.mp hx with z|z
  .exact m.be x z y (hy.imp id (gU Zz))
  .rcases hy with hy|hy
   .exact h x z y hy
   .have:=vD sb (i:=ib) (j:=ib+k) Zz x (by rw[show ib+k-ib=k by lia];exact z) y hy;exact this
structure Done(le:α->α->Prop)(la lb lo:List α):Prop where
 pm:lo.Perm (la++lb)
 sr:lo.Pairwise le
theorem MI.endB{la lb lo:List α}{ia ib:Nat}(m:MI le la lb lo ia ib)(sa:la.Pairwise le)(hb:lb.length<=ib):Done le la lb (lo++la.drop ia++lb.drop ib):=by
 have e:lb.drop ib=[]:=List.drop_of_length_le hb;have e2:lb.take ib=lb:=List.take_of_length_le hb;rw[e,zAn];refine⟨?_,List.pairwise_append.mpr ⟨m.sr,sa.sublist (List.drop_sublist _ _),fun x hx y hy=>m.be x hx y (.inl hy)⟩⟩;have:=m.pm;rw[e2]at this;refine(this.append_right _).trans ?_;rw[zAf];refine(List.Perm.append_left _ List.perm_append_comm).trans ?_;rw[<-zAf,zB8]
theorem MI.endA{la lb lo:List α}{ia ib:Nat}(m:MI le la lb lo ia ib)(sb:lb.Pairwise le)(ha:la.length<=ia):Done le la lb (lo++la.drop ia++lb.drop ib):=by
 have e:la.drop ia=[]:=List.drop_of_length_le ha;have e2:la.take ia=la:=List.take_of_length_le ha;rw[e,zAn];refine⟨?_,List.pairwise_append.mpr ⟨m.sr,sb.sublist (List.drop_sublist _ _),fun x hx y hy=>m.be x hx y (.inr hy)⟩⟩;have:=m.pm;rw[e2]at this;refine(this.append_right _).trans ?_;rw[zAf,zB8]
theorem MI.last{la lb lo:List α}{ia ib:Nat}(m:MI le la lb lo ia ib)(sa:la.Pairwise le)(sb:lb.Pairwise le)(h:∀y∈lb.drop ib,∀x∈la.drop ia,le y x):Done le la lb (lo++lb.drop ib++la.drop ia):=by
 refine⟨?_,List.pairwise_append.mpr ⟨List.pairwise_append.mpr ⟨m.sr,sb.sublist (List.drop_sublist _ _),fun x hx y hy=>m.be x hx y (.inr hy)⟩,sa.sublist (List.drop_sublist _ _),fun x hx y hy=>?_⟩⟩
 .refine((m.pm.append_right _).append_right _).trans ?_
  have e:(la.take ia++lb.take ib++lb.drop ib++la.drop ia)=la.take ia++(lb++la.drop ia):=by
   rw[zAf (la.take ia),zB8,zAf]
  rw[e];refine(List.Perm.append_left _ List.perm_append_comm).trans ?_;rw[<-zAf,zB8]
 .rcases zA6.mp hx with z|z
  .exact m.be x z y (.inl hy)
  .exact h x z y hy
end
def jf:Array Keyed->Array Keyed->Sm (Array Keyed):=sortPriv% PySem.Builtin.mergeLo
def jg:Nat->Sm Unit:=sortPriv% PySem.Builtin.setMinGallop
abbrev C1:=Option (Array Keyed)×Array Keyed×Nat×Nat×Nat×Nat
abbrev C2:=Option (Array Keyed)×Array Keyed×Nat×Nat×Nat×Nat×Nat
abbrev C0:=Option (Array Keyed)×Array Keyed×Nat×Nat×Nat
def one(a b:Array Keyed)(g:Nat)(out:Array Keyed)(ia ib ac bc:Nat):Sm (ForInStep C1):=do
 let y <-elem' b ib
 let x <-elem' a ia
 let r <-lt' y x
 match r with
 |some w=>
  if w=true then do
   let y <-elem' b ib
   if(ib+1==b.size)=true then pure (ForInStep.done (some (out.push y++a.extract ia a.size++b.extract (ib+1) b.size),out.push y,ia,ib+1,0,bc+1))
   else if bc+1≥g then pure (ForInStep.done (none,out.push y,ia,ib+1,0,bc+1))else pure (ForInStep.yield (none,out.push y,ia,ib+1,0,bc+1))
  else do
   let x <-elem' a ia
   if(ia+1+1==a.size)=true then pure (ForInStep.done (some (out.push x++b.extract ib b.size++a.extract (ia+1) a.size),out.push x,ia+1,ib,ac+1,0))
   else if ac+1≥g then pure (ForInStep.done (none,out.push x,ia+1,ib,ac+1,0))else pure (ForInStep.yield (none,out.push x,ia+1,ib,ac+1,0))
 |_=>pure (ForInStep.done (some (out++a.extract ia a.size++b.extract ib b.size),out,ia,ib,ac,bc))
def gl4(a b:Array Keyed)(out:Array Keyed)(ia ib g k k1:Nat):Sm (ForInStep C2):=do
 let x <-elem' a ia
 if(ia+1+1==a.size)=true then pure (ForInStep.done (some (out.push x++b.extract ib b.size++a.extract (ia+1) a.size),out.push x,ia+1,ib,g,k,k1))
 else if(decide (k<7)&&decide (k1<7))=true then pure (ForInStep.done (none,out.push x,ia+1,ib,g,k,k1))else pure (ForInStep.yield (none,out.push x,ia+1,ib,g,k,k1))
def gl3(a b:Array Keyed)(out:Array Keyed)(ia ib g k bc:Nat):Sm (ForInStep C2):=do
 let x <-elem' a ia
 let r <-fP true x b ib (b.size-ib) 0
 match r with
 |some k1=>
  if k1>0 then
   if(ib+k1==b.size)=true then pure (ForInStep.done (some (out++b.extract ib (ib+k1)++a.extract ia a.size++b.extract (ib+k1) b.size),out++b.extract ib (ib+k1),ia,ib+k1,g,k,k1))
   else gl4 a b (out++b.extract ib (ib+k1)) ia (ib+k1) g k k1
  else gl4 a b out ia ib g k k1
 |_=>pure (ForInStep.done (some (out++a.extract ia a.size++b.extract ib b.size),out,ia,ib,g,k,bc))
def gl2(a b:Array Keyed)(out:Array Keyed)(ia ib g k bc:Nat):Sm (ForInStep C2):=do
 let y <-elem' b ib
 if(ib+1==b.size)=true then pure (ForInStep.done (some (out.push y++a.extract ia a.size++b.extract (ib+1) b.size),out.push y,ia,ib+1,g,k,bc))
 else gl3 a b (out.push y) ia (ib+1) g k bc
def gl1(a b:Array Keyed)(out:Array Keyed)(ia ib g ac bc:Nat):Sm (ForInStep C2):=do
 jg g
 let y <-elem' b ib
 let r <-fP false y a ia (a.size-ia) 0
 match r with
 |some k=>
  if k>0 then
   if(ia+k+1==a.size)=true then pure (ForInStep.done (some (out++a.extract ia (ia+k)++b.extract ib b.size++a.extract (ia+k) a.size),out++a.extract ia (ia+k),ia+k,ib,g,k,bc))
   else if(ia+k==a.size)=true then pure (ForInStep.done (some (out++a.extract ia (ia+k)++a.extract (ia+k) a.size++b.extract ib b.size),out++a.extract ia (ia+k),ia+k,ib,g,k,bc))
   else gl2 a b (out++a.extract ia (ia+k)) (ia+k) ib g k bc
  else gl2 a b out ia ib g k bc
 |_=>pure (ForInStep.done (some (out++a.extract ia a.size++b.extract ib b.size),out,ia,ib,g,ac,bc))
def gal(a b:Array Keyed)(out:Array Keyed)(ia ib g ac bc:Nat):Sm (ForInStep C2):=if g>1 then gl1 a b out ia ib (g-1) ac bc else gl1 a b out ia ib g ac bc
def round(a b:Array Keyed)(out:Array Keyed)(ia ib g:Nat):Sm (ForInStep C0):=do
 let c <-forIn [0:a.size+b.size] ((none,out,ia,ib,0,0):C1) fun _ c=>one a b g c.2.1 c.2.2.1 c.2.2.2.1 c.2.2.2.2.1 c.2.2.2.2.2
 match c.1 with
 |some r=>pure (ForInStep.done (some r,c.2.1,c.2.2.1,c.2.2.2.1,g))
 |none=>do
  liftM (rule "list.sort.gallop")
  let d <-forIn [0:a.size+b.size] ((none,c.2.1,c.2.2.1,c.2.2.2.1,g+1,c.2.2.2.2.1,c.2.2.2.2.2):C2) fun _ d=>gal a b d.2.1 d.2.2.1 d.2.2.2.1 d.2.2.2.2.1 d.2.2.2.2.2.1 d.2.2.2.2.2.2
  match d.1 with
  |some r=>pure (ForInStep.done (some r,d.2.1,d.2.2.1,d.2.2.2.1,d.2.2.2.2.1))
  |none=>do
   jg (d.2.2.2.2.1+1)
   pure (ForInStep.yield (none,d.2.1,d.2.2.1,d.2.2.2.1,d.2.2.2.2.1+1))
theorem fi{β:Type}{r:Std.Legacy.Range}{c:β}{f f':Nat->β->Sm (ForInStep β)}(h:f=f'):(forIn r c f:Sm β)=forIn r c f':=by rw[h]
theorem ic{α:Type}{c:Prop}[Decidable c]{x x' y y':α}(h:x=x')(h':y=y'):(if c then x else y)=if c then x' else y':=by rw[h,h']
theorem HS(a b:Array Keyed):jf a b=(do
  liftM (rule "list.sort.merge-lo")
  let e <-elem' b 0
  if(1==b.size)=true then pure (#[e]++a.extract 0 a.size++b.extract 1 b.size)
  else if(0+1==a.size)=true then pure (#[e]++b.extract 1 b.size++a.extract 0 a.size)
  else do
   let s <-get
   let c <-forIn [0:a.size+b.size] ((none,#[e],0,1,gallopOf s):C0) fun _ c=>round a b c.2.1 c.2.2.1 c.2.2.2.1 c.2.2.2.2
   match c.1 with
   |some r=>pure r
   |none=>liftM (unsupported "internal:list.sort.merge-bound")):=by
 delta jf
 refine bc rfl (funext fun u=>bc rfl (funext fun e=>ic rfl (ic rfl (bc rfl (funext fun s=>bc (fi (funext fun x=>funext fun c=>?_)) (funext fun c=>?_))))))
 .unfold round;refine bc (fi (funext fun x=>funext fun c1=>?_)) (funext fun c1=>?_)
  .unfold one;refine bc rfl (funext fun y=>bc rfl (funext fun x=>bc rfl (funext fun r=>?_)))
   cases r with
   |none=>rfl
   |some w=>exact ic (bc rfl (funext fun y=>ic rfl (ic rfl rfl))) (bc rfl (funext fun y=>ic rfl (ic rfl rfl)))
  .obtain⟨r,c1⟩:=c1
   cases r with
   |some r=>rfl
   |none=>
    refine bc rfl (funext fun u=>bc (fi (funext fun x=>funext fun d=>?_)) (funext fun d=>?_))
    .unfold gal;refine ic ?_ ?_
     .unfold gl1;exact bc rfl (funext fun u=>bc rfl (funext fun y=>bc rfl (funext fun r=>by cases r with|none=>rfl|some k=>exact ic (ic rfl (ic rfl (by unfold gl2;exact bc rfl (funext fun y=>ic rfl (by unfold gl3;exact bc rfl (funext fun x=>bc rfl (funext fun r=>by cases r with|none=>rfl|some k1=>exact ic (ic rfl (by unfold gl4;exact bc rfl (funext fun x=>ic rfl (ic rfl rfl)))) (by unfold gl4;exact bc rfl (funext fun x=>ic rfl (ic rfl rfl)))))))))) (by unfold gl2;exact bc rfl (funext fun y=>ic rfl (by unfold gl3;exact bc rfl (funext fun x=>bc rfl (funext fun r=>by cases r with|none=>rfl|some k1=>exact ic (ic rfl (by unfold gl4;exact bc rfl (funext fun x=>ic rfl (ic rfl rfl)))) (by unfold gl4;exact bc rfl (funext fun x=>ic rfl (ic rfl rfl)))))))))))
     .unfold gl1;exact bc rfl (funext fun u=>bc rfl (funext fun y=>bc rfl (funext fun r=>by cases r with|none=>rfl|some k=>exact ic (ic rfl (ic rfl (by unfold gl2;exact bc rfl (funext fun y=>ic rfl (by unfold gl3;exact bc rfl (funext fun x=>bc rfl (funext fun r=>by cases r with|none=>rfl|some k1=>exact ic (ic rfl (by unfold gl4;exact bc rfl (funext fun x=>ic rfl (ic rfl rfl)))) (by unfold gl4;exact bc rfl (funext fun x=>ic rfl (ic rfl rfl)))))))))) (by unfold gl2;exact bc rfl (funext fun y=>ic rfl (by unfold gl3;exact bc rfl (funext fun x=>bc rfl (funext fun r=>by cases r with|none=>rfl|some k1=>exact ic (ic rfl (by unfold gl4;exact bc rfl (funext fun x=>ic rfl (ic rfl rfl)))) (by unfold gl4;exact bc rfl (funext fun x=>ic rfl (ic rfl rfl)))))))))))
    .obtain⟨r,d⟩:=d;cases r<;>rfl
 .obtain⟨r,c⟩:=c;cases r<;>rfl
def key(κ:PyProof.Rows.KeyKind)(p:Keyed):κ.α:=(κ.keyOf p.1).getD κ.dflt
def leK(κ:PyProof.Rows.KeyKind)(x y:Keyed):Prop:=κ.kle (key κ x) (key κ y)
theorem dz{κ:PyProof.Rows.KeyKind}{x y z:Keyed}(h:leK κ x y)(h':leK κ y z):leK κ x z:=KeyOrd.kle_trans h h'
structure SG(st Zq:SortSt):Prop where
 kind:kindOf Zq=kindOf st
 arr:arrOf Zq=arrOf st
 pend:pendingOf Zq=pendingOf st
 fail:failedOf Zq=failedOf st
theorem SG.refl(st:SortSt):SG st st:=⟨rfl,rfl,rfl,rfl⟩
structure Two(κ:PyProof.Rows.KeyKind)(a b:Array Keyed):Prop where
 ka:KeysOf κ a
 kb:KeysOf κ b
 sa:a.toList.Pairwise (leK κ)
 sb:b.toList.Pairwise (leK κ)
theorem item{κ:PyProof.Rows.KeyKind}{a:Array Keyed}(ka:KeysOf κ a){i:Nat}(hi:i<a.size):∃p,a[i]?=some p/\κ.keyOf p.1=some (key κ p)/\KK κ a i=key κ p/\a.toList.drop i=p::a.toList.drop (i+1):=by
 have e:a[i]?=some a[i]:=Array.getElem?_eq_getElem hi;obtain⟨k,hk⟩:=ka a[i] (Array.mem_toList_iff.mpr (Array.getElem_mem hi))
 have ek:key κ a[i]=k:=by
  unfold key;rw[hk];rfl
 refine⟨a[i],e,by rw[ek];exact hk,?_,?_⟩
 .unfold KK;rw[e,ek];dsimp only;rw[hk];rfl
 .have:=List.drop_eq_getElem_cons (l:=a.toList) (i:=i) (by simpa using hi);rw[this];simp
theorem jh{κ:PyProof.Rows.KeyKind}{l r:List Keyed}{p:Keyed}{i:Nat}(h:l.Pairwise (leK κ))(e:l.drop i=p::r):∀y∈l.drop i,leK κ p y:=by
 have hp:=h.sublist (List.drop_sublist i l);rw[e]at hp⊢;intro y hy;rcases zAo.mp hy with z|z
 .rw[z];exact KeyOrd.kle_refl _
 .exact(List.pairwise_cons.mp hp).1 y z
theorem gj(a:Array Keyed)(i j:Nat):(a.extract i j).toList=(a.toList.drop i).take (j-i):=by
 rw[Array.toList_extract]
theorem iy(a:Array Keyed)(i:Nat):(a.extract i a.size).toList=a.toList.drop i:=by
 rw[gj];refine List.take_of_length_le ?_;rw[List.length_drop,zA9];exact zA3 _
theorem ji{κ:PyProof.Rows.KeyKind}{a:Array Keyed}(ka:KeysOf κ a){i k:Nat}{x:Keyed}(h:x∈(a.toList.drop i).take k):∃j,j<k/\i+j<a.size/\KK κ a (i+j)=key κ x:=by
 obtain⟨j,hj,rfl⟩:=List.getElem_of_mem h;rw[zAd,List.length_drop,zA9]at hj;refine⟨j,Zz,Zz,?_⟩;obtain⟨p,e1,e2,e3,e4⟩:=item ka (i:=i+j) Zz;rw[e3,List.getElem_take,List.getElem_drop]
 have:a.toList[i+j]?=some p:=by
  rw[Array.getElem?_toList];exact e1
 rw[zA0 (by rw[zA9];lia)]at this;rw[zAl this]
theorem mF{κ:PyProof.Rows.KeyKind}{a:Array Keyed}(ka:KeysOf κ a){i:Nat}{x:Keyed}(h:x∈a.toList.drop i):∃j,i<=j/\j<a.size/\KK κ a j=key κ x:=by
 have h':x∈(a.toList.drop i).take (a.toList.drop i).length:=by rw[zAm];exact h
 obtain⟨j,_,h2,h3⟩:=ji ka h';exact⟨i+j,Zz,h2,h3⟩
theorem jj{κ:PyProof.Rows.KeyKind}{a:Array Keyed}(ka:KeysOf κ a)(sa:a.toList.Pairwise (leK κ)){i j:Nat}(bX:i<=j)(hj:j<a.size):κ.kle (KK κ a i) (KK κ a j):=by
 obtain⟨p,_,_,e3,e4⟩:=item ka (i:=i) Zz;obtain⟨q,_,_,f3,f4⟩:=item ka (i:=j) hj;rw[e3,f3];refine jh sa e4 q ?_;have:q∈a.toList.drop j:=by rw[f4];exact List.mem_cons_self
 exact gU bX this
section
variable{prog:Program}{w:World}{A:Around}{E:Value->Shared->Prop}{s:Shared}{κ:PyProof.Rows.KeyKind}{ks:SortKind}{a b:Array Keyed}
theorem iz{g:Nat}{Q:Unit->SortSt->Prop}{st:SortSt}(h:∀Zq,SG st Zq->Q () Zq):wpS (model prog w) A E s (jg g) Q st:=wpS_modify (h _ ⟨rfl,rfl,rfl,rfl⟩)
structure At(κ:PyProof.Rows.KeyKind)(a b out:Array Keyed)(ia ib:Nat):Prop where
 mi:MI (leK κ) a.toList b.toList out.toList ia ib
 ha:ia+1<a.size
 hb:ib<b.size
theorem At.pushA{out:Array Keyed}{ia ib:Nat}{x:Keyed}(T:Two κ a b)(m:MI (leK κ) a.toList b.toList out.toList ia ib)(e:a.toList.drop ia=x::a.toList.drop (ia+1))(h:∀y∈b.toList.drop ib,leK κ x y):
  MI (leK κ) a.toList b.toList (out.push x).toList (ia+1) ib:=by
 have:=m.segA (k:=1) T.sa fun z hz y hy=>by
  rw[e]at hz;have:z=x:=by simpa using hz
  rw[this];exact h y hy
 rw[e]at this;rw[Array.toList_push];exact this
theorem At.pushB{out:Array Keyed}{ia ib:Nat}{x:Keyed}(T:Two κ a b)(m:MI (leK κ) a.toList b.toList out.toList ia ib)(e:b.toList.drop ib=x::b.toList.drop (ib+1))(h:∀y∈a.toList.drop ia,leK κ x y):
  MI (leK κ) a.toList b.toList (out.push x).toList ia (ib+1):=by
 have:=m.segB (k:=1) T.sb fun z hz y hy=>by
  rw[e]at hz;have:z=x:=by simpa using hz
  rw[this];exact h y hy
 rw[e]at this;rw[Array.toList_push];exact this
theorem At.segA{out:Array Keyed}{ia ib k:Nat}(T:Two κ a b)(m:MI (leK κ) a.toList b.toList out.toList ia ib)(h:∀x∈(a.toList.drop ia).take k,∀y∈b.toList.drop ib,leK κ x y):MI (leK κ) a.toList b.toList (out++a.extract ia (ia+k)).toList (ia+k) ib:=by
 have:=m.segA (k:=k) T.sa h;rw[Array.toList_append,gj,show ia+k-ia=k by lia];exact this
theorem At.segB{out:Array Keyed}{ia ib k:Nat}(T:Two κ a b)(m:MI (leK κ) a.toList b.toList out.toList ia ib)(h:∀x∈(b.toList.drop ib).take k,∀y∈a.toList.drop ia,leK κ x y):MI (leK κ) a.toList b.toList (out++b.extract ib (ib+k)).toList ia (ib+k):=by
 have:=m.segB (k:=k) T.sb h;rw[Array.toList_append,gj,show ib+k-ib=k by lia];exact this
abbrev Rs(κ:PyProof.Rows.KeyKind)(a b:Array Keyed)(r:Array Keyed):Prop:=Done (leK κ) a.toList b.toList r.toList
def iK(κ:PyProof.Rows.KeyKind)(a b:Array Keyed):Prop:=∀y∈b.toList,∀x∈a.toList.drop (a.size-1),leK κ y x
theorem vG{out:Array Keyed}{ia ib:Nat}(T:Two κ a b)(m:MI (leK κ) a.toList b.toList out.toList ia ib)(h:ib=b.size):Rs κ a b (out++a.extract ia a.size++b.extract ib b.size):=by
 have:=m.endB T.sa (by rw[zA9];lia);unfold Rs;rw[Array.toList_append,Array.toList_append,iy,iy];exact this
theorem HW{out:Array Keyed}{ia ib:Nat}(T:Two κ a b)(m:MI (leK κ) a.toList b.toList out.toList ia ib)(h:ia=a.size):Rs κ a b (out++a.extract ia a.size++b.extract ib b.size):=by
 have:=m.endA T.sb (by rw[zA9];lia);unfold Rs;rw[Array.toList_append,Array.toList_append,iy,iy];exact this
theorem vH{out:Array Keyed}{ia ib:Nat}(T:Two κ a b)(L:iK κ a b)(m:MI (leK κ) a.toList b.toList out.toList ia ib)(h:ia+1=a.size):Rs κ a b (out++b.extract ib b.size++a.extract ia a.size):=by
 have:=m.last T.sa T.sb fun y hy x hx=>L y (List.mem_of_mem_drop hy) x (by rw[show a.size-1=ia by lia];exact hx);unfold Rs;rw[Array.toList_append,Array.toList_append,iy,iy];exact this
theorem uL(hL:LtAll prog w A E s κ ks)(T:Two κ a b)(L:iK κ a b){g ia ib ac bc:Nat}{out:Array Keyed}{st:SortSt}(hk:kindOf st=ks)(m:At κ a b out ia ib):
  wpS (model prog w) A E s (one a b g out ia ib ac bc) (fun r Zq=>Zq=st/\match r with
   |.done c=>(∃z,c.1=some z/\Rs κ a b z)\/(c.1=none/\At κ a b c.2.1 c.2.2.1 c.2.2.2.1/\ia+ib+1=c.2.2.1+c.2.2.2.1)
   |.yield c=>c.1=none/\At κ a b c.2.1 c.2.2.1 c.2.2.2.1/\ia+ib+1=c.2.2.1+c.2.2.2.1) st:=by
 obtain⟨x,x1,x2,x3,x4⟩:=item T.ka (i:=ia) (by have:=m.ha;lia);obtain⟨y,y1,y2,y3,y4⟩:=item T.kb m.hb;unfold one;refine wpS_bind (bh y1 (wpS_bind (bh x1 (wpS_bind (hL st hk _ _ _ _ _ y2 x2 ?_)))))
 cases e:κ.blt (key κ y) (key κ x)with
 |true=>
  dsimp only;rw[if_pos rfl];refine wpS_bind (bh y1 ?_);have m':=At.pushB T m.mi y4 fun z hz=>dz (KeyOrd.kle_of_klt e) (jh T.sa x4 z hz);by_cases hb:ib+1=b.size
  .rw[if_pos (by simpa using hb)];exact wpS_pure ⟨rfl,.inl ⟨_,rfl,vG T m' hb⟩⟩
  .rw[if_neg (by simpa using hb)]
   have at':At κ a b (out.push y) ia (ib+1):=⟨m',m.ha,by have:=m.hb;lia⟩
   split
   .exact wpS_pure ⟨rfl,.inr ⟨rfl,at',by dsimp only;lia⟩⟩
   .exact wpS_pure ⟨rfl,rfl,at',by dsimp only;lia⟩
 |false=>
  dsimp only;rw[if_neg Zx];refine wpS_bind (bh x1 ?_);have m':=At.pushA T m.mi x4 fun z hz=>dz (show leK κ x y from e) (jh T.sb y4 z hz);by_cases ha:ia+1+1=a.size
  .rw[if_pos (by simpa using ha)];exact wpS_pure ⟨rfl,.inl ⟨_,rfl,vH T L m' ha⟩⟩
  .rw[if_neg (by simpa using ha)]
   have at':At κ a b (out.push x) (ia+1) ib:=⟨m',by have:=m.ha;lia,m.hb⟩
   split
   .exact wpS_pure ⟨rfl,.inr ⟨rfl,at',by dsimp only;lia⟩⟩
   .exact wpS_pure ⟨rfl,rfl,at',by dsimp only;lia⟩
def G2(κ:PyProof.Rows.KeyKind)(a b:Array Keyed)(n:Nat)(st:SortSt)(r:ForInStep C2)(Zq:SortSt):Prop:=SG st Zq/\match r with
 |.done c=>(∃z,c.1=some z/\Rs κ a b z)\/(c.1=none/\At κ a b c.2.1 c.2.2.1 c.2.2.2.1/\n<=c.2.2.1+c.2.2.2.1)
 |.yield c=>c.1=none/\At κ a b c.2.1 c.2.2.1 c.2.2.2.1/\n<=c.2.2.1+c.2.2.2.1
theorem mG(T:Two κ a b)(L:iK κ a b){g ia ib k k1 n:Nat}{out:Array Keyed}{bg st:SortSt}(sg:SG bg st)(m:At κ a b out ia ib)(hn:n<=ia+ib+1)(h:∀y∈b.toList.drop ib,∀x,a[ia]?=some x->leK κ x y):
  wpS (model prog w) A E s (gl4 a b out ia ib g k k1) (G2 κ a b n bg) st:=by
 obtain⟨x,x1,x2,x3,x4⟩:=item T.ka (i:=ia) (by have:=m.ha;lia);unfold gl4;refine wpS_bind (bh x1 ?_);have m':=At.pushA T m.mi x4 fun z hz=>h z hz x x1;by_cases ha:ia+1+1=a.size
 .rw[if_pos (by simpa using ha)];exact wpS_pure ⟨sg,.inl ⟨_,rfl,vH T L m' ha⟩⟩
 .rw[if_neg (by simpa using ha)]
  have at':At κ a b (out.push x) (ia+1) ib:=⟨m',by have:=m.ha;lia,m.hb⟩
  split
  .exact wpS_pure ⟨sg,.inr ⟨rfl,at',by dsimp only;lia⟩⟩
  .exact wpS_pure ⟨sg,rfl,at',by dsimp only;lia⟩
theorem uM(hL:LtAll prog w A E s κ ks)(T:Two κ a b)(L:iK κ a b){g ia ib k bc n:Nat}{out:Array Keyed}{bg st:SortSt}(hk:kindOf st=ks)(sg:SG bg st)(m:At κ a b out ia ib)(hn:n<=ia+ib+1):
  wpS (model prog w) A E s (gl3 a b out ia ib g k bc) (G2 κ a b n bg) st:=by
 obtain⟨x,x1,x2,x3,x4⟩:=item T.ka (i:=ia) (by have:=m.ha;lia);have hb:=m.hb;unfold gl3;refine wpS_bind (bh x1 ?_);refine wpS_bind (dI (κ:=κ) (kk:=key κ x) (hL st hk) x2 Zz (fun i hi=>?_) (fun i j bX hj gS=>?_) fun k1 kn kt kf=>?_)
 .obtain⟨p,p1,p2,p3,_⟩:=item T.kb (i:=ib+i) Zz;exact⟨p,_,p1,p2,p3⟩
 .have mono:=jj T.kb T.sb (i:=ib+i) (j:=ib+j) Zz Zz;exact KeyOrd.klt_of_kle_of_klt mono gS
 .have fN:∀y∈b.toList.drop (ib+k1),∀z,a[ia]?=some z->leK κ z y:=fun y hy z hz=>by
   rw[x1]at hz;cases hz;obtain⟨j,j1,j2,j3⟩:=mF T.kb hy;have:=kf (j-ib) Zz Zz;rw[show ib+(j-ib)=j by lia,j3]at this;exact this
  by_cases h0:k1>0
  .dsimp only;rw[if_pos h0]
   have m':=At.segB (k:=k1) T m.mi fun z hz y hy=>by
    obtain⟨j,j1,j2,j3⟩:=ji T.kb hz;have:=kt j j1;rw[j3]at this;exact dz (KeyOrd.kle_of_klt this) (jh T.sa x4 y hy)
   by_cases e:ib+k1=b.size
   .rw[if_pos (by simpa using e)];exact wpS_pure ⟨sg,.inl ⟨_,rfl,vG T m' e⟩⟩
   .rw[if_neg (by simpa using e)];exact mG T L sg ⟨m',m.ha,Zz⟩ Zz fN
  .dsimp only;rw[if_neg h0];have e:k1=0:=Zz
   rw[e]at fN;exact mG T L sg m hn fN
theorem mH(hL:LtAll prog w A E s κ ks)(T:Two κ a b)(L:iK κ a b){g ia ib k bc n:Nat}{out:Array Keyed}{bg st:SortSt}(hk:kindOf st=ks)(sg:SG bg st)(m:At κ a b out ia ib)(hn:n<=ia+ib+1)(h:∀x∈a.toList.drop ia,∀y,b[ib]?=some y->leK κ y x):
  wpS (model prog w) A E s (gl2 a b out ia ib g k bc) (G2 κ a b n bg) st:=by
 obtain⟨y,y1,y2,y3,y4⟩:=item T.kb m.hb;unfold gl2;refine wpS_bind (bh y1 ?_);have m':=At.pushB T m.mi y4 fun z hz=>h z hz y y1;by_cases hb:ib+1=b.size
 .rw[if_pos (by simpa using hb)];exact wpS_pure ⟨sg,.inl ⟨_,rfl,vG T m' hb⟩⟩
 .rw[if_neg (by simpa using hb)];exact uM hL T L hk sg ⟨m',m.ha,by have:=m.hb;lia⟩ Zz
theorem uN(hL:LtAll prog w A E s κ ks)(T:Two κ a b)(L:iK κ a b){g ia ib ac bc n:Nat}{out:Array Keyed}{bg st:SortSt}(hk:kindOf st=ks)(sg:SG bg st)(m:At κ a b out ia ib)(hn:n<=ia+ib+1):
  wpS (model prog w) A E s (gl1 a b out ia ib g ac bc) (G2 κ a b n bg) st:=by
 obtain⟨y,y1,y2,y3,y4⟩:=item T.kb m.hb;have ha:=m.ha;unfold gl1;refine wpS_bind (iz fun Zq ff=>?_);have cv:kindOf Zq=ks:=ff.kind.trans hk
 have bq:SG bg Zq:=⟨ff.kind.trans sg.kind,ff.arr.trans sg.arr,ff.pend.trans sg.pend,ff.fail.trans sg.fail⟩
 refine wpS_bind (bh y1 ?_);refine wpS_bind (dI (κ:=κ) (kk:=key κ y) (hL Zq cv) y2 Zz (fun i hi=>?_) (fun i j bX hj gS=>?_) fun k kn kt kf=>?_)
 .obtain⟨p,p1,p2,p3,_⟩:=item T.ka (i:=ia+i) Zz;exact⟨p,_,p1,p2,p3⟩
 .have mono:=jj T.ka T.sa (i:=ia+i) (j:=ia+j) Zz Zz;have gS:(!κ.blt (key κ y) (KK κ a (ia+j)))=true:=gS;show(!κ.blt (key κ y) (KK κ a (ia+i)))=true;rw[Bool.not_eq_true']at gS⊢;exact KeyOrd.kle_trans mono gS
 .have fN:∀x∈a.toList.drop (ia+k),∀z,b[ib]?=some z->leK κ z x:=fun x hx z hz=>by
   rw[y1]at hz;cases hz;obtain⟨j,j1,j2,j3⟩:=mF T.ka hx;have:=kf (j-ia) Zz Zz;rw[show ia+(j-ia)=j by lia,j3]at this;have this:(!κ.blt (key κ y) (key κ x))=false:=this;rw[Bool.not_eq_false']at this;exact KeyOrd.kle_of_klt this
  by_cases h0:k>0
  .dsimp only;rw[if_pos h0]
   have m':=At.segA (k:=k) T m.mi fun z hz x hx=>by
    obtain⟨j,j1,j2,j3⟩:=ji T.ka hz;have:=kt j j1;rw[j3]at this;have this:(!κ.blt (key κ y) (key κ z))=true:=this;rw[Bool.not_eq_true']at this;exact dz (show leK κ z y from this) (jh T.sb y4 x hx)
   by_cases e:ia+k+1=a.size
   .rw[if_pos (by simpa using e)];exact wpS_pure ⟨bq,.inl ⟨_,rfl,vH T L m' e⟩⟩
   .rw[if_neg (by simpa using e)];by_cases e2:ia+k=a.size
    .rw[if_pos (by simpa using e2)];exact wpS_pure ⟨bq,.inl ⟨_,rfl,HW T m' e2⟩⟩
    .rw[if_neg (by simpa using e2)];exact mH hL T L cv bq ⟨m',Zz,m.hb⟩ Zz fN
  .dsimp only;rw[if_neg h0];have e:k=0:=Zz
   rw[e]at fN;exact mH hL T L cv bq m hn fN
theorem mJ(hL:LtAll prog w A E s κ ks)(T:Two κ a b)(L:iK κ a b){g ia ib:Nat}{out:Array Keyed}{bg st:SortSt}(hk:kindOf st=ks)(sg:SG bg st)(m:At κ a b out ia ib):
  wpS (model prog w) A E s (round a b out ia ib g) (fun r Zq=>SG bg Zq/\match r with
   |.done c=>∃z,c.1=some z/\Rs κ a b z
   |.yield c=>c.1=none/\At κ a b c.2.1 c.2.2.1 c.2.2.2.1/\ia+ib+1<=c.2.2.1+c.2.2.2.1) st:=by
 unfold round;have HU:0<a.size+b.size:=by have:=m.ha;lia
 refine wpS_bind (wpS_mono (wpS_forRange (I:=fun x c Zq=>Zq=st/\c.1=none/\At κ a b c.2.1 c.2.2.1 c.2.2.2.1/\ia+ib+x=c.2.2.1+c.2.2.2.1)
  (Q:=fun c Zq=>Zq=st/\((∃z,c.1=some z/\Rs κ a b z)\/(c.1=none/\At κ a b c.2.1 c.2.2.1 c.2.2.2.1/\ia+ib+1<=c.2.2.1+c.2.2.2.1))) ?_ ?_ ⟨rfl,rfl,m,rfl⟩) ?_)
 .rintro x ⟨c0,o,i,j,ac,bc⟩ Zq _ hx ⟨rfl,rfl,m',e⟩;dsimp only at m' e⊢;refine wpS_mono (uL hL T L hk m') fun r st2 h2=>?_;obtain⟨rfl,h2⟩:=h2
  cases r with
  |done c=>
   rcases h2 with h2|⟨h2,h3,h4⟩
   .exact⟨rfl,.inl h2⟩
   .exact⟨rfl,.inr ⟨h2,h3,Zz⟩⟩
  |yield c=>
   obtain⟨h2,h3,h4⟩:=h2;exact⟨rfl,h2,h3,Zz⟩
 .rintro c Zq ⟨rfl,h1,h2,h3⟩;exact⟨rfl,.inr ⟨h1,h2,Zz⟩⟩
 .rintro⟨c0,o,i,j,ac,bc⟩ Zq ⟨rfl,h⟩;dsimp only at h⊢;rcases h with⟨z,rfl,hz⟩|⟨rfl,m',bX⟩
  .exact wpS_pure ⟨sg,z,rfl,hz⟩
  .dsimp only;refine wpS_bind (wpS_lift (wpAny_rule ⟨rfl,?_⟩))
   refine wpS_bind (wpS_mono (wpS_forRange (I:=fun x c st2=>SG bg st2/\c.1=none/\At κ a b c.2.1 c.2.2.1 c.2.2.2.1/\ia+ib+1<=c.2.2.1+c.2.2.2.1)
    (Q:=fun c st2=>SG bg st2/\((∃z,c.1=some z/\Rs κ a b z)\/(c.1=none/\At κ a b c.2.1 c.2.2.1 c.2.2.2.1/\ia+ib+1<=c.2.2.1+c.2.2.2.1))) ?_ ?_ ⟨sg,rfl,m',bX⟩) ?_)
   .rintro x ⟨c0,o,i,j,g2,ac,bc⟩ st2 _ hx ⟨bq,rfl,m2,e2⟩;dsimp only at m2 e2⊢;have ve:kindOf st2=ks:=bq.kind.trans (sg.kind.symm.trans hk);have go:∀g',wpS (model prog w) A E s (gl1 a b o i j g' ac bc) (G2 κ a b (ia+ib+1) bg) st2:=fun g'=>uN hL T L ve bq m2 Zz;unfold gal;split
    .refine wpS_mono (go _) fun r gi h3=>?_;obtain⟨h3,h4⟩:=h3
     cases r with
     |done c=>exact⟨h3,h4⟩
     |yield c=>exact⟨h3,h4⟩
    .refine wpS_mono (go _) fun r gi h3=>?_;obtain⟨h3,h4⟩:=h3
     cases r with
     |done c=>exact⟨h3,h4⟩
     |yield c=>exact⟨h3,h4⟩
   .rintro c st2 ⟨h0,h1,h2,h3⟩;exact⟨h0,.inr ⟨h1,h2,h3⟩⟩
   .rintro⟨c0,o,i,j,g2,ac,bc⟩ st2 ⟨bq,h⟩;dsimp only at h⊢;rcases h with⟨z,rfl,hz⟩|⟨rfl,m2,pe⟩
    .exact wpS_pure ⟨bq,z,rfl,hz⟩
    .dsimp only;refine wpS_bind (iz fun gi kR=>wpS_pure ⟨⟨kR.kind.trans bq.kind,kR.arr.trans bq.arr,kR.pend.trans bq.pend,kR.fail.trans bq.fail⟩,rfl,m2,pe⟩)
theorem HX(hL:LtAll prog w A E s κ ks)(T:Two κ a b)(L:iK κ a b)(ha:0<a.size)(hb:0<b.size)(F:∀x∈a.toList,∀y,b[0]?=some y->leK κ y x){st:SortSt}(hk:kindOf st=ks){Q:Array Keyed->SortSt->Prop}
  (h:∀r Zq,SG st Zq->Rs κ a b r->Q r Zq):wpS (model prog w) A E s (jf a b) Q st:=by
 rw[HS];obtain⟨y,y1,y2,y3,y4⟩:=item T.kb hb;refine wpS_bind (wpS_lift (wpAny_rule ⟨rfl,?_⟩));refine wpS_bind (bh y1 ?_)
 have m0:MI (leK κ) a.toList b.toList ([]:List Keyed) 0 0:=⟨by simp,.nil,fun x hx=>absurd hx Zy⟩
 have m:MI (leK κ) a.toList b.toList (#[y]:Array Keyed).toList 0 1:=by
  have:=At.pushB (out:=#[]) T m0 y4 fun z hz=>F z hz y y1;exact this
 by_cases e1:1=b.size
 .rw[if_pos (by simpa using e1)];exact wpS_pure (h _ st (SG.refl _) (vG T m e1))
 .rw[if_neg (by simpa using e1)];by_cases e2:0+1=a.size
  .rw[if_pos (by simpa using e2)];exact wpS_pure (h _ st (SG.refl _) (vH T L m e2))
  .rw[if_neg (by simpa using e2)];refine wpS_bind (wpS_get ?_)
   refine wpS_bind (wpS_mono (wpS_forRange (I:=fun x c Zq=>SG st Zq/\c.1=none/\At κ a b c.2.1 c.2.2.1 c.2.2.2.1/\1+x<=c.2.2.1+c.2.2.2.1)
    (Q:=fun c Zq=>SG st Zq/\∃z,c.1=some z/\Rs κ a b z) ?_ ?_ ⟨SG.refl _,rfl,⟨m,by dsimp only;lia,by dsimp only;lia⟩,by dsimp only;lia⟩) ?_)
   .rintro x ⟨c0,o,i,j,g⟩ Zq _ hx ⟨sg,rfl,m',e⟩;dsimp only at m' e⊢;refine wpS_mono (mJ hL T L (sg.kind.trans hk) sg m') fun r st2 h2=>?_;obtain⟨bq,h2⟩:=h2
    cases r with
    |done c=>exact⟨bq,h2⟩
    |yield c=>
     obtain⟨h2,h3,h4⟩:=h2;exact⟨bq,h2,h3,Zz⟩
   .rintro c Zq ⟨sg,h1,m',e⟩;have:=m'.ha;have:=m'.hb;exact absurd e Zz
   .rintro⟨c0,o,i,j,g⟩ Zq ⟨sg,z,e,hz⟩;dsimp only at e;rw[e];exact wpS_pure (h z Zq sg hz)
end
def jk:Array Keyed->Array Keyed->Sm (Array Keyed):=sortPriv% PySem.Builtin.mergeHi
namespace Hi
abbrev dn(a b out:Array Keyed)(na nb:Nat):Array Keyed:=a.extract 0 na++b.extract 0 nb++out.reverse
abbrev fb(a b out:Array Keyed)(na nb:Nat):Array Keyed:=b.extract 0 nb++a.extract 0 na++out.reverse
abbrev H1:=Option (Array Keyed)×Nat×Nat×Array Keyed×Nat×Nat
abbrev H2:=Option (Array Keyed)×Nat×Nat×Array Keyed×Nat×Nat×Nat
abbrev H0:=Option (Array Keyed)×Nat×Nat×Array Keyed×Nat
def one(a b:Array Keyed)(g:Nat)(na nb:Nat)(out:Array Keyed)(ac bc:Nat):Sm (ForInStep H1):=do
 let y <-elem' b (nb-1)
 let x <-elem' a (na-1)
 let r <-lt' y x
 match r with
 |some w=>
  if w=true then do
   let x <-elem' a (na-1)
   if(na-1==0)=true then pure (ForInStep.done (some (dn a b (out.push x) (na-1) nb),na-1,nb,out.push x,ac+1,0))
   else if ac+1≥g then pure (ForInStep.done (none,na-1,nb,out.push x,ac+1,0))else pure (ForInStep.yield (none,na-1,nb,out.push x,ac+1,0))
  else do
   let y <-elem' b (nb-1)
   if(nb-1==1)=true then pure (ForInStep.done (some (fb a b (out.push y) na (nb-1)),na,nb-1,out.push y,0,bc+1))
   else if bc+1≥g then pure (ForInStep.done (none,na,nb-1,out.push y,0,bc+1))else pure (ForInStep.yield (none,na,nb-1,out.push y,0,bc+1))
 |_=>pure (ForInStep.done (some (dn a b out na nb),na,nb,out,ac,bc))
def gl4(a b:Array Keyed)(na nb:Nat)(out:Array Keyed)(g k k1:Nat):Sm (ForInStep H2):=do
 let x <-elem' a (na-1)
 if(na-1==0)=true then pure (ForInStep.done (some (dn a b (out.push x) (na-1) nb),na-1,nb,out.push x,g,k,k1))
 else if(decide (k<7)&&decide (k1<7))=true then pure (ForInStep.done (none,na-1,nb,out.push x,g,k,k1))else pure (ForInStep.yield (none,na-1,nb,out.push x,g,k,k1))
def gl3(a b:Array Keyed)(na nb:Nat)(out:Array Keyed)(g k bc:Nat):Sm (ForInStep H2):=do
 let x <-elem' a (na-1)
 let r <-fP true x b 0 nb (nb-1)
 match r with
 |some t=>
  if nb-t>0 then
   if(t==1)=true then pure (ForInStep.done (some (fb a b (out++(b.extract t nb).reverse) na t),na,t,out++(b.extract t nb).reverse,g,k,nb-t))
   else if(t==0)=true then pure (ForInStep.done (some (dn a b (out++(b.extract t nb).reverse) na t),na,t,out++(b.extract t nb).reverse,g,k,nb-t))
   else gl4 a b na t (out++(b.extract t nb).reverse) g k (nb-t)
  else gl4 a b na nb out g k (nb-t)
 |_=>pure (ForInStep.done (some (dn a b out na nb),na,nb,out,g,k,bc))
def gl2(a b:Array Keyed)(na nb:Nat)(out:Array Keyed)(g k bc:Nat):Sm (ForInStep H2):=do
 let y <-elem' b (nb-1)
 if(nb-1==1)=true then pure (ForInStep.done (some (fb a b (out.push y) na (nb-1)),na,nb-1,out.push y,g,k,bc))
 else gl3 a b na (nb-1) (out.push y) g k bc
def gl1(a b:Array Keyed)(na nb:Nat)(out:Array Keyed)(g ac bc:Nat):Sm (ForInStep H2):=do
 jg g
 let y <-elem' b (nb-1)
 let r <-fP false y a 0 na (na-1)
 match r with
 |some t=>
  if na-t>0 then
   if(t==0)=true then pure (ForInStep.done (some (dn a b (out++(a.extract t na).reverse) t nb),t,nb,out++(a.extract t na).reverse,g,na-t,bc))
   else gl2 a b t nb (out++(a.extract t na).reverse) g (na-t) bc
  else gl2 a b na nb out g (na-t) bc
 |_=>pure (ForInStep.done (some (dn a b out na nb),na,nb,out,g,ac,bc))
def gal(a b:Array Keyed)(na nb:Nat)(out:Array Keyed)(g ac bc:Nat):Sm (ForInStep H2):=if g>1 then gl1 a b na nb out (g-1) ac bc else gl1 a b na nb out g ac bc
def round(a b:Array Keyed)(na nb:Nat)(out:Array Keyed)(g:Nat):Sm (ForInStep H0):=do
 let c <-forIn [0:a.size+b.size] ((none,na,nb,out,0,0):H1) fun _ c=>one a b g c.2.1 c.2.2.1 c.2.2.2.1 c.2.2.2.2.1 c.2.2.2.2.2
 match c.1 with
 |some r=>pure (ForInStep.done (some r,c.2.1,c.2.2.1,c.2.2.2.1,g))
 |none=>do
  liftM (rule "list.sort.gallop")
  let d <-forIn [0:a.size+b.size] ((none,c.2.1,c.2.2.1,c.2.2.2.1,g+1,c.2.2.2.2.1,c.2.2.2.2.2):H2) fun _ d=>gal a b d.2.1 d.2.2.1 d.2.2.2.1 d.2.2.2.2.1 d.2.2.2.2.2.1 d.2.2.2.2.2.2
  match d.1 with
  |some r=>pure (ForInStep.done (some r,d.2.1,d.2.2.1,d.2.2.2.1,d.2.2.2.2.1))
  |none=>do
   jg (d.2.2.2.2.1+1)
   pure (ForInStep.yield (none,d.2.1,d.2.2.1,d.2.2.2.1,d.2.2.2.2.1+1))
theorem HY(a b:Array Keyed):jk a b=(do
  liftM (rule "list.sort.merge-hi")
  let e <-elem' a (a.size-1)
  if(a.size-1==0)=true then pure (dn a b #[e] (a.size-1) b.size)
  else if(b.size==1)=true then pure (fb a b #[e] (a.size-1) b.size)
  else do
   let s <-get
   let c <-forIn [0:a.size+b.size] ((none,a.size-1,b.size,#[e],gallopOf s):H0) fun _ c=>round a b c.2.1 c.2.2.1 c.2.2.2.1 c.2.2.2.2
   match c.1 with
   |some r=>pure r
   |none=>liftM (unsupported "internal:list.sort.merge-bound")):=by
 delta jk
 refine bc rfl (funext fun u=>bc rfl (funext fun e=>ic rfl (ic rfl (bc rfl (funext fun s=>bc (fi (funext fun x=>funext fun c=>?_)) (funext fun c=>?_))))))
 .unfold round;refine bc (fi (funext fun x=>funext fun c1=>?_)) (funext fun c1=>?_)
  .unfold one;refine bc rfl (funext fun y=>bc rfl (funext fun x=>bc rfl (funext fun r=>?_)))
   cases r with
   |none=>rfl
   |some w=>exact ic (bc rfl (funext fun y=>ic rfl (ic rfl rfl))) (bc rfl (funext fun y=>ic rfl (ic rfl rfl)))
  .obtain⟨r,c1⟩:=c1
   cases r with
   |some r=>rfl
   |none=>
    refine bc rfl (funext fun u=>bc (fi (funext fun x=>funext fun d=>?_)) (funext fun d=>?_))
    .unfold gal;refine ic ?_ ?_
     .unfold gl1;exact bc rfl (funext fun u=>bc rfl (funext fun y=>bc rfl (funext fun r=>by cases r with|none=>rfl|some k=>exact ic (ic rfl (by unfold gl2;exact bc rfl (funext fun y=>ic rfl (by unfold gl3;exact bc rfl (funext fun x=>bc rfl (funext fun r=>by cases r with|none=>rfl|some k1=>exact ic (ic rfl (ic rfl (by unfold gl4;exact bc rfl (funext fun x=>ic rfl (ic rfl rfl))))) (by unfold gl4;exact bc rfl (funext fun x=>ic rfl (ic rfl rfl))))))))) (by unfold gl2;exact bc rfl (funext fun y=>ic rfl (by unfold gl3;exact bc rfl (funext fun x=>bc rfl (funext fun r=>by cases r with|none=>rfl|some k1=>exact ic (ic rfl (ic rfl (by unfold gl4;exact bc rfl (funext fun x=>ic rfl (ic rfl rfl))))) (by unfold gl4;exact bc rfl (funext fun x=>ic rfl (ic rfl rfl)))))))))))
     .unfold gl1;exact bc rfl (funext fun u=>bc rfl (funext fun y=>bc rfl (funext fun r=>by cases r with|none=>rfl|some k=>exact ic (ic rfl (by unfold gl2;exact bc rfl (funext fun y=>ic rfl (by unfold gl3;exact bc rfl (funext fun x=>bc rfl (funext fun r=>by cases r with|none=>rfl|some k1=>exact ic (ic rfl (ic rfl (by unfold gl4;exact bc rfl (funext fun x=>ic rfl (ic rfl rfl))))) (by unfold gl4;exact bc rfl (funext fun x=>ic rfl (ic rfl rfl))))))))) (by unfold gl2;exact bc rfl (funext fun y=>ic rfl (by unfold gl3;exact bc rfl (funext fun x=>bc rfl (funext fun r=>by cases r with|none=>rfl|some k1=>exact ic (ic rfl (ic rfl (by unfold gl4;exact bc rfl (funext fun x=>ic rfl (ic rfl rfl))))) (by unfold gl4;exact bc rfl (funext fun x=>ic rfl (ic rfl rfl)))))))))))
    .obtain⟨r,d⟩:=d;cases r<;>rfl
 .obtain⟨r,c⟩:=c;cases r<;>rfl
section
variable{α:Type}{le:α->α->Prop}
structure MH(le:α->α->Prop)(la lb lo:List α)(na nb:Nat):Prop where
 pm:lo.Perm (la.drop na++lb.drop nb)
 sr:lo.Pairwise le
 be:∀x∈lo,∀y,y∈la.take na\/y∈lb.take nb->le y x
theorem vI{l:List α}{i j:Nat}{y:α}(h:i<=j)(hy:y∈l.take i):y∈l.take j:=by
 rw[show i=min i j by lia,<-List.take_take]at hy;exact List.mem_of_mem_take hy
theorem cut_drop{l:List α}{t n:Nat}(h:t<=n)(hn:n<=l.length):(l.take n).drop t++l.drop n=l.drop t:=by
 have e:=zB8 n l;have:(l.take n++l.drop n).drop t=(l.take n).drop t++l.drop n:=List.drop_append_of_le_length (by rw[zAd];lia);rw[e]at this;exact this.symm
theorem zj{l:List α}(hp:l.Pairwise le){t n:Nat}(h:t<=n):∀y∈l.take t,∀x∈(l.take n).drop t,le y x:=by
 have h2:(l.take n).Pairwise le:=hp.sublist (List.take_sublist _ _);have e:=zB8 t (l.take n);rw[<-e]at h2;rw[List.take_take,show min t n=t by lia]at h2;exact fun y hy x hx=>(List.pairwise_append.mp h2).2.2 y hy x hx
theorem MH.segA{la lb lo:List α}{na nb t:Nat}(m:MH le la lb lo na nb)(sa:la.Pairwise le)(ht:t<=na)(hn:na<=la.length)(h:∀x∈(la.take na).drop t,∀y∈lb.take nb,le y x):MH le la lb ((la.take na).drop t++lo) t nb:=by
 refine⟨?_,List.pairwise_append.mpr ⟨(sa.sublist (List.take_sublist _ _)).sublist (List.drop_sublist _ _),m.sr,fun x hx y hy=>m.be y hy x (.inl (List.mem_of_mem_drop hx))⟩,fun x hx y hy=>?_⟩
 .refine(List.Perm.append_left _ m.pm).trans ?_;rw[<-zAf,cut_drop ht hn]
 .rcases zA6.mp hx with z|z
  .rcases hy with hy|hy
   .exact zj sa ht y hy x z
   .exact h x z y hy
  .exact m.be x z y (hy.imp (vI ht) id)
theorem MH.segB{la lb lo:List α}{na nb t:Nat}(m:MH le la lb lo na nb)(sb:lb.Pairwise le)(ht:t<=nb)(hn:nb<=lb.length)(h:∀x∈(lb.take nb).drop t,∀y∈la.take na,le y x):MH le la lb ((lb.take nb).drop t++lo) na t:=by
 refine⟨?_,List.pairwise_append.mpr ⟨(sb.sublist (List.take_sublist _ _)).sublist (List.drop_sublist _ _),m.sr,fun x hx y hy=>m.be y hy x (.inr (List.mem_of_mem_drop hx))⟩,fun x hx y hy=>?_⟩
 .refine(List.Perm.append_left _ m.pm).trans ?_;refine(List.perm_append_comm_assoc _ _ _).trans ?_;rw[cut_drop ht hn]
 .rcases zA6.mp hx with z|z
  .rcases hy with hy|hy
   .exact h x z y hy
   .exact zj sb ht y hy x z
  .exact m.be x z y (hy.imp id (vI ht))
theorem MH.first{la lb lo:List α}{na nb:Nat}(m:MH le la lb lo na nb)(sa:la.Pairwise le)(sb:lb.Pairwise le)(h:∀y∈lb.take nb,∀x∈la.take na,le y x):Done le la lb (lb.take nb++la.take na++lo):=by
 refine⟨?_,List.pairwise_append.mpr ⟨List.pairwise_append.mpr ⟨sb.sublist (List.take_sublist _ _),sa.sublist (List.take_sublist _ _),h⟩,m.sr,fun x hx y hy=>m.be y hy x ((zA6.mp hx).symm)⟩⟩;refine(List.Perm.append_left _ m.pm).trans ?_
 have e:lb.take nb++la.take na++(la.drop na++lb.drop nb)=lb.take nb++(la++lb.drop nb):=by
  rw[zAf,<-zAf (la.take na),zB8]
 rw[e];refine(List.perm_append_comm_assoc _ _ _).trans ?_;rw[zB8]
theorem MH.endA{la lb lo:List α}{nb:Nat}(m:MH le la lb lo 0 nb)(sa:la.Pairwise le)(sb:lb.Pairwise le):Done le la lb (la.take 0++lb.take nb++lo):=by
 have:=m.first sa sb fun y _ x hx=>absurd hx Zy
 rw[List.take_zero,zAn]at this;rw[List.take_zero,List.nil_append];exact this
theorem MH.endB{la lb lo:List α}{na:Nat}(m:MH le la lb lo na 0)(sa:la.Pairwise le)(sb:lb.Pairwise le):Done le la lb (la.take na++lb.take 0++lo):=by
 have:=m.first sa sb fun y hy x _=>absurd hy Zy
 rw[List.take_zero,List.nil_append]at this;rw[List.take_zero,zAn];exact this
end
section
variable{prog:Program}{w:World}{A:Around}{E:Value->Shared->Prop}{s:Shared}{κ:PyProof.Rows.KeyKind}{ks:SortKind}{a b:Array Keyed}
theorem xO(a:Array Keyed)(n:Nat):(a.extract 0 n).toList=a.toList.take n:=by
 rw[gj];simp
theorem ext_cut(a:Array Keyed)(t n:Nat):(a.extract t n).toList=(a.toList.take n).drop t:=by
 rw[gj,List.drop_take]
theorem sS(out:Array Keyed)(x:Keyed):(out.push x).reverse.toList=x::out.reverse.toList:=by simp
theorem vJ(out seg:Array Keyed):(out++seg.reverse).reverse.toList=seg.toList++out.reverse.toList:=by simp
abbrev Mh(κ:PyProof.Rows.KeyKind)(a b out:Array Keyed)(na nb:Nat):Prop:=MH (leK κ) a.toList b.toList out.reverse.toList na nb
structure At(κ:PyProof.Rows.KeyKind)(a b out:Array Keyed)(na nb:Nat):Prop where
 mi:Mh κ a b out na nb
 a1:1<=na
 a2:na<=a.size
 b1:2<=nb
 b2:nb<=b.size
theorem gF{κ:PyProof.Rows.KeyKind}{a:Array Keyed}(ka:KeysOf κ a){n:Nat}(h1:1<=n)(h2:n<=a.size):∃p,a[n-1]?=some p/\κ.keyOf p.1=some (key κ p)/\KK κ a (n-1)=key κ p/\(a.toList.take n).drop (n-1)=[p]:=by
 obtain⟨p,p1,p2,p3,p4⟩:=item ka (i:=n-1) Zz;refine⟨p,p1,p2,p3,?_⟩;rw[List.drop_take,p4,show n-(n-1)=1 by lia];rfl
theorem take_key{κ:PyProof.Rows.KeyKind}{a:Array Keyed}(ka:KeysOf κ a){n t:Nat}{x:Keyed}(h:x∈(a.toList.take n).drop t):∃j,t<=j/\j<n/\j<a.size/\KK κ a j=key κ x:=by
 rw[List.drop_take]at h;obtain⟨j,j1,j2,j3⟩:=ji ka h;exact⟨t+j,Zz,Zz,j2,j3⟩
theorem take_key0{κ:PyProof.Rows.KeyKind}{a:Array Keyed}(ka:KeysOf κ a){n:Nat}{x:Keyed}(h:x∈a.toList.take n):∃j,j<n/\j<a.size/\KK κ a j=key κ x:=by
 have h':x∈(a.toList.take n).drop 0:=by rw[List.drop_zero];exact h
 obtain⟨j,_,j1,j2,j3⟩:=take_key ka h';exact⟨j,j1,j2,j3⟩
theorem vK{κ:PyProof.Rows.KeyKind}{a:Array Keyed}(ka:KeysOf κ a)(sa:a.toList.Pairwise (leK κ)){n:Nat}{p:Keyed}(h1:1<=n)(h2:n<=a.size)(e:KK κ a (n-1)=key κ p):∀y∈a.toList.take n,leK κ y p:=fun y hy=>by
 obtain⟨j,j1,j2,j3⟩:=take_key0 ka hy;have:=jj ka sa (i:=j) (j:=n-1) Zz Zz;rw[j3,e]at this;exact this
theorem pushA{out:Array Keyed}{na nb:Nat}{x:Keyed}(T:Two κ a b)(m:Mh κ a b out na nb)(h1:1<=na)(h2:na<=a.size)(e:(a.toList.take na).drop (na-1)=[x])(h:∀y∈b.toList.take nb,leK κ y x):Mh κ a b (out.push x) (na-1) nb:=by
 have:=MH.segA (t:=na-1) m T.sa Zz (by rw[zA9];exact h2) fun z hz y hy=>by
  rw[e]at hz;rw[List.mem_singleton.mp hz];exact h y hy
 rw[e]at this;unfold Mh;rw[sS];exact this
theorem pushB{out:Array Keyed}{na nb:Nat}{x:Keyed}(T:Two κ a b)(m:Mh κ a b out na nb)(h1:1<=nb)(h2:nb<=b.size)(e:(b.toList.take nb).drop (nb-1)=[x])(h:∀y∈a.toList.take na,leK κ y x):Mh κ a b (out.push x) na (nb-1):=by
 have:=MH.segB (t:=nb-1) m T.sb Zz (by rw[zA9];exact h2) fun z hz y hy=>by
  rw[e]at hz;rw[List.mem_singleton.mp hz];exact h y hy
 rw[e]at this;unfold Mh;rw[sS];exact this
theorem Ia{out:Array Keyed}{na nb t:Nat}(T:Two κ a b)(m:Mh κ a b out na nb)(ht:t<=na)(h2:na<=a.size)(h:∀x∈(a.toList.take na).drop t,∀y∈b.toList.take nb,leK κ y x):Mh κ a b (out++(a.extract t na).reverse) t nb:=by
 have:=MH.segA m T.sa ht (by rw[zA9];exact h2) h;unfold Mh;rw[vJ,ext_cut];exact this
theorem Ib{out:Array Keyed}{na nb t:Nat}(T:Two κ a b)(m:Mh κ a b out na nb)(ht:t<=nb)(h2:nb<=b.size)(h:∀x∈(b.toList.take nb).drop t,∀y∈a.toList.take na,leK κ y x):Mh κ a b (out++(b.extract t nb).reverse) na t:=by
 have:=MH.segB m T.sb ht (by rw[zA9];exact h2) h;unfold Mh;rw[vJ,ext_cut];exact this
def FirstB(κ:PyProof.Rows.KeyKind)(a b:Array Keyed):Prop:=∀y∈b.toList.take 1,∀x∈a.toList,leK κ y x
theorem e_a{out:Array Keyed}{na nb:Nat}(T:Two κ a b)(m:Mh κ a b out na nb)(h:na=0):Rs κ a b (dn a b out na nb):=by
 subst h;have:=MH.endA m T.sa T.sb;unfold Rs dn;rw[Array.toList_append,Array.toList_append,xO,xO];exact this
theorem e_b{out:Array Keyed}{na nb:Nat}(T:Two κ a b)(m:Mh κ a b out na nb)(h:nb=0):Rs κ a b (dn a b out na nb):=by
 subst h;have:=MH.endB m T.sa T.sb;unfold Rs dn;rw[Array.toList_append,Array.toList_append,xO,xO];exact this
theorem e_f{out:Array Keyed}{na nb:Nat}(T:Two κ a b)(F:FirstB κ a b)(m:Mh κ a b out na nb)(h:nb=1):Rs κ a b (fb a b out na nb):=by
 subst h
 have:=MH.first m T.sa T.sb fun y hy x hx=>F y hy x (List.mem_of_mem_take hx)
 unfold Rs fb;rw[Array.toList_append,Array.toList_append,xO,xO];exact this
theorem uL(hL:LtAll prog w A E s κ ks)(T:Two κ a b)(F:FirstB κ a b){g na nb ac bc:Nat}{out:Array Keyed}{st:SortSt}(hk:kindOf st=ks)(m:At κ a b out na nb):
  wpS (model prog w) A E s (one a b g na nb out ac bc) (fun r Zq=>Zq=st/\match r with
   |.done c=>(∃z,c.1=some z/\Rs κ a b z)\/(c.1=none/\At κ a b c.2.2.2.1 c.2.1 c.2.2.1/\c.2.1+c.2.2.1+1=na+nb)
   |.yield c=>c.1=none/\At κ a b c.2.2.2.1 c.2.1 c.2.2.1/\c.2.1+c.2.2.1+1=na+nb) st:=by
 obtain⟨mi,a1,a2,b1,b2⟩:=m;obtain⟨x,x1,x2,x3,x4⟩:=gF T.ka a1 a2;obtain⟨y,y1,y2,y3,y4⟩:=gF T.kb (show 1<=nb by lia) b2;unfold one;refine wpS_bind (bh y1 (wpS_bind (bh x1 (wpS_bind (hL st hk _ _ _ _ _ y2 x2 ?_)))))
 cases e:κ.blt (key κ y) (key κ x)with
 |true=>
  dsimp only;rw[if_pos rfl];refine wpS_bind (bh x1 ?_);have m':=pushA T mi a1 a2 x4 fun z hz=>dz (vK T.kb T.sb Zz b2 y3 z hz) (KeyOrd.kle_of_klt e);by_cases h0:na-1=0
  .rw[if_pos (by simpa using h0)];exact wpS_pure ⟨rfl,.inl ⟨_,rfl,e_a T m' h0⟩⟩
  .rw[if_neg (by simpa using h0)]
   have at':At κ a b (out.push x) (na-1) nb:=⟨m',Zz,Zz,b1,b2⟩
   split
   .exact wpS_pure ⟨rfl,.inr ⟨rfl,at',by dsimp only;lia⟩⟩
   .exact wpS_pure ⟨rfl,rfl,at',by dsimp only;lia⟩
 |false=>
  dsimp only;rw[if_neg Zx];refine wpS_bind (bh y1 ?_);have m':=pushB T mi Zz b2 y4 fun z hz=>dz (vK T.ka T.sa a1 a2 x3 z hz) (show leK κ x y from e);by_cases h0:nb-1=1
  .rw[if_pos (by simpa using h0)];exact wpS_pure ⟨rfl,.inl ⟨_,rfl,e_f T F m' h0⟩⟩
  .rw[if_neg (by simpa using h0)]
   have at':At κ a b (out.push y) na (nb-1):=⟨m',a1,a2,Zz,Zz⟩
   split
   .exact wpS_pure ⟨rfl,.inr ⟨rfl,at',by dsimp only;lia⟩⟩
   .exact wpS_pure ⟨rfl,rfl,at',by dsimp only;lia⟩
def G2(κ:PyProof.Rows.KeyKind)(a b:Array Keyed)(n:Nat)(st:SortSt)(r:ForInStep H2)(Zq:SortSt):Prop:=SG st Zq/\match r with
 |.done c=>(∃z,c.1=some z/\Rs κ a b z)\/(c.1=none/\At κ a b c.2.2.2.1 c.2.1 c.2.2.1/\c.2.1+c.2.2.1<n)
 |.yield c=>c.1=none/\At κ a b c.2.2.2.1 c.2.1 c.2.2.1/\c.2.1+c.2.2.1<n
theorem mG(T:Two κ a b){g na nb k k1 n:Nat}{out:Array Keyed}{bg st:SortSt}(sg:SG bg st)(m:At κ a b out na nb)(hn:na+nb<=n)(h:∀y∈b.toList.take nb,∀x,a[na-1]?=some x->leK κ y x):
  wpS (model prog w) A E s (gl4 a b na nb out g k k1) (G2 κ a b n bg) st:=by
 obtain⟨mi,a1,a2,b1,b2⟩:=m;obtain⟨x,x1,x2,x3,x4⟩:=gF T.ka a1 a2;unfold gl4;refine wpS_bind (bh x1 ?_);have m':=pushA T mi a1 a2 x4 fun z hz=>h z hz x x1;by_cases h0:na-1=0
 .rw[if_pos (by simpa using h0)];exact wpS_pure ⟨sg,.inl ⟨_,rfl,e_a T m' h0⟩⟩
 .rw[if_neg (by simpa using h0)]
  have at':At κ a b (out.push x) (na-1) nb:=⟨m',Zz,Zz,b1,b2⟩
  split
  .exact wpS_pure ⟨sg,.inr ⟨rfl,at',by dsimp only;lia⟩⟩
  .exact wpS_pure ⟨sg,rfl,at',by dsimp only;lia⟩
theorem uM(hL:LtAll prog w A E s κ ks)(T:Two κ a b)(F:FirstB κ a b){g na nb k bc n:Nat}{out:Array Keyed}{bg st:SortSt}(hk:kindOf st=ks)(sg:SG bg st)(m:At κ a b out na nb)(hn:na+nb<=n):
  wpS (model prog w) A E s (gl3 a b na nb out g k bc) (G2 κ a b n bg) st:=by
 obtain⟨mi,a1,a2,b1,b2⟩:=id m;obtain⟨x,x1,x2,x3,x4⟩:=gF T.ka a1 a2;unfold gl3;refine wpS_bind (bh x1 ?_);refine wpS_bind (dI (κ:=κ) (kk:=key κ x) (hL st hk) x2 Zz (fun i hi=>?_) (fun i j bX hj gS=>?_) fun t kn kt kf=>?_)
 .obtain⟨p,p1,p2,p3,_⟩:=item T.kb (i:=0+i) Zz;exact⟨p,_,p1,p2,p3⟩
 .have mono:=jj T.kb T.sb (i:=0+i) (j:=0+j) Zz Zz;exact KeyOrd.klt_of_kle_of_klt mono gS
 .have early:∀y∈b.toList.take t,∀z,a[na-1]?=some z->leK κ y z:=fun y hy z hz=>by
   rw[x1]at hz;cases hz;obtain⟨j,j1,j2,j3⟩:=take_key0 T.kb hy;have:=kt j j1;rw[Nat.zero_add,j3]at this;exact KeyOrd.kle_of_klt this
  by_cases h0:nb-t>0
  .dsimp only;rw[if_pos h0]
   have m':=Ib T mi (show t<=nb by lia) b2 fun z hz y hy=>by
    obtain⟨j,j1,j2,j3,j4⟩:=take_key T.kb hz;have:=kf j j1 j2;rw[Nat.zero_add,j4]at this;exact dz (vK T.ka T.sa a1 a2 x3 y hy) (show leK κ x z from this)
   by_cases e:t=1
   .rw[if_pos (by simpa using e)];exact wpS_pure ⟨sg,.inl ⟨_,rfl,e_f T F m' e⟩⟩
   .rw[if_neg (by simpa using e)];by_cases e2:t=0
    .rw[if_pos (by simpa using e2)];exact wpS_pure ⟨sg,.inl ⟨_,rfl,e_b T m' e2⟩⟩
    .rw[if_neg (by simpa using e2)];exact mG T sg ⟨m',a1,a2,Zz,Zz⟩ Zz early
  .dsimp only;rw[if_neg h0];have e:t=nb:=Zz
   rw[e]at early;exact mG T sg m hn early
theorem mH(hL:LtAll prog w A E s κ ks)(T:Two κ a b)(F:FirstB κ a b){g na nb k bc n:Nat}{out:Array Keyed}{bg st:SortSt}(hk:kindOf st=ks)(sg:SG bg st)(m:At κ a b out na nb)(hn:na+nb<=n)(h:∀x∈a.toList.take na,∀y,b[nb-1]?=some y->leK κ x y):
  wpS (model prog w) A E s (gl2 a b na nb out g k bc) (G2 κ a b n bg) st:=by
 obtain⟨mi,a1,a2,b1,b2⟩:=m;obtain⟨y,y1,y2,y3,y4⟩:=gF T.kb (show 1<=nb by lia) b2;unfold gl2;refine wpS_bind (bh y1 ?_);have m':=pushB T mi Zz b2 y4 fun z hz=>h z hz y y1;by_cases h0:nb-1=1
 .rw[if_pos (by simpa using h0)];exact wpS_pure ⟨sg,.inl ⟨_,rfl,e_f T F m' h0⟩⟩
 .rw[if_neg (by simpa using h0)];exact uM hL T F hk sg ⟨m',a1,a2,Zz,Zz⟩ Zz
theorem uN(hL:LtAll prog w A E s κ ks)(T:Two κ a b)(F:FirstB κ a b){g na nb ac bc n:Nat}{out:Array Keyed}{bg st:SortSt}(hk:kindOf st=ks)(sg:SG bg st)(m:At κ a b out na nb)(hn:na+nb<=n):
  wpS (model prog w) A E s (gl1 a b na nb out g ac bc) (G2 κ a b n bg) st:=by
 obtain⟨mi,a1,a2,b1,b2⟩:=id m;obtain⟨y,y1,y2,y3,y4⟩:=gF T.kb (show 1<=nb by lia) b2;unfold gl1;refine wpS_bind (iz fun Zq ff=>?_);have cv:kindOf Zq=ks:=ff.kind.trans hk
 have bq:SG bg Zq:=⟨ff.kind.trans sg.kind,ff.arr.trans sg.arr,ff.pend.trans sg.pend,ff.fail.trans sg.fail⟩
 refine wpS_bind (bh y1 ?_);refine wpS_bind (dI (κ:=κ) (kk:=key κ y) (hL Zq cv) y2 Zz (fun i hi=>?_) (fun i j bX hj gS=>?_) fun t kn kt kf=>?_)
 .obtain⟨p,p1,p2,p3,_⟩:=item T.ka (i:=0+i) Zz;exact⟨p,_,p1,p2,p3⟩
 .have mono:=jj T.ka T.sa (i:=0+i) (j:=0+j) Zz Zz;have gS:(!κ.blt (key κ y) (KK κ a (0+j)))=true:=gS;show(!κ.blt (key κ y) (KK κ a (0+i)))=true;rw[Bool.not_eq_true']at gS⊢;exact KeyOrd.kle_trans mono gS
 .have early:∀x∈a.toList.take t,∀z,b[nb-1]?=some z->leK κ x z:=fun x hx z hz=>by
   rw[y1]at hz;cases hz;obtain⟨j,j1,j2,j3⟩:=take_key0 T.ka hx;have:=kt j j1;rw[Nat.zero_add,j3]at this;have this:(!κ.blt (key κ y) (key κ x))=true:=this;rw[Bool.not_eq_true']at this;exact this
  by_cases h0:na-t>0
  .dsimp only;rw[if_pos h0]
   have m':=Ia T mi (show t<=na by lia) a2 fun z hz x hx=>by
    obtain⟨j,j1,j2,j3,j4⟩:=take_key T.ka hz;have:=kf j j1 j2;rw[Nat.zero_add,j4]at this;have this:(!κ.blt (key κ y) (key κ z))=false:=this;rw[Bool.not_eq_false']at this;exact dz (vK T.kb T.sb Zz b2 y3 x hx) (KeyOrd.kle_of_klt this)
   by_cases e:t=0
   .rw[if_pos (by simpa using e)];exact wpS_pure ⟨bq,.inl ⟨_,rfl,e_a T m' e⟩⟩
   .rw[if_neg (by simpa using e)];exact mH hL T F cv bq ⟨m',Zz,Zz,b1,b2⟩ Zz early
  .dsimp only;rw[if_neg h0];have e:t=na:=Zz
   rw[e]at early;exact mH hL T F cv bq m hn early
theorem mJ(hL:LtAll prog w A E s κ ks)(T:Two κ a b)(F:FirstB κ a b){g na nb:Nat}{out:Array Keyed}{bg st:SortSt}(hk:kindOf st=ks)(sg:SG bg st)(m:At κ a b out na nb):
  wpS (model prog w) A E s (round a b na nb out g) (fun r Zq=>SG bg Zq/\match r with
   |.done c=>∃z,c.1=some z/\Rs κ a b z
   |.yield c=>c.1=none/\At κ a b c.2.2.2.1 c.2.1 c.2.2.1/\c.2.1+c.2.2.1<na+nb) st:=by
 unfold round
 have HU:0<a.size+b.size:=by
  have:=m.a1;have:=m.a2;lia
 refine wpS_bind (wpS_mono (wpS_forRange (I:=fun x c Zq=>Zq=st/\c.1=none/\At κ a b c.2.2.2.1 c.2.1 c.2.2.1/\c.2.1+c.2.2.1+x=na+nb)
  (Q:=fun c Zq=>Zq=st/\((∃z,c.1=some z/\Rs κ a b z)\/(c.1=none/\At κ a b c.2.2.2.1 c.2.1 c.2.2.1/\c.2.1+c.2.2.1<na+nb))) ?_ ?_ ⟨rfl,rfl,m,rfl⟩) ?_)
 .rintro x ⟨c0,i,j,o,ac,bc⟩ Zq _ hx ⟨rfl,rfl,m',e⟩;dsimp only at m' e⊢;refine wpS_mono (uL hL T F hk m') fun r st2 h2=>?_;obtain⟨rfl,h2⟩:=h2
  cases r with
  |done c=>
   rcases h2 with h2|⟨h2,h3,h4⟩
   .exact⟨rfl,.inl h2⟩
   .exact⟨rfl,.inr ⟨h2,h3,Zz⟩⟩
  |yield c=>
   obtain⟨h2,h3,h4⟩:=h2;exact⟨rfl,h2,h3,Zz⟩
 .rintro c Zq ⟨rfl,h1,h2,h3⟩;exact⟨rfl,.inr ⟨h1,h2,Zz⟩⟩
 .rintro⟨c0,i,j,o,ac,bc⟩ Zq ⟨rfl,h⟩;dsimp only at h⊢;rcases h with⟨z,rfl,hz⟩|⟨rfl,m',bX⟩
  .exact wpS_pure ⟨sg,z,rfl,hz⟩
  .dsimp only;refine wpS_bind (wpS_lift (wpAny_rule ⟨rfl,?_⟩))
   refine wpS_bind (wpS_mono (wpS_forRange (I:=fun x c st2=>SG bg st2/\c.1=none/\At κ a b c.2.2.2.1 c.2.1 c.2.2.1/\c.2.1+c.2.2.1<na+nb)
    (Q:=fun c st2=>SG bg st2/\((∃z,c.1=some z/\Rs κ a b z)\/(c.1=none/\At κ a b c.2.2.2.1 c.2.1 c.2.2.1/\c.2.1+c.2.2.1<na+nb))) ?_ ?_ ⟨sg,rfl,m',bX⟩) ?_)
   .rintro x ⟨c0,i,j,o,g2,ac,bc⟩ st2 _ hx ⟨bq,rfl,m2,e2⟩;dsimp only at m2 e2⊢;have ve:kindOf st2=ks:=bq.kind.trans (sg.kind.symm.trans hk);have go:∀g',wpS (model prog w) A E s (gl1 a b i j o g' ac bc) (G2 κ a b (na+nb) bg) st2:=fun g'=>uN hL T F ve bq m2 Zz;unfold gal;split
    .refine wpS_mono (go _) fun r gi h3=>?_;obtain⟨h3,h4⟩:=h3
     cases r with
     |done c=>exact⟨h3,h4⟩
     |yield c=>exact⟨h3,h4⟩
    .refine wpS_mono (go _) fun r gi h3=>?_;obtain⟨h3,h4⟩:=h3
     cases r with
     |done c=>exact⟨h3,h4⟩
     |yield c=>exact⟨h3,h4⟩
   .rintro c st2 ⟨h0,h1,h2,h3⟩;exact⟨h0,.inr ⟨h1,h2,h3⟩⟩
   .rintro⟨c0,i,j,o,g2,ac,bc⟩ st2 ⟨bq,h⟩;dsimp only at h⊢;rcases h with⟨z,rfl,hz⟩|⟨rfl,m2,pe⟩
    .exact wpS_pure ⟨bq,z,rfl,hz⟩
    .dsimp only;refine wpS_bind (iz fun gi kR=>wpS_pure ⟨⟨kR.kind.trans bq.kind,kR.arr.trans bq.arr,kR.pend.trans bq.pend,kR.fail.trans bq.fail⟩,rfl,m2,pe⟩)
theorem hi_wp(hL:LtAll prog w A E s κ ks)(T:Two κ a b)(L:iK κ a b)(F:FirstB κ a b)(ha:0<a.size)(hb:0<b.size){st:SortSt}(hk:kindOf st=ks){Q:Array Keyed->SortSt->Prop}
  (h:∀r Zq,SG st Zq->Rs κ a b r->Q r Zq):wpS (model prog w) A E s (jk a b) Q st:=by
 rw[HY];obtain⟨x,x1,x2,x3,x4⟩:=gF T.ka (n:=a.size) ha (zA3 _);refine wpS_bind (wpS_lift (wpAny_rule ⟨rfl,?_⟩));refine wpS_bind (bh x1 ?_)
 have m0:Mh κ a b #[] a.size b.size:=by
  refine⟨?_,List.Pairwise.nil,fun x hx=>absurd hx Zy⟩;rw[List.drop_of_length_le (by rw[zA9];exact zA3 _),List.drop_of_length_le (by rw[zA9];exact zA3 _)];exact List.Perm.nil
 have m:Mh κ a b #[x] (a.size-1) b.size:=pushA (out:=#[]) T m0 ha (zA3 _) x4 fun y hy=>L y (List.mem_of_mem_take hy) x (by
  rw[<-zA9,zAm,zA9]at x4;rw[x4]
  exact List.mem_cons_self)
 by_cases e1:a.size-1=0
 .rw[if_pos (by simpa using e1)];exact wpS_pure (h _ st (SG.refl _) (e_a T m e1))
 .rw[if_neg (by simpa using e1)];by_cases e2:b.size=1
  .rw[if_pos (by simpa using e2)];exact wpS_pure (h _ st (SG.refl _) (e_f T F m e2))
  .rw[if_neg (by simpa using e2)];refine wpS_bind (wpS_get ?_)
   refine wpS_bind (wpS_mono (wpS_forRange (I:=fun x c Zq=>SG st Zq/\c.1=none/\At κ a b c.2.2.2.1 c.2.1 c.2.2.1/\c.2.1+c.2.2.1+x<a.size+b.size)
    (Q:=fun c Zq=>SG st Zq/\∃z,c.1=some z/\Rs κ a b z) ?_ ?_ ⟨SG.refl _,rfl,⟨m,by dsimp only;lia,by dsimp only;lia,by dsimp only;lia,Nat.le_refl _⟩,by dsimp only;lia⟩) ?_)
   .rintro x ⟨c0,i,j,o,g⟩ Zq _ hx ⟨sg,rfl,m',e⟩;dsimp only at m' e⊢;refine wpS_mono (mJ hL T F (sg.kind.trans hk) sg m') fun r st2 h2=>?_;obtain⟨bq,h2⟩:=h2
    cases r with
    |done c=>exact⟨bq,h2⟩
    |yield c=>
     obtain⟨h2,h3,h4⟩:=h2;exact⟨bq,h2,h3,Zz⟩
   .rintro c Zq ⟨sg,h1,m',e⟩;exact absurd e Zz
   .rintro⟨c0,i,j,o,g⟩ Zq ⟨sg,z,e,hz⟩;dsimp only at e;rw[e];exact wpS_pure (h z Zq sg hz)
end
end Hi
open PySem PyProof.Rows
def over(arr:Array Keyed)(n:Nat)(l:List Keyed):Array Keyed:=l.zipIdx.foldl (fun a p=>a.setIfInBounds (n+p.2) p.1) arr
theorem qG:∀(l:List Keyed) (j n:Nat) (arr:Array Keyed),n+j+l.length<=arr.size->
  (((l.zipIdx j).foldl (fun a p=>a.setIfInBounds (n+p.2) p.1) arr).size=arr.size/\∀i,((l.zipIdx j).foldl (fun a p=>a.setIfInBounds (n+p.2) p.1) arr)[i]?=if n+j<=i/\i<n+j+l.length then l[i-(n+j)]? else arr[i]?)
 |[],j,n,arr,_=>by
  refine⟨rfl,fun i=>?_⟩;rw[zAw (by rw[List.length_nil];lia)];rfl
 |p::l,j,n,arr,h=>by
  rw[zAe]at h;rw[List.zipIdx_cons,List.foldl_cons];obtain⟨h1,h2⟩:=qG l (j+1) n (arr.setIfInBounds (n+j) p) (by rw[Array.size_setIfInBounds];lia);refine⟨by rw[h1,Array.size_setIfInBounds],fun i=>?_⟩;rw[h2 i,zAe,Array.getElem?_setIfInBounds];by_cases e:n+j=i
  .subst e;rw[if_neg Zz,if_pos rfl,if_pos Zz,if_pos Zz];simp
  .rw[zAw e];by_cases e2:n+(j+1)<=i/\i<n+(j+1)+l.length
   .rw[zAx e2,zAx Zz,show i-(n+j)=(i-(n+(j+1)))+1 by lia];rfl
   .rw[zAw e2,zAw Zz]
theorem xP{arr:Array Keyed}{n:Nat}{l:List Keyed}(h:n+l.length<=arr.size):(over arr n l).toList=arr.toList.take n++l++arr.toList.drop (n+l.length):=by
 obtain⟨h1,h2⟩:=qG l 0 n arr Zz;refine List.ext_getElem? fun i=>?_;rw[Array.getElem?_toList];show((l.zipIdx 0).foldl (fun a p=>a.setIfInBounds (n+p.2) p.1) arr)[i]?=_;have hl:arr.toList.length=arr.size:=zA9;rw[h2 i,zAf,List.getElem?_append,zAd,hl,show min n arr.size=n by lia,List.getElem?_append];by_cases e1:i<n
 .rw[zAw Zz,zAx e1,List.getElem?_take,zAx e1,Array.getElem?_toList]
 .rw[zAw e1];by_cases e2:i<n+l.length
  .rw[zAx Zz,zAx Zz];rfl
  .rw[zAw Zz,zAw Zz,List.getElem?_drop,Array.getElem?_toList];congr 1;lia
theorem pw_of_seg{κ:PyProof.Rows.KeyKind}{arr:Array Keyed}(ka:KeysOf κ arr){lo hi:Nat}(hh:hi<=arr.size)(h:Seg κ arr lo hi):((arr.toList.take hi).drop lo).Pairwise (leK κ):=by
 rw[List.pairwise_iff_getElem];intro i j hJ vj bX;rw[List.length_drop,zAd,zA9]at hJ vj;rw[List.getElem_drop,List.getElem_drop,List.getElem_take,List.getElem_take]
 have cy:∀k,(hk:k<arr.toList.length)->k<arr.size->key κ arr.toList[k]=KK κ arr k:=fun k hk cv=>by
  obtain⟨p,p1,p2,p3,p4⟩:=item ka cv;rw[p3]
  have e:arr.toList[k]?=some p:=by
   rw[Array.getElem?_toList];exact p1
  rw[zA0 hk]at e;rw[zAl e]
 unfold leK;rw[cy _ _ Zz,cy _ _ Zz];exact h _ _ Zz Zz Zz
theorem xQ{κ:PyProof.Rows.KeyKind}{arr:Array Keyed}(ka:KeysOf κ arr){lo hi:Nat}(hh:hi<=arr.size)(h:((arr.toList.take hi).drop lo).Pairwise (leK κ)):Seg κ arr lo hi:=by
 intro i j h1 h2 h3;by_cases e:i=j
 .rw[e];exact KeyOrd.kle_refl _
 .rw[List.pairwise_iff_getElem]at h
  have cy:∀k,(hk:k<arr.toList.length)->k<arr.size->key κ arr.toList[k]=KK κ arr k:=fun k hk cv=>by
   obtain⟨p,p1,p2,p3,p4⟩:=item ka cv;rw[p3]
   have e:arr.toList[k]?=some p:=by
    rw[Array.getElem?_toList];exact p1
   rw[zA0 hk]at e;rw[zAl e]
  have:=h (i-lo) (j-lo) (by rw[List.length_drop,zAd,zA9];lia) (by rw[List.length_drop,zAd,zA9];lia) Zz;rw[List.getElem_drop,List.getElem_drop,List.getElem_take,List.getElem_take]at this;unfold leK at this;rw[cy _ _ Zz,cy _ _ Zz]at this;rw[show lo+(i-lo)=i by lia,show lo+(j-lo)=j by lia]at this;exact this
theorem Ie(i:Nat):mergeAt' i=(do
  let s <-get
  match(pendingOf s)[i]?,(pendingOf s)[i+1]? with
  |some p,some q=>do
   set (setPending s (((pendingOf s).setIfInBounds i (p.1,p.2.1+q.2.1,p.2.2)).eraseIdxIfInBounds (i+1)))
   let y <-elem' (arrOf s) q.1
   let r <-fP false y (arrOf s) p.1 p.2.1 0
   match r with
   |some k=>
    if(p.2.1-k==0)=true then pure true
    else do
     let x <-elem' (arrOf s) (p.1+k+(p.2.1-k)-1)
     let r <-fP true x (arrOf s) q.1 q.2.1 (q.2.1-1)
     match r with
     |some n=>
      if(n==0)=true then pure true
      else do
       let m <-if p.2.1-k<=n then jf ((arrOf s).extract (p.1+k) q.1) ((arrOf s).extract q.1 (q.1+n))else jk ((arrOf s).extract (p.1+k) q.1) ((arrOf s).extract q.1 (q.1+n))
       modify fun s'=>setArr s' (over (arrOf s') (p.1+k) m.toList)
       let s' <-get
       pure (failedOf s').isNone
     |_=>pure false
   |_=>pure false
  |_,_=>liftM (unsupported "internal:list.sort.pending")):=by
 delta mergeAt'
 refine bc rfl (funext fun s=>?_);generalize e1:(pendingOf s)[i]?=o1;generalize e2:(pendingOf s)[i+1]?=o2
 cases o1 with
 |none=>cases o2<;>rfl
 |some p=>
  obtain⟨sa,na,pw⟩:=p
  cases o2 with
  |none=>rfl
  |some q=>
   obtain⟨sb,nb,Cs⟩:=q;refine bc rfl (funext fun u=>bc rfl (funext fun y=>bc rfl (funext fun r=>?_)))
   cases r with
   |none=>rfl
   |some k=>
    refine ic rfl (bc rfl (funext fun x=>bc rfl (funext fun r=>?_)))
    cases r with
    |none=>rfl
    |some n=>exact ic rfl (ic (bc rfl (funext fun m=>rfl)) (bc rfl (funext fun m=>rfl)))
theorem keys_perm{κ:PyProof.Rows.KeyKind}{ae xs:Array Keyed}(h0:KeysOf κ ae)(h:xs.Perm ae):KeysOf κ xs:=fun p hp=>h0 p ((Array.perm_iff_toList_perm.mp h).mem_iff.mp hp)
theorem sU{κ:PyProof.Rows.KeyKind}{xs:Array Keyed}(h0:KeysOf κ xs)(i j:Nat):KeysOf κ (xs.extract i j):=fun p hp=>by
 rw[gj]at hp;exact h0 p (List.mem_of_mem_drop (List.mem_of_mem_take hp))
section
variable{prog:Program}{w:World}{A:Around}{E:Value->Shared->Prop}{s:Shared}{κ:PyProof.Rows.KeyKind}{ks:SortKind}{ae:Array Keyed}
structure Mg(κ:PyProof.Rows.KeyKind)(ks:SortKind)(ae:Array Keyed)(st Zq:SortSt)(sa hi:Nat)(pend:Array (Nat×Nat×Nat)):Prop where
 base:SB ks ae Zq
 out:∀k,(k<sa\/hi<=k)->(arrOf Zq)[k]?=(arrOf st)[k]?
 seg:Seg κ (arrOf Zq) sa hi
 pend:pendingOf Zq=pend
theorem zm{l:List Keyed}{i j k m:Nat}(h1:i<=j)(h2:j<=k)(h3:k<=m)(h4:m<=l.length):(l.take m).drop i=(l.take j).drop i++((l.take k).drop j++(l.take m).drop k):=by
 have c:∀{x y z:Nat},x<=y->y<=z->z<=l.length->(l.take z).drop x=(l.take y).drop x++(l.take z).drop y:=fun{x y z} a b d=>by
  have:=Hi.cut_drop (l:=l.take z) (t:=x) (n:=y) a (by rw[zAd];lia);rw[List.take_take,show min y z=y by lia]at this;exact this.symm
 rw[c h1 Zz h4,c h2 h3 h4]
theorem Ig(hL:LtAll prog w A E s κ ks)(h0:KeysOf κ ae){st:SortSt}(B:SB ks ae st){i sa na pw nb Cs:Nat}(e1:(pendingOf st)[i]?=some (sa,na,pw))(e2:(pendingOf st)[i+1]?=some (sa+na,nb,Cs))
  (n1:1<=na) (n2:1<=nb) (hz:sa+na+nb<=ae.size) (s1:Seg κ (arrOf st) sa (sa+na)) (s2:Seg κ (arrOf st) (sa+na) (sa+na+nb)) {Q:Bool->SortSt->Prop}
  (h:∀Zq,Mg κ ks ae st Zq sa (sa+na+nb) (((pendingOf st).setIfInBounds i (sa,na+nb,pw)).eraseIdxIfInBounds (i+1))->Q true Zq):wpS (model prog w) A E s (mergeAt' i) Q st:=by
 rw[Ie];refine wpS_bind (wpS_get ?_);rw[e1,e2];dsimp only;have kA:KeysOf κ (arrOf st):=keys_perm h0 B.pm;have hsz:(arrOf st).size=ae.size:=B.size;have fR:(arrOf st).toList.length=ae.size:=by rw[zA9,hsz]
 obtain⟨P,eP⟩:∃P,P=((pendingOf st).setIfInBounds i (sa,na+nb,pw)).eraseIdxIfInBounds (i+1):=⟨_,rfl⟩
 rw[<-eP]at h⊢
 have Ct:∀{R:PUnit->SortSt->Prop},R ⟨⟩ (setPending st P)->wpS (model prog w) A E s (set (setPending st P):Sm PUnit) R st:=fun hR=>by
  unfold wpS;rw[StateT.run_set];exact zAy ⟨rfl,hR⟩
 refine wpS_bind (Ct ?_)
 obtain⟨fe,kS⟩:∃fe,fe=setPending st P:=⟨_,rfl⟩
 have k1:kindOf fe=ks:=by rw[kS];exact B.kind
 have a1:arrOf fe=arrOf st:=by rw[kS]
 have p1:pendingOf fe=P:=by rw[kS]
 have f1:failedOf fe=none:=by rw[kS];exact B.ok
 rw[<-kS]
 have all:Seg κ (arrOf st) sa (sa+na+nb)->Mg κ ks ae st fe sa (sa+na+nb) P:=fun sg=>⟨⟨k1,f1,by rw[a1];exact B.pm⟩,fun k _=>by rw[a1],by rw[a1];exact sg,p1⟩
 obtain⟨y,y1,y2,y3,y4⟩:=item kA (i:=sa+na) Zz;refine wpS_bind (bh y1 ?_);refine wpS_bind (dI (κ:=κ) (kk:=key κ y) (hL fe k1) y2 Zz (fun j hj=>?_) (fun j j' LM vj hb=>?_) fun k kn kt kf=>?_)
 .obtain⟨p,q1,q2,q3,_⟩:=item kA (i:=sa+j) Zz;exact⟨p,_,q1,q2,q3⟩
 .have mono:=s1 (sa+j) (sa+j') Zz Zz Zz;have hb:(!κ.blt (key κ y) (KK κ (arrOf st) (sa+j')))=true:=hb;show(!κ.blt (key κ y) (KK κ (arrOf st) (sa+j)))=true;rw[Bool.not_eq_true']at hb⊢;exact KeyOrd.kle_trans mono hb
 .have CA:∀j,sa<=j->j<sa+k->κ.kle (KK κ (arrOf st) j) (KK κ (arrOf st) (sa+na)):=fun j j1 j2=>by
   have:=kt (j-sa) Zz;rw[show sa+(j-sa)=j by lia]at this;have this:(!κ.blt (key κ y) (KK κ (arrOf st) j))=true:=this;rw[Bool.not_eq_true']at this;rw[y3];exact this
  have LN:∀j,sa+k<=j->j<sa+na->κ.kle (KK κ (arrOf st) (sa+na)) (KK κ (arrOf st) j):=fun j j1 j2=>by
   have:=kf (j-sa) Zz Zz;rw[show sa+(j-sa)=j by lia]at this;have this:(!κ.blt (key κ y) (KK κ (arrOf st) j))=false:=this;rw[Bool.not_eq_false']at this;rw[y3];exact KeyOrd.kle_of_klt this
  dsimp only;by_cases rj:na-k=0
  .rw[if_pos (by simpa using rj)];refine wpS_pure (h fe (all fun u v hu vk hv=>?_));by_cases c1:v<sa+na
   .exact s1 u v hu vk c1
   .by_cases c2:u<sa+na
    .exact KeyOrd.kle_trans (CA u hu Zz) (s2 (sa+na) v (zA3 _) Zz hv)
    .exact s2 u v Zz vk hv
  .rw[if_neg (by simpa using rj)];rw[show sa+k+(na-k)-1=sa+na-1 by lia];obtain⟨x,x1,x2,x3,x4⟩:=item kA (i:=sa+na-1) Zz;refine wpS_bind (bh x1 ?_);refine wpS_bind (dI (κ:=κ) (kk:=key κ x) (hL fe k1) x2 Zz (fun j hj=>?_) (fun j j' LM vj hb=>?_) fun n nn nt nf=>?_)
   .obtain⟨p,q1,q2,q3,_⟩:=item kA (i:=sa+na+j) Zz;exact⟨p,_,q1,q2,q3⟩
   .exact KeyOrd.klt_of_kle_of_klt (s2 (sa+na+j) (sa+na+j') Zz Zz Zz) hb
   .have LO:∀j,sa+na<=j->j<sa+na+n->κ.kle (KK κ (arrOf st) j) (KK κ (arrOf st) (sa+na-1)):=fun j j1 j2=>by
     have:=nt (j-(sa+na)) Zz;rw[show sa+na+(j-(sa+na))=j by lia]at this;rw[x3];exact KeyOrd.kle_of_klt this
    have HV:∀j,sa+na+n<=j->j<sa+na+nb->κ.kle (KK κ (arrOf st) (sa+na-1)) (KK κ (arrOf st) j):=fun j j1 j2=>by
     have:=nf (j-(sa+na)) Zz Zz;rw[show sa+na+(j-(sa+na))=j by lia]at this;rw[x3];exact this
    dsimp only;by_cases HZ:n=0
    .rw[if_pos (by simpa using HZ)];refine wpS_pure (h fe (all fun u v hu vk hv=>?_));by_cases c1:v<sa+na
     .exact s1 u v hu vk c1
     .by_cases c2:u<sa+na
      .exact KeyOrd.kle_trans (s1 u (sa+na-1) hu Zz Zz) (HV v Zz hv)
      .exact s2 u v Zz vk hv
    .rw[if_neg (by simpa using HZ)]
     obtain⟨X,eX⟩:∃X,X=(arrOf st).extract (sa+k) (sa+na):=⟨_,rfl⟩
     obtain⟨Y,eY⟩:∃Y,Y=(arrOf st).extract (sa+na) (sa+na+n):=⟨_,rfl⟩
     rw[<-eX,<-eY];have lX:X.toList=((arrOf st).toList.take (sa+na)).drop (sa+k):=by rw[eX,Hi.ext_cut]
     have lY:Y.toList=((arrOf st).toList.take (sa+na+n)).drop (sa+na):=by rw[eY,Hi.ext_cut]
     have zX:X.size=na-k:=by rw[<-zA9,lX,List.length_drop,zAd,fR];lia
     have zY:Y.size=n:=by rw[<-zA9,lY,List.length_drop,zAd,fR];lia
     have pA:=pw_of_seg kA Zz s1;have pB:=pw_of_seg kA Zz s2;have eA:=zm (l:=(arrOf st).toList) (i:=sa) (j:=sa+k) (k:=sa+na) (m:=sa+na) Zz Zz (zA3 _) (by rw[fR];lia);have eB:=zm (l:=(arrOf st).toList) (i:=sa+na) (j:=sa+na+n) (k:=sa+na+nb) (m:=sa+na+nb) Zz Zz (zA3 _) (by rw[fR];lia);have CB:((arrOf st).toList.take (sa+na)).drop (sa+na)=[]:=List.drop_of_length_le (by rw[zAd];lia);have CC:((arrOf st).toList.take (sa+na+nb)).drop (sa+na+nb)=[]:=List.drop_of_length_le (by rw[zAd];lia);rw[CB,zAn,<-lX]at eA;rw[CC,zAn,<-lY]at eB
     obtain⟨A1,CD⟩:∃A1,A1=((arrOf st).toList.take (sa+k)).drop sa:=⟨_,rfl⟩
     obtain⟨B2,CF⟩:∃B2,B2=((arrOf st).toList.take (sa+na+nb)).drop (sa+na+n):=⟨_,rfl⟩
     rw[<-CD]at eA;rw[<-CF]at eB;rw[eA]at pA;rw[eB]at pB;obtain⟨LP,pX,LQ⟩:=List.pairwise_append.mp pA;obtain⟨pY,LR,LS⟩:=List.pairwise_append.mp pB
     have Ic:∀z∈X.toList,∃j,sa+k<=j/\j<sa+na/\KK κ (arrOf st) j=key κ z:=fun z cE=>by
      rw[lX]at cE;obtain⟨j,j1,j2,_,j4⟩:=Hi.take_key kA cE;exact⟨j,j1,j2,j4⟩
     have Iq:∀z∈Y.toList,∃j,sa+na<=j/\j<sa+na+n/\KK κ (arrOf st) j=key κ z:=fun z cE=>by
      rw[lY]at cE;obtain⟨j,j1,j2,_,j4⟩:=Hi.take_key kA cE;exact⟨j,j1,j2,j4⟩
     have LU:∀z∈A1,∃j,sa<=j/\j<sa+k/\KK κ (arrOf st) j=key κ z:=fun z cE=>by
      rw[CD]at cE;obtain⟨j,j1,j2,_,j4⟩:=Hi.take_key kA cE;exact⟨j,j1,j2,j4⟩
     have Iy:∀z∈B2,∃j,sa+na+n<=j/\j<sa+na+nb/\KK κ (arrOf st) j=key κ z:=fun z cE=>by
      rw[CF]at cE;obtain⟨j,j1,j2,_,j4⟩:=Hi.take_key kA cE;exact⟨j,j1,j2,j4⟩
     have TT:Two κ X Y:=⟨by rw[eX];exact sU kA _ _,by rw[eY];exact sU kA _ _,pX,pY⟩
     have LL:iK κ X Y:=fun z cE v hv=>by
      obtain⟨j,j1,j2,j3⟩:=Iq z cE;obtain⟨j',vn,vt,pj⟩:=mF TT.ka hv;have ej:j'=X.size-1:=Zz
      have e:KK κ X j'=KK κ (arrOf st) (sa+na-1):=by
       refine KK_congr ?_;rw[eX,Array.getElem?_extract,zAx Zz];congr 1;lia
      show κ.kle (key κ z) (key κ v);rw[<-j3,<-pj,e];exact LO j j1 j2
     have F0:∀v∈X.toList,∀z,Y[0]?=some z->leK κ z v:=fun v hv z cE=>by
      obtain⟨j,j1,j2,j3⟩:=Ic v hv
      have ez:z=y:=by
       rw[eY,Array.getElem?_extract,zAx Zz,Nat.add_zero,y1]at cE;exact(zAl cE).symm
      show κ.kle (key κ z) (key κ v);rw[ez,<-y3,<-j3];exact LN j j1 j2
     have FB:Hi.FirstB κ X Y:=fun z cE v hv=>by
      obtain⟨j,j1,j2,j3⟩:=Hi.take_key0 TT.kb cE;obtain⟨q,q1,q2,q3,_⟩:=item TT.kb (i:=0) Zz;have e0:j=0:=Zz
      rw[e0,q3]at j3;have:=F0 v hv q q1;unfold leK at this⊢;rw[<-j3];exact this
     have fin:∀m st2,SG fe st2->Rs κ X Y m->wpS (model prog w) A E s (do
       modify fun s'=>setArr s' (over (arrOf s') (sa+k) m.toList)
       let s' <-get
       pure (failedOf s').isNone) Q st2:=fun m st2 sg D=>by
      refine wpS_bind (wpS_modify (wpS_bind (wpS_get (wpS_pure ?_))))
      have ft:(failedOf (setArr st2 (over (arrOf st2) (sa+k) m.toList))).isNone=true:=by
       show(failedOf st2).isNone=true;rw[sg.fail,f1];rfl
      rw[ft];have am:arrOf st2=arrOf st:=sg.arr.trans a1
      have lm:m.toList.length=na-k+n:=by
       rw[D.pm.length_eq,zA2,zA9,zA9,zX,zY]
      have ol:(over (arrOf st) (sa+k) m.toList).toList=(arrOf st).toList.take (sa+k)++m.toList++(arrOf st).toList.drop (sa+na+n):=by
       rw[xP (by rw[lm,hsz];lia),lm,show sa+k+(na-k+n)=sa+na+n by lia]
      have vw:(over (arrOf st) (sa+k) m.toList).toList.Perm (arrOf st).toList:=by
       rw[ol]
       have e:(arrOf st).toList=(arrOf st).toList.take (sa+k)++(X.toList++Y.toList)++(arrOf st).toList.drop (sa+na+n):=by
        rw[lX,lY];have c1:=Hi.cut_drop (l:=(arrOf st).toList) (t:=sa+na) (n:=sa+na+n) Zz (by rw[fR];lia);have c2:=Hi.cut_drop (l:=(arrOf st).toList) (t:=sa+k) (n:=sa+na) Zz (by rw[fR];lia);rw[zAf,zAf,c1,c2,zB8]
       conv=>rhs;rw[e]
       exact List.Perm.append_right _ (List.Perm.append_left _ D.pm)
      have iL:(over (arrOf st) (sa+k) m.toList).Perm (arrOf st):=Array.perm_iff_toList_perm.mpr vw;have kO:KeysOf κ (over (arrOf st) (sa+k) m.toList):=keys_perm kA iL;have zO:(over (arrOf st) (sa+k) m.toList).size=ae.size:=iL.size_eq.trans hsz;have og:∀j,(over (arrOf st) (sa+k) m.toList)[j]?=if sa+k+0<=j/\j<sa+k+0+m.toList.length then m.toList[j-(sa+k+0)]? else(arrOf st)[j]?:=(qG m.toList 0 (sa+k) (arrOf st) (by rw[lm,hsz];lia)).2;refine h _ ⟨⟨sg.kind.trans k1,by show failedOf st2=none;rw[sg.fail,f1],?_⟩,fun j hj=>?_,?_,?_⟩
      .show(over (arrOf st2) (sa+k) m.toList).Perm ae;rw[am];exact iL.trans B.pm
      .show(over (arrOf st2) (sa+k) m.toList)[j]?=_;rw[am,og j,zAw (by rw[lm];lia)]
      .show Seg κ (over (arrOf st2) (sa+k) m.toList) sa (sa+na+nb);rw[am];refine xQ kO (by rw[zO];exact hz) ?_
       have cut:((over (arrOf st) (sa+k) m.toList).toList.take (sa+na+nb)).drop sa=A1++(m.toList++B2):=by
        rw[ol,CD,CF];have tl:((arrOf st).toList.take (sa+k)).length=sa+k:=by rw[zAd,fR];lia
        rw[zAf,List.take_append,tl,List.take_of_length_le (l:=(arrOf st).toList.take (sa+k)) (by rw[tl];lia),List.take_append,lm,List.take_of_length_le (l:=m.toList) (by rw[lm];lia)];rw[List.drop_append_of_le_length (by rw[tl];lia)];congr 2;rw[List.drop_take];congr 1;lia
       rw[cut];refine List.pairwise_append.mpr ⟨LP,List.pairwise_append.mpr ⟨D.sr,LR,fun u hu v hv=>?_⟩,fun u hu v hv=>?_⟩
       .rcases zA6.mp (D.pm.mem_iff.mp hu)with c|c
        .obtain⟨j,j1,j2,j3⟩:=Ic u c;obtain⟨j',vn,vt,pj⟩:=Iy v hv;show κ.kle (key κ u) (key κ v);rw[<-j3,<-pj];exact KeyOrd.kle_trans (s1 j (sa+na-1) Zz Zz Zz) (HV j' vn vt)
        .exact LS u c v hv
       .obtain⟨j,j1,j2,j3⟩:=LU u hu;rcases zA6.mp hv with c|c
        .rcases zA6.mp (D.pm.mem_iff.mp c)with c|c
         .exact LQ u hu v c
         .obtain⟨j',vn,vt,pj⟩:=Iq v c;show κ.kle (key κ u) (key κ v);rw[<-j3,<-pj];exact KeyOrd.kle_trans (CA j j1 j2) (s2 (sa+na) j' (zA3 _) vn Zz)
        .obtain⟨j',vn,vt,pj⟩:=Iy v c;show κ.kle (key κ u) (key κ v);rw[<-j3,<-pj];exact KeyOrd.kle_trans (CA j j1 j2) (s2 (sa+na) j' (zA3 _) Zz vt)
      .show pendingOf st2=P;rw[sg.pend,p1]
     by_cases hc:na-k<=n
     .rw[zAx hc];exact wpS_bind (HX hL TT LL Zz Zz F0 k1 fun m st2 sg D=>fin m st2 sg D)
     .rw[zAw hc];exact wpS_bind (Hi.hi_wp hL TT LL FB Zz Zz k1 fun m st2 sg D=>fin m st2 sg D)
end
abbrev Run:=Nat×Nat×Nat
def Ch(κ:PyProof.Rows.KeyKind)(arr:Array Keyed):List Run->Nat->Nat->Prop
 |[],a,b=>a=b
 |r::l,a,b=>r.1=a/\1<=r.2.1/\Seg κ arr a (a+r.2.1)/\Ch κ arr l (a+r.2.1) b
theorem Ch.le{κ:PyProof.Rows.KeyKind}{arr:Array Keyed}:∀{l:List Run} {a b:Nat},Ch κ arr l a b->a+l.length<=b
 |[],a,b,h=>by
  have h:a=b:=h;simp[h]
 |r::l,a,b,h=>by
  have:=Ch.le h.2.2.2;have:=h.2.1;rw[zAe];lia
theorem Ch.split{κ:PyProof.Rows.KeyKind}{arr:Array Keyed}:∀{l1 l2:List Run} {a b:Nat},Ch κ arr (l1++l2) a b↔∃m,Ch κ arr l1 a m/\Ch κ arr l2 m b
 |[],l2,a,b=>⟨fun h=>⟨a,rfl,h⟩,fun⟨m,h1,h2⟩=>by
  have h1:a=m:=h1;rw[h1]
  exact h2⟩
 |r::l1,l2,a,b=>by
  constructor
  .intro h;obtain⟨m,h1,h2⟩:=Ch.split.mp h.2.2.2;exact⟨m,⟨h.1,h.2.1,h.2.2.1,h1⟩,h2⟩
  .rintro⟨m,h1,h2⟩;exact⟨h1.1,h1.2.1,h1.2.2.1,Ch.split.mpr ⟨m,h1.2.2.2,h2⟩⟩
theorem sV{κ:PyProof.Rows.KeyKind}{arr iN:Array Keyed}{a b:Nat}(h:Seg κ arr a b)(e:∀k,a<=k->k<b->iN[k]?=arr[k]?):Seg κ iN a b:=fun i j h1 h2 h3=>by
 rw[KK_congr (e i h1 Zz),KK_congr (e j Zz h3)];exact h i j h1 h2 h3
theorem Ch.same{κ:PyProof.Rows.KeyKind}{arr iN:Array Keyed}:∀{l:List Run} {a b:Nat},Ch κ arr l a b->(∀k,a<=k->k<b->iN[k]?=arr[k]?)->Ch κ iN l a b
 |[],_,_,h,_=>h
 |r::l,a,b,h,e=>by
  have:=Ch.le h.2.2.2;exact⟨h.1,h.2.1,sV h.2.2.1 fun k k1 k2=>e k k1 Zz,h.2.2.2.same fun k k1 k2=>e k Zz k2⟩
theorem xR{p:Array Run}{i:Nat}{v:Run}(h:i+1<p.size):((p.setIfInBounds i v).eraseIdxIfInBounds (i+1)).toList=p.toList.take i++v::p.toList.drop (i+2):=by
 have hl:p.toList.length=p.size:=zA9
 have e1:(p.setIfInBounds i v).eraseIdxIfInBounds (i+1)=(p.setIfInBounds i v).eraseIdx (i+1) (by rw[Array.size_setIfInBounds];exact h):=by
  rw[Array.eraseIdxIfInBounds,dif_pos (by rw[Array.size_setIfInBounds];exact h)]
 rw[e1,Array.toList_eraseIdx,Array.toList_setIfInBounds,List.eraseIdx_eq_take_drop_succ,List.take_set,List.drop_set,zAx Zz]
 have e2:p.toList.take (i+1)=p.toList.take i++[p.toList[i]'Zz]:=by
  rw[zAj,zA0 Zz];rfl
 rw[e2,List.set_append_right _ _ (by rw[zAd];lia)];rw[zAd,show i-min i p.toList.length=0 by lia];simp
section
variable{prog:Program}{w:World}{A:Around}{E:Value->Shared->Prop}{s:Shared}{κ:PyProof.Rows.KeyKind}{ks:SortKind}{ae:Array Keyed}
structure St(κ:PyProof.Rows.KeyKind)(ks:SortKind)(ae:Array Keyed)(st:SortSt)(lo:Nat):Prop where
 base:SB ks ae st
 ch:Ch κ (arrOf st) (pendingOf st).toList 0 lo
 le:lo<=ae.size
theorem sW(hL:LtAll prog w A E s κ ks)(h0:KeysOf κ ae){st:SortSt}{lo i:Nat}(S:St κ ks ae st lo)(hi:i+1<(pendingOf st).size){Q:Bool->SortSt->Prop}
  (h:∀Zq,St κ ks ae Zq lo->(pendingOf Zq).size+1=(pendingOf st).size->(∀k,lo<=k->(arrOf Zq)[k]?=(arrOf st)[k]?)->Q true Zq):wpS (model prog w) A E s (mergeAt' i) Q st:=by
 have hl:(pendingOf st).toList.length=(pendingOf st).size:=zA9;have d1:(pendingOf st).toList.drop i=(pendingOf st).toList[i]'Zz::(pendingOf st).toList.drop (i+1):=List.drop_eq_getElem_cons Zz;have d2:(pendingOf st).toList.drop (i+1)=(pendingOf st).toList[i+1]'Zz::(pendingOf st).toList.drop (i+2):=List.drop_eq_getElem_cons Zz;have g1:(pendingOf st)[i]?=some ((pendingOf st).toList[i]'Zz):=by rw[<-Array.getElem?_toList,zA0 Zz]
 have g2:(pendingOf st)[i+1]?=some ((pendingOf st).toList[i+1]'Zz):=by rw[<-Array.getElem?_toList,zA0 Zz]
 obtain⟨⟨sa,na,pw⟩,ep⟩:∃r,r=(pendingOf st).toList[i]'Zz:=⟨_,rfl⟩
 obtain⟨⟨sb,nb,Cs⟩,eq⟩:∃r,r=(pendingOf st).toList[i+1]'Zz:=⟨_,rfl⟩
 rw[<-ep]at d1 g1;rw[<-eq]at d2 g2;have c:=S.ch;rw[<-List.take_append_drop i (pendingOf st).toList,d1,d2]at c;obtain⟨m,c1,c2⟩:=Ch.split.mp c;obtain⟨q1,q2,q3,q4,q5,q6,q7⟩:=c2;dsimp only at q1 q2 q3 q4 q5 q6 q7;subst q1;subst q4;have lb:=Ch.le q7;have lm:=Ch.le c1;refine Ig hL h0 S.base g1 g2 q2 q5 (by have:=S.le;lia) q3 q6 fun Zq M=>?_;have pl:(pendingOf Zq).toList=(pendingOf st).toList.take i++(sa,na+nb,pw)::(pendingOf st).toList.drop (i+2):=by rw[M.pend,xR hi]
 refine h Zq ⟨M.base,?_,S.le⟩ ?_ fun k hk=>M.out k (.inr Zz)
 .rw[pl];refine Ch.split.mpr ⟨sa,c1.same fun k _ k2=>M.out k (.inl k2),rfl,by dsimp only;lia,?_,?_⟩
  .dsimp only;rw[<-Nat.add_assoc];exact M.seg
  .dsimp only;rw[<-Nat.add_assoc];exact q7.same fun k k1 _=>M.out k (.inr k1)
 .rw[<-zA9,pl,zA2,zAe,zAd,List.length_drop];lia
def rest(z lo n:Nat):Sm (ForInStep (Option Unit×Nat)):=do
 let s <-get
 match(pendingOf s).back? with
 |some (s1,n1,_)=>do
  let c <-forIn [0:z] ((none,()):Option Unit×Unit) fun _ _=>do
    let s <-get
    match(if(pendingOf s).size>1 then(pendingOf s)[(pendingOf s).size-2]? else none)with
    |some (_,_,mB)=>
     if mB<=power' z (2*s1+n1) (2*s1+n1+n1+n) z then pure (ForInStep.done (none,()))
     else do
      let b <-mergeAt' ((pendingOf s).size-2)
      if(!b)=true then pure (ForInStep.done (some (),()))else pure (ForInStep.yield (none,()))
    |_=>pure (ForInStep.done (none,()))
  match c.1 with
  |some r=>pure (ForInStep.done (some r,lo))
  |none=>do
   modify fun s=>setPending s ((pendingOf s).modify ((pendingOf s).size-1) fun x=>(x.1,x.2.1,power' z (2*s1+n1) (2*s1+n1+n1+n) z))
   modify fun s=>setPending s ((pendingOf s).push (lo,n,0))
   pure (ForInStep.yield (none,lo+n))
 |_=>do
  modify fun s=>setPending s ((pendingOf s).push (lo,n,0))
  pure (ForInStep.yield (none,lo+n))
theorem Ch.pw{κ:PyProof.Rows.KeyKind}{arr:Array Keyed}(f:Run->Run)(hf:∀r,(f r).1=r.1/\(f r).2.1=r.2.1):∀{l:List Run} {a b i:Nat},Ch κ arr l a b->Ch κ arr (l.modify i f) a b
 |[],a,b,i,h=>by
  cases i<;>exact h
 |r::l,a,b,0,h=>by
  obtain⟨e1,e2⟩:=hf r;refine⟨e1.trans h.1,by rw[e2];exact h.2.1,by rw[e2];exact h.2.2.1,?_⟩;rw[e2];exact h.2.2.2
 |r::l,a,b,i+1,h=>⟨h.1,h.2.1,h.2.2.1,Ch.pw f hf h.2.2.2⟩
theorem St.push{st:SortSt}{lo n:Nat}(S:St κ ks ae st lo)(n1:1<=n)(hn:lo+n<=ae.size)(sg:Seg κ (arrOf st) lo (lo+n)):St κ ks ae (setPending st ((pendingOf st).push (lo,n,0))) (lo+n):=by
 refine⟨⟨S.base.kind,S.base.ok,S.base.pm⟩,?_,hn⟩;show Ch κ (arrOf st) ((pendingOf st).push (lo,n,0)).toList 0 (lo+n);rw[Array.toList_push];exact Ch.split.mpr ⟨lo,S.ch,rfl,n1,sg,rfl⟩
theorem St.pw{st:SortSt}{lo i:Nat}(S:St κ ks ae st lo)(f:Run->Run)(hf:∀r,(f r).1=r.1/\(f r).2.1=r.2.1):St κ ks ae (setPending st ((pendingOf st).modify i f)) lo:=by
 refine⟨⟨S.base.kind,S.base.ok,S.base.pm⟩,?_,S.le⟩;show Ch κ (arrOf st) ((pendingOf st).modify i f).toList 0 lo;rw[Array.toList_modify];exact S.ch.pw f hf
theorem vL(hL:LtAll prog w A E s κ ks)(h0:KeysOf κ ae){st:SortSt}{lo n x:Nat}(S:St κ ks ae st lo)(n1:1<=n)(hn:lo+n<=ae.size)(sg:Seg κ (arrOf st) lo (lo+n))(hx:x<=lo){Q:ForInStep (Option Unit×Nat)->SortSt->Prop}
  (h:∀Zq,St κ ks ae Zq (lo+n)->Q (.yield (none,lo+n)) Zq):wpS (model prog w) A E s (rest ae.size lo n) Q st:=by
 unfold rest;refine wpS_bind (wpS_get ?_)
 cases(pendingOf st).back? with
 |none=>exact wpS_bind (wpS_modify (wpS_pure (h _ (S.push n1 hn sg))))
 |some q=>
  obtain⟨s1,CH,p1⟩:=q;dsimp only;refine wpS_bind (wpS_mono (wpS_forRange (I:=fun _ c Zq=>c=(none,())/\St κ ks ae Zq lo/\Seg κ (arrOf Zq) lo (lo+n)) (Q:=fun c Zq=>c=(none,())/\St κ ks ae Zq lo/\Seg κ (arrOf Zq) lo (lo+n)) ?_ (fun _ _ z=>z) ⟨rfl,S,sg⟩) ?_)
  .rintro y c Zq _ _ ⟨rfl,S',ff⟩;refine wpS_bind (wpS_get ?_);by_cases h1:(pendingOf Zq).size>1
   .rw[zAx h1];have hl:(pendingOf Zq).size-2<(pendingOf Zq).size:=Zz
    rw[Array.getElem?_eq_getElem hl]
    obtain⟨⟨a1,a2,mB⟩,eo⟩:∃r,r=(pendingOf Zq)[(pendingOf Zq).size-2]:=⟨_,rfl⟩
    rw[<-eo];dsimp only;split
    .exact wpS_pure ⟨rfl,S',ff⟩
    .refine wpS_bind (sW hL h0 S' Zz fun st2 S2 _ o2=>?_);rw[zAw Zx];exact wpS_pure ⟨rfl,S2,sV ff fun k k1 _=>o2 k k1⟩
   .rw[zAw h1];exact wpS_pure ⟨rfl,S',ff⟩
  .rintro c Zq ⟨rfl,S',ff⟩;dsimp only;refine wpS_bind (wpS_modify (wpS_bind (wpS_modify (wpS_pure (h _ ?_)))));exact(S'.pw (fun x=>(x.1,x.2.1,power' ae.size (2*s1+CH) (2*s1+CH+CH+n) ae.size)) fun _=>⟨rfl,rfl⟩).push n1 hn ff
theorem ifl(c:Prop)[Decidable c](n:Nat):(if c then n-1 else n)<=n:=by split<;>lia
theorem runs_wp(hL:LtAll prog w A E s κ ks)(h0:KeysOf κ ae){st:SortSt}(B:SB ks ae st)(hp:pendingOf st=#[]){Q:Unit->SortSt->Prop}
  (h:∀Zq,SB ks ae Zq->Seg κ (arrOf Zq) 0 ae.size->Q () Zq):wpS (model prog w) A E s sortRuns' Q st:=by
 rw[sortRuns'_eq];refine wpS_bind (wpS_get ?_);dsimp only;rw[B.size];generalize minRun' ae.size ae.size 0=mr;refine wpS_bind (wpS_mono (wpS_forRange (I:=fun x c Zq=>c.1=none/\St κ ks ae Zq c.2/\x<=c.2) (Q:=fun c Zq=>c.1=none/\St κ ks ae Zq ae.size) ?_ ?_ ⟨rfl,⟨B,by rw[hp];rfl,zAp _⟩,zA3 _⟩) ?_)
 .rintro x ⟨c0,lo⟩ Zq _ hx ⟨rfl,S,c9⟩;dsimp only at S c9⊢;by_cases mx:lo≥ae.size
  .rw[zAx mx]
   have e:lo=ae.size:=by
    have:=S.le;lia
   refine wpS_pure ⟨rfl,?_⟩;rw[<-e];exact S
  .rw[if_neg mx];refine wpS_bind (zg hL h0 Zz Zz S.base fun n fe B1 O1 n1 n2 IA=>?_);dsimp only
   have S1:St κ ks ae fe lo:=⟨B1,by rw[O1.pend];exact S.ch.same fun k _ k2=>O1.out k (.inl k2),S.le⟩
   have tr:∀{m m':Sm (ForInStep (Option Unit×Nat))} {R:ForInStep (Option Unit×Nat)->SortSt->Prop} {st2:SortSt},m=m'->wpS (model prog w) A E s m' R st2->wpS (model prog w) A E s m R st2:=fun e h=>e▸h;by_cases hm:n<mr
   .rw[if_pos hm];refine wpS_bind (wpS_lift (wpAny_rule ⟨rfl,?_⟩));refine wpS_bind (G6 hL h0 Zz Zz B1 IA fun st2 B2 O2 bq=>?_);rw[if_neg Zx];refine tr ?_ (vL hL h0 ⟨B2,by rw[O2.pend];exact S1.ch.same fun k _ k2=>O2.out k (.inl k2),S.le⟩ Zz Zz bq c9 fun gi S3=>⟨rfl,S3,by dsimp only;lia⟩)
    .skip
     unfold rest;refine bc rfl (funext fun s=>?_)
     cases(pendingOf s).back? with
     |none=>rfl
     |some q=>
      obtain⟨s1,n1,p⟩:=q;refine bc (fi (funext fun x=>funext fun c=>bc rfl (funext fun s=>?_))) (funext fun c=>?_)
      .generalize(if(pendingOf s).size>1 then(pendingOf s)[(pendingOf s).size-2]? else none)=o
       cases o with
       |none=>rfl
       |some r=>
        obtain⟨r1,r2,r3⟩:=r;exact ic rfl (bc rfl (funext fun b=>rfl))
      .obtain⟨r,u⟩:=c;cases r<;>rfl
   .rw[if_neg hm];refine tr ?_ (vL hL h0 S1 n1 Zz IA c9 fun gi S3=>⟨rfl,S3,by dsimp only;lia⟩)
    .skip
     unfold rest;refine bc rfl (funext fun s=>?_)
     cases(pendingOf s).back? with
     |none=>rfl
     |some q=>
      obtain⟨s1,n1,p⟩:=q;refine bc (fi (funext fun x=>funext fun c=>bc rfl (funext fun s=>?_))) (funext fun c=>?_)
      .generalize(if(pendingOf s).size>1 then(pendingOf s)[(pendingOf s).size-2]? else none)=o
       cases o with
       |none=>rfl
       |some r=>
        obtain⟨r1,r2,r3⟩:=r;exact ic rfl (bc rfl (funext fun b=>rfl))
      .obtain⟨r,u⟩:=c;cases r<;>rfl
 .rintro⟨c0,lo⟩ Zq ⟨h1,S,h2⟩;dsimp only at h1 S h2⊢
  have e:lo=ae.size:=by
   have:=S.le;lia
  rw[<-e];exact⟨h1,S⟩
 .rintro⟨c0,lo⟩ Zq ⟨h1,S⟩;dsimp only at h1;subst h1;dsimp only
  have one:∀{Zq:SortSt},St κ ks ae Zq ae.size->(pendingOf Zq).size<=1->Seg κ (arrOf Zq) 0 ae.size:=fun{Zq} S hs=>by
   have c:=S.ch;rw[<-zA9]at hs
   cases e:(pendingOf Zq).toList with
   |nil=>
    rw[e]at c;have c:0=ae.size:=c;intro i j _ _ h3;lia
   |cons r l=>
    rw[e]at c hs
    have l0:l=[]:=by
     cases l with
     |nil=>rfl
     |cons _ _=>rw[zAe,zAe]at hs;lia
    rw[l0]at c;obtain⟨_,_,sg,c4⟩:=c;have c4:0+r.2.1=ae.size:=c4;rw[c4]at sg;exact sg
  have p0:(pendingOf Zq).size<=ae.size:=by
   have:=Ch.le S.ch;rw[zA9]at this;lia
  refine wpS_bind (wpS_mono (wpS_forRange (I:=fun x c st2=>c=(none,())/\St κ ks ae st2 ae.size/\(pendingOf st2).size+x<=ae.size) (Q:=fun c st2=>c=(none,())/\St κ ks ae st2 ae.size/\(pendingOf st2).size<=1) ?_ ?_ ⟨rfl,S,Zz⟩) ?_)
  .rintro x c st2 _ hx ⟨rfl,S2,uS⟩;refine wpS_bind (wpS_get ?_);by_cases h1:(pendingOf st2).size<=1
   .rw[zAx h1];exact wpS_pure ⟨rfl,S2,h1⟩
   .rw[zAw h1];have hz:2<=(pendingOf st2).size:=Zz
    refine wpS_bind (sW hL h0 S2 (Nat.lt_of_le_of_lt (Nat.succ_le_succ (ifl _ _)) (show(pendingOf st2).size-2+1<(pendingOf st2).size by lia)) fun gi S3 z3 _=>?_);rw[zAw Zx];exact wpS_pure ⟨rfl,S3,Zz⟩
  .rintro c st2 ⟨rfl,S2,uS⟩;exact⟨rfl,S2,Zz⟩
  .rintro c st2 ⟨rfl,S2,uS⟩;exact wpS_pure (h st2 S2.base (one S2 uS))
end
end Srt
namespace L2
open PySem PySem.Spec PyProof.Rows PySem.Calls
theorem kY:∀a:List Int,HT.lexLt a a=false
 |[]=>rfl
 |x::xs=>by
  rw[HT.lexLt_cons,zAx rfl];exact kY xs
theorem kZ:∀a b:List Int,HT.lexLt a b=false->HT.lexLt b a=false->a=b
 |[],[],_,_=>rfl
 |[],_::_,h,_=>by cases h
 |_::_,[],_,h=>by cases h
 |x::xs,y::ys,h1,h2=>by
  rw[HT.lexLt_cons]at h1 h2;by_cases e:x=y
  .subst e;rw[zAx rfl]at h1 h2;rw[kZ xs ys h1 h2]
  .rw[zAw e]at h1;rw[zAw (Ne.symm e)]at h2;have h1:=of_decide_eq_false h1;have h2:=of_decide_eq_false h2;lia
theorem qH:∀a b c:List Int,HT.lexLt a b=true->HT.lexLt b c=true->HT.lexLt a c=true
 |[],[],_,h,_=>by cases h
 |[],_::_,[],_,h=>by cases h
 |[],_::_,_::_,_,_=>rfl
 |_::_,[],_,h,_=>by cases h
 |_::_,_::_,[],_,h=>by cases h
 |x::xs,y::ys,z::zs,h1,h2=>by
  rw[HT.lexLt_cons]at h1 h2⊢;by_cases e1:x=y
  .subst e1;rw[zAx rfl]at h1;by_cases e2:x=z
   .subst e2;rw[zAx rfl]at h2⊢;exact qH xs ys zs h1 h2
   .rw[zAw e2]at h2⊢;exact h2
  .rw[zAw e1]at h1;have h1:=zB2 h1;by_cases e2:y=z
   .subst e2;rw[zAw e1];exact zAt h1
   .rw[zAw e2]at h2;have h2:=zB2 h2;rw[zAw Zz];exact zAt Zz
theorem vM(a b c:List Int)(h:HT.lexLt a c=true):HT.lexLt a b=true\/HT.lexLt b c=true:=by
 cases e1:HT.lexLt a b with
 |true=>exact .inl rfl
 |false=>
  cases e2:HT.lexLt b a with
  |true=>exact .inr (qH b a c e2 h)
  |false=>exact .inr (by rw[<-kZ a b e1 e2];exact h)
def Cu(ads:List Addr)(row:Addr->List Int):PyProof.Rows.KeyKind where
 α:=List Int
 blt:=HT.lexLt
 irrefl:=kY
 trans:=qH
 negTrans:=vM
 total:=kZ
 keyOf:=fun u=>match u with
  |.ref a=>if ads.contains a=true then some (row a)else none
  |_=>none
 dflt:=[]
section
open PySem.W
variable{prog:Program}{w:World}{A:Around}{E:Value->Shared->Prop}{s:Shared}
theorem zq{Q:Bool->Shared->Prop}:∀{ns ms:List Int} {us vs:List Value} {i:Nat},Vals (ns.map V.int) us->Vals (ms.map V.int) vs->Q (HT.lexLt ns ms) s->KatLex prog w A true (decide (ns.length<ms.length)) Q (us.zip vs) i s
 |[],[],_,_,_,.nil,.nil,h=>h
 |[],_::_,_,_,_,.nil,.cons _ _,h=>by
  refine kat_nil ?_;rw[decide_eq_true Zy];exact h
 |_::_,[],_,_,_,.cons _ _,.nil,h=>by
  refine kat_nil ?_;rw[decide_eq_false Zy];exact h
 |x::ns,y::ms,_,_,i,.cons r1 t1,.cons r2 t2,h=>by
  obtain⟨k1,rfl⟩:=r1;obtain⟨k2,rfl⟩:=r2;rw[HT.lexLt_cons]at h;refine kat_cons (wpAny_eqBool_int ?_);by_cases e:x=y
  .subst e;rw[zAx rfl]at h;rw[show(x==x)=true from beq_self_eq_true x];refine kat_yes ?_;have:=zq (i:=i+1) t1 t2 h;rw[show decide ((x::ns).length<(x::ms).length)=decide (ns.length<ms.length) by rw[zAe,zAe];exact decide_eq_decide.mpr Zz];exact this
  .rw[zAw e]at h;rw[show(x==y)=false from beq_false_of_ne e];refine kat_no ?_
   cases hi:(true&&i==0)with
   |true=>exact oneLt_int h
   |false=>exact kat_one _ _ (lt_int h)
theorem Cv{x y:Addr}{ox oy:Obj}{nx ny:Nat}{ns ms:List Int}{us vs:List Value}{Q:Bool->Shared->Prop}(hx:s.heap.get? x=some ox)(dx:ox.data=.seq us.toArray nx)(hy:s.heap.get? y=some oy)(dy:oy.data=.seq vs.toArray ny)
  (r1:Vals (ns.map V.int) us) (r2:Vals (ms.map V.int) vs) (h:Q (HT.lexLt ns ms) s):wpAny (model prog w) A (keyLt' (tuples' true) (.ref x) (.ref y)) Q E s:=by
 refine kat_lt hx dx hy dy ?_;have l1:=r1.length;have l2:=r2.length;rw[zA1]at l1 l2;have:=zq (prog:=prog) (w:=w) (A:=A) (s:=s) (Q:=Q) (i:=0) r1 r2 h;rw[zA8,zA8,<-l1,<-l2];exact this
theorem Cw{l:Addr}{vs:List Value}{Q:Value->Shared->Prop}{R:List Value->Prop}(lst:s.heap.IsList l vs.toArray)(fits:vs.length<=sizeLine)(small:vs.length<2->R vs)
  (big:2<=vs.length->∀g,(∀b o,s.heap.get? b=some o->g.get? b=some o)->wpAny (model prog w) A.in1.in1 (keyKind' vs.toArray) (fun κ s1=>s1={s with heap:=g} /\
    wpS (model prog w) A.in1.in1 (fun _ _=>False) {s with heap:=g} sortRuns' (fun _ st=>failedOf st=none/\∃out,(arrOf st).map (·.2)=List.toArray out/\R out) (SortSt.mk' κ (vs.toArray.zip vs.toArray) #[] 7 none)) (fun _ _=>False) {s with heap:=g})
  (len:∀out,R out->out.length=vs.length)
  (fin:∀out,R out->∀h2 c,(∀b o,s.heap.get? b=some o->h2.get? b=some o)->h2.get? (s.heap.objs.size+1)=some (seqObj "list" out.toArray c)->Q (.ref (s.heap.objs.size+1)) {s with heap:=h2}):
  wpAny (model prog w) A (call (.builtin "sorted") [.ref l]) Q E s:=by
 refine call_function_entry kind_sorted plain_sorted entry_sorted (args_sorted1 _) ?_;unfold Builtin.«sorted»;refine zAu (m:=checkCount "sorted" 1 1 _) (zAy (zAu (collect_list lst ?_ fits)));refine zAu (wpAny_newList ?_ fits);have iO:((s.heap.push (seqObj "list" #[] 0)).update s.heap.objs.size (Obj.mapSeq (·++vs.toArray))).objs.size=s.heap.objs.size+1:=by rw[Heap.size_update,Heap.size_push]
 obtain⟨g1,vx⟩:∃g1,g1=((s.heap.push (seqObj "list" #[] 0)).update s.heap.objs.size (Obj.mapSeq (·++vs.toArray))).push (seqObj "list" vs.toArray 0):=⟨_,rfl⟩
 have vE:g1.get? (s.heap.objs.size+1)=some (seqObj "list" vs.toArray 0):=by rw[vx,<-iO];exact zB3 _ rfl
 have LV:∀b o,s.heap.get? b=some o->g1.get? b=some o:=fun b o q=>by
  have lt:b<s.heap.objs.size:=zB0 q;rw[vx,Heap.get?_push_ne _ _ _ (by rw[iO];exact zB7 (Nat.lt_succ_of_lt lt)),Heap.get?_update_ne _ _ _ _ (zB7 lt),Heap.get?_push_ne _ _ _ (zB7 lt)];exact q
 show wpAny _ _ _ _ _ {s with heap:=_};rw[iO,show((s.heap.push (seqObj "list" #[] 0)).update s.heap.objs.size (Obj.mapSeq (·++vs.toArray))).push (seqObj "list" vs.toArray 0)=g1 from vx.symm];refine zAu (wpAny_holding (wpAny_call_entry slot_list_sort ⟨_,vE,rfl⟩ entry_list_sort ?body (args_list_sort _)))
 obtain⟨D,eD⟩:∃D,D=s.heap.objs.size+1:=⟨_,rfl⟩
 rw[<-eD]at vE fin⊢
 have apart:∀b o,s.heap.get? b=some o->b≠D:=fun b o q e=>by
  have lt:b<s.heap.objs.size:=zB0 q;rw[e,eD]at lt;exact absurd lt (Nat.not_lt_of_le (Nat.le_succ _))
 obtain⟨g2,CI⟩:∃g2,g2=g1.update D (Obj.mapSeq fun _=>(#[]:Array Value)):=⟨_,rfl⟩
 have LW:Heap.SameBut D g1 g2:=CI▸Heap.SameBut.update g1 D _
 obtain⟨e1,at2⟩:∃e1,g2.get? D=some (seqObj "list" #[] e1):=⟨_,CI▸get?_update_seq vE fun _=>#[]⟩
 obtain⟨g3,CL⟩:∃g3,g3=(g2.push (seqObj "tuple" vs.toArray 0)).push (seqObj "list" #[] 0):=⟨_,rfl⟩
 have rL:g3.get? D=some (seqObj "list" #[] e1):=CL▸Heap.get?_push_of_some _ (Heap.get?_push_of_some _ at2);have CM:∀b o,s.heap.get? b=some o->g3.get? b=some o:=fun b o q=>CL▸Heap.get?_push_of_some _ (Heap.get?_push_of_some _ ((LW.2 b (apart b o q)).trans (LV b o q)));rw[list_sort_plain];refine wpAny_bind (listItems_at vE rfl (wpAny_bind (listUpdate_at vE rfl ?_ (by rw[zA8];exact fits) (zAp _))));rw[<-CI];refine wpAny_bind (seqEpoch_at at2 rfl (wpAny_bind (wpAny_newTuple (wpAny_bind (wpAny_newList (wpAny_holding ?_) (zAp _))) fits)));show wpAny (model prog w) A.in1.in1 _ _ _ {s with heap:=(g2.push (seqObj "tuple" vs.toArray 0)).push (seqObj "list" #[] 0)};rw[<-CL];dsimp only;by_cases two:vs.toArray.size<2
 .have pz:vs.length<2:=by rw[zA8]at two;exact two
  rw[if_pos two,if_pos two];refine wpAny_bind (wpAny_pure ?_);show wpAny _ _ (do let r <-(pure ((),SortSt.mk' general' (vs.toArray.zip vs.toArray) #[] 7 none):Sem (Unit×SortSt));_) _ _ _;refine wpAny_bind (wpAny_pure ?_);dsimp only
  have em:(vs.toArray.zip vs.toArray).map (·.2)=vs.toArray:=by
   apply Array.toList_inj.mp;simp only[Array.toList_map,Array.toList_zip];exact List.map_snd_zip (zA3 _)
  rw[em];refine wpAny_bind (seqEpoch_at rL rfl (wpAny_bind (listUpdate_at rL rfl ?_ (zAp _) (by rw[zA8];lia))));simp only[bne_self_eq_false,Bool.false_eq_true,if_false];have CO:=Heap.SameBut.update g3 D (Obj.mapSeq fun _=>vs.toArray);exact wpAny_pure ⟨_,rfl,wpAny_pure ⟨_,rfl,fin vs (small pz) _ _ (fun b o z=>(CO.2 b (apart b o z)).trans (CM b o z)) (get?_update_seq rL _)⟩⟩
 .have pz:2<=vs.length:=by rw[zA8]at two;lia
  rw[if_neg two,if_neg two];refine wpAny_bind (wpAny_mono (big pz g3 CM) (fun κ s1 ⟨kS,run⟩=>?_) fun _ _ x=>x.elim);subst kS;refine wpAny_bind (wpAny_mono run ?_ fun _ _ x=>x.elim);rintro⟨⟨⟩,st⟩ s2 ⟨LX,IB,out,vF,hR⟩;subst LX;dsimp only at IB vF⊢;rw[vF];refine wpAny_bind (seqEpoch_at rL rfl (wpAny_bind (listUpdate_at rL rfl ?_ (zAp _) (by rw[zA8,len out hR];lia))));rw[IB];simp only[bne_self_eq_false,Bool.false_eq_true,if_false];have CO:=Heap.SameBut.update g3 D (Obj.mapSeq fun _=>out.toArray);exact wpAny_pure ⟨_,rfl,wpAny_pure ⟨_,rfl,fin out hR _ _ (fun b o z=>(CO.2 b (apart b o z)).trans (CM b o z)) (get?_update_seq rL _)⟩⟩
theorem mK{g:Heap}{ads:List Addr}{row:Addr->List Int}:∀{l:List Addr},(∀a∈l,∃(us:List Value) (o:Obj) (n:Nat),g.get? a=some o/\o.cls=.type "tuple"/\o.data=.seq us.toArray n/\Vals ((row a).map V.int) us/\row a≠[])->∃fs,KatTups g (l.map Value.ref) fs/\fs.length=l.length/\∀v∈fs,∃i t,v=.int i t
 |[],_=>⟨[],.nil,rfl,fun _ h=>absurd h Zy⟩
 |a::l,h=>by
  obtain⟨us,o,n,h1,h2,h3,h4,h5⟩:=h a (.head _);obtain⟨fs,k,hl,hi⟩:=mK (ads:=ads) (row:=row) (l:=l) fun b hb=>h b (.tail _ hb)
  cases er:row a with
  |nil=>exact absurd er h5
  |cons i r=>
   rw[er]at h4
   cases h4 with
   |cons r1 t1=>
    obtain⟨t,rfl⟩:=r1;refine⟨_,.cons h1 h2 h3 (f:=.int i t) Zy k,by rw[List.length_cons,List.length_cons,hl],fun v hv=>?_⟩;rcases zAo.mp hv with z|z
    .exact⟨i,t,z⟩
    .exact hi v z
theorem Cy{l:List Addr}{row:Addr->List Int}{Q:SortKind->Shared->Prop}(obj:∀a∈l,∃(us:List Value) (o:Obj) (n:Nat),s.heap.get? a=some o/\o.cls=.type "tuple"/\o.data=.seq us.toArray n/\Vals ((row a).map V.int) us/\row a≠[])(hl:0<l.length)(h:Q (tuples' true) s):
  wpAny (model prog w) A (keyKind' (l.map Value.ref).toArray) Q E s:=by
 obtain⟨fs,kt,fl,fi⟩:=mK (ads:=l) (row:=row) obj;refine PySem.W.kat_kind (T:=.type "int") kt (by rw[fl];exact hl) (fun v hv=>?_) Zx h;obtain⟨i,t,rfl⟩:=fi v hv;exact .now
theorem uO{l:List Addr}{row:Addr->List Int}(obj:∀a∈l,∃(us:List Value) (o:Obj) (n:Nat),s.heap.get? a=some o/\o.cls=.type "tuple"/\o.data=.seq us.toArray n/\Vals ((row a).map V.int) us/\row a≠[]):
  Srt.LtAll prog w A E s (Cu l row) (tuples' true):=fun st hk x y a b Q' ka kb hQ=>by
 obtain⟨x1,x2⟩:=x;obtain⟨y1,y2⟩:=y
 cases x1 with
 |ref xa=>
  cases y1 with
  |ref ya=>
   have ka:(if l.contains xa=true then some (row xa)else none)=some a:=ka;have kb:(if l.contains ya=true then some (row ya)else none)=some b:=kb;by_cases c1:l.contains xa=true
   .rw[zAx c1]at ka;by_cases c2:l.contains ya=true
    .rw[if_pos c2]at kb;cases ka;cases kb;obtain⟨QX,o1,n1,g1,_,d1,r1,_⟩:=obj xa (by simpa using c1);obtain⟨QY,o2,n2,g2,_,d2,r2,_⟩:=obj ya (by simpa using c2);rw[lt'_eq];refine wpS_bind (wpS_get ?_);rw[hk];refine wpS_bind (wpS_lift (wpAny_attempt (Cv g1 d1 g2 d2 r1 r2 ⟨rfl,?_⟩)));exact wpS_pure hQ
    .rw[zAw c2]at kb;cases kb
   .rw[zAw c1]at ka;cases ka
  |_=>cases kb
 |_=>cases ka
theorem sX(l:List Addr):((l.map Value.ref).toArray.zip (l.map Value.ref).toArray).toList=l.map fun a=>(Value.ref a,Value.ref a):=by
 rw[Array.toList_zip];show(l.map Value.ref).zip (l.map Value.ref)=_;rw[List.zip_map']
theorem oU(l:List Addr)(row:Addr->List Int):KeysOf (Cu l row) ((l.map Value.ref).toArray.zip (l.map Value.ref).toArray):=fun z cE=>by
 rw[sX]at cE;obtain⟨a,ha,rfl⟩:=zA5.mp cE;refine⟨row a,?_⟩;show(if l.contains a=true then some (row a)else none)=some (row a);rw[if_pos (by simpa using ha)]
def zr(p:Keyed):Addr:=match p.1 with
 |.ref a=>a
 |_=>0
theorem sY{l:List Addr}{row:Addr->List Int}{a:Addr}(h:a∈l):Srt.key (Cu l row) (Value.ref a,Value.ref a)=row a:=by
 show(if l.contains a=true then some (row a)else none).getD []=row a;rw[if_pos (by simpa using h)];rfl
theorem xT{l:List Addr}{row:Addr->List Int}(obj:∀a∈l,∃(us:List Value) (o:Obj) (n:Nat),s.heap.get? a=some o/\o.cls=.type "tuple"/\o.data=.seq us.toArray n/\Vals ((row a).map V.int) us/\row a≠[]){Q:Unit->SortSt->Prop}
  (h:∀st (l':List Addr),failedOf st=none->(arrOf st).map (·.2)=List.toArray (l'.map Value.ref)->l'.Perm l->l'.Pairwise (fun a b=>HT.lexLt (row b) (row a)=false)->Q () st):
  wpS (model prog w) A E s sortRuns' Q (SortSt.mk' (tuples' true) ((l.map Value.ref).toArray.zip (l.map Value.ref).toArray) #[] 7 none):=by
 refine Srt.runs_wp (κ:=Cu l row) (ks:=tuples' true) (uO obj) (oU l row) ⟨rfl,rfl,.refl _⟩ rfl fun Zq B sg=>?_;have rS:=Array.perm_iff_toList_perm.mp B.pm;rw[sX]at rS
 have e:(arrOf Zq).toList=((arrOf Zq).toList.map zr).map (fun a=>(Value.ref a,Value.ref a)):=by
  rw[zAr]
  conv=>lhs;rw[<-List.map_id (arrOf Zq).toList]
  refine List.map_congr_left fun z cE=>?_;obtain⟨a,ha,rfl⟩:=zA5.mp (rS.mem_iff.mp cE);rfl
 have pm:((arrOf Zq).toList.map zr).Perm l:=by
  have:=rS.map zr;rw[zAr]at this;rw[show(zr∘fun a=>(Value.ref a,Value.ref a))=id from rfl,List.map_id]at this;exact this
 generalize(arrOf Zq).toList.map zr=l' at e pm;refine h Zq l' B.ok ?_ pm ?_
 .apply Array.toList_inj.mp;rw[Array.toList_map,e,zAr];rfl
 .have ka:=Srt.keys_perm (oU l row) B.pm;have:=Srt.pw_of_seg ka (by rw[B.size];exact zA3 _) sg;rw[List.drop_zero,<-B.size,<-zA9,zAm,e,List.pairwise_map]at this;refine this.imp_of_mem fun{a b} ha hb hle=>?_;unfold Srt.leK at hle;rw[sY (pm.mem_iff.mp ha),sY (pm.mem_iff.mp hb)]at hle;exact hle
end
section
variable{X:Cx}
theorem iB:∀{l:List Addr} {us:List Value},Vals (l.map V.ref) us->us=l.map Value.ref
 |[],_,.nil=>rfl
 |a::l,_,.cons r t=>by
  rw[iB t,show _=Value.ref a from r];rfl
theorem vN:∀(l:List Addr),Vals (l.map V.ref) (l.map Value.ref)
 |[]=>.nil
 |_::l=>.cons rfl (vN l)
theorem zu{α:Type}{R:α->α->Prop}:∀{l:List α},l.length<2->l.Pairwise R
 |[],_=>.nil
 |[_],_=>List.pairwise_singleton _ _
 |_::_::_,h=>absurd h Zy
theorem fW:dU X (.builtin "sorted") (fun xs H Q=>∃(p:Addr) (l:List Addr) (row:Addr->List Int),xs=[.ref p]/\SqL X.K H p (l.map V.ref)/\(∀a∈l,SqT X.K H a ((row a).map V.int)/\row a≠[]) /\
  ∀(q:Addr) (l':List Addr),H q=none->q≠sysModules->l'.Perm l->l'.Pairwise (fun a b=>HT.lexLt (row b) (row a)=false)->Q (.ref q) (upd H q (.lst (l'.map V.ref)))):=by
 intro Zt s σ H xs us Q I r h;obtain⟨p,l,row,rfl,hp,pE,q⟩:=h;obtain⟨u,rfl,ru⟩:=vals1 r;cases ru;obtain⟨Zr,rv,pl,hz⟩:=I.list hp;have ei:=iB rv;subst ei
 have hlen:(l.map Value.ref).length<=sizeLine:=by
  rw[zA1]at hz⊢;exact hz
 have obj:∀a∈l,∃(us:List Value) (o:Obj) (n:Nat),s.heap.get? a=some o/\o.cls=.type "tuple"/\o.data=.seq us.toArray n/\Vals ((row a).map V.int) us/\row a≠[]:=fun a ha=>by
  obtain⟨ht,c8⟩:=pE a ha;obtain⟨as,ra,pa,_⟩:=I.tuple ht;obtain⟨oa,ga,ca,na,da⟩:=pa;exact⟨as,oa,na,ga,ca,da,ra,c8⟩
 refine Cw (R:=fun out=>∃l':List Addr,out=l'.map Value.ref/\l'.Perm l/\l'.Pairwise fun a b=>HT.lexLt (row b) (row a)=false) pl.isList hlen (fun hs=>⟨l,rfl,.refl _,?_⟩) (fun hb g kp=>?_) (fun out ⟨l',e,pm,_⟩=>by rw[e,zA1,zA1,pm.length_eq]) fun out ⟨l',e,pm,pw⟩ h2 c kp2 at2=>?_
 .rw[zA1]at hs;exact zu hs
 .have vS:∀a∈l,∃(us:List Value) (o:Obj) (n:Nat),g.get? a=some o/\o.cls=.type "tuple"/\o.data=.seq us.toArray n/\Vals ((row a).map V.int) us/\row a≠[]:=fun a ha=>by
   obtain⟨us,o,n,h1,h2⟩:=obj a ha;exact⟨us,o,n,kp _ _ h1,h2⟩
  refine Cy (s:={s with heap:=g}) vS (by rw[zA1]at hb;lia) ?_;refine⟨rfl,xT (s:={s with heap:=g}) vS fun st l' e1 e2 e3 e4=>⟨e1,l'.map Value.ref,e2,l',rfl,e3,e4⟩⟩
 .subst e;exact⟨.ref (s.heap.objs.size+1),_,I.laid (t':=s.toks) kp2 (Nat.le_succ _) (show ObjOk X.prog X.w _ h2 _ (.lst (l'.map V.ref))from⟨by rw[zA1,pm.length_eq];rw[zA1]at hz;exact hz,_,c,vN l',at2⟩),rfl,q _ l' (I.hok.fresh (Nat.le_succ _)) (Nat.ne_of_gt (zB4 I.big (Nat.le_succ _))) pm pw⟩
theorem qI:dU X (.builtin "sorted") (fun xs H Q=>∃(p:Addr) (l:List Addr) (row:Addr->List Int),xs=[.ref p]/\SqL X.K H p (l.map V.ref)/\(∀a∈l,SqT X.K H a ((row a).map V.int)/\row a≠[]) /\
  ∀(q:Addr) (l':List Addr),H q=none->l'.Perm l->l'.Pairwise (fun a b=>HT.lexLt (row b) (row a)=false)->Q (.ref q) (upd H q (.lst (l'.map V.ref)))):=by
 intro Zt s σ H xs us Q I r h;obtain⟨p,l,row,e,hp,pE,q⟩:=h;exact fW Zt s σ H xs us Q I r ⟨p,l,row,e,hp,pE,fun q' l' a _ b c=>q q' l' a b c⟩
end
theorem xU{M:Model}{A:Around}{E:Value->Shared->Prop}{s:Shared}{a b:Value}{Q:Value->Shared->Prop}(ha:s.TypeIs a "list")(hb:s.TypeIs b "list")(hc:wpAny M A (call (.builtin "list.__iadd__") [a,b]) Q E s):wpAny M A (inplaceOp .Add a b) Q E s:=by
 unfold inplaceOp;refine wpAny_holding ?_;have hl:typeLookup (.type "list") (dunderI "add")=pure (some (.builtin "list.__iadd__")):=F.slot_list_iadd.lookup
 have LY:fillsInplaceSlot (.type "list") "add" (Operator.Add==.Add)=pure false:=by
  unfold fillsInplaceSlot;show(typeLookup (.type "list") (dunderI "add")>>=fun fi=>pure (fi.isSome&&!isSeqSlot fi))=pure false;rw[hl];have:isSeqSlot (some (.builtin "list.__iadd__"))=true:=by decide +kernel
  show(pure (true&&!isSeqSlot (some (.builtin "list.__iadd__"))):Sem Bool)=_;rw[this];rfl
 have LZ:seqSlot? (.type "list") (dunderI "add")=pure (some (.builtin "list.__iadd__")):=PySem.seqSlot_of F.slot_list_iadd.lookup Zv;refine zAu (wpAny_typeOf ha (zAu (wpAny_of_eq LY ?_)));show wpAny M A (if false=true then _ else _) Q E s;rw[zAw zAg];refine zAu (wpAny_binaryOp1_none (nm:="add") ha hb noFill_list_add ?_);refine zAu (wpAny_of_eq LZ ?_);exact zAu (wpAny_rule hc)
inductive RICatI(x:V)(y:V)(H:Hp)(Q:VK):Prop
 |mk:∀l b xs zs,(x=.ref l)->(y=.ref b)->(H l=some (.lst xs))->(H b=some (.lst zs))->(xs.length+zs.length<=sizeLine)->(Q (.ref l) (upd H l (.lst (xs++zs))))->RICatI  x y H Q
def Ih:TIp:=fun x y H Q=>RICatI  x y H Q
theorem qJ{X:Cx}:PIp X .Add Ih:=by
 intro Zt s σ H x y v u Q I rx ru h;obtain⟨l,b,xs,zs,rfl,rfl,hH,hB,hz,q⟩:=h;cases rx;cases ru;obtain⟨z,Zr,n,r,hl,e⟩:=I.lstM hH;obtain⟨z2,br,n2,r2,ix,e2⟩:=I.lstM hB;have hsz:Zr.toArray.size+br.toArray.size<=sizeLine:=by rw[zA8,zA8];lia
 have eR:¬(!Zr.toArray.isEmpty&&Builtin.List.listTooLong (Zr.toArray.size+br.toArray.size))=true:=by
  rw[lN hsz,Bool.and_false];exact zAg
 refine xU ⟨_,e,rfl⟩ ⟨_,e2,rfl⟩ (call_meets F.slot_list_iadd ⟨_,e,rfl⟩ F.entry_list_iadd (F.args_list_iadd_2 _ _)
  (AutoSeq1.list___iadd___list_list_0 l Zr.toArray n b br.toArray n2 eR (by rw[zA8];lia) Zz) ⟨e,e2,?_⟩)
 refine⟨.ref l,_,I.lset (its':=Zr++br) hH e Zy (r.append r2) ?_,rfl,q⟩;rw[zA2];lia
open PySem PySem.Spec PyProof.Rows PySem.SeqAt
theorem sZ:∀ns:List Int,PyData.canLayAll0 (ns.map PyData.int)=true
 |[]=>rfl
 |_::r=>by simp[PyData.canLayAll0,PyData.canLay0,sZ r]
section
variable{prog:Program}{w:World}{A:Around}{E:Value->Shared->Prop}{s:Shared}{d it:Addr}{o:Obj}{es:Array DictEntry}{ep i:Nat}
theorem Cz{R:Value->Shared->Prop}(n1:(d==sysModules)=false)(g1:s.heap.get? d=some o)(g2:o.ExactDict)(g3:o.data=.dict es ep)
  (q:R (.ref s.heap.objs.size) {s with heap:=s.heap.push {cls:=.type "dict_keyiterator",data:=.fields #[.ref d,.int 0 0,.int es.size 0,.int ep 0]}}):wpAny (model prog w) A (pyIter (.ref d)) R E s:=by
 have ty:s.TypeIs (.ref d) "dict":=⟨o,g1,g2.1⟩
 refine wpAny_pyIter_slot ty F.slot_dict_iter (wpAny_call_entry F.slot_dict_iter ty F.entry_dict_iter ?_ (F.args_dict_iter_1 _));unfold Builtin.«dict.__iter__»;refine zAu ?_;unfold Builtin.Dict.dictSlotNone;refine zAu (wpAny_notOrdered_dict ty (show wpAny _ _ (pure (Value.ref d)) _ _ s from zAy ?_));show wpAny (model prog w) _ (Builtin.Dict.showsAll d>>=_) _ E s;unfold Builtin.Dict.showsAll;rw[n1,zAw zAg];refine zAu (zAy (zAu (wpAny_dictEntries g1 g3 (zAu (wpAny_dictEpoch g1 g3 ?_)))));refine zAu (wpAny_newObj_type (zAy ⟨_,rfl,"dict_keyiterator",_,⟨_,zB3 _ rfl,rfl⟩,F.slot_dict_keyiterator_next.lookup,?_⟩));exact q
theorem CG{e:DictEntry}{R:Option Value->Shared->Prop}(st:s.heap.IsKeyIter it d i es.size ep)(g1:s.heap.get? d=some o)(g3:o.data=.dict es ep)(hx:es[i]?=some e)
  (q:∀h',h'.IsKeyIter it d (i+1) es.size ep->Heap.SameBut it s.heap h'->R (some e.key) {s with heap:=h'}):wpAny (model prog w) A (pyNext (.ref it)) R E s:=by
 obtain⟨oi,i1,i2,i3⟩:=id st;have hb:i<es.size:=(Array.getElem?_eq_some_iff.mp hx).1;unfold pyNext;refine zAu (wpAny_attempt (wpAny_callSpecial?_slot (name:=Str.ofString "__next__") st.typeIs F.slot_dict_keyiterator_next (wpAny_call_entry F.slot_dict_keyiterator_next st.typeIs F.entry_dict_keyiterator_next ?_ (F.args_dict_keyiterator_next_1 _))));refine zAu (zAy (zAu (zAu ?_)));refine zAu (wpAny_typeNameOfWhole_keyiter st.typeIs (zAy (zAu (wpAny_fieldsOf i1 i3 ?_))));have ow:Builtin.Dict_items.ownsTuple "dict_keyiterator"=false:=by decide
 simp only[ow,Bool.false_eq_true,if_false];show wpAny (model prog w) _ (if(Value.ref d==Value.none)=true then _ else _) _ _ s;rw[if_neg (show¬(Value.ref d==Value.none)=true from zAg)];refine wpAny_bind (wpAny_pure (wpAny_bind (wpAny_dictEntries g1 g3 ?_)));rw[if_neg Zy];refine wpAny_bind (wpAny_pure (wpAny_bind (wpAny_dictEpoch g1 g3 ?_)));rw[if_neg Zy];refine wpAny_pure ?_;simp only[show¬((i:Int)<0)from by lia,if_false,Int.toNat_natCast,hx];refine wpAny_bind (wpAny_bind (wpAny_typeNameOfWhole_keyiter st.typeIs (wpAny_pure ?_)));refine wpAny_bind (wpAny_isOneOf_keyiter st.typeIs ?_);show wpAny (model prog w) _ (setField (.ref it) 1 (rawInt ((i:Int)+1))>>=_) _ _ s;refine wpAny_bind (wpAny_setField i1 i3 Zy ?_)
 have Zq:(s.heap.update it (Obj.mapFields (·.setIfInBounds 1 (rawInt ((i:Int)+1))))).IsKeyIter it d (i+1) es.size ep:=
  ⟨_,Heap.get?_update_self _ i1 (Obj.isFreed_of_fields (Obj.data_mapFields i3 _)),(Obj.cls_mapFields ..).trans i2,by rw[Obj.data_mapFields i3];simp[rawInt]⟩
 refine zAu (wpAny_holding (zAu (wpAny_isOneOf_keyiter (s:={s with heap:=s.heap.update it (Obj.mapFields (·.setIfInBounds 1 (rawInt ((i:Int)+1))))}) Zq.typeIs ?_)));show wpAny (model prog w) _ (pure e.key) _ _ _;exact zAy (zAy ⟨_,rfl,zAy (q _ Zq (Heap.SameBut.update ..))⟩)
theorem G7{R:Option Value->Shared->Prop}(hh:A.handled=none)(st:s.heap.IsKeyIter it d i es.size ep)(g1:s.heap.get? d=some o)(g3:o.data=.dict es ep)(hx:es.size<=i)
  (q:∀h',Heap.ExtBut it s.heap h'->R none {s with heap:=h'}):wpAny (model prog w) A (pyNext (.ref it)) R E s:=by
 obtain⟨oi,i1,i2,i3⟩:=id st;unfold pyNext;refine zAu (wpAny_attempt (wpAny_callSpecial?_slot (name:=Str.ofString "__next__") st.typeIs F.slot_dict_keyiterator_next (wpAny_call_entry F.slot_dict_keyiterator_next st.typeIs F.entry_dict_keyiterator_next ?_ (F.args_dict_keyiterator_next_1 _))));refine zAu (zAy (zAu (zAu ?_)));refine zAu (wpAny_typeNameOfWhole_keyiter st.typeIs (zAy (zAu (wpAny_fieldsOf i1 i3 ?_))));have ow:Builtin.Dict_items.ownsTuple "dict_keyiterator"=false:=by decide
 simp only[ow,Bool.false_eq_true,if_false];show wpAny (model prog w) _ (if(Value.ref d==Value.none)=true then _ else _) _ _ s;rw[if_neg (show¬(Value.ref d==Value.none)=true from zAg)];refine wpAny_bind (wpAny_pure (wpAny_bind (wpAny_dictEntries g1 g3 ?_)));rw[if_neg Zy];refine wpAny_bind (wpAny_pure (wpAny_bind (wpAny_dictEpoch g1 g3 ?_)));rw[if_neg Zy];refine wpAny_pure ?_;simp only[show¬((i:Int)<0)from by lia,if_false,Int.toNat_natCast,Array.getElem?_eq_none hx];refine wpAny_bind (wpAny_bind (wpAny_typeNameOfWhole_keyiter st.typeIs (wpAny_pure ?_)));show wpAny (model prog w) _ (setField (.ref it) 0 .none>>=_) _ _ s;refine wpAny_bind (wpAny_setField i1 i3 Zy ?_);show wpAny (model prog w) _ (newExc (.type "StopIteration") []>>=_) _ _ _;refine wpAny_bind ?_;simp only[newExc,newTuple];refine wpAny_bind (wpAny_newObj_type (wpAny_bind (m:=firstArgMember _ _) (wpAny_of_eq (a:=Value.none) (by first|rfl | (simp only[firstArgMember];rfl)) ?_)) (by size_fits));refine wpAny_newObj_type ?_ (by size_fits);simp only[raiseNew];refine wpAny_bind (wpAny_handled ?_);rw[show A.in1.handled=none from hh];refine wpAny_bind (wpAny_pure (wpAny_throw ?_));refine wpAny_bind (wpAny_isInstance (b:=true) (T:="StopIteration") ⟨_,Heap.get?_push_size _ rfl,rfl⟩ isSubtype_stop ?_);exact wpAny_pure (q _ (((Heap.SameBut.update ..).extBut.push _).push _))
end
def Itd(d:Addr)(o:Obj)(Zs:List (List Key×V)):It:=
 ⟨fun i H=>H d=some (.frz o (.dT Zs))/\i<Zs.length,fun i H x H'=>H'=H/\∃b k v,x=.ref b/\Zs[i]?=some (k,v)/\H b=some (.tup (k.map kV)),fun i H=>H d=some (.frz o (.dT Zs))/\Zs.length<=i⟩
theorem KT.get{H:Hp}:∀{Zs:List (List Key×V)} {xs:List (List Key×Addr×Value)} {i:Nat} {k:List Key} {v:V},KT H Zs xs->Zs[i]?=some (k,v)->∃b u,xs[i]?=some (k,b,u)/\H b=some (.tup (k.map kV))
 |_,_,_,_,_,.nil,e=>by simp at e
 |p::_,q::_,0,k,v,.cons r t,e=>by
  rw[List.getElem?_cons_zero]at e;cases e;obtain⟨h1,h2,_⟩:=r;refine⟨q.2.1,q.2.2,?_,h2⟩;rw[List.getElem?_cons_zero];show some q=some (k,q.2.1,q.2.2);rw[show k=q.1 from h1]
 |p::_,q::_,i+1,k,v,.cons r t,e=>by
  rw[List.getElem?_cons_succ]at e;obtain⟨b,u,e1,e2⟩:=KT.get t e;exact⟨b,u,by rw[List.getElem?_cons_succ];exact e1,e2⟩
theorem KT.len{H:Hp}:∀{Zs:List (List Key×V)} {xs:List (List Key×Addr×Value)},KT H Zs xs->xs.length=Zs.length
 |_,_,.nil=>rfl
 |_,_,.cons _ t=>by rw[zAe,zAe,KT.len t]
theorem Inv.frzT{X:Cx}{Zt:List (Addr×Obj)}{σ:St}{H:Hp}{s:Shared}{d:Addr}{o:Obj}{Zs:List (List Key×V)}(I:Inv X Zt σ H s)(e:H d=some (.frz o (.dT Zs))):s.heap.get? d=some o/\o.ExactDict/\(d==sysModules)=false /\
  ∃es ep xs,o.data=.dict es ep/\KT H Zs xs/\es.toList=xs.map (entryOfKey (tupleKind (bK X.prog X.w))):=by
 obtain⟨e0,_,hs,xs,kt,o',es,ep,g1,g2,g3,g4,_⟩:=(show ObjOk X.prog X.w H s.heap d (.frz o (.dT Zs))from I.hok _ _ e)
 rw[e0]at g1;cases g1;exact⟨e0,g2,hs,es,ep,xs,g3,kt,g4⟩
theorem xV{P:Program}{w:World}{H:Hp}{Zs:List (List Key×V)}{xs:List (List Key×Addr×Value)}{es:Array DictEntry}(kt:KT H Zs xs)(e:es.toList=xs.map (entryOfKey (tupleKind (bK P w)))):es.size=Zs.length:=by
 rw[<-zA9,e,zA1,kt.len]
theorem xW{P:Program}{w:World}{K:Frag}{tg:Expr}(d it:Addr)(o:Obj)(Zs:List (List Key×V))(es:Array DictEntry)(ep:Nat)(od:o.data=.dict es ep)(hz:es.size=Zs.length):Turn P w K tg (Itd d o Zs) [it] it (fun i h=>h.IsKeyIter it d i es.size ep) where
 mem:=by simp
 obj:=fun i h st b hb=>by
  have e:b=it:=by simpa using hb
  subst e;obtain⟨o,e,c,d⟩:=st;exact⟨o,e,fun v z=>by rw[d]at z;cases z⟩
 keep:=fun i h h' st k=>st.at fun o e=>k it Zy o e
 item:=by
  intro X hP hw hK hc i Zt s σ H E I hf st hg;subst hP hw hK;obtain⟨hq,hx⟩:=hg;obtain⟨e0,g2,hs,eC,nX,xs,g3,kt,g4⟩:=I.frzT hq;rw[od]at g3;cases g3;obtain⟨b,u,ex,eb⟩:=kt.get (k:=Zs[i].1) (v:=Zs[i].2) (zA0 hx);have ee:es[i]?=some (entryOfKey (tupleKind (bK X.prog X.w)) (Zs[i].1,b,u)):=by rw[entry_at g4,ex];rfl
  obtain⟨f0,f1,f2,f3,f4,f5⟩:=hf it Zy;refine CG st e0 od ee fun h' Zq sb=>?_;have I1:Inv X Zt σ H {s with heap:=h'}:=I.turned (t':=s.toks) (fun b o hb e=>(sb.2 b hb).trans e) f0 f1 f3 f4 f5;obtain⟨o2,e2,c2,d2⟩:=id Zq;exact⟨.ref b,rfl,v9 (s:={s with heap:=h'}) e2 c2 d2 Zx ⟨.ref b,H,I1,rfl,⟨rfl,b,Zs[i].1,Zs[i].2,rfl,zA0 hx,eb⟩,Zq,fun b hb=>(hf b hb).1⟩⟩
 done:=by
  intro X hP hw hK hc i Zt s σ H E I hf st hg;subst hP hw hK;obtain⟨hq,hx⟩:=hg;obtain⟨e0,g2,hs,eC,nX,xs,g3,kt,g4⟩:=I.frzT hq;rw[od]at g3;cases g3;obtain⟨f0,f1,f2,f3,f4,f5⟩:=hf it Zy
  exact G7 (I.ok.hd hc) st e0 od Zz fun h' eb=>⟨rfl,I.turned (t':=s.toks) (fun b o hb e=>eb b o hb e) f0 f1 f3 f4 f5⟩
 self:=fun _ _ _ _ _ st h=>wpAny_pyIter_keyiter st h
section
variable{X:Cx}{tg:Expr}
def Eo(tl:TE):TI:=fun σ H R=>tl σ H fun x H1=>∃d o Zs,x=.ref d/\H1 d=some (.frz o (.dT Zs))/\R (Itd d o Zs) H1
theorem lq{l:Expr}{tl:TE}(hl:PE X l tl):PI X tg l (Eo tl):=by
 intro Zt s σ H R I h;refine thn (hl Zt s σ H _ I h) fun v s1 ⟨x,H1,I1,r1,q1⟩=>?_;obtain⟨d,o,Zs,e,hq,q⟩:=q1;subst e;cases r1;obtain⟨e0,g2,hs,es,ep,xs,g3,kt,g4⟩:=I1.frzT hq;refine Cz hs e0 g2 g3 ?_;refine⟨s1.heap.objs.size,[s1.heap.objs.size],_,_,H1,rfl,I1.kept (t':=s1.toks) fun b o e=>Heap.get?_push_of_some _ e,xW d _ o Zs es ep g3 (xV kt g4),⟨_,Heap.get?_push_size _ rfl,rfl,rfl⟩,fun b hb=>?_,q⟩;have e:b=s1.heap.objs.size:=by simpa using hb
 subst e;exact I1.fpOk (zA3 _) (I1.hok.fresh (zA3 _))
inductive TFrzI(t:TE)(σ:St)(H:Hp)(Q:VK):Prop
 |mk:∀d Zs,(H d=some (.dT Zs))->(∀o,t σ (upd H d (.frz o (.dT Zs))) fun v H'=>H' d=some (.frz o (.dT Zs))/\Q v (upd H' d (.dT Zs)))->TFrzI t σ H Q
def Ii(t:TE):TE:=fun σ H Q=>TFrzI t σ H Q
theorem uP{e:Expr}{t:TE}(h:PE X e t):PE X e (Ii t):=by
 intro Zt s σ H Q I hq;obtain⟨d,Zs,ed,hq⟩:=hq
 obtain⟨hz,hs,xs,kt,o,es,ep,g1,g⟩:=(show ObjOk X.prog X.w H s.heap d (.dT Zs)from I.hok _ _ ed)
 have nt:∀{b:Addr} {u:HO},H b=some u->u≠.dT Zs->b≠d:=fun{b u} e n z=>by
  rw[z,ed]at e;exact n (zAl e).symm
 have I1:Inv X Zt σ (upd H d (.frz o (.dT Zs))) {s with heap:=s.heap,toks:=s.toks}:=by
  refine I.un ⟨fun b ob q _ _ _=>q,fun b ob q _ _ _=>⟨ob.slots,q⟩,fun b ob q n _=>?_,fun b ob q _=>⟨ob,q⟩,fun b xs q=>?_,fun b ob u q=>?_,fun b ps q=>⟨#[],?_⟩⟩ fun b u e=>?_
  .rw[aA fun z=>by rw[z,ed]at n;cases n];exact n
  .rw[aA (nt q fun z=>by cases z)];exact q
  .rw[aA (nt q fun z=>by cases z)];exact q
  .rw[aA (nt q fun z=>by cases z),q];simp
  .have bo:∀c xs,H c=some (.tup xs)->upd H d (.frz o (.dT Zs)) c=some (.tup xs):=fun c xs q=>by
    rw[aA (nt q fun z=>by cases z)];exact q
   by_cases hb:b=d
   .subst hb;rw[aj]at e;cases e;exact⟨g1,(show ObjOk X.prog X.w H s.heap b (.dT Zs)from I.hok _ _ ed).stay (fun _ _ _ q=>q) (fun c q=>by rw[aA (nt q fun z=>by cases z)];exact q) bo⟩
   .rw[aA hb]at e;exact(I.hok b u e).stay (fun _ _ _ q=>q) (fun c q=>by rw[aA (nt q fun z=>by cases z)];exact q) bo
 refine thn (h Zt s σ _ _ I1 (hq o)) fun v s1 ⟨x,H1,J,r1,e1,q1⟩=>?_
 have kU:∀{b:Addr} {u:HO},H1 b=some u->u≠.frz o (.dT Zs)->b≠d:=fun{b u} e n z=>by
  rw[z,e1]at e;exact n (zAl e).symm
 have fr:∀b,H1 b=none->upd H1 d (.dT Zs) b=none:=fun b n=>by
  rw[aA fun z=>by rw[z,e1]at n;cases n];exact n
 refine⟨x,upd H1 d (.dT Zs),⟨J.ok,J.os,J.bare,⟨J.base.keep,J.base.slot,fun b ob q n hx=>fr b (J.base.free b ob q n hx),J.base.there,fun b xs q=>?_,fun b ob u q=>?_,fun b ps q=>?_⟩,J.loc,J.cell,fr _ J.free,fun y c e=>fr _ (J.freeC y c e),fun p hp=>?_,fun b u e=>?_,J.len⟩,r1,q1⟩
 .have:=J.base.tups b xs q;rw[aA (kU this fun z=>by cases z)];exact this
 .have h0:=I.base.frzs b ob u q;have:=J.base.frzs b ob u q;rw[aA (nt h0 fun z=>by cases z)];exact this
 .obtain⟨m,e⟩:=J.base.tbls b ps q;exact⟨m,by rw[aA (kU e fun z=>by cases z)];exact e⟩
 .obtain⟨a,n,c⟩:=J.pin p hp;exact⟨a,fr _ n,c⟩
 .have bo:∀c xs,H1 c=some (.tup xs)->upd H1 d (.dT Zs) c=some (.tup xs):=fun c xs q=>by
   rw[aA (kU q fun z=>by cases z)];exact q
  have fg:∀a c,H1 c=some (.own a)->upd H1 d (.dT Zs) c=some (.own a):=fun a c q=>by
   rw[aA (kU q fun z=>by cases z)];exact q
  by_cases hb:b=d
  .subst hb;rw[aj]at e;cases e;exact ObjOk.stay (show ObjOk X.prog X.w H1 s1.heap b (.dT Zs)from(show ObjOk X.prog X.w H1 s1.heap b (.frz o (.dT Zs))from J.hok _ _ e1).2) (fun _ _ _ q=>q) (fg b) bo
  .rw[aA hb]at e;exact(J.hok b u e).stay (fun _ _ _ q=>q) (fg b) bo
end
section
variable{prog:Program}{w:World}{K:Type}[DecidableEq K]{knd:HeapKind prog w K}{A:Around}{E:Value->Shared->Prop}{s:Shared}
end
section
variable{prog:Program}{w:World}{K:Type}[DecidableEq K]{knd:KeyKind prog w K}{A:Around}{E:Value->Shared->Prop}{s:Shared}
end
section
variable{X:Cx}
theorem KT.keys{H:Hp}:∀{Zs:List (List Key×V)} {xs:List (List Key×Addr×Value)},KT H Zs xs->xs.map (·.1)=Zs.map (·.1)
 |_,_,.nil=>rfl
 |_,_,.cons r t=>by rw[zAk,zAk,KT.keys t,r.1]
end
section
variable{prog:Program}{w:World}{KK:Type}[DecidableEq KK]{knd:HeapKind prog w KK}{A:Around}{E:Value->Shared->Prop}{s:Shared}
theorem uQ{nm:String}{a b:Addr}{xs ys:List (KK×Addr×Value)}{Q:Bool->Shared->Prop}(na:(a==sysModules)=false)(nb:(b==sysModules)=false)(da:s.heap.DictOfH knd a xs)(db:s.heap.DictOfH knd b ys)(hu:knd.room A)(hl:xs.length=ys.length)
  (hit:∀x∈xs,∃(j:Nat) (p:Addr×Value),ys[j]?=some (x.1,p)/\EqAt A s x.2.2 p.2 true) (q:Q true s):wpAny (model prog w) A (Builtin.Dict.samePairs nm a b) Q E s:=by
 obtain⟨oa,ea,pa,ga,_,ta,la,ia,_⟩:=da;obtain⟨ob,eb,pb,gb,_,tb,lb,ib,nd⟩:=db;have za:=size_of_entries la;have zb:=size_of_entries lb;unfold Builtin.Dict.samePairs Builtin.Dict.showsAll;rw[if_neg (by rw[na];decide),if_neg (by rw[nb];decide)];refine wpAny_bind (wpAny_pure (wpAny_bind (wpAny_pure (wpAny_bind (wpAny_dictEntries ga ta ?_)))));dsimp only;refine wpAny_bind (wpAny_dictEntries gb tb ?_);rw[if_neg (by rw[za,zb,hl];simp)];refine wpAny_bind (wpAny_dictEpoch ga ta (wpAny_bind ?_));rw[Std.Legacy.Range.forIn_eq_forIn_range'];simp only[Std.Legacy.Range.size,Nat.sub_zero,Nat.add_sub_cancel,Nat.div_one];refine wpAny_forIn_list _ (fun rest r s'=>s'=s/\r=(none,())/\∃i,rest=List.range' i (ea.size-i)/\i<=ea.size) _ ?_ ?_ _ _ ⟨rfl,rfl,0,by simp,Nat.zero_le _⟩
 .rintro x rest r s' ⟨rfl,rfl,i,er,hi⟩
  have aw:i<ea.size:=by
   rcases Nat.lt_or_ge i ea.size with z|z
   .exact z
   .rw[Nat.sub_eq_zero_of_le z]at er;simp at er
  rw[show ea.size-i=(ea.size-(i+1))+1 by lia,List.range'_succ]at er;injection er with e1 e2;subst e1;have hx:x<xs.length:=Zz
  have ee:ea[x]?=some (entryOfKey knd xs[x]):=by rw[entry_at la,zA0 hx];rfl
  refine zAu (wpAny_dictEntries ga ta ?_);rw[ee];obtain⟨j,p,ej,eq⟩:=hit _ (zAh hx);show wpAny _ _ (holding [(entryOfKey knd xs[x]).key,(entryOfKey knd xs[x]).val] _>>=_) _ _ _;refine zAu (wpAny_holding (zAu (wpAny_dictFind_heap hu (ia _ (zAh hx)) gb tb lb ib nd (fun z=>(z j p ej).elim) fun j' p' As=>?_)));have:j'=j:=idxH_unique nd As ej;subst this;refine zAu (wpAny_dictEntries gb tb ?_);have L0:eb[j']?=some (entryOfKey knd (xs[x].1,p)):=by rw[entry_at lb,ej];rfl
  rw[L0];refine wpAny_holding (eq prog w _ _ ?_);show wpAny _ _ (if(!true)=true then _ else _) _ _ _;rw[if_neg Zx];refine wpAny_bind (wpAny_dictEpoch ga ta ?_);rw[if_neg Zy];exact wpAny_pure ⟨rfl,rfl,x+1,e2,aw⟩
 .rintro r s' ⟨rfl,rfl,_⟩;exact zAy q
end
theorem oV{KK:Type}[DecidableEq KK]{k:KK}{p:Addr×Value}:∀{xs:List (KK×Addr×Value)},atKey xs k=some p->∃j:Nat,xs[j]?=some (k,p)
 |[],h=>by simp[atKey]at h
 |x::xs,h=>by
  by_cases e:x.1=k
  .refine⟨0,?_⟩;unfold atKey at h;rw[List.find?_cons_of_pos (p:=fun(x:KK×Addr×Value)=>decide (x.1=k)) (decide_eq_true e)]at h;have h:x.2=p:=by simpa using h
   rw[List.getElem?_cons_zero,<-e,<-h]
  .unfold atKey at h;rw[List.find?_cons_of_neg (p:=fun(x:KK×Addr×Value)=>decide (x.1=k)) (by simpa using e)]at h;obtain⟨j,ej⟩:=oV (xs:=xs) h;exact⟨j+1,by rw[List.getElem?_cons_succ];exact ej⟩
inductive REqTI(x:V)(y:V)(H:Hp)(Q:VK):Prop
 |mk:∀a b ka kb,(x=.ref a)->(y=.ref b)->(H a=some (.dT ka))->(H b=some (.dT kb))->(((ka.map (·.1)).Nodup->(kb.map (·.1)).Nodup->ka.length=kb.length))->((∀k v,cF ka k=some v->∃n:Int,v=.int n/\cF kb k=some v))->(Q (.bl true) H)->REqTI  x y H Q
def JF:R2:=fun x y H Q=>REqTI  x y H Q
theorem G8{X:Cx}(hu:X.A.units+1<cLine):OpR X (compareOp .Eq) JF:=by
 intro Zt s σ H x y v u Q I rx ry h;obtain⟨a,b,ka,kb,rfl,rfl,ea,eb,hl,hv,q⟩:=h;cases rx;cases ry;obtain⟨_,na,xs,ra,da⟩:=yN I.hok ea;obtain⟨_,nb,ys,rb,db⟩:=yN I.hok eb
 have nd:(xs.map (·.1)).Nodup:=by
  obtain⟨_,_,_,_,_,_,_,_,nd⟩:=id da;exact nd
 have nd2:(ys.map (·.1)).Nodup:=by
  obtain⟨_,_,_,_,_,_,_,_,nd⟩:=id db;exact nd
 have hl:=hl (by rw[<-KT.keys ra];exact nd) (by rw[<-KT.keys rb];exact nd2);refine wpAny_richCompare_same_room (op:=.Eq) da.typeIs db.typeIs PySem.F.slot_dict_eq (wpAny_call_entry PySem.F.slot_dict_eq da.typeIs PySem.F.entry_dict_eq ?_ (PySem.F.args_dict_eq_2 _ _)) Zz;show wpAny _ _ (Builtin.Dict.dictSlotArgs "__eq__" ⟨[.ref a,.ref b],[]⟩>>=_) _ _ s;unfold Builtin.Dict.dictSlotArgs;refine wpAny_bind (wpAny_bind (wpAny_notOrdered_dict da.typeIs (show wpAny _ _ (pure (Value.ref a,Value.ref b)) _ _ s from wpAny_pure (wpAny_bind (wpAny_isInstance (T:="dict") db.typeIs PySem.F.sub_dict_dict ?_)))));simp only[Bool.not_true,if_neg Bool.false_ne_true]
 have hit:∀x∈xs,∃(j:Nat) (p:Addr×Value),ys[j]?=some (x.1,p)/\EqAt X.A.in1 s x.2.2 p.2 true:=fun x hx=>by
  obtain⟨i,hi,ex⟩:=List.getElem_of_mem hx;have e1:=atKey_of_get nd (i:=i) (k:=x.1) (p:=x.2) (by rw[zA0 hi,ex]);have r1:=ra.val x.1;rw[e1]at r1
  cases ev:cF ka x.1 with
  |none=>
   rw[ev]at r1;exact r1.elim
  |some v=>
   rw[ev]at r1;obtain⟨n,rfl,e2⟩:=hv _ _ ev;have r2:=rb.val x.1;rw[e2]at r2
   cases ep:atKey ys x.1 with
   |none=>
    rw[ep]at r2;exact r2.elim
   |some p=>
    rw[ep]at r2;obtain⟨j,ej⟩:=oV ep
    obtain⟨t1,w1⟩:=(show ∃t,x.2.2=.int n t from r1)
    obtain⟨t2,w2⟩:=(show ∃t,p.2=.int n t from r2)
    refine⟨j,p,ej,?_⟩;rw[w1,w2];have:=EqAt.int_int (A:=X.A.in1) (s:=s) n t1 n t2;rw[beq_self_eq_true]at this;exact this
 refine zAu (zAy (zAu (zAy (zAu (uQ na nb da db (tupleKind_room_in1 hu) ?_ hit ?_)))))
 .rw[<-ra.length,<-rb.length];exact hl
 .exact zAy ⟨_,rfl,(fun x=>nomatch x),(⟨.bl true,H,I,rfl,q⟩:EP X Zt σ Q (Value.bool true) s)⟩
def fX(ic:Int->Int->Bool)(z:Bool):List Int->List Int->Bool
 |x::xs,y::ys=>if x=y then fX ic z xs ys else ic x y
 |_,_=>z
section
variable{prog:Program}{w:World}{A:Around}{E:Value->Shared->Prop}{s:Shared}{a b:Addr}{oa ob:Obj}{na nb:Nat}{us vs:List Value}{ns ms:List Int}
theorem CJ{P:Fin->Shared->Prop}(ga:s.heap.get? a=some oa)(da:oa.data=.seq us.toArray na)(gb:s.heap.get? b=some ob)(cb:ob.cls=.type "tuple")(db:ob.data=.seq vs.toArray nb)(r1:Vals (ns.map V.int) us)(r2:Vals (ms.map V.int) vs)(hl:ns.length=ms.length)
  (h:P (.done (.ret (.bool (fX (fun i j=>decide (i<j)) false ns ms)))) s):wpAny (model prog w) A (Builtin.«tuple.__lt__» ⟨[.ref a,.ref b],[]⟩) P E s:=by
 have l1:=r1.length;have l2:=r2.length;rw[zA1]at l1 l2;show wpAny _ _ (isInstance (.ref b) (.type "tuple")>>=_) _ _ s;refine wpAny_bind (wpAny_isInstance ⟨ob,gb,cb⟩ isSubtype_tuple_tuple ?_);simp only[Bool.not_true,Bool.false_eq_true,if_false];refine wpAny_bind (wpAny_tupleItemsOf ga da (wpAny_bind (wpAny_tupleItemsOf gb db (wpAny_bind ?_))));refine wpAny_forIn_list _ (fun rest r s'=>r.1=none/\s'=s/\∃xs ys gu gx,rest=List.zip gu gx/\Vals (xs.map V.int) gu/\Vals (ys.map V.int) gx/\xs.length=ys.length/\fX (fun i j=>decide (i<j)) false xs ys=fX (fun i j=>decide (i<j)) false ns ms) _ ?_ ?_ _ _ ⟨rfl,rfl,ns,ms,us,vs,rfl,r1,r2,hl,rfl⟩
 .rintro⟨u,v⟩ rest r s' ⟨hr,rfl,xs,ys,gu,gx,hz,v1,v2,hle,hd⟩
  cases xs with
  |nil=>
   cases v1;simp at hz
  |cons x xs=>
   cases ys with
   |nil=>cases hle
   |cons y ys=>
    cases v1 with
    |@cons _ u' _ us'' e1 t1=>
    cases v2 with
    |@cons _ v' _ vs'' e2 t2=>
    obtain⟨k1,rfl⟩:=(show ∃t,u'=.int x t from e1)
    obtain⟨k2,rfl⟩:=(show ∃t,v'=.int y t from e2)
    simp only[List.zip_cons_cons,List.cons.injEq,Prod.mk.injEq]at hz;obtain⟨⟨rfl,rfl⟩,rfl⟩:=hz;refine wpAny_bind (wpAny_eqBool_int ?_);by_cases e:x=y
    .subst e;rw[show(x==x)=true from beq_self_eq_true x];simp only[Bool.not_true,Bool.false_eq_true,if_false];refine wpAny_pure ⟨rfl,rfl,xs,ys,us'',vs'',rfl,t1,t2,by simpa using hle,?_⟩;rw[<-hd];show _=(if x=x then _ else _);rw[if_pos rfl]
    .rw[show(x==y)=false from beq_false_of_ne e];simp only[Bool.not_false,if_true]
     have hf:fX (fun i j=>decide (i<j)) false ns ms=decide (x<y):=by
      rw[<-hd];show(if x=y then _ else _)=_;rw[zAw e]
     rw[hf]at h;exact zAu (wpAny_rule (zAu (richCompare_gives (op:=.Lt) (typeIs_int _ _ _) (typeIs_int _ _ _) F.slot_int_lt F.entry_int_lt (F.args_int_lt_2 _ _) (gives_int_lt _ _ _ _) (fun x=>nomatch x) (zAy (zAy h)))))
 .rintro⟨IC,ID⟩ s' ⟨hr,rfl,xs,ys,gu,gx,hz,v1,v2,hle,hd⟩;simp only at hr;subst hr
  have e0:fX (fun i j=>decide (i<j)) false ns ms=false:=by
   rw[<-hd]
   cases xs with
   |nil=>cases ys<;>rfl
   |cons x xs=>
    cases ys with
    |nil=>cases hle
    |cons y ys=>
     cases v1;cases v2;simp at hz
  rw[e0]at h;refine zAy ?_
  have e1:Builtin.Tuple.tupleCompareSizes .Lt us.toArray.size vs.toArray.size=.bool false:=by
   rw[zA8,zA8,show us.length=vs.length by lia];simp[Builtin.Tuple.tupleCompareSizes]
  rw[e1];exact h
theorem CK{P:Fin->Shared->Prop}(ga:s.heap.get? a=some oa)(da:oa.data=.seq us.toArray na)(gb:s.heap.get? b=some ob)(cb:ob.cls=.type "tuple")(db:ob.data=.seq vs.toArray nb)(r1:Vals (ns.map V.int) us)(r2:Vals (ms.map V.int) vs)(hl:ns.length=ms.length)
  (h:P (.done (.ret (.bool (fX (fun i j=>decide (i<=j)) true ns ms)))) s):wpAny (model prog w) A (Builtin.«tuple.__le__» ⟨[.ref a,.ref b],[]⟩) P E s:=by
 have l1:=r1.length;have l2:=r2.length;rw[zA1]at l1 l2;show wpAny _ _ (isInstance (.ref b) (.type "tuple")>>=_) _ _ s;refine wpAny_bind (wpAny_isInstance ⟨ob,gb,cb⟩ isSubtype_tuple_tuple ?_);simp only[Bool.not_true,Bool.false_eq_true,if_false];refine wpAny_bind (wpAny_tupleItemsOf ga da (wpAny_bind (wpAny_tupleItemsOf gb db (wpAny_bind ?_))));refine wpAny_forIn_list _ (fun rest r s'=>r.1=none/\s'=s/\∃xs ys gu gx,rest=List.zip gu gx/\Vals (xs.map V.int) gu/\Vals (ys.map V.int) gx/\xs.length=ys.length/\fX (fun i j=>decide (i<=j)) true xs ys=fX (fun i j=>decide (i<=j)) true ns ms) _ ?_ ?_ _ _ ⟨rfl,rfl,ns,ms,us,vs,rfl,r1,r2,hl,rfl⟩
 .rintro⟨u,v⟩ rest r s' ⟨hr,rfl,xs,ys,gu,gx,hz,v1,v2,hle,hd⟩
  cases xs with
  |nil=>
   cases v1;simp at hz
  |cons x xs=>
   cases ys with
   |nil=>cases hle
   |cons y ys=>
    cases v1 with
    |@cons _ u' _ us'' e1 t1=>
    cases v2 with
    |@cons _ v' _ vs'' e2 t2=>
    obtain⟨k1,rfl⟩:=(show ∃t,u'=.int x t from e1)
    obtain⟨k2,rfl⟩:=(show ∃t,v'=.int y t from e2)
    simp only[List.zip_cons_cons,List.cons.injEq,Prod.mk.injEq]at hz;obtain⟨⟨rfl,rfl⟩,rfl⟩:=hz;refine wpAny_bind (wpAny_eqBool_int ?_);by_cases e:x=y
    .subst e;rw[show(x==x)=true from beq_self_eq_true x];simp only[Bool.not_true,Bool.false_eq_true,if_false];refine wpAny_pure ⟨rfl,rfl,xs,ys,us'',vs'',rfl,t1,t2,by simpa using hle,?_⟩;rw[<-hd];show _=(if x=x then _ else _);rw[if_pos rfl]
    .rw[show(x==y)=false from beq_false_of_ne e];simp only[Bool.not_false,if_true]
     have hf:fX (fun i j=>decide (i<=j)) true ns ms=decide (x<=y):=by
      rw[<-hd];show(if x=y then _ else _)=_;rw[zAw e]
     rw[hf]at h;exact zAu (wpAny_rule (zAu (richCompare_gives (op:=.LtE) (typeIs_int _ _ _) (typeIs_int _ _ _) F.slot_int_le F.entry_int_le (F.args_int_le_2 _ _) (gives_int_le _ _ _ _) (fun x=>nomatch x) (zAy (zAy h)))))
 .rintro⟨IC,ID⟩ s' ⟨hr,rfl,xs,ys,gu,gx,hz,v1,v2,hle,hd⟩;simp only at hr;subst hr
  have e0:fX (fun i j=>decide (i<=j)) true ns ms=true:=by
   rw[<-hd]
   cases xs with
   |nil=>cases ys<;>rfl
   |cons x xs=>
    cases ys with
    |nil=>cases hle
    |cons y ys=>
     cases v1;cases v2;simp at hz
  rw[e0]at h;refine zAy ?_
  have e1:Builtin.Tuple.tupleCompareSizes .LtE us.toArray.size vs.toArray.size=.bool true:=by
   rw[zA8,zA8,show us.length=vs.length by lia];simp[Builtin.Tuple.tupleCompareSizes]
  rw[e1];exact h
theorem CN{P:Fin->Shared->Prop}(ga:s.heap.get? a=some oa)(da:oa.data=.seq us.toArray na)(gb:s.heap.get? b=some ob)(cb:ob.cls=.type "tuple")(db:ob.data=.seq vs.toArray nb)(r1:Vals (ns.map V.int) us)(r2:Vals (ms.map V.int) vs)(hl:ns.length=ms.length)
  (h:P (.done (.ret (.bool (fX (fun i j=>decide (i>j)) false ns ms)))) s):wpAny (model prog w) A (Builtin.«tuple.__gt__» ⟨[.ref a,.ref b],[]⟩) P E s:=by
 have l1:=r1.length;have l2:=r2.length;rw[zA1]at l1 l2;show wpAny _ _ (isInstance (.ref b) (.type "tuple")>>=_) _ _ s;refine wpAny_bind (wpAny_isInstance ⟨ob,gb,cb⟩ isSubtype_tuple_tuple ?_);simp only[Bool.not_true,Bool.false_eq_true,if_false];refine wpAny_bind (wpAny_tupleItemsOf ga da (wpAny_bind (wpAny_tupleItemsOf gb db (wpAny_bind ?_))));refine wpAny_forIn_list _ (fun rest r s'=>r.1=none/\s'=s/\∃xs ys gu gx,rest=List.zip gu gx/\Vals (xs.map V.int) gu/\Vals (ys.map V.int) gx/\xs.length=ys.length/\fX (fun i j=>decide (i>j)) false xs ys=fX (fun i j=>decide (i>j)) false ns ms) _ ?_ ?_ _ _ ⟨rfl,rfl,ns,ms,us,vs,rfl,r1,r2,hl,rfl⟩
 .rintro⟨u,v⟩ rest r s' ⟨hr,rfl,xs,ys,gu,gx,hz,v1,v2,hle,hd⟩
  cases xs with
  |nil=>
   cases v1;simp at hz
  |cons x xs=>
   cases ys with
   |nil=>cases hle
   |cons y ys=>
    cases v1 with
    |@cons _ u' _ us'' e1 t1=>
    cases v2 with
    |@cons _ v' _ vs'' e2 t2=>
    obtain⟨k1,rfl⟩:=(show ∃t,u'=.int x t from e1)
    obtain⟨k2,rfl⟩:=(show ∃t,v'=.int y t from e2)
    simp only[List.zip_cons_cons,List.cons.injEq,Prod.mk.injEq]at hz;obtain⟨⟨rfl,rfl⟩,rfl⟩:=hz;refine wpAny_bind (wpAny_eqBool_int ?_);by_cases e:x=y
    .subst e;rw[show(x==x)=true from beq_self_eq_true x];simp only[Bool.not_true,Bool.false_eq_true,if_false];refine wpAny_pure ⟨rfl,rfl,xs,ys,us'',vs'',rfl,t1,t2,by simpa using hle,?_⟩;rw[<-hd];show _=(if x=x then _ else _);rw[if_pos rfl]
    .rw[show(x==y)=false from beq_false_of_ne e];simp only[Bool.not_false,if_true]
     have hf:fX (fun i j=>decide (i>j)) false ns ms=decide (x>y):=by
      rw[<-hd];show(if x=y then _ else _)=_;rw[zAw e]
     rw[hf]at h;exact zAu (wpAny_rule (zAu (richCompare_gives (op:=.Gt) (typeIs_int _ _ _) (typeIs_int _ _ _) F.slot_int_gt F.entry_int_gt (F.args_int_gt_2 _ _) (gives_int_gt _ _ _ _) (fun x=>nomatch x) (zAy (zAy h)))))
 .rintro⟨IC,ID⟩ s' ⟨hr,rfl,xs,ys,gu,gx,hz,v1,v2,hle,hd⟩;simp only at hr;subst hr
  have e0:fX (fun i j=>decide (i>j)) false ns ms=false:=by
   rw[<-hd]
   cases xs with
   |nil=>cases ys<;>rfl
   |cons x xs=>
    cases ys with
    |nil=>cases hle
    |cons y ys=>
     cases v1;cases v2;simp at hz
  rw[e0]at h;refine zAy ?_
  have e1:Builtin.Tuple.tupleCompareSizes .Gt us.toArray.size vs.toArray.size=.bool false:=by
   rw[zA8,zA8,show us.length=vs.length by lia];simp[Builtin.Tuple.tupleCompareSizes]
  rw[e1];exact h
end
section
variable{prog:Program}{w:World}{A:Around}{E:Value->Shared->Prop}{s:Shared}
theorem zx{h₀:Heap}{l I S:Addr}{as:List Addr}{R:Result->Shared->Prop}(hh:A.handled=none)(hu:A.units+2<cLine)(eL:h₀.IsList l (as.map Value.ref).toArray)
  (obj:∀a∈as,∃(us:List Value) (o:Obj) (n:Nat) (ns:List Int),h₀.get? a=some o/\o.cls=.type "tuple"/\o.data=.seq us.toArray n/\Vals (ns.map V.int) us/\ns.length=3) (nI:h₀.get? I=none) (nS:h₀.get? S=none) (SI:S≠I)
  (hR:∀a h' tk,a∈as->(∀b o,h₀.get? b=some o->h'.get? b=some o)->R (.ok (.ret (.ref a))) {s with heap:=h',toks:=tk}):
  ∀(k i:Nat) (h:Heap) (tk c:Nat) (a:Addr),as.length-i=k->i<=as.length->h.IsListIter I l i->(∀b o,h₀.get? b=some o->h.get? b=some o)->a∈as->h.get? S=some {cls:=.type "list",dict:=none,data:=.seq #[.ref a,.ref a] c,slots:=#[]}->
   codeAny (model prog w) A (.builtin "max.loop" ⟨[.ref I,.none,.ref S],[]⟩) R {s with heap:=h,toks:=tk}:=by
 have nm:(toString "max" ++ toString ".loop":String)="max.loop":=by decide
 have kI:∀{h h':Heap},Heap.ExtBut I h h'->(∀b o,h₀.get? b=some o->h.get? b=some o)->∀b o,h₀.get? b=some o->h'.get? b=some o:=fun x k b o e=>x b o (fun z=>by rw[z,nI]at e;cases e) (k b o e)
 have nb:∀{b:Addr} {o:Obj},h₀.get? b=some o->S≠b:=fun{b o} e z=>by rw[<-z,nS]at e;cases e
 intro k
 induction k with
 |zero=>
  intro i h tk c a hk hi it kp ha eS;refine codeAny_builtin F.entry_max_loop ?_;rw[Around.under_plainId F.plain_max_loop _];show wpAny (model prog w) A.in1 (seqItems? (.ref S)>>=_) _ _ _;refine zAu (wpAny_seqItems eS rfl ?_);show wpAny (model prog w) A.in1 (tryCatch (pyNext (.ref I)) _>>=_) _ _ _;refine zAu (wpAny_tryCatch (wpAny_pyNext_list_end (s:={s with heap:=h,toks:=tk}) (A:=A.in1) hh it (eL.at fun o e=>kp _ o e) (by rw[List.getElem?_toArray,List.getElem?_eq_none (by rw[zA1];lia)]) fun h' x=>?_));have fh:=x S _ SI eS;show wpAny (model prog w) A.in1 (updateSeq S (fun _=>#[])>>=_) _ _ _;refine zAu (wpAny_updateSeq fh rfl (zAu (wpAny_letGo (zAy ?_))));exact hR a _ tk ha fun b o e=>(Heap.get?_update_other _ _ (nb e)).trans (kI x kp b o e)
 |succ k ih=>
  intro i h tk c a hk hi it kp ha eS;have aw:i<as.length:=Zz
  have hm:as[i]∈as:=zAh aw;refine codeAny_builtin F.entry_max_loop ?_;rw[Around.under_plainId F.plain_max_loop _];show wpAny (model prog w) A.in1 (seqItems? (.ref S)>>=_) _ _ _;refine zAu (wpAny_seqItems eS rfl ?_);show wpAny (model prog w) A.in1 (tryCatch (pyNext (.ref I)) _>>=_) _ _ _;refine zAu (wpAny_tryCatch (wpAny_pyNext_list_item (s:={s with heap:=h,toks:=tk}) (A:=A.in1) (x:=.ref as[i]) it (eL.at fun o e=>kp _ o e) (by rw[List.getElem?_toArray,zAb,zA0 aw];rfl) fun h' kX sb=>?_));have gT:=kI sb.extBut kp;have fh:=sb.extBut S _ SI eS;obtain⟨us,o1,n1,ns,g1,g2,g3,g4,g5⟩:=obj _ hm;obtain⟨vs,o2,n2,ms,f1,f2,f3,f4,f5⟩:=obj _ ha
  have t1:Shared.TypeIs {s with heap:=h',toks:=tk} (.ref as[i]) "tuple":=⟨o1,gT _ _ g1,g2⟩
  have t2:Shared.TypeIs {s with heap:=h',toks:=tk} (.ref a) "tuple":=⟨o2,gT _ _ f1,f2⟩
  show wpAny (model prog w) A.in1 (tryCatch (holding [.ref as[i],.ref as[i]] (richCompare .Gt (.ref as[i]) (.ref a)>>=_)) _>>=_) _ _ _;refine zAu (wpAny_tryCatch (wpAny_holding (zAu (wpAny_richCompare_same_room (op:=.Gt) t1 t2 PySem.F.slot_tuple_gt (wpAny_call_entry PySem.F.slot_tuple_gt t1 PySem.F.entry_tuple_gt (CN (gT _ _ g1) g3 (gT _ _ f1) f2 f3 g4 f4 Zz ⟨_,rfl,(fun x=>nomatch x),?_⟩) (PySem.F.args_tuple_gt_2 _ _)) (by show A.units+1<cLine;lia)))));refine zAu (wpAny_holding (wpAny_truthy_bool (zAu (wpAny_letGo (zAy ?_)))))
  cases hb:fX (fun i j=>decide (i>j)) false ns ms with
  |true=>
   simp only[if_true];refine wpAny_bind (wpAny_updateSeq fh rfl (wpAny_bind (wpAny_letGo ?_)));rw[nm];exact wpAny_pure ⟨plainId_quiet F.plain_max_loop _,ih (i+1) _ tk _ as[i] Zz aw (kX.at fun o e=>(Heap.get?_update_other _ _ SI).trans e) (fun b o e=>(Heap.get?_update_other _ _ (nb e)).trans (gT b o e)) hm (Heap.get?_update_self _ fh rfl)⟩
  |false=>
   simp only[Bool.false_eq_true,if_false];refine wpAny_bind (wpAny_letGo ?_);rw[nm];exact wpAny_pure ⟨plainId_quiet F.plain_max_loop _,ih (i+1) _ tk _ a Zz aw kX gT ha fh⟩
theorem zy{l:Addr}{as:List Addr}{Q:Value->Shared->Prop}(hh:A.handled=none)(hu:A.units+3<cLine)(eL:s.heap.IsList l (as.map Value.ref).toArray)(c8:0<as.length)
  (obj:∀a∈as,∃(us:List Value) (o:Obj) (n:Nat) (ns:List Int),s.heap.get? a=some o/\o.cls=.type "tuple"/\o.data=.seq us.toArray n/\Vals (ns.map V.int) us/\ns.length=3)
  (hQ:∀a h' tk,a∈as->(∀b o,s.heap.get? b=some o->h'.get? b=some o)->Q (.ref a) {s with heap:=h',toks:=tk}):wpAny (model prog w) A (call (.builtin "max") [.ref l]) Q E s:=by
 have nm:(toString "max" ++ toString ".loop":String)="max.loop":=by decide
 refine call_function_tree F.kind_max F.plain_max F.entry_max (F.args_max1 _) ?_;show wpAny (model prog w) A.in1 (Builtin.Builtins.bindParams "max" ["key","default"] 0 ⟨[],[]⟩>>=_) _ _ s;refine zAu (wpAny_of_eq (show Builtin.Builtins.bindParams "max" ["key","default"] 0 ⟨[],[]⟩=pure [none,none]from rfl) (zAu (zAy (zAu (wpAny_pyIter_list eL (zAu (wpAny_newObj_type ?_)))))));rw[nm];refine zAy ⟨plainId_quiet F.plain_max_loop _,?_⟩;have zI:(s.heap.push {cls:=.type "list_iterator",data:=.fields #[.ref l,.int 0 0]}).objs.size=s.heap.objs.size+1:=Heap.size_push ..;have n0:s.heap.get? s.heap.objs.size=none:=Heap.get?_none_of_le (zA3 _);have n1:s.heap.get? (s.heap.objs.size+1)=none:=Heap.get?_none_of_le (Nat.le_succ _);have eI:(s.heap.push {cls:=.type "list_iterator",data:=.fields #[.ref l,.int 0 0]}).get? s.heap.objs.size=some {cls:=.type "list_iterator",data:=.fields #[.ref l,.int 0 0]}:=zB3 _ rfl;have up:∀b o,s.heap.get? b=some o->(s.heap.push {cls:=.type "list_iterator",data:=.fields #[.ref l,.int 0 0]}).get? b=some o:=fun b o e=>zAz _ e;generalize s.heap.push {cls:=.type "list_iterator",data:=.fields #[.ref l,.int 0 0]}=g at zI eI up⊢
 have eS:(g.push {cls:=.type "list",data:=.seq #[]}).get? (s.heap.objs.size+1)=some {cls:=.type "list",data:=.seq #[]}:=by
  rw[<-zI];exact zB3 _ rfl
 have it:(g.push {cls:=.type "list",data:=.seq #[]}).IsListIter s.heap.objs.size l 0:=⟨_,zAz _ eI,rfl,rfl⟩
 have kg:∀b o,s.heap.get? b=some o->(g.push {cls:=.type "list",data:=.seq #[]}).get? b=some o:=fun b o e=>zAz _ (up b o e);show codeAny (model prog w) A (.builtin "max.loop" ⟨[.ref s.heap.objs.size,.none,.ref g.objs.size],[]⟩) _ {s with heap:=g.push {cls:=.type "list",data:=.seq #[]}};rw[zI];generalize g.push {cls:=.type "list",data:=.seq #[]}=h at eS it kg⊢;have SI:(s.heap.objs.size+1:Addr)≠s.heap.objs.size:=Nat.succ_ne_self _;refine codeAny_builtin F.entry_max_loop ?_;rw[Around.under_plainId F.plain_max_loop _];show wpAny (model prog w) A.in1 (seqItems? (.ref (s.heap.objs.size+1))>>=_) _ _ _;refine zAu (wpAny_seqItems eS rfl ?_);show wpAny (model prog w) A.in1 (tryCatch (pyNext (.ref s.heap.objs.size)) _>>=_) _ _ _;refine zAu (wpAny_tryCatch (wpAny_pyNext_list_item (s:={s with heap:=h}) (A:=A.in1) (x:=.ref as[0]) it (eL.at fun o e=>kg _ o e) (by rw[List.getElem?_toArray,zAb,zA0 c8];rfl) fun h' kX sb=>?_));have fh:=sb.extBut _ _ SI eS;show wpAny (model prog w) A.in1 (updateSeq (s.heap.objs.size+1) (fun _=>#[.ref as[0],.ref as[0]])>>=_) _ _ _;refine zAu (wpAny_updateSeq fh rfl ?_);rw[nm]
 have ne:∀{b:Addr} {o:Obj},s.heap.get? b=some o->b≠s.heap.objs.size/\s.heap.objs.size+1≠b:=fun{b o} e=>⟨(fun z=>by rw[z,n0]at e;cases e),(fun z=>by rw[<-z,n1]at e;cases e)⟩
 exact zAy ⟨plainId_quiet F.plain_max_loop _,zx (A:=A) (s:=s) (h₀:=s.heap) hh Zz eL obj n0 n1 SI (fun a h' tk ha k=>hQ a h' tk ha k) _ 1 _ s.toks _ as[0] rfl c8 (kX.at fun o e=>(Heap.get?_update_other _ _ SI).trans e) (fun b o e=>(Heap.get?_update_other _ _ (ne e).2).trans (sb.extBut b o (ne e).1 (kg b o e))) (zAh c8) (Heap.get?_update_self _ fh rfl)⟩
theorem zz{h₀:Heap}{l I S:Addr}{as:List Addr}{R:Result->Shared->Prop}(hh:A.handled=none)(hu:A.units+2<cLine)(eL:h₀.IsList l (as.map Value.ref).toArray)
  (obj:∀a∈as,∃(us:List Value) (o:Obj) (n:Nat) (ns:List Int),h₀.get? a=some o/\o.cls=.type "tuple"/\o.data=.seq us.toArray n/\Vals (ns.map V.int) us/\ns.length=3) (nI:h₀.get? I=none) (nS:h₀.get? S=none) (SI:S≠I)
  (hR:∀a h' tk,a∈as->(∀b o,h₀.get? b=some o->h'.get? b=some o)->R (.ok (.ret (.ref a))) {s with heap:=h',toks:=tk}):
  ∀(k i:Nat) (h:Heap) (tk c:Nat) (a:Addr),as.length-i=k->i<=as.length->h.IsListIter I l i->(∀b o,h₀.get? b=some o->h.get? b=some o)->a∈as->h.get? S=some {cls:=.type "list",dict:=none,data:=.seq #[.ref a,.ref a] c,slots:=#[]}->
   codeAny (model prog w) A (.builtin "min.loop" ⟨[.ref I,.none,.ref S],[]⟩) R {s with heap:=h,toks:=tk}:=by
 have nm:(toString "min" ++ toString ".loop":String)="min.loop":=by decide
 have kI:∀{h h':Heap},Heap.ExtBut I h h'->(∀b o,h₀.get? b=some o->h.get? b=some o)->∀b o,h₀.get? b=some o->h'.get? b=some o:=fun x k b o e=>x b o (fun z=>by rw[z,nI]at e;cases e) (k b o e)
 have nb:∀{b:Addr} {o:Obj},h₀.get? b=some o->S≠b:=fun{b o} e z=>by rw[<-z,nS]at e;cases e
 intro k
 induction k with
 |zero=>
  intro i h tk c a hk hi it kp ha eS;refine codeAny_builtin F.entry_min_loop ?_;rw[Around.under_plainId F.plain_min_loop _];show wpAny (model prog w) A.in1 (seqItems? (.ref S)>>=_) _ _ _;refine zAu (wpAny_seqItems eS rfl ?_);show wpAny (model prog w) A.in1 (tryCatch (pyNext (.ref I)) _>>=_) _ _ _;refine zAu (wpAny_tryCatch (wpAny_pyNext_list_end (s:={s with heap:=h,toks:=tk}) (A:=A.in1) hh it (eL.at fun o e=>kp _ o e) (by rw[List.getElem?_toArray,List.getElem?_eq_none (by rw[zA1];lia)]) fun h' x=>?_));have fh:=x S _ SI eS;show wpAny (model prog w) A.in1 (updateSeq S (fun _=>#[])>>=_) _ _ _;refine zAu (wpAny_updateSeq fh rfl (zAu (wpAny_letGo (zAy ?_))));exact hR a _ tk ha fun b o e=>(Heap.get?_update_other _ _ (nb e)).trans (kI x kp b o e)
 |succ k ih=>
  intro i h tk c a hk hi it kp ha eS;have aw:i<as.length:=Zz
  have hm:as[i]∈as:=zAh aw;refine codeAny_builtin F.entry_min_loop ?_;rw[Around.under_plainId F.plain_min_loop _];show wpAny (model prog w) A.in1 (seqItems? (.ref S)>>=_) _ _ _;refine zAu (wpAny_seqItems eS rfl ?_);show wpAny (model prog w) A.in1 (tryCatch (pyNext (.ref I)) _>>=_) _ _ _;refine zAu (wpAny_tryCatch (wpAny_pyNext_list_item (s:={s with heap:=h,toks:=tk}) (A:=A.in1) (x:=.ref as[i]) it (eL.at fun o e=>kp _ o e) (by rw[List.getElem?_toArray,zAb,zA0 aw];rfl) fun h' kX sb=>?_));have gT:=kI sb.extBut kp;have fh:=sb.extBut S _ SI eS;obtain⟨us,o1,n1,ns,g1,g2,g3,g4,g5⟩:=obj _ hm;obtain⟨vs,o2,n2,ms,f1,f2,f3,f4,f5⟩:=obj _ ha
  have t1:Shared.TypeIs {s with heap:=h',toks:=tk} (.ref as[i]) "tuple":=⟨o1,gT _ _ g1,g2⟩
  have t2:Shared.TypeIs {s with heap:=h',toks:=tk} (.ref a) "tuple":=⟨o2,gT _ _ f1,f2⟩
  show wpAny (model prog w) A.in1 (tryCatch (holding [.ref as[i],.ref as[i]] (richCompare .Lt (.ref as[i]) (.ref a)>>=_)) _>>=_) _ _ _;refine zAu (wpAny_tryCatch (wpAny_holding (zAu (wpAny_richCompare_same_room (op:=.Lt) t1 t2 PySem.F.slot_tuple_lt (wpAny_call_entry PySem.F.slot_tuple_lt t1 PySem.F.entry_tuple_lt (CJ (gT _ _ g1) g3 (gT _ _ f1) f2 f3 g4 f4 Zz ⟨_,rfl,(fun x=>nomatch x),?_⟩) (PySem.F.args_tuple_lt_2 _ _)) (by show A.units+1<cLine;lia)))));refine zAu (wpAny_holding (wpAny_truthy_bool (zAu (wpAny_letGo (zAy ?_)))))
  cases hb:fX (fun i j=>decide (i<j)) false ns ms with
  |true=>
   simp only[if_true];refine wpAny_bind (wpAny_updateSeq fh rfl (wpAny_bind (wpAny_letGo ?_)));rw[nm];exact wpAny_pure ⟨plainId_quiet F.plain_min_loop _,ih (i+1) _ tk _ as[i] Zz aw (kX.at fun o e=>(Heap.get?_update_other _ _ SI).trans e) (fun b o e=>(Heap.get?_update_other _ _ (nb e)).trans (gT b o e)) hm (Heap.get?_update_self _ fh rfl)⟩
  |false=>
   simp only[Bool.false_eq_true,if_false];refine wpAny_bind (wpAny_letGo ?_);rw[nm];exact wpAny_pure ⟨plainId_quiet F.plain_min_loop _,ih (i+1) _ tk _ a Zz aw kX gT ha fh⟩
theorem zF{l:Addr}{as:List Addr}{Q:Value->Shared->Prop}(hh:A.handled=none)(hu:A.units+3<cLine)(eL:s.heap.IsList l (as.map Value.ref).toArray)(c8:0<as.length)
  (obj:∀a∈as,∃(us:List Value) (o:Obj) (n:Nat) (ns:List Int),s.heap.get? a=some o/\o.cls=.type "tuple"/\o.data=.seq us.toArray n/\Vals (ns.map V.int) us/\ns.length=3)
  (hQ:∀a h' tk,a∈as->(∀b o,s.heap.get? b=some o->h'.get? b=some o)->Q (.ref a) {s with heap:=h',toks:=tk}):wpAny (model prog w) A (call (.builtin "min") [.ref l]) Q E s:=by
 have nm:(toString "min" ++ toString ".loop":String)="min.loop":=by decide
 refine call_function_tree F.kind_min F.plain_min F.entry_min (F.args_min1 _) ?_;show wpAny (model prog w) A.in1 (Builtin.Builtins.bindParams "min" ["key","default"] 0 ⟨[],[]⟩>>=_) _ _ s;refine zAu (wpAny_of_eq (show Builtin.Builtins.bindParams "min" ["key","default"] 0 ⟨[],[]⟩=pure [none,none]from rfl) (zAu (zAy (zAu (wpAny_pyIter_list eL (zAu (wpAny_newObj_type ?_)))))));rw[nm];refine zAy ⟨plainId_quiet F.plain_min_loop _,?_⟩;have zI:(s.heap.push {cls:=.type "list_iterator",data:=.fields #[.ref l,.int 0 0]}).objs.size=s.heap.objs.size+1:=Heap.size_push ..;have n0:s.heap.get? s.heap.objs.size=none:=Heap.get?_none_of_le (zA3 _);have n1:s.heap.get? (s.heap.objs.size+1)=none:=Heap.get?_none_of_le (Nat.le_succ _);have eI:(s.heap.push {cls:=.type "list_iterator",data:=.fields #[.ref l,.int 0 0]}).get? s.heap.objs.size=some {cls:=.type "list_iterator",data:=.fields #[.ref l,.int 0 0]}:=zB3 _ rfl;have up:∀b o,s.heap.get? b=some o->(s.heap.push {cls:=.type "list_iterator",data:=.fields #[.ref l,.int 0 0]}).get? b=some o:=fun b o e=>zAz _ e;generalize s.heap.push {cls:=.type "list_iterator",data:=.fields #[.ref l,.int 0 0]}=g at zI eI up⊢
 have eS:(g.push {cls:=.type "list",data:=.seq #[]}).get? (s.heap.objs.size+1)=some {cls:=.type "list",data:=.seq #[]}:=by
  rw[<-zI];exact zB3 _ rfl
 have it:(g.push {cls:=.type "list",data:=.seq #[]}).IsListIter s.heap.objs.size l 0:=⟨_,zAz _ eI,rfl,rfl⟩
 have kg:∀b o,s.heap.get? b=some o->(g.push {cls:=.type "list",data:=.seq #[]}).get? b=some o:=fun b o e=>zAz _ (up b o e);show codeAny (model prog w) A (.builtin "min.loop" ⟨[.ref s.heap.objs.size,.none,.ref g.objs.size],[]⟩) _ {s with heap:=g.push {cls:=.type "list",data:=.seq #[]}};rw[zI];generalize g.push {cls:=.type "list",data:=.seq #[]}=h at eS it kg⊢;have SI:(s.heap.objs.size+1:Addr)≠s.heap.objs.size:=Nat.succ_ne_self _;refine codeAny_builtin F.entry_min_loop ?_;rw[Around.under_plainId F.plain_min_loop _];show wpAny (model prog w) A.in1 (seqItems? (.ref (s.heap.objs.size+1))>>=_) _ _ _;refine zAu (wpAny_seqItems eS rfl ?_);show wpAny (model prog w) A.in1 (tryCatch (pyNext (.ref s.heap.objs.size)) _>>=_) _ _ _;refine zAu (wpAny_tryCatch (wpAny_pyNext_list_item (s:={s with heap:=h}) (A:=A.in1) (x:=.ref as[0]) it (eL.at fun o e=>kg _ o e) (by rw[List.getElem?_toArray,zAb,zA0 c8];rfl) fun h' kX sb=>?_));have fh:=sb.extBut _ _ SI eS;show wpAny (model prog w) A.in1 (updateSeq (s.heap.objs.size+1) (fun _=>#[.ref as[0],.ref as[0]])>>=_) _ _ _;refine zAu (wpAny_updateSeq fh rfl ?_);rw[nm]
 have ne:∀{b:Addr} {o:Obj},s.heap.get? b=some o->b≠s.heap.objs.size/\s.heap.objs.size+1≠b:=fun{b o} e=>⟨(fun z=>by rw[z,n0]at e;cases e),(fun z=>by rw[<-z,n1]at e;cases e)⟩
 exact zAy ⟨plainId_quiet F.plain_min_loop _,zz (A:=A) (s:=s) (h₀:=s.heap) hh Zz eL obj n0 n1 SI (fun a h' tk ha k=>hQ a h' tk ha k) _ 1 _ s.toks _ as[0] rfl c8 (kX.at fun o e=>(Heap.get?_update_other _ _ SI).trans e) (fun b o e=>(Heap.get?_update_other _ _ (ne e).2).trans (sb.extBut b o (ne e).1 (kg b o e))) (zAh c8) (Heap.get?_update_self _ fh rfl)⟩
end
section
variable{X:Cx}
theorem boot_abs:bootBuiltins "abs"=some (.builtin "abs"):=by decide +kernel
theorem xX:dU X (.builtin "abs") (fun xs H Q=>∃n:Int,xs=[.int n]/\Q (.int (if n<0 then -n else n)) H):=by
 intro Zt s σ H xs us Q I r h;obtain⟨n,rfl,q⟩:=h;obtain⟨u,rfl,ru⟩:=vals1 r
 obtain⟨t,rfl⟩:=(show ∃t,u=.int n t from ru)
 exact call_abs_int fun u' tk=>⟨.int _,H,I.kept (t':=tk) (fun _ _ e=>e),⟨u',rfl⟩,q⟩
def Ij(K:Frag):List V->Hp->VK->Prop:=fun xs H Q=>∃(p:Addr) (l:List Addr) (row:Addr->List Int),xs=[.ref p]/\SqL K H p (l.map V.ref)/\0<l.length/\(∀a∈l,SqT K H a ((row a).map V.int)/\(row a).length=3)/\∀a∈l,Q (.ref a) H
theorem vO{Zt:List (Addr×Obj)}{σ:St}{H:Hp}{s:Shared}{l:List Addr}{row:Addr->List Int}(I:Inv X Zt σ H s)(h:∀a∈l,SqT X.K H a ((row a).map V.int)/\(row a).length=3):
  ∀a∈l,∃(us:List Value) (o:Obj) (n:Nat) (ns:List Int),s.heap.get? a=some o/\o.cls=.type "tuple"/\o.data=.seq us.toArray n/\Vals (ns.map V.int) us/\ns.length=3:=fun a ha=>by
 obtain⟨e,l3⟩:=h a ha;obtain⟨us,r,⟨o,g1,g2,n,g3⟩,_⟩:=I.tuple e;exact⟨us,o,n,row a,g1,g2,g3,r,l3⟩
theorem xY(hc:X.calm=true)(hu:X.A.units+64<cLine):dU X (.builtin "max") (Ij X.K):=by
 intro Zt s σ H xs us Q I r h;obtain⟨p,l,row,rfl,hq,c8,ho,q⟩:=h;obtain⟨u,rfl,ru⟩:=vals1 r;cases ru;obtain⟨Zr,rv,pl,hz⟩:=I.list hq;have e:=iB rv;subst e
 exact zy (I.ok.hd hc) Zz pl.isList c8 (vO I ho) fun a h' tk ha k=>⟨.ref a,H,I.kept (t':=tk) k,rfl,q a ha⟩
theorem xZ(hc:X.calm=true)(hu:X.A.units+64<cLine):dU X (.builtin "min") (Ij X.K):=by
 intro Zt s σ H xs us Q I r h;obtain⟨p,l,row,rfl,hq,c8,ho,q⟩:=h;obtain⟨u,rfl,ru⟩:=vals1 r;cases ru;obtain⟨Zr,rv,pl,hz⟩:=I.list hq;have e:=iB rv;subst e
 exact zF (I.ok.hd hc) Zz pl.isList c8 (vO I ho) fun a h' tk ha k=>⟨.ref a,H,I.kept (t':=tk) k,rfl,q a ha⟩
theorem G9(hu:X.A.units+64<cLine):OpR X (compareOp .LtE) (fun x y H Q=>∃(a b:Addr) (ns ms:List Int),x=.ref a/\y=.ref b/\SqT X.K H a (ns.map V.int)/\SqT X.K H b (ms.map V.int)/\ns.length=ms.length/\Q (.bl (fX (fun i j=>decide (i<=j)) true ns ms)) H):=by
 intro Zt s σ H x y v u Q I rx ry h;obtain⟨a,b,ns,ms,rfl,rfl,ea,eb,hl,q⟩:=h;cases rx;cases ry;obtain⟨us,r1,⟨o1,g1,g2,n1,g3⟩,_⟩:=I.tuple ea;obtain⟨vs,r2,⟨o2,f1,f2,n2,f3⟩,_⟩:=I.tuple eb;exact wpAny_richCompare_same_room (op:=.LtE) (T:="tuple") ⟨o1,g1,g2⟩ ⟨o2,f1,f2⟩ PySem.F.slot_tuple_le (wpAny_call_entry PySem.F.slot_tuple_le ⟨o1,g1,g2⟩ PySem.F.entry_tuple_le (CK g1 g3 f1 f2 f3 r1 r2 hl ⟨_,rfl,(fun x=>nomatch x),⟨.bl _,H,I,rfl,q⟩⟩) (PySem.F.args_tuple_le_2 _ _)) Zz
end
open PySem PyProof.Rows HT
section
variable{X:Cx}{tg:Expr}
inductive TFrzSI(t:TS)(D:Ends)(σ:St)(H:Hp):Prop
 |mk:∀d Zs,(H d=some (.dT Zs))->(∀o,t {D with nx:=fun ai H'=>H' d=some (.frz o (.dT Zs))/\D.nx ai (upd H' d (.dT Zs)),bk:=fun _ _=>False,ct:=fun _ _=>False,rt:=fun _ _=>False} σ (upd H d (.frz o (.dT Zs))))->TFrzSI t D σ H
def Ik(t:TS):TS:=fun D σ H=>TFrzSI t D σ H
theorem Ga{e:Stmt}{t:TS}(h:PS X e t):PS X e (Ik t):=by
 intro Zt s σ H D I hq;obtain⟨d,Zs,ed,hq⟩:=hq
 obtain⟨hz,hs,xs,kt,o,es,ep,g1,g⟩:=(show ObjOk X.prog X.w H s.heap d (.dT Zs)from I.hok _ _ ed)
 have nt:∀{b:Addr} {u:HO},H b=some u->u≠.dT Zs->b≠d:=fun{b u} e n z=>by
  rw[z,ed]at e;exact n (zAl e).symm
 have I1:Inv X Zt σ (upd H d (.frz o (.dT Zs))) {s with heap:=s.heap,toks:=s.toks}:=by
  refine I.un ⟨fun b ob q _ _ _=>q,fun b ob q _ _ _=>⟨ob.slots,q⟩,fun b ob q n _=>?_,fun b ob q _=>⟨ob,q⟩,fun b xs q=>?_,fun b ob u q=>?_,fun b ps q=>⟨#[],?_⟩⟩ fun b u e=>?_
  .rw[aA fun z=>by rw[z,ed]at n;cases n];exact n
  .rw[aA (nt q fun z=>by cases z)];exact q
  .rw[aA (nt q fun z=>by cases z)];exact q
  .rw[aA (nt q fun z=>by cases z),q];simp
  .have bo:∀c xs,H c=some (.tup xs)->upd H d (.frz o (.dT Zs)) c=some (.tup xs):=fun c xs q=>by
    rw[aA (nt q fun z=>by cases z)];exact q
   by_cases hb:b=d
   .subst hb;rw[aj]at e;cases e;exact⟨g1,(show ObjOk X.prog X.w H s.heap b (.dT Zs)from I.hok _ _ ed).stay (fun _ _ _ q=>q) (fun c q=>by rw[aA (nt q fun z=>by cases z)];exact q) bo⟩
   .rw[aA hb]at e;exact(I.hok b u e).stay (fun _ _ _ q=>q) (fun c q=>by rw[aA (nt q fun z=>by cases z)];exact q) bo
 refine thn (h Zt s σ _ _ I1 (hq o)) fun fl s1 ki=>?_
 cases fl with
 |brk=>obtain⟨_,_,_,z⟩:=ki;exact z.elim
 |cont=>obtain⟨_,_,_,z⟩:=ki;exact z.elim
 |ret u=>obtain⟨_,_,_,_,_,z⟩:=ki;exact z.elim
 |next=>
 obtain⟨A2,H1,J,e1,q1⟩:=ki
 have kU:∀{b:Addr} {u:HO},H1 b=some u->u≠.frz o (.dT Zs)->b≠d:=fun{b u} e n z=>by
  rw[z,e1]at e;exact n (zAl e).symm
 have fr:∀b,H1 b=none->upd H1 d (.dT Zs) b=none:=fun b n=>by
  rw[aA fun z=>by rw[z,e1]at n;cases n];exact n
 refine⟨A2,upd H1 d (.dT Zs),⟨J.ok,J.os,J.bare,⟨J.base.keep,J.base.slot,fun b ob q n hx=>fr b (J.base.free b ob q n hx),J.base.there,fun b xs q=>?_,fun b ob u q=>?_,fun b ps q=>?_⟩,J.loc,J.cell,fr _ J.free,fun y c e=>fr _ (J.freeC y c e),fun p hp=>?_,fun b u e=>?_,J.len⟩,q1⟩
 .have:=J.base.tups b xs q;rw[aA (kU this fun z=>by cases z)];exact this
 .have h0:=I.base.frzs b ob u q;have:=J.base.frzs b ob u q;rw[aA (nt h0 fun z=>by cases z)];exact this
 .obtain⟨m,e⟩:=J.base.tbls b ps q;exact⟨m,by rw[aA (kU e fun z=>by cases z)];exact e⟩
 .obtain⟨a,n,c⟩:=J.pin p hp;exact⟨a,fr _ n,c⟩
 .have bo:∀c xs,H1 c=some (.tup xs)->upd H1 d (.dT Zs) c=some (.tup xs):=fun c xs q=>by
   rw[aA (kU q fun z=>by cases z)];exact q
  have fg:∀a c,H1 c=some (.own a)->upd H1 d (.dT Zs) c=some (.own a):=fun a c q=>by
   rw[aA (kU q fun z=>by cases z)];exact q
  by_cases hb:b=d
  .subst hb;rw[aj]at e;cases e;exact ObjOk.stay (show ObjOk X.prog X.w H1 s1.heap b (.dT Zs)from(show ObjOk X.prog X.w H1 s1.heap b (.frz o (.dT Zs))from J.hok _ _ e1).2) (fun _ _ _ q=>q) (fg b) bo
  .rw[aA hb]at e;exact(J.hok b u e).stay (fun _ _ _ q=>q) (fg b) bo
end
theorem tu{M:Model}{A:Around}{Q:Value->Shared->Prop}{E:Value->Shared->Prop}{s:Shared}(h:wpAny M A (newList []) Q E s):wpAny M A (newList []) (fun v s'=>v=.ref s.heap.objs.size/\Q v s') E s:=by
 intro Γ p fF;exact⟨rfl,h Γ p fF⟩
def Gb(wi:TI)(src:List (Option Nat))(g:TG)(tt:TT)(te:TE):TE:=fun σ H Q=>wi σ H fun J H1=>jV J g tt te (fun ys H'=>∀D,H' D=none->D≠sysModules->Q (.ref D) (upd H' D (.lst ys))) (capσ σ src) H1
section
variable{X:Cx}{tg iter elt:Expr}{ifs:List Expr}{scope:Scope}{pos:Pos}{Nc:List Str}{wi:TI}{g:TG}{tt:TT}{te:TE}
theorem zG(Nc:List Str)(src:List (Option Nat))(hc:X.calm=true)(hi:PI X tg iter wi)
  (hb:∀C fp Zt s₂ H₂,PG (cxC X scope Nc C fp Zt s₂ H₂) tg g/\PTs (cxC X scope Nc C fp Zt s₂ H₂) ifs tt/\PE (cxC X scope Nc C fp Zt s₂ H₂) elt te)
  (cq:∀C,Caps X (compEnvC scope (fK X.env.cells scope.names []) C X.env) Nc src) (S:CScope X scope)
  (hs:∀x,foldedSetIterable iter X.env x=pure x:=by intro _;rfl):PE X (.ListComp elt [⟨tg,iter,ifs,0⟩] scope pos) (Gb wi src g tt te):=by
 intro Zt s σ H Q I h;rw[eval_ListComp];refine wpAny_comprehension_free (use:=none) rfl hs (qg S.hfree) S.kind S.hnames ?_;refine thn (hi Zt s σ H _ I h) fun v s1 h1=>thn h1 fun s9 s2 h2=>?_;obtain⟨it,fp,tn,J,H2,e,I2,T,st2,f2,hW⟩:=h2;subst e;have big:=I2.big
 have key:=tu (jA (iter:=iter) (pos:=pos) (E:=X.xe) (RR:=fun acc C r s'=>acc≠.ref sysModules->compPost (model X.prog X.w) X.A X.xe none (EP X Zt σ Q) acc C r s') hc S cq hb I2 T st2 f2 hW (fun D C s' ys H' m fin nD J' hn fC ne=>by
  obtain⟨f0,f1,_,f3,f4,f5⟩:=fC;refine⟨m,hn,fun HA iE=>?_⟩
  exact⟨.ref D,_,J'.turned (t':=s'.toks) (fun b o hb e=>iE.extBut b o hb e) f0 f1 f3 f4 f5,rfl,fin D nD fun z=>ne (by rw[z])⟩))
 refine wpAny_mono key (fun acc s3 ⟨ea,hq⟩=>?_) fun _ _ x=>x
 have ne:acc≠.ref sysModules:=fun z=>by
  rw[ea]at z;injection z with z;exact absurd z (Nat.ne_of_gt big)
 have er:(fun(C:Addr) (r:Result) (s':Shared)=>acc≠.ref sysModules->compPost (model X.prog X.w) X.A X.xe none (EP X Zt σ Q) acc C r s')=compPost (model X.prog X.w) X.A X.xe none (EP X Zt σ Q) acc:=by
  funext C r s';exact propext ⟨fun z=>z ne,fun z _=>z⟩
 have IE:=hq;simp only[ne,ne_eq,not_false_eq_true,forall_const]at IE;exact IE
end
end L2
namespace K23
open PySem L2
def top(i:Nat):Stmt:=PySem.Challenge.pw_woolyears_k23_whole_short_years_are_shar.main.body.getD i (.Pass ⟨0,0,0,0⟩)
def d7(d:PyData):Bool:=qx d&&!qy d
def items:PyData->List PyData
 |.tuple ds=>ds
 |_=>[]
def intOf:PyData->Int
 |.int i=>i
 |_=>0
def bx(d:PyData)(f m:Int):Bool:=qz d&&(decide (f<=(items d).length)&&decide (((items d).length:Int)<=m))
def bA(d:PyData)(n:Int):Bool:=bx d n n&&(items d).all d7
def oW(d:PyData):Bool:=bA d 3&&(items d).all fun x=>decide (0<=intOf x)&&decide (intOf x<=999)
def gW(d:PyData):Bool:=bx d 1 20&&(items d).all oW
def at_(d:PyData)(i:Nat):Int:=intOf ((items d).getD i .none)
def qK(a b c d e f:Int):Bool:=
 (decide (0<=a)&&decide (a<8))&&((decide (0<=b)&&decide (b<3))&&((decide (0<=c)&&(decide (c<=d)&&decide (d<=19)))&&((decide (1<=e)&&decide (e<=99))&&(decide (0<=f)&&decide (f<=1000000)))))
def jl(d:PyData):Bool:=bA d 6&&qK (at_ d 0) (at_ d 1) (at_ d 2) (at_ d 3) (at_ d 4) (at_ d 5)
def dX(d:PyData):Bool:=bx d 0 10&&(items d).all jl
theorem nd1(x:Str):([x]:List Str).Nodup:=by simp
theorem zH(d:PyData):1<=sz d:=by cases d<;>simp[sz]
theorem qL:∀(ds:List PyData),ds.length<=szs ds
 |[]=>zAp _
 |d::ds=>by
  have:=qL ds;have:=zH d;simp only[List.length_cons,szs];lia
theorem qM:∀{ds:List PyData} {d:PyData},d∈ds->sz d<=szs ds
 |x::ds,d,h=>by
  simp only[szs];rcases zAo.mp h with e|e
  .rw[e];lia
  .have:=qM e;lia
theorem jm{ds:List PyData}{d:PyData}(h:d∈ds)(hz:sz (.tuple ds)<=4000):sz d<=4000:=by
 have:=qM h;simp only[sz]at hz;lia
theorem fD{S:Addr->Prop}{H:Hp}{xs:List V}{ds:List PyData}(r:IsThs S H xs ds)(hz:sz (.tuple ds)<=4000):xs.length<sizeLine:=by
 have:=qL ds;have:=r.length;simp only[sz]at hz;rw[sizeLine_eq];lia
def spT(f:PyData->Bool):Sp:=fun vs H Q _=>∃S v d,vs=[v]/\IsTh S H v d/\sz d<=4000/\∀H',Same H H'->Q (.bl (f d)) H'
inductive SpT1I(f:PyData->Int->Bool)(vs:List V)(H:Hp)(Q:VK):Prop
 |mk:∀S v d n,(vs=[v,.int n])->(IsTh S H v d)->(sz d<=4000)->(∀H',Same H H'->Q (.bl (f d n)) H')->SpT1I f vs H Q
def CP(f:PyData->Int->Bool):Sp:=fun vs H Q _=>SpT1I f vs H Q
def jF(f:PyData->Int->Int->Bool):Sp:=fun vs H Q _=>∃S v d n m,vs=[v,.int n,.int m]/\IsTh S H v d/\sz d<=4000/\∀H',Same H H'->Q (.bl (f d n m)) H'
structure Mg(mg:Str->Option Value):Prop where
 isinstance:mg "isinstance"=none
 int:mg "int"=none
 bool:mg "bool"=none
 tuple:mg "tuple"=none
 len:mg "len"=none
 all:mg "all"=none
theorem boot_int:bootBuiltins "int"=some (.type "int"):=by decide +kernel
theorem boot_bool:bootBuiltins "bool"=some (.type "bool"):=by decide +kernel
theorem boot_tuple:bootBuiltins "tuple"=some (.type "tuple"):=by decide +kernel
theorem boot_isinstance:bootBuiltins "isinstance"=some (.builtin "isinstance"):=by decide +kernel
theorem boot_all:bootBuiltins "all"=some (.builtin "all"):=by decide +kernel
theorem dq{K:Frag}{S:Addr->Prop}{te:TE}{src:List (Option Nat)}{i j:Nat}{σ:St}{H:Hp}{Q:VK}{a:Addr}{xs:List V}{ds:List PyData}(f:PyData->Bool)(iF:σ[i]?=some (some (.ref a)))(ea:H a=some (.tup xs))(r:IsThs S H xs ds)(hl:xs.length<sizeLine)
  (u7:∀v d H1 Q1,d∈ds->Same H H1->IsTh S H1 v d->(∀H',Same H1 H'->Q1 (.bl (f d)) H')->te ((capσ σ src).set j (some v)) H1 Q1) (q:∀H',Same H H'->Q (.bl (ds.all f)) H'):
  tCB (fun xs H Q=>∃(p:Addr) (bs:List Bool),xs=[.ref p]/\SqL K H p (bs.map V.bl)/\Q (.bl (bs.all id)) H) (rM (vq (GX K (um i)) src (bD j) uD te) Fp) σ H Q:=by
 refine⟨_,iF,a,rfl,⟨xs,SqT.of ea⟩,sE (j:=j) f ea r hl u7 fun H2 s2 D hD=>⟨D,ds.map f,rfl,?_,?_⟩⟩
 .rw[<-yU];exact SqL.of aj
 .rw[FZ];exact q _ (s2.updR hD)
structure Nums(mg:Str->Option Value):Prop where
 sorts:∃t,mg "SORTS"=some (.int 3 t)
 holders:∃t,mg "HOLDERS"=some (.int 8 t)
 year:∃t,mg "LAST_YEAR"=some (.int 19 t)
 clips:∃t,mg "MOST_CLIPS"=some (.int 20 t)
 proms:∃t,mg "MOST_PROMISES"=some (.int 10 t)
 wool:∃t,mg "MOST_WOOL"=some (.int 999 t)
 sacks:∃t,mg "MOST_SACKS"=some (.int 99 t)
 price:∃t,mg "MOST_PRICE"=some (.int 1000000 t)
theorem jG{d:PyData}{n:Int}(h:bA d n=true):bx d n n=true/\∀x∈items d,d7 x=true:=by
 unfold bA at h;rw[zAc]at h;exact⟨h.1,List.all_eq_true.mp h.2⟩
theorem jH{S:Addr->Prop}{H:Hp}{v:V}{d:PyData}(h:IsTh S H v d)(e:d7 d=true):∃i,v=.int i/\d=.int i:=by
 cases h with
 |int i=>exact⟨i,rfl,rfl⟩
 |_=>cases e
theorem jn{α:Type}{n:Nat}{l:List α}(h:l.length=n+1):∃a t,l=a::t/\t.length=n:=by
 cases l with
 |nil=>cases h
 |cons a t=>exact⟨a,t,rfl,Nat.succ.inj h⟩
theorem Il{α:Type}{l:List α}(h:l.length=5):∃a b c d e,l=[a,b,c,d,e]:=by
 obtain⟨a,l1,e1,h1⟩:=jn h;obtain⟨b,l2,e2,h2⟩:=jn h1;obtain⟨c,l3,e3,h3⟩:=jn h2;obtain⟨d,l4,e4,h4⟩:=jn h3;obtain⟨e,l5,e5,h5⟩:=jn h4;exact⟨a,b,c,d,e,by rw[e1,e2,e3,e4,e5,List.length_eq_zero_iff.mp h5]⟩
theorem Im{α:Type}{l:List α}(h:l.length=6):∃a b c d e f,l=[a,b,c,d,e,f]:=by
 obtain⟨a,l1,e1,h1⟩:=jn h;obtain⟨b,c,d,e,f,e2⟩:=Il h1;exact⟨a,b,c,d,e,f,by rw[e1,e2]⟩
theorem gm{S:Addr->Prop}{H:Hp}{xs:List V}{d:PyData}{ds:List PyData}(r:IsThs S H xs (d::ds))(e:d7 d=true):∃i t,xs=.int i::t/\d=.int i/\IsThs S H t ds:=by
 cases r with
 |cons h1 r=>
  obtain⟨i,rfl,rfl⟩:=jH h1 e;exact⟨i,_,rfl,rfl,r⟩
theorem mL{S:Addr->Prop}{H:Hp}{xs:List V}{d:PyData}{ds:List PyData}(r:IsThs S H xs (d::ds)):∃v t,xs=v::t/\IsTh S H v d/\IsThs S H t ds:=by
 cases r with
 |cons h1 r=>exact⟨_,_,rfl,h1,r⟩
theorem yc{S:Addr->Prop}{H:Hp}{xs:List V}{ds:List PyData}(r:IsThs S H xs ds)(hl:ds.length=3):∃v0 v1 v2 d0 d1 d2,xs=[v0,v1,v2]/\ds=[d0,d1,d2]/\IsTh S H v0 d0/\IsTh S H v1 d1/\IsTh S H v2 d2:=by
 obtain⟨d0,l1,e1,h1⟩:=jn hl;obtain⟨d1,l2,e2,h2⟩:=jn h1;obtain⟨d2,l3,e3,h3⟩:=jn h2;have e:ds=[d0,d1,d2]:=by rw[e1,e2,e3,List.length_eq_zero_iff.mp h3]
 subst e;obtain⟨v0,t0,f0,i0,r0⟩:=mL r;obtain⟨v1,t1,f1,i1,r1⟩:=mL r0;obtain⟨v2,t2,f2,i2,r2⟩:=mL r1;cases r2;exact⟨v0,v1,v2,d0,d1,d2,by rw[f0,f1,f2],rfl,i0,i1,i2⟩
theorem zJ{S:Addr->Prop}{H:Hp}{xs:List V}{ds:List PyData}(r:IsThs S H xs ds)(hl:ds.length=6)(hw:∀x∈ds,d7 x=true):
  ∃i1 i2 i3 i4 i5 i6:Int,xs=[.int i1,.int i2,.int i3,.int i4,.int i5,.int i6]/\ds=[.int i1,.int i2,.int i3,.int i4,.int i5,.int i6]:=by
 obtain⟨d1,d2,d3,d4,d5,d6,rfl⟩:=Im hl;obtain⟨i1,t1,e1,rfl,r1⟩:=gm r (hw _ Zy);obtain⟨i2,t2,e2,rfl,r2⟩:=gm r1 (hw _ Zy);obtain⟨i3,t3,e3,rfl,r3⟩:=gm r2 (hw _ Zy);obtain⟨i4,t4,e4,rfl,r4⟩:=gm r3 (hw _ Zy);obtain⟨i5,t5,e5,rfl,r5⟩:=gm r4 (hw _ Zy);obtain⟨i6,t6,e6,rfl,r6⟩:=gm r5 (hw _ Zy);cases r6;exact⟨i1,i2,i3,i4,i5,i6,by rw[e1,e2,e3,e4,e5,e6],rfl⟩
theorem yd{ds:List PyData}{n m:Int}(h:bx (.tuple ds) n m=true):n<=(ds.length:Int)/\(ds.length:Int)<=m:=by
 have h:(true&&(decide (n<=(ds.length:Int))&&decide ((ds.length:Int)<=m)))=true:=h;rw[Bool.true_and,zAc]at h;exact⟨zB2 h.1,zB2 h.2⟩
def Cal(P:Program)(w:World)(K:Frag)(mg:Str->Option Value)(base:Heap)(k:Nat)(x:Str)(ps:List Str)(sp:Sp):Prop:=
 ∃f fd,FnOk P w K mg base CX0 k f fd ps sp/\mg x=some (.ref f)/\PySem.W.keepIn K (.ref f)=true/\Binds K fd ps []
theorem aJ{X:Cx}{k j:Nat}{x:Str}{ps:List Str}{sp:Sp}{p pos:Pos}{e:Expr}{es:List Expr}{t:TA}(c:Cal X.prog X.w X.K X.mg X.base j x ps sp)(hr:Room k X.A)(ha:PA X (e::es) t)(L3:j<=k:=by decide)(hg:Gl X x:=by exact rfl)
  (ot:(x==("__debug__":Str))=false:=by decide) (he:starEach (e::es) X.env=(false,eval e X.env)::starEach es X.env:=by rfl) (md:(backTo pos (starEach es X.env)).any (·.1)=false:=by rfl):
  PE X (.Call (.Name x p) (e::es) [] pos) (Eg sp [] E0 t):=by
 obtain⟨f,fd,F,hm,hk,hb⟩:=c;exact BR F (hr.mono L3) hg hm hk hb .nil Hu ha ot he md
variable{P:Program}{w:World}{K:Frag}{mg:Str->Option Value}{base:Heap}{f:Addr}{fd:FuncData}
theorem sc1:FnScope ["thing"] ["thing"] (aK (top 9)):=fQS
theorem tD(F:Fun K "is_whole" "is_whole" (top 9) f fd)(T:Mg mg):FnOk P w K mg base CX0 1 f fd ["thing"] (spT d7):=by
 refine F.ok sc1 (fun vs H Q E h=>?_) (fun ar A outer s H vs Q E hr h=>?_)
 .obtain⟨S,v,d,rfl,_⟩:=h;rfl
 .obtain⟨S,v,d,rfl,th,hz,q⟩:=h
  refine⟨_,aF (aO (cG (aN gM rfl T.isinstance boot_isinstance (aQ (pv 0) (aQ (pP rfl T.int boot_int (v:=.ty "int") rfl) ao)))
   (dH (Fg (aN gM rfl T.isinstance boot_isinstance (aQ (pv 0) (aQ (pP rfl T.bool boot_bool (v:=.ty "bool") rfl) ao))))))),?_⟩
  refine⟨_,rfl,v,_,"int",qx d,rfl,th.ty,Cm d,_,rfl,?_⟩;have fin:=q H (Same.refl H);unfold d7 at fin
  cases e:qx d with
  |false=>
   rw[e]at fin;exact bw fin
  |true=>
   rw[e]at fin;exact bI ⟨_,rfl,v,_,"bool",qy d,rfl,th.ty,yS d,_,rfl,fin⟩
theorem sc2:FnScope ["thing","fewest","most"] ["thing","fewest","most"] (aK (top 11)):=fQS
theorem mO(F:Fun K "is_tuple_of" "is_tuple_of" (top 11) f fd)(T:Mg mg):FnOk P w K mg base CX0 1 f fd ["thing","fewest","most"] (jF bx):=by
 refine F.ok sc2 (fun vs H Q E h=>?_) (fun ar A outer s H vs Q E hr h=>?_)
 .obtain⟨S,v,d,n,m,rfl,_⟩:=h;rfl
 .obtain⟨S,v,d,n,m,rfl,th,hz,q⟩:=h
  refine⟨_,aF (aO (cG (aN gM rfl T.isinstance boot_isinstance (aQ (pv 0) (aQ (pP rfl T.tuple boot_tuple (v:=.ty "tuple") rfl) ao)))
   (dH (cX bM bM (pv 1) (aN bF rfl T.len PySem.boot_len (aQ (pv 0) ao)) (pv 2))))),?_⟩
  refine⟨_,rfl,v,_,"tuple",qz d,rfl,th.ty,Cp d,_,rfl,?_⟩;have fin:=q H (Same.refl H);unfold bx at fin
  cases e:qz d with
  |false=>
   rw[e]at fin;exact bw fin
  |true=>
   rw[e]at fin;refine bI ?_
   cases th with
   |@tup a xs ds ea r=>
    have hl:=r.length;refine⟨_,rfl,_,rfl,a,xs,rfl,.inr (SqT.of ea),_,_,rfl,rfl,_,rfl,?_⟩;rw[hl];have fin:Q (.bl (true&&(decide (n<=(ds.length:Int))&&decide ((ds.length:Int)<=m)))) H:=fin
    cases e1:decide (n<=(ds.length:Int))with
    |false=>
     rw[e1]at fin;exact bw fin
    |true=>
     rw[e1]at fin;exact bI ⟨_,rfl,_,_,rfl,rfl,fin⟩
   |_=>cases e
theorem sc3:FnScope ["thing","many"] ["thing","many"] (aK (top 12)):=fQS
theorem nU(F:Fun K "are_wholes" "are_wholes" (top 12) f fd)(T:Mg mg)(c1:Cal P w K mg base 1 "is_whole" ["thing"] (spT d7))(c2:Cal P w K mg base 1 "is_tuple_of" ["thing","fewest","most"] (jF bx)):
  FnOk P w K mg base CX0 2 f fd ["thing","many"] (CP bA):=by
 refine F.ok sc3 (fun vs H Q E h=>?_) (fun ar A outer s H vs Q E hr h=>?_)
 .obtain⟨S,v,d,n,rfl,_⟩:=h;rfl
 .obtain⟨S,v,d,n,rfl,th,hz,q⟩:=h
  refine⟨_,aF (aO (cG (aJ c2 hr (aQ (pv 0) (aQ (pv 1) (aQ (pv 1) ao))))
   (dH (aN (fB rfl) rfl T.all boot_all (aQ (cC ["part"] [none] rfl (gw (pv 0))
    (fun C fp Zt s₂ H₂=>⟨bH (i:=0) (nd1 _) rfl (Or.inl rfl),c7,aJ c1 hr (aQ (pv 0) ao)⟩) (fun C=>trivial) ⟨rfl,rfl,rfl,rfl⟩) ao))))),?_⟩
  refine⟨_,rfl,_,rfl,_,rfl,S,v,d,n,n,rfl,th,hz,fun H1 s1=>⟨_,rfl,?_⟩⟩;have dA:=th.same s1
  cases e:bx d n n with
  |false=>
   refine bw ?_;have fin:=q H1 s1;unfold bA at fin;rw[e]at fin;exact fin
  |true=>
   refine bI ?_
   cases dA with
   |@tup a xs ds ea r=>
    have ew:bA (.tuple ds) n=ds.all d7:=by unfold bA;rw[e];rfl
    refine dq d7 rfl ea r (fD r hz) (fun v d H2 Q2 hm s2 t2 q2=>⟨_,rfl,S,v,d,rfl,t2,jm hm hz,q2⟩) fun H2 s2=>?_;rw[<-ew];exact q _ (s1.trans s2)
   |_=>cases e
theorem sc13:FnScope ["thing"] ["thing"] (aK (top 23)):=fQS
theorem uR(F:Fun K "is_clip" "is_clip" (top 23) f fd)(T:Mg mg)(N:Nums mg)(c1:Cal P w K mg base 2 "are_wholes" ["thing","many"] (CP bA)):
  FnOk P w K mg base CX0 3 f fd ["thing"] (spT oW):=by
 refine F.ok sc13 (fun vs H Q E h=>?_) (fun ar A outer s H vs Q E hr h=>?_)
 .obtain⟨S,v,d,rfl,_⟩:=h;rfl
 .obtain⟨S,v,d,rfl,th,hz,q⟩:=h;obtain⟨t3,e3⟩:=N.sorts;obtain⟨t9,e9⟩:=N.wool
  refine⟨_,aF (aO (cG (aJ c1 hr (aQ (pv 0) (aQ (bY (v:=.int 3) rfl e3 ⟨_,rfl⟩) ao)))
   (dH (aN (fB rfl) rfl T.all boot_all (aQ (cC ["sacks"] [none] rfl (gw (pv 0))
    (fun C fp Zt s₂ H₂=>⟨bH (i:=0) (nd1 _) rfl (Or.inl rfl),c7,cX bM bM aC (pv 0) (bY (v:=.int 999) rfl e9 ⟨_,rfl⟩)⟩) (fun C=>trivial) ⟨rfl,rfl,rfl,rfl⟩) ao))))),?_⟩
  refine⟨_,rfl,S,v,d,3,rfl,th,hz,fun H1 s1=>⟨_,rfl,?_⟩⟩;have dA:=th.same s1;have fin:=fun H' (s:Same H H')=>q H' s;unfold oW at fin
  cases e:bA d 3 with
  |false=>
   rw[e]at fin;exact bw (fin _ s1)
  |true=>
   rw[e]at fin;refine bI ?_;obtain⟨e1,e2⟩:=jG e
   cases dA with
   |@tup a xs ds ea r=>
    refine dq (fun x=>decide (0<=intOf x)&&decide (intOf x<=999)) rfl ea r (fD r hz) (fun v d H2 Q2 hm s2 t2 q2=>?_) fun H2 s2=>fin _ (s1.trans s2);obtain⟨i,rfl,rfl⟩:=jH t2 (e2 d hm);refine⟨_,rfl,_,_,rfl,rfl,_,rfl,?_⟩;have q3:=q2 H2 (Same.refl _);show if decide ((0:Int)<=i)=true then _ else _
    cases e5:decide ((0:Int)<=i)with
    |false=>
     refine bw ?_;have q3:Q2 (.bl (decide ((0:Int)<=i)&&decide (i<=999))) H2:=q3;rw[e5]at q3;exact q3
    |true=>
     refine bI ⟨_,_,rfl,rfl,?_⟩;have q3:Q2 (.bl (decide ((0:Int)<=i)&&decide (i<=999))) H2:=q3;rw[e5]at q3;exact q3
   |_=>cases e1
theorem sc14:FnScope ["thing"] ["thing"] (aK (top 24)):=fQS
theorem qN(F:Fun K "are_clips" "are_clips" (top 24) f fd)(T:Mg mg)(N:Nums mg)(c1:Cal P w K mg base 3 "is_clip" ["thing"] (spT oW))(c2:Cal P w K mg base 1 "is_tuple_of" ["thing","fewest","most"] (jF bx)):
  FnOk P w K mg base CX0 4 f fd ["thing"] (spT gW):=by
 refine F.ok sc14 (fun vs H Q E h=>?_) (fun ar A outer s H vs Q E hr h=>?_)
 .obtain⟨S,v,d,rfl,_⟩:=h;rfl
 .obtain⟨S,v,d,rfl,th,hz,q⟩:=h;obtain⟨t3,e3⟩:=N.clips
  refine⟨_,aF (aO (cG (aJ c2 hr (aQ (pv 0) (aQ aC (aQ (bY (v:=.int 20) rfl e3 ⟨_,rfl⟩) ao))))
   (dH (aN (fB rfl) rfl T.all boot_all (aQ (cC ["part"] [none] rfl (gw (pv 0))
    (fun C fp Zt s₂ H₂=>⟨bH (i:=0) (nd1 _) rfl (Or.inl rfl),c7,aJ c1 hr (aQ (pv 0) ao)⟩) (fun C=>trivial) ⟨rfl,rfl,rfl,rfl⟩) ao))))),?_⟩
  refine⟨_,rfl,S,v,d,1,20,rfl,th,hz,fun H1 s1=>⟨_,rfl,?_⟩⟩;have dA:=th.same s1;have fin:=fun H' (s:Same H H')=>q H' s;unfold gW at fin
  cases e:bx d 1 20 with
  |false=>
   rw[e]at fin;exact bw (fin _ s1)
  |true=>
   rw[e]at fin;refine bI ?_
   cases dA with
   |@tup a xs ds ea r=>exact dq oW rfl ea r (fD r hz) (fun v d H2 Q2 hm s2 t2 q2=>⟨_,rfl,S,v,d,rfl,t2,jm hm hz,q2⟩) fun H2 s2=>fin _ (s1.trans s2)
   |_=>cases e
theorem sc15:FnScope ["thing","holder","sort","first","last","sacks","price"] ["thing"] (aK (top 25)):=fQS
theorem nW(F:Fun K "is_promise" "is_promise" (top 25) f fd)(T:Mg mg)(N:Nums mg)(c1:Cal P w K mg base 2 "are_wholes" ["thing","many"] (CP bA)):
  FnOk P w K mg base CX0 3 f fd ["thing"] (spT jl):=by
 refine F.ok sc15 (fun vs H Q E h=>?_) (fun ar A outer s H vs Q E hr h=>?_)
 .obtain⟨S,v,d,rfl,_⟩:=h;rfl
 .obtain⟨S,v,d,rfl,th,hz,q⟩:=h;obtain⟨t1,e1⟩:=N.holders;obtain⟨t2,e2⟩:=N.sorts;obtain⟨t3,e3⟩:=N.year;obtain⟨t4,e4⟩:=N.sacks;obtain⟨t5,e5⟩:=N.price
  refine⟨_,aB (cj (cu (di (aJ c1 hr (aQ (pv 0) (aQ aC ao))))) (aF (aO iI)) aZ)
   (aB (cH (pv 0) (bG rfl (aq (pgn 1 sc15.nd) (aq (pgn 2 sc15.nd) (aq (pgn 3 sc15.nd)
    (aq (pgn 4 sc15.nd) (aq (pgn 5 sc15.nd) (aq (pgn 6 sc15.nd) aW))))))))
   (aF (aO (cG (cX bM jR aC (pv 1) (bY (v:=.int 8) rfl e1 ⟨_,rfl⟩)) (cG (cX bM jR aC (pv 2) (bY (v:=.int 3) rfl e2 ⟨_,rfl⟩))
    (cG (xH bM bM bM aC (pv 3) (pv 4) (bY (v:=.int 19) rfl e3 ⟨_,rfl⟩)) (cG (cX bM bM aC (pv 5) (bY (v:=.int 99) rfl e4 ⟨_,rfl⟩))
     (dH (cX bM bM aC (pv 6) (bY (v:=.int 1000000) rfl e5 ⟨_,rfl⟩)))))))))),?_⟩
  refine⟨_,rfl,S,v,d,6,rfl,th,hz,fun H1 s1=>⟨_,rfl,?_⟩⟩;have dA:=th.same s1;have fin:=fun H' (s:Same H H')=>q H' s;unfold jl at fin
  cases e:bA d 6 with
  |false=>
   rw[e]at fin;exact bI (fin _ s1)
  |true=>
   rw[e]at fin;refine bw ?_;obtain⟨z1,z2⟩:=jG e
   cases dA with
   |@tup a xs ds ea r=>
    have hl:ds.length=6:=by
     have:=yd z1;lia
    obtain⟨i1,i2,i3,i4,i5,i6,rfl,rfl⟩:=zJ r hl z2;refine⟨_,rfl,a,_,rfl,SqT.of ea,rfl,_,_,rfl,_,_,rfl,_,_,rfl,_,_,rfl,_,_,rfl,_,_,rfl,rfl,?_⟩;refine gP (bQ eU (dB rfl) eU) (fun _=>gP (bQ eU (dB rfl) eU) fun _=>gP (xJ eU (dB rfl) (dB rfl) eU) fun _=>gP (bQ eU (dB rfl) eU) fun _=>bQ eU (dB rfl) eU) _ ?_;exact fin H1 s1
   |_=>cases z1
theorem JG:FnScope ["thing"] ["thing"] (aK (top 26)):=fQS
theorem kE(F:Fun K "are_promises" "are_promises" (top 26) f fd)(T:Mg mg)(N:Nums mg)(c1:Cal P w K mg base 3 "is_promise" ["thing"] (spT jl))(c2:Cal P w K mg base 1 "is_tuple_of" ["thing","fewest","most"] (jF bx)):
  FnOk P w K mg base CX0 4 f fd ["thing"] (spT dX):=by
 refine F.ok JG (fun vs H Q E h=>?_) (fun ar A outer s H vs Q E hr h=>?_)
 .obtain⟨S,v,d,rfl,_⟩:=h;rfl
 .obtain⟨S,v,d,rfl,th,hz,q⟩:=h;obtain⟨t3,e3⟩:=N.proms
  refine⟨_,aF (aO (cG (aJ c2 hr (aQ (pv 0) (aQ aC (aQ (bY (v:=.int 10) rfl e3 ⟨_,rfl⟩) ao))))
   (dH (aN (fB rfl) rfl T.all boot_all (aQ (cC ["part"] [none] rfl (gw (pv 0))
    (fun C fp Zt s₂ H₂=>⟨bH (i:=0) (nd1 _) rfl (Or.inl rfl),c7,aJ c1 hr (aQ (pv 0) ao)⟩) (fun C=>trivial) ⟨rfl,rfl,rfl,rfl⟩) ao))))),?_⟩
  refine⟨_,rfl,S,v,d,0,10,rfl,th,hz,fun H1 s1=>⟨_,rfl,?_⟩⟩;have dA:=th.same s1;have fin:=fun H' (s:Same H H')=>q H' s;unfold dX at fin
  cases e:bx d 0 10 with
  |false=>
   rw[e]at fin;exact bw (fin _ s1)
  |true=>
   rw[e]at fin;refine bI ?_
   cases dA with
   |@tup a xs ds ea r=>exact dq jl rfl ea r (fD r hz) (fun v d H2 Q2 hm s2 t2 q2=>⟨_,rfl,S,v,d,rfl,t2,jm hm hz,q2⟩) fun H2 s2=>fin _ (s1.trans s2)
   |_=>cases e
def kJ(d:PyData)(lo hi:Int):Bool:=d7 d&&(decide (lo<=intOf d)&&decide (intOf d<=hi))
def jo(H:Hp)(st:Addr):Prop:=∃a b:Int,H st=some (.lst [.int a,.int b])/\0<=a/\0<=b/\b<4294967296
def But(st:Addr)(H H':Hp):Prop:=∀b o,H b=some o->b≠st->H' b=some o
inductive SpCellI(K:Frag)(vs:List V)(H:Hp)(Q:VK):Prop
 |mk:∀(a:Addr) (ns:List Int) (k:Int),(vs=[.ref a,.int k])->(SqL K H a (ns.map V.int))->(0<=k)->(∀i,Q (.int i) H)->SpCellI K vs H Q
def zK(K:Frag):Sp:=fun vs H Q _=>SpCellI K vs H Q
inductive SpStateI(K:Frag)(vs:List V)(H:Hp)(Q:VK):Prop
 |mk:∀(a:Addr) (ns:List Int) (k:Int),(vs=[.ref a,.int k])->(SqL K H a (ns.map V.int))->(0<=k)->(∀(p:Addr) (x y:Int),H p=none->0<=x->0<=y->y<4294967296->Q (.ref p) (upd H p (.lst [.int x,.int y])))->SpStateI K vs H Q
def vP(K:Frag):Sp:=fun vs H Q _=>SpStateI K vs H Q
inductive SpTakeI(vs:List V)(H:Hp)(Q:VK):Prop
 |mk:∀(st:Addr) (n:Int),(vs=[.ref st,.int n])->(jo H st)->(1<=n)->(n<1073741824)->(∀r a' b':Int,0<=r->r<n->0<=a'->0<=b'->b'<4294967296->Q (.int r) (upd H st (.lst [.int a',.int b'])))->SpTakeI  vs H Q
def mQ:Sp:=fun vs H Q _=>SpTakeI  vs H Q
theorem JH:FnScope ["_law_script","_law_k"] ["_law_script","_law_k"] (aK (top 59)):=fQS
theorem CQ(F:Fun K "_law_cell_at" "_law_cell_at" (top 59) f fd)(T:Mg mg):FnOk P w K mg base CX0 1 f fd ["_law_script","_law_k"] (zK K):=by
 refine F.ok JH (fun vs H Q E h=>?_) (fun ar A outer s H vs Q E hr h=>?_)
 .obtain⟨a,ns,k,rfl,_⟩:=h;rfl
 .obtain⟨a,ns,k,rfl,hS,h0,q⟩:=h;refine⟨_,aB (cj (bz jR (pv 1) (aN bF rfl T.len PySem.boot_len (aQ (pv 0) ao)) (bf _)) (aF (aO (pX bZ (pv 0) (pv 1)))) aZ) (aF (aO aC)),?_⟩;refine⟨_,rfl,_,rfl,a,_,rfl,.inl hS,_,_,rfl,rfl,_,rfl,?_⟩;refine Ce (fun c=>?_) (fun _=>q 0);have c:=zB2 c;rw[zA1]at c;have hk:k.toNat<ns.length:=Zz
  refine⟨_,rfl,_,rfl,a,_,k,.int ns[k.toNat],rfl,rfl,hS,?_,q _⟩;have e:(ns.map V.int)[k.toNat]?=some (.int ns[k.toNat]):=by rw[zAb,zA0 hk];rfl
  have:=dN e;rw[show((k.toNat:Nat):Int)=k by lia]at this;exact this
theorem sc19:FnScope ["_law_script","_law_k","_law_cell"] ["_law_script","_law_k"] (aK (top 60)):=fQS
theorem zM(F:Fun K "_law_state" "_law_state" (top 60) f fd)(c1:Cal P w K mg base 1 "_law_cell_at" ["_law_script","_law_k"] (zK K)):FnOk P w K mg base CX0 2 f fd ["_law_script","_law_k"] (vP K):=by
 refine F.ok sc19 (fun vs H Q E h=>?_) (fun ar A outer s H vs Q E hr h=>?_)
 .obtain⟨a,ns,k,rfl,_⟩:=h;rfl
 .obtain⟨a,ns,k,rfl,hS,h0,q⟩:=h
  refine⟨_,aB (pss 2 sc19.nd (aJ c1 hr (aQ (pv 0) (aQ (pv 1) ao))))
   (aB (cj (bz rK (pv 2) (aU uv aC aC) (bf _)) (aF (aO (cJ (az (aU fj (pv 2) (aU uv aC aC)) (az (aU bL (aU gB (pv 2) aC) aC) ao))))) aZ)
   (aF (aO (cJ (az aC (az (aU bL (aU gB (pv 2) aC) aC) ao)))))),?_⟩
  refine⟨_,rfl,_,rfl,a,ns,k,rfl,hS,h0,fun c=>?_⟩;refine⟨_,rfl,_,_,rfl,rfl,⟨by decide,by decide,by decide⟩,_,_,rfl,rfl,_,rfl,?_⟩;refine Ce (fun hc=>?_) (fun _=>?_)
  .have hc:=zB2 hc;refine⟨_,rfl,_,_,rfl,rfl,⟨by decide,by decide,by decide⟩,_,_,rfl,rfl,_,rfl,_,_,rfl,rfl,(by show(0:Int)<2147483629;decide),_,_,rfl,rfl,zL,fun p hp=>?_⟩;refine q p _ _ hp ?_ ?_ ?_
   .show 0<=c-(10:Int)^18;have hc:(10:Int)^18<=c:=hc;lia
   .show 0<=c % 2147483629+1;lia
   .show c % 2147483629+1<4294967296;lia
  .refine⟨_,rfl,_,_,rfl,rfl,(by show(0:Int)<2147483647;decide),_,_,rfl,rfl,zL,fun p hp=>?_⟩;refine q p _ _ hp (Int.le_refl 0) ?_ ?_
   .show 0<=c % 2147483647+1;lia
   .show c % 2147483647+1<4294967296;lia
theorem sc20:FnScope ["_law_state_here","_law_many","_law_found","_law_stirred"] ["_law_state_here","_law_many"] (aK (top 61)):=fQS
theorem CT(F:Fun K "_law_take" "_law_take" (top 61) f fd):FnOk P w K mg base CX0 1 f fd ["_law_state_here","_law_many"] mQ:=by
 refine F.ok sc20 (fun vs H Q E h=>?_) (fun ar A outer s H vs Q E hr h=>?_)
 .obtain⟨st,n,rfl,_⟩:=h;rfl
 .obtain⟨st,n,rfl,⟨a,b,es,ha,hb,ko⟩,h1,h2,q⟩:=h
  refine⟨_,aB (cj (bz lG (pX bZ (pv 0) aC) aC (bf _))
    (aB (pss 2 sc20.nd (aU gB (pX bZ (pv 0) aC) (pv 1)))
     (aB (cH (aU pZ (pX bZ (pv 0) aC) (pv 1)) (uq (pv 0) aC set_list)) (aF (aO (pv 2))))) aZ)
   (aB (cH (aU gB (aU bL (aU fV (pX bZ (pv 0) aC) aC) aC) aC) (uq (pv 0) aC set_list))
   (aB (pss 3 sc20.nd (aU gB (aU bL (aU bL (aU fV (pX bZ (pv 0) aC) (pX bZ (pv 0) aC)) (aU fV aC (pX bZ (pv 0) aC))) aC) aC))
   (aB (pss 3 sc20.nd (aU gB (aU bL (aU bL (aU fV (pv 3) (pv 3)) (aU fV aC (pv 3))) aC) aC))
   (aF (aO (aU gB (aU pZ (pv 3) aC) (pv 1))))))),?_⟩
  refine⟨_,rfl,st,_,0,.int a,rfl,rfl,SqL.of es,rfl,_,_,rfl,rfl,_,rfl,?_⟩;refine Ce (fun hc=>?_) (fun _=>?_)
  .refine⟨_,rfl,st,_,0,.int a,rfl,rfl,SqL.of es,rfl,_,rfl,_,_,rfl,rfl,(by show 0<n;lia),?_⟩;refine⟨_,rfl,st,_,0,.int a,rfl,rfl,SqL.of es,rfl,_,rfl,_,_,rfl,rfl,⟨Zz,h2⟩,_,rfl,st,_,0,0,rfl,rfl,es,rfl,_,rfl,?_⟩;exact q (a % n) (a / n) b (Int.emod_nonneg a Zz) (Int.emod_lt_of_pos a Zz) (Int.ediv_nonneg ha Zz) hb ko
  .refine⟨_,rfl,st,_,1,.int b,rfl,rfl,SqL.of es,rfl,_,_,rfl,rfl,.inl ⟨Zz,Zz⟩,_,_,rfl,rfl,_,_,rfl,rfl,(by show(0:Int)<2147483647;decide),_,rfl,st,_,1,1,rfl,rfl,es,rfl,?_⟩;have IF:0<=(b*48271+29) % 2147483647:=Int.emod_nonneg _ Zx;have L4:(b*48271+29) % 2147483647<2147483647:=Int.emod_lt_of_pos _ Zx
   obtain⟨m,hm⟩:∃m,m=(b*48271+29) % 2147483647:=⟨_,rfl⟩
   rw[<-hm]at IF L4;have eL:([V.int a,V.int b].set 1 ((fun i j:Int=>V.int (i % j)) (b*48271+29) 2147483647))=[V.int a,V.int m]:=by rw[hm];rfl
   rw[eL];have eC:upd H st (.lst [.int a,.int m]) st=some (.lst [.int a,.int m]):=aj;refine⟨_,rfl,st,_,1,.int m,rfl,rfl,SqL.of eC,rfl,_,rfl,st,_,1,.int m,rfl,rfl,SqL.of eC,rfl,_,_,rfl,rfl,.inl ⟨Zz,Zz⟩,_,rfl,st,_,1,.int m,rfl,rfl,SqL.of eC,rfl,_,_,rfl,rfl,.inl ⟨by decide,by decide⟩,_,_,rfl,rfl,_,_,rfl,rfl,_,_,rfl,rfl,(by show(0:Int)<2147483629;decide),?_⟩;have CU:0<=(m*m+39373*m+7) % 2147483629:=Int.emod_nonneg _ Zx;have pS:(m*m+39373*m+7) % 2147483629<2147483629:=Int.emod_lt_of_pos _ Zx;refine⟨_,rfl,_,rfl,_,_,rfl,rfl,.inl ⟨Int.lt_of_lt_of_le Zx CU,Int.lt_trans pS Zx⟩,_,rfl,_,_,rfl,rfl,.inl ⟨by decide,by decide⟩,_,_,rfl,rfl,_,_,rfl,rfl,_,_,rfl,rfl,(by show(0:Int)<2147483587;decide),?_⟩;refine⟨_,rfl,_,_,rfl,rfl,⟨by decide,by decide⟩,_,rfl,_,_,rfl,rfl,(by show 0<n;lia),?_⟩;exact q _ a m (Int.emod_nonneg _ Zz) (Int.emod_lt_of_pos _ Zz) ha IF Zz
theorem tE{X:Cx}{K:Frag}(hK:X.K=K):IxR X (Hr K):=by
 subst hK;exact bZ
theorem JK:(["_law_sort","_law_state_here","_law_wide"]:List Str).Nodup:=by decide +kernel
theorem sc21:FnScope ["_law_state_here","_law_most","_law_wide","_law_found","_law_turn"] ["_law_state_here","_law_most"] (aK (top 62)):=fQS
structure Mk3(st p3:Addr)(xs:List V)(ds:List PyData)(H H':Hp):Prop where
 bt:But st H H'
 sa:jo H' st
 e3:H' p3=some (.lst xs)
 ts:IsThs (fun _=>False) H' xs ds
theorem Mk3.take{st p3:Addr}{xs:List V}{ds:List PyData}{H H':Hp}(g:Mk3 st p3 xs ds H H')(np:p3≠st){a b:Int}(h1:0<=a)(h2:0<=b)(h3:b<4294967296):Mk3 st p3 xs ds H (upd H' st (.lst [.int a,.int b])):=by
 refine⟨fun b' o' e' ne=>?_,⟨a,b,aj,h1,h2,h3⟩,by rw[aA np];exact g.e3,g.ts.keep (fun c l e=>?_) (fun _ _ z _=>z.elim) fun _ _ z _=>z.elim⟩
 .rw[aA ne];exact g.bt b' o' e' ne
 .obtain⟨x,y,e7,_⟩:=g.sa
  have:c≠st:=fun z=>by
   rw[z,e7]at e;cases e
  rw[aA this];exact e
theorem Mk3.new{st p3 p:Addr}{xs:List V}{ds:List PyData}{H H':Hp}{o:HO}(g:Mk3 st p3 xs ds H H')(hp:H' p=none):Mk3 st p3 xs ds H (upd H' p o):=by
 obtain⟨x,y,e7,k⟩:=g.sa;exact⟨fun b' o' e' ne=>Same.upd hp _ _ (g.bt b' o' e' ne),⟨x,y,Same.upd hp _ _ e7,k⟩,Same.upd hp _ _ g.e3,g.ts.same (Same.upd hp)⟩
theorem boot_min:bootBuiltins "min"=some (.builtin "min"):=by decide +kernel
theorem sc22:FnScope ["_law_state_here","_law_most","_law_years","_law_found","_law_wide","_law_turn","_law_first","_law_last","_law_price","_law_holder"] ["_law_state_here","_law_most","_law_years"] (aK (top 63)):=fQS
structure Dr(st:Addr)(H H':Hp):Prop where
 bt:But st H H'
 sa:jo H' st
theorem But.refl{st:Addr}{H:Hp}:But st H H:=fun _ _ e _=>e
theorem Dr.same{st:Addr}{H H1 H2:Hp}(g:Dr st H H1)(s:Same H1 H2):Dr st H H2:=by
 obtain⟨a,b,e,k⟩:=g.sa;exact⟨fun b' o' e' ne=>s _ _ (g.bt b' o' e' ne),a,b,s _ _ e,k⟩
theorem Dr.trans{st:Addr}{H H1 H2:Hp}(g:Dr st H H1)(g':Dr st H1 H2):Dr st H H2:=⟨fun b' o' e' ne=>g'.bt _ _ (g.bt b' o' e' ne) ne,g'.sa⟩
theorem Dr.take{st:Addr}{H H1:Hp}(g:Dr st H H1){a b:Int}(h1:0<=a)(h2:0<=b)(h3:b<4294967296):Dr st H (upd H1 st (.lst [.int a,.int b])):=
 ⟨fun b' o' e' ne=>by rw[aA ne];exact g.bt b' o' e' ne,a,b,aj,h1,h2,h3⟩
theorem Dr.new{st p:Addr}{o:HO}{H H1:Hp}(g:Dr st H H1)(hp:H1 p=none):Dr st H (upd H1 p o):=g.same (Same.upd hp)
theorem Dr.ne{st p:Addr}{H H1:Hp}(g:Dr st H H1)(hp:H1 p=none):p≠st:=fun z=>by
 obtain⟨a,b,e,_⟩:=g.sa;rw[z,e]at hp;cases hp
def bV(r:List Int):PyData:=.tuple (r.map .int)
def bW(rs:List (List Int)):PyData:=.tuple (rs.map bV)
def fl(r:List Int)(i:Nat):Int:=r.getD i 0
def okP(r:List Int):Prop:=r.length=6/\(0<=fl r 0/\fl r 0<8)/\(0<=fl r 1/\fl r 1<3)/\(0<=fl r 2/\fl r 2<=fl r 3/\fl r 3<=19)/\(1<=fl r 4/\fl r 4<=99)/\(0<=fl r 5/\fl r 5<=1000000)
def dY(d:PyData):Bool:=bx d 0 12&&(items d).all fun x=>bA x 5
def rowsOf(d:PyData):List (List Int):=(items d).map fun x=>(items x).map intOf
theorem zN:∀{ds:List PyData},(∀x∈ds,d7 x=true)->ds=(ds.map intOf).map PyData.int
 |[],_=>rfl
 |d::ds,h=>by
  rw[zAk,zAk,<-zN fun x hx=>h x (List.mem_cons_of_mem _ hx)];have:=h d List.mem_cons_self
  cases d with
  |int i=>rfl
  |_=>cases this
theorem iY{x:PyData}{n:Nat}(h:bA x n=true):x=bV ((items x).map intOf)/\((items x).map intOf).length=n:=by
 obtain⟨h1,h2⟩:=jG h;unfold bx at h1;rw[zAc,zAc,Zp,Zp]at h1;obtain⟨ht,fz,ix⟩:=h1
 cases x with
 |tuple ds=>
  have fz:(n:Int)<=ds.length:=fz;have ix:(ds.length:Int)<=n:=ix;refine⟨?_,by show(ds.map intOf).length=n;rw[zA1];lia⟩;exact congrArg PyData.tuple (zN h2)
 |_=>cases ht
theorem vQ{ds:List PyData}{n:Nat}(h:∀x∈ds,bA x n=true):ds=(ds.map fun x=>(items x).map intOf).map bV:=by
 induction ds with
 |nil=>rfl
 |cons d ds ih=>
  rw[zAk,zAk,<-ih fun x hx=>h x (List.mem_cons_of_mem _ hx),<-(iY (h d List.mem_cons_self)).1]
theorem jJ{d:PyData}{f m:Int}(h:bx d f m=true):∃ds,d=.tuple ds/\f<=ds.length/\(ds.length:Int)<=m:=by
 unfold bx at h;rw[zAc,zAc,Zp,Zp]at h
 cases d with
 |tuple ds=>exact⟨ds,rfl,h.2⟩
 |_=>cases h.1
theorem oX(r:List Int)(i:Nat)(h:i<r.length):at_ (bV r) i=fl r i:=by
 show intOf ((r.map PyData.int).getD i .none)=r.getD i 0;rw[zA7,zA7,zAb,zA0 h];rfl
theorem uT{d:PyData}(h:dX d=true):d=bW (rowsOf d)/\(rowsOf d).length<=10/\∀r∈rowsOf d,okP r:=by
 unfold dX at h;rw[zAc]at h;obtain⟨ds,rfl,_,hl⟩:=jJ h.1;have h2:∀x∈ds,jl x=true:=List.all_eq_true.mp h.2
 have h3:∀x∈ds,bA x 6=true:=fun x hx=>by
  have:=h2 x hx;unfold jl at this;rw[zAc]at this;exact this.1
 refine⟨congrArg PyData.tuple (vQ (n:=6) h3),by show(ds.map _).length<=10;rw[zA1];lia,fun r hr=>?_⟩;obtain⟨x,hx,rfl⟩:=zA5.mp hr;have hx:x∈ds:=hx;obtain⟨e,L5⟩:=iY (n:=6) (h3 x hx);have:=h2 x hx;unfold jl at this;rw[zAc]at this;have p:=this.2;rw[e]at p;rw[oX _ 0 Zz,oX _ 1 Zz,oX _ 2 Zz,oX _ 3 Zz,oX _ 4 Zz,oX _ 5 Zz]at p;unfold qK at p;simp only[Bool.and_eq_true,Zp]at p;obtain⟨⟨a1,a2⟩,⟨b1,b2⟩,⟨c1,c2,c3⟩,⟨d1,d2⟩,e1,e2⟩:=p;exact⟨L5,⟨a1,a2⟩,⟨b1,b2⟩,⟨c1,c2,c3⟩,⟨d1,d2⟩,e1,e2⟩
theorem uU{d:PyData}(h:dY d=true):d=bW (rowsOf d)/\(rowsOf d).length<=12/\∀r∈rowsOf d,r.length=5:=by
 unfold dY at h;rw[zAc]at h;obtain⟨ds,rfl,_,hl⟩:=jJ h.1;have h3:∀x∈ds,bA x 5=true:=List.all_eq_true.mp h.2;refine⟨congrArg PyData.tuple (vQ (n:=5) h3),by show(ds.map _).length<=12;rw[zA1];lia,fun r hr=>?_⟩;obtain⟨x,hx,rfl⟩:=zA5.mp hr;exact(iY (n:=5) (h3 x hx)).2
structure RowsAt(H:Hp)(a:Addr)(xs:List V)(rs:List (List Int)):Prop where
 e:H a=some (.tup xs)
 l:xs.length=rs.length
 g:∀(i:Nat) (r:List Int),rs[i]?=some r->∃t,xs[i]?=some (V.ref t)/\H t=some (.tup (r.map V.int))
theorem RowsAt.keep{H H':Hp}{a:Addr}{xs:List V}{rs:List (List Int)}(h:RowsAt H a xs rs)(k:∀b l,H b=some (.tup l)->H' b=some (.tup l)):RowsAt H' a xs rs:=
 ⟨k _ _ h.e,h.l,fun i r e=>by
  obtain⟨t,e1,e2⟩:=h.g i r e
  exact⟨t,e1,k _ _ e2⟩⟩
theorem RowsAt.same{H H':Hp}{a:Addr}{xs:List V}{rs:List (List Int)}(h:RowsAt H a xs rs)(s:Same H H'):RowsAt H' a xs rs:=h.keep fun _ _ e=>s _ _ e
theorem tG{S:Addr->Prop}{H:Hp}:∀{r:List Int} {xs:List V},IsThs S H xs (r.map .int)->xs=r.map V.int
 |[],_,.nil=>rfl
 |i::r,_,.cons h t=>by
  cases h;rw[tG (r:=r) t];rfl
theorem Gd{S:Addr->Prop}{H:Hp}{v:V}{r:List Int}(h:IsTh S H v (bV r)):∃t,v=V.ref t/\H t=some (.tup (r.map V.int)):=by
 generalize hd:bV r=d at h
 cases h with
 |@tup a xs ds e t=>
  injection hd with hd;subst hd;rw[tG t]at e;exact⟨a,rfl,e⟩
 |_=>cases hd
theorem lu{S:Addr->Prop}{H:Hp}{v:V}{rs:List (List Int)}(h:IsTh S H v (bW rs)):∃a xs,v=.ref a/\RowsAt H a xs rs:=by
 generalize hd:bW rs=d at h
 cases h with
 |@tup a xs ds e t=>
  injection hd with hd;subst hd;refine⟨a,xs,rfl,e,by rw[t.length,zA1],fun i r hr=>?_⟩;have hi:i<rs.length:=(zAa.mp hr).1;have hx:xs[i]?=some (xs[i]'(by rw[t.length,zA1];exact hi)):=zA0 _;obtain⟨d,h1,h2⟩:=t.get hx;rw[zAb,hr]at h1;injection h1 with h1;subst h1;obtain⟨t',e1,e2⟩:=Gd h2;exact⟨t',by rw[hx,e1],e2⟩
 |_=>cases hd
theorem RowsAt.th{H:Hp}{a:Addr}:∀{rs:List (List Int)} {xs:List V},RowsAt H a xs rs->IsTh (fun _=>False) H (.ref a) (bW rs):=by
 intro rs xs h;refine .tup h.e ?_
 have gen:∀(rs:List (List Int)) (xs:List V),xs.length=rs.length->(∀(i:Nat) (r:List Int),rs[i]?=some r->∃t,xs[i]?=some (V.ref t)/\H t=some (.tup (r.map V.int)))->IsThs (fun _=>False) H xs (rs.map bV):=by
  intro rs
  induction rs with
  |nil=>
   intro xs hl _;have:xs=[]:=List.length_eq_zero_iff.mp hl;subst this;exact .nil
  |cons r rs ih=>
   intro xs hl hg
   cases xs with
   |nil=>simp at hl
   |cons x xs=>
    obtain⟨t,e1,e2⟩:=hg 0 r rfl;have e1:x=.ref t:=by simpa using e1
    subst e1;exact .cons (.tup e2 (IsThs.ints r)) (ih xs (by simpa using hl) fun i r' e=>hg (i+1) r' (by simpa using e))
 exact gen rs xs h.l h.g
def iZ(L:List Int)(i:Int)(v:Int):List Int:=L.set i.toNat (L.getD i.toNat 0+v)
def hstep(n y:Int)(L:List Int)(s:List Int):List Int:=if fl s 0=n/\fl s 4<=y then iZ (iZ L (fl s 1) (-(fl s 3))) (fl s 2) (fl s 3)else L
def base0(p:List Int):List Int:=(List.replicate 8 0).set (fl p 0).toNat (fl p 4)
def bj(p:List Int)(ss:List (List Int))(n y:Int):List Int:=if fl p 2<=y/\y<=fl p 3 then ss.foldl (hstep n y) (base0 p)else List.replicate 8 0
def mR(ps:List (List Int))(s:List Int):List Int:=ps.getD (fl s 0).toNat []
def nY(ps:List (List Int))(s:List Int):Bool:=(decide (0<=fl s 0)&&decide (fl s 0<ps.length))&&((decide (0<=fl s 1)&&decide (fl s 1<8))&&((decide (0<=fl s 2)&&decide (fl s 2<8))&&((!decide (fl s 1=fl s 2))&&((decide (1<=fl s 3)&&decide (fl s 3<=99))&&(decide (fl (mR ps s) 2<=fl s 4)&&decide (fl s 4<=fl (mR ps s) 3))))))
def years(a b:Int):List Int:=(List.range (b+1-a).toNat).map fun(i:Nat)=>a+i
def du(ps ss:List (List Int))(s:List Int):Bool:=nY ps s&&(years (fl s 4) (fl (mR ps s) 3)).all fun y=>decide (fl s 3<=(bj (mR ps s) ss (fl s 0) y).getD (fl s 1).toNat 0)
def un(ps ss:List (List Int)):Option Nat:=(List.range ss.length).find? fun i=>!du ps (ss.take i) (ss.getD i [])
theorem gY(L:List Int)(i v:Int):(iZ L i v).length=L.length:=by unfold iZ;rw[List.length_set]
theorem ye(n y:Int)(L s:List Int):(hstep n y L s).length=L.length:=by
 unfold hstep;split
 .rw[gY,gY]
 .rfl
theorem dJ(p:List Int)(ss:List (List Int))(n y:Int):(bj p ss n y).length=8:=by
 unfold bj;split
 .have:∀(ss:List (List Int)) (L:List Int),L.length=8->(ss.foldl (hstep n y) L).length=8:=by
   intro ss
   induction ss with
   |nil=>exact fun L h=>h
   |cons s ss ih=>exact fun L h=>ih _ (by rw[ye];exact h)
  exact this ss _ (by unfold base0;rw[List.length_set,List.length_replicate])
 .rw[List.length_replicate]
theorem iC{X:Cx}:GQ X (fun x y H Q=>∃p xs i v,x=.ref p/\y=.int i/\SqL X.K H p xs/\0<=i/\xs[i.toNat]?=some v/\Q v H):=by
 intro Zt s σ H x y v u Q I rx ry h;obtain⟨p,xs,i,z,rfl,rfl,hq,h0,he,q⟩:=h;cases rx;obtain⟨t,rfl⟩:=ry;obtain⟨Zr,r,pl,hz⟩:=I.list hq;obtain⟨w,ew,eJ⟩:=r.get he;have hn:=lH;have hl:=r.length;have hi:=(zAa.mp he).1;exact PySem.wpAny_getItem_list pl.isList h0 Zz (by simpa using ew) ⟨z,H,I,eJ,q⟩
theorem dC{p:List Int}(h:p.length=6):p=[fl p 0,fl p 1,fl p 2,fl p 3,fl p 4,fl p 5]:=by
 obtain⟨a,b,c,d,e,f,rfl⟩:=Im h;rfl
theorem gZ{p:List Int}(h:p.length=5):p=[fl p 0,fl p 1,fl p 2,fl p 3,fl p 4]:=by
 obtain⟨a,b,c,d,e,rfl⟩:=Il h;rfl
theorem qO(L:List Int)(i:Nat)(v:Int):(L.map V.int).set i (.int v)=(L.set i v).map V.int:=by rw[List.map_set]
theorem jq{L:List Int}{i:Nat}(h:i<L.length):(L.map V.int)[i]?=some (.int (L.getD i 0)):=by
 rw[zAb,zA0 h,zA7,zA0 h];rfl
theorem vR{n:Nat}{i:Int}(h0:0<=i)(h1:i<n):ixN n i=some i.toNat:=by
 unfold ixN;rw[zAx h0,zAx h1]
def okS(s:List Int):Prop:=s.length=5/\(0<=fl s 1/\fl s 1<8)/\(0<=fl s 2/\fl s 2<8)
inductive SpHeldI(vs:List V)(H:Hp)(Q:VK):Prop
 |mk:∀ap xp ps af xs ss n y,(vs=[.ref ap,.ref af,.int n,.int y])->(RowsAt H ap xp ps)->(RowsAt H af xs ss)->(0<=n)->(n<ps.length)->(okP (ps.getD n.toNat []))->(ss.length<=12)->((∀s∈ss,okS s))->(∀l H',Same H H'->H' l=some (.lst ((bj (ps.getD n.toNat []) ss n y).map V.int))->Q (.ref l) H')->SpHeldI  vs H Q
def qP:Sp:=fun vs H Q _=>SpHeldI  vs H Q
structure MS(mg:Str->Option Value):Prop where
 sales:∃t,mg "MOST_SALES"=some (.int 12 t)
theorem Ip:FnScope ["thing"] ["thing"] (aK (top 27)):=fQS
theorem qQ(F:Fun K "are_sales" "are_sales" (top 27) f fd)(T:Mg mg)(N:MS mg)(c1:Cal P w K mg base 2 "are_wholes" ["thing","many"] (CP bA))(c2:Cal P w K mg base 1 "is_tuple_of" ["thing","fewest","most"] (jF bx)):
  FnOk P w K mg base CX0 3 f fd ["thing"] (spT dY):=by
 refine F.ok Ip (fun vs H Q E h=>?_) (fun ar A outer s H vs Q E hr h=>?_)
 .obtain⟨S,v,d,rfl,_⟩:=h;rfl
 .obtain⟨S,v,d,rfl,th,hz,q⟩:=h;obtain⟨t3,e3⟩:=N.sales
  refine⟨_,aF (aO (cG (aJ c2 hr (az (pv 0) (az aC (az (bY (v:=.int 12) rfl e3 ⟨_,rfl⟩) ao))))
   (dH (aN (fB rfl) rfl T.all boot_all (az (cC ["part"] [none] rfl (gw (pv 0))
    (fun C fp Zt s₂ H₂=>⟨bH (i:=0) (nd1 _) rfl (Or.inl rfl),c7,aJ c1 hr (az (pv 0) (az aC ao))⟩) (fun C=>trivial) ⟨rfl,rfl,rfl,rfl⟩) ao))))),?_⟩
  refine⟨_,rfl,S,v,d,0,12,rfl,th,hz,fun H1 s1=>⟨_,rfl,?_⟩⟩;have dA:=th.same s1;have fin:=fun H' (s:Same H H')=>q H' s;unfold dY at fin
  cases e:bx d 0 12 with
  |false=>
   rw[e]at fin;exact bw (fin _ s1)
  |true=>
   rw[e]at fin;refine bI ?_
   cases dA with
   |@tup a xs ds ea r=>exact dq (fun x=>bA x 5) rfl ea r (fD r hz) (fun v d H2 Q2 hm s2 t2 q2=>⟨_,rfl,S,v,d,5,rfl,t2,jm hm hz,q2⟩) fun H2 s2=>fin _ (s1.trans s2)
   |_=>cases e
theorem sc23s:FnScope ["promises","sales","number","year","holder","sort","first","last","sacks","price","held","promise","seller","buyer","sold","since"] ["promises","sales","number","year"] (aK (top 28)):=fQS
theorem CV(F:Fun K "held_in" "held_in" (top 28) f fd)(N:Nums mg):FnOk P w K mg base CX0 1 f fd ["promises","sales","number","year"] qP:=by
 refine F.ok sc23s (fun vs H Q E h=>?_) (fun ar A outer s H vs Q E hr h=>?_)
 .obtain⟨ap,xp,ps,af,xs,ss,n,y,rfl,_⟩:=h;rfl
 .obtain⟨ap,xp,ps,af,xs,ss,n,y,rfl,rp,rs,n0,n1,okp,hl,cw,q⟩:=h;obtain⟨t1,e1⟩:=N.holders
  refine⟨_,aB (cH (pX bC (pv 0) (pv 2)) (bG rfl (aq (pgn 4 sc23s.nd) (aq (pgn 5 sc23s.nd) (aq (pgn 6 sc23s.nd)
    (aq (pgn 7 sc23s.nd) (aq (pgn 8 sc23s.nd) (aq (pgn 9 sc23s.nd) aW))))))))
   (aB (pss 10 sc23s.nd (aU Fz (cJ (az aC ao)) (bY (v:=.int 8) rfl e1 ⟨_,rfl⟩)))
   (aB (cj (cu (fu bM bM (pv 6) (pv 3) (pv 7))) (aF (aO (pv 10))) aZ)
   (aB (cH (pv 8) (uq (pv 10) (pv 4) set_list))
   (aB (cD zB5 rfl (gw (pv 1)) (bG rfl (aq (pgn 11 sc23s.nd) (aq (pgn 12 sc23s.nd) (aq (pgn 13 sc23s.nd)
     (aq (pgn 14 sc23s.nd) (aq (pgn 15 sc23s.nd) aW))))))
    (aF (cj (PW.pt (pQ (bz gK (pv 11) (pv 2) (bf _)) (kW (bz bM (pv 15) (pv 3) (bf _)))))
     (aB (pU (pv 10) (pv 12) iC (pv 14) yG set_list) (aF (pU (pv 10) (pv 13) iC (pv 14) yF set_list))) aZ)))
   (aF (aO (pv 10))))))),?_⟩
  obtain⟨p,hp⟩:∃p,ps[n.toNat]?=some p:=⟨_,zA0 Zz⟩
  have ep:ps.getD n.toNat []=p:=by rw[zA7,hp];rfl
  rw[ep]at okp q;obtain⟨t,ex,et⟩:=rp.g _ _ hp;have p6:=dC okp.1;obtain⟨l6,⟨a1,a2⟩,b,⟨c1,c2,c3⟩,⟨d1,d2⟩,ee⟩:=id okp
  have bP:atI xp n=some (.ref t):=by
   have:=dN ex;rw[show((n.toNat:Nat):Int)=n by lia]at this;exact this
  rw[p6]at et;refine aH ?_;refine⟨_,rfl,_,rfl,ap,xp,n,.ref t,rfl,rfl,SqT.of rp.e,bP,?_⟩;refine⟨t,_,rfl,SqT.of et,rfl,_,_,rfl,_,_,rfl,_,_,rfl,_,_,rfl,_,_,rfl,_,_,rfl,rfl,?_⟩;dsimp only;refine aH (aX ?_);refine⟨zL,fun l0 IG=>⟨l0,8,_,rfl,rfl,aj,by decide,by decide,zL,fun l1 fz=>?_⟩⟩;have s1:Same H (upd (upd H l0 (.lst [V.int 0])) l1 (.lst (List.replicate (8:Int).toNat [V.int 0]).flatten)):=(Same.upd IG).updR fz;have el1:upd (upd H l0 (.lst [V.int 0])) l1 (.lst (List.replicate (8:Int).toNat [V.int 0]).flatten) l1=some (.lst ((List.replicate 8 (0:Int)).map V.int)):=aj;have Au:H l1=none:=(Same.upd IG).free fz;generalize upd (upd H l0 (.lst [V.int 0])) l1 (.lst (List.replicate (8:Int).toNat [V.int 0]).flatten)=H1 at s1 el1⊢;refine aM ?_;dsimp only;refine aH ?_;refine bQ (p:=fun i j=>decide (i<=j)) (q:=fun i j=>decide (i<=j)) (i:=fl p 2) (j:=y) (k:=fl p 3) (dB rfl) (dB rfl) (dB rfl) _ ⟨_,rfl,?_⟩;by_cases fF:fl p 2<=y/\y<=fl p 3
  .rw[decide_eq_true fF.1,decide_eq_true fF.2];refine bw (dh ?_);dsimp only;refine aH ?_;refine⟨_,rfl,_,rfl,_,rfl,l1,_,fl p 0,(fl p 0).toNat,rfl,rfl,el1,vR a1 (by show fl p 0<8;exact a2),?_⟩;rw[qO];dsimp only;refine aH ?_;have L6:af≠l1:=aG rs.e Au;refine⟨_,rfl,af,rfl,⟨xs,SqT.of (by rw[aA L6];exact s1 _ _ rs.e)⟩,?_⟩
   have CY:∀{Hc:Hp} {o:HO},Same H Hc->Same H (upd Hc l1 o):=fun{Hc o} sm b u e=>by
    rw[aA (aG e Au)];exact sm _ _ e
   refine BK (xs:=xs) (fun i σ Hc=>∃gy mE mI mM mN,σ=[some (.ref ap),some (.ref af),some (.int n),some (.int y),some (.int (fl p 0)),some (.int (fl p 1)),some (.int (fl p 2)),some (.int (fl p 3)),some (.int (fl p 4)),some (.int (fl p 5)),some (.ref l1),gy,mE,mI,mM,mN]/\Same H Hc/\Hc l1=some (.lst (((ss.take i).foldl (hstep n y) (base0 p)).map V.int))) ?_ ?_ ?_ ?_
   .exact⟨none,none,none,none,none,rfl,CY s1,aj⟩
   .rintro i σ Hc hi ⟨gy,mE,mI,mM,mN,rfl,sm,el⟩;exact SqT.of (sm _ _ rs.e)
   .rintro i x σ Hc hx ⟨gy,mE,mI,mM,mN,rfl,sm,el⟩
    have hi:i<ss.length:=by
     have:=(zAa.mp hx).1;rw[rs.l]at this;exact this
    obtain⟨tr,fk,c6⟩:=rs.g i ss[i] (zA0 hi)
    have:x=.ref tr:=by
     rw[hx]at fk;exact zAl fk
    subst this;obtain⟨o1,⟨o2,o3⟩,o4,o5⟩:=cw ss[i] (zAh hi);have s5:=gZ o1;have de:ss.take (i+1)=ss.take i++[ss[i]]:=by rw[zAj,zA0 hi];rfl
    have vT:(ss.take (i+1)).foldl (hstep n y) (base0 p)=hstep n y ((ss.take i).foldl (hstep n y) (base0 p)) ss[i]:=by rw[de,List.foldl_append];rfl
    rw[vT];generalize hL:(ss.take i).foldl (hstep n y) (base0 p)=L at el⊢
    have lL:L.length=8:=by
     have:=dJ p (ss.take i) n y;unfold bj at this;rw[zAx fF,hL]at this;exact this
    generalize ss[i]=r at c6 s5 o2 o3 o4 o5⊢;rw[s5]at c6;refine⟨tr,_,rfl,SqT.of (sm _ _ c6),rfl,_,_,rfl,_,_,rfl,_,_,rfl,_,_,rfl,_,_,rfl,rfl,?_⟩;refine⟨_,rfl,_,rfl,rfl,_,rfl,?_⟩;by_cases hn:fl r 0=n
    .rw[zAt (show V.int (fl r 0)=V.int n by rw[hn])];refine bI ?_;refine⟨_,rfl,_,rfl,_,_,rfl,rfl,_,rfl,?_⟩;by_cases hy:fl r 4<=y
     .rw[zAt hy];refine bI ?_;have e1:hstep n y L r=iZ (iZ L (fl r 1) (-(fl r 3))) (fl r 2) (fl r 3):=zAx ⟨hn,hy⟩;rw[e1];refine aH ?_;refine⟨_,rfl,_,rfl,l1,_,fl r 1,_,rfl,rfl,SqL.of el,o2,jq Zz,_,rfl,_,_,rfl,rfl,l1,_,fl r 1,(fl r 1).toNat,rfl,rfl,el,vR o2 (by rw[zA1];lia),?_⟩;rw[qO]
      have e2:L.set (fl r 1).toNat (L.getD (fl r 1).toNat 0-fl r 3)=iZ L (fl r 1) (-(fl r 3)):=by
       unfold iZ;rw[Int.sub_eq_add_neg]
      rw[e2];generalize L7:iZ L (fl r 1) (-(fl r 3))=L1;have QZ:L1.length=8:=by rw[<-L7,gY];exact lL
      refine⟨_,rfl,_,rfl,l1,_,fl r 2,_,rfl,rfl,SqL.of aj,o4,jq Zz,_,rfl,_,_,rfl,rfl,l1,_,fl r 2,(fl r 2).toNat,rfl,rfl,aj,vR o4 (by rw[zA1];lia),?_⟩;rw[qO];exact⟨_,_,_,_,_,rfl,CY (CY sm),aj⟩
     .rw[zB1 hy];refine bw ?_;have e1:hstep n y L r=L:=zAw fun z=>hy z.2;rw[e1];exact⟨_,_,_,_,_,rfl,sm,el⟩
    .rw[zB1 (fun z:V.int (fl r 0)=V.int n=>hn (by injection z))];refine bw (bw ?_);have e1:hstep n y L r=L:=zAw fun z=>hn z.1;rw[e1];exact⟨_,_,_,_,_,rfl,sm,el⟩
   .rintro σ Hc ⟨gy,mE,mI,mM,mN,rfl,sm,el⟩;rw[rs.l,zAm]at el;refine⟨_,rfl,q _ _ sm ?_⟩;unfold bj;rw[zAx fF];exact el
  .have hb:(decide (fl p 2<=y)&&decide (y<=fl p 3))=false:=by
    cases e:(decide (fl p 2<=y)&&decide (y<=fl p 3))with
    |false=>rfl
    |true=>
     rw[zAc,Zp,Zp]at e;exact absurd e fF
   rw[hb];refine bI ⟨_,rfl,q _ _ s1 ?_⟩;unfold bj;rw[zAw fF];exact el1
theorem tH{te:TE}{lo:Int}{n:Nat}{dv:St}{j:Nat}{H0:Hp}{Fin:List V->Hp->Prop}(Pv:List V->Hp->Prop)(h0:Pv [] H0)(hz:n<sizeLine)
  (step:∀i ys H Q,i<n->ys.length=i->Pv ys H->(∀y H',Pv (ys++[y]) H'->Q y H')->te (dv.set j (some (.int (lo+i)))) H Q)
  (fin:∀ys H,ys.length=n->Pv ys H->Fin ys H):jV (Itr lo n) (bD j) uD te Fin dv H0:=by
 refine⟨fun i m ys σ H=>m=n-i/\i<=n/\ys.length=i/\(∀o,σ.set j o=dv.set j o)/\Pv ys H,⟨_,rfl,zAp _,rfl,fun _=>rfl,h0⟩,?_⟩;rintro i m ys σ H ⟨rfl,hi,hy,iF,p⟩;refine⟨Zz,?_⟩;by_cases aw:i<n
 .refine .inr ⟨aw,fun x H' y=>?_⟩;obtain⟨e,e2⟩:=y;subst e;subst e2;show te (σ.set j (some (.int (lo+i)))) H' _;rw[iF]
  exact step i ys H' _ aw hy p fun y H2 p2=>⟨n-(i+1),Zz,rfl,aw,by rw[zA2,hy];rfl,fun o=>by rw[List.set_set],p2⟩
 .have e:i=n:=Zz
  subst e;exact .inl ⟨zA3 _,fin ys H hy p⟩
theorem Ir{σ:St}{H:Hp}{ta tb:TE}{i j:Int}(a:Ev σ H ta (.int i))(b:Ev σ H tb (.int j)):Ev σ H (tOp rNe ta tb) (.bl (!decide (i=j))):=fun Q q=>a _ (b _ ⟨rfl,by
 have ed:decide (V.int i=V.int j)=decide (i=j):=decide_eq_decide.mpr ⟨fun z=>by injection z,fun z=>by rw[z]⟩;rw[ed]
 exact q⟩)
theorem jK(a b:Int):(years a b).length=(b+1-a).toNat:=by unfold years;rw[zA1,List.length_range]
theorem jL{a b:Int}{i:Nat}(h:i<(b+1-a).toNat):(years a b)[i]?=some (a+i):=by
 unfold years;rw[zAb,List.getElem?_range h];rfl
theorem oY{α β:Type}{l:List α}{f:α->β}{ys:List β}{x:α}(ey:ys=(l.take ys.length).map f)(hx:l[ys.length]?=some x):ys++[f x]=(l.take (ys++[f x]).length).map f:=by
 rw[zA2,List.length_singleton,zAj,hx,zA4,<-ey];rfl
inductive SpBetwI(vs:List V)(H:Hp)(Q:VK):Prop
 |mk:∀ap xp ps t s,(vs=[.ref ap,.ref t])->(RowsAt H ap xp ps)->((∀r∈ps,okP r))->(H t=some (.tup (s.map V.int)))->(s.length=5)->(Q (.bl (nY ps s)) H)->SpBetwI  vs H Q
def zP:Sp:=fun vs H Q _=>SpBetwI  vs H Q
inductive SpHoldsI(vs:List V)(H:Hp)(Q:VK):Prop
 |mk:∀ap xp ps af xs ss t s,(vs=[.ref ap,.ref af,.ref t])->(RowsAt H ap xp ps)->((∀r∈ps,okP r))->(RowsAt H af xs ss)->(ss.length<=12)->((∀s∈ss,okS s))->(H t=some (.tup (s.map V.int)))->(s.length=5)->(∀H',Same H H'->Q (.bl (du ps ss s)) H')->SpHoldsI  vs H Q
def vU:Sp:=fun vs H Q _=>SpHoldsI  vs H Q
def unV:Option Nat->V
 |none=>.non
 |some i=>.int i
inductive SpFirstI(vs:List V)(H:Hp)(Q:VK):Prop
 |mk:∀S v d S' u e,(vs=[v,u])->(IsTh S H v d)->(IsTh S' H u e)->(dX d=true)->(dY e=true)->(sz d<=4000)->(sz e<=4000)->(∀H',Same H H'->Q (unV (un (rowsOf d) (rowsOf e))) H')->SpFirstI  vs H Q
def vV:Sp:=fun vs H Q _=>SpFirstI  vs H Q
theorem eV{ps:List (List Int)}{n:Int}(h:∀r∈ps,okP r)(h0:0<=n)(h1:n<ps.length):∃p,ps[n.toNat]?=some p/\ps.getD n.toNat []=p/\okP p:=by
 have hn:n.toNat<ps.length:=Zz
 refine⟨ps[n.toNat],zA0 hn,?_,h _ (zAh hn)⟩;rw[zA7,zA0 hn];rfl
theorem dR{H:Hp}{a:Addr}{xs:List V}{rs:List (List Int)}{n:Int}{r:List Int}(h:RowsAt H a xs rs)(h0:0<=n)(e:rs[n.toNat]?=some r):∃t,atI xs n=some (.ref t)/\H t=some (.tup (r.map V.int)):=by
 obtain⟨t,e1,e2⟩:=h.g _ _ e;refine⟨t,?_,e2⟩;have:=dN e1;rw[show((n.toNat:Nat):Int)=n by lia]at this;exact this
theorem sc24s:FnScope ["promises","sale","number","seller","buyer","sacks","year","holder","sort","first","last","due","price"] ["promises","sale"] (aK (top 29)):=fQS
theorem CW(F:Fun K "is_sale_between" "is_sale_between" (top 29) f fd)(T:Mg mg)(N:Nums mg):FnOk P w K mg base CX0 1 f fd ["promises","sale"] zP:=by
 refine F.ok sc24s (fun vs H Q E h=>?_) (fun ar A outer s H vs Q E hr h=>?_)
 .obtain⟨ap,xp,ps,t,r,rfl,_⟩:=h;rfl
 .obtain⟨ap,xp,ps,t,r,rfl,rp,okp,et,h5,q⟩:=h;obtain⟨t1,e1⟩:=N.holders;obtain⟨t4,e4⟩:=N.sacks
  refine⟨_,aB (cH (pv 1) (bG rfl (aq (pgn 2 sc24s.nd) (aq (pgn 3 sc24s.nd) (aq (pgn 4 sc24s.nd) (aq (pgn 5 sc24s.nd) (aq (pgn 6 sc24s.nd) aW)))))))
   (aB (cj (cu (fu bM jR aC (pv 2) (aN bF rfl T.len PySem.boot_len (az (pv 0) ao)))) (aF (aO iI)) aZ)
   (aB (cH (pX bC (pv 0) (pv 2)) (bG rfl (aq (pgn 7 sc24s.nd) (aq (pgn 8 sc24s.nd) (aq (pgn 9 sc24s.nd)
    (aq (pgn 10 sc24s.nd) (aq (pgn 11 sc24s.nd) (aq (pgn 12 sc24s.nd) aW))))))))
   (aF (aO (cG (cX bM jR aC (pv 3) (bY (v:=.int 8) rfl e1 ⟨_,rfl⟩)) (cG (cX bM jR aC (pv 4) (bY (v:=.int 8) rfl e1 ⟨_,rfl⟩)) (cG (dM Hl (pv 3) (pv 4) (bf _))
    (cG (cX bM bM aC (pv 5) (bY (v:=.int 99) rfl e4 ⟨_,rfl⟩)) (dH (cX bM bM (pv 9) (pv 6) (pv 10))))))))))),?_⟩
  rw[gZ h5]at et;refine aH ?_;refine⟨_,rfl,t,_,rfl,SqT.of et,rfl,_,_,rfl,_,_,rfl,_,_,rfl,_,_,rfl,_,_,rfl,rfl,?_⟩;dsimp only;refine aH ?_;refine bQ (p:=fun i j=>decide (i<=j)) (q:=fun i j=>decide (i<j)) (i:=0) (j:=fl r 0) (k:=(xp.length:Int)) eU (dB rfl) (fun Q h=>⟨_,rfl,ap,xp,rfl,.inr (SqT.of rp.e),h⟩) _ ⟨_,rfl,?_⟩;have fin:=q;unfold nY at fin;rw[rp.l]
  cases e:(decide (0<=fl r 0)&&decide (fl r 0<ps.length))with
  |false=>
   rw[e]at fin;exact bI fin
  |true=>
   rw[e]at fin;rw[zAc,Zp,Zp]at e;obtain⟨p,hp,ep,op⟩:=eV okp e.1 e.2;obtain⟨tp,bP,bS⟩:=dR rp e.1 hp;rw[dC op.1]at bS;refine bw (dh ?_);dsimp only;refine aH ?_;refine⟨_,rfl,_,rfl,ap,xp,_,.ref tp,rfl,rfl,SqT.of rp.e,bP,?_⟩;refine⟨tp,_,rfl,SqT.of bS,rfl,_,_,rfl,_,_,rfl,_,_,rfl,_,_,rfl,_,_,rfl,_,_,rfl,rfl,?_⟩;have pT:mR ps r=p:=ep;rw[pT]at fin;exact gP (bQ eU (dB rfl) eU) (fun _=>gP (bQ eU (dB rfl) eU) fun _=>gP (Ir (dB rfl) (dB rfl)) fun _=>gP (bQ eU (dB rfl) eU) fun _=>bQ (dB rfl) (dB rfl) (dB rfl)) _ fin
theorem sc25s:FnScope ["promises","ahead","sale","number","seller","buyer","sacks","year","last"] ["promises","ahead","sale"] (aK (top 30)):=fQS
theorem JL:(["at","promises","ahead","number","seller","sacks"]:List Str).Nodup:=by decide +kernel
theorem zQ(F:Fun K "sale_holds" "sale_holds" (top 30) f fd)(T:Mg mg)(Tr:mg "range"=none)(c1:Cal P w K mg base 1 "is_sale_between" ["promises","sale"] zP)(c2:Cal P w K mg base 1 "held_in" ["promises","sales","number","year"] qP):
  FnOk P w K mg base CX0 2 f fd ["promises","ahead","sale"] vU:=by
 refine F.ok sc25s (fun vs H Q E h=>?_) (fun ar A outer s H vs Q E hr h=>?_)
 .obtain⟨ap,xp,ps,af,xs,ss,t,r,rfl,_⟩:=h;rfl
 .obtain⟨ap,xp,ps,af,xs,ss,t,r,rfl,rp,okp,rs,hl,cw,et,h5,q⟩:=h
  refine⟨_,aB (cj (cu (di (aJ c1 hr (az (pv 0) (az (pv 2) ao))))) (aF (aO iI)) aZ)
   (aB (cH (pv 2) (bG rfl (aq (bH (i:=3) sc25s.nd rfl (Or.inr rfl)) (aq (bH (i:=4) sc25s.nd rfl (Or.inr rfl)) (aq (pgn 5 sc25s.nd) (aq (bH (i:=6) sc25s.nd rfl (Or.inr rfl)) (aq (pgn 7 sc25s.nd) aW)))))))
   (aB (pss 8 sc25s.nd (pX bC (pX bC (pv 0) (pv 3)) aC))
   (aF (aO (aN (fB rfl) rfl T.all boot_all (az (cC ["at","promises","ahead","number","seller","sacks"] [none,some 0,some 1,some 3,some 4,some 6] rfl (ik rfl Tr (az (pv 7) (az (aU bL (pv 8) aC) ao)))
    (fun C fp Zt s₂ H₂=>⟨pgn 0 JL,c7,dM rK (pX (tE (K:=K) rfl) (aJ c2 hr (az (pv 1) (az (pv 2) (az (pv 3) (az (pv 0) ao))))) (pv 4)) (pv 5) (bf _)⟩)
    (fun C=>cI (cI (cI (cI (cI trivial))))) ⟨rfl,rfl,rfl,rfl⟩) ao)))))),?_⟩
  have fin:=q;unfold du at fin;refine aH ?_;refine⟨_,rfl,_,rfl,ap,xp,ps,t,r,rfl,rp,okp,et,h5,_,rfl,?_⟩
  cases e:nY ps r with
  |false=>
   rw[e]at fin;exact bI (fin _ (Same.refl _))
  |true=>
   rw[e]at fin;refine bw (dh ?_);dsimp only;refine aH ?_;unfold nY at e;simp only[Bool.and_eq_true,Zp]at e;obtain⟨⟨n0,n1⟩,⟨b0,b1⟩,_,_,⟨k0,k1⟩,y0,y1⟩:=e;obtain⟨p,hp,ep,op⟩:=eV okp n0 n1;have pT:mR ps r=p:=ep;rw[pT]at fin y0 y1;obtain⟨tp,bP,bS⟩:=dR rp n0 hp;rw[gZ h5]at et;rw[dC op.1]at bS;obtain⟨_,_,_,⟨g1,g2,g3⟩,_⟩:=id op;refine⟨_,rfl,t,_,rfl,SqT.of et,rfl,_,_,rfl,_,_,rfl,_,_,rfl,_,_,rfl,_,_,rfl,rfl,?_⟩;dsimp only;refine aH (aX ?_);refine⟨_,rfl,_,rfl,ap,xp,_,.ref tp,rfl,rfl,SqT.of rp.e,bP,tp,_,3,.int (fl p 3),rfl,rfl,SqT.of bS,rfl,?_⟩;refine aM ?_;dsimp only;refine⟨_,rfl,_,rfl,_,_,rfl,rfl,fl r 4,fl p 3+1,rfl,⟨Zz,Zz,Zz,Zz⟩,?_⟩;refine tH (fun ys Hc=>Same H Hc/\ys=((years (fl r 4) (fl p 3)).take ys.length).map fun y=>V.bl (decide (fl r 3<=(bj p ss (fl r 0) y).getD (fl r 1).toNat 0))) ⟨Same.refl _,rfl⟩ Zu ?_ ?_
   .rintro i ys Hc Qc hi hy ⟨sc,ey⟩ qc;refine⟨_,rfl,_,rfl,_,rfl,_,rfl,ap,xp,ps,af,xs,ss,fl r 0,fl r 4+i,rfl,rp.same sc,rs.same sc,n0,n1,by rw[ep];exact op,hl,cw,fun l H' s' el=>?_⟩;rw[ep]at el;refine⟨_,rfl,l,_,fl r 1,.int ((bj p ss (fl r 0) (fl r 4+i)).getD (fl r 1).toNat 0),rfl,rfl,SqL.of el,?_,_,rfl,_,_,rfl,rfl,qc _ _ ⟨sc.trans s',?_⟩⟩
    .unfold atI;rw[vR b0 (by rw[zA1,dJ];lia)];exact jq (by rw[dJ];lia)
    .have hx:(years (fl r 4) (fl p 3))[ys.length]?=some (fl r 4+(i:Int)):=by
      rw[hy];exact jL hi
     exact oY ey hx
   .rintro ys Hc hy ⟨sc,ey⟩ D hD;rw[List.take_of_length_le (by rw[jK,hy];exact zA3 _)]at ey;refine⟨D,(years (fl r 4) (fl p 3)).map fun y=>decide (fl r 3<=(bj p ss (fl r 0) y).getD (fl r 1).toNat 0),rfl,SqL.of (by rw[zAr];rw[ey];exact aj),?_⟩;rw[List.all_map];exact fin _ (sc.updR hD)
theorem mU{xs:List V}{i:Nat}(h:i<=xs.length):nC xs none (some (i:Int))=xs.take i:=by
 unfold nC;rw[HT.sIx_none,HT.sIx_nat,List.drop_zero,Nat.min_eq_left h,Nat.sub_zero]
theorem RowsAt.cut{H:Hp}{a p:Addr}{xs:List V}{rs:List (List Int)}(h:RowsAt H a xs rs)(i:Nat)(hp:H p=none):RowsAt (upd H p (.tup (xs.take i))) p (xs.take i) (rs.take i):=by
 refine⟨aj,by rw[zAd,zAd,h.l],fun j r e=>?_⟩
 have hj:j<i:=by
  rw[List.getElem?_take]at e;split at e
  .assumption
  .cases e
 rw[List.getElem?_take_of_lt hj]at e;obtain⟨t,e1,e2⟩:=h.g j r e;exact⟨t,by rw[List.getElem?_take_of_lt hj];exact e1,Same.upd hp _ _ e2⟩
theorem qR{ps ss:List (List Int)}{i:Nat}(h:∀j,j<i->du ps (ss.take j) (ss.getD j [])=true)(hi:i<ss.length)(hn:du ps (ss.take i) (ss.getD i [])=false):un ps ss=some i:=by
 unfold un;rw[List.find?_range_eq_some];exact⟨by rw[hn];rfl,List.mem_range.mpr hi,fun j hj=>by rw[h j hj];rfl⟩
theorem vW{ps ss:List (List Int)}(h:∀j,j<ss.length->du ps (ss.take j) (ss.getD j [])=true):un ps ss=none:=by
 unfold un;rw[List.find?_range_eq_none]
 exact fun j hj=>by rw[h j hj];rfl
theorem jr{ps ss:List (List Int)}{s:List Int}(h5:s.length=5)(h:du ps ss s=true):okS s:=by
 unfold du nY at h;simp only[Bool.and_eq_true,Zp]at h;exact⟨h5,h.1.2.1,h.1.2.2.1⟩
theorem getD_get{ss:List (List Int)}{i:Nat}(h:i<ss.length):ss.getD i []=ss[i]:=by
 rw[zA7,zA0 h];rfl
def part(d:PyData)(i:Nat):PyData:=(items d).getD i .none
def jX(d:PyData):Bool:=bx d 3 3&&(gW (part d 0)&&(dX (part d 1)&&(dY (part d 2)&&(un (rowsOf (part d 1)) (rowsOf (part d 2))).isNone)))
theorem sc26s:FnScope ["promises","sales","at","sale"] ["promises","sales"] (aK (top 31)):=fQS
theorem zR(F:Fun K "first_unheld" "first_unheld" (top 31) f fd)(Te:mg "enumerate"=none)(c1:Cal P w K mg base 4 "are_promises" ["thing"] (spT dX))(c2:Cal P w K mg base 3 "are_sales" ["thing"] (spT dY))(c3:Cal P w K mg base 2 "sale_holds" ["promises","ahead","sale"] vU):
  FnOk P w K mg base CX0 5 f fd ["promises","sales"] vV:=by
 refine F.ok sc26s (fun vs H Q E h=>?_) (fun ar A outer s H vs Q E hr h=>?_)
 .obtain⟨S,v,d,S',u,e,rfl,_⟩:=h;rfl
 .obtain⟨S,v,d,S',u,e,rfl,AB,ths,hp,hs,zp,zs,q⟩:=h
  refine⟨_,aB (cj (cu (di (aJ c1 hr (az (pv 0) ao)))) o9 aZ)
   (aB (cj (cu (di (aJ c2 hr (az (pv 1) ao)))) o9 aZ)
   (aB (cD zB5 rfl (ZT.pi_enum true rfl Te (az (pv 1) ao)) (bG rfl (aq (pgn 2 sc26s.nd) (aq (pgn 3 sc26s.nd) aW)))
    (aF (cj (cu (di (aJ c3 hr (az (pv 0) (az (lK Cr (pv 1) q8 (q9 (pv 2))) (az (pv 3) ao)))))) (aF (aO (pv 2))) aZ)))
   (aF (aO pO)))),?_⟩
  refine aH ?_;refine⟨_,rfl,S,v,d,rfl,AB,zp,fun H1 s1=>⟨_,rfl,?_⟩⟩;rw[hp];refine bw (dh ?_);dsimp only;refine aH ?_;refine⟨_,rfl,S',u,e,rfl,ths.same s1,zs,fun H2 s2=>⟨_,rfl,?_⟩⟩;rw[hs];refine bw (dh ?_);dsimp only;have AD:=s1.trans s2;obtain⟨ep,lp,okp⟩:=uT hp;obtain⟨es,ls,cw⟩:=uU hs;have dA:=AB.same AD;have C3:=ths.same AD;rw[ep]at dA;rw[es]at C3;generalize rowsOf d=ps at q lp okp dA;generalize rowsOf e=ss at q ls cw C3;obtain⟨ap,xp,rfl,rp⟩:=lu dA;obtain⟨af,xs,rfl,rs⟩:=lu C3;refine aH ?_;refine⟨_,rfl,af,xs,rfl,SqT.of rs.e,?_⟩;refine ZT.for_enum true (xs:=xs) (fun i σ Hc=>∃x2 x3,σ=[some (.ref ap),some (.ref af),x2,x3]/\Same H2 Hc/\∀j,j<i->du ps (ss.take j) (ss.getD j [])=true) ?_ ?_ ?_ ?_
  .exact⟨none,none,rfl,Same.refl _,fun j hj=>absurd hj (Nat.not_lt_zero _)⟩
  .rintro i σ Hc hi ⟨x2,x3,rfl,sm,hh⟩;exact SqT.of (sm _ _ rs.e)
  .rintro i x σ Hc T0 hx ⟨x2,x3,rfl,sm,hh⟩ nT
   have hi:i<ss.length:=by
    have:=(zAa.mp hx).1;rw[rs.l]at this;exact this
   have L8:i<xs.length:=by rw[rs.l];exact hi
   obtain⟨tr,fk,c6⟩:=rs.g i ss[i] (zA0 hi)
   have:x=.ref tr:=by
    rw[hx]at fk;exact zAl fk
   subst this;have h5:=cw ss[i] (zAh hi);have sT:=sm.updR (o:=.tup [V.int i,V.ref tr]) nT;refine⟨T0,_,rfl,SqT.of aj,rfl,_,_,rfl,_,_,rfl,rfl,?_⟩;refine⟨_,rfl,_,rfl,_,rfl,i,rfl,af,xs,rfl,SqT.of (sT _ _ rs.e),fun hw=>?_,fun _ p IH=>?_⟩
   .have:=hw.2;rw[HT.sIx_nat]at this;exact absurd this Zz
   rw[mU (Nat.le_of_lt L8)];have sp:=sT.updR (o:=.tup (xs.take i)) IH;refine⟨_,rfl,ap,xp,ps,p,xs.take i,ss.take i,tr,ss[i],rfl,rp.same sp,okp,(rs.same sT).cut i IH,?_,?_,sp _ _ c6,h5,fun H' s'=>⟨_,rfl,?_⟩⟩
   .rw[zAd];lia
   .intro s bp;obtain⟨j,hj,e'⟩:=List.getElem_of_mem bp;rw[zAd]at hj;have L9:j<i:=Zz
    have II:j<ss.length:=Zz
    have e2:ss[j]=s:=by rw[<-e',List.getElem_take]
    rw[<-e2];have:=hh j L9;rw[getD_get II]at this;exact jr (cw _ (zAh II)) this
   .cases eh:du ps (ss.take i) ss[i]with
    |false=>
     refine bI ⟨_,rfl,?_⟩;have:=q H' (AD.trans (sp.trans s'));rw[qR hh hi (by rw[getD_get hi];exact eh)]at this;exact this
    |true=>
     refine bw ⟨_,_,rfl,sp.trans s',fun j hj=>?_⟩;rcases Nat.lt_succ_iff_lt_or_eq.mp hj with z|z
     .exact hh j z
     .rw[z,getD_get hi];exact eh
  .rintro σ Hc ⟨x2,x3,rfl,sm,hh⟩;have:=q Hc (AD.trans sm);rw[vW fun j hj=>hh j (by rw[rs.l];exact hj)]at this;exact this
theorem sc27s:FnScope ["thing","clips","promises","sales"] ["thing"] (aK (top 32)):=fQS
theorem CZ(F:Fun K "is_book" "is_book" (top 32) f fd)(c0:Cal P w K mg base 1 "is_tuple_of" ["thing","fewest","most"] (jF bx))(c1:Cal P w K mg base 4 "are_clips" ["thing"] (spT gW))(c2:Cal P w K mg base 4 "are_promises" ["thing"] (spT dX))(c3:Cal P w K mg base 3 "are_sales" ["thing"] (spT dY))(c4:Cal P w K mg base 5 "first_unheld" ["promises","sales"] vV):
  FnOk P w K mg base CX0 6 f fd ["thing"] (spT jX):=by
 refine F.ok sc27s (fun vs H Q E h=>?_) (fun ar A outer s H vs Q E hr h=>?_)
 .obtain⟨S,v,d,rfl,_⟩:=h;rfl
 .obtain⟨S,v,d,rfl,th,hz,q⟩:=h
  refine⟨_,aB (cj (cu (di (aJ c0 hr (az (pv 0) (az aC (az aC ao)))))) (aF (aO iI)) aZ)
   (aB (cH (pv 0) (bG rfl (aq (pgn 1 sc27s.nd) (aq (pgn 2 sc27s.nd) (aq (pgn 3 sc27s.nd) aW)))))
   (aF (aO (cG (aJ c1 hr (az (pv 1) ao)) (cG (aJ c2 hr (az (pv 2) ao)) (cG (aJ c3 hr (az (pv 3) ao)) (dH (dM yI (aJ c4 hr (az (pv 2) (az (pv 3) ao))) pO (bf _))))))))),?_⟩
  have fin:=q;unfold jX at fin;refine aH ?_;refine⟨_,rfl,S,v,d,3,3,rfl,th,hz,fun H1 s1=>⟨_,rfl,?_⟩⟩
  cases e:bx d 3 3 with
  |false=>
   rw[e]at fin;exact bI (fin _ s1)
  |true=>
   rw[e]at fin;refine bw (dh ?_);dsimp only;obtain⟨ds,rfl,l1,l2⟩:=jJ e;have dA:=th.same s1
   cases dA with
   |@tup a xs _ ea r=>
    obtain⟨v0,v1,v2,d0,d1,d2,rfl,rfl,h0,h1,h2⟩:=yc r (show ds.length=3 by lia);have z0:=jm (d:=d0) Zy hz;have z1:=jm (d:=d1) Zy hz;have z2:=jm (d:=d2) Zy hz;refine aH ?_;refine⟨_,rfl,a,_,rfl,SqT.of ea,rfl,_,_,rfl,_,_,rfl,_,_,rfl,rfl,?_⟩;dsimp only;have fin:∀H',Same H H'->Q (.bl (true&&(gW d0&&(dX d1&&(dY d2&&(un (rowsOf d1) (rowsOf d2)).isNone))))) H':=fin;refine⟨_,rfl,S,_,d0,rfl,h0,z0,fun H2 s2=>⟨_,rfl,?_⟩⟩
    cases e0:gW d0 with
    |false=>
     rw[e0]at fin;exact bw (fin _ (s1.trans s2))
    |true=>
     rw[e0]at fin;refine bI ?_;refine⟨_,rfl,S,_,d1,rfl,h1.same s2,z1,fun H3 s3=>⟨_,rfl,?_⟩⟩
     cases e1:dX d1 with
     |false=>
      rw[e1]at fin;exact bw (fin _ ((s1.trans s2).trans s3))
     |true=>
      rw[e1]at fin;refine bI ?_;refine⟨_,rfl,S,_,d2,rfl,h2.same (s2.trans s3),z2,fun H4 s4=>⟨_,rfl,?_⟩⟩
      cases e2:dY d2 with
      |false=>
       rw[e2]at fin;exact bw (fin _ (((s1.trans s2).trans s3).trans s4))
      |true=>
       rw[e2]at fin;refine bI ?_;have C4:=(s2.trans s3).trans s4;refine⟨_,rfl,_,rfl,S,_,d1,S,_,d2,rfl,h1.same C4,h2.same C4,e1,e2,z1,z2,fun H5 s5=>⟨rfl,?_⟩⟩;have:=fin H5 (s1.trans (C4.trans s5))
       cases eu:un (rowsOf d1) (rowsOf d2)with
       |none=>
        rw[eu]at this;exact this
       |some i=>
        rw[eu]at this;exact this
def Els(H:Hp)(xs:List V)(rs:List (List Int)):Prop:=xs.length=rs.length/\∀(i:Nat) (r:List Int),rs[i]?=some r->∃t,xs[i]?=some (V.ref t)/\H t=some (.tup (r.map V.int))
theorem Els.keep{H H':Hp}{xs:List V}{rs:List (List Int)}(h:Els H xs rs)(k:∀b l,H b=some (.tup l)->H' b=some (.tup l)):Els H' xs rs:=
 ⟨h.1,fun i r e=>by
  obtain⟨t,e1,e2⟩:=h.2 i r e
  exact⟨t,e1,k _ _ e2⟩⟩
theorem Els.same{H H':Hp}{xs:List V}{rs:List (List Int)}(h:Els H xs rs)(s:Same H H'):Els H' xs rs:=h.keep fun _ _ e=>s _ _ e
theorem Els.nil{H:Hp}:Els H [] []:=⟨rfl,fun i r e=>by simp at e⟩
theorem Els.app{H:Hp}{xs ys:List V}{rs qs:List (List Int)}(h:Els H xs rs)(g:Els H ys qs):Els H (xs++ys) (rs++qs):=by
 refine⟨by rw[zA2,zA2,h.1,g.1],fun i r e=>?_⟩;by_cases hi:i<rs.length
 .rw[zBc hi]at e;obtain⟨t,e1,e2⟩:=h.2 i r e;exact⟨t,by rw[zBc (by rw[h.1];exact hi)];exact e1,e2⟩
 .rw[zBb Zz]at e;obtain⟨t,e1,e2⟩:=g.2 _ r e;exact⟨t,by rw[zBb (by rw[h.1];lia),h.1];exact e1,e2⟩
theorem Els.one{H:Hp}{t:Addr}{r:List Int}(e:H t=some (.tup (r.map V.int))):Els H [.ref t] [r]:=⟨rfl,fun i q e'=>by
 cases i with
 |zero=>
  rw[List.getElem?_cons_zero]at e';cases e';exact⟨t,rfl,e⟩
 |succ i=>simp at e'⟩
theorem cM{r:List Int}(h:r.length=4):r=[fl r 0,fl r 1,fl r 2,fl r 3]:=by
 match r,h with
 |[a,b,c,d],_=>rfl
theorem zT{t:TS}{D:Ends}{N:L2.St->Hp->Prop}{σ:L2.St}{H:Hp}(h:∀D':Ends,(∀σ H,N σ H->D'.nx σ H)->t D' σ H):t {D with nx:=N,ct:=N,bk:=D.nx} σ H:=h _ fun _ _ z=>z
theorem fG{J:It}{g:TG}{te:TE}{dv:St}{H0:Hp}{Fin:List V->Hp->Prop}(n:Nat)(Pv:Nat->List V->St->Hp->Prop)(h0:Pv 0 [] dv H0)(hz:n<sizeLine)
  (step:∀i ys σ H,i<n->ys.length=i->Pv i ys σ H->J.go i H/\∀x H',J.yld i H x H'->∀R:V->St->Hp->Prop,(∀y aE H4,Pv (i+1) (ys++[y]) aE H4->R y aE H4)->g x σ H' fun aE H2=>te aE H2 fun y H4=>R y aE H4)
  (fin:∀ys σ H,ys.length=n->Pv n ys σ H->J.stop n H/\Fin ys H):jV J g uD te Fin dv H0:=by
 refine⟨fun i m ys σ H=>m=n-i/\i<=n/\ys.length=i/\Pv i ys σ H,⟨_,rfl,zAp _,rfl,h0⟩,?_⟩;rintro i m ys σ H ⟨rfl,hi,hy,p⟩;refine⟨Zz,?_⟩;by_cases aw:i<n
 .obtain⟨go,st⟩:=step i ys σ H aw hy p;exact .inr ⟨go,fun x H' y=>st x H' y _ fun y aE H4 p2=>⟨n-(i+1),Zz,rfl,aw,by rw[zA2,hy];rfl,p2⟩⟩
 .have e:i=n:=Zz
  subst e;exact .inl (fin ys σ H hy p)
def wts(rs:List (List Int)):List Int:=rs.map fun r=>fl r 3
def aP(rs:List (List Int)):Int:=(wts rs).sum
inductive SpSacksI(vs:List V)(H:Hp)(Q:VK):Prop
 |mk:∀l xs rs,(vs=[.ref l])->(H l=some (.lst xs))->(Els H xs rs)->((∀r∈rs,r.length=4))->(rs.length<=100000)->(∀H',Same H H'->Q (.int (aP rs)) H')->SpSacksI  vs H Q
def vX:Sp:=fun vs H Q _=>SpSacksI  vs H Q
theorem boot_sum:bootBuiltins "sum"=some (.builtin "sum"):=by decide +kernel
theorem nd4:(["due","number","holder","sacks"]:List Str).Nodup:=by decide +kernel
theorem JM:FnScope ["rows"] ["rows"] (aK (top 44)):=fQS
theorem zU(F:Fun K "sacks_of" "sacks_of" (top 44) f fd)(Ts:mg "sum"=none):FnOk P w K mg base CX0 1 f fd ["rows"] vX:=by
 refine F.ok JM (fun vs H Q E h=>?_) (fun ar A outer s H vs Q E hr h=>?_)
 .obtain⟨l,xs,rs,rfl,_⟩:=h;rfl
 .obtain⟨l,xs,rs,rfl,el,dE,h4,hz,q⟩:=h
  refine⟨_,aF (aO (aN (cZ rfl) rfl Ts boot_sum (az (cC (g:=jY K 4 (cB (bD 0) (cB (bD 1) (cB (bD 2) (cB (bD 3) lC))))) ["due","number","holder","sacks"] [none,none,none,none] rfl (eO (pv 0))
   (fun C fp Zt s₂ H₂=>⟨dO rfl rfl (aq (pgn 0 nd4) (aq (pgn 1 nd4) (aq (pgn 2 nd4) (aq (pgn 3 nd4) aW)))),c7,pv 3⟩) (fun C=>trivial) ⟨rfl,rfl,rfl,rfl⟩) ao))),?_⟩
  refine⟨_,rfl,l,rfl,⟨_,SqL.of el⟩,fG rs.length (fun i ys σ Hc=>Same H Hc/\(∃o1 o2 o3 o4,σ=[o1,o2,o3,o4])/\ys=(wts (rs.take i)).map V.int) ⟨Same.refl H,⟨_,_,_,_,rfl⟩,rfl⟩ Zu ?_ ?_⟩
  .rintro i ys σ Hc hi hy ⟨s1,⟨o1,o2,o3,o4,rfl⟩,rfl⟩;obtain⟨t,ex,et⟩:=dE.2 i rs[i] (zA0 hi);rw[cM (h4 _ (zAh hi))]at et;refine⟨⟨_,_,SqL.of (s1 _ _ el),ex⟩,fun v H' y R hR=>?_⟩;obtain⟨rfl,y⟩:=y;have hv:=y _ (SqL.of (s1 _ _ el));rw[ex]at hv;cases hv;refine⟨t,_,rfl,SqT.of (s1 _ _ et),rfl,_,_,rfl,_,_,rfl,_,_,rfl,_,_,rfl,rfl,_,rfl,hR _ _ _ ⟨s1,⟨_,_,_,_,rfl⟩,?_⟩⟩;unfold wts;rw[zAj,zA0 hi,zA4,zA4];rfl
  .rintro ys σ Hc hy ⟨s1,_,rfl⟩;refine⟨⟨_,SqL.of (s1 _ _ el),by rw[dE.1];exact zA3 _⟩,fun D hD=>?_⟩;rw[zAm];exact⟨D,wts rs,rfl,.inl (SqL.of aj),q _ (s1.updR hD)⟩
end K23
open K23 (top d7 items intOf bx nd1 zH qL qM jm fD spT jF Mg boot_tuple boot_all dq Cal aJ kJ boot_sum fG sc1 iC mU)
namespace K23P
open PySem L2
structure Nums(mg:Str->Option Value):Prop where
 many:∃t,mg "MOST_WEIGHTS"=some (.int 80 t)
 most:∃t,mg "MOST_WEIGHT"=some (.int 99 t)
def ie(d:PyData):Bool:=bx d 1 80&&(items d).all fun x=>kJ x 1 99
theorem boot_sorted:bootBuiltins "sorted"=some (.builtin "sorted"):=by decide +kernel
theorem nd2(x y:Str)(h:x≠y):([x,y]:List Str).Nodup:=by simp[h]
section
variable{P:Program}{w:World}{K:Frag}{mg:Str->Option Value}{base:Heap}{f:Addr}{fd:FuncData}
theorem sc19:FnScope ["thing"] ["thing"] (aK (top 38)):=fQS
theorem ok_are_weights(F:Fun K "are_weights" "are_weights" (top 38) f fd)(T:Mg mg)(N:Nums mg)(c1:Cal P w K mg base 2 "is_whole_from" ["thing","least","most"] (jF kJ))(c2:Cal P w K mg base 1 "is_tuple_of" ["thing","fewest","most"] (jF bx)):
  FnOk P w K mg base CX0 4 f fd ["thing"] (spT ie):=by
 refine F.ok sc19 (fun vs H Q E h=>?_) (fun ar A outer s H vs Q E hr h=>?_)
 .obtain⟨S,v,d,rfl,_⟩:=h;rfl
 .obtain⟨S,v,d,rfl,th,hz,q⟩:=h;obtain⟨t3,e3⟩:=N.many;obtain⟨t4,e4⟩:=N.most
  refine⟨_,aF (aO (cG (aJ c2 hr (aQ (pv 0) (aQ aC (aQ (bY (v:=.int 80) rfl e3 ⟨_,rfl⟩) ao))))
   (dH (aN (fB rfl) rfl T.all boot_all (aQ (cC ["part"] [none] rfl (gw (pv 0))
    (fun C fp Zt s₂ H₂=>⟨bH (i:=0) (nd1 _) rfl (Or.inl rfl),c7,aJ c1 hr (aQ (pv 0) (aQ aC (aQ (bY (v:=.int 99) rfl e4 ⟨_,rfl⟩) ao)))⟩) (fun C=>trivial) ⟨rfl,rfl,rfl,rfl⟩) ao))))),?_⟩
  refine⟨_,rfl,S,v,d,1,80,rfl,th,hz,fun H1 s1=>⟨_,rfl,?_⟩⟩;have dA:=th.same s1;have fin:=fun H' (s:Same H H')=>q H' s;unfold ie at fin
  cases e:bx d 1 80 with
  |false=>
   rw[e]at fin;exact bw (fin _ s1)
  |true=>
   rw[e]at fin;refine bI ?_
   cases dA with
   |@tup a xs ds ea r=>exact dq (fun x=>kJ x 1 99) rfl ea r (fD r hz) (fun v d H2 Q2 hm s2 t2 q2=>⟨_,rfl,S,v,d,1,99,rfl,t2,jm hm hz,q2⟩) fun H2 s2=>fin _ (s1.trans s2)
   |_=>cases e
end
section
variable{X:Cx}{K:Frag}{tg l:Expr}{tl:TE}
theorem ix_tupK(hK:X.K=K):IxR X (Hs K):=by
 subst hK;exact bC
end
section
variable{P:Program}{w:World}{K:Frag}{mg:Str->Option Value}{base:Heap}{f:Addr}{fd:FuncData}
end
theorem ok_b{X:Cx}{body:List Stmt}{t:TS}{R:TS->Prop}(h:BSs X body t)(q:R t):∃t,PSs X body t/\R t:=⟨t,h.run,q⟩
def rr(rs:List Int)(i:Nat):Int:=rs.getD i 0
def bef(rs:List Int)(i j:Nat):Bool:=decide (rr rs j<rr rs i)||(decide (rr rs i=rr rs j)&&decide (i<=j))
theorem bef_iff{rs:List Int}{i j:Nat}:bef rs i j=true↔rr rs j<rr rs i\/(rr rs i=rr rs j/\i<=j):=by
 unfold bef;rw[Bool.or_eq_true,zAc,decide_eq_true_iff,decide_eq_true_iff,decide_eq_true_iff]
structure Ord(rs:List Int)(pl:List Nat):Prop where
 pm:pl.Perm (List.range rs.length)
 so:pl.Pairwise fun i j=>bef rs i j=true
theorem dD(rs:List Int):∃pl,Ord rs pl:=by
 refine⟨(List.range rs.length).mergeSort (bef rs),List.mergeSort_perm _ _,List.pairwise_mergeSort (fun a b c h1 h2=>?_) (fun a b=>?_) _⟩
 .rw[bef_iff]at h1 h2⊢;lia
 .rw[Bool.or_eq_true,bef_iff,bef_iff];lia
theorem Ge{rs:List Int}{p q:List Nat}(h:Ord rs p)(h':Ord rs q):p=q:=by
 refine List.Perm.eq_of_pairwise (fun a b _ _ h1 h2=>?_) h.so h'.so (h.pm.trans h'.pm.symm);rw[bef_iff]at h1 h2;lia
def d9(fs:List Int)(pl:List Nat):List Int:=pl.foldl (fun l i=>l.set i (l.getD i 0+1)) fs
theorem uV(fs:List Int)(pl:List Nat)(i:Nat):d9 fs (pl++[i])=(d9 fs pl).set i ((d9 fs pl).getD i 0+1):=by
 unfold d9;rw[List.foldl_append];rfl
theorem jM:∀(pl:List Nat) (fs:List Int),(d9 fs pl).length=fs.length
 |[],_=>rfl
 |i::pl,fs=>by
  show(d9 (fs.set i _) pl).length=_;rw[jM pl,List.length_set]
def fs(n:Int)(ws:List Int):List Int:=ws.map fun w=>n*w / ws.sum
def rs(n:Int)(ws:List Int):List Int:=ws.map fun w=>n*w % ws.sum
def lf(n:Int)(ws:List Int):Int:=n-(fs n ws).sum
def OkW(ws:List Int):Prop:=1<=ws.length/\ws.length<=80/\∀w∈ws,1<=w/\w<=99
theorem sum_le{B:Int}:∀{l:List Int},(∀a∈l,a<=B)->l.sum<=B*l.length
 |[],_=>by simp
 |a::l,h=>by
  have h1:=sum_le (B:=B) (l:=l) fun b hb=>h b (.tail _ hb);have h2:=h a (.head _);rw[List.sum_cons,List.length_cons,show B*((l.length+1:Nat):Int)=B*l.length+B by rw[Int.natCast_add,Int.mul_add];simp];lia
theorem ig:∀{l:List Int},(∀a∈l,0<=a)->0<=l.sum
 |[],_=>by simp
 |a::l,h=>by
  have h1:=ig (l:=l) fun b hb=>h b (.tail _ hb);have h2:=h a (.head _);rw[List.sum_cons];lia
theorem OkW.pos{ws:List Int}(h:OkW ws):1<=ws.sum:=by
 obtain⟨h1,_,h3⟩:=h
 match ws,h1,h3 with
 |w::ws,_,h3=>
  have:=ig (l:=ws) fun a ha=>by have:=h3 a (.tail _ ha);lia
  have:=h3 w (.head _);rw[List.sum_cons];lia
theorem OkW.top{ws:List Int}(h:OkW ws):ws.sum<=7920:=by
 have h1:=sum_le (B:=99) fun a ha=>(h.2.2 a ha).2;have:=h.2.1;lia
theorem divs(n T:Int):∀ws:List Int,T*(ws.map fun w=>n*w / T).sum+(ws.map fun w=>n*w % T).sum=n*ws.sum
 |[]=>by simp
 |w::ws=>by
  have h1:=divs n T ws;have h2:=Int.mul_ediv_add_emod (n*w) T;simp only[List.map_cons,List.sum_cons,Int.mul_add];lia
theorem Dc(n:Int)(ws:List Int):ws.sum*lf n ws=(rs n ws).sum:=by
 have h:=divs n ws.sum ws;unfold lf fs rs;rw[Int.mul_sub,Int.mul_comm ws.sum n];lia
theorem Iu{n:Int}{ws:List Int}(h:OkW ws):∀r∈rs n ws,0<=r:=fun r hr=>by
 obtain⟨w,_,rfl⟩:=zA5.mp hr;have:=h.pos;exact Int.emod_nonneg _ Zz
theorem Ep{n:Int}{ws:List Int}(h:OkW ws):∀r∈rs n ws,r<=ws.sum:=fun r hr=>by
 obtain⟨w,_,rfl⟩:=zA5.mp hr;have:=h.pos;exact Int.le_of_lt (Int.emod_lt_of_pos _ Zz)
theorem mV(n:Int)(ws:List Int):(fs n ws).length=ws.length:=zA1 _
theorem jN(n:Int)(ws:List Int):(rs n ws).length=ws.length:=zA1 _
theorem vY{n:Int}{ws:List Int}(h:OkW ws):0<=lf n ws:=by
 have h1:=Dc n ws;have h2:=ig (Iu (n:=n) h);have h3:=h.pos;refine Int.le_of_not_gt fun c=>?_;have:=Int.mul_le_mul_of_nonneg_left (c:=ws.sum) (show lf n ws<=-1 by lia) Zz;lia
theorem Er{n:Int}{ws:List Int}(h:OkW ws):lf n ws<=ws.length:=by
 have h1:=Dc n ws;have h2:=sum_le (Ep (n:=n) h);rw[jN]at h2;have h3:=h.pos;refine Int.le_of_not_gt fun c=>?_;have:=Int.mul_le_mul_of_nonneg_left (c:=ws.sum) (show(ws.length:Int)+1<=lf n ws by lia) Zz;rw[Int.mul_add]at this;lia
theorem Gf{ws:List Int}(h:OkW ws):lf ws.sum ws=0:=by
 have h1:=Dc ws.sum ws
 have h2:(rs ws.sum ws).sum<=0:=by
  have:=sum_le (B:=0) (l:=rs ws.sum ws) fun r hr=>by
   obtain⟨w,_,rfl⟩:=zA5.mp hr;rw[Int.mul_emod_right];exact Int.le_refl _
  lia
 have h3:=h.pos;have h4:=vY (n:=ws.sum) h;refine Int.le_antisymm (Int.le_of_not_gt fun c=>?_) h4;have:=Int.mul_le_mul_of_nonneg_left (c:=ws.sum) (show 1<=lf ws.sum ws by lia) Zz;lia
theorem jO:∀(pl:List Nat) (l:List Int) (i:Nat),i<l.length->(d9 l pl).getD i 0=l.getD i 0+pl.count i
 |[],l,i,_=>by simp[d9]
 |j::pl,l,i,h=>by
  show(d9 (l.set j (l.getD j 0+1)) pl).getD i 0=_;rw[jO pl _ i (by rw[List.length_set];exact h),List.count_cons];by_cases e:j=i
  .subst e;rw[zA7,List.getElem?_set_self h,Option.getD_some,beq_self_eq_true,zAx rfl];lia
  .rw[List.getD_eq_getElem?_getD,List.getElem?_set_ne e,<-List.getD_eq_getElem?_getD,if_neg (by simp[e])];lia
theorem Ord.nd{r:List Int}{pl:List Nat}(h:Ord r pl):pl.Nodup:=h.pm.nodup_iff.mpr List.nodup_range
theorem Ord.len{r:List Int}{pl:List Nat}(h:Ord r pl):pl.length=r.length:=by rw[h.pm.length_eq,List.length_range]
theorem Ord.lt{r:List Int}{pl:List Nat}(h:Ord r pl):∀i∈pl,i<r.length:=fun i hi=>List.mem_range.mp (h.pm.mem_iff.mp hi)
def res(n:Int)(ws:List Int):List Int:=d9 (fs n ws) ((dD (rs n ws)).choose.take (lf n ws).toNat)
theorem Gg{n:Int}{ws:List Int}{pl:List Nat}(h:Ord (rs n ws) pl):d9 (fs n ws) (pl.take (lf n ws).toNat)=res n ws:=by
 unfold res;rw[Ge h (dD (rs n ws)).choose_spec]
theorem res_len(n:Int)(ws:List Int):(res n ws).length=ws.length:=by
 unfold res;rw[jM,mV]
theorem res_get{n:Int}{ws:List Int}(h:OkW ws)(n0:0<=n)(n1:n<=ws.sum){i:Nat}{r w:Int}(hr:(res n ws)[i]?=some r)(hw:ws[i]?=some w):0<=r/\r<=w:=by
 have hi:i<ws.length:=(zAa.mp hw).1;have hp:=h.pos;have ww:=h.2.2 w (zB6 hw)
 have e:r=n*w / ws.sum+((dD (rs n ws)).choose.take (lf n ws).toNat).count i:=by
  have:=jO ((dD (rs n ws)).choose.take (lf n ws).toNat) (fs n ws) i (by rw[mV];exact hi)
  have e2:(fs n ws).getD i 0=n*w / ws.sum:=by
   unfold fs;rw[zA7,zAb,hw];rfl
  rw[e2]at this;rw[<-this,show d9 (fs n ws) _=res n ws from rfl,zA7,hr];rfl
 have c1:((dD (rs n ws)).choose.take (lf n ws).toNat).count i<=1:=List.nodup_iff_count.mp ((dD (rs n ws)).choose_spec.nd.sublist (List.take_sublist _ _)) i;have q0:0<=n*w / ws.sum:=Int.ediv_nonneg (Int.mul_nonneg n0 Zz) Zz;refine⟨Zz,?_⟩;by_cases en:n=ws.sum
 .have:((dD (rs n ws)).choose.take (lf n ws).toNat)=[]:=by
   rw[en,Gf h];rfl
  rw[this]at e;rw[en,Int.mul_ediv_cancel_left _ Zz]at e;simp at e;lia
 .have:n*w / ws.sum<w:=by
   refine Int.ediv_lt_of_lt_mul Zz ?_;rw[Int.mul_comm w];exact Int.mul_lt_mul_of_pos_right Zz Zz
  lia
theorem oZ{K:Frag}{te:TE}{p:Addr}{ws:List Int}{dv:St}{H0:Hp}{Fin:List V->Hp->Prop}(f:Int->Int)(ep:H0 p=some (.tup (ws.map V.int)))(hl:ws.length<sizeLine)
  (u7:∀(z:Int) (Q:VK),z∈ws->Q (.int (f z)) H0->te (dv.set 0 (some (.int z))) H0 Q) (fin:Fin ((ws.map f).map V.int) H0):jV (Itt K p) (bD 0) uD te Fin dv H0:=by
 refine fG ws.length (fun i ys σ H=>H=H0/\(∀o,σ.set 0 o=dv.set 0 o)/\ys=((ws.take i).map f).map V.int) ⟨rfl,fun _=>rfl,rfl⟩ hl ?_ ?_
 .rintro i ys σ H hi hy ⟨rfl,iF,rfl⟩;have hz:(ws.map V.int)[i]?=some (.int ws[i]):=by rw[zAb,zA0 hi];rfl
  refine⟨⟨_,_,SqT.of ep,hz⟩,fun v H' y' R hR=>?_⟩;obtain⟨rfl,y'⟩:=y';have hv:=y' _ (SqT.of ep);rw[hz]at hv;cases hv;show te (σ.set 0 (some (.int ws[i]))) _ _;rw[iF];refine u7 ws[i] _ (zAh hi) (hR _ _ _ ⟨rfl,fun o=>by rw[List.set_set],?_⟩);rw[zAj,zA0 hi,zA4,zA4];rfl
 .rintro ys σ H hy ⟨rfl,iF,rfl⟩;refine⟨⟨_,SqT.of ep,by rw[zA1];exact zA3 _⟩,?_⟩;rw[zAm];exact fin
def wD(ws:List Int):PyData:=.tuple (ws.map PyData.int)
theorem tK:∀(r:List Int),szs (r.map PyData.int)=r.length
 |[]=>rfl
 |_::r=>by
  show 1+szs (r.map PyData.int)=r.length+1;rw[tK r,Nat.add_comm]
theorem JN(ws:List Int):sz (wD ws)=1+ws.length:=by
 show 1+szs (ws.map PyData.int)=_;rw[tK]
theorem JP{ws:List Int}(h:OkW ws):ie (wD ws)=true:=by
 unfold ie;rw[zAc];refine⟨?_,List.all_eq_true.mpr fun d hd=>?_⟩
 .show(true&&(decide (1<=((ws.map PyData.int).length:Int))&&decide (((ws.map PyData.int).length:Int)<=80)))=true;have h1:=h.1;have h2:=h.2.1;rw[zA1,zAt Zz,zAt Zz];rfl
 .obtain⟨w,hw,rfl⟩:=zA5.mp hd;have:=h.2.2 w hw;show(true&&(decide (1<=w)&&decide (w<=99)))=true;rw[zAt this.1,zAt this.2];rfl
inductive SpRefuseI(vs:List V)(H:Hp)(Q:VK):Prop
 |mk:∀n p ws,(vs=[.int n,.ref p])->(H p=some (.tup (ws.map V.int)))->(OkW ws)->(0<=n)->(n<=ws.sum)->(∀H',Same H H'->Q .non H')->SpRefuseI  vs H Q
def tL:Sp:=fun vs H Q _=>SpRefuseI  vs H Q
inductive SpPlacesI(vs:List V)(H:Hp)(Q:VK):Prop
 |mk:∀p rests,(vs=[.ref p])->(H p=some (.lst ((rests:List Int).map V.int)))->(rests.length<sizeLine)->(∀H' q pl,Ord rests pl->Same H H'->H q=none->H' q=some (.lst (pl.map fun j:Nat=>V.int (j:Int)))->Q (.ref q) H')->SpPlacesI  vs H Q
def tM:Sp:=fun vs H Q _=>SpPlacesI  vs H Q
inductive SpPartsI(vs:List V)(H:Hp)(Q:VK):Prop
 |mk:∀n p ws,(vs=[.int n,.ref p])->(H p=some (.tup (ws.map V.int)))->(OkW ws)->(0<=n)->(n<=ws.sum)->(∀H' q,Same H H'->H' q=some (.tup ((res n ws).map V.int))->Q (.ref q) H')->SpPartsI  vs H Q
def spParts:Sp:=fun vs H Q _=>SpPartsI  vs H Q
def gH(H:Hp)(a:Addr):Nat:=match H a with
 |some (.tup [_,.int y])=>y.toNat
 |_=>0
def rowAt(H:Hp)(a:Addr):List Int:=match H a with
 |some (.tup [.int x,.int y])=>[x,y]
 |_=>[]
theorem vZ{rests:List Int}{i:Nat}{x:Int}(h:rests[i]?=some x):rr rests i=x:=by
 unfold rr;rw[zA7,h];rfl
theorem Dd{rests:List Int}{i j:Nat}(h:HT.lexLt [-(rr rests j),(j:Int)] [-(rr rests i),(i:Int)]=false):bef rests i j=true:=by
 rw[bef_iff];rw[HT.lexLt_cons]at h;by_cases e:-(rr rests j)=-(rr rests i)
 .rw[zAx e,HT.lexLt_cons]at h;by_cases e2:(j:Int)=(i:Int)
  .exact .inr ⟨Zz,Zz⟩
  .rw[zAw e2]at h;have:=of_decide_eq_false h;exact .inr ⟨Zz,Zz⟩
 .rw[zAw e]at h;have:=of_decide_eq_false h;exact .inl Zz
section
variable{P:Program}{w:World}{K:Frag}{mg:Str->Option Value}{base:Heap}{f:Addr}{fd:FuncData}
theorem JQ:FnScope ["sacks","weights"] ["sacks","weights"] (aK (top 39)):=fQS
theorem ok_refuse(F:Fun K "refuse_unpartable" "refuse_unpartable" (top 39) f fd)(Ts:mg "sum"=none)(c1:Cal P w K mg base 4 "are_weights" ["thing"] (spT ie))(c2:Cal P w K mg base 2 "is_whole_from" ["thing","least","most"] (jF kJ)):
  FnOk P w K mg base CX0 5 f fd ["sacks","weights"] tL:=by
 refine F.ok JQ (fun vs H Q E h=>?_) (fun ar A outer s H vs Q E hr h=>?_)
 .obtain⟨n,p,ws,rfl,_⟩:=h;rfl
 .obtain⟨n,p,ws,rfl,ep,ok,n0,n1,q⟩:=h
  refine⟨_,aB (cj (cu (di (aJ c1 hr (aQ (pv 1) ao)))) (aF fZ) aZ)
   (aF (cj (cu (di (aJ c2 hr (aQ (pv 0) (aQ aC (aQ (aN (cZ rfl) rfl Ts boot_sum (az (pv 1) ao)) ao)))))) (aF fZ) aZ)),?_⟩
  refine aH ?_;refine⟨_,rfl,fun _=>False,_,wD ws,rfl,.tup ep (IsThs.ints ws),by rw[JN];have:=ok.2.1;lia,fun H1 s1=>⟨_,rfl,?_⟩⟩;rw[JP ok];refine bw ?_;dsimp only;refine⟨_,rfl,_,rfl,p,ws,rfl,.inr (SqT.of (s1 _ _ ep)),fun _=>False,_,.int n,0,_,rfl,.int n,(by show 1<=4000;decide),fun H2 s2=>⟨_,rfl,?_⟩⟩
  have e:kJ (.int n) 0 ws.sum=true:=by
   show(true&&(decide (0<=n)&&decide (n<=ws.sum)))=true;rw[zAt n0,zAt n1];rfl
  rw[e];exact bw (q H2 (s1.trans s2))
theorem sc13:FnScope ["rests","ranked"] ["rests"] (aK (top 40)):=fQS
theorem ok_places(F:Fun K "places_by_rest" "places_by_rest" (top 40) f fd)(Te:mg "enumerate"=none)(Ts:mg "sorted"=none):FnOk P w K mg base CX0 1 f fd ["rests"] tM:=by
 refine F.ok sc13 (fun vs H Q E h=>?_) (fun ar A outer s H vs Q E hr h=>?_)
 .obtain⟨p,rests,rfl,_⟩:=h;rfl
 .obtain⟨p,rests,rfl,ep,hz,q⟩:=h
  refine⟨_,aB (pss 1 sc13.nd (aN qI rfl Ts boot_sorted (az (cC (g:=jY K 2 (cB (bD 0) (cB (bD 1) lC))) ["at","rest"] [none,none] rfl (ZT.pi_enum false rfl Te (az (pv 0) ao))
    (fun C fp Zt s₂ H₂=>⟨dO rfl rfl (aq (bH (i:=0) (nd2 _ _ Zx) rfl (Or.inl rfl) (Or.inr rfl)) (aq (bH (i:=1) (nd2 _ _ Zx) rfl (Or.inl rfl) (Or.inr rfl)) aW)),c7,
     cz (az (Hg Fo (pv 1)) (az (pv 0) ao))⟩) (fun C=>trivial) ⟨rfl,rfl,rfl,rfl⟩) ao)))
   (aF (aO (cC (g:=jY K 2 (cB (bD 0) (cB (bD 1) lC))) ["minus","at"] [none,none] rfl (eO (pv 1))
    (fun C fp Zt s₂ H₂=>⟨dO rfl rfl (aq (bH (i:=0) (nd2 _ _ Zx) rfl (Or.inl rfl) (Or.inr rfl)) (aq (bH (i:=1) (nd2 _ _ Zx) rfl (Or.inl rfl) (Or.inr rfl)) aW)),c7,
     pv 1⟩) (fun C=>trivial) ⟨rfl,rfl,rfl,rfl⟩))),?_⟩
  refine aH ?_;refine⟨_,rfl,p,_,rfl,SqL.of ep,fG rests.length (fun i ys σ Hc=>Same H Hc/\(∃o1 o2,σ=[o1,o2])/\∃ts:List Addr,ys=ts.map V.ref/\∀j,j<i->∃a,ts[j]?=some a/\Hc a=some (.tup [.int (-(rr rests j)),.int (j:Int)])) ⟨Same.refl H,⟨_,_,rfl⟩,[],rfl,fun j hj=>absurd hj (Nat.not_lt_zero _)⟩ hz ?_ ?_⟩
  .rintro i ys σ Hc hi hy ⟨s1,⟨o1,o2,rfl⟩,ts,rfl,AE⟩;rw[zA1]at hy;have iP:SqL K Hc p (rests.map V.int):=SqL.of (s1 _ _ ep)
   have hx:(rests.map V.int)[i]?=some (.int (rr rests i)):=by
    rw[zAb,zA0 hi,vZ (zA0 hi)];rfl
   refine⟨⟨_,_,iP,hx⟩,fun v H' y R hR=>?_⟩;obtain⟨T,nT,rfl,y⟩:=y;obtain⟨x',hG,rfl⟩:=y _ iP;rw[hx]at hG;cases hG;have s2:=s1.updR (o:=.tup [.int (i:Int),.int (rr rests i)]) nT;refine⟨T,_,rfl,SqT.of aj,rfl,_,_,rfl,_,_,rfl,rfl,_,rfl,rr rests i,rfl,_,rfl,zL,fun t ht=>?_⟩;refine hR _ _ _ ⟨s2.updR ht,⟨_,_,rfl⟩,ts++[t],by rw[zA4];rfl,fun j hj=>?_⟩;by_cases e:j<i
   .obtain⟨a,h1,h2⟩:=AE j e;refine⟨a,by rw[zBc Zz];exact h1,?_⟩;exact Same.upd ht _ _ (Same.upd nT _ _ h2)
   .have e:j=i:=Zz
    subst e;refine⟨t,by rw[zBb Zz,hy,Nat.sub_self];rfl,aj⟩
  .rintro ys σ Hc hy ⟨s1,_,ts,rfl,AE⟩;rw[zA1]at hy;refine⟨⟨_,SqL.of (s1 _ _ ep),by rw[zA1];exact zA3 _⟩,fun D hD=>?_⟩;have s2:=s1.updR (o:=.lst (ts.map V.ref)) hD
   have pV:∀j,j<rests.length->∃a,ts[j]?=some a/\upd Hc D (.lst (ts.map V.ref)) a=some (.tup [.int (-(rr rests j)),.int (j:Int)]):=fun j hj=>by
    obtain⟨a,h1,h2⟩:=AE j hj;exact⟨a,h1,Same.upd hD _ _ h2⟩
   have eD:=aj (H:=Hc) (a:=D) (o:=.lst (ts.map V.ref));generalize upd Hc D (.lst (ts.map V.ref))=H2 at s2 pV eD⊢;clear AE hD s1
   have mP:∀a∈ts,∃j,j<rests.length/\H2 a=some (.tup [.int (-(rr rests j)),.int (j:Int)]):=fun a ha=>by
    obtain⟨j,hj,e⟩:=List.getElem_of_mem ha;obtain⟨b,h1,h2⟩:=pV j Zz;rw[zA0 hj]at h1;injection h1 with h1;refine⟨j,Zz,?_⟩;rw[<-e,h1];exact h2
   refine⟨D,ts,rowAt H2,rfl,SqL.of eD,fun a ha=>?_,fun q' l' hq pm so=>?_⟩
   .obtain⟨j,hj,e⟩:=mP a ha;have er:rowAt H2 a=[-(rr rests j),(j:Int)]:=by unfold rowAt;rw[e]
    rw[er];exact⟨SqT.of e,by simp⟩
   have AF:∀a∈l',∃j,j<rests.length/\H2 a=some (.tup [.int (-(rr rests j)),.int (j:Int)]):=fun a ha=>mP a (pm.mem_iff.mp ha)
   have sn:∀a∈l',H2 a=some (.tup [.int (-(rr rests (gH H2 a))),.int (gH H2 a:Int)])/\rowAt H2 a=[-(rr rests (gH H2 a)),(gH H2 a:Int)]:=fun a ha=>by
    obtain⟨j,hj,e⟩:=AF a ha;have er:rowAt H2 a=[-(rr rests j),(j:Int)]:=by unfold rowAt;rw[e]
    have es:gH H2 a=j:=by unfold gH;rw[e];exact zAi j
    rw[er,es];exact⟨e,rfl⟩
   have ord:Ord rests (l'.map (gH H2)):=by
    refine⟨?_,?_⟩
    .refine(pm.map _).trans (List.Perm.of_eq (List.ext_getElem? fun j=>?_));by_cases hj:j<rests.length
     .obtain⟨a,h1,h2⟩:=pV j hj;rw[zAb,h1,List.getElem?_range hj];show some (gH H2 a)=some j;unfold gH;rw[h2];exact congrArg some (zAi j)
     .rw[List.getElem?_eq_none (by rw[zA1];lia),List.getElem?_eq_none (by rw[List.length_range];lia)]
    .refine List.pairwise_map.mpr (so.imp_of_mem fun{a b} ha hb h=>?_);rw[(sn a ha).2,(sn b hb).2]at h;exact Dd h
   have s3:=s2.updR (o:=.lst (l'.map V.ref)) hq;have Q0:l'.length=rests.length:=by rw[pm.length_eq,hy]
   have wa:=aj (H:=H2) (a:=q') (o:=.lst (l'.map V.ref));have C5:∀a∈l',upd H2 q' (.lst (l'.map V.ref)) a=some (.tup [.int (-(rr rests (gH H2 a))),.int (gH H2 a:Int)]):=fun a ha=>Same.upd hq _ _ (sn a ha).1;generalize gH H2=sd at ord C5;generalize upd H2 q' (.lst (l'.map V.ref))=H3 at s3 wa C5⊢;dsimp only;refine jE ?_;refine⟨_,rfl,q',rfl,⟨_,SqL.of wa⟩,fG rests.length (fun i ys σ Hc=>Same H3 Hc/\(∃o1 o2,σ=[o1,o2])/\ys=((l'.take i).map sd).map fun j:Nat=>V.int (j:Int)) ⟨Same.refl H3,⟨_,_,rfl⟩,rfl⟩ hz ?_ ?_⟩
   .rintro i ys σ Hc hi hy ⟨s4,⟨o1,o2,rfl⟩,rfl⟩;have hJ:i<l'.length:=Zz
    have hu:(l'.map V.ref)[i]?=some (.ref l'[i]):=by rw[zAb,zA0 hJ];rfl
    refine⟨⟨_,_,SqL.of (s4 _ _ wa),hu⟩,fun v H' y R hR=>?_⟩;obtain⟨rfl,y⟩:=y;have hv:=y _ (SqL.of (s4 _ _ wa));rw[hu]at hv;cases hv;refine⟨l'[i],_,rfl,SqT.of (s4 _ _ (C5 _ (zAh hJ))),rfl,_,_,rfl,_,_,rfl,rfl,_,rfl,hR _ _ _ ⟨s4,⟨_,_,rfl⟩,?_⟩⟩;rw[zAj,zA0 hJ,zA4,zA4];rfl
   .rintro ys σ Hc rV ⟨s4,_,rfl⟩;refine⟨⟨_,SqL.of (s4 _ _ wa),by rw[zA1];lia⟩,fun D' IJ=>?_⟩;have s5:=s3.trans s4;have hn:H D'=none:=s5.free IJ;refine q _ D' _ ord (s5.updR IJ) hn ?_;rw[aj,List.take_of_length_le Zz]
end
theorem Df{n j:Nat}(h:j<n):ixN n (j:Int)=some j:=by
 unfold ixN;rw[zAx Zz,zAx Zz,zAi]
theorem Gh{ws:List Int}(ok:OkW ws):ws.length<sizeLine:=by
 have:=ok.2.1;rw[sizeLine_eq];lia
section
variable{P:Program}{w:World}{K:Frag}{mg:Str->Option Value}{base:Heap}{f:Addr}{fd:FuncData}
theorem Iv:(["weight","sacks","together"]:List Str).Nodup:=by decide +kernel
theorem sc14:FnScope ["sacks","weights","together","parts","rests","left","at"] ["sacks","weights"] (aK (top 41)):=fQS
theorem ok_parts(F:Fun K "parts_of" "parts_of" (top 41) f fd)(T:Mg mg)(Ts:mg "sum"=none)(c1:Cal P w K mg base 1 "places_by_rest" ["rests"] tM):FnOk P w K mg base CX0 2 f fd ["sacks","weights"] spParts:=by
 refine F.ok sc14 (fun vs H Q E h=>?_) (fun ar A outer s H vs Q E hr h=>?_)
 .obtain⟨n,p,ws,rfl,_⟩:=h;rfl
 .obtain⟨n,p,ws,rfl,ep,ok,n0,n1,q⟩:=h
  refine⟨_,aB (pR (i:=2) sc14.nd rfl (Or.inr rfl) (aN (cZ rfl) rfl Ts boot_sum (az (pv 1) ao)))
   (aB (iu (i:=3) ["weight","sacks","together"] [none,some 0,some 2] rfl sc14.nd rfl (Or.inl rfl) (gw (pv 1))
    (fun C fp Zt s₂ H₂=>⟨pgn 0 Iv,c7,aU pZ (aU fV (pv 1) (pv 0)) (pv 2)⟩) (fun C=>cI (cI trivial)) ⟨rfl,rfl,rfl,rfl⟩)
   (aB (iu (i:=4) ["weight","sacks","together"] [none,some 0,some 2] rfl sc14.nd rfl (Or.inl rfl) (gw (pv 1))
    (fun C fp Zt s₂ H₂=>⟨pgn 0 Iv,c7,aU gB (aU fV (pv 1) (pv 0)) (pv 2)⟩) (fun C=>cI (cI trivial)) ⟨rfl,rfl,rfl,rfl⟩)
   (aB (pss 5 sc14.nd (aU fj (pv 0) (aN (cZ rfl) rfl Ts boot_sum (az (pv 3) ao))))
   (aB (cD zB5 rfl (eO (lK BZ (aJ c1 hr (az (pv 4) ao)) q8 (q9 (pv 5)))) (pgn 6 sc14.nd)
    (aF (pU (pv 3) (pv 6) iC aC yF set_list)))
   (aF (aO (dw cU rfl T.tuple boot_tuple (az (pv 3) ao)))))))),?_⟩
  have hp:=ok.pos;have ht:=ok.top;have wb:=Gh ok;refine aH ?_;refine⟨_,rfl,p,ws,rfl,.inr (SqT.of ep),?_⟩;dsimp only;refine aH ?_;refine⟨_,rfl,p,rfl,⟨_,SqT.of ep⟩,oZ (fun z=>n*z / ws.sum) ep wb (fun z Q hz h=>⟨_,rfl,_,rfl,_,_,rfl,rfl,.inl ⟨Zz,Zz⟩,_,rfl,_,_,rfl,rfl,⟨Zz,Zz⟩,h⟩) ?_⟩;rw[show ws.map (fun z=>n*z / ws.sum)=fs n ws from rfl];intro l1 fz;have s1:=Same.upd (o:=.lst ((fs n ws).map V.int)) fz;have el1:=aj (H:=H) (a:=l1) (o:=.lst ((fs n ws).map V.int));generalize upd H l1 _=H1 at s1 el1⊢;dsimp only;refine aH ?_;refine⟨_,rfl,p,rfl,⟨_,SqT.of (s1 _ _ ep)⟩,oZ (fun z=>n*z % ws.sum) (s1 _ _ ep) wb (fun z Q hz h=>⟨_,rfl,_,rfl,_,_,rfl,rfl,.inl ⟨Zz,Zz⟩,_,rfl,_,_,rfl,rfl,(by show 0<ws.sum;lia),h⟩) ?_⟩;rw[show ws.map (fun z=>n*z % ws.sum)=rs n ws from rfl];intro l2 ix;have s2:=s1.updR (o:=.lst ((rs n ws).map V.int)) ix;have el2:=aj (H:=H1) (a:=l2) (o:=.lst ((rs n ws).map V.int));have iS:=Same.upd (o:=.lst ((rs n ws).map V.int)) ix _ _ el1;have Au:H l1=none:=fz;clear fz ix;generalize upd H1 l2 _=H2 at s2 el2 iS⊢;clear el1 s1;dsimp only;refine aH ?_;refine⟨_,rfl,_,rfl,l1,fs n ws,rfl,.inl (SqL.of iS),_,_,rfl,rfl,?_⟩;show _;dsimp only;rw[show n-(fs n ws).sum=lf n ws from rfl];refine aH ?_;refine⟨_,rfl,l2,rs n ws,rfl,el2,by rw[jN];exact wb,fun H3 l3 pl ord s3 wc el3=>⟨_,rfl,_,rfl,l3,_,rfl,SqL.of el3,fun l4 kq=>⟨l4,rfl,⟨_,SqL.of aj⟩,?_⟩⟩⟩;have Ma:=vY (n:=n) ok;have Q3:=Er (n:=n) ok;have Mb:=ord.len;rw[jN]at Mb
  have C6:nC (pl.map fun j:Nat=>V.int (j:Int)) none (some (lf n ws))=(pl.take (lf n ws).toNat).map fun j:Nat=>V.int (j:Int):=by
   rw[List.map_take,<-mU (i:=(lf n ws).toNat) (by rw[zA1];lia),show((lf n ws).toNat:Int)=lf n ws by lia]
  rw[C6];have fin:=Gg ord
  have inr:∀j∈pl.take (lf n ws).toNat,j<ws.length:=fun j hj=>by
   have:=ord.lt j (List.mem_of_mem_take hj);rw[jN]at this;exact this
  generalize pl.take (lf n ws).toNat=pk at fin inr kq⊢;have s4:=(s2.trans s3).updR (o:=.lst (pk.map fun j:Nat=>V.int (j:Int))) kq;have el4:=aj (H:=H3) (a:=l4) (o:=.lst (pk.map fun j:Nat=>V.int (j:Int)));have we:=Same.upd (o:=.lst (pk.map fun j:Nat=>V.int (j:Int))) kq _ _ (s3 _ _ iS)
  have Mc:l4≠l1:=fun z=>by
   rw[z,s3 _ _ iS]at kq;cases kq
  generalize upd H3 l4 (.lst (pk.map fun j:Nat=>V.int (j:Int)))=H4 at s4 el4 we⊢;clear kq el3 wc s3 iS el2 s2;refine j7 (xs:=pk.map fun j:Nat=>V.int (j:Int)) (fun i σ Hc=>∃o6,σ=[some (.int n),some (.ref p),some (.int ws.sum),some (.ref l1),some (.ref l2),some (.int (lf n ws)),o6]/\Same H Hc/\Hc l4=some (.lst (pk.map fun j:Nat=>V.int (j:Int)))/\Hc l1=some (.lst ((d9 (fs n ws) (pk.take i)).map V.int))) ?_ ?_ ?_ ?_
  .exact⟨none,rfl,s4,el4,we⟩
  .rintro i σ Hc hi ⟨o6,rfl,s5,e4,e1⟩;exact SqL.of e4
  .rintro i v σ Hc hv ⟨o6,rfl,s5,e4,e1⟩;rw[zAb]at hv
   cases hj:pk[i]? with
   |none=>rw[hj]at hv;cases hv
   |some j=>
    rw[hj]at hv;cases hv;refine aM ?_
    have kp:∀o,Same H (upd Hc l1 o):=fun o b u e=>by
     rw[aA (aG e Au)];exact s5 _ _ e
    have aw:j<(d9 (fs n ws) (pk.take i)).length:=by
     rw[jM,mV];exact inr j (zB6 hj)
    have hx:((d9 (fs n ws) (pk.take i)).map V.int)[((j:Nat):Int).toNat]?=some (.int ((d9 (fs n ws) (pk.take i)).getD j 0)):=by
     rw[zAi,zAb,zA0 aw,zA7,zA0 aw];rfl
    refine⟨_,rfl,_,rfl,l1,_,(j:Int),_,rfl,rfl,SqL.of e1,Zz,hx,_,_,rfl,rfl,l1,_,(j:Int),j,rfl,rfl,e1,Df (by rw[zA1];exact aw),?_⟩;refine⟨_,rfl,kp _,by rw[aA Mc];exact e4,?_⟩;rw[aj,zAj,hj];show _=some (HO.lst ((d9 (fs n ws) (pk.take i++[j])).map V.int));rw[uV,List.map_set]
  .rintro σ Hc ⟨o6,rfl,s5,e4,e1⟩;rw[zA1,zAm,fin]at e1;dsimp only;refine jE ?_;exact⟨_,rfl,l1,_,rfl,.inl ⟨SqL.of e1,fun t ht=>q _ t (s5.updR ht) aj⟩⟩
theorem sc15:FnScope ["sacks","weights"] ["sacks","weights"] (aK (top 42)):=fQS
theorem ok_parted(F:Fun K "parted" "parted" (top 42) f fd)(c1:Cal P w K mg base 5 "refuse_unpartable" ["sacks","weights"] tL)(c2:Cal P w K mg base 2 "parts_of" ["sacks","weights"] spParts):FnOk P w K mg base CX0 6 f fd ["sacks","weights"] spParts:=by
 refine F.ok sc15 (fun vs H Q E h=>?_) (fun ar A outer s H vs Q E hr h=>?_)
 .obtain⟨n,p,ws,rfl,_⟩:=h;rfl
 .obtain⟨n,p,ws,rfl,ep,ok,n0,n1,q⟩:=h;refine⟨_,aB (cW (aJ c1 hr (az (pv 0) (az (pv 1) ao)))) (aF (aO (aJ c2 hr (az (pv 0) (az (pv 1) ao))))),?_⟩;refine aH ?_;refine⟨_,rfl,_,rfl,n,p,ws,rfl,ep,ok,n0,n1,fun H1 s1=>?_⟩;dsimp only;refine jE ?_;exact⟨_,rfl,_,rfl,n,p,ws,rfl,s1 _ _ ep,ok,n0,n1,fun H2 t s2 et=>q H2 t (s1.trans s2) et⟩
end
end K23P
namespace K23
open PySem L2
def bU:Int->List (List Int)->List Int
 |_,[]=>[]
 |w,r::rs=>(if w<fl r 3 then w else fl r 3)::bU (w-(if w<fl r 3 then w else fl r 3)) rs
theorem j5:∀(w:Int) (rs:List (List Int)) (r:List Int),bU w (rs++[r])=bU w rs++[if w-(bU w rs).sum<fl r 3 then w-(bU w rs).sum else fl r 3]
 |w,[],r=>by
  show[_]=[_];rw[show(bU w []).sum=0 from rfl,Int.sub_zero]
 |w,q::rs,r=>by
  rw[List.cons_append];unfold bU;rw[j5 _ rs r,List.cons_append,List.sum_cons,show ∀a b c:Int,a-b-c=a-(b+c)from fun a b c=>by lia]
theorem gn:∀(w:Int) (rs:List (List Int)),(bU w rs).length=rs.length
 |_,[]=>rfl
 |w,r::rs=>by
  unfold bU;rw[zAe,zAe,gn]
inductive SpMadeI(vs:List V)(H:Hp)(Q:VK):Prop
 |mk:∀w l xs rs,(vs=[.int w,.ref l])->(H l=some (.lst xs))->(Els H xs rs)->((∀r∈rs,r.length=4))->(rs.length<=100000)->(∀m H',Same H H'->H m=none->H' m=some (.lst ((bU w rs).map V.int))->Q (.ref m) H')->SpMadeI  vs H Q
def zV:Sp:=fun vs H Q _=>SpMadeI  vs H Q
def aV(w:Int)(rs:List (List Int)):List Int:=if(wts rs).sum<=w then wts rs else K23P.res w (wts rs)
inductive SpSharesI(vs:List V)(H:Hp)(Q:VK):Prop
 |mk:∀w l xs rs,(vs=[.int w,.ref l])->(H l=some (.lst xs))->(Els H xs rs)->((∀r∈rs,r.length=4/\1<=fl r 3/\fl r 3<=99))->(rs.length<=80)->(0<=w)->(∀t H',Same H H'->H' t=some (.tup ((aV w rs).map V.int))->Q (.ref t) H')->SpSharesI  vs H Q
def tO:Sp:=fun vs H Q _=>SpSharesI  vs H Q
variable{P:Program}{w:World}{K:Frag}{mg:Str->Option Value}{base:Heap}{f:Addr}{fd:FuncData}
theorem scT1:FnScope ["wool","owed","shares","left","due","number","holder","sacks","share"] ["wool","owed"] (aK (top 47)):=fQS
theorem Dg(F:Fun K "made_good" "made_good" (top 47) f fd)(Tn:mg "min"=none):FnOk P w K mg base CX0 1 f fd ["wool","owed"] zV:=by
 refine F.ok scT1 (fun vs H Q E h=>?_) (fun ar A outer s H vs Q E hr h=>?_)
 .obtain⟨w0,l,xs,rs,rfl,_⟩:=h;rfl
 .obtain⟨w0,l,xs,rs,rfl,el,dE,h4,hz,q⟩:=h
  refine⟨_,aB (pss 2 scT1.nd (cJ ao))
   (aB (pss 3 scT1.nd (pv 0))
   (aB (cD zB5 rfl (eO (pv 1)) (bG rfl (aq (pgn 4 scT1.nd) (aq (pgn 5 scT1.nd) (aq (pgn 6 scT1.nd) (aq (pgn 7 scT1.nd) aW)))))
    (aB (pss 8 scT1.nd (aN (il rfl) rfl Tn boot_min (az (pv 7) (az (pv 3) ao))))
    (aB (cW (oG zBg zBf zBe fc (pv 2) (az (pv 8) ao)))
    (aF (lD (i:=3) scT1.nd rfl (Or.inl rfl) (pv 8) yG)))))
   (aF (aO (pv 2))))),?_⟩
  refine aH (aX ?_);refine⟨zL,fun m hm=>?_⟩;refine aM ?_;dsimp only;refine aH (aX ?_);refine⟨_,rfl,?_⟩;refine aM ?_;dsimp only;refine aH ?_;have s1:=Same.upd (o:=.lst []) hm;have nl:l≠m:=aG el hm;refine⟨_,rfl,l,rfl,⟨_,SqL.of (s1 _ _ el)⟩,?_⟩;refine j7 (xs:=xs) (fun i σ Hc=>∃x4 x5 x6 x7 x8,σ=[some (.int w0),some (.ref l),some (.ref m),some (.int (w0-(bU w0 (rs.take i)).sum)),x4,x5,x6,x7,x8]/\(∀b o,H b=some o->Hc b=some o)/\Hc m=some (.lst ((bU w0 (rs.take i)).map V.int))) ?_ ?_ ?_ ?_
  .refine⟨none,none,none,none,none,?_,fun b o e=>s1 _ _ e,aj⟩;rw[List.take_zero,show(bU w0 []).sum=0 from rfl,Int.sub_zero];rfl
  .rintro i σ Hc hi ⟨x4,x5,x6,x7,x8,rfl,k,em⟩;exact SqL.of (k _ _ el)
  .rintro i x σ Hc hx ⟨x4,x5,x6,x7,x8,rfl,k,em⟩
   have hi:i<rs.length:=by
    have:=(zAa.mp hx).1;rw[dE.1]at this;exact this
   obtain⟨t,ex,et⟩:=dE.2 i rs[i] (zA0 hi);rw[ex]at hx;cases hx;rw[cM (h4 _ (zAh hi))]at et;refine⟨t,_,rfl,SqT.of (k _ _ et),rfl,_,_,rfl,_,_,rfl,_,_,rfl,_,_,rfl,rfl,?_⟩;refine aH (aX ?_);refine⟨_,rfl,_,rfl,_,_,rfl,?_⟩;refine aM ?_;dsimp only;refine aH ?_;refine⟨_,rfl,.inl ⟨rfl,_,SqL.of em⟩,_,rfl,m,_,_,rfl,rfl,em,?_,?_⟩
   .rw[zA1,gn,zAd,sizeLine_eq];lia
   have de:rs.take (i+1)=rs.take i++[rs[i]]:=by rw[zAj,zA0 hi];rfl
   dsimp only;refine⟨_,rfl,_,rfl,_,_,rfl,rfl,some (.int (fl rs[i] 0)),some (.int (fl rs[i] 1)),some (.int (fl rs[i] 2)),some (.int (fl rs[i] 3)),some (.int (if w0-(bU w0 (rs.take i)).sum<fl rs[i] 3 then w0-(bU w0 (rs.take i)).sum else fl rs[i] 3)),?_,fun b o e=>?_,?_⟩
   .rw[de,j5,List.sum_append,List.sum_cons,List.sum_nil,Int.add_zero,show ∀a b c:Int,a-(b+c)=a-b-c from fun a b c=>by lia];rfl
   .rw[aA (aG e hm)];exact k _ _ e
   .rw[aj,de,j5,zA4];rfl
  .rintro σ Hc ⟨x4,x5,x6,x7,x8,rfl,k,em⟩;rw[show xs.length=rs.length from dE.1,zAm]at em;exact⟨_,rfl,q m Hc (fun b o e=>k b o e) hm em⟩
theorem scT2:FnScope ["wool","claims","weights"] ["wool","claims"] (aK (top 46)):=fQS
theorem yf(F:Fun K "shares_of" "shares_of" (top 46) f fd)(T:Mg mg)(Ts:mg "sum"=none)(c1:Cal P w K mg base 6 "parted" ["sacks","weights"] K23P.spParts):FnOk P w K mg base CX0 7 f fd ["wool","claims"] tO:=by
 refine F.ok scT2 (fun vs H Q E h=>?_) (fun ar A outer s H vs Q E hr h=>?_)
 .obtain⟨w0,l,xs,rs,rfl,_⟩:=h;rfl
 .obtain⟨w0,l,xs,rs,rfl,el,dE,h4,hz,hw,q⟩:=h
  refine⟨_,aB (pss 2 scT2.nd (dw cU rfl T.tuple boot_tuple (az (cC (g:=jY K 4 (cB (bD 0) (cB (bD 1) (cB (bD 2) (cB (bD 3) lC))))) ["due","number","holder","sacks"] [none,none,none,none] rfl (eO (pv 1))
    (fun C fp Zt s₂ H₂=>⟨dO rfl rfl (aq (pgn 0 nd4) (aq (pgn 1 nd4) (aq (pgn 2 nd4) (aq (pgn 3 nd4) aW)))),c7,pv 3⟩) (fun C=>trivial) ⟨rfl,rfl,rfl,rfl⟩) ao)))
   (aF (aO (rH (bz bM (aN (cZ rfl) rfl Ts boot_sum (az (pv 2) ao)) (pv 0) (bf _)) (pv 2) (aJ c1 hr (az (pv 0) (az (pv 2) ao)))))),?_⟩
  refine aH (aX ?_);refine⟨_,rfl,l,rfl,⟨_,SqL.of el⟩,fG rs.length (fun i ys σ Hc=>Same H Hc/\(∃o1 o2 o3 o4,σ=[o1,o2,o3,o4])/\ys=(wts (rs.take i)).map V.int) ⟨Same.refl H,⟨_,_,_,_,rfl⟩,rfl⟩ Zu ?_ ?_⟩
  .rintro i ys σ Hc hi hy ⟨s1,⟨o1,o2,o3,o4,rfl⟩,rfl⟩;obtain⟨t,ex,et⟩:=dE.2 i rs[i] (zA0 hi);rw[cM (h4 _ (zAh hi)).1]at et;refine⟨⟨_,_,SqL.of (s1 _ _ el),ex⟩,fun v H' y R hR=>?_⟩;obtain⟨rfl,y⟩:=y;have hv:=y _ (SqL.of (s1 _ _ el));rw[ex]at hv;cases hv;refine⟨t,_,rfl,SqT.of (s1 _ _ et),rfl,_,_,rfl,_,_,rfl,_,_,rfl,_,_,rfl,rfl,_,rfl,hR _ _ _ ⟨s1,⟨_,_,_,_,rfl⟩,?_⟩⟩;unfold wts;rw[zAj,zA0 hi,zA4,zA4];rfl
  .rintro ys σ Hc hy ⟨s1,_,rfl⟩;refine⟨⟨_,SqL.of (s1 _ _ el),by rw[dE.1];exact zA3 _⟩,fun D hD=>?_⟩;rw[zAm];refine⟨D,_,rfl,.inl ⟨SqL.of aj,fun t ht=>?_⟩⟩;have s2:=(s1.updR (o:=.lst ((wts rs).map V.int)) hD).updR (o:=.tup ((wts rs).map V.int)) ht;have et:=aj (H:=upd Hc D (.lst ((wts rs).map V.int))) (a:=t) (o:=.tup ((wts rs).map V.int));generalize upd (upd Hc D (.lst ((wts rs).map V.int))) t (.tup ((wts rs).map V.int))=H2 at s2 et⊢;refine aM ?_;dsimp only;refine⟨_,rfl,t,wts rs,rfl,.inr (SqT.of et),_,rfl,_,_,rfl,rfl,_,rfl,?_⟩;by_cases hs:(wts rs).sum<=w0
   .rw[zAt hs];refine bI ⟨_,rfl,q t H2 s2 ?_⟩;unfold aV;rw[zAx hs];exact et
   .rw[zB1 hs];refine bw ⟨_,rfl,_,rfl,w0,t,wts rs,rfl,et,⟨?_,?_,fun x hx=>?_⟩,hw,Zz,fun H3 t3 s3 e3=>q t3 H3 (s2.trans s3) ?_⟩
    .cases fT:rs with
     |nil=>
      rw[fT]at hs;exact absurd hw hs
     |cons r p9=>
      unfold wts;rw[zA1,zAe];lia
    .unfold wts;rw[zA1];exact hz
    .obtain⟨r,fT,rfl⟩:=zA5.mp hx;exact(h4 r fT).2
    .unfold aV;rw[zAw hs];exact e3
theorem gq{J:It}{g:TG}{tt:TT}{te:TE}{dv:St}{H0:Hp}{Fin:List V->Hp->Prop}(n:Nat)(Pv:Nat->List V->St->Hp->Prop)(h0:Pv 0 [] dv H0)(hz:n<sizeLine)
  (step:∀i ys σ H,i<n->ys.length<=i->Pv i ys σ H->J.go i H/\∀x H',J.yld i H x H'->∀R:List V->St->Hp->Prop,(∀mw aE H4,mw.length<=i+1->Pv (i+1) mw aE H4->R mw aE H4)->g x σ H' fun aE H2=>tt aE H2 fun b H3=>if b=true then te aE H3 fun y H4=>R (ys++[y]) aE H4 else R ys aE H3)
  (fin:∀ys σ H,ys.length<=n->Pv n ys σ H->J.stop n H/\Fin ys H):jV J g tt te Fin dv H0:=by
 refine⟨fun i m ys σ H=>m=n-i/\i<=n/\ys.length<=i/\Pv i ys σ H,⟨_,rfl,zAp _,zA3 _,h0⟩,?_⟩;rintro i m ys σ H ⟨rfl,hi,hy,p⟩;refine⟨Zz,?_⟩;by_cases aw:i<n
 .obtain⟨go,st⟩:=step i ys σ H aw hy p;exact .inr ⟨go,fun x H' y=>st x H' y (fun mw aE H4=>∃m',m'<n-i/\m'=n-(i+1)/\i+1<=n/\mw.length<=i+1/\Pv (i+1) mw aE H4) fun mw aE H4 l2 p2=>⟨n-(i+1),Zz,rfl,aw,l2,p2⟩⟩
 .have e:i=n:=Zz
  subst e;exact .inl (fin ys σ H hy p)
def bN(P:List (List Int×Int)):List (List Int):=(P.filter fun p=>decide (0<p.2)).map fun p=>[fl p.1 0,fl p.1 1,fl p.1 2,p.2]
def bJ(P:List (List Int×Int)):List (List Int):=(P.filter fun p=>decide (p.2<fl p.1 3)).map fun p=>[fl p.1 0,fl p.1 1,fl p.1 2,fl p.1 3-p.2]
theorem p8(P:List (List Int×Int))(p:List Int×Int):bN (P++[p])=bN P++(if 0<p.2 then[[fl p.1 0,fl p.1 1,fl p.1 2,p.2]]else[]):=by
 unfold bN;rw[List.filter_append,zA4];congr 1;by_cases h:0<p.2
 .rw[zAx h,zB9 (p:=fun(p:List Int×Int)=>decide (0<p.2)) (zAt h)];rfl
 .rw[zAw h,zBa (p:=fun(p:List Int×Int)=>decide (0<p.2)) (by rw[Zp];exact h)];rfl
theorem mW(P:List (List Int×Int))(p:List Int×Int):bJ (P++[p])=bJ P++(if p.2<fl p.1 3 then[[fl p.1 0,fl p.1 1,fl p.1 2,fl p.1 3-p.2]]else[]):=by
 unfold bJ;rw[List.filter_append,zA4];congr 1;by_cases h:p.2<fl p.1 3
 .rw[zAx h,zB9 (p:=fun(p:List Int×Int)=>decide (p.2<fl p.1 3)) (zAt h)];rfl
 .rw[zAw h,zBa (p:=fun(p:List Int×Int)=>decide (p.2<fl p.1 3)) (by rw[Zp];exact h)];rfl
theorem shares_len{w:Int}{rs:List (List Int)}:(aV w rs).length=rs.length:=by
 unfold aV;split
 .unfold wts;rw[zA1]
 .rw[K23P.res_len];unfold wts;rw[zA1]
def shr(w:Int)(cl ow:List (List Int)):List Int:=aV w cl++bU (w-(aV w cl).sum) ow
inductive SpSortI(vs:List V)(H:Hp)(Q:VK):Prop
 |mk:∀w lc xc cl lo xo ow,(vs=[.int w,.ref lc,.ref lo])->(H lc=some (.lst xc))->(Els H xc cl)->((∀r∈cl,r.length=4/\1<=fl r 3/\fl r 3<=99))->(cl.length<=80)->(0<=w)->(H lo=some (.lst xo))->(Els H xo ow)->((∀r∈ow,r.length=4))->(ow.length<=10000)->(∀t g k xg xk H',Same H H'->H' t=some (.tup [.ref g,.ref k])->H g=none->H k=none->H' g=some (.lst xg)->Els H' xg (bN ((cl++ow).zip (shr w cl ow)))->H' k=some (.lst xk)->Els H' xk (bJ ((cl++ow).zip (shr w cl ow)))->Q (.ref t) H')->SpSortI  vs H Q
def zW:Sp:=fun vs H Q _=>SpSortI  vs H Q
theorem tQ:bootBuiltins "list"=some (.type "list"):=by decide +kernel
theorem nd5:(["due","number","holder","sacks","share"]:List Str).Nodup:=by decide +kernel
theorem scU1:FnScope ["wool","claims","owed","shares","rows","gifts","lacking"] ["wool","claims","owed"] (aK (top 48)):=fQS
theorem zZ(F:Fun K "sort_given" "sort_given" (top 48) f fd)(Ts:mg "sum"=none)(Tl:mg "list"=none)(Tz:mg "zip"=none)(c1:Cal P w K mg base 7 "shares_of" ["wool","claims"] tO)(c2:Cal P w K mg base 1 "made_good" ["wool","owed"] zV):FnOk P w K mg base CX0 8 f fd ["wool","claims","owed"] zW:=by
 refine F.ok scU1 (fun vs H Q E h=>?_) (fun ar A outer s H vs Q E hr h=>?_)
 .obtain⟨w0,lc,xc,cl,lo,xo,ow,rfl,_⟩:=h;rfl
 .obtain⟨w0,lc,xc,cl,lo,xo,ow,rfl,ec,mS,IL,Md,hw,eo,gz,IM,Me,q⟩:=h
  refine⟨_,aB (pss 3 scU1.nd (dw qe rfl Tl tQ (az (aJ c1 hr (az (pv 0) (az (pv 1) ao))) ao)))
   (aB (pss 4 scU1.nd (aU Fy (pv 1) (pv 2)))
   (aB (lD (i:=3) scU1.nd rfl (Or.inl rfl) (aJ c2 hr (az (aU fj (pv 0) (aN (cZ rfl) rfl Ts boot_sum (az (pv 3) ao))) (az (pv 2) ao))) qJ)
   (aB (iu (g:=jY K 2 (cB (jY K 4 (cB (bD 0) (cB (bD 1) (cB (bD 2) (cB (bD 3) lC))))) (cB (bD 4) lC))) (i:=5) ["due","number","holder","sacks","share"] [none,none,none,none,none] rfl scU1.nd rfl (Or.inl rfl) (ZT.pi_zip false false rfl Tz (az (pv 4) (az (pv 3) ao))) (fun C fp Zt s₂ H₂=>⟨dO rfl rfl (aq (dO rfl rfl (aq (pgn 0 nd5) (aq (pgn 1 nd5) (aq (pgn 2 nd5) (aq (pgn 3 nd5) aW))))) (aq (pgn 4 nd5) aW)),ir (bz lG (pv 4) aC (bf _)),cz (az (pv 0) (az (pv 1) (az (pv 2) (az (pv 4) ao))))⟩) (fun C=>trivial) ⟨rfl,rfl,rfl,rfl⟩)
   (aB (iu (g:=jY K 2 (cB (jY K 4 (cB (bD 0) (cB (bD 1) (cB (bD 2) (cB (bD 3) lC))))) (cB (bD 4) lC))) (i:=6) ["due","number","holder","sacks","share"] [none,none,none,none,none] rfl scU1.nd rfl (Or.inl rfl) (ZT.pi_zip false false rfl Tz (az (pv 4) (az (pv 3) ao))) (fun C fp Zt s₂ H₂=>⟨dO rfl rfl (aq (dO rfl rfl (aq (pgn 0 nd5) (aq (pgn 1 nd5) (aq (pgn 2 nd5) (aq (pgn 3 nd5) aW))))) (aq (pgn 4 nd5) aW)),ir (bz lG (pv 3) (pv 4) (bf _)),cz (az (pv 0) (az (pv 1) (az (pv 2) (az (aU fj (pv 3) (pv 4)) ao))))⟩) (fun C=>trivial) ⟨rfl,rfl,rfl,rfl⟩)
   (aF (aO (cz (az (pv 5) (az (pv 6) ao))))))))),?_⟩
  refine iw fun c_ fm=>?_;refine aX ?_;refine⟨_,rfl,_,rfl,w0,lc,xc,cl,rfl,ec,mS,IL,Md,hw,fun t H1 s1 et=>⟨t,_,rfl,.inr (SqT.of et),fun ls IP=>?_⟩⟩;have s2:=s1.updR (o:=.lst ((aV w0 cl).map V.int)) IP;have IQ:H ls=none:=s1.free IP;have dE:=aj (H:=H1) (a:=ls) (o:=.lst ((aV w0 cl).map V.int));generalize upd H1 ls (.lst ((aV w0 cl).map V.int))=H2 at s2 dE⊢;refine aM ?_;refine fm _ _ ?_;clear fm c_
  try dsimp only
  refine iw fun c_ fm=>?_;refine aX ?_;refine⟨_,rfl,_,rfl,lc,lo,xc,xo,rfl,rfl,s2 _ _ ec,s2 _ _ eo,by rw[mS.1,gz.1,sizeLine_eq];lia,fun lr gN=>?_⟩;have s3:=s2.updR (o:=.lst (xc++xo)) gN;have Q4:H lr=none:=s2.free gN;have lh:=Same.upd (o:=.lst (xc++xo)) gN _ _ dE;have C7:=aj (H:=H2) (a:=lr) (o:=.lst (xc++xo))
  have Mf:lr≠ls:=fun z=>by rw[z,dE]at gN;cases gN
  generalize upd H2 lr (.lst (xc++xo))=H3 at s3 lh C7⊢;refine aM ?_;refine fm _ _ ?_;clear fm c_
  try dsimp only
  refine iw fun c_ fm=>?_;refine⟨_,rfl,_,rfl,_,rfl,ls,aV w0 cl,rfl,.inl (SqL.of lh),_,_,rfl,rfl,_,rfl,_,lo,xo,ow,rfl,s3 _ _ eo,gz.same s3,IM,Zz,fun m H4 s4 nm em=>?_⟩;refine⟨ls,m,_,_,rfl,rfl,s4 _ _ lh,em,by rw[zA1,zA1,shares_len,gn,sizeLine_eq];lia,?_⟩;have IS:(aV w0 cl).map V.int++(bU (w0-(aV w0 cl).sum) ow).map V.int=(shr w0 cl ow).map V.int:=by unfold shr;rw[zA4]
  rw[IS]
  have qa:(shr w0 cl ow).length=(cl++ow).length:=by
   unfold shr;rw[zA2,zA2,shares_len,gn]
  generalize shr w0 cl ow=SH at q qa;refine fm _ _ ?_;clear fm c_
  try dsimp only
  have k5:Same H (upd H4 ls (.lst (SH.map V.int))):=fun b o e=>by
   rw[aA (aG e IQ)];exact s4 _ _ (s3 _ _ e)
  have iX:=aj (H:=H4) (a:=ls) (o:=.lst (SH.map V.int));have f6:upd H4 ls (.lst (SH.map V.int)) lr=some (.lst (xc++xo)):=by rw[aA Mf];exact s4 _ _ C7
  generalize upd H4 ls (.lst (SH.map V.int))=H5 at k5 iX f6⊢;have rX:Els H (xc++xo) (cl++ow):=mS.app gz;have IT:∀r∈cl++ow,r.length=4:=fun r hr=>(zA6.mp hr).elim (fun z=>(IL r z).1) (IM r);have Mi:(cl++ow).length<=20000:=by rw[zA2];lia
  generalize xc++xo=xr at f6 rX;generalize cl++ow=rr at q qa rX IT Mi;clear dE lh C7 IS s1 s2 s3 s4 em et
  obtain⟨ZP,AG⟩:∃ZP,ZP=rr.zip SH:=⟨_,rfl⟩
  rw[<-AG]at q;have lI:ZP.length=rr.length:=by rw[AG,zAs,qa,Nat.min_self]
  have qf:∀i (h:i<ZP.length),rr[i]?=some ZP[i].1:=fun i h=>by
   have hi:i<rr.length:=Zz
   rw[zA0 hi];congr 1;simp only[AG,List.getElem_zip]
  have wm:∀i (h:i<ZP.length),SH[i]?=some ZP[i].2:=fun i h=>by
   have hi:i<SH.length:=Zz
   rw[zA0 hi];congr 1;simp only[AG,List.getElem_zip]
  have wo:∀i (h:i<ZP.length),(ZP[i].1).length=4:=fun i h=>IT _ (zB6 (qf i h));refine iw fun c_ fm=>?_;refine⟨_,rfl,_,rfl,lr,ls,xr,_,rfl,SqL.of f6,SqL.of iX,gq rr.length (fun i ys σ Hc=>Same H5 Hc/\(∃o1 o2 o3 o4 o5,σ=[o1,o2,o3,o4,o5])/\Els Hc ys (bN (ZP.take i))) ⟨Same.refl _,⟨_,_,_,_,_,rfl⟩,Els.nil⟩ Zu ?_ ?_⟩
  .rintro i ys σ Hc hi hy ⟨sc,⟨o1,o2,o3,o4,o5,rfl⟩,ht⟩;have hP:i<ZP.length:=by rw[lI];exact hi
   obtain⟨tr,ex,et⟩:=rX.2 i ZP[i].1 (qf i hP);have er:SqL K Hc lr xr:=SqL.of (sc _ _ f6);have es:SqL K Hc ls (SH.map V.int):=SqL.of (sc _ _ iX);have rV:(SH.map V.int)[i]?=some (.int ZP[i].2):=by rw[zAb,wm i hP];rfl
   have de:ZP.take (i+1)=ZP.take i++[ZP[i]]:=by rw[zAj,zA0 hP];rfl
   have wq:=sc _ _ (k5 _ _ et);rw[cM (wo i hP)]at wq;refine⟨⟨_,_,_,_,er,es,ex,rV⟩,fun x H' yv R hR=>?_⟩;obtain⟨T0,nT,rfl,yv⟩:=yv;obtain⟨x',y',pS,qh,rfl⟩:=yv _ _ er es;rw[ex]at pS;cases pS;rw[rV]at qh;cases qh;have ja:=sc.updR (o:=.tup [.ref tr,.int ZP[i].2]) nT;refine⟨T0,_,rfl,SqT.of aj,rfl,_,_,rfl,?_⟩;refine⟨tr,_,rfl,SqT.of (Same.upd nT _ _ wq),rfl,_,_,rfl,_,_,rfl,_,_,rfl,_,_,rfl,rfl,?_⟩;refine⟨_,_,rfl,rfl,?_⟩;refine⟨_,rfl,_,_,rfl,rfl,_,rfl,?_⟩;by_cases aI:0<ZP[i].2
   .rw[zAt aI];refine bI ⟨_,rfl,_,rfl,_,rfl,_,rfl,zL,fun t fy=>hR _ _ _ (by rw[zA2];show ys.length+1<=i+1;lia) ⟨ja.updR fy,⟨_,_,_,_,_,rfl⟩,?_⟩⟩;rw[de,p8,zAx aI];exact(((ht.same (Same.upd nT)).same (Same.upd fy))).app (Els.one aj)
   .rw[zB1 aI];refine bw (hR _ _ _ Zz ⟨ja,⟨_,_,_,_,_,rfl⟩,?_⟩);rw[de,p8,zAw aI,zAn];exact ht.same (Same.upd nT)
  rintro ys σ Hc hy ⟨sc,_,ht⟩;rw[<-lI,zAm]at ht;refine⟨⟨_,SqL.of (sc _ _ f6),by rw[rX.1];exact zA3 _⟩,fun g hg=>?_⟩;have k6:=(k5.trans sc).updR (o:=.lst ys) hg;have ng:H g=none:=(k5.trans sc).free hg;have eg:=aj (H:=Hc) (a:=g) (o:=.lst ys);have dP:=ht.same (Same.upd (o:=.lst ys) hg);have lP:=Same.upd (o:=.lst ys) hg _ _ (sc _ _ f6);have qo:=Same.upd (o:=.lst ys) hg _ _ (sc _ _ iX);generalize upd Hc g (.lst ys)=H6 at k6 eg dP lP qo⊢;clear sc ht hy iX f6 k5;refine fm _ _ ?_;clear fm c_
  try dsimp only
  refine iw fun c_ fm=>?_;refine⟨_,rfl,_,rfl,lr,ls,xr,_,rfl,SqL.of lP,SqL.of qo,gq rr.length (fun i ys σ Hc=>Same H6 Hc/\(∃o1 o2 o3 o4 o5,σ=[o1,o2,o3,o4,o5])/\Els Hc ys (bJ (ZP.take i))) ⟨Same.refl _,⟨_,_,_,_,_,rfl⟩,Els.nil⟩ Zu ?_ ?_⟩
  .rintro i ys σ Hc hi hy ⟨sc,⟨o1,o2,o3,o4,o5,rfl⟩,ht⟩;have hP:i<ZP.length:=by rw[lI];exact hi
   obtain⟨tr,ex,et⟩:=rX.2 i ZP[i].1 (qf i hP);have er:SqL K Hc lr xr:=SqL.of (sc _ _ lP);have es:SqL K Hc ls (SH.map V.int):=SqL.of (sc _ _ qo);have rV:(SH.map V.int)[i]?=some (.int ZP[i].2):=by rw[zAb,wm i hP];rfl
   have de:ZP.take (i+1)=ZP.take i++[ZP[i]]:=by rw[zAj,zA0 hP];rfl
   have wq:=sc _ _ (k6 _ _ et);rw[cM (wo i hP)]at wq;refine⟨⟨_,_,_,_,er,es,ex,rV⟩,fun x H' yv R hR=>?_⟩;obtain⟨T0,nT,rfl,yv⟩:=yv;obtain⟨x',y',pS,qh,rfl⟩:=yv _ _ er es;rw[ex]at pS;cases pS;rw[rV]at qh;cases qh;have ja:=sc.updR (o:=.tup [.ref tr,.int ZP[i].2]) nT;refine⟨T0,_,rfl,SqT.of aj,rfl,_,_,rfl,?_⟩;refine⟨tr,_,rfl,SqT.of (Same.upd nT _ _ wq),rfl,_,_,rfl,_,_,rfl,_,_,rfl,_,_,rfl,rfl,?_⟩;refine⟨_,_,rfl,rfl,?_⟩;refine⟨_,rfl,_,rfl,_,_,rfl,rfl,_,rfl,?_⟩;by_cases aI:ZP[i].2<fl ZP[i].1 3
   .rw[zAt aI];refine bI ⟨_,rfl,_,rfl,_,rfl,_,rfl,_,rfl,_,_,rfl,rfl,zL,fun t fy=>hR _ _ _ (by rw[zA2];show ys.length+1<=i+1;lia) ⟨ja.updR fy,⟨_,_,_,_,_,rfl⟩,?_⟩⟩;rw[de,mW,zAx aI];exact(((ht.same (Same.upd nT)).same (Same.upd fy))).app (Els.one aj)
   .rw[zB1 aI];refine bw (hR _ _ _ Zz ⟨ja,⟨_,_,_,_,_,rfl⟩,?_⟩);rw[de,mW,zAw aI,zAn];exact ht.same (Same.upd nT)
  rintro C8 σ Hc hy ⟨sc,_,ht⟩;rw[<-lI,zAm]at ht;refine⟨⟨_,SqL.of (sc _ _ lP),by rw[rX.1];exact zA3 _⟩,fun k hk=>?_⟩;have k7:=(k6.trans sc).updR (o:=.lst C8) hk;have nk:H k=none:=(k6.trans sc).free hk;have sk:=Same.upd (o:=.lst C8) hk;refine fm _ _ ?_;clear fm c_
  try dsimp only
  refine⟨_,rfl,_,rfl,zL,fun t fy=>?_⟩;have st:=Same.upd (o:=.tup [.ref g,.ref k]) fy;exact q t g k ys C8 _ (k7.trans st) aj ng nk (st _ _ (sk _ _ (sc _ _ eg))) (((dP.same sc).same sk).same st) (st _ _ aj) ((ht.same sk).same st)
def cV(L:List Int)(i:Nat):List (List Int):=((List.range i).filter fun h=>decide (0<L.getD h 0)).map fun(h:Nat)=>[(h:Int),L.getD h 0]
theorem fQ(L:List Int)(i:Nat):cV L (i+1)=cV L i++(if 0<L.getD i 0 then[[(i:Int),L.getD i 0]]else[]):=by
 unfold cV;rw[List.range_succ,List.filter_append,zA4];congr 1;by_cases h:0<L.getD i 0
 .rw[zAx h,zB9 (p:=fun h=>decide (0<L.getD h 0)) (zAt h)];rfl
 .rw[zAw h,zBa (p:=fun h=>decide (0<L.getD h 0)) (by rw[Zp];exact h)];rfl
theorem uW(L:List Int)(i:Nat):(cV L i).length<=i:=by
 unfold cV;rw[zA1];have:=List.length_filter_le (fun h=>decide (0<L.getD h 0)) (List.range i);rw[List.length_range]at this;exact this
def dG(ps ss:List (List Int))(sort year:Int)(n:Nat):List (List Int):=if fl (ps.getD n []) 1=sort then(cV (bj (ps.getD n []) ss n year) 8).map (fun r=>year::(n:Int)::r)else[]
def eZ(ps ss:List (List Int))(sort year:Int):Nat->List (List Int)
 |0=>[]
 |k+1=>eZ ps ss sort year k++dG ps ss sort year k
def au(ps ss:List (List Int))(sort year:Int):List (List Int):=eZ ps ss sort year ps.length
theorem tR(ps ss:List (List Int))(sort year:Int)(n:Nat):(dG ps ss sort year n).length<=8:=by
 unfold dG;split
 .rw[zA1];exact uW _ 8
 .exact zAp _
theorem jt(ps ss:List (List Int))(sort year:Int):∀k,(eZ ps ss sort year k).length<=8*k
 |0=>zA3 _
 |k+1=>by
  unfold eZ;rw[zA2];have:=jt ps ss sort year k;have:=tR ps ss sort year k;lia
inductive SpClaimsI(vs:List V)(H:Hp)(Q:VK):Prop
 |mk:∀ap xp ps af xs ss sort year,(vs=[.ref ap,.ref af,.int sort,.int year])->(RowsAt H ap xp ps)->(ps.length<=10)->((∀r∈ps,okP r))->(RowsAt H af xs ss)->(ss.length<=12)->((∀s∈ss,okS s))->(∀l xl H',Same H H'->H l=none->H' l=some (.lst xl)->Els H' xl (au ps ss sort year)->Q (.ref l) H')->SpClaimsI  vs H Q
def tU:Sp:=fun vs H Q _=>SpClaimsI  vs H Q
theorem ndV:(["holder","sacks","year","number"]:List Str).Nodup:=by decide +kernel
theorem scV1:FnScope ["promises","sales","sort","year","claims","number","promise","held"] ["promises","sales","sort","year"] (aK (top 45)):=fQS
theorem yg(F:Fun K "claims_in" "claims_in" (top 45) f fd)(Te:mg "enumerate"=none)(c1:Cal P w K mg base 1 "held_in" ["promises","sales","number","year"] qP):FnOk P w K mg base CX0 2 f fd ["promises","sales","sort","year"] tU:=by
 refine F.ok scV1 (fun vs H Q E h=>?_) (fun ar A outer s H vs Q E hr h=>?_)
 .obtain⟨ap,xp,ps,af,xs,ss,sort,year,rfl,_⟩:=h;rfl
 .obtain⟨ap,xp,ps,af,xs,ss,sort,year,rfl,rp,lp,okp,rs,ls,cw,q⟩:=h
  refine⟨_,aB (pss 4 scV1.nd (cJ ao))
   (aB (cD zB5 rfl (ZT.pi_enum true rfl Te (az (pv 0) ao)) (bG rfl (aq (bH (i:=5) scV1.nd rfl (Or.inr rfl)) (aq (pgn 6 scV1.nd) aW)))
    (aF (cj (bz gK (pX bC (pv 6) aC) (pv 2) (bf _))
     (aB (pss 7 scV1.nd (aJ c1 hr (az (pv 0) (az (pv 1) (az (pv 5) (az (pv 3) ao))))))
     (aF (lD (i:=4) scV1.nd rfl (Or.inl rfl) (cC (g:=jY K 2 (cB (bD 0) (cB (bD 1) lC))) ["holder","sacks","year","number"] [none,none,some 3,some 5] rfl (ZT.pi_enum false rfl Te (az (pv 7) ao))
      (fun C fp Zt s₂ H₂=>⟨dO rfl rfl (aq (pgn 0 ndV) (aq (pgn 1 ndV) aW)),ir (bz lG (pv 1) aC (bf _)),cz (az (pv 2) (az (pv 3) (az (pv 0) (az (pv 1) ao))))⟩)
      (fun C=>cI (cI trivial)) ⟨rfl,rfl,rfl,rfl⟩) qJ))) aZ)))
   (aF (aO (pv 4)))),?_⟩
  refine aH (aX ?_);refine⟨zL,fun l hl=>?_⟩;refine aM ?_;dsimp only;refine aH ?_;have s0:=Same.upd (o:=.lst []) hl;refine⟨_,rfl,ap,xp,rfl,SqT.of (s0 _ _ rp.e),?_⟩;refine ZT.for_enum true (xs:=xp) (fun i σ Hc=>∃x5 x6 x7 xl,σ=[some (.ref ap),some (.ref af),some (.int sort),some (.int year),some (.ref l),x5,x6,x7]/\(∀b o,H b=some o->Hc b=some o)/\Hc l=some (.lst xl)/\Els Hc xl (eZ ps ss sort year i)) ?_ ?_ ?_ ?_
  .exact⟨none,none,none,[],rfl,fun b o e=>s0 _ _ e,aj,Els.nil⟩
  .rintro i σ Hc hi ⟨x5,x6,x7,xl,rfl,k,el,ht⟩;exact SqT.of (k _ _ rp.e)
  .rintro i x σ Hc T0 hx ⟨x5,x6,x7,xl,rfl,k,el,ht⟩ nT
   have hi:i<ps.length:=by
    have:=(zAa.mp hx).1;rw[rp.l]at this;exact this
   obtain⟨tr,fk,c6⟩:=rp.g i ps[i] (zA0 hi)
   have:x=.ref tr:=by
    rw[hx]at fk;exact zAl fk
   subst this;have op:=okp ps[i] (zAh hi);have ep:ps.getD i []=ps[i]:=getD_get hi;rw[dC op.1]at c6;have sT:=Same.upd (o:=.tup [V.int i,V.ref tr]) nT;have kT:Same H (upd Hc T0 (.tup [V.int i,V.ref tr])):=fun b o e=>sT _ _ (k _ _ e);have Dx:=sT _ _ el;have DA:=ht.same sT;have eT:=aj (H:=Hc) (a:=T0) (o:=.tup [V.int i,V.ref tr]);generalize upd Hc T0 (.tup [V.int i,V.ref tr])=H1 at kT Dx DA eT⊢;refine⟨T0,_,rfl,SqT.of eT,rfl,_,_,rfl,_,_,rfl,rfl,?_⟩;refine⟨_,rfl,tr,_,1,.int (fl ps[i] 1),rfl,rfl,SqT.of (kT _ _ c6),rfl,_,rfl,rfl,_,rfl,?_⟩;by_cases hs:fl ps[i] 1=sort
   .rw[zAt (by rw[hs])];refine bI (aH ?_);refine aX ?_;refine⟨_,rfl,_,rfl,_,rfl,_,rfl,ap,xp,ps,af,xs,ss,i,year,rfl,rp.same kT,rs.same kT,Zz,Zz,by rw[zAi,ep];exact op,ls,cw,fun hd H2 s2 e2=>?_⟩;rw[zAi,ep]at e2;have DB:=dJ ps[i] ss i year
    have wt:dG ps ss sort year i=(cV (bj ps[i] ss i year) 8).map (fun r=>year::(i:Int)::r):=by
     unfold dG;rw[ep,zAx hs]
    generalize bj ps[i] ss i year=L at e2 DB wt;have k2:=kT.trans s2;have el2:=s2 _ _ Dx;have Mj:=DA.same s2;refine aM ?_;dsimp only;refine⟨_,rfl,_,rfl,hd,_,rfl,SqL.of e2,gq 8 (fun j ys σ Hj=>Same H2 Hj/\(∃o1 o2,σ=[o1,o2,some (.int year),some (.int i)])/\Els Hj ys ((cV L j).map (fun r=>year::(i:Int)::r))) ⟨Same.refl _,⟨_,_,rfl⟩,Els.nil⟩ (by rw[sizeLine_eq];decide) ?_ ?_⟩
    .rintro j ys σ Hj hj hy ⟨sc,⟨o1,o2,rfl⟩,hV⟩;have iP:SqL K Hj hd (L.map V.int):=SqL.of (sc _ _ e2)
     have wx:(L.map V.int)[j]?=some (.int (L.getD j 0)):=by
      have cv:j<L.length:=Zz
      rw[zAb,zA7,zA0 cv];rfl
     refine⟨⟨_,_,iP,wx⟩,fun x H' yv R hR=>?_⟩;obtain⟨T1,qq,rfl,yv⟩:=yv;obtain⟨x',hG,rfl⟩:=yv _ iP;rw[wx]at hG;cases hG;have ja:=sc.updR (o:=.tup [.int (j:Int),.int (L.getD j 0)]) qq;refine⟨T1,_,rfl,SqT.of aj,rfl,_,_,rfl,_,_,rfl,rfl,?_⟩;refine⟨_,rfl,_,_,rfl,rfl,_,rfl,?_⟩;by_cases aI:0<L.getD j 0
     .rw[zAt aI];refine bI ⟨_,rfl,_,rfl,_,rfl,_,rfl,zL,fun t fy=>hR _ _ _ (by rw[zA2];show ys.length+1<=j+1;lia) ⟨ja.updR fy,⟨_,_,rfl⟩,?_⟩⟩;rw[fQ,zAx aI,zA4];exact((hV.same (Same.upd qq)).same (Same.upd fy)).app (Els.one aj)
     .rw[zB1 aI];refine bw (hR _ _ _ Zz ⟨ja,⟨_,_,rfl⟩,?_⟩);rw[fQ,zAw aI,zAn];exact hV.same (Same.upd qq)
    .rintro ys σ Hj hy ⟨sc,_,hV⟩;refine⟨⟨_,SqL.of (sc _ _ e2),by rw[zA1];lia⟩,fun D hD=>?_⟩;have sD:=sc.updR (o:=.lst ys) hD
     have nD:D≠l:=fun z=>by rw[z,sc _ _ el2]at hD;cases hD
     have ll:=jt ps ss sort year i;have:=ht.1;refine⟨l,D,xl,ys,rfl,rfl,sD _ _ el2,aj,by rw[sizeLine_eq];lia,?_⟩;refine⟨_,_,_,xl++ys,rfl,fun b o e=>?_,aj,?_⟩
     .rw[aA (aG e hl)];exact sD _ _ (k2 _ _ e)
     .have e3:=(Mj.same sD).app (hV.same (Same.upd (o:=.lst ys) hD));rw[<-wt]at e3;refine e3.keep fun b z e=>?_;rw[aA fun w=>by rw[w,sD _ _ el2]at e;cases e];exact e
   .rw[zB1 (fun z=>hs (by injection z))];refine bw ?_;refine⟨_,_,_,xl,rfl,fun b o e=>kT _ _ e,Dx,?_⟩
    have:eZ ps ss sort year (i+1)=eZ ps ss sort year i:=by
     show eZ ps ss sort year i++dG ps ss sort year i=_;unfold dG;rw[ep,zAw hs,zAn]
    rw[this];exact DA
  .rintro σ Hc ⟨x5,x6,x7,xl,rfl,k,el,ht⟩;rw[show xp.length=ps.length from rp.l]at ht;exact⟨_,rfl,q l xl Hc (fun b o e=>k b o e) hl el ht⟩
theorem sum_set:∀(L:List Int) (i:Nat) (a:Int),i<L.length->(L.set i a).sum=L.sum-L.getD i 0+a
 |[],i,a,h=>by simp at h
 |x::L,0,a,h=>by
  rw[List.set_cons_zero,List.sum_cons,List.sum_cons,List.getD_cons_zero];lia
 |x::L,i+1,a,h=>by
  rw[List.set_cons_succ,List.sum_cons,List.sum_cons,List.getD_cons_succ,sum_set L i a (by simpa using h)];lia
theorem tV{L:List Int}{i v:Int}(h:i.toNat<L.length):(iZ L i v).sum=L.sum+v:=by
 unfold iZ;rw[sum_set _ _ _ h];lia
theorem ig:∀{L:List Int},(∀x∈L,0<=x)->0<=L.sum/\∀x∈L,x<=L.sum
 |[],_=>⟨Int.le_refl _,fun x hx=>by cases hx⟩
 |y::L,h=>by
  obtain⟨h1,h2⟩:=ig (L:=L) fun x hx=>h x (.tail _ hx);have hy:=h y (.head _);rw[List.sum_cons];refine⟨Zz,fun x hx=>?_⟩;rcases zAo.mp hx with z|z
  .lia
  .have:=h2 x z;lia
theorem lw{L:List Int}(h:∀x∈L,0<=x)(i:Nat):0<=L.getD i 0:=by
 rw[zA7]
 cases e:L[i]? with
 |none=>exact Int.le_refl _
 |some y=>exact h y (zB6 e)
theorem wg{L:List Int}{i v:Int}(h:∀x∈L,0<=x)(hv:0<=L.getD i.toNat 0+v):∀x∈iZ L i v,0<=x:=by
 intro x hx;unfold iZ at hx;rcases List.mem_or_eq_of_mem_set hx with z|z
 .exact h x z
 .rw[z];exact hv
theorem Aa{ps ss:List (List Int)}(h:un ps ss=none):∀j,j<ss.length->du ps (ss.take j) (ss.getD j [])=true:=fun j hj=>by
 unfold un at h;have:=List.find?_eq_none.mp h j (List.mem_range.mpr hj);simpa using this
theorem Dh{ps ss:List (List Int)}{n:Nat}{y:Int}(hu:un ps ss=none)(h5:∀s∈ss,s.length=5)(op:okP (ps.getD n [])):
  ∀k,k<=ss.length->(∀x∈bj (ps.getD n []) (ss.take k) n y,0<=x)/\(bj (ps.getD n []) (ss.take k) n y).sum<=99:=by
 intro k;by_cases hy:fl (ps.getD n []) 2<=y/\y<=fl (ps.getD n []) 3
 .obtain⟨_,⟨a1,a2⟩,_,_,⟨e1,e2⟩,_⟩:=id op
  induction k with
  |zero=>
   intro _;rw[List.take_zero];unfold bj;rw[zAx hy];show(∀x∈base0 (ps.getD n []),0<=x)/\(base0 (ps.getD n [])).sum<=99;unfold base0;refine⟨fun x hx=>?_,?_⟩
   .rcases List.mem_or_eq_of_mem_set hx with z|z
    .rw[List.eq_of_mem_replicate z];exact Int.le_refl _
    .lia
   .rw[sum_set _ _ _ (by rw[List.length_replicate];lia)];have:(List.replicate 8 (0:Int)).sum=0:=rfl
    have e:(List.replicate 8 (0:Int)).getD (fl (ps.getD n []) 0).toNat 0=0:=by
     rw[zA7,List.getElem?_replicate,zAx Zz];rfl
    rw[this,e];lia
  |succ k ih=>
   intro hk;have cv:k<ss.length:=Zz
   obtain⟨i1,i2⟩:=ih Zz;have hB:=Aa hu k cv;rw[getD_get cv]at hB;have de:ss.take (k+1)=ss.take k++[ss[k]]:=by rw[zAj,zA0 cv];rfl
   have eh:bj (ps.getD n []) (ss.take (k+1)) n y=hstep n y (bj (ps.getD n []) (ss.take k) n y) ss[k]:=by
    unfold bj;rw[zAx hy,zAx hy,de,List.foldl_append];rfl
   have Ml:=jr (h5 _ (zAh cv)) hB;obtain⟨_,⟨b1,b2⟩,c1,c2⟩:=Ml;have hl:=dJ (ps.getD n []) (ss.take k) n y;rw[eh];unfold hstep;by_cases hc:fl ss[k] 0=n/\fl ss[k] 4<=y
   .rw[zAx hc];unfold du at hB;rw[zAc]at hB;obtain⟨DC,ko⟩:=hB
    have ep:mR ps ss[k]=ps.getD n []:=by
     unfold mR;rw[hc.1,zAi]
    have mx:fl ss[k] 3<=(bj (ps.getD n []) (ss.take k) n y).getD (fl ss[k] 1).toNat 0:=by
     have:=List.all_eq_true.mp ko y (by
      unfold years;refine zA5.mpr ⟨(y-fl ss[k] 4).toNat,List.mem_range.mpr ?_,?_⟩
      .rw[ep];lia
      .lia)
     have:=zB2 this;rw[ep,hc.1]at this;exact this
    unfold nY at DC;simp only[Bool.and_eq_true,Zp,Bool.not_eq_true',decide_eq_false_iff_not]at DC;obtain⟨_,_,_,DD,⟨v1,v2⟩,_⟩:=DC;generalize bj (ps.getD n []) (ss.take k) n y=L at i1 i2 hl mx;have n1:=wg (i:=fl ss[k] 1) (v:=-(fl ss[k] 3)) i1 Zz;refine⟨wg n1 ?_,?_⟩
    .have:=lw n1 (fl ss[k] 2).toNat;lia
    .rw[tV (by rw[gY];lia),tV Zz];lia
   .rw[zAw hc];exact⟨i1,i2⟩
 .intro _;unfold bj;rw[zAw hy];refine⟨fun x hx=>by rw[List.eq_of_mem_replicate hx];exact Int.le_refl _,by decide⟩
theorem Es{ps ss:List (List Int)}{sort year:Int}(hu:un ps ss=none)(h5:∀s∈ss,s.length=5)(okp:∀r∈ps,okP r):∀k,k<=ps.length->∀r∈eZ ps ss sort year k,r.length=4/\1<=fl r 3/\fl r 3<=99/\fl r 0=year/\0<=fl r 1/\fl r 1<k:=by
 intro k
 induction k with
 |zero=>intro _ r hr;cases hr
 |succ k ih=>
  intro hk r hr;rcases zA6.mp (show r∈eZ ps ss sort year k++dG ps ss sort year k from hr)with z|z
  .obtain⟨h1,h2,h3,h4,h6,h7⟩:=ih Zz r z;exact⟨h1,h2,h3,h4,h6,Zz⟩
  .unfold dG at z;split at z
   .obtain⟨q,hq,rfl⟩:=zA5.mp z;unfold cV at hq;obtain⟨h,hh,rfl⟩:=zA5.mp hq;have hp:=zB2 (zAq.mp hh).2;have cv:k<ps.length:=Zz
    obtain⟨a,b⟩:=Dh (n:=k) (y:=year) hu h5 (by rw[getD_get cv];exact okp _ (zAh cv)) ss.length (zA3 _);rw[zAm]at a b
    have le:(bj (ps.getD k []) ss k year).getD h 0<=99:=by
     rw[zA7]at hp⊢
     cases e:(bj (ps.getD k []) ss k year)[h]? with
     |none=>show(0:Int)<=99;decide
     |some y=>
      have:=(ig a).2 y (zB6 e);show y<=99;lia
    refine⟨rfl,?_,le,rfl,?_,?_⟩
    .show 1<=(bj (ps.getD k []) ss k year).getD h 0;lia
    .show(0:Int)<=(k:Int);lia
    .show(k:Int)<((k+1:Nat):Int);lia
   .cases z
end K23
namespace K23P
open PySem L2
theorem sum_set:∀{l:List Int} {i:Nat} {x:Int},i<l.length->(l.set i (l.getD i 0+x)).sum=l.sum+x
 |a::l,0,x,_=>by simp;lia
 |a::l,i+1,x,h=>by
  have:=sum_set (l:=l) (i:=i) (x:=x) (by simpa using h);simp only[List.set_cons_succ,List.sum_cons,List.getD_cons_succ];lia
theorem ph:∀(pl:List Nat) (l:List Int),(∀i∈pl,i<l.length)->(d9 l pl).sum=l.sum+pl.length
 |[],l,_=>by simp[d9]
 |i::pl,l,h=>by
  show(d9 (l.set i (l.getD i 0+1)) pl).sum=_;rw[ph pl _ fun j hj=>by rw[List.length_set];exact h j (.tail _ hj),sum_set (h i (.head _)),zAe];lia
theorem res_sum{n:Int}{ws:List Int}(ok:OkW ws):(res n ws).sum=n:=by
 have o:=(dD (rs n ws)).choose_spec;have hl:=o.len;rw[jN]at hl;have l0:=vY (n:=n) ok;have l1:=Er (n:=n) ok;unfold res;rw[ph _ _ fun i hi=>by rw[mV];have:=o.lt i (List.mem_of_mem_take hi);rw[jN]at this;exact this,zAd,Nat.min_eq_left Zz];have:lf n ws=n-(fs n ws).sum:=rfl;lia
end K23P
namespace K23
open PySem L2
theorem mX:∀{w:Int} {rs:List (List Int)},0<=w->(∀r∈rs,0<=fl r 3)->(∀x∈bU w rs,0<=x)/\0<=(bU w rs).sum/\(bU w rs).sum<=w
 |w,[],h,_=>⟨fun x hx=>(by cases hx),Int.le_refl _,h⟩
 |w,r::rs,h,hr=>by
  have h3:=hr r (.head _);unfold bU;by_cases hc:w<fl r 3
  .rw[zAx hc];obtain⟨a,b,c⟩:=mX (w:=w-w) (rs:=rs) Zz fun q hq=>hr q (.tail _ hq);refine⟨fun x hx=>?_,by rw[List.sum_cons];lia,by rw[List.sum_cons];lia⟩;rcases zAo.mp hx with z|z
   .lia
   .exact a x z
  .rw[zAw hc];obtain⟨a,b,c⟩:=mX (w:=w-fl r 3) (rs:=rs) Zz fun q hq=>hr q (.tail _ hq);refine⟨fun x hx=>?_,by rw[List.sum_cons];lia,by rw[List.sum_cons];lia⟩;rcases zAo.mp hx with z|z
   .lia
   .exact a x z
theorem qT:∀{rs:List (List Int)} {sh:List Int},sh.length=rs.length->(∀x∈sh,0<=x)->aP (bN (rs.zip sh))=sh.sum
 |[],[],_,_=>rfl
 |[],_::_,h,_=>by simp at h
 |_::_,[],h,_=>by simp at h
 |r::rs,x::sh,h,hn=>by
  have ih:=qT (rs:=rs) (sh:=sh) (by simpa using h) fun y hy=>hn y (.tail _ hy);have hx:=hn x (.head _);rw[List.zip_cons_cons,List.sum_cons,<-ih];unfold bN;by_cases hp:0<x
  .rw[zB9 (p:=fun(p:List Int×Int)=>decide (0<p.2)) (zAt hp),zAk];unfold aP wts;rw[zAk,List.sum_cons];rfl
  .rw[zBa (p:=fun(p:List Int×Int)=>decide (0<p.2)) (by rw[Zp];exact hp)];have:x=0:=Zz
   rw[this,Int.zero_add]
theorem qU{w:Int}{cl ow:List (List Int)}(hw:0<=w)(hc:∀r∈cl,r.length=4/\1<=fl r 3/\fl r 3<=99)(hz:cl.length<=80)(ho:∀r∈ow,0<=fl r 3):(∀x∈shr w cl ow,0<=x)/\0<=(shr w cl ow).sum/\(shr w cl ow).sum<=w:=by
 have hs:(∀x∈aV w cl,0<=x)/\(aV w cl).sum<=w:=by
  unfold aV;by_cases h:(wts cl).sum<=w
  .rw[zAx h];refine⟨fun x hx=>?_,h⟩;obtain⟨r,hr,rfl⟩:=zA5.mp hx;have:=(hc r hr).2.1;lia
  .rw[zAw h]
   have ok:K23P.OkW (wts cl):=by
    refine⟨?_,by unfold wts;rw[zA1];exact hz,fun x hx=>?_⟩
    .cases fT:cl with
     |nil=>
      rw[fT]at h;exact absurd hw h
     |cons r p9=>
      unfold wts;rw[zA1,zAe];lia
    .obtain⟨r,hr,rfl⟩:=zA5.mp hx;exact(hc r hr).2
   refine⟨fun x hx=>?_,by rw[K23P.res_sum ok];exact Int.le_refl _⟩;obtain⟨i,hi,e⟩:=List.getElem_of_mem hx;have hJ:i<(wts cl).length:=by rw[K23P.res_len]at hi;exact hi
   exact(K23P.res_get ok hw Zz (i:=i) (r:=x) (w:=(wts cl)[i]) (by rw[zA0 hi,e]) (zA0 hJ)).1
 obtain⟨h1,h2⟩:=hs;have h3:=(ig h1).1;obtain⟨m1,m2,m3⟩:=mX (w:=w-(aV w cl).sum) (rs:=ow) Zz ho;unfold shr;refine⟨fun x hx=>(zA6.mp hx).elim (h1 x) (m1 x),?_,?_⟩
 .rw[List.sum_append];lia
 .rw[List.sum_append];lia
theorem Di{w:Int}{cl ow:List (List Int)}(hw:0<=w)(hc:∀r∈cl,r.length=4/\1<=fl r 3/\fl r 3<=99)(hz:cl.length<=80)(ho:∀r∈ow,0<=fl r 3):aP (bN ((cl++ow).zip (shr w cl ow)))=(shr w cl ow).sum/\0<=w-aP (bN ((cl++ow).zip (shr w cl ow))):=by
 obtain⟨a,b,c⟩:=qU hw hc hz ho;have e:=qT (rs:=cl++ow) (sh:=shr w cl ow) (by unfold shr;rw[zA2,zA2,shares_len,gn]) a;exact⟨e,by rw[e];lia⟩
def rle(a b:List Int):Bool:=!HT.lexLt b a
theorem Ab(a b c:List Int)(h1:rle a b=true)(h2:rle b c=true):rle a c=true:=by
 unfold rle at *;rw[Bool.not_eq_true']at *
 cases h:HT.lexLt c a with
 |false=>rfl
 |true=>
  rcases vM c b a h with z|z
  .rw[z]at h2;cases h2
  .rw[z]at h1;cases h1
theorem wj(a b:List Int):(rle a b||rle b a)=true:=by
 unfold rle
 cases h:HT.lexLt b a with
 |false=>rfl
 |true=>
  cases h':HT.lexLt a b with
  |false=>rfl
  |true=>
   have:=qH a b a h' h;rw[kY]at this;cases this
def srt(rs:List (List Int)):List (List Int):=rs.mergeSort rle
theorem Ac{rs p9:List (List Int)}(pm:p9.Perm rs)(so:p9.Pairwise (fun a b=>HT.lexLt b a=false)):p9=srt rs:=by
 have Mm:p9.Pairwise (fun a b=>rle a b=true):=so.imp fun{a b} h=>by unfold rle;rw[h];rfl
 refine List.Perm.eq_of_pairwise (le:=fun a b=>rle a b=true) (fun a b _ _ h1 h2=>?_) Mm (List.pairwise_mergeSort Ab wj rs) (pm.trans (List.mergeSort_perm rs rle).symm);unfold rle at h1 h2;rw[Bool.not_eq_true']at h1 h2;exact kZ a b h2 h1
structure Yr where
 g:List (List Int)
 k:List (List Int)
 l:List Int
 d:Int
def aD(ps ow:List (List Int))(sort:Int):List (List Int):=ow.filter fun r=>decide (fl (ps.getD (fl r 1).toNat []) 1=sort)
def Iw(c:List Int)(ps ss ow:List (List Int))(y:Int)(a:Yr)(sort:Nat):Yr:=
 ⟨a.g++bN ((au ps ss sort y++aD ps ow sort).zip (shr (c.getD sort 0+a.d) (au ps ss sort y) (aD ps ow sort))),
  a.k++bJ ((au ps ss sort y++aD ps ow sort).zip (shr (c.getD sort 0+a.d) (au ps ss sort y) (aD ps ow sort))),
  a.l++[c.getD sort 0+a.d-aP (bN ((au ps ss sort y++aD ps ow sort).zip (shr (c.getD sort 0+a.d) (au ps ss sort y) (aD ps ow sort))))],
  c.getD sort 0+a.d-aP (bN ((au ps ss sort y++aD ps ow sort).zip (shr (c.getD sort 0+a.d) (au ps ss sort y) (aD ps ow sort))))⟩
def yTo(c:List Int)(ps ss ow:List (List Int))(y:Int):Nat->Yr
 |0=>⟨[],[],[],0⟩
 |n+1=>Iw c ps ss ow y (yTo c ps ss ow y n) n
def okO(ps:List (List Int))(r:List Int):Prop:=r.length=4/\0<=fl r 1/\fl r 1<ps.length/\1<=fl r 3
theorem ju{ps ow:List (List Int)}{sort:Int}(h:∀r∈ow,okO ps r):∀r∈aD ps ow sort,okO ps r:=fun r hr=>h r (zAq.mp hr).1
theorem iD(ps ow:List (List Int))(sort:Int):(aD ps ow sort).length<=ow.length:=List.length_filter_le _ _
theorem iG{ps ss:List (List Int)}{sort year:Int}(hu:un ps ss=none)(h5:∀s∈ss,s.length=5)(okp:∀r∈ps,okP r):∀r∈au ps ss sort year,r.length=4/\1<=fl r 3/\fl r 3<=99:=fun r hr=>by
 obtain⟨a,b,c,_⟩:=Es (sort:=sort) (year:=year) hu h5 okp ps.length (zA3 _) r hr;exact⟨a,b,c⟩
theorem bO{ps ss:List (List Int)}{sort year:Int}(h:ps.length<=10):(au ps ss sort year).length<=80:=by
 have:=jt ps ss sort year ps.length;unfold au;lia
theorem Dj{c:List Int}{ps ss ow:List (List Int)}{y:Int}(hc:∀x∈c,0<=x)(hu:un ps ss=none)(h5:∀s∈ss,s.length=5)(okp:∀r∈ps,okP r)(hl:ps.length<=10)(ho:∀r∈ow,okO ps r):∀n,0<=(yTo c ps ss ow y n).d
 |0=>Int.le_refl _
 |n+1=>by
  have ih:=Dj (y:=y) hc hu h5 okp hl ho n
  have hw:0<=c.getD n 0+(yTo c ps ss ow y n).d:=by
   have:=lw hc n;lia
  exact(Di hw (iG hu h5 okp) (bO hl) fun r hr=>by have:=(ju ho r hr).2.2.2;lia).2
theorem wk(P:List (List Int×Int)):(bN P).length<=P.length:=by
 unfold bN;rw[zA1];exact List.length_filter_le _ _
theorem mY(P:List (List Int×Int)):(bJ P).length<=P.length:=by
 unfold bJ;rw[zA1];exact List.length_filter_le _ _
theorem Ad{c:List Int}{ps ss ow:List (List Int)}{y:Int}(hl:ps.length<=10):∀n,(yTo c ps ss ow y n).g.length<=n*(80+ow.length)/\(yTo c ps ss ow y n).k.length<=n*(80+ow.length)/\(yTo c ps ss ow y n).l.length=n
 |0=>⟨zAp _,zAp _,rfl⟩
 |n+1=>by
  obtain⟨a,b,d⟩:=Ad (c:=c) (ss:=ss) (ow:=ow) (y:=y) hl n;have h1:=bO (ss:=ss) (sort:=n) (year:=y) hl;have h2:=iD ps ow n
  have hz:∀sh:List Int,((au ps ss n y++aD ps ow n).zip sh).length<=80+ow.length:=fun sh=>by
   rw[zAs,zA2];lia
  rw[Nat.succ_mul];refine⟨?_,?_,?_⟩
  .show((yTo c ps ss ow y n).g++bN _).length<=_;rw[zA2];have:=wk ((au ps ss n y++aD ps ow n).zip (shr (c.getD n 0+(yTo c ps ss ow y n).d) (au ps ss n y) (aD ps ow n)));have:=hz (shr (c.getD n 0+(yTo c ps ss ow y n).d) (au ps ss n y) (aD ps ow n));lia
  .show((yTo c ps ss ow y n).k++bJ _).length<=_;rw[zA2];have:=mY ((au ps ss n y++aD ps ow n).zip (shr (c.getD n 0+(yTo c ps ss ow y n).d) (au ps ss n y) (aD ps ow n)));have:=hz (shr (c.getD n 0+(yTo c ps ss ow y n).d) (au ps ss n y) (aD ps ow n));lia
  .show((yTo c ps ss ow y n).l++[_]).length=n+1;rw[zA2,d];rfl
theorem y_row{c:List Int}{ps ss ow:List (List Int)}{y:Int}:∀n,(∀r∈(yTo c ps ss ow y n).g,r.length=4)/\∀r∈(yTo c ps ss ow y n).k,r.length=4
 |0=>⟨fun r hr=>(by cases hr),fun r hr=>(by cases hr)⟩
 |n+1=>by
  obtain⟨a,b⟩:=y_row (c:=c) (ps:=ps) (ss:=ss) (ow:=ow) (y:=y) n;refine⟨fun r hr=>?_,fun r hr=>?_⟩
  .rcases zA6.mp (show r∈(yTo c ps ss ow y n).g++bN _ from hr)with z|z
   .exact a r z
   .obtain⟨p,_,rfl⟩:=zA5.mp z;rfl
  .rcases zA6.mp (show r∈(yTo c ps ss ow y n).k++bJ _ from hr)with z|z
   .exact b r z
   .obtain⟨p,_,rfl⟩:=zA5.mp z;rfl
def vInt:V->Int
 |.int i=>i
 |_=>0
def jP(H:Hp)(a:Addr):List Int:=match H a with
 |some (.tup xs)=>xs.map vInt
 |_=>[]
theorem Dk{H:Hp}{a:Addr}{r:List Int}(e:H a=some (.tup (r.map V.int))):jP H a=r:=by
 unfold jP;rw[e];show(r.map V.int).map vInt=r;rw[zAr];exact List.map_id _
theorem qW{H:Hp}:∀{xs:List V} {rs:List (List Int)},Els H xs rs->∃ads:List Addr,xs=ads.map V.ref/\rs=ads.map (jP H)/\∀a∈ads,H a=some (.tup ((jP H a).map V.int))
 |[],[],_=>⟨[],rfl,rfl,fun a ha=>(by cases ha)⟩
 |[],_::_,h=>by have:=h.1;simp at this
 |_::_,[],h=>by have:=h.1;simp at this
 |x::xs,r::rs,h=>by
  obtain⟨t,e1,e2⟩:=h.2 0 r rfl;rw[List.getElem?_cons_zero]at e1;cases e1
  obtain⟨ads,f1,f2,f3⟩:=qW (xs:=xs) (rs:=rs) ⟨by have:=h.1;simpa using this,fun i q e=>by
   obtain⟨u,g1,g2⟩:=h.2 (i+1) q (by rw[List.getElem?_cons_succ];exact e);rw[List.getElem?_cons_succ]at g1
   exact⟨u,g1,g2⟩⟩
  have er:=Dk e2;refine⟨t::ads,by rw[f1];rfl,by rw[f2,zAk,er,<-f2],fun a ha=>?_⟩;rcases zAo.mp ha with z|z
  .rw[z,er];exact e2
  .exact f3 a z
theorem Ae{H H':Hp}{l':List Addr}(h:∀a∈l',H' a=some (.tup ((jP H a).map V.int))):Els H' (l'.map V.ref) (l'.map (jP H)):=by
 refine⟨by rw[zA1,zA1],fun i r e=>?_⟩;rw[zAb]at e
 cases z:l'[i]? with
 |none=>rw[z]at e;cases e
 |some a=>
  rw[z]at e;cases e;exact⟨a,by rw[zAb,z];rfl,h a (zB6 z)⟩
inductive SpYearI(vs:List V)(H:Hp)(Q:VK):Prop
 |mk:∀bk y lo ac xc cs ap xp ps af xs ss xo ow,(vs=[.ref bk,.int y,.ref lo])->(H bk=some (.tup [.ref ac,.ref ap,.ref af]))->(RowsAt H ac xc cs)->((∀r∈cs,r.length=3/\∀x∈r,0<=x))->(0<=y)->(y<cs.length)->(RowsAt H ap xp ps)->(ps.length<=10)->((∀r∈ps,okP r))->(RowsAt H af xs ss)->(ss.length<=12)->((∀s∈ss,s.length=5))->(un ps ss=none)->(H lo=some (.lst xo))->(Els H xo ow)->((∀r∈ow,okO ps r))->(ow.length<=10000)->(∀t g k tl xg xk H',Same H H'->H' t=some (.tup [.ref g,.ref k,.ref tl])->H g=none->H k=none->(g≠sysModules/\k≠sysModules)->H' g=some (.lst xg)->Els H' xg (srt (yTo (cs.getD y.toNat []) ps ss ow y 3).g)->H' k=some (.lst xk)->Els H' xk (srt (yTo (cs.getD y.toNat []) ps ss ow y 3).k)->H' tl=some (.tup ((yTo (cs.getD y.toNat []) ps ss ow y 3).l.map V.int))->Q (.ref t) H')->SpYearI  vs H Q
def Af:Sp:=fun vs H Q _=>SpYearI  vs H Q
theorem wu{ps ss:List (List Int)}(h:un ps ss=none)(h5:∀s∈ss,s.length=5):∀s∈ss,okS s:=fun s hs=>by
 obtain⟨j,hj,e⟩:=List.getElem_of_mem hs;have:=Aa h j hj;rw[getD_get hj,e]at this;exact jr (h5 s hs) this
theorem Ag{D:Ends}{tb:TS}{σ:L2.St}{H:Hp}(R:Hp->Prop)(h:R H)(g:∀H,R H->tb D σ H):tb D σ H:=g H h
variable{P:Program}{w:World}{K:Frag}{mg:Str->Option Value}{base:Heap}{f:Addr}{fd:FuncData}
theorem boot_sorted:bootBuiltins "sorted"=some (.builtin "sorted"):=by decide +kernel
theorem ndZ:(["row","promises","sort"]:List Str).Nodup:=by decide +kernel
theorem scZ1:FnScope ["book","year","owed","clips","promises","sales","gifts","lacking","left","down","sort","wool","claims","ahead","given","lacked"] ["book","year","owed"] (aK (top 49)):=fQS
theorem Dl(F:Fun K "year_given" "year_given" (top 49) f fd)(T:Mg mg)(N:Nums mg)(Tr:mg "range"=none)(Ts:mg "sorted"=none)(c1:Cal P w K mg base 2 "claims_in" ["promises","sales","sort","year"] tU)(c2:Cal P w K mg base 8 "sort_given" ["wool","claims","owed"] zW)(c3:Cal P w K mg base 1 "sacks_of" ["rows"] vX):FnOk P w K mg base CX0 9 f fd ["book","year","owed"] Af:=by
 refine F.ok scZ1 (fun vs H Q E h=>?_) (fun ar A outer s H vs Q E hr h=>?_)
 .obtain⟨bk,y,lo,ac,xc,cs,ap,xp,ps,af,xs,ss,xo,ow,rfl,_⟩:=h;rfl
 .obtain⟨bk,y,lo,ac,xc,cs,ap,xp,ps,af,xs,ss,xo,ow,rfl,eb,rc,okc,y0,y1,rp,lp,okp,rs,ls,h5,hu,eo,gz,lS,Me,q⟩:=h;obtain⟨t3,e3⟩:=N.sorts
  refine K23P.ok_b (aY ⟨cH (pv 0) (bG rfl (aq (pgn 3 scZ1.nd) (aq (bH (i:=4) scZ1.nd rfl (Or.inr rfl)) (aq (pgn 5 scZ1.nd) aW))))⟩
   (aY (km 6 scZ1.nd (uH gD))
   (aY (km 7 scZ1.nd (uH gD))
   (aY (km 8 scZ1.nd (uH gD))
   (aY (km 9 scZ1.nd G3)
   (aY ⟨cD zB5 rfl (cY rfl Tr (az (bY (v:=.int 3) rfl e3 ⟨_,rfl⟩) ao)) (bH (i:=10) scZ1.nd rfl (Or.inr rfl))
    (vA (aY (km 11 scZ1.nd (Em bL (En bC (En bC ⟨pv 3⟩ ⟨pv 1⟩ (fun _ _=>rfl)) ⟨pv 10⟩ (fun _ _=>rfl)) ⟨pv 9⟩))
    (aY (km 12 scZ1.nd ⟨aJ c1 hr (az (pv 4) (az (pv 5) (az (pv 10) (az (pv 1) ao))))⟩)
    (aY ⟨iu (i:=13) ["row","promises","sort"] [none,some 4,some 10] rfl scZ1.nd rfl (Or.inl rfl) (eO (pv 2)) (fun C fp Zt s₂ H₂=>⟨pgn 0 ndZ,ir (bz gK (pX (K23P.ix_tupK (K:=K) rfl) (pX (K23P.ix_tupK (K:=K) rfl) (pv 1) (pX (K23P.ix_tupK (K:=K) rfl) (pv 0) aC)) aC) (pv 2) (bf _)),pv 0⟩) (fun C=>cI (cI trivial)) ⟨rfl,rfl,rfl,rfl⟩⟩
    (aY ⟨cH (aJ c2 hr (az (pv 11) (az (pv 12) (az (pv 13) ao)))) (bG rfl (aq (pgn 14 scZ1.nd) (aq (pgn 15 scZ1.nd) aW)))⟩
    (aY (km 9 scZ1.nd (Em fj ⟨pv 11⟩ ⟨aJ c3 hr (az (pv 14) ao)⟩))
    (aY ⟨lD (i:=6) scZ1.nd rfl (Or.inl rfl) (pv 14) qJ⟩
    (aY ⟨lD (i:=7) scZ1.nd rfl (Or.inl rfl) (pv 15) qJ⟩
    (fO ⟨cW (oG zBg zBf zBe fc (pv 8) (az (pv 9) ao))⟩)))))))))⟩
   (fO (yV (uG (jd ⟨aN fW rfl Ts boot_sorted (az (pv 6) ao)⟩ (jd ⟨aN fW rfl Ts boot_sorted (az (pv 7) ao)⟩ (jd ⟨dw cU rfl T.tuple boot_tuple (az (pv 8) ao)⟩ gD)))))))))))) ?_
  refine aH ?_;refine⟨_,rfl,bk,_,rfl,SqT.of eb,rfl,_,_,rfl,_,_,rfl,_,_,rfl,rfl,?_⟩;dsimp only;refine aH (aX ?_);refine⟨zL,fun lg DE=>?_⟩;refine aM ?_;dsimp only;refine aH (aX ?_);refine⟨zL,fun lk rq=>?_⟩;refine aM ?_;dsimp only;refine aH (aX ?_);refine⟨zL,fun ll fR=>?_⟩;refine aM ?_;dsimp only;refine aH (aX ?_);refine aM ?_;dsimp only;have s1:=Same.upd (o:=.lst []) DE;have s2:=Same.upd (o:=.lst []) rq;have s3:=Same.upd (o:=.lst []) fR;have Mn:H lg=none:=DE;have Mo:H lk=none:=s1.free rq;have Mp:H ll=none:=(s1.trans s2).free fR
  have IU:lg≠lk:=fun z=>by rw[<-z,aj]at rq;cases rq
  have IX:lk≠ll:=fun z=>by rw[<-z,aj]at fR;cases fR
  have IY:lg≠ll:=fun z=>by rw[<-z,s2 _ _ aj]at fR;cases fR
  refine Ag (fun H1=>Same H H1/\H1 lg=some (.lst [])/\H1 lk=some (.lst [])/\H1 ll=some (.lst [])) ⟨(s1.trans s2).trans s3,s3 _ _ (s2 _ _ aj),s3 _ _ aj,aj⟩ fun H1 ⟨k1,vx,Mq,el1⟩=>?_;clear s1 s2 s3 DE rq fR;have DF:y.toNat<cs.length:=Zz
  obtain⟨tc,w9,AH⟩:=dR rc y0 (show cs[y.toNat]?=some cs[y.toNat]from zA0 DF);have Mr:cs.getD y.toNat []=cs[y.toNat]:=getD_get DF;have qr:=okc _ (zAh DF);rw[Mr]at q;generalize cs[y.toNat]=c at q AH qr;have cw:=wu hu h5;refine aH ?_;refine⟨3,rfl,by decide,by decide,?_⟩;refine cT (lo:=0) (fun i σ Hc=>∃dQ gy mE mI mM mN xg xk,σ=[some (.ref bk),some (.int y),some (.ref lo),some (.ref ac),some (.ref ap),some (.ref af),some (.ref lg),some (.ref lk),some (.ref ll),some (.int (yTo c ps ss ow y i).d),dQ,gy,mE,mI,mM,mN]/\Same H Hc/\Hc lg=some (.lst xg)/\Els Hc xg (yTo c ps ss ow y i).g/\Hc lk=some (.lst xk)/\Els Hc xk (yTo c ps ss ow y i).k/\Hc ll=some (.lst ((yTo c ps ss ow y i).l.map V.int))) ?_ ?_ ?_
  .exact⟨none,none,none,none,none,none,[],[],rfl,k1,vx,Els.nil,Mq,Els.nil,el1⟩
  .rintro i σ Hc hi ⟨dQ,gy,mE,mI,mM,mN,xg,xk,rfl,k,eg,dP,ek,ku,el⟩;have hi:i<3:=hi;obtain⟨Q5,Q6,Ms⟩:=Ad (c:=c) (ss:=ss) (ow:=ow) (y:=y) lp i;refine aM ?_;have z0:(0:Int)+(i:Int)=i:=Zz
   rw[z0];refine zT fun De AI=>?_
   have Mt:(c.map V.int)[i]?=some (.int (c.getD i 0)):=by
    have cv:i<c.length:=Zz
    rw[zAb,zA7,zA0 cv];rfl
   refine aH (aX ?_);refine⟨_,rfl,_,rfl,ac,xc,y,.ref tc,rfl,rfl,SqT.of (k _ _ rc.e),w9,_,rfl,tc,_,i,.int (c.getD i 0),rfl,rfl,SqT.of (k _ _ AH),dN Mt,_,rfl,_,_,rfl,rfl,?_⟩;refine aM ?_;dsimp only;have dn:=Dj (c:=c) (y:=y) qr.2 hu h5 okp lp lS i;have cn:=lw qr.2 i;refine aH (aX ?_);refine⟨_,rfl,_,rfl,_,rfl,_,rfl,ap,xp,ps,af,xs,ss,i,y,rfl,rp.same k,lp,okp,rs.same k,ls,cw,fun lc Mu H2 s2 Q7 mS DH=>?_⟩;refine aM ?_;dsimp only;have k2:=k.trans s2;refine aH ?_;refine⟨_,rfl,lo,rfl,⟨_,SqL.of (k2 _ _ eo)⟩,gq ow.length (fun j ys σ Hj=>Same H2 Hj/\(∃o1,σ=[o1,some (.ref ap),some (.int i)])/\Els Hj ys (aD ps (ow.take j) i)) ⟨Same.refl _,⟨_,rfl⟩,Els.nil⟩ Zu ?_ ?_⟩
   .rintro j ys σ Hj hj hy ⟨sc,⟨o1,rfl⟩,hV⟩;have kj:=k2.trans sc;have iP:SqL K Hj lo xo:=SqL.of (kj _ _ eo);obtain⟨tr,ex,c6⟩:=gz.2 j ow[j] (zA0 hj);obtain⟨o4,o5,o6,o7⟩:=lS _ (zAh hj);have DI:=c6;rw[cM o4]at c6;obtain⟨p,hp,ep,op⟩:=eV okp o5 o6;obtain⟨tp,bP,bS⟩:=dR rp o5 hp;rw[dC op.1]at bS
    have de:aD ps (ow.take (j+1)) i=aD ps (ow.take j) i++(if fl p 1=i then[ow[j]]else[]):=by
     rw[zAj,zA0 hj];unfold aD;rw[show(some ow[j]).toList=[ow[j]]from rfl,List.filter_append];congr 1;by_cases h:fl p 1=i
     .rw[zAx h,zB9 (by rw[ep];exact zAt h)];rfl
     .rw[zAw h,zBa (by rw[ep,Zp];exact h)];rfl
    refine⟨⟨_,_,iP,ex⟩,fun x H' yv R hR=>?_⟩;obtain⟨rfl,yv⟩:=yv;have yv:=yv _ iP;rw[ex]at yv;cases yv;refine aM ?_;refine⟨_,rfl,_,rfl,tr,_,1,.int (fl ow[j] 1),rfl,rfl,SqT.of (kj _ _ c6),rfl,ap,xp,_,.ref tp,rfl,rfl,SqT.of (kj _ _ rp.e),bP,tp,_,1,.int (fl p 1),rfl,rfl,SqT.of (kj _ _ bS),rfl,_,rfl,rfl,_,rfl,?_⟩;by_cases h:fl p 1=i
    .rw[zAt (by rw[h])];refine bI ⟨_,rfl,hR _ _ _ (by rw[zA2];show ys.length+1<=j+1;lia) ⟨sc,⟨_,rfl⟩,?_⟩⟩;rw[de,zAx h];exact hV.app (Els.one (kj _ _ DI))
    .rw[zB1 (fun z=>h (by injection z))];refine bw (hR _ _ _ Zz ⟨sc,⟨_,rfl⟩,?_⟩);rw[de,zAw h,zAn];exact hV
   rintro ya σ Hj hy ⟨sc,_,mP⟩;rw[zAm]at mP;refine⟨⟨_,SqL.of (sc _ _ (k2 _ _ eo)),by rw[gz.1];exact zA3 _⟩,fun la AF=>?_⟩;have sa:=sc.updR (o:=.lst ya) AF;have IZ:=aj (H:=Hj) (a:=la) (o:=.lst ya);have mP:=mP.same (Same.upd (o:=.lst ya) AF);generalize upd Hj la (.lst ya)=H3 at sa IZ mP⊢;have k3:=k2.trans sa;have sH:=s2.trans sa;dsimp only;have mT:=iG (sort:=i) (year:=y) hu h5 okp;have wb:=bO (ss:=ss) (sort:=i) (year:=y) lp;have Mv:=ju (sort:=i) lS;have Q8:=iD ps ow i;refine aH ?_;refine⟨_,rfl,_,rfl,_,rfl,c.getD i 0+(yTo c ps ss ow y i).d,lc,Mu,au ps ss i y,la,ya,aD ps ow i,rfl,sa _ _ mS,DH.same sa,mT,wb,Zz,IZ,mP,fun r hr=>(Mv r hr).1,Zz,fun t g kk js lT H4 s4 et ng nk Jn l7 Mw qv=>⟨t,_,rfl,SqT.of et,rfl,_,_,rfl,_,_,rfl,rfl,?_⟩⟩;have k4:=k3.trans s4;have Mx:=sH.trans s4;have gl:=wk ((au ps ss i y++aD ps ow i).zip (shr (c.getD i 0+(yTo c ps ss ow y i).d) (au ps ss i y) (aD ps ow i)));have kl:=mY ((au ps ss i y++aD ps ow i).zip (shr (c.getD i 0+(yTo c ps ss ow y i).d) (au ps ss i y) (aD ps ow i)))
   have zl:((au ps ss i y++aD ps ow i).zip (shr (c.getD i 0+(yTo c ps ss ow y i).d) (au ps ss i y) (aD ps ow i))).length<=80+ow.length:=by
    rw[zAs,zA2];lia
   have e1:(yTo c ps ss ow y (i+1)).g=(yTo c ps ss ow y i).g++bN ((au ps ss i y++aD ps ow i).zip (shr (c.getD i 0+(yTo c ps ss ow y i).d) (au ps ss i y) (aD ps ow i))):=rfl;have e2:(yTo c ps ss ow y (i+1)).k=(yTo c ps ss ow y i).k++bJ ((au ps ss i y++aD ps ow i).zip (shr (c.getD i 0+(yTo c ps ss ow y i).d) (au ps ss i y) (aD ps ow i))):=rfl;have e3:(yTo c ps ss ow y (i+1)).l=(yTo c ps ss ow y i).l++[c.getD i 0+(yTo c ps ss ow y i).d-aP (bN ((au ps ss i y++aD ps ow i).zip (shr (c.getD i 0+(yTo c ps ss ow y i).d) (au ps ss i y) (aD ps ow i))))]:=rfl;have e4:(yTo c ps ss ow y (i+1)).d=c.getD i 0+(yTo c ps ss ow y i).d-aP (bN ((au ps ss i y++aD ps ow i).zip (shr (c.getD i 0+(yTo c ps ss ow y i).d) (au ps ss i y) (aD ps ow i)))):=rfl
   have g4:∀r∈bN ((au ps ss i y++aD ps ow i).zip (shr (c.getD i 0+(yTo c ps ss ow y i).d) (au ps ss i y) (aD ps ow i))),r.length=4:=fun r hr=>by
    obtain⟨p,_,rfl⟩:=zA5.mp hr;rfl
   rw[e1,e2,e3,e4]at AI;generalize bN ((au ps ss i y++aD ps ow i).zip (shr (c.getD i 0+(yTo c ps ss ow y i).d) (au ps ss i y) (aD ps ow i)))=GG at l7 g4 gl AI⊢;generalize bJ ((au ps ss i y++aD ps ow i).zip (shr (c.getD i 0+(yTo c ps ss ow y i).d) (au ps ss i y) (aD ps ow i)))=KK at qv kl AI⊢;dsimp only;refine aH (aX ?_);refine⟨_,rfl,_,rfl,g,js,GG,rfl,Jn,l7,g4,Zz,fun H5 s5=>⟨_,_,rfl,rfl,?_⟩⟩;refine aM ?_;dsimp only;have k5:=k4.trans s5;have xb:=Mx.trans s5;have Q9:g≠lg:=(aG (sH _ _ eg) ng).symm;have My:kk≠lg:=(aG (sH _ _ eg) nk).symm;have JA:=xb _ _ eg;have Mz:=xb _ _ ek;have el5:=xb _ _ el;refine aH ?_;refine⟨_,rfl,_,rfl,lg,g,xg,js,rfl,rfl,JA,s5 _ _ Jn,by rw[dP.1,l7.1,sizeLine_eq];have:i*(80+ow.length)<=3*(80+ow.length):=Nat.mul_le_mul_right _ Zz;lia,?_⟩;dsimp only
   have DJ:∀b z,H5 b=some (.tup z)->upd H5 lg (.lst (xg++js)) b=some (.tup z):=fun b z e=>by
    rw[aA fun w=>by rw[w,JA]at e;cases e];exact e
   have k6:Same H (upd H5 lg (.lst (xg++js))):=fun b o e=>by
    rw[aA (aG e Mn)];exact k5 _ _ e
   have JE:=aj (H:=H5) (a:=lg) (o:=.lst (xg++js));have xh:=((dP.same xb).app (l7.same s5)).keep DJ;have DL:upd H5 lg (.lst (xg++js)) lk=some (.lst xk):=by rw[aA IU.symm];exact Mz
   have xi:upd H5 lg (.lst (xg++js)) kk=some (.lst lT):=by rw[aA My];exact s5 _ _ Mw
   have JI:upd H5 lg (.lst (xg++js)) ll=some (.lst ((yTo c ps ss ow y i).l.map V.int)):=by rw[aA IY.symm];exact el5
   have xt:=(ku.same xb).keep DJ;have nc:=(qv.same s5).keep DJ;generalize upd H5 lg (.lst (xg++js))=H6 at k6 JE xh DL xi JI xt nc⊢;refine aH ?_;refine⟨_,rfl,_,rfl,lk,kk,xk,lT,rfl,rfl,DL,xi,by rw[ku.1,qv.1,sizeLine_eq];have:i*(80+ow.length)<=3*(80+ow.length):=Nat.mul_le_mul_right _ Zz;lia,?_⟩;dsimp only
   have JJ:∀b z,H6 b=some (.tup z)->upd H6 lk (.lst (xk++lT)) b=some (.tup z):=fun b z e=>by
    rw[aA fun w=>by rw[w,DL]at e;cases e];exact e
   have k7:Same H (upd H6 lk (.lst (xk++lT))):=fun b o e=>by
    rw[aA (aG e Mo)];exact k6 _ _ e
   have JO:upd H6 lk (.lst (xk++lT)) lg=some (.lst (xg++js)):=by rw[aA IU];exact JE
   have xw:=xh.keep JJ;have JU:=aj (H:=H6) (a:=lk) (o:=.lst (xk++lT));have xy:=(xt.app nc).keep JJ;have AJ:upd H6 lk (.lst (xk++lT)) ll=some (.lst ((yTo c ps ss ow y i).l.map V.int)):=by rw[aA IX.symm];exact JI
   generalize upd H6 lk (.lst (xk++lT))=H7 at k7 JO xw JU xy AJ⊢;refine⟨_,rfl,.inl ⟨rfl,_,SqL.of AJ⟩,_,rfl,ll,_,_,rfl,rfl,AJ,by rw[zA1,Ms,sizeLine_eq];lia,?_⟩
   have JX:∀{o:HO} b z,H7 b=some (.tup z)->upd H7 ll o b=some (.tup z):=fun b z e=>by
    rw[aA fun w=>by rw[w,AJ]at e;cases e];exact e
   refine AI _ _ ⟨_,_,_,_,_,_,xg++js,xk++lT,rfl,fun b o e=>?_,?_,xw.keep JX,?_,xy.keep JX,?_⟩
   .rw[aA (aG e Mp)];exact k7 _ _ e
   .rw[aA IY];exact JO
   .rw[aA IX];exact JU
   .rw[aj,zA4];rfl
  .rintro σ Hc ⟨dQ,gy,mE,mI,mM,mN,xg,xk,rfl,k,eg,dP,ek,ku,el⟩;obtain⟨MA,MB⟩:=y_row (c:=c) (ps:=ps) (ss:=ss) (ow:=ow) (y:=y) 3;have q:∀t g k tl xg xk H',Same H H'->H' t=some (.tup [.ref g,.ref k,.ref tl])->H g=none->H k=none->(g≠sysModules/\k≠sysModules)->H' g=some (.lst xg)->Els H' xg (srt (yTo c ps ss ow y 3).g)->H' k=some (.lst xk)->Els H' xk (srt (yTo c ps ss ow y 3).k)->H' tl=some (.tup ((yTo c ps ss ow y 3).l.map V.int))->Q (.ref t) H':=q;have dP:Els Hc xg (yTo c ps ss ow y 3).g:=dP;have ku:Els Hc xk (yTo c ps ss ow y 3).k:=ku;have el:Hc ll=some (.lst ((yTo c ps ss ow y 3).l.map V.int)):=el;obtain⟨ag,MC,JY,JZ⟩:=qW dP;obtain⟨ak,MD,rl,Ka⟩:=qW ku;subst MC MD;dsimp only
   have nn:∀{rs:List (List Int)} {ads:List Addr},rs=ads.map (jP Hc)->(∀r∈rs,r.length=4)->∀a∈ads,jP Hc a≠[]:=fun{rs ads} h h4 a ha z=>by
    have:=h4 (jP Hc a) (by rw[h];exact List.mem_map_of_mem ha);rw[z]at this;cases this
   refine⟨_,rfl,lg,ag,jP Hc,rfl,SqL.of eg,fun a ha=>⟨SqT.of (JZ a ha),nn JY MA a ha⟩,fun g l1 hg xA Kb DM=>?_⟩;have sg:=Same.upd (o:=.lst (l1.map V.ref)) hg;refine⟨_,rfl,lk,ak,jP Hc,rfl,SqL.of (sg _ _ ek),fun a ha=>⟨SqT.of (sg _ _ (Ka a ha)),nn rl MB a ha⟩,fun kk l2 hk ME Kc DO=>?_⟩;have sk:=sg.updR (o:=.lst (l2.map V.ref)) hk;refine⟨_,rfl,ll,_,rfl,.inl ⟨SqL.of (sk _ _ el),fun tl Kd=>?_⟩⟩;have sl:=sk.updR (o:=.tup ((yTo c ps ss ow y 3).l.map V.int)) Kd;refine⟨zL,fun t ht=>?_⟩;have st:=sl.updR (o:=.tup [.ref g,.ref kk,.ref tl]) ht;have u1:=Same.upd (o:=.lst (l2.map V.ref)) hk;have u2:=Same.upd (o:=.tup ((yTo c ps ss ow y 3).l.map V.int)) Kd;have u3:=Same.upd (o:=.tup [.ref g,.ref kk,.ref tl]) ht;have MF:l1.map (jP Hc)=srt (yTo c ps ss ow y 3).g:=Ac (by rw[JY];exact Kb.map _) (List.pairwise_map.mpr DM);have MG:l2.map (jP Hc)=srt (yTo c ps ss ow y 3).k:=Ac (by rw[rl];exact Kc.map _) (List.pairwise_map.mpr DO);refine q t g kk tl _ _ _ (k.trans st) aj (k.free hg) (k.free (sg.free hk)) ⟨xA,ME⟩ (u3 _ _ (u2 _ _ (u1 _ _ aj))) ?_ (u3 _ _ (u2 _ _ aj)) ?_ (u3 _ _ aj)
   .rw[<-MF];exact Ae fun a ha=>st _ _ (JZ a (Kb.mem_iff.mp ha))
   .rw[<-MG];exact Ae fun a ha=>st _ _ (Ka a (Kc.mem_iff.mp ha))
def cnt(ps ow:List (List Int)):Nat->Nat
 |0=>0
 |n+1=>cnt ps ow n+(aD ps ow n).length
theorem cnt_nil(ps:List (List Int)):∀n,cnt ps [] n=0
 |0=>rfl
 |n+1=>by
  unfold cnt;rw[cnt_nil ps n];rfl
theorem cnt_cons(ps ow:List (List Int))(r:List Int):∀n,cnt ps (r::ow) n=cnt ps ow n+(if 0<=fl (ps.getD (fl r 1).toNat []) 1/\fl (ps.getD (fl r 1).toNat []) 1<n then 1 else 0)
 |0=>by
  rw[zAw Zz];rfl
 |n+1=>by
  show cnt ps (r::ow) n+(aD ps (r::ow) n).length=cnt ps ow n+(aD ps ow n).length+_;rw[cnt_cons ps ow r n];unfold aD;by_cases h:fl (ps.getD (fl r 1).toNat []) 1=n
  .rw[zB9 (p:=fun(r:List Int)=>decide (fl (ps.getD (fl r 1).toNat []) 1=(n:Int))) (zAt h),zAe,zAw Zz,zAx Zz];lia
  .rw[zBa (p:=fun(r:List Int)=>decide (fl (ps.getD (fl r 1).toNat []) 1=(n:Int))) (by rw[Zp];exact h)];by_cases h2:0<=fl (ps.getD (fl r 1).toNat []) 1/\fl (ps.getD (fl r 1).toNat []) 1<n
   .rw[zAx h2,zAx Zz];lia
   .rw[zAw h2,zAw Zz];lia
theorem Ah(ps:List (List Int))(n:Nat):∀ow:List (List Int),cnt ps ow n<=ow.length
 |[]=>by rw[cnt_nil];exact zA3 _
 |r::ow=>by
  rw[cnt_cons,zAe];have:=Ah ps n ow;split<;>lia
theorem Et{c:List Int}{ps ss ow:List (List Int)}{y:Int}(hl:ps.length<=10):∀n,(yTo c ps ss ow y n).k.length<=80*n+cnt ps ow n
 |0=>zAp _
 |n+1=>by
  have a:=Et (c:=c) (ss:=ss) (ow:=ow) (y:=y) hl n;have h1:=bO (ss:=ss) (sort:=n) (year:=y) hl;have h3:=mY ((au ps ss n y++aD ps ow n).zip (shr (c.getD n 0+(yTo c ps ss ow y n).d) (au ps ss n y) (aD ps ow n)));show((yTo c ps ss ow y n).k++bJ _).length<=80*(n+1)+(cnt ps ow n+(aD ps ow n).length);rw[zA2];rw[zAs,zA2]at h3;lia
theorem Iz{c:List Int}{ps ss ow:List (List Int)}{y:Int}(hu:un ps ss=none)(h5:∀s∈ss,s.length=5)(okp:∀r∈ps,okP r)(ho:∀r∈ow,okO ps r):∀n,∀r∈(yTo c ps ss ow y n).k,okO ps r
 |0,r,hr=>by cases hr
 |n+1,r,hr=>by
  rcases zA6.mp (show r∈(yTo c ps ss ow y n).k++bJ _ from hr)with z|z
  .exact Iz (c:=c) (y:=y) hu h5 okp ho n r z
  .obtain⟨p,hp,rfl⟩:=zA5.mp z;obtain⟨h1,h2⟩:=zAq.mp hp;have h2:=zB2 h2;have hm:p.1∈au ps ss n y++aD ps ow n:=(List.of_mem_zip (show(p.1,p.2)∈_ from h1)).1
   have hn:0<=fl p.1 1/\fl p.1 1<ps.length:=by
    rcases zA6.mp hm with w|w
    .obtain⟨_,_,_,_,a,b⟩:=Es (sort:=n) (year:=y) hu h5 okp ps.length (zA3 _) p.1 w;exact⟨a,b⟩
    .have:=ju ho p.1 w;exact⟨this.2.1,this.2.2.1⟩
   refine⟨rfl,hn.1,hn.2,?_⟩;show 1<=fl p.1 3-p.2;lia
def cR(cs ps ss:List (List Int)):Nat->List (List Int)
 |0=>[]
 |n+1=>srt (yTo (cs.getD n []) ps ss (cR cs ps ss n) n 3).k
theorem jw{cs ps ss:List (List Int)}(hl:ps.length<=10)(hu:un ps ss=none)(h5:∀s∈ss,s.length=5)(okp:∀r∈ps,okP r):∀n,(∀r∈cR cs ps ss n,okO ps r)/\(cR cs ps ss n).length<=240*n
 |0=>⟨fun r hr=>(by cases hr),zA3 _⟩
 |n+1=>by
  obtain⟨a,b⟩:=jw (cs:=cs) hl hu h5 okp n;have pm:=List.mergeSort_perm (yTo (cs.getD n []) ps ss (cR cs ps ss n) n 3).k rle;refine⟨fun r hr=>Iz (c:=cs.getD n []) (y:=n) hu h5 okp a 3 r (pm.mem_iff.mp hr),?_⟩;show(srt (yTo (cs.getD n []) ps ss (cR cs ps ss n) n 3).k).length<=_;unfold srt;rw[pm.length_eq];have:=Et (c:=cs.getD n []) (ss:=ss) (ow:=cR cs ps ss n) (y:=n) hl 3;have:=Ah ps 3 (cR cs ps ss n);lia
def d8(ps:List (List Int))(r:List Int):Int:=fl (ps.getD (fl r 1).toNat []) 1
def keyOf(r:List Int):List Int:=[fl r 0,fl r 1,fl r 2]
theorem wy(a b:List (List Int×Int)):bN (a++b)=bN a++bN b:=by
 unfold bN;rw[List.filter_append,zA4]
theorem Ai(a b:List (List Int×Int)):bJ (a++b)=bJ a++bJ b:=by
 unfold bJ;rw[List.filter_append,zA4]
theorem Gi(rs:List (List Int)):(srt rs).Pairwise (fun a b=>HT.lexLt b a=false):=(List.pairwise_mergeSort Ab wj rs).imp fun{a b} h=>by
 unfold rle at h;rw[Bool.not_eq_true']at h;exact h
theorem dZ(rs:List (List Int)):(srt rs).Perm rs:=List.mergeSort_perm rs rle
theorem Dm{a b:List Int}(ha:a.length=4)(hb:b.length=4)(h:HT.lexLt b a=false):HT.lexLt (keyOf b) (keyOf a)=false:=by
 rw[cM ha,cM hb]at h;unfold keyOf;simp only[HT.lexLt_cons]at h⊢;split at h
 .split at h
  .split at h
   .rw[zAx (by assumption),zAx (by assumption),zAx (by assumption)];rfl
   .rw[zAx (by assumption),zAx (by assumption),zAw (by assumption)];exact h
  .rw[zAx (by assumption),zAw (by assumption)];exact h
 .rw[zAw (by assumption)];exact h
theorem mZ{ps ss:List (List Int)}{sort year:Int}:∀{k:Nat} {r:List Int},r∈eZ ps ss sort year k->∃(j h:Nat) (x:Int),j<k/\h<8/\fl (ps.getD j []) 1=sort/\r=[year,j,h,x]
 |0,r,hr=>by cases hr
 |k+1,r,hr=>by
  rcases zA6.mp (show r∈eZ ps ss sort year k++dG ps ss sort year k from hr)with z|z
  .obtain⟨j,h,x,a,b⟩:=mZ z;exact⟨j,h,x,Zz,b⟩
  .unfold dG at z;split at z
   .rename_i hs
    obtain⟨q,hq,rfl⟩:=zA5.mp z;unfold cV at hq;obtain⟨h,hh,rfl⟩:=zA5.mp hq;have:=List.mem_range.mp (zAq.mp hh).1;exact⟨k,h,_,Zz,this,hs,rfl⟩
   .cases z
theorem wz{ps ss:List (List Int)}{sort year:Int}:∀k,((eZ ps ss sort year k).map keyOf).Nodup
 |0=>List.nodup_nil
 |k+1=>by
  show((eZ ps ss sort year k++dG ps ss sort year k).map keyOf).Nodup;rw[zA4,List.nodup_append];refine⟨wz k,?_,fun a ha b hb e=>?_⟩
  .unfold dG;split
   .unfold cV;rw[zAr,zAr];refine List.Pairwise.map _ (R:=fun a b=>a≠b) (fun a b h e=>h ?_) (List.nodup_range.filter _);have e:[year,(k:Int),(a:Int)]=[year,(k:Int),(b:Int)]:=e;injection e with _ e;injection e with _ e;injection e with e;lia
   .exact List.nodup_nil
  .subst e;obtain⟨r,hr,e1⟩:=zA5.mp ha;obtain⟨j,h,x,a1,a2,a3,rfl⟩:=mZ hr;obtain⟨r',fT,e2⟩:=zA5.mp hb;unfold dG at fT;split at fT
   .obtain⟨q,hq,rfl⟩:=zA5.mp fT;rw[<-e1]at e2;have e2:[year,(k:Int),_]=[year,(j:Int),(h:Int)]:=e2;injection e2 with _ e2;injection e2 with e2;lia
   .cases fT
theorem dF{ps ss:List (List Int)}{sort year:Int}{r:List Int}(hr:r∈au ps ss sort year):fl r 0=year/\d8 ps r=sort/\0<=fl r 1/\fl r 1<ps.length/\0<=fl r 2/\fl r 2<8:=by
 obtain⟨j,h,x,a1,a2,a3,rfl⟩:=mZ hr;refine⟨rfl,?_,?_,?_,?_,?_⟩
 .show fl (ps.getD ((j:Int)).toNat []) 1=sort;rw[zAi];exact a3
 .show(0:Int)<=j;lia
 .show(j:Int)<ps.length;lia
 .show(0:Int)<=h;lia
 .show(h:Int)<8;lia
theorem yh{ps:List (List Int)}{Z:List (List Int×Int)}{n:Int}(h:∀p∈Z,d8 ps p.1=n):∀r∈bJ Z,d8 ps r=n:=fun r hr=>by
 obtain⟨p,hp,rfl⟩:=zA5.mp hr;exact h p (zAq.mp hp).1
theorem Dn{ps ow:List (List Int)}{n:Int}:∀r∈aD ps ow n,d8 ps r=n:=fun r hr=>zB2 (zAq.mp hr).2
theorem IK{w:Int}{cl:List (List Int)}(hw:0<=w)(hc:∀r∈cl,r.length=4/\1<=fl r 3/\fl r 3<=99)(hz:cl.length<=80):∀p∈cl.zip (aV w cl),p.2<=fl p.1 3:=fun p hp=>by
 obtain⟨i,hi⟩:=List.mem_iff_getElem?.mp hp;obtain⟨h1,h2⟩:=List.getElem?_zip_eq_some.mp hi;have e3:(wts cl)[i]?=some (fl p.1 3):=by unfold wts;rw[zAb,h1];rfl
 unfold aV at h2;split at h2
 .rw[e3]at h2;rw[<-zAl h2];exact Int.le_refl _
 .rename_i hs
  have ok:K23P.OkW (wts cl):=by
   refine⟨?_,?_,fun x hx=>?_⟩
   .have:=(zAa.mp e3).1;lia
   .unfold wts;rw[zA1];exact hz
   .obtain⟨r,hr,rfl⟩:=zA5.mp hx;exact(hc r hr).2
  exact(K23P.res_get ok hw Zz h2 e3).2
def cO(cs ps ss:List (List Int))(j:Nat):Yr:=yTo (cs.getD j []) ps ss (cR cs ps ss j) j 3
def YAt(H0:Hp)(l:Addr)(cs ps ss:List (List Int))(H:Hp)(a:Addr)(j:Nat):Prop:=∃g k tl xg xk,H a=some (.tup [.ref g,.ref k,.ref tl])/\H0 g=none/\H0 k=none/\g≠l/\k≠l/\H g=some (.lst xg)/\Els H xg (srt (cO cs ps ss j).g)/\H k=some (.lst xk)/\Els H xk (cR cs ps ss (j+1))/\H tl=some (.tup ((cO cs ps ss j).l.map V.int))/\(g≠sysModules/\k≠sysModules)
theorem YAt.keep{H0 H H':Hp}{l a:Addr}{cs ps ss:List (List Int)}{j:Nat}(h:YAt H0 l cs ps ss H a j)(k:∀b o,b≠l->H b=some o->H' b=some o)(hl:∃xs,H l=some (.lst xs)):YAt H0 l cs ps ss H' a j:=by
 obtain⟨xs,hl⟩:=hl;obtain⟨g,kk,tl,xg,xk,e1,n1,n2,d1,d2,e2,e3,e4,e5,e6,e7⟩:=h
 have nt:∀b z,H b=some (.tup z)->b≠l:=fun b z e w=>by rw[w,hl]at e;cases e
 exact⟨g,kk,tl,xg,xk,k _ _ (nt _ _ e1) e1,n1,n2,d1,d2,k _ _ d1 e2,e3.keep fun b z e=>k _ _ (nt _ _ e) e,k _ _ d2 e4,e5.keep fun b z e=>k _ _ (nt _ _ e) e,k _ _ (nt _ _ e6) e6,e7⟩
inductive SpYearsI(vs:List V)(H:Hp)(Q:VK):Prop
 |mk:∀bk y ac xc cs ap xp ps af xs ss,(vs=[.ref bk,.int y])->(H bk=some (.tup [.ref ac,.ref ap,.ref af]))->(RowsAt H ac xc cs)->((∀r∈cs,r.length=3/\∀x∈r,0<=x))->(cs.length<=20)->(0<=y)->(y<cs.length)->(RowsAt H ap xp ps)->(ps.length<=10)->((∀r∈ps,okP r))->(RowsAt H af xs ss)->(ss.length<=12)->((∀s∈ss,s.length=5))->(un ps ss=none)->(∀l (ts:List Addr) H',Same H H'->H l=none->H' l=some (.lst (ts.map V.ref))->(ts.length:Int)=y+1->(∀j a,ts[j]?=some a->YAt H l cs ps ss H' a j)->Q (.ref l) H')->SpYearsI  vs H Q
def lz:Sp:=fun vs H Q _=>SpYearsI  vs H Q
theorem scYB:FnScope ["book","year","years","owed","at","gifts","left"] ["book","year"] (aK (top 50)):=fQS
theorem Aj(F:Fun K "years_given" "years_given" (top 50) f fd)(Tr:mg "range"=none)(c1:Cal P w K mg base 9 "year_given" ["book","year","owed"] Af):FnOk P w K mg base CX0 10 f fd ["book","year"] lz:=by
 refine F.ok scYB (fun vs H Q E h=>?_) (fun ar A outer s H vs Q E hr h=>?_)
 .obtain⟨bk,y,ac,xc,cs,ap,xp,ps,af,xs,ss,rfl,_⟩:=h;rfl
 .obtain⟨bk,y,ac,xc,cs,ap,xp,ps,af,xs,ss,rfl,eb,rc,okc,lc,y0,y1,rp,lp,okp,rs,ls,h5,hu,q⟩:=h
  refine⟨_,aB (pss 2 scYB.nd (cJ ao))
   (aB (pss 3 scYB.nd (cJ ao))
   (aB (cD zB5 rfl (cY rfl Tr (az (aU bL (pv 1) aC) ao)) (pgn 4 scYB.nd)
    (aB (cH (aJ c1 hr (az (pv 0) (az (pv 4) (az (pv 3) ao)))) (bG rfl (aq (pgn 5 scYB.nd) (aq (pgn 3 scYB.nd) (aq (pgn 6 scYB.nd) aW)))))
    (aF (cW (oG zBg zBf zBe fc (pv 2) (az (cz (az (pv 5) (az (pv 3) (az (pv 6) ao)))) ao))))))
   (aF (aO (pv 2))))),?_⟩
  refine aH (aX ?_);refine⟨zL,fun l hl=>?_⟩;refine aM ?_;dsimp only;refine aH (aX ?_);refine⟨zL,fun DS c9=>?_⟩;refine aM ?_;dsimp only;have s1:=Same.upd (o:=.lst []) hl;have s2:=Same.upd (o:=.lst []) c9
  have MJ:DS≠l:=fun z=>by rw[z,aj]at c9;cases c9
  refine Ag (fun H1=>Same H H1/\H1 l=some (.lst [])/\H1 DS=some (.lst [])) ⟨s1.trans s2,s2 _ _ aj,aj⟩ fun H1 ⟨k1,el1,MK⟩=>?_;refine aH ?_;refine⟨_,rfl,_,_,rfl,rfl,y+1,rfl,Zz,Zz,?_⟩;refine cT (lo:=0) (fun i σ Hc=>∃x4 x5 x6 lo xo,∃ts:List Addr,σ=[some (.ref bk),some (.int y),some (.ref l),some (.ref lo),x4,x5,x6]/\Same H Hc/\Hc l=some (.lst (ts.map V.ref))/\ts.length=i/\(∀j a,ts[j]?=some a->YAt H l cs ps ss Hc a j)/\lo≠l/\Hc lo=some (.lst xo)/\Els Hc xo (cR cs ps ss i)) ?_ ?_ ?_
  .exact⟨none,none,none,DS,[],[],rfl,k1,el1,rfl,fun j a e=>(by simp at e),MJ,MK,Els.nil⟩
  .rintro i σ Hc hi ⟨x4,x5,x6,lo,xo,ts,rfl,k,el,lt,hy,dl,eo,gz⟩;obtain⟨lS,ML⟩:=jw (cs:=cs) lp hu h5 okp i;refine aM ?_;have z0:(0:Int)+(i:Int)=i:=Zz
   rw[z0];refine aH ?_;refine⟨_,rfl,_,rfl,_,rfl,bk,i,lo,ac,xc,cs,ap,xp,ps,af,xs,ss,xo,cR cs ps ss i,rfl,k _ _ eb,rc.same k,okc,Zz,Zz,rp.same k,lp,okp,rs.same k,ls,h5,hu,eo,gz,lS,Zz,fun t g kk tl xg xk H2 s2 et ng nk xA eg dP ek ku xB=>?_⟩;rw[zAi]at dP ku xB;refine⟨t,_,rfl,SqT.of et,rfl,_,_,rfl,_,_,rfl,_,_,rfl,rfl,?_⟩;dsimp only;have k2:=k.trans s2;have el2:=s2 _ _ el;have dg:g≠l:=(aG el ng).symm;have dk:kk≠l:=(aG el nk).symm;refine⟨_,rfl,.inl ⟨rfl,_,SqL.of el2⟩,_,rfl,_,rfl,_,rfl,zL,fun tt se=>⟨l,_,_,rfl,rfl,Same.upd se _ _ el2,by rw[zA1,lt,sizeLine_eq];lia,?_⟩⟩;have s3:=Same.upd (o:=.tup [.ref g,.ref kk,.ref tl]) se
   have nt:tt≠l:=fun z=>by rw[z,el2]at se;cases se
   have kp:∀{o:HO} b u,b≠l->H2 b=some u->upd (upd H2 tt (.tup [.ref g,.ref kk,.ref tl])) l o b=some u:=fun b u n e=>by
    rw[aA n];exact s3 _ _ e
   have ke:∀{o:HO} b z,H2 b=some (.tup z)->upd (upd H2 tt (.tup [.ref g,.ref kk,.ref tl])) l o b=some (.tup z):=fun b z e=>kp b _ (fun w=>by rw[w,el2]at e;cases e) e;refine⟨_,_,_,kk,xk,ts++[tt],rfl,fun b o e=>?_,?_,by rw[zA2,lt];rfl,fun j a e=>?_,dk,kp _ _ dk ek,ku.keep ke⟩
   .exact kp _ _ (aG e hl) (k2 _ _ e)
   .rw[aj,zA4];rfl
   .by_cases hj:j<ts.length
    .rw[zBc hj]at e;exact(hy j a e).keep (fun b o n z=>kp _ _ n (s2 _ _ z)) ⟨_,el⟩
    .have vj:j=i:=by
      have:=(zAa.mp e).1;rw[zA2]at this;simp at this;lia
     subst vj;rw[zBb Zz,lt,Nat.sub_self]at e;cases e;exact⟨g,kk,tl,xg,xk,by rw[aA nt];exact aj,k.free ng,k.free nk,dg,dk,kp _ _ dg eg,dP.keep ke,kp _ _ dk ek,ku.keep ke,ke _ _ xB,xA⟩
  .rintro σ Hc ⟨x4,x5,x6,lo,xo,ts,rfl,k,el,lt,hy,dl,eo,gz⟩;exact⟨_,rfl,q l ts Hc k hl el (by rw[lt];lia) hy⟩
abbrev ky(n y:Int):List Key:=[.inl n,.inl y]
def KsOk(kv:List (Key×V)):Prop:=∀p∈kv,∃h:Int,p.1=.inl h/\0<=h/\h<8
theorem KsOk.put{kv:List (Key×V)}(g:KsOk kv){h:Int}(h0:0<=h)(h8:h<8)(v:V):KsOk (putK kv (.inl h) v):=by
 intro p hp;unfold putK at hp;split at hp
 .obtain⟨q,hq,rfl⟩:=zA5.mp hp;split
  .exact g q hq
  .exact g q hq
 .rcases zA6.mp hp with z|z
  .exact g p z
  .rw[List.mem_singleton.mp z];exact⟨h,rfl,h0,h8⟩
structure Dts(fo:Addr)(H0 H:Hp)(dm:Int->Int->Prop)(f:Int->Int->Int->Int)(b:Int->Int->Nat)(Zs:List (List Key×V)):Prop where
 sm:Same H0 H
 nf:H0 fo=none
 e:H fo=some (.dT Zs)
 g:∀n y,dm n y->∃d kv,cF Zs (ky n y)=some (.ref d)/\H d=some (.dK kv)/\(kv.length<=b n y/\KsOk kv)/\∀h,0<=h->h<8->(cF kv (.inl h)).getD (.int 0)=.int (f n y h)
 no:∀n y,¬dm n y->cF Zs (ky n y)=none
 i:∀n y n' y' d,cF Zs (ky n y)=some (.ref d)->cF Zs (ky n' y')=some (.ref d)->n=n'/\y=y'
 fr:∀n y d,cF Zs (ky n y)=some (.ref d)->H0 d=none/\d≠fo/\∃o,H d=some o
theorem Dts.new{fo p:Addr}{o:HO}{H0 H:Hp}{dm:Int->Int->Prop}{f:Int->Int->Int->Int}{b:Int->Int->Nat}{Zs:List (List Key×V)}(g:Dts fo H0 H dm f b Zs)(hp:H p=none):Dts fo H0 (upd H p o) dm f b Zs:=
 ⟨g.sm.updR hp,g.nf,Same.upd hp _ _ g.e,fun n y h=>by
  obtain⟨d,kv,e1,e2,r⟩:=g.g n y h
  exact⟨d,kv,e1,Same.upd hp _ _ e2,r⟩,g.no,g.i,fun n y d h=>by
  obtain⟨e1,e2,o',e3⟩:=g.fr n y d h
  exact⟨e1,e2,o',Same.upd hp _ _ e3⟩⟩
theorem Dts.same{fo:Addr}{H0 H H':Hp}{dm:Int->Int->Prop}{f:Int->Int->Int->Int}{b:Int->Int->Nat}{Zs:List (List Key×V)}(g:Dts fo H0 H dm f b Zs)(s:Same H H'):Dts fo H0 H' dm f b Zs:=
 ⟨g.sm.trans s,g.nf,s _ _ g.e,fun n y h=>by
  obtain⟨d,kv,e1,e2,r⟩:=g.g n y h
  exact⟨d,kv,e1,s _ _ e2,r⟩,g.no,g.i,fun n y d h=>by
  obtain⟨e1,e2,o',e3⟩:=g.fr n y d h
  exact⟨e1,e2,o',s _ _ e3⟩⟩
theorem uX{n y n' y':Int}(h:ky n y=ky n' y'):n=n'/\y=y':=by
 injection h with h1 h2;injection h2 with h2 _;injection h1 with h1;injection h2 with h2;exact⟨h1,h2⟩
theorem Dts.wr{fo d:Addr}{H0 H:Hp}{dm:Int->Int->Prop}{f f':Int->Int->Int->Int}{b b':Int->Int->Nat}{Zs:List (List Key×V)}{sf:List (Key×V)}{N Y:Int}(g:Dts fo H0 H dm f b Zs)(hv:cF Zs (ky N Y)=some (.ref d))
  (h1:(sf.length<=b' N Y/\KsOk sf)/\∀h,0<=h->h<8->(cF sf (.inl h)).getD (.int 0)=.int (f' N Y h)) (h2:∀n y,dm n y->¬(n=N/\y=Y)->b n y<=b' n y/\∀h,0<=h->h<8->f' n y h=f n y h):Dts fo H0 (upd H d (.dK sf)) dm f' b' Zs:=by
 obtain⟨w1,w2,_⟩:=g.fr _ _ _ hv;refine⟨fun c o e=>by rw[aA (aG e w1)];exact g.sm _ _ e,g.nf,by rw[aA w2.symm];exact g.e,fun n y hd=>?_,g.no,g.i,fun n y d' hd=>?_⟩
 .by_cases hk:n=N/\y=Y
  .obtain⟨rfl,rfl⟩:=hk;exact⟨d,sf,hv,aj,h1⟩
  .obtain⟨d',kv,q1,q2,q3,q4⟩:=g.g n y hd;have nd:d'≠d:=fun z=>hk (g.i _ _ _ _ _ (z▸q1) hv);obtain⟨k1,k2⟩:=h2 n y hd hk;exact⟨d',kv,q1,by rw[aA nd];exact q2,⟨Nat.le_trans q3.1 k1,q3.2⟩,fun h z1 z2=>by rw[k2 h z1 z2];exact q4 h z1 z2⟩
 .obtain⟨w3,w4,o,w5⟩:=g.fr n y d' hd;by_cases Ke:d'=d
  .exact⟨w3,w4,.dK sf,by rw[Ke];exact aj⟩
  .exact⟨w3,w4,o,by rw[aA Ke];exact w5⟩
theorem Dts.cast{fo:Addr}{H0 H:Hp}{dm:Int->Int->Prop}{f f':Int->Int->Int->Int}{b b':Int->Int->Nat}{Zs:List (List Key×V)}(g:Dts fo H0 H dm f b Zs)(h2:∀n y,dm n y->b n y<=b' n y/\∀h,0<=h->h<8->f' n y h=f n y h):Dts fo H0 H dm f' b' Zs:=
 ⟨g.sm,g.nf,g.e,fun n y hd=>by
  obtain⟨d',kv,q1,q2,q3,q4⟩:=g.g n y hd;obtain⟨k1,k2⟩:=h2 n y hd
  exact⟨d',kv,q1,q2,⟨Nat.le_trans q3.1 k1,q3.2⟩,fun h z1 z2=>by rw[k2 h z1 z2];exact q4 h z1 z2⟩,g.no,g.i,g.fr⟩
def dom(ps:List (List Int))(n y:Int):Prop:=0<=n/\n<ps.length/\fl (ps.getD n.toNat []) 2<=y/\y<=fl (ps.getD n.toNat []) 3
def f0(ps:List (List Int))(n y h:Int):Int:=if h=fl (ps.getD n.toNat []) 0 then fl (ps.getD n.toNat []) 4 else 0
inductive SpBegunI(vs:List V)(H:Hp)(Q:VK):Prop
 |mk:∀ap xp ps,(vs=[.ref ap])->(RowsAt H ap xp ps)->(ps.length<=10)->((∀r∈ps,okP r))->(∀fo H' Zs,Dts fo H H' (dom ps) (f0 ps) (fun _ _=>1) Zs->Q (.ref fo) H')->SpBegunI  vs H Q
def wA:Sp:=fun vs H Q _=>SpBegunI  vs H Q
theorem sc34s:FnScope ["_law_promises_here","_law_found","_law_number","_law_holder","_law_sort","_law_first","_law_last","_law_sacks","_law_price","_law_year"] ["_law_promises_here"] (aK (top 64)):=fQS
theorem Ak(F:Fun K "_law_begun" "_law_begun" (top 64) f fd)(Te:mg "enumerate"=none)(Tr:mg "range"=none):FnOk P w K mg base CX0 1 f fd ["_law_promises_here"] wA:=by
 refine F.ok sc34s (fun vs H Q E h=>?_) (fun ar A outer s H vs Q E hr h=>?_)
 .obtain⟨ap,xp,ps,rfl,_⟩:=h;rfl
 .obtain⟨ap,xp,ps,rfl,rp,lp,okp,q⟩:=h
  refine⟨_,aB (pss 1 sc34s.nd lW)
   (aB (cD zB5 rfl (ZT.pi_enum true rfl Te (az (pv 0) ao)) (bG rfl (aq (pgn 2 sc34s.nd) (aq (bG rfl (aq (pgn 3 sc34s.nd) (aq (pgn 4 sc34s.nd) (aq (pgn 5 sc34s.nd)
     (aq (pgn 6 sc34s.nd) (aq (pgn 7 sc34s.nd) (aq (pgn 8 sc34s.nd) aW))))))) aW)))
    (aF (cD zB5 rfl (ik rfl Tr (az (pv 5) (az (aU bL (pv 6) aC) ao))) (pgn 9 sc34s.nd)
     (aF (jb (eG hr) (pv 1) (cz (az (pv 2) (az (pv 9) ao))) (Cj (yR (pv 3) (pv 7) Ci) rfl rfl Zy Zx) rfl)))))
   (aF (aO (pv 1)))),?_⟩
  refine aH (aX ?_);refine fun fo Kf=>?_;refine aM ?_;dsimp only;refine aH ?_
  have d0:Dts fo H (upd H fo (.dT [])) (fun _ _=>False) (f0 ps) (fun _ _=>1) []:=⟨Same.upd Kf,Kf,aj,fun _ _ z=>z.elim,fun _ _ _=>rfl,fun _ _ _ _ _ z=>(by cases z),fun _ _ _ z=>(by cases z)⟩
  generalize upd H fo (.dT [])=H1 at d0⊢;refine⟨_,rfl,ap,xp,rfl,SqT.of (d0.sm _ _ rp.e),?_⟩;refine ZT.for_enum true (xs:=xp) (fun i σ Hc=>∃x2 x3 x4 x5 x6 x7 x8 x9 Zs,σ=[some (.ref ap),some (.ref fo),x2,x3,x4,x5,x6,x7,x8,x9]/\Dts fo H Hc (fun n y=>dom ps n y/\n<i) (f0 ps) (fun _ _=>1) Zs/\Zs.length<=20*i) ?_ ?_ ?_ ?_
  .exact⟨none,none,none,none,none,none,none,none,[],rfl,⟨d0.sm,d0.nf,d0.e,fun n y z=>by
    have:=z.1.1;have:=z.2
    lia,fun n y _=>d0.no n y id,d0.i,d0.fr⟩,zA3 _⟩
  .rintro i σ Hc hi ⟨x2,x3,x4,x5,x6,x7,x8,x9,Zs,rfl,dt,lk⟩;exact SqT.of (dt.sm _ _ rp.e)
  .rintro i x σ Hc T0 hx ⟨x2,x3,x4,x5,x6,x7,x8,x9,Zs,rfl,dt,lk⟩ nT
   have hi:i<ps.length:=by
    have:=(zAa.mp hx).1;rw[rp.l]at this;exact this
   obtain⟨tr,fk,c6⟩:=rp.g i ps[i] (zA0 hi)
   have:x=.ref tr:=by
    rw[hx]at fk;exact zAl fk
   subst this;have op:=okp ps[i] (zAh hi)
   have ep:ps.getD ((i:Int)).toNat []=ps[i]:=by
    rw[zAi];exact getD_get hi
   have dT:=dt.new (o:=.tup [V.int i,V.ref tr]) nT;generalize Ra:ps[i]=p at c6 op ep;have Kg:=dT.sm _ _ c6;rw[dC op.1]at Kg;obtain⟨_,⟨a1,a2⟩,_,⟨c1,c2,c3⟩,⟨e1,e2⟩,_⟩:=op;refine⟨T0,_,rfl,SqT.of aj,rfl,_,_,rfl,_,_,rfl,?_⟩;refine⟨tr,_,rfl,SqT.of Kg,rfl,_,_,rfl,_,_,rfl,_,_,rfl,_,_,rfl,_,_,rfl,_,_,rfl,rfl,rfl,?_⟩;refine⟨_,rfl,_,rfl,_,_,rfl,rfl,fl p 2,fl p 3+1,rfl,⟨Zz,Zz,Zz,Zz⟩,?_⟩;generalize upd Hc T0 (.tup [V.int i,V.ref tr])=H2 at dT⊢;refine cT (lo:=fl p 2) (n:=(fl p 3+1-fl p 2).toNat) (fun j σ Hj=>∃x9 Zs,σ=[some (.ref ap),some (.ref fo),some (.int i),some (.int (fl p 0)),some (.int (fl p 1)),some (.int (fl p 2)),some (.int (fl p 3)),some (.int (fl p 4)),some (.int (fl p 5)),x9]/\Dts fo H Hj (fun n y=>dom ps n y/\(n<i\/(n=i/\y<fl p 2+j))) (f0 ps) (fun _ _=>1) Zs/\Zs.length<=20*i+j) ?_ ?_ ?_
   .exact⟨x9,Zs,rfl,⟨dT.sm,dT.nf,dT.e,fun n y z=>dT.g n y ⟨z.1,by
     rcases z.2 with z2|⟨z2,z3⟩
     .exact z2
     .obtain⟨_,_,w1,_⟩:=z.1;rw[z2,ep]at w1
      lia⟩,fun n y z=>dT.no n y fun z'=>z ⟨z'.1,.inl z'.2⟩,dT.i,dT.fr⟩,lk⟩
   .rintro j σ Hj hj ⟨x9,Zs,rfl,dj,lj⟩;refine aM ?_;refine fun p1 si=>?_;refine⟨_,rfl,_,rfl,aj,[(.inl (fl p 0),.int (fl p 4))],rfl,(by show 1<=15;decide),?_⟩
    have hD:∀b o,Hj b=some o->upd (upd Hj p1 (.dK [])) p1 (.dK (gO [] [(.inl (fl p 0),.int (fl p 4))])) b=some o:=fun b o e=>by
     rw[aA (aG e si),aA (aG e si)];exact e
    have rh:upd (upd Hj p1 (.dK [])) p1 (.dK (gO [] [(.inl (fl p 0),.int (fl p 4))])) p1=some (.dK [(.inl (fl p 0),.int (fl p 4))]):=aj;generalize upd (upd Hj p1 (.dK [])) p1 (.dK (gO [] [(.inl (fl p 0),.int (fl p 4))]))=HD at hD rh⊢
    have Kh:p1≠fo:=fun z=>by
     rw[z,dj.e]at si;cases si
    refine⟨_,rfl,_,rfl,_,rfl,zL,fun t ht=>⟨fo,_,rfl,DPut.t (k:=ky i (fl p 2+j)) (Same.upd ht _ _ (hD _ _ dj.e)) aj Zu,?_⟩⟩
    have kp:∀b o,Hj b=some o->b≠fo->upd (upd HD t (.tup [V.int i,V.int (fl p 2+j)])) fo (.dT (putK Zs (ky i (fl p 2+j)) (.ref p1))) b=some o:=fun b o e ne=>by
     rw[aA ne];exact Same.upd ht _ _ (hD _ _ e)
    have xC:upd (upd HD t (.tup [V.int i,V.int (fl p 2+j)])) fo (.dT (putK Zs (ky i (fl p 2+j)) (.ref p1))) p1=some (.dK [(.inl (fl p 0),.int (fl p 4))]):=by
     rw[aA Kh];exact Same.upd ht _ _ rh
    have MM:H p1=none:=dj.sm.free si;refine⟨_,_,rfl,⟨fun b o e=>kp b o (dj.sm _ _ e) (aG e dj.nf),dj.nf,aj,fun n y z=>?_,fun n y z=>?_,fun n y n' y' d z z'=>?_,fun n y d z=>?_⟩,?_⟩
    .by_cases hk:ky n y=ky i (fl p 2+j)
     .obtain⟨rfl,rfl⟩:=uX hk;refine⟨p1,_,by rw[dW,zAx rfl],xC,⟨zA3 _,fun p hp=>⟨fl _ 0,by rw[List.mem_singleton.mp hp],a1,Zz⟩⟩,fun h h0 h8=>?_⟩;unfold f0;rw[ep];by_cases hh:h=fl p 0
      .rw[zAx hh,cP (show(Sum.inl (fl p 0):Key)=.inl h by rw[hh])];rfl
      .rw[zAw hh,cQ (fun z=>hh (by injection z with z;exact z.symm))];rfl
     .have hd:dom ps n y/\(n<i\/(n=i/\y<fl p 2+j)):=⟨z.1,by
       rcases z.2 with z2|⟨z2,z3⟩
       .exact .inl z2
       .refine .inr ⟨z2,?_⟩;have:y≠fl p 2+j:=fun w=>hk (by rw[z2,w])
        lia⟩
      obtain⟨d,kv,q1,q2,q3⟩:=dj.g n y hd;exact⟨d,kv,by rw[dW,zAw hk];exact q1,kp _ _ q2 (dj.fr n y d q1).2.1,q3⟩
    .have hk:¬ky n y=ky i (fl p 2+j):=fun w=>by
      obtain⟨rfl,rfl⟩:=uX w;exact z ⟨⟨Zz,Zz,by rw[ep];lia,by rw[ep];lia⟩,.inr ⟨rfl,Zz⟩⟩
     rw[dW,zAw hk];exact dj.no n y fun z'=>z ⟨z'.1,z'.2.elim .inl fun w=>.inr ⟨w.1,Zz⟩⟩
    .rw[dW]at z z'
     have old:∀n y,cF Zs (ky n y)=some (.ref p1)->False:=fun n y w=>by
      obtain⟨_,_,o,w3⟩:=dj.fr n y p1 w;rw[si]at w3;cases w3
     by_cases h1:ky n y=ky i (fl p 2+j)
     .rw[zAx h1]at z;by_cases h2:ky n' y'=ky i (fl p 2+j)
      .exact uX (h1.trans h2.symm)
      .rw[zAw h2]at z';injection z with z;injection z with z;rw[<-z]at z';exact(old _ _ z').elim
     .rw[zAw h1]at z;by_cases h2:ky n' y'=ky i (fl p 2+j)
      .rw[zAx h2]at z';injection z' with z';injection z' with z';rw[<-z']at z;exact(old _ _ z).elim
      .rw[zAw h2]at z';exact dj.i _ _ _ _ _ z z'
    .rw[dW]at z;by_cases h1:ky n y=ky i (fl p 2+j)
     .rw[zAx h1]at z;injection z with z;injection z with z;rw[<-z];exact⟨MM,Kh,_,xC⟩
     .rw[zAw h1]at z;obtain⟨w1,w2,o,w3⟩:=dj.fr n y d z;exact⟨w1,w2,o,kp _ _ w3 w2⟩
    .have:=cN Zs (ky i (fl p 2+j)) (V.ref p1);lia
   .rintro σ Hj ⟨x9,Zs,rfl,dj,lj⟩;refine⟨_,_,_,_,_,_,_,_,Zs,rfl,⟨dj.sm,dj.nf,dj.e,fun n y z=>dj.g n y ⟨z.1,?_⟩,fun n y z=>dj.no n y fun z'=>z ⟨z'.1,z'.2.elim (fun w=>by lia) fun w=>by lia⟩,dj.i,dj.fr⟩,Zz⟩;by_cases hn:n<i
    .exact .inl hn
    .have e9:n=i:=by
      have:=z.2;lia
     refine .inr ⟨e9,?_⟩;obtain⟨_,_,_,w1⟩:=z.1;rw[e9,ep]at w1;lia
  .rintro σ Hc ⟨x2,x3,x4,x5,x6,x7,x8,x9,Zs,rfl,dt,lk⟩;refine⟨_,rfl,q fo Hc Zs ⟨dt.sm,dt.nf,dt.e,fun n y z=>dt.g n y ⟨z,?_⟩,fun n y z=>dt.no n y fun z'=>z z'.1,dt.i,dt.fr⟩⟩;rw[rp.l];exact z.2.1
def ni(ps:List (List Int))(f:Int->Int->Int->Int)(s:List Int):Bool:=nY ps s&&(years (fl s 4) (fl (mR ps s) 3)).all fun y=>decide (fl s 3<=f (fl s 0) y (fl s 1))
inductive SpLHoldsI(vs:List V)(H:Hp)(Q:VK):Prop
 |mk:∀ap xp ps fo H0 f b Zs t s,(vs=[.ref ap,.ref fo,.ref t])->(RowsAt H ap xp ps)->((∀r∈ps,okP r))->(Dts fo H0 H (dom ps) f b Zs)->(H t=some (.tup (s.map V.int)))->(s.length=5)->(∀H',Same H H'->Q (.bl (ni ps f s)) H')->SpLHoldsI  vs H Q
def tW:Sp:=fun vs H Q _=>SpLHoldsI  vs H Q
theorem Do{ns:List Int}{M k:Int}(h1:M∈ns)(h2:∀a∈ns,M<=a):decide (k<=M)=ns.all fun a=>decide (k<=a):=by
 rw[Bool.eq_iff_iff,Zp,List.all_eq_true];exact⟨fun h a ha=>zAt (Int.le_trans h (h2 a ha)),fun h=>zB2 (h M h1)⟩
theorem IV{σ:St}{H:Hp}{ta tb:TE}{i j:Int}(a:Ev σ H ta (.int i))(b:Ev σ H tb (.int j)):Ev σ H (tOp rEq ta tb) (.bl (decide (i=j))):=fun Q q=>a _ (b _ ⟨rfl,by
 have ed:decide (V.int i=V.int j)=decide (i=j):=decide_eq_decide.mpr ⟨fun z=>by injection z,fun z=>by rw[z]⟩;rw[ed]
 exact q⟩)
theorem sc35s:FnScope ["_law_promises_here","_law_rows","_law_sale","_law_number","_law_seller","_law_buyer","_law_sacks","_law_year","_law_first","_law_last"] ["_law_promises_here","_law_rows","_law_sale"] (aK (top 65)):=fQS
theorem JR:(["_law_one","_law_rows","_law_number","_law_seller"]:List Str).Nodup:=by decide +kernel
theorem yj(F:Fun K "_law_holds" "_law_holds" (top 65) f fd)(T:Mg mg)(Tr:mg "range"=none)(Tm:mg "min"=none):FnOk P w K mg base CX0 1 f fd ["_law_promises_here","_law_rows","_law_sale"] tW:=by
 refine F.ok sc35s (fun vs H Q E h=>?_) (fun ar A outer s H vs Q E hr h=>?_)
 .obtain⟨ap,xp,ps,fo,H0,g,b,Zs,t,r,rfl,_⟩:=h;rfl
 .obtain⟨ap,xp,ps,fo,H0,g,b,Zs,t,r,rfl,rp,okp,dt,et,h5,q⟩:=h
  refine⟨_,aB (cH (pv 2) (bG rfl (aq (bH (i:=3) sc35s.nd rfl (Or.inr rfl)) (aq (bH (i:=4) sc35s.nd rfl (Or.inr rfl)) (aq (pgn 5 sc35s.nd) (aq (pgn 6 sc35s.nd) (aq (pgn 7 sc35s.nd) aW)))))))
   (aB (cj (PW.pt (rG (cu (fu bM jR aC (pv 3) (aN bF rfl T.len PySem.boot_len (az (pv 0) ao)))) (rG (cu (fu bM bM aC (pv 4) aC)) (rG (cu (fu bM bM aC (pv 5) aC)) (uo (bz gK (pv 4) (pv 5) (bf _))))))) (aF (aO iI)) aZ)
   (aB (yE (i:=8) (j:=9) rfl sc35s.nd rfl rfl Zx rfl rfl (az (pX bC (pX bC (pv 0) (pv 3)) aC) (az (pX bC (pX bC (pv 0) (pv 3)) aC) ao)) rfl)
   (aB (cj (PW.pt (rG (cu (fu bM bM aC (pv 6) aC)) (uo (cu (fu bM bM (pv 8) (pv 7) (pv 9)))))) (aF (aO iI)) aZ)
   (aF (aO (dM rK (aN (nR rfl) rfl Tm boot_min (az (cC ["_law_one","_law_rows","_law_number","_law_seller"] [none,some 1,some 3,some 4] rfl (ik rfl Tr (az (pv 7) (az (aU bL (pv 9) aC) ao)))
    (fun C fp Zt s₂ H₂=>⟨pgn 0 JR,c7,mj (eG hr) (gC (eG hr) (pv 1) (cz (az (pv 2) (az (pv 0) ao))) (fun _ _=>rfl)) (pv 3) aC (by constructor<;>rfl)⟩)
    (fun C=>cI (cI (cI trivial))) ⟨rfl,rfl,rfl,rfl⟩) ao)) (pv 6) (bf _))))))),?_⟩
  have fin:=q;unfold ni nY at fin;rw[gZ h5]at et;refine aH ?_;refine⟨_,rfl,t,_,rfl,SqT.of et,rfl,_,_,rfl,_,_,rfl,_,_,rfl,_,_,rfl,_,_,rfl,rfl,?_⟩;dsimp only;refine aH ?_;refine bQ (p:=fun i j=>decide (i<=j)) (q:=fun i j=>decide (i<j)) (i:=0) (j:=fl r 0) (k:=(xp.length:Int)) eU (dB rfl) (fun Q h=>⟨_,rfl,ap,xp,rfl,.inr (SqT.of rp.e),h⟩) _ ⟨_,rfl,?_⟩;rw[rp.l]
  cases e1:(decide (0<=fl r 0)&&decide (fl r 0<ps.length))with
  |false=>
   rw[e1]at fin;exact bI (bI (fin H (Same.refl H)))
  |true=>
  rw[e1]at fin;refine bw ?_;refine bQ (p:=fun i j=>decide (i<=j)) (q:=fun i j=>decide (i<=j)) (i:=0) (j:=fl r 1) (k:=7) eU (dB rfl) eU _ ⟨_,rfl,?_⟩;dsimp only;rw[show decide (fl r 1<=7)=decide (fl r 1<8)from decide_eq_decide.mpr Zz]
  cases e2:(decide (0<=fl r 1)&&decide (fl r 1<8))with
  |false=>
   rw[e2]at fin;exact bI (bI (fin H (Same.refl H)))
  |true=>
  rw[e2]at fin;refine bw ?_;refine bQ (p:=fun i j=>decide (i<=j)) (q:=fun i j=>decide (i<=j)) (i:=0) (j:=fl r 2) (k:=7) eU (dB rfl) eU _ ⟨_,rfl,?_⟩;dsimp only;rw[show decide (fl r 2<=7)=decide (fl r 2<8)from decide_eq_decide.mpr Zz]
  cases e3:(decide (0<=fl r 2)&&decide (fl r 2<8))with
  |false=>
   rw[e3]at fin;exact bI (bI (fin H (Same.refl H)))
  |true=>
  rw[e3]at fin;refine bw ?_;refine IV (i:=fl r 1) (j:=fl r 2) (dB rfl) (dB rfl) _ ⟨_,rfl,?_⟩
  cases e4:decide (fl r 1=fl r 2)with
  |true=>
   rw[e4]at fin;exact bI (fin H (Same.refl H))
  |false=>
  rw[e4]at fin;refine bw (dh ?_);dsimp only;refine aH ?_;rw[zAc,Zp,Zp]at e1 e2;obtain⟨p,hp,ep,op⟩:=eV okp e1.1 e1.2;have pT:mR ps r=p:=ep;rw[pT]at fin;obtain⟨tp,bP,bS⟩:=dR rp e1.1 hp;rw[dC op.1]at bS;obtain⟨_,_,_,⟨g1,g2,g3⟩,_⟩:=id op;refine⟨_,rfl,_,rfl,ap,xp,_,.ref tp,rfl,rfl,SqT.of rp.e,bP,tp,_,2,.int (fl p 2),rfl,rfl,SqT.of bS,rfl,?_⟩;refine⟨_,rfl,_,rfl,ap,xp,_,.ref tp,rfl,rfl,SqT.of rp.e,bP,tp,_,3,.int (fl p 3),rfl,rfl,SqT.of bS,rfl,?_⟩;refine⟨_,_,rfl,?_⟩;dsimp only;refine aH ?_;refine bQ (p:=fun i j=>decide (i<=j)) (q:=fun i j=>decide (i<=j)) (i:=1) (j:=fl r 3) (k:=99) eU (dB rfl) eU _ ⟨_,rfl,?_⟩;dsimp only
  cases e5:(decide (1<=fl r 3)&&decide (fl r 3<=99))with
  |false=>
   rw[e5]at fin;exact bI (bI (fin H (Same.refl H)))
  |true=>
  rw[e5]at fin;refine bw ?_;refine bQ (p:=fun i j=>decide (i<=j)) (q:=fun i j=>decide (i<=j)) (i:=fl p 2) (j:=fl r 4) (k:=fl p 3) (dB rfl) (dB rfl) (dB rfl) _ ⟨_,rfl,?_⟩;dsimp only
  cases e6:(decide (fl p 2<=fl r 4)&&decide (fl r 4<=fl p 3))with
  |false=>
   rw[e6]at fin;exact bI (fin H (Same.refl H))
  |true=>
  rw[e6]at fin;rw[zAc,Zp,Zp]at e6;refine bw (dh ?_);dsimp only;refine⟨_,rfl,_,rfl,_,_,rfl,rfl,fl r 4,fl p 3+1,rfl,⟨Zz,Zz,Zz,Zz⟩,?_⟩;refine tH (fun ys Hc=>Same H Hc/\ys=((years (fl r 4) (fl p 3)).take ys.length).map fun y=>V.int (g (fl r 0) y (fl r 1))) ⟨Same.refl _,rfl⟩ Zu ?_ ?_
  .rintro i ys Hc Qc hi hy ⟨sc,ey⟩ qc;refine⟨_,rfl,_,rfl,_,rfl,zL,fun k hk=>?_⟩;have sk:=sc.updR (o:=.tup [V.int (fl r 0),V.int (fl r 4+i)]) hk;have dk:=dt.same sk;obtain⟨d,kv,q1,q2,q3,q4⟩:=dk.g (fl r 0) (fl r 4+i) ⟨e1.1,e1.2,by rw[ep];lia,by rw[ep];lia⟩;refine⟨fo,.ref d,rfl,by rw[<-q1];exact DGet.t dk.e aj,?_⟩;refine⟨d,rfl,.inl ⟨kv,.inl q2⟩,_,rfl,_,DGet.k (k:=.inl (fl r 1)) q2,?_⟩;rw[q4 _ e2.1 e2.2];refine qc _ _ ⟨sk,?_⟩
   have hx:(years (fl r 4) (fl p 3))[ys.length]?=some (fl r 4+(i:Int)):=by
    rw[hy];exact jL hi
   exact oY ey hx
  .rintro ys Hc hy ⟨sc,ey⟩ D hD;rw[List.take_of_length_le (by rw[jK,hy];exact zA3 _)]at ey;refine⟨D,(years (fl r 4) (fl p 3)).map fun y=>g (fl r 0) y (fl r 1),rfl,SqL.of (by rw[zAr];rw[ey];exact aj),?_,fun M h1 h2=>⟨_,rfl,_,_,rfl,rfl,?_⟩⟩
   .intro z;have:=congrArg List.length z;rw[zA1,jK,List.length_nil]at this;lia
   .have em:=Do (k:=fl r 3) h1 h2;rw[List.all_map]at em;show Q (.bl (decide (fl r 3<=M))) _;rw[em];exact fin _ (sc.updR hD)
def dl(s:List Int)(h:Int):Int:=(if h=fl s 2 then fl s 3 else 0)-(if h=fl s 1 then fl s 3 else 0)
def fS(f:Int->Int->Int->Int)(s:List Int)(n y h:Int):Int:=if n=fl s 0/\fl s 4<=y then f n y h+dl s h else f n y h
theorem Dp{H:Hp}{d:Addr}{a b:HO}:upd (upd H d a) d b=upd H d b:=by
 funext c;by_cases h:c=d
 .subst h;rw[aj,aj]
 .rw[aA h,aA h,aA h]
theorem tX{L:List Int}{i v h:Int}(hl:L.length=8)(i0:0<=i)(i1:i<8)(h0:0<=h)(h1:h<8):(iZ L i v).getD h.toNat 0=L.getD h.toNat 0+(if h=i then v else 0):=by
 unfold iZ;rw[zA7,List.getElem?_set];by_cases hh:h=i
 .subst hh;rw[zAx rfl,zAx rfl,zAx Zz];rfl
 .rw[zAw Zz,zAw hh,<-zA7];lia
theorem yl{L s:List Int}{n y h:Int}(hl:L.length=8)(ok:okS s)(h0:0<=h)(h1:h<8):(hstep n y L s).getD h.toNat 0=if n=fl s 0/\fl s 4<=y then L.getD h.toNat 0+dl s h else L.getD h.toNat 0:=by
 obtain⟨_,⟨a1,a2⟩,b1,b2⟩:=ok;unfold hstep dl;by_cases hc:fl s 0=n/\fl s 4<=y
 .rw[zAx hc,zAx ⟨hc.1.symm,hc.2⟩,tX (by rw[gY];exact hl) b1 b2 h0 h1,tX hl a1 a2 h0 h1];split<;>split<;>lia
 .rw[zAw hc,zAw fun z=>hc ⟨z.1.symm,z.2⟩]
theorem ym{p s:List Int}{ss:List (List Int)}{n y h:Int}(fF:fl p 2<=y/\y<=fl p 3)(ok:okS s)(h0:0<=h)(h1:h<8):
  (bj p (ss++[s]) n y).getD h.toNat 0=if n=fl s 0/\fl s 4<=y then(bj p ss n y).getD h.toNat 0+dl s h else(bj p ss n y).getD h.toNat 0:=by
 have hl:=dJ p ss n y
 have e:bj p (ss++[s]) n y=hstep n y (bj p ss n y) s:=by
  unfold bj;rw[zAx fF,zAx fF,List.foldl_append];rfl
 rw[e,yl hl ok h0 h1]
inductive SpSellI(vs:List V)(H:Hp)(Q:VK):Prop
 |mk:∀ap xp ps fo H0 f b Zs t s,(vs=[.ref ap,.ref fo,.ref t])->(RowsAt H ap xp ps)->((∀r∈ps,okP r))->(Dts fo H0 H (dom ps) f (fun _ _=>b) Zs)->(b<=1000)->(H t=some (.tup (s.map V.int)))->(s.length=5)->(ni ps f s=true)->(∀H',Dts fo H0 H' (dom ps) (fS f s) (fun _ _=>b+2) Zs->Q .non H')->SpSellI  vs H Q
def Al:Sp:=fun vs H Q _=>SpSellI  vs H Q
theorem sc36s:FnScope ["_law_promises_here","_law_rows","_law_sale","_law_number","_law_seller","_law_buyer","_law_sacks","_law_year","_law_one","_law_row"] ["_law_promises_here","_law_rows","_law_sale"] (aK (top 66)):=fQS
theorem Dq(F:Fun K "_law_sell" "_law_sell" (top 66) f fd)(Tr:mg "range"=none):FnOk P w K mg base CX0 1 f fd ["_law_promises_here","_law_rows","_law_sale"] Al:=by
 refine F.ok sc36s (fun vs H Q E h=>?_) (fun ar A outer s H vs Q E hr h=>?_)
 .obtain⟨ap,xp,ps,fo,H0,g,b,Zs,t,r,rfl,_⟩:=h;rfl
 .obtain⟨ap,xp,ps,fo,H0,g,b,Zs,t,r,rfl,rp,okp,dt,hb,et,h5,hh,q⟩:=h
  refine⟨_,aB (cH (pv 2) (bG rfl (aq (pgn 3 sc36s.nd) (aq (pgn 4 sc36s.nd) (aq (pgn 5 sc36s.nd) (aq (pgn 6 sc36s.nd) (aq (pgn 7 sc36s.nd) aW)))))))
   (aF (cD zB5 rfl (ik rfl Tr (az (pv 7) (az (aU bL (pX bC (pX bC (pv 0) (pv 3)) aC) aC) ao))) (pgn 8 sc36s.nd)
    (aB (pss 9 sc36s.nd (gC (eG hr) (pv 1) (cz (az (pv 3) (az (pv 8) ao))) (fun _ _=>rfl)))
    (aB (jb (eG hr) (pv 9) (pv 4) (aU fj (gC (eG hr) (pv 9) (pv 4) (fun _ _=>rfl)) (pv 6)) rfl)
    (aF (jb (eG hr) (pv 9) (pv 5) (aU bL (mj (eG hr) (pv 9) (pv 5) aC (by constructor<;>rfl)) (pv 6)) rfl)))))),?_⟩
  rw[gZ h5]at et;unfold ni nY at hh;simp only[Bool.and_eq_true,Zp,Bool.not_eq_true',decide_eq_false_iff_not]at hh;obtain⟨⟨⟨n0,n1⟩,⟨a1,a2⟩,⟨b1,b2⟩,DD,⟨k1,k2⟩,y0,y1⟩,hy⟩:=hh;obtain⟨p,hp,ep,op⟩:=eV okp n0 n1;have pT:mR ps r=p:=ep;rw[pT]at y0 y1 hy;obtain⟨tp,bP,bS⟩:=dR rp n0 hp;rw[dC op.1]at bS;obtain⟨_,_,_,⟨g1,g2,g3⟩,_⟩:=id op;refine aH ?_;refine⟨_,rfl,t,_,rfl,SqT.of et,rfl,_,_,rfl,_,_,rfl,_,_,rfl,_,_,rfl,_,_,rfl,rfl,?_⟩;dsimp only;refine⟨_,rfl,_,rfl,_,rfl,ap,xp,_,.ref tp,rfl,rfl,SqT.of rp.e,bP,tp,_,3,.int (fl p 3),rfl,rfl,SqT.of bS,rfl,_,_,rfl,rfl,fl r 4,fl p 3+1,rfl,⟨Zz,Zz,Zz,Zz⟩,?_⟩
  refine cT (lo:=fl r 4) (n:=(fl p 3+1-fl r 4).toNat) (fun j σ Hj=>∃x8 x9,σ=[some (.ref ap),some (.ref fo),some (.ref t),some (.int (fl r 0)),some (.int (fl r 1)),some (.int (fl r 2)),some (.int (fl r 3)),some (.int (fl r 4)),x8,x9] /\
   Dts fo H0 Hj (dom ps) (fun n y h=>if n=fl r 0/\fl r 4<=y/\y<fl r 4+j then g n y h+dl r h else g n y h) (fun n y=>if n=fl r 0/\fl r 4<=y/\y<fl r 4+j then b+2 else b) Zs) ?_ ?_ ?_
  .refine⟨none,none,rfl,dt.cast fun n y hd=>?_⟩;rw[zAw Zz];exact⟨zA3 _,fun h _ _=>by rw[zAw Zz]⟩
  .rintro j σ Hj hj ⟨x8,x9,rfl,dj⟩;refine aM (aH ?_);refine aX ?_;refine⟨_,rfl,_,rfl,_,rfl,zL,fun k hk=>?_⟩;have dk:=dj.new (o:=.tup [V.int (fl r 0),V.int (fl r 4+j)]) hk;have ek:upd Hj k (.tup [V.int (fl r 0),V.int (fl r 4+j)]) k=some (.tup ((ky (fl r 0) (fl r 4+j)).map kV)):=aj;generalize upd Hj k (.tup [V.int (fl r 0),V.int (fl r 4+j)])=H1 at dk ek⊢
   have DT:dom ps (fl r 0) (fl r 4+j):=⟨n0,n1,by rw[ep];lia,by rw[ep];lia⟩
   obtain⟨d,kv,q1,q2,⟨q3,qk⟩,q4⟩:=dk.g _ _ DT;rw[if_neg Zz]at q3;refine⟨fo,.ref d,rfl,by rw[<-q1];exact DGet.t dk.e ek,?_⟩;refine aM ?_;dsimp only;have gX:=q4 (fl r 1) a1 a2;rw[if_neg Zz]at gX
   have mx:fl r 3<=g (fl r 0) (fl r 4+j) (fl r 1):=by
    have:=List.all_eq_true.mp hy (fl r 4+j) (zB6 (jL hj));exact zB2 this
   have DU:cF kv (.inl (fl r 1))=some (.int (g (fl r 0) (fl r 4+j) (fl r 1))):=by
    cases ev:cF kv (.inl (fl r 1))with
    |none=>
     rw[ev]at gX;injection gX with gX;lia
    |some v=>
     rw[ev]at gX;exact congrArg some gX
   have xE:=q4 (fl r 2) b1 b2;rw[if_neg Zz]at xE;refine aH ?_;refine⟨_,rfl,_,rfl,d,_,rfl,by rw[<-DU];exact DGet.k (k:=.inl (fl r 1)) q2,_,rfl,_,_,rfl,rfl,_,rfl,_,rfl,d,_,rfl,DPut.k (k:=.inl (fl r 1)) q2 Zu,?_⟩;dsimp only;have Rb:=cN kv (.inl (fl r 1)) (V.int (g (fl r 0) (fl r 4+j) (fl r 1)-fl r 3))
   have vb:(cF (putK kv (.inl (fl r 1)) (V.int (g (fl r 0) (fl r 4+j) (fl r 1)-fl r 3))) (.inl (fl r 2))).getD (.int 0)=.int (g (fl r 0) (fl r 4+j) (fl r 2)):=by
    rw[dW,zAw (fun z=>DD (by injection z with z;exact z.symm))];exact xE
   refine⟨_,rfl,d,rfl,.inl ⟨_,.inl aj⟩,_,rfl,_,DGet.k (k:=.inl (fl r 2)) aj,_,rfl,_,_,vb,rfl,_,rfl,_,rfl,d,_,rfl,DPut.k (k:=.inl (fl r 2)) aj Zu,?_⟩;have Rc:=cN (putK kv (.inl (fl r 1)) (V.int (g (fl r 0) (fl r 4+j) (fl r 1)-fl r 3))) (.inl (fl r 2)) (V.int (g (fl r 0) (fl r 4+j) (fl r 2)+fl r 3));refine⟨_,_,rfl,?_⟩;rw[Dp]
   refine dk.wr q1 ⟨⟨?_,(qk.put a1 a2 _).put b1 b2 _⟩,fun h h0 h8=>?_⟩ fun n y hd c8=>⟨?_,fun h h0 h8=>?_⟩
   .rw[zAx ⟨rfl,Zz,Zz⟩];exact Nat.le_trans (cN _ _ _) (Nat.succ_le_succ (Nat.le_trans (cN _ _ _) (Nat.succ_le_succ q3)))
   .rw[zAx ⟨rfl,Zz,Zz⟩,dW];unfold dl;by_cases ko:h=fl r 2
    .rw[zAx (by rw[ko]),zAx ko,zAw (fun z=>DD (z.symm.trans ko))];show V.int _=V.int _;rw[ko];congr 1;lia
    .rw[zAw (fun z=>ko (by injection z)),zAw ko,dW];by_cases f7:h=fl r 1
     .rw[zAx (by rw[f7]),zAx f7];show V.int _=V.int _;rw[f7];congr 1;lia
     .rw[zAw (fun z=>f7 (by injection z)),zAw f7];have:=q4 h h0 h8;rw[zAw Zz]at this;rw[this];congr 1;lia
   .split<;>split<;>lia
   .by_cases hc:n=fl r 0/\fl r 4<=y/\y<fl r 4+j
    .rw[zAx hc,zAx ⟨hc.1,hc.2.1,Zz⟩]
    .rw[zAw hc,zAw fun z=>hc ⟨z.1,z.2.1,by
      have:y≠fl r 4+j:=fun w=>c8 ⟨z.1,w⟩
      lia⟩]
  .rintro σ Hj ⟨x8,x9,rfl,dj⟩;refine q Hj (dj.cast fun n y hd=>⟨by split<;>lia,fun h h0 h8=>?_⟩);unfold fS;by_cases hc:n=fl r 0/\fl r 4<=y
   .have:y<=fl p 3:=by
     have:=hd.2.2.2;rw[hc.1,ep]at this;exact this
    rw[zAx hc,zAx ⟨hc.1,hc.2,Zz⟩]
   .rw[zAw hc,zAw fun z=>hc ⟨z.1,z.2.1⟩]
inductive SpSoldRI(vs:List V)(H:Hp)(Q:VK):Prop
 |mk:∀ap xp ps af xs ss,(vs=[.ref ap,.ref af])->(RowsAt H ap xp ps)->(ps.length<=10)->((∀r∈ps,okP r))->(RowsAt H af xs ss)->(ss.length<=100)->((∀s∈ss,s.length=5))->(∀t fo H',Same H H'->H' t=some (.tup [.ref fo,unV (un ps ss)])->(un ps ss=none->∃b Zs,Dts fo H H' (dom ps) (fun n y h=>(bj (ps.getD n.toNat []) ss n y).getD h.toNat 0) b Zs)->Q (.ref t) H')->SpSoldRI  vs H Q
def wB:Sp:=fun vs H Q _=>SpSoldRI  vs H Q
inductive SpSoldI(vs:List V)(H:Hp)(Q:VK):Prop
 |mk:∀ap xp ps af xs ss,(vs=[.ref ap,.ref af])->(RowsAt H ap xp ps)->(ps.length<=10)->((∀r∈ps,okP r))->(RowsAt H af xs ss)->(ss.length<=100)->((∀s∈ss,s.length=5))->(∀t fo H',Same H H'->H' t=some (.tup [.ref fo,unV (un ps ss)])->Q (.ref t) H')->SpSoldI  vs H Q
def Am:Sp:=fun vs H Q _=>SpSoldI  vs H Q
theorem An{ps:List (List Int)}{n y h:Int}(ok:okP (ps.getD n.toNat []))(fF:fl (ps.getD n.toNat []) 2<=y/\y<=fl (ps.getD n.toNat []) 3)(h0:0<=h)(h8:h<8):(bj (ps.getD n.toNat []) [] n y).getD h.toNat 0=f0 ps n y h:=by
 unfold bj f0;rw[zAx fF];generalize ps.getD n.toNat []=p at ok;obtain⟨_,⟨a1,a2⟩,_⟩:=ok;show(base0 p).getD h.toNat 0=_;unfold base0;rw[zA7,List.getElem?_set];by_cases hh:h=fl p 0
 .rw[zAx (by rw[hh]),zAx (by rw[List.length_replicate];lia),zAx hh];rfl
 .rw[zAw Zz,zAw hh,List.getElem?_replicate,zAx Zz];rfl
theorem sc37s:FnScope ["_law_promises_here","_law_sales_here","_law_rows","_law_at","_law_sale"] ["_law_promises_here","_law_sales_here"] (aK (top 67)):=fQS
theorem tY(F:Fun K "_law_sold" "_law_sold" (top 67) f fd)(Te:mg "enumerate"=none)(c1:Cal P w K mg base 1 "_law_begun" ["_law_promises_here"] wA)(c2:Cal P w K mg base 1 "_law_holds" ["_law_promises_here","_law_rows","_law_sale"] tW)(c3:Cal P w K mg base 1 "_law_sell" ["_law_promises_here","_law_rows","_law_sale"] Al):
  FnOk P w K mg base CX0 2 f fd ["_law_promises_here","_law_sales_here"] wB:=by
 refine F.ok sc37s (fun vs H Q E h=>?_) (fun ar A outer s H vs Q E hr h=>?_)
 .obtain⟨ap,xp,ps,af,xs,ss,rfl,_⟩:=h;rfl
 .obtain⟨ap,xp,ps,af,xs,ss,rfl,rp,lp,okp,rs,ls,cw,q⟩:=h
  refine⟨_,aB (pss 2 sc37s.nd (aJ c1 hr (az (pv 0) ao)))
   (aB (cD zB5 rfl (ZT.pi_enum true rfl Te (az (pv 1) ao)) (bG rfl (aq (pgn 3 sc37s.nd) (aq (pgn 4 sc37s.nd) aW)))
    (aB (cj (cu (di (aJ c2 hr (az (pv 0) (az (pv 2) (az (pv 4) ao)))))) (aF (aO (cz (az (pv 2) (az (pv 3) ao))))) aZ)
    (aF (cW (aJ c3 hr (az (pv 0) (az (pv 2) (az (pv 4) ao))))))))
   (aF (aO (cz (az (pv 2) (az pO ao)))))),?_⟩
  refine aH (aX ?_);refine⟨_,rfl,ap,xp,ps,rfl,rp,lp,okp,fun fo H1 Zs d1=>?_⟩;refine aM ?_;dsimp only;refine aH ?_;refine⟨_,rfl,af,xs,rfl,SqT.of (d1.sm _ _ rs.e),?_⟩
  have MN:∀n y,dom ps n y->okP (ps.getD n.toNat []):=fun n y hd=>by
   obtain⟨p,_,e2,e3⟩:=eV okp hd.1 hd.2.1;rw[e2];exact e3
  refine ZT.for_enum true (xs:=xs) (fun i σ Hc=>∃x3 x4,σ=[some (.ref ap),some (.ref af),some (.ref fo),x3,x4]/\Dts fo H Hc (dom ps) (fun n y h=>(bj (ps.getD n.toNat []) (ss.take i) n y).getD h.toNat 0) (fun _ _=>1+2*i) Zs/\∀j,j<i->du ps (ss.take j) (ss.getD j [])=true) ?_ ?_ ?_ ?_
  .exact⟨none,none,rfl,d1.cast fun n y hd=>⟨zA3 _,fun h h0 h8=>An (MN n y hd) hd.2.2 h0 h8⟩,fun j hj=>absurd hj (Nat.not_lt_zero _)⟩
  .rintro i σ Hc hi ⟨x3,x4,rfl,dt,hh⟩;exact SqT.of (dt.sm _ _ rs.e)
  .rintro i x σ Hc T0 hx ⟨x3,x4,rfl,dt,hh⟩ nT
   have hi:i<ss.length:=by
    have:=(zAa.mp hx).1;rw[rs.l]at this;exact this
   obtain⟨tr,fk,c6⟩:=rs.g i ss[i] (zA0 hi)
   have:x=.ref tr:=by
    rw[hx]at fk;exact zAl fk
   subst this;have h5:=cw ss[i] (zAh hi);have dT:=dt.new (o:=.tup [V.int i,V.ref tr]) nT;have eT:upd Hc T0 (.tup [V.int i,V.ref tr]) T0=some (.tup [V.int i,V.ref tr]):=aj;generalize upd Hc T0 (.tup [V.int i,V.ref tr])=H2 at dT eT⊢;refine⟨T0,_,rfl,SqT.of eT,rfl,_,_,rfl,_,_,rfl,rfl,?_⟩;refine aH ?_;refine⟨_,rfl,_,rfl,_,rfl,ap,xp,ps,fo,H,_,_,Zs,tr,ss[i],rfl,rp.same dT.sm,okp,dT,dT.sm _ _ c6,h5,fun H3 s3=>⟨_,rfl,?_⟩⟩;have d3:=dT.same s3;have DV:ni ps (fun n y h=>(bj (ps.getD n.toNat []) (ss.take i) n y).getD h.toNat 0) ss[i]=du ps (ss.take i) ss[i]:=rfl
   cases eh:du ps (ss.take i) ss[i]with
   |false=>
    rw[DV,eh];refine bI ⟨_,rfl,_,rfl,zL,fun t ht=>q t fo _ (d3.sm.updR ht) ?_ fun z=>?_⟩
    .rw[qR hh hi (by rw[getD_get hi];exact eh)];exact aj
    .rw[qR hh hi (by rw[getD_get hi];exact eh)]at z;cases z
   |true=>
    rw[DV,eh];refine bw (dh ?_);refine⟨_,rfl,_,rfl,_,rfl,ap,xp,ps,fo,H,_,1+2*i,Zs,tr,ss[i],rfl,rp.same d3.sm,okp,d3,Zz,d3.sm _ _ c6,h5,DV.trans eh,fun H4 d4=>?_⟩;have de:ss.take (i+1)=ss.take i++[ss[i]]:=by rw[zAj,zA0 hi];rfl
    refine⟨_,_,rfl,d4.cast fun n y hd=>⟨Zz,fun h h0 h8=>?_⟩,fun j hj=>?_⟩
    .rw[de,ym hd.2.2 (jr h5 eh) h0 h8];rfl
    .rcases Nat.lt_succ_iff_lt_or_eq.mp hj with z|z
     .exact hh j z
     .rw[z,getD_get hi];exact eh
  .rintro σ Hc ⟨x3,x4,rfl,dt,hh⟩;refine⟨_,rfl,zL,fun t ht=>q t fo _ (dt.sm.updR ht) ?_ fun _=>?_⟩
   .rw[vW fun j hj=>hh j (by rw[rs.l];exact hj)];exact aj
   .rw[show xs.length=ss.length from rs.l,zAm]at dt;exact⟨_,Zs,dt.new ht⟩
theorem Ds{f:Addr}{fd:FuncData}(F:FnOk P w K mg base CX0 2 f fd ["_law_promises_here","_law_sales_here"] wB):FnOk P w K mg base CX0 2 f fd ["_law_promises_here","_law_sales_here"] Am:=by
 refine F.imp fun vs H Q E h=>?_;obtain⟨ap,xp,ps,af,xs,ss,rfl,rp,lp,okp,rs,ls,cw,q⟩:=h;exact⟨ap,xp,ps,af,xs,ss,rfl,rp,lp,okp,rs,ls,cw,fun t fo H' s e _=>q t fo H' s e⟩
def IW(st:Addr)(H:Hp)(n:Int)(v:V)(H':Hp):Prop:=∃ps:List (List Int),But st H H'/\jo H' st/\IsTh (fun _=>False) H' v (bW ps)/\(ps.length:Int)<=n/\∀r∈ps,okP r
inductive SpProms2I(vs:List V)(H:Hp)(Q:VK):Prop
 |mk:∀st n y,(vs=[.ref st,.int n,.int y])->(jo H st)->(1<=n)->(n<=10)->(0<=y)->(y<=1000)->(∀v H',IW st H n v H'->Q v H')->SpProms2I  vs H Q
def tZ:Sp:=fun vs H Q _=>SpProms2I  vs H Q
theorem qX(F:Fun K "_law_promises" "_law_promises" (top 63) f fd)(T:Mg mg)(Tr:mg "range"=none)(Tm:mg "min"=none)(c1:Cal P w K mg base 1 "_law_take" ["_law_state_here","_law_many"] mQ):FnOk P w K mg base CX0 2 f fd ["_law_state_here","_law_most","_law_years"] tZ:=by
 refine F.ok sc22 (fun vs H Q E h=>?_) (fun ar A outer s H vs Q E hr h=>?_)
 .obtain⟨st,n,y,rfl,_⟩:=h;rfl
 .obtain⟨st,n,y,rfl,fE,n1,n2,y1,y2,q⟩:=h
  refine⟨_,aB (yE (i:=3) (j:=4) rfl sc22.nd rfl rfl Zx rfl rfl (az (cJ ao) (az (pX bZ (cJ (jc (by repeat constructor))) (aJ c1 hr (az (pv 0) (az aC ao)))) ao)) rfl)
   (aB (cD zB5 rfl (cY rfl Tr (az (aJ c1 hr (az (pv 0) (az (aU bL (pv 1) aC) ao))) ao)) (pgn 5 sc22.nd)
    (aB (pss 6 sc22.nd (aJ c1 hr (az (pv 0) (az (aN (il rfl) rfl Tm boot_min (az aC (az (aU bL (pv 2) aC) ao))) ao))))
    (aB (pss 7 sc22.nd (aN (il rfl) rfl Tm boot_min (az aC (az (aU bL (pv 6) (aJ c1 hr (az (pv 0) (az (pX bZ (cJ (jc (by repeat constructor))) (aJ c1 hr (az (pv 0) (az aC ao)))) ao)))) ao))))
    (aB (pss 8 sc22.nd (pX bZ (vz (qC aC (qC aC (qC (aJ c1 hr (az (pv 0) (az aC ao))) (qC (aU uv aC aC) gD))))) (aJ c1 hr (az (pv 0) (az aC ao)))))
    (aB (pss 9 sc22.nd (pX bZ (vz (qC aC (qC aC (qC aC (qC (aJ c1 hr (az (pv 0) (az aC ao))) gD))))) (aJ c1 hr (az (pv 0) (az aC ao)))))
    (aF (cW (oG zBg zBf zBe fc (pv 3) (az (El (uG (jd ⟨pv 9⟩ (jd ⟨aJ c1 hr (az (pv 0) (az aC ao))⟩ (jd ⟨pv 6⟩ (jd ⟨pv 7⟩ (jd ⟨aU bL aC (aJ c1 hr (az (pv 0) (az (pv 4) ao)))⟩ (jd ⟨pv 8⟩ gD)))))))) ao)))))))))
   (aF (aO (dw cU rfl T.tuple boot_tuple (az (pv 3) ao))))),?_⟩
  obtain⟨a,b,es,h1,h2,h3⟩:=id fE;refine aH ?_;refine⟨zL,fun p3 kz=>?_⟩
  have fq:p3≠st:=fun z=>by
   rw[z,es]at kz;cases kz
  have g0:Mk3 st p3 [] [] H (upd H p3 (.lst [])):=⟨fun b' o' e' _=>Same.upd kz _ _ e',⟨a,b,Same.upd kz _ _ es,h1,h2,h3⟩,aj,.nil⟩
  refine⟨zL,fun p hp=>?_⟩;have g1:=g0.new (o:=.lst (([3,12,99]:List Int).map V.int)) hp
  have np:p≠st:=fun z=>by
   obtain⟨x,y,e7,_⟩:=g0.sa;rw[z,e7]at hp;cases hp
  refine⟨_,rfl,st,3,rfl,g1.sa,by decide,by decide,fun r a1 b1 r0 r1 k1 k2 k3=>?_⟩
  obtain⟨wd,hw,w1,w2⟩:∃wd:Int,atI (([3,12,99]:List Int).map V.int) r=some (.int wd)/\1<=wd/\wd<=99:=by
   have:r=0\/r=1\/r=2:=Zz
   rcases this with rfl|rfl|rfl
   .exact⟨3,rfl,by decide,by decide⟩
   .exact⟨12,rfl,by decide,by decide⟩
   .exact⟨99,rfl,by decide,by decide⟩
  refine⟨p,_,r,.int wd,rfl,rfl,SqL.of (by rw[aA np];exact aj),hw,_,_,rfl,?_⟩;have g2:=g1.take fq k1 k2 k3;dsimp only;refine aH ?_;refine⟨_,rfl,_,rfl,_,_,rfl,rfl,st,n+1,rfl,g2.sa,Zz,Zz,fun r2 a2 b2 x0 x1 z1 z2 z3=>⟨r2,rfl,Zz,Zz,?_⟩⟩;have g3:=g2.take fq z1 z2 z3;refine cT (lo:=0) (n:=r2.toNat) (fun i σ H'=>∃xs ds x5 x6 x7 x8 x9,σ=[some (.ref st),some (.int n),some (.int y),some (.ref p3),some (.int wd),x5,x6,x7,x8,x9]/\Mk3 st p3 xs ds H H'/\(∃rs:List (List Int),ds=rs.map bV/\rs.length=i/\∀r∈rs,okP r)/\xs.length=i) ?_ ?_ ?_
  .exact⟨[],[],none,none,none,none,none,rfl,g3,⟨[],rfl,rfl,fun _ h=>nomatch h⟩,rfl⟩
  .rintro i σ H' hi ⟨xs,ds,x5,x6,x7,x8,x9,rfl,g,⟨rs,DZ,Ki,D0⟩,hl⟩
   have xI:∀{Hc:Hp} {c:Addr},Mk3 st p3 xs ds H Hc->Hc c=none->c≠st:=fun{Hc c} gc hc z=>by
    obtain⟨x,y,e7,_⟩:=gc.sa;rw[z,e7]at hc;cases hc
   refine aM (aH ?_);refine aX ?_;refine⟨_,rfl,_,rfl,_,_,rfl,rfl,_,_,rfl,st,_,rfl,g.sa,by split<;>lia,by split<;>lia,fun f1 a3 b3 o0 o1 o2 o3 o4=>?_⟩;have g4:=g.take fq o2 o3 o4;have f2:f1<20:=by split at o1<;>lia
   refine aM ?_;dsimp only;refine aH (aX ?_);refine⟨_,rfl,_,rfl,zL,fun p5 Kj=>?_⟩;have n5:=xI g4 Kj;have g5:=g4.new (o:=.lst (([1,4,20]:List Int).map V.int)) Kj;refine⟨_,rfl,st,3,rfl,g5.sa,by decide,by decide,fun r4 a4 b4 q0 q1 q2 q3 q4=>?_⟩
   obtain⟨w5,MO,w6,w7⟩:∃w5:Int,atI (([1,4,20]:List Int).map V.int) r4=some (.int w5)/\1<=w5/\w5<=20:=by
    have:r4=0\/r4=1\/r4=2:=Zz
    rcases this with rfl|rfl|rfl
    .exact⟨1,rfl,by decide,by decide⟩
    .exact⟨4,rfl,by decide,by decide⟩
    .exact⟨20,rfl,by decide,by decide⟩
   have g6:=g5.take fq q2 q3 q4;refine⟨p5,_,r4,.int w5,rfl,rfl,SqL.of (by rw[aA n5];exact aj),MO,st,w5,rfl,g6.sa,w6,Zz,fun r5 a5 b5 s0 s1 s2 s3 s4=>⟨_,_,rfl,rfl,_,_,rfl,?_⟩⟩;have g7:=g6.take fq s2 s3 s4;refine aM ?_;dsimp only;refine aH (aX ?_);refine⟨_,rfl,st,1000,rfl,g7.sa,by decide,by decide,fun r6 a6 b6 t0 t1 t2 t3 t4=>⟨_,_,rfl,rfl,⟨by decide,by decide,by decide⟩,zL,fun p6 Kk=>?_⟩⟩;have g8:=g7.take fq t2 t3 t4;have n6:=xI g8 Kk;have g9:=g8.new (o:=.lst [V.int 0,V.int 1,V.int r6,V.int (10^(6:Int).toNat)]) Kk;refine⟨_,rfl,st,4,rfl,g9.sa,by decide,by decide,fun r7 a7 b7 u0 u1 u2 u3 u4=>?_⟩
   obtain⟨pr,MP,MQ,MR⟩:∃pr:Int,atI [V.int 0,V.int 1,V.int r6,V.int (10^(6:Int).toNat)] r7=some (.int pr)/\0<=pr/\pr<=1000000:=by
    have:r7=0\/r7=1\/r7=2\/r7=3:=Zz
    rcases this with rfl|rfl|rfl|rfl
    .exact⟨0,rfl,by decide,by decide⟩
    .exact⟨1,rfl,by decide,by decide⟩
    .exact⟨r6,rfl,t0,Zz⟩
    .exact⟨_,rfl,by decide,by decide⟩
   have ga:=g9.take fq u2 u3 u4;refine⟨p6,_,r7,.int pr,rfl,rfl,SqL.of (by rw[aA n6];exact aj),MP,?_⟩;refine aM ?_;dsimp only;refine aH (aX ?_);refine⟨_,rfl,st,8,rfl,ga.sa,by decide,by decide,fun r8 a8 b8 v0 v1 v2 v3 v4=>⟨zL,fun p7 Kl=>?_⟩⟩;have gb:=ga.take fq v2 v3 v4;have n7:=xI gb Kl;have gc:=gb.new (o:=.lst [V.int 0,V.int 1,V.int 2,V.int r8]) Kl;refine⟨_,rfl,st,4,rfl,gc.sa,by decide,by decide,fun r9 a9 b9 y0 y3 y4 y5 y6=>?_⟩
   obtain⟨ho,MT,MU,kG⟩:∃ho:Int,atI [V.int 0,V.int 1,V.int 2,V.int r8] r9=some (.int ho)/\0<=ho/\ho<8:=by
    have:r9=0\/r9=1\/r9=2\/r9=3:=Zz
    rcases this with rfl|rfl|rfl|rfl
    .exact⟨0,rfl,by decide,by decide⟩
    .exact⟨1,rfl,by decide,by decide⟩
    .exact⟨2,rfl,by decide,by decide⟩
    .exact⟨r8,rfl,v0,v1⟩
   have gd:=gc.take fq y4 y5 y6;refine⟨p7,_,r9,.int ho,rfl,rfl,SqL.of (by rw[aA n7];exact aj),MT,?_⟩;refine aM ?_;dsimp only;refine⟨_,rfl,.inl ⟨rfl,_,SqL.of gd.e3⟩,?_⟩;refine⟨_,rfl,_,rfl,st,3,rfl,gd.sa,by decide,by decide,fun ra aa ba c0 c1 c2 c3 c4=>?_⟩;have ge:=gd.take fq c2 c3 c4;refine⟨_,rfl,_,rfl,_,rfl,_,rfl,st,wd,rfl,ge.sa,w1,Zz,fun rb ab bb d0 d1 d2 d3 d4=>⟨_,_,rfl,rfl,_,rfl,zL,fun l kB=>?_⟩⟩;have gf:=ge.take fq d2 d3 d4;have gg:=gf.new (o:=.tup [V.int ho,V.int ra,V.int f1,V.int (if f1+r5<19 then f1+r5 else 19),V.int (1+rb),V.int pr]) kB
   have wc:l≠p3:=fun z=>by
    rw[z,gf.e3]at kB;cases kB
   refine⟨p3,xs,.ref l,rfl,rfl,gg.e3,by rw[hl,sizeLine_eq];lia,?_⟩;refine⟨xs++[.ref l],ds++[.tuple [.int ho,.int ra,.int f1,.int (if f1+r5<19 then f1+r5 else 19),.int (1+rb),.int pr]],_,_,_,_,_,rfl,⟨fun b' o' e' ne=>?_,?_,aj,?_⟩,?_,by rw[zA2,hl];rfl⟩
   .have:b'≠p3:=aG e' kz;rw[aA this];exact gg.bt b' o' e' ne
   .obtain⟨x,y',e7,k⟩:=gg.sa;exact⟨x,y',by rw[aA fq.symm];exact e7,k⟩
   .refine IsThs.append (gg.ts.keep (fun c l' e'=>?_) (fun _ _ z _=>z.elim) fun _ _ z _=>z.elim) (.cons (.tup (by rw[aA wc];exact aj) (.cons (.int _) (.cons (.int _) (.cons (.int _) (.cons (.int _) (.cons (.int _) (.cons (.int _) .nil))))))) .nil)
    have:c≠p3:=fun z=>by
     rw[z,gg.e3]at e';cases e'
    rw[aA this];exact e'
   .refine⟨rs++[[ho,ra,f1,(if f1+r5<19 then f1+r5 else 19),1+rb,pr]],by rw[DZ,zA4];rfl,by rw[zA2,Ki];rfl,fun r hr=>?_⟩;rcases zA6.mp hr with z|z
    .exact D0 r z
    .rw[List.mem_singleton.mp z];have lb:f1<=(if f1+r5<19 then f1+r5 else 19)/\(if f1+r5<19 then f1+r5 else 19)<=19:=by split<;>lia
     exact⟨rfl,⟨MU,kG⟩,⟨c0,c1⟩,⟨o0,lb.1,lb.2⟩,⟨(by show 1<=1+rb;lia),(by show 1+rb<=99;lia)⟩,MQ,MR⟩
  .rintro σ H' ⟨xs,ds,x5,x6,x7,x8,x9,rfl,g,⟨rs,DZ,Ki,D0⟩,hl⟩;refine⟨_,rfl,p3,xs,rfl,.inl ⟨SqL.of g.e3,fun l kB=>?_⟩⟩;have g':=g.new (o:=.tup xs) kB;rw[DZ]at g';exact q _ _ ⟨rs,g'.bt,g'.sa,.tup aj (g'.ts.keep (fun _ _ e=>e) (fun _ _ z _=>z.elim) fun _ _ z _=>z.elim),Zz,D0⟩
theorem wC{X:Cx}:OpR X (binaryOp .Add) (fun x y H Q=>∃a b xs ys,x=.ref a/\y=.ref b/\H a=some (.tup xs)/\H b=some (.tup ys)/\ys≠[]/\xs.length+ys.length<=sizeLine/\∀c H',Same H H'->H' c=some (.tup (xs++ys))->Q (.ref c) H'):=by
 intro Zt s σ H x y v u Q I rx ry h;obtain⟨a,b,xs,ys,rfl,rfl,ha,hb,hy,hz,q⟩:=h;refine yZ Zt s σ H _ _ v u Q I rx ry ⟨a,b,xs,ys,rfl,rfl,SqT.of ha,SqT.of hb,hy,hz,fun e=>q b H (Same.refl H) (by rw[e];exact hb),fun _ p hp=>q p _ (Same.upd hp) aj⟩
theorem Dr.rows{st a:Addr}{H H':Hp}{xs:List V}{rs:List (List Int)}(g:Dr st H H')(h0:jo H st)(r:RowsAt H a xs rs):RowsAt H' a xs rs:=by
 obtain⟨x,y,e,_⟩:=h0
 exact r.keep fun b l e'=>g.bt _ _ e' fun z=>by
  rw[z,e]at e';cases e'
theorem yo:bootBuiltins "max"=some (.builtin "max"):=by decide +kernel
theorem pq{H:Hp}{a b t:Addr}{xs:List V}{rs:List (List Int)}{r:List Int}(h:RowsAt H a xs rs)(et:H t=some (.tup (r.map V.int)))(eb:H b=some (.tup (xs++[V.ref t]))):RowsAt H b (xs++[V.ref t]) (rs++[r]):=by
 refine⟨eb,by rw[zA2,zA2,h.l];rfl,fun i r' e=>?_⟩;by_cases hi:i<rs.length
 .rw[zBc hi]at e;rw[zBc (by rw[h.l];exact hi)];exact h.g i r' e
 .rw[zBb Zz]at e;rw[zBb (by rw[h.l];lia),h.l]
  cases hj:i-rs.length with
  |zero=>
   rw[hj]at e;injection e with e;subst e;exact⟨t,rfl,et⟩
  |succ k=>
   rw[hj]at e;simp at e
def smR(s:List Int):Prop:=s.length=5/\∀i∈s,-10<=i/\i<=2000000
inductive SpAnyI(vs:List V)(H:Hp)(Q:VK):Prop
 |mk:∀st ap xp ps,(vs=[.ref st,.ref ap])->(jo H st)->(RowsAt H ap xp ps)->(ps.length<=10)->((∀r∈ps,okP r))->(∀t s H',Dr st H H'->H' t=some (.tup (s.map V.int))->smR s->Q (.ref t) H')->SpAnyI  vs H Q
def Eu:Sp:=fun vs H Q _=>SpAnyI  vs H Q
theorem sc38s:FnScope ["_law_state_here","_law_promises_here","_law_number","_law_holder","_law_sort","_law_first","_law_last","_law_sacks","_law_price","_law_seller","_law_buyer","_law_year"] ["_law_state_here","_law_promises_here"] (aK (top 68)):=fQS
theorem Gj(F:Fun K "_law_any_sale" "_law_any_sale" (top 68) f fd)(T:Mg mg)(Tm:mg "max"=none)(c1:Cal P w K mg base 1 "_law_take" ["_law_state_here","_law_many"] mQ):FnOk P w K mg base CX0 2 f fd ["_law_state_here","_law_promises_here"] Eu:=by
 refine F.ok sc38s (fun vs H Q E h=>?_) (fun ar A outer s H vs Q E hr h=>?_)
 .obtain⟨st,ap,xp,ps,rfl,_⟩:=h;rfl
 .obtain⟨st,ap,xp,ps,rfl,fE,rp,lp,okp,q⟩:=h
  refine⟨_,aB (pss 2 sc38s.nd (aJ c1 hr (az (pv 0) (az (aN (oh rfl) rfl Tm yo (az aC (az (aN bF rfl T.len PySem.boot_len (az (pv 1) ao)) ao))) ao))))
   (aB (cH (pX bC (aU wC (pv 1) (cz (az (cz (jc (by repeat constructor))) ao))) (pv 2)) (bG rfl (aq (pgn 3 sc38s.nd) (aq (pgn 4 sc38s.nd) (aq (pgn 5 sc38s.nd)
    (aq (pgn 6 sc38s.nd) (aq (pgn 7 sc38s.nd) (aq (pgn 8 sc38s.nd) aW))))))))
   (aB (pss 9 sc38s.nd (pX bZ (cJ (az (pv 3) (az (pv 3) (az (aJ c1 hr (az (pv 0) (az aC ao))) ao)))) (aJ c1 hr (az (pv 0) (az aC ao)))))
   (aB (pss 10 sc38s.nd (aU gB (aU bL (aU bL (pv 9) aC) (aJ c1 hr (az (pv 0) (az aC ao)))) aC))
   (aB (pss 11 sc38s.nd (aU bL (pv 5) (aJ c1 hr (az (pv 0) (az (aU bL (aU fj (pv 6) (pv 5)) aC) ao)))))
   (aF (aO (El (uG (jd ⟨pv 2⟩ (jd ⟨pv 9⟩ (jd ⟨pv 10⟩ (jd ⟨aU bL aC (aJ c1 hr (az (pv 0) (az (pv 7) ao)))⟩ (jd ⟨pv 11⟩ gD))))))))))))),?_⟩
  have g0:Dr st H H:=⟨But.refl,fE⟩
  have Rf:xp.length<=10:=by rw[rp.l];exact lp
  refine aH (aX ?_);refine⟨_,rfl,_,rfl,ap,xp,rfl,.inr (SqT.of rp.e),_,_,rfl,st,_,rfl,fE,?_,?_,fun r1 a1 b1 r0 rn k1 k2 k3=>?_⟩
  .split<;>lia
  .split<;>lia
  have g1:=g0.take k1 k2 k3;have sj:=g1.rows fE rp;have Rg:r1.toNat<xp.length+1:=by split at rn<;>lia
  generalize upd H st (.lst [.int a1,.int b1])=H1 at g1 sj⊢;refine aM ?_;dsimp only;refine aH ?_;refine⟨_,rfl,zL,fun t0 Km=>⟨zL,fun t1 xS=>?_⟩⟩;have g2:=(g1.new (o:=.tup (([0,0,0,3,9,0]:List Int).map V.int)) Km).new (o:=.tup [V.ref t0]) xS;have m2:Same H1 (upd (upd H1 t0 (.tup (([0,0,0,3,9,0]:List Int).map V.int))) t1 (.tup [V.ref t0])):=(Same.upd Km).updR xS;have Kn:=Same.upd (o:=.tup [V.ref t0]) xS t0 (.tup (([0,0,0,3,9,0]:List Int).map V.int)) aj;have Ko:upd (upd H1 t0 (.tup (([0,0,0,3,9,0]:List Int).map V.int))) t1 (.tup [V.ref t0]) t1=some (.tup [V.ref t0]):=aj;generalize upd (upd H1 t0 (.tup (([0,0,0,3,9,0]:List Int).map V.int))) t1 (.tup [V.ref t0])=H2 at g2 m2 Kn Ko⊢;refine⟨ap,t1,xp,_,rfl,rfl,m2 _ _ sj.e,Ko,by simp,by rw[sizeLine_eq];show xp.length+1<=_;lia,fun c H3 s3 ec=>?_⟩;have g3:=g2.same s3;have MV:=pq ((sj.same m2).same s3) (s3 _ _ Kn) ec
  have D1:∀r∈ps++[[0,0,0,3,9,0]],okP r:=fun r hr=>by
   rcases zA6.mp hr with z|z
   .exact okp r z
   .rw[List.mem_singleton.mp z];exact⟨rfl,by decide,by decide,by decide,by decide,by decide⟩
  obtain⟨p,hp,_,op⟩:=eV (n:=r1) D1 r0 (by rw[zA2,<-rp.l];show r1<((xp.length+1:Nat):Int);lia);obtain⟨tp,bP,bS⟩:=dR MV r0 hp;rw[dC op.1]at bS;obtain⟨_,⟨p1,p2⟩,_,⟨p3,p4,p5⟩,⟨p6,p7⟩,_⟩:=id op;refine⟨_,rfl,c,_,r1,.ref tp,rfl,rfl,SqT.of ec,bP,?_⟩;refine⟨tp,_,rfl,SqT.of bS,rfl,_,_,rfl,_,_,rfl,_,_,rfl,_,_,rfl,_,_,rfl,_,_,rfl,rfl,?_⟩;dsimp only;refine aH (aX ?_);refine⟨_,rfl,_,rfl,_,rfl,st,8,rfl,g3.sa,by decide,by decide,fun r2 a2 b2 i0 i1 k4 k5 k6=>⟨zL,fun l1 fz=>?_⟩⟩;have g4:=(g3.take k4 k5 k6).new (o:=.lst [V.int (fl p 0),V.int (fl p 0),V.int r2]) fz;have n4:=(g3.take k4 k5 k6).ne fz;refine⟨_,rfl,st,3,rfl,g4.sa,by decide,by decide,fun r3 a3 b3 i2 i3 k7 k8 k9=>?_⟩
  obtain⟨sl,MW,Rh,oz⟩:∃sl:Int,atI [V.int (fl p 0),V.int (fl p 0),V.int r2] r3=some (.int sl)/\0<=sl/\sl<8:=by
   have:r3=0\/r3=1\/r3=2:=Zz
   rcases this with rfl|rfl|rfl
   .exact⟨_,rfl,p1,p2⟩
   .exact⟨_,rfl,p1,p2⟩
   .exact⟨_,rfl,i0,i1⟩
  have g5:=g4.take k7 k8 k9;refine⟨l1,_,r3,.int sl,rfl,rfl,SqL.of (by rw[aA n4];exact aj),MW,?_⟩;refine aM ?_;dsimp only;refine aH (aX ?_);refine⟨_,rfl,_,_,rfl,rfl,_,rfl,st,7,rfl,g5.sa,by decide,by decide,fun r4 a4 b4 i4 i5 m1 MX m3=>⟨_,_,rfl,rfl,_,_,rfl,rfl,(by show(0:Int)<8;decide),?_⟩⟩;have g6:=g5.take m1 MX m3;refine aM ?_;dsimp only;refine aH (aX ?_);refine⟨_,rfl,_,rfl,_,rfl,_,rfl,_,_,rfl,rfl,_,_,rfl,rfl,st,_,rfl,g6.sa,Zz,Zz,fun r5 a5 b5 i6 i7 m4 m5 m6=>⟨_,_,rfl,rfl,?_⟩⟩;have g7:=g6.take m4 m5 m6;refine aM ?_;dsimp only;refine⟨_,rfl,_,rfl,_,rfl,_,rfl,_,rfl,st,_,rfl,g7.sa,p6,Zz,fun r6 a6 b6 i8 i9 m7 m8 m9=>⟨_,_,rfl,rfl,_,rfl,zL,fun t ht=>?_⟩⟩;have g8:=g7.take m7 m8 m9;refine q t [r1,sl,(sl+1+r4) % 8,1+r6,fl p 2+r5] _ (g8.new ht) aj ⟨rfl,fun i hi=>?_⟩;simp only[List.mem_cons,List.not_mem_nil,or_false]at hi
  have e8:0<=(sl+1+r4) % 8/\(sl+1+r4) % 8<8:=⟨Int.emod_nonneg _ Zx,Int.emod_lt_of_pos _ Zx⟩
  lia
theorem sc39s:FnScope ["_law_state_here","_law_promises_here","_law_most","_law_found","_law_turn","_law_more"] ["_law_state_here","_law_promises_here","_law_most"] (aK (top 69)):=fQS
theorem sc40s:FnScope ["_law_state_here","_law_years","_law_most","_law_sales_here","_law_clips_here","_law_promises_here"] ["_law_state_here","_law_years","_law_most","_law_sales_here"] (aK (top 70)):=fQS
def okC(r:List Int):Prop:=r.length=3/\∀x∈r,0<=x/\x<1000
def J0(st:Addr)(H:Hp)(n:Int)(v:V)(H':Hp):Prop:=∃cs:List (List Int),But st H H'/\jo H' st/\IsTh (fun _=>False) H' v (bW cs)/\1<=cs.length/\(cs.length:Int)<=n/\∀r∈cs,okC r
inductive SpClipsRI(vs:List V)(H:Hp)(Q:VK):Prop
 |mk:∀st n,(vs=[.ref st,.int n])->(jo H st)->(1<=n)->(n<=20)->(∀v H',J0 st H n v H'->Q v H')->SpClipsRI  vs H Q
def u5:Sp:=fun vs H Q _=>SpClipsRI  vs H Q
inductive SpSalesUI(vs:List V)(H:Hp)(Q:VK):Prop
 |mk:∀st ap xp ps n,(vs=[.ref st,.ref ap,.int n])->(jo H st)->(RowsAt H ap xp ps)->(ps.length<=10)->((∀r∈ps,okP r))->(0<=n)->(n<=12)->(∀a xs ss H',Dr st H H'->RowsAt H' a xs ss->(ss.length:Int)<=n->(∀s∈ss,smR s)->un ps ss=none->Q (.ref a) H')->SpSalesUI  vs H Q
def ud:Sp:=fun vs H Q _=>SpSalesUI  vs H Q
inductive SpBookRI(vs:List V)(H:Hp)(Q:VK):Prop
 |mk:∀(st:Addr) (y m k:Int),(vs=[.ref st,.int y,.int m,.int k])->(jo H st)->(1<=y)->(y<=20)->(1<=m)->(m<=10)->(0<=k)->(k<=12)->(∀a ac xc cs ap xp ps af xs ss H',Dr st H H'->H' a=some (.tup [.ref ac,.ref ap,.ref af])->RowsAt H' ac xc cs->1<=cs.length->(cs.length:Int)<=y->(∀r∈cs,okC r)->RowsAt H' ap xp ps->(ps.length:Int)<=m->(∀r∈ps,okP r)->RowsAt H' af xs ss->(ss.length:Int)<=k->(∀s∈ss,smR s)->un ps ss=none->Q (.ref a) H')->SpBookRI  vs H Q
def wF:Sp:=fun vs H Q _=>SpBookRI  vs H Q
theorem yp(F:Fun K "_law_clips" "_law_clips" (top 62) f fd)(T:Mg mg)(Tr:mg "range"=none)(c1:Cal P w K mg base 1 "_law_take" ["_law_state_here","_law_many"] mQ):FnOk P w K mg base CX0 2 f fd ["_law_state_here","_law_most"] u5:=by
 refine F.ok sc21 (fun vs H Q E h=>?_) (fun ar A outer s H vs Q E hr h=>?_)
 .obtain⟨st,n,rfl,_⟩:=h;rfl
 .obtain⟨st,n,rfl,fE,n1,n2,q⟩:=h
  refine⟨_,aB (pR (i:=2) sc21.nd rfl (Or.inr rfl) (pX bZ (cJ (jc (by repeat constructor))) (aJ c1 hr (az (pv 0) (az aC ao)))))
   (aB (pss 3 sc21.nd (cJ ao))
   (aB (cD zB5 rfl (cY rfl Tr (az (aU bL aC (aJ c1 hr (az (pv 0) (az (pv 1) ao)))) ao)) (pgn 4 sc21.nd)
    (aF (cW (oG zBg zBf zBe fc (pv 3) (az (dw cU rfl T.tuple boot_tuple (az
     (cC ["_law_sort","_law_state_here","_law_wide"] [none,some 0,some 2] rfl (cY rfl Tr (az aC ao))
      (fun C fp Zt s₂ H₂=>⟨pgn 0 JK,c7,aJ c1 hr (az (pv 1) (az (pX (tE (K:=K) rfl) (cJ (az (pv 2) (az aC (az (pv 2) (az aC ao))))) (aJ c1 hr (az (pv 1) (az aC ao)))) ao))⟩)
      (fun C=>cI (cI trivial)) ⟨rfl,rfl,rfl,rfl⟩) ao)) ao)))))
   (aF (aO (dw cU rfl T.tuple boot_tuple (az (pv 3) ao)))))),?_⟩
  obtain⟨a,b,es,h1,h2,h3⟩:=id fE;refine aH (aX ?_);refine⟨zL,fun p hp=>?_⟩
  have np:p≠st:=fun z=>by
   rw[z,es]at hp;cases hp
  have kS:∀o,upd H p o st=some (.lst [.int a,.int b]):=fun o=>by rw[aA np.symm];exact es
  refine⟨_,rfl,st,4,rfl,⟨a,b,kS _,h1,h2,h3⟩,by decide,by decide,fun r a1 b1 r0 r1 g1 g2 g3=>?_⟩
  obtain⟨wd,hw,w1,w2⟩:∃wd:Int,atI (([4,14,45,1000]:List Int).map V.int) r=some (.int wd)/\1<=wd/\wd<=1000:=by
   have:r=0\/r=1\/r=2\/r=3:=Zz
   rcases this with rfl|rfl|rfl|rfl
   .exact⟨4,rfl,by decide,by decide⟩
   .exact⟨14,rfl,by decide,by decide⟩
   .exact⟨45,rfl,by decide,by decide⟩
   .exact⟨1000,rfl,by decide,by decide⟩
  refine⟨p,_,r,.int wd,rfl,rfl,SqL.of (by rw[aA np];exact aj),hw,?_⟩;refine aM ?_;dsimp only;refine aH (aX ?_);refine⟨zL,fun p3 kz=>?_⟩;refine aM ?_;dsimp only;refine aH ?_
  have fq:p3≠st:=fun z=>by
   rw[z,aj]at kz;cases kz
  refine⟨_,rfl,_,rfl,st,n,rfl,⟨a1,b1,by rw[aA fq.symm];exact aj,g1,g2,g3⟩,n1,Zz,fun r2 a2 b2 x0 x1 y1 y2 y3=>⟨_,_,rfl,rfl,1+r2,rfl,Zz,Zz,?_⟩⟩
  have nh:∀b' o',H b'=some o'->b'≠st->b'≠p/\b'≠p3:=fun b' o' e' ne=>by
   have z:b'≠p:=aG e' hp;refine⟨z,fun z2=>?_⟩;rw[<-z2,aA ne,aA z,e']at kz;cases kz
  refine cT (lo:=0) (n:=(1+r2).toNat) (fun i σ H'=>∃xs,∃ds:List (List Int),∃x4,σ=[some (.ref st),some (.int n),some (.int wd),some (.ref p3),x4]/\But st H H'/\jo H' st/\H' p3=some (.lst xs)/\IsThs (fun _=>False) H' xs (ds.map bV)/\(∀r∈ds,okC r)/\ds.length=i/\xs.length=i) ?_ ?_ ?_
  .refine⟨[],[],none,rfl,fun b' o' e' ne=>?_,⟨a2,b2,aj,y1,y2,y3⟩,?_,.nil,(fun r hr=>by cases hr),rfl,rfl⟩
   .obtain⟨k1,k2⟩:=nh b' o' e' ne;rw[aA ne,aA k2,aA ne,aA k1];exact e'
   .rw[aA fq];exact aj
  .rintro i σ H' hi ⟨xs,ds,x4,rfl,bt,sa,e3,ts,tm,hs,hl⟩;refine aM ?_;refine⟨_,rfl,.inl ⟨rfl,_,SqL.of e3⟩,3,rfl,by decide,by decide,?_⟩;refine⟨fun j m ys Kp H2=>m=3-j/\j<=3/\∃is x0,ys=is.map V.int/\is.length=j/\(∀v∈is,0<=v/\v<1000)/\Kp=[x0,some (.ref st),some (.int wd)]/\But st H' H2/\jo H2 st,⟨3,rfl,by decide,[],none,rfl,rfl,(fun _ h=>nomatch h),rfl,fun _ _ e _=>e,sa⟩,?_⟩;rintro j m ys Kp H2 ⟨rfl,hj,is,x0,rfl,D2,hv,rfl,AK,Kq⟩;refine⟨by rw[zA1,D2,sizeLine_eq];lia,?_⟩;by_cases aw:j<3
   .refine .inr ⟨aw,fun x H3 y=>?_⟩;obtain⟨e5,e6⟩:=y;subst e5;subst e6;refine aM ?_;obtain⟨a5,b5,e7,k1,k2,k3⟩:=Kq;refine⟨_,rfl,_,rfl,_,rfl,zL,fun p4 D3=>?_⟩
    have Kr:p4≠st:=fun z=>by
     rw[z,e7]at D3;cases D3
    refine⟨_,rfl,st,4,rfl,⟨a5,b5,by rw[aA Kr.symm];exact e7,k1,k2,k3⟩,by decide,by decide,fun r3 a6 b6 z0 z1 l1 l2 l3=>?_⟩
    obtain⟨wn,MY,u1,u2⟩:∃wn:Int,atI [V.int wd,V.int 1,V.int wd,V.int 3] r3=some (.int wn)/\1<=wn/\wn<=1000:=by
     have:r3=0\/r3=1\/r3=2\/r3=3:=Zz
     rcases this with rfl|rfl|rfl|rfl
     .exact⟨wd,rfl,w1,w2⟩
     .exact⟨1,rfl,by decide,by decide⟩
     .exact⟨wd,rfl,w1,w2⟩
     .exact⟨3,rfl,by decide,by decide⟩
    refine⟨p4,_,r3,.int wn,rfl,rfl,SqL.of (by rw[aA Kr];exact aj),MY,st,wn,rfl,⟨a6,b6,aj,l1,l2,l3⟩,u1,Zz,fun r4 a7 b7 v0 v1 m1 m2 m3=>?_⟩;refine⟨3-(j+1),Zz,rfl,aw,is++[r4],_,by rw[zA4];rfl,by rw[zA2,D2];rfl,fun v MZ=>?_,rfl,fun b' o' e' ne=>?_,⟨a7,b7,aj,m1,m2,m3⟩⟩
    .rcases zA6.mp MZ with z|z
     .exact hv v z
     .rw[List.mem_singleton.mp z];lia
    .have e8:=AK b' o' e' ne;rw[aA ne,aA ne,aA (aG e8 D3)];exact e8
   .have e5:j=3:=Zz
    subst e5;have e9:=AK _ _ e3 fq;refine .inl ⟨zA3 _,fun D hD=>⟨D,_,rfl,.inl ⟨SqL.of aj,fun l kq=>?_⟩⟩⟩;have sm:Same H2 (upd (upd H2 D (.lst (is.map V.int))) l (.tup (is.map V.int))):=(Same.upd hD).updR kq;refine⟨p3,xs,.ref l,rfl,rfl,sm _ _ e9,by rw[hl,sizeLine_eq];lia,?_⟩
    have wc:l≠p3:=fun z=>by
     rw[z,Same.upd hD _ _ e9]at kq;cases kq
    have tk:∀c l',(upd (upd H2 D (.lst (is.map V.int))) l (.tup (is.map V.int))) c=some (.tup l')->(upd (upd (upd H2 D (.lst (is.map V.int))) l (.tup (is.map V.int))) p3 (.lst (xs++[.ref l]))) c=some (.tup l'):=fun c l' e'=>by
     have:c≠p3:=fun z=>by
      rw[z,sm _ _ e9]at e';cases e'
     rw[aA this];exact e'
    refine⟨xs++[.ref l],ds++[is],_,rfl,fun b' o' e' ne=>?_,?_,aj,?_,?_,?_,by rw[zA2,hl];rfl⟩
    .have k4:=(nh b' o' e' ne).2;rw[aA k4];exact sm _ _ (AK _ _ (bt b' o' e' ne) ne)
    .obtain⟨a5,b5,e7,k1,k2,k3⟩:=Kq;exact⟨a5,b5,by rw[aA fq.symm];exact sm _ _ e7,k1,k2,k3⟩
    .rw[zA4];refine IsThs.append ?_ (.cons (.tup (by rw[aA wc];exact aj) (IsThs.ints is)) .nil)
     have M0:IsThs (fun _=>False) H2 xs (ds.map bV):=ts.keep (fun c l' e'=>AK c _ e' (fun z=>by
      obtain⟨a5,b5,e7,_⟩:=sa;rw[z,e7]at e'
      cases e')) (fun _ _ z _=>z.elim) fun _ _ z _=>z.elim
     exact(M0.same sm).keep tk (fun _ _ z _=>z.elim) fun _ _ z _=>z.elim
    .intro r hr;rcases zA6.mp hr with z|z
     .exact tm r z
     .rw[List.mem_singleton.mp z];exact⟨D2,hv⟩
    .rw[zA2,hs];rfl
  .rintro σ H' ⟨xs,ds,x4,rfl,bt,sa,e3,ts,tm,hs,hl⟩;refine⟨_,rfl,p3,xs,rfl,.inl ⟨SqL.of e3,fun l kB=>q _ _ ⟨ds,fun b' o' e' ne=>?_,?_,.tup aj ?_,Zz,Zz,tm⟩⟩⟩
   .rw[aA (aG (bt b' o' e' ne) kB)];exact bt b' o' e' ne
   .obtain⟨a',b',e',j1,j2,j3⟩:=sa;exact⟨a',b',by rw[aA (aG e' kB)];exact e',j1,j2,j3⟩
   .exact(ts.same (Same.upd kB)).keep (fun _ _ e=>e) (fun _ _ z _=>z.elim) fun _ _ z _=>z.elim
theorem Ao{u:Option Nat}(h:decide (unV u=.non)=true):u=none:=by
 have:=zB2 h
 cases u with
 |none=>rfl
 |some n=>cases this
theorem yq(F:Fun K "_law_sales" "_law_sales" (top 69) f fd)(T:Mg mg)(Tr:mg "range"=none)(c1:Cal P w K mg base 1 "_law_take" ["_law_state_here","_law_many"] mQ)(c2:Cal P w K mg base 2 "_law_any_sale" ["_law_state_here","_law_promises_here"] Eu)(c3:Cal P w K mg base 2 "_law_sold" ["_law_promises_here","_law_sales_here"] Am):
  FnOk P w K mg base CX0 3 f fd ["_law_state_here","_law_promises_here","_law_most"] ud:=by
 refine F.ok sc39s (fun vs H Q E h=>?_) (fun ar A outer s H vs Q E hr h=>?_)
 .obtain⟨st,ap,xp,ps,n,rfl,_⟩:=h;rfl
 .obtain⟨st,ap,xp,ps,n,rfl,fE,rp,lp,okp,n0,n1,q⟩:=h
  refine⟨_,aB (pss 3 sc39s.nd (Cq gD))
   (aB (cD zB5 rfl (cY rfl Tr (az (aU fV (aJ c1 hr (az (pv 0) (az (aU bL (pv 2) aC) ao))) (dw xf rfl T.int boot_int (az (dM lG (aN bF rfl T.len PySem.boot_len (az (pv 1) ao)) aC (bf _)) ao))) ao)) (pgn 4 sc39s.nd)
    (aB (pss 5 sc39s.nd (aU wC (pv 3) (cz (az (aJ c2 hr (az (pv 0) (az (pv 1) ao))) ao))))
    (aF (cj (bz yI (pX bC (aJ c3 hr (az (pv 1) (az (pv 5) ao))) aC) pO (bf _)) (aF (pss 3 sc39s.nd (pv 5))) aZ))))
   (aF (aO (pv 3)))),?_⟩
  have g0:Dr st H H:=⟨But.refl,fE⟩
  refine aH (aX ?_);refine⟨zL,fun e0 Ks=>?_⟩;have g1:=g0.new (o:=.tup []) Ks
  have r1:RowsAt (upd H e0 (.tup [])) e0 [] []:=⟨aj,rfl,fun i r e=>by simp at e⟩
  have sj:=rp.same (Same.upd (o:=.tup []) Ks);generalize upd H e0 (.tup [])=H1 at g1 r1 sj⊢;refine aM ?_;dsimp only;refine aH ?_;refine⟨_,rfl,_,rfl,_,_,rfl,rfl,st,n+1,rfl,g1.sa,Zz,Zz,fun r a1 b1 k0 kn k1 k2 k3=>?_⟩;have g2:=g1.take k1 k2 k3;have D4:=(Dr.take ⟨But.refl,g1.sa⟩ k1 k2 k3:Dr st H1 _).rows g1.sa sj;have r2:=(Dr.take ⟨But.refl,g1.sa⟩ k1 k2 k3:Dr st H1 _).rows g1.sa r1;generalize upd H1 st (.lst [.int a1,.int b1])=H2 at g2 D4 r2⊢;refine⟨_,rfl,ap,xp,rfl,.inr (SqT.of D4.e),_,_,rfl,rfl,.inr ⟨_,rfl,_,_,rfl,rfl,.inl ⟨Zz,Zz⟩,_,rfl,?_,?_,?_⟩⟩
  .split<;>lia
  .split<;>lia
  refine cT (lo:=0) (fun i σ Hc=>∃a xs ss x4 x5,σ=[some (.ref st),some (.ref ap),some (.int n),some (.ref a),x4,x5]/\Dr st H Hc/\RowsAt Hc ap xp ps/\RowsAt Hc a xs ss/\ss.length<=i/\(∀s∈ss,smR s)/\un ps ss=none) ?_ ?_ ?_
  .exact⟨e0,[],[],none,none,rfl,g2,D4,r2,zA3 _,(fun _ h=>nomatch h),rfl⟩
  .rintro i σ Hc hi ⟨a,xs,ss,x4,x5,rfl,g,D5,AL,ls,cw,qA⟩;have hi:i<12:=by split at hi<;>lia
   refine aM (aH ?_);refine aX ?_;refine⟨_,rfl,_,rfl,_,rfl,st,ap,xp,ps,rfl,g.sa,D5,lp,okp,fun t s' H3 d3 et sm=>⟨zL,fun t1 xS=>?_⟩⟩;have M3:=d3.rows g.sa D5;have D6:=d3.rows g.sa AL;have m4:=Same.upd (o:=.tup [V.ref t]) xS;refine⟨a,t1,xs,_,rfl,rfl,m4 _ _ D6.e,aj,by simp,by rw[AL.l,sizeLine_eq];show _+1<=_;lia,fun c H5 s5 ec=>?_⟩;have Kt:=pq ((D6.same m4).same s5) (s5 _ _ (m4 _ _ et)) ec;have D7:=(M3.same m4).same s5;have g5:=((g.trans d3).same m4).same s5
   have Ku:∀s∈ss++[s'],smR s:=fun s hs=>by
    rcases zA6.mp hs with z|z
    .exact cw s z
    .rw[List.mem_singleton.mp z];exact sm
   have l5:(ss++[s']).length<=i+1:=by rw[zA2];show ss.length+1<=_;lia
   refine aM ?_;dsimp only;refine⟨_,rfl,_,rfl,ap,xp,ps,c,_,ss++[s'],rfl,D7,lp,okp,Kt,Zz,fun s hs=>(Ku s hs).1,fun tt fo H6 s6 M4=>?_⟩;refine⟨tt,_,1,unV (un ps (ss++[s'])),rfl,rfl,SqT.of M4,rfl,rfl,_,rfl,Ce (fun hb=>?_) fun _=>?_⟩
   .exact⟨_,rfl,c,_,ss++[s'],_,_,rfl,g5.same s6,D7.same s6,Kt.same s6,l5,Ku,Ao hb⟩
   .exact⟨a,xs,ss,_,_,rfl,g5.same s6,D7.same s6,((D6.same m4).same s5).same s6,Zz,cw,qA⟩
  .rintro σ Hc ⟨a,xs,ss,x4,x5,rfl,g,D5,AL,ls,cw,qA⟩;refine⟨_,rfl,q a xs ss Hc g AL ?_ cw qA⟩;split at ls<;>lia
theorem yr(F:Fun K "_law_book" "_law_book" (top 70) f fd)(T:Mg mg)(c1:Cal P w K mg base 2 "_law_clips" ["_law_state_here","_law_most"] u5)(c2:Cal P w K mg base 2 "_law_promises" ["_law_state_here","_law_most","_law_years"] tZ)(c3:Cal P w K mg base 3 "_law_sales" ["_law_state_here","_law_promises_here","_law_most"] ud):
  FnOk P w K mg base CX0 4 f fd ["_law_state_here","_law_years","_law_most","_law_sales_here"] wF:=by
 refine F.ok sc40s (fun vs H Q E h=>?_) (fun ar A outer s H vs Q E hr h=>?_)
 .obtain⟨st,y,m,k,rfl,_⟩:=h;rfl
 .obtain⟨st,y,m,k,rfl,fE,y1,y2,m1,m2,k1,k2,q⟩:=h
  refine⟨_,aB (pss 4 sc40s.nd (aJ c1 hr (az (pv 0) (az (pv 1) ao))))
   (aB (pss 5 sc40s.nd (aJ c2 hr (az (pv 0) (az (pv 2) (az (aN bF rfl T.len PySem.boot_len (az (pv 4) ao)) ao)))))
   (aF (aO (cz (az (pv 4) (az (pv 5) (az (aJ c3 hr (az (pv 0) (az (pv 5) (az (pv 3) ao)))) ao))))))),?_⟩
  refine aH (aX ?_);refine⟨_,rfl,_,rfl,st,y,rfl,fE,y1,y2,fun vc H1 mc=>?_⟩;obtain⟨cs,M5,D8,M6,lc1,Kv,okc⟩:=mc
  have d1:Dr st H H1:=⟨M5,D8⟩
  obtain⟨ac,xc,rfl,rc⟩:=lu M6;refine aM ?_;dsimp only;refine aH (aX ?_);have lc:=rc.l;refine⟨_,rfl,_,rfl,_,rfl,ac,xc,rfl,.inr (SqT.of rc.e),st,m,_,rfl,D8,m1,m2,Zz,Zz,fun vp H2 mp=>?_⟩;obtain⟨ps,M7,AM,AB,Ri,okp⟩:=mp
  have d2:Dr st H1 H2:=⟨M7,AM⟩
  obtain⟨ap,xp,rfl,rp⟩:=lu AB;have M8:=d2.rows D8 rc;refine aM ?_;dsimp only;refine⟨_,rfl,_,rfl,_,rfl,_,rfl,_,rfl,st,ap,xp,ps,k,rfl,AM,rp,Zz,okp,k1,k2,fun af xs ss H3 d3 rs ls cw qA=>⟨zL,fun a ha=>?_⟩⟩;have D9:=(d1.trans d2).trans d3;have ma:=Same.upd (o:=.tup [V.ref ac,V.ref ap,V.ref af]) ha;exact q a ac xc cs ap xp ps af xs ss _ (D9.new ha) aj ((d3.rows AM M8).same ma) lc1 Kv okc ((d3.rows AM rp).same ma) Zz okp (rs.same ma) Zz cw qA
inductive SpRefBI(vs:List V)(H:Hp)(Q:VK):Prop
 |mk:∀S v d,(vs=[v])->(IsTh S H v d)->(sz d<=4000)->(jX d=true)->(∀H',Same H H'->Q .non H')->SpRefBI  vs H Q
def uY:Sp:=fun vs H Q _=>SpRefBI  vs H Q
inductive SpRefYI(vs:List V)(H:Hp)(Q:VK):Prop
 |mk:∀ac xc cs y,(vs=[.ref ac,.int y])->(RowsAt H ac xc cs)->(0<=y)->(y<cs.length)->(∀H',Same H H'->Q .non H')->SpRefYI  vs H Q
def Aq:Sp:=fun vs H Q _=>SpRefYI  vs H Q
theorem J1:FnScope ["thing","least","most"] ["thing","least","most"] (aK (top 10)):=fQS
theorem nZ(F:Fun K "is_whole_from" "is_whole_from" (top 10) f fd)(c1:Cal P w K mg base 1 "is_whole" ["thing"] (spT d7)):FnOk P w K mg base CX0 2 f fd ["thing","least","most"] (jF kJ):=by
 refine F.ok J1 (fun vs H Q E h=>?_) (fun ar A outer s H vs Q E hr h=>?_)
 .obtain⟨S,v,d,n,m,rfl,_⟩:=h;rfl
 .obtain⟨S,v,d,n,m,rfl,th,hz,q⟩:=h;refine⟨_,aF (aO (cG (aJ c1 hr (aQ (pv 0) ao)) (dH (cX bM bM (pv 1) (pv 0) (pv 2))))),?_⟩;refine⟨_,rfl,S,v,d,rfl,th,hz,fun H1 s1=>⟨_,rfl,?_⟩⟩;have fin:=q H1 s1;unfold kJ at fin
  cases e:d7 d with
  |false=>
   rw[e]at fin;exact bw fin
  |true=>
   rw[e]at fin;obtain⟨i,rfl,rfl⟩:=jH th e;exact bI (bQ (dB rfl) (dB rfl) (dB rfl) _ fin)
theorem J2:FnScope ["thing"] ["thing"] (aK (top 33)):=fQS
theorem Dt(F:Fun K "refuse_no_book" "refuse_no_book" (top 33) f fd)(c1:Cal P w K mg base 6 "is_book" ["thing"] (spT jX)):FnOk P w K mg base CX0 7 f fd ["thing"] uY:=by
 refine F.ok J2 (fun vs H Q E h=>?_) (fun ar A outer s H vs Q E hr h=>?_)
 .obtain⟨S,v,d,rfl,_⟩:=h;rfl
 .obtain⟨S,v,d,rfl,th,hz,hb,q⟩:=h;refine⟨_,aF (cj (cu (di (aJ c1 hr (aQ (pv 0) ao)))) (aF fZ) aZ),?_⟩;refine⟨_,rfl,S,v,d,rfl,th,hz,fun H1 s1=>⟨_,rfl,?_⟩⟩;rw[hb];exact bw (q _ s1)
theorem J3:FnScope ["clips","year"] ["clips","year"] (aK (top 51)):=fQS
theorem Du(F:Fun K "refuse_no_year_of" "refuse_no_year_of" (top 51) f fd)(T:Mg mg)(c1:Cal P w K mg base 2 "is_whole_from" ["thing","least","most"] (jF kJ)):FnOk P w K mg base CX0 3 f fd ["clips","year"] Aq:=by
 refine F.ok J3 (fun vs H Q E h=>?_) (fun ar A outer s H vs Q E hr h=>?_)
 .obtain⟨ac,xc,cs,y,rfl,_⟩:=h;rfl
 .obtain⟨ac,xc,cs,y,rfl,rc,y0,y1,q⟩:=h;refine⟨_,aF (cj (cu (di (aJ c1 hr (az (pv 1) (az aC (az (aU fj (aN bF rfl T.len PySem.boot_len (az (pv 0) ao)) aC) ao)))))) (aF fZ) aZ),?_⟩;refine⟨_,rfl,_,rfl,ac,_,rfl,.inr (SqT.of rc.e),_,_,rfl,rfl,fun _=>False,.int y,.int y,0,_,rfl,.int _,(by show 1<=4000;decide),fun H1 s1=>⟨_,rfl,?_⟩⟩
  have e:kJ (.int y) 0 ((xc.length:Int)-1)=true:=by
   show(true&&(decide (0<=y)&&decide (y<=(xc.length:Int)-1)))=true;rw[zAt y0,zAt (by rw[rc.l];lia)];rfl
  rw[e];exact bw (q _ s1)
structure BookAt(H:Hp)(bk ac:Addr)(xc:List V)(cs:List (List Int))(ap:Addr)(xp:List V)(ps:List (List Int))(af:Addr)(xs:List V)(ss:List (List Int)):Prop where
 e:H bk=some (.tup [.ref ac,.ref ap,.ref af])
 rc:RowsAt H ac xc cs
 okc:∀r∈cs,r.length=3/\∀x∈r,0<=x
 lc:cs.length<=20
 rp:RowsAt H ap xp ps
 lp:ps.length<=10
 okp:∀r∈ps,okP r
 rs:RowsAt H af xs ss
 ls:ss.length<=12
 h5:∀s∈ss,s.length=5
 un:un ps ss=none
theorem BookAt.same{H H':Hp}{bk ac:Addr}{xc:List V}{cs:List (List Int)}{ap:Addr}{xp:List V}{ps:List (List Int)}{af:Addr}{xs:List V}{ss:List (List Int)}(b:BookAt H bk ac xc cs ap xp ps af xs ss)(s:Same H H'):BookAt H' bk ac xc cs ap xp ps af xs ss:=
 ⟨s _ _ b.e,b.rc.same s,b.okc,b.lc,b.rp.same s,b.lp,b.okp,b.rs.same s,b.ls,b.h5,b.un⟩
def nj(R:List (List Int)->List (List Int)->List (List Int)->Int->VK->Hp->Prop):Sp:=fun vs H Q _=>∃S bk y d ac xc cs ap xp ps af xs ss,vs=[.ref bk,.int y]/\IsTh S H (.ref bk) d/\sz d<=4000/\jX d=true/\BookAt H bk ac xc cs ap xp ps af xs ss/\0<=y/\y<cs.length/\R cs ps ss y Q H
def Dv:List (List Int)->List (List Int)->List (List Int)->Int->VK->Hp->Prop:=fun _ _ _ _ Q H=>∀H',Same H H'->Q .non H'
def Ar:List (List Int)->List (List Int)->List (List Int)->Int->VK->Hp->Prop:=fun cs ps ss y Q H=>∀g xg H',Same H H'->H g=none->g≠sysModules->H' g=some (.lst xg)->Els H' xg (srt (cO cs ps ss y.toNat).g)->Q (.ref g) H'
theorem J5:FnScope ["book","year"] ["book","year"] (aK (top 52)):=fQS
theorem Av(F:Fun K "refuse_no_year" "refuse_no_year" (top 52) f fd)(c1:Cal P w K mg base 7 "refuse_no_book" ["thing"] uY)(c2:Cal P w K mg base 3 "refuse_no_year_of" ["clips","year"] Aq):FnOk P w K mg base CX0 8 f fd ["book","year"] (nj Dv):=by
 refine F.ok J5 (fun vs H Q E h=>?_) (fun ar A outer s H vs Q E hr h=>?_)
 .obtain⟨S,bk,y,d,ac,xc,cs,ap,xp,ps,af,xs,ss,rfl,_⟩:=h;rfl
 .obtain⟨S,bk,y,d,ac,xc,cs,ap,xp,ps,af,xs,ss,rfl,th,hz,hb,B,y0,y1,q⟩:=h;refine⟨_,aB (cW (aJ c1 hr (az (pv 0) ao))) (aF (cW (aJ c2 hr (az (pX bC (pv 0) aC) (az (pv 1) ao))))),?_⟩;refine aH ?_;refine⟨_,rfl,S,_,d,rfl,th,hz,hb,fun H1 s1=>?_⟩;dsimp only;have B1:=B.same s1;exact⟨_,rfl,bk,_,0,.ref ac,rfl,rfl,SqT.of B1.e,rfl,_,rfl,ac,xc,cs,y,rfl,B1.rc,y0,y1,fun H2 s2=>q _ (s1.trans s2)⟩
theorem scYD2:FnScope ["book","year","gifts","owed","left"] ["book","year"] (aK (top 53)):=fQS
theorem Aw(F:Fun K "gifts_in" "gifts_in" (top 53) f fd)(c1:Cal P w K mg base 8 "refuse_no_year" ["book","year"] (nj Dv))(c2:Cal P w K mg base 10 "years_given" ["book","year"] lz):FnOk P w K mg base CX0 11 f fd ["book","year"] (nj Ar):=by
 refine F.ok scYD2 (fun vs H Q E h=>?_) (fun ar A outer s H vs Q E hr h=>?_)
 .obtain⟨S,bk,y,d,ac,xc,cs,ap,xp,ps,af,xs,ss,rfl,_⟩:=h;rfl
 .obtain⟨S,bk,y,d,ac,xc,cs,ap,xp,ps,af,xs,ss,rfl,th,hz,hb,B,y0,y1,q⟩:=h
  refine⟨_,aB (cW (aJ c1 hr (az (pv 0) (az (pv 1) ao))))
   (aB (cH (pX bZ (aJ c2 hr (az (pv 0) (az (pv 1) ao))) (pv 1)) (bG rfl (aq (pgn 2 scYD2.nd) (aq (pgn 3 scYD2.nd) (aq (pgn 4 scYD2.nd) aW)))))
   (aF (aO (pv 2)))),?_⟩
  refine aH ?_;refine⟨_,rfl,_,rfl,S,bk,y,d,ac,xc,cs,ap,xp,ps,af,xs,ss,rfl,th,hz,hb,B,y0,y1,fun H1 s1=>?_⟩;dsimp only;have B1:=B.same s1;refine aH ?_;refine⟨_,rfl,_,rfl,bk,y,ac,xc,cs,ap,xp,ps,af,xs,ss,rfl,B1.e,B1.rc,B1.okc,B1.lc,y0,y1,B1.rp,B1.lp,B1.okp,B1.rs,B1.ls,B1.h5,B1.un,fun l ts H2 s2 nl el lt hy=>?_⟩;have hl:y.toNat<ts.length:=Zz
  obtain⟨g,k,tl,xg,xk,e1,n1,n2,d1,d2,e2,e3,e4,e5,e6⟩:=hy y.toNat ts[y.toNat] (zA0 hl)
  have bP:atI (ts.map V.ref) y=some (.ref ts[y.toNat]):=by
   have:(ts.map V.ref)[y.toNat]?=some (.ref ts[y.toNat]):=by rw[zAb,zA0 hl];rfl
   have:=dN this;rw[show((y.toNat:Nat):Int)=y by lia]at this;exact this
  refine⟨_,rfl,l,_,y,.ref ts[y.toNat],rfl,rfl,SqL.of el,bP,ts[y.toNat],_,rfl,SqT.of e1,rfl,_,_,rfl,_,_,rfl,_,_,rfl,rfl,?_⟩;dsimp only;exact⟨_,rfl,q g xg H2 (s1.trans s2) (s1.free n1) e6.2.1 e2 e3⟩
theorem pC:∀(is:List Int),szs (is.map PyData.int)=is.length
 |[]=>rfl
 |i::is=>by
  show 1+szs (is.map PyData.int)=is.length+1;rw[pC is];lia
theorem jx{k:Nat}:∀{rs:List (List Int)},(∀r∈rs,r.length=k)->szs (rs.map bV)=(k+1)*rs.length
 |[],_=>rfl
 |r::rs,h=>by
  show(1+szs (r.map PyData.int))+szs (rs.map bV)=(k+1)*(rs.length+1);rw[pC,h r (.head _),jx fun q hq=>h q (.tail _ hq),Nat.mul_add];lia
theorem nq:∀(is:List Int),PyData.depthAll (is.map PyData.int)=0
 |[]=>rfl
 |i::is=>by
  show max 0 (PyData.depthAll (is.map PyData.int))=0;rw[nq is];rfl
theorem nu:∀(rs:List (List Int)),PyData.depthAll (rs.map bV)<=1
 |[]=>zAp _
 |r::rs=>by
  show max (PyData.depthAll (r.map PyData.int)+1) (PyData.depthAll (rs.map bV))<=1;rw[nq];have:=nu rs;lia
theorem lA{S:Addr->Prop}{H:Hp}:∀{xs:List V} {rs:List (List Int)},Els H xs rs->IsThs S H xs (rs.map bV)
 |[],[],_=>.nil
 |[],_::_,h=>by have:=h.1;simp at this
 |_::_,[],h=>by have:=h.1;simp at this
 |x::xs,r::rs,h=>by
  obtain⟨t,e1,e2⟩:=h.2 0 r rfl;rw[List.getElem?_cons_zero]at e1;cases e1;refine .cons (.tup e2 (IsThs.ints r)) (lA ⟨by have:=h.1;simpa using this,fun i q e=>?_⟩);obtain⟨u,g1,g2⟩:=h.2 (i+1) q (by rw[List.getElem?_cons_succ];exact e);rw[List.getElem?_cons_succ]at g1;exact⟨u,g1,g2⟩
theorem pF(rs:List (List Int)):rowsOf (bW rs)=rs:=by
 show(rs.map bV).map (fun x=>(items x).map intOf)=rs;rw[zAr];refine(List.map_congr_left fun r _=>?_).trans (List.map_id rs);show((r.map PyData.int)).map intOf=r;rw[zAr];exact List.map_id r
theorem jQ{r:List Int}{n:Nat}(h:r.length=n):bA (bV r) n=true:=by
 show(bx (.tuple (r.map PyData.int)) n n&&(r.map PyData.int).all d7)=true;rw[zAc];refine⟨?_,List.all_eq_true.mpr fun x hx=>?_⟩
 .show(true&&(decide ((n:Int)<=(r.map PyData.int).length)&&decide (((r.map PyData.int).length:Int)<=n)))=true;rw[zA1,h,zAt (Int.le_refl _)];rfl
 .obtain⟨i,_,rfl⟩:=zA5.mp hx;rfl
theorem uZ{ds:List PyData}{a b:Int}(h1:a<=ds.length)(h2:(ds.length:Int)<=b):bx (.tuple ds) a b=true:=by
 show(true&&(decide (a<=(ds.length:Int))&&decide ((ds.length:Int)<=b)))=true;rw[zAt h1,zAt h2];rfl
theorem Dw{cs ps ss:List (List Int)}(lc1:1<=cs.length)(lc:cs.length<=20)(okc:∀r∈cs,okC r)(lp:ps.length<=10)(okp:∀r∈ps,okP r)(ls:ss.length<=12)(h5:∀s∈ss,s.length=5)(hu:un ps ss=none):jX (.tuple [bW cs,bW ps,bW ss])=true:=by
 have b0:gW (bW cs)=true:=by
  show(bx (.tuple (cs.map bV)) 1 20&&(cs.map bV).all oW)=true;rw[uZ (by rw[zA1];lia) (by rw[zA1];lia),Bool.true_and];refine List.all_eq_true.mpr fun x hx=>?_;obtain⟨r,hr,rfl⟩:=zA5.mp hx;obtain⟨h3,hb⟩:=okc r hr;show(bA (bV r) 3&&(r.map PyData.int).all fun x=>decide (0<=intOf x)&&decide (intOf x<=999))=true;rw[show bA (bV r) 3=true from jQ h3,Bool.true_and];refine List.all_eq_true.mpr fun x hx=>?_;obtain⟨i,hi,rfl⟩:=zA5.mp hx;have:=hb i hi;show(decide (0<=i)&&decide (i<=999))=true;rw[zAt Zz,zAt Zz];rfl
 have b1:dX (bW ps)=true:=by
  show(bx (.tuple (ps.map bV)) 0 10&&(ps.map bV).all jl)=true;rw[uZ Zz (by rw[zA1];lia),Bool.true_and];refine List.all_eq_true.mpr fun x hx=>?_;obtain⟨r,hr,rfl⟩:=zA5.mp hx;obtain⟨h6,h1,h2,h3,h4,M9⟩:=okp r hr;show(bA (bV r) 6&&qK (at_ (bV r) 0) (at_ (bV r) 1) (at_ (bV r) 2) (at_ (bV r) 3) (at_ (bV r) 4) (at_ (bV r) 5))=true;rw[show bA (bV r) 6=true from jQ h6,Bool.true_and]
  have ea:∀i,i<6->at_ (bV r) i=fl r i:=fun i hi=>by
   unfold at_ fl;show intOf ((r.map PyData.int).getD i .none)=r.getD i 0;rw[zA7,zA7,zAb,zA0 Zz];rfl
  rw[ea 0 Zx,ea 1 Zx,ea 2 Zx,ea 3 Zx,ea 4 Zx,ea 5 Zx];unfold qK;simp only[Bool.and_eq_true,Zp];exact⟨h1,h2,⟨h3.1,h3.2.1,h3.2.2⟩,h4,M9⟩
 have b2:dY (bW ss)=true:=by
  show(bx (.tuple (ss.map bV)) 0 12&&(ss.map bV).all fun x=>bA x 5)=true;rw[uZ Zz (by rw[zA1];lia),Bool.true_and];refine List.all_eq_true.mpr fun x hx=>?_;obtain⟨r,hr,rfl⟩:=zA5.mp hx;exact jQ (h5 r hr)
 show(bx (.tuple [bW cs,bW ps,bW ss]) 3 3&&(gW (bW cs)&&(dX (bW ps)&&(dY (bW ss)&&(un (rowsOf (bW ps)) (rowsOf (bW ss))).isNone))))=true;rw[b0,b1,b2,pF,pF,hu];rfl
def wG:List (List Int)->List (List Int)->List (List Int)->Int->VK->Hp->Prop:=fun cs ps ss y Q H=>∀k xk H',Same H H'->H k=none->k≠sysModules->H' k=some (.lst xk)->Els H' xk (cR cs ps ss (y.toNat+1))->Q (.ref k) H'
def J6(R:List (List Int)->List (List Int)->List (List Int)->Int->VK->Hp->Prop):Sp:=fun vs H Q _=>∃bk y ac xc cs ap xp ps af xs ss,vs=[.ref bk,.int y]/\BookAt H bk ac xc cs ap xp ps af xs ss/\0<=y/\y<cs.length/\R cs ps ss y Q H
theorem scYF1:FnScope ["book","year","gifts","owed","left"] ["book","year"] (aK (top 56)):=fQS
theorem Ax(F:Fun K "owed_behind" "owed_behind" (top 56) f fd)(c2:Cal P w K mg base 10 "years_given" ["book","year"] lz):FnOk P w K mg base CX0 11 f fd ["book","year"] (J6 wG):=by
 refine F.ok scYF1 (fun vs H Q E h=>?_) (fun ar A outer s H vs Q E hr h=>?_)
 .obtain⟨bk,y,ac,xc,cs,ap,xp,ps,af,xs,ss,rfl,_⟩:=h;rfl
 .obtain⟨bk,y,ac,xc,cs,ap,xp,ps,af,xs,ss,rfl,B,y0,y1,q⟩:=h
  refine⟨_,aB (cH (pX bZ (aJ c2 hr (az (pv 0) (az (pv 1) ao))) (pv 1)) (bG rfl (aq (pgn 2 scYF1.nd) (aq (pgn 3 scYF1.nd) (aq (pgn 4 scYF1.nd) aW)))))
   (aF (aO (pv 3))),?_⟩
  refine aH ?_;refine⟨_,rfl,_,rfl,bk,y,ac,xc,cs,ap,xp,ps,af,xs,ss,rfl,B.e,B.rc,B.okc,B.lc,y0,y1,B.rp,B.lp,B.okp,B.rs,B.ls,B.h5,B.un,fun l ts H2 s2 nl el lt hy=>?_⟩;have hl:y.toNat<ts.length:=Zz
  obtain⟨g,k,tl,xg,xk,e1,n1,n2,d1,d2,e2,e3,e4,e5,e6,e7⟩:=hy y.toNat ts[y.toNat] (zA0 hl)
  have bP:atI (ts.map V.ref) y=some (.ref ts[y.toNat]):=by
   have:(ts.map V.ref)[y.toNat]?=some (.ref ts[y.toNat]):=by rw[zAb,zA0 hl];rfl
   have:=dN this;rw[show((y.toNat:Nat):Int)=y by lia]at this;exact this
  refine⟨_,rfl,l,_,y,.ref ts[y.toNat],rfl,rfl,SqL.of el,bP,ts[y.toNat],_,rfl,SqT.of e1,rfl,_,_,rfl,_,_,rfl,_,_,rfl,rfl,?_⟩;dsimp only;exact⟨_,rfl,q k xk H2 s2 n2 e7.2 e4 e5⟩
theorem J7:FnScope ["book","year"] ["book","year"] (aK (top 57)):=fQS
theorem Dy(F:Fun K "owed_by" "owed_by" (top 57) f fd)(c1:Cal P w K mg base 8 "refuse_no_year" ["book","year"] (nj Dv))(c2:Cal P w K mg base 11 "owed_behind" ["book","year"] (J6 wG)):FnOk P w K mg base CX0 12 f fd ["book","year"] (nj wG):=by
 refine F.ok J7 (fun vs H Q E h=>?_) (fun ar A outer s H vs Q E hr h=>?_)
 .obtain⟨S,bk,y,d,ac,xc,cs,ap,xp,ps,af,xs,ss,rfl,_⟩:=h;rfl
 .obtain⟨S,bk,y,d,ac,xc,cs,ap,xp,ps,af,xs,ss,rfl,th,hz,hb,B,y0,y1,q⟩:=h;refine⟨_,aB (cW (aJ c1 hr (az (pv 0) (az (pv 1) ao)))) (aF (aO (aJ c2 hr (az (pv 0) (az (pv 1) ao))))),?_⟩;refine aH ?_;refine⟨_,rfl,_,rfl,S,bk,y,d,ac,xc,cs,ap,xp,ps,af,xs,ss,rfl,th,hz,hb,B,y0,y1,fun H1 s1=>?_⟩;dsimp only;exact⟨_,rfl,_,rfl,bk,y,ac,xc,cs,ap,xp,ps,af,xs,ss,rfl,B.same s1,y0,y1,fun k xk H2 s2 n ns e1 e2=>q k xk H2 (s1.trans s2) (s1.free n) ns e1 e2⟩
def bd(r:List Int):Prop:=r.length=4/\∀x∈r,0<=x/\x<=99
theorem qY{a b c d:Int}(ha:0<=a/\a<=99)(hb:0<=b/\b<=99)(hc:0<=c/\c<=99)(hd:0<=d/\d<=99):bd [a,b,c,d]:=by
 refine⟨rfl,fun x hx=>?_⟩;simp only[List.mem_cons,List.not_mem_nil,or_false]at hx;rcases hx with rfl|rfl|rfl|rfl<;>assumption
theorem Ay{r:List Int}(h:bd r):(0<=fl r 0/\fl r 0<=99)/\(0<=fl r 1/\fl r 1<=99)/\(0<=fl r 2/\fl r 2<=99)/\(0<=fl r 3/\fl r 3<=99):=by
 obtain⟨h4,h⟩:=h;rw[cM h4]at h;exact⟨h _ Zy,h _ Zy,h _ Zy,h _ Zy⟩
theorem J8:∀{w:Int} {S:List (List Int)},∀p∈S.zip (bU w S),p.2<=fl p.1 3:=fun{w S}=>by
 induction S generalizing w with
 |nil=>intro p hp;cases hp
 |cons r S ih=>
  intro p hp;unfold bU at hp;rw[List.zip_cons_cons]at hp;rcases zAo.mp hp with z|z
  .rw[z];show(if w<fl r 3 then w else fl r 3)<=fl r 3;split<;>lia
  .exact ih p z
theorem Gk{c:List Int}{ps ss ow:List (List Int)}{y:Int}(y0:0<=y)(y1:y<=99)(hc:∀x∈c,0<=x)(hu:un ps ss=none)(h5:∀s∈ss,s.length=5)(okp:∀r∈ps,okP r)(hl:ps.length<=10)(ho:∀r∈ow,okO ps r)(hb:∀r∈ow,bd r):∀n,(∀r∈(yTo c ps ss ow y n).g,bd r)/\∀r∈(yTo c ps ss ow y n).k,bd r
 |0=>⟨fun r hr=>(by cases hr),fun r hr=>(by cases hr)⟩
 |n+1=>by
  obtain⟨a,b⟩:=Gk (c:=c) (y:=y) y0 y1 hc hu h5 okp hl ho hb n;have nn:=Dj (y:=y) hc hu h5 okp hl ho n
  have hw:0<=c.getD n 0+(yTo c ps ss ow y n).d:=by
   have:=lw hc n;lia
  have mT:=iG (sort:=n) (year:=y) hu h5 okp;have Kw:=bO (ss:=ss) (sort:=n) (year:=y) hl;generalize Kx:c.getD n 0+(yTo c ps ss ow y n).d=w at hw
  have nr:∀p∈(au ps ss n y++aD ps ow n).zip (shr w (au ps ss n y) (aD ps ow n)),bd p.1/\0<=p.2/\p.2<=fl p.1 3:=fun p hp=>by
   obtain⟨m1,m2⟩:=List.of_mem_zip (show(p.1,p.2)∈_ from hp);have s0:=(qU hw mT Kw (fun r hr=>by have:=(ju (sort:=n) ho r hr).2.2.2;lia)).1 p.2 m2;refine⟨?_,s0,?_⟩
   .rcases zA6.mp m1 with z|z
    .obtain⟨a1,a2,a3,a4,a5,a6⟩:=dF z;obtain⟨b1,b2,b3⟩:=mT _ z;rw[cM b1];exact qY Zz Zz Zz Zz
    .exact hb _ (zAq.mp z).1
   .unfold shr at hp;rw[List.zip_append shares_len.symm]at hp;rcases zA6.mp hp with z|z
    .exact IK hw mT Kw p z
    .exact J8 p z
  refine⟨fun r hr=>?_,fun r hr=>?_⟩
  .rcases zA6.mp (show r∈(yTo c ps ss ow y n).g++bN _ from hr)with z|z
   .exact a r z
   .rw[Kx]at z;obtain⟨p,hp,rfl⟩:=zA5.mp z;obtain⟨b1,b2,b3⟩:=nr p (zAq.mp hp).1;obtain⟨g0,g1,g2,g3⟩:=Ay b1;exact qY g0 g1 g2 Zz
  .rcases zA6.mp (show r∈(yTo c ps ss ow y n).k++bJ _ from hr)with z|z
   .exact b r z
   .rw[Kx]at z;obtain⟨p,hp,rfl⟩:=zA5.mp z;obtain⟨b1,b2,b3⟩:=nr p (zAq.mp hp).1;obtain⟨g0,g1,g2,g3⟩:=Ay b1;exact qY g0 g1 g2 Zz
theorem wH{cs:List (List Int)}(h:∀r∈cs,r.length=3/\∀x∈r,0<=x)(n:Nat):∀x∈cs.getD n [],0<=x:=fun x hx=>by
 rw[zA7]at hx
 cases e:cs[n]? with
 |none=>rw[e]at hx;cases hx
 |some r=>rw[e]at hx;exact(h r (zB6 e)).2 x hx
theorem Ew{cs ps ss:List (List Int)}(gI:∀r∈cs,r.length=3/\∀x∈r,0<=x)(hl:ps.length<=10)(hu:un ps ss=none)(h5:∀s∈ss,s.length=5)(okp:∀r∈ps,okP r):∀n,n<=20->∀r∈cR cs ps ss n,bd r
 |0,_,r,hr=>by cases hr
 |n+1,hn,r,hr=>by
  have ih:=Ew gI hl hu h5 okp n Zz;obtain⟨lS,_⟩:=jw (cs:=cs) hl hu h5 okp n;exact(Gk (y:=n) Zz Zz (wH gI n) hu h5 okp hl lS ih 3).2 r ((dZ _).mem_iff.mp hr)
theorem j6{w:Int}{cl:List (List Int)}(hw:0<=w)(hc:∀r∈cl,r.length=4/\1<=fl r 3/\fl r 3<=99)(hz:cl.length<=80):(aV w cl).sum=min w (aP cl):=by
 unfold aV;by_cases h:(wts cl).sum<=w
 .rw[zAx h];show(wts cl).sum=min w (wts cl).sum;lia
 .rw[zAw h]
  have ok:K23P.OkW (wts cl):=by
   refine⟨?_,by unfold wts;rw[zA1];exact hz,fun x hx=>?_⟩
   .cases fT:cl with
    |nil=>
     rw[fT]at h;exact absurd hw h
    |cons r p9=>
     unfold wts;rw[zA1,zAe];lia
   .obtain⟨r,hr,rfl⟩:=zA5.mp hx;exact(hc r hr).2
  rw[K23P.res_sum ok];show w=min w (wts cl).sum;lia
theorem Az{rs:List (List Int)}(h:∀r∈rs,0<=fl r 3):0<=aP rs:=by
 unfold aP wts;refine(ig fun x hx=>?_).1;obtain⟨q,hq,rfl⟩:=zA5.mp hx;exact h q hq
section
variable{c:List Int}{ps ss ow:List (List Int)}{y:Int}
end
theorem Gm{a b:List Int}(h:a.Perm b):a.sum=b.sum:=by
 induction h with
 |nil=>rfl
 |cons x _ ih=>rw[List.sum_cons,List.sum_cons,ih]
 |swap x y l=>
  rw[List.sum_cons,List.sum_cons,List.sum_cons,List.sum_cons];lia
 |trans _ _ h1 h2=>exact h1.trans h2
theorem Ba{a b:List (List Int)}(h:a.Perm b):aP a=aP b:=by
 unfold aP wts;exact Gm (h.map _)
structure BkO(cs ps ss:List (List Int)):Prop where
 okc:∀r∈cs,r.length=3/\∀x∈r,0<=x
 hl:ps.length<=10
 hu:un ps ss=none
 h5:∀s∈ss,s.length=5
 okp:∀r∈ps,okP r
def hO(r:List Int):Prop:=0<=fl r 2/\fl r 2<8
theorem y_h{c:List Int}{ps ss ow:List (List Int)}{y:Int}(ho:∀r∈ow,hO r):∀n,(∀r∈(yTo c ps ss ow y n).g,hO r)/\∀r∈(yTo c ps ss ow y n).k,hO r
 |0=>⟨fun r hr=>(by cases hr),fun r hr=>(by cases hr)⟩
 |n+1=>by
  obtain⟨a,b⟩:=y_h (c:=c) (ps:=ps) (ss:=ss) (y:=y) ho n
  have nr:∀w,∀p∈(au ps ss n y++aD ps ow n).zip (shr w (au ps ss n y) (aD ps ow n)),hO p.1:=fun w p hp=>by
   obtain⟨m1,m2⟩:=List.of_mem_zip (show(p.1,p.2)∈_ from hp);rcases zA6.mp m1 with z|z
   .obtain⟨a1,a2,a3,a4,a5,a6⟩:=dF z;exact⟨a5,a6⟩
   .exact ho _ (zAq.mp z).1
  refine⟨fun r hr=>?_,fun r hr=>?_⟩
  .rcases zA6.mp (show r∈(yTo c ps ss ow y n).g++bN _ from hr)with z|z
   .exact a r z
   .obtain⟨p,hp,rfl⟩:=zA5.mp z;exact nr _ p (zAq.mp hp).1
  .rcases zA6.mp (show r∈(yTo c ps ss ow y n).k++bJ _ from hr)with z|z
   .exact b r z
   .obtain⟨p,hp,rfl⟩:=zA5.mp z;exact nr _ p (zAq.mp hp).1
theorem J9{cs ps ss:List (List Int)}:∀n,∀r∈cR cs ps ss n,hO r
 |0,r,hr=>by cases hr
 |n+1,r,hr=>(y_h (J9 n) 3).2 r ((dZ _).mem_iff.mp hr)
theorem g_h{cs ps ss:List (List Int)}(n:Nat):∀r∈srt (cO cs ps ss n).g,hO r:=fun r hr=>(y_h (J9 n) 3).1 r ((dZ _).mem_iff.mp hr)
def clY(ps ss:List (List Int))(y:Nat):Nat->List (List Int)
 |0=>[]
 |n+1=>clY ps ss y n++au ps ss (n:Int) (y:Int)
def pG(cs ps ss:List (List Int)):Nat->List (List Int)
 |0=>[]
 |m+1=>pG cs ps ss m++srt (cO cs ps ss m).g
theorem Ex{cs ps ss:List (List Int)}(gI:∀r∈cs,r.length=3/\∀x∈r,0<=x)(hl:ps.length<=10)(hu:un ps ss=none)(h5:∀s∈ss,s.length=5)(okp:∀r∈ps,okP r){n:Nat}(hn:n<20):(∀r∈srt (cO cs ps ss n).g,bd r)/\(srt (cO cs ps ss n).g).length<=16000:=by
 obtain⟨lS,ML⟩:=jw (cs:=cs) hl hu h5 okp n;have hb:=Ew gI hl hu h5 okp n Zz;refine⟨fun r hr=>(Gk (y:=n) Zz Zz (wH gI n) hu h5 okp hl lS hb 3).1 r ((dZ _).mem_iff.mp hr),?_⟩;rw[(dZ _).length_eq];have:=(Ad (c:=cs.getD n []) (ss:=ss) (ow:=cR cs ps ss n) (y:=n) hl 3).1;unfold cO;lia
theorem Ey{cs ps ss:List (List Int)}(gI:∀r∈cs,r.length=3/\∀x∈r,0<=x)(hl:ps.length<=10)(hu:un ps ss=none)(h5:∀s∈ss,s.length=5)(okp:∀r∈ps,okP r):∀m,m<=20->(∀r∈pG cs ps ss m,r.length=4/\hO r)/\(pG cs ps ss m).length<=16000*m
 |0,_=>⟨fun r hr=>(by cases hr),zA3 _⟩
 |m+1,h=>by
  obtain⟨a,b⟩:=Ey gI hl hu h5 okp m Zz;obtain⟨c,d⟩:=Ex (n:=m) gI hl hu h5 okp Zz;refine⟨fun r hr=>?_,?_⟩
  .rcases zA6.mp (show r∈pG cs ps ss m++srt (cO cs ps ss m).g from hr)with z|z
   .exact a r z
   .exact⟨(c r z).1,g_h m r z⟩
  .show(pG cs ps ss m++srt (cO cs ps ss m).g).length<=_;rw[zA2];lia
theorem pH:∀(rr:List (List Int)) (sh:List Int),((bJ (rr.zip sh)).map keyOf).Sublist (rr.map keyOf)
 |[],sh=>by simp[bJ]
 |r::rr,[]=>by simp[bJ]
 |r::rr,x::sh=>by
  have ih:=pH rr sh;rw[List.zip_cons_cons,zAk];unfold bJ at ih⊢;by_cases hp:x<fl r 3
  .rw[zB9 (p:=fun(p:List Int×Int)=>decide (p.2<fl p.1 3)) (zAt hp),zAk,zAk];exact ih.cons₂ _
  .rw[zBa (p:=fun(p:List Int×Int)=>decide (p.2<fl p.1 3)) (by rw[Zp];exact hp)];exact ih.cons _
theorem Bb{a b:List Int}(h:keyOf a=keyOf b):fl a 0=fl b 0/\fl a 1=fl b 1/\fl a 2=fl b 2:=by
 have h:[fl a 0,fl a 1,fl a 2]=[fl b 0,fl b 1,fl b 2]:=h;simp at h;exact h
section
variable{c:List Int}{ps ss ow:List (List Int)}{y:Int}
theorem Ja(nd:(ow.map keyOf).Nodup)(hy:∀r∈ow,fl r 0<y):∀n,(((yTo c ps ss ow y n).k).map keyOf).Nodup/\∀r∈(yTo c ps ss ow y n).k,d8 ps r<n
 |0=>⟨List.nodup_nil,fun r hr=>(by cases hr)⟩
 |n+1=>by
  obtain⟨a,b⟩:=Ja nd hy n
  have rr:((au ps ss n y++aD ps ow n).map keyOf).Nodup:=by
   rw[zA4,List.nodup_append];refine⟨wz _,((List.filter_sublist (l:=ow)).map keyOf).nodup nd,fun x hx z hz e=>?_⟩;obtain⟨p,hp,rfl⟩:=zA5.mp hx;obtain⟨q,hq,rfl⟩:=zA5.mp hz;have h1:=(dF hp).1;have h2:=hy q (zAq.mp hq).1;have:=(Bb e).1;lia
  have so:∀w,∀r∈bJ ((au ps ss n y++aD ps ow n).zip (shr w (au ps ss n y) (aD ps ow n))),d8 ps r=n:=fun w=>yh fun p hp=>by
   obtain⟨m1,_⟩:=List.of_mem_zip (show(p.1,p.2)∈_ from hp);rcases zA6.mp m1 with z|z
   .exact(dF z).2.1
   .exact zB2 (zAq.mp z).2
  constructor
  .show(((yTo c ps ss ow y n).k++bJ _).map keyOf).Nodup;rw[zA4,List.nodup_append];refine⟨a,(pH _ _).nodup rr,fun x hx z hz e=>?_⟩;obtain⟨p,hp,rfl⟩:=zA5.mp hx;obtain⟨q,hq,rfl⟩:=zA5.mp hz;have h1:=b p hp;have h2:=so _ q hq
   have e1:d8 ps p=d8 ps q:=by
    unfold d8;rw[(Bb e).2.1]
   lia
  .intro r hr;rcases zA6.mp (show r∈(yTo c ps ss ow y n).k++bJ _ from hr)with z|z
   .have:=b r z;lia
   .have:=so _ r z;lia
theorem Bc{p:List Int->Prop}(mT:∀s:Nat,∀r∈au ps ss s y,p (keyOf r))(ho:∀r∈ow,p (keyOf r)):∀n,(∀r∈(yTo c ps ss ow y n).g,p (keyOf r)/\1<=fl r 3)/\∀r∈(yTo c ps ss ow y n).k,p (keyOf r)
 |0=>⟨fun r hr=>(by cases hr),fun r hr=>(by cases hr)⟩
 |n+1=>by
  obtain⟨a,b⟩:=Bc mT ho n
  have nr:∀w,∀q∈(au ps ss n y++aD ps ow n).zip (shr w (au ps ss n y) (aD ps ow n)),p (keyOf q.1):=fun w q hq=>by
   obtain⟨m1,m2⟩:=List.of_mem_zip (show(q.1,q.2)∈_ from hq);rcases zA6.mp m1 with z|z
   .exact mT n _ z
   .exact ho _ (zAq.mp z).1
  refine⟨fun r hr=>?_,fun r hr=>?_⟩
  .rcases zA6.mp (show r∈(yTo c ps ss ow y n).g++bN _ from hr)with z|z
   .exact a r z
   .obtain⟨q,hq,rfl⟩:=zA5.mp z;have h:=zAq.mp hq;have:0<q.2:=zB2 h.2;exact⟨nr _ q h.1,this⟩
  .rcases zA6.mp (show r∈(yTo c ps ss ow y n).k++bJ _ from hr)with z|z
   .exact b r z
   .obtain⟨q,hq,rfl⟩:=zA5.mp z;exact nr _ q (zAq.mp hq).1
end
def okK(ps:List (List Int))(m:Int)(k:List Int):Prop:=0<=fl k 0/\fl k 0<=m/\dom ps (fl k 1) (fl k 0)/\0<=fl k 2/\fl k 2<8
theorem okK.le{ps:List (List Int)}{m m':Int}{k:List Int}(h:okK ps m k)(l:m<=m'):okK ps m' k:=⟨h.1,by have:=h.2.1;lia,h.2.2⟩
theorem Be{ps ss:List (List Int)}{s y:Int}:∀{k:Nat} {r:List Int},r∈eZ ps ss s y k->∃j:Nat,fl r 1=j/\fl (ps.getD j []) 2<=y/\y<=fl (ps.getD j []) 3
 |0,r,hr=>by cases hr
 |k+1,r,hr=>by
  rcases zA6.mp (show r∈eZ ps ss s y k++dG ps ss s y k from hr)with z|z
  .exact Be z
  .unfold dG at z;split at z
   .obtain⟨q,hq,rfl⟩:=zA5.mp z;unfold cV at hq;obtain⟨h,hh,rfl⟩:=zA5.mp hq;have hp:0<(bj (ps.getD k []) ss k y).getD h 0:=zB2 (zAq.mp hh).2;refine⟨k,rfl,?_⟩;unfold bj at hp;split at hp
    .assumption
    .rw[zA7,List.getElem?_replicate]at hp;split at hp<;>simp at hp
   .cases z
theorem Bf{ps ss:List (List Int)}{s y:Int}(y0:0<=y){r:List Int}(hr:r∈au ps ss s y):okK ps y (keyOf r):=by
 obtain⟨a1,a2,a3,a4,a5,a6⟩:=dF hr;obtain⟨j,e,d1,d2⟩:=Be hr;have e0:fl (keyOf r) 0=fl r 0:=rfl;have e1:fl (keyOf r) 1=fl r 1:=rfl;have e2:fl (keyOf r) 2=fl r 2:=rfl;refine⟨Zz,Zz,⟨Zz,Zz,?_,?_⟩,Zz,Zz⟩
 .rw[e0,e1,a1,e,zAi];exact d1
 .rw[e0,e1,a1,e,zAi];exact d2
theorem v5{cs ps ss:List (List Int)}:∀m,(∀r∈cR cs ps ss m,okK ps (m-1) (keyOf r))/\((cR cs ps ss m).map keyOf).Nodup
 |0=>⟨fun r hr=>(by cases hr),List.nodup_nil⟩
 |m+1=>by
  obtain⟨a,b⟩:=v5 (cs:=cs) (ps:=ps) (ss:=ss) m;constructor
  .intro r hr;have hr:=(dZ _).mem_iff.mp (show r∈srt (yTo (cs.getD m []) ps ss (cR cs ps ss m) m 3).k from hr);have:=(Bc (c:=cs.getD m []) (p:=okK ps m) (fun s r hr=>Bf Zz hr) (fun r hr=>(a r hr).le Zz) 3).2 r hr;exact this.le Zz
  .show((srt (yTo (cs.getD m []) ps ss (cR cs ps ss m) m 3).k).map keyOf).Nodup;refine(((dZ _).map keyOf).nodup_iff).mpr (Ja b (fun r hr=>?_) 3).1;have h:=(a r hr).2.1;have e0:fl (keyOf r) 0=fl r 0:=rfl;lia
theorem Jb{cs ps ss:List (List Int)}(m:Nat):∀r∈srt (cO cs ps ss m).g,okK ps m (keyOf r)/\1<=fl r 3:=fun r hr=>
 (Bc (c:=cs.getD m []) (p:=okK ps m) (fun s r hr=>Bf Zz hr) (fun r hr=>((v5 m).1 r hr).le Zz) 3).1 r ((dZ _).mem_iff.mp hr)
section
variable{d n h:Nat}
variable{ps ss:List (List Int)}
end
section
variable{c:List Int}{ps ss ow:List (List Int)}{y:Int}
theorem y_l:∀n,(yTo c ps ss ow y n).l=(List.range n).map fun s=>(yTo c ps ss ow y (s+1)).d
 |0=>rfl
 |n+1=>by
  show(yTo c ps ss ow y n).l++[(yTo c ps ss ow y (n+1)).d]=_;rw[y_l n,List.range_succ,zA4];rfl
theorem Gn{s:Nat}(hs:s<3):(yTo c ps ss ow y 3).l.getD s 0=(yTo c ps ss ow y (s+1)).d:=by
 rw[y_l 3]
 match s,hs with
 |0,_=>rfl
 |1,_=>rfl
 |2,_=>rfl
end
def Ez:List (List Int)->List (List Int)->List (List Int)->Int->VK->Hp->Prop:=fun cs ps ss y Q H=>∀tl H',Same H H'->H' tl=some (.tup ((cO cs ps ss y.toNat).l.map V.int))->Q (.ref tl) H'
theorem scYE:FnScope ["book","year","gifts","owed","left"] ["book","year"] (aK (top 54)):=fQS
theorem Dz(F:Fun K "left_in" "left_in" (top 54) f fd)(c1:Cal P w K mg base 8 "refuse_no_year" ["book","year"] (nj Dv))(c2:Cal P w K mg base 10 "years_given" ["book","year"] lz):FnOk P w K mg base CX0 11 f fd ["book","year"] (nj Ez):=by
 refine F.ok scYE (fun vs H Q E h=>?_) (fun ar A outer s H vs Q E hr h=>?_)
 .obtain⟨S,bk,y,d,ac,xc,cs,ap,xp,ps,af,xs,ss,rfl,_⟩:=h;rfl
 .obtain⟨S,bk,y,d,ac,xc,cs,ap,xp,ps,af,xs,ss,rfl,th,hz,hb,B,y0,y1,q⟩:=h
  refine⟨_,aB (cW (aJ c1 hr (az (pv 0) (az (pv 1) ao))))
   (aB (cH (pX bZ (aJ c2 hr (az (pv 0) (az (pv 1) ao))) (pv 1)) (bG rfl (aq (pgn 2 scYE.nd) (aq (pgn 3 scYE.nd) (aq (pgn 4 scYE.nd) aW)))))
   (aF (aO (pv 4)))),?_⟩
  refine aH ?_;refine⟨_,rfl,_,rfl,S,bk,y,d,ac,xc,cs,ap,xp,ps,af,xs,ss,rfl,th,hz,hb,B,y0,y1,fun H1 s1=>?_⟩;dsimp only;have B1:=B.same s1;refine aH ?_;refine⟨_,rfl,_,rfl,bk,y,ac,xc,cs,ap,xp,ps,af,xs,ss,rfl,B1.e,B1.rc,B1.okc,B1.lc,y0,y1,B1.rp,B1.lp,B1.okp,B1.rs,B1.ls,B1.h5,B1.un,fun l ts H2 s2 nl el lt hy=>?_⟩;have hl:y.toNat<ts.length:=Zz
  obtain⟨g,k,tl,xg,xk,e1,n1,n2,d1,d2,e2,e3,e4,e5,e6⟩:=hy y.toNat ts[y.toNat] (zA0 hl)
  have bP:atI (ts.map V.ref) y=some (.ref ts[y.toNat]):=by
   have:(ts.map V.ref)[y.toNat]?=some (.ref ts[y.toNat]):=by rw[zAb,zA0 hl];rfl
   have:=dN this;rw[show((y.toNat:Nat):Int)=y by lia]at this;exact this
  refine⟨_,rfl,l,_,y,.ref ts[y.toNat],rfl,rfl,SqL.of el,bP,ts[y.toNat],_,rfl,SqT.of e1,rfl,_,_,rfl,_,_,rfl,_,_,rfl,rfl,?_⟩;dsimp only;exact⟨_,rfl,q tl H2 (s1.trans s2) e6.1⟩
structure TB(H:Hp)(bk ac:Addr)(xc:List V)(cs:List (List Int))(ap:Addr)(xp:List V)(ps:List (List Int))(af:Addr)(xs:List V)(ss:List (List Int)):Prop where
 b:BookAt H bk ac xc cs ap xp ps af xs ss
 okc:∀r∈cs,okC r
 lc1:1<=cs.length
section
variable{H H':Hp}{bk ac:Addr}{xc:List V}{cs:List (List Int)}{ap:Addr}{xp:List V}{ps:List (List Int)}{af:Addr}{xs:List V}{ss:List (List Int)}
theorem TB.same(h:TB H bk ac xc cs ap xp ps af xs ss)(s:Same H H'):TB H' bk ac xc cs ap xp ps af xs ss:=⟨h.b.same s,h.okc,h.lc1⟩
theorem TB.keep(h:TB H bk ac xc cs ap xp ps af xs ss)(k:∀b l,H b=some (.tup l)->H' b=some (.tup l)):TB H' bk ac xc cs ap xp ps af xs ss:=⟨⟨k _ _ h.b.e,h.b.rc.keep k,h.b.okc,h.b.lc,h.b.rp.keep k,h.b.lp,h.b.okp,h.b.rs.keep k,h.b.ls,h.b.h5,h.b.un⟩,h.okc,h.lc1⟩
theorem TB.bko(h:TB H bk ac xc cs ap xp ps af xs ss):BkO cs ps ss:=⟨h.b.okc,h.b.lp,h.b.un,h.b.h5,h.b.okp⟩
theorem TB.th(h:TB H bk ac xc cs ap xp ps af xs ss):IsTh (fun _=>False) H (.ref bk) (.tuple [bW cs,bW ps,bW ss]):=.tup h.b.e (.cons h.b.rc.th (.cons h.b.rp.th (.cons h.b.rs.th .nil)))
theorem TB.sz(h:TB H bk ac xc cs ap xp ps af xs ss):L2.sz (.tuple [bW cs,bW ps,bW ss])<=4000:=by
 show 1+((1+szs (cs.map bV))+((1+szs (ps.map bV))+((1+szs (ss.map bV))+0)))<=4000;rw[jx (k:=3) fun r hr=>(h.okc r hr).1,jx (k:=6) fun r hr=>(h.b.okp r hr).1,jx (k:=5) h.b.h5];have:=h.b.lc;have:=h.b.lp;have:=h.b.ls;lia
theorem TB.ok(h:TB H bk ac xc cs ap xp ps af xs ss):jX (.tuple [bW cs,bW ps,bW ss])=true:=Dw h.lc1 h.b.lc h.okc h.b.lp h.b.okp h.b.ls h.b.h5 h.b.un
theorem TB.by_{R:List (List Int)->List (List Int)->List (List Int)->Int->VK->Hp->Prop}{y:Int}{Q:VK}(h:TB H bk ac xc cs ap xp ps af xs ss)(y0:0<=y)(y1:y<cs.length)(q:R cs ps ss y Q H):nj R [.ref bk,.int y] H Q E0:=
 ⟨fun _=>False,bk,y,_,ac,xc,cs,ap,xp,ps,af,xs,ss,rfl,h.th,h.sz,h.ok,h.b,y0,y1,q⟩
end
theorem ue:∀rs:List (List Int),PyData.canLayAll0 (rs.map bV)=true
 |[]=>rfl
 |r::rs=>by simp[PyData.canLayAll0,PyData.canLay0,bV,sZ r,ue rs]
theorem qZ(rs:List (List Int)):PySem.SeqAt.shaped (.list (rs.map bV))=true:=by
 show(PyData.canLayAll0 (rs.map bV)&&decide (PyData.depthAll (rs.map bV)+1<=64))=true;rw[ue,zAt (by have:=nu rs;lia)];rfl
theorem pI{A:Around}{k:Nat}(hr:Room k A):A.units+64<cLine:=by
 have:=hr.un;lia
theorem Bg{X:Cx}{S:Addr->Prop}(hu:X.A.units+64<cLine):OpR X (compareOp .Eq) (fun x y H Q=>∃d e,IsTh S H x d/\IsTh S H y e/\PySem.SeqAt.shaped d=true/\PySem.SeqAt.shaped e=true/\PySem.SeqAt.noMix d e=true/\Q (.bl (Spec.same d e)) H):=by
 intro Zt s σ H x y v u Q I rx ry h;obtain⟨d,e,t1,t2,Na,Ee,nm,q⟩:=h;obtain⟨as,r1,_⟩:=t1.reads I rx;obtain⟨bs,r2,_⟩:=t2.reads I ry;exact PyProof.Rows.eq_dataH_same r1 r2 Na Ee hu nm ⟨.bl _,H,I,rfl,q⟩
theorem rm(ds:List PyData):PySem.SeqAt.noMix (.list ds) (.list [])=true:=by
 cases ds<;>simp[PySem.SeqAt.noMix,PySem.SeqAt.noMixAll]
def Bt(gd:Addr)(H H':Hp):Prop:=∀b o,H b=some o->b≠gd->H' b=some o
section
variable{gd ro:Addr}{H H1 H2:Hp}{Zs kr:List (List Key×V)}{ps ss R:List (List Int)}
theorem Bt.same(g:Bt gd H H1)(s:Same H1 H2):Bt gd H H2:=fun b o e n=>s _ _ (g b o e n)
theorem Bt.put{o:HO}(g:Bt gd H H1):Bt gd H (upd H1 gd o):=fun b o e n=>by rw[aA n];exact g b o e n
theorem Bt.tups(g:Bt gd H H1)(e:H gd=some (.dT Zs)):∀b l,H b=some (.tup l)->H1 b=some (.tup l):=fun b l q=>g b _ q fun z=>by
 rw[z,e]at q;cases q
theorem Bt.lst{b:Addr}{l:List V}(g:Bt gd H H1)(e:H gd=some (.dT Zs))(q:H b=some (.lst l)):H1 b=some (.lst l):=g b _ q fun z=>by
 rw[z,e]at q;cases q
end
theorem TB.gv{H:Hp}{bk ac:Addr}{xc:List V}{cs:List (List Int)}{ap:Addr}{xp:List V}{ps:List (List Int)}{af:Addr}{xs:List V}{ss:List (List Int)}(h:TB H bk ac xc cs ap xp ps af xs ss){m:Nat}(hm:m<cs.length):(pG cs ps ss m).length<=320000/\(srt (cO cs ps ss m).g).length<=16000:=by
 have hc:=h.b.lc;have a:=(Ey h.b.okc h.b.lp h.b.un h.b.h5 h.b.okp m Zz).2;have b:=(Ex h.b.okc h.b.lp h.b.un h.b.h5 h.b.okp (n:=m) Zz).2;exact⟨Zz,b⟩
theorem TB.gr{H:Hp}{bk ac:Addr}{xc:List V}{cs:List (List Int)}{ap:Addr}{xp:List V}{ps:List (List Int)}{af:Addr}{xs:List V}{ss:List (List Int)}(h:TB H bk ac xc cs ap xp ps af xs ss)(m:Nat):∀r∈srt (cO cs ps ss m).g,r.length=4:=fun r hr=>(y_row 3).1 r ((dZ _).mem_iff.mp hr)
theorem TB.or{H:Hp}{bk ac:Addr}{xc:List V}{cs:List (List Int)}{ap:Addr}{xp:List V}{ps:List (List Int)}{af:Addr}{xs:List V}{ss:List (List Int)}(h:TB H bk ac xc cs ap xp ps af xs ss)(m:Nat):∀r∈cR cs ps ss m,r.length=4/\0<=fl r 1/\fl r 1<ps.length:=fun r hr=>by
 obtain⟨a,b,c,_⟩:=(jw h.b.lp h.b.un h.b.h5 h.b.okp m).1 r hr;exact⟨a,b,c⟩
section
variable{cs ps ss:List (List Int)}
theorem DG(m:Nat){s:Nat}(hs:s<3):(yTo (cs.getD m []) ps ss (cR cs ps ss m) m (s+1)).d=(cO cs ps ss m).l.getD s 0:=(Gn hs).symm
end
end K23
namespace K23P
open PySem L2
theorem Bh{a b:List Int}(h:a.Perm b):a.sum=b.sum:=by
 induction h with
 |nil=>rfl
 |cons x _ ih=>rw[List.sum_cons,List.sum_cons,ih]
 |swap x y l=>simp only[List.sum_cons];lia
 |trans _ _ h1 h2=>rw[h1,h2]
theorem Gp(r:List Int):(List.range r.length).map (rr r)=r:=by
 refine List.ext_getElem? fun i=>?_;rw[zAb];by_cases h:i<r.length
 .rw[List.getElem?_range h,zA0 h];show some (rr r i)=_;rw[vZ (zA0 h)]
 .rw[List.getElem?_eq_none (by rw[List.length_range];lia),List.getElem?_eq_none Zz];rfl
theorem Gq{n:Int}{ws:List Int}(ok:OkW ws){pl:List Nat}(h:Ord (rs n ws) pl):∀i∈pl.take (lf n ws).toNat,0<rr (rs n ws) i:=fun i hi=>by
 obtain⟨j,hj,e⟩:=List.getElem_of_mem hi;rw[zAd]at hj;rw[List.getElem_take]at e;have Ma:=vY (n:=n) ok;refine Int.lt_of_not_ge fun c=>?_
 have HU:(pl.map (rr (rs n ws))).sum=(rs n ws).sum:=by
  rw[Bh (h.pm.map _),Gp]
 have hT:=Dc n ws
 have sp:(pl.map (rr (rs n ws))).sum=((pl.take j).map (rr (rs n ws))).sum+((pl.drop j).map (rr (rs n ws))).sum:=by
  rw[<-List.sum_append,<-zA4,zB8]
 have Nb:∀k∈pl,rr (rs n ws) k<=ws.sum:=fun k hk=>by
  have:=h.lt k hk;rw[vZ (zA0 this)];exact Ep ok _ (zAh _)
 have h1:=sum_le (B:=ws.sum) (l:=(pl.take j).map (rr (rs n ws))) fun a ha=>by
  obtain⟨k,hk,rfl⟩:=zA5.mp ha;exact Nb k (List.mem_of_mem_take hk)
 rw[zA1,zAd,Nat.min_eq_left Zz]at h1
 have h2:=sum_le (B:=0) (l:=(pl.drop j).map (rr (rs n ws))) fun a ha=>by
  obtain⟨k,hk,rfl⟩:=zA5.mp ha;obtain⟨m,hm,em⟩:=List.getElem_of_mem hk;rw[List.getElem_drop]at em;rw[List.length_drop]at hm;by_cases z:m=0
  .subst z;have:pl[j+0]=pl[j]:=by simp
   rw[<-em,this,e];exact c
  .have:=List.pairwise_iff_getElem.mp h.so j (j+m) Zz Zz Zz;rw[em,e]at this;have:=bef_iff.mp this;lia
 have hp:=ok.pos;have:ws.sum*(j+1)<=ws.sum*lf n ws:=Int.mul_le_mul_of_nonneg_left Zz Zz;rw[Int.mul_add]at this;lia
theorem fair_zip{n:Int}{ws:List Int}(ok:OkW ws):∀p∈(res n ws).zip ws,n*p.2-ws.sum<p.1*ws.sum/\p.1*ws.sum<n*p.2+ws.sum:=fun p hp=>by
 obtain⟨i,hi,e⟩:=List.getElem_of_mem hp;rw[zAs,res_len,Nat.min_self]at hi;rw[List.getElem_zip]at e;have ew:ws[i]=p.2:=by rw[<-e]
 have er:(res n ws)[i]'(by rw[res_len];exact hi)=p.1:=by rw[<-e]
 have hp:=ok.pos;have o:=(dD (rs n ws)).choose_spec;have c1:((dD (rs n ws)).choose.take (lf n ws).toNat).count i<=1:=List.nodup_iff_count.mp (o.nd.sublist (List.take_sublist _ _)) i
 have ev:p.1=n*p.2 / ws.sum+((dD (rs n ws)).choose.take (lf n ws).toNat).count i:=by
  have:=jO ((dD (rs n ws)).choose.take (lf n ws).toNat) (fs n ws) i (by rw[mV];exact hi)
  have e2:(fs n ws).getD i 0=n*p.2 / ws.sum:=by
   unfold fs;rw[zA7,zAb,zA0 hi,ew];rfl
  rw[e2]at this;rw[<-this,show d9 (fs n ws) _=res n ws from rfl,zA7,zA0 (by rw[res_len];exact hi),er];rfl
 have d1:=Int.mul_ediv_add_emod (n*p.2) ws.sum;have d2:=Int.emod_lt_of_pos (n*p.2) (b:=ws.sum) Zz;have d3:=Int.emod_nonneg (n*p.2) (b:=ws.sum) Zz;by_cases z:((dD (rs n ws)).choose.take (lf n ws).toNat).count i=0
 .rw[z]at ev;have e0:p.1=n*p.2 / ws.sum:=Zz
  rw[e0,Int.mul_comm (n*p.2 / ws.sum)];lia
 .have e0:p.1=n*p.2 / ws.sum+1:=Zz
  have hm:i∈(dD (rs n ws)).choose.take (lf n ws).toNat:=List.count_pos_iff.mp Zz;have hr:=Gq ok o i hm
  have e3:rr (rs n ws) i=n*p.2 % ws.sum:=by
   refine vZ ?_;unfold rs;rw[zAb,zA0 hi,ew];rfl
  rw[e0,Int.add_mul,Int.one_mul,Int.mul_comm (n*p.2 / ws.sum)];lia
end K23P
namespace K23
open PySem L2
def wAt(c:List Int)(ps ss ow:List (List Int))(y:Int)(s:Nat):Int:=c.getD s 0+(yTo c ps ss ow y s).d
def stp(c:List Int)(ps ss ow:List (List Int))(y:Int)(s:Nat):List (List Int×Int):=(au ps ss s y++aD ps ow s).zip (shr (wAt c ps ss ow y s) (au ps ss s y) (aD ps ow s))
section
variable{c:List Int}{ps ss ow:List (List Int)}{y:Int}{s:Nat}
theorem wI(a b:List (List Int))(s:Int):aD ps (a++b) s=aD ps a s++aD ps b s:=List.filter_append ..
theorem wJ{a:List (List Int)}{s:Int}(h:∀r∈a,d8 ps r=s):aD ps a s=a:=List.filter_eq_self.mpr fun r hr=>zAt (h r hr)
theorem Bj{a:List (List Int)}{s t:Int}(h:∀r∈a,d8 ps r=t)(n:s≠t):aD ps a s=[]:=List.filter_eq_nil_iff.mpr fun r hr z=>n ((zB2 z).symm.trans (h r hr))
theorem uf{n:Nat}{sh:List Int}:∀p∈(au ps ss n y++aD ps ow n).zip sh,d8 ps p.1=n:=fun p hp=>by
 have:=(List.of_mem_zip (show(p.1,p.2)∈_ from hp)).1;rcases zA6.mp this with z|z
 .exact(dF z).2.1
 .exact Dn _ z
theorem iH{Z:List (List Int×Int)}{r:List Int}(h:r∈bN Z):∃p∈Z,0<p.2/\r=[fl p.1 0,fl p.1 1,fl p.1 2,p.2]:=by
 obtain⟨p,hp,rfl⟩:=zA5.mp h;obtain⟨a,b⟩:=zAq.mp hp;exact⟨p,a,zB2 b,rfl⟩
theorem nA{Z:List (List Int×Int)}{r:List Int}(h:r∈bJ Z):∃p∈Z,p.2<fl p.1 3/\r=[fl p.1 0,fl p.1 1,fl p.1 2,fl p.1 3-p.2]:=by
 obtain⟨p,hp,rfl⟩:=zA5.mp h;obtain⟨a,b⟩:=zAq.mp hp;exact⟨p,a,zB2 b,rfl⟩
theorem Bk{n:Nat}{sh:List Int}:∀r∈bN ((au ps ss n y++aD ps ow n).zip sh),d8 ps r=n:=fun r hr=>by
 obtain⟨p,hp,_,rfl⟩:=iH hr;exact uf p hp
theorem Jc{n:Nat}{sh:List Int}:∀r∈bJ ((au ps ss n y++aD ps ow n).zip sh),d8 ps r=n:=fun r hr=>by
 obtain⟨p,hp,_,rfl⟩:=nA hr;exact uf p hp
theorem Gr:∀n,aD ps (yTo c ps ss ow y n).g s=if s<n then bN (stp c ps ss ow y s)else[]
 |0=>rfl
 |n+1=>by
  have ek:(yTo c ps ss ow y (n+1)).g=(yTo c ps ss ow y n).g++bN (stp c ps ss ow y n):=rfl;have hs:∀r∈bN (stp c ps ss ow y n),d8 ps r=(n:Int):=fun r hr=>Bk r hr;rw[ek,wI,Gr n];by_cases e:s=n
  .subst e;rw[zAw (Nat.lt_irrefl _),zAx (Nat.lt_succ_self _),wJ hs,List.nil_append]
  .have ne:(s:Int)≠(n:Int):=Zz
   rw[Bj hs ne,zAn];by_cases l:s<n
   .rw[zAx l,zAx Zz]
   .rw[zAw l,zAw Zz]
theorem Jd:∀n,aD ps (yTo c ps ss ow y n).k s=if s<n then bJ (stp c ps ss ow y s)else[]
 |0=>rfl
 |n+1=>by
  have ek:(yTo c ps ss ow y (n+1)).k=(yTo c ps ss ow y n).k++bJ (stp c ps ss ow y n):=rfl;have hs:∀r∈bJ (stp c ps ss ow y n),d8 ps r=(n:Int):=fun r hr=>Jc r hr;rw[ek,wI,Jd n];by_cases e:s=n
  .subst e;rw[zAw (Nat.lt_irrefl _),zAx (Nat.lt_succ_self _),wJ hs,List.nil_append]
  .have ne:(s:Int)≠(n:Int):=Zz
   rw[Bj hs ne,zAn];by_cases l:s<n
   .rw[zAx l,zAx Zz]
   .rw[zAw l,zAw Zz]
theorem v6:stp c ps ss ow y s=(au ps ss s y).zip (aV (wAt c ps ss ow y s) (au ps ss s y))++(aD ps ow s).zip (bU (wAt c ps ss ow y s-(aV (wAt c ps ss ow y s) (au ps ss s y)).sum) (aD ps ow s)):=by
 unfold stp shr;rw[List.zip_append shares_len.symm]
end
theorem ug:∀{a b:List Int},a.length=b.length->HT.lexLt b a=false->fX (fun i j=>decide (i<=j)) true a b=true
 |[],[],_,_=>rfl
 |[],_::_,h,_=>by cases h
 |_::_,[],h,_=>by cases h
 |x::a,y::b,h,l=>by
  rw[HT.lexLt_cons]at l;show(if x=y then _ else _)=true;by_cases e:x=y
  .rw[if_pos e];rw[if_pos e.symm]at l;exact ug (by simpa using h) l
  .rw[zAw e];rw[zAw fun z=>e z.symm]at l;have:=of_decide_eq_false l;exact zAt Zz
theorem rA:∀{rs:List (List Int)},(∀r∈rs,0<=fl r 3)->bN (rs.zip (bU 0 rs))=[]
 |[],_=>rfl
 |r::rs,h=>by
  have h0:=h r (.head _);have ex:(if(0:Int)<fl r 3 then(0:Int)else fl r 3)=0:=by split<;>lia
  unfold bU;rw[ex,List.zip_cons_cons];show((List.filter _ _).map _)=[];rw[List.filter_cons_of_neg (p:=fun(p:List Int×Int)=>decide (0<p.2)) Zy];exact rA fun q hq=>h q (.tail _ hq)
theorem pJ:∀{rs:List (List Int)} {w:Int},0<=w->(∀r∈rs,0<=fl r 3)->rs.Pairwise (fun a b=>HT.lexLt (keyOf b) (keyOf a)=false)->∀e∈bN (rs.zip (bU w rs)),∀l∈bJ (rs.zip (bU w rs)),HT.lexLt (keyOf l) (keyOf e)=false
 |[],_,_,_,_,e,he,_,_=>by cases he
 |r::rs,w,w0,h,so,e,he,l,hl=>by
  have h0:=h r (.head _);obtain⟨DM,DO⟩:=List.pairwise_cons.mp so;have hx:0<=(if w<fl r 3 then w else fl r 3)/\(if w<fl r 3 then w else fl r 3)<=w:=by split<;>lia
  obtain⟨p,hp,p1,rfl⟩:=iH he;obtain⟨q,hq,q1,rfl⟩:=nA hl;unfold bU at hp hq;rw[List.zip_cons_cons]at hp hq;rcases zAo.mp hp with z|z
  .rcases zAo.mp hq with z'|z'
   .rw[z,z'];exact kY _
   .rw[z];exact DM q.1 (List.of_mem_zip (show(q.1,q.2)∈_ from z')).1
  .rcases zAo.mp hq with z'|z'
   .exfalso;have Nd:(if w<fl r 3 then w else fl r 3)<fl r 3:=by rw[z']at q1;exact q1
    have ew:(if w<fl r 3 then w else fl r 3)=w:=by
     by_cases c:w<fl r 3
     .rw[zAx c]
     .rw[zAw c]at Nd;lia
    rw[ew,Int.sub_self]at z;have:=rA (rs:=rs) fun q hq=>h q (.tail _ hq);have hm:[fl p.1 0,fl p.1 1,fl p.1 2,p.2]∈bN (rs.zip (bU 0 rs)):=zA5.mpr ⟨p,zAq.mpr ⟨z,zAt p1⟩,rfl⟩;rw[this]at hm;cases hm
   .exact pJ Zz (fun q hq=>h q (.tail _ hq)) DO _ (zA5.mpr ⟨p,zAq.mpr ⟨z,zAt p1⟩,rfl⟩) _ (zA5.mpr ⟨q,zAq.mpr ⟨z',zAt q1⟩,rfl⟩)
def bu(r:List Int):List Int:=[fl r 1,fl r 2]
def lk(M:List (List Int))(k:List Int):Int:=((M.find? fun q=>decide (bu q=k)).map fun q=>fl q 3).getD 0
def cA(ps G:List (List Int))(s m:Nat):List (List Int):=(aD ps G s).filter fun r=>decide (fl r 0=m)
def fH(ps G:List (List Int))(s m:Nat):List (List Int):=(aD ps G s).filter fun r=>!decide (fl r 0=m)
def fY(ps W:List (List Int))(s m:Nat):List (List Int):=(aD ps W s).filter fun r=>decide (fl r 0<m)
theorem Bl{M:List (List Int)}(nd:(M.map bu).Nodup){r:List Int}(h:r∈M):lk M (bu r)=fl r 3:=by
 unfold lk
 cases e:M.find? fun q=>decide (bu q=bu r)with
 |none=>exact absurd (zAt rfl) (List.find?_eq_none.mp e r h)
 |some q=>
  have h1:=List.mem_of_find?_eq_some e;have h2:=zB2 (p:=bu q=bu r) (List.find?_some (p:=fun(q:List Int)=>decide (bu q=bu r)) e);obtain⟨i,hi,ei⟩:=List.getElem_of_mem h1;obtain⟨j,hj,ej⟩:=List.getElem_of_mem h;have l1:i<(M.map bu).length:=by rw[zA1];exact hi
  have l2:j<(M.map bu).length:=by rw[zA1];exact hj
  have:i=j:=(List.getElem_inj (h₀:=l1) (h₁:=l2) nd).mp (by rw[List.getElem_map,List.getElem_map,ei,ej];exact h2);subst this;rw[<-ei,ej];rfl
theorem DK{M:List (List Int)}{k:List Int}(h:∀r∈M,bu r≠k):lk M k=0:=by
 unfold lk;rw[List.find?_eq_none.mpr fun r hr z=>h r hr (zB2 z)];rfl
theorem jy:∀(rr:List (List Int)) (sh:List Int),((bN (rr.zip sh)).map bu).Sublist (rr.map bu)
 |[],_=>List.Sublist.refl _
 |r::rr,[]=>List.nil_sublist _
 |r::rr,x::sh=>by
  rw[List.zip_cons_cons];by_cases h:0<x
  .have:bN ((r,x)::rr.zip sh)=[fl r 0,fl r 1,fl r 2,x]::bN (rr.zip sh):=by
    unfold bN;rw[zB9 (p:=fun(p:List Int×Int)=>decide (0<p.2)) (zAt h)];rfl
   rw[this];exact(jy rr sh).cons₂ _
  .have:bN ((r,x)::rr.zip sh)=bN (rr.zip sh):=by
    unfold bN;rw[zBa (p:=fun(p:List Int×Int)=>decide (0<p.2)) (by rw[Zp];exact h)]
   rw[this];exact(jy rr sh).cons _
theorem uh:∀{cl:List (List Int)},(∀r∈cl,r.length=4/\1<=fl r 3)->bN (cl.zip (wts cl))=cl
 |[],_=>rfl
 |r::cl,h=>by
  obtain⟨l4,p⟩:=h r (.head _);show bN ((r,fl r 3)::cl.zip (wts cl))=_;unfold bN;rw[zB9 (p:=fun(p:List Int×Int)=>decide (0<p.2)) (zAt (by show 0<fl r 3;lia))];have:=uh (cl:=cl) fun q hq=>h q (.tail _ hq);unfold bN at this;rw[zAk,this];show[fl r 0,fl r 1,fl r 2,fl r 3]::cl=_;rw[<-cM l4]
section
variable{cs ps ss:List (List Int)}{m s:Nat}
def wM(cs ps ss:List (List Int))(m s:Nat):Int:=wAt (cs.getD m []) ps ss (cR cs ps ss m) m s
theorem ul(B:BkO cs ps ss):0<=wM cs ps ss m s:=by
 unfold wM wAt;have h1:=Dj (y:=(m:Int)) (wH B.okc m) B.hu B.h5 B.okp B.hl (jw (cs:=cs) B.hl B.hu B.h5 B.okp m).1 s
 have h2:0<=(cs.getD m []).getD s 0:=by
  rw[zA7]
  cases e:(cs.getD m [])[s]? with
  |none=>exact Int.le_refl _
  |some x=>exact wH B.okc m x (zB6 e)
 lia
theorem gG(B:BkO cs ps ss):∀r∈au ps ss s m,r.length=4/\1<=fl r 3/\fl r 3<=99:=iG B.hu B.h5 B.okp
theorem v7(ps ss:List (List Int))(s m:Nat):((au ps ss s m).map bu).Nodup:=by
 have h:=wz (ps:=ps) (ss:=ss) (sort:=(s:Int)) (year:=(m:Int)) ps.length;have h:((au ps ss s m).map keyOf).Nodup:=h;refine List.pairwise_map.mpr ((List.pairwise_map.mp h).imp_of_mem fun{a b} ha hb n z=>n ?_);have e0:fl a 0=fl b 0:=by rw[(dF ha).1,(dF hb).1]
 have z:[fl a 1,fl a 2]=[fl b 1,fl b 2]:=z;simp only[List.cons.injEq,and_true]at z;show[fl a 0,fl a 1,fl a 2]=[fl b 0,fl b 1,fl b 2];rw[e0,z.1,z.2]
theorem Gu:∀r∈aD ps (cR cs ps ss m) s,fl r 0<m:=fun r hr=>by
 have:=((v5 (cs:=cs) (ps:=ps) (ss:=ss) m).1 r (zAq.mp hr).1).2.1;have this:fl r 0<=(m:Int)-1:=this;lia
theorem jz(hs:s<3):(cA ps (srt (cO cs ps ss m).g) s m).Perm (bN ((au ps ss s m).zip (aV (wM cs ps ss m s) (au ps ss s m)))):=by
 have h:(cA ps (srt (cO cs ps ss m).g) s m).Perm (cA ps (cO cs ps ss m).g s m):=((dZ _).filter _).filter _;refine h.trans ?_;unfold cA;rw[show aD ps (cO cs ps ss m).g s=bN (stp (cs.getD m []) ps ss (cR cs ps ss m) m s)from(Gr 3).trans (zAx hs),v6,wy,List.filter_append];rw[List.filter_eq_self.mpr fun r hr=>?_,List.filter_eq_nil_iff.mpr fun r hr z=>?_,zAn]
 .exact List.Perm.refl _
 .obtain⟨p,hp,_,rfl⟩:=iH hr;have:=Gu (cs:=cs) (ss:=ss) _ (List.of_mem_zip (show(p.1,p.2)∈_ from hp)).1;have z:fl p.1 0=m:=zB2 z;lia
 .obtain⟨p,hp,_,rfl⟩:=iH hr;exact zAt (dF (List.of_mem_zip (show(p.1,p.2)∈_ from hp)).1).1
theorem wK(hs:s<3):∀r∈fH ps (srt (cO cs ps ss m).g) s m,r∈bN ((aD ps (cR cs ps ss m) s).zip (bU (wM cs ps ss m s-(aV (wM cs ps ss m s) (au ps ss s m)).sum) (aD ps (cR cs ps ss m) s))):=fun r hr=>by
 obtain⟨h1,h2⟩:=zAq.mp hr;have h1:=(((dZ (cO cs ps ss m).g).filter _).mem_iff (a:=r)).mp h1;have h1:r∈aD ps (cO cs ps ss m).g s:=h1;rw[show aD ps (cO cs ps ss m).g s=bN (stp (cs.getD m []) ps ss (cR cs ps ss m) m s)from(Gr 3).trans (zAx hs),v6,wy]at h1;rcases zA6.mp h1 with z|z
 .exfalso;obtain⟨p,hp,_,rfl⟩:=iH z;have:=(dF (List.of_mem_zip (show(p.1,p.2)∈_ from hp)).1).1;rw[show fl [fl p.1 0,fl p.1 1,fl p.1 2,p.2] 0=fl p.1 0 from rfl,this,zAt rfl]at h2;cases h2
 .exact z
theorem Bm(hs:s<3):∀r∈fY ps (cR cs ps ss (m+1)) s m,r∈bJ ((aD ps (cR cs ps ss m) s).zip (bU (wM cs ps ss m s-(aV (wM cs ps ss m s) (au ps ss s m)).sum) (aD ps (cR cs ps ss m) s))):=fun r hr=>by
 obtain⟨h1,h2⟩:=zAq.mp hr;have h1:=(((dZ (yTo (cs.getD m []) ps ss (cR cs ps ss m) m 3).k).filter _).mem_iff (a:=r)).mp h1;have h1:r∈aD ps (yTo (cs.getD m []) ps ss (cR cs ps ss m) m 3).k s:=h1;rw[(Jd 3).trans (zAx hs),v6,Ai]at h1;rcases zA6.mp h1 with z|z
 .exfalso;obtain⟨p,hp,_,rfl⟩:=nA z;have:=(dF (List.of_mem_zip (show(p.1,p.2)∈_ from hp)).1).1;have h2:fl p.1 0<m:=zB2 h2;lia
 .exact z
theorem Bo(B:BkO cs ps ss):∀r∈aD ps (cR cs ps ss m) s,0<=fl r 3:=fun r hr=>by
 have:=((jw (cs:=cs) B.hl B.hu B.h5 B.okp m).1 r (zAq.mp hr).1).2.2.2;lia
theorem DN(B:BkO cs ps ss):0<=wM cs ps ss m s-(aV (wM cs ps ss m s) (au ps ss s m)).sum:=by
 have:=j6 (ul (m:=m) (s:=s) B) (gG B) (bO (ss:=ss) (sort:=(s:Int)) (year:=(m:Int)) B.hl);lia
theorem yt(m:Nat):(cR cs ps ss m).Pairwise (fun a b=>HT.lexLt b a=false):=by
 cases m with
 |zero=>exact List.Pairwise.nil
 |succ m=>exact Gi _
theorem Je(B:BkO cs ps ss):(aD ps (cR cs ps ss m) s).Pairwise (fun a b=>HT.lexLt (keyOf b) (keyOf a)=false):=by
 refine((yt (cs:=cs) (ps:=ps) (ss:=ss) m).filter _).imp_of_mem fun{a b} ha hb h=>?_;have l:∀r∈aD ps (cR cs ps ss m) s,r.length=4:=fun r hr=>((jw (cs:=cs) B.hl B.hu B.h5 B.okp m).1 r (zAq.mp hr).1).1;exact Dm (l a ha) (l b hb) h
theorem yu(B:BkO cs ps ss)(hs:s<3):∀e∈fH ps (srt (cO cs ps ss m).g) s m,∀l∈fY ps (cR cs ps ss (m+1)) s m,fX (fun i j=>decide (i<=j)) true (keyOf e) (keyOf l)=true:=fun e he l hl=>
 ug rfl (pJ (DN B) (Bo B) (Je B) e (wK hs e he) l (Bm hs l hl))
theorem Bp(B:BkO cs ps ss)(hs:s<3)(h:wM cs ps ss m s<aP (au ps ss s m)):fH ps (srt (cO cs ps ss m).g) s m=[]:=by
 have e:=j6 (ul (m:=m) (s:=s) B) (gG B) (bO (ss:=ss) (sort:=(s:Int)) (year:=(m:Int)) B.hl);refine List.eq_nil_iff_forall_not_mem.mpr fun r hr=>?_;have:=wK hs r hr;rw[show wM cs ps ss m s-(aV (wM cs ps ss m s) (au ps ss s m)).sum=0 by lia,rA (Bo B)]at this;cases this
theorem wL(hs:s<3):((cA ps (srt (cO cs ps ss m).g) s m).map bu).Nodup:=
 ((jz hs).map bu).nodup_iff.mpr ((v7 ps ss s m).sublist (jy _ _))
theorem Bq(B:BkO cs ps ss)(hs:s<3)(h:aP (au ps ss s m)<=wM cs ps ss m s):(cA ps (srt (cO cs ps ss m).g) s m).Perm (au ps ss s m):=by
 have p:=jz (cs:=cs) (ps:=ps) (ss:=ss) (m:=m) hs;have e:aV (wM cs ps ss m s) (au ps ss s m)=wts (au ps ss s m):=zAx h;rw[e,uh fun r hr=>⟨(gG B r hr).1,(gG B r hr).2.1⟩]at p;exact p
theorem Br(B:BkO cs ps ss)(hs:s<3)(h:wM cs ps ss m s<aP (au ps ss s m)):aP (cA ps (srt (cO cs ps ss m).g) s m)=wM cs ps ss m s:=by
 have e:=j6 (ul (m:=m) (s:=s) B) (gG B) (bO (ss:=ss) (sort:=(s:Int)) (year:=(m:Int)) B.hl);rw[Ba (jz hs),qT shares_len fun x hx=>?_]
 .lia
 .exact(qU (ow:=[]) (ul (m:=m) (s:=s) B) (gG B) (bO (ss:=ss) (sort:=(s:Int)) (year:=(m:Int)) B.hl) (fun r hr=>by cases hr)).1 x (List.mem_append_left _ hx)
end
section
variable{cs ps ss:List (List Int)}{m s:Nat}
theorem Gv{M cl:List (List Int)}{S:List Int}(pm:M.Perm (bN (cl.zip S)))(nd:(M.map bu).Nodup)(Nf:(cl.map bu).Nodup)(nn:∀x∈S,0<=x){i:Nat}(hi:i<cl.length)(hj:i<S.length):lk M (bu cl[i])=S[i]:=by
 have hz:i<(cl.zip S).length:=by rw[zAs];lia
 have ez:(cl.zip S)[i]=(cl[i],S[i]):=List.getElem_zip;by_cases h:0<S[i]
 .have hm:[fl cl[i] 0,fl cl[i] 1,fl cl[i] 2,S[i]]∈M:=pm.mem_iff.mpr (zA5.mpr ⟨(cl[i],S[i]),zAq.mpr ⟨by rw[<-ez];exact zAh hz,zAt h⟩,rfl⟩);exact Bl nd hm
 .have h0:=nn _ (zAh hj);rw[DK fun r hr z=>?_]
  .lia
  .obtain⟨p,hp,p1,rfl⟩:=iH (pm.mem_iff.mp hr);obtain⟨j,AN,ej⟩:=List.getElem_of_mem hp;have EA:j<cl.length/\j<S.length:=by rw[zAs]at AN;lia
   have As:(cl[j]'EA.1,S[j]'EA.2)=p:=by rw[<-ej];exact List.getElem_zip.symm
   have l1:j<(cl.map bu).length:=by rw[zA1];exact EA.1
   have l2:i<(cl.map bu).length:=by rw[zA1];exact hi
   have z:bu p.1=bu cl[i]:=z;have:j=i:=(List.getElem_inj (h₀:=l1) (h₁:=l2) Nf).mp (by rw[List.getElem_map,List.getElem_map,<-z,<-As]);subst this;rw[<-As]at p1;exact h p1
theorem DP(B:BkO cs ps ss)(hs:s<3){i:Nat}(hi:i<(au ps ss s m).length):lk (cA ps (srt (cO cs ps ss m).g) s m) (bu (au ps ss s m)[i])=(aV (wM cs ps ss m s) (au ps ss s m))[i]'(by rw[shares_len];exact hi):=
 Gv (jz hs) (wL hs) (v7 ps ss s m) (fun x hx=>(qU (ow:=[]) (ul (m:=m) (s:=s) B) (gG B) (bO (ss:=ss) (sort:=(s:Int)) (year:=(m:Int)) B.hl) (fun r hr=>by cases hr)).1 x (List.mem_append_left _ hx)) hi (by rw[shares_len];exact hi)
theorem yw(B:BkO cs ps ss)(hs:s<3)(h:wM cs ps ss m s<aP (au ps ss s m)):∀r∈au ps ss s m,
  wM cs ps ss m s*fl r 3-aP (au ps ss s m)<lk (cA ps (srt (cO cs ps ss m).g) s m) (bu r)*aP (au ps ss s m)/\lk (cA ps (srt (cO cs ps ss m).g) s m) (bu r)*aP (au ps ss s m)<wM cs ps ss m s*fl r 3+aP (au ps ss s m):=fun r hr=>by
 obtain⟨i,hi,rfl⟩:=List.getElem_of_mem hr;rw[DP B hs hi]
 have ok:K23P.OkW (wts (au ps ss s m)):=by
  refine⟨by unfold wts;rw[zA1];lia,by unfold wts;rw[zA1];exact bO B.hl,fun w hw=>?_⟩;obtain⟨q,hq,rfl⟩:=zA5.mp hw;exact(gG B q hq).2
 have e:aV (wM cs ps ss m s) (au ps ss s m)=K23P.res (wM cs ps ss m s) (wts (au ps ss s m)):=zAw (by show¬aP _<=_;lia);have EB:i<(K23P.res (wM cs ps ss m s) (wts (au ps ss s m))).length:=by rw[K23P.res_len];unfold wts;rw[zA1];exact hi
 have Rj:i<(wts (au ps ss s m)).length:=by unfold wts;rw[zA1];exact hi
 have hz:i<((K23P.res (wM cs ps ss m s) (wts (au ps ss s m))).zip (wts (au ps ss s m))).length:=by rw[zAs];lia
 have f:=K23P.fair_zip (n:=wM cs ps ss m s) ok _ (zAh hz);rw[List.getElem_zip]at f;have ew:(wts (au ps ss s m))[i]=fl (au ps ss s m)[i] 3:=by simp only[wts,List.getElem_map]
 rw[ew]at f;simp only[e];exact f
end
def fJ(r:List Int):List Key×V:=((bu r).map Sum.inl,.int (fl r 3))
theorem Bs{a b:List Int}(h:a.map (Sum.inl:Int->Key)=b.map Sum.inl):a=b:=List.map_inj_right (fun _ _ e=>Sum.inl.inj e) |>.mp h
theorem rB(k:List Int):∀R:List (List Int),cF (R.map fJ) (k.map Sum.inl)=(R.find? fun q=>decide (bu q=k)).map fun q=>.int (fl q 3)
 |[]=>rfl
 |r::R=>by
  have ih:=rB k R;unfold cF at ih⊢;rw[zAk];by_cases h:bu r=k
  .rw[List.find?_cons_of_pos (p:=fun(kv:List Key×V)=>decide (kv.1=k.map Sum.inl)) (zAt (by show(bu r).map Sum.inl=_;rw[h])),List.find?_cons_of_pos (p:=fun(q:List Int)=>decide (bu q=k)) (zAt h)];rfl
  .rw[List.find?_cons_of_neg (p:=fun(kv:List Key×V)=>decide (kv.1=k.map Sum.inl)) (by rw[Zp];exact fun z=>h (Bs z)),List.find?_cons_of_neg (p:=fun(q:List Int)=>decide (bu q=k)) (by rw[Zp];exact h)];exact ih
theorem Gw(k:List Int)(R:List (List Int)):(cF (R.map fJ) (k.map Sum.inl)).getD (.int 0)=.int (lk R k):=by
 rw[rB];unfold lk
 cases R.find? fun q=>decide (bu q=k)<;>rfl
theorem fU{R:List (List Int)}(nd:(R.map bu).Nodup){r:List Int}(h:r∈R):cF (R.map fJ) ((bu r).map Sum.inl)=some (.int (fl r 3)):=by
 have e:=Bl nd h;rw[rB];unfold lk at e
 cases z:R.find? fun q=>decide (bu q=bu r)with
 |none=>exact absurd (zAt rfl) (List.find?_eq_none.mp z r h)
 |some q=>
  rw[z]at e;have e:fl q 3=fl r 3:=e;show some (V.int (fl q 3))=_;rw[e]
theorem wN{R:List (List Int)}{r:List Int}(h:∀q∈R,bu q≠bu r):putK (R.map fJ) ((bu r).map Sum.inl) (.int (fl r 3))=(R++[r]).map fJ:=by
 unfold putK;rw[zAw,zA4]
 .rfl
 .intro z;obtain⟨x,hx,e⟩:=List.any_eq_true.mp z;obtain⟨q,hq,rfl⟩:=zA5.mp hx;exact h q hq (Bs (zB2 e))
theorem DQ{R:List (List Int)}{k:List Key}{v:V}(h:cF (R.map fJ) k=some v):∃r∈R,k=(bu r).map Sum.inl:=by
 unfold cF at h
 cases e:(R.map fJ).find? fun kv=>decide (kv.1=k)with
 |none=>rw[e]at h;cases h
 |some x=>
  have h1:=List.mem_of_find?_eq_some e;have h2:=zB2 (p:=x.1=k) (List.find?_some (p:=fun(kv:List Key×V)=>decide (kv.1=k)) e);obtain⟨r,hr,rfl⟩:=zA5.mp h1;exact⟨r,hr,h2.symm⟩
theorem rC{σ:St}{H:Hp}{Q:VK}{d:Addr}{R:List (List Int)}{i:Nat}(iF:σ[i]?=some (some (.ref d)))(e:H d=some (.dT (R.map fJ)))(nd:(R.map bu).Nodup)(hl:R.length<=100000)
  (q:∀D H',Same H H'->H' D=some (.lst ((wts R).map V.int))->Q (.ref D) H'):Ii (vq (Eo (um i)) [none,some i] (bD 0) uD (Ek (um 1) (um 0))) σ H Q:=by
 refine⟨d,_,e,fun o=>?_⟩;have ez:=aj (H:=H) (a:=d) (o:=.frz o (.dT (R.map fJ)))
 have sz:∀b u,b≠d->H b=some u->upd H d (.frz o (.dT (R.map fJ))) b=some u:=fun b u n e=>by
  rw[aA n];exact e
 generalize upd H d (.frz o (.dT (R.map fJ)))=Hz at ez sz⊢;refine⟨_,iF,d,o,_,rfl,ez,?_⟩
 have Ng:capσ σ [none,some i]=[none,some (.ref d)]:=by
  simp[capσ,iF]
 rw[Ng];refine fG R.length (fun j ys σ Hd=>Same Hz Hd/\(∃o1,σ=[o1,some (.ref d)])/\ys=(wts (R.take j)).map V.int) ⟨Same.refl _,⟨_,rfl⟩,rfl⟩ Zu ?_ ?_
 .rintro j ys ai Hd hj hy ⟨sd,⟨o1,rfl⟩,rfl⟩;refine⟨⟨sd _ _ ez,by rw[zA1];exact hj⟩,fun x H' yv R' hR=>?_⟩;obtain⟨rfl,bb,kk,vv,rfl,Ky,Nh⟩:=yv;rw[zAb,zA0 hj]at Ky;cases Ky
  have ew:wts (R.take (j+1))=wts (R.take j)++[fl R[j] 3]:=by
   unfold wts;rw[zAj,zA0 hj,zA4];rfl
  rw[ew,zA4]at hR;refine aM ?_;exact⟨_,rfl,_,rfl,d,.int (fl R[j] 3),rfl,.inr ⟨_,_,bb,.inr ⟨o,sd _ _ ez⟩,rfl,Nh,(fU nd (zAh hj)).symm⟩,hR _ _ _ ⟨sd,⟨_,rfl⟩,rfl⟩⟩
 rintro ys ai Hd hy ⟨sd,_,rfl⟩;rw[zAm];refine⟨⟨sd _ _ ez,by rw[zA1];exact zA3 _⟩,fun D hD=>⟨Same.upd hD _ _ (sd _ _ ez),?_⟩⟩
 have nD:D≠d:=fun z=>by rw[z,sd _ _ ez]at hD;cases hD
 refine q D _ (fun b u e'=>?_) (by rw[aA nD];exact aj);by_cases hb:b=d
 .subst hb;rw[e]at e';rw[aj];exact e'
 .rw[aA hb];exact Same.upd hD _ _ (sd _ _ (sz _ _ hb e'))
theorem Bu{d:Addr}{o:Obj}{Zs:List (List Key×V)}{g:TG}{tb:TS}{D:Ends}{σ:St}{H:Hp}(Pv:Nat->St->Hp->Prop)(h0:Pv 0 σ H)(hl:∀i σ H,i<=Zs.length->Pv i σ H->H d=some (.frz o (.dT Zs)))
  (hs:∀i b k v σ H,Zs[i]?=some (k,v)->H b=some (.tup (k.map kV))->Pv i σ H->g (.ref b) σ H fun aE H2=>tb {D with nx:=Pv (i+1),ct:=Pv (i+1),bk:=D.nx} aE H2) (hd:∀σ H,Pv Zs.length σ H->D.nx σ H):
  ∃W:Nat->Nat->St->Hp->Prop,(∃m,W 0 m σ H)/\∀i m σ H,W i m σ H->
   ((Itd d o Zs).stop i H/\D.nx σ H)\/((Itd d o Zs).go i H/\∃N:St->Hp->Prop,(∀ai H',N ai H'->∃m',m'<m/\W (i+1) m' ai H')/\∀x H',(Itd d o Zs).yld i H x H'->g x σ H' fun aE H2=>tb {D with nx:=N,ct:=N,bk:=D.nx} aE H2):=by
 refine⟨fun i m σ H=>m=Zs.length-i/\i<=Zs.length/\Pv i σ H,⟨Zs.length,by simp,Nat.zero_le _,h0⟩,?_⟩;rintro i m σ H ⟨rfl,hi,p⟩;have q:=hl i σ H hi p;by_cases aw:i<Zs.length
 .refine .inr ⟨⟨q,aw⟩,Pv (i+1),fun ai H' p'=>⟨Zs.length-(i+1),Zz,rfl,aw,p'⟩,fun v H' y=>?_⟩;obtain⟨rfl,b,k,v,rfl,e1,e2⟩:=y;exact hs i b k v σ H' e1 e2 p
 .have e:i=Zs.length:=Zz
  subst e;exact .inl ⟨⟨q,zA3 _⟩,hd σ H p⟩
structure Fair(C M:List (List Int))(w:Int):Prop where
 cn:(C.map bu).Nodup
 mn:(M.map bu).Nodup
 all:aP C<=w->M.Perm C
 sum:w<aP C->aP M=w
 off:w<aP C->∀r∈C,w*fl r 3-aP C<lk M (bu r)*aP C/\lk M (bu r)*aP C<w*fl r 3+aP C
 bT:0<=aP C/\aP C<=100000
 bc:∀r∈C,0<=fl r 3/\fl r 3<=99
 lc:C.length<=100000
 lm:M.length<=100000
inductive SpSRI(vs:List V)(H:Hp)(Q:VK):Prop
 |mk:∀(dc dm:Addr) (w:Int) (C M:List (List Int)),(vs=[.ref dc,.ref dm,.int w])->(H dc=some (.dT (C.map fJ)))->(H dm=some (.dT (M.map fJ)))->(dc≠dm)->(Fair C M w)->(∀H',Same H H'->Q (.bl true) H')->SpSRI  vs H Q
def Jf:Sp:=fun vs H Q _=>SpSRI  vs H Q
variable{P:Program}{w:World}{K:Frag}{mg:Str->Option Value}{base:Heap}{f:Addr}{fd:FuncData}
theorem JS:(["_law_one","_law_claims"]:List Str).Nodup:=by decide +kernel
theorem JT:(["_law_one","_law_mine"]:List Str).Nodup:=by decide +kernel
theorem scSR:FnScope ["_law_claims","_law_mine","_law_have","_law_total","_law_one"] ["_law_claims","_law_mine","_law_have"] (aK (top 71)):=fQS
theorem Jg(F:Fun K "_law_shares_right" "_law_shares_right" (top 71) f fd)(Ts:mg "sum"=none)(Ta:mg "abs"=none):FnOk P w K mg base CX0 1 f fd ["_law_claims","_law_mine","_law_have"] Jf:=by
 refine F.ok scSR (fun vs H Q E h=>?_) (fun ar A outer s H vs Q E hr h=>?_)
 .obtain⟨dc,dm,w,C,M,rfl,_⟩:=h;rfl
 .obtain⟨dc,dm,w,C,M,rfl,ec,em,ne,Fa,q⟩:=h
  refine K23P.ok_b (aY (km 3 scSR.nd ⟨aN (cZ rfl) rfl Ts boot_sum (az (uP (cC ["_law_one","_law_claims"] [none,some 0] rfl (lq (pv 0)) (fun C fp Zt s₂ H₂=>⟨pgn 0 JS,c7,gC (eG hr) (pv 1) (pv 0) (fun _ _=>rfl)⟩) (fun C=>cI trivial) ⟨rfl,rfl,rfl,rfl⟩)) ao)⟩)
   (aY ⟨cj (bz rK (pv 2) (pv 3) (bf _)) (aF (aO (dM (G8 (eG hr)) (pv 1) (pv 0) (bf _)))) aZ⟩
   (aY ⟨Ga (cD zB5 rfl (lq (pv 0)) (pgn 4 scSR.nd)
    (aF (cj (bz rK (aN xX rfl Ta boot_abs (az (aU fj (aU fV (mj (eG hr) (pv 1) (pv 4) aC (by constructor<;>rfl)) (pv 3)) (aU fV (pv 2) (gC (eG hr) (pv 0) (pv 4) (fun _ _=>rfl)))) ao)) (pv 3) (bf _)) (aF (aO iI)) aZ)))⟩
   (fO ⟨aO (dM gK (aN (cZ rfl) rfl Ts boot_sum (az (uP (cC ["_law_one","_law_mine"] [none,some 1] rfl (lq (pv 1)) (fun C fp Zt s₂ H₂=>⟨pgn 0 JT,c7,gC (eG hr) (pv 1) (pv 0) (fun _ _=>rfl)⟩) (fun C=>cI trivial) ⟨rfl,rfl,rfl,rfl⟩)) ao)) (pv 2) (bf _))⟩)))) ?_
  refine aH (aX ?_)
  refine rC rfl ec Fa.cn Fa.lc fun D H1 s1 eD=>⟨D,wts C,rfl,.inl (SqL.of eD),?_⟩
  have eT:(wts C).sum=aP C:=rfl;rw[eT];have Kz:=s1 _ _ ec;have KA:=s1 _ _ em;clear eD eT;refine aM ?_;dsimp only;refine aH ?_;refine⟨_,rfl,_,rfl,_,_,rfl,rfl,_,rfl,?_⟩;by_cases hT:aP C<=w
  .rw[zAt (show w≥aP C from hT)];refine bI (jE ?_);have pm:=Fa.all hT;refine⟨_,rfl,_,rfl,dm,dc,_,_,rfl,rfl,KA,Kz,fun _ _=>by rw[zA1,zA1];exact pm.length_eq,fun k v hv=>?_,q _ s1⟩;obtain⟨r,fT,rfl⟩:=DQ hv;have e1:=fU Fa.mn fT;rw[e1]at hv;cases hv;exact⟨_,rfl,fU Fa.cn (pm.mem_iff.mp fT)⟩
  .rw[decide_eq_false (show¬w≥aP C from hT)];refine bw (dh ?_);dsimp only;have KC:w<aP C:=Zz
   have off:=Fa.off KC;have sm:=Fa.sum KC;refine aH ?_;refine⟨dc,_,Kz,fun o=>?_⟩
   have EC:∀b u,H1 b=some u->b≠dc->upd H1 dc (.frz o (.dT (C.map fJ))) b=some u:=fun b u e n=>by rw[aA n];exact e
   have eF:upd H1 dc (.frz o (.dT (C.map fJ))) dc=some (.frz o (.dT (C.map fJ))):=aj;have eM:=EC _ _ KA ne.symm;generalize upd H1 dc (.frz o (.dT (C.map fJ)))=HF at eF eM EC⊢;refine⟨_,rfl,dc,o,_,rfl,eF,?_⟩;refine Bu (fun j σ Hc=>∃x4,σ=[some (.ref dc),some (.ref dm),some (.int w),some (.int (aP C)),x4]/\Same HF Hc) ?_ ?_ ?_ ?_
   .exact⟨_,rfl,Same.refl _⟩
   .rintro j σ Hc _ ⟨x4,rfl,sc⟩;exact sc _ _ eF
   .rintro j b k v σ Hc e1 e2 ⟨x4,rfl,sc⟩;rw[zAb]at e1;obtain⟨r,er,ee⟩:=Option.map_eq_some_iff.mp e1;cases ee;have hm:=zB6 er;obtain⟨o1,o2⟩:=off r hm;have b1:=Fa.bT;have b2:=Fa.bc r hm;have Ni:CMul (lk M (bu r)) (aP C):=.inr ⟨Zz,Zz⟩;have Nj:CMul w (fl r 3):=.inr ⟨Zz,Zz⟩;refine aM ?_;refine⟨_,rfl,dm,rfl,.inr ⟨_,.inl (sc _ _ eM)⟩,_,rfl,_,DGet.t (sc _ _ eM) e2,_,rfl,_,_,Gw (bu r) M,rfl,Ni,_,rfl,_,rfl,_,rfl,dc,.int (fl r 3),rfl,.inr ⟨_,_,b,.inr ⟨o,sc _ _ eF⟩,rfl,e2,(fU Fa.cn hm).symm⟩,_,_,rfl,rfl,Nj,_,_,rfl,rfl,_,rfl,_,rfl,_,_,rfl,rfl,_,rfl,?_⟩
    have aw:¬(if lk M (bu r)*aP C-w*fl r 3<0 then -(lk M (bu r)*aP C-w*fl r 3)else lk M (bu r)*aP C-w*fl r 3)≥aP C:=by
     split<;>lia
    rw[zB1 aw];refine bw ?_;exact⟨_,rfl,sc⟩
   rintro σ Hc ⟨x4,rfl,sc⟩;refine⟨sc _ _ eF,?_⟩
   have S2:Same H (upd Hc dc (.dT (C.map fJ))):=fun b u e=>by
    by_cases hb:b=dc
    .subst hb;rw[ec]at e;rw[aj];exact e
    .rw[aA hb];exact sc _ _ (EC _ _ (s1 _ _ e) hb)
   generalize upd Hc dc (.dT (C.map fJ))=H2 at S2⊢;dsimp only;refine jE ?_
   refine rC rfl (S2 _ _ em) Fa.mn Fa.lm fun D H3 s3 eD=>⟨D,wts M,rfl,.inl (SqL.of eD),_,rfl,rfl,?_⟩
   have eT:(wts M).sum=w:=sm;rw[eT,zAt rfl];exact q _ (S2.trans s3)
inductive SpHoldI(vs:List V)(H:Hp)(Q:VK):Prop
 |mk:∀S bk n y d ac xc cs ap xp ps af xs ss,(vs=[.ref bk,.int n,.int y])->(IsTh S H (.ref bk) d)->(sz d<=4000)->(jX d=true)->(BookAt H bk ac xc cs ap xp ps af xs ss)->(0<=n)->(n<ps.length)->(0<=y)->(y<=19)->(∀l xl H',Same H H'->H l=none->l≠sysModules->H' l=some (.lst xl)->Els H' xl (cV (bj (ps.getD n.toNat []) ss n y) 8)->Q (.ref l) H')->SpHoldI  vs H Q
def Bv:Sp:=fun vs H Q _=>SpHoldI  vs H Q
theorem wO{i a b:Int}(h0:a<=i)(h1:i<=b):kJ (.int i) a b=true:=by
 show(true&&(decide (a<=i)&&decide (i<=b)))=true;rw[zAt h0,zAt h1];rfl
theorem Jh(x y:Str)(h:x≠y):([x,y]:List Str).Nodup:=by simp[h]
theorem scO0:FnScope ["book","number","year","clips","promises","sales","held"] ["book","number","year"] (aK (top 34)):=fQS
theorem DR(F:Fun K "holdings" "holdings" (top 34) f fd)(T:Mg mg)(N:Nums mg)(Te:mg "enumerate"=none)
  (c1:Cal P w K mg base 7 "refuse_no_book" ["thing"] uY) (c2:Cal P w K mg base 2 "is_whole_from" ["thing","least","most"] (jF kJ)) (c3:Cal P w K mg base 1 "held_in" ["promises","sales","number","year"] qP):FnOk P w K mg base CX0 8 f fd ["book","number","year"] Bv:=by
 refine F.ok scO0 (fun vs H Q E h=>?_) (fun ar A outer s H vs Q E hr h=>?_)
 .obtain⟨S,bk,n,y,d,ac,xc,cs,ap,xp,ps,af,xs,ss,rfl,_⟩:=h;rfl
 .obtain⟨S,bk,n,y,d,ac,xc,cs,ap,xp,ps,af,xs,ss,rfl,th,hz,hb,B,n0,n1,y0,y1,q⟩:=h;obtain⟨Rk,Nk⟩:=N.year
  refine⟨_,aB (cW (aJ c1 hr (az (pv 0) ao)))
   (aB (cH (pv 0) (bG rfl (aq (pgn 3 scO0.nd) (aq (pgn 4 scO0.nd) (aq (pgn 5 scO0.nd) aW)))))
   (aB (cj (cu (di (aJ c2 hr (az (pv 1) (az aC (az (aU fj (aN bF rfl T.len PySem.boot_len (az (pv 4) ao)) aC) ao)))))) (aF fZ) aZ)
   (aB (cj (cu (di (aJ c2 hr (az (pv 2) (az aC (az (bY (v:=.int 19) rfl Nk ⟨_,rfl⟩) ao)))))) (aF fZ) aZ)
   (aB (pss 6 scO0.nd (aJ c3 hr (az (pv 4) (az (pv 5) (az (pv 1) (az (pv 2) ao))))))
   (aF (aO (zG (g:=jY K 2 (cB (bD 0) (cB (bD 1) lC))) ["holder","sacks"] [none,none] rfl (ZT.pi_enum false rfl Te (az (pv 6) ao))
     (fun C fp Zt s₂ H₂=>⟨dO rfl rfl (aq (bH (i:=0) (Jh _ _ Zx) rfl (Or.inl rfl) (Or.inr rfl)) (aq (bH (i:=1) (Jh _ _ Zx) rfl (Or.inl rfl) (Or.inr rfl)) aW)),ir (bz lG (pv 1) aC (bf _)),cz (az (pv 0) (az (pv 1) ao))⟩) (fun C=>trivial) ⟨rfl,rfl,rfl,rfl⟩))))))),?_⟩
  refine aH ?_;refine⟨_,rfl,S,.ref bk,d,rfl,th,hz,hb,fun H1 s1=>?_⟩;dsimp only;have B1:=B.same s1;refine aH ?_;refine⟨_,rfl,bk,_,rfl,SqT.of B1.e,rfl,_,_,rfl,_,_,rfl,_,_,rfl,rfl,?_⟩;dsimp only;refine aH ?_;refine⟨_,rfl,_,rfl,ap,_,rfl,.inr (SqT.of B1.rp.e),_,_,rfl,rfl,fun _=>False,.int n,.int n,0,_,rfl,.int _,by show 1<=4000;decide,fun H2 s2=>⟨_,rfl,?_⟩⟩;rw[wO n0 (by rw[B1.rp.l];lia)];refine bw (dh ?_);dsimp only;refine aH ?_;refine⟨_,rfl,fun _=>False,.int y,.int y,0,19,rfl,.int _,by show 1<=4000;decide,fun H3 s3=>⟨_,rfl,?_⟩⟩;rw[wO y0 y1];refine bw (dh ?_);dsimp only;have B3:=(B1.same s2).same s3;have Nl:=(s1.trans s2).trans s3;obtain⟨p,hp,nX,op⟩:=eV B.okp n0 n1;refine aH (aX ?_);refine⟨_,rfl,_,rfl,_,rfl,_,rfl,ap,xp,ps,af,xs,ss,n,y,rfl,B3.rp,B3.rs,n0,n1,by rw[nX];exact op,B.ls,wu B.un B.h5,fun l H4 s4 e4=>?_⟩;have DB:=dJ (ps.getD n.toNat []) ss n y;generalize bj (ps.getD n.toNat []) ss n y=L at q e4 DB;refine aM ?_;dsimp only;have KD:=Nl.trans s4;refine⟨_,rfl,l,_,rfl,SqL.of e4,gq 8 (fun j ys σ Hj=>Same H4 Hj/\(∃o1 o2,σ=[o1,o2])/\Els Hj ys (cV L j)) ⟨Same.refl _,⟨_,_,rfl⟩,Els.nil⟩ (by rw[sizeLine_eq];decide) ?_ ?_⟩
  .rintro j ys σ Hj hj hy ⟨sc,⟨o1,o2,rfl⟩,hV⟩;have iP:SqL K Hj l (L.map V.int):=SqL.of (sc _ _ e4)
   have wx:(L.map V.int)[j]?=some (.int (L.getD j 0)):=by
    have cv:j<L.length:=Zz
    rw[zAb,zA7,zA0 cv];rfl
   refine⟨⟨_,_,iP,wx⟩,fun x H' yv R hR=>?_⟩;obtain⟨T1,qq,rfl,yv⟩:=yv;obtain⟨x',hG,rfl⟩:=yv _ iP;rw[wx]at hG;cases hG;have ja:=sc.updR (o:=.tup [.int (j:Int),.int (L.getD j 0)]) qq;refine⟨T1,_,rfl,SqT.of aj,rfl,_,_,rfl,_,_,rfl,rfl,?_⟩;refine⟨_,rfl,_,_,rfl,rfl,_,rfl,?_⟩;by_cases aI:0<L.getD j 0
   .rw[zAt aI];refine bI ⟨_,rfl,_,rfl,zL,fun t fy=>hR _ _ _ (by rw[zA2];show ys.length+1<=j+1;lia) ⟨ja.updR fy,⟨_,_,rfl⟩,?_⟩⟩;rw[fQ,zAx aI];exact((hV.same (Same.upd qq)).same (Same.upd fy)).app (Els.one (r:=[(j:Int),L.getD j 0]) aj)
   .rw[decide_eq_false aI];refine bw (hR _ _ _ Zz ⟨ja,⟨_,_,rfl⟩,?_⟩);rw[fQ,if_neg aI];simpa using hV.same (Same.upd qq)
  .rintro ys σ Hj hy ⟨sc,_,hV⟩;refine⟨⟨_,SqL.of (sc _ _ e4),by rw[zA1];lia⟩,fun D hD nD=>?_⟩;exact q D ys _ ((KD.trans sc).updR hD) ((KD.trans sc).free hD) nD aj (hV.same (Same.upd hD))
theorem wQ{H:Hp}{xl:List V}{rs:List (List Int)}(h:Els H xl rs):∃(l:List Addr) (row:Addr->List Int),xl=l.map V.ref/\l.length=rs.length/\∀a∈l,row a∈rs/\H a=some (.tup ((row a).map V.int)):=by
 classical
 have hx:∀x∈xl,∃a:Addr,x=.ref a/\∃r∈rs,H a=some (.tup (r.map V.int)):=fun x hx=>by
  obtain⟨i,hi,e⟩:=List.getElem_of_mem hx;have EB:i<rs.length:=by rw[<-h.1];exact hi
  obtain⟨t,e1,e2⟩:=h.2 i rs[i] (zA0 EB);rw[zA0 hi,e]at e1;exact⟨t,zAl e1,rs[i],zAh EB,e2⟩
 have key:∀ys:List V,(∀x∈ys,∃a:Addr,x=.ref a/\∃r∈rs,H a=some (.tup (r.map V.int)))->∃l:List Addr,ys=l.map V.ref/\∀a∈l,∃r∈rs,H a=some (.tup (r.map V.int)):=fun ys=>by
  induction ys with
  |nil=>exact fun _=>⟨[],rfl,fun a ha=>by cases ha⟩
  |cons y ys ih=>
   intro hy;obtain⟨a,rfl,hr⟩:=hy y (.head _);obtain⟨l,rfl,hl⟩:=ih fun x hx=>hy x (.tail _ hx);refine⟨a::l,rfl,fun b hb=>?_⟩;rcases zAo.mp hb with z|z
   .rw[z];exact hr
   .exact hl b z
 obtain⟨l,e,hl⟩:=key xl hx;refine⟨l,fun a=>if z:∃r,r∈rs/\H a=some (.tup (r.map V.int))then z.choose else[],e,by rw[<-h.1,e,zA1],fun a ha=>?_⟩;obtain⟨r,hr,er⟩:=hl a ha
 have z:∃r,r∈rs/\H a=some (.tup (r.map V.int)):=⟨r,hr,er⟩
 dsimp only;rw[dif_pos z];exact z.choose_spec
theorem TB.sort{H:Hp}{bk ac:Addr}{xc:List V}{cs:List (List Int)}{ap:Addr}{xp:List V}{ps:List (List Int)}{af:Addr}{xs:List V}{ss:List (List Int)}(h:TB H bk ac xc cs ap xp ps af xs ss){n:Int}(n0:0<=n)(n1:n<ps.length):
  ∃tp a b c d e,atI xp n=some (.ref tp)/\H tp=some (.tup [.int a,.int (fl (ps.getD n.toNat []) 1),.int b,.int c,.int d,.int e]):=by
 obtain⟨p,hp,ep,op⟩:=eV h.b.okp n0 n1;obtain⟨tp,bP,bS⟩:=dR h.b.rp n0 hp;rw[dC op.1]at bS;rw[ep];exact⟨tp,_,_,_,_,_,bP,bS⟩
theorem DW(ps ss:List (List Int))(s m k:Nat):((eZ ps ss s m k).map bu).Nodup:=by
 have h:=wz (ps:=ps) (ss:=ss) (sort:=(s:Int)) (year:=(m:Int)) k;refine List.pairwise_map.mpr ((List.pairwise_map.mp h).imp_of_mem fun{a b} ha hb n z=>n ?_);obtain⟨_,_,_,_,_,_,ea⟩:=mZ ha;obtain⟨_,_,_,_,_,_,eb⟩:=mZ hb;have e0:fl a 0=fl b 0:=by rw[ea,eb];rfl
 have z:[fl a 1,fl a 2]=[fl b 1,fl b 2]:=z;simp only[List.cons.injEq,and_true]at z;show[fl a 0,fl a 1,fl a 2]=[fl b 0,fl b 1,fl b 2];rw[e0,z.1,z.2]
theorem DX{X:List (List Int)}(nd:(X.map bu).Nodup){n:Nat}(h:n<X.length):∀q∈X.take n,bu q≠bu X[n]:=fun q hq z=>by
 obtain⟨j,hj,e⟩:=List.getElem_of_mem hq;rw[zAd]at hj;rw[List.getElem_take]at e;have l1:j<(X.map bu).length:=by rw[zA1];lia
 have l2:n<(X.map bu).length:=by rw[zA1];exact h
 have:j=n:=(List.getElem_inj (h₀:=l1) (h₁:=l2) nd).mp (by rw[List.getElem_map,List.getElem_map,e];exact z);lia
theorem Gx{A L:List (List Int)}(nd:((A++L).map bu).Nodup){j:Nat}(h:j<L.length):∀q∈A++L.take j,bu q≠bu L[j]:=by
 have hl:A.length+j<(A++L).length:=by rw[zA2];lia
 have:=DX nd hl;rw[List.take_length_add_append,List.getElem_append_right Zz]at this;simpa using this
theorem Gy(p q:List Int->Bool)(r:List Int):List.filter q (List.filter p [r])=if p r=true/\q r=true then[r]else[]:=by
 cases h1:p r<;>cases h2:q r<;>simp[h1,h2]
theorem pK{ps G:List (List Int)}{s m i:Nat}(hi:i<G.length):cA ps (G.take (i+1)) s m=cA ps (G.take i) s m++(if fl (ps.getD (fl G[i] 1).toNat []) 1=s/\fl G[i] 0=m then[G[i]]else[]):=by
 unfold cA aD;rw[zAj,zA0 hi,List.filter_append,List.filter_append];congr 1;show List.filter _ (List.filter _ [G[i]])=_;rw[Gy];exact ite_congr (propext (by rw[Zp,Zp])) (fun _=>rfl) (fun _=>rfl)
theorem Bw{ps G:List (List Int)}{s m i:Nat}(hi:i<G.length):fH ps (G.take (i+1)) s m=fH ps (G.take i) s m++(if fl (ps.getD (fl G[i] 1).toNat []) 1=s/\fl G[i] 0≠m then[G[i]]else[]):=by
 unfold fH aD;rw[zAj,zA0 hi,List.filter_append,List.filter_append];congr 1;show List.filter _ (List.filter _ [G[i]])=_;rw[Gy];exact ite_congr (propext (by rw[Zp,Bool.not_eq_true',decide_eq_false_iff_not])) (fun _=>rfl) (fun _=>rfl)
theorem yx{ps G:List (List Int)}{s m i:Nat}(hi:i<G.length):fY ps (G.take (i+1)) s m=fY ps (G.take i) s m++(if fl (ps.getD (fl G[i] 1).toNat []) 1=s/\fl G[i] 0<m then[G[i]]else[]):=by
 unfold fY aD;rw[zAj,zA0 hi,List.filter_append,List.filter_append];congr 1;show List.filter _ (List.filter _ [G[i]])=_;rw[Gy];exact ite_congr (propext (by rw[Zp,Zp])) (fun _=>rfl) (fun _=>rfl)
theorem Bx{ps G:List (List Int)}{s m i:Nat}(nd:((cA ps G s m).map bu).Nodup)(hi:i<G.length)(h:fl (ps.getD (fl G[i] 1).toNat []) 1=s/\fl G[i] 0=m):∀q∈cA ps (G.take i) s m,bu q≠bu G[i]:=fun q hq z=>by
 have sb:(cA ps (G.take (i+1)) s m).Sublist (cA ps G s m):=((List.take_sublist _ _).filter _).filter _;have n1:=nd.sublist (sb.map bu);rw[pK hi,zAx h,zA4]at n1;exact(List.nodup_append.mp n1).2.2 _ (zA5.mpr ⟨q,hq,rfl⟩) _ (.head _) z
theorem DY{cs ps ss:List (List Int)}(B:BkO cs ps ss){m s:Nat}(hs:s<3):Fair (au ps ss s m) (cA ps (srt (cO cs ps ss m).g) s m) (wM cs ps ss m s):=by
 have lc:=bO (ss:=ss) (sort:=(s:Int)) (year:=(m:Int)) B.hl
 have bc:∀r∈au ps ss s m,0<=fl r 3/\fl r 3<=99:=fun r hr=>by have:=gG B r hr;lia
 have lm:(cA ps (srt (cO cs ps ss m).g) s m).length<=80:=by
  rw[(jz hs).length_eq];have:=(jy (au ps ss s m) (aV (wM cs ps ss m s) (au ps ss s m))).length_le;rw[zA1,zA1]at this;lia
 refine⟨v7 ps ss s m,wL hs,Bq B hs,Br B hs,yw B hs,⟨Az fun r hr=>(bc r hr).1,?_⟩,bc,Zz,Zz⟩
 have:=K23P.sum_le (B:=99) (l:=wts (au ps ss s m)) fun a ha=>by
  obtain⟨r,hr,rfl⟩:=zA5.mp ha;exact(bc r hr).2
 have e:(wts (au ps ss s m)).length=(au ps ss s m).length:=zA1 _;rw[e]at this;have:aP (au ps ss s m)<=99*((au ps ss s m).length:Int):=this;lia
theorem Gz{X:Cx}{S:Addr->Prop}(hu:X.A.units+64<cLine):OpR X (compareOp .NotEq) (fun x y H Q=>∃d e,IsTh S H x d/\IsTh S H y e/\PySem.SeqAt.shaped d=true/\PySem.SeqAt.shaped e=true/\PySem.SeqAt.noMix d e=true/\Q (.bl (!Spec.same d e)) H):=by
 intro Zt s σ H x y v u Q I rx ry h;obtain⟨d,e,t1,t2,sh,Ee,nm,q⟩:=h;obtain⟨as,r1,_⟩:=t1.reads I rx;obtain⟨bs,r2,_⟩:=t2.reads I ry;exact PyProof.Rows.ne_dataH_same r1 r2 sh Ee hu nm ⟨.bl _,H,I,rfl,q⟩
theorem Ea{X:Cx}{K:Frag}(hK:X.K=K):SlR X (Ho K):=by
 subst hK;exact yK
inductive SpSoI(vs:List V)(H:Hp)(Q:VK):Prop
 |mk:∀(bk:Addr) (m s:Nat) (ac:Addr) (xc:List V) (cs:List (List Int)) (ap:Addr) (xp:List V) (ps:List (List Int)) (af:Addr) (xs:List V) (ss:List (List Int)),(vs=[.ref bk,.int m,.int s,.int (wM cs ps ss m s)])->(TB H bk ac xc cs ap xp ps af xs ss)->(m<cs.length)->(s<3)->(∀H',Same H H'->Q (.bl true) H')->SpSoI  vs H Q
def Ji:Sp:=fun vs H Q _=>SpSoI  vs H Q
theorem JV:(["_law_one","_law_claims"]:List Str).Nodup:=by decide +kernel
theorem JW:(["_law_row","_law_book_here","_law_sort","_law_year"]:List Str).Nodup:=by decide +kernel
theorem pL:bootBuiltins "max"=some (.builtin "max"):=by decide +kernel
theorem pM:bootBuiltins "min"=some (.builtin "min"):=by decide +kernel
theorem scSO:FnScope ["_law_book_here","_law_year","_law_sort","_law_have","_law_claims","_law_mine","_law_elder","_law_number","_law_promise","_law_holder","_law_sacks","_law_due","_law_lacking"] ["_law_book_here","_law_year","_law_sort","_law_have"] (aK (top 72)):=fQS
theorem Jj(F:Fun K "_law_sort_right" "_law_sort_right" (top 72) f fd)(Te:mg "enumerate"=none)(Ts:mg "sum"=none)(Tm:mg "max"=none)(Tn:mg "min"=none)
  (ch:Cal P w K mg base 8 "holdings" ["book","number","year"] Bv) (cg:Cal P w K mg base 11 "gifts_in" ["book","year"] (nj Ar)) (co:Cal P w K mg base 12 "owed_by" ["book","year"] (nj wG)) (Nm:Cal P w K mg base 1 "_law_shares_right" ["_law_claims","_law_mine","_law_have"] Jf):FnOk P w K mg base CX0 13 f fd ["_law_book_here","_law_year","_law_sort","_law_have"] Ji:=by
 refine F.ok scSO (fun vs H Q E h=>?_) (fun ar A outer s_ H vs Q E hr h=>?_)
 .obtain⟨bk,m,s,ac,xc,cs,ap,xp,ps,af,xs,ss,rfl,_⟩:=h;rfl
 .obtain⟨bk,m,s,ac,xc,cs,ap,xp,ps,af,xs,ss,rfl,B,hm,hs,q⟩:=h
  refine K23P.ok_b (aY ⟨cH (cz (az lW (az lW (az (cJ ao) ao)))) (bG rfl (aq (bH (i:=4) scSO.nd rfl (Or.inr rfl)) (aq (pgn 5 scSO.nd) (aq (pgn 6 scSO.nd) aW))))⟩
   (aY ⟨cD zB5 rfl (ZT.pi_enum true rfl Te (az (pX bC (pv 0) aC) ao)) (bG rfl (aq (pgn 7 scSO.nd) (aq (pgn 8 scSO.nd) aW)))
    (aF (cj (bz gK (pX bC (pv 8) aC) (pv 2) (bf _))
     (aF (cD zB5 rfl (eO (aJ ch hr (az (pv 0) (az (pv 7) (az (pv 1) ao))))) (bG rfl (aq (pgn 9 scSO.nd) (aq (pgn 10 scSO.nd) aW)))
      (aF (jb (eG hr) (pv 4) (cz (az (pv 7) (az (pv 9) ao))) (pv 10) rfl)))) aZ))⟩
   (aY ⟨cD zB5 rfl (eO (aJ cg hr (az (pv 0) (az (pv 1) ao)))) (bG rfl (aq (pgn 11 scSO.nd) (aq (pgn 7 scSO.nd) (aq (pgn 9 scSO.nd) (aq (pgn 10 scSO.nd) aW)))))
    (aF (cj (PW.pt (pQ (bz gK (pX bC (pX bC (pX bC (pv 0) aC) (pv 7)) aC) (pv 2) (bf _)) (kW (bz gK (pv 11) (pv 1) (bf _)))))
     (aF (jb (eG hr) (pv 5) (cz (az (pv 7) (az (pv 9) ao))) (pv 10) rfl))
     (aF (cj (bz gK (pX bC (pX bC (pX bC (pv 0) aC) (pv 7)) aC) (pv 2) (bf _))
      (aF (cW (oG zBg zBf zBe fc (pv 6) (az (cz (az (pv 11) (az (pv 7) (az (pv 9) ao)))) ao)))) aZ))))⟩
   (aY ⟨cj (PW.pt (rG (cu (di (aJ Nm hr (az (pv 4) (az (pv 5) (az (pv 3) ao)))))) (uo (PW.pt (pQ (bz (Gz (S:=fun _=>True) (pI hr)) (pv 6) (cJ ao) (bf _)) (kW (bz lG (aN (cZ rfl) rfl Ts boot_sum (az (uP (cC ["_law_one","_law_claims"] [none,some 4] rfl (lq (pv 4)) (fun C fp Zt s₂ H₂=>⟨pgn 0 JV,c7,gC (eG hr) (pv 1) (pv 0) (fun _ _=>rfl)⟩) (fun C=>cI trivial) ⟨rfl,rfl,rfl,rfl⟩)) ao)) (pv 3) (bf _)))))))) (aF (aO iI)) aZ⟩
   (aY ⟨iu (g:=bD 0) (i:=12) ["_law_row","_law_book_here","_law_sort","_law_year"] [none,some 0,some 2,some 1] rfl scSO.nd rfl (Or.inl rfl) (eO (aJ co hr (az (pv 0) (az (pv 1) ao)))) (fun C fp Zt s₂ H₂=>⟨pgn 0 JW,ir (PW.pt (pQ (bz gK (pX (K23P.ix_tupK (K:=K) rfl) (pX (K23P.ix_tupK (K:=K) rfl) (pX (K23P.ix_tupK (K:=K) rfl) (pv 1) aC) (pX (K23P.ix_tupK (K:=K) rfl) (pv 0) aC)) aC) (pv 2) (bf _)) (kW (bz jR (pX (K23P.ix_tupK (K:=K) rfl) (pv 0) aC) (pv 3) (bf _))))),lK (Ea (K:=K) rfl) (pv 0) q8 (q9 aC)⟩) (fun C=>cI (cI (cI trivial))) ⟨rfl,rfl,rfl,rfl⟩⟩
   (fO ⟨aO (Ec (dM (Bg (S:=fun _=>True) (pI hr)) (pv 12) (cJ ao) (bf _)) (Ec (dM (Bg (S:=fun _=>True) (pI hr)) (pv 6) (cJ ao) (bf _)) (dH (dM (G9 (pI hr)) (aN (xY rfl (pI hr)) rfl Tm pL (az (pv 6) ao)) (aN (xZ rfl (pI hr)) rfl Tn pM (az (pv 12) ao)) (bf _)))))⟩)))))) ?_
  have j0:(0:Int)<=m:=Zz
  have j1:(m:Int)<cs.length:=Zz
  have Nn:=B.b.lc;have Np:=B.b.lp;refine aH (aX ?_)
  refine fun dc KG=>fun dm AO=>⟨zL,fun el yb=>⟨zL,fun t ht=>?_⟩⟩
  have u1:=Same.upd (o:=.dT []) KG;have u2:=Same.upd (o:=.dT []) AO;have u3:=Same.upd (o:=.lst []) yb;have u4:=Same.upd (o:=.tup [.ref dc,.ref dm,.ref el]) ht;have e1:=u4 _ _ (u3 _ _ (u2 _ _ (aj (H:=H) (a:=dc) (o:=.dT []))));have e2:=u4 _ _ (u3 _ _ (aj (H:=upd H dc (.dT [])) (a:=dm) (o:=.dT [])));have e3:=u4 _ _ (aj (H:=upd (upd H dc (.dT [])) dm (.dT [])) (a:=el) (o:=.lst []));have e4:=aj (H:=upd (upd (upd H dc (.dT [])) dm (.dT [])) el (.lst [])) (a:=t) (o:=.tup [.ref dc,.ref dm,.ref el]);have S1:Same H _:=((u1.trans u2).trans u3).trans u4;have ED:dc≠dm:=aG (aj (H:=H) (a:=dc) (o:=.dT [])) AO;have KH:dc≠el:=aG (u2 _ _ (aj (H:=H) (a:=dc) (o:=.dT []))) yb;have KI:dm≠el:=aG (aj (H:=upd H dc (.dT [])) (a:=dm) (o:=.dT [])) yb;have Nq:H dm=none:=u1.free AO;have Nr:H el=none:=(u1.trans u2).free yb;clear u1 u2 u3 u4 AO yb;generalize upd (upd (upd (upd H dc (.dT [])) dm (.dT [])) el (.lst [])) t (.tup [.ref dc,.ref dm,.ref el])=H1 at e1 e2 e3 e4 S1⊢;refine⟨t,_,rfl,SqT.of e4,rfl,_,_,rfl,_,_,rfl,_,_,rfl,rfl,?_⟩;clear e4;dsimp only;refine aH ?_;have B1:=B.same S1;refine⟨_,rfl,bk,_,1,.ref ap,rfl,rfl,SqT.of B1.b.e,rfl,ap,xp,rfl,SqT.of B1.b.rp.e,?_⟩;refine ZT.for_enum true (xs:=xp) (fun i σ Hc=>∃x7 x8 x9 dQ,σ=[some (.ref bk),some (.int m),some (.int s),some (.int (wM cs ps ss m s)),some (.ref dc),some (.ref dm),some (.ref el),x7,x8,x9,dQ,none,none]/\Same H Hc/\Hc dc=some (.dT ((eZ ps ss s m i).map fJ))/\Hc dm=some (.dT [])/\Hc el=some (.lst [])) ?_ ?_ ?_ ?_
  .exact⟨none,none,none,none,rfl,S1,e1,e2,e3⟩
  .rintro i σ Hc hi ⟨x7,x8,x9,dQ,rfl,sc,f1,f2,f3⟩;exact SqT.of (sc _ _ B.b.rp.e)
  .rintro i x σ Hc T hx ⟨x7,x8,x9,dQ,rfl,sc,f1,f2,f3⟩ hT
   have hi:i<ps.length:=by
    have:=(zAa.mp hx).1;rw[B.b.rp.l]at this;exact this
   obtain⟨tp,bP,bS⟩:=dR B.b.rp (show(0:Int)<=i by lia) (show ps[((i:Int)).toNat]?=some ps[i] by rw[zAi];exact zA0 hi)
   have:x=.ref tp:=by
    have h2:=dN hx;rw[bP]at h2;exact(zAl h2).symm
   subst this;have op:=B.b.okp _ (zAh hi);have KJ:ps.getD i []=ps[i]:=getD_get hi;rw[dC op.1]at bS;have kT:=Same.upd (o:=.tup [.int (i:Int),.ref tp]) hT;have eT:=aj (H:=Hc) (a:=T) (o:=.tup [.int (i:Int),.ref tp]);have sT:=sc.trans kT;have f1:=kT _ _ f1;have f2:=kT _ _ f2;have f3:=kT _ _ f3;generalize upd Hc T (.tup [.int (i:Int),.ref tp])=Hd at kT eT sT f1 f2 f3⊢;refine⟨T,_,rfl,SqT.of eT,rfl,_,_,rfl,_,_,rfl,rfl,?_⟩;refine zT fun De nv=>?_;refine⟨_,rfl,tp,_,1,.int (fl ps[i] 1),rfl,rfl,SqT.of (sT _ _ bS),rfl,_,rfl,rfl,_,rfl,?_⟩;by_cases bp:fl ps[i] 1=s
   .rw[zAt (by rw[bp])];refine bI ?_;have Bd:=B.same sT;refine⟨_,rfl,_,rfl,_,rfl,fun _=>False,bk,(i:Int),(m:Int),_,ac,xc,cs,ap,xp,ps,af,xs,ss,rfl,Bd.th,Bd.sz,Bd.ok,Bd.b,Zz,Zz,Zz,Zz,fun l xl H' s' nl IQ KL dE=>⟨l,rfl,⟨_,SqL.of KL⟩,?_⟩⟩;rw[zAi]at dE
    have wt:dG ps ss s m i=(cV (bj (ps.getD i []) ss i m) 8).map (fun r=>(m:Int)::(i:Int)::r):=by
     unfold dG;rw[KJ,zAx bp]
    have nB:eZ ps ss s m (i+1)=eZ ps ss s m i++dG ps ss s m i:=rfl;have nd:=DW ps ss s m (i+1);have hlen:(dG ps ss s m i).length=(cV (bj (ps.getD i []) ss i m) 8).length:=by rw[wt,zA1]
    have Rl:=jt ps ss s m i;have Rm:=tR ps ss s m i;rw[nB]at nd;have EE:=s' _ _ f1;refine j7 (xs:=xl) (fun j σ Hx=>∃x9 dQ,σ=[some (.ref bk),some (.int m),some (.int s),some (.int (wM cs ps ss m s)),some (.ref dc),some (.ref dm),some (.ref el),some (.int i),some (.ref tp),x9,dQ,none,none]/\Bt dc H' Hx/\Hx dc=some (.dT ((eZ ps ss s m i++(dG ps ss s m i).take j).map fJ))) ?_ ?_ ?_ ?_
    .exact⟨_,_,rfl,fun _ _ e _=>e,by rw[List.take_zero,zAn];exact EE⟩
    .rintro j σ Hx hj ⟨x9,dQ,rfl,bt,g1⟩;exact SqL.of (bt.lst EE KL)
    .rintro j x σ Hx KN ⟨x9,dQ,rfl,bt,g1⟩
     have AN:j<(cV (bj (ps.getD i []) ss i m) 8).length:=by
      have:=(zAa.mp KN).1;rw[dE.1]at this;exact this
     have hj:j<(dG ps ss s m i).length:=Zz
     obtain⟨t2,ex,et⟩:=(dE.keep (bt.tups EE)).2 j _ (zA0 AN)
     have:x=.ref t2:=by
      rw[KN]at ex;exact zAl ex
     subst this;obtain⟨h,hh,eh⟩:=zA5.mp (zAh AN)
     have er:(dG ps ss s m i)[j]=(m:Int)::(i:Int)::(cV (bj (ps.getD i []) ss i m) 8)[j]:=by
      simp only[wt,List.getElem_map]
     have kn:=Gx nd hj;have de:(dG ps ss s m i).take (j+1)=(dG ps ss s m i).take j++[(dG ps ss s m i)[j]]:=by rw[zAj,zA0 hj];rfl
     rw[<-eh]at et er;rw[er]at kn de;rw[de];refine⟨t2,_,rfl,SqT.of et,rfl,_,_,rfl,_,_,rfl,rfl,?_⟩;refine⟨_,rfl,_,rfl,_,rfl,_,rfl,zL,fun t3 EF=>?_⟩;have s6:=Same.upd (o:=.tup [.int (i:Int),.int (h:Int)]) EF;have nE:upd Hx t3 (.tup [.int (i:Int),.int (h:Int)]) t3=some (.tup (((bu [(m:Int),(i:Int),(h:Int),(bj (ps.getD i []) ss i m).getD h 0]).map (Sum.inl:Int->Key)).map kV)):=aj;have g2:=s6 _ _ g1;generalize upd Hx t3 (.tup [.int (i:Int),.int (h:Int)])=Hy at s6 nE g2⊢;refine⟨dc,_,rfl,DPut.t g2 nE (by rw[zA1,zA2,zAd,sizeLine_eq];lia),?_⟩;refine⟨_,_,rfl,(bt.same s6).put,?_⟩;rw[<-zAf,<-wN kn];exact aj
    rintro σ Hx ⟨x9,dQ,rfl,bt,g1⟩;rw[dE.1,<-hlen,zAm,<-nB]at g1;exact nv _ _ ⟨_,_,_,_,rfl,fun b o e=>bt _ _ (s' _ _ (sT _ _ e)) (aG e KG),g1,bt _ _ (s' _ _ f2) ED.symm,bt _ _ (s' _ _ f3) KH.symm⟩
   .rw[zB1 (fun z=>bp (by injection z))];refine bw ?_
    have e0:eZ ps ss s m (i+1)=eZ ps ss s m i:=by
     show eZ ps ss s m i++dG ps ss s m i=_;unfold dG;rw[KJ,zAw bp,zAn]
    exact nv _ _ ⟨_,_,_,_,rfl,sT,by rw[e0];exact f1,f2,f3⟩
  rintro σ H2 ⟨x7,x8,x9,dQ,rfl,S2,f1,f2,f3⟩;rw[B.b.rp.l]at f1;have f1:H2 dc=some (.dT ((au ps ss s m).map fJ)):=f1;have B2:=B.same S2;have bko:=B.bko;have FA:=DY bko (m:=m) hs;have OR:=yu bko (m:=m) hs;have EN:=Bp bko (m:=m) hs;have gk:=Jb (cs:=cs) (ps:=ps) (ss:=ss) m;have g4:=B.gr m;have bd:=B.gv hm;clear B1 S1 e1 e2 e3;dsimp only;refine aH ?_;refine⟨_,rfl,_,rfl,B2.by_ j0 j1 fun g xg H3 s3 ng xA eg dP=>⟨g,rfl,⟨_,SqL.of eg⟩,?_⟩⟩;rw[zAi]at dP;have KO:g≠el:=(aG f3 ng).symm;have S3:=S2.trans s3;have B3:=B2.same s3;have f1:=s3 _ _ f1;have f2:=s3 _ _ f2;have f3:=s3 _ _ f3;clear s3 ng xA B2 S2;generalize srt (cO cs ps ss m).g=Gs at dP FA OR EN gk g4 bd;have kT:∀{Hx:Hp},(∀b o,H3 b=some o->b≠dm->b≠el->Hx b=some o)->∀b l,H3 b=some (.tup l)->Hx b=some (.tup l):=fun k b l e=>k b _ e (fun z=>by rw[z,f2]at e;cases e) (fun z=>by rw[z,f3]at e;cases e)
  have KP:g≠dm:=fun z=>by rw[z,f2]at eg;cases eg
  refine j7 (xs:=xg) (fun i σ Hx=>∃x7 x8 x9 dQ gy xl,σ=[some (.ref bk),some (.int m),some (.int s),some (.int (wM cs ps ss m s)),some (.ref dc),some (.ref dm),some (.ref el),x7,x8,x9,dQ,gy,none]/\(∀b o,H3 b=some o->b≠dm->b≠el->Hx b=some o)/\Hx dm=some (.dT ((cA ps (Gs.take i) s m).map fJ))/\Hx el=some (.lst xl)/\Els Hx xl ((fH ps (Gs.take i) s m).map keyOf)) ?_ ?_ ?_ ?_
  .exact⟨_,_,_,_,_,[],rfl,fun _ _ e _ _=>e,f2,f3,Els.nil⟩
  .rintro i σ Hx hi ⟨x7,x8,x9,dQ,gy,xl,rfl,kx,y2,y3,cK⟩;exact SqL.of (kx _ _ eg KP KO)
  .rintro i x σ Hx hx ⟨x7,x8,x9,dQ,gy,xl,rfl,kx,y2,y3,cK⟩
   have hi:i<Gs.length:=by
    have:=(zAa.mp hx).1;rw[dP.1]at this;exact this
   obtain⟨tr,fk,c6⟩:=(dP.keep (kT kx)).2 i Gs[i] (zA0 hi)
   have:x=.ref tr:=by
    rw[hx]at fk;exact zAl fk
   subst this;obtain⟨⟨a0,a1,⟨n0,n1,_⟩,c0,c1⟩,p1⟩:=gk _ (zAh hi);have r4:=g4 _ (zAh hi);have qB:=pK (ps:=ps) (s:=s) (m:=m) hi;have qE:=Bw (ps:=ps) (s:=s) (m:=m) hi;have yi:=fun h=>Bx (m:=m) FA.mn hi h
   have lM:(cA ps (Gs.take i) s m).length<=16000:=by
    have h1:=List.length_filter_le (fun r=>decide (fl r 0=(m:Int))) (aD ps (Gs.take i) s);have h2:=iD ps (Gs.take i) s;rw[zAd]at h2;have h1:(cA ps (Gs.take i) s m).length<=_:=h1;lia
   have lE:(fH ps (Gs.take i) s m).length<=16000:=by
    have h1:=List.length_filter_le (fun r=>!decide (fl r 0=(m:Int))) (aD ps (Gs.take i) s);have h2:=iD ps (Gs.take i) s;rw[zAd]at h2;have h1:(fH ps (Gs.take i) s m).length<=_:=h1;lia
   have n0:0<=fl Gs[i] 1:=n0;have n1:fl Gs[i] 1<ps.length:=n1;have BX:=B3.keep (kT kx);obtain⟨tp,q0,q2,q3,q4,q5,bP,bS⟩:=BX.sort n0 n1;generalize Gs[i]=r at c6 r4 n0 n1 qB qE yi bP bS;rw[cM r4]at c6;refine⟨tr,_,rfl,SqT.of c6,rfl,_,_,rfl,_,_,rfl,_,_,rfl,_,_,rfl,rfl,?_⟩;refine zT fun De nv=>?_;refine⟨_,rfl,bk,_,1,.ref ap,rfl,rfl,SqT.of BX.b.e,rfl,_,rfl,ap,xp,fl r 1,.ref tp,rfl,rfl,SqT.of BX.b.rp.e,bP,tp,_,1,_,rfl,rfl,SqT.of bS,rfl,_,rfl,rfl,_,rfl,?_⟩;by_cases h1:fl (ps.getD (fl r 1).toNat []) 1=s
   .rw[zAt (by rw[h1])];refine bI ?_;refine⟨_,rfl,_,rfl,rfl,_,rfl,?_⟩;by_cases h2:fl r 0=m
    .rw[zAt (by rw[h2])];refine bI ?_;rw[zAx ⟨h1,h2⟩]at qB;rw[zAw fun z=>z.2 h2,zAn]at qE;refine⟨_,rfl,_,rfl,_,rfl,_,rfl,zL,fun t3 EF=>?_⟩;have s6:=Same.upd (o:=.tup [.int (fl r 1),.int (fl r 2)]) EF;have nE:upd Hx t3 (.tup [.int (fl r 1),.int (fl r 2)]) t3=some (.tup (((bu r).map (Sum.inl:Int->Key)).map kV)):=aj;have sv:=s6 _ _ y2;have sA:=s6 _ _ y3;have jv:=cK.same s6;generalize upd Hx t3 (.tup [.int (fl r 1),.int (fl r 2)])=Hy at s6 nE sv sA jv⊢;refine⟨dm,_,rfl,DPut.t sv nE (by rw[zA1,sizeLine_eq];lia),?_⟩;refine nv _ _ ⟨_,_,_,_,_,xl,rfl,fun b o e AQ AR=>by rw[aA AQ];exact s6 _ _ (kx b o e AQ AR),?_,by rw[aA KI.symm];exact sA,?_⟩
     .rw[qB,<-wN (yi ⟨h1,h2⟩)];exact aj
     .rw[qE]
      exact jv.keep fun b z e=>by rw[aA fun w=>by rw[w,sv]at e;cases e];exact e
    .rw[zB1 (fun z=>h2 (by injection z))];refine bw ?_;rw[zAw fun z=>h2 z.2,zAn]at qB;rw[zAx ⟨h1,h2⟩]at qE;refine⟨_,rfl,bk,_,1,.ref ap,rfl,rfl,SqT.of BX.b.e,rfl,_,rfl,ap,xp,fl r 1,.ref tp,rfl,rfl,SqT.of BX.b.rp.e,bP,tp,_,1,_,rfl,rfl,SqT.of bS,rfl,_,rfl,rfl,_,rfl,?_⟩;rw[zAt (by rw[h1])];refine bI ?_;refine⟨_,rfl,.inl ⟨rfl,_,SqL.of y3⟩,_,rfl,_,rfl,_,rfl,zL,fun tt se=>?_⟩;have s6:=Same.upd (o:=.tup [.int (fl r 0),.int (fl r 1),.int (fl r 2)]) se;have nE:upd Hx tt (.tup [.int (fl r 0),.int (fl r 1),.int (fl r 2)]) tt=some (.tup ((keyOf r).map V.int)):=aj;have sv:=s6 _ _ y2;have sA:=s6 _ _ y3;have jv:=cK.same s6;have ll:=cK.1;rw[zA1]at ll;generalize upd Hx tt (.tup [.int (fl r 0),.int (fl r 1),.int (fl r 2)])=Hy at s6 nE sv sA jv⊢;refine⟨el,_,_,rfl,rfl,sA,by rw[sizeLine_eq];lia,?_⟩
     have ke:∀b z,Hy b=some (.tup z)->upd Hy el (.lst (xl++[.ref tt])) b=some (.tup z):=fun b z e=>by rw[aA fun w=>by rw[w,sA]at e;cases e];exact e
     refine nv _ _ ⟨_,_,_,_,_,xl++[.ref tt],rfl,fun b o e AQ AR=>by rw[aA AR];exact s6 _ _ (kx b o e AQ AR),by rw[aA KI,qB];exact sv,aj,?_⟩;rw[qE,zA4];exact(jv.keep ke).app (Els.one (ke _ _ nE))
   .rw[zB1 (fun z=>h1 (by injection z))];refine bw ?_;refine⟨_,rfl,bk,_,1,.ref ap,rfl,rfl,SqT.of BX.b.e,rfl,_,rfl,ap,xp,fl r 1,.ref tp,rfl,rfl,SqT.of BX.b.rp.e,bP,tp,_,1,_,rfl,rfl,SqT.of bS,rfl,_,rfl,rfl,_,rfl,?_⟩;rw[zB1 (fun z=>h1 (by injection z))];refine bw ?_;rw[zAw fun z=>h1 z.1,zAn]at qB qE;exact nv _ _ ⟨_,_,_,_,_,xl,rfl,kx,by rw[qB];exact y2,y3,by rw[qE];exact cK⟩
  rintro σ H4 ⟨x7,x8,x9,dQ,gy,xl,rfl,kx,y2,y3,cK⟩;rw[dP.1,zAm]at y2 cK;have S4:Same H H4:=fun b o e=>kx _ _ (S3 _ _ e) (aG e Nq) (aG e Nr);have f1:=kx _ _ f1 ED KH;have orr:=B.or (m+1);have Nt:=(jw (cs:=cs) B.b.lp B.b.un B.b.h5 B.b.okp (m+1)).2;clear kx kT B3 S3 eg dP gk g4 bd KP KO f2 f3;dsimp only;refine iw fun c_ fm=>?_
  have rest:∀Hx,Same H4 Hx->c_ [some (.ref bk),some (.int m),some (.int s),some (.int (wM cs ps ss m s)),some (.ref dc),some (.ref dm),some (.ref el),x7,x8,x9,dQ,gy,none] Hx:=fun Hx sx=>by
   refine fm _ _ ?_;clear fm c_;have SX:=S4.trans sx;have BX:=B.same SX;have y3:=sx _ _ y3;have cK:=cK.same sx;refine aH ?_;refine⟨_,rfl,_,rfl,BX.by_ j0 j1 fun ow xo H8 s8 no Rn eo gz=>⟨ow,rfl,⟨_,SqL.of eo⟩,?_⟩⟩;rw[zAi]at gz;have B8:=BX.same s8;have y3:=s8 _ _ y3;have cK:=cK.same s8;generalize cR cs ps ss (m+1)=W at gz orr Nt OR;refine gq W.length (fun i ys σ Hd=>Same H8 Hd/\(∃o1,σ=[o1,some (.ref bk),some (.int s),some (.int m)])/\Els Hd ys ((fY ps (W.take i) s m).map keyOf)) ⟨Same.refl _,⟨_,rfl⟩,Els.nil⟩ Zu ?_ ?_
   .rintro i ys σ Hd hi hy ⟨sd,⟨o1,rfl⟩,fA⟩;obtain⟨t2,ex,et⟩:=gz.2 i W[i] (zA0 hi);obtain⟨r4,n0,n1⟩:=orr _ (zAh hi);have elt:=yx (ps:=ps) (s:=s) (m:=m) hi;generalize W[i]=r at et r4 n0 n1 elt;have BD:=B8.same sd;obtain⟨tp,q0,q2,q3,q4,q5,bP,bS⟩:=BD.sort n0 n1;rw[cM r4]at et;refine⟨⟨_,_,SqL.of (sd _ _ eo),ex⟩,fun v H' y R hR=>?_⟩;obtain⟨rfl,y⟩:=y;have hv:=y _ (SqL.of (sd _ _ eo));rw[ex]at hv;cases hv;refine aM ?_;refine⟨_,rfl,bk,_,1,.ref ap,rfl,rfl,SqT.of BD.b.e,rfl,_,rfl,t2,_,1,.int (fl r 1),rfl,rfl,SqT.of (sd _ _ et),rfl,ap,xp,fl r 1,.ref tp,rfl,rfl,SqT.of BD.b.rp.e,bP,tp,_,1,_,rfl,rfl,SqT.of bS,rfl,_,rfl,rfl,_,rfl,?_⟩;by_cases h1:fl (ps.getD (fl r 1).toNat []) 1=s
    .rw[zAt (by rw[h1])];refine bI ?_;refine⟨_,rfl,t2,_,0,.int (fl r 0),rfl,rfl,SqT.of (sd _ _ et),rfl,_,rfl,_,_,rfl,rfl,_,rfl,?_⟩;by_cases h2:fl r 0<m
     .rw[zAt h2];rw[zAx ⟨h1,h2⟩]at elt;refine bI ⟨_,rfl,3,rfl,t2,_,rfl,SqT.of (sd _ _ et),(by show¬(HT.sIx 4 0 none=0/\HT.sIx 4 4 (some 3)=4);decide),fun p hp=>hR _ _ _ (by rw[zA2];show _+1<=i+1;lia) ⟨sd.updR hp,⟨_,rfl⟩,?_⟩⟩;rw[elt,zA4];exact(fA.same (Same.upd hp)).app (Els.one (r:=keyOf r) aj)
     .rw[zB1 h2];rw[zAw fun z=>h2 z.2,zAn]at elt;exact bw (hR _ _ _ Zz ⟨sd,⟨_,rfl⟩,by rw[elt];exact fA⟩)
    .rw[zB1 (fun z=>h1 (by injection z))];rw[zAw fun z=>h1 z.1,zAn]at elt;exact bw (hR _ _ _ Zz ⟨sd,⟨_,rfl⟩,by rw[elt];exact fA⟩)
   rintro ys σ Hd hy ⟨sd,_,fA⟩;rw[zAm]at fA;refine⟨⟨_,SqL.of (sd _ _ eo),by rw[gz.1];exact zA3 _⟩,fun D hD=>?_⟩;have u9:=Same.upd (o:=.lst ys) hD;have eD:=aj (H:=Hd) (a:=D) (o:=.lst ys);have fA:=fA.same u9;have S9:=((SX.trans s8).trans sd).trans u9;have y3:=u9 _ _ (sd _ _ y3);have cK:=(cK.same sd).same u9;generalize upd Hd D (.lst ys)=H9 at u9 eD fA S9 y3 cK⊢;dsimp only;refine jE ?_;refine⟨_,rfl,zL,fun lb EG=>?_⟩;have ub:=Same.upd (o:=.lst []) EG;have yk:=aj (H:=H9) (a:=lb) (o:=.lst []);have eD:=ub _ _ eD;have fA:=fA.same ub;have S9:=S9.trans ub;have y3:=ub _ _ y3;have cK:=cK.same ub;generalize upd H9 lb (.lst [])=Ha at ub yk eD fA S9 y3 cK⊢;refine⟨.list (((fY ps W s m).map keyOf).map bV),.list [],.lst trivial eD (lA fA),.lst trivial yk .nil,qZ _,rfl,rm _,_,rfl,?_⟩
   cases ki:Spec.same (.list (((fY ps W s m).map keyOf).map bV)) (.list [])with
   |true=>exact bI (q _ S9)
   |false=>
    refine bw ?_;refine⟨_,rfl,zL,fun lc Nu=>?_⟩;have uc:=Same.upd (o:=.lst []) Nu;have mS:=aj (H:=Ha) (a:=lc) (o:=.lst []);have eD:=uc _ _ eD;have fA:=fA.same uc;have S9:=S9.trans uc;have y3:=uc _ _ y3;have cK:=cK.same uc;generalize upd Ha lc (.lst [])=Hb at uc mS eD fA S9 y3 cK⊢;refine⟨.list (((fH ps Gs s m).map keyOf).map bV),.list [],.lst trivial y3 (lA cK),.lst trivial mS .nil,qZ _,rfl,rm _,_,rfl,?_⟩
    cases f7:Spec.same (.list (((fH ps Gs s m).map keyOf).map bV)) (.list [])with
    |true=>exact bI (q _ S9)
    |false=>
     refine bw ?_
     have p1:0<(fY ps W s m).length:=by
      cases z:fY ps W s m with
      |nil=>rw[z]at ki;cases ki
      |cons a b=>exact Nat.succ_pos _
     have p2:0<(fH ps Gs s m).length:=by
      cases z:fH ps Gs s m with
      |nil=>rw[z]at f7;cases f7
      |cons a b=>exact Nat.succ_pos _
     obtain⟨l1,yn,rfl,EH,yy⟩:=wQ cK;obtain⟨l2,yA,rfl,EI,yB⟩:=wQ fA;rw[zA1]at EH EI
     have k3:∀{L:List (List Int)} {x:List Int},x∈L.map keyOf->x.length=3:=fun{L x} h=>by
      obtain⟨r,_,rfl⟩:=zA5.mp h;rfl
     refine⟨_,rfl,el,l1,yn,rfl,SqL.of y3,Zz,fun a ha=>⟨SqT.of (yy a ha).2,k3 (yy a ha).1⟩,fun a ha=>⟨_,rfl,D,l2,yA,rfl,SqL.of eD,Zz,fun b hb=>⟨SqT.of (yB b hb).2,k3 (yB b hb).1⟩,fun b hb=>⟨a,b,yn a,yA b,rfl,rfl,SqT.of (yy a ha).2,SqT.of (yB b hb).2,by rw[k3 (yy a ha).1,k3 (yB b hb).1],?_⟩⟩⟩;obtain⟨e',he,ee⟩:=zA5.mp (yy a ha).1;obtain⟨l',hl,Nv⟩:=zA5.mp (yB b hb).1;rw[<-ee,<-Nv,OR e' he l' hl];exact q _ S9
  refine⟨_,rfl,_,rfl,_,rfl,dc,dm,_,_,_,rfl,f1,y2,ED,FA,fun H5 s5=>⟨_,rfl,?_⟩⟩;refine bw ?_;refine⟨_,rfl,zL,fun lb EG=>?_⟩;have u6:=Same.upd (o:=.lst []) EG;have yk:=aj (H:=H5) (a:=lb) (o:=.lst []);have s6:=s5.trans u6;generalize upd H5 lb (.lst [])=H6 at u6 yk s6⊢;refine⟨.list (((fH ps Gs s m).map keyOf).map bV),.list [],.lst trivial (s6 _ _ y3) (lA (cK.same s6)),.lst trivial yk .nil,qZ _,rfl,rm _,_,rfl,?_⟩
  cases ki:Spec.same (.list (((fH ps Gs s m).map keyOf).map bV)) (.list [])with
  |true=>
   refine bw ?_;exact rest _ s6
  |false=>
   refine bI ?_
   refine rC rfl (s6 _ _ f1) FA.cn FA.lc fun D H7 s7 eD=>⟨D,wts (au ps ss s m),rfl,.inl (SqL.of eD),_,rfl,_,_,rfl,rfl,_,rfl,?_⟩
   have hle:¬(wts (au ps ss s m)).sum>wM cs ps ss m s:=fun z=>by
    have:=EN z;rw[this]at ki;cases ki
   rw[zB1 hle];refine bw ?_;exact rest _ (s6.trans s7)
inductive SpLawI(K:Frag)(vs:List V)(H:Hp)(Q:VK):Prop
 |mk:∀(a:Addr) (ns:List Int),(vs=[.ref a])->(SqL K H a (ns.map V.int))->(ns.length<=63)->(∀H',Q (.bl true) H')->SpLawI K vs H Q
def wR(K:Frag):Sp:=fun vs H Q _=>SpLawI K vs H Q
theorem scLI:FnScope ["_law_script","_law_k","_law_state_here","_law_book_here","_law_year","_law_down","_law_sort","_law_have"] ["_law_script"] (aK (top 73)):=fQS
theorem GC(F:Fun K "law" "law" (top 73) f fd)(T:Mg mg)(Tr:mg "range"=none)(Tm:mg "max"=none)(Tn:mg "min"=none)
  (c1:Cal P w K mg base 2 "_law_state" ["_law_script","_law_k"] (vP K)) (c2:Cal P w K mg base 4 "_law_book" ["_law_state_here","_law_years","_law_most","_law_sales_here"] wF) (cl:Cal P w K mg base 11 "left_in" ["book","year"] (nj Ez)) (c3:Cal P w K mg base 13 "_law_sort_right" ["_law_book_here","_law_year","_law_sort","_law_have"] Ji):FnOk P w K mg base CX0 63 f fd ["_law_script"] (wR K):=by
 refine F.ok scLI (fun vs H Q E h=>?_) (fun ar A outer s H vs Q E hr h=>?_)
 .obtain⟨a,ns,rfl,_⟩:=h;rfl
 .obtain⟨a,ns,rfl,hS,hl,q⟩:=h
  refine K23P.ok_b (aY ⟨cD zB5 rfl (cY rfl Tr (az (aN (oh rfl) rfl Tm pL (az aC (az (aN (il rfl) rfl Tn pM (az (aN bF rfl T.len PySem.boot_len (az (pv 0) ao)) (az aC ao))) ao))) ao)) (pgn 1 scLI.nd)
   (vA (aY (km 2 scLI.nd ⟨aJ c1 hr (az (pv 0) (az (pv 1) ao))⟩)
   (aY (km 3 scLI.nd ⟨aJ c2 hr (az (pv 2) (az aC (az aC (az aC ao))))⟩)
   (fO ⟨cD zB5 rfl (cY rfl Tr (az (aN bF rfl T.len PySem.boot_len (az (pX bC (pv 3) aC) ao)) ao)) (pgn 4 scLI.nd)
    (vA (aY (km 5 scLI.nd ⟨aJ cl hr (az (pv 3) (az (pv 4) ao))⟩)
    (fO ⟨cD zB5 rfl (cY rfl Tr (az aC ao)) (pgn 6 scLI.nd)
     (vA (aY (km 7 scLI.nd ⟨aU bL (pX bC (pX bC (pX bC (pv 3) aC) (pv 4)) (pv 6)) (rH (bz gK (pv 6) aC (bf _)) aC (pX bC (pv 5) (aU fj (pv 6) aC)))⟩)
     (fO ⟨cj (cu (di (aJ c3 hr (az (pv 3) (az (pv 4) (az (pv 6) (az (pv 7) ao))))))) (aF (aO iI)) aZ⟩)))⟩)))⟩))))⟩
   (fO (yV HN))) ?_
  refine aH ?_;have kB:(ns.map V.int).length<=63:=by rw[zA1];exact hl
  refine⟨_,rfl,a,_,rfl,.inl hS,_,_,rfl,_,_,rfl,_,rfl,?_,?_,?_⟩
  .split<;>split<;>lia
  .split<;>split<;>lia
  refine cT (lo:=0) (fun i σ Hc=>∃x1 x2 x3 x4 x5 x6 x7,σ=[some (.ref a),x1,x2,x3,x4,x5,x6,x7]/\Same H Hc) ?_ ?_ ?_
  .exact⟨none,none,none,none,none,none,none,rfl,Same.refl H⟩
  .rintro i σ H1 hi ⟨x1,x2,x3,x4,x5,x6,x7,rfl,s1⟩;refine aM (aH ?_);refine aX ?_;refine⟨_,rfl,_,rfl,a,ns,_,rfl,s1.seq hS,Zz,fun st x y hn CU Nw qh=>?_⟩;have xI:H st=none:=s1.free hn
   have g1:jo (upd H1 st (.lst [.int x,.int y])) st:=⟨x,y,aj,CU,Nw,qh⟩
   have s2:Same H (upd H1 st (.lst [.int x,.int y])):=s1.updR hn;generalize upd H1 st (.lst [.int x,.int y])=H2 at g1 s2⊢;refine aM ?_;dsimp only;have sN:∀{H3},Dr st H2 H3->Same H H3:=fun d b o e=>d.bt b o (s2 _ _ e) (aG e xI);refine aH (aX ?_);refine⟨_,rfl,st,10,8,6,rfl,g1,by decide,by decide,by decide,by decide,by decide,by decide,fun bk ac xc cs ap xp ps af xs ss H3 d3 eb rc lc1 Kv okc rp lp okp rs ls cw qA=>?_⟩
   have B3:TB H3 bk ac xc cs ap xp ps af xs ss:=⟨⟨eb,rc,fun r hr=>⟨(okc r hr).1,fun x hx=>((okc r hr).2 x hx).1⟩,Zz,rp,Zz,okp,rs,Zz,fun s hs=>(cw s hs).1,qA⟩,okc,lc1⟩
   have S3:=sN d3;clear eb rc rp rs cw okp okc d3 sN g1 s2;refine aM ?_;dsimp only;refine⟨_,rfl,bk,_,0,.ref ac,rfl,rfl,SqT.of B3.b.e,rfl,ac,xc,rfl,.inr (SqT.of B3.b.rc.e),_,rfl,by rw[B3.b.rc.l];lia,by rw[B3.b.rc.l];lia,?_⟩;refine cT (lo:=0) (fun j σ Hc=>∃x4 x5 x6 x7,σ=[some (.ref a),some (.int (0+i)),some (.ref st),some (.ref bk),x4,x5,x6,x7]/\Same H3 Hc) ?_ ?_ ?_
   .exact⟨_,_,_,_,rfl,Same.refl _⟩
   .rintro j σ Hc hj ⟨x4,x5,x6,x7,rfl,sc⟩;rw[B3.b.rc.l]at hj;have hj:j<cs.length:=Zz
    refine aM ?_;refine zT fun De nv=>?_;have z0:(0:Int)+(j:Int)=j:=Zz
    rw[z0];refine aH (aX ?_);have BC:=B3.same sc;refine⟨_,rfl,_,rfl,BC.by_ Zz Zz fun tl H4 s4 xB=>?_⟩;rw[zAi]at xB;have B4:=BC.same s4;have S4:=sc.trans s4;refine aM ?_;obtain⟨tc,EJ,AH⟩:=dR B4.b.rc (show(0:Int)<=j by lia) (show cs[((j:Int)).toNat]?=some cs[j] by rw[zAi];exact zA0 hj);have c3:=(B4.b.okc _ (zAh hj)).1
    have Ro:(cO cs ps ss j).l.length=3:=by
     show(yTo _ ps ss _ _ 3).l.length=3;rw[y_l 3];rfl
    have hw:∀k:Nat,k<3->cs[j].getD k 0+(if k=0 then 0 else(cO cs ps ss j).l.getD (k-1) 0)=wM cs ps ss j k:=fun k hk=>by
     unfold wM wAt;rw[getD_get hj];by_cases z:k=0
     .subst z;rw[zAx rfl];rfl
     .rw[zAw z];have:=DG (cs:=cs) (ps:=ps) (ss:=ss) j (s:=k-1) Zz;rw[getD_get hj,show k-1+1=k by lia]at this;rw[this]
    refine⟨3,rfl,by decide,by decide,?_⟩;refine cT (lo:=0) (fun k σ Hd=>∃x6 x7,σ=[some (.ref a),some (.int (0+i)),some (.ref st),some (.ref bk),some (.int j),some (.ref tl),x6,x7]/\Same H4 Hd) ?_ ?_ ?_
    .exact⟨_,_,rfl,Same.refl _⟩
    .rintro k σ Hd hk ⟨x6,x7,rfl,sd⟩;refine aM ?_;refine zT fun Rp yT=>?_;have z1:(0:Int)+(k:Int)=k:=Zz
     rw[z1];refine aH (aX ?_);have hc:atI (cs[j].map V.int) (k:Int)=some (.int (cs[j].getD k 0)):=dN (jq Zz);refine⟨_,rfl,bk,_,0,.ref ac,rfl,rfl,SqT.of (sd _ _ B4.b.e),rfl,_,rfl,ac,xc,(j:Int),.ref tc,rfl,rfl,SqT.of (sd _ _ B4.b.rc.e),EJ,_,rfl,tc,_,(k:Int),_,rfl,rfl,SqT.of (sd _ _ AH),hc,?_⟩;refine⟨_,rfl,rfl,_,rfl,?_⟩;have AS:=hw k hk;by_cases z:k=0
     .subst z;rw[decide_eq_true (show V.int ((0:Nat):Int)=V.int 0 from rfl)];refine bI ?_;refine⟨_,_,rfl,rfl,?_⟩;refine aM ?_;rw[if_pos rfl]at AS;dsimp only;rw[AS];refine⟨_,rfl,_,rfl,_,rfl,_,rfl,bk,j,0,ac,xc,cs,ap,xp,ps,af,xs,ss,rfl,B4.same sd,hj,hk,fun H5 s5=>⟨_,rfl,?_⟩⟩;refine bw ?_;exact yT _ _ ⟨_,_,rfl,sd.trans s5⟩
     .rw[zB1 (fun w=>z (by injection w with w;lia))];refine bw ?_
      have hd:atI ((cO cs ps ss j).l.map V.int) ((k:Int)-1)=some (.int ((cO cs ps ss j).l.getD (k-1) 0)):=by
       have:=dN (jq (L:=(cO cs ps ss j).l) (i:=k-1) Zz);rw[show(((k-1:Nat)):Int)=(k:Int)-1 by lia]at this;exact this
      refine⟨_,rfl,_,rfl,_,_,rfl,rfl,tl,_,_,_,rfl,rfl,SqT.of (sd _ _ xB),hd,_,_,rfl,rfl,?_⟩;refine aM ?_;rw[if_neg z]at AS;dsimp only;rw[AS];refine⟨_,rfl,_,rfl,_,rfl,_,rfl,bk,j,k,ac,xc,cs,ap,xp,ps,af,xs,ss,rfl,B4.same sd,hj,hk,fun H5 s5=>⟨_,rfl,?_⟩⟩;refine bw ?_;exact yT _ _ ⟨_,_,rfl,sd.trans s5⟩
    rintro σ Hd ⟨x6,x7,rfl,sd⟩;exact nv _ _ ⟨_,_,_,_,rfl,S4.trans sd⟩
   rintro σ Hc ⟨x4,x5,x6,x7,rfl,sc⟩;exact⟨_,_,_,_,_,_,_,rfl,S3.trans sc⟩
  .rintro σ Hc ⟨x1,x2,x3,x4,x5,x6,x7,rfl,sc⟩;exact q Hc
end K23
structure PySem.W.Fast:Prop where
 (tw5139052322815151104 tw6623840280476256288 tw8617148347501834272 tw4144635298200526944 tw3660870110391824480 tw2238276367278503008 tw12692228165745038496 tw2545265549786971584 tw14177319649355448896 tw5809339225513622112 tw195139155906187008 tw994773971996547105 tw10551489545947227201 tw12437712782714047585 tw2895083751558189441 tw171897303967506977 tw15450215135290073665 tw3155261241063144161 tw8490037349522124834 tw13902747004478860322 tw593740070169676066 tw1607346463559305538 tw15964856326996841794 tw1855061850309931458 tw5687683945250538946 tw9638993405914997282 tw1163258884726066882 tw13579249294675045058 tw7978582166554506050 tw16743227595983777666 tw9705734027976081346 tw3512365673155813379 tw14616334825220395075 tw7135772120180385955 tw8384026986036085955 tw9873779741587863843 tw2560341287169200451 tw2972660236565255491 tw14376539073186436483 tw17866644988729393699 tw16746714744075551459 tw11682412547097273091 tw16260660142585673571 tw3201527731152866179 tw17969928886341697443 tw1848904754268980228 tw7280524052387054788 tw4821986337607028964 tw8834236085197447524 tw6600366165596188004 tw3256806948851881412 tw10715299896418146820 tw920990242015131172 tw9302784894950623812 tw11933769890835371716 tw10511218297189630692 tw12340118058182531844 tw18344920974021933892 tw15938174731931368388 tw11073586028813413316 tw7103991626656789541 tw11052240357486510117 tw17167620743027420197 tw13578353222872796261 tw5858045401830236261 tw1017261888722381925 tw11050978052290500773 tw11059377539968648357 tw10746970844964275365 tw17020566572246270245 tw2494320872644277573 tw7608416939143430469 tw114617417297486213 tw4244575134116564357 tw12568068088335611397 tw13650757465020955301 tw16264511869647481541 tw15859247768572406565 tw7269366045173261093 tw12440349884743534405 tw12068551911404193669 tw8049784967892092869 tw12564893509560891365 tw17379847498835172422 tw7664685596893883622 tw613122216775128326 tw17457071708236578150 tw16527298135674939846 tw6684252266256771590 tw8342648659694500646 tw8840374937149807430 tw1637625744241064838 tw13341944273616145511 tw4014863951632211047 tw16164368953991275751 tw1624588104260558119 tw11724674687023792487 tw2801776013244942727 tw521954294847933831 tw14380689840630022599 tw16335968507200193991 tw15589604403431436775 tw11733250900172600839 tw7012118091738454599 tw16346321846412068679 tw9577152518680176519 tw4428595014459666472 tw17967511343091634280 tw10360231736774083880 tw5918301456407405896 tw17244391902823833096 tw8578651588016924168 tw9051636971144558120 tw3600675474719598184 tw4406840901655326472 tw12910913606014548840 tw3566597280425762025 tw7917386577478803753 tw2014533037155600681 tw12032188728742258089 tw11597115888119409417 tw13686169938617519913 tw14161164178070617897 tw9658344745977295817 tw393914548991052906 tw1339340946873892234 tw12230512222233317802 tw6117140021272706538 tw11743576968969028170 tw9014042621807328874 tw7888191543088516746 tw10997286878732672650 tw12414255564234355434 tw13232042816311740170 tw13757750130112067370 tw1914119076265972554 tw1515154557335552107 tw5220441111090372747 tw15926225601639116043 tw13745283485571079563 tw16679578083082866187 tw5949653014147618379 tw17772134120833189547 tw14900894479071709995 tw5477282891854983212 tw16497998997124572268 tw8436018590077241516 tw11491480026380113164 tw12531449979718386988 tw1119932905759027596 tw2878625399461494156 tw17360952633354949036 tw4371294820418331084 tw16605827899132974732 tw10534131878829410124 tw3656716484613784428 tw3398308213721418668 tw4717140739721960396 tw17025553422502508589 tw1646025898685844621 tw3352473540607960237 tw16221552326114585901 tw15175042287374314861 tw5233038596502049197 tw3731439037848886861 tw6621179496605250157 tw17593100421914692237 tw3836006671088749325 tw3457809606829353933 tw7773815024586272782 tw15216831888147735598 tw16806452962374538350 tw7428365177425967246 tw7706235338625317070 tw5304395654077232366 tw1735904551494891854 tw5275433778413793614 tw4942826985881971086 tw18121379494605655438 tw16199135998383132110 tw5767740128557481454 tw8365363453350839790 tw15095930311717234190 tw17953927603005730414 tw1890026343605637838 tw9586744291923379950 tw2219321935903899566 tw16624775714539809807 tw13126870691839847631 tw2912452130281229647 tw3900829146226563439 tw14633455301834938287 tw2575718144350790575 tw8109895803717131280 tw14691463910694313072 tw12179434682497112208 tw9921954885394786576 tw16914138530623727920 tw8478281846903847248 tw15200649298384657840 tw18265564041381088752 tw15454258164563454448 tw4619703786264452624 tw1660866564718452272 tw14931553181675816528 tw12731456695824861840 tw13400935993338361616 tw13870493358667763504 tw9160724985100898160 tw16133907160026841105 tw11513030369152779537 tw13771868683425082641 tw17597842558712884721 tw3484177133111190097 tw124270664859669361 tw2658010730759595985 tw14691432483360634833 tw16663500590183961585 tw10844270774563585170 tw6644378014950936754 tw17418620255382852786 tw8775266907990152434 tw10031866764926676274 tw3053492276691779250 tw11068413074762985170 tw11389063716971515634 tw13653876413945626418 tw13050930888095663026 tw15100779745799447506 tw9767011146038004787 tw7349574270467715283 tw17762809624665140531 tw15080611570642656595 tw5287902206844244371 tw15009661289348773299 tw8166654063629702739 tw6786987128315761235 tw15864437524095665811 tw8368118861425481395 tw12133089685624135347 tw2984496030077493971 tw8239178653190032147 tw3566667920892026707 tw12698899268902081363 tw14122548892718513043 tw11888237757320354900 tw4029276639829546132 tw17724654329888118964 tw16084527042561130836 tw8490150593710377460 tw10748222411671939604 tw10444540546079421972 tw4299897466845098676 tw6033687825434624724 tw1084372736745595668 tw5592410608261380980 tw239877747815117684 tw4236587479194444692 tw12357652860916880405 tw852396824596192373 tw12944254520918259893 tw3614403403625437461 tw13596471073207090549 tw7897569511476273589 tw1135144171093897749 tw527546279470916117 tw13259237571610491509 tw9128593337916721941 tw19068479665722197 tw12788742617597581269 tw10147990048235251798 tw13872089298783655222 tw13517352688137876918 tw12219167861599561334 tw16239814702926673526 tw8941806270198735606 tw9073080165085465366 tw10776415686507216758 tw16817064464276517782 tw4070415313595699126 tw16516928985772619734 tw9455233438477224918 tw1407092189879801943 tw5783659746326077815 tw4216431498005125623 tw17076428406454882903 tw15835629417990462135 tw601534822731620087 tw13367628967188480759 tw5700418821381214967 tw4132465679316118423 tw819948915908855767 tw10514158618455077847 tw18339589840418754616 tw13027300137560833112 tw7028560938107224184 tw13419263571404168440 tw7301652669338610008 tw17986170873150224792 tw18043454144185245144 tw18228451635773619672 tw14724143730197592600 tw8069442984050129656 tw2172521645120705400 tw4224637240316064728 tw4468093132209765401 tw10737886708670572601 tw9435996775368312889 tw3580832813185578169 tw13504850978906159289 tw10582238119685900473 tw4702370953001722105 tw6877637175121120601 tw6765441560963658105 tw7465654687023593849 tw15768000571902745049 tw14469198821891298841 tw6146383957709877785 tw196981202011884089 tw4216457851462161977 tw9134127016551330361 tw973518238241684057 tw12617235985868825401 tw10527012360432381785 tw3184047765129996410 tw2922098846948863162 tw1068560012973106394 tw4878688942514054618 tw9322930999723247098 tw2722401635294339834 tw9529333138813342586 tw5582213922533670939 tw6897009928524002555 tw1810769968052511003 tw17904269457251830139 tw7012527988225065403 tw9748792489483902395 tw16111157965426138651 tw10307986677824159323 tw5246412057273759387 tw3321896637285935867 tw9985106573202275067 tw5454397437365638971 tw7704219831784478587 tw2105103528736051131 tw7010589151515076668 tw5917568164339772540 tw9417119879736225052 tw11149308131054761308 tw9525047153732615516 tw14989133128204050812 tw9305723056336171452 tw17403723177509168604 tw9368205626240026204 tw16096781648659982012 tw2584217657235358428 tw3247759556965824348 tw16536808088029862748 tw6973001750747194332 tw3317229991416437756 tw12869099433620541436 tw14710535353018363933 tw6907853005936326717 tw9387520320680977501 tw11394536841850061949 tw6385363053868540285 tw18116919841771218333 tw13375534252693357085 tw11252157832495406653 tw12026618631437514301 tw13133272990324797021 tw3943960846029123165 tw6973587467343770301 tw6804949581739606781 tw17935993349334782845 tw9207083205553659869 tw10759318420613533693 tw10770986741981379806 tw16658090958455697662 tw6076885581878619710 tw12173648526805313150 tw9144961650005710494 tw9791422146153634558 tw9898070939020913566 tw8824551842887464862 tw7298611179374755838 tw7841051748781425727 tw3956058431138954399 tw11454523622492537119 tw3001509233951024479 tw9907660390117797311 tw15841621881251442207 tw9601840340013003327 tw3611285325689954879 tw15235627308490022623 tw8549937622122388447 tw10249193312120645279:True)
namespace K23
open PySem L2
theorem el1{C:List Value->Prop}(h:∀a0:Value,C [a0]):∀us:List Value,us.length=1->C us:=fun us e=>match us,e with|[a0],_=>h a0
theorem el2{C:List Value->Prop}(h:∀a0 a1:Value,C [a0,a1]):∀us:List Value,us.length=2->C us:=fun us e=>match us,e with|[a0,a1],_=>h a0 a1
theorem el3{C:List Value->Prop}(h:∀a0 a1 a2:Value,C [a0,a1,a2]):∀us:List Value,us.length=3->C us:=fun us e=>match us,e with|[a0,a1,a2],_=>h a0 a1 a2
theorem el4{C:List Value->Prop}(h:∀a0 a1 a2 a3:Value,C [a0,a1,a2,a3]):∀us:List Value,us.length=4->C us:=fun us e=>match us,e with|[a0,a1,a2,a3],_=>h a0 a1 a2 a3
theorem el5{C:List Value->Prop}(h:∀a0 a1 a2 a3 a4:Value,C [a0,a1,a2,a3,a4]):∀us:List Value,us.length=5->C us:=fun us e=>match us,e with|[a0,a1,a2,a3,a4],_=>h a0 a1 a2 a3 a4
def Has(K:Frag)(x:Str)(st:Stmt):Prop:=∃(f:Addr) (od an:Option Addr) (sl:Array (Option Value)) (oc kV dc pm cd ct:Value),PySem.W.nsIn K mainGlobals x=some (some (.ref f)) /\
 K.lookup f=some ⟨oc,od,.func (PySem.W.fnOf x x (fM st) (eQ st) (aK st) .none kV dc pm an cd ct),sl⟩/\PySem.W.codeIn K cd x=true/\PySem.W.keepIn K (.ref f)=true
theorem has_mk{K:Frag}{x:Str}{st:Stmt}{f:Addr}{od an:Option Addr}{sl:Array (Option Value)}{oc kV dc pm cd ct:Value}(a:PySem.W.nsIn K mainGlobals x=some (some (.ref f)))
  (l:K.lookup f=some ⟨oc,od,.func (PySem.W.fnOf x x (fM st) (eQ st) (aK st) .none kV dc pm an cd ct),sl⟩) (c:PySem.W.codeIn K cd x=true) (k:PySem.W.keepIn K (.ref f)=true):Has K x st:=⟨f,od,an,sl,oc,kV,dc,pm,cd,ct,a,l,c,k⟩
theorem Has.get{K:Frag}{x:Str}{st:Stmt}{h:Heap}{mg:Str->Option Value}(H:Has K x st)(X:K.In h)(G:h.Ns mainGlobals mg):∃f fd,Fun K x x st f fd/\mg x=some (.ref f):=by
 obtain⟨f,od,an,sl,oc,kV,dc,pm,cd,ct,a,l,c,k⟩:=H;exact⟨f,_,yM (st:=st) l c k,PySem.W.mg_of X G a⟩
theorem aR(P:Program)(w:World)(base:Heap){K:Frag}{mg:Str->Option Value}{k:Nat}{x:Str}{ps:List Str}{sp:Sp}{f:Addr}{fd:FuncData}(F:FnOk P w K mg base CX0 k f fd ps sp)(m:mg x=some (.ref f))(kp:PySem.W.keepIn K (.ref f)=true)(b:Binds K fd ps []):Cal P w K mg base k x ps sp:=⟨f,fd,F,m,kp,b⟩
theorem all_mk{l:PySem.W.OpenLaw}{w:World}{K:Frag}{h:Heap}{mg:Str->Option Value}{fa fL:Addr}{Nx KQ:Option Addr}{Ny:Array (Option Value)}{Nz KR KS rS EK KU:Value}{t0 t1 t2 t3 t4 t5 t6 t7 t8 t9 KW:Tok}(X:K.In h)(G:h.Ns mainGlobals mg)(NA:mg "law"=some (.ref fa))
  (h9:Has K "is_whole" (top 9))
  (h10:Has K "is_whole_from" (top 10))
  (h11:Has K "is_tuple_of" (top 11))
  (h12:Has K "are_wholes" (top 12))
  (h23:Has K "is_clip" (top 23))
  (h24:Has K "are_clips" (top 24))
  (h25:Has K "is_promise" (top 25))
  (h26:Has K "are_promises" (top 26))
  (h27:Has K "are_sales" (top 27))
  (h28:Has K "held_in" (top 28))
  (h29:Has K "is_sale_between" (top 29))
  (h30:Has K "sale_holds" (top 30))
  (h31:Has K "first_unheld" (top 31))
  (h32:Has K "is_book" (top 32))
  (h33:Has K "refuse_no_book" (top 33))
  (h34:Has K "holdings" (top 34))
  (h38:Has K "are_weights" (top 38))
  (h39:Has K "refuse_unpartable" (top 39))
  (h40:Has K "places_by_rest" (top 40))
  (h41:Has K "parts_of" (top 41))
  (h42:Has K "parted" (top 42))
  (h44:Has K "sacks_of" (top 44))
  (h45:Has K "claims_in" (top 45))
  (h46:Has K "shares_of" (top 46))
  (h47:Has K "made_good" (top 47))
  (h48:Has K "sort_given" (top 48))
  (h49:Has K "year_given" (top 49))
  (h50:Has K "years_given" (top 50))
  (h51:Has K "refuse_no_year_of" (top 51))
  (h52:Has K "refuse_no_year" (top 52))
  (h53:Has K "gifts_in" (top 53))
  (h54:Has K "left_in" (top 54))
  (h56:Has K "owed_behind" (top 56))
  (h57:Has K "owed_by" (top 57))
  (h59:Has K "_law_cell_at" (top 59))
  (h60:Has K "_law_state" (top 60))
  (h61:Has K "_law_take" (top 61))
  (h62:Has K "_law_clips" (top 62))
  (h63:Has K "_law_promises" (top 63))
  (h64:Has K "_law_begun" (top 64))
  (h65:Has K "_law_holds" (top 65))
  (h66:Has K "_law_sell" (top 66))
  (h67:Has K "_law_sold" (top 67))
  (h68:Has K "_law_any_sale" (top 68))
  (h69:Has K "_law_sales" (top 69))
  (h70:Has K "_law_book" (top 70))
  (h71:Has K "_law_shares_right" (top 71))
  (h72:Has K "_law_sort_right" (top 72))
  (aL:PySem.W.nsIn K mainGlobals "law"=some (some (.ref fL))) (lL:K.lookup fL=some ⟨Nz,Nx,.func (PySem.W.fnOf "law" "law" (fM (top 73)) (eQ (top 73)) (aK (top 73)) .none KR KS rS KQ EK KU),Ny⟩) (cL:PySem.W.codeIn K EK "law"=true) (kL:PySem.W.keepIn K (.ref fL)=true)
  (n0:PySem.W.nsIn K mainGlobals "SORTS"=some (some (.int 3 t0)))
  (n1:PySem.W.nsIn K mainGlobals "HOLDERS"=some (some (.int 8 t1)))
  (n2:PySem.W.nsIn K mainGlobals "LAST_YEAR"=some (some (.int 19 t2)))
  (n3:PySem.W.nsIn K mainGlobals "MOST_CLIPS"=some (some (.int 20 t3)))
  (n4:PySem.W.nsIn K mainGlobals "MOST_PROMISES"=some (some (.int 10 t4)))
  (n5:PySem.W.nsIn K mainGlobals "MOST_WOOL"=some (some (.int 999 t5)))
  (n6:PySem.W.nsIn K mainGlobals "MOST_SACKS"=some (some (.int 99 t6)))
  (n7:PySem.W.nsIn K mainGlobals "MOST_PRICE"=some (some (.int 1000000 t7)))
  (n8:PySem.W.nsIn K mainGlobals "MOST_SALES"=some (some (.int 12 t8)))
  (n9:PySem.W.nsIn K mainGlobals "MOST_WEIGHTS"=some (some (.int 80 t9)))
  (n10:PySem.W.nsIn K mainGlobals "MOST_WEIGHT"=some (some (.int 99 KW)))
  (cc:PySem.W.nsIn K mainGlobals "isinstance"=some none)
  (nK:PySem.W.nsIn K mainGlobals "int"=some none)
  (jI:PySem.W.nsIn K mainGlobals "bool"=some none)
  (gE:PySem.W.nsIn K mainGlobals "tuple"=some none)
  (nL:PySem.W.nsIn K mainGlobals "len"=some none)
  (nN:PySem.W.nsIn K mainGlobals "all"=some none)
  (ax:PySem.W.nsIn K mainGlobals "range"=some none)
  (qS:PySem.W.nsIn K mainGlobals "list"=some none)
  (jS:PySem.W.nsIn K mainGlobals "max"=some none)
  (fw:PySem.W.nsIn K mainGlobals "min"=some none)
  (yY:PySem.W.nsIn K mainGlobals "zip"=some none)
  (ah:PySem.W.nsIn K mainGlobals "enumerate"=some none)
  (fx:PySem.W.nsIn K mainGlobals "sorted"=some none)
  (cS:PySem.W.nsIn K mainGlobals "sum"=some none)
  (y7:PySem.W.nsIn K mainGlobals "abs"=some none)
  : ∃fd:FuncData,(∀(s:Shared) (v:Value),BindsTo s fd ⟨[v],[]⟩ [("_law_script",v)])/\∀base:Heap,K.In base->base.Ns mainGlobals mg->FnOk l.prog w K mg base CX0 63 fa fd ["_law_script"] (wR K):=by
 have e:=NA.symm.trans (PySem.W.mg_of X G aL);cases e;have FL:=yM (st:=top 73) lL cL kL;obtain⟨f9,Rq,F9,m9⟩:=h9.get X G;have b9:=F9.binds (ps:=["thing"]) fun _ _ _ _ _ _=>el1 fun _=>rfl;obtain⟨Rr,NB,EL,NC⟩:=h10.get X G;have ND:=EL.binds (ps:=["thing","least","most"]) fun _ _ _ _ _ _=>el3 fun _ _ _=>rfl;obtain⟨Rt,NF,EM,NG⟩:=h11.get X G;have NH:=EM.binds (ps:=["thing","fewest","most"]) fun _ _ _ _ _ _=>el3 fun _ _ _=>rfl;obtain⟨Ru,NI,EO,NJ⟩:=h12.get X G;have NK:=EO.binds (ps:=["thing","many"]) fun _ _ _ _ _ _=>el2 fun _ _=>rfl;obtain⟨Rv,NL,ER,NM⟩:=h23.get X G;have NN:=ER.binds (ps:=["thing"]) fun _ _ _ _ _ _=>el1 fun _=>rfl;obtain⟨Rw,NO,ES,NQ⟩:=h24.get X G;have NR:=ES.binds (ps:=["thing"]) fun _ _ _ _ _ _=>el1 fun _=>rfl;obtain⟨Rx,NS,ET,NT⟩:=h25.get X G;have NU:=ET.binds (ps:=["thing"]) fun _ _ _ _ _ _=>el1 fun _=>rfl;obtain⟨Ry,NV,EU,NW⟩:=h26.get X G;have NX:=EU.binds (ps:=["thing"]) fun _ _ _ _ _ _=>el1 fun _=>rfl;obtain⟨Rz,NY,EV,NZ⟩:=h27.get X G;have N0:=EV.binds (ps:=["thing"]) fun _ _ _ _ _ _=>el1 fun _=>rfl;obtain⟨RA,N1,EW,N3⟩:=h28.get X G;have N4:=EW.binds (ps:=["promises","sales","number","year"]) fun _ _ _ _ _ _=>el4 fun _ _ _ _=>rfl;obtain⟨RB,N5,EX,N6⟩:=h29.get X G;have N7:=EX.binds (ps:=["promises","sale"]) fun _ _ _ _ _ _=>el2 fun _ _=>rfl;obtain⟨RC,N8,EZ,N9⟩:=h30.get X G;have Oa:=EZ.binds (ps:=["promises","ahead","sale"]) fun _ _ _ _ _ _=>el3 fun _ _ _=>rfl;obtain⟨RD,Ob,E1,Oc⟩:=h31.get X G;have Od:=E1.binds (ps:=["promises","sales"]) fun _ _ _ _ _ _=>el2 fun _ _=>rfl;obtain⟨RE,Oe,E2,Of⟩:=h32.get X G;have Og:=E2.binds (ps:=["thing"]) fun _ _ _ _ _ _=>el1 fun _=>rfl;obtain⟨RF,Oh,E3,Oi⟩:=h33.get X G;have Oj:=E3.binds (ps:=["thing"]) fun _ _ _ _ _ _=>el1 fun _=>rfl;obtain⟨RG,Ol,E4,Om⟩:=h34.get X G;have Oo:=E4.binds (ps:=["book","number","year"]) fun _ _ _ _ _ _=>el3 fun _ _ _=>rfl;obtain⟨RH,Oq,E5,Ot⟩:=h38.get X G;have Ou:=E5.binds (ps:=["thing"]) fun _ _ _ _ _ _=>el1 fun _=>rfl;obtain⟨RI,Ov,E6,Ow⟩:=h39.get X G;have Ox:=E6.binds (ps:=["sacks","weights"]) fun _ _ _ _ _ _=>el2 fun _ _=>rfl;obtain⟨RJ,Oy,E7,Oz⟩:=h40.get X G;have OA:=E7.binds (ps:=["rests"]) fun _ _ _ _ _ _=>el1 fun _=>rfl;obtain⟨RK,OB,E8,OC⟩:=h41.get X G;have OD:=E8.binds (ps:=["sacks","weights"]) fun _ _ _ _ _ _=>el2 fun _ _=>rfl;obtain⟨RL,OE,E9,OF⟩:=h42.get X G;have OG:=E9.binds (ps:=["sacks","weights"]) fun _ _ _ _ _ _=>el2 fun _ _=>rfl;obtain⟨RM,OH,Fc,OI⟩:=h44.get X G;have OJ:=Fc.binds (ps:=["rows"]) fun _ _ _ _ _ _=>el1 fun _=>rfl;obtain⟨RN,OK,Fh,OL⟩:=h45.get X G;have OM:=Fh.binds (ps:=["promises","sales","sort","year"]) fun _ _ _ _ _ _=>el4 fun _ _ _ _=>rfl;obtain⟨RO,ON,Fm,OO⟩:=h46.get X G;have OP:=Fm.binds (ps:=["wool","claims"]) fun _ _ _ _ _ _=>el2 fun _ _=>rfl;obtain⟨RP,OQ,Fn,OS⟩:=h47.get X G;have OT:=Fn.binds (ps:=["wool","owed"]) fun _ _ _ _ _ _=>el2 fun _ _=>rfl;obtain⟨RQ,OU,Fs,OV⟩:=h48.get X G;have OW:=Fs.binds (ps:=["wool","claims","owed"]) fun _ _ _ _ _ _=>el3 fun _ _ _=>rfl;obtain⟨RS,OX,Fu,OY⟩:=h49.get X G;have OZ:=Fu.binds (ps:=["book","year","owed"]) fun _ _ _ _ _ _=>el3 fun _ _ _=>rfl;obtain⟨RT,O0,FC,O3⟩:=h50.get X G;have O4:=FC.binds (ps:=["book","year"]) fun _ _ _ _ _ _=>el2 fun _ _=>rfl;obtain⟨RU,O5,FD,O6⟩:=h51.get X G;have O7:=FD.binds (ps:=["clips","year"]) fun _ _ _ _ _ _=>el2 fun _ _=>rfl;obtain⟨RV,O8,FE,O9⟩:=h52.get X G;have Pa:=FE.binds (ps:=["book","year"]) fun _ _ _ _ _ _=>el2 fun _ _=>rfl;obtain⟨RW,Pb,FF,Pc⟩:=h53.get X G;have Pd:=FF.binds (ps:=["book","year"]) fun _ _ _ _ _ _=>el2 fun _ _=>rfl;obtain⟨RX,Pe,FG,Pf⟩:=h54.get X G;have Pg:=FG.binds (ps:=["book","year"]) fun _ _ _ _ _ _=>el2 fun _ _=>rfl;obtain⟨RY,Ph,FH,Pj⟩:=h56.get X G;have Pk:=FH.binds (ps:=["book","year"]) fun _ _ _ _ _ _=>el2 fun _ _=>rfl;obtain⟨RZ,Pl,FI,Pm⟩:=h57.get X G;have Pn:=FI.binds (ps:=["book","year"]) fun _ _ _ _ _ _=>el2 fun _ _=>rfl;obtain⟨R0,Po,FK,Pp⟩:=h59.get X G;have Pq:=FK.binds (ps:=["_law_script","_law_k"]) fun _ _ _ _ _ _=>el2 fun _ _=>rfl;obtain⟨R1,Pr,FO,Pt⟩:=h60.get X G;have Pu:=FO.binds (ps:=["_law_script","_law_k"]) fun _ _ _ _ _ _=>el2 fun _ _=>rfl;obtain⟨R3,Pw,FR,Px⟩:=h61.get X G;have Py:=FR.binds (ps:=["_law_state_here","_law_many"]) fun _ _ _ _ _ _=>el2 fun _ _=>rfl;obtain⟨R4,Pz,FU,PB⟩:=h62.get X G;have PD:=FU.binds (ps:=["_law_state_here","_law_most"]) fun _ _ _ _ _ _=>el2 fun _ _=>rfl;obtain⟨R5,PF,FV,PH⟩:=h63.get X G;have PJ:=FV.binds (ps:=["_law_state_here","_law_most","_law_years"]) fun _ _ _ _ _ _=>el3 fun _ _ _=>rfl;obtain⟨R6,PL,FX,PM⟩:=h64.get X G;have PN:=FX.binds (ps:=["_law_promises_here"]) fun _ _ _ _ _ _=>el1 fun _=>rfl;obtain⟨R7,PQ,FY,PR⟩:=h65.get X G;have PU:=FY.binds (ps:=["_law_promises_here","_law_rows","_law_sale"]) fun _ _ _ _ _ _=>el3 fun _ _ _=>rfl;obtain⟨R8,PV,F1,PX⟩:=h66.get X G;have PY:=F1.binds (ps:=["_law_promises_here","_law_rows","_law_sale"]) fun _ _ _ _ _ _=>el3 fun _ _ _=>rfl;obtain⟨R9,PZ,y8,KY⟩:=h67.get X G;have KZ:=y8.binds (ps:=["_law_promises_here","_law_sales_here"]) fun _ _ _ _ _ _=>el2 fun _ _=>rfl;obtain⟨Sa,P0,F2,P1⟩:=h68.get X G;have P2:=F2.binds (ps:=["_law_state_here","_law_promises_here"]) fun _ _ _ _ _ _=>el2 fun _ _=>rfl;obtain⟨Sb,P4,F3,P5⟩:=h69.get X G;have P6:=F3.binds (ps:=["_law_state_here","_law_promises_here","_law_most"]) fun _ _ _ _ _ _=>el3 fun _ _ _=>rfl;obtain⟨Sd,P7,F4,P8⟩:=h70.get X G;have P9:=F4.binds (ps:=["_law_state_here","_law_years","_law_most","_law_sales_here"]) fun _ _ _ _ _ _=>el4 fun _ _ _ _=>rfl;obtain⟨Se,Qa,F5,Qb⟩:=h71.get X G;have Qd:=F5.binds (ps:=["_law_claims","_law_mine","_law_have"]) fun _ _ _ _ _ _=>el3 fun _ _ _=>rfl;obtain⟨Sf,Qe,F6,Qf⟩:=h72.get X G;have Qg:=F6.binds (ps:=["_law_book_here","_law_year","_law_sort","_law_have"]) fun _ _ _ _ _ _=>el4 fun _ _ _ _=>rfl
 have T:Mg mg:=⟨(zAv X G cc),(zAv X G nK),(zAv X G jI),(zAv X G gE),(zAv X G nL),(zAv X G nN)⟩
 have TP:K23.Mg mg:=⟨(zAv X G cc),(zAv X G nK),(zAv X G jI),(zAv X G gE),(zAv X G nL),(zAv X G nN)⟩
 have N:Nums mg:=⟨⟨t0,PySem.W.mg_of X G n0⟩,⟨t1,PySem.W.mg_of X G n1⟩,⟨t2,PySem.W.mg_of X G n2⟩,⟨t3,PySem.W.mg_of X G n3⟩,⟨t4,PySem.W.mg_of X G n4⟩,⟨t5,PySem.W.mg_of X G n5⟩,⟨t6,PySem.W.mg_of X G n6⟩,⟨t7,PySem.W.mg_of X G n7⟩⟩
 have NP:K23P.Nums mg:=⟨⟨t9,PySem.W.mg_of X G n9⟩,⟨KW,PySem.W.mg_of X G n10⟩⟩
 have N2:MS mg:=⟨⟨t8,PySem.W.mg_of X G n8⟩⟩
 refine⟨PySem.W.fnOf "law" "law" (fM (top 73)) (eQ (top 73)) (aK (top 73)) .none KR KS rS KQ EK KU,fun s v=>.of_eq rfl,fun base _ _=>?_⟩;have C9:=aR l.prog w base (tD F9 T) m9 F9.kp b9;have AU:=aR l.prog w base (nZ EL C9) NC EL.kp ND;have sC:=aR l.prog w base (mO EM T) NG EM.kp NH;have F7:=aR l.prog w base (nU EO T C9 sC) NJ EO.kp NK;have Qh:=aR l.prog w base (uR ER T N F7) NM ER.kp NN;have Qi:=aR l.prog w base (qN ES T N Qh sC) NQ ES.kp NR;have Qj:=aR l.prog w base (nW ET T N F7) NT ET.kp NU;have K0:=aR l.prog w base (kE EU T N Qj sC) NW EU.kp NX;have K1:=aR l.prog w base (qQ EV T N2 F7 sC) NZ EV.kp N0;have F8:=aR l.prog w base (CV EW N) N3 EW.kp N4;have Qk:=aR l.prog w base (CW EX T N) N6 EX.kp N7;have Ql:=aR l.prog w base (zQ EZ T (zAv X G ax) Qk F8) N9 EZ.kp Oa;have Qm:=aR l.prog w base (zR E1 (zAv X G ah) K0 K1 Ql) Oc E1.kp Od;have Qn:=aR l.prog w base (CZ E2 sC Qi K0 K1 Qm) Of E2.kp Og;have K2:=aR l.prog w base (Dt E3 Qn) Oi E3.kp Oj;have Qo:=aR l.prog w base (DR E4 T N (zAv X G ah) K2 AU F8) Om E4.kp Oo;have Qp:=aR l.prog w base (K23P.ok_are_weights E5 TP NP AU sC) Ot E5.kp Ou;have Qq:=aR l.prog w base (K23P.ok_refuse E6 (zAv X G cS) Qp AU) Ow E6.kp Ox;have Qr:=aR l.prog w base (K23P.ok_places E7 (zAv X G ah) (zAv X G fx)) Oz E7.kp OA;have Qs:=aR l.prog w base (K23P.ok_parts E8 TP (zAv X G cS) Qr) OC E8.kp OD;have Qt:=aR l.prog w base (K23P.ok_parted E9 Qq Qs) OF E9.kp OG;have Qu:=aR l.prog w base (zU Fc (zAv X G cS)) OI Fc.kp OJ;have Qv:=aR l.prog w base (yg Fh (zAv X G ah) F8) OL Fh.kp OM;have Qw:=aR l.prog w base (yf Fm T (zAv X G cS) Qt) OO Fm.kp OP;have Qx:=aR l.prog w base (Dg Fn (zAv X G fw)) OS Fn.kp OT;have Qy:=aR l.prog w base (zZ Fs (zAv X G cS) (zAv X G qS) (zAv X G yY) Qw Qx) OV Fs.kp OW;have Qz:=aR l.prog w base (Dl Fu T N (zAv X G ax) (zAv X G fx) Qv Qy Qu) OY Fu.kp OZ;have GA:=aR l.prog w base (Aj FC (zAv X G ax) Qz) O3 FC.kp O4;have QA:=aR l.prog w base (Du FD T AU) O6 FD.kp O7;have GB:=aR l.prog w base (Av FE K2 QA) O9 FE.kp Pa;have QB:=aR l.prog w base (Aw FF GB GA) Pc FF.kp Pd;have QC:=aR l.prog w base (Dz FG GB GA) Pf FG.kp Pg;have QD:=aR l.prog w base (Ax FH GA) Pj FH.kp Pk;have QE:=aR l.prog w base (Dy FI GB QD) Pm FI.kp Pn;have QF:=aR l.prog w base (CQ FK T) Pp FK.kp Pq;have QG:=aR l.prog w base (zM FO QF) Pt FO.kp Pu;have AV:=aR l.prog w base (CT FR) Px FR.kp Py;have QH:=aR l.prog w base (yp FU T (zAv X G ax) AV) PB FU.kp PD;have QI:=aR l.prog w base (qX FV T (zAv X G ax) (zAv X G fw) AV) PH FV.kp PJ;have K3:=aR l.prog w base (Ak FX (zAv X G ah) (zAv X G ax)) PM FX.kp PN;have K4:=aR l.prog w base (yj FY T (zAv X G ax) (zAv X G fw)) PR FY.kp PU;have K5:=aR l.prog w base (Dq F1 (zAv X G ax)) PX F1.kp PY;have Sg:=aR l.prog w base (tY y8 (zAv X G ah) K3 K4 K5) KY y8.kp KZ;have CS:=aR l.prog w base (Ds (tY y8 (zAv X G ah) K3 K4 K5)) KY y8.kp KZ;have QJ:=aR l.prog w base (Gj F2 T (zAv X G jS) AV) P1 F2.kp P2;have QK:=aR l.prog w base (yq F3 T (zAv X G ax) AV QJ CS) P5 F3.kp P6;have QL:=aR l.prog w base (yr F4 T QH QI QK) P8 F4.kp P9;have QM:=aR l.prog w base (Jg F5 (zAv X G cS) (zAv X G y7)) Qb F5.kp Qd;have QN:=aR l.prog w base (Jj F6 (zAv X G ah) (zAv X G cS) (zAv X G jS) (zAv X G fw) Qo QB QE QM) Qf F6.kp Qg;exact GC FL T (zAv X G ax) (zAv X G jS) (zAv X G fw) QG QL QC QN
theorem walk{l:PySem.W.OpenLaw}{q:Program}{loose:List Str}{XP:(Str->Option Value)->Heap->Prop}{YP:World->Heap->Prop}{d:DefRec}{K:Params->Frag}(hn:l.most=some 63)(tN:d.params.defaults=[])
  (hY:∀(w:World) (h:Heap),YP w h->(K w.params).In h)
  (F:∀(w:World) (mg:Str->Option Value) (fa:Addr) (h:Heap),(K w.params).In h->h.Ns mainGlobals mg->mg d.name=some (.ref fa)->
   ∃fd:FuncData,(∀(s:Shared) (u:Value),BindsTo s fd ⟨[u],[]⟩ [("_law_script",u)])/\∀base:Heap,(K w.params).In base->base.Ns mainGlobals mg->FnOk l.prog w (K w.params) mg base CX0 63 fa fd ["_law_script"] (wR (K w.params))):
  PySem.W.WalkO q loose XP YP l.row.toRowW d [] (fun f vs=>PySem.call f vs):=
 L2.walk_of (n:=63) (k:=63) (x:="_law_script") (CX:=fun _=>CX0) (sp:=fun w=>wR (K w.params)) hn Zx tN ⟨rfl,by decide,by decide,rfl⟩ hY F (fun _ _ a ns hl _ hS=>⟨a,ns,rfl,hS,hl,fun _=>rfl⟩) fun _ _ _ _ _ z=>z
end K23
open PySem PySem.W PyProof.Rows
set_option maxRecDepth 100000 in
set_option maxHeartbeats 0 in
theorem PySem.Challenge.cw_woolyears_k23_whole_short_years_are_shar_holds : PySem.Challenge.rw_woolyears_k23_whole_short_years_are_shar.Holds := by
 w_on;o_law;k_head;(case hw=>w_witness2)
 k_fill
 refine K23.walk (l:=PySem.Challenge.rw_woolyears_k23_whole_short_years_are_shar) rfl rfl (fun w h Y=>PySem.W.kIn_of Y) ?F
 case F =>
  intro w mg fa h KX G hmg
  refine' K23.all_mk KX G hmg ?h9 ?h10 ?h11 ?h12 ?h23 ?h24 ?h25 ?h26 ?h27 ?h28 ?h29 ?h30 ?h31 ?h32 ?h33 ?h34 ?h38 ?h39 ?h40 ?h41 ?h42 ?h44 ?h45 ?h46 ?h47 ?h48 ?h49 ?h50 ?h51 ?h52 ?h53 ?h54 ?h56 ?h57 ?h59 ?h60 ?h61 ?h62 ?h63 ?h64 ?h65 ?h66 ?h67 ?h68 ?h69 ?h70 ?h71 ?h72 ?aL ?lL ?cL ?kL ?n0 ?n1 ?n2 ?n3 ?n4 ?n5 ?n6 ?n7 ?n8 ?n9 ?n10 ?z0 ?z1 ?z2 ?z3 ?z4 ?z5 ?z6 ?z7 ?z8 ?z9 ?z10 ?z11 ?z12 ?z13 ?z14
  case h9|h10|h11|h12|h23|h24|h25|h26|h27|h28|h29|h30|h31|h32|h33|h34|h38|h39|h40|h41|h42|h44|h45|h46|h47|h48|h49|h50|h51|h52|h53|h54|h56|h57|h59|h60|h61|h62|h63|h64|h65|h66|h67|h68|h69|h70|h71|h72=>
   refine' K23.has_mk ?a ?l ?c ?k
   case a|l|c|k=>k_is
  case aL|lL|cL|kL|n0|n1|n2|n3|n4|n5|n6|n7|n8|n9|n10|z0|z1|z2|z3|z4|z5|z6|z7|z8|z9|z10|z11|z12|z13|z14=>k_is
