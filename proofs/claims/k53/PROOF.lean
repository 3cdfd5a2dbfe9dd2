import PyProof.Rows.All
import Wide.All
import OpenK.AllK
import Wide.FinOn
import Lean
import PyProof.EqAt
import PyProof.EqKinds
import PyProof.TupleCall
import PyProof.StrLawsRepr
import PyProof.ZipIter
import PySem.Challenge.RW_woolyears_k53_whole_more_wool_is_no_wors
import PyProof.Rows.SortRunsK
import PyProof.AttrMissHeap
import PyProof.SeqRoads
import PyProof.ListOps
import KE.KRevSl
import KE.KRevIter
set_option compiler.extract_closed false
set_option Elab.async false
set_option linter.all false
set_option maxRecDepth 100000
set_option maxHeartbeats 4000000
noncomputable section
theorem Zz{p:Prop}(h:p:=by lia):p:=h
theorem Zy{p:Prop}(h:p:=by simp):p:=h
theorem Zx{p:Prop}(h:p:=by decide):p:=h
theorem Zv{p:Prop}(h:p:=by decide +kernel):p:=h
theorem Zu{p:Prop}(h:p:=by rw[sizeLine_eq];lia):p:=h
def Zp:=@decide_eq_true_eq
open PySem.W (Frag)
def zAt:=@decide_eq_true
def zAu:=@if_neg
def zAv:=@if_pos
def zAw:=@PySem.W.mg_none_of
def zAx:=@PySem.wpAny_bind
def zAy:=@PySem.Heap.get?_push_of_some
def zAz:=@PySem.Heap.lt_size
def zB0:=@PySem.wpAny_pure
def zB1:=@decide_eq_false
def zB2:=@Nat.lt_of_lt_of_le
def zB3:=@PySem.Heap.get?_push_size
def zB4:=@of_decide_eq_true
def zB5:=@PySem.PassesOwn.never
def zB6:=@Nat.ne_of_lt
def zB7:=@List.take_append_drop
def zB8:=@List.mem_of_getElem?
def zB9:=@List.filter_cons_of_neg
def zBa:=@List.filter_cons_of_pos
def zBb:=@List.getElem?_append_right
def zBc:=@List.getElem?_append_left
def zBd:=@List.mem_append_right
def zBe:=@PySem.F.type_list_append
def zBf:=@PySem.F.slot_list_append
def zBg:=@PySem.F.plainAttrs_list
def zA0:=@List.getElem?_eq_getElem
def zA1:=@List.length_map
def zA2:=@List.length_append
def zA3:=@Nat.le_refl
def zA4:=@List.map_append
def zA5:=@List.mem_map
def zA6:=@List.mem_append
def zA7:=@List.getD_eq_getElem?_getD
def zA8:=@List.size_toArray
def zA9:=@Array.length_toList
def zAa:=@List.getElem?_eq_some_iff
def zAb:=@List.getElem?_map
def zAc:=@Bool.and_eq_true
def zAd:=@List.length_take
def zAe:=@List.length_cons
def zAf:=@List.append_assoc
def zAg:=@Bool.false_ne_true
def zAh:=@List.getElem_mem
def zAi:=@Int.toNat_natCast
def zAj:=@List.take_add_one
def zAk:=@List.map_cons
def zAl:=@Option.some.inj
def zAm:=@List.take_length
def zAn:=@List.append_nil
def zAo:=@List.mem_cons
def zAp:=@Nat.zero_le
def zAq:=@List.mem_filter
def zAr:=@List.map_map
def zAs:=@List.length_zip
namespace L2
open PySem PySem.Spec PyProof.Rows
abbrev Key:=Sum Int Str
def nQ:Key->Value->Bool
 |.inl k,v=>Value.isInt k v
 |.inr x,v=>Value.isStrOf x v
def Ie(w:World):Key->Int
 |.inl k=>hashInt k
 |.inr x=>hashStr w x
theorem cj:∀{k:Key} {v:Value},nQ k v=true->(∃i t,k=Sum.inl i/\v=Value.int i t)\/(∃x t,k=Sum.inr x/\v=Value.str x t)
 |.inl i,v,h=>by
  obtain⟨t,e⟩:=Value.isInt_shape (k:=i) (v:=v) h;exact .inl ⟨i,t,rfl,e⟩
 |.inr x,v,h=>by
  obtain⟨t,e⟩:=Value.isStrOf_shape (x:=x) (v:=v) h;exact .inr ⟨x,t,rfl,e⟩
theorem xq(i:Int)(t:Tok):nQ (.inl i) (.int i t)=true:=by simp[nQ,Value.isInt]
theorem xu(x:Str)(t:Tok):nQ (.inr x) (.str x t)=true:=by simp[nQ,Value.isStrOf]
theorem El(a b:Int):decide ((Sum.inl a:Key)=Sum.inl b)=(a==b):=by
 by_cases e:a=b
 .subst e;simp
 .have h:¬(Sum.inl a:Key)=Sum.inl b:=fun q=>e (Sum.inl.inj q);rw[zB1 h];exact(beq_eq_false_iff_ne.mpr e).symm
theorem Em(a b:Str):decide ((Sum.inr a:Key)=Sum.inr b)=decide (a=b):=by
 by_cases e:a=b
 .subst e;simp
 .have h:¬(Sum.inr a:Key)=Sum.inr b:=fun q=>e (Sum.inr.inj q);rw[zB1 h,zB1 e]
theorem En(a:Int)(b:Str):decide ((Sum.inl a:Key)=Sum.inr b)=false:=zB1 (fun q=>nomatch q)
theorem Eo(a:Str)(b:Int):decide ((Sum.inr a:Key)=Sum.inl b)=false:=zB1 (fun q=>nomatch q)
def bV(prog:Program)(w:World):PySem.KeyKind prog w Key where
 is:=nQ
 hash:=Ie w
 inj:=fun v a b ha hb=>by
  rcases cj ha with⟨i,t,rfl,rfl⟩|⟨x,t,rfl,rfl⟩
  .rcases cj hb with⟨j,u,rfl,e⟩|⟨y,u,rfl,e⟩
   .injection e with e1 _;rw[e1]
   .exact nomatch e
  .rcases cj hb with⟨j,u,rfl,e⟩|⟨y,u,rfl,e⟩
   .exact nomatch e
   .injection e with e1 _;rw[e1]
 byValue:=fun k v h=>by
  rcases cj h with⟨i,t,rfl,rfl⟩|⟨x,t,rfl,rfl⟩<;>rfl
 pyHash:=fun hv h=>by
  rcases cj hv with⟨i,t,rfl,rfl⟩|⟨x,t,rfl,rfl⟩
  .exact wpAny_pyHash_int h
  .exact wpAny_pyHash_str h
 eqBool:=fun hu hv h=>by
  rcases cj hu with⟨i,t,rfl,rfl⟩|⟨x,t,rfl,rfl⟩
  .rcases cj hv with⟨j,u,rfl,rfl⟩|⟨y,u,rfl,rfl⟩
   .rw[El]at h;exact wpAny_eqBool_int h
   .rw[En]at h;exact SeqAt.EqAt.int_str i t y u _ _ _ _ h
  .rcases cj hv with⟨j,u,rfl,rfl⟩|⟨y,u,rfl,rfl⟩
   .rw[Eo]at h;exact SeqAt.EqAt.str_int x t j u _ _ _ _ h
   .rw[Em]at h;exact wpAny_eqBool_str h
 «strs»:=fun k x t v h=>by
  rcases cj h with⟨i,u,rfl,e⟩|⟨y,u,rfl,e⟩
  .exact nomatch e
  .injection e with e1 _;subst e1;cases v<;>rfl
theorem rE(prog:Program)(w:World)(i:Int)(t:Tok):(bV prog w).is (.inl i) (.int i t)=true:=xq i t
theorem rF(prog:Program)(w:World)(x:Str)(t:Tok):(bV prog w).is (.inr x) (.str x t)=true:=xu x t
inductive V where
 |non|bl (b:Bool)|int (i:Int)|str (x:Str)|byt (b:Array UInt8)|flt (b:UInt64)|ref (a:Addr)|ty (n:String)
 deriving DecidableEq
def RelV:V->Value->Prop
 |.non,u=>u=Value.none
 |.bl b,u=>u=Value.bool b
 |.int i,u=>∃t,u=Value.int i t
 |.str x,u=>∃t,u=Value.str x t
 |.byt b,u=>∃t,u=Value.bytes b t
 |.flt b,u=>∃t,u=Value.float b t
 |.ref a,u=>u=Value.ref a
 |.ty n,u=>u=Value.type n
abbrev Vals:List V->List Value->Prop:=Paired RelV
theorem Vals.length{xs:List V}{us:List Value}(r:Vals xs us):xs.length=us.length:=Paired.length r
theorem Vals.get:∀{xs:List V} {us:List Value} {i:Nat} {x:V},Vals xs us->xs[i]?=some x->∃u,us[i]?=some u/\RelV x u
 |_,_,_,_,.nil,e=>by simp at e
 |_,_,0,_,.cons r _,e=>by simp at e;subst e;exact⟨_,rfl,r⟩
 |_,_,i+1,x,.cons _ t,e=>by
  obtain⟨u,h1,h2⟩:=Vals.get (i:=i) (x:=x) t (by simpa using e);exact⟨u,by simpa using h1,h2⟩
theorem Vals.set{x:V}{u:Value}(r:RelV x u):∀{xs:List V} {us:List Value} (i:Nat),Vals xs us->Vals (xs.set i x) (us.set i u)
 |_,_,_,.nil=>.nil
 |_,_,0,.cons _ t=>.cons r t
 |_,_,i+1,.cons q t=>.cons q (Vals.set r i t)
theorem Vals.append:∀{xs ys:List V} {us ws:List Value},Vals xs us->Vals ys ws->Vals (xs++ys) (us++ws)
 |_,_,_,_,.nil,s=>s
 |_,_,_,_,.cons r t,s=>.cons r (Vals.append t s)
theorem Vals.take:∀{xs:List V} {us:List Value} (n:Nat),Vals xs us->Vals (xs.take n) (us.take n)
 |_,_,0,_=>.nil
 |_,_,_+1,.nil=>.nil
 |_,_,n+1,.cons r t=>.cons r (Vals.take n t)
theorem Vals.drop:∀{xs:List V} {us:List Value} (n:Nat),Vals xs us->Vals (xs.drop n) (us.drop n)
 |_,_,0,r=>r
 |_,_,_+1,.nil=>.nil
 |_,_,n+1,.cons _ t=>Vals.drop n t
def RelO:Option V->Option Value->Prop
 |some v,some u=>RelV v u
 |none,none=>True
 |_,_=>False
def KV{κ:Type}:List (κ×V)->List (κ×Value)->Prop:=Paired fun(p:κ×V) (q:κ×Value)=>p.1=q.1/\RelV p.2 q.2
def kV:Key->V
 |.inl i=>.int i
 |.inr x=>.str x
inductive HO where
  |lst (xs:List V)
  |tup (xs:List V)
  |dK (Zs:List (Key×V))|dT (Zs:List (List Key×V))
  |set (S:Int->Bool) (n:Nat)
  |ins (C dx:Addr) (fs:List (Str×V))
  |own (x:Addr)
  |xd (fs:List (Str×V))
  |met (f x:Addr)
  |rng (lo hi:Int)
  |frz (o:Obj) (u:HO)
  |tbl (ps:Array Value)
  |ext (φ:Heap->Prop)
abbrev Hp:=Addr->Option HO
def upd(H:Hp)(a:Addr)(o:HO):Hp:=fun b=>if b=a then some o else H b
theorem ao{H:Hp}{a:Addr}{o:HO}:upd H a o a=some o:=by unfold upd;rw[zAv rfl]
theorem aB{H:Hp}{a b:Addr}{o:HO}(h:b≠a):upd H a o b=H b:=by unfold upd;rw[zAu h]
theorem Ga{H:Hp}{a b:Addr}{o u:HO}(h:H a=some o)(h':H b=some u)(d:o≠u):a≠b:=by
 intro e;subst e;rw[h]at h';exact d (zAl h')
theorem aH{H:Hp}{a b:Addr}{o:HO}(h:H a=some o)(h':H b=none):a≠b:=by
 intro e;subst e;rw[h]at h';cases h'
section
variable(P:Program)(w:World)
def ObjOk(H:Hp)(h:Heap)(a:Addr):HO->Prop
 |.lst xs=>xs.length<=sizeLine/\∃(Zr:List Value) (n:Nat),Vals xs Zr/\h.get? a=some {cls:=.type "list",data:=.seq Zr.toArray n}
 |.tup xs=>xs.length<=sizeLine/\∃Zr:List Value,Vals xs Zr/\IsTup h a Zr.toArray
 |.dK Zs=>Zs.length<=sizeLine/\(a==sysModules)=false/\∃vs,KV Zs vs/\h.DictOf (bV P w) a vs
 |.dT Zs=>Zs.length<=sizeLine/\(a==sysModules)=false/\∃xs:List (List Key×Addr×Value),
   Paired (fun(p:List Key×V) (q:List Key×Addr×Value)=>p.1=q.1/\H q.2.1=some (.tup (p.1.map kV))/\RelV p.2 q.2.2) Zs xs /\
   ∃o es ep,h.get? a=some o/\o.ExactDict/\o.data=.dict es ep/\es.toList=xs.map (entryOfKey (tupleKind (bV P w)))/\(xs.map (·.1)).Nodup
 |.set S n=>h.SetOf (intKind P w) a S n
 |.ins C dx fs=>H dx=some (.own a)/\fs.length<=1000/\dx≠a/\h.get? a=some (PySem.W.instObj C dx) /\
   ∃mA,h.Ns1 dx mA/\(∀f,RelO (fs.lookup f) (mA f))/\PySem.Within mA (fs.map (·.1))
 |.own _=>∃o,h.get? a=some o
 |.xd fs=>∃mA,h.Ns1 a mA/\∀f,RelO (fs.lookup f) (mA f)
 |.rng lo hi=>∃t u v,h.get? a=some {cls:=.type "range",data:=.fields #[.int lo t,.int hi u,.int 1 v]}
 |.frz o u=>h.get? a=some o/\ObjOk H h a u
 |.tbl ps=>h.get? a=some {cls:=.none,data:=.fields ps}
 |.met f x=>h.get? a=some (PySem.W.methodObj (.ref f) (.ref x))
 |.ext φ=>φ h/\(∃o,h.get? a=some o)/\∀h1 h2:Heap,φ h1->(∀o,h1.get? a=some o->h2.get? a=some o)->φ h2
def HOk(H:Hp)(h:Heap):Prop:=∀a o,H a=some o->ObjOk P w H h a o
end
section
variable{P:Program}{w:World}{H H':Hp}{h h':Heap}{a:Addr}{o:HO}
theorem ObjOk.lt(x:ObjOk P w H h a o):a<h.objs.size:=by
 cases o with
 |lst xs=>obtain⟨_,_,_,_,e⟩:=x;exact zAz e
 |tup xs=>obtain⟨_,_,_,p⟩:=x;exact p.lt
 |dK Zs=>obtain⟨_,_,_,_,o,_,_,e,_⟩:=x;exact zAz e
 |dT Zs=>obtain⟨_,_,_,_,o,_,_,e,_⟩:=x;exact zAz e
 |set S n=>obtain⟨o,_,_,_,e,_⟩:=x;exact zAz e
 |ins C dx fs=>obtain⟨_,_,_,e,_⟩:=x;exact zAz e
 |own y=>obtain⟨_,e⟩:=x;exact zAz e
 |xd fs=>obtain⟨_,⟨_,_,_,e,_⟩,_⟩:=x;exact zAz e
 |rng lo hi=>obtain⟨_,_,_,e⟩:=x;exact zAz e
 |frz ob u=>obtain⟨e,_⟩:=x;exact zAz e
 |tbl ps=>exact zAz (show h.get? a=some _ from x)
 |met f y=>exact zAz (show h.get? a=some _ from x)
 |ext φ=>obtain⟨_,⟨_,e⟩,_⟩:=x;exact zAz e
theorem Paired.mapP{α β:Type}{F G:α->β->Prop}:∀{sv:List α} {sx:List β},Paired F sv sx->(∀a b,F a b->G a b)->Paired G sv sx
 |_,_,.nil,_=>.nil
 |_,_,.cons r t,f=>.cons (f _ _ r) (Paired.mapP t f)
theorem ObjOk.stay(x:ObjOk P w H h a o)(k:∀b u,(b=a\/H b=some (.own a))->h.get? b=some u->h'.get? b=some u)
  (ho:∀b,H b=some (.own a)->H' b=some (.own a)) (ht:∀b xs,H b=some (.tup xs)->H' b=some (.tup xs)):ObjOk P w H' h' a o:=by
 induction o with
 |lst xs=>obtain⟨z,Zr,n,r,e⟩:=x;exact⟨z,Zr,n,r,k _ _ (.inl rfl) e⟩
 |tup xs=>obtain⟨z,Zr,r,ob,e,c⟩:=x;exact⟨z,Zr,r,ob,k _ _ (.inl rfl) e,c⟩
 |dK Zs=>obtain⟨z,y,vs,r,ob,es,ep,e,c⟩:=x;exact⟨z,y,vs,r,ob,es,ep,k _ _ (.inl rfl) e,c⟩
 |dT Zs=>
  obtain⟨z,y,xs,r,ob,es,ep,e,c⟩:=x;exact⟨z,y,xs,Paired.mapP r fun p q z=>⟨z.1,ht _ _ z.2.1,z.2.2⟩,ob,es,ep,k _ _ (.inl rfl) e,c⟩
 |set S n=>obtain⟨ob,es,ep,t,e,c⟩:=x;exact⟨ob,es,ep,t,k _ _ (.inl rfl) e,c⟩
 |ins C dx fs=>
  obtain⟨d,z,ne,e,mA,⟨od,es,ep,e2,c⟩,r⟩:=x;exact⟨ho _ d,z,ne,k _ _ (.inl rfl) e,mA,⟨od,es,ep,k _ _ (.inr d) e2,c⟩,r⟩
 |own y=>obtain⟨ob,e⟩:=x;exact⟨ob,k _ _ (.inl rfl) e⟩
 |xd fs=>obtain⟨mA,⟨od,es,ep,e,c⟩,r⟩:=x;exact⟨mA,⟨od,es,ep,k _ _ (.inl rfl) e,c⟩,r⟩
 |rng lo hi=>obtain⟨t,u,v,e⟩:=x;exact⟨t,u,v,k _ _ (.inl rfl) e⟩
 |frz ob u ih=>obtain⟨e,q⟩:=x;exact⟨k _ _ (.inl rfl) e,ih q⟩
 |tbl ps=>
  have e:h.get? a=some {cls:=.none,data:=.fields ps}:=x;show h'.get? a=some {cls:=.none,data:=.fields ps};exact k a _ (.inl rfl) e
 |met f y=>
  have e:h.get? a=some (PySem.W.methodObj (.ref f) (.ref y)):=x;show h'.get? a=some (PySem.W.methodObj (.ref f) (.ref y));exact k a _ (.inl rfl) e
 |ext φ=>obtain⟨p,⟨o,e⟩,st⟩:=x;exact⟨st _ _ p fun o q=>k _ _ (.inl rfl) q,⟨o,k _ _ (.inl rfl) e⟩,st⟩
theorem HOk.lt(x:HOk P w H h)(e:H a=some o):a<h.objs.size:=(x a o e).lt
theorem HOk.fresh(x:HOk P w H h)(e:h.objs.size<=a):H a=none:=by
 cases q:H a with
 |none=>rfl
 |some u=>exact absurd (zB2 (x.lt q) e) (Nat.lt_irrefl _)
theorem HOk.kept(x:HOk P w H h)(k:∀b u,h.get? b=some u->h'.get? b=some u):HOk P w H h':=fun a o e=>
 (x a o e).stay (fun b u _ q=>k b u q) (fun _ q=>q) fun _ _ q=>q
theorem HOk.laid(x:HOk P w H h)(k:∀b u,h.get? b=some u->h'.get? b=some u)(hp:h.objs.size<=a)(new:ObjOk P w (upd H a o) h' a o):HOk P w (upd H a o) h':=fun b u e=>by
 have hn:=x.fresh hp;by_cases hb:b=a
 .subst hb;rw[ao]at e;cases e;exact new
 .rw[aB hb]at e
  exact(x b u e).stay (fun c v _ q=>k c v q) (fun c q=>by rw[aB (aH q hn)];exact q) fun c xs q=>by rw[aB (aH q hn)];exact q
end
def Rd(H:Hp)(a:Addr)(u:HO):Prop:=H a=some u\/∃o,H a=some (.frz o u)
theorem Rd.ok{P:Program}{w:World}{H:Hp}{h:Heap}{a:Addr}{u:HO}(r:Rd H a u)(x:HOk P w H h):ObjOk P w H h a u:=by
 rcases r with r|⟨o,r⟩
 .exact x a u r
 .obtain⟨_,q⟩:=x a _ r;exact q
def Mut:Option HO->Prop
 |some (.lst _)=>True
 |some (.dK _)=>True
 |some (.dT _)=>True
 |some (.set _ _)=>True
 |some (.ins _ _ _)=>True
 |some (.ext _)=>True
 |_=>False
section
variable{P:Program}{w:World}{H:Hp}{h h':Heap}{x e:Addr}{o':HO}
theorem HOk.write(ok:HOk P w H h)(mu:Mut (H x))(he:e=x\/H e=some (.own x))(k:∀b u,b≠e->h.get? b=some u->h'.get? b=some u)(qh:∃u,h'.get? e=some u)
  (new:ObjOk P w (upd H x o') h' x o'):HOk P w (upd H x o') h':=fun b u q=>by
 have sA:∀c y,H c=some (.own y)->c≠x:=fun c y r z=>by subst z;rw[r]at mu;exact mu
 have AL:∀c xs,H c=some (.tup xs)->c≠x:=fun c xs r z=>by subst z;rw[r]at mu;exact mu
 by_cases hb:b=x
 .subst hb;rw[ao]at q;cases q;exact new
 .rw[aB hb]at q;by_cases mP:b=e
  .have q':H b=some (.own x):=by
    rcases he with z|z
    .exact absurd (mP.trans z) hb
    .rw[mP];exact z
   rw[q]at q';cases q';obtain⟨v,hv⟩:=qh;exact⟨v,by rw[mP];exact hv⟩
  .refine(ok b u q).stay (fun c v hc r=>k c v ?_ r) (fun c r=>by rw[aB (sA c b r)];exact r) fun c xs r=>by rw[aB (AL c xs r)];exact r
   rcases hc with rfl|hc
   .exact mP
   .rintro rfl;rcases he with z|z
    .exact sA c b hc z
    .rw[hc]at z;cases z;exact hb rfl
end
structure Un(fs ex:List Addr)(H H':Hp)(h h':Heap):Prop where
 keep:∀b o,h.get? b=some o->H b=none->b∉fs->b∉ex->h'.get? b=some o
 slot:∀b o,h.get? b=some o->H b=none->b∈fs->b∉ex->∃sl,h'.get? b=some {o with slots:=sl}
 free:∀b o,h.get? b=some o->H b=none->b∉ex->H' b=none
 there:∀b o,h.get? b=some o->b∉ex->∃o',h'.get? b=some o'
 tups:∀b xs,H b=some (.tup xs)->H' b=some (.tup xs)
 frzs:∀b o u,H b=some (.frz o u)->H' b=some (.frz o u)
 tbls:∀b ps,H b=some (.tbl ps)->∃more,H' b=some (.tbl (ps++more))
section
variable{fs Ku ex Qt:List Addr}{H H1 H2:Hp}{h h1 h2 h':Heap}{a x e:Addr}{o:HO}
theorem Un.any(u:Un fs ex H H1 h h1){b:Addr}{ob:Obj}(q:h.get? b=some ob)(n:H b=none)(hx:b∉ex):∃sl,h1.get? b=some {ob with slots:=sl}:=by
 by_cases hb:b∈fs
 .exact u.slot b ob q n hb hx
 .exact⟨ob.slots,u.keep b ob q n hb hx⟩
theorem Un.kept(k:∀b u,h.get? b=some u->h'.get? b=some u):Un fs ex H H h h':=
 ⟨fun b ob q _ _ _=>k b ob q,fun b ob q _ _ _=>⟨ob.slots,k b ob q⟩,fun _ _ _ n _=>n,fun b ob q _=>⟨ob,k b ob q⟩,fun _ _ q=>q,fun _ _ _ q=>q,fun _ ps q=>⟨#[],by rw[q];simp⟩⟩
theorem Un.refl:Un fs ex H H h h:=Un.kept fun _ _ q=>q
theorem Un.laid(k:∀b u,h.get? b=some u->h'.get? b=some u)(hp:h.objs.size<=a)(hn:H a=none):Un fs ex H (upd H a o) h h' where
 keep:=fun b u q _ _ _=>k b u q
 slot:=fun b u q _ _ _=>⟨u.slots,k b u q⟩
 free:=fun b u q n _=>by rw[aB (zB6 (zB2 (zAz q) hp))];exact n
 there:=fun b u q _=>⟨u,k b u q⟩
 tups:=fun b xs q=>by rw[aB (aH q hn)];exact q
 frzs:=fun b u xs q=>by rw[aB (aH q hn)];exact q
 tbls:=fun b ps q=>⟨#[],by rw[aB (aH q hn),q];simp⟩
theorem Un.write(mu:Mut (H x))(he:e=x\/H e=some (.own x))(k:∀b u,b≠e->h.get? b=some u->h'.get? b=some u)(qh:∃u,h'.get? e=some u):Un fs ex H (upd H x o) h h':=by
 have hx:∀b,H b=none->b≠x:=fun b n z=>by subst z;rw[n]at mu;exact mu
 have hb:∀b,H b=none->b≠e:=fun b n z=>by
  subst z;rcases he with r|r
  .exact hx b n r
  .rw[n]at r;cases r
 have hm:∀b u,H b=some u->¬Mut (some u)->b≠x:=fun b u q nm z=>by subst z;rw[q]at mu;exact nm mu
 refine⟨fun b u q n _ _=>k b u (hb b n) q,fun b u q n _ _=>⟨u.slots,k b u (hb b n) q⟩,fun b u q n _=>by rw[aB (hx b n)];exact n,fun b u q _=>?_,
  fun b xs q=>by rw[aB (hm b _ q fun z=>z)];exact q,fun b u xs q=>by rw[aB (hm b _ q fun z=>z)];exact q,fun b ps q=>⟨#[],by rw[aB (hm b _ q fun z=>z),q];simp⟩⟩
 by_cases mP:b=e
 .subst mP;exact qh
 .exact⟨u,k b u mP q⟩
end
def trk(h:Heap)(H:Hp):List Addr:=(List.range h.objs.size).filter fun a=>(H a).isSome
def pN(h:Heap)(H:Hp):Heap:=PySem.W.hideAll h (trk h H)
theorem xx(h:Heap)(H:Hp):(pN h H).objs.size=h.objs.size:=PySem.W.hideAll_size _ _
theorem yH{h:Heap}{H:Hp}{b:Addr}{o:Obj}(e:h.get? b=some o)(n:H b=none):(pN h H).get? b=some o:=
 PySem.W.hideAll_get _ e fun hm=>by
  have q:(H b).isSome=true:=(zAq.mp hm).2;rw[n]at q;simp at q
theorem Bt{h:Heap}{H:Hp}{b:Addr}{o:Obj}(e:(pN h H).get? b=some o):h.get? b=some o/\H b=none:=by
 have e':h.get? b=some o:=PySem.W.of_hideAll (trk h H) e;refine⟨e',?_⟩
 cases q:H b with
 |none=>rfl
 |some x=>
  have hm:b∈trk h H:=List.mem_filter.mpr ⟨List.mem_range.mpr (Heap.lt_size e'),by simp[q]⟩;have z:(pN h H).get? b=none:=PySem.W.hideAll_none (trk h H) hm;rw[z]at e;cases e
structure Mod(K:Frag)(mg:Str->Option Value)(base:Heap):Prop where
 kin:K.In base
 glob:base.Ns mainGlobals mg
 blt:∃mb,base.Ns builtinsNs mb/\∀x:Str,x≠"__name__"->mb x=bootBuiltins x
 nolimit:base.NoLimit
structure Cx where
 prog:Program
 w:World
 K:Frag
 mg:Str->Option Value
 base:Heap
 A:Around
 N:List Str
 s₀:Shared
 H₀:Hp
 env:Env
 outer:List Env
 stack:List Env
 ex:List Addr
 fn:Str->Bool
 calm:Bool
 pn:List (Addr×Obj)
 xe:Value->Shared->Prop
def frs(l:List Env):List Addr:=l.filterMap (·.frame)
abbrev Cx.fs(X:Cx):List Addr:=frs X.outer
def Vis(sc:Scope)(x:Str):Prop:=sc.names.lookup x=some .local\/sc.names.lookup x=some .cell\/sc.names.lookup x=some .free
def Loc(sc:Scope)(x:Str):Prop:=sc.names.lookup x=some .local\/sc.names.lookup x=some .cell
def Look(env:Env)(h:Heap)(m:Str->Option Value)(x:Str)(u:Value):Prop:=
 (env.kindOf x=some .local/\m x=some u)\/((env.kindOf x=some .cell\/env.kindOf x=some .free)/\∃c,env.cells.lookup x=some c/\h.IsCell c (some u))
structure Cx.Ok(X:Cx):Prop where
 mod:Mod X.K X.mg X.base
 kind:X.env.scope.kind=.function
 glob:X.env.globals=mainGlobals
 blt:X.env.builtins=builtinsNs
 above:X.s₀.heap.objs.size<=X.env.locals
 inj:∀x y c,X.env.cells.lookup x=some c->X.env.cells.lookup y=some c->x=y
 has:∀x,(X.env.kindOf x=some .cell\/X.env.kindOf x=some .free)->∃c,X.env.cells.lookup x=some c
 cab:∀x c,X.fn x=true->X.env.cells.lookup x=some c->X.s₀.heap.objs.size<=c
 hd:X.calm=true->X.A.handled=none
 frames:X.A.frames=some X.stack
 stk:X.stack=X.outer\/(X.stack=X.env::X.outer/\X.env.frame=some X.env.locals)
 exf:∀b∈X.ex,b≠X.env.locals/\∀x c,X.env.cells.lookup x=some c->c≠b
 bs:∀b o,X.base.get? b=some o->X.s₀.heap.get? b=some o/\X.H₀ b=none
 bsz:X.base.objs.size<=X.s₀.heap.objs.size
 noex:∀b o,X.base.get? b=some o->b∉X.ex
 exfs:∀b∈X.ex,b∉X.fs
 funs:X.s₀.heap.FunFrames X.base X.outer
 frf:∀b∈X.fs,X.H₀ b=none
structure Inv(X:Cx)(Zt:List (Addr×Obj))(σ:List (Option V))(H:Hp)(s:Shared):Prop where
 ok:X.Ok
 os:s.os=X.s₀.os
 bare:AllBare s.gens
 base:Un X.fs X.ex X.H₀ H X.s₀.heap s.heap
 loc:∃m,s.heap.Ns X.env.locals m/\∀(i:Nat) (x:Str) (v:V),X.N[i]?=some x->σ[i]?=some (some v)->Vis X.env.scope x->∃u,RelV v u/\Look X.env s.heap m x u
 cell:∀x c,X.env.cells.lookup x=some c->∃v,s.heap.IsCell c v
 free:H X.env.locals=none
 freeC:∀x c,X.env.cells.lookup x=some c->H c=none
 pin:∀p∈X.pn++Zt,s.heap.get? p.1=some p.2/\H p.1=none/\p.1≠X.env.locals/\p.1∉X.fs/\∀v,p.2.data≠.cell v
 hok:HOk X.prog X.w H s.heap
 len:σ.length=X.N.length
section
variable{X:Cx}{Zt:List (Addr×Obj)}{σ:List (Option V)}{H H':Hp}{s:Shared}{h':Heap}
theorem Cx.Ok.nofr(ok:X.Ok){b:Addr}{o:Obj}(e:X.base.get? b=some o):b∉X.fs:=fun hb=>by
 have:=(ok.funs.mem hb).1;rw[e]at this;cases this
theorem Inv.bs(I:Inv X Zt σ H s):∀b o,X.base.get? b=some o->s.heap.get? b=some o/\H b=none:=fun b o e=>
 ⟨I.base.keep b o (I.ok.bs b o e).1 (I.ok.bs b o e).2 (I.ok.nofr e) (I.ok.noex b o e),I.base.free b o (I.ok.bs b o e).1 (I.ok.bs b o e).2 (I.ok.noex b o e)⟩
theorem Inv.bk(I:Inv X Zt σ H s):∀b o,X.base.get? b=some o->s.heap.get? b=some o:=fun b o e=>(I.bs b o e).1
theorem Inv.mod(I:Inv X Zt σ H s):Mod X.K X.mg X.base:=I.ok.mod
theorem Inv.kIn(I:Inv X Zt σ H s):X.K.In s.heap:=I.ok.mod.kin.keeps I.bk
theorem Inv.lt(I:Inv X Zt σ H s):X.env.locals<s.heap.objs.size:=let⟨_,hn,_⟩:=I.loc;hn.lt
theorem Inv.sz(I:Inv X Zt σ H s):X.s₀.heap.objs.size<=s.heap.objs.size:=Nat.le_trans I.ok.above (Nat.le_of_lt I.lt)
theorem Inv.nofs(I:Inv X Zt σ H s){a:Addr}(h:s.heap.objs.size<=a):a∉X.fs:=fun hb=>by
 obtain⟨_,o,ho,_⟩:=I.ok.funs.mem hb;exact absurd (zB2 (zAz ho) (Nat.le_trans I.sz h)) (Nat.lt_irrefl _)
theorem Inv.cne(I:Inv X Zt σ H s):∀x c,X.env.cells.lookup x=some c->c≠X.env.locals:=fun x c e z=>by
 obtain⟨v,o,ho,hd⟩:=I.cell x c e;obtain⟨m,⟨o',es,ep,gN,Kv,_⟩,_⟩:=I.loc;rw[z,gN]at ho;cases ho;rw[Kv]at hd;cases hd
theorem Inv.funs(I:Inv X Zt σ H s):s.heap.FunFrames X.base X.outer:=by
 have all:∀(l:List Env),(∀b∈frs l,b∈X.fs)->X.s₀.heap.FunFrames X.base l->s.heap.FunFrames X.base l:=by
  intro l
  induction l with
  |nil=>intro _ _;trivial
  |cons env r ih=>
   intro hs hl;obtain⟨hk,⟨L,o,hf,hn,ho,hd⟩,hr⟩:=hl;have hL:L∈X.fs:=hs L (by unfold frs;rw[List.filterMap_cons,hf];exact List.mem_cons_self);obtain⟨sl,e⟩:=I.base.slot L o ho (I.ok.frf L hL) hL fun z=>I.ok.exfs L z hL;exact⟨hk,⟨L,_,hf,hn,e,hd⟩,ih (fun b hb=>hs b (by unfold frs;rw[List.filterMap_cons,hf];exact List.mem_cons_of_mem _ hb)) hr⟩
 exact all X.outer (fun _ hb=>hb) I.ok.funs
theorem Inv.stack(I:Inv X Zt σ H s):s.heap.FunFrames X.base X.stack:=by
 rcases I.ok.stk with e|⟨e,hf⟩
 .rw[e];exact I.funs
 .rw[e];obtain⟨m,hn,_⟩:=I.loc;refine .cons (by rw[I.ok.kind];decide) hf hn ?_ I.funs;exact Heap.get?_none_of_le (Nat.le_trans I.ok.bsz I.ok.above)
theorem Inv.stkSub(I:Inv X Zt σ H s):∀b∈frs X.stack,b∈X.env.locals::X.fs:=fun b hb=>by
 rcases I.ok.stk with e|⟨e,hf⟩
 .rw[e]at hb;exact List.mem_cons_of_mem _ hb
 .rw[e]at hb;unfold frs at hb;rw[List.filterMap_cons,hf]at hb;exact hb
theorem Inv.stkFree(I:Inv X Zt σ H s):∀b∈frs X.stack,H b=none:=fun b hb=>by
 rcases zAo.mp (I.stkSub b hb)with e|hb
 .rw[e];exact I.free
 .obtain⟨_,o,ho,_⟩:=I.ok.funs.mem hb;exact I.base.free b o ho (I.ok.frf b hb) fun z=>I.ok.exfs b z hb
theorem Inv.step{g':Array GenState}{t':Nat}{d':Drawn}{ch:List Addr}(I:Inv X Zt σ H s)
  (iO:∀b∈ch,(b∈X.ex\/X.s₀.heap.objs.size<=b)/\b≠X.env.locals/\(∀x c,X.env.cells.lookup x=some c->c≠b)/\∀p∈X.pn++Zt,p.1≠b)
  (keep:∀b o,b≠X.env.locals->b∉X.fs->b∉ch->s.heap.get? b=some o->H b=none->h'.get? b=some o)
  (slot:∀b o,b≠X.env.locals->b∈X.fs->b∉ch->s.heap.get? b=some o->H b=none->∃sl,h'.get? b=some {o with slots:=sl}) (free:∀b o,b∉ch->s.heap.get? b=some o->H b=none->H' b=none)
  (there:∀b o,b∉ch->s.heap.get? b=some o->∃o',h'.get? b=some o')
  (tups:∀b xs,H b=some (.tup xs)->H' b=some (.tup xs)) (frzs:∀b o u,H b=some (.frz o u)->H' b=some (.frz o u)) (tbls:∀b ps,H b=some (.tbl ps)->∃more,H' b=some (.tbl (ps++more)))
  (ns:∀m,s.heap.Ns X.env.locals m->h'.Ns X.env.locals m) (hok:HOk X.prog X.w H' h') (hg:AllBare g'):
  Inv X Zt σ H' {s with heap:=h',gens:=g',drawn:=d',toks:=t'}:=by
 have FY:∀b o,X.s₀.heap.get? b=some o->b≠X.env.locals:=fun b o e=>zB6 (zB2 (zAz e) I.ok.above)
 have yi:∀b o,X.s₀.heap.get? b=some o->b∉X.ex->b∉ch:=fun b o e hx hb=>by
  rcases(iO b hb).1 with z|z
  .exact hx z
  .exact absurd (zB2 (zAz e) z) (Nat.lt_irrefl _)
 have cellK:∀x c,X.env.cells.lookup x=some c->∀v,s.heap.IsCell c v->h'.IsCell c v:=fun x c e v ⟨o,ho,hd⟩=>by
  have sC:c∉ch:=fun z=>(iO c z).2.2.1 x c e rfl;by_cases hc:c∈X.fs
  .obtain⟨sl,q⟩:=slot c o (I.cne x c e) hc sC ho (I.freeC x c e);exact⟨_,q,hd⟩
  .exact⟨o,keep c o (I.cne x c e) hc sC ho (I.freeC x c e),hd⟩
 refine⟨I.ok,I.os,hg,⟨fun b o e n hb hx=>?_,fun b o e n hb hx=>?_,fun b o e n hx=>?_,fun b o e hx=>?_,fun b xs e=>tups b xs (I.base.tups b xs e),fun b o xs e=>frzs b o xs (I.base.frzs b o xs e),fun b ps e=>?_⟩,?_,fun x c e=>?_,?_,fun x c e=>?_,fun p hp=>?_,hok,I.len⟩
 .exact keep b o (FY b o e) hb (yi b o e hx) (I.base.keep b o e n hb hx) (I.base.free b o e n hx)
 .obtain⟨sl,e1⟩:=I.base.slot b o e n hb hx;obtain⟨Kw,e2⟩:=slot b _ (FY b o e) hb (yi b o e hx) e1 (I.base.free b o e n hx);exact⟨Kw,e2⟩
 .obtain⟨o',e1⟩:=I.base.there b o e hx;exact free b o' (yi b o e hx) e1 (I.base.free b o e n hx)
 .obtain⟨o',e1⟩:=I.base.there b o e hx;exact there b o' (yi b o e hx) e1
 .obtain⟨m1,e1⟩:=I.base.tbls b ps e;obtain⟨m2,e2⟩:=tbls b _ e1;exact⟨m1++m2,by rw[e2,Array.append_assoc]⟩
 .obtain⟨m,hn,hl⟩:=I.loc;refine⟨m,ns m hn,fun i x v e1 e2 e3=>?_⟩;obtain⟨u,r,l⟩:=hl i x v e1 e2 e3;refine⟨u,r,?_⟩;rcases l with l|⟨k,c,e,z⟩
  .exact .inl l
  .exact .inr ⟨k,c,e,cellK x c e _ z⟩
 .obtain⟨v,z⟩:=I.cell x c e;exact⟨v,cellK x c e v z⟩
 .obtain⟨m,⟨o,_,_,ho,_⟩,_⟩:=I.loc;exact free _ o (fun z=>(iO _ z).2.1 rfl) ho I.free
 .obtain⟨v,o,ho,hd⟩:=I.cell x c e;exact free c o (fun z=>(iO c z).2.2.1 x c e rfl) ho (I.freeC x c e)
 .obtain⟨e,n,ne,nf,d⟩:=I.pin p hp;have sC:p.1∉ch:=fun z=>(iO p.1 z).2.2.2 p hp rfl;exact⟨keep p.1 p.2 ne nf sC e n,free p.1 p.2 sC e n,ne,nf,d⟩
theorem Inv.un{t':Nat}(I:Inv X Zt σ H s)(u:Un X.fs [] H H' s.heap h')(hok:HOk X.prog X.w H' h'):Inv X Zt σ H' {s with heap:=h',toks:=t'}:=by
 obtain⟨m,⟨o,es,ep,ho,r⟩,_⟩:=id I.loc;obtain⟨sl,hL⟩:=u.any ho I.free Zy
 exact I.step (g':=s.gens) (d':=s.drawn) (ch:=[]) (fun _ z=>nomatch z) (fun b o _ hb _ e n=>u.keep b o e n hb Zy) (fun b o _ hb _ e n=>u.slot b o e n hb Zy) (fun b o _ e n=>u.free b o e n Zy) (fun b o _ e=>u.there b o e Zy) u.tups u.frzs u.tbls (fun m' hm=>by
  obtain⟨o',fR,AM,gN,r'⟩:=hm;rw[ho]at gN;cases gN
  exact⟨_,fR,AM,hL,r'⟩) hok I.bare
theorem Inv.call{g':Array GenState}{t':Nat}{d':Drawn}{ch:List Addr}(I:Inv X Zt σ H s)(u:Un (frs X.stack) ch H H' s.heap h')(hok:HOk X.prog X.w H' h')(hg:AllBare g')
  (iO:∀b∈ch,(b∈X.ex\/X.s₀.heap.objs.size<=b)/\b≠X.env.locals/\(∀x c,X.env.cells.lookup x=some c->c≠b)/\∀p∈X.pn++Zt,p.1≠b):
  Inv X Zt σ H' {s with heap:=h',gens:=g',drawn:=d',toks:=t'}:=by
 obtain⟨m,⟨o,es,ep,ho,r⟩,_⟩:=id I.loc;obtain⟨sl,hL⟩:=u.any ho I.free fun z=>(iO _ z).2.1 rfl
 exact I.step (ch:=ch) iO (fun b o hL hb hc e n=>u.keep b o e n (fun z=>(zAo.mp (I.stkSub b z)).elim hL hb) hc) (fun b o _ _ hc e n=>u.any e n hc) (fun b o hc e n=>u.free b o e n hc) (fun b o hc e=>u.there b o e hc) u.tups u.frzs u.tbls (fun m' hm=>by
  obtain⟨o',fR,AM,gN,r'⟩:=hm;rw[ho]at gN;cases gN
  exact⟨_,fR,AM,hL,r'⟩) hok hg
theorem Inv.turned{t':Nat}{it:Addr}(I:Inv X Zt σ H s)(k:∀b o,b≠it->s.heap.get? b=some o->h'.get? b=some o)(hn:H it=none)(hL:it≠X.env.locals)
  (h1:it∈X.ex\/X.s₀.heap.objs.size<=it) (h2:∀x c,X.env.cells.lookup x=some c->c≠it) (h3:∀p∈X.pn++Zt,p.1≠it):Inv X Zt σ H {s with heap:=h',toks:=t'}:=by
 have F1:∀b u,H b=some u->b≠it:=fun b u e z=>by rw[z,hn]at e;cases e
 refine I.step (g':=s.gens) (d':=s.drawn) (ch:=[it]) (fun b hb=>?_) (fun b o _ _ hc e _=>k b o (fun z=>hc (by simp[z])) e) (fun b o _ _ hc e _=>⟨o.slots,k b o (fun z=>hc (by simp[z])) e⟩) (fun _ _ _ _ n=>n)
  (fun b o hc e=>⟨o,k b o (fun z=>hc (by simp[z])) e⟩) (fun _ _ e=>e) (fun _ _ _ e=>e) (fun b ps e=>⟨#[],by rw[e];simp⟩) (fun m hm=>?_) (fun b u e=>?_) I.bare
 .have e:b=it:=by simpa using hb
  subst e;exact⟨h1,hL,h2,h3⟩
 .obtain⟨o,es,ep,ho,r⟩:=hm;exact⟨o,es,ep,k _ o (Ne.symm hL) ho,r⟩
 .refine(I.hok b u e).stay (fun c v hc q=>k c v ?_ q) (fun _ q=>q) fun _ _ q=>q;rcases hc with z|z
  .rw[z];exact F1 b u e
  .exact F1 c _ z
theorem Inv.tok(I:Inv X Zt σ H s)(t:Nat):Inv X Zt σ H {s with toks:=t}:=I.un (h':=s.heap) (t':=t) Un.refl I.hok
theorem Inv.kept{t':Nat}(I:Inv X Zt σ H s)(k:∀b u,s.heap.get? b=some u->h'.get? b=some u):Inv X Zt σ H {s with heap:=h',toks:=t'}:=I.un (Un.kept k) (I.hok.kept k)
theorem Inv.laid{a:Addr}{o:HO}{t':Nat}(I:Inv X Zt σ H s)(k:∀b u,s.heap.get? b=some u->h'.get? b=some u)(hp:s.heap.objs.size<=a)(new:ObjOk X.prog X.w (upd H a o) h' a o):
  Inv X Zt σ (upd H a o) {s with heap:=h',toks:=t'}:=I.un (Un.laid k hp (I.hok.fresh hp)) (I.hok.laid k hp new)
theorem Inv.write{x e:Addr}{o:HO}{t':Nat}(I:Inv X Zt σ H s)(mu:Mut (H x))(he:e=x\/H e=some (.own x))(k:∀b u,b≠e->s.heap.get? b=some u->h'.get? b=some u)(qh:∃u,h'.get? e=some u)
  (new:ObjOk X.prog X.w (upd H x o) h' x o):Inv X Zt σ (upd H x o) {s with heap:=h',toks:=t'}:=I.un (Un.write mu he k qh) (I.hok.write mu he k qh new)
theorem Inv.pins_of{kP:List (Addr×Obj)}(I:Inv X Zt σ H s)(h:∀p∈kP,s.heap.get? p.1=some p.2/\H p.1=none/\p.1≠X.env.locals/\p.1∉X.fs/\∀v,p.2.data≠.cell v):Inv X kP σ H s:=
 ⟨I.ok,I.os,I.bare,I.base,I.loc,I.cell,I.free,I.freeC,fun p hp=>(zA6.mp hp).elim (fun z=>I.pin p (List.mem_append_left _ z)) (h p),I.hok,I.len⟩
theorem rG{N:List Str}(hN:N.Nodup){i j:Nat}{x:Str}(a:N[i]?=some x)(b:N[j]?=some x):i=j:=by
 obtain⟨h1,e1⟩:=zAa.mp a;obtain⟨h2,e2⟩:=zAa.mp b;exact(List.getElem_inj hN).mp (e1.trans e2.symm)
theorem nR{M:Model}{A:Around}{E:Value->Shared->Prop}{i:Nat}{x:Str}{v:V}{u:Value}{Q:Unit->Shared->Prop}(I:Inv X Zt σ H s)(hN:X.N.Nodup)(hi:X.N[i]?=some x)(hx:Loc X.env.scope x)(r:RelV v u)
  (h:∀s',Inv X Zt (σ.set i (some v)) H s'->(∃a,Heap.SameBut a s.heap s'.heap/\(a=X.env.locals\/X.env.cells.lookup x=some a))->Q () s') (hf:X.fn x=true\/X.env.scope.names.lookup x=some .local:=by first|exact .inl rfl|exact .inr rfl|assumption):wpAny M A (storeName X.env x u) Q E s:=by
 obtain⟨m,hn,hl⟩:=id I.loc;have AN:(X.env.scope.kind==.class||(X.env.scope.kind==.module&&X.env.locals != X.env.globals))=false:=by rw[I.ok.kind];rfl
 have sF:i<σ.length:=by rw[I.len];exact(zAa.mp hi).1
 have cne:=I.cne
 have tracked:∀{a:Addr} {h':Heap},(∃o,s.heap.get? a=some o/\H a=none)->Heap.SameBut a s.heap h'->HOk X.prog X.w H h':=fun{a h'} ha hs b ob e=>by
  obtain⟨_,_,hfree⟩:=ha;refine(I.hok b ob e).stay (fun c w' hc q=>(hs.2 c ?_).trans q) (fun _ q=>q) fun _ _ q=>q;rintro rfl;rcases hc with rfl|hc
  .rw[hfree]at e;cases e
  .rw[hfree]at hc;cases hc
 rcases hx with hk|hk
 .refine wpAny_storeName_local hk hn (fun h' Kx hs=>?_) AN;obtain⟨oL,_,_,Ky,_⟩:=id hn;refine h _ ⟨I.ok,I.os,I.bare,⟨fun b o e n hb hx=>?_,fun b o e n hb hx=>?_,I.base.free,fun b o e hx=>?_,I.base.tups,I.base.frzs,I.base.tbls⟩,⟨_,Kx,fun j y v' e1 e2 e3=>?_⟩,fun y c e=>?_,I.free,I.freeC,fun p hp=>?_,tracked ⟨oL,Ky,I.free⟩ hs,by simpa using I.len⟩ ⟨_,hs,.inl rfl⟩
  .exact(hs.2 b (zB6 (zB2 (zAz e) I.ok.above))).trans (I.base.keep b o e n hb hx)
  .obtain⟨sl,e1⟩:=I.base.slot b o e n hb hx;exact⟨sl,(hs.2 b (zB6 (zB2 (zAz e) I.ok.above))).trans e1⟩
  .obtain⟨o',e1⟩:=I.base.there b o e hx;exact⟨o',(hs.2 b (zB6 (zB2 (zAz e) I.ok.above))).trans e1⟩
  .by_cases hj:j=i
   .subst hj;rw[hi]at e1;cases e1;rw[List.getElem?_set_self sF]at e2;cases e2;exact⟨u,r,.inl ⟨hk,by simp⟩⟩
   .rw[List.getElem?_set_ne (Ne.symm hj)]at e2;obtain⟨u',r',q⟩:=hl j y v' e1 e2 e3;refine⟨u',r',?_⟩;rcases q with⟨k,e⟩|⟨k,c,e,z⟩
    .refine .inl ⟨k,?_⟩;have:y≠x:=fun e=>hj (rG hN e1 (e▸hi));simp[this,e]
    .exact .inr ⟨k,c,e,z.sameBut hs (cne y c e)⟩
  .obtain⟨w',z⟩:=I.cell y c e;exact⟨w',z.sameBut hs (cne y c e)⟩
  .obtain⟨e,n,ne,nf,d⟩:=I.pin p hp;exact⟨(hs.2 p.1 ne).trans e,n,ne,nf,d⟩
 .have AO:X.fn x=true:=by
   rcases hf with z|z
   .exact z
   .rw[z]at hk;cases hk
  obtain⟨c,hc⟩:=I.ok.has x (.inl hk);obtain⟨w',z⟩:=I.cell x c hc;refine wpAny_storeName_cell I.ok.kind hk hc z (fun h' ay hs=>?_);obtain⟨oc,F2,AQ⟩:=id z;refine h {s with heap:=h'} ⟨I.ok,I.os,I.bare,⟨fun b o e n hb hx=>?_,fun b o e n hb hx=>?_,I.base.free,fun b o e hx=>?_,I.base.tups,I.base.frzs,I.base.tbls⟩,⟨m,hn.sameBut hs (Ne.symm (cne x c hc)),fun j y v' e1 e2 e3=>?_⟩,fun y c' e=>?_,I.free,I.freeC,fun p hp=>?_,tracked ⟨oc,F2,I.freeC x c hc⟩ hs,by simpa using I.len⟩ ⟨c,hs,.inr hc⟩
  .exact(hs.2 b (zB6 (zB2 (zAz e) (I.ok.cab x c AO hc)))).trans (I.base.keep b o e n hb hx)
  .obtain⟨sl,e1⟩:=I.base.slot b o e n hb hx;exact⟨sl,(hs.2 b (zB6 (zB2 (zAz e) (I.ok.cab x c AO hc)))).trans e1⟩
  .obtain⟨o',e1⟩:=I.base.there b o e hx;exact⟨o',(hs.2 b (zB6 (zB2 (zAz e) (I.ok.cab x c AO hc)))).trans e1⟩
  .by_cases hj:j=i
   .subst hj;rw[hi]at e1;cases e1;rw[List.getElem?_set_self sF]at e2;cases e2;exact⟨u,r,.inr ⟨.inl hk,c,hc,ay⟩⟩
   .rw[List.getElem?_set_ne (Ne.symm hj)]at e2;obtain⟨u',r',q⟩:=hl j y v' e1 e2 e3;refine⟨u',r',?_⟩;rcases q with q|⟨k,c',e,z'⟩
    .exact .inl q
    .refine .inr ⟨k,c',e,z'.sameBut hs ?_⟩;rintro rfl;exact hj (rG hN e1 (I.ok.inj _ _ _ e hc▸hi))
  .by_cases F3:c'=c
   .subst F3;exact⟨_,ay⟩
   .obtain⟨w2,z2⟩:=I.cell y c' e;exact⟨w2,z2.sameBut hs F3⟩
  .obtain⟨e,n,ne,nf,d⟩:=I.pin p hp;refine⟨(hs.2 p.1 ?_).trans e,n,ne,nf,d⟩;intro q;rw[q,F2]at e;have q':oc=p.2:=zAl e;exact d w' (by rw[<-q'];exact AQ)
theorem gC{M:Model}{A:Around}{E:Value->Shared->Prop}{i:Nat}{x:Str}{v:V}{u:Value}{Q:Unit->Shared->Prop}(I:Inv X Zt σ H s)(hN:X.N.Nodup)(hi:X.N[i]?=some x)(hx:Loc X.env.scope x)(r:RelV v u)
  (h:∀s',Inv X Zt (σ.set i (some v)) H s'->Q () s') (hf:X.fn x=true\/X.env.scope.names.lookup x=some .local:=by first|exact .inl rfl|exact .inr rfl|assumption):wpAny M A (storeName X.env x u) Q E s:=
 nR I hN hi hx r (fun s' I' _=>h s' I') hf
theorem Inv.call'{s':Shared}{ch:List Addr}(I:Inv X Zt σ H s)(ho:s'.os=s.os)(u:Un (frs X.stack) ch H H' s.heap s'.heap)(hok:HOk X.prog X.w H' s'.heap)(hg:AllBare s'.gens)
  (iO:∀b∈ch,(b∈X.ex\/X.s₀.heap.objs.size<=b)/\b≠X.env.locals/\(∀x c,X.env.cells.lookup x=some c->c≠b)/\∀p∈X.pn++Zt,p.1≠b):Inv X Zt σ H' s':=by
 obtain⟨h',g',d',t',o'⟩:=s';have e:o'=s.os:=ho;subst e;exact I.call (g':=g') (t':=t') (d':=d') u hok hg iO
end
abbrev XK:=Value->Option Addr->Hp->Prop
abbrev St:=List (Option V)
abbrev VK:=V->Hp->Prop
abbrev TE:=St->Hp->VK->Prop
abbrev TT:=St->Hp->(Bool->Hp->Prop)->Prop
abbrev TA:=St->Hp->(List V->Hp->Prop)->Prop
structure Ends where
 nx:St->Hp->Prop
 rt:VK
 bk:St->Hp->Prop:=fun _ _=>False
 ct:St->Hp->Prop:=fun _ _=>False
abbrev TS:=Ends->St->Hp->Prop
def EP(X:Cx)(Zt:List (Addr×Obj))(σ:St)(Q:VK)(u:Value)(s':Shared):Prop:=∃v H',Inv X Zt σ H' s'/\RelV v u/\Q v H'
def TP(X:Cx)(Zt:List (Addr×Obj))(σ:St)(Q:Bool->Hp->Prop)(b:Bool)(s':Shared):Prop:=∃H',Inv X Zt σ H' s'/\Q b H'
def AP(X:Cx)(Zt:List (Addr×Obj))(σ:St)(Q:List V->Hp->Prop)(us:List Value)(s':Shared):Prop:=∃vs H',Inv X Zt σ H' s'/\Vals vs us/\Q vs H'
def SP(X:Cx)(Zt:List (Addr×Obj))(D:Ends)(f:Flow)(s':Shared):Prop:=
 match f with
 |.next=>∃ai H',Inv X Zt ai H' s'/\D.nx ai H'
 |.brk=>∃ai H',Inv X Zt ai H' s'/\D.bk ai H'
 |.cont=>∃ai H',Inv X Zt ai H' s'/\D.ct ai H'
 |.ret u=>∃v ai H',Inv X Zt ai H' s'/\RelV v u/\D.rt v H'
def PE(X:Cx)(e:Expr)(t:TE):Prop:=
 ∀(Zt:List (Addr×Obj)) (s:Shared) (σ:St) (H:Hp) (Q:VK),Inv X Zt σ H s->t σ H Q->wpAny (model X.prog X.w) X.A (eval e X.env) (EP X Zt σ Q) X.xe s
def PT(X:Cx)(e:Expr)(t:TT):Prop:=
 ∀(Zt:List (Addr×Obj)) (s:Shared) (σ:St) (H:Hp) (Q:Bool->Hp->Prop),Inv X Zt σ H s->t σ H Q->wpAny (model X.prog X.w) X.A (isTrue e X.env (eval e X.env)) (TP X Zt σ Q) X.xe s
def PW(X:Cx)(e:Expr)(t:TT):Prop:=
 ∀(whole:Sem Value) (Zt:List (Addr×Obj)) (s:Shared) (σ:St) (H:Hp) (Q:Bool->Hp->Prop),Inv X Zt σ H s->t σ H Q->wpAny (model X.prog X.w) X.A (isTrue e X.env whole) (TP X Zt σ Q) X.xe s
theorem PW.pt{X:Cx}{e:Expr}{t:TT}(h:PW X e t):PT X e t:=h _
def PA(X:Cx)(es:List Expr)(t:TA):Prop:=
 ∀(pos:Pos) (Zt:List (Addr×Obj)) (s:Shared) (σ:St) (H:Hp) (Q:List V->Hp->Prop),Inv X Zt σ H s->t σ H Q->wpAny (model X.prog X.w) X.A (spliced (backTo pos (starEach es X.env))) (AP X Zt σ Q) X.xe s
def PS(X:Cx)(st:Stmt)(t:TS):Prop:=
 ∀(Zt:List (Addr×Obj)) (s:Shared) (σ:St) (H:Hp) (D:Ends),Inv X Zt σ H s->t D σ H->wpAny (model X.prog X.w) X.A (exec st X.env) (SP X Zt D) X.xe s
def PSs(X:Cx)(st:List Stmt)(t:TS):Prop:=
 ∀(Zt:List (Addr×Obj)) (s:Shared) (σ:St) (H:Hp) (D:Ends),Inv X Zt σ H s->t D σ H->wpAny (model X.prog X.w) X.A (execs st X.env) (SP X Zt D) X.xe s
theorem thn{α:Type}{t:Sem α}{Q Q':α->Shared->Prop}{M:Model}{A:Around}{E:Value->Shared->Prop}{s:Shared}(h:wpAny M A t Q E s)(hQ:∀a s,Q a s->Q' a s):wpAny M A t Q' E s:=wpAny_mono h hQ fun _ _ x=>x
section
variable{X:Cx}
theorem bin{a b:Expr}{ta tb:TE}(ha:PE X a ta)(hb:PE X b tb){Zt:List (Addr×Obj)}{s:Shared}{σ:St}{H:Hp}{R:V->V->Hp->Prop}(I:Inv X Zt σ H s)(h:ta σ H fun x H1=>tb σ H1 fun y H2=>R x y H2)
  {α:Type} {Q:α->Shared->Prop} {f:Value->Value->Sem α}
  (hf:∀v u s2 x y H2,Inv X Zt σ H2 s2->RelV x v->RelV y u->R x y H2->wpAny (model X.prog X.w) X.A (f v u) Q X.xe s2):
  wpAny (model X.prog X.w) X.A (eval a X.env) (fun v s₁=>wpAny (model X.prog X.w) X.A (eval b X.env) (fun u s₂=>wpAny (model X.prog X.w) X.A (f v u) Q X.xe s₂) X.xe s₁) X.xe s:=by
 refine thn (ha Zt s σ H _ I h) fun v s1 ⟨x,H1,I1,r1,q1⟩=>?_;refine thn (hb Zt s1 σ H1 _ I1 q1) fun u s2 ⟨y,H2,I2,r2,q2⟩=>?_;exact hf v u s2 x y H2 I2 r1 r2 q2
inductive TVarI(i:Nat)(σ:St)(H:Hp)(Q:VK):Prop
 |mk:∀v,(σ[i]?=some (some v))->(Q v H)->TVarI i σ H Q
def xF(i:Nat):TE:=fun σ H Q=>TVarI i σ H Q
def tC(v:V):TE:=fun _ H Q=>Q v H
theorem Ep{i:Nat}{x:Str}{pos:Pos}(hN:X.N[i]?=some x)(hv:Vis X.env.scope x)(hd:(x==("__debug__":Str))=false:=by decide)(gS:(x==("__classdict__":Str))=false:=by decide):PE X (.Name x pos) (xF i):=by
 intro Zt s σ H Q I h;obtain⟨v,e,h⟩:=h;obtain⟨m,hn,hl⟩:=I.loc;obtain⟨u,r,l⟩:=hl i x v hN e hv
 have fin:EP X Zt σ Q u s:=⟨v,H,I,r,h⟩
 rcases l with⟨hk,hm⟩|⟨hk,c,hc,hcell⟩
 .exact wpAny_Name (wpAny_loadName_local I.ok.kind hk hn hm fin) hd
 .rcases hk with hk|hk
  .exact wpAny_Name (wpAny_loadName_cell I.ok.kind hk hc hcell fin) hd
  .exact wpAny_Name (wpAny_loadName_free I.ok.kind hk hc hcell fin gS) hd
theorem az{i j pos}:PE X (.Constant (.int i) j pos) (tC (.int i)):=fun _ _ _ H _ I h=>wpAny_Constant_int ⟨.int i,H,I.tok _,⟨_,rfl⟩,h⟩
theorem gr{b j pos}:PE X (.Constant (.bool b) j pos) (tC (.bl b)):=fun _ _ _ H _ I h=>Constant_bool ⟨.bl b,H,I,rfl,h⟩
theorem dz{j pos}:PE X (.Constant .none j pos) (tC .non):=fun _ _ _ H _ I h=>Constant_none ⟨.non,H,I,rfl,h⟩
def Gl(X:Cx)(x:Str):Prop:=X.env.kindOf x=some .globalImplicit
theorem vo{E:Value->Shared->Prop}{Zt:List (Addr×Obj)}{s:Shared}{σ:St}{H:Hp}{x:Str}{u:Value}{pos:Pos}{Q:Value->Shared->Prop}(I:Inv X Zt σ H s)(hg:Gl X x)(hm:X.mg x=some u)(h:Q u s)
  (hd:(x==("__debug__":Str))=false:=by decide):wpAny (model X.prog X.w) X.A (eval (.Name x pos) X.env) Q E s:=
 Calls.Name_function_global I.ok.kind hg (Calls.loadGlobal_global (by rw[I.ok.glob];exact I.mod.glob.keeps I.bk) hm h) hd
theorem iI{E:Value->Shared->Prop}{Zt:List (Addr×Obj)}{s:Shared}{σ:St}{H:Hp}{x:Str}{u:Value}{pos:Pos}{Q:Value->Shared->Prop}(I:Inv X Zt σ H s)(hg:Gl X x)(hm:X.mg x=none)(hv:bootBuiltins x=some u)(h:Q u s)
  (hn:x≠"__name__":=by decide) (hd:(x==("__debug__":Str))=false:=by decide):wpAny (model X.prog X.w) X.A (eval (.Name x pos) X.env) Q E s:=by
 obtain⟨mb,h1,h2⟩:=I.mod.blt;exact Calls.Name_function_global I.ok.kind hg (Calls.loadGlobal_builtin (by rw[I.ok.glob];exact I.mod.glob.keeps I.bk) hm (by rw[I.ok.blt];exact h1.keeps I.bk) ((h2 x hn).trans hv) h) hd
theorem bM{x:Str}{v:V}{u:Value}{pos:Pos}(hg:Gl X x)(hm:X.mg x=some u)(r:RelV v u)(hd:(x==("__debug__":Str))=false:=by decide):PE X (.Name x pos) (tC v):=
 fun _ _ _ H _ I h=>vo I hg hm ⟨v,H,I,r,h⟩ hd
theorem pO{x:Str}{v:V}{u:Value}{pos:Pos}(hg:Gl X x)(hm:X.mg x=none)(hv:bootBuiltins x=some u)(r:RelV v u)(hn:x≠"__name__":=by decide)(hd:(x==("__debug__":Str))=false:=by decide):PE X (.Name x pos) (tC v):=
 fun _ _ _ H _ I h=>iI I hg hm hv ⟨v,H,I,r,h⟩ hn hd
variable{a b:Expr}{ta tb:TE}{pos:Pos}
def PC(X:Cx)(op:CmpOp)(a b:Expr)(t:TE):Prop:=
 ∀(Zt:List (Addr×Obj)) (s:Shared) (σ:St) (H:Hp) (Q:VK),Inv X Zt σ H s->t σ H Q->
  wpAny (model X.prog X.w) X.A (eval a X.env) (fun v s₁=>wpAny (model X.prog X.w) X.A (eval b X.env) (fun u s₂=>wpAny (model X.prog X.w) X.A (compareOp op v u) (EP X Zt σ Q) X.xe s₂) X.xe s₁) X.xe s
def tB(t:TE):TT:=fun σ H Q=>t σ H fun x H1=>∃c,x=.bl c/\Q c H1
theorem Ig{op:CmpOp}{t:TE}(h:PC X op a b t)(h1:behindInMarks op b=false:=by first|exact nobehind _ Zx Zx|rfl):PT X (.Compare a [op] [b] pos) (tB t):=by
 intro Zt s σ H Q I hw;refine wpAny_isTrue_Compare1 (thn (h Zt s σ H _ I hw) fun v s1 h1=>thn h1 fun u s2 h2=>thn h2 fun c s3 ⟨x,H1,I1,r1,q1⟩=>?_) h1;obtain⟨d,rfl,q⟩:=q1;cases r1;exact wpAny_truthy_bool ⟨H1,I1,q⟩
theorem dB{e:Expr}{t:TE}(h:PE X e t)(he:∀whole,isTrue e X.env whole=(do let v <-whole;standAt e.pos;holding [v] (truthy v)):=by intro _;rfl):PT X e (tB t):=by
 intro Zt s σ H Q I hw;refine isTrue_plain (thn (h Zt s σ H _ I hw) fun v s1 ⟨x,H1,I1,r1,q1⟩=>?_) (he _);obtain⟨d,rfl,q⟩:=q1;cases r1;exact wpAny_truthy_bool ⟨H1,I1,q⟩
variable{tA yk:TT}{rest:List Expr}
def Gb(t u:TT):TT:=fun σ H Q=>t σ H fun c H1=>if c=true then u σ H1 Q else Q false H1
def tOr(t u:TT):TT:=fun σ H Q=>t σ H fun c H1=>if c=true then Q true H1 else u σ H1 Q
def Ih(t:TT):TT:=fun σ H Q=>t σ H fun c H1=>Q (!c) H1
theorem kY(ha:PT X a tA):PW X (.BoolOp .And [a] pos) tA:=by
 intro wh Zt s σ H Q I h;refine isTrue_and (thn (ha Zt s σ H Q I h) fun c s1 e=>?_)
 cases c with
 |true=>exact isTrue_and_nil e
 |false=>exact e
theorem yI(ha:PT X a tA):PW X (.BoolOp .Or [a] pos) tA:=by
 intro wh Zt s σ H Q I h;refine isTrue_or (thn (ha Zt s σ H Q I h) fun c s1 e=>?_)
 cases c with
 |false=>exact isTrue_or_nil e
 |true=>exact e
theorem ju(ha:PT X a tA)(hb:PW X (.BoolOp .And (b::rest) pos) yk):PW X (.BoolOp .And (a::b::rest) pos) (Gb tA yk):=by
 intro wh Zt s σ H Q I h;refine isTrue_and (thn (ha Zt s σ H _ I h) fun c s1 ⟨H1,I1,q1⟩=>?_)
 cases c with
 |true=>exact hb wh Zt s1 σ H1 Q I1 q1
 |false=>exact⟨H1,I1,q1⟩
theorem vq(ha:PT X a tA)(hb:PW X (.BoolOp .Or (b::rest) pos) yk):PW X (.BoolOp .Or (a::b::rest) pos) (tOr tA yk):=by
 intro wh Zt s σ H Q I h;refine isTrue_or (thn (ha Zt s σ H _ I h) fun c s1 ⟨H1,I1,q1⟩=>?_)
 cases c with
 |true=>exact⟨H1,I1,q1⟩
 |false=>exact hb wh Zt s1 σ H1 Q I1 q1
theorem bZ(ha:PT X a tA):PT X (.UnaryOp .Not a pos) (Ih tA):=by
 intro Zt s σ H Q I h;exact isTrue_not (ha Zt s σ H (fun c H1=>Q (!c) H1) I h)
def Dt(ta tb:TE):TE:=fun σ H Q=>ta σ H fun x H1=>∃c,x=.bl c/\if c=true then tb σ H1 Q else Q (.bl false) H1
def Ii(ta tb:TE):TE:=fun σ H Q=>ta σ H fun x H1=>∃c,x=.bl c/\if c=true then Q (.bl true) H1 else tb σ H1 Q
def Gd(ta:TE):TE:=fun σ H Q=>ta σ H fun x H1=>∃c,x=.bl c/\Q (.bl (!c)) H1
theorem cV{op}{t:TE}(h:PE X a t):PE X (.BoolOp op [a] pos) t:=fun Zt s σ H Q I hw=>BoolOp_one (h Zt s σ H Q I hw)
theorem cg(ha:PE X a ta)(hb:PE X (.BoolOp .And (b::rest) pos) tb):PE X (.BoolOp .And (a::b::rest) pos) (Dt ta tb):=by
 intro Zt s σ H Q I h;refine BoolOp_and (thn (ha Zt s σ H _ I h) fun v s1 ⟨x,H1,I1,r1,q1⟩=>?_);obtain⟨c,rfl,q1⟩:=q1;cases r1;refine wpAny_truthy_bool ?_
 cases c with
 |true=>exact hb Zt s1 σ H1 Q I1 q1
 |false=>exact⟨.bl false,H1,I1,rfl,q1⟩
theorem Du(ha:PE X a ta)(hb:PE X (.BoolOp .Or (b::rest) pos) tb):PE X (.BoolOp .Or (a::b::rest) pos) (Ii ta tb):=by
 intro Zt s σ H Q I h;refine BoolOp_or (thn (ha Zt s σ H _ I h) fun v s1 ⟨x,H1,I1,r1,q1⟩=>?_);obtain⟨c,rfl,q1⟩:=q1;cases r1;refine wpAny_truthy_bool ?_
 cases c with
 |false=>exact hb Zt s1 σ H1 Q I1 q1
 |true=>exact⟨.bl true,H1,I1,rfl,q1⟩
theorem Er(ha:PE X a ta):PE X (.UnaryOp .Not a pos) (Gd ta):=by
 intro Zt s σ H Q I h;refine UnaryOp_ (thn (ha Zt s σ H _ I h) fun v s1 ⟨x,H1,I1,r1,q1⟩=>?_);obtain⟨c,rfl,q1⟩:=q1;cases r1;exact not_of (wpAny_truthy_bool ⟨.bl (!c),H1,I1,rfl,q1⟩)
def tIf(t:TT)(ta tb:TE):TE:=fun σ H Q=>t σ H fun c H1=>if c=true then ta σ H1 Q else tb σ H1 Q
theorem yJ{c:Expr}(hc:PT X c tA)(ha:PE X a ta)(hb:PE X b tb):PE X (.IfExp c a b pos) (tIf tA ta tb):=by
 intro Zt s σ H Q I h;refine wpAny_IfExp (thn (hc Zt s σ H _ I h) fun d s1 ⟨H1,I1,q1⟩=>?_)
 cases d with
 |true=>exact ha Zt s1 σ H1 Q I1 q1
 |false=>exact hb Zt s1 σ H1 Q I1 q1
end
def SqL(K:Frag)(H:Hp)(a:Addr)(xs:List V):Prop:=
 Rd H a (.lst xs) \/
  ∃(o:Obj) (Zr:Array Value) (n:Nat),K.lookup a=some o/\o.cls=.type "list"/\o.dict=none/\o.data=.seq Zr n/\Zr.size<=sizeLine/\Vals xs Zr.toList
def SqT(K:Frag)(H:Hp)(a:Addr)(xs:List V):Prop:=
 Rd H a (.tup xs) \/
  ∃(o:Obj) (Zr:Array Value) (n:Nat),K.lookup a=some o/\o.cls=.type "tuple"/\o.data=.seq Zr n/\Zr.size<=sizeLine/\Vals xs Zr.toList
def Ij:Value->Option V
 |.none=>some .non
 |.bool b=>some (.bl b)
 |.int i _=>some (.int i)
 |.str x _=>some (.str x)
 |.bytes b _=>some (.byt b)
 |.float b _=>some (.flt b)
 |.ref a=>some (.ref a)
 |.type n=>some (.ty n)
 |_=>none
theorem RelV.abs{x:V}{u:Value}(r:RelV x u):Ij u=some x:=by
 cases x with
 |non=>cases r;rfl
 |bl _=>cases r;rfl
 |int _=>obtain⟨t,rfl⟩:=r;rfl
 |str _=>obtain⟨t,rfl⟩:=r;rfl
 |byt _=>obtain⟨t,rfl⟩:=r;rfl
 |flt _=>obtain⟨t,rfl⟩:=r;rfl
 |ref _=>cases r;rfl
 |ty _=>cases r;rfl
theorem RelV.inj{x y:V}{u:Value}(r:RelV x u)(q:RelV y u):x=y:=zAl (r.abs.symm.trans q.abs)
theorem Vals.inj:∀{xs ys:List V} {us:List Value},Vals xs us->Vals ys us->xs=ys
 |_,_,_,.nil,.nil=>rfl
 |_,_,_,.cons r t,.cons r' t'=>by rw[r.inj r',Vals.inj t t']
section
variable{X:Cx}{Zt:List (Addr×Obj)}{σ:St}{H:Hp}{s:Shared}{a:Addr}{xs ys:List V}
theorem SqL.of{K:Frag}(h:H a=some (.lst xs)):SqL K H a xs:=.inl (.inl h)
theorem SqT.of{K:Frag}(h:H a=some (.tup xs)):SqT K H a xs:=.inl (.inl h)
theorem Inv.list(I:Inv X Zt σ H s)(h:SqL X.K H a xs):∃Zr:List Value,Vals xs Zr/\PlainL s.heap a Zr.toArray/\xs.length<=sizeLine:=by
 rcases h with h|⟨o,Zr,n,hk,hc,hd,hs,hz,r⟩
 .obtain⟨z,Zr,n,r,e⟩:=h.ok I.hok;exact⟨Zr,r,⟨_,n,e,rfl,rfl,rfl⟩,z⟩
 .refine⟨Zr.toList,r,⟨o,n,I.kIn a o hk,hc,hd,by simpa using hs⟩,?_⟩;have e:=r.length;simp only[Array.length_toList]at e;lia
theorem Inv.tuple(I:Inv X Zt σ H s)(h:SqT X.K H a xs):∃Zr:List Value,Vals xs Zr/\IsTup s.heap a Zr.toArray/\xs.length<=sizeLine:=by
 rcases h with h|⟨o,Zr,n,hk,hc,hs,hz,r⟩
 .obtain⟨z,Zr,r,p⟩:=h.ok I.hok;exact⟨Zr,r,p,z⟩
 .refine⟨Zr.toList,r,⟨o,I.kIn a o hk,hc,n,by simpa using hs⟩,?_⟩;have e:=r.length;simp only[Array.length_toList]at e;lia
theorem Inv.list_inj(I:Inv X Zt σ H s)(h:SqL X.K H a xs)(h':SqL X.K H a ys):xs=ys:=by
 obtain⟨Zr,r,⟨o,n,e,_,_,d⟩,_⟩:=I.list h;obtain⟨its',r',⟨o',n',e',_,_,d'⟩,_⟩:=I.list h';rw[e]at e';cases e';rw[d]at d';injection d' with d1 _;have:Zr=its':=by simpa using congrArg Array.toList d1
 subst this;exact r.inj r'
theorem Inv.tuple_inj(I:Inv X Zt σ H s)(h:SqT X.K H a xs)(h':SqT X.K H a ys):xs=ys:=by
 obtain⟨Zr,r,⟨o,e,_,n,d⟩,_⟩:=I.tuple h;obtain⟨its',r',⟨o',e',_,n',d'⟩,_⟩:=I.tuple h';rw[e]at e';cases e';rw[d]at d';injection d' with d1 _;have:Zr=its':=by simpa using congrArg Array.toList d1
 subst this;exact r.inj r'
end
abbrev Cx.wish(X:Cx)(E:Value->Shared->Prop):Cx:={X with xe:=E}
abbrev Cx.nox(X:Cx):Cx:=X.wish fun _ _=>False
theorem Cx.Ok.wish{X:Cx}(ok:X.Ok)(E:Value->Shared->Prop):(X.wish E).Ok:=
 ⟨ok.mod,ok.kind,ok.glob,ok.blt,ok.above,ok.inj,ok.has,ok.cab,ok.hd,ok.frames,ok.stk,ok.exf,ok.bs,ok.bsz,ok.noex,ok.exfs,ok.funs,ok.frf⟩
theorem Cx.Ok.unwish{X:Cx}{E:Value->Shared->Prop}(ok:(X.wish E).Ok):X.Ok:=
 ⟨ok.mod,ok.kind,ok.glob,ok.blt,ok.above,ok.inj,ok.has,ok.cab,ok.hd,ok.frames,ok.stk,ok.exf,ok.bs,ok.bsz,ok.noex,ok.exfs,ok.funs,ok.frf⟩
section
variable{X:Cx}{Zt:List (Addr×Obj)}{σ:St}{H:Hp}{s:Shared}{E:Value->Shared->Prop}
theorem Inv.wish(I:Inv X Zt σ H s)(E:Value->Shared->Prop):Inv (X.wish E) Zt σ H s:=⟨I.ok.wish E,I.os,I.bare,I.base,I.loc,I.cell,I.free,I.freeC,I.pin,I.hok,I.len⟩
theorem Inv.unwish(I:Inv (X.wish E) Zt σ H s):Inv X Zt σ H s:=⟨I.ok.unwish,I.os,I.bare,I.base,I.loc,I.cell,I.free,I.freeC,I.pin,I.hok,I.len⟩
theorem SP.unwish{D:Ends}{f:Flow}{s':Shared}(h:SP (X.wish E) Zt D f s'):SP X Zt D f s':=by
 cases f with
 |next=>obtain⟨ai,H',I,q⟩:=h;exact⟨ai,H',I.unwish,q⟩
 |brk=>obtain⟨ai,H',I,q⟩:=h;exact⟨ai,H',I.unwish,q⟩
 |cont=>obtain⟨ai,H',I,q⟩:=h;exact⟨ai,H',I.unwish,q⟩
 |ret u=>obtain⟨v,ai,H',I,r,q⟩:=h;exact⟨v,ai,H',I.unwish,r,q⟩
theorem PSs.nox{st:List Stmt}{t:TS}(h:PSs X.nox st t):PSs X st t:=fun Zt s σ H D I hw=>
 wpAny_mono (h Zt s σ H D (I.wish _) hw) (fun _ _ q=>q.unwish) fun _ _ z=>False.elim z
end
section
variable{X:Cx}{st:Stmt}{rest:List Stmt}{t u:TS}{e:Expr}{te:TE}{pos:Pos}
def Dv:TS:=fun D σ H=>D.nx σ H
def Bu(t u:TS):TS:=fun D σ H=>t {D with nx:=u D} σ H
theorem bh:PSs X [] Dv:=fun _ _ σ H _ I h=>wpAny_execs_nil ⟨σ,H,I,h⟩
theorem aA(h1:PS X st t)(h2:PSs X rest u):PSs X (st::rest) (Bu t u):=by
 intro Zt s σ H D I h;refine wpAny_execs_cons (thn (h1 Zt s σ H {D with nx:=u D} I h) fun f s1 q=>?_)
 cases f with
 |next=>
  obtain⟨ai,H',I',q⟩:=q;exact h2 Zt s1 ai H' D I' q
 |ret v=>exact q
 |brk=>exact q
 |cont=>exact q
theorem aC(h1:PS X st t):PSs X [st] t:=by
 intro Zt s σ H D I h;refine wpAny_execs_cons (thn (h1 Zt s σ H D I h) fun f s1 q=>?_)
 cases f with
 |next=>exact wpAny_execs_nil q
 |ret v=>exact q
 |brk=>exact q
 |cont=>exact q
theorem Inv.quiet{Zt:List (Addr×Obj)}{σ:St}{H:Hp}{s:Shared}(I:Inv X Zt σ H s):interactive X.env=false:=by simp[interactive,I.ok.kind]
def Ge(te:TE):TS:=fun D σ H=>te σ H fun _ H1=>D.nx σ H1
theorem cD(he:PE X e te)(hs:swapsWith e none pos.line X.env=pure false:=by rfl):PS X (.Expr e pos) (Ge te):=by
 intro Zt s σ H D I h;exact wpAny_Expr_any (thn (he Zt s σ H _ I h) fun v s1 ⟨x,H1,I1,r1,q1⟩=>⟨σ,H1,I1,q1⟩) I.quiet hs
def Es(te:TE):TS:=fun D σ H=>te σ H D.rt
theorem aU(he:PE X e te):PS X (.Return (some e) pos) (Es te):=by
 intro Zt s σ H D I h;exact wpAny_Return_some (thn (he Zt s σ H _ I h) fun v s1 ⟨x,H1,I1,r1,q1⟩=>⟨x,σ,H1,I1,r1,q1⟩)
def Ik(c:TT)(t u:TS):TS:=fun D σ H=>c σ H fun b H1=>if b=true then t D σ H1 else u D σ H1
theorem bY{c:Expr}{a b:List Stmt}{tc:TT}(hc:PT X c tc)(ha:PSs X a t)(hb:PSs X b u):PS X (.If c a b pos) (Ik tc t u):=by
 intro Zt s σ H D I h;refine wpAny_If (thn (hc Zt s σ H _ I h) fun d s1 ⟨H1,I1,q1⟩=>?_)
 cases d with
 |true=>exact ha Zt s1 σ H1 D I1 q1
 |false=>exact hb Zt s1 σ H1 D I1 q1
def yK:TS:=fun _ _ _=>False
theorem gD:PS X st yK:=fun _ _ _ _ _ _ h=>h.elim
theorem nU{AR:List Stmt}:PSs X AR yK:=fun _ _ _ _ _ _ h=>h.elim
end
abbrev TG:=V->St->Hp->(St->Hp->Prop)->Prop
abbrev TGs:=List V->St->Hp->(St->Hp->Prop)->Prop
def PG(X:Cx)(target:Expr)(t:TG):Prop:=
 ∀(Zt:List (Addr×Obj)) (s:Shared) (σ:St) (H:Hp) (v:V) (u:Value) (Q:St->Hp->Prop),Inv X Zt σ H s->RelV v u->t v σ H Q->
  wpAny (model X.prog X.w) X.A (assign target X.env u) (fun _ s'=>∃ai H',Inv X Zt ai H' s'/\Q ai H') X.xe s
def PGs(X:Cx)(ts:List Expr)(t:TGs):Prop:=
 ∀(Zt:List (Addr×Obj)) (s:Shared) (σ:St) (H:Hp) (vs:List V) (us:List Value) (Q:St->Hp->Prop),Inv X Zt σ H s->Vals vs us->t vs σ H Q->
  wpAny (model X.prog X.w) X.A (assignInOrder ((assignEach ts X.env).map (·.2)) us) (fun _ s'=>∃ai H',Inv X Zt ai H' s'/\Q ai H') X.xe s
abbrev yL:=V->V->V->Hp->(Hp->Prop)->Prop
def Et(X:Cx)(t:yL):Prop:=
 ∀(Zt:List (Addr×Obj)) (s:Shared) (σ:St) (H:Hp) (o i v:V) (ov iv u:Value) (Q:Hp->Prop),Inv X Zt σ H s->RelV o ov->RelV i iv->RelV v u->t o i v H Q->
  wpAny (model X.prog X.w) X.A (setItem ov iv u) (fun _ s'=>∃H',Inv X Zt σ H' s'/\Q H') X.xe s
abbrev TIp:=V->V->Hp->VK->Prop
def PIp(X:Cx)(op:Operator)(t:TIp):Prop:=
 ∀(Zt:List (Addr×Obj)) (s:Shared) (σ:St) (H:Hp) (x y:V) (v u:Value) (Q:VK),Inv X Zt σ H s->RelV x v->RelV y u->t x y H Q->
  wpAny (model X.prog X.w) X.A (inplaceOp op v u) (EP X Zt σ Q) X.xe s
section
variable{X:Cx}{pos:Pos}
def bL(i:Nat):TG:=fun v σ H Q=>Q (σ.set i (some v)) H
theorem bQ{i:Nat}{x:Str}(hN:X.N.Nodup)(hi:X.N[i]?=some x)(hx:Loc X.env.scope x)(hf:X.fn x=true\/X.env.scope.names.lookup x=some .local:=by first|exact .inl rfl|exact .inr rfl|assumption):PG X (.Name x pos) (bL i):=by
 intro Zt s σ H v u Q I r h;exact wpAny_assign_Name (gC I hN hi hx r (fun s' I'=>⟨_,H,I',h⟩) hf)
def mX:TGs:=fun vs σ H Q=>vs=[]/\Q σ H
def cB(t:TG)(u:TGs):TGs:=fun vs σ H Q=>∃v r,vs=v::r/\t v σ H fun ai H'=>u r ai H' Q
theorem aY:PGs X [] mX:=by
 intro Zt s σ H vs us Q I r h;obtain⟨e,h⟩:=h;subst e;cases r;exact assignInOrder_nil ⟨σ,H,I,h⟩
theorem aq{e:Expr}{es:List Expr}{t:TG}{u:TGs}(h1:PG X e t)(h2:PGs X es u)
  (hs:(assignEach (e::es) X.env).map (·.2)=assign e X.env::(assignEach es X.env).map (·.2):=by rfl):PGs X (e::es) (cB t u):=by
 intro Zt s σ H vs us Q I r h;obtain⟨v,vr,e1,h⟩:=h;subst e1
 cases r with
 |cons r rr=>
  rw[hs];refine assignInOrder_cons (thn (h1 Zt s σ H _ _ _ I r h) fun _ s1 ⟨qo,H1,I1,q1⟩=>?_);exact h2 Zt s1 qo H1 _ _ Q I1 rr q1
inductive GTupI(K:Frag)(n:Nat)(t:TGs)(v:V)(σ:St)(H:Hp)(Q:St->Hp->Prop):Prop
 |mk:∀a xs,(v=.ref a)->(SqT K H a xs)->(xs.length=n)->(t xs σ H Q)->GTupI K n t v σ H Q
def lB(K:Frag)(n:Nat)(t:TGs):TG:=fun v σ H Q=>GTupI K n t v σ H Q
theorem bI{es:List Expr}{k:Nat}{t:TGs}{n:Nat}(hc:X.calm=true)(h:PGs X es t)
  (hn:(assignEach es X.env).length=n:=by rfl) (cx:(assignEach es X.env).findIdx? (·.1)=none:=by rfl):PG X (.Tuple es k pos) (lB X.K n t):=by
 intro Zt s σ H v u Q I r hw;obtain⟨a,xs,e1,hq,hl,hw⟩:=hw;subst e1;cases r;obtain⟨Zr,rv,ht,hz⟩:=I.tuple hq;refine assign_Tuple_tuple (I.ok.hd hc) ht (by simp[hn,<-hl,rv.length]) cx fun h' hx=>?_;have I1:Inv X Zt σ H {s with heap:=h'}:=I.kept (t':=s.toks) fun b o e=>hx b o (Nat.ne_of_lt (Heap.lt_size e)) e;exact h Zt _ σ H xs _ Q I1 (by simpa using rv) hw
def Il(to ti:TE)(t:yL):TG:=fun v σ H Q=>to σ H fun o H1=>ti σ H1 fun i H2=>t o i v H2 fun H3=>Q σ H3
theorem jw{o i:Expr}{to ti:TE}{t:yL}(ho:PE X o to)(hi:PE X i ti)(hs:Et X t)
  (ha:∀v,assign (.Subscript o i pos) X.env v=(do
   let ov <-holding [v] (eval o X.env)
   let iv <-holding [v,ov] (eval i X.env)
   standAt pos
   holding [v,ov,iv] (setItem ov iv v)
   release [v,ov,iv] []):=by intro _;rfl):PG X (.Subscript o i pos) (Il to ti t):=by
 intro Zt s σ H v u Q I r h;rw[ha];refine zAx (wpAny_holding (thn (ho Zt s σ H _ I h) fun ov s1 ⟨x,H1,I1,r1,q1⟩=>?_));refine zAx (wpAny_holding (thn (hi Zt s1 σ H1 _ I1 q1) fun iv s2 ⟨y,H2,I2,r2,q2⟩=>?_));refine zAx (wpAny_standAt (zAx (wpAny_holding (thn (hs Zt s2 σ H2 x y v ov iv u _ I2 r1 r2 r q2) fun _ s3 ⟨H3,I3,q3⟩=>?_))));exact wpAny_release ⟨σ,H3,I3,q3⟩
def xG(te:TE)(g:TG):TS:=fun D σ H=>te σ H fun x H1=>g x σ H1 D.nx
theorem cz{tg e:Expr}{te:TE}{g:TG}(he:PE X e te)(hg:PG X tg g)(hs:swapsWithSole [tg] e pos.line X.env=pure false:=by rfl)(hw:swappedStores [tg] e X.env=pure none:=by rfl)
  (h1:(assignEach [tg] X.env).map (·.2)=[assign tg X.env]:=by rfl):PS X (.Assign [tg] e pos) (xG te g):=by
 intro Zt s σ H D I h;refine wpAny_Assign_stores (thn (he Zt s σ H _ I h) fun v s1 ⟨x,H1,I1,r1,q1⟩=>?_) hs hw;rw[h1];exact thn (hg Zt s1 σ H1 x v _ I1 r1 q1) fun _ s2 q=>q
theorem pP{i:Nat}{x:Str}{e:Expr}{te:TE}{pos':Pos}(hN:X.N.Nodup)(hi:X.N[i]?=some x)(hx:Loc X.env.scope x)(he:PE X e te)(hs:swapsWith e (some (.Name x pos')) pos.line X.env=pure false:=by rfl)(hf:X.fn x=true\/X.env.scope.names.lookup x=some .local:=by first|exact .inl rfl|exact .inr rfl|assumption):
  PS X (.Assign [.Name x pos'] e pos) (xG te (bL i)):=by
 intro Zt s σ H D I h;refine wpAny_Assign_Name (thn (he Zt s σ H _ I h) fun v s1 ⟨y,H1,I1,r1,q1⟩=>?_) hs;exact gC I1 hN hi hx r1 (fun s2 I2=>⟨_,H1,I2,q1⟩) hf
def Im(i j:Nat)(ta:TA):TS:=fun D σ H=>ta σ H fun vs H1=>∃v w,vs=[v,w]/\D.nx ((σ.set i (some v)).set j (some w)) H1
theorem pQ{i j:Nat}{x y:Str}{a b:Expr}{ta:TA}{px py pt:Pos}{kt k2 pt2}(hc:X.calm=true)(hN:X.N.Nodup)(hi:X.N[i]?=some x)(hj:X.N[j]?=some y)(bE:i≠j)
  (hx:X.env.scope.names.lookup x=some .local) (hy:X.env.scope.names.lookup y=some .local) (ha:PA X [a,b] ta)
  (hw:swappedStores [.Tuple [.Name x px,.Name y py] kt pt] (.Tuple [a,b] k2 pt2) X.env=pure (some [x,y]))
  (hs:swapsWithSole [.Tuple [.Name x px,.Name y py] kt pt] (.Tuple [a,b] k2 pt2) pos.line X.env=pure false:=by rfl):
  PS X (.Assign [.Tuple [.Name x px,.Name y py] kt pt] (.Tuple [a,b] k2 pt2) pos) (Im i j ta):=by
 intro Zt s σ H D I h;rw[exec_Assign_arm];refine zAx (wpAny_standAt ?_);rw[hs];refine zAx (zB0 ?_);rw[zAu Zx];refine zAx (Tuple_ (thn (ha _ Zt s σ H _ I h) fun us s1 ⟨vs,H1,I1,r1,q1⟩=>?_));obtain⟨v,w,e1,q1⟩:=q1;subst e1
 obtain⟨u1,u2,rfl,rv,eC⟩:∃u1 u2,us=[u1,u2]/\RelV v u1/\RelV w u2:=by
  cases r1 with
  |cons p q=>
   cases q with
   |cons p' q'=>
    cases q';exact⟨_,_,rfl,p,p'⟩
 refine wpAny_newObj_type ?_ (by show 2<=sizeLine;decide);have I2:Inv X Zt σ H1 {s1 with heap:=s1.heap.push {cls:=.type "tuple",data:=.seq [u1,u2].toArray}}:=I1.kept (t':=s1.toks) fun b o e=>zAy _ e;rw[hw];refine zAx (zB0 ?_);show wpAny (model X.prog X.w) X.A (do rule "assign.swapped-stores";let items <-unpackItems (.ref s1.heap.objs.size) 2 none;assignInOrder [fun v=>bindName X.env y v,fun v=>bindName X.env x v] items.reverse;pure Flow.next) _ _ _;refine zAx (wpAny_rule (zAx (unpackItems_tuple (items:=#[u1,u2]) (I.ok.hd hc) (IsTup.new s1.heap _) fun h' jS=>?_)));have I3:=I2.kept (h':=h') (t':=s1.toks) fun b o e=>jS b o (zB6 (zAz e)) e;show wpAny _ _ (assignInOrder [fun v=>bindName X.env y v,fun v=>bindName X.env x v] [u2,u1]>>=fun _=>pure Flow.next) _ _ _;refine zAx (assignInOrder_cons (wpAny_bindName (gC I3 hN hj (.inl hy) eC (fun s2 I4=>?_) (.inr hy))));refine assignInOrder_cons (wpAny_bindName (gC I4 hN hi (.inl hx) rv (fun s3 I5=>assignInOrder_nil (zB0 ?_)) (.inr hx)));rw[List.set_comm _ _ (Ne.symm bE)]at I5;exact⟨_,H1,I5,q1⟩
inductive TAugI(i:Nat)(te:TE)(ti:TIp)(D:Ends)(σ:St)(H:Hp):Prop
 |mk:∀x,(σ[i]?=some (some x))->(te σ H fun y H1=>ti x y H1 fun z H2=>D.nx (σ.set i (some z)) H2)->TAugI i te ti D σ H
def Ip(i:Nat)(te:TE)(ti:TIp):TS:=fun D σ H=>TAugI i te ti D σ H
theorem lC{i:Nat}{x:Str}{e:Expr}{te:TE}{op:Operator}{ti:TIp}{pos':Pos}(hN:X.N.Nodup)(hi:X.N[i]?=some x)(hx:Loc X.env.scope x)(he:PE X e te)(ho:PIp X op ti)(hf:X.fn x=true\/X.env.scope.names.lookup x=some .local:=by first|exact .inl rfl|exact .inr rfl|assumption):
  PS X (.AugAssign (.Name x pos') op e pos) (Ip i te ti):=by
 intro Zt s σ H D I h;obtain⟨v,e1,h⟩:=h;obtain⟨m,hn,hl⟩:=I.loc;have Kz:Vis X.env.scope x:=by rcases hx with k|k;exact .inl k;exact .inr (.inl k)
 obtain⟨u,r,l⟩:=hl i x v hi e1 Kz;refine wpAny_AugAssign_Name ?_
 have go:wpAny (model X.prog X.w) X.A (eval e X.env) (fun w s₂=>wpAny (model X.prog X.w) X.A (inplaceOp op u w) (fun r s₃=>wpAny (model X.prog X.w) X.A (storeName X.env x r) (fun _=>SP X Zt D .next) X.xe s₃) X.xe s₂) X.xe s:=by
  refine thn (he Zt s σ H _ I h) fun w s1 ⟨y,H1,I1,r1,q1⟩=>?_;refine thn (ho Zt s1 σ H1 v y u w _ I1 r r1 q1) fun z s2 ⟨zv,H2,I2,r2,q2⟩=>?_;exact gC I2 hN hi hx r2 (fun s3 I3=>⟨_,H2,I3,q2⟩) hf
 rcases l with⟨hk,hm⟩|⟨hk,c,hc,hcell⟩
 .exact wpAny_loadName_local I.ok.kind hk hn hm go
 .rcases hk with hk|hk
  .exact wpAny_loadName_cell I.ok.kind hk hc hcell go
  .rcases hx with k|k
   .have:X.env.scope.names.lookup x=some .free:=hk;rw[k]at this;cases this
   .have:X.env.scope.names.lookup x=some .free:=hk;rw[k]at this;cases this
def Gf(to ti te:TE)(kc:V->V->Hp->VK->Prop)(yn:TIp)(kg:yL):TS:=fun D σ H=>to σ H fun o H1=>ti σ H1 fun i H2=>kc o i H2 fun x H3=>te σ H3 fun y H4=>yn x y H4 fun z H5=>kg o i z H5 fun H6=>D.nx σ H6
def Gg(X:Cx)(t:V->V->Hp->VK->Prop):Prop:=
 ∀(Zt:List (Addr×Obj)) (s:Shared) (σ:St) (H:Hp) (o i:V) (ov iv:Value) (Q:VK),Inv X Zt σ H s->RelV o ov->RelV i iv->t o i H Q->
  wpAny (model X.prog X.w) X.A (getItem ov iv) (EP X Zt σ Q) X.xe s
theorem pR{o i e:Expr}{to ti te:TE}{kc:V->V->Hp->VK->Prop}{yn:TIp}{kg:yL}{op:Operator}{mS:Pos}(ho:PE X o to)(hi:PE X i ti)(hg:Gg X kc)(he:PE X e te)(hp:PIp X op yn)(hs:Et X kg)
  (ha:∀ov iv new,augStore i ov iv new=(do holding [new,ov,iv] (setItem ov iv new);release [new,ov,iv] [];pure .next):=by intros;rfl):PS X (.AugAssign (.Subscript o i mS) op e pos) (Gf to ti te kc yn kg):=by
 intro Zt s σ H D I h;refine wpAny_AugAssign_SubscriptAny (thn (ho Zt s σ H _ I h) fun ov s1 ⟨x1,H1,I1,r1,q1⟩=>?_) ha;refine thn (hi Zt s1 σ H1 _ I1 q1) fun iv s2 ⟨x2,H2,I2,r2,q2⟩=>?_;refine thn (hg Zt s2 σ H2 x1 x2 ov iv _ I2 r1 r2 q2) fun old s3 ⟨x3,H3,I3,r3,q3⟩=>?_;refine thn (he Zt s3 σ H3 _ I3 q3) fun v s4 ⟨x4,H4,I4,r4,q4⟩=>?_;refine thn (hp Zt s4 σ H4 x3 x4 old v _ I4 r3 r4 q4) fun new s5 ⟨x5,H5,I5,r5,q5⟩=>?_
 exact thn (hs Zt s5 σ H5 x1 x2 x5 ov iv new _ I5 r1 r2 r5 q5) fun _ s6 ⟨H6,I6,q6⟩=>⟨σ,H6,I6,q6⟩
def ipI(f:Int->Int->Int):TIp:=fun x y H Q=>∃i j,x=.int i/\y=.int j/\Q (.int (f i j)) H
theorem yM:PIp X .Add (ipI fun i j=>i+j):=by
 intro Zt s σ H x y v u Q I r1 r2 h;obtain⟨i,j,e1,e2,q⟩:=h;subst e1;subst e2;obtain⟨t,rfl⟩:=r1;obtain⟨t',rfl⟩:=r2;exact iadd_int ⟨.int _,H,I.tok _,⟨_,rfl⟩,q⟩
theorem yN:PIp X .Sub (ipI fun i j=>i-j):=by
 intro Zt s σ H x y v u Q I r1 r2 h;obtain⟨i,j,e1,e2,q⟩:=h;subst e1;subst e2;obtain⟨t,rfl⟩:=r1;obtain⟨t',rfl⟩:=r2;exact isub_int ⟨.int _,H,I.tok _,⟨_,rfl⟩,q⟩
end
section
variable{X:Cx}{pos:Pos}
def Eu(c:TT)(tb:TS):TS:=fun D σ H=>∃W:Nat->St->Hp->Prop,(∃m,W m σ H)/\∀m σ H,W m σ H->
 c σ H fun b H1=>if b=true then ∃N:St->Hp->Prop,(∀ai H',N ai H'->∃m',m'<m/\W m' ai H')/\tb {D with nx:=N,ct:=N,bk:=D.nx} σ H1 else D.nx σ H1
theorem yO{c:Expr}{body:List Stmt}{tc:TT}{tb:TS}(hp:PassesOwn (model X.prog X.w) X.A X.env X.xe)(hc:PT X c tc)(hb:PSs X body tb):PS X (.While c body [] pos) (Eu tc tb):=by
 intro Zt s σ H D I h;obtain⟨W,⟨m0,w0⟩,turn⟩:=h;refine wpAny_While (codeAny_whileLoop (fun n s'=>∃ai H',Inv X Zt ai H' s'/\W n ai H') ?_ m0 ⟨σ,H,I,w0⟩);rintro n s1 ⟨qo,H1,I1,w1⟩;refine wpAny_passesOwn hp (thn (hc Zt s1 qo H1 _ I1 (turn n qo H1 w1)) fun b s2 ⟨H2,I2,q2⟩=>?_)
 cases b with
 |true=>
  obtain⟨N,hN,q2⟩:=q2;rw[zAv rfl];refine wpAny_passesOwn hp (thn (hb Zt s2 qo H2 _ I2 q2) fun f s3 q3=>?_)
  cases f with
  |next=>
   obtain⟨eI,H3,I3,n3⟩:=q3;obtain⟨m',hm,w3⟩:=hN eI H3 n3;exact⟨m',hm,eI,H3,I3,w3⟩
  |cont=>
   obtain⟨eI,H3,I3,n3⟩:=q3;obtain⟨m',hm,w3⟩:=hN eI H3 n3;exact⟨m',hm,eI,H3,I3,w3⟩
  |brk=>exact q3
  |ret v=>exact q3
 |false=>
  rw[zAu zAg];exact wpAny_execs_nil ⟨qo,H2,I2,q2⟩
end
structure It where
 go:Nat->Hp->Prop
 yld:Nat->Hp->V->Hp->Prop
 stop:Nat->Hp->Prop
def pU(X:Cx)(Zt:List (Addr×Obj))(H:Hp)(b:Addr):Prop:=
 H b=none/\b≠X.env.locals/\b∉X.fs/\(b∈X.ex\/X.s₀.heap.objs.size<=b)/\(∀x c,X.env.cells.lookup x=some c->c≠b)/\∀p∈X.pn++Zt,p.1≠b
theorem Inv.fpOk{X:Cx}{Zt:List (Addr×Obj)}{σ:St}{H H':Hp}{s:Shared}{b:Addr}(I:Inv X Zt σ H s)(hb:s.heap.objs.size<=b)(hn:H' b=none):pU X Zt H' b:=by
 refine⟨hn,Nat.ne_of_gt (zB2 I.lt hb),I.nofs hb,.inr (Nat.le_trans I.sz hb),fun x c e z=>?_,fun p hp z=>?_⟩
 .obtain⟨v,q⟩:=I.cell x c e;exact absurd (zB2 q.lt (by rw[z];exact hb)) (Nat.lt_irrefl _)
 .exact absurd (zB2 (zAz (I.pin p hp).1) (by rw[z];exact hb)) (Nat.lt_irrefl _)
structure Turn(P:Program)(w:World)(K:Frag)(tg:Expr)(J:It)(fp:List Addr)(it:Addr)(tn:Nat->Heap->Prop):Prop where
 mem:it∈fp
 obj:∀i h,tn i h->∀b∈fp,∃o,h.get? b=some o/\∀v,o.data≠.cell v
 keep:∀i h h',tn i h->(∀b∈fp,∀o,h.get? b=some o->h'.get? b=some o)->tn i h'
 item:∀(X:Cx),X.prog=P->X.w=w->X.K=K->X.calm=true->∀(i:Nat) (Zt:List (Addr×Obj)) (s:Shared) (σ:St) (H:Hp) (E:Value->Shared->Prop),Inv X Zt σ H s->(∀b∈fp,pU X Zt H b)->tn i s.heap->J.go i H->
  wpAny (model P w) X.A (pyNext (.ref it)) (fun r s1=>∃u,r=some u /\
   wpAny (model P w) X.A (letOwnedTupleGo tg (.ref it) u) (fun _ s2=>∃x H',Inv X Zt σ H' s2/\RelV x u/\J.yld i H x H'/\tn (i+1) s2.heap/\∀b∈fp,H' b=none) E s1) E s
 done:∀(X:Cx),X.prog=P->X.w=w->X.K=K->X.calm=true->∀(i:Nat) (Zt:List (Addr×Obj)) (s:Shared) (σ:St) (H:Hp) (E:Value->Shared->Prop),Inv X Zt σ H s->(∀b∈fp,pU X Zt H b)->tn i s.heap->J.stop i H->
  wpAny (model P w) X.A (pyNext (.ref it)) (fun r s1=>r=none/\Inv X Zt σ H s1) E s
 self:∀(A:Around) (i:Nat) (s:Shared) (Q:Value->Shared->Prop) (E:Value->Shared->Prop),tn i s.heap->Q (.ref it) s->wpAny (model P w) A (pyIter (.ref it)) Q E s
abbrev TI:=St->Hp->(It->Hp->Prop)->Prop
def PIE(X:Cx)(Zt:List (Addr×Obj))(σ:St)(tg:Expr)(R:It->Hp->Prop)(yy:Value)(s2:Shared):Prop:=
 ∃(it:Addr) (fp:List Addr) (tn:Nat->Heap->Prop) (J:It) (H':Hp),yy=.ref it/\Inv X Zt σ H' s2/\Turn X.prog X.w X.K tg J fp it tn/\tn 0 s2.heap/\(∀b∈fp,pU X Zt H' b)/\R J H'
def PI(X:Cx)(tg iter:Expr)(wi:TI):Prop:=
 ∀(Zt:List (Addr×Obj)) (s:Shared) (σ:St) (H:Hp) (R:It->Hp->Prop),Inv X Zt σ H s->wi σ H R->
  wpAny (model X.prog X.w) X.A (eval iter X.env) (fun v s1=>wpAny (model X.prog X.w) X.A (pyIter v) (PIE X Zt σ tg R) X.xe s1) X.xe s
theorem yP{M:Model}{A:Around}{E:Value->Shared->Prop}{s:Shared}{tg:Expr}{it:Addr}{u:Value}{o:Obj}{n:String}{vs:Array Value}{Q:Unit->Shared->Prop}(ho:s.heap.get? it=some o)(hc:o.cls=.type n)(hd:o.data=.fields vs)
  (hn:["enumerate","zip","dict_itemiterator","dict_reverseitemiterator","odict_iterator","itertools.zip_longest","itertools.pairwise"].contains n=false) (hQ:Q () s):wpAny M A (letOwnedTupleGo tg (.ref it) u) Q E s:=by
 unfold letOwnedTupleGo
 cases tg<;>first
  |exact zB0 hQ
  | (cases u<;>first
    |exact zB0 hQ
    | (refine zAx (wpAny_load ho ?_)
       rw[hc,hd];show wpAny M A (if(["enumerate","zip","dict_itemiterator","dict_reverseitemiterator","odict_iterator","itertools.zip_longest","itertools.pairwise"].contains n&&vs[0]?==some (rawInt _))=true then _ else _) Q E s;rw[zAu (by intro h;rw[hn,Bool.false_and]at h;cases h)]
       exact zB0 hQ))
def Itl(K:Frag)(a:Addr):It:=
 ⟨fun i H=>∃xs x,SqL K H a xs/\xs[i]?=some x,fun i H x H'=>H'=H/\∀xs,SqL K H a xs->xs[i]?=some x,fun i H=>∃xs,SqL K H a xs/\xs.length<=i⟩
def Itt(K:Frag)(a:Addr):It:=
 ⟨fun i H=>∃xs x,SqT K H a xs/\xs[i]?=some x,fun i H x H'=>H'=H/\∀xs,SqT K H a xs->xs[i]?=some x,fun i H=>∃xs,SqT K H a xs/\xs.length<=i⟩
def Itr(lo:Int)(n:Nat):It:=⟨fun i _=>i<n,fun i H x H'=>H'=H/\x=.int (lo+i),fun i _=>n<=i⟩
theorem xH{P:Program}{w:World}{K:Frag}{tg:Expr}(a it:Addr):Turn P w K tg (Itl K a) [it] it (fun i h=>h.IsListIter it a i) where
 mem:=by simp
 obj:=fun i h st b hb=>by
  have e:b=it:=by simpa using hb
  subst e;obtain⟨o,e,c,d⟩:=st;exact⟨o,e,fun v z=>by rw[d]at z;cases z⟩
 keep:=fun i h h' st k=>st.at fun o e=>k it Zy o e
 item:=by
  intro X hP hw hK hc i Zt s σ H E I hf st hg;subst hP hw hK;obtain⟨xs,x,hq,hx⟩:=hg;obtain⟨Zr,rv,p,hz⟩:=I.list hq;obtain⟨u,hu,ru⟩:=rv.get hx;obtain⟨f0,f1,f2,f3,f4,f5⟩:=hf it Zy;refine wpAny_pyNext_list_item st p.isList (x:=u) (by simpa using hu) fun h' Zq sb=>?_;have I1:Inv X Zt σ H {s with heap:=h'}:=I.turned (t':=s.toks) (fun b o hb e=>(sb.2 b hb).trans e) f0 f1 f3 f4 f5;obtain⟨o,e,c,d⟩:=id Zq;exact⟨u,rfl,yP (s:={s with heap:=h'}) e c d Zx ⟨x,H,I1,ru,⟨rfl,fun ys hy=>by rw[I.list_inj hy hq];exact hx⟩,Zq,fun b hb=>(hf b hb).1⟩⟩
 done:=by
  intro X hP hw hK hc i Zt s σ H E I hf st hg;subst hP hw hK;obtain⟨xs,hq,hx⟩:=hg;obtain⟨Zr,rv,p,hz⟩:=I.list hq;obtain⟨f0,f1,f2,f3,f4,f5⟩:=hf it Zy;have hl:=rv.length
  exact wpAny_pyNext_list_end (I.ok.hd hc) st p.isList (by simp;lia) fun h' eb=>⟨rfl,I.turned (t':=s.toks) (fun b o hb e=>eb b o hb e) f0 f1 f3 f4 f5⟩
 self:=fun _ _ _ _ _ st h=>wpAny_pyIter_listiter st h
theorem ur{P:Program}{w:World}{K:Frag}{tg:Expr}(a it:Addr):Turn P w K tg (Itt K a) [it] it (fun i h=>h.IsTupleIter it a i) where
 mem:=by simp
 obj:=fun i h st b hb=>by
  have e:b=it:=by simpa using hb
  subst e;obtain⟨o,e,c,d⟩:=st;exact⟨o,e,fun v z=>by rw[d]at z;cases z⟩
 keep:=fun i h h' st k=>st.at fun o e=>k it Zy o e
 item:=by
  intro X hP hw hK hc i Zt s σ H E I hf st hg;subst hP hw hK;obtain⟨xs,x,hq,hx⟩:=hg;obtain⟨Zr,rv,p,hz⟩:=I.tuple hq;obtain⟨u,hu,ru⟩:=rv.get hx;obtain⟨f0,f1,f2,f3,f4,f5⟩:=hf it Zy;refine wpAny_pyNext_tuple_item st (show s.heap.IsTuple a Zr.toArray from p) (x:=u) (by simpa using hu) fun h' Zq sb=>?_;have I1:Inv X Zt σ H {s with heap:=h'}:=I.turned (t':=s.toks) (fun b o hb e=>(sb.2 b hb).trans e) f0 f1 f3 f4 f5;obtain⟨o,e,c,d⟩:=id Zq;exact⟨u,rfl,yP (s:={s with heap:=h'}) e c d Zx ⟨x,H,I1,ru,⟨rfl,fun ys hy=>by rw[I.tuple_inj hy hq];exact hx⟩,Zq,fun b hb=>(hf b hb).1⟩⟩
 done:=by
  intro X hP hw hK hc i Zt s σ H E I hf st hg;subst hP hw hK;obtain⟨xs,hq,hx⟩:=hg;obtain⟨Zr,rv,p,hz⟩:=I.tuple hq;obtain⟨f0,f1,f2,f3,f4,f5⟩:=hf it Zy;have hl:=rv.length
  exact wpAny_pyNext_tuple_end (I.ok.hd hc) st (show s.heap.IsTuple a Zr.toArray from p) (by simp;lia) fun h' eb=>⟨rfl,I.turned (t':=s.toks) (fun b o hb e=>eb b o hb e) f0 f1 f3 f4 f5⟩
 self:=fun _ _ _ _ _ st h=>wpAny_pyIter_tupleiter st h
theorem ut{P:Program}{w:World}{K:Frag}{tg:Expr}(it:Addr)(lo:Int)(n:Nat):Turn P w K tg (Itr lo n) [it] it (fun i h=>IsRangeIter h it (lo+(i:Nat)*1) ((n:Int)-(i:Nat)) 1) where
 mem:=by simp
 obj:=fun i h st b hb=>by
  have e:b=it:=by simpa using hb
  subst e
  exact⟨_,st,fun v z=>by
   have z':Data.fields _=Data.cell v:=z
   cases z'⟩
 keep:=fun i h h' st k=>k it Zy _ st
 item:=by
  intro X hP hw hK hc i Zt s σ H E I hf st hg;subst hP hw hK;obtain⟨f0,f1,f2,f3,f4,f5⟩:=hf it Zy;have W:=Walks.range (prog:=X.prog) (w:=X.w) (I.ok.hd hc) it lo 1 n;refine W.item i s _ _ hg st fun v h' tk hv Zq kk=>?_;obtain⟨t,rfl⟩:=hv;have I1:Inv X Zt σ H {s with heap:=h',toks:=tk}:=I.turned (fun b o hb e=>kk b o (by simpa using hb) e) f0 f1 f3 f4 f5;refine⟨_,rfl,yP (s:={s with heap:=h',toks:=tk}) (n:="range_iterator") Zq rfl rfl Zx ⟨.int (lo+i),H,I1,⟨t,?_⟩,⟨rfl,rfl⟩,Zq,fun b hb=>(hf b hb).1⟩⟩;rw[Int.mul_one]
 done:=by
  intro X hP hw hK hc i Zt s σ H E I hf st hg;subst hP hw hK;obtain⟨f0,f1,f2,f3,f4,f5⟩:=hf it Zy
  exact wpAny_pyNext_range_end (I.ok.hd hc) st (by have:n<=i:=hg;lia) fun h' eb=>⟨rfl,I.turned (t':=s.toks) (fun b o hb e=>eb b o hb e) f0 f1 f3 f4 f5⟩
 self:=fun _ _ _ _ _ st h=>wpAny_pyIter_rangeiter st h
section
variable{X:Cx}{tg:Expr}
def Gh(K:Frag)(tl:TE):TI:=fun σ H R=>tl σ H fun x H1=>∃a,x=.ref a/\(∃xs,SqL K H1 a xs)/\R (Itl K a) H1
def Gi(K:Frag)(tl:TE):TI:=fun σ H R=>tl σ H fun x H1=>∃a,x=.ref a/\(∃xs,SqT K H1 a xs)/\R (Itt K a) H1
theorem ie{l:Expr}{tl:TE}(hl:PE X l tl):PI X tg l (Gh X.K tl):=by
 intro Zt s σ H R I h;refine thn (hl Zt s σ H _ I h) fun v s1 ⟨x,H1,I1,r1,q1⟩=>?_;obtain⟨a,e,⟨xs,hq⟩,q⟩:=q1;subst e;cases r1;obtain⟨Zr,rv,p,hz⟩:=I1.list hq;refine wpAny_pyIter_list p.isList ?_;refine⟨s1.heap.objs.size,[s1.heap.objs.size],_,_,H1,rfl,I1.kept (t':=s1.toks) fun b o e=>Heap.get?_push_of_some _ e,xH a _,⟨_,Heap.get?_push_size _ rfl,rfl,rfl⟩,fun b hb=>?_,q⟩;have e:b=s1.heap.objs.size:=by simpa using hb
 subst e;exact I1.fpOk (zA3 _) (I1.hok.fresh (zA3 _))
theorem dD{l:Expr}{tl:TE}(hl:PE X l tl):PI X tg l (Gi X.K tl):=by
 intro Zt s σ H R I h;refine thn (hl Zt s σ H _ I h) fun v s1 ⟨x,H1,I1,r1,q1⟩=>?_;obtain⟨a,e,⟨xs,hq⟩,q⟩:=q1;subst e;cases r1;obtain⟨Zr,rv,p,hz⟩:=I1.tuple hq;refine wpAny_pyIter_tuple (show s1.heap.IsTuple a Zr.toArray from p) ?_;refine⟨s1.heap.objs.size,[s1.heap.objs.size],_,_,H1,rfl,I1.kept (t':=s1.toks) fun b o e=>Heap.get?_push_of_some _ e,ur a _,⟨_,Heap.get?_push_size _ rfl,rfl,rfl⟩,fun b hb=>?_,q⟩;have e:b=s1.heap.objs.size:=by simpa using hb
 subst e;exact I1.fpOk (zA3 _) (I1.hok.fresh (zA3 _))
theorem rH{Zt:List (Addr×Obj)}{σ:St}{H:Hp}{s:Shared}{R:It->Hp->Prop}{E:Value->Shared->Prop}{lo hi:Int}{t u v:Tok}{tk:Nat}(I:Inv X Zt σ H s)(h1:-(2^62)<=lo)(h2:lo<2^62)(h3:-(2^62)<=hi)(h4:hi<2^62)
  (q:R (Itr lo (hi-lo).toNat) H):wpAny (model X.prog X.w) X.A (pyIter (.ref s.heap.objs.size)) (PIE X Zt σ tg R) E {s with heap:=s.heap.push {cls:=.type "range",data:=.fields #[.int lo t,.int hi u,.int 1 v]},toks:=tk}:=by
 refine wpAny_pyIter_range (IsRange.new ..) (small_one h1 h2 h3 h4) ?_;have I1:Inv X Zt σ H {s with heap:=s.heap.push {cls:=.type "range",data:=.fields #[.int lo t,.int hi u,.int 1 v]},toks:=tk}:=I.kept fun b o e=>zAy _ e
 refine⟨(s.heap.push {cls:=.type "range",data:=.fields #[.int lo t,.int hi u,.int 1 v]}).objs.size,[(s.heap.push {cls:=.type "range",data:=.fields #[.int lo t,.int hi u,.int 1 v]}).objs.size],_,_,H,rfl,
  I1.kept (t':=tk) fun b o e=>zAy _ e,ut _ lo (hi-lo).toNat,?_,fun b hb=>?_,q⟩
 .have e1:lo+((0:Nat):Int)*1=lo:=by simp
  have e2:(((hi-lo).toNat:Nat):Int)-((0:Nat):Int)=Builtin.Range.rangeSize lo hi 1:=by rw[rangeSize_one];split<;>lia
  show IsRangeIter _ _ (lo+((0:Nat):Int)*1) ((((hi-lo).toNat:Nat):Int)-((0:Nat):Int)) 1;rw[e1,e2];exact zB3 _ rfl
 .have e:b=(s.heap.push {cls:=.type "range",data:=.fields #[.int lo t,.int hi u,.int 1 v]}).objs.size:=by simpa using hb
  subst e;exact I1.fpOk (zA3 _) (I1.hok.fresh (zA3 _))
def Gj(ta:TA):TI:=fun σ H R=>ta σ H fun vs H1=>∃j:Int,vs=[.int j]/\-(2^62)<=j/\j<2^62/\R (Itr 0 j.toNat) H1
def Gk(ta:TA):TI:=fun σ H R=>ta σ H fun vs H1=>∃i j:Int,vs=[.int i,.int j]/\(-(2^62)<=i/\i<2^62/\-(2^62)<=j/\j<2^62)/\R (Itr i (j-i).toNat) H1
theorem di{a:Expr}{ta:TA}{p pos:Pos}(hg:Gl X "range")(hm:X.mg "range"=none)(ha:PA X [a] ta)(hs:starEach [a] X.env=[(false,eval a X.env)]:=by rfl):PI X tg (.Call (.Name "range" p) [a] [] pos) (Gj ta):=by
 intro Zt s σ H R I h;refine Call_ (iI I hg hm boot_range (PyProof.Rows.callWith_type1 (thn (ha pos Zt s σ H _ I h) fun us s1 ⟨vs,H1,I1,r1,q1⟩=>?_) hs rfl));obtain⟨j,e,q1,q2,q⟩:=q1;subst e
 cases r1 with
 |cons r rr=>
  cases rr;obtain⟨t,rfl⟩:=r;exact call_range_1 (rH I1 Zz Zz q1 q2 (by simpa using q))
theorem ig{a b:Expr}{ta:TA}{p pos:Pos}(hg:Gl X "range")(hm:X.mg "range"=none)(ha:PA X [a,b] ta)(hs:starEach [a,b] X.env=[(false,eval a X.env),(false,eval b X.env)]:=by rfl)(gy:starEach [b] X.env=[(false,eval b X.env)]:=by rfl):
  PI X tg (.Call (.Name "range" p) [a,b] [] pos) (Gk ta):=by
 intro Zt s σ H R I h;refine Call_ (iI I hg hm boot_range (PyProof.Rows.callWith_type1 (thn (ha pos Zt s σ H _ I h) fun us s1 ⟨vs,H1,I1,r1,q1⟩=>?_) (by rw[hs,gy]) (by rw[gy];rfl)));obtain⟨i,j,e,⟨q1,q2,q3,q4⟩,q⟩:=q1;subst e
 cases r1 with
 |cons r rr=>
  cases rr with
  |cons r' rr=>
   cases rr;obtain⟨t,rfl⟩:=r;obtain⟨t',rfl⟩:=r';exact call_range_2 (rH I1 q1 q2 q3 q4 q)
def Ir(wi:TI)(g:TG)(tb:TS):TS:=fun D σ H=>wi σ H fun J H1=>∃W:Nat->Nat->St->Hp->Prop,(∃m,W 0 m σ H1)/\∀i m σ H,W i m σ H->
 (J.stop i H/\D.nx σ H)\/(J.go i H/\∃N:St->Hp->Prop,(∀ai H',N ai H'->∃m',m'<m/\W (i+1) m' ai H')/\∀x H',J.yld i H x H'->g x σ H' fun aE H2=>tb {D with nx:=N,ct:=N,bk:=D.nx} aE H2)
def lD(fp:List Addr)(h:Heap):List (Addr×Obj):=fp.filterMap fun b=>(h.get? b).map fun o=>(b,o)
theorem fV{fp:List Addr}{h:Heap}{b:Addr}{o:Obj}(hb:b∈fp)(e:h.get? b=some o):(b,o)∈lD fp h:=List.mem_filterMap.mpr ⟨b,hb,by rw[e];rfl⟩
theorem xJ{fp:List Addr}{h:Heap}{p:Addr×Obj}(hp:p∈lD fp h):p.1∈fp/\h.get? p.1=some p.2:=by
 obtain⟨b,hb,e⟩:=List.mem_filterMap.mp hp
 cases q:h.get? b with
 |none=>rw[q]at e;cases e
 |some o=>
  rw[q]at e;have e':(b,o)=p:=zAl e;subst e';exact⟨hb,q⟩
theorem Inv.pinned{Zt:List (Addr×Obj)}{σ:St}{H:Hp}{s:Shared}{fp:List Addr}(I:Inv X Zt σ H s)(hf:∀b∈fp,pU X Zt H b)(ho:∀b∈fp,∃o,s.heap.get? b=some o/\∀v,o.data≠.cell v):Inv X (Zt++lD fp s.heap) σ H s:=
 I.pins_of fun p hp=>(zA6.mp hp).elim (fun z=>I.pin p (zBd _ z)) fun z=>by
  obtain⟨hb,e⟩:=xJ z;obtain⟨f0,f1,f2,_⟩:=hf p.1 hb;obtain⟨o,e',d⟩:=ho p.1 hb;rw[e]at e';cases e';exact⟨e,f0,f1,f2,d⟩
theorem Inv.unpinned{Zt pl:List (Addr×Obj)}{σ:St}{H:Hp}{s:Shared}(I:Inv X (Zt++pl) σ H s):Inv X Zt σ H s:=I.pins_of fun p hp=>I.pin p (zBd _ (List.mem_append_left _ hp))
theorem cP{iter:Expr}{body:List Stmt}{wi:TI}{g:TG}{tb:TS}{pos:Pos}(hp:PassesOwn (model X.prog X.w) X.A X.env X.xe)(hc:X.calm=true)(hi:PI X tg iter wi)(hg:PG X tg g)(hb:PSs X body tb)
  (hs:∀x,foldedSetIterable iter X.env x=pure x:=by intro _;rfl):PS X (.For tg iter body [] pos) (Ir wi g tb):=by
 intro Zt s σ H D I h;refine wpAny_For (thn (hi Zt s σ H _ I h) fun v s1 h1=>thn h1 fun yy s2 h2=>?_) hs;obtain⟨it,fp,tn,J,H2,e,I2,T,st2,f2,W,⟨m0,w0⟩,turn⟩:=h2;subst e
 have mT:∀{H':Hp},(∀b∈fp,H' b=none)->∀b∈fp,pU X Zt H' b:=fun hn b hb=>⟨hn b hb,(f2 b hb).2⟩
 refine codeAny_forLoop_any (fun n s'=>∃i ai H',Inv X Zt ai H' s'/\tn i s'.heap/\(∀b∈fp,H' b=none)/\W i n ai H') ?_ m0 ⟨0,σ,H2,I2,st2,fun b hb=>(f2 b hb).1,w0⟩;rintro n s3 ⟨i,eI,H3,I3,fz,sL,w3⟩;rcases turn i n eI H3 w3 with⟨stop,qn⟩|⟨go,N,hN,step⟩
 .refine wpAny_passesOwn hp (thn (T.done X rfl rfl rfl hc i Zt s3 eI H3 X.xe I3 (mT sL) fz stop) fun r s4 ⟨hr,I4⟩=>?_);subst hr;exact wpAny_execs_nil ⟨eI,H3,I4,qn⟩
 .refine wpAny_passesOwn hp (thn (T.item X rfl rfl rfl hc i Zt s3 eI H3 X.xe I3 (mT sL) fz go) fun r s4 ⟨u,hr,h4⟩=>?_);subst hr;refine wpAny_passesOwn hp (thn h4 fun _ s5 ⟨x,H5,I5,r5,y5,nc,AS⟩=>?_);have AU:=I5.pinned (mT AS) (T.obj _ _ nc);refine wpAny_passesOwn hp (thn (hg _ s5 eI H5 x u _ AU r5 (step x H5 y5)) fun _ s6 ⟨ki,H6,I6,q6⟩=>?_);refine wpAny_passesOwn hp (thn (hb _ s6 ki H6 _ I6 q6) fun f s7 q7=>?_)
  have again:∀{gT:St} {H7:Hp},Inv X (Zt++lD fp s5.heap) gT H7 s7->N gT H7->∃m,m<n/\∃i ai H',Inv X Zt ai H' s7/\tn i s7.heap/\(∀b∈fp,H' b=none)/\W i m ai H':=fun{gT H7} I7 n7=>by
   obtain⟨m',hm,w7⟩:=hN gT H7 n7;refine⟨m',hm,i+1,gT,H7,I7.unpinned,T.keep _ _ _ nc fun b hb o e=>(I7.pin (b,o) (zBd _ (zBd _ (fV hb e)))).1,fun b hb=>?_,w7⟩;obtain⟨o,e,d⟩:=T.obj _ _ nc b hb;exact(I7.pin (b,o) (zBd _ (zBd _ (fV hb e)))).2.1
  cases f with
  |next=>obtain⟨gT,H7,I7,n7⟩:=q7;exact again I7 n7
  |cont=>obtain⟨gT,H7,I7,n7⟩:=q7;exact again I7 n7
  |brk=>obtain⟨gT,H7,I7,q7⟩:=q7;exact⟨gT,H7,I7.unpinned,q7⟩
  |ret v=>obtain⟨x7,gT,H7,I7,r7,q7⟩:=q7;exact⟨x7,gT,H7,I7.unpinned,r7,q7⟩
end
theorem rJ{K:Frag}{a:Addr}{xs:List V}{g:TG}{tb:TS}{D:Ends}{σ:St}{H:Hp}(Pv:Nat->St->Hp->Prop)(h0:Pv 0 σ H)(hl:∀i σ H,i<=xs.length->Pv i σ H->SqL K H a xs)
  (hs:∀i x σ H,xs[i]?=some x->Pv i σ H->g x σ H fun aE H2=>tb {D with nx:=Pv (i+1),ct:=Pv (i+1),bk:=D.nx} aE H2) (hd:∀σ H,Pv xs.length σ H->D.nx σ H):
  ∃W:Nat->Nat->St->Hp->Prop,(∃m,W 0 m σ H)/\∀i m σ H,W i m σ H->
   ((Itl K a).stop i H/\D.nx σ H)\/((Itl K a).go i H/\∃N:St->Hp->Prop,(∀ai H',N ai H'->∃m',m'<m/\W (i+1) m' ai H')/\∀x H',(Itl K a).yld i H x H'->g x σ H' fun aE H2=>tb {D with nx:=N,ct:=N,bk:=D.nx} aE H2):=by
 refine⟨fun i m σ H=>m=xs.length-i/\i<=xs.length/\Pv i σ H,⟨xs.length,by simp,Nat.zero_le _,h0⟩,?_⟩;rintro i m σ H ⟨rfl,hi,p⟩;have q:=hl i σ H hi p;by_cases aI:i<xs.length
 .refine .inr ⟨⟨xs,xs[i],q,by simp[aI]⟩,Pv (i+1),fun ai H' p'=>⟨xs.length-(i+1),Zz,rfl,aI,p'⟩,fun x H' y=>?_⟩;obtain⟨e,y⟩:=y;subst e;exact hs i x σ _ (y xs q) p
 .have e:i=xs.length:=Zz
  subst e;exact .inl ⟨⟨xs,q,zA3 _⟩,hd σ H p⟩
theorem Bv{K:Frag}{a:Addr}{xs:List V}{g:TG}{tb:TS}{D:Ends}{σ:St}{H:Hp}(Pv:Nat->St->Hp->Prop)(h0:Pv 0 σ H)(hl:∀i σ H,i<=xs.length->Pv i σ H->SqT K H a xs)
  (hs:∀i x σ H,xs[i]?=some x->Pv i σ H->g x σ H fun aE H2=>tb {D with nx:=Pv (i+1),ct:=Pv (i+1),bk:=D.nx} aE H2) (hd:∀σ H,Pv xs.length σ H->D.nx σ H):
  ∃W:Nat->Nat->St->Hp->Prop,(∃m,W 0 m σ H)/\∀i m σ H,W i m σ H->
   ((Itt K a).stop i H/\D.nx σ H)\/((Itt K a).go i H/\∃N:St->Hp->Prop,(∀ai H',N ai H'->∃m',m'<m/\W (i+1) m' ai H')/\∀x H',(Itt K a).yld i H x H'->g x σ H' fun aE H2=>tb {D with nx:=N,ct:=N,bk:=D.nx} aE H2):=by
 refine⟨fun i m σ H=>m=xs.length-i/\i<=xs.length/\Pv i σ H,⟨xs.length,by simp,Nat.zero_le _,h0⟩,?_⟩;rintro i m σ H ⟨rfl,hi,p⟩;have q:=hl i σ H hi p;by_cases aI:i<xs.length
 .refine .inr ⟨⟨xs,xs[i],q,by simp[aI]⟩,Pv (i+1),fun ai H' p'=>⟨xs.length-(i+1),Zz,rfl,aI,p'⟩,fun x H' y=>?_⟩;obtain⟨e,y⟩:=y;subst e;exact hs i x σ _ (y xs q) p
 .have e:i=xs.length:=Zz
  subst e;exact .inl ⟨⟨xs,q,zA3 _⟩,hd σ H p⟩
theorem cT{lo:Int}{n:Nat}{g:TG}{tb:TS}{D:Ends}{σ:St}{H:Hp}(Pv:Nat->St->Hp->Prop)(h0:Pv 0 σ H)
  (hs:∀i σ H,i<n->Pv i σ H->g (.int (lo+i)) σ H fun aE H2=>tb {D with nx:=Pv (i+1),ct:=Pv (i+1),bk:=D.nx} aE H2) (hd:∀σ H,Pv n σ H->D.nx σ H):
  ∃W:Nat->Nat->St->Hp->Prop,(∃m,W 0 m σ H)/\∀i m σ H,W i m σ H->
   ((Itr lo n).stop i H/\D.nx σ H)\/((Itr lo n).go i H/\∃N:St->Hp->Prop,(∀ai H',N ai H'->∃m',m'<m/\W (i+1) m' ai H')/\∀x H',(Itr lo n).yld i H x H'->g x σ H' fun aE H2=>tb {D with nx:=N,ct:=N,bk:=D.nx} aE H2):=by
 refine⟨fun i m σ H=>m=n-i/\i<=n/\Pv i σ H,⟨n,by simp,Nat.zero_le _,h0⟩,?_⟩;rintro i m σ H ⟨rfl,hi,p⟩;by_cases aI:i<n
 .refine .inr ⟨aI,Pv (i+1),fun ai H' p'=>⟨n-(i+1),Zz,rfl,aI,p'⟩,fun x H' y=>?_⟩;obtain⟨e,y⟩:=y;subst e y;exact hs i σ _ aI p
 .have e:i=n:=Zz
  subst e;exact .inl ⟨zA3 _,hd σ H p⟩
abbrev R2:=V->V->Hp->VK->Prop
def OpR(X:Cx)(f:Value->Value->Sem Value)(r:R2):Prop:=
 ∀(Zt:List (Addr×Obj)) (s:Shared) (σ:St) (H:Hp) (x y:V) (v u:Value) (Q:VK),Inv X Zt σ H s->RelV x v->RelV y u->r x y H Q->
  wpAny (model X.prog X.w) X.A (f v u) (EP X Zt σ Q) X.xe s
def UnR(X:Cx)(f:Value->Sem Value)(r:V->Hp->VK->Prop):Prop:=
 ∀(Zt:List (Addr×Obj)) (s:Shared) (σ:St) (H:Hp) (x:V) (v:Value) (Q:VK),Inv X Zt σ H s->RelV x v->r x H Q->
  wpAny (model X.prog X.w) X.A (f v) (EP X Zt σ Q) X.xe s
def dG(X:Cx)(f:Value)(r:List V->Hp->VK->Prop):Prop:=
 ∀(Zt:List (Addr×Obj)) (s:Shared) (σ:St) (H:Hp) (xs:List V) (us:List Value) (Q:VK),Inv X Zt σ H s->Vals xs us->r xs H Q->
  wpAny (model X.prog X.w) X.A (call f us) (EP X Zt σ Q) X.xe s
def Iu(X:Cx)(r:V->Hp->(Bool->Hp->Prop)->Prop):Prop:=
 ∀(Zt:List (Addr×Obj)) (s:Shared) (σ:St) (H:Hp) (x:V) (v:Value) (Q:Bool->Hp->Prop),Inv X Zt σ H s->RelV x v->r x H Q->
  wpAny (model X.prog X.w) X.A (truthy v) (TP X Zt σ Q) X.xe s
def tOp(r:R2)(ta tb:TE):TE:=fun σ H Q=>ta σ H fun x H1=>tb σ H1 fun y H2=>r x y H2 Q
def tUn(r:V->Hp->VK->Prop)(ta:TE):TE:=fun σ H Q=>ta σ H fun x H1=>r x H1 Q
inductive RII(C:Int->Int->Prop)(g:Int->Int->V)(x:V)(y:V)(H:Hp)(Q:VK):Prop
 |mk:∀i j,(x=.int i)->(y=.int j)->(C i j)->(Q (g i j) H)->RII C g x y H Q
def rI(C:Int->Int->Prop)(g:Int->Int->V):R2:=fun x y H Q=>RII C g x y H Q
inductive RI0I(g:Int->Int->V)(x:V)(y:V)(H:Hp)(Q:VK):Prop
 |mk:∀i j,(x=.int i)->(y=.int j)->(Q (g i j) H)->RI0I g x y H Q
def rI0(g:Int->Int->V):R2:=fun x y H Q=>RI0I g x y H Q
inductive RUI(g:Int->V)(x:V)(H:Hp)(Q:VK):Prop
 |mk:∀i,(x=.int i)->(Q (g i) H)->RUI g x H Q
def rU(g:Int->V):V->Hp->VK->Prop:=fun x H Q=>RUI g x H Q
section
variable{X:Cx}{a b c:Expr}{ta tb tc:TE}{pos:Pos}
theorem Ew(ha:PE X a ta)(hb:PE X b tb){Zt:List (Addr×Obj)}{s:Shared}{σ:St}{H:Hp}{R:V->V->Hp->Prop}(I:Inv X Zt σ H s)
  (h:ta σ H fun x H1=>tb σ H1 fun y H2=>R x y H2) {Q:Value->Shared->Prop} {f:Value->Value->Sem Value}
  (hf:∀v u s2 x y H2,Inv X Zt σ H2 s2->RelV x v->RelV y u->R x y H2->wpAny (model X.prog X.w) X.A (f v u) Q X.xe s2):
  wpAny (model X.prog X.w) X.A (eval a X.env) (fun v s₁=>wpAny (model X.prog X.w) X.A (eval b X.env) (fun u s₂=>wpAny (model X.prog X.w) X.A (f v u) Q X.xe s₂) X.xe s₁) X.xe s:=by
 refine thn (ha Zt s σ H _ I h) fun v s1 ⟨x,H1,I1,r1,q1⟩=>?_;refine thn (hb Zt s1 σ H1 _ I1 q1) fun u s2 ⟨y,H2,I2,r2,q2⟩=>?_;exact hf v u s2 x y H2 I2 r1 r2 q2
theorem aR{op:Operator}{r:R2}(ho:OpR X (binaryOp op) r)(ha:PE X a ta)(hb:PE X b tb):PE X (.BinOp a op b pos) (tOp r ta tb):=by
 intro Zt s σ H Q I h;exact wpAny_BinOp (Ew ha hb I h fun v u s2 x y H2 I2 rx ry q=>ho Zt s2 σ H2 x y v u Q I2 rx ry q)
theorem yQ{op:UnaryOp}{r:V->Hp->VK->Prop}(ho:UnR X (unaryOp op) r)(ha:PE X a ta):PE X (.UnaryOp op a pos) (tUn r ta):=by
 intro Zt s σ H Q I h;exact UnaryOp_ (thn (ha Zt s σ H _ I h) fun v s1 ⟨x,H1,I1,r1,q1⟩=>ho Zt s1 σ H1 x v Q I1 r1 q1)
theorem opI{f:Value->Value->Sem Value}{C:Int->Int->Prop}{g:Int->Int->Int}
  (rule:∀(i j:Int) (t u:Tok) (s:Shared) (Q:Value->Shared->Prop) (E:Value->Shared->Prop),C i j->Q (.int (g i j) s.toks) {s with toks:=s.toks+1}->wpAny (model X.prog X.w) X.A (f (.int i t) (.int j u)) Q E s):
  OpR X f (rI C fun i j=>.int (g i j)):=by
 intro Zt s σ H x y v u Q I rx ry h;obtain⟨i,j,rfl,rfl,hc,q⟩:=h;obtain⟨t,rfl⟩:=rx;obtain⟨t',rfl⟩:=ry;exact rule i j t t' s _ _ hc ⟨.int (g i j),H,I.tok _,⟨_,rfl⟩,q⟩
theorem Gm{f:Value->Value->Sem Value}{g:Int->Int->Int}
  (rule:∀(i j:Int) (t u:Tok) (s:Shared) (Q:Value->Shared->Prop) (E:Value->Shared->Prop),Q (.int (g i j) s.toks) {s with toks:=s.toks+1}->wpAny (model X.prog X.w) X.A (f (.int i t) (.int j u)) Q E s):
  OpR X f (rI0 fun i j=>.int (g i j)):=by
 intro Zt s σ H x y v u Q I rx ry h;obtain⟨i,j,rfl,rfl,q⟩:=h;obtain⟨t,rfl⟩:=rx;obtain⟨t',rfl⟩:=ry;exact rule i j t t' s _ _ ⟨.int (g i j),H,I.tok _,⟨_,rfl⟩,q⟩
theorem Bw{f:Value->Value->Sem Value}{g:Int->Int->Bool}
  (rule:∀(i j:Int) (t u:Tok) (s:Shared) (Q:Value->Shared->Prop) (E:Value->Shared->Prop),Q (.bool (g i j)) s->wpAny (model X.prog X.w) X.A (f (.int i t) (.int j u)) Q E s):
  OpR X f (rI0 fun i j=>.bl (g i j)):=by
 intro Zt s σ H x y v u Q I rx ry h;obtain⟨i,j,rfl,rfl,q⟩:=h;obtain⟨t,rfl⟩:=rx;obtain⟨t',rfl⟩:=ry;exact rule i j t t' s _ _ ⟨.bl (g i j),H,I,rfl,q⟩
def Gn(i j:Int):Prop:=0<j/\j<1073741824
def Iv(i j:Int):Prop:=0<=j/\j<=1000000/\i.natAbs<2^64
def CMul(i j:Int):Prop:=(-(2^64)<i/\i<2^64)\/(-(2^64)<j/\j<2^64)
theorem CMul.ok{i j:Int}(h:CMul i j):IntMulOk i j:=by
 rcases h with⟨h1,h2⟩|⟨h1,h2⟩
 .exact .of_left (intBits_le_64 h1 h2)
 .exact .of_right (intBits_le_64 h1 h2)
theorem bw:OpR X (binaryOp .Add) (rI0 fun i j=>.int (i+j)):=Gm fun _ _ _ _ _ _ _ q=>add_int q
theorem cN:OpR X (binaryOp .Sub) (rI0 fun i j=>.int (i-j)):=Gm fun _ _ _ _ _ _ _ q=>sub_int q
theorem fW:OpR X (binaryOp .Mult) (rI CMul fun i j=>.int (i*j)):=opI fun _ _ _ _ _ _ _ hc q=>mul_int q hc.ok
theorem kZ:OpR X (binaryOp .FloorDiv) (rI Gn fun i j=>.int (i / j)):=opI fun i j _ _ _ _ _ hc q=>by
 have h1:(0:Int)<j:=hc.1;have h2:j<1073741824:=hc.2;exact floordiv_int Zz (by rw[Int.fdiv_eq_ediv_of_nonneg i Zz];exact q) (.inl (PyProof.noPylong_small Zz))
theorem fX:OpR X (binaryOp .Mod) (rI (fun _ j=>0<j) fun i j=>.int (i % j)):=opI fun i j _ _ _ _ _ hc q=>by
 have h1:(0:Int)<j:=hc;exact mod_int' Zz (by rw[Int.fmod_eq_emod_of_nonneg i Zz];exact q)
theorem uv:OpR X (binaryOp .Pow) (rI Iv fun i j=>.int (i^j.toNat)):=opI fun _ _ _ _ _ _ _ hc q=>pow_int_small hc.1 hc.2.1 hc.2.2 q
theorem unI{f:Value->Sem Value}{g:Int->Int}
  (rule:∀(i:Int) (t:Tok) (s:Shared) (Q:Value->Shared->Prop) (E:Value->Shared->Prop),Q (.int (g i) s.toks) {s with toks:=s.toks+1}->wpAny (model X.prog X.w) X.A (f (.int i t)) Q E s):
  UnR X f (rU fun i=>.int (g i)):=by
 intro Zt s σ H x v Q I rx h;obtain⟨i,rfl,q⟩:=h;obtain⟨t,rfl⟩:=rx;exact rule i t s _ _ ⟨.int (g i),H,I.tok _,⟨_,rfl⟩,q⟩
theorem uw:UnR X (unaryOp .USub) (rU fun i=>.int (-i)):=unI fun _ _ _ _ _ q=>neg_int q
end
def Gp:V->V->Bool
 |.non,.non=>true|.non,.int _=>true|.int _,.non=>true|.non,.bl _=>true|.bl _,.non=>true|.non,.str _=>true|.str _,.non=>true
 |.int _,.int _=>true|.bl _,.bl _=>true|.str _,.str _=>true|.byt _,.byt _=>true
 |.int _,.str _=>true|.str _,.int _=>true|.bl _,.str _=>true|.str _,.bl _=>true
 |_,_=>false
def rEq:R2:=fun x y H Q=>Gp x y=true/\Q (.bl (decide (x=y))) H
def rNe:R2:=fun x y H Q=>Gp x y=true/\Q (.bl (!decide (x=y))) H
theorem vy{i j:Int}:decide (V.int i=V.int j)=(i==j):=by
 rw[Bool.eq_iff_iff];simp
theorem yR{i j:Bool}:decide (V.bl i=V.bl j)=(i==j):=by
 rw[Bool.eq_iff_iff];simp
theorem vz{i j:Str}:decide (V.str i=V.str j)=(i==j):=by
 rw[Bool.eq_iff_iff];simp
theorem vA{i j:Array UInt8}:decide (V.byt i=V.byt j)=(i.toList==j.toList):=by
 rw[Bool.eq_iff_iff];cases i;cases j;simp
section
variable{X:Cx}{a b c:Expr}{ta tb tc:TE}{pos:Pos}
theorem bz{Zt:List (Addr×Obj)}{σ:St}{H:Hp}{s:Shared}{Q:VK}{k k':Bool}(I:Inv X Zt σ H s)(q:Q (.bl k) H)(e:k=k'):EP X Zt σ Q (.bool k') s:=by
 subst e;exact⟨.bl k,H,I,rfl,q⟩
theorem rK:OpR X (compareOp .Eq) rEq:=by
 intro Zt s σ H x y v u Q I rx ry h;obtain⟨hs,q⟩:=h
 cases x with
 |non=>
  cases rx
  cases y with
  |non=>cases ry;exact PySem.EqNone.eq_none_none (bz I q Zy)
  |bl j=>cases ry;exact PySem.EqNone.eq_none_bool (bz I q Zy)
  |int j=>obtain⟨t',rfl⟩:=ry;exact PySem.EqNone.eq_none_int (bz I q Zy)
  |str j=>obtain⟨t',rfl⟩:=ry;exact PySem.EqNone.eq_none_str (bz I q Zy)
  |_=>exact absurd (show false=true from hs) zAg
 |bl i=>
  cases rx
  cases y with
  |non=>cases ry;exact PySem.EqNone.eq_bool_none (bz I q Zy)
  |bl j=>cases ry;exact eq_bool (bz I q yR)
  |str j=>obtain⟨t',rfl⟩:=ry;exact PySem.EqMixed.eq_bool_str (bz I q Zy)
  |_=>exact absurd (show false=true from hs) zAg
 |int i=>
  obtain⟨t,rfl⟩:=rx
  cases y with
  |non=>cases ry;exact PySem.EqNone.eq_int_none (bz I q Zy)
  |int j=>obtain⟨t',rfl⟩:=ry;exact eq_int (bz I q vy)
  |str j=>obtain⟨t',rfl⟩:=ry;exact PySem.EqMixed.eq_int_str (bz I q Zy)
  |_=>exact absurd (show false=true from hs) zAg
 |str i=>
  obtain⟨t,rfl⟩:=rx
  cases y with
  |non=>cases ry;exact PySem.EqNone.eq_str_none (bz I q Zy)
  |bl j=>cases ry;exact PySem.EqMixed.eq_str_bool (bz I q Zy)
  |int j=>obtain⟨t',rfl⟩:=ry;exact PySem.EqMixed.eq_str_int (bz I q Zy)
  |str j=>obtain⟨t',rfl⟩:=ry;exact eq_str (bz I q vz)
  |_=>exact absurd (show false=true from hs) zAg
 |byt i=>
  obtain⟨t,rfl⟩:=rx
  cases y with
  |byt j=>obtain⟨t',rfl⟩:=ry;exact PySem.W.eq_bytes (bz I q vA)
  |_=>exact absurd (show false=true from hs) zAg
 |_=>cases y<;>exact absurd (show false=true from hs) zAg
theorem yS:OpR X (compareOp .NotEq) rNe:=by
 intro Zt s σ H x y v u Q I rx ry h;obtain⟨hs,q⟩:=h
 cases x with
 |non=>
  cases rx
  cases y with
  |non=>cases ry;exact PySem.EqNone.ne_none_none (bz I q Zy)
  |bl j=>cases ry;exact PySem.EqNone.ne_none_bool (bz I q Zy)
  |int j=>obtain⟨t',rfl⟩:=ry;exact PySem.EqNone.ne_none_int (bz I q Zy)
  |str j=>obtain⟨t',rfl⟩:=ry;exact PySem.EqNone.ne_none_str (bz I q Zy)
  |_=>exact absurd (show false=true from hs) zAg
 |bl i=>
  cases rx
  cases y with
  |non=>cases ry;exact PySem.EqNone.ne_bool_none (bz I q Zy)
  |bl j=>cases ry;exact ne_bool (bz I q (congrArg not yR))
  |str j=>obtain⟨t',rfl⟩:=ry;exact PySem.EqMixed.ne_bool_str (bz I q Zy)
  |_=>exact absurd (show false=true from hs) zAg
 |int i=>
  obtain⟨t,rfl⟩:=rx
  cases y with
  |non=>cases ry;exact PySem.EqNone.ne_int_none (bz I q Zy)
  |int j=>obtain⟨t',rfl⟩:=ry;exact ne_int (bz I q (congrArg not vy))
  |str j=>obtain⟨t',rfl⟩:=ry;exact PySem.EqMixed.ne_int_str (bz I q Zy)
  |_=>exact absurd (show false=true from hs) zAg
 |str i=>
  obtain⟨t,rfl⟩:=rx
  cases y with
  |non=>cases ry;exact PySem.EqNone.ne_str_none (bz I q Zy)
  |bl j=>cases ry;exact PySem.EqMixed.ne_str_bool (bz I q Zy)
  |int j=>obtain⟨t',rfl⟩:=ry;exact PySem.EqMixed.ne_str_int (bz I q Zy)
  |str j=>obtain⟨t',rfl⟩:=ry;exact ne_str (bz I q (congrArg not vz))
  |_=>exact absurd (show false=true from hs) zAg
 |byt i=>
  obtain⟨t,rfl⟩:=rx
  cases y with
  |byt j=>obtain⟨t',rfl⟩:=ry;exact PySem.W.ne_bytes (bz I q (congrArg not vA))
  |_=>exact absurd (show false=true from hs) zAg
 |_=>cases y<;>exact absurd (show false=true from hs) zAg
theorem gF:OpR X (compareOp .Lt) (rI0 fun i j=>.bl (decide (i<j))):=Bw fun _ _ _ _ _ _ _ q=>lt_int q
theorem bH:OpR X (compareOp .LtE) (rI0 fun i j=>.bl (decide (i<=j))):=Bw fun _ _ _ _ _ _ _ q=>le_int q
theorem lE:OpR X (compareOp .Gt) (rI0 fun i j=>.bl (decide (j<i))):=Bw fun _ _ _ _ _ _ _ q=>gt_int q
theorem vB:OpR X (compareOp .GtE) (rI0 fun i j=>.bl (decide (j<=i))):=Bw fun _ _ _ _ _ _ _ q=>ge_int q
theorem iJ:OpR X (compareOp .Is) (fun x y H Q=>y=.non/\Q (.bl (decide (x=.non))) H):=by
 intro Zt s σ H x y v u Q I rx ry h;obtain⟨rfl,q⟩:=h;cases ry;refine is_none_gen (bz I q ?_)
 cases x<;>first
  | (cases rx;rfl)
  | (obtain⟨t,rfl⟩:=rx;rfl)
theorem pW:OpR X (compareOp .IsNot) (fun x y H Q=>y=.non/\Q (.bl (!decide (x=.non))) H):=by
 intro Zt s σ H x y v u Q I rx ry h;obtain⟨rfl,q⟩:=h;cases ry;refine isnot_none_gen (bz I q ?_)
 cases x<;>first
  | (cases rx;rfl)
  | (obtain⟨t,rfl⟩:=rx;rfl)
theorem bf(b:Expr){op:CmpOp}(h:op≠.In:=by decide)(h2:op≠.NotIn:=by decide):behindInMarks op b=false:=by
 have e1:(op==CmpOp.In)=false:=by cases op<;>first|rfl|exact absurd rfl h
 have e2:(op==CmpOp.NotIn)=false:=by cases op<;>first|rfl|exact absurd rfl h2
 cases b<;>simp[behindInMarks,e1,e2]
theorem cY{op:CmpOp}{r:R2}(ho:OpR X (compareOp op) r)(ha:PE X a ta)(hb:PE X b tb)(hm:behindInMarks op b=false):PE X (.Compare a [op] [b] pos) (tOp r ta tb):=by
 intro Zt s σ H Q I h;exact wpAny_Compare1 (Ew ha hb I h fun v u s2 x y H2 I2 rx ry q=>ho Zt s2 σ H2 x y v u Q I2 rx ry q) hm
def Dw(t:TE):TT:=fun σ H Q=>t σ H fun x H'=>∃k,x=.bl k/\Q k H'
theorem bx{op:CmpOp}{r:R2}(ho:OpR X (compareOp op) r)(ha:PE X a ta)(hb:PE X b tb)(hm:behindInMarks op b=false):PT X (.Compare a [op] [b] pos) (Dw (tOp r ta tb)):=by
 intro Zt s σ H Q I h
 refine wpAny_isTrue_Compare1 (thn (ha Zt s σ H _ I h) fun v s1 ⟨x,H1,I1,r1,q1⟩=>thn (hb Zt s1 σ H1 _ I1 q1) fun u s2 ⟨y,H2,I2,r2,q2⟩=>
  thn (ho Zt s2 σ H2 x y v u _ I2 r1 r2 q2) fun c s3 ⟨z,H3,I3,r3,k,e,q3⟩=>?_) hm
 subst e;cases r3;exact wpAny_truthy_bool ⟨H3,I3,q3⟩
def uz(r r':R2)(ta tb tc:TE):TE:=fun σ H Q=>ta σ H fun x H1=>tb σ H1 fun y H2=>r x y H2 fun z H3=>∃k,z=.bl k /\
 (if k=true then tc σ H3 fun w' H4=>r' y w' H4 Q else Q (.bl false) H3)
theorem cQ{op nh:CmpOp}{r r':R2}(ho:OpR X (compareOp op) r)(gN:OpR X (compareOp nh) r')(ha:PE X a ta)(hb:PE X b tb)(hc:PE X c tc)
  (hm:lastMarks [op,nh] [b,c]=false:=by with_unfolding_all rfl):PE X (.Compare a [op,nh] [b,c] pos) (uz r r' ta tb tc):=by
 intro Zt s σ H Q I h
 refine Compare_chain (thn (ha Zt s σ H _ I h) fun v s1 ⟨x,H1,I1,r1,q1⟩=>chain_link (thn (hb Zt s1 σ H1 _ I1 q1) fun u s2 ⟨y,H2,I2,r2,q2⟩=>
  thn (ho Zt s2 σ H2 x y v u _ I2 r1 r2 q2) fun d s3 ⟨z,H3,I3,r3,k,e,q3⟩=>?_)) hm
 subst e;cases r3;refine wpAny_truthy_bool ?_
 cases k with
 |false=>exact ite_ff ⟨.bl false,H3,I3,rfl,q3⟩
 |true=>exact ite_tt (chain_last (thn (hc Zt s3 σ H3 _ I3 q3) fun w' s4 ⟨z',H4,I4,r4,q4⟩=>gN Zt s4 σ H4 y z' u w' Q I4 r2 r4 q4))
theorem eQ{op nh:CmpOp}{r r':R2}(ho:OpR X (compareOp op) r)(gN:OpR X (compareOp nh) r')(ha:PE X a ta)(hb:PE X b tb)(hc:PE X c tc)
  (hm:lastMarks [op,nh] [b,c]=false:=by with_unfolding_all rfl):PT X (.Compare a [op,nh] [b,c] pos) (Dw (uz r r' ta tb tc)):=by
 intro Zt s σ H Q I h
 refine isTrue_chain (thn (ha Zt s σ H _ I h) fun v s1 ⟨x,H1,I1,r1,q1⟩=>test_link (thn (hb Zt s1 σ H1 _ I1 q1) fun u s2 ⟨y,H2,I2,r2,q2⟩=>
  thn (ho Zt s2 σ H2 x y v u _ I2 r1 r2 q2) fun d s3 ⟨z,H3,I3,r3,k,e,q3⟩=>?_)) hm
 subst e;cases r3;refine wpAny_truthy_bool ?_
 cases k with
 |false=>
  obtain⟨k',e',q'⟩:=q3;cases e';exact ite_ff ⟨H3,I3,q'⟩
 |true=>
  refine ite_tt (test_last (thn (hc Zt s3 σ H3 _ I3 q3) fun w' s4 ⟨z',H4,I4,r4,q4⟩=>thn (gN Zt s4 σ H4 y z' u w' _ I4 r2 r4 q4) fun d' s5 ⟨z2,H5,I5,r5,k2,e2,q5⟩=>?_));subst e2;cases r5;exact wpAny_truthy_bool ⟨H5,I5,q5⟩
def Gq(K:Frag)(x:V)(H:Hp)(k:Bool):Prop:=
 match x with
 |.non=>k=false
 |.bl b=>k=b
 |.int i=>k=(i != 0)
 |.str y=>y.length<=sizeLine/\k=((y.length:Int) != 0)
 |.byt y=>y.size<=sizeLine/\k=((y.size:Int) != 0)
 |.ref p=>(∃xs,SqL K H p xs/\k=!xs.isEmpty)\/(∃xs,SqT K H p xs/\k=!xs.isEmpty)\/∃Zs,H p=some (.dK Zs)/\k=!Zs.isEmpty
 |_=>False
theorem uA{κ:Type}{Zs:List (κ×V)}{vs:List (κ×Value)}(r:KV Zs vs):(!vs.isEmpty)=!Zs.isEmpty:=by
 cases r<;>rfl
theorem lF{xs:List V}{Zr:List Value}(r:Vals xs Zr):(!Zr.toArray.isEmpty)=!xs.isEmpty:=by
 cases r<;>simp
theorem jx:(sizeLine:Nat)<2^63:=by rw[sizeLine_eq];decide
theorem Ex:Iu X (fun x H Q=>∃k,Gq X.K x H k/\Q k H):=by
 intro Zt s σ H x v Q I rx h;obtain⟨k,e,q⟩:=h;have hl:=jx;have hs:sizeLine=16777216:=sizeLine_eq
 cases x with
 |non=>
  cases rx;have e':k=false:=e;subst e';exact truthy_none ⟨H,I,q⟩
 |bl b=>
  cases rx;have e':k=b:=e;subst e';exact wpAny_truthy_bool ⟨H,I,q⟩
 |int i=>
  obtain⟨t,rfl⟩:=rx;have e':k=(i != 0):=e;subst e';exact PySem.P.truthy_int ⟨H,I,q⟩
 |str y=>
  obtain⟨t,rfl⟩:=rx;obtain⟨hy,e'⟩:y.length<=sizeLine/\k=((y.length:Int) != 0):=e;subst e';exact PySem.P.truthy_str Zz ⟨H,I.tok _,q⟩
 |byt y=>
  obtain⟨t,rfl⟩:=rx;obtain⟨hy,e'⟩:y.size<=sizeLine/\k=((y.size:Int) != 0):=e;subst e';exact PySem.W.truthy_bytes Zz ⟨H,I.tok _,q⟩
 |ref p=>
  cases rx;have e':(∃xs,SqL X.K H p xs/\k=!xs.isEmpty)\/(∃xs,SqT X.K H p xs/\k=!xs.isEmpty)\/∃Zs,H p=some (.dK Zs)/\k=!Zs.isEmpty:=e;rcases e' with⟨xs,hx,e'⟩|⟨xs,hx,e'⟩|⟨Zs,hx,e'⟩
  .subst e';obtain⟨Zr,r,pl,hz⟩:=I.list hx;have hlen:=r.length;exact wpAny_truthy_list pl.isList (by simp only[List.size_toArray];lia) ⟨H,I.tok _,by rw[lF r];exact q⟩
  .subst e';obtain⟨Zr,r,pl,hz⟩:=I.tuple hx;have hlen:=r.length;exact truthy_tuple pl (by simp only[List.size_toArray];lia) ⟨H,I.tok _,by rw[lF r];exact q⟩
  .subst e';obtain⟨hz,hS,vs,r,m⟩:Zs.length<=sizeLine/\(p==sysModules)=false/\∃vs,KV Zs vs/\s.heap.DictOf (bV X.prog X.w) p vs:=I.hok p _ hx;have hlen:Zs.length=vs.length:=Paired.length r;exact wpAny_truthy_dict hS m Zz ⟨H,I.tok _,by rw[uA r];exact q⟩
 |_=>exact(show False from e).elim
theorem yU(ha:PE X a ta)(he:∀whole,isTrue a X.env whole=(do let v <-whole;standAt a.pos;holding [v] (truthy v))):
  PT X a (fun σ H Q=>ta σ H fun x H'=>∃k,Gq X.K x H' k/\Q k H'):=by
 intro Zt s σ H Q I h;exact isTrue_plain (thn (ha Zt s σ H _ I h) fun v s1 ⟨x,H1,I1,r1,q1⟩=>Ex Zt s1 σ H1 x v Q I1 r1 q1) (he _)
theorem vals1{x:V}{us:List Value}(r:Vals [x] us):∃u,us=[u]/\RelV x u:=by
 cases r with
 |cons r1 r2=>cases r2;exact⟨_,rfl,r1⟩
theorem vals2{x y:V}{us:List Value}(r:Vals [x,y] us):∃u w',us=[u,w']/\RelV x u/\RelV y w':=by
 cases r with
 |cons r1 r2=>
  cases r2 with
  |cons r3 r4=>cases r4;exact⟨_,_,rfl,r1,r3⟩
theorem nW(hc:X.calm=true):dG X (.builtin "max") (fun xs H Q=>∃i j,xs=[.int i,.int j]/\Q (.int (if j>i then j else i)) H):=by
 intro Zt s σ H xs us Q I r h;obtain⟨i,j,rfl,q⟩:=h;obtain⟨u,w',rfl,⟨t,rfl⟩,⟨t',rfl⟩⟩:=vals2 r
 refine max_two_ints (I.ok.hd hc) fun h' tk k=>⟨_,H,I.kept k,?_,q⟩
 by_cases hj:j>i
 .rw[zAv hj,zAv hj];exact⟨_,rfl⟩
 .rw[zAu hj,zAu hj];exact⟨_,rfl⟩
theorem dY(hc:X.calm=true):dG X (.builtin "min") (fun xs H Q=>∃i j,xs=[.int i,.int j]/\Q (.int (if j<i then j else i)) H):=by
 intro Zt s σ H xs us Q I r h;obtain⟨i,j,rfl,q⟩:=h;obtain⟨u,w',rfl,⟨t,rfl⟩,⟨t',rfl⟩⟩:=vals2 r
 refine min_two_ints (I.ok.hd hc) fun h' tk k=>⟨_,H,I.kept k,?_,q⟩
 by_cases hj:j<i
 .rw[zAv hj,zAv hj];exact⟨_,rfl⟩
 .rw[zAu hj,zAu hj];exact⟨_,rfl⟩
theorem xK:dG X (.type "int") (fun xs H Q=>(∃i,xs=[.int i]/\Q (.int i) H)\/∃k,xs=[.bl k]/\Q (.int (if k then 1 else 0)) H):=by
 intro Zt s σ H xs us Q I r h;rcases h with⟨i,rfl,q⟩|⟨k,rfl,q⟩
 .obtain⟨u,rfl,t,rfl⟩:=vals1 r;exact call_int_int ⟨.int i,H,I,⟨_,rfl⟩,q⟩
 .obtain⟨u,rfl,r1⟩:=vals1 r;cases r1;exact call_int_bool ⟨.int (if k then 1 else 0),H,I.tok _,⟨_,rfl⟩,q⟩
end
structure ObjM(h:Heap)(x dx C:Addr)(mA:Str->Option Value):Prop where
 obj:h.get? x=some (PySem.W.instObj C dx)
 ns:h.Ns1 dx mA
 ne:dx≠x
theorem xM{h:Heap}{dx:Addr}{mA:Str->Option Value}(n:h.Ns1 dx mA):∃od,h.get? dx=some od/\∀name,PySem.W.lookIn name od=some (mA name):=by
 obtain⟨o,es,ep,ho,hd,hk,_,hm⟩:=n;refine⟨o,ho,fun name=>?_⟩;have e:=hm name;unfold nsFind findBy at e;rw[<-Array.find?_toList]at e;unfold PySem.W.lookIn;rw[hd];dsimp only;split
 .rename_i y q
  rw[q]at e;exact congrArg some e
 .rename_i q
  rw[q]at e
  have a:es.toList.any (·.refKey)=false:=by
   rw[List.any_eq_false];intro y hy;obtain⟨z,t,AV⟩:=hk y (Array.mem_toList_iff.mp hy);simp[DictEntry.refKey,AV]
  have a':¬es.toList.any (·.refKey)=true:=by rw[a];exact zAg
  rw[zAu a'];exact congrArg some e
theorem ObjM.look{h:Heap}{x dx C:Addr}{mA:Str->Option Value}(I:ObjM h x dx C mA):∃od,PySem.W.InstAt h x (PySem.W.instObj C dx) C (some od)/\∀name,PySem.W.lookIn name od=some (mA name):=
 let⟨od,ho,hl⟩:=xM I.ns
 ⟨od,⟨I.obj,rfl,rfl,ho⟩,hl⟩
section
variable{prog:Program}{w:World}{A:Around}{E:Value->Shared->Prop}{s:Shared}{K:Frag}{x dx C f:Addr}{mA:Str->Option Value}{name:Str}{v:Value}
end
theorem RelO.some_of{v:V}{o:Option Value}(r:RelO (some v) o):∃u,o=some u/\RelV v u:=by
 cases o with
 |none=>exact(show False from r).elim
 |some u=>exact⟨u,rfl,r⟩
section
variable{P:Program}{w:World}{H H':Hp}{h h':Heap}{a C dx:Addr}{fs Ku:List (Str×V)}
theorem Bx(hok:HOk P w H h)(e:H a=some (.ins C dx fs)):∃mA,ObjM h a dx C mA/\(∀f,RelO (fs.lookup f) (mA f))/\PySem.Within mA (fs.map (·.1))/\fs.length<=1000/\H dx=some (.own a):=by
 obtain⟨d,z,ne,ob,mA,n,r,q⟩:=(show ObjOk P w H h a (.ins C dx fs)from hok a _ e)
 exact⟨mA,⟨ob,n,ne⟩,r,q,z,d⟩
end
structure Cls(K:Frag)(C:Addr):Prop where
 pg:PySem.W.plainGet K C Str.empty=true
 hd:PySem.W.hasDictIn K C=true
 po:PySem.W.plainOver K C=true
 sa:PySem.W.findIn K (.ref C) "__setattr__"=some (some (.builtin "object.__setattr__"))
theorem Cls.get{K:Frag}{C:Addr}(c:Cls K C)(f:Str):PySem.W.plainGet K C f=true:=c.pg
section
variable{X:Cx}{Zt:List (Addr×Obj)}{σ:St}{H:Hp}{s:Shared}{a C dx:Addr}{fs:List (Str×V)}{f:Str}{v:V}{A:Around}{E:Value->Shared->Prop}
end
section
variable{X:Cx}{o e value:Expr}{f:Str}{pos pos' mS:Pos}{ta tv:TE}
end
section
variable{X:Cx}{Zt:List (Addr×Obj)}{σ:St}{H:Hp}{s:Shared}{A:Around}{E:Value->Shared->Prop}{Q:Value->Shared->Prop}{c:Value}{b:Bool}
inductive TyOf(K:Frag)(H:Hp):V->Value->Prop where
 |non:TyOf K H .non (.type "NoneType")
 |bl (x:Bool):TyOf K H (.bl x) (.type "bool")
 |int (i:Int):TyOf K H (.int i) (.type "int")
 |str (x:Str):TyOf K H (.str x) (.type "str")
 |flt (x:UInt64):TyOf K H (.flt x) (.type "float")
 |lst {a:Addr} {xs:List V} (e:H a=some (.lst xs)):TyOf K H (.ref a) (.type "list")
 |frz {a:Addr} {o:Obj} {xs:List V} (e:H a=some (.frz o (.lst xs))):TyOf K H (.ref a) (.type "list")
 |tup {a:Addr} {xs:List V} (e:H a=some (.tup xs)):TyOf K H (.ref a) (.type "tuple")
 |dK {a:Addr} {Zs:List (Key×V)} (e:H a=some (.dK Zs)):TyOf K H (.ref a) (.type "dict")
 |dT {a:Addr} {Zs:List (List Key×V)} (e:H a=some (.dT Zs)):TyOf K H (.ref a) (.type "dict")
 |ins {a C dx:Addr} {fs:List (Str×V)} (e:H a=some (.ins C dx fs)) (cl:Cls K C) (ha:PySem.W.findIn K (.ref C) "__class__"=some (some (.builtin "object.__class__")))
   (hn:PySem.W.specialIn K (.builtin "object.__class__") "__get__"=some (some (.builtin "getset_descriptor.__get__"))) (F4:PySem.W.takesIn K (.builtin "object.__class__")=some true)
   (hm:PySem.W.mroIn K C (.type "object")=some true):TyOf K H (.ref a) (.ref C)
theorem xN{x:V}{u t:Value}(I:Inv X Zt σ H s)(rx:RelV x u)(ty:TyOf X.K H x t)(e:PySem.W.kitOne X.K t c=some b)(h:∀tk,Q (.bool b) {s with toks:=tk}):
  wpAny (model X.prog X.w) A (call (.builtin "isinstance") [u,c]) Q E s:=by
 cases ty with
 |non=>cases(show u=Value.none from rx);exact PySem.W.kia_one PySem.W.kitx_none I.kIn True.intro e (fun z=>nomatch z) h
 |bl y=>cases(show u=Value.bool y from rx);exact PySem.W.kia_one PySem.W.kitx_bool I.kIn True.intro e (fun z=>nomatch z) h
 |int i=>obtain⟨t,q⟩:=(show ∃t,u=Value.int i t from rx);cases q;exact PySem.W.kia_one PySem.W.kitx_int I.kIn True.intro e (fun z=>nomatch z) h
 |str y=>obtain⟨t,q⟩:=(show ∃t,u=Value.str y t from rx);cases q;exact PySem.W.kia_one PySem.W.kitx_str I.kIn True.intro e (fun z=>nomatch z) h
 |flt y=>obtain⟨t,q⟩:=(show ∃t,u=Value.float y t from rx);cases q;exact PySem.W.kia_one PySem.W.kitx_float I.kIn True.intro e (fun z=>nomatch z) h
 |@lst a xs ea=>
  cases(show u=Value.ref a from rx)
  obtain⟨_,_,n,_,h1⟩:=(show ObjOk X.prog X.w H s.heap a (.lst xs)from I.hok a _ ea)
  exact PySem.W.kia_one PySem.W.kitx_list I.kIn ⟨_,h1,rfl⟩ e (fun z=>nomatch z) h
 |@frz a ob xs ea=>
  cases(show u=Value.ref a from rx)
  obtain⟨_,_,_,n,_,h1⟩:=(show ObjOk X.prog X.w H s.heap a (.frz ob (.lst xs))from I.hok a _ ea)
  exact PySem.W.kia_one PySem.W.kitx_list I.kIn ⟨_,h1,rfl⟩ e (fun z=>nomatch z) h
 |@tup a xs ea=>
  cases(show u=Value.ref a from rx)
  obtain⟨_,_,_,p⟩:=(show ObjOk X.prog X.w H s.heap a (.tup xs)from I.hok a _ ea)
  obtain⟨o,h1,h2,_⟩:=p;exact PySem.W.kia_one PySem.W.kitx_tuple I.kIn ⟨o,h1,h2⟩ e (fun z=>nomatch z) h
 |@dK a Zs ea=>
  cases(show u=Value.ref a from rx)
  obtain⟨_,_,vs,_,p⟩:=(show ObjOk X.prog X.w H s.heap a (.dK Zs)from I.hok a _ ea)
  obtain⟨o,es,ep,h1,h2,_⟩:=p;exact PySem.W.kia_one PySem.W.kitx_dict I.kIn ⟨o,h1,h2.1⟩ e (fun z=>nomatch z) h
 |@dT a Zs ea=>
  cases(show u=Value.ref a from rx)
  obtain⟨_,_,xs,_,o,es,ep,h1,h2,_⟩:=(show ObjOk X.prog X.w H s.heap a (.dT Zs)from I.hok a _ ea)
  exact PySem.W.kia_one PySem.W.kitx_dict I.kIn ⟨o,h1,h2.1⟩ e (fun z=>nomatch z) h
 |@ins a C dx fs ea cl ha hn F4 hm=>
  cases(show u=Value.ref a from rx);obtain⟨mA,O,_⟩:=Bx I.hok ea;obtain⟨od,J,_⟩:=O.look;exact PySem.W.kia_one (PySem.W.kitx_own (cl.get _) cl.hd ha hn F4 hm) I.kIn J e (fun z=>nomatch z) h
end
structure Room(k:Nat)(A:Around):Prop where
 hd:A.handled=none
 dp:A.depth+3*k+5<recursionLimit
 un:A.units+16*k+200<cLine
 gd:A.guards=some []
theorem Room.mono{j k:Nat}{A:Around}(r:Room k A)(h:j<=k):Room j A:=⟨r.hd,by have:=r.dp;lia,by have:=r.un;lia,r.gd⟩
theorem Room.deeper{k:Nat}{A:Around}(r:Room (k+1) A)(env:Env):Room k (A.deeper env):=
 ⟨r.hd,by have:=r.dp;show A.depth+1+3*k+5<_;lia,by have:=r.un;show A.units+3+16*k+200<_;lia,r.gd⟩
theorem Room.depth{k:Nat}{A:Around}(r:Room k A):A.depth<recursionLimit:=by have:=r.dp;lia
theorem Room.units{k:Nat}{A:Around}(r:Room k A):A.units+64<cLine:=by have:=r.un;lia
def Ey:TA:=fun _ H Q=>Q [] H
def rM(ta:TE)(tr:TA):TA:=fun σ H Q=>ta σ H fun x H1=>tr σ H1 fun xs H2=>Q (x::xs) H2
section
variable{X:Cx}{e:Expr}{es:List Expr}{te:TE}{t:TA}{pos:Pos}
theorem aj:PA X [] Ey:=fun _ _ _ _ H Q I h=>Calls.spliced_nil ⟨[],H,I,.nil,h⟩
theorem aP(ha:PE X e te)(hr:PA X es t)(hs:starEach (e::es) X.env=(false,eval e X.env)::starEach es X.env:=by rfl):PA X (e::es) (rM te t):=by
 intro pos Zt s σ H Q I h;rw[hs];show wpAny _ _ (spliced ((false,eval e X.env)::backTo pos (starEach es X.env))) _ _ s;refine Calls.spliced_cons (thn (ha Zt s σ H _ I h) fun u s1 ⟨x,H1,I1,r1,q1⟩=>?_)
 exact thn (hr pos Zt s1 σ H1 _ I1 q1) fun us s2 ⟨xs,H2,I2,r2,q2⟩=>⟨x::xs,H2,I2,.cons r1 r2,q2⟩
def Ez(t:TA):TE:=fun σ H Q=>t σ H fun xs H1=>xs.length<=sizeLine/\∀p,H1 p=none->Q (.ref p) (upd H1 p (.tup xs))
def EY(t:TA):TE:=fun σ H Q=>t σ H fun xs H1=>xs.length<=sizeLine/\∀p,H1 p=none->Q (.ref p) (upd H1 p (.lst xs))
theorem bT{x1}(h:PA X es t):PE X (.Tuple es x1 pos) (Ez t):=by
 intro Zt s σ H Q I hq;refine wpAny_Tuple_spliced (thn (h pos Zt s σ H _ I hq) fun us s1 ⟨xs,H1,I1,r,z,q⟩=>⟨by rw[<-r.length];exact z,?_⟩);have hf:H1 s1.heap.objs.size=none:=I1.hok.fresh (zA3 _);refine⟨.ref s1.heap.objs.size,upd H1 s1.heap.objs.size (.tup xs),I1.laid (t':=s1.toks) (fun b u e=>zAy _ e) (zA3 _) ?_,rfl,q _ hf⟩;exact⟨z,us,r,⟨_,zB3 _ rfl,rfl,_,rfl⟩⟩
theorem cR(h:PA X es t):PE X (.List es pos) (EY t):=by
 intro Zt s σ H Q I hq;refine wpAny_List_spliced (thn (h pos Zt s σ H _ I hq) fun us s1 ⟨xs,H1,I1,r,z,q⟩=>⟨by rw[<-r.length];exact z,?_⟩);have hf:H1 s1.heap.objs.size=none:=I1.hok.fresh (zA3 _);refine⟨.ref s1.heap.objs.size,upd H1 s1.heap.objs.size (.lst xs),I1.laid (t':=s1.toks) (fun b u e=>zAy _ e) (zA3 _) ?_,rfl,q _ hf⟩;exact⟨z,us,0,r,zB3 _ rfl⟩
end
abbrev Sp:=List V->Hp->VK->XK->Prop
abbrev CXT:=List Env->Hp->Shared->XK->Value->Shared->Prop
structure Env0(P:Program)(w:World)(K:Frag)(mg:Str->Option Value)(base:Heap)(A:Around)(outer:List Env)(s:Shared)(H:Hp):Prop where
 frames:A.frames=some outer
 mod:Mod K mg base
 bs:∀b o,base.get? b=some o->s.heap.get? b=some o/\H b=none
 bsz:base.objs.size<=s.heap.objs.size
 funs:s.heap.FunFrames base outer
 frf:∀b∈frs outer,H b=none
 hok:HOk P w H s.heap
 bare:AllBare s.gens
def CE(outer:List Env)(P:Program)(w:World)(H:Hp)(s:Shared)(Q:VK)(u:Value)(s':Shared):Prop:=
 ∃v H',s'.os=s.os/\AllBare s'.gens/\Un (frs outer) [] H H' s.heap s'.heap/\HOk P w H' s'.heap/\RelV v u/\Q v H'
def CR(CX:CXT)(outer:List Env)(P:Program)(w:World)(H:Hp)(s:Shared)(Q:VK)(E:XK)(r:Result)(s':Shared):Prop:=
 match r with
 |.ok (.ret u)=>CE outer P w H s Q u s'
 |.ok _=>False
 |.error e=>CX outer H s E e s'
structure FnOk(P:Program)(w:World)(K:Frag)(mg:Str->Option Value)(base:Heap)(CX:CXT)(k:Nat)(f:Addr)(fd:FuncData)(ps:List Str)(sp:Sp):Prop where
 len:∀vs H Q E,sp vs H Q E->vs.length=ps.length
 run:∀(A:Around) (outer:List Env) (s:Shared) (H:Hp) (args:Args) (us:List Value) (vs:List V) (Q:VK) (E:XK),Room k A->Env0 P w K mg base A outer s H->BindsTo s fd args (ps.zip us)->Vals vs us->sp vs H Q E->
  codeAny (model P w) A (.call (.ref f) args) (CR CX outer P w H s Q E) s
theorem FnOk.imp{P:Program}{w:World}{K:Frag}{mg:Str->Option Value}{base:Heap}{CX:CXT}{k:Nat}{f:Addr}{fd:FuncData}{ps:List Str}{sp sp':Sp}(F:FnOk P w K mg base CX k f fd ps sp)
  (h:∀vs H Q E,sp' vs H Q E->sp vs H Q E):FnOk P w K mg base CX k f fd ps sp':=
 ⟨fun vs H Q E q=>F.len vs H Q E (h _ _ _ _ q),fun A outer s H args us vs Q E hr he hb hv hs=>F.run A outer s H args us vs Q E hr he hb hv (h _ _ _ _ hs)⟩
section
variable{X:Cx}{Zt:List (Addr×Obj)}{σ:St}{H:Hp}{s s':Shared}
theorem Inv.env0(I:Inv X Zt σ H s):Env0 X.prog X.w X.K X.mg X.base X.A X.stack s H:=
 ⟨I.ok.frames,I.ok.mod,I.bs,Nat.le_trans I.ok.bsz I.sz,I.stack,I.stkFree,I.hok,I.bare⟩
theorem Inv.after{Q:VK}{u:Value}(I:Inv X Zt σ H s)(h:CE X.stack X.prog X.w H s Q u s'):EP X Zt σ Q u s':=by
 obtain⟨v,H',os,bare,un,hok,r,q⟩:=h;obtain⟨hh,g,d,t,KA⟩:=s';obtain rfl:KA=s.os:=os;exact⟨v,H',I.call (h':=hh) (g':=g) (d':=d) (t':=t) (ch:=[]) un hok bare (fun b z=>absurd z Zy),r,q⟩
end
def Dy(sp:Sp)(kQ:List V)(E:XK)(t:TA):TE:=fun σ H Q=>t σ H fun vs H1=>sp (vs++kQ) H1 Q E
def Binds(K:Frag)(fd:FuncData)(ps:List Str)(ds:List Value):Prop:=
 ∀(s:Shared) (us:List Value),K.In s.heap->(us++ds).length=ps.length->BindsTo s fd ⟨us,[]⟩ (ps.zip (us++ds))
theorem Binds.all{K:Frag}{fd:FuncData}{ps:List Str}(h:∀us:List Value,us.length=ps.length->bindArgs fd ⟨us,[]⟩=pure (ps.zip us)):Binds K fd ps []:=fun s us _ hl=>by
 rw[zAn]at hl⊢;exact .of_eq (h us hl)
def uB(CX:CXT)(X:Cx)(E:XK):Prop:=∀(Zt:List (Addr×Obj)) (σ:St) (H:Hp) (s:Shared) (e:Value) (s':Shared),Inv X Zt σ H s->CX X.stack H s E e s'->X.xe e s'
section
variable{X:Cx}{CX:CXT}{k:Nat}{f C:Addr}{fd:FuncData}{ps:List Str}{sp:Sp}{kQ:List V}{ds:List Value}{E:XK}{x m:Str}{p pos apos:Pos}{e o:Expr}{es:List Expr}{ta:TE}{t:TA}
theorem Fb{Zt:List (Addr×Obj)}{σ:St}{H:Hp}{s:Shared}{Q:VK}{us:List Value}{vs:List V}(F:FnOk X.prog X.w X.K X.mg X.base CX k f fd ps sp)(hr:Room k X.A)(hb:Binds X.K fd ps ds)(hd:Vals kQ ds)(hx:uB CX X E)
  (I:Inv X Zt σ H s) (r:Vals vs us) (h:sp (vs++kQ) H Q E):wpAny (model X.prog X.w) X.A (call (.ref f) us) (EP X Zt σ Q) X.xe s:=by
 have r2:Vals (vs++kQ) (us++ds):=r.append hd;have hl:(us++ds).length=ps.length:=by rw[<-r2.length];exact F.len _ _ _ _ h
 refine wpAny_call (codeAny_mono (F.run X.A X.stack s H ⟨us,[]⟩ (us++ds) (vs++kQ) Q E hr I.env0 (hb s us I.kIn hl) r2 h) fun r s' hq=>?_)
 cases r with
 |error e=>exact hx Zt σ H s e s' I hq
 |ok fl=>
  cases fl with
  |ret u=>exact I.after hq
  |next=>exact False.elim hq
  |brk=>exact False.elim hq
  |cont=>exact False.elim hq
theorem By(F:FnOk X.prog X.w X.K X.mg X.base CX k f fd ps sp)(hr:Room k X.A)(hg:Gl X x)(hm:X.mg x=some (.ref f))(hk:PySem.W.keepIn X.K (.ref f)=true)(hb:Binds X.K fd ps ds)(hd:Vals kQ ds)(hx:uB CX X E)
  (ha:PA X (e::es) t) (nr:(x==("__debug__":Str))=false:=by decide) (he:starEach (e::es) X.env=(false,eval e X.env)::starEach es X.env:=by rfl) (kR:(backTo pos (starEach es X.env)).any (·.1)=false:=by rfl):
  PE X (.Call (.Name x p) (e::es) [] pos) (Dy sp kQ E t):=by
 intro Zt s σ H Q I h;refine wpAny_Call_Name_kw (vo I hg hm ?_ nr);refine PySem.W.callWith_K (h₀:=X.base) I.ok.mod.kin hk (thn (ha pos Zt s σ H _ I h) fun us s1 ⟨vs,H1,I1,r,q⟩=>⟨I1.kIn,?_⟩) he kR;exact Fb F hr hb hd hx I1 r q
end
section
variable{X:Cx}{CX:CXT}{k:Nat}{f C:Addr}{fd:FuncData}{ps ks:List Str}{sp:Sp}{E:XK}{x m:Str}{p pos apos KC:Pos}{e o:Expr}{es:List Expr}{Qu:List Keyword}{te ta:TE}{t tk:TA}{nm:Option Str}
variable{g:List Value->List Value->List Value}{gV:List V->List V->List V}
end
structure FnScope(N P:List Str)(sc:Scope):Prop where
 kind:sc.kind=.function
 co:sc.isCoroutine=false
 gen:sc.isGenerator=false
 nd:N.Nodup
 pre:N.take P.length=P
 par:∀x∈P,sc.names.lookup x=some .local\/sc.names.lookup x=some .cell
 nofree:∀y∈sc.names,y.2≠.free
theorem nY{kindOf:Str->Option NameKind}{x:Str}:∀{binds:List (Str×Value)} {m:Str->Option Value},(∀v,(x,v)∉binds)->bindL kindOf binds m x=m x
 |[],_,_=>rfl
 | (n,v)::r,m,h=>by
  unfold bindL;rw[nY fun w hw=>h w (List.mem_cons_of_mem _ hw)];split
  .have:x≠n:=by rintro rfl;exact h v List.mem_cons_self
   simp[this]
  .rfl
theorem nZ{kindOf:Str->Option NameKind}{x:Str}:∀{binds:List (Str×Value)} {m:Str->Option Value},(∀v,(x,v)∉binds)->bindC kindOf binds m x=m x
 |[],_,_=>rfl
 | (n,v)::r,m,h=>by
  unfold bindC;rw[nZ fun w hw=>h w (List.mem_cons_of_mem _ hw)];split
  .rfl
  .have:x≠n:=by rintro rfl;exact h v List.mem_cons_self
   simp[this]
theorem o9{kindOf:Str->Option NameKind}{x:Str}{v:Value}:∀{P:List Str} {vs:List Value} {i:Nat} {m:Str->Option Value},P.Nodup->P[i]?=some x->vs[i]?=some v->kindOf x=some .local->
  bindL kindOf (P.zip vs) m x=some v
 |[],_,_,_,_,h,_,_=>by simp at h
 |_::_,[],_,_,_,_,h,_=>by simp at h
 |p::P,w::vs,0,m,nd,h1,h2,hk=>by
  simp at h1 h2;subst h1;subst h2;show bindL kindOf ((p,w)::P.zip vs) m p=_;unfold bindL;rw[nY fun v hv=>(List.nodup_cons.mp nd).1 (List.of_mem_zip hv).1,if_pos hk];simp
 |p::P,w::vs,i+1,m,nd,h1,h2,hk=>by
  show bindL kindOf ((p,w)::P.zip vs) m x=_;unfold bindL;exact o9 (i:=i) (List.nodup_cons.mp nd).2 (by simpa using h1) (by simpa using h2) hk
theorem oh{kindOf:Str->Option NameKind}{x:Str}{v:Value}:∀{P:List Str} {vs:List Value} {i:Nat} {m:Str->Option Value},P.Nodup->P[i]?=some x->vs[i]?=some v->kindOf x≠some .local->
  bindC kindOf (P.zip vs) m x=some v
 |[],_,_,_,_,h,_,_=>by simp at h
 |_::_,[],_,_,_,_,h,_=>by simp at h
 |p::P,w::vs,0,m,nd,h1,h2,hk=>by
  simp at h1 h2;subst h1;subst h2;show bindC kindOf ((p,w)::P.zip vs) m p=_;unfold bindC;rw[nZ fun v hv=>(List.nodup_cons.mp nd).1 (List.of_mem_zip hv).1,if_neg hk];simp
 |p::P,w::vs,i+1,m,nd,h1,h2,hk=>by
  show bindC kindOf ((p,w)::P.zip vs) m x=_;unfold bindC;exact oh (i:=i) (List.nodup_cons.mp nd).2 (by simpa using h1) (by simpa using h2) hk
def start(N:List Str)(vs:List V):St:=vs.map some++List.replicate (N.length-vs.length) none
def xO(CX:CXT)(P:Program)(w:World)(K:Frag)(mg:Str->Option Value)(base:Heap)(N:List Str)(qual:Str)(scope:Scope)(f:Addr)(cd:Value)(A:Around)(outer:List Env)(s:Shared)(H:Hp)(E:XK):Cx where
 prog:=P
 w:=w
 K:=K
 mg:=mg
 base:=base
 A:=A.deeper (envOfC qual scope s.heap.objs.size f cd)
 N:=N
 s₀:=s
 H₀:=H
 env:=envOfC qual scope s.heap.objs.size f cd
 outer:=outer
 stack:=envOfC qual scope s.heap.objs.size f cd::outer
 ex:=[]
 calm:=true
 fn:=fun _=>true
 pn:=[]
 xe:=fun e s'=>wpAny (model P w) (A.deeper (envOfC qual scope s.heap.objs.size f cd)) (leaving (envOfC qual scope s.heap.objs.size f cd) e) (fun _ qq=>CX outer H s E e qq) (fun e' qq=>CX outer H s E e' qq) s'
theorem rN{sc:Scope}{n:Nat}{x:Str}(h:sc.names.lookup x=some .cell):∃c,(cellsFrom n sc.names []).lookup x=some c:=by
 have q:=PySem.W.cellsFrom_some sc.names n [] (.inl h);exact Option.isSome_iff_exists.mp q
theorem xP{CX:CXT}{P:Program}{w:World}{K:Frag}{mg:Str->Option Value}{base:Heap}{N ps:List Str}{qual:Str}{scope:Scope}{f:Addr}{cd:Value}{A:Around}{outer:List Env}{s s1:Shared}{H:Hp}{E:XK}{us:List Value}{vs:List V}
  (S:FnScope N ps scope) (hd:A.handled=none) (e0:Env0 P w K mg base A outer s H) (hl:vs.length=ps.length) (r:Vals vs us)
  (x:InCallC s s.heap.objs.size (bindL (envOfC qual scope s.heap.objs.size f cd).kindOf (ps.zip us) fun _=>none) (cellsFrom (s.heap.objs.size+1) scope.names []) (bindC (envOfC qual scope s.heap.objs.size f cd).kindOf (ps.zip us) fun _=>none) s1):
  Inv (xO CX P w K mg base N qual scope f cd A outer s H E) [] (start N vs) H s1:=by
 have kR:ps.length<=N.length:=by have:=congrArg List.length S.pre;rw[zAd]at this;lia
 obtain⟨h1,tk,rfl,hk⟩:=x.done;have sM:∀b:Addr,b∉(xO CX P w K mg base N qual scope f cd A outer s H E).ex:=fun b z=>absurd (show b∈([]:List Addr)from z) Zy
 refine⟨⟨e0.mod,S.kind,rfl,rfl,zA3 _,fun y z c h1 h2=>?_,fun y hy=>?_,fun y c _ h=>?_,fun _=>hd,Around.frames_deeper e0.frames,.inr ⟨rfl,rfl⟩,fun b z=>absurd z (sM b),e0.bs,e0.bsz,fun b _ _=>sM b,fun b z=>absurd z (sM b),e0.funs,e0.frf⟩,
  rfl,e0.bare,Un.kept hk,⟨_,x.toInCall.ns,fun i y v h1 h2 h3=>?_⟩,fun y c h=>⟨_,x.cell y c h⟩,e0.hok.fresh (Nat.le_refl _),fun y c h=>?_,fun p hp=>absurd (show p∈([]:List (Addr×Obj))from hp) Zy,e0.hok.kept hk,?_⟩
 .exact name_of_addr x.apart (PySem.mem_of_lookup h1) (PySem.mem_of_lookup h2)
 .have hy:scope.names.lookup y=some .cell\/scope.names.lookup y=some .free:=hy;rcases hy with hy|hy
  .exact rN hy
  .exact absurd rfl (S.nofree _ (PySem.mem_of_lookup hy))
 .exact Nat.le_of_lt (x.above y c (PySem.mem_of_lookup h))
 .have hi:i<vs.length:=by
   unfold start at h2;by_cases hi:i<vs.length
   .exact hi
   .rw[List.getElem?_append_right (by simpa using hi)]at h2;rw[List.getElem?_replicate]at h2;split at h2<;>cases h2
  have ha:vs[i]?=some v:=by
   unfold start at h2;rw[List.getElem?_append_left (by simpa using hi),List.getElem?_map]at h2
   cases e:vs[i]? with
   |none=>rw[e]at h2;cases h2
   |some a=>rw[e]at h2;cases h2;rfl
  obtain⟨u,hu,rv⟩:=r.get ha
  have hp:ps[i]?=some y:=by
   rw[<-S.pre,List.getElem?_take_of_lt Zz];exact h1
  have F5:ps.Nodup:=by rw[<-S.pre];exact S.nd.sublist (List.take_sublist _ _)
  refine⟨u,rv,?_⟩;rcases S.par y (zB8 hp)with k|k
  .exact .inl ⟨k,o9 F5 hp hu k⟩
  .obtain⟨c,e⟩:=rN (n:=s.heap.objs.size+1) k;refine .inr ⟨.inl k,c,e,?_⟩;have q:=x.cell y c e;rw[oh F5 hp hu (by show scope.names.lookup y≠_;rw[k];decide)]at q;exact q
 .exact e0.hok.fresh (Nat.le_of_lt (x.above y c (PySem.mem_of_lookup h)))
 .unfold start;show _=N.length;rw[zA2,zA1,List.length_replicate];lia
theorem Gr{CX:CXT}{P:Program}{w:World}{K:Frag}{mg:Str->Option Value}{base:Heap}{k:Nat}{f:Addr}{name qual:Str}{params:Arguments}{body:List Stmt}{scope:Scope}{dV kV doc pm ar ct oc:Value}{an od:Option Addr}
  {kS:Array (Option Value)} {N ps:List Str} {sp:Sp} (lk:K.lookup f=some ⟨oc,od,.func (PySem.W.fnOf name qual params body scope dV kV doc pm an ar ct),kS⟩) (gS:PySem.W.codeIn K ar qual=true) (S:FnScope N ps scope)
  (len:∀vs H Q E,sp vs H Q E->vs.length=ps.length)
  (gX:∀(A:Around) (outer:List Env) (s:Shared) (H:Hp) (vs:List V) (Q:VK) (E:XK),Room k (A.deeper (envOfC qual scope s.heap.objs.size f ar))->sp vs H Q E->
   ∃t,PSs (xO CX P w K mg base N qual scope f ar A outer s H E) body t/\t {nx:=fun _ H'=>Q .non H',rt:=Q} (start N vs) H):
  FnOk P w K mg base CX (k+1) f (PySem.W.fnOf name qual params body scope dV kV doc pm an ar ct) ps sp:=by
 refine⟨len,fun A outer s H args us vs Q E hr e0 hb r kU=>?_⟩;have hl:=len _ _ _ _ kU;have KX:K.In s.heap:=e0.mod.kin.keeps fun b o e=>(e0.bs b o e).1;have lim:s.heap.NoLimit:=e0.mod.nolimit.keeps fun b o e=>(e0.bs b o e).1
 have sP:∀y∈ps.zip us,scope.names.lookup y.1=some .local\/(scope.names.lookup y.1=some .cell/\((cellsFrom (s.heap.objs.size+1) scope.names []).lookup y.1).isSome=true):=fun⟨n,v⟩ hy=>by
  rcases S.par n (List.of_mem_zip hy).1 with q|q
  .exact .inl q
  .exact .inr ⟨q,PySem.W.cellsFrom_some _ _ _ (.inl q)⟩
 refine codeAny_call_function hr.depth (KX _ _ lk) rfl S.co S.gen rfl (PySem.W.codeRec_of KX gS) (hb _ _ _ _ ?_);refine wpAny_newFunctionEnv_cells S.kind sP fun env he s1 x=>?_;subst he;refine⟨lim.keeps x.toInCall.keep,codeAny_func ?_⟩;obtain⟨t,ht,hq⟩:=gX A outer s H vs Q E (hr.deeper _) kU;have I:Inv (xO CX P w K mg base N qual scope f ar A outer s H E) [] (start N vs) H s1:=xP S hr.hd e0 hl r x;refine wpAny_mono (ht [] s1 (start N vs) H _ I hq) (fun fl s' hs=>?_) fun e s' hs=>hs
 have fin:∀{ai:St} {H':Hp} {v:V} {u:Value},Inv (xO CX P w K mg base N qual scope f ar A outer s H E) [] ai H' s'->RelV v u->Q v H'->CE outer P w H s Q u s':=
  fun{ai H' v u} J rv q=>⟨v,H',J.os,J.bare,J.base,J.hok,rv,q⟩
 cases fl with
 |ret u=>
  obtain⟨v,ai,H',J,rv,q⟩:=hs;exact fin J rv q
 |next=>
  obtain⟨ai,H',J,q⟩:=hs;exact fin (v:=V.non) (u:=Value.none) J rfl q
 |brk=>
  obtain⟨_,_,_,q⟩:=hs;exact False.elim q
 |cont=>
  obtain⟨_,_,_,q⟩:=hs;exact False.elim q
section
variable{X:Cx}{x:Str}{p pos:Pos}{e:Expr}{es:List Expr}{t:TA}{id T:String}{r:List V->Hp->VK->Prop}
def tCB(r:List V->Hp->VK->Prop)(t:TA):TE:=fun σ H Q=>t σ H fun vs H1=>r vs H1 Q
theorem aQ(hc:dG X (.builtin id) r)(hg:Gl X x)(hm:X.mg x=none)(hv:bootBuiltins x=some (.builtin id))(ha:PA X (e::es) t)(hn:x≠"__name__":=by decide)(nr:(x==("__debug__":Str))=false:=by decide)
  (he:starEach (e::es) X.env=(false,eval e X.env)::starEach es X.env:=by rfl) (kR:(backTo pos (starEach es X.env)).any (·.1)=false:=by rfl):PE X (.Call (.Name x p) (e::es) [] pos) (tCB r t):=by
 intro Zt s σ H Q I h;refine wpAny_Call_Name_kw (iI I hg hm hv ?_ hn nr);exact PyProof.Rows.callWith_builtin1 (thn (ha pos Zt s σ H _ I h) fun us s1 ⟨vs,H1,I1,r1,q1⟩=>hc Zt s1 σ H1 vs us Q I1 r1 q1) he kR
theorem bJ(hc:dG X (.type T) r)(hg:Gl X x)(hm:X.mg x=none)(hv:bootBuiltins x=some (.type T))(ha:PA X (e::es) t)(hn:x≠"__name__":=by decide)(nr:(x==("__debug__":Str))=false:=by decide)
  (he:starEach (e::es) X.env=(false,eval e X.env)::starEach es X.env:=by rfl) (kR:(backTo pos (starEach es X.env)).any (·.1)=false:=by rfl):PE X (.Call (.Name x p) (e::es) [] pos) (tCB r t):=by
 intro Zt s σ H Q I h;refine wpAny_Call_Name_kw (iI I hg hm hv ?_ hn nr);exact PyProof.Rows.callWith_type1 (thn (ha pos Zt s σ H _ I h) fun us s1 ⟨vs,H1,I1,r1,q1⟩=>hc Zt s1 σ H1 vs us Q I1 r1 q1) he kR
end
end L2
namespace HT
open PySem PyProof.Rows
def lexLt:List Int->List Int->Bool
 |[],[]=>false
 |[],_::_=>true
 |_::_,[]=>false
 |x::xs,y::ys=>if x=y then lexLt xs ys else decide (x<y)
theorem lexLt_cons(x y:Int)(xs ys:List Int):lexLt (x::xs) (y::ys)=if x=y then lexLt xs ys else decide (x<y):=rfl
section
open PySem.SeqAt
open PySem.AutoSeq1 (wpAny_loadPart')
open PySem.MeetsSeq PySem.MeetsSeq2 PySem.MeetsSeq3
end
section
variable{prog:Program}{w:World}{A:Around}{E:Value->Shared->Prop}{s:Shared}
theorem cat_tup{t b:Addr}{vs ws:List Value}{Q:Value->Shared->Prop}(ht:IsTup s.heap t vs.toArray)(hb:IsTup s.heap b ws.toArray)(hv:vs≠[])
  (h1:ws=[]->Q (.ref t) s) (h2:ws≠[]->Q (.ref s.heap.objs.size) {s with heap:=s.heap.push {cls:=.type "tuple",data:=.seq (vs++ws).toArray}})
  (hsz:vs.length+ws.length<=sizeLine):wpAny (model prog w) A (binaryOp .Add (.ref t) (.ref b)) Q E s:=by
 obtain⟨⟨cls,dd,data,sl⟩,ho,hc,n,hd⟩:=id ht;obtain⟨⟨AW,qr,data2,nB⟩,ko,sQ,n2,hd2⟩:=id hb;simp only at hc hd sQ hd2;subst hc hd sQ hd2;have e:vs.toArray++ws.toArray=(vs++ws).toArray:=by simp
 by_cases hw:ws=[]
 .exact concat_meets ⟨_,ho,rfl⟩ ⟨_,ko,rfl⟩ noFill_tuple_add seq_tuple_add PySem.F.slot_tuple_add PySem.F.entry_tuple_add (PySem.F.args_tuple_add_2 _ _)
   (tuple_addW1 t b vs.toArray ws.toArray n n2 dd qr sl nB (by simpa using hv) (by simp[hw])) ⟨ho,ko,h1 hw⟩
 .refine concat_meets ⟨_,ho,rfl⟩ ⟨_,ko,rfl⟩ noFill_tuple_add seq_tuple_add PySem.F.slot_tuple_add PySem.F.entry_tuple_add (PySem.F.args_tuple_add_2 _ _)
   (tuple_addW2 t b vs.toArray ws.toArray n n2 dd qr sl nB (by simpa using hv) (by simpa using hw) (by rw[List.size_toArray,List.size_toArray];exact hsz)) ⟨ho,ko,?_⟩
  rw[e];exact h2 hw
def sIx(n d:Nat):Option Int->Nat
 |none=>d
 |some v=>if v<0 then(v+(n:Int)).toNat else min v.toNat n
theorem sIx_none(n d:Nat):sIx n d none=d:=rfl
theorem sIx_nat(n d k:Nat):sIx n d (some (k:Int))=min k n:=by
 show(if(k:Int)<0 then((k:Int)+(n:Int)).toNat else min (k:Int).toNat n)=min k n;rw[zAu Zz,zAi]
theorem Fd(n d:Nat)(hd:d<=n)(o:Option Int):sIx n d o<=n:=by
 cases o with
 |none=>exact hd
 |some v=>
  show(if v<0 then(v+(n:Int)).toNat else min v.toNat n)<=n;by_cases hv:v<0
  .rw[zAv hv];lia
  .rw[zAu hv];exact Nat.min_le_right _ _
theorem vC(v:Int)(n d:Nat):(if v<0 then max (v+(n:Int)) 0 else min v (n:Int))=((sIx n d (some v):Nat):Int):=by
 show(if v<0 then max (v+(n:Int)) 0 else min v (n:Int))=(((if v<0 then(v+(n:Int)).toNat else min v.toNat n):Nat):Int);by_cases hv:v<0
 .simp only[if_pos hv];lia
 .simp only[if_neg hv];lia
theorem uC(lo hi:Option Int)(n:Nat):Builtin.Slice.sliceAdjust lo hi 1 (n:Int)=(((sIx n 0 lo:Nat):Int),((sIx n n hi:Nat):Int)):=by
 have h1:¬((1:Int)<0):=Zz
 unfold Builtin.Slice.sliceAdjust;simp only[h1,if_false];refine Prod.ext ?_ ?_
 .cases lo with
  |none=>rfl
  |some v=>exact vC v n 0
 .cases hi with
  |none=>rfl
  |some v=>exact vC v n n
theorem uD(i j:Nat):Builtin.Slice.slicePlaces (i:Int) (j:Int) 1=j-i:=by
 unfold Builtin.Slice.slicePlaces;have h1:(1:Int)>0:=Zz
 simp only[h1,if_true,Int.ediv_one];split<;>lia
theorem lG{v:Value}{o:Option Int}{Q:Option Int->Shared->Prop}(p:IsPart v o)(h:Q o s):wpAny (model prog w) A (Builtin.Slice.slicePartIndex v) Q E s:=by
 cases p with
 |none=>exact slicePart_none h
 |int i t=>exact slicePart_int h
theorem fH{sl:Addr}{vl vu:Value}{lo hi:Option Int}{n:Nat}{Q:Int×Int×Nat->Shared->Prop}(hs:s.heap.IsSliceOf sl vl vu .none)(pl:IsPart vl lo)(pu:IsPart vu hi)
  (h:Q (((sIx n 0 lo:Nat):Int),1,sIx n n hi-sIx n 0 lo) s):wpAny (model prog w) A (Builtin.Slice.sliceApplied (.ref sl) (pure (n:Int))) Q E s:=by
 obtain⟨os,nE,yA,sR⟩:=id hs;unfold Builtin.Slice.sliceApplied Builtin.Slice.sliceFields;refine zAx (zAx (wpAny_field nE sR (x:=vl) rfl (zAx (wpAny_field nE sR (x:=vu) rfl (zAx (wpAny_field nE sR (x:=.none) rfl (zB0 ?_)))))));refine zAx (slicePart_none ?_);show wpAny _ _ (if((1:Int)==0)=true then _ else _) _ _ s;rw[zAu Zx];refine zAx (lG pl (zAx (lG pu (zAx (zB0 ?_)))));show wpAny _ _ (match Builtin.Slice.sliceAdjust lo hi 1 (n:Int)with | (lo,hi)=>pure (lo,(1:Int),Builtin.Slice.slicePlaces lo hi 1)) _ _ s;rw[uC lo hi n];show wpAny _ _ (pure (((sIx n 0 lo:Nat):Int),(1:Int),Builtin.Slice.slicePlaces ((sIx n 0 lo:Nat):Int) ((sIx n n hi:Nat):Int) 1)) _ _ s;rw[uD];exact zB0 h
theorem yV(xs:Array Value)(i k:Nat):((List.range k).filterMap fun(m:Nat)=>xs[((i:Int)+(m:Int)*1).toNat]?).toArray=((xs.toList.drop i).take k).toArray:=by
 have e:(fun(m:Nat)=>xs[((i:Int)+(m:Int)*1).toNat]?)=fun m=>xs[i+m]?:=by
  funext m;have:((i:Int)+(m:Int)*1).toNat=i+m:=Zz
  rw[this]
 rw[e];have:=pick_run xs i k;rw[List.filterMap_map]at this;have e2:((fun x=>xs[x]?)∘fun x=>i+x)=fun m=>xs[i+m]?:=rfl;rw[e2]at this;rw[this]
theorem getItem_tuple_cut{t sl:Addr}{items:Array Value}{vl vu:Value}{lo hi:Option Int}{Q:Value->Shared->Prop}(ht:IsTup s.heap t items)(hs:s.heap.IsSliceOf sl vl vu .none)(pl:IsPart vl lo)(pu:IsPart vu hi)
  (hw:¬(sIx items.size 0 lo=0/\sIx items.size items.size hi=items.size))
  (h:Q (.ref s.heap.objs.size) {s with heap:=s.heap.push {cls:=.type "tuple",data:=.seq ((items.toList.drop (sIx items.size 0 lo)).take (sIx items.size items.size hi-sIx items.size 0 lo)).toArray}})
  (hsz:items.size<=sizeLine):wpAny (model prog w) A (getItem (.ref t) (.ref sl)) Q E s:=by
 have fA:sizeOk (.seq ((items.toList.drop (sIx items.size 0 lo)).take (sIx items.size items.size hi-sIx items.size 0 lo)).toArray):=by
  show((items.toList.drop (sIx items.size 0 lo)).take (sIx items.size items.size hi-sIx items.size 0 lo)).toArray.size<=sizeLine;rw[zA8,zAd,List.length_drop,zA9];lia
 have hj:sIx items.size items.size hi<=items.size:=Fd _ _ (zA3 _) hi;obtain⟨os,nE,yA,sR⟩:=id hs
 have AX:s.TypeIs (.ref sl) "slice":=⟨os,nE,yA⟩
 unfold getItem
 try with_reducible refine wpAny_holding ?_
 first|refine zAx (zB0 ?_)|skip
 refine zAx (wpAny_sequenceKey ht.typeIs Zx ?_)
 refine zAx (wpAny_callSpecial?_slot (name:=Str.ofString "__getitem__") ht.typeIs PyProof.Rows.slot_tuple_getitem
  (wpAny_call_entry PyProof.Rows.slot_tuple_getitem ht.typeIs entry_tuple_getitem ?_ (args_tuple_getitem _ _)))
 show wpAny _ _ (Builtin.Tuple.tupleItemsOf (.ref t)>>=_) _ _ s;refine zAx (tupleItemsOf_ ht ?_);refine zAx (wpAny_typeOf AX ?_);rw[zAv Zx];refine zAx (fH hs pl pu ?_)
 have KD:¬((((sIx items.size 0 lo:Nat):Int)==0&&(1:Int)==1&&(sIx items.size items.size hi-sIx items.size 0 lo)==items.size)=true):=by
  intro q;rw[zAc,zAc]at q;have q1:((sIx items.size 0 lo:Nat):Int)=0:=eq_of_beq q.1.1;have q2:sIx items.size items.size hi-sIx items.size 0 lo=items.size:=eq_of_beq q.2;exact hw ⟨Zz,Zz⟩
 show wpAny _ _ (if(((sIx items.size 0 lo:Nat):Int)==0&&(1:Int)==1&&(sIx items.size items.size hi-sIx items.size 0 lo)==items.size)=true then _ else _) _ _ s;rw[zAu KD,yV]
 first
  |exact zAx (m:=Builtin.Tuple.tupleExact _) (wpAny_newObj_type (zB0 ⟨_,rfl,zB0 h⟩) fA)
  |exact zAx (m:=Builtin.Tuple.tupleExact _) (wpAny_newObj_type (zAx (zB0 (zB0 ⟨_,rfl,zB0 h⟩))) fA)
  |exact zAx (zAx (m:=Builtin.Tuple.tupleExact _) (wpAny_newObj_type (zB0 (zB0 ⟨_,rfl,zB0 h⟩)) fA))
  |exact zAx (zAx (m:=Builtin.Tuple.tupleExact _) (wpAny_newObj_type (zB0 ⟨_,rfl,zB0 h⟩) fA))
end
end HT
namespace L2
open PySem PySem.Spec PyProof.Rows
abbrev TO:=St->Hp->(Option Int->Hp->Prop)->Prop
def PO(X:Cx)(e:Option Expr)(t:TO):Prop:=
 ∀(Zt:List (Addr×Obj)) (s:Shared) (σ:St) (H:Hp) (Q:Option Int->Hp->Prop),Inv X Zt σ H s->t σ H Q->
  wpAny (model X.prog X.w) X.A (evalPart e X.env) (fun u s'=>∃o H',Inv X Zt σ H' s'/\IsPart u o/\Q o H') X.xe s
def BJ:TO:=fun _ H Q=>Q none H
def Gs(t:TE):TO:=fun σ H Q=>t σ H fun x H1=>∃i,x=.int i/\Q (some i) H1
theorem intsAre_of{ns:List Int}:∀{us:List Value},Vals (ns.map V.int) us->IntsAre us ns:=by
 induction ns with
 |nil=>intro us r;rw[List.map_nil]at r;cases r;exact .nil
 |cons n ns ih=>
  intro us r;rw[zAk]at r
  cases r with
  |cons r1 r2=>
   obtain⟨t,e⟩:=r1;subst e;exact .cons n t (ih r2)
section
variable{X:Cx}{e:Expr}{te:TE}{lo hi:Option Expr}{tl th:TO}{pos p2:Pos}
theorem ik:PO X none BJ:=by
 intro Zt s σ H Q I h;rw[evalPart_none];exact zB0 ⟨none,H,I,.none,h⟩
theorem il(h:PE X e te):PO X (some e) (Gs te):=by
 intro Zt s σ H Q I hw;rw[evalPart_some];refine thn (h Zt s σ H _ I hw) fun u s1 ⟨x,H1,I1,r1,q1⟩=>?_;obtain⟨i,rfl,q⟩:=q1;obtain⟨t,rfl⟩:=r1;exact⟨some i,H1,I1,.int i t,q⟩
def SlR(X:Cx)(r:V->Option Int->Option Int->Hp->VK->Prop):Prop:=
 ∀(Zt:List (Addr×Obj)) (s:Shared) (σ:St) (H:Hp) (x:V) (v vl vu:Value) (lo hi:Option Int) (sl:Addr) (Q:VK),Inv X Zt σ H s->RelV x v->s.heap.IsSliceOf sl vl vu .none->IsPart vl lo->IsPart vu hi->r x lo hi H Q->
  ∃T id,typeLookup (.type T) "__getitem__"=pure (some (.builtin id))/\s.TypeIs v T/\wpAny (model X.prog X.w) X.A (getItem v (.ref sl)) (EP X Zt σ Q) X.xe s
def tSl(r:V->Option Int->Option Int->Hp->VK->Prop)(te:TE)(tl th:TO):TE:=fun σ H Q=>te σ H fun x H1=>tl σ H1 fun l H2=>th σ H2 fun u H3=>r x l u H3 Q
theorem fJ{r:V->Option Int->Option Int->Hp->VK->Prop}(hr:SlR X r)(he:PE X e te)(hl:PO X lo tl)(hu:PO X hi th):PE X (.Subscript e (.Slice lo hi none p2) pos) (tSl r te tl th):=by
 intro Zt s σ H Q I h;refine Subscript_ (thn (he Zt s σ H _ I h) fun v s1 ⟨x,H1,I1,r1,q1⟩=>?_);refine wpAny_Slice (thn (hl Zt s1 σ H1 _ I1 q1) fun vl s2 ⟨l,H2,I2,pl,q2⟩=>thn (hu Zt s2 σ H2 _ I2 q2) fun vu s3 ⟨u,H3,I3,pu,q3⟩=>?_);rw[evalPart_none];refine zB0 ?_;have I4:Inv X Zt σ H3 {s3 with heap:=s3.heap.push {cls:=.type "slice",data:=.fields #[vl,vu,.none]}}:=I3.kept (t':=s3.toks) fun b ob q=>zAy _ q;obtain⟨T,id,hT,ht,hg⟩:=hr Zt {s3 with heap:=s3.heap.push {cls:=.type "slice",data:=.fields #[vl,vu,.none]}} σ H3 x v vl vu l u s3.heap.objs.size Q I4 r1 (Heap.IsSliceOf.new ..) pl pu q3;show wpAny (model X.prog X.w) X.A (subscriptTail e (.Slice lo hi none p2) v (.ref s3.heap.objs.size)) (EP X Zt σ Q) X.xe {s3 with heap:=s3.heap.push {cls:=.type "slice",data:=.fields #[vl,vu,.none]}};exact tail_any (ops:=[.ref s3.heap.objs.size,v]) ht hT hg (by with_unfolding_all rfl)
def gA(xs:List V)(lo hi:Option Int):List V:=(xs.drop (HT.sIx xs.length 0 lo)).take (HT.sIx xs.length xs.length hi-HT.sIx xs.length 0 lo)
theorem jR(xs:List V)(lo hi:Option Int):(gA xs lo hi).length<=xs.length:=by
 unfold gA;rw[zAd,List.length_drop];lia
inductive RSlTI(K:Frag)(x:V)(lo:Option Int)(hi:Option Int)(H:Hp)(Q:VK):Prop
 |mk:∀a xs,(x=.ref a)->(SqT K H a xs)->(¬(HT.sIx xs.length 0 lo=0/\HT.sIx xs.length xs.length hi=xs.length))->(∀p,H p=none->Q (.ref p) (upd H p (.tup (gA xs lo hi))))->RSlTI K x lo hi H Q
def Iw(K:Frag):V->Option Int->Option Int->Hp->VK->Prop:=fun x lo hi H Q=>RSlTI K x lo hi H Q
theorem Fe:SlR X (Iw X.K):=by
 intro Zt s σ H x v vl vu lo hi sl Q I rx hs pl pu h;obtain⟨a,xs,rfl,hx,hw,q⟩:=h;cases rx;obtain⟨Zr,r,ht,hz⟩:=I.tuple hx;have hlen:Zr.toArray.size=xs.length:=by rw[zA8];exact r.length.symm
 refine⟨"tuple",_,PyProof.Rows.slot_tuple_getitem.lookup,ht.typeIs,?_⟩;refine HT.getItem_tuple_cut ht hs pl pu (by rw[hlen];exact hw) ?_ (by rw[hlen];exact hz);rw[hlen];refine⟨.ref s.heap.objs.size,_,I.laid (t':=s.toks) (o:=.tup (gA xs lo hi)) (fun b ob q=>zAy _ q) (zA3 _) ?_,rfl,q _ (I.hok.fresh (zA3 _))⟩;exact⟨Nat.le_trans (jR xs lo hi) hz,_,(r.drop (HT.sIx xs.length 0 lo)).take (HT.sIx xs.length xs.length hi-HT.sIx xs.length 0 lo),IsTup.new _ _⟩
inductive RCatTI(K:Frag)(x:V)(y:V)(H:Hp)(Q:VK):Prop
 |mk:∀a b xs ys,(x=.ref a)->(y=.ref b)->(SqT K H a xs)->(SqT K H b ys)->(xs≠[])->(xs.length+ys.length<=sizeLine)->((ys=[]->Q (.ref a) H))->((ys≠[]->∀p,H p=none->Q (.ref p) (upd H p (.tup (xs++ys)))))->RCatTI K x y H Q
def Gu(K:Frag):R2:=fun x y H Q=>RCatTI K x y H Q
theorem Vals.nil_iff{xs:List V}{us:List Value}(r:Vals xs us):us=[]↔xs=[]:=by
 cases r with
 |nil=>simp
 |cons _ _=>simp
theorem vD:OpR X (binaryOp .Add) (Gu X.K):=by
 intro Zt s σ H x y v u Q I rx ry h;obtain⟨a,b,xs,ys,rfl,rfl,ha,hb,hx,hz,q1,q2⟩:=h;cases rx;cases ry;obtain⟨Zr,r1,p1,_⟩:=I.tuple ha;obtain⟨bq,r2,p2,_⟩:=I.tuple hb;refine HT.cat_tup p1 p2 (fun z=>hx (r1.nil_iff.mp z)) (fun z=>⟨.ref a,H,I,rfl,q1 (r2.nil_iff.mp z)⟩) (fun z=>?_) (by rw[<-r1.length,<-r2.length];exact hz);refine⟨.ref s.heap.objs.size,_,I.laid (t':=s.toks) (o:=.tup (xs++ys)) (fun b ob q=>zAy _ q) (zA3 _) ?_,rfl,q2 (fun w=>z (r2.nil_iff.mpr w)) _ (I.hok.fresh (zA3 _))⟩;exact⟨by rw[zA2];exact hz,_,r1.append r2,IsTup.new _ _⟩
end
def ixN(n:Nat)(i:Int):Option Nat:=if 0<=i then(if i<n then some i.toNat else none)else if -(n:Int)<=i then some (i+n).toNat else none
def atI{α:Type}(xs:List α)(i:Int):Option α:=(ixN xs.length i).bind fun j=>xs[j]?
theorem vG{n:Nat}{i:Int}{j:Nat}(h:ixN n i=some j):seqIndex? i n=some j/\j<n/\-(n:Int)<=i/\i<n:=by
 unfold ixN at h;by_cases h0:0<=i
 .rw[zAv h0]at h;by_cases h1:i<n
  .rw[zAv h1]at h;have e:i.toNat=j:=zAl h;exact⟨by rw[seqIndex_of h0 h1,e],Zz,Zz,h1⟩
  .rw[zAu h1]at h;cases h
 .rw[zAu h0]at h;by_cases h1:-(n:Int)<=i
  .rw[zAv h1]at h;have e:(i+n).toNat=j:=zAl h;exact⟨by rw[seqIndex_neg Zz h1,e],Zz,h1,Zz⟩
  .rw[zAu h1]at h;cases h
theorem vH{α:Type}{xs:List α}{i:Int}{v:α}(h:atI xs i=some v):∃j,seqIndex? i xs.length=some j/\xs[j]?=some v/\j<xs.length/\-(xs.length:Int)<=i/\i<xs.length:=by
 unfold atI at h
 cases e:ixN xs.length i with
 |none=>rw[e]at h;cases h
 |some j=>
  rw[e]at h;obtain⟨h1,h2,h3,h4⟩:=vG e;exact⟨j,h1,h,h2,h3,h4⟩
theorem dC{α:Type}{xs:List α}{j:Nat}{v:α}(h:xs[j]?=some v):atI xs (j:Int)=some v:=by
 have hj:j<xs.length:=(zAa.mp h).1
 have e:ixN xs.length (j:Int)=some j:=by
  unfold ixN;rw[if_pos Zz,if_pos Zz];simp
 unfold atI;rw[e];exact h
def pZ(b:Expr):Prop:=∀o i,subscripted b false o i=operate [o,i] (getItem o i)
def IxR(X:Cx)(r:R2):Prop:=
 ∀(value slice:Expr) (Zt:List (Addr×Obj)) (s:Shared) (σ:St) (H:Hp) (x y:V) (v u:Value) (Q:VK),Inv X Zt σ H s->RelV x v->RelV y u->r x y H Q->
  subscripted slice false v u=operate [v,u] (getItem v u)->wpAny (model X.prog X.w) X.A (subscriptTail value slice v u) (EP X Zt σ Q) X.xe s
def MtR(X:Cx)(id:String)(r:V->List V->Hp->VK->Prop):Prop:=
 ∀(Zt:List (Addr×Obj)) (s:Shared) (σ:St) (H:Hp) (x:V) (xs:List V) (v:Value) (us:List Value) (Q:VK),Inv X Zt σ H s->RelV x v->Vals xs us->r x xs H Q->
  wpAny (model X.prog X.w) X.A (call (.builtin id) (v::us)) (EP X Zt σ Q) X.xe s
section
variable{X:Cx}{a b:Expr}{ta tb:TE}{pos:Pos}
theorem Dz{r:R2}(hr:IxR X r)(ha:PE X a ta)(hb:PE X b tb)(hs:pZ b):PE X (.Subscript a b pos) (tOp r ta tb):=by
 intro Zt s σ H Q I h;exact Subscript_ (Ew ha hb I h fun v u s2 x y H2 I2 rx ry q=>hr a b Zt s2 σ H2 x y v u Q I2 rx ry q (hs _ _))
inductive RIxLI(K:Frag)(x:V)(y:V)(H:Hp)(Q:VK):Prop
 |mk:∀p xs i v,(x=.ref p)->(y=.int i)->(SqL K H p xs)->(atI xs i=some v)->(Q v H)->RIxLI K x y H Q
def Gv(K:Frag):R2:=fun x y H Q=>RIxLI K x y H Q
inductive RIxTI(K:Frag)(x:V)(y:V)(H:Hp)(Q:VK):Prop
 |mk:∀p xs i v,(x=.ref p)->(y=.int i)->(SqT K H p xs)->(atI xs i=some v)->(Q v H)->RIxTI K x y H Q
def Gw(K:Frag):R2:=fun x y H Q=>RIxTI K x y H Q
theorem bG:IxR X (Gv X.K):=by
 intro value slice Zt s σ H x y v u Q I rx ry h hs;obtain⟨p,xs,i,z,rfl,rfl,hq,he,q⟩:=h;cases rx;obtain⟨t,rfl⟩:=ry;obtain⟨Zr,r,pl,hz⟩:=I.list hq;obtain⟨j,h1,h2,h3,h4,h5⟩:=vH he;obtain⟨w,ew,eC⟩:=r.get h2;have hl:=r.length;have hn:=jx
 have fin:EP X Zt σ Q w s:=⟨z,H,I,eC,q⟩
 by_cases h0:0<=i
 .have hj:i.toNat=j:=by
   rw[seqIndex_of h0 h5]at h1;exact zAl h1
  exact item_listR pl.isList h0 Zz (by rw[hj];simpa using ew) fin hs
 .have hj:(i+(Zr.toArray.size:Int)).toNat=j:=by
   rw[seqIndex_neg Zz h4]at h1;rw[zA8,<-hl];exact zAl h1
  exact subscriptTail_builtinR (x:=w) pl.isList.typeIs slot_list_getitem.lookup
   (wpAny_getItem_list_neg (Q:=fun r s'=>r=w/\EP X Zt σ Q r s') pl.isList Zz (by rw[List.size_toArray]<;>lia) Zz (by rw[hj];simpa using ew) ⟨rfl,fin⟩) hs
theorem bK:IxR X (Gw X.K):=by
 intro value slice Zt s σ H x y v u Q I rx ry h hs;obtain⟨p,xs,i,z,rfl,rfl,hq,he,q⟩:=h;cases rx;obtain⟨t,rfl⟩:=ry;obtain⟨Zr,r,pl,hz⟩:=I.tuple hq;obtain⟨j,h1,h2,h3,h4,h5⟩:=vH he;obtain⟨w,ew,eC⟩:=r.get h2;have hl:=r.length;have hn:=jx
 have fin:EP X Zt σ Q w s:=⟨z,H,I,eC,q⟩
 exact subscriptTail_builtinR (x:=w) pl.typeIs slot_tuple_getitem.lookup
  (getItem_tuple (j:=j) (Q:=fun r s'=>r=w/\EP X Zt σ Q r s') pl Zz Zz (by rw[List.size_toArray,<-hl];exact h1) (by simpa using ew) ⟨rfl,fin⟩) hs
theorem uE(Zr:List Value)(n j:Nat)(u:Value):Obj.mapSeq (·.setIfInBounds j u) {cls:=.type "list",data:=.seq Zr.toArray n}={cls:=.type "list",data:=.seq (Zr.set j u).toArray n}:=by
 simp[Obj.mapSeq]
theorem Inv.lst{Zt:List (Addr×Obj)}{σ:St}{H:Hp}{s:Shared}{p:Addr}{xs:List V}(I:Inv X Zt σ H s)(h:H p=some (.lst xs)):
  ∃(Zr:List Value) (n:Nat),Vals xs Zr/\s.heap.get? p=some {cls:=.type "list",data:=.seq Zr.toArray n}/\xs.length<=sizeLine:=by
 obtain⟨z,Zr,n,r,e⟩:=I.hok p _ h;exact⟨Zr,n,r,e,z⟩
theorem Inv.lstUpd{Zt:List (Addr×Obj)}{σ:St}{H:Hp}{s:Shared}{p:Addr}{xs ys:List V}{Zr its':List Value}{n n':Nat}{f:Obj->Obj}(I:Inv X Zt σ H s)(h:H p=some (.lst xs))
  (ho:s.heap.get? p=some {cls:=.type "list",data:=.seq Zr.toArray n}) (hf:f {cls:=.type "list",data:=.seq Zr.toArray n}={cls:=.type "list",data:=.seq its'.toArray n'}) (r:Vals ys its') (hz:ys.length<=sizeLine) (t:Nat):
  Inv X Zt σ (upd H p (.lst ys)) {s with heap:=s.heap.update p f,toks:=t}:=by
 have e:(s.heap.update p f).get? p=some {cls:=.type "list",data:=.seq its'.toArray n'}:=by
  rw[Heap.get?_update_self f ho (by rw[hf]<;>rfl),hf]
 refine I.write (x:=p) (e:=p) (by rw[h];trivial) (.inl rfl) (fun b u hb q=>(Heap.get?_update_other _ _ (Ne.symm hb)).trans q) ⟨_,e⟩ ?_;exact⟨hz,its',n',r,e⟩
inductive RSetLI(o:V)(i:V)(v:V)(H:Hp)(Q:Hp->Prop):Prop
 |mk:∀p xs k j,(o=.ref p)->(i=.int k)->(H p=some (.lst xs))->(ixN xs.length k=some j)->(Q (upd H p (.lst (xs.set j v))))->RSetLI  o i v H Q
def Gx:V->V->V->Hp->(Hp->Prop)->Prop:=fun o i v H Q=>RSetLI  o i v H Q
theorem set_list:Et X Gx:=by
 intro Zt s σ H o i v ov iv u Q I ro ri rv h;obtain⟨p,xs,k,j,rfl,rfl,hp,hj,q⟩:=h;cases ro;obtain⟨t,rfl⟩:=ri;obtain⟨Zr,n,r,ho,hz⟩:=I.lst hp;obtain⟨h1,h2,h3,h4⟩:=vG hj;have hl:=r.length;have hn:=jx
 have I':Inv X Zt σ (upd H p (.lst (xs.set j v))) {s with heap:=s.heap.update p (Obj.mapSeq (·.setIfInBounds j u))}:=
  I.lstUpd hp ho (uE Zr n j u) (r.set rv j) (by rw[List.length_set];exact hz) s.toks
 by_cases h0:0<=k
 .have hk:k.toNat=j:=by
   rw[seqIndex_of h0 h4]at h1;exact zAl h1
  exact PySem.W.ki_setAt ho h0 Zz (by rw[zA8,<-hl];exact h4) (by rw[hk];exact⟨_,I',q⟩)
 .have hk:(k+(Zr.toArray.size:Int)).toNat=j:=by
   rw[seqIndex_neg Zz h3]at h1;rw[zA8,<-hl];exact zAl h1
  exact PySem.W.ki_setBack ho Zz (by rw[zA8,<-hl];exact h3) Zz (by rw[hk];exact⟨_,I',q⟩)
theorem q8(lo hi:Option Int)(n:Nat):(sliceBounds lo hi none n).1=((HT.sIx n 0 lo:Nat):Int)/\(sliceBounds lo hi none n).2.1=((HT.sIx n n hi:Nat):Int)/\(sliceBounds lo hi none n).2.2=1:=by
 refine⟨?_,?_,rfl⟩
 .cases lo with
  |none=>simp[sliceBounds,HT.sIx]
  |some i=>
   simp only[sliceBounds,HT.sIx,Option.getD_none,show(1:Int)>0 by decide,if_true];by_cases h:i<0
   .simp only[h,if_true]<;>lia
   .simp only[h,if_false]<;>lia
 .cases hi with
  |none=>simp[sliceBounds,HT.sIx]
  |some i=>
   simp only[sliceBounds,HT.sIx,Option.getD_none,show(1:Int)>0 by decide,if_true];by_cases h:i<0
   .simp only[h,if_true]<;>lia
   .simp only[h,if_false]<;>lia
theorem mY(Zr:List Value)(lo hi:Option Int):slicePick Zr.toArray lo hi none=((Zr.drop (HT.sIx Zr.length 0 lo)).take (HT.sIx Zr.length Zr.length hi-HT.sIx Zr.length 0 lo)).toArray:=by
 obtain⟨h1,h2,h3⟩:=q8 lo hi Zr.toArray.size;unfold slicePick;rw[h1,h2,h3];simp only[sliceRange_one,pick_run,List.size_toArray]<;>rfl
inductive RSlLI(K:Frag)(x:V)(lo:Option Int)(hi:Option Int)(H:Hp)(Q:VK):Prop
 |mk:∀a xs,(x=.ref a)->(SqL K H a xs)->(∀p,H p=none->Q (.ref p) (upd H p (.lst (gA xs lo hi))))->RSlLI K x lo hi H Q
def Iz(K:Frag):V->Option Int->Option Int->Hp->VK->Prop:=fun x lo hi H Q=>RSlLI K x lo hi H Q
theorem BK:SlR X (Iz X.K):=by
 intro Zt s σ H x v vl vu lo hi sl Q I rx hs pl pu h;obtain⟨a,xs,rfl,hx,q⟩:=h;cases rx;obtain⟨Zr,r,ht,hz⟩:=I.list hx;have hlen:=r.length;refine⟨"list",_,slot_list_getitem.lookup,ht.isList.typeIs,?_⟩;refine wpAny_getItem_list_slice ht.isList hs pl pu .none Zy ?_ (by rw[List.size_toArray]<;>lia);rw[mY,<-hlen];refine⟨.ref s.heap.objs.size,_,I.laid (t':=s.toks) (o:=.lst (gA xs lo hi)) (fun b ob q=>Heap.get?_push_of_some _ q) (zA3 _) ?_,rfl,q _ (I.hok.fresh (zA3 _))⟩;exact⟨Nat.le_trans (jR xs lo hi) hz,_,0,(r.drop (HT.sIx xs.length 0 lo)).take (HT.sIx xs.length xs.length hi-HT.sIx xs.length 0 lo),Heap.get?_push_size _ rfl⟩
theorem aZ:dG X (.builtin "len") (fun xs H Q=>∃p ys,xs=[.ref p]/\(SqL X.K H p ys\/SqT X.K H p ys)/\Q (.int ys.length) H):=by
 intro Zt s σ H xs us Q I r h;obtain⟨p,ys,rfl,hq,q⟩:=h;obtain⟨u,rfl,rx⟩:=vals1 r;cases rx;have hn:=jx;rcases hq with hq|hq
 .obtain⟨Zr,r',pl,hz⟩:=I.list hq;have hlen:=r'.length;exact Calls.call_len_list pl.isList (by simp only[List.size_toArray]<;>lia) ⟨.int ys.length,H,I.tok _,⟨s.toks+1,by rw[List.size_toArray,hlen]⟩,q⟩
 .obtain⟨Zr,r',pl,hz⟩:=I.tuple hq;have hlen:=r'.length;exact len_tuple pl (by simp only[List.size_toArray]<;>lia) ⟨.int ys.length,H,I.tok _,⟨s.toks+1,by rw[List.size_toArray,hlen]⟩,q⟩
theorem j0:dG X (.type "list") (fun xs H Q=>∃p ys,xs=[.ref p]/\(SqL X.K H p ys\/SqT X.K H p ys)/\∀l,H l=none->Q (.ref l) (upd H l (.lst ys))):=by
 intro Zt s σ H xs us Q I r h;obtain⟨p,ys,rfl,hq,q⟩:=h;obtain⟨u,rfl,rx⟩:=vals1 r;cases rx
 have fin:∀(Zr:List Value),Vals ys Zr->ys.length<=sizeLine->∀(h':Heap) (c':Nat),(∀b o',s.heap.get? b=some o'->h'.get? b=some o')->
   h'.get? s.heap.objs.size=some {cls:=.type "list",dict:=none,data:=.seq Zr.toArray c',slots:=#[]}->EP X Zt σ Q (.ref s.heap.objs.size) {s with heap:=h'}:=fun Zr r' hz h' c' kp e=>
  ⟨.ref s.heap.objs.size,_,I.laid (t':=s.toks) kp (zA3 _) (show ObjOk X.prog X.w _ h' _ (.lst ys)from⟨hz,Zr,c',r',e⟩),rfl,q _ (I.hok.fresh (zA3 _))⟩
 rcases hq with hq|hq
 .obtain⟨Zr,r',pl,hz⟩:=I.list hq;have hlen:=r'.length;obtain⟨o,ho,hc,n,hd⟩:=pl.isList;exact call_list_seq p (.inl rfl) ho hc hd (fun h' c' kp e=>fin Zr r' hz h' c' kp e) (by simp only[List.size_toArray]<;>lia)
 .obtain⟨Zr,r',pl,hz⟩:=I.tuple hq;have hlen:=r'.length;obtain⟨o,ho,hc,n,hd⟩:=pl;exact call_list_seq p (.inr rfl) ho hc hd (fun h' c' kp e=>fin Zr r' hz h' c' kp e) (by simp only[List.size_toArray]<;>lia)
theorem bA:dG X (.type "tuple") (fun xs H Q=>∃p ys,xs=[.ref p]/\((SqL X.K H p ys/\∀l,H l=none->Q (.ref l) (upd H l (.tup ys)))\/(SqT X.K H p ys/\Q (.ref p) H))):=by
 intro Zt s σ H xs us Q I r h;obtain⟨p,ys,rfl,h⟩:=h;obtain⟨u,rfl,rx⟩:=vals1 r;cases rx;rcases h with⟨hq,q⟩|⟨hq,q⟩
 .obtain⟨Zr,r',pl,hz⟩:=I.list hq;have hlen:=r'.length;refine call_tuple_list pl.isList (fun h' kp=>?_) (by simp only[List.size_toArray]<;>lia);have I1:Inv X Zt σ H {s with heap:=h'}:=I.kept (t':=s.toks) kp
  have I2:Inv X Zt σ (upd H h'.objs.size (.tup ys)) {s with heap:=h'.push {cls:=.type "tuple",data:=.seq Zr.toArray}}:=
   I1.laid (t':=s.toks) (fun b o e=>zAy _ e) (zA3 _) (show ObjOk X.prog X.w _ _ _ (.tup ys)from⟨hz,Zr,r',IsTup.new _ _⟩)
  exact⟨.ref h'.objs.size,_,I2,rfl,q _ (I1.hok.fresh (zA3 _))⟩
 .obtain⟨Zr,r',pl,hz⟩:=I.tuple hq;exact call_tuple_same pl ⟨.ref p,H,I,rfl,q⟩
def tyV(K:Frag)(T:String)(x:V)(H:Hp):Prop:=match x with
 |.str _=>T="str"
 |.int _=>T="int"
 |.ref p=>(T="list"/\∃xs,SqL K H p xs)\/(T="tuple"/\∃o,K.lookup p=some o/\o.cls=.type "tuple"/\o.dict=none) \/
   (T="dict"/\((∃Zs,H p=some (.dK Zs))\/∃Zs,H p=some (.dT Zs)))\/(T="set"/\∃S n,H p=some (.set S n))
 |_=>False
theorem Ff{Zt:List (Addr×Obj)}{σ:St}{H:Hp}{s:Shared}{T:String}{x:V}{v:Value}(I:Inv X Zt σ H s)(r:RelV x v)(ty:tyV X.K T x H):
  s.TypeIs v T/\∀a,v=.ref a->∃ob,s.heap.get? a=some ob/\ob.dict=none:=by
 cases x with
 |str z=>
  obtain⟨t,rfl⟩:=r;cases(show T="str" from ty);exact⟨typeIs_str s z t,fun _ e=>nomatch e⟩
 |int i=>
  obtain⟨t,rfl⟩:=r;cases(show T="int" from ty);exact⟨typeIs_int s i t,fun _ e=>nomatch e⟩
 |ref p=>
  cases r;rcases ty with⟨rfl,xs,hq⟩|⟨rfl,o,hk,hc,hd⟩|⟨rfl,hk⟩|⟨rfl,S,n,hk⟩
  .obtain⟨Zr,_,pl,_⟩:=I.list hq;refine⟨pl.isList.typeIs,fun a e=>?_⟩;cases e;obtain⟨o,n,e,c,hd,_⟩:=pl;exact⟨o,e,hd⟩
  .refine⟨⟨o,I.kIn p o hk,hc⟩,fun a e=>?_⟩;cases e;exact⟨o,I.kIn _ o hk,hd⟩
  .have z:∃o,s.heap.get? p=some o/\o.ExactDict:=by
    rcases hk with⟨Zs,hk⟩|⟨Zs,hk⟩
    .obtain⟨_,_,_,_,o,_,_,e,ex,_⟩:=I.hok p _ hk;exact⟨o,e,ex⟩
    .obtain⟨_,_,_,_,o,_,_,e,ex,_⟩:=I.hok p _ hk;exact⟨o,e,ex⟩
   obtain⟨o,e,ex⟩:=z;refine⟨⟨o,e,ex.1⟩,fun a e2=>?_⟩;cases e2;exact⟨o,e,ex.2.1⟩
  .obtain⟨o,_,_,_,e,ex,_⟩:=I.hok p _ hk;refine⟨⟨o,e,ex.1⟩,fun a e2=>?_⟩;cases e2;exact⟨o,e,ex.2.1⟩
 |_=>exact False.elim ty
def tBM(K:Frag)(T:String)(r:V->List V->Hp->VK->Prop)(to:TE)(t:TA):TE:=fun σ H Q=>to σ H fun x H1=>tyV K T x H1/\t σ H1 fun xs H2=>r x xs H2 Q
variable{o e:Expr}{es:List Expr}{to:TE}{t:TA}{name:Str}{apos br:Pos}{T id:String}{r:V->List V->Hp->VK->Prop}
theorem ou(pa:PlainAttrs T)(slot:Slot T name id)(KG:typeOf (.builtin id)=pure (.type "method_descriptor"))(hm:MtR X id r)(ho:PE X o to)(ha:PA X (e::es) t)
  (tf:attributeBase o name X.env (eval o X.env)=eval o X.env:=by rfl)
  (AY:((backTo br (starEach (e::es) X.env)).all (fun x=>!x.1)&&(backToKw br (keywordEach [] X.env)).all (fun x=>x.1.isSome)
   && decide ((e::es).length+([]:List Keyword).length+(if([]:List Keyword).isEmpty then 0 else 1)<30))=true:=by rfl)
  (tj:(apos.endLine==br.line)=true:=by rfl) (hs:starEach (e::es) X.env=(false,eval e X.env)::starEach es X.env:=by rfl) (nI:(backTo br (starEach es X.env)).any (·.1)=false:=by rfl):
  PE X (.Call (.Attribute o name apos) (e::es) [] br) (tBM X.K T r to t):=by
 intro Zt s σ H Q I h;refine wpAny_Call_method_late tf AY tj rfl (thn (ho Zt s σ H _ I h) fun v s1 ⟨x,H1,I1,r1,ty,q1⟩=>?_);obtain⟨h1,h2⟩:=Ff I1 r1 ty;refine⟨T,id,pa,slot,KG,h1,h2,?_⟩;have hA:=ha br Zt s1 σ H1 _ I1 q1;rw[hs]at hA⊢;refine Calls.callWith_builtin (by show(false||(backTo br (starEach es X.env)).any (·.1))=false;rw[nI]<;>rfl) (Calls.evalArgs_plain ?_);exact thn hA fun us s2 ⟨vs,H2,I2,r2,q2⟩=>hm Zt s2 σ H2 x vs v us Q I2 r1 r2 q2
end
def MtM(X:Cx)(id:String)(r:V->List V->Hp->VK->Prop):Prop:=
 ∀(Zt:List (Addr×Obj)) (s:Shared) (σ:St) (H:Hp) (x:V) (xs:List V) (v:Value) (us:List Value) (Q:VK),Inv X Zt σ H s->RelV x v->Vals xs us->r x xs H Q->
  wpAny (model X.prog X.w) X.A (call (.builtin id) (v::us)) (EP X Zt σ Q) X.xe s
theorem Vals.one:∀{x:V} {us:List Value},Vals [x] us->∃u,us=[u]/\RelV x u
 |_,_,.cons r .nil=>⟨_,rfl,r⟩
theorem Vals.zero:∀{us:List Value},Vals [] us->us=[]
 |_,.nil=>rfl
theorem Vals.rep{xs:List V}{us:List Value}(h:Vals xs us):∀k:Nat,Vals (List.replicate k xs).flatten (List.replicate k us).flatten
 |0=>.nil
 |k+1=>by
  rw[List.replicate_succ,List.replicate_succ,List.flatten_cons,List.flatten_cons];exact Vals.append h (Vals.rep h k)
theorem foldl_rep(Zr:List Value):∀(k:Nat) (acc:List Value),
  List.foldl (fun x1 x2=>x1++x2) acc.toArray (List.replicate k Zr.toArray)=(acc++(List.replicate k Zr).flatten).toArray
 |0,acc=>by simp
 |k+1,acc=>by
  have e:acc.toArray++Zr.toArray=(acc++Zr).toArray:=by simp
  have e2:(acc++Zr)++(List.replicate k Zr).flatten=acc++(List.replicate (k+1) Zr).flatten:=by
   rw[List.replicate_succ,List.flatten_cons,zAf]
  rw[<-e2,<-foldl_rep Zr k (acc++Zr),<-e,List.replicate_succ,List.foldl_cons]
section
variable{X:Cx}{Zt:List (Addr×Obj)}{σ:St}{H:Hp}{s:Shared}{l b:Addr}{xs ys zs:List V}
theorem Inv.lset{Zr its':List Value}{n:Nat}{f:Array Value->Array Value}{t':Nat}(I:Inv X Zt σ H s)(hH:H l=some (.lst xs))
  (e:s.heap.get? l=some {cls:=.type "list",data:=.seq Zr.toArray n}) (hf:f Zr.toArray=its'.toArray) (hv:Vals ys its') (hz:ys.length<=sizeLine):
  Inv X Zt σ (upd H l (.lst ys)) {s with heap:=s.heap.update l (Obj.mapSeq f),toks:=t'}:=by
 have q:=PySem.IsL.update e f;rw[hf]at q;refine I.write (x:=l) (e:=l) (by rw[hH];exact trivial) (.inl rfl) (fun b' u hb hu=>(Heap.get?_update_other s.heap (Obj.mapSeq f) (Ne.symm hb)).trans hu) ⟨_,q⟩ ?_;exact⟨hz,its',_,hv,q⟩
theorem Inv.lnew{Zr:List Value}{t':Nat}(I:Inv X Zt σ H s)(hv:Vals ys Zr)(hz:ys.length<=sizeLine):
  Inv X Zt σ (upd H s.heap.objs.size (.lst ys)) {s with heap:=s.heap.push {cls:=.type "list",data:=.seq Zr.toArray},toks:=t'}:=
 I.laid (fun _ _ q=>zAy _ q) (zA3 _) ⟨hz,Zr,0,hv,zB3 _ rfl⟩
theorem Inv.fresh(I:Inv X Zt σ H s):H s.heap.objs.size=none:=I.hok.fresh (zA3 _)
theorem Inv.lstM(I:Inv X Zt σ H s)(hH:H l=some (.lst xs)):xs.length<=sizeLine/\∃(Zr:List Value) (n:Nat),Vals xs Zr/\xs.length=Zr.length/\s.heap.get? l=some {cls:=.type "list",data:=.seq Zr.toArray n}:=by
 obtain⟨z,Zr,n,r,e⟩:=I.hok l _ hH;exact⟨z,Zr,n,r,r.length,e⟩
theorem lH{n:Nat}(h:n<=sizeLine):Builtin.List.listTooLong n=false:=by
 unfold Builtin.List.listTooLong;exact zB1 Zz
end
section
variable{X:Cx}
inductive RAppendI(x:V)(vs:List V)(H:Hp)(Q:VK):Prop
 |mk:∀l xs y,(x=.ref l)->(vs=[y])->(H l=some (.lst xs))->(xs.length<sizeLine)->(Q .non (upd H l (.lst (xs++[y]))))->RAppendI  x vs H Q
def BL:V->List V->Hp->VK->Prop:=fun x vs H Q=>RAppendI  x vs H Q
theorem dZ:MtM X "list.append" BL:=by
 intro Zt s σ H x vs v us Q I rx rv h;obtain⟨l,xs,y,rfl,rfl,hH,hz,q⟩:=h;cases rx;obtain⟨u,rfl,ru⟩:=rv.one;obtain⟨z,Zr,n,r,hl,e⟩:=I.lstM hH;refine call_meets F.slot_list_append ⟨_,e,rfl⟩ F.entry_list_append (F.args_list_append_2 _ _) (PySem.list_append l Zr.toArray n u (by rw[zA8];lia)) ⟨e,?_⟩;refine⟨.non,_,I.lset (its':=Zr++[u]) hH e Zy (r.append (.cons ru .nil)) ?_,rfl,q⟩;rw[zA2,List.length_singleton];lia
inductive RExtendI(x:V)(vs:List V)(H:Hp)(Q:VK):Prop
 |mk:∀l b xs zs,(x=.ref l)->(vs=[.ref b])->(H l=some (.lst xs))->(H b=some (.lst zs))->(xs.length+zs.length<=sizeLine)->(Q .non (upd H l (.lst (xs++zs))))->RExtendI  x vs H Q
def BP:V->List V->Hp->VK->Prop:=fun x vs H Q=>RExtendI  x vs H Q
theorem G9:MtM X "list.extend" BP:=by
 intro Zt s σ H x vs v us Q I rx rv h;obtain⟨l,b,xs,zs,rfl,rfl,hH,hB,hz,q⟩:=h;cases rx;obtain⟨u,rfl,ru⟩:=rv.one;cases ru;obtain⟨z,Zr,n,r,hl,e⟩:=I.lstM hH;obtain⟨z2,bq,n2,r2,fE,e2⟩:=I.lstM hB;have hsz:Zr.toArray.size+bq.toArray.size<=sizeLine:=by rw[zA8,zA8];lia
 have eJ:¬(!Zr.toArray.isEmpty&&Builtin.List.listTooLong (Zr.toArray.size+bq.toArray.size))=true:=by
  rw[lH hsz,Bool.and_false];exact zAg
 refine call_meets F.slot_list_extend ⟨_,e,rfl⟩ F.entry_list_extend (F.args_list_extend_2 _ _)
  (AutoSeq1.list_extend_list_list_0 l Zr.toArray n b bq.toArray n2 eJ (by rw[zA8];lia) Zz) ⟨e,e2,?_⟩
 refine⟨.non,_,I.lset (its':=Zr++bq) hH e Zy (r.append r2) ?_,rfl,q⟩;rw[zA2];lia
inductive RCatI(x:V)(y:V)(H:Hp)(Q:VK):Prop
 |mk:∀l b xs zs,(x=.ref l)->(y=.ref b)->(H l=some (.lst xs))->(H b=some (.lst zs))->(xs.length+zs.length<=sizeLine)->(∀p,H p=none->Q (.ref p) (upd H p (.lst (xs++zs))))->RCatI  x y H Q
def IK:R2:=fun x y H Q=>RCatI  x y H Q
theorem yW:OpR X (binaryOp .Add) IK:=by
 intro Zt s σ H x y v u Q I rx ry h;obtain⟨l,b,xs,zs,rfl,rfl,hH,hB,hz,q⟩:=h;cases rx;cases ry;obtain⟨z,Zr,n,r,hl,e⟩:=I.lstM hH;obtain⟨z2,bq,n2,r2,fE,e2⟩:=I.lstM hB;refine PySem.P.add_list e e2 ?_ (by rw[zA8,zA8];lia);have ea:Zr.toArray++bq.toArray=(Zr++bq).toArray:=by simp
 rw[ea];exact⟨.ref _,_,I.lnew (t':=s.toks) (r.append r2) (by rw[zA2];lia),rfl,q _ I.fresh⟩
inductive RRepI(x:V)(y:V)(H:Hp)(Q:VK):Prop
 |mk:∀l k xs,(x=.ref l)->(y=.int k)->(H l=some (.lst xs))->(-(2^63)<=k)->(k<2^63)->(xs.length*k.toNat<=sizeLine)->(∀p,H p=none->Q (.ref p) (upd H p (.lst (List.replicate k.toNat xs).flatten)))->RRepI  x y H Q
def IV:R2:=fun x y H Q=>RRepI  x y H Q
theorem len_rep{α:Type}(xs:List α)(k:Nat):(List.replicate k xs).flatten.length=k*xs.length:=by
 induction k with
 |zero=>simp
 |succ k ih=>rw[List.replicate_succ,List.flatten_cons,zA2,ih,Nat.succ_mul,Nat.add_comm]
theorem Fg:OpR X (binaryOp .Mult) IV:=by
 intro Zt s σ H x y v u Q I rx ry h;obtain⟨l,k,xs,rfl,rfl,hH,h1,h2,hz,q⟩:=h;cases rx;obtain⟨t,rfl⟩:=ry;obtain⟨z,Zr,n,r,hl,e⟩:=I.lstM hH;have hlen:Zr.toArray.size*k.toNat<=sizeLine:=by rw[zA8,<-hl];exact hz
 have AZ:¬Zr.toArray.size*k.toNat>(2^63-1) / 8:=by
  have:(sizeLine:Nat)<=(2^63-1) / 8:=by decide
  lia
 have A0:¬(!Builtin.List.listFitsIndex k)=true:=by
  rw[fitsIndex_both h1 h2];exact zAg
 have eJ:¬Builtin.List.listTooLong (Zr.toArray.size*k.toNat)=true:=by
  rw[lH hlen];exact zAg
 have A2:List.foldl (fun x1 x2=>x1++x2) #[] (List.replicate (if Zr.toArray.isEmpty=true then 0 else k.toNat) Zr.toArray)=(List.replicate k.toNat Zr).flatten.toArray:=by
  have f0:∀m:Nat,List.foldl (fun x1 x2=>x1++x2) #[] (List.replicate m Zr.toArray)=(List.replicate m Zr).flatten.toArray:=fun m=>by
   have:=foldl_rep Zr m [];rw[List.nil_append]at this;exact this
  rw[f0]
  cases Zr with
  |nil=>simp
  |cons a r'=>rw[if_neg Zy]
 refine wpAny_binaryOp_repeat_ref (T:="list") (U:="int") Zx ⟨_,e,rfl⟩ (fun s'=>typeIs_int s' k t) noFill_list_mul F.fills_int_mul F.slot_int_rmul repeat_list F.slot_int_index.lookup
  (call_meets F.slot_int_rmul (typeIs_int s k t) F.entry_int_rmul (F.args_int_rmul_2 _ _) (int___rmul___int_list k t l Zr.toArray n)
   ⟨e,rfl,⟨_,e,rfl⟩,call_meets F.slot_list_mul ⟨_,e,rfl⟩ F.entry_list_mul (F.args_list_mul_2 _ _) (AutoListH.list___mul___list_int_3 l Zr.toArray n k t A0 AZ eJ) ⟨e,?_⟩⟩)
 rw[A2];exact⟨.ref _,_,I.lnew (t':=s.toks) (r.rep k.toNat) (by rw[len_rep,Nat.mul_comm];exact hz),rfl,q _ I.fresh⟩
end
section
variable{prog:Program}{w:World}{A:Around}{E:Value->Shared->Prop}{s:Shared}
set_option maxRecDepth 100000 in
end
section
variable{X:Cx}
end
end L2
namespace Att
open PySem PySem.W PySem.Calls PyProof.Rows
theorem kE{P:Params}{h:Heap}:∀(ns:List Int) (vs:List Value),WellAll P h vs (ns.map WData.int)->IntsAre vs ns:=by
 intro ns
 induction ns with
 |nil=>
  intro vs w;rw[List.map_nil]at w;cases w;exact .nil
 |cons n ns ih=>
  intro vs w;rw[zAk]at w
  cases w with
  |cons a b=>
   cases a;exact .cons _ _ (ih _ b)
theorem xQ{l:OpenLaw}{n:Nat}(hn:l.most=some n){P:Params}{h:Heap}{args:List WData}{vals:List Value}
  (kq:l.row.toRowW.claim.pre args=true) (A3:WellAll P h vals args):
  ∃a vs ns,vals=[Value.ref a]/\args=[WData.list (ns.map WData.int)]/\h.get? a=some {cls:=.type "list",data:=.seq vs.toArray}/\IntsAre vs ns/\ns.length<=n:=by
 have KH:WShape.hasAll [] args [.list .int]=true:=(pre_splitW kq).1;have hc:l.pre.holds [] {args:=args}=true:=(pre_splitW kq).2;obtain⟨d,r,rfl,h1,h2⟩:=hasAllW_cons KH;obtain rfl:=hasAllW_nil h2;obtain⟨xs,rfl,h3⟩:=hasW_list h1;obtain⟨ns,rfl⟩:=items_int h3
 have hlen:ns.length<=n:=by
  unfold OpenLaw.pre at hc
  have h4:(WTm.not (.lt (.lit (.int (n:Int))) (.len (.arg 0)))).holds [] {args:=[.list (ns.map .int)]}=true:=by
   have h4:=(holds_andW hc).1;rw[hn]at h4;exact h4
  have h5:=condW_of h4 (w_not (w_lt w_lit (w_len_list (w_arg rfl))));rw[zA1]at h5;refine Nat.le_of_not_lt fun q=>?_;have q':(n:Int)<((ns.length:Nat):Int):=Zz
  first
   | (rw[zAt q']at h5;exact absurd h5 Zx)
   | (simp at h5;lia)
 cases A3 with
 |cons w1 w2=>
  cases w2
  cases w1 with
  |list ho cK=>exact⟨_,_,ns,rfl,rfl,ho,kE ns _ cK,hlen⟩
theorem xR(l:OpenLaw)(args:List WData):l.row.toRowW.claim.post args (.bool true) args=true:=
 postW_of (r:=l.row.toRowW) (X:=(true==true))
  (show WShape.has [] (.bool true) .bool=true by first|rfl|decide|simp[WShape.has,WShape.arms,WShape.armsAll])
  (show(WTm.eq .res (.lit (.bool true))).value [] {args:=args,res:=some (.bool true),after:=args}=some (.bool (true==true))from w_eq_bool (w_res rfl) w_lit) rfl
theorem attach_call{l:OpenLaw}{n:Nat}{q:Program}{loose:List Str}{XP:(Str->Option Value)->Heap->Prop}{YP:World->Heap->Prop}{d:DefRec}
  (hn:l.most=some n) (tq:d.params.defaults=[])
  (call:∀(w:World) (s₀ s₁:Shared) (mg mb:Str->Option Value) (fa:Addr) (o:Obj) (pm cd doc:Value) (a:Addr) (vs:List Value) (ns:List Int),
   Ground q loose [] XP w s₀ mg mb s₁.heap->YP w s₁.heap->
   s₁.heap.get? fa=some o->o.data=.func (docDef d.name d.params d.body d.scope pm cd doc)->s₁.heap.CodeRec cd d.name->mg d.name=some (.ref fa)->
   s₁.heap.get? a=some {cls:=.type "list",data:=.seq vs.toArray}->IntsAre vs ns->ns.length<=n->s₁.gens=#[]->
   codeAny (model l.prog w) callerA (.call (.ref fa) ⟨[.ref a],[]⟩) (fun r s'=>r=.ok (.ret (.bool true))/\OldK s₁.heap s'.heap/\s'.os=s₁.os/\AllBare s'.gens) s₁):
  WalkO q loose XP YP l.row.toRowW d [] (fun f vs=>PySem.call f vs):=by
 intro w s₀ s₁ mg mb G Y fa o pm cd doc dV kV ho hd gS hD hmg hg args vals as kq KI Qv A3 cy;obtain rfl:dV=.none:=Dflts.none hD tq;obtain rfl:kV=.none:=Dflts.noKw hD;obtain⟨a,vs,ns,rfl,rfl,nK,hints,hlen⟩:=xQ hn kq A3;refine enter_call (codeAny_mono (call w s₀ s₁ mg mb fa o pm cd doc a vs ns G Y ho (fd_plain hd) gS hmg nK hints hlen hg) fun r s' hq=>?_);obtain⟨rfl,h2,h3,h4⟩:=hq;exact⟨.inl ⟨.bool true,.bool true,[],rfl,fun _=>rfl,.bool true,xR l _,fun _=>⟨List.Pairwise.nil,fun _ hm=>(nomatch hm)⟩⟩,h2,h3,h4⟩
section
variable{prog:Program}{w:World}{A:Around}{E:Value->Shared->Prop}{s:Shared}{K:Frag}
end
end Att
namespace L2
open PySem PySem.Spec PyProof.Rows
theorem oA:∀{vs:List Value} {ns:List Int},IntsAre vs ns->Vals (ns.map V.int) vs
 |_,_,.nil=>.nil
 |_,_,.cons n t h=>.cons ⟨t,rfl⟩ (oA h)
def Only(H:Hp):Prop:=∀b,H b=none\/∃o xs,H b=some (.frz o (.lst xs))
theorem yX{P:Program}{w:World}{K:Frag}{mg mb:Str->Option Value}{CX:CXT}{k:Nat}{fa a:Addr}{fd:FuncData}{x:Str}{sp:Sp}{s₁:Shared}{vs:List Value}{ns:List Int}
  (KX:K.In s₁.heap) (F6:s₁.heap.Ns mainGlobals mg) (hb:s₁.heap.Ns builtinsNs mb) (KJ:∀x:Str,x≠"__name__"->mb x=bootBuiltins x) (A4:s₁.heap.NoLimit) (hg:s₁.gens=#[])
  (ha:s₁.heap.get? a=some {cls:=.type "list",data:=.seq vs.toArray}) (hi:IntsAre vs ns) (hl:ns.length<=sizeLine) (hr:Room k callerA)
  (F:∀base:Heap,K.In base->base.Ns mainGlobals mg->FnOk P w K mg base CX k fa fd [x] sp) (tw:∀(s:Shared) (u:Value),BindsTo s fd ⟨[u],[]⟩ [(x,u)])
  (kU:∀H:Hp,Only H->SqL K H a (ns.map V.int)->sp [.ref a] H (fun v _=>v=.bl true) fun _ _ _=>False)
  (A5:∀H e s',CX [] H s₁ (fun _ _ _=>False) e s'->False):
  codeAny (model P w) callerA (.call (.ref fa) ⟨[.ref a],[]⟩) (fun r s'=>r=.ok (.ret (.bool true))/\OldK s₁.heap s'.heap/\s'.os=s₁.os/\AllBare s'.gens) s₁:=by
 have rv:=oA hi;have A6:=hi.length
 have core:∀H:Hp,Only H->SqL K H a (ns.map V.int)->HOk P w H s₁.heap->(∀b,H b≠none->b=a)->(H a≠none->K.lookup a=none)->
   codeAny (model P w) callerA (.call (.ref fa) ⟨[.ref a],[]⟩) (fun r s'=>r=.ok (.ret (.bool true))/\OldK s₁.heap s'.heap/\s'.os=s₁.os/\AllBare s'.gens) s₁:=by
  intro H hO hS hok hA hK;have fF:∀{b:Addr} {o:Obj},s₁.heap.get? b=some o->H b=none->(pN s₁.heap H).get? b=some o:=fun e n=>yH e n
  have sM:∀{b:Addr} {o:Obj} {es:Array DictEntry} {ep:Nat},s₁.heap.get? b=some o->o.data=.dict es ep->H b=none:=fun{b o es ep} e d=>by
   cases q:H b with
   |none=>rfl
   |some u=>
    have e':b=a:=hA b (by rw[q];simp);subst e';rw[ha]at e;cases e;have d':Data.seq vs.toArray _=Data.dict es ep:=d;cases d'
  have yB:∀{b:Addr} {m:Str->Option Value},s₁.heap.Ns b m->(pN s₁.heap H).Ns b m:=fun{b m} ⟨o,es,ep,e,d,r⟩=>⟨o,es,ep,fF e (sM e d),d,r⟩
  have F7:K.In (pN s₁.heap H):=fun b o e=>fF (KX b o e) (by
   cases q:H b with
   |none=>rfl
   |some u=>
    have e':b=a:=hA b (by rw[q];simp);subst e'
    rw[hK (by rw[q];simp)]at e;cases e)
  have hM:Mod K mg (pN s₁.heap H):=⟨F7,yB F6,⟨mb,yB hb,KJ⟩,let⟨mc,h1,h2⟩:=A4;⟨mc,yB h1,h2⟩⟩
  have e0:Env0 P w K mg (pN s₁.heap H) callerA [] s₁ H:=⟨rfl,hM,fun b o e=>Bt e,Nat.le_of_eq (xx _ _),trivial,fun b hb=>absurd (show b∈([]:List Addr)from hb) Zy,hok,.of_eq hg⟩
  refine codeAny_mono ((F _ F7 (yB F6)).run callerA [] s₁ H ⟨[.ref a],[]⟩ [.ref a] [.ref a] _ _ hr e0 (tw s₁ (.ref a)) (.cons rfl .nil) (kU H hO hS)) fun r s' h=>?_
  cases r with
  |error e=>exact(A5 H e s' h).elim
  |ok fl=>
   cases fl with
   |next=>exact False.elim h
   |brk=>exact False.elim h
   |cont=>exact False.elim h
   |ret u=>
    obtain⟨v,H',os,bare,un,A7,r',q⟩:=h;have q':v=.bl true:=q;subst q';obtain rfl:u=Value.bool true:=r';refine⟨rfl,OldK.of_keep fun b o e=>?_,os,bare⟩
    cases q:H b with
    |none=>exact un.keep b o e q (by intro z;exact absurd (show b∈([]:List Addr)from z) Zy) Zy
    |some u=>
     rcases hO b with z|⟨ob,xs,z⟩
     .rw[q]at z;cases z
     .have z2:=un.frzs b ob _ z;obtain⟨e1,_⟩:=hok b _ z;obtain⟨e2,_⟩:=A7 b _ z2;rw[e]at e1;cases e1;exact e2
 cases hk:K.lookup a with
 |some o=>
  have e:=KX a o hk;rw[ha]at e;cases e;refine core (fun _=>none) (fun _=>.inl rfl) (.inr ⟨_,vs.toArray,_,hk,rfl,rfl,rfl,by rw[List.size_toArray,A6];exact hl,by simpa using rv⟩) (fun b u z=>by have z':(none:Option HO)=some u:=z;cases z') (fun b z=>absurd rfl z) fun z=>absurd rfl z
 |none=>
  refine core (fun b=>if b=a then some (.frz {cls:=.type "list",data:=.seq vs.toArray} (.lst (ns.map V.int)))else none) (fun b=>?_) (.inl (.inr ⟨{cls:=.type "list",data:=.seq vs.toArray},zAv rfl⟩)) (fun b u z=>?_) (fun b z=>?_) fun _=>hk
  .by_cases hb:b=a
   .exact .inr ⟨_,_,zAv hb⟩
   .exact .inl (zAu hb)
  .by_cases hb:b=a
   .have z':=(zAv hb).symm.trans z;cases z';subst hb;exact⟨ha,by rw[zA1];exact hl,vs,_,rv,ha⟩
   .have z':=(zAu hb).symm.trans z;cases z'
  .by_cases hb:b=a
   .exact hb
   .exact absurd (zAu hb) z
theorem walk_of{l:PySem.W.OpenLaw}{n k:Nat}{q:Program}{loose:List Str}{XP:(Str->Option Value)->Heap->Prop}{YP:World->Heap->Prop}{d:DefRec}{K:Params->Frag}{CX:World->CXT}{sp:World->Sp}{x:Str}
  (hn:l.most=some n) (tF:n<=sizeLine) (tq:d.params.defaults=[]) (hr:Room k callerA)
  (hY:∀(w:World) (h:Heap),YP w h->(K w.params).In h)
  (F:∀(w:World) (mg:Str->Option Value) (fa:Addr) (h:Heap),(K w.params).In h->h.Ns mainGlobals mg->mg d.name=some (.ref fa)->
   ∃fd:FuncData,(∀(s:Shared) (u:Value),BindsTo s fd ⟨[u],[]⟩ [(x,u)]) /\
    ∀base:Heap,(K w.params).In base->base.Ns mainGlobals mg->FnOk l.prog w (K w.params) mg base (CX w) k fa fd [x] (sp w))
  (kU:∀(w:World) (H:Hp) (a:Addr) (ns:List Int),ns.length<=n->Only H->SqL (K w.params) H a (ns.map V.int)->sp w [.ref a] H (fun v _=>v=.bl true) fun _ _ _=>False)
  (A5:∀(w:World) (H:Hp) (s:Shared) (e:Value) (s':Shared),CX w [] H s (fun _ _ _=>False) e s'->False):
  PySem.W.WalkO q loose XP YP l.row.toRowW d [] (fun f vs=>PySem.call f vs):=by
 refine Att.attach_call hn tq fun w s₀ s₁ mg mb fa o pm cd doc a vs ns G Y ho hd gS hmg nK hints hlen hg=>?_;have KX:=hY w _ Y;obtain⟨fd,hb,hF⟩:=F w mg fa _ KX G.T.g hmg;exact yX KX G.T.g G.T.b G.T.builtins G.T.nolimit hg nK hints (Nat.le_trans hlen tF) hr hF hb (fun H hO hS=>kU w H a ns hlen hO hS) fun H e s'=>A5 w H s₁ e s'
def fc(s:Stmt):Arguments:=match s with
 |.FunctionDef _ a _ _ _ _ _ _ _ _=>a
 |_=>{posonlyargs:=[],args:=[],vararg:=none,kwonlyargs:=[],kw_defaults:=[],kwarg:=none,defaults:=[]}
def dO(s:Stmt):List Stmt:=match s with
 |.FunctionDef _ _ b _ _ _ _ _ _ _=>b
 |_=>[]
def aK(s:Stmt):Scope:=match s with
 |.FunctionDef _ _ _ _ _ _ sc _ _ _=>sc
 |_=>{kind:=.function,names:=[],isGenerator:=false,isCoroutine:=false}
abbrev CX0:CXT:=fun _ _ _ _ _ _=>False
abbrev E0:XK:=fun _ _ _=>False
theorem Gy{X:Cx}:uB CX0 X E0:=fun _ _ _ _ _ _ _ h=>h.elim
structure Fun(K:Frag)(x qual:Str)(st:Stmt)(f:Addr)(fd:FuncData):Prop where
 ex:∃(oc:Value) (od:Option Addr) (kV doc pm:Value) (an:Option Addr) (ar ct:Value) (kS:Array (Option Value)),
  fd=PySem.W.fnOf x qual (fc st) (dO st) (aK st) .none kV doc pm an ar ct/\K.lookup f=some ⟨oc,od,.func fd,kS⟩/\PySem.W.codeIn K ar qual=true
 kp:PySem.W.keepIn K (.ref f)=true
section
variable{P:Program}{w:World}{K:Frag}{mg:Str->Option Value}{base:Heap}{f:Addr}{fd:FuncData}
theorem Fun.ok{x qual:Str}{st:Stmt}{f:Addr}{fd:FuncData}{N ps:List Str}{k:Nat}{sp:Sp}(F:Fun K x qual st f fd)(S:FnScope N ps (aK st))(len:∀vs H Q E,sp vs H Q E->vs.length=ps.length)
  (gX:∀(ar:Value) (A:Around) (outer:List Env) (s:Shared) (H:Hp) (vs:List V) (Q:VK) (E:XK),Room k (A.deeper (envOfC qual (aK st) s.heap.objs.size f ar))->sp vs H Q E->
   ∃t,PSs (xO CX0 P w K mg base N qual (aK st) f ar A outer s H E).nox (dO st) t/\t {nx:=fun _ H'=>Q .non H',rt:=Q} (start N vs) H):FnOk P w K mg base CX0 (k+1) f fd ps sp:=by
 obtain⟨oc,od,kV,doc,pm,an,ar,ct,kS,rfl,lk,gS⟩:=F.ex;refine Gr lk gS S len fun A outer s H vs Q E hr kU=>?_;obtain⟨t,h,q⟩:=gX ar A outer s H vs Q E hr kU;exact⟨t,h.nox,q⟩
theorem Fun.binds{x qual:Str}{st:Stmt}{f:Addr}{fd:FuncData}{ps:List Str}(F:Fun K x qual st f fd)
  (h:∀(kV doc pm:Value) (an:Option Addr) (ar ct:Value) (us:List Value),us.length=ps.length->bindArgs (PySem.W.fnOf x qual (fc st) (dO st) (aK st) .none kV doc pm an ar ct) ⟨us,[]⟩=pure (ps.zip us)):Binds K fd ps []:=by
 obtain⟨oc,od,kV,doc,pm,an,ar,ct,kS,rfl,lk,gS⟩:=F.ex;exact .all (h kV doc pm an ar ct)
theorem yZ{x qual:Str}{st:Stmt}{f:Addr}{oc:Value}{od an:Option Addr}{kS:Array (Option Value)}{kV doc pm ar ct:Value}(l:K.lookup f=some ⟨oc,od,.func (PySem.W.fnOf x qual (fc st) (dO st) (aK st) .none kV doc pm an ar ct),kS⟩)
  (c:PySem.W.codeIn K ar qual=true) (k:PySem.W.keepIn K (.ref f)=true):Fun K x qual st f (PySem.W.fnOf x qual (fc st) (dO st) (aK st) .none kV doc pm an ar ct):=⟨⟨oc,od,kV,doc,pm,an,ar,ct,kS,rfl,l,c⟩,k⟩
end
theorem jT{A:Around}{k:Nat}(hr:Room k A):A.units+1<cLine:=Nat.lt_of_le_of_lt (Nat.add_le_add_left (by decide:1<=64) _) hr.units
section
variable{X:Cx}
theorem pv(i:Nat){x:Str}{pos:Pos}(hN:X.N[i]?=some x:=by rfl)(hv:Vis X.env.scope x:=by first|exact Or.inl rfl|exact Or.inr (Or.inl rfl)|exact Or.inr (Or.inr rfl))(hd:(x==("__debug__":Str))=false:=by decide)
  (gS:(x==("__classdict__":Str))=false:=by decide):PE X (.Name x pos) (xF i):=Ep hN hv hd gS
end
theorem bF{A B:Prop}(h:B):if false=true then A else B:=by
 rw[zAu zAg];exact h
theorem bN{A B:Prop}(h:A):if true=true then A else B:=by
 rw[zAv rfl];exact h
theorem jy{c A B:Prop}[Decidable c](h1:c->A)(h2:¬c->B):if c then A else B:=by
 by_cases h:c
 .rw[zAv h];exact h1 h
 .rw[zAu h];exact h2 h
def Same(H H':Hp):Prop:=∀b o,H b=some o->H' b=some o
theorem Same.refl(H:Hp):Same H H:=fun _ _ h=>h
theorem Same.trans{H H1 H2:Hp}(a:Same H H1)(b:Same H1 H2):Same H H2:=fun c o h=>b c o (a c o h)
theorem Same.free{H H':Hp}(e:Same H H'){l:Addr}(h:H' l=Option.none):H l=Option.none:=by
 cases q:H l with
 |none=>rfl
 |some o=>
  rw[e l o q]at h;cases h
theorem Same.seq{K:Frag}{H H':Hp}{a:Addr}{xs:List V}(e:Same H H')(h:SqL K H a xs):SqL K H' a xs:=by
 rcases h with(h|⟨o,h⟩)|h
 .exact .inl (.inl (e _ _ h))
 .exact .inl (.inr ⟨o,e _ _ h⟩)
 .exact .inr h
def fB(cells:List (Str×Addr)):List (Str×NameKind)->List (Str×Addr)->List (Str×Addr)
 |[],acc=>acc
 | (n,k)::r,acc=>fB cells r (if k=.free then(n,(cells.lookup n).getD 0)::acc else acc)
theorem oE{env:Env}:∀(l:List (Str×NameKind)) (acc:List (Str×Addr)),(∀p∈l,p.2=NameKind.free->(env.cells.lookup p.1).isSome=true)->
  (forIn l acc fun(x:Str×NameKind) (r:List (Str×Addr))=>(if(x.2==NameKind.free)=true then do let a <-cellOf env x.1;pure (ForInStep.yield ((x.1,a)::r))else pure (ForInStep.yield r):Sem (ForInStep (List (Str×Addr)))))=pure (fB env.cells l acc)
 |[],acc,_=>rfl
 | (n,k)::r,acc,h=>by
  rw[List.forIn_cons];have ih:=fun a=>oE (env:=env) r a fun p hp=>h p (List.mem_cons_of_mem _ hp);by_cases hk:k=.free
  .subst hk;have hs:=h (n,.free) List.mem_cons_self rfl;obtain⟨c,hc⟩:=Option.isSome_iff_exists.mp hs;have e1:cellOf env n=pure c:=by unfold cellOf;rw[show env.cells.lookup n=some c from hc]
   have e2:fB env.cells ((n,.free)::r) acc=fB env.cells r ((n,c)::acc):=by
    show fB env.cells r (if NameKind.free=NameKind.free then(n,(env.cells.lookup n).getD 0)::acc else acc)=_;rw[zAv rfl,show env.cells.lookup n=some c from hc];rfl
   rw[e2];simp only[beq_self_eq_true,if_true,e1,pure_bind];exact ih _
  .have hb:(k==NameKind.free)=false:=by simpa using hk
   have e2:fB env.cells ((n,k)::r) acc=fB env.cells r acc:=by
    show fB env.cells r (if k=NameKind.free then _ else acc)=_;rw[zAu hk]
   rw[e2];simp only[hb,Bool.false_eq_true,if_false,pure_bind];exact ih _
theorem vI{scope:Scope}{env:Env}(h:∀p∈scope.names,p.2=NameKind.free->(env.cells.lookup p.1).isSome=true):closureFor scope env=pure (fB env.cells scope.names []):=by
 have e:=oE (env:=env) scope.names [] h;unfold closureFor;simp only[bind_pure];exact e
theorem rO{cells:List (Str×Addr)}{x:Str}{c:Addr}:∀(l:List (Str×NameKind)) (acc:List (Str×Addr)),(∀p∈l,p.2=NameKind.free->(cells.lookup p.1).isSome=true)->(fB cells l acc).lookup x=some c->
  acc.lookup x=some c\/cells.lookup x=some c
 |[],_,_,h=>.inl h
 | (n,k)::r,acc,hf,h=>by
  have h':(fB cells r (if k=.free then(n,(cells.lookup n).getD 0)::acc else acc)).lookup x=some c:=h;rcases rO r _ (fun p hp=>hf p (List.mem_cons_of_mem _ hp)) h' with e|e
  .by_cases hk:k=.free
   .rw[zAv hk]at e;obtain⟨d,hd⟩:=Option.isSome_iff_exists.mp (hf (n,k) List.mem_cons_self hk);rw[show cells.lookup n=some d from hd]at e;rw[List.lookup_cons]at e
    cases hx:x==n with
    |true=>
     rw[hx]at e;have:x=n:=by simpa using hx
     subst this;exact .inr (hd.trans (by simpa using e))
    |false=>
     rw[hx]at e;exact .inl e
   .rw[zAu hk]at e;exact .inl e
  .exact .inr e
theorem rP{cells:List (Str×Addr)}{x:Str}:∀(l:List (Str×NameKind)) (acc:List (Str×Addr)),((∃k,(x,k)∈l/\k=NameKind.free)\/(∃c,acc.lookup x=some c))->∃c,(fB cells l acc).lookup x=some c
 |[],_,h=>by
  rcases h with⟨k,hk,_⟩|h
  .exact absurd hk Zy
  .exact h
 | (n,k)::r,acc,h=>by
  show ∃c,(fB cells r (if k=.free then(n,(cells.lookup n).getD 0)::acc else acc)).lookup x=some c;refine rP r _ ?_;rcases h with⟨k',hk,e⟩|⟨c,hc⟩
  .rcases zAo.mp hk with z|z
   .cases z;refine .inr ?_;rw[zAv e];exact⟨_,by rw[List.lookup_cons,beq_self_eq_true]⟩
   .exact .inl ⟨k',z,e⟩
  .refine .inr ?_;by_cases hk:k=.free
   .rw[zAv hk,List.lookup_cons]
    cases hx:x==n with
    |true=>exact⟨_,rfl⟩
    |false=>exact⟨c,hc⟩
   .rw[zAu hk];exact⟨c,hc⟩
theorem jU{scope:Scope}{env:Env}{x:Str}{k:NameKind}(hc:∀p∈scope.names,p.2≠NameKind.cell)(h:(relabel scope env).names.lookup x=some k)(hk:k=.cell\/k=.free):∃k',(x,k')∈scope.names/\k'=NameKind.free:=by
 have m:=PySem.mem_of_lookup h;obtain⟨⟨n,k0⟩,hm,e⟩:=zA5.mp m;dsimp only at e;split at e
 .rename_i c
  cases e
  have:(k0==NameKind.free)=true:=by
   cases q:(k0==NameKind.free)with
   |true=>rfl
   |false=>rw[q]at c;simp at c
  exact⟨k0,hm,by simpa using this⟩
 .cases e;rcases hk with z|z
  .exact absurd z (hc _ hm)
  .exact⟨_,hm,z⟩
def cxC(X:Cx)(scope:Scope)(Nc:List Str)(C:Addr)(fp:List Addr)(Zt:List (Addr×Obj))(s₂:Shared)(H₂:Hp):Cx where
 prog:=X.prog
 w:=X.w
 K:=X.K
 mg:=X.mg
 base:=X.base
 A:=X.A
 N:=Nc
 s₀:=s₂
 H₀:=H₂
 env:=compEnvC scope (fB X.env.cells scope.names []) C X.env
 outer:=X.stack
 stack:=X.stack
 ex:=fp
 fn:=fun _=>false
 calm:=X.calm
 pn:=X.pn++Zt
 xe:=fun _ _=>False
def Caps(X:Cx)(aS:Env):List Str->List (Option Nat)->Prop
 |[],[]=>True
 |_::N,none::r=>Caps X aS N r
 |x::N,some i::r=>(X.N[i]?=some x/\(X.env.kindOf x=some .cell\/X.env.kindOf x=some .free)/\aS.cells.lookup x=X.env.cells.lookup x/\(aS.kindOf x=some .cell\/aS.kindOf x=some .free))/\Caps X aS N r
 |_,_=>False
def capσ(σ:St)(src:List (Option Nat)):St:=src.map fun o=>match o with|none=>none|some i=>(σ[i]?).join
theorem Caps.len{X:Cx}{aS:Env}:∀{N:List Str} {src:List (Option Nat)},Caps X aS N src->src.length=N.length
 |[],[],_=>rfl
 |[],_::_,h=>h.elim
 |_::_,[],h=>h.elim
 |_::N,none::r,h=>by
  have h':Caps X aS N r:=h;have:=Caps.len (N:=N) (src:=r) h';simp[this]
 |_::N,some _::r,h=>by
  have:=Caps.len (N:=N) (src:=r) h.2;simp[this]
theorem Caps.get{X:Cx}{aS:Env}{x:Str}:∀{N:List Str} {src:List (Option Nat)} {j i:Nat},Caps X aS N src->N[j]?=some x->src[j]?=some (some i)->
  X.N[i]?=some x/\(X.env.kindOf x=some .cell\/X.env.kindOf x=some .free)/\aS.cells.lookup x=X.env.cells.lookup x/\(aS.kindOf x=some .cell\/aS.kindOf x=some .free)
 |[],[],_,_,_,e,_=>by simp at e
 |[],_::_,_,_,h,_,_=>h.elim
 |_::_,[],_,_,h,_,_=>h.elim
 |_::_,none::_,0,_,_,_,e=>by simp at e
 |_::N,none::r,j+1,_,h,e1,e2=>by
  have h':Caps X aS N r:=h;exact Caps.get (N:=N) (src:=r) (j:=j) h' (by simpa using e1) (by simpa using e2)
 |_::_,some _::_,0,_,h,e1,e2=>by
  simp at e1 e2;subst e1 e2;exact h.1
 |_::_,some _::_,j+1,_,h,e1,e2=>Caps.get (j:=j) h.2 (by simpa using e1) (by simpa using e2)
structure CScope(X:Cx)(scope:Scope):Prop where
 kind:scope.kind=.function
 cell:scope.names.all (fun p=>p.2 != .cell)=true
 names:scope.names.all (fun p=>p.2 != .local||scope.names.lookup p.1==some .local)=true
 free:scope.names.all (fun p=>p.2 != .free||(X.env.cells.lookup p.1).isSome)=true
section
variable{X:Cx}{scope:Scope}
theorem CScope.hcell(S:CScope X scope):∀p∈scope.names,p.2≠NameKind.cell:=fun p hp=>by
 have:=List.all_eq_true.mp S.cell p hp;simpa using this
theorem CScope.hnames(S:CScope X scope):∀p∈scope.names,p.2=.local->scope.names.lookup p.1=some .local:=fun p hp e=>by
 have:=List.all_eq_true.mp S.names p hp;simpa[e]using this
theorem CScope.hfree(S:CScope X scope):∀p∈scope.names,p.2=NameKind.free->(X.env.cells.lookup p.1).isSome=true:=fun p hp e=>by
 have:=List.all_eq_true.mp S.free p hp;simpa[e]using this
end
def PTs(X:Cx)(ifs:List Expr)(t:TT):Prop:=
 ∀(Zt:List (Addr×Obj)) (s:Shared) (σ:St) (H:Hp) (Q:Bool->Hp->Prop),Inv X Zt σ H s->t σ H Q->
  wpAny (model X.prog X.w) X.A (forIn ifs true fun c r=>if r=true then do let ok <-isTrue c X.env (eval c X.env);pure (ForInStep.yield ok)else pure (ForInStep.yield r)) (TP X Zt σ Q) X.xe s
def uF:TT:=fun _ H Q=>Q true H
theorem cu{X:Cx}:PTs X [] uF:=fun _ _ _ H _ I h=>wpAny_tests_nil ⟨H,I,h⟩
theorem ir{X:Cx}{c:Expr}{t:TT}(h:PT X c t):PTs X [c] t:=fun Zt s σ H Q I q=>wpAny_tests_one (h Zt s σ H Q I q)
theorem q9{prog:Program}{w:World}{A:Around}{R:Result->Shared->Prop}{s:Shared}{elt target iter:Expr}{ifs:List Expr}{scope:Scope}{pos:Pos}{it acc:Value}{env:Env}(I:Nat->Shared->Prop)
  (turn:∀n s,I n s->wpAny (model prog w) A (pyNext it) (fun r s₁=>match r with
   |none=>R (.ok .next) s₁
   |some v=>wpAny (model prog w) A (letOwnedTupleGo target it v) (fun _ kX=>wpAny (model prog w) A (assign target env v) (fun _ s₂=>
     wpAny (model prog w) A (forIn ifs true fun c r=>if r=true then do let ok <-isTrue c env (eval c env);pure (ForInStep.yield ok)else pure (ForInStep.yield r)) (fun ok s₃=>
      if ok=true then wpAny (model prog w) A (eval elt env) (fun x kr=>
       wpAny (model prog w) A (call (.builtin "list.append") [acc,x]) (fun _ tI=>∃m,m<n/\I m tI) (fun _ _=>False) kr) (fun _ _=>False) s₃
      else ∃m,m<n/\I m s₃) (fun _ _=>False) s₂) (fun _ _=>False) kX) (fun _ _=>False) s₁) (fun _ _=>False) s)
  (n:Nat) (h:I n s):
  codeAny (model prog w) A (.compLoop (.ListComp elt [⟨target,iter,ifs,0⟩] scope pos) 0 it acc env) R s:=by
 refine codeAny_loop rfl I (fun n s hI=>?_) n h;show wpAny _ A ((compTurn (.ListComp elt [⟨target,iter,ifs,0⟩] scope pos) 0 it acc env).onRaise (fun x=>do noteFrame x env;theTreesLotGoes x)) _ _ s;refine wpAny_noted ?_;rw[compTurn_list];refine zAx (wpAny_standAt (zAx (wpAny_mono (turn n s hI) (fun r s₁ c8=>?_) fun _ _ h'=>h'.elim)))
 cases r with
 |none=>exact zB0 c8
 |some v=>
  refine zAx (wpAny_mono c8 (fun _ kX tJ=>?_) fun _ _ h'=>h'.elim);refine zAx (wpAny_mono tJ (fun _ s₂ hG=>zAx (wpAny_mono hG (fun ok s₃ ku=>?_) fun _ _ h'=>h'.elim)) fun _ _ h'=>h'.elim)
  cases ok with
  |false=>exact zB0 ⟨rfl,ku⟩
  |true=>
   exact zAx (zAx (wpAny_mono ku (fun x kr A8=>zAx (wpAny_mono A8 (fun _ tI A9=>zB0 (zB0 ⟨rfl,A9⟩)) fun _ _ h'=>h'.elim)) fun _ _ h'=>h'.elim))
def jV(J:It)(g:TG)(tt:TT)(te:TE)(Fin:List V->Hp->Prop)(c9:St)(H0:Hp):Prop:=
 ∃W:Nat->Nat->List V->St->Hp->Prop,(∃m,W 0 m [] c9 H0)/\∀i m ys σ H,W i m ys σ H->ys.length<sizeLine /\
  ((J.stop i H/\Fin ys H)\/(J.go i H/\∀x H',J.yld i H x H'->g x σ H' fun aE H2=>tt aE H2 fun b H3=>
   if b=true then te aE H3 fun y H4=>∃m',m'<m/\W (i+1) m' (ys++[y]) aE H4 else ∃m',m'<m/\W (i+1) m' ys aE H3))
theorem oF{X:Cx}{tg iter elt:Expr}{ifs:List Expr}{scope:Scope}{pos:Pos}{Nc:List Str}{src:List (Option Nat)}{g:TG}{tt:TT}{te:TE}(hc:X.calm=true)(S:CScope X scope)
  (cE:∀C,Caps X (compEnvC scope (fB X.env.cells scope.names []) C X.env) Nc src)
  (hb:∀C fp Zt s₂ H₂,PG (cxC X scope Nc C fp Zt s₂ H₂) tg g/\PTs (cxC X scope Nc C fp Zt s₂ H₂) ifs tt/\PE (cxC X scope Nc C fp Zt s₂ H₂) elt te)
  {Zt:List (Addr×Obj)} {s₂:Shared} {σ:St} {H₂:Hp} {it:Addr} {fp:List Addr} {tn:Nat->Heap->Prop} {J:It} (aw:Inv X Zt σ H₂ s₂) (T:Turn X.prog X.w X.K tg J fp it tn) (st:tn 0 s₂.heap) (hf:∀b∈fp,pU X Zt H₂ b)
  {Fin:List V->Hp->Prop} (hW:jV J g tt te Fin (capσ σ src) H₂) {RR:Value->Addr->Result->Shared->Prop} {E:Value->Shared->Prop}
  (KL:∀D C s' ys H' m,Fin ys H'->H' D=none->Inv X Zt σ (upd H' D (.lst ys)) s'->s'.heap.Ns C m->pU X Zt (upd H' D (.lst ys)) C->RR (.ref D) C (.ok .next) s'):
  wpAny (model X.prog X.w) X.A (newList []) (fun acc s₃=>wpAny (model X.prog X.w) X.A (newFunctionEnv scope X.env.globals (fB X.env.cells scope.names []) [] X.env.qual none .none (some X.env)) (fun tN kr=>
   codeAny (model X.prog X.w) X.A (.compStart (.ListComp elt [⟨tg,iter,ifs,0⟩] scope pos) 0 (.ref it) acc {tN with scope:=relabel scope X.env}) (RR acc tN.locals) kr) E s₃) E s₂:=by
 refine wpAny_newObj_type (wpAny_newFunctionEnv S.hcell (by intro y hy;simp at hy) (fun c8 ck bX=>?_) S.kind);dsimp only at ck bX⊢;generalize Bi:s₂.heap.push {cls:=.type "list",dict:=none,data:=.seq ([]:List Value).toArray}=HH at ck bX⊢;generalize lh:s₂.heap.objs.size=D at ck bX⊢;have hC:HH.objs.size=D+1:=by rw[<-Bi,Heap.size_push,lh]
 generalize Qw:HH.objs.size=C at ck bX hC⊢;have yT:D≠C:=Zz
 have below:∀b,b<s₂.heap.objs.size->b≠C/\b≠D:=fun b hb=>by rw[lh]at hb;exact⟨by rw[hC];exact zB6 (Nat.lt_succ_of_lt hb),zB6 hb⟩
 have aT:∀{b o},s₂.heap.get? b=some o->b≠C/\b≠D:=fun{b o} e=>below b (zAz e);have old:∀b o,s₂.heap.get? b=some o->c8.get? b=some o:=fun b o e=>bX.extBut b o (aT e).1 (zAy _ (Bi▸zAy _ e));have Bn:c8.get? D=some {cls:=.type "list",data:=.seq ([]:List Value).toArray}:=bX.extBut _ _ yT (zAy _ (Bi▸lh▸zB3 _ rfl))
 have KN:∀b∈fp,∃o,s₂.heap.get? b=some o:=fun b hb=>let⟨o,e,_⟩:=T.obj _ _ st b hb;⟨o,e⟩
 have yY:∀b∈fp,b≠C/\b≠D:=fun b hb=>let⟨o,e⟩:=KN b hb;aT e
 have sub:∀{x c},(fB X.env.cells scope.names []).lookup x=some c->X.env.cells.lookup x=some c:=fun{x c} e=>by
  rcases rO scope.names [] S.hfree e with z|z
  .simp at z
  .exact z
 have KO:∀{b o},s₂.heap.get? b=some o->b<D:=fun{b o} e=>by rw[<-lh];exact zAz e
 have fresh:∀a,D<=a->H₂ a=none:=fun a ha=>aw.hok.fresh (by rw[lh];exact ha)
 have lI:∀{x c},X.env.cells.lookup x=some c->∃o,s₂.heap.get? c=some o:=fun{x c} e=>let⟨v,o,ho,_⟩:=aw.cell x c e;⟨o,ho⟩
 have Bz:∀b∈frs X.stack,∃o,s₂.heap.get? b=some o:=fun b hb=>by
  rcases zAo.mp (aw.stkSub b hb)with e|hb
  .rw[e];obtain⟨m,⟨o,_,_,ho,_⟩,_⟩:=aw.loc;exact⟨o,ho⟩
  .obtain⟨_,o,ho,_⟩:=aw.funs.mem hb;exact⟨o,ho⟩
 have BA:∀a,D<=a->a∉frs X.stack:=fun a ha hb=>by
  obtain⟨o,e⟩:=Bz a hb;exact absurd (zB2 (KO e) ha) (Nat.lt_irrefl _)
 have F8:∀b∈fp,b∉frs X.stack:=fun b hb z=>by
  obtain⟨_,f1,f2,_⟩:=hf b hb;rcases zAo.mp (aw.stkSub b z)with e|e
  .exact f1 e
  .exact f2 e
 generalize eM:cxC X scope Nc C fp Zt s₂ H₂=X';obtain⟨hg,ht,he⟩:=hb C fp Zt s₂ H₂;rw[eM]at hg ht he
 have KP:X'.Ok:=by
  subst eM;refine⟨aw.ok.mod,S.kind,aw.ok.glob,aw.ok.blt,?_,?_,?_,?_,aw.ok.hd,aw.ok.frames,.inl rfl,?_,aw.bs,Nat.le_trans aw.ok.bsz aw.sz,?_,F8,aw.stack,aw.stkFree⟩
  .show s₂.heap.objs.size<=C;lia
  .exact fun x y c e1 e2=>aw.ok.inj x y c (sub e1) (sub e2)
  .intro x hx;have hx:(relabel scope X.env).names.lookup x=some .cell\/(relabel scope X.env).names.lookup x=some .free:=hx
   have:∃k',(x,k')∈scope.names/\k'=NameKind.free:=by
    rcases hx with z|z
    .exact jU S.hcell z (.inl rfl)
    .exact jU S.hcell z (.inr rfl)
   exact rP scope.names [] (.inl this)
  .intro x c z;exact absurd z (by show¬(false=true);simp)
  .intro b hb;exact⟨(yY b hb).1,fun x c e=>(hf b hb).2.2.2.2.1 x c (sub e)⟩
  .intro b o e hb;obtain⟨_,_,_,f3,_⟩:=hf b hb;rcases f3 with z|z
   .exact aw.ok.noex b o e z
   .exact absurd (zB2 (zAz (aw.ok.bs b o e).1) z) (Nat.lt_irrefl _)
 have eP:X'.prog=X.prog:=by subst eM;rfl
 have ew:X'.w=X.w:=by subst eM;rfl
 have eK:X'.K=X.K:=by subst eM;rfl
 have eA:X'.A=X.A:=by subst eM;rfl
 have eE:X'.xe=fun _ _=>False:=by subst eM;rfl
 have eL:X'.env.locals=C:=by subst eM;rfl
 have eN:X'.env=compEnvC scope (fB X.env.cells scope.names []) C X.env:=by subst eM;rfl
 have ec:X'.calm=true:=by subst eM;exact hc
 have eS:X'.s₀=s₂:=by subst eM;rfl
 have eH:X'.H₀=H₂:=by subst eM;rfl
 have ef:X'.fs=frs X.stack:=by subst eM;rfl
 have ex:X'.ex=fp:=by subst eM;rfl
 have ep:X'.pn=X.pn++Zt:=by subst eM;rfl
 have I0:Inv X' [] (capσ σ src) H₂ {s₂ with heap:=c8,toks:=s₂.toks+([]:List (Str×Value)).length}:=by
  refine⟨KP,by rw[eS],aw.bare,by rw[eS,eH];exact Un.kept old,⟨_,by rw[eL];exact ck,?_⟩,?_,by rw[eL];exact fresh _ Zz,?_,?_,by rw[eP,ew];exact aw.hok.kept old,?_⟩
  .intro j x v e1 e2 e3;have e1:Nc[j]?=some x:=by subst eM;exact e1
   have e4:∃i,src[j]?=some (some i)/\(σ[i]?).join=some v:=by
    unfold capσ at e2;rw[zAb]at e2
    cases q:src[j]? with
    |none=>rw[q]at e2;cases e2
    |some o=>
     rw[q]at e2
     cases o with
     |none=>simp at e2
     |some i=>exact⟨i,rfl,by simpa using e2⟩
   obtain⟨i,e5,e6⟩:=e4;obtain⟨c1,c2,c3,c4⟩:=(cE C).get e1 e5
   have e7:σ[i]?=some (some v):=by
    cases q:σ[i]? with
    |none=>rw[q]at e6;simp at e6
    |some o=>rw[q]at e6;simp at e6;rw[e6]
   obtain⟨m,_,hl⟩:=aw.loc;obtain⟨u,r,l⟩:=hl i x v c1 e7 (.inr (by rcases c2 with z|z;exact .inl z;exact .inr z));refine⟨u,r,?_⟩;rcases l with⟨k,_⟩|⟨_,c,e,z⟩
   .rcases c2 with c2|c2<;>(rw[k]at c2;cases c2)
   .refine .inr ⟨by rw[eN];exact c4,c,by rw[eN];exact c3.trans e,?_⟩;obtain⟨o,ho,hd⟩:=z;exact⟨o,old c o ho,hd⟩
  .intro x c e;rw[eN]at e;obtain⟨v,o,ho,hd⟩:=aw.cell x c (sub e);exact⟨v,o,old c o ho,hd⟩
  .intro x c e;rw[eN]at e;exact aw.freeC x c (sub e)
  .intro p hp;rw[ep,zAn]at hp;obtain⟨e,n,ne,nf,d⟩:=aw.pin p hp;refine⟨old _ _ e,n,by rw[eL];exact(aT e).1,?_,d⟩;rw[ef];intro z;rcases zAo.mp (aw.stkSub _ z)with q|q
   .exact ne q
   .exact nf q
  .have:=(cE C).len;subst eM;show(capσ σ src).length=Nc.length;unfold capσ;rw[zA1,this]
 have KQ:∀p∈X'.pn,p.1≠D:=fun p hp=>by
  rw[ep]at hp;exact(aT (aw.pin p hp).1).2
 have tP:∀x c,X'.env.cells.lookup x=some c->c≠D:=fun x c e=>by
  rw[eN]at e;obtain⟨o,ho⟩:=lI (sub e);exact(aT ho).2
 have BB:∀{P:List (Addr×Obj)} {H:Hp},(∀p∈P,p.1=D)->(∀b∈fp,H b=none)->∀b∈fp,pU X' P H b:=fun{P H} hP hn b hb=>by
  refine⟨hn b hb,by rw[eL];exact(yY b hb).1,by rw[ef];exact F8 b hb,.inl (by rw[ex];exact hb),fun x c e=>?_,fun p hp=>?_⟩
  .rw[eN]at e;exact(hf b hb).2.2.2.2.1 x c (sub e)
  .rcases zA6.mp hp with z|z
   .rw[ep]at z;exact(hf b hb).2.2.2.2.2 p z
   .rw[hP p z];exact(yY b hb).2.symm
 obtain⟨W,⟨m0,w0⟩,step⟩:=hW
 have loop:∀s₃:Shared,s₃={s₂ with heap:=c8,toks:=s₂.toks+([]:List (Str×Value)).length}->
   codeAny (model X.prog X.w) X.A (.compLoop (.ListComp elt [⟨tg,iter,ifs,0⟩] scope pos) 0 (.ref it) (.ref D) (compEnvC scope (fB X.env.cells scope.names []) C X.env)) (RR (.ref D) C) s₃:=by
  rintro s₃ rfl
  refine q9 (fun n s'=>∃i ys us k ai H',Inv X' [] ai H' s'/\tn i s'.heap/\(∀b∈fp,H' b=none)/\H' D=none/\s'.heap.get? D=some {cls:=.type "list",data:=.seq (List.toArray us) k}/\Vals ys us/\W i n ys ai H') ?_ m0
   ⟨0,[],[],_,_,_,I0,T.keep _ _ _ st fun b _ o e=>old b o e,fun b hb=>(hf b hb).1,fresh _ (zA3 _),Bn,.nil,w0⟩
  rintro n s3 ⟨i,ys,us,k,eI,H3,I3,fz,sL,nL,KR,y7,w3⟩;obtain⟨hsz,nN⟩:=step i n ys eI H3 w3
  have F9:Inv X' [(D,{cls:=.type "list",data:=.seq us.toArray k})] eI H3 s3:=I3.pins_of fun p hp=>by
   rw[List.mem_singleton.mp hp];exact⟨KR,nL,by rw[eL];exact yT,by rw[ef];exact BA _ (zA3 _),fun v z=>by cases z⟩
  have nS:∀p∈[(D,({cls:=.type "list",data:=.seq us.toArray k}:Obj))],p.1=D:=fun p hp=>by rw[List.mem_singleton.mp hp]
  rcases nN with⟨stop,fin⟩|⟨go,turn⟩
  ·-- the end
   have hd:=T.done X' eP ew eK ec i _ s3 eI H3 (fun _ _=>False) F9 (BB nS sL) fz stop;rw[eA]at hd;refine thn hd fun r s4 ⟨hr,I4⟩=>?_;subst hr;have pD:=I4.pin (D,{cls:=.type "list",data:=.seq us.toArray k}) (zBd _ (List.mem_singleton.mpr rfl));obtain⟨mC,GA,_⟩:=I4.loc;rw[eL]at GA;have lP:=I4.base;rw[eS,eH,ef,ex]at lP;have hlen:ys.length<=sizeLine:=Nat.le_of_lt hsz
   have BC:HOk X.prog X.w (upd H3 D (.lst ys)) s4.heap:=fun b u e=>by
    by_cases hb:b=D
    .subst hb;rw[ao]at e;cases e;exact⟨hlen,us,k,y7,pD.1⟩
    .rw[aB hb]at e;have z:=I4.hok b u e;rw[eP,ew]at z
     exact z.stay (fun c v _ q=>q) (fun c q=>by rw[aB (aH q nL)];exact q) fun c xs q=>by rw[aB (aH q nL)];exact q
   have un:Un (frs X.stack) fp H₂ (upd H3 D (.lst ys)) s₂.heap s4.heap:=⟨lP.keep,lP.slot,fun b o e n hx=>by rw[aB (aT e).2];exact lP.free b o e n hx,lP.there,
    fun b xs e=>by
     have z:=lP.tups b xs e
     rw[aB (aH z nL)];exact z,
    fun b o u e=>by
     have z:=lP.frzs b o u e
     rw[aB (aH z nL)];exact z,
    fun b ps e=>by
     obtain⟨mo,z⟩:=lP.tbls b ps e
     exact⟨mo,by rw[aB (aH z nL)];exact z⟩⟩
   have J4:Inv X Zt σ (upd H3 D (.lst ys)) s4:=aw.call' (ch:=fp) (by have:=I4.os;rw[eS]at this;exact this) un BC I4.bare fun b hb=>by
    obtain⟨_,f1,f2,f3,f4,f5⟩:=hf b hb;exact⟨f3,f1,f4,f5⟩
   refine KL D C s4 ys H3 mC fin nL J4 GA ⟨?_,?_,?_,.inr ?_,?_,?_⟩
   .rw[aB yT.symm];have:=I4.free;rw[eL]at this;exact this
   .have:=aw.lt;rw[lh]at this;exact Nat.ne_of_gt (zB2 this (by rw[hC];exact Nat.le_succ _))
   .intro z;obtain⟨_,o,ho,_⟩:=aw.funs.mem z;exact(aT ho).1 rfl
   .have:=aw.sz;rw[lh]at this;lia
   .intro x c e z;obtain⟨o,ho⟩:=lI e;exact(aT ho).1 z
   .intro p hp z;exact(aT (aw.pin p hp).1).1 z
  ·-- a turn
   have hd:=T.item X' eP ew eK ec i _ s3 eI H3 (fun _ _=>False) F9 (BB nS sL) fz go;rw[eA]at hd;refine thn hd fun r s4 ⟨u,hr,h4⟩=>?_;subst hr;refine thn h4 fun _ s5 ⟨x,H5,I5,r5,y5,nc,AS⟩=>?_;have AU:=I5.pinned (BB nS AS) (T.obj _ _ nc);have qv:=hg _ s5 eI H5 x u _ AU r5 (turn x H5 y5);rw[eP,ew,eA,eE,eN]at qv;refine thn qv fun _ s6 ⟨ki,H6,I6,q6⟩=>?_;have fT:=ht _ s6 ki H6 _ I6 q6;rw[eP,ew,eA,eE,eN]at fT;refine thn fT fun okb s7 ⟨H7,I7,q7⟩=>?_
   have back:∀{H8:Hp} {s8:Shared},Inv X' ([(D,({cls:=.type "list",data:=.seq us.toArray k}:Obj))]++lD fp s5.heap) ki H8 s8->
     Inv X' [] ki H8 s8/\tn (i+1) s8.heap/\(∀b∈fp,H8 b=none)/\H8 D=none/\s8.heap.get? D=some {cls:=.type "list",data:=.seq us.toArray k}/\(∀b∈fp,∀o,s5.heap.get? b=some o->s8.heap.get? b=some o):=fun{H8 s8} I8=>by
    have pD:=I8.pin (D,{cls:=.type "list",data:=.seq us.toArray k}) (List.mem_append_right _ (List.mem_append_left _ (List.mem_singleton.mpr rfl)));have pf:∀b∈fp,∀o,s5.heap.get? b=some o->s8.heap.get? b=some o:=fun b hb o e=>(I8.pin (b,o) (List.mem_append_right _ (List.mem_append_right _ (fV hb e)))).1;refine⟨I8.pins_of fun p hp=>absurd hp Zy,T.keep _ _ _ nc pf,fun b hb=>?_,pD.2.1,pD.1,pf⟩;obtain⟨o,e,d⟩:=T.obj _ _ nc b hb;exact(I8.pin (b,o) (List.mem_append_right _ (List.mem_append_right _ (fV hb e)))).2.1
   cases okb with
   |false=>
    obtain⟨b1,b2,b3,b4,b5,_⟩:=back I7;obtain⟨m',hm,w7⟩:=q7;exact⟨m',hm,i+1,ys,us,k,ki,H7,b1,b2,b3,b4,b5,y7,w7⟩
   |true=>
    have y8:=he _ s7 ki H7 _ I7 q7;rw[eP,ew,eA,eE,eN]at y8;show wpAny _ _ (eval elt _) _ _ s7;refine thn y8 fun xv s8 ⟨y,H8,I8,r8,m',hm,w8⟩=>?_;obtain⟨b1,b2,b3,b4,b5,b6⟩:=back I8;refine append_at (hsz:=by rw[zA8,<-y7.length];exact Nat.le_of_lt hsz) b5 fun h9 GB KS=>?_
    have I9:Inv X' [] ki H8 {s8 with heap:=h9}:=b1.turned (t':=s8.toks) (fun b o hb e=>GB.extBut b o hb e) b4 (by rw[eL];exact yT) (.inr (by rw[eS,lh];exact zA3 _)) tP fun p hp=>by
     rw[zAn]at hp;exact KQ p hp
    refine⟨m',hm,i+1,ys++[y],us++[xv],k+1,ki,H8,I9,T.keep _ _ _ b2 fun b hb o e=>GB.extBut b o (yY b hb).2 e,b3,b4,?_,y7.append (.cons r8 .nil),w8⟩;show h9.get? D=_;rw[KS,List.push_toArray]
 refine codeAny_compStart_list (loop _ rfl) ?_;exact T.self _ 0 _ _ _ (T.keep _ _ _ st fun b _ o e=>old b o e) (loop _ rfl)
def za(wi:TI)(src:List (Option Nat))(g:TG)(tt:TT)(te:TE):TE:=fun σ H Q=>wi σ H fun J H1=>jV J g tt te (fun ys H'=>∀D,H' D=none->Q (.ref D) (upd H' D (.lst ys))) (capσ σ src) H1
section
variable{X:Cx}{tg iter elt:Expr}{ifs:List Expr}{scope:Scope}{pos:Pos}{Nc:List Str}{wi:TI}{g:TG}{tt:TT}{te:TE}
theorem bW(Nc:List Str)(src:List (Option Nat))(hc:X.calm=true)(hi:PI X tg iter wi)
  (hb:∀C fp Zt s₂ H₂,PG (cxC X scope Nc C fp Zt s₂ H₂) tg g/\PTs (cxC X scope Nc C fp Zt s₂ H₂) ifs tt/\PE (cxC X scope Nc C fp Zt s₂ H₂) elt te)
  (cE:∀C,Caps X (compEnvC scope (fB X.env.cells scope.names []) C X.env) Nc src) (S:CScope X scope)
  (hs:∀x,foldedSetIterable iter X.env x=pure x:=by intro _;rfl):PE X (.ListComp elt [⟨tg,iter,ifs,0⟩] scope pos) (za wi src g tt te):=by
 intro Zt s σ H Q I h;rw[eval_ListComp];refine wpAny_comprehension_free (use:=none) rfl hs (vI S.hfree) S.kind S.hnames ?_;refine thn (hi Zt s σ H _ I h) fun v s1 h1=>thn h1 fun yy s2 h2=>?_;obtain⟨it,fp,tn,J,H2,e,I2,T,st2,f2,hW⟩:=h2;subst e;refine oF (RR:=fun acc C=>compPost (model X.prog X.w) X.A X.xe none (EP X Zt σ Q) acc C) hc S cE hb I2 T st2 f2 hW ?_;intro D C s' ys H' m fin nD J' hn fC;obtain⟨f0,f1,_,f3,f4,f5⟩:=fC;refine⟨m,hn,fun KU nV=>?_⟩;exact⟨.ref D,_,J'.turned (t':=s'.toks) (fun b o hb e=>nV.extBut b o hb e) f0 f1 f3 f4 f5,rfl,fin D nD⟩
def Fi(wi:TI)(src:List (Option Nat))(g:TG)(tt:TT)(te:TE)(i:Nat):TS:=fun D σ H=>za wi src g tt te σ H fun v H'=>D.nx (σ.set i (some v)) H'
theorem j5{i:Nat}{x:Str}{pos' tS:Pos}(Nc:List Str)(src:List (Option Nat))(hc:X.calm=true)(hN:X.N.Nodup)(gz:X.N[i]?=some x)(hx:Loc X.env.scope x)(hi:PI X tg iter wi)
  (hb:∀C fp Zt s₂ H₂,PG (cxC X scope Nc C fp Zt s₂ H₂) tg g/\PTs (cxC X scope Nc C fp Zt s₂ H₂) ifs tt/\PE (cxC X scope Nc C fp Zt s₂ H₂) elt te)
  (cE:∀C,Caps X (compEnvC scope (fB X.env.cells scope.names []) C X.env) Nc src) (S:CScope X scope)
  (KW:swapsWith (.ListComp elt [⟨tg,iter,ifs,0⟩] scope pos) (some (.Name x pos')) tS.line X.env=pure true:=by rfl)
  (hf:X.fn x=true\/X.env.scope.names.lookup x=some .local:=by first|exact .inl rfl|exact .inr rfl|assumption)
  (hs:∀x,foldedSetIterable iter X.env x=pure x:=by intro _;rfl):PS X (.Assign [.Name x pos'] (.ListComp elt [⟨tg,iter,ifs,0⟩] scope pos) tS) (Fi wi src g tt te i):=by
 intro Zt s σ H D I h;rw[exec_Assign_Name_used _ _ _ _ KW];refine zAx (wpAny_standAt (zAx ?_));show wpAny _ _ (do let _ <-comprehension (.ListComp elt [⟨tg,iter,ifs,0⟩] scope pos) scope X.env _ (newList []) false (eval iter X.env) (some (assign (.Name x pos') X.env))) _ _ s;refine zAx (thn (wpAny_comprehension_free (use:=some (assign (.Name x pos') X.env)) (Q:=fun _ s'=>∃ai H',Inv X Zt ai H' s'/\D.nx ai H') rfl hs (vI S.hfree) S.kind S.hnames ?_) fun _ s' hq=>zB0 (zB0 hq));refine thn (hi Zt s σ H _ I h) fun v s1 h1=>thn h1 fun yy s2 h2=>?_;obtain⟨it,fp,tn,J,H2,e,I2,T,st2,f2,hW⟩:=h2;subst e;refine oF (RR:=fun acc C=>compPost (model X.prog X.w) X.A X.xe (some (assign (.Name x pos') X.env)) (fun _ s'=>∃ai H',Inv X Zt ai H' s'/\D.nx ai H') acc C) hc S cE hb I2 T st2 f2 hW ?_;intro A C s' ys H' m fin nD J' hn fC;obtain⟨f0,f1,Qx,f3,f4,f5⟩:=fC;refine wpAny_assign_Name (nR J' hN gz hx (v:=.ref A) rfl (fun qq KY KZ=>?_) hf)
 have tF:∃m',qq.heap.Ns C m':=by
  obtain⟨a,sb,ha⟩:=KZ
  have dv:C≠a:=by
   rcases ha with z|z
   .rw[z];exact f1
   .exact fun q=>f4 x a z q.symm
  exact⟨m,hn.sameBut sb dv⟩
 obtain⟨m',tF⟩:=tF;refine⟨m',tF,fun KU nV=>?_⟩;exact⟨_,_,KY.turned (t':=qq.toks) (fun b o hb e=>nV.extBut b o hb e) f0 f1 f3 f4 f5,fin A nD⟩
end
section
variable{X:Cx}
theorem gG:dG X (.builtin "isinstance") (fun xs H Q=>∃x t n b,xs=[x,.ty n]/\TyOf X.K H x t/\PySem.W.kitOne X.K t (.type n)=some b/\Q (.bl b) H):=by
 intro Zt s σ H xs us Q I r h;obtain⟨x,t,n,b,rfl,ty,e,q⟩:=h;obtain⟨u,c,rfl,ru,rc⟩:=vals2 r;obtain rfl:c=Value.type n:=rc
 exact xN I ru ty e fun tk=>⟨.bl b,H,I.tok _,rfl,q⟩
theorem rQ{prog:Program}{w:World}{A:Around}(bs:List Bool):TruthOf prog w A (fun i v=>∃b,bs[i]?=some b/\v=Value.bool b) (fun i=>(bs[i]?).getD false):=by
 intro i v s Q E hP hQ;obtain⟨b,hb,rfl⟩:=hP;dsimp only at hQ;rw[hb]at hQ;exact wpAny_truthy_bool hQ
theorem all_range(bs:List Bool):(List.range bs.length).all (fun i=>(bs[i]?).getD false)=bs.all id:=by
 apply Bool.eq_iff_iff.mpr;rw[List.all_eq_true,List.all_eq_true];constructor
 .intro h b hb;obtain⟨i,hi,e⟩:=List.getElem_of_mem hb;have:=h i (List.mem_range.mpr hi);rw[zA0 hi,e]at this;exact this
 .intro h i hi;have hi:=List.mem_range.mp hi;rw[zA0 hi];exact h _ (zAh hi)
theorem lJ:∀{bs:List Bool} {us:List Value},Vals (bs.map V.bl) us->us=bs.map Value.bool
 |[],_,.nil=>rfl
 |_::bs,_,.cons r t=>by
  rw[lJ (bs:=bs) t,show _=Value.bool _ from r];rfl
theorem eU(hc:X.calm=true):dG X (.builtin "all") (fun xs H Q=>∃(p:Addr) (bs:List Bool),xs=[.ref p]/\SqL X.K H p (bs.map V.bl)/\Q (.bl (bs.all id)) H):=by
 intro Zt s σ H xs us Q I r h;obtain⟨p,bs,rfl,hq,q⟩:=h;obtain⟨u,rfl,ru⟩:=vals1 r;cases ru;obtain⟨Zr,rv,pl,hz⟩:=I.list hq;have ei:=lJ rv;subst ei;have aI:p<s.heap.objs.size:=by obtain⟨_,e,_⟩:=pl.isList;exact zAz e
 refine call_all_walk (wpAny_pyIter_list pl.isList ?_);have W:=Walks.list (prog:=X.prog) (w:=X.w) (A:=X.A.in1) (I.ok.hd hc) s.heap.objs.size p (zB6 aI) (bs.map Value.bool).toArray;refine⟨_,_,_,_,_,_,_,rfl,{sub:=W.sub,frame:=W.frame,item:=fun i s Q E hi st hQ=>W.item i s Q E hi st fun v h' tk hP=>hQ v h' tk ?_,done:=W.done,self:=W.self},⟨⟨_,zB3 _ rfl,rfl,rfl⟩,pl.isList.push _⟩,rQ bs,fun h' tk k=>?_⟩
 .have tT:(bs.map Value.bool).toArray[i]?=some v:=hP;rw[List.getElem?_toArray,zAb]at tT
  cases e:bs[i]? with
  |none=>rw[e]at tT;cases tT
  |some b=>rw[e]at tT;exact⟨b,rfl,(zAl tT).symm⟩
 .have hsz:(bs.map Value.bool).toArray.size=bs.length:=by simp
  rw[hsz,all_range];refine⟨.bl _,H,?_,rfl,q⟩;refine I.kept (h':=h') (t':=tk) fun b o e=>k b o ?_ (Heap.get?_push_of_some _ e);intro z;have:b=s.heap.objs.size:=by simpa using z
  exact absurd (zAz e) (by rw[this];exact Nat.lt_irrefl _)
end
theorem jz{K:Frag}:PySem.W.kitOne K (.type "NoneType") (.type "int")=some false:=by kernel_rfl
theorem j6{K:Frag}:PySem.W.kitOne K (.type "NoneType") (.type "bool")=some false:=by kernel_rfl
theorem iK{K:Frag}:PySem.W.kitOne K (.type "NoneType") (.type "tuple")=some false:=by kernel_rfl
theorem qb{K:Frag}:PySem.W.kitOne K (.type "bool") (.type "int")=some true:=by kernel_rfl
theorem mZ{K:Frag}:PySem.W.kitOne K (.type "bool") (.type "bool")=some true:=by kernel_rfl
theorem lK{K:Frag}:PySem.W.kitOne K (.type "bool") (.type "tuple")=some false:=by kernel_rfl
theorem rR{K:Frag}:PySem.W.kitOne K (.type "int") (.type "int")=some true:=by kernel_rfl
theorem qd{K:Frag}:PySem.W.kitOne K (.type "int") (.type "bool")=some false:=by kernel_rfl
theorem ni{K:Frag}:PySem.W.kitOne K (.type "int") (.type "tuple")=some false:=by kernel_rfl
theorem rT{K:Frag}:PySem.W.kitOne K (.type "str") (.type "int")=some false:=by kernel_rfl
theorem qe{K:Frag}:PySem.W.kitOne K (.type "str") (.type "bool")=some false:=by kernel_rfl
theorem nj{K:Frag}:PySem.W.kitOne K (.type "str") (.type "tuple")=some false:=by kernel_rfl
theorem qg{K:Frag}:PySem.W.kitOne K (.type "list") (.type "int")=some false:=by kernel_rfl
theorem nq{K:Frag}:PySem.W.kitOne K (.type "list") (.type "bool")=some false:=by kernel_rfl
theorem lM{K:Frag}:PySem.W.kitOne K (.type "list") (.type "tuple")=some false:=by kernel_rfl
theorem nu{K:Frag}:PySem.W.kitOne K (.type "tuple") (.type "int")=some false:=by kernel_rfl
theorem lN{K:Frag}:PySem.W.kitOne K (.type "tuple") (.type "bool")=some false:=by kernel_rfl
theorem kI{K:Frag}:PySem.W.kitOne K (.type "tuple") (.type "tuple")=some true:=by kernel_rfl
theorem qi{K:Frag}:PySem.W.kitOne K (.type "dict") (.type "int")=some false:=by kernel_rfl
theorem nA{K:Frag}:PySem.W.kitOne K (.type "dict") (.type "bool")=some false:=by kernel_rfl
theorem lO{K:Frag}:PySem.W.kitOne K (.type "dict") (.type "tuple")=some false:=by kernel_rfl
section
variable{κ:Type}[DecidableEq κ]
def cW(Zs:List (κ×V))(k:κ):Option V:=(Zs.find? fun kv=>decide (kv.1=k)).map (·.2)
def putK(Zs:List (κ×V))(k:κ)(v:V):List (κ×V):=
 if(Zs.any fun kv=>decide (kv.1=k))=true then Zs.map (fun kv=>if kv.1=k then(kv.1,v)else kv)else Zs++[(k,v)]
theorem cG{p:κ×V}{r:List (κ×V)}{k:κ}(e:p.1=k):cW (p::r) k=some p.2:=by simp[cW,List.find?_cons,e]
theorem cH{p:κ×V}{r:List (κ×V)}{k:κ}(e:¬p.1=k):cW (p::r) k=cW r k:=by simp[cW,List.find?_cons,e]
theorem j7(k:κ):∀Zs:List (κ×V),(Zs.any fun kv=>decide (kv.1=k))=(cW Zs k).isSome
 |[]=>rfl
 |p::r=>by
  rw[List.any_cons];by_cases e:p.1=k
  .simp only[cG e,decide_eq_true e,Bool.true_or,Option.isSome_some]
  .rw[cH e,zB1 e,Bool.false_or];exact j7 k r
theorem rW(k j:κ)(y:V):∀Zs:List (κ×V),cW (Zs.map fun kv=>if kv.1=k then(kv.1,y)else kv) j=(cW Zs j).map fun x=>if j=k then y else x
 |[]=>rfl
 |p::r=>by
  have ih:=rW k j y r;rw[zAk];by_cases h:p.1=k
  .rw[zAv h];by_cases e:p.1=j
   .rw[cG (p:=(p.1,y)) e,cG e,Option.map_some,zAv (e.symm.trans h)]
   .rw[cH (p:=(p.1,y)) e,cH e,ih]
  .rw[zAu h];by_cases e:p.1=j
   .rw[cG (p:=p) e,cG e,Option.map_some,zAu (fun z=>h (e.trans z))]
   .rw[cH (p:=p) e,cH e,ih]
theorem oG(k j:κ)(y:V):∀Zs:List (κ×V),cW Zs k=none->cW (Zs++[(k,y)]) j=if j=k then some y else cW Zs j
 |[],_=>by
  by_cases e:k=j
  .rw[zAv e.symm];exact cG (p:=(k,y)) e
  .rw[zAu (fun z=>e z.symm)];exact cH (p:=(k,y)) e
 |p::r,hn=>by
  rw[List.cons_append]
  have hk:¬p.1=k:=fun z=>by rw[cG z]at hn;cases hn
  rw[cH hk]at hn;have ih:=oG k j y r hn;by_cases e:p.1=j
  .rw[cG e,cG e,zAu (fun z=>hk (e.trans z))]
  .rw[cH e,cH e,ih]
theorem dH(Zs:List (κ×V))(k j:κ)(y:V):cW (putK Zs k y) j=if j=k then some y else cW Zs j:=by
 unfold putK;by_cases a:(Zs.any fun kv=>decide (kv.1=k))=true
 .rw[zAv a,rW];rw[j7]at a;by_cases e:j=k
  .obtain⟨x,hx⟩:=Option.isSome_iff_exists.mp a;rw[zAv e,e,hx,Option.map_some,zAv rfl]
  .rw[zAu e]
   cases cW Zs j with
   |none=>rfl
   |some x=>rw[Option.map_some,zAu e]
 .rw[zAu a];refine oG k j y Zs ?_;rw[j7]at a
  cases q:cW Zs k with
  |none=>rfl
  |some x=>rw[q]at a;exact(a rfl).elim
theorem cC(Zs:List (κ×V))(k:κ)(v:V):(putK Zs k v).length<=Zs.length+1:=by
 unfold putK;split
 .rw[zA1];lia
 .rw[zA2,zAe,List.length_nil];lia
theorem RelO.isSome_eq{o:Option V}{u:Option Value}(r:RelO o u):o.isSome=u.isSome:=by
 cases o with
 |none=>cases u with
  |none=>rfl
  |some _=>exact(show False from r).elim
 |some _=>cases u with
  |none=>exact(show False from r).elim
  |some _=>rfl
theorem RelO.getD{o:Option V}{u:Option Value}{d:V}{d':Value}(r:RelO o u)(rd:RelV d d'):RelV (o.getD d) (u.getD d'):=by
 cases o with
 |none=>cases u with
  |none=>exact rd
  |some _=>exact(show False from r).elim
 |some _=>cases u with
  |none=>exact(show False from r).elim
  |some _=>exact r
theorem KV.val{Zs:List (κ×V)}{vs:List (κ×Value)}(r:KV Zs vs)(k:κ):RelO (cW Zs k) (valueAt vs k):=by
 unfold KV at r
 induction r with
 |nil=>exact True.intro
 |@cons p q ps qs h t ih=>
  obtain⟨h1,h2⟩:=h;by_cases e:p.1=k
  .have e':q.1=k:=h1.symm.trans e;have b:valueAt (q::qs) k=some q.2:=by simp[valueAt,List.find?_cons,e']
   rw[cG e,b];exact h2
  .have e':¬q.1=k:=fun z=>e (h1.trans z);have b:valueAt (q::qs) k=valueAt qs k:=by simp[valueAt,List.find?_cons,e']
   rw[cH e,b];exact ih
theorem KV.any{Zs:List (κ×V)}{vs:List (κ×Value)}(r:KV Zs vs)(k:κ):(Zs.any fun kv=>decide (kv.1=k))=vs.any fun kv=>decide (kv.1=k):=by
 unfold KV at r
 induction r with
 |nil=>rfl
 |cons h t ih=>rw[List.any_cons,List.any_cons,ih,h.1]
theorem KV.repl{Zs:List (κ×V)}{vs:List (κ×Value)}(r:KV Zs vs)(k:κ){y:V}{u:Value}(ry:RelV y u):
  KV (Zs.map fun kv=>if kv.1=k then(kv.1,y)else kv) (vs.map fun kv=>if kv.1=k then(kv.1,u)else kv):=by
 unfold KV at r⊢
 induction r with
 |nil=>exact .nil
 |@cons p q ps qs h t ih=>
  rw[zAk,zAk];refine .cons ?_ ih;obtain⟨h1,h2⟩:=h;by_cases e:p.1=k
  .rw[zAv e,zAv (h1.symm.trans e)];exact⟨h1,ry⟩
  .rw[zAu e,zAu (fun z=>e (h1.trans z))];exact⟨h1,h2⟩
theorem KV.put{Zs:List (κ×V)}{vs:List (κ×Value)}(r:KV Zs vs)(k:κ){y:V}{u:Value}(ry:RelV y u):KV (putK Zs k y) (stored vs k u):=by
 unfold putK stored;rw[r.any k];by_cases e:(vs.any fun kv=>decide (kv.1=k))=true
 .rw[zAv e,zAv e];exact r.repl k ry
 .rw[zAu e,zAu e];exact Paired.snoc r ⟨rfl,ry⟩
theorem KV.length{Zs:List (κ×V)}{vs:List (κ×Value)}(r:KV Zs vs):Zs.length=vs.length:=Paired.length r
end
theorem rY{P:Program}{w:World}{k:Key}{u:Value}(r:RelV (kV k) u):(bV P w).is k u=true:=by
 cases k with
 |inl i=>obtain⟨t,e⟩:=(show ∃t,u=Value.int i t from r);subst e;exact rE P w i t
 |inr x=>obtain⟨t,e⟩:=(show ∃t,u=Value.str x t from r);subst e;exact rF P w x t
theorem oH{P:Program}{w:World}:∀{ks:List Key} {us:List Value},Vals (ks.map kV) us->ItemsAre (bV P w) ks us
 |[],_,r=>by rw[List.map_nil]at r;cases r;exact .nil
 |k::ks,_,r=>by
  rw[zAk]at r
  cases r with
  |cons h t=>exact .cons (rY h) (oH t)
abbrev KT(H:Hp):List (List Key×V)->List (List Key×Addr×Value)->Prop:=Paired fun p q=>p.1=q.1/\H q.2.1=some (.tup (p.1.map kV))/\RelV p.2 q.2.2
theorem KT.val{H:Hp}{Zs:List (List Key×V)}{xs:List (List Key×Addr×Value)}(r:KT H Zs xs)(k:List Key):RelO (cW Zs k) ((atKey xs k).map (·.2)):=by
 induction r with
 |nil=>exact True.intro
 |@cons p q ps qs h t ih=>
  obtain⟨h1,_,h2⟩:=h;by_cases e:p.1=k
  .have e':q.1=k:=h1.symm.trans e;have b:atKey (q::qs) k=some q.2:=by simp[atKey,List.find?_cons,e']
   rw[cG e,b];exact h2
  .have e':¬q.1=k:=fun z=>e (h1.trans z);have b:atKey (q::qs) k=atKey qs k:=by simp[atKey,List.find?_cons,e']
   rw[cH e,b];exact ih
theorem KT.repl{H:Hp}{Zs:List (List Key×V)}{xs:List (List Key×Addr×Value)}(r:KT H Zs xs)(k:List Key){y:V}{u:Value}(ry:RelV y u):
  KT H (Zs.map fun kv=>if kv.1=k then(kv.1,y)else kv) (xs.map (putAt k u)):=by
 induction r with
 |nil=>exact .nil
 |@cons p q ps qs h t ih=>
  rw[zAk,zAk];refine .cons ?_ ih;obtain⟨h1,h2,h3⟩:=h;unfold putAt;by_cases e:p.1=k
  .rw[zAv e,zAv (h1.symm.trans e)];exact⟨h1,h2,ry⟩
  .rw[zAu e,zAu (fun z=>e (h1.trans z))];exact⟨h1,h2,h3⟩
theorem KT.put{H:Hp}{Zs:List (List Key×V)}{xs:List (List Key×Addr×Value)}(r:KT H Zs xs)(k:List Key){b:Addr}{y:V}{u:Value}(hb:H b=some (.tup (k.map kV)))(ry:RelV y u):
  KT H (putK Zs k y) (storedH xs k b u):=by
 have e:(Zs.any fun kv=>decide (kv.1=k))=(atKey xs k).isSome:=by
  rw[j7,(r.val k).isSome_eq,Option.isSome_map]
 unfold putK storedH;rw[e];by_cases q:(atKey xs k).isSome=true
 .rw[zAv q,zAv q];exact r.repl k ry
 .rw[zAu q,zAu q];exact Paired.snoc r ⟨rfl,hb,ry⟩
theorem KT.keeps{H H':Hp}{Zs:List (List Key×V)}{xs:List (List Key×Addr×Value)}(r:KT H Zs xs)(ht:∀b ys,H b=some (.tup ys)->H' b=some (.tup ys)):KT H' Zs xs:=
 Paired.mapP r fun _ _ z=>⟨z.1,ht _ _ z.2.1,z.2.2⟩
section
variable{P:Program}{w:World}{H:Hp}{h:Heap}{a:Addr}
theorem DG{u:HO}(ok:HOk P w H h)(e:Rd H a u):ObjOk P w H h a u:=e.ok ok
theorem rZ{Zs:List (Key×V)}(ok:HOk P w H h)(e:Rd H a (.dK Zs)):Zs.length<=sizeLine/\(a==sysModules)=false/\∃vs,KV Zs vs/\h.DictOf (bV P w) a vs:=
 show ObjOk P w H h a (.dK Zs)from DG ok e
theorem DK{Zs:List (Key×V)}(ok:HOk P w H h)(e:H a=some (.dK Zs)):Zs.length<=sizeLine/\(a==sysModules)=false/\∃vs,KV Zs vs/\h.DictOf (bV P w) a vs:=rZ ok (.inl e)
theorem qj{ks:List Key}(ok:HOk P w H h)(e:H a=some (.tup (ks.map kV))):(tupleKind (bV P w)).is h ks a:=by
 obtain⟨_,Zr,r,o,h1,h2,n,h3⟩:=(show ObjOk P w H h a (.tup (ks.map kV))from ok a _ e)
 exact⟨o,Zr.toArray,n,h1,h2,h3,by simpa using oH r⟩
theorem su{Zs:List (List Key×V)}(ok:HOk P w H h)(e:Rd H a (.dT Zs)):Zs.length<=sizeLine/\(a==sysModules)=false /\
  ∃xs,KT H Zs xs/\h.DictOfH (tupleKind (bV P w)) a xs:=by
 obtain⟨z,y,xs,r,o,es,ep,h1,h2,h3,h4,h5⟩:=(show ObjOk P w H h a (.dT Zs)from DG ok e)
 refine⟨z,y,xs,r,o,es,ep,h1,h2,h3,h4,fun x hx=>?_,h5⟩
 have all:∀{l:List (List Key×V)} {m:List (List Key×Addr×Value)},KT H l m->∀x∈m,(tupleKind (bV P w)).is h x.1 x.2.1:=by
  intro l m q
  induction q with
  |nil=>intro x hx;exact nomatch hx
  |@cons p q ps qs hq t ih=>
   intro x hx;rcases zAo.mp hx with e|hx
   .subst e;exact qj ok (by rw[<-hq.1];exact hq.2.1)
   .exact ih x hx
 exact all r x hx
theorem Gz{Zs:List (List Key×V)}(ok:HOk P w H h)(e:H a=some (.dT Zs)):Zs.length<=sizeLine/\(a==sysModules)=false /\
  ∃xs,KT H Zs xs/\h.DictOfH (tupleKind (bV P w)) a xs:=su ok (.inl e)
end
def DGet(H:Hp)(a:Addr)(y:V)(r:Option V):Prop:=
 (∃Zs k,Rd H a (.dK Zs)/\y=kV k/\r=cW Zs k)\/∃Zs k b,Rd H a (.dT Zs)/\y=.ref b/\H b=some (.tup (k.map kV))/\r=cW Zs k
def DPut(H:Hp)(a:Addr)(y v:V)(H':Hp):Prop:=
 (∃Zs k,H a=some (.dK Zs)/\y=kV k/\Zs.length<sizeLine/\H'=upd H a (.dK (putK Zs k v))) \/
 ∃Zs k b,H a=some (.dT Zs)/\y=.ref b/\H b=some (.tup (k.map kV))/\Zs.length<sizeLine/\H'=upd H a (.dT (putK Zs k v))
theorem DGet.k{H:Hp}{a:Addr}{Zs:List (Key×V)}{k:Key}(e:H a=some (.dK Zs)):DGet H a (kV k) (cW Zs k):=.inl ⟨Zs,k,.inl e,rfl,rfl⟩
theorem DGet.t{H:Hp}{a b:Addr}{Zs:List (List Key×V)}{k:List Key}(e:H a=some (.dT Zs))(eb:H b=some (.tup (k.map kV))):DGet H a (.ref b) (cW Zs k):=.inr ⟨Zs,k,b,.inl e,rfl,eb,rfl⟩
theorem DPut.k{H:Hp}{a:Addr}{Zs:List (Key×V)}{k:Key}{v:V}(e:H a=some (.dK Zs))(hl:Zs.length<sizeLine):DPut H a (kV k) v (upd H a (.dK (putK Zs k v))):=.inl ⟨Zs,k,e,rfl,hl,rfl⟩
theorem DPut.t{H:Hp}{a b:Addr}{Zs:List (List Key×V)}{k:List Key}{v:V}(e:H a=some (.dT Zs))(eb:H b=some (.tup (k.map kV)))(hl:Zs.length<sizeLine):
  DPut H a (.ref b) v (upd H a (.dT (putK Zs k v))):=.inr ⟨Zs,k,b,e,rfl,eb,hl,rfl⟩
section
variable{X:Cx}{Zt:List (Addr×Obj)}{σ:St}{H:Hp}{s:Shared}{a:Addr}{y v:V}{u r:Value}{o:Option V}{A:Around}{E:Value->Shared->Prop}
theorem Inv.big(I:Inv X Zt σ H s):sysModules<s.heap.objs.size:=by
 have h:mainGlobals<s.heap.objs.size:=(I.mod.glob.keeps I.bk).lt;exact Nat.lt_trans Zx h
theorem xT{Q:Value->Shared->Prop}(hu:A.units+1<cLine)(I:Inv X Zt σ H s)(g:DGet H a y (some v))(ry:RelV y u)(h:∀w' s',Inv X Zt σ H s'->RelV v w'->Q w' s'):
  wpAny (model X.prog X.w) A (getItem (.ref a) u) Q E s:=by
 rcases g with⟨Zs,k,e,ey,l⟩|⟨Zs,k,b,e,ey,eb,l⟩
 .subst ey;obtain⟨z,hd,vs,rel,dd⟩:=rZ I.hok e;obtain⟨w',hw,eC⟩:=RelO.some_of (v:=v) (o:=valueAt vs k) (by rw[l];exact rel.val k);exact wpAny_getItem_of (rY ry) dd.mapOf hw (h w' _ (I.tok _) eC)
 .subst ey;cases(show u=Value.ref b from ry);obtain⟨z,hd,xs,rel,dd⟩:=su I.hok e;obtain⟨w',hw,eC⟩:=RelO.some_of (v:=v) (o:=(atKey xs k).map (·.2)) (by rw[l];exact rel.val k);obtain⟨p,hp,ua⟩:=Option.map_eq_some_iff.mp hw;refine wpAny_getItem_heap (tupleKind_room_in1 hu) (qj I.hok eb) dd hp ?_;rw[ua];exact h w' _ (I.tok _) eC
theorem ql{h':Heap}{t':Nat}{ob:HO}(I:Inv X Zt σ H s)(mu:Mut (H a))(hs:Heap.SameBut a s.heap h')(he:∃q,h'.get? a=some q)(new:ObjOk X.prog X.w (upd H a ob) h' a ob):
  Inv X Zt σ (upd H a ob) {s with heap:=h',toks:=t'}:=
 I.write (x:=a) (e:=a) mu (.inl rfl) (fun b q hb z=>(hs.2 b hb).trans z) he new
theorem zb{P:Program}{w:World}{H':Hp}{h':Heap}{Zs:List (Key×V)}{vs:List (Key×Value)}(z:Zs.length<=sizeLine)(hd:(a==sysModules)=false)(rel:KV Zs vs)(dd:h'.DictOf (bV P w) a vs):
  ObjOk P w H' h' a (.dK Zs):=⟨z,hd,vs,rel,dd⟩
theorem xU{H':Hp}{Q:Unit->Shared->Prop}(hu:A.units+1<cLine)(I:Inv X Zt σ H s)(g:DPut H a y v H')(ry:RelV y u)(rv:RelV v r)(h:∀s',Inv X Zt σ H' s'->Q () s'):
  wpAny (model X.prog X.w) A (setItem (.ref a) u r) Q E s:=by
 rcases g with⟨Zs,k,e,ey,l,eH⟩|⟨Zs,k,b,e,ey,eb,l,eH⟩
 .subst ey eH;obtain⟨z,hd,vs,rel,dd⟩:=DK I.hok e;have hz:vs.length<=sizeLine:=by rw[<-rel.length];exact z
  have hl:(putK Zs k v).length<=sizeLine:=by have:=cC Zs k v;lia
  refine wpAny_setItem_pairs (hsz:=hz) (rY ry) dd fun h' nX hs=>h _ ?_
  have he:∃q,h'.get? a=some q:=let⟨q,_,_,hq,_⟩:=nX;⟨q,hq⟩
  exact ql I (by rw[e];exact True.intro) hs he (zb hl hd (rel.put k rv) nX)
 .subst ey eH;cases(show u=Value.ref b from ry);obtain⟨z,hd,xs,rel,dd⟩:=Gz I.hok e;have hz:xs.length<=sizeLine:=by rw[<-Paired.length rel];exact z
  have hl:(putK Zs k v).length<=sizeLine:=by have:=cC Zs k v;lia
  refine wpAny_setItem_heap (hsz:=hz) (tupleKind_room_in1 hu) (qj I.hok eb) dd fun h' nX hs=>h _ ?_;obtain⟨q,es,ep,hq,h2,h3,h4,_,h5⟩:=nX;refine ql I (by rw[e];exact True.intro) hs ⟨q,hq⟩ ⟨hl,hd,_,(rel.put k eb rv).keeps fun c ys ec=>?_,q,es,ep,hq,h2,h3,h4,h5⟩;rw[aB (Ga ec e (fun z=>nomatch z))];exact ec
end
section
variable{X:Cx}{Zt:List (Addr×Obj)}{σ:St}{H:Hp}{s:Shared}{a:Addr}{Zs:List (Key×V)}{k:Key}{u:Value}{A:Around}{E:Value->Shared->Prop}
end
def GC(i:Expr):Prop:=∀ov iv,subscripted i false ov iv=operate [ov,iv] (getItem ov iv)
theorem BR{prog:Program}{w:World}{A:Around}{E:Value->Shared->Prop}{s:Shared}{env:Env}{value slice:Expr}{pos:Pos}{T id:String}{Q:Value->Shared->Prop}
  (hl:typeLookup (.type T) "__getitem__"=pure (some (.builtin id))) (hs:GC slice)
  (h:wpAny (model prog w) A (eval value env) (fun o s₁=>wpAny (model prog w) A (eval slice env) (fun i s₂=>s₂.TypeIs o T/\wpAny (model prog w) A (getItem o i) Q E s₂) E s₁) E s):
  wpAny (model prog w) A (eval (.Subscript value slice pos) env) Q E s:=by
 refine Subscript_ (wpAny_mono h (fun o s₁ c8=>wpAny_mono c8 (fun i s₂ hG=>?_) fun _ _ x=>x) fun _ _ x=>x);obtain⟨hT,hG⟩:=hG;unfold subscriptTail;refine zAx ?_;rw[getitemInPython_of_ne hT.not_modules];refine zAx (wpAny_specialOf hT hl ?_)
 have fin:wpAny (model prog w) A (subscripted slice false o i) (fun r s₃=>wpAny (model prog w) A (letTemporaryGo value o r>>=fun _=>pure r) Q E s₃) E s₂:=by
  rw[hs o i];exact wpAny_operating (wpAny_mono hG (fun r s₃ ku=>zAx (wpAny_letTemporaryGo (zB0 ku))) fun _ _ x=>x)
 first
  |exact zB0 (zAx fin)
  |exact zAx (zB0 (zAx fin))
  |exact zAx fin
theorem sy{X:Cx}{Zt:List (Addr×Obj)}{σ:St}{H:Hp}{s:Shared}{a:Addr}{y:V}{o:Option V}(I:Inv X Zt σ H s)(g:DGet H a y o):s.TypeIs (.ref a) "dict":=by
 rcases g with⟨Zs,k,e,_,_⟩|⟨Zs,k,b,e,_,_,_⟩
 .obtain⟨_,_,vs,_,dd⟩:=rZ I.hok e;exact dd.typeIs
 .obtain⟨_,_,xs,_,dd⟩:=su I.hok e;exact dd.typeIs
def GD(td ty:TE):TE:=fun σ H Q=>td σ H fun x H1=>ty σ H1 fun y H2=>∃a v,x=.ref a/\DGet H2 a y (some v)/\Q v H2
def GF(td ty tv:TE):TS:=fun D σ H=>tv σ H fun v H1=>td σ H1 fun x H2=>ty σ H2 fun y H3=>∃a H4,x=.ref a/\DPut H3 a y v H4/\D.nx σ H4
section
variable{X:Cx}{o i e value:Expr}{pos pos' mS:Pos}{td ty tv:TE}
theorem qm(hu:X.A.units+1<cLine)(ho:PE X o td)(hi:PE X i ty)(hs:GC i):PE X (.Subscript o i pos) (GD td ty):=by
 intro Zt s σ H Q I h;refine BR PySem.F.slot_dict_getitem.lookup hs (thn (ho Zt s σ H _ I h) fun u s1 ⟨x,H1,I1,rx,q1⟩=>thn (hi Zt s1 σ H1 _ I1 q1) fun iv s2 ⟨y,H2,I2,ry,a,v,ex,g,q2⟩=>?_);subst ex;obtain rfl:u=Value.ref a:=rx;exact⟨sy I2 g,xT hu I2 g ry fun w' s3 I3 eC=>⟨v,H2,I3,eC,q2⟩⟩
theorem qp(hu:X.A.units+1<cLine)(ho:PE X o td)(hi:PE X i ty)(hv:PE X value tv)(hs:swapsWith value (some (.Subscript o i pos')) pos.line X.env=pure false):
  PS X (.Assign [.Subscript o i pos'] value pos) (GF td ty tv):=by
 intro Zt s σ H D I h;refine wpAny_Assign_Subscript (thn (hv Zt s σ H _ I h) fun r s1 ⟨v,H1,I1,rv,q1⟩=>thn (ho Zt s1 σ H1 _ I1 q1) fun u s2 ⟨x,H2,I2,rx,q2⟩=>thn (hi Zt s2 σ H2 _ I2 q2) fun iv s3 ⟨y,H3,I3,ry,a,H4,ex,g,q3⟩=>?_) hs;subst ex;obtain rfl:u=Value.ref a:=rx
 exact xU hu I3 g ry rv fun s4 I4=>⟨σ,H4,I4,q3⟩
end
theorem zc{P:Program}{w:World}{H:Hp}(h:Heap)(hb:sysModules<h.objs.size):ObjOk P w H (h.push {cls:=.type "dict",data:=.dict #[]}) h.objs.size (.dK []):=
 ⟨zAp _,beq_eq_false_iff_ne.mpr (Ne.symm (zB6 hb)),[],.nil,Heap.DictOf.new h⟩
theorem zf{P:Program}{w:World}{H:Hp}(h:Heap)(hb:sysModules<h.objs.size):ObjOk P w H (h.push {cls:=.type "dict",data:=.dict #[]}) h.objs.size (.dT []):=
 ⟨zAp _,beq_eq_false_iff_ne.mpr (Ne.symm (zB6 hb)),[],.nil,_,#[],0,zB3 _ rfl,⟨rfl,rfl,rfl⟩,rfl,rfl,List.nodup_nil⟩
def Fj:TE:=fun _ H Q=>∀p,H p=none->Q (.ref p) (upd H p (.dT []))
section
variable{X:Cx}{pos:Pos}
theorem zg:PE X (.Dict [] [] pos) Fj:=fun Zt s σ H Q I h=>
 wpAny_Dict_empty ⟨.ref s.heap.objs.size,_,I.laid (a:=s.heap.objs.size) (o:=.dT []) (t':=s.toks) (fun _ _ q=>zAy _ q) (zA3 _) (zf s.heap I.big),rfl,h _ (I.hok.fresh (zA3 _))⟩
end
def uG:List (TE×TE)->St->Hp->(List (V×V)->Hp->Prop)->Prop
 |[],_,H,Q=>Q [] H
 | (tk,tv)::r,σ,H,Q=>tk σ H fun x H1=>tv σ H1 fun y H2=>uG r σ H2 fun ps H3=>Q ((x,y)::ps) H3
abbrev VV:List (V×V)->List (Value×Value)->Prop:=Paired fun p q=>RelV p.1 q.1/\RelV p.2 q.2
def PPs(X:Cx)(pos:Pos)(keys:List (Option Expr))(values:List Expr)(kx:List (TE×TE)):Prop:=
 ∀(Zt:List (Addr×Obj)) (s:Shared) (σ:St) (H:Hp) (Q:List (V×V)->Hp->Prop),Inv X Zt σ H s->uG kx σ H Q->
  wpAny (model X.prog X.w) X.A (evalPairs (pairTrees keys values X.env pos)) (fun vs s'=>∃ps H',Inv X Zt σ H' s'/\VV ps vs/\Q ps H') X.xe s
theorem BV{X:Cx}{pos:Pos}:PPs X pos [] [] []:=fun Zt s σ H Q I h=>pairTrees_nil_walk ⟨[],H,I,.nil,h⟩
theorem zj{X:Cx}{pos:Pos}{k v:Expr}{ks:List (Option Expr)}{vs:List Expr}{tk tv:TE}{kx:List (TE×TE)}(hk:PE X k tk)(hv:PE X v tv)(hr:PPs X pos ks vs kx):
  PPs X pos (some k::ks) (v::vs) ((tk,tv)::kx):=fun Zt s σ H Q I h=>
 pairTrees_cons_walk (thn (hk Zt s σ H _ I h) fun u s1 ⟨x,H1,I1,rx,q1⟩=>thn (hv Zt s1 σ H1 _ I1 q1) fun w2 s2 ⟨y,H2,I2,ry,q2⟩=>
  thn (hr Zt s2 σ H2 _ I2 q2) fun ws s3 ⟨ps,H3,I3,rel,q3⟩=>⟨(x,y)::ps,H3,I3,.cons ⟨rx,ry⟩ rel,q3⟩)
def gH(Zs more:List (Key×V)):List (Key×V):=more.foldl (fun acc kv=>putK acc kv.1 kv.2) Zs
theorem KV.merge:∀{more:List (Key×V)} {rs:List (Key×Value)} {Zs:List (Key×V)} {vs:List (Key×Value)},KV more rs->KV Zs vs->KV (gH Zs more) (merged vs rs):=by
 intro more rs Zs vs r;unfold KV at r
 induction r generalizing Zs vs with
 |nil=>intro q;exact q
 |@cons p q ps qs h t ih=>
  intro r0
  have e:KV (putK Zs p.1 p.2) (stored vs q.1 q.2):=by
   have:=r0.put p.1 h.2;rw[<-h.1];exact this
  exact ih e
theorem iG:∀(more Zs:List (Key×V)),(gH Zs more).length<=Zs.length+more.length
 |[],Zs=>by show Zs.length<=Zs.length+0;lia
 |p::r,Zs=>by
  have h1:=iG r (putK Zs p.1 p.2);have h2:=cC Zs p.1 p.2;show(gH (putK Zs p.1 p.2) r).length<=_;rw[zAe];lia
theorem lQ{P:Program}{w:World}:∀{Zs:List (Key×V)} {ws:List (Value×Value)},VV (Zs.map fun kv=>(kV kv.1,kv.2)) ws->∃rs,Carries (bV P w) ws rs/\KV Zs rs
 |[],_,r=>by rw[List.map_nil]at r;cases r;exact⟨[],True.intro,.nil⟩
 |p::Zs,_,r=>by
  rw[zAk]at r
  cases r with
  |@cons a b as bs h t=>
   obtain⟨rs,c,q⟩:=lQ (P:=P) (w:=w) t;obtain⟨b1,b2⟩:=b;exact⟨(p.1,b2)::rs,⟨rY h.1,rfl,c⟩,.cons ⟨rfl,h.2⟩ q⟩
def GJ(kx:List (TE×TE)):TE:=fun σ H Q=>∀p,H p=none->uG kx σ (upd H p (.dK [])) fun ps H2=>H2 p=some (.dK [])/\∃Zs:List (Key×V),ps=Zs.map (fun kv=>(kV kv.1,kv.2))/\Zs.length<=15/\Q (.ref p) (upd H2 p (.dK (gH [] Zs)))
theorem BW{X:Cx}{pos:Pos}{keys:List (Option Expr)}{values:List Expr}{kx:List (TE×TE)}(h:PPs X pos keys values kx)(cK:keys.all (·.isSome)=true)(hl:keys.length=values.length)(h0:keys≠[])
  (K0:keys.length<=15):PE X (.Dict keys values pos) (GJ kx):=by
 intro Zt s σ H Q I q;have hn:=I.hok.fresh (zA3 s.heap.objs.size);have I1:=I.laid (a:=s.heap.objs.size) (o:=.dK []) (h':=s.heap.push {cls:=.type "dict",data:=.dict #[]}) (t':=s.toks) (fun _ _ q=>zAy _ q) (zA3 _) (zc s.heap I.big);refine wpAny_Dict_walk (knd:=bV X.prog X.w) cK hl h0 K0 (thn (h Zt _ σ _ _ I1 (q _ hn)) fun ws s2 ⟨ps,H2,I2,rel,e,Zs,ep,lk,q2⟩=>?_);subst ep;obtain⟨rs,c,rk⟩:=lQ (P:=X.prog) (w:=X.w) rel;obtain⟨z,hd,Qy,r0,dd⟩:=DK I2.hok e;cases r0;refine⟨rs,c,dd,fun h' nX hs=>⟨.ref s.heap.objs.size,_,?_,rfl,q2⟩⟩
 have hz:(gH [] Zs).length<=sizeLine:=by
  have h1:=iG Zs [];rw[List.length_nil]at h1;rw[sizeLine_eq];lia
 have he:∃q,h'.get? s.heap.objs.size=some q:=let⟨q,_,_,hq,_⟩:=nX;⟨q,hq⟩
 exact ql I2 (by rw[e];exact True.intro) hs he (zb hz hd (rk.merge .nil) nX)
structure M2(X:Cx)(o:Expr)(m:Str)(apos:Pos)(e f:Expr)(br:Pos):Prop where
 base:attributeBase o m X.env (eval o X.env)=eval o X.env
 few:((backTo br (starEach [e,f] X.env)).all (fun x=>!x.1)&&(backToKw br (keywordEach [] X.env)).all (fun x=>x.1.isSome)
  && decide (([e,f]:List Expr).length+([]:List Keyword).length+(if([]:List Keyword).isEmpty then 0 else 1)<30))=true
 line:(apos.endLine==br.line)=true
 trees:backTo br (starEach [e,f] X.env)=[(false,eval e X.env),(false,eval f X.env)]
def IsD(H:Hp)(a:Addr):Prop:=(∃Zs,Rd H a (.dK Zs))\/∃Zs,Rd H a (.dT Zs)
theorem Fl{X:Cx}{Zt:List (Addr×Obj)}{σ:St}{H:Hp}{s:Shared}{a:Addr}(I:Inv X Zt σ H s)(d:IsD H a):
  s.TypeIs (.ref a) "dict"/\(∀b,Value.ref a=.ref b->∃ob,s.heap.get? b=some ob/\ob.dict=none)/\(a==sysModules)=false:=by
 rcases d with⟨Zs,e⟩|⟨Zs,e⟩
 .obtain⟨_,hd,vs,_,dd⟩:=rZ I.hok e;refine⟨dd.typeIs,fun b q=>?_,hd⟩;cases q;obtain⟨ob,_,_,h1,h2,_⟩:=dd;exact⟨ob,h1,h2.2.1⟩
 .obtain⟨_,hd,xs,_,dd⟩:=su I.hok e;refine⟨dd.typeIs,fun b q=>?_,hd⟩;cases q;obtain⟨ob,_,_,h1,h2,_⟩:=dd;exact⟨ob,h1,h2.2.1⟩
section
variable{X:Cx}{Zt:List (Addr×Obj)}{σ:St}{H:Hp}{s:Shared}{a:Addr}{y d:V}{u r:Value}{o:Option V}{A:Around}{E:Value->Shared->Prop}
theorem Fo{Q:Value->Shared->Prop}(hu:A.units+1<cLine)(I:Inv X Zt σ H s)(g:DGet H a y o)(ry:RelV y u)(rd:RelV d r)(h:∀w' s',Inv X Zt σ H s'->RelV (o.getD d) w'->Q w' s'):
  wpAny (model X.prog X.w) A (call (.builtin "dict.get") [.ref a,u,r]) Q E s:=by
 rcases g with⟨Zs,k,e,ey,l⟩|⟨Zs,k,b,e,ey,eb,l⟩
 .subst ey;obtain⟨z,hd,vs,rel,dd⟩:=rZ I.hok e;refine call_meetsIn PySem.F.slot_dict_get dd.typeIs PySem.F.entry_dict_get (PySem.F.args_dict_get_3 _ _ _) (meets_dict_get_default (bV X.prog X.w) a (rY ry) hd r) ⟨_,dd.mapOf,h _ _ (I.tok _) ?_⟩;rw[l];exact(rel.val k).getD rd
 .subst ey;cases(show u=Value.ref b from ry);obtain⟨z,hd,xs,rel,dd⟩:=su I.hok e;refine call_meetsIn PySem.F.slot_dict_get dd.typeIs PySem.F.entry_dict_get (PySem.F.args_dict_get_3 _ _ _) (meetsH_dict_get_default (tupleKind (bV X.prog X.w)) a b hd r) ⟨tupleKind_room_in1 hu,k,xs,qj I.hok eb,dd,h _ _ (I.tok _) ?_⟩;rw[l];exact(rel.val k).getD rd
end
def Fp(td ty tx:TE):TE:=fun σ H Q=>td σ H fun x H1=>∃a,x=.ref a/\IsD H1 a/\ty σ H1 fun y H2=>tx σ H2 fun z H3=>∃o,DGet H3 a y o/\Q (o.getD z) H3
section
variable{X:Cx}{o e f:Expr}{apos br:Pos}{td ty tx:TE}
theorem sE(hu:X.A.units+1<cLine)(ho:PE X o td)(he:PE X e ty)(hf:PE X f tx)(m:M2 X o "get" apos e f br):PE X (.Call (.Attribute o "get" apos) [e,f] [] br) (Fp td ty tx):=by
 intro Zt s σ H Q I h;refine wpAny_Call_method m.base m.few m.line PySem.F.plainAttrs_dict PySem.F.slot_dict_get PySem.F.type_dict_get (thn (ho Zt s σ H _ I h) fun u s1 ⟨x,H1,I1,rx,a,ex,d,q1⟩=>?_);subst ex;obtain rfl:u=Value.ref a:=rx;obtain⟨t1,t2,_⟩:=Fl I1 d;refine⟨t1,t2,?_⟩;rw[m.trees]
 refine Calls.callWith_builtin rfl (Calls.evalArgs_plain (Calls.spliced_cons (thn (he Zt s1 σ H1 _ I1 q1) fun iv s2 ⟨y,H2,I2,ry,q2⟩=>
  Calls.spliced_cons (thn (hf Zt s2 σ H2 _ I2 q2) fun fv s3 ⟨z,H3,I3,rz,ov,g,q3⟩=>Calls.spliced_nil ?_))))
 exact Fo hu I3 g ry rz fun w' s4 I4 eC=>⟨_,H3,I4,eC,q3⟩
end
section
variable{X:Cx}{Zt:List (Addr×Obj)}{σ:St}{H:Hp}{s:Shared}{a:Addr}{Zs:List (Key×V)}{A:Around}{E:Value->Shared->Prop}
end
section
variable{X:Cx}{Zt:List (Addr×Obj)}{σ:St}{H:Hp}{s:Shared}{a:Addr}{y:V}{u:Value}{A:Around}{E:Value->Shared->Prop}
end
def IW:Key->PyData
 |.inl i=>.int i
 |.inr x=>.str x
mutual
inductive IsTh(S:Addr->Prop)(H:Hp):V->PyData->Prop
 |non:IsTh S H .non .none
 |bl (b:Bool):IsTh S H (.bl b) (.bool b)
 |int (i:Int):IsTh S H (.int i) (.int i)
 |str (x:Str):IsTh S H (.str x) (.str x)
 |lst {a:Addr} {xs:List V} {ds:List PyData} (hs:S a) (e:H a=some (.lst xs)) (r:IsThs S H xs ds):IsTh S H (.ref a) (.list ds)
 |tup {a:Addr} {xs:List V} {ds:List PyData} (e:H a=some (.tup xs)) (r:IsThs S H xs ds):IsTh S H (.ref a) (.tuple ds)
 |dct {a:Addr} {ks:List (Key×Int)} (hs:S a) (e:H a=some (.dK (ks.map fun p=>(p.1,V.int p.2)))):IsTh S H (.ref a) (.dict (ks.map fun p=>(IW p.1,.int p.2)))
inductive IsThs(S:Addr->Prop)(H:Hp):List V->List PyData->Prop
 |nil:IsThs S H [] []
 |cons {v:V} {d:PyData} {vs:List V} {ds:List PyData} (h:IsTh S H v d) (t:IsThs S H vs ds):IsThs S H (v::vs) (d::ds)
end
section
variable{S S':Addr->Prop}{H H':Hp}
theorem IsThs.length:∀{vs:List V} {ds:List PyData},IsThs S H vs ds->vs.length=ds.length
 |_,_,.nil=>rfl
 |_,_,.cons _ t=>by rw[zAe,zAe,IsThs.length t]
theorem IsThs.get:∀{vs:List V} {ds:List PyData} {i:Nat} {v:V},IsThs S H vs ds->vs[i]?=some v->∃d,ds[i]?=some d/\IsTh S H v d
 |_,_,_,_,.nil,e=>by simp at e
 |_,_,0,_,.cons h _,e=>by simp at e;subst e;exact⟨_,rfl,h⟩
 |_,_,i+1,v,.cons _ t,e=>by
  obtain⟨d,h1,h2⟩:=IsThs.get (i:=i) (v:=v) t (by simpa using e);exact⟨d,by simpa using h1,h2⟩
theorem IsThs.append:∀{vs ws:List V} {ds es:List PyData},IsThs S H vs ds->IsThs S H ws es->IsThs S H (vs++ws) (ds++es)
 |_,_,_,_,.nil,s=>s
 |_,_,_,_,.cons h t,s=>.cons h (IsThs.append t s)
theorem IsThs.ints:∀(ns:List Int),IsThs S H (ns.map V.int) (ns.map PyData.int)
 |[]=>.nil
 |n::ns=>.cons (.int n) (IsThs.ints ns)
mutual
theorem IsTh.keep(ht:∀b xs,H b=some (.tup xs)->H' b=some (.tup xs))(hs:∀b o,S b->H b=some o->H' b=some o)(hS:∀b o,S b->H b=some o->S' b):∀{v:V} {d:PyData},IsTh S H v d->IsTh S' H' v d
 |_,_,.non=>.non
 |_,_,.bl b=>.bl b
 |_,_,.int i=>.int i
 |_,_,.str x=>.str x
 |_,_,.lst s e r=>.lst (hS _ _ s e) (hs _ _ s e) (IsThs.keep ht hs hS r)
 |_,_,.tup e r=>.tup (ht _ _ e) (IsThs.keep ht hs hS r)
 |_,_,.dct s e=>.dct (hS _ _ s e) (hs _ _ s e)
theorem IsThs.keep(ht:∀b xs,H b=some (.tup xs)->H' b=some (.tup xs))(hs:∀b o,S b->H b=some o->H' b=some o)(hS:∀b o,S b->H b=some o->S' b):∀{vs:List V} {ds:List PyData},IsThs S H vs ds->IsThs S' H' vs ds
 |_,_,.nil=>.nil
 |_,_,.cons h t=>.cons (IsTh.keep ht hs hS h) (IsThs.keep ht hs hS t)
end
def tyD:PyData->String
 |.none=>"NoneType"
 |.bool _=>"bool"
 |.int _=>"int"
 |.str _=>"str"
 |.list _=>"list"
 |.tuple _=>"tuple"
 |.dict _=>"dict"
theorem IsTh.ty{K:Frag}{v:V}{d:PyData}(h:IsTh S H v d):TyOf K H v (.type (tyD d)):=by
 cases h with
 |non=>exact .non
 |bl b=>exact .bl b
 |int i=>exact .int i
 |str x=>exact .str x
 |lst s e r=>exact .lst e
 |tup e r=>exact .tup e
 |dct s e=>exact .dK e
def qt:PyData->Bool
 |.int _=>true
 |.bool _=>true
 |_=>false
def qu:PyData->Bool
 |.bool _=>true
 |_=>false
def qw:PyData->Bool
 |.tuple _=>true
 |_=>false
theorem BX{K:Frag}(d:PyData):PySem.W.kitOne K (.type (tyD d)) (.type "int")=some (qt d):=by
 cases d
 .exact jz
 .exact qb
 .exact rR
 .exact rT
 .exact qg
 .exact nu
 .exact qi
theorem zm{K:Frag}(d:PyData):PySem.W.kitOne K (.type (tyD d)) (.type "bool")=some (qu d):=by
 cases d
 .exact j6
 .exact mZ
 .exact qd
 .exact qe
 .exact nq
 .exact lN
 .exact nA
theorem BZ{K:Frag}(d:PyData):PySem.W.kitOne K (.type (tyD d)) (.type "tuple")=some (qw d):=by
 cases d
 .exact iK
 .exact lK
 .exact ni
 .exact nj
 .exact lM
 .exact kI
 .exact lO
end
mutual
def sz:PyData->Nat
 |.none=>1
 |.bool _=>1
 |.int _=>1
 |.str _=>1
 |.list xs=>1+szs xs
 |.tuple xs=>1+szs xs
 |.dict Zs=>1+4*Zs.length
def szs:List PyData->Nat
 |[]=>0
 |x::xs=>sz x+szs xs
end
section
variable{prog:Program}{w:World}{A:Around}{E:Value->Shared->Prop}{s:Shared}
theorem Fq{j t:Addr}{i:Nat}{Zr:Array Value}{x:Value}{Q:Value->Shared->Prop}(hj:s.heap.IsTupleIter j t i)(ht:s.heap.IsTuple t Zr)(hx:Zr[i]?=some x)
  (hQ:∀h',h'.IsTupleIter j t (i+1)->Heap.SameBut j s.heap h'->Q x {s with heap:=h'}):wpAny (model prog w) A (Builtin.SmallTypes.nextOf (.ref j)) Q E s:=by
 obtain⟨o,ho,hc,hd⟩:=id hj;obtain⟨p,hp,_,m,hm⟩:=ht;unfold Builtin.SmallTypes.nextOf;refine wpAny_bind (wpAny_callSpecial?_slot (name:=Str.ofString "__next__") hj.typeIs F.slot_tuple_iterator_next (wpAny_call_entry F.slot_tuple_iterator_next hj.typeIs F.entry_tuple_iterator_next ?_ (F.args_tuple_iterator_next_1 _)));show wpAny _ _ (field (.ref j) 0>>=_) _ _ s;refine wpAny_bind (wpAny_field ho hd (x:=.ref t) rfl ?_);show wpAny _ _ (if(Value.ref t==Value.none)=true then _ else _) _ _ s;rw[if_neg (show¬((Value.ref t==Value.none)=true) by intro z;exact zAg z)];show wpAny _ _ (field (.ref j) 1>>=_) _ _ s;refine wpAny_bind (wpAny_field ho hd (x:=.int i 0) rfl (wpAny_bind (wpAny_seqItems hp hm ?_)));simp only[Int.toNat_natCast,hx]
 refine wpAny_bind (wpAny_setField ho hd Zy (wpAny_pure ⟨x,rfl,wpAny_pure (hQ _ ⟨_,Heap.get?_update_self _ ho (Obj.isFreed_of_fields (Obj.data_mapFields hd _)),(Obj.cls_mapFields ..).trans hc,by
  rw[Obj.data_mapFields hd]
  simp[rawInt]⟩ (Heap.SameBut.update ..))⟩))
theorem uH{j t:Addr}{i:Nat}{Zr:Array Value}{Q:Value->Shared->Prop}(hh:A.handled=none)(hj:s.heap.IsTupleIter j t i)(ht:s.heap.IsTuple t Zr)(hx:Zr[i]?=none)
  (hE:∀h' e,Heap.ExtBut j s.heap h'->(∃o,h'.get? e=some o/\o.cls=.type "StopIteration")->E (.ref e) {s with heap:=h'}):wpAny (model prog w) A (Builtin.SmallTypes.nextOf (.ref j)) Q E s:=by
 obtain⟨o,ho,hc,hd⟩:=id hj;obtain⟨p,hp,_,m,hm⟩:=ht;unfold Builtin.SmallTypes.nextOf;refine wpAny_bind (wpAny_callSpecial?_slot (name:=Str.ofString "__next__") hj.typeIs F.slot_tuple_iterator_next (wpAny_call_entry F.slot_tuple_iterator_next hj.typeIs F.entry_tuple_iterator_next ?_ (F.args_tuple_iterator_next_1 _)));show wpAny _ _ (field (.ref j) 0>>=_) _ _ s;refine wpAny_bind (wpAny_field ho hd (x:=.ref t) rfl ?_);show wpAny _ _ (if(Value.ref t==Value.none)=true then _ else _) _ _ s;rw[if_neg (show¬((Value.ref t==Value.none)=true) by intro z;exact zAg z)];show wpAny _ _ (field (.ref j) 1>>=_) _ _ s;refine wpAny_bind (wpAny_field ho hd (x:=.int i 0) rfl (wpAny_bind (wpAny_seqItems hp hm ?_)));simp only[Int.toNat_natCast,hx];refine wpAny_bind (wpAny_rule (wpAny_bind (wpAny_setField ho hd Zy ?_)));show wpAny _ _ (newExc (.type "StopIteration") []>>=_) _ _ _;refine wpAny_bind ?_;simp only[newExc,newTuple];refine wpAny_bind (wpAny_newObj_type (wpAny_bind (m:=firstArgMember _ _) (wpAny_of_eq (a:=Value.none) (by first|rfl | (simp only[firstArgMember];rfl)) (wpAny_newObj_type ?_ (by size_fits)))) (by size_fits));simp only[raiseNew];refine wpAny_bind (wpAny_handled ?_)
 first
  |rw[show A.in1.handled=none from hh]
  |rw[hh]
 exact zAx (zB0 (wpAny_throw (hE _ _ (((Heap.SameBut.update ..).extBut.push _).push _) ⟨_,zB3 _ rfl,rfl⟩)))
end
section
variable{X:Cx}
end
theorem IsTh.same{S:Addr->Prop}{H H':Hp}{v:V}{d:PyData}(h:IsTh S H v d)(s:Same H H'):IsTh S H' v d:=h.keep (fun b xs e=>s b _ e) (fun b o _ e=>s b o e) fun _ _ z _=>z
theorem IsThs.same{S:Addr->Prop}{H H':Hp}{v:List V}{d:List PyData}(h:IsThs S H v d)(s:Same H H'):IsThs S H' v d:=h.keep (fun b xs e=>s b _ e) (fun b o _ e=>s b o e) fun _ _ z _=>z
theorem Same.upd{H:Hp}{D:Addr}{o:HO}(h:H D=none):Same H (upd H D o):=fun b u e=>by rw[aB (aH e h)];exact e
theorem Same.updR{H H':Hp}{D:Addr}{o:HO}(s:Same H H')(h:H' D=none):Same H (L2.upd H' D o):=s.trans (Same.upd h)
theorem sG{K:Frag}{S:Addr->Prop}{te:TE}{a:Addr}{xs:List V}{ds:List PyData}(f:PyData->Bool){c9:St}{j:Nat}{H0:Hp}{Fin:List V->Hp->Prop}(hT:H0 a=some (.tup xs))(th:IsThs S H0 xs ds)(hl:xs.length<sizeLine)
  (ub:∀v d H Q,d∈ds->Same H0 H->IsTh S H v d->(∀H',Same H H'->Q (.bl (f d)) H')->te (c9.set j (some v)) H Q)
  (fin:∀H',Same H0 H'->Fin (ds.map fun d=>V.bl (f d)) H'):jV (Itt K a) (bL j) uF te Fin c9 H0:=by
 have hlen:=th.length;refine⟨fun i m ys σ H=>m=xs.length-i/\i<=xs.length/\ys=(ds.take i).map (fun d=>V.bl (f d))/\(∀o,σ.set j o=c9.set j o)/\Same H0 H,⟨_,rfl,zAp _,rfl,fun _=>rfl,Same.refl _⟩,?_⟩;rintro i m ys σ H ⟨rfl,hi,rfl,lS,hs⟩;have sq:SqT K H a xs:=SqT.of (hs _ _ hT);refine⟨by rw[zA1,zAd];lia,?_⟩;by_cases aI:i<xs.length
 .refine .inr ⟨⟨xs,xs[i],sq,by simp[aI]⟩,fun x H' y=>?_⟩;obtain⟨e,y⟩:=y;subst e;have hx:=y xs sq;obtain⟨d,hd,ht⟩:=(th.same hs).get hx;show te (σ.set j (some x)) H' _;rw[lS]
  refine ub x d H' _ (zB8 hd) hs ht fun H2 s2=>⟨xs.length-(i+1),Zz,rfl,aI,?_,fun o=>by rw[List.set_set],hs.trans s2⟩
  rw[zAj,hd];simp
 .have e:i=xs.length:=Zz
  subst e;refine .inl ⟨⟨xs,sq,zA3 _⟩,?_⟩;rw[hlen,zAm];exact fin H hs
theorem zq{ds:List PyData}{f:PyData->Bool}:ds.map (fun d=>V.bl (f d))=(ds.map f).map V.bl:=by rw[zAr];rfl
theorem Ft{ds:List PyData}{f:PyData->Bool}:(ds.map f).all id=ds.all f:=by rw[List.all_map];rfl
section
variable{X:Cx}{es:List Expr}{t:TA}{pos:Pos}
theorem nC:dG X (.type "list") (fun xs H Q=>∃p ys,xs=[.ref p]/\SqT X.K H p ys/\∀l,H l=none->l≠sysModules->Q (.ref l) (upd H l (.lst ys))):=by
 intro Zt s σ H xs us Q I r h;obtain⟨p,ys,rfl,hq,q⟩:=h;obtain⟨u,rfl,rx⟩:=vals1 r;cases rx;obtain⟨Zr,r',pl,hz⟩:=I.tuple hq;have hlen:=r'.length;obtain⟨o,ho,hc,n,hd⟩:=pl;refine call_list_seq p (.inr rfl) ho hc hd (fun h' c' kp e=>?_) (by simp only[List.size_toArray];lia);exact⟨.ref s.heap.objs.size,_,I.laid (t':=s.toks) kp (zA3 _) (show ObjOk X.prog X.w _ h' _ (.lst ys)from⟨hz,Zr,c',r',e⟩),rfl,q _ (I.hok.fresh (zA3 _)) (Nat.ne_of_gt I.big)⟩
end
section
variable{X:Cx}{a b c d:Expr}{ta tb tc td:TE}{pos:Pos}
def vJ(r r' y9:R2)(ta tb tc td:TE):TE:=fun σ H Q=>ta σ H fun x H1=>tb σ H1 fun y H2=>r x y H2 fun z H3=>∃k,z=.bl k /\
 (if k=true then tc σ H3 fun x2 H4=>r' y x2 H4 fun z2 H5=>∃k2,z2=.bl k2/\(if k2=true then td σ H5 fun x3 H6=>y9 x2 x3 H6 Q else Q (.bl false) H5)else Q (.bl false) H3)
theorem xV{o1 o2 o3:CmpOp}{r r' y9:R2}(h1:OpR X (compareOp o1) r)(h2:OpR X (compareOp o2) r')(h3:OpR X (compareOp o3) y9)(ha:PE X a ta)(hb:PE X b tb)(hc:PE X c tc)(hd:PE X d td)
  (hm:lastMarks [o1,o2,o3] [b,c,d]=false:=by with_unfolding_all rfl):PE X (.Compare a [o1,o2,o3] [b,c,d] pos) (vJ r r' y9 ta tb tc td):=by
 intro Zt s σ H Q I h
 refine Compare_chain (thn (ha Zt s σ H _ I h) fun v s1 ⟨x,H1,I1,r1,q1⟩=>chain_link (thn (hb Zt s1 σ H1 _ I1 q1) fun u s2 ⟨y,H2,I2,r2,q2⟩=>
  thn (h1 Zt s2 σ H2 x y v u _ I2 r1 r2 q2) fun g s3 ⟨z,H3,I3,r3,k,e,q3⟩=>?_)) hm
 subst e;cases r3;refine wpAny_truthy_bool ?_
 cases k with
 |false=>exact ite_ff ⟨.bl false,H3,I3,rfl,q3⟩
 |true=>
  refine ite_tt (chain_link (thn (hc Zt s3 σ H3 _ I3 q3) fun w' s4 ⟨z',H4,I4,r4,q4⟩=>thn (h2 Zt s4 σ H4 y z' u w' _ I4 r2 r4 q4) fun g2 s5 ⟨z5,H5,I5,r5,k2,e2,q5⟩=>?_));subst e2;cases r5;refine wpAny_truthy_bool ?_
  cases k2 with
  |false=>exact ite_ff ⟨.bl false,H5,I5,rfl,q5⟩
  |true=>exact ite_tt (chain_last (thn (hd Zt s5 σ H5 _ I5 q5) fun w6 s6 ⟨z6,H6,I6,r6,q6⟩=>h3 Zt s6 σ H6 z' z6 w' w6 Q I6 r4 r6 q6))
end
def Ev(σ:St)(H:Hp)(t:TE)(v:V):Prop:=∀Q:VK,Q v H->t σ H Q
section
variable{σ:St}{H:Hp}{ta tb tc td:TE}
theorem dR{v:V}:Ev σ H (tC v) v:=fun _ h=>h
theorem dw{i:Nat}{v:V}(h:σ[i]?=some (some v)):Ev σ H (xF i) v:=fun _ q=>⟨v,h,q⟩
theorem bO{p q:Int->Int->Bool}{i j k:Int}(a:Ev σ H ta (.int i))(b:Ev σ H tb (.int j))(c:Ev σ H tc (.int k)):
  Ev σ H (uz (rI0 fun i j=>.bl (p i j)) (rI0 fun i j=>.bl (q i j)) ta tb tc) (.bl (p i j&&q j k)):=fun Q h=>a _ (b _ ⟨i,j,rfl,rfl,_,rfl,by
 cases e:p i j with
 |false=>
  rw[e]at h;exact bF h
 |true=>
  rw[e]at h
  exact bN (c _ ⟨j,k,rfl,rfl,h⟩)⟩)
theorem xW{p q r:Int->Int->Bool}{i j k l:Int}(a:Ev σ H ta (.int i))(b:Ev σ H tb (.int j))(c:Ev σ H tc (.int k))(d:Ev σ H td (.int l)):
  Ev σ H (vJ (rI0 fun i j=>.bl (p i j)) (rI0 fun i j=>.bl (q i j)) (rI0 fun i j=>.bl (r i j)) ta tb tc td) (.bl (p i j&&(q j k&&r k l))):=fun Q h=>a _ (b _ ⟨i,j,rfl,rfl,_,rfl,by
 cases e:p i j with
 |false=>
  rw[e]at h;exact bF h
 |true=>
  rw[e]at h;refine bN (c _ ⟨j,k,rfl,rfl,_,rfl,?_⟩)
  cases e2:q j k with
  |false=>
   rw[e2]at h;exact bF h
  |true=>
   rw[e2]at h
   exact bN (d _ ⟨k,l,rfl,rfl,h⟩)⟩)
theorem gJ{b c:Bool}(x:Ev σ H ta (.bl b))(y:b=true->Ev σ H tb (.bl c)):Ev σ H (Dt ta tb) (.bl (b&&c)):=fun Q h=>x _ ⟨b,rfl,by
 cases e:b with
 |false=>
  rw[e]at h;exact bF h
 |true=>
  rw[e]at h
  exact bN (y e _ h)⟩
end
structure Plain(e:Expr):Prop where
 eq:∀(es:List Expr) (env:Env),starEach (e::es) env=(false,eval e env)::starEach es env
theorem gK{c j p}:Plain (.Constant c j p):=⟨fun _ _=>rfl⟩
theorem iM{x p}:Plain (.Name x p):=⟨fun _ _=>rfl⟩
theorem gM{es k p}:Plain (.Tuple es k p):=⟨fun _ _=>rfl⟩
theorem iQ{es p}:Plain (.List es p):=⟨fun _ _=>rfl⟩
theorem iR{f as ks p}:Plain (.Call f as ks p):=⟨fun _ _=>rfl⟩
theorem plain_bin{a o b p}:Plain (.BinOp a o b p):=⟨fun _ _=>rfl⟩
theorem lR{o a p}:Plain (.UnaryOp o a p):=⟨fun _ _=>rfl⟩
theorem jA{a b p}:Plain (.Subscript a b p):=⟨fun _ _=>rfl⟩
theorem iT{a b c p}:Plain (.ListComp a b c p):=⟨fun _ _=>rfl⟩
theorem jB{a b c p}:Plain (.Compare a b c p):=⟨fun _ _=>rfl⟩
section
variable{X:Cx}{e:Expr}{es:List Expr}{te:TE}{t:TA}
theorem au(ha:PE X e te)(hr:PA X es t)(hp:Plain e:=by first|exact iM|exact gK|exact iR|exact gM|exact iQ|exact plain_bin|exact jA|exact lR|exact plain_dict|exact iT|exact jB):PA X (e::es) (rM te t):=
 aP ha hr (hp.eq _ _)
end
structure AA(X:Cx)(es:List Expr)(t:TA):Prop where
 run:PA X es t
section
variable{X:Cx}{e:Expr}{es:List Expr}{te:TE}{t:TA}{pos:Pos}
theorem fY:AA X [] Ey:=⟨aj⟩
theorem qx(ha:PE X e te)(hr:AA X es t)(hp:Plain e:=by first|exact iM|exact gK|exact iR|exact gM|exact iQ|exact plain_bin|exact jA|exact lR|exact plain_dict|exact iT|exact jB):AA X (e::es) (rM te t):=
 ⟨aP ha hr.run (hp.eq _ _)⟩
theorem Ca{x1}(h:AA X es t):PE X (.Tuple es x1 pos) (Ez t):=bT h.run
theorem vK(h:AA X es t):PE X (.List es pos) (EY t):=cR h.run
end
inductive IsInts:List Expr->List Int->Prop
 |nil:IsInts [] []
 |cons {i:Int} {j:Nat} {p:Pos} {es:List Expr} {is:List Int}:IsInts es is->IsInts (.Constant (.int i) j p::es) (i::is)
def GK(is:List Int):TA:=fun _ H Q=>Q (is.map V.int) H
theorem j8{X:Cx}:∀{es:List Expr} {is:List Int},IsInts es is->PA X es (GK is)
 |_,_,.nil=>fun _ _ _ _ H Q I h=>Calls.spliced_nil ⟨[],H,I,.nil,h⟩
 |_,_,@IsInts.cons i j p es is r=>by
  have h:=au (X:=X) (az (i:=i) (j:=j) (pos:=p)) (j8 r);exact h
theorem dU{X:Cx}{es:List Expr}{k:Nat}{pos:Pos}{t:TGs}{K:Frag}{n:Nat}(hK:X.K=K)(hc:X.calm=true)(h:PGs X es t)(hn:(assignEach es X.env).length=n:=by rfl)(cx:(assignEach es X.env).findIdx? (·.1)=none:=by rfl):
  PG X (.Tuple es k pos) (lB K n t):=by
 subst hK;exact bI hc h hn cx
structure BE(X:Cx)(e:Expr)(t:TE):Prop where
 run:PE X e t
section
variable{X:Cx}{e:Expr}{es:List Expr}{te:TE}{t:TA}{pos:Pos}
theorem j9(ha:BE X e te)(hr:AA X es t)(hp:Plain e:=by first|exact iM|exact gK|exact iR|exact gM|exact iQ|exact plain_bin|exact jA|exact lR|exact plain_dict|exact iT|exact jB):AA X (e::es) (rM te t):=qx ha.run hr hp
theorem DN(h:BE X e te):PE X e te:=h.run
theorem Fv{i:Int}{j}:BE X (.Constant (.int i) j pos) (tC (.int i)):=⟨az⟩
theorem GP{b:Bool}{j}:BE X (.Constant (.bool b) j pos) (tC (.bl b)):=⟨gr⟩
theorem uI{x1}(h:AA X es t):BE X (.Tuple es x1 pos) (Ez t):=⟨bT h.run⟩
theorem uJ(h:AA X es t):BE X (.List es pos) (EY t):=⟨cR h.run⟩
end
structure BS(X:Cx)(st:Stmt)(t:TS):Prop where
 run:PS X st t
structure BSs(X:Cx)(AR:List Stmt)(t:TS):Prop where
 run:PSs X AR t
section
variable{X:Cx}{st:Stmt}{rest:List Stmt}{t u:TS}{pos:Pos}
theorem DP(h:BSs X rest t):PSs X rest t:=h.run
theorem aW(h1:BS X st t)(h2:BSs X rest u):BSs X (st::rest) (Bu t u):=⟨aA h1.run h2.run⟩
theorem fZ(h1:BS X st t):BSs X [st] t:=⟨aC h1.run⟩
theorem zr{i:Nat}{x:Str}{e:Expr}{te:TE}{pos':Pos}(hN:X.N.Nodup)(hi:X.N[i]?=some x)(hx:Loc X.env.scope x)(he:BE X e te)(hs:swapsWith e (some (.Name x pos')) pos.line X.env=pure false:=by rfl)(hf:X.fn x=true\/X.env.scope.names.lookup x=some .local:=by first|exact .inl rfl|exact .inr rfl|assumption):
  BS X (.Assign [.Name x pos'] e pos) (xG te (bL i)):=⟨pP hN hi hx he.run hs hf⟩
theorem lU{e:Expr}{te:TE}(he:BE X e te):BS X (.Return (some e) pos) (Es te):=⟨aU he.run⟩
theorem DQ{op:Operator}{r:R2}{a b:Expr}{ta tb:TE}(ho:OpR X (binaryOp op) r)(ha:BE X a ta)(hb:BE X b tb):BE X (.BinOp a op b pos) (tOp r ta tb):=⟨aR ho ha.run hb.run⟩
theorem DR{r:R2}{a b:Expr}{ta tb:TE}(hr:IxR X r)(ha:BE X a ta)(hb:BE X b tb)(hs:pZ b):BE X (.Subscript a b pos) (tOp r ta tb):=⟨Dz hr ha.run hb.run hs⟩
end
theorem pgn{X:Cx}{x:Str}{pos:Pos}(i:Nat)(hN:X.N.Nodup)(hi:X.N[i]?=some x:=by rfl)(hx:Loc X.env.scope x:=by exact Or.inl rfl)(hf:X.fn x=true\/X.env.scope.names.lookup x=some .local:=by first|exact .inl rfl|exact .inr rfl):PG X (.Name x pos) (bL i):=bQ hN hi hx hf
theorem pss{X:Cx}{x:Str}{pos pos':Pos}{e:Expr}{te:TE}(i:Nat)(hN:X.N.Nodup)(he:PE X e te)(hi:X.N[i]?=some x:=by rfl)(hx:Loc X.env.scope x:=by exact Or.inl rfl)(hs:swapsWith e (some (.Name x pos')) pos.line X.env=pure false:=by rfl)(hf:X.fn x=true\/X.env.scope.names.lookup x=some .local:=by first|exact .inl rfl|exact .inr rfl):PS X (.Assign [.Name x pos'] e pos) (xG te (bL i)):=pP hN hi hx he hs hf
theorem iU{X:Cx}{x:Str}{pos pos':Pos}{e:Expr}{te:TE}(i:Nat)(hN:X.N.Nodup)(he:BE X e te)(hi:X.N[i]?=some x:=by rfl)(hx:Loc X.env.scope x:=by exact Or.inl rfl)(hs:swapsWith e (some (.Name x pos')) pos.line X.env=pure false:=by rfl)(hf:X.fn x=true\/X.env.scope.names.lookup x=some .local:=by first|exact .inl rfl|exact .inr rfl):BS X (.Assign [.Name x pos'] e pos) (xG te (bL i)):=zr hN hi hx he hs hf
theorem pX{X:Cx}{r:R2}{a b:Expr}{ta tb:TE}{pos:Pos}(hr:IxR X r)(ha:PE X a ta)(hb:PE X b tb)(hs:pZ b:=by exact fun _ _=>rfl):PE X (.Subscript a b pos) (tOp r ta tb):=Dz hr ha hb hs
theorem zL{n:Nat}(h:Nat.ble n 1000=true:=by rfl):n<=sizeLine:=Nat.le_trans (Nat.le_of_ble_eq_true h) Zx
theorem cI{X:Cx}{aS:Env}{x:Str}{i:Nat}{N:List Str}{r:List (Option Nat)}(h:Caps X aS N r)(h1:X.N[i]?=some x:=by rfl)(h2:X.env.kindOf x=some .cell:=by rfl)(h3:aS.cells.lookup x=X.env.cells.lookup x:=by rfl)(h4:aS.kindOf x=some .cell:=by rfl):Caps X aS (x::N) (some i::r):=⟨⟨h1,.inl h2,h3,.inl h4⟩,h⟩
theorem fQS{N P:List Str}{sc:Scope}(h1:sc.kind=.function:=by rfl)(h2:sc.isCoroutine=false:=by rfl)(h3:sc.isGenerator=false:=by rfl)(h4:N.Nodup:=by decide +kernel)(h5:N.take P.length=P:=by rfl)(h6:∀x∈P,sc.names.lookup x=some .local\/sc.names.lookup x=some .cell:=by decide +kernel)(h7:∀y∈sc.names,y.2≠.free:=by decide +kernel):FnScope N P sc:=⟨h1,h2,h3,h4,h5,h6,h7⟩
section
variable{X:Cx}{es:List Expr}{t:TA}{pos:Pos}
end
section
variable{S:Addr->Prop}{σ:St}{H:Hp}
end
section
variable{D:Ends}{σ:St}{H:Hp}{t u:TS}{te:TE}{ta:TA}{g:TG}{Q:VK}
theorem cU(h:D.nx σ H):Dv D σ H:=h
theorem aD(h:t {D with nx:=u D} σ H):Bu t u D σ H:=h
theorem iu(h:∀c:St->Hp->Prop,(∀ai H',u D ai H'->c ai H')->t {D with nx:=c} σ H):Bu t u D σ H:=h (u D) fun _ _ z=>z
theorem aX(h:te σ H fun x H1=>g x σ H1 D.nx):xG te g D σ H:=h
theorem lV(h:te σ H D.rt):Es te D σ H:=h
theorem aN{i:Nat}{v:V}{R:St->Hp->Prop}(h:R (σ.set i (some v)) H):bL i v σ H R:=h
end
end L2
namespace L2.ZT
open PySem PySem.Spec PyProof.Rows L2
def nm(t:Bool):String:=match t with|true=>"tuple_iterator"|false=>"list_iterator"
def tn(t:Bool):String:=match t with|true=>"tuple"|false=>"list"
def Io(t:Bool)(h:Heap)(a l:Addr)(i:Nat):Prop:=∃o,h.get? a=some o/\o.cls=.type (nm t)/\o.data=.fields #[.ref l,.int i 0]
def Sq(t:Bool)(h:Heap)(a:Addr)(items:Array Value):Prop:=∃o,h.get? a=some o/\o.cls=.type (tn t)/\∃n,o.data=.seq items n
def SQ(t:Bool)(K:Frag)(H:Hp)(a:Addr)(xs:List V):Prop:=match t with|true=>SqT K H a xs|false=>SqL K H a xs
theorem Io.at{t:Bool}{h h':Heap}{a l:Addr}{i:Nat}(x:Io t h a l i)(e:∀o,h.get? a=some o->h'.get? a=some o):Io t h' a l i:=let⟨o,ho,r⟩:=x;⟨o,e _ ho,r⟩
theorem Io.extBut{t:Bool}{h h':Heap}{a b l:Addr}{i:Nat}(x:Io t h a l i)(e:Heap.ExtBut b h h')(n:a≠b):Io t h' a l i:=x.at fun o q=>e _ _ n q
theorem Sq.at{t:Bool}{h h':Heap}{a:Addr}{xs:Array Value}(x:Sq t h a xs)(e:∀o,h.get? a=some o->h'.get? a=some o):Sq t h' a xs:=let⟨o,ho,r⟩:=x;⟨o,e _ ho,r⟩
theorem Sq.extBut{t:Bool}{h h':Heap}{a b:Addr}{xs:Array Value}(x:Sq t h a xs)(e:Heap.ExtBut b h h')(n:a≠b):Sq t h' a xs:=x.at fun o q=>e _ _ n q
theorem jW{t:Bool}{X:Cx}{Zt:List (Addr×Obj)}{σ:St}{H:Hp}{s:Shared}{a:Addr}{xs:List V}(I:Inv X Zt σ H s)(h:SQ t X.K H a xs):∃Zr:List Value,Vals xs Zr/\Sq t s.heap a Zr.toArray/\xs.length<=sizeLine:=by
 cases t
 .obtain⟨Zr,r,p,z⟩:=I.list h;exact⟨Zr,r,p.isList,z⟩
 .exact I.tuple h
theorem uK{t:Bool}{X:Cx}{Zt:List (Addr×Obj)}{σ:St}{H:Hp}{s:Shared}{a:Addr}{xs ys:List V}(I:Inv X Zt σ H s)(h:SQ t X.K H a xs)(h':SQ t X.K H a ys):xs=ys:=by
 cases t
 .exact I.list_inj h h'
 .exact I.tuple_inj h h'
section
variable{prog:Program}{w:World}{A:Around}{E:Value->Shared->Prop}{s:Shared}
theorem nx{t:Bool}{j l:Addr}{i:Nat}{Zr:Array Value}{x:Value}{Q:Value->Shared->Prop}(hj:Io t s.heap j l i)(ht:Sq t s.heap l Zr)(hx:Zr[i]?=some x)
  (hQ:∀h',Io t h' j l (i+1)->Heap.SameBut j s.heap h'->Q x {s with heap:=h'}):wpAny (model prog w) A (Builtin.SmallTypes.nextOf (.ref j)) Q E s:=by
 cases t
 .exact wpAny_nextOf_list_item hj ht hx hQ
 .exact Fq hj ht hx hQ
theorem uL{t:Bool}{j l:Addr}{i:Nat}{Zr:Array Value}{Q:Value->Shared->Prop}(hh:A.handled=none)(hj:Io t s.heap j l i)(ht:Sq t s.heap l Zr)(hx:Zr[i]?=none)
  (hE:∀h' e,Heap.ExtBut j s.heap h'->(∃o,h'.get? e=some o/\o.cls=.type "StopIteration")->E (.ref e) {s with heap:=h'}):wpAny (model prog w) A (Builtin.SmallTypes.nextOf (.ref j)) Q E s:=by
 cases t
 .exact wpAny_nextOf_list_end hh hj ht hx hE
 .exact uH hh hj ht hx hE
theorem lW{t:Bool}{l:Addr}{Zr:Array Value}{Q:Value->Shared->Prop}(hl:Sq t s.heap l Zr)
  (hQ:Q (.ref s.heap.objs.size) {s with heap:=s.heap.push {cls:=.type (nm t),data:=.fields #[.ref l,.int 0 0]}}):wpAny (model prog w) A (pyIter (.ref l)) Q E s:=by
 cases t
 .exact wpAny_pyIter_list hl hQ
 .exact wpAny_pyIter_tuple hl hQ
end
theorem draws{t:Bool}{prog:Program}{w:World}{A:Around}(hh:A.handled=none)(it a:Addr)(dv:a≠it)(Zr:Array Value):
  Draws prog w A it [it,a] Zr.size (fun i v=>Zr[i]?=some v) (fun i h=>Io t h it a i/\Sq t h a Zr) where
 live:=fun _ _ st=>let⟨o,ho,_⟩:=st.1;⟨o,ho⟩
 frame:=fun _ _ _ st hk=>⟨st.1.at fun o e=>hk it Zy o e,st.2.at fun o e=>hk a Zy o e⟩
 item:=fun i s Q E hi st hQ=>nx st.1 st.2 (x:=Zr[i]) (by simp[hi]) fun h' h1 h2=>hQ _ h' s.toks (by simp[hi]) ⟨h1,st.2.extBut h2.extBut dv⟩ h2
 done:=fun s Q E st hE=>uL hh st.1 st.2 Zy hE
abbrev eA(t0:Bool)(h:Heap)(t:Addr):Heap:=h.push {cls:=.type (nm t0),data:=.fields #[.ref t,.int 0 0]}
theorem lZ{t0:Bool}(t:Addr)(Zr:Array Value):
  Meets (Builtin.«enumerate.__new__» ⟨[.type "enumerate",.ref t],[]⟩) (fun _ R s=>Sq t0 s.heap t Zr /\
   R (.ok (.ret (.ref (eA t0 s.heap t).objs.size))) {s with heap:=(eA t0 s.heap t).push {cls:=.type "enumerate",data:=.fields #[.none,.bool false,.ref s.heap.objs.size,rawInt 0,.none,.none]}}):=
 .of_wp fun prog w A R s h=>by
  obtain⟨hp,g,d,tk,os⟩:=s;obtain⟨ht,h⟩:=h;have BD:=sub_enumerate;have hT:Sq t0 (Shared.heap ⟨hp,g,d,tk,os⟩) t Zr:=ht
  wp_walk
  refine wpAny_stack_any fun st=>zB0 ?_;split
  .rename_i c _ _ _ _ _
   cases(c==Value.type "enumerate")
   .wp_walk using lW hT
    exact⟨_,rfl,h⟩
   .wp_walk using lW hT
    exact⟨_,rfl,h⟩
  .wp_walk using lW hT
   exact⟨_,rfl,h⟩
theorem nF{t0:Bool}{prog:Program}{w:World}{A:Around}{E:Value->Shared->Prop}{s:Shared}{t:Addr}{Zr:Array Value}{Q:Value->Shared->Prop}(ht:Sq t0 s.heap t Zr)
  (h:∀h',IsEnum h' (s.heap.objs.size+1) s.heap.objs.size 0 .none->Io t0 h' s.heap.objs.size t 0->(∀c o,s.heap.get? c=some o->h'.get? c=some o)->Q (.ref (s.heap.objs.size+1)) {s with heap:=h'}):
  wpAny (model prog w) A (call (.type "enumerate") [.ref t]) Q E s:=by
 refine callType_new F.called_enumerate Zx (F.typeCall_enumerate_1 _) (F.newCall_enumerate_1 _) (fun obj=>F.args_object_init_2 obj _) F.entry_enumerate_new (lZ t Zr) ⟨ht,?_⟩;have e1:(eA t0 s.heap t).objs.size=s.heap.objs.size+1:=Heap.size_push ..;have g2:=zB3 (eA t0 s.heap t) (o:={cls:=.type "enumerate",data:=.fields #[.none,.bool false,.ref s.heap.objs.size,rawInt 0,.none,.none]}) rfl;have g1:=zAy {cls:=.type "enumerate",data:=.fields #[.none,.bool false,.ref s.heap.objs.size,rawInt 0,.none,.none]} (zB3 s.heap (o:={cls:=.type (nm t0),data:=.fields #[.ref t,.int 0 0]}) rfl);show _/\_;rw[e1]at g2⊢;exact⟨⟨_,g2,rfl⟩,h _ g2 ⟨_,g1,rfl,rfl⟩ fun c o x=>zAy _ (zAy _ x)⟩
def Ite(t0:Bool)(K:Frag)(a:Addr):It:=
 ⟨fun i H=>∃xs x,SQ t0 K H a xs/\xs[i]?=some x,
  fun i H v H'=>∃T,H T=none/\v=.ref T/\∀xs,SQ t0 K H a xs->∃x,xs[i]?=some x/\H'=upd H T (.tup [.int i,x]),
  fun i H=>∃xs,SQ t0 K H a xs/\xs.length<=i⟩
def tne(t0:Bool)(e it a:Addr)(i:Nat)(h:Heap):Prop:=(∃old,IsEnum h e it i old)/\Io t0 h it a i
theorem xX{t0:Bool}{P:Program}{w:World}{K:Frag}{es:List Expr}{k:Nat}{pos:Pos}{e it a:Addr}(BF:e≠it)(K1:e≠a)(K2:a≠it):
  Turn P w K (.Tuple es k pos) (Ite t0 K a) [e,it] e (tne t0 e it a) where
 mem:=by simp
 obj:=fun i h st c hc=>by
  obtain⟨⟨old,s1⟩,⟨o4,s4,c4,d4⟩⟩:=st;simp only[List.mem_cons,List.not_mem_nil,or_false]at hc;rcases hc with z|z<;>subst z
  .exact⟨_,s1,fun v q=>by cases q⟩
  .exact⟨_,s4,fun v q=>by rw[d4]at q;cases q⟩
 keep:=fun i h h' st kp=>by
  obtain⟨⟨old,s1⟩,s4⟩:=st;exact⟨⟨old,kp e Zy _ s1⟩,s4.at fun o z=>kp it Zy o z⟩
 item:=by
  intro X hP hw hK hc i Zt s σ H E I hf st hg;subst hP hw hK;obtain⟨⟨old,s1⟩,s4⟩:=st;obtain⟨xs,x,kz,hx⟩:=hg;obtain⟨Zr,rv,p,_⟩:=jW I kz;obtain⟨ux,zd,rx⟩:=rv.get hx
  have aI:i<Zr.toArray.size:=by
   have:=(zAa.mp zd).1;simpa using this
  have D:=draws (t:=t0) (prog:=X.prog) (w:=X.w) (A:=X.A.in1) (I.ok.hd hc) it a K2 Zr.toArray;refine wpAny_pyNext_enum_itemD D s1 ⟨s4,p⟩ aI BF (by simp[BF,K1]) fun u h1 tk hu g1 g3 g5 g6 kp=>?_
  have eu:u=ux:=by
   have hu:Zr.toArray[i]?=some u:=hu;rw[List.getElem?_toArray,zd]at hu;exact(zAl hu).symm
  subst eu;refine⟨_,rfl,?_⟩;refine wpAny_letOwnedTupleGo_enum g1 fun h2 e1 sb=>?_
  have live:∀c,c∈[e,it]->∃o,s.heap.get? c=some o:=fun c ay=>by
   simp only[List.mem_cons,List.not_mem_nil,or_false]at ay;rcases ay with q|q<;>subst q
   .exact⟨_,s1⟩
   .exact let⟨o,h,_⟩:=s4;⟨o,h⟩
  have ne:∀c,c∈[e,it]->c≠s.heap.objs.size:=fun c ay z=>by
   obtain⟨o,ho⟩:=live c ay;exact absurd (zAz ho) (by rw[z];exact Nat.lt_irrefl _)
  have hT:H s.heap.objs.size=none:=I.hok.fresh (zA3 _)
  have kept:∀c o,c∉[e,it]->s.heap.get? c=some o->h2.get? c=some o:=fun c o ay z=>
   sb.extBut _ _ (fun q=>ay (by simp[q])) (kp c o (fun q=>ay (by simp[q])) (fun q=>ay (by simp[q])) z)
  have trk:∀c o,H c=some o->c∉[e,it]:=fun c o z ay=>by
   have:=(hf c ay).1;rw[z]at this;cases this
  have oi:h2.get? s.heap.objs.size=some {cls:=.type "tuple",data:=.seq #[.int i tk,u]}:=sb.extBut _ _ (Ne.symm (ne e Zy)) g5
  have oj:HOk X.prog X.w (upd H s.heap.objs.size (.tup [.int i,x])) h2:=fun c o z=>by
   by_cases hb:c=s.heap.objs.size
   .subst hb;rw[ao]at z;cases z;exact⟨by show 2<=sizeLine;decide,[.int i tk,u],.cons ⟨tk,rfl⟩ (.cons rx .nil),_,oi,rfl,_,rfl⟩
   .rw[aB hb]at z
    refine(I.hok c o z).stay (fun d v hd q=>kept d v ?_ q) (fun d q=>by rw[aB (aH q hT)];exact q) fun d l q=>by rw[aB (aH q hT)];exact q
    rcases hd with e'|e'
    .rw[e'];exact trk c o z
    .exact trk d _ e'
  have I2:Inv X Zt σ (upd H s.heap.objs.size (.tup [.int i,x])) {s with heap:=h2,toks:=tk+1}:=by
   refine I.step (g':=s.gens) (d':=s.drawn) (t':=tk+1) (ch:=[e,it]) (fun c ay=>?_) (fun c o _ _ hn z _=>kept c o hn z) (fun c o _ _ hn z _=>⟨o.slots,kept c o hn z⟩)
    (fun c o _ z n=>by rw[aB (zB6 (zAz z))];exact n) (fun c o hn z=>⟨o,kept c o hn z⟩) (fun c l z=>by rw[aB (aH z hT)];exact z) (fun c o l z=>by rw[aB (aH z hT)];exact z)
    (fun c l z=>⟨#[],by rw[aB (aH z hT),z];simp⟩) (fun m hm=>?_) oj I.bare
   .obtain⟨f0,f1,f2,f3,f4,f5⟩:=hf c ay;exact⟨f3,f1,f4,f5⟩
   .obtain⟨o,fR,ep,ho,r⟩:=hm;refine⟨o,fR,ep,kept _ o (fun ay=>?_) ho,r⟩;exact(hf _ ay).2.1 rfl
  refine⟨.ref s.heap.objs.size,_,I2,rfl,⟨s.heap.objs.size,hT,rfl,fun ui qA=>⟨x,?_,rfl⟩⟩,⟨⟨u,?_⟩,?_⟩,fun c ay=>?_⟩
  .rw[uK I qA kz];exact hx
  .have:=e1;rw[show(((i+1:Nat):Int))=(i:Int)+1 by lia];exact this
  .exact g3.1.extBut sb.extBut BF.symm
  .rw[aB (ne c ay)];exact(hf c ay).1
 done:=by
  intro X hP hw hK hc i Zt s σ H E I hf st hg;subst hP hw hK;obtain⟨⟨old,s1⟩,s4⟩:=st;obtain⟨xs,kz,hlen⟩:=hg;obtain⟨Zr,rv,p,_⟩:=jW I kz;have hl:=rv.length
  have hT:s.TypeIs (.ref e) "enumerate":=⟨_,s1,rfl⟩
  have fin:∀h',Heap.ExtBut it s.heap h'->Inv X Zt σ H {s with heap:=h'}:=fun h' kp=>by
   obtain⟨f0,f1,f2,f3,f4,f5⟩:=hf it Zy;exact I.turned (t':=s.toks) (fun b o hb z=>kp b o hb z) f0 f1 f3 f4 f5
  unfold pyNext;refine wpAny_bind (wpAny_attempt (wpAny_callSpecial?_slot (name:=Str.ofString "__next__") hT F.slot_enumerate_next (wpAny_call_entry F.slot_enumerate_next hT F.entry_enumerate_next ?_ (F.args_enumerate_next_1 _))));show wpAny _ _ (field (.ref e) 2>>=_) _ _ _;refine wpAny_bind (wpAny_field s1 rfl (x:=.ref it) rfl ?_);refine wpAny_bind (uL (I.ok.hd hc) s4 p (by simp;lia) fun h' x y8 jS=>?_);obtain⟨o,ho,K3⟩:=jS;refine wpAny_bind (wpAny_isInstance (T:="StopIteration") (b:=true) ⟨o,ho,K3⟩ isSubtype_stop (wpAny_pure ⟨rfl,fin h' y8⟩))
 self:=fun _ _ _ _ _ st h=>wpAny_pyIter_enum st.1.choose_spec h
section
variable{X:Cx}
def GQ(t0:Bool)(K:Frag)(t:TA):TI:=fun σ H R=>t σ H fun vs H1=>∃a xs,vs=[.ref a]/\SQ t0 K H1 a xs/\R (Ite t0 K a) H1
theorem pi_enum(t0:Bool){es:List Expr}{k:Nat}{tp:Pos}{a:Expr}{ta:TA}{p pos:Pos}(hg:Gl X "enumerate")(hm:X.mg "enumerate"=none)(ha:PA X [a] ta)(hs:starEach [a] X.env=[(false,eval a X.env)]:=by rfl):
  PI X (.Tuple es k tp) (.Call (.Name "enumerate" p) [a] [] pos) (GQ t0 X.K ta):=by
 intro Zt s σ H R I h;refine Call_ (iI I hg hm boot_enumerate (PyProof.Rows.callWith_type1 (thn (ha pos Zt s σ H _ I h) fun us s1 ⟨vs,H1,I1,r1,q1⟩=>?_) hs rfl));obtain⟨x,xs,e,hx,q⟩:=q1;subst e;obtain⟨u,rfl,ru⟩:=vals1 r1;cases ru;obtain⟨Zr,_,p1,_⟩:=jW I1 hx;refine nF p1 fun h' z1 z4 kp=>?_;refine wpAny_pyIter_enum z1 ?_;have lx:x<s1.heap.objs.size:=by obtain⟨_,e,_⟩:=p1;exact zAz e
 refine⟨_,_,_,_,H1,rfl,I1.kept (t':=s1.toks) kp,xX (e:=s1.heap.objs.size+1) (it:=s1.heap.objs.size) (a:=x) (Nat.succ_ne_self _) (Nat.ne_of_gt (Nat.lt_succ_of_lt lx)) (zB6 lx),⟨⟨_,z1⟩,z4⟩,fun c hc=>?_,q⟩
 have hle:s1.heap.objs.size<=c:=by
  simp only[List.mem_cons,List.not_mem_nil,or_false]at hc;rcases hc with q|q<;>subst q
  .exact Nat.le_add_right _ 1
  .exact zA3 _
 exact I1.fpOk hle (I1.hok.fresh hle)
end
theorem for_enum(t0:Bool){K:Frag}{a:Addr}{xs:List V}{g:TG}{tb:TS}{D:Ends}{σ:St}{H:Hp}(Pv:Nat->St->Hp->Prop)(h0:Pv 0 σ H)(hl:∀i σ H,i<=xs.length->Pv i σ H->SQ t0 K H a xs)
  (hs:∀i x σ H T,xs[i]?=some x->Pv i σ H->H T=none->g (.ref T) σ (upd H T (.tup [.int i,x])) fun aE H2=>tb {D with nx:=Pv (i+1),ct:=Pv (i+1),bk:=D.nx} aE H2) (hd:∀σ H,Pv xs.length σ H->D.nx σ H):
  ∃W:Nat->Nat->St->Hp->Prop,(∃m,W 0 m σ H)/\∀i m σ H,W i m σ H->
   ((Ite t0 K a).stop i H/\D.nx σ H)\/((Ite t0 K a).go i H/\∃N:St->Hp->Prop,(∀ai H',N ai H'->∃m',m'<m/\W (i+1) m' ai H')/\∀x H',(Ite t0 K a).yld i H x H'->g x σ H' fun aE H2=>tb {D with nx:=N,ct:=N,bk:=D.nx} aE H2):=by
 refine⟨fun i m σ H=>m=xs.length-i/\i<=xs.length/\Pv i σ H,⟨xs.length,by simp,Nat.zero_le _,h0⟩,?_⟩;rintro i m σ H ⟨rfl,hi,p⟩;have q:=hl i σ H hi p;by_cases aI:i<xs.length
 .refine .inr ⟨⟨xs,xs[i],q,by simp[aI]⟩,Pv (i+1),fun ai H' p'=>⟨xs.length-(i+1),Zz,rfl,aI,p'⟩,fun x H' y=>?_⟩;obtain⟨T,nT,rfl,y⟩:=y;obtain⟨x,ex,rfl⟩:=y xs q;exact hs i x σ H T ex p nT
 .have e:i=xs.length:=Zz
  subst e;exact .inl ⟨⟨xs,q,zA3 _⟩,hd σ H p⟩
end L2.ZT
namespace L2
open PySem PySem.Spec PyProof.Rows
section
variable{X:Cx}
theorem nG(hc:X.calm=true):dG X (.builtin "min") (fun xs H Q=>∃(p:Addr) (ns:List Int),xs=[.ref p]/\SqL X.K H p (ns.map V.int)/\ns≠[]/\∀M,M∈ns->(∀a∈ns,M<=a)->Q (.int M) H):=by
 intro Zt s σ H xs us Q I r h;obtain⟨p,ns,rfl,hq,dv,q⟩:=h;obtain⟨u,rfl,ru⟩:=vals1 r;cases ru;obtain⟨Zr,rv,pl,hz⟩:=I.list hq;have hi:IntsAre Zr ns:=intsAre_of rv;obtain⟨zs,ez⟩:=(hi.allInts:AllInts Zr.toArray).items;have en:numsOf Zr=ns:=hi.numsOf;have hl:s.heap.IsList p (intItems zs):=ez▸pl.isList
 have bg:0<zs.size:=by
  have e1:(intItems zs).size=Zr.length:=by rw[<-ez,zA8]
  have e2:=rv.length;rw[zA1]at e2;have e3:0<ns.length:=List.length_pos_iff.mpr dv;simp only[intItems,Array.size_map]at e1;lia
 have hn:numsOf (intItems zs).toList=ns:=by rw[<-ez];exact en
 refine min_intList (I.ok.hd hc) hl bg fun v h' tk hv hk=>?_;obtain⟨t,rfl⟩:=intItems_at hv;obtain⟨h1,h2⟩:=argBest_lt (numAt zs) (zs.size-1);rw[nums_intItems]at hn;refine⟨.int _,H,I.kept (t':=tk) hk,⟨t,rfl⟩,q _ ?_ fun a ha=>?_⟩
 .rw[<-hn,numAt_eq];exact getD_mem (by rw[zA1,zA9];lia)
 .rw[<-hn]at ha;obtain⟨j,hj,rfl⟩:=mem_getD ha;rw[zA1,zA9]at hj;rw[<-numAt_eq];exact h2 j Zz
inductive RCatT0I(K:Frag)(x:V)(y:V)(H:Hp)(Q:VK):Prop
 |mk:∀a b ys,(x=.ref a)->(y=.ref b)->(SqT K H a [])->(SqT K H b ys)->(Q (.ref b) H)->RCatT0I K x y H Q
def Fw(K:Frag):R2:=fun x y H Q=>RCatT0I K x y H Q
open Builtin in
theorem zu(l b:Addr)(Zr:Array Value)(n m:Nat)(dd qr:Option Addr)(sl nB:Array (Option Value)):
  Meets (Builtin.«tuple.__add__» ⟨[.ref l,.ref b],[]⟩) (fun _ R s=>s.heap.get? l=some {cls:=.type "tuple",dict:=dd,data:=.seq #[] n,slots:=sl}/\s.heap.get? b=some {cls:=.type "tuple",dict:=qr,data:=.seq Zr m,slots:=nB}/\R (.ok (.ret (.ref b))) s):=by
 refine .of_wp fun prog w A R s h=>?_;obtain⟨hp,g,d,tk,os⟩:=s;obtain⟨hl,hb,h⟩:=h;have f2:=PySem.AutoSeq1.sub_tuple_tuple
 wp_walk
 exact⟨_,rfl,h⟩
theorem sI:OpR X (binaryOp .Add) (Fw X.K):=by
 intro Zt s σ H x y v u Q I rx ry h;obtain⟨a,b,ys,rfl,rfl,ha,hb,q⟩:=h;cases rx;cases ry;obtain⟨Zr,r1,p1,_⟩:=I.tuple ha;obtain⟨bq,r2,p2,_⟩:=I.tuple hb;have e:Zr=[]:=r1.zero;subst e;obtain⟨⟨cls,dd,data,sl⟩,ho,hc,n,hd⟩:=id p1;obtain⟨⟨AW,qr,data2,nB⟩,ko,sQ,n2,hd2⟩:=id p2;simp only at hc hd sQ hd2;subst hc hd sQ hd2;exact concat_meets ⟨_,ho,rfl⟩ ⟨_,ko,rfl⟩ noFill_tuple_add seq_tuple_add PySem.F.slot_tuple_add PySem.F.entry_tuple_add (PySem.F.args_tuple_add_2 _ _) (zu a b bq.toArray n n2 dd qr sl nB) ⟨ho,ko,.ref b,H,I,rfl,q⟩
theorem zx:OpR X (binaryOp .Add) (fun x y H Q=>∃a b xs ys,x=.ref a/\y=.ref b/\SqT X.K H a xs/\SqT X.K H b ys/\ys≠[]/\xs.length+ys.length<=sizeLine/\(xs=[]->Q (.ref b) H)/\(xs≠[]->∀p,H p=none->Q (.ref p) (upd H p (.tup (xs++ys))))):=by
 intro Zt s σ H x y v u Q I rx ry h;obtain⟨a,b,xs,ys,rfl,rfl,ha,hb,hy,hz,q1,q2⟩:=h;by_cases hx:xs=[]
 .subst hx;exact sI Zt s σ H _ _ v u Q I rx ry ⟨a,b,ys,rfl,rfl,ha,hb,q1 rfl⟩
 .exact vD Zt s σ H _ _ v u Q I rx ry ⟨a,b,xs,ys,rfl,rfl,ha,hb,hx,hz,fun z=>absurd z hy,fun _=>q2 hx⟩
end
section
variable{prog:Program}{w:World}{A:Around}{E:Value->Shared->Prop}{s:Shared}
open HT in
theorem jb{t sl:Addr}{items:Array Value}{vl vu:Value}{lo hi:Option Int}{Q:Value->Shared->Prop}(ht:IsTup s.heap t items)(hs:s.heap.IsSliceOf sl vl vu .none)(pl:IsPart vl lo)(pu:IsPart vu hi)
  (h1:sIx items.size 0 lo=0) (h2:sIx items.size items.size hi=items.size) (h:Q (.ref t) s):wpAny (model prog w) A (getItem (.ref t) (.ref sl)) Q E s:=by
 obtain⟨os,nE,yA,sR⟩:=id hs
 have AX:s.TypeIs (.ref sl) "slice":=⟨os,nE,yA⟩
 unfold getItem
 try with_reducible refine wpAny_holding ?_
 first|refine zAx (zB0 ?_)|skip
 refine zAx (wpAny_sequenceKey ht.typeIs Zx ?_)
 refine zAx (wpAny_callSpecial?_slot (name:=Str.ofString "__getitem__") ht.typeIs PyProof.Rows.slot_tuple_getitem
  (wpAny_call_entry PyProof.Rows.slot_tuple_getitem ht.typeIs entry_tuple_getitem ?_ (args_tuple_getitem _ _)))
 show wpAny _ _ (Builtin.Tuple.tupleItemsOf (.ref t)>>=_) _ _ s;refine wpAny_bind (tupleItemsOf_ ht ?_);refine wpAny_bind (wpAny_typeOf AX ?_);rw[if_pos Zx];refine wpAny_bind (fH hs pl pu ?_);rw[h1,h2];show wpAny _ _ (if((((0:Nat):Int))==0&&(1:Int)==1&&(items.size-0)==items.size)=true then _ else _) _ _ s;rw[if_pos Zy];unfold Builtin.Tuple.tupleIsExact;refine wpAny_bind (wpAny_bind (wpAny_typeOf ht.typeIs (wpAny_pure ?_)));rw[if_pos Zx];exact wpAny_bind (wpAny_rule (wpAny_pure ⟨_,rfl,wpAny_pure h⟩))
end
section
variable{X:Cx}
inductive RSlWI(K:Frag)(x:V)(lo:Option Int)(hi:Option Int)(H:Hp)(Q:VK):Prop
 |mk:∀a xs,(x=.ref a)->(SqT K H a xs)->(((HT.sIx xs.length 0 lo=0/\HT.sIx xs.length xs.length hi=xs.length)->Q (.ref a) H))->((¬(HT.sIx xs.length 0 lo=0/\HT.sIx xs.length xs.length hi=xs.length)->∀p,H p=none->Q (.ref p) (upd H p (.tup (gA xs lo hi)))))->RSlWI K x lo hi H Q
def J0(K:Frag):V->Option Int->Option Int->Hp->VK->Prop:=fun x lo hi H Q=>RSlWI K x lo hi H Q
theorem vL:SlR X (J0 X.K):=by
 intro Zt s σ H x v vl vu lo hi sl Q I rx hs pl pu h;obtain⟨a,xs,rfl,hx,q1,q2⟩:=h;by_cases hw:HT.sIx xs.length 0 lo=0/\HT.sIx xs.length xs.length hi=xs.length
 .cases rx;obtain⟨Zr,r,ht,hz⟩:=I.tuple hx;have hlen:Zr.toArray.size=xs.length:=by rw[zA8];exact r.length.symm
  refine⟨"tuple",_,PyProof.Rows.slot_tuple_getitem.lookup,ht.typeIs,?_⟩;exact jb ht hs pl pu (by rw[hlen];exact hw.1) (by rw[hlen];exact hw.2) ⟨.ref a,H,I,rfl,q1 hw⟩
 .exact Fe Zt s σ H _ v vl vu lo hi sl Q I rx hs pl pu ⟨a,xs,rfl,hx,hw,q2 hw⟩
end
section
variable{prog:Program}{w:World}{A:Around}{E:Value->Shared->Prop}{s:Shared}
end
section
variable{X:Cx}{e:Expr}{te:TE}{pos p2 p3 p4:Pos}{j:Nat}
end
end L2
namespace L2.ZT
open PySem PySem.Spec PyProof.Rows L2
section
variable{prog:Program}{w:World}{A:Around}{E:Value->Shared->Prop}{s:Shared}
theorem sJ{t1 t2:Bool}{z TI TO i1 i2 l1 l2:Addr}{k:Nat}{xs ys:Array Value}{x y a b:Value}{Q:Option Value->Shared->Prop}(D:ZipApart z TI TO i1 i2 l1 l2)
  (hz:IsZip s.heap z TI TO .none) (BG:IsPair s.heap TI (.ref i1) (.ref i2)) (GH:IsPair s.heap TO a b)
  (h1:Io t1 s.heap i1 l1 k) (h2:Io t2 s.heap i2 l2 k) (dA:Sq t1 s.heap l1 xs) (fE:Sq t2 s.heap l2 ys) (hx:xs[k]?=some x) (hy:ys[k]?=some y)
  (hQ:∀h',IsZip h' z TI TO (rawInt s.heap.objs.size)->IsPair h' TO x y->Io t1 h' i1 l1 (k+1)->Io t2 h' i2 l2 (k+1)->IsPair h' s.heap.objs.size x y->h'.objs.size=s.heap.objs.size+1->
   (∀c o,c≠z->c≠TO->c≠i1->c≠i2->s.heap.get? c=some o->h'.get? c=some o)->Q (some (.ref s.heap.objs.size)) {s with heap:=h'}):
  wpAny (model prog w) A (pyNext (.ref z)) Q E s:=by
 have hT:s.TypeIs (.ref z) "zip":=⟨_,hz,rfl⟩
 unfold pyNext;refine wpAny_bind (wpAny_attempt (wpAny_callSpecial?_slot (name:=Str.ofString "__next__") hT F.slot_zip_next (wpAny_call_entry F.slot_zip_next hT F.entry_zip_next ?_ (F.args_zip_next_1 _))));show wpAny _ _ (field (.ref z) 2>>=_) _ _ _;refine wpAny_bind (wpAny_field hz rfl (x:=.bool false) rfl ?_);show wpAny _ _ (field (.ref z) 3>>=_) _ _ _;refine wpAny_bind (wpAny_field hz rfl (x:=.ref TI) rfl (wpAny_bind (wpAny_seqItems BG rfl ?_)));show wpAny _ _ (Builtin.SmallTypes.ownedTupleIsFree (.ref z)>>=_) _ _ _;refine wpAny_bind ?_;unfold Builtin.SmallTypes.ownedTupleIsFree;refine wpAny_bind (wpAny_field hz rfl (x:=.none) rfl (wpAny_pure ?_));simp only[if_true];refine wpAny_bind (wpAny_rule (wpAny_bind (wpAny_field hz rfl (x:=.ref TO) rfl (wpAny_bind (wpAny_setField_rec hz Zy fun g1 z1 s1=>?_)))))
 replace z1:IsZip g1 z TI TO .ellipsis:=z1
 refine wpAny_bind ?_;simp only[List.zipIdx_cons,List.zipIdx_nil,List.forIn_cons,List.forIn_nil];refine wpAny_bind (wpAny_bind (wpAny_onRaise ?_));show wpAny _ _ (Builtin.SmallTypes.nextOf (.ref i1)>>=_) _ _ _;refine wpAny_bind (nx (h1.extBut s1.extBut D.i1z) (dA.extBut s1.extBut D.l1z) hx fun g2 q1 s2=>wpAny_pure ?_);have o2:IsPair g2 TO a b:=s2.extBut _ _ D.TOi1 (s1.extBut _ _ D.TOz GH);refine wpAny_bind (wpAny_seqItems o2 rfl (wpAny_bind (wpAny_updateSeq_pair o2 fun g3 o3 s3=>?_)))
 replace o3:IsPair g3 TO x b:=o3
 refine zAx (wpAny_letGo (zB0 (zAx (zAx (wpAny_onRaise ?_)))));show wpAny _ _ (Builtin.SmallTypes.nextOf (.ref i2)>>=_) _ _ _;refine zAx (nx (((h2.extBut s1.extBut D.i2z).extBut s2.extBut D.i12.symm).extBut s3.extBut D.TOi2.symm) (((fE.extBut s1.extBut D.l2z).extBut s2.extBut D.l2i1).extBut s3.extBut D.l2TO) hy fun g4 q2 s4=>zB0 ?_);have o4:IsPair g4 TO x b:=s4.extBut _ _ D.TOi2 o3;refine zAx (wpAny_seqItems o4 rfl (zAx (wpAny_updateSeq_pair o4 fun g5 o5 s5=>?_)))
 replace o5:IsPair g5 TO x y:=o5
 refine zAx (wpAny_letGo (zB0 (zB0 (zAx (wpAny_seqItems o5 rfl (zAx (wpAny_newTuple ?_)))))));have hsz:g5.objs.size=s.heap.objs.size:=by rw[s5.1,s4.1,s3.1,s2.1,s1.1]
 have z5:IsZip g5 z TI TO .ellipsis:=s5.extBut _ _ D.TOz.symm (s4.extBut _ _ D.i2z.symm (s3.extBut _ _ D.TOz.symm (s2.extBut _ _ D.i1z.symm z1)));have k5:∀c o,c≠z->c≠TO->c≠i1->c≠i2->s.heap.get? c=some o->g5.get? c=some o:=fun c o c1 c2 c3 c4 e=>s5.extBut _ _ c2 (s4.extBut _ _ c4 (s3.extBut _ _ c2 (s2.extBut _ _ c3 (s1.extBut _ _ c1 e))));have p1:Io t1 g5 i1 l1 (k+1):=((q1.extBut s3.extBut D.TOi1.symm).extBut s4.extBut D.i12).extBut s5.extBut D.TOi1.symm;have p2:Io t2 g5 i2 l2 (k+1):=q2.extBut s5.extBut D.TOi2.symm;have GI:z<g5.objs.size:=Heap.lt_size z5;show wpAny _ _ (Builtin.SmallTypes.ownedTupleHandOut (.ref z) (.ref g5.objs.size)>>=_) _ _ _;refine wpAny_bind ?_;unfold Builtin.SmallTypes.ownedTupleHandOut;have z6:IsZip (g5.push {cls:=.type "tuple",data:=.seq #[x,y]}) z TI TO .ellipsis:=Heap.get?_push_of_some _ z5;refine wpAny_bind (wpAny_setField_rec z6 Zy fun g7 z7 s7=>?_)
 replace z7:IsZip g7 z TI TO (rawInt g5.objs.size):=z7
 refine wpAny_setField_rec z7 Zy fun g8 z8 s8=>?_
 replace z8:IsZip g8 z TI TO (rawInt g5.objs.size):=z8
 have up:∀c o,c≠z->g5.get? c=some o->g8.get? c=some o:=fun c o c1 e=>s8.extBut _ _ c1 (s7.extBut _ _ c1 (zAy _ e));have t8:IsPair g8 g5.objs.size x y:=s8.extBut _ _ (Nat.ne_of_gt GI) (s7.extBut _ _ (Nat.ne_of_gt GI) (zB3 _ rfl));have n8:g8.objs.size=g5.objs.size+1:=by rw[s8.1,s7.1,Heap.size_push]
 rw[hsz]at z8 t8 n8;refine zB0 ⟨_,rfl,zB0 ?_⟩;show Q (some (.ref g5.objs.size)) _;rw[hsz];exact hQ g8 z8 (up _ _ D.TOz o5) (p1.at fun o e=>up _ o D.i1z e) (p2.at fun o e=>up _ o D.i2z e) t8 n8 fun c o c1 c2 c3 c4 e=>up c o c1 (k5 c o c1 c2 c3 c4 e)
theorem uM{t1:Bool}{z TI TO i1 i2 l1 l2:Addr}{k:Nat}{xs:Array Value}{a b:Value}{Q:Option Value->Shared->Prop}(hh:A.handled=none)(D:ZipApart z TI TO i1 i2 l1 l2)
  (hz:IsZip s.heap z TI TO .none) (BG:IsPair s.heap TI (.ref i1) (.ref i2)) (GH:IsPair s.heap TO a b) (h1:Io t1 s.heap i1 l1 k) (dA:Sq t1 s.heap l1 xs) (hx:xs[k]?=none)
  (hQ:∀h',(∀c o,c≠z->c≠i1->s.heap.get? c=some o->h'.get? c=some o)->Q none {s with heap:=h'}):wpAny (model prog w) A (pyNext (.ref z)) Q E s:=by
 have hT:s.TypeIs (.ref z) "zip":=⟨_,hz,rfl⟩
 unfold pyNext;refine wpAny_bind (wpAny_attempt (wpAny_callSpecial?_slot (name:=Str.ofString "__next__") hT F.slot_zip_next (wpAny_call_entry F.slot_zip_next hT F.entry_zip_next ?_ (F.args_zip_next_1 _))));show wpAny _ _ (field (.ref z) 2>>=_) _ _ _;refine wpAny_bind (wpAny_field hz rfl (x:=.bool false) rfl ?_);show wpAny _ _ (field (.ref z) 3>>=_) _ _ _;refine wpAny_bind (wpAny_field hz rfl (x:=.ref TI) rfl (wpAny_bind (wpAny_seqItems BG rfl ?_)));show wpAny _ _ (Builtin.SmallTypes.ownedTupleIsFree (.ref z)>>=_) _ _ _;refine wpAny_bind ?_;unfold Builtin.SmallTypes.ownedTupleIsFree;refine wpAny_bind (wpAny_field hz rfl (x:=.none) rfl (wpAny_pure ?_));simp only[if_true];refine wpAny_bind (wpAny_rule (wpAny_bind (wpAny_field hz rfl (x:=.ref TO) rfl (wpAny_bind (wpAny_setField_rec hz Zy fun g1 z1 s1=>?_)))))
 replace z1:IsZip g1 z TI TO .ellipsis:=z1
 refine wpAny_bind ?_;simp only[List.zipIdx_cons,List.zipIdx_nil,List.forIn_cons,List.forIn_nil];refine wpAny_bind (wpAny_bind (wpAny_onRaise ?_));show wpAny _ _ (Builtin.SmallTypes.nextOf (.ref i1)>>=_) _ _ _;refine wpAny_bind (uL hh (h1.extBut s1.extBut D.i1z) (dA.extBut s1.extBut D.l1z) hx fun g2 e s2 he=>?_);obtain⟨oe,BH,GL⟩:=he;have z2:IsZip g2 z TI TO .ellipsis:=s2 _ _ D.i1z.symm z1
 have K4:e≠z:=fun q=>by
  subst q;rw[z2]at BH;cases BH;simp at GL
 refine wpAny_setField_rec z2 Zy fun g3 _ s3=>?_;refine wpAny_bind (wpAny_isInstance (T:="StopIteration") (b:=true) ⟨oe,s3.extBut _ _ K4 BH,GL⟩ isSubtype_stop (wpAny_pure (hQ _ fun c o c1 c2 q=>s3.extBut _ _ c1 (s2 _ _ c2 (s1.extBut _ _ c1 q)))))
end
abbrev zA(t1:Bool)(h:Heap)(t:Addr):Heap:=h.push {cls:=.type (nm t1),data:=.fields #[.ref t,.int 0 0]}
abbrev zB(t1 t2:Bool)(h:Heap)(t l:Addr):Heap:=(zA t1 h t).push {cls:=.type (nm t2),data:=.fields #[.ref l,.int 0 0]}
abbrev zC(t1 t2:Bool)(h:Heap)(t l:Addr):Heap:=(zB t1 t2 h t l).push {cls:=.type "tuple",data:=.seq #[.ref h.objs.size,.ref (zA t1 h t).objs.size]}
abbrev zD(t1 t2:Bool)(h:Heap)(t l:Addr):Heap:=(zC t1 t2 h t l).push {cls:=.type "tuple",data:=.seq #[.none,.none]}
abbrev zE(t1 t2:Bool)(h:Heap)(t l:Addr):Heap:=(zD t1 t2 h t l).push {cls:=.type "zip",data:=.fields #[.none,.bool false,.bool false,.ref (zB t1 t2 h t l).objs.size,.ref (zC t1 t2 h t l).objs.size]}
theorem qy{t1 t2:Bool}(t l:Addr)(xs ys:Array Value):
  Meets (Builtin.«zip.__new__» ⟨[.type "zip",.ref t,.ref l],[]⟩) (fun _ R s=>Sq t1 s.heap t xs/\Sq t2 s.heap l ys/\R (.ok (.ret (.ref (zD t1 t2 s.heap t l).objs.size))) {s with heap:=zE t1 t2 s.heap t l}):=
 .of_wp fun prog w A R s h=>by
  obtain⟨hp,g,d,tk,os⟩:=s;obtain⟨ht,hl,h⟩:=h;have BD:=sub_zip;have hT:Sq t1 (Shared.heap ⟨hp,g,d,tk,os⟩) t xs:=ht;have hL:Sq t2 (Shared.heap ⟨hp.push {cls:=.type (nm t1),data:=.fields #[.ref t,.int 0 0]},g,d,tk,os⟩) l ys:=hl.at fun o e=>zAy _ e
  wp_walk using lW hT,lW hL
  exact⟨_,rfl,h⟩
theorem sO{t1 t2:Bool}{prog:Program}{w:World}{A:Around}{E:Value->Shared->Prop}{s:Shared}{t l:Addr}{xs ys:Array Value}{Q:Value->Shared->Prop}(ht:Sq t1 s.heap t xs)(hl:Sq t2 s.heap l ys)
  (h:∀h',IsZip h' (s.heap.objs.size+4) (s.heap.objs.size+2) (s.heap.objs.size+3) .none->IsPair h' (s.heap.objs.size+2) (.ref s.heap.objs.size) (.ref (s.heap.objs.size+1))->IsPair h' (s.heap.objs.size+3) .none .none->
   Io t1 h' s.heap.objs.size t 0->Io t2 h' (s.heap.objs.size+1) l 0->(∀c o,s.heap.get? c=some o->h'.get? c=some o)->Q (.ref (s.heap.objs.size+4)) {s with heap:=h'}):
  wpAny (model prog w) A (call (.type "zip") [.ref t,.ref l]) Q E s:=by
 refine callType_new F.called_zip Zx (F.typeCall_zip_2 _ _) (F.newCall_zip_2 _ _) (fun obj=>F.args_object_init_3 obj _ _) F.entry_zip_new (qy t l xs ys) ⟨ht,hl,?_⟩;have e1:(zA t1 s.heap t).objs.size=s.heap.objs.size+1:=Heap.size_push ..;have e2:(zB t1 t2 s.heap t l).objs.size=s.heap.objs.size+2:=by rw[Heap.size_push,e1]
 have e3:(zC t1 t2 s.heap t l).objs.size=s.heap.objs.size+3:=by rw[Heap.size_push,e2]
 have e4:(zD t1 t2 s.heap t l).objs.size=s.heap.objs.size+4:=by rw[Heap.size_push,e3]
 have GN:∀{c o},(zD t1 t2 s.heap t l).get? c=some o->(zE t1 t2 s.heap t l).get? c=some o:=fun e=>zAy _ e;have GO:∀{c o},(zC t1 t2 s.heap t l).get? c=some o->(zE t1 t2 s.heap t l).get? c=some o:=fun e=>GN (zAy _ e);have GS:∀{c o},(zB t1 t2 s.heap t l).get? c=some o->(zE t1 t2 s.heap t l).get? c=some o:=fun e=>GO (zAy _ e);have up1:∀{c o},(zA t1 s.heap t).get? c=some o->(zE t1 t2 s.heap t l).get? c=some o:=fun e=>GS (zAy _ e);have g5:(zE t1 t2 s.heap t l).get? (zD t1 t2 s.heap t l).objs.size=some _:=zB3 _ rfl;have g4:(zE t1 t2 s.heap t l).get? (zC t1 t2 s.heap t l).objs.size=some _:=GN (zB3 _ rfl);have g3:(zE t1 t2 s.heap t l).get? (zB t1 t2 s.heap t l).objs.size=some _:=GO (zB3 _ rfl);have g2:(zE t1 t2 s.heap t l).get? (zA t1 s.heap t).objs.size=some _:=GS (zB3 _ rfl);have g1:(zE t1 t2 s.heap t l).get? s.heap.objs.size=some _:=up1 (zB3 _ rfl);show _/\_;rw[e4,e2,e3]at g5;rw[e2,e1]at g3;rw[e3]at g4;rw[e1]at g2;rw[e4];exact⟨⟨_,g5,rfl⟩,h _ g5 g3 g4 ⟨_,g1,rfl,rfl⟩ ⟨_,g2,rfl,rfl⟩ fun c o x=>up1 (zAy _ x)⟩
def Itz(t1 t2:Bool)(K:Frag)(a b:Addr):It:=
 ⟨fun i H=>∃xs ys x y,SQ t1 K H a xs/\SQ t2 K H b ys/\xs[i]?=some x/\ys[i]?=some y,
  fun i H v H'=>∃T,H T=none/\v=.ref T/\∀xs ys,SQ t1 K H a xs->SQ t2 K H b ys->∃x y,xs[i]?=some x/\ys[i]?=some y/\H'=upd H T (.tup [x,y]),
  fun i H=>∃xs,SQ t1 K H a xs/\xs.length<=i⟩
def tnz(t1 t2:Bool)(z TI TO i1 i2 a b:Addr)(i:Nat)(h:Heap):Prop:=IsZip h z TI TO .none/\IsPair h TI (.ref i1) (.ref i2)/\(∃u v,IsPair h TO u v)/\Io t1 h i1 a i/\Io t2 h i2 b i
theorem zy{t1 t2:Bool}{P:Program}{w:World}{K:Frag}{es:List Expr}{k:Nat}{pos:Pos}{z TI TO i1 i2 a b:Addr}(D:ZipApart z TI TO i1 i2 a b):
  Turn P w K (.Tuple es k pos) (Itz t1 t2 K a b) [z,TI,TO,i1,i2] z (tnz t1 t2 z TI TO i1 i2 a b) where
 mem:=by simp
 obj:=fun i h st c hc=>by
  obtain⟨s1,s2,⟨u,v,s3⟩,⟨o4,s4,c4,d4⟩,⟨o5,s5,c5,d5⟩⟩:=st;simp only[List.mem_cons,List.not_mem_nil,or_false]at hc;rcases hc with e|e|e|e|e<;>subst e
  .exact⟨_,s1,fun v q=>by cases q⟩
  .exact⟨_,s2,fun v q=>by cases q⟩
  .exact⟨_,s3,fun v q=>by cases q⟩
  .exact⟨_,s4,fun v q=>by rw[d4]at q;cases q⟩
  .exact⟨_,s5,fun v q=>by rw[d5]at q;cases q⟩
 keep:=fun i h h' st kp=>by
  obtain⟨s1,s2,⟨u,v,s3⟩,s4,s5⟩:=st;exact⟨kp z Zy _ s1,kp TI Zy _ s2,⟨u,v,kp TO Zy _ s3⟩,s4.at fun o e=>kp i1 Zy o e,s5.at fun o e=>kp i2 Zy o e⟩
 item:=by
  intro X hP hw hK hc i Zt s σ H E I hf st hg;subst hP hw hK;obtain⟨s1,s2,⟨u,v,s3⟩,s4,s5⟩:=st;obtain⟨xs,ys,x,y,kz,GU,hx,hy⟩:=hg;obtain⟨Zr,rv,p,_⟩:=jW I kz;obtain⟨K5,eC,q,_⟩:=jW I GU;obtain⟨ux,zd,rx⟩:=rv.get hx;obtain⟨uy,K6,ry⟩:=eC.get hy;refine sJ D s1 s2 s3 s4 s5 p q (x:=ux) (y:=uy) (by simpa using zd) (by simpa using K6) fun h1 g1 g2 g3 g4 g5 g6 kp=>?_;refine⟨_,rfl,?_⟩;refine wpAny_letOwnedTupleGo_zip g1 fun h2 e1 sb=>?_
  have ne:∀c,c∈[z,TI,TO,i1,i2]->c≠s.heap.objs.size:=fun c ay e=>by
   obtain⟨f0,f1,f2,f3,f4,f5⟩:=hf c ay
   have:∃o,s.heap.get? c=some o:=by
    simp only[List.mem_cons,List.not_mem_nil,or_false]at ay;rcases ay with q|q|q|q|q<;>subst q
    .exact⟨_,s1⟩
    .exact⟨_,s2⟩
    .exact⟨_,s3⟩
    .exact let⟨o,h,_⟩:=s4;⟨o,h⟩
    .exact let⟨o,h,_⟩:=s5;⟨o,h⟩
   obtain⟨o,ho⟩:=this;exact absurd (zAz ho) (by rw[e];exact Nat.lt_irrefl _)
  have hT:H s.heap.objs.size=none:=I.hok.fresh (zA3 _)
  have kept:∀c o,c∉[z,TO,i1,i2]->s.heap.get? c=some o->h2.get? c=some o:=fun c o ay e=>
   sb.extBut _ _ (fun q=>ay (by simp[q])) (kp c o (fun q=>ay (by simp[q])) (fun q=>ay (by simp[q])) (fun q=>ay (by simp[q])) (fun q=>ay (by simp[q])) e)
  have BI:∀c,c∈[z,TO,i1,i2]->c∈[z,TI,TO,i1,i2]:=fun c ay=>by
   simp only[List.mem_cons,List.not_mem_nil,or_false]at ay⊢;rcases ay with q|q|q|q<;>simp[q]
  have trk:∀c o,H c=some o->c∉[z,TO,i1,i2]:=fun c o e ay=>by
   have:=(hf c (BI c ay)).1;rw[e]at this;cases this
  have oi:h2.get? s.heap.objs.size=some {cls:=.type "tuple",data:=.seq #[ux,uy]}:=sb.extBut _ _ (Ne.symm (ne z Zy)) g5
  have oj:HOk X.prog X.w (upd H s.heap.objs.size (.tup [x,y])) h2:=fun c o e=>by
   by_cases hb:c=s.heap.objs.size
   .subst hb;rw[ao]at e;cases e;exact⟨by show 2<=sizeLine;decide,[ux,uy],.cons rx (.cons ry .nil),_,oi,rfl,_,rfl⟩
   .rw[aB hb]at e
    refine(I.hok c o e).stay (fun d v hd q=>kept d v ?_ q) (fun d q=>by rw[aB (aH q hT)];exact q) fun d l q=>by rw[aB (aH q hT)];exact q
    rcases hd with e'|e'
    .rw[e'];exact trk c o e
    .exact trk d _ e'
  have I2:Inv X Zt σ (upd H s.heap.objs.size (.tup [x,y])) {s with heap:=h2}:=by
   refine I.step (g':=s.gens) (d':=s.drawn) (t':=s.toks) (ch:=[z,TO,i1,i2]) (fun c ay=>?_) (fun c o _ _ hn e _=>kept c o hn e) (fun c o _ _ hn e _=>⟨o.slots,kept c o hn e⟩)
    (fun c o _ e n=>by rw[aB (zB6 (zAz e))];exact n) (fun c o hn e=>⟨o,kept c o hn e⟩) (fun c l e=>by rw[aB (aH e hT)];exact e) (fun c o l e=>by rw[aB (aH e hT)];exact e)
    (fun c l e=>⟨#[],by rw[aB (aH e hT),e];simp⟩) (fun m hm=>?_) oj I.bare
   .obtain⟨f0,f1,f2,f3,f4,f5⟩:=hf c (BI c ay);exact⟨f3,f1,f4,f5⟩
   .obtain⟨o,fR,ep,ho,r⟩:=hm;refine⟨o,fR,ep,kept _ o (fun ay=>?_) ho,r⟩;exact(hf _ (BI _ ay)).2.1 rfl
  refine⟨.ref s.heap.objs.size,_,I2,rfl,⟨s.heap.objs.size,hT,rfl,fun ui f6 qA K7=>⟨x,y,?_,?_,rfl⟩⟩,⟨e1,?_,?_,?_,?_⟩,fun c ay=>?_⟩
  .rw[uK I qA kz];exact hx
  .rw[uK I K7 GU];exact hy
  .exact sb.extBut _ _ D.TIz (kp _ _ D.TIz D.TITO D.TIi1 D.TIi2 s2)
  .exact⟨_,_,sb.extBut _ _ D.TOz g2⟩
  .exact g3.extBut sb.extBut D.i1z
  .exact g4.extBut sb.extBut D.i2z
  .rw[aB (ne c ay)];exact(hf c ay).1
 done:=by
  intro X hP hw hK hc i Zt s σ H E I hf st hg;subst hP hw hK;obtain⟨s1,s2,⟨u,v,s3⟩,s4,s5⟩:=st;obtain⟨xs,kz,hlen⟩:=hg;obtain⟨Zr,rv,p,_⟩:=jW I kz;have hl:=rv.length
  refine uM (I.ok.hd hc) D s1 s2 s3 s4 p (by simp;lia) fun h' kp=>⟨rfl,?_⟩
  refine I.step (h':=h') (H':=H) (g':=s.gens) (d':=s.drawn) (t':=s.toks) (ch:=[z,i1]) (fun c ay=>?_) (fun c o _ _ hn e _=>kp c o (fun q=>hn (by simp[q])) (fun q=>hn (by simp[q])) e)
   (fun c o _ _ hn e _=>⟨o.slots,kp c o (fun q=>hn (by simp[q])) (fun q=>hn (by simp[q])) e⟩) (fun c o _ e n=>n) (fun c o hn e=>⟨o,kp c o (fun q=>hn (by simp[q])) (fun q=>hn (by simp[q])) e⟩)
   (fun _ _ e=>e) (fun _ _ _ e=>e) (fun c l e=>⟨#[],by rw[e];simp⟩) (fun m hm=>?_) (fun c o e=>?_) I.bare
  .have:c∈[z,TI,TO,i1,i2]:=by
    simp only[List.mem_cons,List.not_mem_nil,or_false]at ay⊢;rcases ay with q|q<;>simp[q]
   obtain⟨f0,f1,f2,f3,f4,f5⟩:=hf c this;exact⟨f3,f1,f4,f5⟩
  .obtain⟨o,fR,ep,ho,r⟩:=hm;exact⟨o,fR,ep,kp _ o (Ne.symm (hf z Zy).2.1) (Ne.symm (hf i1 Zy).2.1) ho,r⟩
  .have nn:∀d v c',c'∈[z,TI,TO,i1,i2]->H d=some v->d≠c':=fun d v c' ay q e'=>by
    have:=(hf c' ay).1;rw[<-e',q]at this;cases this
   have nz:∀d v,H d=some v->d≠z/\d≠i1:=fun d v q=>⟨nn d v z Zy q,nn d v i1 Zy q⟩
   refine(I.hok c o e).stay (fun d v hd q=>?_) (fun _ q=>q) fun _ _ q=>q;rcases hd with e'|e'
   .rw[e']at q⊢;exact kp c v (nz c o e).1 (nz c o e).2 q
   .exact kp d v (nz d _ e').1 (nz d _ e').2 q
 self:=fun _ _ _ _ _ st h=>wpAny_pyIter_zip st.1 h
section
variable{X:Cx}
def J1(t1 t2:Bool)(K:Frag)(t:TA):TI:=fun σ H R=>t σ H fun vs H1=>∃a b xs ys,vs=[.ref a,.ref b]/\SQ t1 K H1 a xs/\SQ t2 K H1 b ys/\R (Itz t1 t2 K a b) H1
theorem pi_zip(t1 t2:Bool){es:List Expr}{k:Nat}{tp:Pos}{a b:Expr}{ta:TA}{p pos:Pos}(hg:Gl X "zip")(hm:X.mg "zip"=none)(ha:PA X [a,b] ta)(hs:starEach [a,b] X.env=[(false,eval a X.env),(false,eval b X.env)]:=by rfl)(gy:starEach [b] X.env=[(false,eval b X.env)]:=by rfl):
  PI X (.Tuple es k tp) (.Call (.Name "zip" p) [a,b] [] pos) (J1 t1 t2 X.K ta):=by
 intro Zt s σ H R I h;refine Call_ (iI I hg hm boot_zip (PyProof.Rows.callWith_type1 (thn (ha pos Zt s σ H _ I h) fun us s1 ⟨vs,H1,I1,r1,q1⟩=>?_) (by rw[hs,gy]) (by rw[gy];rfl)));obtain⟨x,y,xs,ys,e,hx,hy,q⟩:=q1;subst e;obtain⟨u,v,rfl,ru,rv⟩:=vals2 r1;cases ru;cases rv;obtain⟨Zr,_,p1,_⟩:=jW I1 hx;obtain⟨K5,_,p2,_⟩:=jW I1 hy;refine sO p1 p2 fun h' z1 z2 z3 z4 z5 kp=>?_;refine wpAny_pyIter_zip z1 ?_;have lx:x<s1.heap.objs.size:=by obtain⟨_,e,_⟩:=p1;exact zAz e
 have ly:y<s1.heap.objs.size:=by obtain⟨_,e,_⟩:=p2;exact zAz e
 refine⟨_,_,_,_,H1,rfl,I1.kept (t':=s1.toks) kp,zy (zipApart_new lx ly),⟨z1,z2,⟨_,_,z3⟩,z4,z5⟩,fun c hc=>?_,q⟩
 have hle:s1.heap.objs.size<=c:=by
  simp only[List.mem_cons,List.not_mem_nil,or_false]at hc;rcases hc with q|q|q|q|q<;>subst q
  .exact Nat.le_add_right _ 4
  .exact Nat.le_add_right _ 2
  .exact Nat.le_add_right _ 3
  .exact zA3 _
  .exact Nat.le_add_right _ 1
 exact I1.fpOk hle (I1.hok.fresh hle)
end
end L2.ZT
namespace L2
open PySem PySem.Spec PyProof.Rows PySem.Calls
section
variable{X:Cx}
theorem eF(hc:X.calm=true):dG X (.builtin "sum") (fun xs H Q=>∃(p:Addr) (ns:List Int),xs=[.ref p]/\(SqL X.K H p (ns.map V.int)\/SqT X.K H p (ns.map V.int))/\Q (.int ns.sum) H):=by
 intro Zt s σ H xs us Q I r h;obtain⟨p,ns,rfl,hq,q⟩:=h;obtain⟨u,rfl,ru⟩:=vals1 r;cases ru
 have go:∀Zr:List Value,Vals (ns.map V.int) Zr->∃zs:Array (Int×Tok),Zr.toArray=intItems zs/\preSum (numAt zs) zs.size=ns.sum:=fun Zr rv=>by
  have hi:IntsAre Zr ns:=intsAre_of rv;obtain⟨zs,ez⟩:=(hi.allInts:AllInts Zr.toArray).items;refine⟨zs,ez,?_⟩;have en:numsOf Zr.toArray.toList=ns:=hi.numsOf;rw[ez,nums_intItems]at en;rw[preSum_eq,List.take_of_length_le Zy,en]
 rcases hq with hq|hq
 .obtain⟨Zr,rv,pl,hz⟩:=I.list hq;obtain⟨zs,ez,es⟩:=go Zr rv;refine sum_intListG (I.ok.hd hc) (ez▸pl.isList) fun h' tk t' hk=>?_;rw[es];exact⟨.int _,H,I.kept (t':=tk) hk,⟨t',rfl⟩,q⟩
 .obtain⟨Zr,rv,pl,hz⟩:=I.tuple hq;obtain⟨zs,ez,es⟩:=go Zr rv;have ht:s.heap.IsTuple p Zr.toArray:=pl;refine PySem.W.ktm_sumG (I.ok.hd hc) (ez▸ht) fun h' tk t' hk=>?_;rw[es];exact⟨.int _,H,I.kept (t':=tk) hk,⟨t',rfl⟩,q⟩
end
section
open PySem.W
variable{prog:Program}{w:World}{A:Around}{E:Value->Shared->Prop}{s:Shared}
end
section
variable{X:Cx}
end
end L2
namespace Srt
open PySem PyProof.Rows
def fj:Bool->Keyed->Array Keyed->Nat->Nat->Nat->StateT SortSt Sem (Option Nat):=sortPriv% PySem.Builtin.gallop
section
variable{prog:Program}{w:World}{A:Around}{E:Value->Shared->Prop}{s:Shared}{κ:PyProof.Rows.KeyKind}
def GR(prog:Program)(w:World)(A:Around)(E:Value->Shared->Prop)(s:Shared)(κ:PyProof.Rows.KeyKind)(st:SortSt):Prop:=
 ∀(x y:Keyed) (a b:κ.α) (Q:Option Bool->SortSt->Prop),κ.keyOf x.1=some a->κ.keyOf y.1=some b->Q (some (κ.blt a b)) st->wpS (model prog w) A E s (lt' x y) Q st
theorem bj{arr:Array Keyed}{i:Nat}{p:Keyed}{Q:Keyed->SortSt->Prop}{st:SortSt}(e:arr[i]?=some p)(h:Q p st):wpS (model prog w) A E s (elem' arr i) Q st:=by
 rw[elem'_eq,e];exact wpS_pure h
def bey(κ:PyProof.Rows.KeyKind)(left:Bool)(k:κ.α)(x:κ.α):Bool:=if left then κ.blt x k else !(κ.blt k x)
theorem dF{left:Bool}{key:Keyed}{arr:Array Keyed}{b n h:Nat}{Q:Option Nat->SortSt->Prop}{st:SortSt}{kk:κ.α}(hL:GR prog w A E s κ st)(hk:κ.keyOf key.1=some kk)(hn:h<n)
  (f7:∀i,i<n->∃p a,arr[b+i]?=some p/\κ.keyOf p.1=some a/\KK κ arr (b+i)=a) (hm:∀i j,i<=j->j<n->bey κ left kk (KK κ arr (b+j))=true->bey κ left kk (KK κ arr (b+i))=true)
  (q:∀k,k<=n->(∀i,i<k->bey κ left kk (KK κ arr (b+i))=true)->(∀i,k<=i->i<n->bey κ left kk (KK κ arr (b+i))=false)->Q (some k) st):
  wpS (model prog w) A E s (fj left key arr b n h) Q st:=by
 have gp:∀(i:Nat) (R:Option Bool->SortSt->Prop),i<n->R (some (bey κ left kk (KK κ arr (b+i)))) st->wpS (model prog w) A E s (do
   let x <-elem' arr (b+i)
   if left=true then lt' x key else do
    let r <-lt' key x
    pure (Option.map (fun x=>!x) r)) R st:=fun i R hi hR=>by
  obtain⟨p,a,e1,e2,e3⟩:=f7 i hi;refine wpS_bind (bj e1 ?_);unfold bey at hR;rw[e3]at hR
  cases left with
  |true=>
   rw[zAv rfl];exact hL _ _ _ _ _ e2 hk hR
  |false=>
   rw[zAu Zx];exact wpS_bind (hL _ _ _ _ _ hk e2 (wpS_pure hR))
 generalize K8:(fun i=>bey κ left kk (KK κ arr (b+i)))=β
 have BM:∀i,bey κ left kk (KK κ arr (b+i))=β i:=fun i=>by rw[<-K8]
 simp only[BM]at gp hm q
 delta fj
 refine wpS_bind (gp h _ hn ?_)
 cases e0:β h with
 |true=>
  dsimp only;rw[if_pos rfl]
  refine wpS_bind (wpS_mono (wpS_forRange (I:=fun x c Zq=>Zq=st/\c.1=none/\c.2.1<c.2.2/\c.2.1<n-h/\x<c.2.2/\β (h+c.2.1)=true)
   (Q:=fun c Zq=>Zq=st/\c.1=none/\c.2.1<c.2.2/\c.2.1<n-h/\β (h+c.2.1)=true/\(c.2.2≥n-h\/(c.2.2<n-h/\β (h+c.2.2)=false))) ?_ ?_ ⟨rfl,rfl,(by show 0<1;decide),(by show 0<n-h;lia),(by show 0<1;decide),(show β (h+0)=true from e0)⟩) ?_)
  .rintro x ⟨c0,l,o⟩ Zq _ hx ⟨rfl,rfl,g1,g2,g3,g4⟩;dsimp only at g1 g2 g3 g4⊢;by_cases ho:o≥n-h
   .rw[zAv ho];exact wpS_pure ⟨rfl,rfl,g1,g2,g4,.inl ho⟩
   .rw[zAu ho];refine wpS_bind (gp (h+o) _ Zz ?_)
    cases eb:β (h+o)with
    |true=>
     dsimp only;rw[if_neg Zx];exact wpS_pure ⟨rfl,rfl,by dsimp only;lia,by dsimp only;lia,by dsimp only;lia,eb⟩
    |false=>
     dsimp only;rw[if_pos Zx];exact wpS_pure ⟨rfl,rfl,g1,g2,g4,.inr ⟨by dsimp only;lia,eb⟩⟩
  .rintro⟨c0,l,o⟩ Zq ⟨rfl,rfl,g1,g2,g3,g4⟩;dsimp only at g1 g2 g3 g4⊢;exact⟨rfl,rfl,g1,g2,g4,.inl Zz⟩
  .rintro⟨c0,l,o⟩ Zq ⟨rfl,rfl,g1,g2,g4,g5⟩;dsimp only at g1 g2 g4 g5⊢
   have w4:∀i,h+min o (n-h)<=i->i<n->β i=false:=fun i hi fm=>by
    rcases g5 with g5|⟨g5,g6⟩
    .lia
    .cases e2:β i with
     |false=>rfl
     |true=>
      have:=hm (h+o) i Zz fm e2;rw[g6]at this;cases this
   obtain⟨lo,cy⟩:∃lo,lo=h+l+1:=⟨_,rfl⟩
   obtain⟨hi,gE⟩:∃hi,hi=h+min o (n-h):=⟨_,rfl⟩
   have w1:lo<=hi:=Zz
   have w2:hi<=n:=Zz
   have w3:∀i,i<lo->β i=true:=fun i hi=>hm i (h+l) Zz Zz g4;have w4:∀i,hi<=i->i<n->β i=false:=by rw[gE];exact w4
   rw[<-cy,<-gE]
   refine wpS_bind (wpS_mono (wpS_forRange (I:=fun x c cb=>cb=Zq/\c.1=none/\c.2.1<=c.2.2/\c.2.2<=n/\c.2.2-c.2.1<=n-x/\(∀i,i<c.2.1->β i=true)/\(∀i,c.2.2<=i->i<n->β i=false))
    (Q:=fun c cb=>cb=Zq/\c.1=none/\c.2.2<=n/\(∀i,i<c.2.2->β i=true)/\(∀i,c.2.2<=i->i<n->β i=false)) ?_ ?_ ⟨rfl,rfl,w1,w2,(by show hi-lo<=n-0;lia),w3,w4⟩) ?_)
   .rintro x ⟨c0,l,r⟩ cb _ hx ⟨rfl,rfl,g1,g2,g3,g4,g5⟩;dsimp only at g1 g2 g3 g4 g5⊢;by_cases gs:l≥r
    .rw[zAv gs];have e:l=r:=Zz
     exact wpS_pure ⟨rfl,rfl,g2,by rw[<-e];exact g4,g5⟩
    .rw[zAu gs];refine wpS_bind (gp (l+(r-l) / 2) _ Zz ?_)
     cases eb:β (l+(r-l) / 2)with
     |true=>
      dsimp only;rw[if_pos rfl];exact wpS_pure ⟨rfl,rfl,by dsimp only;lia,g2,by dsimp only;lia,fun i hi=>hm i _ (by dsimp only at hi;lia) Zz eb,g5⟩
     |false=>
      dsimp only;rw[if_neg Zx];refine wpS_pure ⟨rfl,rfl,by dsimp only;lia,by dsimp only;lia,by dsimp only;lia,g4,fun i hi fm=>?_⟩
      cases e2:β i with
      |false=>rfl
      |true=>
       have:=hm (l+(r-l) / 2) i hi fm e2;rw[eb]at this;cases this
   .rintro⟨c0,l,r⟩ cb ⟨rfl,rfl,g1,g2,g3,g4,g5⟩;dsimp only at g1 g2 g3 g4 g5⊢;have e:l=r:=Zz
    exact⟨rfl,rfl,g2,by rw[<-e];exact g4,g5⟩
   .rintro⟨c0,l,r⟩ cb ⟨rfl,rfl,g1,g2,g3⟩;exact wpS_pure (q _ g1 g2 g3)
 |false=>
  dsimp only;rw[if_neg Zx]
  refine wpS_bind (wpS_mono (wpS_forRange (I:=fun x c Zq=>Zq=st/\c.1=none/\c.2.1<c.2.2/\c.2.1<h+1/\x<c.2.2/\β (h-c.2.1)=false)
   (Q:=fun c Zq=>Zq=st/\c.1=none/\c.2.1<c.2.2/\c.2.1<h+1/\β (h-c.2.1)=false/\(c.2.2≥h+1\/(c.2.2<h+1/\β (h-c.2.2)=true))) ?_ ?_ ⟨rfl,rfl,(by show 0<1;decide),(by show 0<h+1;lia),(by show 0<1;decide),(show β (h-0)=false from e0)⟩) ?_)
  .rintro x ⟨c0,l,o⟩ Zq _ hx ⟨rfl,rfl,g1,g2,g3,g4⟩;dsimp only at g1 g2 g3 g4⊢;by_cases ho:o≥h+1
   .rw[zAv ho];exact wpS_pure ⟨rfl,rfl,g1,g2,g4,.inl ho⟩
   .rw[zAu ho];refine wpS_bind (gp (h-o) _ Zz ?_)
    cases eb:β (h-o)with
    |false=>
     dsimp only;rw[if_neg Zx];exact wpS_pure ⟨rfl,rfl,by dsimp only;lia,by dsimp only;lia,by dsimp only;lia,eb⟩
    |true=>
     dsimp only;rw[if_pos rfl];exact wpS_pure ⟨rfl,rfl,g1,g2,g4,.inr ⟨by dsimp only;lia,eb⟩⟩
  .rintro⟨c0,l,o⟩ Zq ⟨rfl,rfl,g1,g2,g3,g4⟩;dsimp only at g1 g2 g3 g4⊢;exact⟨rfl,rfl,g1,g2,g4,.inl Zz⟩
  .rintro⟨c0,l,o⟩ Zq ⟨rfl,rfl,g1,g2,g4,g5⟩;dsimp only at g1 g2 g4 g5⊢
   have w3:∀i,i<h+1-min o (h+1)->β i=true:=fun i hi=>by
    rcases g5 with g5|⟨g5,g6⟩
    .lia
    .exact hm i (h-o) Zz Zz g6
   have w4:∀i,h-l<=i->i<n->β i=false:=fun i hi fm=>by
    cases e2:β i with
    |false=>rfl
    |true=>
     have:=hm (h-l) i hi fm e2;rw[g4]at this;cases this
   obtain⟨lo,cy⟩:∃lo,lo=h+1-min o (h+1):=⟨_,rfl⟩
   obtain⟨hi,gE⟩:∃hi,hi=h-l:=⟨_,rfl⟩
   have w1:lo<=hi:=Zz
   have w2:hi<=n:=Zz
   have w3:∀i,i<lo->β i=true:=by rw[cy];exact w3
   have w4:∀i,hi<=i->i<n->β i=false:=by rw[gE];exact w4
   rw[<-cy,<-gE]
   refine wpS_bind (wpS_mono (wpS_forRange (I:=fun x c cb=>cb=Zq/\c.1=none/\c.2.1<=c.2.2/\c.2.2<=n/\c.2.2-c.2.1<=n-x/\(∀i,i<c.2.1->β i=true)/\(∀i,c.2.2<=i->i<n->β i=false))
    (Q:=fun c cb=>cb=Zq/\c.1=none/\c.2.2<=n/\(∀i,i<c.2.2->β i=true)/\(∀i,c.2.2<=i->i<n->β i=false)) ?_ ?_ ⟨rfl,rfl,w1,w2,(by show hi-lo<=n-0;lia),w3,w4⟩) ?_)
   .rintro x ⟨c0,l,r⟩ cb _ hx ⟨rfl,rfl,g1,g2,g3,g4,g5⟩;dsimp only at g1 g2 g3 g4 g5⊢;by_cases gs:l≥r
    .rw[zAv gs];have e:l=r:=Zz
     exact wpS_pure ⟨rfl,rfl,g2,by rw[<-e];exact g4,g5⟩
    .rw[zAu gs];refine wpS_bind (gp (l+(r-l) / 2) _ Zz ?_)
     cases eb:β (l+(r-l) / 2)with
     |true=>
      dsimp only;rw[if_pos rfl];exact wpS_pure ⟨rfl,rfl,by dsimp only;lia,g2,by dsimp only;lia,fun i hi=>hm i _ (by dsimp only at hi;lia) Zz eb,g5⟩
     |false=>
      dsimp only;rw[if_neg Zx];refine wpS_pure ⟨rfl,rfl,by dsimp only;lia,by dsimp only;lia,by dsimp only;lia,g4,fun i hi fm=>?_⟩
      cases e2:β i with
      |false=>rfl
      |true=>
       have:=hm (l+(r-l) / 2) i hi fm e2;rw[eb]at this;cases this
   .rintro⟨c0,l,r⟩ cb ⟨rfl,rfl,g1,g2,g3,g4,g5⟩;dsimp only at g1 g2 g3 g4 g5⊢;have e:l=r:=Zz
    exact⟨rfl,rfl,g2,by rw[<-e];exact g4,g5⟩
   .rintro⟨c0,l,r⟩ cb ⟨rfl,rfl,g1,g2,g3⟩;exact wpS_pure (q _ g1 g2 g3)
end
abbrev Sm:=StateT SortSt Sem
def xY(lo a m:Nat):Sm AscSt:=
 forIn [a:m] ((none,a):AscSt) fun _ c=>do
  let x <-ltAt' (lo+c.snd) (lo+c.snd-1)
  match x with
  |some b=>if b=true then pure (ForInStep.done (none,c.snd))else pure (ForInStep.yield (none,c.snd+1))
  |_=>pure (ForInStep.done (some none,c.snd))
def oJ(lo n m:Nat):Sm (Option Nat):=do
 reverseSlice' lo (lo+n)
 let c <-xY lo n m
 match c.fst with
 |some r=>pure r
 |none=>pure (some c.snd)
def vM(lo n m:Nat):Sm DescSt:=
 forIn [n:m] ((none,n,0):DescSt) fun _ c=>do
  let x <-ltAt' (lo+c.snd.fst) (lo+c.snd.fst-1)
  match x with
  |some b=>
   if b=true then
    if c.snd.snd>0 then do
     reverseSlice' (lo+c.snd.fst-(c.snd.snd+1)) (lo+c.snd.fst)
     pure (ForInStep.yield (none,c.snd.fst+1,0))
    else pure (ForInStep.yield (none,c.snd.fst+1,0))
   else do
    let y <-ltAt' (lo+c.snd.fst-1) (lo+c.snd.fst)
    match y with
    |some d=>
     if d=true then pure (ForInStep.done (none,c.snd.fst,c.snd.snd))
     else pure (ForInStep.yield (none,c.snd.fst+1,c.snd.snd+1))
    |_=>pure (ForInStep.done (some none,c.snd.fst,c.snd.snd))
  |_=>pure (ForInStep.done (some none,c.snd.fst,c.snd.snd))
def oK(lo n m:Nat):Sm (Option Nat):=do
 liftM (rule "list.sort.descending-run")
 let c <-vM lo (n+1) m
 match c.fst with
 |some r=>pure r
 |none=>
  if c.snd.snd>0 then do
   reverseSlice' (lo+c.snd.fst-(c.snd.snd+1)) (lo+c.snd.fst)
   oJ lo c.snd.fst m
  else oJ lo c.snd.fst m
theorem bc{α β:Type}{m m':Sm α}{f f':α->Sm β}(h:m=m')(h':f=f'):(m>>=f)=(m'>>=f'):=by rw[h,h']
theorem xZ(lo m:Nat):countRun' lo m=(do
  let c <-xY lo 1 m
  match c.fst with
  |some r=>pure r
  |none=>
   if(c.snd==m)=true then pure (some c.snd)
   else if c.snd>1 then do
    let x <-ltAt' lo (lo+c.snd-1)
    match x with
    |some b=>if b=true then pure (some c.snd)else do
      reverseSlice' lo (lo+c.snd)
      oK lo c.snd m
    |_=>pure none
   else oK lo c.snd m):=by
 rw[countRun'_eq]
 have tl:∀n:Nat,((do
   reverseSlice' lo (lo+n)
   let mut n:=n
   for _ in[n:m]do
    let some smaller <-ltAt' (lo+n) (lo+n-1)|return none
    if smaller then break
    n:=n+1
   return some n):Sm (Option Nat))=oJ lo n m:=fun n=>by
  unfold oJ xY;refine bc rfl (funext fun u=>bc rfl (funext fun c=>?_));obtain⟨r,n⟩:=c;cases r<;>rfl
 have pl:∀n:Nat,((do
   rule "list.sort.descending-run"
   let mut n:=n+1
   let mut neq:=0
   for _ in[n:m]do
    let some smaller <-ltAt' (lo+n) (lo+n-1)|return none
    if smaller then
     if neq>0 then reverseSlice' (lo+n-(neq+1)) (lo+n)
     neq:=0
    else
     let some larger <-ltAt' (lo+n-1) (lo+n)|return none
     if larger then break
     neq:=neq+1
    n:=n+1
   if neq>0 then reverseSlice' (lo+n-(neq+1)) (lo+n)
   reverseSlice' lo (lo+n)
   for _ in[n:m]do
    let some smaller <-ltAt' (lo+n) (lo+n-1)|return none
    if smaller then break
    n:=n+1
   return some n):Sm (Option Nat))=oK lo n m:=fun n=>by
  unfold oK vM;refine bc rfl (funext fun u=>bc rfl (funext fun c=>?_));obtain⟨r,n2,q2⟩:=c
  cases r with
  |some r=>rfl
  |none=>
   dsimp only;split
   .exact bc rfl (funext fun u=>tl n2)
   .exact tl n2
 unfold xY;refine bc rfl (funext fun c=>?_);obtain⟨r,n⟩:=c
 cases r with
 |some r=>rfl
 |none=>
  dsimp only;split
  .rfl
  .split
   .refine bc rfl (funext fun x=>?_)
    cases x with
    |none=>rfl
    |some b=>
     dsimp only;split
     .rfl
     .exact bc rfl (funext fun u=>pl n)
   .exact pl n
structure SB(ks:SortKind)(ae:Array Keyed)(st:SortSt):Prop where
 kind:kindOf st=ks
 ok:failedOf st=none
 pm:(arrOf st).Perm ae
def Seg(κ:PyProof.Rows.KeyKind)(xs:Array Keyed)(a b:Nat):Prop:=∀i j,a<=i->i<=j->j<b->κ.kle (KK κ xs i) (KK κ xs j)
def Non(κ:PyProof.Rows.KeyKind)(xs:Array Keyed)(a b:Nat):Prop:=∀i j,a<=i->i<=j->j<b->κ.kle (KK κ xs j) (KK κ xs i)
structure Out(st Zq:SortSt)(a b:Nat):Prop where
 out:∀k,(k<a\/b<=k)->(arrOf Zq)[k]?=(arrOf st)[k]?
 pend:pendingOf Zq=pendingOf st
theorem Out.refl(st:SortSt)(a b:Nat):Out st st a b:=⟨fun _ _=>rfl,rfl⟩
theorem Out.trans{st eR st2:SortSt}{a b:Nat}(h:Out st eR a b)(h':Out eR st2 a b):Out st st2 a b:=⟨fun k hk=>(h'.out k hk).trans (h.out k hk),h'.pend.trans h.pend⟩
section
variable{prog:Program}{w:World}{A:Around}{E:Value->Shared->Prop}{s:Shared}{κ:PyProof.Rows.KeyKind}{ks:SortKind}{ae:Array Keyed}
def LtAll(prog:Program)(w:World)(A:Around)(E:Value->Shared->Prop)(s:Shared)(κ:PyProof.Rows.KeyKind)(ks:SortKind):Prop:=∀st,kindOf st=ks->GR prog w A E s κ st
theorem SB.size{st:SortSt}(B:SB ks ae st):(arrOf st).size=ae.size:=B.pm.size_eq
theorem SB.item{st:SortSt}(B:SB ks ae st)(h0:KeysOf κ ae){i:Nat}(hi:i<ae.size):∃p a,(arrOf st)[i]?=some p/\κ.keyOf p.1=some a/\KK κ (arrOf st) i=a:=by
 have gz:i<(arrOf st).size:=by rw[B.size];exact hi
 have e:(arrOf st)[i]?=some (arrOf st)[i]:=Array.getElem?_eq_getElem gz;have hm:(arrOf st)[i]∈ae.toList:=(Array.perm_iff_toList_perm.mp B.pm).mem_iff.mp (Array.mem_toList_iff.mpr (Array.getElem_mem gz));obtain⟨a,ha⟩:=h0 _ hm;refine⟨_,a,e,ha,?_⟩;unfold KK;rw[e];dsimp only;rw[ha];rfl
theorem SB.arr{st:SortSt}(B:SB ks ae st){xs:Array Keyed}(h:xs.Perm (arrOf st)):SB ks ae (setArr st xs):=⟨B.kind,B.ok,h.trans B.pm⟩
theorem ltA(hL:LtAll prog w A E s κ ks){st:SortSt}{i j:Nat}{Q:Option Bool->SortSt->Prop}(B:SB ks ae st)(h0:KeysOf κ ae)(hi:i<ae.size)(hj:j<ae.size)(h:Q (some (κ.blt (KK κ (arrOf st) i) (KK κ (arrOf st) j))) st):
  wpS (model prog w) A E s (ltAt' i j) Q st:=by
 obtain⟨p,a,e1,ka,ea⟩:=B.item (κ:=κ) h0 hi;obtain⟨q,b,e2,kb,eb⟩:=B.item (κ:=κ) h0 hj;rw[ea,eb]at h;rw[ltAt'_eq];refine wpS_bind (wpS_get (wpS_bind (bj e1 (wpS_bind (bj e2 ?_)))));exact hL st B.kind p q a b Q ka kb h
theorem qz{st:SortSt}{i j:Nat}{Q:Unit->SortSt->Prop}(h:Q () (setArr st (mirror (arrOf st) i j ((j-i) / 2)))):wpS (model prog w) A E s (reverseSlice' i j) Q st:=wpS_reverse h
theorem Out.rev{st:SortSt}{i j a b:Nat}(hj:j<=(arrOf st).size)(h1:a<=i)(h2:j<=b):Out st (setArr st (mirror (arrOf st) i j ((j-i) / 2))) a b:=by
 refine⟨fun k hk=>?_,rfl⟩;show(mirror (arrOf st) i j ((j-i) / 2))[k]?=_;rw[getElem?_mirror_all hj,zAu Zz]
theorem vN(hL:LtAll prog w A E s κ ks)(h0:KeysOf κ ae){st:SortSt}{lo a m:Nat}{Q:AscSt->SortSt->Prop}(hn:lo+m<=ae.size)(ha:1<=a)(K9:a<=m)(B:SB ks ae st)(hs:Seg κ (arrOf st) lo (lo+a))
  (h:∀n,a<=n->n<=m->Seg κ (arrOf st) lo (lo+n)->(n=m\/κ.klt (KK κ (arrOf st) (lo+n)) (KK κ (arrOf st) (lo+n-1)))->Q (none,n) st):wpS (model prog w) A E s (xY lo a m) Q st:=by
 unfold xY;refine wpS_forRange (I:=fun x c Zq=>Zq=st/\c=(none,x)/\Seg κ (arrOf st) lo (lo+x)) ?_ ?_ ⟨rfl,rfl,hs⟩
 .rintro x c Zq BN La ⟨rfl,rfl,bP⟩;dsimp only;refine wpS_bind (ltA hL B h0 Zz Zz ?_)
  cases e:κ.blt (KK κ (arrOf Zq) (lo+x)) (KK κ (arrOf Zq) (lo+x-1))with
  |true=>
   dsimp only;rw[if_pos rfl];exact wpS_pure (h x BN Zz bP (.inr e))
  |false=>
   dsimp only;rw[if_neg Zx];refine wpS_pure ⟨rfl,rfl,fun i j hi bE hj=>?_⟩;by_cases uj:j<lo+x
   .exact bP i j hi bE uj
   .have ej:j=lo+x:=Zz
    subst ej;by_cases ei:i=lo+x
    .rw[ei];exact KeyOrd.kle_refl _
    .exact KeyOrd.kle_trans (bP i (lo+x-1) hi Zz Zz) e
 .rintro c Zq ⟨rfl,rfl,bP⟩;rw[show max a m=m by lia]at bP⊢;exact h m K9 (zA3 _) bP (.inl rfl)
theorem sS(hL:LtAll prog w A E s κ ks)(h0:KeysOf κ ae){st:SortSt}{lo n m:Nat}{Q:Option Nat->SortSt->Prop}(hn:lo+m<=ae.size)(h1:1<=n)(kB:n<=m)(B:SB ks ae st)(hs:Non κ (arrOf st) lo (lo+n))
  (h:∀k Zq,SB ks ae Zq->Out st Zq lo (lo+m)->1<=k->k<=m->Seg κ (arrOf Zq) lo (lo+k)->Q (some k) Zq):wpS (model prog w) A E s (oJ lo n m) Q st:=by
 unfold oJ;have hsz:lo+n<=(arrOf st).size:=by rw[B.size];lia
 refine wpS_bind (qz ?_);have B':=B.arr (mirror_perm (arrOf st) lo (lo+n) ((lo+n-lo) / 2));refine wpS_bind (vN hL h0 hn h1 kB B' ?_ fun k Qz uk Lb _=>wpS_pure (h k _ B' (Out.rev hsz (zA3 _) Zz) Zz uk Lb));intro i j hi bE hj;show κ.kle (KK κ (mirror (arrOf st) lo (lo+n) ((lo+n-lo) / 2)) i) (KK κ (mirror (arrOf st) lo (lo+n) ((lo+n-lo) / 2)) j);rw[KK_mirror hsz,KK_mirror hsz,zAv Zz,zAv Zz];exact hs _ _ Zz Zz Zz
theorem zz(hL:LtAll prog w A E s κ ks)(h0:KeysOf κ ae){st:SortSt}{lo n m:Nat}{Q:DescSt->SortSt->Prop}(hn:lo+m<=ae.size)(h1:1<=n)(kB:n<=m)(B:SB ks ae st)(hs:Non κ (arrOf st) lo (lo+n))
  (h:∀k q Zq,SB ks ae Zq->Out st Zq lo (lo+m)->n<=k->k<=m->Non κ (arrOf Zq) lo (lo+k)->q+1<=k->(∀i,lo+k-(q+1)<=i->i<lo+k->KK κ (arrOf Zq) i=KK κ (arrOf Zq) (lo+k-1))->Q (none,k,q) Zq):
  wpS (model prog w) A E s (vM lo n m) Q st:=by
 unfold vM
 refine wpS_forRange (I:=fun x c Zq=>∃q,c=(none,x,q)/\SB ks ae Zq/\Out st Zq lo (lo+m)/\Non κ (arrOf Zq) lo (lo+x)/\q+1<=x/\(∀i,lo+x-(q+1)<=i->i<lo+x->KK κ (arrOf Zq) i=KK κ (arrOf Zq) (lo+x-1))) ?_ ?_
  ⟨0,rfl,B,Out.refl _ _ _,hs,Zz,fun i z1 z2=>by congr 1;lia⟩
 .rintro x c Zq BN La ⟨q,rfl,B',O',bP,hq,he⟩;dsimp only;have hsz:lo+x<=(arrOf Zq).size:=by rw[B'.size];lia
  refine wpS_bind (ltA hL B' h0 Zz Zz ?_)
  cases e:κ.blt (KK κ (arrOf Zq) (lo+x)) (KK κ (arrOf Zq) (lo+x-1))with
  |true=>
   dsimp only;rw[if_pos rfl]
   have more:∀xs:Array Keyed,(∀k,KK κ xs k=KK κ (arrOf Zq) k)->Non κ xs lo (lo+(x+1)):=fun xs hk i j hi bE hj=>by
    rw[hk,hk];by_cases uj:j<lo+x
    .exact bP i j hi bE uj
    .have ej:j=lo+x:=Zz
     subst ej;by_cases ei:i=lo+x
     .rw[ei];exact KeyOrd.kle_refl _
     .exact KeyOrd.kle_trans (KeyOrd.kle_of_klt e) (bP i (lo+x-1) hi Zz Zz)
   by_cases uu:q>0
   .rw[zAv uu];refine wpS_bind (qz (wpS_pure ⟨0,rfl,B'.arr (mirror_perm _ _ _ _),O'.trans (Out.rev hsz Zz Zz),more _ (KK_mirror_equal hsz he),Zz,fun i z1 z2=>by congr 1;lia⟩))
   .rw[zAu uu];exact wpS_pure ⟨0,rfl,B',O',more _ (fun _=>rfl),Zz,fun i z1 z2=>by congr 1;lia⟩
  |false=>
   dsimp only;rw[if_neg Zx];refine wpS_bind (ltA hL B' h0 Zz Zz ?_)
   cases e2:κ.blt (KK κ (arrOf Zq) (lo+x-1)) (KK κ (arrOf Zq) (lo+x))with
   |true=>
    dsimp only;rw[if_pos rfl];exact wpS_pure (h x q Zq B' O' BN Zz bP hq he)
   |false=>
    dsimp only;rw[if_neg Zx];have ex:KK κ (arrOf Zq) (lo+x)=KK κ (arrOf Zq) (lo+x-1):=KeyOrd.kle_antisymm e2 e;refine wpS_pure ⟨q+1,rfl,B',O',fun i j hi bE hj=>?_,Zz,fun i z1 z2=>?_⟩
    .by_cases uj:j<lo+x
     .exact bP i j hi bE uj
     .have ej:j=lo+x:=Zz
      subst ej;by_cases ei:i=lo+x
      .rw[ei];exact KeyOrd.kle_refl _
      .rw[ex];exact bP i (lo+x-1) hi Zz Zz
    .rw[show lo+(x+1)-1=lo+x by lia];by_cases ei:i=lo+x
     .rw[ei]
     .rw[ex];exact he i Zz Zz
 .rintro c Zq ⟨q,rfl,B',O',bP,hq,he⟩;rw[show max n m=m by lia]at bP hq he⊢;exact h m q Zq B' O' kB (zA3 _) bP hq he
theorem sU(hL:LtAll prog w A E s κ ks)(h0:KeysOf κ ae){st:SortSt}{lo n m:Nat}{Q:Option Nat->SortSt->Prop}(hn:lo+m<=ae.size)(kB:n+1<=m)(B:SB ks ae st)(hs:Non κ (arrOf st) lo (lo+(n+1)))
  (h:∀k Zq,SB ks ae Zq->Out st Zq lo (lo+m)->1<=k->k<=m->Seg κ (arrOf Zq) lo (lo+k)->Q (some k) Zq):wpS (model prog w) A E s (oK lo n m) Q st:=by
 unfold oK;refine wpS_bind (wpS_lift (wpAny_rule ⟨rfl,?_⟩));refine wpS_bind (zz hL h0 hn Zz kB B hs fun k q Zq B' O' k1 k2 bP hq he=>?_);dsimp only;have hsz:lo+k<=(arrOf Zq).size:=by rw[B'.size];lia
 by_cases uu:q>0
 .rw[zAv uu];refine wpS_bind (qz (sS hL h0 hn Zz k2 (B'.arr (mirror_perm _ _ _ _)) ?_ fun k' st2 B2 O2=>h k' st2 B2 ((O'.trans (Out.rev hsz Zz Zz)).trans O2)));intro i j hi bE hj;show κ.kle (KK κ (mirror (arrOf Zq) _ _ _) j) (KK κ (mirror (arrOf Zq) _ _ _) i);rw[KK_mirror_equal hsz he,KK_mirror_equal hsz he];exact bP i j hi bE hj
 .rw[zAu uu];exact sS hL h0 hn Zz k2 B' bP fun k' st2 B2 O2=>h k' st2 B2 (O'.trans O2)
theorem zF(hL:LtAll prog w A E s κ ks)(h0:KeysOf κ ae){st:SortSt}{lo m:Nat}{Q:Option Nat->SortSt->Prop}(hn:lo+m<=ae.size)(h1:1<=m)(B:SB ks ae st)
  (h:∀k Zq,SB ks ae Zq->Out st Zq lo (lo+m)->1<=k->k<=m->Seg κ (arrOf Zq) lo (lo+k)->Q (some k) Zq):wpS (model prog w) A E s (countRun' lo m) Q st:=by
 rw[xZ];refine wpS_bind (vN hL h0 hn (zA3 1) h1 B (fun i j hi bE hj=>by have:i=j:=Zz;rw[this];exact KeyOrd.kle_refl _) fun n n1 n2 ze Lc=>?_);dsimp only;by_cases kB:n=m
 .rw[if_pos (by simpa using kB)];exact wpS_pure (h n st B (Out.refl _ _ _) n1 n2 ze)
 .rw[if_neg (by simpa using kB)];have aI:=Lc.resolve_left kB;by_cases GV:n>1
  .rw[zAv GV];refine wpS_bind (ltA hL B h0 Zz Zz ?_)
   cases e:κ.blt (KK κ (arrOf st) lo) (KK κ (arrOf st) (lo+n-1))with
   |true=>
    dsimp only;rw[if_pos rfl];exact wpS_pure (h n st B (Out.refl _ _ _) n1 n2 ze)
   |false=>
    dsimp only;rw[if_neg Zx];have hsz:lo+n<=(arrOf st).size:=by rw[B.size];lia
    have cK:∀k,lo<=k->k<lo+n->KK κ (arrOf st) k=KK κ (arrOf st) (lo+n-1):=fun k qB hk=>by
     have a1:=ze lo k (zA3 _) qB hk;have a2:=ze k (lo+n-1) qB Zz Zz;exact KeyOrd.kle_antisymm a2 (KeyOrd.kle_trans e a1)
    refine wpS_bind (qz (sU hL h0 hn Zz (B.arr (mirror_perm _ _ _ _)) ?_ fun k st2 B2 O2=>h k st2 B2 ((Out.rev hsz (zA3 _) Zz).trans O2)));intro i j hi bE hj;show κ.kle (KK κ (mirror (arrOf st) _ _ _) j) (KK κ (mirror (arrOf st) _ _ _) i);rw[KK_mirror_equal hsz cK,KK_mirror_equal hsz cK];by_cases Ld:j<lo+n
    .rw[cK i hi Zz,cK j Zz Ld];exact KeyOrd.kle_refl _
    .have ej:j=lo+n:=Zz
     subst ej;by_cases ei:i=lo+n
     .rw[ei];exact KeyOrd.kle_refl _
     .rw[cK i hi Zz];exact KeyOrd.kle_of_klt aI
  .rw[zAu GV];have e1:n=1:=Zz
   subst e1;refine sU hL h0 hn Zz B ?_ h;intro i j hi bE hj;by_cases ei:i=j
   .rw[ei];exact KeyOrd.kle_refl _
   .have i0:i=lo:=Zz
    have j1:j=lo+1:=Zz
    rw[i0,j1];exact KeyOrd.kle_of_klt aI
theorem Fx(hL:LtAll prog w A E s κ ks)(h0:KeysOf κ ae){st:SortSt}{lo n ok:Nat}{Q:Bool->SortSt->Prop}(hn:lo+n<=ae.size)(hok:ok<=n)(B:SB ks ae st)(hs:Seg κ (arrOf st) lo (lo+ok))
  (h:∀Zq,SB ks ae Zq->Out st Zq lo (lo+n)->Seg κ (arrOf Zq) lo (lo+n)->Q true Zq):wpS (model prog w) A E s (binarySort' lo n ok) Q st:=by
 rw[binarySort'_eq]
 refine wpS_bind (wpS_mono (wpS_forRange (I:=fun k c Zq=>c=(none,())/\SB ks ae Zq/\Out st Zq lo (lo+n)/\Seg κ (arrOf Zq) lo (lo+min k n))
  (Q:=fun c Zq=>c=(none,())/\SB ks ae Zq/\Out st Zq lo (lo+n)/\Seg κ (arrOf Zq) lo (lo+n)) ?_ ?_ ?_) ?_)
 .rintro k c Zq qB QA ⟨rfl,B',O',bP⟩;rw[show min k n=k by lia]at bP
  refine wpS_bind (wpS_mono (wpS_forRange (I:=fun x c st2=>st2=Zq/\∃l r,c=(none,l,r)/\l<=r/\r<=k/\r-l<=k-x/\(∀i,i<l->κ.kle (KK κ (arrOf Zq) (lo+i)) (KK κ (arrOf Zq) (lo+k)))/\(∀i,r<=i->i<k->κ.klt (KK κ (arrOf Zq) (lo+k)) (KK κ (arrOf Zq) (lo+i))))
   (Q:=fun c st2=>st2=Zq/\∃l r,c=(none,l,r)/\l<=k/\(∀i,i<l->κ.kle (KK κ (arrOf Zq) (lo+i)) (KK κ (arrOf Zq) (lo+k)))/\(∀i,l<=i->i<k->κ.klt (KK κ (arrOf Zq) (lo+k)) (KK κ (arrOf Zq) (lo+i)))) ?_ ?_ ?_) ?_)
  .rintro x c st2 _ QB ⟨rfl,l,r,rfl,gs,qE,hm,cy,gE⟩;dsimp only;by_cases lT:l≥r
   .rw[zAv lT];have e:l=r:=Zz
    subst e;exact wpS_pure ⟨rfl,l,l,rfl,qE,cy,gE⟩
   .rw[zAu lT];refine wpS_bind (ltA hL B' h0 Zz Zz ?_)
    cases e:κ.blt (KK κ (arrOf st2) (lo+k)) (KK κ (arrOf st2) (lo+(l+r) / 2))with
    |true=>
     dsimp only;rw[if_pos rfl];exact wpS_pure ⟨rfl,l,(l+r) / 2,rfl,Zz,Zz,Zz,cy,fun i z1 z2=>KeyOrd.klt_of_klt_of_kle e (bP (lo+(l+r) / 2) (lo+i) Zz Zz Zz)⟩
    |false=>
     dsimp only;rw[if_neg Zx];exact wpS_pure ⟨rfl,(l+r) / 2+1,r,rfl,Zz,Zz,Zz,fun i z1=>KeyOrd.kle_trans (bP (lo+i) (lo+(l+r) / 2) Zz Zz Zz) (show κ.kle _ _ from e),gE⟩
  .rintro c st2 ⟨rfl,l,r,rfl,gs,qE,hm,cy,gE⟩;have e:l=r:=Zz
   subst e;exact⟨rfl,l,l,rfl,qE,cy,gE⟩
  .exact⟨rfl,0,k,rfl,Zz,Zz,Zz,fun i hi=>by lia,fun i z1 z2=>by lia⟩
  .rintro c st2 ⟨rfl,l,r,rfl,qS,cy,gE⟩;show wpS _ _ _ _ (do moveDown' (lo+k) (lo+l);pure (ForInStep.yield (none,()))) _ _;rw[moveDown'_eq];have BO:lo+k<(arrOf st2).size:=by rw[B'.size];lia
   refine wpS_bind (wpS_modify (wpS_pure ⟨rfl,B'.arr (bubble_perm _ _ _),O'.trans ⟨fun z hz=>?_,rfl⟩,?_⟩))
   .show(bubble (arrOf st2) (lo+k) (lo+k-(lo+l)))[z]?=_;rw[getElem?_bubble BO _ Zz,zAu Zz,zAu Zz]
   .rw[show min (k+1) n=k+1 by lia];intro i j hi bE hj;show κ.kle (KK κ (bubble (arrOf st2) (lo+k) (lo+k-(lo+l))) i) (KK κ (bubble (arrOf st2) (lo+k) (lo+k-(lo+l))) j);rw[KK_bubble BO Zz,KK_bubble BO Zz,show lo+k-(lo+k-(lo+l))=lo+l by lia]
    have BQ:∀z,lo<=z->z<lo+l->κ.kle (KK κ (arrOf st2) z) (KK κ (arrOf st2) (lo+k)):=fun z z1 z2=>by
     have:=cy (z-lo) Zz;rw[show lo+(z-lo)=z by lia]at this;exact this
    have BU:∀z,lo+l<=z->z<lo+k->κ.kle (KK κ (arrOf st2) (lo+k)) (KK κ (arrOf st2) z):=fun z z1 z2=>by
     have:=gE (z-lo) Zz Zz;rw[show lo+(z-lo)=z by lia]at this;exact KeyOrd.kle_of_klt this
    repeat' split
    all_goals first
     | (exfalso;lia)
     |exact KeyOrd.kle_refl _
     |exact BQ _ Zz Zz
     |exact BU _ Zz Zz
     |exact bP _ _ Zz Zz Zz
 .rintro c Zq ⟨hc,B',O',bP⟩;refine⟨hc,B',O',?_⟩
  rwa [show min (max (max ok 1) n) n=n by lia]at bP
 .refine⟨rfl,B,Out.refl _ _ _,fun i j hi bE hj=>?_⟩;by_cases z:ok=0
  .have e:i=j:=Zz
   rw[e];exact KeyOrd.kle_refl _
  .exact hs i j hi bE Zz
 .rintro c Zq ⟨rfl,B',O',bP⟩;exact wpS_pure (h Zq B' O' bP)
end
section
variable{α:Type}{le:α->α->Prop}
structure MI(le:α->α->Prop)(la lb lo:List α)(ia ib:Nat):Prop where
 pm:lo.Perm (la.take ia++lb.take ib)
 sr:lo.Pairwise le
 be:∀x∈lo,∀y,y∈la.drop ia\/y∈lb.drop ib->le x y
theorem gO{l:List α}{i j:Nat}{y:α}(bE:i<=j)(h:y∈l.drop j):y∈l.drop i:=by
 have:l.drop j=(l.drop i).drop (j-i):=by rw[List.drop_drop];congr 1;lia
 rw[this]at h;exact List.mem_of_mem_drop h
theorem vO{l:List α}(h:l.Pairwise le){i j:Nat}(bE:i<=j):∀x∈(l.drop i).take (j-i),∀y∈l.drop j,le x y:=by
 have e:l.drop i=(l.drop i).take (j-i)++l.drop j:=by
  have:=zB7 (j-i) (l.drop i);rw[List.drop_drop]at this;rw[show i+(j-i)=j by lia]at this;exact this.symm
 have hp:(l.drop i).Pairwise le:=h.sublist (List.drop_sublist _ _);rw[e]at hp;exact fun x hx y hy=>(List.pairwise_append.mp hp).2.2 x hx y hy
theorem oM(l:List α)(i k:Nat):l.take (i+k)=l.take i++(l.drop i).take k:=List.take_add
theorem MI.segA{la lb lo:List α}{ia ib k:Nat}(m:MI le la lb lo ia ib)(sa:la.Pairwise le)(h:∀x∈(la.drop ia).take k,∀y∈lb.drop ib,le x y):MI le la lb (lo++(la.drop ia).take k) (ia+k) ib:=by
 refine⟨?_,List.pairwise_append.mpr ⟨m.sr,(sa.sublist (List.drop_sublist _ _)).sublist (List.take_sublist _ _),fun x hx y hy=>m.be x hx y (.inl (List.mem_of_mem_take hy))⟩,fun x hx y hy=>?_⟩
 .rw[oM];refine(m.pm.append_right _).trans ?_;rw[zAf,zAf];exact List.Perm.append_left _ (List.perm_append_comm)
 .rcases zA6.mp hx with z|z
  .exact m.be x z y (hy.imp (gO Zz) id)
  .rcases hy with hy|hy
   .have:=vO sa (i:=ia) (j:=ia+k) Zz x (by rw[show ia+k-ia=k by lia];exact z) y hy;exact this
   .exact h x z y hy
theorem MI.segB{la lb lo:List α}{ia ib k:Nat}(m:MI le la lb lo ia ib)(sb:lb.Pairwise le)(h:∀x∈(lb.drop ib).take k,∀y∈la.drop ia,le x y):MI le la lb (lo++(lb.drop ib).take k) ia (ib+k):=by
 refine⟨?_,List.pairwise_append.mpr ⟨m.sr,(sb.sublist (List.drop_sublist _ _)).sublist (List.take_sublist _ _),fun x hx y hy=>m.be x hx y (.inr (List.mem_of_mem_take hy))⟩,fun x hx y hy=>?_⟩
 .rw[oM];refine(m.pm.append_right _).trans ?_;rw[zAf]
 .rcases zA6.mp hx with z|z
  .exact m.be x z y (hy.imp id (gO Zz))
  .rcases hy with hy|hy
   .exact h x z y hy
   .have:=vO sb (i:=ib) (j:=ib+k) Zz x (by rw[show ib+k-ib=k by lia];exact z) y hy;exact this
structure Done(le:α->α->Prop)(la lb lo:List α):Prop where
 pm:lo.Perm (la++lb)
 sr:lo.Pairwise le
theorem MI.endB{la lb lo:List α}{ia ib:Nat}(m:MI le la lb lo ia ib)(sa:la.Pairwise le)(hb:lb.length<=ib):Done le la lb (lo++la.drop ia++lb.drop ib):=by
 have e:lb.drop ib=[]:=List.drop_of_length_le hb;have e2:lb.take ib=lb:=List.take_of_length_le hb;rw[e,zAn];refine⟨?_,List.pairwise_append.mpr ⟨m.sr,sa.sublist (List.drop_sublist _ _),fun x hx y hy=>m.be x hx y (.inl hy)⟩⟩;have:=m.pm;rw[e2]at this;refine(this.append_right _).trans ?_;rw[zAf];refine(List.Perm.append_left _ List.perm_append_comm).trans ?_;rw[<-zAf,zB7]
theorem MI.endA{la lb lo:List α}{ia ib:Nat}(m:MI le la lb lo ia ib)(sb:lb.Pairwise le)(ha:la.length<=ia):Done le la lb (lo++la.drop ia++lb.drop ib):=by
 have e:la.drop ia=[]:=List.drop_of_length_le ha;have e2:la.take ia=la:=List.take_of_length_le ha;rw[e,zAn];refine⟨?_,List.pairwise_append.mpr ⟨m.sr,sb.sublist (List.drop_sublist _ _),fun x hx y hy=>m.be x hx y (.inr hy)⟩⟩;have:=m.pm;rw[e2]at this;refine(this.append_right _).trans ?_;rw[zAf,zB7]
theorem MI.last{la lb lo:List α}{ia ib:Nat}(m:MI le la lb lo ia ib)(sa:la.Pairwise le)(sb:lb.Pairwise le)(h:∀y∈lb.drop ib,∀x∈la.drop ia,le y x):Done le la lb (lo++lb.drop ib++la.drop ia):=by
 refine⟨?_,List.pairwise_append.mpr ⟨List.pairwise_append.mpr ⟨m.sr,sb.sublist (List.drop_sublist _ _),fun x hx y hy=>m.be x hx y (.inr hy)⟩,sa.sublist (List.drop_sublist _ _),fun x hx y hy=>?_⟩⟩
 .refine((m.pm.append_right _).append_right _).trans ?_
  have e:(la.take ia++lb.take ib++lb.drop ib++la.drop ia)=la.take ia++(lb++la.drop ia):=by
   rw[zAf (la.take ia),zB7,zAf]
  rw[e];refine(List.Perm.append_left _ List.perm_append_comm).trans ?_;rw[<-zAf,zB7]
 .rcases zA6.mp hx with z|z
  .exact m.be x z y (.inl hy)
  .exact h x z y hy
end
def jc:Array Keyed->Array Keyed->Sm (Array Keyed):=sortPriv% PySem.Builtin.mergeLo
def jd:Nat->Sm Unit:=sortPriv% PySem.Builtin.setMinGallop
abbrev C1:=Option (Array Keyed)×Array Keyed×Nat×Nat×Nat×Nat
abbrev C2:=Option (Array Keyed)×Array Keyed×Nat×Nat×Nat×Nat×Nat
abbrev C0:=Option (Array Keyed)×Array Keyed×Nat×Nat×Nat
def one(a b:Array Keyed)(g:Nat)(out:Array Keyed)(ia ib ac bc:Nat):Sm (ForInStep C1):=do
 let y <-elem' b ib
 let x <-elem' a ia
 let r <-lt' y x
 match r with
 |some w=>
  if w=true then do
   let y <-elem' b ib
   if(ib+1==b.size)=true then pure (ForInStep.done (some (out.push y++a.extract ia a.size++b.extract (ib+1) b.size),out.push y,ia,ib+1,0,bc+1))
   else if bc+1≥g then pure (ForInStep.done (none,out.push y,ia,ib+1,0,bc+1))else pure (ForInStep.yield (none,out.push y,ia,ib+1,0,bc+1))
  else do
   let x <-elem' a ia
   if(ia+1+1==a.size)=true then pure (ForInStep.done (some (out.push x++b.extract ib b.size++a.extract (ia+1) a.size),out.push x,ia+1,ib,ac+1,0))
   else if ac+1≥g then pure (ForInStep.done (none,out.push x,ia+1,ib,ac+1,0))else pure (ForInStep.yield (none,out.push x,ia+1,ib,ac+1,0))
 |_=>pure (ForInStep.done (some (out++a.extract ia a.size++b.extract ib b.size),out,ia,ib,ac,bc))
def gl4(a b:Array Keyed)(out:Array Keyed)(ia ib g k k1:Nat):Sm (ForInStep C2):=do
 let x <-elem' a ia
 if(ia+1+1==a.size)=true then pure (ForInStep.done (some (out.push x++b.extract ib b.size++a.extract (ia+1) a.size),out.push x,ia+1,ib,g,k,k1))
 else if(decide (k<7)&&decide (k1<7))=true then pure (ForInStep.done (none,out.push x,ia+1,ib,g,k,k1))else pure (ForInStep.yield (none,out.push x,ia+1,ib,g,k,k1))
def gl3(a b:Array Keyed)(out:Array Keyed)(ia ib g k bc:Nat):Sm (ForInStep C2):=do
 let x <-elem' a ia
 let r <-fj true x b ib (b.size-ib) 0
 match r with
 |some k1=>
  if k1>0 then
   if(ib+k1==b.size)=true then pure (ForInStep.done (some (out++b.extract ib (ib+k1)++a.extract ia a.size++b.extract (ib+k1) b.size),out++b.extract ib (ib+k1),ia,ib+k1,g,k,k1))
   else gl4 a b (out++b.extract ib (ib+k1)) ia (ib+k1) g k k1
  else gl4 a b out ia ib g k k1
 |_=>pure (ForInStep.done (some (out++a.extract ia a.size++b.extract ib b.size),out,ia,ib,g,k,bc))
def gl2(a b:Array Keyed)(out:Array Keyed)(ia ib g k bc:Nat):Sm (ForInStep C2):=do
 let y <-elem' b ib
 if(ib+1==b.size)=true then pure (ForInStep.done (some (out.push y++a.extract ia a.size++b.extract (ib+1) b.size),out.push y,ia,ib+1,g,k,bc))
 else gl3 a b (out.push y) ia (ib+1) g k bc
def gl1(a b:Array Keyed)(out:Array Keyed)(ia ib g ac bc:Nat):Sm (ForInStep C2):=do
 jd g
 let y <-elem' b ib
 let r <-fj false y a ia (a.size-ia) 0
 match r with
 |some k=>
  if k>0 then
   if(ia+k+1==a.size)=true then pure (ForInStep.done (some (out++a.extract ia (ia+k)++b.extract ib b.size++a.extract (ia+k) a.size),out++a.extract ia (ia+k),ia+k,ib,g,k,bc))
   else if(ia+k==a.size)=true then pure (ForInStep.done (some (out++a.extract ia (ia+k)++a.extract (ia+k) a.size++b.extract ib b.size),out++a.extract ia (ia+k),ia+k,ib,g,k,bc))
   else gl2 a b (out++a.extract ia (ia+k)) (ia+k) ib g k bc
  else gl2 a b out ia ib g k bc
 |_=>pure (ForInStep.done (some (out++a.extract ia a.size++b.extract ib b.size),out,ia,ib,g,ac,bc))
def gal(a b:Array Keyed)(out:Array Keyed)(ia ib g ac bc:Nat):Sm (ForInStep C2):=if g>1 then gl1 a b out ia ib (g-1) ac bc else gl1 a b out ia ib g ac bc
def round(a b:Array Keyed)(out:Array Keyed)(ia ib g:Nat):Sm (ForInStep C0):=do
 let c <-forIn [0:a.size+b.size] ((none,out,ia,ib,0,0):C1) fun _ c=>one a b g c.2.1 c.2.2.1 c.2.2.2.1 c.2.2.2.2.1 c.2.2.2.2.2
 match c.1 with
 |some r=>pure (ForInStep.done (some r,c.2.1,c.2.2.1,c.2.2.2.1,g))
 |none=>do
  liftM (rule "list.sort.gallop")
  let d <-forIn [0:a.size+b.size] ((none,c.2.1,c.2.2.1,c.2.2.2.1,g+1,c.2.2.2.2.1,c.2.2.2.2.2):C2) fun _ d=>gal a b d.2.1 d.2.2.1 d.2.2.2.1 d.2.2.2.2.1 d.2.2.2.2.2.1 d.2.2.2.2.2.2
  match d.1 with
  |some r=>pure (ForInStep.done (some r,d.2.1,d.2.2.1,d.2.2.2.1,d.2.2.2.2.1))
  |none=>do
   jd (d.2.2.2.2.1+1)
   pure (ForInStep.yield (none,d.2.1,d.2.2.1,d.2.2.2.1,d.2.2.2.2.1+1))
theorem fi{β:Type}{r:Std.Legacy.Range}{c:β}{f f':Nat->β->Sm (ForInStep β)}(h:f=f'):(forIn r c f:Sm β)=forIn r c f':=by rw[h]
theorem ic{α:Type}{c:Prop}[Decidable c]{x x' y y':α}(h:x=x')(h':y=y'):(if c then x else y)=if c then x' else y':=by rw[h,h']
theorem GX(a b:Array Keyed):jc a b=(do
  liftM (rule "list.sort.merge-lo")
  let e <-elem' b 0
  if(1==b.size)=true then pure (#[e]++a.extract 0 a.size++b.extract 1 b.size)
  else if(0+1==a.size)=true then pure (#[e]++b.extract 1 b.size++a.extract 0 a.size)
  else do
   let s <-get
   let c <-forIn [0:a.size+b.size] ((none,#[e],0,1,gallopOf s):C0) fun _ c=>round a b c.2.1 c.2.2.1 c.2.2.2.1 c.2.2.2.2
   match c.1 with
   |some r=>pure r
   |none=>liftM (unsupported "internal:list.sort.merge-bound")):=by
 delta jc
 refine bc rfl (funext fun u=>bc rfl (funext fun e=>ic rfl (ic rfl (bc rfl (funext fun s=>bc (fi (funext fun x=>funext fun c=>?_)) (funext fun c=>?_))))))
 .unfold round;refine bc (fi (funext fun x=>funext fun c1=>?_)) (funext fun c1=>?_)
  .unfold one;refine bc rfl (funext fun y=>bc rfl (funext fun x=>bc rfl (funext fun r=>?_)))
   cases r with
   |none=>rfl
   |some w=>exact ic (bc rfl (funext fun y=>ic rfl (ic rfl rfl))) (bc rfl (funext fun y=>ic rfl (ic rfl rfl)))
  .obtain⟨r,c1⟩:=c1
   cases r with
   |some r=>rfl
   |none=>
    refine bc rfl (funext fun u=>bc (fi (funext fun x=>funext fun d=>?_)) (funext fun d=>?_))
    .unfold gal;refine ic ?_ ?_
     .unfold gl1;exact bc rfl (funext fun u=>bc rfl (funext fun y=>bc rfl (funext fun r=>by cases r with|none=>rfl|some k=>exact ic (ic rfl (ic rfl (by unfold gl2;exact bc rfl (funext fun y=>ic rfl (by unfold gl3;exact bc rfl (funext fun x=>bc rfl (funext fun r=>by cases r with|none=>rfl|some k1=>exact ic (ic rfl (by unfold gl4;exact bc rfl (funext fun x=>ic rfl (ic rfl rfl)))) (by unfold gl4;exact bc rfl (funext fun x=>ic rfl (ic rfl rfl)))))))))) (by unfold gl2;exact bc rfl (funext fun y=>ic rfl (by unfold gl3;exact bc rfl (funext fun x=>bc rfl (funext fun r=>by cases r with|none=>rfl|some k1=>exact ic (ic rfl (by unfold gl4;exact bc rfl (funext fun x=>ic rfl (ic rfl rfl)))) (by unfold gl4;exact bc rfl (funext fun x=>ic rfl (ic rfl rfl)))))))))))
     .unfold gl1;exact bc rfl (funext fun u=>bc rfl (funext fun y=>bc rfl (funext fun r=>by cases r with|none=>rfl|some k=>exact ic (ic rfl (ic rfl (by unfold gl2;exact bc rfl (funext fun y=>ic rfl (by unfold gl3;exact bc rfl (funext fun x=>bc rfl (funext fun r=>by cases r with|none=>rfl|some k1=>exact ic (ic rfl (by unfold gl4;exact bc rfl (funext fun x=>ic rfl (ic rfl rfl)))) (by unfold gl4;exact bc rfl (funext fun x=>ic rfl (ic rfl rfl)))))))))) (by unfold gl2;exact bc rfl (funext fun y=>ic rfl (by unfold gl3;exact bc rfl (funext fun x=>bc rfl (funext fun r=>by cases r with|none=>rfl|some k1=>exact ic (ic rfl (by unfold gl4;exact bc rfl (funext fun x=>ic rfl (ic rfl rfl)))) (by unfold gl4;exact bc rfl (funext fun x=>ic rfl (ic rfl rfl)))))))))))
    .obtain⟨r,d⟩:=d;cases r<;>rfl
 .obtain⟨r,c⟩:=c;cases r<;>rfl
def key(κ:PyProof.Rows.KeyKind)(p:Keyed):κ.α:=(κ.keyOf p.1).getD κ.dflt
def leK(κ:PyProof.Rows.KeyKind)(x y:Keyed):Prop:=κ.kle (key κ x) (key κ y)
theorem dq{κ:PyProof.Rows.KeyKind}{x y z:Keyed}(h:leK κ x y)(h':leK κ y z):leK κ x z:=KeyOrd.kle_trans h h'
structure SG(st Zq:SortSt):Prop where
 kind:kindOf Zq=kindOf st
 arr:arrOf Zq=arrOf st
 pend:pendingOf Zq=pendingOf st
 fail:failedOf Zq=failedOf st
theorem SG.refl(st:SortSt):SG st st:=⟨rfl,rfl,rfl,rfl⟩
structure Two(κ:PyProof.Rows.KeyKind)(a b:Array Keyed):Prop where
 ka:KeysOf κ a
 kb:KeysOf κ b
 sa:a.toList.Pairwise (leK κ)
 sb:b.toList.Pairwise (leK κ)
theorem item{κ:PyProof.Rows.KeyKind}{a:Array Keyed}(ka:KeysOf κ a){i:Nat}(hi:i<a.size):∃p,a[i]?=some p/\κ.keyOf p.1=some (key κ p)/\KK κ a i=key κ p/\a.toList.drop i=p::a.toList.drop (i+1):=by
 have e:a[i]?=some a[i]:=Array.getElem?_eq_getElem hi;obtain⟨k,hk⟩:=ka a[i] (Array.mem_toList_iff.mpr (Array.getElem_mem hi))
 have ek:key κ a[i]=k:=by
  unfold key;rw[hk];rfl
 refine⟨a[i],e,by rw[ek];exact hk,?_,?_⟩
 .unfold KK;rw[e,ek];dsimp only;rw[hk];rfl
 .have:=List.drop_eq_getElem_cons (l:=a.toList) (i:=i) (by simpa using hi);rw[this];simp
theorem je{κ:PyProof.Rows.KeyKind}{l r:List Keyed}{p:Keyed}{i:Nat}(h:l.Pairwise (leK κ))(e:l.drop i=p::r):∀y∈l.drop i,leK κ p y:=by
 have hp:=h.sublist (List.drop_sublist i l);rw[e]at hp⊢;intro y hy;rcases zAo.mp hy with z|z
 .rw[z];exact KeyOrd.kle_refl _
 .exact(List.pairwise_cons.mp hp).1 y z
theorem fK(a:Array Keyed)(i j:Nat):(a.extract i j).toList=(a.toList.drop i).take (j-i):=by
 rw[Array.toList_extract]
theorem iw(a:Array Keyed)(i:Nat):(a.extract i a.size).toList=a.toList.drop i:=by
 rw[fK];refine List.take_of_length_le ?_;rw[List.length_drop,zA9];exact zA3 _
theorem jf{κ:PyProof.Rows.KeyKind}{a:Array Keyed}(ka:KeysOf κ a){i k:Nat}{x:Keyed}(h:x∈(a.toList.drop i).take k):∃j,j<k/\i+j<a.size/\KK κ a (i+j)=key κ x:=by
 obtain⟨j,hj,rfl⟩:=List.getElem_of_mem h;rw[zAd,List.length_drop,zA9]at hj;refine⟨j,Zz,Zz,?_⟩;obtain⟨p,e1,e2,e3,e4⟩:=item ka (i:=i+j) Zz;rw[e3,List.getElem_take,List.getElem_drop]
 have:a.toList[i+j]?=some p:=by
  rw[Array.getElem?_toList];exact e1
 rw[zA0 (by rw[zA9];lia)]at this;rw[zAl this]
theorem mj{κ:PyProof.Rows.KeyKind}{a:Array Keyed}(ka:KeysOf κ a){i:Nat}{x:Keyed}(h:x∈a.toList.drop i):∃j,i<=j/\j<a.size/\KK κ a j=key κ x:=by
 have h':x∈(a.toList.drop i).take (a.toList.drop i).length:=by rw[zAm];exact h
 obtain⟨j,_,h2,h3⟩:=jf ka h';exact⟨i+j,Zz,h2,h3⟩
theorem jg{κ:PyProof.Rows.KeyKind}{a:Array Keyed}(ka:KeysOf κ a)(sa:a.toList.Pairwise (leK κ)){i j:Nat}(bE:i<=j)(hj:j<a.size):κ.kle (KK κ a i) (KK κ a j):=by
 obtain⟨p,_,_,e3,e4⟩:=item ka (i:=i) Zz;obtain⟨q,_,_,f3,f4⟩:=item ka (i:=j) hj;rw[e3,f3];refine je sa e4 q ?_;have:q∈a.toList.drop j:=by rw[f4];exact List.mem_cons_self
 exact gO bE this
section
variable{prog:Program}{w:World}{A:Around}{E:Value->Shared->Prop}{s:Shared}{κ:PyProof.Rows.KeyKind}{ks:SortKind}{a b:Array Keyed}
theorem iy{g:Nat}{Q:Unit->SortSt->Prop}{st:SortSt}(h:∀Zq,SG st Zq->Q () Zq):wpS (model prog w) A E s (jd g) Q st:=wpS_modify (h _ ⟨rfl,rfl,rfl,rfl⟩)
structure At(κ:PyProof.Rows.KeyKind)(a b out:Array Keyed)(ia ib:Nat):Prop where
 mi:MI (leK κ) a.toList b.toList out.toList ia ib
 ha:ia+1<a.size
 hb:ib<b.size
theorem At.pushA{out:Array Keyed}{ia ib:Nat}{x:Keyed}(T:Two κ a b)(m:MI (leK κ) a.toList b.toList out.toList ia ib)(e:a.toList.drop ia=x::a.toList.drop (ia+1))(h:∀y∈b.toList.drop ib,leK κ x y):
  MI (leK κ) a.toList b.toList (out.push x).toList (ia+1) ib:=by
 have:=m.segA (k:=1) T.sa fun z hz y hy=>by
  rw[e]at hz;have:z=x:=by simpa using hz
  rw[this];exact h y hy
 rw[e]at this;rw[Array.toList_push];exact this
theorem At.pushB{out:Array Keyed}{ia ib:Nat}{x:Keyed}(T:Two κ a b)(m:MI (leK κ) a.toList b.toList out.toList ia ib)(e:b.toList.drop ib=x::b.toList.drop (ib+1))(h:∀y∈a.toList.drop ia,leK κ x y):
  MI (leK κ) a.toList b.toList (out.push x).toList ia (ib+1):=by
 have:=m.segB (k:=1) T.sb fun z hz y hy=>by
  rw[e]at hz;have:z=x:=by simpa using hz
  rw[this];exact h y hy
 rw[e]at this;rw[Array.toList_push];exact this
theorem At.segA{out:Array Keyed}{ia ib k:Nat}(T:Two κ a b)(m:MI (leK κ) a.toList b.toList out.toList ia ib)(h:∀x∈(a.toList.drop ia).take k,∀y∈b.toList.drop ib,leK κ x y):MI (leK κ) a.toList b.toList (out++a.extract ia (ia+k)).toList (ia+k) ib:=by
 have:=m.segA (k:=k) T.sa h;rw[Array.toList_append,fK,show ia+k-ia=k by lia];exact this
theorem At.segB{out:Array Keyed}{ia ib k:Nat}(T:Two κ a b)(m:MI (leK κ) a.toList b.toList out.toList ia ib)(h:∀x∈(b.toList.drop ib).take k,∀y∈a.toList.drop ia,leK κ x y):MI (leK κ) a.toList b.toList (out++b.extract ib (ib+k)).toList ia (ib+k):=by
 have:=m.segB (k:=k) T.sb h;rw[Array.toList_append,fK,show ib+k-ib=k by lia];exact this
abbrev Rs(κ:PyProof.Rows.KeyKind)(a b:Array Keyed)(r:Array Keyed):Prop:=Done (leK κ) a.toList b.toList r.toList
def iH(κ:PyProof.Rows.KeyKind)(a b:Array Keyed):Prop:=∀y∈b.toList,∀x∈a.toList.drop (a.size-1),leK κ y x
theorem vP{out:Array Keyed}{ia ib:Nat}(T:Two κ a b)(m:MI (leK κ) a.toList b.toList out.toList ia ib)(h:ib=b.size):Rs κ a b (out++a.extract ia a.size++b.extract ib b.size):=by
 have:=m.endB T.sa (by rw[zA9];lia);unfold Rs;rw[Array.toList_append,Array.toList_append,iw,iw];exact this
theorem GZ{out:Array Keyed}{ia ib:Nat}(T:Two κ a b)(m:MI (leK κ) a.toList b.toList out.toList ia ib)(h:ia=a.size):Rs κ a b (out++a.extract ia a.size++b.extract ib b.size):=by
 have:=m.endA T.sb (by rw[zA9];lia);unfold Rs;rw[Array.toList_append,Array.toList_append,iw,iw];exact this
theorem vQ{out:Array Keyed}{ia ib:Nat}(T:Two κ a b)(L:iH κ a b)(m:MI (leK κ) a.toList b.toList out.toList ia ib)(h:ia+1=a.size):Rs κ a b (out++b.extract ib b.size++a.extract ia a.size):=by
 have:=m.last T.sa T.sb fun y hy x hx=>L y (List.mem_of_mem_drop hy) x (by rw[show a.size-1=ia by lia];exact hx);unfold Rs;rw[Array.toList_append,Array.toList_append,iw,iw];exact this
theorem uN(hL:LtAll prog w A E s κ ks)(T:Two κ a b)(L:iH κ a b){g ia ib ac bc:Nat}{out:Array Keyed}{st:SortSt}(hk:kindOf st=ks)(m:At κ a b out ia ib):
  wpS (model prog w) A E s (one a b g out ia ib ac bc) (fun r Zq=>Zq=st/\match r with
   |.done c=>(∃z,c.1=some z/\Rs κ a b z)\/(c.1=none/\At κ a b c.2.1 c.2.2.1 c.2.2.2.1/\ia+ib+1=c.2.2.1+c.2.2.2.1)
   |.yield c=>c.1=none/\At κ a b c.2.1 c.2.2.1 c.2.2.2.1/\ia+ib+1=c.2.2.1+c.2.2.2.1) st:=by
 obtain⟨x,x1,x2,x3,x4⟩:=item T.ka (i:=ia) (by have:=m.ha;lia);obtain⟨y,y1,y2,y3,y4⟩:=item T.kb m.hb;unfold one;refine wpS_bind (bj y1 (wpS_bind (bj x1 (wpS_bind (hL st hk _ _ _ _ _ y2 x2 ?_)))))
 cases e:κ.blt (key κ y) (key κ x)with
 |true=>
  dsimp only;rw[if_pos rfl];refine wpS_bind (bj y1 ?_);have m':=At.pushB T m.mi y4 fun z hz=>dq (KeyOrd.kle_of_klt e) (je T.sa x4 z hz);by_cases hb:ib+1=b.size
  .rw[if_pos (by simpa using hb)];exact wpS_pure ⟨rfl,.inl ⟨_,rfl,vP T m' hb⟩⟩
  .rw[if_neg (by simpa using hb)]
   have at':At κ a b (out.push y) ia (ib+1):=⟨m',m.ha,by have:=m.hb;lia⟩
   split
   .exact wpS_pure ⟨rfl,.inr ⟨rfl,at',by dsimp only;lia⟩⟩
   .exact wpS_pure ⟨rfl,rfl,at',by dsimp only;lia⟩
 |false=>
  dsimp only;rw[if_neg Zx];refine wpS_bind (bj x1 ?_);have m':=At.pushA T m.mi x4 fun z hz=>dq (show leK κ x y from e) (je T.sb y4 z hz);by_cases ha:ia+1+1=a.size
  .rw[if_pos (by simpa using ha)];exact wpS_pure ⟨rfl,.inl ⟨_,rfl,vQ T L m' ha⟩⟩
  .rw[if_neg (by simpa using ha)]
   have at':At κ a b (out.push x) (ia+1) ib:=⟨m',by have:=m.ha;lia,m.hb⟩
   split
   .exact wpS_pure ⟨rfl,.inr ⟨rfl,at',by dsimp only;lia⟩⟩
   .exact wpS_pure ⟨rfl,rfl,at',by dsimp only;lia⟩
def G2(κ:PyProof.Rows.KeyKind)(a b:Array Keyed)(n:Nat)(st:SortSt)(r:ForInStep C2)(Zq:SortSt):Prop:=SG st Zq/\match r with
 |.done c=>(∃z,c.1=some z/\Rs κ a b z)\/(c.1=none/\At κ a b c.2.1 c.2.2.1 c.2.2.2.1/\n<=c.2.2.1+c.2.2.2.1)
 |.yield c=>c.1=none/\At κ a b c.2.1 c.2.2.1 c.2.2.2.1/\n<=c.2.2.1+c.2.2.2.1
theorem mq(T:Two κ a b)(L:iH κ a b){g ia ib k k1 n:Nat}{out:Array Keyed}{bo st:SortSt}(sg:SG bo st)(m:At κ a b out ia ib)(hn:n<=ia+ib+1)(h:∀y∈b.toList.drop ib,∀x,a[ia]?=some x->leK κ x y):
  wpS (model prog w) A E s (gl4 a b out ia ib g k k1) (G2 κ a b n bo) st:=by
 obtain⟨x,x1,x2,x3,x4⟩:=item T.ka (i:=ia) (by have:=m.ha;lia);unfold gl4;refine wpS_bind (bj x1 ?_);have m':=At.pushA T m.mi x4 fun z hz=>h z hz x x1;by_cases ha:ia+1+1=a.size
 .rw[if_pos (by simpa using ha)];exact wpS_pure ⟨sg,.inl ⟨_,rfl,vQ T L m' ha⟩⟩
 .rw[if_neg (by simpa using ha)]
  have at':At κ a b (out.push x) (ia+1) ib:=⟨m',by have:=m.ha;lia,m.hb⟩
  split
  .exact wpS_pure ⟨sg,.inr ⟨rfl,at',by dsimp only;lia⟩⟩
  .exact wpS_pure ⟨sg,rfl,at',by dsimp only;lia⟩
theorem uO(hL:LtAll prog w A E s κ ks)(T:Two κ a b)(L:iH κ a b){g ia ib k bc n:Nat}{out:Array Keyed}{bo st:SortSt}(hk:kindOf st=ks)(sg:SG bo st)(m:At κ a b out ia ib)(hn:n<=ia+ib+1):
  wpS (model prog w) A E s (gl3 a b out ia ib g k bc) (G2 κ a b n bo) st:=by
 obtain⟨x,x1,x2,x3,x4⟩:=item T.ka (i:=ia) (by have:=m.ha;lia);have hb:=m.hb;unfold gl3;refine wpS_bind (bj x1 ?_);refine wpS_bind (dF (κ:=κ) (kk:=key κ x) (hL st hk) x2 Zz (fun i hi=>?_) (fun i j bE hj gu=>?_) fun k1 kn kt kf=>?_)
 .obtain⟨p,p1,p2,p3,_⟩:=item T.kb (i:=ib+i) Zz;exact⟨p,_,p1,p2,p3⟩
 .have mono:=jg T.kb T.sb (i:=ib+i) (j:=ib+j) Zz Zz;exact KeyOrd.klt_of_kle_of_klt mono gu
 .have fq:∀y∈b.toList.drop (ib+k1),∀z,a[ia]?=some z->leK κ z y:=fun y hy z hz=>by
   rw[x1]at hz;cases hz;obtain⟨j,j1,j2,j3⟩:=mj T.kb hy;have:=kf (j-ib) Zz Zz;rw[show ib+(j-ib)=j by lia,j3]at this;exact this
  by_cases h0:k1>0
  .dsimp only;rw[if_pos h0]
   have m':=At.segB (k:=k1) T m.mi fun z hz y hy=>by
    obtain⟨j,j1,j2,j3⟩:=jf T.kb hz;have:=kt j j1;rw[j3]at this;exact dq (KeyOrd.kle_of_klt this) (je T.sa x4 y hy)
   by_cases e:ib+k1=b.size
   .rw[if_pos (by simpa using e)];exact wpS_pure ⟨sg,.inl ⟨_,rfl,vP T m' e⟩⟩
   .rw[if_neg (by simpa using e)];exact mq T L sg ⟨m',m.ha,Zz⟩ Zz fq
  .dsimp only;rw[if_neg h0];have e:k1=0:=Zz
   rw[e]at fq;exact mq T L sg m hn fq
theorem my(hL:LtAll prog w A E s κ ks)(T:Two κ a b)(L:iH κ a b){g ia ib k bc n:Nat}{out:Array Keyed}{bo st:SortSt}(hk:kindOf st=ks)(sg:SG bo st)(m:At κ a b out ia ib)(hn:n<=ia+ib+1)(h:∀x∈a.toList.drop ia,∀y,b[ib]?=some y->leK κ y x):
  wpS (model prog w) A E s (gl2 a b out ia ib g k bc) (G2 κ a b n bo) st:=by
 obtain⟨y,y1,y2,y3,y4⟩:=item T.kb m.hb;unfold gl2;refine wpS_bind (bj y1 ?_);have m':=At.pushB T m.mi y4 fun z hz=>h z hz y y1;by_cases hb:ib+1=b.size
 .rw[if_pos (by simpa using hb)];exact wpS_pure ⟨sg,.inl ⟨_,rfl,vP T m' hb⟩⟩
 .rw[if_neg (by simpa using hb)];exact uO hL T L hk sg ⟨m',m.ha,by have:=m.hb;lia⟩ Zz
theorem uP(hL:LtAll prog w A E s κ ks)(T:Two κ a b)(L:iH κ a b){g ia ib ac bc n:Nat}{out:Array Keyed}{bo st:SortSt}(hk:kindOf st=ks)(sg:SG bo st)(m:At κ a b out ia ib)(hn:n<=ia+ib+1):
  wpS (model prog w) A E s (gl1 a b out ia ib g ac bc) (G2 κ a b n bo) st:=by
 obtain⟨y,y1,y2,y3,y4⟩:=item T.kb m.hb;have ha:=m.ha;unfold gl1;refine wpS_bind (iy fun Zq eW=>?_);have cm:kindOf Zq=ks:=eW.kind.trans hk
 have bp:SG bo Zq:=⟨eW.kind.trans sg.kind,eW.arr.trans sg.arr,eW.pend.trans sg.pend,eW.fail.trans sg.fail⟩
 refine wpS_bind (bj y1 ?_);refine wpS_bind (dF (κ:=κ) (kk:=key κ y) (hL Zq cm) y2 Zz (fun i hi=>?_) (fun i j bE hj gu=>?_) fun k kn kt kf=>?_)
 .obtain⟨p,p1,p2,p3,_⟩:=item T.ka (i:=ia+i) Zz;exact⟨p,_,p1,p2,p3⟩
 .have mono:=jg T.ka T.sa (i:=ia+i) (j:=ia+j) Zz Zz;have gu:(!κ.blt (key κ y) (KK κ a (ia+j)))=true:=gu;show(!κ.blt (key κ y) (KK κ a (ia+i)))=true;rw[Bool.not_eq_true']at gu⊢;exact KeyOrd.kle_trans mono gu
 .have fq:∀x∈a.toList.drop (ia+k),∀z,b[ib]?=some z->leK κ z x:=fun x hx z hz=>by
   rw[y1]at hz;cases hz;obtain⟨j,j1,j2,j3⟩:=mj T.ka hx;have:=kf (j-ia) Zz Zz;rw[show ia+(j-ia)=j by lia,j3]at this;have this:(!κ.blt (key κ y) (key κ x))=false:=this;rw[Bool.not_eq_false']at this;exact KeyOrd.kle_of_klt this
  by_cases h0:k>0
  .dsimp only;rw[if_pos h0]
   have m':=At.segA (k:=k) T m.mi fun z hz x hx=>by
    obtain⟨j,j1,j2,j3⟩:=jf T.ka hz;have:=kt j j1;rw[j3]at this;have this:(!κ.blt (key κ y) (key κ z))=true:=this;rw[Bool.not_eq_true']at this;exact dq (show leK κ z y from this) (je T.sb y4 x hx)
   by_cases e:ia+k+1=a.size
   .rw[if_pos (by simpa using e)];exact wpS_pure ⟨bp,.inl ⟨_,rfl,vQ T L m' e⟩⟩
   .rw[if_neg (by simpa using e)];by_cases e2:ia+k=a.size
    .rw[if_pos (by simpa using e2)];exact wpS_pure ⟨bp,.inl ⟨_,rfl,GZ T m' e2⟩⟩
    .rw[if_neg (by simpa using e2)];exact my hL T L cm bp ⟨m',Zz,m.hb⟩ Zz fq
  .dsimp only;rw[if_neg h0];have e:k=0:=Zz
   rw[e]at fq;exact my hL T L cm bp m hn fq
theorem mz(hL:LtAll prog w A E s κ ks)(T:Two κ a b)(L:iH κ a b){g ia ib:Nat}{out:Array Keyed}{bo st:SortSt}(hk:kindOf st=ks)(sg:SG bo st)(m:At κ a b out ia ib):
  wpS (model prog w) A E s (round a b out ia ib g) (fun r Zq=>SG bo Zq/\match r with
   |.done c=>∃z,c.1=some z/\Rs κ a b z
   |.yield c=>c.1=none/\At κ a b c.2.1 c.2.2.1 c.2.2.2.1/\ia+ib+1<=c.2.2.1+c.2.2.2.1) st:=by
 unfold round;have Le:0<a.size+b.size:=by have:=m.ha;lia
 refine wpS_bind (wpS_mono (wpS_forRange (I:=fun x c Zq=>Zq=st/\c.1=none/\At κ a b c.2.1 c.2.2.1 c.2.2.2.1/\ia+ib+x=c.2.2.1+c.2.2.2.1)
  (Q:=fun c Zq=>Zq=st/\((∃z,c.1=some z/\Rs κ a b z)\/(c.1=none/\At κ a b c.2.1 c.2.2.1 c.2.2.2.1/\ia+ib+1<=c.2.2.1+c.2.2.2.1))) ?_ ?_ ⟨rfl,rfl,m,rfl⟩) ?_)
 .rintro x ⟨c0,o,i,j,ac,bc⟩ Zq _ hx ⟨rfl,rfl,m',e⟩;dsimp only at m' e⊢;refine wpS_mono (uN hL T L hk m') fun r st2 h2=>?_;obtain⟨rfl,h2⟩:=h2
  cases r with
  |done c=>
   rcases h2 with h2|⟨h2,h3,h4⟩
   .exact⟨rfl,.inl h2⟩
   .exact⟨rfl,.inr ⟨h2,h3,Zz⟩⟩
  |yield c=>
   obtain⟨h2,h3,h4⟩:=h2;exact⟨rfl,h2,h3,Zz⟩
 .rintro c Zq ⟨rfl,h1,h2,h3⟩;exact⟨rfl,.inr ⟨h1,h2,Zz⟩⟩
 .rintro⟨c0,o,i,j,ac,bc⟩ Zq ⟨rfl,h⟩;dsimp only at h⊢;rcases h with⟨z,rfl,hz⟩|⟨rfl,m',bE⟩
  .exact wpS_pure ⟨sg,z,rfl,hz⟩
  .dsimp only;refine wpS_bind (wpS_lift (wpAny_rule ⟨rfl,?_⟩))
   refine wpS_bind (wpS_mono (wpS_forRange (I:=fun x c st2=>SG bo st2/\c.1=none/\At κ a b c.2.1 c.2.2.1 c.2.2.2.1/\ia+ib+1<=c.2.2.1+c.2.2.2.1)
    (Q:=fun c st2=>SG bo st2/\((∃z,c.1=some z/\Rs κ a b z)\/(c.1=none/\At κ a b c.2.1 c.2.2.1 c.2.2.2.1/\ia+ib+1<=c.2.2.1+c.2.2.2.1))) ?_ ?_ ⟨sg,rfl,m',bE⟩) ?_)
   .rintro x ⟨c0,o,i,j,g2,ac,bc⟩ st2 _ hx ⟨bp,rfl,m2,e2⟩;dsimp only at m2 e2⊢;have uk:kindOf st2=ks:=bp.kind.trans (sg.kind.symm.trans hk);have go:∀g',wpS (model prog w) A E s (gl1 a b o i j g' ac bc) (G2 κ a b (ia+ib+1) bo) st2:=fun g'=>uP hL T L uk bp m2 Zz;unfold gal;split
    .refine wpS_mono (go _) fun r fz h3=>?_;obtain⟨h3,h4⟩:=h3
     cases r with
     |done c=>exact⟨h3,h4⟩
     |yield c=>exact⟨h3,h4⟩
    .refine wpS_mono (go _) fun r fz h3=>?_;obtain⟨h3,h4⟩:=h3
     cases r with
     |done c=>exact⟨h3,h4⟩
     |yield c=>exact⟨h3,h4⟩
   .rintro c st2 ⟨h0,h1,h2,h3⟩;exact⟨h0,.inr ⟨h1,h2,h3⟩⟩
   .rintro⟨c0,o,i,j,g2,ac,bc⟩ st2 ⟨bp,h⟩;dsimp only at h⊢;rcases h with⟨z,rfl,hz⟩|⟨rfl,m2,om⟩
    .exact wpS_pure ⟨bp,z,rfl,hz⟩
    .dsimp only;refine wpS_bind (iy fun fz kC=>wpS_pure ⟨⟨kC.kind.trans bp.kind,kC.arr.trans bp.arr,kC.pend.trans bp.pend,kC.fail.trans bp.fail⟩,rfl,m2,om⟩)
theorem Ha(hL:LtAll prog w A E s κ ks)(T:Two κ a b)(L:iH κ a b)(ha:0<a.size)(hb:0<b.size)(F:∀x∈a.toList,∀y,b[0]?=some y->leK κ y x){st:SortSt}(hk:kindOf st=ks){Q:Array Keyed->SortSt->Prop}
  (h:∀r Zq,SG st Zq->Rs κ a b r->Q r Zq):wpS (model prog w) A E s (jc a b) Q st:=by
 rw[GX];obtain⟨y,y1,y2,y3,y4⟩:=item T.kb hb;refine wpS_bind (wpS_lift (wpAny_rule ⟨rfl,?_⟩));refine wpS_bind (bj y1 ?_)
 have m0:MI (leK κ) a.toList b.toList ([]:List Keyed) 0 0:=⟨by simp,.nil,fun x hx=>absurd hx Zy⟩
 have m:MI (leK κ) a.toList b.toList (#[y]:Array Keyed).toList 0 1:=by
  have:=At.pushB (out:=#[]) T m0 y4 fun z hz=>F z hz y y1;exact this
 by_cases e1:1=b.size
 .rw[if_pos (by simpa using e1)];exact wpS_pure (h _ st (SG.refl _) (vP T m e1))
 .rw[if_neg (by simpa using e1)];by_cases e2:0+1=a.size
  .rw[if_pos (by simpa using e2)];exact wpS_pure (h _ st (SG.refl _) (vQ T L m e2))
  .rw[if_neg (by simpa using e2)];refine wpS_bind (wpS_get ?_)
   refine wpS_bind (wpS_mono (wpS_forRange (I:=fun x c Zq=>SG st Zq/\c.1=none/\At κ a b c.2.1 c.2.2.1 c.2.2.2.1/\1+x<=c.2.2.1+c.2.2.2.1)
    (Q:=fun c Zq=>SG st Zq/\∃z,c.1=some z/\Rs κ a b z) ?_ ?_ ⟨SG.refl _,rfl,⟨m,by dsimp only;lia,by dsimp only;lia⟩,by dsimp only;lia⟩) ?_)
   .rintro x ⟨c0,o,i,j,g⟩ Zq _ hx ⟨sg,rfl,m',e⟩;dsimp only at m' e⊢;refine wpS_mono (mz hL T L (sg.kind.trans hk) sg m') fun r st2 h2=>?_;obtain⟨bp,h2⟩:=h2
    cases r with
    |done c=>exact⟨bp,h2⟩
    |yield c=>
     obtain⟨h2,h3,h4⟩:=h2;exact⟨bp,h2,h3,Zz⟩
   .rintro c Zq ⟨sg,h1,m',e⟩;have:=m'.ha;have:=m'.hb;exact absurd e Zz
   .rintro⟨c0,o,i,j,g⟩ Zq ⟨sg,z,e,hz⟩;dsimp only at e;rw[e];exact wpS_pure (h z Zq sg hz)
end
def jh:Array Keyed->Array Keyed->Sm (Array Keyed):=sortPriv% PySem.Builtin.mergeHi
namespace Hi
abbrev dn(a b out:Array Keyed)(na nb:Nat):Array Keyed:=a.extract 0 na++b.extract 0 nb++out.reverse
abbrev fb(a b out:Array Keyed)(na nb:Nat):Array Keyed:=b.extract 0 nb++a.extract 0 na++out.reverse
abbrev H1:=Option (Array Keyed)×Nat×Nat×Array Keyed×Nat×Nat
abbrev H2:=Option (Array Keyed)×Nat×Nat×Array Keyed×Nat×Nat×Nat
abbrev H0:=Option (Array Keyed)×Nat×Nat×Array Keyed×Nat
def one(a b:Array Keyed)(g:Nat)(na nb:Nat)(out:Array Keyed)(ac bc:Nat):Sm (ForInStep H1):=do
 let y <-elem' b (nb-1)
 let x <-elem' a (na-1)
 let r <-lt' y x
 match r with
 |some w=>
  if w=true then do
   let x <-elem' a (na-1)
   if(na-1==0)=true then pure (ForInStep.done (some (dn a b (out.push x) (na-1) nb),na-1,nb,out.push x,ac+1,0))
   else if ac+1≥g then pure (ForInStep.done (none,na-1,nb,out.push x,ac+1,0))else pure (ForInStep.yield (none,na-1,nb,out.push x,ac+1,0))
  else do
   let y <-elem' b (nb-1)
   if(nb-1==1)=true then pure (ForInStep.done (some (fb a b (out.push y) na (nb-1)),na,nb-1,out.push y,0,bc+1))
   else if bc+1≥g then pure (ForInStep.done (none,na,nb-1,out.push y,0,bc+1))else pure (ForInStep.yield (none,na,nb-1,out.push y,0,bc+1))
 |_=>pure (ForInStep.done (some (dn a b out na nb),na,nb,out,ac,bc))
def gl4(a b:Array Keyed)(na nb:Nat)(out:Array Keyed)(g k k1:Nat):Sm (ForInStep H2):=do
 let x <-elem' a (na-1)
 if(na-1==0)=true then pure (ForInStep.done (some (dn a b (out.push x) (na-1) nb),na-1,nb,out.push x,g,k,k1))
 else if(decide (k<7)&&decide (k1<7))=true then pure (ForInStep.done (none,na-1,nb,out.push x,g,k,k1))else pure (ForInStep.yield (none,na-1,nb,out.push x,g,k,k1))
def gl3(a b:Array Keyed)(na nb:Nat)(out:Array Keyed)(g k bc:Nat):Sm (ForInStep H2):=do
 let x <-elem' a (na-1)
 let r <-fj true x b 0 nb (nb-1)
 match r with
 |some t=>
  if nb-t>0 then
   if(t==1)=true then pure (ForInStep.done (some (fb a b (out++(b.extract t nb).reverse) na t),na,t,out++(b.extract t nb).reverse,g,k,nb-t))
   else if(t==0)=true then pure (ForInStep.done (some (dn a b (out++(b.extract t nb).reverse) na t),na,t,out++(b.extract t nb).reverse,g,k,nb-t))
   else gl4 a b na t (out++(b.extract t nb).reverse) g k (nb-t)
  else gl4 a b na nb out g k (nb-t)
 |_=>pure (ForInStep.done (some (dn a b out na nb),na,nb,out,g,k,bc))
def gl2(a b:Array Keyed)(na nb:Nat)(out:Array Keyed)(g k bc:Nat):Sm (ForInStep H2):=do
 let y <-elem' b (nb-1)
 if(nb-1==1)=true then pure (ForInStep.done (some (fb a b (out.push y) na (nb-1)),na,nb-1,out.push y,g,k,bc))
 else gl3 a b na (nb-1) (out.push y) g k bc
def gl1(a b:Array Keyed)(na nb:Nat)(out:Array Keyed)(g ac bc:Nat):Sm (ForInStep H2):=do
 jd g
 let y <-elem' b (nb-1)
 let r <-fj false y a 0 na (na-1)
 match r with
 |some t=>
  if na-t>0 then
   if(t==0)=true then pure (ForInStep.done (some (dn a b (out++(a.extract t na).reverse) t nb),t,nb,out++(a.extract t na).reverse,g,na-t,bc))
   else gl2 a b t nb (out++(a.extract t na).reverse) g (na-t) bc
  else gl2 a b na nb out g (na-t) bc
 |_=>pure (ForInStep.done (some (dn a b out na nb),na,nb,out,g,ac,bc))
def gal(a b:Array Keyed)(na nb:Nat)(out:Array Keyed)(g ac bc:Nat):Sm (ForInStep H2):=if g>1 then gl1 a b na nb out (g-1) ac bc else gl1 a b na nb out g ac bc
def round(a b:Array Keyed)(na nb:Nat)(out:Array Keyed)(g:Nat):Sm (ForInStep H0):=do
 let c <-forIn [0:a.size+b.size] ((none,na,nb,out,0,0):H1) fun _ c=>one a b g c.2.1 c.2.2.1 c.2.2.2.1 c.2.2.2.2.1 c.2.2.2.2.2
 match c.1 with
 |some r=>pure (ForInStep.done (some r,c.2.1,c.2.2.1,c.2.2.2.1,g))
 |none=>do
  liftM (rule "list.sort.gallop")
  let d <-forIn [0:a.size+b.size] ((none,c.2.1,c.2.2.1,c.2.2.2.1,g+1,c.2.2.2.2.1,c.2.2.2.2.2):H2) fun _ d=>gal a b d.2.1 d.2.2.1 d.2.2.2.1 d.2.2.2.2.1 d.2.2.2.2.2.1 d.2.2.2.2.2.2
  match d.1 with
  |some r=>pure (ForInStep.done (some r,d.2.1,d.2.2.1,d.2.2.2.1,d.2.2.2.2.1))
  |none=>do
   jd (d.2.2.2.2.1+1)
   pure (ForInStep.yield (none,d.2.1,d.2.2.1,d.2.2.2.1,d.2.2.2.2.1+1))
theorem Hb(a b:Array Keyed):jh a b=(do
  liftM (rule "list.sort.merge-hi")
  let e <-elem' a (a.size-1)
  if(a.size-1==0)=true then pure (dn a b #[e] (a.size-1) b.size)
  else if(b.size==1)=true then pure (fb a b #[e] (a.size-1) b.size)
  else do
   let s <-get
   let c <-forIn [0:a.size+b.size] ((none,a.size-1,b.size,#[e],gallopOf s):H0) fun _ c=>round a b c.2.1 c.2.2.1 c.2.2.2.1 c.2.2.2.2
   match c.1 with
   |some r=>pure r
   |none=>liftM (unsupported "internal:list.sort.merge-bound")):=by
 delta jh
 refine bc rfl (funext fun u=>bc rfl (funext fun e=>ic rfl (ic rfl (bc rfl (funext fun s=>bc (fi (funext fun x=>funext fun c=>?_)) (funext fun c=>?_))))))
 .unfold round;refine bc (fi (funext fun x=>funext fun c1=>?_)) (funext fun c1=>?_)
  .unfold one;refine bc rfl (funext fun y=>bc rfl (funext fun x=>bc rfl (funext fun r=>?_)))
   cases r with
   |none=>rfl
   |some w=>exact ic (bc rfl (funext fun y=>ic rfl (ic rfl rfl))) (bc rfl (funext fun y=>ic rfl (ic rfl rfl)))
  .obtain⟨r,c1⟩:=c1
   cases r with
   |some r=>rfl
   |none=>
    refine bc rfl (funext fun u=>bc (fi (funext fun x=>funext fun d=>?_)) (funext fun d=>?_))
    .unfold gal;refine ic ?_ ?_
     .unfold gl1;exact bc rfl (funext fun u=>bc rfl (funext fun y=>bc rfl (funext fun r=>by cases r with|none=>rfl|some k=>exact ic (ic rfl (by unfold gl2;exact bc rfl (funext fun y=>ic rfl (by unfold gl3;exact bc rfl (funext fun x=>bc rfl (funext fun r=>by cases r with|none=>rfl|some k1=>exact ic (ic rfl (ic rfl (by unfold gl4;exact bc rfl (funext fun x=>ic rfl (ic rfl rfl))))) (by unfold gl4;exact bc rfl (funext fun x=>ic rfl (ic rfl rfl))))))))) (by unfold gl2;exact bc rfl (funext fun y=>ic rfl (by unfold gl3;exact bc rfl (funext fun x=>bc rfl (funext fun r=>by cases r with|none=>rfl|some k1=>exact ic (ic rfl (ic rfl (by unfold gl4;exact bc rfl (funext fun x=>ic rfl (ic rfl rfl))))) (by unfold gl4;exact bc rfl (funext fun x=>ic rfl (ic rfl rfl)))))))))))
     .unfold gl1;exact bc rfl (funext fun u=>bc rfl (funext fun y=>bc rfl (funext fun r=>by cases r with|none=>rfl|some k=>exact ic (ic rfl (by unfold gl2;exact bc rfl (funext fun y=>ic rfl (by unfold gl3;exact bc rfl (funext fun x=>bc rfl (funext fun r=>by cases r with|none=>rfl|some k1=>exact ic (ic rfl (ic rfl (by unfold gl4;exact bc rfl (funext fun x=>ic rfl (ic rfl rfl))))) (by unfold gl4;exact bc rfl (funext fun x=>ic rfl (ic rfl rfl))))))))) (by unfold gl2;exact bc rfl (funext fun y=>ic rfl (by unfold gl3;exact bc rfl (funext fun x=>bc rfl (funext fun r=>by cases r with|none=>rfl|some k1=>exact ic (ic rfl (ic rfl (by unfold gl4;exact bc rfl (funext fun x=>ic rfl (ic rfl rfl))))) (by unfold gl4;exact bc rfl (funext fun x=>ic rfl (ic rfl rfl)))))))))))
    .obtain⟨r,d⟩:=d;cases r<;>rfl
 .obtain⟨r,c⟩:=c;cases r<;>rfl
section
variable{α:Type}{le:α->α->Prop}
structure MH(le:α->α->Prop)(la lb lo:List α)(na nb:Nat):Prop where
 pm:lo.Perm (la.drop na++lb.drop nb)
 sr:lo.Pairwise le
 be:∀x∈lo,∀y,y∈la.take na\/y∈lb.take nb->le y x
theorem vR{l:List α}{i j:Nat}{y:α}(h:i<=j)(hy:y∈l.take i):y∈l.take j:=by
 rw[show i=min i j by lia,<-List.take_take]at hy;exact List.mem_of_mem_take hy
theorem cut_drop{l:List α}{t n:Nat}(h:t<=n)(hn:n<=l.length):(l.take n).drop t++l.drop n=l.drop t:=by
 have e:=zB7 n l;have:(l.take n++l.drop n).drop t=(l.take n).drop t++l.drop n:=List.drop_append_of_le_length (by rw[zAd];lia);rw[e]at this;exact this.symm
theorem zG{l:List α}(hp:l.Pairwise le){t n:Nat}(h:t<=n):∀y∈l.take t,∀x∈(l.take n).drop t,le y x:=by
 have h2:(l.take n).Pairwise le:=hp.sublist (List.take_sublist _ _);have e:=zB7 t (l.take n);rw[<-e]at h2;rw[List.take_take,show min t n=t by lia]at h2;exact fun y hy x hx=>(List.pairwise_append.mp h2).2.2 y hy x hx
theorem MH.segA{la lb lo:List α}{na nb t:Nat}(m:MH le la lb lo na nb)(sa:la.Pairwise le)(ht:t<=na)(hn:na<=la.length)(h:∀x∈(la.take na).drop t,∀y∈lb.take nb,le y x):MH le la lb ((la.take na).drop t++lo) t nb:=by
 refine⟨?_,List.pairwise_append.mpr ⟨(sa.sublist (List.take_sublist _ _)).sublist (List.drop_sublist _ _),m.sr,fun x hx y hy=>m.be y hy x (.inl (List.mem_of_mem_drop hx))⟩,fun x hx y hy=>?_⟩
 .refine(List.Perm.append_left _ m.pm).trans ?_;rw[<-zAf,cut_drop ht hn]
 .rcases zA6.mp hx with z|z
  .rcases hy with hy|hy
   .exact zG sa ht y hy x z
   .exact h x z y hy
  .exact m.be x z y (hy.imp (vR ht) id)
theorem MH.segB{la lb lo:List α}{na nb t:Nat}(m:MH le la lb lo na nb)(sb:lb.Pairwise le)(ht:t<=nb)(hn:nb<=lb.length)(h:∀x∈(lb.take nb).drop t,∀y∈la.take na,le y x):MH le la lb ((lb.take nb).drop t++lo) na t:=by
 refine⟨?_,List.pairwise_append.mpr ⟨(sb.sublist (List.take_sublist _ _)).sublist (List.drop_sublist _ _),m.sr,fun x hx y hy=>m.be y hy x (.inr (List.mem_of_mem_drop hx))⟩,fun x hx y hy=>?_⟩
 .refine(List.Perm.append_left _ m.pm).trans ?_;refine(List.perm_append_comm_assoc _ _ _).trans ?_;rw[cut_drop ht hn]
 .rcases zA6.mp hx with z|z
  .rcases hy with hy|hy
   .exact h x z y hy
   .exact zG sb ht y hy x z
  .exact m.be x z y (hy.imp id (vR ht))
theorem MH.first{la lb lo:List α}{na nb:Nat}(m:MH le la lb lo na nb)(sa:la.Pairwise le)(sb:lb.Pairwise le)(h:∀y∈lb.take nb,∀x∈la.take na,le y x):Done le la lb (lb.take nb++la.take na++lo):=by
 refine⟨?_,List.pairwise_append.mpr ⟨List.pairwise_append.mpr ⟨sb.sublist (List.take_sublist _ _),sa.sublist (List.take_sublist _ _),h⟩,m.sr,fun x hx y hy=>m.be y hy x ((zA6.mp hx).symm)⟩⟩;refine(List.Perm.append_left _ m.pm).trans ?_
 have e:lb.take nb++la.take na++(la.drop na++lb.drop nb)=lb.take nb++(la++lb.drop nb):=by
  rw[zAf,<-zAf (la.take na),zB7]
 rw[e];refine(List.perm_append_comm_assoc _ _ _).trans ?_;rw[zB7]
theorem MH.endA{la lb lo:List α}{nb:Nat}(m:MH le la lb lo 0 nb)(sa:la.Pairwise le)(sb:lb.Pairwise le):Done le la lb (la.take 0++lb.take nb++lo):=by
 have:=m.first sa sb fun y _ x hx=>absurd hx Zy
 rw[List.take_zero,zAn]at this;rw[List.take_zero,List.nil_append];exact this
theorem MH.endB{la lb lo:List α}{na:Nat}(m:MH le la lb lo na 0)(sa:la.Pairwise le)(sb:lb.Pairwise le):Done le la lb (la.take na++lb.take 0++lo):=by
 have:=m.first sa sb fun y hy x _=>absurd hy Zy
 rw[List.take_zero,List.nil_append]at this;rw[List.take_zero,zAn];exact this
end
section
variable{prog:Program}{w:World}{A:Around}{E:Value->Shared->Prop}{s:Shared}{κ:PyProof.Rows.KeyKind}{ks:SortKind}{a b:Array Keyed}
theorem yc(a:Array Keyed)(n:Nat):(a.extract 0 n).toList=a.toList.take n:=by
 rw[fK];simp
theorem ext_cut(a:Array Keyed)(t n:Nat):(a.extract t n).toList=(a.toList.take n).drop t:=by
 rw[fK,List.drop_take]
theorem sV(out:Array Keyed)(x:Keyed):(out.push x).reverse.toList=x::out.reverse.toList:=by simp
theorem vU(out seg:Array Keyed):(out++seg.reverse).reverse.toList=seg.toList++out.reverse.toList:=by simp
abbrev Mh(κ:PyProof.Rows.KeyKind)(a b out:Array Keyed)(na nb:Nat):Prop:=MH (leK κ) a.toList b.toList out.reverse.toList na nb
structure At(κ:PyProof.Rows.KeyKind)(a b out:Array Keyed)(na nb:Nat):Prop where
 mi:Mh κ a b out na nb
 a1:1<=na
 a2:na<=a.size
 b1:2<=nb
 b2:nb<=b.size
theorem gh{κ:PyProof.Rows.KeyKind}{a:Array Keyed}(ka:KeysOf κ a){n:Nat}(h1:1<=n)(h2:n<=a.size):∃p,a[n-1]?=some p/\κ.keyOf p.1=some (key κ p)/\KK κ a (n-1)=key κ p/\(a.toList.take n).drop (n-1)=[p]:=by
 obtain⟨p,p1,p2,p3,p4⟩:=item ka (i:=n-1) Zz;refine⟨p,p1,p2,p3,?_⟩;rw[List.drop_take,p4,show n-(n-1)=1 by lia];rfl
theorem take_key{κ:PyProof.Rows.KeyKind}{a:Array Keyed}(ka:KeysOf κ a){n t:Nat}{x:Keyed}(h:x∈(a.toList.take n).drop t):∃j,t<=j/\j<n/\j<a.size/\KK κ a j=key κ x:=by
 rw[List.drop_take]at h;obtain⟨j,j1,j2,j3⟩:=jf ka h;exact⟨t+j,Zz,Zz,j2,j3⟩
theorem take_key0{κ:PyProof.Rows.KeyKind}{a:Array Keyed}(ka:KeysOf κ a){n:Nat}{x:Keyed}(h:x∈a.toList.take n):∃j,j<n/\j<a.size/\KK κ a j=key κ x:=by
 have h':x∈(a.toList.take n).drop 0:=by rw[List.drop_zero];exact h
 obtain⟨j,_,j1,j2,j3⟩:=take_key ka h';exact⟨j,j1,j2,j3⟩
theorem vV{κ:PyProof.Rows.KeyKind}{a:Array Keyed}(ka:KeysOf κ a)(sa:a.toList.Pairwise (leK κ)){n:Nat}{p:Keyed}(h1:1<=n)(h2:n<=a.size)(e:KK κ a (n-1)=key κ p):∀y∈a.toList.take n,leK κ y p:=fun y hy=>by
 obtain⟨j,j1,j2,j3⟩:=take_key0 ka hy;have:=jg ka sa (i:=j) (j:=n-1) Zz Zz;rw[j3,e]at this;exact this
theorem pushA{out:Array Keyed}{na nb:Nat}{x:Keyed}(T:Two κ a b)(m:Mh κ a b out na nb)(h1:1<=na)(h2:na<=a.size)(e:(a.toList.take na).drop (na-1)=[x])(h:∀y∈b.toList.take nb,leK κ y x):Mh κ a b (out.push x) (na-1) nb:=by
 have:=MH.segA (t:=na-1) m T.sa Zz (by rw[zA9];exact h2) fun z hz y hy=>by
  rw[e]at hz;rw[List.mem_singleton.mp hz];exact h y hy
 rw[e]at this;unfold Mh;rw[sV];exact this
theorem pushB{out:Array Keyed}{na nb:Nat}{x:Keyed}(T:Two κ a b)(m:Mh κ a b out na nb)(h1:1<=nb)(h2:nb<=b.size)(e:(b.toList.take nb).drop (nb-1)=[x])(h:∀y∈a.toList.take na,leK κ y x):Mh κ a b (out.push x) na (nb-1):=by
 have:=MH.segB (t:=nb-1) m T.sb Zz (by rw[zA9];exact h2) fun z hz y hy=>by
  rw[e]at hz;rw[List.mem_singleton.mp hz];exact h y hy
 rw[e]at this;unfold Mh;rw[sV];exact this
theorem Hf{out:Array Keyed}{na nb t:Nat}(T:Two κ a b)(m:Mh κ a b out na nb)(ht:t<=na)(h2:na<=a.size)(h:∀x∈(a.toList.take na).drop t,∀y∈b.toList.take nb,leK κ y x):Mh κ a b (out++(a.extract t na).reverse) t nb:=by
 have:=MH.segA m T.sa ht (by rw[zA9];exact h2) h;unfold Mh;rw[vU,ext_cut];exact this
theorem Hg{out:Array Keyed}{na nb t:Nat}(T:Two κ a b)(m:Mh κ a b out na nb)(ht:t<=nb)(h2:nb<=b.size)(h:∀x∈(b.toList.take nb).drop t,∀y∈a.toList.take na,leK κ y x):Mh κ a b (out++(b.extract t nb).reverse) na t:=by
 have:=MH.segB m T.sb ht (by rw[zA9];exact h2) h;unfold Mh;rw[vU,ext_cut];exact this
def FirstB(κ:PyProof.Rows.KeyKind)(a b:Array Keyed):Prop:=∀y∈b.toList.take 1,∀x∈a.toList,leK κ y x
theorem e_a{out:Array Keyed}{na nb:Nat}(T:Two κ a b)(m:Mh κ a b out na nb)(h:na=0):Rs κ a b (dn a b out na nb):=by
 subst h;have:=MH.endA m T.sa T.sb;unfold Rs dn;rw[Array.toList_append,Array.toList_append,yc,yc];exact this
theorem e_b{out:Array Keyed}{na nb:Nat}(T:Two κ a b)(m:Mh κ a b out na nb)(h:nb=0):Rs κ a b (dn a b out na nb):=by
 subst h;have:=MH.endB m T.sa T.sb;unfold Rs dn;rw[Array.toList_append,Array.toList_append,yc,yc];exact this
theorem e_f{out:Array Keyed}{na nb:Nat}(T:Two κ a b)(F:FirstB κ a b)(m:Mh κ a b out na nb)(h:nb=1):Rs κ a b (fb a b out na nb):=by
 subst h
 have:=MH.first m T.sa T.sb fun y hy x hx=>F y hy x (List.mem_of_mem_take hx)
 unfold Rs fb;rw[Array.toList_append,Array.toList_append,yc,yc];exact this
theorem uN(hL:LtAll prog w A E s κ ks)(T:Two κ a b)(F:FirstB κ a b){g na nb ac bc:Nat}{out:Array Keyed}{st:SortSt}(hk:kindOf st=ks)(m:At κ a b out na nb):
  wpS (model prog w) A E s (one a b g na nb out ac bc) (fun r Zq=>Zq=st/\match r with
   |.done c=>(∃z,c.1=some z/\Rs κ a b z)\/(c.1=none/\At κ a b c.2.2.2.1 c.2.1 c.2.2.1/\c.2.1+c.2.2.1+1=na+nb)
   |.yield c=>c.1=none/\At κ a b c.2.2.2.1 c.2.1 c.2.2.1/\c.2.1+c.2.2.1+1=na+nb) st:=by
 obtain⟨mi,a1,a2,b1,b2⟩:=m;obtain⟨x,x1,x2,x3,x4⟩:=gh T.ka a1 a2;obtain⟨y,y1,y2,y3,y4⟩:=gh T.kb (show 1<=nb by lia) b2;unfold one;refine wpS_bind (bj y1 (wpS_bind (bj x1 (wpS_bind (hL st hk _ _ _ _ _ y2 x2 ?_)))))
 cases e:κ.blt (key κ y) (key κ x)with
 |true=>
  dsimp only;rw[if_pos rfl];refine wpS_bind (bj x1 ?_);have m':=pushA T mi a1 a2 x4 fun z hz=>dq (vV T.kb T.sb Zz b2 y3 z hz) (KeyOrd.kle_of_klt e);by_cases h0:na-1=0
  .rw[if_pos (by simpa using h0)];exact wpS_pure ⟨rfl,.inl ⟨_,rfl,e_a T m' h0⟩⟩
  .rw[if_neg (by simpa using h0)]
   have at':At κ a b (out.push x) (na-1) nb:=⟨m',Zz,Zz,b1,b2⟩
   split
   .exact wpS_pure ⟨rfl,.inr ⟨rfl,at',by dsimp only;lia⟩⟩
   .exact wpS_pure ⟨rfl,rfl,at',by dsimp only;lia⟩
 |false=>
  dsimp only;rw[if_neg Zx];refine wpS_bind (bj y1 ?_);have m':=pushB T mi Zz b2 y4 fun z hz=>dq (vV T.ka T.sa a1 a2 x3 z hz) (show leK κ x y from e);by_cases h0:nb-1=1
  .rw[if_pos (by simpa using h0)];exact wpS_pure ⟨rfl,.inl ⟨_,rfl,e_f T F m' h0⟩⟩
  .rw[if_neg (by simpa using h0)]
   have at':At κ a b (out.push y) na (nb-1):=⟨m',a1,a2,Zz,Zz⟩
   split
   .exact wpS_pure ⟨rfl,.inr ⟨rfl,at',by dsimp only;lia⟩⟩
   .exact wpS_pure ⟨rfl,rfl,at',by dsimp only;lia⟩
def G2(κ:PyProof.Rows.KeyKind)(a b:Array Keyed)(n:Nat)(st:SortSt)(r:ForInStep H2)(Zq:SortSt):Prop:=SG st Zq/\match r with
 |.done c=>(∃z,c.1=some z/\Rs κ a b z)\/(c.1=none/\At κ a b c.2.2.2.1 c.2.1 c.2.2.1/\c.2.1+c.2.2.1<n)
 |.yield c=>c.1=none/\At κ a b c.2.2.2.1 c.2.1 c.2.2.1/\c.2.1+c.2.2.1<n
theorem mq(T:Two κ a b){g na nb k k1 n:Nat}{out:Array Keyed}{bo st:SortSt}(sg:SG bo st)(m:At κ a b out na nb)(hn:na+nb<=n)(h:∀y∈b.toList.take nb,∀x,a[na-1]?=some x->leK κ y x):
  wpS (model prog w) A E s (gl4 a b na nb out g k k1) (G2 κ a b n bo) st:=by
 obtain⟨mi,a1,a2,b1,b2⟩:=m;obtain⟨x,x1,x2,x3,x4⟩:=gh T.ka a1 a2;unfold gl4;refine wpS_bind (bj x1 ?_);have m':=pushA T mi a1 a2 x4 fun z hz=>h z hz x x1;by_cases h0:na-1=0
 .rw[if_pos (by simpa using h0)];exact wpS_pure ⟨sg,.inl ⟨_,rfl,e_a T m' h0⟩⟩
 .rw[if_neg (by simpa using h0)]
  have at':At κ a b (out.push x) (na-1) nb:=⟨m',Zz,Zz,b1,b2⟩
  split
  .exact wpS_pure ⟨sg,.inr ⟨rfl,at',by dsimp only;lia⟩⟩
  .exact wpS_pure ⟨sg,rfl,at',by dsimp only;lia⟩
theorem uO(hL:LtAll prog w A E s κ ks)(T:Two κ a b)(F:FirstB κ a b){g na nb k bc n:Nat}{out:Array Keyed}{bo st:SortSt}(hk:kindOf st=ks)(sg:SG bo st)(m:At κ a b out na nb)(hn:na+nb<=n):
  wpS (model prog w) A E s (gl3 a b na nb out g k bc) (G2 κ a b n bo) st:=by
 obtain⟨mi,a1,a2,b1,b2⟩:=id m;obtain⟨x,x1,x2,x3,x4⟩:=gh T.ka a1 a2;unfold gl3;refine wpS_bind (bj x1 ?_);refine wpS_bind (dF (κ:=κ) (kk:=key κ x) (hL st hk) x2 Zz (fun i hi=>?_) (fun i j bE hj gu=>?_) fun t kn kt kf=>?_)
 .obtain⟨p,p1,p2,p3,_⟩:=item T.kb (i:=0+i) Zz;exact⟨p,_,p1,p2,p3⟩
 .have mono:=jg T.kb T.sb (i:=0+i) (j:=0+j) Zz Zz;exact KeyOrd.klt_of_kle_of_klt mono gu
 .have early:∀y∈b.toList.take t,∀z,a[na-1]?=some z->leK κ y z:=fun y hy z hz=>by
   rw[x1]at hz;cases hz;obtain⟨j,j1,j2,j3⟩:=take_key0 T.kb hy;have:=kt j j1;rw[Nat.zero_add,j3]at this;exact KeyOrd.kle_of_klt this
  by_cases h0:nb-t>0
  .dsimp only;rw[if_pos h0]
   have m':=Hg T mi (show t<=nb by lia) b2 fun z hz y hy=>by
    obtain⟨j,j1,j2,j3,j4⟩:=take_key T.kb hz;have:=kf j j1 j2;rw[Nat.zero_add,j4]at this;exact dq (vV T.ka T.sa a1 a2 x3 y hy) (show leK κ x z from this)
   by_cases e:t=1
   .rw[if_pos (by simpa using e)];exact wpS_pure ⟨sg,.inl ⟨_,rfl,e_f T F m' e⟩⟩
   .rw[if_neg (by simpa using e)];by_cases e2:t=0
    .rw[if_pos (by simpa using e2)];exact wpS_pure ⟨sg,.inl ⟨_,rfl,e_b T m' e2⟩⟩
    .rw[if_neg (by simpa using e2)];exact mq T sg ⟨m',a1,a2,Zz,Zz⟩ Zz early
  .dsimp only;rw[if_neg h0];have e:t=nb:=Zz
   rw[e]at early;exact mq T sg m hn early
theorem my(hL:LtAll prog w A E s κ ks)(T:Two κ a b)(F:FirstB κ a b){g na nb k bc n:Nat}{out:Array Keyed}{bo st:SortSt}(hk:kindOf st=ks)(sg:SG bo st)(m:At κ a b out na nb)(hn:na+nb<=n)(h:∀x∈a.toList.take na,∀y,b[nb-1]?=some y->leK κ x y):
  wpS (model prog w) A E s (gl2 a b na nb out g k bc) (G2 κ a b n bo) st:=by
 obtain⟨mi,a1,a2,b1,b2⟩:=m;obtain⟨y,y1,y2,y3,y4⟩:=gh T.kb (show 1<=nb by lia) b2;unfold gl2;refine wpS_bind (bj y1 ?_);have m':=pushB T mi Zz b2 y4 fun z hz=>h z hz y y1;by_cases h0:nb-1=1
 .rw[if_pos (by simpa using h0)];exact wpS_pure ⟨sg,.inl ⟨_,rfl,e_f T F m' h0⟩⟩
 .rw[if_neg (by simpa using h0)];exact uO hL T F hk sg ⟨m',a1,a2,Zz,Zz⟩ Zz
theorem uP(hL:LtAll prog w A E s κ ks)(T:Two κ a b)(F:FirstB κ a b){g na nb ac bc n:Nat}{out:Array Keyed}{bo st:SortSt}(hk:kindOf st=ks)(sg:SG bo st)(m:At κ a b out na nb)(hn:na+nb<=n):
  wpS (model prog w) A E s (gl1 a b na nb out g ac bc) (G2 κ a b n bo) st:=by
 obtain⟨mi,a1,a2,b1,b2⟩:=id m;obtain⟨y,y1,y2,y3,y4⟩:=gh T.kb (show 1<=nb by lia) b2;unfold gl1;refine wpS_bind (iy fun Zq eW=>?_);have cm:kindOf Zq=ks:=eW.kind.trans hk
 have bp:SG bo Zq:=⟨eW.kind.trans sg.kind,eW.arr.trans sg.arr,eW.pend.trans sg.pend,eW.fail.trans sg.fail⟩
 refine wpS_bind (bj y1 ?_);refine wpS_bind (dF (κ:=κ) (kk:=key κ y) (hL Zq cm) y2 Zz (fun i hi=>?_) (fun i j bE hj gu=>?_) fun t kn kt kf=>?_)
 .obtain⟨p,p1,p2,p3,_⟩:=item T.ka (i:=0+i) Zz;exact⟨p,_,p1,p2,p3⟩
 .have mono:=jg T.ka T.sa (i:=0+i) (j:=0+j) Zz Zz;have gu:(!κ.blt (key κ y) (KK κ a (0+j)))=true:=gu;show(!κ.blt (key κ y) (KK κ a (0+i)))=true;rw[Bool.not_eq_true']at gu⊢;exact KeyOrd.kle_trans mono gu
 .have early:∀x∈a.toList.take t,∀z,b[nb-1]?=some z->leK κ x z:=fun x hx z hz=>by
   rw[y1]at hz;cases hz;obtain⟨j,j1,j2,j3⟩:=take_key0 T.ka hx;have:=kt j j1;rw[Nat.zero_add,j3]at this;have this:(!κ.blt (key κ y) (key κ x))=true:=this;rw[Bool.not_eq_true']at this;exact this
  by_cases h0:na-t>0
  .dsimp only;rw[if_pos h0]
   have m':=Hf T mi (show t<=na by lia) a2 fun z hz x hx=>by
    obtain⟨j,j1,j2,j3,j4⟩:=take_key T.ka hz;have:=kf j j1 j2;rw[Nat.zero_add,j4]at this;have this:(!κ.blt (key κ y) (key κ z))=false:=this;rw[Bool.not_eq_false']at this;exact dq (vV T.kb T.sb Zz b2 y3 x hx) (KeyOrd.kle_of_klt this)
   by_cases e:t=0
   .rw[if_pos (by simpa using e)];exact wpS_pure ⟨bp,.inl ⟨_,rfl,e_a T m' e⟩⟩
   .rw[if_neg (by simpa using e)];exact my hL T F cm bp ⟨m',Zz,Zz,b1,b2⟩ Zz early
  .dsimp only;rw[if_neg h0];have e:t=na:=Zz
   rw[e]at early;exact my hL T F cm bp m hn early
theorem mz(hL:LtAll prog w A E s κ ks)(T:Two κ a b)(F:FirstB κ a b){g na nb:Nat}{out:Array Keyed}{bo st:SortSt}(hk:kindOf st=ks)(sg:SG bo st)(m:At κ a b out na nb):
  wpS (model prog w) A E s (round a b na nb out g) (fun r Zq=>SG bo Zq/\match r with
   |.done c=>∃z,c.1=some z/\Rs κ a b z
   |.yield c=>c.1=none/\At κ a b c.2.2.2.1 c.2.1 c.2.2.1/\c.2.1+c.2.2.1<na+nb) st:=by
 unfold round
 have Le:0<a.size+b.size:=by
  have:=m.a1;have:=m.a2;lia
 refine wpS_bind (wpS_mono (wpS_forRange (I:=fun x c Zq=>Zq=st/\c.1=none/\At κ a b c.2.2.2.1 c.2.1 c.2.2.1/\c.2.1+c.2.2.1+x=na+nb)
  (Q:=fun c Zq=>Zq=st/\((∃z,c.1=some z/\Rs κ a b z)\/(c.1=none/\At κ a b c.2.2.2.1 c.2.1 c.2.2.1/\c.2.1+c.2.2.1<na+nb))) ?_ ?_ ⟨rfl,rfl,m,rfl⟩) ?_)
 .rintro x ⟨c0,i,j,o,ac,bc⟩ Zq _ hx ⟨rfl,rfl,m',e⟩;dsimp only at m' e⊢;refine wpS_mono (uN hL T F hk m') fun r st2 h2=>?_;obtain⟨rfl,h2⟩:=h2
  cases r with
  |done c=>
   rcases h2 with h2|⟨h2,h3,h4⟩
   .exact⟨rfl,.inl h2⟩
   .exact⟨rfl,.inr ⟨h2,h3,Zz⟩⟩
  |yield c=>
   obtain⟨h2,h3,h4⟩:=h2;exact⟨rfl,h2,h3,Zz⟩
 .rintro c Zq ⟨rfl,h1,h2,h3⟩;exact⟨rfl,.inr ⟨h1,h2,Zz⟩⟩
 .rintro⟨c0,i,j,o,ac,bc⟩ Zq ⟨rfl,h⟩;dsimp only at h⊢;rcases h with⟨z,rfl,hz⟩|⟨rfl,m',bE⟩
  .exact wpS_pure ⟨sg,z,rfl,hz⟩
  .dsimp only;refine wpS_bind (wpS_lift (wpAny_rule ⟨rfl,?_⟩))
   refine wpS_bind (wpS_mono (wpS_forRange (I:=fun x c st2=>SG bo st2/\c.1=none/\At κ a b c.2.2.2.1 c.2.1 c.2.2.1/\c.2.1+c.2.2.1<na+nb)
    (Q:=fun c st2=>SG bo st2/\((∃z,c.1=some z/\Rs κ a b z)\/(c.1=none/\At κ a b c.2.2.2.1 c.2.1 c.2.2.1/\c.2.1+c.2.2.1<na+nb))) ?_ ?_ ⟨sg,rfl,m',bE⟩) ?_)
   .rintro x ⟨c0,i,j,o,g2,ac,bc⟩ st2 _ hx ⟨bp,rfl,m2,e2⟩;dsimp only at m2 e2⊢;have uk:kindOf st2=ks:=bp.kind.trans (sg.kind.symm.trans hk);have go:∀g',wpS (model prog w) A E s (gl1 a b i j o g' ac bc) (G2 κ a b (na+nb) bo) st2:=fun g'=>uP hL T F uk bp m2 Zz;unfold gal;split
    .refine wpS_mono (go _) fun r fz h3=>?_;obtain⟨h3,h4⟩:=h3
     cases r with
     |done c=>exact⟨h3,h4⟩
     |yield c=>exact⟨h3,h4⟩
    .refine wpS_mono (go _) fun r fz h3=>?_;obtain⟨h3,h4⟩:=h3
     cases r with
     |done c=>exact⟨h3,h4⟩
     |yield c=>exact⟨h3,h4⟩
   .rintro c st2 ⟨h0,h1,h2,h3⟩;exact⟨h0,.inr ⟨h1,h2,h3⟩⟩
   .rintro⟨c0,i,j,o,g2,ac,bc⟩ st2 ⟨bp,h⟩;dsimp only at h⊢;rcases h with⟨z,rfl,hz⟩|⟨rfl,m2,om⟩
    .exact wpS_pure ⟨bp,z,rfl,hz⟩
    .dsimp only;refine wpS_bind (iy fun fz kC=>wpS_pure ⟨⟨kC.kind.trans bp.kind,kC.arr.trans bp.arr,kC.pend.trans bp.pend,kC.fail.trans bp.fail⟩,rfl,m2,om⟩)
theorem hi_wp(hL:LtAll prog w A E s κ ks)(T:Two κ a b)(L:iH κ a b)(F:FirstB κ a b)(ha:0<a.size)(hb:0<b.size){st:SortSt}(hk:kindOf st=ks){Q:Array Keyed->SortSt->Prop}
  (h:∀r Zq,SG st Zq->Rs κ a b r->Q r Zq):wpS (model prog w) A E s (jh a b) Q st:=by
 rw[Hb];obtain⟨x,x1,x2,x3,x4⟩:=gh T.ka (n:=a.size) ha (zA3 _);refine wpS_bind (wpS_lift (wpAny_rule ⟨rfl,?_⟩));refine wpS_bind (bj x1 ?_)
 have m0:Mh κ a b #[] a.size b.size:=by
  refine⟨?_,List.Pairwise.nil,fun x hx=>absurd hx Zy⟩;rw[List.drop_of_length_le (by rw[zA9];exact zA3 _),List.drop_of_length_le (by rw[zA9];exact zA3 _)];exact List.Perm.nil
 have m:Mh κ a b #[x] (a.size-1) b.size:=pushA (out:=#[]) T m0 ha (zA3 _) x4 fun y hy=>L y (List.mem_of_mem_take hy) x (by
  rw[<-zA9,zAm,zA9]at x4;rw[x4]
  exact List.mem_cons_self)
 by_cases e1:a.size-1=0
 .rw[if_pos (by simpa using e1)];exact wpS_pure (h _ st (SG.refl _) (e_a T m e1))
 .rw[if_neg (by simpa using e1)];by_cases e2:b.size=1
  .rw[if_pos (by simpa using e2)];exact wpS_pure (h _ st (SG.refl _) (e_f T F m e2))
  .rw[if_neg (by simpa using e2)];refine wpS_bind (wpS_get ?_)
   refine wpS_bind (wpS_mono (wpS_forRange (I:=fun x c Zq=>SG st Zq/\c.1=none/\At κ a b c.2.2.2.1 c.2.1 c.2.2.1/\c.2.1+c.2.2.1+x<a.size+b.size)
    (Q:=fun c Zq=>SG st Zq/\∃z,c.1=some z/\Rs κ a b z) ?_ ?_ ⟨SG.refl _,rfl,⟨m,by dsimp only;lia,by dsimp only;lia,by dsimp only;lia,Nat.le_refl _⟩,by dsimp only;lia⟩) ?_)
   .rintro x ⟨c0,i,j,o,g⟩ Zq _ hx ⟨sg,rfl,m',e⟩;dsimp only at m' e⊢;refine wpS_mono (mz hL T F (sg.kind.trans hk) sg m') fun r st2 h2=>?_;obtain⟨bp,h2⟩:=h2
    cases r with
    |done c=>exact⟨bp,h2⟩
    |yield c=>
     obtain⟨h2,h3,h4⟩:=h2;exact⟨bp,h2,h3,Zz⟩
   .rintro c Zq ⟨sg,h1,m',e⟩;exact absurd e Zz
   .rintro⟨c0,i,j,o,g⟩ Zq ⟨sg,z,e,hz⟩;dsimp only at e;rw[e];exact wpS_pure (h z Zq sg hz)
end
end Hi
open PySem PyProof.Rows
def over(arr:Array Keyed)(n:Nat)(l:List Keyed):Array Keyed:=l.zipIdx.foldl (fun a p=>a.setIfInBounds (n+p.2) p.1) arr
theorem qC:∀(l:List Keyed) (j n:Nat) (arr:Array Keyed),n+j+l.length<=arr.size->
  (((l.zipIdx j).foldl (fun a p=>a.setIfInBounds (n+p.2) p.1) arr).size=arr.size/\∀i,((l.zipIdx j).foldl (fun a p=>a.setIfInBounds (n+p.2) p.1) arr)[i]?=if n+j<=i/\i<n+j+l.length then l[i-(n+j)]? else arr[i]?)
 |[],j,n,arr,_=>by
  refine⟨rfl,fun i=>?_⟩;rw[zAu (by rw[List.length_nil];lia)];rfl
 |p::l,j,n,arr,h=>by
  rw[zAe]at h;rw[List.zipIdx_cons,List.foldl_cons];obtain⟨h1,h2⟩:=qC l (j+1) n (arr.setIfInBounds (n+j) p) (by rw[Array.size_setIfInBounds];lia);refine⟨by rw[h1,Array.size_setIfInBounds],fun i=>?_⟩;rw[h2 i,zAe,Array.getElem?_setIfInBounds];by_cases e:n+j=i
  .subst e;rw[if_neg Zz,if_pos rfl,if_pos Zz,if_pos Zz];simp
  .rw[zAu e];by_cases e2:n+(j+1)<=i/\i<n+(j+1)+l.length
   .rw[zAv e2,zAv Zz,show i-(n+j)=(i-(n+(j+1)))+1 by lia];rfl
   .rw[zAu e2,zAu Zz]
theorem yd{arr:Array Keyed}{n:Nat}{l:List Keyed}(h:n+l.length<=arr.size):(over arr n l).toList=arr.toList.take n++l++arr.toList.drop (n+l.length):=by
 obtain⟨h1,h2⟩:=qC l 0 n arr Zz;refine List.ext_getElem? fun i=>?_;rw[Array.getElem?_toList];show((l.zipIdx 0).foldl (fun a p=>a.setIfInBounds (n+p.2) p.1) arr)[i]?=_;have hl:arr.toList.length=arr.size:=zA9;rw[h2 i,zAf,List.getElem?_append,zAd,hl,show min n arr.size=n by lia,List.getElem?_append];by_cases e1:i<n
 .rw[zAu Zz,zAv e1,List.getElem?_take,zAv e1,Array.getElem?_toList]
 .rw[zAu e1];by_cases e2:i<n+l.length
  .rw[zAv Zz,zAv Zz];rfl
  .rw[zAu Zz,zAu Zz,List.getElem?_drop,Array.getElem?_toList];congr 1;lia
theorem pw_of_seg{κ:PyProof.Rows.KeyKind}{arr:Array Keyed}(ka:KeysOf κ arr){lo hi:Nat}(hh:hi<=arr.size)(h:Seg κ arr lo hi):((arr.toList.take hi).drop lo).Pairwise (leK κ):=by
 rw[List.pairwise_iff_getElem];intro i j gz uS bE;rw[List.length_drop,zAd,zA9]at gz uS;rw[List.getElem_drop,List.getElem_drop,List.getElem_take,List.getElem_take]
 have cq:∀k,(hk:k<arr.toList.length)->k<arr.size->key κ arr.toList[k]=KK κ arr k:=fun k hk cm=>by
  obtain⟨p,p1,p2,p3,p4⟩:=item ka cm;rw[p3]
  have e:arr.toList[k]?=some p:=by
   rw[Array.getElem?_toList];exact p1
  rw[zA0 hk]at e;rw[zAl e]
 unfold leK;rw[cq _ _ Zz,cq _ _ Zz];exact h _ _ Zz Zz Zz
theorem ye{κ:PyProof.Rows.KeyKind}{arr:Array Keyed}(ka:KeysOf κ arr){lo hi:Nat}(hh:hi<=arr.size)(h:((arr.toList.take hi).drop lo).Pairwise (leK κ)):Seg κ arr lo hi:=by
 intro i j h1 h2 h3;by_cases e:i=j
 .rw[e];exact KeyOrd.kle_refl _
 .rw[List.pairwise_iff_getElem]at h
  have cq:∀k,(hk:k<arr.toList.length)->k<arr.size->key κ arr.toList[k]=KK κ arr k:=fun k hk cm=>by
   obtain⟨p,p1,p2,p3,p4⟩:=item ka cm;rw[p3]
   have e:arr.toList[k]?=some p:=by
    rw[Array.getElem?_toList];exact p1
   rw[zA0 hk]at e;rw[zAl e]
  have:=h (i-lo) (j-lo) (by rw[List.length_drop,zAd,zA9];lia) (by rw[List.length_drop,zAd,zA9];lia) Zz;rw[List.getElem_drop,List.getElem_drop,List.getElem_take,List.getElem_take]at this;unfold leK at this;rw[cq _ _ Zz,cq _ _ Zz]at this;rw[show lo+(i-lo)=i by lia,show lo+(j-lo)=j by lia]at this;exact this
theorem Hh(i:Nat):mergeAt' i=(do
  let s <-get
  match(pendingOf s)[i]?,(pendingOf s)[i+1]? with
  |some p,some q=>do
   set (setPending s (((pendingOf s).setIfInBounds i (p.1,p.2.1+q.2.1,p.2.2)).eraseIdxIfInBounds (i+1)))
   let y <-elem' (arrOf s) q.1
   let r <-fj false y (arrOf s) p.1 p.2.1 0
   match r with
   |some k=>
    if(p.2.1-k==0)=true then pure true
    else do
     let x <-elem' (arrOf s) (p.1+k+(p.2.1-k)-1)
     let r <-fj true x (arrOf s) q.1 q.2.1 (q.2.1-1)
     match r with
     |some n=>
      if(n==0)=true then pure true
      else do
       let m <-if p.2.1-k<=n then jc ((arrOf s).extract (p.1+k) q.1) ((arrOf s).extract q.1 (q.1+n))else jh ((arrOf s).extract (p.1+k) q.1) ((arrOf s).extract q.1 (q.1+n))
       modify fun s'=>setArr s' (over (arrOf s') (p.1+k) m.toList)
       let s' <-get
       pure (failedOf s').isNone
     |_=>pure false
   |_=>pure false
  |_,_=>liftM (unsupported "internal:list.sort.pending")):=by
 delta mergeAt'
 refine bc rfl (funext fun s=>?_);generalize e1:(pendingOf s)[i]?=o1;generalize e2:(pendingOf s)[i+1]?=o2
 cases o1 with
 |none=>cases o2<;>rfl
 |some p=>
  obtain⟨sa,na,pw⟩:=p
  cases o2 with
  |none=>rfl
  |some q=>
   obtain⟨sb,nb,BY⟩:=q;refine bc rfl (funext fun u=>bc rfl (funext fun y=>bc rfl (funext fun r=>?_)))
   cases r with
   |none=>rfl
   |some k=>
    refine ic rfl (bc rfl (funext fun x=>bc rfl (funext fun r=>?_)))
    cases r with
    |none=>rfl
    |some n=>exact ic rfl (ic (bc rfl (funext fun m=>rfl)) (bc rfl (funext fun m=>rfl)))
theorem keys_perm{κ:PyProof.Rows.KeyKind}{ae xs:Array Keyed}(h0:KeysOf κ ae)(h:xs.Perm ae):KeysOf κ xs:=fun p hp=>h0 p ((Array.perm_iff_toList_perm.mp h).mem_iff.mp hp)
theorem sW{κ:PyProof.Rows.KeyKind}{xs:Array Keyed}(h0:KeysOf κ xs)(i j:Nat):KeysOf κ (xs.extract i j):=fun p hp=>by
 rw[fK]at hp;exact h0 p (List.mem_of_mem_drop (List.mem_of_mem_take hp))
section
variable{prog:Program}{w:World}{A:Around}{E:Value->Shared->Prop}{s:Shared}{κ:PyProof.Rows.KeyKind}{ks:SortKind}{ae:Array Keyed}
structure Mg(κ:PyProof.Rows.KeyKind)(ks:SortKind)(ae:Array Keyed)(st Zq:SortSt)(sa hi:Nat)(pend:Array (Nat×Nat×Nat)):Prop where
 base:SB ks ae Zq
 out:∀k,(k<sa\/hi<=k)->(arrOf Zq)[k]?=(arrOf st)[k]?
 seg:Seg κ (arrOf Zq) sa hi
 pend:pendingOf Zq=pend
theorem zH{l:List Keyed}{i j k m:Nat}(h1:i<=j)(h2:j<=k)(h3:k<=m)(h4:m<=l.length):(l.take m).drop i=(l.take j).drop i++((l.take k).drop j++(l.take m).drop k):=by
 have c:∀{x y z:Nat},x<=y->y<=z->z<=l.length->(l.take z).drop x=(l.take y).drop x++(l.take z).drop y:=fun{x y z} a b d=>by
  have:=Hi.cut_drop (l:=l.take z) (t:=x) (n:=y) a (by rw[zAd];lia);rw[List.take_take,show min y z=y by lia]at this;exact this.symm
 rw[c h1 Zz h4,c h2 h3 h4]
theorem Hk(hL:LtAll prog w A E s κ ks)(h0:KeysOf κ ae){st:SortSt}(B:SB ks ae st){i sa na pw nb BY:Nat}(e1:(pendingOf st)[i]?=some (sa,na,pw))(e2:(pendingOf st)[i+1]?=some (sa+na,nb,BY))
  (n1:1<=na) (n2:1<=nb) (hz:sa+na+nb<=ae.size) (s1:Seg κ (arrOf st) sa (sa+na)) (s2:Seg κ (arrOf st) (sa+na) (sa+na+nb)) {Q:Bool->SortSt->Prop}
  (h:∀Zq,Mg κ ks ae st Zq sa (sa+na+nb) (((pendingOf st).setIfInBounds i (sa,na+nb,pw)).eraseIdxIfInBounds (i+1))->Q true Zq):wpS (model prog w) A E s (mergeAt' i) Q st:=by
 rw[Hh];refine wpS_bind (wpS_get ?_);rw[e1,e2];dsimp only;have kA:KeysOf κ (arrOf st):=keys_perm h0 B.pm;have hsz:(arrOf st).size=ae.size:=B.size;have fw:(arrOf st).toList.length=ae.size:=by rw[zA9,hsz]
 obtain⟨P,eP⟩:∃P,P=((pendingOf st).setIfInBounds i (sa,na+nb,pw)).eraseIdxIfInBounds (i+1):=⟨_,rfl⟩
 rw[<-eP]at h⊢
 have B0:∀{R:PUnit->SortSt->Prop},R ⟨⟩ (setPending st P)->wpS (model prog w) A E s (set (setPending st P):Sm PUnit) R st:=fun hR=>by
  unfold wpS;rw[StateT.run_set];exact zB0 ⟨rfl,hR⟩
 refine wpS_bind (B0 ?_)
 obtain⟨eR,kD⟩:∃eR,eR=setPending st P:=⟨_,rfl⟩
 have k1:kindOf eR=ks:=by rw[kD];exact B.kind
 have a1:arrOf eR=arrOf st:=by rw[kD]
 have p1:pendingOf eR=P:=by rw[kD]
 have f1:failedOf eR=none:=by rw[kD];exact B.ok
 rw[<-kD]
 have all:Seg κ (arrOf st) sa (sa+na+nb)->Mg κ ks ae st eR sa (sa+na+nb) P:=fun sg=>⟨⟨k1,f1,by rw[a1];exact B.pm⟩,fun k _=>by rw[a1],by rw[a1];exact sg,p1⟩
 obtain⟨y,y1,y2,y3,y4⟩:=item kA (i:=sa+na) Zz;refine wpS_bind (bj y1 ?_);refine wpS_bind (dF (κ:=κ) (kk:=key κ y) (hL eR k1) y2 Zz (fun j hj=>?_) (fun j j' Lf uS hb=>?_) fun k kn kt kf=>?_)
 .obtain⟨p,q1,q2,q3,_⟩:=item kA (i:=sa+j) Zz;exact⟨p,_,q1,q2,q3⟩
 .have mono:=s1 (sa+j) (sa+j') Zz Zz Zz;have hb:(!κ.blt (key κ y) (KK κ (arrOf st) (sa+j')))=true:=hb;show(!κ.blt (key κ y) (KK κ (arrOf st) (sa+j)))=true;rw[Bool.not_eq_true']at hb⊢;exact KeyOrd.kle_trans mono hb
 .have B6:∀j,sa<=j->j<sa+k->κ.kle (KK κ (arrOf st) j) (KK κ (arrOf st) (sa+na)):=fun j j1 j2=>by
   have:=kt (j-sa) Zz;rw[show sa+(j-sa)=j by lia]at this;have this:(!κ.blt (key κ y) (KK κ (arrOf st) j))=true:=this;rw[Bool.not_eq_true']at this;rw[y3];exact this
  have Lg:∀j,sa+k<=j->j<sa+na->κ.kle (KK κ (arrOf st) (sa+na)) (KK κ (arrOf st) j):=fun j j1 j2=>by
   have:=kf (j-sa) Zz Zz;rw[show sa+(j-sa)=j by lia]at this;have this:(!κ.blt (key κ y) (KK κ (arrOf st) j))=false:=this;rw[Bool.not_eq_false']at this;rw[y3];exact KeyOrd.kle_of_klt this
  dsimp only;by_cases qB:na-k=0
  .rw[if_pos (by simpa using qB)];refine wpS_pure (h eR (all fun u v hu u7 hv=>?_));by_cases c1:v<sa+na
   .exact s1 u v hu u7 c1
   .by_cases c2:u<sa+na
    .exact KeyOrd.kle_trans (B6 u hu Zz) (s2 (sa+na) v (zA3 _) Zz hv)
    .exact s2 u v Zz u7 hv
  .rw[if_neg (by simpa using qB)];rw[show sa+k+(na-k)-1=sa+na-1 by lia];obtain⟨x,x1,x2,x3,x4⟩:=item kA (i:=sa+na-1) Zz;refine wpS_bind (bj x1 ?_);refine wpS_bind (dF (κ:=κ) (kk:=key κ x) (hL eR k1) x2 Zz (fun j hj=>?_) (fun j j' Lf uS hb=>?_) fun n nn nt nf=>?_)
   .obtain⟨p,q1,q2,q3,_⟩:=item kA (i:=sa+na+j) Zz;exact⟨p,_,q1,q2,q3⟩
   .exact KeyOrd.klt_of_kle_of_klt (s2 (sa+na+j) (sa+na+j') Zz Zz Zz) hb
   .have Lh:∀j,sa+na<=j->j<sa+na+n->κ.kle (KK κ (arrOf st) j) (KK κ (arrOf st) (sa+na-1)):=fun j j1 j2=>by
     have:=nt (j-(sa+na)) Zz;rw[show sa+na+(j-(sa+na))=j by lia]at this;rw[x3];exact KeyOrd.kle_of_klt this
    have GW:∀j,sa+na+n<=j->j<sa+na+nb->κ.kle (KK κ (arrOf st) (sa+na-1)) (KK κ (arrOf st) j):=fun j j1 j2=>by
     have:=nf (j-(sa+na)) Zz Zz;rw[show sa+na+(j-(sa+na))=j by lia]at this;rw[x3];exact this
    dsimp only;by_cases GY:n=0
    .rw[if_pos (by simpa using GY)];refine wpS_pure (h eR (all fun u v hu u7 hv=>?_));by_cases c1:v<sa+na
     .exact s1 u v hu u7 c1
     .by_cases c2:u<sa+na
      .exact KeyOrd.kle_trans (s1 u (sa+na-1) hu Zz Zz) (GW v Zz hv)
      .exact s2 u v Zz u7 hv
    .rw[if_neg (by simpa using GY)]
     obtain⟨X,eX⟩:∃X,X=(arrOf st).extract (sa+k) (sa+na):=⟨_,rfl⟩
     obtain⟨Y,eY⟩:∃Y,Y=(arrOf st).extract (sa+na) (sa+na+n):=⟨_,rfl⟩
     rw[<-eX,<-eY];have lX:X.toList=((arrOf st).toList.take (sa+na)).drop (sa+k):=by rw[eX,Hi.ext_cut]
     have lY:Y.toList=((arrOf st).toList.take (sa+na+n)).drop (sa+na):=by rw[eY,Hi.ext_cut]
     have zX:X.size=na-k:=by rw[<-zA9,lX,List.length_drop,zAd,fw];lia
     have zY:Y.size=n:=by rw[<-zA9,lY,List.length_drop,zAd,fw];lia
     have pA:=pw_of_seg kA Zz s1;have pB:=pw_of_seg kA Zz s2;have eA:=zH (l:=(arrOf st).toList) (i:=sa) (j:=sa+k) (k:=sa+na) (m:=sa+na) Zz Zz (zA3 _) (by rw[fw];lia);have eB:=zH (l:=(arrOf st).toList) (i:=sa+na) (j:=sa+na+n) (k:=sa+na+nb) (m:=sa+na+nb) Zz Zz (zA3 _) (by rw[fw];lia);have B8:((arrOf st).toList.take (sa+na)).drop (sa+na)=[]:=List.drop_of_length_le (by rw[zAd];lia);have Cb:((arrOf st).toList.take (sa+na+nb)).drop (sa+na+nb)=[]:=List.drop_of_length_le (by rw[zAd];lia);rw[B8,zAn,<-lX]at eA;rw[Cb,zAn,<-lY]at eB
     obtain⟨A1,Cc⟩:∃A1,A1=((arrOf st).toList.take (sa+k)).drop sa:=⟨_,rfl⟩
     obtain⟨B2,Cf⟩:∃B2,B2=((arrOf st).toList.take (sa+na+nb)).drop (sa+na+n):=⟨_,rfl⟩
     rw[<-Cc]at eA;rw[<-Cf]at eB;rw[eA]at pA;rw[eB]at pB;obtain⟨Li,pX,Lj⟩:=List.pairwise_append.mp pA;obtain⟨pY,Lk,Ll⟩:=List.pairwise_append.mp pB
     have G0:∀z∈X.toList,∃j,sa+k<=j/\j<sa+na/\KK κ (arrOf st) j=key κ z:=fun z cv=>by
      rw[lX]at cv;obtain⟨j,j1,j2,_,j4⟩:=Hi.take_key kA cv;exact⟨j,j1,j2,j4⟩
     have G1:∀z∈Y.toList,∃j,sa+na<=j/\j<sa+na+n/\KK κ (arrOf st) j=key κ z:=fun z cv=>by
      rw[lY]at cv;obtain⟨j,j1,j2,_,j4⟩:=Hi.take_key kA cv;exact⟨j,j1,j2,j4⟩
     have Lm:∀z∈A1,∃j,sa<=j/\j<sa+k/\KK κ (arrOf st) j=key κ z:=fun z cv=>by
      rw[Cc]at cv;obtain⟨j,j1,j2,_,j4⟩:=Hi.take_key kA cv;exact⟨j,j1,j2,j4⟩
     have He:∀z∈B2,∃j,sa+na+n<=j/\j<sa+na+nb/\KK κ (arrOf st) j=key κ z:=fun z cv=>by
      rw[Cf]at cv;obtain⟨j,j1,j2,_,j4⟩:=Hi.take_key kA cv;exact⟨j,j1,j2,j4⟩
     have TT:Two κ X Y:=⟨by rw[eX];exact sW kA _ _,by rw[eY];exact sW kA _ _,pX,pY⟩
     have LL:iH κ X Y:=fun z cv v hv=>by
      obtain⟨j,j1,j2,j3⟩:=G1 z cv;obtain⟨j',va,ve,oo⟩:=mj TT.ka hv;have ej:j'=X.size-1:=Zz
      have e:KK κ X j'=KK κ (arrOf st) (sa+na-1):=by
       refine KK_congr ?_;rw[eX,Array.getElem?_extract,zAv Zz];congr 1;lia
      show κ.kle (key κ z) (key κ v);rw[<-j3,<-oo,e];exact Lh j j1 j2
     have F0:∀v∈X.toList,∀z,Y[0]?=some z->leK κ z v:=fun v hv z cv=>by
      obtain⟨j,j1,j2,j3⟩:=G0 v hv
      have ez:z=y:=by
       rw[eY,Array.getElem?_extract,zAv Zz,Nat.add_zero,y1]at cv;exact(zAl cv).symm
      show κ.kle (key κ z) (key κ v);rw[ez,<-y3,<-j3];exact Lg j j1 j2
     have FB:Hi.FirstB κ X Y:=fun z cv v hv=>by
      obtain⟨j,j1,j2,j3⟩:=Hi.take_key0 TT.kb cv;obtain⟨q,q1,q2,q3,_⟩:=item TT.kb (i:=0) Zz;have e0:j=0:=Zz
      rw[e0,q3]at j3;have:=F0 v hv q q1;unfold leK at this⊢;rw[<-j3];exact this
     have fin:∀m st2,SG eR st2->Rs κ X Y m->wpS (model prog w) A E s (do
       modify fun s'=>setArr s' (over (arrOf s') (sa+k) m.toList)
       let s' <-get
       pure (failedOf s').isNone) Q st2:=fun m st2 sg D=>by
      refine wpS_bind (wpS_modify (wpS_bind (wpS_get (wpS_pure ?_))))
      have ft:(failedOf (setArr st2 (over (arrOf st2) (sa+k) m.toList))).isNone=true:=by
       show(failedOf st2).isNone=true;rw[sg.fail,f1];rfl
      rw[ft];have am:arrOf st2=arrOf st:=sg.arr.trans a1
      have lm:m.toList.length=na-k+n:=by
       rw[D.pm.length_eq,zA2,zA9,zA9,zX,zY]
      have ol:(over (arrOf st) (sa+k) m.toList).toList=(arrOf st).toList.take (sa+k)++m.toList++(arrOf st).toList.drop (sa+na+n):=by
       rw[yd (by rw[lm,hsz];lia),lm,show sa+k+(na-k+n)=sa+na+n by lia]
      have vi:(over (arrOf st) (sa+k) m.toList).toList.Perm (arrOf st).toList:=by
       rw[ol]
       have e:(arrOf st).toList=(arrOf st).toList.take (sa+k)++(X.toList++Y.toList)++(arrOf st).toList.drop (sa+na+n):=by
        rw[lX,lY];have c1:=Hi.cut_drop (l:=(arrOf st).toList) (t:=sa+na) (n:=sa+na+n) Zz (by rw[fw];lia);have c2:=Hi.cut_drop (l:=(arrOf st).toList) (t:=sa+k) (n:=sa+na) Zz (by rw[fw];lia);rw[zAf,zAf,c1,c2,zB7]
       conv=>rhs;rw[e]
       exact List.Perm.append_right _ (List.Perm.append_left _ D.pm)
      have hJ:(over (arrOf st) (sa+k) m.toList).Perm (arrOf st):=Array.perm_iff_toList_perm.mpr vi;have kO:KeysOf κ (over (arrOf st) (sa+k) m.toList):=keys_perm kA hJ;have zO:(over (arrOf st) (sa+k) m.toList).size=ae.size:=hJ.size_eq.trans hsz;have og:∀j,(over (arrOf st) (sa+k) m.toList)[j]?=if sa+k+0<=j/\j<sa+k+0+m.toList.length then m.toList[j-(sa+k+0)]? else(arrOf st)[j]?:=(qC m.toList 0 (sa+k) (arrOf st) (by rw[lm,hsz];lia)).2;refine h _ ⟨⟨sg.kind.trans k1,by show failedOf st2=none;rw[sg.fail,f1],?_⟩,fun j hj=>?_,?_,?_⟩
      .show(over (arrOf st2) (sa+k) m.toList).Perm ae;rw[am];exact hJ.trans B.pm
      .show(over (arrOf st2) (sa+k) m.toList)[j]?=_;rw[am,og j,zAu (by rw[lm];lia)]
      .show Seg κ (over (arrOf st2) (sa+k) m.toList) sa (sa+na+nb);rw[am];refine ye kO (by rw[zO];exact hz) ?_
       have cut:((over (arrOf st) (sa+k) m.toList).toList.take (sa+na+nb)).drop sa=A1++(m.toList++B2):=by
        rw[ol,Cc,Cf];have tl:((arrOf st).toList.take (sa+k)).length=sa+k:=by rw[zAd,fw];lia
        rw[zAf,List.take_append,tl,List.take_of_length_le (l:=(arrOf st).toList.take (sa+k)) (by rw[tl];lia),List.take_append,lm,List.take_of_length_le (l:=m.toList) (by rw[lm];lia)];rw[List.drop_append_of_le_length (by rw[tl];lia)];congr 2;rw[List.drop_take];congr 1;lia
       rw[cut];refine List.pairwise_append.mpr ⟨Li,List.pairwise_append.mpr ⟨D.sr,Lk,fun u hu v hv=>?_⟩,fun u hu v hv=>?_⟩
       .rcases zA6.mp (D.pm.mem_iff.mp hu)with c|c
        .obtain⟨j,j1,j2,j3⟩:=G0 u c;obtain⟨j',va,ve,oo⟩:=He v hv;show κ.kle (key κ u) (key κ v);rw[<-j3,<-oo];exact KeyOrd.kle_trans (s1 j (sa+na-1) Zz Zz Zz) (GW j' va ve)
        .exact Ll u c v hv
       .obtain⟨j,j1,j2,j3⟩:=Lm u hu;rcases zA6.mp hv with c|c
        .rcases zA6.mp (D.pm.mem_iff.mp c)with c|c
         .exact Lj u hu v c
         .obtain⟨j',va,ve,oo⟩:=G1 v c;show κ.kle (key κ u) (key κ v);rw[<-j3,<-oo];exact KeyOrd.kle_trans (B6 j j1 j2) (s2 (sa+na) j' (zA3 _) va Zz)
        .obtain⟨j',va,ve,oo⟩:=He v c;show κ.kle (key κ u) (key κ v);rw[<-j3,<-oo];exact KeyOrd.kle_trans (B6 j j1 j2) (s2 (sa+na) j' (zA3 _) Zz ve)
      .show pendingOf st2=P;rw[sg.pend,p1]
     by_cases hc:na-k<=n
     .rw[zAv hc];exact wpS_bind (Ha hL TT LL Zz Zz F0 k1 fun m st2 sg D=>fin m st2 sg D)
     .rw[zAu hc];exact wpS_bind (Hi.hi_wp hL TT LL FB Zz Zz k1 fun m st2 sg D=>fin m st2 sg D)
end
abbrev Run:=Nat×Nat×Nat
def Ch(κ:PyProof.Rows.KeyKind)(arr:Array Keyed):List Run->Nat->Nat->Prop
 |[],a,b=>a=b
 |r::l,a,b=>r.1=a/\1<=r.2.1/\Seg κ arr a (a+r.2.1)/\Ch κ arr l (a+r.2.1) b
theorem Ch.le{κ:PyProof.Rows.KeyKind}{arr:Array Keyed}:∀{l:List Run} {a b:Nat},Ch κ arr l a b->a+l.length<=b
 |[],a,b,h=>by
  have h:a=b:=h;simp[h]
 |r::l,a,b,h=>by
  have:=Ch.le h.2.2.2;have:=h.2.1;rw[zAe];lia
theorem Ch.split{κ:PyProof.Rows.KeyKind}{arr:Array Keyed}:∀{l1 l2:List Run} {a b:Nat},Ch κ arr (l1++l2) a b↔∃m,Ch κ arr l1 a m/\Ch κ arr l2 m b
 |[],l2,a,b=>⟨fun h=>⟨a,rfl,h⟩,fun⟨m,h1,h2⟩=>by
  have h1:a=m:=h1;rw[h1]
  exact h2⟩
 |r::l1,l2,a,b=>by
  constructor
  .intro h;obtain⟨m,h1,h2⟩:=Ch.split.mp h.2.2.2;exact⟨m,⟨h.1,h.2.1,h.2.2.1,h1⟩,h2⟩
  .rintro⟨m,h1,h2⟩;exact⟨h1.1,h1.2.1,h1.2.2.1,Ch.split.mpr ⟨m,h1.2.2.2,h2⟩⟩
theorem sX{κ:PyProof.Rows.KeyKind}{arr hU:Array Keyed}{a b:Nat}(h:Seg κ arr a b)(e:∀k,a<=k->k<b->hU[k]?=arr[k]?):Seg κ hU a b:=fun i j h1 h2 h3=>by
 rw[KK_congr (e i h1 Zz),KK_congr (e j Zz h3)];exact h i j h1 h2 h3
theorem Ch.same{κ:PyProof.Rows.KeyKind}{arr hU:Array Keyed}:∀{l:List Run} {a b:Nat},Ch κ arr l a b->(∀k,a<=k->k<b->hU[k]?=arr[k]?)->Ch κ hU l a b
 |[],_,_,h,_=>h
 |r::l,a,b,h,e=>by
  have:=Ch.le h.2.2.2;exact⟨h.1,h.2.1,sX h.2.2.1 fun k k1 k2=>e k k1 Zz,h.2.2.2.same fun k k1 k2=>e k Zz k2⟩
theorem yf{p:Array Run}{i:Nat}{v:Run}(h:i+1<p.size):((p.setIfInBounds i v).eraseIdxIfInBounds (i+1)).toList=p.toList.take i++v::p.toList.drop (i+2):=by
 have hl:p.toList.length=p.size:=zA9
 have e1:(p.setIfInBounds i v).eraseIdxIfInBounds (i+1)=(p.setIfInBounds i v).eraseIdx (i+1) (by rw[Array.size_setIfInBounds];exact h):=by
  rw[Array.eraseIdxIfInBounds,dif_pos (by rw[Array.size_setIfInBounds];exact h)]
 rw[e1,Array.toList_eraseIdx,Array.toList_setIfInBounds,List.eraseIdx_eq_take_drop_succ,List.take_set,List.drop_set,zAv Zz]
 have e2:p.toList.take (i+1)=p.toList.take i++[p.toList[i]'Zz]:=by
  rw[zAj,zA0 Zz];rfl
 rw[e2,List.set_append_right _ _ (by rw[zAd];lia)];rw[zAd,show i-min i p.toList.length=0 by lia];simp
section
variable{prog:Program}{w:World}{A:Around}{E:Value->Shared->Prop}{s:Shared}{κ:PyProof.Rows.KeyKind}{ks:SortKind}{ae:Array Keyed}
structure St(κ:PyProof.Rows.KeyKind)(ks:SortKind)(ae:Array Keyed)(st:SortSt)(lo:Nat):Prop where
 base:SB ks ae st
 ch:Ch κ (arrOf st) (pendingOf st).toList 0 lo
 le:lo<=ae.size
theorem sY(hL:LtAll prog w A E s κ ks)(h0:KeysOf κ ae){st:SortSt}{lo i:Nat}(S:St κ ks ae st lo)(hi:i+1<(pendingOf st).size){Q:Bool->SortSt->Prop}
  (h:∀Zq,St κ ks ae Zq lo->(pendingOf Zq).size+1=(pendingOf st).size->(∀k,lo<=k->(arrOf Zq)[k]?=(arrOf st)[k]?)->Q true Zq):wpS (model prog w) A E s (mergeAt' i) Q st:=by
 have hl:(pendingOf st).toList.length=(pendingOf st).size:=zA9;have d1:(pendingOf st).toList.drop i=(pendingOf st).toList[i]'Zz::(pendingOf st).toList.drop (i+1):=List.drop_eq_getElem_cons Zz;have d2:(pendingOf st).toList.drop (i+1)=(pendingOf st).toList[i+1]'Zz::(pendingOf st).toList.drop (i+2):=List.drop_eq_getElem_cons Zz;have g1:(pendingOf st)[i]?=some ((pendingOf st).toList[i]'Zz):=by rw[<-Array.getElem?_toList,zA0 Zz]
 have g2:(pendingOf st)[i+1]?=some ((pendingOf st).toList[i+1]'Zz):=by rw[<-Array.getElem?_toList,zA0 Zz]
 obtain⟨⟨sa,na,pw⟩,ep⟩:∃r,r=(pendingOf st).toList[i]'Zz:=⟨_,rfl⟩
 obtain⟨⟨sb,nb,BY⟩,eq⟩:∃r,r=(pendingOf st).toList[i+1]'Zz:=⟨_,rfl⟩
 rw[<-ep]at d1 g1;rw[<-eq]at d2 g2;have c:=S.ch;rw[<-List.take_append_drop i (pendingOf st).toList,d1,d2]at c;obtain⟨m,c1,c2⟩:=Ch.split.mp c;obtain⟨q1,q2,q3,q4,q5,q6,q7⟩:=c2;dsimp only at q1 q2 q3 q4 q5 q6 q7;subst q1;subst q4;have lb:=Ch.le q7;have lm:=Ch.le c1;refine Hk hL h0 S.base g1 g2 q2 q5 (by have:=S.le;lia) q3 q6 fun Zq M=>?_;have pl:(pendingOf Zq).toList=(pendingOf st).toList.take i++(sa,na+nb,pw)::(pendingOf st).toList.drop (i+2):=by rw[M.pend,yf hi]
 refine h Zq ⟨M.base,?_,S.le⟩ ?_ fun k hk=>M.out k (.inr Zz)
 .rw[pl];refine Ch.split.mpr ⟨sa,c1.same fun k _ k2=>M.out k (.inl k2),rfl,by dsimp only;lia,?_,?_⟩
  .dsimp only;rw[<-Nat.add_assoc];exact M.seg
  .dsimp only;rw[<-Nat.add_assoc];exact q7.same fun k k1 _=>M.out k (.inr k1)
 .rw[<-zA9,pl,zA2,zAe,zAd,List.length_drop];lia
def rest(z lo n:Nat):Sm (ForInStep (Option Unit×Nat)):=do
 let s <-get
 match(pendingOf s).back? with
 |some (s1,n1,_)=>do
  let c <-forIn [0:z] ((none,()):Option Unit×Unit) fun _ _=>do
    let s <-get
    match(if(pendingOf s).size>1 then(pendingOf s)[(pendingOf s).size-2]? else none)with
    |some (_,_,l7)=>
     if l7<=power' z (2*s1+n1) (2*s1+n1+n1+n) z then pure (ForInStep.done (none,()))
     else do
      let b <-mergeAt' ((pendingOf s).size-2)
      if(!b)=true then pure (ForInStep.done (some (),()))else pure (ForInStep.yield (none,()))
    |_=>pure (ForInStep.done (none,()))
  match c.1 with
  |some r=>pure (ForInStep.done (some r,lo))
  |none=>do
   modify fun s=>setPending s ((pendingOf s).modify ((pendingOf s).size-1) fun x=>(x.1,x.2.1,power' z (2*s1+n1) (2*s1+n1+n1+n) z))
   modify fun s=>setPending s ((pendingOf s).push (lo,n,0))
   pure (ForInStep.yield (none,lo+n))
 |_=>do
  modify fun s=>setPending s ((pendingOf s).push (lo,n,0))
  pure (ForInStep.yield (none,lo+n))
theorem Ch.pw{κ:PyProof.Rows.KeyKind}{arr:Array Keyed}(f:Run->Run)(hf:∀r,(f r).1=r.1/\(f r).2.1=r.2.1):∀{l:List Run} {a b i:Nat},Ch κ arr l a b->Ch κ arr (l.modify i f) a b
 |[],a,b,i,h=>by
  cases i<;>exact h
 |r::l,a,b,0,h=>by
  obtain⟨e1,e2⟩:=hf r;refine⟨e1.trans h.1,by rw[e2];exact h.2.1,by rw[e2];exact h.2.2.1,?_⟩;rw[e2];exact h.2.2.2
 |r::l,a,b,i+1,h=>⟨h.1,h.2.1,h.2.2.1,Ch.pw f hf h.2.2.2⟩
theorem St.push{st:SortSt}{lo n:Nat}(S:St κ ks ae st lo)(n1:1<=n)(hn:lo+n<=ae.size)(sg:Seg κ (arrOf st) lo (lo+n)):St κ ks ae (setPending st ((pendingOf st).push (lo,n,0))) (lo+n):=by
 refine⟨⟨S.base.kind,S.base.ok,S.base.pm⟩,?_,hn⟩;show Ch κ (arrOf st) ((pendingOf st).push (lo,n,0)).toList 0 (lo+n);rw[Array.toList_push];exact Ch.split.mpr ⟨lo,S.ch,rfl,n1,sg,rfl⟩
theorem St.pw{st:SortSt}{lo i:Nat}(S:St κ ks ae st lo)(f:Run->Run)(hf:∀r,(f r).1=r.1/\(f r).2.1=r.2.1):St κ ks ae (setPending st ((pendingOf st).modify i f)) lo:=by
 refine⟨⟨S.base.kind,S.base.ok,S.base.pm⟩,?_,S.le⟩;show Ch κ (arrOf st) ((pendingOf st).modify i f).toList 0 lo;rw[Array.toList_modify];exact S.ch.pw f hf
theorem vW(hL:LtAll prog w A E s κ ks)(h0:KeysOf κ ae){st:SortSt}{lo n x:Nat}(S:St κ ks ae st lo)(n1:1<=n)(hn:lo+n<=ae.size)(sg:Seg κ (arrOf st) lo (lo+n))(hx:x<=lo){Q:ForInStep (Option Unit×Nat)->SortSt->Prop}
  (h:∀Zq,St κ ks ae Zq (lo+n)->Q (.yield (none,lo+n)) Zq):wpS (model prog w) A E s (rest ae.size lo n) Q st:=by
 unfold rest;refine wpS_bind (wpS_get ?_)
 cases(pendingOf st).back? with
 |none=>exact wpS_bind (wpS_modify (wpS_pure (h _ (S.push n1 hn sg))))
 |some q=>
  obtain⟨s1,Cn,p1⟩:=q;dsimp only;refine wpS_bind (wpS_mono (wpS_forRange (I:=fun _ c Zq=>c=(none,())/\St κ ks ae Zq lo/\Seg κ (arrOf Zq) lo (lo+n)) (Q:=fun c Zq=>c=(none,())/\St κ ks ae Zq lo/\Seg κ (arrOf Zq) lo (lo+n)) ?_ (fun _ _ z=>z) ⟨rfl,S,sg⟩) ?_)
  .rintro y c Zq _ _ ⟨rfl,S',eW⟩;refine wpS_bind (wpS_get ?_);by_cases h1:(pendingOf Zq).size>1
   .rw[zAv h1];have hl:(pendingOf Zq).size-2<(pendingOf Zq).size:=Zz
    rw[Array.getElem?_eq_getElem hl]
    obtain⟨⟨a1,a2,l7⟩,eo⟩:∃r,r=(pendingOf Zq)[(pendingOf Zq).size-2]:=⟨_,rfl⟩
    rw[<-eo];dsimp only;split
    .exact wpS_pure ⟨rfl,S',eW⟩
    .refine wpS_bind (sY hL h0 S' Zz fun st2 S2 _ o2=>?_);rw[zAu Zx];exact wpS_pure ⟨rfl,S2,sX eW fun k k1 _=>o2 k k1⟩
   .rw[zAu h1];exact wpS_pure ⟨rfl,S',eW⟩
  .rintro c Zq ⟨rfl,S',eW⟩;dsimp only;refine wpS_bind (wpS_modify (wpS_bind (wpS_modify (wpS_pure (h _ ?_)))));exact(S'.pw (fun x=>(x.1,x.2.1,power' ae.size (2*s1+Cn) (2*s1+Cn+Cn+n) ae.size)) fun _=>⟨rfl,rfl⟩).push n1 hn eW
theorem ifl(c:Prop)[Decidable c](n:Nat):(if c then n-1 else n)<=n:=by split<;>lia
theorem runs_wp(hL:LtAll prog w A E s κ ks)(h0:KeysOf κ ae){st:SortSt}(B:SB ks ae st)(hp:pendingOf st=#[]){Q:Unit->SortSt->Prop}
  (h:∀Zq,SB ks ae Zq->Seg κ (arrOf Zq) 0 ae.size->Q () Zq):wpS (model prog w) A E s sortRuns' Q st:=by
 rw[sortRuns'_eq];refine wpS_bind (wpS_get ?_);dsimp only;rw[B.size];generalize minRun' ae.size ae.size 0=mr;refine wpS_bind (wpS_mono (wpS_forRange (I:=fun x c Zq=>c.1=none/\St κ ks ae Zq c.2/\x<=c.2) (Q:=fun c Zq=>c.1=none/\St κ ks ae Zq ae.size) ?_ ?_ ⟨rfl,⟨B,by rw[hp];rfl,zAp _⟩,zA3 _⟩) ?_)
 .rintro x ⟨c0,lo⟩ Zq _ hx ⟨rfl,S,cy⟩;dsimp only at S cy⊢;by_cases lT:lo≥ae.size
  .rw[zAv lT]
   have e:lo=ae.size:=by
    have:=S.le;lia
   refine wpS_pure ⟨rfl,?_⟩;rw[<-e];exact S
  .rw[if_neg lT];refine wpS_bind (zF hL h0 Zz Zz S.base fun n eR B1 O1 n1 n2 HA=>?_);dsimp only
   have S1:St κ ks ae eR lo:=⟨B1,by rw[O1.pend];exact S.ch.same fun k _ k2=>O1.out k (.inl k2),S.le⟩
   have tr:∀{m m':Sm (ForInStep (Option Unit×Nat))} {R:ForInStep (Option Unit×Nat)->SortSt->Prop} {st2:SortSt},m=m'->wpS (model prog w) A E s m' R st2->wpS (model prog w) A E s m R st2:=fun e h=>e▸h;by_cases hm:n<mr
   .rw[if_pos hm];refine wpS_bind (wpS_lift (wpAny_rule ⟨rfl,?_⟩));refine wpS_bind (Fx hL h0 Zz Zz B1 HA fun st2 B2 O2 bp=>?_);rw[if_neg Zx];refine tr ?_ (vW hL h0 ⟨B2,by rw[O2.pend];exact S1.ch.same fun k _ k2=>O2.out k (.inl k2),S.le⟩ Zz Zz bp cy fun fz S3=>⟨rfl,S3,by dsimp only;lia⟩)
    .skip
     unfold rest;refine bc rfl (funext fun s=>?_)
     cases(pendingOf s).back? with
     |none=>rfl
     |some q=>
      obtain⟨s1,n1,p⟩:=q;refine bc (fi (funext fun x=>funext fun c=>bc rfl (funext fun s=>?_))) (funext fun c=>?_)
      .generalize(if(pendingOf s).size>1 then(pendingOf s)[(pendingOf s).size-2]? else none)=o
       cases o with
       |none=>rfl
       |some r=>
        obtain⟨r1,r2,r3⟩:=r;exact ic rfl (bc rfl (funext fun b=>rfl))
      .obtain⟨r,u⟩:=c;cases r<;>rfl
   .rw[if_neg hm];refine tr ?_ (vW hL h0 S1 n1 Zz HA cy fun fz S3=>⟨rfl,S3,by dsimp only;lia⟩)
    .skip
     unfold rest;refine bc rfl (funext fun s=>?_)
     cases(pendingOf s).back? with
     |none=>rfl
     |some q=>
      obtain⟨s1,n1,p⟩:=q;refine bc (fi (funext fun x=>funext fun c=>bc rfl (funext fun s=>?_))) (funext fun c=>?_)
      .generalize(if(pendingOf s).size>1 then(pendingOf s)[(pendingOf s).size-2]? else none)=o
       cases o with
       |none=>rfl
       |some r=>
        obtain⟨r1,r2,r3⟩:=r;exact ic rfl (bc rfl (funext fun b=>rfl))
      .obtain⟨r,u⟩:=c;cases r<;>rfl
 .rintro⟨c0,lo⟩ Zq ⟨h1,S,h2⟩;dsimp only at h1 S h2⊢
  have e:lo=ae.size:=by
   have:=S.le;lia
  rw[<-e];exact⟨h1,S⟩
 .rintro⟨c0,lo⟩ Zq ⟨h1,S⟩;dsimp only at h1;subst h1;dsimp only
  have one:∀{Zq:SortSt},St κ ks ae Zq ae.size->(pendingOf Zq).size<=1->Seg κ (arrOf Zq) 0 ae.size:=fun{Zq} S hs=>by
   have c:=S.ch;rw[<-zA9]at hs
   cases e:(pendingOf Zq).toList with
   |nil=>
    rw[e]at c;have c:0=ae.size:=c;intro i j _ _ h3;lia
   |cons r l=>
    rw[e]at c hs
    have l0:l=[]:=by
     cases l with
     |nil=>rfl
     |cons _ _=>rw[zAe,zAe]at hs;lia
    rw[l0]at c;obtain⟨_,_,sg,c4⟩:=c;have c4:0+r.2.1=ae.size:=c4;rw[c4]at sg;exact sg
  have p0:(pendingOf Zq).size<=ae.size:=by
   have:=Ch.le S.ch;rw[zA9]at this;lia
  refine wpS_bind (wpS_mono (wpS_forRange (I:=fun x c st2=>c=(none,())/\St κ ks ae st2 ae.size/\(pendingOf st2).size+x<=ae.size) (Q:=fun c st2=>c=(none,())/\St κ ks ae st2 ae.size/\(pendingOf st2).size<=1) ?_ ?_ ⟨rfl,S,Zz⟩) ?_)
  .rintro x c st2 _ hx ⟨rfl,S2,ua⟩;refine wpS_bind (wpS_get ?_);by_cases h1:(pendingOf st2).size<=1
   .rw[zAv h1];exact wpS_pure ⟨rfl,S2,h1⟩
   .rw[zAu h1];have hz:2<=(pendingOf st2).size:=Zz
    refine wpS_bind (sY hL h0 S2 (Nat.lt_of_le_of_lt (Nat.succ_le_succ (ifl _ _)) (show(pendingOf st2).size-2+1<(pendingOf st2).size by lia)) fun fz S3 z3 _=>?_);rw[zAu Zx];exact wpS_pure ⟨rfl,S3,Zz⟩
  .rintro c st2 ⟨rfl,S2,ua⟩;exact⟨rfl,S2,Zz⟩
  .rintro c st2 ⟨rfl,S2,ua⟩;exact wpS_pure (h st2 S2.base (one S2 ua))
end
end Srt
namespace L2
open PySem PySem.Spec PyProof.Rows PySem.Calls
theorem qD:∀a:List Int,HT.lexLt a a=false
 |[]=>rfl
 |x::xs=>by
  rw[HT.lexLt_cons,zAv rfl];exact qD xs
theorem lq:∀a b:List Int,HT.lexLt a b=false->HT.lexLt b a=false->a=b
 |[],[],_,_=>rfl
 |[],_::_,h,_=>by cases h
 |_::_,[],_,h=>by cases h
 |x::xs,y::ys,h1,h2=>by
  rw[HT.lexLt_cons]at h1 h2;by_cases e:x=y
  .subst e;rw[zAv rfl]at h1 h2;rw[lq xs ys h1 h2]
  .rw[zAu e]at h1;rw[zAu (Ne.symm e)]at h2;have h1:=of_decide_eq_false h1;have h2:=of_decide_eq_false h2;lia
theorem qF:∀a b c:List Int,HT.lexLt a b=true->HT.lexLt b c=true->HT.lexLt a c=true
 |[],[],_,h,_=>by cases h
 |[],_::_,[],_,h=>by cases h
 |[],_::_,_::_,_,_=>rfl
 |_::_,[],_,h,_=>by cases h
 |_::_,_::_,[],_,h=>by cases h
 |x::xs,y::ys,z::zs,h1,h2=>by
  rw[HT.lexLt_cons]at h1 h2⊢;by_cases e1:x=y
  .subst e1;rw[zAv rfl]at h1;by_cases e2:x=z
   .subst e2;rw[zAv rfl]at h2⊢;exact qF xs ys zs h1 h2
   .rw[zAu e2]at h2⊢;exact h2
  .rw[zAu e1]at h1;have h1:=zB4 h1;by_cases e2:y=z
   .subst e2;rw[zAu e1];exact zAt h1
   .rw[zAu e2]at h2;have h2:=zB4 h2;rw[zAu Zz];exact zAt Zz
theorem vX(a b c:List Int)(h:HT.lexLt a c=true):HT.lexLt a b=true\/HT.lexLt b c=true:=by
 cases e1:HT.lexLt a b with
 |true=>exact .inl rfl
 |false=>
  cases e2:HT.lexLt b a with
  |true=>exact .inr (qF b a c e2 h)
  |false=>exact .inr (by rw[<-lq a b e1 e2];exact h)
def Cd(ads:List Addr)(row:Addr->List Int):PyProof.Rows.KeyKind where
 α:=List Int
 blt:=HT.lexLt
 irrefl:=qD
 trans:=qF
 negTrans:=vX
 total:=lq
 keyOf:=fun u=>match u with
  |.ref a=>if ads.contains a=true then some (row a)else none
  |_=>none
 dflt:=[]
section
open PySem.W
variable{prog:Program}{w:World}{A:Around}{E:Value->Shared->Prop}{s:Shared}
theorem zJ{Q:Bool->Shared->Prop}:∀{ns ms:List Int} {us vs:List Value} {i:Nat},Vals (ns.map V.int) us->Vals (ms.map V.int) vs->Q (HT.lexLt ns ms) s->KatLex prog w A true (decide (ns.length<ms.length)) Q (us.zip vs) i s
 |[],[],_,_,_,.nil,.nil,h=>h
 |[],_::_,_,_,_,.nil,.cons _ _,h=>by
  refine kat_nil ?_;rw[decide_eq_true Zy];exact h
 |_::_,[],_,_,_,.cons _ _,.nil,h=>by
  refine kat_nil ?_;rw[decide_eq_false Zy];exact h
 |x::ns,y::ms,_,_,i,.cons r1 t1,.cons r2 t2,h=>by
  obtain⟨k1,rfl⟩:=r1;obtain⟨k2,rfl⟩:=r2;rw[HT.lexLt_cons]at h;refine kat_cons (wpAny_eqBool_int ?_);by_cases e:x=y
  .subst e;rw[zAv rfl]at h;rw[show(x==x)=true from beq_self_eq_true x];refine kat_yes ?_;have:=zJ (i:=i+1) t1 t2 h;rw[show decide ((x::ns).length<(x::ms).length)=decide (ns.length<ms.length) by rw[zAe,zAe];exact decide_eq_decide.mpr Zz];exact this
  .rw[zAu e]at h;rw[show(x==y)=false from beq_false_of_ne e];refine kat_no ?_
   cases hi:(true&&i==0)with
   |true=>exact oneLt_int h
   |false=>exact kat_one _ _ (lt_int h)
theorem Ce{x y:Addr}{ox oy:Obj}{nx ny:Nat}{ns ms:List Int}{us vs:List Value}{Q:Bool->Shared->Prop}(hx:s.heap.get? x=some ox)(dx:ox.data=.seq us.toArray nx)(hy:s.heap.get? y=some oy)(dy:oy.data=.seq vs.toArray ny)
  (r1:Vals (ns.map V.int) us) (r2:Vals (ms.map V.int) vs) (h:Q (HT.lexLt ns ms) s):wpAny (model prog w) A (keyLt' (tuples' true) (.ref x) (.ref y)) Q E s:=by
 refine kat_lt hx dx hy dy ?_;have l1:=r1.length;have l2:=r2.length;rw[zA1]at l1 l2;have:=zJ (prog:=prog) (w:=w) (A:=A) (s:=s) (Q:=Q) (i:=0) r1 r2 h;rw[zA8,zA8,<-l1,<-l2];exact this
theorem Cg{l:Addr}{vs:List Value}{Q:Value->Shared->Prop}{R:List Value->Prop}(lst:s.heap.IsList l vs.toArray)(fits:vs.length<=sizeLine)(small:vs.length<2->R vs)
  (big:2<=vs.length->∀g,(∀b o,s.heap.get? b=some o->g.get? b=some o)->wpAny (model prog w) A.in1.in1 (keyKind' vs.toArray) (fun κ s1=>s1={s with heap:=g} /\
    wpS (model prog w) A.in1.in1 (fun _ _=>False) {s with heap:=g} sortRuns' (fun _ st=>failedOf st=none/\∃out,(arrOf st).map (·.2)=List.toArray out/\R out) (SortSt.mk' κ (vs.toArray.zip vs.toArray) #[] 7 none)) (fun _ _=>False) {s with heap:=g})
  (len:∀out,R out->out.length=vs.length)
  (fin:∀out,R out->∀h2 c,(∀b o,s.heap.get? b=some o->h2.get? b=some o)->h2.get? (s.heap.objs.size+1)=some (seqObj "list" out.toArray c)->Q (.ref (s.heap.objs.size+1)) {s with heap:=h2}):
  wpAny (model prog w) A (call (.builtin "sorted") [.ref l]) Q E s:=by
 refine call_function_entry kind_sorted plain_sorted entry_sorted (args_sorted1 _) ?_;unfold Builtin.«sorted»;refine zAx (m:=checkCount "sorted" 1 1 _) (zB0 (zAx (collect_list lst ?_ fits)));refine zAx (wpAny_newList ?_ fits);have hV:((s.heap.push (seqObj "list" #[] 0)).update s.heap.objs.size (Obj.mapSeq (·++vs.toArray))).objs.size=s.heap.objs.size+1:=by rw[Heap.size_update,Heap.size_push]
 obtain⟨g1,vj⟩:∃g1,g1=((s.heap.push (seqObj "list" #[] 0)).update s.heap.objs.size (Obj.mapSeq (·++vs.toArray))).push (seqObj "list" vs.toArray 0):=⟨_,rfl⟩
 have oq:g1.get? (s.heap.objs.size+1)=some (seqObj "list" vs.toArray 0):=by rw[vj,<-hV];exact zB3 _ rfl
 have Ln:∀b o,s.heap.get? b=some o->g1.get? b=some o:=fun b o q=>by
  have lt:b<s.heap.objs.size:=zAz q;rw[vj,Heap.get?_push_ne _ _ _ (by rw[hV];exact zB6 (Nat.lt_succ_of_lt lt)),Heap.get?_update_ne _ _ _ _ (zB6 lt),Heap.get?_push_ne _ _ _ (zB6 lt)];exact q
 show wpAny _ _ _ _ _ {s with heap:=_};rw[hV,show((s.heap.push (seqObj "list" #[] 0)).update s.heap.objs.size (Obj.mapSeq (·++vs.toArray))).push (seqObj "list" vs.toArray 0)=g1 from vj.symm];refine zAx (wpAny_holding (wpAny_call_entry slot_list_sort ⟨_,oq,rfl⟩ entry_list_sort ?body (args_list_sort _)))
 obtain⟨D,eD⟩:∃D,D=s.heap.objs.size+1:=⟨_,rfl⟩
 rw[<-eD]at oq fin⊢
 have apart:∀b o,s.heap.get? b=some o->b≠D:=fun b o q e=>by
  have lt:b<s.heap.objs.size:=zAz q;rw[e,eD]at lt;exact absurd lt (Nat.not_lt_of_le (Nat.le_succ _))
 obtain⟨g2,Co⟩:∃g2,g2=g1.update D (Obj.mapSeq fun _=>(#[]:Array Value)):=⟨_,rfl⟩
 have Lo:Heap.SameBut D g1 g2:=Co▸Heap.SameBut.update g1 D _
 obtain⟨e1,at2⟩:∃e1,g2.get? D=some (seqObj "list" #[] e1):=⟨_,Co▸get?_update_seq oq fun _=>#[]⟩
 obtain⟨g3,Cs⟩:∃g3,g3=(g2.push (seqObj "tuple" vs.toArray 0)).push (seqObj "list" #[] 0):=⟨_,rfl⟩
 have qV:g3.get? D=some (seqObj "list" #[] e1):=Cs▸Heap.get?_push_of_some _ (Heap.get?_push_of_some _ at2);have Ct:∀b o,s.heap.get? b=some o->g3.get? b=some o:=fun b o q=>Cs▸Heap.get?_push_of_some _ (Heap.get?_push_of_some _ ((Lo.2 b (apart b o q)).trans (Ln b o q)));rw[list_sort_plain];refine wpAny_bind (listItems_at oq rfl (wpAny_bind (listUpdate_at oq rfl ?_ (by rw[zA8];exact fits) (zAp _))));rw[<-Co];refine wpAny_bind (seqEpoch_at at2 rfl (wpAny_bind (wpAny_newTuple (wpAny_bind (wpAny_newList (wpAny_holding ?_) (zAp _))) fits)));show wpAny (model prog w) A.in1.in1 _ _ _ {s with heap:=(g2.push (seqObj "tuple" vs.toArray 0)).push (seqObj "list" #[] 0)};rw[<-Cs];dsimp only;by_cases two:vs.toArray.size<2
 .have ot:vs.length<2:=by rw[zA8]at two;exact two
  rw[if_pos two,if_pos two];refine wpAny_bind (wpAny_pure ?_);show wpAny _ _ (do let r <-(pure ((),SortSt.mk' general' (vs.toArray.zip vs.toArray) #[] 7 none):Sem (Unit×SortSt));_) _ _ _;refine wpAny_bind (wpAny_pure ?_);dsimp only
  have em:(vs.toArray.zip vs.toArray).map (·.2)=vs.toArray:=by
   apply Array.toList_inj.mp;simp only[Array.toList_map,Array.toList_zip];exact List.map_snd_zip (zA3 _)
  rw[em];refine wpAny_bind (seqEpoch_at qV rfl (wpAny_bind (listUpdate_at qV rfl ?_ (zAp _) (by rw[zA8];lia))));simp only[bne_self_eq_false,Bool.false_eq_true,if_false];have CA:=Heap.SameBut.update g3 D (Obj.mapSeq fun _=>vs.toArray);exact wpAny_pure ⟨_,rfl,wpAny_pure ⟨_,rfl,fin vs (small ot) _ _ (fun b o z=>(CA.2 b (apart b o z)).trans (Ct b o z)) (get?_update_seq qV _)⟩⟩
 .have ot:2<=vs.length:=by rw[zA8]at two;lia
  rw[if_neg two,if_neg two];refine wpAny_bind (wpAny_mono (big ot g3 Ct) (fun κ s1 ⟨kD,run⟩=>?_) fun _ _ x=>x.elim);subst kD;refine wpAny_bind (wpAny_mono run ?_ fun _ _ x=>x.elim);rintro⟨⟨⟩,st⟩ s2 ⟨Lp,HC,out,vk,hR⟩;subst Lp;dsimp only at HC vk⊢;rw[vk];refine wpAny_bind (seqEpoch_at qV rfl (wpAny_bind (listUpdate_at qV rfl ?_ (zAp _) (by rw[zA8,len out hR];lia))));rw[HC];simp only[bne_self_eq_false,Bool.false_eq_true,if_false];have CA:=Heap.SameBut.update g3 D (Obj.mapSeq fun _=>out.toArray);exact wpAny_pure ⟨_,rfl,wpAny_pure ⟨_,rfl,fin out hR _ _ (fun b o z=>(CA.2 b (apart b o z)).trans (Ct b o z)) (get?_update_seq qV _)⟩⟩
theorem mD{g:Heap}{ads:List Addr}{row:Addr->List Int}:∀{l:List Addr},(∀a∈l,∃(us:List Value) (o:Obj) (n:Nat),g.get? a=some o/\o.cls=.type "tuple"/\o.data=.seq us.toArray n/\Vals ((row a).map V.int) us/\row a≠[])->∃fs,KatTups g (l.map Value.ref) fs/\fs.length=l.length/\∀v∈fs,∃i t,v=.int i t
 |[],_=>⟨[],.nil,rfl,fun _ h=>absurd h Zy⟩
 |a::l,h=>by
  obtain⟨us,o,n,h1,h2,h3,h4,h5⟩:=h a (.head _);obtain⟨fs,k,hl,hi⟩:=mD (ads:=ads) (row:=row) (l:=l) fun b hb=>h b (.tail _ hb)
  cases er:row a with
  |nil=>exact absurd er h5
  |cons i r=>
   rw[er]at h4
   cases h4 with
   |cons r1 t1=>
    obtain⟨t,rfl⟩:=r1;refine⟨_,.cons h1 h2 h3 (f:=.int i t) Zy k,by rw[List.length_cons,List.length_cons,hl],fun v hv=>?_⟩;rcases zAo.mp hv with z|z
    .exact⟨i,t,z⟩
    .exact hi v z
theorem Ci{l:List Addr}{row:Addr->List Int}{Q:SortKind->Shared->Prop}(obj:∀a∈l,∃(us:List Value) (o:Obj) (n:Nat),s.heap.get? a=some o/\o.cls=.type "tuple"/\o.data=.seq us.toArray n/\Vals ((row a).map V.int) us/\row a≠[])(hl:0<l.length)(h:Q (tuples' true) s):
  wpAny (model prog w) A (keyKind' (l.map Value.ref).toArray) Q E s:=by
 obtain⟨fs,kt,fl,fi⟩:=mD (ads:=l) (row:=row) obj;refine PySem.W.kat_kind (T:=.type "int") kt (by rw[fl];exact hl) (fun v hv=>?_) Zx h;obtain⟨i,t,rfl⟩:=fi v hv;exact .now
theorem uQ{l:List Addr}{row:Addr->List Int}(obj:∀a∈l,∃(us:List Value) (o:Obj) (n:Nat),s.heap.get? a=some o/\o.cls=.type "tuple"/\o.data=.seq us.toArray n/\Vals ((row a).map V.int) us/\row a≠[]):
  Srt.LtAll prog w A E s (Cd l row) (tuples' true):=fun st hk x y a b Q' ka kb hQ=>by
 obtain⟨x1,x2⟩:=x;obtain⟨y1,y2⟩:=y
 cases x1 with
 |ref xa=>
  cases y1 with
  |ref ya=>
   have ka:(if l.contains xa=true then some (row xa)else none)=some a:=ka;have kb:(if l.contains ya=true then some (row ya)else none)=some b:=kb;by_cases c1:l.contains xa=true
   .rw[zAv c1]at ka;by_cases c2:l.contains ya=true
    .rw[if_pos c2]at kb;cases ka;cases kb;obtain⟨QC,o1,n1,g1,_,d1,r1,_⟩:=obj xa (by simpa using c1);obtain⟨QD,o2,n2,g2,_,d2,r2,_⟩:=obj ya (by simpa using c2);rw[lt'_eq];refine wpS_bind (wpS_get ?_);rw[hk];refine wpS_bind (wpS_lift (wpAny_attempt (Ce g1 d1 g2 d2 r1 r2 ⟨rfl,?_⟩)));exact wpS_pure hQ
    .rw[zAu c2]at kb;cases kb
   .rw[zAu c1]at ka;cases ka
  |_=>cases kb
 |_=>cases ka
theorem sZ(l:List Addr):((l.map Value.ref).toArray.zip (l.map Value.ref).toArray).toList=l.map fun a=>(Value.ref a,Value.ref a):=by
 rw[Array.toList_zip];show(l.map Value.ref).zip (l.map Value.ref)=_;rw[List.zip_map']
theorem oN(l:List Addr)(row:Addr->List Int):KeysOf (Cd l row) ((l.map Value.ref).toArray.zip (l.map Value.ref).toArray):=fun z cv=>by
 rw[sZ]at cv;obtain⟨a,ha,rfl⟩:=zA5.mp cv;refine⟨row a,?_⟩;show(if l.contains a=true then some (row a)else none)=some (row a);rw[if_pos (by simpa using ha)]
def zK(p:Keyed):Addr:=match p.1 with
 |.ref a=>a
 |_=>0
theorem tu{l:List Addr}{row:Addr->List Int}{a:Addr}(h:a∈l):Srt.key (Cd l row) (Value.ref a,Value.ref a)=row a:=by
 show(if l.contains a=true then some (row a)else none).getD []=row a;rw[if_pos (by simpa using h)];rfl
theorem yg{l:List Addr}{row:Addr->List Int}(obj:∀a∈l,∃(us:List Value) (o:Obj) (n:Nat),s.heap.get? a=some o/\o.cls=.type "tuple"/\o.data=.seq us.toArray n/\Vals ((row a).map V.int) us/\row a≠[]){Q:Unit->SortSt->Prop}
  (h:∀st (l':List Addr),failedOf st=none->(arrOf st).map (·.2)=List.toArray (l'.map Value.ref)->l'.Perm l->l'.Pairwise (fun a b=>HT.lexLt (row b) (row a)=false)->Q () st):
  wpS (model prog w) A E s sortRuns' Q (SortSt.mk' (tuples' true) ((l.map Value.ref).toArray.zip (l.map Value.ref).toArray) #[] 7 none):=by
 refine Srt.runs_wp (κ:=Cd l row) (ks:=tuples' true) (uQ obj) (oN l row) ⟨rfl,rfl,.refl _⟩ rfl fun Zq B sg=>?_;have rf:=Array.perm_iff_toList_perm.mp B.pm;rw[sZ]at rf
 have e:(arrOf Zq).toList=((arrOf Zq).toList.map zK).map (fun a=>(Value.ref a,Value.ref a)):=by
  rw[zAr]
  conv=>lhs;rw[<-List.map_id (arrOf Zq).toList]
  refine List.map_congr_left fun z cv=>?_;obtain⟨a,ha,rfl⟩:=zA5.mp (rf.mem_iff.mp cv);rfl
 have pm:((arrOf Zq).toList.map zK).Perm l:=by
  have:=rf.map zK;rw[zAr]at this;rw[show(zK∘fun a=>(Value.ref a,Value.ref a))=id from rfl,List.map_id]at this;exact this
 generalize(arrOf Zq).toList.map zK=l' at e pm;refine h Zq l' B.ok ?_ pm ?_
 .apply Array.toList_inj.mp;rw[Array.toList_map,e,zAr];rfl
 .have ka:=Srt.keys_perm (oN l row) B.pm;have:=Srt.pw_of_seg ka (by rw[B.size];exact zA3 _) sg;rw[List.drop_zero,<-B.size,<-zA9,zAm,e,List.pairwise_map]at this;refine this.imp_of_mem fun{a b} ha hb hle=>?_;unfold Srt.leK at hle;rw[tu (pm.mem_iff.mp ha),tu (pm.mem_iff.mp hb)]at hle;exact hle
end
section
variable{X:Cx}
theorem oO:∀{l:List Addr} {us:List Value},Vals (l.map V.ref) us->us=l.map Value.ref
 |[],_,.nil=>rfl
 |a::l,_,.cons r t=>by
  rw[oO t,show _=Value.ref a from r];rfl
theorem vY:∀(l:List Addr),Vals (l.map V.ref) (l.map Value.ref)
 |[]=>.nil
 |_::l=>.cons rfl (vY l)
theorem zM{α:Type}{R:α->α->Prop}:∀{l:List α},l.length<2->l.Pairwise R
 |[],_=>.nil
 |[_],_=>List.pairwise_singleton _ _
 |_::_::_,h=>absurd h Zy
theorem fD:dG X (.builtin "sorted") (fun xs H Q=>∃(p:Addr) (l:List Addr) (row:Addr->List Int),xs=[.ref p]/\SqL X.K H p (l.map V.ref)/\(∀a∈l,SqT X.K H a ((row a).map V.int)/\row a≠[]) /\
  ∀(q:Addr) (l':List Addr),H q=none->q≠sysModules->l'.Perm l->l'.Pairwise (fun a b=>HT.lexLt (row b) (row a)=false)->Q (.ref q) (upd H q (.lst (l'.map V.ref)))):=by
 intro Zt s σ H xs us Q I r h;obtain⟨p,l,row,rfl,hp,oz,q⟩:=h;obtain⟨u,rfl,ru⟩:=vals1 r;cases ru;obtain⟨Zr,rv,pl,hz⟩:=I.list hp;have ei:=oO rv;subst ei
 have hlen:(l.map Value.ref).length<=sizeLine:=by
  rw[zA1]at hz⊢;exact hz
 have obj:∀a∈l,∃(us:List Value) (o:Obj) (n:Nat),s.heap.get? a=some o/\o.cls=.type "tuple"/\o.data=.seq us.toArray n/\Vals ((row a).map V.int) us/\row a≠[]:=fun a ha=>by
  obtain⟨ht,dv⟩:=oz a ha;obtain⟨as,ra,pa,_⟩:=I.tuple ht;obtain⟨oa,ga,ca,na,da⟩:=pa;exact⟨as,oa,na,ga,ca,da,ra,dv⟩
 refine Cg (R:=fun out=>∃l':List Addr,out=l'.map Value.ref/\l'.Perm l/\l'.Pairwise fun a b=>HT.lexLt (row b) (row a)=false) pl.isList hlen (fun hs=>⟨l,rfl,.refl _,?_⟩) (fun hb g kp=>?_) (fun out ⟨l',e,pm,_⟩=>by rw[e,zA1,zA1,pm.length_eq]) fun out ⟨l',e,pm,pw⟩ h2 c kp2 at2=>?_
 .rw[zA1]at hs;exact zM hs
 .have vn:∀a∈l,∃(us:List Value) (o:Obj) (n:Nat),g.get? a=some o/\o.cls=.type "tuple"/\o.data=.seq us.toArray n/\Vals ((row a).map V.int) us/\row a≠[]:=fun a ha=>by
   obtain⟨us,o,n,h1,h2⟩:=obj a ha;exact⟨us,o,n,kp _ _ h1,h2⟩
  refine Ci (s:={s with heap:=g}) vn (by rw[zA1]at hb;lia) ?_;refine⟨rfl,yg (s:={s with heap:=g}) vn fun st l' e1 e2 e3 e4=>⟨e1,l'.map Value.ref,e2,l',rfl,e3,e4⟩⟩
 .subst e;exact⟨.ref (s.heap.objs.size+1),_,I.laid (t':=s.toks) kp2 (Nat.le_succ _) (show ObjOk X.prog X.w _ h2 _ (.lst (l'.map V.ref))from⟨by rw[zA1,pm.length_eq];rw[zA1]at hz;exact hz,_,c,vY l',at2⟩),rfl,q _ l' (I.hok.fresh (Nat.le_succ _)) (Nat.ne_of_gt (zB2 I.big (Nat.le_succ _))) pm pw⟩
theorem qG:dG X (.builtin "sorted") (fun xs H Q=>∃(p:Addr) (l:List Addr) (row:Addr->List Int),xs=[.ref p]/\SqL X.K H p (l.map V.ref)/\(∀a∈l,SqT X.K H a ((row a).map V.int)/\row a≠[]) /\
  ∀(q:Addr) (l':List Addr),H q=none->l'.Perm l->l'.Pairwise (fun a b=>HT.lexLt (row b) (row a)=false)->Q (.ref q) (upd H q (.lst (l'.map V.ref)))):=by
 intro Zt s σ H xs us Q I r h;obtain⟨p,l,row,e,hp,oz,q⟩:=h;exact fD Zt s σ H xs us Q I r ⟨p,l,row,e,hp,oz,fun q' l' a _ b c=>q q' l' a b c⟩
end
section
variable{X:Cx}
theorem nH(hc:X.calm=true):dG X (.builtin "max") (fun xs H Q=>∃(p:Addr) (ns:List Int),xs=[.ref p]/\SqL X.K H p (ns.map V.int)/\ns≠[]/\∀M,M∈ns->(∀a∈ns,a<=M)->Q (.int M) H):=by
 intro Zt s σ H xs us Q I r h;obtain⟨p,ns,rfl,hq,dv,q⟩:=h;obtain⟨u,rfl,ru⟩:=vals1 r;cases ru;obtain⟨Zr,rv,pl,hz⟩:=I.list hq;have hi:IntsAre Zr ns:=intsAre_of rv;obtain⟨zs,ez⟩:=(hi.allInts:AllInts Zr.toArray).items;have en:numsOf Zr=ns:=hi.numsOf;have hl:s.heap.IsList p (intItems zs):=ez▸pl.isList
 have bg:0<zs.size:=by
  have e1:(intItems zs).size=Zr.length:=by rw[<-ez,zA8]
  have e2:=rv.length;rw[zA1]at e2;have e3:0<ns.length:=List.length_pos_iff.mpr dv;simp only[intItems,Array.size_map]at e1;lia
 have hn:numsOf (intItems zs).toList=ns:=by rw[<-ez];exact en
 refine max_intList (I.ok.hd hc) hl bg fun v h' tk hv hk=>?_;obtain⟨t,rfl⟩:=intItems_at hv;obtain⟨h1,h2⟩:=argBest_gt (numAt zs) (zs.size-1);rw[nums_intItems]at hn;refine⟨.int _,H,I.kept (t':=tk) hk,⟨t,rfl⟩,q _ ?_ fun a ha=>?_⟩
 .rw[<-hn,numAt_eq];exact getD_mem (by rw[zA1,zA9];lia)
 .rw[<-hn]at ha;obtain⟨j,hj,rfl⟩:=mem_getD ha;rw[zA1,zA9]at hj;rw[<-numAt_eq];exact h2 j Zz
end
theorem yh{M:Model}{A:Around}{E:Value->Shared->Prop}{s:Shared}{a b:Value}{Q:Value->Shared->Prop}(ha:s.TypeIs a "list")(hb:s.TypeIs b "list")(hc:wpAny M A (call (.builtin "list.__iadd__") [a,b]) Q E s):wpAny M A (inplaceOp .Add a b) Q E s:=by
 unfold inplaceOp;refine wpAny_holding ?_;have hl:typeLookup (.type "list") (dunderI "add")=pure (some (.builtin "list.__iadd__")):=F.slot_list_iadd.lookup
 have Lq:fillsInplaceSlot (.type "list") "add" (Operator.Add==.Add)=pure false:=by
  unfold fillsInplaceSlot;show(typeLookup (.type "list") (dunderI "add")>>=fun fi=>pure (fi.isSome&&!isSeqSlot fi))=pure false;rw[hl];have:isSeqSlot (some (.builtin "list.__iadd__"))=true:=by decide +kernel
  show(pure (true&&!isSeqSlot (some (.builtin "list.__iadd__"))):Sem Bool)=_;rw[this];rfl
 have Lr:seqSlot? (.type "list") (dunderI "add")=pure (some (.builtin "list.__iadd__")):=PySem.seqSlot_of F.slot_list_iadd.lookup Zv;refine zAx (wpAny_typeOf ha (zAx (wpAny_of_eq Lq ?_)));show wpAny M A (if false=true then _ else _) Q E s;rw[zAu zAg];refine zAx (wpAny_binaryOp1_none (nm:="add") ha hb noFill_list_add ?_);refine zAx (wpAny_of_eq Lr ?_);exact zAx (wpAny_rule hc)
inductive RICatI(x:V)(y:V)(H:Hp)(Q:VK):Prop
 |mk:∀l b xs zs,(x=.ref l)->(y=.ref b)->(H l=some (.lst xs))->(H b=some (.lst zs))->(xs.length+zs.length<=sizeLine)->(Q (.ref l) (upd H l (.lst (xs++zs))))->RICatI  x y H Q
def Hl:TIp:=fun x y H Q=>RICatI  x y H Q
theorem qH{X:Cx}:PIp X .Add Hl:=by
 intro Zt s σ H x y v u Q I rx ru h;obtain⟨l,b,xs,zs,rfl,rfl,hH,hB,hz,q⟩:=h;cases rx;cases ru;obtain⟨z,Zr,n,r,hl,e⟩:=I.lstM hH;obtain⟨z2,bq,n2,r2,fE,e2⟩:=I.lstM hB;have hsz:Zr.toArray.size+bq.toArray.size<=sizeLine:=by rw[zA8,zA8];lia
 have eJ:¬(!Zr.toArray.isEmpty&&Builtin.List.listTooLong (Zr.toArray.size+bq.toArray.size))=true:=by
  rw[lH hsz,Bool.and_false];exact zAg
 refine yh ⟨_,e,rfl⟩ ⟨_,e2,rfl⟩ (call_meets F.slot_list_iadd ⟨_,e,rfl⟩ F.entry_list_iadd (F.args_list_iadd_2 _ _)
  (AutoSeq1.list___iadd___list_list_0 l Zr.toArray n b bq.toArray n2 eJ (by rw[zA8];lia) Zz) ⟨e,e2,?_⟩)
 refine⟨.ref l,_,I.lset (its':=Zr++bq) hH e Zy (r.append r2) ?_,rfl,q⟩;rw[zA2];lia
end L2
namespace K53
open PySem L2
def top(i:Nat):Stmt:=PySem.Challenge.pw_woolyears_k53_whole_more_wool_is_no_wors.main.body.getD i (.Pass ⟨0,0,0,0⟩)
def cX(d:PyData):Bool:=qt d&&!qu d
def items:PyData->List PyData
 |.tuple ds=>ds
 |_=>[]
def intOf:PyData->Int
 |.int i=>i
 |_=>0
def bB(d:PyData)(f m:Int):Bool:=qw d&&(decide (f<=(items d).length)&&decide (((items d).length:Int)<=m))
def bC(d:PyData)(n:Int):Bool:=bB d n n&&(items d).all cX
def oR(d:PyData):Bool:=bC d 3&&(items d).all fun x=>decide (0<=intOf x)&&decide (intOf x<=999)
def gP(d:PyData):Bool:=bB d 1 20&&(items d).all oR
def at_(d:PyData)(i:Nat):Int:=intOf ((items d).getD i .none)
def qI(a b c d e f:Int):Bool:=
 (decide (0<=a)&&decide (a<8))&&((decide (0<=b)&&decide (b<3))&&((decide (0<=c)&&(decide (c<=d)&&decide (d<=19)))&&((decide (1<=e)&&decide (e<=99))&&(decide (0<=f)&&decide (f<=1000000)))))
def ji(d:PyData):Bool:=bC d 6&&qI (at_ d 0) (at_ d 1) (at_ d 2) (at_ d 3) (at_ d 4) (at_ d 5)
def dM(d:PyData):Bool:=bB d 0 10&&(items d).all ji
theorem nd1(x:Str):([x]:List Str).Nodup:=by simp
theorem zN(d:PyData):1<=sz d:=by cases d<;>simp[sz]
theorem qJ:∀(ds:List PyData),ds.length<=szs ds
 |[]=>zAp _
 |d::ds=>by
  have:=qJ ds;have:=zN d;simp only[List.length_cons,szs];lia
theorem qK:∀{ds:List PyData} {d:PyData},d∈ds->sz d<=szs ds
 |x::ds,d,h=>by
  simp only[szs];rcases zAo.mp h with e|e
  .rw[e];lia
  .have:=qK e;lia
theorem jj{ds:List PyData}{d:PyData}(h:d∈ds)(hz:sz (.tuple ds)<=4000):sz d<=4000:=by
 have:=qK h;simp only[sz]at hz;lia
theorem eV{S:Addr->Prop}{H:Hp}{xs:List V}{ds:List PyData}(r:IsThs S H xs ds)(hz:sz (.tuple ds)<=4000):xs.length<sizeLine:=by
 have:=qJ ds;have:=r.length;simp only[sz]at hz;rw[sizeLine_eq];lia
def spT(f:PyData->Bool):Sp:=fun vs H Q _=>∃S v d,vs=[v]/\IsTh S H v d/\sz d<=4000/\∀H',Same H H'->Q (.bl (f d)) H'
inductive SpT1I(f:PyData->Int->Bool)(vs:List V)(H:Hp)(Q:VK):Prop
 |mk:∀S v d n,(vs=[v,.int n])->(IsTh S H v d)->(sz d<=4000)->(∀H',Same H H'->Q (.bl (f d n)) H')->SpT1I f vs H Q
def Cj(f:PyData->Int->Bool):Sp:=fun vs H Q _=>SpT1I f vs H Q
def jC(f:PyData->Int->Int->Bool):Sp:=fun vs H Q _=>∃S v d n m,vs=[v,.int n,.int m]/\IsTh S H v d/\sz d<=4000/\∀H',Same H H'->Q (.bl (f d n m)) H'
structure Mg(mg:Str->Option Value):Prop where
 isinstance:mg "isinstance"=none
 int:mg "int"=none
 bool:mg "bool"=none
 tuple:mg "tuple"=none
 len:mg "len"=none
 all:mg "all"=none
theorem boot_int:bootBuiltins "int"=some (.type "int"):=by decide +kernel
theorem boot_bool:bootBuiltins "bool"=some (.type "bool"):=by decide +kernel
theorem boot_tuple:bootBuiltins "tuple"=some (.type "tuple"):=by decide +kernel
theorem boot_isinstance:bootBuiltins "isinstance"=some (.builtin "isinstance"):=by decide +kernel
theorem boot_all:bootBuiltins "all"=some (.builtin "all"):=by decide +kernel
theorem cZ{K:Frag}{S:Addr->Prop}{te:TE}{src:List (Option Nat)}{i j:Nat}{σ:St}{H:Hp}{Q:VK}{a:Addr}{xs:List V}{ds:List PyData}(f:PyData->Bool)(lS:σ[i]?=some (some (.ref a)))(ea:H a=some (.tup xs))(r:IsThs S H xs ds)(hl:xs.length<sizeLine)
  (ub:∀v d H1 Q1,d∈ds->Same H H1->IsTh S H1 v d->(∀H',Same H1 H'->Q1 (.bl (f d)) H')->te ((capσ σ src).set j (some v)) H1 Q1) (q:∀H',Same H H'->Q (.bl (ds.all f)) H'):
  tCB (fun xs H Q=>∃(p:Addr) (bs:List Bool),xs=[.ref p]/\SqL K H p (bs.map V.bl)/\Q (.bl (bs.all id)) H) (rM (za (Gi K (xF i)) src (bL j) uF te) Ey) σ H Q:=by
 refine⟨_,lS,a,rfl,⟨xs,SqT.of ea⟩,sG (j:=j) f ea r hl ub fun H2 s2 D hD=>⟨D,ds.map f,rfl,?_,?_⟩⟩
 .rw[<-zq];exact SqL.of ao
 .rw[Ft];exact q _ (s2.updR hD)
structure Nums(mg:Str->Option Value):Prop where
 sorts:∃t,mg "SORTS"=some (.int 3 t)
 holders:∃t,mg "HOLDERS"=some (.int 8 t)
 year:∃t,mg "LAST_YEAR"=some (.int 19 t)
 clips:∃t,mg "MOST_CLIPS"=some (.int 20 t)
 proms:∃t,mg "MOST_PROMISES"=some (.int 10 t)
 wool:∃t,mg "MOST_WOOL"=some (.int 999 t)
 sacks:∃t,mg "MOST_SACKS"=some (.int 99 t)
 price:∃t,mg "MOST_PRICE"=some (.int 1000000 t)
theorem jD{d:PyData}{n:Int}(h:bC d n=true):bB d n n=true/\∀x∈items d,cX x=true:=by
 unfold bC at h;rw[zAc]at h;exact⟨h.1,List.all_eq_true.mp h.2⟩
theorem jE{S:Addr->Prop}{H:Hp}{v:V}{d:PyData}(h:IsTh S H v d)(e:cX d=true):∃i,v=.int i/\d=.int i:=by
 cases h with
 |int i=>exact⟨i,rfl,rfl⟩
 |_=>cases e
theorem jk{α:Type}{n:Nat}{l:List α}(h:l.length=n+1):∃a t,l=a::t/\t.length=n:=by
 cases l with
 |nil=>cases h
 |cons a t=>exact⟨a,t,rfl,Nat.succ.inj h⟩
theorem Hm{α:Type}{l:List α}(h:l.length=5):∃a b c d e,l=[a,b,c,d,e]:=by
 obtain⟨a,l1,e1,h1⟩:=jk h;obtain⟨b,l2,e2,h2⟩:=jk h1;obtain⟨c,l3,e3,h3⟩:=jk h2;obtain⟨d,l4,e4,h4⟩:=jk h3;obtain⟨e,l5,e5,h5⟩:=jk h4;exact⟨a,b,c,d,e,by rw[e1,e2,e3,e4,e5,List.length_eq_zero_iff.mp h5]⟩
theorem Hn{α:Type}{l:List α}(h:l.length=6):∃a b c d e f,l=[a,b,c,d,e,f]:=by
 obtain⟨a,l1,e1,h1⟩:=jk h;obtain⟨b,c,d,e,f,e2⟩:=Hm h1;exact⟨a,b,c,d,e,f,by rw[e1,e2]⟩
theorem fM{S:Addr->Prop}{H:Hp}{xs:List V}{d:PyData}{ds:List PyData}(r:IsThs S H xs (d::ds))(e:cX d=true):∃i t,xs=.int i::t/\d=.int i/\IsThs S H t ds:=by
 cases r with
 |cons h1 r=>
  obtain⟨i,rfl,rfl⟩:=jE h1 e;exact⟨i,_,rfl,rfl,r⟩
theorem mF{S:Addr->Prop}{H:Hp}{xs:List V}{d:PyData}{ds:List PyData}(r:IsThs S H xs (d::ds)):∃v t,xs=v::t/\IsTh S H v d/\IsThs S H t ds:=by
 cases r with
 |cons h1 r=>exact⟨_,_,rfl,h1,r⟩
theorem yj{S:Addr->Prop}{H:Hp}{xs:List V}{ds:List PyData}(r:IsThs S H xs ds)(hl:ds.length=3):∃v0 v1 v2 d0 d1 d2,xs=[v0,v1,v2]/\ds=[d0,d1,d2]/\IsTh S H v0 d0/\IsTh S H v1 d1/\IsTh S H v2 d2:=by
 obtain⟨d0,l1,e1,h1⟩:=jk hl;obtain⟨d1,l2,e2,h2⟩:=jk h1;obtain⟨d2,l3,e3,h3⟩:=jk h2;have e:ds=[d0,d1,d2]:=by rw[e1,e2,e3,List.length_eq_zero_iff.mp h3]
 subst e;obtain⟨v0,t0,f0,i0,r0⟩:=mF r;obtain⟨v1,t1,f1,i1,r1⟩:=mF r0;obtain⟨v2,t2,f2,i2,r2⟩:=mF r1;cases r2;exact⟨v0,v1,v2,d0,d1,d2,by rw[f0,f1,f2],rfl,i0,i1,i2⟩
theorem zP{S:Addr->Prop}{H:Hp}{xs:List V}{ds:List PyData}(r:IsThs S H xs ds)(hl:ds.length=6)(hw:∀x∈ds,cX x=true):
  ∃i1 i2 i3 i4 i5 i6:Int,xs=[.int i1,.int i2,.int i3,.int i4,.int i5,.int i6]/\ds=[.int i1,.int i2,.int i3,.int i4,.int i5,.int i6]:=by
 obtain⟨d1,d2,d3,d4,d5,d6,rfl⟩:=Hn hl;obtain⟨i1,t1,e1,rfl,r1⟩:=fM r (hw _ Zy);obtain⟨i2,t2,e2,rfl,r2⟩:=fM r1 (hw _ Zy);obtain⟨i3,t3,e3,rfl,r3⟩:=fM r2 (hw _ Zy);obtain⟨i4,t4,e4,rfl,r4⟩:=fM r3 (hw _ Zy);obtain⟨i5,t5,e5,rfl,r5⟩:=fM r4 (hw _ Zy);obtain⟨i6,t6,e6,rfl,r6⟩:=fM r5 (hw _ Zy);cases r6;exact⟨i1,i2,i3,i4,i5,i6,by rw[e1,e2,e3,e4,e5,e6],rfl⟩
theorem yl{ds:List PyData}{n m:Int}(h:bB (.tuple ds) n m=true):n<=(ds.length:Int)/\(ds.length:Int)<=m:=by
 have h:(true&&(decide (n<=(ds.length:Int))&&decide ((ds.length:Int)<=m)))=true:=h;rw[Bool.true_and,zAc]at h;exact⟨zB4 h.1,zB4 h.2⟩
def Cal(P:Program)(w:World)(K:Frag)(mg:Str->Option Value)(base:Heap)(k:Nat)(x:Str)(ps:List Str)(sp:Sp):Prop:=
 ∃f fd,FnOk P w K mg base CX0 k f fd ps sp/\mg x=some (.ref f)/\PySem.W.keepIn K (.ref f)=true/\Binds K fd ps []
theorem aG{X:Cx}{k j:Nat}{x:Str}{ps:List Str}{sp:Sp}{p pos:Pos}{e:Expr}{es:List Expr}{t:TA}(c:Cal X.prog X.w X.K X.mg X.base j x ps sp)(hr:Room k X.A)(ha:PA X (e::es) t)(Ls:j<=k:=by decide)(hg:Gl X x:=by exact rfl)
  (nr:(x==("__debug__":Str))=false:=by decide) (he:starEach (e::es) X.env=(false,eval e X.env)::starEach es X.env:=by rfl) (kR:(backTo pos (starEach es X.env)).any (·.1)=false:=by rfl):
  PE X (.Call (.Name x p) (e::es) [] pos) (Dy sp [] E0 t):=by
 obtain⟨f,fd,F,hm,hk,hb⟩:=c;exact By F (hr.mono Ls) hg hm hk hb .nil Gy ha nr he kR
variable{P:Program}{w:World}{K:Frag}{mg:Str->Option Value}{base:Heap}{f:Addr}{fd:FuncData}
theorem sc1:FnScope ["thing"] ["thing"] (aK (top 10)):=fQS
theorem tD(F:Fun K "is_whole" "is_whole" (top 10) f fd)(T:Mg mg):FnOk P w K mg base CX0 1 f fd ["thing"] (spT cX):=by
 refine F.ok sc1 (fun vs H Q E h=>?_) (fun ar A outer s H vs Q E hr h=>?_)
 .obtain⟨S,v,d,rfl,_⟩:=h;rfl
 .obtain⟨S,v,d,rfl,th,hz,q⟩:=h
  refine⟨_,aC (aU (cg (aQ gG rfl T.isinstance boot_isinstance (aP (pv 0) (aP (pO rfl T.int boot_int (v:=.ty "int") rfl) aj)))
   (cV (Er (aQ gG rfl T.isinstance boot_isinstance (aP (pv 0) (aP (pO rfl T.bool boot_bool (v:=.ty "bool") rfl) aj))))))),?_⟩
  refine⟨_,rfl,v,_,"int",qt d,rfl,th.ty,BX d,_,rfl,?_⟩;have fin:=q H (Same.refl H);unfold cX at fin
  cases e:qt d with
  |false=>
   rw[e]at fin;exact bF fin
  |true=>
   rw[e]at fin;exact bN ⟨_,rfl,v,_,"bool",qu d,rfl,th.ty,zm d,_,rfl,fin⟩
theorem sc2:FnScope ["thing","fewest","most"] ["thing","fewest","most"] (aK (top 12)):=fQS
theorem mG(F:Fun K "is_tuple_of" "is_tuple_of" (top 12) f fd)(T:Mg mg):FnOk P w K mg base CX0 1 f fd ["thing","fewest","most"] (jC bB):=by
 refine F.ok sc2 (fun vs H Q E h=>?_) (fun ar A outer s H vs Q E hr h=>?_)
 .obtain⟨S,v,d,n,m,rfl,_⟩:=h;rfl
 .obtain⟨S,v,d,n,m,rfl,th,hz,q⟩:=h
  refine⟨_,aC (aU (cg (aQ gG rfl T.isinstance boot_isinstance (aP (pv 0) (aP (pO rfl T.tuple boot_tuple (v:=.ty "tuple") rfl) aj)))
   (cV (cQ bH bH (pv 1) (aQ aZ rfl T.len PySem.boot_len (aP (pv 0) aj)) (pv 2))))),?_⟩
  refine⟨_,rfl,v,_,"tuple",qw d,rfl,th.ty,BZ d,_,rfl,?_⟩;have fin:=q H (Same.refl H);unfold bB at fin
  cases e:qw d with
  |false=>
   rw[e]at fin;exact bF fin
  |true=>
   rw[e]at fin;refine bN ?_
   cases th with
   |@tup a xs ds ea r=>
    have hl:=r.length;refine⟨_,rfl,_,rfl,a,xs,rfl,.inr (SqT.of ea),_,_,rfl,rfl,_,rfl,?_⟩;rw[hl];have fin:Q (.bl (true&&(decide (n<=(ds.length:Int))&&decide ((ds.length:Int)<=m)))) H:=fin
    cases e1:decide (n<=(ds.length:Int))with
    |false=>
     rw[e1]at fin;exact bF fin
    |true=>
     rw[e1]at fin;exact bN ⟨_,rfl,_,_,rfl,rfl,fin⟩
   |_=>cases e
theorem sc3:FnScope ["thing","many"] ["thing","many"] (aK (top 13)):=fQS
theorem nJ(F:Fun K "are_wholes" "are_wholes" (top 13) f fd)(T:Mg mg)(c1:Cal P w K mg base 1 "is_whole" ["thing"] (spT cX))(c2:Cal P w K mg base 1 "is_tuple_of" ["thing","fewest","most"] (jC bB)):
  FnOk P w K mg base CX0 2 f fd ["thing","many"] (Cj bC):=by
 refine F.ok sc3 (fun vs H Q E h=>?_) (fun ar A outer s H vs Q E hr h=>?_)
 .obtain⟨S,v,d,n,rfl,_⟩:=h;rfl
 .obtain⟨S,v,d,n,rfl,th,hz,q⟩:=h
  refine⟨_,aC (aU (cg (aG c2 hr (aP (pv 0) (aP (pv 1) (aP (pv 1) aj))))
   (cV (aQ (eU rfl) rfl T.all boot_all (aP (bW ["part"] [none] rfl (dD (pv 0))
    (fun C fp Zt s₂ H₂=>⟨bQ (i:=0) (nd1 _) rfl (Or.inl rfl),cu,aG c1 hr (aP (pv 0) aj)⟩) (fun C=>trivial) ⟨rfl,rfl,rfl,rfl⟩) aj))))),?_⟩
  refine⟨_,rfl,_,rfl,_,rfl,S,v,d,n,n,rfl,th,hz,fun H1 s1=>⟨_,rfl,?_⟩⟩;have de:=th.same s1
  cases e:bB d n n with
  |false=>
   refine bF ?_;have fin:=q H1 s1;unfold bC at fin;rw[e]at fin;exact fin
  |true=>
   refine bN ?_
   cases de with
   |@tup a xs ds ea r=>
    have ew:bC (.tuple ds) n=ds.all cX:=by unfold bC;rw[e];rfl
    refine cZ cX rfl ea r (eV r hz) (fun v d H2 Q2 hm s2 t2 q2=>⟨_,rfl,S,v,d,rfl,t2,jj hm hz,q2⟩) fun H2 s2=>?_;rw[<-ew];exact q _ (s1.trans s2)
   |_=>cases e
theorem sc13:FnScope ["thing"] ["thing"] (aK (top 24)):=fQS
theorem uR(F:Fun K "is_clip" "is_clip" (top 24) f fd)(T:Mg mg)(N:Nums mg)(c1:Cal P w K mg base 2 "are_wholes" ["thing","many"] (Cj bC)):
  FnOk P w K mg base CX0 3 f fd ["thing"] (spT oR):=by
 refine F.ok sc13 (fun vs H Q E h=>?_) (fun ar A outer s H vs Q E hr h=>?_)
 .obtain⟨S,v,d,rfl,_⟩:=h;rfl
 .obtain⟨S,v,d,rfl,th,hz,q⟩:=h;obtain⟨t3,e3⟩:=N.sorts;obtain⟨t9,e9⟩:=N.wool
  refine⟨_,aC (aU (cg (aG c1 hr (aP (pv 0) (aP (bM (v:=.int 3) rfl e3 ⟨_,rfl⟩) aj)))
   (cV (aQ (eU rfl) rfl T.all boot_all (aP (bW ["sacks"] [none] rfl (dD (pv 0))
    (fun C fp Zt s₂ H₂=>⟨bQ (i:=0) (nd1 _) rfl (Or.inl rfl),cu,cQ bH bH az (pv 0) (bM (v:=.int 999) rfl e9 ⟨_,rfl⟩)⟩) (fun C=>trivial) ⟨rfl,rfl,rfl,rfl⟩) aj))))),?_⟩
  refine⟨_,rfl,S,v,d,3,rfl,th,hz,fun H1 s1=>⟨_,rfl,?_⟩⟩;have de:=th.same s1;have fin:=fun H' (s:Same H H')=>q H' s;unfold oR at fin
  cases e:bC d 3 with
  |false=>
   rw[e]at fin;exact bF (fin _ s1)
  |true=>
   rw[e]at fin;refine bN ?_;obtain⟨e1,e2⟩:=jD e
   cases de with
   |@tup a xs ds ea r=>
    refine cZ (fun x=>decide (0<=intOf x)&&decide (intOf x<=999)) rfl ea r (eV r hz) (fun v d H2 Q2 hm s2 t2 q2=>?_) fun H2 s2=>fin _ (s1.trans s2);obtain⟨i,rfl,rfl⟩:=jE t2 (e2 d hm);refine⟨_,rfl,_,_,rfl,rfl,_,rfl,?_⟩;have q3:=q2 H2 (Same.refl _);show if decide ((0:Int)<=i)=true then _ else _
    cases e5:decide ((0:Int)<=i)with
    |false=>
     refine bF ?_;have q3:Q2 (.bl (decide ((0:Int)<=i)&&decide (i<=999))) H2:=q3;rw[e5]at q3;exact q3
    |true=>
     refine bN ⟨_,_,rfl,rfl,?_⟩;have q3:Q2 (.bl (decide ((0:Int)<=i)&&decide (i<=999))) H2:=q3;rw[e5]at q3;exact q3
   |_=>cases e1
theorem sc14:FnScope ["thing"] ["thing"] (aK (top 25)):=fQS
theorem qL(F:Fun K "are_clips" "are_clips" (top 25) f fd)(T:Mg mg)(N:Nums mg)(c1:Cal P w K mg base 3 "is_clip" ["thing"] (spT oR))(c2:Cal P w K mg base 1 "is_tuple_of" ["thing","fewest","most"] (jC bB)):
  FnOk P w K mg base CX0 4 f fd ["thing"] (spT gP):=by
 refine F.ok sc14 (fun vs H Q E h=>?_) (fun ar A outer s H vs Q E hr h=>?_)
 .obtain⟨S,v,d,rfl,_⟩:=h;rfl
 .obtain⟨S,v,d,rfl,th,hz,q⟩:=h;obtain⟨t3,e3⟩:=N.clips
  refine⟨_,aC (aU (cg (aG c2 hr (aP (pv 0) (aP az (aP (bM (v:=.int 20) rfl e3 ⟨_,rfl⟩) aj))))
   (cV (aQ (eU rfl) rfl T.all boot_all (aP (bW ["part"] [none] rfl (dD (pv 0))
    (fun C fp Zt s₂ H₂=>⟨bQ (i:=0) (nd1 _) rfl (Or.inl rfl),cu,aG c1 hr (aP (pv 0) aj)⟩) (fun C=>trivial) ⟨rfl,rfl,rfl,rfl⟩) aj))))),?_⟩
  refine⟨_,rfl,S,v,d,1,20,rfl,th,hz,fun H1 s1=>⟨_,rfl,?_⟩⟩;have de:=th.same s1;have fin:=fun H' (s:Same H H')=>q H' s;unfold gP at fin
  cases e:bB d 1 20 with
  |false=>
   rw[e]at fin;exact bF (fin _ s1)
  |true=>
   rw[e]at fin;refine bN ?_
   cases de with
   |@tup a xs ds ea r=>exact cZ oR rfl ea r (eV r hz) (fun v d H2 Q2 hm s2 t2 q2=>⟨_,rfl,S,v,d,rfl,t2,jj hm hz,q2⟩) fun H2 s2=>fin _ (s1.trans s2)
   |_=>cases e
theorem sc15:FnScope ["thing","holder","sort","first","last","sacks","price"] ["thing"] (aK (top 26)):=fQS
theorem nM(F:Fun K "is_promise" "is_promise" (top 26) f fd)(T:Mg mg)(N:Nums mg)(c1:Cal P w K mg base 2 "are_wholes" ["thing","many"] (Cj bC)):
  FnOk P w K mg base CX0 3 f fd ["thing"] (spT ji):=by
 refine F.ok sc15 (fun vs H Q E h=>?_) (fun ar A outer s H vs Q E hr h=>?_)
 .obtain⟨S,v,d,rfl,_⟩:=h;rfl
 .obtain⟨S,v,d,rfl,th,hz,q⟩:=h;obtain⟨t1,e1⟩:=N.holders;obtain⟨t2,e2⟩:=N.sorts;obtain⟨t3,e3⟩:=N.year;obtain⟨t4,e4⟩:=N.sacks;obtain⟨t5,e5⟩:=N.price
  refine⟨_,aA (bY (bZ (dB (aG c1 hr (aP (pv 0) (aP az aj))))) (aC (aU gr)) bh)
   (aA (cz (pv 0) (bI rfl (aq (pgn 1 sc15.nd) (aq (pgn 2 sc15.nd) (aq (pgn 3 sc15.nd)
    (aq (pgn 4 sc15.nd) (aq (pgn 5 sc15.nd) (aq (pgn 6 sc15.nd) aY))))))))
   (aC (aU (cg (cQ bH gF az (pv 1) (bM (v:=.int 8) rfl e1 ⟨_,rfl⟩)) (cg (cQ bH gF az (pv 2) (bM (v:=.int 3) rfl e2 ⟨_,rfl⟩))
    (cg (xV bH bH bH az (pv 3) (pv 4) (bM (v:=.int 19) rfl e3 ⟨_,rfl⟩)) (cg (cQ bH bH az (pv 5) (bM (v:=.int 99) rfl e4 ⟨_,rfl⟩))
     (cV (cQ bH bH az (pv 6) (bM (v:=.int 1000000) rfl e5 ⟨_,rfl⟩)))))))))),?_⟩
  refine⟨_,rfl,S,v,d,6,rfl,th,hz,fun H1 s1=>⟨_,rfl,?_⟩⟩;have de:=th.same s1;have fin:=fun H' (s:Same H H')=>q H' s;unfold ji at fin
  cases e:bC d 6 with
  |false=>
   rw[e]at fin;exact bN (fin _ s1)
  |true=>
   rw[e]at fin;refine bF ?_;obtain⟨z1,z2⟩:=jD e
   cases de with
   |@tup a xs ds ea r=>
    have hl:ds.length=6:=by
     have:=yl z1;lia
    obtain⟨i1,i2,i3,i4,i5,i6,rfl,rfl⟩:=zP r hl z2;refine⟨_,rfl,a,_,rfl,SqT.of ea,rfl,_,_,rfl,_,_,rfl,_,_,rfl,_,_,rfl,_,_,rfl,_,_,rfl,rfl,?_⟩;refine gJ (bO dR (dw rfl) dR) (fun _=>gJ (bO dR (dw rfl) dR) fun _=>gJ (xW dR (dw rfl) (dw rfl) dR) fun _=>gJ (bO dR (dw rfl) dR) fun _=>bO dR (dw rfl) dR) _ ?_;exact fin H1 s1
   |_=>cases z1
theorem J2:FnScope ["thing"] ["thing"] (aK (top 27)):=fQS
theorem kJ(F:Fun K "are_promises" "are_promises" (top 27) f fd)(T:Mg mg)(N:Nums mg)(c1:Cal P w K mg base 3 "is_promise" ["thing"] (spT ji))(c2:Cal P w K mg base 1 "is_tuple_of" ["thing","fewest","most"] (jC bB)):
  FnOk P w K mg base CX0 4 f fd ["thing"] (spT dM):=by
 refine F.ok J2 (fun vs H Q E h=>?_) (fun ar A outer s H vs Q E hr h=>?_)
 .obtain⟨S,v,d,rfl,_⟩:=h;rfl
 .obtain⟨S,v,d,rfl,th,hz,q⟩:=h;obtain⟨t3,e3⟩:=N.proms
  refine⟨_,aC (aU (cg (aG c2 hr (aP (pv 0) (aP az (aP (bM (v:=.int 10) rfl e3 ⟨_,rfl⟩) aj))))
   (cV (aQ (eU rfl) rfl T.all boot_all (aP (bW ["part"] [none] rfl (dD (pv 0))
    (fun C fp Zt s₂ H₂=>⟨bQ (i:=0) (nd1 _) rfl (Or.inl rfl),cu,aG c1 hr (aP (pv 0) aj)⟩) (fun C=>trivial) ⟨rfl,rfl,rfl,rfl⟩) aj))))),?_⟩
  refine⟨_,rfl,S,v,d,0,10,rfl,th,hz,fun H1 s1=>⟨_,rfl,?_⟩⟩;have de:=th.same s1;have fin:=fun H' (s:Same H H')=>q H' s;unfold dM at fin
  cases e:bB d 0 10 with
  |false=>
   rw[e]at fin;exact bF (fin _ s1)
  |true=>
   rw[e]at fin;refine bN ?_
   cases de with
   |@tup a xs ds ea r=>exact cZ ji rfl ea r (eV r hz) (fun v d H2 Q2 hm s2 t2 q2=>⟨_,rfl,S,v,d,rfl,t2,jj hm hz,q2⟩) fun H2 s2=>fin _ (s1.trans s2)
   |_=>cases e
def kW(d:PyData)(lo hi:Int):Bool:=cX d&&(decide (lo<=intOf d)&&decide (intOf d<=hi))
def iC(H:Hp)(st:Addr):Prop:=∃a b:Int,H st=some (.lst [.int a,.int b])/\0<=a/\0<=b/\b<4294967296
def But(st:Addr)(H H':Hp):Prop:=∀b o,H b=some o->b≠st->H' b=some o
inductive SpCellI(K:Frag)(vs:List V)(H:Hp)(Q:VK):Prop
 |mk:∀(a:Addr) (ns:List Int) (k:Int),(vs=[.ref a,.int k])->(SqL K H a (ns.map V.int))->(0<=k)->(∀i,Q (.int i) H)->SpCellI K vs H Q
def zQ(K:Frag):Sp:=fun vs H Q _=>SpCellI K vs H Q
inductive SpStateI(K:Frag)(vs:List V)(H:Hp)(Q:VK):Prop
 |mk:∀(a:Addr) (ns:List Int) (k:Int),(vs=[.ref a,.int k])->(SqL K H a (ns.map V.int))->(0<=k)->(∀(p:Addr) (x y:Int),H p=none->0<=x->0<=y->y<4294967296->Q (.ref p) (upd H p (.lst [.int x,.int y])))->SpStateI K vs H Q
def vZ(K:Frag):Sp:=fun vs H Q _=>SpStateI K vs H Q
inductive SpTakeI(vs:List V)(H:Hp)(Q:VK):Prop
 |mk:∀(st:Addr) (n:Int),(vs=[.ref st,.int n])->(iC H st)->(1<=n)->(n<1073741824)->(∀r a' b':Int,0<=r->r<n->0<=a'->0<=b'->b'<4294967296->Q (.int r) (upd H st (.lst [.int a',.int b'])))->SpTakeI  vs H Q
def iV:Sp:=fun vs H Q _=>SpTakeI  vs H Q
theorem J3:FnScope ["_law_script","_law_k"] ["_law_script","_law_k"] (aK (top 68)):=fQS
theorem Ck(F:Fun K "_law_cell_at" "_law_cell_at" (top 68) f fd)(T:Mg mg):FnOk P w K mg base CX0 1 f fd ["_law_script","_law_k"] (zQ K):=by
 refine F.ok J3 (fun vs H Q E h=>?_) (fun ar A outer s H vs Q E hr h=>?_)
 .obtain⟨a,ns,k,rfl,_⟩:=h;rfl
 .obtain⟨a,ns,k,rfl,hS,h0,q⟩:=h;refine⟨_,aA (bY (bx gF (pv 1) (aQ aZ rfl T.len PySem.boot_len (aP (pv 0) aj)) (bf _)) (aC (aU (pX bG (pv 0) (pv 1)))) bh) (aC (aU az)),?_⟩;refine⟨_,rfl,_,rfl,a,_,rfl,.inl hS,_,_,rfl,rfl,_,rfl,?_⟩;refine jy (fun c=>?_) (fun _=>q 0);have c:=zB4 c;rw[zA1]at c;have hk:k.toNat<ns.length:=Zz
  refine⟨_,rfl,_,rfl,a,_,k,.int ns[k.toNat],rfl,rfl,hS,?_,q _⟩;have e:(ns.map V.int)[k.toNat]?=some (.int ns[k.toNat]):=by rw[zAb,zA0 hk];rfl
  have:=dC e;rw[show((k.toNat:Nat):Int)=k by lia]at this;exact this
theorem sc19:FnScope ["_law_script","_law_k","_law_cell"] ["_law_script","_law_k"] (aK (top 69)):=fQS
theorem zR(F:Fun K "_law_state" "_law_state" (top 69) f fd)(c1:Cal P w K mg base 1 "_law_cell_at" ["_law_script","_law_k"] (zQ K)):FnOk P w K mg base CX0 2 f fd ["_law_script","_law_k"] (vZ K):=by
 refine F.ok sc19 (fun vs H Q E h=>?_) (fun ar A outer s H vs Q E hr h=>?_)
 .obtain⟨a,ns,k,rfl,_⟩:=h;rfl
 .obtain⟨a,ns,k,rfl,hS,h0,q⟩:=h
  refine⟨_,aA (pss 2 sc19.nd (aG c1 hr (aP (pv 0) (aP (pv 1) aj))))
   (aA (bY (bx vB (pv 2) (aR uv az az) (bf _)) (aC (aU (cR (au (aR cN (pv 2) (aR uv az az)) (au (aR bw (aR fX (pv 2) az) az) aj))))) bh)
   (aC (aU (cR (au az (au (aR bw (aR fX (pv 2) az) az) aj)))))),?_⟩
  refine⟨_,rfl,_,rfl,a,ns,k,rfl,hS,h0,fun c=>?_⟩;refine⟨_,rfl,_,_,rfl,rfl,⟨by decide,by decide,by decide⟩,_,_,rfl,rfl,_,rfl,?_⟩;refine jy (fun hc=>?_) (fun _=>?_)
  .have hc:=zB4 hc;refine⟨_,rfl,_,_,rfl,rfl,⟨by decide,by decide,by decide⟩,_,_,rfl,rfl,_,rfl,_,_,rfl,rfl,(by show(0:Int)<2147483629;decide),_,_,rfl,rfl,zL,fun p hp=>?_⟩;refine q p _ _ hp ?_ ?_ ?_
   .show 0<=c-(10:Int)^18;have hc:(10:Int)^18<=c:=hc;lia
   .show 0<=c % 2147483629+1;lia
   .show c % 2147483629+1<4294967296;lia
  .refine⟨_,rfl,_,_,rfl,rfl,(by show(0:Int)<2147483647;decide),_,_,rfl,rfl,zL,fun p hp=>?_⟩;refine q p _ _ hp (Int.le_refl 0) ?_ ?_
   .show 0<=c % 2147483647+1;lia
   .show c % 2147483647+1<4294967296;lia
theorem sc20:FnScope ["_law_state_here","_law_many","_law_found","_law_stirred"] ["_law_state_here","_law_many"] (aK (top 70)):=fQS
theorem Cm(F:Fun K "_law_take" "_law_take" (top 70) f fd):FnOk P w K mg base CX0 1 f fd ["_law_state_here","_law_many"] iV:=by
 refine F.ok sc20 (fun vs H Q E h=>?_) (fun ar A outer s H vs Q E hr h=>?_)
 .obtain⟨st,n,rfl,_⟩:=h;rfl
 .obtain⟨st,n,rfl,⟨a,b,es,ha,hb,iP⟩,h1,h2,q⟩:=h
  refine⟨_,aA (bY (bx lE (pX bG (pv 0) az) az (bf _))
    (aA (pss 2 sc20.nd (aR fX (pX bG (pv 0) az) (pv 1)))
     (aA (cz (aR kZ (pX bG (pv 0) az) (pv 1)) (jw (pv 0) az set_list)) (aC (aU (pv 2))))) bh)
   (aA (cz (aR fX (aR bw (aR fW (pX bG (pv 0) az) az) az) az) (jw (pv 0) az set_list))
   (aA (pss 3 sc20.nd (aR fX (aR bw (aR bw (aR fW (pX bG (pv 0) az) (pX bG (pv 0) az)) (aR fW az (pX bG (pv 0) az))) az) az))
   (aA (pss 3 sc20.nd (aR fX (aR bw (aR bw (aR fW (pv 3) (pv 3)) (aR fW az (pv 3))) az) az))
   (aC (aU (aR fX (aR kZ (pv 3) az) (pv 1))))))),?_⟩
  refine⟨_,rfl,st,_,0,.int a,rfl,rfl,SqL.of es,rfl,_,_,rfl,rfl,_,rfl,?_⟩;refine jy (fun hc=>?_) (fun _=>?_)
  .refine⟨_,rfl,st,_,0,.int a,rfl,rfl,SqL.of es,rfl,_,rfl,_,_,rfl,rfl,(by show 0<n;lia),?_⟩;refine⟨_,rfl,st,_,0,.int a,rfl,rfl,SqL.of es,rfl,_,rfl,_,_,rfl,rfl,⟨Zz,h2⟩,_,rfl,st,_,0,0,rfl,rfl,es,rfl,_,rfl,?_⟩;exact q (a % n) (a / n) b (Int.emod_nonneg a Zz) (Int.emod_lt_of_pos a Zz) (Int.ediv_nonneg ha Zz) hb iP
  .refine⟨_,rfl,st,_,1,.int b,rfl,rfl,SqL.of es,rfl,_,_,rfl,rfl,.inl ⟨Zz,Zz⟩,_,_,rfl,rfl,_,_,rfl,rfl,(by show(0:Int)<2147483647;decide),_,rfl,st,_,1,1,rfl,rfl,es,rfl,?_⟩;have HE:0<=(b*48271+29) % 2147483647:=Int.emod_nonneg _ Zx;have Lu:(b*48271+29) % 2147483647<2147483647:=Int.emod_lt_of_pos _ Zx
   obtain⟨m,hm⟩:∃m,m=(b*48271+29) % 2147483647:=⟨_,rfl⟩
   rw[<-hm]at HE Lu;have eL:([V.int a,V.int b].set 1 ((fun i j:Int=>V.int (i % j)) (b*48271+29) 2147483647))=[V.int a,V.int m]:=by rw[hm];rfl
   rw[eL];have fR:upd H st (.lst [.int a,.int m]) st=some (.lst [.int a,.int m]):=ao;refine⟨_,rfl,st,_,1,.int m,rfl,rfl,SqL.of fR,rfl,_,rfl,st,_,1,.int m,rfl,rfl,SqL.of fR,rfl,_,_,rfl,rfl,.inl ⟨Zz,Zz⟩,_,rfl,st,_,1,.int m,rfl,rfl,SqL.of fR,rfl,_,_,rfl,rfl,.inl ⟨by decide,by decide⟩,_,_,rfl,rfl,_,_,rfl,rfl,_,_,rfl,rfl,(by show(0:Int)<2147483629;decide),?_⟩;have CB:0<=(m*m+39373*m+7) % 2147483629:=Int.emod_nonneg _ Zx;have oB:(m*m+39373*m+7) % 2147483629<2147483629:=Int.emod_lt_of_pos _ Zx;refine⟨_,rfl,_,rfl,_,_,rfl,rfl,.inl ⟨Int.lt_of_lt_of_le Zx CB,Int.lt_trans oB Zx⟩,_,rfl,_,_,rfl,rfl,.inl ⟨by decide,by decide⟩,_,_,rfl,rfl,_,_,rfl,rfl,_,_,rfl,rfl,(by show(0:Int)<2147483587;decide),?_⟩;refine⟨_,rfl,_,_,rfl,rfl,⟨by decide,by decide⟩,_,rfl,_,_,rfl,rfl,(by show 0<n;lia),?_⟩;exact q _ a m (Int.emod_nonneg _ Zz) (Int.emod_lt_of_pos _ Zz) ha HE Zz
theorem tE{X:Cx}{K:Frag}(hK:X.K=K):IxR X (Gv K):=by
 subst hK;exact bG
theorem J5:(["_law_sort","_law_state_here","_law_wide"]:List Str).Nodup:=by decide +kernel
theorem sc21:FnScope ["_law_state_here","_law_most","_law_wide","_law_found","_law_turn"] ["_law_state_here","_law_most"] (aK (top 71)):=fQS
structure Mk3(st p3:Addr)(xs:List V)(ds:List PyData)(H H':Hp):Prop where
 bt:But st H H'
 sa:iC H' st
 e3:H' p3=some (.lst xs)
 ts:IsThs (fun _=>False) H' xs ds
theorem Mk3.take{st p3:Addr}{xs:List V}{ds:List PyData}{H H':Hp}(g:Mk3 st p3 xs ds H H')(np:p3≠st){a b:Int}(h1:0<=a)(h2:0<=b)(h3:b<4294967296):Mk3 st p3 xs ds H (upd H' st (.lst [.int a,.int b])):=by
 refine⟨fun b' o' e' ne=>?_,⟨a,b,ao,h1,h2,h3⟩,by rw[aB np];exact g.e3,g.ts.keep (fun c l e=>?_) (fun _ _ z _=>z.elim) fun _ _ z _=>z.elim⟩
 .rw[aB ne];exact g.bt b' o' e' ne
 .obtain⟨x,y,e7,_⟩:=g.sa
  have:c≠st:=fun z=>by
   rw[z,e7]at e;cases e
  rw[aB this];exact e
theorem Mk3.new{st p3 p:Addr}{xs:List V}{ds:List PyData}{H H':Hp}{o:HO}(g:Mk3 st p3 xs ds H H')(hp:H' p=none):Mk3 st p3 xs ds H (upd H' p o):=by
 obtain⟨x,y,e7,k⟩:=g.sa;exact⟨fun b' o' e' ne=>Same.upd hp _ _ (g.bt b' o' e' ne),⟨x,y,Same.upd hp _ _ e7,k⟩,Same.upd hp _ _ g.e3,g.ts.same (Same.upd hp)⟩
theorem boot_min:bootBuiltins "min"=some (.builtin "min"):=by decide +kernel
theorem sc22:FnScope ["_law_state_here","_law_most","_law_years","_law_found","_law_wide","_law_turn","_law_first","_law_last","_law_price","_law_holder"] ["_law_state_here","_law_most","_law_years"] (aK (top 72)):=fQS
structure Dr(st:Addr)(H H':Hp):Prop where
 bt:But st H H'
 sa:iC H' st
theorem But.refl{st:Addr}{H:Hp}:But st H H:=fun _ _ e _=>e
theorem Dr.same{st:Addr}{H H1 H2:Hp}(g:Dr st H H1)(s:Same H1 H2):Dr st H H2:=by
 obtain⟨a,b,e,k⟩:=g.sa;exact⟨fun b' o' e' ne=>s _ _ (g.bt b' o' e' ne),a,b,s _ _ e,k⟩
theorem Dr.trans{st:Addr}{H H1 H2:Hp}(g:Dr st H H1)(g':Dr st H1 H2):Dr st H H2:=⟨fun b' o' e' ne=>g'.bt _ _ (g.bt b' o' e' ne) ne,g'.sa⟩
theorem Dr.take{st:Addr}{H H1:Hp}(g:Dr st H H1){a b:Int}(h1:0<=a)(h2:0<=b)(h3:b<4294967296):Dr st H (upd H1 st (.lst [.int a,.int b])):=
 ⟨fun b' o' e' ne=>by rw[aB ne];exact g.bt b' o' e' ne,a,b,ao,h1,h2,h3⟩
theorem Dr.new{st p:Addr}{o:HO}{H H1:Hp}(g:Dr st H H1)(hp:H1 p=none):Dr st H (upd H1 p o):=g.same (Same.upd hp)
theorem Dr.ne{st p:Addr}{H H1:Hp}(g:Dr st H H1)(hp:H1 p=none):p≠st:=fun z=>by
 obtain⟨a,b,e,_⟩:=g.sa;rw[z,e]at hp;cases hp
theorem Dr.free{st p:Addr}{H H1:Hp}(g:Dr st H H1)(hp:H1 p=none):H p=none:=by
 cases e:H p with
 |none=>rfl
 |some o=>
  rw[g.bt _ _ e (g.ne hp)]at hp;cases hp
theorem Dr.put{st p:Addr}{o:HO}{H H1:Hp}(g:Dr st H H1)(hp:H p=none)(np:p≠st):Dr st H (upd H1 p o):=by
 obtain⟨a,b,e,k⟩:=g.sa;refine⟨fun b' o' e' ne=>?_,a,b,by rw[aB np.symm];exact e,k⟩;rw[aB (aH e' hp)];exact g.bt b' o' e' ne
theorem uT:bootBuiltins "list"=some (.type "list"):=by decide +kernel
def cA(r:List Int):PyData:=.tuple (r.map .int)
def bU(rs:List (List Int)):PyData:=.tuple (rs.map cA)
def fl(r:List Int)(i:Nat):Int:=r.getD i 0
def okP(r:List Int):Prop:=r.length=6/\(0<=fl r 0/\fl r 0<8)/\(0<=fl r 1/\fl r 1<3)/\(0<=fl r 2/\fl r 2<=fl r 3/\fl r 3<=19)/\(1<=fl r 4/\fl r 4<=99)/\(0<=fl r 5/\fl r 5<=1000000)
def dN(d:PyData):Bool:=bB d 0 12&&(items d).all fun x=>bC x 5
def rowsOf(d:PyData):List (List Int):=(items d).map fun x=>(items x).map intOf
theorem zT:∀{ds:List PyData},(∀x∈ds,cX x=true)->ds=(ds.map intOf).map PyData.int
 |[],_=>rfl
 |d::ds,h=>by
  rw[zAk,zAk,<-zT fun x hx=>h x (List.mem_cons_of_mem _ hx)];have:=h d List.mem_cons_self
  cases d with
  |int i=>rfl
  |_=>cases this
theorem iW{x:PyData}{n:Nat}(h:bC x n=true):x=cA ((items x).map intOf)/\((items x).map intOf).length=n:=by
 obtain⟨h1,h2⟩:=jD h;unfold bB at h1;rw[zAc,zAc,Zp,Zp]at h1;obtain⟨ht,dA,fE⟩:=h1
 cases x with
 |tuple ds=>
  have dA:(n:Int)<=ds.length:=dA;have fE:(ds.length:Int)<=n:=fE;refine⟨?_,by show(ds.map intOf).length=n;rw[zA1];lia⟩;exact congrArg PyData.tuple (zT h2)
 |_=>cases ht
theorem wg{ds:List PyData}{n:Nat}(h:∀x∈ds,bC x n=true):ds=(ds.map fun x=>(items x).map intOf).map cA:=by
 induction ds with
 |nil=>rfl
 |cons d ds ih=>
  rw[zAk,zAk,<-ih fun x hx=>h x (List.mem_cons_of_mem _ hx),<-(iW (h d List.mem_cons_self)).1]
theorem jF{d:PyData}{f m:Int}(h:bB d f m=true):∃ds,d=.tuple ds/\f<=ds.length/\(ds.length:Int)<=m:=by
 unfold bB at h;rw[zAc,zAc,Zp,Zp]at h
 cases d with
 |tuple ds=>exact⟨ds,rfl,h.2⟩
 |_=>cases h.1
theorem oU(r:List Int)(i:Nat)(h:i<r.length):at_ (cA r) i=fl r i:=by
 show intOf ((r.map PyData.int).getD i .none)=r.getD i 0;rw[zA7,zA7,zAb,zA0 h];rfl
theorem uU{d:PyData}(h:dM d=true):d=bU (rowsOf d)/\(rowsOf d).length<=10/\∀r∈rowsOf d,okP r:=by
 unfold dM at h;rw[zAc]at h;obtain⟨ds,rfl,_,hl⟩:=jF h.1;have h2:∀x∈ds,ji x=true:=List.all_eq_true.mp h.2
 have h3:∀x∈ds,bC x 6=true:=fun x hx=>by
  have:=h2 x hx;unfold ji at this;rw[zAc]at this;exact this.1
 refine⟨congrArg PyData.tuple (wg (n:=6) h3),by show(ds.map _).length<=10;rw[zA1];lia,fun r hr=>?_⟩;obtain⟨x,hx,rfl⟩:=zA5.mp hr;have hx:x∈ds:=hx;obtain⟨e,Lv⟩:=iW (n:=6) (h3 x hx);have:=h2 x hx;unfold ji at this;rw[zAc]at this;have p:=this.2;rw[e]at p;rw[oU _ 0 Zz,oU _ 1 Zz,oU _ 2 Zz,oU _ 3 Zz,oU _ 4 Zz,oU _ 5 Zz]at p;unfold qI at p;simp only[Bool.and_eq_true,Zp]at p;obtain⟨⟨a1,a2⟩,⟨b1,b2⟩,⟨c1,c2,c3⟩,⟨d1,d2⟩,e1,e2⟩:=p;exact⟨Lv,⟨a1,a2⟩,⟨b1,b2⟩,⟨c1,c2,c3⟩,⟨d1,d2⟩,e1,e2⟩
theorem uV{d:PyData}(h:dN d=true):d=bU (rowsOf d)/\(rowsOf d).length<=12/\∀r∈rowsOf d,r.length=5:=by
 unfold dN at h;rw[zAc]at h;obtain⟨ds,rfl,_,hl⟩:=jF h.1;have h3:∀x∈ds,bC x 5=true:=List.all_eq_true.mp h.2;refine⟨congrArg PyData.tuple (wg (n:=5) h3),by show(ds.map _).length<=12;rw[zA1];lia,fun r hr=>?_⟩;obtain⟨x,hx,rfl⟩:=zA5.mp hr;exact(iW (n:=5) (h3 x hx)).2
structure RowsAt(H:Hp)(a:Addr)(xs:List V)(rs:List (List Int)):Prop where
 e:H a=some (.tup xs)
 l:xs.length=rs.length
 g:∀(i:Nat) (r:List Int),rs[i]?=some r->∃t,xs[i]?=some (V.ref t)/\H t=some (.tup (r.map V.int))
theorem RowsAt.keep{H H':Hp}{a:Addr}{xs:List V}{rs:List (List Int)}(h:RowsAt H a xs rs)(k:∀b l,H b=some (.tup l)->H' b=some (.tup l)):RowsAt H' a xs rs:=
 ⟨k _ _ h.e,h.l,fun i r e=>by
  obtain⟨t,e1,e2⟩:=h.g i r e
  exact⟨t,e1,k _ _ e2⟩⟩
theorem RowsAt.same{H H':Hp}{a:Addr}{xs:List V}{rs:List (List Int)}(h:RowsAt H a xs rs)(s:Same H H'):RowsAt H' a xs rs:=h.keep fun _ _ e=>s _ _ e
theorem tG{S:Addr->Prop}{H:Hp}:∀{r:List Int} {xs:List V},IsThs S H xs (r.map .int)->xs=r.map V.int
 |[],_,.nil=>rfl
 |i::r,_,.cons h t=>by
  cases h;rw[tG (r:=r) t];rfl
theorem Fy{S:Addr->Prop}{H:Hp}{v:V}{r:List Int}(h:IsTh S H v (cA r)):∃t,v=V.ref t/\H t=some (.tup (r.map V.int)):=by
 generalize hd:cA r=d at h
 cases h with
 |@tup a xs ds e t=>
  injection hd with hd;subst hd;rw[tG t]at e;exact⟨a,rfl,e⟩
 |_=>cases hd
theorem jl{S:Addr->Prop}{H:Hp}{v:V}{rs:List (List Int)}(h:IsTh S H v (bU rs)):∃a xs,v=.ref a/\RowsAt H a xs rs:=by
 generalize hd:bU rs=d at h
 cases h with
 |@tup a xs ds e t=>
  injection hd with hd;subst hd;refine⟨a,xs,rfl,e,by rw[t.length,zA1],fun i r hr=>?_⟩;have hi:i<rs.length:=(zAa.mp hr).1;have hx:xs[i]?=some (xs[i]'(by rw[t.length,zA1];exact hi)):=zA0 _;obtain⟨d,h1,h2⟩:=t.get hx;rw[zAb,hr]at h1;injection h1 with h1;subst h1;obtain⟨t',e1,e2⟩:=Fy h2;exact⟨t',by rw[hx,e1],e2⟩
 |_=>cases hd
theorem RowsAt.th{H:Hp}{a:Addr}:∀{rs:List (List Int)} {xs:List V},RowsAt H a xs rs->IsTh (fun _=>False) H (.ref a) (bU rs):=by
 intro rs xs h;refine .tup h.e ?_
 have gen:∀(rs:List (List Int)) (xs:List V),xs.length=rs.length->(∀(i:Nat) (r:List Int),rs[i]?=some r->∃t,xs[i]?=some (V.ref t)/\H t=some (.tup (r.map V.int)))->IsThs (fun _=>False) H xs (rs.map cA):=by
  intro rs
  induction rs with
  |nil=>
   intro xs hl _;have:xs=[]:=List.length_eq_zero_iff.mp hl;subst this;exact .nil
  |cons r rs ih=>
   intro xs hl hg
   cases xs with
   |nil=>simp at hl
   |cons x xs=>
    obtain⟨t,e1,e2⟩:=hg 0 r rfl;have e1:x=.ref t:=by simpa using e1
    subst e1;exact .cons (.tup e2 (IsThs.ints r)) (ih xs (by simpa using hl) fun i r' e=>hg (i+1) r' (by simpa using e))
 exact gen rs xs h.l h.g
def iY(L:List Int)(i:Int)(v:Int):List Int:=L.set i.toNat (L.getD i.toNat 0+v)
def hstep(n y:Int)(L:List Int)(s:List Int):List Int:=if fl s 0=n/\fl s 4<=y then iY (iY L (fl s 1) (-(fl s 3))) (fl s 2) (fl s 3)else L
def base0(p:List Int):List Int:=(List.replicate 8 0).set (fl p 0).toNat (fl p 4)
def bD(p:List Int)(ss:List (List Int))(n y:Int):List Int:=if fl p 2<=y/\y<=fl p 3 then ss.foldl (hstep n y) (base0 p)else List.replicate 8 0
def iD(ps:List (List Int))(s:List Int):List Int:=ps.getD (fl s 0).toNat []
def jm(ps:List (List Int))(s:List Int):Bool:=(decide (0<=fl s 0)&&decide (fl s 0<ps.length))&&((decide (0<=fl s 1)&&decide (fl s 1<8))&&((decide (0<=fl s 2)&&decide (fl s 2<8))&&((!decide (fl s 1=fl s 2))&&((decide (1<=fl s 3)&&decide (fl s 3<=99))&&(decide (fl (iD ps s) 2<=fl s 4)&&decide (fl s 4<=fl (iD ps s) 3))))))
def years(a b:Int):List Int:=(List.range (b+1-a).toNat).map fun(i:Nat)=>a+i
def bR(ps ss:List (List Int))(s:List Int):Bool:=jm ps s&&(years (fl s 4) (fl (iD ps s) 3)).all fun y=>decide (fl s 3<=(bD (iD ps s) ss (fl s 0) y).getD (fl s 1).toNat 0)
def un(ps ss:List (List Int)):Option Nat:=(List.range ss.length).find? fun i=>!bR ps (ss.take i) (ss.getD i [])
theorem gQ(L:List Int)(i v:Int):(iY L i v).length=L.length:=by unfold iY;rw[List.length_set]
theorem ym(n y:Int)(L s:List Int):(hstep n y L s).length=L.length:=by
 unfold hstep;split
 .rw[gQ,gQ]
 .rfl
theorem eG(p:List Int)(ss:List (List Int))(n y:Int):(bD p ss n y).length=8:=by
 unfold bD;split
 .have:∀(ss:List (List Int)) (L:List Int),L.length=8->(ss.foldl (hstep n y) L).length=8:=by
   intro ss
   induction ss with
   |nil=>exact fun L h=>h
   |cons s ss ih=>exact fun L h=>ih _ (by rw[ym];exact h)
  exact this ss _ (by unfold base0;rw[List.length_set,List.length_replicate])
 .rw[List.length_replicate]
theorem iz{X:Cx}:Gg X (fun x y H Q=>∃p xs i v,x=.ref p/\y=.int i/\SqL X.K H p xs/\0<=i/\xs[i.toNat]?=some v/\Q v H):=by
 intro Zt s σ H x y v u Q I rx ry h;obtain⟨p,xs,i,z,rfl,rfl,hq,h0,he,q⟩:=h;cases rx;obtain⟨t,rfl⟩:=ry;obtain⟨Zr,r,pl,hz⟩:=I.list hq;obtain⟨w,ew,eC⟩:=r.get he;have hn:=jx;have hl:=r.length;have hi:=(zAa.mp he).1;exact PySem.wpAny_getItem_list pl.isList h0 Zz (by simpa using ew) ⟨z,H,I,eC,q⟩
theorem dW{p:List Int}(h:p.length=6):p=[fl p 0,fl p 1,fl p 2,fl p 3,fl p 4,fl p 5]:=by
 obtain⟨a,b,c,d,e,f,rfl⟩:=Hn h;rfl
theorem gR{p:List Int}(h:p.length=5):p=[fl p 0,fl p 1,fl p 2,fl p 3,fl p 4]:=by
 obtain⟨a,b,c,d,e,rfl⟩:=Hm h;rfl
theorem iB(L:List Int)(i:Nat)(v:Int):(L.map V.int).set i (.int v)=(L.set i v).map V.int:=by rw[List.map_set]
theorem fu{L:List Int}{i:Nat}(h:i<L.length):(L.map V.int)[i]?=some (.int (L.getD i 0)):=by
 rw[zAb,zA0 h,zA7,zA0 h];rfl
theorem mH{n:Nat}{i:Int}(h0:0<=i)(h1:i<n):ixN n i=some i.toNat:=by
 unfold ixN;rw[zAv h0,zAv h1]
def okS(s:List Int):Prop:=s.length=5/\(0<=fl s 1/\fl s 1<8)/\(0<=fl s 2/\fl s 2<8)
inductive SpHeldI(vs:List V)(H:Hp)(Q:VK):Prop
 |mk:∀ap xp ps af xs ss n y,(vs=[.ref ap,.ref af,.int n,.int y])->(RowsAt H ap xp ps)->(RowsAt H af xs ss)->(0<=n)->(n<ps.length)->(okP (ps.getD n.toNat []))->(ss.length<=12)->((∀s∈ss,okS s))->(∀l H',Same H H'->H' l=some (.lst ((bD (ps.getD n.toNat []) ss n y).map V.int))->Q (.ref l) H')->SpHeldI  vs H Q
def uW:Sp:=fun vs H Q _=>SpHeldI  vs H Q
structure MS(mg:Str->Option Value):Prop where
 sales:∃t,mg "MOST_SALES"=some (.int 12 t)
theorem Ho:FnScope ["thing"] ["thing"] (aK (top 28)):=fQS
theorem qM(F:Fun K "are_sales" "are_sales" (top 28) f fd)(T:Mg mg)(N:MS mg)(c1:Cal P w K mg base 2 "are_wholes" ["thing","many"] (Cj bC))(c2:Cal P w K mg base 1 "is_tuple_of" ["thing","fewest","most"] (jC bB)):
  FnOk P w K mg base CX0 3 f fd ["thing"] (spT dN):=by
 refine F.ok Ho (fun vs H Q E h=>?_) (fun ar A outer s H vs Q E hr h=>?_)
 .obtain⟨S,v,d,rfl,_⟩:=h;rfl
 .obtain⟨S,v,d,rfl,th,hz,q⟩:=h;obtain⟨t3,e3⟩:=N.sales
  refine⟨_,aC (aU (cg (aG c2 hr (au (pv 0) (au az (au (bM (v:=.int 12) rfl e3 ⟨_,rfl⟩) aj))))
   (cV (aQ (eU rfl) rfl T.all boot_all (au (bW ["part"] [none] rfl (dD (pv 0))
    (fun C fp Zt s₂ H₂=>⟨bQ (i:=0) (nd1 _) rfl (Or.inl rfl),cu,aG c1 hr (au (pv 0) (au az aj))⟩) (fun C=>trivial) ⟨rfl,rfl,rfl,rfl⟩) aj))))),?_⟩
  refine⟨_,rfl,S,v,d,0,12,rfl,th,hz,fun H1 s1=>⟨_,rfl,?_⟩⟩;have de:=th.same s1;have fin:=fun H' (s:Same H H')=>q H' s;unfold dN at fin
  cases e:bB d 0 12 with
  |false=>
   rw[e]at fin;exact bF (fin _ s1)
  |true=>
   rw[e]at fin;refine bN ?_
   cases de with
   |@tup a xs ds ea r=>exact cZ (fun x=>bC x 5) rfl ea r (eV r hz) (fun v d H2 Q2 hm s2 t2 q2=>⟨_,rfl,S,v,d,5,rfl,t2,jj hm hz,q2⟩) fun H2 s2=>fin _ (s1.trans s2)
   |_=>cases e
theorem sc23s:FnScope ["promises","sales","number","year","holder","sort","first","last","sacks","price","held","promise","seller","buyer","sold","since"] ["promises","sales","number","year"] (aK (top 29)):=fQS
theorem Cp(F:Fun K "held_in" "held_in" (top 29) f fd)(N:Nums mg):FnOk P w K mg base CX0 1 f fd ["promises","sales","number","year"] uW:=by
 refine F.ok sc23s (fun vs H Q E h=>?_) (fun ar A outer s H vs Q E hr h=>?_)
 .obtain⟨ap,xp,ps,af,xs,ss,n,y,rfl,_⟩:=h;rfl
 .obtain⟨ap,xp,ps,af,xs,ss,n,y,rfl,rp,rs,n0,n1,okp,hl,cc,q⟩:=h;obtain⟨t1,e1⟩:=N.holders
  refine⟨_,aA (cz (pX bK (pv 0) (pv 2)) (bI rfl (aq (pgn 4 sc23s.nd) (aq (pgn 5 sc23s.nd) (aq (pgn 6 sc23s.nd)
    (aq (pgn 7 sc23s.nd) (aq (pgn 8 sc23s.nd) (aq (pgn 9 sc23s.nd) aY))))))))
   (aA (pss 10 sc23s.nd (aR Fg (cR (au az aj)) (bM (v:=.int 8) rfl e1 ⟨_,rfl⟩)))
   (aA (bY (bZ (eQ bH bH (pv 6) (pv 3) (pv 7))) (aC (aU (pv 10))) bh)
   (aA (cz (pv 8) (jw (pv 10) (pv 4) set_list))
   (aA (cP zB5 rfl (dD (pv 1)) (bI rfl (aq (pgn 11 sc23s.nd) (aq (pgn 12 sc23s.nd) (aq (pgn 13 sc23s.nd)
     (aq (pgn 14 sc23s.nd) (aq (pgn 15 sc23s.nd) aY))))))
    (aC (bY (PW.pt (ju (bx rK (pv 11) (pv 2) (bf _)) (kY (bx bH (pv 15) (pv 3) (bf _)))))
     (aA (pR (pv 10) (pv 12) iz (pv 14) yN set_list) (aC (pR (pv 10) (pv 13) iz (pv 14) yM set_list))) bh)))
   (aC (aU (pv 10))))))),?_⟩
  obtain⟨p,hp⟩:∃p,ps[n.toNat]?=some p:=⟨_,zA0 Zz⟩
  have ep:ps.getD n.toNat []=p:=by rw[zA7,hp];rfl
  rw[ep]at okp q;obtain⟨t,ex,et⟩:=rp.g _ _ hp;have p6:=dW okp.1;obtain⟨l6,⟨a1,a2⟩,b,⟨c1,c2,c3⟩,⟨d1,d2⟩,ee⟩:=id okp
  have fk:atI xp n=some (.ref t):=by
   have:=dC ex;rw[show((n.toNat:Nat):Int)=n by lia]at this;exact this
  rw[p6]at et;refine aD ?_;refine⟨_,rfl,_,rfl,ap,xp,n,.ref t,rfl,rfl,SqT.of rp.e,fk,?_⟩;refine⟨t,_,rfl,SqT.of et,rfl,_,_,rfl,_,_,rfl,_,_,rfl,_,_,rfl,_,_,rfl,_,_,rfl,rfl,?_⟩;dsimp only;refine aD (aX ?_);refine⟨zL,fun l0 HG=>⟨l0,8,_,rfl,rfl,ao,by decide,by decide,zL,fun l1 dA=>?_⟩⟩;have s1:Same H (upd (upd H l0 (.lst [V.int 0])) l1 (.lst (List.replicate (8:Int).toNat [V.int 0]).flatten)):=(Same.upd HG).updR dA;have el1:upd (upd H l0 (.lst [V.int 0])) l1 (.lst (List.replicate (8:Int).toNat [V.int 0]).flatten) l1=some (.lst ((List.replicate 8 (0:Int)).map V.int)):=ao;have zh:H l1=none:=(Same.upd HG).free dA;generalize upd (upd H l0 (.lst [V.int 0])) l1 (.lst (List.replicate (8:Int).toNat [V.int 0]).flatten)=H1 at s1 el1⊢;refine aN ?_;dsimp only;refine aD ?_;refine bO (p:=fun i j=>decide (i<=j)) (q:=fun i j=>decide (i<=j)) (i:=fl p 2) (j:=y) (k:=fl p 3) (dw rfl) (dw rfl) (dw rfl) _ ⟨_,rfl,?_⟩;by_cases f7:fl p 2<=y/\y<=fl p 3
  .rw[decide_eq_true f7.1,decide_eq_true f7.2];refine bF (cU ?_);dsimp only;refine aD ?_;refine⟨_,rfl,_,rfl,_,rfl,l1,_,fl p 0,(fl p 0).toNat,rfl,rfl,el1,mH a1 (by show fl p 0<8;exact a2),?_⟩;rw[iB];dsimp only;refine aD ?_;have Lw:af≠l1:=aH rs.e zh;refine⟨_,rfl,af,rfl,⟨xs,SqT.of (by rw[aB Lw];exact s1 _ _ rs.e)⟩,?_⟩
   have CC:∀{Hc:Hp} {o:HO},Same H Hc->Same H (upd Hc l1 o):=fun{Hc o} sm b u e=>by
    rw[aB (aH e zh)];exact sm _ _ e
   refine Bv (xs:=xs) (fun i σ Hc=>∃l8 l9 md me mf,σ=[some (.ref ap),some (.ref af),some (.int n),some (.int y),some (.int (fl p 0)),some (.int (fl p 1)),some (.int (fl p 2)),some (.int (fl p 3)),some (.int (fl p 4)),some (.int (fl p 5)),some (.ref l1),l8,l9,md,me,mf]/\Same H Hc/\Hc l1=some (.lst (((ss.take i).foldl (hstep n y) (base0 p)).map V.int))) ?_ ?_ ?_ ?_
   .exact⟨none,none,none,none,none,rfl,CC s1,ao⟩
   .rintro i σ Hc hi ⟨l8,l9,md,me,mf,rfl,sm,el⟩;exact SqT.of (sm _ _ rs.e)
   .rintro i x σ Hc hx ⟨l8,l9,md,me,mf,rfl,sm,el⟩
    have hi:i<ss.length:=by
     have:=(zAa.mp hx).1;rw[rs.l]at this;exact this
    obtain⟨tr,fI,dE⟩:=rs.g i ss[i] (zA0 hi)
    have:x=.ref tr:=by
     rw[hx]at fI;exact zAl fI
    subst this;obtain⟨o1,⟨o2,o3⟩,o4,o5⟩:=cc ss[i] (zAh hi);have s5:=gR o1;have df:ss.take (i+1)=ss.take i++[ss[i]]:=by rw[zAj,zA0 hi];rfl
    have vt:(ss.take (i+1)).foldl (hstep n y) (base0 p)=hstep n y ((ss.take i).foldl (hstep n y) (base0 p)) ss[i]:=by rw[df,List.foldl_append];rfl
    rw[vt];generalize hL:(ss.take i).foldl (hstep n y) (base0 p)=L at el⊢
    have lL:L.length=8:=by
     have:=eG p (ss.take i) n y;unfold bD at this;rw[zAv f7,hL]at this;exact this
    generalize ss[i]=r at dE s5 o2 o3 o4 o5⊢;rw[s5]at dE;refine⟨tr,_,rfl,SqT.of (sm _ _ dE),rfl,_,_,rfl,_,_,rfl,_,_,rfl,_,_,rfl,_,_,rfl,rfl,?_⟩;refine⟨_,rfl,_,rfl,rfl,_,rfl,?_⟩;by_cases hn:fl r 0=n
    .rw[zAt (show V.int (fl r 0)=V.int n by rw[hn])];refine bN ?_;refine⟨_,rfl,_,rfl,_,_,rfl,rfl,_,rfl,?_⟩;by_cases hy:fl r 4<=y
     .rw[zAt hy];refine bN ?_;have e1:hstep n y L r=iY (iY L (fl r 1) (-(fl r 3))) (fl r 2) (fl r 3):=zAv ⟨hn,hy⟩;rw[e1];refine aD ?_;refine⟨_,rfl,_,rfl,l1,_,fl r 1,_,rfl,rfl,SqL.of el,o2,fu Zz,_,rfl,_,_,rfl,rfl,l1,_,fl r 1,(fl r 1).toNat,rfl,rfl,el,mH o2 (by rw[zA1];lia),?_⟩;rw[iB]
      have e2:L.set (fl r 1).toNat (L.getD (fl r 1).toNat 0-fl r 3)=iY L (fl r 1) (-(fl r 3)):=by
       unfold iY;rw[Int.sub_eq_add_neg]
      rw[e2];generalize Lx:iY L (fl r 1) (-(fl r 3))=L1;have QE:L1.length=8:=by rw[<-Lx,gQ];exact lL
      refine⟨_,rfl,_,rfl,l1,_,fl r 2,_,rfl,rfl,SqL.of ao,o4,fu Zz,_,rfl,_,_,rfl,rfl,l1,_,fl r 2,(fl r 2).toNat,rfl,rfl,ao,mH o4 (by rw[zA1];lia),?_⟩;rw[iB];exact⟨_,_,_,_,_,rfl,CC (CC sm),ao⟩
     .rw[zB1 hy];refine bF ?_;have e1:hstep n y L r=L:=zAu fun z=>hy z.2;rw[e1];exact⟨_,_,_,_,_,rfl,sm,el⟩
    .rw[zB1 (fun z:V.int (fl r 0)=V.int n=>hn (by injection z))];refine bF (bF ?_);have e1:hstep n y L r=L:=zAu fun z=>hn z.1;rw[e1];exact⟨_,_,_,_,_,rfl,sm,el⟩
   .rintro σ Hc ⟨l8,l9,md,me,mf,rfl,sm,el⟩;rw[rs.l,zAm]at el;refine⟨_,rfl,q _ _ sm ?_⟩;unfold bD;rw[zAv f7];exact el
  .have hb:(decide (fl p 2<=y)&&decide (y<=fl p 3))=false:=by
    cases e:(decide (fl p 2<=y)&&decide (y<=fl p 3))with
    |false=>rfl
    |true=>
     rw[zAc,Zp,Zp]at e;exact absurd e f7
   rw[hb];refine bN ⟨_,rfl,q _ _ s1 ?_⟩;unfold bD;rw[zAu f7];exact el1
theorem tH{te:TE}{lo:Int}{n:Nat}{c9:St}{j:Nat}{H0:Hp}{Fin:List V->Hp->Prop}(Pv:List V->Hp->Prop)(h0:Pv [] H0)(hz:n<sizeLine)
  (step:∀i ys H Q,i<n->ys.length=i->Pv ys H->(∀y H',Pv (ys++[y]) H'->Q y H')->te (c9.set j (some (.int (lo+i)))) H Q)
  (fin:∀ys H,ys.length=n->Pv ys H->Fin ys H):jV (Itr lo n) (bL j) uF te Fin c9 H0:=by
 refine⟨fun i m ys σ H=>m=n-i/\i<=n/\ys.length=i/\(∀o,σ.set j o=c9.set j o)/\Pv ys H,⟨_,rfl,zAp _,rfl,fun _=>rfl,h0⟩,?_⟩;rintro i m ys σ H ⟨rfl,hi,hy,lS,p⟩;refine⟨Zz,?_⟩;by_cases aI:i<n
 .refine .inr ⟨aI,fun x H' y=>?_⟩;obtain⟨e,e2⟩:=y;subst e;subst e2;show te (σ.set j (some (.int (lo+i)))) H' _;rw[lS]
  exact step i ys H' _ aI hy p fun y H2 p2=>⟨n-(i+1),Zz,rfl,aI,by rw[zA2,hy];rfl,fun o=>by rw[List.set_set],p2⟩
 .have e:i=n:=Zz
  subst e;exact .inl ⟨zA3 _,fin ys H hy p⟩
theorem Hq{σ:St}{H:Hp}{ta tb:TE}{i j:Int}(a:Ev σ H ta (.int i))(b:Ev σ H tb (.int j)):Ev σ H (tOp rNe ta tb) (.bl (!decide (i=j))):=fun Q q=>a _ (b _ ⟨rfl,by
 have ed:decide (V.int i=V.int j)=decide (i=j):=decide_eq_decide.mpr ⟨fun z=>by injection z,fun z=>by rw[z]⟩;rw[ed]
 exact q⟩)
theorem jG(a b:Int):(years a b).length=(b+1-a).toNat:=by unfold years;rw[zA1,List.length_range]
theorem jH{a b:Int}{i:Nat}(h:i<(b+1-a).toNat):(years a b)[i]?=some (a+i):=by
 unfold years;rw[zAb,List.getElem?_range h];rfl
theorem oV{α β:Type}{l:List α}{f:α->β}{ys:List β}{x:α}(ey:ys=(l.take ys.length).map f)(hx:l[ys.length]?=some x):ys++[f x]=(l.take (ys++[f x]).length).map f:=by
 rw[zA2,List.length_singleton,zAj,hx,zA4,<-ey];rfl
inductive SpBetwI(vs:List V)(H:Hp)(Q:VK):Prop
 |mk:∀ap xp ps t s,(vs=[.ref ap,.ref t])->(RowsAt H ap xp ps)->((∀r∈ps,okP r))->(H t=some (.tup (s.map V.int)))->(s.length=5)->(Q (.bl (jm ps s)) H)->SpBetwI  vs H Q
def zU:Sp:=fun vs H Q _=>SpBetwI  vs H Q
inductive SpHoldsI(vs:List V)(H:Hp)(Q:VK):Prop
 |mk:∀ap xp ps af xs ss t s,(vs=[.ref ap,.ref af,.ref t])->(RowsAt H ap xp ps)->((∀r∈ps,okP r))->(RowsAt H af xs ss)->(ss.length<=12)->((∀s∈ss,okS s))->(H t=some (.tup (s.map V.int)))->(s.length=5)->(∀H',Same H H'->Q (.bl (bR ps ss s)) H')->SpHoldsI  vs H Q
def wj:Sp:=fun vs H Q _=>SpHoldsI  vs H Q
def unV:Option Nat->V
 |none=>.non
 |some i=>.int i
inductive SpFirstI(vs:List V)(H:Hp)(Q:VK):Prop
 |mk:∀S v d S' u e,(vs=[v,u])->(IsTh S H v d)->(IsTh S' H u e)->(dM d=true)->(dN e=true)->(sz d<=4000)->(sz e<=4000)->(∀H',Same H H'->Q (unV (un (rowsOf d) (rowsOf e))) H')->SpFirstI  vs H Q
def wk:Sp:=fun vs H Q _=>SpFirstI  vs H Q
theorem gj{ps:List (List Int)}{n:Int}(h:∀r∈ps,okP r)(h0:0<=n)(h1:n<ps.length):∃p,ps[n.toNat]?=some p/\ps.getD n.toNat []=p/\okP p:=by
 have hn:n.toNat<ps.length:=Zz
 refine⟨ps[n.toNat],zA0 hn,?_,h _ (zAh hn)⟩;rw[zA7,zA0 hn];rfl
theorem gk{H:Hp}{a:Addr}{xs:List V}{rs:List (List Int)}{n:Int}{r:List Int}(h:RowsAt H a xs rs)(h0:0<=n)(e:rs[n.toNat]?=some r):∃t,atI xs n=some (.ref t)/\H t=some (.tup (r.map V.int)):=by
 obtain⟨t,e1,e2⟩:=h.g _ _ e;refine⟨t,?_,e2⟩;have:=dC e1;rw[show((n.toNat:Nat):Int)=n by lia]at this;exact this
theorem sc24s:FnScope ["promises","sale","number","seller","buyer","sacks","year","holder","sort","first","last","due","price"] ["promises","sale"] (aK (top 30)):=fQS
theorem Cq(F:Fun K "is_sale_between" "is_sale_between" (top 30) f fd)(T:Mg mg)(N:Nums mg):FnOk P w K mg base CX0 1 f fd ["promises","sale"] zU:=by
 refine F.ok sc24s (fun vs H Q E h=>?_) (fun ar A outer s H vs Q E hr h=>?_)
 .obtain⟨ap,xp,ps,t,r,rfl,_⟩:=h;rfl
 .obtain⟨ap,xp,ps,t,r,rfl,rp,okp,et,h5,q⟩:=h;obtain⟨t1,e1⟩:=N.holders;obtain⟨t4,e4⟩:=N.sacks
  refine⟨_,aA (cz (pv 1) (bI rfl (aq (pgn 2 sc24s.nd) (aq (pgn 3 sc24s.nd) (aq (pgn 4 sc24s.nd) (aq (pgn 5 sc24s.nd) (aq (pgn 6 sc24s.nd) aY)))))))
   (aA (bY (bZ (eQ bH gF az (pv 2) (aQ aZ rfl T.len PySem.boot_len (au (pv 0) aj)))) (aC (aU gr)) bh)
   (aA (cz (pX bK (pv 0) (pv 2)) (bI rfl (aq (pgn 7 sc24s.nd) (aq (pgn 8 sc24s.nd) (aq (pgn 9 sc24s.nd)
    (aq (pgn 10 sc24s.nd) (aq (pgn 11 sc24s.nd) (aq (pgn 12 sc24s.nd) aY))))))))
   (aC (aU (cg (cQ bH gF az (pv 3) (bM (v:=.int 8) rfl e1 ⟨_,rfl⟩)) (cg (cQ bH gF az (pv 4) (bM (v:=.int 8) rfl e1 ⟨_,rfl⟩)) (cg (cY yS (pv 3) (pv 4) (bf _))
    (cg (cQ bH bH az (pv 5) (bM (v:=.int 99) rfl e4 ⟨_,rfl⟩)) (cV (cQ bH bH (pv 9) (pv 6) (pv 10))))))))))),?_⟩
  rw[gR h5]at et;refine aD ?_;refine⟨_,rfl,t,_,rfl,SqT.of et,rfl,_,_,rfl,_,_,rfl,_,_,rfl,_,_,rfl,_,_,rfl,rfl,?_⟩;dsimp only;refine aD ?_;refine bO (p:=fun i j=>decide (i<=j)) (q:=fun i j=>decide (i<j)) (i:=0) (j:=fl r 0) (k:=(xp.length:Int)) dR (dw rfl) (fun Q h=>⟨_,rfl,ap,xp,rfl,.inr (SqT.of rp.e),h⟩) _ ⟨_,rfl,?_⟩;have fin:=q;unfold jm at fin;rw[rp.l]
  cases e:(decide (0<=fl r 0)&&decide (fl r 0<ps.length))with
  |false=>
   rw[e]at fin;exact bN fin
  |true=>
   rw[e]at fin;rw[zAc,Zp,Zp]at e;obtain⟨p,hp,ep,op⟩:=gj okp e.1 e.2;obtain⟨tp,fk,dP⟩:=gk rp e.1 hp;rw[dW op.1]at dP;refine bF (cU ?_);dsimp only;refine aD ?_;refine⟨_,rfl,_,rfl,ap,xp,_,.ref tp,rfl,rfl,SqT.of rp.e,fk,?_⟩;refine⟨tp,_,rfl,SqT.of dP,rfl,_,_,rfl,_,_,rfl,_,_,rfl,_,_,rfl,_,_,rfl,_,_,rfl,rfl,?_⟩;have oC:iD ps r=p:=ep;rw[oC]at fin;exact gJ (bO dR (dw rfl) dR) (fun _=>gJ (bO dR (dw rfl) dR) fun _=>gJ (Hq (dw rfl) (dw rfl)) fun _=>gJ (bO dR (dw rfl) dR) fun _=>bO (dw rfl) (dw rfl) (dw rfl)) _ fin
theorem sc25s:FnScope ["promises","ahead","sale","number","seller","buyer","sacks","year","last"] ["promises","ahead","sale"] (aK (top 31)):=fQS
theorem J6:(["at","promises","ahead","number","seller","sacks"]:List Str).Nodup:=by decide +kernel
theorem zV(F:Fun K "sale_holds" "sale_holds" (top 31) f fd)(T:Mg mg)(Tr:mg "range"=none)(c1:Cal P w K mg base 1 "is_sale_between" ["promises","sale"] zU)(c2:Cal P w K mg base 1 "held_in" ["promises","sales","number","year"] uW):
  FnOk P w K mg base CX0 2 f fd ["promises","ahead","sale"] wj:=by
 refine F.ok sc25s (fun vs H Q E h=>?_) (fun ar A outer s H vs Q E hr h=>?_)
 .obtain⟨ap,xp,ps,af,xs,ss,t,r,rfl,_⟩:=h;rfl
 .obtain⟨ap,xp,ps,af,xs,ss,t,r,rfl,rp,okp,rs,hl,cc,et,h5,q⟩:=h
  refine⟨_,aA (bY (bZ (dB (aG c1 hr (au (pv 0) (au (pv 2) aj))))) (aC (aU gr)) bh)
   (aA (cz (pv 2) (bI rfl (aq (bQ (i:=3) sc25s.nd rfl (Or.inr rfl)) (aq (bQ (i:=4) sc25s.nd rfl (Or.inr rfl)) (aq (pgn 5 sc25s.nd) (aq (bQ (i:=6) sc25s.nd rfl (Or.inr rfl)) (aq (pgn 7 sc25s.nd) aY)))))))
   (aA (pss 8 sc25s.nd (pX bK (pX bK (pv 0) (pv 3)) az))
   (aC (aU (aQ (eU rfl) rfl T.all boot_all (au (bW ["at","promises","ahead","number","seller","sacks"] [none,some 0,some 1,some 3,some 4,some 6] rfl (ig rfl Tr (au (pv 7) (au (aR bw (pv 8) az) aj)))
    (fun C fp Zt s₂ H₂=>⟨pgn 0 J6,cu,cY vB (pX (tE (K:=K) rfl) (aG c2 hr (au (pv 1) (au (pv 2) (au (pv 3) (au (pv 0) aj))))) (pv 4)) (pv 5) (bf _)⟩)
    (fun C=>cI (cI (cI (cI (cI trivial))))) ⟨rfl,rfl,rfl,rfl⟩) aj)))))),?_⟩
  have fin:=q;unfold bR at fin;refine aD ?_;refine⟨_,rfl,_,rfl,ap,xp,ps,t,r,rfl,rp,okp,et,h5,_,rfl,?_⟩
  cases e:jm ps r with
  |false=>
   rw[e]at fin;exact bN (fin _ (Same.refl _))
  |true=>
   rw[e]at fin;refine bF (cU ?_);dsimp only;refine aD ?_;unfold jm at e;simp only[Bool.and_eq_true,Zp]at e;obtain⟨⟨n0,n1⟩,⟨b0,b1⟩,_,_,⟨k0,k1⟩,y0,y1⟩:=e;obtain⟨p,hp,ep,op⟩:=gj okp n0 n1;have oC:iD ps r=p:=ep;rw[oC]at fin y0 y1;obtain⟨tp,fk,dP⟩:=gk rp n0 hp;rw[gR h5]at et;rw[dW op.1]at dP;obtain⟨_,_,_,⟨g1,g2,g3⟩,_⟩:=id op;refine⟨_,rfl,t,_,rfl,SqT.of et,rfl,_,_,rfl,_,_,rfl,_,_,rfl,_,_,rfl,_,_,rfl,rfl,?_⟩;dsimp only;refine aD (aX ?_);refine⟨_,rfl,_,rfl,ap,xp,_,.ref tp,rfl,rfl,SqT.of rp.e,fk,tp,_,3,.int (fl p 3),rfl,rfl,SqT.of dP,rfl,?_⟩;refine aN ?_;dsimp only;refine⟨_,rfl,_,rfl,_,_,rfl,rfl,fl r 4,fl p 3+1,rfl,⟨Zz,Zz,Zz,Zz⟩,?_⟩;refine tH (fun ys Hc=>Same H Hc/\ys=((years (fl r 4) (fl p 3)).take ys.length).map fun y=>V.bl (decide (fl r 3<=(bD p ss (fl r 0) y).getD (fl r 1).toNat 0))) ⟨Same.refl _,rfl⟩ Zu ?_ ?_
   .rintro i ys Hc Qc hi hy ⟨sc,ey⟩ qc;refine⟨_,rfl,_,rfl,_,rfl,_,rfl,ap,xp,ps,af,xs,ss,fl r 0,fl r 4+i,rfl,rp.same sc,rs.same sc,n0,n1,by rw[ep];exact op,hl,cc,fun l H' s' el=>?_⟩;rw[ep]at el;refine⟨_,rfl,l,_,fl r 1,.int ((bD p ss (fl r 0) (fl r 4+i)).getD (fl r 1).toNat 0),rfl,rfl,SqL.of el,?_,_,rfl,_,_,rfl,rfl,qc _ _ ⟨sc.trans s',?_⟩⟩
    .unfold atI;rw[mH b0 (by rw[zA1,eG];lia)];exact fu (by rw[eG];lia)
    .have hx:(years (fl r 4) (fl p 3))[ys.length]?=some (fl r 4+(i:Int)):=by
      rw[hy];exact jH hi
     exact oV ey hx
   .rintro ys Hc hy ⟨sc,ey⟩ D hD;rw[List.take_of_length_le (by rw[jG,hy];exact zA3 _)]at ey;refine⟨D,(years (fl r 4) (fl p 3)).map fun y=>decide (fl r 3<=(bD p ss (fl r 0) y).getD (fl r 1).toNat 0),rfl,SqL.of (by rw[zAr];rw[ey];exact ao),?_⟩;rw[List.all_map];exact fin _ (sc.updR hD)
theorem mJ{xs:List V}{i:Nat}(h:i<=xs.length):gA xs none (some (i:Int))=xs.take i:=by
 unfold gA;rw[HT.sIx_none,HT.sIx_nat,List.drop_zero,Nat.min_eq_left h,Nat.sub_zero]
theorem RowsAt.cut{H:Hp}{a p:Addr}{xs:List V}{rs:List (List Int)}(h:RowsAt H a xs rs)(i:Nat)(hp:H p=none):RowsAt (upd H p (.tup (xs.take i))) p (xs.take i) (rs.take i):=by
 refine⟨ao,by rw[zAd,zAd,h.l],fun j r e=>?_⟩
 have hj:j<i:=by
  rw[List.getElem?_take]at e;split at e
  .assumption
  .cases e
 rw[List.getElem?_take_of_lt hj]at e;obtain⟨t,e1,e2⟩:=h.g j r e;exact⟨t,by rw[List.getElem?_take_of_lt hj];exact e1,Same.upd hp _ _ e2⟩
theorem qN{ps ss:List (List Int)}{i:Nat}(h:∀j,j<i->bR ps (ss.take j) (ss.getD j [])=true)(hi:i<ss.length)(hn:bR ps (ss.take i) (ss.getD i [])=false):un ps ss=some i:=by
 unfold un;rw[List.find?_range_eq_some];exact⟨by rw[hn];rfl,List.mem_range.mpr hi,fun j hj=>by rw[h j hj];rfl⟩
theorem qO{ps ss:List (List Int)}(h:∀j,j<ss.length->bR ps (ss.take j) (ss.getD j [])=true):un ps ss=none:=by
 unfold un;rw[List.find?_range_eq_none]
 exact fun j hj=>by rw[h j hj];rfl
theorem jn{ps ss:List (List Int)}{s:List Int}(h5:s.length=5)(h:bR ps ss s=true):okS s:=by
 unfold bR jm at h;simp only[Bool.and_eq_true,Zp]at h;exact⟨h5,h.1.2.1,h.1.2.2.1⟩
theorem getD_get{ss:List (List Int)}{i:Nat}(h:i<ss.length):ss.getD i []=ss[i]:=by
 rw[zA7,zA0 h];rfl
def part(d:PyData)(i:Nat):PyData:=(items d).getD i .none
def jX(d:PyData):Bool:=bB d 3 3&&(gP (part d 0)&&(dM (part d 1)&&(dN (part d 2)&&(un (rowsOf (part d 1)) (rowsOf (part d 2))).isNone)))
theorem sc26s:FnScope ["promises","sales","at","sale"] ["promises","sales"] (aK (top 32)):=fQS
theorem zW(F:Fun K "first_unheld" "first_unheld" (top 32) f fd)(Te:mg "enumerate"=none)(c1:Cal P w K mg base 4 "are_promises" ["thing"] (spT dM))(c2:Cal P w K mg base 3 "are_sales" ["thing"] (spT dN))(c3:Cal P w K mg base 2 "sale_holds" ["promises","ahead","sale"] wj):
  FnOk P w K mg base CX0 5 f fd ["promises","sales"] wk:=by
 refine F.ok sc26s (fun vs H Q E h=>?_) (fun ar A outer s H vs Q E hr h=>?_)
 .obtain⟨S,v,d,S',u,e,rfl,_⟩:=h;rfl
 .obtain⟨S,v,d,S',u,e,rfl,zi,ths,hp,hs,zp,zs,q⟩:=h
  refine⟨_,aA (bY (bZ (dB (aG c1 hr (au (pv 0) aj)))) nU bh)
   (aA (bY (bZ (dB (aG c2 hr (au (pv 1) aj)))) nU bh)
   (aA (cP zB5 rfl (ZT.pi_enum true rfl Te (au (pv 1) aj)) (bI rfl (aq (pgn 2 sc26s.nd) (aq (pgn 3 sc26s.nd) aY)))
    (aC (bY (bZ (dB (aG c3 hr (au (pv 0) (au (fJ vL (pv 1) ik (il (pv 2))) (au (pv 3) aj)))))) (aC (aU (pv 2))) bh)))
   (aC (aU dz)))),?_⟩
  refine aD ?_;refine⟨_,rfl,S,v,d,rfl,zi,zp,fun H1 s1=>⟨_,rfl,?_⟩⟩;rw[hp];refine bF (cU ?_);dsimp only;refine aD ?_;refine⟨_,rfl,S',u,e,rfl,ths.same s1,zs,fun H2 s2=>⟨_,rfl,?_⟩⟩;rw[hs];refine bF (cU ?_);dsimp only;have gI:=s1.trans s2;obtain⟨ep,lp,okp⟩:=uU hp;obtain⟨es,ls,cc⟩:=uV hs;have de:=zi.same gI;have CD:=ths.same gI;rw[ep]at de;rw[es]at CD;generalize rowsOf d=ps at q lp okp de;generalize rowsOf e=ss at q ls cc CD;obtain⟨ap,xp,rfl,rp⟩:=jl de;obtain⟨af,xs,rfl,rs⟩:=jl CD;refine aD ?_;refine⟨_,rfl,af,xs,rfl,SqT.of rs.e,?_⟩;refine ZT.for_enum true (xs:=xs) (fun i σ Hc=>∃x2 x3,σ=[some (.ref ap),some (.ref af),x2,x3]/\Same H2 Hc/\∀j,j<i->bR ps (ss.take j) (ss.getD j [])=true) ?_ ?_ ?_ ?_
  .exact⟨none,none,rfl,Same.refl _,fun j hj=>absurd hj (Nat.not_lt_zero _)⟩
  .rintro i σ Hc hi ⟨x2,x3,rfl,sm,hh⟩;exact SqT.of (sm _ _ rs.e)
  .rintro i x σ Hc T0 hx ⟨x2,x3,rfl,sm,hh⟩ nT
   have hi:i<ss.length:=by
    have:=(zAa.mp hx).1;rw[rs.l]at this;exact this
   have Ly:i<xs.length:=by rw[rs.l];exact hi
   obtain⟨tr,fI,dE⟩:=rs.g i ss[i] (zA0 hi)
   have:x=.ref tr:=by
    rw[hx]at fI;exact zAl fI
   subst this;have h5:=cc ss[i] (zAh hi);have sT:=sm.updR (o:=.tup [V.int i,V.ref tr]) nT;refine⟨T0,_,rfl,SqT.of ao,rfl,_,_,rfl,_,_,rfl,rfl,?_⟩;refine⟨_,rfl,_,rfl,_,rfl,i,rfl,af,xs,rfl,SqT.of (sT _ _ rs.e),fun hw=>?_,fun _ p HI=>?_⟩
   .have:=hw.2;rw[HT.sIx_nat]at this;exact absurd this Zz
   rw[mJ (Nat.le_of_lt Ly)];have sp:=sT.updR (o:=.tup (xs.take i)) HI;refine⟨_,rfl,ap,xp,ps,p,xs.take i,ss.take i,tr,ss[i],rfl,rp.same sp,okp,(rs.same sT).cut i HI,?_,?_,sp _ _ dE,h5,fun H' s'=>⟨_,rfl,?_⟩⟩
   .rw[zAd];lia
   .intro s bP;obtain⟨j,hj,e'⟩:=List.getElem_of_mem bP;rw[zAd]at hj;have Lz:j<i:=Zz
    have HK:j<ss.length:=Zz
    have e2:ss[j]=s:=by rw[<-e',List.getElem_take]
    rw[<-e2];have:=hh j Lz;rw[getD_get HK]at this;exact jn (cc _ (zAh HK)) this
   .cases eh:bR ps (ss.take i) ss[i]with
    |false=>
     refine bN ⟨_,rfl,?_⟩;have:=q H' (gI.trans (sp.trans s'));rw[qN hh hi (by rw[getD_get hi];exact eh)]at this;exact this
    |true=>
     refine bF ⟨_,_,rfl,sp.trans s',fun j hj=>?_⟩;rcases Nat.lt_succ_iff_lt_or_eq.mp hj with z|z
     .exact hh j z
     .rw[z,getD_get hi];exact eh
  .rintro σ Hc ⟨x2,x3,rfl,sm,hh⟩;have:=q Hc (gI.trans sm);rw[qO fun j hj=>hh j (by rw[rs.l];exact hj)]at this;exact this
theorem sc27s:FnScope ["thing","clips","promises","sales"] ["thing"] (aK (top 33)):=fQS
theorem Cr(F:Fun K "is_book" "is_book" (top 33) f fd)(c0:Cal P w K mg base 1 "is_tuple_of" ["thing","fewest","most"] (jC bB))(c1:Cal P w K mg base 4 "are_clips" ["thing"] (spT gP))(c2:Cal P w K mg base 4 "are_promises" ["thing"] (spT dM))(c3:Cal P w K mg base 3 "are_sales" ["thing"] (spT dN))(c4:Cal P w K mg base 5 "first_unheld" ["promises","sales"] wk):
  FnOk P w K mg base CX0 6 f fd ["thing"] (spT jX):=by
 refine F.ok sc27s (fun vs H Q E h=>?_) (fun ar A outer s H vs Q E hr h=>?_)
 .obtain⟨S,v,d,rfl,_⟩:=h;rfl
 .obtain⟨S,v,d,rfl,th,hz,q⟩:=h
  refine⟨_,aA (bY (bZ (dB (aG c0 hr (au (pv 0) (au az (au az aj)))))) (aC (aU gr)) bh)
   (aA (cz (pv 0) (bI rfl (aq (pgn 1 sc27s.nd) (aq (pgn 2 sc27s.nd) (aq (pgn 3 sc27s.nd) aY)))))
   (aC (aU (cg (aG c1 hr (au (pv 1) aj)) (cg (aG c2 hr (au (pv 2) aj)) (cg (aG c3 hr (au (pv 3) aj)) (cV (cY iJ (aG c4 hr (au (pv 2) (au (pv 3) aj))) dz (bf _))))))))),?_⟩
  have fin:=q;unfold jX at fin;refine aD ?_;refine⟨_,rfl,S,v,d,3,3,rfl,th,hz,fun H1 s1=>⟨_,rfl,?_⟩⟩
  cases e:bB d 3 3 with
  |false=>
   rw[e]at fin;exact bN (fin _ s1)
  |true=>
   rw[e]at fin;refine bF (cU ?_);dsimp only;obtain⟨ds,rfl,l1,l2⟩:=jF e;have de:=th.same s1
   cases de with
   |@tup a xs _ ea r=>
    obtain⟨v0,v1,v2,d0,d1,d2,rfl,rfl,h0,h1,h2⟩:=yj r (show ds.length=3 by lia);have z0:=jj (d:=d0) Zy hz;have z1:=jj (d:=d1) Zy hz;have z2:=jj (d:=d2) Zy hz;refine aD ?_;refine⟨_,rfl,a,_,rfl,SqT.of ea,rfl,_,_,rfl,_,_,rfl,_,_,rfl,rfl,?_⟩;dsimp only;have fin:∀H',Same H H'->Q (.bl (true&&(gP d0&&(dM d1&&(dN d2&&(un (rowsOf d1) (rowsOf d2)).isNone))))) H':=fin;refine⟨_,rfl,S,_,d0,rfl,h0,z0,fun H2 s2=>⟨_,rfl,?_⟩⟩
    cases e0:gP d0 with
    |false=>
     rw[e0]at fin;exact bF (fin _ (s1.trans s2))
    |true=>
     rw[e0]at fin;refine bN ?_;refine⟨_,rfl,S,_,d1,rfl,h1.same s2,z1,fun H3 s3=>⟨_,rfl,?_⟩⟩
     cases e1:dM d1 with
     |false=>
      rw[e1]at fin;exact bF (fin _ ((s1.trans s2).trans s3))
     |true=>
      rw[e1]at fin;refine bN ?_;refine⟨_,rfl,S,_,d2,rfl,h2.same (s2.trans s3),z2,fun H4 s4=>⟨_,rfl,?_⟩⟩
      cases e2:dN d2 with
      |false=>
       rw[e2]at fin;exact bF (fin _ (((s1.trans s2).trans s3).trans s4))
      |true=>
       rw[e2]at fin;refine bN ?_;have rg:=(s2.trans s3).trans s4;refine⟨_,rfl,_,rfl,S,_,d1,S,_,d2,rfl,h1.same rg,h2.same rg,e1,e2,z1,z2,fun H5 s5=>⟨rfl,?_⟩⟩;have:=fin H5 (s1.trans (rg.trans s5))
       cases eu:un (rowsOf d1) (rowsOf d2)with
       |none=>
        rw[eu]at this;exact this
       |some i=>
        rw[eu]at this;exact this
def Els(H:Hp)(xs:List V)(rs:List (List Int)):Prop:=xs.length=rs.length/\∀(i:Nat) (r:List Int),rs[i]?=some r->∃t,xs[i]?=some (V.ref t)/\H t=some (.tup (r.map V.int))
theorem Els.keep{H H':Hp}{xs:List V}{rs:List (List Int)}(h:Els H xs rs)(k:∀b l,H b=some (.tup l)->H' b=some (.tup l)):Els H' xs rs:=
 ⟨h.1,fun i r e=>by
  obtain⟨t,e1,e2⟩:=h.2 i r e
  exact⟨t,e1,k _ _ e2⟩⟩
theorem Els.same{H H':Hp}{xs:List V}{rs:List (List Int)}(h:Els H xs rs)(s:Same H H'):Els H' xs rs:=h.keep fun _ _ e=>s _ _ e
theorem Els.nil{H:Hp}:Els H [] []:=⟨rfl,fun i r e=>by simp at e⟩
theorem Els.app{H:Hp}{xs ys:List V}{rs qs:List (List Int)}(h:Els H xs rs)(g:Els H ys qs):Els H (xs++ys) (rs++qs):=by
 refine⟨by rw[zA2,zA2,h.1,g.1],fun i r e=>?_⟩;by_cases hi:i<rs.length
 .rw[zBc hi]at e;obtain⟨t,e1,e2⟩:=h.2 i r e;exact⟨t,by rw[zBc (by rw[h.1];exact hi)];exact e1,e2⟩
 .rw[zBb Zz]at e;obtain⟨t,e1,e2⟩:=g.2 _ r e;exact⟨t,by rw[zBb (by rw[h.1];lia),h.1];exact e1,e2⟩
theorem Els.one{H:Hp}{t:Addr}{r:List Int}(e:H t=some (.tup (r.map V.int))):Els H [.ref t] [r]:=⟨rfl,fun i q e'=>by
 cases i with
 |zero=>
  rw[List.getElem?_cons_zero]at e';cases e';exact⟨t,rfl,e⟩
 |succ i=>simp at e'⟩
theorem dI{r:List Int}(h:r.length=4):r=[fl r 0,fl r 1,fl r 2,fl r 3]:=by
 match r,h with
 |[a,b,c,d],_=>rfl
theorem J7{t:TS}{D:Ends}{N:L2.St->Hp->Prop}{σ:L2.St}{H:Hp}(h:∀D':Ends,(∀σ H,N σ H->D'.nx σ H)->t D' σ H):t {D with nx:=N,ct:=N,bk:=D.nx} σ H:=h _ fun _ _ z=>z
theorem dJ{J:It}{g:TG}{te:TE}{c9:St}{H0:Hp}{Fin:List V->Hp->Prop}(n:Nat)(Pv:Nat->List V->St->Hp->Prop)(h0:Pv 0 [] c9 H0)(hz:n<sizeLine)
  (step:∀i ys σ H,i<n->ys.length=i->Pv i ys σ H->J.go i H/\∀x H',J.yld i H x H'->∀R:V->St->Hp->Prop,(∀y aE H4,Pv (i+1) (ys++[y]) aE H4->R y aE H4)->g x σ H' fun aE H2=>te aE H2 fun y H4=>R y aE H4)
  (fin:∀ys σ H,ys.length=n->Pv n ys σ H->J.stop n H/\Fin ys H):jV J g uF te Fin c9 H0:=by
 refine⟨fun i m ys σ H=>m=n-i/\i<=n/\ys.length=i/\Pv i ys σ H,⟨_,rfl,zAp _,rfl,h0⟩,?_⟩;rintro i m ys σ H ⟨rfl,hi,hy,p⟩;refine⟨Zz,?_⟩;by_cases aI:i<n
 .obtain⟨go,st⟩:=step i ys σ H aI hy p;exact .inr ⟨go,fun x H' y=>st x H' y _ fun y aE H4 p2=>⟨n-(i+1),Zz,rfl,aI,by rw[zA2,hy];rfl,p2⟩⟩
 .have e:i=n:=Zz
  subst e;exact .inl (fin ys σ H hy p)
def wts(rs:List (List Int)):List Int:=rs.map fun r=>fl r 3
def aM(rs:List (List Int)):Int:=(wts rs).sum
inductive SpSacksI(vs:List V)(H:Hp)(Q:VK):Prop
 |mk:∀l xs rs,(vs=[.ref l])->(H l=some (.lst xs))->(Els H xs rs)->((∀r∈rs,r.length=4))->(rs.length<=100000)->(∀H',Same H H'->Q (.int (aM rs)) H')->SpSacksI  vs H Q
def qP:Sp:=fun vs H Q _=>SpSacksI  vs H Q
theorem boot_sum:bootBuiltins "sum"=some (.builtin "sum"):=by decide +kernel
theorem nd4:(["due","number","holder","sacks"]:List Str).Nodup:=by decide +kernel
theorem J8:FnScope ["rows"] ["rows"] (aK (top 44)):=fQS
theorem zZ(F:Fun K "sacks_of" "sacks_of" (top 44) f fd)(Ts:mg "sum"=none):FnOk P w K mg base CX0 1 f fd ["rows"] qP:=by
 refine F.ok J8 (fun vs H Q E h=>?_) (fun ar A outer s H vs Q E hr h=>?_)
 .obtain⟨l,xs,rs,rfl,_⟩:=h;rfl
 .obtain⟨l,xs,rs,rfl,el,els,h4,hz,q⟩:=h
  refine⟨_,aC (aU (aQ (eF rfl) rfl Ts boot_sum (au (bW (g:=lB K 4 (cB (bL 0) (cB (bL 1) (cB (bL 2) (cB (bL 3) mX))))) ["due","number","holder","sacks"] [none,none,none,none] rfl (ie (pv 0))
   (fun C fp Zt s₂ H₂=>⟨dU rfl rfl (aq (pgn 0 nd4) (aq (pgn 1 nd4) (aq (pgn 2 nd4) (aq (pgn 3 nd4) aY)))),cu,pv 3⟩) (fun C=>trivial) ⟨rfl,rfl,rfl,rfl⟩) aj))),?_⟩
  refine⟨_,rfl,l,rfl,⟨_,SqL.of el⟩,dJ rs.length (fun i ys σ Hc=>Same H Hc/\(∃o1 o2 o3 o4,σ=[o1,o2,o3,o4])/\ys=(wts (rs.take i)).map V.int) ⟨Same.refl H,⟨_,_,_,_,rfl⟩,rfl⟩ Zu ?_ ?_⟩
  .rintro i ys σ Hc hi hy ⟨s1,⟨o1,o2,o3,o4,rfl⟩,rfl⟩;obtain⟨t,ex,et⟩:=els.2 i rs[i] (zA0 hi);rw[dI (h4 _ (zAh hi))]at et;refine⟨⟨_,_,SqL.of (s1 _ _ el),ex⟩,fun v H' y R hR=>?_⟩;obtain⟨rfl,y⟩:=y;have hv:=y _ (SqL.of (s1 _ _ el));rw[ex]at hv;cases hv;refine⟨t,_,rfl,SqT.of (s1 _ _ et),rfl,_,_,rfl,_,_,rfl,_,_,rfl,_,_,rfl,rfl,_,rfl,hR _ _ _ ⟨s1,⟨_,_,_,_,rfl⟩,?_⟩⟩;unfold wts;rw[zAj,zA0 hi,zA4,zA4];rfl
  .rintro ys σ Hc hy ⟨s1,_,rfl⟩;refine⟨⟨_,SqL.of (s1 _ _ el),by rw[els.1];exact zA3 _⟩,fun D hD=>?_⟩;rw[zAm];exact⟨D,wts rs,rfl,.inl (SqL.of ao),q _ (s1.updR hD)⟩
end K53
open K53 (top cX items intOf bB nd1 zN qJ qK jj eV spT jC Mg boot_tuple boot_all cZ Cal aG kW boot_sum dJ sc1 iz mJ)
namespace K53P
open PySem L2
structure Nums(mg:Str->Option Value):Prop where
 many:∃t,mg "MOST_WEIGHTS"=some (.int 80 t)
 most:∃t,mg "MOST_WEIGHT"=some (.int 99 t)
def gU(d:PyData):Bool:=bB d 1 80&&(items d).all fun x=>kW x 1 99
theorem boot_sorted:bootBuiltins "sorted"=some (.builtin "sorted"):=by decide +kernel
theorem nd2(x y:Str)(h:x≠y):([x,y]:List Str).Nodup:=by simp[h]
section
variable{P:Program}{w:World}{K:Frag}{mg:Str->Option Value}{base:Heap}{f:Addr}{fd:FuncData}
theorem sc19:FnScope ["thing"] ["thing"] (aK (top 38)):=fQS
theorem ok_are_weights(F:Fun K "are_weights" "are_weights" (top 38) f fd)(T:Mg mg)(N:Nums mg)(c1:Cal P w K mg base 2 "is_whole_from" ["thing","least","most"] (jC kW))(c2:Cal P w K mg base 1 "is_tuple_of" ["thing","fewest","most"] (jC bB)):
  FnOk P w K mg base CX0 4 f fd ["thing"] (spT gU):=by
 refine F.ok sc19 (fun vs H Q E h=>?_) (fun ar A outer s H vs Q E hr h=>?_)
 .obtain⟨S,v,d,rfl,_⟩:=h;rfl
 .obtain⟨S,v,d,rfl,th,hz,q⟩:=h;obtain⟨t3,e3⟩:=N.many;obtain⟨t4,e4⟩:=N.most
  refine⟨_,aC (aU (cg (aG c2 hr (aP (pv 0) (aP az (aP (bM (v:=.int 80) rfl e3 ⟨_,rfl⟩) aj))))
   (cV (aQ (eU rfl) rfl T.all boot_all (aP (bW ["part"] [none] rfl (dD (pv 0))
    (fun C fp Zt s₂ H₂=>⟨bQ (i:=0) (nd1 _) rfl (Or.inl rfl),cu,aG c1 hr (aP (pv 0) (aP az (aP (bM (v:=.int 99) rfl e4 ⟨_,rfl⟩) aj)))⟩) (fun C=>trivial) ⟨rfl,rfl,rfl,rfl⟩) aj))))),?_⟩
  refine⟨_,rfl,S,v,d,1,80,rfl,th,hz,fun H1 s1=>⟨_,rfl,?_⟩⟩;have de:=th.same s1;have fin:=fun H' (s:Same H H')=>q H' s;unfold gU at fin
  cases e:bB d 1 80 with
  |false=>
   rw[e]at fin;exact bF (fin _ s1)
  |true=>
   rw[e]at fin;refine bN ?_
   cases de with
   |@tup a xs ds ea r=>exact cZ (fun x=>kW x 1 99) rfl ea r (eV r hz) (fun v d H2 Q2 hm s2 t2 q2=>⟨_,rfl,S,v,d,1,99,rfl,t2,jj hm hz,q2⟩) fun H2 s2=>fin _ (s1.trans s2)
   |_=>cases e
end
section
variable{X:Cx}{K:Frag}{tg l:Expr}{tl:TE}
theorem ix_tupK(hK:X.K=K):IxR X (Gw K):=by
 subst hK;exact bK
end
section
variable{P:Program}{w:World}{K:Frag}{mg:Str->Option Value}{base:Heap}{f:Addr}{fd:FuncData}
end
theorem ok_b{X:Cx}{body:List Stmt}{t:TS}{R:TS->Prop}(h:BSs X body t)(q:R t):∃t,PSs X body t/\R t:=⟨t,h.run,q⟩
def rr(rs:List Int)(i:Nat):Int:=rs.getD i 0
def bef(rs:List Int)(i j:Nat):Bool:=decide (rr rs j<rr rs i)||(decide (rr rs i=rr rs j)&&decide (i<=j))
theorem jo{rs:List Int}{i j:Nat}:bef rs i j=true↔rr rs j<rr rs i\/(rr rs i=rr rs j/\i<=j):=by
 unfold bef;rw[Bool.or_eq_true,zAc,decide_eq_true_iff,decide_eq_true_iff,decide_eq_true_iff]
structure Ord(rs:List Int)(pl:List Nat):Prop where
 pm:pl.Perm (List.range rs.length)
 so:pl.Pairwise fun i j=>bef rs i j=true
theorem gW(rs:List Int):∃pl,Ord rs pl:=by
 refine⟨(List.range rs.length).mergeSort (bef rs),List.mergeSort_perm _ _,List.pairwise_mergeSort (fun a b c h1 h2=>?_) (fun a b=>?_) _⟩
 .rw[jo]at h1 h2⊢;lia
 .rw[Bool.or_eq_true,jo,jo];lia
theorem Fz{rs:List Int}{p q:List Nat}(h:Ord rs p)(h':Ord rs q):p=q:=by
 refine List.Perm.eq_of_pairwise (fun a b _ _ h1 h2=>?_) h.so h'.so (h.pm.trans h'.pm.symm);rw[jo]at h1 h2;lia
def du(fs:List Int)(pl:List Nat):List Int:=pl.foldl (fun l i=>l.set i (l.getD i 0+1)) fs
theorem uX(fs:List Int)(pl:List Nat)(i:Nat):du fs (pl++[i])=(du fs pl).set i ((du fs pl).getD i 0+1):=by
 unfold du;rw[List.foldl_append];rfl
theorem jJ:∀(pl:List Nat) (fs:List Int),(du fs pl).length=fs.length
 |[],_=>rfl
 |i::pl,fs=>by
  show(du (fs.set i _) pl).length=_;rw[jJ pl,List.length_set]
def fs(n:Int)(ws:List Int):List Int:=ws.map fun w=>n*w / ws.sum
def rs(n:Int)(ws:List Int):List Int:=ws.map fun w=>n*w % ws.sum
def lf(n:Int)(ws:List Int):Int:=n-(fs n ws).sum
def OkW(ws:List Int):Prop:=1<=ws.length/\ws.length<=80/\∀w∈ws,1<=w/\w<=99
theorem qQ{B:Int}:∀{l:List Int},(∀a∈l,a<=B)->l.sum<=B*l.length
 |[],_=>by simp
 |a::l,h=>by
  have h1:=qQ (B:=B) (l:=l) fun b hb=>h b (.tail _ hb);have h2:=h a (.head _);rw[List.sum_cons,List.length_cons,show B*((l.length+1:Nat):Int)=B*l.length+B by rw[Int.natCast_add,Int.mul_add];simp];lia
theorem gm:∀{l:List Int},(∀a∈l,0<=a)->0<=l.sum
 |[],_=>by simp
 |a::l,h=>by
  have h1:=gm (l:=l) fun b hb=>h b (.tail _ hb);have h2:=h a (.head _);rw[List.sum_cons];lia
theorem OkW.pos{ws:List Int}(h:OkW ws):1<=ws.sum:=by
 obtain⟨h1,_,h3⟩:=h
 match ws,h1,h3 with
 |w::ws,_,h3=>
  have:=gm (l:=ws) fun a ha=>by have:=h3 a (.tail _ ha);lia
  have:=h3 w (.head _);rw[List.sum_cons];lia
theorem OkW.top{ws:List Int}(h:OkW ws):ws.sum<=7920:=by
 have h1:=qQ (B:=99) fun a ha=>(h.2.2 a ha).2;have:=h.2.1;lia
theorem divs(n T:Int):∀ws:List Int,T*(ws.map fun w=>n*w / T).sum+(ws.map fun w=>n*w % T).sum=n*ws.sum
 |[]=>by simp
 |w::ws=>by
  have h1:=divs n T ws;have h2:=Int.mul_ediv_add_emod (n*w) T;simp only[List.map_cons,List.sum_cons,Int.mul_add];lia
theorem FJ(n:Int)(ws:List Int):ws.sum*lf n ws=(rs n ws).sum:=by
 have h:=divs n ws.sum ws;unfold lf fs rs;rw[Int.mul_sub,Int.mul_comm ws.sum n];lia
theorem Hr{n:Int}{ws:List Int}(h:OkW ws):∀r∈rs n ws,0<=r:=fun r hr=>by
 obtain⟨w,_,rfl⟩:=zA5.mp hr;have:=h.pos;exact Int.emod_nonneg _ Zz
theorem Hs{n:Int}{ws:List Int}(h:OkW ws):∀r∈rs n ws,r<=ws.sum:=fun r hr=>by
 obtain⟨w,_,rfl⟩:=zA5.mp hr;have:=h.pos;exact Int.le_of_lt (Int.emod_lt_of_pos _ Zz)
theorem qR(n:Int)(ws:List Int):(fs n ws).length=ws.length:=zA1 _
theorem jK(n:Int)(ws:List Int):(rs n ws).length=ws.length:=zA1 _
theorem Aa{n:Int}{ws:List Int}(h:OkW ws):0<=lf n ws:=by
 have h1:=FJ n ws;have h2:=gm (Hr (n:=n) h);have h3:=h.pos;refine Int.le_of_not_gt fun c=>?_;have:=Int.mul_le_mul_of_nonneg_left (c:=ws.sum) (show lf n ws<=-1 by lia) Zz;lia
theorem DW{n:Int}{ws:List Int}(h:OkW ws):lf n ws<=ws.length:=by
 have h1:=FJ n ws;have h2:=qQ (Hs (n:=n) h);rw[jK]at h2;have h3:=h.pos;refine Int.le_of_not_gt fun c=>?_;have:=Int.mul_le_mul_of_nonneg_left (c:=ws.sum) (show(ws.length:Int)+1<=lf n ws by lia) Zz;rw[Int.mul_add]at this;lia
theorem FN{ws:List Int}(h:OkW ws):lf ws.sum ws=0:=by
 have h1:=FJ ws.sum ws
 have h2:(rs ws.sum ws).sum<=0:=by
  have:=qQ (B:=0) (l:=rs ws.sum ws) fun r hr=>by
   obtain⟨w,_,rfl⟩:=zA5.mp hr;rw[Int.mul_emod_right];exact Int.le_refl _
  lia
 have h3:=h.pos;have h4:=Aa (n:=ws.sum) h;refine Int.le_antisymm (Int.le_of_not_gt fun c=>?_) h4;have:=Int.mul_le_mul_of_nonneg_left (c:=ws.sum) (show 1<=lf ws.sum ws by lia) Zz;lia
theorem oW:∀(pl:List Nat) (l:List Int) (i:Nat),i<l.length->(du l pl).getD i 0=l.getD i 0+pl.count i
 |[],l,i,_=>by simp[du]
 |j::pl,l,i,h=>by
  show(du (l.set j (l.getD j 0+1)) pl).getD i 0=_;rw[oW pl _ i (by rw[List.length_set];exact h),List.count_cons];by_cases e:j=i
  .subst e;rw[zA7,List.getElem?_set_self h,Option.getD_some,beq_self_eq_true,zAv rfl];lia
  .rw[List.getD_eq_getElem?_getD,List.getElem?_set_ne e,<-List.getD_eq_getElem?_getD,if_neg (by simp[e])];lia
theorem Ord.nd{r:List Int}{pl:List Nat}(h:Ord r pl):pl.Nodup:=h.pm.nodup_iff.mpr List.nodup_range
theorem Ord.len{r:List Int}{pl:List Nat}(h:Ord r pl):pl.length=r.length:=by rw[h.pm.length_eq,List.length_range]
theorem Ord.lt{r:List Int}{pl:List Nat}(h:Ord r pl):∀i∈pl,i<r.length:=fun i hi=>List.mem_range.mp (h.pm.mem_iff.mp hi)
def res(n:Int)(ws:List Int):List Int:=du (fs n ws) ((gW (rs n ws)).choose.take (lf n ws).toNat)
theorem FP{n:Int}{ws:List Int}{pl:List Nat}(h:Ord (rs n ws) pl):du (fs n ws) (pl.take (lf n ws).toNat)=res n ws:=by
 unfold res;rw[Fz h (gW (rs n ws)).choose_spec]
theorem res_len(n:Int)(ws:List Int):(res n ws).length=ws.length:=by
 unfold res;rw[jJ,qR]
theorem res_get{n:Int}{ws:List Int}(h:OkW ws)(n0:0<=n)(n1:n<=ws.sum){i:Nat}{r w:Int}(hr:(res n ws)[i]?=some r)(hw:ws[i]?=some w):0<=r/\r<=w:=by
 have hi:i<ws.length:=(zAa.mp hw).1;have hp:=h.pos;have ww:=h.2.2 w (zB8 hw)
 have e:r=n*w / ws.sum+((gW (rs n ws)).choose.take (lf n ws).toNat).count i:=by
  have:=oW ((gW (rs n ws)).choose.take (lf n ws).toNat) (fs n ws) i (by rw[qR];exact hi)
  have e2:(fs n ws).getD i 0=n*w / ws.sum:=by
   unfold fs;rw[zA7,zAb,hw];rfl
  rw[e2]at this;rw[<-this,show du (fs n ws) _=res n ws from rfl,zA7,hr];rfl
 have c1:((gW (rs n ws)).choose.take (lf n ws).toNat).count i<=1:=List.nodup_iff_count.mp ((gW (rs n ws)).choose_spec.nd.sublist (List.take_sublist _ _)) i;have q0:0<=n*w / ws.sum:=Int.ediv_nonneg (Int.mul_nonneg n0 Zz) Zz;refine⟨Zz,?_⟩;by_cases en:n=ws.sum
 .have:((gW (rs n ws)).choose.take (lf n ws).toNat)=[]:=by
   rw[en,FN h];rfl
  rw[this]at e;rw[en,Int.mul_ediv_cancel_left _ Zz]at e;simp at e;lia
 .have:n*w / ws.sum<w:=by
   refine Int.ediv_lt_of_lt_mul Zz ?_;rw[Int.mul_comm w];exact Int.mul_lt_mul_of_pos_right Zz Zz
  lia
theorem oX{K:Frag}{te:TE}{p:Addr}{ws:List Int}{c9:St}{H0:Hp}{Fin:List V->Hp->Prop}(f:Int->Int)(ep:H0 p=some (.tup (ws.map V.int)))(hl:ws.length<sizeLine)
  (ub:∀(z:Int) (Q:VK),z∈ws->Q (.int (f z)) H0->te (c9.set 0 (some (.int z))) H0 Q) (fin:Fin ((ws.map f).map V.int) H0):jV (Itt K p) (bL 0) uF te Fin c9 H0:=by
 refine dJ ws.length (fun i ys σ H=>H=H0/\(∀o,σ.set 0 o=c9.set 0 o)/\ys=((ws.take i).map f).map V.int) ⟨rfl,fun _=>rfl,rfl⟩ hl ?_ ?_
 .rintro i ys σ H hi hy ⟨rfl,lS,rfl⟩;have hz:(ws.map V.int)[i]?=some (.int ws[i]):=by rw[zAb,zA0 hi];rfl
  refine⟨⟨_,_,SqT.of ep,hz⟩,fun v H' y' R hR=>?_⟩;obtain⟨rfl,y'⟩:=y';have hv:=y' _ (SqT.of ep);rw[hz]at hv;cases hv;show te (σ.set 0 (some (.int ws[i]))) _ _;rw[lS];refine ub ws[i] _ (zAh hi) (hR _ _ _ ⟨rfl,fun o=>by rw[List.set_set],?_⟩);rw[zAj,zA0 hi,zA4,zA4];rfl
 .rintro ys σ H hy ⟨rfl,lS,rfl⟩;refine⟨⟨_,SqT.of ep,by rw[zA1];exact zA3 _⟩,?_⟩;rw[zAm];exact fin
def wD(ws:List Int):PyData:=.tuple (ws.map PyData.int)
theorem tK:∀(r:List Int),szs (r.map PyData.int)=r.length
 |[]=>rfl
 |_::r=>by
  show 1+szs (r.map PyData.int)=r.length+1;rw[tK r,Nat.add_comm]
theorem J9(ws:List Int):sz (wD ws)=1+ws.length:=by
 show 1+szs (ws.map PyData.int)=_;rw[tK]
theorem Ja{ws:List Int}(h:OkW ws):gU (wD ws)=true:=by
 unfold gU;rw[zAc];refine⟨?_,List.all_eq_true.mpr fun d hd=>?_⟩
 .show(true&&(decide (1<=((ws.map PyData.int).length:Int))&&decide (((ws.map PyData.int).length:Int)<=80)))=true;have h1:=h.1;have h2:=h.2.1;rw[zA1,zAt Zz,zAt Zz];rfl
 .obtain⟨w,hw,rfl⟩:=zA5.mp hd;have:=h.2.2 w hw;show(true&&(decide (1<=w)&&decide (w<=99)))=true;rw[zAt this.1,zAt this.2];rfl
inductive SpRefuseI(vs:List V)(H:Hp)(Q:VK):Prop
 |mk:∀n p ws,(vs=[.int n,.ref p])->(H p=some (.tup (ws.map V.int)))->(OkW ws)->(0<=n)->(n<=ws.sum)->(∀H',Same H H'->Q .non H')->SpRefuseI  vs H Q
def tL:Sp:=fun vs H Q _=>SpRefuseI  vs H Q
inductive SpPlacesI(vs:List V)(H:Hp)(Q:VK):Prop
 |mk:∀p rests,(vs=[.ref p])->(H p=some (.lst ((rests:List Int).map V.int)))->(rests.length<sizeLine)->(∀H' q pl,Ord rests pl->Same H H'->H q=none->H' q=some (.lst (pl.map fun j:Nat=>V.int (j:Int)))->Q (.ref q) H')->SpPlacesI  vs H Q
def tM:Sp:=fun vs H Q _=>SpPlacesI  vs H Q
inductive SpPartsI(vs:List V)(H:Hp)(Q:VK):Prop
 |mk:∀n p ws,(vs=[.int n,.ref p])->(H p=some (.tup (ws.map V.int)))->(OkW ws)->(0<=n)->(n<=ws.sum)->(∀H' q,Same H H'->H' q=some (.tup ((res n ws).map V.int))->Q (.ref q) H')->SpPartsI  vs H Q
def spParts:Sp:=fun vs H Q _=>SpPartsI  vs H Q
def gw(H:Hp)(a:Addr):Nat:=match H a with
 |some (.tup [_,.int y])=>y.toNat
 |_=>0
def rowAt(H:Hp)(a:Addr):List Int:=match H a with
 |some (.tup [.int x,.int y])=>[x,y]
 |_=>[]
theorem Ht{rests:List Int}{i:Nat}{x:Int}(h:rests[i]?=some x):rr rests i=x:=by
 unfold rr;rw[zA7,h];rfl
theorem Cu{rests:List Int}{i j:Nat}(h:HT.lexLt [-(rr rests j),(j:Int)] [-(rr rests i),(i:Int)]=false):bef rests i j=true:=by
 rw[jo];rw[HT.lexLt_cons]at h;by_cases e:-(rr rests j)=-(rr rests i)
 .rw[zAv e,HT.lexLt_cons]at h;by_cases e2:(j:Int)=(i:Int)
  .exact .inr ⟨Zz,Zz⟩
  .rw[zAu e2]at h;have:=of_decide_eq_false h;exact .inr ⟨Zz,Zz⟩
 .rw[zAu e]at h;have:=of_decide_eq_false h;exact .inl Zz
section
variable{P:Program}{w:World}{K:Frag}{mg:Str->Option Value}{base:Heap}{f:Addr}{fd:FuncData}
theorem Jb:FnScope ["sacks","weights"] ["sacks","weights"] (aK (top 39)):=fQS
theorem ok_refuse(F:Fun K "refuse_unpartable" "refuse_unpartable" (top 39) f fd)(Ts:mg "sum"=none)(c1:Cal P w K mg base 4 "are_weights" ["thing"] (spT gU))(c2:Cal P w K mg base 2 "is_whole_from" ["thing","least","most"] (jC kW)):
  FnOk P w K mg base CX0 5 f fd ["sacks","weights"] tL:=by
 refine F.ok Jb (fun vs H Q E h=>?_) (fun ar A outer s H vs Q E hr h=>?_)
 .obtain⟨n,p,ws,rfl,_⟩:=h;rfl
 .obtain⟨n,p,ws,rfl,ep,ok,n0,n1,q⟩:=h
  refine⟨_,aA (bY (bZ (dB (aG c1 hr (aP (pv 1) aj)))) (aC gD) bh)
   (aC (bY (bZ (dB (aG c2 hr (aP (pv 0) (aP az (aP (aQ (eF rfl) rfl Ts boot_sum (au (pv 1) aj)) aj)))))) (aC gD) bh)),?_⟩
  refine aD ?_;refine⟨_,rfl,fun _=>False,_,wD ws,rfl,.tup ep (IsThs.ints ws),by rw[J9];have:=ok.2.1;lia,fun H1 s1=>⟨_,rfl,?_⟩⟩;rw[Ja ok];refine bF ?_;dsimp only;refine⟨_,rfl,_,rfl,p,ws,rfl,.inr (SqT.of (s1 _ _ ep)),fun _=>False,_,.int n,0,_,rfl,.int n,(by show 1<=4000;decide),fun H2 s2=>⟨_,rfl,?_⟩⟩
  have e:kW (.int n) 0 ws.sum=true:=by
   show(true&&(decide (0<=n)&&decide (n<=ws.sum)))=true;rw[zAt n0,zAt n1];rfl
  rw[e];exact bF (q H2 (s1.trans s2))
theorem sc13:FnScope ["rests","ranked"] ["rests"] (aK (top 40)):=fQS
theorem ok_places(F:Fun K "places_by_rest" "places_by_rest" (top 40) f fd)(Te:mg "enumerate"=none)(Ts:mg "sorted"=none):FnOk P w K mg base CX0 1 f fd ["rests"] tM:=by
 refine F.ok sc13 (fun vs H Q E h=>?_) (fun ar A outer s H vs Q E hr h=>?_)
 .obtain⟨p,rests,rfl,_⟩:=h;rfl
 .obtain⟨p,rests,rfl,ep,hz,q⟩:=h
  refine⟨_,aA (pss 1 sc13.nd (aQ qG rfl Ts boot_sorted (au (bW (g:=lB K 2 (cB (bL 0) (cB (bL 1) mX))) ["at","rest"] [none,none] rfl (ZT.pi_enum false rfl Te (au (pv 0) aj))
    (fun C fp Zt s₂ H₂=>⟨dU rfl rfl (aq (bQ (i:=0) (nd2 _ _ Zx) rfl (Or.inl rfl) (Or.inr rfl)) (aq (bQ (i:=1) (nd2 _ _ Zx) rfl (Or.inl rfl) (Or.inr rfl)) aY)),cu,
     bT (au (yQ uw (pv 1)) (au (pv 0) aj))⟩) (fun C=>trivial) ⟨rfl,rfl,rfl,rfl⟩) aj)))
   (aC (aU (bW (g:=lB K 2 (cB (bL 0) (cB (bL 1) mX))) ["minus","at"] [none,none] rfl (ie (pv 1))
    (fun C fp Zt s₂ H₂=>⟨dU rfl rfl (aq (bQ (i:=0) (nd2 _ _ Zx) rfl (Or.inl rfl) (Or.inr rfl)) (aq (bQ (i:=1) (nd2 _ _ Zx) rfl (Or.inl rfl) (Or.inr rfl)) aY)),cu,
     pv 1⟩) (fun C=>trivial) ⟨rfl,rfl,rfl,rfl⟩))),?_⟩
  refine aD ?_;refine⟨_,rfl,p,_,rfl,SqL.of ep,dJ rests.length (fun i ys σ Hc=>Same H Hc/\(∃o1 o2,σ=[o1,o2])/\∃ts:List Addr,ys=ts.map V.ref/\∀j,j<i->∃a,ts[j]?=some a/\Hc a=some (.tup [.int (-(rr rests j)),.int (j:Int)])) ⟨Same.refl H,⟨_,_,rfl⟩,[],rfl,fun j hj=>absurd hj (Nat.not_lt_zero _)⟩ hz ?_ ?_⟩
  .rintro i ys σ Hc hi hy ⟨s1,⟨o1,o2,rfl⟩,ts,rfl,zk⟩;rw[zA1]at hy;have mh:SqL K Hc p (rests.map V.int):=SqL.of (s1 _ _ ep)
   have hx:(rests.map V.int)[i]?=some (.int (rr rests i)):=by
    rw[zAb,zA0 hi,Ht (zA0 hi)];rfl
   refine⟨⟨_,_,mh,hx⟩,fun v H' y R hR=>?_⟩;obtain⟨T,nT,rfl,y⟩:=y;obtain⟨x',jS,rfl⟩:=y _ mh;rw[hx]at jS;cases jS;have s2:=s1.updR (o:=.tup [.int (i:Int),.int (rr rests i)]) nT;refine⟨T,_,rfl,SqT.of ao,rfl,_,_,rfl,_,_,rfl,rfl,_,rfl,rr rests i,rfl,_,rfl,zL,fun t ht=>?_⟩;refine hR _ _ _ ⟨s2.updR ht,⟨_,_,rfl⟩,ts++[t],by rw[zA4];rfl,fun j hj=>?_⟩;by_cases e:j<i
   .obtain⟨a,h1,h2⟩:=zk j e;refine⟨a,by rw[zBc Zz];exact h1,?_⟩;exact Same.upd ht _ _ (Same.upd nT _ _ h2)
   .have e:j=i:=Zz
    subst e;refine⟨t,by rw[zBb Zz,hy,Nat.sub_self];rfl,ao⟩
  .rintro ys σ Hc hy ⟨s1,_,ts,rfl,zk⟩;rw[zA1]at hy;refine⟨⟨_,SqL.of (s1 _ _ ep),by rw[zA1];exact zA3 _⟩,fun D hD=>?_⟩;have s2:=s1.updR (o:=.lst (ts.map V.ref)) hD
   have oD:∀j,j<rests.length->∃a,ts[j]?=some a/\upd Hc D (.lst (ts.map V.ref)) a=some (.tup [.int (-(rr rests j)),.int (j:Int)]):=fun j hj=>by
    obtain⟨a,h1,h2⟩:=zk j hj;exact⟨a,h1,Same.upd hD _ _ h2⟩
   have eD:=ao (H:=Hc) (a:=D) (o:=.lst (ts.map V.ref));generalize upd Hc D (.lst (ts.map V.ref))=H2 at s2 oD eD⊢;clear zk hD s1
   have ml:∀a∈ts,∃j,j<rests.length/\H2 a=some (.tup [.int (-(rr rests j)),.int (j:Int)]):=fun a ha=>by
    obtain⟨j,hj,e⟩:=List.getElem_of_mem ha;obtain⟨b,h1,h2⟩:=oD j Zz;rw[zA0 hj]at h1;injection h1 with h1;refine⟨j,Zz,?_⟩;rw[<-e,h1];exact h2
   refine⟨D,ts,rowAt H2,rfl,SqL.of eD,fun a ha=>?_,fun q' l' hq pm so=>?_⟩
   .obtain⟨j,hj,e⟩:=ml a ha;have er:rowAt H2 a=[-(rr rests j),(j:Int)]:=by unfold rowAt;rw[e]
    rw[er];exact⟨SqT.of e,by simp⟩
   have zo:∀a∈l',∃j,j<rests.length/\H2 a=some (.tup [.int (-(rr rests j)),.int (j:Int)]):=fun a ha=>ml a (pm.mem_iff.mp ha)
   have sn:∀a∈l',H2 a=some (.tup [.int (-(rr rests (gw H2 a))),.int (gw H2 a:Int)])/\rowAt H2 a=[-(rr rests (gw H2 a)),(gw H2 a:Int)]:=fun a ha=>by
    obtain⟨j,hj,e⟩:=zo a ha;have er:rowAt H2 a=[-(rr rests j),(j:Int)]:=by unfold rowAt;rw[e]
    have es:gw H2 a=j:=by unfold gw;rw[e];exact zAi j
    rw[er,es];exact⟨e,rfl⟩
   have ord:Ord rests (l'.map (gw H2)):=by
    refine⟨?_,?_⟩
    .refine(pm.map _).trans (List.Perm.of_eq (List.ext_getElem? fun j=>?_));by_cases hj:j<rests.length
     .obtain⟨a,h1,h2⟩:=oD j hj;rw[zAb,h1,List.getElem?_range hj];show some (gw H2 a)=some j;unfold gw;rw[h2];exact congrArg some (zAi j)
     .rw[List.getElem?_eq_none (by rw[zA1];lia),List.getElem?_eq_none (by rw[List.length_range];lia)]
    .refine List.pairwise_map.mpr (so.imp_of_mem fun{a b} ha hb h=>?_);rw[(sn a ha).2,(sn b hb).2]at h;exact Cu h
   have s3:=s2.updR (o:=.lst (l'.map V.ref)) hq;have QF:l'.length=rests.length:=by rw[pm.length_eq,hy]
   have vv:=ao (H:=H2) (a:=q') (o:=.lst (l'.map V.ref));have CF:∀a∈l',upd H2 q' (.lst (l'.map V.ref)) a=some (.tup [.int (-(rr rests (gw H2 a))),.int (gw H2 a:Int)]):=fun a ha=>Same.upd hq _ _ (sn a ha).1;generalize gw H2=sd at ord CF;generalize upd H2 q' (.lst (l'.map V.ref))=H3 at s3 vv CF⊢;dsimp only;refine lV ?_;refine⟨_,rfl,q',rfl,⟨_,SqL.of vv⟩,dJ rests.length (fun i ys σ Hc=>Same H3 Hc/\(∃o1 o2,σ=[o1,o2])/\ys=((l'.take i).map sd).map fun j:Nat=>V.int (j:Int)) ⟨Same.refl H3,⟨_,_,rfl⟩,rfl⟩ hz ?_ ?_⟩
   .rintro i ys σ Hc hi hy ⟨s4,⟨o1,o2,rfl⟩,rfl⟩;have gz:i<l'.length:=Zz
    have hu:(l'.map V.ref)[i]?=some (.ref l'[i]):=by rw[zAb,zA0 gz];rfl
    refine⟨⟨_,_,SqL.of (s4 _ _ vv),hu⟩,fun v H' y R hR=>?_⟩;obtain⟨rfl,y⟩:=y;have hv:=y _ (SqL.of (s4 _ _ vv));rw[hu]at hv;cases hv;refine⟨l'[i],_,rfl,SqT.of (s4 _ _ (CF _ (zAh gz))),rfl,_,_,rfl,_,_,rfl,rfl,_,rfl,hR _ _ _ ⟨s4,⟨_,_,rfl⟩,?_⟩⟩;rw[zAj,zA0 gz,zA4,zA4];rfl
   .rintro ys σ Hc rh ⟨s4,_,rfl⟩;refine⟨⟨_,SqL.of (s4 _ _ vv),by rw[zA1];lia⟩,fun D' HL=>?_⟩;have s5:=s3.trans s4;have hn:H D'=none:=s5.free HL;refine q _ D' _ ord (s5.updR HL) hn ?_;rw[ao,List.take_of_length_le Zz]
end
theorem Cv{n j:Nat}(h:j<n):ixN n (j:Int)=some j:=by
 unfold ixN;rw[zAv Zz,zAv Zz,zAi]
theorem FQ{ws:List Int}(ok:OkW ws):ws.length<sizeLine:=by
 have:=ok.2.1;rw[sizeLine_eq];lia
section
variable{P:Program}{w:World}{K:Frag}{mg:Str->Option Value}{base:Heap}{f:Addr}{fd:FuncData}
theorem Hu:(["weight","sacks","together"]:List Str).Nodup:=by decide +kernel
theorem sc14:FnScope ["sacks","weights","together","parts","rests","left","at"] ["sacks","weights"] (aK (top 41)):=fQS
theorem ok_parts(F:Fun K "parts_of" "parts_of" (top 41) f fd)(T:Mg mg)(Ts:mg "sum"=none)(c1:Cal P w K mg base 1 "places_by_rest" ["rests"] tM):FnOk P w K mg base CX0 2 f fd ["sacks","weights"] spParts:=by
 refine F.ok sc14 (fun vs H Q E h=>?_) (fun ar A outer s H vs Q E hr h=>?_)
 .obtain⟨n,p,ws,rfl,_⟩:=h;rfl
 .obtain⟨n,p,ws,rfl,ep,ok,n0,n1,q⟩:=h
  refine⟨_,aA (pP (i:=2) sc14.nd rfl (Or.inr rfl) (aQ (eF rfl) rfl Ts boot_sum (au (pv 1) aj)))
   (aA (j5 (i:=3) ["weight","sacks","together"] [none,some 0,some 2] rfl sc14.nd rfl (Or.inl rfl) (dD (pv 1))
    (fun C fp Zt s₂ H₂=>⟨pgn 0 Hu,cu,aR kZ (aR fW (pv 1) (pv 0)) (pv 2)⟩) (fun C=>cI (cI trivial)) ⟨rfl,rfl,rfl,rfl⟩)
   (aA (j5 (i:=4) ["weight","sacks","together"] [none,some 0,some 2] rfl sc14.nd rfl (Or.inl rfl) (dD (pv 1))
    (fun C fp Zt s₂ H₂=>⟨pgn 0 Hu,cu,aR fX (aR fW (pv 1) (pv 0)) (pv 2)⟩) (fun C=>cI (cI trivial)) ⟨rfl,rfl,rfl,rfl⟩)
   (aA (pss 5 sc14.nd (aR cN (pv 0) (aQ (eF rfl) rfl Ts boot_sum (au (pv 3) aj))))
   (aA (cP zB5 rfl (ie (fJ BK (aG c1 hr (au (pv 4) aj)) ik (il (pv 5)))) (pgn 6 sc14.nd)
    (aC (pR (pv 3) (pv 6) iz az yM set_list)))
   (aC (aU (bJ bA rfl T.tuple boot_tuple (au (pv 3) aj)))))))),?_⟩
  have hp:=ok.pos;have ht:=ok.top;have vw:=FQ ok;refine aD ?_;refine⟨_,rfl,p,ws,rfl,.inr (SqT.of ep),?_⟩;dsimp only;refine aD ?_;refine⟨_,rfl,p,rfl,⟨_,SqT.of ep⟩,oX (fun z=>n*z / ws.sum) ep vw (fun z Q hz h=>⟨_,rfl,_,rfl,_,_,rfl,rfl,.inl ⟨Zz,Zz⟩,_,rfl,_,_,rfl,rfl,⟨Zz,Zz⟩,h⟩) ?_⟩;rw[show ws.map (fun z=>n*z / ws.sum)=fs n ws from rfl];intro l1 dA;have s1:=Same.upd (o:=.lst ((fs n ws).map V.int)) dA;have el1:=ao (H:=H) (a:=l1) (o:=.lst ((fs n ws).map V.int));generalize upd H l1 _=H1 at s1 el1⊢;dsimp only;refine aD ?_;refine⟨_,rfl,p,rfl,⟨_,SqT.of (s1 _ _ ep)⟩,oX (fun z=>n*z % ws.sum) (s1 _ _ ep) vw (fun z Q hz h=>⟨_,rfl,_,rfl,_,_,rfl,rfl,.inl ⟨Zz,Zz⟩,_,rfl,_,_,rfl,rfl,(by show 0<ws.sum;lia),h⟩) ?_⟩;rw[show ws.map (fun z=>n*z % ws.sum)=rs n ws from rfl];intro l2 fE;have s2:=s1.updR (o:=.lst ((rs n ws).map V.int)) fE;have el2:=ao (H:=H1) (a:=l2) (o:=.lst ((rs n ws).map V.int));have hX:=Same.upd (o:=.lst ((rs n ws).map V.int)) fE _ _ el1;have zh:H l1=none:=dA;clear dA fE;generalize upd H1 l2 _=H2 at s2 el2 hX⊢;clear el1 s1;dsimp only;refine aD ?_;refine⟨_,rfl,_,rfl,l1,fs n ws,rfl,.inl (SqL.of hX),_,_,rfl,rfl,?_⟩;show _;dsimp only;rw[show n-(fs n ws).sum=lf n ws from rfl];refine aD ?_;refine⟨_,rfl,l2,rs n ws,rfl,el2,by rw[jK];exact vw,fun H3 l3 pl ord s3 vx el3=>⟨_,rfl,_,rfl,l3,_,rfl,SqL.of el3,fun l4 iS=>⟨l4,rfl,⟨_,SqL.of ao⟩,?_⟩⟩⟩;have QG:=Aa (n:=n) ok;have QH:=DW (n:=n) ok;have LA:=ord.len;rw[jK]at LA
  have CH:gA (pl.map fun j:Nat=>V.int (j:Int)) none (some (lf n ws))=(pl.take (lf n ws).toNat).map fun j:Nat=>V.int (j:Int):=by
   rw[List.map_take,<-mJ (i:=(lf n ws).toNat) (by rw[zA1];lia),show((lf n ws).toNat:Int)=lf n ws by lia]
  rw[CH];have fin:=FP ord
  have inr:∀j∈pl.take (lf n ws).toNat,j<ws.length:=fun j hj=>by
   have:=ord.lt j (List.mem_of_mem_take hj);rw[jK]at this;exact this
  generalize pl.take (lf n ws).toNat=pk at fin inr iS⊢;have s4:=(s2.trans s3).updR (o:=.lst (pk.map fun j:Nat=>V.int (j:Int))) iS;have el4:=ao (H:=H3) (a:=l4) (o:=.lst (pk.map fun j:Nat=>V.int (j:Int)));have vE:=Same.upd (o:=.lst (pk.map fun j:Nat=>V.int (j:Int))) iS _ _ (s3 _ _ hX)
  have LB:l4≠l1:=fun z=>by
   rw[z,s3 _ _ hX]at iS;cases iS
  generalize upd H3 l4 (.lst (pk.map fun j:Nat=>V.int (j:Int)))=H4 at s4 el4 vE⊢;clear iS el3 vx s3 hX el2 s2;refine rJ (xs:=pk.map fun j:Nat=>V.int (j:Int)) (fun i σ Hc=>∃o6,σ=[some (.int n),some (.ref p),some (.int ws.sum),some (.ref l1),some (.ref l2),some (.int (lf n ws)),o6]/\Same H Hc/\Hc l4=some (.lst (pk.map fun j:Nat=>V.int (j:Int)))/\Hc l1=some (.lst ((du (fs n ws) (pk.take i)).map V.int))) ?_ ?_ ?_ ?_
  .exact⟨none,rfl,s4,el4,vE⟩
  .rintro i σ Hc hi ⟨o6,rfl,s5,e4,e1⟩;exact SqL.of e4
  .rintro i v σ Hc hv ⟨o6,rfl,s5,e4,e1⟩;rw[zAb]at hv
   cases hj:pk[i]? with
   |none=>rw[hj]at hv;cases hv
   |some j=>
    rw[hj]at hv;cases hv;refine aN ?_
    have kp:∀o,Same H (upd Hc l1 o):=fun o b u e=>by
     rw[aB (aH e zh)];exact s5 _ _ e
    have aI:j<(du (fs n ws) (pk.take i)).length:=by
     rw[jJ,qR];exact inr j (zB8 hj)
    have hx:((du (fs n ws) (pk.take i)).map V.int)[((j:Nat):Int).toNat]?=some (.int ((du (fs n ws) (pk.take i)).getD j 0)):=by
     rw[zAi,zAb,zA0 aI,zA7,zA0 aI];rfl
    refine⟨_,rfl,_,rfl,l1,_,(j:Int),_,rfl,rfl,SqL.of e1,Zz,hx,_,_,rfl,rfl,l1,_,(j:Int),j,rfl,rfl,e1,Cv (by rw[zA1];exact aI),?_⟩;refine⟨_,rfl,kp _,by rw[aB LB];exact e4,?_⟩;rw[ao,zAj,hj];show _=some (HO.lst ((du (fs n ws) (pk.take i++[j])).map V.int));rw[uX,List.map_set]
  .rintro σ Hc ⟨o6,rfl,s5,e4,e1⟩;rw[zA1,zAm,fin]at e1;dsimp only;refine lV ?_;exact⟨_,rfl,l1,_,rfl,.inl ⟨SqL.of e1,fun t ht=>q _ t (s5.updR ht) ao⟩⟩
theorem sc15:FnScope ["sacks","weights"] ["sacks","weights"] (aK (top 42)):=fQS
theorem ok_parted(F:Fun K "parted" "parted" (top 42) f fd)(c1:Cal P w K mg base 5 "refuse_unpartable" ["sacks","weights"] tL)(c2:Cal P w K mg base 2 "parts_of" ["sacks","weights"] spParts):FnOk P w K mg base CX0 6 f fd ["sacks","weights"] spParts:=by
 refine F.ok sc15 (fun vs H Q E h=>?_) (fun ar A outer s H vs Q E hr h=>?_)
 .obtain⟨n,p,ws,rfl,_⟩:=h;rfl
 .obtain⟨n,p,ws,rfl,ep,ok,n0,n1,q⟩:=h;refine⟨_,aA (cD (aG c1 hr (au (pv 0) (au (pv 1) aj)))) (aC (aU (aG c2 hr (au (pv 0) (au (pv 1) aj))))),?_⟩;refine aD ?_;refine⟨_,rfl,_,rfl,n,p,ws,rfl,ep,ok,n0,n1,fun H1 s1=>?_⟩;dsimp only;refine lV ?_;exact⟨_,rfl,_,rfl,n,p,ws,rfl,s1 _ _ ep,ok,n0,n1,fun H2 t s2 et=>q H2 t (s1.trans s2) et⟩
end
end K53P
namespace K53
open PySem L2
def cJ:Int->List (List Int)->List Int
 |_,[]=>[]
 |w,r::rs=>(if w<fl r 3 then w else fl r 3)::cJ (w-(if w<fl r 3 then w else fl r 3)) rs
theorem iZ:∀(w:Int) (rs:List (List Int)) (r:List Int),cJ w (rs++[r])=cJ w rs++[if w-(cJ w rs).sum<fl r 3 then w-(cJ w rs).sum else fl r 3]
 |w,[],r=>by
  show[_]=[_];rw[show(cJ w []).sum=0 from rfl,Int.sub_zero]
 |w,q::rs,r=>by
  rw[List.cons_append];unfold cJ;rw[iZ _ rs r,List.cons_append,List.sum_cons,show ∀a b c:Int,a-b-c=a-(b+c)from fun a b c=>by lia]
theorem eO:∀(w:Int) (rs:List (List Int)),(cJ w rs).length=rs.length
 |_,[]=>rfl
 |w,r::rs=>by
  unfold cJ;rw[zAe,zAe,eO]
inductive SpMadeI(vs:List V)(H:Hp)(Q:VK):Prop
 |mk:∀w l xs rs,(vs=[.int w,.ref l])->(H l=some (.lst xs))->(Els H xs rs)->((∀r∈rs,r.length=4))->(rs.length<=100000)->(∀m H',Same H H'->H m=none->H' m=some (.lst ((cJ w rs).map V.int))->Q (.ref m) H')->SpMadeI  vs H Q
def Ab:Sp:=fun vs H Q _=>SpMadeI  vs H Q
def bu(w:Int)(rs:List (List Int)):List Int:=if(wts rs).sum<=w then wts rs else K53P.res w (wts rs)
inductive SpSharesI(vs:List V)(H:Hp)(Q:VK):Prop
 |mk:∀w l xs rs,(vs=[.int w,.ref l])->(H l=some (.lst xs))->(Els H xs rs)->((∀r∈rs,r.length=4/\1<=fl r 3/\fl r 3<=99))->(rs.length<=80)->(0<=w)->(∀t H',Same H H'->H' t=some (.tup ((bu w rs).map V.int))->Q (.ref t) H')->SpSharesI  vs H Q
def tO:Sp:=fun vs H Q _=>SpSharesI  vs H Q
variable{P:Program}{w:World}{K:Frag}{mg:Str->Option Value}{base:Heap}{f:Addr}{fd:FuncData}
theorem scT1:FnScope ["wool","owed","shares","left","due","number","holder","sacks","share"] ["wool","owed"] (aK (top 47)):=fQS
theorem Cw(F:Fun K "made_good" "made_good" (top 47) f fd)(Tn:mg "min"=none):FnOk P w K mg base CX0 1 f fd ["wool","owed"] Ab:=by
 refine F.ok scT1 (fun vs H Q E h=>?_) (fun ar A outer s H vs Q E hr h=>?_)
 .obtain⟨w0,l,xs,rs,rfl,_⟩:=h;rfl
 .obtain⟨w0,l,xs,rs,rfl,el,els,h4,hz,q⟩:=h
  refine⟨_,aA (pss 2 scT1.nd (cR aj))
   (aA (pss 3 scT1.nd (pv 0))
   (aA (cP zB5 rfl (ie (pv 1)) (bI rfl (aq (pgn 4 scT1.nd) (aq (pgn 5 scT1.nd) (aq (pgn 6 scT1.nd) (aq (pgn 7 scT1.nd) aY)))))
    (aA (pss 8 scT1.nd (aQ (dY rfl) rfl Tn boot_min (au (pv 7) (au (pv 3) aj))))
    (aA (cD (ou zBg zBf zBe dZ (pv 2) (au (pv 8) aj)))
    (aC (lC (i:=3) scT1.nd rfl (Or.inl rfl) (pv 8) yN)))))
   (aC (aU (pv 2))))),?_⟩
  refine aD (aX ?_);refine⟨zL,fun m hm=>?_⟩;refine aN ?_;dsimp only;refine aD (aX ?_);refine⟨_,rfl,?_⟩;refine aN ?_;dsimp only;refine aD ?_;have s1:=Same.upd (o:=.lst []) hm;have nl:l≠m:=aH el hm;refine⟨_,rfl,l,rfl,⟨_,SqL.of (s1 _ _ el)⟩,?_⟩;refine rJ (xs:=xs) (fun i σ Hc=>∃x4 x5 x6 x7 x8,σ=[some (.int w0),some (.ref l),some (.ref m),some (.int (w0-(cJ w0 (rs.take i)).sum)),x4,x5,x6,x7,x8]/\(∀b o,H b=some o->Hc b=some o)/\Hc m=some (.lst ((cJ w0 (rs.take i)).map V.int))) ?_ ?_ ?_ ?_
  .refine⟨none,none,none,none,none,?_,fun b o e=>s1 _ _ e,ao⟩;rw[List.take_zero,show(cJ w0 []).sum=0 from rfl,Int.sub_zero];rfl
  .rintro i σ Hc hi ⟨x4,x5,x6,x7,x8,rfl,k,em⟩;exact SqL.of (k _ _ el)
  .rintro i x σ Hc hx ⟨x4,x5,x6,x7,x8,rfl,k,em⟩
   have hi:i<rs.length:=by
    have:=(zAa.mp hx).1;rw[els.1]at this;exact this
   obtain⟨t,ex,et⟩:=els.2 i rs[i] (zA0 hi);rw[ex]at hx;cases hx;rw[dI (h4 _ (zAh hi))]at et;refine⟨t,_,rfl,SqT.of (k _ _ et),rfl,_,_,rfl,_,_,rfl,_,_,rfl,_,_,rfl,rfl,?_⟩;refine aD (aX ?_);refine⟨_,rfl,_,rfl,_,_,rfl,?_⟩;refine aN ?_;dsimp only;refine aD ?_;refine⟨_,rfl,.inl ⟨rfl,_,SqL.of em⟩,_,rfl,m,_,_,rfl,rfl,em,?_,?_⟩
   .rw[zA1,eO,zAd,sizeLine_eq];lia
   have df:rs.take (i+1)=rs.take i++[rs[i]]:=by rw[zAj,zA0 hi];rfl
   dsimp only;refine⟨_,rfl,_,rfl,_,_,rfl,rfl,some (.int (fl rs[i] 0)),some (.int (fl rs[i] 1)),some (.int (fl rs[i] 2)),some (.int (fl rs[i] 3)),some (.int (if w0-(cJ w0 (rs.take i)).sum<fl rs[i] 3 then w0-(cJ w0 (rs.take i)).sum else fl rs[i] 3)),?_,fun b o e=>?_,?_⟩
   .rw[df,iZ,List.sum_append,List.sum_cons,List.sum_nil,Int.add_zero,show ∀a b c:Int,a-(b+c)=a-b-c from fun a b c=>by lia];rfl
   .rw[aB (aH e hm)];exact k _ _ e
   .rw[ao,df,iZ,zA4];rfl
  .rintro σ Hc ⟨x4,x5,x6,x7,x8,rfl,k,em⟩;rw[show xs.length=rs.length from els.1,zAm]at em;exact⟨_,rfl,q m Hc (fun b o e=>k b o e) hm em⟩
theorem scT2:FnScope ["wool","claims","weights"] ["wool","claims"] (aK (top 46)):=fQS
theorem yo(F:Fun K "shares_of" "shares_of" (top 46) f fd)(T:Mg mg)(Ts:mg "sum"=none)(c1:Cal P w K mg base 6 "parted" ["sacks","weights"] K53P.spParts):FnOk P w K mg base CX0 7 f fd ["wool","claims"] tO:=by
 refine F.ok scT2 (fun vs H Q E h=>?_) (fun ar A outer s H vs Q E hr h=>?_)
 .obtain⟨w0,l,xs,rs,rfl,_⟩:=h;rfl
 .obtain⟨w0,l,xs,rs,rfl,el,els,h4,hz,hw,q⟩:=h
  refine⟨_,aA (pss 2 scT2.nd (bJ bA rfl T.tuple boot_tuple (au (bW (g:=lB K 4 (cB (bL 0) (cB (bL 1) (cB (bL 2) (cB (bL 3) mX))))) ["due","number","holder","sacks"] [none,none,none,none] rfl (ie (pv 1))
    (fun C fp Zt s₂ H₂=>⟨dU rfl rfl (aq (pgn 0 nd4) (aq (pgn 1 nd4) (aq (pgn 2 nd4) (aq (pgn 3 nd4) aY)))),cu,pv 3⟩) (fun C=>trivial) ⟨rfl,rfl,rfl,rfl⟩) aj)))
   (aC (aU (yJ (bx bH (aQ (eF rfl) rfl Ts boot_sum (au (pv 2) aj)) (pv 0) (bf _)) (pv 2) (aG c1 hr (au (pv 0) (au (pv 2) aj)))))),?_⟩
  refine aD (aX ?_);refine⟨_,rfl,l,rfl,⟨_,SqL.of el⟩,dJ rs.length (fun i ys σ Hc=>Same H Hc/\(∃o1 o2 o3 o4,σ=[o1,o2,o3,o4])/\ys=(wts (rs.take i)).map V.int) ⟨Same.refl H,⟨_,_,_,_,rfl⟩,rfl⟩ Zu ?_ ?_⟩
  .rintro i ys σ Hc hi hy ⟨s1,⟨o1,o2,o3,o4,rfl⟩,rfl⟩;obtain⟨t,ex,et⟩:=els.2 i rs[i] (zA0 hi);rw[dI (h4 _ (zAh hi)).1]at et;refine⟨⟨_,_,SqL.of (s1 _ _ el),ex⟩,fun v H' y R hR=>?_⟩;obtain⟨rfl,y⟩:=y;have hv:=y _ (SqL.of (s1 _ _ el));rw[ex]at hv;cases hv;refine⟨t,_,rfl,SqT.of (s1 _ _ et),rfl,_,_,rfl,_,_,rfl,_,_,rfl,_,_,rfl,rfl,_,rfl,hR _ _ _ ⟨s1,⟨_,_,_,_,rfl⟩,?_⟩⟩;unfold wts;rw[zAj,zA0 hi,zA4,zA4];rfl
  .rintro ys σ Hc hy ⟨s1,_,rfl⟩;refine⟨⟨_,SqL.of (s1 _ _ el),by rw[els.1];exact zA3 _⟩,fun D hD=>?_⟩;rw[zAm];refine⟨D,_,rfl,.inl ⟨SqL.of ao,fun t ht=>?_⟩⟩;have s2:=(s1.updR (o:=.lst ((wts rs).map V.int)) hD).updR (o:=.tup ((wts rs).map V.int)) ht;have et:=ao (H:=upd Hc D (.lst ((wts rs).map V.int))) (a:=t) (o:=.tup ((wts rs).map V.int));generalize upd (upd Hc D (.lst ((wts rs).map V.int))) t (.tup ((wts rs).map V.int))=H2 at s2 et⊢;refine aN ?_;dsimp only;refine⟨_,rfl,t,wts rs,rfl,.inr (SqT.of et),_,rfl,_,_,rfl,rfl,_,rfl,?_⟩;by_cases hs:(wts rs).sum<=w0
   .rw[zAt hs];refine bN ⟨_,rfl,q t H2 s2 ?_⟩;unfold bu;rw[zAv hs];exact et
   .rw[zB1 hs];refine bF ⟨_,rfl,_,rfl,w0,t,wts rs,rfl,et,⟨?_,?_,fun x hx=>?_⟩,hw,Zz,fun H3 t3 s3 e3=>q t3 H3 (s2.trans s3) ?_⟩
    .cases oI:rs with
     |nil=>
      rw[oI]at hs;exact absurd hw hs
     |cons r oP=>
      unfold wts;rw[zA1,zAe];lia
    .unfold wts;rw[zA1];exact hz
    .obtain⟨r,oI,rfl⟩:=zA5.mp hx;exact(h4 r oI).2
    .unfold bu;rw[zAu hs];exact e3
theorem fO{J:It}{g:TG}{tt:TT}{te:TE}{c9:St}{H0:Hp}{Fin:List V->Hp->Prop}(n:Nat)(Pv:Nat->List V->St->Hp->Prop)(h0:Pv 0 [] c9 H0)(hz:n<sizeLine)
  (step:∀i ys σ H,i<n->ys.length<=i->Pv i ys σ H->J.go i H/\∀x H',J.yld i H x H'->∀R:List V->St->Hp->Prop,(∀f6 aE H4,f6.length<=i+1->Pv (i+1) f6 aE H4->R f6 aE H4)->g x σ H' fun aE H2=>tt aE H2 fun b H3=>if b=true then te aE H3 fun y H4=>R (ys++[y]) aE H4 else R ys aE H3)
  (fin:∀ys σ H,ys.length<=n->Pv n ys σ H->J.stop n H/\Fin ys H):jV J g tt te Fin c9 H0:=by
 refine⟨fun i m ys σ H=>m=n-i/\i<=n/\ys.length<=i/\Pv i ys σ H,⟨_,rfl,zAp _,zA3 _,h0⟩,?_⟩;rintro i m ys σ H ⟨rfl,hi,hy,p⟩;refine⟨Zz,?_⟩;by_cases aI:i<n
 .obtain⟨go,st⟩:=step i ys σ H aI hy p;exact .inr ⟨go,fun x H' y=>st x H' y (fun f6 aE H4=>∃m',m'<n-i/\m'=n-(i+1)/\i+1<=n/\f6.length<=i+1/\Pv (i+1) f6 aE H4) fun f6 aE H4 l2 p2=>⟨n-(i+1),Zz,rfl,aI,l2,p2⟩⟩
 .have e:i=n:=Zz
  subst e;exact .inl (fin ys σ H hy p)
def eZ(P:List (List Int×Int)):List (List Int):=(P.filter fun p=>decide (0<p.2)).map fun p=>[fl p.1 0,fl p.1 1,fl p.1 2,p.2]
def cO(P:List (List Int×Int)):List (List Int):=(P.filter fun p=>decide (p.2<fl p.1 3)).map fun p=>[fl p.1 0,fl p.1 1,fl p.1 2,fl p.1 3-p.2]
theorem oY(P:List (List Int×Int))(p:List Int×Int):eZ (P++[p])=eZ P++(if 0<p.2 then[[fl p.1 0,fl p.1 1,fl p.1 2,p.2]]else[]):=by
 unfold eZ;rw[List.filter_append,zA4];congr 1;by_cases h:0<p.2
 .rw[zAv h,zBa (p:=fun(p:List Int×Int)=>decide (0<p.2)) (zAt h)];rfl
 .rw[zAu h,zB9 (p:=fun(p:List Int×Int)=>decide (0<p.2)) (by rw[Zp];exact h)];rfl
theorem mK(P:List (List Int×Int))(p:List Int×Int):cO (P++[p])=cO P++(if p.2<fl p.1 3 then[[fl p.1 0,fl p.1 1,fl p.1 2,fl p.1 3-p.2]]else[]):=by
 unfold cO;rw[List.filter_append,zA4];congr 1;by_cases h:p.2<fl p.1 3
 .rw[zAv h,zBa (p:=fun(p:List Int×Int)=>decide (p.2<fl p.1 3)) (zAt h)];rfl
 .rw[zAu h,zB9 (p:=fun(p:List Int×Int)=>decide (p.2<fl p.1 3)) (by rw[Zp];exact h)];rfl
theorem shares_len{w:Int}{rs:List (List Int)}:(bu w rs).length=rs.length:=by
 unfold bu;split
 .unfold wts;rw[zA1]
 .rw[K53P.res_len];unfold wts;rw[zA1]
def shr(w:Int)(cl ow:List (List Int)):List Int:=bu w cl++cJ (w-(bu w cl).sum) ow
inductive SpSortI(vs:List V)(H:Hp)(Q:VK):Prop
 |mk:∀w lc xc cl lo xo ow,(vs=[.int w,.ref lc,.ref lo])->(H lc=some (.lst xc))->(Els H xc cl)->((∀r∈cl,r.length=4/\1<=fl r 3/\fl r 3<=99))->(cl.length<=80)->(0<=w)->(H lo=some (.lst xo))->(Els H xo ow)->((∀r∈ow,r.length=4))->(ow.length<=30000)->(∀t g k xg xk H',Same H H'->H' t=some (.tup [.ref g,.ref k])->H g=none->H k=none->H' g=some (.lst xg)->Els H' xg (eZ ((cl++ow).zip (shr w cl ow)))->H' k=some (.lst xk)->Els H' xk (cO ((cl++ow).zip (shr w cl ow)))->Q (.ref t) H')->SpSortI  vs H Q
def Ac:Sp:=fun vs H Q _=>SpSortI  vs H Q
theorem jY:bootBuiltins "list"=some (.type "list"):=by decide +kernel
theorem nd5:(["due","number","holder","sacks","share"]:List Str).Nodup:=by decide +kernel
theorem scU1:FnScope ["wool","claims","owed","shares","rows","gifts","lacking"] ["wool","claims","owed"] (aK (top 48)):=fQS
theorem Ad(F:Fun K "sort_given" "sort_given" (top 48) f fd)(Ts:mg "sum"=none)(Tl:mg "list"=none)(Tz:mg "zip"=none)(c1:Cal P w K mg base 7 "shares_of" ["wool","claims"] tO)(c2:Cal P w K mg base 1 "made_good" ["wool","owed"] Ab):FnOk P w K mg base CX0 8 f fd ["wool","claims","owed"] Ac:=by
 refine F.ok scU1 (fun vs H Q E h=>?_) (fun ar A outer s H vs Q E hr h=>?_)
 .obtain⟨w0,lc,xc,cl,lo,xo,ow,rfl,_⟩:=h;rfl
 .obtain⟨w0,lc,xc,cl,lo,xo,ow,rfl,ec,vF,HM,LC,hw,eo,kF,HP,LD,q⟩:=h
  refine⟨_,aA (pss 3 scU1.nd (bJ j0 rfl Tl jY (au (aG c1 hr (au (pv 0) (au (pv 1) aj))) aj)))
   (aA (pss 4 scU1.nd (aR yW (pv 1) (pv 2)))
   (aA (lC (i:=3) scU1.nd rfl (Or.inl rfl) (aG c2 hr (au (aR cN (pv 0) (aQ (eF rfl) rfl Ts boot_sum (au (pv 3) aj))) (au (pv 2) aj))) qH)
   (aA (j5 (g:=lB K 2 (cB (lB K 4 (cB (bL 0) (cB (bL 1) (cB (bL 2) (cB (bL 3) mX))))) (cB (bL 4) mX))) (i:=5) ["due","number","holder","sacks","share"] [none,none,none,none,none] rfl scU1.nd rfl (Or.inl rfl) (ZT.pi_zip false false rfl Tz (au (pv 4) (au (pv 3) aj))) (fun C fp Zt s₂ H₂=>⟨dU rfl rfl (aq (dU rfl rfl (aq (pgn 0 nd5) (aq (pgn 1 nd5) (aq (pgn 2 nd5) (aq (pgn 3 nd5) aY))))) (aq (pgn 4 nd5) aY)),ir (bx lE (pv 4) az (bf _)),bT (au (pv 0) (au (pv 1) (au (pv 2) (au (pv 4) aj))))⟩) (fun C=>trivial) ⟨rfl,rfl,rfl,rfl⟩)
   (aA (j5 (g:=lB K 2 (cB (lB K 4 (cB (bL 0) (cB (bL 1) (cB (bL 2) (cB (bL 3) mX))))) (cB (bL 4) mX))) (i:=6) ["due","number","holder","sacks","share"] [none,none,none,none,none] rfl scU1.nd rfl (Or.inl rfl) (ZT.pi_zip false false rfl Tz (au (pv 4) (au (pv 3) aj))) (fun C fp Zt s₂ H₂=>⟨dU rfl rfl (aq (dU rfl rfl (aq (pgn 0 nd5) (aq (pgn 1 nd5) (aq (pgn 2 nd5) (aq (pgn 3 nd5) aY))))) (aq (pgn 4 nd5) aY)),ir (bx lE (pv 3) (pv 4) (bf _)),bT (au (pv 0) (au (pv 1) (au (pv 2) (au (aR cN (pv 3) (pv 4)) aj))))⟩) (fun C=>trivial) ⟨rfl,rfl,rfl,rfl⟩)
   (aC (aU (bT (au (pv 5) (au (pv 6) aj))))))))),?_⟩
  refine iu fun c_ dQ=>?_;refine aX ?_;refine⟨_,rfl,_,rfl,w0,lc,xc,cl,rfl,ec,vF,HM,LC,hw,fun t H1 s1 et=>⟨t,_,rfl,.inr (SqT.of et),fun ls HU=>?_⟩⟩;have s2:=s1.updR (o:=.lst ((bu w0 cl).map V.int)) HU;have oQ:H ls=none:=s1.free HU;have els:=ao (H:=H1) (a:=ls) (o:=.lst ((bu w0 cl).map V.int));generalize upd H1 ls (.lst ((bu w0 cl).map V.int))=H2 at s2 els⊢;refine aN ?_;refine dQ _ _ ?_;clear dQ c_
  try dsimp only
  refine iu fun c_ dQ=>?_;refine aX ?_;refine⟨_,rfl,_,rfl,lc,lo,xc,xo,rfl,rfl,s2 _ _ ec,s2 _ _ eo,by rw[vF.1,kF.1,sizeLine_eq];lia,fun lr gs=>?_⟩;have s3:=s2.updR (o:=.lst (xc++xo)) gs;have QI:H lr=none:=s2.free gs;have cw:=Same.upd (o:=.lst (xc++xo)) gs _ _ els;have CI:=ao (H:=H2) (a:=lr) (o:=.lst (xc++xo))
  have LF:lr≠ls:=fun z=>by rw[z,els]at gs;cases gs
  generalize upd H2 lr (.lst (xc++xo))=H3 at s3 cw CI⊢;refine aN ?_;refine dQ _ _ ?_;clear dQ c_
  try dsimp only
  refine iu fun c_ dQ=>?_;refine⟨_,rfl,_,rfl,_,rfl,ls,bu w0 cl,rfl,.inl (SqL.of cw),_,_,rfl,rfl,_,rfl,_,lo,xo,ow,rfl,s3 _ _ eo,kF.same s3,HP,Zz,fun m H4 s4 nm em=>?_⟩;refine⟨ls,m,_,_,rfl,rfl,s4 _ _ cw,em,by rw[zA1,zA1,shares_len,eO,sizeLine_eq];lia,?_⟩;have HV:(bu w0 cl).map V.int++(cJ (w0-(bu w0 cl).sum) ow).map V.int=(shr w0 cl ow).map V.int:=by unfold shr;rw[zA4]
  rw[HV]
  have oS:(shr w0 cl ow).length=(cl++ow).length:=by
   unfold shr;rw[zA2,zA2,shares_len,eO]
  generalize shr w0 cl ow=SH at q oS;refine dQ _ _ ?_;clear dQ c_
  try dsimp only
  have k5:Same H (upd H4 ls (.lst (SH.map V.int))):=fun b o e=>by
   rw[aB (aH e oQ)];exact s4 _ _ (s3 _ _ e)
  have hZ:=ao (H:=H4) (a:=ls) (o:=.lst (SH.map V.int));have fx:upd H4 ls (.lst (SH.map V.int)) lr=some (.lst (xc++xo)):=by rw[aB LF];exact s4 _ _ CI
  generalize upd H4 ls (.lst (SH.map V.int))=H5 at k5 hZ fx⊢;have rj:Els H (xc++xo) (cl++ow):=vF.app kF;have HZ:∀r∈cl++ow,r.length=4:=fun r hr=>(zA6.mp hr).elim (fun z=>(HM r z).1) (HP r);have LG:(cl++ow).length<=40000:=by rw[zA2];lia
  generalize xc++xo=xr at fx rj;generalize cl++ow=rr at q oS rj HZ LG;clear els cw CI HV s1 s2 s3 s4 em et
  obtain⟨ZP,zt⟩:∃ZP,ZP=rr.zip SH:=⟨_,rfl⟩
  rw[<-zt]at q;have kG:ZP.length=rr.length:=by rw[zt,zAs,oS,Nat.min_self]
  have oT:∀i (h:i<ZP.length),rr[i]?=some ZP[i].1:=fun i h=>by
   have hi:i<rr.length:=Zz
   rw[zA0 hi];congr 1;simp only[zt,List.getElem_zip]
  have vS:∀i (h:i<ZP.length),SH[i]?=some ZP[i].2:=fun i h=>by
   have hi:i<SH.length:=Zz
   rw[zA0 hi];congr 1;simp only[zt,List.getElem_zip]
  have vT:∀i (h:i<ZP.length),(ZP[i].1).length=4:=fun i h=>HZ _ (zB8 (oT i h));refine iu fun c_ dQ=>?_;refine⟨_,rfl,_,rfl,lr,ls,xr,_,rfl,SqL.of fx,SqL.of hZ,fO rr.length (fun i ys σ Hc=>Same H5 Hc/\(∃o1 o2 o3 o4 o5,σ=[o1,o2,o3,o4,o5])/\Els Hc ys (eZ (ZP.take i))) ⟨Same.refl _,⟨_,_,_,_,_,rfl⟩,Els.nil⟩ Zu ?_ ?_⟩
  .rintro i ys σ Hc hi hy ⟨sc,⟨o1,o2,o3,o4,o5,rfl⟩,ht⟩;have hP:i<ZP.length:=by rw[kG];exact hi
   obtain⟨tr,ex,et⟩:=rj.2 i ZP[i].1 (oT i hP);have er:SqL K Hc lr xr:=SqL.of (sc _ _ fx);have es:SqL K Hc ls (SH.map V.int):=SqL.of (sc _ _ hZ);have rh:(SH.map V.int)[i]?=some (.int ZP[i].2):=by rw[zAb,vS i hP];rfl
   have df:ZP.take (i+1)=ZP.take i++[ZP[i]]:=by rw[zAj,zA0 hP];rfl
   have wa:=sc _ _ (k5 _ _ et);rw[dI (vT i hP)]at wa;refine⟨⟨_,_,_,_,er,es,ex,rh⟩,fun x H' yv R hR=>?_⟩;obtain⟨T0,nT,rfl,yv⟩:=yv;obtain⟨x',y',oB,pb,rfl⟩:=yv _ _ er es;rw[ex]at oB;cases oB;rw[rh]at pb;cases pb;have mm:=sc.updR (o:=.tup [.ref tr,.int ZP[i].2]) nT;refine⟨T0,_,rfl,SqT.of ao,rfl,_,_,rfl,?_⟩;refine⟨tr,_,rfl,SqT.of (Same.upd nT _ _ wa),rfl,_,_,rfl,_,_,rfl,_,_,rfl,_,_,rfl,rfl,?_⟩;refine⟨_,_,rfl,rfl,?_⟩;refine⟨_,rfl,_,_,rfl,rfl,_,rfl,?_⟩;by_cases bg:0<ZP[i].2
   .rw[zAt bg];refine bN ⟨_,rfl,_,rfl,_,rfl,_,rfl,zL,fun t fT=>hR _ _ _ (by rw[zA2];show ys.length+1<=i+1;lia) ⟨mm.updR fT,⟨_,_,_,_,_,rfl⟩,?_⟩⟩;rw[df,oY,zAv bg];exact(((ht.same (Same.upd nT)).same (Same.upd fT))).app (Els.one ao)
   .rw[zB1 bg];refine bF (hR _ _ _ Zz ⟨mm,⟨_,_,_,_,_,rfl⟩,?_⟩);rw[df,oY,zAu bg,zAn];exact ht.same (Same.upd nT)
  rintro ys σ Hc hy ⟨sc,_,ht⟩;rw[<-kG,zAm]at ht;refine⟨⟨_,SqL.of (sc _ _ fx),by rw[rj.1];exact zA3 _⟩,fun g hg=>?_⟩;have k6:=(k5.trans sc).updR (o:=.lst ys) hg;have ng:H g=none:=(k5.trans sc).free hg;have eg:=ao (H:=Hc) (a:=g) (o:=.lst ys);have gL:=ht.same (Same.upd (o:=.lst ys) hg);have kH:=Same.upd (o:=.lst ys) hg _ _ (sc _ _ fx);have pd:=Same.upd (o:=.lst ys) hg _ _ (sc _ _ hZ);generalize upd Hc g (.lst ys)=H6 at k6 eg gL kH pd⊢;clear sc ht hy hZ fx k5;refine dQ _ _ ?_;clear dQ c_
  try dsimp only
  refine iu fun c_ dQ=>?_;refine⟨_,rfl,_,rfl,lr,ls,xr,_,rfl,SqL.of kH,SqL.of pd,fO rr.length (fun i ys σ Hc=>Same H6 Hc/\(∃o1 o2 o3 o4 o5,σ=[o1,o2,o3,o4,o5])/\Els Hc ys (cO (ZP.take i))) ⟨Same.refl _,⟨_,_,_,_,_,rfl⟩,Els.nil⟩ Zu ?_ ?_⟩
  .rintro i ys σ Hc hi hy ⟨sc,⟨o1,o2,o3,o4,o5,rfl⟩,ht⟩;have hP:i<ZP.length:=by rw[kG];exact hi
   obtain⟨tr,ex,et⟩:=rj.2 i ZP[i].1 (oT i hP);have er:SqL K Hc lr xr:=SqL.of (sc _ _ kH);have es:SqL K Hc ls (SH.map V.int):=SqL.of (sc _ _ pd);have rh:(SH.map V.int)[i]?=some (.int ZP[i].2):=by rw[zAb,vS i hP];rfl
   have df:ZP.take (i+1)=ZP.take i++[ZP[i]]:=by rw[zAj,zA0 hP];rfl
   have wa:=sc _ _ (k6 _ _ et);rw[dI (vT i hP)]at wa;refine⟨⟨_,_,_,_,er,es,ex,rh⟩,fun x H' yv R hR=>?_⟩;obtain⟨T0,nT,rfl,yv⟩:=yv;obtain⟨x',y',oB,pb,rfl⟩:=yv _ _ er es;rw[ex]at oB;cases oB;rw[rh]at pb;cases pb;have mm:=sc.updR (o:=.tup [.ref tr,.int ZP[i].2]) nT;refine⟨T0,_,rfl,SqT.of ao,rfl,_,_,rfl,?_⟩;refine⟨tr,_,rfl,SqT.of (Same.upd nT _ _ wa),rfl,_,_,rfl,_,_,rfl,_,_,rfl,_,_,rfl,rfl,?_⟩;refine⟨_,_,rfl,rfl,?_⟩;refine⟨_,rfl,_,rfl,_,_,rfl,rfl,_,rfl,?_⟩;by_cases bg:ZP[i].2<fl ZP[i].1 3
   .rw[zAt bg];refine bN ⟨_,rfl,_,rfl,_,rfl,_,rfl,_,rfl,_,_,rfl,rfl,zL,fun t fT=>hR _ _ _ (by rw[zA2];show ys.length+1<=i+1;lia) ⟨mm.updR fT,⟨_,_,_,_,_,rfl⟩,?_⟩⟩;rw[df,mK,zAv bg];exact(((ht.same (Same.upd nT)).same (Same.upd fT))).app (Els.one ao)
   .rw[zB1 bg];refine bF (hR _ _ _ Zz ⟨mm,⟨_,_,_,_,_,rfl⟩,?_⟩);rw[df,mK,zAu bg,zAn];exact ht.same (Same.upd nT)
  rintro CL σ Hc hy ⟨sc,_,ht⟩;rw[<-kG,zAm]at ht;refine⟨⟨_,SqL.of (sc _ _ kH),by rw[rj.1];exact zA3 _⟩,fun k hk=>?_⟩;have k7:=(k6.trans sc).updR (o:=.lst CL) hk;have nk:H k=none:=(k6.trans sc).free hk;have sk:=Same.upd (o:=.lst CL) hk;refine dQ _ _ ?_;clear dQ c_
  try dsimp only
  refine⟨_,rfl,_,rfl,zL,fun t fT=>?_⟩;have st:=Same.upd (o:=.tup [.ref g,.ref k]) fT;exact q t g k ys CL _ (k7.trans st) ao ng nk (st _ _ (sk _ _ (sc _ _ eg))) (((gL.same sc).same sk).same st) (st _ _ ao) ((ht.same sk).same st)
def fG(L:List Int)(i:Nat):List (List Int):=((List.range i).filter fun h=>decide (0<L.getD h 0)).map fun(h:Nat)=>[(h:Int),L.getD h 0]
theorem jZ(L:List Int)(i:Nat):fG L (i+1)=fG L i++(if 0<L.getD i 0 then[[(i:Int),L.getD i 0]]else[]):=by
 unfold fG;rw[List.range_succ,List.filter_append,zA4];congr 1;by_cases h:0<L.getD i 0
 .rw[zAv h,zBa (p:=fun h=>decide (0<L.getD h 0)) (zAt h)];rfl
 .rw[zAu h,zB9 (p:=fun h=>decide (0<L.getD h 0)) (by rw[Zp];exact h)];rfl
theorem uY(L:List Int)(i:Nat):(fG L i).length<=i:=by
 unfold fG;rw[zA1];have:=List.length_filter_le (fun h=>decide (0<L.getD h 0)) (List.range i);rw[List.length_range]at this;exact this
def jq(ps ss:List (List Int))(sort year:Int)(n:Nat):List (List Int):=if fl (ps.getD n []) 1=sort then(fG (bD (ps.getD n []) ss n year) 8).map (fun r=>year::(n:Int)::r)else[]
def gn(ps ss:List (List Int))(sort year:Int):Nat->List (List Int)
 |0=>[]
 |k+1=>gn ps ss sort year k++jq ps ss sort year k
def aJ(ps ss:List (List Int))(sort year:Int):List (List Int):=gn ps ss sort year ps.length
theorem Ae(ps ss:List (List Int))(sort year:Int)(n:Nat):(jq ps ss sort year n).length<=8:=by
 unfold jq;split
 .rw[zA1];exact uY _ 8
 .exact zAp _
theorem mL(ps ss:List (List Int))(sort year:Int):∀k,(gn ps ss sort year k).length<=8*k
 |0=>zA3 _
 |k+1=>by
  unfold gn;rw[zA2];have:=mL ps ss sort year k;have:=Ae ps ss sort year k;lia
inductive SpClaimsI(vs:List V)(H:Hp)(Q:VK):Prop
 |mk:∀ap xp ps af xs ss sort year,(vs=[.ref ap,.ref af,.int sort,.int year])->(RowsAt H ap xp ps)->(ps.length<=10)->((∀r∈ps,okP r))->(RowsAt H af xs ss)->(ss.length<=12)->((∀s∈ss,okS s))->(∀l xl H',Same H H'->H l=none->H' l=some (.lst xl)->Els H' xl (aJ ps ss sort year)->Q (.ref l) H')->SpClaimsI  vs H Q
def tQ:Sp:=fun vs H Q _=>SpClaimsI  vs H Q
theorem ndV:(["holder","sacks","year","number"]:List Str).Nodup:=by decide +kernel
theorem scV1:FnScope ["promises","sales","sort","year","claims","number","promise","held"] ["promises","sales","sort","year"] (aK (top 45)):=fQS
theorem yp(F:Fun K "claims_in" "claims_in" (top 45) f fd)(Te:mg "enumerate"=none)(c1:Cal P w K mg base 1 "held_in" ["promises","sales","number","year"] uW):FnOk P w K mg base CX0 2 f fd ["promises","sales","sort","year"] tQ:=by
 refine F.ok scV1 (fun vs H Q E h=>?_) (fun ar A outer s H vs Q E hr h=>?_)
 .obtain⟨ap,xp,ps,af,xs,ss,sort,year,rfl,_⟩:=h;rfl
 .obtain⟨ap,xp,ps,af,xs,ss,sort,year,rfl,rp,lp,okp,rs,ls,cc,q⟩:=h
  refine⟨_,aA (pss 4 scV1.nd (cR aj))
   (aA (cP zB5 rfl (ZT.pi_enum true rfl Te (au (pv 0) aj)) (bI rfl (aq (bQ (i:=5) scV1.nd rfl (Or.inr rfl)) (aq (pgn 6 scV1.nd) aY)))
    (aC (bY (bx rK (pX bK (pv 6) az) (pv 2) (bf _))
     (aA (pss 7 scV1.nd (aG c1 hr (au (pv 0) (au (pv 1) (au (pv 5) (au (pv 3) aj))))))
     (aC (lC (i:=4) scV1.nd rfl (Or.inl rfl) (bW (g:=lB K 2 (cB (bL 0) (cB (bL 1) mX))) ["holder","sacks","year","number"] [none,none,some 3,some 5] rfl (ZT.pi_enum false rfl Te (au (pv 7) aj))
      (fun C fp Zt s₂ H₂=>⟨dU rfl rfl (aq (pgn 0 ndV) (aq (pgn 1 ndV) aY)),ir (bx lE (pv 1) az (bf _)),bT (au (pv 2) (au (pv 3) (au (pv 0) (au (pv 1) aj))))⟩)
      (fun C=>cI (cI trivial)) ⟨rfl,rfl,rfl,rfl⟩) qH))) bh)))
   (aC (aU (pv 4)))),?_⟩
  refine aD (aX ?_);refine⟨zL,fun l hl=>?_⟩;refine aN ?_;dsimp only;refine aD ?_;have s0:=Same.upd (o:=.lst []) hl;refine⟨_,rfl,ap,xp,rfl,SqT.of (s0 _ _ rp.e),?_⟩;refine ZT.for_enum true (xs:=xp) (fun i σ Hc=>∃x5 x6 x7 xl,σ=[some (.ref ap),some (.ref af),some (.int sort),some (.int year),some (.ref l),x5,x6,x7]/\(∀b o,H b=some o->Hc b=some o)/\Hc l=some (.lst xl)/\Els Hc xl (gn ps ss sort year i)) ?_ ?_ ?_ ?_
  .exact⟨none,none,none,[],rfl,fun b o e=>s0 _ _ e,ao,Els.nil⟩
  .rintro i σ Hc hi ⟨x5,x6,x7,xl,rfl,k,el,ht⟩;exact SqT.of (k _ _ rp.e)
  .rintro i x σ Hc T0 hx ⟨x5,x6,x7,xl,rfl,k,el,ht⟩ nT
   have hi:i<ps.length:=by
    have:=(zAa.mp hx).1;rw[rp.l]at this;exact this
   obtain⟨tr,fI,dE⟩:=rp.g i ps[i] (zA0 hi)
   have:x=.ref tr:=by
    rw[hx]at fI;exact zAl fI
   subst this;have op:=okp ps[i] (zAh hi);have ep:ps.getD i []=ps[i]:=getD_get hi;rw[dW op.1]at dE;have sT:=Same.upd (o:=.tup [V.int i,V.ref tr]) nT;have kT:Same H (upd Hc T0 (.tup [V.int i,V.ref tr])):=fun b o e=>sT _ _ (k _ _ e);have CM:=sT _ _ el;have CO:=ht.same sT;have eT:=ao (H:=Hc) (a:=T0) (o:=.tup [V.int i,V.ref tr]);generalize upd Hc T0 (.tup [V.int i,V.ref tr])=H1 at kT CM CO eT⊢;refine⟨T0,_,rfl,SqT.of eT,rfl,_,_,rfl,_,_,rfl,rfl,?_⟩;refine⟨_,rfl,tr,_,1,.int (fl ps[i] 1),rfl,rfl,SqT.of (kT _ _ dE),rfl,_,rfl,rfl,_,rfl,?_⟩;by_cases hs:fl ps[i] 1=sort
   .rw[zAt (by rw[hs])];refine bN (aD ?_);refine aX ?_;refine⟨_,rfl,_,rfl,_,rfl,_,rfl,ap,xp,ps,af,xs,ss,i,year,rfl,rp.same kT,rs.same kT,Zz,Zz,by rw[zAi,ep];exact op,ls,cc,fun hd H2 s2 e2=>?_⟩;rw[zAi,ep]at e2;have LH:=eG ps[i] ss i year
    have Ic:jq ps ss sort year i=(fG (bD ps[i] ss i year) 8).map (fun r=>year::(i:Int)::r):=by
     unfold jq;rw[ep,zAv hs]
    generalize bD ps[i] ss i year=L at e2 LH Ic;have k2:=kT.trans s2;have el2:=s2 _ _ CM;have rq:=CO.same s2;refine aN ?_;dsimp only;refine⟨_,rfl,_,rfl,hd,_,rfl,SqL.of e2,fO 8 (fun j ys σ Hj=>Same H2 Hj/\(∃o1 o2,σ=[o1,o2,some (.int year),some (.int i)])/\Els Hj ys ((fG L j).map (fun r=>year::(i:Int)::r))) ⟨Same.refl _,⟨_,_,rfl⟩,Els.nil⟩ (by rw[sizeLine_eq];decide) ?_ ?_⟩
    .rintro j ys σ Hj hj hy ⟨sc,⟨o1,o2,rfl⟩,pe⟩;have mh:SqL K Hj hd (L.map V.int):=SqL.of (sc _ _ e2)
     have Iq:(L.map V.int)[j]?=some (.int (L.getD j 0)):=by
      have cm:j<L.length:=Zz
      rw[zAb,zA7,zA0 cm];rfl
     refine⟨⟨_,_,mh,Iq⟩,fun x H' yv R hR=>?_⟩;obtain⟨T1,CU,rfl,yv⟩:=yv;obtain⟨x',jS,rfl⟩:=yv _ mh;rw[Iq]at jS;cases jS;have mm:=sc.updR (o:=.tup [.int (j:Int),.int (L.getD j 0)]) CU;refine⟨T1,_,rfl,SqT.of ao,rfl,_,_,rfl,_,_,rfl,rfl,?_⟩;refine⟨_,rfl,_,_,rfl,rfl,_,rfl,?_⟩;by_cases bg:0<L.getD j 0
     .rw[zAt bg];refine bN ⟨_,rfl,_,rfl,_,rfl,_,rfl,zL,fun t fT=>hR _ _ _ (by rw[zA2];show ys.length+1<=j+1;lia) ⟨mm.updR fT,⟨_,_,rfl⟩,?_⟩⟩;rw[jZ,zAv bg,zA4];exact((pe.same (Same.upd CU)).same (Same.upd fT)).app (Els.one ao)
     .rw[zB1 bg];refine bF (hR _ _ _ Zz ⟨mm,⟨_,_,rfl⟩,?_⟩);rw[jZ,zAu bg,zAn];exact pe.same (Same.upd CU)
    .rintro ys σ Hj hy ⟨sc,_,pe⟩;refine⟨⟨_,SqL.of (sc _ _ e2),by rw[zA1];lia⟩,fun D hD=>?_⟩;have sD:=sc.updR (o:=.lst ys) hD
     have nD:D≠l:=fun z=>by rw[z,sc _ _ el2]at hD;cases hD
     have ll:=mL ps ss sort year i;have:=ht.1;refine⟨l,D,xl,ys,rfl,rfl,sD _ _ el2,ao,by rw[sizeLine_eq];lia,?_⟩;refine⟨_,_,_,xl++ys,rfl,fun b o e=>?_,ao,?_⟩
     .rw[aB (aH e hl)];exact sD _ _ (k2 _ _ e)
     .have e3:=(rq.same sD).app (pe.same (Same.upd (o:=.lst ys) hD));rw[<-Ic]at e3;refine e3.keep fun b z e=>?_;rw[aB fun w=>by rw[w,sD _ _ el2]at e;cases e];exact e
   .rw[zB1 (fun z=>hs (by injection z))];refine bF ?_;refine⟨_,_,_,xl,rfl,fun b o e=>kT _ _ e,CM,?_⟩
    have:gn ps ss sort year (i+1)=gn ps ss sort year i:=by
     show gn ps ss sort year i++jq ps ss sort year i=_;unfold jq;rw[ep,zAu hs,zAn]
    rw[this];exact CO
  .rintro σ Hc ⟨x5,x6,x7,xl,rfl,k,el,ht⟩;rw[show xp.length=ps.length from rp.l]at ht;exact⟨_,rfl,q l xl Hc (fun b o e=>k b o e) hl el ht⟩
theorem sum_set:∀(L:List Int) (i:Nat) (a:Int),i<L.length->(L.set i a).sum=L.sum-L.getD i 0+a
 |[],i,a,h=>by simp at h
 |x::L,0,a,h=>by
  rw[List.set_cons_zero,List.sum_cons,List.sum_cons,List.getD_cons_zero];lia
 |x::L,i+1,a,h=>by
  rw[List.set_cons_succ,List.sum_cons,List.sum_cons,List.getD_cons_succ,sum_set L i a (by simpa using h)];lia
theorem tR{L:List Int}{i v:Int}(h:i.toNat<L.length):(iY L i v).sum=L.sum+v:=by
 unfold iY;rw[sum_set _ _ _ h];lia
theorem gm:∀{L:List Int},(∀x∈L,0<=x)->0<=L.sum/\∀x∈L,x<=L.sum
 |[],_=>⟨Int.le_refl _,fun x hx=>by cases hx⟩
 |y::L,h=>by
  obtain⟨h1,h2⟩:=gm (L:=L) fun x hx=>h x (.tail _ hx);have hy:=h y (.head _);rw[List.sum_cons];refine⟨Zz,fun x hx=>?_⟩;rcases zAo.mp hx with z|z
  .lia
  .have:=h2 x z;lia
theorem jr{L:List Int}(h:∀x∈L,0<=x)(i:Nat):0<=L.getD i 0:=by
 rw[zA7]
 cases e:L[i]? with
 |none=>exact Int.le_refl _
 |some y=>exact h y (zB8 e)
theorem wu{L:List Int}{i v:Int}(h:∀x∈L,0<=x)(hv:0<=L.getD i.toNat 0+v):∀x∈iY L i v,0<=x:=by
 intro x hx;unfold iY at hx;rcases List.mem_or_eq_of_mem_set hx with z|z
 .exact h x z
 .rw[z];exact hv
theorem mO{ps ss:List (List Int)}(h:un ps ss=none):∀j,j<ss.length->bR ps (ss.take j) (ss.getD j [])=true:=fun j hj=>by
 unfold un at h;have:=List.find?_eq_none.mp h j (List.mem_range.mpr hj);simpa using this
theorem Cy{ps ss:List (List Int)}{n:Nat}{y:Int}(hu:un ps ss=none)(h5:∀s∈ss,s.length=5)(op:okP (ps.getD n [])):
  ∀k,k<=ss.length->(∀x∈bD (ps.getD n []) (ss.take k) n y,0<=x)/\(bD (ps.getD n []) (ss.take k) n y).sum<=99:=by
 intro k;by_cases hy:fl (ps.getD n []) 2<=y/\y<=fl (ps.getD n []) 3
 .obtain⟨_,⟨a1,a2⟩,_,_,⟨e1,e2⟩,_⟩:=id op
  induction k with
  |zero=>
   intro _;rw[List.take_zero];unfold bD;rw[zAv hy];show(∀x∈base0 (ps.getD n []),0<=x)/\(base0 (ps.getD n [])).sum<=99;unfold base0;refine⟨fun x hx=>?_,?_⟩
   .rcases List.mem_or_eq_of_mem_set hx with z|z
    .rw[List.eq_of_mem_replicate z];exact Int.le_refl _
    .lia
   .rw[sum_set _ _ _ (by rw[List.length_replicate];lia)];have:(List.replicate 8 (0:Int)).sum=0:=rfl
    have e:(List.replicate 8 (0:Int)).getD (fl (ps.getD n []) 0).toNat 0=0:=by
     rw[zA7,List.getElem?_replicate,zAv Zz];rfl
    rw[this,e];lia
  |succ k ih=>
   intro hk;have cm:k<ss.length:=Zz
   obtain⟨i1,i2⟩:=ih Zz;have hB:=mO hu k cm;rw[getD_get cm]at hB;have df:ss.take (k+1)=ss.take k++[ss[k]]:=by rw[zAj,zA0 cm];rfl
   have eh:bD (ps.getD n []) (ss.take (k+1)) n y=hstep n y (bD (ps.getD n []) (ss.take k) n y) ss[k]:=by
    unfold bD;rw[zAv hy,zAv hy,df,List.foldl_append];rfl
   have LI:=jn (h5 _ (zAh cm)) hB;obtain⟨_,⟨b1,b2⟩,c1,c2⟩:=LI;have hl:=eG (ps.getD n []) (ss.take k) n y;rw[eh];unfold hstep;by_cases hc:fl ss[k] 0=n/\fl ss[k] 4<=y
   .rw[zAv hc];unfold bR at hB;rw[zAc]at hB;obtain⟨CY,iP⟩:=hB
    have ep:iD ps ss[k]=ps.getD n []:=by
     unfold iD;rw[hc.1,zAi]
    have lT:fl ss[k] 3<=(bD (ps.getD n []) (ss.take k) n y).getD (fl ss[k] 1).toNat 0:=by
     have:=List.all_eq_true.mp iP y (by
      unfold years;refine zA5.mpr ⟨(y-fl ss[k] 4).toNat,List.mem_range.mpr ?_,?_⟩
      .rw[ep];lia
      .lia)
     have:=zB4 this;rw[ep,hc.1]at this;exact this
    unfold jm at CY;simp only[Bool.and_eq_true,Zp,Bool.not_eq_true',decide_eq_false_iff_not]at CY;obtain⟨_,_,_,C3,⟨v1,v2⟩,_⟩:=CY;generalize bD (ps.getD n []) (ss.take k) n y=L at i1 i2 hl lT;have n1:=wu (i:=fl ss[k] 1) (v:=-(fl ss[k] 3)) i1 Zz;refine⟨wu n1 ?_,?_⟩
    .have:=jr n1 (fl ss[k] 2).toNat;lia
    .rw[tR (by rw[gQ];lia),tR Zz];lia
   .rw[zAu hc];exact⟨i1,i2⟩
 .intro _;unfold bD;rw[zAu hy];refine⟨fun x hx=>by rw[List.eq_of_mem_replicate hx];exact Int.le_refl _,by decide⟩
theorem Af{ps ss:List (List Int)}{sort year:Int}(hu:un ps ss=none)(h5:∀s∈ss,s.length=5)(okp:∀r∈ps,okP r):∀k,k<=ps.length->∀r∈gn ps ss sort year k,r.length=4/\1<=fl r 3/\fl r 3<=99/\fl r 0=year/\0<=fl r 1/\fl r 1<k:=by
 intro k
 induction k with
 |zero=>intro _ r hr;cases hr
 |succ k ih=>
  intro hk r hr;rcases zA6.mp (show r∈gn ps ss sort year k++jq ps ss sort year k from hr)with z|z
  .obtain⟨h1,h2,h3,h4,h6,h7⟩:=ih Zz r z;exact⟨h1,h2,h3,h4,h6,Zz⟩
  .unfold jq at z;split at z
   .obtain⟨q,hq,rfl⟩:=zA5.mp z;unfold fG at hq;obtain⟨h,hh,rfl⟩:=zA5.mp hq;have hp:=zB4 (zAq.mp hh).2;have cm:k<ps.length:=Zz
    obtain⟨a,b⟩:=Cy (n:=k) (y:=year) hu h5 (by rw[getD_get cm];exact okp _ (zAh cm)) ss.length (zA3 _);rw[zAm]at a b
    have le:(bD (ps.getD k []) ss k year).getD h 0<=99:=by
     rw[zA7]at hp⊢
     cases e:(bD (ps.getD k []) ss k year)[h]? with
     |none=>show(0:Int)<=99;decide
     |some y=>
      have:=(gm a).2 y (zB8 e);show y<=99;lia
    refine⟨rfl,?_,le,rfl,?_,?_⟩
    .show 1<=(bD (ps.getD k []) ss k year).getD h 0;lia
    .show(0:Int)<=(k:Int);lia
    .show(k:Int)<((k+1:Nat):Int);lia
   .cases z
end K53
namespace K53P
open PySem L2
theorem sum_set:∀{l:List Int} {i:Nat} {x:Int},i<l.length->(l.set i (l.getD i 0+x)).sum=l.sum+x
 |a::l,0,x,_=>by simp;lia
 |a::l,i+1,x,h=>by
  have:=sum_set (l:=l) (i:=i) (x:=x) (by simpa using h);simp only[List.set_cons_succ,List.sum_cons,List.getD_cons_succ];lia
theorem oZ:∀(pl:List Nat) (l:List Int),(∀i∈pl,i<l.length)->(du l pl).sum=l.sum+pl.length
 |[],l,_=>by simp[du]
 |i::pl,l,h=>by
  show(du (l.set i (l.getD i 0+1)) pl).sum=_;rw[oZ pl _ fun j hj=>by rw[List.length_set];exact h j (.tail _ hj),sum_set (h i (.head _)),zAe];lia
theorem res_sum{n:Int}{ws:List Int}(ok:OkW ws):(res n ws).sum=n:=by
 have o:=(gW (rs n ws)).choose_spec;have hl:=o.len;rw[jK]at hl;have l0:=Aa (n:=n) ok;have l1:=DW (n:=n) ok;unfold res;rw[oZ _ _ fun i hi=>by rw[qR];have:=o.lt i (List.mem_of_mem_take hi);rw[jK]at this;exact this,zAd,Nat.min_eq_left Zz];have:lf n ws=n-(fs n ws).sum:=rfl;lia
end K53P
namespace K53
open PySem L2
theorem mQ:∀{w:Int} {rs:List (List Int)},0<=w->(∀r∈rs,0<=fl r 3)->(∀x∈cJ w rs,0<=x)/\0<=(cJ w rs).sum/\(cJ w rs).sum<=w
 |w,[],h,_=>⟨fun x hx=>(by cases hx),Int.le_refl _,h⟩
 |w,r::rs,h,hr=>by
  have h3:=hr r (.head _);unfold cJ;by_cases hc:w<fl r 3
  .rw[zAv hc];obtain⟨a,b,c⟩:=mQ (w:=w-w) (rs:=rs) Zz fun q hq=>hr q (.tail _ hq);refine⟨fun x hx=>?_,by rw[List.sum_cons];lia,by rw[List.sum_cons];lia⟩;rcases zAo.mp hx with z|z
   .lia
   .exact a x z
  .rw[zAu hc];obtain⟨a,b,c⟩:=mQ (w:=w-fl r 3) (rs:=rs) Zz fun q hq=>hr q (.tail _ hq);refine⟨fun x hx=>?_,by rw[List.sum_cons];lia,by rw[List.sum_cons];lia⟩;rcases zAo.mp hx with z|z
   .lia
   .exact a x z
theorem wy:∀{rs:List (List Int)} {sh:List Int},sh.length=rs.length->(∀x∈sh,0<=x)->aM (eZ (rs.zip sh))=sh.sum
 |[],[],_,_=>rfl
 |[],_::_,h,_=>by simp at h
 |_::_,[],h,_=>by simp at h
 |r::rs,x::sh,h,hn=>by
  have ih:=wy (rs:=rs) (sh:=sh) (by simpa using h) fun y hy=>hn y (.tail _ hy);have hx:=hn x (.head _);rw[List.zip_cons_cons,List.sum_cons,<-ih];unfold eZ;by_cases hp:0<x
  .rw[zBa (p:=fun(p:List Int×Int)=>decide (0<p.2)) (zAt hp),zAk];unfold aM wts;rw[zAk,List.sum_cons];rfl
  .rw[zB9 (p:=fun(p:List Int×Int)=>decide (0<p.2)) (by rw[Zp];exact hp)];have:x=0:=Zz
   rw[this,Int.zero_add]
theorem Ag{w:Int}{cl ow:List (List Int)}(hw:0<=w)(hc:∀r∈cl,r.length=4/\1<=fl r 3/\fl r 3<=99)(hz:cl.length<=80)(ho:∀r∈ow,0<=fl r 3):(∀x∈shr w cl ow,0<=x)/\0<=(shr w cl ow).sum/\(shr w cl ow).sum<=w:=by
 have hs:(∀x∈bu w cl,0<=x)/\(bu w cl).sum<=w:=by
  unfold bu;by_cases h:(wts cl).sum<=w
  .rw[zAv h];refine⟨fun x hx=>?_,h⟩;obtain⟨r,hr,rfl⟩:=zA5.mp hx;have:=(hc r hr).2.1;lia
  .rw[zAu h]
   have ok:K53P.OkW (wts cl):=by
    refine⟨?_,by unfold wts;rw[zA1];exact hz,fun x hx=>?_⟩
    .cases oI:cl with
     |nil=>
      rw[oI]at h;exact absurd hw h
     |cons r oP=>
      unfold wts;rw[zA1,zAe];lia
    .obtain⟨r,hr,rfl⟩:=zA5.mp hx;exact(hc r hr).2
   refine⟨fun x hx=>?_,by rw[K53P.res_sum ok];exact Int.le_refl _⟩;obtain⟨i,hi,e⟩:=List.getElem_of_mem hx;have gz:i<(wts cl).length:=by rw[K53P.res_len]at hi;exact hi
   exact(K53P.res_get ok hw Zz (i:=i) (r:=x) (w:=(wts cl)[i]) (by rw[zA0 hi,e]) (zA0 gz)).1
 obtain⟨h1,h2⟩:=hs;have h3:=(gm h1).1;obtain⟨m1,m2,m3⟩:=mQ (w:=w-(bu w cl).sum) (rs:=ow) Zz ho;unfold shr;refine⟨fun x hx=>(zA6.mp hx).elim (h1 x) (m1 x),?_,?_⟩
 .rw[List.sum_append];lia
 .rw[List.sum_append];lia
theorem wz{w:Int}{cl ow:List (List Int)}(hw:0<=w)(hc:∀r∈cl,r.length=4/\1<=fl r 3/\fl r 3<=99)(hz:cl.length<=80)(ho:∀r∈ow,0<=fl r 3):aM (eZ ((cl++ow).zip (shr w cl ow)))=(shr w cl ow).sum/\0<=w-aM (eZ ((cl++ow).zip (shr w cl ow))):=by
 obtain⟨a,b,c⟩:=Ag hw hc hz ho;have e:=wy (rs:=cl++ow) (sh:=shr w cl ow) (by unfold shr;rw[zA2,zA2,shares_len,eO]) a;exact⟨e,by rw[e];lia⟩
def rle(a b:List Int):Bool:=!HT.lexLt b a
theorem FT(a b c:List Int)(h1:rle a b=true)(h2:rle b c=true):rle a c=true:=by
 unfold rle at *;rw[Bool.not_eq_true']at *
 cases h:HT.lexLt c a with
 |false=>rfl
 |true=>
  rcases vX c b a h with z|z
  .rw[z]at h2;cases h2
  .rw[z]at h1;cases h1
theorem Cz(a b:List Int):(rle a b||rle b a)=true:=by
 unfold rle
 cases h:HT.lexLt b a with
 |false=>rfl
 |true=>
  cases h':HT.lexLt a b with
  |false=>rfl
  |true=>
   have:=qF a b a h' h;rw[qD]at this;cases this
def srt(rs:List (List Int)):List (List Int):=rs.mergeSort rle
theorem Ah{rs oP:List (List Int)}(pm:oP.Perm rs)(so:oP.Pairwise (fun a b=>HT.lexLt b a=false)):oP=srt rs:=by
 have LJ:oP.Pairwise (fun a b=>rle a b=true):=so.imp fun{a b} h=>by unfold rle;rw[h];rfl
 refine List.Perm.eq_of_pairwise (le:=fun a b=>rle a b=true) (fun a b _ _ h1 h2=>?_) LJ (List.pairwise_mergeSort FT Cz rs) (pm.trans (List.mergeSort_perm rs rle).symm);unfold rle at h1 h2;rw[Bool.not_eq_true']at h1 h2;exact lq a b h2 h1
structure Yr where
 g:List (List Int)
 k:List (List Int)
 l:List Int
 d:Int
def aF(ps ow:List (List Int))(sort:Int):List (List Int):=ow.filter fun r=>decide (fl (ps.getD (fl r 1).toNat []) 1=sort)
def Hv(c:List Int)(ps ss ow:List (List Int))(y:Int)(a:Yr)(sort:Nat):Yr:=
 ⟨a.g++eZ ((aJ ps ss sort y++aF ps ow sort).zip (shr (c.getD sort 0+a.d) (aJ ps ss sort y) (aF ps ow sort))),
  a.k++cO ((aJ ps ss sort y++aF ps ow sort).zip (shr (c.getD sort 0+a.d) (aJ ps ss sort y) (aF ps ow sort))),
  a.l++[c.getD sort 0+a.d-aM (eZ ((aJ ps ss sort y++aF ps ow sort).zip (shr (c.getD sort 0+a.d) (aJ ps ss sort y) (aF ps ow sort))))],
  c.getD sort 0+a.d-aM (eZ ((aJ ps ss sort y++aF ps ow sort).zip (shr (c.getD sort 0+a.d) (aJ ps ss sort y) (aF ps ow sort))))⟩
def yTo(c:List Int)(ps ss ow:List (List Int))(y:Int):Nat->Yr
 |0=>⟨[],[],[],0⟩
 |n+1=>Hv c ps ss ow y (yTo c ps ss ow y n) n
def okO(ps:List (List Int))(r:List Int):Prop:=r.length=4/\0<=fl r 1/\fl r 1<ps.length/\1<=fl r 3
theorem fP{ps ow:List (List Int)}{sort:Int}(h:∀r∈ow,okO ps r):∀r∈aF ps ow sort,okO ps r:=fun r hr=>h r (zAq.mp hr).1
theorem p8(ps ow:List (List Int))(sort:Int):(aF ps ow sort).length<=ow.length:=List.length_filter_le _ _
theorem fQ{ps ss:List (List Int)}{sort year:Int}(hu:un ps ss=none)(h5:∀s∈ss,s.length=5)(okp:∀r∈ps,okP r):∀r∈aJ ps ss sort year,r.length=4/\1<=fl r 3/\fl r 3<=99:=fun r hr=>by
 obtain⟨a,b,c,_⟩:=Af (sort:=sort) (year:=year) hu h5 okp ps.length (zA3 _) r hr;exact⟨a,b,c⟩
theorem d8{ps ss:List (List Int)}{sort year:Int}(h:ps.length<=10):(aJ ps ss sort year).length<=80:=by
 have:=mL ps ss sort year ps.length;unfold aJ;lia
theorem CG{c:List Int}{ps ss ow:List (List Int)}{y:Int}(hc:∀x∈c,0<=x)(hu:un ps ss=none)(h5:∀s∈ss,s.length=5)(okp:∀r∈ps,okP r)(hl:ps.length<=10)(ho:∀r∈ow,okO ps r):∀n,0<=(yTo c ps ss ow y n).d
 |0=>Int.le_refl _
 |n+1=>by
  have ih:=CG (y:=y) hc hu h5 okp hl ho n
  have hw:0<=c.getD n 0+(yTo c ps ss ow y n).d:=by
   have:=jr hc n;lia
  exact(wz hw (fQ hu h5 okp) (d8 hl) fun r hr=>by have:=(fP ho r hr).2.2.2;lia).2
theorem wA(P:List (List Int×Int)):(eZ P).length<=P.length:=by
 unfold eZ;rw[zA1];exact List.length_filter_le _ _
theorem mR(P:List (List Int×Int)):(cO P).length<=P.length:=by
 unfold cO;rw[zA1];exact List.length_filter_le _ _
theorem DX{c:List Int}{ps ss ow:List (List Int)}{y:Int}(hl:ps.length<=10):∀n,(yTo c ps ss ow y n).g.length<=n*(80+ow.length)/\(yTo c ps ss ow y n).k.length<=n*(80+ow.length)/\(yTo c ps ss ow y n).l.length=n
 |0=>⟨zAp _,zAp _,rfl⟩
 |n+1=>by
  obtain⟨a,b,d⟩:=DX (c:=c) (ss:=ss) (ow:=ow) (y:=y) hl n;have h1:=d8 (ss:=ss) (sort:=n) (year:=y) hl;have h2:=p8 ps ow n
  have hz:∀sh:List Int,((aJ ps ss n y++aF ps ow n).zip sh).length<=80+ow.length:=fun sh=>by
   rw[zAs,zA2];lia
  rw[Nat.succ_mul];refine⟨?_,?_,?_⟩
  .show((yTo c ps ss ow y n).g++eZ _).length<=_;rw[zA2];have:=wA ((aJ ps ss n y++aF ps ow n).zip (shr (c.getD n 0+(yTo c ps ss ow y n).d) (aJ ps ss n y) (aF ps ow n)));have:=hz (shr (c.getD n 0+(yTo c ps ss ow y n).d) (aJ ps ss n y) (aF ps ow n));lia
  .show((yTo c ps ss ow y n).k++cO _).length<=_;rw[zA2];have:=mR ((aJ ps ss n y++aF ps ow n).zip (shr (c.getD n 0+(yTo c ps ss ow y n).d) (aJ ps ss n y) (aF ps ow n)));have:=hz (shr (c.getD n 0+(yTo c ps ss ow y n).d) (aJ ps ss n y) (aF ps ow n));lia
  .show((yTo c ps ss ow y n).l++[_]).length=n+1;rw[zA2,d];rfl
theorem y_row{c:List Int}{ps ss ow:List (List Int)}{y:Int}:∀n,(∀r∈(yTo c ps ss ow y n).g,r.length=4)/\∀r∈(yTo c ps ss ow y n).k,r.length=4
 |0=>⟨fun r hr=>(by cases hr),fun r hr=>(by cases hr)⟩
 |n+1=>by
  obtain⟨a,b⟩:=y_row (c:=c) (ps:=ps) (ss:=ss) (ow:=ow) (y:=y) n;refine⟨fun r hr=>?_,fun r hr=>?_⟩
  .rcases zA6.mp (show r∈(yTo c ps ss ow y n).g++eZ _ from hr)with z|z
   .exact a r z
   .obtain⟨p,_,rfl⟩:=zA5.mp z;rfl
  .rcases zA6.mp (show r∈(yTo c ps ss ow y n).k++cO _ from hr)with z|z
   .exact b r z
   .obtain⟨p,_,rfl⟩:=zA5.mp z;rfl
def vInt:V->Int
 |.int i=>i
 |_=>0
def jL(H:Hp)(a:Addr):List Int:=match H a with
 |some (.tup xs)=>xs.map vInt
 |_=>[]
theorem CJ{H:Hp}{a:Addr}{r:List Int}(e:H a=some (.tup (r.map V.int))):jL H a=r:=by
 unfold jL;rw[e];show(r.map V.int).map vInt=r;rw[zAr];exact List.map_id _
theorem qT{H:Hp}:∀{xs:List V} {rs:List (List Int)},Els H xs rs->∃ads:List Addr,xs=ads.map V.ref/\rs=ads.map (jL H)/\∀a∈ads,H a=some (.tup ((jL H a).map V.int))
 |[],[],_=>⟨[],rfl,rfl,fun a ha=>(by cases ha)⟩
 |[],_::_,h=>by have:=h.1;simp at this
 |_::_,[],h=>by have:=h.1;simp at this
 |x::xs,r::rs,h=>by
  obtain⟨t,e1,e2⟩:=h.2 0 r rfl;rw[List.getElem?_cons_zero]at e1;cases e1
  obtain⟨ads,f1,f2,f3⟩:=qT (xs:=xs) (rs:=rs) ⟨by have:=h.1;simpa using this,fun i q e=>by
   obtain⟨u,g1,g2⟩:=h.2 (i+1) q (by rw[List.getElem?_cons_succ];exact e);rw[List.getElem?_cons_succ]at g1
   exact⟨u,g1,g2⟩⟩
  have er:=CJ e2;refine⟨t::ads,by rw[f1];rfl,by rw[f2,zAk,er,<-f2],fun a ha=>?_⟩;rcases zAo.mp ha with z|z
  .rw[z,er];exact e2
  .exact f3 a z
theorem Ai{H H':Hp}{l':List Addr}(h:∀a∈l',H' a=some (.tup ((jL H a).map V.int))):Els H' (l'.map V.ref) (l'.map (jL H)):=by
 refine⟨by rw[zA1,zA1],fun i r e=>?_⟩;rw[zAb]at e
 cases z:l'[i]? with
 |none=>rw[z]at e;cases e
 |some a=>
  rw[z]at e;cases e;exact⟨a,by rw[zAb,z];rfl,h a (zB8 z)⟩
inductive SpYearI(vs:List V)(H:Hp)(Q:VK):Prop
 |mk:∀bk y lo ac xc cs ap xp ps af xs ss xo ow,(vs=[.ref bk,.int y,.ref lo])->(H bk=some (.tup [.ref ac,.ref ap,.ref af]))->(RowsAt H ac xc cs)->((∀r∈cs,r.length=3/\∀x∈r,0<=x))->(0<=y)->(y<cs.length)->(RowsAt H ap xp ps)->(ps.length<=10)->((∀r∈ps,okP r))->(RowsAt H af xs ss)->(ss.length<=12)->((∀s∈ss,s.length=5))->(un ps ss=none)->(H lo=some (.lst xo))->(Els H xo ow)->((∀r∈ow,okO ps r))->(ow.length<=30000)->(∀t g k tl xg xk H',Same H H'->H' t=some (.tup [.ref g,.ref k,.ref tl])->H g=none->H k=none->(g≠sysModules/\k≠sysModules)->H' g=some (.lst xg)->Els H' xg (srt (yTo (cs.getD y.toNat []) ps ss ow y 3).g)->H' k=some (.lst xk)->Els H' xk (srt (yTo (cs.getD y.toNat []) ps ss ow y 3).k)->H' tl=some (.tup ((yTo (cs.getD y.toNat []) ps ss ow y 3).l.map V.int))->Q (.ref t) H')->SpYearI  vs H Q
def Aj:Sp:=fun vs H Q _=>SpYearI  vs H Q
theorem CK{ps ss:List (List Int)}(h:un ps ss=none)(h5:∀s∈ss,s.length=5):∀s∈ss,okS s:=fun s hs=>by
 obtain⟨j,hj,e⟩:=List.getElem_of_mem hs;have:=mO h j hj;rw[getD_get hj,e]at this;exact jn (h5 s hs) this
theorem Ak{D:Ends}{tb:TS}{σ:L2.St}{H:Hp}(R:Hp->Prop)(h:R H)(g:∀H,R H->tb D σ H):tb D σ H:=g H h
variable{P:Program}{w:World}{K:Frag}{mg:Str->Option Value}{base:Heap}{f:Addr}{fd:FuncData}
theorem boot_sorted:bootBuiltins "sorted"=some (.builtin "sorted"):=by decide +kernel
theorem ndZ:(["row","promises","sort"]:List Str).Nodup:=by decide +kernel
theorem scZ1:FnScope ["book","year","owed","clips","promises","sales","gifts","lacking","left","down","sort","wool","claims","ahead","given","lacked"] ["book","year","owed"] (aK (top 49)):=fQS
theorem CN(F:Fun K "year_given" "year_given" (top 49) f fd)(T:Mg mg)(N:Nums mg)(Tr:mg "range"=none)(Ts:mg "sorted"=none)(c1:Cal P w K mg base 2 "claims_in" ["promises","sales","sort","year"] tQ)(c2:Cal P w K mg base 8 "sort_given" ["wool","claims","owed"] Ac)(c3:Cal P w K mg base 1 "sacks_of" ["rows"] qP):FnOk P w K mg base CX0 9 f fd ["book","year","owed"] Aj:=by
 refine F.ok scZ1 (fun vs H Q E h=>?_) (fun ar A outer s H vs Q E hr h=>?_)
 .obtain⟨bk,y,lo,ac,xc,cs,ap,xp,ps,af,xs,ss,xo,ow,rfl,_⟩:=h;rfl
 .obtain⟨bk,y,lo,ac,xc,cs,ap,xp,ps,af,xs,ss,xo,ow,rfl,eb,rc,okc,y0,y1,rp,lp,okp,rs,ls,h5,hu,eo,kF,pj,LD,q⟩:=h;obtain⟨t3,e3⟩:=N.sorts
  refine K53P.ok_b (aW ⟨cz (pv 0) (bI rfl (aq (pgn 3 scZ1.nd) (aq (bQ (i:=4) scZ1.nd rfl (Or.inr rfl)) (aq (pgn 5 scZ1.nd) aY))))⟩
   (aW (iU 6 scZ1.nd (uJ fY))
   (aW (iU 7 scZ1.nd (uJ fY))
   (aW (iU 8 scZ1.nd (uJ fY))
   (aW (iU 9 scZ1.nd Fv)
   (aW ⟨cP zB5 rfl (di rfl Tr (au (bM (v:=.int 3) rfl e3 ⟨_,rfl⟩) aj)) (bQ (i:=10) scZ1.nd rfl (Or.inr rfl))
    (DP (aW (iU 11 scZ1.nd (DQ bw (DR bK (DR bK ⟨pv 3⟩ ⟨pv 1⟩ (fun _ _=>rfl)) ⟨pv 10⟩ (fun _ _=>rfl)) ⟨pv 9⟩))
    (aW (iU 12 scZ1.nd ⟨aG c1 hr (au (pv 4) (au (pv 5) (au (pv 10) (au (pv 1) aj))))⟩)
    (aW ⟨j5 (i:=13) ["row","promises","sort"] [none,some 4,some 10] rfl scZ1.nd rfl (Or.inl rfl) (ie (pv 2)) (fun C fp Zt s₂ H₂=>⟨pgn 0 ndZ,ir (bx rK (pX (K53P.ix_tupK (K:=K) rfl) (pX (K53P.ix_tupK (K:=K) rfl) (pv 1) (pX (K53P.ix_tupK (K:=K) rfl) (pv 0) az)) az) (pv 2) (bf _)),pv 0⟩) (fun C=>cI (cI trivial)) ⟨rfl,rfl,rfl,rfl⟩⟩
    (aW ⟨cz (aG c2 hr (au (pv 11) (au (pv 12) (au (pv 13) aj)))) (bI rfl (aq (pgn 14 scZ1.nd) (aq (pgn 15 scZ1.nd) aY)))⟩
    (aW (iU 9 scZ1.nd (DQ cN ⟨pv 11⟩ ⟨aG c3 hr (au (pv 14) aj)⟩))
    (aW ⟨lC (i:=6) scZ1.nd rfl (Or.inl rfl) (pv 14) qH⟩
    (aW ⟨lC (i:=7) scZ1.nd rfl (Or.inl rfl) (pv 15) qH⟩
    (fZ ⟨cD (ou zBg zBf zBe dZ (pv 8) (au (pv 9) aj))⟩)))))))))⟩
   (fZ (lU (uI (j9 ⟨aQ fD rfl Ts boot_sorted (au (pv 6) aj)⟩ (j9 ⟨aQ fD rfl Ts boot_sorted (au (pv 7) aj)⟩ (j9 ⟨bJ bA rfl T.tuple boot_tuple (au (pv 8) aj)⟩ fY)))))))))))) ?_
  refine aD ?_;refine⟨_,rfl,bk,_,rfl,SqT.of eb,rfl,_,_,rfl,_,_,rfl,_,_,rfl,rfl,?_⟩;dsimp only;refine aD (aX ?_);refine⟨zL,fun lg C4=>?_⟩;refine aN ?_;dsimp only;refine aD (aX ?_);refine⟨zL,fun lk qS=>?_⟩;refine aN ?_;dsimp only;refine aD (aX ?_);refine⟨zL,fun ll fw=>?_⟩;refine aN ?_;dsimp only;refine aD (aX ?_);refine aN ?_;dsimp only;have s1:=Same.upd (o:=.lst []) C4;have s2:=Same.upd (o:=.lst []) qS;have s3:=Same.upd (o:=.lst []) fw;have LK:H lg=none:=C4;have LM:H lk=none:=s1.free qS;have LN:H ll=none:=(s1.trans s2).free fw
  have Iy:lg≠lk:=fun z=>by rw[<-z,ao]at qS;cases qS
  have IA:lk≠ll:=fun z=>by rw[<-z,ao]at fw;cases fw
  have IB:lg≠ll:=fun z=>by rw[<-z,s2 _ _ ao]at fw;cases fw
  refine Ak (fun H1=>Same H H1/\H1 lg=some (.lst [])/\H1 lk=some (.lst [])/\H1 ll=some (.lst [])) ⟨(s1.trans s2).trans s3,s3 _ _ (s2 _ _ ao),s3 _ _ ao,ao⟩ fun H1 ⟨k1,vj,ij,el1⟩=>?_;clear s1 s2 s3 C4 qS fw;have C5:y.toNat<cs.length:=Zz
  obtain⟨tc,wb,IC⟩:=gk rc y0 (show cs[y.toNat]?=some cs[y.toNat]from zA0 C5);have LO:cs.getD y.toNat []=cs[y.toNat]:=getD_get C5;have pz:=okc _ (zAh C5);rw[LO]at q;generalize cs[y.toNat]=c at q IC pz;have cc:=CK hu h5;refine aD ?_;refine⟨3,rfl,by decide,by decide,?_⟩;refine cT (lo:=0) (fun i σ Hc=>∃mn l8 l9 md me mf xg xk,σ=[some (.ref bk),some (.int y),some (.ref lo),some (.ref ac),some (.ref ap),some (.ref af),some (.ref lg),some (.ref lk),some (.ref ll),some (.int (yTo c ps ss ow y i).d),mn,l8,l9,md,me,mf]/\Same H Hc/\Hc lg=some (.lst xg)/\Els Hc xg (yTo c ps ss ow y i).g/\Hc lk=some (.lst xk)/\Els Hc xk (yTo c ps ss ow y i).k/\Hc ll=some (.lst ((yTo c ps ss ow y i).l.map V.int))) ?_ ?_ ?_
  .exact⟨none,none,none,none,none,none,[],[],rfl,k1,vj,Els.nil,ij,Els.nil,el1⟩
  .rintro i σ Hc hi ⟨mn,l8,l9,md,me,mf,xg,xk,rfl,k,eg,gL,ek,iX,el⟩;have hi:i<3:=hi;obtain⟨QJ,QK,LP⟩:=DX (c:=c) (ss:=ss) (ow:=ow) (y:=y) lp i;refine aN ?_;have z0:(0:Int)+(i:Int)=i:=Zz
   rw[z0];refine J7 fun De zw=>?_
   have LQ:(c.map V.int)[i]?=some (.int (c.getD i 0)):=by
    have cm:i<c.length:=Zz
    rw[zAb,zA7,zA0 cm];rfl
   refine aD (aX ?_);refine⟨_,rfl,_,rfl,ac,xc,y,.ref tc,rfl,rfl,SqT.of (k _ _ rc.e),wb,_,rfl,tc,_,i,.int (c.getD i 0),rfl,rfl,SqT.of (k _ _ IC),dC LQ,_,rfl,_,_,rfl,rfl,?_⟩;refine aN ?_;dsimp only;have dn:=CG (c:=c) (y:=y) pz.2 hu h5 okp lp pj i;have cn:=jr pz.2 i;refine aD (aX ?_);refine⟨_,rfl,_,rfl,_,rfl,_,rfl,ap,xp,ps,af,xs,ss,i,y,rfl,rp.same k,lp,okp,rs.same k,ls,cc,fun lc LR H2 s2 QL vF C6=>?_⟩;refine aN ?_;dsimp only;have k2:=k.trans s2;refine aD ?_;refine⟨_,rfl,lo,rfl,⟨_,SqL.of (k2 _ _ eo)⟩,fO ow.length (fun j ys σ Hj=>Same H2 Hj/\(∃o1,σ=[o1,some (.ref ap),some (.int i)])/\Els Hj ys (aF ps (ow.take j) i)) ⟨Same.refl _,⟨_,rfl⟩,Els.nil⟩ Zu ?_ ?_⟩
   .rintro j ys σ Hj hj hy ⟨sc,⟨o1,rfl⟩,pe⟩;have kj:=k2.trans sc;have mh:SqL K Hj lo xo:=SqL.of (kj _ _ eo);obtain⟨tr,ex,dE⟩:=kF.2 j ow[j] (zA0 hj);obtain⟨o4,o5,o6,o7⟩:=pj _ (zAh hj);have C7:=dE;rw[dI o4]at dE;obtain⟨p,hp,ep,op⟩:=gj okp o5 o6;obtain⟨tp,fk,dP⟩:=gk rp o5 hp;rw[dW op.1]at dP
    have df:aF ps (ow.take (j+1)) i=aF ps (ow.take j) i++(if fl p 1=i then[ow[j]]else[]):=by
     rw[zAj,zA0 hj];unfold aF;rw[show(some ow[j]).toList=[ow[j]]from rfl,List.filter_append];congr 1;by_cases h:fl p 1=i
     .rw[zAv h,zBa (by rw[ep];exact zAt h)];rfl
     .rw[zAu h,zB9 (by rw[ep,Zp];exact h)];rfl
    refine⟨⟨_,_,mh,ex⟩,fun x H' yv R hR=>?_⟩;obtain⟨rfl,yv⟩:=yv;have yv:=yv _ mh;rw[ex]at yv;cases yv;refine aN ?_;refine⟨_,rfl,_,rfl,tr,_,1,.int (fl ow[j] 1),rfl,rfl,SqT.of (kj _ _ dE),rfl,ap,xp,_,.ref tp,rfl,rfl,SqT.of (kj _ _ rp.e),fk,tp,_,1,.int (fl p 1),rfl,rfl,SqT.of (kj _ _ dP),rfl,_,rfl,rfl,_,rfl,?_⟩;by_cases h:fl p 1=i
    .rw[zAt (by rw[h])];refine bN ⟨_,rfl,hR _ _ _ (by rw[zA2];show ys.length+1<=j+1;lia) ⟨sc,⟨_,rfl⟩,?_⟩⟩;rw[df,zAv h];exact pe.app (Els.one (kj _ _ C7))
    .rw[zB1 (fun z=>h (by injection z))];refine bF (hR _ _ _ Zz ⟨sc,⟨_,rfl⟩,?_⟩);rw[df,zAu h,zAn];exact pe
   rintro ya σ Hj hy ⟨sc,_,ml⟩;rw[zAm]at ml;refine⟨⟨_,SqL.of (sc _ _ (k2 _ _ eo)),by rw[kF.1];exact zA3 _⟩,fun la zo=>?_⟩;have sa:=sc.updR (o:=.lst ya) zo;have ID:=ao (H:=Hj) (a:=la) (o:=.lst ya);have ml:=ml.same (Same.upd (o:=.lst ya) zo);generalize upd Hj la (.lst ya)=H3 at sa ID ml⊢;have k3:=k2.trans sa;have sH:=s2.trans sa;dsimp only;have mv:=fQ (sort:=i) (year:=y) hu h5 okp;have vw:=d8 (ss:=ss) (sort:=i) (year:=y) lp;have LS:=fP (sort:=i) pj;have QM:=p8 ps ow i;refine aD ?_;refine⟨_,rfl,_,rfl,_,rfl,c.getD i 0+(yTo c ps ss ow y i).d,lc,LR,aJ ps ss i y,la,ya,aF ps ow i,rfl,sa _ _ vF,C6.same sa,mv,vw,Zz,ID,ml,fun r hr=>(LS r hr).1,Zz,fun t g kk ip kK H4 s4 et ng nk IE kM LU pE=>⟨t,_,rfl,SqT.of et,rfl,_,_,rfl,_,_,rfl,rfl,?_⟩⟩;have k4:=k3.trans s4;have LV:=sH.trans s4;have gl:=wA ((aJ ps ss i y++aF ps ow i).zip (shr (c.getD i 0+(yTo c ps ss ow y i).d) (aJ ps ss i y) (aF ps ow i)));have kl:=mR ((aJ ps ss i y++aF ps ow i).zip (shr (c.getD i 0+(yTo c ps ss ow y i).d) (aJ ps ss i y) (aF ps ow i)))
   have zl:((aJ ps ss i y++aF ps ow i).zip (shr (c.getD i 0+(yTo c ps ss ow y i).d) (aJ ps ss i y) (aF ps ow i))).length<=80+ow.length:=by
    rw[zAs,zA2];lia
   have e1:(yTo c ps ss ow y (i+1)).g=(yTo c ps ss ow y i).g++eZ ((aJ ps ss i y++aF ps ow i).zip (shr (c.getD i 0+(yTo c ps ss ow y i).d) (aJ ps ss i y) (aF ps ow i))):=rfl;have e2:(yTo c ps ss ow y (i+1)).k=(yTo c ps ss ow y i).k++cO ((aJ ps ss i y++aF ps ow i).zip (shr (c.getD i 0+(yTo c ps ss ow y i).d) (aJ ps ss i y) (aF ps ow i))):=rfl;have e3:(yTo c ps ss ow y (i+1)).l=(yTo c ps ss ow y i).l++[c.getD i 0+(yTo c ps ss ow y i).d-aM (eZ ((aJ ps ss i y++aF ps ow i).zip (shr (c.getD i 0+(yTo c ps ss ow y i).d) (aJ ps ss i y) (aF ps ow i))))]:=rfl;have e4:(yTo c ps ss ow y (i+1)).d=c.getD i 0+(yTo c ps ss ow y i).d-aM (eZ ((aJ ps ss i y++aF ps ow i).zip (shr (c.getD i 0+(yTo c ps ss ow y i).d) (aJ ps ss i y) (aF ps ow i)))):=rfl
   have g4:∀r∈eZ ((aJ ps ss i y++aF ps ow i).zip (shr (c.getD i 0+(yTo c ps ss ow y i).d) (aJ ps ss i y) (aF ps ow i))),r.length=4:=fun r hr=>by
    obtain⟨p,_,rfl⟩:=zA5.mp hr;rfl
   rw[e1,e2,e3,e4]at zw;generalize eZ ((aJ ps ss i y++aF ps ow i).zip (shr (c.getD i 0+(yTo c ps ss ow y i).d) (aJ ps ss i y) (aF ps ow i)))=GG at kM g4 gl zw⊢;generalize cO ((aJ ps ss i y++aF ps ow i).zip (shr (c.getD i 0+(yTo c ps ss ow y i).d) (aJ ps ss i y) (aF ps ow i)))=KK at pE kl zw⊢;dsimp only;refine aD (aX ?_);refine⟨_,rfl,_,rfl,g,ip,GG,rfl,IE,kM,g4,Zz,fun H5 s5=>⟨_,_,rfl,rfl,?_⟩⟩;refine aN ?_;dsimp only;have k5:=k4.trans s5;have wc:=LV.trans s5;have QN:g≠lg:=(aH (sH _ _ eg) ng).symm;have LW:kk≠lg:=(aH (sH _ _ eg) nk).symm;have IF:=wc _ _ eg;have C8:=wc _ _ ek;have el5:=wc _ _ el;refine aD ?_;refine⟨_,rfl,_,rfl,lg,g,xg,ip,rfl,rfl,IF,s5 _ _ IE,by rw[gL.1,kM.1,sizeLine_eq];have:i*(80+ow.length)<=3*(80+ow.length):=Nat.mul_le_mul_right _ Zz;lia,?_⟩;dsimp only
   have C9:∀b z,H5 b=some (.tup z)->upd H5 lg (.lst (xg++ip)) b=some (.tup z):=fun b z e=>by
    rw[aB fun w=>by rw[w,IF]at e;cases e];exact e
   have k6:Same H (upd H5 lg (.lst (xg++ip))):=fun b o e=>by
    rw[aB (aH e LK)];exact k5 _ _ e
   have IG:=ao (H:=H5) (a:=lg) (o:=.lst (xg++ip));have we:=((gL.same wc).app (kM.same s5)).keep C9;have Dx:upd H5 lg (.lst (xg++ip)) lk=some (.lst xk):=by rw[aB Iy.symm];exact C8
   have wm:upd H5 lg (.lst (xg++ip)) kk=some (.lst kK):=by rw[aB LW];exact s5 _ _ LU
   have IH:upd H5 lg (.lst (xg++ip)) ll=some (.lst ((yTo c ps ss ow y i).l.map V.int)):=by rw[aB IB.symm];exact el5
   have wo:=(iX.same wc).keep C9;have mw:=(pE.same s5).keep C9;generalize upd H5 lg (.lst (xg++ip))=H6 at k6 IG we Dx wm IH wo mw⊢;refine aD ?_;refine⟨_,rfl,_,rfl,lk,kk,xk,kK,rfl,rfl,Dx,wm,by rw[iX.1,pE.1,sizeLine_eq];have:i*(80+ow.length)<=3*(80+ow.length):=Nat.mul_le_mul_right _ Zz;lia,?_⟩;dsimp only
   have II:∀b z,H6 b=some (.tup z)->upd H6 lk (.lst (xk++kK)) b=some (.tup z):=fun b z e=>by
    rw[aB fun w=>by rw[w,Dx]at e;cases e];exact e
   have k7:Same H (upd H6 lk (.lst (xk++kK))):=fun b o e=>by
    rw[aB (aH e LM)];exact k6 _ _ e
   have IJ:upd H6 lk (.lst (xk++kK)) lg=some (.lst (xg++ip)):=by rw[aB Iy];exact IG
   have wq:=we.keep II;have IL:=ao (H:=H6) (a:=lk) (o:=.lst (xk++kK));have wt:=(wo.app mw).keep II;have zI:upd H6 lk (.lst (xk++kK)) ll=some (.lst ((yTo c ps ss ow y i).l.map V.int)):=by rw[aB IA.symm];exact IH
   generalize upd H6 lk (.lst (xk++kK))=H7 at k7 IJ wq IL wt zI⊢;refine⟨_,rfl,.inl ⟨rfl,_,SqL.of zI⟩,_,rfl,ll,_,_,rfl,rfl,zI,by rw[zA1,LP,sizeLine_eq];lia,?_⟩
   have IM:∀{o:HO} b z,H7 b=some (.tup z)->upd H7 ll o b=some (.tup z):=fun b z e=>by
    rw[aB fun w=>by rw[w,zI]at e;cases e];exact e
   refine zw _ _ ⟨_,_,_,_,_,_,xg++ip,xk++kK,rfl,fun b o e=>?_,?_,wq.keep IM,?_,wt.keep IM,?_⟩
   .rw[aB (aH e LN)];exact k7 _ _ e
   .rw[aB IB];exact IJ
   .rw[aB IA];exact IL
   .rw[ao,zA4];rfl
  .rintro σ Hc ⟨mn,l8,l9,md,me,mf,xg,xk,rfl,k,eg,gL,ek,iX,el⟩;obtain⟨LX,LY⟩:=y_row (c:=c) (ps:=ps) (ss:=ss) (ow:=ow) (y:=y) 3;have q:∀t g k tl xg xk H',Same H H'->H' t=some (.tup [.ref g,.ref k,.ref tl])->H g=none->H k=none->(g≠sysModules/\k≠sysModules)->H' g=some (.lst xg)->Els H' xg (srt (yTo c ps ss ow y 3).g)->H' k=some (.lst xk)->Els H' xk (srt (yTo c ps ss ow y 3).k)->H' tl=some (.tup ((yTo c ps ss ow y 3).l.map V.int))->Q (.ref t) H':=q;have gL:Els Hc xg (yTo c ps ss ow y 3).g:=gL;have iX:Els Hc xk (yTo c ps ss ow y 3).k:=iX;have el:Hc ll=some (.lst ((yTo c ps ss ow y 3).l.map V.int)):=el;obtain⟨ag,LZ,IP,IQ⟩:=qT gL;obtain⟨ak,L0,qE,IS⟩:=qT iX;subst LZ L0;dsimp only
   have nn:∀{rs:List (List Int)} {ads:List Addr},rs=ads.map (jL Hc)->(∀r∈rs,r.length=4)->∀a∈ads,jL Hc a≠[]:=fun{rs ads} h h4 a ha z=>by
    have:=h4 (jL Hc a) (by rw[h];exact List.mem_map_of_mem ha);rw[z]at this;cases this
   refine⟨_,rfl,lg,ag,jL Hc,rfl,SqL.of eg,fun a ha=>⟨SqT.of (IQ a ha),nn IP LX a ha⟩,fun g l1 hg DA IT L3=>?_⟩;have sg:=Same.upd (o:=.lst (l1.map V.ref)) hg;refine⟨_,rfl,lk,ak,jL Hc,rfl,SqL.of (sg _ _ ek),fun a ha=>⟨SqT.of (sg _ _ (IS a ha)),nn qE LY a ha⟩,fun kk l2 hk L4 IU L5=>?_⟩;have sk:=sg.updR (o:=.lst (l2.map V.ref)) hk;refine⟨_,rfl,ll,_,rfl,.inl ⟨SqL.of (sk _ _ el),fun tl IX=>?_⟩⟩;have sl:=sk.updR (o:=.tup ((yTo c ps ss ow y 3).l.map V.int)) IX;refine⟨zL,fun t ht=>?_⟩;have st:=sl.updR (o:=.tup [.ref g,.ref kk,.ref tl]) ht;have u1:=Same.upd (o:=.lst (l2.map V.ref)) hk;have u2:=Same.upd (o:=.tup ((yTo c ps ss ow y 3).l.map V.int)) IX;have u3:=Same.upd (o:=.tup [.ref g,.ref kk,.ref tl]) ht;have L6:l1.map (jL Hc)=srt (yTo c ps ss ow y 3).g:=Ah (by rw[IP];exact IT.map _) (List.pairwise_map.mpr L3);have L7:l2.map (jL Hc)=srt (yTo c ps ss ow y 3).k:=Ah (by rw[qE];exact IU.map _) (List.pairwise_map.mpr L5);refine q t g kk tl _ _ _ (k.trans st) ao (k.free hg) (k.free (sg.free hk)) ⟨DA,L4⟩ (u3 _ _ (u2 _ _ (u1 _ _ ao))) ?_ (u3 _ _ (u2 _ _ ao)) ?_ (u3 _ _ ao)
   .rw[<-L6];exact Ai fun a ha=>st _ _ (IQ a (IT.mem_iff.mp ha))
   .rw[<-L7];exact Ai fun a ha=>st _ _ (IS a (IU.mem_iff.mp ha))
def cnt(ps ow:List (List Int)):Nat->Nat
 |0=>0
 |n+1=>cnt ps ow n+(aF ps ow n).length
theorem cnt_nil(ps:List (List Int)):∀n,cnt ps [] n=0
 |0=>rfl
 |n+1=>by
  unfold cnt;rw[cnt_nil ps n];rfl
theorem cnt_cons(ps ow:List (List Int))(r:List Int):∀n,cnt ps (r::ow) n=cnt ps ow n+(if 0<=fl (ps.getD (fl r 1).toNat []) 1/\fl (ps.getD (fl r 1).toNat []) 1<n then 1 else 0)
 |0=>by
  rw[zAu Zz];rfl
 |n+1=>by
  show cnt ps (r::ow) n+(aF ps (r::ow) n).length=cnt ps ow n+(aF ps ow n).length+_;rw[cnt_cons ps ow r n];unfold aF;by_cases h:fl (ps.getD (fl r 1).toNat []) 1=n
  .rw[zBa (p:=fun(r:List Int)=>decide (fl (ps.getD (fl r 1).toNat []) 1=(n:Int))) (zAt h),zAe,zAu Zz,zAv Zz];lia
  .rw[zB9 (p:=fun(r:List Int)=>decide (fl (ps.getD (fl r 1).toNat []) 1=(n:Int))) (by rw[Zp];exact h)];by_cases h2:0<=fl (ps.getD (fl r 1).toNat []) 1/\fl (ps.getD (fl r 1).toNat []) 1<n
   .rw[zAv h2,zAv Zz];lia
   .rw[zAu h2,zAu Zz];lia
theorem Al(ps:List (List Int))(n:Nat):∀ow:List (List Int),cnt ps ow n<=ow.length
 |[]=>by rw[cnt_nil];exact zA3 _
 |r::ow=>by
  rw[cnt_cons,zAe];have:=Al ps n ow;split<;>lia
theorem DY{c:List Int}{ps ss ow:List (List Int)}{y:Int}(hl:ps.length<=10):∀n,(yTo c ps ss ow y n).k.length<=80*n+cnt ps ow n
 |0=>zAp _
 |n+1=>by
  have a:=DY (c:=c) (ss:=ss) (ow:=ow) (y:=y) hl n;have h1:=d8 (ss:=ss) (sort:=n) (year:=y) hl;have h3:=mR ((aJ ps ss n y++aF ps ow n).zip (shr (c.getD n 0+(yTo c ps ss ow y n).d) (aJ ps ss n y) (aF ps ow n)));show((yTo c ps ss ow y n).k++cO _).length<=80*(n+1)+(cnt ps ow n+(aF ps ow n).length);rw[zA2];rw[zAs,zA2]at h3;lia
theorem Hw{c:List Int}{ps ss ow:List (List Int)}{y:Int}(hu:un ps ss=none)(h5:∀s∈ss,s.length=5)(okp:∀r∈ps,okP r)(ho:∀r∈ow,okO ps r):∀n,∀r∈(yTo c ps ss ow y n).k,okO ps r
 |0,r,hr=>by cases hr
 |n+1,r,hr=>by
  rcases zA6.mp (show r∈(yTo c ps ss ow y n).k++cO _ from hr)with z|z
  .exact Hw (c:=c) (y:=y) hu h5 okp ho n r z
  .obtain⟨p,hp,rfl⟩:=zA5.mp z;obtain⟨h1,h2⟩:=zAq.mp hp;have h2:=zB4 h2;have hm:p.1∈aJ ps ss n y++aF ps ow n:=(List.of_mem_zip (show(p.1,p.2)∈_ from h1)).1
   have hn:0<=fl p.1 1/\fl p.1 1<ps.length:=by
    rcases zA6.mp hm with w|w
    .obtain⟨_,_,_,_,a,b⟩:=Af (sort:=n) (year:=y) hu h5 okp ps.length (zA3 _) p.1 w;exact⟨a,b⟩
    .have:=fP ho p.1 w;exact⟨this.2.1,this.2.2.1⟩
   refine⟨rfl,hn.1,hn.2,?_⟩;show 1<=fl p.1 3-p.2;lia
def dh(cs ps ss:List (List Int)):Nat->List (List Int)
 |0=>[]
 |n+1=>srt (yTo (cs.getD n []) ps ss (dh cs ps ss n) n 3).k
theorem ph{cs ps ss:List (List Int)}(hl:ps.length<=10)(hu:un ps ss=none)(h5:∀s∈ss,s.length=5)(okp:∀r∈ps,okP r):∀n,(∀r∈dh cs ps ss n,okO ps r)/\(dh cs ps ss n).length<=240*n
 |0=>⟨fun r hr=>(by cases hr),zA3 _⟩
 |n+1=>by
  obtain⟨a,b⟩:=ph (cs:=cs) hl hu h5 okp n;have pm:=List.mergeSort_perm (yTo (cs.getD n []) ps ss (dh cs ps ss n) n 3).k rle;refine⟨fun r hr=>Hw (c:=cs.getD n []) (y:=n) hu h5 okp a 3 r (pm.mem_iff.mp hr),?_⟩;show(srt (yTo (cs.getD n []) ps ss (dh cs ps ss n) n 3).k).length<=_;unfold srt;rw[pm.length_eq];have:=DY (c:=cs.getD n []) (ss:=ss) (ow:=dh cs ps ss n) (y:=n) hl 3;have:=Al ps 3 (dh cs ps ss n);lia
def FW(ps:List (List Int))(r:List Int):Int:=fl (ps.getD (fl r 1).toNat []) 1
theorem Am(rs:List (List Int)):(srt rs).Perm rs:=List.mergeSort_perm rs rle
theorem An{ps ss:List (List Int)}{sort year:Int}:∀{k:Nat} {r:List Int},r∈gn ps ss sort year k->∃(j h:Nat) (x:Int),j<k/\h<8/\fl (ps.getD j []) 1=sort/\r=[year,j,h,x]
 |0,r,hr=>by cases hr
 |k+1,r,hr=>by
  rcases zA6.mp (show r∈gn ps ss sort year k++jq ps ss sort year k from hr)with z|z
  .obtain⟨j,h,x,a,b⟩:=An z;exact⟨j,h,x,Zz,b⟩
  .unfold jq at z;split at z
   .rename_i hs
    obtain⟨q,hq,rfl⟩:=zA5.mp z;unfold fG at hq;obtain⟨h,hh,rfl⟩:=zA5.mp hq;have:=List.mem_range.mp (zAq.mp hh).1;exact⟨k,h,_,Zz,this,hs,rfl⟩
   .cases z
theorem wB{ps ss:List (List Int)}{sort year:Int}{r:List Int}(hr:r∈aJ ps ss sort year):fl r 0=year/\FW ps r=sort/\0<=fl r 1/\fl r 1<ps.length/\0<=fl r 2/\fl r 2<8:=by
 obtain⟨j,h,x,a1,a2,a3,rfl⟩:=An hr;refine⟨rfl,?_,?_,?_,?_,?_⟩
 .show fl (ps.getD ((j:Int)).toNat []) 1=sort;rw[zAi];exact a3
 .show(0:Int)<=j;lia
 .show(j:Int)<ps.length;lia
 .show(0:Int)<=h;lia
 .show(h:Int)<8;lia
theorem Ea{w:Int}{cl:List (List Int)}(hw:0<=w)(hc:∀r∈cl,r.length=4/\1<=fl r 3/\fl r 3<=99)(hz:cl.length<=80):∀p∈cl.zip (bu w cl),p.2<=fl p.1 3:=fun p hp=>by
 obtain⟨i,hi⟩:=List.mem_iff_getElem?.mp hp;obtain⟨h1,h2⟩:=List.getElem?_zip_eq_some.mp hi;have e3:(wts cl)[i]?=some (fl p.1 3):=by unfold wts;rw[zAb,h1];rfl
 unfold bu at h2;split at h2
 .rw[e3]at h2;rw[<-zAl h2];exact Int.le_refl _
 .rename_i hs
  have ok:K53P.OkW (wts cl):=by
   refine⟨?_,?_,fun x hx=>?_⟩
   .have:=(zAa.mp e3).1;lia
   .unfold wts;rw[zA1];exact hz
   .obtain⟨r,hr,rfl⟩:=zA5.mp hx;exact(hc r hr).2
  exact(K53P.res_get ok hw Zz h2 e3).2
def Hx(cs ps ss:List (List Int))(j:Nat):Yr:=yTo (cs.getD j []) ps ss (dh cs ps ss j) j 3
def YAt(H0:Hp)(l:Addr)(cs ps ss:List (List Int))(H:Hp)(a:Addr)(j:Nat):Prop:=∃g k tl xg xk,H a=some (.tup [.ref g,.ref k,.ref tl])/\H0 g=none/\H0 k=none/\g≠l/\k≠l/\H g=some (.lst xg)/\Els H xg (srt (Hx cs ps ss j).g)/\H k=some (.lst xk)/\Els H xk (dh cs ps ss (j+1))/\H tl=some (.tup ((Hx cs ps ss j).l.map V.int))/\(g≠sysModules/\k≠sysModules)
theorem YAt.keep{H0 H H':Hp}{l a:Addr}{cs ps ss:List (List Int)}{j:Nat}(h:YAt H0 l cs ps ss H a j)(k:∀b o,b≠l->H b=some o->H' b=some o)(hl:∃xs,H l=some (.lst xs)):YAt H0 l cs ps ss H' a j:=by
 obtain⟨xs,hl⟩:=hl;obtain⟨g,kk,tl,xg,xk,e1,n1,n2,d1,d2,e2,e3,e4,e5,e6,e7⟩:=h
 have nt:∀b z,H b=some (.tup z)->b≠l:=fun b z e w=>by rw[w,hl]at e;cases e
 exact⟨g,kk,tl,xg,xk,k _ _ (nt _ _ e1) e1,n1,n2,d1,d2,k _ _ d1 e2,e3.keep fun b z e=>k _ _ (nt _ _ e) e,k _ _ d2 e4,e5.keep fun b z e=>k _ _ (nt _ _ e) e,k _ _ (nt _ _ e6) e6,e7⟩
inductive SpYearsI(vs:List V)(H:Hp)(Q:VK):Prop
 |mk:∀bk y ac xc cs ap xp ps af xs ss,(vs=[.ref bk,.int y])->(H bk=some (.tup [.ref ac,.ref ap,.ref af]))->(RowsAt H ac xc cs)->((∀r∈cs,r.length=3/\∀x∈r,0<=x))->(cs.length<=100)->(0<=y)->(y<cs.length)->(RowsAt H ap xp ps)->(ps.length<=10)->((∀r∈ps,okP r))->(RowsAt H af xs ss)->(ss.length<=12)->((∀s∈ss,s.length=5))->(un ps ss=none)->(∀l (ts:List Addr) H',Same H H'->H l=none->H' l=some (.lst (ts.map V.ref))->(ts.length:Int)=y+1->(∀j a,ts[j]?=some a->YAt H l cs ps ss H' a j)->Q (.ref l) H')->SpYearsI  vs H Q
def qU:Sp:=fun vs H Q _=>SpYearsI  vs H Q
theorem scYB:FnScope ["book","year","years","owed","at","gifts","left"] ["book","year"] (aK (top 50)):=fQS
theorem Ao(F:Fun K "years_given" "years_given" (top 50) f fd)(Tr:mg "range"=none)(c1:Cal P w K mg base 9 "year_given" ["book","year","owed"] Aj):FnOk P w K mg base CX0 10 f fd ["book","year"] qU:=by
 refine F.ok scYB (fun vs H Q E h=>?_) (fun ar A outer s H vs Q E hr h=>?_)
 .obtain⟨bk,y,ac,xc,cs,ap,xp,ps,af,xs,ss,rfl,_⟩:=h;rfl
 .obtain⟨bk,y,ac,xc,cs,ap,xp,ps,af,xs,ss,rfl,eb,rc,okc,lc,y0,y1,rp,lp,okp,rs,ls,h5,hu,q⟩:=h
  refine⟨_,aA (pss 2 scYB.nd (cR aj))
   (aA (pss 3 scYB.nd (cR aj))
   (aA (cP zB5 rfl (di rfl Tr (au (aR bw (pv 1) az) aj)) (pgn 4 scYB.nd)
    (aA (cz (aG c1 hr (au (pv 0) (au (pv 4) (au (pv 3) aj)))) (bI rfl (aq (pgn 5 scYB.nd) (aq (pgn 3 scYB.nd) (aq (pgn 6 scYB.nd) aY)))))
    (aC (cD (ou zBg zBf zBe dZ (pv 2) (au (bT (au (pv 5) (au (pv 3) (au (pv 6) aj)))) aj))))))
   (aC (aU (pv 2))))),?_⟩
  refine aD (aX ?_);refine⟨zL,fun l hl=>?_⟩;refine aN ?_;dsimp only;refine aD (aX ?_);refine⟨zL,fun DB cy=>?_⟩;refine aN ?_;dsimp only;have s1:=Same.upd (o:=.lst []) hl;have s2:=Same.upd (o:=.lst []) cy
  have L8:DB≠l:=fun z=>by rw[z,ao]at cy;cases cy
  refine Ak (fun H1=>Same H H1/\H1 l=some (.lst [])/\H1 DB=some (.lst [])) ⟨s1.trans s2,s2 _ _ ao,ao⟩ fun H1 ⟨k1,el1,L9⟩=>?_;refine aD ?_;refine⟨_,rfl,_,_,rfl,rfl,y+1,rfl,Zz,Zz,?_⟩;refine cT (lo:=0) (fun i σ Hc=>∃x4 x5 x6 lo xo,∃ts:List Addr,σ=[some (.ref bk),some (.int y),some (.ref l),some (.ref lo),x4,x5,x6]/\Same H Hc/\Hc l=some (.lst (ts.map V.ref))/\ts.length=i/\(∀j a,ts[j]?=some a->YAt H l cs ps ss Hc a j)/\lo≠l/\Hc lo=some (.lst xo)/\Els Hc xo (dh cs ps ss i)) ?_ ?_ ?_
  .exact⟨none,none,none,DB,[],[],rfl,k1,el1,rfl,fun j a e=>(by simp at e),L8,L9,Els.nil⟩
  .rintro i σ Hc hi ⟨x4,x5,x6,lo,xo,ts,rfl,k,el,lt,hy,dl,eo,kF⟩;obtain⟨pj,Ma⟩:=ph (cs:=cs) lp hu h5 okp i;refine aN ?_;have z0:(0:Int)+(i:Int)=i:=Zz
   rw[z0];refine aD ?_;refine⟨_,rfl,_,rfl,_,rfl,bk,i,lo,ac,xc,cs,ap,xp,ps,af,xs,ss,xo,dh cs ps ss i,rfl,k _ _ eb,rc.same k,okc,Zz,Zz,rp.same k,lp,okp,rs.same k,ls,h5,hu,eo,kF,pj,Zz,fun t g kk tl xg xk H2 s2 et ng nk DA eg gL ek iX IY=>?_⟩;rw[zAi]at gL iX IY;refine⟨t,_,rfl,SqT.of et,rfl,_,_,rfl,_,_,rfl,_,_,rfl,rfl,?_⟩;dsimp only;have k2:=k.trans s2;have el2:=s2 _ _ el;have dg:g≠l:=(aH el ng).symm;have dk:kk≠l:=(aH el nk).symm;refine⟨_,rfl,.inl ⟨rfl,_,SqL.of el2⟩,_,rfl,_,rfl,_,rfl,zL,fun tt zS=>⟨l,_,_,rfl,rfl,Same.upd zS _ _ el2,by rw[zA1,lt,sizeLine_eq];lia,?_⟩⟩;have s3:=Same.upd (o:=.tup [.ref g,.ref kk,.ref tl]) zS
   have nt:tt≠l:=fun z=>by rw[z,el2]at zS;cases zS
   have kp:∀{o:HO} b u,b≠l->H2 b=some u->upd (upd H2 tt (.tup [.ref g,.ref kk,.ref tl])) l o b=some u:=fun b u n e=>by
    rw[aB n];exact s3 _ _ e
   have ke:∀{o:HO} b z,H2 b=some (.tup z)->upd (upd H2 tt (.tup [.ref g,.ref kk,.ref tl])) l o b=some (.tup z):=fun b z e=>kp b _ (fun w=>by rw[w,el2]at e;cases e) e;refine⟨_,_,_,kk,xk,ts++[tt],rfl,fun b o e=>?_,?_,by rw[zA2,lt];rfl,fun j a e=>?_,dk,kp _ _ dk ek,iX.keep ke⟩
   .exact kp _ _ (aH e hl) (k2 _ _ e)
   .rw[ao,zA4];rfl
   .by_cases hj:j<ts.length
    .rw[zBc hj]at e;exact(hy j a e).keep (fun b o n z=>kp _ _ n (s2 _ _ z)) ⟨_,el⟩
    .have uS:j=i:=by
      have:=(zAa.mp e).1;rw[zA2]at this;simp at this;lia
     subst uS;rw[zBb Zz,lt,Nat.sub_self]at e;cases e;exact⟨g,kk,tl,xg,xk,by rw[aB nt];exact ao,k.free ng,k.free nk,dg,dk,kp _ _ dg eg,gL.keep ke,kp _ _ dk ek,iX.keep ke,ke _ _ IY,DA⟩
  .rintro σ Hc ⟨x4,x5,x6,lo,xo,ts,rfl,k,el,lt,hy,dl,eo,kF⟩;exact⟨_,rfl,q l ts Hc k hl el (by rw[lt];lia) hy⟩
abbrev ky(n y:Int):List Key:=[.inl n,.inl y]
def KsOk(kv:List (Key×V)):Prop:=∀p∈kv,∃h:Int,p.1=.inl h/\0<=h/\h<8
theorem KsOk.put{kv:List (Key×V)}(g:KsOk kv){h:Int}(h0:0<=h)(h8:h<8)(v:V):KsOk (putK kv (.inl h) v):=by
 intro p hp;unfold putK at hp;split at hp
 .obtain⟨q,hq,rfl⟩:=zA5.mp hp;split
  .exact g q hq
  .exact g q hq
 .rcases zA6.mp hp with z|z
  .exact g p z
  .rw[List.mem_singleton.mp z];exact⟨h,rfl,h0,h8⟩
structure Dts(fo:Addr)(H0 H:Hp)(dm:Int->Int->Prop)(f:Int->Int->Int->Int)(b:Int->Int->Nat)(Zs:List (List Key×V)):Prop where
 sm:Same H0 H
 nf:H0 fo=none
 e:H fo=some (.dT Zs)
 g:∀n y,dm n y->∃d kv,cW Zs (ky n y)=some (.ref d)/\H d=some (.dK kv)/\(kv.length<=b n y/\KsOk kv)/\∀h,0<=h->h<8->(cW kv (.inl h)).getD (.int 0)=.int (f n y h)
 no:∀n y,¬dm n y->cW Zs (ky n y)=none
 i:∀n y n' y' d,cW Zs (ky n y)=some (.ref d)->cW Zs (ky n' y')=some (.ref d)->n=n'/\y=y'
 fr:∀n y d,cW Zs (ky n y)=some (.ref d)->H0 d=none/\d≠fo/\∃o,H d=some o
theorem Dts.new{fo p:Addr}{o:HO}{H0 H:Hp}{dm:Int->Int->Prop}{f:Int->Int->Int->Int}{b:Int->Int->Nat}{Zs:List (List Key×V)}(g:Dts fo H0 H dm f b Zs)(hp:H p=none):Dts fo H0 (upd H p o) dm f b Zs:=
 ⟨g.sm.updR hp,g.nf,Same.upd hp _ _ g.e,fun n y h=>by
  obtain⟨d,kv,e1,e2,r⟩:=g.g n y h
  exact⟨d,kv,e1,Same.upd hp _ _ e2,r⟩,g.no,g.i,fun n y d h=>by
  obtain⟨e1,e2,o',e3⟩:=g.fr n y d h
  exact⟨e1,e2,o',Same.upd hp _ _ e3⟩⟩
theorem Dts.same{fo:Addr}{H0 H H':Hp}{dm:Int->Int->Prop}{f:Int->Int->Int->Int}{b:Int->Int->Nat}{Zs:List (List Key×V)}(g:Dts fo H0 H dm f b Zs)(s:Same H H'):Dts fo H0 H' dm f b Zs:=
 ⟨g.sm.trans s,g.nf,s _ _ g.e,fun n y h=>by
  obtain⟨d,kv,e1,e2,r⟩:=g.g n y h
  exact⟨d,kv,e1,s _ _ e2,r⟩,g.no,g.i,fun n y d h=>by
  obtain⟨e1,e2,o',e3⟩:=g.fr n y d h
  exact⟨e1,e2,o',s _ _ e3⟩⟩
theorem uZ{n y n' y':Int}(h:ky n y=ky n' y'):n=n'/\y=y':=by
 injection h with h1 h2;injection h2 with h2 _;injection h1 with h1;injection h2 with h2;exact⟨h1,h2⟩
theorem Dts.wr{fo d:Addr}{H0 H:Hp}{dm:Int->Int->Prop}{f f':Int->Int->Int->Int}{b b':Int->Int->Nat}{Zs:List (List Key×V)}{rL:List (Key×V)}{N Y:Int}(g:Dts fo H0 H dm f b Zs)(hv:cW Zs (ky N Y)=some (.ref d))
  (h1:(rL.length<=b' N Y/\KsOk rL)/\∀h,0<=h->h<8->(cW rL (.inl h)).getD (.int 0)=.int (f' N Y h)) (h2:∀n y,dm n y->¬(n=N/\y=Y)->b n y<=b' n y/\∀h,0<=h->h<8->f' n y h=f n y h):Dts fo H0 (upd H d (.dK rL)) dm f' b' Zs:=by
 obtain⟨w1,w2,_⟩:=g.fr _ _ _ hv;refine⟨fun c o e=>by rw[aB (aH e w1)];exact g.sm _ _ e,g.nf,by rw[aB w2.symm];exact g.e,fun n y hd=>?_,g.no,g.i,fun n y d' hd=>?_⟩
 .by_cases hk:n=N/\y=Y
  .obtain⟨rfl,rfl⟩:=hk;exact⟨d,rL,hv,ao,h1⟩
  .obtain⟨d',kv,q1,q2,q3,q4⟩:=g.g n y hd;have nd:d'≠d:=fun z=>hk (g.i _ _ _ _ _ (z▸q1) hv);obtain⟨k1,k2⟩:=h2 n y hd hk;exact⟨d',kv,q1,by rw[aB nd];exact q2,⟨Nat.le_trans q3.1 k1,q3.2⟩,fun h z1 z2=>by rw[k2 h z1 z2];exact q4 h z1 z2⟩
 .obtain⟨w3,w4,o,w5⟩:=g.fr n y d' hd;by_cases IZ:d'=d
  .exact⟨w3,w4,.dK rL,by rw[IZ];exact ao⟩
  .exact⟨w3,w4,o,by rw[aB IZ];exact w5⟩
theorem Dts.cast{fo:Addr}{H0 H:Hp}{dm:Int->Int->Prop}{f f':Int->Int->Int->Int}{b b':Int->Int->Nat}{Zs:List (List Key×V)}(g:Dts fo H0 H dm f b Zs)(h2:∀n y,dm n y->b n y<=b' n y/\∀h,0<=h->h<8->f' n y h=f n y h):Dts fo H0 H dm f' b' Zs:=
 ⟨g.sm,g.nf,g.e,fun n y hd=>by
  obtain⟨d',kv,q1,q2,q3,q4⟩:=g.g n y hd;obtain⟨k1,k2⟩:=h2 n y hd
  exact⟨d',kv,q1,q2,⟨Nat.le_trans q3.1 k1,q3.2⟩,fun h z1 z2=>by rw[k2 h z1 z2];exact q4 h z1 z2⟩,g.no,g.i,g.fr⟩
def dom(ps:List (List Int))(n y:Int):Prop:=0<=n/\n<ps.length/\fl (ps.getD n.toNat []) 2<=y/\y<=fl (ps.getD n.toNat []) 3
def f0(ps:List (List Int))(n y h:Int):Int:=if h=fl (ps.getD n.toNat []) 0 then fl (ps.getD n.toNat []) 4 else 0
inductive SpBegunI(vs:List V)(H:Hp)(Q:VK):Prop
 |mk:∀ap xp ps,(vs=[.ref ap])->(RowsAt H ap xp ps)->(ps.length<=10)->((∀r∈ps,okP r))->(∀fo H' Zs,Dts fo H H' (dom ps) (f0 ps) (fun _ _=>1) Zs->Q (.ref fo) H')->SpBegunI  vs H Q
def wC:Sp:=fun vs H Q _=>SpBegunI  vs H Q
theorem sc34s:FnScope ["_law_promises_here","_law_found","_law_number","_law_holder","_law_sort","_law_first","_law_last","_law_sacks","_law_price","_law_year"] ["_law_promises_here"] (aK (top 73)):=fQS
theorem Aq(F:Fun K "_law_begun" "_law_begun" (top 73) f fd)(Te:mg "enumerate"=none)(Tr:mg "range"=none):FnOk P w K mg base CX0 1 f fd ["_law_promises_here"] wC:=by
 refine F.ok sc34s (fun vs H Q E h=>?_) (fun ar A outer s H vs Q E hr h=>?_)
 .obtain⟨ap,xp,ps,rfl,_⟩:=h;rfl
 .obtain⟨ap,xp,ps,rfl,rp,lp,okp,q⟩:=h
  refine⟨_,aA (pss 1 sc34s.nd zg)
   (aA (cP zB5 rfl (ZT.pi_enum true rfl Te (au (pv 0) aj)) (bI rfl (aq (pgn 2 sc34s.nd) (aq (bI rfl (aq (pgn 3 sc34s.nd) (aq (pgn 4 sc34s.nd) (aq (pgn 5 sc34s.nd)
     (aq (pgn 6 sc34s.nd) (aq (pgn 7 sc34s.nd) (aq (pgn 8 sc34s.nd) aY))))))) aY)))
    (aC (cP zB5 rfl (ig rfl Tr (au (pv 5) (au (aR bw (pv 6) az) aj))) (pgn 9 sc34s.nd)
     (aC (qp (jT hr) (pv 1) (bT (au (pv 2) (au (pv 9) aj))) (BW (zj (pv 3) (pv 7) BV) rfl rfl Zy Zx) rfl)))))
   (aC (aU (pv 1)))),?_⟩
  refine aD (aX ?_);refine fun fo Jm=>?_;refine aN ?_;dsimp only;refine aD ?_
  have d0:Dts fo H (upd H fo (.dT [])) (fun _ _=>False) (f0 ps) (fun _ _=>1) []:=⟨Same.upd Jm,Jm,ao,fun _ _ z=>z.elim,fun _ _ _=>rfl,fun _ _ _ _ _ z=>(by cases z),fun _ _ _ z=>(by cases z)⟩
  generalize upd H fo (.dT [])=H1 at d0⊢;refine⟨_,rfl,ap,xp,rfl,SqT.of (d0.sm _ _ rp.e),?_⟩;refine ZT.for_enum true (xs:=xp) (fun i σ Hc=>∃x2 x3 x4 x5 x6 x7 x8 x9 Zs,σ=[some (.ref ap),some (.ref fo),x2,x3,x4,x5,x6,x7,x8,x9]/\Dts fo H Hc (fun n y=>dom ps n y/\n<i) (f0 ps) (fun _ _=>1) Zs/\Zs.length<=20*i) ?_ ?_ ?_ ?_
  .exact⟨none,none,none,none,none,none,none,none,[],rfl,⟨d0.sm,d0.nf,d0.e,fun n y z=>by
    have:=z.1.1;have:=z.2
    lia,fun n y _=>d0.no n y id,d0.i,d0.fr⟩,zA3 _⟩
  .rintro i σ Hc hi ⟨x2,x3,x4,x5,x6,x7,x8,x9,Zs,rfl,dt,lk⟩;exact SqT.of (dt.sm _ _ rp.e)
  .rintro i x σ Hc T0 hx ⟨x2,x3,x4,x5,x6,x7,x8,x9,Zs,rfl,dt,lk⟩ nT
   have hi:i<ps.length:=by
    have:=(zAa.mp hx).1;rw[rp.l]at this;exact this
   obtain⟨tr,fI,dE⟩:=rp.g i ps[i] (zA0 hi)
   have:x=.ref tr:=by
    rw[hx]at fI;exact zAl fI
   subst this;have op:=okp ps[i] (zAh hi)
   have ep:ps.getD ((i:Int)).toNat []=ps[i]:=by
    rw[zAi];exact getD_get hi
   have dT:=dt.new (o:=.tup [V.int i,V.ref tr]) nT;generalize QO:ps[i]=p at dE op ep;have ja:=dT.sm _ _ dE;rw[dW op.1]at ja;obtain⟨_,⟨a1,a2⟩,_,⟨c1,c2,c3⟩,⟨e1,e2⟩,_⟩:=op;refine⟨T0,_,rfl,SqT.of ao,rfl,_,_,rfl,_,_,rfl,?_⟩;refine⟨tr,_,rfl,SqT.of ja,rfl,_,_,rfl,_,_,rfl,_,_,rfl,_,_,rfl,_,_,rfl,_,_,rfl,rfl,rfl,?_⟩;refine⟨_,rfl,_,rfl,_,_,rfl,rfl,fl p 2,fl p 3+1,rfl,⟨Zz,Zz,Zz,Zz⟩,?_⟩;generalize upd Hc T0 (.tup [V.int i,V.ref tr])=H2 at dT⊢;refine cT (lo:=fl p 2) (n:=(fl p 3+1-fl p 2).toNat) (fun j σ Hj=>∃x9 Zs,σ=[some (.ref ap),some (.ref fo),some (.int i),some (.int (fl p 0)),some (.int (fl p 1)),some (.int (fl p 2)),some (.int (fl p 3)),some (.int (fl p 4)),some (.int (fl p 5)),x9]/\Dts fo H Hj (fun n y=>dom ps n y/\(n<i\/(n=i/\y<fl p 2+j))) (f0 ps) (fun _ _=>1) Zs/\Zs.length<=20*i+j) ?_ ?_ ?_
   .exact⟨x9,Zs,rfl,⟨dT.sm,dT.nf,dT.e,fun n y z=>dT.g n y ⟨z.1,by
     rcases z.2 with z2|⟨z2,z3⟩
     .exact z2
     .obtain⟨_,_,w1,_⟩:=z.1;rw[z2,ep]at w1
      lia⟩,fun n y z=>dT.no n y fun z'=>z ⟨z'.1,.inl z'.2⟩,dT.i,dT.fr⟩,lk⟩
   .rintro j σ Hj hj ⟨x9,Zs,rfl,dj,lj⟩;refine aN ?_;refine fun p1 rS=>?_;refine⟨_,rfl,_,rfl,ao,[(.inl (fl p 0),.int (fl p 4))],rfl,(by show 1<=15;decide),?_⟩
    have hD:∀b o,Hj b=some o->upd (upd Hj p1 (.dK [])) p1 (.dK (gH [] [(.inl (fl p 0),.int (fl p 4))])) b=some o:=fun b o e=>by
     rw[aB (aH e rS),aB (aH e rS)];exact e
    have qA:upd (upd Hj p1 (.dK [])) p1 (.dK (gH [] [(.inl (fl p 0),.int (fl p 4))])) p1=some (.dK [(.inl (fl p 0),.int (fl p 4))]):=ao;generalize upd (upd Hj p1 (.dK [])) p1 (.dK (gH [] [(.inl (fl p 0),.int (fl p 4))]))=HD at hD qA⊢
    have Jn:p1≠fo:=fun z=>by
     rw[z,dj.e]at rS;cases rS
    refine⟨_,rfl,_,rfl,_,rfl,zL,fun t ht=>⟨fo,_,rfl,DPut.t (k:=ky i (fl p 2+j)) (Same.upd ht _ _ (hD _ _ dj.e)) ao Zu,?_⟩⟩
    have kp:∀b o,Hj b=some o->b≠fo->upd (upd HD t (.tup [V.int i,V.int (fl p 2+j)])) fo (.dT (putK Zs (ky i (fl p 2+j)) (.ref p1))) b=some o:=fun b o e ne=>by
     rw[aB ne];exact Same.upd ht _ _ (hD _ _ e)
    have wx:upd (upd HD t (.tup [V.int i,V.int (fl p 2+j)])) fo (.dT (putK Zs (ky i (fl p 2+j)) (.ref p1))) p1=some (.dK [(.inl (fl p 0),.int (fl p 4))]):=by
     rw[aB Jn];exact Same.upd ht _ _ qA
    have Mb:H p1=none:=dj.sm.free rS;refine⟨_,_,rfl,⟨fun b o e=>kp b o (dj.sm _ _ e) (aH e dj.nf),dj.nf,ao,fun n y z=>?_,fun n y z=>?_,fun n y n' y' d z z'=>?_,fun n y d z=>?_⟩,?_⟩
    .by_cases hk:ky n y=ky i (fl p 2+j)
     .obtain⟨rfl,rfl⟩:=uZ hk;refine⟨p1,_,by rw[dH,zAv rfl],wx,⟨zA3 _,fun p hp=>⟨fl _ 0,by rw[List.mem_singleton.mp hp],a1,Zz⟩⟩,fun h h0 h8=>?_⟩;unfold f0;rw[ep];by_cases hh:h=fl p 0
      .rw[zAv hh,cG (show(Sum.inl (fl p 0):Key)=.inl h by rw[hh])];rfl
      .rw[zAu hh,cH (fun z=>hh (by injection z with z;exact z.symm))];rfl
     .have hd:dom ps n y/\(n<i\/(n=i/\y<fl p 2+j)):=⟨z.1,by
       rcases z.2 with z2|⟨z2,z3⟩
       .exact .inl z2
       .refine .inr ⟨z2,?_⟩;have:y≠fl p 2+j:=fun w=>hk (by rw[z2,w])
        lia⟩
      obtain⟨d,kv,q1,q2,q3⟩:=dj.g n y hd;exact⟨d,kv,by rw[dH,zAu hk];exact q1,kp _ _ q2 (dj.fr n y d q1).2.1,q3⟩
    .have hk:¬ky n y=ky i (fl p 2+j):=fun w=>by
      obtain⟨rfl,rfl⟩:=uZ w;exact z ⟨⟨Zz,Zz,by rw[ep];lia,by rw[ep];lia⟩,.inr ⟨rfl,Zz⟩⟩
     rw[dH,zAu hk];exact dj.no n y fun z'=>z ⟨z'.1,z'.2.elim .inl fun w=>.inr ⟨w.1,Zz⟩⟩
    .rw[dH]at z z'
     have old:∀n y,cW Zs (ky n y)=some (.ref p1)->False:=fun n y w=>by
      obtain⟨_,_,o,w3⟩:=dj.fr n y p1 w;rw[rS]at w3;cases w3
     by_cases h1:ky n y=ky i (fl p 2+j)
     .rw[zAv h1]at z;by_cases h2:ky n' y'=ky i (fl p 2+j)
      .exact uZ (h1.trans h2.symm)
      .rw[zAu h2]at z';injection z with z;injection z with z;rw[<-z]at z';exact(old _ _ z').elim
     .rw[zAu h1]at z;by_cases h2:ky n' y'=ky i (fl p 2+j)
      .rw[zAv h2]at z';injection z' with z';injection z' with z';rw[<-z']at z;exact(old _ _ z).elim
      .rw[zAu h2]at z';exact dj.i _ _ _ _ _ z z'
    .rw[dH]at z;by_cases h1:ky n y=ky i (fl p 2+j)
     .rw[zAv h1]at z;injection z with z;injection z with z;rw[<-z];exact⟨Mb,Jn,_,wx⟩
     .rw[zAu h1]at z;obtain⟨w1,w2,o,w3⟩:=dj.fr n y d z;exact⟨w1,w2,o,kp _ _ w3 w2⟩
    .have:=cC Zs (ky i (fl p 2+j)) (V.ref p1);lia
   .rintro σ Hj ⟨x9,Zs,rfl,dj,lj⟩;refine⟨_,_,_,_,_,_,_,_,Zs,rfl,⟨dj.sm,dj.nf,dj.e,fun n y z=>dj.g n y ⟨z.1,?_⟩,fun n y z=>dj.no n y fun z'=>z ⟨z'.1,z'.2.elim (fun w=>by lia) fun w=>by lia⟩,dj.i,dj.fr⟩,Zz⟩;by_cases hn:n<i
    .exact .inl hn
    .have e9:n=i:=by
      have:=z.2;lia
     refine .inr ⟨e9,?_⟩;obtain⟨_,_,_,w1⟩:=z.1;rw[e9,ep]at w1;lia
  .rintro σ Hc ⟨x2,x3,x4,x5,x6,x7,x8,x9,Zs,rfl,dt,lk⟩;refine⟨_,rfl,q fo Hc Zs ⟨dt.sm,dt.nf,dt.e,fun n y z=>dt.g n y ⟨z,?_⟩,fun n y z=>dt.no n y fun z'=>z z'.1,dt.i,dt.fr⟩⟩;rw[rp.l];exact z.2.1
def mU(ps:List (List Int))(f:Int->Int->Int->Int)(s:List Int):Bool:=jm ps s&&(years (fl s 4) (fl (iD ps s) 3)).all fun y=>decide (fl s 3<=f (fl s 0) y (fl s 1))
inductive SpLHoldsI(vs:List V)(H:Hp)(Q:VK):Prop
 |mk:∀ap xp ps fo H0 f b Zs t s,(vs=[.ref ap,.ref fo,.ref t])->(RowsAt H ap xp ps)->((∀r∈ps,okP r))->(Dts fo H0 H (dom ps) f b Zs)->(H t=some (.tup (s.map V.int)))->(s.length=5)->(∀H',Same H H'->Q (.bl (mU ps f s)) H')->SpLHoldsI  vs H Q
def tU:Sp:=fun vs H Q _=>SpLHoldsI  vs H Q
theorem CP{ns:List Int}{M k:Int}(h1:M∈ns)(h2:∀a∈ns,M<=a):decide (k<=M)=ns.all fun a=>decide (k<=a):=by
 rw[Bool.eq_iff_iff,Zp,List.all_eq_true];exact⟨fun h a ha=>zAt (Int.le_trans h (h2 a ha)),fun h=>zB4 (h M h1)⟩
theorem Hy{σ:St}{H:Hp}{ta tb:TE}{i j:Int}(a:Ev σ H ta (.int i))(b:Ev σ H tb (.int j)):Ev σ H (tOp rEq ta tb) (.bl (decide (i=j))):=fun Q q=>a _ (b _ ⟨rfl,by
 have ed:decide (V.int i=V.int j)=decide (i=j):=decide_eq_decide.mpr ⟨fun z=>by injection z,fun z=>by rw[z]⟩;rw[ed]
 exact q⟩)
theorem sc35s:FnScope ["_law_promises_here","_law_rows","_law_sale","_law_number","_law_seller","_law_buyer","_law_sacks","_law_year","_law_first","_law_last"] ["_law_promises_here","_law_rows","_law_sale"] (aK (top 74)):=fQS
theorem Jc:(["_law_one","_law_rows","_law_number","_law_seller"]:List Str).Nodup:=by decide +kernel
theorem yq(F:Fun K "_law_holds" "_law_holds" (top 74) f fd)(T:Mg mg)(Tr:mg "range"=none)(Tm:mg "min"=none):FnOk P w K mg base CX0 1 f fd ["_law_promises_here","_law_rows","_law_sale"] tU:=by
 refine F.ok sc35s (fun vs H Q E h=>?_) (fun ar A outer s H vs Q E hr h=>?_)
 .obtain⟨ap,xp,ps,fo,H0,g,b,Zs,t,r,rfl,_⟩:=h;rfl
 .obtain⟨ap,xp,ps,fo,H0,g,b,Zs,t,r,rfl,rp,okp,dt,et,h5,q⟩:=h
  refine⟨_,aA (cz (pv 2) (bI rfl (aq (bQ (i:=3) sc35s.nd rfl (Or.inr rfl)) (aq (bQ (i:=4) sc35s.nd rfl (Or.inr rfl)) (aq (pgn 5 sc35s.nd) (aq (pgn 6 sc35s.nd) (aq (pgn 7 sc35s.nd) aY)))))))
   (aA (bY (PW.pt (vq (bZ (eQ bH gF az (pv 3) (aQ aZ rfl T.len PySem.boot_len (au (pv 0) aj)))) (vq (bZ (eQ bH bH az (pv 4) az)) (vq (bZ (eQ bH bH az (pv 5) az)) (yI (bx rK (pv 4) (pv 5) (bf _))))))) (aC (aU gr)) bh)
   (aA (pQ (i:=8) (j:=9) rfl sc35s.nd rfl rfl Zx rfl rfl (au (pX bK (pX bK (pv 0) (pv 3)) az) (au (pX bK (pX bK (pv 0) (pv 3)) az) aj)) rfl)
   (aA (bY (PW.pt (vq (bZ (eQ bH bH az (pv 6) az)) (yI (bZ (eQ bH bH (pv 8) (pv 7) (pv 9)))))) (aC (aU gr)) bh)
   (aC (aU (cY vB (aQ (nG rfl) rfl Tm boot_min (au (bW ["_law_one","_law_rows","_law_number","_law_seller"] [none,some 1,some 3,some 4] rfl (ig rfl Tr (au (pv 7) (au (aR bw (pv 9) az) aj)))
    (fun C fp Zt s₂ H₂=>⟨pgn 0 Jc,cu,sE (jT hr) (qm (jT hr) (pv 1) (bT (au (pv 2) (au (pv 0) aj))) (fun _ _=>rfl)) (pv 3) az (by constructor<;>rfl)⟩)
    (fun C=>cI (cI (cI trivial))) ⟨rfl,rfl,rfl,rfl⟩) aj)) (pv 6) (bf _))))))),?_⟩
  have fin:=q;unfold mU jm at fin;rw[gR h5]at et;refine aD ?_;refine⟨_,rfl,t,_,rfl,SqT.of et,rfl,_,_,rfl,_,_,rfl,_,_,rfl,_,_,rfl,_,_,rfl,rfl,?_⟩;dsimp only;refine aD ?_;refine bO (p:=fun i j=>decide (i<=j)) (q:=fun i j=>decide (i<j)) (i:=0) (j:=fl r 0) (k:=(xp.length:Int)) dR (dw rfl) (fun Q h=>⟨_,rfl,ap,xp,rfl,.inr (SqT.of rp.e),h⟩) _ ⟨_,rfl,?_⟩;rw[rp.l]
  cases e1:(decide (0<=fl r 0)&&decide (fl r 0<ps.length))with
  |false=>
   rw[e1]at fin;exact bN (bN (fin H (Same.refl H)))
  |true=>
  rw[e1]at fin;refine bF ?_;refine bO (p:=fun i j=>decide (i<=j)) (q:=fun i j=>decide (i<=j)) (i:=0) (j:=fl r 1) (k:=7) dR (dw rfl) dR _ ⟨_,rfl,?_⟩;dsimp only;rw[show decide (fl r 1<=7)=decide (fl r 1<8)from decide_eq_decide.mpr Zz]
  cases e2:(decide (0<=fl r 1)&&decide (fl r 1<8))with
  |false=>
   rw[e2]at fin;exact bN (bN (fin H (Same.refl H)))
  |true=>
  rw[e2]at fin;refine bF ?_;refine bO (p:=fun i j=>decide (i<=j)) (q:=fun i j=>decide (i<=j)) (i:=0) (j:=fl r 2) (k:=7) dR (dw rfl) dR _ ⟨_,rfl,?_⟩;dsimp only;rw[show decide (fl r 2<=7)=decide (fl r 2<8)from decide_eq_decide.mpr Zz]
  cases e3:(decide (0<=fl r 2)&&decide (fl r 2<8))with
  |false=>
   rw[e3]at fin;exact bN (bN (fin H (Same.refl H)))
  |true=>
  rw[e3]at fin;refine bF ?_;refine Hy (i:=fl r 1) (j:=fl r 2) (dw rfl) (dw rfl) _ ⟨_,rfl,?_⟩
  cases e4:decide (fl r 1=fl r 2)with
  |true=>
   rw[e4]at fin;exact bN (fin H (Same.refl H))
  |false=>
  rw[e4]at fin;refine bF (cU ?_);dsimp only;refine aD ?_;rw[zAc,Zp,Zp]at e1 e2;obtain⟨p,hp,ep,op⟩:=gj okp e1.1 e1.2;have oC:iD ps r=p:=ep;rw[oC]at fin;obtain⟨tp,fk,dP⟩:=gk rp e1.1 hp;rw[dW op.1]at dP;obtain⟨_,_,_,⟨g1,g2,g3⟩,_⟩:=id op;refine⟨_,rfl,_,rfl,ap,xp,_,.ref tp,rfl,rfl,SqT.of rp.e,fk,tp,_,2,.int (fl p 2),rfl,rfl,SqT.of dP,rfl,?_⟩;refine⟨_,rfl,_,rfl,ap,xp,_,.ref tp,rfl,rfl,SqT.of rp.e,fk,tp,_,3,.int (fl p 3),rfl,rfl,SqT.of dP,rfl,?_⟩;refine⟨_,_,rfl,?_⟩;dsimp only;refine aD ?_;refine bO (p:=fun i j=>decide (i<=j)) (q:=fun i j=>decide (i<=j)) (i:=1) (j:=fl r 3) (k:=99) dR (dw rfl) dR _ ⟨_,rfl,?_⟩;dsimp only
  cases e5:(decide (1<=fl r 3)&&decide (fl r 3<=99))with
  |false=>
   rw[e5]at fin;exact bN (bN (fin H (Same.refl H)))
  |true=>
  rw[e5]at fin;refine bF ?_;refine bO (p:=fun i j=>decide (i<=j)) (q:=fun i j=>decide (i<=j)) (i:=fl p 2) (j:=fl r 4) (k:=fl p 3) (dw rfl) (dw rfl) (dw rfl) _ ⟨_,rfl,?_⟩;dsimp only
  cases e6:(decide (fl p 2<=fl r 4)&&decide (fl r 4<=fl p 3))with
  |false=>
   rw[e6]at fin;exact bN (fin H (Same.refl H))
  |true=>
  rw[e6]at fin;rw[zAc,Zp,Zp]at e6;refine bF (cU ?_);dsimp only;refine⟨_,rfl,_,rfl,_,_,rfl,rfl,fl r 4,fl p 3+1,rfl,⟨Zz,Zz,Zz,Zz⟩,?_⟩;refine tH (fun ys Hc=>Same H Hc/\ys=((years (fl r 4) (fl p 3)).take ys.length).map fun y=>V.int (g (fl r 0) y (fl r 1))) ⟨Same.refl _,rfl⟩ Zu ?_ ?_
  .rintro i ys Hc Qc hi hy ⟨sc,ey⟩ qc;refine⟨_,rfl,_,rfl,_,rfl,zL,fun k hk=>?_⟩;have sk:=sc.updR (o:=.tup [V.int (fl r 0),V.int (fl r 4+i)]) hk;have dk:=dt.same sk;obtain⟨d,kv,q1,q2,q3,q4⟩:=dk.g (fl r 0) (fl r 4+i) ⟨e1.1,e1.2,by rw[ep];lia,by rw[ep];lia⟩;refine⟨fo,.ref d,rfl,by rw[<-q1];exact DGet.t dk.e ao,?_⟩;refine⟨d,rfl,.inl ⟨kv,.inl q2⟩,_,rfl,_,DGet.k (k:=.inl (fl r 1)) q2,?_⟩;rw[q4 _ e2.1 e2.2];refine qc _ _ ⟨sk,?_⟩
   have hx:(years (fl r 4) (fl p 3))[ys.length]?=some (fl r 4+(i:Int)):=by
    rw[hy];exact jH hi
   exact oV ey hx
  .rintro ys Hc hy ⟨sc,ey⟩ D hD;rw[List.take_of_length_le (by rw[jG,hy];exact zA3 _)]at ey;refine⟨D,(years (fl r 4) (fl p 3)).map fun y=>g (fl r 0) y (fl r 1),rfl,SqL.of (by rw[zAr];rw[ey];exact ao),?_,fun M h1 h2=>⟨_,rfl,_,_,rfl,rfl,?_⟩⟩
   .intro z;have:=congrArg List.length z;rw[zA1,jG,List.length_nil]at this;lia
   .have em:=CP (k:=fl r 3) h1 h2;rw[List.all_map]at em;show Q (.bl (decide (fl r 3<=M))) _;rw[em];exact fin _ (sc.updR hD)
def dl(s:List Int)(h:Int):Int:=(if h=fl s 2 then fl s 3 else 0)-(if h=fl s 1 then fl s 3 else 0)
def fS(f:Int->Int->Int->Int)(s:List Int)(n y h:Int):Int:=if n=fl s 0/\fl s 4<=y then f n y h+dl s h else f n y h
theorem CQ{H:Hp}{d:Addr}{a b:HO}:upd (upd H d a) d b=upd H d b:=by
 funext c;by_cases h:c=d
 .subst h;rw[ao,ao]
 .rw[aB h,aB h,aB h]
theorem tV{L:List Int}{i v h:Int}(hl:L.length=8)(i0:0<=i)(i1:i<8)(h0:0<=h)(h1:h<8):(iY L i v).getD h.toNat 0=L.getD h.toNat 0+(if h=i then v else 0):=by
 unfold iY;rw[zA7,List.getElem?_set];by_cases hh:h=i
 .subst hh;rw[zAv rfl,zAv rfl,zAv Zz];rfl
 .rw[zAu Zz,zAu hh,<-zA7];lia
theorem yr{L s:List Int}{n y h:Int}(hl:L.length=8)(ok:okS s)(h0:0<=h)(h1:h<8):(hstep n y L s).getD h.toNat 0=if n=fl s 0/\fl s 4<=y then L.getD h.toNat 0+dl s h else L.getD h.toNat 0:=by
 obtain⟨_,⟨a1,a2⟩,b1,b2⟩:=ok;unfold hstep dl;by_cases hc:fl s 0=n/\fl s 4<=y
 .rw[zAv hc,zAv ⟨hc.1.symm,hc.2⟩,tV (by rw[gQ];exact hl) b1 b2 h0 h1,tV hl a1 a2 h0 h1];split<;>split<;>lia
 .rw[zAu hc,zAu fun z=>hc ⟨z.1.symm,z.2⟩]
theorem yt{p s:List Int}{ss:List (List Int)}{n y h:Int}(f7:fl p 2<=y/\y<=fl p 3)(ok:okS s)(h0:0<=h)(h1:h<8):
  (bD p (ss++[s]) n y).getD h.toNat 0=if n=fl s 0/\fl s 4<=y then(bD p ss n y).getD h.toNat 0+dl s h else(bD p ss n y).getD h.toNat 0:=by
 have hl:=eG p ss n y
 have e:bD p (ss++[s]) n y=hstep n y (bD p ss n y) s:=by
  unfold bD;rw[zAv f7,zAv f7,List.foldl_append];rfl
 rw[e,yr hl ok h0 h1]
inductive SpSellI(vs:List V)(H:Hp)(Q:VK):Prop
 |mk:∀ap xp ps fo H0 f b Zs t s,(vs=[.ref ap,.ref fo,.ref t])->(RowsAt H ap xp ps)->((∀r∈ps,okP r))->(Dts fo H0 H (dom ps) f (fun _ _=>b) Zs)->(b<=1000)->(H t=some (.tup (s.map V.int)))->(s.length=5)->(mU ps f s=true)->(∀H',Dts fo H0 H' (dom ps) (fS f s) (fun _ _=>b+2) Zs->Q .non H')->SpSellI  vs H Q
def Ar:Sp:=fun vs H Q _=>SpSellI  vs H Q
theorem sc36s:FnScope ["_law_promises_here","_law_rows","_law_sale","_law_number","_law_seller","_law_buyer","_law_sacks","_law_year","_law_one","_law_row"] ["_law_promises_here","_law_rows","_law_sale"] (aK (top 75)):=fQS
theorem CT(F:Fun K "_law_sell" "_law_sell" (top 75) f fd)(Tr:mg "range"=none):FnOk P w K mg base CX0 1 f fd ["_law_promises_here","_law_rows","_law_sale"] Ar:=by
 refine F.ok sc36s (fun vs H Q E h=>?_) (fun ar A outer s H vs Q E hr h=>?_)
 .obtain⟨ap,xp,ps,fo,H0,g,b,Zs,t,r,rfl,_⟩:=h;rfl
 .obtain⟨ap,xp,ps,fo,H0,g,b,Zs,t,r,rfl,rp,okp,dt,hb,et,h5,hh,q⟩:=h
  refine⟨_,aA (cz (pv 2) (bI rfl (aq (pgn 3 sc36s.nd) (aq (pgn 4 sc36s.nd) (aq (pgn 5 sc36s.nd) (aq (pgn 6 sc36s.nd) (aq (pgn 7 sc36s.nd) aY)))))))
   (aC (cP zB5 rfl (ig rfl Tr (au (pv 7) (au (aR bw (pX bK (pX bK (pv 0) (pv 3)) az) az) aj))) (pgn 8 sc36s.nd)
    (aA (pss 9 sc36s.nd (qm (jT hr) (pv 1) (bT (au (pv 3) (au (pv 8) aj))) (fun _ _=>rfl)))
    (aA (qp (jT hr) (pv 9) (pv 4) (aR cN (qm (jT hr) (pv 9) (pv 4) (fun _ _=>rfl)) (pv 6)) rfl)
    (aC (qp (jT hr) (pv 9) (pv 5) (aR bw (sE (jT hr) (pv 9) (pv 5) az (by constructor<;>rfl)) (pv 6)) rfl)))))),?_⟩
  rw[gR h5]at et;unfold mU jm at hh;simp only[Bool.and_eq_true,Zp,Bool.not_eq_true',decide_eq_false_iff_not]at hh;obtain⟨⟨⟨n0,n1⟩,⟨a1,a2⟩,⟨b1,b2⟩,C3,⟨k1,k2⟩,y0,y1⟩,hy⟩:=hh;obtain⟨p,hp,ep,op⟩:=gj okp n0 n1;have oC:iD ps r=p:=ep;rw[oC]at y0 y1 hy;obtain⟨tp,fk,dP⟩:=gk rp n0 hp;rw[dW op.1]at dP;obtain⟨_,_,_,⟨g1,g2,g3⟩,_⟩:=id op;refine aD ?_;refine⟨_,rfl,t,_,rfl,SqT.of et,rfl,_,_,rfl,_,_,rfl,_,_,rfl,_,_,rfl,_,_,rfl,rfl,?_⟩;dsimp only;refine⟨_,rfl,_,rfl,_,rfl,ap,xp,_,.ref tp,rfl,rfl,SqT.of rp.e,fk,tp,_,3,.int (fl p 3),rfl,rfl,SqT.of dP,rfl,_,_,rfl,rfl,fl r 4,fl p 3+1,rfl,⟨Zz,Zz,Zz,Zz⟩,?_⟩
  refine cT (lo:=fl r 4) (n:=(fl p 3+1-fl r 4).toNat) (fun j σ Hj=>∃x8 x9,σ=[some (.ref ap),some (.ref fo),some (.ref t),some (.int (fl r 0)),some (.int (fl r 1)),some (.int (fl r 2)),some (.int (fl r 3)),some (.int (fl r 4)),x8,x9] /\
   Dts fo H0 Hj (dom ps) (fun n y h=>if n=fl r 0/\fl r 4<=y/\y<fl r 4+j then g n y h+dl r h else g n y h) (fun n y=>if n=fl r 0/\fl r 4<=y/\y<fl r 4+j then b+2 else b) Zs) ?_ ?_ ?_
  .refine⟨none,none,rfl,dt.cast fun n y hd=>?_⟩;rw[zAu Zz];exact⟨zA3 _,fun h _ _=>by rw[zAu Zz]⟩
  .rintro j σ Hj hj ⟨x8,x9,rfl,dj⟩;refine aN (aD ?_);refine aX ?_;refine⟨_,rfl,_,rfl,_,rfl,zL,fun k hk=>?_⟩;have dk:=dj.new (o:=.tup [V.int (fl r 0),V.int (fl r 4+j)]) hk;have ek:upd Hj k (.tup [V.int (fl r 0),V.int (fl r 4+j)]) k=some (.tup ((ky (fl r 0) (fl r 4+j)).map kV)):=ao;generalize upd Hj k (.tup [V.int (fl r 0),V.int (fl r 4+j)])=H1 at dk ek⊢
   have DC:dom ps (fl r 0) (fl r 4+j):=⟨n0,n1,by rw[ep];lia,by rw[ep];lia⟩
   obtain⟨d,kv,q1,q2,⟨q3,qk⟩,q4⟩:=dk.g _ _ DC;rw[if_neg Zz]at q3;refine⟨fo,.ref d,rfl,by rw[<-q1];exact DGet.t dk.e ek,?_⟩;refine aN ?_;dsimp only;have gv:=q4 (fl r 1) a1 a2;rw[if_neg Zz]at gv
   have lT:fl r 3<=g (fl r 0) (fl r 4+j) (fl r 1):=by
    have:=List.all_eq_true.mp hy (fl r 4+j) (zB8 (jH hj));exact zB4 this
   have DD:cW kv (.inl (fl r 1))=some (.int (g (fl r 0) (fl r 4+j) (fl r 1))):=by
    cases ev:cW kv (.inl (fl r 1))with
    |none=>
     rw[ev]at gv;injection gv with gv;lia
    |some v=>
     rw[ev]at gv;exact congrArg some gv
   have w9:=q4 (fl r 2) b1 b2;rw[if_neg Zz]at w9;refine aD ?_;refine⟨_,rfl,_,rfl,d,_,rfl,by rw[<-DD];exact DGet.k (k:=.inl (fl r 1)) q2,_,rfl,_,_,rfl,rfl,_,rfl,_,rfl,d,_,rfl,DPut.k (k:=.inl (fl r 1)) q2 Zu,?_⟩;dsimp only;have QP:=cC kv (.inl (fl r 1)) (V.int (g (fl r 0) (fl r 4+j) (fl r 1)-fl r 3))
   have vb:(cW (putK kv (.inl (fl r 1)) (V.int (g (fl r 0) (fl r 4+j) (fl r 1)-fl r 3))) (.inl (fl r 2))).getD (.int 0)=.int (g (fl r 0) (fl r 4+j) (fl r 2)):=by
    rw[dH,zAu (fun z=>C3 (by injection z with z;exact z.symm))];exact w9
   refine⟨_,rfl,d,rfl,.inl ⟨_,.inl ao⟩,_,rfl,_,DGet.k (k:=.inl (fl r 2)) ao,_,rfl,_,_,vb,rfl,_,rfl,_,rfl,d,_,rfl,DPut.k (k:=.inl (fl r 2)) ao Zu,?_⟩;have QQ:=cC (putK kv (.inl (fl r 1)) (V.int (g (fl r 0) (fl r 4+j) (fl r 1)-fl r 3))) (.inl (fl r 2)) (V.int (g (fl r 0) (fl r 4+j) (fl r 2)+fl r 3));refine⟨_,_,rfl,?_⟩;rw[CQ]
   refine dk.wr q1 ⟨⟨?_,(qk.put a1 a2 _).put b1 b2 _⟩,fun h h0 h8=>?_⟩ fun n y hd dv=>⟨?_,fun h h0 h8=>?_⟩
   .rw[zAv ⟨rfl,Zz,Zz⟩];exact Nat.le_trans (cC _ _ _) (Nat.succ_le_succ (Nat.le_trans (cC _ _ _) (Nat.succ_le_succ q3)))
   .rw[zAv ⟨rfl,Zz,Zz⟩,dH];unfold dl;by_cases iP:h=fl r 2
    .rw[zAv (by rw[iP]),zAv iP,zAu (fun z=>C3 (z.symm.trans iP))];show V.int _=V.int _;rw[iP];congr 1;lia
    .rw[zAu (fun z=>iP (by injection z)),zAu iP,dH];by_cases gy:h=fl r 1
     .rw[zAv (by rw[gy]),zAv gy];show V.int _=V.int _;rw[gy];congr 1;lia
     .rw[zAu (fun z=>gy (by injection z)),zAu gy];have:=q4 h h0 h8;rw[zAu Zz]at this;rw[this];congr 1;lia
   .split<;>split<;>lia
   .by_cases hc:n=fl r 0/\fl r 4<=y/\y<fl r 4+j
    .rw[zAv hc,zAv ⟨hc.1,hc.2.1,Zz⟩]
    .rw[zAu hc,zAu fun z=>hc ⟨z.1,z.2.1,by
      have:y≠fl r 4+j:=fun w=>dv ⟨z.1,w⟩
      lia⟩]
  .rintro σ Hj ⟨x8,x9,rfl,dj⟩;refine q Hj (dj.cast fun n y hd=>⟨by split<;>lia,fun h h0 h8=>?_⟩);unfold fS;by_cases hc:n=fl r 0/\fl r 4<=y
   .have:y<=fl p 3:=by
     have:=hd.2.2.2;rw[hc.1,ep]at this;exact this
    rw[zAv hc,zAv ⟨hc.1,hc.2,Zz⟩]
   .rw[zAu hc,zAu fun z=>hc ⟨z.1,z.2.1⟩]
inductive SpSoldRI(vs:List V)(H:Hp)(Q:VK):Prop
 |mk:∀ap xp ps af xs ss,(vs=[.ref ap,.ref af])->(RowsAt H ap xp ps)->(ps.length<=10)->((∀r∈ps,okP r))->(RowsAt H af xs ss)->(ss.length<=100)->((∀s∈ss,s.length=5))->(∀t fo H',Same H H'->H' t=some (.tup [.ref fo,unV (un ps ss)])->(un ps ss=none->∃b Zs,Dts fo H H' (dom ps) (fun n y h=>(bD (ps.getD n.toNat []) ss n y).getD h.toNat 0) b Zs)->Q (.ref t) H')->SpSoldRI  vs H Q
def wG:Sp:=fun vs H Q _=>SpSoldRI  vs H Q
inductive SpSoldI(vs:List V)(H:Hp)(Q:VK):Prop
 |mk:∀ap xp ps af xs ss,(vs=[.ref ap,.ref af])->(RowsAt H ap xp ps)->(ps.length<=10)->((∀r∈ps,okP r))->(RowsAt H af xs ss)->(ss.length<=100)->((∀s∈ss,s.length=5))->(∀t fo H',Same H H'->H' t=some (.tup [.ref fo,unV (un ps ss)])->Q (.ref t) H')->SpSoldI  vs H Q
def Av:Sp:=fun vs H Q _=>SpSoldI  vs H Q
theorem Aw{ps:List (List Int)}{n y h:Int}(ok:okP (ps.getD n.toNat []))(f7:fl (ps.getD n.toNat []) 2<=y/\y<=fl (ps.getD n.toNat []) 3)(h0:0<=h)(h8:h<8):(bD (ps.getD n.toNat []) [] n y).getD h.toNat 0=f0 ps n y h:=by
 unfold bD f0;rw[zAv f7];generalize ps.getD n.toNat []=p at ok;obtain⟨_,⟨a1,a2⟩,_⟩:=ok;show(base0 p).getD h.toNat 0=_;unfold base0;rw[zA7,List.getElem?_set];by_cases hh:h=fl p 0
 .rw[zAv (by rw[hh]),zAv (by rw[List.length_replicate];lia),zAv hh];rfl
 .rw[zAu Zz,zAu hh,List.getElem?_replicate,zAv Zz];rfl
theorem sc37s:FnScope ["_law_promises_here","_law_sales_here","_law_rows","_law_at","_law_sale"] ["_law_promises_here","_law_sales_here"] (aK (top 76)):=fQS
theorem tW(F:Fun K "_law_sold" "_law_sold" (top 76) f fd)(Te:mg "enumerate"=none)(c1:Cal P w K mg base 1 "_law_begun" ["_law_promises_here"] wC)(c2:Cal P w K mg base 1 "_law_holds" ["_law_promises_here","_law_rows","_law_sale"] tU)(c3:Cal P w K mg base 1 "_law_sell" ["_law_promises_here","_law_rows","_law_sale"] Ar):
  FnOk P w K mg base CX0 2 f fd ["_law_promises_here","_law_sales_here"] wG:=by
 refine F.ok sc37s (fun vs H Q E h=>?_) (fun ar A outer s H vs Q E hr h=>?_)
 .obtain⟨ap,xp,ps,af,xs,ss,rfl,_⟩:=h;rfl
 .obtain⟨ap,xp,ps,af,xs,ss,rfl,rp,lp,okp,rs,ls,cc,q⟩:=h
  refine⟨_,aA (pss 2 sc37s.nd (aG c1 hr (au (pv 0) aj)))
   (aA (cP zB5 rfl (ZT.pi_enum true rfl Te (au (pv 1) aj)) (bI rfl (aq (pgn 3 sc37s.nd) (aq (pgn 4 sc37s.nd) aY)))
    (aA (bY (bZ (dB (aG c2 hr (au (pv 0) (au (pv 2) (au (pv 4) aj)))))) (aC (aU (bT (au (pv 2) (au (pv 3) aj))))) bh)
    (aC (cD (aG c3 hr (au (pv 0) (au (pv 2) (au (pv 4) aj))))))))
   (aC (aU (bT (au (pv 2) (au dz aj)))))),?_⟩
  refine aD (aX ?_);refine⟨_,rfl,ap,xp,ps,rfl,rp,lp,okp,fun fo H1 Zs d1=>?_⟩;refine aN ?_;dsimp only;refine aD ?_;refine⟨_,rfl,af,xs,rfl,SqT.of (d1.sm _ _ rs.e),?_⟩
  have Mc:∀n y,dom ps n y->okP (ps.getD n.toNat []):=fun n y hd=>by
   obtain⟨p,_,e2,e3⟩:=gj okp hd.1 hd.2.1;rw[e2];exact e3
  refine ZT.for_enum true (xs:=xs) (fun i σ Hc=>∃x3 x4,σ=[some (.ref ap),some (.ref af),some (.ref fo),x3,x4]/\Dts fo H Hc (dom ps) (fun n y h=>(bD (ps.getD n.toNat []) (ss.take i) n y).getD h.toNat 0) (fun _ _=>1+2*i) Zs/\∀j,j<i->bR ps (ss.take j) (ss.getD j [])=true) ?_ ?_ ?_ ?_
  .exact⟨none,none,rfl,d1.cast fun n y hd=>⟨zA3 _,fun h h0 h8=>Aw (Mc n y hd) hd.2.2 h0 h8⟩,fun j hj=>absurd hj (Nat.not_lt_zero _)⟩
  .rintro i σ Hc hi ⟨x3,x4,rfl,dt,hh⟩;exact SqT.of (dt.sm _ _ rs.e)
  .rintro i x σ Hc T0 hx ⟨x3,x4,rfl,dt,hh⟩ nT
   have hi:i<ss.length:=by
    have:=(zAa.mp hx).1;rw[rs.l]at this;exact this
   obtain⟨tr,fI,dE⟩:=rs.g i ss[i] (zA0 hi)
   have:x=.ref tr:=by
    rw[hx]at fI;exact zAl fI
   subst this;have h5:=cc ss[i] (zAh hi);have dT:=dt.new (o:=.tup [V.int i,V.ref tr]) nT;have eT:upd Hc T0 (.tup [V.int i,V.ref tr]) T0=some (.tup [V.int i,V.ref tr]):=ao;generalize upd Hc T0 (.tup [V.int i,V.ref tr])=H2 at dT eT⊢;refine⟨T0,_,rfl,SqT.of eT,rfl,_,_,rfl,_,_,rfl,rfl,?_⟩;refine aD ?_;refine⟨_,rfl,_,rfl,_,rfl,ap,xp,ps,fo,H,_,_,Zs,tr,ss[i],rfl,rp.same dT.sm,okp,dT,dT.sm _ _ dE,h5,fun H3 s3=>⟨_,rfl,?_⟩⟩;have d3:=dT.same s3;have DE:mU ps (fun n y h=>(bD (ps.getD n.toNat []) (ss.take i) n y).getD h.toNat 0) ss[i]=bR ps (ss.take i) ss[i]:=rfl
   cases eh:bR ps (ss.take i) ss[i]with
   |false=>
    rw[DE,eh];refine bN ⟨_,rfl,_,rfl,zL,fun t ht=>q t fo _ (d3.sm.updR ht) ?_ fun z=>?_⟩
    .rw[qN hh hi (by rw[getD_get hi];exact eh)];exact ao
    .rw[qN hh hi (by rw[getD_get hi];exact eh)]at z;cases z
   |true=>
    rw[DE,eh];refine bF (cU ?_);refine⟨_,rfl,_,rfl,_,rfl,ap,xp,ps,fo,H,_,1+2*i,Zs,tr,ss[i],rfl,rp.same d3.sm,okp,d3,Zz,d3.sm _ _ dE,h5,DE.trans eh,fun H4 d4=>?_⟩;have df:ss.take (i+1)=ss.take i++[ss[i]]:=by rw[zAj,zA0 hi];rfl
    refine⟨_,_,rfl,d4.cast fun n y hd=>⟨Zz,fun h h0 h8=>?_⟩,fun j hj=>?_⟩
    .rw[df,yt hd.2.2 (jn h5 eh) h0 h8];rfl
    .rcases Nat.lt_succ_iff_lt_or_eq.mp hj with z|z
     .exact hh j z
     .rw[z,getD_get hi];exact eh
  .rintro σ Hc ⟨x3,x4,rfl,dt,hh⟩;refine⟨_,rfl,zL,fun t ht=>q t fo _ (dt.sm.updR ht) ?_ fun _=>?_⟩
   .rw[qO fun j hj=>hh j (by rw[rs.l];exact hj)];exact ao
   .rw[show xs.length=ss.length from rs.l,zAm]at dt;exact⟨_,Zs,dt.new ht⟩
theorem CV{f:Addr}{fd:FuncData}(F:FnOk P w K mg base CX0 2 f fd ["_law_promises_here","_law_sales_here"] wG):FnOk P w K mg base CX0 2 f fd ["_law_promises_here","_law_sales_here"] Av:=by
 refine F.imp fun vs H Q E h=>?_;obtain⟨ap,xp,ps,af,xs,ss,rfl,rp,lp,okp,rs,ls,cc,q⟩:=h;exact⟨ap,xp,ps,af,xs,ss,rfl,rp,lp,okp,rs,ls,cc,fun t fo H' s e _=>q t fo H' s e⟩
def Hz(st:Addr)(H:Hp)(n:Int)(v:V)(H':Hp):Prop:=∃ps:List (List Int),But st H H'/\iC H' st/\IsTh (fun _=>False) H' v (bU ps)/\(ps.length:Int)<=n/\∀r∈ps,okP r
inductive SpProms2I(vs:List V)(H:Hp)(Q:VK):Prop
 |mk:∀st n y,(vs=[.ref st,.int n,.int y])->(iC H st)->(1<=n)->(n<=10)->(0<=y)->(y<=1000)->(∀v H',Hz st H n v H'->Q v H')->SpProms2I  vs H Q
def tX:Sp:=fun vs H Q _=>SpProms2I  vs H Q
theorem qW(F:Fun K "_law_promises" "_law_promises" (top 72) f fd)(T:Mg mg)(Tr:mg "range"=none)(Tm:mg "min"=none)(c1:Cal P w K mg base 1 "_law_take" ["_law_state_here","_law_many"] iV):FnOk P w K mg base CX0 2 f fd ["_law_state_here","_law_most","_law_years"] tX:=by
 refine F.ok sc22 (fun vs H Q E h=>?_) (fun ar A outer s H vs Q E hr h=>?_)
 .obtain⟨st,n,y,rfl,_⟩:=h;rfl
 .obtain⟨st,n,y,rfl,cx,n1,n2,y1,y2,q⟩:=h
  refine⟨_,aA (pQ (i:=3) (j:=4) rfl sc22.nd rfl rfl Zx rfl rfl (au (cR aj) (au (pX bG (cR (j8 (by repeat constructor))) (aG c1 hr (au (pv 0) (au az aj)))) aj)) rfl)
   (aA (cP zB5 rfl (di rfl Tr (au (aG c1 hr (au (pv 0) (au (aR bw (pv 1) az) aj))) aj)) (pgn 5 sc22.nd)
    (aA (pss 6 sc22.nd (aG c1 hr (au (pv 0) (au (aQ (dY rfl) rfl Tm boot_min (au az (au (aR bw (pv 2) az) aj))) aj))))
    (aA (pss 7 sc22.nd (aQ (dY rfl) rfl Tm boot_min (au az (au (aR bw (pv 6) (aG c1 hr (au (pv 0) (au (pX bG (cR (j8 (by repeat constructor))) (aG c1 hr (au (pv 0) (au az aj)))) aj)))) aj))))
    (aA (pss 8 sc22.nd (pX bG (vK (qx az (qx az (qx (aG c1 hr (au (pv 0) (au az aj))) (qx (aR uv az az) fY))))) (aG c1 hr (au (pv 0) (au az aj)))))
    (aA (pss 9 sc22.nd (pX bG (vK (qx az (qx az (qx az (qx (aG c1 hr (au (pv 0) (au az aj))) fY))))) (aG c1 hr (au (pv 0) (au az aj)))))
    (aC (cD (ou zBg zBf zBe dZ (pv 3) (au (DN (uI (j9 ⟨pv 9⟩ (j9 ⟨aG c1 hr (au (pv 0) (au az aj))⟩ (j9 ⟨pv 6⟩ (j9 ⟨pv 7⟩ (j9 ⟨aR bw az (aG c1 hr (au (pv 0) (au (pv 4) aj)))⟩ (j9 ⟨pv 8⟩ fY)))))))) aj)))))))))
   (aC (aU (bJ bA rfl T.tuple boot_tuple (au (pv 3) aj))))),?_⟩
  obtain⟨a,b,es,h1,h2,h3⟩:=id cx;refine aD ?_;refine⟨zL,fun p3 js=>?_⟩
  have fe:p3≠st:=fun z=>by
   rw[z,es]at js;cases js
  have g0:Mk3 st p3 [] [] H (upd H p3 (.lst [])):=⟨fun b' o' e' _=>Same.upd js _ _ e',⟨a,b,Same.upd js _ _ es,h1,h2,h3⟩,ao,.nil⟩
  refine⟨zL,fun p hp=>?_⟩;have g1:=g0.new (o:=.lst (([3,12,99]:List Int).map V.int)) hp
  have np:p≠st:=fun z=>by
   obtain⟨x,y,e7,_⟩:=g0.sa;rw[z,e7]at hp;cases hp
  refine⟨_,rfl,st,3,rfl,g1.sa,by decide,by decide,fun r a1 b1 r0 r1 k1 k2 k3=>?_⟩
  obtain⟨wd,hw,w1,w2⟩:∃wd:Int,atI (([3,12,99]:List Int).map V.int) r=some (.int wd)/\1<=wd/\wd<=99:=by
   have:r=0\/r=1\/r=2:=Zz
   rcases this with rfl|rfl|rfl
   .exact⟨3,rfl,by decide,by decide⟩
   .exact⟨12,rfl,by decide,by decide⟩
   .exact⟨99,rfl,by decide,by decide⟩
  refine⟨p,_,r,.int wd,rfl,rfl,SqL.of (by rw[aB np];exact ao),hw,_,_,rfl,?_⟩;have g2:=g1.take fe k1 k2 k3;dsimp only;refine aD ?_;refine⟨_,rfl,_,rfl,_,_,rfl,rfl,st,n+1,rfl,g2.sa,Zz,Zz,fun r2 a2 b2 x0 x1 z1 z2 z3=>⟨r2,rfl,Zz,Zz,?_⟩⟩;have g3:=g2.take fe z1 z2 z3;refine cT (lo:=0) (n:=r2.toNat) (fun i σ H'=>∃xs ds x5 x6 x7 x8 x9,σ=[some (.ref st),some (.int n),some (.int y),some (.ref p3),some (.int wd),x5,x6,x7,x8,x9]/\Mk3 st p3 xs ds H H'/\(∃rs:List (List Int),ds=rs.map cA/\rs.length=i/\∀r∈rs,okP r)/\xs.length=i) ?_ ?_ ?_
  .exact⟨[],[],none,none,none,none,none,rfl,g3,⟨[],rfl,rfl,fun _ h=>nomatch h⟩,rfl⟩
  .rintro i σ H' hi ⟨xs,ds,x5,x6,x7,x8,x9,rfl,g,⟨rs,DF,Jo,pS⟩,hl⟩
   have xb:∀{Hc:Hp} {c:Addr},Mk3 st p3 xs ds H Hc->Hc c=none->c≠st:=fun{Hc c} gc hc z=>by
    obtain⟨x,y,e7,_⟩:=gc.sa;rw[z,e7]at hc;cases hc
   refine aN (aD ?_);refine aX ?_;refine⟨_,rfl,_,rfl,_,_,rfl,rfl,_,_,rfl,st,_,rfl,g.sa,by split<;>lia,by split<;>lia,fun f1 a3 b3 o0 o1 o2 o3 o4=>?_⟩;have g4:=g.take fe o2 o3 o4;have f2:f1<20:=by split at o1<;>lia
   refine aN ?_;dsimp only;refine aD (aX ?_);refine⟨_,rfl,_,rfl,zL,fun p5 Jp=>?_⟩;have n5:=xb g4 Jp;have g5:=g4.new (o:=.lst (([1,4,20]:List Int).map V.int)) Jp;refine⟨_,rfl,st,3,rfl,g5.sa,by decide,by decide,fun r4 a4 b4 q0 q1 q2 q3 q4=>?_⟩
   obtain⟨w5,Md,w6,w7⟩:∃w5:Int,atI (([1,4,20]:List Int).map V.int) r4=some (.int w5)/\1<=w5/\w5<=20:=by
    have:r4=0\/r4=1\/r4=2:=Zz
    rcases this with rfl|rfl|rfl
    .exact⟨1,rfl,by decide,by decide⟩
    .exact⟨4,rfl,by decide,by decide⟩
    .exact⟨20,rfl,by decide,by decide⟩
   have g6:=g5.take fe q2 q3 q4;refine⟨p5,_,r4,.int w5,rfl,rfl,SqL.of (by rw[aB n5];exact ao),Md,st,w5,rfl,g6.sa,w6,Zz,fun r5 a5 b5 s0 s1 s2 s3 s4=>⟨_,_,rfl,rfl,_,_,rfl,?_⟩⟩;have g7:=g6.take fe s2 s3 s4;refine aN ?_;dsimp only;refine aD (aX ?_);refine⟨_,rfl,st,1000,rfl,g7.sa,by decide,by decide,fun r6 a6 b6 t0 t1 t2 t3 t4=>⟨_,_,rfl,rfl,⟨by decide,by decide,by decide⟩,zL,fun p6 Jq=>?_⟩⟩;have g8:=g7.take fe t2 t3 t4;have n6:=xb g8 Jq;have g9:=g8.new (o:=.lst [V.int 0,V.int 1,V.int r6,V.int (10^(6:Int).toNat)]) Jq;refine⟨_,rfl,st,4,rfl,g9.sa,by decide,by decide,fun r7 a7 b7 u0 u1 u2 u3 u4=>?_⟩
   obtain⟨pr,Me,Mf,Mi⟩:∃pr:Int,atI [V.int 0,V.int 1,V.int r6,V.int (10^(6:Int).toNat)] r7=some (.int pr)/\0<=pr/\pr<=1000000:=by
    have:r7=0\/r7=1\/r7=2\/r7=3:=Zz
    rcases this with rfl|rfl|rfl|rfl
    .exact⟨0,rfl,by decide,by decide⟩
    .exact⟨1,rfl,by decide,by decide⟩
    .exact⟨r6,rfl,t0,Zz⟩
    .exact⟨_,rfl,by decide,by decide⟩
   have ga:=g9.take fe u2 u3 u4;refine⟨p6,_,r7,.int pr,rfl,rfl,SqL.of (by rw[aB n6];exact ao),Me,?_⟩;refine aN ?_;dsimp only;refine aD (aX ?_);refine⟨_,rfl,st,8,rfl,ga.sa,by decide,by decide,fun r8 a8 b8 v0 v1 v2 v3 v4=>⟨zL,fun p7 Jr=>?_⟩⟩;have gb:=ga.take fe v2 v3 v4;have n7:=xb gb Jr;have gc:=gb.new (o:=.lst [V.int 0,V.int 1,V.int 2,V.int r8]) Jr;refine⟨_,rfl,st,4,rfl,gc.sa,by decide,by decide,fun r9 a9 b9 y0 y3 y4 y5 y6=>?_⟩
   obtain⟨ho,Mj,Ml,ko⟩:∃ho:Int,atI [V.int 0,V.int 1,V.int 2,V.int r8] r9=some (.int ho)/\0<=ho/\ho<8:=by
    have:r9=0\/r9=1\/r9=2\/r9=3:=Zz
    rcases this with rfl|rfl|rfl|rfl
    .exact⟨0,rfl,by decide,by decide⟩
    .exact⟨1,rfl,by decide,by decide⟩
    .exact⟨2,rfl,by decide,by decide⟩
    .exact⟨r8,rfl,v0,v1⟩
   have gd:=gc.take fe y4 y5 y6;refine⟨p7,_,r9,.int ho,rfl,rfl,SqL.of (by rw[aB n7];exact ao),Mj,?_⟩;refine aN ?_;dsimp only;refine⟨_,rfl,.inl ⟨rfl,_,SqL.of gd.e3⟩,?_⟩;refine⟨_,rfl,_,rfl,st,3,rfl,gd.sa,by decide,by decide,fun ra aa ba c0 c1 c2 c3 c4=>?_⟩;have ge:=gd.take fe c2 c3 c4;refine⟨_,rfl,_,rfl,_,rfl,_,rfl,st,wd,rfl,ge.sa,w1,Zz,fun rb ab bb d0 d1 d2 d3 d4=>⟨_,_,rfl,rfl,_,rfl,zL,fun l jv=>?_⟩⟩;have gf:=ge.take fe d2 d3 d4;have gg:=gf.new (o:=.tup [V.int ho,V.int ra,V.int f1,V.int (if f1+r5<19 then f1+r5 else 19),V.int (1+rb),V.int pr]) jv
   have vx:l≠p3:=fun z=>by
    rw[z,gf.e3]at jv;cases jv
   refine⟨p3,xs,.ref l,rfl,rfl,gg.e3,by rw[hl,sizeLine_eq];lia,?_⟩;refine⟨xs++[.ref l],ds++[.tuple [.int ho,.int ra,.int f1,.int (if f1+r5<19 then f1+r5 else 19),.int (1+rb),.int pr]],_,_,_,_,_,rfl,⟨fun b' o' e' ne=>?_,?_,ao,?_⟩,?_,by rw[zA2,hl];rfl⟩
   .have:b'≠p3:=aH e' js;rw[aB this];exact gg.bt b' o' e' ne
   .obtain⟨x,y',e7,k⟩:=gg.sa;exact⟨x,y',by rw[aB fe.symm];exact e7,k⟩
   .refine IsThs.append (gg.ts.keep (fun c l' e'=>?_) (fun _ _ z _=>z.elim) fun _ _ z _=>z.elim) (.cons (.tup (by rw[aB vx];exact ao) (.cons (.int _) (.cons (.int _) (.cons (.int _) (.cons (.int _) (.cons (.int _) (.cons (.int _) .nil))))))) .nil)
    have:c≠p3:=fun z=>by
     rw[z,gg.e3]at e';cases e'
    rw[aB this];exact e'
   .refine⟨rs++[[ho,ra,f1,(if f1+r5<19 then f1+r5 else 19),1+rb,pr]],by rw[DF,zA4];rfl,by rw[zA2,Jo];rfl,fun r hr=>?_⟩;rcases zA6.mp hr with z|z
    .exact pS r z
    .rw[List.mem_singleton.mp z];have lb:f1<=(if f1+r5<19 then f1+r5 else 19)/\(if f1+r5<19 then f1+r5 else 19)<=19:=by split<;>lia
     exact⟨rfl,⟨Ml,ko⟩,⟨c0,c1⟩,⟨o0,lb.1,lb.2⟩,⟨(by show 1<=1+rb;lia),(by show 1+rb<=99;lia)⟩,Mf,Mi⟩
  .rintro σ H' ⟨xs,ds,x5,x6,x7,x8,x9,rfl,g,⟨rs,DF,Jo,pS⟩,hl⟩;refine⟨_,rfl,p3,xs,rfl,.inl ⟨SqL.of g.e3,fun l jv=>?_⟩⟩;have g':=g.new (o:=.tup xs) jv;rw[DF]at g';exact q _ _ ⟨rs,g'.bt,g'.sa,.tup ao (g'.ts.keep (fun _ _ e=>e) (fun _ _ z _=>z.elim) fun _ _ z _=>z.elim),Zz,pS⟩
theorem wH{X:Cx}:OpR X (binaryOp .Add) (fun x y H Q=>∃a b xs ys,x=.ref a/\y=.ref b/\H a=some (.tup xs)/\H b=some (.tup ys)/\ys≠[]/\xs.length+ys.length<=sizeLine/\∀c H',Same H H'->H' c=some (.tup (xs++ys))->Q (.ref c) H'):=by
 intro Zt s σ H x y v u Q I rx ry h;obtain⟨a,b,xs,ys,rfl,rfl,ha,hb,hy,hz,q⟩:=h;refine zx Zt s σ H _ _ v u Q I rx ry ⟨a,b,xs,ys,rfl,rfl,SqT.of ha,SqT.of hb,hy,hz,fun e=>q b H (Same.refl H) (by rw[e];exact hb),fun _ p hp=>q p _ (Same.upd hp) ao⟩
theorem lu{X:Cx}:SlR X (fun x lo hi H Q=>∃a xs,x=.ref a/\H a=some (.tup xs)/\∀c H',Same H H'->H' c=some (.tup (gA xs lo hi))->Q (.ref c) H'):=by
 intro Zt s σ H x v vl vu lo hi sl Q I rx hs pl pu h;obtain⟨a,xs,rfl,ha,q⟩:=h;refine vL Zt s σ H _ v vl vu lo hi sl Q I rx hs pl pu ⟨a,xs,rfl,SqT.of ha,fun hw=>q a H (Same.refl H) ?_,fun _ p hp=>q p _ (Same.upd hp) ao⟩;rw[ha];unfold gA;rw[hw.1,hw.2,List.drop_zero,Nat.sub_zero,zAm]
theorem Dr.rows{st a:Addr}{H H':Hp}{xs:List V}{rs:List (List Int)}(g:Dr st H H')(h0:iC H st)(r:RowsAt H a xs rs):RowsAt H' a xs rs:=by
 obtain⟨x,y,e,_⟩:=h0
 exact r.keep fun b l e'=>g.bt _ _ e' fun z=>by
  rw[z,e]at e';cases e'
theorem Dr.tup{st a:Addr}{H H':Hp}{xs:List V}(g:Dr st H H')(h0:iC H st)(r:H a=some (.tup xs)):H' a=some (.tup xs):=by
 obtain⟨x,y,e,_⟩:=h0
 exact g.bt _ _ r fun z=>by
  rw[z,e]at r;cases r
theorem yu:bootBuiltins "max"=some (.builtin "max"):=by decide +kernel
theorem pq{H:Hp}{a b t:Addr}{xs:List V}{rs:List (List Int)}{r:List Int}(h:RowsAt H a xs rs)(et:H t=some (.tup (r.map V.int)))(eb:H b=some (.tup (xs++[V.ref t]))):RowsAt H b (xs++[V.ref t]) (rs++[r]):=by
 refine⟨eb,by rw[zA2,zA2,h.l];rfl,fun i r' e=>?_⟩;by_cases hi:i<rs.length
 .rw[zBc hi]at e;rw[zBc (by rw[h.l];exact hi)];exact h.g i r' e
 .rw[zBb Zz]at e;rw[zBb (by rw[h.l];lia),h.l]
  cases hj:i-rs.length with
  |zero=>
   rw[hj]at e;injection e with e;subst e;exact⟨t,rfl,et⟩
  |succ k=>
   rw[hj]at e;simp at e
def smR(s:List Int):Prop:=s.length=5/\∀i∈s,-10<=i/\i<=2000000
inductive SpAnyI(vs:List V)(H:Hp)(Q:VK):Prop
 |mk:∀st ap xp ps,(vs=[.ref st,.ref ap])->(iC H st)->(RowsAt H ap xp ps)->(ps.length<=10)->((∀r∈ps,okP r))->(∀t s H',Dr st H H'->H' t=some (.tup (s.map V.int))->smR s->Q (.ref t) H')->SpAnyI  vs H Q
def Eb:Sp:=fun vs H Q _=>SpAnyI  vs H Q
theorem sc38s:FnScope ["_law_state_here","_law_promises_here","_law_number","_law_holder","_law_sort","_law_first","_law_last","_law_sacks","_law_price","_law_seller","_law_buyer","_law_year"] ["_law_state_here","_law_promises_here"] (aK (top 77)):=fQS
theorem FZ(F:Fun K "_law_any_sale" "_law_any_sale" (top 77) f fd)(T:Mg mg)(Tm:mg "max"=none)(c1:Cal P w K mg base 1 "_law_take" ["_law_state_here","_law_many"] iV):FnOk P w K mg base CX0 2 f fd ["_law_state_here","_law_promises_here"] Eb:=by
 refine F.ok sc38s (fun vs H Q E h=>?_) (fun ar A outer s H vs Q E hr h=>?_)
 .obtain⟨st,ap,xp,ps,rfl,_⟩:=h;rfl
 .obtain⟨st,ap,xp,ps,rfl,cx,rp,lp,okp,q⟩:=h
  refine⟨_,aA (pss 2 sc38s.nd (aG c1 hr (au (pv 0) (au (aQ (nW rfl) rfl Tm yu (au az (au (aQ aZ rfl T.len PySem.boot_len (au (pv 1) aj)) aj))) aj))))
   (aA (cz (pX bK (aR wH (pv 1) (bT (au (bT (j8 (by repeat constructor))) aj))) (pv 2)) (bI rfl (aq (pgn 3 sc38s.nd) (aq (pgn 4 sc38s.nd) (aq (pgn 5 sc38s.nd)
    (aq (pgn 6 sc38s.nd) (aq (pgn 7 sc38s.nd) (aq (pgn 8 sc38s.nd) aY))))))))
   (aA (pss 9 sc38s.nd (pX bG (cR (au (pv 3) (au (pv 3) (au (aG c1 hr (au (pv 0) (au az aj))) aj)))) (aG c1 hr (au (pv 0) (au az aj)))))
   (aA (pss 10 sc38s.nd (aR fX (aR bw (aR bw (pv 9) az) (aG c1 hr (au (pv 0) (au az aj)))) az))
   (aA (pss 11 sc38s.nd (aR bw (pv 5) (aG c1 hr (au (pv 0) (au (aR bw (aR cN (pv 6) (pv 5)) az) aj)))))
   (aC (aU (DN (uI (j9 ⟨pv 2⟩ (j9 ⟨pv 9⟩ (j9 ⟨pv 10⟩ (j9 ⟨aR bw az (aG c1 hr (au (pv 0) (au (pv 7) aj)))⟩ (j9 ⟨pv 11⟩ fY))))))))))))),?_⟩
  have g0:Dr st H H:=⟨But.refl,cx⟩
  have QR:xp.length<=10:=by rw[rp.l];exact lp
  refine aD (aX ?_);refine⟨_,rfl,_,rfl,ap,xp,rfl,.inr (SqT.of rp.e),_,_,rfl,st,_,rfl,cx,?_,?_,fun r1 a1 b1 r0 rn k1 k2 k3=>?_⟩
  .split<;>lia
  .split<;>lia
  have g1:=g0.take k1 k2 k3;have rV:=g1.rows cx rp;have QS:r1.toNat<xp.length+1:=by split at rn<;>lia
  generalize upd H st (.lst [.int a1,.int b1])=H1 at g1 rV⊢;refine aN ?_;dsimp only;refine aD ?_;refine⟨_,rfl,zL,fun t0 Js=>⟨zL,fun t1 pT=>?_⟩⟩;have g2:=(g1.new (o:=.tup (([0,0,0,3,9,0]:List Int).map V.int)) Js).new (o:=.tup [V.ref t0]) pT;have m2:Same H1 (upd (upd H1 t0 (.tup (([0,0,0,3,9,0]:List Int).map V.int))) t1 (.tup [V.ref t0])):=(Same.upd Js).updR pT;have Jt:=Same.upd (o:=.tup [V.ref t0]) pT t0 (.tup (([0,0,0,3,9,0]:List Int).map V.int)) ao;have xh:upd (upd H1 t0 (.tup (([0,0,0,3,9,0]:List Int).map V.int))) t1 (.tup [V.ref t0]) t1=some (.tup [V.ref t0]):=ao;generalize upd (upd H1 t0 (.tup (([0,0,0,3,9,0]:List Int).map V.int))) t1 (.tup [V.ref t0])=H2 at g2 m2 Jt xh⊢;refine⟨ap,t1,xp,_,rfl,rfl,m2 _ _ rV.e,xh,by simp,by rw[sizeLine_eq];show xp.length+1<=_;lia,fun c H3 s3 ec=>?_⟩;have g3:=g2.same s3;have Mm:=pq ((rV.same m2).same s3) (s3 _ _ Jt) ec
  have DH:∀r∈ps++[[0,0,0,3,9,0]],okP r:=fun r hr=>by
   rcases zA6.mp hr with z|z
   .exact okp r z
   .rw[List.mem_singleton.mp z];exact⟨rfl,by decide,by decide,by decide,by decide,by decide⟩
  obtain⟨p,hp,_,op⟩:=gj (n:=r1) DH r0 (by rw[zA2,<-rp.l];show r1<((xp.length+1:Nat):Int);lia);obtain⟨tp,fk,dP⟩:=gk Mm r0 hp;rw[dW op.1]at dP;obtain⟨_,⟨p1,p2⟩,_,⟨p3,p4,p5⟩,⟨p6,p7⟩,_⟩:=id op;refine⟨_,rfl,c,_,r1,.ref tp,rfl,rfl,SqT.of ec,fk,?_⟩;refine⟨tp,_,rfl,SqT.of dP,rfl,_,_,rfl,_,_,rfl,_,_,rfl,_,_,rfl,_,_,rfl,_,_,rfl,rfl,?_⟩;dsimp only;refine aD (aX ?_);refine⟨_,rfl,_,rfl,_,rfl,st,8,rfl,g3.sa,by decide,by decide,fun r2 a2 b2 i0 i1 k4 k5 k6=>⟨zL,fun l1 dA=>?_⟩⟩;have g4:=(g3.take k4 k5 k6).new (o:=.lst [V.int (fl p 0),V.int (fl p 0),V.int r2]) dA;have n4:=(g3.take k4 k5 k6).ne dA;refine⟨_,rfl,st,3,rfl,g4.sa,by decide,by decide,fun r3 a3 b3 i2 i3 k7 k8 k9=>?_⟩
  obtain⟨sl,Mn,QT,nB⟩:∃sl:Int,atI [V.int (fl p 0),V.int (fl p 0),V.int r2] r3=some (.int sl)/\0<=sl/\sl<8:=by
   have:r3=0\/r3=1\/r3=2:=Zz
   rcases this with rfl|rfl|rfl
   .exact⟨_,rfl,p1,p2⟩
   .exact⟨_,rfl,p1,p2⟩
   .exact⟨_,rfl,i0,i1⟩
  have g5:=g4.take k7 k8 k9;refine⟨l1,_,r3,.int sl,rfl,rfl,SqL.of (by rw[aB n4];exact ao),Mn,?_⟩;refine aN ?_;dsimp only;refine aD (aX ?_);refine⟨_,rfl,_,_,rfl,rfl,_,rfl,st,7,rfl,g5.sa,by decide,by decide,fun r4 a4 b4 i4 i5 m1 Mo m3=>⟨_,_,rfl,rfl,_,_,rfl,rfl,(by show(0:Int)<8;decide),?_⟩⟩;have g6:=g5.take m1 Mo m3;refine aN ?_;dsimp only;refine aD (aX ?_);refine⟨_,rfl,_,rfl,_,rfl,_,rfl,_,_,rfl,rfl,_,_,rfl,rfl,st,_,rfl,g6.sa,Zz,Zz,fun r5 a5 b5 i6 i7 m4 m5 m6=>⟨_,_,rfl,rfl,?_⟩⟩;have g7:=g6.take m4 m5 m6;refine aN ?_;dsimp only;refine⟨_,rfl,_,rfl,_,rfl,_,rfl,_,rfl,st,_,rfl,g7.sa,p6,Zz,fun r6 a6 b6 i8 i9 m7 m8 m9=>⟨_,_,rfl,rfl,_,rfl,zL,fun t ht=>?_⟩⟩;have g8:=g7.take m7 m8 m9;refine q t [r1,sl,(sl+1+r4) % 8,1+r6,fl p 2+r5] _ (g8.new ht) ao ⟨rfl,fun i hi=>?_⟩;simp only[List.mem_cons,List.not_mem_nil,or_false]at hi
  have e8:0<=(sl+1+r4) % 8/\(sl+1+r4) % 8<8:=⟨Int.emod_nonneg _ Zx,Int.emod_lt_of_pos _ Zx⟩
  lia
theorem sc39s:FnScope ["_law_state_here","_law_promises_here","_law_most","_law_found","_law_turn","_law_more"] ["_law_state_here","_law_promises_here","_law_most"] (aK (top 78)):=fQS
theorem sc40s:FnScope ["_law_state_here","_law_years","_law_most","_law_sales_here","_law_clips_here","_law_promises_here"] ["_law_state_here","_law_years","_law_most","_law_sales_here"] (aK (top 79)):=fQS
def okC(r:List Int):Prop:=r.length=3/\∀x∈r,0<=x/\x<1000
def HB(st:Addr)(H:Hp)(n:Int)(v:V)(H':Hp):Prop:=∃cs:List (List Int),But st H H'/\iC H' st/\IsTh (fun _=>False) H' v (bU cs)/\1<=cs.length/\(cs.length:Int)<=n/\∀r∈cs,okC r
inductive SpClipsRI(vs:List V)(H:Hp)(Q:VK):Prop
 |mk:∀st n,(vs=[.ref st,.int n])->(iC H st)->(1<=n)->(n<=20)->(∀v H',HB st H n v H'->Q v H')->SpClipsRI  vs H Q
def tY:Sp:=fun vs H Q _=>SpClipsRI  vs H Q
inductive SpSalesUI(vs:List V)(H:Hp)(Q:VK):Prop
 |mk:∀st ap xp ps n,(vs=[.ref st,.ref ap,.int n])->(iC H st)->(RowsAt H ap xp ps)->(ps.length<=10)->((∀r∈ps,okP r))->(0<=n)->(n<=12)->(∀a xs ss H',Dr st H H'->RowsAt H' a xs ss->(ss.length:Int)<=n->(∀s∈ss,smR s)->un ps ss=none->Q (.ref a) H')->SpSalesUI  vs H Q
def tZ:Sp:=fun vs H Q _=>SpSalesUI  vs H Q
inductive SpBookRI(vs:List V)(H:Hp)(Q:VK):Prop
 |mk:∀(st:Addr) (y m k:Int),(vs=[.ref st,.int y,.int m,.int k])->(iC H st)->(1<=y)->(y<=20)->(1<=m)->(m<=10)->(0<=k)->(k<=12)->(∀a ac xc cs ap xp ps af xs ss H',Dr st H H'->H' a=some (.tup [.ref ac,.ref ap,.ref af])->RowsAt H' ac xc cs->1<=cs.length->(cs.length:Int)<=y->(∀r∈cs,okC r)->RowsAt H' ap xp ps->(ps.length:Int)<=m->(∀r∈ps,okP r)->RowsAt H' af xs ss->(ss.length:Int)<=k->(∀s∈ss,smR s)->un ps ss=none->Q (.ref a) H')->SpBookRI  vs H Q
def wI:Sp:=fun vs H Q _=>SpBookRI  vs H Q
theorem yw(F:Fun K "_law_clips" "_law_clips" (top 71) f fd)(T:Mg mg)(Tr:mg "range"=none)(c1:Cal P w K mg base 1 "_law_take" ["_law_state_here","_law_many"] iV):FnOk P w K mg base CX0 2 f fd ["_law_state_here","_law_most"] tY:=by
 refine F.ok sc21 (fun vs H Q E h=>?_) (fun ar A outer s H vs Q E hr h=>?_)
 .obtain⟨st,n,rfl,_⟩:=h;rfl
 .obtain⟨st,n,rfl,cx,n1,n2,q⟩:=h
  refine⟨_,aA (pP (i:=2) sc21.nd rfl (Or.inr rfl) (pX bG (cR (j8 (by repeat constructor))) (aG c1 hr (au (pv 0) (au az aj)))))
   (aA (pss 3 sc21.nd (cR aj))
   (aA (cP zB5 rfl (di rfl Tr (au (aR bw az (aG c1 hr (au (pv 0) (au (pv 1) aj)))) aj)) (pgn 4 sc21.nd)
    (aC (cD (ou zBg zBf zBe dZ (pv 3) (au (bJ bA rfl T.tuple boot_tuple (au
     (bW ["_law_sort","_law_state_here","_law_wide"] [none,some 0,some 2] rfl (di rfl Tr (au az aj))
      (fun C fp Zt s₂ H₂=>⟨pgn 0 J5,cu,aG c1 hr (au (pv 1) (au (pX (tE (K:=K) rfl) (cR (au (pv 2) (au az (au (pv 2) (au az aj))))) (aG c1 hr (au (pv 1) (au az aj)))) aj))⟩)
      (fun C=>cI (cI trivial)) ⟨rfl,rfl,rfl,rfl⟩) aj)) aj)))))
   (aC (aU (bJ bA rfl T.tuple boot_tuple (au (pv 3) aj)))))),?_⟩
  obtain⟨a,b,es,h1,h2,h3⟩:=id cx;refine aD (aX ?_);refine⟨zL,fun p hp=>?_⟩
  have np:p≠st:=fun z=>by
   rw[z,es]at hp;cases hp
  have kD:∀o,upd H p o st=some (.lst [.int a,.int b]):=fun o=>by rw[aB np.symm];exact es
  refine⟨_,rfl,st,4,rfl,⟨a,b,kD _,h1,h2,h3⟩,by decide,by decide,fun r a1 b1 r0 r1 g1 g2 g3=>?_⟩
  obtain⟨wd,hw,w1,w2⟩:∃wd:Int,atI (([4,14,45,1000]:List Int).map V.int) r=some (.int wd)/\1<=wd/\wd<=1000:=by
   have:r=0\/r=1\/r=2\/r=3:=Zz
   rcases this with rfl|rfl|rfl|rfl
   .exact⟨4,rfl,by decide,by decide⟩
   .exact⟨14,rfl,by decide,by decide⟩
   .exact⟨45,rfl,by decide,by decide⟩
   .exact⟨1000,rfl,by decide,by decide⟩
  refine⟨p,_,r,.int wd,rfl,rfl,SqL.of (by rw[aB np];exact ao),hw,?_⟩;refine aN ?_;dsimp only;refine aD (aX ?_);refine⟨zL,fun p3 js=>?_⟩;refine aN ?_;dsimp only;refine aD ?_
  have fe:p3≠st:=fun z=>by
   rw[z,ao]at js;cases js
  refine⟨_,rfl,_,rfl,st,n,rfl,⟨a1,b1,by rw[aB fe.symm];exact ao,g1,g2,g3⟩,n1,Zz,fun r2 a2 b2 x0 x1 y1 y2 y3=>⟨_,_,rfl,rfl,1+r2,rfl,Zz,Zz,?_⟩⟩
  have mx:∀b' o',H b'=some o'->b'≠st->b'≠p/\b'≠p3:=fun b' o' e' ne=>by
   have z:b'≠p:=aH e' hp;refine⟨z,fun z2=>?_⟩;rw[<-z2,aB ne,aB z,e']at js;cases js
  refine cT (lo:=0) (n:=(1+r2).toNat) (fun i σ H'=>∃xs,∃ds:List (List Int),∃x4,σ=[some (.ref st),some (.int n),some (.int wd),some (.ref p3),x4]/\But st H H'/\iC H' st/\H' p3=some (.lst xs)/\IsThs (fun _=>False) H' xs (ds.map cA)/\(∀r∈ds,okC r)/\ds.length=i/\xs.length=i) ?_ ?_ ?_
  .refine⟨[],[],none,rfl,fun b' o' e' ne=>?_,⟨a2,b2,ao,y1,y2,y3⟩,?_,.nil,(fun r hr=>by cases hr),rfl,rfl⟩
   .obtain⟨k1,k2⟩:=mx b' o' e' ne;rw[aB ne,aB k2,aB ne,aB k1];exact e'
   .rw[aB fe];exact ao
  .rintro i σ H' hi ⟨xs,ds,x4,rfl,bt,sa,e3,ts,tm,hs,hl⟩;refine aN ?_;refine⟨_,rfl,.inl ⟨rfl,_,SqL.of e3⟩,3,rfl,by decide,by decide,?_⟩;refine⟨fun j m ys Ju H2=>m=3-j/\j<=3/\∃is x0,ys=is.map V.int/\is.length=j/\(∀v∈is,0<=v/\v<1000)/\Ju=[x0,some (.ref st),some (.int wd)]/\But st H' H2/\iC H2 st,⟨3,rfl,by decide,[],none,rfl,rfl,(fun _ h=>nomatch h),rfl,fun _ _ e _=>e,sa⟩,?_⟩;rintro j m ys Ju H2 ⟨rfl,hj,is,x0,rfl,DI,hv,rfl,Ap,Jv⟩;refine⟨by rw[zA1,DI,sizeLine_eq];lia,?_⟩;by_cases aI:j<3
   .refine .inr ⟨aI,fun x H3 y=>?_⟩;obtain⟨e5,e6⟩:=y;subst e5;subst e6;refine aN ?_;obtain⟨a5,b5,e7,k1,k2,k3⟩:=Jv;refine⟨_,rfl,_,rfl,_,rfl,zL,fun p4 DJ=>?_⟩
    have Jw:p4≠st:=fun z=>by
     rw[z,e7]at DJ;cases DJ
    refine⟨_,rfl,st,4,rfl,⟨a5,b5,by rw[aB Jw.symm];exact e7,k1,k2,k3⟩,by decide,by decide,fun r3 a6 b6 z0 z1 l1 l2 l3=>?_⟩
    obtain⟨wn,Mp,u1,u2⟩:∃wn:Int,atI [V.int wd,V.int 1,V.int wd,V.int 3] r3=some (.int wn)/\1<=wn/\wn<=1000:=by
     have:r3=0\/r3=1\/r3=2\/r3=3:=Zz
     rcases this with rfl|rfl|rfl|rfl
     .exact⟨wd,rfl,w1,w2⟩
     .exact⟨1,rfl,by decide,by decide⟩
     .exact⟨wd,rfl,w1,w2⟩
     .exact⟨3,rfl,by decide,by decide⟩
    refine⟨p4,_,r3,.int wn,rfl,rfl,SqL.of (by rw[aB Jw];exact ao),Mp,st,wn,rfl,⟨a6,b6,ao,l1,l2,l3⟩,u1,Zz,fun r4 a7 b7 v0 v1 m1 m2 m3=>?_⟩;refine⟨3-(j+1),Zz,rfl,aI,is++[r4],_,by rw[zA4];rfl,by rw[zA2,DI];rfl,fun v Mq=>?_,rfl,fun b' o' e' ne=>?_,⟨a7,b7,ao,m1,m2,m3⟩⟩
    .rcases zA6.mp Mq with z|z
     .exact hv v z
     .rw[List.mem_singleton.mp z];lia
    .have e8:=Ap b' o' e' ne;rw[aB ne,aB ne,aB (aH e8 DJ)];exact e8
   .have e5:j=3:=Zz
    subst e5;have e9:=Ap _ _ e3 fe;refine .inl ⟨zA3 _,fun D hD=>⟨D,_,rfl,.inl ⟨SqL.of ao,fun l iS=>?_⟩⟩⟩;have sm:Same H2 (upd (upd H2 D (.lst (is.map V.int))) l (.tup (is.map V.int))):=(Same.upd hD).updR iS;refine⟨p3,xs,.ref l,rfl,rfl,sm _ _ e9,by rw[hl,sizeLine_eq];lia,?_⟩
    have vx:l≠p3:=fun z=>by
     rw[z,Same.upd hD _ _ e9]at iS;cases iS
    have tk:∀c l',(upd (upd H2 D (.lst (is.map V.int))) l (.tup (is.map V.int))) c=some (.tup l')->(upd (upd (upd H2 D (.lst (is.map V.int))) l (.tup (is.map V.int))) p3 (.lst (xs++[.ref l]))) c=some (.tup l'):=fun c l' e'=>by
     have:c≠p3:=fun z=>by
      rw[z,sm _ _ e9]at e';cases e'
     rw[aB this];exact e'
    refine⟨xs++[.ref l],ds++[is],_,rfl,fun b' o' e' ne=>?_,?_,ao,?_,?_,?_,by rw[zA2,hl];rfl⟩
    .have k4:=(mx b' o' e' ne).2;rw[aB k4];exact sm _ _ (Ap _ _ (bt b' o' e' ne) ne)
    .obtain⟨a5,b5,e7,k1,k2,k3⟩:=Jv;exact⟨a5,b5,by rw[aB fe.symm];exact sm _ _ e7,k1,k2,k3⟩
    .rw[zA4];refine IsThs.append ?_ (.cons (.tup (by rw[aB vx];exact ao) (IsThs.ints is)) .nil)
     have Mr:IsThs (fun _=>False) H2 xs (ds.map cA):=ts.keep (fun c l' e'=>Ap c _ e' (fun z=>by
      obtain⟨a5,b5,e7,_⟩:=sa;rw[z,e7]at e'
      cases e')) (fun _ _ z _=>z.elim) fun _ _ z _=>z.elim
     exact(Mr.same sm).keep tk (fun _ _ z _=>z.elim) fun _ _ z _=>z.elim
    .intro r hr;rcases zA6.mp hr with z|z
     .exact tm r z
     .rw[List.mem_singleton.mp z];exact⟨DI,hv⟩
    .rw[zA2,hs];rfl
  .rintro σ H' ⟨xs,ds,x4,rfl,bt,sa,e3,ts,tm,hs,hl⟩;refine⟨_,rfl,p3,xs,rfl,.inl ⟨SqL.of e3,fun l jv=>q _ _ ⟨ds,fun b' o' e' ne=>?_,?_,.tup ao ?_,Zz,Zz,tm⟩⟩⟩
   .rw[aB (aH (bt b' o' e' ne) jv)];exact bt b' o' e' ne
   .obtain⟨a',b',e',j1,j2,j3⟩:=sa;exact⟨a',b',by rw[aB (aH e' jv)];exact e',j1,j2,j3⟩
   .exact(ts.same (Same.upd jv)).keep (fun _ _ e=>e) (fun _ _ z _=>z.elim) fun _ _ z _=>z.elim
theorem Ax{u:Option Nat}(h:decide (unV u=.non)=true):u=none:=by
 have:=zB4 h
 cases u with
 |none=>rfl
 |some n=>cases this
theorem yx(F:Fun K "_law_sales" "_law_sales" (top 78) f fd)(T:Mg mg)(Tr:mg "range"=none)(c1:Cal P w K mg base 1 "_law_take" ["_law_state_here","_law_many"] iV)(c2:Cal P w K mg base 2 "_law_any_sale" ["_law_state_here","_law_promises_here"] Eb)(c3:Cal P w K mg base 2 "_law_sold" ["_law_promises_here","_law_sales_here"] Av):
  FnOk P w K mg base CX0 3 f fd ["_law_state_here","_law_promises_here","_law_most"] tZ:=by
 refine F.ok sc39s (fun vs H Q E h=>?_) (fun ar A outer s H vs Q E hr h=>?_)
 .obtain⟨st,ap,xp,ps,n,rfl,_⟩:=h;rfl
 .obtain⟨st,ap,xp,ps,n,rfl,cx,rp,lp,okp,n0,n1,q⟩:=h
  refine⟨_,aA (pss 3 sc39s.nd (Ca fY))
   (aA (cP zB5 rfl (di rfl Tr (au (aR fW (aG c1 hr (au (pv 0) (au (aR bw (pv 2) az) aj))) (bJ xK rfl T.int boot_int (au (cY lE (aQ aZ rfl T.len PySem.boot_len (au (pv 1) aj)) az (bf _)) aj))) aj)) (pgn 4 sc39s.nd)
    (aA (pss 5 sc39s.nd (aR wH (pv 3) (bT (au (aG c2 hr (au (pv 0) (au (pv 1) aj))) aj))))
    (aC (bY (bx iJ (pX bK (aG c3 hr (au (pv 1) (au (pv 5) aj))) az) dz (bf _)) (aC (pss 3 sc39s.nd (pv 5))) bh))))
   (aC (aU (pv 3)))),?_⟩
  have g0:Dr st H H:=⟨But.refl,cx⟩
  refine aD (aX ?_);refine⟨zL,fun e0 Jx=>?_⟩;have g1:=g0.new (o:=.tup []) Jx
  have r1:RowsAt (upd H e0 (.tup [])) e0 [] []:=⟨ao,rfl,fun i r e=>by simp at e⟩
  have rV:=rp.same (Same.upd (o:=.tup []) Jx);generalize upd H e0 (.tup [])=H1 at g1 r1 rV⊢;refine aN ?_;dsimp only;refine aD ?_;refine⟨_,rfl,_,rfl,_,_,rfl,rfl,st,n+1,rfl,g1.sa,Zz,Zz,fun r a1 b1 k0 kn k1 k2 k3=>?_⟩;have g2:=g1.take k1 k2 k3;have DL:=(Dr.take ⟨But.refl,g1.sa⟩ k1 k2 k3:Dr st H1 _).rows g1.sa rV;have r2:=(Dr.take ⟨But.refl,g1.sa⟩ k1 k2 k3:Dr st H1 _).rows g1.sa r1;generalize upd H1 st (.lst [.int a1,.int b1])=H2 at g2 DL r2⊢;refine⟨_,rfl,ap,xp,rfl,.inr (SqT.of DL.e),_,_,rfl,rfl,.inr ⟨_,rfl,_,_,rfl,rfl,.inl ⟨Zz,Zz⟩,_,rfl,?_,?_,?_⟩⟩
  .split<;>lia
  .split<;>lia
  refine cT (lo:=0) (fun i σ Hc=>∃a xs ss x4 x5,σ=[some (.ref st),some (.ref ap),some (.int n),some (.ref a),x4,x5]/\Dr st H Hc/\RowsAt Hc ap xp ps/\RowsAt Hc a xs ss/\ss.length<=i/\(∀s∈ss,smR s)/\un ps ss=none) ?_ ?_ ?_
  .exact⟨e0,[],[],none,none,rfl,g2,DL,r2,zA3 _,(fun _ h=>nomatch h),rfl⟩
  .rintro i σ Hc hi ⟨a,xs,ss,x4,x5,rfl,g,DM,As,ls,cc,pV⟩;have hi:i<12:=by split at hi<;>lia
   refine aN (aD ?_);refine aX ?_;refine⟨_,rfl,_,rfl,_,rfl,st,ap,xp,ps,rfl,g.sa,DM,lp,okp,fun t s' H3 d3 et sm=>⟨zL,fun t1 pT=>?_⟩⟩;have Ms:=d3.rows g.sa DM;have DO:=d3.rows g.sa As;have m4:=Same.upd (o:=.tup [V.ref t]) pT;refine⟨a,t1,xs,_,rfl,rfl,m4 _ _ DO.e,ao,by simp,by rw[As.l,sizeLine_eq];show _+1<=_;lia,fun c H5 s5 ec=>?_⟩;have Jy:=pq ((DO.same m4).same s5) (s5 _ _ (m4 _ _ et)) ec;have DS:=(Ms.same m4).same s5;have g5:=((g.trans d3).same m4).same s5
   have Jz:∀s∈ss++[s'],smR s:=fun s hs=>by
    rcases zA6.mp hs with z|z
    .exact cc s z
    .rw[List.mem_singleton.mp z];exact sm
   have l5:(ss++[s']).length<=i+1:=by rw[zA2];show ss.length+1<=_;lia
   refine aN ?_;dsimp only;refine⟨_,rfl,_,rfl,ap,xp,ps,c,_,ss++[s'],rfl,DS,lp,okp,Jy,Zz,fun s hs=>(Jz s hs).1,fun tt fo H6 s6 Mt=>?_⟩;refine⟨tt,_,1,unV (un ps (ss++[s'])),rfl,rfl,SqT.of Mt,rfl,rfl,_,rfl,jy (fun hb=>?_) fun _=>?_⟩
   .exact⟨_,rfl,c,_,ss++[s'],_,_,rfl,g5.same s6,DS.same s6,Jy.same s6,l5,Jz,Ax hb⟩
   .exact⟨a,xs,ss,_,_,rfl,g5.same s6,DS.same s6,((DO.same m4).same s5).same s6,Zz,cc,pV⟩
  .rintro σ Hc ⟨a,xs,ss,x4,x5,rfl,g,DM,As,ls,cc,pV⟩;refine⟨_,rfl,q a xs ss Hc g As ?_ cc pV⟩;split at ls<;>lia
theorem yz(F:Fun K "_law_book" "_law_book" (top 79) f fd)(T:Mg mg)(c1:Cal P w K mg base 2 "_law_clips" ["_law_state_here","_law_most"] tY)(c2:Cal P w K mg base 2 "_law_promises" ["_law_state_here","_law_most","_law_years"] tX)(c3:Cal P w K mg base 3 "_law_sales" ["_law_state_here","_law_promises_here","_law_most"] tZ):
  FnOk P w K mg base CX0 4 f fd ["_law_state_here","_law_years","_law_most","_law_sales_here"] wI:=by
 refine F.ok sc40s (fun vs H Q E h=>?_) (fun ar A outer s H vs Q E hr h=>?_)
 .obtain⟨st,y,m,k,rfl,_⟩:=h;rfl
 .obtain⟨st,y,m,k,rfl,cx,y1,y2,m1,m2,k1,k2,q⟩:=h
  refine⟨_,aA (pss 4 sc40s.nd (aG c1 hr (au (pv 0) (au (pv 1) aj))))
   (aA (pss 5 sc40s.nd (aG c2 hr (au (pv 0) (au (pv 2) (au (aQ aZ rfl T.len PySem.boot_len (au (pv 4) aj)) aj)))))
   (aC (aU (bT (au (pv 4) (au (pv 5) (au (aG c3 hr (au (pv 0) (au (pv 5) (au (pv 3) aj)))) aj))))))),?_⟩
  refine aD (aX ?_);refine⟨_,rfl,_,rfl,st,y,rfl,cx,y1,y2,fun vc H1 mc=>?_⟩;obtain⟨cs,Mu,DT,Mv,lc1,JA,okc⟩:=mc
  have d1:Dr st H H1:=⟨Mu,DT⟩
  obtain⟨ac,xc,rfl,rc⟩:=jl Mv;refine aN ?_;dsimp only;refine aD (aX ?_);have lc:=rc.l;refine⟨_,rfl,_,rfl,_,rfl,ac,xc,rfl,.inr (SqT.of rc.e),st,m,_,rfl,DT,m1,m2,Zz,Zz,fun vp H2 mp=>?_⟩;obtain⟨ps,Mw,Au,zi,QU,okp⟩:=mp
  have d2:Dr st H1 H2:=⟨Mw,Au⟩
  obtain⟨ap,xp,rfl,rp⟩:=jl zi;have xi:=d2.rows DT rc;refine aN ?_;dsimp only;refine⟨_,rfl,_,rfl,_,rfl,_,rfl,_,rfl,st,ap,xp,ps,k,rfl,Au,rp,Zz,okp,k1,k2,fun af xs ss H3 d3 rs ls cc pV=>⟨zL,fun a ha=>?_⟩⟩;have DU:=(d1.trans d2).trans d3;have ma:=Same.upd (o:=.tup [V.ref ac,V.ref ap,V.ref af]) ha;exact q a ac xc cs ap xp ps af xs ss _ (DU.new ha) ao ((d3.rows Au xi).same ma) lc1 JA okc ((d3.rows Au rp).same ma) Zz okp (rs.same ma) Zz cc pV
inductive SpRefBI(vs:List V)(H:Hp)(Q:VK):Prop
 |mk:∀S v d,(vs=[v])->(IsTh S H v d)->(sz d<=4000)->(jX d=true)->(∀H',Same H H'->Q .non H')->SpRefBI  vs H Q
def qX:Sp:=fun vs H Q _=>SpRefBI  vs H Q
inductive SpRefYI(vs:List V)(H:Hp)(Q:VK):Prop
 |mk:∀ac xc cs y,(vs=[.ref ac,.int y])->(RowsAt H ac xc cs)->(0<=y)->(y<cs.length)->(∀H',Same H H'->Q .non H')->SpRefYI  vs H Q
def Ay:Sp:=fun vs H Q _=>SpRefYI  vs H Q
theorem HF:FnScope ["thing","least","most"] ["thing","least","most"] (aK (top 11)):=fQS
theorem nO(F:Fun K "is_whole_from" "is_whole_from" (top 11) f fd)(c1:Cal P w K mg base 1 "is_whole" ["thing"] (spT cX)):FnOk P w K mg base CX0 2 f fd ["thing","least","most"] (jC kW):=by
 refine F.ok HF (fun vs H Q E h=>?_) (fun ar A outer s H vs Q E hr h=>?_)
 .obtain⟨S,v,d,n,m,rfl,_⟩:=h;rfl
 .obtain⟨S,v,d,n,m,rfl,th,hz,q⟩:=h;refine⟨_,aC (aU (cg (aG c1 hr (aP (pv 0) aj)) (cV (cQ bH bH (pv 1) (pv 0) (pv 2))))),?_⟩;refine⟨_,rfl,S,v,d,rfl,th,hz,fun H1 s1=>⟨_,rfl,?_⟩⟩;have fin:=q H1 s1;unfold kW at fin
  cases e:cX d with
  |false=>
   rw[e]at fin;exact bF fin
  |true=>
   rw[e]at fin;obtain⟨i,rfl,rfl⟩:=jE th e;exact bN (bO (dw rfl) (dw rfl) (dw rfl) _ fin)
theorem HJ:FnScope ["thing"] ["thing"] (aK (top 34)):=fQS
theorem CW(F:Fun K "refuse_no_book" "refuse_no_book" (top 34) f fd)(c1:Cal P w K mg base 6 "is_book" ["thing"] (spT jX)):FnOk P w K mg base CX0 7 f fd ["thing"] qX:=by
 refine F.ok HJ (fun vs H Q E h=>?_) (fun ar A outer s H vs Q E hr h=>?_)
 .obtain⟨S,v,d,rfl,_⟩:=h;rfl
 .obtain⟨S,v,d,rfl,th,hz,hb,q⟩:=h;refine⟨_,aC (bY (bZ (dB (aG c1 hr (aP (pv 0) aj)))) (aC gD) bh),?_⟩;refine⟨_,rfl,S,v,d,rfl,th,hz,fun H1 s1=>⟨_,rfl,?_⟩⟩;rw[hb];exact bF (q _ s1)
theorem HN:FnScope ["clips","year"] ["clips","year"] (aK (top 51)):=fQS
theorem CZ(F:Fun K "refuse_no_year_of" "refuse_no_year_of" (top 51) f fd)(T:Mg mg)(c1:Cal P w K mg base 2 "is_whole_from" ["thing","least","most"] (jC kW)):FnOk P w K mg base CX0 3 f fd ["clips","year"] Ay:=by
 refine F.ok HN (fun vs H Q E h=>?_) (fun ar A outer s H vs Q E hr h=>?_)
 .obtain⟨ac,xc,cs,y,rfl,_⟩:=h;rfl
 .obtain⟨ac,xc,cs,y,rfl,rc,y0,y1,q⟩:=h;refine⟨_,aC (bY (bZ (dB (aG c1 hr (au (pv 1) (au az (au (aR cN (aQ aZ rfl T.len PySem.boot_len (au (pv 0) aj)) az) aj)))))) (aC gD) bh),?_⟩;refine⟨_,rfl,_,rfl,ac,_,rfl,.inr (SqT.of rc.e),_,_,rfl,rfl,fun _=>False,.int y,.int y,0,_,rfl,.int _,(by show 1<=4000;decide),fun H1 s1=>⟨_,rfl,?_⟩⟩
  have e:kW (.int y) 0 ((xc.length:Int)-1)=true:=by
   show(true&&(decide (0<=y)&&decide (y<=(xc.length:Int)-1)))=true;rw[zAt y0,zAt (by rw[rc.l];lia)];rfl
  rw[e];exact bF (q _ s1)
structure BookAt(H:Hp)(bk ac:Addr)(xc:List V)(cs:List (List Int))(ap:Addr)(xp:List V)(ps:List (List Int))(af:Addr)(xs:List V)(ss:List (List Int)):Prop where
 e:H bk=some (.tup [.ref ac,.ref ap,.ref af])
 rc:RowsAt H ac xc cs
 okc:∀r∈cs,r.length=3/\∀x∈r,0<=x
 lc:cs.length<=20
 rp:RowsAt H ap xp ps
 lp:ps.length<=10
 okp:∀r∈ps,okP r
 rs:RowsAt H af xs ss
 ls:ss.length<=12
 h5:∀s∈ss,s.length=5
 un:un ps ss=none
theorem BookAt.same{H H':Hp}{bk ac:Addr}{xc:List V}{cs:List (List Int)}{ap:Addr}{xp:List V}{ps:List (List Int)}{af:Addr}{xs:List V}{ss:List (List Int)}(b:BookAt H bk ac xc cs ap xp ps af xs ss)(s:Same H H'):BookAt H' bk ac xc cs ap xp ps af xs ss:=
 ⟨s _ _ b.e,b.rc.same s,b.okc,b.lc,b.rp.same s,b.lp,b.okp,b.rs.same s,b.ls,b.h5,b.un⟩
def Dc(R:List (List Int)->List (List Int)->List (List Int)->Int->VK->Hp->Prop):Sp:=fun vs H Q _=>∃S bk y d ac xc cs ap xp ps af xs ss,vs=[.ref bk,.int y]/\IsTh S H (.ref bk) d/\sz d<=4000/\jX d=true/\BookAt H bk ac xc cs ap xp ps af xs ss/\0<=y/\y<cs.length/\R cs ps ss y Q H
def HQ:List (List Int)->List (List Int)->List (List Int)->Int->VK->Hp->Prop:=fun _ _ _ _ Q H=>∀H',Same H H'->Q .non H'
theorem HR:FnScope ["book","year"] ["book","year"] (aK (top 52)):=fQS
theorem Az(F:Fun K "refuse_no_year" "refuse_no_year" (top 52) f fd)(c1:Cal P w K mg base 7 "refuse_no_book" ["thing"] qX)(c2:Cal P w K mg base 3 "refuse_no_year_of" ["clips","year"] Ay):FnOk P w K mg base CX0 8 f fd ["book","year"] (Dc HQ):=by
 refine F.ok HR (fun vs H Q E h=>?_) (fun ar A outer s H vs Q E hr h=>?_)
 .obtain⟨S,bk,y,d,ac,xc,cs,ap,xp,ps,af,xs,ss,rfl,_⟩:=h;rfl
 .obtain⟨S,bk,y,d,ac,xc,cs,ap,xp,ps,af,xs,ss,rfl,th,hz,hb,B,y0,y1,q⟩:=h;refine⟨_,aA (cD (aG c1 hr (au (pv 0) aj))) (aC (cD (aG c2 hr (au (pX bK (pv 0) az) (au (pv 1) aj))))),?_⟩;refine aD ?_;refine⟨_,rfl,S,_,d,rfl,th,hz,hb,fun H1 s1=>?_⟩;dsimp only;have B1:=B.same s1;exact⟨_,rfl,bk,_,0,.ref ac,rfl,rfl,SqT.of B1.e,rfl,_,rfl,ac,xc,cs,y,rfl,B1.rc,y0,y1,fun H2 s2=>q _ (s1.trans s2)⟩
theorem pC:∀(is:List Int),szs (is.map PyData.int)=is.length
 |[]=>rfl
 |i::is=>by
  show 1+szs (is.map PyData.int)=is.length+1;rw[pC is];lia
theorem jt{k:Nat}:∀{rs:List (List Int)},(∀r∈rs,r.length=k)->szs (rs.map cA)=(k+1)*rs.length
 |[],_=>rfl
 |r::rs,h=>by
  show(1+szs (r.map PyData.int))+szs (rs.map cA)=(k+1)*(rs.length+1);rw[pC,h r (.head _),jt fun q hq=>h q (.tail _ hq),Nat.mul_add];lia
theorem pF(rs:List (List Int)):rowsOf (bU rs)=rs:=by
 show(rs.map cA).map (fun x=>(items x).map intOf)=rs;rw[zAr];refine(List.map_congr_left fun r _=>?_).trans (List.map_id rs);show((r.map PyData.int)).map intOf=r;rw[zAr];exact List.map_id r
theorem jM{r:List Int}{n:Nat}(h:r.length=n):bC (cA r) n=true:=by
 show(bB (.tuple (r.map PyData.int)) n n&&(r.map PyData.int).all cX)=true;rw[zAc];refine⟨?_,List.all_eq_true.mpr fun x hx=>?_⟩
 .show(true&&(decide ((n:Int)<=(r.map PyData.int).length)&&decide (((r.map PyData.int).length:Int)<=n)))=true;rw[zA1,h,zAt (Int.le_refl _)];rfl
 .obtain⟨i,_,rfl⟩:=zA5.mp hx;rfl
theorem v5{ds:List PyData}{a b:Int}(h1:a<=ds.length)(h2:(ds.length:Int)<=b):bB (.tuple ds) a b=true:=by
 show(true&&(decide (a<=(ds.length:Int))&&decide ((ds.length:Int)<=b)))=true;rw[zAt h1,zAt h2];rfl
theorem Dd{cs ps ss:List (List Int)}(lc1:1<=cs.length)(lc:cs.length<=20)(okc:∀r∈cs,okC r)(lp:ps.length<=10)(okp:∀r∈ps,okP r)(ls:ss.length<=12)(h5:∀s∈ss,s.length=5)(hu:un ps ss=none):jX (.tuple [bU cs,bU ps,bU ss])=true:=by
 have b0:gP (bU cs)=true:=by
  show(bB (.tuple (cs.map cA)) 1 20&&(cs.map cA).all oR)=true;rw[v5 (by rw[zA1];lia) (by rw[zA1];lia),Bool.true_and];refine List.all_eq_true.mpr fun x hx=>?_;obtain⟨r,hr,rfl⟩:=zA5.mp hx;obtain⟨h3,hb⟩:=okc r hr;show(bC (cA r) 3&&(r.map PyData.int).all fun x=>decide (0<=intOf x)&&decide (intOf x<=999))=true;rw[show bC (cA r) 3=true from jM h3,Bool.true_and];refine List.all_eq_true.mpr fun x hx=>?_;obtain⟨i,hi,rfl⟩:=zA5.mp hx;have:=hb i hi;show(decide (0<=i)&&decide (i<=999))=true;rw[zAt Zz,zAt Zz];rfl
 have b1:dM (bU ps)=true:=by
  show(bB (.tuple (ps.map cA)) 0 10&&(ps.map cA).all ji)=true;rw[v5 Zz (by rw[zA1];lia),Bool.true_and];refine List.all_eq_true.mpr fun x hx=>?_;obtain⟨r,hr,rfl⟩:=zA5.mp hx;obtain⟨h6,h1,h2,h3,h4,Mx⟩:=okp r hr;show(bC (cA r) 6&&qI (at_ (cA r) 0) (at_ (cA r) 1) (at_ (cA r) 2) (at_ (cA r) 3) (at_ (cA r) 4) (at_ (cA r) 5))=true;rw[show bC (cA r) 6=true from jM h6,Bool.true_and]
  have ea:∀i,i<6->at_ (cA r) i=fl r i:=fun i hi=>by
   unfold at_ fl;show intOf ((r.map PyData.int).getD i .none)=r.getD i 0;rw[zA7,zA7,zAb,zA0 Zz];rfl
  rw[ea 0 Zx,ea 1 Zx,ea 2 Zx,ea 3 Zx,ea 4 Zx,ea 5 Zx];unfold qI;simp only[Bool.and_eq_true,Zp];exact⟨h1,h2,⟨h3.1,h3.2.1,h3.2.2⟩,h4,Mx⟩
 have b2:dN (bU ss)=true:=by
  show(bB (.tuple (ss.map cA)) 0 12&&(ss.map cA).all fun x=>bC x 5)=true;rw[v5 Zz (by rw[zA1];lia),Bool.true_and];refine List.all_eq_true.mpr fun x hx=>?_;obtain⟨r,hr,rfl⟩:=zA5.mp hx;exact jM (h5 r hr)
 show(bB (.tuple [bU cs,bU ps,bU ss]) 3 3&&(gP (bU cs)&&(dM (bU ps)&&(dN (bU ss)&&(un (rowsOf (bU ps)) (rowsOf (bU ss))).isNone))))=true;rw[b0,b1,b2,pF,pF,hu];rfl
def Ec:List (List Int)->List (List Int)->List (List Int)->Int->VK->Hp->Prop:=fun cs ps ss y Q H=>∀k xk H',Same H H'->H k=none->k≠sysModules->H' k=some (.lst xk)->Els H' xk (dh cs ps ss (y.toNat+1))->Q (.ref k) H'
def HS(R:List (List Int)->List (List Int)->List (List Int)->Int->VK->Hp->Prop):Sp:=fun vs H Q _=>∃bk y ac xc cs ap xp ps af xs ss,vs=[.ref bk,.int y]/\BookAt H bk ac xc cs ap xp ps af xs ss/\0<=y/\y<cs.length/\R cs ps ss y Q H
theorem scYF1:FnScope ["book","year","gifts","owed","left"] ["book","year"] (aK (top 64)):=fQS
theorem Ba(F:Fun K "owed_behind" "owed_behind" (top 64) f fd)(c2:Cal P w K mg base 10 "years_given" ["book","year"] qU):FnOk P w K mg base CX0 11 f fd ["book","year"] (HS Ec):=by
 refine F.ok scYF1 (fun vs H Q E h=>?_) (fun ar A outer s H vs Q E hr h=>?_)
 .obtain⟨bk,y,ac,xc,cs,ap,xp,ps,af,xs,ss,rfl,_⟩:=h;rfl
 .obtain⟨bk,y,ac,xc,cs,ap,xp,ps,af,xs,ss,rfl,B,y0,y1,q⟩:=h
  refine⟨_,aA (cz (pX bG (aG c2 hr (au (pv 0) (au (pv 1) aj))) (pv 1)) (bI rfl (aq (pgn 2 scYF1.nd) (aq (pgn 3 scYF1.nd) (aq (pgn 4 scYF1.nd) aY)))))
   (aC (aU (pv 3))),?_⟩
  refine aD ?_;refine⟨_,rfl,_,rfl,bk,y,ac,xc,cs,ap,xp,ps,af,xs,ss,rfl,B.e,B.rc,B.okc,Nat.le_trans B.lc Zx,y0,y1,B.rp,B.lp,B.okp,B.rs,B.ls,B.h5,B.un,fun l ts H2 s2 nl el lt hy=>?_⟩;have hl:y.toNat<ts.length:=Zz
  obtain⟨g,k,tl,xg,xk,e1,n1,n2,d1,d2,e2,e3,e4,e5,e6,e7⟩:=hy y.toNat ts[y.toNat] (zA0 hl)
  have fk:atI (ts.map V.ref) y=some (.ref ts[y.toNat]):=by
   have:(ts.map V.ref)[y.toNat]?=some (.ref ts[y.toNat]):=by rw[zAb,zA0 hl];rfl
   have:=dC this;rw[show((y.toNat:Nat):Int)=y by lia]at this;exact this
  refine⟨_,rfl,l,_,y,.ref ts[y.toNat],rfl,rfl,SqL.of el,fk,ts[y.toNat],_,rfl,SqT.of e1,rfl,_,_,rfl,_,_,rfl,_,_,rfl,rfl,?_⟩;dsimp only;exact⟨_,rfl,q k xk H2 s2 n2 e7.2 e4 e5⟩
def bd(r:List Int):Prop:=r.length=4/\∀x∈r,0<=x/\x<=99
theorem qY{a b c d:Int}(ha:0<=a/\a<=99)(hb:0<=b/\b<=99)(hc:0<=c/\c<=99)(hd:0<=d/\d<=99):bd [a,b,c,d]:=by
 refine⟨rfl,fun x hx=>?_⟩;simp only[List.mem_cons,List.not_mem_nil,or_false]at hx;rcases hx with rfl|rfl|rfl|rfl<;>assumption
theorem Bb{r:List Int}(h:bd r):(0<=fl r 0/\fl r 0<=99)/\(0<=fl r 1/\fl r 1<=99)/\(0<=fl r 2/\fl r 2<=99)/\(0<=fl r 3/\fl r 3<=99):=by
 obtain⟨h4,h⟩:=h;rw[dI h4]at h;exact⟨h _ Zy,h _ Zy,h _ Zy,h _ Zy⟩
theorem Ed:∀{w:Int} {S:List (List Int)},∀p∈S.zip (cJ w S),p.2<=fl p.1 3:=fun{w S}=>by
 induction S generalizing w with
 |nil=>intro p hp;cases hp
 |cons r S ih=>
  intro p hp;unfold cJ at hp;rw[List.zip_cons_cons]at hp;rcases zAo.mp hp with z|z
  .rw[z];show(if w<fl r 3 then w else fl r 3)<=fl r 3;split<;>lia
  .exact ih p z
theorem Jd{c:List Int}{ps ss ow:List (List Int)}{y:Int}(y0:0<=y)(y1:y<=99)(hc:∀x∈c,0<=x)(hu:un ps ss=none)(h5:∀s∈ss,s.length=5)(okp:∀r∈ps,okP r)(hl:ps.length<=10)(ho:∀r∈ow,okO ps r)(hb:∀r∈ow,bd r):∀n,(∀r∈(yTo c ps ss ow y n).g,bd r)/\∀r∈(yTo c ps ss ow y n).k,bd r
 |0=>⟨fun r hr=>(by cases hr),fun r hr=>(by cases hr)⟩
 |n+1=>by
  obtain⟨a,b⟩:=Jd (c:=c) (y:=y) y0 y1 hc hu h5 okp hl ho hb n;have nn:=CG (y:=y) hc hu h5 okp hl ho n
  have hw:0<=c.getD n 0+(yTo c ps ss ow y n).d:=by
   have:=jr hc n;lia
  have mv:=fQ (sort:=n) (year:=y) hu h5 okp;have xt:=d8 (ss:=ss) (sort:=n) (year:=y) hl;generalize JB:c.getD n 0+(yTo c ps ss ow y n).d=w at hw
  have JC:∀p∈(aJ ps ss n y++aF ps ow n).zip (shr w (aJ ps ss n y) (aF ps ow n)),bd p.1/\0<=p.2/\p.2<=fl p.1 3:=fun p hp=>by
   obtain⟨m1,m2⟩:=List.of_mem_zip (show(p.1,p.2)∈_ from hp);have s0:=(Ag hw mv xt (fun r hr=>by have:=(fP (sort:=n) ho r hr).2.2.2;lia)).1 p.2 m2;refine⟨?_,s0,?_⟩
   .rcases zA6.mp m1 with z|z
    .obtain⟨a1,a2,a3,a4,a5,a6⟩:=wB z;obtain⟨b1,b2,b3⟩:=mv _ z;rw[dI b1];exact qY Zz Zz Zz Zz
    .exact hb _ (zAq.mp z).1
   .unfold shr at hp;rw[List.zip_append shares_len.symm]at hp;rcases zA6.mp hp with z|z
    .exact Ea hw mv xt p z
    .exact Ed p z
  refine⟨fun r hr=>?_,fun r hr=>?_⟩
  .rcases zA6.mp (show r∈(yTo c ps ss ow y n).g++eZ _ from hr)with z|z
   .exact a r z
   .rw[JB]at z;obtain⟨p,hp,rfl⟩:=zA5.mp z;obtain⟨b1,b2,b3⟩:=JC p (zAq.mp hp).1;obtain⟨g0,g1,g2,g3⟩:=Bb b1;exact qY g0 g1 g2 Zz
  .rcases zA6.mp (show r∈(yTo c ps ss ow y n).k++cO _ from hr)with z|z
   .exact b r z
   .rw[JB]at z;obtain⟨p,hp,rfl⟩:=zA5.mp z;obtain⟨b1,b2,b3⟩:=JC p (zAq.mp hp).1;obtain⟨g0,g1,g2,g3⟩:=Bb b1;exact qY g0 g1 g2 Zz
theorem HW{cs:List (List Int)}(h:∀r∈cs,r.length=3/\∀x∈r,0<=x)(n:Nat):∀x∈cs.getD n [],0<=x:=fun x hx=>by
 rw[zA7]at hx
 cases e:cs[n]? with
 |none=>rw[e]at hx;cases hx
 |some r=>rw[e]at hx;exact(h r (zB8 e)).2 x hx
theorem pG:∀{w:Int} {rs:List (List Int)},0<=w->(∀r∈rs,0<=fl r 3)->(cJ w rs).sum=min w (aM rs)
 |w,[],hw,_=>by
  show(0:Int)=min w 0;lia
 |w,r::rs,hw,h=>by
  have h0:=h r (.head _);have ih:=pG (w:=w-(if w<fl r 3 then w else fl r 3)) (rs:=rs) (by split<;>lia) fun q hq=>h q (.tail _ hq)
  have hn:0<=aM rs:=by
   unfold aM wts;refine(gm fun x hx=>?_).1;obtain⟨q,hq,rfl⟩:=zA5.mp hx;exact h q (.tail _ hq)
  have es:aM (r::rs)=fl r 3+aM rs:=rfl;unfold cJ;rw[List.sum_cons,ih,es];split<;>lia
theorem v6{w:Int}{cl:List (List Int)}(hw:0<=w)(hc:∀r∈cl,r.length=4/\1<=fl r 3/\fl r 3<=99)(hz:cl.length<=80):(bu w cl).sum=min w (aM cl):=by
 unfold bu;by_cases h:(wts cl).sum<=w
 .rw[zAv h];show(wts cl).sum=min w (wts cl).sum;lia
 .rw[zAu h]
  have ok:K53P.OkW (wts cl):=by
   refine⟨?_,by unfold wts;rw[zA1];exact hz,fun x hx=>?_⟩
   .cases oI:cl with
    |nil=>
     rw[oI]at h;exact absurd hw h
    |cons r oP=>
     unfold wts;rw[zA1,zAe];lia
   .obtain⟨r,hr,rfl⟩:=zA5.mp hx;exact(hc r hr).2
  rw[K53P.res_sum ok];show w=min w (wts cl).sum;lia
theorem fU(a b:List (List Int)):aM (a++b)=aM a+aM b:=by
 unfold aM wts;rw[zA4,List.sum_append]
theorem gY{rs:List (List Int)}(h:∀r∈rs,0<=fl r 3):0<=aM rs:=by
 unfold aM wts;refine(gm fun x hx=>?_).1;obtain⟨q,hq,rfl⟩:=zA5.mp hx;exact h q hq
theorem Df{w:Int}{cl ow:List (List Int)}(hw:0<=w)(hc:∀r∈cl,r.length=4/\1<=fl r 3/\fl r 3<=99)(hz:cl.length<=80)(ho:∀r∈ow,0<=fl r 3):(shr w cl ow).sum=min w (aM cl+aM ow):=by
 unfold shr;have h1:=v6 hw hc hz;have h2:=pG (w:=w-(bu w cl).sum) (rs:=ow) Zz ho
 have h3:=gY (rs:=cl) fun r hr=>by have:=(hc r hr).2.1;lia
 have h4:=gY ho;rw[List.sum_append,h2,h1];lia
theorem u9:∀{rs:List (List Int)} {sh:List Int},sh.length=rs.length->(∀p∈rs.zip sh,p.2<=fl p.1 3)->aM (cO (rs.zip sh))=aM rs-sh.sum
 |[],[],_,_=>rfl
 |[],_::_,h,_=>by simp at h
 |_::_,[],h,_=>by simp at h
 |r::rs,x::sh,h,hn=>by
  have ih:=u9 (rs:=rs) (sh:=sh) (by simpa using h) fun y hy=>hn y (by rw[List.zip_cons_cons];exact .tail _ hy);have hx:x<=fl r 3:=hn (r,x) (by rw[List.zip_cons_cons];exact .head _);have es:aM (r::rs)=fl r 3+aM rs:=rfl;rw[List.zip_cons_cons,List.sum_cons,es];unfold cO at ih⊢;by_cases hp:x<fl r 3
  .rw[zBa (p:=fun(p:List Int×Int)=>decide (p.2<fl p.1 3)) (zAt hp),zAk];have e2:∀L,aM ([fl r 0,fl r 1,fl r 2,fl r 3-x]::L)=(fl r 3-x)+aM L:=fun L=>rfl;rw[e2,ih];lia
  .rw[zB9 (p:=fun(p:List Int×Int)=>decide (p.2<fl p.1 3)) (by rw[Zp];exact hp),ih];lia
section
variable{c:List Int}{ps ss ow:List (List Int)}{y:Int}
def xD(c:List Int)(ps ss ow:List (List Int))(y:Int)(s:Nat):Int:=aM (aJ ps ss s y)+aM (aF ps ow s)-c.getD s 0
def sD(c:List Int)(ps ss ow:List (List Int))(y:Int):Nat->Int
 |0=>0
 |n+1=>sD c ps ss ow y n+xD c ps ss ow y n
theorem G3{w:Int}(hw:0<=w)(hu:un ps ss=none)(h5:∀s∈ss,s.length=5)(okp:∀r∈ps,okP r)(hl:ps.length<=10)(n:Nat):∀p∈(aJ ps ss n y++aF ps ow n).zip (shr w (aJ ps ss n y) (aF ps ow n)),p.2<=fl p.1 3:=fun p hp=>by
 unfold shr at hp;rw[List.zip_append shares_len.symm]at hp;rcases zA6.mp hp with z|z
 .exact Ea hw (fQ hu h5 okp) (d8 hl) p z
 .exact Ed p z
theorem Bc(hc:∀x∈c,0<=x)(hu:un ps ss=none)(h5:∀s∈ss,s.length=5)(okp:∀r∈ps,okP r)(hl:ps.length<=10)(ho:∀r∈ow,okO ps r)(n:Nat):
  aM (yTo c ps ss ow y (n+1)).k=aM (yTo c ps ss ow y n).k+max 0 (xD c ps ss ow y n-(yTo c ps ss ow y n).d)/\(yTo c ps ss ow y (n+1)).d=max 0 ((yTo c ps ss ow y n).d-xD c ps ss ow y n):=by
 have nn:=CG (y:=y) hc hu h5 okp hl ho n
 have hw:0<=c.getD n 0+(yTo c ps ss ow y n).d:=by
  have:=jr hc n;lia
 have mv:=fQ (sort:=n) (year:=y) hu h5 okp;have xt:=d8 (ss:=ss) (sort:=n) (year:=y) hl
 have JD:∀r∈aF ps ow n,0<=fl r 3:=fun r hr=>by have:=(fP (sort:=n) ho r hr).2.2.2;lia
 have e1:=Df hw mv xt JD;have e2:=(wz hw mv xt JD).1;have e3:=u9 (rs:=aJ ps ss n y++aF ps ow n) (sh:=shr (c.getD n 0+(yTo c ps ss ow y n).d) (aJ ps ss n y) (aF ps ow n)) (by unfold shr;rw[zA2,zA2,shares_len,eO]) (G3 hw hu h5 okp hl n);rw[fU]at e3;constructor
 .show aM ((yTo c ps ss ow y n).k++cO _)=_;rw[fU,e3,e1];unfold xD;lia
 .show c.getD n 0+(yTo c ps ss ow y n).d-aM (eZ _)=_;rw[e2,e1];unfold xD;lia
theorem Ef(hc:∀x∈c,0<=x)(hu:un ps ss=none)(h5:∀s∈ss,s.length=5)(okp:∀r∈ps,okP r)(hl:ps.length<=10)(ho:∀r∈ow,okO ps r):∀n,(yTo c ps ss ow y n).d=aM (yTo c ps ss ow y n).k-sD c ps ss ow y n
 |0=>rfl
 |n+1=>by
  have ih:=Ef hc hu h5 okp hl ho n;obtain⟨a,b⟩:=Bc (y:=y) hc hu h5 okp hl ho n;rw[a,b];show _=_-(sD c ps ss ow y n+xD c ps ss ow y n);lia
theorem HX(hc:∀x∈c,0<=x)(hu:un ps ss=none)(h5:∀s∈ss,s.length=5)(okp:∀r∈ps,okP r)(hl:ps.length<=10)(ho:∀r∈ow,okO ps r)(n:Nat):aM (yTo c ps ss ow y (n+1)).k=max (aM (yTo c ps ss ow y n).k) (sD c ps ss ow y (n+1)):=by
 have ih:=Ef (y:=y) hc hu h5 okp hl ho n;obtain⟨a,_⟩:=Bc (y:=y) hc hu h5 okp hl ho n;rw[a];show _=max _ (sD c ps ss ow y n+xD c ps ss ow y n);lia
theorem wJ{s:Nat}:∀n,aM (aF ps (yTo c ps ss ow y n).k s)=if s<n then aM (yTo c ps ss ow y (s+1)).k-aM (yTo c ps ss ow y s).k else 0
 |0=>rfl
 |n+1=>by
  have ih:=wJ (s:=s) n;have ek:∀m,(yTo c ps ss ow y (m+1)).k=(yTo c ps ss ow y m).k++cO ((aJ ps ss m y++aF ps ow m).zip (shr (c.getD m 0+(yTo c ps ss ow y m).d) (aJ ps ss m y) (aF ps ow m))):=fun m=>rfl
  have mB:∀r∈cO ((aJ ps ss n y++aF ps ow n).zip (shr (c.getD n 0+(yTo c ps ss ow y n).d) (aJ ps ss n y) (aF ps ow n))),fl (ps.getD (fl r 1).toNat []) 1=n:=fun r hr=>by
   obtain⟨p,hp,rfl⟩:=zA5.mp hr;obtain⟨m1,_⟩:=List.of_mem_zip (show(p.1,p.2)∈_ from(zAq.mp hp).1);show fl (ps.getD (fl p.1 1).toNat []) 1=n;rcases zA6.mp m1 with z|z
   .exact(wB z).2.1
   .exact zB4 (zAq.mp z).2
  have e1:aF ps (yTo c ps ss ow y (n+1)).k s=aF ps (yTo c ps ss ow y n).k s++aF ps (cO ((aJ ps ss n y++aF ps ow n).zip (shr (c.getD n 0+(yTo c ps ss ow y n).d) (aJ ps ss n y) (aF ps ow n)))) s:=by
   rw[ek n];exact List.filter_append ..
  rw[e1,fU,ih];by_cases hs:s=n
  .subst hs;rw[zAu (Nat.lt_irrefl _),zAv (Nat.lt_succ_self _),ek s,fU];have e2:aF ps (cO ((aJ ps ss s y++aF ps ow s).zip (shr (c.getD s 0+(yTo c ps ss ow y s).d) (aJ ps ss s y) (aF ps ow s)))) s=cO ((aJ ps ss s y++aF ps ow s).zip (shr (c.getD s 0+(yTo c ps ss ow y s).d) (aJ ps ss s y) (aF ps ow s))):=List.filter_eq_self.mpr fun r hr=>zAt (mB r hr);rw[e2];lia
  .have e2:aF ps (cO ((aJ ps ss n y++aF ps ow n).zip (shr (c.getD n 0+(yTo c ps ss ow y n).d) (aJ ps ss n y) (aF ps ow n)))) s=[]:=List.filter_eq_nil_iff.mpr fun r hr z=>by
    have:=mB r hr;have z:=zB4 z;rw[this]at z;lia
   rw[e2];have e0:aM []=0:=rfl;rw[e0,Int.add_zero];by_cases h:s<n
   .rw[zAv h,zAv Zz]
   .rw[zAu h,zAu Zz]
end
theorem G4{a b:List Int}(h:a.Perm b):a.sum=b.sum:=by
 induction h with
 |nil=>rfl
 |cons x _ ih=>rw[List.sum_cons,List.sum_cons,ih]
 |swap x y l=>
  rw[List.sum_cons,List.sum_cons,List.sum_cons,List.sum_cons];lia
 |trans _ _ h1 h2=>exact h1.trans h2
theorem uc{a b:List (List Int)}(h:a.Perm b):aM a=aM b:=by
 unfold aM wts;exact G4 (h.map _)
def aO(cs ps ss:List (List Int))(m:Nat):Nat->Int
 |0=>0
 |n+1=>aO cs ps ss m n+aM (aF ps (dh cs ps ss m) n)
def dlw(cs ps ss:List (List Int))(s m:Nat):Int:=aM (aJ ps ss s m)-(cs.getD m []).getD s 0
def dS(cs ps ss:List (List Int))(m:Nat):Nat->Int
 |0=>0
 |n+1=>dS cs ps ss m n+dlw cs ps ss n m
theorem Eg{cs ps ss:List (List Int)}{m:Nat}:∀n,sD (cs.getD m []) ps ss (dh cs ps ss m) m n=aO cs ps ss m n+dS cs ps ss m n
 |0=>rfl
 |n+1=>by
  show sD _ _ _ _ _ n+xD _ _ _ _ _ n=(aO cs ps ss m n+aM _)+(dS cs ps ss m n+dlw cs ps ss n m);rw[Eg n];unfold xD dlw;lia
structure BkO(cs ps ss:List (List Int)):Prop where
 okc:∀r∈cs,r.length=3/\∀x∈r,0<=x
 hl:ps.length<=10
 hu:un ps ss=none
 h5:∀s∈ss,s.length=5
 okp:∀r∈ps,okP r
theorem lw{cs ps ss:List (List Int)}(m:Nat):∀n,n<=3->aO cs ps ss (m+1) n=aM (yTo (cs.getD m []) ps ss (dh cs ps ss m) m n).k
 |0,_=>rfl
 |n+1,h=>by
  show aO cs ps ss (m+1) n+aM (aF ps (dh cs ps ss (m+1)) n)=_;rw[lw m n Zz];have e:aM (aF ps (dh cs ps ss (m+1)) n)=aM (aF ps (yTo (cs.getD m []) ps ss (dh cs ps ss m) m 3).k n):=uc ((Am _).filter _);rw[e,wJ 3,zAv Zz];lia
theorem Bd{cs ps ss:List (List Int)}(B:BkO cs ps ss)(m n:Nat)(hn:n+1<=3):aO cs ps ss (m+1) (n+1)=max (aO cs ps ss (m+1) n) (aO cs ps ss m (n+1)+dS cs ps ss m (n+1)):=by
 rw[lw m (n+1) hn,lw m n Zz,HX (HW B.okc m) B.hu B.h5 B.okp B.hl (ph B.hl B.hu B.h5 B.okp m).1 n,Eg]
theorem wK{cs ps ss:List (List Int)}:∀m,aO cs ps ss m 3=aM (dh cs ps ss m)
 |0=>rfl
 |m+1=>by
  rw[lw m 3 (zA3 _)];exact(uc (Am _)).symm
def Eh:List (List Int)->List (List Int)->List (List Int)->Int->VK->Hp->Prop:=fun cs ps ss y Q H=>∀H',Same H H'->Q (.int (aM (dh cs ps ss (y.toNat+1)))) H'
theorem Je:FnScope ["book","year"] ["book","year"] (aK (top 66)):=fQS
theorem Dg(F:Fun K "lack_by" "lack_by" (top 66) f fd)(c1:Cal P w K mg base 8 "refuse_no_year" ["book","year"] (Dc HQ))(c2:Cal P w K mg base 11 "owed_behind" ["book","year"] (HS Ec))(c3:Cal P w K mg base 1 "sacks_of" ["rows"] qP):FnOk P w K mg base CX0 12 f fd ["book","year"] (Dc Eh):=by
 refine F.ok Je (fun vs H Q E h=>?_) (fun ar A outer s H vs Q E hr h=>?_)
 .obtain⟨S,bk,y,d,ac,xc,cs,ap,xp,ps,af,xs,ss,rfl,_⟩:=h;rfl
 .obtain⟨S,bk,y,d,ac,xc,cs,ap,xp,ps,af,xs,ss,rfl,th,hz,hb,B,y0,y1,q⟩:=h;refine⟨_,aA (cD (aG c1 hr (au (pv 0) (au (pv 1) aj)))) (aC (aU (aG c3 hr (au (aG c2 hr (au (pv 0) (au (pv 1) aj))) aj)))),?_⟩;refine aD ?_;refine⟨_,rfl,_,rfl,S,bk,y,d,ac,xc,cs,ap,xp,ps,af,xs,ss,rfl,th,hz,hb,B,y0,y1,fun H1 s1=>?_⟩;dsimp only;have B1:=B.same s1;obtain⟨pj,Ma⟩:=ph (cs:=cs) B.lp B.un B.h5 B.okp (y.toNat+1);exact⟨_,rfl,_,rfl,bk,y,ac,xc,cs,ap,xp,ps,af,xs,ss,rfl,B1,y0,y1,fun k xk H2 s2 n ns e1 e2=>⟨k,xk,_,rfl,e1,e2,fun r hr=>(pj r hr).1,by have:=B.lc;lia,fun H3 s3=>q H3 ((s1.trans s2).trans s3)⟩⟩
def seg(f:Nat->Int)(a:Nat):Nat->Int
 |0=>0
 |m+1=>if a<=m then seg f a m+f m else 0
def val(δ:Nat->Nat->Int)(t:Nat->Nat)(m:Nat):Nat->Int
 |0=>0
 |n+1=>val δ t m n+seg (δ n) (t n) m
def Mono(t:Nat->Nat)(n:Nat):Prop:=∀s,s+1<n->t s<=t (s+1)
theorem Mono.le{t:Nat->Nat}{n:Nat}(h:Mono t n):∀{a b},a<=b->b<n->t a<=t b:=fun{a b} DV=>by
 induction DV with
 |refl=>exact fun _=>zA3 _
 |step _ ih=>exact fun hb=>Nat.le_trans (ih Zz) (h _ hb)
theorem wL{f:Nat->Int}{a m:Nat}(h:m<=a):seg f a m=0:=by
 cases m with
 |zero=>rfl
 |succ m=>
  show(if a<=m then _ else 0)=(0:Int);rw[zAu Zz]
theorem G5{f:Nat->Int}{a m:Nat}(h:a<=m):seg f a (m+1)=seg f a m+f m:=zAv h
theorem wM{cs ps ss:List (List Int)}(B:BkO cs ps ss)(m:Nat):∀{a b:Nat},a<=b->aO cs ps ss m a<=aO cs ps ss m b:=fun{a b} DV=>by
 induction DV with
 |refl=>exact Int.le_refl _
 |@step b h ih=>
  refine Int.le_trans ih ?_
  have:0<=aM (aF ps (dh cs ps ss m) b):=gY (rs:=aF ps (dh cs ps ss m) b) fun r hr=>by
   have:=(fP (sort:=(b:Int)) (ph B.hl B.hu B.h5 B.okp m).1 r hr).2.2.2;lia
  show aO cs ps ss m b<=aO cs ps ss m b+aM (aF ps (dh cs ps ss m) b);exact Int.le_add_of_nonneg_right this
theorem HY{cs ps ss:List (List Int)}(B:BkO cs ps ss)(m:Nat):∀i,i<=3->aO cs ps ss m i+dS cs ps ss m i<=aO cs ps ss (m+1) i
 |0,_=>Int.le_refl _
 |i+1,h=>by
  rw[Bd B m i h];lia
theorem jN{δ:Nat->Nat->Int}{t:Nat->Nat}{m:Nat}(ds:Nat->Int)(h0:ds 0=0)(hs:∀n,ds (n+1)=ds n+δ n m):∀i,(∀s,s<i->t s<=m)->val δ t (m+1) i=val δ t m i+ds i
 |0,_=>by rw[h0];rfl
 |i+1,h=>by
  show val δ t (m+1) i+seg (δ i) (t i) (m+1)=(val δ t m i+seg (δ i) (t i) m)+ds (i+1);rw[jN ds h0 hs i fun s hs=>h s Zz,G5 (h i Zz),hs];lia
theorem wN{δ:Nat->Nat->Int}{t:Nat->Nat}{m i:Nat}:∀n,i<=n->(∀s,i<=s->s<n->m<=t s)->val δ t m n=val δ t m i
 |0,h,_=>by
  have:i=0:=Zz
  rw[this]
 |n+1,h,ht=>by
  by_cases e:i=n+1
  .rw[e]
  .show val δ t m n+seg (δ n) (t n) m=_;rw[wN n Zz fun s h1 h2=>ht s h1 Zz,wL (ht n Zz Zz),Int.add_zero]
theorem Be(t:Nat->Nat)(m:Nat):∀n,Mono t n->∃i,i<=n/\(∀s,s<i->t s<=m)/\∀s,i<=s->s<n->m+1<=t s
 |0,_=>⟨0,zA3 _,fun s h=>by lia,fun s _ h=>by lia⟩
 |n+1,hm=>by
  by_cases h:t n<=m
  .exact⟨n+1,zA3 _,fun s hs=>Nat.le_trans (hm.le Zz Zz) h,fun s h1 h2=>by lia⟩
  .obtain⟨i,hi,h1,h2⟩:=Be t m n fun s hs=>hm s Zz;refine⟨i,Zz,h1,fun s hs gy=>?_⟩;by_cases e:s=n
   .rw[e];lia
   .exact h2 s hs Zz
theorem Bf{cs ps ss:List (List Int)}(B:BkO cs ps ss){t:Nat->Nat}:∀m n,n<=3->Mono t n->val (dlw cs ps ss) t m n<=aO cs ps ss m n
 |0,n,hn,_=>by
  have e:∀n,val (dlw cs ps ss) t 0 n=0:=fun n=>by
   induction n with
   |zero=>rfl
   |succ n ih=>
    show val _ t 0 n+0=0;rw[ih];rfl
  rw[e];exact wM B 0 (zAp n)
 |m+1,n,hn,hm=>by
  obtain⟨i,hi,h1,h2⟩:=Be t m n hm;rw[wN n hi h2,jN (dS cs ps ss m) rfl (fun _=>rfl) i h1];have a:=Bf B (t:=t) m i Zz fun s hs=>hm s Zz;have b:=HY B m i Zz;have c:=wM B (m+1) hi;lia
theorem wO{δ:Nat->Nat->Int}{t u:Nat->Nat}{m:Nat}:∀n,(∀s,s<n->t s=u s)->val δ t m n=val δ u m n
 |0,_=>rfl
 |n+1,h=>by
  show val δ t m n+seg (δ n) (t n) m=val δ u m n+seg (δ n) (u n) m;rw[wO n fun s hs=>h s Zz,h n Zz]
theorem val_eq{cs ps ss:List (List Int)}(B:BkO cs ps ss):∀m n,n<=3->∃t,Mono t n/\(∀s,s<n->t s<=m)/\val (dlw cs ps ss) t m n=aO cs ps ss m n
 |0,n,hn=>by
  refine⟨fun _=>0,fun _ _=>zA3 _,fun _ _=>zA3 _,?_⟩
  have e:∀n,val (dlw cs ps ss) (fun _=>0) 0 n=0:=fun n=>by
   induction n with
   |zero=>rfl
   |succ n ih=>
    show val _ _ 0 n+0=0;rw[ih];rfl
  have e2:∀n,aO cs ps ss 0 n=0:=fun n=>by
   induction n with
   |zero=>rfl
   |succ n ih=>
    show aO cs ps ss 0 n+aM (aF ps [] n)=0;rw[ih];rfl
  rw[e,e2]
 |m+1,0,_=>⟨fun _=>0,fun _ _=>zA3 _,fun s hs=>by lia,rfl⟩
 |m+1,n+1,hn=>by
  rw[Bd B m n hn];by_cases h:aO cs ps ss (m+1) n<=aO cs ps ss m (n+1)+dS cs ps ss m (n+1)
  .obtain⟨t,t1,t2,t3⟩:=val_eq B m (n+1) hn;refine⟨t,t1,fun s hs=>Nat.le_succ_of_le (t2 s hs),?_⟩;rw[jN (dS cs ps ss m) rfl (fun _=>rfl) (n+1) t2,t3];lia
  .obtain⟨t,t1,t2,t3⟩:=val_eq B (m+1) n Zz;refine⟨fun s=>if s<n then t s else m+1,fun s hs=>?_,fun s hs=>?_,?_⟩
   .show(if s<n then t s else m+1)<=(if s+1<n then t (s+1)else m+1);by_cases h1:s+1<n
    .rw[zAv h1,zAv Zz];exact t1 s h1
    .rw[zAu h1,zAv Zz];exact t2 s Zz
   .show(if s<n then t s else m+1)<=m+1;split
    .exact t2 s (by assumption)
    .exact zA3 _
   .show val _ _ (m+1) n+seg _ (if n<n then t n else m+1) (m+1)=_;rw[zAu (Nat.lt_irrefl _),wL (zA3 _),wO (u:=t) n fun s hs=>zAv hs,t3];lia
theorem Bg(f:Nat->Int)(a:Nat):∀m,(((List.range m).map f).drop a).sum=seg f a m
 |0=>by
  show(([]:List Int).drop a).sum=0;rw[List.drop_nil];rfl
 |m+1=>by
  rw[List.range_succ,zA4];show(((List.range m).map f++[f m]).drop a).sum=if a<=m then seg f a m+f m else 0;by_cases h:a<=m
  .rw[zAv h,List.drop_append_of_le_length (by rw[zA1,List.length_range];exact h),List.sum_append,Bg f a m];show _+(f m+0)=_;rw[Int.add_zero]
  .rw[zAu h,List.drop_of_length_le (by rw[zA2,zA1,List.length_range];show m+1<=a;lia)];rfl
def cF(ps ss:List (List Int))(s i:Nat):Int:=aM (aJ ps ss (s:Int) (i:Int))
def wF(cs:List (List Int))(s i:Nat):Int:=fl (cs.getD i []) s
theorem wQ{f g:Nat->Int}{a:Nat}:∀m,seg (fun j=>f j-g j) a m=seg f a m-seg g a m
 |0=>rfl
 |m+1=>by
  have ih:=wQ (f:=f) (g:=g) (a:=a) m;show(if a<=m then seg (fun j=>f j-g j) a m+(f m-g m)else 0)=(if a<=m then seg f a m+f m else 0)-(if a<=m then seg g a m+g m else 0);rw[ih];split<;>lia
theorem gZ{f:Nat->Int}(hf:∀j,0<=f j){a b:Nat}(h:a<=b):∀m,0<=seg f b m/\seg f b m<=seg f a m
 |0=>⟨Int.le_refl _,Int.le_refl _⟩
 |m+1=>by
  have ih:=gZ hf h m;have:=hf m;show 0<=(if b<=m then seg f b m+f m else 0)/\(if b<=m then seg f b m+f m else 0)<=(if a<=m then seg f a m+f m else 0);by_cases h1:b<=m
  .rw[zAv h1,zAv Zz];lia
  .rw[zAu h1];refine⟨Int.le_refl _,?_⟩;split<;>lia
theorem f9{f g:Nat->Int}{a:Nat}(h:∀j,f j<=g j):∀m,seg f a m<=seg g a m
 |0=>Int.le_refl _
 |m+1=>by
  have ih:=f9 (a:=a) h m;have:=h m;show(if a<=m then seg f a m+f m else 0)<=(if a<=m then seg g a m+g m else 0);split<;>lia
theorem wR{f g:Nat->Int}{a y:Nat}{k:Int}(h:∀j,g j=f j+(if j=y then k else 0)):∀m,seg g a m=seg f a m+(if a<=y/\y<m then k else 0)
 |0=>by
  rw[zAu Zz];rfl
 |m+1=>by
  have ih:=wR (a:=a) h m;have hm:=h m;show(if a<=m then seg g a m+g m else 0)=(if a<=m then seg f a m+f m else 0)+_;by_cases h1:a<=m
  .rw[zAv h1,zAv h1,ih,hm];by_cases h2:m=y
   .rw[zAv h2,zAu Zz,zAv Zz];lia
   .rw[zAu h2];by_cases h3:a<=y/\y<m
    .rw[zAv h3,zAv Zz];lia
    .rw[zAu h3,zAu Zz];lia
  .rw[zAu h1,zAu h1,zAu Zz];rfl
def wS(cs:List (List Int))(Y:Nat)(t:Nat->Nat):Int:=seg (wF cs 0) (t 0) (Y+1)+seg (wF cs 1) (t 1) (Y+1)+seg (wF cs 2) (t 2) (Y+1)
def cS(ps ss:List (List Int))(Y:Nat)(t:Nat->Nat):Int:=seg (cF ps ss 0) (t 0) (Y+1)+seg (cF ps ss 1) (t 1) (Y+1)+seg (cF ps ss 2) (t 2) (Y+1)
theorem Bh{cs ps ss:List (List Int)}{Y:Nat}{t:Nat->Nat}:val (dlw cs ps ss) t (Y+1) 3=cS ps ss Y t-wS cs Y t:=by
 have e:∀s,seg (dlw cs ps ss s) (t s) (Y+1)=seg (cF ps ss s) (t s) (Y+1)-seg (wF cs s) (t s) (Y+1):=fun s=>wQ (f:=cF ps ss s) (g:=wF cs s) (Y+1);show 0+seg (dlw cs ps ss 0) (t 0) (Y+1)+seg (dlw cs ps ss 1) (t 1) (Y+1)+seg (dlw cs ps ss 2) (t 2) (Y+1)=_;rw[e,e,e];unfold cS wS;lia
theorem kh{l:List Int}{s s':Nat}{v:Int}(h:s'≠s):(l.set s v).getD s' 0=l.getD s' 0:=by
 rw[zA7,zA7,List.getElem?_set_ne (Ne.symm h)]
def gB(cs:List (List Int))(y s:Nat)(k:Int):List (List Int):=cs.set y ((cs.getD y []).set s (fl (cs.getD y []) s+k))
theorem ud(cs:List (List Int))(y s:Nat)(k:Int):(gB cs y s k).length=cs.length:=List.length_set
theorem Bj{cs:List (List Int)}{y s:Nat}{k:Int}(hy:y<cs.length)(hs:s<(cs.getD y []).length)(s' j:Nat):wF (gB cs y s k) s' j=wF cs s' j+(if j=y then(if s'=s then k else 0)else 0):=by
 unfold wF gB;by_cases h:j=y
 .subst h;rw[zAv rfl]
  have e1:(cs.set j ((cs.getD j []).set s (fl (cs.getD j []) s+k))).getD j []=(cs.getD j []).set s (fl (cs.getD j []) s+k):=by
   rw[zA7,List.getElem?_set_self hy];rfl
  rw[e1];by_cases h2:s'=s
  .subst h2;rw[zAv rfl]
   have:fl ((cs.getD j []).set s' (fl (cs.getD j []) s'+k)) s'=fl (cs.getD j []) s'+k:=by
    show List.getD _ _ _=_;rw[zA7,List.getElem?_set_self hs];rfl
   exact this
  .rw[zAu h2,Int.add_zero];exact kh h2
 .rw[zAu h,Int.add_zero,zA7,List.getElem?_set_ne (Ne.symm h),zA7]
theorem qZ{cs:List (List Int)}{y s Y:Nat}{k:Int}{t:Nat->Nat}(hy:y<cs.length)(hY:y<=Y)(QV:s<3)(hs:s<(cs.getD y []).length):wS (gB cs y s k) Y t=wS cs Y t+(if t s<=y then k else 0):=by
 have e:∀s',seg (wF (gB cs y s k) s') (t s') (Y+1)=seg (wF cs s') (t s') (Y+1)+(if t s'<=y/\y<Y+1 then(if s'=s then k else 0)else 0):=fun s'=>wR (fun j=>Bj hy hs s' j) (Y+1);unfold wS;rw[e,e,e];have My:y<Y+1:=Zz
 have h3:s=0\/s=1\/s=2:=Zz
 have hand:∀q:Prop,∀[Decidable q],(if q/\y<Y+1 then(0:Int)else 0)=0:=fun q _=>by split<;>rfl
 have iq:∀q:Prop,∀[Decidable q],(if q/\y<Y+1 then k else 0)=(if q then k else 0):=fun q _=>by
  by_cases hq:q
  .rw[zAv ⟨hq,My⟩,zAv hq]
  .rw[zAu (fun z=>hq z.1),zAu hq]
 rcases h3 with rfl|rfl|rfl
 .rw[zAv rfl,zAu (show¬(1=0) by decide),zAu (show¬(2=0) by decide),hand,hand,iq];lia
 .rw[zAu (show¬(0=1) by decide),zAv rfl,zAu (show¬(2=1) by decide),hand,hand,iq];lia
 .rw[zAu (show¬(0=2) by decide),zAu (show¬(1=2) by decide),zAv rfl,hand,hand,iq];lia
theorem rm{cs:List (List Int)}{y s:Nat}{k:Int}(okc:∀r∈cs,okC r)(hy:y<cs.length)(hs:s<3)(h0:0<=fl (cs.getD y []) s+k)(h1:fl (cs.getD y []) s+k<1000):∀r∈gB cs y s k,okC r:=fun r hr=>by
 rcases List.mem_or_eq_of_mem_set hr with z|z
 .exact okc r z
 .rw[z];have ok:okC (cs.getD y []):=by rw[getD_get hy];exact okc _ (zAh hy)
  refine⟨by rw[List.length_set];exact ok.1,fun x hx=>?_⟩;rcases List.mem_or_eq_of_mem_set hx with z|z
  .exact ok.2 x z
  .rw[z];exact⟨h0,h1⟩
def up(g:Int)(r:List Int):List Int:=r.map fun n=>n*(100+g) / 100
def gi(g:Int)(rs:List (List Int)):Nat->List (List Int)
 |0=>rs
 |i+1=>gi g rs i++[up g ((gi g rs i).getLastD [])]
def OkR(b:Nat)(rs:List (List Int)):Prop:=∀r∈rs,r.length=3/\∀n∈r,0<=n/\n<(b:Int)
theorem gq(g:Int)(rs:List (List Int)):∀i,(gi g rs i).length=rs.length+i
 |0=>rfl
 |i+1=>by
  show(gi g rs i++[_]).length=_;rw[zA2,gq g rs i];rfl
theorem Ia{g:Int}(h1:-100<=g)(h2:g<=100){b:Nat}{r:List Int}(h:r.length=3/\∀n∈r,0<=n/\n<(b:Int)):(up g r).length=3/\∀n∈up g r,0<=n/\n<((2*b:Nat):Int):=by
 refine⟨by unfold up;rw[zA1];exact h.1,fun n hn=>?_⟩;obtain⟨m,hm,rfl⟩:=zA5.mp hn;obtain⟨a1,a2⟩:=h.2 m hm;have b1:0<=m*(100+g):=Int.mul_nonneg a1 Zz;have b2:m*(100+g)<=m*200:=Int.mul_le_mul_of_nonneg_left Zz a1;refine⟨Int.ediv_nonneg b1 Zx,?_⟩;have:m*(100+g) / 100<=m*200 / 100:=Int.ediv_le_ediv Zx b2;have e:m*200 / 100=2*m:=Zz
 push_cast
 lia
theorem G6{b c:Nat}{rs:List (List Int)}(h:OkR b rs)(QW:b<=c):OkR c rs:=fun r hr=>⟨(h r hr).1,fun n hn=>(let⟨a,b'⟩:=(h r hr).2 n hn;⟨a,Zz⟩)⟩
theorem ue{rs:List (List Int)}(h:rs≠[]):rs.getLastD []∈rs:=by
 cases rs with
 |nil=>exact absurd rfl h
 |cons a t=>
  rw[List.getLastD_eq_getLast?,List.getLast?_eq_some_getLast Zy];exact List.getLast_mem _
theorem mV{g:Int}(h1:-100<=g)(h2:g<=100){rs:List (List Int)}(h:OkR 1000 rs)(hn:rs≠[]):∀i,OkR (1000*2^i) (gi g rs i)
 |0=>by
  show OkR (1000*1) rs;exact h
 |i+1=>fun r hr=>by
  have ih:=mV h1 h2 h hn i
  have ne:gi g rs i≠[]:=fun z=>by
   have:=gq g rs i;rw[z]at this
   cases rs with
   |nil=>exact hn rfl
   |cons a t=>
    simp at this;lia
  have e:1000*2^(i+1)=2*(1000*2^i):=by rw[Nat.pow_succ];lia
  rcases zA6.mp (show r∈gi g rs i++[up g ((gi g rs i).getLastD [])]from hr)with z|z
  .rw[e];exact G6 ih Zz r z
  .rw[List.mem_singleton.mp z,e];exact Ia h1 h2 (ih _ (ue ne))
theorem Dh{K:Frag}{a:Addr}{g:Int}{r:List Int}{H0:Hp}{x0:Option V}{Fin:List V->Hp->Prop}(e:H0 a=some (.tup (r.map V.int)))(hl:r.length=3)(h1:-100<=g)(h2:g<=100)(fin:Fin ((up g r).map V.int) H0):
  jV (Itt K a) (bL 0) uF (tOp (rI Gn fun i j=>.int (i / j)) (tOp (rI CMul fun i j=>.int (i*j)) (xF 0) (tOp (rI0 fun i j=>.int (i+j)) (tC (.int 100)) (xF 1))) (tC (.int 100))) Fin [x0,some (.int g)] H0:=by
 refine dJ 3 (fun i ys σ H=>H=H0/\(∃x,σ=[x,some (.int g)])/\ys=((up g r).map V.int).take i) ⟨rfl,⟨x0,rfl⟩,rfl⟩ Zx ?_ ?_
 .rintro i ys σ H hi hy ⟨rfl,⟨x,rfl⟩,rfl⟩;refine⟨⟨_,.int (r[i]'Zz),SqT.of e,by simp⟩,fun v H' y R hR=>?_⟩;obtain⟨rfl,y2⟩:=y;have y2:=y2 _ (SqT.of e);rw[zAb,zA0 Zz]at y2;cases y2;refine aN ?_;refine⟨_,rfl,_,rfl,_,_,rfl,rfl,_,_,rfl,rfl,.inr ⟨Zz,Zz⟩,_,_,rfl,rfl,⟨by decide,by decide⟩,?_⟩;refine hR _ _ _ ⟨rfl,⟨_,rfl⟩,?_⟩;rw[zAj,zAb];unfold up;rw[zAb,zA0 Zz];rfl
 .rintro ys σ H hy ⟨rfl,_,rfl⟩;refine⟨⟨_,SqT.of e,by simp[hl]⟩,?_⟩;rw[List.take_of_length_le (by unfold up;simp[hl])];exact fin
theorem rA{S:Addr->Prop}{H:Hp}:∀{xs:List V} {r:List Int},IsThs S H xs (r.map PyData.int)->xs=r.map V.int
 |[],[],_=>rfl
 |_::_,[],h=>nomatch h
 |[],_::_,h=>nomatch h
 |x::xs,i::r,h=>by
  cases h with
  |cons a b=>
   cases a;rw[rA b];rfl
theorem uf{S S':Addr->Prop}{H:Hp}:∀{xs:List V} {rs:List (List Int)},IsThs S H xs (rs.map cA)->IsThs S' H xs (rs.map cA)
 |[],[],_=>.nil
 |_::_,[],h=>nomatch h
 |[],_::_,h=>nomatch h
 |x::xs,i::r,h=>by
  cases h with
  |cons a b=>
   cases a with
   |tup e z=>
    have:=rA z;subst this;exact .cons (.tup e (IsThs.ints _)) (uf b)
theorem yC{S:Addr->Prop}{H:Hp}{xs:List V}{rs:List (List Int)}(h:IsThs S H xs (rs.map cA))(hn:rs≠[]):∃t,atI xs (-1)=some (.ref t)/\H t=some (.tup ((rs.getLastD []).map V.int)):=by
 have el:=h.length;rw[zA1]at el;have hp:0<rs.length:=List.length_pos_iff.mpr hn
 obtain⟨v,hv⟩:∃v,xs[xs.length-1]?=some v:=⟨xs[xs.length-1]'Zz,zA0 Zz⟩
 obtain⟨d,hd,tv⟩:=h.get hv
 have e1:rs[xs.length-1]?=some (rs.getLastD []):=by
  rw[el,List.getLastD_eq_getLast?,<-List.getLast?_eq_getElem?,List.getLast?_eq_some_getLast hn];rfl
 rw[zAb,e1]at hd;cases hd
 have oq:atI xs (-1)=xs[xs.length-1]?:=by
  unfold atI ixN;rw[zAu Zx,zAv Zz];show xs[((-1:Int)+xs.length).toNat]?=_;congr 1;lia
 cases tv with
 |tup e r=>
  refine⟨_,oq.trans hv,?_⟩;rw[rA r]at e;exact e
inductive SpGrownI(vs:List V)(H:Hp)(Q:VK):Prop
 |mk:∀S v g y rs,(vs=[v,.int g,.int y])->(IsTh S H v (.tuple (rs.map cA)))->(OkR 1000 rs)->(rs≠[])->(rs.length<=20)->(-100<=g)->(g<=100)->((rs.length:Int)<=y)->(y<=100)->(∀v' H',Same H H'->IsTh (fun _=>False) H' v' (.tuple ((gi g rs (y.toNat-rs.length)).map cA))->Q v' H')->SpGrownI  vs H Q
def wU:Sp:=fun vs H Q _=>SpGrownI  vs H Q
theorem Jf:(["sacks","growth"]:List Str).Nodup:=by decide +kernel
theorem sc36:FnScope ["clips","growth","years","rows"] ["clips","growth","years"] (aK (top 58)):=fQS
theorem Bk(F:Fun K "grown" "grown" (top 58) f fd)(T:Mg mg)(Tl:mg "list"=none):FnOk P w K mg base CX0 1 f fd ["clips","growth","years"] wU:=by
 refine F.ok sc36 (fun vs H Q E h=>?_) (fun ar A outer s H vs Q E hr h=>?_)
 .obtain⟨S,v,g,y,rs,rfl,_⟩:=h;rfl
 .obtain⟨S,v,g,y,rs,rfl,th,ok,hn,hl,g1,g2,y1,y2,q⟩:=h
  refine⟨_,aA (pss 3 sc36.nd (bJ nC rfl Tl uT (au (pv 0) aj)))
   (aA (yO zB5 (bx gF (aQ aZ rfl T.len PySem.boot_len (au (pv 3) aj)) (pv 2) (bf _))
    (aC (cD (ou zBg zBf zBe dZ (pv 3) (au (bJ bA rfl T.tuple boot_tuple (au
     (bW ["sacks","growth"] [none,some 1] rfl (dD (pX bG (pv 3) (yQ uw az)))
      (fun C fp Zt s₂ H₂=>⟨pgn 0 Jf,cu,aR kZ (aR fW (pv 0) (aR bw az (pv 1))) az⟩)
      (fun C=>cI trivial) ⟨rfl,rfl,rfl,rfl⟩) aj)) aj)))))
   (aC (aU (bJ bA rfl T.tuple boot_tuple (au (pv 3) aj))))),?_⟩
  cases th with
  |@tup a xs ds ea r=>
   refine aD ?_;refine⟨_,rfl,a,xs,rfl,SqT.of ea,fun p hp np=>?_⟩;refine aN ?_;dsimp only;refine aD ?_;have len0:=r.length;rw[zA1]at len0;refine⟨fun m σ H'=>∃i ys,m=(y.toNat-rs.length)-i/\i<=y.toNat-rs.length/\σ=[some (.ref a),some (.int g),some (.int y),some (.ref p)]/\(∀b o,b≠p->H b=some o->H' b=some o)/\H' p=some (.lst ys)/\IsThs (fun _=>False) H' ys ((gi g rs i).map cA),⟨_,0,xs,rfl,zAp _,rfl,fun b o n e=>by rw[aB n];exact e,ao,?_⟩,?_⟩
   .exact(uf (S':=fun _=>False) r).keep (fun c l e=>by rw[aB (aH e hp)];exact e) (fun _ _ z _=>z.elim) fun _ _ z _=>z.elim
   .rintro m σ H' ⟨i,ys,rfl,hi,rfl,kp,ep,it⟩;have ly:=it.length;rw[zA1,gq]at ly;refine⟨_,rfl,p,ys,rfl,.inl (SqL.of ep),_,rfl,_,_,rfl,rfl,_,rfl,?_⟩;refine jy (fun c=>?_) (fun c=>?_)
    .have c:=zB4 c;have c:(ys.length:Int)<y:=c;refine⟨fun ai AB=>∃f6,ai=[some (.ref a),some (.int g),some (.int y),some (.ref p)]/\(∀b o,b≠p->H b=some o->AB b=some o)/\AB p=some (.lst f6)/\IsThs (fun _=>False) AB f6 ((gi g rs (i+1)).map cA),fun ai AB ⟨f6,e1,e2,e3,e4⟩=>⟨y.toNat-rs.length-(i+1),Zz,i+1,f6,rfl,Zz,e1,e2,e3,e4⟩,?_⟩
     have ne:gi g rs i≠[]:=fun z=>by
      have:=gq g rs i;rw[z]at this;have:=List.length_pos_iff.mpr hn;simp at *;lia
     obtain⟨t,e5,e6⟩:=yC it ne;have lr:((gi g rs i).getLastD []).length=3:=(mV g1 g2 ok hn i _ (ue ne)).1;refine⟨_,rfl,.inl ⟨rfl,_,SqL.of ep⟩,_,rfl,1,rfl,p,ys,-1,.ref t,rfl,rfl,SqL.of ep,e5,t,rfl,⟨_,SqT.of e6⟩,Dh e6 lr g1 g2 fun D hD=>⟨D,_,rfl,.inl ⟨SqL.of ao,fun l hl=>?_⟩⟩⟩;have sm:Same H' (upd (upd H' D (.lst ((up g ((gi g rs i).getLastD [])).map V.int))) l (.tup ((up g ((gi g rs i).getLastD [])).map V.int))):=(Same.upd hD).updR hl
     have Mz:l≠p:=fun z=>by
      rw[z,Same.upd hD _ _ ep]at hl;cases hl
     refine⟨p,ys,.ref l,rfl,rfl,sm _ _ ep,by rw[sizeLine_eq];lia,?_⟩;refine⟨ys++[.ref l],rfl,fun b o n e=>?_,ao,?_⟩
     .rw[aB n];exact sm _ _ (kp b o n e)
     .show IsThs _ _ _ ((gi g rs i++[up g ((gi g rs i).getLastD [])]).map cA);rw[zA4];refine IsThs.append ?_ (.cons (.tup (by rw[aB Mz];exact ao) (IsThs.ints _)) .nil)
      exact(it.same sm).keep (fun c l' e'=>by
       rw[aB fun z=>by rw[z,sm _ _ ep]at e';cases e']
       exact e') (fun _ _ z _=>z.elim) fun _ _ z _=>z.elim
    .have c:¬(ys.length:Int)<y:=fun z=>c (zAt z);have ei:i=y.toNat-rs.length:=Zz
     subst ei;refine⟨_,rfl,p,ys,rfl,.inl ⟨SqL.of ep,fun l hl=>q _ _ (fun b o e=>?_) (.tup ao ?_)⟩⟩
     .have nb:b≠p:=aH e hp;have e2:=kp b o nb e;rw[aB (aH e2 hl)];exact e2
     .exact(it.same (Same.upd hl)).keep (fun _ _ e=>e) (fun _ _ z _=>z.elim) fun _ _ z _=>z.elim
theorem ug{cs jI ps DZ ss D0:List (List Int)}{Y:Nat}(B:BkO cs ps ss)(B':BkO jI DZ D0)(hc:∀s j,cF DZ D0 s j<=cF ps ss s j)(h:∀t,Mono t 3->wS cs Y t<=wS jI Y t):aM (dh jI DZ D0 (Y+1))<=aM (dh cs ps ss (Y+1)):=by
 obtain⟨t,t1,t2,t3⟩:=val_eq B' (Y+1) 3 (zA3 _);have a:=Bf B (Y+1) 3 (zA3 _) t1;rw[wK]at a t3;rw[Bh]at a t3;have:=h t t1;have e0:=f9 (a:=t 0) (hc 0) (Y+1);have e1:=f9 (a:=t 1) (hc 1) (Y+1);have e2:=f9 (a:=t 2) (hc 2) (Y+1);unfold cS at a t3;lia
theorem v7{cs ps ss:List (List Int)}(B:BkO cs ps ss)(n:Nat):dh cs ps ss n=[]↔aM (dh cs ps ss n)<=0:=by
 have ok:=(ph (cs:=cs) B.hl B.hu B.h5 B.okp n).1;generalize dh cs ps ss n=rs at ok;constructor
 .intro h;rw[h];exact Int.le_refl _
 .intro h
  cases rs with
  |nil=>rfl
  |cons r rs=>
   have h1:=(ok r (.head _)).2.2.2
   have h2:0<=aM rs:=gY fun q hq=>by have:=(ok q (.tail _ hq)).2.2.2;lia
   have h3:aM (r::rs)=fl r 3+aM rs:=rfl;lia
def sTo(ss:List (List Int))(k:Nat):List (List Int):=ss.filter fun s=>decide (fl s 0<(k:Int))
theorem wV(a b:List (List Int))(k:Nat):sTo (a++b) k=sTo a k++sTo b k:=List.filter_append ..
theorem lz{s:List Int}{r:List (List Int)}{k:Nat}(h:fl s 0<(k:Int)):sTo (s::r) k=s::sTo r k:=zBa (p:=fun(s:List Int)=>decide (fl s 0<(k:Int))) (zAt h)
theorem lA{s:List Int}{r:List (List Int)}{k:Nat}(h:¬fl s 0<(k:Int)):sTo (s::r) k=sTo r k:=zB9 (p:=fun(s:List Int)=>decide (fl s 0<(k:Int))) (by rw[Zp];exact h)
theorem mW{n y:Int}{k:Nat}(h:n<k):∀(ss:List (List Int)) L,(sTo ss k).foldl (hstep n y) L=ss.foldl (hstep n y) L
 |[],_=>rfl
 |s::ss,L=>by
  by_cases e:fl s 0<(k:Int)
  .rw[lz e];exact mW h ss _
  .rw[lA e,mW h ss L];show _=ss.foldl (hstep n y) (hstep n y L s);rw[show hstep n y L s=L by unfold hstep;rw[zAu Zz]]
theorem pH{p:List Int}{ss:List (List Int)}{n y:Int}{k:Nat}(h:n<k):bD p (sTo ss k) n y=bD p ss n y:=by
 unfold bD;rw[mW h]
theorem pI{ps:List (List Int)}{k n:Nat}(h:n<k):(ps.take k).getD n []=ps.getD n []:=by
 rw[zA7,zA7,List.getElem?_take_of_lt h]
theorem pJ{ps ss:List (List Int)}{sort y:Int}{k:Nat}:∀m,m<=k->gn (ps.take k) (sTo ss k) sort y m=gn ps ss sort y m
 |0,_=>rfl
 |m+1,h=>by
  unfold gn;rw[pJ m Zz];congr 1;unfold jq;rw[pI Zz,pH Zz]
theorem wW{cs ps ss:List (List Int)}(B:BkO cs ps ss){sort y:Int}{m:Nat}:∀d,m+d<=ps.length->aM (gn ps ss sort y m)<=aM (gn ps ss sort y (m+d))
 |0,_=>Int.le_refl _
 |d+1,h=>by
  have ih:=wW B (sort:=sort) (y:=y) (m:=m) d Zz;have e:gn ps ss sort y (m+(d+1))=gn ps ss sort y (m+d)++jq ps ss sort y (m+d):=rfl
  have nn:0<=aM (jq ps ss sort y (m+d)):=gY fun r hr=>by
   have:=(Af (sort:=sort) (year:=y) B.hu B.h5 B.okp (m+(d+1)) h r (by rw[e];exact zA6.mpr (.inr hr))).2.1;lia
  rw[e,fU];lia
theorem Di{cs ps ss:List (List Int)}(B:BkO cs ps ss)(k s j:Nat):cF (ps.take k) (sTo ss k) s j<=cF ps ss s j:=by
 unfold cF aJ;rw[pJ _ (by rw[zAd];lia)];have:=wW B (sort:=s) (y:=j) (m:=(ps.take k).length) (ps.length-(ps.take k).length) (by rw[zAd];lia);rw[show(ps.take k).length+(ps.length-(ps.take k).length)=ps.length by rw[zAd];lia]at this;exact this
theorem v8{ps ah:List (List Int)}{s:List Int}{k:Nat}(h:bR ps ah s=true)(hk:fl s 0<(k:Int)):bR (ps.take k) (sTo ah k) s=true:=by
 unfold bR at h⊢;obtain⟨h1,h2⟩:=Bool.and_eq_true_iff.mp h;have JE:=h1;unfold jm at JE;simp only[Bool.and_eq_true,Zp]at JE
 have e:iD (ps.take k) s=iD ps s:=by
  unfold iD;exact pI Zz
 have eh:∀y,bD (iD ps s) (sTo ah k) (fl s 0) y=bD (iD ps s) ah (fl s 0) y:=fun y=>pH hk;simp only[e,eh];rw[h2,Bool.and_true];unfold jm at h1⊢;rw[e];simp only[Bool.and_eq_true,Zp]at h1⊢;rw[zAd];refine⟨⟨h1.1.1,Zz⟩,h1.2⟩
theorem pK{ps:List (List Int)}{k:Nat}:∀(r ah:List (List Int)),(∀j,j<r.length->bR ps (ah++r.take j) (r.getD j [])=true)->∀j,j<(sTo r k).length->bR (ps.take k) (sTo ah k++(sTo r k).take j) ((sTo r k).getD j [])=true
 |[],_,_,j,hj=>absurd hj (Nat.not_lt_zero _)
 |s::r,ah,h,j,hj=>by
  have h0:bR ps ah s=true:=by
   have:=h 0 (Nat.zero_lt_succ _);rw[List.take_zero,zAn]at this;exact this
  have hr:∀j,j<r.length->bR ps ((ah++[s])++r.take j) (r.getD j [])=true:=fun j hj=>by
   have:=h (j+1) (Nat.succ_lt_succ hj);rw[zAf];exact this
  have ih:=pK (k:=k) r (ah++[s]) hr;rw[wV]at ih;by_cases e:fl s 0<(k:Int)
  .rw[lz e]at hj⊢;have e1:sTo [s] k=[s]:=lz e;rw[e1]at ih
   cases j with
   |zero=>
    rw[List.take_zero,zAn];exact v8 h0 e
   |succ j=>
    have:=ih j (Nat.lt_of_succ_lt_succ hj);rw[zAf]at this;exact this
  .rw[lA e]at hj⊢;have e1:sTo [s] k=[]:=lA e;rw[e1,zAn]at ih;exact ih j hj
theorem rB{ps ss:List (List Int)}(hu:un ps ss=none)(k:Nat):un (ps.take k) (sTo ss k)=none:=by
 refine qO fun j hj=>?_;have:=pK (k:=k) ss [] (fun j hj=>by rw[List.nil_append];exact mO hu j hj) j hj;exact this
theorem wX{ps ss:List (List Int)}(hu:un ps ss=none):sTo ss ps.length=ss:=by
 refine List.filter_eq_self.mpr fun s hs=>decide_eq_true ?_;obtain⟨j,hj,e⟩:=List.getElem_of_mem hs;have:=mO hu j hj;rw[getD_get hj,e]at this;unfold bR jm at this;simp only[Bool.and_eq_true,Zp]at this;exact this.1.1.2
theorem Dj{ss:List (List Int)}{k m:Nat}(h:m<=k):sTo (sTo ss k) m=sTo ss m:=by
 unfold sTo;rw[List.filter_filter];refine List.filter_congr fun s _=>?_;by_cases e:fl s 0<(m:Int)
 .rw[zAt e,zAt (show fl s 0<(k:Int) by lia)];rfl
 .rw[zB1 e,Bool.false_and]
theorem Bl{cs ps ss:List (List Int)}(B:BkO cs ps ss)(k:Nat):BkO cs (ps.take k) (sTo ss k):=⟨B.okc,by have:=B.hl;rw[zAd];lia,rB B.hu k,fun s hs=>B.h5 s (zAq.mp hs).1,fun r hr=>B.okp r (List.mem_of_mem_take hr)⟩
theorem Ei(g:Int)(r:List Int)(s:Nat):fl (up g r) s=fl r s*(100+g) / 100:=by
 unfold fl up;rw[zA7,zA7,zAb]
 cases r[s]? with
 |none=>
  show(0:Int)=0*(100+g) / 100;rw[Int.zero_mul];rfl
 |some x=>rfl
theorem Bm{cs:List (List Int)}{r:List Int}{s j:Nat}:wF (cs++[r]) s j=if j<cs.length then wF cs s j else if j=cs.length then fl r s else 0:=by
 unfold wF;by_cases h:j<cs.length
 .rw[zAv h,zA7,zBc h,<-zA7]
 .rw[zAu h,zA7,zBb Zz];by_cases e:j=cs.length
  .rw[zAv e,e,Nat.sub_self];rfl
  .rw[zAu e,List.getElem?_eq_none (by show 1<=_;lia)];rfl
theorem wY{cs:List (List Int)}{s:Nat}:fl (cs.getLastD []) s=wF cs s (cs.length-1):=by
 unfold wF;rw[List.getLastD_eq_getLast?,List.getLast?_eq_getElem?,zA7]
theorem wZ{b:Nat}{cs:List (List Int)}(h:OkR b cs)(s j:Nat):0<=wF cs s j:=by
 unfold wF fl;by_cases hj:j<cs.length
 .have e:cs.getD j []=cs[j]:=getD_get hj;rw[e];have:=h _ (zAh hj);generalize cs[j]=c at this;by_cases hs:s<c.length
  .rw[zA7,zA0 hs];exact(this.2 _ (zAh hs)).1
  .rw[zA7,List.getElem?_eq_none Zz];exact Int.le_refl _
 .have e:cs.getD j []=[]:=by rw[zA7,List.getElem?_eq_none Zz];rfl
  rw[e];exact Int.le_refl _
theorem Ej{g g':Int}{cs:List (List Int)}(h1:-100<=g)(h2:g<=g')(h3:g'<=100)(ok:OkR 1000 cs)(hn:cs≠[]):∀i s j,wF (gi g cs i) s j<=wF (gi g' cs i) s j
 |0,s,j=>Int.le_refl _
 |i+1,s,j=>by
  have ih:=Ej h1 h2 h3 ok hn i s;show wF (gi g cs i++[_]) s j<=wF (gi g' cs i++[_]) s j;rw[Bm,Bm,gq,gq];have o1:=mV h1 Zz ok hn i;split
  .exact ih j
  .split
   .rw[Ei,Ei,wY,wY,gq,gq];have a:=ih (cs.length+i-1);have b:=wZ o1 s (cs.length+i-1);refine Int.ediv_le_ediv Zx ?_;exact Int.mul_le_mul a Zz Zz Zz
   .exact Int.le_refl _
theorem v9{cs:List (List Int)}(h:∀r∈cs,okC r):OkR 1000 cs:=fun r hr=>⟨(h r hr).1,fun x hx=>(h r hr).2 x hx⟩
theorem vd{g:Int}{cs ps ss:List (List Int)}(B:BkO cs ps ss)(h1:-100<=g)(h2:g<=100)(ok:OkR 1000 cs)(hn:cs≠[])(i:Nat):BkO (gi g cs i) ps ss:=⟨fun r hr=>⟨(mV h1 h2 ok hn i r hr).1,fun x hx=>((mV h1 h2 ok hn i r hr).2 x hx).1⟩,B.hl,B.hu,B.h5,B.okp⟩
def jO(g:Int)(cs ps ss:List (List Int))(j:Nat):Prop:=cs.length<=j+1/\(∀p∈ps,fl p 3<=(j:Int))/\dh (gi g cs (100-cs.length)) ps ss (j+1)=[]
theorem vf{g g':Int}{cs ps ss:List (List Int)}{j:Nat}(B:BkO cs ps ss)(h1:-100<=g)(h2:g<=g')(h3:g'<=100)(ok:OkR 1000 cs)(hn:cs≠[])(k:Nat)(h:jO g cs ps ss j):jO g' cs (ps.take k) (sTo ss k) j:=by
 obtain⟨a,b,c⟩:=h;refine⟨a,fun p hp=>b p (List.mem_of_mem_take hp),?_⟩;have B1:=vd B h1 Zz ok hn (100-cs.length);have B2:=vd (Bl B k) Zz h3 ok hn (100-cs.length);refine(v7 B2 _).mpr (Int.le_trans (ug B1 B2 (fun s j=>Di B k s j) fun t _=>?_) ((v7 B1 _).mp c));have e:=Ej h1 h2 h3 ok hn (100-cs.length);unfold wS;have e0:=f9 (a:=t 0) (e 0) (j+1);have e1:=f9 (a:=t 1) (e 1) (j+1);have e2:=f9 (a:=t 2) (e 2) (j+1);lia
theorem Bo{g g':Int}{cs ps ss:List (List Int)}{j:Nat}(B:BkO cs ps ss)(h1:-100<=g)(h2:g<=g')(h3:g'<=100)(ok:OkR 1000 cs)(hn:cs≠[])(h:jO g cs ps ss j):jO g' cs ps ss j:=by
 have:=vf B h1 h2 h3 ok hn ps.length h;rw[zAm,wX B.hu]at this;exact this
theorem Dk{g:Int}{cs ss:List (List Int)}(B:BkO cs [] ss)(h1:-100<=g)(h3:g<=100)(ok:OkR 1000 cs)(hn:cs≠[]):jO g cs [] ss (cs.length-1):=by
 have hp:=List.length_pos_iff.mpr hn;refine⟨Zz,fun p hp=>(by cases hp),?_⟩;have B1:=vd B h1 h3 ok hn (100-cs.length);refine(v7 B1 _).mpr ?_;obtain⟨t,t1,t2,t3⟩:=val_eq B1 (cs.length-1+1) 3 (zA3 _);rw[wK,Bh]at t3;have o1:=mV h1 h3 ok hn (100-cs.length)
 have z:∀s a m,seg (cF [] ss s) a m=0:=fun s a m=>by
  have:=gZ (f:=cF [] ss s) (fun j=>Int.le_refl _) (zA3 a) m
  have e:∀m,seg (cF [] ss s) a m=0:=fun m=>by
   induction m with
   |zero=>rfl
   |succ m ih=>
    show(if a<=m then seg (cF [] ss s) a m+cF [] ss s m else 0)=0;rw[ih];split
    .rfl
    .rfl
  exact e m
 unfold cS wS at t3;rw[z,z,z]at t3;have n0:=(gZ (f:=wF (gi g cs (100-cs.length)) 0) (wZ o1 0) (zA3 (t 0)) (cs.length-1+1)).1;have n1:=(gZ (f:=wF (gi g cs (100-cs.length)) 1) (wZ o1 1) (zA3 (t 1)) (cs.length-1+1)).1;have n2:=(gZ (f:=wF (gi g cs (100-cs.length)) 2) (wZ o1 2) (zA3 (t 2)) (cs.length-1+1)).1;lia
def dX(n:Nat)(P:Nat->Prop):Option Nat->Prop
 |some m=>m<n/\P m/\∀j,j<m->¬P j
 |none=>∀j,j<n->¬P j
def xf:Option Nat->Option Nat->Bool
 |some a,some b=>decide (a<=b)
 |some _,none=>true
 |none,some _=>false
 |none,none=>true
theorem uh{n:Nat}{P Q:Nat->Prop}{a b:Option Nat}(ha:dX n P a)(hb:dX n Q b)(h:∀j,Q j->P j):xf a b=true:=by
 cases a with
 |none=>
  cases b with
  |none=>rfl
  |some b=>exact absurd (h b hb.2.1) (ha b hb.1)
 |some a=>
  cases b with
  |none=>rfl
  |some b=>
   refine zAt ?_;rcases Nat.lt_or_ge b a with z|z
   .exact absurd (h b hb.2.1) (ha.2.2 b z)
   .exact z
def km(g:Int)(cs ps ss:List (List Int))(n:Nat):Prop:=∀j,j<100->¬jO g cs (ps.take (n+1)) (sTo ss (n+1)) j
theorem Bp{g:Int}{cs ps ss:List (List Int)}{a b:Option Nat}(B:BkO cs ps ss)(h1:-100<=g)(h3:g<=100)(ok:OkR 1000 cs)(hn:cs≠[])(lc:cs.length<=20)(ha:dX 100 (jO g cs ps ss) a)(hb:dX ps.length (km g cs ps ss) b):a.isNone=b.isSome:=by
 have hp:=List.length_pos_iff.mpr hn
 cases b with
 |some m=>
  cases a with
  |none=>rfl
  |some j=>exact absurd (vf B h1 (Int.le_refl _) h3 ok hn (m+1) ha.2.1) (hb.2.1 j ha.1)
 |none=>
  cases a with
  |some j=>rfl
  |none=>
   exfalso
   cases hq:ps with
   |nil=>
    subst hq;exact ha (cs.length-1) Zz (Dk B h1 h3 ok hn)
   |cons p r=>
    refine hb (ps.length-1) (by rw[hq,zAe];lia) fun j hj z=>?_;rw[show ps.length-1+1=ps.length by rw[hq,zAe];lia,zAm,wX B.hu]at z;exact ha j hj z
theorem yD{g:Int}{cs ps ss:List (List Int)}{k m:Nat}{b:Option Nat}(hk:k<=ps.length)(hm:m<k)(ha:dX ps.length (km g cs ps ss) (some m))(hb:dX (ps.take k).length (km g cs (ps.take k) (sTo ss k)) b):b=some m:=by
 have e:∀n,n<k->(km g cs (ps.take k) (sTo ss k) n↔km g cs ps ss n):=fun n hn=>by
  unfold km;rw[List.take_take,Nat.min_eq_left Zz,Dj Zz]
 have lk:(ps.take k).length=k:=by rw[zAd];lia
 rw[lk]at hb;obtain⟨_,a1,a2⟩:=ha
 cases b with
 |none=>exact absurd ((e m hm).mpr a1) (hb m hm)
 |some n=>
  obtain⟨b0,b1,b2⟩:=hb;rcases Nat.lt_trichotomy n m with z|z|z
  .exact absurd ((e n b0).mp b1) (a2 n z)
  .rw[z]
  .exact absurd ((e m hm).mpr a1) (b2 m z)
structure NG(mg:Str->Option Value):Prop where
 least:∃t,mg "LEAST_GROWTH"=some (.int (-100) t)
 mostg:∃t,mg "MOST_GROWTH"=some (.int 100 t)
 years:∃t,mg "MOST_YEARS"=some (.int 100 t)
inductive SpRefGI(vs:List V)(H:Hp)(Q:VK):Prop
 |mk:∀g:Int,(vs=[.int g])->(-100<=g)->(g<=100)->(∀H',Same H H'->Q .non H')->SpRefGI  vs H Q
def vg:Sp:=fun vs H Q _=>SpRefGI  vs H Q
inductive SpYallI(vs:List V)(H:Hp)(Q:VK):Prop
 |mk:∀bk g ac xc cs ap xp ps af xs ss,(vs=[.ref bk,.int g])->(BookAt H bk ac xc cs ap xp ps af xs ss)->((∀r∈cs,okC r))->(1<=cs.length)->(-100<=g)->(g<=100)->(∀o H',Same H H'->dX 100 (jO g cs ps ss) o->Q (unV o) H')->SpYallI  vs H Q
def vh:Sp:=fun vs H Q _=>SpYallI  vs H Q
theorem pL:bootBuiltins "max"=some (.builtin "max"):=by decide +kernel
theorem Jg:FnScope ["thing"] ["thing"] (aK (top 57)):=fQS
theorem Dl(F:Fun K "refuse_no_growth" "refuse_no_growth" (top 57) f fd)(N:NG mg)(c1:Cal P w K mg base 2 "is_whole_from" ["thing","least","most"] (jC kW)):FnOk P w K mg base CX0 3 f fd ["thing"] vg:=by
 refine F.ok Jg (fun vs H Q E h=>?_) (fun ar A outer s H vs Q E hr h=>?_)
 .obtain⟨g,rfl,_⟩:=h;rfl
 .obtain⟨g,rfl,g0,g1,q⟩:=h;obtain⟨t1,e1⟩:=N.least;obtain⟨t2,e2⟩:=N.mostg;refine⟨_,aC (bY (bZ (dB (aG c1 hr (aP (pv 0) (aP (bM (v:=.int (-100)) rfl e1 ⟨_,rfl⟩) (aP (bM (v:=.int 100) rfl e2 ⟨_,rfl⟩) aj)))))) (aC gD) bh),?_⟩;refine⟨_,rfl,fun _=>False,.int g,.int g,-100,100,rfl,.int _,(by show 1<=4000;decide),fun H1 s1=>⟨_,rfl,?_⟩⟩
  have e:kW (.int g) (-100) 100=true:=by
   show(true&&(decide (-100<=g)&&decide (g<=100)))=true;rw[zAt g0,zAt g1];rfl
  rw[e];exact bF (q _ s1)
theorem Jh:(["promise"]:List Str).Nodup:=by decide +kernel
theorem scGO:FnScope ["book","growth","clips","promises","sales","least","years","at","gifts","owed","left"] ["book","growth"] (aK (top 59)):=fQS
theorem Dm(F:Fun K "year_of_all" "year_of_all" (top 59) f fd)(T:Mg mg)(N:NG mg)(Tm:mg "max"=none)(Te:mg "enumerate"=none)(c1:Cal P w K mg base 1 "grown" ["clips","growth","years"] wU)(c2:Cal P w K mg base 10 "years_given" ["book","year"] qU):FnOk P w K mg base CX0 11 f fd ["book","growth"] vh:=by
 refine F.ok scGO (fun vs H Q E h=>?_) (fun ar A outer s H vs Q E hr h=>?_)
 .obtain⟨bk,g,ac,xc,cs,ap,xp,ps,af,xs,ss,rfl,_⟩:=h;rfl
 .obtain⟨bk,g,ac,xc,cs,ap,xp,ps,af,xs,ss,rfl,B,okc,lc1,g0,g1,q⟩:=h;obtain⟨t1,e1⟩:=N.years
  refine K53P.ok_b (aW ⟨cz (pv 0) (bI rfl (aq (pgn 2 scGO.nd) (aq (pgn 3 scGO.nd) (aq (pgn 4 scGO.nd) aY))))⟩
   (aW (iU 5 scGO.nd ⟨aQ (nH rfl) rfl Tm pL (au (aR yW (cR (au (aR cN (aQ aZ rfl T.len PySem.boot_len (au (pv 2) aj)) az) aj))
     (bW ["promise"] [none] rfl (dD (pv 3)) (fun C fp Zt s₂ H₂=>⟨pgn 0 Jh,cu,pX (K53P.ix_tupK (K:=K) rfl) (pv 0) az⟩) (fun C=>trivial) ⟨rfl,rfl,rfl,rfl⟩)) aj)⟩)
   (aW (iU 6 scGO.nd ⟨aG c2 hr (aP (bT (aP (aG c1 hr (aP (pv 2) (aP (pv 1) (aP (bM (v:=.int 100) rfl e1 ⟨_,rfl⟩) aj)))) (aP (pv 3) (aP (pv 4) aj)))) (aP (aR cN (bM (v:=.int 100) rfl e1 ⟨_,rfl⟩) az) aj))⟩)
   (aW ⟨cP zB5 rfl (ZT.pi_enum false rfl Te (au (pv 6) aj)) (bI rfl (aq (pgn 7 scGO.nd) (aq (bI rfl (aq (pgn 8 scGO.nd) (aq (pgn 9 scGO.nd) (aq (pgn 10 scGO.nd) aY)))) aY)))
    (aC (bY (PW.pt (ju (bx vB (pv 7) (pv 5) (bf _)) (kY (bZ (yU (pv 9) (fun _=>rfl)))))) (aC (aU (pv 7))) bh))⟩
   (fZ (lU ⟨dz⟩)))))) ?_
  refine aD ?_;refine⟨_,rfl,bk,_,rfl,SqT.of B.e,rfl,_,_,rfl,_,_,rfl,_,_,rfl,rfl,?_⟩;dsimp only;have lx:=B.rc.l;have QX:=B.rp.l;have lp:=B.lp;have lc:=B.lc;refine aD (aX ?_);refine⟨_,rfl,ac,xc,rfl,.inr (SqT.of B.rc.e),_,_,rfl,rfl,zL,fun l1 dA=>?_⟩;have s1:=Same.upd (o:=.lst [V.int ((xc.length:Int)-1)]) dA;have el1:=ao (H:=H) (a:=l1) (o:=.lst [V.int ((xc.length:Int)-1)]);generalize upd H l1 (.lst [V.int ((xc.length:Int)-1)])=H1 at s1 el1⊢;have B1:=B.same s1;refine⟨_,rfl,ap,rfl,⟨_,SqT.of B1.rp.e⟩,dJ ps.length (fun i ys σ Hc=>Hc=H1/\(∃o1,σ=[o1])/\ys=((ps.take i).map fun r=>fl r 3).map V.int) ⟨rfl,⟨_,rfl⟩,rfl⟩ Zu ?_ ?_⟩
  .rintro i ys σ Hc hi hy ⟨rfl,⟨o1,rfl⟩,rfl⟩;obtain⟨t,ex,et⟩:=B1.rp.g i ps[i] (zA0 hi);have df:ps.take (i+1)=ps.take i++[ps[i]]:=by rw[zAj,zA0 hi];rfl
   have l6:=(B.okp _ (zAh hi)).1;refine⟨⟨_,_,SqT.of B1.rp.e,ex⟩,fun v H' y' R' gx=>?_⟩;obtain⟨rfl,y'⟩:=y';have hv:=y' _ (SqT.of B1.rp.e);rw[ex]at hv;cases hv;refine aN ?_;refine⟨_,rfl,t,_,3,_,rfl,rfl,SqT.of et,dC (j:=3) (fu Zz),gx _ _ _ ⟨rfl,⟨_,rfl⟩,?_⟩⟩;rw[df,zA4,zA4];rfl
  rintro ys σ Hc hy ⟨rfl,_,rfl⟩;rw[zAm];refine⟨⟨_,SqT.of B1.rp.e,Zz⟩,fun D hD=>?_⟩;have s2:=Same.upd (o:=.lst ((ps.map fun r=>fl r 3).map V.int)) hD;have eD:=ao (H:=Hc) (a:=D) (o:=.lst ((ps.map fun r=>fl r 3).map V.int));generalize upd Hc D (.lst ((ps.map fun r=>fl r 3).map V.int))=H2 at s2 eD⊢;refine⟨l1,D,_,_,rfl,rfl,s2 _ _ el1,eD,by rw[List.length_map,List.length_map,sizeLine_eq];show 1+_<=_;lia,fun l2 fE=>⟨l2,((xc.length:Int)-1)::ps.map fun r=>fl r 3,rfl,SqL.of ao,by simp,fun M hM hm=>?_⟩⟩;have s3:=(s1.trans s2).trans (Same.upd (o:=.lst ([V.int ((xc.length:Int)-1)]++(ps.map fun r=>fl r 3).map V.int)) fE);generalize upd H2 l2 (.lst ([V.int ((xc.length:Int)-1)]++(ps.map fun r=>fl r 3).map V.int))=H3 at s3⊢;refine aN ?_;dsimp only;clear s2 eD el1 hD fE;refine aD (aX ?_);have B3:=B.same s3
  have dv:cs≠[]:=fun z=>by rw[z]at lc1;exact absurd lc1 Zx
  refine⟨_,rfl,_,rfl,fun _=>False,.ref ac,g,100,cs,rfl,B3.rc.th,v9 okc,dv,lc,g0,g1,Zz,by decide,fun v' H4 s4 JF=>?_⟩;obtain⟨a4,MA,rfl,rX⟩:=jl JF;have B4:=B3.same s4;refine⟨_,rfl,_,rfl,zL,fun nb MB=>?_⟩;have s5:=Same.upd (o:=.tup [.ref a4,.ref ap,.ref af]) MB;have eb:=ao (H:=H4) (a:=nb) (o:=.tup [.ref a4,.ref ap,.ref af]);generalize upd H4 nb (.tup [.ref a4,.ref ap,.ref af])=H5 at s5 eb⊢;have B5:=B4.same s5;rw[show(100:Int).toNat=100 from rfl]at rX;have JG:=rX.same s5;have gl:(gi g cs (100-cs.length)).length=100:=by rw[gq];lia
  have JH:∀r∈gi g cs (100-cs.length),r.length=3/\∀x∈r,0<=x:=fun r hr=>(let o:=mV g0 g1 (v9 okc) dv (100-cs.length) r hr;⟨o.1,fun x hx=>(o.2 x hx).1⟩)
  have MC:=(s3.trans s4).trans s5;have AD:∀j,jO g cs ps ss j↔(cs.length<=j+1/\(∀p∈ps,fl p 3<=(j:Int))/\dh (gi g cs (100-cs.length)) ps ss (j+1)=[]):=fun j=>Iff.rfl;generalize gi g cs (100-cs.length)=G at JG gl JH AD;clear JF rX;refine⟨_,_,rfl,rfl,nb,99,a4,MA,G,ap,xp,ps,af,xs,ss,rfl,eb,JG,JH,Zz,by decide,Zz,B5.rp,lp,B.okp,B5.rs,B.ls,B.h5,B.un,fun l ts H6 s6 nl el lt hy=>?_⟩;refine aN ?_;dsimp only;refine aD ?_;have lt:ts.length=100:=Zz
  refine⟨_,rfl,l,ts.map V.ref,rfl,SqL.of el,?_⟩;have JI:=MC.trans s6;refine ZT.for_enum false (xs:=ts.map V.ref) (fun i σ Hc=>∃x7 x8 x9 mn,σ=[some (.ref bk),some (.int g),some (.ref ac),some (.ref ap),some (.ref af),some (.int M),some (.ref l),x7,x8,x9,mn]/\Same H6 Hc/\∀j,j<i->¬jO g cs ps ss j) ?_ ?_ ?_ ?_
  .exact⟨none,none,none,none,rfl,Same.refl _,fun j hj=>absurd hj (Nat.not_lt_zero _)⟩
  .rintro i σ Hc hi ⟨x7,x8,x9,mn,rfl,sm,hh⟩;exact SqL.of (sm _ _ el)
  .rintro i x σ Hc T0 hx ⟨x7,x8,x9,mn,rfl,sm,hh⟩ nT
   have hi:i<ts.length:=by
    have:=(zAa.mp hx).1;rw[zA1]at this;exact this
   rw[zAb,zA0 hi]at hx;cases hx;obtain⟨gg,k,tl,xg,xk,u1,n1,n2,d1,d2,u2,u3,u4,u5,u6⟩:=hy i ts[i] (zA0 hi);have sT:=Same.upd (o:=.tup [.int i,.ref ts[i]]) nT;have eT:=ao (H:=Hc) (a:=T0) (o:=.tup [.int i,.ref ts[i]]);generalize upd Hc T0 (.tup [.int i,.ref ts[i]])=H7 at sT eT⊢;have xw:=sm.trans sT;refine⟨T0,_,rfl,SqT.of eT,rfl,_,_,rfl,_,_,rfl,ts[i],_,rfl,SqT.of (xw _ _ u1),rfl,_,_,rfl,_,_,rfl,_,_,rfl,rfl,rfl,?_⟩;dsimp only
   have JJ:decide (M<=(i:Int))=true↔(cs.length<=i+1/\∀p∈ps,fl p 3<=(i:Int)):=by
    rw[Zp];constructor
    .intro h;have a1:=hm _ (.head _);refine⟨Zz,fun p hp=>?_⟩;have:=hm (fl p 3) (.tail _ (zA5.mpr ⟨p,hp,rfl⟩));lia
    .rintro⟨h1,h2⟩;rcases zAo.mp hM with z|z
     .lia
     .obtain⟨p,hp,rfl⟩:=zA5.mp z;exact h2 p hp
   refine⟨_,rfl,_,rfl,_,_,rfl,rfl,_,rfl,?_⟩;refine jy (fun c=>?_) (fun c=>?_)
   .have cM:=JJ.mp c;refine⟨_,rfl,!xk.isEmpty,.inl ⟨xk,SqL.of (xw _ _ u4),rfl⟩,?_⟩;have lk:=u5.1;refine jy (fun c2=>?_) (fun c2=>?_)
    .have:dh G ps ss (i+1)=[]:=by
      cases xk with
      |nil=>exact List.eq_nil_of_length_eq_zero lk.symm
      |cons _ _=>cases c2
     exact⟨_,rfl,q (some i) _ (JI.trans xw) ⟨Zz,(AD i).mpr ⟨cM.1,cM.2,this⟩,hh⟩⟩
    .refine⟨_,_,_,_,rfl,xw,fun j hj=>?_⟩;rcases Nat.lt_or_ge j i with z|z
     .exact hh j z
     .have:j=i:=Zz
      subst this;intro m;have e:=((AD j).mp m).2.2;rw[e]at lk
      cases xk with
      |nil=>exact c2 rfl
      |cons _ _=>cases lk
   .refine⟨_,_,_,_,rfl,xw,fun j hj=>?_⟩;rcases Nat.lt_or_ge j i with z|z
    .exact hh j z
    .have:j=i:=Zz
     subst this;intro m;have e:=(AD j).mp m;exact c (JJ.mpr ⟨e.1,e.2.1⟩)
  .rintro σ Hc ⟨x7,x8,x9,mn,rfl,sm,hh⟩;rw[zA1,lt]at hh;exact q none _ (JI.trans sm) hh
theorem xj{xs:List V}{m:Nat}:gA xs none (some (m:Int))=xs.take m:=by
 unfold gA;rw[HT.sIx_none,HT.sIx_nat,List.drop_zero,Nat.sub_zero];by_cases h:m<=xs.length
 .rw[Nat.min_eq_left h]
 .rw[Nat.min_eq_right Zz,zAm,List.take_of_length_le Zz]
theorem jP{H:Hp}{a c:Addr}{xs:List V}{rs:List (List Int)}{m:Nat}(h:RowsAt H a xs rs)(e:H c=some (.tup (xs.take m))):RowsAt H c (xs.take m) (rs.take m):=by
 refine⟨e,by rw[zAd,zAd,h.l],fun i r er=>?_⟩
 have hi:i<m:=by
  have:=(zAa.mp er).1;rw[zAd]at this;lia
 rw[List.getElem?_take_of_lt hi]at er⊢;exact h.g i r er
inductive SpBookToI(vs:List V)(H:Hp)(Q:VK):Prop
 |mk:∀bk n ac xc cs ap xp ps af xs ss,(vs=[.ref bk,.int n])->(BookAt H bk ac xc cs ap xp ps af xs ss)->(0<=n)->(∀AE D1 D2 D3 ui H',Same H H'->BookAt H' AE ac xc cs D1 D2 (ps.take (n.toNat+1)) D3 ui (sTo ss (n.toNat+1))->Q (.ref AE) H')->SpBookToI  vs H Q
def ul:Sp:=fun vs H Q _=>SpBookToI  vs H Q
def Dn(R:Int->List (List Int)->List (List Int)->List (List Int)->Option Nat->Prop):Sp:=fun vs H Q _=>∃S bk g d ac xc cs ap xp ps af xs ss,vs=[.ref bk,.int g]/\IsTh S H (.ref bk) d/\sz d<=4000/\jX d=true/\BookAt H bk ac xc cs ap xp ps af xs ss/\(∀r∈cs,okC r)/\1<=cs.length/\-100<=g/\g<=100/\∀o H',Same H H'->R g cs ps ss o->Q (unV o) H'
def Ib:Int->List (List Int)->List (List Int)->List (List Int)->Option Nat->Prop:=fun g cs ps ss o=>dX 100 (jO g cs ps ss) o
def Ek:Int->List (List Int)->List (List Int)->List (List Int)->Option Nat->Prop:=fun g cs ps ss o=>dX ps.length (km g cs ps ss) o
theorem um{ss:List (List Int)}{i k:Nat}(hi:i<ss.length):sTo (ss.take (i+1)) k=sTo (ss.take i) k++(if fl ss[i] 0<(k:Int)then[ss[i]]else[]):=by
 rw[zAj,zA0 hi];show sTo (ss.take i++[ss[i]]) k=_;rw[wV];split
 .rw[lz (by assumption)];rfl
 .rw[lA (by assumption)];rfl
theorem Ji:(["sale","number"]:List Str).Nodup:=by decide +kernel
theorem scGP:FnScope ["book","number","clips","promises","sales"] ["book","number"] (aK (top 60)):=fQS
theorem yE(F:Fun K "book_to" "book_to" (top 60) f fd)(T:Mg mg):FnOk P w K mg base CX0 1 f fd ["book","number"] ul:=by
 refine F.ok scGP (fun vs H Q E h=>?_) (fun ar A outer s H vs Q E hr h=>?_)
 .obtain⟨bk,n,ac,xc,cs,ap,xp,ps,af,xs,ss,rfl,_⟩:=h;rfl
 .obtain⟨bk,n,ac,xc,cs,ap,xp,ps,af,xs,ss,rfl,B,n0,q⟩:=h
  refine K53P.ok_b (aW ⟨cz (pv 0) (bI rfl (aq (pgn 2 scGP.nd) (aq (pgn 3 scGP.nd) (aq (pgn 4 scGP.nd) aY))))⟩
   (fZ (lU ⟨bT (aP (pv 2) (aP (fJ lu (pv 3) ik (il (aR bw (pv 1) az))) (aP (bJ bA rfl T.tuple boot_tuple (au (bW ["sale","number"] [none,some 1] rfl (dD (pv 4))
    (fun C fp Zt s₂ H₂=>⟨pgn 0 Ji,ir (bx bH (pX (K53P.ix_tupK (K:=K) rfl) (pv 0) az) (pv 1) (bf _)),pv 0⟩)
    (fun C=>cI trivial) ⟨rfl,rfl,rfl,rfl⟩) aj)) aj)))⟩))) ?_
  refine aD ?_;refine⟨_,rfl,bk,_,rfl,SqT.of B.e,rfl,_,_,rfl,_,_,rfl,_,_,rfl,rfl,?_⟩;dsimp only;refine lV ?_;have ls:=B.ls;have lx:=B.rs.l
  obtain⟨m,rfl⟩:∃m:Nat,n=m:=⟨n.toNat,Zz⟩
  rw[zAi]at q;refine⟨_,rfl,_,rfl,_,rfl,_,_,rfl,rfl,_,rfl,ap,xp,rfl,B.rp.e,fun k1 H1 s1 ij=>?_⟩;rw[show(m:Int)+1=((m+1:Nat):Int) by lia,xj]at ij;have ix:=jP (B.rp.same s1) ij;have B1:=B.same s1;refine⟨_,rfl,af,rfl,⟨_,SqT.of B1.rs.e⟩,?_⟩;refine fO ss.length (fun i ys σ Hc=>Hc=H1/\(∃o1,σ=[o1,some (.int m)])/\Els H1 ys (sTo (ss.take i) (m+1))) ⟨rfl,⟨_,rfl⟩,Els.nil⟩ Zu ?_ ?_
  .rintro i ys σ Hc hi hy ⟨rfl,⟨o1,rfl⟩,els⟩;obtain⟨t,ex,et⟩:=B1.rs.g i ss[i] (zA0 hi);have l5:=B.h5 _ (zAh hi);refine⟨⟨_,_,SqT.of B1.rs.e,ex⟩,fun v H' y' R' gx=>?_⟩;obtain⟨rfl,y'⟩:=y';have hv:=y' _ (SqT.of B1.rs.e);rw[ex]at hv;cases hv;refine aN ?_;rw[um hi]at gx;refine⟨_,rfl,t,_,0,_,rfl,rfl,SqT.of et,dC (j:=0) (fu Zz),_,rfl,_,_,rfl,rfl,_,rfl,?_⟩;refine jy (fun c=>?_) (fun c=>?_)
   .have c:fl ss[i] 0<=(m:Int):=zB4 c;rw[zAv (show fl ss[i] 0<((m+1:Nat):Int) by lia)]at gx;exact⟨_,rfl,gx _ _ _ (by rw[zA2];exact Nat.succ_le_succ hy) ⟨rfl,⟨_,rfl⟩,els.app (Els.one et)⟩⟩
   .have c:¬fl ss[i] 0<=(m:Int):=fun z=>c (zAt z);rw[zAu (show¬fl ss[i] 0<((m+1:Nat):Int) by lia),zAn]at gx;exact gx _ _ _ Zz ⟨rfl,⟨_,rfl⟩,els⟩
  rintro ys σ Hc hy ⟨rfl,_,els⟩;rw[zAm]at els;refine⟨⟨_,SqT.of B1.rs.e,Zz⟩,fun D hD=>⟨D,_,rfl,.inl ⟨SqL.of ao,fun t ht=>?_⟩⟩⟩;have s2:=(Same.upd (o:=.lst ys) hD).updR (o:=.tup ys) ht;have et:=ao (H:=upd Hc D (.lst ys)) (a:=t) (o:=.tup ys);generalize upd (upd Hc D (.lst ys)) t (.tup ys)=H2 at s2 et⊢;refine⟨zL,fun b hb=>?_⟩;have s3:=s2.updR (o:=.tup [.ref ac,.ref k1,.ref t]) hb;have cw:=els.same s3;have r3:=ix.same s3;have B3:=B1.same s3;refine q b k1 _ t ys _ (s1.trans s3) ⟨ao,B3.rc,B.okc,B.lc,r3,by have:=B.lp;rw[zAd];lia,fun r hr=>B.okp r (List.mem_of_mem_take hr),⟨by rw[aB (fun z=>by rw[z,hb]at et;cases et)];exact et,cw.1,cw.2⟩,Nat.le_trans (List.length_filter_le _ _) ls,fun s hs=>B.h5 s (zAq.mp hs).1,rB B.un _⟩
theorem Jj:FnScope ["book","growth"] ["book","growth"] (aK (top 61)):=fQS
theorem Bq(F:Fun K "met_by" "met_by" (top 61) f fd)(c1:Cal P w K mg base 7 "refuse_no_book" ["thing"] qX)(c2:Cal P w K mg base 3 "refuse_no_growth" ["thing"] vg)(c3:Cal P w K mg base 11 "year_of_all" ["book","growth"] vh):FnOk P w K mg base CX0 12 f fd ["book","growth"] (Dn Ib):=by
 refine F.ok Jj (fun vs H Q E h=>?_) (fun ar A outer s H vs Q E hr h=>?_)
 .obtain⟨S,bk,g,d,ac,xc,cs,ap,xp,ps,af,xs,ss,rfl,_⟩:=h;rfl
 .obtain⟨S,bk,g,d,ac,xc,cs,ap,xp,ps,af,xs,ss,rfl,th,hz,hb,B,okc,lc1,g0,g1,q⟩:=h;refine⟨_,aA (cD (aG c1 hr (au (pv 0) aj))) (aA (cD (aG c2 hr (au (pv 1) aj))) (aC (aU (aG c3 hr (au (pv 0) (au (pv 1) aj)))))),?_⟩;refine aD ?_;refine⟨_,rfl,S,_,d,rfl,th,hz,hb,fun H1 s1=>?_⟩;dsimp only;refine aD ?_;refine⟨_,rfl,g,rfl,g0,g1,fun H2 s2=>?_⟩;dsimp only;exact⟨_,rfl,_,rfl,bk,g,ac,xc,cs,ap,xp,ps,af,xs,ss,rfl,(B.same s1).same s2,okc,lc1,g0,g1,fun o H3 s3 h=>q o _ ((s1.trans s2).trans s3) h⟩
theorem scGT:FnScope ["book","growth","clips","promises","sales","number"] ["book","growth"] (aK (top 62)):=fQS
theorem Do(F:Fun K "too_many" "too_many" (top 62) f fd)(T:Mg mg)(Tr:mg "range"=none)(c1:Cal P w K mg base 7 "refuse_no_book" ["thing"] qX)(c2:Cal P w K mg base 3 "refuse_no_growth" ["thing"] vg)(c3:Cal P w K mg base 11 "year_of_all" ["book","growth"] vh)(c4:Cal P w K mg base 1 "book_to" ["book","number"] ul):FnOk P w K mg base CX0 12 f fd ["book","growth"] (Dn Ek):=by
 refine F.ok scGT (fun vs H Q E h=>?_) (fun ar A outer s H vs Q E hr h=>?_)
 .obtain⟨S,bk,g,d,ac,xc,cs,ap,xp,ps,af,xs,ss,rfl,_⟩:=h;rfl
 .obtain⟨S,bk,g,d,ac,xc,cs,ap,xp,ps,af,xs,ss,rfl,th,hz,hb,B,okc,lc1,g0,g1,q⟩:=h
  refine⟨_,aA (cD (aG c1 hr (au (pv 0) aj))) (aA (cD (aG c2 hr (au (pv 1) aj)))
   (aA (cz (pv 0) (bI rfl (aq (pgn 2 scGT.nd) (aq (pgn 3 scGT.nd) (aq (pgn 4 scGT.nd) aY)))))
   (aA (cP zB5 rfl (di rfl Tr (au (aQ aZ rfl T.len PySem.boot_len (au (pv 3) aj)) aj)) (pgn 5 scGT.nd)
    (aC (bY (bx iJ (aG c3 hr (au (aG c4 hr (au (pv 0) (au (pv 5) aj))) (au (pv 1) aj))) dz (bf _)) (aC (aU (pv 5))) bh)))
   (aC (aU dz))))),?_⟩
  refine aD ?_;refine⟨_,rfl,S,_,d,rfl,th,hz,hb,fun H1 s1=>?_⟩;dsimp only;refine aD ?_;refine⟨_,rfl,g,rfl,g0,g1,fun H2 s2=>?_⟩;dsimp only;have gI:=s1.trans s2;have B2:=B.same gI;refine aD ?_;refine⟨_,rfl,bk,_,rfl,SqT.of B2.e,rfl,_,_,rfl,_,_,rfl,_,_,rfl,rfl,?_⟩;dsimp only;have lx:=B.rp.l;have lp:=B.lp;refine aD ?_;refine⟨_,rfl,ap,xp,rfl,.inr (SqT.of B2.rp.e),(xp.length:Int),rfl,Zz,Zz,?_⟩;refine cT (lo:=0) (fun i σ Hc=>∃x5,σ=[some (.ref bk),some (.int g),some (.ref ac),some (.ref ap),some (.ref af),x5]/\Same H2 Hc/\∀j,j<i->¬km g cs ps ss j) ?_ ?_ ?_
  .exact⟨none,rfl,Same.refl _,fun j hj=>absurd hj (Nat.not_lt_zero _)⟩
  .rintro i σ Hc hi ⟨x5,rfl,sm,hh⟩;have hi:i<ps.length:=Zz
   refine aN ?_;rw[show(0:Int)+(i:Int)=i by lia];refine⟨_,rfl,_,rfl,bk,i,ac,xc,cs,ap,xp,ps,af,xs,ss,rfl,B2.same sm,Zz,fun AE D1 D2 D3 ui H3 s3 B3=>?_⟩;rw[zAi]at B3;refine⟨_,rfl,AE,g,ac,xc,cs,D1,D2,_,D3,ui,_,rfl,B3,okc,lc1,g0,g1,fun o H4 s4 h=>⟨rfl,_,rfl,?_⟩⟩;have rg:=(sm.trans s3).trans s4
   cases o with
   |none=>
    refine bN ?_;exact⟨_,rfl,q (some i) _ (gI.trans rg) ⟨hi,h,hh⟩⟩
   |some m=>
    refine bF ?_;refine⟨_,rfl,rg,fun j hj=>?_⟩;rcases Nat.lt_or_ge j i with z|z
    .exact hh j z
    .have:j=i:=Zz
     subst this;exact fun nv=>nv m h.1 h.2.1
  .rintro σ Hc ⟨x5,rfl,sm,hh⟩;exact q none _ (gI.trans sm) fun j hj=>hh j Zz
inductive SpNoLaterI(vs:List V)(H:Hp)(Q:VK):Prop
 |mk:∀a b:Option Nat,(vs=[unV a,unV b])->(∀H',Same H H'->Q (.bl (xf a b)) H')->SpNoLaterI  vs H Q
def pM:Sp:=fun vs H Q _=>SpNoLaterI  vs H Q
theorem Dp{xs:List V}{m:Nat}:gA xs (some (m:Int)) none=xs.drop m:=by
 unfold gA;rw[HT.sIx_none,HT.sIx_nat];by_cases h:m<=xs.length
 .rw[Nat.min_eq_left h,List.take_of_length_le (by rw[List.length_drop];lia)]
 .rw[Nat.min_eq_right Zz,List.drop_length,List.take_nil,List.drop_of_length_le Zz]
theorem yF{H:Hp}{a c:Addr}{xs:List V}{rs:List (List Int)}{m:Nat}(h:RowsAt H a xs rs)(e:H c=some (.tup (xs.drop m))):RowsAt H c (xs.drop m) (rs.drop m):=by
 refine⟨e,by rw[List.length_drop,List.length_drop,h.l],fun i r er=>?_⟩;rw[List.getElem?_drop]at er⊢;exact h.g _ r er
theorem RowsAt.els{H:Hp}{a:Addr}{xs:List V}{rs:List (List Int)}(h:RowsAt H a xs rs):Els H xs rs:=⟨h.l,h.g⟩
theorem uo{H:Hp}{a b c:Addr}{xs ys:List V}{rs qs:List (List Int)}(h:RowsAt H a xs rs)(g:RowsAt H b ys qs)(e:H c=some (.tup (xs++ys))):RowsAt H c (xs++ys) (rs++qs):=by
 obtain⟨l,k⟩:=h.els.app g.els;exact⟨e,l,k⟩
theorem xm{X:Cx}:OpR X (binaryOp .Add) (fun x y H Q=>∃a b xs ys,x=.ref a/\y=.ref b/\H a=some (.tup xs)/\H b=some (.tup ys)/\xs.length+ys.length<=sizeLine/\∀c H',Same H H'->H' c=some (.tup (xs++ys))->Q (.ref c) H'):=by
 intro Zt s σ H x y v u Q I rx ry h;obtain⟨a,b,xs,ys,rfl,rfl,ha,hb,hz,q⟩:=h;by_cases hx:xs=[]
 .subst hx;exact sI Zt s σ H _ _ v u Q I rx ry ⟨a,b,ys,rfl,rfl,SqT.of ha,SqT.of hb,q b H (Same.refl H) hb⟩
 .exact vD Zt s σ H _ _ v u Q I rx ry ⟨a,b,xs,ys,rfl,rfl,SqT.of ha,SqT.of hb,hx,hz,fun e=>q a H (Same.refl H) (by rw[e,zAn];exact ha),fun _ p hp=>q p _ (Same.upd hp) ao⟩
theorem Dq{cs:List (List Int)}{y:Nat}{r:List Int}(h:y<cs.length):cs.take y++[r]++cs.drop (y+1)=cs.set y r:=by
 rw[List.set_eq_take_append_cons_drop,zAv h,zAf];rfl
def rC(cs jI:List (List Int)):Prop:=jI.length=cs.length/\(∀r∈jI,okC r)/\∀t Y,Mono t 3->cs.length<=Y+1->wS cs Y t<=wS jI Y t
theorem rD{c:List Int}(ok:okC c){m:Nat}(hm:m<3):0<=fl c m/\fl c m<1000:=by
 have hl:m<c.length:=by rw[ok.1];exact hm
 refine ok.2 _ ?_;unfold fl;rw[zA7,zA0 hl];exact zAh hl
theorem Br{cs:List (List Int)}{y s:Nat}{k:Int}(okc:∀r∈cs,okC r)(hy:y<cs.length)(hs:s<3)(h0:0<=k)(h1:fl (cs.getD y []) s+k<1000):rC cs (cs.set y ((cs.getD y []).set s (fl (cs.getD y []) s+k))):=by
 have ok:okC (cs.getD y []):=by rw[getD_get hy];exact okc _ (zAh hy)
 have b:=rD ok hs;refine⟨List.length_set,rm okc hy hs Zz h1,fun t Y _ hY=>?_⟩;have:=qZ (cs:=cs) (y:=y) (s:=s) (k:=k) (Y:=Y) (t:=t) hy Zz hs (by rw[ok.1];exact hs);unfold gB at this;rw[this];split<;>lia
theorem Ds{cs:List (List Int)}{y s:Nat}(okc:∀r∈cs,okC r)(hy:y<cs.length)(hs:s+1<3)(h1:fl (cs.getD y []) s+fl (cs.getD y []) (s+1)<1000):rC cs (cs.set y (((cs.getD y []).set s (fl (cs.getD y []) s+fl (cs.getD y []) (s+1))).set (s+1) 0)):=by
 have ok:okC (cs.getD y []):=by rw[getD_get hy];exact okc _ (zAh hy)
 have b:=rD ok hs;have b0:=rD ok (m:=s) Zz
 obtain⟨a,ha⟩:∃a,a=fl (cs.getD y []) (s+1):=⟨_,rfl⟩
 rw[<-ha]at h1 b⊢;have MD:=rm (s:=s) (k:=a) okc hy Zz Zz Zz
 have e1:(gB cs y s a).getD y []=(cs.getD y []).set s (fl (cs.getD y []) s+a):=by
  unfold gB;rw[zA7,List.getElem?_set_self hy];rfl
 have e2:fl ((gB cs y s a).getD y []) (s+1)=a:=by
  rw[e1,ha];exact kh Zz
 have l1:(gB cs y s a).length=cs.length:=ud _ _ _ _
 have e3:gB (gB cs y s a) y (s+1) (-a)=cs.set y (((cs.getD y []).set s (fl (cs.getD y []) s+a)).set (s+1) 0):=by
  show(gB cs y s a).set y (((gB cs y s a).getD y []).set (s+1) (fl ((gB cs y s a).getD y []) (s+1)+-a))=_;rw[e2,e1,show a+-a=0 by lia];unfold gB;rw[List.set_set]
 rw[<-e3];refine⟨by rw[ud,l1],rm MD Zz hs Zz Zz,fun t Y mo hY=>?_⟩;have w1:=qZ (cs:=cs) (y:=y) (s:=s) (k:=a) (Y:=Y) (t:=t) hy Zz Zz (by rw[ok.1];lia);have w2:=qZ (cs:=gB cs y s a) (y:=y) (s:=s+1) (k:=-a) (Y:=Y) (t:=t) Zz Zz hs (by rw[e1,List.length_set,ok.1];lia);rw[w2,w1];have:=mo s hs;split<;>split<;>lia
inductive SpRicherI(vs:List V)(H:Hp)(Q:VK):Prop
 |mk:∀st ac xc cs,(vs=[.ref st,.ref ac])->(iC H st)->(RowsAt H ac xc cs)->((∀r∈cs,okC r))->(1<=cs.length)->(cs.length<=20)->(∀a' ME jI H',Dr st H H'->RowsAt H' a' ME jI->rC cs jI->Q (.ref a') H')->SpRicherI  vs H Q
def uq:Sp:=fun vs H Q _=>SpRicherI  vs H Q
theorem G7{tt:TT}{σ:L2.St}{H:Hp}{Q:Bool->Hp->Prop}(h:∀q:Bool->Hp->Prop,(∀b H,Q b H->q b H)->tt σ H q):tt σ H Q:=h Q fun _ _ z=>z
theorem Jk:FnScope ["_law_one","_law_other"] ["_law_one","_law_other"] (aK (top 80)):=fQS
theorem vm(F:Fun K "_law_no_later" "_law_no_later" (top 80) f fd):FnOk P w K mg base CX0 1 f fd ["_law_one","_law_other"] pM:=by
 refine F.ok Jk (fun vs H Q E h=>?_) (fun ar A outer s H vs Q E hr h=>?_)
 .obtain⟨a,b,rfl,_⟩:=h;rfl
 .obtain⟨a,b,rfl,q⟩:=h;refine⟨_,aC (aU (Du (cg (cY pW (pv 0) dz (bf _)) (cV (Du (cY iJ (pv 1) dz (bf _)) (cV (cY bH (pv 0) (pv 1) (bf _)))))) (cV (cg (cY iJ (pv 0) dz (bf _)) (cV (cY iJ (pv 1) dz (bf _))))))),?_⟩;have q:=q H (Same.refl H)
  cases a with
  |none=>
   cases b with
   |none=>exact⟨_,rfl,rfl,_,rfl,bF ⟨_,rfl,bF ⟨_,rfl,rfl,_,rfl,bN ⟨_,rfl,rfl,q⟩⟩⟩⟩
   |some b=>exact⟨_,rfl,rfl,_,rfl,bF ⟨_,rfl,bF ⟨_,rfl,rfl,_,rfl,bN ⟨_,rfl,rfl,q⟩⟩⟩⟩
  |some a=>
   cases b with
   |none=>exact⟨_,rfl,rfl,_,rfl,bN ⟨_,rfl,rfl,_,rfl,bN ⟨_,rfl,bN q⟩⟩⟩
   |some b=>
    have q:Q (.bl (decide (a<=b))) H:=q;refine⟨_,rfl,rfl,_,rfl,bN ⟨_,rfl,rfl,_,rfl,bF ⟨_,rfl,_,rfl,_,_,rfl,rfl,_,rfl,?_⟩⟩⟩;by_cases h:a<=b
    .rw[zAt h]at q;rw[zAt (show(a:Int)<=b by lia)];exact bN q
    .rw[zB1 h]at q;rw[zB1 (show¬(a:Int)<=b by lia)];exact bF ⟨_,rfl,rfl,_,rfl,bF q⟩
theorem jQ:bootBuiltins "min"=some (.builtin "min"):=by decide +kernel
theorem scRC:FnScope ["_law_state_here","_law_clips_here","_law_year","_law_sort","_law_clip"] ["_law_state_here","_law_clips_here"] (aK (top 81)):=fQS
theorem yG(F:Fun K "_law_richer" "_law_richer" (top 81) f fd)(T:Mg mg)(Tl:mg "list"=none)(Tn:mg "min"=none)(c0:Cal P w K mg base 1 "_law_take" ["_law_state_here","_law_many"] iV):FnOk P w K mg base CX0 2 f fd ["_law_state_here","_law_clips_here"] uq:=by
 refine F.ok scRC (fun vs H Q E h=>?_) (fun ar A outer s H vs Q E hr h=>?_)
 .obtain⟨st,ac,xc,cs,rfl,_⟩:=h;rfl
 .obtain⟨st,ac,xc,cs,rfl,cx,rc,okc,lc1,lc,q⟩:=h
  refine K53P.ok_b (aW ⟨pQ (i:=2) (j:=3) rfl scRC.nd rfl rfl Zx rfl rfl (au (aG c0 hr (au (pv 0) (au (aQ aZ rfl T.len PySem.boot_len (au (pv 1) aj)) aj))) (au (aG c0 hr (au (pv 0) (au az aj))) aj)) rfl⟩
   (aW (iU 4 scRC.nd ⟨bJ j0 rfl Tl jY (au (pX bK (pv 1) (pv 2)) aj)⟩)
   (aW ⟨bY (PW.pt (ju (bx lE (pv 3) az (bf _)) (ju (bx rK (aG c0 hr (au (pv 0) (au az aj))) az (bf _)) (kY (bx gF (aR bw (pX bG (pv 4) (aR cN (pv 3) az)) (pX bG (pv 4) (pv 3))) az (bf _))))))
    (aC (cz (bT (au (aR bw (pX bG (pv 4) (aR cN (pv 3) az)) (pX bG (pv 4) (pv 3))) (au az aj))) (bI rfl (aq (jw (pv 4) (aR cN (pv 3) az) set_list) (aq (jw (pv 4) (pv 3) set_list) aY)))))
    (aC (cz (aQ (dY rfl) rfl Tn jQ (au az (au (aR bw (pX bG (pv 4) (pv 3)) (aG c0 hr (au (pv 0) (au az aj)))) aj))) (jw (pv 4) (pv 3) set_list)))⟩
   (fZ (lU ⟨aR xm (aR xm (fJ lu (pv 1) ik (il (pv 2))) (bT (au (bJ bA rfl T.tuple boot_tuple (au (pv 4) aj)) aj))) (fJ lu (pv 1) (il (aR bw (pv 2) az)) ik)⟩))))) ?_
  have lx:=rc.l
  have d0:Dr st H H:=⟨But.refl,cx⟩
  refine aD ?_;refine⟨_,rfl,_,rfl,ac,xc,rfl,.inr (SqT.of rc.e),st,_,rfl,cx,Zz,Zz,fun y a' b' y0 y1 a0 b0 b1=>?_⟩;have d1:=d0.take a0 b0 b1;generalize upd H st (.lst [.int a',.int b'])=H1 at d1⊢;refine⟨_,rfl,st,3,rfl,d1.sa,by decide,by decide,fun s1 a' b' s0 s3 a0 b0 b1=>⟨_,_,rfl,?_⟩⟩;have d2:=d1.take a0 b0 b1;generalize upd H1 st (.lst [.int a',.int b'])=H2 at d2⊢;clear d1;dsimp only
  obtain⟨n,rfl⟩:∃n:Nat,y=n:=⟨y.toNat,Zz⟩
  obtain⟨m,rfl⟩:∃m:Nat,s1=m:=⟨s1.toNat,Zz⟩
  have hn:n<cs.length:=Zz
  have xi:=d2.rows cx rc;obtain⟨t,ex,et⟩:=xi.g n cs[n] (zA0 hn);have ok:okC (cs.getD n []):=by rw[getD_get hn];exact okc _ (zAh hn)
  rw[<-getD_get hn]at et;refine aD (aX ?_);refine⟨_,rfl,_,rfl,ac,_,_,_,rfl,rfl,SqT.of xi.e,dC ex,t,_,rfl,.inr (SqT.of et),fun l hl=>?_⟩;have nl:H l=none:=d2.free hl;have oQ:l≠st:=d2.ne hl;have d3:=d2.new (o:=.lst ((cs.getD n []).map V.int)) hl;have el:=ao (H:=H2) (a:=l) (o:=.lst ((cs.getD n []).map V.int));generalize upd H2 l (.lst ((cs.getD n []).map V.int))=H3 at d3 el⊢;refine aN ?_;dsimp only;clear d2 xi et hl
  obtain⟨c,hc⟩:∃c,c=cs.getD n []:=⟨_,rfl⟩
  rw[<-hc]at el ok;refine iu fun c_ dQ=>?_
  have fin:∀Hc r',Dr st H Hc->Hc l=some (.lst (r'.map V.int))->rC cs (cs.set n r')->c_ [some (.ref st),some (.ref ac),some (.int n),some (.int m),some (.ref l)] Hc:=fun Hc r' dc er ri=>by
   refine dQ _ _ ?_;clear dQ
   try dsimp only
   refine lV ?_;have rX:=dc.rows cx rc;refine⟨_,rfl,_,rfl,(n:Int),rfl,ac,xc,rfl,rX.e,fun k1 H4 s4 ij=>?_⟩;rw[xj]at ij;have ix:=jP (rX.same s4) ij;have d4:=dc.same s4;have MF:=s4 _ _ er;refine⟨_,rfl,l,_,rfl,.inl ⟨SqL.of MF,fun t1 pT=>?_⟩⟩;have u1:=Same.upd (o:=.tup (r'.map V.int)) pT;have xh:=ao (H:=H4) (a:=t1) (o:=.tup (r'.map V.int));generalize upd H4 t1 (.tup (r'.map V.int))=H5 at u1 xh⊢;have ix:=ix.same u1;have d5:=d4.same u1;refine⟨zL,fun t2 rq=>?_⟩;have u2:=Same.upd (o:=.tup [.ref t1]) rq;have ja:=ao (H:=H5) (a:=t2) (o:=.tup [.ref t1]);generalize upd H5 t2 (.tup [.ref t1])=H6 at u2 ja⊢;have ix:=ix.same u2;have d6:=d5.same u2
   have r2:RowsAt H6 t2 [.ref t1] [r']:=by
    have:=Els.one (u2 _ _ xh);exact⟨ja,this.1,this.2⟩
   refine⟨k1,t2,_,_,rfl,rfl,ix.e,r2.e,by rw[zAd,sizeLine_eq];show _+1<=_;lia,fun k3 H7 s7 MG=>?_⟩;have r3:=uo (ix.same s7) (r2.same s7) MG;have d7:=d6.same s7;have JK:=d7.rows cx rc;refine⟨_,rfl,_,rfl,_,_,rfl,rfl,_,rfl,ac,xc,rfl,JK.e,fun k4 H8 s8 JL=>?_⟩;rw[show(n:Int)+1=((n+1:Nat):Int) by lia,Dp]at JL;have r4:=yF (JK.same s8) JL;refine⟨k3,k4,_,_,rfl,rfl,(r3.same s8).e,r4.e,by rw[zA2,zAd,List.length_drop,sizeLine_eq];show _+1+_<=_;lia,fun k5 H9 s9 C8=>?_⟩;have r5:=uo ((r3.same s8).same s9) (r4.same s9) C8;rw[Dq hn]at r5;exact q k5 _ _ H9 ((d7.same s8).same s9) r5 ri
  clear dQ;refine G7 (tt:=Gb _ _) fun q_ AF=>?_;have MJ:=rD ok (m:=m) Zz;have D4:atI (c.map V.int) (m:Int)=some (.int (fl c m)):=dC (fu (by rw[ok.1];lia))
  have els:∀Hd,Dr st H Hd->Hd l=some (.lst (c.map V.int))->q_ false Hd:=fun Hd dd ed=>by
   refine AF _ _ (bF ?_);clear AF;refine⟨_,rfl,_,rfl,l,_,_,_,rfl,rfl,SqL.of ed,D4,_,rfl,st,30,rfl,dd.sa,by decide,by decide,fun x a' b' x0 x3 a0 b0 b1=>?_⟩;have d4:=dd.take a0 b0 b1;have e4:upd Hd st (.lst [.int a',.int b']) l=some (.lst (c.map V.int)):=by rw[aB oQ];exact ed
   generalize upd Hd st (.lst [.int a',.int b'])=H4 at d4 e4⊢;refine⟨_,_,rfl,rfl,_,_,rfl,_,rfl,_,rfl,l,_,_,m,rfl,rfl,e4,mH Zz (by rw[zA1,ok.1];lia),?_⟩;rw[iB];refine fin _ _ (d4.put nl oQ) ao ?_;rw[hc]at ok MJ⊢;have:=Br (s:=m) (k:=(if fl (cs.getD n []) m+x<999 then fl (cs.getD n []) m+x else 999)-fl (cs.getD n []) m) okc hn Zz (by split<;>lia) (by split<;>lia);rw[show fl (cs.getD n []) m+((if fl (cs.getD n []) m+x<999 then fl (cs.getD n []) m+x else 999)-fl (cs.getD n []) m)=(if fl (cs.getD n []) m+x<999 then fl (cs.getD n []) m+x else 999) by lia]at this;exact this
  refine⟨_,rfl,_,_,rfl,rfl,_,rfl,?_⟩;refine jy (fun c1=>?_) (fun c1=>els _ d3 el);have c1:(0:Int)<m:=zB4 c1;refine⟨_,rfl,st,2,rfl,d3.sa,by decide,by decide,fun x a' b' x0 x3 a0 b0 b1=>⟨rfl,_,rfl,?_⟩⟩;have d4:=d3.take a0 b0 b1;have e4:upd H3 st (.lst [.int a',.int b']) l=some (.lst (c.map V.int)):=by rw[aB oQ];exact el
  generalize upd H3 st (.lst [.int a',.int b'])=H4 at d4 e4⊢;refine jy (fun c2=>?_) (fun c2=>els _ d4 e4)
  obtain⟨j,rfl⟩:∃j,m=j+1:=⟨m-1,Zz⟩
  have JM:atI (c.map V.int) (((j+1:Nat):Int)-1)=some (.int (fl c j)):=by
   rw[show((j+1:Nat):Int)-1=(j:Int) by lia];exact dC (fu (by rw[ok.1];lia))
  refine⟨_,rfl,_,rfl,_,_,rfl,rfl,l,_,_,_,rfl,rfl,SqL.of e4,JM,_,rfl,_,rfl,l,_,_,_,rfl,rfl,SqL.of e4,D4,_,_,rfl,rfl,_,_,rfl,rfl,_,rfl,?_⟩;show q_ (decide (fl c j+fl c (j+1)<1000)) H4;by_cases c3:fl c j+fl c (j+1)<1000
  case neg=>
   rw[zB1 c3];exact els _ d4 e4
  rw[zAt c3];clear els;refine AF _ _ (bN ?_);clear AF;refine⟨_,rfl,_,rfl,_,_,rfl,rfl,l,_,_,_,rfl,rfl,SqL.of e4,JM,_,rfl,_,rfl,l,_,_,_,rfl,rfl,SqL.of e4,D4,_,_,rfl,rfl,zL,fun t2 rq=>?_⟩;have d5:=d4.new (o:=.tup [.int (fl c j+fl c (j+1)),.int 0]) rq;have ja:=ao (H:=H4) (a:=t2) (o:=.tup [.int (fl c j+fl c (j+1)),.int 0]);have e5:=Same.upd (o:=.tup [.int (fl c j+fl c (j+1)),.int 0]) rq _ _ e4;generalize upd H4 t2 (.tup [.int (fl c j+fl c (j+1)),.int 0])=H5 at d5 ja e5⊢
  have n2:t2≠l:=fun z=>by rw[z,e5]at ja;cases ja
  refine⟨t2,_,rfl,SqT.of ja,rfl,_,_,rfl,_,rfl,_,rfl,_,_,rfl,rfl,l,_,_,j,rfl,rfl,e5,?_,?_⟩
  .rw[show((j+1:Nat):Int)-1=(j:Int) by lia];exact mH Zz (by rw[zA1,ok.1];lia)
  rw[iB];have d6:=d5.put (o:=.lst ((c.set j (fl c j+fl c (j+1))).map V.int)) nl oQ;have e6:=ao (H:=H5) (a:=l) (o:=.lst ((c.set j (fl c j+fl c (j+1))).map V.int));generalize upd H5 l (.lst ((c.set j (fl c j+fl c (j+1))).map V.int))=H6 at d6 e6⊢;refine⟨_,_,rfl,_,rfl,_,rfl,l,_,_,j+1,rfl,rfl,e6,mH Zz (by rw[zA1,List.length_set,ok.1];lia),?_⟩;rw[iB];refine⟨rfl,fin _ _ (d6.put nl oQ) ao ?_⟩;rw[hc]at c3⊢;exact Ds okc hn Zz c3
structure TB(H:Hp)(bk ac:Addr)(xc:List V)(cs:List (List Int))(ap:Addr)(xp:List V)(ps:List (List Int))(af:Addr)(xs:List V)(ss:List (List Int)):Prop where
 b:BookAt H bk ac xc cs ap xp ps af xs ss
 okc:∀r∈cs,okC r
 lc1:1<=cs.length
section
variable{H H':Hp}{bk ac:Addr}{xc:List V}{cs:List (List Int)}{ap:Addr}{xp:List V}{ps:List (List Int)}{af:Addr}{xs:List V}{ss:List (List Int)}
theorem TB.same(h:TB H bk ac xc cs ap xp ps af xs ss)(s:Same H H'):TB H' bk ac xc cs ap xp ps af xs ss:=⟨h.b.same s,h.okc,h.lc1⟩
theorem TB.keep(h:TB H bk ac xc cs ap xp ps af xs ss)(k:∀b l,H b=some (.tup l)->H' b=some (.tup l)):TB H' bk ac xc cs ap xp ps af xs ss:=⟨⟨k _ _ h.b.e,h.b.rc.keep k,h.b.okc,h.b.lc,h.b.rp.keep k,h.b.lp,h.b.okp,h.b.rs.keep k,h.b.ls,h.b.h5,h.b.un⟩,h.okc,h.lc1⟩
theorem TB.bko(h:TB H bk ac xc cs ap xp ps af xs ss):BkO cs ps ss:=⟨h.b.okc,h.b.lp,h.b.un,h.b.h5,h.b.okp⟩
theorem TB.th(h:TB H bk ac xc cs ap xp ps af xs ss):IsTh (fun _=>False) H (.ref bk) (.tuple [bU cs,bU ps,bU ss]):=.tup h.b.e (.cons h.b.rc.th (.cons h.b.rp.th (.cons h.b.rs.th .nil)))
theorem TB.sz(h:TB H bk ac xc cs ap xp ps af xs ss):L2.sz (.tuple [bU cs,bU ps,bU ss])<=4000:=by
 show 1+((1+szs (cs.map cA))+((1+szs (ps.map cA))+((1+szs (ss.map cA))+0)))<=4000;rw[jt (k:=3) fun r hr=>(h.okc r hr).1,jt (k:=6) fun r hr=>(h.b.okp r hr).1,jt (k:=5) h.b.h5];have:=h.b.lc;have:=h.b.lp;have:=h.b.ls;lia
theorem TB.ok(h:TB H bk ac xc cs ap xp ps af xs ss):jX (.tuple [bU cs,bU ps,bU ss])=true:=Dd h.lc1 h.b.lc h.okc h.b.lp h.b.okp h.b.ls h.b.h5 h.b.un
end
inductive SpLawI(K:Frag)(vs:List V)(H:Hp)(Q:VK):Prop
 |mk:∀(a:Addr) (ns:List Int),(vs=[.ref a])->(SqL K H a (ns.map V.int))->(ns.length<=63)->(∀H',Q (.bl true) H')->SpLawI K vs H Q
def xn(K:Frag):Sp:=fun vs H Q _=>SpLawI K vs H Q
theorem Bs{xs:List V}:gA xs none (some (-1))=xs.take (xs.length-1):=by
 unfold gA;rw[HT.sIx_none,List.drop_zero,Nat.sub_zero];congr 1;show(if(-1:Int)<0 then((-1:Int)+(xs.length:Int)).toNat else min (-1:Int).toNat xs.length)=_;rw[zAv Zx];lia
theorem nP{X:Cx}{K:Frag}(hK:X.K=K):dG X (.builtin "len") (fun xs H Q=>∃p ys,xs=[.ref p]/\(SqL K H p ys\/SqT K H p ys)/\Q (.int ys.length) H):=by
 subst hK;exact aZ
theorem Jl:(["_law_sale","_law_book_here"]:List Str).Nodup:=by decide +kernel
theorem scLI:FnScope ["_law_script","_law_k","_law_state_here","_law_book_here","_law_growth","_law_found","_law_many","_law_better","_law_rich","_law_fewer"] ["_law_script"] (aK (top 82)):=fQS
theorem G8(F:Fun K "law" "law" (top 82) f fd)(T:Mg mg)(Tr:mg "range"=none)(Tm:mg "max"=none)(Tn:mg "min"=none)
  (c0:Cal P w K mg base 1 "_law_take" ["_law_state_here","_law_many"] iV) (c1:Cal P w K mg base 2 "_law_state" ["_law_script","_law_k"] (vZ K)) (c2:Cal P w K mg base 4 "_law_book" ["_law_state_here","_law_years","_law_most","_law_sales_here"] wI) (c3:Cal P w K mg base 12 "lack_by" ["book","year"] (Dc Eh)) (c4:Cal P w K mg base 12 "met_by" ["book","growth"] (Dn Ib)) (c5:Cal P w K mg base 12 "too_many" ["book","growth"] (Dn Ek)) (c6:Cal P w K mg base 1 "_law_no_later" ["_law_one","_law_other"] pM) (c7:Cal P w K mg base 2 "_law_richer" ["_law_state_here","_law_clips_here"] uq):FnOk P w K mg base CX0 63 f fd ["_law_script"] (xn K):=by
 refine F.ok scLI (fun vs H Q E h=>?_) (fun ar A outer s H vs Q E hr h=>?_)
 .obtain⟨a,ns,rfl,_⟩:=h;rfl
 .obtain⟨a,ns,rfl,hS,hl,q⟩:=h
  refine K53P.ok_b (aW ⟨cP zB5 rfl (di rfl Tr (au (aQ (nW rfl) rfl Tm pL (au az (au (aQ (dY rfl) rfl Tn jQ (au (aQ aZ rfl T.len PySem.boot_len (au (pv 0) aj)) (au az aj))) aj))) aj)) (pgn 1 scLI.nd)
   (DP (aW (iU 2 scLI.nd ⟨aG c1 hr (au (pv 0) (au (pv 1) aj))⟩)
   (aW (zr (i:=3) scLI.nd rfl (Or.inr rfl) ⟨aG c2 hr (au (pv 2) (au az (au az (au az aj))))⟩)
   (aW (iU 4 scLI.nd ⟨aR cN (aG c0 hr (au (pv 2) (au az aj))) az⟩)
   (aW ⟨pQ (i:=5) (j:=6) rfl scLI.nd rfl rfl Zx rfl rfl (au (aG c4 hr (au (pv 3) (au (pv 4) aj))) (au (aG c5 hr (au (pv 3) (au (pv 4) aj))) aj)) rfl⟩
   (aW ⟨bY (bx yS (cY iJ (pv 5) dz (bf _)) (cY pW (pv 6) dz (bf _)) (bf _)) (aC (aU gr)) bh⟩
   (aW (iU 7 scLI.nd ⟨aQ (dY rfl) rfl Tn jQ (au az (au (aR bw (aR bw (pv 4) az) (aG c0 hr (au (pv 2) (au az aj)))) aj))⟩)
   (aW ⟨bY (bZ (dB (aG c6 hr (au (aG c4 hr (au (pv 3) (au (pv 7) aj))) (au (pv 5) aj))))) (aC (aU gr)) bh⟩
   (aW (iU 8 scLI.nd ⟨bT (au (aG c7 hr (au (pv 2) (au (pX bK (pv 3) az) aj))) (au (pX bK (pv 3) az) (au (pX bK (pv 3) az) aj)))⟩)
   (aW ⟨bY (bx lE (aG c3 hr (au (pv 8) (au (aR cN (aQ aZ rfl T.len PySem.boot_len (au (pX bK (pv 3) az) aj)) az) aj))) (aG c3 hr (au (pv 3) (au (aR cN (aQ aZ rfl T.len PySem.boot_len (au (pX bK (pv 3) az) aj)) az) aj))) (bf _)) (aC (aU gr)) bh⟩
   (aW (iU 9 scLI.nd ⟨bT (au (pX bK (pv 3) az) (au (fJ lu (pX bK (pv 3) az) ik (il (yQ uw az))) (au (bJ bA rfl T.tuple boot_tuple (au (bW ["_law_sale","_law_book_here"] [none,some 3] rfl (dD (pX bK (pv 3) az))
    (fun C fp Zt s₂ H₂=>⟨pgn 0 Jl,ir (bx gF (pX (K53P.ix_tupK (K:=K) rfl) (pv 0) az) (aR cN (aQ (nP (K:=K) rfl) rfl T.len PySem.boot_len (au (pX (K53P.ix_tupK (K:=K) rfl) (pv 1) az) aj)) az) (bf _)),pv 0⟩)
    (fun C=>cI trivial) ⟨rfl,rfl,rfl,rfl⟩) aj)) aj)))⟩)
   (aW ⟨bY (bZ (dB (aG c6 hr (au (aG c4 hr (au (pv 9) (au (pv 4) aj))) (au (pv 5) aj))))) (aC (aU gr)) bh⟩
   (fZ ⟨bY (PW.pt (ju (bx pW (pv 6) dz (bf _)) (ju (bx gF (pv 6) (aR cN (aQ aZ rfl T.len PySem.boot_len (au (pX bK (pv 3) az) aj)) az) (bf _)) (kY (bx yS (aG c5 hr (au (pv 9) (au (pv 4) aj))) (pv 6) (bf _)))))) (aC (aU gr)) bh⟩)))))))))))))⟩
   (fZ (lU GP))) ?_
  refine aD ?_;have jv:(ns.map V.int).length<=63:=by rw[zA1];exact hl
  refine⟨_,rfl,a,_,rfl,.inl hS,_,_,rfl,_,_,rfl,_,rfl,?_,?_,?_⟩
  .split<;>split<;>lia
  .split<;>split<;>lia
  refine cT (lo:=0) (fun i σ Hc=>∃x1 x2 x3 x4 x5 x6 x7 x8 x9,σ=[some (.ref a),x1,x2,x3,x4,x5,x6,x7,x8,x9]/\Same H Hc) ?_ ?_ ?_
  .exact⟨none,none,none,none,none,none,none,none,none,rfl,Same.refl H⟩
  .rintro i σ H1 hi ⟨x1,x2,x3,x4,x5,x6,x7,x8,x9,rfl,s1⟩;refine aN (aD ?_);refine aX ?_;refine⟨_,rfl,_,rfl,a,ns,_,rfl,s1.seq hS,Zz,fun st x y hn CB MK pb=>?_⟩;have xb:H st=none:=s1.free hn
   have g1:iC (upd H1 st (.lst [.int x,.int y])) st:=⟨x,y,ao,CB,MK,pb⟩
   have s2:Same H (upd H1 st (.lst [.int x,.int y])):=s1.updR hn;generalize upd H1 st (.lst [.int x,.int y])=H2 at g1 s2⊢;refine aN ?_;dsimp only;have sN:∀{H3},Dr st H2 H3->Same H H3:=fun d b o e=>d.bt b o (s2 _ _ e) (aH e xb);refine aD (aX ?_);refine⟨_,rfl,st,8,6,3,rfl,g1,by decide,by decide,by decide,by decide,by decide,by decide,fun bk ac xc cs ap xp ps af xs ss H3 d3 eb rc lc1 JA okc rp lp okp rs ls cc pV=>?_⟩
   have B3:TB H3 bk ac xc cs ap xp ps af xs ss:=⟨⟨eb,rc,fun r hr=>⟨(okc r hr).1,fun x hx=>((okc r hr).2 x hx).1⟩,Zz,rp,Zz,okp,rs,Zz,fun s hs=>(cc s hs).1,pV⟩,okc,lc1⟩
   clear eb rc rp rs cc okp;refine aN ?_;dsimp only;have lx:=B3.b.rc.l;have ML:=B3.b.rp.l;have bko:=B3.bko;have pS:=v9 okc;have p9:=B3.b.lc
   have dv:cs≠[]:=fun z=>by rw[z]at lc1;exact absurd lc1 Zx
   refine aD (aX ?_);refine⟨_,rfl,st,60,rfl,d3.sa,by decide,by decide,fun r a' b' r0 r1 a0 b0 b1=>⟨_,_,rfl,rfl,?_⟩⟩;refine aN ?_;dsimp only
   obtain⟨g,hg⟩:∃g,g=r-40:=⟨_,rfl⟩
   rw[<-hg];have g0:-100<=g:=Zz
   have g2:g<=100:=Zz
   have d4:Dr st H3 (upd H3 st (.lst [.int a',.int b'])):=Dr.take ⟨But.refl,d3.sa⟩ a0 b0 b1;generalize upd H3 st (.lst [.int a',.int b'])=H4 at d4⊢;refine aD ?_;have B4:=B3.keep fun b l e=>d4.tup d3.sa e;refine⟨_,rfl,_,rfl,fun _=>False,bk,g,_,ac,xc,cs,ap,xp,ps,af,xs,ss,rfl,B4.th,B4.sz,B4.ok,B4.b,okc,lc1,g0,g2,fun o5 H5 s5 h5=>?_⟩;have B5:=B4.same s5;refine⟨_,rfl,_,rfl,fun _=>False,bk,g,_,ac,xc,cs,ap,xp,ps,af,xs,ss,rfl,B5.th,B5.sz,B5.ok,B5.b,okc,lc1,g0,g2,fun o6 H6 s6 h6=>⟨_,_,rfl,?_⟩⟩;have d6:=(d4.same s5).same s6;dsimp only;refine aD ?_;have im:=Bp bko g0 g2 pS dv p9 h5 h6;refine⟨_,rfl,rfl,_,rfl,rfl,rfl,_,rfl,?_⟩;refine jy (fun c=>absurd c ?_) (fun _=>?_)
   .cases o5 with
    |none=>
     cases o6 with
     |none=>cases im
     |some _=>exact zAg
    |some _=>
     cases o6 with
     |none=>exact zAg
     |some _=>cases im
   dsimp only;clear im;refine cU ?_;dsimp only;refine aD (aX ?_);refine⟨_,rfl,_,_,rfl,rfl,_,rfl,st,100,rfl,d6.sa,by decide,by decide,fun r2 a' b' QY QZ a0 b0 b1=>⟨_,_,rfl,rfl,_,_,rfl,?_⟩⟩;have d7:=d6.take a0 b0 b1;generalize upd H6 st (.lst [.int a',.int b'])=H7 at d7⊢;clear B5 B4 s5 s6 d6;refine aN ?_;dsimp only
   obtain⟨g',qv⟩:∃g',g'=if g+1+r2<100 then g+1+r2 else 100:=⟨_,rfl⟩
   rw[<-qv];have gg:g<=g'/\g'<=100:=by rw[qv];split<;>lia
   clear qv;have B7:=B3.keep fun b l e=>d7.tup d3.sa e;refine aD ?_;refine⟨_,rfl,_,rfl,fun _=>False,bk,g',_,ac,xc,cs,ap,xp,ps,af,xs,ss,rfl,B7.th,B7.sz,B7.ok,B7.b,okc,lc1,Zz,gg.2,fun o8 H8 s8 h8=>?_⟩;refine⟨_,rfl,o8,o5,rfl,fun H9 s9=>⟨_,rfl,?_⟩⟩;rw[uh (P:=jO g' cs ps ss) (Q:=jO g cs ps ss) h8 h5 fun j hj=>Bo bko g0 gg.1 gg.2 pS dv hj];refine bF ?_;have d9:=(d7.same s8).same s9;clear h8 B7 d7 s8 s9;refine cU ?_;dsimp only;refine aD (aX ?_);have B9:=B3.keep fun b l e=>d9.tup d3.sa e;refine⟨_,rfl,_,rfl,bk,_,0,.ref ac,rfl,rfl,SqT.of B9.b.e,rfl,st,ac,xc,cs,rfl,d9.sa,B9.b.rc,okc,lc1,p9,fun xy xA xB JN xC JO ri=>?_⟩;have D5:=d9.trans xC;have AG:=B3.keep fun b l e=>D5.tup d3.sa e;refine⟨_,rfl,bk,_,1,.ref ap,rfl,rfl,SqT.of AG.b.e,rfl,_,rfl,bk,_,2,.ref af,rfl,rfl,SqT.of AG.b.e,rfl,zL,fun qa xE=>?_⟩;have xI:=Same.upd (o:=.tup [.ref xy,.ref ap,.ref af]) xE;have D6:=ao (H:=JN) (a:=qa) (o:=.tup [.ref xy,.ref ap,.ref af]);generalize upd JN qa (.tup [.ref xy,.ref ap,.ref af])=MM at xI D6⊢;have iA:=AG.same xI;have JP:=D5.same xI;obtain⟨rl,ro,JQ⟩:=ri
   have iE:TB MM qa xy xA xB ap xp ps af xs ss:=⟨⟨D6,JO.same xI,fun r hr=>⟨(ro r hr).1,fun x hx=>((ro r hr).2 x hx).1⟩,Zz,iA.b.rp,iA.b.lp,iA.b.okp,iA.b.rs,iA.b.ls,iA.b.h5,iA.b.un⟩,ro,Zz⟩
   clear B9 d9 xC JO AG D5 xI D6 xE;refine aN ?_;dsimp only;refine aD ?_;have Q0:((xc.length:Int)-1).toNat+1=cs.length:=Zz
   refine⟨_,rfl,_,rfl,bk,_,0,.ref ac,rfl,rfl,SqT.of iA.b.e,rfl,ac,xc,rfl,.inr (SqT.of iA.b.rc.e),_,_,rfl,rfl,fun _=>False,qa,_,_,xy,xA,xB,ap,xp,ps,af,xs,ss,rfl,iE.th,iE.sz,iE.ok,iE.b,Zz,Zz,fun Q3 gI=>?_⟩;have mE:=iA.same gI;refine⟨_,rfl,_,rfl,bk,_,0,.ref ac,rfl,rfl,SqT.of mE.b.e,rfl,ac,xc,rfl,.inr (SqT.of mE.b.rc.e),_,_,rfl,rfl,fun _=>False,bk,_,_,ac,xc,cs,ap,xp,ps,af,xs,ss,rfl,mE.th,mE.sz,mE.ok,mE.b,Zz,Zz,fun Q4 D7=>⟨_,_,rfl,rfl,_,rfl,?_⟩⟩;have le:=ug (Y:=((xc.length:Int)-1).toNat) bko iE.bko (fun s j=>Int.le_refl _) fun t mo=>JQ t _ mo Zz;rw[decide_eq_false Zz];refine bF ?_;have JR:=(JP.same gI).same D7;have kN:=mE.same D7;clear le iE rl ro JQ iA mE gI D7 JP;refine cU ?_;dsimp only
   obtain⟨k,hk⟩:∃k,k=ps.length-1:=⟨_,rfl⟩
   have MN:=kN.b.ls;have Q5:=kN.b.rs.l;have JS:=kN.b.un
   have JT:∀s∈ss,(fl s 0<(xp.length:Int)-1↔fl s 0<(k:Int)):=fun s hs=>by
    have h0:0<=fl s 0/\fl s 0<ps.length:=by
     obtain⟨j,hj,e⟩:=List.getElem_of_mem hs;have:=mO JS j hj;rw[getD_get hj,e]at this;unfold bR jm at this;simp only[Bool.and_eq_true,Zp]at this;exact this.1.1
    lia
   refine aD (aX ?_);refine⟨_,rfl,bk,_,0,.ref ac,rfl,rfl,SqT.of kN.b.e,rfl,_,rfl,bk,_,1,.ref ap,rfl,rfl,SqT.of kN.b.e,rfl,1,rfl,_,rfl,ap,xp,rfl,kN.b.rp.e,fun k1 JU AH ij=>?_⟩;rw[Bs,ML,<-hk]at ij;have ix:=jP (kN.b.rp.same AH) ij;have iF:=kN.same AH;refine⟨_,rfl,bk,_,2,.ref af,rfl,rfl,SqT.of iF.b.e,rfl,af,rfl,⟨_,SqT.of iF.b.rs.e⟩,?_⟩;refine fO ss.length (fun i ys σ Hc=>Hc=JU/\(∃o1,σ=[o1,some (.ref bk)])/\Els JU ys (sTo (ss.take i) k)) ⟨rfl,⟨_,rfl⟩,Els.nil⟩ Zu ?_ ?_
   .rintro i ys σ Hc hi hy ⟨rfl,⟨o1,rfl⟩,els⟩;obtain⟨t,ex,et⟩:=iF.b.rs.g i ss[i] (zA0 hi);have l5:=iF.b.h5 _ (zAh hi);refine⟨⟨_,_,SqT.of iF.b.rs.e,ex⟩,fun v H' y' R' gx=>?_⟩;obtain⟨rfl,y'⟩:=y';have hv:=y' _ (SqT.of iF.b.rs.e);rw[ex]at hv;cases hv;refine aN ?_;rw[um hi]at gx;have kk:=JT _ (zAh hi);refine⟨_,rfl,t,_,0,_,rfl,rfl,SqT.of et,dC (j:=0) (fu Zz),_,rfl,bk,_,1,.ref ap,rfl,rfl,SqT.of iF.b.e,rfl,ap,xp,rfl,.inr (SqT.of iF.b.rp.e),_,_,rfl,rfl,_,_,rfl,rfl,_,rfl,?_⟩;refine jy (fun c=>?_) (fun c=>?_)
    .have c:fl ss[i] 0<(xp.length:Int)-1:=zB4 c;rw[zAv (kk.mp c)]at gx;exact⟨_,rfl,gx _ _ _ (by rw[zA2];exact Nat.succ_le_succ hy) ⟨rfl,⟨_,rfl⟩,els.app (Els.one et)⟩⟩
    .have c:¬fl ss[i] 0<(xp.length:Int)-1:=fun z=>c (zAt z);rw[zAu (fun z=>c (kk.mpr z)),zAn]at gx;exact gx _ _ _ Zz ⟨rfl,⟨_,rfl⟩,els⟩
   rintro ys σ Hc hy ⟨rfl,_,els⟩;rw[zAm]at els;refine⟨⟨_,SqT.of iF.b.rs.e,Zz⟩,fun D hD=>⟨D,_,rfl,.inl ⟨SqL.of ao,fun t ht=>?_⟩⟩⟩;have u2:=(Same.upd (o:=.lst ys) hD).updR (o:=.tup ys) ht;have et:=ao (H:=upd Hc D (.lst ys)) (a:=t) (o:=.tup ys);generalize upd (upd Hc D (.lst ys)) t (.tup ys)=JV at u2 et⊢;refine⟨zL,fun fb hb=>?_⟩;have u3:=u2.updR (o:=.tup [.ref ac,.ref k1,.ref t]) hb;have D8:=ao (H:=JV) (a:=fb) (o:=.tup [.ref ac,.ref k1,.ref t]);have qf:=Same.upd (o:=.tup [.ref ac,.ref k1,.ref t]) hb _ _ et;generalize upd JV fb (.tup [.ref ac,.ref k1,.ref t])=MO at u3 D8 qf⊢;have cw:=els.same u3;have se:=iF.same u3
   have sf:TB MO fb ac xc cs k1 (xp.take k) (ps.take k) t ys (sTo ss k):=⟨⟨D8,se.b.rc,se.b.okc,p9,ix.same u3,by rw[zAd];lia,fun r hr=>se.b.okp r (List.mem_of_mem_take hr),⟨qf,cw.1,cw.2⟩,Nat.le_trans (List.length_filter_le _ _) MN,fun s hs=>se.b.h5 s (zAq.mp hs).1,rB JS k⟩,okc,lc1⟩
   have JW:=(JR.same AH).same u3;clear els cw et qf D8 u2 u3 hb ht hD ix ij kN iF AH JR JT;refine aN ?_;dsimp only;refine aD ?_;refine⟨_,rfl,_,rfl,fun _=>False,fb,g,_,ac,xc,cs,k1,_,_,t,ys,_,rfl,sf.th,sf.sz,sf.ok,sf.b,okc,lc1,g0,g2,fun MP Q6 AI JX=>?_⟩;refine⟨_,rfl,MP,o5,rfl,fun Q7 AJ=>⟨_,rfl,?_⟩⟩;rw[uh JX h5 fun j hj=>vf bko g0 (Int.le_refl _) g2 pS dv k hj];refine bF ?_;have D9:=(JW.same AI).same AJ;have AK:=(sf.same AI).same AJ;have JY:=(se.same AI).same AJ;clear sf se JW AI AJ JX;refine cU ?_;dsimp only
   have fin:∀{Hc},Dr st H3 Hc->∃x1 x2 x3 x4 x5 x6 x7 x8 x9,([some (.ref a),some (.int (0+(i:Int))),some (.ref st),some (.ref bk),some (.int g),some (unV o5),some (unV o6),some (.int g'),some (.ref qa),some (.ref fb)]:L2.St)=[some (.ref a),x1,x2,x3,x4,x5,x6,x7,x8,x9]/\Same H Hc:=fun d=>⟨_,_,_,_,_,_,_,_,_,rfl,sN (d3.trans d)⟩
   refine⟨_,rfl,rfl,_,rfl,?_⟩
   cases o6 with
   |none=>
    refine bF ?_;exact fin D9
   |some m=>
    refine bN ?_;refine⟨_,rfl,_,rfl,bk,_,1,.ref ap,rfl,rfl,SqT.of JY.b.e,rfl,ap,xp,rfl,.inr (SqT.of JY.b.rp.e),_,_,rfl,rfl,_,_,rfl,rfl,_,rfl,?_⟩;refine jy (fun c=>?_) (fun c=>fin D9);have c:(m:Int)<(xp.length:Int)-1:=zB4 c;refine⟨_,rfl,_,rfl,fun _=>False,fb,g,_,ac,xc,cs,k1,_,_,t,ys,_,rfl,AK.th,AK.sz,AK.ok,AK.b,okc,lc1,g0,g2,fun Q8 Q9 MQ MR=>?_⟩;have:=yD Zz Zz h6 MR;subst this;refine⟨_,rfl,rfl,_,rfl,?_⟩;rw[zAt rfl];refine bF ?_;exact fin (D9.same MQ)
  .rintro σ Hc ⟨x1,x2,x3,x4,x5,x6,x7,x8,x9,rfl,sc⟩;exact q Hc
end K53
structure PySem.W.Fast:Prop where
 (tw15401887664492086400 tw7737596481776028864 tw10179349558859634976 tw14621340929591928288 tw15307564638911075840 tw5580411323848984192 tw1862071817244954240 tw9709613539962113153 tw9721342360330431649 tw1205335438397338817 tw968401289863854337 tw17049748736729909569 tw17207956012398613857 tw6951800376579742081 tw978152531420352033 tw2489203174578285217 tw2083623685439619841 tw13200777794259346177 tw6090284744107522849 tw1920440720920926306 tw11047217124717834434 tw11314951016618171618 tw16716572647780431106 tw7865584317853990370 tw3975021196138964482 tw12927382873263224450 tw9080782038804683458 tw18319240714757847906 tw156980526719818658 tw3331758338237772738 tw3985488955968886819 tw874945764004659363 tw2760145767363548419 tw6489026318963400099 tw11096037588441829859 tw15596307950894241283 tw1860103525135794979 tw6568044888453899268 tw15594726483544663108 tw7528949753896588388 tw16043537130654162084 tw11257895659988262084 tw11407230332085935396 tw1755438565903168804 tw5038779591872748932 tw5707512059310834084 tw6630055122346344868 tw12049628178056451492 tw18363850629910378948 tw12242995254608544196 tw8044810078434986500 tw18128458142896922116 tw7699564322461397540 tw14625718477450307108 tw1696188874097679908 tw2330056894336897604 tw6689741101674921540 tw7039460224266760996 tw15532997436639442852 tw13863186526041248740 tw14776737794792859620 tw17976426658789094372 tw12605018093566452773 tw10320222014902060229 tw16695406792901403877 tw5813125107424030949 tw5973070558799138117 tw9317655007226136933 tw16686676864021839237 tw12017227648003000773 tw6614012291986889157 tw5673728783497928261 tw11807459597766753925 tw5052831637753762501 tw10533253297342454629 tw1651461593612117893 tw8497380715101569989 tw17337904040778878022 tw291495365067189350 tw14113236590979893478 tw13413370773694789862 tw13492951898204132614 tw5798246919692153094 tw7145363812884977990 tw4842186746853243238 tw12995744993827110374 tw16079810138816592422 tw11840208920432669318 tw13988294726608068294 tw13991351436556247750 tw17653165508345417478 tw9993564669855486055 tw2441161504070454471 tw5076245049679628615 tw17526182857015119239 tw8144671332684420583 tw16530401243079351847 tw2206341862976866887 tw11305757590766945927 tw6790926627571425927 tw18425524508581281543 tw6301237510031524936 tw2841950065618655432 tw9438167451827678504 tw12869053105128299816 tw334168736978517576 tw1373362399722091176 tw4217918280377260776 tw744887544792410088 tw10839672920667635688 tw7350772556375819401 tw7709573431222644873 tw13007797080479260809 tw11918303026545411337 tw6027921070957922697 tw2357133237729521129 tw46272363657246313 tw4708241815905839753 tw5656909788538314409 tw7625752821546468041 tw12137325391736441545 tw5835884889606774505 tw10986040966944248553 tw17051878685635061609 tw284003167523429289 tw14442723892294858665 tw5013384022785017866 tw2383631382862015594 tw5092677905395909802 tw15122426437574703274 tw10328445928201871658 tw4116458125774872938 tw7565572136155760010 tw10113539996697906730 tw8893843377902376554 tw1575662315692666506 tw18148591020882790026 tw5950471376657359530 tw4746818165831916266 tw18321312202678576906 tw7923231317797008170 tw9342815882787493802 tw10010925618167511978 tw5714701865003407563 tw7278903647304897899 tw5533025524500980075 tw1599887632244002283 tw3950288924566412907 tw11418868761834936939 tw3613148680489332587 tw5733118396260351915 tw6069395149934788555 tw12826075337111296971 tw7988527448886944747 tw8322891906561208299 tw16266513079876717612 tw13978572069146076268 tw5218178923250169004 tw12183895677845956876 tw4516287092201650476 tw1557580830842612140 tw4198040849440923084 tw4340107408637411884 tw10188828314058150540 tw4517948421603600140 tw10284760155723668300 tw5797634626071576428 tw11831008612360865772 tw15550651125745658925 tw15037173667092002957 tw17444359933934037165 tw1047103144432237805 tw12360459619610539309 tw13198730309512872269 tw2743403661354217837 tw3593907388430384557 tw13060190384763652557 tw13217374385557408269 tw14401912630500849165 tw10236086218885655117 tw9713716854703665773 tw742114896020126381 tw5991707381433519885 tw6673853386819981101 tw2618056582752636877 tw5837445664419975182 tw3703923241452503086 tw17068817403002164270 tw12367018754573686862 tw10766667176121821326 tw16651202324041361870 tw11541874361541736046 tw348338846816886606 tw14916887087076793359 tw6615679104914069551 tw14611707738857007247 tw1713533354627608783 tw13485706767663969519 tw5771453348526157071 tw4810042366015680783 tw9924786205063991663 tw11268278991627433423 tw5989439440645955215 tw3873679617889149679 tw3722051601225058127 tw9540035607122673487 tw6833059108639954799 tw17869631720776386479 tw13415680383447240655 tw11675095711977118671 tw17738809849148337135 tw2803646639668949999 tw11144546047275104272 tw9289736115529734160 tw16648361285746214960 tw16208041107142587696 tw15069361764980953424 tw5877802463085412720 tw945887091185428912 tw820658374043600400 tw8726531818373724688 tw6137529583970468368 tw4996853709259893296 tw3687848141014376144 tw17255794470442374864 tw6306312612295398160 tw17216690133292342128 tw12166100277220587376 tw6104203028778091408 tw13621762530028687248 tw17057788822341718928 tw16751332125797572753 tw13430590726178590929 tw17060905750049264881 tw11397299635851798993 tw9766281954335189489 tw12988995010730495537 tw5720511122560374321 tw14265304120676218513 tw6979630260470360785 tw11864891868720856881 tw15095758929423944593 tw7724772575054797745 tw12448150380085100497 tw10947120279001124946 tw13866560743705133138 tw8952843415143223410 tw5385566180508103026 tw8897068986691883410 tw13300015936208375186 tw16985606677349104082 tw13112791959931769362 tw11847187482087165490 tw234212147364903506 tw1111790472907419250 tw4963319010623446930 tw3623829527215335378 tw5197014583915650034 tw14374028444296080467 tw9865466926036382963 tw18122169200148356339 tw3265357288966536595 tw18312561697114091923 tw6084434004645219763 tw3826697480732954099 tw12098491748109520403 tw5939873019154928243 tw8353317751460314803 tw12393036436240854707 tw8062208766178009875 tw12337904173865264019 tw9088548991970734164 tw8062400675539840116 tw3696602981620678804 tw16398551851020200244 tw4743142734453901716 tw3826170491282045332 tw13998346096456837588 tw15399113095962013300 tw8970617881358545556 tw12736318256091320180 tw8955442545083965300 tw3371343506244606868 tw13620382446427085845 tw5913884945234738229 tw3161587600446334037 tw10366935285287112917 tw18333858428242537717 tw8931077234621803797 tw178814503045489013 tw7662568892501256565 tw917409988783602069 tw2254327868741610901 tw17009075856297637429 tw11304332434429085333 tw9037748478390230869 tw6005721130922804085 tw12189668358363862230 tw15400482682999477494 tw595827702330233078 tw16912740332881249526 tw10643767500735590774 tw8981911184486137238 tw4577205805176127094 tw12417113886746619606 tw17735346105623615286 tw16863413608014237526 tw11864868966907706198 tw2994657590920473590 tw2133921237904214071 tw3927292012650846391 tw8021561218922381527 tw2881307865654939895 tw5784268462824769911 tw5651967441414191479 tw9642670084988903831 tw17588999556704882199 tw7882416373926546999 tw10146180459277230711 tw12109729488983399255 tw7161428276524715863 tw5060769200098407576 tw6885847280654901592 tw13522833827446955384 tw3211285258929787544 tw18410239428288408248 tw2250667174081133272 tw14731737786233268024 tw3240218948842612600 tw1954684863559300121 tw10259014026825346105 tw11025752694938541113 tw17947057992007283801 tw16494355587614079097 tw14280339107917555961 tw13440156675549739321 tw4727588800787667353 tw11086397797879192985 tw5927506028422454713 tw434723105668926937 tw2590014331892372985 tw14874772323179514393 tw2811558820953419321 tw13365046040226410073 tw12802515492602967833 tw16450033602206967609 tw3566897110193087321 tw14431076021913001881 tw13087628277362552729 tw9424628014109511609 tw14353074057090188538 tw5367194801024283930 tw16957813063490750842 tw14858893532362986906 tw15016709915208859066 tw15778085389774335482 tw9119408263436764762 tw3209383941272146554 tw1085252677667264154 tw11896337351300790938 tw15172597674857476826 tw8190190700613748538 tw14779222138147958746 tw5841147688823639131 tw7460981479842409659 tw4456393749767260379 tw6476844669763582171 tw8492609578965900635 tw9499047486099138971 tw18211679367796463067 tw7617797017603946971 tw4656845597509697147 tw5520585545652752219 tw11972491617111094139 tw13929819515584221083 tw18010871987438588827 tw6415402217341101019 tw7357358943126843355 tw7796575442931414011 tw3705408056806806556 tw833503112163171420 tw5411300922843411644 tw17666418277740072188 tw17441833181134226812 tw13596623847136163292 tw16430063994101234236 tw1171140228356539036 tw10832110367510041276 tw10568853805986364092 tw12262235012461163388 tw17015167554663001052 tw3109039750026412028 tw7950437242102162525 tw13507686219272822973 tw8079813680156063965 tw5784255147908939997 tw1942248933762110781 tw13576053461217495517 tw3716268874570369597 tw6389331705818955357 tw11628451041957976701 tw16723187477443746525 tw5175407553455627997 tw12403592171277532925 tw6158951707620078333 tw1782024079592323869 tw6633806275594484573 tw12138957356886994813 tw1982996007170890174 tw5904868393356323262 tw5338548522497843678 tw16075950882407161374 tw2217932092234582590 tw6460188275427722846 tw10469520687536623262 tw3510960468554302302 tw4762170660539501502 tw15050377433946464351 tw6653488358556072063 tw14444085843884434591 tw4380626085876205823 tw11319635397654407551 tw12261949780505967007 tw14145505484989179295 tw9460165420837327295 tw3206384856417619455 tw7565102432293974623 tw1362088950243860223 tw3325339643260565338:True)
namespace K53
open PySem L2
theorem el1{C:List Value->Prop}(h:∀a0:Value,C [a0]):∀us:List Value,us.length=1->C us:=fun us e=>match us,e with|[a0],_=>h a0
theorem el2{C:List Value->Prop}(h:∀a0 a1:Value,C [a0,a1]):∀us:List Value,us.length=2->C us:=fun us e=>match us,e with|[a0,a1],_=>h a0 a1
theorem el3{C:List Value->Prop}(h:∀a0 a1 a2:Value,C [a0,a1,a2]):∀us:List Value,us.length=3->C us:=fun us e=>match us,e with|[a0,a1,a2],_=>h a0 a1 a2
theorem el4{C:List Value->Prop}(h:∀a0 a1 a2 a3:Value,C [a0,a1,a2,a3]):∀us:List Value,us.length=4->C us:=fun us e=>match us,e with|[a0,a1,a2,a3],_=>h a0 a1 a2 a3
theorem el5{C:List Value->Prop}(h:∀a0 a1 a2 a3 a4:Value,C [a0,a1,a2,a3,a4]):∀us:List Value,us.length=5->C us:=fun us e=>match us,e with|[a0,a1,a2,a3,a4],_=>h a0 a1 a2 a3 a4
def Has(K:Frag)(x:Str)(st:Stmt):Prop:=∃(f:Addr) (od an:Option Addr) (sl:Array (Option Value)) (oc kV dc pm cd ct:Value),PySem.W.nsIn K mainGlobals x=some (some (.ref f)) /\
 K.lookup f=some ⟨oc,od,.func (PySem.W.fnOf x x (fc st) (dO st) (aK st) .none kV dc pm an cd ct),sl⟩/\PySem.W.codeIn K cd x=true/\PySem.W.keepIn K (.ref f)=true
theorem has_mk{K:Frag}{x:Str}{st:Stmt}{f:Addr}{od an:Option Addr}{sl:Array (Option Value)}{oc kV dc pm cd ct:Value}(a:PySem.W.nsIn K mainGlobals x=some (some (.ref f)))
  (l:K.lookup f=some ⟨oc,od,.func (PySem.W.fnOf x x (fc st) (dO st) (aK st) .none kV dc pm an cd ct),sl⟩) (c:PySem.W.codeIn K cd x=true) (k:PySem.W.keepIn K (.ref f)=true):Has K x st:=⟨f,od,an,sl,oc,kV,dc,pm,cd,ct,a,l,c,k⟩
theorem Has.get{K:Frag}{x:Str}{st:Stmt}{h:Heap}{mg:Str->Option Value}(H:Has K x st)(X:K.In h)(G:h.Ns mainGlobals mg):∃f fd,Fun K x x st f fd/\mg x=some (.ref f):=by
 obtain⟨f,od,an,sl,oc,kV,dc,pm,cd,ct,a,l,c,k⟩:=H;exact⟨f,_,yZ (st:=st) l c k,PySem.W.mg_of X G a⟩
theorem aV(P:Program)(w:World)(base:Heap){K:Frag}{mg:Str->Option Value}{k:Nat}{x:Str}{ps:List Str}{sp:Sp}{f:Addr}{fd:FuncData}(F:FnOk P w K mg base CX0 k f fd ps sp)(m:mg x=some (.ref f))(kp:PySem.W.keepIn K (.ref f)=true)(b:Binds K fd ps []):Cal P w K mg base k x ps sp:=⟨f,fd,F,m,kp,b⟩
theorem all_mk{l:PySem.W.OpenLaw}{w:World}{K:Frag}{h:Heap}{mg:Str->Option Value}{fa fL:Addr}{MT JZ:Option Addr}{MU:Array (Option Value)}{MV Ka Kb rf Ee Kc:Value}{t0 t1 t2 t3 t4 t5 t6 t7 t8 t9 Kd Ke Kf Kg:Tok}(X:K.In h)(G:h.Ns mainGlobals mg)(MW:mg "law"=some (.ref fa))
  (h10:Has K "is_whole" (top 10))
  (h11:Has K "is_whole_from" (top 11))
  (h12:Has K "is_tuple_of" (top 12))
  (h13:Has K "are_wholes" (top 13))
  (h24:Has K "is_clip" (top 24))
  (h25:Has K "are_clips" (top 25))
  (h26:Has K "is_promise" (top 26))
  (h27:Has K "are_promises" (top 27))
  (h28:Has K "are_sales" (top 28))
  (h29:Has K "held_in" (top 29))
  (h30:Has K "is_sale_between" (top 30))
  (h31:Has K "sale_holds" (top 31))
  (h32:Has K "first_unheld" (top 32))
  (h33:Has K "is_book" (top 33))
  (h34:Has K "refuse_no_book" (top 34))
  (h38:Has K "are_weights" (top 38))
  (h39:Has K "refuse_unpartable" (top 39))
  (h40:Has K "places_by_rest" (top 40))
  (h41:Has K "parts_of" (top 41))
  (h42:Has K "parted" (top 42))
  (h44:Has K "sacks_of" (top 44))
  (h45:Has K "claims_in" (top 45))
  (h46:Has K "shares_of" (top 46))
  (h47:Has K "made_good" (top 47))
  (h48:Has K "sort_given" (top 48))
  (h49:Has K "year_given" (top 49))
  (h50:Has K "years_given" (top 50))
  (h51:Has K "refuse_no_year_of" (top 51))
  (h52:Has K "refuse_no_year" (top 52))
  (h64:Has K "owed_behind" (top 64))
  (h57:Has K "refuse_no_growth" (top 57))
  (h58:Has K "grown" (top 58))
  (h59:Has K "year_of_all" (top 59))
  (h60:Has K "book_to" (top 60))
  (h61:Has K "met_by" (top 61))
  (h62:Has K "too_many" (top 62))
  (h66:Has K "lack_by" (top 66))
  (h68:Has K "_law_cell_at" (top 68))
  (h69:Has K "_law_state" (top 69))
  (h70:Has K "_law_take" (top 70))
  (h71:Has K "_law_clips" (top 71))
  (h72:Has K "_law_promises" (top 72))
  (h73:Has K "_law_begun" (top 73))
  (h74:Has K "_law_holds" (top 74))
  (h75:Has K "_law_sell" (top 75))
  (h76:Has K "_law_sold" (top 76))
  (h77:Has K "_law_any_sale" (top 77))
  (h78:Has K "_law_sales" (top 78))
  (h79:Has K "_law_book" (top 79))
  (h80:Has K "_law_no_later" (top 80))
  (h81:Has K "_law_richer" (top 81))
  (aL:PySem.W.nsIn K mainGlobals "law"=some (some (.ref fL))) (lL:K.lookup fL=some ⟨MV,MT,.func (PySem.W.fnOf "law" "law" (fc (top 82)) (dO (top 82)) (aK (top 82)) .none Ka Kb rf JZ Ee Kc),MU⟩) (cL:PySem.W.codeIn K Ee "law"=true) (kL:PySem.W.keepIn K (.ref fL)=true)
  (n0:PySem.W.nsIn K mainGlobals "SORTS"=some (some (.int 3 t0)))
  (n1:PySem.W.nsIn K mainGlobals "HOLDERS"=some (some (.int 8 t1)))
  (n2:PySem.W.nsIn K mainGlobals "LAST_YEAR"=some (some (.int 19 t2)))
  (n3:PySem.W.nsIn K mainGlobals "MOST_CLIPS"=some (some (.int 20 t3)))
  (n4:PySem.W.nsIn K mainGlobals "MOST_PROMISES"=some (some (.int 10 t4)))
  (n5:PySem.W.nsIn K mainGlobals "MOST_WOOL"=some (some (.int 999 t5)))
  (n6:PySem.W.nsIn K mainGlobals "MOST_SACKS"=some (some (.int 99 t6)))
  (n7:PySem.W.nsIn K mainGlobals "MOST_PRICE"=some (some (.int 1000000 t7)))
  (n8:PySem.W.nsIn K mainGlobals "MOST_SALES"=some (some (.int 12 t8)))
  (n9:PySem.W.nsIn K mainGlobals "MOST_WEIGHTS"=some (some (.int 80 t9)))
  (n10:PySem.W.nsIn K mainGlobals "MOST_WEIGHT"=some (some (.int 99 Kd)))
  (n11:PySem.W.nsIn K mainGlobals "LEAST_GROWTH"=some (some (.int (-100) Ke)))
  (n12:PySem.W.nsIn K mainGlobals "MOST_GROWTH"=some (some (.int 100 Kf)))
  (n13:PySem.W.nsIn K mainGlobals "MOST_YEARS"=some (some (.int 100 Kg)))
  (bS:PySem.W.nsIn K mainGlobals "isinstance"=some none)
  (mI:PySem.W.nsIn K mainGlobals "int"=some none)
  (iL:PySem.W.nsIn K mainGlobals "bool"=some none)
  (fN:PySem.W.nsIn K mainGlobals "tuple"=some none)
  (mM:PySem.W.nsIn K mainGlobals "len"=some none)
  (mN:PySem.W.nsIn K mainGlobals "all"=some none)
  (ax:PySem.W.nsIn K mainGlobals "range"=some none)
  (fy:PySem.W.nsIn K mainGlobals "list"=some none)
  (iN:PySem.W.nsIn K mainGlobals "max"=some none)
  (ff:PySem.W.nsIn K mainGlobals "min"=some none)
  (xS:PySem.W.nsIn K mainGlobals "zip"=some none)
  (av:PySem.W.nsIn K mainGlobals "enumerate"=some none)
  (fg:PySem.W.nsIn K mainGlobals "sorted"=some none)
  (fh:PySem.W.nsIn K mainGlobals "sum"=some none)
  : ∃fd:FuncData,(∀(s:Shared) (v:Value),BindsTo s fd ⟨[v],[]⟩ [("_law_script",v)])/\∀base:Heap,K.In base->base.Ns mainGlobals mg->FnOk l.prog w K mg base CX0 63 fa fd ["_law_script"] (xn K):=by
 have e:=MW.symm.trans (PySem.W.mg_of X G aL);cases e;have FL:=yZ (st:=top 82) lL cL kL;obtain⟨Ra,MX,EA,MY⟩:=h10.get X G;have MZ:=EA.binds (ps:=["thing"]) fun _ _ _ _ _ _=>el1 fun _=>rfl;obtain⟨Rb,M0,EB,M3⟩:=h11.get X G;have qa:=EB.binds (ps:=["thing","least","most"]) fun _ _ _ _ _ _=>el3 fun _ _ _=>rfl;obtain⟨Rc,M4,EC,M5⟩:=h12.get X G;have M6:=EC.binds (ps:=["thing","fewest","most"]) fun _ _ _ _ _ _=>el3 fun _ _ _=>rfl;obtain⟨Rf,M7,ED,M8⟩:=h13.get X G;have M9:=ED.binds (ps:=["thing","many"]) fun _ _ _ _ _ _=>el2 fun _ _=>rfl;obtain⟨Rg,Na,EE,Nb⟩:=h24.get X G;have Nd:=EE.binds (ps:=["thing"]) fun _ _ _ _ _ _=>el1 fun _=>rfl;obtain⟨Rh,Nf,EF,Ng⟩:=h25.get X G;have Nh:=EF.binds (ps:=["thing"]) fun _ _ _ _ _ _=>el1 fun _=>rfl;obtain⟨Ri,Ni,EG,Nj⟩:=h26.get X G;have Nk:=EG.binds (ps:=["thing"]) fun _ _ _ _ _ _=>el1 fun _=>rfl;obtain⟨Rj,Nl,EH,Nm⟩:=h27.get X G;have Nn:=EH.binds (ps:=["thing"]) fun _ _ _ _ _ _=>el1 fun _=>rfl;obtain⟨Rk,Np,EI,Nq⟩:=h28.get X G;have Nr:=EI.binds (ps:=["thing"]) fun _ _ _ _ _ _=>el1 fun _=>rfl;obtain⟨Rl,Nt,EJ,Nu⟩:=h29.get X G;have Nv:=EJ.binds (ps:=["promises","sales","number","year"]) fun _ _ _ _ _ _=>el4 fun _ _ _ _=>rfl;obtain⟨Rm,Nw,EK,Nx⟩:=h30.get X G;have Ny:=EK.binds (ps:=["promises","sale"]) fun _ _ _ _ _ _=>el2 fun _ _=>rfl;obtain⟨Rn,Nz,EL,NA⟩:=h31.get X G;have NB:=EL.binds (ps:=["promises","ahead","sale"]) fun _ _ _ _ _ _=>el3 fun _ _ _=>rfl;obtain⟨Ro,NC,EM,ND⟩:=h32.get X G;have NF:=EM.binds (ps:=["promises","sales"]) fun _ _ _ _ _ _=>el2 fun _ _=>rfl;obtain⟨Rp,NH,EN,NI⟩:=h33.get X G;have NJ:=EN.binds (ps:=["thing"]) fun _ _ _ _ _ _=>el1 fun _=>rfl;obtain⟨Rq,NK,EO,NL⟩:=h34.get X G;have NM:=EO.binds (ps:=["thing"]) fun _ _ _ _ _ _=>el1 fun _=>rfl;obtain⟨Rr,NN,ER,NO⟩:=h38.get X G;have NQ:=ER.binds (ps:=["thing"]) fun _ _ _ _ _ _=>el1 fun _=>rfl;obtain⟨Rt,NR,ES,NS⟩:=h39.get X G;have NT:=ES.binds (ps:=["sacks","weights"]) fun _ _ _ _ _ _=>el2 fun _ _=>rfl;obtain⟨Ru,NU,ET,NV⟩:=h40.get X G;have NW:=ET.binds (ps:=["rests"]) fun _ _ _ _ _ _=>el1 fun _=>rfl;obtain⟨Rv,NX,EU,NY⟩:=h41.get X G;have NZ:=EU.binds (ps:=["sacks","weights"]) fun _ _ _ _ _ _=>el2 fun _ _=>rfl;obtain⟨Rw,N0,EV,N1⟩:=h42.get X G;have N4:=EV.binds (ps:=["sacks","weights"]) fun _ _ _ _ _ _=>el2 fun _ _=>rfl;obtain⟨Rx,N5,EW,N6⟩:=h44.get X G;have N7:=EW.binds (ps:=["rows"]) fun _ _ _ _ _ _=>el1 fun _=>rfl;obtain⟨Ry,N8,EX,N9⟩:=h45.get X G;have Oa:=EX.binds (ps:=["promises","sales","sort","year"]) fun _ _ _ _ _ _=>el4 fun _ _ _ _=>rfl;obtain⟨Rz,Ob,EZ,Oc⟩:=h46.get X G;have Od:=EZ.binds (ps:=["wool","claims"]) fun _ _ _ _ _ _=>el2 fun _ _=>rfl;obtain⟨RA,Oe,E1,Of⟩:=h47.get X G;have Og:=E1.binds (ps:=["wool","owed"]) fun _ _ _ _ _ _=>el2 fun _ _=>rfl;obtain⟨RB,Oh,E2,Oi⟩:=h48.get X G;have Oj:=E2.binds (ps:=["wool","claims","owed"]) fun _ _ _ _ _ _=>el3 fun _ _ _=>rfl;obtain⟨RC,Ol,E3,Om⟩:=h49.get X G;have Oo:=E3.binds (ps:=["book","year","owed"]) fun _ _ _ _ _ _=>el3 fun _ _ _=>rfl;obtain⟨RD,Oq,E4,Ot⟩:=h50.get X G;have Ou:=E4.binds (ps:=["book","year"]) fun _ _ _ _ _ _=>el2 fun _ _=>rfl;obtain⟨RE,Ov,E5,Ow⟩:=h51.get X G;have Ox:=E5.binds (ps:=["clips","year"]) fun _ _ _ _ _ _=>el2 fun _ _=>rfl;obtain⟨RF,Oy,E6,Oz⟩:=h52.get X G;have OA:=E6.binds (ps:=["book","year"]) fun _ _ _ _ _ _=>el2 fun _ _=>rfl;obtain⟨RG,OB,E7,OC⟩:=h64.get X G;have OD:=E7.binds (ps:=["book","year"]) fun _ _ _ _ _ _=>el2 fun _ _=>rfl;obtain⟨RH,OE,E8,OF⟩:=h57.get X G;have OG:=E8.binds (ps:=["thing"]) fun _ _ _ _ _ _=>el1 fun _=>rfl;obtain⟨RI,OH,E9,OI⟩:=h58.get X G;have OJ:=E9.binds (ps:=["clips","growth","years"]) fun _ _ _ _ _ _=>el3 fun _ _ _=>rfl;obtain⟨RJ,OK,Fc,OL⟩:=h59.get X G;have OM:=Fc.binds (ps:=["book","growth"]) fun _ _ _ _ _ _=>el2 fun _ _=>rfl;obtain⟨RK,ON,Fh,OO⟩:=h60.get X G;have OP:=Fh.binds (ps:=["book","number"]) fun _ _ _ _ _ _=>el2 fun _ _=>rfl;obtain⟨RL,OQ,Fm,OR⟩:=h61.get X G;have OS:=Fm.binds (ps:=["book","growth"]) fun _ _ _ _ _ _=>el2 fun _ _=>rfl;obtain⟨RM,OT,Fn,OU⟩:=h62.get X G;have OV:=Fn.binds (ps:=["book","growth"]) fun _ _ _ _ _ _=>el2 fun _ _=>rfl;obtain⟨RN,OW,Fs,OX⟩:=h66.get X G;have OY:=Fs.binds (ps:=["book","year"]) fun _ _ _ _ _ _=>el2 fun _ _=>rfl;obtain⟨RO,OZ,Fu,O0⟩:=h68.get X G;have O3:=Fu.binds (ps:=["_law_script","_law_k"]) fun _ _ _ _ _ _=>el2 fun _ _=>rfl;obtain⟨RP,O4,FA,O5⟩:=h69.get X G;have O6:=FA.binds (ps:=["_law_script","_law_k"]) fun _ _ _ _ _ _=>el2 fun _ _=>rfl;obtain⟨RQ,O7,FC,O8⟩:=h70.get X G;have O9:=FC.binds (ps:=["_law_state_here","_law_many"]) fun _ _ _ _ _ _=>el2 fun _ _=>rfl;obtain⟨RS,Pa,FD,Pb⟩:=h71.get X G;have Pc:=FD.binds (ps:=["_law_state_here","_law_most"]) fun _ _ _ _ _ _=>el2 fun _ _=>rfl;obtain⟨RT,Pd,FE,Pe⟩:=h72.get X G;have Pf:=FE.binds (ps:=["_law_state_here","_law_most","_law_years"]) fun _ _ _ _ _ _=>el3 fun _ _ _=>rfl;obtain⟨RU,Pg,FF,Ph⟩:=h73.get X G;have Pj:=FF.binds (ps:=["_law_promises_here"]) fun _ _ _ _ _ _=>el1 fun _=>rfl;obtain⟨RV,Pk,FG,Pl⟩:=h74.get X G;have Pm:=FG.binds (ps:=["_law_promises_here","_law_rows","_law_sale"]) fun _ _ _ _ _ _=>el3 fun _ _ _=>rfl;obtain⟨RW,Pn,FH,Po⟩:=h75.get X G;have Pp:=FH.binds (ps:=["_law_promises_here","_law_rows","_law_sale"]) fun _ _ _ _ _ _=>el3 fun _ _ _=>rfl;obtain⟨RX,Pq,yb,Kh⟩:=h76.get X G;have Ki:=yb.binds (ps:=["_law_promises_here","_law_sales_here"]) fun _ _ _ _ _ _=>el2 fun _ _=>rfl;obtain⟨RY,Pr,FI,Pt⟩:=h77.get X G;have Pu:=FI.binds (ps:=["_law_state_here","_law_promises_here"]) fun _ _ _ _ _ _=>el2 fun _ _=>rfl;obtain⟨RZ,Pw,FK,Px⟩:=h78.get X G;have Py:=FK.binds (ps:=["_law_state_here","_law_promises_here","_law_most"]) fun _ _ _ _ _ _=>el3 fun _ _ _=>rfl;obtain⟨R0,Pz,FO,PB⟩:=h79.get X G;have PD:=FO.binds (ps:=["_law_state_here","_law_years","_law_most","_law_sales_here"]) fun _ _ _ _ _ _=>el4 fun _ _ _ _=>rfl;obtain⟨R1,PF,FR,PH⟩:=h80.get X G;have PJ:=FR.binds (ps:=["_law_one","_law_other"]) fun _ _ _ _ _ _=>el2 fun _ _=>rfl;obtain⟨R3,PL,FU,PM⟩:=h81.get X G;have PN:=FU.binds (ps:=["_law_state_here","_law_clips_here"]) fun _ _ _ _ _ _=>el2 fun _ _=>rfl
 have T:Mg mg:=⟨(zAw X G bS),(zAw X G mI),(zAw X G iL),(zAw X G fN),(zAw X G mM),(zAw X G mN)⟩
 have TP:K53.Mg mg:=⟨(zAw X G bS),(zAw X G mI),(zAw X G iL),(zAw X G fN),(zAw X G mM),(zAw X G mN)⟩
 have N:Nums mg:=⟨⟨t0,PySem.W.mg_of X G n0⟩,⟨t1,PySem.W.mg_of X G n1⟩,⟨t2,PySem.W.mg_of X G n2⟩,⟨t3,PySem.W.mg_of X G n3⟩,⟨t4,PySem.W.mg_of X G n4⟩,⟨t5,PySem.W.mg_of X G n5⟩,⟨t6,PySem.W.mg_of X G n6⟩,⟨t7,PySem.W.mg_of X G n7⟩⟩
 have NP:K53P.Nums mg:=⟨⟨t9,PySem.W.mg_of X G n9⟩,⟨Kd,PySem.W.mg_of X G n10⟩⟩
 have N2:MS mg:=⟨⟨t8,PySem.W.mg_of X G n8⟩⟩
 have N3:NG mg:=⟨⟨Ke,PySem.W.mg_of X G n11⟩,⟨Kf,PySem.W.mg_of X G n12⟩,⟨Kg,PySem.W.mg_of X G n13⟩⟩
 refine⟨PySem.W.fnOf "law" "law" (fc (top 82)) (dO (top 82)) (aK (top 82)) .none Ka Kb rf JZ Ee Kc,fun s v=>.of_eq rfl,fun base _ _=>?_⟩;have Kj:=aV l.prog w base (tD EA T) MY EA.kp MZ;have iE:=aV l.prog w base (nO EB Kj) M3 EB.kp qa;have si:=aV l.prog w base (mG EC T) M5 EC.kp M6;have FV:=aV l.prog w base (nJ ED T Kj si) M8 ED.kp M9;have PQ:=aV l.prog w base (uR EE T N FV) Nb EE.kp Nd;have PR:=aV l.prog w base (qL EF T N PQ si) Ng EF.kp Nh;have PU:=aV l.prog w base (nM EG T N FV) Nj EG.kp Nk;have Kk:=aV l.prog w base (kJ EH T N PU si) Nm EH.kp Nn;have Kl:=aV l.prog w base (qM EI T N2 FV si) Nq EI.kp Nr;have Km:=aV l.prog w base (Cp EJ N) Nu EJ.kp Nv;have PV:=aV l.prog w base (Cq EK T N) Nx EK.kp Ny;have PX:=aV l.prog w base (zV EL T (zAw X G ax) PV Km) NA EL.kp NB;have PY:=aV l.prog w base (zW EM (zAw X G av) Kk Kl PX) ND EM.kp NF;have PZ:=aV l.prog w base (Cr EN si PR Kk Kl PY) NI EN.kp NJ;have FX:=aV l.prog w base (CW EO PZ) NL EO.kp NM;have P0:=aV l.prog w base (K53P.ok_are_weights ER TP NP iE si) NO ER.kp NQ;have P1:=aV l.prog w base (K53P.ok_refuse ES (zAw X G fh) P0 iE) NS ES.kp NT;have P2:=aV l.prog w base (K53P.ok_places ET (zAw X G av) (zAw X G fg)) NV ET.kp NW;have P4:=aV l.prog w base (K53P.ok_parts EU TP (zAw X G fh) P2) NY EU.kp NZ;have P5:=aV l.prog w base (K53P.ok_parted EV P1 P4) N1 EV.kp N4;have Kn:=aV l.prog w base (zZ EW (zAw X G fh)) N6 EW.kp N7;have P6:=aV l.prog w base (yp EX (zAw X G av) Km) N9 EX.kp Oa;have P7:=aV l.prog w base (yo EZ T (zAw X G fh) P5) Oc EZ.kp Od;have P8:=aV l.prog w base (Cw E1 (zAw X G ff)) Of E1.kp Og;have P9:=aV l.prog w base (Ad E2 (zAw X G fh) (zAw X G fy) (zAw X G xS) P7 P8) Oi E2.kp Oj;have Qa:=aV l.prog w base (CN E3 T N (zAw X G ax) (zAw X G fg) P6 P9 Kn) Om E3.kp Oo;have Ko:=aV l.prog w base (Ao E4 (zAw X G ax) Qa) Ot E4.kp Ou;have Qb:=aV l.prog w base (CZ E5 T iE) Ow E5.kp Ox;have Qd:=aV l.prog w base (Az E6 FX Qb) Oz E6.kp OA;have Qe:=aV l.prog w base (Ba E7 Ko) OC E7.kp OD;have Kp:=aV l.prog w base (Dl E8 N3 iE) OF E8.kp OG;have Qf:=aV l.prog w base (Bk E9 T (zAw X G fy)) OI E9.kp OJ;have Kq:=aV l.prog w base (Dm Fc T N3 (zAw X G iN) (zAw X G av) Qf Ko) OL Fc.kp OM;have Qg:=aV l.prog w base (yE Fh T) OO Fh.kp OP;have Qh:=aV l.prog w base (Bq Fm FX Kp Kq) OR Fm.kp OS;have Qi:=aV l.prog w base (Do Fn T (zAw X G ax) FX Kp Kq Qg) OU Fn.kp OV;have Qj:=aV l.prog w base (Dg Fs Qd Qe Kn) OX Fs.kp OY;have Qk:=aV l.prog w base (Ck Fu T) O0 Fu.kp O3;have Ql:=aV l.prog w base (zR FA Qk) O5 FA.kp O6;have sj:=aV l.prog w base (Cm FC) O8 FC.kp O9;have Qm:=aV l.prog w base (yw FD T (zAw X G ax) sj) Pb FD.kp Pc;have Qn:=aV l.prog w base (qW FE T (zAw X G ax) (zAw X G ff) sj) Pe FE.kp Pf;have Kr:=aV l.prog w base (Aq FF (zAw X G av) (zAw X G ax)) Ph FF.kp Pj;have Ks:=aV l.prog w base (yq FG T (zAw X G ax) (zAw X G ff)) Pl FG.kp Pm;have Kt:=aV l.prog w base (CT FH (zAw X G ax)) Po FH.kp Pp;have R4:=aV l.prog w base (tW yb (zAw X G av) Kr Ks Kt) Kh yb.kp Ki;have CS:=aV l.prog w base (CV (tW yb (zAw X G av) Kr Ks Kt)) Kh yb.kp Ki;have Qo:=aV l.prog w base (FZ FI T (zAw X G iN) sj) Pt FI.kp Pu;have Qp:=aV l.prog w base (yx FK T (zAw X G ax) sj Qo CS) Px FK.kp Py;have Qq:=aV l.prog w base (yz FO T Qm Qn Qp) PB FO.kp PD;have Qr:=aV l.prog w base (vm FR) PH FR.kp PJ;have Qs:=aV l.prog w base (yG FU T (zAw X G fy) (zAw X G ff) sj) PM FU.kp PN;exact G8 FL T (zAw X G ax) (zAw X G iN) (zAw X G ff) sj Ql Qq Qj Qh Qi Qr Qs
theorem walk{l:PySem.W.OpenLaw}{q:Program}{loose:List Str}{XP:(Str->Option Value)->Heap->Prop}{YP:World->Heap->Prop}{d:DefRec}{K:Params->Frag}(hn:l.most=some 63)(tq:d.params.defaults=[])
  (hY:∀(w:World) (h:Heap),YP w h->(K w.params).In h)
  (F:∀(w:World) (mg:Str->Option Value) (fa:Addr) (h:Heap),(K w.params).In h->h.Ns mainGlobals mg->mg d.name=some (.ref fa)->
   ∃fd:FuncData,(∀(s:Shared) (u:Value),BindsTo s fd ⟨[u],[]⟩ [("_law_script",u)])/\∀base:Heap,(K w.params).In base->base.Ns mainGlobals mg->FnOk l.prog w (K w.params) mg base CX0 63 fa fd ["_law_script"] (xn (K w.params))):
  PySem.W.WalkO q loose XP YP l.row.toRowW d [] (fun f vs=>PySem.call f vs):=
 L2.walk_of (n:=63) (k:=63) (x:="_law_script") (CX:=fun _=>CX0) (sp:=fun w=>xn (K w.params)) hn Zx tq ⟨rfl,by decide,by decide,rfl⟩ hY F (fun _ _ a ns hl _ hS=>⟨a,ns,rfl,hS,hl,fun _=>rfl⟩) fun _ _ _ _ _ z=>z
end K53
open PySem PySem.W PyProof.Rows
set_option maxRecDepth 100000 in
set_option maxHeartbeats 0 in
theorem PySem.Challenge.cw_woolyears_k53_whole_more_wool_is_no_wors_holds : PySem.Challenge.rw_woolyears_k53_whole_more_wool_is_no_wors.Holds := by
 w_on;o_law;k_head;(case hw=>w_witness2)
 k_fill
 refine K53.walk (l:=PySem.Challenge.rw_woolyears_k53_whole_more_wool_is_no_wors) rfl rfl (fun w h Y=>PySem.W.kIn_of Y) ?F
 case F =>
  intro w mg fa h KX G hmg
  refine' K53.all_mk KX G hmg ?h10 ?h11 ?h12 ?h13 ?h24 ?h25 ?h26 ?h27 ?h28 ?h29 ?h30 ?h31 ?h32 ?h33 ?h34 ?h38 ?h39 ?h40 ?h41 ?h42 ?h44 ?h45 ?h46 ?h47 ?h48 ?h49 ?h50 ?h51 ?h52 ?h64 ?h57 ?h58 ?h59 ?h60 ?h61 ?h62 ?h66 ?h68 ?h69 ?h70 ?h71 ?h72 ?h73 ?h74 ?h75 ?h76 ?h77 ?h78 ?h79 ?h80 ?h81 ?aL ?lL ?cL ?kL ?n0 ?n1 ?n2 ?n3 ?n4 ?n5 ?n6 ?n7 ?n8 ?n9 ?n10 ?n11 ?n12 ?n13 ?z0 ?z1 ?z2 ?z3 ?z4 ?z5 ?z6 ?z7 ?z8 ?z9 ?z10 ?z11 ?z12 ?z13
  case h10|h11|h12|h13|h24|h25|h26|h27|h28|h29|h30|h31|h32|h33|h34|h38|h39|h40|h41|h42|h44|h45|h46|h47|h48|h49|h50|h51|h52|h64|h57|h58|h59|h60|h61|h62|h66|h68|h69|h70|h71|h72|h73|h74|h75|h76|h77|h78|h79|h80|h81=>
   refine' K53.has_mk ?a ?l ?c ?k
   case a|l|c|k=>k_is
  case aL|lL|cL|kL|n0|n1|n2|n3|n4|n5|n6|n7|n8|n9|n10|n11|n12|n13|z0|z1|z2|z3|z4|z5|z6|z7|z8|z9|z10|z11|z12|z13=>k_is
