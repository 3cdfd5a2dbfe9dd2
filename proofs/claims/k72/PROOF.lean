import PyProof.Rows.All
import Wide.All
import OpenK.AllK
import Wide.FinOn
import Lean
import PyProof.EqAt
import PyProof.EqKinds
import PyProof.TupleCall
import PyProof.StrLawsRepr
import PyProof.ZipIter
import PySem.Challenge.RW_woolyears_k72_what_a_keeper_refuses
import PyProof.Rows.SortRunsK
import PyProof.AttrMissHeap
import PyProof.StationsW
import PyProof.InstStoreFacts
import PyProof.ExcBaseAll.ValueError
import PyProof.FString
import PyProof.Rows.FStr
import PyProof.MakeMany
import PyProof.FitsInt
import PyProof.ExcInit
set_option compiler.extract_closed false
set_option Elab.async false
set_option linter.all false
set_option maxRecDepth 100000
set_option maxHeartbeats 4000000
noncomputable section
theorem Zz{p:Prop}(h:p:=by lia):p:=h
theorem Zy{p:Prop}(h:p:=by simp):p:=h
theorem Zx{p:Prop}(h:p:=by decide):p:=h
theorem Zw{p:Prop}(h:p:=by omega):p:=h
theorem Zv{p:Prop}(h:p:=by decide +kernel):p:=h
theorem Zu{p:Prop}(h:p:=by rw[sizeLine_eq];lia):p:=h
def Zq:=@decide_eq_true_eq
open PySem.W (Frag)
def zAt:=@PySem.wpAny_bind
def zAu:=@PySem.Heap.get?_push_of_some
def zAv:=@decide_eq_true
def zAw:=@if_neg
def zAx:=@if_pos
def zAy:=@PySem.Heap.lt_size
def zAz:=@PySem.wpAny_pure
def zB0:=@PySem.W.mg_none_of
def zB1:=@PySem.Heap.get?_push_size
def zB2:=@Nat.lt_of_lt_of_le
def zB3:=@Nat.ne_of_lt
def zB4:=@decide_eq_false
def zB5:=@List.mem_of_getElem?
def zB6:=@PySem.F.plainAttrs_list
def zB7:=@List.getElem?_append_right
def zB8:=@of_decide_eq_true
def zB9:=@PySem.PassesOwn.never
def zBa:=@List.getElem?_append_left
def zBb:=@List.mem_append_right
def zBc:=@PySem.F.type_list_append
def zBd:=@PySem.F.slot_list_append
def zA0:=@List.getElem?_eq_getElem
def zA1:=@List.length_map
def zA2:=@List.length_append
def zA3:=@Nat.le_refl
def zA4:=@List.map_append
def zA5:=@List.mem_map
def zA6:=@List.mem_append
def zA7:=@List.getD_eq_getElem?_getD
def zA8:=@List.size_toArray
def zA9:=@Array.length_toList
def zAa:=@List.getElem?_eq_some_iff
def zAb:=@List.getElem?_map
def zAc:=@Bool.and_eq_true
def zAd:=@List.length_take
def zAe:=@List.length_cons
def zAf:=@List.append_assoc
def zAg:=@Bool.false_ne_true
def zAh:=@List.getElem_mem
def zAi:=@Int.toNat_natCast
def zAj:=@List.take_add_one
def zAk:=@List.map_cons
def zAl:=@Option.some.inj
def zAm:=@List.take_length
def zAn:=@List.append_nil
def zAo:=@List.mem_cons
def zAp:=@Nat.zero_le
def zAq:=@List.mem_filter
def zAr:=@List.map_map
def zAs:=@List.length_zip
namespace L2
open PySem PySem.Spec PyProof.Rows
abbrev Key:=Sum Int Str
def lB:Key->Value->Bool
 |.inl k,v=>Value.isInt k v
 |.inr x,v=>Value.isStrOf x v
def Hg(w:World):Key->Int
 |.inl k=>hashInt k
 |.inr x=>hashStr w x
theorem bM:∀{k:Key} {v:Value},lB k v=true->(∃i t,k=Sum.inl i/\v=Value.int i t)\/(∃x t,k=Sum.inr x/\v=Value.str x t)
 |.inl i,v,h=>by
  obtain⟨t,e⟩:=Value.isInt_shape (k:=i) (v:=v) h;exact .inl ⟨i,t,rfl,e⟩
 |.inr x,v,h=>by
  obtain⟨t,e⟩:=Value.isStrOf_shape (x:=x) (v:=v) h;exact .inr ⟨x,t,rfl,e⟩
theorem wN(i:Int)(t:Tok):lB (.inl i) (.int i t)=true:=by simp[lB,Value.isInt]
theorem wO(x:Str)(t:Tok):lB (.inr x) (.str x t)=true:=by simp[lB,Value.isStrOf]
theorem DG(a b:Int):decide ((Sum.inl a:Key)=Sum.inl b)=(a==b):=by
 by_cases e:a=b
 .subst e;simp
 .have h:¬(Sum.inl a:Key)=Sum.inl b:=fun q=>e (Sum.inl.inj q);rw[zB4 h];exact(beq_eq_false_iff_ne.mpr e).symm
theorem DK(a b:Str):decide ((Sum.inr a:Key)=Sum.inr b)=decide (a=b):=by
 by_cases e:a=b
 .subst e;simp
 .have h:¬(Sum.inr a:Key)=Sum.inr b:=fun q=>e (Sum.inr.inj q);rw[zB4 h,zB4 e]
theorem DN(a:Int)(b:Str):decide ((Sum.inl a:Key)=Sum.inr b)=false:=zB4 (fun q=>nomatch q)
theorem DP(a:Str)(b:Int):decide ((Sum.inr a:Key)=Sum.inl b)=false:=zB4 (fun q=>nomatch q)
def bJ(prog:Program)(w:World):PySem.KeyKind prog w Key where
 is:=lB
 hash:=Hg w
 inj:=fun v a b ha hb=>by
  rcases bM ha with⟨i,t,rfl,rfl⟩|⟨x,t,rfl,rfl⟩
  .rcases bM hb with⟨j,u,rfl,e⟩|⟨y,u,rfl,e⟩
   .injection e with e1 _;rw[e1]
   .exact nomatch e
  .rcases bM hb with⟨j,u,rfl,e⟩|⟨y,u,rfl,e⟩
   .exact nomatch e
   .injection e with e1 _;rw[e1]
 byValue:=fun k v h=>by
  rcases bM h with⟨i,t,rfl,rfl⟩|⟨x,t,rfl,rfl⟩<;>rfl
 pyHash:=fun hv h=>by
  rcases bM hv with⟨i,t,rfl,rfl⟩|⟨x,t,rfl,rfl⟩
  .exact wpAny_pyHash_int h
  .exact wpAny_pyHash_str h
 eqBool:=fun hu hv h=>by
  rcases bM hu with⟨i,t,rfl,rfl⟩|⟨x,t,rfl,rfl⟩
  .rcases bM hv with⟨j,u,rfl,rfl⟩|⟨y,u,rfl,rfl⟩
   .rw[DG]at h;exact wpAny_eqBool_int h
   .rw[DN]at h;exact SeqAt.EqAt.int_str i t y u _ _ _ _ h
  .rcases bM hv with⟨j,u,rfl,rfl⟩|⟨y,u,rfl,rfl⟩
   .rw[DP]at h;exact SeqAt.EqAt.str_int x t j u _ _ _ _ h
   .rw[DK]at h;exact wpAny_eqBool_str h
 «strs»:=fun k x t v h=>by
  rcases bM h with⟨i,u,rfl,e⟩|⟨y,u,rfl,e⟩
  .exact nomatch e
  .injection e with e1 _;subst e1;cases v<;>rfl
theorem qQ(prog:Program)(w:World)(i:Int)(t:Tok):(bJ prog w).is (.inl i) (.int i t)=true:=wN i t
theorem qR(prog:Program)(w:World)(x:Str)(t:Tok):(bJ prog w).is (.inr x) (.str x t)=true:=wO x t
inductive V where
 |non|bl (b:Bool)|int (i:Int)|str (x:Str)|byt (b:Array UInt8)|flt (b:UInt64)|ref (a:Addr)|ty (n:String)
 deriving DecidableEq
def RelV:V->Value->Prop
 |.non,u=>u=Value.none
 |.bl b,u=>u=Value.bool b
 |.int i,u=>∃t,u=Value.int i t
 |.str x,u=>∃t,u=Value.str x t
 |.byt b,u=>∃t,u=Value.bytes b t
 |.flt b,u=>∃t,u=Value.float b t
 |.ref a,u=>u=Value.ref a
 |.ty n,u=>u=Value.type n
abbrev Vals:List V->List Value->Prop:=Paired RelV
theorem Vals.length{xs:List V}{us:List Value}(r:Vals xs us):xs.length=us.length:=Paired.length r
theorem Vals.get:∀{xs:List V} {us:List Value} {i:Nat} {x:V},Vals xs us->xs[i]?=some x->∃u,us[i]?=some u/\RelV x u
 |_,_,_,_,.nil,e=>by simp at e
 |_,_,0,_,.cons r _,e=>by simp at e;subst e;exact⟨_,rfl,r⟩
 |_,_,i+1,x,.cons _ t,e=>by
  obtain⟨u,h1,h2⟩:=Vals.get (i:=i) (x:=x) t (by simpa using e);exact⟨u,by simpa using h1,h2⟩
theorem Vals.set{x:V}{u:Value}(r:RelV x u):∀{xs:List V} {us:List Value} (i:Nat),Vals xs us->Vals (xs.set i x) (us.set i u)
 |_,_,_,.nil=>.nil
 |_,_,0,.cons _ t=>.cons r t
 |_,_,i+1,.cons q t=>.cons q (Vals.set r i t)
theorem Vals.append:∀{xs ys:List V} {us ws:List Value},Vals xs us->Vals ys ws->Vals (xs++ys) (us++ws)
 |_,_,_,_,.nil,s=>s
 |_,_,_,_,.cons r t,s=>.cons r (Vals.append t s)
theorem Vals.take:∀{xs:List V} {us:List Value} (n:Nat),Vals xs us->Vals (xs.take n) (us.take n)
 |_,_,0,_=>.nil
 |_,_,_+1,.nil=>.nil
 |_,_,n+1,.cons r t=>.cons r (Vals.take n t)
theorem Vals.drop:∀{xs:List V} {us:List Value} (n:Nat),Vals xs us->Vals (xs.drop n) (us.drop n)
 |_,_,0,r=>r
 |_,_,_+1,.nil=>.nil
 |_,_,n+1,.cons _ t=>Vals.drop n t
def RelO:Option V->Option Value->Prop
 |some v,some u=>RelV v u
 |none,none=>True
 |_,_=>False
def KV{κ:Type}:List (κ×V)->List (κ×Value)->Prop:=Paired fun(p:κ×V) (q:κ×Value)=>p.1=q.1/\RelV p.2 q.2
def kV:Key->V
 |.inl i=>.int i
 |.inr x=>.str x
inductive HO where
 |lst (xs:List V)
 |tup (xs:List V)
 |dK (Zs:List (Key×V))|dT (Zs:List (List Key×V))
 |set (S:Int->Bool) (n:Nat)
 |ins (C dx:Addr) (fs:List (Str×V))
 |own (x:Addr)
 |xd (fs:List (Str×V))
 |met (f x:Addr)
 |rng (lo hi:Int)
 |frz (o:Obj) (u:HO)
 |tbl (ps:Array Value)
 |ext (φ:Heap->Prop)
abbrev Hp:=Addr->Option HO
def upd(H:Hp)(a:Addr)(o:HO):Hp:=fun b=>if b=a then some o else H b
theorem aa{H:Hp}{a:Addr}{o:HO}:upd H a o a=some o:=by unfold upd;rw[zAx rfl]
theorem ao{H:Hp}{a b:Addr}{o:HO}(h:b≠a):upd H a o b=H b:=by unfold upd;rw[zAw h]
theorem FW{H:Hp}{a b:Addr}{o u:HO}(h:H a=some o)(h':H b=some u)(d:o≠u):a≠b:=by
 intro e;subst e;rw[h]at h';exact d (zAl h')
theorem aB{H:Hp}{a b:Addr}{o:HO}(h:H a=some o)(h':H b=none):a≠b:=by
 intro e;subst e;rw[h]at h';cases h'
section
variable(P:Program)(w:World)
def ObjOk(H:Hp)(h:Heap)(a:Addr):HO->Prop
 |.lst xs=>xs.length<=sizeLine/\∃(Zr:List Value) (n:Nat),Vals xs Zr/\h.get? a=some {cls:=.type "list",data:=.seq Zr.toArray n}
 |.tup xs=>xs.length<=sizeLine/\∃Zr:List Value,Vals xs Zr/\IsTup h a Zr.toArray
 |.dK Zs=>Zs.length<=sizeLine/\(a==sysModules)=false/\∃vs,KV Zs vs/\h.DictOf (bJ P w) a vs
 |.dT Zs=>Zs.length<=sizeLine/\(a==sysModules)=false/\∃xs:List (List Key×Addr×Value),
   Paired (fun(p:List Key×V) (q:List Key×Addr×Value)=>p.1=q.1/\H q.2.1=some (.tup (p.1.map kV))/\RelV p.2 q.2.2) Zs xs /\
   ∃o es ep,h.get? a=some o/\o.ExactDict/\o.data=.dict es ep/\es.toList=xs.map (entryOfKey (tupleKind (bJ P w)))/\(xs.map (·.1)).Nodup
 |.set S n=>h.SetOf (intKind P w) a S n
 |.ins C dx fs=>H dx=some (.own a)/\fs.length<=1000/\dx≠a/\h.get? a=some (PySem.W.instObj C dx) /\
   ∃mA,h.Ns1 dx mA/\(∀f,RelO (fs.lookup f) (mA f))/\PySem.Within mA (fs.map (·.1))
 |.own _=>∃o,h.get? a=some o
 |.xd fs=>∃mA,h.Ns1 a mA/\∀f,RelO (fs.lookup f) (mA f)
 |.rng lo hi=>∃t u v,h.get? a=some {cls:=.type "range",data:=.fields #[.int lo t,.int hi u,.int 1 v]}
 |.frz o u=>h.get? a=some o/\ObjOk H h a u
 |.tbl ps=>h.get? a=some {cls:=.none,data:=.fields ps}
 |.met f x=>h.get? a=some (PySem.W.methodObj (.ref f) (.ref x))
 |.ext φ=>φ h/\(∃o,h.get? a=some o)/\∀h1 h2:Heap,φ h1->(∀o,h1.get? a=some o->h2.get? a=some o)->φ h2
def HOk(H:Hp)(h:Heap):Prop:=∀a o,H a=some o->ObjOk P w H h a o
end
section
variable{P:Program}{w:World}{H H':Hp}{h h':Heap}{a:Addr}{o:HO}
theorem ObjOk.lt(x:ObjOk P w H h a o):a<h.objs.size:=by
 cases o with
 |lst xs=>obtain⟨_,_,_,_,e⟩:=x;exact zAy e
 |tup xs=>obtain⟨_,_,_,p⟩:=x;exact p.lt
 |dK Zs=>obtain⟨_,_,_,_,o,_,_,e,_⟩:=x;exact zAy e
 |dT Zs=>obtain⟨_,_,_,_,o,_,_,e,_⟩:=x;exact zAy e
 |set S n=>obtain⟨o,_,_,_,e,_⟩:=x;exact zAy e
 |ins C dx fs=>obtain⟨_,_,_,e,_⟩:=x;exact zAy e
 |own y=>obtain⟨_,e⟩:=x;exact zAy e
 |xd fs=>obtain⟨_,⟨_,_,_,e,_⟩,_⟩:=x;exact zAy e
 |rng lo hi=>obtain⟨_,_,_,e⟩:=x;exact zAy e
 |frz ob u=>obtain⟨e,_⟩:=x;exact zAy e
 |tbl ps=>exact zAy (show h.get? a=some _ from x)
 |met f y=>exact zAy (show h.get? a=some _ from x)
 |ext φ=>obtain⟨_,⟨_,e⟩,_⟩:=x;exact zAy e
theorem Paired.mapP{α β:Type}{F G:α->β->Prop}:∀{l₁:List α} {se:List β},Paired F l₁ se->(∀a b,F a b->G a b)->Paired G l₁ se
 |_,_,.nil,_=>.nil
 |_,_,.cons r t,f=>.cons (f _ _ r) (Paired.mapP t f)
theorem ObjOk.stay(x:ObjOk P w H h a o)(k:∀b u,(b=a\/H b=some (.own a))->h.get? b=some u->h'.get? b=some u)
  (ho:∀b,H b=some (.own a)->H' b=some (.own a)) (ht:∀b xs,H b=some (.tup xs)->H' b=some (.tup xs)):ObjOk P w H' h' a o:=by
 induction o with
 |lst xs=>obtain⟨z,Zr,n,r,e⟩:=x;exact⟨z,Zr,n,r,k _ _ (.inl rfl) e⟩
 |tup xs=>obtain⟨z,Zr,r,ob,e,c⟩:=x;exact⟨z,Zr,r,ob,k _ _ (.inl rfl) e,c⟩
 |dK Zs=>obtain⟨z,y,vs,r,ob,es,ep,e,c⟩:=x;exact⟨z,y,vs,r,ob,es,ep,k _ _ (.inl rfl) e,c⟩
 |dT Zs=>
  obtain⟨z,y,xs,r,ob,es,ep,e,c⟩:=x;exact⟨z,y,xs,Paired.mapP r fun p q z=>⟨z.1,ht _ _ z.2.1,z.2.2⟩,ob,es,ep,k _ _ (.inl rfl) e,c⟩
 |set S n=>obtain⟨ob,es,ep,t,e,c⟩:=x;exact⟨ob,es,ep,t,k _ _ (.inl rfl) e,c⟩
 |ins C dx fs=>
  obtain⟨d,z,ne,e,mA,⟨od,es,ep,e2,c⟩,r⟩:=x;exact⟨ho _ d,z,ne,k _ _ (.inl rfl) e,mA,⟨od,es,ep,k _ _ (.inr d) e2,c⟩,r⟩
 |own y=>obtain⟨ob,e⟩:=x;exact⟨ob,k _ _ (.inl rfl) e⟩
 |xd fs=>obtain⟨mA,⟨od,es,ep,e,c⟩,r⟩:=x;exact⟨mA,⟨od,es,ep,k _ _ (.inl rfl) e,c⟩,r⟩
 |rng lo hi=>obtain⟨t,u,v,e⟩:=x;exact⟨t,u,v,k _ _ (.inl rfl) e⟩
 |frz ob u ih=>obtain⟨e,q⟩:=x;exact⟨k _ _ (.inl rfl) e,ih q⟩
 |tbl ps=>
  have e:h.get? a=some {cls:=.none,data:=.fields ps}:=x;show h'.get? a=some {cls:=.none,data:=.fields ps};exact k a _ (.inl rfl) e
 |met f y=>
  have e:h.get? a=some (PySem.W.methodObj (.ref f) (.ref y)):=x;show h'.get? a=some (PySem.W.methodObj (.ref f) (.ref y));exact k a _ (.inl rfl) e
 |ext φ=>obtain⟨p,⟨o,e⟩,st⟩:=x;exact⟨st _ _ p fun o q=>k _ _ (.inl rfl) q,⟨o,k _ _ (.inl rfl) e⟩,st⟩
theorem HOk.lt(x:HOk P w H h)(e:H a=some o):a<h.objs.size:=(x a o e).lt
theorem HOk.fresh(x:HOk P w H h)(e:h.objs.size<=a):H a=none:=by
 cases q:H a with
 |none=>rfl
 |some u=>exact absurd (zB2 (x.lt q) e) (Nat.lt_irrefl _)
theorem HOk.kept(x:HOk P w H h)(k:∀b u,h.get? b=some u->h'.get? b=some u):HOk P w H h':=fun a o e=>
 (x a o e).stay (fun b u _ q=>k b u q) (fun _ q=>q) fun _ _ q=>q
theorem HOk.laid(x:HOk P w H h)(k:∀b u,h.get? b=some u->h'.get? b=some u)(hp:h.objs.size<=a)(new:ObjOk P w (upd H a o) h' a o):HOk P w (upd H a o) h':=fun b u e=>by
 have hn:=x.fresh hp;by_cases hb:b=a
 .subst hb;rw[aa]at e;cases e;exact new
 .rw[ao hb]at e
  exact(x b u e).stay (fun c v _ q=>k c v q) (fun c q=>by rw[ao (aB q hn)];exact q) fun c xs q=>by rw[ao (aB q hn)];exact q
end
def Rd(H:Hp)(a:Addr)(u:HO):Prop:=H a=some u\/∃o,H a=some (.frz o u)
theorem Rd.ok{P:Program}{w:World}{H:Hp}{h:Heap}{a:Addr}{u:HO}(r:Rd H a u)(x:HOk P w H h):ObjOk P w H h a u:=by
 rcases r with r|⟨o,r⟩
 .exact x a u r
 .obtain⟨_,q⟩:=x a _ r;exact q
def Mut:Option HO->Prop
 |some (.lst _)=>True
 |some (.dK _)=>True
 |some (.dT _)=>True
 |some (.set _ _)=>True
 |some (.ins _ _ _)=>True
 |some (.ext _)=>True
 |_=>False
section
variable{P:Program}{w:World}{H:Hp}{h h':Heap}{x e:Addr}{o':HO}
theorem HOk.write(ok:HOk P w H h)(mu:Mut (H x))(he:e=x\/H e=some (.own x))(k:∀b u,b≠e->h.get? b=some u->h'.get? b=some u)(qh:∃u,h'.get? e=some u)
  (new:ObjOk P w (upd H x o') h' x o'):HOk P w (upd H x o') h':=fun b u q=>by
 have sf:∀c y,H c=some (.own y)->c≠x:=fun c y r z=>by subst z;rw[r]at mu;exact mu
 have A7:∀c xs,H c=some (.tup xs)->c≠x:=fun c xs r z=>by subst z;rw[r]at mu;exact mu
 by_cases hb:b=x
 .subst hb;rw[aa]at q;cases q;exact new
 .rw[ao hb]at q;by_cases m4:b=e
  .have q':H b=some (.own x):=by
    rcases he with z|z
    .exact absurd (m4.trans z) hb
    .rw[m4];exact z
   rw[q]at q';cases q';obtain⟨v,hv⟩:=qh;exact⟨v,by rw[m4];exact hv⟩
  .refine(ok b u q).stay (fun c v hc r=>k c v ?_ r) (fun c r=>by rw[ao (sf c b r)];exact r) fun c xs r=>by rw[ao (A7 c xs r)];exact r
   rcases hc with rfl|hc
   .exact m4
   .rintro rfl;rcases he with z|z
    .exact sf c b hc z
    .rw[hc]at z;cases z;exact hb rfl
end
structure Un(fs ex:List Addr)(H H':Hp)(h h':Heap):Prop where
 keep:∀b o,h.get? b=some o->H b=none->b∉fs->b∉ex->h'.get? b=some o
 slot:∀b o,h.get? b=some o->H b=none->b∈fs->b∉ex->∃sl,h'.get? b=some {o with slots:=sl}
 free:∀b o,h.get? b=some o->H b=none->b∉ex->H' b=none
 there:∀b o,h.get? b=some o->b∉ex->∃o',h'.get? b=some o'
 tups:∀b xs,H b=some (.tup xs)->H' b=some (.tup xs)
 frzs:∀b o u,H b=some (.frz o u)->H' b=some (.frz o u)
 tbls:∀b ps,H b=some (.tbl ps)->∃more,H' b=some (.tbl (ps++more))
section
variable{fs Ko ex OS:List Addr}{H H1 H2:Hp}{h h1 h2 h':Heap}{a x e:Addr}{o:HO}
theorem Un.any(u:Un fs ex H H1 h h1){b:Addr}{ob:Obj}(q:h.get? b=some ob)(n:H b=none)(hx:b∉ex):∃sl,h1.get? b=some {ob with slots:=sl}:=by
 by_cases hb:b∈fs
 .exact u.slot b ob q n hb hx
 .exact⟨ob.slots,u.keep b ob q n hb hx⟩
theorem Un.kept(k:∀b u,h.get? b=some u->h'.get? b=some u):Un fs ex H H h h':=
 ⟨fun b ob q _ _ _=>k b ob q,fun b ob q _ _ _=>⟨ob.slots,k b ob q⟩,fun _ _ _ n _=>n,fun b ob q _=>⟨ob,k b ob q⟩,fun _ _ q=>q,fun _ _ _ q=>q,fun _ ps q=>⟨#[],by rw[q];simp⟩⟩
theorem Un.refl:Un fs ex H H h h:=Un.kept fun _ _ q=>q
theorem Un.laid(k:∀b u,h.get? b=some u->h'.get? b=some u)(hp:h.objs.size<=a)(hn:H a=none):Un fs ex H (upd H a o) h h' where
 keep:=fun b u q _ _ _=>k b u q
 slot:=fun b u q _ _ _=>⟨u.slots,k b u q⟩
 free:=fun b u q n _=>by rw[ao (zB3 (zB2 (zAy q) hp))];exact n
 there:=fun b u q _=>⟨u,k b u q⟩
 tups:=fun b xs q=>by rw[ao (aB q hn)];exact q
 frzs:=fun b u xs q=>by rw[ao (aB q hn)];exact q
 tbls:=fun b ps q=>⟨#[],by rw[ao (aB q hn),q];simp⟩
theorem Un.write(mu:Mut (H x))(he:e=x\/H e=some (.own x))(k:∀b u,b≠e->h.get? b=some u->h'.get? b=some u)(qh:∃u,h'.get? e=some u):Un fs ex H (upd H x o) h h':=by
 have hx:∀b,H b=none->b≠x:=fun b n z=>by subst z;rw[n]at mu;exact mu
 have hb:∀b,H b=none->b≠e:=fun b n z=>by
  subst z;rcases he with r|r
  .exact hx b n r
  .rw[n]at r;cases r
 have hm:∀b u,H b=some u->¬Mut (some u)->b≠x:=fun b u q nm z=>by subst z;rw[q]at mu;exact nm mu
 refine⟨fun b u q n _ _=>k b u (hb b n) q,fun b u q n _ _=>⟨u.slots,k b u (hb b n) q⟩,fun b u q n _=>by rw[ao (hx b n)];exact n,fun b u q _=>?_,
  fun b xs q=>by rw[ao (hm b _ q fun z=>z)];exact q,fun b u xs q=>by rw[ao (hm b _ q fun z=>z)];exact q,fun b ps q=>⟨#[],by rw[ao (hm b _ q fun z=>z),q];simp⟩⟩
 by_cases m4:b=e
 .subst m4;exact qh
 .exact⟨u,k b u m4 q⟩
end
def trk(h:Heap)(H:Hp):List Addr:=(List.range h.objs.size).filter fun a=>(H a).isSome
def lC(h:Heap)(H:Hp):Heap:=PySem.W.hideAll h (trk h H)
theorem wQ(h:Heap)(H:Hp):(lC h H).objs.size=h.objs.size:=PySem.W.hideAll_size _ _
theorem yu{h:Heap}{H:Hp}{b:Addr}{o:Obj}(e:h.get? b=some o)(n:H b=none):(lC h H).get? b=some o:=
 PySem.W.hideAll_get _ e fun hm=>by
  have q:(H b).isSome=true:=(zAq.mp hm).2;rw[n]at q;simp at q
theorem Bc{h:Heap}{H:Hp}{b:Addr}{o:Obj}(e:(lC h H).get? b=some o):h.get? b=some o/\H b=none:=by
 have e':h.get? b=some o:=PySem.W.of_hideAll (trk h H) e;refine⟨e',?_⟩
 cases q:H b with
 |none=>rfl
 |some x=>
  have hm:b∈trk h H:=List.mem_filter.mpr ⟨List.mem_range.mpr (Heap.lt_size e'),by simp[q]⟩;have z:(lC h H).get? b=none:=PySem.W.hideAll_none (trk h H) hm;rw[z]at e;cases e
structure Mod(K:Frag)(mg:Str->Option Value)(base:Heap):Prop where
 kin:K.In base
 glob:base.Ns mainGlobals mg
 blt:∃mb,base.Ns builtinsNs mb/\∀x:Str,x≠"__name__"->mb x=bootBuiltins x
 nolimit:base.NoLimit
structure Cx where
 prog:Program
 w:World
 K:Frag
 mg:Str->Option Value
 base:Heap
 A:Around
 N:List Str
 s₀:Shared
 H₀:Hp
 env:Env
 outer:List Env
 stack:List Env
 ex:List Addr
 fn:Str->Bool
 calm:Bool
 pn:List (Addr×Obj)
 xe:Value->Shared->Prop
def frs(l:List Env):List Addr:=l.filterMap (·.frame)
abbrev Cx.fs(X:Cx):List Addr:=frs X.outer
def Vis(sc:Scope)(x:Str):Prop:=sc.names.lookup x=some .local\/sc.names.lookup x=some .cell\/sc.names.lookup x=some .free
def Loc(sc:Scope)(x:Str):Prop:=sc.names.lookup x=some .local\/sc.names.lookup x=some .cell
def Look(env:Env)(h:Heap)(m:Str->Option Value)(x:Str)(u:Value):Prop:=
 (env.kindOf x=some .local/\m x=some u)\/((env.kindOf x=some .cell\/env.kindOf x=some .free)/\∃c,env.cells.lookup x=some c/\h.IsCell c (some u))
structure Cx.Ok(X:Cx):Prop where
 mod:Mod X.K X.mg X.base
 kind:X.env.scope.kind=.function
 glob:X.env.globals=mainGlobals
 blt:X.env.builtins=builtinsNs
 above:X.s₀.heap.objs.size<=X.env.locals
 inj:∀x y c,X.env.cells.lookup x=some c->X.env.cells.lookup y=some c->x=y
 has:∀x,(X.env.kindOf x=some .cell\/X.env.kindOf x=some .free)->∃c,X.env.cells.lookup x=some c
 cab:∀x c,X.fn x=true->X.env.cells.lookup x=some c->X.s₀.heap.objs.size<=c
 hd:X.calm=true->X.A.handled=none
 frames:X.A.frames=some X.stack
 stk:X.stack=X.outer\/(X.stack=X.env::X.outer/\X.env.frame=some X.env.locals)
 exf:∀b∈X.ex,b≠X.env.locals/\∀x c,X.env.cells.lookup x=some c->c≠b
 bs:∀b o,X.base.get? b=some o->X.s₀.heap.get? b=some o/\X.H₀ b=none
 bsz:X.base.objs.size<=X.s₀.heap.objs.size
 noex:∀b o,X.base.get? b=some o->b∉X.ex
 exfs:∀b∈X.ex,b∉X.fs
 funs:X.s₀.heap.FunFrames X.base X.outer
 frf:∀b∈X.fs,X.H₀ b=none
structure Inv(X:Cx)(Zt:List (Addr×Obj))(σ:List (Option V))(H:Hp)(s:Shared):Prop where
 ok:X.Ok
 os:s.os=X.s₀.os
 bare:AllBare s.gens
 base:Un X.fs X.ex X.H₀ H X.s₀.heap s.heap
 loc:∃m,s.heap.Ns X.env.locals m/\∀(i:Nat) (x:Str) (v:V),X.N[i]?=some x->σ[i]?=some (some v)->Vis X.env.scope x->∃u,RelV v u/\Look X.env s.heap m x u
 cell:∀x c,X.env.cells.lookup x=some c->∃v,s.heap.IsCell c v
 free:H X.env.locals=none
 freeC:∀x c,X.env.cells.lookup x=some c->H c=none
 pin:∀p∈X.pn++Zt,s.heap.get? p.1=some p.2/\H p.1=none/\p.1≠X.env.locals/\p.1∉X.fs/\∀v,p.2.data≠.cell v
 hok:HOk X.prog X.w H s.heap
 len:σ.length=X.N.length
section
variable{X:Cx}{Zt:List (Addr×Obj)}{σ:List (Option V)}{H H':Hp}{s:Shared}{h':Heap}
theorem Cx.Ok.nofr(ok:X.Ok){b:Addr}{o:Obj}(e:X.base.get? b=some o):b∉X.fs:=fun hb=>by
 have:=(ok.funs.mem hb).1;rw[e]at this;cases this
theorem Inv.bs(I:Inv X Zt σ H s):∀b o,X.base.get? b=some o->s.heap.get? b=some o/\H b=none:=fun b o e=>
 ⟨I.base.keep b o (I.ok.bs b o e).1 (I.ok.bs b o e).2 (I.ok.nofr e) (I.ok.noex b o e),I.base.free b o (I.ok.bs b o e).1 (I.ok.bs b o e).2 (I.ok.noex b o e)⟩
theorem Inv.bk(I:Inv X Zt σ H s):∀b o,X.base.get? b=some o->s.heap.get? b=some o:=fun b o e=>(I.bs b o e).1
theorem Inv.mod(I:Inv X Zt σ H s):Mod X.K X.mg X.base:=I.ok.mod
theorem Inv.kIn(I:Inv X Zt σ H s):X.K.In s.heap:=I.ok.mod.kin.keeps I.bk
theorem Inv.lt(I:Inv X Zt σ H s):X.env.locals<s.heap.objs.size:=let⟨_,hn,_⟩:=I.loc;hn.lt
theorem Inv.sz(I:Inv X Zt σ H s):X.s₀.heap.objs.size<=s.heap.objs.size:=Nat.le_trans I.ok.above (Nat.le_of_lt I.lt)
theorem Inv.nofs(I:Inv X Zt σ H s){a:Addr}(h:s.heap.objs.size<=a):a∉X.fs:=fun hb=>by
 obtain⟨_,o,ho,_⟩:=I.ok.funs.mem hb;exact absurd (zB2 (zAy ho) (Nat.le_trans I.sz h)) (Nat.lt_irrefl _)
theorem Inv.cne(I:Inv X Zt σ H s):∀x c,X.env.cells.lookup x=some c->c≠X.env.locals:=fun x c e z=>by
 obtain⟨v,o,ho,hd⟩:=I.cell x c e;obtain⟨m,⟨o',es,ep,gc,si,_⟩,_⟩:=I.loc;rw[z,gc]at ho;cases ho;rw[si]at hd;cases hd
theorem Inv.funs(I:Inv X Zt σ H s):s.heap.FunFrames X.base X.outer:=by
 have all:∀(l:List Env),(∀b∈frs l,b∈X.fs)->X.s₀.heap.FunFrames X.base l->s.heap.FunFrames X.base l:=by
  intro l
  induction l with
  |nil=>intro _ _;trivial
  |cons env r ih=>
   intro hs hl;obtain⟨hk,⟨L,o,hf,hn,ho,hd⟩,hr⟩:=hl;have hL:L∈X.fs:=hs L (by unfold frs;rw[List.filterMap_cons,hf];exact List.mem_cons_self);obtain⟨sl,e⟩:=I.base.slot L o ho (I.ok.frf L hL) hL fun z=>I.ok.exfs L z hL;exact⟨hk,⟨L,_,hf,hn,e,hd⟩,ih (fun b hb=>hs b (by unfold frs;rw[List.filterMap_cons,hf];exact List.mem_cons_of_mem _ hb)) hr⟩
 exact all X.outer (fun _ hb=>hb) I.ok.funs
theorem Inv.stack(I:Inv X Zt σ H s):s.heap.FunFrames X.base X.stack:=by
 rcases I.ok.stk with e|⟨e,hf⟩
 .rw[e];exact I.funs
 .rw[e];obtain⟨m,hn,_⟩:=I.loc;refine .cons (by rw[I.ok.kind];decide) hf hn ?_ I.funs;exact Heap.get?_none_of_le (Nat.le_trans I.ok.bsz I.ok.above)
theorem Inv.stkSub(I:Inv X Zt σ H s):∀b∈frs X.stack,b∈X.env.locals::X.fs:=fun b hb=>by
 rcases I.ok.stk with e|⟨e,hf⟩
 .rw[e]at hb;exact List.mem_cons_of_mem _ hb
 .rw[e]at hb;unfold frs at hb;rw[List.filterMap_cons,hf]at hb;exact hb
theorem Inv.stkFree(I:Inv X Zt σ H s):∀b∈frs X.stack,H b=none:=fun b hb=>by
 rcases zAo.mp (I.stkSub b hb)with e|hb
 .rw[e];exact I.free
 .obtain⟨_,o,ho,_⟩:=I.ok.funs.mem hb;exact I.base.free b o ho (I.ok.frf b hb) fun z=>I.ok.exfs b z hb
theorem Inv.step{g':Array GenState}{t':Nat}{d':Drawn}{ch:List Addr}(I:Inv X Zt σ H s)
  (iP:∀b∈ch,(b∈X.ex\/X.s₀.heap.objs.size<=b)/\b≠X.env.locals/\(∀x c,X.env.cells.lookup x=some c->c≠b)/\∀p∈X.pn++Zt,p.1≠b)
  (keep:∀b o,b≠X.env.locals->b∉X.fs->b∉ch->s.heap.get? b=some o->H b=none->h'.get? b=some o)
  (slot:∀b o,b≠X.env.locals->b∈X.fs->b∉ch->s.heap.get? b=some o->H b=none->∃sl,h'.get? b=some {o with slots:=sl}) (free:∀b o,b∉ch->s.heap.get? b=some o->H b=none->H' b=none)
  (there:∀b o,b∉ch->s.heap.get? b=some o->∃o',h'.get? b=some o')
  (tups:∀b xs,H b=some (.tup xs)->H' b=some (.tup xs)) (frzs:∀b o u,H b=some (.frz o u)->H' b=some (.frz o u)) (tbls:∀b ps,H b=some (.tbl ps)->∃more,H' b=some (.tbl (ps++more)))
  (ns:∀m,s.heap.Ns X.env.locals m->h'.Ns X.env.locals m) (hok:HOk X.prog X.w H' h') (hg:AllBare g'):
  Inv X Zt σ H' {s with heap:=h',gens:=g',drawn:=d',toks:=t'}:=by
 have zd:∀b o,X.s₀.heap.get? b=some o->b≠X.env.locals:=fun b o e=>zB3 (zB2 (zAy e) I.ok.above)
 have ze:∀b o,X.s₀.heap.get? b=some o->b∉X.ex->b∉ch:=fun b o e hx hb=>by
  rcases(iP b hb).1 with z|z
  .exact hx z
  .exact absurd (zB2 (zAy e) z) (Nat.lt_irrefl _)
 have cellK:∀x c,X.env.cells.lookup x=some c->∀v,s.heap.IsCell c v->h'.IsCell c v:=fun x c e v ⟨o,ho,hd⟩=>by
  have sj:c∉ch:=fun z=>(iP c z).2.2.1 x c e rfl;by_cases hc:c∈X.fs
  .obtain⟨sl,q⟩:=slot c o (I.cne x c e) hc sj ho (I.freeC x c e);exact⟨_,q,hd⟩
  .exact⟨o,keep c o (I.cne x c e) hc sj ho (I.freeC x c e),hd⟩
 refine⟨I.ok,I.os,hg,⟨fun b o e n hb hx=>?_,fun b o e n hb hx=>?_,fun b o e n hx=>?_,fun b o e hx=>?_,fun b xs e=>tups b xs (I.base.tups b xs e),fun b o xs e=>frzs b o xs (I.base.frzs b o xs e),fun b ps e=>?_⟩,?_,fun x c e=>?_,?_,fun x c e=>?_,fun p hp=>?_,hok,I.len⟩
 .exact keep b o (zd b o e) hb (ze b o e hx) (I.base.keep b o e n hb hx) (I.base.free b o e n hx)
 .obtain⟨sl,e1⟩:=I.base.slot b o e n hb hx;obtain⟨zh,e2⟩:=slot b _ (zd b o e) hb (ze b o e hx) e1 (I.base.free b o e n hx);exact⟨zh,e2⟩
 .obtain⟨o',e1⟩:=I.base.there b o e hx;exact free b o' (ze b o e hx) e1 (I.base.free b o e n hx)
 .obtain⟨o',e1⟩:=I.base.there b o e hx;exact there b o' (ze b o e hx) e1
 .obtain⟨m1,e1⟩:=I.base.tbls b ps e;obtain⟨m2,e2⟩:=tbls b _ e1;exact⟨m1++m2,by rw[e2,Array.append_assoc]⟩
 .obtain⟨m,hn,hl⟩:=I.loc;refine⟨m,ns m hn,fun i x v e1 e2 e3=>?_⟩;obtain⟨u,r,l⟩:=hl i x v e1 e2 e3;refine⟨u,r,?_⟩;rcases l with l|⟨k,c,e,z⟩
  .exact .inl l
  .exact .inr ⟨k,c,e,cellK x c e _ z⟩
 .obtain⟨v,z⟩:=I.cell x c e;exact⟨v,cellK x c e v z⟩
 .obtain⟨m,⟨o,_,_,ho,_⟩,_⟩:=I.loc;exact free _ o (fun z=>(iP _ z).2.1 rfl) ho I.free
 .obtain⟨v,o,ho,hd⟩:=I.cell x c e;exact free c o (fun z=>(iP c z).2.2.1 x c e rfl) ho (I.freeC x c e)
 .obtain⟨e,n,ne,nf,d⟩:=I.pin p hp;have sj:p.1∉ch:=fun z=>(iP p.1 z).2.2.2 p hp rfl;exact⟨keep p.1 p.2 ne nf sj e n,free p.1 p.2 sj e n,ne,nf,d⟩
theorem Inv.un{t':Nat}(I:Inv X Zt σ H s)(u:Un X.fs [] H H' s.heap h')(hok:HOk X.prog X.w H' h'):Inv X Zt σ H' {s with heap:=h',toks:=t'}:=by
 obtain⟨m,⟨o,es,ep,ho,r⟩,_⟩:=id I.loc;obtain⟨sl,hL⟩:=u.any ho I.free Zy
 exact I.step (g':=s.gens) (d':=s.drawn) (ch:=[]) (fun _ z=>nomatch z) (fun b o _ hb _ e n=>u.keep b o e n hb Zy) (fun b o _ hb _ e n=>u.slot b o e n hb Zy) (fun b o _ e n=>u.free b o e n Zy) (fun b o _ e=>u.there b o e Zy) u.tups u.frzs u.tbls (fun m' hm=>by
  obtain⟨o',c9,so,gc,r'⟩:=hm;rw[ho]at gc;cases gc
  exact⟨_,c9,so,hL,r'⟩) hok I.bare
theorem Inv.call{g':Array GenState}{t':Nat}{d':Drawn}{ch:List Addr}(I:Inv X Zt σ H s)(u:Un (frs X.stack) ch H H' s.heap h')(hok:HOk X.prog X.w H' h')(hg:AllBare g')
  (iP:∀b∈ch,(b∈X.ex\/X.s₀.heap.objs.size<=b)/\b≠X.env.locals/\(∀x c,X.env.cells.lookup x=some c->c≠b)/\∀p∈X.pn++Zt,p.1≠b):
  Inv X Zt σ H' {s with heap:=h',gens:=g',drawn:=d',toks:=t'}:=by
 obtain⟨m,⟨o,es,ep,ho,r⟩,_⟩:=id I.loc;obtain⟨sl,hL⟩:=u.any ho I.free fun z=>(iP _ z).2.1 rfl
 exact I.step (ch:=ch) iP (fun b o hL hb hc e n=>u.keep b o e n (fun z=>(zAo.mp (I.stkSub b z)).elim hL hb) hc) (fun b o _ _ hc e n=>u.any e n hc) (fun b o hc e n=>u.free b o e n hc) (fun b o hc e=>u.there b o e hc) u.tups u.frzs u.tbls (fun m' hm=>by
  obtain⟨o',c9,so,gc,r'⟩:=hm;rw[ho]at gc;cases gc
  exact⟨_,c9,so,hL,r'⟩) hok hg
theorem Inv.turned{t':Nat}{it:Addr}(I:Inv X Zt σ H s)(k:∀b o,b≠it->s.heap.get? b=some o->h'.get? b=some o)(hn:H it=none)(hL:it≠X.env.locals)
  (h1:it∈X.ex\/X.s₀.heap.objs.size<=it) (h2:∀x c,X.env.cells.lookup x=some c->c≠it) (h3:∀p∈X.pn++Zt,p.1≠it):Inv X Zt σ H {s with heap:=h',toks:=t'}:=by
 have Iw:∀b u,H b=some u->b≠it:=fun b u e z=>by rw[z,hn]at e;cases e
 refine I.step (g':=s.gens) (d':=s.drawn) (ch:=[it]) (fun b hb=>?_) (fun b o _ _ hc e _=>k b o (fun z=>hc (by simp[z])) e) (fun b o _ _ hc e _=>⟨o.slots,k b o (fun z=>hc (by simp[z])) e⟩) (fun _ _ _ _ n=>n)
  (fun b o hc e=>⟨o,k b o (fun z=>hc (by simp[z])) e⟩) (fun _ _ e=>e) (fun _ _ _ e=>e) (fun b ps e=>⟨#[],by rw[e];simp⟩) (fun m hm=>?_) (fun b u e=>?_) I.bare
 .have e:b=it:=by simpa using hb
  subst e;exact⟨h1,hL,h2,h3⟩
 .obtain⟨o,es,ep,ho,r⟩:=hm;exact⟨o,es,ep,k _ o (Ne.symm hL) ho,r⟩
 .refine(I.hok b u e).stay (fun c v hc q=>k c v ?_ q) (fun _ q=>q) fun _ _ q=>q;rcases hc with z|z
  .rw[z];exact Iw b u e
  .exact Iw c _ z
theorem Inv.tok(I:Inv X Zt σ H s)(t:Nat):Inv X Zt σ H {s with toks:=t}:=I.un (h':=s.heap) (t':=t) Un.refl I.hok
theorem Inv.kept{t':Nat}(I:Inv X Zt σ H s)(k:∀b u,s.heap.get? b=some u->h'.get? b=some u):Inv X Zt σ H {s with heap:=h',toks:=t'}:=I.un (Un.kept k) (I.hok.kept k)
theorem Inv.laid{a:Addr}{o:HO}{t':Nat}(I:Inv X Zt σ H s)(k:∀b u,s.heap.get? b=some u->h'.get? b=some u)(hp:s.heap.objs.size<=a)(new:ObjOk X.prog X.w (upd H a o) h' a o):
  Inv X Zt σ (upd H a o) {s with heap:=h',toks:=t'}:=I.un (Un.laid k hp (I.hok.fresh hp)) (I.hok.laid k hp new)
theorem Inv.write{x e:Addr}{o:HO}{t':Nat}(I:Inv X Zt σ H s)(mu:Mut (H x))(he:e=x\/H e=some (.own x))(k:∀b u,b≠e->s.heap.get? b=some u->h'.get? b=some u)(qh:∃u,h'.get? e=some u)
  (new:ObjOk X.prog X.w (upd H x o) h' x o):Inv X Zt σ (upd H x o) {s with heap:=h',toks:=t'}:=I.un (Un.write mu he k qh) (I.hok.write mu he k qh new)
theorem Inv.pins_of{da:List (Addr×Obj)}(I:Inv X Zt σ H s)(h:∀p∈da,s.heap.get? p.1=some p.2/\H p.1=none/\p.1≠X.env.locals/\p.1∉X.fs/\∀v,p.2.data≠.cell v):Inv X da σ H s:=
 ⟨I.ok,I.os,I.bare,I.base,I.loc,I.cell,I.free,I.freeC,fun p hp=>(zA6.mp hp).elim (fun z=>I.pin p (List.mem_append_left _ z)) (h p),I.hok,I.len⟩
theorem qT{N:List Str}(hN:N.Nodup){i j:Nat}{x:Str}(a:N[i]?=some x)(b:N[j]?=some x):i=j:=by
 obtain⟨h1,e1⟩:=zAa.mp a;obtain⟨h2,e2⟩:=zAa.mp b;exact(List.getElem_inj hN).mp (e1.trans e2.symm)
theorem jD{M:Model}{A:Around}{E:Value->Shared->Prop}{i:Nat}{x:Str}{v:V}{u:Value}{Q:Unit->Shared->Prop}(I:Inv X Zt σ H s)(hN:X.N.Nodup)(hi:X.N[i]?=some x)(hx:Loc X.env.scope x)(r:RelV v u)
  (h:∀s',Inv X Zt (σ.set i (some v)) H s'->(∃a,Heap.SameBut a s.heap s'.heap/\(a=X.env.locals\/X.env.cells.lookup x=some a))->Q () s') (hf:X.fn x=true\/X.env.scope.names.lookup x=some .local:=by first|exact .inl rfl|exact .inr rfl|assumption):wpAny M A (storeName X.env x u) Q E s:=by
 obtain⟨m,hn,hl⟩:=id I.loc;have A8:(X.env.scope.kind==.class||(X.env.scope.kind==.module&&X.env.locals != X.env.globals))=false:=by rw[I.ok.kind];rfl
 have sv:i<σ.length:=by rw[I.len];exact(zAa.mp hi).1
 have cne:=I.cne
 have tracked:∀{a:Addr} {h':Heap},(∃o,s.heap.get? a=some o/\H a=none)->Heap.SameBut a s.heap h'->HOk X.prog X.w H h':=fun{a h'} ha hs b ob e=>by
  obtain⟨_,_,hfree⟩:=ha;refine(I.hok b ob e).stay (fun c w' hc q=>(hs.2 c ?_).trans q) (fun _ q=>q) fun _ _ q=>q;rintro rfl;rcases hc with rfl|hc
  .rw[hfree]at e;cases e
  .rw[hfree]at hc;cases hc
 rcases hx with hk|hk
 .refine wpAny_storeName_local hk hn (fun h' gy hs=>?_) A8;obtain⟨oL,_,_,Kp,_⟩:=id hn;refine h _ ⟨I.ok,I.os,I.bare,⟨fun b o e n hb hx=>?_,fun b o e n hb hx=>?_,I.base.free,fun b o e hx=>?_,I.base.tups,I.base.frzs,I.base.tbls⟩,⟨_,gy,fun j y v' e1 e2 e3=>?_⟩,fun y c e=>?_,I.free,I.freeC,fun p hp=>?_,tracked ⟨oL,Kp,I.free⟩ hs,by simpa using I.len⟩ ⟨_,hs,.inl rfl⟩
  .exact(hs.2 b (zB3 (zB2 (zAy e) I.ok.above))).trans (I.base.keep b o e n hb hx)
  .obtain⟨sl,e1⟩:=I.base.slot b o e n hb hx;exact⟨sl,(hs.2 b (zB3 (zB2 (zAy e) I.ok.above))).trans e1⟩
  .obtain⟨o',e1⟩:=I.base.there b o e hx;exact⟨o',(hs.2 b (zB3 (zB2 (zAy e) I.ok.above))).trans e1⟩
  .by_cases hj:j=i
   .subst hj;rw[hi]at e1;cases e1;rw[List.getElem?_set_self sv]at e2;cases e2;exact⟨u,r,.inl ⟨hk,by simp⟩⟩
   .rw[List.getElem?_set_ne (Ne.symm hj)]at e2;obtain⟨u',r',q⟩:=hl j y v' e1 e2 e3;refine⟨u',r',?_⟩;rcases q with⟨k,e⟩|⟨k,c,e,z⟩
    .refine .inl ⟨k,?_⟩;have:y≠x:=fun e=>hj (qT hN e1 (e▸hi));simp[this,e]
    .exact .inr ⟨k,c,e,z.sameBut hs (cne y c e)⟩
  .obtain⟨w',z⟩:=I.cell y c e;exact⟨w',z.sameBut hs (cne y c e)⟩
  .obtain⟨e,n,ne,nf,d⟩:=I.pin p hp;exact⟨(hs.2 p.1 ne).trans e,n,ne,nf,d⟩
 .have jv:X.fn x=true:=by
   rcases hf with z|z
   .exact z
   .rw[z]at hk;cases hk
  obtain⟨c,hc⟩:=I.ok.has x (.inl hk);obtain⟨w',z⟩:=I.cell x c hc;refine wpAny_storeName_cell I.ok.kind hk hc z (fun h' ai hs=>?_);obtain⟨oc,zk,A9⟩:=id z;refine h {s with heap:=h'} ⟨I.ok,I.os,I.bare,⟨fun b o e n hb hx=>?_,fun b o e n hb hx=>?_,I.base.free,fun b o e hx=>?_,I.base.tups,I.base.frzs,I.base.tbls⟩,⟨m,hn.sameBut hs (Ne.symm (cne x c hc)),fun j y v' e1 e2 e3=>?_⟩,fun y c' e=>?_,I.free,I.freeC,fun p hp=>?_,tracked ⟨oc,zk,I.freeC x c hc⟩ hs,by simpa using I.len⟩ ⟨c,hs,.inr hc⟩
  .exact(hs.2 b (zB3 (zB2 (zAy e) (I.ok.cab x c jv hc)))).trans (I.base.keep b o e n hb hx)
  .obtain⟨sl,e1⟩:=I.base.slot b o e n hb hx;exact⟨sl,(hs.2 b (zB3 (zB2 (zAy e) (I.ok.cab x c jv hc)))).trans e1⟩
  .obtain⟨o',e1⟩:=I.base.there b o e hx;exact⟨o',(hs.2 b (zB3 (zB2 (zAy e) (I.ok.cab x c jv hc)))).trans e1⟩
  .by_cases hj:j=i
   .subst hj;rw[hi]at e1;cases e1;rw[List.getElem?_set_self sv]at e2;cases e2;exact⟨u,r,.inr ⟨.inl hk,c,hc,ai⟩⟩
   .rw[List.getElem?_set_ne (Ne.symm hj)]at e2;obtain⟨u',r',q⟩:=hl j y v' e1 e2 e3;refine⟨u',r',?_⟩;rcases q with q|⟨k,c',e,z'⟩
    .exact .inl q
    .refine .inr ⟨k,c',e,z'.sameBut hs ?_⟩;rintro rfl;exact hj (qT hN e1 (I.ok.inj _ _ _ e hc▸hi))
  .by_cases Iy:c'=c
   .subst Iy;exact⟨_,ai⟩
   .obtain⟨w2,z2⟩:=I.cell y c' e;exact⟨w2,z2.sameBut hs Iy⟩
  .obtain⟨e,n,ne,nf,d⟩:=I.pin p hp;refine⟨(hs.2 p.1 ?_).trans e,n,ne,nf,d⟩;intro q;rw[q,zk]at e;have q':oc=p.2:=zAl e;exact d w' (by rw[<-q'];exact A9)
theorem eG{M:Model}{A:Around}{E:Value->Shared->Prop}{i:Nat}{x:Str}{v:V}{u:Value}{Q:Unit->Shared->Prop}(I:Inv X Zt σ H s)(hN:X.N.Nodup)(hi:X.N[i]?=some x)(hx:Loc X.env.scope x)(r:RelV v u)
  (h:∀s',Inv X Zt (σ.set i (some v)) H s'->Q () s') (hf:X.fn x=true\/X.env.scope.names.lookup x=some .local:=by first|exact .inl rfl|exact .inr rfl|assumption):wpAny M A (storeName X.env x u) Q E s:=
 jD I hN hi hx r (fun s' I' _=>h s' I') hf
theorem Inv.call'{s':Shared}{ch:List Addr}(I:Inv X Zt σ H s)(ho:s'.os=s.os)(u:Un (frs X.stack) ch H H' s.heap s'.heap)(hok:HOk X.prog X.w H' s'.heap)(hg:AllBare s'.gens)
  (iP:∀b∈ch,(b∈X.ex\/X.s₀.heap.objs.size<=b)/\b≠X.env.locals/\(∀x c,X.env.cells.lookup x=some c->c≠b)/\∀p∈X.pn++Zt,p.1≠b):Inv X Zt σ H' s':=by
 obtain⟨h',g',d',t',o'⟩:=s';have e:o'=s.os:=ho;subst e;exact I.call (g':=g') (t':=t') (d':=d') u hok hg iP
end
abbrev XC:=Addr×Option Addr
abbrev XK:=Value->Option XC->Hp->Prop
abbrev St:=List (Option V)
abbrev VK:=V->Hp->Prop
abbrev TE:=St->Hp->VK->Prop
abbrev TT:=St->Hp->(Bool->Hp->Prop)->Prop
abbrev TA:=St->Hp->(List V->Hp->Prop)->Prop
structure Ends where
 nx:St->Hp->Prop
 rt:VK
 bk:St->Hp->Prop:=fun _ _=>False
 ct:St->Hp->Prop:=fun _ _=>False
abbrev TS:=Ends->St->Hp->Prop
def EP(X:Cx)(Zt:List (Addr×Obj))(σ:St)(Q:VK)(u:Value)(s':Shared):Prop:=∃v H',Inv X Zt σ H' s'/\RelV v u/\Q v H'
def TP(X:Cx)(Zt:List (Addr×Obj))(σ:St)(Q:Bool->Hp->Prop)(b:Bool)(s':Shared):Prop:=∃H',Inv X Zt σ H' s'/\Q b H'
def AP(X:Cx)(Zt:List (Addr×Obj))(σ:St)(Q:List V->Hp->Prop)(us:List Value)(s':Shared):Prop:=∃vs H',Inv X Zt σ H' s'/\Vals vs us/\Q vs H'
def SP(X:Cx)(Zt:List (Addr×Obj))(D:Ends)(f:Flow)(s':Shared):Prop:=
 match f with
 |.next=>∃ae H',Inv X Zt ae H' s'/\D.nx ae H'
 |.brk=>∃ae H',Inv X Zt ae H' s'/\D.bk ae H'
 |.cont=>∃ae H',Inv X Zt ae H' s'/\D.ct ae H'
 |.ret u=>∃v ae H',Inv X Zt ae H' s'/\RelV v u/\D.rt v H'
def PE(X:Cx)(e:Expr)(t:TE):Prop:=
 ∀(Zt:List (Addr×Obj)) (s:Shared) (σ:St) (H:Hp) (Q:VK),Inv X Zt σ H s->t σ H Q->wpAny (model X.prog X.w) X.A (eval e X.env) (EP X Zt σ Q) X.xe s
def PT(X:Cx)(e:Expr)(t:TT):Prop:=
 ∀(Zt:List (Addr×Obj)) (s:Shared) (σ:St) (H:Hp) (Q:Bool->Hp->Prop),Inv X Zt σ H s->t σ H Q->wpAny (model X.prog X.w) X.A (isTrue e X.env (eval e X.env)) (TP X Zt σ Q) X.xe s
def PW(X:Cx)(e:Expr)(t:TT):Prop:=
 ∀(whole:Sem Value) (Zt:List (Addr×Obj)) (s:Shared) (σ:St) (H:Hp) (Q:Bool->Hp->Prop),Inv X Zt σ H s->t σ H Q->wpAny (model X.prog X.w) X.A (isTrue e X.env whole) (TP X Zt σ Q) X.xe s
theorem PW.pt{X:Cx}{e:Expr}{t:TT}(h:PW X e t):PT X e t:=h _
def PA(X:Cx)(es:List Expr)(t:TA):Prop:=
 ∀(pos:Pos) (Zt:List (Addr×Obj)) (s:Shared) (σ:St) (H:Hp) (Q:List V->Hp->Prop),Inv X Zt σ H s->t σ H Q->wpAny (model X.prog X.w) X.A (spliced (backTo pos (starEach es X.env))) (AP X Zt σ Q) X.xe s
def PS(X:Cx)(st:Stmt)(t:TS):Prop:=
 ∀(Zt:List (Addr×Obj)) (s:Shared) (σ:St) (H:Hp) (D:Ends),Inv X Zt σ H s->t D σ H->wpAny (model X.prog X.w) X.A (exec st X.env) (SP X Zt D) X.xe s
def PSs(X:Cx)(st:List Stmt)(t:TS):Prop:=
 ∀(Zt:List (Addr×Obj)) (s:Shared) (σ:St) (H:Hp) (D:Ends),Inv X Zt σ H s->t D σ H->wpAny (model X.prog X.w) X.A (execs st X.env) (SP X Zt D) X.xe s
theorem thn{α:Type}{t:Sem α}{Q Q':α->Shared->Prop}{M:Model}{A:Around}{E:Value->Shared->Prop}{s:Shared}(h:wpAny M A t Q E s)(hQ:∀a s,Q a s->Q' a s):wpAny M A t Q' E s:=wpAny_mono h hQ fun _ _ x=>x
section
variable{X:Cx}
theorem bin{a b:Expr}{ta tb:TE}(ha:PE X a ta)(hb:PE X b tb){Zt:List (Addr×Obj)}{s:Shared}{σ:St}{H:Hp}{R:V->V->Hp->Prop}(I:Inv X Zt σ H s)(h:ta σ H fun x H1=>tb σ H1 fun y H2=>R x y H2)
  {α:Type} {Q:α->Shared->Prop} {f:Value->Value->Sem α}
  (hf:∀v u s2 x y H2,Inv X Zt σ H2 s2->RelV x v->RelV y u->R x y H2->wpAny (model X.prog X.w) X.A (f v u) Q X.xe s2):
  wpAny (model X.prog X.w) X.A (eval a X.env) (fun v s₁=>wpAny (model X.prog X.w) X.A (eval b X.env) (fun u s₂=>wpAny (model X.prog X.w) X.A (f v u) Q X.xe s₂) X.xe s₁) X.xe s:=by
 refine thn (ha Zt s σ H _ I h) fun v s1 ⟨x,H1,I1,r1,q1⟩=>?_;refine thn (hb Zt s1 σ H1 _ I1 q1) fun u s2 ⟨y,H2,I2,r2,q2⟩=>?_;exact hf v u s2 x y H2 I2 r1 r2 q2
inductive TVarI(i:Nat)(σ:St)(H:Hp)(Q:VK):Prop
 |mk:∀v,(σ[i]?=some (some v))->(Q v H)->TVarI i σ H Q
def wR(i:Nat):TE:=fun σ H Q=>TVarI i σ H Q
def tC(v:V):TE:=fun _ H Q=>Q v H
theorem uh{i:Nat}{x:Str}{pos:Pos}(hN:X.N[i]?=some x)(hv:Vis X.env.scope x)(hd:(x==("__debug__":Str))=false:=by decide)(bg:(x==("__classdict__":Str))=false:=by decide):PE X (.Name x pos) (wR i):=by
 intro Zt s σ H Q I h;obtain⟨v,e,h⟩:=h;obtain⟨m,hn,hl⟩:=I.loc;obtain⟨u,r,l⟩:=hl i x v hN e hv
 have fin:EP X Zt σ Q u s:=⟨v,H,I,r,h⟩
 rcases l with⟨hk,hm⟩|⟨hk,c,hc,hcell⟩
 .exact wpAny_Name (wpAny_loadName_local I.ok.kind hk hn hm fin) hd
 .rcases hk with hk|hk
  .exact wpAny_Name (wpAny_loadName_cell I.ok.kind hk hc hcell fin) hd
  .exact wpAny_Name (wpAny_loadName_free I.ok.kind hk hc hcell fin bg) hd
theorem ak{i j pos}:PE X (.Constant (.int i) j pos) (tC (.int i)):=fun _ _ _ H _ I h=>wpAny_Constant_int ⟨.int i,H,I.tok _,⟨_,rfl⟩,h⟩
theorem gJ{b j pos}:PE X (.Constant (.bool b) j pos) (tC (.bl b)):=fun _ _ _ H _ I h=>Constant_bool ⟨.bl b,H,I,rfl,h⟩
theorem gK{j pos}:PE X (.Constant .none j pos) (tC .non):=fun _ _ _ H _ I h=>Constant_none ⟨.non,H,I,rfl,h⟩
theorem cA{x j pos}:PE X (.Constant (.str x) j pos) (tC (.str x)):=fun _ _ _ H _ I h=>Calls.Constant_str ⟨.str x,H,I.tok _,⟨_,rfl⟩,h⟩
def Gl(X:Cx)(x:Str):Prop:=X.env.kindOf x=some .globalImplicit
theorem dY{E:Value->Shared->Prop}{Zt:List (Addr×Obj)}{s:Shared}{σ:St}{H:Hp}{x:Str}{u:Value}{pos:Pos}{Q:Value->Shared->Prop}(I:Inv X Zt σ H s)(hg:Gl X x)(hm:X.mg x=some u)(h:Q u s)
  (hd:(x==("__debug__":Str))=false:=by decide):wpAny (model X.prog X.w) X.A (eval (.Name x pos) X.env) Q E s:=
 Calls.Name_function_global I.ok.kind hg (Calls.loadGlobal_global (by rw[I.ok.glob];exact I.mod.glob.keeps I.bk) hm h) hd
theorem iQ{E:Value->Shared->Prop}{Zt:List (Addr×Obj)}{s:Shared}{σ:St}{H:Hp}{x:Str}{u:Value}{pos:Pos}{Q:Value->Shared->Prop}(I:Inv X Zt σ H s)(hg:Gl X x)(hm:X.mg x=none)(hv:bootBuiltins x=some u)(h:Q u s)
  (hn:x≠"__name__":=by decide) (hd:(x==("__debug__":Str))=false:=by decide):wpAny (model X.prog X.w) X.A (eval (.Name x pos) X.env) Q E s:=by
 obtain⟨mb,h1,h2⟩:=I.mod.blt;exact Calls.Name_function_global I.ok.kind hg (Calls.loadGlobal_builtin (by rw[I.ok.glob];exact I.mod.glob.keeps I.bk) hm (by rw[I.ok.blt];exact h1.keeps I.bk) ((h2 x hn).trans hv) h) hd
theorem bQ{x:Str}{v:V}{u:Value}{pos:Pos}(hg:Gl X x)(hm:X.mg x=some u)(r:RelV v u)(hd:(x==("__debug__":Str))=false:=by decide):PE X (.Name x pos) (tC v):=
 fun _ _ _ H _ I h=>dY I hg hm ⟨v,H,I,r,h⟩ hd
theorem cZ{x:Str}{v:V}{u:Value}{pos:Pos}(hg:Gl X x)(hm:X.mg x=none)(hv:bootBuiltins x=some u)(r:RelV v u)(hn:x≠"__name__":=by decide)(hd:(x==("__debug__":Str))=false:=by decide):PE X (.Name x pos) (tC v):=
 fun _ _ _ H _ I h=>iQ I hg hm hv ⟨v,H,I,r,h⟩ hn hd
variable{a b:Expr}{ta tb:TE}{pos:Pos}
def PC(X:Cx)(op:CmpOp)(a b:Expr)(t:TE):Prop:=
 ∀(Zt:List (Addr×Obj)) (s:Shared) (σ:St) (H:Hp) (Q:VK),Inv X Zt σ H s->t σ H Q->
  wpAny (model X.prog X.w) X.A (eval a X.env) (fun v s₁=>wpAny (model X.prog X.w) X.A (eval b X.env) (fun u s₂=>wpAny (model X.prog X.w) X.A (compareOp op v u) (EP X Zt σ Q) X.xe s₂) X.xe s₁) X.xe s
def tB(t:TE):TT:=fun σ H Q=>t σ H fun x H1=>∃c,x=.bl c/\Q c H1
theorem Hh{op:CmpOp}{t:TE}(h:PC X op a b t)(h1:behindInMarks op b=false:=by first|exact nobehind _ Zx Zx|rfl):PT X (.Compare a [op] [b] pos) (tB t):=by
 intro Zt s σ H Q I hw;refine wpAny_isTrue_Compare1 (thn (h Zt s σ H _ I hw) fun v s1 h1=>thn h1 fun u s2 h2=>thn h2 fun c s3 ⟨x,H1,I1,r1,q1⟩=>?_) h1;obtain⟨d,rfl,q⟩:=q1;cases r1;exact wpAny_truthy_bool ⟨H1,I1,q⟩
theorem bD{e:Expr}{t:TE}(h:PE X e t)(he:∀whole,isTrue e X.env whole=(do let v <-whole;standAt e.pos;holding [v] (truthy v)):=by intro _;rfl):PT X e (tB t):=by
 intro Zt s σ H Q I hw;refine isTrue_plain (thn (h Zt s σ H _ I hw) fun v s1 ⟨x,H1,I1,r1,q1⟩=>?_) (he _);obtain⟨d,rfl,q⟩:=q1;cases r1;exact wpAny_truthy_bool ⟨H1,I1,q⟩
variable{tA zl:TT}{rest:List Expr}
def Hi(t u:TT):TT:=fun σ H Q=>t σ H fun c H1=>if c=true then u σ H1 Q else Q false H1
def tOr(t u:TT):TT:=fun σ H Q=>t σ H fun c H1=>if c=true then Q true H1 else u σ H1 Q
def FZ(t:TT):TT:=fun σ H Q=>t σ H fun c H1=>Q (!c) H1
theorem vf(ha:PT X a tA):PW X (.BoolOp .And [a] pos) tA:=by
 intro wh Zt s σ H Q I h;refine isTrue_and (thn (ha Zt s σ H Q I h) fun c s1 e=>?_)
 cases c with
 |true=>exact isTrue_and_nil e
 |false=>exact e
theorem fj(ha:PT X a tA):PW X (.BoolOp .Or [a] pos) tA:=by
 intro wh Zt s σ H Q I h;refine isTrue_or (thn (ha Zt s σ H Q I h) fun c s1 e=>?_)
 cases c with
 |false=>exact isTrue_or_nil e
 |true=>exact e
theorem yw(ha:PT X a tA)(hb:PW X (.BoolOp .And (b::rest) pos) zl):PW X (.BoolOp .And (a::b::rest) pos) (Hi tA zl):=by
 intro wh Zt s σ H Q I h;refine isTrue_and (thn (ha Zt s σ H _ I h) fun c s1 ⟨H1,I1,q1⟩=>?_)
 cases c with
 |true=>exact hb wh Zt s1 σ H1 Q I1 q1
 |false=>exact⟨H1,I1,q1⟩
theorem fO(ha:PT X a tA)(hb:PW X (.BoolOp .Or (b::rest) pos) zl):PW X (.BoolOp .Or (a::b::rest) pos) (tOr tA zl):=by
 intro wh Zt s σ H Q I h;refine isTrue_or (thn (ha Zt s σ H _ I h) fun c s1 ⟨H1,I1,q1⟩=>?_)
 cases c with
 |true=>exact⟨H1,I1,q1⟩
 |false=>exact hb wh Zt s1 σ H1 Q I1 q1
theorem bB(ha:PT X a tA):PT X (.UnaryOp .Not a pos) (FZ tA):=by
 intro Zt s σ H Q I h;exact isTrue_not (ha Zt s σ H (fun c H1=>Q (!c) H1) I h)
def Dj(ta tb:TE):TE:=fun σ H Q=>ta σ H fun x H1=>∃c,x=.bl c/\if c=true then tb σ H1 Q else Q (.bl false) H1
def G5(ta:TE):TE:=fun σ H Q=>ta σ H fun x H1=>∃c,x=.bl c/\Q (.bl (!c)) H1
theorem fB{op}{t:TE}(h:PE X a t):PE X (.BoolOp op [a] pos) t:=fun Zt s σ H Q I hw=>BoolOp_one (h Zt s σ H Q I hw)
theorem cJ(ha:PE X a ta)(hb:PE X (.BoolOp .And (b::rest) pos) tb):PE X (.BoolOp .And (a::b::rest) pos) (Dj ta tb):=by
 intro Zt s σ H Q I h;refine BoolOp_and (thn (ha Zt s σ H _ I h) fun v s1 ⟨x,H1,I1,r1,q1⟩=>?_);obtain⟨c,rfl,q1⟩:=q1;cases r1;refine wpAny_truthy_bool ?_
 cases c with
 |true=>exact hb Zt s1 σ H1 Q I1 q1
 |false=>exact⟨.bl false,H1,I1,rfl,q1⟩
theorem yx(ha:PE X a ta):PE X (.UnaryOp .Not a pos) (G5 ta):=by
 intro Zt s σ H Q I h;refine UnaryOp_ (thn (ha Zt s σ H _ I h) fun v s1 ⟨x,H1,I1,r1,q1⟩=>?_);obtain⟨c,rfl,q1⟩:=q1;cases r1;exact not_of (wpAny_truthy_bool ⟨.bl (!c),H1,I1,rfl,q1⟩)
def tIf(t:TT)(ta tb:TE):TE:=fun σ H Q=>t σ H fun c H1=>if c=true then ta σ H1 Q else tb σ H1 Q
theorem dO{c:Expr}(hc:PT X c tA)(ha:PE X a ta)(hb:PE X b tb):PE X (.IfExp c a b pos) (tIf tA ta tb):=by
 intro Zt s σ H Q I h;refine wpAny_IfExp (thn (hc Zt s σ H _ I h) fun d s1 ⟨H1,I1,q1⟩=>?_)
 cases d with
 |true=>exact ha Zt s1 σ H1 Q I1 q1
 |false=>exact hb Zt s1 σ H1 Q I1 q1
end
def SqL(K:Frag)(H:Hp)(a:Addr)(xs:List V):Prop:=
 Rd H a (.lst xs) \/
  ∃(o:Obj) (Zr:Array Value) (n:Nat),K.lookup a=some o/\o.cls=.type "list"/\o.dict=none/\o.data=.seq Zr n/\Zr.size<=sizeLine/\Vals xs Zr.toList
def SqT(K:Frag)(H:Hp)(a:Addr)(xs:List V):Prop:=
 Rd H a (.tup xs) \/
  ∃(o:Obj) (Zr:Array Value) (n:Nat),K.lookup a=some o/\o.cls=.type "tuple"/\o.data=.seq Zr n/\Zr.size<=sizeLine/\Vals xs Zr.toList
def Hk:Value->Option V
 |.none=>some .non
 |.bool b=>some (.bl b)
 |.int i _=>some (.int i)
 |.str x _=>some (.str x)
 |.bytes b _=>some (.byt b)
 |.float b _=>some (.flt b)
 |.ref a=>some (.ref a)
 |.type n=>some (.ty n)
 |_=>none
theorem RelV.abs{x:V}{u:Value}(r:RelV x u):Hk u=some x:=by
 cases x with
 |non=>cases r;rfl
 |bl _=>cases r;rfl
 |int _=>obtain⟨t,rfl⟩:=r;rfl
 |str _=>obtain⟨t,rfl⟩:=r;rfl
 |byt _=>obtain⟨t,rfl⟩:=r;rfl
 |flt _=>obtain⟨t,rfl⟩:=r;rfl
 |ref _=>cases r;rfl
 |ty _=>cases r;rfl
theorem RelV.inj{x y:V}{u:Value}(r:RelV x u)(q:RelV y u):x=y:=zAl (r.abs.symm.trans q.abs)
theorem Vals.inj:∀{xs ys:List V} {us:List Value},Vals xs us->Vals ys us->xs=ys
 |_,_,_,.nil,.nil=>rfl
 |_,_,_,.cons r t,.cons r' t'=>by rw[r.inj r',Vals.inj t t']
section
variable{X:Cx}{Zt:List (Addr×Obj)}{σ:St}{H:Hp}{s:Shared}{a:Addr}{xs ys:List V}
theorem SqL.of{K:Frag}(h:H a=some (.lst xs)):SqL K H a xs:=.inl (.inl h)
theorem SqT.of{K:Frag}(h:H a=some (.tup xs)):SqT K H a xs:=.inl (.inl h)
theorem Inv.list(I:Inv X Zt σ H s)(h:SqL X.K H a xs):∃Zr:List Value,Vals xs Zr/\PlainL s.heap a Zr.toArray/\xs.length<=sizeLine:=by
 rcases h with h|⟨o,Zr,n,hk,hc,hd,hs,hz,r⟩
 .obtain⟨z,Zr,n,r,e⟩:=h.ok I.hok;exact⟨Zr,r,⟨_,n,e,rfl,rfl,rfl⟩,z⟩
 .refine⟨Zr.toList,r,⟨o,n,I.kIn a o hk,hc,hd,by simpa using hs⟩,?_⟩;have e:=r.length;simp only[Array.length_toList]at e;lia
theorem Inv.tuple(I:Inv X Zt σ H s)(h:SqT X.K H a xs):∃Zr:List Value,Vals xs Zr/\IsTup s.heap a Zr.toArray/\xs.length<=sizeLine:=by
 rcases h with h|⟨o,Zr,n,hk,hc,hs,hz,r⟩
 .obtain⟨z,Zr,r,p⟩:=h.ok I.hok;exact⟨Zr,r,p,z⟩
 .refine⟨Zr.toList,r,⟨o,I.kIn a o hk,hc,n,by simpa using hs⟩,?_⟩;have e:=r.length;simp only[Array.length_toList]at e;lia
theorem Inv.list_inj(I:Inv X Zt σ H s)(h:SqL X.K H a xs)(h':SqL X.K H a ys):xs=ys:=by
 obtain⟨Zr,r,⟨o,n,e,_,_,d⟩,_⟩:=I.list h;obtain⟨its',r',⟨o',n',e',_,_,d'⟩,_⟩:=I.list h';rw[e]at e';cases e';rw[d]at d';injection d' with d1 _;have:Zr=its':=by simpa using congrArg Array.toList d1
 subst this;exact r.inj r'
theorem Inv.tuple_inj(I:Inv X Zt σ H s)(h:SqT X.K H a xs)(h':SqT X.K H a ys):xs=ys:=by
 obtain⟨Zr,r,⟨o,e,_,n,d⟩,_⟩:=I.tuple h;obtain⟨its',r',⟨o',e',_,n',d'⟩,_⟩:=I.tuple h';rw[e]at e';cases e';rw[d]at d';injection d' with d1 _;have:Zr=its':=by simpa using congrArg Array.toList d1
 subst this;exact r.inj r'
end
abbrev Cx.wish(X:Cx)(E:Value->Shared->Prop):Cx:={X with xe:=E}
abbrev Cx.nox(X:Cx):Cx:=X.wish fun _ _=>False
theorem Cx.Ok.wish{X:Cx}(ok:X.Ok)(E:Value->Shared->Prop):(X.wish E).Ok:=
 ⟨ok.mod,ok.kind,ok.glob,ok.blt,ok.above,ok.inj,ok.has,ok.cab,ok.hd,ok.frames,ok.stk,ok.exf,ok.bs,ok.bsz,ok.noex,ok.exfs,ok.funs,ok.frf⟩
theorem Cx.Ok.unwish{X:Cx}{E:Value->Shared->Prop}(ok:(X.wish E).Ok):X.Ok:=
 ⟨ok.mod,ok.kind,ok.glob,ok.blt,ok.above,ok.inj,ok.has,ok.cab,ok.hd,ok.frames,ok.stk,ok.exf,ok.bs,ok.bsz,ok.noex,ok.exfs,ok.funs,ok.frf⟩
section
variable{X:Cx}{Zt:List (Addr×Obj)}{σ:St}{H:Hp}{s:Shared}{E:Value->Shared->Prop}
theorem Inv.wish(I:Inv X Zt σ H s)(E:Value->Shared->Prop):Inv (X.wish E) Zt σ H s:=⟨I.ok.wish E,I.os,I.bare,I.base,I.loc,I.cell,I.free,I.freeC,I.pin,I.hok,I.len⟩
theorem Inv.unwish(I:Inv (X.wish E) Zt σ H s):Inv X Zt σ H s:=⟨I.ok.unwish,I.os,I.bare,I.base,I.loc,I.cell,I.free,I.freeC,I.pin,I.hok,I.len⟩
theorem SP.unwish{D:Ends}{f:Flow}{s':Shared}(h:SP (X.wish E) Zt D f s'):SP X Zt D f s':=by
 cases f with
 |next=>obtain⟨ae,H',I,q⟩:=h;exact⟨ae,H',I.unwish,q⟩
 |brk=>obtain⟨ae,H',I,q⟩:=h;exact⟨ae,H',I.unwish,q⟩
 |cont=>obtain⟨ae,H',I,q⟩:=h;exact⟨ae,H',I.unwish,q⟩
 |ret u=>obtain⟨v,ae,H',I,r,q⟩:=h;exact⟨v,ae,H',I.unwish,r,q⟩
theorem PSs.nox{st:List Stmt}{t:TS}(h:PSs X.nox st t):PSs X st t:=fun Zt s σ H D I hw=>
 wpAny_mono (h Zt s σ H D (I.wish _) hw) (fun _ _ q=>q.unwish) fun _ _ z=>False.elim z
end
section
variable{X:Cx}{st:Stmt}{rest:List Stmt}{t u:TS}{e:Expr}{te:TE}{pos:Pos}
def yz:TS:=fun D σ H=>D.nx σ H
def DQ(t u:TS):TS:=fun D σ H=>t {D with nx:=u D} σ H
theorem aN:PSs X [] yz:=fun _ _ σ H _ I h=>wpAny_execs_nil ⟨σ,H,I,h⟩
theorem aG(h1:PS X st t)(h2:PSs X rest u):PSs X (st::rest) (DQ t u):=by
 intro Zt s σ H D I h;refine wpAny_execs_cons (thn (h1 Zt s σ H {D with nx:=u D} I h) fun f s1 q=>?_)
 cases f with
 |next=>
  obtain⟨ae,H',I',q⟩:=q;exact h2 Zt s1 ae H' D I' q
 |ret v=>exact q
 |brk=>exact q
 |cont=>exact q
theorem aA(h1:PS X st t):PSs X [st] t:=by
 intro Zt s σ H D I h;refine wpAny_execs_cons (thn (h1 Zt s σ H D I h) fun f s1 q=>?_)
 cases f with
 |next=>exact wpAny_execs_nil q
 |ret v=>exact q
 |brk=>exact q
 |cont=>exact q
theorem Inv.quiet{Zt:List (Addr×Obj)}{σ:St}{H:Hp}{s:Shared}(I:Inv X Zt σ H s):interactive X.env=false:=by simp[interactive,I.ok.kind]
def G7(te:TE):TS:=fun D σ H=>te σ H fun _ H1=>D.nx σ H1
theorem bR(he:PE X e te)(hs:swapsWith e none pos.line X.env=pure false:=by rfl):PS X (.Expr e pos) (G7 te):=by
 intro Zt s σ H D I h;exact wpAny_Expr_any (thn (he Zt s σ H _ I h) fun v s1 ⟨x,H1,I1,r1,q1⟩=>⟨σ,H1,I1,q1⟩) I.quiet hs
def DR(te:TE):TS:=fun D σ H=>te σ H D.rt
theorem aO(he:PE X e te):PS X (.Return (some e) pos) (DR te):=by
 intro Zt s σ H D I h;exact wpAny_Return_some (thn (he Zt s σ H _ I h) fun v s1 ⟨x,H1,I1,r1,q1⟩=>⟨x,σ,H1,I1,r1,q1⟩)
def G8(c:TT)(t u:TS):TS:=fun D σ H=>c σ H fun b H1=>if b=true then t D σ H1 else u D σ H1
theorem bw{c:Expr}{a b:List Stmt}{tc:TT}(hc:PT X c tc)(ha:PSs X a t)(hb:PSs X b u):PS X (.If c a b pos) (G8 tc t u):=by
 intro Zt s σ H D I h;refine wpAny_If (thn (hc Zt s σ H _ I h) fun d s1 ⟨H1,I1,q1⟩=>?_)
 cases d with
 |true=>exact ha Zt s1 σ H1 D I1 q1
 |false=>exact hb Zt s1 σ H1 D I1 q1
def yC:TS:=fun _ _ _=>False
theorem jc:PS X st yC:=fun _ _ _ _ _ _ h=>h.elim
theorem cz{Bi:List Stmt}:PSs X Bi yC:=fun _ _ _ _ _ _ h=>h.elim
end
abbrev TG:=V->St->Hp->(St->Hp->Prop)->Prop
abbrev TGs:=List V->St->Hp->(St->Hp->Prop)->Prop
def PG(X:Cx)(target:Expr)(t:TG):Prop:=
 ∀(Zt:List (Addr×Obj)) (s:Shared) (σ:St) (H:Hp) (v:V) (u:Value) (Q:St->Hp->Prop),Inv X Zt σ H s->RelV v u->t v σ H Q->
  wpAny (model X.prog X.w) X.A (assign target X.env u) (fun _ s'=>∃ae H',Inv X Zt ae H' s'/\Q ae H') X.xe s
def PGs(X:Cx)(ts:List Expr)(t:TGs):Prop:=
 ∀(Zt:List (Addr×Obj)) (s:Shared) (σ:St) (H:Hp) (vs:List V) (us:List Value) (Q:St->Hp->Prop),Inv X Zt σ H s->Vals vs us->t vs σ H Q->
  wpAny (model X.prog X.w) X.A (assignInOrder ((assignEach ts X.env).map (·.2)) us) (fun _ s'=>∃ae H',Inv X Zt ae H' s'/\Q ae H') X.xe s
abbrev yD:=V->V->V->Hp->(Hp->Prop)->Prop
def DW(X:Cx)(t:yD):Prop:=
 ∀(Zt:List (Addr×Obj)) (s:Shared) (σ:St) (H:Hp) (o i v:V) (ov iv u:Value) (Q:Hp->Prop),Inv X Zt σ H s->RelV o ov->RelV i iv->RelV v u->t o i v H Q->
  wpAny (model X.prog X.w) X.A (setItem ov iv u) (fun _ s'=>∃H',Inv X Zt σ H' s'/\Q H') X.xe s
abbrev TIp:=V->V->Hp->VK->Prop
def PIp(X:Cx)(op:Operator)(t:TIp):Prop:=
 ∀(Zt:List (Addr×Obj)) (s:Shared) (σ:St) (H:Hp) (x y:V) (v u:Value) (Q:VK),Inv X Zt σ H s->RelV x v->RelV y u->t x y H Q->
  wpAny (model X.prog X.w) X.A (inplaceOp op v u) (EP X Zt σ Q) X.xe s
section
variable{X:Cx}{pos:Pos}
def eV(i:Nat):TG:=fun v σ H Q=>Q (σ.set i (some v)) H
theorem d7{i:Nat}{x:Str}(hN:X.N.Nodup)(hi:X.N[i]?=some x)(hx:Loc X.env.scope x)(hf:X.fn x=true\/X.env.scope.names.lookup x=some .local:=by first|exact .inl rfl|exact .inr rfl|assumption):PG X (.Name x pos) (eV i):=by
 intro Zt s σ H v u Q I r h;exact wpAny_assign_Name (eG I hN hi hx r (fun s' I'=>⟨_,H,I',h⟩) hf)
def DX:TGs:=fun vs σ H Q=>vs=[]/\Q σ H
def qU(t:TG)(u:TGs):TGs:=fun vs σ H Q=>∃v r,vs=v::r/\t v σ H fun ae H'=>u r ae H' Q
theorem bF:PGs X [] DX:=by
 intro Zt s σ H vs us Q I r h;obtain⟨e,h⟩:=h;subst e;cases r;exact assignInOrder_nil ⟨σ,H,I,h⟩
theorem au{e:Expr}{es:List Expr}{t:TG}{u:TGs}(h1:PG X e t)(h2:PGs X es u)
  (hs:(assignEach (e::es) X.env).map (·.2)=assign e X.env::(assignEach es X.env).map (·.2):=by rfl):PGs X (e::es) (qU t u):=by
 intro Zt s σ H vs us Q I r h;obtain⟨v,vr,e1,h⟩:=h;subst e1
 cases r with
 |cons r rr=>
  rw[hs];refine assignInOrder_cons (thn (h1 Zt s σ H _ _ _ I r h) fun _ s1 ⟨sx,H1,I1,q1⟩=>?_);exact h2 Zt s1 sx H1 _ _ Q I1 rr q1
inductive GTupI(K:Frag)(n:Nat)(t:TGs)(v:V)(σ:St)(H:Hp)(Q:St->Hp->Prop):Prop
 |mk:∀a xs,(v=.ref a)->(SqT K H a xs)->(xs.length=n)->(t xs σ H Q)->GTupI K n t v σ H Q
def Bd(K:Frag)(n:Nat)(t:TGs):TG:=fun v σ H Q=>GTupI K n t v σ H Q
theorem bW{es:List Expr}{k:Nat}{t:TGs}{n:Nat}(hc:X.calm=true)(h:PGs X es t)
  (hn:(assignEach es X.env).length=n:=by rfl) (a9:(assignEach es X.env).findIdx? (·.1)=none:=by rfl):PG X (.Tuple es k pos) (Bd X.K n t):=by
 intro Zt s σ H v u Q I r hw;obtain⟨a,xs,e1,hq,hl,hw⟩:=hw;subst e1;cases r;obtain⟨Zr,rv,ht,hz⟩:=I.tuple hq;refine assign_Tuple_tuple (I.ok.hd hc) ht (by simp[hn,<-hl,rv.length]) a9 fun h' hx=>?_;have I1:Inv X Zt σ H {s with heap:=h'}:=I.kept (t':=s.toks) fun b o e=>hx b o (Nat.ne_of_lt (Heap.lt_size e)) e;exact h Zt _ σ H xs _ Q I1 (by simpa using rv) hw
def Hl(to ti:TE)(t:yD):TG:=fun v σ H Q=>to σ H fun o H1=>ti σ H1 fun i H2=>t o i v H2 fun H3=>Q σ H3
theorem pq{o i:Expr}{to ti:TE}{t:yD}(ho:PE X o to)(hi:PE X i ti)(hs:DW X t)
  (ha:∀v,assign (.Subscript o i pos) X.env v=(do
   let ov <-holding [v] (eval o X.env)
   let iv <-holding [v,ov] (eval i X.env)
   standAt pos
   holding [v,ov,iv] (setItem ov iv v)
   release [v,ov,iv] []):=by intro _;rfl):PG X (.Subscript o i pos) (Hl to ti t):=by
 intro Zt s σ H v u Q I r h;rw[ha];refine zAt (wpAny_holding (thn (ho Zt s σ H _ I h) fun ov s1 ⟨x,H1,I1,r1,q1⟩=>?_));refine zAt (wpAny_holding (thn (hi Zt s1 σ H1 _ I1 q1) fun iv s2 ⟨y,H2,I2,r2,q2⟩=>?_));refine zAt (wpAny_standAt (zAt (wpAny_holding (thn (hs Zt s2 σ H2 x y v ov iv u _ I2 r1 r2 r q2) fun _ s3 ⟨H3,I3,q3⟩=>?_))));exact wpAny_release ⟨σ,H3,I3,q3⟩
def ul(te:TE)(g:TG):TS:=fun D σ H=>te σ H fun x H1=>g x σ H1 D.nx
theorem bY{tg e:Expr}{te:TE}{g:TG}(he:PE X e te)(hg:PG X tg g)(hs:swapsWithSole [tg] e pos.line X.env=pure false:=by rfl)(hw:swappedStores [tg] e X.env=pure none:=by rfl)
  (h1:(assignEach [tg] X.env).map (·.2)=[assign tg X.env]:=by rfl):PS X (.Assign [tg] e pos) (ul te g):=by
 intro Zt s σ H D I h;refine wpAny_Assign_stores (thn (he Zt s σ H _ I h) fun v s1 ⟨x,H1,I1,r1,q1⟩=>?_) hs hw;rw[h1];exact thn (hg Zt s1 σ H1 x v _ I1 r1 q1) fun _ s2 q=>q
theorem um{i:Nat}{x:Str}{e:Expr}{te:TE}{pos':Pos}(hN:X.N.Nodup)(hi:X.N[i]?=some x)(hx:Loc X.env.scope x)(he:PE X e te)(hs:swapsWith e (some (.Name x pos')) pos.line X.env=pure false:=by rfl)(hf:X.fn x=true\/X.env.scope.names.lookup x=some .local:=by first|exact .inl rfl|exact .inr rfl|assumption):
  PS X (.Assign [.Name x pos'] e pos) (ul te (eV i)):=by
 intro Zt s σ H D I h;refine wpAny_Assign_Name (thn (he Zt s σ H _ I h) fun v s1 ⟨y,H1,I1,r1,q1⟩=>?_) hs;exact eG I1 hN hi hx r1 (fun s2 I2=>⟨_,H1,I2,q1⟩) hf
def Hm(i j:Nat)(ta:TA):TS:=fun D σ H=>ta σ H fun vs H1=>∃v w,vs=[v,w]/\D.nx ((σ.set i (some v)).set j (some w)) H1
theorem pA{i j:Nat}{x y:Str}{a b:Expr}{ta:TA}{px py pt:Pos}{kt k2 pt2}(hc:X.calm=true)(hN:X.N.Nodup)(hi:X.N[i]?=some x)(hj:X.N[j]?=some y)(Bn:i≠j)
  (hx:X.env.scope.names.lookup x=some .local) (hy:X.env.scope.names.lookup y=some .local) (ha:PA X [a,b] ta)
  (hw:swappedStores [.Tuple [.Name x px,.Name y py] kt pt] (.Tuple [a,b] k2 pt2) X.env=pure (some [x,y]))
  (hs:swapsWithSole [.Tuple [.Name x px,.Name y py] kt pt] (.Tuple [a,b] k2 pt2) pos.line X.env=pure false:=by rfl):
  PS X (.Assign [.Tuple [.Name x px,.Name y py] kt pt] (.Tuple [a,b] k2 pt2) pos) (Hm i j ta):=by
 intro Zt s σ H D I h;rw[exec_Assign_arm];refine zAt (wpAny_standAt ?_);rw[hs];refine zAt (zAz ?_);rw[zAw Zx];refine zAt (Tuple_ (thn (ha _ Zt s σ H _ I h) fun us s1 ⟨vs,H1,I1,r1,q1⟩=>?_));obtain⟨v,w,e1,q1⟩:=q1;subst e1
 obtain⟨u1,u2,rfl,rv,bP⟩:∃u1 u2,us=[u1,u2]/\RelV v u1/\RelV w u2:=by
  cases r1 with
  |cons p q=>
   cases q with
   |cons p' q'=>
    cases q';exact⟨_,_,rfl,p,p'⟩
 refine wpAny_newObj_type ?_ (by show 2<=sizeLine;decide);have I2:Inv X Zt σ H1 {s1 with heap:=s1.heap.push {cls:=.type "tuple",data:=.seq [u1,u2].toArray}}:=I1.kept (t':=s1.toks) fun b o e=>zAu _ e;rw[hw];refine zAt (zAz ?_);show wpAny (model X.prog X.w) X.A (do rule "assign.swapped-stores";let items <-unpackItems (.ref s1.heap.objs.size) 2 none;assignInOrder [fun v=>bindName X.env y v,fun v=>bindName X.env x v] items.reverse;pure Flow.next) _ _ _;refine zAt (wpAny_rule (zAt (unpackItems_tuple (items:=#[u1,u2]) (I.ok.hd hc) (IsTup.new s1.heap _) fun h' cE=>?_)));have I3:=I2.kept (h':=h') (t':=s1.toks) fun b o e=>cE b o (zB3 (zAy e)) e;show wpAny _ _ (assignInOrder [fun v=>bindName X.env y v,fun v=>bindName X.env x v] [u2,u1]>>=fun _=>pure Flow.next) _ _ _;refine zAt (assignInOrder_cons (wpAny_bindName (eG I3 hN hj (.inl hy) bP (fun s2 I4=>?_) (.inr hy))));refine assignInOrder_cons (wpAny_bindName (eG I4 hN hi (.inl hx) rv (fun s3 I5=>assignInOrder_nil (zAz ?_)) (.inr hx)));rw[List.set_comm _ _ (Ne.symm Bn)]at I5;exact⟨_,H1,I5,q1⟩
def G9(to ti te:TE)(jI:V->V->Hp->VK->Prop)(zo:TIp)(jS:yD):TS:=fun D σ H=>to σ H fun o H1=>ti σ H1 fun i H2=>jI o i H2 fun x H3=>te σ H3 fun y H4=>zo x y H4 fun z H5=>jS o i z H5 fun H6=>D.nx σ H6
def Ga(X:Cx)(t:V->V->Hp->VK->Prop):Prop:=
 ∀(Zt:List (Addr×Obj)) (s:Shared) (σ:St) (H:Hp) (o i:V) (ov iv:Value) (Q:VK),Inv X Zt σ H s->RelV o ov->RelV i iv->t o i H Q->
  wpAny (model X.prog X.w) X.A (getItem ov iv) (EP X Zt σ Q) X.xe s
theorem vg{o i e:Expr}{to ti te:TE}{jI:V->V->Hp->VK->Prop}{zo:TIp}{jS:yD}{op:Operator}{ng:Pos}(ho:PE X o to)(hi:PE X i ti)(hg:Ga X jI)(he:PE X e te)(hp:PIp X op zo)(hs:DW X jS)
  (ha:∀ov iv new,augStore i ov iv new=(do holding [new,ov,iv] (setItem ov iv new);release [new,ov,iv] [];pure .next):=by intros;rfl):PS X (.AugAssign (.Subscript o i ng) op e pos) (G9 to ti te jI zo jS):=by
 intro Zt s σ H D I h;refine wpAny_AugAssign_SubscriptAny (thn (ho Zt s σ H _ I h) fun ov s1 ⟨x1,H1,I1,r1,q1⟩=>?_) ha;refine thn (hi Zt s1 σ H1 _ I1 q1) fun iv s2 ⟨x2,H2,I2,r2,q2⟩=>?_;refine thn (hg Zt s2 σ H2 x1 x2 ov iv _ I2 r1 r2 q2) fun old s3 ⟨x3,H3,I3,r3,q3⟩=>?_;refine thn (he Zt s3 σ H3 _ I3 q3) fun v s4 ⟨x4,H4,I4,r4,q4⟩=>?_;refine thn (hp Zt s4 σ H4 x3 x4 old v _ I4 r3 r4 q4) fun new s5 ⟨x5,H5,I5,r5,q5⟩=>?_
 exact thn (hs Zt s5 σ H5 x1 x2 x5 ov iv new _ I5 r1 r2 r5 q5) fun _ s6 ⟨H6,I6,q6⟩=>⟨σ,H6,I6,q6⟩
def ipI(f:Int->Int->Int):TIp:=fun x y H Q=>∃i j,x=.int i/\y=.int j/\Q (.int (f i j)) H
theorem DY:PIp X .Add (ipI fun i j=>i+j):=by
 intro Zt s σ H x y v u Q I r1 r2 h;obtain⟨i,j,e1,e2,q⟩:=h;subst e1;subst e2;obtain⟨t,rfl⟩:=r1;obtain⟨t',rfl⟩:=r2;exact iadd_int ⟨.int _,H,I.tok _,⟨_,rfl⟩,q⟩
theorem Eb:PIp X .Sub (ipI fun i j=>i-j):=by
 intro Zt s σ H x y v u Q I r1 r2 h;obtain⟨i,j,e1,e2,q⟩:=h;subst e1;subst e2;obtain⟨t,rfl⟩:=r1;obtain⟨t',rfl⟩:=r2;exact isub_int ⟨.int _,H,I.tok _,⟨_,rfl⟩,q⟩
end
section
variable{X:Cx}{pos:Pos}
end
structure It where
 go:Nat->Hp->Prop
 yld:Nat->Hp->V->Hp->Prop
 stop:Nat->Hp->Prop
def pB(X:Cx)(Zt:List (Addr×Obj))(H:Hp)(b:Addr):Prop:=
 H b=none/\b≠X.env.locals/\b∉X.fs/\(b∈X.ex\/X.s₀.heap.objs.size<=b)/\(∀x c,X.env.cells.lookup x=some c->c≠b)/\∀p∈X.pn++Zt,p.1≠b
theorem Inv.fpOk{X:Cx}{Zt:List (Addr×Obj)}{σ:St}{H H':Hp}{s:Shared}{b:Addr}(I:Inv X Zt σ H s)(hb:s.heap.objs.size<=b)(hn:H' b=none):pB X Zt H' b:=by
 refine⟨hn,Nat.ne_of_gt (zB2 I.lt hb),I.nofs hb,.inr (Nat.le_trans I.sz hb),fun x c e z=>?_,fun p hp z=>?_⟩
 .obtain⟨v,q⟩:=I.cell x c e;exact absurd (zB2 q.lt (by rw[z];exact hb)) (Nat.lt_irrefl _)
 .exact absurd (zB2 (zAy (I.pin p hp).1) (by rw[z];exact hb)) (Nat.lt_irrefl _)
structure Turn(P:Program)(w:World)(K:Frag)(tg:Expr)(J:It)(fp:List Addr)(it:Addr)(tn:Nat->Heap->Prop):Prop where
 mem:it∈fp
 obj:∀i h,tn i h->∀b∈fp,∃o,h.get? b=some o/\∀v,o.data≠.cell v
 keep:∀i h h',tn i h->(∀b∈fp,∀o,h.get? b=some o->h'.get? b=some o)->tn i h'
 item:∀(X:Cx),X.prog=P->X.w=w->X.K=K->X.calm=true->∀(i:Nat) (Zt:List (Addr×Obj)) (s:Shared) (σ:St) (H:Hp) (E:Value->Shared->Prop),Inv X Zt σ H s->(∀b∈fp,pB X Zt H b)->tn i s.heap->J.go i H->
  wpAny (model P w) X.A (pyNext (.ref it)) (fun r s1=>∃u,r=some u /\
   wpAny (model P w) X.A (letOwnedTupleGo tg (.ref it) u) (fun _ s2=>∃x H',Inv X Zt σ H' s2/\RelV x u/\J.yld i H x H'/\tn (i+1) s2.heap/\∀b∈fp,H' b=none) E s1) E s
 done:∀(X:Cx),X.prog=P->X.w=w->X.K=K->X.calm=true->∀(i:Nat) (Zt:List (Addr×Obj)) (s:Shared) (σ:St) (H:Hp) (E:Value->Shared->Prop),Inv X Zt σ H s->(∀b∈fp,pB X Zt H b)->tn i s.heap->J.stop i H->
  wpAny (model P w) X.A (pyNext (.ref it)) (fun r s1=>r=none/\Inv X Zt σ H s1) E s
 self:∀(A:Around) (i:Nat) (s:Shared) (Q:Value->Shared->Prop) (E:Value->Shared->Prop),tn i s.heap->Q (.ref it) s->wpAny (model P w) A (pyIter (.ref it)) Q E s
abbrev TI:=St->Hp->(It->Hp->Prop)->Prop
def PIE(X:Cx)(Zt:List (Addr×Obj))(σ:St)(tg:Expr)(R:It->Hp->Prop)(Bz:Value)(s2:Shared):Prop:=
 ∃(it:Addr) (fp:List Addr) (tn:Nat->Heap->Prop) (J:It) (H':Hp),Bz=.ref it/\Inv X Zt σ H' s2/\Turn X.prog X.w X.K tg J fp it tn/\tn 0 s2.heap/\(∀b∈fp,pB X Zt H' b)/\R J H'
def PI(X:Cx)(tg iter:Expr)(wi:TI):Prop:=
 ∀(Zt:List (Addr×Obj)) (s:Shared) (σ:St) (H:Hp) (R:It->Hp->Prop),Inv X Zt σ H s->wi σ H R->
  wpAny (model X.prog X.w) X.A (eval iter X.env) (fun v s1=>wpAny (model X.prog X.w) X.A (pyIter v) (PIE X Zt σ tg R) X.xe s1) X.xe s
theorem yE{M:Model}{A:Around}{E:Value->Shared->Prop}{s:Shared}{tg:Expr}{it:Addr}{u:Value}{o:Obj}{n:String}{vs:Array Value}{Q:Unit->Shared->Prop}(ho:s.heap.get? it=some o)(hc:o.cls=.type n)(hd:o.data=.fields vs)
  (hn:["enumerate","zip","dict_itemiterator","dict_reverseitemiterator","odict_iterator","itertools.zip_longest","itertools.pairwise"].contains n=false) (hQ:Q () s):wpAny M A (letOwnedTupleGo tg (.ref it) u) Q E s:=by
 unfold letOwnedTupleGo
 cases tg<;>first
  |exact zAz hQ
  | (cases u<;>first
    |exact zAz hQ
    | (refine zAt (wpAny_load ho ?_)
       rw[hc,hd];show wpAny M A (if(["enumerate","zip","dict_itemiterator","dict_reverseitemiterator","odict_iterator","itertools.zip_longest","itertools.pairwise"].contains n&&vs[0]?==some (rawInt _))=true then _ else _) Q E s;rw[zAw (by intro h;rw[hn,Bool.false_and]at h;cases h)]
       exact zAz hQ))
def Itl(K:Frag)(a:Addr):It:=
 ⟨fun i H=>∃xs x,SqL K H a xs/\xs[i]?=some x,fun i H x H'=>H'=H/\∀xs,SqL K H a xs->xs[i]?=some x,fun i H=>∃xs,SqL K H a xs/\xs.length<=i⟩
def Itt(K:Frag)(a:Addr):It:=
 ⟨fun i H=>∃xs x,SqT K H a xs/\xs[i]?=some x,fun i H x H'=>H'=H/\∀xs,SqT K H a xs->xs[i]?=some x,fun i H=>∃xs,SqT K H a xs/\xs.length<=i⟩
def Itr(lo:Int)(n:Nat):It:=⟨fun i _=>i<n,fun i H x H'=>H'=H/\x=.int (lo+i),fun i _=>n<=i⟩
theorem wU{P:Program}{w:World}{K:Frag}{tg:Expr}(a it:Addr):Turn P w K tg (Itl K a) [it] it (fun i h=>h.IsListIter it a i) where
 mem:=by simp
 obj:=fun i h st b hb=>by
  have e:b=it:=by simpa using hb
  subst e;obtain⟨o,e,c,d⟩:=st;exact⟨o,e,fun v z=>by rw[d]at z;cases z⟩
 keep:=fun i h h' st k=>st.at fun o e=>k it Zy o e
 item:=by
  intro X hP hw hK hc i Zt s σ H E I hf st hg;subst hP hw hK;obtain⟨xs,x,hq,hx⟩:=hg;obtain⟨Zr,rv,p,hz⟩:=I.list hq;obtain⟨u,hu,ru⟩:=rv.get hx;obtain⟨f0,f1,f2,f3,f4,f5⟩:=hf it Zy;refine wpAny_pyNext_list_item st p.isList (x:=u) (by simpa using hu) fun h' lI sb=>?_;have I1:Inv X Zt σ H {s with heap:=h'}:=I.turned (t':=s.toks) (fun b o hb e=>(sb.2 b hb).trans e) f0 f1 f3 f4 f5;obtain⟨o,e,c,d⟩:=id lI;exact⟨u,rfl,yE (s:={s with heap:=h'}) e c d Zx ⟨x,H,I1,ru,⟨rfl,fun ys hy=>by rw[I.list_inj hy hq];exact hx⟩,lI,fun b hb=>(hf b hb).1⟩⟩
 done:=by
  intro X hP hw hK hc i Zt s σ H E I hf st hg;subst hP hw hK;obtain⟨xs,hq,hx⟩:=hg;obtain⟨Zr,rv,p,hz⟩:=I.list hq;obtain⟨f0,f1,f2,f3,f4,f5⟩:=hf it Zy;have hl:=rv.length
  exact wpAny_pyNext_list_end (I.ok.hd hc) st p.isList (by simp;lia) fun h' eb=>⟨rfl,I.turned (t':=s.toks) (fun b o hb e=>eb b o hb e) f0 f1 f3 f4 f5⟩
 self:=fun _ _ _ _ _ st h=>wpAny_pyIter_listiter st h
theorem uo{P:Program}{w:World}{K:Frag}{tg:Expr}(a it:Addr):Turn P w K tg (Itt K a) [it] it (fun i h=>h.IsTupleIter it a i) where
 mem:=by simp
 obj:=fun i h st b hb=>by
  have e:b=it:=by simpa using hb
  subst e;obtain⟨o,e,c,d⟩:=st;exact⟨o,e,fun v z=>by rw[d]at z;cases z⟩
 keep:=fun i h h' st k=>st.at fun o e=>k it Zy o e
 item:=by
  intro X hP hw hK hc i Zt s σ H E I hf st hg;subst hP hw hK;obtain⟨xs,x,hq,hx⟩:=hg;obtain⟨Zr,rv,p,hz⟩:=I.tuple hq;obtain⟨u,hu,ru⟩:=rv.get hx;obtain⟨f0,f1,f2,f3,f4,f5⟩:=hf it Zy;refine wpAny_pyNext_tuple_item st (show s.heap.IsTuple a Zr.toArray from p) (x:=u) (by simpa using hu) fun h' lI sb=>?_;have I1:Inv X Zt σ H {s with heap:=h'}:=I.turned (t':=s.toks) (fun b o hb e=>(sb.2 b hb).trans e) f0 f1 f3 f4 f5;obtain⟨o,e,c,d⟩:=id lI;exact⟨u,rfl,yE (s:={s with heap:=h'}) e c d Zx ⟨x,H,I1,ru,⟨rfl,fun ys hy=>by rw[I.tuple_inj hy hq];exact hx⟩,lI,fun b hb=>(hf b hb).1⟩⟩
 done:=by
  intro X hP hw hK hc i Zt s σ H E I hf st hg;subst hP hw hK;obtain⟨xs,hq,hx⟩:=hg;obtain⟨Zr,rv,p,hz⟩:=I.tuple hq;obtain⟨f0,f1,f2,f3,f4,f5⟩:=hf it Zy;have hl:=rv.length
  exact wpAny_pyNext_tuple_end (I.ok.hd hc) st (show s.heap.IsTuple a Zr.toArray from p) (by simp;lia) fun h' eb=>⟨rfl,I.turned (t':=s.toks) (fun b o hb e=>eb b o hb e) f0 f1 f3 f4 f5⟩
 self:=fun _ _ _ _ _ st h=>wpAny_pyIter_tupleiter st h
theorem uq{P:Program}{w:World}{K:Frag}{tg:Expr}(it:Addr)(lo:Int)(n:Nat):Turn P w K tg (Itr lo n) [it] it (fun i h=>IsRangeIter h it (lo+(i:Nat)*1) ((n:Int)-(i:Nat)) 1) where
 mem:=by simp
 obj:=fun i h st b hb=>by
  have e:b=it:=by simpa using hb
  subst e
  exact⟨_,st,fun v z=>by
   have z':Data.fields _=Data.cell v:=z
   cases z'⟩
 keep:=fun i h h' st k=>k it Zy _ st
 item:=by
  intro X hP hw hK hc i Zt s σ H E I hf st hg;subst hP hw hK;obtain⟨f0,f1,f2,f3,f4,f5⟩:=hf it Zy;have W:=Walks.range (prog:=X.prog) (w:=X.w) (I.ok.hd hc) it lo 1 n;refine W.item i s _ _ hg st fun v h' tk hv lI kk=>?_;obtain⟨t,rfl⟩:=hv;have I1:Inv X Zt σ H {s with heap:=h',toks:=tk}:=I.turned (fun b o hb e=>kk b o (by simpa using hb) e) f0 f1 f3 f4 f5;refine⟨_,rfl,yE (s:={s with heap:=h',toks:=tk}) (n:="range_iterator") lI rfl rfl Zx ⟨.int (lo+i),H,I1,⟨t,?_⟩,⟨rfl,rfl⟩,lI,fun b hb=>(hf b hb).1⟩⟩;rw[Int.mul_one]
 done:=by
  intro X hP hw hK hc i Zt s σ H E I hf st hg;subst hP hw hK;obtain⟨f0,f1,f2,f3,f4,f5⟩:=hf it Zy
  exact wpAny_pyNext_range_end (I.ok.hd hc) st (by have:n<=i:=hg;lia) fun h' eb=>⟨rfl,I.turned (t':=s.toks) (fun b o hb e=>eb b o hb e) f0 f1 f3 f4 f5⟩
 self:=fun _ _ _ _ _ st h=>wpAny_pyIter_rangeiter st h
section
variable{X:Cx}{tg:Expr}
def Gb(K:Frag)(tl:TE):TI:=fun σ H R=>tl σ H fun x H1=>∃a,x=.ref a/\(∃xs,SqL K H1 a xs)/\R (Itl K a) H1
def Gd(K:Frag)(tl:TE):TI:=fun σ H R=>tl σ H fun x H1=>∃a,x=.ref a/\(∃xs,SqT K H1 a xs)/\R (Itt K a) H1
theorem vh{l:Expr}{tl:TE}(hl:PE X l tl):PI X tg l (Gb X.K tl):=by
 intro Zt s σ H R I h;refine thn (hl Zt s σ H _ I h) fun v s1 ⟨x,H1,I1,r1,q1⟩=>?_;obtain⟨a,e,⟨xs,hq⟩,q⟩:=q1;subst e;cases r1;obtain⟨Zr,rv,p,hz⟩:=I1.list hq;refine wpAny_pyIter_list p.isList ?_;refine⟨s1.heap.objs.size,[s1.heap.objs.size],_,_,H1,rfl,I1.kept (t':=s1.toks) fun b o e=>Heap.get?_push_of_some _ e,wU a _,⟨_,Heap.get?_push_size _ rfl,rfl,rfl⟩,fun b hb=>?_,q⟩;have e:b=s1.heap.objs.size:=by simpa using hb
 subst e;exact I1.fpOk (zA3 _) (I1.hok.fresh (zA3 _))
theorem lD{l:Expr}{tl:TE}(hl:PE X l tl):PI X tg l (Gd X.K tl):=by
 intro Zt s σ H R I h;refine thn (hl Zt s σ H _ I h) fun v s1 ⟨x,H1,I1,r1,q1⟩=>?_;obtain⟨a,e,⟨xs,hq⟩,q⟩:=q1;subst e;cases r1;obtain⟨Zr,rv,p,hz⟩:=I1.tuple hq;refine wpAny_pyIter_tuple (show s1.heap.IsTuple a Zr.toArray from p) ?_;refine⟨s1.heap.objs.size,[s1.heap.objs.size],_,_,H1,rfl,I1.kept (t':=s1.toks) fun b o e=>Heap.get?_push_of_some _ e,uo a _,⟨_,Heap.get?_push_size _ rfl,rfl,rfl⟩,fun b hb=>?_,q⟩;have e:b=s1.heap.objs.size:=by simpa using hb
 subst e;exact I1.fpOk (zA3 _) (I1.hok.fresh (zA3 _))
theorem qW{Zt:List (Addr×Obj)}{σ:St}{H:Hp}{s:Shared}{R:It->Hp->Prop}{E:Value->Shared->Prop}{lo hi:Int}{t u v:Tok}{tk:Nat}(I:Inv X Zt σ H s)(h1:-(2^62)<=lo)(h2:lo<2^62)(h3:-(2^62)<=hi)(h4:hi<2^62)
  (q:R (Itr lo (hi-lo).toNat) H):wpAny (model X.prog X.w) X.A (pyIter (.ref s.heap.objs.size)) (PIE X Zt σ tg R) E {s with heap:=s.heap.push {cls:=.type "range",data:=.fields #[.int lo t,.int hi u,.int 1 v]},toks:=tk}:=by
 refine wpAny_pyIter_range (IsRange.new ..) (small_one h1 h2 h3 h4) ?_;have I1:Inv X Zt σ H {s with heap:=s.heap.push {cls:=.type "range",data:=.fields #[.int lo t,.int hi u,.int 1 v]},toks:=tk}:=I.kept fun b o e=>zAu _ e
 refine⟨(s.heap.push {cls:=.type "range",data:=.fields #[.int lo t,.int hi u,.int 1 v]}).objs.size,[(s.heap.push {cls:=.type "range",data:=.fields #[.int lo t,.int hi u,.int 1 v]}).objs.size],_,_,H,rfl,
  I1.kept (t':=tk) fun b o e=>zAu _ e,uq _ lo (hi-lo).toNat,?_,fun b hb=>?_,q⟩
 .have e1:lo+((0:Nat):Int)*1=lo:=by simp
  have e2:(((hi-lo).toNat:Nat):Int)-((0:Nat):Int)=Builtin.Range.rangeSize lo hi 1:=by rw[rangeSize_one];split<;>lia
  show IsRangeIter _ _ (lo+((0:Nat):Int)*1) ((((hi-lo).toNat:Nat):Int)-((0:Nat):Int)) 1;rw[e1,e2];exact zB1 _ rfl
 .have e:b=(s.heap.push {cls:=.type "range",data:=.fields #[.int lo t,.int hi u,.int 1 v]}).objs.size:=by simpa using hb
  subst e;exact I1.fpOk (zA3 _) (I1.hok.fresh (zA3 _))
def Ge(ta:TA):TI:=fun σ H R=>ta σ H fun vs H1=>∃j:Int,vs=[.int j]/\-(2^62)<=j/\j<2^62/\R (Itr 0 j.toNat) H1
def Gf(ta:TA):TI:=fun σ H R=>ta σ H fun vs H1=>∃i j:Int,vs=[.int i,.int j]/\(-(2^62)<=i/\i<2^62/\-(2^62)<=j/\j<2^62)/\R (Itr i (j-i).toNat) H1
theorem iu{a:Expr}{ta:TA}{p pos:Pos}(hg:Gl X "range")(hm:X.mg "range"=none)(ha:PA X [a] ta)(hs:starEach [a] X.env=[(false,eval a X.env)]:=by rfl):PI X tg (.Call (.Name "range" p) [a] [] pos) (Ge ta):=by
 intro Zt s σ H R I h;refine Call_ (iQ I hg hm boot_range (PyProof.Rows.callWith_type1 (thn (ha pos Zt s σ H _ I h) fun us s1 ⟨vs,H1,I1,r1,q1⟩=>?_) hs rfl));obtain⟨j,e,q1,q2,q⟩:=q1;subst e
 cases r1 with
 |cons r rr=>
  cases rr;obtain⟨t,rfl⟩:=r;exact call_range_1 (qW I1 Zz Zz q1 q2 (by simpa using q))
theorem iw{a b:Expr}{ta:TA}{p pos:Pos}(hg:Gl X "range")(hm:X.mg "range"=none)(ha:PA X [a,b] ta)(hs:starEach [a,b] X.env=[(false,eval a X.env),(false,eval b X.env)]:=by rfl)(dS:starEach [b] X.env=[(false,eval b X.env)]:=by rfl):
  PI X tg (.Call (.Name "range" p) [a,b] [] pos) (Gf ta):=by
 intro Zt s σ H R I h;refine Call_ (iQ I hg hm boot_range (PyProof.Rows.callWith_type1 (thn (ha pos Zt s σ H _ I h) fun us s1 ⟨vs,H1,I1,r1,q1⟩=>?_) (by rw[hs,dS]) (by rw[dS];rfl)));obtain⟨i,j,e,⟨q1,q2,q3,q4⟩,q⟩:=q1;subst e
 cases r1 with
 |cons r rr=>
  cases rr with
  |cons r' rr=>
   cases rr;obtain⟨t,rfl⟩:=r;obtain⟨t',rfl⟩:=r';exact call_range_2 (qW I1 q1 q2 q3 q4 q)
def Hn(wi:TI)(g:TG)(tb:TS):TS:=fun D σ H=>wi σ H fun J H1=>∃W:Nat->Nat->St->Hp->Prop,(∃m,W 0 m σ H1)/\∀i m σ H,W i m σ H->
 (J.stop i H/\D.nx σ H)\/(J.go i H/\∃N:St->Hp->Prop,(∀ae H',N ae H'->∃m',m'<m/\W (i+1) m' ae H')/\∀x H',J.yld i H x H'->g x σ H' fun aT H2=>tb {D with nx:=N,ct:=N,bk:=D.nx} aT H2)
def dB(fp:List Addr)(h:Heap):List (Addr×Obj):=fp.filterMap fun b=>(h.get? b).map fun o=>(b,o)
theorem fX{fp:List Addr}{h:Heap}{b:Addr}{o:Obj}(hb:b∈fp)(e:h.get? b=some o):(b,o)∈dB fp h:=List.mem_filterMap.mpr ⟨b,hb,by rw[e];rfl⟩
theorem nO{fp:List Addr}{h:Heap}{p:Addr×Obj}(hp:p∈dB fp h):p.1∈fp/\h.get? p.1=some p.2:=by
 obtain⟨b,hb,e⟩:=List.mem_filterMap.mp hp
 cases q:h.get? b with
 |none=>rw[q]at e;cases e
 |some o=>
  rw[q]at e;have e':(b,o)=p:=zAl e;subst e';exact⟨hb,q⟩
theorem Inv.pinned{Zt:List (Addr×Obj)}{σ:St}{H:Hp}{s:Shared}{fp:List Addr}(I:Inv X Zt σ H s)(hf:∀b∈fp,pB X Zt H b)(ho:∀b∈fp,∃o,s.heap.get? b=some o/\∀v,o.data≠.cell v):Inv X (Zt++dB fp s.heap) σ H s:=
 I.pins_of fun p hp=>(zA6.mp hp).elim (fun z=>I.pin p (zBb _ z)) fun z=>by
  obtain⟨hb,e⟩:=nO z;obtain⟨f0,f1,f2,_⟩:=hf p.1 hb;obtain⟨o,e',d⟩:=ho p.1 hb;rw[e]at e';cases e';exact⟨e,f0,f1,f2,d⟩
theorem Inv.unpinned{Zt pl:List (Addr×Obj)}{σ:St}{H:Hp}{s:Shared}(I:Inv X (Zt++pl) σ H s):Inv X Zt σ H s:=I.pins_of fun p hp=>I.pin p (zBb _ (List.mem_append_left _ hp))
theorem fD{iter:Expr}{body:List Stmt}{wi:TI}{g:TG}{tb:TS}{pos:Pos}(hp:PassesOwn (model X.prog X.w) X.A X.env X.xe)(hc:X.calm=true)(hi:PI X tg iter wi)(hg:PG X tg g)(hb:PSs X body tb)
  (hs:∀x,foldedSetIterable iter X.env x=pure x:=by intro _;rfl):PS X (.For tg iter body [] pos) (Hn wi g tb):=by
 intro Zt s σ H D I h;refine wpAny_For (thn (hi Zt s σ H _ I h) fun v s1 h1=>thn h1 fun Bz s2 h2=>?_) hs;obtain⟨it,fp,tn,J,H2,e,I2,T,BA,f2,W,⟨m0,w0⟩,turn⟩:=h2;subst e
 have nh:∀{H':Hp},(∀b∈fp,H' b=none)->∀b∈fp,pB X Zt H' b:=fun hn b hb=>⟨hn b hb,(f2 b hb).2⟩
 refine codeAny_forLoop_any (fun n s'=>∃i ae H',Inv X Zt ae H' s'/\tn i s'.heap/\(∀b∈fp,H' b=none)/\W i n ae H') ?_ m0 ⟨0,σ,H2,I2,BA,fun b hb=>(f2 b hb).1,w0⟩;rintro n s3 ⟨i,gN,H3,I3,sD,lP,w3⟩;rcases turn i n gN H3 w3 with⟨stop,qn⟩|⟨go,N,hN,step⟩
 .refine wpAny_passesOwn hp (thn (T.done X rfl rfl rfl hc i Zt s3 gN H3 X.xe I3 (nh lP) sD stop) fun r s4 ⟨hr,I4⟩=>?_);subst hr;exact wpAny_execs_nil ⟨gN,H3,I4,qn⟩
 .refine wpAny_passesOwn hp (thn (T.item X rfl rfl rfl hc i Zt s3 gN H3 X.xe I3 (nh lP) sD go) fun r s4 ⟨u,hr,h4⟩=>?_);subst hr;refine wpAny_passesOwn hp (thn h4 fun _ s5 ⟨x,H5,I5,r5,y5,iS,lS⟩=>?_);have BB:=I5.pinned (nh lS) (T.obj _ _ iS);refine wpAny_passesOwn hp (thn (hg _ s5 gN H5 x u _ BB r5 (step x H5 y5)) fun _ s6 ⟨ke,H6,I6,q6⟩=>?_);refine wpAny_passesOwn hp (thn (hb _ s6 ke H6 _ I6 q6) fun f s7 q7=>?_)
  have again:∀{gS:St} {H7:Hp},Inv X (Zt++dB fp s5.heap) gS H7 s7->N gS H7->∃m,m<n/\∃i ae H',Inv X Zt ae H' s7/\tn i s7.heap/\(∀b∈fp,H' b=none)/\W i m ae H':=fun{gS H7} I7 n7=>by
   obtain⟨m',hm,w7⟩:=hN gS H7 n7;refine⟨m',hm,i+1,gS,H7,I7.unpinned,T.keep _ _ _ iS fun b hb o e=>(I7.pin (b,o) (zBb _ (zBb _ (fX hb e)))).1,fun b hb=>?_,w7⟩;obtain⟨o,e,d⟩:=T.obj _ _ iS b hb;exact(I7.pin (b,o) (zBb _ (zBb _ (fX hb e)))).2.1
  cases f with
  |next=>obtain⟨gS,H7,I7,n7⟩:=q7;exact again I7 n7
  |cont=>obtain⟨gS,H7,I7,n7⟩:=q7;exact again I7 n7
  |brk=>obtain⟨gS,H7,I7,q7⟩:=q7;exact⟨gS,H7,I7.unpinned,q7⟩
  |ret v=>obtain⟨x7,gS,H7,I7,r7,q7⟩:=q7;exact⟨x7,gS,H7,I7.unpinned,r7,q7⟩
end
theorem qY{K:Frag}{a:Addr}{xs:List V}{g:TG}{tb:TS}{D:Ends}{σ:St}{H:Hp}(Pv:Nat->St->Hp->Prop)(h0:Pv 0 σ H)(hl:∀i σ H,i<=xs.length->Pv i σ H->SqL K H a xs)
  (hs:∀i x σ H,xs[i]?=some x->Pv i σ H->g x σ H fun aT H2=>tb {D with nx:=Pv (i+1),ct:=Pv (i+1),bk:=D.nx} aT H2) (hd:∀σ H,Pv xs.length σ H->D.nx σ H):
  ∃W:Nat->Nat->St->Hp->Prop,(∃m,W 0 m σ H)/\∀i m σ H,W i m σ H->
   ((Itl K a).stop i H/\D.nx σ H)\/((Itl K a).go i H/\∃N:St->Hp->Prop,(∀ae H',N ae H'->∃m',m'<m/\W (i+1) m' ae H')/\∀x H',(Itl K a).yld i H x H'->g x σ H' fun aT H2=>tb {D with nx:=N,ct:=N,bk:=D.nx} aT H2):=by
 refine⟨fun i m σ H=>m=xs.length-i/\i<=xs.length/\Pv i σ H,⟨xs.length,by simp,Nat.zero_le _,h0⟩,?_⟩;rintro i m σ H ⟨rfl,hi,p⟩;have q:=hl i σ H hi p;by_cases av:i<xs.length
 .refine .inr ⟨⟨xs,xs[i],q,by simp[av]⟩,Pv (i+1),fun ae H' p'=>⟨xs.length-(i+1),Zz,rfl,av,p'⟩,fun x H' y=>?_⟩;obtain⟨e,y⟩:=y;subst e;exact hs i x σ _ (y xs q) p
 .have e:i=xs.length:=Zz
  subst e;exact .inl ⟨⟨xs,q,zA3 _⟩,hd σ H p⟩
theorem Be{K:Frag}{a:Addr}{xs:List V}{g:TG}{tb:TS}{D:Ends}{σ:St}{H:Hp}(Pv:Nat->St->Hp->Prop)(h0:Pv 0 σ H)(hl:∀i σ H,i<=xs.length->Pv i σ H->SqT K H a xs)
  (hs:∀i x σ H,xs[i]?=some x->Pv i σ H->g x σ H fun aT H2=>tb {D with nx:=Pv (i+1),ct:=Pv (i+1),bk:=D.nx} aT H2) (hd:∀σ H,Pv xs.length σ H->D.nx σ H):
  ∃W:Nat->Nat->St->Hp->Prop,(∃m,W 0 m σ H)/\∀i m σ H,W i m σ H->
   ((Itt K a).stop i H/\D.nx σ H)\/((Itt K a).go i H/\∃N:St->Hp->Prop,(∀ae H',N ae H'->∃m',m'<m/\W (i+1) m' ae H')/\∀x H',(Itt K a).yld i H x H'->g x σ H' fun aT H2=>tb {D with nx:=N,ct:=N,bk:=D.nx} aT H2):=by
 refine⟨fun i m σ H=>m=xs.length-i/\i<=xs.length/\Pv i σ H,⟨xs.length,by simp,Nat.zero_le _,h0⟩,?_⟩;rintro i m σ H ⟨rfl,hi,p⟩;have q:=hl i σ H hi p;by_cases av:i<xs.length
 .refine .inr ⟨⟨xs,xs[i],q,by simp[av]⟩,Pv (i+1),fun ae H' p'=>⟨xs.length-(i+1),Zz,rfl,av,p'⟩,fun x H' y=>?_⟩;obtain⟨e,y⟩:=y;subst e;exact hs i x σ _ (y xs q) p
 .have e:i=xs.length:=Zz
  subst e;exact .inl ⟨⟨xs,q,zA3 _⟩,hd σ H p⟩
theorem fP{lo:Int}{n:Nat}{g:TG}{tb:TS}{D:Ends}{σ:St}{H:Hp}(Pv:Nat->St->Hp->Prop)(h0:Pv 0 σ H)
  (hs:∀i σ H,i<n->Pv i σ H->g (.int (lo+i)) σ H fun aT H2=>tb {D with nx:=Pv (i+1),ct:=Pv (i+1),bk:=D.nx} aT H2) (hd:∀σ H,Pv n σ H->D.nx σ H):
  ∃W:Nat->Nat->St->Hp->Prop,(∃m,W 0 m σ H)/\∀i m σ H,W i m σ H->
   ((Itr lo n).stop i H/\D.nx σ H)\/((Itr lo n).go i H/\∃N:St->Hp->Prop,(∀ae H',N ae H'->∃m',m'<m/\W (i+1) m' ae H')/\∀x H',(Itr lo n).yld i H x H'->g x σ H' fun aT H2=>tb {D with nx:=N,ct:=N,bk:=D.nx} aT H2):=by
 refine⟨fun i m σ H=>m=n-i/\i<=n/\Pv i σ H,⟨n,by simp,Nat.zero_le _,h0⟩,?_⟩;rintro i m σ H ⟨rfl,hi,p⟩;by_cases av:i<n
 .refine .inr ⟨av,Pv (i+1),fun ae H' p'=>⟨n-(i+1),Zz,rfl,av,p'⟩,fun x H' y=>?_⟩;obtain⟨e,y⟩:=y;subst e y;exact hs i σ _ av p
 .have e:i=n:=Zz
  subst e;exact .inl ⟨zA3 _,hd σ H p⟩
abbrev R2:=V->V->Hp->VK->Prop
def OpR(X:Cx)(f:Value->Value->Sem Value)(r:R2):Prop:=
 ∀(Zt:List (Addr×Obj)) (s:Shared) (σ:St) (H:Hp) (x y:V) (v u:Value) (Q:VK),Inv X Zt σ H s->RelV x v->RelV y u->r x y H Q->
  wpAny (model X.prog X.w) X.A (f v u) (EP X Zt σ Q) X.xe s
def UnR(X:Cx)(f:Value->Sem Value)(r:V->Hp->VK->Prop):Prop:=
 ∀(Zt:List (Addr×Obj)) (s:Shared) (σ:St) (H:Hp) (x:V) (v:Value) (Q:VK),Inv X Zt σ H s->RelV x v->r x H Q->
  wpAny (model X.prog X.w) X.A (f v) (EP X Zt σ Q) X.xe s
def gF(X:Cx)(f:Value)(r:List V->Hp->VK->Prop):Prop:=
 ∀(Zt:List (Addr×Obj)) (s:Shared) (σ:St) (H:Hp) (xs:List V) (us:List Value) (Q:VK),Inv X Zt σ H s->Vals xs us->r xs H Q->
  wpAny (model X.prog X.w) X.A (call f us) (EP X Zt σ Q) X.xe s
def tOp(r:R2)(ta tb:TE):TE:=fun σ H Q=>ta σ H fun x H1=>tb σ H1 fun y H2=>r x y H2 Q
def tUn(r:V->Hp->VK->Prop)(ta:TE):TE:=fun σ H Q=>ta σ H fun x H1=>r x H1 Q
inductive RII(C:Int->Int->Prop)(g:Int->Int->V)(x:V)(y:V)(H:Hp)(Q:VK):Prop
 |mk:∀i j,(x=.int i)->(y=.int j)->(C i j)->(Q (g i j) H)->RII C g x y H Q
def rI(C:Int->Int->Prop)(g:Int->Int->V):R2:=fun x y H Q=>RII C g x y H Q
inductive RI0I(g:Int->Int->V)(x:V)(y:V)(H:Hp)(Q:VK):Prop
 |mk:∀i j,(x=.int i)->(y=.int j)->(Q (g i j) H)->RI0I g x y H Q
def rI0(g:Int->Int->V):R2:=fun x y H Q=>RI0I g x y H Q
inductive RUI(g:Int->V)(x:V)(H:Hp)(Q:VK):Prop
 |mk:∀i,(x=.int i)->(Q (g i) H)->RUI g x H Q
def rU(g:Int->V):V->Hp->VK->Prop:=fun x H Q=>RUI g x H Q
section
variable{X:Cx}{a b c:Expr}{ta tb tc:TE}{pos:Pos}
theorem Ec(ha:PE X a ta)(hb:PE X b tb){Zt:List (Addr×Obj)}{s:Shared}{σ:St}{H:Hp}{R:V->V->Hp->Prop}(I:Inv X Zt σ H s)
  (h:ta σ H fun x H1=>tb σ H1 fun y H2=>R x y H2) {Q:Value->Shared->Prop} {f:Value->Value->Sem Value}
  (hf:∀v u s2 x y H2,Inv X Zt σ H2 s2->RelV x v->RelV y u->R x y H2->wpAny (model X.prog X.w) X.A (f v u) Q X.xe s2):
  wpAny (model X.prog X.w) X.A (eval a X.env) (fun v s₁=>wpAny (model X.prog X.w) X.A (eval b X.env) (fun u s₂=>wpAny (model X.prog X.w) X.A (f v u) Q X.xe s₂) X.xe s₁) X.xe s:=by
 refine thn (ha Zt s σ H _ I h) fun v s1 ⟨x,H1,I1,r1,q1⟩=>?_;refine thn (hb Zt s1 σ H1 _ I1 q1) fun u s2 ⟨y,H2,I2,r2,q2⟩=>?_;exact hf v u s2 x y H2 I2 r1 r2 q2
theorem aX{op:Operator}{r:R2}(ho:OpR X (binaryOp op) r)(ha:PE X a ta)(hb:PE X b tb):PE X (.BinOp a op b pos) (tOp r ta tb):=by
 intro Zt s σ H Q I h;exact wpAny_BinOp (Ec ha hb I h fun v u s2 x y H2 I2 rx ry q=>ho Zt s2 σ H2 x y v u Q I2 rx ry q)
theorem qZ{op:UnaryOp}{r:V->Hp->VK->Prop}(ho:UnR X (unaryOp op) r)(ha:PE X a ta):PE X (.UnaryOp op a pos) (tUn r ta):=by
 intro Zt s σ H Q I h;exact UnaryOp_ (thn (ha Zt s σ H _ I h) fun v s1 ⟨x,H1,I1,r1,q1⟩=>ho Zt s1 σ H1 x v Q I1 r1 q1)
theorem opI{f:Value->Value->Sem Value}{C:Int->Int->Prop}{g:Int->Int->Int}
  (rule:∀(i j:Int) (t u:Tok) (s:Shared) (Q:Value->Shared->Prop) (E:Value->Shared->Prop),C i j->Q (.int (g i j) s.toks) {s with toks:=s.toks+1}->wpAny (model X.prog X.w) X.A (f (.int i t) (.int j u)) Q E s):
  OpR X f (rI C fun i j=>.int (g i j)):=by
 intro Zt s σ H x y v u Q I rx ry h;obtain⟨i,j,rfl,rfl,hc,q⟩:=h;obtain⟨t,rfl⟩:=rx;obtain⟨t',rfl⟩:=ry;exact rule i j t t' s _ _ hc ⟨.int (g i j),H,I.tok _,⟨_,rfl⟩,q⟩
theorem Gg{f:Value->Value->Sem Value}{g:Int->Int->Int}
  (rule:∀(i j:Int) (t u:Tok) (s:Shared) (Q:Value->Shared->Prop) (E:Value->Shared->Prop),Q (.int (g i j) s.toks) {s with toks:=s.toks+1}->wpAny (model X.prog X.w) X.A (f (.int i t) (.int j u)) Q E s):
  OpR X f (rI0 fun i j=>.int (g i j)):=by
 intro Zt s σ H x y v u Q I rx ry h;obtain⟨i,j,rfl,rfl,q⟩:=h;obtain⟨t,rfl⟩:=rx;obtain⟨t',rfl⟩:=ry;exact rule i j t t' s _ _ ⟨.int (g i j),H,I.tok _,⟨_,rfl⟩,q⟩
theorem Bf{f:Value->Value->Sem Value}{g:Int->Int->Bool}
  (rule:∀(i j:Int) (t u:Tok) (s:Shared) (Q:Value->Shared->Prop) (E:Value->Shared->Prop),Q (.bool (g i j)) s->wpAny (model X.prog X.w) X.A (f (.int i t) (.int j u)) Q E s):
  OpR X f (rI0 fun i j=>.bl (g i j)):=by
 intro Zt s σ H x y v u Q I rx ry h;obtain⟨i,j,rfl,rfl,q⟩:=h;obtain⟨t,rfl⟩:=rx;obtain⟨t',rfl⟩:=ry;exact rule i j t t' s _ _ ⟨.bl (g i j),H,I,rfl,q⟩
def Ho(i j:Int):Prop:=0<j/\j<1073741824
def yF(i j:Int):Prop:=0<=j/\j<=1000000/\i.natAbs<2^64
def CMul(i j:Int):Prop:=(-(2^64)<i/\i<2^64)\/(-(2^64)<j/\j<2^64)
theorem CMul.ok{i j:Int}(h:CMul i j):IntMulOk i j:=by
 rcases h with⟨h1,h2⟩|⟨h1,h2⟩
 .exact .of_left (intBits_le_64 h1 h2)
 .exact .of_right (intBits_le_64 h1 h2)
theorem dg:OpR X (binaryOp .Add) (rI0 fun i j=>.int (i+j)):=Gg fun _ _ _ _ _ _ _ q=>add_int q
theorem pC:OpR X (binaryOp .Sub) (rI0 fun i j=>.int (i-j)):=Gg fun _ _ _ _ _ _ _ q=>sub_int q
theorem lE:OpR X (binaryOp .Mult) (rI CMul fun i j=>.int (i*j)):=opI fun _ _ _ _ _ _ _ hc q=>mul_int q hc.ok
theorem vm:OpR X (binaryOp .FloorDiv) (rI Ho fun i j=>.int (i / j)):=opI fun i j _ _ _ _ _ hc q=>by
 have h1:(0:Int)<j:=hc.1;have h2:j<1073741824:=hc.2;exact floordiv_int Zz (by rw[Int.fdiv_eq_ediv_of_nonneg i Zz];exact q) (.inl (PyProof.noPylong_small Zz))
theorem gM:OpR X (binaryOp .Mod) (rI (fun _ j=>0<j) fun i j=>.int (i % j)):=opI fun i j _ _ _ _ _ hc q=>by
 have h1:(0:Int)<j:=hc;exact mod_int' Zz (by rw[Int.fmod_eq_emod_of_nonneg i Zz];exact q)
theorem jE:OpR X (binaryOp .Pow) (rI yF fun i j=>.int (i^j.toNat)):=opI fun _ _ _ _ _ _ _ hc q=>pow_int_small hc.1 hc.2.1 hc.2.2 q
theorem unI{f:Value->Sem Value}{g:Int->Int}
  (rule:∀(i:Int) (t:Tok) (s:Shared) (Q:Value->Shared->Prop) (E:Value->Shared->Prop),Q (.int (g i) s.toks) {s with toks:=s.toks+1}->wpAny (model X.prog X.w) X.A (f (.int i t)) Q E s):
  UnR X f (rU fun i=>.int (g i)):=by
 intro Zt s σ H x v Q I rx h;obtain⟨i,rfl,q⟩:=h;obtain⟨t,rfl⟩:=rx;exact rule i t s _ _ ⟨.int (g i),H,I.tok _,⟨_,rfl⟩,q⟩
theorem lF:UnR X (unaryOp .USub) (rU fun i=>.int (-i)):=unI fun _ _ _ _ _ q=>neg_int q
end
def Gh:V->V->Bool
 |.non,.non=>true|.non,.int _=>true|.int _,.non=>true|.non,.bl _=>true|.bl _,.non=>true|.non,.str _=>true|.str _,.non=>true
 |.int _,.int _=>true|.bl _,.bl _=>true|.str _,.str _=>true|.byt _,.byt _=>true
 |.int _,.str _=>true|.str _,.int _=>true|.bl _,.str _=>true|.str _,.bl _=>true
 |_,_=>false
def rEq:R2:=fun x y H Q=>Gh x y=true/\Q (.bl (decide (x=y))) H
def rNe:R2:=fun x y H Q=>Gh x y=true/\Q (.bl (!decide (x=y))) H
theorem vo{i j:Int}:decide (V.int i=V.int j)=(i==j):=by
 rw[Bool.eq_iff_iff];simp
theorem yG{i j:Bool}:decide (V.bl i=V.bl j)=(i==j):=by
 rw[Bool.eq_iff_iff];simp
theorem vp{i j:Str}:decide (V.str i=V.str j)=(i==j):=by
 rw[Bool.eq_iff_iff];simp
theorem vq{i j:Array UInt8}:decide (V.byt i=V.byt j)=(i.toList==j.toList):=by
 rw[Bool.eq_iff_iff];cases i;cases j;simp
section
variable{X:Cx}{a b c:Expr}{ta tb tc:TE}{pos:Pos}
theorem bx{Zt:List (Addr×Obj)}{σ:St}{H:Hp}{s:Shared}{Q:VK}{k k':Bool}(I:Inv X Zt σ H s)(q:Q (.bl k) H)(e:k=k'):EP X Zt σ Q (.bool k') s:=by
 subst e;exact⟨.bl k,H,I,rfl,q⟩
theorem dq:OpR X (compareOp .Eq) rEq:=by
 intro Zt s σ H x y v u Q I rx ry h;obtain⟨hs,q⟩:=h
 cases x with
 |non=>
  cases rx
  cases y with
  |non=>cases ry;exact PySem.EqNone.eq_none_none (bx I q Zy)
  |bl j=>cases ry;exact PySem.EqNone.eq_none_bool (bx I q Zy)
  |int j=>obtain⟨t',rfl⟩:=ry;exact PySem.EqNone.eq_none_int (bx I q Zy)
  |str j=>obtain⟨t',rfl⟩:=ry;exact PySem.EqNone.eq_none_str (bx I q Zy)
  |_=>exact absurd (show false=true from hs) zAg
 |bl i=>
  cases rx
  cases y with
  |non=>cases ry;exact PySem.EqNone.eq_bool_none (bx I q Zy)
  |bl j=>cases ry;exact eq_bool (bx I q yG)
  |str j=>obtain⟨t',rfl⟩:=ry;exact PySem.EqMixed.eq_bool_str (bx I q Zy)
  |_=>exact absurd (show false=true from hs) zAg
 |int i=>
  obtain⟨t,rfl⟩:=rx
  cases y with
  |non=>cases ry;exact PySem.EqNone.eq_int_none (bx I q Zy)
  |int j=>obtain⟨t',rfl⟩:=ry;exact eq_int (bx I q vo)
  |str j=>obtain⟨t',rfl⟩:=ry;exact PySem.EqMixed.eq_int_str (bx I q Zy)
  |_=>exact absurd (show false=true from hs) zAg
 |str i=>
  obtain⟨t,rfl⟩:=rx
  cases y with
  |non=>cases ry;exact PySem.EqNone.eq_str_none (bx I q Zy)
  |bl j=>cases ry;exact PySem.EqMixed.eq_str_bool (bx I q Zy)
  |int j=>obtain⟨t',rfl⟩:=ry;exact PySem.EqMixed.eq_str_int (bx I q Zy)
  |str j=>obtain⟨t',rfl⟩:=ry;exact eq_str (bx I q vp)
  |_=>exact absurd (show false=true from hs) zAg
 |byt i=>
  obtain⟨t,rfl⟩:=rx
  cases y with
  |byt j=>obtain⟨t',rfl⟩:=ry;exact PySem.W.eq_bytes (bx I q vq)
  |_=>exact absurd (show false=true from hs) zAg
 |_=>cases y<;>exact absurd (show false=true from hs) zAg
theorem rm:OpR X (compareOp .NotEq) rNe:=by
 intro Zt s σ H x y v u Q I rx ry h;obtain⟨hs,q⟩:=h
 cases x with
 |non=>
  cases rx
  cases y with
  |non=>cases ry;exact PySem.EqNone.ne_none_none (bx I q Zy)
  |bl j=>cases ry;exact PySem.EqNone.ne_none_bool (bx I q Zy)
  |int j=>obtain⟨t',rfl⟩:=ry;exact PySem.EqNone.ne_none_int (bx I q Zy)
  |str j=>obtain⟨t',rfl⟩:=ry;exact PySem.EqNone.ne_none_str (bx I q Zy)
  |_=>exact absurd (show false=true from hs) zAg
 |bl i=>
  cases rx
  cases y with
  |non=>cases ry;exact PySem.EqNone.ne_bool_none (bx I q Zy)
  |bl j=>cases ry;exact ne_bool (bx I q (congrArg not yG))
  |str j=>obtain⟨t',rfl⟩:=ry;exact PySem.EqMixed.ne_bool_str (bx I q Zy)
  |_=>exact absurd (show false=true from hs) zAg
 |int i=>
  obtain⟨t,rfl⟩:=rx
  cases y with
  |non=>cases ry;exact PySem.EqNone.ne_int_none (bx I q Zy)
  |int j=>obtain⟨t',rfl⟩:=ry;exact ne_int (bx I q (congrArg not vo))
  |str j=>obtain⟨t',rfl⟩:=ry;exact PySem.EqMixed.ne_int_str (bx I q Zy)
  |_=>exact absurd (show false=true from hs) zAg
 |str i=>
  obtain⟨t,rfl⟩:=rx
  cases y with
  |non=>cases ry;exact PySem.EqNone.ne_str_none (bx I q Zy)
  |bl j=>cases ry;exact PySem.EqMixed.ne_str_bool (bx I q Zy)
  |int j=>obtain⟨t',rfl⟩:=ry;exact PySem.EqMixed.ne_str_int (bx I q Zy)
  |str j=>obtain⟨t',rfl⟩:=ry;exact ne_str (bx I q (congrArg not vp))
  |_=>exact absurd (show false=true from hs) zAg
 |byt i=>
  obtain⟨t,rfl⟩:=rx
  cases y with
  |byt j=>obtain⟨t',rfl⟩:=ry;exact PySem.W.ne_bytes (bx I q (congrArg not vq))
  |_=>exact absurd (show false=true from hs) zAg
 |_=>cases y<;>exact absurd (show false=true from hs) zAg
theorem lG:OpR X (compareOp .Lt) (rI0 fun i j=>.bl (decide (i<j))):=Bf fun _ _ _ _ _ _ _ q=>lt_int q
theorem bC:OpR X (compareOp .LtE) (rI0 fun i j=>.bl (decide (i<=j))):=Bf fun _ _ _ _ _ _ _ q=>le_int q
theorem Dk:OpR X (compareOp .Gt) (rI0 fun i j=>.bl (decide (j<i))):=Bf fun _ _ _ _ _ _ _ q=>gt_int q
theorem rA:OpR X (compareOp .GtE) (rI0 fun i j=>.bl (decide (j<=i))):=Bf fun _ _ _ _ _ _ _ q=>ge_int q
theorem Ed:OpR X (compareOp .Is) (fun x y H Q=>y=.non/\Q (.bl (decide (x=.non))) H):=by
 intro Zt s σ H x y v u Q I rx ry h;obtain⟨rfl,q⟩:=h;cases ry;refine is_none_gen (bx I q ?_)
 cases x<;>first
  | (cases rx;rfl)
  | (obtain⟨t,rfl⟩:=rx;rfl)
theorem vz:OpR X (compareOp .IsNot) (fun x y H Q=>y=.non/\Q (.bl (!decide (x=.non))) H):=by
 intro Zt s σ H x y v u Q I rx ry h;obtain⟨rfl,q⟩:=h;cases ry;refine isnot_none_gen (bx I q ?_)
 cases x<;>first
  | (cases rx;rfl)
  | (obtain⟨t,rfl⟩:=rx;rfl)
theorem aV(b:Expr){op:CmpOp}(h:op≠.In:=by decide)(h2:op≠.NotIn:=by decide):behindInMarks op b=false:=by
 have e1:(op==CmpOp.In)=false:=by cases op<;>first|rfl|exact absurd rfl h
 have e2:(op==CmpOp.NotIn)=false:=by cases op<;>first|rfl|exact absurd rfl h2
 cases b<;>simp[behindInMarks,e1,e2]
theorem fY{op:CmpOp}{r:R2}(ho:OpR X (compareOp op) r)(ha:PE X a ta)(hb:PE X b tb)(hm:behindInMarks op b=false):PE X (.Compare a [op] [b] pos) (tOp r ta tb):=by
 intro Zt s σ H Q I h;exact wpAny_Compare1 (Ec ha hb I h fun v u s2 x y H2 I2 rx ry q=>ho Zt s2 σ H2 x y v u Q I2 rx ry q) hm
def yH(t:TE):TT:=fun σ H Q=>t σ H fun x H'=>∃k,x=.bl k/\Q k H'
theorem aU{op:CmpOp}{r:R2}(ho:OpR X (compareOp op) r)(ha:PE X a ta)(hb:PE X b tb)(hm:behindInMarks op b=false):PT X (.Compare a [op] [b] pos) (yH (tOp r ta tb)):=by
 intro Zt s σ H Q I h
 refine wpAny_isTrue_Compare1 (thn (ha Zt s σ H _ I h) fun v s1 ⟨x,H1,I1,r1,q1⟩=>thn (hb Zt s1 σ H1 _ I1 q1) fun u s2 ⟨y,H2,I2,r2,q2⟩=>
  thn (ho Zt s2 σ H2 x y v u _ I2 r1 r2 q2) fun c s3 ⟨z,H3,I3,r3,k,e,q3⟩=>?_) hm
 subst e;cases r3;exact wpAny_truthy_bool ⟨H3,I3,q3⟩
def ur(r r':R2)(ta tb tc:TE):TE:=fun σ H Q=>ta σ H fun x H1=>tb σ H1 fun y H2=>r x y H2 fun z H3=>∃k,z=.bl k /\
 (if k=true then tc σ H3 fun w' H4=>r' y w' H4 Q else Q (.bl false) H3)
theorem cg{op nk:CmpOp}{r r':R2}(ho:OpR X (compareOp op) r)(gc:OpR X (compareOp nk) r')(ha:PE X a ta)(hb:PE X b tb)(hc:PE X c tc)
  (hm:lastMarks [op,nk] [b,c]=false:=by with_unfolding_all rfl):PE X (.Compare a [op,nk] [b,c] pos) (ur r r' ta tb tc):=by
 intro Zt s σ H Q I h
 refine Compare_chain (thn (ha Zt s σ H _ I h) fun v s1 ⟨x,H1,I1,r1,q1⟩=>chain_link (thn (hb Zt s1 σ H1 _ I1 q1) fun u s2 ⟨y,H2,I2,r2,q2⟩=>
  thn (ho Zt s2 σ H2 x y v u _ I2 r1 r2 q2) fun d s3 ⟨z,H3,I3,r3,k,e,q3⟩=>?_)) hm
 subst e;cases r3;refine wpAny_truthy_bool ?_
 cases k with
 |false=>exact ite_ff ⟨.bl false,H3,I3,rfl,q3⟩
 |true=>exact ite_tt (chain_last (thn (hc Zt s3 σ H3 _ I3 q3) fun w' s4 ⟨z',H4,I4,r4,q4⟩=>gc Zt s4 σ H4 y z' u w' Q I4 r2 r4 q4))
theorem eO{op nk:CmpOp}{r r':R2}(ho:OpR X (compareOp op) r)(gc:OpR X (compareOp nk) r')(ha:PE X a ta)(hb:PE X b tb)(hc:PE X c tc)
  (hm:lastMarks [op,nk] [b,c]=false:=by with_unfolding_all rfl):PT X (.Compare a [op,nk] [b,c] pos) (yH (ur r r' ta tb tc)):=by
 intro Zt s σ H Q I h
 refine isTrue_chain (thn (ha Zt s σ H _ I h) fun v s1 ⟨x,H1,I1,r1,q1⟩=>test_link (thn (hb Zt s1 σ H1 _ I1 q1) fun u s2 ⟨y,H2,I2,r2,q2⟩=>
  thn (ho Zt s2 σ H2 x y v u _ I2 r1 r2 q2) fun d s3 ⟨z,H3,I3,r3,k,e,q3⟩=>?_)) hm
 subst e;cases r3;refine wpAny_truthy_bool ?_
 cases k with
 |false=>
  obtain⟨k',e',q'⟩:=q3;cases e';exact ite_ff ⟨H3,I3,q'⟩
 |true=>
  refine ite_tt (test_last (thn (hc Zt s3 σ H3 _ I3 q3) fun w' s4 ⟨z',H4,I4,r4,q4⟩=>thn (gc Zt s4 σ H4 y z' u w' _ I4 r2 r4 q4) fun d' s5 ⟨z2,H5,I5,r5,k2,e2,q5⟩=>?_));subst e2;cases r5;exact wpAny_truthy_bool ⟨H5,I5,q5⟩
theorem jF:(sizeLine:Nat)<2^63:=by rw[sizeLine_eq];decide
theorem vals1{x:V}{us:List Value}(r:Vals [x] us):∃u,us=[u]/\RelV x u:=by
 cases r with
 |cons r1 r2=>cases r2;exact⟨_,rfl,r1⟩
theorem vals2{x y:V}{us:List Value}(r:Vals [x,y] us):∃u w',us=[u,w']/\RelV x u/\RelV y w':=by
 cases r with
 |cons r1 r2=>
  cases r2 with
  |cons r3 r4=>cases r4;exact⟨_,_,rfl,r1,r3⟩
theorem wV(hc:X.calm=true):gF X (.builtin "max") (fun xs H Q=>∃i j,xs=[.int i,.int j]/\Q (.int (if j>i then j else i)) H):=by
 intro Zt s σ H xs us Q I r h;obtain⟨i,j,rfl,q⟩:=h;obtain⟨u,w',rfl,⟨t,rfl⟩,⟨t',rfl⟩⟩:=vals2 r
 refine max_two_ints (I.ok.hd hc) fun h' tk k=>⟨_,H,I.kept k,?_,q⟩
 by_cases hj:j>i
 .rw[zAx hj,zAx hj];exact⟨_,rfl⟩
 .rw[zAw hj,zAw hj];exact⟨_,rfl⟩
theorem wW(hc:X.calm=true):gF X (.builtin "min") (fun xs H Q=>∃i j,xs=[.int i,.int j]/\Q (.int (if j<i then j else i)) H):=by
 intro Zt s σ H xs us Q I r h;obtain⟨i,j,rfl,q⟩:=h;obtain⟨u,w',rfl,⟨t,rfl⟩,⟨t',rfl⟩⟩:=vals2 r
 refine min_two_ints (I.ok.hd hc) fun h' tk k=>⟨_,H,I.kept k,?_,q⟩
 by_cases hj:j<i
 .rw[zAx hj,zAx hj];exact⟨_,rfl⟩
 .rw[zAw hj,zAw hj];exact⟨_,rfl⟩
end
structure ObjM(h:Heap)(x dx C:Addr)(mA:Str->Option Value):Prop where
 obj:h.get? x=some (PySem.W.instObj C dx)
 ns:h.Ns1 dx mA
 ne:dx≠x
theorem nP{h:Heap}{dx:Addr}{mA:Str->Option Value}(n:h.Ns1 dx mA):∃od,h.get? dx=some od/\∀name,PySem.W.lookIn name od=some (mA name):=by
 obtain⟨o,es,ep,ho,hd,hk,_,hm⟩:=n;refine⟨o,ho,fun name=>?_⟩;have e:=hm name;unfold nsFind findBy at e;rw[<-Array.find?_toList]at e;unfold PySem.W.lookIn;rw[hd];dsimp only;split
 .rename_i y q
  rw[q]at e;exact congrArg some e
 .rename_i q
  rw[q]at e
  have a:es.toList.any (·.refKey)=false:=by
   rw[List.any_eq_false];intro y hy;obtain⟨z,t,BC⟩:=hk y (Array.mem_toList_iff.mp hy);simp[DictEntry.refKey,BC]
  have a':¬es.toList.any (·.refKey)=true:=by rw[a];exact zAg
  rw[zAw a'];exact congrArg some e
theorem ObjM.look{h:Heap}{x dx C:Addr}{mA:Str->Option Value}(I:ObjM h x dx C mA):∃od,PySem.W.InstAt h x (PySem.W.instObj C dx) C (some od)/\∀name,PySem.W.lookIn name od=some (mA name):=
 let⟨od,ho,hl⟩:=nP I.ns
 ⟨od,⟨I.obj,rfl,rfl,ho⟩,hl⟩
section
variable{prog:Program}{w:World}{A:Around}{E:Value->Shared->Prop}{s:Shared}{K:Frag}{x dx C f:Addr}{mA:Str->Option Value}{name:Str}{v:Value}
theorem jd{expr:Bool}{Q:Value->Shared->Prop}(X:K.In s.heap)(I:ObjM s.heap x dx C mA)(hg:PySem.W.plainGet K C name=true)(hh:PySem.W.hasDictIn K C=true)
  (ha:PySem.W.findIn K (.ref C) name=some none) (hv:mA name=some v) (BD:PySem.W.handedIn v=true) (h:Q v {s with toks:=s.toks+1}):
  wpAny (model prog w) A (getAttr (.ref x) name expr) Q E s:=by
 obtain⟨od,J,hl⟩:=I.look;exact PySem.W.get_value X J (PySem.W.plainGet_of hg).1 (PySem.W.findObj_own hh ha rfl (by rw[hl,hv])) BD h
theorem yI{pl:Sem Bool}{Q:Value×List Value->Shared->Prop}(X:K.In s.heap)(I:ObjM s.heap x dx C mA)(hg:PySem.W.plainGet K C name=true)
  (hf:PySem.W.findIn K (.ref C) name=some (some (.ref f))) (ht:PySem.W.isFn K (.ref f)=true) (hv:mA name=none) (h:Q (.ref f,[.ref x]) s):
  wpAny (model prog w) A (getMethod (.ref x) name pl) Q E s:=by
 obtain⟨od,J,hl⟩:=I.look;exact PySem.W.method_fn X J (PySem.W.plainGet_of hg).1 (PySem.W.plainGet_of hg).2 hf (beq_iff_eq.mp ht) (by show(PySem.W.lookIn name od).map (·.isSome)=some false;rw[hl,hv];rfl) h
theorem je{ns:List Str}{Q:Unit->Shared->Prop}(X:K.In s.heap)(I:ObjM s.heap x dx C mA)
  (hs:PySem.W.findIn K (.ref C) "__setattr__"=some (some (.builtin "object.__setattr__"))) (hp:PySem.W.plainOver K C=true) (ht:PySem.W.takerIn K C name=some none) (hh:PySem.W.hasDictIn K C=true)
  (hw:PySem.Within mA ns) (hsz:ns.length<=sizeLine)
  (h:∀h',ObjM h' x dx C (fun y=>if y=name then some v else mA y)->Heap.SameBut dx s.heap h'->Q () {s with heap:=h',toks:=s.toks+2}):
  wpAny (model prog w) A (setAttr (.ref x) name v) Q E s:=by
 obtain⟨od,J,hl⟩:=I.look;refine PySem.W.set_plain X J hs (PySem.W.osa_open (s:={s with toks:=s.toks+1}) (r:=none) X J hp ht fun b=>?_);obtain⟨cd,hc,si⟩:=PySem.W.any_some hh;have hx:s.heap.get? x=some ⟨.ref C,some dx,.plain,#[]⟩:=I.obj;refine zAt (zAz (zAt (zAt (wpAny_loadPart hx (zAt (PySem.W.Looks.here (s:={s with toks:=s.toks+1}) (PySem.W.looks_clsIn X hc) ?_))))));rw[si];refine zAz (a:=some dx) (zAt (zAz (zAt ?_)));refine wpAny_nsSet1 (s:={s with toks:=s.toks+1}) I.ns fun h' zt dS=>?_;obtain⟨oD,Iz,IA,qo,sL,sM⟩:=zt.count (PySem.Within.cons name v hw);refine zAt (wpAny_lookBehind qo (by rw[sL];exact pastItsLine_dict (Nat.le_trans sM (by rw[zAe];lia))) ?_);exact zAz (h _ ⟨(dS.2 _ (Ne.symm I.ne)).trans I.obj,zt,I.ne⟩ dS)
theorem yJ{R:Result->Shared->Prop}{vs:List Value}{kw:List (Str×Value)}(X:K.In s.heap)(hm:PySem.W.makesIn K C=true)
  (hi:PySem.W.findIn K (.ref C) "__init__"=some (some (.ref f))) (hf:PySem.W.typeIn K (.ref f)=some (.type "function"))
  (h:codeAny (model prog w) (A.under (.builtin "type.__call__" ⟨.ref C::vs,kw⟩)) (.call (.ref f) ⟨.ref (s.heap.objs.size+1)::vs,kw⟩) (PySem.W.InitBack (s.heap.objs.size+1) R)
   {s with heap:=(s.heap.push PySem.W.emptyDict).push (PySem.W.instObj C s.heap.objs.size)}):
  codeAny (model prog w) A (.call (.ref C) ⟨vs,kw⟩) R s:=by
 obtain⟨hh,g,d,t,os⟩:=s;exact PySem.W.make_core (PySem.W.makes_of X hm) (PySem.W.looks_findIn X hi) (fun self=>PySem.W.bind_fn X self hf) (.inl rfl) h
end
def iK(f:Str)(v:V):List (Str×V)->List (Str×V)
 |[]=>[(f,v)]
 | (g,x)::r=>if g=f then(g,v)::r else(g,x)::iK f v r
theorem jY(f g:Str)(v:V):∀fs:List (Str×V),(iK f v fs).lookup g=if g=f then some v else fs.lookup g
 |[]=>by
  show List.lookup g [(f,v)]=_;by_cases h:g=f
  .have hb:(g==f)=true:=beq_iff_eq.mpr h;simp only[List.lookup,hb,if_pos h]
  .have hb:(g==f)=false:=beq_eq_false_iff_ne.mpr h;simp only[List.lookup,hb,if_neg h]
 | (k,x)::r=>by
  have ih:=jY f g v r;rw[show iK f v ((k,x)::r)=(if k=f then(k,v)::r else(k,x)::iK f v r)from rfl];by_cases hk:k=f
  .rw[zAx hk];by_cases h:g=k
   .have hb:(g==k)=true:=beq_iff_eq.mpr h;simp only[List.lookup,hb,if_pos (h.trans hk)]
   .have hb:(g==k)=false:=beq_eq_false_iff_ne.mpr h;simp only[List.lookup,hb,if_neg (fun e:g=f=>h (e.trans hk.symm))]
  .rw[zAw hk];by_cases h:g=k
   .have hb:(g==k)=true:=beq_iff_eq.mpr h;simp only[List.lookup,hb,if_neg (fun e:g=f=>hk (h.symm.trans e))]
   .have hb:(g==k)=false:=beq_eq_false_iff_ne.mpr h;simp only[List.lookup,hb];exact ih
theorem jG(f:Str)(v:V):∀fs:List (Str×V),f∈(iK f v fs).map (·.1)/\∀g,g∈fs.map (·.1)->g∈(iK f v fs).map (·.1)
 |[]=>⟨by simp[iK],fun g h=>by simp at h⟩
 | (k,x)::r=>by
  obtain⟨i1,i2⟩:=jG f v r;rw[show iK f v ((k,x)::r)=(if k=f then(k,v)::r else(k,x)::iK f v r)from rfl];by_cases hk:k=f
  .rw[if_pos hk];subst hk;exact⟨by simp,fun g h=>by simpa using h⟩
  .rw[zAw hk];refine⟨?_,fun g h=>?_⟩
   .rw[zAk];exact List.mem_cons_of_mem _ i1
   .rw[zAk]at h⊢;rcases zAo.mp h with e|e
    .exact zAo.mpr (.inl e)
    .exact List.mem_cons_of_mem _ (i2 g e)
theorem jZ(f:Str)(v:V):∀fs:List (Str×V),(iK f v fs).length<=fs.length+1
 |[]=>by simp[iK]
 | (k,x)::r=>by
  have ih:=jZ f v r;rw[show iK f v ((k,x)::r)=(if k=f then(k,v)::r else(k,x)::iK f v r)from rfl];by_cases hk:k=f
  .rw[zAx hk,zAe,zAe];lia
  .rw[zAw hk,zAe,zAe];lia
theorem RelO.some_of{v:V}{o:Option Value}(r:RelO (some v) o):∃u,o=some u/\RelV v u:=by
 cases o with
 |none=>exact(show False from r).elim
 |some u=>exact⟨u,rfl,r⟩
theorem RelO.none_of{o:Option Value}(r:RelO none o):o=none:=by
 cases o with
 |none=>rfl
 |some u=>exact(show False from r).elim
theorem wX{v:V}{u:Value}(r:RelV v u):PySem.W.handedIn u=true:=by
 cases v with
 |non=>cases(show u=Value.none from r);rfl
 |bl b=>cases(show u=Value.bool b from r);rfl
 |int i=>obtain⟨t,e⟩:=(show ∃t,u=Value.int i t from r);cases e;rfl
 |str x=>obtain⟨t,e⟩:=(show ∃t,u=Value.str x t from r);cases e;rfl
 |byt b=>obtain⟨t,e⟩:=(show ∃t,u=Value.bytes b t from r);cases e;rfl
 |flt b=>obtain⟨t,e⟩:=(show ∃t,u=Value.float b t from r);cases e;rfl
 |ref a=>cases(show u=Value.ref a from r);rfl
 |ty n=>cases(show u=Value.type n from r);rfl
section
variable{P:Program}{w:World}{H H':Hp}{h h':Heap}{a C dx:Addr}{fs Ko:List (Str×V)}
theorem lq(hok:HOk P w H h)(e:H a=some (.ins C dx fs)):∃mA,ObjM h a dx C mA/\(∀f,RelO (fs.lookup f) (mA f))/\PySem.Within mA (fs.map (·.1))/\fs.length<=1000/\H dx=some (.own a):=by
 obtain⟨d,z,ne,ob,mA,n,r,q⟩:=(show ObjOk P w H h a (.ins C dx fs)from hok a _ e)
 exact⟨mA,⟨ob,n,ne⟩,r,q,z,d⟩
end
structure Cls(K:Frag)(C:Addr):Prop where
 pg:PySem.W.plainGet K C Str.empty=true
 hd:PySem.W.hasDictIn K C=true
 po:PySem.W.plainOver K C=true
 sa:PySem.W.findIn K (.ref C) "__setattr__"=some (some (.builtin "object.__setattr__"))
theorem Cls.get{K:Frag}{C:Addr}(c:Cls K C)(f:Str):PySem.W.plainGet K C f=true:=c.pg
def NoAttr(K:Frag)(C:Addr)(f:Str):Prop:=PySem.W.findIn K (.ref C) f=some none
theorem NoAttr.taker{K:Frag}{C:Addr}{f:Str}(n:NoAttr K C f):PySem.W.takerIn K C f=some none:=by
 unfold PySem.W.takerIn;rw[show PySem.W.findIn K (.ref C) f=some none from n];rfl
structure Meth(K:Frag)(C:Addr)(m:Str)(f:Addr):Prop where
 at_:PySem.W.findIn K (.ref C) m=some (some (.ref f))
 fn:PySem.W.isFn K (.ref f)=true
 kp:PySem.W.keepIn K (.ref f)=true
section
variable{X:Cx}{Zt:List (Addr×Obj)}{σ:St}{H:Hp}{s:Shared}{a C dx:Addr}{fs:List (Str×V)}{f:Str}{v:V}{A:Around}{E:Value->Shared->Prop}
theorem ut{b:Bool}{Q:Value->Shared->Prop}(I:Inv X Zt σ H s)(e:H a=some (.ins C dx fs))(c:Cls X.K C)(n:NoAttr X.K C f)(l:fs.lookup f=some v)
  (h:∀u s',Inv X Zt σ H s'->RelV v u->Q u s'):wpAny (model X.prog X.w) A (getAttr (.ref a) f b) Q E s:=by
 obtain⟨mA,O,r,_,_,_⟩:=lq I.hok e;obtain⟨u,hu,ru⟩:=RelO.some_of (v:=v) (o:=mA f) (by rw[<-l];exact r f);exact jd I.kIn O (c.get f) c.hd n hu (wX ru) (h u _ (I.tok _) ru)
theorem iR{m:Str}{g:Addr}{pl:Sem Bool}{Q:Value×List Value->Shared->Prop}(I:Inv X Zt σ H s)(e:H a=some (.ins C dx fs))(c:Cls X.K C)(k:Meth X.K C m g)(l:fs.lookup m=none)
  (h:Q (.ref g,[.ref a]) s):wpAny (model X.prog X.w) A (getMethod (.ref a) m pl) Q E s:=by
 obtain⟨mA,O,r,_,_,_⟩:=lq I.hok e;have hn:mA m=none:=RelO.none_of (by rw[<-l];exact r m);exact yI I.kIn O (c.get m) k.at_ k.fn hn h
theorem uv{y:V}{u:Value}{Q:Unit->Shared->Prop}(I:Inv X Zt σ H s)(e:H a=some (.ins C dx fs))(c:Cls X.K C)(n:NoAttr X.K C f)(hl:fs.length<1000)(ry:RelV y u)
  (h:∀s',Inv X Zt σ (upd H a (.ins C dx (iK f y fs))) s'->Q () s'):wpAny (model X.prog X.w) A (setAttr (.ref a) f u) Q E s:=by
 obtain⟨mA,O,r,wi,_,ho⟩:=lq I.hok e;have hz:(fs.map (·.1)).length<=sizeLine:=by rw[zA1,sizeLine_eq];lia
 refine je I.kIn O c.sa c.po n.taker c.hd wi hz fun h' O' sb=>h _ ?_
 have hd:∃o,h'.get? dx=some o:=let⟨o,_,_,e',_⟩:=O'.ns;⟨o,e'⟩
 refine I.write (x:=a) (e:=dx) (by rw[e];exact True.intro) (.inr ho) (fun b q hb z=>(sb.2 b hb).trans z) hd ?_;refine⟨by rw[ao O.ne];exact ho,?_,O.ne,O'.obj,_,O'.ns,fun g=>?_,fun g hg=>?_⟩
 .have:=jZ f y fs;lia
 .show RelO ((iK f y fs).lookup g) (if g=f then some u else mA g);rw[jY];by_cases q:g=f
  .rw[zAx q,zAx q];exact ry
  .rw[zAw q,zAw q];exact r g
 .by_cases q:g=f
  .rw[q];exact(jG f y fs).1
  .refine(jG f y fs).2 g (wi g fun z=>hg ?_);show(if g=f then some u else mA g)=none;rw[zAw q];exact z
theorem Inv.made(I:Inv X Zt σ H s):Inv X Zt σ (upd (upd H s.heap.objs.size (.own (s.heap.objs.size+1))) (s.heap.objs.size+1) (.ins C s.heap.objs.size []))
  {s with heap:=(s.heap.push PySem.W.emptyDict).push (PySem.W.instObj C s.heap.objs.size)}:=by
 have e1:(s.heap.push PySem.W.emptyDict).get? s.heap.objs.size=some PySem.W.emptyDict:=zB1 s.heap rfl
 have e2:((s.heap.push PySem.W.emptyDict).push (PySem.W.instObj C s.heap.objs.size)).get? (s.heap.objs.size+1)=some (PySem.W.instObj C s.heap.objs.size):=by
  have:=zB1 (s.heap.push PySem.W.emptyDict) (o:=PySem.W.instObj C s.heap.objs.size) rfl
  rwa [Heap.size_push]at this
 have e3:(s.heap.push PySem.W.emptyDict).Ns s.heap.objs.size (fun _=>none):=⟨PySem.W.emptyDict,#[],_,e1,rfl,(fun e he=>absurd he Zy),fun _=>rfl⟩
 have I1:=I.laid (a:=s.heap.objs.size) (o:=.own (s.heap.objs.size+1)) (h':=s.heap.push PySem.W.emptyDict) (t':=s.toks) (fun b u q=>zAu _ q) (zA3 _) ⟨_,e1⟩;refine I1.laid (a:=s.heap.objs.size+1) (o:=.ins C s.heap.objs.size []) (t':=s.toks) (fun b u q=>zAu _ q) (Nat.le_of_eq (Heap.size_push _ _)) ?_;have ne:s.heap.objs.size≠s.heap.objs.size+1:=zB3 (Nat.lt_succ_self _);refine⟨by rw[ao ne,aa],zAp _,ne,e2,fun _=>none,(Heap.Ns1.of_empty e3).at fun o q=>zAu _ q,fun _=>True.intro,fun y hy=>absurd rfl hy⟩
theorem vB{prog:Program}{w:World}{env:Env}{e:Expr}{f:Str}{pos:Pos}{s:Shared}{Q:Value->Shared->Prop}(hb:attributeBase e f env (eval e env)=eval e env)
  (h:wpAny (model prog w) A (eval e env) (fun o s₁=>wpAny (model prog w) A (getAttr o f true) Q E s₁) E s):wpAny (model prog w) A (eval (.Attribute e f pos) env) Q E s:=
 Attribute_any_ h (by rw[arm_eval_Attribute,hb])
end
def Hq(K:Frag)(ta:TE)(f:Str):TE:=fun σ H Q=>ta σ H fun x H1=>∃a C dx fs v,x=.ref a/\H1 a=some (.ins C dx fs)/\Cls K C/\NoAttr K C f/\fs.lookup f=some v/\Q v H1
def Hr(K:Frag)(ta tv:TE)(f:Str):TS:=fun D σ H=>tv σ H fun y H1=>ta σ H1 fun x H2=>∃a C dx fs,x=.ref a/\H2 a=some (.ins C dx fs)/\Cls K C/\NoAttr K C f/\fs.length<1000 /\
 D.nx σ (upd H2 a (.ins C dx (iK f y fs)))
section
variable{X:Cx}{o e value:Expr}{f:Str}{pos pos' ng:Pos}{ta tv:TE}
theorem pF(he:PE X e ta)(hb:attributeBase e f X.env (eval e X.env)=eval e X.env):PE X (.Attribute e f pos) (Hq X.K ta f):=by
 intro Zt s σ H Q I h;refine vB hb (thn (he Zt s σ H _ I h) fun u s1 ⟨x,H1,I1,rx,a,C,dx,fs,v,ex,ea,c,n,l,q⟩=>?_);subst ex;obtain rfl:u=Value.ref a:=rx
 exact ut I1 ea c n l fun u' s2 I2 ru=>⟨v,H1,I2,ru,q⟩
theorem Ef(ha:PE X o ta)(hv:PE X value tv)(hs:swapsWith value (some (.Attribute o f pos')) pos.line X.env=pure false):PS X (.Assign [.Attribute o f pos'] value pos) (Hr X.K ta tv f):=by
 intro Zt s σ H D I h;refine plainObj_wpAny_Assign_Attribute (thn (hv Zt s σ H _ I h) fun u s1 ⟨y,H1,I1,ry,q⟩=>thn (ha Zt s1 σ H1 _ I1 q) fun ov s2 ⟨x,H2,I2,rx,a,C,dx,fs,ex,ea,c,n,l,q2⟩=>?_) hs;subst ex;obtain rfl:ov=Value.ref a:=rx
 exact uv I2 ea c n l ry fun s3 I3=>⟨σ,_,I3,q2⟩
theorem Dl{pl:Sem Bool}{m:Str}{apos:Pos}{args:List Expr}{Zt:List (Addr×Obj)}{s:Shared}{σ:St}{H:Hp}{Q:Value->Shared->Prop}{te:TE}(he:PE X e te)(I:Inv X Zt σ H s)
  (h:te σ H fun x H1=>∃a C dx fs g,x=.ref a/\H1 a=some (.ins C dx fs)/\Cls X.K C/\Meth X.K C m g/\fs.lookup m=none /\
   ∀s1,Inv X Zt σ H1 s1->wpAny (model X.prog X.w) X.A (callWith pos (.ref g) [.ref a] (backTo pos (starEach args X.env)) (backToKw pos (keywordEach [] X.env))) Q X.xe s1)
  (ht:eval (.Call (.Attribute e m apos) args [] pos) X.env=(do
   let ov <-eval e X.env
   standAt apos.atName
   let(f,first) <-holding [ov] (getMethod ov m pl)
   callWith pos f first (backTo pos (starEach args X.env)) (backToKw pos (keywordEach [] X.env)))):
  wpAny (model X.prog X.w) X.A (eval (.Call (.Attribute e m apos) args [] pos) X.env) Q X.xe s:=by
 refine PySem.W.methodCall_KW (pl:=pl) (thn (he Zt s σ H _ I h) fun u s1 ⟨x,H1,I1,rx,a,C,dx,fs,g,ex,ea,c,k,l,q⟩=>?_) ht;subst ex;obtain rfl:u=Value.ref a:=rx;exact iR I1 ea c k l (q s1 I1)
end
section
variable{X:Cx}{Zt:List (Addr×Obj)}{σ:St}{H:Hp}{s:Shared}{A:Around}{E:Value->Shared->Prop}{Q:Value->Shared->Prop}{c:Value}{b:Bool}
inductive TyOf(K:Frag)(H:Hp):V->Value->Prop where
 |non:TyOf K H .non (.type "NoneType")
 |bl (x:Bool):TyOf K H (.bl x) (.type "bool")
 |int (i:Int):TyOf K H (.int i) (.type "int")
 |str (x:Str):TyOf K H (.str x) (.type "str")
 |flt (x:UInt64):TyOf K H (.flt x) (.type "float")
 |lst {a:Addr} {xs:List V} (e:H a=some (.lst xs)):TyOf K H (.ref a) (.type "list")
 |frz {a:Addr} {o:Obj} {xs:List V} (e:H a=some (.frz o (.lst xs))):TyOf K H (.ref a) (.type "list")
 |tup {a:Addr} {xs:List V} (e:H a=some (.tup xs)):TyOf K H (.ref a) (.type "tuple")
 |dK {a:Addr} {Zs:List (Key×V)} (e:H a=some (.dK Zs)):TyOf K H (.ref a) (.type "dict")
 |dT {a:Addr} {Zs:List (List Key×V)} (e:H a=some (.dT Zs)):TyOf K H (.ref a) (.type "dict")
 |ins {a C dx:Addr} {fs:List (Str×V)} (e:H a=some (.ins C dx fs)) (cl:Cls K C) (ha:PySem.W.findIn K (.ref C) "__class__"=some (some (.builtin "object.__class__")))
   (hn:PySem.W.specialIn K (.builtin "object.__class__") "__get__"=some (some (.builtin "getset_descriptor.__get__"))) (IB:PySem.W.takesIn K (.builtin "object.__class__")=some true)
   (hm:PySem.W.mroIn K C (.type "object")=some true):TyOf K H (.ref a) (.ref C)
theorem wY{x:V}{u t:Value}(I:Inv X Zt σ H s)(rx:RelV x u)(ty:TyOf X.K H x t)(e:PySem.W.kitOne X.K t c=some b)(h:∀tk,Q (.bool b) {s with toks:=tk}):
  wpAny (model X.prog X.w) A (call (.builtin "isinstance") [u,c]) Q E s:=by
 cases ty with
 |non=>cases(show u=Value.none from rx);exact PySem.W.kia_one PySem.W.kitx_none I.kIn True.intro e (fun z=>nomatch z) h
 |bl y=>cases(show u=Value.bool y from rx);exact PySem.W.kia_one PySem.W.kitx_bool I.kIn True.intro e (fun z=>nomatch z) h
 |int i=>obtain⟨t,q⟩:=(show ∃t,u=Value.int i t from rx);cases q;exact PySem.W.kia_one PySem.W.kitx_int I.kIn True.intro e (fun z=>nomatch z) h
 |str y=>obtain⟨t,q⟩:=(show ∃t,u=Value.str y t from rx);cases q;exact PySem.W.kia_one PySem.W.kitx_str I.kIn True.intro e (fun z=>nomatch z) h
 |flt y=>obtain⟨t,q⟩:=(show ∃t,u=Value.float y t from rx);cases q;exact PySem.W.kia_one PySem.W.kitx_float I.kIn True.intro e (fun z=>nomatch z) h
 |@lst a xs ea=>
  cases(show u=Value.ref a from rx)
  obtain⟨_,_,n,_,h1⟩:=(show ObjOk X.prog X.w H s.heap a (.lst xs)from I.hok a _ ea)
  exact PySem.W.kia_one PySem.W.kitx_list I.kIn ⟨_,h1,rfl⟩ e (fun z=>nomatch z) h
 |@frz a ob xs ea=>
  cases(show u=Value.ref a from rx)
  obtain⟨_,_,_,n,_,h1⟩:=(show ObjOk X.prog X.w H s.heap a (.frz ob (.lst xs))from I.hok a _ ea)
  exact PySem.W.kia_one PySem.W.kitx_list I.kIn ⟨_,h1,rfl⟩ e (fun z=>nomatch z) h
 |@tup a xs ea=>
  cases(show u=Value.ref a from rx)
  obtain⟨_,_,_,p⟩:=(show ObjOk X.prog X.w H s.heap a (.tup xs)from I.hok a _ ea)
  obtain⟨o,h1,h2,_⟩:=p;exact PySem.W.kia_one PySem.W.kitx_tuple I.kIn ⟨o,h1,h2⟩ e (fun z=>nomatch z) h
 |@dK a Zs ea=>
  cases(show u=Value.ref a from rx)
  obtain⟨_,_,vs,_,p⟩:=(show ObjOk X.prog X.w H s.heap a (.dK Zs)from I.hok a _ ea)
  obtain⟨o,es,ep,h1,h2,_⟩:=p;exact PySem.W.kia_one PySem.W.kitx_dict I.kIn ⟨o,h1,h2.1⟩ e (fun z=>nomatch z) h
 |@dT a Zs ea=>
  cases(show u=Value.ref a from rx)
  obtain⟨_,_,xs,_,o,es,ep,h1,h2,_⟩:=(show ObjOk X.prog X.w H s.heap a (.dT Zs)from I.hok a _ ea)
  exact PySem.W.kia_one PySem.W.kitx_dict I.kIn ⟨o,h1,h2.1⟩ e (fun z=>nomatch z) h
 |@ins a C dx fs ea cl ha hn IB hm=>
  cases(show u=Value.ref a from rx);obtain⟨mA,O,_⟩:=lq I.hok ea;obtain⟨od,J,_⟩:=O.look;exact PySem.W.kia_one (PySem.W.kitx_own (cl.get _) cl.hd ha hn IB hm) I.kIn J e (fun z=>nomatch z) h
end
structure Room(k:Nat)(A:Around):Prop where
 hd:A.handled=none
 dp:A.depth+3*k+5<recursionLimit
 un:A.units+16*k+200<cLine
 gd:A.guards=some []
theorem Room.mono{j k:Nat}{A:Around}(r:Room k A)(h:j<=k):Room j A:=⟨r.hd,by have:=r.dp;lia,by have:=r.un;lia,r.gd⟩
theorem Room.deeper{k:Nat}{A:Around}(r:Room (k+1) A)(env:Env):Room k (A.deeper env):=
 ⟨r.hd,by have:=r.dp;show A.depth+1+3*k+5<_;lia,by have:=r.un;show A.units+3+16*k+200<_;lia,r.gd⟩
theorem uw{A:Around}{C:Addr}{us:List Value}{kw:List (Str×Value)}:(A.under (.builtin "type.__call__" ⟨.ref C::us,kw⟩)).depth=A.depth+1:=by
 first|rfl|simp[Around.under,Code.weight,Code.isCreation,Code.isGuard,Code.isCaller,Code.frames,Code.isFrame,guardIds]
theorem uz{A:Around}{C:Addr}{us:List Value}{kw:List (Str×Value)}:(A.under (.builtin "type.__call__" ⟨.ref C::us,kw⟩)).units=A.units+1:=by
 first|rfl|simp[Around.under,Code.cUnits,Code.frames,Code.isFrame]
theorem rB{A:Around}{C:Addr}{us:List Value}{kw:List (Str×Value)}:(A.under (.builtin "type.__call__" ⟨.ref C::us,kw⟩)).guards=A.guards:=by
 first|rfl|simp[Around.under,Code.weight,Code.isCreation,Code.isGuard,Code.isCaller,Code.frames,Code.isFrame,guardIds]
theorem Room.make{k:Nat}{A:Around}(r:Room (k+1) A)(C:Addr)(us:List Value)(kw:List (Str×Value)):Room k (A.under (.builtin "type.__call__" ⟨.ref C::us,kw⟩)):=
 ⟨r.hd,by have:=r.dp;rw[uw];lia,by have:=r.un;rw[uz];lia,by rw[rB];exact r.gd⟩
theorem Room.depth{k:Nat}{A:Around}(r:Room k A):A.depth<recursionLimit:=by have:=r.dp;lia
theorem Room.units{k:Nat}{A:Around}(r:Room k A):A.units+64<cLine:=by have:=r.un;lia
def iT:TA:=fun _ H Q=>Q [] H
def dD(ta:TE)(tr:TA):TA:=fun σ H Q=>ta σ H fun x H1=>tr σ H1 fun xs H2=>Q (x::xs) H2
section
variable{X:Cx}{e:Expr}{es:List Expr}{te:TE}{t:TA}{pos:Pos}
theorem aj:PA X [] iT:=fun _ _ _ _ H Q I h=>Calls.spliced_nil ⟨[],H,I,.nil,h⟩
theorem aQ(ha:PE X e te)(hr:PA X es t)(hs:starEach (e::es) X.env=(false,eval e X.env)::starEach es X.env:=by rfl):PA X (e::es) (dD te t):=by
 intro pos Zt s σ H Q I h;rw[hs];show wpAny _ _ (spliced ((false,eval e X.env)::backTo pos (starEach es X.env))) _ _ s;refine Calls.spliced_cons (thn (ha Zt s σ H _ I h) fun u s1 ⟨x,H1,I1,r1,q1⟩=>?_)
 exact thn (hr pos Zt s1 σ H1 _ I1 q1) fun us s2 ⟨xs,H2,I2,r2,q2⟩=>⟨x::xs,H2,I2,.cons r1 r2,q2⟩
def mW(t:TA):TE:=fun σ H Q=>t σ H fun xs H1=>xs.length<=sizeLine/\∀p,H1 p=none->Q (.ref p) (upd H1 p (.tup xs))
def Bg(t:TA):TE:=fun σ H Q=>t σ H fun xs H1=>xs.length<=sizeLine/\∀p,H1 p=none->Q (.ref p) (upd H1 p (.lst xs))
theorem bj{x1}(h:PA X es t):PE X (.Tuple es x1 pos) (mW t):=by
 intro Zt s σ H Q I hq;refine wpAny_Tuple_spliced (thn (h pos Zt s σ H _ I hq) fun us s1 ⟨xs,H1,I1,r,z,q⟩=>⟨by rw[<-r.length];exact z,?_⟩);have hf:H1 s1.heap.objs.size=none:=I1.hok.fresh (zA3 _);refine⟨.ref s1.heap.objs.size,upd H1 s1.heap.objs.size (.tup xs),I1.laid (t':=s1.toks) (fun b u e=>zAu _ e) (zA3 _) ?_,rfl,q _ hf⟩;exact⟨z,us,r,⟨_,zB1 _ rfl,rfl,_,rfl⟩⟩
theorem eU(h:PA X es t):PE X (.List es pos) (Bg t):=by
 intro Zt s σ H Q I hq;refine wpAny_List_spliced (thn (h pos Zt s σ H _ I hq) fun us s1 ⟨xs,H1,I1,r,z,q⟩=>⟨by rw[<-r.length];exact z,?_⟩);have hf:H1 s1.heap.objs.size=none:=I1.hok.fresh (zA3 _);refine⟨.ref s1.heap.objs.size,upd H1 s1.heap.objs.size (.lst xs),I1.laid (t':=s1.toks) (fun b u e=>zAu _ e) (zA3 _) ?_,rfl,q _ hf⟩;exact⟨z,us,0,r,zB1 _ rfl⟩
end
abbrev Sp:=List V->Hp->VK->XK->Prop
abbrev CXT:=List Env->Hp->Shared->XK->Value->Shared->Prop
structure Env0(P:Program)(w:World)(K:Frag)(mg:Str->Option Value)(base:Heap)(A:Around)(outer:List Env)(s:Shared)(H:Hp):Prop where
 frames:A.frames=some outer
 mod:Mod K mg base
 bs:∀b o,base.get? b=some o->s.heap.get? b=some o/\H b=none
 bsz:base.objs.size<=s.heap.objs.size
 funs:s.heap.FunFrames base outer
 frf:∀b∈frs outer,H b=none
 hok:HOk P w H s.heap
 bare:AllBare s.gens
def CE(outer:List Env)(P:Program)(w:World)(H:Hp)(s:Shared)(Q:VK)(u:Value)(s':Shared):Prop:=
 ∃v H',s'.os=s.os/\AllBare s'.gens/\Un (frs outer) [] H H' s.heap s'.heap/\HOk P w H' s'.heap/\RelV v u/\Q v H'
def CR(CX:CXT)(outer:List Env)(P:Program)(w:World)(H:Hp)(s:Shared)(Q:VK)(E:XK)(r:Result)(s':Shared):Prop:=
 match r with
 |.ok (.ret u)=>CE outer P w H s Q u s'
 |.ok _=>False
 |.error e=>CX outer H s E e s'
structure FnOk(P:Program)(w:World)(K:Frag)(mg:Str->Option Value)(base:Heap)(CX:CXT)(k:Nat)(f:Addr)(fd:FuncData)(ps:List Str)(sp:Sp):Prop where
 len:∀vs H Q E,sp vs H Q E->vs.length=ps.length
 run:∀(A:Around) (outer:List Env) (s:Shared) (H:Hp) (args:Args) (us:List Value) (vs:List V) (Q:VK) (E:XK),Room k A->Env0 P w K mg base A outer s H->BindsTo s fd args (ps.zip us)->Vals vs us->sp vs H Q E->
  codeAny (model P w) A (.call (.ref f) args) (CR CX outer P w H s Q E) s
theorem FnOk.imp{P:Program}{w:World}{K:Frag}{mg:Str->Option Value}{base:Heap}{CX:CXT}{k:Nat}{f:Addr}{fd:FuncData}{ps:List Str}{sp sp':Sp}(F:FnOk P w K mg base CX k f fd ps sp)
  (h:∀vs H Q E,sp' vs H Q E->sp vs H Q E):FnOk P w K mg base CX k f fd ps sp':=
 ⟨fun vs H Q E q=>F.len vs H Q E (h _ _ _ _ q),fun A outer s H args us vs Q E hr he hb hv hs=>F.run A outer s H args us vs Q E hr he hb hv (h _ _ _ _ hs)⟩
theorem Env0.make{P:Program}{w:World}{K:Frag}{mg:Str->Option Value}{base:Heap}{A:Around}{outer:List Env}{s:Shared}{H:Hp}(e:Env0 P w K mg base A outer s H)(C:Addr)(us:List Value)(kw:List (Str×Value)):
  Env0 P w K mg base (A.under (.builtin "type.__call__" ⟨.ref C::us,kw⟩)) outer s H:=⟨by first|exact e.frames | (simpa[Around.under,Code.envs,Code.isFrame,pushEnvs]using e.frames),e.mod,e.bs,e.bsz,e.funs,e.frf,e.hok,e.bare⟩
section
variable{X:Cx}{Zt:List (Addr×Obj)}{σ:St}{H:Hp}{s s':Shared}
theorem Inv.env0(I:Inv X Zt σ H s):Env0 X.prog X.w X.K X.mg X.base X.A X.stack s H:=
 ⟨I.ok.frames,I.ok.mod,I.bs,Nat.le_trans I.ok.bsz I.sz,I.stack,I.stkFree,I.hok,I.bare⟩
theorem Inv.after{Q:VK}{u:Value}(I:Inv X Zt σ H s)(h:CE X.stack X.prog X.w H s Q u s'):EP X Zt σ Q u s':=by
 obtain⟨v,H',os,bare,un,hok,r,q⟩:=h;obtain⟨hh,g,d,t,Kq⟩:=s';obtain rfl:Kq=s.os:=os;exact⟨v,H',I.call (h':=hh) (g':=g) (d':=d) (t':=t) (ch:=[]) un hok bare (fun b z=>absurd z Zy),r,q⟩
end
def rC(sp:Sp)(cq:List V)(E:XK)(t:TA):TE:=fun σ H Q=>t σ H fun vs H1=>sp (vs++cq) H1 Q E
def rD(C:Addr)(m:Str)(sp:Sp)(cq:List V)(E:XK)(ta:TE)(t:TA):TE:=fun σ H Q=>ta σ H fun x H1=>∃a dx fs,x=.ref a/\H1 a=some (.ins C dx fs)/\fs.lookup m=none /\
 t σ H1 fun vs H2=>sp (x::(vs++cq)) H2 Q E
def Dm(C:Addr)(sp:Sp)(cq:List V)(E:XK)(t:TA):TE:=fun σ H Q=>t σ H fun vs H1=>∀x dx,H1 x=none->H1 dx=none->dx≠x->
 sp (.ref x::(vs++cq)) (upd (upd H1 dx (.own x)) x (.ins C dx [])) (fun v H2=>v=.non/\Q (.ref x) H2) E
def Binds(K:Frag)(fd:FuncData)(ps:List Str)(ds:List Value):Prop:=
 ∀(s:Shared) (us:List Value),K.In s.heap->(us++ds).length=ps.length->BindsTo s fd ⟨us,[]⟩ (ps.zip (us++ds))
theorem Binds.all{K:Frag}{fd:FuncData}{ps:List Str}(h:∀us:List Value,us.length=ps.length->bindArgs fd ⟨us,[]⟩=pure (ps.zip us)):Binds K fd ps []:=fun s us _ hl=>by
 rw[zAn]at hl⊢;exact .of_eq (h us hl)
def gO(CX:CXT)(X:Cx)(E:XK):Prop:=∀(Zt:List (Addr×Obj)) (σ:St) (H:Hp) (s:Shared) (e:Value) (s':Shared),Inv X Zt σ H s->CX X.stack H s E e s'->X.xe e s'
section
variable{X:Cx}{CX:CXT}{k:Nat}{f C:Addr}{fd:FuncData}{ps:List Str}{sp:Sp}{cq:List V}{ds:List Value}{E:XK}{x m:Str}{p pos apos:Pos}{e o:Expr}{es:List Expr}{ta:TE}{t:TA}
theorem uA{Zt:List (Addr×Obj)}{σ:St}{H:Hp}{s:Shared}{Q:VK}{us:List Value}{vs:List V}(F:FnOk X.prog X.w X.K X.mg X.base CX k f fd ps sp)(hr:Room k X.A)(hb:Binds X.K fd ps ds)(hd:Vals cq ds)(hx:gO CX X E)
  (I:Inv X Zt σ H s) (r:Vals vs us) (h:sp (vs++cq) H Q E):wpAny (model X.prog X.w) X.A (call (.ref f) us) (EP X Zt σ Q) X.xe s:=by
 have r2:Vals (vs++cq) (us++ds):=r.append hd;have hl:(us++ds).length=ps.length:=by rw[<-r2.length];exact F.len _ _ _ _ h
 refine wpAny_call (codeAny_mono (F.run X.A X.stack s H ⟨us,[]⟩ (us++ds) (vs++cq) Q E hr I.env0 (hb s us I.kIn hl) r2 h) fun r s' hq=>?_)
 cases r with
 |error e=>exact hx Zt σ H s e s' I hq
 |ok fl=>
  cases fl with
  |ret u=>exact I.after hq
  |next=>exact False.elim hq
  |brk=>exact False.elim hq
  |cont=>exact False.elim hq
theorem vC(F:FnOk X.prog X.w X.K X.mg X.base CX k f fd ps sp)(hr:Room k X.A)(hg:Gl X x)(hm:X.mg x=some (.ref f))(hk:PySem.W.keepIn X.K (.ref f)=true)(hb:Binds X.K fd ps ds)(hd:Vals cq ds)(hx:gO CX X E)
  (ha:PA X (e::es) t) (bb:(x==("__debug__":Str))=false:=by decide) (he:starEach (e::es) X.env=(false,eval e X.env)::starEach es X.env:=by rfl) (aS:(backTo pos (starEach es X.env)).any (·.1)=false:=by rfl):
  PE X (.Call (.Name x p) (e::es) [] pos) (rC sp cq E t):=by
 intro Zt s σ H Q I h;refine wpAny_Call_Name_kw (dY I hg hm ?_ bb);refine PySem.W.callWith_K (h₀:=X.base) I.ok.mod.kin hk (thn (ha pos Zt s σ H _ I h) fun us s1 ⟨vs,H1,I1,r,q⟩=>⟨I1.kIn,?_⟩) he aS;exact uA F hr hb hd hx I1 r q
theorem vD{pl:Sem Bool}(he:PE X o ta)(c:Cls X.K C)(hm:Meth X.K C m f)(F:FnOk X.prog X.w X.K X.mg X.base CX k f fd ps sp)(hr:Room k X.A)(hb:Binds X.K fd ps ds)(hd:Vals cq ds)(hx:gO CX X E)(ha:PA X (e::es) t)
  (a9:starEach (e::es) X.env=(false,eval e X.env)::starEach es X.env:=by rfl) (aS:(backTo pos (starEach es X.env)).any (·.1)=false:=by rfl)
  (ht:eval (.Call (.Attribute o m apos) (e::es) [] pos) X.env=(do
   let ov <-eval o X.env
   standAt apos.atName
   let(f,first) <-holding [ov] (getMethod ov m pl)
   callWith pos f first (backTo pos (starEach (e::es) X.env)) (backToKw pos (keywordEach [] X.env))):=by rfl):
  PE X (.Call (.Attribute o m apos) (e::es) [] pos) (rD C m sp cq E ta t):=by
 intro Zt s σ H Q I h;refine PySem.W.methodCall_KW (pl:=pl) (thn (he Zt s σ H _ I h) fun u s1 ⟨x,H1,I1,rx,a,dx,fs,ex,ea,l,q⟩=>?_) ht;subst ex;obtain rfl:u=Value.ref a:=rx;refine iR I1 ea c hm l ?_;refine PySem.W.callWith_K (first:=[.ref a]) (h₀:=X.base) I.ok.mod.kin hm.kp (thn (ha pos Zt s1 σ H1 _ I1 q) fun us s2 ⟨vs,H2,I2,r,q2⟩=>⟨I2.kIn,?_⟩) a9 aS;exact uA (us:=.ref a::us) (vs:=.ref a::vs) F hr hb hd hx I2 (.cons rfl r) q2
theorem yK{pl:Sem Bool}(he:PE X o ta)(c:Cls X.K C)(hm:Meth X.K C m f)(F:FnOk X.prog X.w X.K X.mg X.base CX k f fd ps sp)(hr:Room k X.A)(hb:Binds X.K fd ps ds)(hd:Vals cq ds)(hx:gO CX X E)
  (ht:eval (.Call (.Attribute o m apos) [] [] pos) X.env=(do
   let ov <-eval o X.env
   standAt apos.atName
   let(f,first) <-holding [ov] (getMethod ov m pl)
   callWith pos f first (backTo pos (starEach [] X.env)) (backToKw pos (keywordEach [] X.env))):=by rfl):
  PE X (.Call (.Attribute o m apos) [] [] pos) (rD C m sp cq E ta iT):=by
 intro Zt s σ H Q I h;refine PySem.W.methodCall_KW (pl:=pl) (thn (he Zt s σ H _ I h) fun u s1 ⟨x,H1,I1,rx,a,dx,fs,ex,ea,l,q⟩=>?_) ht;subst ex;obtain rfl:u=Value.ref a:=rx;refine iR I1 ea c hm l ?_;exact PySem.W.callWith_K0 (first:=[.ref a]) I1.kIn hm.kp (uA (us:=[.ref a]) (vs:=[.ref a]) F hr hb hd hx I1 (.cons rfl .nil) q)
structure Mk(K:Frag)(C f:Addr):Prop where
 makes:PySem.W.makesIn K C=true
 init:PySem.W.findIn K (.ref C) "__init__"=some (some (.ref f))
 fn:PySem.W.isFn K (.ref f)=true
 kp:PySem.W.keepIn K (.ref C)=true
theorem yL{Zt:List (Addr×Obj)}{σ:St}{H:Hp}{s:Shared}{Q:VK}{us:List Value}{vs:List V}(M:Mk X.K C f)(F:FnOk X.prog X.w X.K X.mg X.base CX k f fd ps sp)(hr:Room (k+1) X.A)(hb:Binds X.K fd ps ds)(hd:Vals cq ds)
  (hx:gO CX X E) (I:Inv X Zt σ H s) (r:Vals vs us)
  (h:∀x dx,H x=none->H dx=none->dx≠x->sp (.ref x::(vs++cq)) (upd (upd H dx (.own x)) x (.ins C dx [])) (fun v H2=>v=.non/\Q (.ref x) H2) E):
  wpAny (model X.prog X.w) X.A (call (.ref C) us) (EP X Zt σ Q) X.xe s:=by
 have hq:=h (s.heap.objs.size+1) s.heap.objs.size (I.hok.fresh (Nat.le_succ _)) (I.hok.fresh (zA3 _)) (zB3 (Nat.lt_succ_self _));have I2:=Inv.made (C:=C) I;have r2:Vals (V.ref (s.heap.objs.size+1)::(vs++cq)) (Value.ref (s.heap.objs.size+1)::(us++ds)):=.cons rfl (r.append hd)
 have hl:(Value.ref (s.heap.objs.size+1)::us++ds).length=ps.length:=by
  have e:=r2.length;rw[F.len _ _ _ _ hq]at e;exact e.symm
 refine wpAny_call (yJ (f:=f) I.kIn M.makes M.init (beq_iff_eq.mp M.fn) (codeAny_mono (F.run _ X.stack _ _ ⟨Value.ref (s.heap.objs.size+1)::us,[]⟩ (Value.ref (s.heap.objs.size+1)::(us++ds)) _ _ E (hr.make C us [])
  (I2.env0.make C us []) (hb _ (Value.ref (s.heap.objs.size+1)::us) I2.kIn hl) r2 hq) fun r s' gg=>?_))
 cases r with
 |error e=>exact hx Zt σ _ _ e s' I2 gg
 |ok fl=>
  cases fl with
  |ret u=>
   obtain⟨v,H',I3,rv,ev,q3⟩:=I2.after gg;subst ev;exact⟨rv,⟨V.ref (s.heap.objs.size+1),H',I3,rfl,q3⟩⟩
  |next=>exact False.elim gg
  |brk=>exact False.elim gg
  |cont=>exact False.elim gg
theorem yM(M:Mk X.K C f)(F:FnOk X.prog X.w X.K X.mg X.base CX k f fd ps sp)(hr:Room (k+1) X.A)(hg:Gl X x)(hm:X.mg x=some (.ref C))(hb:Binds X.K fd ps ds)(hd:Vals cq ds)(hx:gO CX X E)
  (bb:(x==("__debug__":Str))=false:=by decide):PE X (.Call (.Name x p) [] [] pos) (Dm C sp cq E iT):=by
 intro Zt s σ H Q I h;refine wpAny_Call_Name_kw (dY I hg hm ?_ bb);exact PySem.W.callWith_K0 I.kIn M.kp (yL (us:=[]) M F hr hb hd hx I .nil h)
end
section
variable{X:Cx}{CX:CXT}{k:Nat}{f C:Addr}{fd:FuncData}{ps ks:List Str}{sp:Sp}{E:XK}{x m:Str}{p pos apos Kr:Pos}{e o:Expr}{es:List Expr}{OT:List Keyword}{te ta:TE}{t tk:TA}{nm:Option Str}
variable{g:List Value->List Value->List Value}{gV:List V->List V->List V}
end
structure FnScope(N P:List Str)(sc:Scope):Prop where
 kind:sc.kind=.function
 co:sc.isCoroutine=false
 gen:sc.isGenerator=false
 nd:N.Nodup
 pre:N.take P.length=P
 par:∀x∈P,sc.names.lookup x=some .local\/sc.names.lookup x=some .cell
 nofree:∀y∈sc.names,y.2≠.free
theorem nQ{kindOf:Str->Option NameKind}{x:Str}:∀{binds:List (Str×Value)} {m:Str->Option Value},(∀v,(x,v)∉binds)->bindL kindOf binds m x=m x
 |[],_,_=>rfl
 | (n,v)::r,m,h=>by
  unfold bindL;rw[nQ fun w hw=>h w (List.mem_cons_of_mem _ hw)];split
  .have:x≠n:=by rintro rfl;exact h v List.mem_cons_self
   simp[this]
  .rfl
theorem nR{kindOf:Str->Option NameKind}{x:Str}:∀{binds:List (Str×Value)} {m:Str->Option Value},(∀v,(x,v)∉binds)->bindC kindOf binds m x=m x
 |[],_,_=>rfl
 | (n,v)::r,m,h=>by
  unfold bindC;rw[nR fun w hw=>h w (List.mem_cons_of_mem _ hw)];split
  .rfl
  .have:x≠n:=by rintro rfl;exact h v List.mem_cons_self
   simp[this]
theorem nU{kindOf:Str->Option NameKind}{x:Str}{v:Value}:∀{P:List Str} {vs:List Value} {i:Nat} {m:Str->Option Value},P.Nodup->P[i]?=some x->vs[i]?=some v->kindOf x=some .local->
  bindL kindOf (P.zip vs) m x=some v
 |[],_,_,_,_,h,_,_=>by simp at h
 |_::_,[],_,_,_,_,h,_=>by simp at h
 |p::P,w::vs,0,m,nd,h1,h2,hk=>by
  simp at h1 h2;subst h1;subst h2;show bindL kindOf ((p,w)::P.zip vs) m p=_;unfold bindL;rw[nQ fun v hv=>(List.nodup_cons.mp nd).1 (List.of_mem_zip hv).1,if_pos hk];simp
 |p::P,w::vs,i+1,m,nd,h1,h2,hk=>by
  show bindL kindOf ((p,w)::P.zip vs) m x=_;unfold bindL;exact nU (i:=i) (List.nodup_cons.mp nd).2 (by simpa using h1) (by simpa using h2) hk
theorem nW{kindOf:Str->Option NameKind}{x:Str}{v:Value}:∀{P:List Str} {vs:List Value} {i:Nat} {m:Str->Option Value},P.Nodup->P[i]?=some x->vs[i]?=some v->kindOf x≠some .local->
  bindC kindOf (P.zip vs) m x=some v
 |[],_,_,_,_,h,_,_=>by simp at h
 |_::_,[],_,_,_,_,h,_=>by simp at h
 |p::P,w::vs,0,m,nd,h1,h2,hk=>by
  simp at h1 h2;subst h1;subst h2;show bindC kindOf ((p,w)::P.zip vs) m p=_;unfold bindC;rw[nR fun v hv=>(List.nodup_cons.mp nd).1 (List.of_mem_zip hv).1,if_neg hk];simp
 |p::P,w::vs,i+1,m,nd,h1,h2,hk=>by
  show bindC kindOf ((p,w)::P.zip vs) m x=_;unfold bindC;exact nW (i:=i) (List.nodup_cons.mp nd).2 (by simpa using h1) (by simpa using h2) hk
def start(N:List Str)(vs:List V):St:=vs.map some++List.replicate (N.length-vs.length) none
def jH(CX:CXT)(P:Program)(w:World)(K:Frag)(mg:Str->Option Value)(base:Heap)(N:List Str)(qual:Str)(scope:Scope)(f:Addr)(cd:Value)(A:Around)(outer:List Env)(s:Shared)(H:Hp)(E:XK):Cx where
 prog:=P
 w:=w
 K:=K
 mg:=mg
 base:=base
 A:=A.deeper (envOfC qual scope s.heap.objs.size f cd)
 N:=N
 s₀:=s
 H₀:=H
 env:=envOfC qual scope s.heap.objs.size f cd
 outer:=outer
 stack:=envOfC qual scope s.heap.objs.size f cd::outer
 ex:=[]
 calm:=true
 fn:=fun _=>true
 pn:=[]
 xe:=fun e s'=>wpAny (model P w) (A.deeper (envOfC qual scope s.heap.objs.size f cd)) (leaving (envOfC qual scope s.heap.objs.size f cd) e) (fun _ de=>CX outer H s E e de) (fun e' de=>CX outer H s E e' de) s'
theorem rE{sc:Scope}{n:Nat}{x:Str}(h:sc.names.lookup x=some .cell):∃c,(cellsFrom n sc.names []).lookup x=some c:=by
 have q:=PySem.W.cellsFrom_some sc.names n [] (.inl h);exact Option.isSome_iff_exists.mp q
theorem nY{CX:CXT}{P:Program}{w:World}{K:Frag}{mg:Str->Option Value}{base:Heap}{N ps:List Str}{qual:Str}{scope:Scope}{f:Addr}{cd:Value}{A:Around}{outer:List Env}{s s1:Shared}{H:Hp}{E:XK}{us:List Value}{vs:List V}
  (S:FnScope N ps scope) (hd:A.handled=none) (e0:Env0 P w K mg base A outer s H) (hl:vs.length=ps.length) (r:Vals vs us)
  (x:InCallC s s.heap.objs.size (bindL (envOfC qual scope s.heap.objs.size f cd).kindOf (ps.zip us) fun _=>none) (cellsFrom (s.heap.objs.size+1) scope.names []) (bindC (envOfC qual scope s.heap.objs.size f cd).kindOf (ps.zip us) fun _=>none) s1):
  Inv (jH CX P w K mg base N qual scope f cd A outer s H E) [] (start N vs) H s1:=by
 have aS:ps.length<=N.length:=by have:=congrArg List.length S.pre;rw[zAd]at this;lia
 obtain⟨h1,tk,rfl,hk⟩:=x.done;have sQ:∀b:Addr,b∉(jH CX P w K mg base N qual scope f cd A outer s H E).ex:=fun b z=>absurd (show b∈([]:List Addr)from z) Zy
 refine⟨⟨e0.mod,S.kind,rfl,rfl,zA3 _,fun y z c h1 h2=>?_,fun y hy=>?_,fun y c _ h=>?_,fun _=>hd,Around.frames_deeper e0.frames,.inr ⟨rfl,rfl⟩,fun b z=>absurd z (sQ b),e0.bs,e0.bsz,fun b _ _=>sQ b,fun b z=>absurd z (sQ b),e0.funs,e0.frf⟩,
  rfl,e0.bare,Un.kept hk,⟨_,x.toInCall.ns,fun i y v h1 h2 h3=>?_⟩,fun y c h=>⟨_,x.cell y c h⟩,e0.hok.fresh (Nat.le_refl _),fun y c h=>?_,fun p hp=>absurd (show p∈([]:List (Addr×Obj))from hp) Zy,e0.hok.kept hk,?_⟩
 .exact name_of_addr x.apart (PySem.mem_of_lookup h1) (PySem.mem_of_lookup h2)
 .have hy:scope.names.lookup y=some .cell\/scope.names.lookup y=some .free:=hy;rcases hy with hy|hy
  .exact rE hy
  .exact absurd rfl (S.nofree _ (PySem.mem_of_lookup hy))
 .exact Nat.le_of_lt (x.above y c (PySem.mem_of_lookup h))
 .have hi:i<vs.length:=by
   unfold start at h2;by_cases hi:i<vs.length
   .exact hi
   .rw[List.getElem?_append_right (by simpa using hi)]at h2;rw[List.getElem?_replicate]at h2;split at h2<;>cases h2
  have ha:vs[i]?=some v:=by
   unfold start at h2;rw[List.getElem?_append_left (by simpa using hi),List.getElem?_map]at h2
   cases e:vs[i]? with
   |none=>rw[e]at h2;cases h2
   |some a=>rw[e]at h2;cases h2;rfl
  obtain⟨u,hu,rv⟩:=r.get ha
  have hp:ps[i]?=some y:=by
   rw[<-S.pre,List.getElem?_take_of_lt Zz];exact h1
  have IC:ps.Nodup:=by rw[<-S.pre];exact S.nd.sublist (List.take_sublist _ _)
  refine⟨u,rv,?_⟩;rcases S.par y (zB5 hp)with k|k
  .exact .inl ⟨k,nU IC hp hu k⟩
  .obtain⟨c,e⟩:=rE (n:=s.heap.objs.size+1) k;refine .inr ⟨.inl k,c,e,?_⟩;have q:=x.cell y c e;rw[nW IC hp hu (by show scope.names.lookup y≠_;rw[k];decide)]at q;exact q
 .exact e0.hok.fresh (Nat.le_of_lt (x.above y c (PySem.mem_of_lookup h)))
 .unfold start;show _=N.length;rw[zA2,zA1,List.length_replicate];lia
theorem yN{CX:CXT}{P:Program}{w:World}{K:Frag}{mg:Str->Option Value}{base:Heap}{k:Nat}{f:Addr}{name qual:Str}{params:Arguments}{body:List Stmt}{scope:Scope}{dV kV doc pm af ct oc:Value}{an od:Option Addr}
  {c6:Array (Option Value)} {N ps:List Str} {sp:Sp} (lk:K.lookup f=some ⟨oc,od,.func (PySem.W.fnOf name qual params body scope dV kV doc pm an af ct),c6⟩) (bg:PySem.W.codeIn K af qual=true) (S:FnScope N ps scope)
  (len:∀vs H Q E,sp vs H Q E->vs.length=ps.length)
  (aE:∀(A:Around) (outer:List Env) (s:Shared) (H:Hp) (vs:List V) (Q:VK) (E:XK),Room k (A.deeper (envOfC qual scope s.heap.objs.size f af))->sp vs H Q E->
   ∃t,PSs (jH CX P w K mg base N qual scope f af A outer s H E) body t/\t {nx:=fun _ H'=>Q .non H',rt:=Q} (start N vs) H):
  FnOk P w K mg base CX (k+1) f (PySem.W.fnOf name qual params body scope dV kV doc pm an af ct) ps sp:=by
 refine⟨len,fun A outer s H args us vs Q E hr e0 hb r eI=>?_⟩;have hl:=len _ _ _ _ eI;have KX:K.In s.heap:=e0.mod.kin.keeps fun b o e=>(e0.bs b o e).1;have lim:s.heap.NoLimit:=e0.mod.nolimit.keeps fun b o e=>(e0.bs b o e).1
 have gX:∀y∈ps.zip us,scope.names.lookup y.1=some .local\/(scope.names.lookup y.1=some .cell/\((cellsFrom (s.heap.objs.size+1) scope.names []).lookup y.1).isSome=true):=fun⟨n,v⟩ hy=>by
  rcases S.par n (List.of_mem_zip hy).1 with q|q
  .exact .inl q
  .exact .inr ⟨q,PySem.W.cellsFrom_some _ _ _ (.inl q)⟩
 refine codeAny_call_function hr.depth (KX _ _ lk) rfl S.co S.gen rfl (PySem.W.codeRec_of KX bg) (hb _ _ _ _ ?_);refine wpAny_newFunctionEnv_cells S.kind gX fun env he s1 x=>?_;subst he;refine⟨lim.keeps x.toInCall.keep,codeAny_func ?_⟩;obtain⟨t,ht,hq⟩:=aE A outer s H vs Q E (hr.deeper _) eI;have I:Inv (jH CX P w K mg base N qual scope f af A outer s H E) [] (start N vs) H s1:=nY S hr.hd e0 hl r x;refine wpAny_mono (ht [] s1 (start N vs) H _ I hq) (fun fl s' hs=>?_) fun e s' hs=>hs
 have fin:∀{ae:St} {H':Hp} {v:V} {u:Value},Inv (jH CX P w K mg base N qual scope f af A outer s H E) [] ae H' s'->RelV v u->Q v H'->CE outer P w H s Q u s':=
  fun{ae H' v u} J rv q=>⟨v,H',J.os,J.bare,J.base,J.hok,rv,q⟩
 cases fl with
 |ret u=>
  obtain⟨v,ae,H',J,rv,q⟩:=hs;exact fin J rv q
 |next=>
  obtain⟨ae,H',J,q⟩:=hs;exact fin (v:=V.non) (u:=Value.none) J rfl q
 |brk=>
  obtain⟨_,_,_,q⟩:=hs;exact False.elim q
 |cont=>
  obtain⟨_,_,_,q⟩:=hs;exact False.elim q
section
variable{X:Cx}{x:Str}{p pos:Pos}{e:Expr}{es:List Expr}{t:TA}{id T:String}{r:List V->Hp->VK->Prop}
def tCB(r:List V->Hp->VK->Prop)(t:TA):TE:=fun σ H Q=>t σ H fun vs H1=>r vs H1 Q
theorem aH(hc:gF X (.builtin id) r)(hg:Gl X x)(hm:X.mg x=none)(hv:bootBuiltins x=some (.builtin id))(ha:PA X (e::es) t)(hn:x≠"__name__":=by decide)(bb:(x==("__debug__":Str))=false:=by decide)
  (he:starEach (e::es) X.env=(false,eval e X.env)::starEach es X.env:=by rfl) (aS:(backTo pos (starEach es X.env)).any (·.1)=false:=by rfl):PE X (.Call (.Name x p) (e::es) [] pos) (tCB r t):=by
 intro Zt s σ H Q I h;refine wpAny_Call_Name_kw (iQ I hg hm hv ?_ hn bb);exact PyProof.Rows.callWith_builtin1 (thn (ha pos Zt s σ H _ I h) fun us s1 ⟨vs,H1,I1,r1,q1⟩=>hc Zt s1 σ H1 vs us Q I1 r1 q1) he aS
theorem iy(hc:gF X (.type T) r)(hg:Gl X x)(hm:X.mg x=none)(hv:bootBuiltins x=some (.type T))(ha:PA X (e::es) t)(hn:x≠"__name__":=by decide)(bb:(x==("__debug__":Str))=false:=by decide)
  (he:starEach (e::es) X.env=(false,eval e X.env)::starEach es X.env:=by rfl) (aS:(backTo pos (starEach es X.env)).any (·.1)=false:=by rfl):PE X (.Call (.Name x p) (e::es) [] pos) (tCB r t):=by
 intro Zt s σ H Q I h;refine wpAny_Call_Name_kw (iQ I hg hm hv ?_ hn bb);exact PyProof.Rows.callWith_type1 (thn (ha pos Zt s σ H _ I h) fun us s1 ⟨vs,H1,I1,r1,q1⟩=>hc Zt s1 σ H1 vs us Q I1 r1 q1) he aS
end
end L2
namespace HT
open PySem PyProof.Rows
section
open PySem.SeqAt
open PySem.AutoSeq1 (wpAny_loadPart')
open PySem.MeetsSeq PySem.MeetsSeq2 PySem.MeetsSeq3
end
section
variable{prog:Program}{w:World}{A:Around}{E:Value->Shared->Prop}{s:Shared}
theorem cat_tup{t b:Addr}{vs ws:List Value}{Q:Value->Shared->Prop}(ht:IsTup s.heap t vs.toArray)(hb:IsTup s.heap b ws.toArray)(hv:vs≠[])
  (h1:ws=[]->Q (.ref t) s) (h2:ws≠[]->Q (.ref s.heap.objs.size) {s with heap:=s.heap.push {cls:=.type "tuple",data:=.seq (vs++ws).toArray}})
  (hsz:vs.length+ws.length<=sizeLine):wpAny (model prog w) A (binaryOp .Add (.ref t) (.ref b)) Q E s:=by
 obtain⟨⟨cls,dd,data,sl⟩,ho,hc,n,hd⟩:=id ht;obtain⟨⟨BF,qr,data2,gz⟩,nr,kf,n2,hd2⟩:=id hb;simp only at hc hd kf hd2;subst hc hd kf hd2;have e:vs.toArray++ws.toArray=(vs++ws).toArray:=by simp
 by_cases hw:ws=[]
 .exact concat_meets ⟨_,ho,rfl⟩ ⟨_,nr,rfl⟩ noFill_tuple_add seq_tuple_add PySem.F.slot_tuple_add PySem.F.entry_tuple_add (PySem.F.args_tuple_add_2 _ _)
   (tuple_addW1 t b vs.toArray ws.toArray n n2 dd qr sl gz (by simpa using hv) (by simp[hw])) ⟨ho,nr,h1 hw⟩
 .refine concat_meets ⟨_,ho,rfl⟩ ⟨_,nr,rfl⟩ noFill_tuple_add seq_tuple_add PySem.F.slot_tuple_add PySem.F.entry_tuple_add (PySem.F.args_tuple_add_2 _ _)
   (tuple_addW2 t b vs.toArray ws.toArray n n2 dd qr sl gz (by simpa using hv) (by simpa using hw) (by rw[List.size_toArray,List.size_toArray];exact hsz)) ⟨ho,nr,?_⟩
  rw[e];exact h2 hw
def sIx(n d:Nat):Option Int->Nat
 |none=>d
 |some v=>if v<0 then(v+(n:Int)).toNat else min v.toNat n
end
end HT
namespace L2
open PySem PySem.Spec PyProof.Rows
abbrev TO:=St->Hp->(Option Int->Hp->Prop)->Prop
def PO(X:Cx)(e:Option Expr)(t:TO):Prop:=
 ∀(Zt:List (Addr×Obj)) (s:Shared) (σ:St) (H:Hp) (Q:Option Int->Hp->Prop),Inv X Zt σ H s->t σ H Q->
  wpAny (model X.prog X.w) X.A (evalPart e X.env) (fun u s'=>∃o H',Inv X Zt σ H' s'/\IsPart u o/\Q o H') X.xe s
def Bh:TO:=fun _ H Q=>Q none H
def Gi(t:TE):TO:=fun σ H Q=>t σ H fun x H1=>∃i,x=.int i/\Q (some i) H1
theorem intsAre_of{ns:List Int}:∀{us:List Value},Vals (ns.map V.int) us->IntsAre us ns:=by
 induction ns with
 |nil=>intro us r;rw[List.map_nil]at r;cases r;exact .nil
 |cons n ns ih=>
  intro us r;rw[zAk]at r
  cases r with
  |cons r1 r2=>
   obtain⟨t,e⟩:=r1;subst e;exact .cons n t (ih r2)
section
variable{X:Cx}{e:Expr}{te:TE}{lo hi:Option Expr}{tl th:TO}{pos p2:Pos}
theorem pG:PO X none Bh:=by
 intro Zt s σ H Q I h;rw[evalPart_none];exact zAz ⟨none,H,I,.none,h⟩
theorem pH(h:PE X e te):PO X (some e) (Gi te):=by
 intro Zt s σ H Q I hw;rw[evalPart_some];refine thn (h Zt s σ H _ I hw) fun u s1 ⟨x,H1,I1,r1,q1⟩=>?_;obtain⟨i,rfl,q⟩:=q1;obtain⟨t,rfl⟩:=r1;exact⟨some i,H1,I1,.int i t,q⟩
def SlR(X:Cx)(r:V->Option Int->Option Int->Hp->VK->Prop):Prop:=
 ∀(Zt:List (Addr×Obj)) (s:Shared) (σ:St) (H:Hp) (x:V) (v vl vu:Value) (lo hi:Option Int) (sl:Addr) (Q:VK),Inv X Zt σ H s->RelV x v->s.heap.IsSliceOf sl vl vu .none->IsPart vl lo->IsPart vu hi->r x lo hi H Q->
  ∃T id,typeLookup (.type T) "__getitem__"=pure (some (.builtin id))/\s.TypeIs v T/\wpAny (model X.prog X.w) X.A (getItem v (.ref sl)) (EP X Zt σ Q) X.xe s
def tSl(r:V->Option Int->Option Int->Hp->VK->Prop)(te:TE)(tl th:TO):TE:=fun σ H Q=>te σ H fun x H1=>tl σ H1 fun l H2=>th σ H2 fun u H3=>r x l u H3 Q
theorem lH{r:V->Option Int->Option Int->Hp->VK->Prop}(hr:SlR X r)(he:PE X e te)(hl:PO X lo tl)(hu:PO X hi th):PE X (.Subscript e (.Slice lo hi none p2) pos) (tSl r te tl th):=by
 intro Zt s σ H Q I h;refine Subscript_ (thn (he Zt s σ H _ I h) fun v s1 ⟨x,H1,I1,r1,q1⟩=>?_);refine wpAny_Slice (thn (hl Zt s1 σ H1 _ I1 q1) fun vl s2 ⟨l,H2,I2,pl,q2⟩=>thn (hu Zt s2 σ H2 _ I2 q2) fun vu s3 ⟨u,H3,I3,pu,q3⟩=>?_);rw[evalPart_none];refine zAz ?_;have I4:Inv X Zt σ H3 {s3 with heap:=s3.heap.push {cls:=.type "slice",data:=.fields #[vl,vu,.none]}}:=I3.kept (t':=s3.toks) fun b ob q=>zAu _ q;obtain⟨T,id,hT,ht,hg⟩:=hr Zt {s3 with heap:=s3.heap.push {cls:=.type "slice",data:=.fields #[vl,vu,.none]}} σ H3 x v vl vu l u s3.heap.objs.size Q I4 r1 (Heap.IsSliceOf.new ..) pl pu q3;show wpAny (model X.prog X.w) X.A (subscriptTail e (.Slice lo hi none p2) v (.ref s3.heap.objs.size)) (EP X Zt σ Q) X.xe {s3 with heap:=s3.heap.push {cls:=.type "slice",data:=.fields #[vl,vu,.none]}};exact tail_any (ops:=[.ref s3.heap.objs.size,v]) ht hT hg (by with_unfolding_all rfl)
def uB(xs:List V)(lo hi:Option Int):List V:=(xs.drop (HT.sIx xs.length 0 lo)).take (HT.sIx xs.length xs.length hi-HT.sIx xs.length 0 lo)
theorem rF(xs:List V)(lo hi:Option Int):(uB xs lo hi).length<=xs.length:=by
 unfold uB;rw[zAd,List.length_drop];lia
inductive RCatTI(K:Frag)(x:V)(y:V)(H:Hp)(Q:VK):Prop
 |mk:∀a b xs ys,(x=.ref a)->(y=.ref b)->(SqT K H a xs)->(SqT K H b ys)->(xs≠[])->(xs.length+ys.length<=sizeLine)->((ys=[]->Q (.ref a) H))->((ys≠[]->∀p,H p=none->Q (.ref p) (upd H p (.tup (xs++ys)))))->RCatTI K x y H Q
def Gj(K:Frag):R2:=fun x y H Q=>RCatTI K x y H Q
theorem Vals.nil_iff{xs:List V}{us:List Value}(r:Vals xs us):us=[]↔xs=[]:=by
 cases r with
 |nil=>simp
 |cons _ _=>simp
theorem Bj:OpR X (binaryOp .Add) (Gj X.K):=by
 intro Zt s σ H x y v u Q I rx ry h;obtain⟨a,b,xs,ys,rfl,rfl,ha,hb,hx,hz,q1,q2⟩:=h;cases rx;cases ry;obtain⟨Zr,r1,p1,_⟩:=I.tuple ha;obtain⟨bq,r2,p2,_⟩:=I.tuple hb;refine HT.cat_tup p1 p2 (fun z=>hx (r1.nil_iff.mp z)) (fun z=>⟨.ref a,H,I,rfl,q1 (r2.nil_iff.mp z)⟩) (fun z=>?_) (by rw[<-r1.length,<-r2.length];exact hz);refine⟨.ref s.heap.objs.size,_,I.laid (t':=s.toks) (o:=.tup (xs++ys)) (fun b ob q=>zAu _ q) (zA3 _) ?_,rfl,q2 (fun w=>z (r2.nil_iff.mpr w)) _ (I.hok.fresh (zA3 _))⟩;exact⟨by rw[zA2];exact hz,_,r1.append r2,IsTup.new _ _⟩
end
def ixN(n:Nat)(i:Int):Option Nat:=if 0<=i then(if i<n then some i.toNat else none)else if -(n:Int)<=i then some (i+n).toNat else none
def atI{α:Type}(xs:List α)(i:Int):Option α:=(ixN xs.length i).bind fun j=>xs[j]?
theorem pI{n:Nat}{i:Int}{j:Nat}(h:ixN n i=some j):seqIndex? i n=some j/\j<n/\-(n:Int)<=i/\i<n:=by
 unfold ixN at h;by_cases h0:0<=i
 .rw[zAx h0]at h;by_cases h1:i<n
  .rw[zAx h1]at h;have e:i.toNat=j:=zAl h;exact⟨by rw[seqIndex_of h0 h1,e],Zz,Zz,h1⟩
  .rw[zAw h1]at h;cases h
 .rw[zAw h0]at h;by_cases h1:-(n:Int)<=i
  .rw[zAx h1]at h;have e:(i+n).toNat=j:=zAl h;exact⟨by rw[seqIndex_neg Zz h1,e],Zz,h1,Zz⟩
  .rw[zAw h1]at h;cases h
theorem vG{α:Type}{xs:List α}{i:Int}{v:α}(h:atI xs i=some v):∃j,seqIndex? i xs.length=some j/\xs[j]?=some v/\j<xs.length/\-(xs.length:Int)<=i/\i<xs.length:=by
 unfold atI at h
 cases e:ixN xs.length i with
 |none=>rw[e]at h;cases h
 |some j=>
  rw[e]at h;obtain⟨h1,h2,h3,h4⟩:=pI e;exact⟨j,h1,h,h2,h3,h4⟩
theorem iz{α:Type}{xs:List α}{j:Nat}{v:α}(h:xs[j]?=some v):atI xs (j:Int)=some v:=by
 have hj:j<xs.length:=(zAa.mp h).1
 have e:ixN xs.length (j:Int)=some j:=by
  unfold ixN;rw[if_pos Zz,if_pos Zz];simp
 unfold atI;rw[e];exact h
def pJ(b:Expr):Prop:=∀o i,subscripted b false o i=operate [o,i] (getItem o i)
def IxR(X:Cx)(r:R2):Prop:=
 ∀(value slice:Expr) (Zt:List (Addr×Obj)) (s:Shared) (σ:St) (H:Hp) (x y:V) (v u:Value) (Q:VK),Inv X Zt σ H s->RelV x v->RelV y u->r x y H Q->
  subscripted slice false v u=operate [v,u] (getItem v u)->wpAny (model X.prog X.w) X.A (subscriptTail value slice v u) (EP X Zt σ Q) X.xe s
def MtR(X:Cx)(id:String)(r:V->List V->Hp->VK->Prop):Prop:=
 ∀(Zt:List (Addr×Obj)) (s:Shared) (σ:St) (H:Hp) (x:V) (xs:List V) (v:Value) (us:List Value) (Q:VK),Inv X Zt σ H s->RelV x v->Vals xs us->r x xs H Q->
  wpAny (model X.prog X.w) X.A (call (.builtin id) (v::us)) (EP X Zt σ Q) X.xe s
section
variable{X:Cx}{a b:Expr}{ta tb:TE}{pos:Pos}
theorem Dn{r:R2}(hr:IxR X r)(ha:PE X a ta)(hb:PE X b tb)(hs:pJ b):PE X (.Subscript a b pos) (tOp r ta tb):=by
 intro Zt s σ H Q I h;exact Subscript_ (Ec ha hb I h fun v u s2 x y H2 I2 rx ry q=>hr a b Zt s2 σ H2 x y v u Q I2 rx ry q (hs _ _))
inductive RIxLI(K:Frag)(x:V)(y:V)(H:Hp)(Q:VK):Prop
 |mk:∀p xs i v,(x=.ref p)->(y=.int i)->(SqL K H p xs)->(atI xs i=some v)->(Q v H)->RIxLI K x y H Q
def Gk(K:Frag):R2:=fun x y H Q=>RIxLI K x y H Q
inductive RIxTI(K:Frag)(x:V)(y:V)(H:Hp)(Q:VK):Prop
 |mk:∀p xs i v,(x=.ref p)->(y=.int i)->(SqT K H p xs)->(atI xs i=some v)->(Q v H)->RIxTI K x y H Q
def Hs(K:Frag):R2:=fun x y H Q=>RIxTI K x y H Q
theorem bK:IxR X (Gk X.K):=by
 intro value slice Zt s σ H x y v u Q I rx ry h hs;obtain⟨p,xs,i,z,rfl,rfl,hq,he,q⟩:=h;cases rx;obtain⟨t,rfl⟩:=ry;obtain⟨Zr,r,pl,hz⟩:=I.list hq;obtain⟨j,h1,h2,h3,h4,h5⟩:=vG he;obtain⟨w,ew,bP⟩:=r.get h2;have hl:=r.length;have hn:=jF
 have fin:EP X Zt σ Q w s:=⟨z,H,I,bP,q⟩
 by_cases h0:0<=i
 .have hj:i.toNat=j:=by
   rw[seqIndex_of h0 h5]at h1;exact zAl h1
  exact item_listR pl.isList h0 Zz (by rw[hj];simpa using ew) fin hs
 .have hj:(i+(Zr.toArray.size:Int)).toNat=j:=by
   rw[seqIndex_neg Zz h4]at h1;rw[zA8,<-hl];exact zAl h1
  exact subscriptTail_builtinR (x:=w) pl.isList.typeIs slot_list_getitem.lookup
   (wpAny_getItem_list_neg (Q:=fun r s'=>r=w/\EP X Zt σ Q r s') pl.isList Zz (by rw[List.size_toArray]<;>lia) Zz (by rw[hj];simpa using ew) ⟨rfl,fin⟩) hs
theorem aZ:IxR X (Hs X.K):=by
 intro value slice Zt s σ H x y v u Q I rx ry h hs;obtain⟨p,xs,i,z,rfl,rfl,hq,he,q⟩:=h;cases rx;obtain⟨t,rfl⟩:=ry;obtain⟨Zr,r,pl,hz⟩:=I.tuple hq;obtain⟨j,h1,h2,h3,h4,h5⟩:=vG he;obtain⟨w,ew,bP⟩:=r.get h2;have hl:=r.length;have hn:=jF
 have fin:EP X Zt σ Q w s:=⟨z,H,I,bP,q⟩
 exact subscriptTail_builtinR (x:=w) pl.typeIs slot_tuple_getitem.lookup
  (getItem_tuple (j:=j) (Q:=fun r s'=>r=w/\EP X Zt σ Q r s') pl Zz Zz (by rw[List.size_toArray,<-hl];exact h1) (by simpa using ew) ⟨rfl,fin⟩) hs
theorem uC(Zr:List Value)(n j:Nat)(u:Value):Obj.mapSeq (·.setIfInBounds j u) {cls:=.type "list",data:=.seq Zr.toArray n}={cls:=.type "list",data:=.seq (Zr.set j u).toArray n}:=by
 simp[Obj.mapSeq]
theorem Inv.lst{Zt:List (Addr×Obj)}{σ:St}{H:Hp}{s:Shared}{p:Addr}{xs:List V}(I:Inv X Zt σ H s)(h:H p=some (.lst xs)):
  ∃(Zr:List Value) (n:Nat),Vals xs Zr/\s.heap.get? p=some {cls:=.type "list",data:=.seq Zr.toArray n}/\xs.length<=sizeLine:=by
 obtain⟨z,Zr,n,r,e⟩:=I.hok p _ h;exact⟨Zr,n,r,e,z⟩
theorem Inv.lstUpd{Zt:List (Addr×Obj)}{σ:St}{H:Hp}{s:Shared}{p:Addr}{xs ys:List V}{Zr its':List Value}{n n':Nat}{f:Obj->Obj}(I:Inv X Zt σ H s)(h:H p=some (.lst xs))
  (ho:s.heap.get? p=some {cls:=.type "list",data:=.seq Zr.toArray n}) (hf:f {cls:=.type "list",data:=.seq Zr.toArray n}={cls:=.type "list",data:=.seq its'.toArray n'}) (r:Vals ys its') (hz:ys.length<=sizeLine) (t:Nat):
  Inv X Zt σ (upd H p (.lst ys)) {s with heap:=s.heap.update p f,toks:=t}:=by
 have e:(s.heap.update p f).get? p=some {cls:=.type "list",data:=.seq its'.toArray n'}:=by
  rw[Heap.get?_update_self f ho (by rw[hf]<;>rfl),hf]
 refine I.write (x:=p) (e:=p) (by rw[h];trivial) (.inl rfl) (fun b u hb q=>(Heap.get?_update_other _ _ (Ne.symm hb)).trans q) ⟨_,e⟩ ?_;exact⟨hz,its',n',r,e⟩
inductive RSetLI(o:V)(i:V)(v:V)(H:Hp)(Q:Hp->Prop):Prop
 |mk:∀p xs k j,(o=.ref p)->(i=.int k)->(H p=some (.lst xs))->(ixN xs.length k=some j)->(Q (upd H p (.lst (xs.set j v))))->RSetLI  o i v H Q
def Gm:V->V->V->Hp->(Hp->Prop)->Prop:=fun o i v H Q=>RSetLI  o i v H Q
theorem set_list:DW X Gm:=by
 intro Zt s σ H o i v ov iv u Q I ro ri rv h;obtain⟨p,xs,k,j,rfl,rfl,hp,hj,q⟩:=h;cases ro;obtain⟨t,rfl⟩:=ri;obtain⟨Zr,n,r,ho,hz⟩:=I.lst hp;obtain⟨h1,h2,h3,h4⟩:=pI hj;have hl:=r.length;have hn:=jF
 have I':Inv X Zt σ (upd H p (.lst (xs.set j v))) {s with heap:=s.heap.update p (Obj.mapSeq (·.setIfInBounds j u))}:=
  I.lstUpd hp ho (uC Zr n j u) (r.set rv j) (by rw[List.length_set];exact hz) s.toks
 by_cases h0:0<=k
 .have hk:k.toNat=j:=by
   rw[seqIndex_of h0 h4]at h1;exact zAl h1
  exact PySem.W.ki_setAt ho h0 Zz (by rw[zA8,<-hl];exact h4) (by rw[hk];exact⟨_,I',q⟩)
 .have hk:(k+(Zr.toArray.size:Int)).toNat=j:=by
   rw[seqIndex_neg Zz h3]at h1;rw[zA8,<-hl];exact zAl h1
  exact PySem.W.ki_setBack ho Zz (by rw[zA8,<-hl];exact h3) Zz (by rw[hk];exact⟨_,I',q⟩)
theorem pK(lo hi:Option Int)(n:Nat):(sliceBounds lo hi none n).1=((HT.sIx n 0 lo:Nat):Int)/\(sliceBounds lo hi none n).2.1=((HT.sIx n n hi:Nat):Int)/\(sliceBounds lo hi none n).2.2=1:=by
 refine⟨?_,?_,rfl⟩
 .cases lo with
  |none=>simp[sliceBounds,HT.sIx]
  |some i=>
   simp only[sliceBounds,HT.sIx,Option.getD_none,show(1:Int)>0 by decide,if_true];by_cases h:i<0
   .simp only[h,if_true]<;>lia
   .simp only[h,if_false]<;>lia
 .cases hi with
  |none=>simp[sliceBounds,HT.sIx]
  |some i=>
   simp only[sliceBounds,HT.sIx,Option.getD_none,show(1:Int)>0 by decide,if_true];by_cases h:i<0
   .simp only[h,if_true]<;>lia
   .simp only[h,if_false]<;>lia
theorem mX(Zr:List Value)(lo hi:Option Int):slicePick Zr.toArray lo hi none=((Zr.drop (HT.sIx Zr.length 0 lo)).take (HT.sIx Zr.length Zr.length hi-HT.sIx Zr.length 0 lo)).toArray:=by
 obtain⟨h1,h2,h3⟩:=pK lo hi Zr.toArray.size;unfold slicePick;rw[h1,h2,h3];simp only[sliceRange_one,pick_run,List.size_toArray]<;>rfl
inductive RSlLI(K:Frag)(x:V)(lo:Option Int)(hi:Option Int)(H:Hp)(Q:VK):Prop
 |mk:∀a xs,(x=.ref a)->(SqL K H a xs)->(∀p,H p=none->Q (.ref p) (upd H p (.lst (uB xs lo hi))))->RSlLI K x lo hi H Q
def Ht(K:Frag):V->Option Int->Option Int->Hp->VK->Prop:=fun x lo hi H Q=>RSlLI K x lo hi H Q
theorem pL:SlR X (Ht X.K):=by
 intro Zt s σ H x v vl vu lo hi sl Q I rx hs pl pu h;obtain⟨a,xs,rfl,hx,q⟩:=h;cases rx;obtain⟨Zr,r,ht,hz⟩:=I.list hx;have hlen:=r.length;refine⟨"list",_,slot_list_getitem.lookup,ht.isList.typeIs,?_⟩;refine wpAny_getItem_list_slice ht.isList hs pl pu .none Zy ?_ (by rw[List.size_toArray]<;>lia);rw[mX,<-hlen];refine⟨.ref s.heap.objs.size,_,I.laid (t':=s.toks) (o:=.lst (uB xs lo hi)) (fun b ob q=>Heap.get?_push_of_some _ q) (zA3 _) ?_,rfl,q _ (I.hok.fresh (zA3 _))⟩;exact⟨Nat.le_trans (rF xs lo hi) hz,_,0,(r.drop (HT.sIx xs.length 0 lo)).take (HT.sIx xs.length xs.length hi-HT.sIx xs.length 0 lo),Heap.get?_push_size _ rfl⟩
theorem aP:gF X (.builtin "len") (fun xs H Q=>∃p ys,xs=[.ref p]/\(SqL X.K H p ys\/SqT X.K H p ys)/\Q (.int ys.length) H):=by
 intro Zt s σ H xs us Q I r h;obtain⟨p,ys,rfl,hq,q⟩:=h;obtain⟨u,rfl,rx⟩:=vals1 r;cases rx;have hn:=jF;rcases hq with hq|hq
 .obtain⟨Zr,r',pl,hz⟩:=I.list hq;have hlen:=r'.length;exact Calls.call_len_list pl.isList (by simp only[List.size_toArray]<;>lia) ⟨.int ys.length,H,I.tok _,⟨s.toks+1,by rw[List.size_toArray,hlen]⟩,q⟩
 .obtain⟨Zr,r',pl,hz⟩:=I.tuple hq;have hlen:=r'.length;exact len_tuple pl (by simp only[List.size_toArray]<;>lia) ⟨.int ys.length,H,I.tok _,⟨s.toks+1,by rw[List.size_toArray,hlen]⟩,q⟩
theorem fG:gF X (.type "tuple") (fun xs H Q=>∃p ys,xs=[.ref p]/\((SqL X.K H p ys/\∀l,H l=none->Q (.ref l) (upd H l (.tup ys)))\/(SqT X.K H p ys/\Q (.ref p) H))):=by
 intro Zt s σ H xs us Q I r h;obtain⟨p,ys,rfl,h⟩:=h;obtain⟨u,rfl,rx⟩:=vals1 r;cases rx;rcases h with⟨hq,q⟩|⟨hq,q⟩
 .obtain⟨Zr,r',pl,hz⟩:=I.list hq;have hlen:=r'.length;refine call_tuple_list pl.isList (fun h' kp=>?_) (by simp only[List.size_toArray]<;>lia);have I1:Inv X Zt σ H {s with heap:=h'}:=I.kept (t':=s.toks) kp
  have I2:Inv X Zt σ (upd H h'.objs.size (.tup ys)) {s with heap:=h'.push {cls:=.type "tuple",data:=.seq Zr.toArray}}:=
   I1.laid (t':=s.toks) (fun b o e=>zAu _ e) (zA3 _) (show ObjOk X.prog X.w _ _ _ (.tup ys)from⟨hz,Zr,r',IsTup.new _ _⟩)
  exact⟨.ref h'.objs.size,_,I2,rfl,q _ (I1.hok.fresh (zA3 _))⟩
 .obtain⟨Zr,r',pl,hz⟩:=I.tuple hq;exact call_tuple_same pl ⟨.ref p,H,I,rfl,q⟩
def tyV(K:Frag)(T:String)(x:V)(H:Hp):Prop:=match x with
 |.str _=>T="str"
 |.int _=>T="int"
 |.ref p=>(T="list"/\∃xs,SqL K H p xs)\/(T="tuple"/\∃o,K.lookup p=some o/\o.cls=.type "tuple"/\o.dict=none) \/
   (T="dict"/\((∃Zs,H p=some (.dK Zs))\/∃Zs,H p=some (.dT Zs)))\/(T="set"/\∃S n,H p=some (.set S n))
 |_=>False
theorem Eg{Zt:List (Addr×Obj)}{σ:St}{H:Hp}{s:Shared}{T:String}{x:V}{v:Value}(I:Inv X Zt σ H s)(r:RelV x v)(ty:tyV X.K T x H):
  s.TypeIs v T/\∀a,v=.ref a->∃ob,s.heap.get? a=some ob/\ob.dict=none:=by
 cases x with
 |str z=>
  obtain⟨t,rfl⟩:=r;cases(show T="str" from ty);exact⟨typeIs_str s z t,fun _ e=>nomatch e⟩
 |int i=>
  obtain⟨t,rfl⟩:=r;cases(show T="int" from ty);exact⟨typeIs_int s i t,fun _ e=>nomatch e⟩
 |ref p=>
  cases r;rcases ty with⟨rfl,xs,hq⟩|⟨rfl,o,hk,hc,hd⟩|⟨rfl,hk⟩|⟨rfl,S,n,hk⟩
  .obtain⟨Zr,_,pl,_⟩:=I.list hq;refine⟨pl.isList.typeIs,fun a e=>?_⟩;cases e;obtain⟨o,n,e,c,hd,_⟩:=pl;exact⟨o,e,hd⟩
  .refine⟨⟨o,I.kIn p o hk,hc⟩,fun a e=>?_⟩;cases e;exact⟨o,I.kIn _ o hk,hd⟩
  .have z:∃o,s.heap.get? p=some o/\o.ExactDict:=by
    rcases hk with⟨Zs,hk⟩|⟨Zs,hk⟩
    .obtain⟨_,_,_,_,o,_,_,e,ex,_⟩:=I.hok p _ hk;exact⟨o,e,ex⟩
    .obtain⟨_,_,_,_,o,_,_,e,ex,_⟩:=I.hok p _ hk;exact⟨o,e,ex⟩
   obtain⟨o,e,ex⟩:=z;refine⟨⟨o,e,ex.1⟩,fun a e2=>?_⟩;cases e2;exact⟨o,e,ex.2.1⟩
  .obtain⟨o,_,_,_,e,ex,_⟩:=I.hok p _ hk;refine⟨⟨o,e,ex.1⟩,fun a e2=>?_⟩;cases e2;exact⟨o,e,ex.2.1⟩
 |_=>exact False.elim ty
def tBM(K:Frag)(T:String)(r:V->List V->Hp->VK->Prop)(to:TE)(t:TA):TE:=fun σ H Q=>to σ H fun x H1=>tyV K T x H1/\t σ H1 fun xs H2=>r x xs H2 Q
variable{o e:Expr}{es:List Expr}{to:TE}{t:TA}{name:Str}{apos ar:Pos}{T id:String}{r:V->List V->Hp->VK->Prop}
theorem gG(pa:PlainAttrs T)(slot:Slot T name id)(Ks:typeOf (.builtin id)=pure (.type "method_descriptor"))(hm:MtR X id r)(ho:PE X o to)(ha:PA X (e::es) t)
  (sR:attributeBase o name X.env (eval o X.env)=eval o X.env:=by rfl)
  (BG:((backTo ar (starEach (e::es) X.env)).all (fun x=>!x.1)&&(backToKw ar (keywordEach [] X.env)).all (fun x=>x.1.isSome)
   && decide ((e::es).length+([]:List Keyword).length+(if([]:List Keyword).isEmpty then 0 else 1)<30))=true:=by rfl)
  (hline:(apos.endLine==ar.line)=true:=by rfl) (hs:starEach (e::es) X.env=(false,eval e X.env)::starEach es X.env:=by rfl) (nv:(backTo ar (starEach es X.env)).any (·.1)=false:=by rfl):
  PE X (.Call (.Attribute o name apos) (e::es) [] ar) (tBM X.K T r to t):=by
 intro Zt s σ H Q I h;refine wpAny_Call_method_late sR BG hline rfl (thn (ho Zt s σ H _ I h) fun v s1 ⟨x,H1,I1,r1,ty,q1⟩=>?_);obtain⟨h1,h2⟩:=Eg I1 r1 ty;refine⟨T,id,pa,slot,Ks,h1,h2,?_⟩;have hA:=ha ar Zt s1 σ H1 _ I1 q1;rw[hs]at hA⊢;refine Calls.callWith_builtin (by show(false||(backTo ar (starEach es X.env)).any (·.1))=false;rw[nv]<;>rfl) (Calls.evalArgs_plain ?_);exact thn hA fun us s2 ⟨vs,H2,I2,r2,q2⟩=>hm Zt s2 σ H2 x vs v us Q I2 r1 r2 q2
end
def MtM(X:Cx)(id:String)(r:V->List V->Hp->VK->Prop):Prop:=
 ∀(Zt:List (Addr×Obj)) (s:Shared) (σ:St) (H:Hp) (x:V) (xs:List V) (v:Value) (us:List Value) (Q:VK),Inv X Zt σ H s->RelV x v->Vals xs us->r x xs H Q->
  wpAny (model X.prog X.w) X.A (call (.builtin id) (v::us)) (EP X Zt σ Q) X.xe s
theorem Vals.one:∀{x:V} {us:List Value},Vals [x] us->∃u,us=[u]/\RelV x u
 |_,_,.cons r .nil=>⟨_,rfl,r⟩
theorem Vals.two{x y:V}{us:List Value}(r:Vals [x,y] us):∃u v,us=[u,v]/\RelV x u/\RelV y v:=
 vals2 r
theorem Vals.zero:∀{us:List Value},Vals [] us->us=[]
 |_,.nil=>rfl
theorem Vals.eraseIdx:∀{xs:List V} {us:List Value} (i:Nat),Vals xs us->Vals (xs.eraseIdx i) (us.eraseIdx i)
 |_,_,_,.nil=>.nil
 |_,_,0,.cons _ t=>t
 |_,_,i+1,.cons r t=>.cons r (Vals.eraseIdx i t)
theorem Vals.rep{xs:List V}{us:List Value}(h:Vals xs us):∀k:Nat,Vals (List.replicate k xs).flatten (List.replicate k us).flatten
 |0=>.nil
 |k+1=>by
  rw[List.replicate_succ,List.replicate_succ,List.flatten_cons,List.flatten_cons];exact Vals.append h (Vals.rep h k)
theorem jJ{α:Type}:∀(l:List α) (i:Nat),(l.eraseIdx i).length<=l.length
 |[],_=>zA3 _
 |_::_,0=>Nat.le_succ _
 |_::r,i+1=>Nat.succ_le_succ (jJ r i)
theorem foldl_rep(Zr:List Value):∀(k:Nat) (acc:List Value),
  List.foldl (fun x1 x2=>x1++x2) acc.toArray (List.replicate k Zr.toArray)=(acc++(List.replicate k Zr).flatten).toArray
 |0,acc=>by simp
 |k+1,acc=>by
  have e:acc.toArray++Zr.toArray=(acc++Zr).toArray:=by simp
  have e2:(acc++Zr)++(List.replicate k Zr).flatten=acc++(List.replicate (k+1) Zr).flatten:=by
   rw[List.replicate_succ,List.flatten_cons,zAf]
  rw[<-e2,<-foldl_rep Zr k (acc++Zr),<-e,List.replicate_succ,List.foldl_cons]
section
variable{X:Cx}{Zt:List (Addr×Obj)}{σ:St}{H:Hp}{s:Shared}{l b:Addr}{xs ys zs:List V}
theorem Inv.lset{Zr its':List Value}{n:Nat}{f:Array Value->Array Value}{t':Nat}(I:Inv X Zt σ H s)(hH:H l=some (.lst xs))
  (e:s.heap.get? l=some {cls:=.type "list",data:=.seq Zr.toArray n}) (hf:f Zr.toArray=its'.toArray) (hv:Vals ys its') (hz:ys.length<=sizeLine):
  Inv X Zt σ (upd H l (.lst ys)) {s with heap:=s.heap.update l (Obj.mapSeq f),toks:=t'}:=by
 have q:=PySem.IsL.update e f;rw[hf]at q;refine I.write (x:=l) (e:=l) (by rw[hH];exact trivial) (.inl rfl) (fun b' u hb hu=>(Heap.get?_update_other s.heap (Obj.mapSeq f) (Ne.symm hb)).trans hu) ⟨_,q⟩ ?_;exact⟨hz,its',_,hv,q⟩
theorem Inv.lnew{Zr:List Value}{t':Nat}(I:Inv X Zt σ H s)(hv:Vals ys Zr)(hz:ys.length<=sizeLine):
  Inv X Zt σ (upd H s.heap.objs.size (.lst ys)) {s with heap:=s.heap.push {cls:=.type "list",data:=.seq Zr.toArray},toks:=t'}:=
 I.laid (fun _ _ q=>zAu _ q) (zA3 _) ⟨hz,Zr,0,hv,zB1 _ rfl⟩
theorem Inv.fresh(I:Inv X Zt σ H s):H s.heap.objs.size=none:=I.hok.fresh (zA3 _)
theorem Inv.lstM(I:Inv X Zt σ H s)(hH:H l=some (.lst xs)):xs.length<=sizeLine/\∃(Zr:List Value) (n:Nat),Vals xs Zr/\xs.length=Zr.length/\s.heap.get? l=some {cls:=.type "list",data:=.seq Zr.toArray n}:=by
 obtain⟨z,Zr,n,r,e⟩:=I.hok l _ hH;exact⟨z,Zr,n,r,r.length,e⟩
theorem rG{n:Nat}(h:n<=sizeLine):Builtin.List.listTooLong n=false:=by
 unfold Builtin.List.listTooLong;exact zB4 Zz
end
section
variable{X:Cx}
inductive RAppendI(x:V)(vs:List V)(H:Hp)(Q:VK):Prop
 |mk:∀l xs y,(x=.ref l)->(vs=[y])->(H l=some (.lst xs))->(xs.length<sizeLine)->(Q .non (upd H l (.lst (xs++[y]))))->RAppendI  x vs H Q
def Bl:V->List V->Hp->VK->Prop:=fun x vs H Q=>RAppendI  x vs H Q
theorem eF:MtM X "list.append" Bl:=by
 intro Zt s σ H x vs v us Q I rx rv h;obtain⟨l,xs,y,rfl,rfl,hH,hz,q⟩:=h;cases rx;obtain⟨u,rfl,ru⟩:=rv.one;obtain⟨z,Zr,n,r,hl,e⟩:=I.lstM hH;refine call_meets F.slot_list_append ⟨_,e,rfl⟩ F.entry_list_append (F.args_list_append_2 _ _) (PySem.list_append l Zr.toArray n u (by rw[zA8];lia)) ⟨e,?_⟩;refine⟨.non,_,I.lset (its':=Zr++[u]) hH e Zy (r.append (.cons ru .nil)) ?_,rfl,q⟩;rw[zA2,List.length_singleton];lia
inductive RExtendI(x:V)(vs:List V)(H:Hp)(Q:VK):Prop
 |mk:∀l b xs zs,(x=.ref l)->(vs=[.ref b])->(H l=some (.lst xs))->(H b=some (.lst zs))->(xs.length+zs.length<=sizeLine)->(Q .non (upd H l (.lst (xs++zs))))->RExtendI  x vs H Q
def Bm:V->List V->Hp->VK->Prop:=fun x vs H Q=>RExtendI  x vs H Q
theorem FT:MtM X "list.extend" Bm:=by
 intro Zt s σ H x vs v us Q I rx rv h;obtain⟨l,b,xs,zs,rfl,rfl,hH,hB,hz,q⟩:=h;cases rx;obtain⟨u,rfl,ru⟩:=rv.one;cases ru;obtain⟨z,Zr,n,r,hl,e⟩:=I.lstM hH;obtain⟨z2,bq,n2,r2,iX,e2⟩:=I.lstM hB;have hsz:Zr.toArray.size+bq.toArray.size<=sizeLine:=by rw[zA8,zA8];lia
 have g9:¬(!Zr.toArray.isEmpty&&Builtin.List.listTooLong (Zr.toArray.size+bq.toArray.size))=true:=by
  rw[rG hsz,Bool.and_false];exact zAg
 refine call_meets F.slot_list_extend ⟨_,e,rfl⟩ F.entry_list_extend (F.args_list_extend_2 _ _)
  (AutoSeq1.list_extend_list_list_0 l Zr.toArray n b bq.toArray n2 g9 (by rw[zA8];lia) Zz) ⟨e,e2,?_⟩
 refine⟨.non,_,I.lset (its':=Zr++bq) hH e Zy (r.append r2) ?_,rfl,q⟩;rw[zA2];lia
inductive RPopAtI(x:V)(vs:List V)(H:Hp)(Q:VK):Prop
 |mk:∀l xs i k y,(x=.ref l)->(vs=[.int i])->(H l=some (.lst xs))->(-(2^63)<=i)->(i<2^63)->(seqIndex? i xs.length=some k)->(xs[k]?=some y)->(Q y (upd H l (.lst (xs.eraseIdx k))))->RPopAtI  x vs H Q
def Eh:V->List V->Hp->VK->Prop:=fun x vs H Q=>RPopAtI  x vs H Q
theorem rH:MtM X "list.pop" Eh:=by
 intro Zt s σ H x vs v us Q I rx rv h;obtain⟨l,xs,i,k,y,rfl,rfl,hH,h1,h2,hk,hy,q⟩:=h;cases rx;obtain⟨u,rfl,ru⟩:=rv.one;obtain⟨t,rfl⟩:=ru;obtain⟨z,Zr,n,r,hl,e⟩:=I.lstM hH;obtain⟨w,hw,bP⟩:=r.get hy
 refine call_meets F.slot_list_pop ⟨_,e,rfl⟩ F.entry_list_pop (F.args_list_pop_2 _ _)
  (MeetsSeq.list_pop_at l Zr.toArray n i t k w (fitsIndex_both h1 h2) (by rw[zA8,<-hl];exact hk) (by rw[<-Array.getElem?_toList];exact hw) (by rw[zA8];lia)) ⟨e,?_⟩
 refine⟨y,_,I.lset (its':=Zr.eraseIdx k) hH e ?_ (r.eraseIdx k) ?_,bP,q⟩
 .show Zr.toArray.eraseIdxIfInBounds k=(Zr.eraseIdx k).toArray;rw[List.eraseIdxIfInBounds_toArray]
 .have:=jJ xs k;lia
inductive RCatI(x:V)(y:V)(H:Hp)(Q:VK):Prop
 |mk:∀l b xs zs,(x=.ref l)->(y=.ref b)->(H l=some (.lst xs))->(H b=some (.lst zs))->(xs.length+zs.length<=sizeLine)->(∀p,H p=none->Q (.ref p) (upd H p (.lst (xs++zs))))->RCatI  x y H Q
def Hu:R2:=fun x y H Q=>RCatI  x y H Q
theorem gP:OpR X (binaryOp .Add) Hu:=by
 intro Zt s σ H x y v u Q I rx ry h;obtain⟨l,b,xs,zs,rfl,rfl,hH,hB,hz,q⟩:=h;cases rx;cases ry;obtain⟨z,Zr,n,r,hl,e⟩:=I.lstM hH;obtain⟨z2,bq,n2,r2,iX,e2⟩:=I.lstM hB;refine PySem.P.add_list e e2 ?_ (by rw[zA8,zA8];lia);have ea:Zr.toArray++bq.toArray=(Zr++bq).toArray:=by simp
 rw[ea];exact⟨.ref _,_,I.lnew (t':=s.toks) (r.append r2) (by rw[zA2];lia),rfl,q _ I.fresh⟩
inductive RRepI(x:V)(y:V)(H:Hp)(Q:VK):Prop
 |mk:∀l k xs,(x=.ref l)->(y=.int k)->(H l=some (.lst xs))->(-(2^63)<=k)->(k<2^63)->(xs.length*k.toNat<=sizeLine)->(∀p,H p=none->Q (.ref p) (upd H p (.lst (List.replicate k.toNat xs).flatten)))->RRepI  x y H Q
def Hv:R2:=fun x y H Q=>RRepI  x y H Q
theorem len_rep{α:Type}(xs:List α)(k:Nat):(List.replicate k xs).flatten.length=k*xs.length:=by
 induction k with
 |zero=>simp
 |succ k ih=>rw[List.replicate_succ,List.flatten_cons,zA2,ih,Nat.succ_mul,Nat.add_comm]
theorem pM:OpR X (binaryOp .Mult) Hv:=by
 intro Zt s σ H x y v u Q I rx ry h;obtain⟨l,k,xs,rfl,rfl,hH,h1,h2,hz,q⟩:=h;cases rx;obtain⟨t,rfl⟩:=ry;obtain⟨z,Zr,n,r,hl,e⟩:=I.lstM hH;have hlen:Zr.toArray.size*k.toNat<=sizeLine:=by rw[zA8,<-hl];exact hz
 have BH:¬Zr.toArray.size*k.toNat>(2^63-1) / 8:=by
  have:(sizeLine:Nat)<=(2^63-1) / 8:=by decide
  lia
 have BI:¬(!Builtin.List.listFitsIndex k)=true:=by
  rw[fitsIndex_both h1 h2];exact zAg
 have g9:¬Builtin.List.listTooLong (Zr.toArray.size*k.toNat)=true:=by
  rw[rG hlen];exact zAg
 have BM:List.foldl (fun x1 x2=>x1++x2) #[] (List.replicate (if Zr.toArray.isEmpty=true then 0 else k.toNat) Zr.toArray)=(List.replicate k.toNat Zr).flatten.toArray:=by
  have f0:∀m:Nat,List.foldl (fun x1 x2=>x1++x2) #[] (List.replicate m Zr.toArray)=(List.replicate m Zr).flatten.toArray:=fun m=>by
   have:=foldl_rep Zr m [];rw[List.nil_append]at this;exact this
  rw[f0]
  cases Zr with
  |nil=>simp
  |cons a r'=>rw[if_neg Zy]
 refine wpAny_binaryOp_repeat_ref (T:="list") (U:="int") Zx ⟨_,e,rfl⟩ (fun s'=>typeIs_int s' k t) noFill_list_mul F.fills_int_mul F.slot_int_rmul repeat_list F.slot_int_index.lookup
  (call_meets F.slot_int_rmul (typeIs_int s k t) F.entry_int_rmul (F.args_int_rmul_2 _ _) (int___rmul___int_list k t l Zr.toArray n)
   ⟨e,rfl,⟨_,e,rfl⟩,call_meets F.slot_list_mul ⟨_,e,rfl⟩ F.entry_list_mul (F.args_list_mul_2 _ _) (AutoListH.list___mul___list_int_3 l Zr.toArray n k t BI BH g9) ⟨e,?_⟩⟩)
 rw[BM];exact⟨.ref _,_,I.lnew (t':=s.toks) (r.rep k.toNat) (by rw[len_rep,Nat.mul_comm];exact hz),rfl,q _ I.fresh⟩
end
section
variable{prog:Program}{w:World}{A:Around}{E:Value->Shared->Prop}{s:Shared}
set_option maxRecDepth 100000 in
end
section
variable{X:Cx}
end
end L2
namespace Att
open PySem PySem.W PySem.Calls PyProof.Rows
theorem kW{P:Params}{h:Heap}:∀(ns:List Int) (vs:List Value),WellAll P h vs (ns.map WData.int)->IntsAre vs ns:=by
 intro ns
 induction ns with
 |nil=>
  intro vs w;rw[List.map_nil]at w;cases w;exact .nil
 |cons n ns ih=>
  intro vs w;rw[zAk]at w
  cases w with
  |cons a b=>
   cases a;exact .cons _ _ (ih _ b)
theorem wZ{l:OpenLaw}{n:Nat}(hn:l.most=some n){P:Params}{h:Heap}{args:List WData}{vals:List Value}
  (kg:l.row.toRowW.claim.pre args=true) (BN:WellAll P h vals args):
  ∃a vs ns,vals=[Value.ref a]/\args=[WData.list (ns.map WData.int)]/\h.get? a=some {cls:=.type "list",data:=.seq vs.toArray}/\IntsAre vs ns/\ns.length<=n:=by
 have Kt:WShape.hasAll [] args [.list .int]=true:=(pre_splitW kg).1;have hc:l.pre.holds [] {args:=args}=true:=(pre_splitW kg).2;obtain⟨d,r,rfl,h1,h2⟩:=hasAllW_cons Kt;obtain rfl:=hasAllW_nil h2;obtain⟨xs,rfl,h3⟩:=hasW_list h1;obtain⟨ns,rfl⟩:=items_int h3
 have hlen:ns.length<=n:=by
  unfold OpenLaw.pre at hc
  have h4:(WTm.not (.lt (.lit (.int (n:Int))) (.len (.arg 0)))).holds [] {args:=[.list (ns.map .int)]}=true:=by
   have h4:=(holds_andW hc).1;rw[hn]at h4;exact h4
  have h5:=condW_of h4 (w_not (w_lt w_lit (w_len_list (w_arg rfl))));rw[zA1]at h5;refine Nat.le_of_not_lt fun q=>?_;have q':(n:Int)<((ns.length:Nat):Int):=Zz
  first
   | (rw[zAv q']at h5;exact absurd h5 Zx)
   | (simp at h5;lia)
 cases BN with
 |cons w1 w2=>
  cases w2
  cases w1 with
  |list ho hG=>exact⟨_,_,ns,rfl,rfl,ho,kW ns _ hG,hlen⟩
theorem xf(l:OpenLaw)(args:List WData):l.row.toRowW.claim.post args (.bool true) args=true:=
 postW_of (r:=l.row.toRowW) (X:=(true==true))
  (show WShape.has [] (.bool true) .bool=true by first|rfl|decide|simp[WShape.has,WShape.arms,WShape.armsAll])
  (show(WTm.eq .res (.lit (.bool true))).value [] {args:=args,res:=some (.bool true),after:=args}=some (.bool (true==true))from w_eq_bool (w_res rfl) w_lit) rfl
theorem attach_call{l:OpenLaw}{n:Nat}{q:Program}{loose:List Str}{XP:(Str->Option Value)->Heap->Prop}{YP:World->Heap->Prop}{d:DefRec}
  (hn:l.most=some n) (ny:d.params.defaults=[])
  (call:∀(w:World) (s₀ s₁:Shared) (mg mb:Str->Option Value) (fa:Addr) (o:Obj) (pm cd doc:Value) (a:Addr) (vs:List Value) (ns:List Int),
   Ground q loose [] XP w s₀ mg mb s₁.heap->YP w s₁.heap->
   s₁.heap.get? fa=some o->o.data=.func (docDef d.name d.params d.body d.scope pm cd doc)->s₁.heap.CodeRec cd d.name->mg d.name=some (.ref fa)->
   s₁.heap.get? a=some {cls:=.type "list",data:=.seq vs.toArray}->IntsAre vs ns->ns.length<=n->s₁.gens=#[]->
   codeAny (model l.prog w) callerA (.call (.ref fa) ⟨[.ref a],[]⟩) (fun r s'=>r=.ok (.ret (.bool true))/\OldK s₁.heap s'.heap/\s'.os=s₁.os/\AllBare s'.gens) s₁):
  WalkO q loose XP YP l.row.toRowW d [] (fun f vs=>PySem.call f vs):=by
 intro w s₀ s₁ mg mb G Y fa o pm cd doc dV kV ho hd bg hD hmg hg args vals as kg Ku OU BN OV;obtain rfl:dV=.none:=Dflts.none hD ny;obtain rfl:kV=.none:=Dflts.noKw hD;obtain⟨a,vs,ns,rfl,rfl,nB,hints,hlen⟩:=wZ hn kg BN;refine enter_call (codeAny_mono (call w s₀ s₁ mg mb fa o pm cd doc a vs ns G Y ho (fd_plain hd) bg hmg nB hints hlen hg) fun r s' hq=>?_);obtain⟨rfl,h2,h3,h4⟩:=hq;exact⟨.inl ⟨.bool true,.bool true,[],rfl,fun _=>rfl,.bool true,xf l _,fun _=>⟨List.Pairwise.nil,fun _ hm=>(nomatch hm)⟩⟩,h2,h3,h4⟩
section
variable{prog:Program}{w:World}{A:Around}{E:Value->Shared->Prop}{s:Shared}{K:Frag}
end
end Att
namespace L2
open PySem PySem.Spec PyProof.Rows
theorem nZ:∀{vs:List Value} {ns:List Int},IntsAre vs ns->Vals (ns.map V.int) vs
 |_,_,.nil=>.nil
 |_,_,.cons n t h=>.cons ⟨t,rfl⟩ (nZ h)
def inClass(s:Stmt)(j:Nat):Stmt:=match s with
 |.ClassDef _ _ _ body _ _ _ _ _ _ _=>body.getD j (.Pass ⟨0,0,0,0⟩)
 |_=>.Pass ⟨0,0,0,0⟩
def dN(s:Stmt):Arguments:=match s with
 |.FunctionDef _ a _ _ _ _ _ _ _ _=>a
 |_=>{posonlyargs:=[],args:=[],vararg:=none,kwonlyargs:=[],kw_defaults:=[],kwarg:=none,defaults:=[]}
def cH(s:Stmt):List Stmt:=match s with
 |.FunctionDef _ _ b _ _ _ _ _ _ _=>b
 |_=>[]
def az(s:Stmt):Scope:=match s with
 |.FunctionDef _ _ _ _ _ _ sc _ _ _=>sc
 |_=>{kind:=.function,names:=[],isGenerator:=false,isCoroutine:=false}
abbrev CX0:CXT:=fun _ _ _ _ _ _=>False
abbrev E0:XK:=fun _ _ _=>False
theorem vH{X:Cx}:gO CX0 X E0:=fun _ _ _ _ _ _ _ h=>h.elim
structure Fun(K:Frag)(x qual:Str)(st:Stmt)(f:Addr)(fd:FuncData):Prop where
 ex:∃(oc:Value) (od:Option Addr) (kV doc pm:Value) (an:Option Addr) (af ct:Value) (c6:Array (Option Value)),
  fd=PySem.W.fnOf x qual (dN st) (cH st) (az st) .none kV doc pm an af ct/\K.lookup f=some ⟨oc,od,.func fd,c6⟩/\PySem.W.codeIn K af qual=true
 kp:PySem.W.keepIn K (.ref f)=true
section
variable{P:Program}{w:World}{K:Frag}{mg:Str->Option Value}{base:Heap}{f:Addr}{fd:FuncData}
theorem Fun.ok{x qual:Str}{st:Stmt}{f:Addr}{fd:FuncData}{N ps:List Str}{k:Nat}{sp:Sp}(F:Fun K x qual st f fd)(S:FnScope N ps (az st))(len:∀vs H Q E,sp vs H Q E->vs.length=ps.length)
  (aE:∀(af:Value) (A:Around) (outer:List Env) (s:Shared) (H:Hp) (vs:List V) (Q:VK) (E:XK),Room k (A.deeper (envOfC qual (az st) s.heap.objs.size f af))->sp vs H Q E->
   ∃t,PSs (jH CX0 P w K mg base N qual (az st) f af A outer s H E).nox (cH st) t/\t {nx:=fun _ H'=>Q .non H',rt:=Q} (start N vs) H):FnOk P w K mg base CX0 (k+1) f fd ps sp:=by
 obtain⟨oc,od,kV,doc,pm,an,af,ct,c6,rfl,lk,bg⟩:=F.ex;refine yN lk bg S len fun A outer s H vs Q E hr eI=>?_;obtain⟨t,h,q⟩:=aE af A outer s H vs Q E hr eI;exact⟨t,h.nox,q⟩
theorem Fun.binds{x qual:Str}{st:Stmt}{f:Addr}{fd:FuncData}{ps:List Str}(F:Fun K x qual st f fd)
  (h:∀(kV doc pm:Value) (an:Option Addr) (af ct:Value) (us:List Value),us.length=ps.length->bindArgs (PySem.W.fnOf x qual (dN st) (cH st) (az st) .none kV doc pm an af ct) ⟨us,[]⟩=pure (ps.zip us)):Binds K fd ps []:=by
 obtain⟨oc,od,kV,doc,pm,an,af,ct,c6,rfl,lk,bg⟩:=F.ex;exact .all (h kV doc pm an af ct)
theorem uD{x qual:Str}{st:Stmt}{f:Addr}{oc:Value}{od an:Option Addr}{c6:Array (Option Value)}{kV doc pm af ct:Value}(l:K.lookup f=some ⟨oc,od,.func (PySem.W.fnOf x qual (dN st) (cH st) (az st) .none kV doc pm an af ct),c6⟩)
  (c:PySem.W.codeIn K af qual=true) (k:PySem.W.keepIn K (.ref f)=true):Fun K x qual st f (PySem.W.fnOf x qual (dN st) (cH st) (az st) .none kV doc pm an af ct):=⟨⟨oc,od,kV,doc,pm,an,af,ct,c6,rfl,l,c⟩,k⟩
end
theorem kj{A:Around}{k:Nat}(hr:Room k A):A.units+1<cLine:=Nat.lt_of_le_of_lt (Nat.add_le_add_left (by decide:1<=64) _) hr.units
section
variable{X:Cx}
theorem pv(i:Nat){x:Str}{pos:Pos}(hN:X.N[i]?=some x:=by rfl)(hv:Vis X.env.scope x:=by first|exact Or.inl rfl|exact Or.inr (Or.inl rfl)|exact Or.inr (Or.inr rfl))(hd:(x==("__debug__":Str))=false:=by decide)
  (bg:(x==("__classdict__":Str))=false:=by decide):PE X (.Name x pos) (wR i):=uh hN hv hd bg
end
theorem bf{A B:Prop}(h:B):if false=true then A else B:=by
 rw[zAw zAg];exact h
theorem bh{A B:Prop}(h:A):if true=true then A else B:=by
 rw[zAx rfl];exact h
theorem pN{c A B:Prop}[Decidable c](h1:c->A)(h2:¬c->B):if c then A else B:=by
 by_cases h:c
 .rw[zAx h];exact h1 h
 .rw[zAw h];exact h2 h
theorem Do{c A B:Prop}[Decidable c](hc:c)(h:B):if(!decide c)=true then A else B:=by
 rw[zAv hc];exact bf h
def Same(H H':Hp):Prop:=∀b o,H b=some o->H' b=some o
theorem Same.refl(H:Hp):Same H H:=fun _ _ h=>h
theorem Same.trans{H H1 H2:Hp}(a:Same H H1)(b:Same H1 H2):Same H H2:=fun c o h=>b c o (a c o h)
theorem Same.free{H H':Hp}(e:Same H H'){l:Addr}(h:H' l=Option.none):H l=Option.none:=by
 cases q:H l with
 |none=>rfl
 |some o=>
  rw[e l o q]at h;cases h
def bZ(cells:List (Str×Addr)):List (Str×NameKind)->List (Str×Addr)->List (Str×Addr)
 |[],acc=>acc
 | (n,k)::r,acc=>bZ cells r (if k=.free then(n,(cells.lookup n).getD 0)::acc else acc)
theorem o6{env:Env}:∀(l:List (Str×NameKind)) (acc:List (Str×Addr)),(∀p∈l,p.2=NameKind.free->(env.cells.lookup p.1).isSome=true)->
  (forIn l acc fun(x:Str×NameKind) (r:List (Str×Addr))=>(if(x.2==NameKind.free)=true then do let a <-cellOf env x.1;pure (ForInStep.yield ((x.1,a)::r))else pure (ForInStep.yield r):Sem (ForInStep (List (Str×Addr)))))=pure (bZ env.cells l acc)
 |[],acc,_=>rfl
 | (n,k)::r,acc,h=>by
  rw[List.forIn_cons];have ih:=fun a=>o6 (env:=env) r a fun p hp=>h p (List.mem_cons_of_mem _ hp);by_cases hk:k=.free
  .subst hk;have hs:=h (n,.free) List.mem_cons_self rfl;obtain⟨c,hc⟩:=Option.isSome_iff_exists.mp hs;have e1:cellOf env n=pure c:=by unfold cellOf;rw[show env.cells.lookup n=some c from hc]
   have e2:bZ env.cells ((n,.free)::r) acc=bZ env.cells r ((n,c)::acc):=by
    show bZ env.cells r (if NameKind.free=NameKind.free then(n,(env.cells.lookup n).getD 0)::acc else acc)=_;rw[zAx rfl,show env.cells.lookup n=some c from hc];rfl
   rw[e2];simp only[beq_self_eq_true,if_true,e1,pure_bind];exact ih _
  .have hb:(k==NameKind.free)=false:=by simpa using hk
   have e2:bZ env.cells ((n,k)::r) acc=bZ env.cells r acc:=by
    show bZ env.cells r (if k=NameKind.free then _ else acc)=_;rw[zAw hk]
   rw[e2];simp only[hb,Bool.false_eq_true,if_false,pure_bind];exact ih _
theorem pO{scope:Scope}{env:Env}(h:∀p∈scope.names,p.2=NameKind.free->(env.cells.lookup p.1).isSome=true):closureFor scope env=pure (bZ env.cells scope.names []):=by
 have e:=o6 (env:=env) scope.names [] h;unfold closureFor;simp only[bind_pure];exact e
theorem gQ{cells:List (Str×Addr)}{x:Str}{c:Addr}:∀(l:List (Str×NameKind)) (acc:List (Str×Addr)),(∀p∈l,p.2=NameKind.free->(cells.lookup p.1).isSome=true)->(bZ cells l acc).lookup x=some c->
  acc.lookup x=some c\/cells.lookup x=some c
 |[],_,_,h=>.inl h
 | (n,k)::r,acc,hf,h=>by
  have h':(bZ cells r (if k=.free then(n,(cells.lookup n).getD 0)::acc else acc)).lookup x=some c:=h;rcases gQ r _ (fun p hp=>hf p (List.mem_cons_of_mem _ hp)) h' with e|e
  .by_cases hk:k=.free
   .rw[zAx hk]at e;obtain⟨d,hd⟩:=Option.isSome_iff_exists.mp (hf (n,k) List.mem_cons_self hk);rw[show cells.lookup n=some d from hd]at e;rw[List.lookup_cons]at e
    cases hx:x==n with
    |true=>
     rw[hx]at e;have:x=n:=by simpa using hx
     subst this;exact .inr (hd.trans (by simpa using e))
    |false=>
     rw[hx]at e;exact .inl e
   .rw[zAw hk]at e;exact .inl e
  .exact .inr e
theorem jf{cells:List (Str×Addr)}{x:Str}:∀(l:List (Str×NameKind)) (acc:List (Str×Addr)),((∃k,(x,k)∈l/\k=NameKind.free)\/(∃c,acc.lookup x=some c))->∃c,(bZ cells l acc).lookup x=some c
 |[],_,h=>by
  rcases h with⟨k,hk,_⟩|h
  .exact absurd hk Zy
  .exact h
 | (n,k)::r,acc,h=>by
  show ∃c,(bZ cells r (if k=.free then(n,(cells.lookup n).getD 0)::acc else acc)).lookup x=some c;refine jf r _ ?_;rcases h with⟨k',hk,e⟩|⟨c,hc⟩
  .rcases zAo.mp hk with z|z
   .cases z;refine .inr ?_;rw[zAx e];exact⟨_,by rw[List.lookup_cons,beq_self_eq_true]⟩
   .exact .inl ⟨k',z,e⟩
  .refine .inr ?_;by_cases hk:k=.free
   .rw[zAx hk,List.lookup_cons]
    cases hx:x==n with
    |true=>exact⟨_,rfl⟩
    |false=>exact⟨c,hc⟩
   .rw[zAw hk];exact⟨c,hc⟩
theorem km{scope:Scope}{env:Env}{x:Str}{k:NameKind}(hc:∀p∈scope.names,p.2≠NameKind.cell)(h:(relabel scope env).names.lookup x=some k)(hk:k=.cell\/k=.free):∃k',(x,k')∈scope.names/\k'=NameKind.free:=by
 have m:=PySem.mem_of_lookup h;obtain⟨⟨n,k0⟩,hm,e⟩:=zA5.mp m;dsimp only at e;split at e
 .rename_i c
  cases e
  have:(k0==NameKind.free)=true:=by
   cases q:(k0==NameKind.free)with
   |true=>rfl
   |false=>rw[q]at c;simp at c
  exact⟨k0,hm,by simpa using this⟩
 .cases e;rcases hk with z|z
  .exact absurd z (hc _ hm)
  .exact⟨_,hm,z⟩
def cxC(X:Cx)(scope:Scope)(Nc:List Str)(C:Addr)(fp:List Addr)(Zt:List (Addr×Obj))(s₂:Shared)(H₂:Hp):Cx where
 prog:=X.prog
 w:=X.w
 K:=X.K
 mg:=X.mg
 base:=X.base
 A:=X.A
 N:=Nc
 s₀:=s₂
 H₀:=H₂
 env:=compEnvC scope (bZ X.env.cells scope.names []) C X.env
 outer:=X.stack
 stack:=X.stack
 ex:=fp
 fn:=fun _=>false
 calm:=X.calm
 pn:=X.pn++Zt
 xe:=fun _ _=>False
def Caps(X:Cx)(aw:Env):List Str->List (Option Nat)->Prop
 |[],[]=>True
 |_::N,none::r=>Caps X aw N r
 |x::N,some i::r=>(X.N[i]?=some x/\(X.env.kindOf x=some .cell\/X.env.kindOf x=some .free)/\aw.cells.lookup x=X.env.cells.lookup x/\(aw.kindOf x=some .cell\/aw.kindOf x=some .free))/\Caps X aw N r
 |_,_=>False
def capσ(σ:St)(src:List (Option Nat)):St:=src.map fun o=>match o with|none=>none|some i=>(σ[i]?).join
theorem Caps.len{X:Cx}{aw:Env}:∀{N:List Str} {src:List (Option Nat)},Caps X aw N src->src.length=N.length
 |[],[],_=>rfl
 |[],_::_,h=>h.elim
 |_::_,[],h=>h.elim
 |_::N,none::r,h=>by
  have h':Caps X aw N r:=h;have:=Caps.len (N:=N) (src:=r) h';simp[this]
 |_::N,some _::r,h=>by
  have:=Caps.len (N:=N) (src:=r) h.2;simp[this]
theorem Caps.get{X:Cx}{aw:Env}{x:Str}:∀{N:List Str} {src:List (Option Nat)} {j i:Nat},Caps X aw N src->N[j]?=some x->src[j]?=some (some i)->
  X.N[i]?=some x/\(X.env.kindOf x=some .cell\/X.env.kindOf x=some .free)/\aw.cells.lookup x=X.env.cells.lookup x/\(aw.kindOf x=some .cell\/aw.kindOf x=some .free)
 |[],[],_,_,_,e,_=>by simp at e
 |[],_::_,_,_,h,_,_=>h.elim
 |_::_,[],_,_,h,_,_=>h.elim
 |_::_,none::_,0,_,_,_,e=>by simp at e
 |_::N,none::r,j+1,_,h,e1,e2=>by
  have h':Caps X aw N r:=h;exact Caps.get (N:=N) (src:=r) (j:=j) h' (by simpa using e1) (by simpa using e2)
 |_::_,some _::_,0,_,h,e1,e2=>by
  simp at e1 e2;subst e1 e2;exact h.1
 |_::_,some _::_,j+1,_,h,e1,e2=>Caps.get (j:=j) h.2 (by simpa using e1) (by simpa using e2)
structure CScope(X:Cx)(scope:Scope):Prop where
 kind:scope.kind=.function
 cell:scope.names.all (fun p=>p.2 != .cell)=true
 names:scope.names.all (fun p=>p.2 != .local||scope.names.lookup p.1==some .local)=true
 free:scope.names.all (fun p=>p.2 != .free||(X.env.cells.lookup p.1).isSome)=true
section
variable{X:Cx}{scope:Scope}
theorem CScope.hcell(S:CScope X scope):∀p∈scope.names,p.2≠NameKind.cell:=fun p hp=>by
 have:=List.all_eq_true.mp S.cell p hp;simpa using this
theorem CScope.hnames(S:CScope X scope):∀p∈scope.names,p.2=.local->scope.names.lookup p.1=some .local:=fun p hp e=>by
 have:=List.all_eq_true.mp S.names p hp;simpa[e]using this
theorem CScope.hfree(S:CScope X scope):∀p∈scope.names,p.2=NameKind.free->(X.env.cells.lookup p.1).isSome=true:=fun p hp e=>by
 have:=List.all_eq_true.mp S.free p hp;simpa[e]using this
end
def PTs(X:Cx)(ifs:List Expr)(t:TT):Prop:=
 ∀(Zt:List (Addr×Obj)) (s:Shared) (σ:St) (H:Hp) (Q:Bool->Hp->Prop),Inv X Zt σ H s->t σ H Q->
  wpAny (model X.prog X.w) X.A (forIn ifs true fun c r=>if r=true then do let ok <-isTrue c X.env (eval c X.env);pure (ForInStep.yield ok)else pure (ForInStep.yield r)) (TP X Zt σ Q) X.xe s
def yO:TT:=fun _ H Q=>Q true H
theorem eZ{X:Cx}:PTs X [] yO:=fun _ _ _ H _ I h=>wpAny_tests_nil ⟨H,I,h⟩
theorem pP{prog:Program}{w:World}{A:Around}{R:Result->Shared->Prop}{s:Shared}{elt target iter:Expr}{ifs:List Expr}{scope:Scope}{pos:Pos}{it acc:Value}{env:Env}(I:Nat->Shared->Prop)
  (turn:∀n s,I n s->wpAny (model prog w) A (pyNext it) (fun r s₁=>match r with
   |none=>R (.ok .next) s₁
   |some v=>wpAny (model prog w) A (letOwnedTupleGo target it v) (fun _ lT=>wpAny (model prog w) A (assign target env v) (fun _ s₂=>
     wpAny (model prog w) A (forIn ifs true fun c r=>if r=true then do let ok <-isTrue c env (eval c env);pure (ForInStep.yield ok)else pure (ForInStep.yield r)) (fun ok s₃=>
      if ok=true then wpAny (model prog w) A (eval elt env) (fun x ki=>
       wpAny (model prog w) A (call (.builtin "list.append") [acc,x]) (fun _ tj=>∃m,m<n/\I m tj) (fun _ _=>False) ki) (fun _ _=>False) s₃
      else ∃m,m<n/\I m s₃) (fun _ _=>False) s₂) (fun _ _=>False) lT) (fun _ _=>False) s₁) (fun _ _=>False) s)
  (n:Nat) (h:I n s):
  codeAny (model prog w) A (.compLoop (.ListComp elt [⟨target,iter,ifs,0⟩] scope pos) 0 it acc env) R s:=by
 refine codeAny_loop rfl I (fun n s hI=>?_) n h;show wpAny _ A ((compTurn (.ListComp elt [⟨target,iter,ifs,0⟩] scope pos) 0 it acc env).onRaise (fun x=>do noteFrame x env;theTreesLotGoes x)) _ _ s;refine wpAny_noted ?_;rw[compTurn_list];refine zAt (wpAny_standAt (zAt (wpAny_mono (turn n s hI) (fun r s₁ c0=>?_) fun _ _ h'=>h'.elim)))
 cases r with
 |none=>exact zAz c0
 |some v=>
  refine zAt (wpAny_mono c0 (fun _ lT tq=>?_) fun _ _ h'=>h'.elim);refine zAt (wpAny_mono tq (fun _ s₂ hJ=>zAt (wpAny_mono hJ (fun ok s₃ kn=>?_) fun _ _ h'=>h'.elim)) fun _ _ h'=>h'.elim)
  cases ok with
  |false=>exact zAz ⟨rfl,kn⟩
  |true=>
   exact zAt (zAt (wpAny_mono kn (fun x ki BO=>zAt (wpAny_mono BO (fun _ tj BQ=>zAz (zAz ⟨rfl,BQ⟩)) fun _ _ h'=>h'.elim)) fun _ _ h'=>h'.elim))
def rJ(J:It)(g:TG)(tt:TT)(te:TE)(Fin:List V->Hp->Prop)(gE:St)(H0:Hp):Prop:=
 ∃W:Nat->Nat->List V->St->Hp->Prop,(∃m,W 0 m [] gE H0)/\∀i m ys σ H,W i m ys σ H->ys.length<sizeLine /\
  ((J.stop i H/\Fin ys H)\/(J.go i H/\∀x H',J.yld i H x H'->g x σ H' fun aT H2=>tt aT H2 fun b H3=>
   if b=true then te aT H3 fun y H4=>∃m',m'<m/\W (i+1) m' (ys++[y]) aT H4 else ∃m',m'<m/\W (i+1) m' ys aT H3))
theorem xg{X:Cx}{tg iter elt:Expr}{ifs:List Expr}{scope:Scope}{pos:Pos}{Nc:List Str}{src:List (Option Nat)}{g:TG}{tt:TT}{te:TE}(hc:X.calm=true)(S:CScope X scope)
  (fq:∀C,Caps X (compEnvC scope (bZ X.env.cells scope.names []) C X.env) Nc src)
  (hb:∀C fp Zt s₂ H₂,PG (cxC X scope Nc C fp Zt s₂ H₂) tg g/\PTs (cxC X scope Nc C fp Zt s₂ H₂) ifs tt/\PE (cxC X scope Nc C fp Zt s₂ H₂) elt te)
  {Zt:List (Addr×Obj)} {s₂:Shared} {σ:St} {H₂:Hp} {it:Addr} {fp:List Addr} {tn:Nat->Heap->Prop} {J:It} (ah:Inv X Zt σ H₂ s₂) (T:Turn X.prog X.w X.K tg J fp it tn) (st:tn 0 s₂.heap) (hf:∀b∈fp,pB X Zt H₂ b)
  {Fin:List V->Hp->Prop} (hW:rJ J g tt te Fin (capσ σ src) H₂) {RR:Value->Addr->Result->Shared->Prop} {E:Value->Shared->Prop}
  (Kv:∀D C s' ys H' m,Fin ys H'->H' D=none->Inv X Zt σ (upd H' D (.lst ys)) s'->s'.heap.Ns C m->pB X Zt (upd H' D (.lst ys)) C->RR (.ref D) C (.ok .next) s'):
  wpAny (model X.prog X.w) X.A (newList []) (fun acc s₃=>wpAny (model X.prog X.w) X.A (newFunctionEnv scope X.env.globals (bZ X.env.cells scope.names []) [] X.env.qual none .none (some X.env)) (fun tw ki=>
   codeAny (model X.prog X.w) X.A (.compStart (.ListComp elt [⟨tg,iter,ifs,0⟩] scope pos) 0 (.ref it) acc {tw with scope:=relabel scope X.env}) (RR acc tw.locals) ki) E s₃) E s₂:=by
 refine wpAny_newObj_type (wpAny_newFunctionEnv S.hcell (by intro y hy;simp at hy) (fun c0 bS bo=>?_) S.kind);dsimp only at bS bo⊢;generalize BU:s₂.heap.push {cls:=.type "list",dict:=none,data:=.seq ([]:List Value).toArray}=HH at bS bo⊢;generalize l8:s₂.heap.objs.size=D at bS bo⊢;have hC:HH.objs.size=D+1:=by rw[<-BU,Heap.size_push,l8]
 generalize OW:HH.objs.size=C at bS bo hC⊢;have zv:D≠C:=Zz
 have below:∀b,b<s₂.heap.objs.size->b≠C/\b≠D:=fun b hb=>by rw[l8]at hb;exact⟨by rw[hC];exact zB3 (Nat.lt_succ_of_lt hb),zB3 hb⟩
 have ax:∀{b o},s₂.heap.get? b=some o->b≠C/\b≠D:=fun{b o} e=>below b (zAy e);have old:∀b o,s₂.heap.get? b=some o->c0.get? b=some o:=fun b o e=>bo.extBut b o (ax e).1 (zAu _ (BU▸zAu _ e));have BY:c0.get? D=some {cls:=.type "list",data:=.seq ([]:List Value).toArray}:=bo.extBut _ _ zv (zAu _ (BU▸l8▸zB1 _ rfl))
 have Kw:∀b∈fp,∃o,s₂.heap.get? b=some o:=fun b hb=>let⟨o,e,_⟩:=T.obj _ _ st b hb;⟨o,e⟩
 have zw:∀b∈fp,b≠C/\b≠D:=fun b hb=>let⟨o,e⟩:=Kw b hb;ax e
 have sub:∀{x c},(bZ X.env.cells scope.names []).lookup x=some c->X.env.cells.lookup x=some c:=fun{x c} e=>by
  rcases gQ scope.names [] S.hfree e with z|z
  .simp at z
  .exact z
 have Kx:∀{b o},s₂.heap.get? b=some o->b<D:=fun{b o} e=>by rw[<-l8];exact zAy e
 have fresh:∀a,D<=a->H₂ a=none:=fun a ha=>ah.hok.fresh (by rw[l8];exact ha)
 have l9:∀{x c},X.env.cells.lookup x=some c->∃o,s₂.heap.get? c=some o:=fun{x c} e=>let⟨v,o,ho,_⟩:=ah.cell x c e;⟨o,ho⟩
 have B0:∀b∈frs X.stack,∃o,s₂.heap.get? b=some o:=fun b hb=>by
  rcases zAo.mp (ah.stkSub b hb)with e|hb
  .rw[e];obtain⟨m,⟨o,_,_,ho,_⟩,_⟩:=ah.loc;exact⟨o,ho⟩
  .obtain⟨_,o,ho,_⟩:=ah.funs.mem hb;exact⟨o,ho⟩
 have B3:∀a,D<=a->a∉frs X.stack:=fun a ha hb=>by
  obtain⟨o,e⟩:=B0 a hb;exact absurd (zB2 (Kx e) ha) (Nat.lt_irrefl _)
 have ID:∀b∈fp,b∉frs X.stack:=fun b hb z=>by
  obtain⟨_,f1,f2,_⟩:=hf b hb;rcases zAo.mp (ah.stkSub b z)with e|e
  .exact f1 e
  .exact f2 e
 generalize dv:cxC X scope Nc C fp Zt s₂ H₂=X';obtain⟨hg,ht,he⟩:=hb C fp Zt s₂ H₂;rw[dv]at hg ht he
 have B5:X'.Ok:=by
  subst dv;refine⟨ah.ok.mod,S.kind,ah.ok.glob,ah.ok.blt,?_,?_,?_,?_,ah.ok.hd,ah.ok.frames,.inl rfl,?_,ah.bs,Nat.le_trans ah.ok.bsz ah.sz,?_,ID,ah.stack,ah.stkFree⟩
  .show s₂.heap.objs.size<=C;lia
  .exact fun x y c e1 e2=>ah.ok.inj x y c (sub e1) (sub e2)
  .intro x hx;have hx:(relabel scope X.env).names.lookup x=some .cell\/(relabel scope X.env).names.lookup x=some .free:=hx
   have:∃k',(x,k')∈scope.names/\k'=NameKind.free:=by
    rcases hx with z|z
    .exact km S.hcell z (.inl rfl)
    .exact km S.hcell z (.inr rfl)
   exact jf scope.names [] (.inl this)
  .intro x c z;exact absurd z (by show¬(false=true);simp)
  .intro b hb;exact⟨(zw b hb).1,fun x c e=>(hf b hb).2.2.2.2.1 x c (sub e)⟩
  .intro b o e hb;obtain⟨_,_,_,f3,_⟩:=hf b hb;rcases f3 with z|z
   .exact ah.ok.noex b o e z
   .exact absurd (zB2 (zAy (ah.ok.bs b o e).1) z) (Nat.lt_irrefl _)
 have eP:X'.prog=X.prog:=by subst dv;rfl
 have ew:X'.w=X.w:=by subst dv;rfl
 have eK:X'.K=X.K:=by subst dv;rfl
 have eA:X'.A=X.A:=by subst dv;rfl
 have eE:X'.xe=fun _ _=>False:=by subst dv;rfl
 have eL:X'.env.locals=C:=by subst dv;rfl
 have eN:X'.env=compEnvC scope (bZ X.env.cells scope.names []) C X.env:=by subst dv;rfl
 have ec:X'.calm=true:=by subst dv;exact hc
 have eS:X'.s₀=s₂:=by subst dv;rfl
 have eH:X'.H₀=H₂:=by subst dv;rfl
 have ef:X'.fs=frs X.stack:=by subst dv;rfl
 have ex:X'.ex=fp:=by subst dv;rfl
 have ep:X'.pn=X.pn++Zt:=by subst dv;rfl
 have I0:Inv X' [] (capσ σ src) H₂ {s₂ with heap:=c0,toks:=s₂.toks+([]:List (Str×Value)).length}:=by
  refine⟨B5,by rw[eS],ah.bare,by rw[eS,eH];exact Un.kept old,⟨_,by rw[eL];exact bS,?_⟩,?_,by rw[eL];exact fresh _ Zz,?_,?_,by rw[eP,ew];exact ah.hok.kept old,?_⟩
  .intro j x v e1 e2 e3;have e1:Nc[j]?=some x:=by subst dv;exact e1
   have e4:∃i,src[j]?=some (some i)/\(σ[i]?).join=some v:=by
    unfold capσ at e2;rw[zAb]at e2
    cases q:src[j]? with
    |none=>rw[q]at e2;cases e2
    |some o=>
     rw[q]at e2
     cases o with
     |none=>simp at e2
     |some i=>exact⟨i,rfl,by simpa using e2⟩
   obtain⟨i,e5,e6⟩:=e4;obtain⟨c1,c2,c3,c4⟩:=(fq C).get e1 e5
   have e7:σ[i]?=some (some v):=by
    cases q:σ[i]? with
    |none=>rw[q]at e6;simp at e6
    |some o=>rw[q]at e6;simp at e6;rw[e6]
   obtain⟨m,_,hl⟩:=ah.loc;obtain⟨u,r,l⟩:=hl i x v c1 e7 (.inr (by rcases c2 with z|z;exact .inl z;exact .inr z));refine⟨u,r,?_⟩;rcases l with⟨k,_⟩|⟨_,c,e,z⟩
   .rcases c2 with c2|c2<;>(rw[k]at c2;cases c2)
   .refine .inr ⟨by rw[eN];exact c4,c,by rw[eN];exact c3.trans e,?_⟩;obtain⟨o,ho,hd⟩:=z;exact⟨o,old c o ho,hd⟩
  .intro x c e;rw[eN]at e;obtain⟨v,o,ho,hd⟩:=ah.cell x c (sub e);exact⟨v,o,old c o ho,hd⟩
  .intro x c e;rw[eN]at e;exact ah.freeC x c (sub e)
  .intro p hp;rw[ep,zAn]at hp;obtain⟨e,n,ne,nf,d⟩:=ah.pin p hp;refine⟨old _ _ e,n,by rw[eL];exact(ax e).1,?_,d⟩;rw[ef];intro z;rcases zAo.mp (ah.stkSub _ z)with q|q
   .exact ne q
   .exact nf q
  .have:=(fq C).len;subst dv;show(capσ σ src).length=Nc.length;unfold capσ;rw[zA1,this]
 have Ky:∀p∈X'.pn,p.1≠D:=fun p hp=>by
  rw[ep]at hp;exact(ax (ah.pin p hp).1).2
 have tF:∀x c,X'.env.cells.lookup x=some c->c≠D:=fun x c e=>by
  rw[eN]at e;obtain⟨o,ho⟩:=l9 (sub e);exact(ax ho).2
 have B6:∀{P:List (Addr×Obj)} {H:Hp},(∀p∈P,p.1=D)->(∀b∈fp,H b=none)->∀b∈fp,pB X' P H b:=fun{P H} hP hn b hb=>by
  refine⟨hn b hb,by rw[eL];exact(zw b hb).1,by rw[ef];exact ID b hb,.inl (by rw[ex];exact hb),fun x c e=>?_,fun p hp=>?_⟩
  .rw[eN]at e;exact(hf b hb).2.2.2.2.1 x c (sub e)
  .rcases zA6.mp hp with z|z
   .rw[ep]at z;exact(hf b hb).2.2.2.2.2 p z
   .rw[hP p z];exact(zw b hb).2.symm
 obtain⟨W,⟨m0,w0⟩,step⟩:=hW
 have loop:∀s₃:Shared,s₃={s₂ with heap:=c0,toks:=s₂.toks+([]:List (Str×Value)).length}->
   codeAny (model X.prog X.w) X.A (.compLoop (.ListComp elt [⟨tg,iter,ifs,0⟩] scope pos) 0 (.ref it) (.ref D) (compEnvC scope (bZ X.env.cells scope.names []) C X.env)) (RR (.ref D) C) s₃:=by
  rintro s₃ rfl
  refine pP (fun n s'=>∃i ys us k ae H',Inv X' [] ae H' s'/\tn i s'.heap/\(∀b∈fp,H' b=none)/\H' D=none/\s'.heap.get? D=some {cls:=.type "list",data:=.seq (List.toArray us) k}/\Vals ys us/\W i n ys ae H') ?_ m0
   ⟨0,[],[],_,_,_,I0,T.keep _ _ _ st fun b _ o e=>old b o e,fun b hb=>(hf b hb).1,fresh _ (zA3 _),BY,.nil,w0⟩
  rintro n s3 ⟨i,ys,us,k,gN,H3,I3,sD,lP,nE,Kz,zI,w3⟩;obtain⟨hsz,nI⟩:=step i n ys gN H3 w3
  have IE:Inv X' [(D,{cls:=.type "list",data:=.seq us.toArray k})] gN H3 s3:=I3.pins_of fun p hp=>by
   rw[List.mem_singleton.mp hp];exact⟨Kz,nE,by rw[eL];exact zv,by rw[ef];exact B3 _ (zA3 _),fun v z=>by cases z⟩
  have nK:∀p∈[(D,({cls:=.type "list",data:=.seq us.toArray k}:Obj))],p.1=D:=fun p hp=>by rw[List.mem_singleton.mp hp]
  rcases nI with⟨stop,fin⟩|⟨go,turn⟩
  ·-- the end
   have hd:=T.done X' eP ew eK ec i _ s3 gN H3 (fun _ _=>False) IE (B6 nK lP) sD stop;rw[eA]at hd;refine thn hd fun r s4 ⟨hr,I4⟩=>?_;subst hr;have pD:=I4.pin (D,{cls:=.type "list",data:=.seq us.toArray k}) (zBb _ (List.mem_singleton.mpr rfl));obtain⟨mC,IF,_⟩:=I4.loc;rw[eL]at IF;have ma:=I4.base;rw[eS,eH,ef,ex]at ma;have hlen:ys.length<=sizeLine:=Nat.le_of_lt hsz
   have B7:HOk X.prog X.w (upd H3 D (.lst ys)) s4.heap:=fun b u e=>by
    by_cases hb:b=D
    .subst hb;rw[aa]at e;cases e;exact⟨hlen,us,k,zI,pD.1⟩
    .rw[ao hb]at e;have z:=I4.hok b u e;rw[eP,ew]at z
     exact z.stay (fun c v _ q=>q) (fun c q=>by rw[ao (aB q nE)];exact q) fun c xs q=>by rw[ao (aB q nE)];exact q
   have un:Un (frs X.stack) fp H₂ (upd H3 D (.lst ys)) s₂.heap s4.heap:=⟨ma.keep,ma.slot,fun b o e n hx=>by rw[ao (ax e).2];exact ma.free b o e n hx,ma.there,
    fun b xs e=>by
     have z:=ma.tups b xs e
     rw[ao (aB z nE)];exact z,
    fun b o u e=>by
     have z:=ma.frzs b o u e
     rw[ao (aB z nE)];exact z,
    fun b ps e=>by
     obtain⟨mo,z⟩:=ma.tbls b ps e
     exact⟨mo,by rw[ao (aB z nE)];exact z⟩⟩
   have J4:Inv X Zt σ (upd H3 D (.lst ys)) s4:=ah.call' (ch:=fp) (by have:=I4.os;rw[eS]at this;exact this) un B7 I4.bare fun b hb=>by
    obtain⟨_,f1,f2,f3,f4,f5⟩:=hf b hb;exact⟨f3,f1,f4,f5⟩
   refine Kv D C s4 ys H3 mC fin nE J4 IF ⟨?_,?_,?_,.inr ?_,?_,?_⟩
   .rw[ao zv.symm];have:=I4.free;rw[eL]at this;exact this
   .have:=ah.lt;rw[l8]at this;exact Nat.ne_of_gt (zB2 this (by rw[hC];exact Nat.le_succ _))
   .intro z;obtain⟨_,o,ho,_⟩:=ah.funs.mem z;exact(ax ho).1 rfl
   .have:=ah.sz;rw[l8]at this;lia
   .intro x c e z;obtain⟨o,ho⟩:=l9 e;exact(ax ho).1 z
   .intro p hp z;exact(ax (ah.pin p hp).1).1 z
  ·-- a turn
   have hd:=T.item X' eP ew eK ec i _ s3 gN H3 (fun _ _=>False) IE (B6 nK lP) sD go;rw[eA]at hd;refine thn hd fun r s4 ⟨u,hr,h4⟩=>?_;subst hr;refine thn h4 fun _ s5 ⟨x,H5,I5,r5,y5,iS,lS⟩=>?_;have BB:=I5.pinned (B6 nK lS) (T.obj _ _ iS);have IG:=hg _ s5 gN H5 x u _ BB r5 (turn x H5 y5);rw[eP,ew,eA,eE,eN]at IG;refine thn IG fun _ s6 ⟨ke,H6,I6,q6⟩=>?_;have IH:=ht _ s6 ke H6 _ I6 q6;rw[eP,ew,eA,eE,eN]at IH;refine thn IH fun okb s7 ⟨H7,I7,q7⟩=>?_
   have back:∀{H8:Hp} {s8:Shared},Inv X' ([(D,({cls:=.type "list",data:=.seq us.toArray k}:Obj))]++dB fp s5.heap) ke H8 s8->
     Inv X' [] ke H8 s8/\tn (i+1) s8.heap/\(∀b∈fp,H8 b=none)/\H8 D=none/\s8.heap.get? D=some {cls:=.type "list",data:=.seq us.toArray k}/\(∀b∈fp,∀o,s5.heap.get? b=some o->s8.heap.get? b=some o):=fun{H8 s8} I8=>by
    have pD:=I8.pin (D,{cls:=.type "list",data:=.seq us.toArray k}) (List.mem_append_right _ (List.mem_append_left _ (List.mem_singleton.mpr rfl)));have pf:∀b∈fp,∀o,s5.heap.get? b=some o->s8.heap.get? b=some o:=fun b hb o e=>(I8.pin (b,o) (List.mem_append_right _ (List.mem_append_right _ (fX hb e)))).1;refine⟨I8.pins_of fun p hp=>absurd hp Zy,T.keep _ _ _ iS pf,fun b hb=>?_,pD.2.1,pD.1,pf⟩;obtain⟨o,e,d⟩:=T.obj _ _ iS b hb;exact(I8.pin (b,o) (List.mem_append_right _ (List.mem_append_right _ (fX hb e)))).2.1
   cases okb with
   |false=>
    obtain⟨b1,b2,b3,b4,b5,_⟩:=back I7;obtain⟨m',hm,w7⟩:=q7;exact⟨m',hm,i+1,ys,us,k,ke,H7,b1,b2,b3,b4,b5,zI,w7⟩
   |true=>
    have zS:=he _ s7 ke H7 _ I7 q7;rw[eP,ew,eA,eE,eN]at zS;show wpAny _ _ (eval elt _) _ _ s7;refine thn zS fun xv s8 ⟨y,H8,I8,r8,m',hm,w8⟩=>?_;obtain⟨b1,b2,b3,b4,b5,b6⟩:=back I8;refine append_at (hsz:=by rw[zA8,<-zI.length];exact Nat.le_of_lt hsz) b5 fun h9 II KA=>?_
    have I9:Inv X' [] ke H8 {s8 with heap:=h9}:=b1.turned (t':=s8.toks) (fun b o hb e=>II.extBut b o hb e) b4 (by rw[eL];exact zv) (.inr (by rw[eS,l8];exact zA3 _)) tF fun p hp=>by
     rw[zAn]at hp;exact Ky p hp
    refine⟨m',hm,i+1,ys++[y],us++[xv],k+1,ke,H8,I9,T.keep _ _ _ b2 fun b hb o e=>II.extBut b o (zw b hb).2 e,b3,b4,?_,zI.append (.cons r8 .nil),w8⟩;show h9.get? D=_;rw[KA,List.push_toArray]
 refine codeAny_compStart_list (loop _ rfl) ?_;exact T.self _ 0 _ _ _ (T.keep _ _ _ st fun b _ o e=>old b o e) (loop _ rfl)
def Dp(wi:TI)(src:List (Option Nat))(g:TG)(tt:TT)(te:TE):TE:=fun σ H Q=>wi σ H fun J H1=>rJ J g tt te (fun ys H'=>∀D,H' D=none->Q (.ref D) (upd H' D (.lst ys))) (capσ σ src) H1
section
variable{X:Cx}{tg iter elt:Expr}{ifs:List Expr}{scope:Scope}{pos:Pos}{Nc:List Str}{wi:TI}{g:TG}{tt:TT}{te:TE}
theorem f9(Nc:List Str)(src:List (Option Nat))(hc:X.calm=true)(hi:PI X tg iter wi)
  (hb:∀C fp Zt s₂ H₂,PG (cxC X scope Nc C fp Zt s₂ H₂) tg g/\PTs (cxC X scope Nc C fp Zt s₂ H₂) ifs tt/\PE (cxC X scope Nc C fp Zt s₂ H₂) elt te)
  (fq:∀C,Caps X (compEnvC scope (bZ X.env.cells scope.names []) C X.env) Nc src) (S:CScope X scope)
  (hs:∀x,foldedSetIterable iter X.env x=pure x:=by intro _;rfl):PE X (.ListComp elt [⟨tg,iter,ifs,0⟩] scope pos) (Dp wi src g tt te):=by
 intro Zt s σ H Q I h;rw[eval_ListComp];refine wpAny_comprehension_free (use:=none) rfl hs (pO S.hfree) S.kind S.hnames ?_;refine thn (hi Zt s σ H _ I h) fun v s1 h1=>thn h1 fun Bz s2 h2=>?_;obtain⟨it,fp,tn,J,H2,e,I2,T,BA,f2,hW⟩:=h2;subst e;refine xg (RR:=fun acc C=>compPost (model X.prog X.w) X.A X.xe none (EP X Zt σ Q) acc C) hc S fq hb I2 T BA f2 hW ?_;intro D C s' ys H' m fin nD J' hn fC;obtain⟨f0,f1,_,f3,f4,f5⟩:=fC;refine⟨m,hn,fun OX B8=>?_⟩;exact⟨.ref D,_,J'.turned (t':=s'.toks) (fun b o hb e=>B8.extBut b o hb e) f0 f1 f3 f4 f5,rfl,fin D nD⟩
end
section
variable{X:Cx}
theorem bG:gF X (.builtin "isinstance") (fun xs H Q=>∃x t n b,xs=[x,.ty n]/\TyOf X.K H x t/\PySem.W.kitOne X.K t (.type n)=some b/\Q (.bl b) H):=by
 intro Zt s σ H xs us Q I r h;obtain⟨x,t,n,b,rfl,ty,e,q⟩:=h;obtain⟨u,c,rfl,ru,rc⟩:=vals2 r;obtain rfl:c=Value.type n:=rc
 exact wY I ru ty e fun tk=>⟨.bl b,H,I.tok _,rfl,q⟩
theorem rK{prog:Program}{w:World}{A:Around}(bs:List Bool):TruthOf prog w A (fun i v=>∃b,bs[i]?=some b/\v=Value.bool b) (fun i=>(bs[i]?).getD false):=by
 intro i v s Q E hP hQ;obtain⟨b,hb,rfl⟩:=hP;dsimp only at hQ;rw[hb]at hQ;exact wpAny_truthy_bool hQ
theorem all_range(bs:List Bool):(List.range bs.length).all (fun i=>(bs[i]?).getD false)=bs.all id:=by
 apply Bool.eq_iff_iff.mpr;rw[List.all_eq_true,List.all_eq_true];constructor
 .intro h b hb;obtain⟨i,hi,e⟩:=List.getElem_of_mem hb;have:=h i (List.mem_range.mpr hi);rw[zA0 hi,e]at this;exact this
 .intro h i hi;have hi:=List.mem_range.mp hi;rw[zA0 hi];exact h _ (zAh hi)
theorem fZ:∀{bs:List Bool} {us:List Value},Vals (bs.map V.bl) us->us=bs.map Value.bool
 |[],_,.nil=>rfl
 |_::bs,_,.cons r t=>by
  rw[fZ (bs:=bs) t,show _=Value.bool _ from r];rfl
theorem fQ(hc:X.calm=true):gF X (.builtin "all") (fun xs H Q=>∃(p:Addr) (bs:List Bool),xs=[.ref p]/\SqL X.K H p (bs.map V.bl)/\Q (.bl (bs.all id)) H):=by
 intro Zt s σ H xs us Q I r h;obtain⟨p,bs,rfl,hq,q⟩:=h;obtain⟨u,rfl,ru⟩:=vals1 r;cases ru;obtain⟨Zr,rv,pl,hz⟩:=I.list hq;have ei:=fZ rv;subst ei;have av:p<s.heap.objs.size:=by obtain⟨_,e,_⟩:=pl.isList;exact zAy e
 refine call_all_walk (wpAny_pyIter_list pl.isList ?_);have W:=Walks.list (prog:=X.prog) (w:=X.w) (A:=X.A.in1) (I.ok.hd hc) s.heap.objs.size p (zB3 av) (bs.map Value.bool).toArray;refine⟨_,_,_,_,_,_,_,rfl,{sub:=W.sub,frame:=W.frame,item:=fun i s Q E hi st hQ=>W.item i s Q E hi st fun v h' tk hP=>hQ v h' tk ?_,done:=W.done,self:=W.self},⟨⟨_,zB1 _ rfl,rfl,rfl⟩,pl.isList.push _⟩,rK bs,fun h' tk k=>?_⟩
 .have tI:(bs.map Value.bool).toArray[i]?=some v:=hP;rw[List.getElem?_toArray,zAb]at tI
  cases e:bs[i]? with
  |none=>rw[e]at tI;cases tI
  |some b=>rw[e]at tI;exact⟨b,rfl,(zAl tI).symm⟩
 .have hsz:(bs.map Value.bool).toArray.size=bs.length:=by simp
  rw[hsz,all_range];refine⟨.bl _,H,?_,rfl,q⟩;refine I.kept (h':=h') (t':=tk) fun b o e=>k b o ?_ (Heap.get?_push_of_some _ e);intro z;have:b=s.heap.objs.size:=by simpa using z
  exact absurd (zAy e) (by rw[this];exact Nat.lt_irrefl _)
end
theorem jK{K:Frag}:PySem.W.kitOne K (.type "NoneType") (.type "int")=some false:=by kernel_rfl
theorem jg{K:Frag}:PySem.W.kitOne K (.type "NoneType") (.type "bool")=some false:=by kernel_rfl
theorem iU{K:Frag}:PySem.W.kitOne K (.type "NoneType") (.type "tuple")=some false:=by kernel_rfl
theorem pQ{K:Frag}:PySem.W.kitOne K (.type "bool") (.type "int")=some true:=by kernel_rfl
theorem mY{K:Frag}:PySem.W.kitOne K (.type "bool") (.type "bool")=some true:=by kernel_rfl
theorem lJ{K:Frag}:PySem.W.kitOne K (.type "bool") (.type "tuple")=some false:=by kernel_rfl
theorem rM{K:Frag}:PySem.W.kitOne K (.type "int") (.type "int")=some true:=by kernel_rfl
theorem pR{K:Frag}:PySem.W.kitOne K (.type "int") (.type "bool")=some false:=by kernel_rfl
theorem mZ{K:Frag}:PySem.W.kitOne K (.type "int") (.type "tuple")=some false:=by kernel_rfl
theorem rO{K:Frag}:PySem.W.kitOne K (.type "str") (.type "int")=some false:=by kernel_rfl
theorem pU{K:Frag}:PySem.W.kitOne K (.type "str") (.type "bool")=some false:=by kernel_rfl
theorem ni{K:Frag}:PySem.W.kitOne K (.type "str") (.type "tuple")=some false:=by kernel_rfl
theorem pW{K:Frag}:PySem.W.kitOne K (.type "list") (.type "int")=some false:=by kernel_rfl
theorem nj{K:Frag}:PySem.W.kitOne K (.type "list") (.type "bool")=some false:=by kernel_rfl
theorem lK{K:Frag}:PySem.W.kitOne K (.type "list") (.type "tuple")=some false:=by kernel_rfl
theorem nq{K:Frag}:PySem.W.kitOne K (.type "tuple") (.type "int")=some false:=by kernel_rfl
theorem lM{K:Frag}:PySem.W.kitOne K (.type "tuple") (.type "bool")=some false:=by kernel_rfl
theorem kY{K:Frag}:PySem.W.kitOne K (.type "tuple") (.type "tuple")=some true:=by kernel_rfl
theorem pY{K:Frag}:PySem.W.kitOne K (.type "dict") (.type "int")=some false:=by kernel_rfl
theorem nu{K:Frag}:PySem.W.kitOne K (.type "dict") (.type "bool")=some false:=by kernel_rfl
theorem lN{K:Frag}:PySem.W.kitOne K (.type "dict") (.type "tuple")=some false:=by kernel_rfl
section
variable{κ:Type}[DecidableEq κ]
def cR(Zs:List (κ×V))(k:κ):Option V:=(Zs.find? fun kv=>decide (kv.1=k)).map (·.2)
def putK(Zs:List (κ×V))(k:κ)(v:V):List (κ×V):=
 if(Zs.any fun kv=>decide (kv.1=k))=true then Zs.map (fun kv=>if kv.1=k then(kv.1,v)else kv)else Zs++[(k,v)]
theorem cj{p:κ×V}{r:List (κ×V)}{k:κ}(e:p.1=k):cR (p::r) k=some p.2:=by simp[cR,List.find?_cons,e]
theorem cu{p:κ×V}{r:List (κ×V)}{k:κ}(e:¬p.1=k):cR (p::r) k=cR r k:=by simp[cR,List.find?_cons,e]
theorem jh(k:κ):∀Zs:List (κ×V),(Zs.any fun kv=>decide (kv.1=k))=(cR Zs k).isSome
 |[]=>rfl
 |p::r=>by
  rw[List.any_cons];by_cases e:p.1=k
  .simp only[cj e,decide_eq_true e,Bool.true_or,Option.isSome_some]
  .rw[cu e,zB4 e,Bool.false_or];exact jh k r
theorem rQ(k j:κ)(y:V):∀Zs:List (κ×V),cR (Zs.map fun kv=>if kv.1=k then(kv.1,y)else kv) j=(cR Zs j).map fun x=>if j=k then y else x
 |[]=>rfl
 |p::r=>by
  have ih:=rQ k j y r;rw[zAk];by_cases h:p.1=k
  .rw[zAx h];by_cases e:p.1=j
   .rw[cj (p:=(p.1,y)) e,cj e,Option.map_some,zAx (e.symm.trans h)]
   .rw[cu (p:=(p.1,y)) e,cu e,ih]
  .rw[zAw h];by_cases e:p.1=j
   .rw[cj (p:=p) e,cj e,Option.map_some,zAw (fun z=>h (e.trans z))]
   .rw[cu (p:=p) e,cu e,ih]
theorem o7(k j:κ)(y:V):∀Zs:List (κ×V),cR Zs k=none->cR (Zs++[(k,y)]) j=if j=k then some y else cR Zs j
 |[],_=>by
  by_cases e:k=j
  .rw[zAx e.symm];exact cj (p:=(k,y)) e
  .rw[zAw (fun z=>e z.symm)];exact cu (p:=(k,y)) e
 |p::r,hn=>by
  rw[List.cons_append]
  have hk:¬p.1=k:=fun z=>by rw[cj z]at hn;cases hn
  rw[cu hk]at hn;have ih:=o7 k j y r hn;by_cases e:p.1=j
  .rw[cj e,cj e,zAw (fun z=>hk (e.trans z))]
  .rw[cu e,cu e,ih]
theorem dR(Zs:List (κ×V))(k j:κ)(y:V):cR (putK Zs k y) j=if j=k then some y else cR Zs j:=by
 unfold putK;by_cases a:(Zs.any fun kv=>decide (kv.1=k))=true
 .rw[zAx a,rQ];rw[jh]at a;by_cases e:j=k
  .obtain⟨x,hx⟩:=Option.isSome_iff_exists.mp a;rw[zAx e,e,hx,Option.map_some,zAx rfl]
  .rw[zAw e]
   cases cR Zs j with
   |none=>rfl
   |some x=>rw[Option.map_some,zAw e]
 .rw[zAw a];refine o7 k j y Zs ?_;rw[jh]at a
  cases q:cR Zs k with
  |none=>rfl
  |some x=>rw[q]at a;exact(a rfl).elim
theorem c7(Zs:List (κ×V))(k:κ)(v:V):(putK Zs k v).length<=Zs.length+1:=by
 unfold putK;split
 .rw[zA1];lia
 .rw[zA2,zAe,List.length_nil];lia
theorem RelO.isSome_eq{o:Option V}{u:Option Value}(r:RelO o u):o.isSome=u.isSome:=by
 cases o with
 |none=>cases u with
  |none=>rfl
  |some _=>exact(show False from r).elim
 |some _=>cases u with
  |none=>exact(show False from r).elim
  |some _=>rfl
theorem RelO.getD{o:Option V}{u:Option Value}{d:V}{d':Value}(r:RelO o u)(rd:RelV d d'):RelV (o.getD d) (u.getD d'):=by
 cases o with
 |none=>cases u with
  |none=>exact rd
  |some _=>exact(show False from r).elim
 |some _=>cases u with
  |none=>exact(show False from r).elim
  |some _=>exact r
theorem KV.val{Zs:List (κ×V)}{vs:List (κ×Value)}(r:KV Zs vs)(k:κ):RelO (cR Zs k) (valueAt vs k):=by
 unfold KV at r
 induction r with
 |nil=>exact True.intro
 |@cons p q ps qs h t ih=>
  obtain⟨h1,h2⟩:=h;by_cases e:p.1=k
  .have e':q.1=k:=h1.symm.trans e;have b:valueAt (q::qs) k=some q.2:=by simp[valueAt,List.find?_cons,e']
   rw[cj e,b];exact h2
  .have e':¬q.1=k:=fun z=>e (h1.trans z);have b:valueAt (q::qs) k=valueAt qs k:=by simp[valueAt,List.find?_cons,e']
   rw[cu e,b];exact ih
theorem KV.any{Zs:List (κ×V)}{vs:List (κ×Value)}(r:KV Zs vs)(k:κ):(Zs.any fun kv=>decide (kv.1=k))=vs.any fun kv=>decide (kv.1=k):=by
 unfold KV at r
 induction r with
 |nil=>rfl
 |cons h t ih=>rw[List.any_cons,List.any_cons,ih,h.1]
theorem KV.repl{Zs:List (κ×V)}{vs:List (κ×Value)}(r:KV Zs vs)(k:κ){y:V}{u:Value}(ry:RelV y u):
  KV (Zs.map fun kv=>if kv.1=k then(kv.1,y)else kv) (vs.map fun kv=>if kv.1=k then(kv.1,u)else kv):=by
 unfold KV at r⊢
 induction r with
 |nil=>exact .nil
 |@cons p q ps qs h t ih=>
  rw[zAk,zAk];refine .cons ?_ ih;obtain⟨h1,h2⟩:=h;by_cases e:p.1=k
  .rw[zAx e,zAx (h1.symm.trans e)];exact⟨h1,ry⟩
  .rw[zAw e,zAw (fun z=>e (h1.trans z))];exact⟨h1,h2⟩
theorem KV.put{Zs:List (κ×V)}{vs:List (κ×Value)}(r:KV Zs vs)(k:κ){y:V}{u:Value}(ry:RelV y u):KV (putK Zs k y) (stored vs k u):=by
 unfold putK stored;rw[r.any k];by_cases e:(vs.any fun kv=>decide (kv.1=k))=true
 .rw[zAx e,zAx e];exact r.repl k ry
 .rw[zAw e,zAw e];exact Paired.snoc r ⟨rfl,ry⟩
theorem KV.length{Zs:List (κ×V)}{vs:List (κ×Value)}(r:KV Zs vs):Zs.length=vs.length:=Paired.length r
end
theorem rR{P:Program}{w:World}{k:Key}{u:Value}(r:RelV (kV k) u):(bJ P w).is k u=true:=by
 cases k with
 |inl i=>obtain⟨t,e⟩:=(show ∃t,u=Value.int i t from r);subst e;exact qQ P w i t
 |inr x=>obtain⟨t,e⟩:=(show ∃t,u=Value.str x t from r);subst e;exact qR P w x t
theorem o8{P:Program}{w:World}:∀{ks:List Key} {us:List Value},Vals (ks.map kV) us->ItemsAre (bJ P w) ks us
 |[],_,r=>by rw[List.map_nil]at r;cases r;exact .nil
 |k::ks,_,r=>by
  rw[zAk]at r
  cases r with
  |cons h t=>exact .cons (rR h) (o8 t)
abbrev KT(H:Hp):List (List Key×V)->List (List Key×Addr×Value)->Prop:=Paired fun p q=>p.1=q.1/\H q.2.1=some (.tup (p.1.map kV))/\RelV p.2 q.2.2
theorem KT.val{H:Hp}{Zs:List (List Key×V)}{xs:List (List Key×Addr×Value)}(r:KT H Zs xs)(k:List Key):RelO (cR Zs k) ((atKey xs k).map (·.2)):=by
 induction r with
 |nil=>exact True.intro
 |@cons p q ps qs h t ih=>
  obtain⟨h1,_,h2⟩:=h;by_cases e:p.1=k
  .have e':q.1=k:=h1.symm.trans e;have b:atKey (q::qs) k=some q.2:=by simp[atKey,List.find?_cons,e']
   rw[cj e,b];exact h2
  .have e':¬q.1=k:=fun z=>e (h1.trans z);have b:atKey (q::qs) k=atKey qs k:=by simp[atKey,List.find?_cons,e']
   rw[cu e,b];exact ih
theorem KT.repl{H:Hp}{Zs:List (List Key×V)}{xs:List (List Key×Addr×Value)}(r:KT H Zs xs)(k:List Key){y:V}{u:Value}(ry:RelV y u):
  KT H (Zs.map fun kv=>if kv.1=k then(kv.1,y)else kv) (xs.map (putAt k u)):=by
 induction r with
 |nil=>exact .nil
 |@cons p q ps qs h t ih=>
  rw[zAk,zAk];refine .cons ?_ ih;obtain⟨h1,h2,h3⟩:=h;unfold putAt;by_cases e:p.1=k
  .rw[zAx e,zAx (h1.symm.trans e)];exact⟨h1,h2,ry⟩
  .rw[zAw e,zAw (fun z=>e (h1.trans z))];exact⟨h1,h2,h3⟩
theorem KT.put{H:Hp}{Zs:List (List Key×V)}{xs:List (List Key×Addr×Value)}(r:KT H Zs xs)(k:List Key){b:Addr}{y:V}{u:Value}(hb:H b=some (.tup (k.map kV)))(ry:RelV y u):
  KT H (putK Zs k y) (storedH xs k b u):=by
 have e:(Zs.any fun kv=>decide (kv.1=k))=(atKey xs k).isSome:=by
  rw[jh,(r.val k).isSome_eq,Option.isSome_map]
 unfold putK storedH;rw[e];by_cases q:(atKey xs k).isSome=true
 .rw[zAx q,zAx q];exact r.repl k ry
 .rw[zAw q,zAw q];exact Paired.snoc r ⟨rfl,hb,ry⟩
theorem KT.keeps{H H':Hp}{Zs:List (List Key×V)}{xs:List (List Key×Addr×Value)}(r:KT H Zs xs)(ht:∀b ys,H b=some (.tup ys)->H' b=some (.tup ys)):KT H' Zs xs:=
 Paired.mapP r fun _ _ z=>⟨z.1,ht _ _ z.2.1,z.2.2⟩
section
variable{P:Program}{w:World}{H:Hp}{h:Heap}{a:Addr}
theorem Dq{u:HO}(ok:HOk P w H h)(e:Rd H a u):ObjOk P w H h a u:=e.ok ok
theorem rT{Zs:List (Key×V)}(ok:HOk P w H h)(e:Rd H a (.dK Zs)):Zs.length<=sizeLine/\(a==sysModules)=false/\∃vs,KV Zs vs/\h.DictOf (bJ P w) a vs:=
 show ObjOk P w H h a (.dK Zs)from Dq ok e
theorem yP{Zs:List (Key×V)}(ok:HOk P w H h)(e:H a=some (.dK Zs)):Zs.length<=sizeLine/\(a==sysModules)=false/\∃vs,KV Zs vs/\h.DictOf (bJ P w) a vs:=rT ok (.inl e)
theorem pZ{ks:List Key}(ok:HOk P w H h)(e:H a=some (.tup (ks.map kV))):(tupleKind (bJ P w)).is h ks a:=by
 obtain⟨_,Zr,r,o,h1,h2,n,h3⟩:=(show ObjOk P w H h a (.tup (ks.map kV))from ok a _ e)
 exact⟨o,Zr.toArray,n,h1,h2,h3,by simpa using o8 r⟩
theorem rW{Zs:List (List Key×V)}(ok:HOk P w H h)(e:Rd H a (.dT Zs)):Zs.length<=sizeLine/\(a==sysModules)=false /\
  ∃xs,KT H Zs xs/\h.DictOfH (tupleKind (bJ P w)) a xs:=by
 obtain⟨z,y,xs,r,o,es,ep,h1,h2,h3,h4,h5⟩:=(show ObjOk P w H h a (.dT Zs)from Dq ok e)
 refine⟨z,y,xs,r,o,es,ep,h1,h2,h3,h4,fun x hx=>?_,h5⟩
 have all:∀{l:List (List Key×V)} {m:List (List Key×Addr×Value)},KT H l m->∀x∈m,(tupleKind (bJ P w)).is h x.1 x.2.1:=by
  intro l m q
  induction q with
  |nil=>intro x hx;exact nomatch hx
  |@cons p q ps qs hq t ih=>
   intro x hx;rcases zAo.mp hx with e|hx
   .subst e;exact pZ ok (by rw[<-hq.1];exact hq.2.1)
   .exact ih x hx
 exact all r x hx
theorem Gn{Zs:List (List Key×V)}(ok:HOk P w H h)(e:H a=some (.dT Zs)):Zs.length<=sizeLine/\(a==sysModules)=false /\
  ∃xs,KT H Zs xs/\h.DictOfH (tupleKind (bJ P w)) a xs:=rW ok (.inl e)
end
def DGet(H:Hp)(a:Addr)(y:V)(r:Option V):Prop:=
 (∃Zs k,Rd H a (.dK Zs)/\y=kV k/\r=cR Zs k)\/∃Zs k b,Rd H a (.dT Zs)/\y=.ref b/\H b=some (.tup (k.map kV))/\r=cR Zs k
def DPut(H:Hp)(a:Addr)(y v:V)(H':Hp):Prop:=
 (∃Zs k,H a=some (.dK Zs)/\y=kV k/\Zs.length<sizeLine/\H'=upd H a (.dK (putK Zs k v))) \/
 ∃Zs k b,H a=some (.dT Zs)/\y=.ref b/\H b=some (.tup (k.map kV))/\Zs.length<sizeLine/\H'=upd H a (.dT (putK Zs k v))
theorem DGet.k{H:Hp}{a:Addr}{Zs:List (Key×V)}{k:Key}(e:H a=some (.dK Zs)):DGet H a (kV k) (cR Zs k):=.inl ⟨Zs,k,.inl e,rfl,rfl⟩
theorem DGet.t{H:Hp}{a b:Addr}{Zs:List (List Key×V)}{k:List Key}(e:H a=some (.dT Zs))(eb:H b=some (.tup (k.map kV))):DGet H a (.ref b) (cR Zs k):=.inr ⟨Zs,k,b,.inl e,rfl,eb,rfl⟩
theorem DPut.k{H:Hp}{a:Addr}{Zs:List (Key×V)}{k:Key}{v:V}(e:H a=some (.dK Zs))(hl:Zs.length<sizeLine):DPut H a (kV k) v (upd H a (.dK (putK Zs k v))):=.inl ⟨Zs,k,e,rfl,hl,rfl⟩
theorem DPut.t{H:Hp}{a b:Addr}{Zs:List (List Key×V)}{k:List Key}{v:V}(e:H a=some (.dT Zs))(eb:H b=some (.tup (k.map kV)))(hl:Zs.length<sizeLine):
  DPut H a (.ref b) v (upd H a (.dT (putK Zs k v))):=.inr ⟨Zs,k,b,e,rfl,eb,hl,rfl⟩
section
variable{X:Cx}{Zt:List (Addr×Obj)}{σ:St}{H:Hp}{s:Shared}{a:Addr}{y v:V}{u r:Value}{o:Option V}{A:Around}{E:Value->Shared->Prop}
theorem Inv.big(I:Inv X Zt σ H s):sysModules<s.heap.objs.size:=by
 have h:mainGlobals<s.heap.objs.size:=(I.mod.glob.keeps I.bk).lt;exact Nat.lt_trans Zx h
theorem xj{Q:Value->Shared->Prop}(hu:A.units+1<cLine)(I:Inv X Zt σ H s)(g:DGet H a y (some v))(ry:RelV y u)(h:∀w' s',Inv X Zt σ H s'->RelV v w'->Q w' s'):
  wpAny (model X.prog X.w) A (getItem (.ref a) u) Q E s:=by
 rcases g with⟨Zs,k,e,ey,l⟩|⟨Zs,k,b,e,ey,eb,l⟩
 .subst ey;obtain⟨z,hd,vs,rel,dd⟩:=rT I.hok e;obtain⟨w',hw,bP⟩:=RelO.some_of (v:=v) (o:=valueAt vs k) (by rw[l];exact rel.val k);exact wpAny_getItem_of (rR ry) dd.mapOf hw (h w' _ (I.tok _) bP)
 .subst ey;cases(show u=Value.ref b from ry);obtain⟨z,hd,xs,rel,dd⟩:=rW I.hok e;obtain⟨w',hw,bP⟩:=RelO.some_of (v:=v) (o:=(atKey xs k).map (·.2)) (by rw[l];exact rel.val k);obtain⟨p,hp,dy⟩:=Option.map_eq_some_iff.mp hw;refine wpAny_getItem_heap (tupleKind_room_in1 hu) (pZ I.hok eb) dd hp ?_;rw[dy];exact h w' _ (I.tok _) bP
theorem lr{h':Heap}{t':Nat}{ob:HO}(I:Inv X Zt σ H s)(mu:Mut (H a))(hs:Heap.SameBut a s.heap h')(he:∃q,h'.get? a=some q)(new:ObjOk X.prog X.w (upd H a ob) h' a ob):
  Inv X Zt σ (upd H a ob) {s with heap:=h',toks:=t'}:=
 I.write (x:=a) (e:=a) mu (.inl rfl) (fun b q hb z=>(hs.2 b hb).trans z) he new
theorem uE{P:Program}{w:World}{H':Hp}{h':Heap}{Zs:List (Key×V)}{vs:List (Key×Value)}(z:Zs.length<=sizeLine)(hd:(a==sysModules)=false)(rel:KV Zs vs)(dd:h'.DictOf (bJ P w) a vs):
  ObjOk P w H' h' a (.dK Zs):=⟨z,hd,vs,rel,dd⟩
theorem xm{H':Hp}{Q:Unit->Shared->Prop}(hu:A.units+1<cLine)(I:Inv X Zt σ H s)(g:DPut H a y v H')(ry:RelV y u)(rv:RelV v r)(h:∀s',Inv X Zt σ H' s'->Q () s'):
  wpAny (model X.prog X.w) A (setItem (.ref a) u r) Q E s:=by
 rcases g with⟨Zs,k,e,ey,l,eH⟩|⟨Zs,k,b,e,ey,eb,l,eH⟩
 .subst ey eH;obtain⟨z,hd,vs,rel,dd⟩:=yP I.hok e;have hz:vs.length<=sizeLine:=by rw[<-rel.length];exact z
  have hl:(putK Zs k v).length<=sizeLine:=by have:=c7 Zs k v;lia
  refine wpAny_setItem_pairs (hsz:=hz) (rR ry) dd fun h' i7 hs=>h _ ?_
  have he:∃q,h'.get? a=some q:=let⟨q,_,_,hq,_⟩:=i7;⟨q,hq⟩
  exact lr I (by rw[e];exact True.intro) hs he (uE hl hd (rel.put k rv) i7)
 .subst ey eH;cases(show u=Value.ref b from ry);obtain⟨z,hd,xs,rel,dd⟩:=Gn I.hok e;have hz:xs.length<=sizeLine:=by rw[<-Paired.length rel];exact z
  have hl:(putK Zs k v).length<=sizeLine:=by have:=c7 Zs k v;lia
  refine wpAny_setItem_heap (hsz:=hz) (tupleKind_room_in1 hu) (pZ I.hok eb) dd fun h' i7 hs=>h _ ?_;obtain⟨q,es,ep,hq,h2,h3,h4,_,h5⟩:=i7;refine lr I (by rw[e];exact True.intro) hs ⟨q,hq⟩ ⟨hl,hd,_,(rel.put k eb rv).keeps fun c ys ec=>?_,q,es,ep,hq,h2,h3,h4,h5⟩;rw[ao (FW ec e (fun z=>nomatch z))];exact ec
end
section
variable{X:Cx}{Zt:List (Addr×Obj)}{σ:St}{H:Hp}{s:Shared}{a:Addr}{Zs:List (Key×V)}{k:Key}{u:Value}{A:Around}{E:Value->Shared->Prop}
end
def Gp(i:Expr):Prop:=∀ov iv,subscripted i false ov iv=operate [ov,iv] (getItem ov iv)
theorem Bo{prog:Program}{w:World}{A:Around}{E:Value->Shared->Prop}{s:Shared}{env:Env}{value slice:Expr}{pos:Pos}{T id:String}{Q:Value->Shared->Prop}
  (hl:typeLookup (.type T) "__getitem__"=pure (some (.builtin id))) (hs:Gp slice)
  (h:wpAny (model prog w) A (eval value env) (fun o s₁=>wpAny (model prog w) A (eval slice env) (fun i s₂=>s₂.TypeIs o T/\wpAny (model prog w) A (getItem o i) Q E s₂) E s₁) E s):
  wpAny (model prog w) A (eval (.Subscript value slice pos) env) Q E s:=by
 refine Subscript_ (wpAny_mono h (fun o s₁ c0=>wpAny_mono c0 (fun i s₂ hJ=>?_) fun _ _ x=>x) fun _ _ x=>x);obtain⟨hT,hJ⟩:=hJ;unfold subscriptTail;refine zAt ?_;rw[getitemInPython_of_ne hT.not_modules];refine zAt (wpAny_specialOf hT hl ?_)
 have fin:wpAny (model prog w) A (subscripted slice false o i) (fun r s₃=>wpAny (model prog w) A (letTemporaryGo value o r>>=fun _=>pure r) Q E s₃) E s₂:=by
  rw[hs o i];exact wpAny_operating (wpAny_mono hJ (fun r s₃ kn=>zAt (wpAny_letTemporaryGo (zAz kn))) fun _ _ x=>x)
 first
  |exact zAz (zAt fin)
  |exact zAt (zAz (zAt fin))
  |exact zAt fin
theorem rY{X:Cx}{Zt:List (Addr×Obj)}{σ:St}{H:Hp}{s:Shared}{a:Addr}{y:V}{o:Option V}(I:Inv X Zt σ H s)(g:DGet H a y o):s.TypeIs (.ref a) "dict":=by
 rcases g with⟨Zs,k,e,_,_⟩|⟨Zs,k,b,e,_,_,_⟩
 .obtain⟨_,_,vs,_,dd⟩:=rT I.hok e;exact dd.typeIs
 .obtain⟨_,_,xs,_,dd⟩:=rW I.hok e;exact dd.typeIs
def Gq(td ty:TE):TE:=fun σ H Q=>td σ H fun x H1=>ty σ H1 fun y H2=>∃a v,x=.ref a/\DGet H2 a y (some v)/\Q v H2
def Gr(td ty tv:TE):TS:=fun D σ H=>tv σ H fun v H1=>td σ H1 fun x H2=>ty σ H2 fun y H3=>∃a H4,x=.ref a/\DPut H3 a y v H4/\D.nx σ H4
section
variable{X:Cx}{o i e value:Expr}{pos pos' ng:Pos}{td ty tv:TE}
theorem q8(hu:X.A.units+1<cLine)(ho:PE X o td)(hi:PE X i ty)(hs:Gp i):PE X (.Subscript o i pos) (Gq td ty):=by
 intro Zt s σ H Q I h;refine Bo PySem.F.slot_dict_getitem.lookup hs (thn (ho Zt s σ H _ I h) fun u s1 ⟨x,H1,I1,rx,q1⟩=>thn (hi Zt s1 σ H1 _ I1 q1) fun iv s2 ⟨y,H2,I2,ry,a,v,ex,g,q2⟩=>?_);subst ex;obtain rfl:u=Value.ref a:=rx;exact⟨rY I2 g,xj hu I2 g ry fun w' s3 I3 bP=>⟨v,H2,I3,bP,q2⟩⟩
theorem q9(hu:X.A.units+1<cLine)(ho:PE X o td)(hi:PE X i ty)(hv:PE X value tv)(hs:swapsWith value (some (.Subscript o i pos')) pos.line X.env=pure false):
  PS X (.Assign [.Subscript o i pos'] value pos) (Gr td ty tv):=by
 intro Zt s σ H D I h;refine wpAny_Assign_Subscript (thn (hv Zt s σ H _ I h) fun r s1 ⟨v,H1,I1,rv,q1⟩=>thn (ho Zt s1 σ H1 _ I1 q1) fun u s2 ⟨x,H2,I2,rx,q2⟩=>thn (hi Zt s2 σ H2 _ I2 q2) fun iv s3 ⟨y,H3,I3,ry,a,H4,ex,g,q3⟩=>?_) hs;subst ex;obtain rfl:u=Value.ref a:=rx
 exact xm hu I3 g ry rv fun s4 I4=>⟨σ,H4,I4,q3⟩
end
theorem lO{P:Program}{w:World}{H:Hp}(h:Heap)(hb:sysModules<h.objs.size):ObjOk P w H (h.push {cls:=.type "dict",data:=.dict #[]}) h.objs.size (.dK []):=
 ⟨zAp _,beq_eq_false_iff_ne.mpr (Ne.symm (zB3 hb)),[],.nil,Heap.DictOf.new h⟩
theorem yQ{P:Program}{w:World}{H:Hp}(h:Heap)(hb:sysModules<h.objs.size):ObjOk P w H (h.push {cls:=.type "dict",data:=.dict #[]}) h.objs.size (.dT []):=
 ⟨zAp _,beq_eq_false_iff_ne.mpr (Ne.symm (zB3 hb)),[],.nil,_,#[],0,zB1 _ rfl,⟨rfl,rfl,rfl⟩,rfl,rfl,List.nodup_nil⟩
def Ei:TE:=fun _ H Q=>∀p,H p=none->Q (.ref p) (upd H p (.dT []))
section
variable{X:Cx}{pos:Pos}
theorem yR:PE X (.Dict [] [] pos) Ei:=fun Zt s σ H Q I h=>
 wpAny_Dict_empty ⟨.ref s.heap.objs.size,_,I.laid (a:=s.heap.objs.size) (o:=.dT []) (t':=s.toks) (fun _ _ q=>zAu _ q) (zA3 _) (yQ s.heap I.big),rfl,h _ (I.hok.fresh (zA3 _))⟩
end
def qb:List (TE×TE)->St->Hp->(List (V×V)->Hp->Prop)->Prop
 |[],_,H,Q=>Q [] H
 | (tk,tv)::r,σ,H,Q=>tk σ H fun x H1=>tv σ H1 fun y H2=>qb r σ H2 fun ps H3=>Q ((x,y)::ps) H3
abbrev VV:List (V×V)->List (Value×Value)->Prop:=Paired fun p q=>RelV p.1 q.1/\RelV p.2 q.2
def PPs(X:Cx)(pos:Pos)(keys:List (Option Expr))(values:List Expr)(fw:List (TE×TE)):Prop:=
 ∀(Zt:List (Addr×Obj)) (s:Shared) (σ:St) (H:Hp) (Q:List (V×V)->Hp->Prop),Inv X Zt σ H s->qb fw σ H Q->
  wpAny (model X.prog X.w) X.A (evalPairs (pairTrees keys values X.env pos)) (fun vs s'=>∃ps H',Inv X Zt σ H' s'/\VV ps vs/\Q ps H') X.xe s
theorem vI{X:Cx}{pos:Pos}:PPs X pos [] [] []:=fun Zt s σ H Q I h=>pairTrees_nil_walk ⟨[],H,I,.nil,h⟩
theorem rZ{X:Cx}{pos:Pos}{k v:Expr}{ks:List (Option Expr)}{vs:List Expr}{tk tv:TE}{fw:List (TE×TE)}(hk:PE X k tk)(hv:PE X v tv)(hr:PPs X pos ks vs fw):
  PPs X pos (some k::ks) (v::vs) ((tk,tv)::fw):=fun Zt s σ H Q I h=>
 pairTrees_cons_walk (thn (hk Zt s σ H _ I h) fun u s1 ⟨x,H1,I1,rx,q1⟩=>thn (hv Zt s1 σ H1 _ I1 q1) fun w2 s2 ⟨y,H2,I2,ry,q2⟩=>
  thn (hr Zt s2 σ H2 _ I2 q2) fun ws s3 ⟨ps,H3,I3,rel,q3⟩=>⟨(x,y)::ps,H3,I3,.cons ⟨rx,ry⟩ rel,q3⟩)
def fH(Zs more:List (Key×V)):List (Key×V):=more.foldl (fun acc kv=>putK acc kv.1 kv.2) Zs
theorem KV.merge:∀{more:List (Key×V)} {rs:List (Key×Value)} {Zs:List (Key×V)} {vs:List (Key×Value)},KV more rs->KV Zs vs->KV (fH Zs more) (merged vs rs):=by
 intro more rs Zs vs r;unfold KV at r
 induction r generalizing Zs vs with
 |nil=>intro q;exact q
 |@cons p q ps qs h t ih=>
  intro r0
  have e:KV (putK Zs p.1 p.2) (stored vs q.1 q.2):=by
   have:=r0.put p.1 h.2;rw[<-h.1];exact this
  exact ih e
theorem fJ:∀(more Zs:List (Key×V)),(fH Zs more).length<=Zs.length+more.length
 |[],Zs=>by show Zs.length<=Zs.length+0;lia
 |p::r,Zs=>by
  have h1:=fJ r (putK Zs p.1 p.2);have h2:=c7 Zs p.1 p.2;show(fH (putK Zs p.1 p.2) r).length<=_;rw[zAe];lia
theorem iV{P:Program}{w:World}:∀{Zs:List (Key×V)} {ws:List (Value×Value)},VV (Zs.map fun kv=>(kV kv.1,kv.2)) ws->∃rs,Carries (bJ P w) ws rs/\KV Zs rs
 |[],_,r=>by rw[List.map_nil]at r;cases r;exact⟨[],True.intro,.nil⟩
 |p::Zs,_,r=>by
  rw[zAk]at r
  cases r with
  |@cons a b as bs h t=>
   obtain⟨rs,c,q⟩:=iV (P:=P) (w:=w) t;obtain⟨b1,b2⟩:=b;exact⟨(p.1,b2)::rs,⟨rR h.1,rfl,c⟩,.cons ⟨rfl,h.2⟩ q⟩
def Gs(fw:List (TE×TE)):TE:=fun σ H Q=>∀p,H p=none->qb fw σ (upd H p (.dK [])) fun ps H2=>H2 p=some (.dK [])/\∃Zs:List (Key×V),ps=Zs.map (fun kv=>(kV kv.1,kv.2))/\Zs.length<=15/\Q (.ref p) (upd H2 p (.dK (fH [] Zs)))
theorem Bp{X:Cx}{pos:Pos}{keys:List (Option Expr)}{values:List Expr}{fw:List (TE×TE)}(h:PPs X pos keys values fw)(hG:keys.all (·.isSome)=true)(hl:keys.length=values.length)(h0:keys≠[])
  (B9:keys.length<=15):PE X (.Dict keys values pos) (Gs fw):=by
 intro Zt s σ H Q I q;have hn:=I.hok.fresh (zA3 s.heap.objs.size);have I1:=I.laid (a:=s.heap.objs.size) (o:=.dK []) (h':=s.heap.push {cls:=.type "dict",data:=.dict #[]}) (t':=s.toks) (fun _ _ q=>zAu _ q) (zA3 _) (lO s.heap I.big);refine wpAny_Dict_walk (knd:=bJ X.prog X.w) hG hl h0 B9 (thn (h Zt _ σ _ _ I1 (q _ hn)) fun ws s2 ⟨ps,H2,I2,rel,e,Zs,ep,lk,q2⟩=>?_);subst ep;obtain⟨rs,c,rk⟩:=iV (P:=X.prog) (w:=X.w) rel;obtain⟨z,hd,KC,r0,dd⟩:=yP I2.hok e;cases r0;refine⟨rs,c,dd,fun h' i7 hs=>⟨.ref s.heap.objs.size,_,?_,rfl,q2⟩⟩
 have hz:(fH [] Zs).length<=sizeLine:=by
  have h1:=fJ Zs [];rw[List.length_nil]at h1;rw[sizeLine_eq];lia
 have he:∃q,h'.get? s.heap.objs.size=some q:=let⟨q,_,_,hq,_⟩:=i7;⟨q,hq⟩
 exact lr I2 (by rw[e];exact True.intro) hs he (uE hz hd (rk.merge .nil) i7)
structure M2(X:Cx)(o:Expr)(m:Str)(apos:Pos)(e f:Expr)(ar:Pos):Prop where
 base:attributeBase o m X.env (eval o X.env)=eval o X.env
 few:((backTo ar (starEach [e,f] X.env)).all (fun x=>!x.1)&&(backToKw ar (keywordEach [] X.env)).all (fun x=>x.1.isSome)
  && decide (([e,f]:List Expr).length+([]:List Keyword).length+(if([]:List Keyword).isEmpty then 0 else 1)<30))=true
 line:(apos.endLine==ar.line)=true
 trees:backTo ar (starEach [e,f] X.env)=[(false,eval e X.env),(false,eval f X.env)]
def IsD(H:Hp)(a:Addr):Prop:=(∃Zs,Rd H a (.dK Zs))\/∃Zs,Rd H a (.dT Zs)
theorem Ej{X:Cx}{Zt:List (Addr×Obj)}{σ:St}{H:Hp}{s:Shared}{a:Addr}(I:Inv X Zt σ H s)(d:IsD H a):
  s.TypeIs (.ref a) "dict"/\(∀b,Value.ref a=.ref b->∃ob,s.heap.get? b=some ob/\ob.dict=none)/\(a==sysModules)=false:=by
 rcases d with⟨Zs,e⟩|⟨Zs,e⟩
 .obtain⟨_,hd,vs,_,dd⟩:=rT I.hok e;refine⟨dd.typeIs,fun b q=>?_,hd⟩;cases q;obtain⟨ob,_,_,h1,h2,_⟩:=dd;exact⟨ob,h1,h2.2.1⟩
 .obtain⟨_,hd,xs,_,dd⟩:=rW I.hok e;refine⟨dd.typeIs,fun b q=>?_,hd⟩;cases q;obtain⟨ob,_,_,h1,h2,_⟩:=dd;exact⟨ob,h1,h2.2.1⟩
section
variable{X:Cx}{Zt:List (Addr×Obj)}{σ:St}{H:Hp}{s:Shared}{a:Addr}{y d:V}{u r:Value}{o:Option V}{A:Around}{E:Value->Shared->Prop}
theorem Ek{Q:Value->Shared->Prop}(hu:A.units+1<cLine)(I:Inv X Zt σ H s)(g:DGet H a y o)(ry:RelV y u)(rd:RelV d r)(h:∀w' s',Inv X Zt σ H s'->RelV (o.getD d) w'->Q w' s'):
  wpAny (model X.prog X.w) A (call (.builtin "dict.get") [.ref a,u,r]) Q E s:=by
 rcases g with⟨Zs,k,e,ey,l⟩|⟨Zs,k,b,e,ey,eb,l⟩
 .subst ey;obtain⟨z,hd,vs,rel,dd⟩:=rT I.hok e;refine call_meetsIn PySem.F.slot_dict_get dd.typeIs PySem.F.entry_dict_get (PySem.F.args_dict_get_3 _ _ _) (meets_dict_get_default (bJ X.prog X.w) a (rR ry) hd r) ⟨_,dd.mapOf,h _ _ (I.tok _) ?_⟩;rw[l];exact(rel.val k).getD rd
 .subst ey;cases(show u=Value.ref b from ry);obtain⟨z,hd,xs,rel,dd⟩:=rW I.hok e;refine call_meetsIn PySem.F.slot_dict_get dd.typeIs PySem.F.entry_dict_get (PySem.F.args_dict_get_3 _ _ _) (meetsH_dict_get_default (tupleKind (bJ X.prog X.w)) a b hd r) ⟨tupleKind_room_in1 hu,k,xs,pZ I.hok eb,dd,h _ _ (I.tok _) ?_⟩;rw[l];exact(rel.val k).getD rd
end
def El(td ty tx:TE):TE:=fun σ H Q=>td σ H fun x H1=>∃a,x=.ref a/\IsD H1 a/\ty σ H1 fun y H2=>tx σ H2 fun z H3=>∃o,DGet H3 a y o/\Q (o.getD z) H3
section
variable{X:Cx}{o e f:Expr}{apos ar:Pos}{td ty tx:TE}
theorem sr(hu:X.A.units+1<cLine)(ho:PE X o td)(he:PE X e ty)(hf:PE X f tx)(m:M2 X o "get" apos e f ar):PE X (.Call (.Attribute o "get" apos) [e,f] [] ar) (El td ty tx):=by
 intro Zt s σ H Q I h;refine wpAny_Call_method m.base m.few m.line PySem.F.plainAttrs_dict PySem.F.slot_dict_get PySem.F.type_dict_get (thn (ho Zt s σ H _ I h) fun u s1 ⟨x,H1,I1,rx,a,ex,d,q1⟩=>?_);subst ex;obtain rfl:u=Value.ref a:=rx;obtain⟨t1,t2,_⟩:=Ej I1 d;refine⟨t1,t2,?_⟩;rw[m.trees]
 refine Calls.callWith_builtin rfl (Calls.evalArgs_plain (Calls.spliced_cons (thn (he Zt s1 σ H1 _ I1 q1) fun iv s2 ⟨y,H2,I2,ry,q2⟩=>
  Calls.spliced_cons (thn (hf Zt s2 σ H2 _ I2 q2) fun fv s3 ⟨z,H3,I3,rz,ov,g,q3⟩=>Calls.spliced_nil ?_))))
 exact Ek hu I3 g ry rz fun w' s4 I4 bP=>⟨_,H3,I4,bP,q3⟩
end
section
variable{X:Cx}{Zt:List (Addr×Obj)}{σ:St}{H:Hp}{s:Shared}{a:Addr}{Zs:List (Key×V)}{A:Around}{E:Value->Shared->Prop}
end
section
variable{X:Cx}{Zt:List (Addr×Obj)}{σ:St}{H:Hp}{s:Shared}{a:Addr}{y:V}{u:Value}{A:Around}{E:Value->Shared->Prop}
end
def Bq:Key->PyData
 |.inl i=>.int i
 |.inr x=>.str x
mutual
inductive IsTh(S:Addr->Prop)(H:Hp):V->PyData->Prop
 |non:IsTh S H .non .none
 |bl (b:Bool):IsTh S H (.bl b) (.bool b)
 |int (i:Int):IsTh S H (.int i) (.int i)
 |str (x:Str):IsTh S H (.str x) (.str x)
 |lst {a:Addr} {xs:List V} {ds:List PyData} (hs:S a) (e:H a=some (.lst xs)) (r:IsThs S H xs ds):IsTh S H (.ref a) (.list ds)
 |tup {a:Addr} {xs:List V} {ds:List PyData} (e:H a=some (.tup xs)) (r:IsThs S H xs ds):IsTh S H (.ref a) (.tuple ds)
 |dct {a:Addr} {ks:List (Key×Int)} (hs:S a) (e:H a=some (.dK (ks.map fun p=>(p.1,V.int p.2)))):IsTh S H (.ref a) (.dict (ks.map fun p=>(Bq p.1,.int p.2)))
inductive IsThs(S:Addr->Prop)(H:Hp):List V->List PyData->Prop
 |nil:IsThs S H [] []
 |cons {v:V} {d:PyData} {vs:List V} {ds:List PyData} (h:IsTh S H v d) (t:IsThs S H vs ds):IsThs S H (v::vs) (d::ds)
end
section
variable{S S':Addr->Prop}{H H':Hp}
theorem IsThs.length:∀{vs:List V} {ds:List PyData},IsThs S H vs ds->vs.length=ds.length
 |_,_,.nil=>rfl
 |_,_,.cons _ t=>by rw[zAe,zAe,IsThs.length t]
theorem IsThs.get:∀{vs:List V} {ds:List PyData} {i:Nat} {v:V},IsThs S H vs ds->vs[i]?=some v->∃d,ds[i]?=some d/\IsTh S H v d
 |_,_,_,_,.nil,e=>by simp at e
 |_,_,0,_,.cons h _,e=>by simp at e;subst e;exact⟨_,rfl,h⟩
 |_,_,i+1,v,.cons _ t,e=>by
  obtain⟨d,h1,h2⟩:=IsThs.get (i:=i) (v:=v) t (by simpa using e);exact⟨d,by simpa using h1,h2⟩
theorem IsThs.append:∀{vs ws:List V} {ds es:List PyData},IsThs S H vs ds->IsThs S H ws es->IsThs S H (vs++ws) (ds++es)
 |_,_,_,_,.nil,s=>s
 |_,_,_,_,.cons h t,s=>.cons h (IsThs.append t s)
theorem IsThs.set{x:V}{e:PyData}(h:IsTh S H x e):∀{vs:List V} {ds:List PyData} (i:Nat),IsThs S H vs ds->IsThs S H (vs.set i x) (ds.set i e)
 |_,_,_,.nil=>.nil
 |_,_,0,.cons _ t=>.cons h t
 |_,_,i+1,.cons q t=>.cons q (IsThs.set h i t)
theorem IsThs.take:∀{vs:List V} {ds:List PyData} (n:Nat),IsThs S H vs ds->IsThs S H (vs.take n) (ds.take n)
 |_,_,0,_=>.nil
 |_,_,_+1,.nil=>.nil
 |_,_,n+1,.cons h t=>.cons h (IsThs.take n t)
theorem IsThs.drop:∀{vs:List V} {ds:List PyData} (n:Nat),IsThs S H vs ds->IsThs S H (vs.drop n) (ds.drop n)
 |_,_,0,r=>r
 |_,_,_+1,.nil=>.nil
 |_,_,n+1,.cons _ t=>IsThs.drop n t
theorem IsThs.erase:∀{vs:List V} {ds:List PyData} (i:Nat),IsThs S H vs ds->IsThs S H (vs.eraseIdx i) (ds.eraseIdx i)
 |_,_,_,.nil=>.nil
 |_,_,0,.cons _ t=>t
 |_,_,i+1,.cons r t=>.cons r (IsThs.erase i t)
theorem IsThs.ints:∀(ns:List Int),IsThs S H (ns.map V.int) (ns.map PyData.int)
 |[]=>.nil
 |n::ns=>.cons (.int n) (IsThs.ints ns)
mutual
theorem IsTh.keep(ht:∀b xs,H b=some (.tup xs)->H' b=some (.tup xs))(hs:∀b o,S b->H b=some o->H' b=some o)(hS:∀b o,S b->H b=some o->S' b):∀{v:V} {d:PyData},IsTh S H v d->IsTh S' H' v d
 |_,_,.non=>.non
 |_,_,.bl b=>.bl b
 |_,_,.int i=>.int i
 |_,_,.str x=>.str x
 |_,_,.lst s e r=>.lst (hS _ _ s e) (hs _ _ s e) (IsThs.keep ht hs hS r)
 |_,_,.tup e r=>.tup (ht _ _ e) (IsThs.keep ht hs hS r)
 |_,_,.dct s e=>.dct (hS _ _ s e) (hs _ _ s e)
theorem IsThs.keep(ht:∀b xs,H b=some (.tup xs)->H' b=some (.tup xs))(hs:∀b o,S b->H b=some o->H' b=some o)(hS:∀b o,S b->H b=some o->S' b):∀{vs:List V} {ds:List PyData},IsThs S H vs ds->IsThs S' H' vs ds
 |_,_,.nil=>.nil
 |_,_,.cons h t=>.cons (IsTh.keep ht hs hS h) (IsThs.keep ht hs hS t)
end
def tyD:PyData->String
 |.none=>"NoneType"
 |.bool _=>"bool"
 |.int _=>"int"
 |.str _=>"str"
 |.list _=>"list"
 |.tuple _=>"tuple"
 |.dict _=>"dict"
theorem IsTh.ty{K:Frag}{v:V}{d:PyData}(h:IsTh S H v d):TyOf K H v (.type (tyD d)):=by
 cases h with
 |non=>exact .non
 |bl b=>exact .bl b
 |int i=>exact .int i
 |str x=>exact .str x
 |lst s e r=>exact .lst e
 |tup e r=>exact .tup e
 |dct s e=>exact .dK e
def jL:PyData->Bool
 |.int _=>true
 |.bool _=>true
 |_=>false
def ji:PyData->Bool
 |.bool _=>true
 |_=>false
def dh:PyData->Bool
 |.tuple _=>true
 |_=>false
theorem vJ{K:Frag}(d:PyData):PySem.W.kitOne K (.type (tyD d)) (.type "int")=some (jL d):=by
 cases d
 .exact jK
 .exact pQ
 .exact rM
 .exact rO
 .exact pW
 .exact nq
 .exact pY
theorem sy{K:Frag}(d:PyData):PySem.W.kitOne K (.type (tyD d)) (.type "bool")=some (ji d):=by
 cases d
 .exact jg
 .exact mY
 .exact pR
 .exact pU
 .exact nj
 .exact lM
 .exact nu
theorem iB{K:Frag}(d:PyData):PySem.W.kitOne K (.type (tyD d)) (.type "tuple")=some (dh d):=by
 cases d
 .exact iU
 .exact lJ
 .exact mZ
 .exact ni
 .exact lK
 .exact kY
 .exact lN
end
mutual
def sz:PyData->Nat
 |.none=>1
 |.bool _=>1
 |.int _=>1
 |.str _=>1
 |.list xs=>1+szs xs
 |.tuple xs=>1+szs xs
 |.dict Zs=>1+4*Zs.length
def szs:List PyData->Nat
 |[]=>0
 |x::xs=>sz x+szs xs
end
mutual
def tame:PyData->Bool
 |.none=>true
 |.bool _=>true
 |.int i=>decide (i.natAbs<2^128)
 |.str x=>decide (x.length<=10)&&x.cps.toList.all fun c=>decide (c<16^8)
 |.list xs=>gR xs
 |.tuple xs=>gR xs
 |.dict Zs=>aJ Zs
def gR:List PyData->Bool
 |[]=>true
 |x::xs=>tame x&&gR xs
def aJ:List (PyData×PyData)->Bool
 |[]=>true
 | (.int i,.int j)::r=>decide (i.natAbs<2^128)&&decide (j.natAbs<2^128)&&aJ r
 | (.str x,.int j)::r=>(decide (x.length<=10)&&x.cps.toList.all fun c=>decide (c<16^8))&&decide (j.natAbs<2^128)&&aJ r
 |_::_=>false
end
theorem lu{i:Int}(h:i.natAbs<2^128):(Str.ofString (toString i)).length<=130:=by
 have e:=int_text_length_le (a:=i) (k:=128) Zx (by
  by_cases h0:i.natAbs=0
  .rw[h0];decide
  .exact(Nat.log2_lt h0).mpr h)
 rw[PySem.ofString_length];lia
theorem kE:∀(ts:List Str) (k:Nat) (acc:Str),(textFrom k acc ts).length<=acc.length+piled ts
 |[],k,acc=>by show acc.length<=acc.length+0;lia
 |t::r,k,acc=>by
  have h:=kE r (k+1) (acc++(if k>0 then ", " else "":String)++t)
  have e:(acc++(if k>0 then ", " else "":String)++t).length<=acc.length+2+t.length:=by
   rw[strLen_append,strLen_append];split
   .show acc.length+2+t.length<=_;lia
   .show acc.length+0+t.length<=_;lia
  rw[piled_cons];show(textFrom (k+1) _ r).length<=_;lia
theorem sH(ts:List Str):(listText ts).length<=piled ts+2:=by
 have h:=kE ts 0 "[";unfold listText;rw[strLen_append];have e1:(("[":Str)).length=1:=rfl;have e2:(("]":Str)).length=1:=rfl;lia
theorem vK(ts:List Str):(Str.join ", " ts).length<=piled ts:=by
 by_cases h:ts=[]
 .subst h;show 0<=_;lia
 .have:=join_length_add ts h;lia
theorem qd(ts:List Str):(tupleText ts).length<=piled ts+3:=by
 have h:=vK ts;unfold tupleText;rw[strLen_append,strLen_append];have e1:(("(":Str)).length=1:=rfl
 have e2:((if ts.length==1 then ",)" else ")":String):Str).length<=2:=by
  split
  .exact zA3 2
  .exact Nat.le_succ 1
 lia
theorem sI(ts:List Str):(dictText ts).length<=piled ts+2:=by
 have h:=vK ts;unfold dictText;rw[strLen_append,strLen_append];have e1:(("{":Str)).length=1:=rfl;have e2:(("}":Str)).length=1:=rfl;lia
theorem shownKv_le:∀(Zs:List (PyData×PyData)),aJ Zs=true->piled (PyData.shownKv Zs)<=400*Zs.length
 |[],_=>by show 0<=_;lia
 | (.int i,.int j)::r,h=>by
  have h':(decide (i.natAbs<2^128)&&decide (j.natAbs<2^128)&&aJ r)=true:=h;simp only[Bool.and_eq_true,Zq]at h';have h1:=lu h'.1.1;have h2:=lu h'.1.2;have h3:=shownKv_le r h'.2;show piled ((PyData.shown (.int i)++": " ++ PyData.shown (.int j))::PyData.shownKv r)<=_;rw[piled_cons,strLen_append,strLen_append];have e1:((": ":Str)).length=2:=rfl;have e2:PyData.shown (.int i)=Str.ofString (toString i):=rfl;have e3:PyData.shown (.int j)=Str.ofString (toString j):=rfl;rw[e1,e2,e3,zAe];lia
 | (.none,_)::_,h=>by simp[aJ]at h
 | (.bool _,_)::_,h=>by simp[aJ]at h
 | (.str x,.int j)::r,h=>by
  have h':((decide (x.length<=10)&&x.cps.toList.all fun c=>decide (c<16^8))&&decide (j.natAbs<2^128)&&aJ r)=true:=h;rw[zAc,zAc,zAc,Zq,Zq]at h';have h0:x.length<=10:=h'.1.1.1
  have h1:=StrLaws.reprText_len x fun c hc=>by simpa using List.all_eq_true.mp h'.1.1.2 c hc
  have h2:=lu h'.1.2;have h3:=shownKv_le r h'.2;show piled ((PyData.shown (.str x)++": " ++ PyData.shown (.int j))::PyData.shownKv r)<=_;rw[piled_cons,strLen_append,strLen_append];have e1:((": ":Str)).length=2:=rfl;have e2:PyData.shown (.str x)=reprText x:=rfl;have e3:PyData.shown (.int j)=Str.ofString (toString j):=rfl;rw[e1,e2,e3,zAe];lia
 | (.str _,.none)::_,h=>by simp[aJ]at h
 | (.str _,.bool _)::_,h=>by simp[aJ]at h
 | (.str _,.str _)::_,h=>by simp[aJ]at h
 | (.str _,.list _)::_,h=>by simp[aJ]at h
 | (.str _,.tuple _)::_,h=>by simp[aJ]at h
 | (.str _,.dict _)::_,h=>by simp[aJ]at h
 | (.list _,_)::_,h=>by simp[aJ]at h
 | (.tuple _,_)::_,h=>by simp[aJ]at h
 | (.dict _,_)::_,h=>by simp[aJ]at h
 | (.int _,.none)::_,h=>by simp[aJ]at h
 | (.int _,.bool _)::_,h=>by simp[aJ]at h
 | (.int _,.str _)::_,h=>by simp[aJ]at h
 | (.int _,.list _)::_,h=>by simp[aJ]at h
 | (.int _,.tuple _)::_,h=>by simp[aJ]at h
 | (.int _,.dict _)::_,h=>by simp[aJ]at h
mutual
theorem o9:∀(d:PyData),tame d=true->d.shown.length+2<=200*sz d
 |.none,_=>by decide +kernel
 |.bool true,_=>by decide +kernel
 |.bool false,_=>by decide +kernel
 |.int i,h=>by
  have:=lu (i:=i) (by simpa[tame]using h);show(Str.ofString (toString i)).length+2<=200*1;lia
 |.str x,h=>by
  have h':(decide (x.length<=10)&&x.cps.toList.all fun c=>decide (c<16^8))=true:=h;rw[zAc]at h';have h1:x.length<=10:=by simpa using h'.1
  have:=StrLaws.reprText_len x fun c hc=>by simpa using List.all_eq_true.mp h'.2 c hc
  show(reprText x).length+2<=200*1;lia
 |.list xs,h=>by
  have h1:=gf xs (by simpa[tame]using h);have h2:=sH (PyData.shownAll xs);show(listText (PyData.shownAll xs)).length+2<=200*(1+szs xs);lia
 |.tuple xs,h=>by
  have h1:=gf xs (by simpa[tame]using h);have h2:=qd (PyData.shownAll xs);show(tupleText (PyData.shownAll xs)).length+2<=200*(1+szs xs);lia
 |.dict Zs,h=>by
  have h1:=shownKv_le Zs (by simpa[tame]using h);have h2:=sI (PyData.shownKv Zs);show(dictText (PyData.shownKv Zs)).length+2<=200*(1+4*Zs.length);lia
theorem gf:∀(xs:List PyData),gR xs=true->piled (PyData.shownAll xs)<=200*szs xs
 |[],_=>by show 0<=_;lia
 |x::xs,h=>by
  have h':(tame x&&gR xs)=true:=h;rw[zAc]at h';have h1:=o9 x h'.1;have h2:=gf xs h'.2;show piled (PyData.shown x::PyData.shownAll xs)<=200*(sz x+szs xs);rw[piled_cons];lia
end
theorem fK:∀(Zs:List (PyData×PyData)),aJ Zs=true->PyData.showableKv Zs=true
 |[],_=>rfl
 | (.int i,.int j)::r,h=>by
  have h':(decide (i.natAbs<2^128)&&decide (j.natAbs<2^128)&&aJ r)=true:=h;simp only[Bool.and_eq_true,Zq]at h'
  have big:∀{n:Int},n.natAbs<2^128->n.natAbs.log2<1920:=fun{n} hn=>by
   by_cases h0:n.natAbs=0
   .rw[h0];decide
   .exact Nat.lt_trans ((Nat.log2_lt h0).mpr hn) Zx
  simp only[PyData.showableKv,PyData.showable,Bool.and_eq_true,Zq];exact⟨⟨big h'.1.1,big h'.1.2⟩,fK r h'.2⟩
 | (.none,_)::_,h=>by simp[aJ]at h
 | (.bool _,_)::_,h=>by simp[aJ]at h
 | (.str x,.int j)::r,h=>by
  have h':((decide (x.length<=10)&&x.cps.toList.all fun c=>decide (c<16^8))&&decide (j.natAbs<2^128)&&aJ r)=true:=h;rw[zAc,zAc,Zq]at h'
  have big:∀{n:Int},n.natAbs<2^128->n.natAbs.log2<1920:=fun{n} hn=>by
   by_cases h0:n.natAbs=0
   .rw[h0];decide
   .exact Nat.lt_trans ((Nat.log2_lt h0).mpr hn) Zx
  simp only[PyData.showableKv,PyData.showable,Bool.and_eq_true,Zq];exact⟨⟨trivial,big h'.1.2⟩,fK r h'.2⟩
 | (.str _,.none)::_,h=>by simp[aJ]at h
 | (.str _,.bool _)::_,h=>by simp[aJ]at h
 | (.str _,.str _)::_,h=>by simp[aJ]at h
 | (.str _,.list _)::_,h=>by simp[aJ]at h
 | (.str _,.tuple _)::_,h=>by simp[aJ]at h
 | (.str _,.dict _)::_,h=>by simp[aJ]at h
 | (.list _,_)::_,h=>by simp[aJ]at h
 | (.tuple _,_)::_,h=>by simp[aJ]at h
 | (.dict _,_)::_,h=>by simp[aJ]at h
 | (.int _,.none)::_,h=>by simp[aJ]at h
 | (.int _,.bool _)::_,h=>by simp[aJ]at h
 | (.int _,.str _)::_,h=>by simp[aJ]at h
 | (.int _,.list _)::_,h=>by simp[aJ]at h
 | (.int _,.tuple _)::_,h=>by simp[aJ]at h
 | (.int _,.dict _)::_,h=>by simp[aJ]at h
mutual
theorem kJ:∀(d:PyData),tame d=true->d.showable=true
 |.none,_=>rfl
 |.bool _,_=>rfl
 |.int i,h=>by
  have h':i.natAbs<2^128:=by simpa[tame]using h
  have:i.natAbs.log2<1920:=by
   by_cases h0:i.natAbs=0
   .rw[h0];decide
   .exact Nat.lt_trans ((Nat.log2_lt h0).mpr h') Zx
  simp only[PyData.showable];exact decide_eq_true this
 |.str _,_=>rfl
 |.list xs,h=>by
  simp only[PyData.showable];exact gh xs (by simpa[tame]using h)
 |.tuple xs,h=>by
  simp only[PyData.showable];exact gh xs (by simpa[tame]using h)
 |.dict Zs,h=>by
  simp only[PyData.showable];exact fK Zs (by simpa[tame]using h)
theorem gh:∀(xs:List PyData),gR xs=true->PyData.showableAll xs=true
 |[],_=>rfl
 |x::xs,h=>by
  have h':(tame x&&gR xs)=true:=h;rw[zAc]at h';simp only[PyData.showableAll,Bool.and_eq_true];exact⟨kJ x h'.1,gh xs h'.2⟩
end
theorem iW:∀(Zs:List (PyData×PyData)),aJ Zs=true->PyData.depthKv Zs=0
 |[],_=>rfl
 | (.int i,.int j)::r,h=>by
  have h':(decide (i.natAbs<2^128)&&decide (j.natAbs<2^128)&&aJ r)=true:=h;simp only[Bool.and_eq_true,Zq]at h';simp only[PyData.depthKv,PyData.depth,iW r h'.2];rfl
 | (.none,_)::_,h=>by simp[aJ]at h
 | (.bool _,_)::_,h=>by simp[aJ]at h
 | (.str x,.int j)::r,h=>by
  have h':((decide (x.length<=10)&&x.cps.toList.all fun c=>decide (c<16^8))&&decide (j.natAbs<2^128)&&aJ r)=true:=h;rw[zAc]at h';simp only[PyData.depthKv,PyData.depth,iW r h'.2];rfl
 | (.str _,.none)::_,h=>by simp[aJ]at h
 | (.str _,.bool _)::_,h=>by simp[aJ]at h
 | (.str _,.str _)::_,h=>by simp[aJ]at h
 | (.str _,.list _)::_,h=>by simp[aJ]at h
 | (.str _,.tuple _)::_,h=>by simp[aJ]at h
 | (.str _,.dict _)::_,h=>by simp[aJ]at h
 | (.list _,_)::_,h=>by simp[aJ]at h
 | (.tuple _,_)::_,h=>by simp[aJ]at h
 | (.dict _,_)::_,h=>by simp[aJ]at h
 | (.int _,.none)::_,h=>by simp[aJ]at h
 | (.int _,.bool _)::_,h=>by simp[aJ]at h
 | (.int _,.str _)::_,h=>by simp[aJ]at h
 | (.int _,.list _)::_,h=>by simp[aJ]at h
 | (.int _,.tuple _)::_,h=>by simp[aJ]at h
 | (.int _,.dict _)::_,h=>by simp[aJ]at h
mutual
theorem jj:∀(d:PyData),tame d=true->d.depth<=sz d
 |.none,_=>zAp _
 |.bool _,_=>zAp _
 |.int i,_=>zAp _
 |.str _,_=>zAp _
 |.list xs,h=>by
  have:=jM xs (by simpa[tame]using h);simp only[PyData.depth,sz];lia
 |.tuple xs,h=>by
  have:=jM xs (by simpa[tame]using h);simp only[PyData.depth,sz];lia
 |.dict Zs,h=>by
  have:=iW Zs (by simpa[tame]using h);simp only[PyData.depth,sz];lia
theorem jM:∀(xs:List PyData),gR xs=true->PyData.depthAll xs<=szs xs
 |[],_=>zAp _
 |x::xs,h=>by
  have h':(tame x&&gR xs)=true:=h;rw[zAc]at h';have h1:=jj x h'.1;have h2:=jM xs h'.2;simp only[PyData.depthAll,szs];lia
end
section
variable{X:Cx}{Zt:List (Addr×Obj)}{σ:St}{H:Hp}{s:Shared}{S:Addr->Prop}
theorem lQ{P:Program}{w:World}:∀{ks:List (Key×Int)} {vs:List (Key×Value)} {es:List DictEntry},KV (ks.map fun p=>(p.1,V.int p.2)) vs->Pairs (bJ P w) es vs->
  (∃as,ReadsAll s.heap (es.map (·.key)) ((ks.map fun p=>(Bq p.1,PyData.int p.2)).map (·.1)) as/\as=[])/\∃as,ReadsAll s.heap (es.map (·.val)) ((ks.map fun p=>(Bq p.1,PyData.int p.2)).map (·.2)) as/\as=[]
 |[],vs,es,r,p=>by
  cases r;cases p;exact⟨⟨_,.nil,rfl⟩,⟨_,.nil,rfl⟩⟩
 | (k,n)::ks,vs,es,r,p=>by
  cases r with
  |@cons a b l1 l2 h t=>
   cases p with
   |@cons e kv c9 kvs' h1 h2 h3=>
    obtain⟨⟨_,i1,rfl⟩,⟨_,i2,rfl⟩⟩:=lQ (ks:=ks) t h3;obtain⟨q1,q2⟩:=h;have tJ:lB b.1 e.key=true:=h1;rw[<-q1]at tJ;obtain⟨tv,KD⟩:∃t,b.2=Value.int n t:=q2;rw[KD]at h2;refine⟨⟨_,?_,rfl⟩,⟨_,?_,rfl⟩⟩
    .show ReadsAll s.heap (e.key::c9.map (·.key)) (Bq k::_) ([]++[]);rcases bM tJ with⟨i,tk,ei,ev⟩|⟨x,tk,ei,ev⟩
     .have ei:k=Sum.inl i:=ei;rw[ev,ei];exact .cons (.int _ _) i1
     .have ei:k=Sum.inr x:=ei;rw[ev,ei];exact .cons (.str _ _) i1
    .show ReadsAll s.heap (e.val::c9.map (·.val)) (PyData.int n::_) ([]++[]);rw[h2];exact .cons (.int _ _) i2
mutual
theorem IsTh.reads(I:Inv X Zt σ H s):∀{v:V} {d:PyData} {u:Value},IsTh S H v d->RelV v u->∃as,Reads s.heap u d as/\∀a∈as,S a
 |_,_,_,.non,r=>by cases(show _=Value.none from r);exact⟨[],.none,fun _ h=>nomatch h⟩
 |_,_,_,.bl b,r=>by cases(show _=Value.bool b from r);exact⟨[],.bool b,fun _ h=>nomatch h⟩
 |_,_,_,.int i,r=>by obtain⟨t,rfl⟩:=r;exact⟨[],.int i t,fun _ h=>nomatch h⟩
 |_,_,_,.str x,r=>by obtain⟨t,rfl⟩:=r;exact⟨[],.str x t,fun _ h=>nomatch h⟩
 |_,_,_,@IsTh.lst _ _ a xs ds hs e t,r=>by
  cases(show _=Value.ref a from r)
  obtain⟨_,Zr,n,rv,ho⟩:=(show ObjOk X.prog X.w H s.heap a (.lst xs)from I.hok a _ e)
  obtain⟨as,h1,h2⟩:=IsThs.reads I t rv;refine⟨a::as,.list ho rfl rfl (by simpa using h1),fun b hb=>?_⟩;rcases zAo.mp hb with z|z
  .rw[z];exact hs
  .exact h2 b z
 |_,_,_,@IsTh.tup _ _ a xs ds e t,r=>by
  cases(show _=Value.ref a from r)
  obtain⟨_,Zr,rv,o,ho,hc,n,hd⟩:=(show ObjOk X.prog X.w H s.heap a (.tup xs)from I.hok a _ e)
  obtain⟨as,h1,h2⟩:=IsThs.reads I t rv;exact⟨as,.tuple ho hc hd (by simpa using h1),h2⟩
 |_,_,_,@IsTh.dct _ _ a ks hs e,r=>by
  cases(show _=Value.ref a from r)
  obtain⟨_,_,vs,rel,o,es,ep,ho,hx,hd,_,hp,_⟩:=(show ObjOk X.prog X.w H s.heap a (.dK _)from I.hok a _ e)
  obtain⟨⟨_,i1,rfl⟩,⟨_,i2,rfl⟩⟩:=lQ (s:=s) rel hp;refine⟨a::[]++[],.dict ho hx.1 hd i1 i2,fun b hb=>?_⟩;rw[show b=a by simpa using hb];exact hs
theorem IsThs.reads(I:Inv X Zt σ H s):∀{vs:List V} {ds:List PyData} {us:List Value},IsThs S H vs ds->Vals vs us->∃as,ReadsAll s.heap us ds as/\∀a∈as,S a
 |_,_,_,.nil,r=>by cases r;exact⟨[],.nil,fun _ h=>nomatch h⟩
 |_,_,_,.cons h t,r=>by
  cases r with
  |cons r1 r2=>
   obtain⟨as,h1,h2⟩:=IsTh.reads I h r1;obtain⟨bs,h3,h4⟩:=IsThs.reads I t r2;exact⟨as++bs,.cons h1 h3,fun b hb=>(zA6.mp hb).elim (h2 b) (h4 b)⟩
end
theorem iC(hg:X.A.guards=some [])(hS:¬S sysModules):gF X (.builtin "repr") (fun xs H Q=>∃v d,xs=[v]/\IsTh S H v d/\tame d=true/\sz d<=4000/\X.A.units+(sz d+1)<cLine/\Q (.str d.shown) H):=by
 intro Zt s σ H xs us Q I r h;obtain⟨v,d,rfl,th,tm,hz,hu,q⟩:=h;obtain⟨u,rfl,ru⟩:=vals1 r;have hl:=o9 d tm;have hsz:d.shown.length<=sizeLine:=by rw[sizeLine_eq];lia
 have fin:∀t h' tk,(∀b o,s.heap.get? b=some o->h'.get? b=some o)->EP X Zt σ Q (.str d.shown t) {s with heap:=h',toks:=tk}:=fun t h' tk k=>⟨.str d.shown,H,I.kept k,⟨t,rfl⟩,q⟩
 have fx:=kJ d tm
 cases th with
 |non=>cases(show u=Value.none from ru);exact PySem.P.repr_of_none (fin _ s.heap _ fun _ _ e=>e)
 |bl b=>cases(show u=Value.bool b from ru);exact PySem.P.repr_of_bool (fin _ s.heap _ fun _ _ e=>e)
 |int i=>
  obtain⟨t,rfl⟩:=ru;have:i.natAbs.log2<1920:=by simpa[PyData.showable]using fx
  exact PySem.P.repr_of_int this (fin _ s.heap _ fun _ _ e=>e)
 |str x=>obtain⟨t,rfl⟩:=ru;exact PySem.P.repr_of_str (fin _ s.heap _ fun _ _ e=>e) hsz
 |@lst a xs ds hs e t=>
  obtain⟨as,rd,ha⟩:=(IsTh.lst hs e t).reads I ru;cases(show u=Value.ref a from ru);exact repr_of_reads' rd fx (fun _ hm=>hS (ha _ hm)) hg (by have:=jj _ tm;lia) (fun b o e=>e) (fun h' t tk k=>fin t h' tk k) hsz
 |@tup a xs ds e t=>
  obtain⟨as,rd,ha⟩:=(IsTh.tup (S:=S) e t).reads I ru;cases(show u=Value.ref a from ru);exact repr_of_reads' rd fx (fun _ hm=>hS (ha _ hm)) hg (by have:=jj _ tm;lia) (fun b o e=>e) (fun h' t tk k=>fin t h' tk k) hsz
 |@dct a ks hs e=>
  obtain⟨as,rd,ha⟩:=(IsTh.dct hs e).reads I ru;cases(show u=Value.ref a from ru);exact repr_of_reads' rd fx (fun _ hm=>hS (ha _ hm)) hg (by have:=jj _ tm;lia) (fun b o e=>e) (fun h' t tk k=>fin t h' tk k) hsz
end
section
variable{X:Cx}
def Hw(xs:List V)(i:Nat)(y:V):List V:=xs.take i++y::xs.drop i
inductive RInsertI(x:V)(vs:List V)(H:Hp)(Q:VK):Prop
 |mk:∀l xs i y,(x=.ref l)->(vs=[.int i,y])->(H l=some (.lst xs))->(0<=i)->(i<=xs.length)->(xs.length<sizeLine)->(Q .non (upd H l (.lst (Hw xs i.toNat y))))->RInsertI  x vs H Q
def Br:V->List V->Hp->VK->Prop:=fun x vs H Q=>RInsertI  x vs H Q
theorem oh:MtM X "list.insert" Br:=by
 intro Zt s σ H x vs v us Q I rx rv h;obtain⟨l,xs,i,y,rfl,rfl,hH,h0,h1,hz,q⟩:=h;cases rx;obtain⟨u,w',rfl,⟨t,rfl⟩,bP⟩:=rv.two;obtain⟨z,Zr,n,r,hl,e⟩:=I.lstM hH;have hn:=jF
 refine call_meets F.slot_list_insert ⟨_,e,rfl⟩ F.entry_list_insert (F.args_list_insert_3 _ _ _)
  (AutoSeq1.list_insert_list_int_val_1 l Zr.toArray n i t w' (by rw[fitsIndex_both Zz Zz];exact zAg) (by rw[zA8];lia)) ⟨e,?_⟩
 refine⟨.non,_,I.lset (its':=Zr.take i.toNat++w'::Zr.drop i.toNat) hH e ?_ (Vals.append (r.take _) (.cons bP (r.drop _))) ?_,rfl,q⟩
 .have h2:¬i<0:=Zz
  have h3:min i.toNat Zr.toArray.size=i.toNat:=by rw[zA8];lia
  simp only[h2,if_false,h3];simp;exact List.take_of_length_le (by rw[List.length_drop];lia)
 .rw[zA2,zAe,zAd,List.length_drop];lia
theorem xn(hu:X.A.units<cLine):OpR X (compareOp .Eq) (fun x y H Q=>∃a b xs,x=.ref a/\y=.ref b/\SqT X.K H a xs/\SqT X.K H b []/\Q (.bl xs.isEmpty) H):=by
 intro Zt s σ H x y v u Q I rx ry h;obtain⟨a,b,xs,rfl,rfl,ha,hb,q⟩:=h;cases rx;cases ry;obtain⟨Zr,r1,p1,_⟩:=I.tuple ha;obtain⟨bq,r2,p2,_⟩:=I.tuple hb;have e2:bq=[]:=r2.zero;subst e2;refine PySem.SeqAt.eq_tupleAt (e:=fun _=>true) p1 p2 hu (fun j h1 h2=>absurd h2 Zy) ?_
 have e3:((List.range (min Zr.toArray.size ([]:List Value).toArray.size)).all (fun _=>true)&&Zr.toArray.size==([]:List Value).toArray.size)=xs.isEmpty:=by
  have:=r1.length
  cases Zr with
  |nil=>
   cases r1;rfl
  |cons a r=>cases xs with
   |nil=>simp at this
   |cons b r'=>simp
 rw[e3];exact⟨.bl _,H,I,rfl,q⟩
end
section
variable{prog:Program}{w:World}{A:Around}{E:Value->Shared->Prop}{s:Shared}
theorem yS{j t:Addr}{i:Nat}{Zr:Array Value}{x:Value}{Q:Value->Shared->Prop}(hj:s.heap.IsTupleIter j t i)(ht:s.heap.IsTuple t Zr)(hx:Zr[i]?=some x)
  (hQ:∀h',h'.IsTupleIter j t (i+1)->Heap.SameBut j s.heap h'->Q x {s with heap:=h'}):wpAny (model prog w) A (Builtin.SmallTypes.nextOf (.ref j)) Q E s:=by
 obtain⟨o,ho,hc,hd⟩:=id hj;obtain⟨p,hp,_,m,hm⟩:=ht;unfold Builtin.SmallTypes.nextOf;refine wpAny_bind (wpAny_callSpecial?_slot (name:=Str.ofString "__next__") hj.typeIs F.slot_tuple_iterator_next (wpAny_call_entry F.slot_tuple_iterator_next hj.typeIs F.entry_tuple_iterator_next ?_ (F.args_tuple_iterator_next_1 _)));show wpAny _ _ (field (.ref j) 0>>=_) _ _ s;refine wpAny_bind (wpAny_field ho hd (x:=.ref t) rfl ?_);show wpAny _ _ (if(Value.ref t==Value.none)=true then _ else _) _ _ s;rw[if_neg (show¬((Value.ref t==Value.none)=true) by intro z;exact zAg z)];show wpAny _ _ (field (.ref j) 1>>=_) _ _ s;refine wpAny_bind (wpAny_field ho hd (x:=.int i 0) rfl (wpAny_bind (wpAny_seqItems hp hm ?_)));simp only[Int.toNat_natCast,hx]
 refine wpAny_bind (wpAny_setField ho hd Zy (wpAny_pure ⟨x,rfl,wpAny_pure (hQ _ ⟨_,Heap.get?_update_self _ ho (Obj.isFreed_of_fields (Obj.data_mapFields hd _)),(Obj.cls_mapFields ..).trans hc,by
  rw[Obj.data_mapFields hd]
  simp[rawInt]⟩ (Heap.SameBut.update ..))⟩))
theorem lR{j t:Addr}{i:Nat}{Zr:Array Value}{Q:Value->Shared->Prop}(hh:A.handled=none)(hj:s.heap.IsTupleIter j t i)(ht:s.heap.IsTuple t Zr)(hx:Zr[i]?=none)
  (hE:∀h' e,Heap.ExtBut j s.heap h'->(∃o,h'.get? e=some o/\o.cls=.type "StopIteration")->E (.ref e) {s with heap:=h'}):wpAny (model prog w) A (Builtin.SmallTypes.nextOf (.ref j)) Q E s:=by
 obtain⟨o,ho,hc,hd⟩:=id hj;obtain⟨p,hp,_,m,hm⟩:=ht;unfold Builtin.SmallTypes.nextOf;refine wpAny_bind (wpAny_callSpecial?_slot (name:=Str.ofString "__next__") hj.typeIs F.slot_tuple_iterator_next (wpAny_call_entry F.slot_tuple_iterator_next hj.typeIs F.entry_tuple_iterator_next ?_ (F.args_tuple_iterator_next_1 _)));show wpAny _ _ (field (.ref j) 0>>=_) _ _ s;refine wpAny_bind (wpAny_field ho hd (x:=.ref t) rfl ?_);show wpAny _ _ (if(Value.ref t==Value.none)=true then _ else _) _ _ s;rw[if_neg (show¬((Value.ref t==Value.none)=true) by intro z;exact zAg z)];show wpAny _ _ (field (.ref j) 1>>=_) _ _ s;refine wpAny_bind (wpAny_field ho hd (x:=.int i 0) rfl (wpAny_bind (wpAny_seqItems hp hm ?_)));simp only[Int.toNat_natCast,hx];refine wpAny_bind (wpAny_rule (wpAny_bind (wpAny_setField ho hd Zy ?_)));show wpAny _ _ (newExc (.type "StopIteration") []>>=_) _ _ _;refine wpAny_bind ?_;simp only[newExc,newTuple];refine wpAny_bind (wpAny_newObj_type (wpAny_bind (m:=firstArgMember _ _) (wpAny_of_eq (a:=Value.none) (by first|rfl | (simp only[firstArgMember];rfl)) (wpAny_newObj_type ?_ (by size_fits)))) (by size_fits));simp only[raiseNew];refine wpAny_bind (wpAny_handled ?_)
 first
  |rw[show A.in1.handled=none from hh]
  |rw[hh]
 exact zAt (zAz (wpAny_throw (hE _ _ (((Heap.SameBut.update ..).extBut.push _).push _) ⟨_,zB1 _ rfl,rfl⟩)))
theorem sJ{z TI TO i1 i2 l1 l2:Addr}{k:Nat}{xs ys:Array Value}{x y a b:Value}{Q:Option Value->Shared->Prop}(D:ZipApart z TI TO i1 i2 l1 l2)
  (hz:IsZip s.heap z TI TO .none) (Cb:IsPair s.heap TI (.ref i1) (.ref i2)) (IJ:IsPair s.heap TO a b)
  (h1:s.heap.IsTupleIter i1 l1 k) (h2:s.heap.IsListIter i2 l2 k) (ko:s.heap.IsTuple l1 xs) (iX:s.heap.IsList l2 ys) (hx:xs[k]?=some x) (hy:ys[k]?=some y)
  (hQ:∀h',IsZip h' z TI TO (rawInt s.heap.objs.size)->IsPair h' TO x y->h'.IsTupleIter i1 l1 (k+1)->h'.IsListIter i2 l2 (k+1)->IsPair h' s.heap.objs.size x y->h'.objs.size=s.heap.objs.size+1->
   (∀c o,c≠z->c≠TO->c≠i1->c≠i2->s.heap.get? c=some o->h'.get? c=some o)->Q (some (.ref s.heap.objs.size)) {s with heap:=h'}):
  wpAny (model prog w) A (pyNext (.ref z)) Q E s:=by
 have hT:s.TypeIs (.ref z) "zip":=⟨_,hz,rfl⟩
 unfold pyNext;refine wpAny_bind (wpAny_attempt (wpAny_callSpecial?_slot (name:=Str.ofString "__next__") hT F.slot_zip_next (wpAny_call_entry F.slot_zip_next hT F.entry_zip_next ?_ (F.args_zip_next_1 _))));show wpAny _ _ (field (.ref z) 2>>=_) _ _ _;refine wpAny_bind (wpAny_field hz rfl (x:=.bool false) rfl ?_);show wpAny _ _ (field (.ref z) 3>>=_) _ _ _;refine wpAny_bind (wpAny_field hz rfl (x:=.ref TI) rfl (wpAny_bind (wpAny_seqItems Cb rfl ?_)));show wpAny _ _ (Builtin.SmallTypes.ownedTupleIsFree (.ref z)>>=_) _ _ _;refine wpAny_bind ?_;unfold Builtin.SmallTypes.ownedTupleIsFree;refine wpAny_bind (wpAny_field hz rfl (x:=.none) rfl (wpAny_pure ?_));simp only[if_true];refine wpAny_bind (wpAny_rule (wpAny_bind (wpAny_field hz rfl (x:=.ref TO) rfl (wpAny_bind (wpAny_setField_rec hz Zy fun g1 z1 s1=>?_)))))
 replace z1:IsZip g1 z TI TO .ellipsis:=z1
 refine wpAny_bind ?_;simp only[List.zipIdx_cons,List.zipIdx_nil,List.forIn_cons,List.forIn_nil];refine wpAny_bind (wpAny_bind (wpAny_onRaise ?_));show wpAny _ _ (Builtin.SmallTypes.nextOf (.ref i1)>>=_) _ _ _;refine wpAny_bind (yS (h1.extBut s1.extBut D.i1z) (ko.extBut s1.extBut D.l1z) hx fun g2 q1 s2=>wpAny_pure ?_);have o2:IsPair g2 TO a b:=s2.extBut _ _ D.TOi1 (s1.extBut _ _ D.TOz IJ);refine wpAny_bind (wpAny_seqItems o2 rfl (wpAny_bind (wpAny_updateSeq_pair o2 fun g3 o3 s3=>?_)))
 replace o3:IsPair g3 TO x b:=o3
 refine zAt (wpAny_letGo (zAz (zAt (zAt (wpAny_onRaise ?_)))));show wpAny _ _ (Builtin.SmallTypes.nextOf (.ref i2)>>=_) _ _ _;refine zAt (wpAny_nextOf_list_item (((h2.extBut s1.extBut D.i2z).extBut s2.extBut D.i12.symm).extBut s3.extBut D.TOi2.symm) (((iX.extBut s1.extBut D.l2z).extBut s2.extBut D.l2i1).extBut s3.extBut D.l2TO) hy fun g4 q2 s4=>zAz ?_);have o4:IsPair g4 TO x b:=s4.extBut _ _ D.TOi2 o3;refine zAt (wpAny_seqItems o4 rfl (zAt (wpAny_updateSeq_pair o4 fun g5 o5 s5=>?_)))
 replace o5:IsPair g5 TO x y:=o5
 refine zAt (wpAny_letGo (zAz (zAz (zAt (wpAny_seqItems o5 rfl (zAt (wpAny_newTuple ?_)))))));have hsz:g5.objs.size=s.heap.objs.size:=by rw[s5.1,s4.1,s3.1,s2.1,s1.1]
 have z5:IsZip g5 z TI TO .ellipsis:=s5.extBut _ _ D.TOz.symm (s4.extBut _ _ D.i2z.symm (s3.extBut _ _ D.TOz.symm (s2.extBut _ _ D.i1z.symm z1)));have k5:∀c o,c≠z->c≠TO->c≠i1->c≠i2->s.heap.get? c=some o->g5.get? c=some o:=fun c o c1 c2 c3 c4 e=>s5.extBut _ _ c2 (s4.extBut _ _ c4 (s3.extBut _ _ c2 (s2.extBut _ _ c3 (s1.extBut _ _ c1 e))));have p1:g5.IsTupleIter i1 l1 (k+1):=((q1.extBut s3.extBut D.TOi1.symm).extBut s4.extBut D.i12).extBut s5.extBut D.TOi1.symm;have p2:g5.IsListIter i2 l2 (k+1):=q2.extBut s5.extBut D.TOi2.symm;have IK:z<g5.objs.size:=Heap.lt_size z5;show wpAny _ _ (Builtin.SmallTypes.ownedTupleHandOut (.ref z) (.ref g5.objs.size)>>=_) _ _ _;refine wpAny_bind ?_;unfold Builtin.SmallTypes.ownedTupleHandOut;have z6:IsZip (g5.push {cls:=.type "tuple",data:=.seq #[x,y]}) z TI TO .ellipsis:=Heap.get?_push_of_some _ z5;refine wpAny_bind (wpAny_setField_rec z6 Zy fun g7 z7 s7=>?_)
 replace z7:IsZip g7 z TI TO (rawInt g5.objs.size):=z7
 refine wpAny_setField_rec z7 Zy fun g8 z8 s8=>?_
 replace z8:IsZip g8 z TI TO (rawInt g5.objs.size):=z8
 have up:∀c o,c≠z->g5.get? c=some o->g8.get? c=some o:=fun c o c1 e=>s8.extBut _ _ c1 (s7.extBut _ _ c1 (zAu _ e));have t8:IsPair g8 g5.objs.size x y:=s8.extBut _ _ (Nat.ne_of_gt IK) (s7.extBut _ _ (Nat.ne_of_gt IK) (zB1 _ rfl));have n8:g8.objs.size=g5.objs.size+1:=by rw[s8.1,s7.1,Heap.size_push]
 rw[hsz]at z8 t8 n8;refine zAz ⟨_,rfl,zAz ?_⟩;show Q (some (.ref g5.objs.size)) _;rw[hsz];exact hQ g8 z8 (up _ _ D.TOz o5) (p1.at fun o e=>up _ o D.i1z e) (p2.at fun o e=>up _ o D.i2z e) t8 n8 fun c o c1 c2 c3 c4 e=>up c o c1 (k5 c o c1 c2 c3 c4 e)
theorem uF{z TI TO i1 i2 l1 l2:Addr}{k:Nat}{xs:Array Value}{a b:Value}{Q:Option Value->Shared->Prop}(hh:A.handled=none)(D:ZipApart z TI TO i1 i2 l1 l2)
  (hz:IsZip s.heap z TI TO .none) (Cb:IsPair s.heap TI (.ref i1) (.ref i2)) (IJ:IsPair s.heap TO a b) (h1:s.heap.IsTupleIter i1 l1 k) (ko:s.heap.IsTuple l1 xs) (hx:xs[k]?=none)
  (hQ:∀h',(∀c o,c≠z->c≠i1->s.heap.get? c=some o->h'.get? c=some o)->Q none {s with heap:=h'}):wpAny (model prog w) A (pyNext (.ref z)) Q E s:=by
 have hT:s.TypeIs (.ref z) "zip":=⟨_,hz,rfl⟩
 unfold pyNext;refine wpAny_bind (wpAny_attempt (wpAny_callSpecial?_slot (name:=Str.ofString "__next__") hT F.slot_zip_next (wpAny_call_entry F.slot_zip_next hT F.entry_zip_next ?_ (F.args_zip_next_1 _))));show wpAny _ _ (field (.ref z) 2>>=_) _ _ _;refine wpAny_bind (wpAny_field hz rfl (x:=.bool false) rfl ?_);show wpAny _ _ (field (.ref z) 3>>=_) _ _ _;refine wpAny_bind (wpAny_field hz rfl (x:=.ref TI) rfl (wpAny_bind (wpAny_seqItems Cb rfl ?_)));show wpAny _ _ (Builtin.SmallTypes.ownedTupleIsFree (.ref z)>>=_) _ _ _;refine wpAny_bind ?_;unfold Builtin.SmallTypes.ownedTupleIsFree;refine wpAny_bind (wpAny_field hz rfl (x:=.none) rfl (wpAny_pure ?_));simp only[if_true];refine wpAny_bind (wpAny_rule (wpAny_bind (wpAny_field hz rfl (x:=.ref TO) rfl (wpAny_bind (wpAny_setField_rec hz Zy fun g1 z1 s1=>?_)))))
 replace z1:IsZip g1 z TI TO .ellipsis:=z1
 refine wpAny_bind ?_;simp only[List.zipIdx_cons,List.zipIdx_nil,List.forIn_cons,List.forIn_nil];refine wpAny_bind (wpAny_bind (wpAny_onRaise ?_));show wpAny _ _ (Builtin.SmallTypes.nextOf (.ref i1)>>=_) _ _ _;refine wpAny_bind (lR hh (h1.extBut s1.extBut D.i1z) (ko.extBut s1.extBut D.l1z) hx fun g2 e s2 he=>?_);obtain⟨oe,Cc,IL⟩:=he;have z2:IsZip g2 z TI TO .ellipsis:=s2 _ _ D.i1z.symm z1
 have KG:e≠z:=fun q=>by
  subst q;rw[z2]at Cc;cases Cc;simp at IL
 refine wpAny_setField_rec z2 Zy fun g3 _ s3=>?_;refine wpAny_bind (wpAny_isInstance (T:="StopIteration") (b:=true) ⟨oe,s3.extBut _ _ KG Cc,IL⟩ isSubtype_stop (wpAny_pure (hQ _ fun c o c1 c2 q=>s3.extBut _ _ c1 (s2 _ _ c2 (s1.extBut _ _ c1 q)))))
end
abbrev zA(h:Heap)(t:Addr):Heap:=h.push {cls:=.type "tuple_iterator",data:=.fields #[.ref t,.int 0 0]}
abbrev zB(h:Heap)(t l:Addr):Heap:=(zA h t).push {cls:=.type "list_iterator",data:=.fields #[.ref l,.int 0 0]}
abbrev zC(h:Heap)(t l:Addr):Heap:=(zB h t l).push {cls:=.type "tuple",data:=.seq #[.ref h.objs.size,.ref (zA h t).objs.size]}
abbrev zD(h:Heap)(t l:Addr):Heap:=(zC h t l).push {cls:=.type "tuple",data:=.seq #[.none,.none]}
abbrev zE(h:Heap)(t l:Addr):Heap:=(zD h t l).push {cls:=.type "zip",data:=.fields #[.none,.bool false,.bool false,.ref (zB h t l).objs.size,.ref (zC h t l).objs.size]}
theorem qe(t l:Addr)(xs ys:Array Value):
  Meets (Builtin.«zip.__new__» ⟨[.type "zip",.ref t,.ref l],[]⟩) (fun _ R s=>s.heap.IsTuple t xs/\s.heap.IsList l ys/\R (.ok (.ret (.ref (zD s.heap t l).objs.size))) {s with heap:=zE s.heap t l}):=
 .of_wp fun prog w A R s h=>by
  obtain⟨hp,g,d,tk,os⟩:=s;obtain⟨ht,hl,h⟩:=h;have Cf:=sub_zip;have hT:Heap.IsTuple (Shared.heap ⟨hp,g,d,tk,os⟩) t xs:=ht;have hL:Heap.IsList (Shared.heap ⟨hp.push {cls:=.type "tuple_iterator",data:=.fields #[.ref t,.int 0 0]},g,d,tk,os⟩) l ys:=Heap.IsList.push hl _
  wp_walk using wpAny_pyIter_tuple hT,wpAny_pyIter_list hL
  exact⟨_,rfl,h⟩
theorem sO{prog:Program}{w:World}{A:Around}{E:Value->Shared->Prop}{s:Shared}{t l:Addr}{xs ys:Array Value}{Q:Value->Shared->Prop}(ht:s.heap.IsTuple t xs)(hl:s.heap.IsList l ys)
  (h:∀h',IsZip h' (s.heap.objs.size+4) (s.heap.objs.size+2) (s.heap.objs.size+3) .none->IsPair h' (s.heap.objs.size+2) (.ref s.heap.objs.size) (.ref (s.heap.objs.size+1))->IsPair h' (s.heap.objs.size+3) .none .none->
   h'.IsTupleIter s.heap.objs.size t 0->h'.IsListIter (s.heap.objs.size+1) l 0->(∀c o,s.heap.get? c=some o->h'.get? c=some o)->Q (.ref (s.heap.objs.size+4)) {s with heap:=h'}):
  wpAny (model prog w) A (call (.type "zip") [.ref t,.ref l]) Q E s:=by
 refine callType_new F.called_zip Zx (F.typeCall_zip_2 _ _) (F.newCall_zip_2 _ _) (fun obj=>F.args_object_init_3 obj _ _) F.entry_zip_new (qe t l xs ys) ⟨ht,hl,?_⟩;have e1:(zA s.heap t).objs.size=s.heap.objs.size+1:=Heap.size_push ..;have e2:(zB s.heap t l).objs.size=s.heap.objs.size+2:=by rw[Heap.size_push,e1]
 have e3:(zC s.heap t l).objs.size=s.heap.objs.size+3:=by rw[Heap.size_push,e2]
 have e4:(zD s.heap t l).objs.size=s.heap.objs.size+4:=by rw[Heap.size_push,e3]
 have IM:∀{c o},(zD s.heap t l).get? c=some o->(zE s.heap t l).get? c=some o:=fun e=>zAu _ e;have IP:∀{c o},(zC s.heap t l).get? c=some o->(zE s.heap t l).get? c=some o:=fun e=>IM (zAu _ e);have IQ:∀{c o},(zB s.heap t l).get? c=some o->(zE s.heap t l).get? c=some o:=fun e=>IP (zAu _ e);have up1:∀{c o},(zA s.heap t).get? c=some o->(zE s.heap t l).get? c=some o:=fun e=>IQ (zAu _ e);have g5:(zE s.heap t l).get? (zD s.heap t l).objs.size=some _:=zB1 _ rfl;have g4:(zE s.heap t l).get? (zC s.heap t l).objs.size=some _:=IM (zB1 _ rfl);have g3:(zE s.heap t l).get? (zB s.heap t l).objs.size=some _:=IP (zB1 _ rfl);have g2:(zE s.heap t l).get? (zA s.heap t).objs.size=some _:=IQ (zB1 _ rfl);have g1:(zE s.heap t l).get? s.heap.objs.size=some _:=up1 (zB1 _ rfl);show _/\_;rw[e4,e2,e3]at g5;rw[e2,e1]at g3;rw[e3]at g4;rw[e1]at g2;rw[e4];exact⟨⟨_,g5,rfl⟩,h _ g5 g3 g4 ⟨_,g1,rfl,rfl⟩ ⟨_,g2,rfl,rfl⟩ fun c o x=>up1 (zAu _ x)⟩
def Itz(K:Frag)(a b:Addr):It:=
 ⟨fun i H=>∃xs ys x y,SqT K H a xs/\SqL K H b ys/\xs[i]?=some x/\ys[i]?=some y,
  fun i H v H'=>∃T,H T=none/\v=.ref T/\∀xs ys,SqT K H a xs->SqL K H b ys->∃x y,xs[i]?=some x/\ys[i]?=some y/\H'=upd H T (.tup [x,y]),
  fun i H=>∃xs,SqT K H a xs/\xs.length<=i⟩
def tnz(z TI TO i1 i2 a b:Addr)(i:Nat)(h:Heap):Prop:=IsZip h z TI TO .none/\IsPair h TI (.ref i1) (.ref i2)/\(∃u v,IsPair h TO u v)/\h.IsTupleIter i1 a i/\h.IsListIter i2 b i
theorem yU{P:Program}{w:World}{K:Frag}{es:List Expr}{k:Nat}{pos:Pos}{z TI TO i1 i2 a b:Addr}(D:ZipApart z TI TO i1 i2 a b):
  Turn P w K (.Tuple es k pos) (Itz K a b) [z,TI,TO,i1,i2] z (tnz z TI TO i1 i2 a b) where
 mem:=by simp
 obj:=fun i h st c hc=>by
  obtain⟨s1,s2,⟨u,v,s3⟩,⟨o4,s4,c4,d4⟩,⟨o5,s5,c5,d5⟩⟩:=st;simp only[List.mem_cons,List.not_mem_nil,or_false]at hc;rcases hc with e|e|e|e|e<;>subst e
  .exact⟨_,s1,fun v q=>by cases q⟩
  .exact⟨_,s2,fun v q=>by cases q⟩
  .exact⟨_,s3,fun v q=>by cases q⟩
  .exact⟨_,s4,fun v q=>by rw[d4]at q;cases q⟩
  .exact⟨_,s5,fun v q=>by rw[d5]at q;cases q⟩
 keep:=fun i h h' st kp=>by
  obtain⟨s1,s2,⟨u,v,s3⟩,s4,s5⟩:=st;exact⟨kp z Zy _ s1,kp TI Zy _ s2,⟨u,v,kp TO Zy _ s3⟩,s4.at fun o e=>kp i1 Zy o e,s5.at fun o e=>kp i2 Zy o e⟩
 item:=by
  intro X hP hw hK hc i Zt s σ H E I hf st hg;subst hP hw hK;obtain⟨s1,s2,⟨u,v,s3⟩,s4,s5⟩:=st;obtain⟨xs,ys,x,y,gi,IS,hx,hy⟩:=hg;obtain⟨Zr,rv,p,_⟩:=I.tuple gi;obtain⟨KH,bP,q,_⟩:=I.list IS;obtain⟨ux,Ap,rx⟩:=rv.get hx;obtain⟨uy,KI,ry⟩:=bP.get hy;refine sJ D s1 s2 s3 s4 s5 (show s.heap.IsTuple a Zr.toArray from p) q.isList (x:=ux) (y:=uy) (by simpa using Ap) (by simpa using KI) fun h1 g1 g2 g3 g4 g5 g6 kp=>?_;refine⟨_,rfl,?_⟩;refine wpAny_letOwnedTupleGo_zip g1 fun h2 e1 sb=>?_
  have ne:∀c,c∈[z,TI,TO,i1,i2]->c≠s.heap.objs.size:=fun c ai e=>by
   obtain⟨f0,f1,f2,f3,f4,f5⟩:=hf c ai
   have:∃o,s.heap.get? c=some o:=by
    simp only[List.mem_cons,List.not_mem_nil,or_false]at ai;rcases ai with q|q|q|q|q<;>subst q
    .exact⟨_,s1⟩
    .exact⟨_,s2⟩
    .exact⟨_,s3⟩
    .exact let⟨o,h,_⟩:=s4;⟨o,h⟩
    .exact let⟨o,h,_⟩:=s5;⟨o,h⟩
   obtain⟨o,ho⟩:=this;exact absurd (zAy ho) (by rw[e];exact Nat.lt_irrefl _)
  have hT:H s.heap.objs.size=none:=I.hok.fresh (zA3 _)
  have kept:∀c o,c∉[z,TO,i1,i2]->s.heap.get? c=some o->h2.get? c=some o:=fun c o ai e=>
   sb.extBut _ _ (fun q=>ai (by simp[q])) (kp c o (fun q=>ai (by simp[q])) (fun q=>ai (by simp[q])) (fun q=>ai (by simp[q])) (fun q=>ai (by simp[q])) e)
  have tN:∀c,c∈[z,TO,i1,i2]->c∈[z,TI,TO,i1,i2]:=fun c ai=>by
   simp only[List.mem_cons,List.not_mem_nil,or_false]at ai⊢;rcases ai with q|q|q|q<;>simp[q]
  have trk:∀c o,H c=some o->c∉[z,TO,i1,i2]:=fun c o e ai=>by
   have:=(hf c (tN c ai)).1;rw[e]at this;cases this
  have nN:h2.get? s.heap.objs.size=some {cls:=.type "tuple",data:=.seq #[ux,uy]}:=sb.extBut _ _ (Ne.symm (ne z Zy)) g5
  have hU:HOk X.prog X.w (upd H s.heap.objs.size (.tup [x,y])) h2:=fun c o e=>by
   by_cases hb:c=s.heap.objs.size
   .subst hb;rw[aa]at e;cases e;exact⟨by show 2<=sizeLine;decide,[ux,uy],.cons rx (.cons ry .nil),_,nN,rfl,_,rfl⟩
   .rw[ao hb]at e
    refine(I.hok c o e).stay (fun d v hd q=>kept d v ?_ q) (fun d q=>by rw[ao (aB q hT)];exact q) fun d l q=>by rw[ao (aB q hT)];exact q
    rcases hd with e'|e'
    .rw[e'];exact trk c o e
    .exact trk d _ e'
  have I2:Inv X Zt σ (upd H s.heap.objs.size (.tup [x,y])) {s with heap:=h2}:=by
   refine I.step (g':=s.gens) (d':=s.drawn) (t':=s.toks) (ch:=[z,TO,i1,i2]) (fun c ai=>?_) (fun c o _ _ hn e _=>kept c o hn e) (fun c o _ _ hn e _=>⟨o.slots,kept c o hn e⟩)
    (fun c o _ e n=>by rw[ao (zB3 (zAy e))];exact n) (fun c o hn e=>⟨o,kept c o hn e⟩) (fun c l e=>by rw[ao (aB e hT)];exact e) (fun c o l e=>by rw[ao (aB e hT)];exact e)
    (fun c l e=>⟨#[],by rw[ao (aB e hT),e];simp⟩) (fun m hm=>?_) hU I.bare
   .obtain⟨f0,f1,f2,f3,f4,f5⟩:=hf c (tN c ai);exact⟨f3,f1,f4,f5⟩
   .obtain⟨o,c9,ep,ho,r⟩:=hm;refine⟨o,c9,ep,kept _ o (fun ai=>?_) ho,r⟩;exact(hf _ (tN _ ai)).2.1 rfl
  refine⟨.ref s.heap.objs.size,_,I2,rfl,⟨s.heap.objs.size,hT,rfl,fun Cn OY qv KJ=>⟨x,y,?_,?_,rfl⟩⟩,⟨e1,?_,?_,?_,?_⟩,fun c ai=>?_⟩
  .rw[I.tuple_inj qv gi];exact hx
  .rw[I.list_inj KJ IS];exact hy
  .exact sb.extBut _ _ D.TIz (kp _ _ D.TIz D.TITO D.TIi1 D.TIi2 s2)
  .exact⟨_,_,sb.extBut _ _ D.TOz g2⟩
  .exact g3.extBut sb.extBut D.i1z
  .exact g4.extBut sb.extBut D.i2z
  .rw[ao (ne c ai)];exact(hf c ai).1
 done:=by
  intro X hP hw hK hc i Zt s σ H E I hf st hg;subst hP hw hK;obtain⟨s1,s2,⟨u,v,s3⟩,s4,s5⟩:=st;obtain⟨xs,gi,hlen⟩:=hg;obtain⟨Zr,rv,p,_⟩:=I.tuple gi;have hl:=rv.length
  refine uF (I.ok.hd hc) D s1 s2 s3 s4 (show s.heap.IsTuple a Zr.toArray from p) (by simp;lia) fun h' kp=>⟨rfl,?_⟩
  refine I.step (h':=h') (H':=H) (g':=s.gens) (d':=s.drawn) (t':=s.toks) (ch:=[z,i1]) (fun c ai=>?_) (fun c o _ _ hn e _=>kp c o (fun q=>hn (by simp[q])) (fun q=>hn (by simp[q])) e)
   (fun c o _ _ hn e _=>⟨o.slots,kp c o (fun q=>hn (by simp[q])) (fun q=>hn (by simp[q])) e⟩) (fun c o _ e n=>n) (fun c o hn e=>⟨o,kp c o (fun q=>hn (by simp[q])) (fun q=>hn (by simp[q])) e⟩)
   (fun _ _ e=>e) (fun _ _ _ e=>e) (fun c l e=>⟨#[],by rw[e];simp⟩) (fun m hm=>?_) (fun c o e=>?_) I.bare
  .have:c∈[z,TI,TO,i1,i2]:=by
    simp only[List.mem_cons,List.not_mem_nil,or_false]at ai⊢;rcases ai with q|q<;>simp[q]
   obtain⟨f0,f1,f2,f3,f4,f5⟩:=hf c this;exact⟨f3,f1,f4,f5⟩
  .obtain⟨o,c9,ep,ho,r⟩:=hm;exact⟨o,c9,ep,kp _ o (Ne.symm (hf z Zy).2.1) (Ne.symm (hf i1 Zy).2.1) ho,r⟩
  .have nn:∀d v c',c'∈[z,TI,TO,i1,i2]->H d=some v->d≠c':=fun d v c' ai q e'=>by
    have:=(hf c' ai).1;rw[<-e',q]at this;cases this
   have nz:∀d v,H d=some v->d≠z/\d≠i1:=fun d v q=>⟨nn d v z Zy q,nn d v i1 Zy q⟩
   refine(I.hok c o e).stay (fun d v hd q=>?_) (fun _ q=>q) fun _ _ q=>q;rcases hd with e'|e'
   .rw[e']at q⊢;exact kp c v (nz c o e).1 (nz c o e).2 q
   .exact kp d v (nz d _ e').1 (nz d _ e').2 q
 self:=fun _ _ _ _ _ st h=>wpAny_pyIter_zip st.1 h
section
variable{X:Cx}
def Hx(K:Frag)(t:TA):TI:=fun σ H R=>t σ H fun vs H1=>∃a b xs ys,vs=[.ref a,.ref b]/\SqT K H1 a xs/\SqL K H1 b ys/\R (Itz K a b) H1
theorem Em{es:List Expr}{k:Nat}{tp:Pos}{a b:Expr}{ta:TA}{p pos:Pos}(hg:Gl X "zip")(hm:X.mg "zip"=none)(ha:PA X [a,b] ta)(hs:starEach [a,b] X.env=[(false,eval a X.env),(false,eval b X.env)]:=by rfl)(dS:starEach [b] X.env=[(false,eval b X.env)]:=by rfl):
  PI X (.Tuple es k tp) (.Call (.Name "zip" p) [a,b] [] pos) (Hx X.K ta):=by
 intro Zt s σ H R I h;refine Call_ (iQ I hg hm boot_zip (PyProof.Rows.callWith_type1 (thn (ha pos Zt s σ H _ I h) fun us s1 ⟨vs,H1,I1,r1,q1⟩=>?_) (by rw[hs,dS]) (by rw[dS];rfl)));obtain⟨x,y,xs,ys,e,hx,hy,q⟩:=q1;subst e;obtain⟨u,v,rfl,ru,rv⟩:=vals2 r1;cases ru;cases rv;obtain⟨Zr,_,p1,_⟩:=I1.tuple hx;obtain⟨KH,_,p2,_⟩:=I1.list hy;refine sO (show s1.heap.IsTuple x Zr.toArray from p1) p2.isList fun h' z1 z2 z3 z4 z5 kp=>?_;refine wpAny_pyIter_zip z1 ?_;have lx:x<s1.heap.objs.size:=by obtain⟨_,e,_⟩:=(show s1.heap.IsTuple x Zr.toArray from p1);exact zAy e
 have ly:y<s1.heap.objs.size:=by obtain⟨_,e,_⟩:=p2.isList;exact zAy e
 refine⟨_,_,_,_,H1,rfl,I1.kept (t':=s1.toks) kp,yU (zipApart_new lx ly),⟨z1,z2,⟨_,_,z3⟩,z4,z5⟩,fun c hc=>?_,q⟩
 have hle:s1.heap.objs.size<=c:=by
  simp only[List.mem_cons,List.not_mem_nil,or_false]at hc;rcases hc with q|q|q|q|q<;>subst q
  .exact Nat.le_add_right _ 4
  .exact Nat.le_add_right _ 2
  .exact Nat.le_add_right _ 3
  .exact zA3 _
  .exact Nat.le_add_right _ 1
 exact I1.fpOk hle (I1.hok.fresh hle)
end
theorem IsTh.same{S:Addr->Prop}{H H':Hp}{v:V}{d:PyData}(h:IsTh S H v d)(s:Same H H'):IsTh S H' v d:=h.keep (fun b xs e=>s b _ e) (fun b o _ e=>s b o e) fun _ _ z _=>z
theorem IsThs.same{S:Addr->Prop}{H H':Hp}{v:List V}{d:List PyData}(h:IsThs S H v d)(s:Same H H'):IsThs S H' v d:=h.keep (fun b xs e=>s b _ e) (fun b o _ e=>s b o e) fun _ _ z _=>z
theorem Same.upd{H:Hp}{D:Addr}{o:HO}(h:H D=none):Same H (upd H D o):=fun b u e=>by rw[ao (aB e h)];exact e
theorem Same.updR{H H':Hp}{D:Addr}{o:HO}(s:Same H H')(h:H' D=none):Same H (L2.upd H' D o):=s.trans (Same.upd h)
theorem sV{K:Frag}{S:Addr->Prop}{te:TE}{a:Addr}{xs:List V}{ds:List PyData}(f:PyData->Bool){gE:St}{j:Nat}{H0:Hp}{Fin:List V->Hp->Prop}(hT:H0 a=some (.tup xs))(th:IsThs S H0 xs ds)(hl:xs.length<sizeLine)
  (kr:∀v d H Q,d∈ds->Same H0 H->IsTh S H v d->(∀H',Same H H'->Q (.bl (f d)) H')->te (gE.set j (some v)) H Q)
  (fin:∀H',Same H0 H'->Fin (ds.map fun d=>V.bl (f d)) H'):rJ (Itt K a) (eV j) yO te Fin gE H0:=by
 have hlen:=th.length;refine⟨fun i m ys σ H=>m=xs.length-i/\i<=xs.length/\ys=(ds.take i).map (fun d=>V.bl (f d))/\(∀o,σ.set j o=gE.set j o)/\Same H0 H,⟨_,rfl,zAp _,rfl,fun _=>rfl,Same.refl _⟩,?_⟩;rintro i m ys σ H ⟨rfl,hi,rfl,fy,hs⟩;have sq:SqT K H a xs:=SqT.of (hs _ _ hT);refine⟨by rw[zA1,zAd];lia,?_⟩;by_cases av:i<xs.length
 .refine .inr ⟨⟨xs,xs[i],sq,by simp[av]⟩,fun x H' y=>?_⟩;obtain⟨e,y⟩:=y;subst e;have hx:=y xs sq;obtain⟨d,hd,ht⟩:=(th.same hs).get hx;show te (σ.set j (some x)) H' _;rw[fy]
  refine kr x d H' _ (zB5 hd) hs ht fun H2 s2=>⟨xs.length-(i+1),Zz,rfl,av,?_,fun o=>by rw[List.set_set],hs.trans s2⟩
  rw[zAj,hd];simp
 .have e:i=xs.length:=Zz
  subst e;refine .inl ⟨⟨xs,sq,zA3 _⟩,?_⟩;rw[hlen,zAm];exact fin H hs
theorem yV{ds:List PyData}{f:PyData->Bool}:ds.map (fun d=>V.bl (f d))=(ds.map f).map V.bl:=by rw[zAr];rfl
theorem En{ds:List PyData}{f:PyData->Bool}:(ds.map f).all id=ds.all f:=by rw[List.all_map];rfl
section
variable{X:Cx}{es:List Expr}{t:TA}{pos:Pos}
def yW(t:TA):TE:=fun σ H Q=>t σ H fun xs H1=>xs.length<=sizeLine/\∀p,H1 p=none->p≠sysModules->Q (.ref p) (upd H1 p (.lst xs))
theorem qg(h:PA X es t):PE X (.List es pos) (yW t):=by
 intro Zt s σ H Q I hq;refine wpAny_List_spliced (thn (h pos Zt s σ H _ I hq) fun us s1 ⟨xs,H1,I1,r,z,q⟩=>⟨by rw[<-r.length];exact z,?_⟩);have hf:H1 s1.heap.objs.size=none:=I1.hok.fresh (zA3 _);refine⟨.ref s1.heap.objs.size,_,I1.laid (o:=.lst xs) (t':=s1.toks) (fun b u e=>zAu _ e) (zA3 _) ⟨z,us,0,r,zB1 _ rfl⟩,rfl,q _ hf (Nat.ne_of_gt I1.big)⟩
theorem nA:gF X (.type "list") (fun xs H Q=>∃p ys,xs=[.ref p]/\SqT X.K H p ys/\∀l,H l=none->l≠sysModules->Q (.ref l) (upd H l (.lst ys))):=by
 intro Zt s σ H xs us Q I r h;obtain⟨p,ys,rfl,hq,q⟩:=h;obtain⟨u,rfl,rx⟩:=vals1 r;cases rx;obtain⟨Zr,r',pl,hz⟩:=I.tuple hq;have hlen:=r'.length;obtain⟨o,ho,hc,n,hd⟩:=pl;refine call_list_seq p (.inr rfl) ho hc hd (fun h' c' kp e=>?_) (by simp only[List.size_toArray];lia);exact⟨.ref s.heap.objs.size,_,I.laid (t':=s.toks) kp (zA3 _) (show ObjOk X.prog X.w _ h' _ (.lst ys)from⟨hz,Zr,c',r',e⟩),rfl,q _ (I.hok.fresh (zA3 _)) (Nat.ne_of_gt I.big)⟩
def uG:TE:=fun _ H Q=>∀p,H p=none->p≠sysModules->Q (.ref p) (upd H p (.dK []))
theorem yX:PE X (.Dict [] [] pos) uG:=fun Zt s σ H Q I h=>
 wpAny_Dict_empty ⟨.ref s.heap.objs.size,_,I.laid (a:=s.heap.objs.size) (o:=.dK []) (t':=s.toks) (fun _ _ q=>zAu _ q) (zA3 _) (lO s.heap I.big),rfl,h _ (I.hok.fresh (zA3 _)) (Nat.ne_of_gt I.big)⟩
def uH(fw:List (TE×TE)):TE:=fun σ H Q=>∀p,H p=none->p≠sysModules->qb fw σ (upd H p (.dK [])) fun ps H2=>H2 p=some (.dK [])/\∃Zs:List (Key×V),ps=Zs.map (fun kv=>(kV kv.1,kv.2))/\Zs.length<=15/\Q (.ref p) (upd H2 p (.dK (fH [] Zs)))
theorem yZ{keys:List (Option Expr)}{values:List Expr}{fw:List (TE×TE)}(h:PPs X pos keys values fw)(hG:keys.all (·.isSome)=true)(hl:keys.length=values.length)(h0:keys≠[])
  (B9:keys.length<=15):PE X (.Dict keys values pos) (uH fw):=by
 intro Zt s σ H Q I q;have hn:=I.hok.fresh (zA3 s.heap.objs.size);have I1:=I.laid (a:=s.heap.objs.size) (o:=.dK []) (h':=s.heap.push {cls:=.type "dict",data:=.dict #[]}) (t':=s.toks) (fun _ _ q=>zAu _ q) (zA3 _) (lO s.heap I.big);refine wpAny_Dict_walk (knd:=bJ X.prog X.w) hG hl h0 B9 (thn (h Zt _ σ _ _ I1 (q _ hn (Nat.ne_of_gt I.big))) fun ws s2 ⟨ps,H2,I2,rel,e,Zs,ep,lk,q2⟩=>?_);subst ep;obtain⟨rs,c,rk⟩:=iV (P:=X.prog) (w:=X.w) rel;obtain⟨z,hd,KC,r0,dd⟩:=yP I2.hok e;cases r0;refine⟨rs,c,dd,fun h' i7 hs=>⟨.ref s.heap.objs.size,_,?_,rfl,q2⟩⟩
 have hz:(fH [] Zs).length<=sizeLine:=by
  have h1:=fJ Zs [];rw[List.length_nil]at h1;rw[sizeLine_eq];lia
 have he:∃q,h'.get? s.heap.objs.size=some q:=let⟨q,_,_,hq,_⟩:=i7;⟨q,hq⟩
 exact lr I2 (by rw[e];exact True.intro) hs he (uE hz hd (rk.merge .nil) i7)
end
section
variable{X:Cx}{a b c d:Expr}{ta tb tc td:TE}{pos:Pos}
def vL(r r' As:R2)(ta tb tc td:TE):TE:=fun σ H Q=>ta σ H fun x H1=>tb σ H1 fun y H2=>r x y H2 fun z H3=>∃k,z=.bl k /\
 (if k=true then tc σ H3 fun x2 H4=>r' y x2 H4 fun z2 H5=>∃k2,z2=.bl k2/\(if k2=true then td σ H5 fun x3 H6=>As x2 x3 H6 Q else Q (.bl false) H5)else Q (.bl false) H3)
theorem xq{o1 o2 o3:CmpOp}{r r' As:R2}(h1:OpR X (compareOp o1) r)(h2:OpR X (compareOp o2) r')(h3:OpR X (compareOp o3) As)(ha:PE X a ta)(hb:PE X b tb)(hc:PE X c tc)(hd:PE X d td)
  (hm:lastMarks [o1,o2,o3] [b,c,d]=false:=by with_unfolding_all rfl):PE X (.Compare a [o1,o2,o3] [b,c,d] pos) (vL r r' As ta tb tc td):=by
 intro Zt s σ H Q I h
 refine Compare_chain (thn (ha Zt s σ H _ I h) fun v s1 ⟨x,H1,I1,r1,q1⟩=>chain_link (thn (hb Zt s1 σ H1 _ I1 q1) fun u s2 ⟨y,H2,I2,r2,q2⟩=>
  thn (h1 Zt s2 σ H2 x y v u _ I2 r1 r2 q2) fun g s3 ⟨z,H3,I3,r3,k,e,q3⟩=>?_)) hm
 subst e;cases r3;refine wpAny_truthy_bool ?_
 cases k with
 |false=>exact ite_ff ⟨.bl false,H3,I3,rfl,q3⟩
 |true=>
  refine ite_tt (chain_link (thn (hc Zt s3 σ H3 _ I3 q3) fun w' s4 ⟨z',H4,I4,r4,q4⟩=>thn (h2 Zt s4 σ H4 y z' u w' _ I4 r2 r4 q4) fun g2 s5 ⟨z5,H5,I5,r5,k2,e2,q5⟩=>?_));subst e2;cases r5;refine wpAny_truthy_bool ?_
  cases k2 with
  |false=>exact ite_ff ⟨.bl false,H5,I5,rfl,q5⟩
  |true=>exact ite_tt (chain_last (thn (hd Zt s5 σ H5 _ I5 q5) fun w6 s6 ⟨z6,H6,I6,r6,q6⟩=>h3 Zt s6 σ H6 z' z6 w' w6 Q I6 r4 r6 q6))
end
def Ev(σ:St)(H:Hp)(t:TE)(v:V):Prop:=∀Q:VK,Q v H->t σ H Q
section
variable{σ:St}{H:Hp}{ta tb tc td:TE}
theorem dG{v:V}:Ev σ H (tC v) v:=fun _ h=>h
theorem cV{i:Nat}{v:V}(h:σ[i]?=some (some v)):Ev σ H (wR i) v:=fun _ q=>⟨v,h,q⟩
theorem z9{C:Int->Int->Prop}{g:Int->Int->V}{i j:Int}(a:Ev σ H ta (.int i))(b:Ev σ H tb (.int j))(c:C i j):Ev σ H (tOp (rI C g) ta tb) (g i j):=fun _ q=>a _ (b _ ⟨i,j,rfl,rfl,c,q⟩)
theorem bH{p q:Int->Int->Bool}{i j k:Int}(a:Ev σ H ta (.int i))(b:Ev σ H tb (.int j))(c:Ev σ H tc (.int k)):
  Ev σ H (ur (rI0 fun i j=>.bl (p i j)) (rI0 fun i j=>.bl (q i j)) ta tb tc) (.bl (p i j&&q j k)):=fun Q h=>a _ (b _ ⟨i,j,rfl,rfl,_,rfl,by
 cases e:p i j with
 |false=>
  rw[e]at h;exact bf h
 |true=>
  rw[e]at h
  exact bh (c _ ⟨j,k,rfl,rfl,h⟩)⟩)
theorem xr{p q r:Int->Int->Bool}{i j k l:Int}(a:Ev σ H ta (.int i))(b:Ev σ H tb (.int j))(c:Ev σ H tc (.int k))(d:Ev σ H td (.int l)):
  Ev σ H (vL (rI0 fun i j=>.bl (p i j)) (rI0 fun i j=>.bl (q i j)) (rI0 fun i j=>.bl (r i j)) ta tb tc td) (.bl (p i j&&(q j k&&r k l))):=fun Q h=>a _ (b _ ⟨i,j,rfl,rfl,_,rfl,by
 cases e:p i j with
 |false=>
  rw[e]at h;exact bf h
 |true=>
  rw[e]at h;refine bh (c _ ⟨j,k,rfl,rfl,_,rfl,?_⟩)
  cases e2:q j k with
  |false=>
   rw[e2]at h;exact bf h
  |true=>
   rw[e2]at h
   exact bh (d _ ⟨k,l,rfl,rfl,h⟩)⟩)
theorem gj{b c:Bool}(x:Ev σ H ta (.bl b))(y:b=true->Ev σ H tb (.bl c)):Ev σ H (Dj ta tb) (.bl (b&&c)):=fun Q h=>x _ ⟨b,rfl,by
 cases e:b with
 |false=>
  rw[e]at h;exact bf h
 |true=>
  rw[e]at h
  exact bh (y e _ h)⟩
end
structure Plain(e:Expr):Prop where
 eq:∀(es:List Expr) (env:Env),starEach (e::es) env=(false,eval e env)::starEach es env
theorem gU{c j p}:Plain (.Constant c j p):=⟨fun _ _=>rfl⟩
theorem iY{x p}:Plain (.Name x p):=⟨fun _ _=>rfl⟩
theorem gW{es k p}:Plain (.Tuple es k p):=⟨fun _ _=>rfl⟩
theorem iZ{es p}:Plain (.List es p):=⟨fun _ _=>rfl⟩
theorem j0{ks vs p}:Plain (.Dict ks vs p):=⟨fun _ _=>rfl⟩
theorem j4{f as ks p}:Plain (.Call f as ks p):=⟨fun _ _=>rfl⟩
theorem plain_bin{a o b p}:Plain (.BinOp a o b p):=⟨fun _ _=>rfl⟩
theorem lU{o a p}:Plain (.UnaryOp o a p):=⟨fun _ _=>rfl⟩
theorem jN{a b p}:Plain (.Subscript a b p):=⟨fun _ _=>rfl⟩
theorem j5{a b c p}:Plain (.ListComp a b c p):=⟨fun _ _=>rfl⟩
theorem jO{a b c p}:Plain (.Compare a b c p):=⟨fun _ _=>rfl⟩
section
variable{X:Cx}{e:Expr}{es:List Expr}{te:TE}{t:TA}
theorem aq(ha:PE X e te)(hr:PA X es t)(hp:Plain e:=by first|exact iY|exact gU|exact j4|exact gW|exact iZ|exact plain_bin|exact jN|exact lU|exact j0|exact j5|exact jO):PA X (e::es) (dD te t):=
 aQ ha hr (hp.eq _ _)
end
structure AA(X:Cx)(es:List Expr)(t:TA):Prop where
 run:PA X es t
section
variable{X:Cx}{e:Expr}{es:List Expr}{te:TE}{t:TA}{pos:Pos}
theorem aW:AA X [] iT:=⟨aj⟩
theorem uI(ha:PE X e te)(hr:AA X es t)(hp:Plain e:=by first|exact iY|exact gU|exact j4|exact gW|exact iZ|exact plain_bin|exact jN|exact lU|exact j0|exact j5|exact jO):AA X (e::es) (dD te t):=
 ⟨aQ ha hr.run (hp.eq _ _)⟩
theorem gq{x1}(h:AA X es t):PE X (.Tuple es x1 pos) (mW t):=bj h.run
theorem Bs(h:AA X es t):PE X (.List es pos) (Bg t):=eU h.run
end
inductive IsInts:List Expr->List Int->Prop
 |nil:IsInts [] []
 |cons {i:Int} {j:Nat} {p:Pos} {es:List Expr} {is:List Int}:IsInts es is->IsInts (.Constant (.int i) j p::es) (i::is)
def sW(is:List Int):TA:=fun _ H Q=>Q (is.map V.int) H
theorem qi{X:Cx}:∀{es:List Expr} {is:List Int},IsInts es is->PA X es (sW is)
 |_,_,.nil=>fun _ _ _ _ H Q I h=>Calls.spliced_nil ⟨[],H,I,.nil,h⟩
 |_,_,@IsInts.cons i j p es is r=>by
  have h:=aq (X:=X) (ak (i:=i) (j:=j) (pos:=p)) (qi r);exact h
theorem Eo{X:Cx}{i j:Int}{a b c p q r}:PE X (.Tuple [.Constant (.int i) a p,.Constant (.int j) b q] c r) (mW (sW [i,j])):=bj (qi (.cons (.cons .nil)))
theorem Bt{X:Cx}{i j k:Int}{a b c d p q q' r r'}:PE X (.Tuple [.Constant (.int i) a p,.BinOp (.Constant (.int j) b q) .Pow (.Constant (.int k) d q') r'] c r) (mW (dD (tC (.int i)) (dD (tOp (rI yF fun i j=>.int (i^j.toNat)) (tC (.int j)) (tC (.int k))) iT))):=
 bj (aq ak (aq (aX jE ak ak) aj))
theorem vM{X:Cx}{es:List Expr}{k:Nat}{pos:Pos}{t:TGs}{K:Frag}{n:Nat}(hK:X.K=K)(hc:X.calm=true)(h:PGs X es t)(hn:(assignEach es X.env).length=n:=by rfl)(a9:(assignEach es X.env).findIdx? (·.1)=none:=by rfl):
  PG X (.Tuple es k pos) (Bd K n t):=by
 subst hK;exact bW hc h hn a9
structure BE(X:Cx)(e:Expr)(t:TE):Prop where
 run:PE X e t
section
variable{X:Cx}{e:Expr}{es:List Expr}{te:TE}{t:TA}{pos:Pos}
theorem aM(ha:BE X e te)(hr:AA X es t)(hp:Plain e:=by first|exact iY|exact gU|exact j4|exact gW|exact iZ|exact plain_bin|exact jN|exact lU|exact j0|exact j5|exact jO):AA X (e::es) (dD te t):=uI ha.run hr hp
theorem bL{i:Int}{j}:BE X (.Constant (.int i) j pos) (tC (.int i)):=⟨ak⟩
theorem vN{b:Bool}{j}:BE X (.Constant (.bool b) j pos) (tC (.bl b)):=⟨gJ⟩
theorem uJ{j}:BE X (.Constant .none j pos) (tC .non):=⟨gK⟩
theorem bA{x:Str}{j}:BE X (.Constant (.str x) j pos) (tC (.str x)):=⟨cA⟩
theorem Ep{i:Int}{j q}:BE X (.UnaryOp .USub (.Constant (.int i) j q) pos) (tUn (rU fun i=>.int (-i)) (tC (.int i))):=⟨qZ lF ak⟩
theorem Er{i k:Int}{j j' q q'}:BE X (.BinOp (.Constant (.int i) j q) .Pow (.Constant (.int k) j' q') pos) (tOp (rI yF fun i j=>.int (i^j.toNat)) (tC (.int i)) (tC (.int k))):=⟨aX jE ak ak⟩
theorem cB{x1}(h:AA X es t):BE X (.Tuple es x1 pos) (mW t):=⟨bj h.run⟩
theorem dI(h:AA X es t):BE X (.List es pos) (Bg t):=⟨eU h.run⟩
theorem lV{i j:Int}{a b c p q r}:BE X (.Tuple [.Constant (.int i) a p,.Constant (.int j) b q] c r) (mW (sW [i,j])):=⟨Eo⟩
theorem Bu{i j k:Int}{a b c d p q q' r r'}:BE X (.Tuple [.Constant (.int i) a p,.BinOp (.Constant (.int j) b q) .Pow (.Constant (.int k) d q') r'] c r) (mW (dD (tC (.int i)) (dD (tOp (rI yF fun i j=>.int (i^j.toNat)) (tC (.int j)) (tC (.int k))) iT))):=⟨Bt⟩
end
structure BS(X:Cx)(st:Stmt)(t:TS):Prop where
 run:PS X st t
structure BSs(X:Cx)(Bi:List Stmt)(t:TS):Prop where
 run:PSs X Bi t
section
variable{X:Cx}{st:Stmt}{rest:List Stmt}{t u:TS}{pos:Pos}
theorem ou(h:BSs X rest t):PSs X rest t:=h.run
theorem aF(h1:BS X st t)(h2:BSs X rest u):BSs X (st::rest) (DQ t u):=⟨aG h1.run h2.run⟩
theorem bU(h1:BS X st t):BSs X [st] t:=⟨aA h1.run⟩
theorem uK{i:Nat}{x:Str}{e:Expr}{te:TE}{pos':Pos}(hN:X.N.Nodup)(hi:X.N[i]?=some x)(hx:Loc X.env.scope x)(he:BE X e te)(hs:swapsWith e (some (.Name x pos')) pos.line X.env=pure false:=by rfl)(hf:X.fn x=true\/X.env.scope.names.lookup x=some .local:=by first|exact .inl rfl|exact .inr rfl|assumption):
  BS X (.Assign [.Name x pos'] e pos) (ul te (eV i)):=⟨um hN hi hx he.run hs hf⟩
theorem gr{e:Expr}{te:TE}(he:BE X e te):BS X (.Return (some e) pos) (DR te):=⟨aO he.run⟩
theorem oA{op:Operator}{r:R2}{a b:Expr}{ta tb:TE}(ho:OpR X (binaryOp op) r)(ha:BE X a ta)(hb:BE X b tb):BE X (.BinOp a op b pos) (tOp r ta tb):=⟨aX ho ha.run hb.run⟩
theorem za{r:R2}{a b:Expr}{ta tb:TE}(hr:IxR X r)(ha:BE X a ta)(hb:BE X b tb)(hs:pJ b):BE X (.Subscript a b pos) (tOp r ta tb):=⟨Dn hr ha.run hb.run hs⟩
end
theorem pgn{X:Cx}{x:Str}{pos:Pos}(i:Nat)(hN:X.N.Nodup)(hi:X.N[i]?=some x:=by rfl)(hx:Loc X.env.scope x:=by exact Or.inl rfl)(hf:X.fn x=true\/X.env.scope.names.lookup x=some .local:=by first|exact .inl rfl|exact .inr rfl):PG X (.Name x pos) (eV i):=d7 hN hi hx hf
theorem pss{X:Cx}{x:Str}{pos pos':Pos}{e:Expr}{te:TE}(i:Nat)(hN:X.N.Nodup)(he:PE X e te)(hi:X.N[i]?=some x:=by rfl)(hx:Loc X.env.scope x:=by exact Or.inl rfl)(hs:swapsWith e (some (.Name x pos')) pos.line X.env=pure false:=by rfl)(hf:X.fn x=true\/X.env.scope.names.lookup x=some .local:=by first|exact .inl rfl|exact .inr rfl):PS X (.Assign [.Name x pos'] e pos) (ul te (eV i)):=um hN hi hx he hs hf
theorem jk{X:Cx}{x:Str}{pos pos':Pos}{e:Expr}{te:TE}(i:Nat)(hN:X.N.Nodup)(he:BE X e te)(hi:X.N[i]?=some x:=by rfl)(hx:Loc X.env.scope x:=by exact Or.inl rfl)(hs:swapsWith e (some (.Name x pos')) pos.line X.env=pure false:=by rfl)(hf:X.fn x=true\/X.env.scope.names.lookup x=some .local:=by first|exact .inl rfl|exact .inr rfl):BS X (.Assign [.Name x pos'] e pos) (ul te (eV i)):=uK hN hi hx he hs hf
theorem pX{X:Cx}{r:R2}{a b:Expr}{ta tb:TE}{pos:Pos}(hr:IxR X r)(ha:PE X a ta)(hb:PE X b tb)(hs:pJ b:=by exact fun _ _=>rfl):PE X (.Subscript a b pos) (tOp r ta tb):=Dn hr ha hb hs
theorem zL{n:Nat}(h:Nat.ble n 1000=true:=by rfl):n<=sizeLine:=Nat.le_trans (Nat.le_of_ble_eq_true h) Zx
theorem cI{X:Cx}{aw:Env}{x:Str}{i:Nat}{N:List Str}{r:List (Option Nat)}(h:Caps X aw N r)(h1:X.N[i]?=some x:=by rfl)(h2:X.env.kindOf x=some .cell:=by rfl)(h3:aw.cells.lookup x=X.env.cells.lookup x:=by rfl)(h4:aw.kindOf x=some .cell:=by rfl):Caps X aw (x::N) (some i::r):=⟨⟨h1,.inl h2,h3,.inl h4⟩,h⟩
theorem fQS{N P:List Str}{sc:Scope}(h1:sc.kind=.function:=by rfl)(h2:sc.isCoroutine=false:=by rfl)(h3:sc.isGenerator=false:=by rfl)(h4:N.Nodup:=by decide +kernel)(h5:N.take P.length=P:=by rfl)(h6:∀x∈P,sc.names.lookup x=some .local\/sc.names.lookup x=some .cell:=by decide +kernel)(h7:∀y∈sc.names,y.2≠.free:=by decide +kernel):FnScope N P sc:=⟨h1,h2,h3,h4,h5,h6,h7⟩
section
variable{X:Cx}{es:List Expr}{t:TA}{pos:Pos}
theorem vO(h:AA X es t):BE X (.List es pos) (yW t):=⟨qg h.run⟩
theorem zb:BE X (.Dict [] [] pos) uG:=⟨yX⟩
theorem zc{i j:Int}{a b p q}:BE X (.Dict [some (.Constant (.int i) a p)] [.Constant (.int j) b q] pos) (uH [(tC (.int i),tC (.int j))]):=⟨yZ (rZ ak ak vI) rfl rfl Zy (by show 1<=15;decide)⟩
end
def ThE(S:Addr->Prop)(σ:St)(H:Hp)(t:TE)(d:PyData):Prop:=∀H0,Same H H0->∀Q:VK,(∀v H',Same H0 H'->IsTh S H' v d->Q v H')->t σ H0 Q
def ThA(S:Addr->Prop)(σ:St)(H:Hp)(t:TA)(ds:List PyData):Prop:=∀H0,Same H H0->∀Q:List V->Hp->Prop,(∀vs H',Same H0 H'->IsThs S H' vs ds->Q vs H')->t σ H0 Q
section
variable{S:Addr->Prop}{σ:St}{H:Hp}
theorem Bv{v:V}{d:PyData}(h:∀H',IsTh S H' v d):ThE S σ H (tC v) d:=fun H0 _ Q q=>q v H0 (Same.refl _) (h H0)
theorem gY{i:Int}:ThE S σ H (tC (.int i)) (.int i):=Bv fun _=>.int i
theorem Ds{b:Bool}:ThE S σ H (tC (.bl b)) (.bool b):=Bv fun _=>.bl b
theorem zf:ThE S σ H (tC .non) .none:=Bv fun _=>.non
theorem qj{x:Str}:ThE S σ H (tC (.str x)) (.str x):=Bv fun _=>.str x
theorem zg{t:TE}{i:Int}(h:∀H',Ev σ H' t (.int i)):ThE S σ H t (.int i):=fun H0 _ Q q=>h H0 _ (q _ H0 (Same.refl _) (.int i))
theorem dW:ThA S σ H iT []:=fun H0 _ Q q=>q [] H0 (Same.refl _) .nil
theorem aR{te:TE}{ta:TA}{d:PyData}{ds:List PyData}(h1:ThE S σ H te d)(h2:ThA S σ H ta ds):ThA S σ H (dD te ta) (d::ds):=fun H0 s0 Q q=>
 h1 H0 s0 _ fun v H1 s1 t1=>h2 H1 (s0.trans s1) _ fun vs H2 s2 t2=>q (v::vs) H2 (s1.trans s2) (.cons (t1.same s2) t2)
theorem Bw(is:List Int):ThA S σ H (sW is) (is.map PyData.int):=fun H0 _ Q q=>q _ H0 (Same.refl _) (IsThs.ints is)
theorem gZ{ta:TA}{ds:List PyData}(h:ThA S σ H ta ds)(hl:ds.length<=4000):ThE S σ H (mW ta) (.tuple ds):=fun H0 s0 Q q=>
 h H0 s0 _ fun vs H1 s1 t1=>⟨by rw[t1.length,sizeLine_eq];lia,fun p hp=>q _ _ (s1.updR hp) (.tup aa (t1.same (Same.upd hp)))⟩
theorem vP{ta:TA}{ds:List PyData}(h:ThA S σ H ta ds)(hl:ds.length<=4000)(hS:∀H',Same H H'->∀p,H' p=none->p≠sysModules->S p):ThE S σ H (yW ta) (.list ds):=fun H0 s0 Q q=>
 h H0 s0 _ fun vs H1 s1 t1=>⟨by rw[t1.length,sizeLine_eq];lia,fun p hp np=>q _ _ (s1.updR hp) (.lst (hS H1 (s0.trans s1) p hp np) aa (t1.same (Same.upd hp)))⟩
theorem Bx(hS:∀H',Same H H'->∀p,H' p=none->p≠sysModules->S p):ThE S σ H uG (.dict []):=fun H0 s0 Q q p hp np=>q _ _ (Same.upd hp) (.dct (ks:=[]) (hS H0 s0 p hp np) aa)
theorem zj{i j:Int}(hS:∀H',Same H H'->∀p,H' p=none->p≠sysModules->S p):ThE S σ H (uH [(tC (.int i),tC (.int j))]) (.dict [(.int i,.int j)]):=fun H0 s0 Q q p hp np=>by
 refine⟨aa,[(Sum.inl i,.int j)],rfl,by show 1<=15;decide,q _ _ (fun b o e=>?_) (.dct (ks:=[(Sum.inl i,j)]) (hS H0 s0 p hp np) aa)⟩;rw[ao (aB e hp),ao (aB e hp)];exact e
end
section
variable{D:Ends}{σ:St}{H:Hp}{t u:TS}{te:TE}{ta:TA}{g:TG}{Q:VK}
theorem bu(h:D.nx σ H):yz D σ H:=h
theorem aD(h:t {D with nx:=u D} σ H):DQ t u D σ H:=h
theorem bO(h:te σ H fun x H1=>g x σ H1 D.nx):ul te g D σ H:=h
theorem Es(h:te σ H D.rt):DR te D σ H:=h
theorem j6(h:ta σ H fun xs H1=>xs.length<=sizeLine/\∀p,H1 p=none->Q (.ref p) (upd H1 p (.lst xs))):Bg ta σ H Q:=h
theorem bc{i:Nat}{v:V}{R:St->Hp->Prop}(h:R (σ.set i (some v)) H):eV i v σ H R:=h
end
theorem zm{K:Frag}{S S':Addr->Prop}{g:TG}{te:TE}{a b:Addr}{xs zs:List V}{ds es:List PyData}(f:PyData->PyData->Bool){gE:St}{H0:Hp}{Fin:List V->Hp->Prop}(inv:St->Prop)(h0:inv gE)
  (ea:H0 a=some (.tup xs)) (eb:H0 b=some (.lst zs)) (r1:IsThs S H0 xs ds) (r2:IsThs S' H0 zs es) (hl:ds.length=es.length) (hz:xs.length<sizeLine)
  (step:∀(T:Addr) x z d e σ H (R:St->VK),d∈ds->e∈es->inv σ->Same H0 H->H T=some (.tup [x,z])->IsTh S H x d->IsTh S' H z e->(∀aT H',inv aT->Same H H'->R aT (.bl (f d e)) H')->g (.ref T) σ H fun aT H2=>te aT H2 (R aT))
  (fin:∀H',Same H0 H'->Fin ((List.zipWith f ds es).map V.bl) H'):rJ (Itz K a b) g yO te Fin gE H0:=by
 have l1:=r1.length;have l2:=r2.length;refine⟨fun i m ys σ H=>m=xs.length-i/\i<=xs.length/\ys=((List.zipWith f ds es).take i).map V.bl/\inv σ/\Same H0 H,⟨_,rfl,zAp _,rfl,h0,Same.refl _⟩,?_⟩;rintro i m ys σ H ⟨rfl,hi,rfl,fy,hs⟩;have q1:SqT K H a xs:=SqT.of (hs _ _ ea);have q2:SqL K H b zs:=SqL.of (hs _ _ eb);refine⟨by rw[zA1,zAd];lia,?_⟩;by_cases av:i<xs.length
 .have Co:i<zs.length:=Zz
  refine .inr ⟨⟨xs,zs,xs[i],zs[i],q1,q2,by simp[av],by simp[Co]⟩,fun v H' y=>?_⟩;obtain⟨T,nT,rfl,y⟩:=y;obtain⟨x,z,ex,ez,rfl⟩:=y xs zs q1 q2;obtain⟨d,hd,td⟩:=(r1.same (hs.updR (o:=.tup [x,z]) nT)).get ex;obtain⟨e,he,t2⟩:=(r2.same (hs.updR (o:=.tup [x,z]) nT)).get ez
  refine step T x z d e σ _ (fun aT y H4=>∃m',m'<xs.length-i/\m'=xs.length-(i+1)/\i+1<=xs.length/\((List.zipWith f ds es).take i).map V.bl++[y]=((List.zipWith f ds es).take (i+1)).map V.bl/\inv aT/\Same H0 H4) (zB5 hd) (zB5 he) fy (hs.updR nT) aa td t2 fun aT H2 i2 s2=>⟨xs.length-(i+1),Zz,rfl,av,?_,i2,(hs.updR nT).trans s2⟩
  have hz:(List.zipWith f ds es)[i]?=some (f d e):=by rw[List.getElem?_zipWith,hd,he]
  rw[zAj,hz];simp
 .have e:i=xs.length:=Zz
  subst e;refine .inl ⟨⟨xs,q1,zA3 _⟩,?_⟩;rw[List.take_of_length_le (by rw[List.length_zipWith];lia)];exact fin H hs
section
variable{X:Cx}{pos:Pos}
def Gu(i j k:Nat)(ta:TA):TS:=fun D σ H=>ta σ H fun vs H1=>∃v w u,vs=[v,w,u]/\D.nx (((σ.set i (some v)).set j (some w)).set k (some u)) H1
theorem By{i j k:Nat}{x y z:Str}{a b c:Expr}{ta:TA}{px py pz pt:Pos}{kt k2 pt2}(hc:X.calm=true)(hN:X.N.Nodup)(hi:X.N[i]?=some x)(hj:X.N[j]?=some y)(hk:X.N[k]?=some z)(Bn:i≠j)(KL:i≠k)(hjk:j≠k)
  (hx:X.env.scope.names.lookup x=some .local) (hy:X.env.scope.names.lookup y=some .local) (hz:X.env.scope.names.lookup z=some .local) (ha:PA X [a,b,c] ta)
  (hw:swappedStores [.Tuple [.Name x px,.Name y py,.Name z pz] kt pt] (.Tuple [a,b,c] k2 pt2) X.env=pure (some [x,y,z]))
  (hs:swapsWithSole [.Tuple [.Name x px,.Name y py,.Name z pz] kt pt] (.Tuple [a,b,c] k2 pt2) pos.line X.env=pure false:=by rfl):
  PS X (.Assign [.Tuple [.Name x px,.Name y py,.Name z pz] kt pt] (.Tuple [a,b,c] k2 pt2) pos) (Gu i j k ta):=by
 intro Zt s σ H D I h;refine Assign_Tuple_swapped (names:=[x,y,z]) (Tuple_ (thn (ha _ Zt s σ H _ I h) fun us s1 ⟨vs,H1,I1,r1,q1⟩=>?_)) hs hw;obtain⟨v,w,u,e1,q1⟩:=q1;subst e1
 obtain⟨u1,u2,u3,rfl,rv,bP,ru⟩:∃u1 u2 u3,us=[u1,u2,u3]/\RelV v u1/\RelV w u2/\RelV u u3:=by
  cases r1 with
  |cons p q=>
   cases q with
   |cons p' q'=>
    cases q' with
    |cons p2 q2=>
     cases q2;exact⟨_,_,_,rfl,p,p',p2⟩
 refine wpAny_newObj_type ?_ (by show 3<=sizeLine;decide);have I2:Inv X Zt σ H1 {s1 with heap:=s1.heap.push {cls:=.type "tuple",data:=.seq [u1,u2,u3].toArray}}:=I1.kept (t':=s1.toks) fun b o e=>zAu _ e;refine unpackItems_tuple (items:=#[u1,u2,u3]) (I.ok.hd hc) (IsTup.new s1.heap _) fun h' cE=>?_;have I3:=I2.kept (h':=h') (t':=s1.toks) fun b o e=>cE b o (zB3 (zAy e)) e;show wpAny _ _ (assignInOrder [fun v=>bindName X.env z v,fun v=>bindName X.env y v,fun v=>bindName X.env x v] [u3,u2,u1]) _ _ _;refine assignInOrder_cons (wpAny_bindName (eG I3 hN hk (.inl hz) ru (fun s2 I4=>?_) (.inr hz)));refine assignInOrder_cons (wpAny_bindName (eG I4 hN hj (.inl hy) bP (fun s3 I5=>?_) (.inr hy)));refine assignInOrder_cons (wpAny_bindName (eG I5 hN hi (.inl hx) rv (fun s4 I6=>assignInOrder_nil ?_) (.inr hx)));rw[List.set_comm _ _ (Ne.symm Bn),List.set_comm _ _ (Ne.symm KL),List.set_comm _ _ (Ne.symm hjk)]at I6;exact⟨_,H1,I6,q1⟩
end
end L2
namespace L2.ZT
open PySem PySem.Spec PyProof.Rows L2
def nm(t:Bool):String:=match t with|true=>"tuple_iterator"|false=>"list_iterator"
def tn(t:Bool):String:=match t with|true=>"tuple"|false=>"list"
def Io(t:Bool)(h:Heap)(a l:Addr)(i:Nat):Prop:=∃o,h.get? a=some o/\o.cls=.type (nm t)/\o.data=.fields #[.ref l,.int i 0]
def Sq(t:Bool)(h:Heap)(a:Addr)(items:Array Value):Prop:=∃o,h.get? a=some o/\o.cls=.type (tn t)/\∃n,o.data=.seq items n
def SQ(t:Bool)(K:Frag)(H:Hp)(a:Addr)(xs:List V):Prop:=match t with|true=>SqT K H a xs|false=>SqL K H a xs
theorem Io.at{t:Bool}{h h':Heap}{a l:Addr}{i:Nat}(x:Io t h a l i)(e:∀o,h.get? a=some o->h'.get? a=some o):Io t h' a l i:=let⟨o,ho,r⟩:=x;⟨o,e _ ho,r⟩
theorem Io.extBut{t:Bool}{h h':Heap}{a b l:Addr}{i:Nat}(x:Io t h a l i)(e:Heap.ExtBut b h h')(n:a≠b):Io t h' a l i:=x.at fun o q=>e _ _ n q
theorem Sq.at{t:Bool}{h h':Heap}{a:Addr}{xs:Array Value}(x:Sq t h a xs)(e:∀o,h.get? a=some o->h'.get? a=some o):Sq t h' a xs:=let⟨o,ho,r⟩:=x;⟨o,e _ ho,r⟩
theorem Sq.extBut{t:Bool}{h h':Heap}{a b:Addr}{xs:Array Value}(x:Sq t h a xs)(e:Heap.ExtBut b h h')(n:a≠b):Sq t h' a xs:=x.at fun o q=>e _ _ n q
theorem zp{t:Bool}{X:Cx}{Zt:List (Addr×Obj)}{σ:St}{H:Hp}{s:Shared}{a:Addr}{xs:List V}(I:Inv X Zt σ H s)(h:SQ t X.K H a xs):∃Zr:List Value,Vals xs Zr/\Sq t s.heap a Zr.toArray/\xs.length<=sizeLine:=by
 cases t
 .obtain⟨Zr,r,p,z⟩:=I.list h;exact⟨Zr,r,p.isList,z⟩
 .exact I.tuple h
theorem Et{t:Bool}{X:Cx}{Zt:List (Addr×Obj)}{σ:St}{H:Hp}{s:Shared}{a:Addr}{xs ys:List V}(I:Inv X Zt σ H s)(h:SQ t X.K H a xs)(h':SQ t X.K H a ys):xs=ys:=by
 cases t
 .exact I.list_inj h h'
 .exact I.tuple_inj h h'
section
variable{prog:Program}{w:World}{A:Around}{E:Value->Shared->Prop}{s:Shared}
theorem nx{t:Bool}{j l:Addr}{i:Nat}{Zr:Array Value}{x:Value}{Q:Value->Shared->Prop}(hj:Io t s.heap j l i)(ht:Sq t s.heap l Zr)(hx:Zr[i]?=some x)
  (hQ:∀h',Io t h' j l (i+1)->Heap.SameBut j s.heap h'->Q x {s with heap:=h'}):wpAny (model prog w) A (Builtin.SmallTypes.nextOf (.ref j)) Q E s:=by
 cases t
 .exact wpAny_nextOf_list_item hj ht hx hQ
 .exact yS hj ht hx hQ
theorem zq{t:Bool}{j l:Addr}{i:Nat}{Zr:Array Value}{Q:Value->Shared->Prop}(hh:A.handled=none)(hj:Io t s.heap j l i)(ht:Sq t s.heap l Zr)(hx:Zr[i]?=none)
  (hE:∀h' e,Heap.ExtBut j s.heap h'->(∃o,h'.get? e=some o/\o.cls=.type "StopIteration")->E (.ref e) {s with heap:=h'}):wpAny (model prog w) A (Builtin.SmallTypes.nextOf (.ref j)) Q E s:=by
 cases t
 .exact wpAny_nextOf_list_end hh hj ht hx hE
 .exact lR hh hj ht hx hE
theorem uL{t:Bool}{l:Addr}{Zr:Array Value}{Q:Value->Shared->Prop}(hl:Sq t s.heap l Zr)
  (hQ:Q (.ref s.heap.objs.size) {s with heap:=s.heap.push {cls:=.type (nm t),data:=.fields #[.ref l,.int 0 0]}}):wpAny (model prog w) A (pyIter (.ref l)) Q E s:=by
 cases t
 .exact wpAny_pyIter_list hl hQ
 .exact wpAny_pyIter_tuple hl hQ
end
theorem draws{t:Bool}{prog:Program}{w:World}{A:Around}(hh:A.handled=none)(it a:Addr)(tP:a≠it)(Zr:Array Value):
  Draws prog w A it [it,a] Zr.size (fun i v=>Zr[i]?=some v) (fun i h=>Io t h it a i/\Sq t h a Zr) where
 live:=fun _ _ st=>let⟨o,ho,_⟩:=st.1;⟨o,ho⟩
 frame:=fun _ _ _ st hk=>⟨st.1.at fun o e=>hk it Zy o e,st.2.at fun o e=>hk a Zy o e⟩
 item:=fun i s Q E hi st hQ=>nx st.1 st.2 (x:=Zr[i]) (by simp[hi]) fun h' h1 h2=>hQ _ h' s.toks (by simp[hi]) ⟨h1,st.2.extBut h2.extBut tP⟩ h2
 done:=fun s Q E st hE=>zq hh st.1 st.2 Zy hE
abbrev eA(t0:Bool)(h:Heap)(t:Addr):Heap:=h.push {cls:=.type (nm t0),data:=.fields #[.ref t,.int 0 0]}
theorem lW{t0:Bool}(t:Addr)(Zr:Array Value):
  Meets (Builtin.«enumerate.__new__» ⟨[.type "enumerate",.ref t],[]⟩) (fun _ R s=>Sq t0 s.heap t Zr /\
   R (.ok (.ret (.ref (eA t0 s.heap t).objs.size))) {s with heap:=(eA t0 s.heap t).push {cls:=.type "enumerate",data:=.fields #[.none,.bool false,.ref s.heap.objs.size,rawInt 0,.none,.none]}}):=
 .of_wp fun prog w A R s h=>by
  obtain⟨hp,g,d,tk,os⟩:=s;obtain⟨ht,h⟩:=h;have Cf:=sub_enumerate;have hT:Sq t0 (Shared.heap ⟨hp,g,d,tk,os⟩) t Zr:=ht
  wp_walk
  refine wpAny_stack_any fun st=>zAz ?_;split
  .rename_i c _ _ _ _ _
   cases(c==Value.type "enumerate")
   .wp_walk using uL hT
    exact⟨_,rfl,h⟩
   .wp_walk using uL hT
    exact⟨_,rfl,h⟩
  .wp_walk using uL hT
   exact⟨_,rfl,h⟩
theorem nC{t0:Bool}{prog:Program}{w:World}{A:Around}{E:Value->Shared->Prop}{s:Shared}{t:Addr}{Zr:Array Value}{Q:Value->Shared->Prop}(ht:Sq t0 s.heap t Zr)
  (h:∀h',IsEnum h' (s.heap.objs.size+1) s.heap.objs.size 0 .none->Io t0 h' s.heap.objs.size t 0->(∀c o,s.heap.get? c=some o->h'.get? c=some o)->Q (.ref (s.heap.objs.size+1)) {s with heap:=h'}):
  wpAny (model prog w) A (call (.type "enumerate") [.ref t]) Q E s:=by
 refine callType_new F.called_enumerate Zx (F.typeCall_enumerate_1 _) (F.newCall_enumerate_1 _) (fun obj=>F.args_object_init_2 obj _) F.entry_enumerate_new (lW t Zr) ⟨ht,?_⟩;have e1:(eA t0 s.heap t).objs.size=s.heap.objs.size+1:=Heap.size_push ..;have g2:=zB1 (eA t0 s.heap t) (o:={cls:=.type "enumerate",data:=.fields #[.none,.bool false,.ref s.heap.objs.size,rawInt 0,.none,.none]}) rfl;have g1:=zAu {cls:=.type "enumerate",data:=.fields #[.none,.bool false,.ref s.heap.objs.size,rawInt 0,.none,.none]} (zB1 s.heap (o:={cls:=.type (nm t0),data:=.fields #[.ref t,.int 0 0]}) rfl);show _/\_;rw[e1]at g2⊢;exact⟨⟨_,g2,rfl⟩,h _ g2 ⟨_,g1,rfl,rfl⟩ fun c o x=>zAu _ (zAu _ x)⟩
def Ite(t0:Bool)(K:Frag)(a:Addr):It:=
 ⟨fun i H=>∃xs x,SQ t0 K H a xs/\xs[i]?=some x,
  fun i H v H'=>∃T,H T=none/\v=.ref T/\∀xs,SQ t0 K H a xs->∃x,xs[i]?=some x/\H'=upd H T (.tup [.int i,x]),
  fun i H=>∃xs,SQ t0 K H a xs/\xs.length<=i⟩
def tne(t0:Bool)(e it a:Addr)(i:Nat)(h:Heap):Prop:=(∃old,IsEnum h e it i old)/\Io t0 h it a i
theorem xu{t0:Bool}{P:Program}{w:World}{K:Frag}{es:List Expr}{k:Nat}{pos:Pos}{e it a:Addr}(Ct:e≠it)(KN:e≠a)(KO:a≠it):
  Turn P w K (.Tuple es k pos) (Ite t0 K a) [e,it] e (tne t0 e it a) where
 mem:=by simp
 obj:=fun i h st c hc=>by
  obtain⟨⟨old,s1⟩,⟨o4,s4,c4,d4⟩⟩:=st;simp only[List.mem_cons,List.not_mem_nil,or_false]at hc;rcases hc with z|z<;>subst z
  .exact⟨_,s1,fun v q=>by cases q⟩
  .exact⟨_,s4,fun v q=>by rw[d4]at q;cases q⟩
 keep:=fun i h h' st kp=>by
  obtain⟨⟨old,s1⟩,s4⟩:=st;exact⟨⟨old,kp e Zy _ s1⟩,s4.at fun o z=>kp it Zy o z⟩
 item:=by
  intro X hP hw hK hc i Zt s σ H E I hf st hg;subst hP hw hK;obtain⟨⟨old,s1⟩,s4⟩:=st;obtain⟨xs,x,gi,hx⟩:=hg;obtain⟨Zr,rv,p,_⟩:=zp I gi;obtain⟨ux,Ap,rx⟩:=rv.get hx
  have av:i<Zr.toArray.size:=by
   have:=(zAa.mp Ap).1;simpa using this
  have D:=draws (t:=t0) (prog:=X.prog) (w:=X.w) (A:=X.A.in1) (I.ok.hd hc) it a KO Zr.toArray;refine wpAny_pyNext_enum_itemD D s1 ⟨s4,p⟩ av Ct (by simp[Ct,KN]) fun u h1 tk hu g1 g3 g5 g6 kp=>?_
  have eu:u=ux:=by
   have hu:Zr.toArray[i]?=some u:=hu;rw[List.getElem?_toArray,Ap]at hu;exact(zAl hu).symm
  subst eu;refine⟨_,rfl,?_⟩;refine wpAny_letOwnedTupleGo_enum g1 fun h2 e1 sb=>?_
  have live:∀c,c∈[e,it]->∃o,s.heap.get? c=some o:=fun c ai=>by
   simp only[List.mem_cons,List.not_mem_nil,or_false]at ai;rcases ai with q|q<;>subst q
   .exact⟨_,s1⟩
   .exact let⟨o,h,_⟩:=s4;⟨o,h⟩
  have ne:∀c,c∈[e,it]->c≠s.heap.objs.size:=fun c ai z=>by
   obtain⟨o,ho⟩:=live c ai;exact absurd (zAy ho) (by rw[z];exact Nat.lt_irrefl _)
  have hT:H s.heap.objs.size=none:=I.hok.fresh (zA3 _)
  have kept:∀c o,c∉[e,it]->s.heap.get? c=some o->h2.get? c=some o:=fun c o ai z=>
   sb.extBut _ _ (fun q=>ai (by simp[q])) (kp c o (fun q=>ai (by simp[q])) (fun q=>ai (by simp[q])) z)
  have trk:∀c o,H c=some o->c∉[e,it]:=fun c o z ai=>by
   have:=(hf c ai).1;rw[z]at this;cases this
  have nN:h2.get? s.heap.objs.size=some {cls:=.type "tuple",data:=.seq #[.int i tk,u]}:=sb.extBut _ _ (Ne.symm (ne e Zy)) g5
  have hU:HOk X.prog X.w (upd H s.heap.objs.size (.tup [.int i,x])) h2:=fun c o z=>by
   by_cases hb:c=s.heap.objs.size
   .subst hb;rw[aa]at z;cases z;exact⟨by show 2<=sizeLine;decide,[.int i tk,u],.cons ⟨tk,rfl⟩ (.cons rx .nil),_,nN,rfl,_,rfl⟩
   .rw[ao hb]at z
    refine(I.hok c o z).stay (fun d v hd q=>kept d v ?_ q) (fun d q=>by rw[ao (aB q hT)];exact q) fun d l q=>by rw[ao (aB q hT)];exact q
    rcases hd with e'|e'
    .rw[e'];exact trk c o z
    .exact trk d _ e'
  have I2:Inv X Zt σ (upd H s.heap.objs.size (.tup [.int i,x])) {s with heap:=h2,toks:=tk+1}:=by
   refine I.step (g':=s.gens) (d':=s.drawn) (t':=tk+1) (ch:=[e,it]) (fun c ai=>?_) (fun c o _ _ hn z _=>kept c o hn z) (fun c o _ _ hn z _=>⟨o.slots,kept c o hn z⟩)
    (fun c o _ z n=>by rw[ao (zB3 (zAy z))];exact n) (fun c o hn z=>⟨o,kept c o hn z⟩) (fun c l z=>by rw[ao (aB z hT)];exact z) (fun c o l z=>by rw[ao (aB z hT)];exact z)
    (fun c l z=>⟨#[],by rw[ao (aB z hT),z];simp⟩) (fun m hm=>?_) hU I.bare
   .obtain⟨f0,f1,f2,f3,f4,f5⟩:=hf c ai;exact⟨f3,f1,f4,f5⟩
   .obtain⟨o,c9,ep,ho,r⟩:=hm;refine⟨o,c9,ep,kept _ o (fun ai=>?_) ho,r⟩;exact(hf _ ai).2.1 rfl
  refine⟨.ref s.heap.objs.size,_,I2,rfl,⟨s.heap.objs.size,hT,rfl,fun Cn qv=>⟨x,?_,rfl⟩⟩,⟨⟨u,?_⟩,?_⟩,fun c ai=>?_⟩
  .rw[Et I qv gi];exact hx
  .have:=e1;rw[show(((i+1:Nat):Int))=(i:Int)+1 by lia];exact this
  .exact g3.1.extBut sb.extBut Ct.symm
  .rw[ao (ne c ai)];exact(hf c ai).1
 done:=by
  intro X hP hw hK hc i Zt s σ H E I hf st hg;subst hP hw hK;obtain⟨⟨old,s1⟩,s4⟩:=st;obtain⟨xs,gi,hlen⟩:=hg;obtain⟨Zr,rv,p,_⟩:=zp I gi;have hl:=rv.length
  have hT:s.TypeIs (.ref e) "enumerate":=⟨_,s1,rfl⟩
  have fin:∀h',Heap.ExtBut it s.heap h'->Inv X Zt σ H {s with heap:=h'}:=fun h' kp=>by
   obtain⟨f0,f1,f2,f3,f4,f5⟩:=hf it Zy;exact I.turned (t':=s.toks) (fun b o hb z=>kp b o hb z) f0 f1 f3 f4 f5
  unfold pyNext;refine wpAny_bind (wpAny_attempt (wpAny_callSpecial?_slot (name:=Str.ofString "__next__") hT F.slot_enumerate_next (wpAny_call_entry F.slot_enumerate_next hT F.entry_enumerate_next ?_ (F.args_enumerate_next_1 _))));show wpAny _ _ (field (.ref e) 2>>=_) _ _ _;refine wpAny_bind (wpAny_field s1 rfl (x:=.ref it) rfl ?_);refine wpAny_bind (zq (I.ok.hd hc) s4 p (by simp;lia) fun h' x zS cE=>?_);obtain⟨o,ho,KP⟩:=cE;refine wpAny_bind (wpAny_isInstance (T:="StopIteration") (b:=true) ⟨o,ho,KP⟩ isSubtype_stop (wpAny_pure ⟨rfl,fin h' zS⟩))
 self:=fun _ _ _ _ _ st h=>wpAny_pyIter_enum st.1.choose_spec h
section
variable{X:Cx}
def Gv(t0:Bool)(K:Frag)(t:TA):TI:=fun σ H R=>t σ H fun vs H1=>∃a xs,vs=[.ref a]/\SQ t0 K H1 a xs/\R (Ite t0 K a) H1
theorem pi_enum(t0:Bool){es:List Expr}{k:Nat}{tp:Pos}{a:Expr}{ta:TA}{p pos:Pos}(hg:Gl X "enumerate")(hm:X.mg "enumerate"=none)(ha:PA X [a] ta)(hs:starEach [a] X.env=[(false,eval a X.env)]:=by rfl):
  PI X (.Tuple es k tp) (.Call (.Name "enumerate" p) [a] [] pos) (Gv t0 X.K ta):=by
 intro Zt s σ H R I h;refine Call_ (iQ I hg hm boot_enumerate (PyProof.Rows.callWith_type1 (thn (ha pos Zt s σ H _ I h) fun us s1 ⟨vs,H1,I1,r1,q1⟩=>?_) hs rfl));obtain⟨x,xs,e,hx,q⟩:=q1;subst e;obtain⟨u,rfl,ru⟩:=vals1 r1;cases ru;obtain⟨Zr,_,p1,_⟩:=zp I1 hx;refine nC p1 fun h' z1 z4 kp=>?_;refine wpAny_pyIter_enum z1 ?_;have lx:x<s1.heap.objs.size:=by obtain⟨_,e,_⟩:=p1;exact zAy e
 refine⟨_,_,_,_,H1,rfl,I1.kept (t':=s1.toks) kp,xu (e:=s1.heap.objs.size+1) (it:=s1.heap.objs.size) (a:=x) (Nat.succ_ne_self _) (Nat.ne_of_gt (Nat.lt_succ_of_lt lx)) (zB3 lx),⟨⟨_,z1⟩,z4⟩,fun c hc=>?_,q⟩
 have hle:s1.heap.objs.size<=c:=by
  simp only[List.mem_cons,List.not_mem_nil,or_false]at hc;rcases hc with q|q<;>subst q
  .exact Nat.le_add_right _ 1
  .exact zA3 _
 exact I1.fpOk hle (I1.hok.fresh hle)
end
theorem for_enum(t0:Bool){K:Frag}{a:Addr}{xs:List V}{g:TG}{tb:TS}{D:Ends}{σ:St}{H:Hp}(Pv:Nat->St->Hp->Prop)(h0:Pv 0 σ H)(hl:∀i σ H,i<=xs.length->Pv i σ H->SQ t0 K H a xs)
  (hs:∀i x σ H T,xs[i]?=some x->Pv i σ H->H T=none->g (.ref T) σ (upd H T (.tup [.int i,x])) fun aT H2=>tb {D with nx:=Pv (i+1),ct:=Pv (i+1),bk:=D.nx} aT H2) (hd:∀σ H,Pv xs.length σ H->D.nx σ H):
  ∃W:Nat->Nat->St->Hp->Prop,(∃m,W 0 m σ H)/\∀i m σ H,W i m σ H->
   ((Ite t0 K a).stop i H/\D.nx σ H)\/((Ite t0 K a).go i H/\∃N:St->Hp->Prop,(∀ae H',N ae H'->∃m',m'<m/\W (i+1) m' ae H')/\∀x H',(Ite t0 K a).yld i H x H'->g x σ H' fun aT H2=>tb {D with nx:=N,ct:=N,bk:=D.nx} aT H2):=by
 refine⟨fun i m σ H=>m=xs.length-i/\i<=xs.length/\Pv i σ H,⟨xs.length,by simp,Nat.zero_le _,h0⟩,?_⟩;rintro i m σ H ⟨rfl,hi,p⟩;have q:=hl i σ H hi p;by_cases av:i<xs.length
 .refine .inr ⟨⟨xs,xs[i],q,by simp[av]⟩,Pv (i+1),fun ae H' p'=>⟨xs.length-(i+1),Zz,rfl,av,p'⟩,fun x H' y=>?_⟩;obtain⟨T,nT,rfl,y⟩:=y;obtain⟨x,ex,rfl⟩:=y xs q;exact hs i x σ H T ex p nT
 .have e:i=xs.length:=Zz
  subst e;exact .inl ⟨⟨xs,q,zA3 _⟩,hd σ H p⟩
end L2.ZT
namespace L2
open PySem PySem.Spec PyProof.Rows
section
variable{X:Cx}
theorem nF(hc:X.calm=true):gF X (.builtin "min") (fun xs H Q=>∃(p:Addr) (ns:List Int),xs=[.ref p]/\SqL X.K H p (ns.map V.int)/\ns≠[]/\∀M,M∈ns->(∀a∈ns,M<=a)->Q (.int M) H):=by
 intro Zt s σ H xs us Q I r h;obtain⟨p,ns,rfl,hq,tP,q⟩:=h;obtain⟨u,rfl,ru⟩:=vals1 r;cases ru;obtain⟨Zr,rv,pl,hz⟩:=I.list hq;have hi:IntsAre Zr ns:=intsAre_of rv;obtain⟨zs,ez⟩:=(hi.allInts:AllInts Zr.toArray).items;have en:numsOf Zr=ns:=hi.numsOf;have hl:s.heap.IsList p (intItems zs):=ez▸pl.isList
 have gp:0<zs.size:=by
  have e1:(intItems zs).size=Zr.length:=by rw[<-ez,zA8]
  have e2:=rv.length;rw[zA1]at e2;have e3:0<ns.length:=List.length_pos_iff.mpr tP;simp only[intItems,Array.size_map]at e1;lia
 have hn:numsOf (intItems zs).toList=ns:=by rw[<-ez];exact en
 refine min_intList (I.ok.hd hc) hl gp fun v h' tk hv hk=>?_;obtain⟨t,rfl⟩:=intItems_at hv;obtain⟨h1,h2⟩:=argBest_lt (numAt zs) (zs.size-1);rw[nums_intItems]at hn;refine⟨.int _,H,I.kept (t':=tk) hk,⟨t,rfl⟩,q _ ?_ fun a ha=>?_⟩
 .rw[<-hn,numAt_eq];exact getD_mem (by rw[zA1,zA9];lia)
 .rw[<-hn]at ha;obtain⟨j,hj,rfl⟩:=mem_getD ha;rw[zA1,zA9]at hj;rw[<-numAt_eq];exact h2 j Zz
inductive RCatT0I(K:Frag)(x:V)(y:V)(H:Hp)(Q:VK):Prop
 |mk:∀a b ys,(x=.ref a)->(y=.ref b)->(SqT K H a [])->(SqT K H b ys)->(Q (.ref b) H)->RCatT0I K x y H Q
def Eu(K:Frag):R2:=fun x y H Q=>RCatT0I K x y H Q
open Builtin in
theorem zr(l b:Addr)(Zr:Array Value)(n m:Nat)(dd qr:Option Addr)(sl gz:Array (Option Value)):
  Meets (Builtin.«tuple.__add__» ⟨[.ref l,.ref b],[]⟩) (fun _ R s=>s.heap.get? l=some {cls:=.type "tuple",dict:=dd,data:=.seq #[] n,slots:=sl}/\s.heap.get? b=some {cls:=.type "tuple",dict:=qr,data:=.seq Zr m,slots:=gz}/\R (.ok (.ret (.ref b))) s):=by
 refine .of_wp fun prog w A R s h=>?_;obtain⟨hp,g,d,tk,os⟩:=s;obtain⟨hl,hb,h⟩:=h;have f2:=PySem.AutoSeq1.sub_tuple_tuple
 wp_walk
 exact⟨_,rfl,h⟩
theorem zu:OpR X (binaryOp .Add) (Eu X.K):=by
 intro Zt s σ H x y v u Q I rx ry h;obtain⟨a,b,ys,rfl,rfl,ha,hb,q⟩:=h;cases rx;cases ry;obtain⟨Zr,r1,p1,_⟩:=I.tuple ha;obtain⟨bq,r2,p2,_⟩:=I.tuple hb;have e:Zr=[]:=r1.zero;subst e;obtain⟨⟨cls,dd,data,sl⟩,ho,hc,n,hd⟩:=id p1;obtain⟨⟨BF,qr,data2,gz⟩,nr,kf,n2,hd2⟩:=id p2;simp only at hc hd kf hd2;subst hc hd kf hd2;exact concat_meets ⟨_,ho,rfl⟩ ⟨_,nr,rfl⟩ noFill_tuple_add seq_tuple_add PySem.F.slot_tuple_add PySem.F.entry_tuple_add (PySem.F.args_tuple_add_2 _ _) (zr a b bq.toArray n n2 dd qr sl gz) ⟨ho,nr,.ref b,H,I,rfl,q⟩
theorem zx:OpR X (binaryOp .Add) (fun x y H Q=>∃a b xs ys,x=.ref a/\y=.ref b/\SqT X.K H a xs/\SqT X.K H b ys/\ys≠[]/\xs.length+ys.length<=sizeLine/\(xs=[]->Q (.ref b) H)/\(xs≠[]->∀p,H p=none->Q (.ref p) (upd H p (.tup (xs++ys))))):=by
 intro Zt s σ H x y v u Q I rx ry h;obtain⟨a,b,xs,ys,rfl,rfl,ha,hb,hy,hz,q1,q2⟩:=h;by_cases hx:xs=[]
 .subst hx;exact zu Zt s σ H _ _ v u Q I rx ry ⟨a,b,ys,rfl,rfl,ha,hb,q1 rfl⟩
 .exact Bj Zt s σ H _ _ v u Q I rx ry ⟨a,b,xs,ys,rfl,rfl,ha,hb,hx,hz,fun z=>absurd z hy,fun _=>q2 hx⟩
end
section
variable{prog:Program}{w:World}{A:Around}{E:Value->Shared->Prop}{s:Shared}
end
section
variable{X:Cx}
end
section
variable{prog:Program}{w:World}{A:Around}{E:Value->Shared->Prop}{s:Shared}
end
section
variable{X:Cx}{e:Expr}{te:TE}{pos p2 p3 p4:Pos}{j:Nat}
end
open PySem PySem.Spec PyProof.Rows PySem.Calls
structure Fly(h:Heap)(e:Addr)(C:XC)(tb:Value):Prop where
 obj:∃oe vs,h.get? e=some oe/\oe.cls=.ref C.1/\oe.data=.fields vs/\vs[1]?=some tb/\oe.dict=C.2
 tr:tb=.none\/∃T oT ts,tb=.ref T/\T≠e/\h.get? T=some oT/\oT.data=.fields ts/\ts[3]?=some .none
theorem oE(f:Array Value->Array Value)(o:Obj):(Obj.mapFields f o).dict=o.dict:=by
 unfold Obj.mapFields;split<;>rfl
section
variable{M:Model}{A:Around}{E:Value->Shared->Prop}{s:Shared}
theorem sZ{base:Heap}{env:Env}{outer:List Env}{L e:Addr}{C:XC}{oe:Obj}{vs:Array Value}{head:Value}{ku:Bool}{Q:Unit->Shared->Prop}
  (gI:A.frames=some (env::outer)) (hl:s.heap.FunFrames base (env::outer)) (hf:env.frame=some L) (he:s.heap.get? e=some oe) (hd:oe.data=.fields vs) (hz:1<vs.size) (Au:oe.cls=.ref C.1) (hV:oe.dict=C.2)
  (h:∀h' T,s.heap.get? T=none->Fly h' e C (.ref T)->(∀b o,s.heap.get? b=some o->b≠e->b∉frs (env::outer)->h'.get? b=some o)->(∀b o,s.heap.get? b=some o->b≠e->∃sl,h'.get? b=some {o with slots:=sl})->Q () {s with heap:=h'}):
  wpAny M A (do let a <-frameOf env;let pl <-entryPlaceOf L ku;let b <-EntryCells.newEntry head a .none (rawInt L) .none pl;setField (.ref e) 1 b) (fun _ s'=>wpAny M A (setFlight (.ref e) none) Q E s') E s:=by
 have ne:e∉frs (env::outer):=fun hm=>by
  obtain⟨_,o,ho,hn⟩:=hl.mem hm;rw[he]at ho;cases ho;exact hn vs hd
 refine zAt (wpAny_frameOf_fun gI hl hf fun h1 qA=>?_);have e1:h1.get? e=some oe:=(qA.2.1 e ne).trans he;refine zAt (wpAny_entryPlaceOf fun pl aS=>?_);unfold EntryCells.newEntry newFields;refine zAt (wpAny_newObj_type ?_ (aS.sizeOk5 _ _ _ _ _))
 obtain⟨fs,IT⟩:∃fs,fs=([head,.ref L,.none,rawInt L,.none]++(if pl.isEmpty then List.replicate 6 Value.none else pl)).toArray:=⟨_,rfl⟩
 have fz:3<fs.size:=by
  rw[IT,zA8,zA2];show 3<5+_;lia
 rw[<-IT]
 obtain⟨h2,AB⟩:∃h2,h2=h1.push {cls:=.type "traceback",dict:=none,data:=.fields fs}:=⟨_,rfl⟩
 have nT:h1.objs.size≠e:=Nat.ne_of_gt (zAy e1);have t2:h2.get? h1.objs.size=some {cls:=.type "traceback",dict:=none,data:=.fields fs}:=by rw[AB];exact zB1 h1 rfl
 have k2:∀b o,h1.get? b=some o->h2.get? b=some o:=fun b o z=>by rw[AB];exact zAu _ z
 refine wpAny_setField (s:={s with heap:=h1.push {cls:=.type "traceback",dict:=none,data:=.fields fs}}) (by rw[<-AB];exact k2 _ _ e1) hd hz ?_;rw[<-AB]
 obtain⟨h3,IU⟩:∃h3,h3=h2.update e (Obj.mapFields (·.setIfInBounds 1 (Value.ref h1.objs.size))):=⟨_,rfl⟩
 have d3:=Obj.data_mapFields hd (·.setIfInBounds 1 (Value.ref h1.objs.size));have g3:=Heap.get?_update_self (Obj.mapFields (·.setIfInBounds 1 (Value.ref h1.objs.size))) (k2 _ _ e1) (Obj.isFreed_of_fields d3)
 have o3:∀b,b≠e->h3.get? b=h2.get? b:=fun b hb=>by rw[IU];exact Heap.get?_update_other _ _ (Ne.symm hb)
 show wpAny M A (setFlight (.ref e) none) Q E {s with heap:=h2.update e (Obj.mapFields (·.setIfInBounds 1 (Value.ref h1.objs.size)))};rw[<-IU]at g3⊢;unfold setFlight;have v1:(vs.setIfInBounds 1 (Value.ref h1.objs.size))[1]?=some (.ref h1.objs.size):=by simp[hz]
 refine wpAny_bind (wpAny_field (s:={s with heap:=h3}) g3 d3 v1 ?_);rw[if_pos (show(Value.ref h1.objs.size != Value.none)=true by simp)];have t3:h3.get? h1.objs.size=some {cls:=.type "traceback",dict:=none,data:=.fields fs}:=(o3 _ nT).trans t2;refine wpAny_setField (s:={s with heap:=h3}) t3 rfl fz ?_
 have kk:∀b o,b≠e->h1.get? b=some o->(h3.update h1.objs.size (Obj.mapFields (·.setIfInBounds 3 ((none:Option Addr).elim Value.none fun f=>rawInt f)))).get? b=some o:=fun b o hb z=>by
  rw[Heap.get?_update_other _ _ (Nat.ne_of_gt (zAy z)),o3 b hb];exact k2 b o z
 refine h _ h1.objs.size ?_ ⟨⟨_,_,?_,(Obj.cls_mapFields _ _).trans Au,d3,v1,(oE _ _).trans hV⟩,.inr ⟨h1.objs.size,_,_,rfl,nT,Heap.get?_update_self _ t3 (Obj.isFreed_of_fields (Obj.data_mapFields rfl _)),Obj.data_mapFields rfl _,by simp[fz]⟩⟩ (fun b o z hb hn=>?_) fun b o z hb=>?_
 .cases z:s.heap.get? h1.objs.size with
  |none=>rfl
  |some o=>
   obtain⟨sl,q⟩:=qA.2.2 _ o z;exact absurd (zAy q) (Nat.lt_irrefl _)
 .rw[Heap.get?_update_other _ _ nT];exact g3
 .exact kk b o hb ((qA.2.1 b hn).trans z)
 .obtain⟨sl,q⟩:=qA.2.2 b o z;exact⟨sl,kk b _ hb q⟩
theorem vQ{base:Heap}{env:Env}{outer:List Env}{L e:Addr}{C:XC}{tb:Value}{Q:Unit->Shared->Prop}
  (gI:A.frames=some (env::outer)) (hl:s.heap.FunFrames base (env::outer)) (hf:env.frame=some L) (fl:Fly s.heap e C tb)
  (h:∀h' T,s.heap.get? T=none->Fly h' e C (.ref T)->(∀b o,s.heap.get? b=some o->b≠e->tb≠.ref b->b∉frs (env::outer)->h'.get? b=some o)->(∀b o,s.heap.get? b=some o->b≠e->tb≠.ref b->∃sl,h'.get? b=some {o with slots:=sl})->(∀b o,s.heap.get? b=some o->∃o',h'.get? b=some o')->Q () {s with heap:=h'}):
  wpAny M A (noteFrame (.ref e) env) (fun _ s'=>wpAny M A (setFlight (.ref e) none) Q E s') E s:=by
 obtain⟨⟨oe,vs,he,Au,hd,h1,hV⟩,tr⟩:=fl;have hz:=(Array.getElem?_eq_some_iff.mp h1).1;unfold noteFrame;simp only[hf];refine wpAny_bind (wpAny_field he hd h1 ?_);rcases tr with rfl|⟨T0,oT,ts,rfl,nT,hT,i8,h3⟩
 .rw[zAw Zx];refine sZ gI hl hf he hd hz Au hV fun h' T nT eJ k1 k2=>h h' T nT eJ (fun b o z hb _ hn=>k1 b o z hb hn) (fun b o z hb _=>k2 b o z hb) fun b o z=>?_;by_cases hb:b=e
  .obtain⟨CA,_,q,_⟩:=eJ.obj;exact⟨CA,hb▸q⟩
  .obtain⟨sl,q⟩:=k2 b o z hb;exact⟨_,q⟩
 .rw[if_pos (show(Value.ref T0 != Value.none)=true by simp)];refine wpAny_bind (wpAny_field hT i8 h3 ?_);rw[if_neg (show¬((Value.none==rawInt L)=true) by simp[rawInt])];refine wpAny_bind (wpAny_setField hT i8 (Array.getElem?_eq_some_iff.mp h3).1 ?_)
  obtain⟨g,eg⟩:∃g,g=s.heap.update T0 (Obj.mapFields (·.setIfInBounds 3 Value.none)):=⟨_,rfl⟩
  have og:∀b,b≠T0->g.get? b=s.heap.get? b:=fun b hb=>by rw[eg];exact Heap.get?_update_other _ _ (Ne.symm hb)
  have tg:∃o,g.get? T0=some o:=⟨_,by rw[eg];exact Heap.get?_update_self _ hT (Obj.isFreed_of_fields (Obj.data_mapFields i8 _))⟩
  have iX:g.FunFrames base (env::outer):=hl.of_keeps fun b o z hn=>⟨o,(og b fun q=>by rw[q,hT]at z;cases z;exact hn ts i8).trans z,rfl⟩
  show wpAny M A _ _ E {s with heap:=s.heap.update T0 (Obj.mapFields (·.setIfInBounds 3 Value.none))};rw[<-eg];refine sZ (s:={s with heap:=g}) gI iX hf ((og e (Ne.symm nT)).trans he) hd hz Au hV fun h' T tS eJ k1 k2=>h h' T ?_ eJ (fun b o z hb ht hn=>k1 b o ((og b fun q=>ht (by rw[q])).trans z) hb hn) (fun b o z hb ht=>k2 b o ((og b fun q=>ht (by rw[q])).trans z) hb) fun b o z=>?_
  .have tS:g.get? T=none:=tS;by_cases q:T=T0
   .obtain⟨o,e⟩:=tg;rw[q,e]at tS;cases tS
   .rw[<-og T q];exact tS
  .by_cases hb:b=e
   .obtain⟨CA,_,q,_⟩:=eJ.obj;exact⟨CA,hb▸q⟩
   .obtain⟨o2,e2⟩:∃o2,g.get? b=some o2:=by
     by_cases q:b=T0
     .rw[q];exact tg
     .exact⟨o,(og b q).trans z⟩
    obtain⟨sl,q⟩:=k2 b o2 e2 hb;exact⟨_,q⟩
theorem tu{base:Heap}{env:Env}{outer:List Env}{L e:Addr}{C:XC}{tb:Value}{Q:Unit->Shared->Prop}
  (gI:A.frames=some (env::outer)) (hl:s.heap.FunFrames base (env::outer)) (hf:env.frame=some L) (fl:Fly s.heap e C tb)
  (h:∀h' T,s.heap.get? T=none->Fly h' e C (.ref T)->(∀b o,s.heap.get? b=some o->b≠e->tb≠.ref b->b∉frs (env::outer)->h'.get? b=some o)->(∀b o,s.heap.get? b=some o->b≠e->tb≠.ref b->∃sl,h'.get? b=some {o with slots:=sl})->(∀b o,s.heap.get? b=some o->∃o',h'.get? b=some o')->Q () {s with heap:=h'}):
  wpAny M A (leaving env (.ref e)) Q E s:=by
 unfold leaving;exact zAt (vQ gI hl hf fl h)
end
theorem ObjOk.there{P:Program}{w:World}{H:Hp}{h:Heap}{a:Addr}{o:HO}(x:ObjOk P w H h a o):∃ob,h.get? a=some ob:=by
 cases o with
 |lst xs=>obtain⟨_,_,_,_,e⟩:=x;exact⟨_,e⟩
 |tup xs=>obtain⟨_,_,_,ob,e,_⟩:=x;exact⟨_,e⟩
 |dK Zs=>obtain⟨_,_,_,_,o,_,_,e,_⟩:=x;exact⟨_,e⟩
 |dT Zs=>obtain⟨_,_,_,_,o,_,_,e,_⟩:=x;exact⟨_,e⟩
 |set S n=>obtain⟨o,_,_,_,e,_⟩:=x;exact⟨_,e⟩
 |ins C dx fs=>obtain⟨_,_,_,e,_⟩:=x;exact⟨_,e⟩
 |own y=>exact x
 |xd fs=>obtain⟨_,⟨_,_,_,e,_⟩,_⟩:=x;exact⟨_,e⟩
 |rng lo hi=>obtain⟨_,_,_,e⟩:=x;exact⟨_,e⟩
 |frz ob u=>obtain⟨e,_⟩:=x;exact⟨_,e⟩
 |tbl ps=>exact⟨_,(show h.get? a=some _ from x)⟩
 |met f y=>exact⟨_,(show h.get? a=some _ from x)⟩
 |ext φ=>obtain⟨_,e,_⟩:=x;exact e
theorem HOk.no{P:Program}{w:World}{H:Hp}{h:Heap}{a:Addr}(x:HOk P w H h)(e:h.get? a=none):H a=none:=by
 cases q:H a with
 |none=>rfl
 |some o=>
  obtain⟨ob,z⟩:=(x a o q).there;rw[e]at z;cases z
def nG(X:Cx)(EX:Addr->XC->Hp->Prop):Prop:=∀(Zt:List (Addr×Obj)) (σ:St) (H:Hp) (s:Shared) (a:Addr) (C:XC) (tb:Value),Inv X Zt σ H s->Fly s.heap a C tb->X.s₀.heap.get? a=none->H a=none->
 (∀T,tb=.ref T->X.s₀.heap.get? T=none/\H T=none)->(∀p∈X.pn++Zt,p.1≠a/\tb≠.ref p.1)->EX a C H->X.xe (.ref a) s
def CX1(P:Program)(w:World):CXT:=fun outer H s E e s'=>∃a C H' T,e=.ref a/\s'.os=s.os/\AllBare s'.gens/\Un (frs outer) [] H H' s.heap s'.heap/\HOk P w H' s'.heap/\s.heap.get? a=none/\s.heap.get? T=none/\H' a=none/\H' T=none/\Fly s'.heap a C (.ref T)/\E (.ref a) (some C) H'
section
variable{X:Cx}
theorem Inv.was{Zt:List (Addr×Obj)}{σ:St}{H:Hp}{s:Shared}{a:Addr}(I:Inv X Zt σ H s)(hx:X.ex=[])(e:s.heap.get? a=none):X.s₀.heap.get? a=none:=by
 cases q:X.s₀.heap.get? a with
 |none=>rfl
 |some o=>
  obtain⟨o',z⟩:=I.base.there a o q (by rw[hx];simp);rw[e]at z;cases z
theorem zz{E:XK}(W:nG X fun a C H=>E (.ref a) (some C) H)(hx:X.ex=[]):gO (CX1 X.prog X.w) X E:=by
 intro Zt σ H s e s' I h;obtain⟨a,C,H',T,rfl,os,bare,un,hok,na,nT,fa,fT,fl,q⟩:=h;have J:Inv X Zt σ H' s':=I.call' os un hok bare fun b z=>absurd z Zy;refine W Zt σ H' s' a C (.ref T) J fl (I.was hx na) fa (fun T' eT=>by cases eT;exact⟨I.was hx nT,fT⟩) (fun p hp=>?_) q;obtain⟨e,_⟩:=I.pin p hp;exact⟨fun z=>(by rw[z,na]at e;cases e),fun z=>(by cases z;rw[nT]at e;cases e)⟩
def Ex(C:Addr)(EX:Addr->XC->Hp->Prop)(t:TA):TS:=fun _ σ H=>t σ H fun vs H1=>vs.length<=sizeLine/\∀a,H1 a=none->EX a (C,none) H1
theorem jl{x:Str}{C:Addr}{B newId aI:String}{bm:List Value}{EX:Addr->XC->Hp->Prop}{np ar pos:Pos}{e:Expr}{es:List Expr}{t:TA}(O:OwnCls x C bm newId X.mg X.base)(FB:ExcBaseFacts B newId aI bm)(hc:X.calm=true)(hx:X.ex=[])(hg:Gl X x)(ha:PA X (e::es) t)(W:nG X EX)
  (bb:(x==("__debug__":Str))=false:=by decide) (he:starEach (e::es) X.env=(false,eval e X.env)::starEach es X.env:=by rfl) (aS:(backTo ar (starEach es X.env)).any (·.1)=false:=by rfl):
  PS X (.Raise (some (.Call (.Name x np) (e::es) [] ar)) none pos) (Ex C EX t):=by
 intro Zt s σ H D I h;obtain⟨tl,N,nm,q,bs,hdct,sn,sub,ab,col,dd,k0,k1,k2,k3,k5,mN,hC,hN,nV,T⟩:=O.obj
 refine wpAny_Raise_call_subT (C:=C) (nm:=nm) (q:=q) (N:=N) (bs:=bs) (bm:=tl) (hdct:=hdct) (sn:=sn) (sub:=sub) (ab:=ab) (col:=col) (dd:=dd) (k0:=k0) (k1:=k1) (k2:=k2) (k3:=k3) (k5:=k5)
  FB (mN:=mN) (T.hasType FB.hasBase) (I.ok.hd hc) (by rw[he];show(false||(backTo ar (starEach es X.env)).any (·.1))=false;rw[aS];rfl) nV ?_
 refine dY I hg O.bound ⟨rfl,?_⟩ bb;have h2:=ha ar Zt s σ H _ I h;rw[he]at h2⊢;refine Calls.evalArgs_plain (wpAny_mono h2 (fun us s2 z=>?_) fun _ _ y=>y);obtain⟨vs,H1,I1,r1,hl,q1⟩:=z;have hlen:=r1.length;refine⟨rfl,by show us.length<=_;lia,I1.bk _ _ hC,hN.keeps I1.bk,T.keeps I1.bk,fun h' a me=>?_⟩;obtain⟨tt,e1,e2,e3⟩:=me.there;have J:Inv X Zt σ H1 {s2 with heap:=h'}:=I1.kept (t':=s2.toks) me.keeps
 have fl:Fly h' a (C,none) .none:=⟨⟨_,_,e1,rfl,rfl,rfl,rfl⟩,.inl rfl⟩
 refine W Zt σ H1 _ a (C,none) .none J fl (I1.was hx me.new) (I1.hok.no me.new) (fun T z=>by cases z) (fun p hp=>?_) (q1 a (I1.hok.no me.new));obtain⟨e,_⟩:=I1.pin p hp;exact⟨fun z=>(by rw[z,me.new]at e;cases e),fun z=>(by cases z)⟩
end
theorem d8{P:Program}{w:World}{K:Frag}{mg:Str->Option Value}{base:Heap}{N:List Str}{qual:Str}{scope:Scope}{f:Addr}{cd:Value}{A:Around}{outer:List Env}{s:Shared}{H:Hp}{E:XK} :
  nG (jH (CX1 P w) P w K mg base N qual scope f cd A outer s H E) fun a C H'=>E (.ref a) (some C) H':=by
 intro Zt σ H' s' a C tb I fl na fa ft _ q;show wpAny (model P w) (A.deeper (envOfC qual scope s.heap.objs.size f cd)) (leaving (envOfC qual scope s.heap.objs.size f cd) (.ref a)) (fun _ de=>CX1 P w outer H s E (.ref a) de) (fun e' de=>CX1 P w outer H s E e' de) s';have a9:s'.heap.FunFrames base (envOfC qual scope s.heap.objs.size f cd::outer):=I.stack;have gI:(A.deeper (envOfC qual scope s.heap.objs.size f cd)).frames=some (envOfC qual scope s.heap.objs.size f cd::outer):=I.ok.frames
 have nX:(envOfC qual scope s.heap.objs.size f cd).frame=some s.heap.objs.size:=by
  rcases I.ok.stk with z|z
  .exact absurd (congrArg List.length (show(envOfC qual scope s.heap.objs.size f cd::outer)=outer from z)) Zy
  .exact z.2
 have ub:Un (frs outer) [] H H' s.heap s'.heap:=I.base;have na:s.heap.get? a=none:=na;have ft:∀T,tb=.ref T->s.heap.get? T=none/\H' T=none:=ft;refine tu gI a9 nX fl fun h' T nT eJ k1 k2 k3=>?_
 have apart:∀b o,s.heap.get? b=some o->b≠a/\tb≠.ref b:=fun b o e=>⟨fun z=>(by rw[z,na]at e;cases e),fun z=>(by rw[(ft b z).1]at e;cases e)⟩
 have CB:∀b o,s.heap.get? b=some o->b∉frs outer->b∉frs (envOfC qual scope s.heap.objs.size f cd::outer):=fun b o e hn hm=>by
  unfold frs at hm;rw[List.filterMap_cons,nX]at hm;rcases zAo.mp hm with z|z
  .exact absurd (zAy e) (by rw[z];exact Nat.lt_irrefl _)
  .exact hn z
 refine⟨a,C,H',T,rfl,I.os,I.bare,⟨fun b o e n hb _=>?_,fun b o e n hb _=>?_,ub.free,fun b o e hx=>?_,ub.tups,ub.frzs,ub.tbls⟩,fun c o e=>?_,na,?_,fa,I.hok.no nT,eJ,q⟩
 .exact k1 b o (ub.keep b o e n hb Zy) (apart b o e).1 (apart b o e).2 (CB b o e hb)
 .obtain⟨sl,e1⟩:=ub.slot b o e n hb Zy;obtain⟨gz,e2⟩:=k2 b _ e1 (apart b o e).1 (apart b o e).2;exact⟨gz,e2⟩
 .obtain⟨o',e1⟩:=ub.there b o e hx;exact k3 b o' e1
 .refine(I.hok c o e).stay (fun d v hd z=>?_) (fun _ z=>z) fun _ _ z=>z
  have tT:∃o',H' d=some o':=by
   rcases hd with z|z
   .exact⟨o,by rw[z];exact e⟩
   .exact⟨_,z⟩
  obtain⟨o',eo⟩:=tT;refine k1 d v z (fun y=>(by rw[y,fa]at eo;cases eo)) (fun y=>(by rw[(ft d y).2]at eo;cases eo)) fun hm=>?_;rw[I.stkFree d hm]at eo;cases eo
 .exact I.was rfl nT
theorem Fun.okX{P:Program}{w:World}{K:Frag}{mg:Str->Option Value}{base:Heap}{x qual:Str}{st:Stmt}{f:Addr}{fd:FuncData}{N ps:List Str}{k:Nat}{sp:Sp}(F:Fun K x qual st f fd)(S:FnScope N ps (az st))(len:∀vs H Q E,sp vs H Q E->vs.length=ps.length)
  (aE:∀(af:Value) (A:Around) (outer:List Env) (s:Shared) (H:Hp) (vs:List V) (Q:VK) (E:XK),Room k (A.deeper (envOfC qual (az st) s.heap.objs.size f af))->sp vs H Q E->
   ∃t,PSs (jH (CX1 P w) P w K mg base N qual (az st) f af A outer s H E) (cH st) t/\t {nx:=fun _ H'=>Q .non H',rt:=Q} (start N vs) H):FnOk P w K mg base (CX1 P w) (k+1) f fd ps sp:=by
 obtain⟨oc,od,kV,doc,pm,an,af,ct,c6,rfl,lk,bg⟩:=F.ex;exact yN lk bg S len fun A outer s H vs Q E hr eI=>aE af A outer s H vs Q E hr eI
theorem ql{K:Frag}{h:Heap}{mg:Str->Option Value}{x:Str}{C:Addr}{cw:List Value}{newId:String}(X:K.In h)(hm:mg x=some (.ref C))(q:PySem.W.excIn K C cw newId=true):OwnCls x C cw newId mg h:=by
 refine⟨hm,?_⟩;unfold PySem.W.excIn at q;split at q
 .rename_i dd cd sl ho
  split at q
  .rename_i C' bm k0 k1 k2 k3 n k5 hm' hs
   simp only[Bool.and_eq_true,beq_iff_eq,Bool.not_eq_true']at q;obtain⟨⟨⟨⟨⟨rfl,rfl⟩,hZ⟩,ht⟩,hok⟩,nV⟩:=q;obtain⟨nm,bs,mro,ns,qn,hd,sn,sub,ab,col,del⟩:=cd;dsimp only at hm' hZ hok nV;subst hm' hZ;obtain⟨l⟩:=sl;have hs:l=_:=hs;subst hs;exact⟨bm,ns,nm,qn,bs,hd,sn,sub,ab,col,dd,k0,k1,k2,k3,k5,_,X _ _ ho,.of_isNs (PySem.W.isNs_of_in X hok),PySem.W.nsMap_none_of_in X hok nV,PySem.W.tail_of_in X ht⟩
  .cases q
 .cases q
section
variable{X:Cx}{Zt:List (Addr×Obj)}{σ:St}{H:Hp}{s:Shared}{h':Heap}
theorem Fly.ne{h:Heap}{a:Addr}{C:XC}{tb:Value}(fl:Fly h a C tb){b:Addr}{o:Obj}(e:h.get? b=some o)(hd:∀vs,o.data≠.fields vs):b≠a/\tb≠.ref b:=by
 obtain⟨⟨oe,vs,he,_,hv,_,_⟩,tr⟩:=fl;refine⟨fun z=>?_,fun z=>?_⟩
 .rw[z,he]at e;cases e;exact hd vs hv
 .rcases tr with q|⟨T,oT,ts,q,_,hT,i8,_⟩
  .rw[q]at z;cases z
  .rw[q]at z;cases z;rw[hT]at e;cases e;exact hd ts i8
theorem Inv.left{a:Addr}{C:XC}{tb:Value}{t':Nat}(I:Inv X Zt σ H s)(hx:X.ex=[])(fl:Fly s.heap a C tb)(na:X.s₀.heap.get? a=none)(fa:H a=none)(ft:∀T,tb=.ref T->X.s₀.heap.get? T=none/\H T=none)(hp:∀p∈X.pn++Zt,p.1≠a/\tb≠.ref p.1)
  (k1:∀b o,s.heap.get? b=some o->b≠a->tb≠.ref b->b∉frs X.stack->h'.get? b=some o) (k2:∀b o,s.heap.get? b=some o->b≠a->tb≠.ref b->∃sl,h'.get? b=some {o with slots:=sl}) (k3:∀b o,s.heap.get? b=some o->∃o',h'.get? b=some o'):Inv X Zt σ H {s with heap:=h',toks:=t'}:=by
 have tr:∀b u,H b=some u->b≠a/\tb≠.ref b/\b∉frs X.stack:=fun b u e=>⟨fun z=>(by rw[z,fa]at e;cases e),fun z=>(by rw[(ft b z).2]at e;cases e),fun z=>(by rw[I.stkFree b z]at e;cases e)⟩
 have old:∀b o,X.s₀.heap.get? b=some o->b≠a/\tb≠.ref b:=fun b o e=>⟨fun z=>(by rw[z,na]at e;cases e),fun z=>(by rw[(ft b z).1]at e;cases e)⟩
 have zd:∀b o,X.s₀.heap.get? b=some o->b≠X.env.locals:=fun b o e=>zB3 (zB2 (zAy e) I.ok.above);have IV:∀b,b≠X.env.locals->b∉X.fs->b∉frs X.stack:=fun b h1 h2 z=>(zAo.mp (I.stkSub b z)).elim h1 h2
 have cellK:∀x c,X.env.cells.lookup x=some c->∀v,s.heap.IsCell c v->h'.IsCell c v:=fun x c e v ⟨o,ho,hd⟩=>by
  obtain⟨n1,n2⟩:=fl.ne ho fun vs q=>by rw[hd]at q;cases q
  obtain⟨sl,q⟩:=k2 c o ho n1 n2;exact⟨_,q,hd⟩
 refine⟨I.ok,I.os,I.bare,⟨fun b o e n hb cE=>?_,fun b o e n hb cE=>?_,I.base.free,fun b o e cE=>?_,I.base.tups,I.base.frzs,I.base.tbls⟩,?_,fun x c e=>?_,I.free,I.freeC,fun p eM=>?_,fun c o e=>?_,I.len⟩
 .exact k1 b o (I.base.keep b o e n hb cE) (old b o e).1 (old b o e).2 (IV b (zd b o e) hb)
 .obtain⟨sl,e1⟩:=I.base.slot b o e n hb cE;obtain⟨gz,e2⟩:=k2 b _ e1 (old b o e).1 (old b o e).2;exact⟨gz,e2⟩
 .obtain⟨o',e1⟩:=I.base.there b o e cE;exact k3 b o' e1
 .obtain⟨m,⟨o,es,ep,ho,hd,r⟩,hl⟩:=I.loc
  obtain⟨n1,n2⟩:=fl.ne ho fun vs q=>by rw[hd]at q;cases q
  obtain⟨sl,q⟩:=k2 _ o ho n1 n2;refine⟨m,⟨_,es,ep,q,hd,r⟩,fun i x v e1 e2 e3=>?_⟩;obtain⟨u,rr,l⟩:=hl i x v e1 e2 e3;refine⟨u,rr,?_⟩;rcases l with l|⟨k,c,e,z⟩
  .exact .inl l
  .exact .inr ⟨k,c,e,cellK x c e _ z⟩
 .obtain⟨v,z⟩:=I.cell x c e;exact⟨v,cellK x c e v z⟩
 .obtain⟨e,n,ne,nf,d⟩:=I.pin p eM;exact⟨k1 p.1 p.2 e (hp p eM).1 (hp p eM).2 (IV p.1 ne nf),n,ne,nf,d⟩
 .refine(I.hok c o e).stay (fun d v hd z=>?_) (fun _ z=>z) fun _ _ z=>z
  have tT:∃o',H d=some o':=by
   rcases hd with z|z
   .exact⟨o,by rw[z];exact e⟩
   .exact⟨_,z⟩
  obtain⟨o',eo⟩:=tT;obtain⟨t1,t2,t3⟩:=tr d o' eo;exact k1 d v z t1 t2 t3
end
structure RoomU(k:Nat)(A:Around):Prop where
 dp:A.depth+3*k+5<recursionLimit
 un:A.units+16*k+200<cLine
 gd:A.guards=some []
theorem Room.toU{k:Nat}{A:Around}(r:Room k A):RoomU k A:=⟨r.dp,r.un,r.gd⟩
theorem RoomU.mono{j k:Nat}{A:Around}(r:RoomU k A)(h:j<=k):RoomU j A:=⟨by have:=r.dp;lia,by have:=r.un;lia,r.gd⟩
structure FnOkU(P:Program)(w:World)(K:Frag)(mg:Str->Option Value)(base:Heap)(CX:CXT)(k:Nat)(f:Addr)(fd:FuncData)(ps:List Str)(sp:Sp):Prop where
 len:∀vs H Q E,sp vs H Q E->vs.length=ps.length
 run:∀(A:Around) (outer:List Env) (s:Shared) (H:Hp) (args:Args) (us:List Value) (vs:List V) (Q:VK) (E:XK),RoomU k A->Env0 P w K mg base A outer s H->BindsTo s fd args (ps.zip us)->Vals vs us->sp vs H Q E->
  codeAny (model P w) A (.call (.ref f) args) (CR CX outer P w H s Q E) s
abbrev Cx.un(X:Cx)(A:Around):Cx:={X with A:=A,calm:=false}
theorem Inv.un'{X:Cx}{Zt:List (Addr×Obj)}{σ:St}{H:Hp}{s:Shared}(I:Inv X Zt σ H s)(A:Around)(hA:A.frames=X.A.frames):Inv (X.un A) Zt σ H s:=
 ⟨⟨I.ok.mod,I.ok.kind,I.ok.glob,I.ok.blt,I.ok.above,I.ok.inj,I.ok.has,I.ok.cab,fun z=>(by cases z),hA.trans I.ok.frames,I.ok.stk,I.ok.exf,I.ok.bs,I.ok.bsz,I.ok.noex,I.ok.exfs,I.ok.funs,I.ok.frf⟩,I.os,I.bare,I.base,I.loc,I.cell,I.free,I.freeC,I.pin,I.hok,I.len⟩
def qt(A:Around):Around:={A with handled:=none}
theorem Env0.qt{P:Program}{w:World}{K:Frag}{mg:Str->Option Value}{base:Heap}{A:Around}{outer:List Env}{s:Shared}{H:Hp}(e:Env0 P w K mg base A outer s H):Env0 P w K mg base (qt A) outer s H:=
 ⟨e.frames,e.mod,e.bs,e.bsz,e.funs,e.frf,e.hok,e.bare⟩
theorem RoomU.mark{k:Nat}{A:Around}(r:RoomU k A)(v:Option Value):RoomU k (A.mark v):=⟨r.dp,r.un,r.gd⟩
theorem RoomU.deeper{k:Nat}{A:Around}(r:RoomU (k+1) A)(env:Env):RoomU k (A.deeper env):=
 ⟨by have:=r.dp;show A.depth+1+3*k+5<_;lia,by have:=r.un;show A.units+3+16*k+200<_;lia,r.gd⟩
theorem Fun.okU{P:Program}{w:World}{K:Frag}{mg:Str->Option Value}{base:Heap}{x qual:Str}{st:Stmt}{f:Addr}{fd:FuncData}{N ps:List Str}{k:Nat}{sp:Sp}(F:Fun K x qual st f fd)(S:FnScope N ps (az st))(len:∀vs H Q E,sp vs H Q E->vs.length=ps.length)
  (aE:∀(af:Value) (A:Around) (outer:List Env) (s:Shared) (H:Hp) (vs:List V) (Q:VK) (E:XK),RoomU k (A.deeper (envOfC qual (az st) s.heap.objs.size f af))->sp vs H Q E->
   ∃t,PSs (((jH CX0 P w K mg base N qual (az st) f af (qt A) outer s H E).un (A.deeper (envOfC qual (az st) s.heap.objs.size f af))).nox) (cH st) t/\t {nx:=fun _ H'=>Q .non H',rt:=Q} (start N vs) H):
  FnOkU P w K mg base CX0 (k+1) f fd ps sp:=by
 obtain⟨oc,od,kV,doc,pm,an,af,ct,c6,rfl,lk,bg⟩:=F.ex;refine⟨len,fun A outer s H args us vs Q E hr e0 hb r eI=>?_⟩;have hl:=len _ _ _ _ eI;have KX:K.In s.heap:=e0.mod.kin.keeps fun b o e=>(e0.bs b o e).1;have lim:s.heap.NoLimit:=e0.mod.nolimit.keeps fun b o e=>(e0.bs b o e).1
 have gX:∀y∈ps.zip us,(az st).names.lookup y.1=some .local\/((az st).names.lookup y.1=some .cell/\((cellsFrom (s.heap.objs.size+1) (az st).names []).lookup y.1).isSome=true):=fun⟨n,v⟩ hy=>by
  rcases S.par n (List.of_mem_zip hy).1 with q|q
  .exact .inl q
  .exact .inr ⟨q,PySem.W.cellsFrom_some _ _ _ (.inl q)⟩
 refine codeAny_call_function (by have:=hr.dp;lia) (KX _ _ lk) rfl S.co S.gen rfl (PySem.W.codeRec_of KX bg) (hb _ _ _ _ ?_);refine wpAny_newFunctionEnv_cells S.kind gX fun env he s1 x=>?_;subst he;refine⟨lim.keeps x.toInCall.keep,codeAny_func ?_⟩;obtain⟨t,ht,hq⟩:=aE af A outer s H vs Q E (hr.deeper _) eI;have I:Inv (jH CX0 P w K mg base N qual (az st) f af (qt A) outer s H E) [] (start N vs) H s1:=nY S rfl e0.qt hl r x;have J:=(I.un' (A.deeper (envOfC qual (az st) s.heap.objs.size f af)) rfl).wish fun _ _=>False;refine wpAny_mono (ht [] s1 (start N vs) H _ J hq) (fun fl s' hs=>?_) fun e s' hs=>hs.elim
 have fin:∀{ae:St} {H':Hp} {v:V} {u:Value},Inv (((jH CX0 P w K mg base N qual (az st) f af (qt A) outer s H E).un (A.deeper (envOfC qual (az st) s.heap.objs.size f af))).nox) [] ae H' s'->RelV v u->Q v H'->CE outer P w H s Q u s':=
  fun{ae H' v u} J rv q=>⟨v,H',J.os,J.bare,J.base,J.hok,rv,q⟩
 cases fl with
 |ret u=>
  obtain⟨v,ae,H',J,rv,q⟩:=hs;exact fin J rv q
 |next=>
  obtain⟨ae,H',J,q⟩:=hs;exact fin (v:=V.non) (u:=Value.none) J rfl q
 |brk=>
  obtain⟨_,_,_,q⟩:=hs;exact False.elim q
 |cont=>
  obtain⟨_,_,_,q⟩:=hs;exact False.elim q
section
variable{X:Cx}{k:Nat}{f:Addr}{fd:FuncData}{ps:List Str}{sp:Sp}{x:Str}{p pos:Pos}{e:Expr}{es:List Expr}{t:TA}
theorem zG(F:FnOkU X.prog X.w X.K X.mg X.base CX0 k f fd ps sp)(hr:RoomU k X.A)(hg:Gl X x)(hm:X.mg x=some (.ref f))(hk:PySem.W.keepIn X.K (.ref f)=true)(hb:Binds X.K fd ps [])(ha:PA X (e::es) t)
  (bb:(x==("__debug__":Str))=false:=by decide) (he:starEach (e::es) X.env=(false,eval e X.env)::starEach es X.env:=by rfl) (aS:(backTo pos (starEach es X.env)).any (·.1)=false:=by rfl):
  PE X (.Call (.Name x p) (e::es) [] pos) (rC sp [] E0 t):=by
 intro Zt s σ H Q I h;refine wpAny_Call_Name_kw (dY I hg hm ?_ bb);refine PySem.W.callWith_K (h₀:=X.base) I.ok.mod.kin hk (thn (ha pos Zt s σ H _ I h) fun us s1 ⟨vs,H1,I1,r,q⟩=>⟨I1.kIn,?_⟩) he aS;have q:sp (vs++[]) H1 Q E0:=q;rw[zAn]at q;have hl:(us++[]).length=ps.length:=by rw[zAn,<-r.length];exact F.len _ _ _ _ q
 have md:=hb s1 us I1.kIn hl;rw[zAn]at md;refine wpAny_call (codeAny_mono (F.run X.A X.stack s1 H1 ⟨us,[]⟩ us vs Q E0 hr I1.env0 md r q) fun rr s' hq=>?_)
 cases rr with
 |error e=>exact(show False from hq).elim
 |ok fl=>
  cases fl with
  |ret u=>exact I1.after hq
  |next=>exact False.elim hq
  |brk=>exact False.elim hq
  |cont=>exact False.elim hq
end
def excAt(a:Addr)(C:XC)(h:Heap):Prop:=∃o vs,h.get? a=some o/\o.cls=.ref C.1/\o.data=.fields vs/\o.dict=C.2
theorem excAt.ok{P:Program}{w:World}{H:Hp}{h:Heap}{a:Addr}{C:XC}(x:excAt a C h):ObjOk P w H h a (.ext (excAt a C)):=
 ⟨x,(let⟨o,_,e,_⟩:=x;⟨o,e⟩),fun h1 h2 z k=>(let⟨o,vs,e,r⟩:=z;⟨o,vs,k o e,r⟩)⟩
theorem HOk.tracked{P:Program}{w:World}{H:Hp}{h:Heap}{a:Addr}{o:HO}(x:HOk P w H h)(n:H a=none)(new:ObjOk P w (upd H a o) h a o):HOk P w (upd H a o) h:=fun b u e=>by
 by_cases z:b=a
 .subst z;rw[aa]at e;cases e;exact new
 .rw[ao z]at e
  exact(x b u e).stay (fun _ _ _ q=>q) (fun c q=>by rw[ao (aB q n)];exact q) fun c xs q=>by rw[ao (aB q n)];exact q
theorem Inv.track{X:Cx}{Zt:List (Addr×Obj)}{σ:St}{H:Hp}{s:Shared}{a:Addr}{o:HO}(I:Inv X Zt σ H s)(hx:X.ex=[])(n:H a=none)(na:X.s₀.heap.get? a=none)(hL:a≠X.env.locals)(hc:∀x c,X.env.cells.lookup x=some c->c≠a)(hp:∀p∈X.pn++Zt,p.1≠a)(new:ObjOk X.prog X.w (upd H a o) s.heap a o):
  Inv X Zt σ (upd H a o) s:=
 ⟨I.ok,I.os,I.bare,⟨I.base.keep,I.base.slot,fun b ob e h1 h2=>(by rw[ao (fun z=>(by rw[z,na]at e;cases e))];exact I.base.free b ob e h1 h2),I.base.there,fun b xs e=>(have q:=I.base.tups b xs e;by rw[ao (aB q n)];exact q),fun b ob u e=>(have q:=I.base.frzs b ob u e;by rw[ao (aB q n)];exact q),
  fun b ps e=>(let⟨m,q⟩:=I.base.tbls b ps e;⟨m,by rw[ao (aB q n)];exact q⟩)⟩,I.loc,I.cell,(by rw[ao (Ne.symm hL)];exact I.free),fun x c e=>(by rw[ao (hc x c e)];exact I.freeC x c e),
  fun p eM=>(let⟨e,n1,r⟩:=I.pin p eM;⟨e,by rw[ao (hp p eM)];exact n1,r⟩),I.hok.tracked n new,I.len⟩
open PySem PySem.Spec PyProof.Rows PySem.Calls PySem.W
theorem oF:entryFor table "BaseException.__getattribute__"=some Builtin.«object.__getattribute__» :=
 entryFor_alias (id':="object.__getattribute__") (by kernel_rfl) (by first|rfl|decide +kernel) Zv (by kernel_rfl)
section
variable{K:Frag}{prog:Program}{w:World}{A:Around}{E:Value->Shared->Prop}{s:Shared}{x C:Addr}{ox:Obj}{od:Option Obj}
theorem zH{a g:Value}{name:Str}(hc:(clsIn K C).isSome=true)(ha:findIn K (.ref C) name=some (some a))(hg:specialIn K a "__get__"=some (some g))(ht:takesIn K a=some true):findObj K C od name=some (.bind g a):=by
 obtain⟨cd,hc⟩:=Option.isSome_iff_exists.mp hc;unfold findObj;rw[hc,Option.bind_some,ha,Option.bind_some];simp[hg,ht]
theorem Ey{tk:Tok}{Q:Fin->Shared->Prop}(X:K.In s.heap)(I:InstAt s.heap x ox C od)(hf:findObj K C od "__class__"=some (.bind (.builtin "getset_descriptor.__get__") (.builtin "object.__class__")))(hm:mroIn K C (.type "object")=some true)
  (h:Q (.done (.ret (.ref C))) s):wpAny (model prog w) A (Builtin.«object.__getattribute__» ⟨[.ref x,.str "__class__" tk],[]⟩) Q E s:=by
 obtain⟨hh,g,d,t,os⟩:=s;have L0:=I.type (M:=model prog w);have L1:=looks_find (M:=model prog w) X I hf;unfold Builtin.«object.__getattribute__»
 repeat lk
 refine wpAny_run (class_get X I hm ?_)
 repeat lk
 exact h
theorem exc_slot:Slot "BaseException" "__getattribute__" "BaseException.__getattribute__":=
 .of (owner:="BaseException") (n:="__getattribute__") (by rw[typeLookup_type,builtinLookup_eq_fast];kernel_rfl) Zv Zv Zv
  (by first|exact .inl Zv|exact .inr Zv) (by rw[isSubtype_type];kernel_rfl)
theorem zJ:builtinKind "BaseException.__getattribute__"=some .slot:=by decide +kernel
theorem xF:splitId "BaseException.__getattribute__"=some ("BaseException","__getattribute__"):=by decide +kernel
theorem BJ:∃sig,Manifest.signature? "BaseException.__getattribute__"=sig/\∀a b:Value,(match sig with|none=>(pure ():Sem Unit)|some g=>Bind.checkArgs "BaseException.__getattribute__" g ⟨[a,b],[]⟩)=pure ():=⟨_,rfl,fun a b=>by kernel_rfl⟩
theorem oG{Q:Unit->Shared->Prop}{b:Value}(L:Looks (model prog w) s.heap (isInstance (.ref x) (.type "BaseException")) true)(h:Q () s):wpAny (model prog w) A (checkBuiltinCall "BaseException.__getattribute__" ⟨[.ref x,b],[]⟩) Q E s:=by
 simp only[checkBuiltinCall,zJ,xF];refine wpAny_bind (L.at ?_);simp only[Bool.not_true,Bool.false_eq_true,if_false];obtain⟨sig,e,r⟩:=BJ;have r:=r (.ref x) b;rw[e]
 cases sig with
 |none=>exact zAz h
 |some g=>
  show wpAny _ _ (Bind.checkArgs "BaseException.__getattribute__" g ⟨[.ref x,b],[]⟩) Q E s;have r:Bind.checkArgs "BaseException.__getattribute__" g ⟨[.ref x,b],[]⟩=pure ():=r;rw[r];exact zAz h
theorem xG{Q:Option Value->Shared->Prop}(X:K.In s.heap)(I:InstAt s.heap x ox C od)(CC:findIn K (.ref C) "__getattribute__"=some (some (.builtin "BaseException.__getattribute__")))(CD:findIn K (.ref C) "__getattr__"=some none)
  (hf:findObj K C od "__class__"=some (.bind (.builtin "getset_descriptor.__get__") (.builtin "object.__class__"))) (hm:mroIn K C (.type "object")=some true) (hb:mroIn K C (.type "BaseException")=some true) (h:Q (some (.ref C)) {s with toks:=s.toks+1}):
  wpAny (model prog w) A (getAttr? (.ref x) "__class__") Q E s:=by
 obtain⟨hh,g,d,t,os⟩:=s;have L0:=I.type (M:=model prog w);have L1:=looks_findIn (M:=model prog w) X CC;have L2:=looks_findIn (M:=model prog w) X CD;have L3:=looks_mroIn (M:=model prog w) X hb;unfold getAttr? getAttrBy? getAttrBy;refine zAt (wpAny_mkText (zAt (wpAny_attempt (wpAny_holding (zAt (L0.at (zAt (L1.at ?_))))))));show wpAny _ _ (getAttrByItsOwn _ _ _ _ _ _) _ _ _;unfold getAttrByItsOwn hookBefore;refine zAt ?_;rw[zAx (show onTheHeap (.ref C)=true from rfl)];refine L2.at ?_;refine zAt (wpAny_attempt (wpAny_holding ?_));show wpAny _ _ (boundAndCalled (.builtin "BaseException.__getattribute__") (.ref x) (.str "__class__" t)) _ _ _;unfold boundAndCalled;refine zAt (wpAny_of_eq (exc_slot.bind _) ?_);refine wpAny_call (codeAny_call_builtin exc_slot.plain oF (oG (s:=⟨hh,g,d,t+1,os⟩) (L0.andThen L3) ?_));refine Ey (s:=⟨hh,g,d,t+1,os⟩) X I hf hm ?_;show wpAny _ _ (handedOut (.ref C)) _ _ _
 repeat lk
 exact h
end
structure ExcC(K:Frag)(C:Addr):Prop where
 cl:(clsIn K C).isSome=true
 ga:findIn K (.ref C) "__getattribute__"=some (some (.builtin "BaseException.__getattribute__"))
 gb:findIn K (.ref C) "__getattr__"=some none
 fc:findIn K (.ref C) "__class__"=some (some (.builtin "object.__class__"))
 sg:specialIn K (.builtin "object.__class__") "__get__"=some (some (.builtin "getset_descriptor.__get__"))
 tk:takesIn K (.builtin "object.__class__")=some true
 ob:mroIn K C (.type "object")=some true
 be:mroIn K C (.type "BaseException")=some true
def DictAt(C:XC)(h:Heap):Prop:=∀D,C.2=some D->∃o,h.get? D=some o
theorem excAt.inst{a:Addr}{C:XC}{h:Heap}(x:excAt a C h)(y:DictAt C h):∃ox od,InstAt h a ox C.1 od:=by
 obtain⟨o,vs,e,c,d,dd⟩:=x;have no:notCls o=true:=by unfold notCls;rw[d]
 cases z:C.2 with
 |none=>exact⟨o,none,e,c,no,by rw[dd,z];trivial⟩
 |some D=>
  obtain⟨oD,eD⟩:=y D z;exact⟨o,some oD,e,c,no,by rw[dd,z];exact eD⟩
theorem tD{K:Frag}{a:Addr}{C:XC}(Z:ExcC K C.1):KitX K (.ref a) (.ref C.1) (fun h=>excAt a C h/\DictAt C h) where
 ty:=fun M h _ p=>(let⟨_,_,I⟩:=p.1.inst p.2;I.type)
 it:=fun M h X _=>by
  have z:=Z.cl;unfold clsIn at z;split at z
  .rename_i c' d' cd' zh ho
   intro A' Q' E' s' k q;unfold isType loadHead;exact zAt (wpAny_loadPart (k _ _ (X _ _ ho)) (zAz q))
  .cases z
 ne:=fun h tp dd Zr n sl X e=>by
  refine Bool.eq_false_iff.mpr fun q=>?_
  have q:C.1=tp:=by
   have:=beq_iff_eq.mp q;injection this
  subst q;have z:=Z.cl;unfold clsIn at z;split at z
  .rename_i c' d' cd' zh ho
   have:=X _ _ ho;rw[e]at this;cases this
  .cases z
 ca:=fun{prog w A E Q s} X p h=>by
  obtain⟨ox,od,I⟩:=p.1.inst p.2;exact xG X I Z.ga Z.gb (zH Z.cl Z.fc Z.sg Z.tk) Z.ob Z.be h
theorem jm{X:Cx}:gF X (.builtin "isinstance") (fun xs H Q=>∃(a:Addr) (C:XC) (c:V) (b:Bool),xs=[.ref a,c]/\H a=some (.ext (excAt a C))/\(∀D,C.2=some D->∃o,H D=some o)/\ExcC X.K C.1/\((∃D,c=.ref D/\kitOne X.K (.ref C.1) (.ref D)=some b)\/∃n,c=.ty n/\kitOne X.K (.ref C.1) (.type n)=some b)/\Q (.bl b) H):=by
 intro Zt s σ H xs us Q I r h;obtain⟨a,C,c,b,rfl,e,hD,Z,hk,q⟩:=h;obtain⟨u,v,rfl,ru,rv⟩:=vals2 r;cases(show u=Value.ref a from ru)
 obtain⟨p,_⟩:=(show ObjOk X.prog X.w H s.heap a (.ext (excAt a C))from I.hok a _ e)
 have p:excAt a C s.heap/\DictAt C s.heap:=⟨p,fun D z=>(let⟨o,eo⟩:=hD D z;(I.hok D o eo).there)⟩
 rcases hk with⟨D,rfl,hk⟩|⟨n,rfl,hk⟩
 .cases(show v=Value.ref D from rv)
  exact kia_one (tD Z) I.kIn p hk (fun z=>nomatch z) fun tk=>⟨.bl b,H,I.tok _,rfl,q⟩
 .cases(show v=Value.type n from rv)
  exact kia_one (tD Z) I.kIn p hk (fun z=>nomatch z) fun tk=>⟨.bl b,H,I.tok _,rfl,q⟩
section
variable{K:Frag}{prog:Program}{w:World}{A:Around}{E:Value->Shared->Prop}{s:Shared}{a C D:Addr}{ox:Obj}{od:Option Obj}
structure CatchC(K:Frag)(C D:Addr):Prop where
 nt:typeIn K (.ref D)=some (.type "type")
 ty:(clsIn K D).isSome=true
 be:subIn K (.ref D) (.type "BaseException")=some true
 su:subIn K (.ref C) (.ref D)=some true
theorem xH(X:K.In s.heap)(h:(clsIn K D).isSome=true):Looks (model prog w) s.heap (isType (.ref D)) true:=by
 unfold clsIn at h;split at h
 .rename_i c' d' cd' zh ho
  intro A' Q' E' s' k q;unfold isType loadHead;exact zAt (wpAny_loadPart (k _ _ (X _ _ ho)) (zAz q))
 .cases h
theorem tE{Q:Bool->Shared->Prop}(X:K.In s.heap)(I:InstAt s.heap a ox C od)(Z:CatchC K C D)(h:Q true s):wpAny (model prog w) A (excMatches (.ref a) (.ref D)) Q E s:=by
 obtain⟨hh,g,d,t,os⟩:=s;have L0:=I.type (M:=model prog w);have L1:=looks_typeIn (M:=model prog w) X Z.nt;have L2:=xH (prog:=prog) (w:=w) X Z.ty;have L3:=looks_subIn (M:=model prog w) X Z.be;have L4:=looks_subIn (M:=model prog w) X Z.su;have f:=tc_notTuple;unfold excMatches isExcClass
 repeat (first|with_reducible refine L1.at ?_|with_reducible refine L0.at ?_|with_reducible refine L2.at ?_|with_reducible refine L3.at ?_|with_reducible refine L4.at ?_|wp_step)
 exact h
end
theorem xJ{M:Model}{A:Around}{E:Value->Shared->Prop}{s:Shared}{a:Addr}{C:XC}{tb:Value}{Q:Unit->Shared->Prop}(fl:Fly s.heap a C tb)
  (h:∀h',Fly h' a C tb->(∀b o,s.heap.get? b=some o->tb≠.ref b->h'.get? b=some o)->(∀b o,s.heap.get? b=some o->∃o',h'.get? b=some o')->Q () {s with heap:=h'}):wpAny M A (setFlight (.ref a) none) Q E s:=by
 obtain⟨⟨oe,vs,he,hc,hd,h1,hV⟩,tr⟩:=id fl;unfold setFlight;refine zAt (wpAny_field he hd h1 ?_);rcases tr with rfl|⟨T,oT,ts,rfl,nT,hT,i8,h3⟩
 .rw[zAw Zx];exact zAz (h s.heap fl (fun b o e _=>e) fun b o e=>⟨o,e⟩)
 .rw[if_pos (show(Value.ref T != Value.none)=true by simp)];have z3:=(Array.getElem?_eq_some_iff.mp h3).1;refine wpAny_setField hT i8 z3 ?_;have g3:=Heap.get?_update_self (Obj.mapFields (·.setIfInBounds 3 ((none:Option Addr).elim Value.none fun f=>rawInt f))) hT (Obj.isFreed_of_fields (Obj.data_mapFields i8 _));have o3:∀b,b≠T->(s.heap.update T (Obj.mapFields (·.setIfInBounds 3 ((none:Option Addr).elim Value.none fun f=>rawInt f)))).get? b=s.heap.get? b:=fun b hb=>Heap.get?_update_other _ _ (Ne.symm hb);refine h _ ⟨⟨oe,vs,(o3 a (Ne.symm nT)).trans he,hc,hd,h1,hV⟩,.inr ⟨T,_,_,rfl,nT,g3,Obj.data_mapFields i8 _,by simp[z3]⟩⟩ (fun b o e hb=>(o3 b fun z=>hb (by rw[z])).trans e) fun b o e=>?_;by_cases z:b=T
  .rw[z];exact⟨_,g3⟩
  .exact⟨o,(o3 b z).trans e⟩
abbrev Cx.tr(X:Cx)(Zt:List (Addr×Obj))(xe:Value->Shared->Prop):Cx:={X with pn:=X.pn++Zt,xe:=xe}
theorem Inv.tr{X:Cx}{Zt:List (Addr×Obj)}{σ:St}{H:Hp}{s:Shared}(I:Inv X Zt σ H s)(xe:Value->Shared->Prop):Inv (X.tr Zt xe) [] σ H s:=
 ⟨⟨I.ok.mod,I.ok.kind,I.ok.glob,I.ok.blt,I.ok.above,I.ok.inj,I.ok.has,I.ok.cab,I.ok.hd,I.ok.frames,I.ok.stk,I.ok.exf,I.ok.bs,I.ok.bsz,I.ok.noex,I.ok.exfs,I.ok.funs,I.ok.frf⟩,I.os,I.bare,I.base,I.loc,I.cell,I.free,I.freeC,fun p hp=>I.pin p (by simpa using hp),I.hok,I.len⟩
theorem Inv.untr{X:Cx}{Zt da:List (Addr×Obj)}{σ:St}{H:Hp}{s:Shared}{xe:Value->Shared->Prop}(I:Inv (X.tr Zt xe) da σ H s):Inv X Zt σ H s:=
 ⟨⟨I.ok.mod,I.ok.kind,I.ok.glob,I.ok.blt,I.ok.above,I.ok.inj,I.ok.has,I.ok.cab,I.ok.hd,I.ok.frames,I.ok.stk,I.ok.exf,I.ok.bs,I.ok.bsz,I.ok.noex,I.ok.exfs,I.ok.funs,I.ok.frf⟩,I.os,I.bare,I.base,I.loc,I.cell,I.free,I.freeC,fun p hp=>I.pin p (List.mem_append_left _ hp),I.hok,I.len⟩
theorem Inv.drop{X:Cx}{Zt:List (Addr×Obj)}{σ:St}{H:Hp}{s:Shared}{i:Nat}{x:Str}{h':Heap}{u:Option Value}{m:Str->Option Value}(I:Inv X Zt σ H s)(hN:X.N.Nodup)(hi:X.N[i]?=some x)
  (hl:∀(i:Nat) (x:Str) (v:V),X.N[i]?=some x->σ[i]?=some (some v)->Vis X.env.scope x->∃u,RelV v u/\Look X.env s.heap m x u) (hn:h'.Ns X.env.locals fun y=>if y=x then u else m y) (sb:Heap.SameBut X.env.locals s.heap h'):Inv X Zt (σ.set i none) H {s with heap:=h'}:=by
 have nL:∀b o,X.s₀.heap.get? b=some o->b≠X.env.locals:=fun b o e=>zB3 (zB2 (zAy e) I.ok.above)
 have cK:∀y c,X.env.cells.lookup y=some c->∀v,s.heap.IsCell c v->h'.IsCell c v:=fun y c e v ⟨o,ho,hd⟩=>⟨o,(sb.2 c (I.cne y c e)).trans ho,hd⟩
 refine⟨I.ok,I.os,I.bare,⟨fun b o e n hb hx=>(sb.2 b (nL b o e)).trans (I.base.keep b o e n hb hx),fun b o e n hb hx=>?_,I.base.free,fun b o e hx=>?_,I.base.tups,I.base.frzs,I.base.tbls⟩,⟨_,hn,fun j y v e1 e2 e3=>?_⟩,fun y c e=>?_,I.free,I.freeC,fun p hp=>?_,fun c o e=>?_,by rw[List.length_set];exact I.len⟩
 .obtain⟨sl,e1⟩:=I.base.slot b o e n hb hx;exact⟨sl,(sb.2 b (nL b o e)).trans e1⟩
 .obtain⟨o',e1⟩:=I.base.there b o e hx;exact⟨o',(sb.2 b (nL b o e)).trans e1⟩
 .by_cases z:i=j
  .subst z;by_cases av:i<σ.length
   .rw[List.getElem?_set_self av]at e2;cases e2
   .rw[List.getElem?_eq_none (by rw[List.length_set];lia)]at e2;cases e2
  .rw[List.getElem?_set_ne z]at e2;obtain⟨u',r,l⟩:=hl j y v e1 e2 e3;refine⟨u',r,?_⟩;rcases l with⟨k,l⟩|⟨k,c,e,w'⟩
   .refine .inl ⟨k,?_⟩;show(if y=x then u else m y)=some u';rw[zAw fun q=>z ?_]
    .exact l
    .rw[q]at e1;obtain⟨h1,g1⟩:=zAa.mp hi;obtain⟨h2,g2⟩:=zAa.mp e1;exact(List.getElem_inj hN).mp (g1.trans g2.symm)
   .exact .inr ⟨k,c,e,cK y c e _ w'⟩
 .obtain⟨v,w'⟩:=I.cell y c e;exact⟨v,cK y c e v w'⟩
 .obtain⟨e,n,ne,r⟩:=I.pin p hp;exact⟨(sb.2 p.1 ne).trans e,n,ne,r⟩
 .refine(I.hok c o e).stay (fun d v hd z=>(sb.2 d fun q=>?_).trans z) (fun _ z=>z) fun _ _ z=>z;rcases hd with y|y
  .rw[y]at q;rw[q,I.free]at e;cases e
  .rw[q,I.free]at y;cases y
theorem iD{X:Cx}{Zt:List (Addr×Obj)}{σ:St}{H:Hp}{s:Shared}{i:Nat}{x:Str}{pos:Pos}{A:Around}{E:Value->Shared->Prop}{Q:Unit->Shared->Prop}(I:Inv X Zt σ H s)(hN:X.N.Nodup)(hi:X.N[i]?=some x)(hx:X.env.scope.names.lookup x=some .local)
  (h:∀s',Inv X Zt (σ.set i none) H s'->Q () s'):wpAny (model X.prog X.w) A (do bindName X.env x .none;unbindBehindTheSuite X.env x pos) Q E s:=by
 have ua:i<X.N.length:=(zAa.mp hi).1;refine zAt (wpAny_bindName (jD (v:=.non) I hN hi (.inl hx) rfl (fun s1 I1 _=>?_) (.inr hx)));obtain⟨m,hn,hl⟩:=id I1.loc;obtain⟨u,_,lk⟩:=hl i x .non hi (by rw[List.getElem?_set_self (by rw[I.len];exact ua)]) (.inl hx)
 have hv:m x=some u:=by
  rcases lk with⟨_,z⟩|⟨k,_⟩
  .exact z
  .have cE:X.env.kindOf x=some .local:=hx;rw[cE]at k;rcases k with k|k<;>cases k
 unfold unbindBehindTheSuite;refine wpAny_onRaise (wpAny_unbindName_local hx hn hv (by rw[I.ok.kind];rfl) fun h' u' gy sb=>?_);have J:=I1.drop hN hi hl gy sb;rw[List.set_set]at J;exact h _ J
theorem Inv.back{X:Cx}{A:Around}{xe:Value->Shared->Prop}{Zt:List (Addr×Obj)}{σ:St}{H:Hp}{s:Shared}(I:Inv ((X.un A).wish xe) Zt σ H s)(ok:X.Ok):Inv X Zt σ H s:=
 ⟨ok,I.os,I.bare,I.base,I.loc,I.cell,I.free,I.freeC,I.pin,I.hok,I.len⟩
def zK(D:Ends)(i:Nat):Ends:={nx:=fun σ H=>D.nx (σ.set i none) H,rt:=D.rt,ct:=fun σ H=>D.ct (σ.set i none) H,bk:=fun σ H=>D.bk (σ.set i none) H}
def Hy(n i:Nat)(ok:XC->Prop)(tb:(Addr->XC->Hp->Prop)->TS)(th:TS):TS:=fun D σ H=>
 tb (fun a C H'=>ok C/\(∀D,C.2=some D->∃o,H' D=some o)/\∀ae:St,ae.length=n->H' a=none->th (zK D i) (ae.set i (some (.ref a))) (upd H' a (.ext (excAt a C)))) D σ H
theorem Ez{X:Cx}{y n:Str}{Dc:Addr}{i:Nat}{np gp pos:Pos}{body fA:List Stmt}{kx:Stmt}{tb:(Addr->XC->Hp->Prop)->TS}{th:TS}(hm:X.mg y=some (.ref Dc))(hg:Gl X y)(hN:X.N.Nodup)(hi:X.N[i]?=some n)(hl:X.env.scope.names.lookup n=some .local)(hx:X.ex=[])(hs:X.stack=X.env::X.outer)
  (aE:∀Zt xe EX,nG (X.tr Zt xe) EX->PSs (X.tr Zt xe) body (tb EX)) (oa:∀v:Option Value,PSs ((X.un (X.A.mark v)).nox) (kx::fA) th) (bb:(y==("__debug__":Str))=false:=by decide):
  PS X (.Try body [.ExceptHandler (some (.Name y np)) (some n) (kx::fA) gp] [] [] pos) (Hy X.N.length i (fun C=>CatchC X.K C.1 Dc) tb th):=by
 intro Zt s σ H D I h;refine wpAny_Try_except ?_
 have W:nG (X.tr Zt fun e s₁=>wpAny (model X.prog X.w) X.A (noteFrame e X.env) (fun _ s₂=>wpAny (model X.prog X.w) X.A (setFlight e none) (fun _ s₃=>wpAny (model X.prog X.w) X.A (handleBy e X.env [.ExceptHandler (some (.Name y np)) (some n) (kx::fA) gp]) (SP X Zt D) X.xe s₃) X.xe s₂) X.xe s₁)
   (fun a C H'=>CatchC X.K C.1 Dc/\(∀D,C.2=some D->∃o,H' D=some o)/\∀ae:St,ae.length=X.N.length->H' a=none->th (zK D i) (ae.set i (some (.ref a))) (upd H' a (.ext (excAt a C)))):=by
  intro da sx H1 s1 a C KQ I1 fl na fa ft hp q;obtain⟨Z,hD,q⟩:=q;have J:=I1.untr;have gI:X.A.frames=some (X.env::X.outer):=by rw[<-hs];exact J.ok.frames
  have a9:s1.heap.FunFrames X.base (X.env::X.outer):=by rw[<-hs];exact J.stack
  have nX:X.env.frame=some X.env.locals:=by
   rcases J.ok.stk with z|z
   .exact absurd (congrArg List.length (hs.symm.trans z)) Zy
   .exact z.2
  have dy:∀p∈X.pn++Zt,p.1≠a/\KQ≠.ref p.1:=fun p eM=>hp p (List.mem_append_left _ eM);show wpAny (model X.prog X.w) X.A (noteFrame (.ref a) X.env) _ X.xe s1;refine vQ gI a9 nX fl fun h' T nT eJ k1 k2 k3=>?_;have J2:Inv X Zt sx H1 {s1 with heap:=h'}:=J.left (t':=s1.toks) hx fl na fa ft dy (by rw[hs];exact k1) k2 k3
  have tf:∀T',Value.ref T=.ref T'->X.s₀.heap.get? T'=none/\H1 T'=none:=fun T' z=>by
   cases z;exact⟨J.was hx nT,J.hok.no nT⟩
  have gs:∀p∈X.pn++Zt,p.1≠a/\Value.ref T≠.ref p.1:=fun p eM=>⟨(dy p eM).1,fun z=>by
   cases z;obtain⟨e,_⟩:=J.pin p eM;rw[nT]at e
   cases e⟩
  obtain⟨oe,vs,he,hc,hd,_,hV⟩:=eJ.obj
  have inst:excAt a C h':=⟨oe,vs,he,hc,hd,hV⟩
  refine wpAny_handleBy_cons (codeAny_handlers_test ?_) (by intro q;cases q);have J4:=J2.un' (X.A.mark (some (.ref a))) rfl;refine dY (X:=X.un (X.A.mark (some (.ref a)))) J4 hg hm ?_ bb
  obtain⟨ox,od,ix⟩:=inst.inst fun D z=>(let⟨o,eo⟩:=hD D z;(J2.hok D o eo).there)
  refine tE (s:={s1 with heap:=h'}) J2.kIn ix Z ?_;show codeAny _ _ (.handlers (.ref a) [.ExceptHandler none (some n) (kx::fA) gp] X.env) _ _;refine codeAny_handlers_suite_as ?_;refine xJ (s:={s1 with heap:=h'}) eJ fun h2 CF j1 j2=>?_;have J5:Inv X Zt sx H1 {s1 with heap:=h2}:=J2.left (t':=s1.toks) hx eJ na fa tf gs (fun b o e _ hb _=>j1 b o e hb) (fun b o e _ hb=>⟨o.slots,j1 b o e hb⟩) j2;obtain⟨KR,CH,KS,kf,hd2,_,CI⟩:=CF.obj
  have ui:excAt a C h2:=⟨KR,CH,KS,kf,hd2,CI⟩
  have KU:a≠X.env.locals:=by
   obtain⟨m,⟨o,es,ep,ho,mf,_⟩,_⟩:=J5.loc;exact Ne.symm (CF.ne ho fun vs q=>by rw[mf]at q;cases q).1
  have KW:∀x c,X.env.cells.lookup x=some c->c≠a:=fun x c e=>by
   obtain⟨v,o,ho,mf⟩:=J5.cell x c e;exact(CF.ne ho fun vs q=>by rw[mf]at q;cases q).1
  have J6:=J5.track (o:=.ext (excAt a C)) hx fa na KU KW (fun p eM=>(dy p eM).1) (excAt.ok ui);refine jD (v:=.ref a) J6 hN hi (.inl hl) rfl (fun s6 I6 _=>?_) (.inr hl);have hw:=q sx J.len fa;refine wpAny_mono (oa (some (.ref a)) Zt s6 _ _ (zK D i) ((I6.un' (X.A.mark (some (.ref a))) rfl).wish _) hw) (fun f s7 sp=>?_) fun e s' z=>z.elim;show wpAny (model X.prog X.w) X.A (do bindName X.env n .none;unbindBehindTheSuite X.env n gp) (fun _ s₃=>SP X Zt D f s₃) X.xe s7
  cases f with
  |ret u=>
   obtain⟨v,ae,H',K',rv,qq⟩:=sp
   exact iD (K'.back J.ok) hN hi hl fun s' K2=>⟨v,_,H',K2,rv,qq⟩
  |next=>
   obtain⟨ae,H',K',qq⟩:=sp
   exact iD (K'.back J.ok) hN hi hl fun s' K2=>⟨_,H',K2,qq⟩
  |brk=>
   obtain⟨ae,H',K',qq⟩:=sp
   exact iD (K'.back J.ok) hN hi hl fun s' K2=>⟨_,H',K2,qq⟩
  |cont=>
   obtain⟨ae,H',K',qq⟩:=sp
   exact iD (K'.back J.ok) hN hi hl fun s' K2=>⟨_,H',K2,qq⟩
 have hb:=aE Zt _ _ W [] s σ H D (I.tr _) h;refine wpAny_mono hb (fun f s1 sp=>?_) fun e s1 z=>z
 cases f with
 |ret u=>
  obtain⟨v,ae,H',K',rv,qq⟩:=sp;exact⟨v,ae,H',K'.untr,rv,qq⟩
 |next=>
  obtain⟨ae,H',K',qq⟩:=sp;exact wpAny_execs_nil ⟨ae,H',K'.untr,qq⟩
 |brk=>
  obtain⟨ae,H',K',qq⟩:=sp;exact⟨ae,H',K'.untr,qq⟩
 |cont=>
  obtain⟨ae,H',K',qq⟩:=sp;exact⟨ae,H',K'.untr,qq⟩
open Builtin Builtin.ObjectAttr
def jP:List Value->Bool
 |[.type a,.type b,.type c,.type d]=>a=="ValueError"&&b=="Exception"&&c=="BaseException"&&d=="object"
 |.ref _::r=>jP r
 |_=>false
theorem lX(self:Value):∀{l:List Value},jP l=true->refuseLoop self "__setattr__" l=pure ()
 |[.type a,.type b,.type c,.type d],e=>by
  simp only[jP,Bool.and_eq_true,beq_iff_eq]at e;obtain⟨⟨⟨rfl,rfl⟩,rfl⟩,rfl⟩:=e;exact PySem.F.store_ValueError.passes self
 |.ref c::r,e=>by rw[refuseLoop_ref];exact lX self e
theorem vR:∀{l:List Value},jP l=true->l.contains (.type "object")=true/\l.isEmpty=false
 |[.type a,.type b,.type c,.type d],e=>by
  simp only[jP,Bool.and_eq_true,beq_iff_eq]at e;obtain⟨⟨⟨rfl,rfl⟩,rfl⟩,rfl⟩:=e;exact⟨by decide,rfl⟩
 |.ref c::r,e=>⟨by rw[List.contains_cons,(vR (l:=r) e).1,Bool.or_true],rfl⟩
def lw(K:Frag)(C:Addr):Bool:=(clsIn K C).any fun cd=>jP cd.mro
section
variable{K:Frag}{prog:Program}{w:World}{A:Around}{E:Value->Shared->Prop}{s:Shared}{x C:Addr}{ox:Obj}{od:Option Obj}{R:Result->Shared->Prop}
theorem BK{name:Str}{tk:Tok}{v:Value}(X:K.In s.heap)(I:InstAt s.heap x ox C od)(hp:lw K C=true)(ht:findIn K (.ref C) name=some none)
  (h:wpAny (model prog w) A.in1 (storeInOwnDict (.ref x) (.ref C) (.str name tk) name v false)
   (fun fin s'=>match fin with|.done f=>R (.ok f) s'|.again c'=>c'.quiet=true/\codeAny (model prog w) A c' R s') (fun e s'=>R (.error e) s') s):
  codeAny (model prog w) A (.call (.builtin "object.__setattr__") ⟨[.ref x,.str name tk,v],[]⟩) R s:=by
 have SF:=PySem.F.store_object;obtain⟨cd,hc,ho⟩:=any_some hp;obtain⟨KY,ne⟩:=vR ho;have sub:Looks (model prog w) s.heap (isInstance (.ref x) (.type "object")) true:=I.type.andThen (looks_mroIn X (by unfold mroIn;rw[hc,Option.bind_some,zAw (by rw[ne];decide),KY]));refine codeAny_call_builtin SF.slot.plain SF.entry (@check_slot (model prog w) _ _ s "object.__setattr__" "object" "__setattr__" (.ref x) [.str name tk,v] [] _ SF.kind SF.split sub (SF.args (.ref x) (.str name tk) v) ?_);have hm:Looks (model prog w) s.heap (mroOf (.ref C)) cd.mro:=(looks_clsIn X hc).andThen .now;have L3:Looks (model prog w) s.heap (storeTaker? none) none:=.now;rw[osa_eq,refuse_eq];refine zAt (zAt (I.type.here (zAt (hm.here ?_))));rw[lX _ ho];refine zAz (zAt (I.type.here (zAt ((looks_findIn X ht).here (zAt (L3.here ?_))))));exact h
end
def excN(a:Addr)(C:XC)(h:Heap):Prop:=∃o vs,h.get? a=some o/\o.cls=.ref C.1/\o.data=.fields vs/\o.dict=C.2/\vs[1]?=some .none
theorem excN.at{a:Addr}{C:XC}{h:Heap}(x:excN a C h):excAt a C h:=let⟨o,vs,e,c,d,dd,_⟩:=x;⟨o,vs,e,c,d,dd⟩
theorem excN.fly{a:Addr}{C:XC}{h:Heap}(x:excN a C h):Fly h a C .none:=let⟨o,vs,e,c,d,dd,v1⟩:=x;⟨⟨o,vs,e,c,d,v1,dd⟩,.inl rfl⟩
theorem excN.ok{P:Program}{w:World}{H:Hp}{h:Heap}{a:Addr}{C:XC}(x:excN a C h):ObjOk P w H h a (.ext (excN a C)):=
 ⟨x,(let⟨o,_,e,_⟩:=x;⟨o,e⟩),fun h1 h2 z k=>(let⟨o,vs,e,r⟩:=z;⟨o,vs,k o e,r⟩)⟩
theorem vU{K:Frag}{prog:Program}{w:World}{A:Around}{E:Value->Shared->Prop}{s:Shared}{a:Addr}{C:XC}{mA:Str->Option Value}{ns:List Str}{name:Str}{v:Value}{Q:Unit->Shared->Prop}(X:K.In s.heap)(I:excN a C s.heap)
  (hd:(C.2=none/\∀n,mA n=none)\/∃D,C.2=some D/\D≠a/\s.heap.Ns1 D mA) (hs:findIn K (.ref C.1) "__setattr__"=some (some (.builtin "object.__setattr__"))) (hp:lw K C.1=true) (ht:findIn K (.ref C.1) name=some none)
  (hh:hasDictIn K C.1=true) (hw:PySem.Within mA ns) (hsz:ns.length<=sizeLine)
  (h:∀h' D tk,excN a (C.1,some D) h'->D≠a->h'.Ns1 D (fun y=>if y=name then some v else mA y)->(C.2=some D\/C.2=none/\s.heap.get? D=none)->(∀b o,b≠a->C.2≠some b->s.heap.get? b=some o->h'.get? b=some o)->(∀b,s.heap.get? b≠none->h'.get? b≠none)->(C.2≠none->h'.get? a=s.heap.get? a)->Q () {s with heap:=h',toks:=tk}):
  wpAny (model prog w) A (setAttr (.ref a) name v) Q E s:=by
 obtain⟨o,vs,e,c,dt,dd,v1⟩:=id I
 have dA:DictAt C s.heap:=fun D z=>by
  rcases hd with⟨q,_⟩|⟨D',q,_,hn⟩
  .rw[q]at z;cases z
  .rw[q]at z;cases z;obtain⟨od,_,_,e1,_⟩:=hn;exact⟨od,e1⟩
 obtain⟨ox,od,J⟩:=I.at.inst dA;refine set_plain X J hs (BK (s:={s with toks:=s.toks+1}) X J hp ht ?_);obtain⟨cd,hc,si⟩:=any_some hh;obtain⟨oc,KZ,IW,c6⟩:=o;dsimp only at c dt dd;subst c dt dd;refine wpAny_bind (wpAny_pure (wpAny_bind (wpAny_bind (wpAny_loadPart e (wpAny_bind (Looks.here (s:={s with toks:=s.toks+1}) (looks_clsIn X hc) ?_))))));rw[si];rcases hd with⟨z,hm⟩|⟨D,z,nD,hn⟩
 .cases C with
  |mk C1 C2=>
  cases(show C2=none from z);have cx:=zAu (h:=s.heap) {cls:=.type "dict",data:=.dict #[]} e;have gi:a≠s.heap.objs.size:=zB3 (zAy e)
  obtain⟨g,eg⟩:∃g,g=(s.heap.push {cls:=.type "dict",data:=.dict #[]}).update a fun o=>{cls:=o.cls,dict:=some s.heap.objs.size,data:=o.data,slots:=o.slots}:=⟨_,rfl⟩
  have gx:g.get? a=some {cls:=.ref C1,dict:=some s.heap.objs.size,data:=.fields vs,slots:=c6}:=by rw[eg];exact Heap.get?_update_self _ cx rfl
  have gd:g.get? s.heap.objs.size=some {cls:=.type "dict",data:=.dict #[]}:=by rw[eg];exact(Heap.get?_update_ne _ _ _ _ gi.symm).trans (Heap.get?_push_at rfl rfl)
  have gn:g.Ns s.heap.objs.size (fun _=>none):=⟨_,#[],_,gd,rfl,fun e he=>absurd he Zy,fun _=>rfl⟩
  have gk:∀b o,b≠a->s.heap.get? b=some o->g.get? b=some o:=fun b o hb q=>by rw[eg];exact(Heap.get?_update_ne _ _ _ _ hb).trans (zAu _ q)
  refine zAt (wpAny_alloc' (zAt (wpAny_update' cx (zAz ?_))));rw[<-eg];show wpAny _ _ (storeInDict s.heap.objs.size (.str name s.toks) name v) _ _ _;unfold storeInDict newKeyGuard;refine zAt (zAz (zAt (wpAny_nsSet1 (Heap.Ns1.of_empty gn) fun h' gy i9=>?_)));obtain⟨oD,Iz,IA,qo,sL,sM⟩:=gy.count (PySem.Within.cons name v PySem.Within.nil);refine zAt (wpAny_lookBehind qo (by rw[sL];exact pastItsLine_dict (Nat.le_trans sM (by rw[zAe,List.length_nil,sizeLine_eq];lia))) (zAz ?_));have ha:=(i9.2 a gi).trans gx;refine h h' s.heap.objs.size _ ⟨_,_,ha,rfl,rfl,rfl,v1⟩ gi.symm ?_ (.inr ⟨rfl,Heap.get?_none_of_le (zA3 _)⟩) (fun b o hb _ q=>(i9.2 b (zB3 (zAy q))).trans (gk b o hb q)) (fun b q=>?_) fun y=>absurd rfl y
  .obtain⟨o',es,ep,e1,e2,e3,eu,e4⟩:=gy;exact⟨o',es,ep,e1,e2,e3,eu,fun y=>by rw[e4 y];by_cases hy:y=name<;>simp[hy,hm]⟩
  .by_cases hb:b=a
   .rw[hb,ha];exact fun z=>nomatch z
   .cases z:s.heap.get? b with
    |none=>exact absurd z q
    |some o=>rw[(i9.2 b (zB3 (zAy z))).trans (gk b o hb z)];exact fun z=>nomatch z
 .rw[show C.snd=some D from z];refine zAz (a:=some D) ?_;show wpAny _ _ (storeInDict D (.str name s.toks) name v) _ _ _;unfold storeInDict newKeyGuard;refine zAt (zAz (zAt (wpAny_nsSet1 (s:={s with toks:=s.toks+1}) hn fun h' gy i9=>?_)));obtain⟨oD,Iz,IA,qo,sL,sM⟩:=gy.count (PySem.Within.cons name v hw);refine zAt (wpAny_lookBehind qo (by rw[sL];exact pastItsLine_dict (Nat.le_trans sM (by rw[zAe];lia))) (zAz ?_));have ha:=(i9.2 a nD.symm).trans e;refine h h' D _ ⟨_,_,ha,rfl,rfl,z,v1⟩ nD gy (.inl z) (fun b o hb hD q=>(i9.2 b fun y=>hD (by rw[y];exact z)).trans q) (fun b q=>?_) fun _=>i9.2 a nD.symm;by_cases hb:b=D
  .rw[hb,qo];exact fun z=>nomatch z
  .rw[i9.2 b hb];exact q
section
variable{K:Frag}{prog:Program}{w:World}{A:Around}{E:Value->Shared->Prop}{s:Shared}{x C:Addr}{ox:Obj}{od:Option Obj}
theorem EY{tk:Tok}{name:Str}{v:Value}{Q:Fin->Shared->Prop}(X:K.In s.heap)(I:InstAt s.heap x ox C od)(hf:findObj K C od name=some (.value v))
  (h:Q (.done (.ret v)) s):wpAny (model prog w) A (Builtin.«object.__getattribute__» ⟨[.ref x,.str name tk],[]⟩) Q E s:=by
 obtain⟨hh,g,d,t,os⟩:=s;have L0:=I.type (M:=model prog w);have L1:=looks_find (M:=model prog w) X I hf;unfold Builtin.«object.__getattribute__»
 repeat lk
 exact h
theorem BL{name:Str}{v:Value}{Q:Value->Shared->Prop}(X:K.In s.heap)(I:InstAt s.heap x ox C od)(CC:findIn K (.ref C) "__getattribute__"=some (some (.builtin "BaseException.__getattribute__")))(CD:findIn K (.ref C) "__getattr__"=some none)
  (hf:findObj K C od name=some (.value v)) (hv:handedIn v=true) (hb:mroIn K C (.type "BaseException")=some true) (h:Q v {s with toks:=s.toks+1}):
  wpAny (model prog w) A (getAttr (.ref x) name true) Q E s:=by
 obtain⟨hh,g,d,t,os⟩:=s;have L0:=I.type (M:=model prog w);have L1:=looks_findIn (M:=model prog w) X CC;have L2:=looks_findIn (M:=model prog w) X CD;have L3:=looks_mroIn (M:=model prog w) X hb;unfold getAttr getAttrBy;refine zAt (wpAny_mkText (wpAny_holding (zAt (L0.at (zAt (L1.at ?_))))));show wpAny _ _ (getAttrByItsOwn _ _ _ _ _ _) _ _ _;unfold getAttrByItsOwn hookBefore;refine zAt ?_;rw[zAx (show onTheHeap (.ref C)=true from rfl)];refine L2.at ?_;refine zAt (wpAny_attempt (wpAny_holding ?_));show wpAny _ _ (boundAndCalled (.builtin "BaseException.__getattribute__") (.ref x) (.str name t)) _ _ _;unfold boundAndCalled;refine zAt (wpAny_of_eq (exc_slot.bind _) ?_);refine wpAny_call (codeAny_call_builtin exc_slot.plain oF (oG (s:=⟨hh,g,d,t+1,os⟩) (L0.andThen L3) ?_));refine EY (s:=⟨hh,g,d,t+1,os⟩) X I hf ?_;show wpAny _ _ (handedOut v) _ _ _;rw[handedOut_of hv];exact zAz h
end
section
variable{K:Frag}{prog:Program}{w:World}{A:Around}{E:Value->Shared->Prop}{s:Shared}{a:Addr}{C:XC}
theorem xK{us:List Value}{Q:Value->Shared->Prop}(X:K.In s.heap)(I:excN a C s.heap)(dA:DictAt C s.heap)(hb:mroIn K C.1 (.type "ValueError")=some true)(hl:us.length<=sizeLine)
  (h:∀h',excN a C h'->(∀b o,b≠a->s.heap.get? b=some o->h'.get? b=some o)->(∀b,s.heap.get? b≠none->h'.get? b≠none)->Q .none {s with heap:=h'}):
  wpAny (model prog w) A (call (.builtin "ValueError.__init__") (.ref a::us)) Q E s:=by
 have F:=PySem.F.excBase_ValueError;obtain⟨ox,od,J⟩:=I.at.inst dA;obtain⟨o,vs,e,c,dt,dd,v1⟩:=I;have sub:Looks (model prog w) s.heap (isInstance (.ref a) (.type "ValueError")) true:=J.type.andThen (looks_mroIn X hb);have CL:=F.noStar
 obtain⟨cd,bg⟩:∃cd,clsIn K C.1=some cd:=by
  unfold mroIn at hb;obtain⟨cd,q,_⟩:=Option.bind_eq_some_iff.mp hb;exact⟨cd,q⟩
 obtain⟨oC,dC,sC,hC⟩:∃oC dC sC,s.heap.get? C.1=some ⟨oC,dC,.cls cd,sC⟩:=by
  unfold clsIn at bg;split at bg
  .rename_i ho
   cases bg;exact⟨_,_,_,X _ _ ho⟩
  .cases bg
 obtain⟨oc,KZ,IW,c6⟩:=o;dsimp only at c dt dd;subst c dt dd;refine wpAny_call (codeAny_call_builtin F.init.plain F.initEntry ?_);simp only[checkBuiltinCall,F.initKind,F.initSplit,F.initRow];refine wpAny_bind (sub.here ?_);simp only[Bool.not_true,Bool.false_eq_true,if_false];obtain⟨hh,g,d,t,os⟩:=s;unfold Bind.checkArgs
 repeat (first|with_reducible refine wpAny_loadPart_at e ?_|with_reducible refine wpAny_loadPart_at hC ?_|wp_step)
 refine wpAny_onRaise ?_;rw[show ∀(x y:String) (n:Nat),Bind.check ⟨.positional,"*","ValueError",.self,[⟨"args",.varPos,false⟩]⟩ x y n (List.map (fun z=>z.fst) ({pos:=Value.ref a::us}:Args).kw)=pure ()from fun x y n=>check_star_args _ _ _ _ _ _];refine zAz ?_;have z1:=(Array.getElem?_eq_some_iff.mp v1).1
 obtain⟨x0,v0⟩:∃x0,vs[0]?=some x0:=⟨_,Array.getElem?_eq_getElem Zz⟩
 unfold Builtin.«BaseException.__init__»;dsimp only;refine wpAny_bind (wpAny_newTuple (hsz:=hl) ?_);dsimp only at h e⊢;have cx:=Heap.get?_push_of_some (h:=hh) {cls:=.type "tuple",data:=.seq us.toArray} e
 obtain⟨g1,eg⟩:∃g1,g1=(hh.push {cls:=.type "tuple",data:=.seq us.toArray}).update a (Obj.mapFields (·.setIfInBounds 0 (.ref hh.objs.size))):=⟨_,rfl⟩
 have d3:=Obj.data_mapFields (o:=⟨.ref C.1,C.2,.fields vs,c6⟩) rfl (·.setIfInBounds 0 (Value.ref hh.objs.size));have gx:g1.get? a=some (Obj.mapFields (·.setIfInBounds 0 (.ref hh.objs.size)) ⟨.ref C.1,C.2,.fields vs,c6⟩):=by rw[eg];exact Heap.get?_update_self _ cx (Obj.isFreed_of_fields d3)
 have gk:∀b o,b≠a->hh.get? b=some o->g1.get? b=some o:=fun b o hb q=>by rw[eg];exact(Heap.get?_update_ne _ _ _ _ hb).trans (zAu _ q)
 have fin:Q .none ⟨g1,g,d,t,os⟩:=by
  refine h g1 ⟨_,_,gx,Obj.cls_mapFields _ _,d3,oE _ _,by simp[v1]⟩ gk fun b q=>?_;by_cases hb:b=a
  .rw[hb,gx];exact fun z=>nomatch z
  .cases z:hh.get? b with
   |none=>exact absurd z q
   |some o=>rw[gk b o hb z];exact fun z=>nomatch z
 unfold Builtin.BaseException.bexcPut;refine wpAny_bind (wpAny_bind (wpAny_field cx rfl v0 (wpAny_bind (wpAny_setField cx rfl Zz ?_))));dsimp only;rw[<-eg]
 cases x0 with
 |ref r=>exact wpAny_letGo (zAz fin)
 |_=>exact zAz (zAz fin)
end
def mmAt(D:Addr)(fs:List (Str×Int))(h:Heap):Prop:=∃mA,h.Ns1 D mA/\(∀f i,fs.lookup f=some i->∃t,mA f=some (.int i t))/\PySem.Within mA (fs.map (·.1))
theorem mmAt.ok{P:Program}{w:World}{H:Hp}{h:Heap}{D:Addr}{fs:List (Str×Int)}(x:mmAt D fs h):ObjOk P w H h D (.ext (mmAt D fs)):=
 ⟨x,(let⟨_,⟨o,_,_,e,_⟩,_⟩:=x;⟨o,e⟩),fun h1 h2 z k=>(let⟨mA,⟨o,es,ep,e,r⟩,q⟩:=z;⟨mA,⟨o,es,ep,k o e,r⟩,q⟩)⟩
structure MakC(K:Frag)(C:Addr):Prop where
 ve:mroIn K C (.type "ValueError")=some true
 sa:findIn K (.ref C) "__setattr__"=some (some (.builtin "object.__setattr__"))
 ov:lw K C=true
 hd:hasDictIn K C=true
def Gw(K:Frag)(ta tv:TE)(f:Str):TS:=fun D σ H=>tv σ H fun y H1=>ta σ H1 fun x H2=>∃(a:Addr) (C:XC) (i:Int),x=.ref a/\y=.int i/\H2 a=some (.ext (excN a C))/\MakC K C.1/\findIn K (.ref C.1) f=some none /\
 ((C.2=none/\∀d,H2 d=none->d≠a->D.nx σ (upd (upd H2 a (.ext (excN a (C.1,some d)))) d (.ext (mmAt d [(f,i)])))) \/
  ∃d fs,C.2=some d/\d≠a/\H2 d=some (.ext (mmAt d fs))/\fs.length<1000/\D.nx σ (upd H2 d (.ext (mmAt d ((f,i)::fs)))))
section
variable{X:Cx}{o value:Expr}{f:Str}{pos pos':Pos}{ta tv:TE}
theorem vV(hx:X.ex=[])(ha:PE X o ta)(hv:PE X value tv)(hs:swapsWith value (some (.Attribute o f pos')) pos.line X.env=pure false):PS X (.Assign [.Attribute o f pos'] value pos) (Gw X.K ta tv f):=by
 intro Zt s σ H D I h;refine plainObj_wpAny_Assign_Attribute (thn (hv Zt s σ H _ I h) fun u s1 ⟨y,H1,I1,ry,q⟩=>thn (ha Zt s1 σ H1 _ I1 q) fun ov s2 ⟨x,H2,I2,rx,a,C,i,ex,ey,ea,M,nf,q2⟩=>?_) hs;subst ex ey;obtain rfl:ov=Value.ref a:=rx;obtain⟨t,rfl⟩:∃t,u=Value.int i t:=ry
 obtain⟨en,_⟩:=(show ObjOk X.prog X.w H2 s2.heap a (.ext (excN a C))from I2.hok a _ ea)
 rcases q2 with⟨z,q2⟩|⟨d,fs,z,nd,ed,lf,q2⟩
 .refine vU (mA:=fun _=>none) (ns:=[]) I2.kIn en (.inl ⟨z,fun _=>rfl⟩) M.sa M.ov nf M.hd (fun _ y=>absurd rfl y) (zAp _) fun h' d tk qB nd hn hD k1 k2 _=>?_
  have AD:s2.heap.get? d=none:=by
   rcases hD with y|y
   .rw[z]at y;cases y
   .exact y.2
  have al:∀b o,s2.heap.get? b=some o->d≠b:=fun b o e y=>by rw[<-y,AD]at e;cases e
  have J1:Inv X Zt σ (upd H2 a (.ext (excN a (C.1,some d)))) {s2 with heap:=h',toks:=tk}:=I2.write (x:=a) (e:=a) (by rw[ea];trivial) (.inl rfl) (fun b u hb y=>k1 b u hb (by rw[z];exact fun q=>nomatch q) y) (let⟨o,_,e,_⟩:=qB;⟨o,e⟩) (excN.ok qB);refine⟨σ,_,J1.track (o:=.ext (mmAt d [(f,i)])) hx (by rw[ao nd];exact I2.hok.no AD) (I2.was hx AD) ?_ (fun x c e=>?_) (fun p hp=>?_) (mmAt.ok ⟨_,hn,fun g j e=>?_,fun g e=>?_⟩),q2 d (I2.hok.no AD) nd⟩
  .obtain⟨m,⟨ol,_,_,el,_⟩,_⟩:=I2.loc;exact al _ _ el
  .obtain⟨v,oc,ec,_⟩:=I2.cell x c e;exact(al _ _ ec).symm
  .exact(al _ _ (I2.pin p hp).1).symm
  .rw[List.lookup_cons]at e;by_cases y:g=f
   .rw[y,beq_self_eq_true]at e;cases e;exact⟨t,by rw[zAx y]⟩
   .rw[beq_false_of_ne y]at e;cases e
  .by_cases y:g=f
   .rw[y];exact List.mem_singleton.mpr rfl
   .exact absurd (zAw y) e
 .obtain⟨⟨mA,hn,hl,hw⟩,_⟩:=(show ObjOk X.prog X.w H2 s2.heap d (.ext (mmAt d fs))from I2.hok d _ ed)
  refine vU (mA:=mA) (ns:=fs.map (·.1)) I2.kIn en (.inr ⟨d,z,nd,hn⟩) M.sa M.ov nf M.hd hw (by rw[zA1,sizeLine_eq];lia) fun h' d' tk qB OZ gy hD k1 k2 k3=>?_
  have e':d'=d:=by
   rcases hD with y|y
   .rw[z]at y;cases y;rfl
   .rw[z]at y;cases y.1
  subst e';refine⟨σ,_,I2.write (x:=d') (e:=d') (o:=.ext (mmAt d' ((f,i)::fs))) (by rw[ed];trivial) (.inl rfl) (fun b u hb y=>?_) (let⟨o,_,_,e,_⟩:=gy;⟨o,e⟩) (mmAt.ok ⟨_,gy,fun g j e=>?_,fun g e=>?_⟩),q2⟩
  .by_cases ha:b=a
   .rw[ha]at y⊢;rw[k3 (by rw[z];exact fun q=>nomatch q)];exact y
   .exact k1 b u ha (by rw[z];exact fun q=>hb (zAl q).symm) y
  .rw[List.lookup_cons]at e;by_cases y:g=f
   .rw[y,beq_self_eq_true]at e;cases e;exact⟨t,by rw[zAx y]⟩
   .rw[beq_false_of_ne y]at e;rw[zAw y];exact hl g j e
  .by_cases y:g=f
   .rw[y];exact List.mem_cons_self
   .exact List.mem_cons_of_mem _ (hw g fun q=>e ((zAw y).trans q))
end
def tFs(t1 t2:TE):TE:=fun σ H Q=>t1 σ H fun x H1=>∃i:Int,x=.int i/\i.natAbs<=1000/\t2 σ H1 fun y H2=>∃j:Int,y=.int j/\j.natAbs<=1000/\∀z,Q (.str z) H2
theorem oH{i:Int}(h:i.natAbs<=1000):i.natAbs.log2<1920:=by
 rcases Nat.eq_zero_or_pos i.natAbs with z|z
 .rw[z];decide
 .exact Nat.lt_trans ((Nat.log2_lt Zz).mpr (show i.natAbs<2^10 by lia)) Zx
theorem oJ{i:Int}(h:i.natAbs<=1000):(Str.ofString (toString i)).length<=100:=by
 have e:=int_text_length_le10 (k:=4) (a:=i) Zx Zz;rw[PySem.ofString_length];lia
section
variable{X:Cx}
theorem BP{v1 v2:Expr}{y1 y2:Str}{k1 k2:Nat}{p1 p2 q1 q2 pos:Pos}{t1 t2:TE}(h1:PE X v1 t1)(h2:PE X v2 t2)(l1:y1.length<=100)(l2:y2.length<=100):
  PE X (.JoinedStr [.FormattedValue v1 (-1) none p1,.Constant (.str y1) k1 q1,.FormattedValue v2 (-1) none p2,.Constant (.str y2) k2 q2] pos) (tFs t1 t2):=by
 intro Zt s σ H Q I h;have ln:∀a b:Str,(a++b).length=a.length+b.length:=fun a b=>strLen_append a b;refine wpAny_JoinedStr ?_;refine wpAny_FormattedValue_plain (thn (h1 Zt s σ H _ I h) fun u s1 ⟨x,H1,I1,rx,i,ex,li,h3⟩=>?_);subst ex;obtain⟨t,rfl⟩:∃t,u=Value.int i t:=rx;have n1:=oJ li;refine wpAny_formatField_int (oH li) ⟨_,_,rfl,by rw[ln,sizeLine_eq];show 0+_<=_;lia,?_⟩;refine Calls.Constant_str ⟨_,_,rfl,by rw[ln,ln,sizeLine_eq];show 0+_+_<=_;lia,?_⟩;have I2:=I1.tok (s1.toks+1+1+1);refine wpAny_FormattedValue_plain (thn (h2 Zt _ σ H1 _ I2 h3) fun u s2 ⟨x,H2,I3,rx,j,ex,lj,h4⟩=>?_);subst ex;obtain⟨t,rfl⟩:∃t,u=Value.int j t:=rx;have n2:=oJ lj;refine wpAny_formatField_int (oH lj) ⟨_,_,rfl,by rw[ln,ln,ln,sizeLine_eq];show 0+_+_+_<=_;lia,?_⟩;have IX:(Str.empty++Str.ofString (toString i)++y1++Str.ofString (toString j)++y2).length<=sizeLine:=by rw[ln,ln,ln,ln,sizeLine_eq];show 0+_+_+_+_<=_;lia
 refine Calls.Constant_str ⟨_,_,rfl,IX,IX,?_⟩;exact⟨.str (Str.empty++Str.ofString (toString i)++y1++Str.ofString (toString j)++y2),H2,I3.tok _,⟨_,rfl⟩,h4 _⟩
structure Base0(K:Frag)(W:Addr):Prop where
 gm:specialIn K (.ref W) "__getattribute__"=some (some (.builtin "type.__getattribute__"))
 rd:readsIn K W (.type "type")=true
 fc:findCls K (.ref W) (.type "type") "__init__"=some (.val (.builtin "ValueError.__init__"))
def Fd(K:Frag)(t:TA):TE:=fun σ H Q=>t σ H fun vs H1=>∃(a:Addr) (C:XC) (zs:List V),vs=.ref a::zs/\zs.length<=100/\H1 a=some (.ext (excN a C))/\C.2=none/\mroIn K C.1 (.type "ValueError")=some true/\Q .non (upd H1 a (.ext (excN a C)))
theorem zM{x:Str}{W:Addr}{p apos pos:Pos}{e:Expr}{es:List Expr}{t:TA}{pl:Sem Bool}(hg:Gl X x)(hm:X.mg x=some (.ref W))(B:Base0 X.K W)(ha:PA X (e::es) t)(bb:(x==("__debug__":Str))=false:=by decide)
  (a9:starEach (e::es) X.env=(false,eval e X.env)::starEach es X.env:=by rfl) (aS:(backTo pos (starEach es X.env)).any (·.1)=false:=by rfl)
  (ht:eval (.Call (.Attribute (.Name x p) "__init__" apos) (e::es) [] pos) X.env=(do
   let ov <-eval (.Name x p) X.env
   standAt apos.atName
   let(f,first) <-holding [ov] (getMethod ov "__init__" pl)
   callWith pos f first (backTo pos (starEach (e::es) X.env)) (backToKw pos (keywordEach [] X.env))):=by rfl):
  PE X (.Call (.Attribute (.Name x p) "__init__" apos) (e::es) [] pos) (Fd X.K t):=by
 intro Zt s σ H Q I h;refine methodCall_KW (pl:=pl) (dY I hg hm ?_ bb) ht;refine method_cls I.kIn B.gm (cls_value I.kIn B.rd B.fc rfl ?_);have I0:=I.tok (s.toks+1);refine PyProof.Rows.callWith_builtin1 (thn (ha pos Zt _ σ H _ I0 h) fun us s1 ⟨vs,H1,I1,r,a,C,zs,ev,lz,ea,cd,mv,q⟩=>?_) a9 aS;subst ev
 obtain⟨u,us,rfl,ra,rz⟩:∃u us',us=u::us'/\RelV (.ref a) u/\Vals zs us':=by
  cases r with
  |cons ra rz=>exact⟨_,_,rfl,ra,rz⟩
 obtain rfl:u=Value.ref a:=ra
 obtain⟨en,_⟩:=(show ObjOk X.prog X.w H1 s1.heap a (.ext (excN a C))from I1.hok a _ ea)
 refine xK I1.kIn en (fun D z=>by rw[cd]at z;cases z) mv (by rw[<-Vals.length rz,sizeLine_eq];lia) fun h' qB k1 k2=>?_;exact⟨.non,_,I1.write (t':=s1.toks) (x:=a) (e:=a) (by rw[ea];trivial) (.inl rfl) k1 (let⟨o,_,e,_⟩:=qB;⟨o,e⟩) (excN.ok qB),rfl,q⟩
end
section
variable{prog:Program}{w:World}{A:Around}{E:Value->Shared->Prop}{h:Heap}{g:Array GenState}{d:Drawn}{t:Nat}{os:OsState}
variable{nm q:Str}{C N:Addr}{bs bm cw:List Value}{hdct:Bool}{sn:List Str}{sub:List Value}{ab:Bool}{col:Option Bool}{dd:Option Addr}{k0 k1 k2 k3 k5:Option Value}{B newId aI:String}
theorem uM(F:ExcBaseFacts B newId aI cw)(T:OwnTail h cw bm){mN:Str->Option Value}{rest:List Value}{fI:Addr}{oI:Obj}{Q:Fin->Shared->Prop}
  (hC:h.get? C=some (excClassObj nm q C N bs bm hdct sn sub ab col dd k0 k1 k2 k3 k5 newId)) (hn:h.Ns N mN) (hi:mN "__init__"=some (.ref fI)) (CM:h.get? fI=some oI) (CO:oI.cls=.type "function")
  (hq:∀h' e,h.objs.size<=e->Heap.MadeExcOf h h' e (.ref C) rest->wpAny (model prog w) A (call (.ref fI) (.ref e::rest)) (fun r s'=>r=.none/\Q (.done (.ret (.ref e))) s') E ⟨h',g,d,t,os⟩) (ia:rest.length<=sizeLine):
  wpAny (model prog w) A (Builtin.«type.__call__» ⟨.ref C::rest,[]⟩) Q E ⟨h,g,d,t,os⟩:=by
 repeat (first|with_reducible refine wpAny_loadPart_at hC ?_|with_reducible refine wpAny_madeBy_exc hC ?_|wp_step)
 refine codeAny_call_builtin_code (Code.quiet_builtin _ F.quiet) (wpAny_check_new_subT F T hC (codeAny_exc_new_subT F T hC ?_ ia));show wpAny _ _ _ _ _ _
 obtain⟨o1,e1⟩:∃o1:Obj,o1={cls:=.type "tuple",data:=.seq rest.toArray}:=⟨_,rfl⟩
 obtain⟨o2,e2⟩:∃o2:Obj,o2={cls:=.ref C,data:=.fields #[.ref h.objs.size,.none,.none,.none,.bool false,.none]}:=⟨_,rfl⟩
 rw[<-e1,<-e2];have kp:∀b o,h.get? b=some o->((h.push o1).push o2).get? b=some o:=fun b o hb=>zAu _ (zAu _ hb)
 have uj:((h.push o1).push o2).Ns N mN:=let⟨o,es,ep,e,r⟩:=hn;⟨o,es,ep,kp _ _ e,r⟩
 have uk:((h.push o1).push o2).get? (h.objs.size+1)=some {cls:=.ref C,data:=.fields #[.ref h.objs.size,.none,.none,.none,.bool false,.none]}:=by rw[e2];exact Heap.get?_push_at (by rw[Heap.size_push]) rfl
 have mh:=kp _ _ hC;have CS:=T.keeps kp;have K0:(Value.ref C::bm).contains (.ref C)=true:=by simp
 unfold isInstance
 repeat (first|with_reducible refine wpAny_loadPart_at uk ?_ | (with_reducible refine wpAny_isSubtype_exc mh ?_;rw[K0])|wp_step)
 show wpAny _ _ (typeLookup (.ref C) _) _ _ _;refine wpAny_typeLookup_tail mh uj CS F.mroIs F.init.lookup ?_;rw[hi];refine wpAny_holding (zAt ?_);unfold bindSpecial;refine zAt (wpAny_typeOf (T:="function") ⟨_,kp _ _ CM,CO⟩ ?_);rw[zAx Zx];refine zAz (zAt (wpAny_mono (hq _ (h.objs.size+1) (Nat.le_succ _) ⟨kp,Heap.get?_none_of_le (Nat.le_succ _),h.objs.size,uk,Heap.get?_none_of_le (zA3 _),?_⟩) (fun r s' hr=>?_) fun _ _ x=>x))
 .rw[e1];exact zAu _ (Heap.get?_push_at rfl rfl)
 .obtain⟨rfl,hQ⟩:=hr
  wp_walk
  exact hQ
theorem xM(F:ExcBaseFacts B newId aI cw)(T:OwnTail h cw bm){mN:Str->Option Value}{rest:List Value}{fI:Addr}{oI:Obj}{Q:Value->Shared->Prop}
  (hC:h.get? C=some (excClassObj nm q C N bs bm hdct sn sub ab col dd k0 k1 k2 k3 k5 newId)) (hn:h.Ns N mN) (hi:mN "__init__"=some (.ref fI)) (CM:h.get? fI=some oI) (CO:oI.cls=.type "function")
  (hq:∀h' e,h.objs.size<=e->Heap.MadeExcOf h h' e (.ref C) rest->wpAny (model prog w) (A.under (.builtin "type.__call__" ⟨.ref C::rest,[]⟩)) (call (.ref fI) (.ref e::rest)) (fun r s'=>r=.none/\Q (.ref e) s') E ⟨h',g,d,t,os⟩) (ia:rest.length<=sizeLine):
  wpAny (model prog w) A (call (.ref C) rest) Q E ⟨h,g,d,t,os⟩:=by
 have f1:=tc_lookup;have f2:=tc_bind (.ref C)
 have hT:(⟨h,g,d,t,os⟩:Shared).TypeIs (.ref C) "type":=⟨_,hC,rfl⟩
 refine wpAny_call (codeAny_of_tree ?_);show wpAny _ _ (callAny (.ref C) _) _ _ _
 repeat (any_goals (first|assumption|with_reducible refine wpAny_loadPart_at hC ?_|wp_step))
 refine⟨rfl,codeAny_call_builtin_at (Code.quiet_builtin _ Zv) entry_typeCall (wpAny_check_type_call_sub hC (uM F T hC hn hi CM CO (fun h' e hz hm=>hq h' e hz hm) ia))⟩
end
def uN(K:Frag)(C:Addr)(cw:List Value)(newId:String)(fI:Addr):Bool:=match K.lookup C with
 |some ⟨.type "type",_,.cls cd,sl⟩=>(match cd.mro,sl.toList with
  |.ref C'::bm,[_,_,_,_,some (.builtin n),_]=>C'==C&&n==newId&&!cd.hasDel&&tailIn K cw bm&&nsOkIn K cd.ns&&nsIn K cd.ns "__init__"==some (some (.ref fI))
  |_,_=>false)
 |_=>false
structure OwnInit(C:Addr)(cw:List Value)(newId:String)(fI:Addr)(h:Heap):Prop where
 obj:∃bm N nm q bs hdct sn sub ab col dd k0 k1 k2 k3 k5 mN,h.get? C=some (excClassObj nm q C N bs bm hdct sn sub ab col dd k0 k1 k2 k3 k5 newId)/\h.Ns N mN/\mN "__init__"=some (.ref fI)/\OwnTail h cw bm
theorem uO{K:Frag}{h:Heap}{N:Addr}{mg:Str->Option Value}{n:Str}{v:Value}(X:K.In h)(G:h.Ns N mg)(e:nsIn K N n=some (some v)):mg n=some v:=by
 obtain⟨o,es,ep,ho,hd,_,hf⟩:=G;unfold nsIn at e;split at e
 .rename_i c d c9 n' sl q
  have:=X _ _ q;rw[ho]at this;cases this;cases hd;split at e
  .rename_i y he
   cases e;rw[<-hf];unfold nsFind findBy;rw[<-Array.find?_toList,he];rfl
  .split at e<;>cases e
 .cases e
theorem BR{K:Frag}{h:Heap}{C fI:Addr}{cw:List Value}{newId:String}(X:K.In h)(q:uN K C cw newId fI=true):OwnInit C cw newId fI h:=by
 refine⟨?_⟩;unfold uN at q;split at q
 .rename_i dd cd sl ho
  split at q
  .rename_i C' bm k0 k1 k2 k3 n k5 hm' hs
   simp only[Bool.and_eq_true,beq_iff_eq,Bool.not_eq_true']at q;obtain⟨⟨⟨⟨⟨rfl,rfl⟩,hZ⟩,ht⟩,hok⟩,nV⟩:=q;obtain⟨nm,bs,mro,ns,qn,hd,sn,sub,ab,col,del⟩:=cd;dsimp only at hm' hZ hok nV;subst hm' hZ;obtain⟨l⟩:=sl;have hs:l=_:=hs;subst hs;have G:h.Ns ns (h.nsMap ns):=.of_isNs (isNs_of_in X hok);exact⟨bm,ns,nm,qn,bs,hd,sn,sub,ab,col,dd,k0,k1,k2,k3,k5,_,X _ _ ho,G,uO X G nV,tail_of_in X ht⟩
  .cases q
 .cases q
section
variable{X:Cx}{Zt:List (Addr×Obj)}{σ:St}{H:Hp}{s:Shared}
theorem xN{C f:Addr}{fd:FuncData}{k:Nat}{ps:List Str}{sp:Sp}{B newId aI:String}{cw:List Value}{us:List Value}{vs:List V}{Q:Addr->Hp->Prop}(O:OwnInit C cw newId f X.base)(FB:ExcBaseFacts B newId aI cw)(fn:typeIn X.K (.ref f)=some (.type "function"))
  (F:FnOk X.prog X.w X.K X.mg X.base CX0 k f fd ps sp) (hr:Room (k+1) X.A) (hb:Binds X.K fd ps []) (I:Inv X Zt σ H s) (r:Vals vs us) (hl:us.length<=sizeLine)
  (h:∀a,H a=none->sp (.ref a::vs) (upd H a (.ext (excN a (C,none)))) (fun v H2=>v=.non/\Q a H2) E0):
  wpAny (model X.prog X.w) X.A (call (.ref C) us) (fun v s'=>∃a H2,v=.ref a/\s.heap.get? a=none/\Inv X Zt σ H2 s'/\Q a H2) X.xe s:=by
 obtain⟨bm,N,nm,q,bs,hdct,sn,sub,ab,col,dd,k0,k1,k2,k3,k5,mN,hC,hN,hi,T⟩:=O.obj
 obtain⟨oI,K1,K3⟩:∃oI,s.heap.get? f=some oI/\oI.cls=.type "function":=by
  obtain⟨oI,z,y⟩:=Option.map_eq_some_iff.mp fn;exact⟨oI,I.kIn _ _ z,y⟩
 have K4:=hN.keeps I.bk;have T':=T.keeps I.bk;have K6:=I.bk _ _ hC;obtain⟨hh,g,d,t,os⟩:=s;refine xM FB T' K6 K4 hi K1 K3 (fun h' a sz me=>?_) hl;obtain⟨tt,e1,e2,e3⟩:=me.there;have na:hh.get? a=none:=me.new
 have en:excN a (C,none) h':=⟨_,_,e1,rfl,rfl,rfl,rfl⟩
 have I2:Inv X Zt σ (upd H a (.ext (excN a (C,none)))) ⟨h',g,d,t,os⟩:=I.laid (t':=t) me.keeps sz (excN.ok en);have hq:=h a (I.hok.no na);have r2:Vals (V.ref a::vs) (Value.ref a::us):=.cons rfl r
 have hlen:(Value.ref a::us++[]).length=ps.length:=by
  have e:=r2.length;rw[F.len _ _ _ _ hq]at e;rw[zAn];exact e.symm
 have md:=hb ⟨h',g,d,t,os⟩ (Value.ref a::us) I2.kIn hlen;rw[zAn]at md;refine wpAny_call (codeAny_mono (F.run _ X.stack _ _ ⟨Value.ref a::us,[]⟩ (Value.ref a::us) _ _ E0 (hr.make C us []) (I2.env0.make C us []) md r2 hq) fun r s' gg=>?_)
 cases r with
 |error e=>exact(show False from gg).elim
 |ok fl=>
  cases fl with
  |ret u=>
   obtain⟨v,H',I3,rv,ev,q3⟩:=I2.after gg;subst ev;exact⟨rv,a,H',rfl,na,I3,q3⟩
  |next=>exact False.elim gg
  |brk=>exact False.elim gg
  |cont=>exact False.elim gg
def drp(H:Hp)(a:Addr):Hp:=fun b=>if b=a then none else H b
theorem jn{H:Hp}{a:Addr}:drp H a a=none:=zAx rfl
theorem lY{H:Hp}{a b:Addr}(h:b≠a):drp H a b=H b:=zAw h
theorem Inv.untrack{a:Addr}{φ:Heap->Prop}(I:Inv X Zt σ H s)(hx:X.ex=[])(na:X.s₀.heap.get? a=none)(e:H a=some (.ext φ)):Inv X Zt σ (drp H a) s:=by
 have up:∀{b:Addr} {o:HO},H b=some o->(∀ψ,o≠.ext ψ)->drp H a b=some o:=fun{b o} q n=>by
  rw[lY fun z=>by rw[z,e]at q;cases q;exact n _ rfl];exact q
 have un:∀b,H b=none->drp H a b=none:=fun b q=>by
  by_cases z:b=a
  .rw[z];exact jn
  .rw[lY z];exact q
 refine⟨I.ok,I.os,I.bare,⟨I.base.keep,I.base.slot,fun b o h1 h2 h3=>un b (I.base.free b o h1 h2 h3),I.base.there,fun b xs h1=>up (I.base.tups b xs h1) fun ψ=>(fun z=>nomatch z),fun b o u h1=>up (I.base.frzs b o u h1) fun ψ=>(fun z=>nomatch z),fun b qs h1=>(let⟨m,q⟩:=I.base.tbls b qs h1;⟨m,up q fun ψ=>(fun z=>nomatch z)⟩)⟩,
  I.loc,I.cell,un _ I.free,fun x c h1=>un _ (I.freeC x c h1),fun p hp=>(let⟨h1,h2,h3⟩:=I.pin p hp;⟨h1,un _ h2,h3⟩),fun b o h1=>?_,I.len⟩
 have hb:b≠a:=fun z=>by rw[z,jn]at h1;cases h1
 rw[lY hb]at h1
 exact(I.hok b o h1).stay (fun _ _ _ z=>z) (fun c z=>up z fun ψ=>(fun z=>nomatch z)) fun c xs z=>up z fun ψ=>(fun z=>nomatch z)
def BV(C:Addr)(sp:Sp)(EX:Addr->XC->Hp->Prop)(t:TA):TS:=fun _ σ H=>t σ H fun vs H1=>vs.length<=100/\∀a,H1 a=none->sp (.ref a::vs) (upd H1 a (.ext (excN a (C,none)))) (fun v H2=>v=.non/\∃D,H2 a=some (.ext (excN a (C,some D)))/\(∃o,H2 D=some o)/\D≠a/\EX a (C,some D) (drp H2 a)) E0
theorem xO{x:Str}{C f:Addr}{fd:FuncData}{k:Nat}{ps:List Str}{sp:Sp}{B newId aI:String}{cw:List Value}{EX:Addr->XC->Hp->Prop}{np ar pos:Pos}{e:Expr}{es:List Expr}{t:TA}(O:OwnInit C cw newId f X.base)(FB:ExcBaseFacts B newId aI cw)(fn:typeIn X.K (.ref f)=some (.type "function"))(kp:keepIn X.K (.ref C)=true)
  (be:mroIn X.K C (.type "BaseException")=some true) (F:FnOk X.prog X.w X.K X.mg X.base CX0 k f fd ps sp) (hr:Room (k+1) X.A) (hb:Binds X.K fd ps []) (hc:X.calm=true) (hx:X.ex=[]) (hg:Gl X x) (hm:X.mg x=some (.ref C)) (ha:PA X (e::es) t) (W:nG X EX)
  (bb:(x==("__debug__":Str))=false:=by decide) (he:starEach (e::es) X.env=(false,eval e X.env)::starEach es X.env:=by rfl) (aS:(backTo ar (starEach es X.env)).any (·.1)=false:=by rfl):
  PS X (.Raise (some (.Call (.Name x np) (e::es) [] ar)) none pos) (BV C sp EX t):=by
 intro Zt s σ H D I h;rw[arm_exec_Raise];refine zAt (wpAny_standAt ?_);show wpAny _ _ (raiseStmt X.env (some (do let v <-eval (.Call (.Name x np) (e::es) [] ar) X.env;standAt pos;pure v)) none) _ _ _;unfold raiseStmt;refine zAt (zAt ?_);refine wpAny_Call_Name_kw (dY I hg hm ?_ bb);refine callWith_K (h₀:=X.base) I.ok.mod.kin kp (thn (ha ar Zt s σ H _ I h) fun us s1 ⟨vs,H1,I1,r,hl,q⟩=>⟨I1.kIn,?_⟩) he aS;refine wpAny_mono (xN (Q:=fun a H2=>∃D,H2 a=some (.ext (excN a (C,some D)))/\(∃o,H2 D=some o)/\D≠a/\EX a (C,some D) (drp H2 a)) O FB fn F hr hb I1 r (by show us.length<=_;rw[<-r.length,sizeLine_eq];lia) q) (fun v s2 z=>?_) fun _ _ z=>z;obtain⟨a,H2,rfl,na,I2,D',eA,⟨oD,eD⟩,nD,qX⟩:=z;refine zAt (wpAny_standAt (zAz ?_))
 obtain⟨en,_⟩:=(show ObjOk X.prog X.w H2 s2.heap a (.ext (excN a (C,some D')))from I2.hok a _ eA)
 obtain⟨⟨oc,od,IW,c6⟩,ws,eo,c,dt,dd,v1⟩:=id en;dsimp only at c dt dd;subst c dt dd;have L0:Looks (model X.prog X.w) s2.heap (isSubtype (.ref C) (.type "BaseException")) true:=looks_mroIn I2.kIn be
 have hX:X.xe (.ref a) s2:=by
  have IY:=I1.was hx na;refine W Zt σ (drp H2 a) s2 a (C,some D') .none (I2.untrack hx IY eA) en.fly IY jn (fun T z=>by cases z) (fun p hp=>⟨fun z=>?_,fun z=>by cases z⟩) qX;have n1:=(I2.pin p hp).2.1;rw[z,eA]at n1;cases n1
 obtain⟨bm,N,nm,qn,bs,hdct,sn,sub,ab,col,dd,k0,k1,k2,k3,k5,mN,hC,_⟩:=O.obj;have hC:=I2.bk _ _ hC;obtain⟨hh,g,d,tk,os⟩:=s2
 repeat (first|with_reducible refine wpAny_loadPart_at eo ?_|with_reducible refine L0.at ?_|with_reducible refine wpAny_loadPart_at hC ?_|with_reducible refine wpAny_field eo rfl v1 ?_|wp_step)
 exact wpAny_raiseNew_none (I.ok.hd hc) hX
end
theorem oK{a f p}:Plain (.Attribute a f p):=⟨fun _ _=>rfl⟩
def Hz(K:Frag)(ta:TE)(f:Str):TE:=fun σ H Q=>ta σ H fun x H1=>∃(a:Addr) (C:XC) (D:Addr) (fs:List (Str×Int)) (i:Int),x=.ref a/\H1 a=some (.ext (excAt a C))/\C.2=some D/\H1 D=some (.ext (mmAt D fs))/\fs.lookup f=some i /\
 ExcC K C.1/\findIn K (.ref C.1) f=some none/\hasDictIn K C.1=true/\Q (.int i) H1
theorem zN{X:Cx}{o:Expr}{f:Str}{pos:Pos}{ta:TE}(ha:PE X o ta)(hb:attributeBase o f X.env (eval o X.env)=eval o X.env:=by rfl):PE X (.Attribute o f pos) (Hz X.K ta f):=by
 intro Zt s σ H Q I h;refine vB hb (thn (ha Zt s σ H _ I h) fun u s1 ⟨x,H1,I1,rx,a,C,D,fs,i,ex,ea,cD,eD,lf,Z,nf,hd,q⟩=>?_);subst ex;obtain rfl:u=Value.ref a:=rx
 obtain⟨en,_⟩:=(show ObjOk X.prog X.w H1 s1.heap a (.ext (excAt a C))from I1.hok a _ ea)
 obtain⟨⟨mA,hn,hl,hw⟩,_⟩:=(show ObjOk X.prog X.w H1 s1.heap D (.ext (mmAt D fs))from I1.hok D _ eD)
 obtain⟨t,hv⟩:=hl f i lf;obtain⟨od,ho,hk⟩:=nP hn;obtain⟨o1,vs,e,c,dt,dd⟩:=en
 have J:InstAt s1.heap a o1 C.1 (some od):=⟨e,c,by unfold notCls;rw[dt],by rw[dd,cD];exact ho⟩
 exact BL I1.kIn J Z.ga Z.gb (findObj_own hd nf rfl (by rw[hk,hv])) rfl Z.be ⟨.int i,H1,I1.tok _,⟨_,rfl⟩,q⟩
theorem tG(a b:Bool):MeetsSeq.EqGives (.bool a) (.bool b) (a==b):=fun prog w A E s Q h=>PySem.SeqAt.EqAt.bool_bool (A:=A) (s:=s) a b prog w E Q h
def isB(k:Bool):Value->Bool
 |.bool n=>n==k
 |_=>false
theorem tH(bs:List Bool)(k:Bool):((bs.map Value.bool).toArray.toList.countP (isB k))=bs.count k:=by
 rw[List.toList_toArray,List.countP_map];rfl
inductive RCountBI(x:V)(vs:List V)(H:Hp)(Q:VK):Prop
 |mk:∀(l:Addr) (bs:List Bool) (k:Bool),(x=.ref l)->(vs=[.bl k])->(H l=some (.lst (bs.map V.bl)))->(Q (.int (bs.count k:Nat)) H)->RCountBI  x vs H Q
def vW:V->List V->Hp->VK->Prop:=fun x vs H Q=>RCountBI  x vs H Q
section
variable{X:Cx}
theorem xP:MtM X "list.count" vW:=by
 intro Zt s σ H x vs v us Q I rx rv h;obtain⟨l,bs,k,rfl,rfl,hH,q⟩:=h;cases rx;obtain⟨u,rfl,ru⟩:=vals1 rv;cases(show u=Value.bool k from ru);obtain⟨z,Zr,n,r,hl,e⟩:=I.lstM hH;have ei:Zr=bs.map Value.bool:=fZ r;subst ei;refine call_meets F.slot_list_count ⟨_,e,rfl⟩ F.entry_list_count (F.args_list_count_2 _ _) (MeetsSeq.list_count l (bs.map Value.bool).toArray n (.bool k) (isB k) (fun y hy=>?_)) ⟨e,?_⟩
 .obtain⟨b,_,rfl⟩:=List.mem_map.mp (show y∈bs.map Value.bool by simpa using hy);exact tG b k
 .refine⟨.int (bs.count k:Nat),H,I.tok _,⟨s.toks,?_⟩,q⟩;rw[tH]
inductive RIndexBI(x:V)(vs:List V)(H:Hp)(Q:VK):Prop
 |mk:∀(l:Addr) (bs:List Bool) (k:Bool) (j:Nat),(x=.ref l)->(vs=[.bl k])->(H l=some (.lst (bs.map V.bl)))->(bs[j]?=some k)->((∀i,i<j->bs[i]?≠some k))->(Q (.int j) H)->RIndexBI  x vs H Q
def vX:V->List V->Hp->VK->Prop:=fun x vs H Q=>RIndexBI  x vs H Q
theorem xQ:MtM X "list.index" vX:=by
 intro Zt s σ H x vs v us Q I rx rv h;obtain⟨l,bs,k,j,rfl,rfl,hH,hj,K7,q⟩:=h;cases rx;obtain⟨u,rfl,ru⟩:=vals1 rv;cases(show u=Value.bool k from ru);obtain⟨z,Zr,n,r,hl,e⟩:=I.lstM hH;have ei:Zr=bs.map Value.bool:=fZ r;subst ei;rw[zA1]at z;rw[sizeLine_eq]at z;have K8:=(zAa.mp hj).1
 have gt:∀m (hm:m<(bs.map Value.bool).toArray.size),(bs.map Value.bool).toArray[m]=Value.bool (bs[m]'(by simpa using hm)):=fun m hm=>by simp
 refine call_meets F.slot_list_index ⟨_,e,rfl⟩ F.entry_list_index (F.args_list_index_2 _ _) (MeetsSeq.list_index l (bs.map Value.bool).toArray n (.bool k) (isB k) (fun y hy=>?_) j (by simpa using K8) Zz ?_ fun m hm av=>?_) ⟨e,⟨.int j,H,I.tok _,⟨_,rfl⟩,q⟩⟩
 .obtain⟨b,_,rfl⟩:=List.mem_map.mp (show y∈bs.map Value.bool by simpa using hy);exact tG b k
 .rw[gt,(zAa.mp hj).2];exact beq_self_eq_true k
 .rw[gt];refine beq_false_of_ne fun c=>K7 m av ?_;rw[List.getElem?_eq_getElem (by simpa using hm),c]
end
def er(H:Hp)(cs:List (Addr×Obj)):Hp:=fun b=>if(cs.lookup b).isSome=true then none else H b
def fz(H:Hp)(cs:List (Addr×Obj)):Hp:=fun b=>match cs.lookup b with
 |some o=>some (.frz o (.ext fun _=>True))
 |none=>H b
section
variable{P:Program}{w:World}{H H':Hp}{h h':Heap}{cs:List (Addr×Obj)}{fs:List Addr}
theorem oM{b:Addr}{o:Obj}(e:cs.lookup b=some o):fz H cs b=some (.frz o (.ext fun _=>True)):=by unfold fz;rw[e]
theorem cQ{b:Addr}(e:cs.lookup b=none):fz H cs b=H b:=by unfold fz;rw[e]
theorem iM{b:Addr}{o:Obj}(e:cs.lookup b=some o):er H cs b=none:=by unfold er;rw[e];rfl
theorem dH{b:Addr}(e:cs.lookup b=none):er H cs b=H b:=by unfold er;rw[e];rfl
def Loose(H:Hp)(h:Heap)(fs:List Addr)(cs:List (Addr×Obj)):Prop:=∀b o,cs.lookup b=some o->h.get? b=some o/\H b=none/\b∉fs
theorem Loose.no{b:Addr}{u:HO}(L:Loose H h fs cs)(e:H b=some u):cs.lookup b=none:=by
 cases q:cs.lookup b with
 |none=>rfl
 |some o=>
  rw[(L b o q).2.1]at e;cases e
theorem HOk.fz(x:HOk P w H h)(L:Loose H h fs cs):HOk P w (L2.fz H cs) h:=fun b u e=>by
 cases q:cs.lookup b with
 |some o=>
  rw[oM q]at e;cases e;have g:=(L b o q).1;exact⟨g,trivial,⟨o,g⟩,fun _ _ _ _=>trivial⟩
 |none=>
  rw[cQ q]at e
  exact(x b u e).stay (fun _ _ _ z=>z) (fun c z=>by rw[cQ (L.no z)];exact z) fun c xs z=>by rw[cQ (L.no z)];exact z
theorem HOk.er(x:HOk P w H' h')(fr:∀b o,cs.lookup b=some o->H' b=some (.frz o (.ext fun _=>True))):HOk P w (L2.er H' cs) h':=fun b u e=>by
 cases q:cs.lookup b with
 |some o=>
  rw[iM q]at e;cases e
 |none=>
  rw[dH q]at e
  have no:∀c u,(∀o,u≠HO.frz o (.ext fun _=>True))->H' c=some u->cs.lookup c=none:=fun c u hu z=>by
   cases q:cs.lookup c with
   |none=>rfl
   |some o=>
    rw[fr c o q]at z;cases z;exact absurd rfl (hu o)
  exact(x b u e).stay (fun _ _ _ z=>z) (fun c z=>by rw[dH (no c _ (fun o y=>by cases y) z)];exact z) fun c xs z=>by rw[dH (no c _ (fun o y=>by cases y) z)];exact z
theorem Un.held(u:Un fs [] (fz H cs) H' h h')(ok:HOk P w H' h')(L:Loose H h fs cs):Un fs [] H (er H' cs) h h'/\HOk P w (er H' cs) h'/\∀b o,cs.lookup b=some o->h'.get? b=some o:=by
 have fr:∀b o,cs.lookup b=some o->H' b=some (.frz o (.ext fun _=>True)):=fun b o q=>u.frzs b o _ (oM q);have kp:∀b o,cs.lookup b=some o->h'.get? b=some o:=fun b o q=>(ok b _ (fr b o q)).1
 have no:∀c v,(∀o,v≠HO.frz o (.ext fun _=>True))->H' c=some v->cs.lookup c=none:=fun c v hv z=>by
  cases q:cs.lookup c with
  |none=>rfl
  |some o=>
   rw[fr c o q]at z;cases z;exact absurd rfl (hv o)
 refine⟨⟨fun b o e n hb hx=>?_,fun b o e n hb hx=>?_,fun b o e n hx=>?_,u.there,fun b xs e=>?_,fun b o v e=>?_,fun b ps e=>?_⟩,ok.er fr,kp⟩
 .cases q:cs.lookup b with
  |some o'=>
   have:=(L b o' q).1;rw[e]at this;cases this;exact kp b o q
  |none=>exact u.keep b o e (by rw[cQ q];exact n) hb hx
 .cases q:cs.lookup b with
  |some o'=>exact absurd hb (L b o' q).2.2
  |none=>exact u.slot b o e (by rw[cQ q];exact n) hb hx
 .cases q:cs.lookup b with
  |some o'=>exact iM q
  |none=>
   rw[dH q];exact u.free b o e (by rw[cQ q];exact n) hx
 .have z:=u.tups b xs (by rw[cQ (L.no e)];exact e);rw[dH (no b _ (fun o y=>by cases y) z)];exact z
 .have z:=u.frzs b o v (by rw[cQ (L.no e)];exact e);rw[dH (L.no e)];exact z
 .obtain⟨m,z⟩:=u.tbls b ps (by rw[cQ (L.no e)];exact e);exact⟨m,by rw[dH (L.no e)];exact z⟩
theorem Un.loose{H1:Hp}(u:Un fs [] (er H cs) H1 h h')(ok:HOk P w H1 h')(ml:HOk P w H h)(fr:∀b o,cs.lookup b=some o->H b=some (.frz o (.ext fun _=>True))/\b∉fs):Un fs [] H (fz H1 cs) h h'/\HOk P w (fz H1 cs) h':=by
 have qE:∀b o,cs.lookup b=some o->h.get? b=some o:=fun b o q=>(ml b _ (fr b o q).1).1;have kp:∀b o,cs.lookup b=some o->h'.get? b=some o:=fun b o q=>u.keep b o (qE b o q) (iM q) (fr b o q).2 Zy;have nn:∀b o,cs.lookup b=some o->H1 b=none:=fun b o q=>u.free b o (qE b o q) (iM q) Zy
 have no:∀c v,(∀o,v≠HO.frz o (.ext fun _=>True))->H c=some v->cs.lookup c=none:=fun c v hv z=>by
  cases q:cs.lookup c with
  |none=>rfl
  |some o=>
   rw[(fr c o q).1]at z;cases z;exact absurd rfl (hv o)
 refine⟨⟨fun b o e n hb hx=>?_,fun b o e n hb hx=>?_,fun b o e n hx=>?_,u.there,fun b xs e=>?_,fun b o v e=>?_,fun b ps e=>?_⟩,ok.fz (fs:=fs) fun b o q=>⟨kp b o q,nn b o q,(fr b o q).2⟩⟩
 .cases q:cs.lookup b with
  |some o'=>
   rw[(fr b o' q).1]at n;cases n
  |none=>exact u.keep b o e (by rw[dH q];exact n) hb hx
 .cases q:cs.lookup b with
  |some o'=>exact absurd hb (fr b o' q).2
  |none=>exact u.slot b o e (by rw[dH q];exact n) hb hx
 .cases q:cs.lookup b with
  |some o'=>
   rw[(fr b o' q).1]at n;cases n
  |none=>
   rw[cQ q];exact u.free b o e (by rw[dH q];exact n) hx
 .have q:=no b _ (fun o y=>by cases y) e;rw[cQ q];exact u.tups b xs (by rw[dH q];exact e)
 .cases q:cs.lookup b with
  |some o'=>
   have z:=(fr b o' q).1;rw[e]at z;cases z;exact oM q
  |none=>
   rw[cQ q];exact u.frzs b o v (by rw[dH q];exact e)
 .have q:=no b _ (fun o y=>by cases y) e;obtain⟨m,z⟩:=u.tbls b ps (by rw[dH q];exact e);exact⟨m,by rw[cQ q];exact z⟩
end
def kZ(fd:FuncData)(fl L:Addr):Env:=newEnv fd.scope L fd.globals fd.closure (fd.qualname++".<locals>.") (some fl) fd.code none fd.builtins
def cxL(P:Program)(w:World)(K:Frag)(mg:Str->Option Value)(base:Heap)(N:List Str)(fd:FuncData)(fl:Addr)(A:Around)(outer:List Env)(s:Shared)(H:Hp)(E:XK):Cx where
 prog:=P
 w:=w
 K:=K
 mg:=mg
 base:=base
 A:=A.deeper (kZ fd fl s.heap.objs.size)
 N:=N
 s₀:=s
 H₀:=H
 env:=kZ fd fl s.heap.objs.size
 outer:=outer
 stack:=kZ fd fl s.heap.objs.size::outer
 ex:=[]
 calm:=true
 fn:=fun _=>false
 pn:=[]
 xe:=fun e s'=>wpAny (model P w) (A.deeper (kZ fd fl s.heap.objs.size)) (leaving (kZ fd fl s.heap.objs.size) e) (fun _ de=>CX1 P w outer H s E e de) (fun e' de=>CX1 P w outer H s E e' de) s'
structure LamAt(fd:FuncData)(body:Expr)(N:List Str):Prop where
 bd:fd.body=.expr body
 gl:fd.globals=mainGlobals
 bl:fd.builtins=builtinsNs
 kd:fd.scope.kind=.function
 co:fd.scope.isCoroutine=false
 ge:fd.scope.isGenerator=false
 fr:∀p∈fd.scope.names,p.2≠.cell
 fl:∀x,fd.scope.names.lookup x=some .free->∃c,fd.closure.lookup x=some c
 nd:∀x y c,fd.closure.lookup x=some c->fd.closure.lookup y=some c->x=y
 ba:bindArgs fd ⟨[],[]⟩=pure []
 nm:∀x∈N,fd.scope.names.lookup x=some .free
theorem BW{P:Program}{w:World}{K:Frag}{mg:Str->Option Value}{base:Heap}{N:List Str}{fd:FuncData}{fl:Addr}{A:Around}{outer:List Env}{s:Shared}{H:Hp}{E:XK}{body:Expr}{vs:List V}{h1:Heap}{tk:Nat}
  (Z:LamAt fd body N) (hd:A.handled=none) (e0:Env0 P w K mg base A outer s H) (hn:h1.Ns s.heap.objs.size fun x=>([]:List (Str×Value)).reverse.lookup x) (hk:∀b o,s.heap.get? b=some o->h1.get? b=some o)
  (cell:∀x c,fd.closure.lookup x=some c->H c=none/\∃v,s.heap.IsCell c v) (val:∀(i:Nat) (x:Str) (v:V),N[i]?=some x->vs[i]?=some v->∃c u,fd.closure.lookup x=some c/\RelV v u/\s.heap.IsCell c (some u)) (hl:vs.length=N.length):
  Inv (cxL P w K mg base N fd fl A outer s H E) [] (vs.map some) H {s with heap:=h1,toks:=tk}:=by
 have ck:∀c v,s.heap.IsCell c v->h1.IsCell c v:=fun c v ⟨o,ho,z⟩=>⟨o,hk c o ho,z⟩
 refine⟨⟨e0.mod,Z.kd,Z.gl,Z.bl,Nat.le_refl _,Z.nd,fun x hx=>?_,fun x c z=>(by cases z),fun _=>hd,Around.frames_deeper e0.frames,.inr ⟨rfl,rfl⟩,fun b z=>absurd (show b∈([]:List Addr)from z) Zy,e0.bs,e0.bsz,fun b _ _ z=>absurd (show b∈([]:List Addr)from z) Zy,fun b z=>absurd (show b∈([]:List Addr)from z) Zy,e0.funs,e0.frf⟩,
  rfl,e0.bare,Un.kept hk,⟨_,hn,fun i x v e1 e2 e3=>?_⟩,fun x c e=>?_,e0.hok.fresh (Nat.le_refl _),fun x c e=>(cell x c e).1,fun p hp=>absurd (show p∈([]:List (Addr×Obj))from hp) Zy,e0.hok.kept hk,by rw[List.length_map];exact hl⟩
 .rcases hx with hx|hx
  .exact absurd rfl (Z.fr _ (PySem.mem_of_lookup (show fd.scope.names.lookup x=some .cell from hx)))
  .exact Z.fl x hx
 .rw[zAb]at e2
  cases q:vs[i]? with
  |none=>rw[q]at e2;cases e2
  |some v'=>
   rw[q]at e2;have e2:v'=v:=by simpa using e2
   subst e2;obtain⟨c,u,ec,r,z⟩:=val i x v' e1 q;exact⟨u,r,.inr ⟨.inr (Z.nm x (zB5 e1)),c,ec,ck c _ z⟩⟩
 .obtain⟨_,v,z⟩:=cell x c e;exact⟨v,ck c v z⟩
theorem jo{P:Program}{w:World}{K:Frag}{mg:Str->Option Value}{base:Heap}{N:List Str}{fd:FuncData}{fl:Addr}{A:Around}{outer:List Env}{s:Shared}{H:Hp}{E:XK} :
  nG (cxL P w K mg base N fd fl A outer s H E) fun a C H'=>E (.ref a) (some C) H':=by
 intro Zt σ H' s' a C tb I fly na fa ft _ q;show wpAny (model P w) (A.deeper (kZ fd fl s.heap.objs.size)) (leaving (kZ fd fl s.heap.objs.size) (.ref a)) (fun _ de=>CX1 P w outer H s E (.ref a) de) (fun e' de=>CX1 P w outer H s E e' de) s';have a9:s'.heap.FunFrames base (kZ fd fl s.heap.objs.size::outer):=I.stack;have gI:(A.deeper (kZ fd fl s.heap.objs.size)).frames=some (kZ fd fl s.heap.objs.size::outer):=I.ok.frames;have nX:(kZ fd fl s.heap.objs.size).frame=some s.heap.objs.size:=rfl;have ub:Un (frs outer) [] H H' s.heap s'.heap:=I.base;have na:s.heap.get? a=none:=na;have ft:∀T,tb=.ref T->s.heap.get? T=none/\H' T=none:=ft;refine tu gI a9 nX fly fun h' T nT eJ k1 k2 k3=>?_
 have apart:∀b o,s.heap.get? b=some o->b≠a/\tb≠.ref b:=fun b o e=>⟨fun z=>(by rw[z,na]at e;cases e),fun z=>(by rw[(ft b z).1]at e;cases e)⟩
 have CB:∀b o,s.heap.get? b=some o->b∉frs outer->b∉frs (kZ fd fl s.heap.objs.size::outer):=fun b o e hn hm=>by
  unfold frs at hm;rw[List.filterMap_cons,nX]at hm;rcases zAo.mp hm with z|z
  .exact absurd (zAy e) (by rw[z];exact Nat.lt_irrefl _)
  .exact hn z
 refine⟨a,C,H',T,rfl,I.os,I.bare,⟨fun b o e n hb _=>?_,fun b o e n hb _=>?_,ub.free,fun b o e hx=>?_,ub.tups,ub.frzs,ub.tbls⟩,fun c o e=>?_,na,?_,fa,I.hok.no nT,eJ,q⟩
 .exact k1 b o (ub.keep b o e n hb Zy) (apart b o e).1 (apart b o e).2 (CB b o e hb)
 .obtain⟨sl,e1⟩:=ub.slot b o e n hb Zy;obtain⟨gz,e2⟩:=k2 b _ e1 (apart b o e).1 (apart b o e).2;exact⟨gz,e2⟩
 .obtain⟨o',e1⟩:=ub.there b o e hx;exact k3 b o' e1
 .refine(I.hok c o e).stay (fun d v hd z=>?_) (fun _ z=>z) fun _ _ z=>z
  have tT:∃o',H' d=some o':=by
   rcases hd with z|z
   .exact⟨o,by rw[z];exact e⟩
   .exact⟨_,z⟩
  obtain⟨o',eo⟩:=tT;refine k1 d v z (fun y=>(by rw[y,fa]at eo;cases eo)) (fun y=>(by rw[(ft d y).2]at eo;cases eo)) fun hm=>?_;rw[I.stkFree d hm]at eo;cases eo
 .exact I.was rfl nT
abbrev NoC(cs:List (Addr×Obj))(H:Hp):Prop:=∀b o,cs.lookup b=some o->H b=none
theorem CX1.loose{P:Program}{w:World}{outer:List Env}{H:Hp}{s s':Shared}{E:XK}{e:Value}{cs:List (Addr×Obj)}(ml:HOk P w H s.heap)(fr:∀b o,cs.lookup b=some o->H b=some (.frz o (.ext fun _=>True))/\b∉frs outer)
  (x:CX1 P w outer (er H cs) s (fun e C H1=>NoC cs H1->E e C (fz H1 cs)) e s'):CX1 P w outer H s E e s':=by
 obtain⟨a,C,H1,T,rfl,os,bare,un,ok,na,nT,fa,fT,fly,q⟩:=x;obtain⟨u,k⟩:=un.loose ok ml fr
 have no:∀b,s.heap.get? b=none->cs.lookup b=none:=fun b z=>by
  cases y:cs.lookup b with
  |none=>rfl
  |some o=>
   have:=(ml b _ (fr b o y).1).1;rw[z]at this;cases this
 exact⟨a,C,_,T,rfl,os,bare,u,k,na,nT,by rw[cQ (no a na)];exact fa,by rw[cQ (no T nT)];exact fT,fly,q fun b o z=>un.free b o (ml b _ (fr b o z).1).1 (iM z) Zy⟩
theorem BX{P:Program}{w:World}{K:Frag}{mg:Str->Option Value}{base:Heap}{N:List Str}{fd:FuncData}{fl:Addr}{ob:Obj}{A:Around}{outer:List Env}{s:Shared}{H:Hp}{Q:VK}{E:XK}{body:Expr}{vs:List V}{cs:List (Addr×Obj)}{te:TE}{k:Nat}
  (Z:LamAt fd body N) (hr:Room k A) (e0:Env0 P w K mg base A outer s H) (uu:s.heap.get? fl=some ob) (mf:ob.data=.func fd) (bg:s.heap.CodeRec fd.code fd.qualname)
  (fr:∀b o,cs.lookup b=some o->H b=some (.frz o (.ext fun _=>True))/\b∉frs outer) (cell:∀x c,fd.closure.lookup x=some c->∃o v,cs.lookup c=some o/\o.data=.cell v)
  (val:∀(i:Nat) (x:Str) (v:V),N[i]?=some x->vs[i]?=some v->∃c u o,fd.closure.lookup x=some c/\RelV v u/\cs.lookup c=some o/\o.data=.cell (some u)) (hl:vs.length=N.length)
  (kr:PE (cxL P w K mg base N fd fl A outer s (er H cs) (fun e C H1=>NoC cs H1->E e C (fz H1 cs))) body te) (h:te (vs.map some) (er H cs) fun v H1=>NoC cs H1->Q v (fz H1 cs)):
  codeAny (model P w) A (.call (.ref fl) ⟨[],[]⟩) (CR (CX1 P w) outer P w H s Q E) s:=by
 have qE:∀b o,cs.lookup b=some o->s.heap.get? b=some o:=fun b o q=>(e0.hok b _ (fr b o q).1).1
 have uS:∀b,H b=none->er H cs b=none:=fun b z=>by
  cases q:cs.lookup b with
  |some o=>exact iM q
  |none=>rw[dH q];exact z
 have e1:Env0 P w K mg base A outer s (er H cs):=⟨e0.frames,e0.mod,fun b o e=>⟨(e0.bs b o e).1,uS b (e0.bs b o e).2⟩,e0.bsz,e0.funs,fun b hb=>uS b (e0.frf b hb),e0.hok.er fun b o q=>(fr b o q).1,e0.bare⟩
 refine kla_callFunE (by have:=hr.dp;lia) uu mf Z.co Z.ge Z.bd bg ?_;rw[Z.ba];refine wpAny_pure (wpAny_newFunctionEnv Z.fr (fun x hx=>absurd hx Zy) (fun h1 hn sb=>?_) Z.kd);have hk:∀b o,s.heap.get? b=some o->h1.get? b=some o:=fun b o e=>(sb.2 b (Nat.ne_of_lt (Heap.lt_size e))).trans (Heap.get?_push_of_some _ e);refine⟨(e0.mod.nolimit.keeps fun b o e=>(e0.bs b o e).1).keeps hk,?_⟩;have I:=BW (fl:=fl) (E:=fun e C H1=>NoC cs H1->E e C (fz H1 cs)) (tk:=s.toks+0) Z hr.hd e1 hn hk (fun x c e=>(let⟨o,v,q,d⟩:=cell x c e;⟨iM q,v,o,qE c o q,d⟩)) (fun i x v e1 e2=>(let⟨c,u,o,a1,a2,a3,a4⟩:=val i x v e1 e2;⟨c,u,a1,a2,o,qE c o a3,a4⟩)) hl;refine kla_codeExpr (wpAny_mono (kr [] _ _ _ _ I h) (fun u s' hv=>?_) fun e s' hx=>?_)
 .obtain⟨v,H1,J,r,q⟩:=hv;obtain⟨un,k⟩:=Un.loose (fs:=frs outer) J.base J.hok e0.hok fr;exact⟨v,fz H1 cs,J.os,J.bare,un,k,r,q fun b o z=>Un.free (fs:=frs outer) (ex:=[]) J.base b o (qE b o z) (iM z) Zy⟩
 .exact wpAny_mono hx (fun _ de z=>CX1.loose e0.hok fr z) fun e' de z=>CX1.loose e0.hok fr z
abbrev held(o:Obj):HO:=.frz o (.ext fun _=>True)
structure LamObj(H:Hp)(fl:Addr)(fd:FuncData):Prop where
 ob:∃o,H fl=some (held o)/\o.data=.func fd
 cd:∃c oc vs t,fd.code=.ref c/\H c=some (held oc)/\oc.data=.fields vs/\vs[1]?=some (.str fd.qualname t)
def Fe(X:Cx)(i:Nat)(E:XK):TE:=fun σ H Q=>∃(fl:Addr) (fd:FuncData) (body:Expr) (N:List Str) (vs:List V) (cs:List (Addr×Obj)) (te:TE),σ[i]?=some (some (.ref fl))/\LamObj H fl fd/\LamAt fd body N/\(∀b o,cs.lookup b=some o->H b=some (held o))/\(∀x c,fd.closure.lookup x=some c->∃o v,cs.lookup c=some o/\o.data=.cell v) /\
 (∀(i:Nat) (x:Str) (v:V),N[i]?=some x->vs[i]?=some v->∃c u o,fd.closure.lookup x=some c/\RelV v u/\cs.lookup c=some o/\o.data=.cell (some u))/\vs.length=N.length /\
 (∀s,PE (cxL X.prog X.w X.K X.mg X.base N fd fl X.A X.stack s (er H cs) (fun e C H1=>NoC cs H1->E e C (fz H1 cs))) body te)/\te (vs.map some) (er H cs) fun v H1=>NoC cs H1->Q v (fz H1 cs)
theorem Ff{X:Cx}{i k:Nat}{x:Str}{p pos:Pos}{E:XK}(hr:Room k X.A)(hN:X.N[i]?=some x)(hv:Vis X.env.scope x)(W:nG X fun a C H=>E (.ref a) (some C) H)(hx:X.ex=[])(hd:(x==("__debug__":Str))=false:=by decide)(bg:(x==("__classdict__":Str))=false:=by decide):
  PE X (.Call (.Name x p) [] [] pos) (Fe X i E):=by
 intro Zt s σ H Q I h;obtain⟨fl,fd,body,N,vs,cs,te,CU,L,Z,fr,cell,val,hl,kr,q⟩:=h;obtain⟨o,ho,mf⟩:=L.ob;have uu:s.heap.get? fl=some o:=(I.hok fl _ ho).1;refine wpAny_Call_Name_kw (thn (uh (pos:=p) hN hv hd bg Zt s σ H (fun v H'=>v=.ref fl/\H'=H) I ⟨_,CU,rfl,rfl⟩) fun f s1 ⟨v,H1,I1,r1,z1,z2⟩=>?_);subst z1 z2;cases(show f=Value.ref fl from r1);have uu:s1.heap.get? fl=some o:=(I1.hok fl _ ho).1;refine callWith_F0 (by obtain⟨oc,od,dt,sl⟩:=o;exact⟨oc,od,fd,sl,by rw[uu];exact congrArg some (by rw[show dt=Data.func fd from mf])⟩) ?_;obtain⟨c,oc,ws,t,ec,hc,CY,hw⟩:=L.cd
 have La:s1.heap.CodeRec fd.code fd.qualname:=⟨c,oc,ws,t,ec,(I1.hok c _ hc).1,CY,hw⟩
 refine wpAny_call (codeAny_mono (BX (k:=k) Z hr I1.env0 uu mf La (fun b ob e=>⟨fr b ob e,fun hm=>?_⟩) cell val hl (kr s1) q) fun r s' hq=>?_)
 .have:=I1.stkFree b hm;rw[fr b ob e]at this;cases this
 .cases r with
  |error e=>exact zz W hx Zt σ _ s1 e s' I1 hq
  |ok eJ=>
   cases eJ with
   |ret u=>exact I1.after hq
   |next=>exact False.elim hq
   |brk=>exact False.elim hq
   |cont=>exact False.elim hq
def zO(H:Hp)(c:Addr)(q:Str):Prop:=∃oc vs t,H c=some (held oc)/\oc.data=.fields vs/\vs[1]?=some (.str q t)
def TabOk(H:Hp)(P:Addr)(q:Str):Prop:=∃ps,H P=some (.tbl ps)/\TriplesOk ps.toList/\∀l:Pos,codeAmong l ps.toList=none\/∃c,codeAmong l ps.toList=some (.ref c)/\zO H c q
theorem TabOk.keep{H H':Hp}{P:Addr}{q:Str}(x:TabOk H P q)(kp:∀ps,H P=some (.tbl ps)->H' P=some (.tbl ps))(kh:∀b o,H b=some (held o)->H' b=some (held o)):TabOk H' P q:=by
 obtain⟨ps,e,t,h⟩:=x;refine⟨ps,kp ps e,t,fun l=>?_⟩;rcases h l with z|⟨c,z,oc,vs,t',y,r⟩
 .exact .inl z
 .exact .inr ⟨c,z,oc,vs,t',kh _ _ y,r⟩
theorem TabOk.same{H H':Hp}{P:Addr}{q:Str}(x:TabOk H P q)(s:Same H H'):TabOk H' P q:=x.keep (fun _=>s _ _) fun _ _=>s _ _
theorem xR{l:Pos}{r:List Value}:∀(a:List Value),TriplesOk a->codeAmong l (a++r)=(codeAmong l a).orElse fun _=>codeAmong l r:=fun a h=>by
 fun_induction TriplesOk a with
 |case1=>simp[codeAmong]
 |case2 x t y u z rest ih=>
  simp only[List.cons_append,codeAmong];split
  .rfl
  .exact ih h
 |case3 a h1 h2=>exact h.elim
section
variable{P:Program}{w:World}{fs:List Addr}{H:Hp}{h h':Heap}{T c fl:Addr}{ps more:Array Value}{oc ob:Obj}
theorem qm{H:Hp}{h:Heap}{b:Addr}{o:Obj}(e:h.get? b=some o):ObjOk P w H h b (held o):=⟨e,trivial,⟨o,e⟩,fun _ _ _ _=>trivial⟩
theorem Gx(hT:H T=some (.tbl ps))(ok:HOk P w H h)(k:∀b o,b≠T->h.get? b=some o->h'.get? b=some o)(hp:h'.get? T=some (tabObj (ps++more)))(hc:h.objs.size<=c)(hf:h.objs.size<=fl)(O0:c≠fl)(ec:h'.get? c=some oc)(ef:h'.get? fl=some ob):
  Un fs [] H (upd (upd (upd H T (.tbl (ps++more))) c (held oc)) fl (held ob)) h h'/\HOk P w (upd (upd (upd H T (.tbl (ps++more))) c (held oc)) fl (held ob)) h':=by
 have nc:=ok.fresh hc;have nf:=ok.fresh hf
 have lt:∀b u,H b=some u->b≠c/\b≠fl:=fun b u e=>⟨aB e nc,aB e nf⟩
 have u7:∀b u,b≠T->H b=some u->upd (upd (upd H T (.tbl (ps++more))) c (held oc)) fl (held ob) b=some u:=fun b u n e=>by
  rw[ao (lt b u e).2,ao (lt b u e).1,ao n];exact e
 have atT:upd (upd (upd H T (.tbl (ps++more))) c (held oc)) fl (held ob) T=some (.tbl (ps++more)):=by
  rw[ao (lt T _ hT).2,ao (lt T _ hT).1,aa]
 have old:∀b o,h.get? b=some o->b≠c/\b≠fl:=fun b o e=>⟨zB3 (zB2 (zAy e) hc),zB3 (zB2 (zAy e) hf)⟩
 refine⟨⟨fun b o e n _ _=>k b o (fun z=>(by rw[z,hT]at n;cases n)) e,fun b o e n _ _=>⟨o.slots,k b o (fun z=>(by rw[z,hT]at n;cases n)) e⟩,fun b o e n _=>?_,fun b o e _=>?_,fun b xs e=>u7 b _ (fun z=>(by rw[z,hT]at e;cases e)) e,fun b o u e=>u7 b _ (fun z=>(by rw[z,hT]at e;cases e)) e,fun b qs e=>?_⟩,fun b u e=>?_⟩
 .rw[ao (old b o e).2,ao (old b o e).1,ao fun z=>(by rw[z,hT]at n;cases n)];exact n
 .by_cases z:b=T
  .rw[z];exact⟨_,hp⟩
  .exact⟨o,k b o z e⟩
 .by_cases z:b=T
  .subst z;rw[hT]at e;cases e;exact⟨more,atT⟩
  .exact⟨#[],by rw[Array.append_empty];exact u7 b _ z e⟩
 .by_cases z1:b=fl
  .subst z1;rw[aa]at e;cases e;exact qm ef
  .rw[ao z1]at e;by_cases z2:b=c
   .subst z2;rw[aa]at e;cases e;exact qm ec
   .rw[ao z2]at e;by_cases z3:b=T
    .subst z3;rw[aa]at e;cases e;exact hp
    .rw[ao z3]at e;refine(ok b u e).stay (fun d v hd q=>k d v (fun y=>?_) q) (fun d q=>u7 d _ (fun y=>(by rw[y,hT]at q;cases q)) q) fun d xs q=>u7 d _ (fun y=>(by rw[y,hT]at q;cases q)) q;subst y;rcases hd with y|y
     .exact z3 y.symm
     .rw[hT]at y;cases y
end
def tMk(T:Addr)(q:Str)(params:Arguments)(body:Expr)(scope:Scope)(cl:List (Str×Addr))(N:List Str):TE:=fun _ H Q=>TabOk H T q /\
 ∀fl pm cv ct H1,(∀b o,b≠T->H b=some o->H1 b=some o)->TabOk H1 T q->H fl=none->LamObj H1 fl (kla_fn "<lambda>" q params body scope cl pm cv ct)->LamAt (kla_fn "<lambda>" q params body scope cl pm cv ct) body N->Q (.ref fl) H1
structure LamTx(X:Cx)(params:Arguments)(body:Expr)(scope:Scope)(N:List Str):Prop where
 df:defaultsOf params X.env=([],[])
 kd:scope.kind=.function
 co:scope.isCoroutine=false
 ge:scope.isGenerator=false
 fr:∀p∈scope.names,p.2≠.cell
 fl:∀p∈scope.names,p.2=NameKind.free->X.env.kindOf p.1=some .cell\/X.env.kindOf p.1=some .free
 ba:∀qual cl pm cv ct,bindArgs (kla_fn "<lambda>" qual params body scope cl pm cv ct) ⟨[],[]⟩=pure []
 nm:∀x∈N,scope.names.lookup x=some .free
theorem zP{X:Cx}{T cc:Addr}{params:Arguments}{body:Expr}{scope:Scope}{ay:Pos}{N:List Str}(Z:LamTx X params body scope N)(cy:X.env.code=.ref cc)(hC:CodeHd X.base cc T)(hB:X.base.BuiltinsAt X.mg T):
  PE X (.Lambda params body scope ay) (tMk T (X.env.qual++"<lambda>") params body scope (bZ X.env.cells scope.names []) N):=by
 intro Zt s σ H Q I h;obtain⟨⟨ps,hT,tr,am⟩,q⟩:=h
 have hs:∀p∈scope.names,p.2=NameKind.free->(X.env.cells.lookup p.1).isSome=true:=fun p hp e=>by
  obtain⟨c,z⟩:=I.ok.has p.1 (Z.fl p hp e);rw[z];rfl
 have lam:∀qual pm cv ct,LamAt (kla_fn "<lambda>" qual params body scope (bZ X.env.cells scope.names []) pm cv ct) body N:=fun qual pm cv ct=>
  ⟨rfl,rfl,rfl,Z.kd,Z.co,Z.ge,Z.fr,fun x hx=>jf _ _ (.inl ⟨_,PySem.mem_of_lookup hx,rfl⟩),fun x y c h1 h2=>by
   rcases gQ _ _ hs h1 with z|z
   .cases z
   .rcases gQ _ _ hs h2 with z2|z2
    .cases z2
    .exact I.ok.inj x y c z z2,Z.ba _ _ _ _ _,Z.nm⟩
 have hg:=I.mod.glob.keeps I.bk;have hP:s.heap.get? T=some (tabObj ps):=I.hok T _ hT
 have Lb:mainGlobals≠T:=fun z=>by
  obtain⟨o,es,ep,e,_⟩:=I.mod.glob;have:=(I.bs _ _ e).2;rw[z,hT]at this;cases this
 have hb:s.heap.BuiltinsAt X.mg T:=let⟨bm,o,b1,b2,b3,b4,b5,r⟩:=hB;⟨bm,o,b1,b2,b3,b4,I.bk _ _ b5,r⟩
 refine kla_eval Z.df ?_;rcases am ay with hn|⟨c,hf,oc,vs,t,hc,hd,hv⟩
 .refine kla_makeFunction (mg:=X.mg) (pO hs) I.ok.glob hg cy (hC.keeps I.bk) hP tr hn Lb hb fun c' kz h' tk hx va av Dx vc=>?_;obtain⟨c₂,oc,vs,t,e2,zk,hd,hv⟩:=Dx;cases e2
  obtain⟨un,ok⟩:=Gx (P:=X.prog) (w:=X.w) (fs:=frs X.stack) (h':=h'.push (kla_obj "<lambda>" (X.env.qual++"<lambda>") params body scope (bZ X.env.cells scope.names []) ((X.mg "__name__").getD .none) c' kz)) (fl:=h'.objs.size) hT I.hok
   (fun b o n e=>zAu _ (hx b o n e)) (zAu _ vc) va (Nat.le_trans va (Nat.le_of_lt av)) (zB3 av) (zAu _ zk) (zB1 _ rfl)
  have J:=I.call (ch:=[]) (g':=s.gens) (t':=tk) (d':=s.drawn) un ok I.bare fun b z=>absurd z Zy;have nc:H c'=none:=I.hok.fresh va;have nf:H h'.objs.size=none:=I.hok.fresh (Nat.le_trans va (Nat.le_of_lt av))
  have kp:∀b o,b≠T->H b=some o->upd (upd (upd H T (.tbl (ps++#[rawInt ay.line,rawInt ay.col,.ref c']))) c' (held oc)) h'.objs.size (held (kla_obj "<lambda>" (X.env.qual++"<lambda>") params body scope (bZ X.env.cells scope.names []) ((X.mg "__name__").getD .none) c' kz)) b=some o:=fun b o n e=>by
   rw[ao (aB e nf),ao (aB e nc),ao n];exact e
  have cd:zO (upd (upd (upd H T (.tbl (ps++#[rawInt ay.line,rawInt ay.col,.ref c']))) c' (held oc)) h'.objs.size (held (kla_obj "<lambda>" (X.env.qual++"<lambda>") params body scope (bZ X.env.cells scope.names []) ((X.mg "__name__").getD .none) c' kz))) c' (X.env.qual++"<lambda>"):=
   ⟨oc,vs,t,by rw[ao (zB3 av),aa],hd,hv⟩
  refine⟨.ref h'.objs.size,_,J,rfl,q _ ((X.mg "__name__").getD .none) (.ref c') kz _ kp ⟨ps++#[rawInt ay.line,rawInt ay.col,.ref c'],?_,?_,fun l=>?_⟩ nf ⟨⟨_,aa,rfl⟩,?_⟩ (lam _ _ _ _)⟩
  .rw[ao (aB hT nf),ao (aB hT nc),aa]
  .rw[Array.toList_append];exact TriplesOk_snoc _ _ _ _ tr
  .rw[Array.toList_append,xR _ tr];rcases am l with z|⟨c,z,Lc,CH,t2,y,r⟩
   .rw[z];show codeAmong l [rawInt ay.line,rawInt ay.col,.ref c']=none\/_;simp only[codeAmong,rawInt];by_cases e:((ay.line:Int)==(l.line:Int)&&(ay.col:Int)==(l.col:Int))=true
    .refine .inr ⟨c',?_,cd⟩;show codeAmong l [rawInt ay.line,rawInt ay.col,.ref c']=some (.ref c');simp only[codeAmong,rawInt];rw[if_pos e]
    .refine .inl ?_;rw[zAw e]
   .rw[z];exact .inr ⟨c,rfl,Lc,CH,t2,kp _ _ (fun w'=>by rw[w',hT]at y;cases y) y,r⟩
  .obtain⟨Ld,Le,t3,a1,a2,a3⟩:=cd;exact⟨c',Ld,Le,t3,rfl,a1,a2,a3⟩
 .refine kla_makeFunctionHit (mg:=X.mg) (pO hs) I.ok.glob hg cy (hC.keeps I.bk) hP tr hf hb fun kz h' tk hk hsz=>?_
  have J:=I.laid (a:=h'.objs.size) (o:=held (kla_obj "<lambda>" (X.env.qual++"<lambda>") params body scope (bZ X.env.cells scope.names []) ((X.mg "__name__").getD .none) c kz)) (h':=h'.push (kla_obj "<lambda>" (X.env.qual++"<lambda>") params body scope (bZ X.env.cells scope.names []) ((X.mg "__name__").getD .none) c kz)) (t':=tk)
   (fun b u e=>zAu _ (hk b u e)) hsz (qm (zB1 _ rfl))
  have nf:H h'.objs.size=none:=I.hok.fresh hsz
  have kp:Same H (upd H h'.objs.size (held (kla_obj "<lambda>" (X.env.qual++"<lambda>") params body scope (bZ X.env.cells scope.names []) ((X.mg "__name__").getD .none) c kz))):=fun b o e=>by
   rw[ao (aB e nf)];exact e
  exact⟨.ref h'.objs.size,_,J,rfl,q _ ((X.mg "__name__").getD .none) (.ref c) kz _ (fun b o _ e=>kp b o e) (TabOk.same ⟨ps,hT,tr,am⟩ kp) nf ⟨⟨_,aa,rfl⟩,c,oc,vs,t,rfl,kp _ _ hc,hd,hv⟩ (lam _ _ _ _)⟩
structure CellsOf(cl:List (Str×Addr))(N:List Str)(vs:List V)(H:Hp)(cs:List (Addr×Obj)):Prop where
 no:∀b o,cs.lookup b=some o->H b=none
 cell:∀x c,cl.lookup x=some c->∃o v,cs.lookup c=some o/\o.data=.cell v
 val:∀(i:Nat) (x:Str) (v:V),N[i]?=some x->vs[i]?=some v->∃c u o,cl.lookup x=some c/\RelV v u/\cs.lookup c=some o/\o.data=.cell (some u)
theorem Gy{o:Obj}{b:Addr}:∀{l:List (Addr×Obj)},l.lookup b=some o->(b,o)∈l
 |[],e=>by cases e
 | (a,x)::r,e=>by
  rw[List.lookup_cons]at e
  cases z:b==a with
  |true=>rw[z]at e;cases e;rw[eq_of_beq z];exact .head _
  |false=>rw[z]at e;exact .tail _ (Gy e)
theorem oN{h:Heap}{b:Addr}{o:Obj}:∀{fp:List Addr},(dB fp h).lookup b=some o->b∈fp/\h.get? b=some o:=fun{fp} e=>nO (p:=(b,o)) (Gy e)
theorem j7{h:Heap}{b:Addr}{o:Obj}(e:h.get? b=some o):∀{fp:List Addr},b∈fp->(dB fp h).lookup b=some o
 |[],z=>absurd z Zy
 |a::r,z=>by
  have un:dB (a::r) h=match(h.get? a).map (fun o=>(a,o))with|some p=>p::dB r h|none=>dB r h:=by
   unfold dB;rw[List.filterMap_cons];cases(h.get? a).map (fun o=>(a,o))<;>rfl
  rw[un];by_cases y:b=a
  .subst y;rw[e];show List.lookup b ((b,o)::dB r h)=_;rw[List.lookup_cons,beq_self_eq_true]
  .have ih:=j7 e (fp:=r) ((zAo.mp z).resolve_left y)
   cases q:h.get? a with
   |none=>exact ih
   |some o'=>
    show List.lookup b ((a,o')::dB r h)=_;rw[List.lookup_cons,show(b==a)=false by simpa using y];exact ih
theorem tK{cells:List (Str×Addr)}{q:Str×Addr}:∀(l:List (Str×NameKind)) (acc:List (Str×Addr)),q∈bZ cells l acc->q∈acc\/∃k,(q.1,k)∈l/\k=NameKind.free/\q.2=(cells.lookup q.1).getD 0
 |[],_,h=>.inl h
 | (n,k)::r,acc,h=>by
  have h':q∈bZ cells r (if k=.free then(n,(cells.lookup n).getD 0)::acc else acc):=h;rcases tK r _ h' with e|⟨k',e1,e2⟩
  .by_cases hk:k=.free
   .rw[zAx hk]at e;rcases zAo.mp e with z|z
    .cases z;exact .inr ⟨k,List.mem_cons_self,hk,rfl⟩
    .exact .inl z
   .rw[zAw hk]at e;exact .inl e
  .exact .inr ⟨k',List.mem_cons_of_mem _ e1,e2⟩
def Dt(sp:Sp)(N:List Str)(ix:List Nat)(cl:List (Str×Addr))(te:TE):TE:=fun σ H Q=>te σ H fun v H1=>∃vs:List V,vs.length=N.length/\(∀(j i:Nat) (u:V),ix[j]?=some i->vs[j]?=some u->σ[i]?=some (some u)) /\
 ∀cs,CellsOf cl N vs H1 cs->sp [v] (fz H1 cs) (fun v H2=>Q v (er H2 cs)) E0
theorem BZ{X:Cx}{k:Nat}{f:Addr}{fd:FuncData}{y x:Str}{sp:Sp}{p pos:Pos}{arg:Expr}{scope:Scope}{N:List Str}{ix:List Nat}{te:TE}(F:FnOk X.prog X.w X.K X.mg X.base CX0 k f fd [y] sp)(hr:Room k X.A)(hg:Gl X x)(hm:X.mg x=some (.ref f))
  (hk:PySem.W.keepIn X.K (.ref f)=true) (hb:Binds X.K fd [y] []) (hx:X.ex=[]) (hp:∀p∈scope.names,p.2=NameKind.free->X.env.kindOf p.1=some .cell/\X.fn p.1=true) (hN:∀(j:Nat) (x:Str),N[j]?=some x->∃i,ix[j]?=some i/\X.N[i]?=some x/\scope.names.lookup x=some .free)
  (ha:PE X arg te) (bb:(x==("__debug__":Str))=false:=by decide) (he:starEach [arg] X.env=(false,eval arg X.env)::starEach [] X.env:=by rfl) (aS:(backTo pos (starEach [] X.env)).any (·.1)=false:=by rfl):
  PE X (.Call (.Name x p) [arg] [] pos) (Dt sp N ix (bZ X.env.cells scope.names []) te):=by
 intro Zt s σ H Q I h;refine wpAny_Call_Name_kw (dY I hg hm ?_ bb)
 refine PySem.W.callWith_K (h₀:=X.base) I.ok.mod.kin hk (thn (aQ ha aj he pos Zt s σ H (fun vs H1=>∃ws:List V,ws.length=N.length/\(∀(j i:Nat) (u:V),ix[j]?=some i->ws[j]?=some u->σ[i]?=some (some u)) /\
  ∀cs,CellsOf (bZ X.env.cells scope.names []) N ws H1 cs->sp vs (fz H1 cs) (fun v H2=>Q v (er H2 cs)) E0) I h) fun us s1 z=>?_) he aS
 obtain⟨vs,H1,I1,r,ws,hw,fy,q⟩:=z;refine⟨I1.kIn,?_⟩
 have hs:∀p∈scope.names,p.2=NameKind.free->(X.env.cells.lookup p.1).isSome=true:=fun p eM e=>by
  obtain⟨c,z⟩:=I1.ok.has p.1 (.inl (hp p eM e).1);rw[z];rfl
 have sub:∀x c,(bZ X.env.cells scope.names []).lookup x=some c->X.env.cells.lookup x=some c:=fun x c e=>by
  rcases gQ _ _ hs e with z|z
  .cases z
  .exact z
 have at':∀b∈(bZ X.env.cells scope.names []).map (·.2),∃x,X.env.cells.lookup x=some b/\X.fn x=true:=fun b bX=>by
  obtain⟨q',gg,rfl⟩:=zA5.mp bX;rcases tK _ _ gg with z|⟨k',IZ,rfl,e⟩
  .cases z
  .obtain⟨c,hc⟩:=Option.isSome_iff_exists.mp (hs _ IZ rfl);refine⟨q'.1,?_,(hp _ IZ rfl).2⟩;rw[e,show X.env.cells.lookup q'.1=some c from hc];rfl
 obtain⟨cs,AE⟩:∃cs,cs=dB ((bZ X.env.cells scope.names []).map (·.2)) s1.heap:=⟨_,rfl⟩
 have Ja:∀x c,(bZ X.env.cells scope.names []).lookup x=some c->c∈(bZ X.env.cells scope.names []).map (·.2):=fun x c e=>zA5.mpr ⟨(x,c),PySem.mem_of_lookup e,rfl⟩
 have L:Loose H1 s1.heap (frs X.stack) cs:=fun b o e=>by
  rw[AE]at e;obtain⟨bX,e'⟩:=oN e;obtain⟨x',cE,jv⟩:=at' b bX;refine⟨e',I1.freeC x' b cE,fun z=>?_⟩;rcases zAo.mp (I1.stkSub b z)with y'|y'
  .exact I1.cne x' b cE y'
  .obtain⟨_,o',gc,_⟩:=I1.ok.funs.mem y';exact absurd (zB2 (zAy gc) (I1.ok.cab x' b jv cE)) (Nat.lt_irrefl _)
 have C:CellsOf (bZ X.env.cells scope.names []) N ws H1 cs:=by
  refine⟨fun b o e=>(L b o e).2.1,fun x' c e=>?_,fun i x' v e1 e2=>?_⟩
  .obtain⟨v,o,ho,hd⟩:=I1.cell x' c (sub x' c e);exact⟨o,v,by rw[AE];exact j7 ho (Ja x' c e),hd⟩
  .obtain⟨j,e3,e4,e5⟩:=hN i x' e1;obtain⟨m,hn,hl⟩:=I1.loc;have Jb:=(hp (x',.free) (PySem.mem_of_lookup e5) rfl).1;obtain⟨u,ru,lk⟩:=hl j x' v e4 (fy i j v e3 e2) (.inr (.inl Jb));rcases lk with⟨kl,_⟩|⟨_,c,ec,o,ho,hd⟩
   .rw[Jb]at kl;cases kl
   .obtain⟨c',ai⟩:=jf (cells:=X.env.cells) (x:=x') scope.names [] (.inl ⟨_,PySem.mem_of_lookup e5,rfl⟩);have:=sub x' c' ai;rw[ec]at this;cases this;exact⟨c,u,o,ai,ru,by rw[AE];exact j7 ho (Ja x' c ai),hd⟩
 have q:=q cs C;have hok:=I1.hok.fz L
 have e0:Env0 X.prog X.w X.K X.mg X.base X.A X.stack s1 (fz H1 cs):=by
  have e1:=I1.env0;refine⟨e1.frames,e1.mod,fun b o e=>⟨(e1.bs b o e).1,?_⟩,e1.bsz,e1.funs,fun b bX=>?_,hok,e1.bare⟩
  .cases z:cs.lookup b with
   |none=>rw[cQ z];exact(e1.bs b o e).2
   |some o'=>
    have z':=z;rw[AE]at z';obtain⟨x',cE,jv⟩:=at' b (oN z').1;exact absurd (zB2 (zAy (I1.ok.bs b o e).1) (I1.ok.cab x' b jv cE)) (Nat.lt_irrefl _)
  .cases z:cs.lookup b with
   |none=>rw[cQ z];exact e1.frf b bX
   |some o'=>exact absurd bX (L b o' z).2.2
 have hl:(us++[]).length=[y].length:=by rw[zAn,<-r.length];exact F.len _ _ _ _ q
 have md:=hb s1 us I1.kIn hl;rw[zAn]at md;refine wpAny_call (codeAny_mono (F.run X.A X.stack s1 (fz H1 cs) ⟨us,[]⟩ us vs _ E0 hr e0 md r q) fun rr s' hq=>?_)
 cases rr with
 |error e=>exact(show False from hq).elim
 |ok fl=>
  cases fl with
  |ret u=>
   obtain⟨v,H2,os,bare,un,hU,rv,qq⟩:=hq;obtain⟨un',B5,_⟩:=un.held hU L;exact I1.after (Q:=Q) ⟨v,er H2 cs,os,bare,un',B5,rv,qq⟩
  |next=>exact False.elim hq
  |brk=>exact False.elim hq
  |cont=>exact False.elim hq
def Du(scope sc:Scope)(NX N:List Str)(ix:List Nat):Bool:=
 decide (scope.kind=.function)&&!scope.isCoroutine&&!scope.isGenerator&&scope.names.all (fun p=>decide (p.2≠NameKind.cell)&&(decide (p.2≠NameKind.free)||decide (sc.names.lookup p.1=some NameKind.cell))) &&
 (N.zip ix).all (fun q=>decide (NX[q.2]?=some q.1)&&decide (scope.names.lookup q.1=some NameKind.free))&&decide (N.length=ix.length)
theorem lZ{X:Cx}{k:Nat}{f T cc:Addr}{fd:FuncData}{y x:Str}{sp:Sp}{p pos ay:Pos}{params:Arguments}{body:Expr}{scope sc:Scope}{N NX:List Str}{ix:List Nat}(F:FnOk X.prog X.w X.K X.mg X.base CX0 k f fd [y] sp)(hr:Room k X.A)(hg:Gl X x)(hm:X.mg x=some (.ref f))
  (hk:PySem.W.keepIn X.K (.ref f)=true) (hb:Binds X.K fd [y] []) (hx:X.ex=[]) (jv:∀x,X.fn x=true) (cy:X.env.code=.ref cc) (hC:CodeHd X.base cc T) (hB:X.base.BuiltinsAt X.mg T) (Lf:X.env.scope=sc) (Lg:X.N=NX)
  (ny:defaultsOf params X.env=([],[])) (Lh:∀qual cl pm cv ct,bindArgs (kla_fn "<lambda>" qual params body scope cl pm cv ct) ⟨[],[]⟩=pure []) (ok:Du scope sc NX N ix=true) (bb:(x==("__debug__":Str))=false:=by decide)
  (he:starEach [.Lambda params body scope ay] X.env=(false,eval (.Lambda params body scope ay) X.env)::starEach [] X.env:=by rfl) (aS:(backTo pos (starEach [] X.env)).any (·.1)=false:=by rfl):
  PE X (.Call (.Name x p) [.Lambda params body scope ay] [] pos) (Dt sp N ix (bZ X.env.cells scope.names []) (tMk T (X.env.qual++"<lambda>") params body scope (bZ X.env.cells scope.names []) N)):=by
 subst Lf Lg;unfold Du at ok;simp only[Bool.and_eq_true,Zq,Bool.not_eq_true',List.all_eq_true,Bool.or_eq_true]at ok;obtain⟨⟨⟨⟨⟨kd,co⟩,ge⟩,Jc⟩,zs⟩,hl⟩:=ok
 have kc:∀p∈scope.names,p.2=NameKind.free->X.env.kindOf p.1=some .cell:=fun p hp e=>by
  rcases(Jc p hp).2 with z|z
  .exact absurd e z
  .exact z
 have hz:∀(j:Nat) (x:Str),N[j]?=some x->∃i,ix[j]?=some i/\X.N[i]?=some x/\scope.names.lookup x=some .free:=fun j x e=>by
  have hj:=(zAa.mp e).1;have e2:ix[j]?=some (ix[j]'Zz):=zA0 Zz;have:=zs (x,ix[j]'Zz) (zB5 (i:=j) (by rw[List.getElem?_zip_eq_some];exact⟨e,e2⟩));exact⟨_,e2,this.1,this.2⟩
 refine BZ F hr hg hm hk hb hx (fun p hp e=>⟨kc p hp e,jv _⟩) hz (zP ⟨ny,kd,co,ge,fun p hp=>(Jc p hp).1,fun p hp e=>.inl (kc p hp e),Lh,fun x hx=>?_⟩ cy hC hB) bb he aS;obtain⟨j,e⟩:=List.mem_iff_getElem?.mp hx;obtain⟨_,_,_,z⟩:=hz j x e;exact z
theorem Fun.okC{P:Program}{w:World}{K:Frag}{mg:Str->Option Value}{base:Heap}{x qual:Str}{st:Stmt}{f cc:Addr}{fd:FuncData}{N ps:List Str}{k:Nat}{sp:Sp}(F:Fun K x qual st f fd)(hc:fd.code=.ref cc)(S:FnScope N ps (az st))(len:∀vs H Q E,sp vs H Q E->vs.length=ps.length)
  (aE:∀(A:Around) (outer:List Env) (s:Shared) (H:Hp) (vs:List V) (Q:VK) (E:XK),Room k (A.deeper (envOfC qual (az st) s.heap.objs.size f (.ref cc)))->sp vs H Q E->
   ∃t,PSs (jH CX0 P w K mg base N qual (az st) f (.ref cc) A outer s H E).nox (cH st) t/\t {nx:=fun _ H'=>Q .non H',rt:=Q} (start N vs) H):FnOk P w K mg base CX0 (k+1) f fd ps sp:=by
 obtain⟨oc,od,kV,doc,pm,an,af,ct,c6,rfl,lk,bg⟩:=F.ex;have hc:af=.ref cc:=hc;subst hc;refine yN lk bg S len fun A outer s H vs Q E hr eI=>?_;obtain⟨t,h,q⟩:=aE A outer s H vs Q E hr eI;exact⟨t,h.nox,q⟩
section
variable{S S':Addr->Prop}{H H':Hp}{cs:List (Addr×Obj)}
mutual
theorem IsTh.kp(k:∀b o,(∀ps,o≠HO.tbl ps)->(∀ob u,o≠HO.frz ob u)->H b=some o->H' b=some o)(hS:∀b o,(∀ps,o≠HO.tbl ps)->(∀ob u,o≠HO.frz ob u)->S b->H b=some o->S' b):∀{v:V} {d:PyData},IsTh S H v d->IsTh S' H' v d
 |_,_,.non=>.non
 |_,_,.bl b=>.bl b
 |_,_,.int i=>.int i
 |_,_,.str x=>.str x
 |_,_,.lst s e r=>.lst (hS _ _ (fun _ z=>by cases z) (fun _ _ z=>by cases z) s e) (k _ _ (fun _ z=>by cases z) (fun _ _ z=>by cases z) e) (IsThs.kp k hS r)
 |_,_,.tup e r=>.tup (k _ _ (fun _ z=>by cases z) (fun _ _ z=>by cases z) e) (IsThs.kp k hS r)
 |_,_,.dct s e=>.dct (hS _ _ (fun _ z=>by cases z) (fun _ _ z=>by cases z) s e) (k _ _ (fun _ z=>by cases z) (fun _ _ z=>by cases z) e)
theorem IsThs.kp(k:∀b o,(∀ps,o≠HO.tbl ps)->(∀ob u,o≠HO.frz ob u)->H b=some o->H' b=some o)(hS:∀b o,(∀ps,o≠HO.tbl ps)->(∀ob u,o≠HO.frz ob u)->S b->H b=some o->S' b):∀{vs:List V} {ds:List PyData},IsThs S H vs ds->IsThs S' H' vs ds
 |_,_,.nil=>.nil
 |_,_,.cons h t=>.cons (IsTh.kp k hS h) (IsThs.kp k hS t)
end
theorem IsTh.tbl{T:Addr}{q:Str}{v:V}{d:PyData}(h:IsTh S H v d)(t:TabOk H T q)(k:∀b o,b≠T->H b=some o->H' b=some o):IsTh S H' v d:=
 h.kp (fun b o n1 _ e=>k b o (fun z=>by obtain⟨ps,y,_⟩:=t;rw[z,y]at e;cases e;exact n1 _ rfl) e) fun _ _ _ _ s _=>s
theorem Gz(no:NoC cs H):er (fz H cs) cs=H:=by
 funext b
 cases q:cs.lookup b with
 |some o=>rw[iM q,no b o q]
 |none=>rw[dH q,cQ q]
theorem Ca{H1:Hp}(s:Same (fz H cs) H1){b:Addr}{o:HO}(n:∀ob u,o≠HO.frz ob u)(e:H1 b=some o):er H1 cs b=some o:=by
 cases q:cs.lookup b with
 |some u=>
  rw[s b _ (oM q)]at e;cases e;exact absurd rfl (n _ _)
 |none=>rw[dH q];exact e
theorem Same.er{H1:Hp}(s:Same (L2.fz H cs) H1)(no:NoC cs H):Same H (L2.er H1 cs):=fun b o e=>by
 cases q:cs.lookup b with
 |some u=>rw[no b u q]at e;cases e
 |none=>
  rw[dH q];exact s b o (by rw[cQ q];exact e)
end
theorem uP{P:Program}{w:World}{K:Frag}{mg mb:Str->Option Value}{CX:CXT}{k:Nat}{fa a c T c2 T2:Addr}{fd:FuncData}{x qn qn2:Str}{sp:Sp}{s₁:Shared}{vs:List Value}{ns:List Int}
  (KX:K.In s₁.heap) (DA:s₁.heap.Ns mainGlobals mg) (hb:s₁.heap.Ns builtinsNs mb) (Li:∀x:Str,x≠"__name__"->mb x=bootBuiltins x) (DB:s₁.heap.NoLimit) (hg:s₁.gens=#[])
  (hC:CodeHd s₁.heap c T) (hT:s₁.heap.get? T=some (tabObj #[])) (qS:CodeHd s₁.heap c2 T2) (fE:s₁.heap.get? T2=some (tabObj #[])) (n12:T≠T2) (hK:noTabs K=true) (bmain:∃bm ob,mg "__builtins__"=some (.ref bm)/\bm≠builtinsNs/\s₁.heap.get? bm=some ob/\ob.cls=.type "module"/\ob.dict=some builtinsNs/\ob.data=.plain)
  (ha:s₁.heap.get? a=some {cls:=.type "list",data:=.seq vs.toArray}) (hi:IntsAre vs ns) (hl:ns.length<=sizeLine) (hr:Room k callerA)
  (F:∀base:Heap,K.In base->base.Ns mainGlobals mg->CodeHd base c T->base.BuiltinsAt mg T->CodeHd base c2 T2->base.BuiltinsAt mg T2->FnOk P w K mg base CX k fa fd [x] sp) (vi:∀(s:Shared) (u:Value),BindsTo s fd ⟨[u],[]⟩ [(x,u)])
  (eI:∀H:Hp,SqL K H a (ns.map V.int)->TabOk H T qn->TabOk H T2 qn2->sp [.ref a] H (fun v _=>v=.bl true) fun _ _ _=>False) (DC:∀(H:Hp) (e:Value) (s':Shared),CX [] H s₁ (fun _ _ _=>False) e s'->False):
  codeAny (model P w) callerA (.call (.ref fa) ⟨[.ref a],[]⟩) (fun r s'=>r=.ok (.ret (.bool true))/\OldK s₁.heap s'.heap/\s'.os=s₁.os/\AllBare s'.gens) s₁:=by
 have rv:=nZ hi;have DD:=hi.length
 have neT:∀{U:Addr},s₁.heap.get? U=some (tabObj #[])->a≠U:=fun hT z=>by
  rw[z,hT]at ha;cases ha
 have Jd:∀{U:Addr},s₁.heap.get? U=some (tabObj #[])->K.lookup U=none:=fun{U} hT=>by
  cases e:K.lookup U with
  |none=>rfl
  |some o=>
   have h1:=KX _ _ e;rw[hT]at h1;cases h1;have h2:=List.all_eq_true.mp hK _ (mem_of_lookupK e);exact absurd (show false=true from h2) zAg
 have core:∀H:Hp,H T=some (.tbl #[])->H T2=some (.tbl #[])->(∀b,b≠T->b≠T2->H b=none\/∃o xs,H b=some (.frz o (.lst xs)))->SqL K H a (ns.map V.int)->HOk P w H s₁.heap->(∀b,H b≠none->b=a\/b=T\/b=T2)->(H a≠none->K.lookup a=none)->
   codeAny (model P w) callerA (.call (.ref fa) ⟨[.ref a],[]⟩) (fun r s'=>r=.ok (.ret (.bool true))/\OldK s₁.heap s'.heap/\s'.os=s₁.os/\AllBare s'.gens) s₁:=by
  intro H eT Je hO hS hok hA Lj;have bE:∀{b:Addr} {o:Obj},s₁.heap.get? b=some o->H b=none->(lC s₁.heap H).get? b=some o:=fun e n=>yu e n
  have apart:∀{b:Addr} {o:Obj},s₁.heap.get? b=some o->(∀Zr n,o.data≠.seq Zr n)->o.cls≠.none->H b=none:=fun{b o} e h1 h2=>by
   cases q:H b with
   |none=>rfl
   |some u=>
    rcases hA b (by rw[q];simp)with z|z|z
    .rw[z,ha]at e;cases e;exact absurd rfl (h1 _ _)
    .rw[z,hT]at e;cases e;exact absurd rfl h2
    .rw[z,fE]at e;cases e;exact absurd rfl h2
  have sQ:∀{b:Addr} {o:Obj} {es:Array DictEntry} {ep:Nat},s₁.heap.get? b=some o->o.data=.dict es ep->H b=none:=fun{b o es ep} e d=>by
   cases q:H b with
   |none=>rfl
   |some u=>
    rcases hA b (by rw[q];simp)with z|z|z
    .rw[z,ha]at e;cases e;cases d
    .rw[z,hT]at e;cases e;cases d
    .rw[z,fE]at e;cases e;cases d
  have AF:∀{b:Addr} {m:Str->Option Value},s₁.heap.Ns b m->(lC s₁.heap H).Ns b m:=fun{b m} ⟨o,es,ep,e,d,r⟩=>⟨o,es,ep,bE e (sQ e d),d,r⟩
  have Jf:K.In (lC s₁.heap H):=fun b o e=>bE (KX b o e) (by
   cases q:H b with
   |none=>rfl
   |some u=>
    rcases hA b (by rw[q];simp)with z|z|z
    .subst z;rw[Lj (by rw[q];simp)]at e;cases e
    .rw[z,Jd hT]at e;cases e
    .rw[z,Jd fE]at e
     cases e)
  have hM:Mod K mg (lC s₁.heap H):=⟨Jf,AF DA,⟨mb,AF hb,Li⟩,let⟨mc,h1,h2⟩:=DB;⟨mc,AF h1,h2⟩⟩
  have e0:Env0 P w K mg (lC s₁.heap H) callerA [] s₁ H:=⟨rfl,hM,fun b o e=>Bc e,Nat.le_of_eq (wQ _ _),trivial,fun b hb=>absurd (show b∈([]:List Addr)from hb) Zy,hok,.of_eq hg⟩
  have Jg:∀{c U:Addr},CodeHd s₁.heap c U->CodeHd (lC s₁.heap H) c U:=fun hC=>by
   obtain⟨o,Lk,file,tf,flags,tg,tN,text,tt,e,h1,h2,r⟩:=hC;exact⟨o,Lk,file,tf,flags,tg,tN,text,tt,bE e (apart e (fun Zr n z=>by rw[h2]at z;cases z) fun z=>by rw[h1]at z;cases z),h1,h2,r⟩
  have Jh:∀{U:Addr},s₁.heap.get? U=some (tabObj #[])->(lC s₁.heap H).BuiltinsAt mg U:=fun{U} hT=>by
   obtain⟨bm,ob,b1,b2,b3,b4,b5,b6⟩:=bmain;refine⟨bm,ob,b1,b2,fun z=>?_,fun z=>?_,bE b3 (apart b3 (fun Zr n z=>by rw[b6]at z;cases z) fun z=>by rw[b4]at z;cases z),b4,b5,b6⟩
   .obtain⟨o,es,ep,e,d,_⟩:=DA;rw[z,e]at b3;cases b3;rw[d]at b6;cases b6
   .rw[z,hT]at b3;cases b3;cases b4
  refine codeAny_mono ((F _ Jf (AF DA) (Jg hC) (Jh hT) (Jg qS) (Jh fE)).run callerA [] s₁ H ⟨[.ref a],[]⟩ [.ref a] [.ref a] _ _ hr e0 (vi s₁ (.ref a)) (.cons rfl .nil) (eI H hS ⟨#[],eT,trivial,fun l=>.inl rfl⟩ ⟨#[],Je,trivial,fun l=>.inl rfl⟩)) fun r s' h=>?_
  cases r with
  |error e=>exact(DC H e s' h).elim
  |ok fl=>
   cases fl with
   |next=>exact False.elim h
   |brk=>exact False.elim h
   |cont=>exact False.elim h
   |ret u=>
    obtain⟨v,H',os,bare,un,oi,r',q⟩:=h;have q':v=.bl true:=q;subst q';obtain rfl:u=Value.bool true:=r'
    have kept:∀b o,b≠T->b≠T2->s₁.heap.get? b=some o->s'.heap.get? b=some o:=fun b o nb qV e=>by
     rcases hO b nb qV with z|⟨ob,xs,z⟩
     .exact un.keep b o e z (by intro z;exact absurd (show b∈([]:List Addr)from z) Zy) Zy
     .have z2:=un.frzs b ob _ z;obtain⟨e1,_⟩:=hok b _ z;obtain⟨e2,_⟩:=oi b _ z2;rw[e]at e1;cases e1;exact e2
    obtain⟨more,Ll⟩:=un.tbls T #[] eT;have Ji:s'.heap.get? T=some (tabObj (#[]++more)):=oi T _ Ll;obtain⟨mn,DE⟩:=un.tbls T2 #[] Je;have vj:s'.heap.get? T2=some (tabObj (#[]++mn)):=oi T2 _ DE;refine⟨rfl,⟨fun b o e=>?_,fun b o e=>?_⟩,os,bare⟩
    .by_cases z:b=T
     .subst z;rw[hT]at e;cases e;exact .inr (.inl ⟨(hC.tab hT).isCodeTable,rfl,#[],more,rfl,Ji⟩)
     .by_cases z2:b=T2
      .subst z2;rw[fE]at e;cases e;exact .inr (.inl ⟨(qS.tab fE).isCodeTable,rfl,#[],mn,rfl,vj⟩)
      .exact .inl (kept b o z z2 e)
    .by_cases z:b=T
     .rw[z];exact⟨_,Ji⟩
     .by_cases z2:b=T2
      .rw[z2];exact⟨_,vj⟩
      .exact⟨o,kept b o z z2 e⟩
 cases hk:K.lookup a with
 |some o=>
  have e:=KX a o hk;rw[ha]at e;cases e;refine core (fun b=>if b=T\/b=T2 then some (.tbl #[])else none) (if_pos (.inl rfl)) (if_pos (.inr rfl)) (fun b nb qV=>.inl (if_neg fun z=>z.elim nb qV)) (.inr ⟨_,vs.toArray,_,hk,rfl,rfl,rfl,by rw[List.size_toArray,DD];exact hl,by simpa using rv⟩) (fun b u z=>?_) (fun b z=>?_) fun z=>absurd (if_neg fun y=>y.elim (neT hT) (neT fE)) z
  .by_cases bX:b=T\/b=T2
   .have z':=(zAx bX).symm.trans z;cases z';rcases bX with rfl|rfl
    .exact hT
    .exact fE
   .have z':=(zAw bX).symm.trans z;cases z'
  .by_cases bX:b=T\/b=T2
   .exact .inr bX
   .exact absurd (zAw bX) z
 |none=>
  refine core (fun b=>if b=T\/b=T2 then some (.tbl #[])else if b=a then some (.frz {cls:=.type "list",data:=.seq vs.toArray} (.lst (ns.map V.int)))else none) (zAx (.inl rfl)) (zAx (.inr rfl)) (fun b nb qV=>?_) (.inl (.inr ⟨{cls:=.type "list",data:=.seq vs.toArray},(zAw fun y=>y.elim (neT hT) (neT fE)).trans (zAx rfl)⟩)) (fun b u z=>?_) (fun b z=>?_) fun _=>hk
  .by_cases bX:b=a
   .exact .inr ⟨_,_,(zAw fun z=>z.elim nb qV).trans (zAx bX)⟩
   .exact .inl ((zAw fun z=>z.elim nb qV).trans (zAw bX))
  .by_cases oj:b=T\/b=T2
   .have z':=(zAx oj).symm.trans z;cases z';rcases oj with rfl|rfl
    .exact hT
    .exact fE
   .by_cases bX:b=a
    .have z':=((zAw oj).trans (zAx bX)).symm.trans z;cases z';subst bX;exact⟨ha,by rw[zA1];exact hl,vs,_,rv,ha⟩
    .have z':=((zAw oj).trans (zAw bX)).symm.trans z;cases z'
  .by_cases oj:b=T\/b=T2
   .exact .inr oj
   .by_cases bX:b=a
    .exact .inl bX
    .exact absurd ((zAw oj).trans (zAw bX)) z
theorem walk_ofT2{l:PySem.W.OpenLaw}{n k:Nat}{q:Program}{loose:List Str}{XP:(Str->Option Value)->Heap->Prop}{YP:World->Heap->Prop}{d dr q0:DefRec}{K:Params->Frag}{CX:World->CXT}{sp:World->Sp}{x nm nm2 qn qn2:Str}{c T c2 T2:Addr}
  (hn:l.most=some n) (zt:n<=sizeLine) (ny:d.params.defaults=[]) (hr:Room k callerA)
  (hY:∀(w:World) (h:Heap),YP w h->(K w.params).In h)
  (DF:(recsOf q).find? (fun e=>e.name==nm)=some dr) (vc:∀p:Params,tabIn (K p) nm=some (c,T)) (om:(recsOf q).find? (fun e=>e.name==nm2)=some q0) (oo:∀p:Params,tabIn (K p) nm2=some (c2,T2)) (n12:T≠T2) (DH:∀p:Params,noTabs (K p)=true)
  (F:∀(w:World) (mg:Str->Option Value) (fa:Addr) (h:Heap),(K w.params).In h->h.Ns mainGlobals mg->mg d.name=some (.ref fa)->
   ∃fd:FuncData,(∀(s:Shared) (u:Value),BindsTo s fd ⟨[u],[]⟩ [(x,u)]) /\
    ∀base:Heap,(K w.params).In base->base.Ns mainGlobals mg->CodeHd base c T->base.BuiltinsAt mg T->CodeHd base c2 T2->base.BuiltinsAt mg T2->FnOk l.prog w (K w.params) mg base (CX w) k fa fd [x] (sp w))
  (eI:∀(w:World) (H:Hp) (a:Addr) (ns:List Int),ns.length<=n->SqL (K w.params) H a (ns.map V.int)->TabOk H T qn->TabOk H T2 qn2->sp w [.ref a] H (fun v _=>v=.bl true) fun _ _ _=>False)
  (DC:∀(w:World) (H:Hp) (s:Shared) (e:Value) (s':Shared),CX w [] H s (fun _ _ _=>False) e s'->False):
  PySem.W.WalkO q loose XP YP l.row.toRowW d [] (fun f vs=>PySem.call f vs):=by
 refine Att.attach_call hn ny fun w s₀ s₁ mg mb fa o pm cd doc a vs ns G Y ho hd bg hmg nB hints hlen hg=>?_;have KX:=hY w _ Y;obtain⟨fd,hb,hF⟩:=F w mg fa _ KX G.T.g hmg;obtain⟨hC,hT⟩:=tab_of G.T KX DF (vc w.params);obtain⟨qS,fE⟩:=tab_of G.T KX om (oo w.params);exact uP KX G.T.g G.T.b G.T.builtins G.T.nolimit hg hC hT qS fE n12 (DH w.params) G.T.bmain nB hints (Nat.le_trans hlen zt) hr hF hb (fun H hS Lm DI=>eI w H a ns hlen hS Lm DI) fun H e s'=>DC w H s₁ e s'
open PySem PySem.Spec PyProof.Rows PySem.SeqAt
theorem zQ{X:Cx}{S:Addr->Prop}(hu:X.A.units+64<cLine):OpR X (compareOp .NotEq) (fun x y H Q=>∃d,IsTh S H x d/\IsTh S H y d/\shaped d=true/\noMix d d=true/\Q (.bl false) H):=by
 intro Zt s σ H x y v u Q I rx ry h;obtain⟨d,t1,t2,sh,nm,q⟩:=h;obtain⟨as,r1,_⟩:=t1.reads I rx;obtain⟨bs,r2,_⟩:=t2.reads I ry;refine ne_dataH_same r1 r2 sh sh hu nm ⟨.bl false,H,I,?_,q⟩;rw[Spec.same_self];rfl
end L2
namespace K72
open PySem L2
def top(i:Nat):Stmt:=PySem.Challenge.pw_woolyears_k72_what_a_keeper_refuses.main.body.getD i (.Pass ⟨0,0,0,0⟩)
def b8(d:PyData):Bool:=jL d&&!ji d
def items:PyData->List PyData
 |.tuple ds=>ds
 |_=>[]
def intOf:PyData->Int
 |.int i=>i
 |_=>0
def dF(d:PyData)(f m:Int):Bool:=dh d&&(decide (f<=(items d).length)&&decide (((items d).length:Int)<=m))
def aY(d:PyData)(n:Int):Bool:=dF d n n&&(items d).all b8
def dX(d:PyData):Bool:=aY d 3&&(items d).all fun x=>decide (0<=intOf x)&&decide (intOf x<=999)
def at_(d:PyData)(i:Nat):Int:=intOf ((items d).getD i .none)
def j8(a b c d e f:Int):Bool:=
 (decide (0<=a)&&decide (a<8))&&((decide (0<=b)&&decide (b<3))&&((decide (0<=c)&&(decide (c<=d)&&decide (d<=19)))&&((decide (1<=e)&&decide (e<=99))&&(decide (0<=f)&&decide (f<=1000000)))))
def cW(d:PyData):Bool:=aY d 6&&j8 (at_ d 0) (at_ d 1) (at_ d 2) (at_ d 3) (at_ d 4) (at_ d 5)
def uQ(d:PyData):Bool:=dF d 0 10&&(items d).all cW
theorem nd1(x:Str):([x]:List Str).Nodup:=by simp
theorem Fg(d:PyData):1<=sz d:=by cases d<;>simp[sz]
theorem qp:∀(ds:List PyData),ds.length<=szs ds
 |[]=>zAp _
 |d::ds=>by
  have:=qp ds;have:=Fg d;simp only[List.length_cons,szs];lia
theorem qu:∀{ds:List PyData} {d:PyData},d∈ds->sz d<=szs ds
 |x::ds,d,h=>by
  simp only[szs];rcases zAo.mp h with e|e
  .rw[e];lia
  .have:=qu e;lia
theorem vY{ds:List PyData}{d:PyData}(h:d∈ds)(hz:sz (.tuple ds)<=4000):sz d<=4000:=by
 have:=qu h;simp only[sz]at hz;lia
theorem ie{S:Addr->Prop}{H:Hp}{xs:List V}{ds:List PyData}(r:IsThs S H xs ds)(hz:sz (.tuple ds)<=4000):xs.length<sizeLine:=by
 have:=qp ds;have:=r.length;simp only[sz]at hz;rw[sizeLine_eq];lia
def spT(f:PyData->Bool):Sp:=fun vs H Q _=>∃S v d,vs=[v]/\IsTh S H v d/\sz d<=4000/\∀H',Same H H'->Q (.bl (f d)) H'
inductive SpT1I(f:PyData->Int->Bool)(vs:List V)(H:Hp)(Q:VK):Prop
 |mk:∀S v d n,(vs=[v,.int n])->(IsTh S H v d)->(sz d<=4000)->(∀H',Same H H'->Q (.bl (f d n)) H')->SpT1I f vs H Q
def zR(f:PyData->Int->Bool):Sp:=fun vs H Q _=>SpT1I f vs H Q
def uR(f:PyData->Int->Int->Bool):Sp:=fun vs H Q _=>∃S v d n m,vs=[v,.int n,.int m]/\IsTh S H v d/\sz d<=4000/\∀H',Same H H'->Q (.bl (f d n m)) H'
structure Mg(mg:Str->Option Value):Prop where
 isinstance:mg "isinstance"=none
 int:mg "int"=none
 bool:mg "bool"=none
 tuple:mg "tuple"=none
 len:mg "len"=none
 all:mg "all"=none
theorem boot_int:bootBuiltins "int"=some (.type "int"):=by decide +kernel
theorem boot_bool:bootBuiltins "bool"=some (.type "bool"):=by decide +kernel
theorem boot_tuple:bootBuiltins "tuple"=some (.type "tuple"):=by decide +kernel
theorem boot_isinstance:bootBuiltins "isinstance"=some (.builtin "isinstance"):=by decide +kernel
theorem boot_all:bootBuiltins "all"=some (.builtin "all"):=by decide +kernel
theorem gw{K:Frag}{S:Addr->Prop}{te:TE}{src:List (Option Nat)}{i j:Nat}{σ:St}{H:Hp}{Q:VK}{a:Addr}{xs:List V}{ds:List PyData}(f:PyData->Bool)(fy:σ[i]?=some (some (.ref a)))(ea:H a=some (.tup xs))(r:IsThs S H xs ds)(hl:xs.length<sizeLine)
  (kr:∀v d H1 Q1,d∈ds->Same H H1->IsTh S H1 v d->(∀H',Same H1 H'->Q1 (.bl (f d)) H')->te ((capσ σ src).set j (some v)) H1 Q1) (q:∀H',Same H H'->Q (.bl (ds.all f)) H'):
  tCB (fun xs H Q=>∃(p:Addr) (bs:List Bool),xs=[.ref p]/\SqL K H p (bs.map V.bl)/\Q (.bl (bs.all id)) H) (dD (Dp (Gd K (wR i)) src (eV j) yO te) iT) σ H Q:=by
 refine⟨_,fy,a,rfl,⟨xs,SqT.of ea⟩,sV (j:=j) f ea r hl kr fun H2 s2 D hD=>⟨D,ds.map f,rfl,?_,?_⟩⟩
 .rw[<-yV];exact SqL.of aa
 .rw[En];exact q _ (s2.updR hD)
structure Nums(mg:Str->Option Value):Prop where
 sorts:∃t,mg "SORTS"=some (.int 3 t)
 holders:∃t,mg "HOLDERS"=some (.int 8 t)
 year:∃t,mg "LAST_YEAR"=some (.int 19 t)
 clips:∃t,mg "MOST_CLIPS"=some (.int 20 t)
 proms:∃t,mg "MOST_PROMISES"=some (.int 10 t)
 wool:∃t,mg "MOST_WOOL"=some (.int 999 t)
 sacks:∃t,mg "MOST_SACKS"=some (.int 99 t)
 price:∃t,mg "MOST_PRICE"=some (.int 1000000 t)
theorem jQ{d:PyData}{n:Int}(h:aY d n=true):dF d n n=true/\∀x∈items d,b8 x=true:=by
 unfold aY at h;rw[zAc]at h;exact⟨h.1,List.all_eq_true.mp h.2⟩
theorem fU{S:Addr->Prop}{H:Hp}{v:V}{d:PyData}(h:IsTh S H v d)(e:b8 d=true):∃i,v=.int i/\d=.int i:=by
 cases h with
 |int i=>exact⟨i,rfl,rfl⟩
 |_=>cases e
theorem oO{α:Type}{n:Nat}{l:List α}(h:l.length=n+1):∃a t,l=a::t/\t.length=n:=by
 cases l with
 |nil=>cases h
 |cons a t=>exact⟨a,t,rfl,Nat.succ.inj h⟩
theorem GC{α:Type}{l:List α}(h:l.length=5):∃a b c d e,l=[a,b,c,d,e]:=by
 obtain⟨a,l1,e1,h1⟩:=oO h;obtain⟨b,l2,e2,h2⟩:=oO h1;obtain⟨c,l3,e3,h3⟩:=oO h2;obtain⟨d,l4,e4,h4⟩:=oO h3;obtain⟨e,l5,e5,h5⟩:=oO h4;exact⟨a,b,c,d,e,by rw[e1,e2,e3,e4,e5,List.length_eq_zero_iff.mp h5]⟩
theorem Fi{α:Type}{l:List α}(h:l.length=6):∃a b c d e f,l=[a,b,c,d,e,f]:=by
 obtain⟨a,l1,e1,h1⟩:=oO h;obtain⟨b,c,d,e,f,e2⟩:=GC h1;exact⟨a,b,c,d,e,f,by rw[e1,e2]⟩
theorem fV{S:Addr->Prop}{H:Hp}{xs:List V}{d:PyData}{ds:List PyData}(r:IsThs S H xs (d::ds))(e:b8 d=true):∃i t,xs=.int i::t/\d=.int i/\IsThs S H t ds:=by
 cases r with
 |cons h1 r=>
  obtain⟨i,rfl,rfl⟩:=fU h1 e;exact⟨i,_,rfl,rfl,r⟩
theorem tL{S:Addr->Prop}{H:Hp}{xs:List V}{ds:List PyData}(r:IsThs S H xs ds)(hl:ds.length=6)(hw:∀x∈ds,b8 x=true):
  ∃i1 i2 i3 i4 i5 i6:Int,xs=[.int i1,.int i2,.int i3,.int i4,.int i5,.int i6]/\ds=[.int i1,.int i2,.int i3,.int i4,.int i5,.int i6]:=by
 obtain⟨d1,d2,d3,d4,d5,d6,rfl⟩:=Fi hl;obtain⟨i1,t1,e1,rfl,r1⟩:=fV r (hw _ Zy);obtain⟨i2,t2,e2,rfl,r2⟩:=fV r1 (hw _ Zy);obtain⟨i3,t3,e3,rfl,r3⟩:=fV r2 (hw _ Zy);obtain⟨i4,t4,e4,rfl,r4⟩:=fV r3 (hw _ Zy);obtain⟨i5,t5,e5,rfl,r5⟩:=fV r4 (hw _ Zy);obtain⟨i6,t6,e6,rfl,r6⟩:=fV r5 (hw _ Zy);cases r6;exact⟨i1,i2,i3,i4,i5,i6,by rw[e1,e2,e3,e4,e5,e6],rfl⟩
theorem xT{ds:List PyData}{n m:Int}(h:dF (.tuple ds) n m=true):n<=(ds.length:Int)/\(ds.length:Int)<=m:=by
 have h:(true&&(decide (n<=(ds.length:Int))&&decide ((ds.length:Int)<=m)))=true:=h;rw[Bool.true_and,zAc]at h;exact⟨zB8 h.1,zB8 h.2⟩
def Cal(P:Program)(w:World)(K:Frag)(mg:Str->Option Value)(base:Heap)(k:Nat)(x:Str)(ps:List Str)(sp:Sp):Prop:=
 ∃f fd,FnOk P w K mg base CX0 k f fd ps sp/\mg x=some (.ref f)/\PySem.W.keepIn K (.ref f)=true/\Binds K fd ps []
theorem aK{X:Cx}{k j:Nat}{x:Str}{ps:List Str}{sp:Sp}{p pos:Pos}{e:Expr}{es:List Expr}{t:TA}(c:Cal X.prog X.w X.K X.mg X.base j x ps sp)(hr:Room k X.A)(ha:PA X (e::es) t)(hjk:j<=k:=by decide)(hg:Gl X x:=by exact rfl)
  (bb:(x==("__debug__":Str))=false:=by decide) (he:starEach (e::es) X.env=(false,eval e X.env)::starEach es X.env:=by rfl) (aS:(backTo pos (starEach es X.env)).any (·.1)=false:=by rfl):
  PE X (.Call (.Name x p) (e::es) [] pos) (rC sp [] E0 t):=by
 obtain⟨f,fd,F,hm,hk,hb⟩:=c;exact vC F (hr.mono hjk) hg hm hk hb .nil vH ha bb he aS
variable{P:Program}{w:World}{K:Frag}{mg:Str->Option Value}{base:Heap}{f:Addr}{fd:FuncData}
theorem sc1:FnScope ["thing"] ["thing"] (az (top 21)):=fQS
theorem tM(F:Fun K "is_whole" "is_whole" (top 21) f fd)(T:Mg mg):FnOk P w K mg base CX0 1 f fd ["thing"] (spT b8):=by
 refine F.ok sc1 (fun vs H Q E h=>?_) (fun af A outer s H vs Q E hr h=>?_)
 .obtain⟨S,v,d,rfl,_⟩:=h;rfl
 .obtain⟨S,v,d,rfl,th,hz,q⟩:=h
  refine⟨_,aA (aO (cJ (aH bG rfl T.isinstance boot_isinstance (aQ (pv 0) (aQ (cZ rfl T.int boot_int (v:=.ty "int") rfl) aj)))
   (fB (yx (aH bG rfl T.isinstance boot_isinstance (aQ (pv 0) (aQ (cZ rfl T.bool boot_bool (v:=.ty "bool") rfl) aj))))))),?_⟩
  refine⟨_,rfl,v,_,"int",jL d,rfl,th.ty,vJ d,_,rfl,?_⟩;have fin:=q H (Same.refl H);unfold b8 at fin
  cases e:jL d with
  |false=>
   rw[e]at fin;exact bf fin
  |true=>
   rw[e]at fin;exact bh ⟨_,rfl,v,_,"bool",ji d,rfl,th.ty,sy d,_,rfl,fin⟩
theorem sc2:FnScope ["thing","fewest","most"] ["thing","fewest","most"] (az (top 23)):=fQS
theorem m5(F:Fun K "is_tuple_of" "is_tuple_of" (top 23) f fd)(T:Mg mg):FnOk P w K mg base CX0 1 f fd ["thing","fewest","most"] (uR dF):=by
 refine F.ok sc2 (fun vs H Q E h=>?_) (fun af A outer s H vs Q E hr h=>?_)
 .obtain⟨S,v,d,n,m,rfl,_⟩:=h;rfl
 .obtain⟨S,v,d,n,m,rfl,th,hz,q⟩:=h
  refine⟨_,aA (aO (cJ (aH bG rfl T.isinstance boot_isinstance (aQ (pv 0) (aQ (cZ rfl T.tuple boot_tuple (v:=.ty "tuple") rfl) aj)))
   (fB (cg bC bC (pv 1) (aH aP rfl T.len PySem.boot_len (aQ (pv 0) aj)) (pv 2))))),?_⟩
  refine⟨_,rfl,v,_,"tuple",dh d,rfl,th.ty,iB d,_,rfl,?_⟩;have fin:=q H (Same.refl H);unfold dF at fin
  cases e:dh d with
  |false=>
   rw[e]at fin;exact bf fin
  |true=>
   rw[e]at fin;refine bh ?_
   cases th with
   |@tup a xs ds ea r=>
    have hl:=r.length;refine⟨_,rfl,_,rfl,a,xs,rfl,.inr (SqT.of ea),_,_,rfl,rfl,_,rfl,?_⟩;rw[hl];have fin:Q (.bl (true&&(decide (n<=(ds.length:Int))&&decide ((ds.length:Int)<=m)))) H:=fin
    cases e1:decide (n<=(ds.length:Int))with
    |false=>
     rw[e1]at fin;exact bf fin
    |true=>
     rw[e1]at fin;exact bh ⟨_,rfl,_,_,rfl,rfl,fin⟩
   |_=>cases e
theorem sc3:FnScope ["thing","many"] ["thing","many"] (az (top 24)):=fQS
theorem nH(F:Fun K "are_wholes" "are_wholes" (top 24) f fd)(T:Mg mg)(c1:Cal P w K mg base 1 "is_whole" ["thing"] (spT b8))(c2:Cal P w K mg base 1 "is_tuple_of" ["thing","fewest","most"] (uR dF)):
  FnOk P w K mg base CX0 2 f fd ["thing","many"] (zR aY):=by
 refine F.ok sc3 (fun vs H Q E h=>?_) (fun af A outer s H vs Q E hr h=>?_)
 .obtain⟨S,v,d,n,rfl,_⟩:=h;rfl
 .obtain⟨S,v,d,n,rfl,th,hz,q⟩:=h
  refine⟨_,aA (aO (cJ (aK c2 hr (aQ (pv 0) (aQ (pv 1) (aQ (pv 1) aj))))
   (fB (aH (fQ rfl) rfl T.all boot_all (aQ (f9 ["part"] [none] rfl (lD (pv 0))
    (fun C fp Zt s₂ H₂=>⟨d7 (i:=0) (nd1 _) rfl (Or.inl rfl),eZ,aK c1 hr (aQ (pv 0) aj)⟩) (fun C=>trivial) ⟨rfl,rfl,rfl,rfl⟩) aj))))),?_⟩
  refine⟨_,rfl,_,rfl,_,rfl,S,v,d,n,n,rfl,th,hz,fun H1 s1=>⟨_,rfl,?_⟩⟩;have kC:=th.same s1
  cases e:dF d n n with
  |false=>
   refine bf ?_;have fin:=q H1 s1;unfold aY at fin;rw[e]at fin;exact fin
  |true=>
   refine bh ?_
   cases kC with
   |@tup a xs ds ea r=>
    have ew:aY (.tuple ds) n=ds.all b8:=by unfold aY;rw[e];rfl
    refine gw b8 rfl ea r (ie r hz) (fun v d H2 Q2 hm s2 t2 q2=>⟨_,rfl,S,v,d,rfl,t2,vY hm hz,q2⟩) fun H2 s2=>?_;rw[<-ew];exact q _ (s1.trans s2)
   |_=>cases e
theorem HF:FnScope ["thing"] ["thing"] (az (top 35)):=fQS
theorem uT(F:Fun K "is_clip" "is_clip" (top 35) f fd)(T:Mg mg)(N:Nums mg)(c1:Cal P w K mg base 2 "are_wholes" ["thing","many"] (zR aY)):
  FnOk P w K mg base CX0 3 f fd ["thing"] (spT dX):=by
 refine F.ok HF (fun vs H Q E h=>?_) (fun af A outer s H vs Q E hr h=>?_)
 .obtain⟨S,v,d,rfl,_⟩:=h;rfl
 .obtain⟨S,v,d,rfl,th,hz,q⟩:=h;obtain⟨t3,e3⟩:=N.sorts;obtain⟨t9,e9⟩:=N.wool
  refine⟨_,aA (aO (cJ (aK c1 hr (aQ (pv 0) (aQ (bQ (v:=.int 3) rfl e3 ⟨_,rfl⟩) aj)))
   (fB (aH (fQ rfl) rfl T.all boot_all (aQ (f9 ["sacks"] [none] rfl (lD (pv 0))
    (fun C fp Zt s₂ H₂=>⟨d7 (i:=0) (nd1 _) rfl (Or.inl rfl),eZ,cg bC bC ak (pv 0) (bQ (v:=.int 999) rfl e9 ⟨_,rfl⟩)⟩) (fun C=>trivial) ⟨rfl,rfl,rfl,rfl⟩) aj))))),?_⟩
  refine⟨_,rfl,S,v,d,3,rfl,th,hz,fun H1 s1=>⟨_,rfl,?_⟩⟩;have kC:=th.same s1;have fin:=fun H' (s:Same H H')=>q H' s;unfold dX at fin
  cases e:aY d 3 with
  |false=>
   rw[e]at fin;exact bf (fin _ s1)
  |true=>
   rw[e]at fin;refine bh ?_;obtain⟨e1,e2⟩:=jQ e
   cases kC with
   |@tup a xs ds ea r=>
    refine gw (fun x=>decide (0<=intOf x)&&decide (intOf x<=999)) rfl ea r (ie r hz) (fun v d H2 Q2 hm s2 t2 q2=>?_) fun H2 s2=>fin _ (s1.trans s2);obtain⟨i,rfl,rfl⟩:=fU t2 (e2 d hm);refine⟨_,rfl,_,_,rfl,rfl,_,rfl,?_⟩;have q3:=q2 H2 (Same.refl _);show if decide ((0:Int)<=i)=true then _ else _
    cases e5:decide ((0:Int)<=i)with
    |false=>
     refine bf ?_;have q3:Q2 (.bl (decide ((0:Int)<=i)&&decide (i<=999))) H2:=q3;rw[e5]at q3;exact q3
    |true=>
     refine bh ⟨_,_,rfl,rfl,?_⟩;have q3:Q2 (.bl (decide ((0:Int)<=i)&&decide (i<=999))) H2:=q3;rw[e5]at q3;exact q3
   |_=>cases e1
theorem sc15:FnScope ["thing","holder","sort","first","last","sacks","price"] ["thing"] (az (top 36)):=fQS
theorem nJ(F:Fun K "is_promise" "is_promise" (top 36) f fd)(T:Mg mg)(N:Nums mg)(c1:Cal P w K mg base 2 "are_wholes" ["thing","many"] (zR aY)):
  FnOk P w K mg base CX0 3 f fd ["thing"] (spT cW):=by
 refine F.ok sc15 (fun vs H Q E h=>?_) (fun af A outer s H vs Q E hr h=>?_)
 .obtain⟨S,v,d,rfl,_⟩:=h;rfl
 .obtain⟨S,v,d,rfl,th,hz,q⟩:=h;obtain⟨t1,e1⟩:=N.holders;obtain⟨t2,e2⟩:=N.sorts;obtain⟨t3,e3⟩:=N.year;obtain⟨t4,e4⟩:=N.sacks;obtain⟨t5,e5⟩:=N.price
  refine⟨_,aG (bw (bB (bD (aK c1 hr (aQ (pv 0) (aQ ak aj))))) (aA (aO gJ)) aN)
   (aG (bY (pv 0) (bW rfl (au (pgn 1 sc15.nd) (au (pgn 2 sc15.nd) (au (pgn 3 sc15.nd)
    (au (pgn 4 sc15.nd) (au (pgn 5 sc15.nd) (au (pgn 6 sc15.nd) bF))))))))
   (aA (aO (cJ (cg bC lG ak (pv 1) (bQ (v:=.int 8) rfl e1 ⟨_,rfl⟩)) (cJ (cg bC lG ak (pv 2) (bQ (v:=.int 3) rfl e2 ⟨_,rfl⟩))
    (cJ (xq bC bC bC ak (pv 3) (pv 4) (bQ (v:=.int 19) rfl e3 ⟨_,rfl⟩)) (cJ (cg bC bC ak (pv 5) (bQ (v:=.int 99) rfl e4 ⟨_,rfl⟩))
     (fB (cg bC bC ak (pv 6) (bQ (v:=.int 1000000) rfl e5 ⟨_,rfl⟩)))))))))),?_⟩
  refine⟨_,rfl,S,v,d,6,rfl,th,hz,fun H1 s1=>⟨_,rfl,?_⟩⟩;have kC:=th.same s1;have fin:=fun H' (s:Same H H')=>q H' s;unfold cW at fin
  cases e:aY d 6 with
  |false=>
   rw[e]at fin;exact bh (fin _ s1)
  |true=>
   rw[e]at fin;refine bf ?_;obtain⟨z1,z2⟩:=jQ e
   cases kC with
   |@tup a xs ds ea r=>
    have hl:ds.length=6:=by
     have:=xT z1;lia
    obtain⟨i1,i2,i3,i4,i5,i6,rfl,rfl⟩:=tL r hl z2;refine⟨_,rfl,a,_,rfl,SqT.of ea,rfl,_,_,rfl,_,_,rfl,_,_,rfl,_,_,rfl,_,_,rfl,_,_,rfl,rfl,?_⟩;refine gj (bH dG (cV rfl) dG) (fun _=>gj (bH dG (cV rfl) dG) fun _=>gj (xr dG (cV rfl) (cV rfl) dG) fun _=>gj (bH dG (cV rfl) dG) fun _=>bH dG (cV rfl) dG) _ ?_;exact fin H1 s1
   |_=>cases z1
def fM(d:PyData)(lo hi:Int):Bool:=b8 d&&(decide (lo<=intOf d)&&decide (intOf d<=hi))
def m7(d:PyData):Bool:=dh d&&(decide ((items d).length=3)&&(items d).all fun x=>fM x 0 999)
def bounds:List PyData:=[.tuple [.int 0,.int 7],.tuple [.int 0,.int 2],.tuple [.int 0,.int 19],.tuple [.int 0,.int 19],.tuple [.int 1,.int 99],.tuple [.int 0,.int 1000000]]
def qx(d e:PyData):Bool:=fM d (at_ e 0) (at_ e 1)
def m8(d:PyData):Bool:=dh d&&(decide ((items d).length=6)&&((List.zipWith qx (items d) bounds).all id&&decide (at_ d 2<=at_ d 3)))
theorem Fj{S:Addr->Prop}{H:Hp}{z:V}{lo hi:Int}(h:IsTh S H z (.tuple [.int lo,.int hi])):∃t,z=.ref t/\H t=some (.tup [.int lo,.int hi]):=by
 cases h with
 |@tup a xs ds e r=>
  cases r with
  |cons h1 r=>cases r with
   |cons h2 r=>
    cases r;cases h1;cases h2;exact⟨a,rfl,e⟩
theorem xU{e:PyData}(h:e∈bounds):∃lo hi,e=.tuple [.int lo,.int hi]:=by
 simp only[bounds,List.mem_cons,List.not_mem_nil,or_false]at h;rcases h with z|z|z|z|z|z<;>exact⟨_,_,z⟩
theorem HJ:FnScope ["_law_thing"] ["_law_thing"] (az (top 72)):=fQS
theorem xV(F:Fun K "_law_whole" "_law_whole" (top 72) f fd)(T:Mg mg):FnOk P w K mg base CX0 1 f fd ["_law_thing"] (spT b8):=by
 refine F.ok HJ (fun vs H Q E h=>?_) (fun af A outer s H vs Q E hr h=>?_)
 .obtain⟨S,v,d,rfl,_⟩:=h;rfl
 .obtain⟨S,v,d,rfl,th,hz,q⟩:=h
  refine⟨_,aA (aO (cJ (aH bG rfl T.isinstance boot_isinstance (aQ (pv 0) (aQ (cZ rfl T.int boot_int (v:=.ty "int") rfl) aj)))
   (fB (yx (aH bG rfl T.isinstance boot_isinstance (aQ (pv 0) (aQ (cZ rfl T.bool boot_bool (v:=.ty "bool") rfl) aj))))))),?_⟩
  exact gj (b:=jL d) (c:=!ji d) (fun Q h=>⟨_,rfl,v,_,"int",jL d,rfl,th.ty,vJ d,h⟩) (fun _ Q h=>⟨_,rfl,v,_,"bool",ji d,rfl,th.ty,sy d,_,rfl,h⟩) _ (q H (Same.refl H))
theorem HR:FnScope ["_law_thing","_law_low","_law_high"] ["_law_thing","_law_low","_law_high"] (az (top 73)):=fQS
theorem tO(F:Fun K "_law_between" "_law_between" (top 73) f fd)(c1:Cal P w K mg base 1 "_law_whole" ["_law_thing"] (spT b8)):FnOk P w K mg base CX0 2 f fd ["_law_thing","_law_low","_law_high"] (uR fM):=by
 refine F.ok HR (fun vs H Q E h=>?_) (fun af A outer s H vs Q E hr h=>?_)
 .obtain⟨S,v,d,n,m,rfl,_⟩:=h;rfl
 .obtain⟨S,v,d,n,m,rfl,th,hz,q⟩:=h;refine⟨_,aA (aO (cJ (aK c1 hr (aQ (pv 0) aj)) (fB (cg bC bC (pv 1) (pv 0) (pv 2))))),?_⟩;refine⟨_,rfl,S,v,d,rfl,th,hz,fun H1 s1=>⟨_,rfl,?_⟩⟩;have fin:=q H1 s1;unfold fM at fin
  cases e:b8 d with
  |false=>
   rw[e]at fin;exact bf fin
  |true=>
   rw[e]at fin;obtain⟨i,rfl,rfl⟩:=fU th e;exact bh (bH (cV rfl) (cV rfl) (cV rfl) _ fin)
theorem HS:FnScope ["_law_thing"] ["_law_thing"] (az (top 74)):=fQS
theorem tQ(F:Fun K "_law_is_clip" "_law_is_clip" (top 74) f fd)(T:Mg mg)(c1:Cal P w K mg base 2 "_law_between" ["_law_thing","_law_low","_law_high"] (uR fM)):
  FnOk P w K mg base CX0 3 f fd ["_law_thing"] (spT m7):=by
 refine F.ok HS (fun vs H Q E h=>?_) (fun af A outer s H vs Q E hr h=>?_)
 .obtain⟨S,v,d,rfl,_⟩:=h;rfl
 .obtain⟨S,v,d,rfl,th,hz,q⟩:=h
  refine⟨_,aG (bw (PW.pt (fO (bB (bD (aH bG rfl T.isinstance boot_isinstance (aQ (pv 0) (aQ (cZ rfl T.tuple boot_tuple (v:=.ty "tuple") rfl) aj)))))
    (fj (aU rm (aH aP rfl T.len PySem.boot_len (aQ (pv 0) aj)) ak (aV _))))) (aA (aO gJ)) aN)
   (aA (aO (aH (fQ rfl) rfl T.all boot_all (aQ (f9 ["_law_one_here"] [none] rfl (lD (pv 0))
    (fun C fp Zt s₂ H₂=>⟨d7 (i:=0) (nd1 _) rfl (Or.inl rfl),eZ,aK c1 hr (aQ (pv 0) (aQ ak (aQ ak aj)))⟩) (fun C=>trivial) ⟨rfl,rfl,rfl,rfl⟩) aj)))),?_⟩
  have fin:=fun H' (s:Same H H')=>q H' s;unfold m7 at fin;refine⟨_,rfl,v,_,"tuple",dh d,rfl,th.ty,iB d,_,rfl,?_⟩
  cases e:dh d with
  |false=>
   rw[e]at fin;exact bh (bh (fin H (Same.refl H)))
  |true=>
   rw[e]at fin;refine bf ?_
   cases th with
   |@tup a xs ds ea r=>
    have hl:=r.length;refine⟨_,rfl,a,xs,rfl,.inr (SqT.of ea),rfl,_,rfl,?_⟩;have fin:∀H',Same H H'->Q (.bl (true&&(decide (ds.length=3)&&ds.all fun x=>fM x 0 999))) H':=fin;by_cases e3:ds.length=3
    .refine Do (by rw[hl,e3]<;>rfl) ?_;rw[zAv e3]at fin;exact gw (fun x=>fM x 0 999) rfl ea r (ie r hz) (fun v d H2 Q2 hm s2 t2 q2=>⟨_,rfl,S,v,d,0,999,rfl,t2,vY hm hz,q2⟩) fin
    .rw[zB4 e3]at fin
     have ne:¬(V.int (xs.length:Int)=V.int 3):=fun z=>by
      injection z with z;lia
     rw[zB4 ne];exact bh (fin H (Same.refl H))
   |_=>cases e
theorem sc27:FnScope ["_law_thing","_law_tops"] ["_law_thing"] (az (top 75)):=fQS
theorem nd3:(["_law_one_here","_law_low","_law_high"]:List Str).Nodup:=by decide +kernel
theorem m9(F:Fun K "_law_is_promise" "_law_is_promise" (top 75) f fd)(T:Mg mg)(Tz:mg "zip"=none)(c1:Cal P w K mg base 2 "_law_between" ["_law_thing","_law_low","_law_high"] (uR fM)):
  FnOk P w K mg base CX0 3 f fd ["_law_thing"] (spT m8):=by
 refine F.ok sc27 (fun vs H Q E h=>?_) (fun af A outer s H vs Q E hr h=>?_)
 .obtain⟨S,v,d,rfl,_⟩:=h;rfl
 .obtain⟨S,v,d,rfl,th,hz,q⟩:=h
  refine⟨_,ou (aF ⟨bw (PW.pt (fO (bB (bD (aH bG rfl T.isinstance boot_isinstance (aq (pv 0) (aq (cZ rfl T.tuple boot_tuple (v:=.ty "tuple") rfl) aj)))))
    (fj (aU rm (aH aP rfl T.len PySem.boot_len (aq (pv 0) aj)) ak (aV _))))) (aA (aO gJ)) aN⟩
   (aF (jk 1 sc27.nd (dI (aM lV (aM lV (aM lV (aM lV (aM lV (aM Bu aW))))))))
   (aF ⟨bw (bB (bD (aH (fQ rfl) rfl T.all boot_all (aq (f9 (g:=Bd K 2 (qU (eV 0) (qU (Bd K 2 (qU (eV 1) (qU (eV 2) DX))) DX))) ["_law_one_here","_law_low","_law_high"] [none,none,none] rfl (Em rfl Tz (aq (pv 0) (aq (pv 1) aj)))
    (fun C fp Zt s₂ H₂=>⟨vM rfl rfl (au (pgn 0 nd3) (au (vM rfl rfl (au (pgn 1 nd3) (au (pgn 2 nd3) bF))) bF)),eZ,
     aK c1 hr (aq (pv 0) (aq (pv 1) (aq (pv 2) aj)))⟩) (fun C=>trivial) ⟨rfl,rfl,rfl,rfl⟩) aj)))) (aA (aO gJ)) aN⟩
   (bU ⟨aO (fY bC (pX aZ (pv 0) ak) (pX aZ (pv 0) ak) (aV _))⟩)))),?_⟩
  have fin:=fun H' (s:Same H H')=>q H' s;unfold m8 at fin;refine⟨_,rfl,v,_,"tuple",dh d,rfl,th.ty,iB d,_,rfl,?_⟩
  cases e:dh d with
  |false=>
   rw[e]at fin;exact bh (bh (fin H (Same.refl H)))
  |true=>
   rw[e]at fin;refine bf ?_
   cases th with
   |@tup a xs ds ea r=>
    have hl:=r.length;refine⟨_,rfl,a,xs,rfl,.inr (SqT.of ea),rfl,_,rfl,?_⟩;have fin:∀H',Same H H'->Q (.bl (true&&(decide (ds.length=6)&&((List.zipWith qx ds bounds).all id&&decide (at_ (.tuple ds) 2<=at_ (.tuple ds) 3))))) H':=fin;by_cases e3:ds.length=6
    .refine Do (by rw[hl,e3]<;>rfl) ?_;rw[zAv e3]at fin;have two:∀{i j:Int} {σ:St},ThE (fun _=>False) σ H (mW (sW [i,j])) (.tuple [.int i,.int j]):=fun{i j σ}=>gZ (Bw [i,j]) (by show 2<=4000;decide)
     have DJ:∀{σ:St},ThE (fun _=>False) σ H (mW (dD (tC (.int 0)) (dD (tOp (rI yF fun i j=>.int (i^j.toNat)) (tC (.int 10)) (tC (.int 6))) iT))) (.tuple [.int 0,.int 1000000]):=fun{σ}=>
      gZ (aR gY (aR (zg (i:=1000000) fun H'=>z9 (g:=fun i j=>V.int (i^j.toNat)) dG dG ⟨by decide,by decide,by decide⟩) dW)) (by show 2<=4000;decide)
     refine bu ?_;dsimp only;refine aD (bO ?_);refine j6 ?_;refine aR two (aR two (aR two (aR two (aR two (aR DJ dW))))) H (Same.refl H) _ fun zs H1 s1 t1=>?_;have t1:IsThs (fun _=>False) H1 zs bounds:=t1;refine⟨by rw[t1.length];show 6<=sizeLine;decide,fun l dE=>?_⟩;have s2:Same H (upd H1 l (.lst zs)):=s1.updR dE;have kD:=s2 _ _ ea;refine⟨_,rfl,_,rfl,a,l,xs,zs,rfl,SqT.of kD,SqL.of aa,zm qx (fun σ=>∃x y z,σ=[x,y,z]) ⟨_,_,_,rfl⟩ kD aa (r.same s2) (t1.same (Same.upd dE)) e3 (ie r hz) ?_ fun H3 s3 D hD=>⟨D,List.zipWith qx ds bounds,rfl,SqL.of aa,_,rfl,?_⟩⟩
     .rintro T x z dx dz σ H3 R hd he ⟨y1,y2,y3,rfl⟩ s3 eT tx tz hR;obtain⟨lo,hi,rfl⟩:=xU he;obtain⟨t,rfl,et⟩:=Fj tz;refine⟨T,_,rfl,SqT.of eT,rfl,_,_,rfl,_,_,rfl,⟨t,_,rfl,SqT.of et,rfl,_,_,rfl,_,_,rfl,rfl,rfl,?_⟩⟩;exact⟨_,rfl,_,rfl,_,rfl,S,x,dx,lo,hi,rfl,tx,vY hd hz,fun H4 s4=>hR _ _ ⟨_,_,_,rfl⟩ s4⟩
     .have s4:Same H (upd H3 D (.lst ((List.zipWith qx ds bounds).map V.bl))):=(s2.trans s3).updR hD
      cases e5:(List.zipWith qx ds bounds).all id with
      |false=>
       rw[e5]at fin;exact bh (fin _ s4)
      |true=>
       rw[e5]at fin;refine bf ?_
       have hw:∀x∈ds,b8 x=true:=fun x hx=>by
        obtain⟨i,hi,rfl⟩:=List.getElem_of_mem hx
        have hb:i<bounds.length:=by
         rw[e3]at hi;exact hi
        have:=List.all_eq_true.mp e5 (qx ds[i] bounds[i]) (zB5 (i:=i) (by rw[List.getElem?_zipWith,zA0 hi,zA0 hb]));have this:(b8 ds[i]&&_)=true:=this;rw[zAc]at this;exact this.1
       obtain⟨i1,i2,i3,i4,i5,i6,rfl,rfl⟩:=tL r e3 hw;have rb:=s4 _ _ ea;refine⟨_,rfl,a,_,2,.int i3,rfl,rfl,SqT.of rb,rfl,_,rfl,a,_,3,.int i4,rfl,rfl,SqT.of rb,rfl,_,_,rfl,rfl,fin _ s4⟩
    .rw[zB4 e3]at fin
     have ne:¬(V.int (xs.length:Int)=V.int 6):=fun z=>by
      injection z with z;lia
     rw[zB4 ne];exact bh (fin H (Same.refl H))
   |_=>cases e
theorem vZ{α:Type}(p q:α->Bool):∀l:List α,(l.all fun x=>p x&&q x)=(l.all p&&l.all q)
 |[]=>rfl
 |x::l=>by
  rw[List.all_cons,List.all_cons,List.all_cons,vZ p q l];cases p x<;>cases q x<;>cases l.all p<;>cases l.all q<;>rfl
theorem Cd(d:PyData):dX d=m7 d:=by
 cases d with
 |tuple ds=>
  have e1:dX (.tuple ds)=((((decide ((3:Int)<=(ds.length:Int))&&decide ((ds.length:Int)<=3)))&&ds.all b8)&&ds.all fun x=>decide (0<=intOf x)&&decide (intOf x<=999)):=rfl;have e2:m7 (.tuple ds)=(decide (ds.length=3)&&ds.all fun x=>b8 x&&(decide (0<=intOf x)&&decide (intOf x<=999))):=rfl;rw[e1,e2,vZ b8]
  have e3:(decide ((3:Int)<=(ds.length:Int))&&decide ((ds.length:Int)<=3))=decide (ds.length=3):=by
   rw[<-Bool.decide_and];exact decide_eq_decide.mpr Zw
  rw[e3,Bool.and_assoc]
 |_=>rfl
theorem du(d:PyData):(∃i,d=.int i)\/b8 d=false:=by
 cases d with
 |int i=>exact .inl ⟨i,rfl⟩
 |_=>exact .inr rfl
theorem Cg(d:PyData):cW d=m8 d:=by
 cases d with
 |tuple ds=>
  have e1:cW (.tuple ds)=(((decide ((6:Int)<=(ds.length:Int))&&decide ((ds.length:Int)<=6))&&ds.all b8)&&j8 (at_ (.tuple ds) 0) (at_ (.tuple ds) 1) (at_ (.tuple ds) 2) (at_ (.tuple ds) 3) (at_ (.tuple ds) 4) (at_ (.tuple ds) 5)):=rfl;have e2:m8 (.tuple ds)=(decide (ds.length=6)&&((List.zipWith qx ds bounds).all id&&decide (at_ (.tuple ds) 2<=at_ (.tuple ds) 3))):=rfl;rw[e1,e2]
  have e3:(decide ((6:Int)<=(ds.length:Int))&&decide ((ds.length:Int)<=6))=decide (ds.length=6):=by
   rw[<-Bool.decide_and];exact decide_eq_decide.mpr Zw
  rw[e3];by_cases hl:ds.length=6
  .rw[zAv hl,Bool.true_and,Bool.true_and];obtain⟨d1,d2,d3,d4,d5,d6,rfl⟩:=Fi hl;have e4:(List.zipWith qx [d1,d2,d3,d4,d5,d6] bounds).all id=(fM d1 0 7&&(fM d2 0 2&&(fM d3 0 19&&(fM d4 0 19&&(fM d5 1 99&&(fM d6 0 1000000&&true)))))):=rfl;have e5:[d1,d2,d3,d4,d5,d6].all b8=(b8 d1&&(b8 d2&&(b8 d3&&(b8 d4&&(b8 d5&&(b8 d6&&true)))))):=rfl;rw[e4,e5];unfold fM;rcases du d1 with⟨i1,rfl⟩|z
   .rcases du d2 with⟨i2,rfl⟩|z
    .rcases du d3 with⟨i3,rfl⟩|z
     .rcases du d4 with⟨i4,rfl⟩|z
      .rcases du d5 with⟨i5,rfl⟩|z
       .rcases du d6 with⟨i6,rfl⟩|z
        .show(true&&j8 i1 i2 i3 i4 i5 i6)=((true&&(decide (0<=i1)&&decide (i1<=7)))&&((true&&(decide (0<=i2)&&decide (i2<=2)))&&((true&&(decide (0<=i3)&&decide (i3<=19)))&&((true&&(decide (0<=i4)&&decide (i4<=19)))&&((true&&(decide (1<=i5)&&decide (i5<=99)))&&((true&&(decide (0<=i6)&&decide (i6<=1000000)))&&true)))))&&decide (i3<=i4));unfold j8;simp only[Bool.true_and,Bool.and_true];apply Bool.eq_iff_iff.mpr;simp only[Bool.and_eq_true,Zq];omega
        .rw[z];simp
       .rw[z];simp
      .rw[z];simp
     .rw[z];simp
    .rw[z];simp
   .rw[z];simp
  .rw[zB4 hl,Bool.false_and,Bool.false_and,Bool.false_and]
 |_=>rfl
def dZ(H:Hp)(st:Addr):Prop:=∃a b:Int,H st=some (.lst [.int a,.int b])/\0<=a/\0<=b/\b<4294967296
def But(st:Addr)(H H':Hp):Prop:=∀b o,H b=some o->b≠st->H' b=some o
inductive SpCellI(K:Frag)(vs:List V)(H:Hp)(Q:VK):Prop
 |mk:∀(a:Addr) (ns:List Int) (k:Int),(vs=[.ref a,.int k])->(SqL K H a (ns.map V.int))->(0<=k)->(∀i,Q (.int i) H)->SpCellI K vs H Q
def zT(K:Frag):Sp:=fun vs H Q _=>SpCellI K vs H Q
inductive SpStateI(K:Frag)(vs:List V)(H:Hp)(Q:VK):Prop
 |mk:∀(a:Addr) (ns:List Int) (k:Int),(vs=[.ref a,.int k])->(SqL K H a (ns.map V.int))->(0<=k)->(∀(p:Addr) (x y:Int),H p=none->0<=x->0<=y->y<4294967296->Q (.ref p) (upd H p (.lst [.int x,.int y])))->SpStateI K vs H Q
def wg(K:Frag):Sp:=fun vs H Q _=>SpStateI K vs H Q
inductive SpTakeI(vs:List V)(H:Hp)(Q:VK):Prop
 |mk:∀(st:Addr) (n:Int),(vs=[.ref st,.int n])->(dZ H st)->(1<=n)->(n<1073741824)->(∀r a' b':Int,0<=r->r<n->0<=a'->0<=b'->b'<4294967296->Q (.int r) (upd H st (.lst [.int a',.int b'])))->SpTakeI  vs H Q
def mj:Sp:=fun vs H Q _=>SpTakeI  vs H Q
theorem HW:FnScope ["_law_script","_law_k"] ["_law_script","_law_k"] (az (top 62)):=fQS
theorem Ci(F:Fun K "_law_cell_at" "_law_cell_at" (top 62) f fd)(T:Mg mg):FnOk P w K mg base CX0 1 f fd ["_law_script","_law_k"] (zT K):=by
 refine F.ok HW (fun vs H Q E h=>?_) (fun af A outer s H vs Q E hr h=>?_)
 .obtain⟨a,ns,k,rfl,_⟩:=h;rfl
 .obtain⟨a,ns,k,rfl,hS,h0,q⟩:=h;refine⟨_,aG (bw (aU lG (pv 1) (aH aP rfl T.len PySem.boot_len (aQ (pv 0) aj)) (aV _)) (aA (aO (pX bK (pv 0) (pv 1)))) aN) (aA (aO ak)),?_⟩;refine⟨_,rfl,_,rfl,a,_,rfl,.inl hS,_,_,rfl,rfl,_,rfl,?_⟩;refine pN (fun c=>?_) (fun _=>q 0);have c:=zB8 c;rw[zA1]at c;have hk:k.toNat<ns.length:=Zz
  refine⟨_,rfl,_,rfl,a,_,k,.int ns[k.toNat],rfl,rfl,hS,?_,q _⟩;have e:(ns.map V.int)[k.toNat]?=some (.int ns[k.toNat]):=by rw[zAb,zA0 hk];rfl
  have:=iz e;rw[show((k.toNat:Nat):Int)=k by lia]at this;exact this
theorem sc19:FnScope ["_law_script","_law_k","_law_cell"] ["_law_script","_law_k"] (az (top 63)):=fQS
theorem zU(F:Fun K "_law_state" "_law_state" (top 63) f fd)(c1:Cal P w K mg base 1 "_law_cell_at" ["_law_script","_law_k"] (zT K)):FnOk P w K mg base CX0 2 f fd ["_law_script","_law_k"] (wg K):=by
 refine F.ok sc19 (fun vs H Q E h=>?_) (fun af A outer s H vs Q E hr h=>?_)
 .obtain⟨a,ns,k,rfl,_⟩:=h;rfl
 .obtain⟨a,ns,k,rfl,hS,h0,q⟩:=h
  refine⟨_,aG (pss 2 sc19.nd (aK c1 hr (aQ (pv 0) (aQ (pv 1) aj))))
   (aG (bw (aU rA (pv 2) (aX jE ak ak) (aV _)) (aA (aO (eU (aq (aX pC (pv 2) (aX jE ak ak)) (aq (aX dg (aX gM (pv 2) ak) ak) aj))))) aN)
   (aA (aO (eU (aq ak (aq (aX dg (aX gM (pv 2) ak) ak) aj)))))),?_⟩
  refine⟨_,rfl,_,rfl,a,ns,k,rfl,hS,h0,fun c=>?_⟩;refine⟨_,rfl,_,_,rfl,rfl,⟨by decide,by decide,by decide⟩,_,_,rfl,rfl,_,rfl,?_⟩;refine pN (fun hc=>?_) (fun _=>?_)
  .have hc:=zB8 hc;refine⟨_,rfl,_,_,rfl,rfl,⟨by decide,by decide,by decide⟩,_,_,rfl,rfl,_,rfl,_,_,rfl,rfl,(by show(0:Int)<2147483629;decide),_,_,rfl,rfl,zL,fun p hp=>?_⟩;refine q p _ _ hp ?_ ?_ ?_
   .show 0<=c-(10:Int)^18;have hc:(10:Int)^18<=c:=hc;lia
   .show 0<=c % 2147483629+1;lia
   .show c % 2147483629+1<4294967296;lia
  .refine⟨_,rfl,_,_,rfl,rfl,(by show(0:Int)<2147483647;decide),_,_,rfl,rfl,zL,fun p hp=>?_⟩;refine q p _ _ hp (Int.le_refl 0) ?_ ?_
   .show 0<=c % 2147483647+1;lia
   .show c % 2147483647+1<4294967296;lia
theorem sc20:FnScope ["_law_state_here","_law_many","_law_found","_law_stirred"] ["_law_state_here","_law_many"] (az (top 64)):=fQS
theorem Cj(F:Fun K "_law_take" "_law_take" (top 64) f fd):FnOk P w K mg base CX0 1 f fd ["_law_state_here","_law_many"] mj:=by
 refine F.ok sc20 (fun vs H Q E h=>?_) (fun af A outer s H vs Q E hr h=>?_)
 .obtain⟨st,n,rfl,_⟩:=h;rfl
 .obtain⟨st,n,rfl,⟨a,b,es,ha,hb,mr⟩,h1,h2,q⟩:=h
  refine⟨_,aG (bw (aU Dk (pX bK (pv 0) ak) ak (aV _))
    (aG (pss 2 sc20.nd (aX gM (pX bK (pv 0) ak) (pv 1)))
     (aG (bY (aX vm (pX bK (pv 0) ak) (pv 1)) (pq (pv 0) ak set_list)) (aA (aO (pv 2))))) aN)
   (aG (bY (aX gM (aX dg (aX lE (pX bK (pv 0) ak) ak) ak) ak) (pq (pv 0) ak set_list))
   (aG (pss 3 sc20.nd (aX gM (aX dg (aX dg (aX lE (pX bK (pv 0) ak) (pX bK (pv 0) ak)) (aX lE ak (pX bK (pv 0) ak))) ak) ak))
   (aG (pss 3 sc20.nd (aX gM (aX dg (aX dg (aX lE (pv 3) (pv 3)) (aX lE ak (pv 3))) ak) ak))
   (aA (aO (aX gM (aX vm (pv 3) ak) (pv 1))))))),?_⟩
  refine⟨_,rfl,st,_,0,.int a,rfl,rfl,SqL.of es,rfl,_,_,rfl,rfl,_,rfl,?_⟩;refine pN (fun hc=>?_) (fun _=>?_)
  .refine⟨_,rfl,st,_,0,.int a,rfl,rfl,SqL.of es,rfl,_,rfl,_,_,rfl,rfl,(by show 0<n;lia),?_⟩;refine⟨_,rfl,st,_,0,.int a,rfl,rfl,SqL.of es,rfl,_,rfl,_,_,rfl,rfl,⟨Zz,h2⟩,_,rfl,st,_,0,0,rfl,rfl,es,rfl,_,rfl,?_⟩;exact q (a % n) (a / n) b (Int.emod_nonneg a Zz) (Int.emod_lt_of_pos a Zz) (Int.ediv_nonneg ha Zz) hb mr
  .refine⟨_,rfl,st,_,1,.int b,rfl,rfl,SqL.of es,rfl,_,_,rfl,rfl,.inl ⟨Zz,Zz⟩,_,_,rfl,rfl,_,_,rfl,rfl,(by show(0:Int)<2147483647;decide),_,rfl,st,_,1,1,rfl,rfl,es,rfl,?_⟩;have hm0:0<=(b*48271+29) % 2147483647:=Int.emod_nonneg _ Zx;have hm1:(b*48271+29) % 2147483647<2147483647:=Int.emod_lt_of_pos _ Zx
   obtain⟨m,hm⟩:∃m,m=(b*48271+29) % 2147483647:=⟨_,rfl⟩
   rw[<-hm]at hm0 hm1;have eL:([V.int a,V.int b].set 1 ((fun i j:Int=>V.int (i % j)) (b*48271+29) 2147483647))=[V.int a,V.int m]:=by rw[hm];rfl
   rw[eL];have c9:upd H st (.lst [.int a,.int m]) st=some (.lst [.int a,.int m]):=aa;refine⟨_,rfl,st,_,1,.int m,rfl,rfl,SqL.of c9,rfl,_,rfl,st,_,1,.int m,rfl,rfl,SqL.of c9,rfl,_,_,rfl,rfl,.inl ⟨Zz,Zz⟩,_,rfl,st,_,1,.int m,rfl,rfl,SqL.of c9,rfl,_,_,rfl,rfl,.inl ⟨by decide,by decide⟩,_,_,rfl,rfl,_,_,rfl,rfl,_,_,rfl,rfl,(by show(0:Int)<2147483629;decide),?_⟩;have DL:0<=(m*m+39373*m+7) % 2147483629:=Int.emod_nonneg _ Zx;have Jj:(m*m+39373*m+7) % 2147483629<2147483629:=Int.emod_lt_of_pos _ Zx;refine⟨_,rfl,_,rfl,_,_,rfl,rfl,.inl ⟨Int.lt_of_lt_of_le Zx DL,Int.lt_trans Jj Zx⟩,_,rfl,_,_,rfl,rfl,.inl ⟨by decide,by decide⟩,_,_,rfl,rfl,_,_,rfl,rfl,_,_,rfl,rfl,(by show(0:Int)<2147483587;decide),?_⟩;refine⟨_,rfl,_,_,rfl,rfl,⟨by decide,by decide⟩,_,rfl,_,_,rfl,rfl,(by show 0<n;lia),?_⟩;exact q _ a m (Int.emod_nonneg _ Zz) (Int.emod_lt_of_pos _ Zz) ha hm0 Zz
theorem gA:bootBuiltins "repr"=some (.builtin "repr"):=by decide +kernel
inductive SpSameI(vs:List V)(H:Hp)(Q:VK):Prop
 |mk:∀S v u d e,(vs=[v,u])->(¬S sysModules)->(IsTh S H v d)->(IsTh S H u e)->(tame d=true)->(tame e=true)->(sz d<=1000)->(sz e<=1000)->(Q (.bl (decide (V.str d.shown=V.str e.shown))) H)->SpSameI  vs H Q
def uU:Sp:=fun vs H Q _=>SpSameI  vs H Q
theorem wj{A:Around}{k:Nat}(hr:Room k A)(hk:60<=k){d:PyData}(h:sz d<=1000):A.units+(sz d+1)<cLine:=by
 have:=hr.un;lia
theorem Ia:FnScope ["_law_found","_law_due"] ["_law_found","_law_due"] (az (top 79)):=fQS
theorem Ck(F:Fun K "_law_same" "_law_same" (top 79) f fd)(Tr:mg "repr"=none):FnOk P w K mg base CX0 61 f fd ["_law_found","_law_due"] uU:=by
 refine F.ok Ia (fun vs H Q E h=>?_) (fun af A outer s H vs Q E hr h=>?_)
 .obtain⟨S,v,u,d,e,rfl,_⟩:=h;rfl
 .obtain⟨S,v,u,d,e,rfl,hS,t1,t2,m1,m2,z1,z2,q⟩:=h;refine⟨_,aA (aO (fY dq (aH (iC (S:=S) hr.gd hS) rfl Tr gA (aQ (pv 0) aj)) (aH (iC (S:=S) hr.gd hS) rfl Tr gA (aQ (pv 1) aj)) (aV _))),?_⟩;exact⟨_,rfl,v,d,rfl,t1,m1,Zz,wj hr (zA3 _) z1,_,rfl,u,e,rfl,t2,m2,Zz,wj hr (zA3 _) z2,rfl,q⟩
mutual
def tm(B:Nat):PyData->Bool
 |.none=>true
 |.bool _=>true
 |.int i=>decide (i.natAbs<B)
 |.str x=>decide (x.length<=10)&&x.cps.toList.all fun c=>decide (c<16^8)
 |.list xs=>tms B xs
 |.tuple xs=>tms B xs
 |.dict Zs=>cX B Zs
def tms(B:Nat):List PyData->Bool
 |[]=>true
 |x::xs=>tm B x&&tms B xs
def cX(B:Nat):List (PyData×PyData)->Bool
 |[]=>true
 | (.int i,.int j)::r=>decide (i.natAbs<B)&&decide (j.natAbs<B)&&cX B r
 |_::_=>false
end
theorem wk{B C:Nat}(h:B<=C):∀(Zs:List (PyData×PyData)),cX B Zs=true->cX C Zs=true
 |[],_=>rfl
 | (.int i,.int j)::r,e=>by
  have e:(decide (i.natAbs<B)&&decide (j.natAbs<B)&&cX B r)=true:=e;simp only[Bool.and_eq_true,Zq]at e;show(decide (i.natAbs<C)&&decide (j.natAbs<C)&&cX C r)=true;rw[wk h r e.2,decide_eq_true (by lia:i.natAbs<C),decide_eq_true (by lia:j.natAbs<C)];rfl
 | (.none,_)::_,h=>by simp[cX]at h
 | (.bool _,_)::_,h=>by simp[cX]at h
 | (.str _,_)::_,h=>by simp[cX]at h
 | (.list _,_)::_,h=>by simp[cX]at h
 | (.tuple _,_)::_,h=>by simp[cX]at h
 | (.dict _,_)::_,h=>by simp[cX]at h
 | (.int _,.none)::_,h=>by simp[cX]at h
 | (.int _,.bool _)::_,h=>by simp[cX]at h
 | (.int _,.str _)::_,h=>by simp[cX]at h
 | (.int _,.list _)::_,h=>by simp[cX]at h
 | (.int _,.tuple _)::_,h=>by simp[cX]at h
 | (.int _,.dict _)::_,h=>by simp[cX]at h
mutual
theorem tm_up{B C:Nat}(h:B<=C):∀(d:PyData),tm B d=true->tm C d=true
 |.none,_=>rfl
 |.bool _,_=>rfl
 |.int i,e=>by
  have e:decide (i.natAbs<B)=true:=e;rw[Zq]at e;exact zAv (show i.natAbs<C by lia)
 |.str _,e=>e
 |.list xs,e=>qy h xs e
 |.tuple xs,e=>qy h xs e
 |.dict Zs,e=>wk h Zs e
theorem qy{B C:Nat}(h:B<=C):∀(ds:List PyData),tms B ds=true->tms C ds=true
 |[],_=>rfl
 |d::ds,e=>by
  have e:(tm B d&&tms B ds)=true:=e;rw[zAc]at e;show(tm C d&&tms C ds)=true;rw[tm_up h d e.1,qy h ds e.2];rfl
end
theorem oR:∀(Zs:List (PyData×PyData)),cX (2^128) Zs=true->aJ Zs=true
 |[],_=>rfl
 | (.int i,.int j)::r,e=>by
  have e:(decide (i.natAbs<2^128)&&decide (j.natAbs<2^128)&&cX (2^128) r)=true:=e;rw[zAc]at e;show(decide (i.natAbs<2^128)&&decide (j.natAbs<2^128)&&aJ r)=true;rw[e.1,oR r e.2];rfl
 | (.none,_)::_,h=>by simp[cX]at h
 | (.bool _,_)::_,h=>by simp[cX]at h
 | (.str _,_)::_,h=>by simp[cX]at h
 | (.list _,_)::_,h=>by simp[cX]at h
 | (.tuple _,_)::_,h=>by simp[cX]at h
 | (.dict _,_)::_,h=>by simp[cX]at h
 | (.int _,.none)::_,h=>by simp[cX]at h
 | (.int _,.bool _)::_,h=>by simp[cX]at h
 | (.int _,.str _)::_,h=>by simp[cX]at h
 | (.int _,.list _)::_,h=>by simp[cX]at h
 | (.int _,.tuple _)::_,h=>by simp[cX]at h
 | (.int _,.dict _)::_,h=>by simp[cX]at h
mutual
theorem wu:∀(d:PyData),tm (2^128) d=true->tame d=true
 |.none,_=>rfl
 |.bool _,_=>rfl
 |.int i,e=>e
 |.str _,e=>e
 |.list xs,e=>mq xs e
 |.tuple xs,e=>mq xs e
 |.dict Zs,e=>oR Zs e
theorem mq:∀(ds:List PyData),tms (2^128) ds=true->gR ds=true
 |[],_=>rfl
 |d::ds,e=>by
  have e:(tm (2^128) d&&tms (2^128) ds)=true:=e;rw[zAc]at e;show(tame d&&gR ds)=true;rw[wu d e.1,mq ds e.2];rfl
end
theorem ww{B:Nat}{d:PyData}(h:tm B d=true)(hB:B<=2^128):tame d=true:=wu d (tm_up hB d h)
theorem tms_all{B:Nat}:∀{ds:List PyData},tms B ds=true↔∀d∈ds,tm B d=true
 |[]=>Iff.intro (fun _ _ h=>absurd h List.not_mem_nil) (fun _=>rfl)
 |x::ds=>by
  show(tm B x&&tms B ds)=true↔_;rw[zAc,tms_all (ds:=ds)];exact⟨fun⟨h1,h2⟩ d hd=>(zAo.mp hd).elim (fun e=>e▸h1) (h2 d),fun h=>⟨h x List.mem_cons_self,fun d hd=>h d (List.mem_cons_of_mem _ hd)⟩⟩
theorem qz:∀(ds es:List PyData),szs (ds++es)=szs ds+szs es
 |[],es=>by show szs es=0+szs es;lia
 |d::ds,es=>by
  show sz d+szs (ds++es)=sz d+szs ds+szs es;rw[qz ds es];lia
theorem wy(ds:List PyData)(i:Nat)(e:PyData):szs (ds.take i++e::ds.drop i)=szs ds+sz e:=by
 have h:szs (ds.take i++ds.drop i)=szs ds:=by rw[List.take_append_drop]
 rw[qz]at h⊢;show szs (ds.take i)+(sz e+szs (ds.drop i))=_;lia
theorem qC:∀{ds:List PyData} {i:Nat} {d:PyData},ds[i]?=some d->szs (ds.eraseIdx i)+sz d=szs ds
 |x::ds,0,d,h=>by
  have:x=d:=by simpa using h
  subst this;show szs ds+sz x=sz x+szs ds;lia
 |x::ds,i+1,d,h=>by
  have:=qC (ds:=ds) (i:=i) (d:=d) (by simpa using h);show sz x+szs (ds.eraseIdx i)+sz d=sz x+szs ds;lia
theorem wz:∀{ds:List PyData} {i:Nat} {d e:PyData},ds[i]?=some d->szs (ds.set i e)+sz d=szs ds+sz e
 |x::ds,0,d,e,h=>by
  have:x=d:=by simpa using h
  subst this;show sz e+szs ds+sz x=sz x+szs ds+sz e;lia
 |x::ds,i+1,d,e,h=>by
  have:=wz (ds:=ds) (i:=i) (d:=d) (e:=e) (by simpa using h);show sz x+szs (ds.set i e)+sz d=sz x+szs ds+sz e;lia
def Cm:List PyData:=[.none,.bool true,.bool false,.int 0,.int 1,.int (-1),.int (10^29),.str "",.str "a",.str "0/0/0",.tuple [],.list [],.dict [],.tuple [.int 0],.list [.int 0],.tuple [.none],.tuple [.tuple []]]
def Cp:List PyData:=[.str "-",.dict [(.int 0,.int 1)],.tuple [.int 0,.int 0,.int 0]]
theorem zV:∀d∈Cm++Cp,tm (2^100) d=true/\sz d<=6:=by
 have h:((Cm++Cp).all fun d=>tm (2^100) d&&decide (sz d<=6))=true:=by decide +kernel
 intro d hd;have:=List.all_eq_true.mp h d hd;rw[zAc,Zq]at this;exact this
def Made(st:Addr)(H:Hp)(n:Nat)(v:V)(H':Hp):Prop:=∃d,But st H H'/\dZ H' st/\IsTh (fun a=>H a=none/\a≠sysModules) H' v d/\tm (2^100) d=true/\sz d<=n
inductive SpOddI(vs:List V)(H:Hp)(Q:VK):Prop
 |mk:∀st,(vs=[.ref st])->(dZ H st)->(∀v H',Made st H 6 v H'->Q v H')->SpOddI  vs H Q
def zW:Sp:=fun vs H Q _=>SpOddI  vs H Q
theorem sc29:FnScope ["_law_state_here","_law_some"] ["_law_state_here"] (az (top 77)):=fQS
theorem Fl(F:Fun K "_law_odd" "_law_odd" (top 77) f fd)(c1:Cal P w K mg base 1 "_law_take" ["_law_state_here","_law_many"] mj):FnOk P w K mg base CX0 2 f fd ["_law_state_here"] zW:=by
 refine F.ok sc29 (fun vs H Q E h=>?_) (fun af A outer s H vs Q E hr h=>?_)
 .obtain⟨st,rfl,_⟩:=h;rfl
 .obtain⟨st,rfl,a9,q⟩:=h
  refine⟨_,ou (aF (jk 1 sc29.nd (dI (aM uJ (aM vN (aM vN (aM bL (aM bL (aM Ep (aM Er (aM bA (aM bA (aM bA (aM (cB aW) (aM (vO aW) (aM zb (aM (cB (aM bL aW)) (aM (vO (aM bL aW)) (aM (cB (aM uJ aW)) (aM (cB (aM (cB aW) aW)) aW)))))))))))))))))))
   (bU (gr (za bK (oA gP ⟨pv 1⟩ (dI (aM bA (aM zc (aM (cB (aM bL (aM bL (aM bL aW)))) aW)))))
    ⟨aK c1 hr (aq (pv 0) (aq ak aj))⟩ (fun _ _=>rfl))))),?_⟩
  have hS:∀H0,Same H H0->∀p,H0 p=none->p≠sysModules->(H p=none/\p≠sysModules):=fun H0 s0 p hp np=>⟨s0.free hp,np⟩
  have z0:∀{n:Nat},n<=3->n<=4000:=fun h=>by lia
  refine aD (bO ?_);refine j6 ?_
  refine(aR zf (aR Ds (aR Ds (aR gY (aR gY (aR (zg (i:=-1) fun H' Q h=>⟨1,rfl,h⟩) (aR (zg (i:=10^29) fun H'=>z9 (g:=fun i j=>V.int (i^j.toNat)) dG dG ⟨by decide,by decide,by decide⟩) (aR qj (aR qj (aR qj
   (aR (gZ dW Zx) (aR (vP dW Zx hS) (aR (Bx hS) (aR (gZ (aR gY dW) Zx) (aR (vP (aR gY dW) Zx hS) (aR (gZ (aR zf dW) Zx) (aR (gZ (aR (gZ dW Zx) dW) Zx) dW))))))))))))))))) H (Same.refl H) _ fun xs H1 s1 t1=>?_
  have t1:IsThs (fun a=>H a=none/\a≠sysModules) H1 xs Cm:=t1;refine⟨by rw[t1.length];show 17<=sizeLine;decide,fun p hp=>?_⟩;refine bc ?_;dsimp only;refine Es ?_;have s2:Same H (upd H1 p (.lst xs)):=s1.updR hp;refine⟨_,rfl,?_⟩;refine(aR qj (aR (zj hS) (aR (gZ (aR gY (aR gY (aR gY dW))) Zx) dW))) (upd H1 p (.lst xs)) s2 _ fun ys H2 s3 t2=>?_;have t2:IsThs (fun a=>H a=none/\a≠sysModules) H2 ys Cp:=t2;refine⟨by rw[t2.length];show 3<=sizeLine;decide,fun p2 dy=>?_⟩;have s4:Same (upd H1 p (.lst xs)) (upd H2 p2 (.lst ys)):=s3.updR dy;refine⟨p,p2,xs,ys,rfl,rfl,s4 _ _ aa,aa,by rw[t1.length,t2.length];show 20<=sizeLine;decide,fun l hl=>?_⟩;have s5:Same H (upd (upd H2 p2 (.lst ys)) l (.lst (xs++ys))):=(s2.trans s4).updR hl;obtain⟨a,b,es,h1,h2,h3⟩:=a9;refine⟨_,rfl,st,20,rfl,⟨a,b,s5 _ _ es,h1,h2,h3⟩,by decide,by decide,fun r a' b' r0 r1 g1 g2 g3=>?_⟩
  have nl:l≠st:=fun z=>by
   have:=(s2.trans s4) _ _ es;rw[z,this]at hl;cases hl
  have t3:IsThs (fun a=>H a=none/\a≠sysModules) (upd (upd H2 p2 (.lst ys)) l (.lst (xs++ys))) (xs++ys) (Cm++Cp):=
   (((t1.same (Same.upd hp)).same s4).same (Same.upd hl)).append ((t2.same (Same.upd dy)).same (Same.upd hl))
  have hlen:(xs++ys).length=20:=by
   rw[t3.length];rfl
  have b9:r.toNat<(xs++ys).length:=Zz
  have e:(xs++ys)[r.toNat]?=some ((xs++ys)[r.toNat]):=zA0 b9;obtain⟨d,hd,td⟩:=t3.get e
  have eR:atI (xs++ys) r=some ((xs++ys)[r.toNat]):=by
   have:=iz e;rw[show((r.toNat:Nat):Int)=r by lia]at this;exact this
  refine⟨l,_,r,_,rfl,rfl,SqL.of (by rw[ao nl];exact aa),eR,q _ _ ⟨d,fun b' o' e' ne=>?_,⟨a',b',aa,g1,g2,g3⟩,?_,(zV d (zB5 hd)).1,(zV d (zB5 hd)).2⟩⟩
  .rw[ao ne];exact s5 _ _ e'
  .refine td.keep (fun c l' e'=>?_) (fun c o' hc e'=>?_) fun _ _ z _=>z
   .have:c≠st:=fun z=>by
     rw[z,s5 _ _ es]at e';cases e'
    rw[ao this];exact e'
   .have:c≠st:=fun z=>by
     rw[z,es]at hc;cases hc.1
    rw[ao this];exact e'
theorem tR{X:Cx}{K:Frag}(hK:X.K=K):IxR X (Gk K):=by
 subst hK;exact bK
theorem my:∀{is:List Int},(∀v∈is,0<=v/\v<1000)->tms (2^100) (is.map PyData.int)=true
 |[],_=>rfl
 |i::is,h=>by
  have h1:=h i List.mem_cons_self;show(decide (i.natAbs<2^100)&&tms (2^100) (is.map PyData.int))=true;rw[my fun v hv=>h v (List.mem_cons_of_mem _ hv),zAv (show i.natAbs<2^100 by lia)];rfl
theorem oU{is:List Int}(h:∀v∈is,0<=v/\v<1000):tm (2^100) (.tuple (is.map PyData.int))=true:=my h
theorem Ib:(["_law_sort","_law_state_here","_law_wide"]:List Str).Nodup:=by decide +kernel
theorem sc21:FnScope ["_law_state_here","_law_most","_law_wide","_law_found","_law_turn"] ["_law_state_here","_law_most"] (az (top 65)):=fQS
theorem boot_min:bootBuiltins "min"=some (.builtin "min"):=by decide +kernel
structure Dr(st:Addr)(H H':Hp):Prop where
 bt:But st H H'
 sa:dZ H' st
theorem But.refl{st:Addr}{H:Hp}:But st H H:=fun _ _ e _=>e
theorem Dr.same{st:Addr}{H H1 H2:Hp}(g:Dr st H H1)(s:Same H1 H2):Dr st H H2:=by
 obtain⟨a,b,e,k⟩:=g.sa;exact⟨fun b' o' e' ne=>s _ _ (g.bt b' o' e' ne),a,b,s _ _ e,k⟩
theorem Dr.trans{st:Addr}{H H1 H2:Hp}(g:Dr st H H1)(g':Dr st H1 H2):Dr st H H2:=⟨fun b' o' e' ne=>g'.bt _ _ (g.bt b' o' e' ne) ne,g'.sa⟩
theorem Dr.take{st:Addr}{H H1:Hp}(g:Dr st H H1){a b:Int}(h1:0<=a)(h2:0<=b)(h3:b<4294967296):Dr st H (upd H1 st (.lst [.int a,.int b])):=
 ⟨fun b' o' e' ne=>by rw[ao ne];exact g.bt b' o' e' ne,a,b,aa,h1,h2,h3⟩
theorem Dr.new{st p:Addr}{o:HO}{H H1:Hp}(g:Dr st H H1)(hp:H1 p=none):Dr st H (upd H1 p o):=g.same (Same.upd hp)
theorem Dr.ne{st p:Addr}{H H1:Hp}(g:Dr st H H1)(hp:H1 p=none):p≠st:=fun z=>by
 obtain⟨a,b,e,_⟩:=g.sa;rw[z,e]at hp;cases hp
theorem Dr.free{st p:Addr}{H H1:Hp}(g:Dr st H H1)(hp:H1 p=none):H p=none:=by
 cases e:H p with
 |none=>rfl
 |some o=>
  rw[g.bt _ _ e (g.ne hp)]at hp;cases hp
theorem Dr.put{st p:Addr}{o:HO}{H H1:Hp}(g:Dr st H H1)(hp:H p=none)(np:p≠st):Dr st H (upd H1 p o):=by
 obtain⟨a,b,e,k⟩:=g.sa;refine⟨fun b' o' e' ne=>?_,a,b,by rw[ao np.symm];exact e,k⟩;rw[ao (aB e' hp)];exact g.bt b' o' e' ne
theorem Dr.th{F:Addr->Prop}{st:Addr}{H H1:Hp}{v:V}{d:PyData}(g:Dr st H H1)(h0:dZ H st)(hF:F st)(t:IsTh (fun a=>¬F a) H v d):IsTh (fun a=>¬F a) H1 v d:=by
 obtain⟨a,b,e,_⟩:=h0;refine t.keep (fun c l e'=>g.bt _ _ e' fun z=>?_) (fun c o hc e'=>g.bt _ _ e' fun z=>hc (z▸hF)) fun _ _ z _=>z;rw[z,e]at e';cases e'
theorem Dr.ths{F:Addr->Prop}{st:Addr}{H H1:Hp}{v:List V}{d:List PyData}(g:Dr st H H1)(h0:dZ H st)(hF:F st)(t:IsThs (fun a=>¬F a) H v d):IsThs (fun a=>¬F a) H1 v d:=by
 obtain⟨a,b,e,_⟩:=h0;refine t.keep (fun c l e'=>g.bt _ _ e' fun z=>?_) (fun c o hc e'=>g.bt _ _ e' fun z=>hc (z▸hF)) fun _ _ z _=>z;rw[z,e]at e';cases e'
structure Fb(F:Addr->Prop)(st:Addr)(H:Hp):Prop where
 st:F st
 sys:F sysModules
 new:∀a,F a->H a=none->a=sysModules
theorem Fb.dr{F:Addr->Prop}{st:Addr}{H H1:Hp}(f:Fb F st H)(g:Dr st H H1):Fb F st H1:=⟨f.st,f.sys,fun a ha hn=>f.new a ha (g.free hn)⟩
theorem Fb.with{F:Addr->Prop}{st p:Addr}{H:Hp}{o:HO}(f:Fb F st H)(hp:H p=some o):Fb (fun a=>F a\/a=p) st H:=⟨.inl f.st,.inl f.sys,fun a ha hn=>ha.elim (fun z=>f.new a z hn) fun z=>by rw[z,hp]at hn;cases hn⟩
theorem Made.dr{st:Addr}{H H':Hp}{n:Nat}{v:V}(m:Made st H n v H'){F:Addr->Prop}(f:Fb F st H):∃d,Dr st H H'/\IsTh (fun a=>¬F a) H' v d/\tm (2^100) d=true/\sz d<=n:=by
 obtain⟨d,bt,sa,t,m1,z⟩:=m;exact⟨d,⟨bt,sa⟩,t.keep (fun _ _ e=>e) (fun _ _ _ e=>e) fun a o ha _ hF=>ha.2 (f.new a hF ha.1),m1,z⟩
inductive SpSpoiltI(k:Int)(vs:List V)(H:Hp)(Q:VK):Prop
 |mk:∀(F:Addr->Prop) (st:Addr) (v:V) (d:PyData) (deep:Int) (B:Nat),(vs=[.ref st,v,.int deep])->(dZ H st)->(Fb F st H)->(0<=deep)->(deep<k)->(IsTh (fun a=>¬F a) H v d)->(tm B d=true)->(2^100<=B)->(sz d<=1000)->(∀v' H' d',Dr st H H'->IsTh (fun a=>¬F a) H' v' d'->tm (B+1000000) d'=true->sz d'<=2*sz d+10->Q v' H')->SpSpoiltI k vs H Q
def jq(k:Int):Sp:=fun vs H Q _=>SpSpoiltI k vs H Q
theorem Cq{A:Around}{k:Nat}(hr:Room k A):A.units<cLine:=by
 have:=hr.un;lia
theorem uV:bootBuiltins "list"=some (.type "list"):=by decide +kernel
theorem sc30:FnScope ["_law_state_here","_law_thing","_law_deep","_law_at","_law_kind_here","_law_row"] ["_law_state_here","_law_thing","_law_deep"] (az (top 78)):=fQS
theorem oV{k:Nat}(F:Fun K "_law_spoilt" "_law_spoilt" (top 78) f fd)(T:Mg mg)(Tl:mg "list"=none)(c1:Cal P w K mg base 1 "_law_take" ["_law_state_here","_law_many"] mj)
  (c2:Cal P w K mg base 1 "_law_whole" ["_law_thing"] (spT b8)) (c3:Cal P w K mg base 2 "_law_odd" ["_law_state_here"] zW) (c4:Cal P w K mg base (3+k) "_law_spoilt" ["_law_state_here","_law_thing","_law_deep"] (jq k)):
  FnOk P w K mg base CX0 (3+k+1) f fd ["_law_state_here","_law_thing","_law_deep"] (jq (k+1:Nat)):=by
 refine F.ok sc30 (fun vs H Q E h=>?_) (fun af A outer s H vs Q E hr h=>?_)
 .obtain⟨F,st,v,d,deep,B,rfl,_⟩:=h;rfl
 .obtain⟨F,st,v,d,deep,B,rfl,a9,fb,d0,d1,th,ib,hB,hz,q⟩:=h
  refine⟨_,aG (bw (PW.pt (yw (bD (aK (hjk:=Zz) c2 hr (aq (pv 1) aj))) (vf (aU Dk (aK (hjk:=Zz) c1 hr (aq (pv 0) (aq ak aj))) ak (aV _)))))
    (aA (aO (aX dg (pv 1) (pX bK (Bs (uI ak (uI (qZ lF ak) (uI ak (uI (qZ lF ak) (uI ak (uI (aX jE ak ak) aW))))))) (aK (hjk:=Zz) c1 hr (aq (pv 0) (aq ak aj))))))) aN)
   (aG (bw (PW.pt (fO (bB (bD (aH bG rfl T.isinstance boot_isinstance (aq (pv 1) (aq (cZ rfl T.tuple boot_tuple (v:=.ty "tuple") rfl) aj)))))
     (fO (aU (xn (Cq hr)) (pv 1) (gq aW) (aV _)) (fj (aU dq (pv 2) ak (aV _)))))) (aA (aO (aK (hjk:=Zz) c3 hr (aq (pv 0) aj)))) aN)
   (aG (By (i:=3) (j:=4) (k:=5) rfl sc30.nd rfl rfl rfl Zx Zx Zx rfl rfl rfl (aq (aK (hjk:=Zz) c1 hr (aq (pv 0) (aq (aH aP rfl T.len PySem.boot_len (aq (pv 1) aj)) aj))) (aq (aK (hjk:=Zz) c1 hr (aq (pv 0) (aq ak aj))) (aq (iy nA rfl Tl uV (aq (pv 1) aj)) aj))) rfl)
   (aG (bw (aU dq (pv 4) ak (aV _))
     (aA (bR (gG zB6 PySem.F.slot_list_insert PySem.F.type_list_insert oh (pv 5) (aq (pv 3) (aq (aK (hjk:=Zz) c3 hr (aq (pv 0) aj)) aj)))))
    (aA (bw (aU dq (pv 4) ak (aV _))
     (aA (bR (gG zB6 PySem.F.slot_list_pop PySem.F.type_list_pop rH (pv 5) (aq (pv 3) aj))))
    (aA (bw (aU dq (pv 4) ak (aV _))
     (aA (bR (gG zB6 PySem.F.slot_list_insert PySem.F.type_list_insert oh (pv 5) (aq (pv 3) (aq (pX bK (pv 5) (pv 3)) aj)))))
    (aA (bw (aU dq (pv 4) ak (aV _))
     (aA (aO (pv 5)))
    (aA (bw (aU dq (pv 4) ak (aV _))
     (aA (bR (gG zB6 zBd zBc eF (pv 5) (aq (gG zB6 PySem.F.slot_list_pop PySem.F.type_list_pop rH (pv 5) (aq (pv 3) aj)) aj))))
    (aA (bY (aK (hjk:=Zz) c4 hr (aq (pv 0) (aq (pX bK (pv 5) (pv 3)) (aq (aX pC (pv 2) ak) aj)))) (pq (pv 5) (pv 3) set_list))))))))))))
   (aA (aO (iy fG rfl T.tuple boot_tuple (aq (pv 5) aj))))))),?_⟩
  have Ln:sz d<=4000:=Zz
  have g0:Dr st H H:=⟨But.refl,a9⟩
  refine aD ?_;refine⟨_,rfl,_,v,d,rfl,th,Ln,fun H1 s1=>⟨_,rfl,?_⟩⟩;have g1:Dr st H H1:=g0.same s1
  have odd:∀H2 v' H',Dr st H H2->Made st H2 6 v' H'->Q v' H':=fun H2 v' H' g2 m=>by
   obtain⟨d',g3,t3,m3,z3⟩:=m.dr (fb.dr g2);exact q v' H' d' (g2.trans g3) t3 (tm_up Zz _ m3) Zz
  cases ew:b8 d with
  |true=>
   obtain⟨i,rfl,rfl⟩:=fU th ew;refine bh ?_;refine⟨_,rfl,st,4,rfl,g1.sa,by decide,by decide,fun r a1 b1 r0 r1 k1 k2 k3=>⟨_,_,rfl,rfl,_,rfl,?_⟩⟩;have g2:=g1.take k1 k2 k3;refine pN (fun _=>?_) (fun _=>?_)
   .refine⟨_,rfl,1,rfl,5,rfl,_,_,rfl,rfl,⟨by decide,by decide,by decide⟩,zL,fun p hp=>?_⟩;have g3:=g2.new (o:=.lst [V.int 1,V.int (-1),V.int 5,V.int (-5),V.int 1000,V.int (10^(6:Int).toNat)]) hp;refine⟨_,rfl,st,6,rfl,g3.sa,by decide,by decide,fun r2 a2 b2 x0 x1 y1 y2 y3=>?_⟩
    obtain⟨wd,hw,w1,w2⟩:∃wd:Int,atI [V.int 1,V.int (-1),V.int 5,V.int (-5),V.int 1000,V.int (10^(6:Int).toNat)] r2=some (.int wd)/\-5<=wd/\wd<=1000000:=by
     have:r2=0\/r2=1\/r2=2\/r2=3\/r2=4\/r2=5:=Zz
     rcases this with rfl|rfl|rfl|rfl|rfl|rfl
     .exact⟨1,rfl,by decide,by decide⟩
     .exact⟨-1,rfl,by decide,by decide⟩
     .exact⟨5,rfl,by decide,by decide⟩
     .exact⟨-5,rfl,by decide,by decide⟩
     .exact⟨1000,rfl,by decide,by decide⟩
     .exact⟨_,rfl,by decide,by decide⟩
    refine⟨p,_,r2,.int wd,rfl,rfl,SqL.of (by rw[ao (g2.ne hp)];exact aa),hw,i,wd,rfl,rfl,?_⟩;have ib:decide (i.natAbs<B)=true:=ib;rw[Zq]at ib;exact q _ _ (.int (i+wd)) (g3.take y1 y2 y3) (.int _) (zAv (show(i+wd).natAbs<B+1000000 by lia)) (by show 1<=2*1+10;decide)
   .refine⟨_,rfl,.int i,_,"tuple",false,rfl,(IsTh.int (S:=fun _=>False) i).ty,iB (.int i),_,rfl,?_⟩;exact bh (bh ⟨_,rfl,st,rfl,g2.sa,fun v' H' m=>odd _ _ _ g2 m⟩)
  |false=>
   refine bf (bu ?_);dsimp only;refine aD ?_;refine⟨_,rfl,v,_,"tuple",dh d,rfl,(g1.th a9 fb.st th).ty,iB d,_,rfl,?_⟩
   cases et:dh d with
   |false=>exact bh (bh ⟨_,rfl,st,rfl,g1.sa,fun v' H' m=>odd _ _ _ g1 m⟩)
   |true=>
    refine bf ?_
    cases th with
    |@tup a xs ds ea r=>
     have hl:=r.length;have O1:=qp ds;have O2:1+szs ds<=1000:=hz
     have na:a≠st:=fun z=>by
      obtain⟨x,y,e,_⟩:=a9;rw[z,e]at ea;cases ea
     refine⟨_,rfl,zL,fun p0 Jk=>⟨a,p0,xs,rfl,rfl,SqT.of (Same.upd Jk _ _ (s1 _ _ ea)),SqT.of aa,_,rfl,?_⟩⟩;have g2:=g1.new (o:=.tup []) Jk
     cases hx:xs.isEmpty with
     |true=>exact bh (bh ⟨_,rfl,st,rfl,g2.sa,fun v' H' m=>odd _ _ _ g2 m⟩)
     |false=>
      refine bf ?_;refine⟨_,rfl,rfl,_,rfl,?_⟩;by_cases rf:deep=0
      .subst rf;exact bh ⟨_,rfl,st,rfl,g2.sa,fun v' H' m=>odd _ _ _ g2 m⟩
      .rw[decide_eq_false (fun z:V.int deep=V.int 0=>rf (by injection z))];refine bf (bu ?_);dsimp only;refine aD ?_
       have Jj:1<=xs.length:=by
        cases xs with
        |nil=>cases hx
        |cons _ _=>exact Nat.le_add_left 1 _
       have kD:=g2.bt _ _ ea na;refine⟨_,rfl,_,rfl,a,xs,rfl,.inr (SqT.of kD),st,_,rfl,g2.sa,Zz,Zz,fun r1 a1 b1 r0 rn k1 k2 k3=>?_⟩;have g3:=g2.take k1 k2 k3;refine⟨_,rfl,st,10,rfl,g3.sa,by decide,by decide,fun kd a2 b2 _ _ k4 k5 k6=>?_⟩;have g4:=g3.take k4 k5 k6;refine⟨_,rfl,a,xs,rfl,SqT.of (g4.bt _ _ ea na),fun p hp np=>⟨_,_,_,rfl,?_⟩⟩;have p0:=g4.free hp;have mw:=g4.ne hp;have g5:=g4.new (o:=.lst xs) hp;generalize Jl:upd (upd (upd (upd H1 _ _) st _) st _) p (.lst xs)=H5 at g5⊢;have e5:H5 p=some (.lst xs):=by rw[<-Jl];exact aa
       clear Jl
       have AG:Fb (fun a=>F a\/a=p) st H5:=(fb.dr g5).with e5
       have r5:IsThs (fun a=>¬(F a\/a=p)) H5 xs ds:=r.keep (fun c l e'=>g5.bt _ _ e' fun z=>by
         obtain⟨x,y,e,_⟩:=a9;rw[z,e]at e'
         cases e') (fun c o hc e'=>g5.bt _ _ e' fun z=>hc (z▸fb.st)) fun c o hc e'=>fun z=>z.elim hc fun z=>by
         rw[z,p0]at e';cases e'
       have put:∀{Hc:Hp} {ys zs ws:List V} {es:List PyData},Hc p=some (.lst ys)->IsThs (fun a=>¬(F a\/a=p)) Hc ws es->IsThs (fun a=>¬(F a\/a=p)) (upd Hc p (.lst zs)) ws es:=fun{Hc ys zs ws es} e t=>t.keep (fun c l e'=>by
         have:c≠p:=fun z=>by
          rw[z,e]at e';cases e'
         rw[ao this]
         exact e') (fun c o hc e'=>by
         have:c≠p:=fun z=>hc (.inr z);rw[ao this]
         exact e') fun _ _ z _=>z
       have DM:∀{Hc:Hp} {ys zs:List V} {w:V} {e1:PyData},Hc p=some (.lst ys)->IsTh (fun a=>¬(F a\/a=p)) Hc w e1->IsTh (fun a=>¬(F a\/a=p)) (upd Hc p (.lst zs)) w e1:=fun{Hc ys zs w e1} e t=>by
        have:=put (zs:=zs) e (.cons t .nil)
        cases this with
        |cons h _=>exact h
       have fin:∀{Hc:Hp} {ys:List V} {es:List PyData} {l:Addr},Dr st H Hc->Hc p=some (.lst ys)->IsThs (fun a=>¬(F a\/a=p)) Hc ys es->tms (B+1000000) es=true->1+szs es<=2*(1+szs ds)+10->Hc l=none->Q (.ref l) (upd Hc l (.tup ys)):=fun{Hc ys es l} g e t h1 h2 hn=>
        q _ _ (.tuple es) (g.new hn) (.tup aa ((t.same (Same.upd hn)).keep (fun _ _ e=>e) (fun _ _ _ e=>e) fun _ _ z _ zF=>z (.inl zF))) h1 h2
       have DO:r1.toNat<xs.length:=Zz
       have er:xs[r1.toNat]?=some xs[r1.toNat]:=zA0 DO;obtain⟨di,vk,ti⟩:=r5.get er
       have eR:atI xs r1=some xs[r1.toNat]:=by
        have:=iz er;rw[show((r1.toNat:Nat):Int)=r1 by lia]at this;exact this
       have Jm:ixN xs.length r1=some r1.toNat:=by
        unfold ixN;rw[zAx r0,zAx Zz]
       have Jn:=pI Jm;have ib:tms B ds=true:=ib;have mx:tms (B+1000000) ds=true:=qy Zz _ ib;have Jo:tm B di=true:=tms_all.mp ib di (zB5 vk);have vn:tm (B+1000000) di=true:=tm_up Zz _ Jo;have zi:=qu (zB5 vk);have Jp:xs.length<sizeLine:=by rw[sizeLine_eq];lia
       refine aD ?_;refine⟨_,rfl,rfl,_,rfl,pN (fun _=>?_) fun _=>⟨_,rfl,rfl,_,rfl,pN (fun _=>?_) fun _=>⟨_,rfl,rfl,_,rfl,pN (fun _=>?_) fun _=>⟨_,rfl,rfl,_,rfl,pN (fun _=>?_) fun _=>⟨_,rfl,rfl,_,rfl,pN (fun _=>?_) fun _=>?_⟩⟩⟩⟩⟩
       .refine⟨_,rfl,.inl ⟨rfl,_,SqL.of e5⟩,_,rfl,_,rfl,st,rfl,g5.sa,fun v' H6 m=>?_⟩;obtain⟨d',g6,t6,m6,z6⟩:=m.dr AG;have e6:=g6.bt _ _ e5 mw;refine⟨p,xs,r1,v',rfl,rfl,e6,r0,Zz,Jp,?_⟩;refine⟨_,rfl,p,_,rfl,.inl ⟨SqL.of aa,fun l dE=>fin (es:=ds.take r1.toNat++d'::ds.drop r1.toNat) ((g5.trans g6).put p0 mw) aa ?_ ?_ ?_ dE⟩⟩
        .have r6:=g6.ths g5.sa AG.st r5;exact put e6 ((r6.take _).append (.cons t6 (r6.drop _)))
        .refine tms_all.mpr fun x hx=>?_;rcases zA6.mp hx with z|z
         .exact tms_all.mp mx x (List.mem_of_mem_take z)
         .rcases zAo.mp z with z|z
          .rw[z];exact tm_up Zz _ m6
          .exact tms_all.mp mx x (List.mem_of_mem_drop z)
        .rw[wy];lia
       .refine⟨_,rfl,.inl ⟨rfl,_,SqL.of e5⟩,_,rfl,?_⟩;refine⟨p,xs,r1,r1.toNat,_,rfl,rfl,e5,Zz,Zz,Jn.1,er,?_⟩;refine⟨_,rfl,p,_,rfl,.inl ⟨SqL.of aa,fun l dE=>fin (es:=ds.eraseIdx r1.toNat) (g5.put p0 mw) aa (put e5 (r5.erase _)) ?_ ?_ dE⟩⟩
        .exact tms_all.mpr fun x hx=>tms_all.mp mx x (List.mem_of_mem_eraseIdx hx)
        .have:=qC vk;lia
       .refine⟨_,rfl,.inl ⟨rfl,_,SqL.of e5⟩,_,rfl,_,rfl,_,rfl,p,xs,r1,_,rfl,rfl,SqL.of e5,eR,?_⟩;refine⟨p,xs,r1,_,rfl,rfl,e5,r0,Zz,Jp,?_⟩;refine⟨_,rfl,p,_,rfl,.inl ⟨SqL.of aa,fun l dE=>fin (es:=ds.take r1.toNat++di::ds.drop r1.toNat) (g5.put p0 mw) aa (put e5 ((r5.take _).append (.cons ti (r5.drop _)))) ?_ ?_ dE⟩⟩
        .refine tms_all.mpr fun x hx=>?_;rcases zA6.mp hx with z|z
         .exact tms_all.mp mx x (List.mem_of_mem_take z)
         .rcases zAo.mp z with z|z
          .rw[z];exact vn
          .exact tms_all.mp mx x (List.mem_of_mem_drop z)
        .rw[wy];lia
       .refine⟨_,rfl,?_⟩;refine q _ _ (.list ds) g5 (.lst (fun z=>np (fb.new p z p0)) e5 (r5.keep (fun _ _ e=>e) (fun _ _ _ e=>e) fun _ _ z _ zF=>z (.inl zF))) mx ?_;show 1+szs ds<=2*(1+szs ds)+10;lia
       .refine⟨_,rfl,.inl ⟨rfl,_,SqL.of e5⟩,_,rfl,.inl ⟨rfl,_,SqL.of e5⟩,_,rfl,?_⟩;refine⟨p,xs,r1,r1.toNat,_,rfl,rfl,e5,Zz,Zz,Jn.1,er,?_⟩;have hle:=jJ xs r1.toNat;refine⟨p,_,_,rfl,rfl,aa,Zz,?_⟩;refine⟨_,rfl,p,_,rfl,.inl ⟨SqL.of aa,fun l dE=>fin (es:=ds.eraseIdx r1.toNat++[di]) ((g5.put p0 mw).put p0 mw) aa (put aa ((put e5 (r5.erase _)).append (.cons (DM e5 ti) .nil))) ?_ ?_ dE⟩⟩
        .refine tms_all.mpr fun x hx=>?_;rcases zA6.mp hx with z|z
         .exact tms_all.mp mx x (List.mem_of_mem_eraseIdx z)
         .rw[List.mem_singleton.mp z];exact vn
        .have:=qC vk;rw[qz];show 1+(szs (ds.eraseIdx r1.toNat)+(sz di+0))<=_;lia
       .refine⟨_,rfl,_,rfl,_,rfl,p,xs,r1,_,rfl,rfl,SqL.of e5,eR,_,rfl,_,_,rfl,rfl,?_⟩;refine⟨_,st,_,di,deep-1,B,rfl,g5.sa,AG,Zz,Zz,ti,Jo,hB,Zz,fun v' H6 d' g6 t6 m6 z6=>?_⟩;have e6:=g6.bt _ _ e5 mw;refine⟨_,rfl,_,rfl,p,xs,r1,r1.toNat,rfl,rfl,e6,Jm,?_⟩;refine⟨_,rfl,p,_,rfl,.inl ⟨SqL.of aa,fun l dE=>fin (es:=ds.set r1.toNat d') ((g5.trans g6).put p0 mw) aa (put e6 ((g6.ths g5.sa AG.st r5).set t6 _)) ?_ ?_ dE⟩⟩
        .refine tms_all.mpr fun x hx=>?_;rcases List.mem_or_eq_of_mem_set hx with z|z
         .exact tms_all.mp mx x z
         .rw[z];exact m6
        .have:=wz (e:=d') vk;lia
    |_=>cases et
theorem uW{f:Addr}{fd:FuncData}:FnOk P w K mg base CX0 3 f fd ["_law_state_here","_law_thing","_law_deep"] (jq (0:Nat)):=by
 refine⟨fun vs H Q E h=>?_,fun A outer s H args us vs Q E hr he hb hv h=>?_⟩
 .obtain⟨F,st,v,d,deep,B,rfl,_⟩:=h;rfl
 .obtain⟨F,st,v,d,deep,B,rfl,_,_,h0,h1,_⟩:=h;exact absurd h1 Zz
def tU(P:Program)(w:World)(K:Frag)(mg:Str->Option Value)(base:Heap)(k:Nat)(x:Str)(ps:List Str)(sp:Sp):Prop:=
 ∃f fd,FnOk P w K mg base (CX1 P w) k f fd ps sp/\mg x=some (.ref f)/\PySem.W.keepIn K (.ref f)=true/\Binds K fd ps []
theorem gB{X:Cx}{k j:Nat}{x:Str}{ps:List Str}{sp:Sp}{E:XK}{p pos:Pos}{e:Expr}{es:List Expr}{t:TA}(c:tU X.prog X.w X.K X.mg X.base j x ps sp)(hr:Room k X.A)(hjk:j<=k)(hg:Gl X x)(W:nG X fun a C H=>E (.ref a) (some C) H)(hx:X.ex=[])(ha:PA X (e::es) t)
  (bb:(x==("__debug__":Str))=false:=by decide) (he:starEach (e::es) X.env=(false,eval e X.env)::starEach es X.env:=by rfl) (aS:(backTo pos (starEach es X.env)).any (·.1)=false:=by rfl):
  PE X (.Call (.Name x p) (e::es) [] pos) (rC sp [] E t):=by
 obtain⟨f,fd,F,m,k',b⟩:=c;exact vC F (hr.mono hjk) hg m k' b .nil (zz W hx) ha bb he aS
abbrev VE:List Value:=[.type "ValueError",.type "Exception",.type "BaseException",.type "object"]
def words:List Str:=["clips","promises","sales","book","number","year","weights","paper","growth","promise","sort","clip","sale","deed","text","line"]
def Dv(j:Nat):PyData:=.tuple [.str (words.getD j "")]
theorem ig{t:TS}{D:Ends}{σ:L2.St}{H:Hp}(C:Hp->Prop)(c:C H)(h:∀H',C H'->t D σ H'):t D σ H:=h H c
theorem bV{te:TE}{tr:TA}{σ:L2.St}{H:Hp}{Q:List V->Hp->Prop}(h:te σ H fun x H1=>tr σ H1 fun xs H2=>Q (x::xs) H2):dD te tr σ H Q:=h
theorem jr{X:Cx}{body:List Stmt}{t:TS}{R:TS->Prop}(h:BSs X body t)(q:R t):∃t,PSs X body t/\R t:=⟨t,h.run,q⟩
structure BT(X:Cx)(e:Expr)(t:TT):Prop where
 run:PT X e t
section
variable{X:Cx}{a b c l:Expr}{ta tb tl:TE}{t u:TT}{pos p q:Pos}
theorem zX{k:Bool}{j}{y:Str}{q':Pos}(hl:BE X (.Name y q') tl)(hline:(p.endLine==pos.line)=true:=by rfl):BE X (.Call (.Attribute (.Name y q') "count" p) [.Constant (.bool k) j q] [] pos) (tBM X.K "list" vW tl (dD (tC (.bl k)) iT)):=⟨gG zB6 PySem.F.slot_list_count PySem.F.type_list_count xP hl.run (aq gJ aj) (hline:=hline)⟩
theorem zY{k:Bool}{j}{y:Str}{q':Pos}(hl:BE X (.Name y q') tl)(hline:(p.endLine==pos.line)=true:=by rfl):BE X (.Call (.Attribute (.Name y q') "index" p) [.Constant (.bool k) j q] [] pos) (tBM X.K "list" vX tl (dD (tC (.bl k)) iT)):=⟨gG zB6 PySem.F.slot_list_index PySem.F.type_list_index xQ hl.run (aq gJ aj) (hline:=hline)⟩
theorem Fo(hc:BT X c t)(ha:BE X a ta)(hb:BE X b tb):BE X (.IfExp c a b pos) (tIf t ta tb):=⟨dO hc.run ha.run hb.run⟩
theorem Fp(h:BE X (.Subscript a b p) ta):BT X (.Subscript a b p) (tB ta):=⟨bD h.run⟩
theorem Cr{es ks}(h:BE X (.Call a es ks p) ta):BT X (.Call a es ks p) (tB ta):=⟨bD h.run⟩
theorem Fq(h:BT X a t):BT X (.UnaryOp .Not a pos) (FZ t):=⟨bB h.run⟩
theorem Fv(ha:BT X a t)(hb:BT X b u):BT X (.BoolOp .Or [a,b] pos) (tOr t u):=⟨PW.pt (fO ha.run (fj hb.run))⟩
theorem GD{i:Int}{j}(ha:BE X a ta):BT X (.Compare a [.NotEq] [.Constant (.int i) j q] pos) (yH (tOp rNe ta (tC (.int i)))):=⟨aU rm ha.run ak (aV _)⟩
theorem GF{x y:List Stmt}{v z:TS}(hc:BT X c t)(hx:BSs X x v)(hy:BSs X y z):BS X (.If c x y pos) (G8 t v z):=⟨bw hc.run hx.run hy.run⟩
theorem Cu:BSs X [] yz:=⟨aN⟩
end
structure Clss(mg:Str->Option Value)(Cs:Nat->Addr):Prop where
 n0:mg "NoClips"=some (.ref (Cs 0))
 n1:mg "NoPromises"=some (.ref (Cs 1))
 n2:mg "NoSales"=some (.ref (Cs 2))
 n3:mg "NoBook"=some (.ref (Cs 3))
 n4:mg "NoNumber"=some (.ref (Cs 4))
 n5:mg "NoYear"=some (.ref (Cs 5))
 n6:mg "NoWeights"=some (.ref (Cs 6))
 n7:mg "NoPaper"=some (.ref (Cs 7))
 n8:mg "NoGrowth"=some (.ref (Cs 8))
 n9:mg "NoPromise"=some (.ref (Cs 9))
 n10:mg "NoSort"=some (.ref (Cs 10))
 n11:mg "NoClip"=some (.ref (Cs 11))
 n12:mg "NoSale"=some (.ref (Cs 12))
 n13:mg "NoDeed"=some (.ref (Cs 13))
 n14:mg "NoText"=some (.ref (Cs 14))
 n15:mg "NoLine"=some (.ref (Cs 15))
 n16:mg "TooMany"=some (.ref (Cs 16))
 wool:mg "WoolError"=some (.ref (Cs 17))
structure Kind(K:Frag)(Cs:Nat->Addr)(j:Nat):Prop where
 lt:j<17
 ex:ExcC K (Cs j)
 ca:CatchC K (Cs j) (Cs 17)
 on:∀i,i<17->PySem.W.kitOne K (.ref (Cs j)) (.ref (Cs i))=some (decide (i=j))
 ve:PySem.W.kitOne K (.ref (Cs j)) (.type "ValueError")=some true
inductive XW(K:Frag)(Cs:Nat->Addr)(H:Hp):XC->Nat->List V->Prop
 |word {j:Nat} (lt:j<16):XW K Cs H (Cs j,none) j [.str (words.getD j "")]
 |many {D:Addr} {m k:Int} (e:H D=some (.ext (mmAt D [("most",k),("many",m)]))) (n1:PySem.W.findIn K (.ref (Cs 16)) "many"=some none) (n2:PySem.W.findIn K (.ref (Cs 16)) "most"=some none) (hd:PySem.W.hasDictIn K (Cs 16)=true):XW K Cs H (Cs 16,some D) 16 [.str "many",.int m,.int k]
theorem XW.same{K:Frag}{Cs:Nat->Addr}{H H':Hp}{C:XC}{j:Nat}{row:List V}(x:XW K Cs H C j row)(s:Same H H'):XW K Cs H' C j row:=by
 cases x with
 |word lt=>exact .word lt
 |many e n1 n2 hd=>exact .many (s _ _ e) n1 n2 hd
theorem XW.cls{K:Frag}{Cs:Nat->Addr}{H:Hp}{C:XC}{j:Nat}{row:List V}(x:XW K Cs H C j row):C.1=Cs j:=by cases x<;>rfl
theorem XW.dict{K:Frag}{Cs:Nat->Addr}{H:Hp}{C:XC}{j:Nat}{row:List V}(x:XW K Cs H C j row):∀D,C.2=some D->∃o,H D=some o:=by
 cases x with
 |word lt=>exact fun D z=>nomatch z
 |many e n1 n2 hd=>exact fun D z=>by cases z;exact⟨_,e⟩
inductive SpKindI(K:Frag)(Cs:Nat->Addr)(vs:List V)(H:Hp)(Q:VK):Prop
 |mk:∀a C j row,(vs=[.ref a])->(H a=some (.ext (excAt a C)))->(XW K Cs H C j row)->(Kind K Cs j)->(∀p H',Same H H'->H' p=some (.tup row)->Q (.ref p) H')->SpKindI K Cs vs H Q
def zZ(K:Frag)(Cs:Nat->Addr):Sp:=fun vs H Q _=>SpKindI K Cs vs H Q
def marks(j:Nat):List Bool:=(List.range 17).map fun i=>decide (i=j)
theorem tV:∀j,j<17->(marks j).count true=1:=by decide +kernel
theorem Aa{j:Nat}(h:j<17):(marks j)[j]?=some true:=by
 unfold marks;rw[zAb,List.getElem?_range h];simp
theorem Ab{j i:Nat}(h:i<j):(marks j)[i]?≠some true:=by
 unfold marks;rw[zAb];by_cases hi:i<17
 .rw[List.getElem?_range hi];simp;lia
 .rw[List.getElem?_eq_none (by simp;lia)];simp
theorem Cv:bootBuiltins "ValueError"=some (.type "ValueError"):=by decide +kernel
theorem Ac{j:Nat}(h:j<16):atI (words.map V.str) (j:Int)=some (.str (words.getD j "")):=by
 have hl:words.length=16:=rfl
 have:words[j]?=some (words.getD j ""):=by
  rw[zA7,zA0 Zz];rfl
 refine iz ?_;rw[zAb,this];rfl
theorem cM{X:Cx}{x:Str}{D:Addr}{p q r pos:Pos}{y:Str}{i:Nat}(hN:X.N[i]?=some y)(hv:Vis X.env.scope y)(hI:Gl X "isinstance")(mI:X.mg "isinstance"=none)(hg:Gl X x)(hm:X.mg x=some (.ref D))(hd:(y==("__debug__":Str))=false:=by decide)(bg:(y==("__classdict__":Str))=false:=by decide)(hd2:(x==("__debug__":Str))=false:=by decide):
  BE X (.Call (.Name "isinstance" p) [.Name y q,.Name x r] [] pos) (tCB (fun xs H Q=>∃(a:Addr) (C:XC) (c:V) (b:Bool),xs=[.ref a,c]/\H a=some (.ext (excAt a C))/\(∀D,C.2=some D->∃o,H D=some o)/\ExcC X.K C.1/\((∃D,c=.ref D/\PySem.W.kitOne X.K (.ref C.1) (.ref D)=some b)\/∃n,c=.ty n/\PySem.W.kitOne X.K (.ref C.1) (.type n)=some b)/\Q (.bl b) H) (dD (wR i) (dD (tC (.ref D)) iT))):=
 ⟨aH jm hI mI boot_isinstance (aq (uh hN hv hd bg) (aq (bQ (v:=.ref D) hg hm rfl hd2) aj))⟩
theorem cN{K:Frag}{σ:L2.St}{H:Hp}{a:Addr}{Cs:Nat->Addr}{C:XC}{row:List V}{i j:Nat}{Q:VK}(Z:Kind K Cs j)(hi:i<17)(e:H a=some (.ext (excAt a C))/\XW K Cs H C j row)(fy:σ[0]?=some (some (.ref a)))(h:Q (.bl (decide (i=j))) H):
  tCB (fun xs H Q=>∃(a:Addr) (C:XC) (c:V) (b:Bool),xs=[.ref a,c]/\H a=some (.ext (excAt a C))/\(∀D,C.2=some D->∃o,H D=some o)/\ExcC K C.1/\((∃D,c=.ref D/\PySem.W.kitOne K (.ref C.1) (.ref D)=some b)\/∃n,c=.ty n/\PySem.W.kitOne K (.ref C.1) (.type n)=some b)/\Q (.bl b) H) (dD (wR 0) (dD (tC (.ref (Cs i))) iT)) σ H Q:=
 ⟨_,fy,a,C,.ref (Cs i),_,rfl,e.1,e.2.dict,by rw[e.2.cls];exact Z.ex,.inl ⟨_,rfl,by rw[e.2.cls];exact Z.on i hi⟩,h⟩
theorem sc43:FnScope ["_law_e","_law_names","_law_kinds"] ["_law_e"] (az (top 70)):=fQS
theorem Cw{f:Addr}{Cs:Nat->Addr}{fd:FuncData}(F:Fun K "_law_kind" "_law_kind" (top 70) f fd)(T:Mg mg)(Tv:mg "ValueError"=none)(L:Clss mg Cs):FnOkU P w K mg base CX0 1 f fd ["_law_e"] (zZ K Cs):=by
 refine F.okU sc43 (fun vs H Q E h=>?_) (fun af A outer s H vs Q E hr h=>?_)
 .obtain⟨a,C,j,row,rfl,_⟩:=h;rfl
 .obtain⟨a,C,j,row,rfl,ea,xw,Z,q⟩:=h
  refine jr (aF (jk 1 sc43.nd (dI (aM bA (aM bA (aM bA (aM bA (aM bA (aM bA (aM bA (aM bA (aM bA (aM bA (aM bA aW)))))))))))))
   (aF (jk 1 sc43.nd (oA gP ⟨pv 1⟩ (dI (aM bA (aM bA (aM bA (aM bA (aM bA aW))))))))
   (aF (jk 2 sc43.nd (dI (aM (cM (i:=0) rfl (Or.inl rfl) rfl T.isinstance rfl L.n0) (aM (cM (i:=0) rfl (Or.inl rfl) rfl T.isinstance rfl L.n1) (aM (cM (i:=0) rfl (Or.inl rfl) rfl T.isinstance rfl L.n2) (aM (cM (i:=0) rfl (Or.inl rfl) rfl T.isinstance rfl L.n3) aW))))))
   (aF (jk 2 sc43.nd (oA gP ⟨pv 2⟩ (dI (aM (cM (i:=0) rfl (Or.inl rfl) rfl T.isinstance rfl L.n4) (aM (cM (i:=0) rfl (Or.inl rfl) rfl T.isinstance rfl L.n5) (aM (cM (i:=0) rfl (Or.inl rfl) rfl T.isinstance rfl L.n6) aW))))))
   (aF (jk 2 sc43.nd (oA gP ⟨pv 2⟩ (dI (aM (cM (i:=0) rfl (Or.inl rfl) rfl T.isinstance rfl L.n7) (aM (cM (i:=0) rfl (Or.inl rfl) rfl T.isinstance rfl L.n8) (aM (cM (i:=0) rfl (Or.inl rfl) rfl T.isinstance rfl L.n9) aW))))))
   (aF (jk 2 sc43.nd (oA gP ⟨pv 2⟩ (dI (aM (cM (i:=0) rfl (Or.inl rfl) rfl T.isinstance rfl L.n10) (aM (cM (i:=0) rfl (Or.inl rfl) rfl T.isinstance rfl L.n11) (aM (cM (i:=0) rfl (Or.inl rfl) rfl T.isinstance rfl L.n12) (aM (cM (i:=0) rfl (Or.inl rfl) rfl T.isinstance rfl L.n13) aW)))))))
   (aF (jk 2 sc43.nd (oA gP ⟨pv 2⟩ (dI (aM (cM (i:=0) rfl (Or.inl rfl) rfl T.isinstance rfl L.n14) (aM (cM (i:=0) rfl (Or.inl rfl) rfl T.isinstance rfl L.n15) (aM (cM (i:=0) rfl (Or.inl rfl) rfl T.isinstance rfl L.n16) aW))))))
   (aF (GF (Fv (GD (zX ⟨pv 2⟩)) (Fq (Cr ⟨aH jm rfl T.isinstance boot_isinstance (aq (pv 0) (aq (cZ rfl Tv Cv (v:=.ty "ValueError") rfl) aj))⟩))) (bU (gr (cB (aM bA aW)))) Cu)
   (bU (gr (Fo (Fp (za bK ⟨pv 2⟩ bL (fun _ _=>rfl))) (cB (aM bA (aM ⟨zN (pv 0)⟩ (aM ⟨zN (pv 0)⟩ aW oK) oK))) (cB (aM (za bK ⟨pv 1⟩ (zY ⟨pv 2⟩) (fun _ _=>rfl)) aW))))))))))))) ?_
  refine aD ?_;refine⟨by decide,fun p1 ja=>?_⟩;refine bc ?_;dsimp only;refine ig (fun H1=>Same H H1/\H1 p1=some (.lst [.str "clips",.str "promises",.str "sales",.str "book",.str "number",.str "year",.str "weights",.str "paper",.str "growth",.str "promise",.str "sort"])) ⟨Same.upd ja,aa⟩ fun H1 ⟨s1,e1⟩=>?_;refine aD ?_;refine⟨_,rfl,by decide,fun p2 dy=>⟨p1,p2,_,_,rfl,rfl,Same.upd dy _ _ e1,aa,by decide,fun l2 iX=>?_⟩⟩;refine bc ?_;dsimp only;refine ig (fun H2=>Same H H2/\H2 l2=some (.lst (words.map V.str))) ⟨(s1.updR dy).updR iX,aa⟩ fun H2 ⟨s2,e2⟩=>?_;have kD:=And.intro (s2 _ _ ea) (xw.same s2);refine aD (bO ?_);refine j6 (bV ?_);refine cN (i:=0) Z Zx kD rfl ?_;refine bV ?_;refine cN (i:=1) Z Zx kD rfl ?_;refine bV ?_;refine cN (i:=2) Z Zx kD rfl ?_;refine bV ?_;refine cN (i:=3) Z Zx kD rfl ?_;refine⟨zL,fun p3 gs=>?_⟩;refine bc ?_;dsimp only;refine ig (fun H3=>Same H H3/\H3 l2=some (.lst (words.map V.str))/\H3 p3=some (.lst ([decide (0=j),decide (1=j),decide (2=j),decide (3=j)].map V.bl))) ⟨s2.updR gs,Same.upd gs _ _ e2,aa⟩ fun H3 ⟨s3,e3,f3⟩=>?_;have DS:=And.intro (s3 _ _ ea) (xw.same s3);refine aD (bO ?_);refine⟨_,rfl,?_⟩;refine j6 (bV ?_);refine cN (i:=4) Z Zx DS rfl ?_;refine bV ?_;refine cN (i:=5) Z Zx DS rfl ?_;refine bV ?_;refine cN (i:=6) Z Zx DS rfl ?_;refine⟨zL,fun p4 oq=>⟨p3,p4,_,_,rfl,rfl,Same.upd oq _ _ f3,aa,zL,fun l4 rg=>?_⟩⟩;refine bc ?_;dsimp only;refine ig (fun H4=>Same H H4/\H4 l2=some (.lst (words.map V.str))/\H4 l4=some (.lst ([decide (0=j),decide (1=j),decide (2=j),decide (3=j),decide (4=j),decide (5=j),decide (6=j)].map V.bl))) ⟨(s3.updR oq).updR rg,Same.upd rg _ _ (Same.upd oq _ _ e3),aa⟩ fun H4 ⟨s4,e4,f4⟩=>?_;have rb:=And.intro (s4 _ _ ea) (xw.same s4);refine aD (bO ?_);refine⟨_,rfl,?_⟩;refine j6 (bV ?_);refine cN (i:=7) Z Zx rb rfl ?_;refine bV ?_;refine cN (i:=8) Z Zx rb rfl ?_;refine bV ?_;refine cN (i:=9) Z Zx rb rfl ?_;refine⟨zL,fun p5 rh=>⟨l4,p5,_,_,rfl,rfl,Same.upd rh _ _ f4,aa,zL,fun l5 Jq=>?_⟩⟩;refine bc ?_;dsimp only;refine ig (fun H5=>Same H H5/\H5 l2=some (.lst (words.map V.str))/\H5 l5=some (.lst ([decide (0=j),decide (1=j),decide (2=j),decide (3=j),decide (4=j),decide (5=j),decide (6=j),decide (7=j),decide (8=j),decide (9=j)].map V.bl))) ⟨(s4.updR rh).updR Jq,Same.upd Jq _ _ (Same.upd rh _ _ e4),aa⟩ fun H5 ⟨s5,e5,f5⟩=>?_;have AH:=And.intro (s5 _ _ ea) (xw.same s5);refine aD (bO ?_);refine⟨_,rfl,?_⟩;refine j6 (bV ?_);refine cN (i:=10) Z Zx AH rfl ?_;refine bV ?_;refine cN (i:=11) Z Zx AH rfl ?_;refine bV ?_;refine cN (i:=12) Z Zx AH rfl ?_;refine bV ?_;refine cN (i:=13) Z Zx AH rfl ?_;refine⟨zL,fun p6 DT=>⟨l5,p6,_,_,rfl,rfl,Same.upd DT _ _ f5,aa,zL,fun l6 AI=>?_⟩⟩;refine bc ?_;dsimp only;refine ig (fun H6=>Same H H6/\H6 l2=some (.lst (words.map V.str))/\H6 l6=some (.lst ([decide (0=j),decide (1=j),decide (2=j),decide (3=j),decide (4=j),decide (5=j),decide (6=j),decide (7=j),decide (8=j),decide (9=j),decide (10=j),decide (11=j),decide (12=j),decide (13=j)].map V.bl))) ⟨(s5.updR DT).updR AI,Same.upd AI _ _ (Same.upd DT _ _ e5),aa⟩ fun H6 ⟨s6,e6,f6⟩=>?_;have DU:=And.intro (s6 _ _ ea) (xw.same s6);refine aD (bO ?_);refine⟨_,rfl,?_⟩;refine j6 (bV ?_);refine cN (i:=14) Z Zx DU rfl ?_;refine bV ?_;refine cN (i:=15) Z Zx DU rfl ?_;refine bV ?_;refine cN (i:=16) Z Zx DU rfl ?_;refine⟨zL,fun p7 DV=>⟨l6,p7,_,_,rfl,rfl,Same.upd DV _ _ f6,aa,zL,fun l7 Jr=>?_⟩⟩;refine bc ?_;dsimp only;refine ig (fun H7=>Same H H7/\H7 l2=some (.lst (words.map V.str))/\H7 l7=some (.lst ([decide (0=j),decide (1=j),decide (2=j),decide (3=j),decide (4=j),decide (5=j),decide (6=j),decide (7=j),decide (8=j),decide (9=j),decide (10=j),decide (11=j),decide (12=j),decide (13=j),decide (14=j),decide (15=j),decide (16=j)].map V.bl))) ⟨(s6.updR DV).updR Jr,Same.upd Jr _ _ (Same.upd DV _ _ e6),aa⟩ fun H7 ⟨s7,e7,f7⟩=>?_;have vt:=And.intro (s7 _ _ ea) (xw.same s7);have f7:H7 l7=some (.lst ((marks j).map V.bl)):=f7;have lt:=Z.lt;refine aD ?_;refine⟨_,rfl,.inl ⟨rfl,_,SqL.of f7⟩,l7,marks j,true,rfl,rfl,f7,rfl,_,rfl,?_⟩;rw[tV j Zz];refine bf ?_;refine⟨_,rfl,a,C,.ty "ValueError",true,rfl,vt.1,vt.2.dict,by rw[xw.cls];exact Z.ex,.inr ⟨_,rfl,by rw[xw.cls];exact Z.ve⟩,_,rfl,?_⟩;refine bf (bu ?_);dsimp only;refine⟨_,rfl,l7,_,16,.bl (decide (16=j)),rfl,rfl,SqL.of f7,rfl,_,rfl,?_⟩;have O3:=vt.2
  cases xw with
  |word lt=>
   rw[zB4 (by lia:¬16=j)];refine bf ?_;refine⟨_,rfl,_,rfl,.inl ⟨rfl,_,SqL.of f7⟩,l7,marks j,true,j,rfl,rfl,f7,Aa Zz,fun i hi=>Ab hi,l2,_,j,_,rfl,rfl,SqL.of e7,Ac lt,zL,fun p8 DZ=>?_⟩;exact q p8 _ (s7.updR DZ) aa
  |many e n1 n2 hd=>
   rw[zAv (rfl:16=16)];refine bh ?_;have e':=s7 _ _ e;refine⟨_,rfl,a,_,_,_,_,rfl,vt.1,rfl,e',rfl,Z.ex,n1,hd,_,rfl,a,_,_,_,_,rfl,vt.1,rfl,e',rfl,Z.ex,n2,hd,zL,fun p8 DZ=>?_⟩;exact q p8 _ (s7.updR DZ) aa
def toE(EX:Addr->XC->Hp->Prop):XK:=fun e C H=>match e,C with
 |.ref a,some C'=>EX a C' H
 |_,_=>False
def wA(P:Program)(w:World)(K:Frag)(mg:Str->Option Value)(base:Heap)(kk:Nat)(H:Hp)(fl:Addr)(Qw:VK)(Ew:Addr->XC->Hp->Prop):Prop:=
 ∃(fd:FuncData) (body:Expr) (N:List Str) (vs:List V) (cs:List (Addr×Obj)),LamObj H fl fd/\LamAt fd body N/\(∀b o,cs.lookup b=some o->H b=some (held o))/\(∀x c,fd.closure.lookup x=some c->∃o v,cs.lookup c=some o/\o.data=.cell v) /\
  (∀(i:Nat) (x:Str) (v:V),N[i]?=some x->vs[i]?=some v->∃c u o,fd.closure.lookup x=some c/\RelV v u/\cs.lookup c=some o/\o.data=.cell (some u))/\vs.length=N.length /\
  ∀(A:Around) (outer:List Env) (Q':VK) (E':XK),Room kk A->(∀v H1,Qw v H1->Q' v H1)->(∀a C H1,Ew a C H1->E' (.ref a) (some C) H1)->
   ∃te,(∀s,PE (cxL P w K mg base N fd fl A outer s (er H cs) (fun e C H1=>NoC cs H1->E' e C (fz H1 cs))) body te)/\te (vs.map some) (er H cs) fun v H1=>NoC cs H1->Q' v (fz H1 cs)
theorem Fw{X:Cx}{i kk:Nat}{E:XK}{σ:L2.St}{H:Hp}{Q:VK}{fl:Addr}{Qw:VK}{Ew:Addr->XC->Hp->Prop}(CU:σ[i]?=some (some (.ref fl)))(L:wA X.prog X.w X.K X.mg X.base kk H fl Qw Ew)(hr:Room kk X.A)(q1:∀v H1,Qw v H1->Q v H1)(q2:∀a C H1,Ew a C H1->E (.ref a) (some C) H1):Fe X i E σ H Q:=by
 obtain⟨fd,body,N,vs,cs,L,Z,fr,cell,val,hl,run⟩:=L;obtain⟨te,kr,q⟩:=run X.A X.stack Q E hr q1 q2;exact⟨fl,fd,body,N,vs,cs,te,CU,L,Z,fr,cell,val,hl,kr,q⟩
def Fx(P:Program)(w:World)(K:Frag)(mg:Str->Option Value)(base:Heap)(k:Nat)(x:Str)(ps:List Str)(sp:Sp):Prop:=
 ∃f fd,FnOkU P w K mg base CX0 k f fd ps sp/\mg x=some (.ref f)/\PySem.W.keepIn K (.ref f)=true/\Binds K fd ps []
theorem Cy{X:Cx}{k j:Nat}{x:Str}{ps:List Str}{sp:Sp}{p pos:Pos}{e:Expr}{es:List Expr}{t:TA}(c:Fx X.prog X.w X.K X.mg X.base j x ps sp)(hr:RoomU k X.A)(hjk:j<=k)(hg:Gl X x)(ha:PA X (e::es) t)
  (bb:(x==("__debug__":Str))=false:=by decide) (he:starEach (e::es) X.env=(false,eval e X.env)::starEach es X.env:=by rfl) (aS:(backTo pos (starEach es X.env)).any (·.1)=false:=by rfl):
  PE X (.Call (.Name x p) (e::es) [] pos) (rC sp [] E0 t):=by
 obtain⟨f,fd,F,m,k',b⟩:=c;exact zG F (hr.mono hjk) hg m k' b ha bb he aS
inductive SpSaidI(P:Program)(w:World)(K:Frag)(mg:Str->Option Value)(base:Heap)(Cs:Nat->Addr)(kk:Nat)(vs:List V)(H:Hp)(Q:VK):Prop
 |mk:∀(fl:Addr) (Qw:VK) (Ew:Addr->XC->Hp->Prop),(vs=[.ref fl])->(wA P w K mg base kk H fl Qw Ew)->((∀v H1,Qw v H1->∀p,H1 p=none->p≠sysModules->Q (.ref p) (upd H1 p (.lst [v]))))->((∀a C H1,Ew a C H1->∃j row,XW K Cs H1 C j row/\Kind K Cs j/\(H1 a=none->∀p H2,Same H1 H2->H2 p=some (.tup row)->Q (.ref p) H2)))->SpSaidI P w K mg base Cs kk vs H Q
def jR(P:Program)(w:World)(K:Frag)(mg:Str->Option Value)(base:Heap)(Cs:Nat->Addr)(kk:Nat):Sp:=fun vs H Q _=>SpSaidI P w K mg base Cs kk vs H Q
theorem sc44:FnScope ["_law_call","_law_found","_law_e"] ["_law_call"] (az (top 71)):=fQS
theorem Cz{f:Addr}{Cs:Nat->Addr}{fd:FuncData}{kk:Nat}(F:Fun K "_law_said" "_law_said" (top 71) f fd)(L:Clss mg Cs)(c1:Fx P w K mg base 1 "_law_kind" ["_law_e"] (zZ K Cs)):FnOk P w K mg base CX0 (kk+2) f fd ["_law_call"] (jR P w K mg base Cs kk):=by
 refine F.ok sc44 (fun vs H Q E h=>?_) (fun af A outer s H vs Q E hr h=>?_)
 .obtain⟨fl,Qw,Ew,rfl,_⟩:=h;rfl
 .obtain⟨fl,Qw,Ew,rfl,S,q1,q2⟩:=h
  refine⟨_,aG (Ez (i:=2) (tb:=fun EX=>ul (Fe (jH CX0 P w K mg base ["_law_call","_law_found","_law_e"] "_law_said" (az (top 71)) f af A outer s H E).nox 0 (toE EX)) (eV 1)) L.wool rfl sc44.nd rfl rfl rfl rfl
    (fun Zt xe EX W=>aA (pss 1 sc44.nd (Ff (E:=toE EX) (k:=kk) (hr.mono Zz) rfl (Or.inl rfl) W rfl)))
    (fun v=>aA (aO (Cy c1 (hr.toU.mark v) Zz rfl (aq (pv 2) aj)))))
   (aA (aO (qg (aq (pv 1) aj)))),?_⟩
  refine aD (bO ?_);refine Fw (kk:=kk) rfl S (hr.mono Zz) (fun v H1 hq=>?_) (fun a C H1 hE=>?_)
  .refine bc ?_;refine⟨_,rfl,zL,fun p hp np=>q1 v H1 hq p hp np⟩
  .obtain⟨j,row,xw,Z,q3⟩:=q2 a C H1 hE;refine⟨by show CatchC K C.1 (Cs 17);rw[xw.cls];exact Z.ca,xw.dict,fun ae fy fa=>⟨.ref a,?_,a,C,j,row,rfl,aa,xw.same (Same.upd fa),Z,fun p H2 s2 e2=>q3 fa p H2 ((Same.upd fa).trans s2) e2⟩⟩;rw[List.getElem?_set_self];have fy:ae.length=3:=fy;lia
open PySem.W in
def uX(K:Frag)(L:List Addr)(j:Nat):Bool:=
 decide (j<17)&&((clsIn K (L.getD j 0)).isSome&&(findIn K (.ref (L.getD j 0)) "__getattribute__"==some (some (.builtin "BaseException.__getattribute__"))&&(findIn K (.ref (L.getD j 0)) "__getattr__"==some none&&(findIn K (.ref (L.getD j 0)) "__class__"==some (some (.builtin "object.__class__")) &&
 (specialIn K (.builtin "object.__class__") "__get__"==some (some (.builtin "getset_descriptor.__get__"))&&(takesIn K (.builtin "object.__class__")==some true&&(mroIn K (L.getD j 0) (.type "object")==some true&&(mroIn K (L.getD j 0) (.type "BaseException")==some true &&
 (typeIn K (.ref (L.getD 17 0))==some (.type "type")&&((clsIn K (L.getD 17 0)).isSome&&(subIn K (.ref (L.getD 17 0)) (.type "BaseException")==some true&&(subIn K (.ref (L.getD j 0)) (.ref (L.getD 17 0))==some true &&
 ((List.range 17).all (fun i=>kitOne K (.ref (L.getD j 0)) (.ref (L.getD i 0))==some (decide (i=j)))&&kitOne K (.ref (L.getD j 0)) (.type "ValueError")==some true)))))))))))))
theorem tW{K:Frag}{L:List Addr}{j:Nat}(h:uX K L j=true):Kind K (fun i=>L.getD i 0) j:=by
 unfold uX at h;simp only[Bool.and_eq_true,beq_iff_eq,Zq]at h;obtain⟨h0,h1,h2,h3,h4,h5,h6,h7,h8,h9,Lo,Lp,Lq,Lr,Ls⟩:=h;refine⟨h0,⟨h1,h2,h3,h4,h5,h6,h7,h8⟩,⟨h9,Lo,Lp,Lq⟩,fun i hi=>?_,Ls⟩;have:=List.all_eq_true.mp Lr i (List.mem_range.mpr hi);simpa using this
theorem tab_mk{K:Frag}{x:Str}{f c T:Addr}{a1 a2:Value}{b1 b2:Option Addr}{s1 s2:Array (Option Value)}{fd:FuncData}{vs:Array Value}(h1:PySem.W.nsIn K mainGlobals x=some (some (.ref f)))(h2:K.lookup f=some ⟨a1,b1,.func fd,s1⟩)(h3:fd.code=.ref c)(h4:K.lookup c=some ⟨a2,b2,.fields vs,s2⟩)(h5:vs[11]?=some (.ref T)):
  PySem.W.tabIn K x=some (c,T):=by
 unfold PySem.W.tabIn;rw[h1];show(match K.lookup f with|some ⟨_,_,.func fd,_⟩=>_|_=>none)=_;rw[h2];show(match fd.code with|.ref c=>_|_=>none)=_;rw[h3];show(match K.lookup c with|some ⟨_,_,.fields vs,_⟩=>_|_=>none)=_;rw[h4];show(match vs[11]? with|some (.ref P)=>some (c,P)|_=>none)=_;rw[h5]
def bI(r:List Int):PyData:=.tuple (r.map .int)
def ik(rs:List (List Int)):PyData:=.tuple (rs.map bI)
def fl(r:List Int)(i:Nat):Int:=r.getD i 0
def okP(r:List Int):Prop:=r.length=6/\(0<=fl r 0/\fl r 0<8)/\(0<=fl r 1/\fl r 1<3)/\(0<=fl r 2/\fl r 2<=fl r 3/\fl r 3<=19)/\(1<=fl r 4/\fl r 4<=99)/\(0<=fl r 5/\fl r 5<=1000000)
def rowsOf(d:PyData):List (List Int):=(items d).map fun x=>(items x).map intOf
theorem Ad:∀{ds:List PyData},(∀x∈ds,b8 x=true)->ds=(ds.map intOf).map PyData.int
 |[],_=>rfl
 |d::ds,h=>by
  rw[zAk,zAk,<-Ad fun x hx=>h x (List.mem_cons_of_mem _ hx)];have:=h d List.mem_cons_self
  cases d with
  |int i=>rfl
  |_=>cases this
theorem dJ{x:PyData}{n:Nat}(h:aY x n=true):x=bI ((items x).map intOf)/\((items x).map intOf).length=n:=by
 obtain⟨h1,h2⟩:=jQ h;unfold dF at h1;rw[zAc,zAc,Zq,Zq]at h1;obtain⟨ht,ko,iX⟩:=h1
 cases x with
 |tuple ds=>
  have ko:(n:Int)<=ds.length:=ko;have iX:(ds.length:Int)<=n:=iX;refine⟨?_,by show(ds.map intOf).length=n;rw[zA1];lia⟩;exact congrArg PyData.tuple (Ad h2)
 |_=>cases ht
theorem CG{ds:List PyData}{n:Nat}(h:∀x∈ds,aY x n=true):ds=(ds.map fun x=>(items x).map intOf).map bI:=by
 induction ds with
 |nil=>rfl
 |cons d ds ih=>
  rw[zAk,zAk,<-ih fun x hx=>h x (List.mem_cons_of_mem _ hx),<-(dJ (h d List.mem_cons_self)).1]
theorem xW{d:PyData}{f m:Int}(h:dF d f m=true):∃ds,d=.tuple ds/\f<=ds.length/\(ds.length:Int)<=m:=by
 unfold dF at h;rw[zAc,zAc,Zq,Zq]at h
 cases d with
 |tuple ds=>exact⟨ds,rfl,h.2⟩
 |_=>cases h.1
theorem oW(r:List Int)(i:Nat)(h:i<r.length):at_ (bI r) i=fl r i:=by
 show intOf ((r.map PyData.int).getD i .none)=r.getD i 0;rw[zA7,zA7,zAb,zA0 h];rfl
theorem uY{d:PyData}(h:uQ d=true):d=ik (rowsOf d)/\(rowsOf d).length<=10/\∀r∈rowsOf d,okP r:=by
 unfold uQ at h;rw[zAc]at h;obtain⟨ds,rfl,_,hl⟩:=xW h.1;have h2:∀x∈ds,cW x=true:=List.all_eq_true.mp h.2
 have h3:∀x∈ds,aY x 6=true:=fun x hx=>by
  have:=h2 x hx;unfold cW at this;rw[zAc]at this;exact this.1
 refine⟨congrArg PyData.tuple (CG (n:=6) h3),by show(ds.map _).length<=10;rw[zA1];lia,fun r hr=>?_⟩;obtain⟨x,hx,rfl⟩:=zA5.mp hr;have hx:x∈ds:=hx;obtain⟨e,AI⟩:=dJ (n:=6) (h3 x hx);have:=h2 x hx;unfold cW at this;rw[zAc]at this;have p:=this.2;rw[e]at p;rw[oW _ 0 Zz,oW _ 1 Zz,oW _ 2 Zz,oW _ 3 Zz,oW _ 4 Zz,oW _ 5 Zz]at p;unfold j8 at p;simp only[Bool.and_eq_true,Zq]at p;obtain⟨⟨a1,a2⟩,⟨b1,b2⟩,⟨c1,c2,c3⟩,⟨d1,d2⟩,e1,e2⟩:=p;exact⟨AI,⟨a1,a2⟩,⟨b1,b2⟩,⟨c1,c2,c3⟩,⟨d1,d2⟩,e1,e2⟩
structure RowsAt(H:Hp)(a:Addr)(xs:List V)(rs:List (List Int)):Prop where
 e:H a=some (.tup xs)
 l:xs.length=rs.length
 g:∀(i:Nat) (r:List Int),rs[i]?=some r->∃t,xs[i]?=some (V.ref t)/\H t=some (.tup (r.map V.int))
theorem RowsAt.keep{H H':Hp}{a:Addr}{xs:List V}{rs:List (List Int)}(h:RowsAt H a xs rs)(k:∀b l,H b=some (.tup l)->H' b=some (.tup l)):RowsAt H' a xs rs:=
 ⟨k _ _ h.e,h.l,fun i r e=>by
  obtain⟨t,e1,e2⟩:=h.g i r e
  exact⟨t,e1,k _ _ e2⟩⟩
theorem RowsAt.same{H H':Hp}{a:Addr}{xs:List V}{rs:List (List Int)}(h:RowsAt H a xs rs)(s:Same H H'):RowsAt H' a xs rs:=h.keep fun _ _ e=>s _ _ e
theorem tX{S:Addr->Prop}{H:Hp}:∀{r:List Int} {xs:List V},IsThs S H xs (r.map .int)->xs=r.map V.int
 |[],_,.nil=>rfl
 |i::r,_,.cons h t=>by
  cases h;rw[tX (r:=r) t];rfl
theorem mz{S:Addr->Prop}{H:Hp}{v:V}{r:List Int}(h:IsTh S H v (bI r)):∃t,v=V.ref t/\H t=some (.tup (r.map V.int)):=by
 generalize hd:bI r=d at h
 cases h with
 |@tup a xs ds e t=>
  injection hd with hd;subst hd;rw[tX t]at e;exact⟨a,rfl,e⟩
 |_=>cases hd
theorem CJ{S:Addr->Prop}{H:Hp}{v:V}{rs:List (List Int)}(h:IsTh S H v (ik rs)):∃a xs,v=.ref a/\RowsAt H a xs rs:=by
 generalize hd:ik rs=d at h
 cases h with
 |@tup a xs ds e t=>
  injection hd with hd;subst hd;refine⟨a,xs,rfl,e,by rw[t.length,zA1],fun i r hr=>?_⟩;have hi:i<rs.length:=(zAa.mp hr).1;have hx:xs[i]?=some (xs[i]'(by rw[t.length,zA1];exact hi)):=zA0 _;obtain⟨d,h1,h2⟩:=t.get hx;rw[zAb,hr]at h1;injection h1 with h1;subst h1;obtain⟨t',e1,e2⟩:=mz h2;exact⟨t',by rw[hx,e1],e2⟩
 |_=>cases hd
theorem RowsAt.th{H:Hp}{a:Addr}:∀{rs:List (List Int)} {xs:List V},RowsAt H a xs rs->IsTh (fun _=>False) H (.ref a) (ik rs):=by
 intro rs xs h;refine .tup h.e ?_
 have gen:∀(rs:List (List Int)) (xs:List V),xs.length=rs.length->(∀(i:Nat) (r:List Int),rs[i]?=some r->∃t,xs[i]?=some (V.ref t)/\H t=some (.tup (r.map V.int)))->IsThs (fun _=>False) H xs (rs.map bI):=by
  intro rs
  induction rs with
  |nil=>
   intro xs hl _;have:xs=[]:=List.length_eq_zero_iff.mp hl;subst this;exact .nil
  |cons r rs ih=>
   intro xs hl hg
   cases xs with
   |nil=>simp at hl
   |cons x xs=>
    obtain⟨t,e1,e2⟩:=hg 0 r rfl;have e1:x=.ref t:=by simpa using e1
    subst e1;exact .cons (.tup e2 (IsThs.ints r)) (ih xs (by simpa using hl) fun i r' e=>hg (i+1) r' (by simpa using e))
 exact gen rs xs h.l h.g
def mD(L:List Int)(i:Int)(v:Int):List Int:=L.set i.toNat (L.getD i.toNat 0+v)
def hstep(n y:Int)(L:List Int)(s:List Int):List Int:=if fl s 0=n/\fl s 4<=y then mD (mD L (fl s 1) (-(fl s 3))) (fl s 2) (fl s 3)else L
def base0(p:List Int):List Int:=(List.replicate 8 0).set (fl p 0).toNat (fl p 4)
def cY(p:List Int)(ss:List (List Int))(n y:Int):List Int:=if fl p 2<=y/\y<=fl p 3 then ss.foldl (hstep n y) (base0 p)else List.replicate 8 0
def lg(ps:List (List Int))(s:List Int):List Int:=ps.getD (fl s 0).toNat []
def mF(ps:List (List Int))(s:List Int):Bool:=(decide (0<=fl s 0)&&decide (fl s 0<ps.length))&&((decide (0<=fl s 1)&&decide (fl s 1<8))&&((decide (0<=fl s 2)&&decide (fl s 2<8))&&((!decide (fl s 1=fl s 2))&&((decide (1<=fl s 3)&&decide (fl s 3<=99))&&(decide (fl (lg ps s) 2<=fl s 4)&&decide (fl s 4<=fl (lg ps s) 3))))))
def years(a b:Int):List Int:=(List.range (b+1-a).toNat).map fun(i:Nat)=>a+i
def bT(ps ss:List (List Int))(s:List Int):Bool:=mF ps s&&(years (fl s 4) (fl (lg ps s) 3)).all fun y=>decide (fl s 3<=(cY (lg ps s) ss (fl s 0) y).getD (fl s 1).toNat 0)
def un(ps ss:List (List Int)):Option Nat:=(List.range ss.length).find? fun i=>!bT ps (ss.take i) (ss.getD i [])
theorem jt(L:List Int)(i v:Int):(mD L i v).length=L.length:=by unfold mD;rw[List.length_set]
theorem xX(n y:Int)(L s:List Int):(hstep n y L s).length=L.length:=by
 unfold hstep;split
 .rw[jt,jt]
 .rfl
theorem iG(p:List Int)(ss:List (List Int))(n y:Int):(cY p ss n y).length=8:=by
 unfold cY;split
 .have:∀(ss:List (List Int)) (L:List Int),L.length=8->(ss.foldl (hstep n y) L).length=8:=by
   intro ss
   induction ss with
   |nil=>exact fun L h=>h
   |cons s ss ih=>exact fun L h=>ih _ (by rw[xX];exact h)
  exact this ss _ (by unfold base0;rw[List.length_set,List.length_replicate])
 .rw[List.length_replicate]
theorem oX{X:Cx}:Ga X (fun x y H Q=>∃p xs i v,x=.ref p/\y=.int i/\SqL X.K H p xs/\0<=i/\xs[i.toNat]?=some v/\Q v H):=by
 intro Zt s σ H x y v u Q I rx ry h;obtain⟨p,xs,i,z,rfl,rfl,hq,h0,he,q⟩:=h;cases rx;obtain⟨t,rfl⟩:=ry;obtain⟨Zr,r,pl,hz⟩:=I.list hq;obtain⟨w,ew,bP⟩:=r.get he;have hn:=jF;have hl:=r.length;have hi:=(zAa.mp he).1;exact PySem.wpAny_getItem_list pl.isList h0 Zz (by simpa using ew) ⟨z,H,I,bP,q⟩
theorem iH{p:List Int}(h:p.length=6):p=[fl p 0,fl p 1,fl p 2,fl p 3,fl p 4,fl p 5]:=by
 obtain⟨a,b,c,d,e,f,rfl⟩:=Fi h;rfl
theorem il{p:List Int}(h:p.length=5):p=[fl p 0,fl p 1,fl p 2,fl p 3,fl p 4]:=by
 obtain⟨a,b,c,d,e,rfl⟩:=GC h;rfl
theorem je(L:List Int)(i:Nat)(v:Int):(L.map V.int).set i (.int v)=(L.set i v).map V.int:=by rw[List.map_set]
theorem jd{L:List Int}{i:Nat}(h:i<L.length):(L.map V.int)[i]?=some (.int (L.getD i 0)):=by
 rw[zAb,zA0 h,zA7,zA0 h];rfl
theorem wB{n:Nat}{i:Int}(h0:0<=i)(h1:i<n):ixN n i=some i.toNat:=by
 unfold ixN;rw[zAx h0,zAx h1]
def okS(s:List Int):Prop:=s.length=5/\(0<=fl s 1/\fl s 1<8)/\(0<=fl s 2/\fl s 2<8)
inductive SpHeldI(vs:List V)(H:Hp)(Q:VK):Prop
 |mk:∀ap xp ps ag xs ss n y,(vs=[.ref ap,.ref ag,.int n,.int y])->(RowsAt H ap xp ps)->(RowsAt H ag xs ss)->(0<=n)->(n<ps.length)->(okP (ps.getD n.toNat []))->(ss.length<=12)->((∀s∈ss,okS s))->(∀l H',Same H H'->H' l=some (.lst ((cY (ps.getD n.toNat []) ss n y).map V.int))->Q (.ref l) H')->SpHeldI  vs H Q
def Ae:Sp:=fun vs H Q _=>SpHeldI  vs H Q
structure MS(mg:Str->Option Value):Prop where
 sales:∃t,mg "MOST_SALES"=some (.int 12 t)
theorem sc23s:FnScope ["promises","sales","number","year","holder","sort","first","last","sacks","price","held","promise","seller","buyer","sold","since"] ["promises","sales","number","year"] (az (top 38)):=fQS
theorem CK(F:Fun K "held_in" "held_in" (top 38) f fd)(N:Nums mg):FnOk P w K mg base CX0 1 f fd ["promises","sales","number","year"] Ae:=by
 refine F.ok sc23s (fun vs H Q E h=>?_) (fun af A outer s H vs Q E hr h=>?_)
 .obtain⟨ap,xp,ps,ag,xs,ss,n,y,rfl,_⟩:=h;rfl
 .obtain⟨ap,xp,ps,ag,xs,ss,n,y,rfl,rp,rs,n0,n1,okp,hl,ot,q⟩:=h;obtain⟨t1,e1⟩:=N.holders
  refine⟨_,aG (bY (pX aZ (pv 0) (pv 2)) (bW rfl (au (pgn 4 sc23s.nd) (au (pgn 5 sc23s.nd) (au (pgn 6 sc23s.nd)
    (au (pgn 7 sc23s.nd) (au (pgn 8 sc23s.nd) (au (pgn 9 sc23s.nd) bF))))))))
   (aG (pss 10 sc23s.nd (aX pM (eU (aq ak aj)) (bQ (v:=.int 8) rfl e1 ⟨_,rfl⟩)))
   (aG (bw (bB (eO bC bC (pv 6) (pv 3) (pv 7))) (aA (aO (pv 10))) aN)
   (aG (bY (pv 8) (pq (pv 10) (pv 4) set_list))
   (aG (fD zB9 rfl (lD (pv 1)) (bW rfl (au (pgn 11 sc23s.nd) (au (pgn 12 sc23s.nd) (au (pgn 13 sc23s.nd)
     (au (pgn 14 sc23s.nd) (au (pgn 15 sc23s.nd) bF))))))
    (aA (bw (PW.pt (yw (aU dq (pv 11) (pv 2) (aV _)) (vf (aU bC (pv 15) (pv 3) (aV _)))))
     (aG (vg (pv 10) (pv 12) oX (pv 14) Eb set_list) (aA (vg (pv 10) (pv 13) oX (pv 14) DY set_list))) aN)))
   (aA (aO (pv 10))))))),?_⟩
  obtain⟨p,hp⟩:∃p,ps[n.toNat]?=some p:=⟨_,zA0 Zz⟩
  have ep:ps.getD n.toNat []=p:=by rw[zA7,hp];rfl
  rw[ep]at okp q;obtain⟨t,ex,et⟩:=rp.g _ _ hp;have p6:=iH okp.1;obtain⟨l6,⟨a1,a2⟩,b,⟨c1,c2,c3⟩,⟨d1,d2⟩,ee⟩:=id okp
  have eR:atI xp n=some (.ref t):=by
   have:=iz ex;rw[show((n.toNat:Nat):Int)=n by lia]at this;exact this
  rw[p6]at et;refine aD ?_;refine⟨_,rfl,_,rfl,ap,xp,n,.ref t,rfl,rfl,SqT.of rp.e,eR,?_⟩;refine⟨t,_,rfl,SqT.of et,rfl,_,_,rfl,_,_,rfl,_,_,rfl,_,_,rfl,_,_,rfl,_,_,rfl,rfl,?_⟩;dsimp only;refine aD (bO ?_);refine⟨zL,fun l0 Js=>⟨l0,8,_,rfl,rfl,aa,by decide,by decide,zL,fun l1 ko=>?_⟩⟩;have s1:Same H (upd (upd H l0 (.lst [V.int 0])) l1 (.lst (List.replicate (8:Int).toNat [V.int 0]).flatten)):=(Same.upd Js).updR ko;have el1:upd (upd H l0 (.lst [V.int 0])) l1 (.lst (List.replicate (8:Int).toNat [V.int 0]).flatten) l1=some (.lst ((List.replicate 8 (0:Int)).map V.int)):=aa;have Jt:H l1=none:=(Same.upd Js).free ko;generalize upd (upd H l0 (.lst [V.int 0])) l1 (.lst (List.replicate (8:Int).toNat [V.int 0]).flatten)=H1 at s1 el1⊢;refine bc ?_;dsimp only;refine aD ?_;refine bH (p:=fun i j=>decide (i<=j)) (q:=fun i j=>decide (i<=j)) (i:=fl p 2) (j:=y) (k:=fl p 3) (cV rfl) (cV rfl) (cV rfl) _ ⟨_,rfl,?_⟩;by_cases ij:fl p 2<=y/\y<=fl p 3
  .rw[decide_eq_true ij.1,decide_eq_true ij.2];refine bf (bu ?_);dsimp only;refine aD ?_;refine⟨_,rfl,_,rfl,_,rfl,l1,_,fl p 0,(fl p 0).toNat,rfl,rfl,el1,wB a1 (by show fl p 0<8;exact a2),?_⟩;rw[je];dsimp only;refine aD ?_;have Lu:ag≠l1:=aB rs.e Jt;refine⟨_,rfl,ag,rfl,⟨xs,SqT.of (by rw[ao Lu];exact s1 _ _ rs.e)⟩,?_⟩
   have D6:∀{Hc:Hp} {o:HO},Same H Hc->Same H (upd Hc l1 o):=fun{Hc o} sm b u e=>by
    rw[ao (aB e Jt)];exact sm _ _ e
   refine Be (xs:=xs) (fun i σ Hc=>∃fF AJ AK AL AM,σ=[some (.ref ap),some (.ref ag),some (.int n),some (.int y),some (.int (fl p 0)),some (.int (fl p 1)),some (.int (fl p 2)),some (.int (fl p 3)),some (.int (fl p 4)),some (.int (fl p 5)),some (.ref l1),fF,AJ,AK,AL,AM]/\Same H Hc/\Hc l1=some (.lst (((ss.take i).foldl (hstep n y) (base0 p)).map V.int))) ?_ ?_ ?_ ?_
   .exact⟨none,none,none,none,none,rfl,D6 s1,aa⟩
   .rintro i σ Hc hi ⟨fF,AJ,AK,AL,AM,rfl,sm,el⟩;exact SqT.of (sm _ _ rs.e)
   .rintro i x σ Hc hx ⟨fF,AJ,AK,AL,AM,rfl,sm,el⟩
    have hi:i<ss.length:=by
     have:=(zAa.mp hx).1;rw[rs.l]at this;exact this
    obtain⟨tr,mB,kF⟩:=rs.g i ss[i] (zA0 hi)
    have:x=.ref tr:=by
     rw[hx]at mB;exact zAl mB
    subst this;obtain⟨o1,⟨o2,o3⟩,o4,o5⟩:=ot ss[i] (zAh hi);have s5:=il o1;have vv:ss.take (i+1)=ss.take i++[ss[i]]:=by rw[zAj,zA0 hi];rfl
    have vw:(ss.take (i+1)).foldl (hstep n y) (base0 p)=hstep n y ((ss.take i).foldl (hstep n y) (base0 p)) ss[i]:=by rw[vv,List.foldl_append];rfl
    rw[vw];generalize hL:(ss.take i).foldl (hstep n y) (base0 p)=L at el⊢
    have lL:L.length=8:=by
     have:=iG p (ss.take i) n y;unfold cY at this;rw[zAx ij,hL]at this;exact this
    generalize ss[i]=r at kF s5 o2 o3 o4 o5⊢;rw[s5]at kF;refine⟨tr,_,rfl,SqT.of (sm _ _ kF),rfl,_,_,rfl,_,_,rfl,_,_,rfl,_,_,rfl,_,_,rfl,rfl,?_⟩;refine⟨_,rfl,_,rfl,rfl,_,rfl,?_⟩;by_cases hn:fl r 0=n
    .rw[zAv (show V.int (fl r 0)=V.int n by rw[hn])];refine bh ?_;refine⟨_,rfl,_,rfl,_,_,rfl,rfl,_,rfl,?_⟩;by_cases hy:fl r 4<=y
     .rw[zAv hy];refine bh ?_;have e1:hstep n y L r=mD (mD L (fl r 1) (-(fl r 3))) (fl r 2) (fl r 3):=zAx ⟨hn,hy⟩;rw[e1];refine aD ?_;refine⟨_,rfl,_,rfl,l1,_,fl r 1,_,rfl,rfl,SqL.of el,o2,jd Zz,_,rfl,_,_,rfl,rfl,l1,_,fl r 1,(fl r 1).toNat,rfl,rfl,el,wB o2 (by rw[zA1];lia),?_⟩;rw[je]
      have e2:L.set (fl r 1).toNat (L.getD (fl r 1).toNat 0-fl r 3)=mD L (fl r 1) (-(fl r 3)):=by
       unfold mD;rw[Int.sub_eq_add_neg]
      rw[e2];generalize Lv:mD L (fl r 1) (-(fl r 3))=L1;have O4:L1.length=8:=by rw[<-Lv,jt];exact lL
      refine⟨_,rfl,_,rfl,l1,_,fl r 2,_,rfl,rfl,SqL.of aa,o4,jd Zz,_,rfl,_,_,rfl,rfl,l1,_,fl r 2,(fl r 2).toNat,rfl,rfl,aa,wB o4 (by rw[zA1];lia),?_⟩;rw[je];exact⟨_,_,_,_,_,rfl,D6 (D6 sm),aa⟩
     .rw[zB4 hy];refine bf ?_;have e1:hstep n y L r=L:=zAw fun z=>hy z.2;rw[e1];exact⟨_,_,_,_,_,rfl,sm,el⟩
    .rw[zB4 (fun z:V.int (fl r 0)=V.int n=>hn (by injection z))];refine bf (bf ?_);have e1:hstep n y L r=L:=zAw fun z=>hn z.1;rw[e1];exact⟨_,_,_,_,_,rfl,sm,el⟩
   .rintro σ Hc ⟨fF,AJ,AK,AL,AM,rfl,sm,el⟩;rw[rs.l,zAm]at el;refine⟨_,rfl,q _ _ sm ?_⟩;unfold cY;rw[zAx ij];exact el
  .have hb:(decide (fl p 2<=y)&&decide (y<=fl p 3))=false:=by
    cases e:(decide (fl p 2<=y)&&decide (y<=fl p 3))with
    |false=>rfl
    |true=>
     rw[zAc,Zq,Zq]at e;exact absurd e ij
   rw[hb];refine bh ⟨_,rfl,q _ _ s1 ?_⟩;unfold cY;rw[zAw ij];exact el1
theorem tY{te:TE}{lo:Int}{n:Nat}{gE:St}{j:Nat}{H0:Hp}{Fin:List V->Hp->Prop}(Pv:List V->Hp->Prop)(h0:Pv [] H0)(hz:n<sizeLine)
  (step:∀i ys H Q,i<n->ys.length=i->Pv ys H->(∀y H',Pv (ys++[y]) H'->Q y H')->te (gE.set j (some (.int (lo+i)))) H Q)
  (fin:∀ys H,ys.length=n->Pv ys H->Fin ys H):rJ (Itr lo n) (eV j) yO te Fin gE H0:=by
 refine⟨fun i m ys σ H=>m=n-i/\i<=n/\ys.length=i/\(∀o,σ.set j o=gE.set j o)/\Pv ys H,⟨_,rfl,zAp _,rfl,fun _=>rfl,h0⟩,?_⟩;rintro i m ys σ H ⟨rfl,hi,hy,fy,p⟩;refine⟨Zz,?_⟩;by_cases av:i<n
 .refine .inr ⟨av,fun x H' y=>?_⟩;obtain⟨e,e2⟩:=y;subst e;subst e2;show te (σ.set j (some (.int (lo+i)))) H' _;rw[fy]
  exact step i ys H' _ av hy p fun y H2 p2=>⟨n-(i+1),Zz,rfl,av,by rw[zA2,hy];rfl,fun o=>by rw[List.set_set],p2⟩
 .have e:i=n:=Zz
  subst e;exact .inl ⟨zA3 _,fin ys H hy p⟩
theorem GJ{σ:St}{H:Hp}{ta tb:TE}{i j:Int}(a:Ev σ H ta (.int i))(b:Ev σ H tb (.int j)):Ev σ H (tOp rNe ta tb) (.bl (!decide (i=j))):=fun Q q=>a _ (b _ ⟨rfl,by
 have ed:decide (V.int i=V.int j)=decide (i=j):=decide_eq_decide.mpr ⟨fun z=>by injection z,fun z=>by rw[z]⟩;rw[ed]
 exact q⟩)
theorem jT(a b:Int):(years a b).length=(b+1-a).toNat:=by unfold years;rw[zA1,List.length_range]
theorem jU{a b:Int}{i:Nat}(h:i<(b+1-a).toNat):(years a b)[i]?=some (a+i):=by
 unfold years;rw[zAb,List.getElem?_range h];rfl
theorem oY{α β:Type}{l:List α}{f:α->β}{ys:List β}{x:α}(ey:ys=(l.take ys.length).map f)(hx:l[ys.length]?=some x):ys++[f x]=(l.take (ys++[f x]).length).map f:=by
 rw[zA2,List.length_singleton,zAj,hx,zA4,<-ey];rfl
inductive SpBetwI(vs:List V)(H:Hp)(Q:VK):Prop
 |mk:∀ap xp ps t s,(vs=[.ref ap,.ref t])->(RowsAt H ap xp ps)->((∀r∈ps,okP r))->(H t=some (.tup (s.map V.int)))->(s.length=5)->(Q (.bl (mF ps s)) H)->SpBetwI  vs H Q
def Af:Sp:=fun vs H Q _=>SpBetwI  vs H Q
inductive SpHoldsI(vs:List V)(H:Hp)(Q:VK):Prop
 |mk:∀ap xp ps ag xs ss t s,(vs=[.ref ap,.ref ag,.ref t])->(RowsAt H ap xp ps)->((∀r∈ps,okP r))->(RowsAt H ag xs ss)->(ss.length<=12)->((∀s∈ss,okS s))->(H t=some (.tup (s.map V.int)))->(s.length=5)->(∀H',Same H H'->Q (.bl (bT ps ss s)) H')->SpHoldsI  vs H Q
def qD:Sp:=fun vs H Q _=>SpHoldsI  vs H Q
def unV:Option Nat->V
 |none=>.non
 |some i=>.int i
theorem ju{ps:List (List Int)}{n:Int}(h:∀r∈ps,okP r)(h0:0<=n)(h1:n<ps.length):∃p,ps[n.toNat]?=some p/\ps.getD n.toNat []=p/\okP p:=by
 have hn:n.toNat<ps.length:=Zz
 refine⟨ps[n.toNat],zA0 hn,?_,h _ (zAh hn)⟩;rw[zA7,zA0 hn];rfl
theorem gC{H:Hp}{a:Addr}{xs:List V}{rs:List (List Int)}{n:Int}{r:List Int}(h:RowsAt H a xs rs)(h0:0<=n)(e:rs[n.toNat]?=some r):∃t,atI xs n=some (.ref t)/\H t=some (.tup (r.map V.int)):=by
 obtain⟨t,e1,e2⟩:=h.g _ _ e;refine⟨t,?_,e2⟩;have:=iz e1;rw[show((n.toNat:Nat):Int)=n by lia]at this;exact this
theorem sc24s:FnScope ["promises","sale","number","seller","buyer","sacks","year","holder","sort","first","last","due","price"] ["promises","sale"] (az (top 39)):=fQS
theorem CN(F:Fun K "is_sale_between" "is_sale_between" (top 39) f fd)(T:Mg mg)(N:Nums mg):FnOk P w K mg base CX0 1 f fd ["promises","sale"] Af:=by
 refine F.ok sc24s (fun vs H Q E h=>?_) (fun af A outer s H vs Q E hr h=>?_)
 .obtain⟨ap,xp,ps,t,r,rfl,_⟩:=h;rfl
 .obtain⟨ap,xp,ps,t,r,rfl,rp,okp,et,h5,q⟩:=h;obtain⟨t1,e1⟩:=N.holders;obtain⟨t4,e4⟩:=N.sacks
  refine⟨_,aG (bY (pv 1) (bW rfl (au (pgn 2 sc24s.nd) (au (pgn 3 sc24s.nd) (au (pgn 4 sc24s.nd) (au (pgn 5 sc24s.nd) (au (pgn 6 sc24s.nd) bF)))))))
   (aG (bw (bB (eO bC lG ak (pv 2) (aH aP rfl T.len PySem.boot_len (aq (pv 0) aj)))) (aA (aO gJ)) aN)
   (aG (bY (pX aZ (pv 0) (pv 2)) (bW rfl (au (pgn 7 sc24s.nd) (au (pgn 8 sc24s.nd) (au (pgn 9 sc24s.nd)
    (au (pgn 10 sc24s.nd) (au (pgn 11 sc24s.nd) (au (pgn 12 sc24s.nd) bF))))))))
   (aA (aO (cJ (cg bC lG ak (pv 3) (bQ (v:=.int 8) rfl e1 ⟨_,rfl⟩)) (cJ (cg bC lG ak (pv 4) (bQ (v:=.int 8) rfl e1 ⟨_,rfl⟩)) (cJ (fY rm (pv 3) (pv 4) (aV _))
    (cJ (cg bC bC ak (pv 5) (bQ (v:=.int 99) rfl e4 ⟨_,rfl⟩)) (fB (cg bC bC (pv 9) (pv 6) (pv 10))))))))))),?_⟩
  rw[il h5]at et;refine aD ?_;refine⟨_,rfl,t,_,rfl,SqT.of et,rfl,_,_,rfl,_,_,rfl,_,_,rfl,_,_,rfl,_,_,rfl,rfl,?_⟩;dsimp only;refine aD ?_;refine bH (p:=fun i j=>decide (i<=j)) (q:=fun i j=>decide (i<j)) (i:=0) (j:=fl r 0) (k:=(xp.length:Int)) dG (cV rfl) (fun Q h=>⟨_,rfl,ap,xp,rfl,.inr (SqT.of rp.e),h⟩) _ ⟨_,rfl,?_⟩;have fin:=q;unfold mF at fin;rw[rp.l]
  cases e:(decide (0<=fl r 0)&&decide (fl r 0<ps.length))with
  |false=>
   rw[e]at fin;exact bh fin
  |true=>
   rw[e]at fin;rw[zAc,Zq,Zq]at e;obtain⟨p,hp,ep,op⟩:=ju okp e.1 e.2;obtain⟨tp,eR,gL⟩:=gC rp e.1 hp;rw[iH op.1]at gL;refine bf (bu ?_);dsimp only;refine aD ?_;refine⟨_,rfl,_,rfl,ap,xp,_,.ref tp,rfl,rfl,SqT.of rp.e,eR,?_⟩;refine⟨tp,_,rfl,SqT.of gL,rfl,_,_,rfl,_,_,rfl,_,_,rfl,_,_,rfl,_,_,rfl,_,_,rfl,rfl,?_⟩;have ow:lg ps r=p:=ep;rw[ow]at fin;exact gj (bH dG (cV rfl) dG) (fun _=>gj (bH dG (cV rfl) dG) fun _=>gj (GJ (cV rfl) (cV rfl)) fun _=>gj (bH dG (cV rfl) dG) fun _=>bH (cV rfl) (cV rfl) (cV rfl)) _ fin
theorem sc25s:FnScope ["promises","ahead","sale","number","seller","buyer","sacks","year","last"] ["promises","ahead","sale"] (az (top 40)):=fQS
theorem Ie:(["at","promises","ahead","number","seller","sacks"]:List Str).Nodup:=by decide +kernel
theorem Ag(F:Fun K "sale_holds" "sale_holds" (top 40) f fd)(T:Mg mg)(Tr:mg "range"=none)(c1:Cal P w K mg base 1 "is_sale_between" ["promises","sale"] Af)(c2:Cal P w K mg base 1 "held_in" ["promises","sales","number","year"] Ae):
  FnOk P w K mg base CX0 2 f fd ["promises","ahead","sale"] qD:=by
 refine F.ok sc25s (fun vs H Q E h=>?_) (fun af A outer s H vs Q E hr h=>?_)
 .obtain⟨ap,xp,ps,ag,xs,ss,t,r,rfl,_⟩:=h;rfl
 .obtain⟨ap,xp,ps,ag,xs,ss,t,r,rfl,rp,okp,rs,hl,ot,et,h5,q⟩:=h
  refine⟨_,aG (bw (bB (bD (aK c1 hr (aq (pv 0) (aq (pv 2) aj))))) (aA (aO gJ)) aN)
   (aG (bY (pv 2) (bW rfl (au (d7 (i:=3) sc25s.nd rfl (Or.inr rfl)) (au (d7 (i:=4) sc25s.nd rfl (Or.inr rfl)) (au (pgn 5 sc25s.nd) (au (d7 (i:=6) sc25s.nd rfl (Or.inr rfl)) (au (pgn 7 sc25s.nd) bF)))))))
   (aG (pss 8 sc25s.nd (pX aZ (pX aZ (pv 0) (pv 3)) ak))
   (aA (aO (aH (fQ rfl) rfl T.all boot_all (aq (f9 ["at","promises","ahead","number","seller","sacks"] [none,some 0,some 1,some 3,some 4,some 6] rfl (iw rfl Tr (aq (pv 7) (aq (aX dg (pv 8) ak) aj)))
    (fun C fp Zt s₂ H₂=>⟨pgn 0 Ie,eZ,fY rA (pX (tR (K:=K) rfl) (aK c2 hr (aq (pv 1) (aq (pv 2) (aq (pv 3) (aq (pv 0) aj))))) (pv 4)) (pv 5) (aV _)⟩)
    (fun C=>cI (cI (cI (cI (cI trivial))))) ⟨rfl,rfl,rfl,rfl⟩) aj)))))),?_⟩
  have fin:=q;unfold bT at fin;refine aD ?_;refine⟨_,rfl,_,rfl,ap,xp,ps,t,r,rfl,rp,okp,et,h5,_,rfl,?_⟩
  cases e:mF ps r with
  |false=>
   rw[e]at fin;exact bh (fin _ (Same.refl _))
  |true=>
   rw[e]at fin;refine bf (bu ?_);dsimp only;refine aD ?_;unfold mF at e;simp only[Bool.and_eq_true,Zq]at e;obtain⟨⟨n0,n1⟩,⟨b0,b1⟩,_,_,⟨k0,k1⟩,y0,y1⟩:=e;obtain⟨p,hp,ep,op⟩:=ju okp n0 n1;have ow:lg ps r=p:=ep;rw[ow]at fin y0 y1;obtain⟨tp,eR,gL⟩:=gC rp n0 hp;rw[il h5]at et;rw[iH op.1]at gL;obtain⟨_,_,_,⟨g1,g2,g3⟩,_⟩:=id op;refine⟨_,rfl,t,_,rfl,SqT.of et,rfl,_,_,rfl,_,_,rfl,_,_,rfl,_,_,rfl,_,_,rfl,rfl,?_⟩;dsimp only;refine aD (bO ?_);refine⟨_,rfl,_,rfl,ap,xp,_,.ref tp,rfl,rfl,SqT.of rp.e,eR,tp,_,3,.int (fl p 3),rfl,rfl,SqT.of gL,rfl,?_⟩;refine bc ?_;dsimp only;refine⟨_,rfl,_,rfl,_,_,rfl,rfl,fl r 4,fl p 3+1,rfl,⟨Zz,Zz,Zz,Zz⟩,?_⟩;refine tY (fun ys Hc=>Same H Hc/\ys=((years (fl r 4) (fl p 3)).take ys.length).map fun y=>V.bl (decide (fl r 3<=(cY p ss (fl r 0) y).getD (fl r 1).toNat 0))) ⟨Same.refl _,rfl⟩ Zu ?_ ?_
   .rintro i ys Hc Qc hi hy ⟨sc,ey⟩ qc;refine⟨_,rfl,_,rfl,_,rfl,_,rfl,ap,xp,ps,ag,xs,ss,fl r 0,fl r 4+i,rfl,rp.same sc,rs.same sc,n0,n1,by rw[ep];exact op,hl,ot,fun l H' s' el=>?_⟩;rw[ep]at el;refine⟨_,rfl,l,_,fl r 1,.int ((cY p ss (fl r 0) (fl r 4+i)).getD (fl r 1).toNat 0),rfl,rfl,SqL.of el,?_,_,rfl,_,_,rfl,rfl,qc _ _ ⟨sc.trans s',?_⟩⟩
    .unfold atI;rw[wB b0 (by rw[zA1,iG];lia)];exact jd (by rw[iG];lia)
    .have hx:(years (fl r 4) (fl p 3))[ys.length]?=some (fl r 4+(i:Int)):=by
      rw[hy];exact jU hi
     exact oY ey hx
   .rintro ys Hc hy ⟨sc,ey⟩ D hD;rw[List.take_of_length_le (by rw[jT,hy];exact zA3 _)]at ey;refine⟨D,(years (fl r 4) (fl p 3)).map fun y=>decide (fl r 3<=(cY p ss (fl r 0) y).getD (fl r 1).toNat 0),rfl,SqL.of (by rw[zAr];rw[ey];exact aa),?_⟩;rw[List.all_map];exact fin _ (sc.updR hD)
theorem wC{ps ss:List (List Int)}{i:Nat}(h:∀j,j<i->bT ps (ss.take j) (ss.getD j [])=true)(hi:i<ss.length)(hn:bT ps (ss.take i) (ss.getD i [])=false):un ps ss=some i:=by
 unfold un;rw[List.find?_range_eq_some];exact⟨by rw[hn];rfl,List.mem_range.mpr hi,fun j hj=>by rw[h j hj];rfl⟩
theorem qF{ps ss:List (List Int)}(h:∀j,j<ss.length->bT ps (ss.take j) (ss.getD j [])=true):un ps ss=none:=by
 unfold un;rw[List.find?_range_eq_none]
 exact fun j hj=>by rw[h j hj];rfl
theorem tZ{ps ss:List (List Int)}{s:List Int}(h5:s.length=5)(h:bT ps ss s=true):okS s:=by
 unfold bT mF at h;simp only[Bool.and_eq_true,Zq]at h;exact⟨h5,h.1.2.1,h.1.2.2.1⟩
theorem getD_get{ss:List (List Int)}{i:Nat}(h:i<ss.length):ss.getD i []=ss[i]:=by
 rw[zA7,zA0 h];rfl
abbrev ky(n y:Int):List Key:=[.inl n,.inl y]
def KsOk(kv:List (Key×V)):Prop:=∀p∈kv,∃h:Int,p.1=.inl h/\0<=h/\h<8
theorem KsOk.put{kv:List (Key×V)}(g:KsOk kv){h:Int}(h0:0<=h)(h8:h<8)(v:V):KsOk (putK kv (.inl h) v):=by
 intro p hp;unfold putK at hp;split at hp
 .obtain⟨q,hq,rfl⟩:=zA5.mp hp;split
  .exact g q hq
  .exact g q hq
 .rcases zA6.mp hp with z|z
  .exact g p z
  .rw[List.mem_singleton.mp z];exact⟨h,rfl,h0,h8⟩
structure Dts(fo:Addr)(H0 H:Hp)(dm:Int->Int->Prop)(f:Int->Int->Int->Int)(b:Int->Int->Nat)(Zs:List (List Key×V)):Prop where
 sm:Same H0 H
 nf:H0 fo=none
 e:H fo=some (.dT Zs)
 g:∀n y,dm n y->∃d kv,cR Zs (ky n y)=some (.ref d)/\H d=some (.dK kv)/\(kv.length<=b n y/\KsOk kv)/\∀h,0<=h->h<8->(cR kv (.inl h)).getD (.int 0)=.int (f n y h)
 no:∀n y,¬dm n y->cR Zs (ky n y)=none
 i:∀n y n' y' d,cR Zs (ky n y)=some (.ref d)->cR Zs (ky n' y')=some (.ref d)->n=n'/\y=y'
 fr:∀n y d,cR Zs (ky n y)=some (.ref d)->H0 d=none/\d≠fo/\∃o,H d=some o
theorem Dts.new{fo p:Addr}{o:HO}{H0 H:Hp}{dm:Int->Int->Prop}{f:Int->Int->Int->Int}{b:Int->Int->Nat}{Zs:List (List Key×V)}(g:Dts fo H0 H dm f b Zs)(hp:H p=none):Dts fo H0 (upd H p o) dm f b Zs:=
 ⟨g.sm.updR hp,g.nf,Same.upd hp _ _ g.e,fun n y h=>by
  obtain⟨d,kv,e1,e2,r⟩:=g.g n y h
  exact⟨d,kv,e1,Same.upd hp _ _ e2,r⟩,g.no,g.i,fun n y d h=>by
  obtain⟨e1,e2,o',e3⟩:=g.fr n y d h
  exact⟨e1,e2,o',Same.upd hp _ _ e3⟩⟩
theorem Dts.same{fo:Addr}{H0 H H':Hp}{dm:Int->Int->Prop}{f:Int->Int->Int->Int}{b:Int->Int->Nat}{Zs:List (List Key×V)}(g:Dts fo H0 H dm f b Zs)(s:Same H H'):Dts fo H0 H' dm f b Zs:=
 ⟨g.sm.trans s,g.nf,s _ _ g.e,fun n y h=>by
  obtain⟨d,kv,e1,e2,r⟩:=g.g n y h
  exact⟨d,kv,e1,s _ _ e2,r⟩,g.no,g.i,fun n y d h=>by
  obtain⟨e1,e2,o',e3⟩:=g.fr n y d h
  exact⟨e1,e2,o',s _ _ e3⟩⟩
theorem uZ{n y n' y':Int}(h:ky n y=ky n' y'):n=n'/\y=y':=by
 injection h with h1 h2;injection h2 with h2 _;injection h1 with h1;injection h2 with h2;exact⟨h1,h2⟩
theorem Dts.wr{fo d:Addr}{H0 H:Hp}{dm:Int->Int->Prop}{f f':Int->Int->Int->Int}{b b':Int->Int->Nat}{Zs:List (List Key×V)}{rj:List (Key×V)}{N Y:Int}(g:Dts fo H0 H dm f b Zs)(hv:cR Zs (ky N Y)=some (.ref d))
  (h1:(rj.length<=b' N Y/\KsOk rj)/\∀h,0<=h->h<8->(cR rj (.inl h)).getD (.int 0)=.int (f' N Y h)) (h2:∀n y,dm n y->¬(n=N/\y=Y)->b n y<=b' n y/\∀h,0<=h->h<8->f' n y h=f n y h):Dts fo H0 (upd H d (.dK rj)) dm f' b' Zs:=by
 obtain⟨w1,w2,_⟩:=g.fr _ _ _ hv;refine⟨fun c o e=>by rw[ao (aB e w1)];exact g.sm _ _ e,g.nf,by rw[ao w2.symm];exact g.e,fun n y hd=>?_,g.no,g.i,fun n y d' hd=>?_⟩
 .by_cases hk:n=N/\y=Y
  .obtain⟨rfl,rfl⟩:=hk;exact⟨d,rj,hv,aa,h1⟩
  .obtain⟨d',kv,q1,q2,q3,q4⟩:=g.g n y hd;have nd:d'≠d:=fun z=>hk (g.i _ _ _ _ _ (z▸q1) hv);obtain⟨k1,k2⟩:=h2 n y hd hk;exact⟨d',kv,q1,by rw[ao nd];exact q2,⟨Nat.le_trans q3.1 k1,q3.2⟩,fun h z1 z2=>by rw[k2 h z1 z2];exact q4 h z1 z2⟩
 .obtain⟨w3,w4,o,w5⟩:=g.fr n y d' hd;by_cases hV:d'=d
  .exact⟨w3,w4,.dK rj,by rw[hV];exact aa⟩
  .exact⟨w3,w4,o,by rw[ao hV];exact w5⟩
theorem Dts.cast{fo:Addr}{H0 H:Hp}{dm:Int->Int->Prop}{f f':Int->Int->Int->Int}{b b':Int->Int->Nat}{Zs:List (List Key×V)}(g:Dts fo H0 H dm f b Zs)(h2:∀n y,dm n y->b n y<=b' n y/\∀h,0<=h->h<8->f' n y h=f n y h):Dts fo H0 H dm f' b' Zs:=
 ⟨g.sm,g.nf,g.e,fun n y hd=>by
  obtain⟨d',kv,q1,q2,q3,q4⟩:=g.g n y hd;obtain⟨k1,k2⟩:=h2 n y hd
  exact⟨d',kv,q1,q2,⟨Nat.le_trans q3.1 k1,q3.2⟩,fun h z1 z2=>by rw[k2 h z1 z2];exact q4 h z1 z2⟩,g.no,g.i,g.fr⟩
def dom(ps:List (List Int))(n y:Int):Prop:=0<=n/\n<ps.length/\fl (ps.getD n.toNat []) 2<=y/\y<=fl (ps.getD n.toNat []) 3
def f0(ps:List (List Int))(n y h:Int):Int:=if h=fl (ps.getD n.toNat []) 0 then fl (ps.getD n.toNat []) 4 else 0
inductive SpBegunI(vs:List V)(H:Hp)(Q:VK):Prop
 |mk:∀ap xp ps,(vs=[.ref ap])->(RowsAt H ap xp ps)->(ps.length<=10)->((∀r∈ps,okP r))->(∀fo H' Zs,Dts fo H H' (dom ps) (f0 ps) (fun _ _=>1) Zs->Q (.ref fo) H')->SpBegunI  vs H Q
def wD:Sp:=fun vs H Q _=>SpBegunI  vs H Q
theorem sc34s:FnScope ["_law_promises","_law_found","_law_number","_law_holder","_law_sort","_law_first","_law_last","_law_sacks","_law_price","_law_year"] ["_law_promises"] (az (top 66)):=fQS
theorem Ah(F:Fun K "_law_begun" "_law_begun" (top 66) f fd)(Te:mg "enumerate"=none)(Tr:mg "range"=none):FnOk P w K mg base CX0 1 f fd ["_law_promises"] wD:=by
 refine F.ok sc34s (fun vs H Q E h=>?_) (fun af A outer s H vs Q E hr h=>?_)
 .obtain⟨ap,xp,ps,rfl,_⟩:=h;rfl
 .obtain⟨ap,xp,ps,rfl,rp,lp,okp,q⟩:=h
  refine⟨_,aG (pss 1 sc34s.nd yR)
   (aG (fD zB9 rfl (ZT.pi_enum true rfl Te (aq (pv 0) aj)) (bW rfl (au (pgn 2 sc34s.nd) (au (bW rfl (au (pgn 3 sc34s.nd) (au (pgn 4 sc34s.nd) (au (pgn 5 sc34s.nd)
     (au (pgn 6 sc34s.nd) (au (pgn 7 sc34s.nd) (au (pgn 8 sc34s.nd) bF))))))) bF)))
    (aA (fD zB9 rfl (iw rfl Tr (aq (pv 5) (aq (aX dg (pv 6) ak) aj))) (pgn 9 sc34s.nd)
     (aA (q9 (kj hr) (pv 1) (bj (aq (pv 2) (aq (pv 9) aj))) (Bp (rZ (pv 3) (pv 7) vI) rfl rfl Zy Zx) rfl)))))
   (aA (aO (pv 1)))),?_⟩
  refine aD (bO ?_);refine fun fo Ju=>?_;refine bc ?_;dsimp only;refine aD ?_
  have d0:Dts fo H (upd H fo (.dT [])) (fun _ _=>False) (f0 ps) (fun _ _=>1) []:=⟨Same.upd Ju,Ju,aa,fun _ _ z=>z.elim,fun _ _ _=>rfl,fun _ _ _ _ _ z=>(by cases z),fun _ _ _ z=>(by cases z)⟩
  generalize upd H fo (.dT [])=H1 at d0⊢;refine⟨_,rfl,ap,xp,rfl,SqT.of (d0.sm _ _ rp.e),?_⟩;refine ZT.for_enum true (xs:=xp) (fun i σ Hc=>∃x2 x3 x4 x5 x6 x7 x8 x9 Zs,σ=[some (.ref ap),some (.ref fo),x2,x3,x4,x5,x6,x7,x8,x9]/\Dts fo H Hc (fun n y=>dom ps n y/\n<i) (f0 ps) (fun _ _=>1) Zs/\Zs.length<=20*i) ?_ ?_ ?_ ?_
  .exact⟨none,none,none,none,none,none,none,none,[],rfl,⟨d0.sm,d0.nf,d0.e,fun n y z=>by
    have:=z.1.1;have:=z.2
    lia,fun n y _=>d0.no n y id,d0.i,d0.fr⟩,zA3 _⟩
  .rintro i σ Hc hi ⟨x2,x3,x4,x5,x6,x7,x8,x9,Zs,rfl,dt,lk⟩;exact SqT.of (dt.sm _ _ rp.e)
  .rintro i x σ Hc T0 hx ⟨x2,x3,x4,x5,x6,x7,x8,x9,Zs,rfl,dt,lk⟩ nT
   have hi:i<ps.length:=by
    have:=(zAa.mp hx).1;rw[rp.l]at this;exact this
   obtain⟨tr,mB,kF⟩:=rp.g i ps[i] (zA0 hi)
   have:x=.ref tr:=by
    rw[hx]at mB;exact zAl mB
   subst this;have op:=okp ps[i] (zAh hi)
   have ep:ps.getD ((i:Int)).toNat []=ps[i]:=by
    rw[zAi];exact getD_get hi
   have dT:=dt.new (o:=.tup [V.int i,V.ref tr]) nT;generalize O6:ps[i]=p at kF op ep;have Jv:=dT.sm _ _ kF;rw[iH op.1]at Jv;obtain⟨_,⟨a1,a2⟩,_,⟨c1,c2,c3⟩,⟨e1,e2⟩,_⟩:=op;refine⟨T0,_,rfl,SqT.of aa,rfl,_,_,rfl,_,_,rfl,?_⟩;refine⟨tr,_,rfl,SqT.of Jv,rfl,_,_,rfl,_,_,rfl,_,_,rfl,_,_,rfl,_,_,rfl,_,_,rfl,rfl,rfl,?_⟩;refine⟨_,rfl,_,rfl,_,_,rfl,rfl,fl p 2,fl p 3+1,rfl,⟨Zz,Zz,Zz,Zz⟩,?_⟩;generalize upd Hc T0 (.tup [V.int i,V.ref tr])=H2 at dT⊢;refine fP (lo:=fl p 2) (n:=(fl p 3+1-fl p 2).toNat) (fun j σ Hj=>∃x9 Zs,σ=[some (.ref ap),some (.ref fo),some (.int i),some (.int (fl p 0)),some (.int (fl p 1)),some (.int (fl p 2)),some (.int (fl p 3)),some (.int (fl p 4)),some (.int (fl p 5)),x9]/\Dts fo H Hj (fun n y=>dom ps n y/\(n<i\/(n=i/\y<fl p 2+j))) (f0 ps) (fun _ _=>1) Zs/\Zs.length<=20*i+j) ?_ ?_ ?_
   .exact⟨x9,Zs,rfl,⟨dT.sm,dT.nf,dT.e,fun n y z=>dT.g n y ⟨z.1,by
     rcases z.2 with z2|⟨z2,z3⟩
     .exact z2
     .obtain⟨_,_,w1,_⟩:=z.1;rw[z2,ep]at w1
      lia⟩,fun n y z=>dT.no n y fun z'=>z ⟨z'.1,.inl z'.2⟩,dT.i,dT.fr⟩,lk⟩
   .rintro j σ Hj hj ⟨x9,Zs,rfl,dj,lj⟩;refine bc ?_;refine fun p1 ja=>?_;refine⟨_,rfl,_,rfl,aa,[(.inl (fl p 0),.int (fl p 4))],rfl,(by show 1<=15;decide),?_⟩
    have hD:∀b o,Hj b=some o->upd (upd Hj p1 (.dK [])) p1 (.dK (fH [] [(.inl (fl p 0),.int (fl p 4))])) b=some o:=fun b o e=>by
     rw[ao (aB e ja),ao (aB e ja)];exact e
    have qv:upd (upd Hj p1 (.dK [])) p1 (.dK (fH [] [(.inl (fl p 0),.int (fl p 4))])) p1=some (.dK [(.inl (fl p 0),.int (fl p 4))]):=aa;generalize upd (upd Hj p1 (.dK [])) p1 (.dK (fH [] [(.inl (fl p 0),.int (fl p 4))]))=HD at hD qv⊢
    have Jw:p1≠fo:=fun z=>by
     rw[z,dj.e]at ja;cases ja
    refine⟨_,rfl,_,rfl,_,rfl,zL,fun t ht=>⟨fo,_,rfl,DPut.t (k:=ky i (fl p 2+j)) (Same.upd ht _ _ (hD _ _ dj.e)) aa Zu,?_⟩⟩
    have kp:∀b o,Hj b=some o->b≠fo->upd (upd HD t (.tup [V.int i,V.int (fl p 2+j)])) fo (.dT (putK Zs (ky i (fl p 2+j)) (.ref p1))) b=some o:=fun b o e ne=>by
     rw[ao ne];exact Same.upd ht _ _ (hD _ _ e)
    have vx:upd (upd HD t (.tup [V.int i,V.int (fl p 2+j)])) fo (.dT (putK Zs (ky i (fl p 2+j)) (.ref p1))) p1=some (.dK [(.inl (fl p 0),.int (fl p 4))]):=by
     rw[ao Jw];exact Same.upd ht _ _ qv
    have Lw:H p1=none:=dj.sm.free ja;refine⟨_,_,rfl,⟨fun b o e=>kp b o (dj.sm _ _ e) (aB e dj.nf),dj.nf,aa,fun n y z=>?_,fun n y z=>?_,fun n y n' y' d z z'=>?_,fun n y d z=>?_⟩,?_⟩
    .by_cases hk:ky n y=ky i (fl p 2+j)
     .obtain⟨rfl,rfl⟩:=uZ hk;refine⟨p1,_,by rw[dR,zAx rfl],vx,⟨zA3 _,fun p hp=>⟨fl _ 0,by rw[List.mem_singleton.mp hp],a1,Zz⟩⟩,fun h h0 h8=>?_⟩;unfold f0;rw[ep];by_cases hh:h=fl p 0
      .rw[zAx hh,cj (show(Sum.inl (fl p 0):Key)=.inl h by rw[hh])];rfl
      .rw[zAw hh,cu (fun z=>hh (by injection z with z;exact z.symm))];rfl
     .have hd:dom ps n y/\(n<i\/(n=i/\y<fl p 2+j)):=⟨z.1,by
       rcases z.2 with z2|⟨z2,z3⟩
       .exact .inl z2
       .refine .inr ⟨z2,?_⟩;have:y≠fl p 2+j:=fun w=>hk (by rw[z2,w])
        lia⟩
      obtain⟨d,kv,q1,q2,q3⟩:=dj.g n y hd;exact⟨d,kv,by rw[dR,zAw hk];exact q1,kp _ _ q2 (dj.fr n y d q1).2.1,q3⟩
    .have hk:¬ky n y=ky i (fl p 2+j):=fun w=>by
      obtain⟨rfl,rfl⟩:=uZ w;exact z ⟨⟨Zz,Zz,by rw[ep];lia,by rw[ep];lia⟩,.inr ⟨rfl,Zz⟩⟩
     rw[dR,zAw hk];exact dj.no n y fun z'=>z ⟨z'.1,z'.2.elim .inl fun w=>.inr ⟨w.1,Zz⟩⟩
    .rw[dR]at z z'
     have old:∀n y,cR Zs (ky n y)=some (.ref p1)->False:=fun n y w=>by
      obtain⟨_,_,o,w3⟩:=dj.fr n y p1 w;rw[ja]at w3;cases w3
     by_cases h1:ky n y=ky i (fl p 2+j)
     .rw[zAx h1]at z;by_cases h2:ky n' y'=ky i (fl p 2+j)
      .exact uZ (h1.trans h2.symm)
      .rw[zAw h2]at z';injection z with z;injection z with z;rw[<-z]at z';exact(old _ _ z').elim
     .rw[zAw h1]at z;by_cases h2:ky n' y'=ky i (fl p 2+j)
      .rw[zAx h2]at z';injection z' with z';injection z' with z';rw[<-z']at z;exact(old _ _ z).elim
      .rw[zAw h2]at z';exact dj.i _ _ _ _ _ z z'
    .rw[dR]at z;by_cases h1:ky n y=ky i (fl p 2+j)
     .rw[zAx h1]at z;injection z with z;injection z with z;rw[<-z];exact⟨Lw,Jw,_,vx⟩
     .rw[zAw h1]at z;obtain⟨w1,w2,o,w3⟩:=dj.fr n y d z;exact⟨w1,w2,o,kp _ _ w3 w2⟩
    .have:=c7 Zs (ky i (fl p 2+j)) (V.ref p1);lia
   .rintro σ Hj ⟨x9,Zs,rfl,dj,lj⟩;refine⟨_,_,_,_,_,_,_,_,Zs,rfl,⟨dj.sm,dj.nf,dj.e,fun n y z=>dj.g n y ⟨z.1,?_⟩,fun n y z=>dj.no n y fun z'=>z ⟨z'.1,z'.2.elim (fun w=>by lia) fun w=>by lia⟩,dj.i,dj.fr⟩,Zz⟩;by_cases hn:n<i
    .exact .inl hn
    .have e9:n=i:=by
      have:=z.2;lia
     refine .inr ⟨e9,?_⟩;obtain⟨_,_,_,w1⟩:=z.1;rw[e9,ep]at w1;lia
  .rintro σ Hc ⟨x2,x3,x4,x5,x6,x7,x8,x9,Zs,rfl,dt,lk⟩;refine⟨_,rfl,q fo Hc Zs ⟨dt.sm,dt.nf,dt.e,fun n y z=>dt.g n y ⟨z,?_⟩,fun n y z=>dt.no n y fun z'=>z z'.1,dt.i,dt.fr⟩⟩;rw[rp.l];exact z.2.1
def mG(ps:List (List Int))(f:Int->Int->Int->Int)(s:List Int):Bool:=mF ps s&&(years (fl s 4) (fl (lg ps s) 3)).all fun y=>decide (fl s 3<=f (fl s 0) y (fl s 1))
inductive SpLHoldsI(vs:List V)(H:Hp)(Q:VK):Prop
 |mk:∀ap xp ps fo H0 f b Zs t s,(vs=[.ref ap,.ref fo,.ref t])->(RowsAt H ap xp ps)->((∀r∈ps,okP r))->(Dts fo H0 H (dom ps) f b Zs)->(H t=some (.tup (s.map V.int)))->(s.length=5)->(∀H',Same H H'->Q (.bl (mG ps f s)) H')->SpLHoldsI  vs H Q
def u0:Sp:=fun vs H Q _=>SpLHoldsI  vs H Q
theorem CP{ns:List Int}{M k:Int}(h1:M∈ns)(h2:∀a∈ns,M<=a):decide (k<=M)=ns.all fun a=>decide (k<=a):=by
 rw[Bool.eq_iff_iff,Zq,List.all_eq_true];exact⟨fun h a ha=>zAv (Int.le_trans h (h2 a ha)),fun h=>zB8 (h M h1)⟩
theorem GK{σ:St}{H:Hp}{ta tb:TE}{i j:Int}(a:Ev σ H ta (.int i))(b:Ev σ H tb (.int j)):Ev σ H (tOp rEq ta tb) (.bl (decide (i=j))):=fun Q q=>a _ (b _ ⟨rfl,by
 have ed:decide (V.int i=V.int j)=decide (i=j):=decide_eq_decide.mpr ⟨fun z=>by injection z,fun z=>by rw[z]⟩;rw[ed]
 exact q⟩)
theorem sc35s:FnScope ["_law_promises","_law_rows","_law_sale","_law_number","_law_seller","_law_buyer","_law_sacks","_law_year","_law_first","_law_last"] ["_law_promises","_law_rows","_law_sale"] (az (top 67)):=fQS
theorem Ig:(["_law_one_here","_law_rows","_law_number","_law_seller"]:List Str).Nodup:=by decide +kernel
theorem xY(F:Fun K "_law_holds" "_law_holds" (top 67) f fd)(T:Mg mg)(Tr:mg "range"=none)(Tm:mg "min"=none):FnOk P w K mg base CX0 1 f fd ["_law_promises","_law_rows","_law_sale"] u0:=by
 refine F.ok sc35s (fun vs H Q E h=>?_) (fun af A outer s H vs Q E hr h=>?_)
 .obtain⟨ap,xp,ps,fo,H0,g,b,Zs,t,r,rfl,_⟩:=h;rfl
 .obtain⟨ap,xp,ps,fo,H0,g,b,Zs,t,r,rfl,rp,okp,dt,et,h5,q⟩:=h
  refine⟨_,aG (bY (pv 2) (bW rfl (au (d7 (i:=3) sc35s.nd rfl (Or.inr rfl)) (au (d7 (i:=4) sc35s.nd rfl (Or.inr rfl)) (au (pgn 5 sc35s.nd) (au (pgn 6 sc35s.nd) (au (pgn 7 sc35s.nd) bF)))))))
   (aG (bw (PW.pt (fO (bB (eO bC lG ak (pv 3) (aH aP rfl T.len PySem.boot_len (aq (pv 0) aj)))) (fO (bB (eO bC bC ak (pv 4) ak)) (fO (bB (eO bC bC ak (pv 5) ak)) (fj (aU dq (pv 4) (pv 5) (aV _))))))) (aA (aO gJ)) aN)
   (aG (pA (i:=8) (j:=9) rfl sc35s.nd rfl rfl Zx rfl rfl (aq (pX aZ (pX aZ (pv 0) (pv 3)) ak) (aq (pX aZ (pX aZ (pv 0) (pv 3)) ak) aj)) rfl)
   (aG (bw (PW.pt (fO (bB (eO bC bC ak (pv 6) ak)) (fj (bB (eO bC bC (pv 8) (pv 7) (pv 9)))))) (aA (aO gJ)) aN)
   (aA (aO (fY rA (aH (nF rfl) rfl Tm boot_min (aq (f9 ["_law_one_here","_law_rows","_law_number","_law_seller"] [none,some 1,some 3,some 4] rfl (iw rfl Tr (aq (pv 7) (aq (aX dg (pv 9) ak) aj)))
    (fun C fp Zt s₂ H₂=>⟨pgn 0 Ig,eZ,sr (kj hr) (q8 (kj hr) (pv 1) (bj (aq (pv 2) (aq (pv 0) aj))) (fun _ _=>rfl)) (pv 3) ak (by constructor<;>rfl)⟩)
    (fun C=>cI (cI (cI trivial))) ⟨rfl,rfl,rfl,rfl⟩) aj)) (pv 6) (aV _))))))),?_⟩
  have fin:=q;unfold mG mF at fin;rw[il h5]at et;refine aD ?_;refine⟨_,rfl,t,_,rfl,SqT.of et,rfl,_,_,rfl,_,_,rfl,_,_,rfl,_,_,rfl,_,_,rfl,rfl,?_⟩;dsimp only;refine aD ?_;refine bH (p:=fun i j=>decide (i<=j)) (q:=fun i j=>decide (i<j)) (i:=0) (j:=fl r 0) (k:=(xp.length:Int)) dG (cV rfl) (fun Q h=>⟨_,rfl,ap,xp,rfl,.inr (SqT.of rp.e),h⟩) _ ⟨_,rfl,?_⟩;rw[rp.l]
  cases e1:(decide (0<=fl r 0)&&decide (fl r 0<ps.length))with
  |false=>
   rw[e1]at fin;exact bh (bh (fin H (Same.refl H)))
  |true=>
  rw[e1]at fin;refine bf ?_;refine bH (p:=fun i j=>decide (i<=j)) (q:=fun i j=>decide (i<=j)) (i:=0) (j:=fl r 1) (k:=7) dG (cV rfl) dG _ ⟨_,rfl,?_⟩;dsimp only;rw[show decide (fl r 1<=7)=decide (fl r 1<8)from decide_eq_decide.mpr Zz]
  cases e2:(decide (0<=fl r 1)&&decide (fl r 1<8))with
  |false=>
   rw[e2]at fin;exact bh (bh (fin H (Same.refl H)))
  |true=>
  rw[e2]at fin;refine bf ?_;refine bH (p:=fun i j=>decide (i<=j)) (q:=fun i j=>decide (i<=j)) (i:=0) (j:=fl r 2) (k:=7) dG (cV rfl) dG _ ⟨_,rfl,?_⟩;dsimp only;rw[show decide (fl r 2<=7)=decide (fl r 2<8)from decide_eq_decide.mpr Zz]
  cases e3:(decide (0<=fl r 2)&&decide (fl r 2<8))with
  |false=>
   rw[e3]at fin;exact bh (bh (fin H (Same.refl H)))
  |true=>
  rw[e3]at fin;refine bf ?_;refine GK (i:=fl r 1) (j:=fl r 2) (cV rfl) (cV rfl) _ ⟨_,rfl,?_⟩
  cases e4:decide (fl r 1=fl r 2)with
  |true=>
   rw[e4]at fin;exact bh (fin H (Same.refl H))
  |false=>
  rw[e4]at fin;refine bf (bu ?_);dsimp only;refine aD ?_;rw[zAc,Zq,Zq]at e1 e2;obtain⟨p,hp,ep,op⟩:=ju okp e1.1 e1.2;have ow:lg ps r=p:=ep;rw[ow]at fin;obtain⟨tp,eR,gL⟩:=gC rp e1.1 hp;rw[iH op.1]at gL;obtain⟨_,_,_,⟨g1,g2,g3⟩,_⟩:=id op;refine⟨_,rfl,_,rfl,ap,xp,_,.ref tp,rfl,rfl,SqT.of rp.e,eR,tp,_,2,.int (fl p 2),rfl,rfl,SqT.of gL,rfl,?_⟩;refine⟨_,rfl,_,rfl,ap,xp,_,.ref tp,rfl,rfl,SqT.of rp.e,eR,tp,_,3,.int (fl p 3),rfl,rfl,SqT.of gL,rfl,?_⟩;refine⟨_,_,rfl,?_⟩;dsimp only;refine aD ?_;refine bH (p:=fun i j=>decide (i<=j)) (q:=fun i j=>decide (i<=j)) (i:=1) (j:=fl r 3) (k:=99) dG (cV rfl) dG _ ⟨_,rfl,?_⟩;dsimp only
  cases e5:(decide (1<=fl r 3)&&decide (fl r 3<=99))with
  |false=>
   rw[e5]at fin;exact bh (bh (fin H (Same.refl H)))
  |true=>
  rw[e5]at fin;refine bf ?_;refine bH (p:=fun i j=>decide (i<=j)) (q:=fun i j=>decide (i<=j)) (i:=fl p 2) (j:=fl r 4) (k:=fl p 3) (cV rfl) (cV rfl) (cV rfl) _ ⟨_,rfl,?_⟩;dsimp only
  cases e6:(decide (fl p 2<=fl r 4)&&decide (fl r 4<=fl p 3))with
  |false=>
   rw[e6]at fin;exact bh (fin H (Same.refl H))
  |true=>
  rw[e6]at fin;rw[zAc,Zq,Zq]at e6;refine bf (bu ?_);dsimp only;refine⟨_,rfl,_,rfl,_,_,rfl,rfl,fl r 4,fl p 3+1,rfl,⟨Zz,Zz,Zz,Zz⟩,?_⟩;refine tY (fun ys Hc=>Same H Hc/\ys=((years (fl r 4) (fl p 3)).take ys.length).map fun y=>V.int (g (fl r 0) y (fl r 1))) ⟨Same.refl _,rfl⟩ Zu ?_ ?_
  .rintro i ys Hc Qc hi hy ⟨sc,ey⟩ qc;refine⟨_,rfl,_,rfl,_,rfl,zL,fun k hk=>?_⟩;have sk:=sc.updR (o:=.tup [V.int (fl r 0),V.int (fl r 4+i)]) hk;have dk:=dt.same sk;obtain⟨d,kv,q1,q2,q3,q4⟩:=dk.g (fl r 0) (fl r 4+i) ⟨e1.1,e1.2,by rw[ep];lia,by rw[ep];lia⟩;refine⟨fo,.ref d,rfl,by rw[<-q1];exact DGet.t dk.e aa,?_⟩;refine⟨d,rfl,.inl ⟨kv,.inl q2⟩,_,rfl,_,DGet.k (k:=.inl (fl r 1)) q2,?_⟩;rw[q4 _ e2.1 e2.2];refine qc _ _ ⟨sk,?_⟩
   have hx:(years (fl r 4) (fl p 3))[ys.length]?=some (fl r 4+(i:Int)):=by
    rw[hy];exact jU hi
   exact oY ey hx
  .rintro ys Hc hy ⟨sc,ey⟩ D hD;rw[List.take_of_length_le (by rw[jT,hy];exact zA3 _)]at ey;refine⟨D,(years (fl r 4) (fl p 3)).map fun y=>g (fl r 0) y (fl r 1),rfl,SqL.of (by rw[zAr];rw[ey];exact aa),?_,fun M h1 h2=>⟨_,rfl,_,_,rfl,rfl,?_⟩⟩
   .intro z;have:=congrArg List.length z;rw[zA1,jT,List.length_nil]at this;lia
   .have em:=CP (k:=fl r 3) h1 h2;rw[List.all_map]at em;show Q (.bl (decide (fl r 3<=M))) _;rw[em];exact fin _ (sc.updR hD)
def dl(s:List Int)(h:Int):Int:=(if h=fl s 2 then fl s 3 else 0)-(if h=fl s 1 then fl s 3 else 0)
def fS(f:Int->Int->Int->Int)(s:List Int)(n y h:Int):Int:=if n=fl s 0/\fl s 4<=y then f n y h+dl s h else f n y h
theorem CQ{H:Hp}{d:Addr}{a b:HO}:upd (upd H d a) d b=upd H d b:=by
 funext c;by_cases h:c=d
 .subst h;rw[aa,aa]
 .rw[ao h,ao h,ao h]
theorem u6{L:List Int}{i v h:Int}(hl:L.length=8)(i0:0<=i)(i1:i<8)(h0:0<=h)(h1:h<8):(mD L i v).getD h.toNat 0=L.getD h.toNat 0+(if h=i then v else 0):=by
 unfold mD;rw[zA7,List.getElem?_set];by_cases hh:h=i
 .subst hh;rw[zAx rfl,zAx rfl,zAx Zz];rfl
 .rw[zAw Zz,zAw hh,<-zA7];lia
theorem xZ{L s:List Int}{n y h:Int}(hl:L.length=8)(ok:okS s)(h0:0<=h)(h1:h<8):(hstep n y L s).getD h.toNat 0=if n=fl s 0/\fl s 4<=y then L.getD h.toNat 0+dl s h else L.getD h.toNat 0:=by
 obtain⟨_,⟨a1,a2⟩,b1,b2⟩:=ok;unfold hstep dl;by_cases hc:fl s 0=n/\fl s 4<=y
 .rw[zAx hc,zAx ⟨hc.1.symm,hc.2⟩,u6 (by rw[jt];exact hl) b1 b2 h0 h1,u6 hl a1 a2 h0 h1];split<;>split<;>lia
 .rw[zAw hc,zAw fun z=>hc ⟨z.1.symm,z.2⟩]
theorem yc{p s:List Int}{ss:List (List Int)}{n y h:Int}(ij:fl p 2<=y/\y<=fl p 3)(ok:okS s)(h0:0<=h)(h1:h<8):
  (cY p (ss++[s]) n y).getD h.toNat 0=if n=fl s 0/\fl s 4<=y then(cY p ss n y).getD h.toNat 0+dl s h else(cY p ss n y).getD h.toNat 0:=by
 have hl:=iG p ss n y
 have e:cY p (ss++[s]) n y=hstep n y (cY p ss n y) s:=by
  unfold cY;rw[zAx ij,zAx ij,List.foldl_append];rfl
 rw[e,xZ hl ok h0 h1]
inductive SpSellI(vs:List V)(H:Hp)(Q:VK):Prop
 |mk:∀ap xp ps fo H0 f b Zs t s,(vs=[.ref ap,.ref fo,.ref t])->(RowsAt H ap xp ps)->((∀r∈ps,okP r))->(Dts fo H0 H (dom ps) f (fun _ _=>b) Zs)->(b<=1000)->(H t=some (.tup (s.map V.int)))->(s.length=5)->(mG ps f s=true)->(∀H',Dts fo H0 H' (dom ps) (fS f s) (fun _ _=>b+2) Zs->Q .non H')->SpSellI  vs H Q
def Ai:Sp:=fun vs H Q _=>SpSellI  vs H Q
theorem sc36s:FnScope ["_law_promises","_law_rows","_law_sale","_law_number","_law_seller","_law_buyer","_law_sacks","_law_year","_law_one_here","_law_row"] ["_law_promises","_law_rows","_law_sale"] (az (top 68)):=fQS
theorem CT(F:Fun K "_law_sell" "_law_sell" (top 68) f fd)(Tr:mg "range"=none):FnOk P w K mg base CX0 1 f fd ["_law_promises","_law_rows","_law_sale"] Ai:=by
 refine F.ok sc36s (fun vs H Q E h=>?_) (fun af A outer s H vs Q E hr h=>?_)
 .obtain⟨ap,xp,ps,fo,H0,g,b,Zs,t,r,rfl,_⟩:=h;rfl
 .obtain⟨ap,xp,ps,fo,H0,g,b,Zs,t,r,rfl,rp,okp,dt,hb,et,h5,hh,q⟩:=h
  refine⟨_,aG (bY (pv 2) (bW rfl (au (pgn 3 sc36s.nd) (au (pgn 4 sc36s.nd) (au (pgn 5 sc36s.nd) (au (pgn 6 sc36s.nd) (au (pgn 7 sc36s.nd) bF)))))))
   (aA (fD zB9 rfl (iw rfl Tr (aq (pv 7) (aq (aX dg (pX aZ (pX aZ (pv 0) (pv 3)) ak) ak) aj))) (pgn 8 sc36s.nd)
    (aG (pss 9 sc36s.nd (q8 (kj hr) (pv 1) (bj (aq (pv 3) (aq (pv 8) aj))) (fun _ _=>rfl)))
    (aG (q9 (kj hr) (pv 9) (pv 4) (aX pC (q8 (kj hr) (pv 9) (pv 4) (fun _ _=>rfl)) (pv 6)) rfl)
    (aA (q9 (kj hr) (pv 9) (pv 5) (aX dg (sr (kj hr) (pv 9) (pv 5) ak (by constructor<;>rfl)) (pv 6)) rfl)))))),?_⟩
  rw[il h5]at et;unfold mG mF at hh;simp only[Bool.and_eq_true,Zq,Bool.not_eq_true',decide_eq_false_iff_not]at hh;obtain⟨⟨⟨n0,n1⟩,⟨a1,a2⟩,⟨b1,b2⟩,Jx,⟨k1,k2⟩,y0,y1⟩,hy⟩:=hh;obtain⟨p,hp,ep,op⟩:=ju okp n0 n1;have ow:lg ps r=p:=ep;rw[ow]at y0 y1 hy;obtain⟨tp,eR,gL⟩:=gC rp n0 hp;rw[iH op.1]at gL;obtain⟨_,_,_,⟨g1,g2,g3⟩,_⟩:=id op;refine aD ?_;refine⟨_,rfl,t,_,rfl,SqT.of et,rfl,_,_,rfl,_,_,rfl,_,_,rfl,_,_,rfl,_,_,rfl,rfl,?_⟩;dsimp only;refine⟨_,rfl,_,rfl,_,rfl,ap,xp,_,.ref tp,rfl,rfl,SqT.of rp.e,eR,tp,_,3,.int (fl p 3),rfl,rfl,SqT.of gL,rfl,_,_,rfl,rfl,fl r 4,fl p 3+1,rfl,⟨Zz,Zz,Zz,Zz⟩,?_⟩
  refine fP (lo:=fl r 4) (n:=(fl p 3+1-fl r 4).toNat) (fun j σ Hj=>∃x8 x9,σ=[some (.ref ap),some (.ref fo),some (.ref t),some (.int (fl r 0)),some (.int (fl r 1)),some (.int (fl r 2)),some (.int (fl r 3)),some (.int (fl r 4)),x8,x9] /\
   Dts fo H0 Hj (dom ps) (fun n y h=>if n=fl r 0/\fl r 4<=y/\y<fl r 4+j then g n y h+dl r h else g n y h) (fun n y=>if n=fl r 0/\fl r 4<=y/\y<fl r 4+j then b+2 else b) Zs) ?_ ?_ ?_
  .refine⟨none,none,rfl,dt.cast fun n y hd=>?_⟩;rw[zAw Zz];exact⟨zA3 _,fun h _ _=>by rw[zAw Zz]⟩
  .rintro j σ Hj hj ⟨x8,x9,rfl,dj⟩;refine bc (aD ?_);refine bO ?_;refine⟨_,rfl,_,rfl,_,rfl,zL,fun k hk=>?_⟩;have dk:=dj.new (o:=.tup [V.int (fl r 0),V.int (fl r 4+j)]) hk;have ek:upd Hj k (.tup [V.int (fl r 0),V.int (fl r 4+j)]) k=some (.tup ((ky (fl r 0) (fl r 4+j)).map kV)):=aa;generalize upd Hj k (.tup [V.int (fl r 0),V.int (fl r 4+j)])=H1 at dk ek⊢
   have D7:dom ps (fl r 0) (fl r 4+j):=⟨n0,n1,by rw[ep];lia,by rw[ep];lia⟩
   obtain⟨d,kv,q1,q2,⟨q3,qk⟩,q4⟩:=dk.g _ _ D7;rw[if_neg Zz]at q3;refine⟨fo,.ref d,rfl,by rw[<-q1];exact DGet.t dk.e ek,?_⟩;refine bc ?_;dsimp only;have gu:=q4 (fl r 1) a1 a2;rw[if_neg Zz]at gu
   have va:fl r 3<=g (fl r 0) (fl r 4+j) (fl r 1):=by
    have:=List.all_eq_true.mp hy (fl r 4+j) (zB5 (jU hj));exact zB8 this
   have D8:cR kv (.inl (fl r 1))=some (.int (g (fl r 0) (fl r 4+j) (fl r 1))):=by
    cases ev:cR kv (.inl (fl r 1))with
    |none=>
     rw[ev]at gu;injection gu with gu;lia
    |some v=>
     rw[ev]at gu;exact congrArg some gu
   have vE:=q4 (fl r 2) b1 b2;rw[if_neg Zz]at vE;refine aD ?_;refine⟨_,rfl,_,rfl,d,_,rfl,by rw[<-D8];exact DGet.k (k:=.inl (fl r 1)) q2,_,rfl,_,_,rfl,rfl,_,rfl,_,rfl,d,_,rfl,DPut.k (k:=.inl (fl r 1)) q2 Zu,?_⟩;dsimp only;have O7:=c7 kv (.inl (fl r 1)) (V.int (g (fl r 0) (fl r 4+j) (fl r 1)-fl r 3))
   have vb:(cR (putK kv (.inl (fl r 1)) (V.int (g (fl r 0) (fl r 4+j) (fl r 1)-fl r 3))) (.inl (fl r 2))).getD (.int 0)=.int (g (fl r 0) (fl r 4+j) (fl r 2)):=by
    rw[dR,zAw (fun z=>Jx (by injection z with z;exact z.symm))];exact vE
   refine⟨_,rfl,d,rfl,.inl ⟨_,.inl aa⟩,_,rfl,_,DGet.k (k:=.inl (fl r 2)) aa,_,rfl,_,_,vb,rfl,_,rfl,_,rfl,d,_,rfl,DPut.k (k:=.inl (fl r 2)) aa Zu,?_⟩;have O8:=c7 (putK kv (.inl (fl r 1)) (V.int (g (fl r 0) (fl r 4+j) (fl r 1)-fl r 3))) (.inl (fl r 2)) (V.int (g (fl r 0) (fl r 4+j) (fl r 2)+fl r 3));refine⟨_,_,rfl,?_⟩;rw[CQ]
   refine dk.wr q1 ⟨⟨?_,(qk.put a1 a2 _).put b1 b2 _⟩,fun h h0 h8=>?_⟩ fun n y hd tP=>⟨?_,fun h h0 h8=>?_⟩
   .rw[zAx ⟨rfl,Zz,Zz⟩];exact Nat.le_trans (c7 _ _ _) (Nat.succ_le_succ (Nat.le_trans (c7 _ _ _) (Nat.succ_le_succ q3)))
   .rw[zAx ⟨rfl,Zz,Zz⟩,dR];unfold dl;by_cases mr:h=fl r 2
    .rw[zAx (by rw[mr]),zAx mr,zAw (fun z=>Jx (z.symm.trans mr))];show V.int _=V.int _;rw[mr];congr 1;lia
    .rw[zAw (fun z=>mr (by injection z)),zAw mr,dR];by_cases dS:h=fl r 1
     .rw[zAx (by rw[dS]),zAx dS];show V.int _=V.int _;rw[dS];congr 1;lia
     .rw[zAw (fun z=>dS (by injection z)),zAw dS];have:=q4 h h0 h8;rw[zAw Zz]at this;rw[this];congr 1;lia
   .split<;>split<;>lia
   .by_cases hc:n=fl r 0/\fl r 4<=y/\y<fl r 4+j
    .rw[zAx hc,zAx ⟨hc.1,hc.2.1,Zz⟩]
    .rw[zAw hc,zAw fun z=>hc ⟨z.1,z.2.1,by
      have:y≠fl r 4+j:=fun w=>tP ⟨z.1,w⟩
      lia⟩]
  .rintro σ Hj ⟨x8,x9,rfl,dj⟩;refine q Hj (dj.cast fun n y hd=>⟨by split<;>lia,fun h h0 h8=>?_⟩);unfold fS;by_cases hc:n=fl r 0/\fl r 4<=y
   .have:y<=fl p 3:=by
     have:=hd.2.2.2;rw[hc.1,ep]at this;exact this
    rw[zAx hc,zAx ⟨hc.1,hc.2,Zz⟩]
   .rw[zAw hc,zAw fun z=>hc ⟨z.1,z.2.1⟩]
inductive SpSoldRI(vs:List V)(H:Hp)(Q:VK):Prop
 |mk:∀ap xp ps ag xs ss,(vs=[.ref ap,.ref ag])->(RowsAt H ap xp ps)->(ps.length<=10)->((∀r∈ps,okP r))->(RowsAt H ag xs ss)->(ss.length<=100)->((∀s∈ss,s.length=5))->(∀t fo H',Same H H'->H' t=some (.tup [.ref fo,unV (un ps ss)])->(un ps ss=none->∃b Zs,Dts fo H H' (dom ps) (fun n y h=>(cY (ps.getD n.toNat []) ss n y).getD h.toNat 0) b Zs)->Q (.ref t) H')->SpSoldRI  vs H Q
def wF:Sp:=fun vs H Q _=>SpSoldRI  vs H Q
inductive SpSoldI(vs:List V)(H:Hp)(Q:VK):Prop
 |mk:∀ap xp ps ag xs ss,(vs=[.ref ap,.ref ag])->(RowsAt H ap xp ps)->(ps.length<=10)->((∀r∈ps,okP r))->(RowsAt H ag xs ss)->(ss.length<=100)->((∀s∈ss,s.length=5))->(∀t fo H',Same H H'->H' t=some (.tup [.ref fo,unV (un ps ss)])->Q (.ref t) H')->SpSoldI  vs H Q
def Aj:Sp:=fun vs H Q _=>SpSoldI  vs H Q
theorem Ak{ps:List (List Int)}{n y h:Int}(ok:okP (ps.getD n.toNat []))(ij:fl (ps.getD n.toNat []) 2<=y/\y<=fl (ps.getD n.toNat []) 3)(h0:0<=h)(h8:h<8):(cY (ps.getD n.toNat []) [] n y).getD h.toNat 0=f0 ps n y h:=by
 unfold cY f0;rw[zAx ij];generalize ps.getD n.toNat []=p at ok;obtain⟨_,⟨a1,a2⟩,_⟩:=ok;show(base0 p).getD h.toNat 0=_;unfold base0;rw[zA7,List.getElem?_set];by_cases hh:h=fl p 0
 .rw[zAx (by rw[hh]),zAx (by rw[List.length_replicate];lia),zAx hh];rfl
 .rw[zAw Zz,zAw hh,List.getElem?_replicate,zAx Zz];rfl
theorem sc37s:FnScope ["_law_promises","_law_sales","_law_rows","_law_at","_law_sale"] ["_law_promises","_law_sales"] (az (top 69)):=fQS
theorem Al(F:Fun K "_law_sold" "_law_sold" (top 69) f fd)(Te:mg "enumerate"=none)(c1:Cal P w K mg base 1 "_law_begun" ["_law_promises"] wD)(c2:Cal P w K mg base 1 "_law_holds" ["_law_promises","_law_rows","_law_sale"] u0)(c3:Cal P w K mg base 1 "_law_sell" ["_law_promises","_law_rows","_law_sale"] Ai):
  FnOk P w K mg base CX0 2 f fd ["_law_promises","_law_sales"] wF:=by
 refine F.ok sc37s (fun vs H Q E h=>?_) (fun af A outer s H vs Q E hr h=>?_)
 .obtain⟨ap,xp,ps,ag,xs,ss,rfl,_⟩:=h;rfl
 .obtain⟨ap,xp,ps,ag,xs,ss,rfl,rp,lp,okp,rs,ls,ot,q⟩:=h
  refine⟨_,aG (pss 2 sc37s.nd (aK c1 hr (aq (pv 0) aj)))
   (aG (fD zB9 rfl (ZT.pi_enum true rfl Te (aq (pv 1) aj)) (bW rfl (au (pgn 3 sc37s.nd) (au (pgn 4 sc37s.nd) bF)))
    (aG (bw (bB (bD (aK c2 hr (aq (pv 0) (aq (pv 2) (aq (pv 4) aj)))))) (aA (aO (bj (aq (pv 2) (aq (pv 3) aj))))) aN)
    (aA (bR (aK c3 hr (aq (pv 0) (aq (pv 2) (aq (pv 4) aj))))))))
   (aA (aO (bj (aq (pv 2) (aq gK aj)))))),?_⟩
  refine aD (bO ?_);refine⟨_,rfl,ap,xp,ps,rfl,rp,lp,okp,fun fo H1 Zs d1=>?_⟩;refine bc ?_;dsimp only;refine aD ?_;refine⟨_,rfl,ag,xs,rfl,SqT.of (d1.sm _ _ rs.e),?_⟩
  have Lx:∀n y,dom ps n y->okP (ps.getD n.toNat []):=fun n y hd=>by
   obtain⟨p,_,e2,e3⟩:=ju okp hd.1 hd.2.1;rw[e2];exact e3
  refine ZT.for_enum true (xs:=xs) (fun i σ Hc=>∃x3 x4,σ=[some (.ref ap),some (.ref ag),some (.ref fo),x3,x4]/\Dts fo H Hc (dom ps) (fun n y h=>(cY (ps.getD n.toNat []) (ss.take i) n y).getD h.toNat 0) (fun _ _=>1+2*i) Zs/\∀j,j<i->bT ps (ss.take j) (ss.getD j [])=true) ?_ ?_ ?_ ?_
  .exact⟨none,none,rfl,d1.cast fun n y hd=>⟨zA3 _,fun h h0 h8=>Ak (Lx n y hd) hd.2.2 h0 h8⟩,fun j hj=>absurd hj (Nat.not_lt_zero _)⟩
  .rintro i σ Hc hi ⟨x3,x4,rfl,dt,hh⟩;exact SqT.of (dt.sm _ _ rs.e)
  .rintro i x σ Hc T0 hx ⟨x3,x4,rfl,dt,hh⟩ nT
   have hi:i<ss.length:=by
    have:=(zAa.mp hx).1;rw[rs.l]at this;exact this
   obtain⟨tr,mB,kF⟩:=rs.g i ss[i] (zA0 hi)
   have:x=.ref tr:=by
    rw[hx]at mB;exact zAl mB
   subst this;have h5:=ot ss[i] (zAh hi);have dT:=dt.new (o:=.tup [V.int i,V.ref tr]) nT;have eT:upd Hc T0 (.tup [V.int i,V.ref tr]) T0=some (.tup [V.int i,V.ref tr]):=aa;generalize upd Hc T0 (.tup [V.int i,V.ref tr])=H2 at dT eT⊢;refine⟨T0,_,rfl,SqT.of eT,rfl,_,_,rfl,_,_,rfl,rfl,?_⟩;refine aD ?_;refine⟨_,rfl,_,rfl,_,rfl,ap,xp,ps,fo,H,_,_,Zs,tr,ss[i],rfl,rp.same dT.sm,okp,dT,dT.sm _ _ kF,h5,fun H3 s3=>⟨_,rfl,?_⟩⟩;have d3:=dT.same s3;have D9:mG ps (fun n y h=>(cY (ps.getD n.toNat []) (ss.take i) n y).getD h.toNat 0) ss[i]=bT ps (ss.take i) ss[i]:=rfl
   cases eh:bT ps (ss.take i) ss[i]with
   |false=>
    rw[D9,eh];refine bh ⟨_,rfl,_,rfl,zL,fun t ht=>q t fo _ (d3.sm.updR ht) ?_ fun z=>?_⟩
    .rw[wC hh hi (by rw[getD_get hi];exact eh)];exact aa
    .rw[wC hh hi (by rw[getD_get hi];exact eh)]at z;cases z
   |true=>
    rw[D9,eh];refine bf (bu ?_);refine⟨_,rfl,_,rfl,_,rfl,ap,xp,ps,fo,H,_,1+2*i,Zs,tr,ss[i],rfl,rp.same d3.sm,okp,d3,Zz,d3.sm _ _ kF,h5,D9.trans eh,fun H4 d4=>?_⟩;have vv:ss.take (i+1)=ss.take i++[ss[i]]:=by rw[zAj,zA0 hi];rfl
    refine⟨_,_,rfl,d4.cast fun n y hd=>⟨Zz,fun h h0 h8=>?_⟩,fun j hj=>?_⟩
    .rw[vv,yc hd.2.2 (tZ h5 eh) h0 h8];rfl
    .rcases Nat.lt_succ_iff_lt_or_eq.mp hj with z|z
     .exact hh j z
     .rw[z,getD_get hi];exact eh
  .rintro σ Hc ⟨x3,x4,rfl,dt,hh⟩;refine⟨_,rfl,zL,fun t ht=>q t fo _ (dt.sm.updR ht) ?_ fun _=>?_⟩
   .rw[qF fun j hj=>hh j (by rw[rs.l];exact hj)];exact aa
   .rw[show xs.length=ss.length from rs.l,zAm]at dt;exact⟨_,Zs,dt.new ht⟩
theorem CV{f:Addr}{fd:FuncData}(F:FnOk P w K mg base CX0 2 f fd ["_law_promises","_law_sales"] wF):FnOk P w K mg base CX0 2 f fd ["_law_promises","_law_sales"] Aj:=by
 refine F.imp fun vs H Q E h=>?_;obtain⟨ap,xp,ps,ag,xs,ss,rfl,rp,lp,okp,rs,ls,ot,q⟩:=h;exact⟨ap,xp,ps,ag,xs,ss,rfl,rp,lp,okp,rs,ls,ot,fun t fo H' s e _=>q t fo H' s e⟩
theorem gD{X:Cx}:OpR X (binaryOp .Add) (fun x y H Q=>∃a b xs ys,x=.ref a/\y=.ref b/\H a=some (.tup xs)/\H b=some (.tup ys)/\ys≠[]/\xs.length+ys.length<=sizeLine/\∀c H',Same H H'->H' c=some (.tup (xs++ys))->Q (.ref c) H'):=by
 intro Zt s σ H x y v u Q I rx ry h;obtain⟨a,b,xs,ys,rfl,rfl,ha,hb,hy,hz,q⟩:=h;refine zx Zt s σ H _ _ v u Q I rx ry ⟨a,b,xs,ys,rfl,rfl,SqT.of ha,SqT.of hb,hy,hz,fun e=>q b H (Same.refl H) (by rw[e];exact hb),fun _ p hp=>q p _ (Same.upd hp) aa⟩
theorem dM{H:Hp}{a b t:Addr}{xs:List V}{rs:List (List Int)}{r:List Int}(h:RowsAt H a xs rs)(et:H t=some (.tup (r.map V.int)))(eb:H b=some (.tup (xs++[V.ref t]))):RowsAt H b (xs++[V.ref t]) (rs++[r]):=by
 refine⟨eb,by rw[zA2,zA2,h.l];rfl,fun i r' e=>?_⟩;by_cases hi:i<rs.length
 .rw[zBa hi]at e;rw[zBa (by rw[h.l];exact hi)];exact h.g i r' e
 .rw[zB7 Zz]at e;rw[zB7 (by rw[h.l];lia),h.l]
  cases hj:i-rs.length with
  |zero=>
   rw[hj]at e;injection e with e;subst e;exact⟨t,rfl,et⟩
  |succ k=>
   rw[hj]at e;simp at e
theorem qG{ps ss:List (List Int)}(h:un ps ss=none):∀j,j<ss.length->bT ps (ss.take j) (ss.getD j [])=true:=fun j hj=>by
 unfold un at h;have:=List.find?_eq_none.mp h j (List.mem_range.mpr hj);simpa using this
theorem wG{ps ss:List (List Int)}(h:un ps ss=none)(h5:∀s∈ss,s.length=5):∀s∈ss,okS s:=fun s hs=>by
 obtain⟨j,hj,e⟩:=List.getElem_of_mem hs;have:=qG h j hj;rw[getD_get hj,e]at this;exact tZ (h5 s hs) this
theorem fW{r:List Int}{n:Nat}(h:r.length=n):aY (bI r) n=true:=by
 show(dF (.tuple (r.map PyData.int)) n n&&(r.map PyData.int).all b8)=true;rw[zAc];refine⟨?_,List.all_eq_true.mpr fun x hx=>?_⟩
 .show(true&&(decide ((n:Int)<=(r.map PyData.int).length)&&decide (((r.map PyData.int).length:Int)<=n)))=true;rw[zA1,h,zAv (Int.le_refl _)];rfl
 .obtain⟨i,_,rfl⟩:=zA5.mp hx;rfl
theorem iI:∀(is:List Int),szs (is.map PyData.int)=is.length
 |[]=>rfl
 |i::is=>by
  show 1+szs (is.map PyData.int)=is.length+1;rw[iI is];lia
def okC(r:List Int):Prop:=r.length=3/\∀x∈r,0<=x/\x<1000
structure BookAt(H:Hp)(bk ac:Addr)(xc:List V)(cs:List (List Int))(ap:Addr)(xp:List V)(ps:List (List Int))(ag:Addr)(xs:List V)(ss:List (List Int)):Prop where
 e:H bk=some (.tup [.ref ac,.ref ap,.ref ag])
 rc:RowsAt H ac xc cs
 okc:∀r∈cs,r.length=3/\∀x∈r,0<=x
 lc:cs.length<=20
 rp:RowsAt H ap xp ps
 lp:ps.length<=10
 okp:∀r∈ps,okP r
 rs:RowsAt H ag xs ss
 ls:ss.length<=12
 h5:∀s∈ss,s.length=5
 un:un ps ss=none
theorem BookAt.same{H H':Hp}{bk ac:Addr}{xc:List V}{cs:List (List Int)}{ap:Addr}{xp:List V}{ps:List (List Int)}{ag:Addr}{xs:List V}{ss:List (List Int)}(b:BookAt H bk ac xc cs ap xp ps ag xs ss)(s:Same H H'):BookAt H' bk ac xc cs ap xp ps ag xs ss:=
 ⟨s _ _ b.e,b.rc.same s,b.okc,b.lc,b.rp.same s,b.lp,b.okp,b.rs.same s,b.ls,b.h5,b.un⟩
def Bk(H:Hp)(bk:Addr)(cs ps ss:List (List Int)):Prop:=∃ac xc ap xp ag xs,BookAt H bk ac xc cs ap xp ps ag xs ss
theorem Bk.keep{H H':Hp}{bk:Addr}{cs ps ss:List (List Int)}(b:Bk H bk cs ps ss)(k:∀b l,H b=some (.tup l)->H' b=some (.tup l)):Bk H' bk cs ps ss:=by
 obtain⟨ac,xc,ap,xp,ag,xs,b⟩:=b;exact⟨ac,xc,ap,xp,ag,xs,k _ _ b.e,b.rc.keep k,b.okc,b.lc,b.rp.keep k,b.lp,b.okp,b.rs.keep k,b.ls,b.h5,b.un⟩
theorem Bk.same{H H':Hp}{bk:Addr}{cs ps ss:List (List Int)}(b:Bk H bk cs ps ss)(s:Same H H'):Bk H' bk cs ps ss:=b.keep fun _ _ e=>s _ _ e
inductive SpMoreI(vs:List V)(H:Hp)(Q:VK):Prop
 |mk:∀a xs m,(vs=[.ref a,.int m])->(H a=some (.tup xs))->((xs.length:Int)<m)->(Q .non H)->SpMoreI  vs H Q
def mH:Sp:=fun vs H Q _=>SpMoreI  vs H Q
theorem GP:FnScope ["rows","most"] ["rows","most"] (az (top 37)):=fQS
theorem wH{j:Nat}(F:Fun K "refuse_one_more" "refuse_one_more" (top 37) f fd)(T:Mg mg):FnOk P w K mg base CX0 (j+1) f fd ["rows","most"] mH:=by
 refine F.ok GP (fun vs H Q E h=>?_) (fun af A outer s H vs Q E hr h=>?_)
 .obtain⟨a,xs,m,rfl,_⟩:=h;rfl
 .obtain⟨a,xs,m,rfl,e,hl,q⟩:=h;refine⟨_,aA (bw (aU rA (aH aP rfl T.len PySem.boot_len (aq (pv 0) aj)) (pv 1) (aV _)) (aA jc) aN),?_⟩;refine⟨_,rfl,a,xs,rfl,.inr (SqT.of e),_,rfl,_,_,rfl,rfl,_,rfl,?_⟩;rw[zB4 (show¬((xs.length:Int)≥m) by lia)];exact bf q
structure St3 where
 cs:List (List Int)
 ps:List (List Int)
 ss:List (List Int)
structure KpAt(C:Addr)(H:Hp)(p l:Addr)(ts:List Addr)(Ss:List St3):Prop where
 ob:∃dx,H p=some (.ins C dx [("stages",.ref l)])
 el:H l=some (.lst (ts.map V.ref))
 ln:ts.length=Ss.length
 bk:∀(i:Nat) t S,ts[i]?=some t->Ss[i]?=some S->Bk H t S.cs S.ps S.ss
theorem KpAt.keep{C:Addr}{H H':Hp}{p l:Addr}{ts:List Addr}{Ss:List St3}(k:KpAt C H p l ts Ss)(kt:∀b x,H b=some (.tup x)->H' b=some (.tup x))(kp:∀dx f,H p=some (.ins C dx f)->H' p=some (.ins C dx f))(kl:∀x,H l=some (.lst x)->H' l=some (.lst x)):KpAt C H' p l ts Ss:=by
 obtain⟨dx,e⟩:=k.ob;exact⟨⟨dx,kp _ _ e⟩,kl _ k.el,k.ln,fun i t S h1 h2=>(k.bk i t S h1 h2).keep kt⟩
theorem KpAt.same{C:Addr}{H H':Hp}{p l:Addr}{ts:List Addr}{Ss:List St3}(k:KpAt C H p l ts Ss)(s:Same H H'):KpAt C H' p l ts Ss:=k.keep (fun _ _ e=>s _ _ e) (fun _ _ e=>s _ _ e) fun _ e=>s _ _ e
theorem KpAt.last{C:Addr}{H:Hp}{p l t:Addr}{ts:List Addr}{Ss:List St3}{S:St3}(k:KpAt C H p l (ts++[t]) (Ss++[S])):Bk H t S.cs S.ps S.ss:=by
 have h:=k.ln;rw[zA2,zA2]at h;have h:ts.length=Ss.length:=by simpa using h
 exact k.bk ts.length t S (by rw[zB7 (zA3 _),Nat.sub_self];rfl) (by rw[h,zB7 (zA3 _),Nat.sub_self];rfl)
theorem KpAt.snoc{C:Addr}{H H':Hp}{p l t:Addr}{ts:List Addr}{Ss:List St3}{S:St3}(k:KpAt C H p l ts Ss)(kt:∀b x,H b=some (.tup x)->H' b=some (.tup x))(kp:∀dx f,H p=some (.ins C dx f)->H' p=some (.ins C dx f))(el:H' l=some (.lst ((ts++[t]).map V.ref)))(b:Bk H' t S.cs S.ps S.ss):KpAt C H' p l (ts++[t]) (Ss++[S]):=by
 obtain⟨dx,e⟩:=k.ob;refine⟨⟨dx,kp _ _ e⟩,el,by rw[zA2,zA2,k.ln];rfl,fun i t' S' h1 h2=>?_⟩;have Ly:=k.ln;by_cases hi:i<ts.length
 .rw[zBa hi]at h1;rw[zBa Zz]at h2;exact(k.bk i t' S' h1 h2).keep kt
 .have Jy:i=ts.length:=by
   have:=(zAa.mp h1).1;rw[zA2]at this;simp at this;lia
  rw[Jy,zB7 (zA3 _),Nat.sub_self]at h1;rw[Jy,Ly,zB7 (zA3 _),Nat.sub_self]at h2;cases h1;cases h2;exact b
theorem Am{α:Type}{xs:List α}{x:α}:atI (xs++[x]) (-1)=some x:=by
 unfold atI ixN;rw[zA2];have e1:¬(0:Int)<=-1:=by decide
 rw[zAw e1,zAx (by show -(((xs.length+1:Nat)):Int)<=-1;lia)];show(xs++[x])[((-1:Int)+((xs.length+1:Nat):Int)).toNat]?=some x;rw[show((-1:Int)+((xs.length+1:Nat):Int)).toNat=xs.length by lia,zB7 (zA3 _),Nat.sub_self];rfl
def mJ(P:Program)(w:World)(K:Frag)(mg:Str->Option Value)(base:Heap)(C:Addr)(k:Nat)(m:Str)(ps:List Str)(sp:Sp):Prop:=
 ∃f fd,FnOk P w K mg base CX0 k f fd ps sp/\Meth K C m f/\Binds K fd ps []
theorem Hf{X:Cx}{C:Addr}{k j:Nat}{m:Str}{ps:List Str}{sp:Sp}{apos pos:Pos}{o e:Expr}{es:List Expr}{ta:TE}{t:TA}{pl:Sem Bool}(c:mJ X.prog X.w X.K X.mg X.base C j m ps sp)(cl:Cls X.K C)(hr:Room k X.A)(hjk:j<=k)(ho:PE X o ta)(ha:PA X (e::es) t)
  (a9:starEach (e::es) X.env=(false,eval e X.env)::starEach es X.env:=by rfl) (aS:(backTo pos (starEach es X.env)).any (·.1)=false:=by rfl)
  (ht:eval (.Call (.Attribute o m apos) (e::es) [] pos) X.env=(do
   let ov <-eval o X.env
   standAt apos.atName
   let(f,first) <-holding [ov] (getMethod ov m pl)
   callWith pos f first (backTo pos (starEach (e::es) X.env)) (backToKw pos (keywordEach [] X.env))):=by rfl):
  PE X (.Call (.Attribute o m apos) (e::es) [] pos) (rD C m sp [] E0 ta t):=by
 obtain⟨f,fd,F,hm,hb⟩:=c;exact vD ho cl hm F (hr.mono hjk) hb .nil vH ha a9 aS ht
theorem dU{X:Cx}{C:Addr}{k j:Nat}{m:Str}{ps:List Str}{sp:Sp}{apos pos:Pos}{o:Expr}{ta:TE}{pl:Sem Bool}(c:mJ X.prog X.w X.K X.mg X.base C j m ps sp)(cl:Cls X.K C)(hr:Room k X.A)(hjk:j<=k)(ho:PE X o ta)
  (ht:eval (.Call (.Attribute o m apos) [] [] pos) X.env=(do
   let ov <-eval o X.env
   standAt apos.atName
   let(f,first) <-holding [ov] (getMethod ov m pl)
   callWith pos f first (backTo pos (starEach [] X.env)) (backToKw pos (keywordEach [] X.env))):=by rfl):
  PE X (.Call (.Attribute o m apos) [] [] pos) (rD C m sp [] E0 ta iT):=by
 obtain⟨f,fd,F,hm,hb⟩:=c;exact yK ho cl hm F (hr.mono hjk) hb .nil vH ht
structure Txt(K:Frag)(C:Addr):Prop where
 cl:Cls K C
 nS:NoAttr K C "stages"
theorem iJ{l:Addr}:([("stages",V.ref l)]:List (Str×V)).lookup ("stages":Str)=some (V.ref l):=by
 rw[List.lookup_cons_self]
theorem gH{l:Addr}{m:Str}(h:(m==("stages":Str))=false):([("stages",V.ref l)]:List (Str×V)).lookup m=none:=by
 rw[List.lookup_cons,h];rfl
abbrev kI:Stmt:=inClass (top 60) 0
abbrev kB:Stmt:=inClass (top 60) 1
abbrev kS:Stmt:=inClass (top 60) 2
abbrev kP:Stmt:=inClass (top 60) 3
abbrev kL:Stmt:=inClass (top 60) 4
abbrev kG:Stmt:=inClass (top 60) 6
inductive SpInitI(C:Addr)(vs:List V)(H:Hp)(Q:VK):Prop
 |mk:∀p dx,(vs=[.ref p])->(H p=some (.ins C dx []))->(∀l t H',(∀b o,b≠p->H b=some o->H' b=some o)->H l=none->KpAt C H' p l [t] [⟨[],[],[]⟩]->Q .non H')->SpInitI C vs H Q
def v7(C:Addr):Sp:=fun vs H Q _=>SpInitI C vs H Q
inductive SpNowI(C:Addr)(vs:List V)(H:Hp)(Q:VK):Prop
 |mk:∀p l ts t Ss S,(vs=[.ref p])->(KpAt C H p l (ts++[t]) (Ss++[S]))->(Q (.ref t) H)->SpNowI C vs H Q
def jy(C:Addr):Sp:=fun vs H Q _=>SpNowI C vs H Q
inductive SpDeedI(C:Addr)(rv:St3->V)(ok:St3->List Int->Prop)(nx:St3->List Int->St3)(vs:List V)(H:Hp)(Q:VK):Prop
 |mk:∀p l ts t Ss S tc r,(vs=[.ref p,.ref tc])->(KpAt C H p l (ts++[t]) (Ss++[S]))->(ts.length<=100)->(H tc=some (.tup (r.map V.int)))->(ok S r)->(∀t' H',(∀b o,b≠l->H b=some o->H' b=some o)->KpAt C H' p l (ts++[t]++[t']) (Ss++[S]++[nx S r])->Q (rv S) H')->SpDeedI C rv ok nx vs H Q
def j9(C:Addr)(rv:St3->V)(ok:St3->List Int->Prop)(nx:St3->List Int->St3):Sp:=fun vs H Q _=>SpDeedI C rv ok nx vs H Q
abbrev rN:St3->V:=fun _=>.non
abbrev rP:St3->V:=fun S=>.int (S.ps.length:Int)
def qH(S:St3)(r:List Int):Prop:=okC r/\S.cs.length<20
def lA(S:St3)(r:List Int):St3:=⟨S.cs++[r],S.ps,S.ss⟩
def mL(S:St3)(r:List Int):Prop:=okP r/\S.ps.length<10
def jz(S:St3)(r:List Int):St3:=⟨S.cs,S.ps++[r],S.ss⟩
def v8(S:St3)(r:List Int):Prop:=r.length=5/\S.ss.length<12/\bT S.ps S.ss r=true
def qI(S:St3)(r:List Int):St3:=⟨S.cs,S.ps,S.ss++[r]⟩
theorem wI{ps ss:List (List Int)}{r:List Int}(hu:un ps ss=none):un (ps++[r]) ss=none:=by
 refine qF fun j hj=>?_;have h:=qG hu j hj;generalize ss.getD j []=s at h⊢;generalize ss.take j=sa at h⊢;unfold bT at h⊢;obtain⟨h1,h2⟩:=Bool.and_eq_true_iff.mp h;have tJ:=h1;unfold mF at tJ;simp only[Bool.and_eq_true,Zq]at tJ
 have e:lg (ps++[r]) s=lg ps s:=by
  unfold lg;rw[zA7,zA7,zBa Zz]
 rw[e,h2,Bool.and_true];unfold mF at h1⊢;rw[e];simp only[Bool.and_eq_true,Zq]at h1⊢;rw[zA2];refine⟨⟨h1.1.1,Zz⟩,h1.2⟩
theorem qJ{ps ss:List (List Int)}{r:List Int}(hu:un ps ss=none)(h:bT ps ss r=true):un ps (ss++[r])=none:=by
 refine qF fun j hj=>?_;rw[zA2]at hj;have hj:j<ss.length+1:=hj;by_cases av:j<ss.length
 .rw[List.take_append_of_le_length Zz,zA7,zBa av,<-zA7];exact qG hu j av
 .have e:j=ss.length:=Zz
  subst e;rw[List.take_left',zA7,zB7 (zA3 _),Nat.sub_self]
  .exact h
  .rfl
theorem wJ{r:List Int}(h:okC r):dX (bI r)=true:=by
 obtain⟨h3,hb⟩:=h;show(aY (bI r) 3&&(r.map PyData.int).all fun x=>decide (0<=intOf x)&&decide (intOf x<=999))=true;rw[show aY (bI r) 3=true from fW h3,Bool.true_and];refine List.all_eq_true.mpr fun x hx=>?_;obtain⟨i,hi,rfl⟩:=zA5.mp hx;have:=hb i hi;show(decide (0<=i)&&decide (i<=999))=true;rw[zAv Zz,zAv Zz];rfl
theorem u9{r:List Int}(h:okP r):cW (bI r)=true:=by
 obtain⟨h6,h1,h2,h3,h4,Lz⟩:=h;show(aY (bI r) 6&&j8 (at_ (bI r) 0) (at_ (bI r) 1) (at_ (bI r) 2) (at_ (bI r) 3) (at_ (bI r) 4) (at_ (bI r) 5))=true;rw[show aY (bI r) 6=true from fW h6,Bool.true_and]
 have ea:∀i,i<6->at_ (bI r) i=fl r i:=fun i hi=>by
  unfold at_ fl;show intOf ((r.map PyData.int).getD i .none)=r.getD i 0;rw[zA7,zA7,zAb,zA0 Zz];rfl
 rw[ea 0 Zx,ea 1 Zx,ea 2 Zx,ea 3 Zx,ea 4 Zx,ea 5 Zx];unfold j8;simp only[Bool.and_eq_true,Zq];exact⟨h1,h2,⟨h3.1,h3.2.1,h3.2.2⟩,h4,Lz⟩
theorem qK{r:List Int}{n:Nat}(h:r.length<=n)(hn:n<=100):sz (bI r)<=4000:=by
 show 1+szs (r.map PyData.int)<=4000;rw[iI];lia
section
variable{P:Program}{w:World}{K:Frag}{mg:Str->Option Value}{base:Heap}{C:Addr}
theorem scI:FnScope ["self"] ["self"] (az kI):=fQS
theorem CW(F:Fun K "__init__" "Keeper.__init__" kI f fd)(X:Txt K C):FnOk P w K mg base CX0 1 f fd ["self"] (v7 C):=by
 refine F.ok scI (fun vs H Q E h=>?_) (fun af A outer s H vs Q E hr h=>?_)
 .obtain⟨p,dx,rfl,_⟩:=h;rfl
 .obtain⟨p,dx,rfl,hp,q⟩:=h;refine⟨_,aA (Ef (pv 0) (eU (aq (bj (aq (gq aW) (aq (gq aW) (aq (gq aW) aj)))) aj)) rfl),?_⟩;refine⟨zL,fun e1 h1=>⟨zL,fun e2 h2=>⟨zL,fun e3 h3=>⟨zL,fun t ht=>⟨zL,fun l hl=>?_⟩⟩⟩⟩⟩;have u1:=Same.upd (o:=.tup []) h1;have u2:=Same.upd (o:=.tup []) h2;have u3:=Same.upd (o:=.tup []) h3;have u4:=Same.upd (o:=.tup [V.ref e1,V.ref e2,V.ref e3]) ht;have u5:=Same.upd (o:=.lst [V.ref t]) hl;have s5:=(((u1.trans u2).trans u3).trans u4).trans u5;have nl:H l=none:=(((u1.trans u2).trans u3).trans u4).free hl;refine⟨_,rfl,p,C,dx,[],rfl,s5 _ _ hp,X.cl,X.nS,(by show 0<1000;decide),?_⟩;have np:l≠p:=(aB hp nl).symm;have E1:=((u2.trans u3).trans u4).trans u5 _ _ (aa (H:=H) (a:=e1) (o:=.tup []));have E2:=(u3.trans u4).trans u5 _ _ (aa (H:=upd H e1 (.tup [])) (a:=e2) (o:=.tup []));have E3:=u4.trans u5 _ _ (aa (H:=upd (upd H e1 (.tup [])) e2 (.tup [])) (a:=e3) (o:=.tup []));have E4:=u5 _ _ (aa (H:=upd (upd (upd H e1 (.tup [])) e2 (.tup [])) e3 (.tup [])) (a:=t) (o:=.tup [V.ref e1,V.ref e2,V.ref e3]));have E5:=aa (H:=upd (upd (upd (upd H e1 (.tup [])) e2 (.tup [])) e3 (.tup [])) t (.tup [V.ref e1,V.ref e2,V.ref e3])) (a:=l) (o:=.lst [V.ref t]);have rh:=s5 _ _ hp;generalize upd (upd (upd (upd (upd H e1 (.tup [])) e2 (.tup [])) e3 (.tup [])) t (.tup [V.ref e1,V.ref e2,V.ref e3])) l (.lst [V.ref t])=H5 at s5 E1 E2 E3 E4 E5 rh⊢
  have kt:∀{o:HO} b x,H5 b=some (.tup x)->upd H5 p o b=some (.tup x):=fun{o} b x e=>by
   rw[ao fun z=>by rw[z,rh]at e;cases e];exact e
  refine q l t _ (fun b o n e=>by rw[ao n];exact s5 _ _ e) nl ⟨⟨dx,aa⟩,by rw[ao np];exact E5,rfl,fun i t' S h1 h2=>?_⟩
  have hi:i=0:=by
   have:=(zAa.mp h1).1;simp at this;lia
  subst hi;cases h1;cases h2;exact⟨e1,[],e2,[],e3,[],kt _ _ E4,⟨kt _ _ E1,rfl,fun i r e=>(by cases e)⟩,fun r hr=>(by cases hr),by decide,⟨kt _ _ E2,rfl,fun i r e=>(by cases e)⟩,by decide,fun r hr=>(by cases hr),⟨kt _ _ E3,rfl,fun i r e=>(by cases e)⟩,by decide,fun r hr=>(by cases hr),rfl⟩
theorem scB:FnScope ["self"] ["self"] (az kB):=fQS
theorem Fy(F:Fun K "book_now" "Keeper.book_now" kB f fd)(X:Txt K C):FnOk P w K mg base CX0 1 f fd ["self"] (jy C):=by
 refine F.ok scB (fun vs H Q E h=>?_) (fun af A outer s H vs Q E hr h=>?_)
 .obtain⟨p,l,ts,t,Ss,S,rfl,_⟩:=h;rfl
 .obtain⟨p,l,ts,t,Ss,S,rfl,k,q⟩:=h;obtain⟨dx,hp⟩:=k.ob;refine⟨_,aA (aO (pX bK (pF (pv 0) rfl) (qZ lF ak))),?_⟩;refine⟨_,rfl,p,C,dx,_,_,rfl,hp,X.cl,X.nS,iJ,1,rfl,l,_,-1,.ref t,rfl,rfl,SqL.of k.el,?_,q⟩;rw[zA4];exact Am
theorem An{H:Hp}{p l:Addr}{x0:List V}{C:Addr}{o:HO}(el:H l=some (.lst x0)):(∀b x,H b=some (.tup x)->upd H l o b=some (.tup x))/\(∀dx f,H p=some (.ins C dx f)->upd H l o p=some (.ins C dx f)):=by
 refine⟨fun b x e=>?_,fun dx f e=>?_⟩
 .rw[ao fun z=>by rw[z,el]at e;cases e];exact e
 .rw[ao fun z=>by rw[z,el]at e;cases e];exact e
theorem scS:FnScope ["self","clip","clips","promises","sales"] ["self","clip"] (az kS):=fQS
theorem Ao(F:Fun K "shear" "Keeper.shear" kS f fd)(X:Txt K C)(N:Nums mg)(c1:Cal P w K mg base 3 "is_clip" ["thing"] (spT dX))(c2:mJ P w K mg base C 1 "book_now" ["self"] (jy C))(c3:Cal P w K mg base 1 "refuse_one_more" ["rows","most"] mH):FnOk P w K mg base CX0 4 f fd ["self","clip"] (j9 C rN qH lA):=by
 refine F.ok scS (fun vs H Q E h=>?_) (fun af A outer s H vs Q E hr h=>?_)
 .obtain⟨p,l,ts,t,Ss,S,tc,r,rfl,_⟩:=h;rfl
 .obtain⟨p,l,ts,t,Ss,S,tc,r,rfl,k,js,a8,⟨dP,Jz⟩,q⟩:=h;obtain⟨t1,e1⟩:=N.clips
  refine jr (aF ⟨bw (bB (bD (aK c1 hr (aq (pv 1) aj)))) (aA jc) aN⟩
   (aF ⟨bY (dU c2 X.cl hr Zx (pv 0)) (bW rfl (au (pgn 2 scS.nd) (au (pgn 3 scS.nd) (au (pgn 4 scS.nd) bF))))⟩
   (aF ⟨bR (aK c3 hr (aq (pv 2) (aq (bQ (v:=.int 20) rfl e1 ⟨_,rfl⟩) aj)))⟩
   (bU ⟨bR (gG zB6 zBd zBc eF (pF (pv 0) rfl) (aq (bj (aq (aX gD (pv 2) (bj (aq (pv 1) aj))) (aq (pv 3) (aq (pv 4) aj)))) aj))⟩)))) ?_
  refine aD ?_;refine⟨_,rfl,fun _=>False,.ref tc,bI r,rfl,.tup a8 (IsThs.ints r),qK (n:=3) (by rw[dP.1];decide) Zx,fun H1 s1=>⟨_,rfl,?_⟩⟩;rw[wJ dP];refine bf (bu ?_);dsimp only;have k1:=k.same s1;obtain⟨dx,hp⟩:=k1.ob;obtain⟨ac,xc,ap,xp,ag,xs,B⟩:=k1.last;refine aD ?_;refine⟨_,rfl,p,dx,_,rfl,hp,gH rfl,p,l,ts,t,Ss,S,rfl,k1,t,_,rfl,SqT.of B.e,rfl,_,_,rfl,_,_,rfl,_,_,rfl,rfl,?_⟩;dsimp only;refine aD ?_;refine⟨_,rfl,ac,xc,20,rfl,B.rc.e,by rw[B.rc.l];lia,?_⟩;dsimp only;refine⟨_,rfl,p,C,dx,_,_,rfl,hp,X.cl,X.nS,iJ,.inl ⟨rfl,_,SqL.of k1.el⟩,_,rfl,_,rfl,zL,fun u1 ip=>?_⟩;have s2:=Same.upd (o:=.tup [V.ref tc]) ip;refine⟨ac,u1,xc,_,rfl,rfl,s2 _ _ B.rc.e,aa,by simp,by rw[B.rc.l,sizeLine_eq];show _+1<=_;lia,fun c H3 s3 ec=>⟨_,rfl,_,rfl,zL,fun tn kH=>?_⟩⟩;have cm:=s2.trans s3;have sN:=cm.trans (Same.upd (o:=.tup [V.ref c,V.ref ap,V.ref ag]) kH);have rc:=dM ((B.rc.same s2).same s3) (cm _ _ (s1 _ _ a8)) ec;have eW:=Same.upd (o:=.tup [V.ref c,V.ref ap,V.ref ag]) kH
  have bN:BookAt (upd H3 tn (.tup [V.ref c,V.ref ap,V.ref ag])) tn c (xc++[V.ref tc]) (S.cs++[r]) ap xp S.ps ag xs S.ss:=⟨aa,rc.same eW,fun r' b9=>by
   rcases zA6.mp b9 with z|z
   .exact B.okc r' z
   .rw[List.mem_singleton.mp z]
    exact⟨dP.1,fun x hx=>(dP.2 x hx).1⟩,by rw[zA2];show S.cs.length+1<=20;lia,B.rp.same sN,B.lp,B.okp,B.rs.same sN,B.ls,B.h5,B.un⟩
  have kN:=k1.same sN;have iq:=kN.el;generalize upd H3 tn (.tup [V.ref c,V.ref ap,V.ref ag])=HN at bN kN iq sN⊢;refine⟨l,_,.ref tn,rfl,rfl,iq,by rw[zA1,zA2,sizeLine_eq];show ts.length+1<_;lia,?_⟩;rw[show(ts++[t]).map V.ref++[V.ref tn]=(ts++[t]++[tn]).map V.ref by rw[zA4 (l₁:=ts++[t])];rfl];obtain⟨kt,kp⟩:=An (p:=p) (C:=C) (o:=.lst ((ts++[t]++[tn]).map V.ref)) iq;exact q tn _ (fun b o n e=>by rw[ao n];exact sN _ _ (s1 _ _ e)) (kN.snoc kt kp aa (Bk.keep ⟨_,_,_,_,_,_,bN⟩ kt))
theorem scP:FnScope ["self","promise","clips","promises","sales"] ["self","promise"] (az kP):=fQS
theorem yd(F:Fun K "pledge" "Keeper.pledge" kP f fd)(X:Txt K C)(T:Mg mg)(N:Nums mg)(c1:Cal P w K mg base 3 "is_promise" ["thing"] (spT cW))(c2:mJ P w K mg base C 1 "book_now" ["self"] (jy C))(c3:Cal P w K mg base 1 "refuse_one_more" ["rows","most"] mH):FnOk P w K mg base CX0 4 f fd ["self","promise"] (j9 C rP mL jz):=by
 refine F.ok scP (fun vs H Q E h=>?_) (fun af A outer s H vs Q E hr h=>?_)
 .obtain⟨p,l,ts,t,Ss,S,tc,r,rfl,_⟩:=h;rfl
 .obtain⟨p,l,ts,t,Ss,S,tc,r,rfl,k,js,a8,⟨dP,Jz⟩,q⟩:=h;obtain⟨t1,e1⟩:=N.proms
  refine jr (aF ⟨bw (bB (bD (aK c1 hr (aq (pv 1) aj)))) (aA jc) aN⟩
   (aF ⟨bY (dU c2 X.cl hr Zx (pv 0)) (bW rfl (au (pgn 2 scP.nd) (au (pgn 3 scP.nd) (au (pgn 4 scP.nd) bF))))⟩
   (aF ⟨bR (aK c3 hr (aq (pv 3) (aq (bQ (v:=.int 10) rfl e1 ⟨_,rfl⟩) aj)))⟩
   (aF ⟨bR (gG zB6 zBd zBc eF (pF (pv 0) rfl) (aq (bj (aq (pv 2) (aq (aX gD (pv 3) (bj (aq (pv 1) aj))) (aq (pv 4) aj)))) aj))⟩ (bU (gr ⟨aH aP rfl T.len PySem.boot_len (aq (pv 3) aj)⟩)))))) ?_
  refine aD ?_;refine⟨_,rfl,fun _=>False,.ref tc,bI r,rfl,.tup a8 (IsThs.ints r),qK (n:=6) (by rw[dP.1];decide) Zx,fun H1 s1=>⟨_,rfl,?_⟩⟩;rw[u9 dP];refine bf (bu ?_);dsimp only;have k1:=k.same s1;obtain⟨dx,hp⟩:=k1.ob;obtain⟨ac,xc,ap,xp,ag,xs,B⟩:=k1.last;refine aD ?_;refine⟨_,rfl,p,dx,_,rfl,hp,gH rfl,p,l,ts,t,Ss,S,rfl,k1,t,_,rfl,SqT.of B.e,rfl,_,_,rfl,_,_,rfl,_,_,rfl,rfl,?_⟩;dsimp only;refine aD ?_;refine⟨_,rfl,ap,xp,10,rfl,B.rp.e,by rw[B.rp.l];lia,?_⟩;dsimp only;refine aD ?_;refine⟨_,rfl,p,C,dx,_,_,rfl,hp,X.cl,X.nS,iJ,.inl ⟨rfl,_,SqL.of k1.el⟩,_,rfl,_,rfl,_,rfl,zL,fun u1 ip=>?_⟩;have s2:=Same.upd (o:=.tup [V.ref tc]) ip;refine⟨ap,u1,xp,_,rfl,rfl,s2 _ _ B.rp.e,aa,by simp,by rw[B.rp.l,sizeLine_eq];show _+1<=_;lia,fun c H3 s3 ec=>⟨_,rfl,zL,fun tn kH=>?_⟩⟩;have cm:=s2.trans s3;have sN:=cm.trans (Same.upd (o:=.tup [V.ref ac,V.ref c,V.ref ag]) kH);have rc:=dM ((B.rp.same s2).same s3) (cm _ _ (s1 _ _ a8)) ec;have eW:=Same.upd (o:=.tup [V.ref ac,V.ref c,V.ref ag]) kH
  have bN:BookAt (upd H3 tn (.tup [V.ref ac,V.ref c,V.ref ag])) tn ac xc S.cs c (xp++[V.ref tc]) (S.ps++[r]) ag xs S.ss:=⟨aa,B.rc.same sN,B.okc,B.lc,rc.same eW,by rw[zA2];show S.ps.length+1<=10;lia,fun r' b9=>by
   rcases zA6.mp b9 with z|z
   .exact B.okp r' z
   .rw[List.mem_singleton.mp z]
    exact dP,B.rs.same sN,B.ls,B.h5,wI B.un⟩
  have kN:=k1.same sN;have iq:=kN.el;have ep:=sN _ _ B.rp.e;generalize upd H3 tn (.tup [V.ref ac,V.ref c,V.ref ag])=HN at bN kN iq sN ep⊢;refine⟨l,_,.ref tn,rfl,rfl,iq,by rw[zA1,zA2,sizeLine_eq];show ts.length+1<_;lia,?_⟩;rw[show(ts++[t]).map V.ref++[V.ref tn]=(ts++[t]++[tn]).map V.ref by rw[zA4 (l₁:=ts++[t])];rfl];obtain⟨kt,kp⟩:=An (p:=p) (C:=C) (o:=.lst ((ts++[t]++[tn]).map V.ref)) iq;dsimp only;refine⟨_,rfl,ap,xp,rfl,.inr (SqT.of (kt _ _ ep)),?_⟩;rw[B.rp.l];exact q tn _ (fun b o n e=>by rw[ao n];exact sN _ _ (s1 _ _ e)) (kN.snoc kt kp aa (Bk.keep ⟨_,_,_,_,_,_,bN⟩ kt))
theorem scL:FnScope ["self","sale","clips","promises","sales"] ["self","sale"] (az kL):=fQS
theorem Aq(F:Fun K "sell" "Keeper.sell" kL f fd)(X:Txt K C)(N:MS mg)(c1:Cal P w K mg base 2 "are_wholes" ["thing","many"] (zR aY))(c4:Cal P w K mg base 2 "sale_holds" ["promises","ahead","sale"] qD)(c2:mJ P w K mg base C 1 "book_now" ["self"] (jy C))(c3:Cal P w K mg base 1 "refuse_one_more" ["rows","most"] mH):FnOk P w K mg base CX0 4 f fd ["self","sale"] (j9 C rN v8 qI):=by
 refine F.ok scL (fun vs H Q E h=>?_) (fun af A outer s H vs Q E hr h=>?_)
 .obtain⟨p,l,ts,t,Ss,S,tc,r,rfl,_⟩:=h;rfl
 .obtain⟨p,l,ts,t,Ss,S,tc,r,rfl,k1,js,a8,⟨r5,Jz,hh⟩,q⟩:=h;obtain⟨t1,e1⟩:=N.sales
  refine jr (aF ⟨bY (dU c2 X.cl hr Zx (pv 0)) (bW rfl (au (pgn 2 scL.nd) (au (pgn 3 scL.nd) (au (pgn 4 scL.nd) bF))))⟩
   (aF ⟨bR (aK c3 hr (aq (pv 4) (aq (bQ (v:=.int 12) rfl e1 ⟨_,rfl⟩) aj)))⟩
   (aF ⟨bw (PW.pt (fO (bB (bD (aK c1 hr (aq (pv 1) (aq ak aj))))) (fj (bB (bD (aK c4 hr (aq (pv 3) (aq (pv 4) (aq (pv 1) aj))))))))) (aA jc) aN⟩
   (bU ⟨bR (gG zB6 zBd zBc eF (pF (pv 0) rfl) (aq (bj (aq (pv 2) (aq (pv 3) (aq (aX gD (pv 4) (bj (aq (pv 1) aj))) aj)))) aj))⟩)))) ?_
  obtain⟨dx,hp⟩:=k1.ob;obtain⟨ac,xc,ap,xp,ag,xs,B⟩:=k1.last;refine aD ?_;refine⟨_,rfl,p,dx,_,rfl,hp,gH rfl,p,l,ts,t,Ss,S,rfl,k1,t,_,rfl,SqT.of B.e,rfl,_,_,rfl,_,_,rfl,_,_,rfl,rfl,?_⟩;dsimp only;refine aD ?_;refine⟨_,rfl,ag,xs,12,rfl,B.rs.e,by rw[B.rs.l];lia,?_⟩;dsimp only;refine aD ?_;refine⟨_,rfl,fun _=>False,.ref tc,bI r,5,rfl,.tup a8 (IsThs.ints r),qK (n:=5) (by rw[r5];decide) Zx,fun H1 s1=>⟨_,rfl,?_⟩⟩;rw[show aY (bI r) 5=true from fW r5];refine bf ?_;refine⟨_,rfl,_,rfl,_,rfl,ap,xp,S.ps,ag,xs,S.ss,tc,r,rfl,B.rp.same s1,B.okp,B.rs.same s1,B.ls,wG B.un B.h5,s1 _ _ a8,r5,fun H2 s2=>⟨_,rfl,?_⟩⟩;rw[hh];refine bf (bu ?_);dsimp only;have vF:=s1.trans s2;have k2:=k1.same vF;have B:=B.same vF;have hp:=vF _ _ hp;refine⟨_,rfl,p,C,dx,_,_,rfl,hp,X.cl,X.nS,iJ,.inl ⟨rfl,_,SqL.of k2.el⟩,_,rfl,_,rfl,_,rfl,_,rfl,zL,fun u1 ip=>?_⟩;have s4:=Same.upd (o:=.tup [V.ref tc]) ip;refine⟨ag,u1,xs,_,rfl,rfl,s4 _ _ B.rs.e,aa,by simp,by rw[B.rs.l,sizeLine_eq];show _+1<=_;lia,fun c H3 s3 ec=>⟨zL,fun tn kH=>?_⟩⟩;have cm:=s4.trans s3;have eW:=Same.upd (o:=.tup [V.ref ac,V.ref ap,V.ref c]) kH;have sN:=cm.trans eW;have rc:=dM ((B.rs.same s4).same s3) (cm _ _ (vF _ _ a8)) ec
  have bN:BookAt (upd H3 tn (.tup [V.ref ac,V.ref ap,V.ref c])) tn ac xc S.cs ap xp S.ps c (xs++[V.ref tc]) (S.ss++[r]):=⟨aa,B.rc.same sN,B.okc,B.lc,B.rp.same sN,B.lp,B.okp,rc.same eW,by rw[zA2];show S.ss.length+1<=12;lia,fun r' b9=>by
   rcases zA6.mp b9 with z|z
   .exact B.h5 r' z
   .rw[List.mem_singleton.mp z]
    exact r5,qJ B.un hh⟩
  have kN:=k2.same sN;have iq:=kN.el;generalize upd H3 tn (.tup [V.ref ac,V.ref ap,V.ref c])=HN at bN kN iq sN⊢;refine⟨l,_,.ref tn,rfl,rfl,iq,by rw[zA1,zA2,sizeLine_eq];show ts.length+1<_;lia,?_⟩;rw[show(ts++[t]).map V.ref++[V.ref tn]=(ts++[t]++[tn]).map V.ref by rw[zA4 (l₁:=ts++[t])];rfl];obtain⟨kt,kp⟩:=An (p:=p) (C:=C) (o:=.lst ((ts++[t]++[tn]).map V.ref)) iq;exact q tn _ (fun b o n e=>by rw[ao n];exact sN _ _ (vF _ _ e)) (kN.snoc kt kp aa (Bk.keep ⟨_,_,_,_,_,_,bN⟩ kt))
end
abbrev kT:Stmt:=inClass (top 19) 0
theorem Ar{vs p}:Plain (.JoinedStr vs p):=⟨fun _ _=>rfl⟩
inductive SpTMI(C:Addr)(vs:List V)(H:Hp)(Q:VK):Prop
 |mk:∀(a:Addr) (m k:Int),(vs=[.ref a,.int m,.int k])->(H a=some (.ext (excN a (C,none))))->(m.natAbs<=1000)->(k.natAbs<=1000)->(∀D H',(∀b o,b≠a->H b=some o->H' b=some o)->H D=none->D≠a->H' a=some (.ext (excN a (C,some D)))->H' D=some (.ext (mmAt D [("most",k),("many",m)]))->Q .non H')->SpTMI C vs H Q
def GQ(C:Addr):Sp:=fun vs H Q _=>SpTMI C vs H Q
structure TMF(K:Frag)(Cs:Nat->Addr):Prop where
 mc:MakC K (Cs 16)
 b0:Base0 K (Cs 17)
 n1:PySem.W.findIn K (.ref (Cs 16)) "many"=some none
 n2:PySem.W.findIn K (.ref (Cs 16)) "most"=some none
theorem scT:FnScope ["self","many","most"] ["self","many","most"] (az kT):=fQS
theorem Fz{f:Addr}{fd:FuncData}{Cs:Nat->Addr}(F:Fun K "__init__" "TooMany.__init__" kT f fd)(L:Clss mg Cs)(M:TMF K Cs):FnOk P w K mg base CX0 1 f fd ["self","many","most"] (GQ (Cs 16)):=by
 refine F.ok scT (fun vs H Q E h=>?_) (fun af A outer s H vs Q E hr h=>?_)
 .obtain⟨a,m,k,rfl,_⟩:=h;rfl
 .obtain⟨a,m,k,rfl,ea,lm,lk,q⟩:=h;refine jr (aF ⟨bR (zM rfl L.wool M.b0 (aq (pv 0) (aq (BP (pv 1) (pv 2) Zx Zx) aj Ar)))⟩ (aF ⟨vV rfl (pv 0) (pv 1) rfl⟩ (bU ⟨vV rfl (pv 0) (pv 2) rfl⟩))) ?_;refine aD ?_;refine⟨_,rfl,_,rfl,m,rfl,lm,_,rfl,k,rfl,lk,fun z=>⟨a,(Cs 16,none),[.str z],rfl,(by show 1<=100;decide),ea,rfl,M.mc.ve,?_⟩⟩;have e1:upd H a (.ext (excN a (Cs 16,none))) a=_:=aa
  have k1:∀b o,b≠a->H b=some o->upd H a (.ext (excN a (Cs 16,none))) b=some o:=fun b o n e=>by rw[ao n];exact e
  have n1:∀b,b≠a->upd H a (.ext (excN a (Cs 16,none))) b=none->H b=none:=fun b n e=>by rw[ao n]at e;exact e
  generalize upd H a (.ext (excN a (Cs 16,none)))=H1 at e1 k1 n1⊢;refine aD ?_;refine⟨_,rfl,_,rfl,a,(Cs 16,none),m,rfl,rfl,e1,M.mc,M.n1,.inl ⟨rfl,fun d hd nd=>?_⟩⟩;refine⟨_,rfl,_,rfl,a,(Cs 16,some d),k,rfl,rfl,by rw[ao nd.symm];exact aa,M.mc,M.n2,.inr ⟨d,[("many",m)],rfl,nd,aa,(by show 1<1000;decide),?_⟩⟩;refine q d _ (fun b o n e=>?_) (n1 d nd hd) nd ?_ aa
  .have hb:b≠d:=fun z=>by rw[z,n1 d nd hd]at e;cases e
   rw[ao hb,ao hb,ao n];exact k1 b o n e
  .rw[ao nd.symm,ao nd.symm];exact aa
def TMk(P:Program)(w:World)(K:Frag)(mg:Str->Option Value)(base:Heap)(Cs:Nat->Addr):Prop:=
 ∃f fd,FnOk P w K mg base CX0 1 f fd ["self","many","most"] (GQ (Cs 16))/\OwnInit (Cs 16) VE "ValueError.__new__" f base/\PySem.W.typeIn K (.ref f)=some (.type "function")/\Binds K fd ["self","many","most"] []/\PySem.W.keepIn K (.ref (Cs 16))=true/\PySem.W.mroIn K (Cs 16) (.type "BaseException")=some true
def manyX(Cs:Nat->Addr)(H:Hp)(E:XK)(m k:Int):Prop:=∀e D H',Same H H'->H' e=none->H' D=some (.ext (mmAt D [("most",k),("many",m)]))->E (.ref e) (some (Cs 16,some D)) H'
def wK(Cs:Nat->Addr):Sp:=fun vs H _ E=>∃a xs m,vs=[.ref a,.int m]/\H a=some (.tup xs)/\m<=xs.length/\xs.length<=100/\0<=m/\manyX Cs H E (xs.length+1) m
theorem Av{f:Addr}{fd:FuncData}{Cs:Nat->Addr}(F:Fun K "refuse_one_more" "refuse_one_more" (top 37) f fd)(T:Mg mg)(L:Clss mg Cs)(tm:TMk P w K mg base Cs):FnOk P w K mg base (CX1 P w) 3 f fd ["rows","most"] (wK Cs):=by
 refine F.okX GP (fun vs H Q E h=>?_) (fun af A outer s H vs Q E hr h=>?_)
 .obtain⟨a,xs,m,rfl,_⟩:=h;rfl
 .obtain⟨a,xs,m,rfl,e,hl,LA,m0,q⟩:=h;obtain⟨ft,Pa,Ft,O,fn,hb,kp,be⟩:=tm;refine⟨_,aA (bw (aU rA (aH aP rfl T.len PySem.boot_len (aq (pv 0) aj)) (pv 1) (aV _)) (aA (xO O PySem.F.excBase_ValueError fn kp be Ft hr hb rfl rfl rfl L.n16 (aq (aX dg (aH aP rfl T.len PySem.boot_len (aq (pv 0) aj)) ak) (aq (pv 1) aj)) d8)) aN),?_⟩;refine⟨_,rfl,a,xs,rfl,.inr (SqT.of e),_,rfl,_,_,rfl,rfl,_,rfl,?_⟩;rw[zAv (show((xs.length:Int)≥m) by lia)];refine bh ?_;refine⟨_,rfl,a,xs,rfl,.inr (SqT.of e),_,_,rfl,rfl,_,rfl,(by show 2<=100;decide),fun x hx=>?_⟩;refine⟨x,_,m,rfl,aa,Zz,Zz,fun D H' kk nD hD ex eD=>⟨rfl,D,ex,⟨_,eD⟩,hD,?_⟩⟩;have Pb:H D=none:=by rw[ao hD]at nD;exact nD
  refine q x D (drp H' x) (fun b o eb=>?_) jn (by rw[lY hD];exact eD)
  have hb:b≠x:=fun z=>by rw[z,hx]at eb;cases eb
  rw[lY hb];exact kk b o hb (by rw[ao hb];exact eb)
def Aw(Cs:Nat->Addr)(H:Hp)(E:XK)(j:Nat):Prop:=∀e H',Same H H'->H' e=none->E (.ref e) (some (Cs j,none)) H'
theorem manyX.same{Cs:Nat->Addr}{H H1:Hp}{E:XK}{m k:Int}(x:manyX Cs H E m k)(s:Same H H1):manyX Cs H1 E m k:=fun e D H' s' he hD=>x e D H' (s.trans s') he hD
def oZ(P:Program)(w:World)(K:Frag)(mg:Str->Option Value)(base:Heap)(C:Addr)(k:Nat)(m:Str)(ps:List Str)(sp:Sp):Prop:=
 ∃f fd,FnOk P w K mg base (CX1 P w) k f fd ps sp/\Meth K C m f/\Binds K fd ps []
theorem jA{X:Cx}{C:Addr}{k j:Nat}{m:Str}{ps:List Str}{sp:Sp}{E:XK}{apos pos:Pos}{o e:Expr}{es:List Expr}{ta:TE}{t:TA}{pl:Sem Bool}(c:oZ X.prog X.w X.K X.mg X.base C j m ps sp)(cl:Cls X.K C)(hr:Room k X.A)(hjk:j<=k)(W:nG X fun a C H=>E (.ref a) (some C) H)(hx:X.ex=[])(ho:PE X o ta)(ha:PA X (e::es) t)
  (a9:starEach (e::es) X.env=(false,eval e X.env)::starEach es X.env:=by rfl) (aS:(backTo pos (starEach es X.env)).any (·.1)=false:=by rfl)
  (ht:eval (.Call (.Attribute o m apos) (e::es) [] pos) X.env=(do
   let ov <-eval o X.env
   standAt apos.atName
   let(f,first) <-holding [ov] (getMethod ov m pl)
   callWith pos f first (backTo pos (starEach (e::es) X.env)) (backToKw pos (keywordEach [] X.env))):=by rfl):
  PE X (.Call (.Attribute o m apos) (e::es) [] pos) (rD C m sp [] E ta t):=by
 obtain⟨f,fd,F,hm,hb⟩:=c;exact vD ho cl hm F (hr.mono hjk) hb .nil (zz W hx) ha a9 aS ht
def qL(Cs:Nat->Addr):Sp:=fun vs H Q E=>mH vs H Q E\/wK Cs vs H Q E
def kO(C:Addr)(Cs:Nat->Addr)(j:Nat)(bad:St3->PyData->Prop)(full:St3->PyData->Int->Int->Prop):Sp:=fun vs H _ E=>∃S0 p l ts t Ss S v d,vs=[.ref p,v]/\KpAt C H p l (ts++[t]) (Ss++[S])/\IsTh S0 H v d/\sz d<=4000 /\
 ((bad S d/\Aw Cs H E j)\/∃m k,full S d m k/\manyX Cs H E m k)
def mO(S:St3)(d:PyData):Prop:=dX d=false
def jV(S:St3)(d:PyData)(m k:Int):Prop:=dX d=true/\S.cs.length=20/\m=21/\k=20
def jW(S:St3)(d:PyData):Prop:=cW d=false
def jb(S:St3)(d:PyData)(m k:Int):Prop:=cW d=true/\S.ps.length=10/\m=11/\k=10
def qM(S:St3)(d:PyData):Prop:=S.ss.length<12/\(aY d 5=false\/∃r:List Int,d=bI r/\r.length=5/\bT S.ps S.ss r=false)
def mQ(S:St3)(d:PyData)(m k:Int):Prop:=S.ss.length=12/\m=13/\k=12
section
variable{P:Program}{w:World}{K:Frag}{mg:Str->Option Value}{base:Heap}{C:Addr}{Cs:Nat->Addr}
theorem either{CX:CXT}{k:Nat}{f:Addr}{fd:FuncData}{ps:List Str}{JA JB:Sp}(F:FnOk P w K mg base CX0 k f fd ps JA)(G:FnOk P w K mg base CX k f fd ps JB):FnOk P w K mg base CX k f fd ps (fun vs H Q E=>JA vs H Q E\/JB vs H Q E):=
 ⟨fun vs H Q E h=>h.elim (F.len vs H Q E) (G.len vs H Q E),fun A outer s H args us vs Q E hr e b v h=>h.elim (fun h=>codeAny_mono (F.run A outer s H args us vs Q E hr e b v h) fun r s' hq=>by
  cases r with
  |ok o=>
   cases o with
   |ret u=>exact hq
   |_=>exact(show False from hq).elim
  |error x=>exact(show False from hq).elim) fun h=>G.run A outer s H args us vs Q E hr e b v h⟩
theorem ye(F:Fun K "shear" "Keeper.shear" kS f fd)(X:Txt K C)(N:Nums mg)(O:PyProof.Rows.OwnCls "NoClip" (Cs 11) VE "ValueError.__new__" mg base)(c1:Cal P w K mg base 3 "is_clip" ["thing"] (spT dX))(c2:mJ P w K mg base C 1 "book_now" ["self"] (jy C))(c3:tU P w K mg base 3 "refuse_one_more" ["rows","most"] (qL Cs)):FnOk P w K mg base (CX1 P w) 4 f fd ["self","clip"] (kO C Cs 11 mO jV):=by
 refine F.okX scS (fun vs H Q E h=>?_) (fun af A outer s H vs Q E hr h=>?_)
 .obtain⟨S0,p,l,ts,t,Ss,S,v,d,rfl,_⟩:=h;rfl
 .obtain⟨S0,p,l,ts,t,Ss,S,v,d,rfl,k,tv,hz,q⟩:=h;obtain⟨t1,e1⟩:=N.clips
  refine jr (aF ⟨bw (bB (bD (aK c1 hr (aq (pv 1) aj)))) (aA (jl O PySem.F.excBase_ValueError rfl rfl rfl (aq cA aj) d8)) aN⟩
   (aF ⟨bY (dU c2 X.cl hr Zx (pv 0)) (bW rfl (au (pgn 2 scS.nd) (au (pgn 3 scS.nd) (au (pgn 4 scS.nd) bF))))⟩
   (aF ⟨bR (gB (E:=E) c3 hr Zx rfl d8 rfl (aq (pv 2) (aq (bQ (v:=.int 20) rfl e1 ⟨_,rfl⟩) aj)))⟩ ⟨cz⟩))) ?_
  refine aD ?_;refine⟨_,rfl,S0,v,d,rfl,tv,hz,fun H1 s1=>⟨_,rfl,?_⟩⟩;rcases q with⟨b,q⟩|⟨m,kk,⟨b,rq,rfl,rfl⟩,q⟩
  .rw[show dX d=false from b];refine bh ?_;exact⟨zL,fun a na=>q a H1 s1 na⟩
  .rw[b];refine bf (bu ?_);dsimp only;have k1:=k.same s1;obtain⟨dx,hp⟩:=k1.ob;obtain⟨ac,xc,ap,xp,ag,xs,B⟩:=k1.last;refine aD ?_;refine⟨_,rfl,p,dx,_,rfl,hp,gH rfl,p,l,ts,t,Ss,S,rfl,k1,t,_,rfl,SqT.of B.e,rfl,_,_,rfl,_,_,rfl,_,_,rfl,rfl,?_⟩;dsimp only;refine aD ?_;refine⟨_,rfl,.inr ⟨ac,xc,20,rfl,B.rc.e,by rw[B.rc.l];lia,by rw[B.rc.l];lia,by decide,?_⟩⟩;have:=q.same s1;rw[show((xc.length:Int)+1)=21 by rw[B.rc.l];lia];exact this
theorem v9(F:Fun K "pledge" "Keeper.pledge" kP f fd)(X:Txt K C)(N:Nums mg)(O:PyProof.Rows.OwnCls "NoPromise" (Cs 9) VE "ValueError.__new__" mg base)(c1:Cal P w K mg base 3 "is_promise" ["thing"] (spT cW))(c2:mJ P w K mg base C 1 "book_now" ["self"] (jy C))(c3:tU P w K mg base 3 "refuse_one_more" ["rows","most"] (qL Cs)):FnOk P w K mg base (CX1 P w) 4 f fd ["self","promise"] (kO C Cs 9 jW jb):=by
 refine F.okX scP (fun vs H Q E h=>?_) (fun af A outer s H vs Q E hr h=>?_)
 .obtain⟨S0,p,l,ts,t,Ss,S,v,d,rfl,_⟩:=h;rfl
 .obtain⟨S0,p,l,ts,t,Ss,S,v,d,rfl,k,tv,hz,q⟩:=h;obtain⟨t1,e1⟩:=N.proms
  refine jr (aF ⟨bw (bB (bD (aK c1 hr (aq (pv 1) aj)))) (aA (jl O PySem.F.excBase_ValueError rfl rfl rfl (aq cA aj) d8)) aN⟩
   (aF ⟨bY (dU c2 X.cl hr Zx (pv 0)) (bW rfl (au (pgn 2 scP.nd) (au (pgn 3 scP.nd) (au (pgn 4 scP.nd) bF))))⟩
   (aF ⟨bR (gB (E:=E) c3 hr Zx rfl d8 rfl (aq (pv 3) (aq (bQ (v:=.int 10) rfl e1 ⟨_,rfl⟩) aj)))⟩ ⟨cz⟩))) ?_
  refine aD ?_;refine⟨_,rfl,S0,v,d,rfl,tv,hz,fun H1 s1=>⟨_,rfl,?_⟩⟩;rcases q with⟨b,q⟩|⟨m,kk,⟨b,rq,rfl,rfl⟩,q⟩
  .rw[show cW d=false from b];refine bh ?_;exact⟨zL,fun a na=>q a H1 s1 na⟩
  .rw[b];refine bf (bu ?_);dsimp only;have k1:=k.same s1;obtain⟨dx,hp⟩:=k1.ob;obtain⟨ac,xc,ap,xp,ag,xs,B⟩:=k1.last;refine aD ?_;refine⟨_,rfl,p,dx,_,rfl,hp,gH rfl,p,l,ts,t,Ss,S,rfl,k1,t,_,rfl,SqT.of B.e,rfl,_,_,rfl,_,_,rfl,_,_,rfl,rfl,?_⟩;dsimp only;refine aD ?_;refine⟨_,rfl,.inr ⟨ap,xp,10,rfl,B.rp.e,by rw[B.rp.l];lia,by rw[B.rp.l];lia,by decide,?_⟩⟩;have:=q.same s1;rw[show((xp.length:Int)+1)=11 by rw[B.rp.l];lia];exact this
theorem Ax(F:Fun K "sell" "Keeper.sell" kL f fd)(X:Txt K C)(N:MS mg)(O:PyProof.Rows.OwnCls "NoSale" (Cs 12) VE "ValueError.__new__" mg base)(c1:Cal P w K mg base 2 "are_wholes" ["thing","many"] (zR aY))(c4:Cal P w K mg base 2 "sale_holds" ["promises","ahead","sale"] qD)(c2:mJ P w K mg base C 1 "book_now" ["self"] (jy C))(c3:tU P w K mg base 3 "refuse_one_more" ["rows","most"] (qL Cs)):FnOk P w K mg base (CX1 P w) 4 f fd ["self","sale"] (kO C Cs 12 qM mQ):=by
 refine F.okX scL (fun vs H Q E h=>?_) (fun af A outer s H vs Q E hr h=>?_)
 .obtain⟨S0,p,l,ts,t,Ss,S,v,d,rfl,_⟩:=h;rfl
 .obtain⟨S0,p,l,ts,t,Ss,S,v,d,rfl,k1,tv,hz,q⟩:=h;obtain⟨t1,e1⟩:=N.sales
  refine jr (aF ⟨bY (dU c2 X.cl hr Zx (pv 0)) (bW rfl (au (pgn 2 scL.nd) (au (pgn 3 scL.nd) (au (pgn 4 scL.nd) bF))))⟩
   (aF ⟨bR (gB (E:=E) c3 hr Zx rfl d8 rfl (aq (pv 4) (aq (bQ (v:=.int 12) rfl e1 ⟨_,rfl⟩) aj)))⟩
   (aF ⟨bw (PW.pt (fO (bB (bD (aK c1 hr (aq (pv 1) (aq ak aj))))) (fj (bB (bD (aK c4 hr (aq (pv 3) (aq (pv 4) (aq (pv 1) aj))))))))) (aA (jl O PySem.F.excBase_ValueError rfl rfl rfl (aq cA aj) d8)) aN⟩ ⟨cz⟩))) ?_
  obtain⟨dx,hp⟩:=k1.ob;obtain⟨ac,xc,ap,xp,ag,xs,B⟩:=k1.last;refine aD ?_;refine⟨_,rfl,p,dx,_,rfl,hp,gH rfl,p,l,ts,t,Ss,S,rfl,k1,t,_,rfl,SqT.of B.e,rfl,_,_,rfl,_,_,rfl,_,_,rfl,rfl,?_⟩;dsimp only;refine aD ?_;rcases q with⟨⟨rL,b⟩,q⟩|⟨m,kk,⟨rL,rfl,rfl⟩,q⟩
  .refine⟨_,rfl,.inl ⟨ag,xs,12,rfl,B.rs.e,by rw[B.rs.l];lia,?_⟩⟩;dsimp only;refine aD ?_;refine⟨_,rfl,S0,v,d,5,rfl,tv,hz,fun H1 s1=>⟨_,rfl,?_⟩⟩;rcases b with b|⟨r,rfl,r5,hh⟩
   .rw[b];refine bh ?_;exact⟨zL,fun a na=>q a H1 s1 na⟩
   .rw[show aY (bI r) 5=true from fW r5];refine bf ?_;obtain⟨tc,rfl,a8⟩:∃tc,v=.ref tc/\H tc=some (.tup (r.map V.int)):=mz tv;refine⟨_,rfl,_,rfl,_,rfl,ap,xp,S.ps,ag,xs,S.ss,tc,r,rfl,B.rp.same s1,B.okp,B.rs.same s1,B.ls,wG B.un B.h5,s1 _ _ a8,r5,fun H2 s2=>⟨_,rfl,?_⟩⟩;rw[hh];refine bh ?_;exact⟨zL,fun a na=>q a H2 (s1.trans s2) na⟩
  .refine⟨_,rfl,.inr ⟨ag,xs,12,rfl,B.rs.e,by rw[B.rs.l];lia,by rw[B.rs.l];lia,by decide,?_⟩⟩;rw[show((xs.length:Int)+1)=13 by rw[B.rs.l];lia];exact q
end
def Dw(Cs:Nat->Addr):Sp:=fun vs H _ E=>∃S a xs vy y,vs=[.ref a,vy]/\H a=some (.tup xs)/\IsTh S H vy y/\sz y<=4000/\fM y 0 ((xs.length:Int)-1)=false/\Aw Cs H E 5
def Dy(C:Addr)(Cs:Nat->Addr):Sp:=fun vs H _ E=>∃S0 p l ts t Ss S vy y,vs=[.ref p,vy]/\KpAt C H p l (ts++[t]) (Ss++[S])/\IsTh S0 H vy y/\sz y<=4000/\fM y 0 ((S.cs.length:Int)-1)=false/\Aw Cs H E 5
section
variable{P:Program}{w:World}{K:Frag}{mg:Str->Option Value}{base:Heap}{C:Addr}{Cs:Nat->Addr}
theorem Ih:FnScope ["thing","least","most"] ["thing","least","most"] (az (top 22)):=fQS
theorem nM(F:Fun K "is_whole_from" "is_whole_from" (top 22) f fd)(c1:Cal P w K mg base 1 "is_whole" ["thing"] (spT b8)):FnOk P w K mg base CX0 2 f fd ["thing","least","most"] (uR fM):=by
 refine F.ok Ih (fun vs H Q E h=>?_) (fun af A outer s H vs Q E hr h=>?_)
 .obtain⟨S,v,d,n,m,rfl,_⟩:=h;rfl
 .obtain⟨S,v,d,n,m,rfl,th,hz,q⟩:=h;refine⟨_,aA (aO (cJ (aK c1 hr (aQ (pv 0) aj)) (fB (cg bC bC (pv 1) (pv 0) (pv 2))))),?_⟩;refine⟨_,rfl,S,v,d,rfl,th,hz,fun H1 s1=>⟨_,rfl,?_⟩⟩;have fin:=q H1 s1;unfold fM at fin
  cases e:b8 d with
  |false=>
   rw[e]at fin;exact bf fin
  |true=>
   rw[e]at fin;obtain⟨i,rfl,rfl⟩:=fU th e;exact bh (bH (cV rfl) (cV rfl) (cV rfl) _ fin)
theorem Ii:FnScope ["clips","year"] ["clips","year"] (az (top 58)):=fQS
theorem Ay(F:Fun K "refuse_no_year_of" "refuse_no_year_of" (top 58) f fd)(T:Mg mg)(O:PyProof.Rows.OwnCls "NoYear" (Cs 5) VE "ValueError.__new__" mg base)(c1:Cal P w K mg base 2 "is_whole_from" ["thing","least","most"] (uR fM)):FnOk P w K mg base (CX1 P w) 3 f fd ["clips","year"] (Dw Cs):=by
 refine F.okX Ii (fun vs H Q E h=>?_) (fun af A outer s H vs Q E hr h=>?_)
 .obtain⟨S,ac,xc,vy,y,rfl,_⟩:=h;rfl
 .obtain⟨S,ac,xc,vy,y,rfl,ec,ty,zy,b,q⟩:=h;refine⟨_,aA (bw (bB (bD (aK c1 hr (aq (pv 1) (aq ak (aq (aX pC (aH aP rfl T.len PySem.boot_len (aq (pv 0) aj)) ak) aj)))))) (aA (jl O PySem.F.excBase_ValueError rfl rfl rfl (aq cA aj) d8)) aN),?_⟩;refine⟨_,rfl,_,rfl,ac,_,rfl,.inr (SqT.of ec),_,_,rfl,rfl,S,vy,y,0,_,rfl,ty,zy,fun H1 s1=>⟨_,rfl,?_⟩⟩;rw[b];exact bh ⟨zL,fun a ha=>q a _ s1 ha⟩
theorem scG:FnScope ["self","year","book"] ["self","year"] (az kG):=fQS
theorem yf(F:Fun K "gifts_of" "Keeper.gifts_of" kG f fd)(X:Txt K C)(c2:mJ P w K mg base C 1 "book_now" ["self"] (jy C))(c3:tU P w K mg base 3 "refuse_no_year_of" ["clips","year"] (Dw Cs)):FnOk P w K mg base (CX1 P w) 4 f fd ["self","year"] (Dy C Cs):=by
 refine F.okX scG (fun vs H Q E h=>?_) (fun af A outer s H vs Q E hr h=>?_)
 .obtain⟨S0,p,l,ts,t,Ss,S,vy,y,rfl,_⟩:=h;rfl
 .obtain⟨S0,p,l,ts,t,Ss,S,vy,y,rfl,k1,ty,zy,b,q⟩:=h
  refine jr (aF ⟨bY (dU c2 X.cl hr Zx (pv 0)) (pgn 2 scG.nd)⟩
   (aF ⟨bR (gB (E:=E) c3 hr Zx rfl d8 rfl (aq (pX aZ (pv 2) ak) (aq (pv 1) aj)))⟩ ⟨cz⟩)) ?_
  obtain⟨dx,hp⟩:=k1.ob;obtain⟨ac,xc,ap,xp,ag,xs,B⟩:=k1.last;refine aD ?_;refine⟨_,rfl,p,dx,_,rfl,hp,gH rfl,p,l,ts,t,Ss,S,rfl,k1,?_⟩;dsimp only;refine aD ?_;exact⟨_,rfl,t,_,0,.ref ac,rfl,rfl,SqT.of B.e,rfl,_,rfl,S0,ac,xc,vy,y,rfl,B.rc.e,ty,zy,by rw[B.rc.l];exact b,q⟩
end
def wd(k:Nat):Str:=(["shear","pledge","sell"]:List Str).getD k ""
def spS(C:Addr)(Cs:Nat->Addr):Sp:=fun vs H Q E=>j9 C rN qH lA vs H Q E\/kO C Cs 11 mO jV vs H Q E
def spP(C:Addr)(Cs:Nat->Addr):Sp:=fun vs H Q E=>j9 C rP mL jz vs H Q E\/kO C Cs 9 jW jb vs H Q E
def spL(C:Addr)(Cs:Nat->Addr):Sp:=fun vs H Q E=>j9 C rN v8 qI vs H Q E\/kO C Cs 12 qM mQ vs H Q E
def FJ(C:Addr)(Cs:Nat->Addr):Sp:=fun vs H Q E=>∃p l dx td k v,vs=[.ref p,.ref td]/\H p=some (.ins C dx [("stages",.ref l)])/\H td=some (.tup [.str (wd k),v]) /\
 ((k=0/\spS C Cs [.ref p,v] H Q E)\/(k=1/\spP C Cs [.ref p,v] H Q E)\/(k=2/\spL C Cs [.ref p,v] H Q E))
section
variable{P:Program}{w:World}{K:Frag}{mg:Str->Option Value}{base:Heap}{C:Addr}{Cs:Nat->Addr}
theorem scD:FnScope ["_law_keeper","_law_deed"] ["_law_keeper","_law_deed"] (az (top 81)):=fQS
theorem GR(F:Fun K "_law_do" "_law_do" (top 81) f fd)(X:Txt K C)(c1:oZ P w K mg base C 4 "shear" ["self","clip"] (spS C Cs))(c2:oZ P w K mg base C 4 "pledge" ["self","promise"] (spP C Cs))(c3:oZ P w K mg base C 4 "sell" ["self","sale"] (spL C Cs)):FnOk P w K mg base (CX1 P w) 5 f fd ["_law_keeper","_law_deed"] (FJ C Cs):=by
 refine F.okX scD (fun vs H Q E h=>?_) (fun af A outer s H vs Q E hr h=>?_)
 .obtain⟨p,l,dx,td,k,v,rfl,_⟩:=h;rfl
 .obtain⟨p,l,dx,td,k,v,rfl,hp,bp,q⟩:=h
  refine jr (aF ⟨bw (aU dq (pX aZ (pv 1) ak) cA (aV _)) (aA (aO (jA (E:=E) c1 X.cl hr Zx d8 rfl (pv 0) (aq (pX aZ (pv 1) ak) aj)))) aN⟩
   (bU (gr ⟨dO (aU dq (pX aZ (pv 1) ak) cA (aV _)) (jA (E:=E) c2 X.cl hr Zx d8 rfl (pv 0) (aq (pX aZ (pv 1) ak) aj)) (jA (E:=E) c3 X.cl hr Zx d8 rfl (pv 0) (aq (pX aZ (pv 1) ak) aj))⟩))) ?_
  refine aD ?_;refine⟨_,rfl,td,_,0,.str (wd k),rfl,rfl,SqT.of bp,rfl,rfl,_,rfl,?_⟩;rcases q with⟨rfl,q⟩|⟨rfl,q⟩|⟨rfl,q⟩
  .rw[zAv (show V.str (wd 0)=V.str "shear" from rfl)];exact bh ⟨_,rfl,p,dx,_,rfl,hp,gH rfl,_,rfl,td,_,1,v,rfl,rfl,SqT.of bp,rfl,q⟩
  .rw[decide_eq_false (show¬V.str (wd 1)=V.str "shear" by decide +kernel)];refine bf (bu ?_);dsimp only;refine⟨_,rfl,td,_,0,.str (wd 1),rfl,rfl,SqT.of bp,rfl,rfl,_,rfl,?_⟩;rw[decide_eq_true (show V.str (wd 1)=V.str "pledge" from rfl)];exact bh ⟨_,rfl,p,dx,_,rfl,hp,gH rfl,_,rfl,td,_,1,v,rfl,rfl,SqT.of bp,rfl,q⟩
  .rw[decide_eq_false (show¬V.str (wd 2)=V.str "shear" by decide +kernel)];refine bf (bu ?_);dsimp only;refine⟨_,rfl,td,_,0,.str (wd 2),rfl,rfl,SqT.of bp,rfl,rfl,_,rfl,?_⟩;rw[decide_eq_false (show¬V.str (wd 2)=V.str "pledge" by decide +kernel)];exact bf ⟨_,rfl,p,dx,_,rfl,hp,gH rfl,_,rfl,td,_,1,v,rfl,rfl,SqT.of bp,rfl,q⟩
end
def mR(d:PyData):Bool:=dh d&&(decide ((items d).length=5)&&(items d).all b8)
theorem CZ(d:PyData):aY d 5=mR d:=by
 unfold aY dF mR;rw[Bool.and_assoc];congr 2;rw[Bool.eq_iff_iff,zAc,Zq,Zq,Zq];lia
theorem GX:FnScope ["_law_thing"] ["_law_thing"] (az (top 76)):=fQS
theorem uc(F:Fun K "_law_is_sale" "_law_is_sale" (top 76) f fd)(T:Mg mg)(c1:Cal P w K mg base 1 "_law_whole" ["_law_thing"] (spT b8)):FnOk P w K mg base CX0 2 f fd ["_law_thing"] (spT mR):=by
 refine F.ok GX (fun vs H Q E h=>?_) (fun af A outer s H vs Q E hr h=>?_)
 .obtain⟨S,v,d,rfl,_⟩:=h;rfl
 .obtain⟨S,v,d,rfl,th,hz,q⟩:=h
  refine⟨_,aA (aO (cJ (aH bG rfl T.isinstance boot_isinstance (aq (pv 0) (aq (cZ rfl T.tuple boot_tuple (v:=.ty "tuple") rfl) aj)))
   (cJ (fY dq (aH aP rfl T.len PySem.boot_len (aq (pv 0) aj)) ak (aV _))
   (fB (aH (fQ rfl) rfl T.all boot_all (aq (f9 ["_law_one_here"] [none] rfl (lD (pv 0))
    (fun C fp Zt s₂ H₂=>⟨d7 (i:=0) (nd1 _) rfl (Or.inl rfl),eZ,aK c1 hr (aq (pv 0) aj)⟩) (fun C=>trivial) ⟨rfl,rfl,rfl,rfl⟩) aj)))))),?_⟩
  have fin:=fun H' (s:Same H H')=>q H' s;unfold mR at fin;refine⟨_,rfl,v,_,"tuple",dh d,rfl,th.ty,iB d,_,rfl,?_⟩
  cases e:dh d with
  |false=>
   rw[e]at fin;exact bf (fin H (Same.refl H))
  |true=>
   rw[e]at fin;refine bh ?_
   cases th with
   |@tup a xs ds ea r=>
    have hl:=r.length;refine⟨_,rfl,a,xs,rfl,.inr (SqT.of ea),rfl,_,rfl,?_⟩;have fin:∀H',Same H H'->Q (.bl (true&&(decide (ds.length=5)&&ds.all b8))) H':=fin;by_cases e3:ds.length=5
    .rw[zAv e3]at fin;rw[zAv (show V.int (xs.length:Int)=V.int 5 by rw[hl,e3]<;>rfl)];refine bh ?_;exact gw b8 rfl ea r (ie r hz) (fun v d H2 Q2 hm s2 t2 q2=>⟨_,rfl,S,v,d,rfl,t2,vY hm hz,q2⟩) fin
    .rw[zB4 e3]at fin;rw[zB4 (fun z:V.int (xs.length:Int)=V.int 5=>e3 (by injection z with z;lia))];exact bf (fin H (Same.refl H))
   |_=>cases e
def rowOf(d:PyData):List Int:=(items d).map intOf
theorem Az{d:PyData}(h:dX d=true):d=bI (rowOf d)/\okC (rowOf d):=by
 unfold dX at h;rw[zAc]at h;obtain⟨e,l⟩:=dJ (n:=3) h.1;refine⟨e,l,fun z hz=>?_⟩;obtain⟨u,hu,rfl⟩:=zA5.mp hz;have:=List.all_eq_true.mp h.2 u hu;simp only[Bool.and_eq_true,Zq]at this;exact⟨this.1,Zz⟩
theorem Ba{d:PyData}(h:cW d=true):d=bI (rowOf d)/\okP (rowOf d):=by
 have h2:uQ (.tuple [d])=true:=by
  show(dF (.tuple [d]) 0 10&&([d].all cW))=true;rw[List.all_cons,h];rfl
 have h3:=(uY h2).2.2 (rowOf d) (List.mem_singleton.mpr rfl);refine⟨?_,h3⟩
 have h1:aY d 6=true:=by
  unfold cW at h;rw[zAc]at h;exact h.1
 exact(dJ (n:=6) h1).1
inductive Out where
 |word (j:Nat)
 |many (m k:Int)
 |next (S:St3)
def ir(k:Nat)(S:St3)(d:PyData):Out:=
 if k=0 then if dX d then if S.cs.length=20 then .many 21 20 else .next (lA S (rowOf d))else .word 11
 else if k=1 then if cW d then if S.ps.length=10 then .many 11 10 else .next (jz S (rowOf d))else .word 9
 else if S.ss.length=12 then .many 13 12 else if aY d 5&&bT S.ps S.ss (rowOf d)then .next (qI S (rowOf d))else .word 12
def Told(H:Hp)(p:Addr):Out->Prop
 |.word j=>H p=some (.tup [.str (words.getD j "")])
 |.many m k=>H p=some (.tup [.str "many",.int m,.int k])
 |.next S=>Bk H p S.cs S.ps S.ss
theorem Bb{H H3:Hp}{tn ac c p tc:Addr}{xc:List V}{ap:Addr}{xp:List V}{ag:Addr}{xs:List V}{S:St3}{r:List Int}(B:BookAt H tn ac xc S.cs ap xp S.ps ag xs S.ss)(s3:Same H H3)(dP:okC r)(rq:S.cs.length<20)(ec:H3 c=some (.tup (xc++[V.ref tc])))(a8:H3 tc=some (.tup (r.map V.int)))(hp:H3 p=none):
  Bk (upd H3 p (.tup [V.ref c,V.ref ap,V.ref ag])) p (S.cs++[r]) S.ps S.ss:=by
 have eW:=Same.upd (o:=.tup [V.ref c,V.ref ap,V.ref ag]) hp;have sN:=s3.trans eW;have rc:=dM (B.rc.same s3) a8 ec
 exact⟨c,_,ap,xp,ag,xs,aa,rc.same eW,fun r' b9=>by
  rcases zA6.mp b9 with z|z
  .exact B.okc r' z
  .rw[List.mem_singleton.mp z]
   exact⟨dP.1,fun x hx=>(dP.2 x hx).1⟩,by rw[zA2];show S.cs.length+1<=20;lia,B.rp.same sN,B.lp,B.okp,B.rs.same sN,B.ls,B.h5,B.un⟩
theorem yg{H H3:Hp}{tn ac c p tc:Addr}{xc:List V}{ap:Addr}{xp:List V}{ag:Addr}{xs:List V}{S:St3}{r:List Int}(B:BookAt H tn ac xc S.cs ap xp S.ps ag xs S.ss)(s3:Same H H3)(dP:okP r)(AN:S.ps.length<10)(ec:H3 c=some (.tup (xp++[V.ref tc])))(a8:H3 tc=some (.tup (r.map V.int)))(hp:H3 p=none):
  Bk (upd H3 p (.tup [V.ref ac,V.ref c,V.ref ag])) p S.cs (S.ps++[r]) S.ss:=by
 have eW:=Same.upd (o:=.tup [V.ref ac,V.ref c,V.ref ag]) hp;have sN:=s3.trans eW;have rc:=dM (B.rp.same s3) a8 ec
 exact⟨ac,xc,c,_,ag,xs,aa,B.rc.same sN,B.okc,B.lc,rc.same eW,by rw[zA2];show S.ps.length+1<=10;lia,fun r' b9=>by
  rcases zA6.mp b9 with z|z
  .exact B.okp r' z
  .rw[List.mem_singleton.mp z]
   exact dP,B.rs.same sN,B.ls,B.h5,wI B.un⟩
theorem Dd{H H3:Hp}{tn ac c p tc:Addr}{xc:List V}{ap:Addr}{xp:List V}{ag:Addr}{xs:List V}{S:St3}{r:List Int}(B:BookAt H tn ac xc S.cs ap xp S.ps ag xs S.ss)(s3:Same H H3)(r5:r.length=5)(hh:bT S.ps S.ss r=true)(rL:S.ss.length<12)(ec:H3 c=some (.tup (xs++[V.ref tc])))(a8:H3 tc=some (.tup (r.map V.int)))(hp:H3 p=none):
  Bk (upd H3 p (.tup [V.ref ac,V.ref ap,V.ref c])) p S.cs S.ps (S.ss++[r]):=by
 have eW:=Same.upd (o:=.tup [V.ref ac,V.ref ap,V.ref c]) hp;have sN:=s3.trans eW;have rc:=dM (B.rs.same s3) a8 ec
 exact⟨ac,xc,ap,xp,c,_,aa,B.rc.same sN,B.okc,B.lc,B.rp.same sN,B.lp,B.okp,rc.same eW,by rw[zA2];show S.ss.length+1<=12;lia,fun r' b9=>by
  rcases zA6.mp b9 with z|z
  .exact B.h5 r' z
  .rw[List.mem_singleton.mp z]
   exact r5,qJ B.un hh⟩
theorem De{ps ss:List (List Int)}{r:List Int}(hu:un ps ss=none):(un ps (ss++[r])=none)↔bT ps ss r=true:=by
 refine⟨fun h=>?_,fun h=>qJ hu h⟩;have:=qG h ss.length (by rw[zA2];exact Nat.lt_succ_self _);rw[List.take_left',zA7,zB7 (zA3 _),Nat.sub_self]at this
 .exact this
 .rfl
inductive SpBehindI(vs:List V)(H:Hp)(Q:VK):Prop
 |mk:∀S0 tn S td k v d,(vs=[.ref tn,.ref td])->(Bk H tn S.cs S.ps S.ss)->(k<3)->(H td=some (.tup [.str (wd k),v]))->(IsTh S0 H v d)->(sz d<=4000)->(∀p H',Same H H'->Told H' p (ir k S d)->Q (.ref p) H')->SpBehindI  vs H Q
def mU:Sp:=fun vs H Q _=>SpBehindI  vs H Q
theorem scBh:FnScope ["_law_now","_law_deed","_law_clips_here","_law_promises","_law_sales"] ["_law_now","_law_deed"] (az (top 80)):=fQS
theorem yh(F:Fun K "_law_behind" "_law_behind" (top 80) f fd)(T:Mg mg)(c1:Cal P w K mg base 3 "_law_is_clip" ["_law_thing"] (spT m7))(c2:Cal P w K mg base 3 "_law_is_promise" ["_law_thing"] (spT m8))(c3:Cal P w K mg base 2 "_law_is_sale" ["_law_thing"] (spT mR))(c4:Cal P w K mg base 2 "_law_sold" ["_law_promises","_law_sales"] Aj):FnOk P w K mg base CX0 4 f fd ["_law_now","_law_deed"] mU:=by
 refine F.ok scBh (fun vs H Q E h=>?_) (fun af A outer s H vs Q E hr h=>?_)
 .obtain⟨S0,tn,S,td,k,v,d,rfl,_⟩:=h;rfl
 .obtain⟨S0,tn,S,td,k,v,d,rfl,⟨ac,xc,ap,xp,ag,xs,B⟩,hk,bp,tv,hz,q⟩:=h
  refine jr (aF ⟨bY (pv 0) (bW rfl (au (pgn 2 scBh.nd) (au (pgn 3 scBh.nd) (au (pgn 4 scBh.nd) bF))))⟩
   (aF ⟨bw (aU dq (pX aZ (pv 1) ak) cA (aV _)) (aG (bw (bB (bD (aK c1 hr (aq (pX aZ (pv 1) ak) aj)))) (aA (aO (bj (aq cA aj)))) aN)
    (aA (aO (dO (aU dq (aH aP rfl T.len PySem.boot_len (aq (pv 2) aj)) ak (aV _)) (bj (aq cA (aq ak (aq ak aj)))) (bj (aq (aX gD (pv 2) (bj (aq (pX aZ (pv 1) ak) aj))) (aq (pv 3) (aq (pv 4) aj)))))))) aN⟩
   (aF ⟨bw (aU dq (pX aZ (pv 1) ak) cA (aV _)) (aG (bw (bB (bD (aK c2 hr (aq (pX aZ (pv 1) ak) aj)))) (aA (aO (bj (aq cA aj)))) aN)
    (aA (aO (dO (aU dq (aH aP rfl T.len PySem.boot_len (aq (pv 3) aj)) ak (aV _)) (bj (aq cA (aq ak (aq ak aj)))) (bj (aq (pv 2) (aq (aX gD (pv 3) (bj (aq (pX aZ (pv 1) ak) aj))) (aq (pv 4) aj)))))))) aN⟩
   (aF ⟨bw (aU dq (aH aP rfl T.len PySem.boot_len (aq (pv 4) aj)) ak (aV _)) (aA (aO (bj (aq cA (aq ak (aq ak aj)))))) aN⟩
   (aF ⟨bw (PW.pt (fO (bB (bD (aK c3 hr (aq (pX aZ (pv 1) ak) aj)))) (fj (aU vz (pX aZ (aK c4 hr (aq (pv 3) (aq (aX gD (pv 4) (bj (aq (pX aZ (pv 1) ak) aj))) aj))) ak) gK (aV _))))) (aA (aO (bj (aq cA aj)))) aN⟩
   (bU (gr ⟨bj (aq (pv 2) (aq (pv 3) (aq (aX gD (pv 4) (bj (aq (pX aZ (pv 1) ak) aj))) aj)))⟩))))))) ?_
  refine aD ?_;refine⟨_,rfl,tn,_,rfl,SqT.of B.e,rfl,_,_,rfl,_,_,rfl,_,_,rfl,rfl,?_⟩;dsimp only;refine aD ?_;refine⟨_,rfl,td,_,0,.str (wd k),rfl,rfl,SqT.of bp,rfl,rfl,_,rfl,?_⟩;have:k=0\/k=1\/k=2:=Zz
  rcases this with rfl|rfl|rfl
  .rw[zAv (show V.str (wd 0)=V.str "shear" from rfl)];refine bh (aD ?_);refine⟨_,rfl,td,_,1,v,rfl,rfl,SqT.of bp,rfl,S0,v,d,rfl,tv,hz,fun H1 s1=>⟨_,rfl,?_⟩⟩;rw[<-Cd];unfold ir at q
   cases e:dX d with
   |false=>
    rw[e]at q;refine bh ⟨zL,fun p hp=>?_⟩;exact q p _ (s1.updR hp) aa
   |true=>
    rw[e]at q;refine bf (bu ?_);dsimp only;have B1:=B.same s1;refine⟨_,rfl,ac,xc,rfl,.inr (SqT.of B1.rc.e),rfl,_,rfl,?_⟩;rw[B.rc.l];by_cases rq:S.cs.length=20
    .rw[zAx rfl,zAx rfl,zAx rq]at q;rw[zAv (show V.int ((S.cs.length:Nat):Int)=V.int 20 by rw[rq];rfl)];refine bh ⟨zL,fun p hp=>?_⟩;exact q p _ (s1.updR hp) aa
    .rw[if_pos rfl,if_pos rfl,if_neg rq]at q;rw[decide_eq_false (show¬V.int ((S.cs.length:Nat):Int)=V.int 20 by intro z;injection z with z;lia)];refine bf ?_;obtain⟨ed,dP⟩:=Az e;obtain⟨tc,rfl,a8⟩:=mz (ed▸tv);refine⟨_,rfl,_,rfl,td,_,1,.ref tc,rfl,rfl,SqT.of (s1 _ _ bp),rfl,zL,fun u1 ip=>?_⟩;have s2:=Same.upd (o:=.tup [V.ref tc]) ip;have:=B.lc;refine⟨ac,u1,xc,_,rfl,rfl,s2 _ _ B1.rc.e,aa,by simp,by rw[B.rc.l,sizeLine_eq];show _+1<=_;lia,fun c H3 s3 ec=>⟨_,rfl,_,rfl,zL,fun p hp=>?_⟩⟩;have cm:=s2.trans s3;exact q p _ ((s1.trans cm).updR hp) (Bb B1 cm dP Zz ec (cm _ _ (s1 _ _ a8)) hp)
  .rw[decide_eq_false (show¬V.str (wd 1)=V.str "shear" by decide +kernel)];refine bf (bu ?_);dsimp only;refine aD ?_;refine⟨_,rfl,td,_,0,.str (wd 1),rfl,rfl,SqT.of bp,rfl,rfl,_,rfl,?_⟩;rw[decide_eq_true (show V.str (wd 1)=V.str "pledge" from rfl)];refine bh (aD ?_);refine⟨_,rfl,td,_,1,v,rfl,rfl,SqT.of bp,rfl,S0,v,d,rfl,tv,hz,fun H1 s1=>⟨_,rfl,?_⟩⟩;rw[<-Cg];unfold ir at q
   cases e:cW d with
   |false=>
    rw[e]at q;refine bh ⟨zL,fun p hp=>?_⟩;exact q p _ (s1.updR hp) aa
   |true=>
    rw[e]at q;refine bf (bu ?_);dsimp only;have B1:=B.same s1;refine⟨_,rfl,ap,xp,rfl,.inr (SqT.of B1.rp.e),rfl,_,rfl,?_⟩;rw[B.rp.l];by_cases AN:S.ps.length=10
    .rw[zAw Zx,zAx rfl,zAx rfl,zAx AN]at q;rw[zAv (show V.int ((S.ps.length:Nat):Int)=V.int 10 by rw[AN];rfl)];refine bh ⟨zL,fun p hp=>?_⟩;exact q p _ (s1.updR hp) aa
    .rw[if_neg Zx,if_pos rfl,if_pos rfl,if_neg AN]at q;rw[decide_eq_false (show¬V.int ((S.ps.length:Nat):Int)=V.int 10 by intro z;injection z with z;lia)];refine bf ?_;obtain⟨ed,dP⟩:=Ba e;obtain⟨tc,rfl,a8⟩:=mz (ed▸tv);refine⟨_,rfl,_,rfl,_,rfl,td,_,1,.ref tc,rfl,rfl,SqT.of (s1 _ _ bp),rfl,zL,fun u1 ip=>?_⟩;have s2:=Same.upd (o:=.tup [V.ref tc]) ip;have:=B.lp;refine⟨ap,u1,xp,_,rfl,rfl,s2 _ _ B1.rp.e,aa,by simp,by rw[B.rp.l,sizeLine_eq];show _+1<=_;lia,fun c H3 s3 ec=>⟨_,rfl,zL,fun p hp=>?_⟩⟩;have cm:=s2.trans s3;exact q p _ ((s1.trans cm).updR hp) (yg B1 cm dP Zz ec (cm _ _ (s1 _ _ a8)) hp)
  .rw[decide_eq_false (show¬V.str (wd 2)=V.str "shear" by decide +kernel)];refine bf (bu ?_);dsimp only;refine aD ?_;refine⟨_,rfl,td,_,0,.str (wd 2),rfl,rfl,SqT.of bp,rfl,rfl,_,rfl,?_⟩;rw[decide_eq_false (show¬V.str (wd 2)=V.str "pledge" by decide +kernel)];refine bf (bu ?_);dsimp only;refine aD ?_;refine⟨_,rfl,ag,xs,rfl,.inr (SqT.of B.rs.e),rfl,_,rfl,?_⟩;rw[B.rs.l];unfold ir at q;rw[if_neg Zx,if_neg Zx]at q;by_cases rL:S.ss.length=12
   .rw[zAx rL]at q;rw[zAv (show V.int ((S.ss.length:Nat):Int)=V.int 12 by rw[rL];rfl)];refine bh ⟨zL,fun p hp=>?_⟩;exact q p _ (Same.upd hp) aa
   .rw[if_neg rL]at q;rw[decide_eq_false (show¬V.int ((S.ss.length:Nat):Int)=V.int 12 by intro z;injection z with z;lia)];refine bf (bu ?_);dsimp only;have Ee:S.ss.length<12:=by have:=B.ls;lia
    refine aD ?_;refine⟨_,rfl,td,_,1,v,rfl,rfl,SqT.of bp,rfl,S0,v,d,rfl,tv,hz,fun H1 s1=>⟨_,rfl,?_⟩⟩;rw[<-CZ]
    cases e:aY d 5 with
    |false=>
     rw[e]at q;refine bh ⟨zL,fun p hp=>?_⟩;exact q p _ (s1.updR hp) aa
    |true=>
     rw[e,Bool.true_and]at q;obtain⟨ed,r5⟩:=dJ (n:=5) e;have ed:d=bI (rowOf d):=ed;have r5:(rowOf d).length=5:=r5;obtain⟨tc,rfl,a8⟩:=mz (ed▸tv);have B1:=B.same s1;refine bf ?_;refine⟨_,rfl,_,rfl,_,rfl,td,_,1,.ref tc,rfl,rfl,SqT.of (s1 _ _ bp),rfl,zL,fun u1 ip=>?_⟩;have s2:=Same.upd (o:=.tup [V.ref tc]) ip;refine⟨ag,u1,xs,_,rfl,rfl,s2 _ _ B1.rs.e,aa,by simp,by rw[B.rs.l,sizeLine_eq];show _+1<=_;lia,fun c H3 s3 ec=>?_⟩;have cm:=s2.trans s3;have rc:=dM (B1.rs.same cm) (cm _ _ (s1 _ _ a8)) ec;refine⟨ap,xp,S.ps,c,_,S.ss++[rowOf d],rfl,B1.rp.same cm,B.lp,B.okp,rc,by rw[zA2];show _+1<=_;lia,fun s' i9=>?_,fun tr fo H4 s4 e4=>⟨tr,_,1,_,rfl,rfl,SqT.of e4,rfl,rfl,_,rfl,?_⟩⟩
     .rcases zA6.mp i9 with z|z
      .exact B.h5 s' z
      .rw[List.mem_singleton.mp z];exact r5
     .have iff:=De (r:=rowOf d) B.un
      cases hh:bT S.ps S.ss (rowOf d)with
      |false=>
       rw[hh]at q
       have hn:un S.ps (S.ss++[rowOf d])≠none:=fun z=>by rw[iff.mp z]at hh;cases hh
       cases hu:un S.ps (S.ss++[rowOf d])with
       |none=>exact absurd hu hn
       |some i=>
        refine bh ⟨zL,fun p hp=>?_⟩;exact q p _ (((s1.trans cm).trans s4).updR hp) aa
      |true=>
       rw[hh]at q;rw[iff.mpr hh];refine bf (bu ?_);dsimp only;have AO:=(s1.trans cm).trans s4;have B4:=B.same AO;refine⟨_,rfl,_,rfl,_,rfl,_,rfl,td,_,1,.ref tc,rfl,rfl,SqT.of (AO _ _ bp),rfl,zL,fun u2 LB=>?_⟩;have s5:=Same.upd (o:=.tup [V.ref tc]) LB;refine⟨ag,u2,xs,_,rfl,rfl,s5 _ _ B4.rs.e,aa,by simp,by rw[B.rs.l,sizeLine_eq];show _+1<=_;lia,fun c2 H6 s6 LC=>⟨zL,fun p hp=>?_⟩⟩;have EA:=s5.trans s6;exact q p _ ((AO.trans EA).updR hp) (Dd B4 EA r5 hh Ee LC (EA _ _ (AO _ _ a8)) hp)
theorem qN{Cs:Nat->Addr}{kk:Nat}{fl:Addr}{fd:FuncData}{body:Expr}{N:List Str}{vs:List V}{cs:List (Addr×Obj)}{H2:Hp}{Q:VK}{Qw:VK}{Ew:Addr->XC->Hp->Prop}(L:LamObj H2 fl fd)(Z:LamAt fd body N)(C:CellsOf fd.closure N vs H2 cs)(hN:vs.length=N.length)
  (run:∀A outer E' Q',Room kk A->(∀v H1,Qw v H1->Q' v H1)->(∀a C H1,Ew a C H1->E' (.ref a) (some C) H1)->∃te,(∀s,PE (cxL P w K mg base N fd fl A outer s H2 E') body te)/\te (vs.map some) H2 Q')
  (q1:∀v H1,Qw v H1->∀p,H1 p=none->p≠sysModules->Q (.ref p) (upd H1 p (.lst [v])))
  (q2:∀a C H1,Ew a C H1->∃j row,XW K Cs H1 C j row/\Kind K Cs j/\(H1 a=none->∀p H3,Same H1 H3->H3 p=some (.tup row)->Q (.ref p) H3)):jR P w K mg base Cs kk [.ref fl] (fz H2 cs) (fun v H3=>Q v (er H3 cs)) E0:=by
 have no:NoC cs H2:=C.no
 have EB:∀{H2:Hp},NoC cs H2->∀b o,H2 b=some o->fz H2 cs b=some o:=fun{H2} no b o e=>by
  cases z:cs.lookup b with
  |some u=>rw[no b u z]at e;cases e
  |none=>rw[cQ z];exact e
 have JC:∀{H1:Hp} {b:Addr},fz H1 cs b=none->cs.lookup b=none/\H1 b=none:=fun{H1 b} e=>by
  cases z:cs.lookup b with
  |some u=>rw[oM z]at e;cases e
  |none=>rw[cQ z]at e;exact⟨rfl,e⟩
 refine⟨fl,fun v' H3=>∃H1,H3=fz H1 cs/\NoC cs H1/\Qw v' H1,fun a C' H3=>∃H1,H3=fz H1 cs/\NoC cs H1/\Ew a C' H1,rfl,
  ⟨fd,body,N,vs,cs,?_,Z,fun b o e=>oM e,C.cell,C.val,hN,fun A' cb Q' E' b9 h1 h2=>?_⟩,?_,?_⟩
 .obtain⟨⟨o,e1,e2⟩,c,oc,vs,t,a1,a2,a3⟩:=L;exact⟨⟨o,EB no _ _ e1,e2⟩,c,oc,vs,t,a1,EB no _ _ a2,a3⟩
 .rw[Gz no];exact run A' cb _ _ b9 (fun v H1 qw EC=>h1 v (fz H1 cs) ⟨H1,rfl,EC,qw⟩) fun a C H1 ew EC=>h2 a C (fz H1 cs) ⟨H1,rfl,EC,ew⟩
 .rintro v' H3 ⟨H1,rfl,AQ,qw⟩ p hp np;obtain⟨lp,ja⟩:=JC hp;have:=q1 v' H1 qw p ja np;rw[show er (upd (fz H1 cs) p (.lst [v'])) cs=upd H1 p (.lst [v'])from funext fun b=>?_]
  .exact this
  .cases z:cs.lookup b with
   |some u=>
    have hb:b≠p:=fun y=>by rw[y,lp]at z;cases z
    rw[iM z,ao hb];exact(AQ b u z).symm
   |none=>
    rw[dH z];by_cases hb:b=p
    .rw[hb,aa,aa]
    .rw[ao hb,ao hb,cQ z]
 .rintro a C' H3 ⟨H1,rfl,AQ,ew⟩;obtain⟨j,row,xw,kd,q3⟩:=q2 a C' H1 ew;refine⟨j,row,xw.same (EB AQ),kd,fun fa p H4 s4 e4=>?_⟩;exact q3 (JC fa).2 p _ (s4.er AQ) (Ca s4 (fun _ _ z=>nomatch z) e4)
theorem cG{T b:Addr}{q:Str}{H:Hp}{o:HO}(t:TabOk H T q)(e:H b=some o)(n:∀ps,o≠HO.tbl ps):b≠T:=fun z=>by
 obtain⟨ps,e',_⟩:=t;rw[z,e']at e;cases e;exact n _ rfl
theorem KpAt.tb{C T:Addr}{q:Str}{H H':Hp}{p l:Addr}{ts:List Addr}{Ss:List St3}(k:KpAt C H p l ts Ss)(t:TabOk H T q)(kp:∀b o,b≠T->H b=some o->H' b=some o):KpAt C H' p l ts Ss:=
 k.keep (fun _ _ e=>kp _ _ (cG t e nofun) e) (fun _ _ e=>kp _ _ (cG t e nofun) e) fun _ e=>kp _ _ (cG t e nofun) e
def qnO:Str:=(PyProof.Rows.envOfC "_law_one" (az (top 82)) 0 0 .none).qual++"<lambda>"
theorem ph:bootBuiltins "str"=some (.type "str"):=by decide +kernel
theorem ud{K:Frag}:PySem.W.kitOne K (.type "tuple") (.type "str")=some false:=by rfl
theorem yj{a b c p}:Plain (.IfExp a b c p):=⟨fun _ _=>rfl⟩
def okK(k:Nat)(S:St3)(r:List Int):Prop:=(k=0/\qH S r)\/(k=1/\mL S r)\/(k=2/\v8 S r)
def nxK(k:Nat)(S:St3)(r:List Int):St3:=if k=0 then lA S r else if k=1 then jz S r else qI S r
theorem Df{k:Nat}{S:St3}{r:List Int}(h:okK k S r):ir k S (bI r)=.next (nxK k S r):=by
 have er:rowOf (bI r)=r:=by
  show(r.map PyData.int).map intOf=r;rw[zAr];exact(List.map_congr_left (fun x _=>rfl)).trans (List.map_id r)
 unfold ir nxK;rcases h with⟨rfl,h⟩|⟨rfl,h⟩|⟨rfl,h⟩
 .have:=h.2;rw[zAx (rfl:(0:Nat)=0),zAx (wJ h.1),zAw Zz,er];rfl
 .have:=h.2;rw[zAw (by decide:¬(1:Nat)=0),zAx (rfl:(1:Nat)=1),zAx (u9 h.1),zAw Zz,er];rfl
 .have:=h.2.1;rw[zAw (by decide:¬(2:Nat)=0),zAw (by decide:¬(2:Nat)=1),zAw Zz,er,show aY (bI r) 5=true from fW h.1,h.2.2,Bool.true_and,zAx rfl];rfl
def rvK(k:Nat)(S:St3):V:=if k=1 then .int (S.ps.length:Int)else .non
abbrev NO:List Str:=["_law_keeper","_law_past","_law_now","_law_deed","_law_found","_law_due"]
inductive SpOneI(C T:Addr)(vs:List V)(H:Hp)(Q:VK):Prop
 |mk:∀p l ts t Ss S pa px tn td k tc r,(vs=[.ref p,.ref pa,.ref tn,.ref td])->(KpAt C H p l (ts++[t]) (Ss++[S]))->(ts.length<=100)->(H pa=some (.lst px))->(px.length<=100)->(pa≠l)->(Bk H tn S.cs S.ps S.ss)->(H td=some (.tup [.str (wd k),.ref tc]))->(H tc=some (.tup (r.map V.int)))->(okK k S r)->(TabOk H T qnO)->(∀AR t' AS H',(∀b o,b≠l->b≠pa->b≠T->H b=some o->H' b=some o)->KpAt C H' p l (ts++[t]++[t']) (Ss++[S]++[nxK k S r])->H' pa=some (.lst AS)->AS.length=px.length+1->Bk H' AR (nxK k S r).cs (nxK k S r).ps (nxK k S r).ss->TabOk H' T qnO->Q (.ref AR) H')->SpOneI C T vs H Q
def Dz(C T:Addr):Sp:=fun vs H Q _=>SpOneI C T vs H Q
section
variable{P:Program}{w:World}{K:Frag}{mg:Str->Option Value}{base:Heap}{C:Addr}{Cs:Nat->Addr}
theorem scO:FnScope NO ["_law_keeper","_law_past","_law_now","_law_deed"] (az (top 82)):=fQS
theorem FN{f T1 cc:Addr}{fd:FuncData}(F:Fun K "_law_one" "_law_one" (top 82) f fd)(hc:fd.code=.ref cc)(hC:PySem.W.CodeHd base cc T1)(hB:base.BuiltinsAt mg T1)(T:Mg mg)(Ts:mg "str"=none)
  (ED:Cal P w K mg base 4 "_law_behind" ["_law_now","_law_deed"] mU) (EE:Cal P w K mg base 9 "_law_said" ["_law_call"] (jR P w K mg base Cs 7)) (AU:tU P w K mg base 5 "_law_do" ["_law_keeper","_law_deed"] (FJ C Cs)) (cS:Cal P w K mg base 61 "_law_same" ["_law_found","_law_due"] uU):
  FnOk P w K mg base CX0 62 f fd ["_law_keeper","_law_past","_law_now","_law_deed"] (Dz C T1):=by
 refine F.okC hc scO (fun vs H Q E h=>?_) (fun A outer s H vs Q E hr h=>?_)
 .obtain⟨p,l,ts,t,Ss,S,pa,px,tn,td,k,tc,r,rfl,_⟩:=h;rfl
 .obtain⟨p,l,ts,t,Ss,S,pa,px,tn,td,k,tc,r,rfl,kp,js,JD,AV,AW,bk,bp,a8,ok,tab,q⟩:=h;obtain⟨f1,LD,F1,m1,k1,b1⟩:=id EE;have fN:Room 9 (A.deeper (PyProof.Rows.envOfC "_law_one" (az (top 82)) s.heap.objs.size f (.ref cc))):=hr.mono Zx
  refine jr (aF ⟨bw (aU dq (pX aZ (pv 3) ak) cA (aV _)) cz aN⟩
   (aF ⟨pA (i:=5) (j:=4) rfl scO.nd rfl rfl Zx rfl rfl (aq (aK ED hr (aq (pv 2) (aq (pv 3) aj))) (aq (lZ (N:=["_law_keeper","_law_deed"]) (ix:=[0,3]) (sc:=az (top 82)) (NX:=NO) F1 fN rfl m1 k1 b1 rfl (fun _=>rfl) rfl hC hB rfl rfl rfl (fun _ _ _ _ _=>rfl) Zv) aj)) rfl⟩
   (aF ⟨bw (bD (aH bG rfl T.isinstance boot_isinstance (aq (pX aZ (pv 5) ak) (aq (cZ rfl Ts ph (v:=.ty "str") rfl) aj)))) cz aN⟩
   (aF ⟨bR (gG zB6 zBd zBc eF (pv 1) (aq (pv 2) aj))⟩
   (bU (gr ⟨dO (bD (aK cS hr (aq (pv 4) (aq (qg (aq (dO (aU dq (pX aZ (pv 3) ak) cA (aV _)) (aH aP rfl T.len PySem.boot_len (aq (pX aZ (pv 2) ak) aj)) gK) aj yj)) aj)))) (pv 5) gK⟩)))))) ?_
  have hk:k<3:=by rcases ok with⟨rfl,_⟩|⟨rfl,_⟩|⟨rfl,_⟩<;>decide
  have hu:¬V.str (wd k)=V.str "undo":=by rcases ok with⟨rfl,_⟩|⟨rfl,_⟩|⟨rfl,_⟩<;>decide +kernel
  have EF:r.length<=6:=by rcases ok with⟨rfl,h⟩|⟨rfl,h⟩|⟨rfl,h⟩<;>first | (have:=h.1.1;lia) | (have:=h.1;lia)
  refine aD ?_;refine⟨_,rfl,td,_,0,.str (wd k),rfl,rfl,SqT.of bp,rfl,rfl,_,rfl,?_⟩;rw[decide_eq_false hu];refine bf (bu ?_);dsimp only;refine aD ?_;refine⟨_,rfl,_,rfl,fun _=>False,tn,S,td,k,.ref tc,bI r,rfl,bk,hk,bp,.tup a8 (IsThs.ints r),qK (n:=6) EF Zx,fun p1 H1 s1 told=>?_⟩;rw[Df ok]at told;have told:Bk H1 p1 (nxK k S r).cs (nxK k S r).ps (nxK k S r).ss:=told;have fe:=TabOk.same tab s1;refine⟨fe,fun fl pm cv ct H9 oy vS nf L Z=>⟨[.ref p,.ref td],rfl,fun j' i' z e1 e2=>?_,fun cs Ce=>?_⟩⟩
  .rcases j' with _|_|j'
   .cases e1;cases e2;rfl
   .cases e1;cases e2;rfl
   .simp at e1
  have vT:=(kp.same s1).tb fe oy;have oz:=oy _ _ (cG fe (s1 _ _ bp) nofun) (s1 _ _ bp);have EG:=oy _ _ (cG fe (s1 _ _ a8) nofun) (s1 _ _ a8);have EH:=oy _ _ (cG fe (s1 _ _ JD) nofun) (s1 _ _ JD);have wa:=told.keep fun b x e=>oy _ _ (cG fe e nofun) e;have LF:=(bk.same s1).keep fun b x e=>oy _ _ (cG fe e nofun) e;have k9:∀b o,b≠T1->H b=some o->H9 b=some o:=fun b o n e=>oy b o n (s1 _ _ e);obtain⟨dx,LG⟩:=vT.ob;refine qN (Qw:=fun v H'=>v=rvK k S/\∃t',(∀b o,b≠l->H9 b=some o->H' b=some o)/\KpAt C H' p l (ts++[t]++[t']) (Ss++[S]++[nxK k S r])) (Ew:=fun _ _ _=>False) L Z Ce rfl (fun A' cb E' Q' b9 h1 h2=>⟨_,fun s'=>gB AU (b9.deeper _) Zx rfl jo rfl (aq (pv 0) (aq (pv 1) aj)),⟨_,rfl,_,rfl,p,l,dx,td,k,.ref tc,rfl,LG,oz,?_⟩⟩) (fun v H' qw p2 dy JE=>?_) (fun _ _ _ z=>z.elim)
  .have go:∀{rv okk nx},okk S r->rv S=rvK k S->nx S r=nxK k S r->j9 C rv okk nx [.ref p,.ref tc] H9 Q' E':=fun g1 g2 g3=>⟨p,l,ts,t,Ss,S,tc,r,rfl,vT,js,EG,g1,fun t' H' fr AX=>h1 _ _ ⟨g2,t',fr,by rw[<-g3];exact AX⟩⟩
   rcases ok with⟨rfl,h⟩|⟨rfl,h⟩|⟨rfl,h⟩
   .exact .inl ⟨rfl,.inl (go h rfl rfl)⟩
   .exact .inr (.inl ⟨rfl,.inl (go h rfl rfl)⟩)
   .exact .inr (.inr ⟨rfl,.inl (go h rfl rfl)⟩)
  obtain⟨rfl,t',fr,JF⟩:=qw;clear L Z Ce;have sP:=Same.upd (o:=.lst [rvK k S]) dy;have eP:=aa (H:=H') (a:=p2) (o:=.lst [rvK k S])
  have tl:T1≠l:=fun z=>by
   obtain⟨ps,e',_⟩:=vS;rw[z,vT.el]at e';cases e'
  have EI:TabOk H' T1 qnO:=vS.keep (fun ps e=>fr _ _ tl e) fun b o e=>fr _ _ (fun z=>by rw[z,vT.el]at e;cases e) e;have eN:∀b x,H9 b=some (.tup x)->H' b=some (.tup x):=fun b x e=>fr _ _ (fun z=>by rw[z,vT.el]at e;cases e) e;have wb:=fr _ _ AW EH;have wc:=wa.keep eN;have LH:=LF.keep eN;have EJ:=eN _ _ oz;obtain⟨we,LI,LJ,LK,LL,Cn,B'⟩:=wc;have B':=B'.same sP;have JG:=JF.same sP;have ff:=sP _ _ wb;have wm:=TabOk.same EI sP;have JH:=LH.same sP;have wo:=sP _ _ EJ;have JI:∀b o,b≠l->H9 b=some o->upd H' p2 (.lst [rvK k S]) b=some o:=fun b o n e=>sP _ _ (fr b o n e)
  have LM:p2≠l:=fun z=>by rw[z,JF.el]at dy;cases dy
  have EK:p2≠pa:=fun z=>by rw[z,wb]at dy;cases dy
  generalize upd H' p2 (.lst [rvK k S])=HP at sP eP B' JG ff wm JH wo JI⊢;refine⟨_,_,rfl,?_⟩;dsimp only;refine aD ?_;refine⟨_,rfl,p1,_,0,.ref we,rfl,rfl,SqT.of B'.e,rfl,.ref we,_,"str",false,rfl,B'.rc.th.ty,ud,_,rfl,?_⟩;refine bf (bu ?_);dsimp only;refine aD ?_;refine⟨_,rfl,.inl ⟨rfl,_,SqL.of ff⟩,_,rfl,pa,px,.ref tn,rfl,rfl,ff,by rw[sizeLine_eq];lia,?_⟩;dsimp only
  have kq:∀b o,b≠pa->HP b=some o->upd HP pa (.lst (px++[.ref tn])) b=some o:=fun b o n e=>by rw[ao n];exact e
  have wq:∀b x,HP b=some (.tup x)->upd HP pa (.lst (px++[.ref tn])) b=some (.tup x):=fun b x e=>kq _ _ (fun z=>by rw[z,ff]at e;cases e) e;have JJ:=JG.keep wq (fun dx f e=>kq _ _ (fun z=>by rw[z,ff]at e;cases e) e) fun x e=>kq _ _ AW.symm e;have wt:=aa (H:=HP) (a:=pa) (o:=.lst (px++[V.ref tn]));have eQ:=kq _ _ EK eP;have wx:TabOk (upd HP pa (.lst (px++[.ref tn]))) T1 qnO:=wm.keep (fun ps e=>kq _ _ (fun z=>by rw[z,ff]at e;cases e) e) fun b o e=>kq _ _ (fun z=>by rw[z,ff]at e;cases e) e;have JK:=JH.keep wq;have toQ:Bk _ p1 (nxK k S r).cs (nxK k S r).ps (nxK k S r).ss:=Bk.keep ⟨_,_,_,_,_,_,B'⟩ wq;have w9:=wq _ _ wo;have JL:∀b o,b≠l->b≠pa->b≠T1->H b=some o->upd HP pa (.lst (px++[.ref tn])) b=some o:=fun b o n1 n2 n3 e=>kq _ _ n2 (JI b o n1 (k9 b o n3 e));generalize upd HP pa (.lst (px++[.ref tn]))=HQ at JJ wt eQ wx JK toQ w9 JL⊢;clear kq wq;have done:∀H3,Same HQ H3->Q (.ref p1) H3:=fun H3 s3=>q p1 t' _ H3 (fun b o n1 n2 n3 e=>s3 _ _ (JL b o n1 n2 n3 e)) (JJ.same s3) (s3 _ _ wt) (by rw[zA2];rfl) (toQ.same s3) (TabOk.same wx s3);refine⟨_,rfl,_,rfl,td,_,0,.str (wd k),rfl,rfl,SqT.of w9,rfl,rfl,_,rfl,?_⟩;by_cases mE:k=1
  .subst mE;rw[zAv (show V.str (wd 1)=V.str "pledge" from rfl)];obtain⟨Pc,Pd,JM,LN,Pe,Pf,B2⟩:=JK;refine bh ⟨_,rfl,tn,_,1,.ref JM,rfl,rfl,SqT.of B2.e,rfl,JM,LN,rfl,.inr (SqT.of B2.rp.e),zL,fun p3 gs mM=>?_⟩;have hl:S.ps.length<=10:=B2.lp;rw[B2.rp.l];have eQ:HQ p2=some (.lst [.int (S.ps.length:Int)]):=eQ;have s3:=Same.upd (o:=.lst [V.int (S.ps.length:Int)]) gs
   have tm:tame (.list [.int (S.ps.length:Int)])=true:=by
    generalize S.ps.length=n at hl;have:n=0\/n=1\/n=2\/n=3\/n=4\/n=5\/n=6\/n=7\/n=8\/n=9\/n=10:=Zz
    rcases this with rfl|rfl|rfl|rfl|rfl|rfl|rfl|rfl|rfl|rfl|rfl<;>rfl
   refine⟨fun a=>a≠sysModules,.ref p2,.ref p3,.list [.int (S.ps.length:Int)],.list [.int (S.ps.length:Int)],rfl,fun z=>z rfl,.lst JE (s3 _ _ eQ) (.cons (.int _) .nil),.lst mM aa (.cons (.int _) .nil),tm,tm,(by show 2<=1000;decide),(by show 2<=1000;decide),?_⟩;rw[zAv rfl];exact⟨_,rfl,bh ⟨_,rfl,done _ s3⟩⟩
  .have hn:¬V.str (wd k)=V.str "pledge":=by
    rcases ok with⟨rfl,_⟩|⟨rfl,_⟩|⟨rfl,_⟩
    .decide +kernel
    .exact absurd rfl mE
    .decide +kernel
   rw[zB4 hn];refine bf ⟨zL,fun p3 gs mM=>?_⟩
   have eQ:HQ p2=some (.lst [.non]):=by
    have:=eQ;unfold rvK at this;rw[zAw mE]at this;exact this
   have s3:=Same.upd (o:=.lst [V.non]) gs;refine⟨fun a=>a≠sysModules,.ref p2,.ref p3,.list [.none],.list [.none],rfl,fun z=>z rfl,.lst JE (s3 _ _ eQ) (.cons .non .nil),.lst mM aa (.cons .non .nil),rfl,rfl,(by show 2<=1000;decide),(by show 2<=1000;decide),?_⟩;rw[zAv rfl];exact⟨_,rfl,bh ⟨_,rfl,done _ s3⟩⟩
end
def GZ(st:Addr)(H:Hp)(n:Int)(v:V)(H':Hp):Prop:=∃cs:List (List Int),But st H H'/\dZ H' st/\IsTh (fun _=>False) H' v (ik cs)/\1<=cs.length/\(cs.length:Int)<=n/\∀r∈cs,okC r
inductive SpClipsRI(vs:List V)(H:Hp)(Q:VK):Prop
 |mk:∀st n,(vs=[.ref st,.int n])->(dZ H st)->(1<=n)->(n<=20)->(∀v H',GZ st H n v H'->Q v H')->SpClipsRI  vs H Q
def ue:Sp:=fun vs H Q _=>SpClipsRI  vs H Q
theorem yl(F:Fun K "_law_clips" "_law_clips" (top 65) f fd)(T:Mg mg)(Tr:mg "range"=none)(c1:Cal P w K mg base 1 "_law_take" ["_law_state_here","_law_many"] mj):FnOk P w K mg base CX0 2 f fd ["_law_state_here","_law_most"] ue:=by
 refine F.ok sc21 (fun vs H Q E h=>?_) (fun af A outer s H vs Q E hr h=>?_)
 .obtain⟨st,n,rfl,_⟩:=h;rfl
 .obtain⟨st,n,rfl,a9,n1,n2,q⟩:=h
  refine⟨_,aG (um (i:=2) sc21.nd rfl (Or.inr rfl) (pX bK (eU (qi (by repeat constructor))) (aK c1 hr (aq (pv 0) (aq ak aj)))))
   (aG (pss 3 sc21.nd (eU aj))
   (aG (fD zB9 rfl (iu rfl Tr (aq (aX dg ak (aK c1 hr (aq (pv 0) (aq (pv 1) aj)))) aj)) (pgn 4 sc21.nd)
    (aA (bR (gG zB6 zBd zBc eF (pv 3) (aq (iy fG rfl T.tuple boot_tuple (aq
     (f9 ["_law_sort","_law_state_here","_law_wide"] [none,some 0,some 2] rfl (iu rfl Tr (aq ak aj))
      (fun C fp Zt s₂ H₂=>⟨pgn 0 Ib,eZ,aK c1 hr (aq (pv 1) (aq (pX (tR (K:=K) rfl) (eU (aq (pv 2) (aq ak (aq (pv 2) (aq ak aj))))) (aK c1 hr (aq (pv 1) (aq ak aj)))) aj))⟩)
      (fun C=>cI (cI trivial)) ⟨rfl,rfl,rfl,rfl⟩) aj)) aj)))))
   (aA (aO (iy fG rfl T.tuple boot_tuple (aq (pv 3) aj)))))),?_⟩
  obtain⟨a,b,es,h1,h2,h3⟩:=id a9;refine aD (bO ?_);refine⟨zL,fun p hp=>?_⟩
  have np:p≠st:=fun z=>by
   rw[z,es]at hp;cases hp
  have LO:∀o,upd H p o st=some (.lst [.int a,.int b]):=fun o=>by rw[ao np.symm];exact es
  refine⟨_,rfl,st,4,rfl,⟨a,b,LO _,h1,h2,h3⟩,by decide,by decide,fun r a1 b1 r0 r1 g1 g2 g3=>?_⟩
  obtain⟨wd,hw,w1,w2⟩:∃wd:Int,atI (([4,14,45,1000]:List Int).map V.int) r=some (.int wd)/\1<=wd/\wd<=1000:=by
   have:r=0\/r=1\/r=2\/r=3:=Zz
   rcases this with rfl|rfl|rfl|rfl
   .exact⟨4,rfl,by decide,by decide⟩
   .exact⟨14,rfl,by decide,by decide⟩
   .exact⟨45,rfl,by decide,by decide⟩
   .exact⟨1000,rfl,by decide,by decide⟩
  refine⟨p,_,r,.int wd,rfl,rfl,SqL.of (by rw[ao np];exact aa),hw,?_⟩;refine bc ?_;dsimp only;refine aD (bO ?_);refine⟨zL,fun p3 gs=>?_⟩;refine bc ?_;dsimp only;refine aD ?_
  have mM:p3≠st:=fun z=>by
   rw[z,aa]at gs;cases gs
  refine⟨_,rfl,_,rfl,st,n,rfl,⟨a1,b1,by rw[ao mM.symm];exact aa,g1,g2,g3⟩,n1,Zz,fun r2 a2 b2 x0 x1 y1 y2 y3=>⟨_,_,rfl,rfl,1+r2,rfl,Zz,Zz,?_⟩⟩
  have mP:∀b' o',H b'=some o'->b'≠st->b'≠p/\b'≠p3:=fun b' o' e' ne=>by
   have z:b'≠p:=aB e' hp;refine⟨z,fun z2=>?_⟩;rw[<-z2,ao ne,ao z,e']at gs;cases gs
  refine fP (lo:=0) (n:=(1+r2).toNat) (fun i σ H'=>∃xs,∃ds:List (List Int),∃x4,σ=[some (.ref st),some (.int n),some (.int wd),some (.ref p3),x4]/\But st H H'/\dZ H' st/\H' p3=some (.lst xs)/\IsThs (fun _=>False) H' xs (ds.map bI)/\(∀r∈ds,okC r)/\ds.length=i/\xs.length=i) ?_ ?_ ?_
  .refine⟨[],[],none,rfl,fun b' o' e' ne=>?_,⟨a2,b2,aa,y1,y2,y3⟩,?_,.nil,(fun r hr=>by cases hr),rfl,rfl⟩
   .obtain⟨k1,k2⟩:=mP b' o' e' ne;rw[ao ne,ao k2,ao ne,ao k1];exact e'
   .rw[ao mM];exact aa
  .rintro i σ H' hi ⟨xs,ds,x4,rfl,bt,sa,e3,ts,tm,hs,hl⟩;refine bc ?_;refine⟨_,rfl,.inl ⟨rfl,_,SqL.of e3⟩,3,rfl,by decide,by decide,?_⟩;refine⟨fun j m ys JN H2=>m=3-j/\j<=3/\∃is x0,ys=is.map V.int/\is.length=j/\(∀v∈is,0<=v/\v<1000)/\JN=[x0,some (.ref st),some (.int wd)]/\But st H' H2/\dZ H2 st,⟨3,rfl,by decide,[],none,rfl,rfl,(fun _ h=>nomatch h),rfl,fun _ _ e _=>e,sa⟩,?_⟩;rintro j m ys JN H2 ⟨rfl,hj,is,x0,rfl,ua,hv,rfl,AY,JO⟩;refine⟨by rw[zA1,ua,sizeLine_eq];lia,?_⟩;by_cases av:j<3
   .refine .inr ⟨av,fun x H3 y=>?_⟩;obtain⟨e5,e6⟩:=y;subst e5;subst e6;refine bc ?_;obtain⟨a5,b5,e7,k1,k2,k3⟩:=JO;refine⟨_,rfl,_,rfl,_,rfl,zL,fun p4 oq=>?_⟩
    have JP:p4≠st:=fun z=>by
     rw[z,e7]at oq;cases oq
    refine⟨_,rfl,st,4,rfl,⟨a5,b5,by rw[ao JP.symm];exact e7,k1,k2,k3⟩,by decide,by decide,fun r3 a6 b6 z0 z1 l1 l2 l3=>?_⟩
    obtain⟨wn,LP,u1,u2⟩:∃wn:Int,atI [V.int wd,V.int 1,V.int wd,V.int 3] r3=some (.int wn)/\1<=wn/\wn<=1000:=by
     have:r3=0\/r3=1\/r3=2\/r3=3:=Zz
     rcases this with rfl|rfl|rfl|rfl
     .exact⟨wd,rfl,w1,w2⟩
     .exact⟨1,rfl,by decide,by decide⟩
     .exact⟨wd,rfl,w1,w2⟩
     .exact⟨3,rfl,by decide,by decide⟩
    refine⟨p4,_,r3,.int wn,rfl,rfl,SqL.of (by rw[ao JP];exact aa),LP,st,wn,rfl,⟨a6,b6,aa,l1,l2,l3⟩,u1,Zz,fun r4 a7 b7 v0 v1 m1 m2 m3=>?_⟩;refine⟨3-(j+1),Zz,rfl,av,is++[r4],_,by rw[zA4];rfl,by rw[zA2,ua];rfl,fun v BD=>?_,rfl,fun b' o' e' ne=>?_,⟨a7,b7,aa,m1,m2,m3⟩⟩
    .rcases zA6.mp BD with z|z
     .exact hv v z
     .rw[List.mem_singleton.mp z];lia
    .have e8:=AY b' o' e' ne;rw[ao ne,ao ne,ao (aB e8 oq)];exact e8
   .have e5:j=3:=Zz
    subst e5;have e9:=AY _ _ e3 mM;refine .inl ⟨zA3 _,fun D hD=>⟨D,_,rfl,.inl ⟨SqL.of aa,fun l rg=>?_⟩⟩⟩;have sm:Same H2 (upd (upd H2 D (.lst (is.map V.int))) l (.tup (is.map V.int))):=(Same.upd hD).updR rg;refine⟨p3,xs,.ref l,rfl,rfl,sm _ _ e9,by rw[hl,sizeLine_eq];lia,?_⟩
    have LQ:l≠p3:=fun z=>by
     rw[z,Same.upd hD _ _ e9]at rg;cases rg
    have tk:∀c l',(upd (upd H2 D (.lst (is.map V.int))) l (.tup (is.map V.int))) c=some (.tup l')->(upd (upd (upd H2 D (.lst (is.map V.int))) l (.tup (is.map V.int))) p3 (.lst (xs++[.ref l]))) c=some (.tup l'):=fun c l' e'=>by
     have:c≠p3:=fun z=>by
      rw[z,sm _ _ e9]at e';cases e'
     rw[ao this];exact e'
    refine⟨xs++[.ref l],ds++[is],_,rfl,fun b' o' e' ne=>?_,?_,aa,?_,?_,?_,by rw[zA2,hl];rfl⟩
    .have k4:=(mP b' o' e' ne).2;rw[ao k4];exact sm _ _ (AY _ _ (bt b' o' e' ne) ne)
    .obtain⟨a5,b5,e7,k1,k2,k3⟩:=JO;exact⟨a5,b5,by rw[ao mM.symm];exact sm _ _ e7,k1,k2,k3⟩
    .rw[zA4];refine IsThs.append ?_ (.cons (.tup (by rw[ao LQ];exact aa) (IsThs.ints is)) .nil)
     have LR:IsThs (fun _=>False) H2 xs (ds.map bI):=ts.keep (fun c l' e'=>AY c _ e' (fun z=>by
      obtain⟨a5,b5,e7,_⟩:=sa;rw[z,e7]at e'
      cases e')) (fun _ _ z _=>z.elim) fun _ _ z _=>z.elim
     exact(LR.same sm).keep tk (fun _ _ z _=>z.elim) fun _ _ z _=>z.elim
    .intro r hr;rcases zA6.mp hr with z|z
     .exact tm r z
     .rw[List.mem_singleton.mp z];exact⟨ua,hv⟩
    .rw[zA2,hs];rfl
  .rintro σ H' ⟨xs,ds,x4,rfl,bt,sa,e3,ts,tm,hs,hl⟩;refine⟨_,rfl,p3,xs,rfl,.inl ⟨SqL.of e3,fun l dE=>q _ _ ⟨ds,fun b' o' e' ne=>?_,?_,.tup aa ?_,Zz,Zz,tm⟩⟩⟩
   .rw[ao (aB (bt b' o' e' ne) dE)];exact bt b' o' e' ne
   .obtain⟨a',b',e',j1,j2,j3⟩:=sa;exact⟨a',b',by rw[ao (aB e' dE)];exact e',j1,j2,j3⟩
   .exact(ts.same (Same.upd dE)).keep (fun _ _ e=>e) (fun _ _ z _=>z.elim) fun _ _ z _=>z.elim
def P0:List Int:=[0,0,0,19,99,5]
def S0:List Int:=[0,0,1,3,2]
def Rk(c:List Int)(k:Nat):List Int:=if k=0 then c else if k=1 then P0 else S0
def ksS:List Nat:=[0,1,2]
def ksF:List Nat:=(List.replicate 10 [0,1]).flatten++(List.replicate 10 [0]).flatten++(List.replicate 12 [2]).flatten
def cn(ks:List Nat)(i k:Nat):Nat:=(ks.take i).count k
def stK(c:List Int)(ks:List Nat)(i:Nat):St3:=⟨List.replicate (cn ks i 0) c,List.replicate (cn ks i 1) P0,List.replicate (cn ks i 2) S0⟩
def chk(ks:List Nat):Bool:=(List.range ks.length).all fun i=>match ks[i]? with
 |some 0=>decide (cn ks i 0<20)
 |some 1=>decide (cn ks i 1<10)
 |some 2=>decide (cn ks i 2<12)&&bT (List.replicate (cn ks i 1) P0) (List.replicate (cn ks i 2) S0) S0
 |_=>false
theorem Ij:chk ksS=true:=by decide +kernel
theorem Ik:chk ksF=true:=by decide +kernel
theorem Il:okP P0:=by
 refine⟨rfl,?_⟩;decide +kernel
theorem k_lt{ks:List Nat}(h:chk ks=true){i k:Nat}(e:ks[i]?=some k):k<3:=by
 have hi:=(zAa.mp e).1;have:=List.all_eq_true.mp h i (List.mem_range.mpr hi);rw[e]at this
 match k with
 |0|1|2=>decide
 |n+3=>exact absurd this Zy
theorem Ha{ks:List Nat}{c:List Int}(h:chk ks=true)(hc:okC c){i k:Nat}(e:ks[i]?=some k):okK k (stK c ks i) (Rk c k):=by
 have hi:=(zAa.mp e).1;have h2:=List.all_eq_true.mp h i (List.mem_range.mpr hi);rw[e]at h2;have hk:=k_lt h e;have:k=0\/k=1\/k=2:=Zz
 rcases this with rfl|rfl|rfl
 .exact .inl ⟨rfl,hc,by show(List.replicate _ c).length<20;rw[List.length_replicate];exact zB8 h2⟩
 .exact .inr (.inl ⟨rfl,Il,by show(List.replicate _ P0).length<10;rw[List.length_replicate];exact zB8 h2⟩)
 .have h2:=Bool.and_eq_true_iff.mp h2;exact .inr (.inr ⟨rfl,rfl,by show(List.replicate _ S0).length<12;rw[List.length_replicate];exact zB8 h2.1,h2.2⟩)
theorem qO{ks:List Nat}{i k:Nat}(e:ks[i]?=some k)(j:Nat):cn ks (i+1) j=cn ks i j+if k=j then 1 else 0:=by
 unfold cn;obtain⟨hi,e'⟩:=zAa.mp e;rw[List.take_succ_eq_append_getElem hi,List.count_append,e',List.count_singleton];simp
theorem Dg{ks:List Nat}{c:List Int}(h:chk ks=true){i k:Nat}(e:ks[i]?=some k):nxK k (stK c ks i) (Rk c k)=stK c ks (i+1):=by
 have hk:=k_lt h e;have:k=0\/k=1\/k=2:=Zz
 unfold stK;rw[qO e,qO e,qO e];rcases this with rfl|rfl|rfl
 .show(⟨List.replicate _ c++[c],_,_⟩:St3)=_;rw[<-List.replicate_succ'];rfl
 .show(⟨_,List.replicate _ P0++[P0],_⟩:St3)=_;rw[<-List.replicate_succ'];rfl
 .show(⟨_,_,List.replicate _ S0++[S0]⟩:St3)=_;rw[<-List.replicate_succ'];rfl
theorem vd{te:TE}{σ:L2.St}{H:Hp}{Q:VK}(R:VK)(h2:∀q:VK,(∀v H,R v H->q v H)->te σ H q)(h1:∀v H,R v H->Q v H):te σ H Q:=h2 Q h1
def dK(d0 d1 d2 k:Nat):V:=.ref (if k=0 then d0 else if k=1 then d1 else d2)
def cP(b:Bool):List Nat:=if b then ksF else ksS
theorem Hb(b:Bool):chk (cP b)=true:=by cases b;exact Ij;exact Ik
abbrev NF:List Str:=["_law_state_here","_law_keeper","_law_full","_law_past","_law_now","_law_rows","_law_deed"]
inductive SpFilledI(C T:Addr)(vs:List V)(H:Hp)(Q:VK):Prop
 |mk:∀st p l t b,(vs=[.ref st,.ref p,.bl b])->(dZ H st)->(KpAt C H p l [t] [⟨[],[],[]⟩])->(TabOk H T qnO)->(∀c tn ts t' Ss H',okC c->(∀b o,b≠l->b≠st->b≠T->H b=some o->H' b=some o)->dZ H' st->ts.length<=100->KpAt C H' p l (ts++[t']) (Ss++[stK c (cP b) (cP b).length])->Bk H' tn (stK c (cP b) (cP b).length).cs (stK c (cP b) (cP b).length).ps (stK c (cP b) (cP b).length).ss->TabOk H' T qnO->Q (.ref tn) H')->SpFilledI C T vs H Q
def uf(C T:Addr):Sp:=fun vs H Q _=>SpFilledI C T vs H Q
section
variable{P:Program}{w:World}{K:Frag}{mg:Str->Option Value}{base:Heap}{C:Addr}
theorem scF:FnScope NF ["_law_state_here","_law_keeper","_law_full"] (az (top 83)):=fQS
theorem ym{f T1:Addr}{fd:FuncData}(F:Fun K "_law_filled" "_law_filled" (top 83) f fd)(cC:Cal P w K mg base 2 "_law_clips" ["_law_state_here","_law_most"] ue)(cO:Cal P w K mg base 62 "_law_one" ["_law_keeper","_law_past","_law_now","_law_deed"] (Dz C T1)):FnOk P w K mg base CX0 63 f fd ["_law_state_here","_law_keeper","_law_full"] (uf C T1):=by
 refine F.ok scF (fun vs H Q E h=>?_) (fun af A outer s H vs Q E hr h=>?_)
 .obtain⟨st,p,l,t,b,rfl,_⟩:=h;rfl
 .obtain⟨st,p,l,t,b,rfl,a9,kp,tab,q⟩:=h
  refine jr (aF ⟨pA (i:=3) (j:=4) rfl scF.nd rfl rfl Zx rfl rfl (aq (eU aj) (aq (bj (aq (gq aW) (aq (gq aW) (aq (gq aW) aj)))) aj)) rfl⟩
   (aF (jk 5 scF.nd (dI (aM (cB (aM bA (aM ⟨pX aZ (aK cC hr (aq (pv 0) (aq ak aj))) ak⟩ aW)))
    (aM (cB (aM bA (aM (cB (aM bL (aM bL (aM bL (aM bL (aM bL (aM bL aW))))))) aW))) (aM (cB (aM bA (aM (cB (aM bL (aM bL (aM bL (aM bL (aM bL aW)))))) aW))) aW)))))
   (aF (jk 5 scF.nd ⟨dO (bD (pv 2)) (aX gP (aX gP (aX pM (lH pL (pv 5) pG (pH ak)) ak) (aX pM (lH pL (pv 5) pG (pH ak)) ak)) (aX pM (lH pL (pv 5) (pH ak) pG) ak)) (pv 5)⟩)
   (aF ⟨fD zB9 rfl (vh (pv 5)) (pgn 6 scF.nd) (ou (bU (jk 4 scF.nd ⟨dO (aU vz (pv 4) gK (aV _)) (aK cO hr (aq (pv 1) (aq (pv 3) (aq (pv 4) (aq (pv 6) aj))))) gK⟩)))⟩
   (bU (gr ⟨pv 4⟩)))))) ?_
  refine aD ?_;refine⟨zL,fun pa JQ=>⟨zL,fun e1 h1=>⟨zL,fun e2 h2=>⟨zL,fun e3 h3=>⟨zL,fun tn kH=>?_⟩⟩⟩⟩⟩;have u1:=Same.upd (o:=.lst []) JQ;have u2:=Same.upd (o:=.tup []) h1;have u3:=Same.upd (o:=.tup []) h2;have u4:=Same.upd (o:=.tup []) h3;have u5:=Same.upd (o:=.tup [V.ref e1,V.ref e2,V.ref e3]) kH;have sA:=(((u1.trans u2).trans u3).trans u4).trans u5;have Ea:=((u2.trans u3).trans u4).trans u5 _ _ (aa (H:=H) (a:=pa) (o:=.lst []));have E1:=((u3.trans u4).trans u5) _ _ (aa (H:=upd H pa (.lst [])) (a:=e1) (o:=.tup []));have E2:=(u4.trans u5) _ _ (aa (H:=upd (upd H pa (.lst [])) e1 (.tup [])) (a:=e2) (o:=.tup []));have E3:=u5 _ _ (aa (H:=upd (upd (upd H pa (.lst [])) e1 (.tup [])) e2 (.tup [])) (a:=e3) (o:=.tup []));have E4:=aa (H:=upd (upd (upd (upd H pa (.lst [])) e1 (.tup [])) e2 (.tup [])) e3 (.tup [])) (a:=tn) (o:=.tup [V.ref e1,V.ref e2,V.ref e3])
  have EL:∀b o,H b=some o->b≠pa:=fun b o e z=>by rw[z,JQ]at e;cases e
  clear u1 u2 u3 u4 u5;generalize upd (upd (upd (upd (upd H pa (.lst [])) e1 (.tup [])) e2 (.tup [])) e3 (.tup [])) tn (.tup [V.ref e1,V.ref e2,V.ref e3])=H5 at sA Ea E1 E2 E3 E4⊢
  have xa:Bk H5 tn [] [] []:=⟨e1,[],e2,[],e3,[],E4,⟨E1,rfl,fun i r e=>(by cases e)⟩,fun r hr=>(by cases hr),by decide,⟨E2,rfl,fun i r e=>(by cases e)⟩,by decide,fun r hr=>(by cases hr),⟨E3,rfl,fun i r e=>(by cases e)⟩,by decide,fun r hr=>(by cases hr),rfl⟩
  have xb:dZ H5 st:=by
   obtain⟨x,y,e,r⟩:=a9;exact⟨x,y,sA _ _ e,r⟩
  refine⟨_,_,rfl,?_⟩;dsimp only;refine aD (bO ?_);refine⟨_,rfl,st,1,rfl,xb,by decide,by decide,fun v H6 made=>?_⟩;obtain⟨cs,bt,LS,th,l1,_,okc⟩:=made;obtain⟨ac,xc,rfl,RA⟩:=CJ th
  obtain⟨c,ec⟩:∃c,cs[0]?=some c:=⟨_,zA0 Zz⟩
  have okc:=okc c (List.mem_of_getElem? ec);obtain⟨tc,ea,a8⟩:=gC (n:=0) RA Zx ec;refine⟨ac,xc,0,.ref tc,rfl,rfl,SqT.of RA.e,ea,zL,fun d0 rf=>⟨zL,fun q1 LU=>⟨zL,fun d1 EM=>⟨zL,fun q2 EN=>⟨zL,fun d2 hd2=>⟨zL,fun rw LV=>?_⟩⟩⟩⟩⟩⟩;have v1:=Same.upd (o:=.tup [V.str "shear",V.ref tc]) rf;have v2:=Same.upd (o:=.tup (P0.map V.int)) LU;have v3:=Same.upd (o:=.tup [V.str "pledge",V.ref q1]) EM;have v4:=Same.upd (o:=.tup (S0.map V.int)) EN;have v5:=Same.upd (o:=.tup [V.str "sell",V.ref q2]) hd2;have v6:=Same.upd (o:=.lst [V.ref d0,V.ref d1,V.ref d2]) LV;have sB:=((((v1.trans v2).trans v3).trans v4).trans v5).trans v6;have D0:=((((v2.trans v3).trans v4).trans v5).trans v6) _ _ aa;have D1:=(((v3.trans v4).trans v5).trans v6) _ _ aa;have D2:=((v4.trans v5).trans v6) _ _ aa;have D3:=(v5.trans v6) _ _ aa;have D4:=v6 _ _ aa;have D5:=aa (H:=upd (upd (upd (upd (upd H6 d0 (.tup [V.str "shear",V.ref tc])) q1 (.tup (P0.map V.int))) d1 (.tup [V.str "pledge",V.ref q1])) q2 (.tup (S0.map V.int))) d2 (.tup [V.str "sell",V.ref q2])) (a:=rw) (o:=.lst [V.ref d0,V.ref d1,V.ref d2]);clear v1 v2 v3 v4 v5 v6;refine bc ?_;dsimp only;refine ig (fun HB=>Same H6 HB/\HB d0=some (.tup [V.str (wd 0),V.ref tc])/\HB q1=some (.tup (P0.map V.int))/\HB d1=some (.tup [V.str (wd 1),V.ref q1])/\HB q2=some (.tup (S0.map V.int))/\HB d2=some (.tup [V.str (wd 2),V.ref q2])/\HB rw=some (.lst [V.ref d0,V.ref d1,V.ref d2])) ⟨sB,D0,D1,D2,D3,D4,D5⟩ fun HB ⟨sB,D0,D1,D2,D3,D4,D5⟩=>?_;refine aD (bO ?_);refine vd (fun v HX=>∃rl,v=.ref rl/\Same HB HX/\HX rl=some (.lst ((cP b).map (dK d0 d1 d2)))) (fun q' hq=>?_) (fun v HX hR=>?_)
  .refine⟨_,rfl,b,rfl,?_⟩
   cases b with
   |false=>exact bf ⟨_,rfl,hq _ _ ⟨rw,rfl,fun _ _ e=>e,D5⟩⟩
   |true=>
    refine bh ?_;refine⟨_,rfl,2,rfl,rw,_,rfl,SqL.of D5,fun s1 qA=>⟨s1,10,[V.ref d0,V.ref d1],rfl,rfl,aa,by decide,by decide,zL,fun r1 DO=>?_⟩⟩;have w1:=Same.upd (o:=.lst (uB [V.ref d0,V.ref d1,V.ref d2] none (some 2))) qA;have w2:=w1.updR (o:=.lst (List.replicate 10 [V.ref d0,V.ref d1]).flatten) DO;refine⟨_,rfl,1,rfl,rw,_,rfl,SqL.of (w2 _ _ D5),fun s2 dS=>⟨s2,10,[V.ref d0],rfl,rfl,aa,by decide,by decide,zL,fun r2 LW=>?_⟩⟩;have w3:=Same.upd (o:=.lst (uB [V.ref d0,V.ref d1,V.ref d2] none (some 1))) dS;have w4:=w3.updR (o:=.lst (List.replicate 10 [V.ref d0]).flatten) LW;refine⟨r1,r2,_,_,rfl,rfl,w4 _ _ aa,aa,zL,fun c1 LX=>?_⟩;have w5:=w4.updR (o:=.lst ((List.replicate 10 [V.ref d0,V.ref d1]).flatten++(List.replicate 10 [V.ref d0]).flatten)) LX;refine⟨_,rfl,2,rfl,rw,_,rfl,SqL.of (w5 _ _ (w2 _ _ D5)),fun s3 LY=>⟨s3,12,[V.ref d2],rfl,rfl,aa,by decide,by decide,zL,fun r3 LZ=>?_⟩⟩;have w6:=Same.upd (o:=.lst (uB [V.ref d0,V.ref d1,V.ref d2] (some 2) none)) LY;have w7:=w6.updR (o:=.lst (List.replicate 12 [V.ref d2]).flatten) LZ;refine⟨c1,r3,_,_,rfl,rfl,w7 _ _ aa,aa,zL,fun c2 kf=>?_⟩;exact hq _ _ ⟨c2,rfl,((w2.trans w5).trans w7).updR kf,aa⟩
  obtain⟨rl,rfl,sX,eX⟩:=hR;have sC:=sB.trans sX;have D0:=sX _ _ D0;have D1:=sX _ _ D1;have D2:=sX _ _ D2;have D3:=sX _ _ D3;have D4:=sX _ _ D4;have EO:=sC _ _ a8;clear D5 sX RA ea E1 E2 E3 E4;refine bc ?_;dsimp only;refine aD ?_;have kX:∀b o,b≠st->H b=some o->HX b=some o:=fun b o n e=>sC _ _ (bt b o (sA _ _ e) n);obtain⟨x0,y0,oB,Pg⟩:=id a9
  have xh:∀{b o},H b=some o->o≠.lst [.int x0,.int y0]->b≠st:=fun{b o} e n z=>by
   rw[z,oB]at e;cases e;exact n rfl
  have nl:l≠st:=xh kp.el (fun z=>nomatch z);have oP:pa≠st:=(EL _ _ oB).symm;have AW:pa≠l:=(EL _ _ kp.el).symm;have ER:KpAt C HX p l [t] [⟨[],[],[]⟩]:=kp.keep (fun b x e=>kX _ _ (xh e (fun z=>nomatch z)) e) (fun dx f e=>kX _ _ (xh e (fun z=>nomatch z)) e) fun x e=>kX _ _ nl e
  have JR:T1≠st:=by
   obtain⟨ps,e',_⟩:=id tab;exact xh e' (fun z=>nomatch z)
  have xi:TabOk HX T1 qnO:=tab.keep (fun ps e=>kX _ _ JR e) fun b o e=>kX _ _ (xh e (fun z=>nomatch z)) e;have oQ:HX pa=some (.lst []):=sC _ _ (bt _ _ Ea oP)
  have L5:Bk HX tn [] [] []:=xa.keep fun b x e=>sC _ _ (bt _ _ e fun z=>by
   obtain⟨x5,y5,e5,_⟩:=xb;rw[z,e5]at e
   cases e)
  have ES:dZ HX st:=by
   obtain⟨x6,y6,e6,r6⟩:=LS;exact⟨x6,y6,sC _ _ e6,r6⟩
  have L7:3<=(cP b).length/\(cP b).length<=42:=by cases b<;>decide
  have L8:rl≠pa:=fun z=>by
   rw[z,oQ]at eX;have:=congrArg List.length (HO.lst.inj (zAl eX));rw[zA1]at this;have:0=(cP b).length:=this;lia
  have L9:rl≠l:=fun z=>by
   rw[z,ER.el]at eX;have:=congrArg List.length (HO.lst.inj (zAl eX));rw[zA1,zA1]at this;have:1=(cP b).length:=this;lia
  have JS:∀{b o},HX b=some o->(∀ps,o≠HO.tbl ps)->b≠T1:=fun e n=>cG xi e n
  have ET:∀{b x},HX b=some (.tup x)->b≠l/\b≠pa/\b≠T1:=fun{b x} e=>⟨(fun z=>by rw[z,ER.el]at e;cases e),(fun z=>by rw[z,oQ]at e;cases e),JS e nofun⟩
  have oS:=Hb b;refine⟨_,rfl,rl,rfl,⟨_,SqL.of eX⟩,qY (xs:=(cP b).map (dK d0 d1 d2)) (fun i σ Hc=>∃pb ts pj Ss px x6,σ=[some (.ref st),some (.ref p),some (.bl b),some (.ref pa),some (.ref pb),some (.ref rl),x6]/\KpAt C Hc p l (ts++[pj]) (Ss++[stK c (cP b) i])/\ts.length=i/\Hc pa=some (.lst px)/\px.length=i/\Bk Hc pb (stK c (cP b) i).cs (stK c (cP b) i).ps (stK c (cP b) i).ss/\TabOk Hc T1 qnO/\∀b o,b≠l->b≠pa->b≠T1->HX b=some o->Hc b=some o) ?_ ?_ ?_ ?_⟩
  .exact⟨tn,[],t,[],[],none,rfl,ER,rfl,oQ,rfl,L5,xi,fun _ _ _ _ _ e=>e⟩
  .rintro i σ Hc hi ⟨pb,ts,pj,Ss,px,x6,rfl,kM,js,EU,AV,xk,kQ,fr⟩;exact SqL.of (fr _ _ L9 L8 (JS eX nofun) eX)
  .rintro i x σ Hc hx ⟨pb,ts,pj,Ss,px,x6,rfl,kM,js,EU,AV,xk,kQ,fr⟩;rw[zAb]at hx;obtain⟨k,ek,rfl⟩:=Option.map_eq_some_iff.mp hx;have hi:=(zAa.mp ek).1;have hk:=k_lt oS ek
   obtain⟨dk,rk,EV,Ma,Mb⟩:∃dk rk,dK d0 d1 d2 k=.ref dk/\HX dk=some (.tup [V.str (wd k),V.ref rk])/\HX rk=some (.tup ((Rk c k).map V.int)):=by
    have:k=0\/k=1\/k=2:=Zz
    rcases this with rfl|rfl|rfl
    .exact⟨d0,tc,rfl,D0,EO⟩
    .exact⟨d1,q1,rfl,D2,D1⟩
    .exact⟨d2,q2,rfl,D4,D3⟩
   rw[EV];have kt:∀{b x},HX b=some (.tup x)->Hc b=some (.tup x):=fun{b x} e=>fr _ _ (ET e).1 (ET e).2.1 (ET e).2.2 e;refine bc ?_;dsimp only;refine bO ?_;refine⟨_,rfl,rfl,_,rfl,?_⟩;refine bh ⟨_,rfl,_,rfl,_,rfl,_,rfl,p,l,ts,pj,Ss,stK c (cP b) i,pa,px,pb,dk,k,rk,Rk c k,rfl,kM,Zz,EU,Zz,AW,xk,kt Ma,kt Mb,Ha oS okc ek,kQ,fun AR t' AS H' Mc AX so Md JT EW=>?_⟩;rw[Dg oS ek]at AX JT;exact⟨AR,ts++[pj],t',Ss++[stK c (cP b) i],AS,_,rfl,AX,by rw[zA2,js];rfl,so,by rw[Md,AV],JT,EW,fun b o n1 n2 n3 e=>Mc b o n1 n2 n3 (fr b o n1 n2 n3 e)⟩
  .rintro σ Hc ⟨pb,ts,pj,Ss,px,x6,rfl,kM,js,EU,AV,xk,kQ,fr⟩;rw[zA1]at kM js xk;refine⟨_,rfl,q c pb ts pj Ss Hc okc (fun b o n1 n2 n3 e=>fr b o n1 (EL b o e) n3 (kX b o n2 e)) ?_ Zz kM xk kQ⟩;obtain⟨x6,y6,e6,r6⟩:=ES;exact⟨x6,y6,fr _ _ nl.symm oP.symm JR.symm e6,r6⟩
end
def qnL:Str:=(PyProof.Rows.envOfC "law" (az (top 84)) 0 0 .none).qual++"<lambda>"
abbrev NL:List Str:=["_law_script","_law_k","_law_state_here","_law_keeper","_law_now","_law_turn","_law_word","_law_thing","_law_bad","_law_due","_law_kept","_law_year"]
inductive SpLawI(K:Frag)(T T2:Addr)(vs:List V)(H:Hp)(Q:VK):Prop
 |mk:∀(a:Addr) (ns:List Int),(vs=[.ref a])->(SqL K H a (ns.map V.int))->(ns.length<=63)->(TabOk H T qnO)->(TabOk H T2 qnL)->(∀H',Q (.bl true) H')->SpLawI K T T2 vs H Q
def wL(K:Frag)(T T2:Addr):Sp:=fun vs H Q _=>SpLawI K T T2 vs H Q
def MkM(P:Program)(w:World)(K:Frag)(mg:Str->Option Value)(base:Heap)(C:Addr):Prop:=∃f fd,FnOk P w K mg base CX0 1 f fd ["self"] (v7 C)/\Mk K C f/\Binds K fd ["self"] []
theorem mV{rs:List (List Int)}(h:∀r∈rs,∀i∈r,-10<=i/\i<=2000100):tms (2^100) (rs.map bI)=true:=by
 refine tms_all.mpr fun d hd=>?_;obtain⟨r,hr,rfl⟩:=zA5.mp hd;show tms (2^100) (r.map PyData.int)=true;refine tms_all.mpr fun d hd=>?_;obtain⟨i,hi,rfl⟩:=zA5.mp hd;have:=h r hr i hi;exact zAv (show i.natAbs<2^100 by lia)
theorem jB{k:Nat}:∀{rs:List (List Int)},(∀r∈rs,r.length=k)->szs (rs.map bI)=(k+1)*rs.length
 |[],_=>rfl
 |r::rs,h=>by
  show(1+szs (r.map PyData.int))+szs (rs.map bI)=(k+1)*(rs.length+1);rw[iI,h r (.head _),jB fun q hq=>h q (.tail _ hq),Nat.mul_add];lia
theorem yo{k:Nat}{S:St3}{d:PyData}{j:Nat}(hk:k<3)(ls:S.ss.length<=12)(h:ir k S d=.word j):(k=0/\j=11/\mO S d)\/(k=1/\j=9/\jW S d)\/(k=2/\j=12/\qM S d):=by
 have:k=0\/k=1\/k=2:=Zz
 unfold ir at h;rcases this with rfl|rfl|rfl
 .rw[zAx rfl]at h
  cases e:dX d with
  |true=>rw[e,zAx rfl]at h;split at h<;>cases h
  |false=>rw[e,zAw Zx]at h;cases h;exact .inl ⟨rfl,rfl,e⟩
 .rw[zAw Zx,zAx rfl]at h
  cases e:cW d with
  |true=>rw[e,zAx rfl]at h;split at h<;>cases h
  |false=>rw[e,zAw Zx]at h;cases h;exact .inr (.inl ⟨rfl,rfl,e⟩)
 .rw[zAw Zx,zAw Zx]at h;by_cases l:S.ss.length=12
  .rw[zAx l]at h;cases h
  .rw[zAw l]at h
   cases e:aY d 5 with
   |false=>rw[e,Bool.false_and,zAw Zx]at h;cases h;exact .inr (.inr ⟨rfl,rfl,Zz,.inl e⟩)
   |true=>
    obtain⟨ed,r5⟩:=dJ (n:=5) e
    cases e2:bT S.ps S.ss (rowOf d)with
    |true=>rw[e,e2,Bool.true_and,zAx rfl]at h;cases h
    |false=>rw[e,e2,Bool.true_and,zAw Zx]at h;cases h;exact .inr (.inr ⟨rfl,rfl,Zz,.inr ⟨rowOf d,ed,r5,e2⟩⟩)
theorem yp{k:Nat}{S:St3}{d:PyData}{m n:Int}(hk:k<3)(h:ir k S d=.many m n):(k=0/\jV S d m n)\/(k=1/\jb S d m n)\/(k=2/\mQ S d m n):=by
 have:k=0\/k=1\/k=2:=Zz
 unfold ir at h;rcases this with rfl|rfl|rfl
 .rw[zAx rfl]at h
  cases e:dX d with
  |true=>
   rw[e,zAx rfl]at h;by_cases l:S.cs.length=20
   .rw[zAx l]at h;cases h;exact .inl ⟨rfl,e,l,rfl,rfl⟩
   .rw[zAw l]at h;cases h
  |false=>rw[e,zAw Zx]at h;cases h
 .rw[zAw Zx,zAx rfl]at h
  cases e:cW d with
  |true=>
   rw[e,zAx rfl]at h;by_cases l:S.ps.length=10
   .rw[zAx l]at h;cases h;exact .inr (.inl ⟨rfl,e,l,rfl,rfl⟩)
   .rw[zAw l]at h;cases h
  |false=>rw[e,zAw Zx]at h;cases h
 .rw[zAw Zx,zAw Zx]at h;by_cases l:S.ss.length=12
  .rw[zAx l]at h;cases h;exact .inr (.inr ⟨rfl,l,rfl,rfl⟩)
  .rw[zAw l]at h;split at h<;>cases h
section
variable{P:Program}{w:World}{K:Frag}{mg:Str->Option Value}{base:Heap}{C:Addr}{Cs:Nat->Addr}
theorem FP{X:Cx}{C:Addr}{k:Nat}{x:Str}{p pos:Pos}(M:MkM X.prog X.w X.K X.mg X.base C)(hr:Room k X.A)(hk:2<=k)(hg:Gl X x)(hm:X.mg x=some (.ref C))(bb:(x==("__debug__":Str))=false:=by decide):PE X (.Call (.Name x p) [] [] pos) (Dm C (v7 C) [] E0 iT):=by
 obtain⟨f,fd,F,M,b⟩:=M;exact yM M F (hr.mono hk) hg hm b .nil vH bb
abbrev Fs(st:Addr)(a:Addr):Prop:=a=st\/a=sysModules
theorem Hd{st:Addr}{H:Hp}(g:dZ H st):Fb (Fs st) st H:=⟨.inl rfl,.inr rfl,fun b hb hn=>hb.elim (fun z=>by
 obtain⟨u,v,e,_⟩:=g;rw[z,e]at hn
 cases hn) id⟩
theorem ug{K:Frag}:PySem.W.kitOne K (.type "str") (.type "str")=some true:=by rfl
theorem yq:bootBuiltins "max"=some (.builtin "max"):=by decide +kernel
theorem yt:bootBuiltins "min"=some (.builtin "min"):=by decide +kernel
theorem jX{Cs:Nat->Addr}{kk:Nat}{vs:List V}{H:Hp}{Q Q0:VK}{E:XK}(h:jR P w K mg base Cs kk vs H Q E)(hQ:∀v H,Q v H->Q0 v H):jR P w K mg base Cs kk vs H Q0 E:=by
 obtain⟨fl,Qw,Ew,e,L,q1,q2⟩:=h;exact⟨fl,Qw,Ew,e,L,fun v H1 h p hp np=>hQ _ _ (q1 v H1 h p hp np),fun a C H1 h=>(let⟨j,row,xw,kd,q3⟩:=q2 a C H1 h;⟨j,row,xw,kd,fun fa p H2 s e=>hQ _ _ (q3 fa p H2 s e)⟩)⟩
theorem scW:FnScope NL ["_law_script"] (az (top 84)):=fQS
theorem FQ{f T1 T2 cc:Addr}{fd:FuncData}(F:Fun K "law" "law" (top 84) f fd)(hc:fd.code=.ref cc)(hC:PySem.W.CodeHd base cc T2)(hB:base.BuiltinsAt mg T2)(n12:T1≠T2)(XT:Txt K C)(mC:mg "Keeper"=some (.ref C))(T:Mg mg)(Tr:mg "range"=none)(Tm:mg "max"=none)(Tn:mg "min"=none)(Ts:mg "str"=none)(Tp:mg "repr"=none)(M:TMF K Cs)(kd:∀j,j=5\/j=9\/j=11\/j=12\/j=16->Kind K Cs j)
  (c1:Cal P w K mg base 2 "_law_state" ["_law_script","_law_k"] (wg K)) (c2:Cal P w K mg base 1 "_law_take" ["_law_state_here","_law_many"] mj) (mK:MkM P w K mg base C) (cF:Cal P w K mg base 63 "_law_filled" ["_law_state_here","_law_keeper","_law_full"] (uf C T1))
  (Me:Cal P w K mg base 5 "_law_spoilt" ["_law_state_here","_law_thing","_law_deep"] (jq (2:Nat))) (Mf:Cal P w K mg base 2 "_law_odd" ["_law_state_here"] zW) (ED:Cal P w K mg base 4 "_law_behind" ["_law_now","_law_deed"] mU) (EE:Cal P w K mg base 9 "_law_said" ["_law_call"] (jR P w K mg base Cs 7))
  (AU:tU P w K mg base 5 "_law_do" ["_law_keeper","_law_deed"] (FJ C Cs)) (Mi:oZ P w K mg base C 4 "gifts_of" ["self","year"] (Dy C Cs)) (Mj:mJ P w K mg base C 1 "book_now" ["self"] (jy C)) (cS:Cal P w K mg base 61 "_law_same" ["_law_found","_law_due"] uU):
  FnOk P w K mg base CX0 64 f fd ["_law_script"] (wL K T1 T2):=by
 refine F.okC hc scW (fun vs H Q E h=>?_) (fun A outer s H vs Q E hr h=>?_)
 .obtain⟨a,ns,rfl,_⟩:=h;rfl
 .obtain⟨a,ns,rfl,hS,hl,tab,pk,q⟩:=h;obtain⟨f1,LD,F1,m1,k1,b1⟩:=id EE;have fN:Room 9 (A.deeper (PyProof.Rows.envOfC "law" (az (top 84)) s.heap.objs.size f (.ref cc))):=hr.mono Zx
  refine jr (aF ⟨fD zB9 rfl (iu rfl Tr (aq (aH (wV rfl) rfl Tm yq (aq ak (aq (aH (wW rfl) rfl Tn yt (aq (aH aP rfl T.len PySem.boot_len (aq (pv 0) aj)) (aq ak aj))) aj))) aj)) (pgn 1 scW.nd)
    (ou (aF (jk 2 scW.nd ⟨aK c1 hr (aq (pv 0) (aq (pv 1) aj))⟩)
    (aF (uK (i:=3) scW.nd rfl (Or.inr rfl) ⟨FP mK hr Zx rfl mC⟩)
    (aF (jk 4 scW.nd ⟨aK cF hr (aq (pv 2) (aq (pv 3) (aq (fY dq (aK c2 hr (aq (pv 2) (aq ak aj))) ak (aV _)) aj)))⟩)
    (aF ⟨bw (aU Ed (pv 4) gK (aV _)) cz aN⟩
    (aF ⟨fD zB9 rfl (iu rfl Tr (aq ak aj)) (pgn 5 scW.nd)
      (ou (aF ⟨bY (pX bK (BE.run (dI (aM (cB (aM bA (aM ⟨pX aZ (pX aZ (pv 4) ak) ak⟩ aW))) (aM (cB (aM bA (aM ⟨pX aZ (pX aZ (pv 4) ak) ak⟩ aW))) (aM (cB (aM bA (aM (cB (aM bL (aM bL (aM bL (aM bL (aM bL aW)))))) aW))) aW))))) (aX gM (pv 5) ak)) (bW rfl (au (d7 (i:=6) scW.nd rfl (Or.inr rfl)) (au (pgn 7 scW.nd) bF)))⟩
      (aF (uK (i:=8) scW.nd rfl (Or.inr rfl) ⟨pX bK (eU (aq (aK Me hr (aq (pv 2) (aq (pv 7) (aq ak aj)))) (aq (aK Mf hr (aq (pv 2) aj)) (aq (pv 7) aj)))) (aK c2 hr (aq (pv 2) (aq ak aj)))⟩)
      (aF ⟨pA (i:=9) (j:=10) rfl scW.nd rfl rfl Zx rfl rfl (aq (aK ED hr (aq (pv 4) (aq (bj (aq (pv 6) (aq (pv 8) aj))) aj))) (aq (aH (iC (S:=fun a=>a≠sysModules) hr.gd (fun z=>z rfl)) rfl Tp gA (aq (pv 8) aj)) aj)) rfl⟩
      (bU ⟨bw (bD (aH bG rfl T.isinstance boot_isinstance (aq (pX aZ (pv 9) ak) (aq (cZ rfl Ts ph (v:=.ty "str") rfl) aj))))
       (aA (bw (PW.pt (fO (aU (zQ (S:=fun _=>False) hr.units) (lZ (N:=["_law_keeper","_law_word","_law_bad"]) (ix:=[3,6,8]) (sc:=az (top 84)) (NX:=NL) F1 fN rfl m1 k1 b1 rfl (fun _=>rfl) rfl hC hB rfl rfl rfl (fun _ _ _ _ _=>rfl) Zv) (pv 9) (aV _)) (fj (aU rm (aH (iC (S:=fun a=>a≠sysModules) hr.gd (fun z=>z rfl)) rfl Tp gA (aq (pv 8) aj)) (pv 10) (aV _))))) cz aN)) aN⟩)))))⟩
    (aF ⟨fD zB9 rfl (vh (BE.run (dI (aM ⟨qZ lF ak⟩ (aM ⟨aH aP rfl T.len PySem.boot_len (aq (pX aZ (pv 4) ak) aj)⟩ (aM uJ (aM vN (aM bA (aM ⟨aX jE ak ak⟩ aW))))))))) (d7 (i:=11) scW.nd rfl (Or.inr rfl))
      (ou (bU ⟨bw (aU (zQ (S:=fun _=>False) hr.units) (lZ (N:=["_law_keeper","_law_year"]) (ix:=[3,11]) (sc:=az (top 84)) (NX:=NL) F1 fN rfl m1 k1 b1 rfl (fun _=>rfl) rfl hC hB rfl rfl rfl (fun _ _ _ _ _=>rfl) Zv) (bj (aq cA aj)) (aV _)) cz aN⟩))⟩
    (bU ⟨bw (bB (bD (aK cS hr (aq (dU Mj XT.cl hr Zx (pv 3)) (aq (pv 4) aj))))) cz aN⟩))))))))⟩
   (bU (gr vN))) ?_
  refine aD ?_;have dE:(ns.map V.int).length<=63:=by rw[zA1];exact hl
  refine⟨_,rfl,a,_,rfl,.inl hS,_,_,rfl,_,_,rfl,_,rfl,?_,?_,?_⟩
  .split<;>split<;>lia
  .split<;>split<;>lia
  refine fP (lo:=0) (fun i σ Hc=>∃x1 x2 x3 x4 x5 x6 x7 x8 x9 mS fF,σ=[some (.ref a),x1,x2,x3,x4,x5,x6,x7,x8,x9,mS,fF]/\(∀b o,b≠T1->b≠T2->H b=some o->Hc b=some o)/\TabOk Hc T1 qnO/\TabOk Hc T2 qnL) ?_ ?_ ?_
  .exact⟨none,none,none,none,none,none,none,none,none,none,none,rfl,fun _ _ _ _ e=>e,tab,pk⟩
  .rintro i σ H1 hi ⟨x1,x2,x3,x4,x5,x6,x7,x8,x9,mS,fF,rfl,mE,gv,tb2⟩
   have Ml:SqL K H1 a (ns.map V.int):=by
    rcases hS with(h|⟨o,h⟩)|h
    .exact .inl (.inl (mE _ _ (cG tab h nofun) (cG pk h nofun) h))
    .exact .inl (.inr ⟨o,mE _ _ (cG tab h nofun) (cG pk h nofun) h⟩)
    .exact .inr h
   refine bc ?_;dsimp only;refine aD (bO ?_);refine⟨_,rfl,_,rfl,a,ns,_,rfl,Ml,Zz,fun st x y hn DL Mm Mn=>?_⟩;have sS:=Same.upd (o:=.lst [.int x,.int y]) hn;have oB:=aa (H:=H1) (a:=st) (o:=.lst [V.int x,V.int y])
   have EZ:st≠T1:=fun z=>by
    obtain⟨ps,eT,_⟩:=gv;rw[z,eT]at hn;cases hn
   have Mo:st≠T2:=fun z=>by
    obtain⟨ps,eT,_⟩:=tb2;rw[z,eT]at hn;cases hn
   have gv:=TabOk.same gv sS;have tb2:=TabOk.same tb2 sS
   have k2:∀b o,b≠T1->b≠T2->H b=some o->upd H1 st (.lst [.int x,.int y]) b=some o/\b≠st:=fun b o n1 n2 e=>by
    have e1:=mE b o n1 n2 e;exact⟨sS _ _ e1,fun z=>by rw[z,hn]at e1;cases e1⟩
   generalize upd H1 st (.lst [.int x,.int y])=H2 at sS oB gv tb2 k2⊢;refine bc ?_;dsimp only;refine aD (bO ?_)
   refine fun p dx hp JU Ph=>⟨p,dx,rfl,aa,fun l t H3 lP nl JV=>⟨rfl,?_⟩⟩
   have s3:Same H2 H3:=fun b o e=>lP b o (fun z=>by rw[z,hp]at e;cases e) (by rw[ao (fun z=>by rw[z,hp]at e;cases e),ao (fun z=>by rw[z,JU]at e;cases e)];exact e)
   have AZ:∀b o,H2 b=some o->b≠l/\b≠p:=fun b o e=>by
    have np:b≠p:=fun z=>by rw[z,hp]at e;cases e
    have nd:b≠dx:=fun z=>by rw[z,JU]at e;cases e
    have e':upd (upd H2 dx (HO.own p)) p (HO.ins C dx []) b=some o:=by rw[ao np,ao nd];exact e
    exact⟨(fun z=>by rw[z,nl]at e';cases e'),np⟩
   have gv:=TabOk.same gv s3;have tb2:=TabOk.same tb2 s3;have pE:=s3 _ _ oB;have xl:l≠st:=(AZ _ _ oB).1.symm;have oP:p≠st:=(AZ _ _ oB).2.symm;refine bc ?_;dsimp only;refine aD (bO ?_);refine⟨_,rfl,_,rfl,_,rfl,st,2,rfl,⟨x,y,pE,DL,Mm,Mn⟩,by decide,by decide,fun r a' b' r0 r1 a0 b0 b1=>⟨rfl,?_⟩⟩
   have k4:∀b o,b≠st->H3 b=some o->upd H3 st (.lst [.int a',.int b']) b=some o:=fun b o n e=>by rw[ao n];exact e
   have xo:dZ (upd H3 st (.lst [.int a',.int b'])) st:=⟨a',b',aa,a0,b0,b1⟩
   have iA:∀{b o},H3 b=some o->o≠.lst [.int x,.int y]->b≠st:=fun{b o} e n z=>by
    rw[z,pE]at e;cases e;exact n rfl
   have xt:KpAt C (upd H3 st (.lst [.int a',.int b'])) p l [t] [⟨[],[],[]⟩]:=JV.keep (fun b x e=>k4 _ _ (iA e (fun z=>nomatch z)) e) (fun dx f e=>k4 _ _ (iA e (fun z=>nomatch z)) e) fun x e=>k4 _ _ xl e;have pS:∀{T q},TabOk H3 T q->TabOk (upd H3 st (.lst [.int a',.int b'])) T q:=fun{T q} t=>t.keep (fun ps e=>k4 _ _ (iA e (fun z=>nomatch z)) e) fun b o e=>k4 _ _ (iA e (fun z=>nomatch z)) e;have gv:=pS gv;have tb2:=pS tb2;generalize upd H3 st (.lst [.int a',.int b'])=H4 at k4 xo xt gv tb2⊢;clear pS;refine⟨st,p,l,t,_,rfl,xo,xt,gv,fun c tn ts t' Ss H5 okc lS iS js A0 xa E6=>?_⟩;generalize decide (V.int r=V.int 1)=b at A0 xa
   have E7:T2≠l:=by
    obtain⟨ps,e',_⟩:=id tb2
    exact fun z=>by rw[z,xt.el]at e';cases e'
   have iE:T2≠st:=by
    obtain⟨ps,e',_⟩:=id tb2;obtain⟨xx,yy,e4,_⟩:=xo
    exact fun z=>by rw[z,e4]at e';cases e'
   have pT:TabOk H5 T2 qnL:=tb2.keep (fun ps e=>lS _ _ E7 iE n12.symm e) fun b o e=>lS _ _ (fun z=>by rw[z,xt.el]at e;cases e) (fun z=>by obtain⟨xx,yy,e4,_⟩:=xo;rw[z,e4]at e;cases e) (cG gv e nofun) e
   have k5:∀b o,b≠T1->b≠T2->H b=some o->H5 b=some o/\b≠st/\b≠l/\b≠p:=fun b o n1 n2 e=>by
    obtain⟨e2,ns⟩:=k2 b o n1 n2 e;obtain⟨JW,Mp⟩:=AZ _ _ e2;exact⟨lS b o JW ns n1 (k4 b o ns (s3 _ _ e2)),ns,JW,Mp⟩
   have kR:(∀r∈(stK c (cP b) (cP b).length).cs,okC r)/\(∀r∈(stK c (cP b) (cP b).length).ps,r=P0)/\∀r∈(stK c (cP b) (cP b).length).ss,r=S0:=⟨fun r hr=>by rw[List.eq_of_mem_replicate hr];exact okc,fun r hr=>List.eq_of_mem_replicate hr,fun r hr=>List.eq_of_mem_replicate hr⟩
   have JX:1<=(stK c (cP b) (cP b).length).cs.length/\1<=(stK c (cP b) (cP b).length).ps.length/\(stK c (cP b) (cP b).length).cs.length<=20:=by
    show 1<=(List.replicate _ c).length/\1<=(List.replicate _ P0).length/\(List.replicate _ c).length<=20;rw[List.length_replicate,List.length_replicate];cases b<;>decide +kernel
   generalize stK c (cP b) (cP b).length=S at A0 xa JX kR;clear JV xt xo k4 lS iA lP nl gv tb2 pE s3 AZ k2;refine bc ?_;dsimp only;refine aD ?_;refine⟨_,rfl,rfl,_,rfl,?_⟩;refine bf (bu ?_);dsimp only;refine aD ?_
   have E8:l≠T2:=cG pT A0.el nofun
   have fR:∀{Hc:Hp},(∀b o,b≠st->b≠T2->H5 b=some o->Hc b=some o)->(∀{b o},H5 b=some o->(∀u v,o≠.lst [.int u,.int v])->(∀ps,o≠.tbl ps)->Hc b=some o):=fun{Hc} k {b o} e n1 n2=>k b o (fun z=>by
    obtain⟨u,v,e',_⟩:=iS;rw[z,e']at e;cases e
    exact n1 u v rfl) (cG pT e n2) e
   have A1:∀{Hc:Hp},(∀b o,b≠st->b≠T2->H5 b=some o->Hc b=some o)->KpAt C Hc p l (ts++[t']) (Ss++[S]):=fun{Hc} k=>A0.keep (fun b x e=>fR k e nofun nofun) (fun dx f e=>fR k e nofun nofun) fun x e=>k _ _ xl E8 e
   have A2:∀{Hc:Hp},(∀b o,b≠st->b≠T2->H5 b=some o->Hc b=some o)->Bk Hc tn S.cs S.ps S.ss:=fun{Hc} k=>xa.keep fun b x e=>fR k e nofun nofun
   refine⟨9,rfl,by decide,by decide,?_⟩;refine fP (lo:=0) (fun j σ Hc=>∃x5 x6 x7 x8 x9 mS,σ=[some (.ref a),some (.int (0+(i:Int))),some (.ref st),some (.ref p),some (.ref tn),x5,x6,x7,x8,x9,mS,fF]/\(∀b o,b≠st->b≠T2->H5 b=some o->Hc b=some o)/\dZ Hc st/\TabOk Hc T2 qnL) ?_ ?_ ?_
   .exact⟨_,_,_,_,_,_,rfl,fun _ _ _ _ e=>e,iS,pT⟩
   .rintro j σ H6 hj ⟨x5,x6,x7,x8,x9,mS,rfl,k6,xy,xA⟩;refine bc ?_;dsimp only;refine aD ?_;obtain⟨ac,xc,ap,xp,ag,xs,B⟩:=A2 k6
    obtain⟨r0,uS⟩:∃r0,S.cs[0]?=some r0:=⟨_,zA0 Zz⟩
    obtain⟨r1,JY⟩:∃r1,S.ps[0]?=some r1:=⟨_,zA0 Zz⟩
    obtain⟨t0,Mq,Mr⟩:=gC (n:=0) B.rc Zx uS;obtain⟨t1,Ms,Mt⟩:=gC (n:=0) B.rp Zx JY;have ml:=kR.1 r0 (zB5 uS);have JZ:=kR.2.1 r1 (zB5 JY);refine bO ?_;refine vd (fun v HX=>∃(dk:Addr) (k:Nat) (tk:Addr) (rk:List Int),v=.ref dk/\k<3/\HX dk=some (.tup [.str (wd k),.ref tk])/\HX tk=some (.tup (rk.map V.int))/\Same H6 HX/\rk.length<=6/\∀z∈rk,(0:Int)<=z/\z<1000) (fun q' hq=>?_) (fun v HX hR=>?_)
    .refine⟨_,rfl,tn,_,0,.ref ac,rfl,rfl,SqT.of B.e,rfl,ac,xc,0,.ref t0,rfl,rfl,SqT.of B.rc.e,Mq,zL,fun d0 rf=>?_⟩;have v1:=Same.upd (o:=.tup [V.str "shear",V.ref t0]) rf;have D0:=aa (H:=H6) (a:=d0) (o:=.tup [V.str "shear",V.ref t0]);generalize upd H6 d0 (.tup [V.str "shear",V.ref t0])=G1 at v1 D0⊢;refine⟨_,rfl,tn,_,1,.ref ap,rfl,rfl,SqT.of (v1 _ _ B.e),rfl,ap,xp,0,.ref t1,rfl,rfl,SqT.of (v1 _ _ B.rp.e),Ms,zL,fun d1 EM=>⟨zL,fun q2 EN=>⟨zL,fun d2 hd2=>⟨zL,fun ll rS=>?_⟩⟩⟩⟩;have v2:=Same.upd (o:=.tup [V.str "pledge",V.ref t1]) EM;have v3:=Same.upd (o:=.tup (([0,0,1,1,3]:List Int).map V.int)) EN;have v4:=Same.upd (o:=.tup [V.str "sell",V.ref q2]) hd2;have v5:=Same.upd (o:=.lst [V.ref d0,V.ref d1,V.ref d2]) rS;have vA:=(((v1.trans v2).trans v3).trans v4).trans v5;have D0:=(((v2.trans v3).trans v4).trans v5) _ _ D0;have D1:=((v3.trans v4).trans v5) _ _ aa;have D2:=(v4.trans v5) _ _ aa;have D3:=v5 _ _ aa;refine⟨_,rfl,_,_,rfl,rfl,(by show(0:Int)<3;decide),?_⟩;have hm:(0+(j:Int)) % 3=0\/(0+(j:Int)) % 3=1\/(0+(j:Int)) % 3=2:=Zz
     rcases hm with h|h|h
     .refine⟨ll,_,_,.ref d0,rfl,rfl,SqL.of aa,by rw[h];rfl,?_⟩;exact hq _ _ ⟨d0,0,t0,r0,rfl,by decide,D0,vA _ _ Mr,vA,by have:=ml.1;lia,ml.2⟩
     .refine⟨ll,_,_,.ref d1,rfl,rfl,SqL.of aa,by rw[h];rfl,?_⟩;exact hq _ _ ⟨d1,1,t1,r1,rfl,by decide,D1,vA _ _ Mt,vA,by rw[JZ];decide,by rw[JZ];decide⟩
     .refine⟨ll,_,_,.ref d2,rfl,rfl,SqL.of aa,by rw[h];rfl,?_⟩;exact hq _ _ ⟨d2,2,q2,[0,0,1,1,3],rfl,by decide,D3,D2,vA,by decide,by decide⟩
    obtain⟨dk,k,tk,rk,rfl,hk,EV,vv,sX,Pj,brk⟩:=hR;refine⟨dk,_,rfl,SqT.of EV,rfl,_,_,rfl,_,_,rfl,rfl,?_⟩;dsimp only;have k7:∀b o,b≠st->b≠T2->H5 b=some o->HX b=some o:=fun b o n1 n2 e=>sX _ _ (k6 b o n1 n2 e)
    have xB:dZ HX st:=by
     obtain⟨u,v,e,r⟩:=xy;exact⟨u,v,sX _ _ e,r⟩
    have J0:=TabOk.same xA sX;clear sX;refine aD (bO ?_);have E9:IsTh (fun a=>¬Fs st a) HX (.ref tk) (bI rk):=.tup vv (IsThs.ints rk);have fb:=Hd xB
    have Mu:sz (bI rk)<=7:=by
     show 1+szs (rk.map PyData.int)<=7;rw[iI];lia
    refine vd (fun v HY=>∃d,Dr st HX HY/\IsTh (fun a=>¬Fs st a) HY v d/\tm (2^100+1000000) d=true/\sz d<=30) (fun q' hq=>?_) (fun vb HY hR=>?_)
    .refine⟨_,rfl,_,rfl,Fs st,st,.ref tk,bI rk,1,2^100,rfl,xB,fb,by decide,by decide,E9,oU brk,zA3 _,Zz,fun v1 G1 d1 A3 kC Mv Pk=>⟨_,rfl,st,rfl,A3.sa,fun v2 G2 xC=>?_⟩⟩;obtain⟨d2,q0,Mw,Mx,Pl⟩:=xC.dr (fb.dr A3);have kC:=q0.th A3.sa (.inl rfl) kC;have iF:=A3.trans q0;have Fc:=iF.th xB (.inl rfl) E9;refine⟨_,rfl,zL,fun ll rS=>?_⟩;have s3:=Same.upd (o:=.lst [v1,v2,V.ref tk]) rS;have J3:=iF.new (o:=.lst [v1,v2,V.ref tk]) rS;refine⟨_,rfl,st,3,rfl,J3.sa,by decide,by decide,fun r a' b' r0 r1 a0 b0 b1=>?_⟩;have Fh:=J3.take a0 b0 b1;have My:ll≠st:=iF.ne rS;have Fm:upd (upd G2 ll (.lst [v1,v2,V.ref tk])) st (.lst [.int a',.int b']) ll=some (.lst [v1,v2,V.ref tk]):=by rw[ao My];exact aa
     have Fn:Dr st G2 (upd (upd G2 ll (.lst [v1,v2,V.ref tk])) st (.lst [.int a',.int b'])):=((⟨But.refl,iF.sa⟩:Dr st G2 G2).new rS).take a0 b0 b1;have up:∀{v d},IsTh (fun a=>¬Fs st a) G2 v d->IsTh (fun a=>¬Fs st a) (upd (upd G2 ll (.lst [v1,v2,V.ref tk])) st (.lst [.int a',.int b'])) v d:=fun t=>Fn.th iF.sa (.inl rfl) t;have hm:r=0\/r=1\/r=2:=Zz
     rcases hm with rfl|rfl|rfl
     .exact⟨ll,_,0,v1,rfl,rfl,SqL.of Fm,rfl,hq _ _ ⟨d1,Fh,up kC,Mv,Zz⟩⟩
     .exact⟨ll,_,1,v2,rfl,rfl,SqL.of Fm,rfl,hq _ _ ⟨d2,Fh,up Mw,tm_up Zx d2 Mx,Zz⟩⟩
     .exact⟨ll,_,2,.ref tk,rfl,rfl,SqL.of Fm,rfl,hq _ _ ⟨bI rk,Fh,up Fc,tm_up Zx _ (oU brk),Zz⟩⟩
    obtain⟨d,xD,A4,J7,Pm⟩:=hR;refine bc ?_;dsimp only;have k8:∀b o,b≠st->b≠T2->H5 b=some o->HY b=some o:=fun b o n1 n2 e=>xD.bt _ _ (k7 b o n1 n2 e) n1;have J8:=xD.sa
    have xE:∀{b o},HX b=some o->(∀u v,o≠.lst [.int u,.int v])->b≠st:=fun{b o} e n z=>by
     obtain⟨u,v,e',_⟩:=xB;rw[z,e']at e;cases e;exact n u v rfl
    have J9:TabOk HY T2 qnL:=J0.keep (fun ps e=>xD.bt _ _ e iE) fun b o e=>xD.bt _ _ e (xE e nofun);have rV:sz d<=4000:=Zz
    have ib:tame d=true:=ww J7 Zx;clear k7 xB J0 fb E9 Mu xD xE k6 xy xA J7;refine aD ?_;refine⟨_,rfl,_,rfl,_,rfl,zL,fun td Ka=>?_⟩;have sT:=Same.upd (o:=.tup [V.str (wd k),vb]) Ka;have bp:=aa (H:=HY) (a:=td) (o:=.tup [V.str (wd k),vb]);refine⟨fun a=>¬Fs st a,tn,S,td,k,vb,d,rfl,(A2 k8).same sT,hk,bp,A4.same sT,rV,fun pd H9 s9 told=>?_⟩;have rX:=sT.trans s9;have Mz:IsTh (fun a=>a≠sysModules) H9 vb d:=(A4.same rX).keep (fun _ _ e=>e) (fun _ _ _ e=>e) fun b o z _ y=>z (.inr y);refine⟨_,rfl,vb,d,rfl,Mz,ib,rV,Nat.lt_of_le_of_lt (Nat.add_le_add_left (by lia:sz d+1<=64) _) hr.units,?_⟩;refine⟨_,_,rfl,?_⟩;dsimp only;have k9:∀b o,b≠st->b≠T2->H5 b=some o->H9 b=some o:=fun b o n1 n2 e=>rX _ _ (k8 b o n1 n2 e)
    have Fu:dZ H9 st:=by
     obtain⟨u,v,e,r⟩:=J8;exact⟨u,v,rX _ _ e,r⟩
    have la:=TabOk.same J9 rX;have oz:=s9 _ _ bp;have xI:=A4.same rX;clear s9 rX sT bp Ka A4 k8 J8 J9
    cases ho:ir k S d with
    |next S'=>
     rw[ho]at told
     obtain⟨we,LI,LJ,LK,LL,Cn,B'⟩:=(show Bk H9 pd S'.cs S'.ps S'.ss from told)
     refine⟨_,rfl,pd,_,0,.ref we,rfl,rfl,SqT.of B'.e,rfl,.ref we,_,"str",false,rfl,B'.rc.th.ty,ud,_,rfl,bf ?_⟩;exact⟨_,_,_,_,_,_,rfl,k9,Fu,la⟩
    |word jw=>
     rw[ho]at told;have told:H9 pd=some (.tup [.str (words.getD jw "")]):=told;refine⟨_,rfl,pd,_,0,.str (words.getD jw ""),rfl,rfl,SqT.of told,rfl,.str _,_,"str",true,rfl,(IsTh.str (S:=fun _=>False) (H:=H9) _).ty,ug,_,rfl,bh ?_⟩;refine⟨la,fun fl pm cv ct HA ej iL nf L Z=>⟨[.ref p,.str (wd k),vb],rfl,fun j' i' z e1 e2=>?_,fun cs Ce=>?_⟩⟩
     .rcases j' with _|_|_|j'
      .cases e1;cases e2;rfl
      .cases e1;cases e2;rfl
      .cases e1;cases e2;rfl
      .simp at e1
     have iN:=ej _ _ (cG la told nofun) told;have dQ:=(A1 k9).tb la ej;have xS:=xI.tbl la ej;have kA:∀b o,b≠st->b≠T2->H5 b=some o->HA b=some o:=fun b o n1 n2 e=>ej _ _ n2 (k9 b o n1 n2 e)
     have ya:dZ HA st:=by
      obtain⟨u,v,e,r⟩:=Fu;exact⟨u,v,ej _ _ iE.symm e,r⟩
     obtain⟨dx,yb⟩:=dQ.ob;have ls:=B.ls;have dw:=yo hk ls ho;have hj:jw<16/\(jw=5\/jw=9\/jw=11\/jw=12\/jw=16):=by rcases dw with⟨_,rfl,_⟩|⟨_,rfl,_⟩|⟨_,rfl,_⟩<;>decide
     refine jX (qN (kk:=7) (Q:=fun v HZ=>∃pf,v=.ref pf/\Same HA HZ/\HZ pf=some (.tup [.str (words.getD jw "")])) (Qw:=fun _ _=>False) (Ew:=fun a' C' H'=>Same HA H'/\C'=(Cs jw,none)) L Z Ce rfl (fun A' cb E' Q' b9 h1 h2=>⟨_,fun s'=>gB AU (b9.deeper _) Zx rfl jo rfl (aq (pv 0) (aq (bj (aq (pv 1) (aq (pv 2) aj))) aj)),⟨_,rfl,_,rfl,_,rfl,zL,fun yi pV=>?_⟩⟩) (fun _ _ z=>z.elim) (fun a' C' H' ew=>?_)) (fun v H3 hR=>?_)
     .have sU:=Same.upd (o:=.tup [V.str (wd k),vb]) pV;refine⟨p,l,dx,yi,k,vb,rfl,sU _ _ yb,aa,?_⟩
      have bad:∀{jx bd f},jx=jw->bd S d->kO C Cs jx bd f [.ref p,vb] (upd HA yi (.tup [V.str (wd k),vb])) Q' E':=fun e hb=>⟨_,p,l,ts,t',Ss,S,vb,d,rfl,dQ.same sU,xS.same sU,rV,.inl ⟨hb,fun e' H' s' he=>h2 _ _ _ ⟨sU.trans s',by rw[e]⟩⟩⟩
      rcases dw with⟨rfl,rfl,hb⟩|⟨rfl,rfl,hb⟩|⟨rfl,rfl,hb⟩
      .exact .inl ⟨rfl,.inr (bad rfl hb)⟩
      .exact .inr (.inl ⟨rfl,.inr (bad rfl hb)⟩)
      .exact .inr (.inr ⟨rfl,.inr (bad rfl hb)⟩)
     .obtain⟨sE,rfl⟩:=ew;refine⟨jw,[.str (words.getD jw "")],.word hj.1,kd jw hj.2,fun fa pf H3 s3 e3=>?_⟩;exact⟨pf,rfl,sE.trans s3,e3⟩
     .obtain⟨pf,rfl,sF,e3⟩:=hR;generalize er H3 cs=HZ at sF e3⊢;clear L Z Ce;refine⟨_,rfl,Dv jw,.tup e3 (.cons (.str _) .nil),.tup (sF _ _ iN) (.cons (.str _) .nil),(by rcases dw with⟨_,rfl,_⟩|⟨_,rfl,_⟩|⟨_,rfl,_⟩<;>decide +kernel),(by rcases dw with⟨_,rfl,_⟩|⟨_,rfl,_⟩|⟨_,rfl,_⟩<;>decide +kernel),_,rfl,bf ?_⟩;have FA:IsTh (fun a=>a≠sysModules) HZ vb d:=(xS.same sF).keep (fun _ _ e=>e) (fun _ _ _ e=>e) fun b o z _ y=>z (.inr y);refine⟨_,rfl,vb,d,rfl,FA,ib,rV,Nat.lt_of_le_of_lt (Nat.add_le_add_left (by lia:sz d+1<=64) _) hr.units,_,rfl,rfl,_,rfl,?_⟩;rw[zAv (rfl:V.str d.shown=V.str d.shown)];refine bf ⟨_,_,_,_,_,_,rfl,fun b o n1 n2 e=>sF _ _ (kA b o n1 n2 e),?_,TabOk.same iL sF⟩;obtain⟨u,v,e,r⟩:=ya;exact⟨u,v,sF _ _ e,r⟩
    |many mm mk=>
     rw[ho]at told;have told:H9 pd=some (.tup [.str "many",.int mm,.int mk]):=told;refine⟨_,rfl,pd,_,0,.str "many",rfl,rfl,SqT.of told,rfl,.str _,_,"str",true,rfl,(IsTh.str (S:=fun _=>False) (H:=H9) _).ty,ug,_,rfl,bh ?_⟩;refine⟨la,fun fl pm cv ct HA ej iL nf L Z=>⟨[.ref p,.str (wd k),vb],rfl,fun j' i' z e1 e2=>?_,fun cs Ce=>?_⟩⟩
     .rcases j' with _|_|_|j'
      .cases e1;cases e2;rfl
      .cases e1;cases e2;rfl
      .cases e1;cases e2;rfl
      .simp at e1
     have iN:=ej _ _ (cG la told nofun) told;have dQ:=(A1 k9).tb la ej;have xS:=xI.tbl la ej;have kA:∀b o,b≠st->b≠T2->H5 b=some o->HA b=some o:=fun b o n1 n2 e=>ej _ _ n2 (k9 b o n1 n2 e)
     have ya:dZ HA st:=by
      obtain⟨u,v,e,r⟩:=Fu;exact⟨u,v,ej _ _ iE.symm e,r⟩
     obtain⟨dx,yb⟩:=dQ.ob;have dw:=yp hk ho;have hj:(mm=21/\mk=20)\/(mm=11/\mk=10)\/(mm=13/\mk=12):=by rcases dw with⟨_,h⟩|⟨_,h⟩|⟨_,h⟩<;>first|exact .inl ⟨h.2.2.1,h.2.2.2⟩|exact .inr (.inl ⟨h.2.2.1,h.2.2.2⟩)|exact .inr (.inr ⟨h.2.1,h.2.2⟩)
     refine jX (qN (kk:=7) (Q:=fun v HZ=>∃pf,v=.ref pf/\Same HA HZ/\HZ pf=some (.tup [.str "many",.int mm,.int mk])) (Qw:=fun _ _=>False) (Ew:=fun a' C' H'=>Same HA H'/\∃D,H' D=some (.ext (mmAt D [("most",mk),("many",mm)]))/\C'=(Cs 16,some D)) L Z Ce rfl (fun A' cb E' Q' b9 h1 h2=>⟨_,fun s'=>gB AU (b9.deeper _) Zx rfl jo rfl (aq (pv 0) (aq (bj (aq (pv 1) (aq (pv 2) aj))) aj)),⟨_,rfl,_,rfl,_,rfl,zL,fun yi pV=>?_⟩⟩) (fun _ _ z=>z.elim) (fun a' C' H' ew=>?_)) (fun v H3 hR=>?_)
     .have sU:=Same.upd (o:=.tup [V.str (wd k),vb]) pV;refine⟨p,l,dx,yi,k,vb,rfl,sU _ _ yb,aa,?_⟩
      have full:∀{jx bd fu},fu S d mm mk->kO C Cs jx bd fu [.ref p,vb] (upd HA yi (.tup [V.str (wd k),vb])) Q' E':=fun hb=>⟨_,p,l,ts,t',Ss,S,vb,d,rfl,dQ.same sU,xS.same sU,rV,.inr ⟨mm,mk,hb,fun e' D H' s' he hD=>h2 _ _ _ ⟨sU.trans s',D,hD,rfl⟩⟩⟩
      rcases dw with⟨rfl,hb⟩|⟨rfl,hb⟩|⟨rfl,hb⟩
      .exact .inl ⟨rfl,.inr (full hb)⟩
      .exact .inr (.inl ⟨rfl,.inr (full hb)⟩)
      .exact .inr (.inr ⟨rfl,.inr (full hb)⟩)
     .obtain⟨sE,D,hD,rfl⟩:=ew;refine⟨16,[.str "many",.int mm,.int mk],.many hD M.n1 M.n2 M.mc.hd,kd 16 Zx,fun fa pf H3 s3 e3=>?_⟩;exact⟨pf,rfl,sE.trans s3,e3⟩
     .obtain⟨pf,rfl,sF,e3⟩:=hR;generalize er H3 cs=HZ at sF e3⊢;clear L Z Ce;refine⟨_,rfl,.tuple [.str "many",.int mm,.int mk],.tup e3 (.cons (.str _) (.cons (.int _) (.cons (.int _) .nil))),.tup (sF _ _ iN) (.cons (.str _) (.cons (.int _) (.cons (.int _) .nil))),(by rcases hj with⟨rfl,rfl⟩|⟨rfl,rfl⟩|⟨rfl,rfl⟩<;>decide +kernel),(by rcases hj with⟨rfl,rfl⟩|⟨rfl,rfl⟩|⟨rfl,rfl⟩<;>decide +kernel),_,rfl,bf ?_⟩;have FA:IsTh (fun a=>a≠sysModules) HZ vb d:=(xS.same sF).keep (fun _ _ e=>e) (fun _ _ _ e=>e) fun b o z _ y=>z (.inr y);refine⟨_,rfl,vb,d,rfl,FA,ib,rV,Nat.lt_of_le_of_lt (Nat.add_le_add_left (by lia:sz d+1<=64) _) hr.units,_,rfl,rfl,_,rfl,?_⟩;rw[zAv (rfl:V.str d.shown=V.str d.shown)];refine bf ⟨_,_,_,_,_,_,rfl,fun b o n1 n2 e=>sF _ _ (kA b o n1 n2 e),?_,TabOk.same iL sF⟩;obtain⟨u,v,e,r⟩:=ya;exact⟨u,v,sF _ _ e,r⟩
   .rintro σ H6 ⟨x5,x6,x7,x8,x9,mS,rfl,k6,xy,xA⟩;dsimp only;refine aD ?_;obtain⟨ac,xc,ap,xp,ag,xs,B⟩:=A2 k6;have lx:=B.rc.l;refine⟨1,rfl,_,rfl,tn,_,0,.ref ac,rfl,rfl,SqT.of B.e,rfl,ac,xc,rfl,.inr (SqT.of B.rc.e),_,_,rfl,rfl,⟨by decide,by decide,by decide⟩,zL,fun ly yk=>?_⟩
    obtain⟨L6,eL⟩:∃L6:List V,L6=[V.int (-1),V.int (xc.length:Int),V.non,V.bl true,V.str "0",V.int (10^29)]:=⟨_,rfl⟩
    have yr:∀vy∈L6,∃y,(∀(H':Hp),IsTh (fun _=>False) H' vy y)/\sz y<=4000/\fM y 0 ((S.cs.length:Int)-1)=false:=by
     rw[eL];intro vy hv;simp only[List.mem_cons,List.not_mem_nil,or_false]at hv;rcases hv with rfl|rfl|rfl|rfl|rfl|rfl
     .exact⟨.int (-1),fun _=>.int _,by decide,rfl⟩
     .refine⟨.int (xc.length:Int),fun _=>.int _,(by show 1<=4000;decide),?_⟩;show(true&&(decide (0<=(xc.length:Int))&&decide ((xc.length:Int)<=(S.cs.length:Int)-1)))=false;rw[zB4 (show¬(xc.length:Int)<=(S.cs.length:Int)-1 by lia),Bool.and_false,Bool.and_false]
     .exact⟨.none,fun _=>.non,by decide,rfl⟩
     .exact⟨.bool true,fun _=>.bl _,by decide,rfl⟩
     .exact⟨.str "0",fun _=>.str _,by decide,rfl⟩
     .refine⟨.int (10^29),fun _=>.int _,by decide,?_⟩;show(true&&(decide ((0:Int)<=10^29)&&decide ((10:Int)^29<=(S.cs.length:Int)-1)))=false;rw[zB4 (show¬(10:Int)^29<=(S.cs.length:Int)-1 by have:=JX.2.2;lia),Bool.and_false,Bool.and_false]
    have sY:=Same.upd (o:=.lst L6) yk;have eY:=aa (H:=H6) (a:=ly) (o:=.lst L6)
    have Pn:ly≠st:=fun z=>by
     obtain⟨u,v,e,_⟩:=xy;rw[z,e]at yk;cases yk
    have FC:ly≠T2:=fun z=>by
     obtain⟨ps,e',_⟩:=xA;rw[z,e']at yk;cases yk
    rw[eL]at sY eY;refine⟨ly,rfl,⟨_,SqL.of eY⟩,qY (xs:=[V.int (-1),V.int (xc.length:Int),V.non,V.bl true,V.str "0",V.int (10^29)]) (fun j σ Hc=>∃fF,σ=[some (.ref a),some (.int (0+(i:Int))),some (.ref st),some (.ref p),some (.ref tn),x5,x6,x7,x8,x9,mS,fF]/\(∀b o,b≠st->b≠T2->H5 b=some o->Hc b=some o)/\Hc ly=some (.lst [V.int (-1),V.int (xc.length:Int),V.non,V.bl true,V.str "0",V.int (10^29)])/\dZ Hc st/\TabOk Hc T2 qnL) ?_ ?_ ?_ ?_⟩
    .refine⟨_,rfl,fun b o n1 n2 e=>sY _ _ (k6 b o n1 n2 e),eY,?_,TabOk.same xA sY⟩;obtain⟨u,v,e,r⟩:=xy;exact⟨u,v,sY _ _ e,r⟩
    .rintro j σ Hc hj ⟨fF,rfl,kc,A5,FD,yn⟩;exact SqL.of A5
    .rintro j vy σ Hc hx ⟨fF,rfl,kc,A5,FD,yn⟩;obtain⟨y,ty,zy,MA⟩:=yr vy (by rw[eL];exact List.mem_of_getElem? hx);refine bc ?_;dsimp only;refine⟨yn,fun fl pm cv ct HA ej iL nf L Z=>⟨[.ref p,vy],rfl,fun j' i' z e1 e2=>?_,fun cs Ce=>?_⟩⟩
     .rcases j' with _|_|j'
      .cases e1;cases e2;rfl
      .cases e1;cases e2;rfl
      .simp at e1
     have dQ:=(A1 kc).tb yn ej;have kA:∀b o,b≠st->b≠T2->H5 b=some o->HA b=some o:=fun b o n1 n2 e=>ej _ _ n2 (kc b o n1 n2 e)
     have ya:dZ HA st:=by
      obtain⟨u,v,e,r⟩:=FD;exact⟨u,v,ej _ _ iE.symm e,r⟩
     have MB:=ej _ _ FC A5;obtain⟨dx,yb⟩:=dQ.ob;refine jX (qN (kk:=7) (Q:=fun v HZ=>∃pf,v=.ref pf/\Same HA HZ/\HZ pf=some (.tup [.str (words.getD 5 "")])) (Qw:=fun _ _=>False) (Ew:=fun a' C' H'=>Same HA H'/\C'=(Cs 5,none)) L Z Ce rfl (fun A' cb E' Q' b9 h1 h2=>⟨_,fun s'=>jA (E:=E') Mi XT.cl (b9.deeper _) Zx jo rfl (pv 0) (aq (pv 1) aj),⟨_,rfl,p,dx,_,rfl,yb,gH rfl,_,rfl,_,p,l,ts,t',Ss,S,vy,y,rfl,dQ,ty HA,zy,MA,fun e' H' s' he=>h2 _ _ _ ⟨s',rfl⟩⟩⟩) (fun _ _ z=>z.elim) (fun a' C' H' ew=>?_)) (fun v H3 hR=>?_)
     .obtain⟨sE,rfl⟩:=ew;refine⟨5,[.str (words.getD 5 "")],.word Zx,kd 5 Zx,fun fa pf H3 s3 e3=>?_⟩;exact⟨pf,rfl,sE.trans s3,e3⟩
     .obtain⟨pf,rfl,sF,e3⟩:=hR;generalize er H3 cs=HZ at sF e3⊢;clear L Z Ce;refine⟨zL,fun pe Kb=>?_⟩;have sG:=sF.updR (o:=.tup [V.str "year"]) Kb;refine⟨Dv 5,.tup (Same.upd Kb _ _ e3) (.cons (.str _) .nil),.tup aa (.cons (.str _) .nil),by decide +kernel,by decide +kernel,_,rfl,bf ?_⟩;refine⟨_,rfl,fun b o n1 n2 e=>sG _ _ (kA b o n1 n2 e),sG _ _ MB,?_,TabOk.same iL sG⟩;obtain⟨u,v,e,r⟩:=ya;exact⟨u,v,sG _ _ e,r⟩
    .rintro σ Hc ⟨fF,rfl,kc,A5,FD,yn⟩;dsimp only;have kM:=A1 kc;obtain⟨dx,MC⟩:=kM.ob;refine⟨_,rfl,p,dx,_,rfl,MC,gH rfl,p,l,ts,t',Ss,S,rfl,kM,_,rfl,?_⟩;obtain⟨a1,y1,a2,y2,a3,y3,B1⟩:=kM.last;obtain⟨Po,z1,Pp,z2,Pq,z3,B2⟩:=A2 kc
     have Kc:tame (.tuple [ik S.cs,ik S.ps,ik S.ss])=true:=by
      refine ww (B:=2^100) ?_ Zx;show tms (2^100) [.tuple (S.cs.map bI),.tuple (S.ps.map bI),.tuple (S.ss.map bI)]=true;refine tms_all.mpr fun d hd=>?_;simp only[List.mem_cons,List.not_mem_nil,or_false]at hd;rcases hd with rfl|rfl|rfl
      .exact mV fun r hr i hi=>by have:=(kR.1 r hr).2 i hi;lia
      .exact mV fun r hr i hi=>by rw[kR.2.1 r hr]at hi;revert i;decide
      .exact mV fun r hr i hi=>by rw[kR.2.2 r hr]at hi;revert i;decide
     have Kd:sz (.tuple [ik S.cs,ik S.ps,ik S.ss])<=1000:=by
      show 1+((1+szs (S.cs.map bI))+((1+szs (S.ps.map bI))+((1+szs (S.ss.map bI))+0)))<=1000;rw[jB (k:=3) fun r hr=>(kR.1 r hr).1,jB (k:=6) fun r hr=>by rw[kR.2.1 r hr];rfl,jB (k:=5) fun r hr=>by rw[kR.2.2 r hr];rfl];have:=B1.lc;have:=B1.lp;have:=B1.ls;lia
     refine⟨fun _=>False,.ref t',.ref tn,_,_,rfl,id,.tup B1.e (.cons B1.rc.th (.cons B1.rp.th (.cons B1.rs.th .nil))),.tup B2.e (.cons B2.rc.th (.cons B2.rp.th (.cons B2.rs.th .nil))),Kc,Kc,Kd,Kd,?_⟩;rw[zAv rfl];refine⟨_,rfl,bf ?_⟩;exact⟨_,_,_,_,_,_,_,_,_,_,_,rfl,fun b o n1 n2 e=>(let h:=k5 b o n1 n2 e;kc b o h.2.1 n2 h.1),E6.keep (fun ps e=>kc _ _ EZ.symm n12 e) (fun b o e=>fR kc e nofun nofun),yn⟩
  .rintro σ Hc ⟨x1,x2,x3,x4,x5,x6,x7,x8,x9,mS,fF,rfl,mE,gv,tb2⟩;exact q _
end
end K72
structure PySem.W.Fast:Prop where
 (tw10925900920031507456 tw2799441613889492000 tw6523934019537274912 tw10309765130891470976 tw4696438408692867424 tw1356282903208836512 tw18058947718283685344 tw7152825200551627232 tw7738524815138784768 tw3323534400649369120 tw9519250718175045184 tw16312609225176709760 tw1205752439460257504 tw5992953266956451584 tw1914154072066508544 tw2958942074732340032 tw5669142104121148288 tw40486887680425888 tw7170875061787931584 tw13771375740231754753 tw9150919637776234561 tw7593848484377519201 tw3021203258363527297 tw1483614184621685921 tw4164642624964386049 tw6148899141138337025 tw18423573283565527393 tw1441246648494523777 tw11297522428555281825 tw7245181552371188257 tw4426604677548895777 tw104990379121371713 tw12176357250226753185 tw9317216673810891457 tw15649228660250861345 tw3708516013532937025 tw399018614890722145 tw709403643105441665 tw16653086013008355297 tw8313440366573595617 tw10842270773105017026 tw7684963228388190434 tw1070218427618324706 tw16356887769475392802 tw16642828318868316514 tw3098680829008527714 tw18040613931974306242 tw11889027477220891106 tw15856989612492285442 tw2038129017486375426 tw12591366217735701058 tw17037746090808845890 tw6976726918243554914 tw11245654821180934882 tw17786071263547813634 tw2855504613971287810 tw5765527010413008738 tw2815818581495851011 tw2491656104945847331 tw5028574580289777699 tw2479808839007119587 tw1350040997506782467 tw11271371840065870115 tw13063146743473416483 tw6503566019204762019 tw11308941846656633283 tw18175263814396648963 tw1253113728805006851 tw15878099431149915683 tw14886230543060610755 tw7517506970853368579 tw15193609164324213507 tw14856055126032172867 tw8255053901888934851 tw4980502360321448004 tw6689663795292306532 tw17423676125711427780 tw17416568144632190180 tw3750164718144192740 tw9826997069297850628 tw4496339487388014980 tw8146078964157238660 tw614242738726775204 tw16410125901468151236 tw11427099577775534532 tw363399955486344676 tw15083505359628463620 tw9643904973119133220 tw8840747507835675300 tw14420761034163866276 tw8094070338744288996 tw3697184142445976324 tw10574208380423722820 tw3268134311415733285 tw10145430392339155013 tw2824678474126492741 tw9352942848723719301 tw5862618540902846725 tw1126094660067213573 tw10555559319514941765 tw8853658478342288741 tw9623660336971297157 tw3562507567252224389 tw1387413917536482693 tw14514609636135561669 tw9962106702315698693 tw5528899116115265061 tw16177784659591743077 tw10491460928247622277 tw17687046949236904645 tw10702055757654564581 tw4841224556448265989 tw4365310278058445637 tw16863971654426924869 tw5895943184467864453 tw16612556999028188101 tw5398837487869684709 tw15707582188551859238 tw9638443337203912806 tw9018734053584328870 tw878138740847969510 tw17983504993209633094 tw6315499509523550566 tw10652068997657886054 tw1676726118654869958 tw2364045402443239878 tw8479303027378282950 tw2133056636909340134 tw2181849712731533926 tw6462947079955823270 tw8114289780208877254 tw12687003490287764166 tw18031199352644718310 tw3041714451533983462 tw10617007394346267494 tw16107485586027511654 tw17762329065599871047 tw5215208044431223879 tw14383996686927720583 tw17947252274674986183 tw17065549856885386439 tw16608219182760319239 tw16004326389371880807 tw17429174888065077671 tw1755983095100128807 tw3116408579730020999 tw7815388978117247815 tw18420203625145040711 tw2180854427275987879 tw9178280974653618087 tw14723013732852930503 tw18097134532347593703 tw17529362184672125960 tw1884342681024427112 tw5958269009408047336 tw12309016718944818408 tw811419554561766920 tw12982780650086109704 tw15308997980029186728 tw559647000808421160 tw1799860580231771145 tw9491640443072800809 tw5375201148716844105 tw17458052506279201961 tw12804561803612468393 tw6629569927720495369 tw6491021231626419497 tw12783223291607375177 tw6659725639715904873 tw7522396656653188553 tw3534034388520832553 tw13935948099865906857 tw11436480247379608457 tw1700686389463036970 tw9756906532032592938 tw11491453738406753354 tw12114929926811424874 tw1474849849415287946 tw9858805964153784522 tw7951352473941562634 tw16501543591449792810 tw5460901370657974634 tw14689608809546684938 tw8298123872894481930 tw9330769197229131306 tw8924613641188303402 tw733443331809699370 tw16672653428664264234 tw13906244569293379210 tw161286819052924586 tw15871043496707949322 tw2279936173173412650 tw9441935283122118506 tw3252832989192016746 tw14696232077205297130 tw16081576864150927403 tw17440632380168157227 tw14416016402166328395 tw11814300283907464299 tw8984036000236973163 tw8074102288726093035 tw10654726776424131819 tw16218907558022217995 tw9063841583979436427 tw5569813045311004107 tw1887944277363166699 tw11505776285795764811 tw14106575295695266411 tw12864423054932674219 tw10731477002785450699 tw18149254709295336203 tw275392401570597643 tw9413519554928747275 tw8217222160083502891 tw6525650688415619947 tw16709742467798360939 tw5390200942206134155 tw17499367959404106699 tw7960866757542454251 tw17525468325542061035 tw3608342098084510732 tw7756640631365404684 tw11717199294729625644 tw686293195811690572 tw5459391553209746572 tw5274711071103114476 tw13989986373366241548 tw11186504271548893452 tw6786683162889460044 tw11880949907075841356 tw14344326156580953484 tw10715781787594874380 tw851716091233432076 tw12889563267750984204 tw15962605116765962828 tw10016535417798270572 tw6794016106549060428 tw13290442352874432364 tw10221064916008944492 tw4112048196984656748 tw6434442816668058508 tw2090950481767471020 tw9562586407582946252 tw5370627968801529965 tw15690629637571890317 tw4891924767110645997 tw17514955186934468877 tw6770265242535083341 tw7115348493670958413 tw7271776973108823469 tw16307681254776299949 tw10834858571751919149 tw2765700774914611757 tw2690011775541346925 tw2547630073672394509 tw18355691596204297133 tw4439364194153527213 tw2706598868592178125 tw6430130189451227278 tw10882017282211276942 tw13165427214510228654 tw14292320705002092718 tw3786514985855537326 tw18009126240051727566 tw8516298379686702318 tw14725838386664894702 tw5595701020095170830 tw1592636927694056750 tw7063707689964831022 tw17108516139270864398 tw3813778326536946190 tw7211528090360681006 tw18083905579635477262 tw2056267022868194062 tw6773924951055345422 tw8194245861337913102 tw9334708251129462574 tw15384553319465329486 tw2236892001033397070 tw2070986605643626318 tw7175900527721060206 tw1360885818943857550 tw18125795368208012238 tw5778458295063921903 tw8236269083602520303 tw13780483250397013263 tw17542134581627958639 tw5082797936759504239 tw12071944067549683119 tw7048411231088492143 tw2633591214571635375 tw9743663059837313743 tw8744623859537172207 tw13151468658479010639 tw13178118893400742767 tw11166034787060932463 tw16819934850147042223 tw7486235994525773775 tw10279489978212581456 tw5338289121385151600 tw14046131215273498768 tw6443126403717347568 tw704164327530004816 tw13068994502304337232 tw4342927113478984048 tw13101750152014667120 tw11590264742560052656 tw15929858879834026480 tw4286590840077067792 tw892818151664685648 tw5572688888816128624 tw13070418283630617200 tw17734522655374558864 tw1135257293734102672 tw381233192564217552 tw13896376210098400048 tw17378623188104667984 tw3509373746212234096 tw8985844028655715409 tw18387381240277525745 tw6269125286186692849 tw9410708287959290129 tw5124439076784547089 tw1980762705110342001 tw10662850228880842129 tw2074998734296424849 tw4548847127060661713 tw14405500482948131313 tw17955876423621628529 tw3709834406216334993 tw1658960071889865393 tw8540214589927370609 tw7734372747194406930 tw14846386701840850962 tw6269161366186970194 tw17896806742128831666 tw9093676434774969522 tw619645585492545810 tw18149440552804020594 tw6054537449831367122 tw13087919650680043058 tw9929700450508973682 tw10201177597765836434 tw2798900992231577266 tw15533365690927174354 tw10062093018892541682 tw374341307467845394 tw9676089836951788338 tw5224323304935495570 tw15799518755544430514 tw6033096067528378354 tw16938931975223169043 tw9437033997934745747 tw1985964418982306035 tw16090027570776312115 tw15057575674598936915 tw14591830181634381139 tw2637543169867498867 tw7510721734945547763 tw11867684578695226867 tw12320827876728400403 tw10352256522328823411 tw6607545487540050547 tw16102008979573400179 tw1189710073988770451 tw9226201241289847443 tw17766052304252793491 tw11575960427261820563 tw3307900666564886259 tw14896421333414729459 tw6022047076418855763 tw3077349318811147155 tw3744188001416160179 tw5198396785689898931 tw12463496600273339315 tw15953776978197863379 tw15901655482093335700 tw15316935716093851796 tw17740289848182011124 tw4163575562785809748 tw2693261879495194996 tw6060491178496595444 tw4154158866591855252 tw4204377571313073812 tw18272095774695798516 tw7005120123623796660 tw8225761057450801076 tw11443059299438324757 tw12859480223055046773 tw15747295644135254133 tw6327994781741044885 tw8794673719036291253 tw10676136254956878005 tw7905353027774954709 tw13794790133101549845 tw4221749488463595829 tw1880315712137409845 tw3541458656850149717 tw3129855816569363829 tw9268810142960425333 tw3728493390373692885 tw10597076616034714101 tw1265969750617911797 tw5601713322502607509 tw9165821050996988661 tw8340401640038245141 tw4021465799674143605 tw11373087131234445173 tw15924392258504581142 tw5588495472089742422 tw12971212336114483446 tw17040597275136938262 tw13952960776262144310 tw5387926972321375574 tw7597308743300619702 tw6790324707698948534 tw7356916568270115350 tw14814682631430994518 tw2981318973862281910 tw7085749372506983094 tw228483039138147062 tw799850174960853782 tw16087925453410934550 tw7133911917722253142 tw4399607057743899638 tw12897400665159637015 tw13778759183094799383 tw9583587183682128919 tw9054925265812246583 tw11422129659667391575 tw5968966880023465047 tw8592305914007314551 tw91574246254594199 tw3780703155824895159 tw6380321974808839383 tw16275505339757333719 tw14864544398116188439 tw14849104164810317111 tw12838258463307104663 tw8774186511227562391 tw1039768573104152983 tw7834212874838003159 tw6093419018885400055 tw1106682742185418679 tw2193348766739198935 tw5703150831122484215 tw9454462583608292376 tw1394994260982413368 tw4519746757079772344 tw1100563268578651416 tw13189098568364045592 tw13469599837973822744 tw15427864687159633208 tw11324537052917018008 tw13035258005607038424 tw12952999295509734904 tw7732270816356637176 tw4494775873908643416 tw10072080566812848824 tw14735292147111526072 tw16740203129049015000 tw5186054871596600056 tw7508932151184783096 tw16785797103887856472 tw7456681275906312024 tw1304125292133129144 tw13387615145051581561 tw4280664093732319513 tw16476466070989282617 tw13019392015671499129 tw13385795064435370361 tw7440786734523498905 tw10840828741724980665 tw9566397249132260825 tw13730019700152572409 tw12835928076155424345 tw6758830906643766169 tw1450404767873910745 tw2658694742109231097 tw12802032585445208218 tw3474651820374840506 tw461400882227620154 tw6829629825379073370 tw5837045429188512090 tw18306800245166914938 tw3738675702738531706 tw10626956725843679642 tw17118364476924667322 tw11609930948962656762 tw17032351840194660890 tw7339144347782828570 tw17112387361578873466 tw5625129311419390650 tw16079429770481278682 tw14103038675607170810 tw16422287654860380026 tw1349255185246456730 tw14227130807105560538 tw6875761339288143834 tw13307148699271387163 tw2313392437944847419 tw14665948944399935547 tw3965452232321819739 tw7771613772869664955 tw1173465381880345851 tw7391076177210179899 tw3992525250374216027 tw6982223783693980027 tw13446631117244717467 tw10290863923067950491 tw3310153426801317307 tw14765791355826403899 tw3662789860438567515 tw2970843000449358427 tw13365597472755963515 tw12526894874239994491 tw16717872634965684891 tw5597057778670636731 tw11320668498652993275 tw4369191307690001339 tw9771026549265253404 tw8551836728358789148 tw16957981055814743100 tw17723659235082524764 tw8778376610361827420 tw1709723868726988924 tw6148761938290652284 tw4942166278336467068 tw11155672386142028028 tw10189012214792572156 tw15556923132371007740 tw5496466957433256220 tw5562718645648989500 tw11982752031710112284 tw4180030418845824540 tw8180608319503123068 tw1516302813613901500 tw9484161222201843452 tw1819395434707728124 tw12239045159833578364 tw4749328873227712380 tw9291320201669215132 tw9410466392133581917 tw3470015069530999933 tw16641175189676028189 tw9161397563002478909 tw3623153120667856253 tw4097511683761593149 tw4078953217996523357 tw11316524469894389629 tw3764712212389776285 tw1599496106141435869 tw6411560075831098462 tw1366026928453374046 tw10228303189571755102 tw3706382324919005310 tw12617098211529264350 tw10271877741780203742 tw2881268674817792254 tw9007311330974034174 tw743196946547074366 tw2859957781708969310 tw7475281922100009342 tw18167664677832829374 tw15468676943127370174 tw5255002227308176926 tw7913908770258983486 tw10011834190371767870 tw11168741710614891102 tw3910461814834655902 tw6303563447381044958 tw11410803978025357022 tw1927685043493027582 tw16875271594167096062 tw14078432191606095646 tw9091041371233790814 tw17499375734048926590 tw663553788445082494 tw5154700700664393630 tw9558056915152010271 tw17234330312573680703 tw15732185328483694687 tw768560588357595263 tw6760096574434092159 tw9358262116679257279 tw389652469691133151 tw17451554976736243999 tw15704932909091612959 tw4017083188175648159 tw8159754970023484863 tw11183066406768495071 tw8998895534091302463 tw16934938534505492095 tw10837412980694684351 tw7170774375235306239 tw16748175685029042015 tw5514931019748717407 tw16078679649484784479 tw8169490209098338207 tw8366176680758387615 tw4170522828675033055 tw1958046489896323039 tw64914143790469438:True)
namespace K72
open PySem L2
theorem el1{C:List Value->Prop}(h:∀a0:Value,C [a0]):∀us:List Value,us.length=1->C us:=fun us e=>match us,e with|[a0],_=>h a0
theorem el2{C:List Value->Prop}(h:∀a0 a1:Value,C [a0,a1]):∀us:List Value,us.length=2->C us:=fun us e=>match us,e with|[a0,a1],_=>h a0 a1
theorem el3{C:List Value->Prop}(h:∀a0 a1 a2:Value,C [a0,a1,a2]):∀us:List Value,us.length=3->C us:=fun us e=>match us,e with|[a0,a1,a2],_=>h a0 a1 a2
theorem el4{C:List Value->Prop}(h:∀a0 a1 a2 a3:Value,C [a0,a1,a2,a3]):∀us:List Value,us.length=4->C us:=fun us e=>match us,e with|[a0,a1,a2,a3],_=>h a0 a1 a2 a3
theorem el5{C:List Value->Prop}(h:∀a0 a1 a2 a3 a4:Value,C [a0,a1,a2,a3,a4]):∀us:List Value,us.length=5->C us:=fun us e=>match us,e with|[a0,a1,a2,a3,a4],_=>h a0 a1 a2 a3 a4
def Has(K:Frag)(x:Str)(st:Stmt):Prop:=∃(f:Addr) (od an:Option Addr) (sl:Array (Option Value)) (oc kV dc pm cd ct:Value),PySem.W.nsIn K mainGlobals x=some (some (.ref f)) /\
 K.lookup f=some ⟨oc,od,.func (PySem.W.fnOf x x (dN st) (cH st) (az st) .none kV dc pm an cd ct),sl⟩/\PySem.W.codeIn K cd x=true/\PySem.W.keepIn K (.ref f)=true
theorem has_mk{K:Frag}{x:Str}{st:Stmt}{f:Addr}{od an:Option Addr}{sl:Array (Option Value)}{oc kV dc pm cd ct:Value}(a:PySem.W.nsIn K mainGlobals x=some (some (.ref f)))
  (l:K.lookup f=some ⟨oc,od,.func (PySem.W.fnOf x x (dN st) (cH st) (az st) .none kV dc pm an cd ct),sl⟩) (c:PySem.W.codeIn K cd x=true) (k:PySem.W.keepIn K (.ref f)=true):Has K x st:=⟨f,od,an,sl,oc,kV,dc,pm,cd,ct,a,l,c,k⟩
theorem Has.get{K:Frag}{x:Str}{st:Stmt}{h:Heap}{mg:Str->Option Value}(H:Has K x st)(X:K.In h)(G:h.Ns mainGlobals mg):∃f fd,Fun K x x st f fd/\mg x=some (.ref f):=by
 obtain⟨f,od,an,sl,oc,kV,dc,pm,cd,ct,a,l,c,k⟩:=H;exact⟨f,_,uD (st:=st) l c k,PySem.W.mg_of X G a⟩
theorem bz(P:Program)(w:World)(base:Heap){K:Frag}{mg:Str->Option Value}{k:Nat}{x:Str}{ps:List Str}{sp:Sp}{f:Addr}{fd:FuncData}(F:FnOk P w K mg base CX0 k f fd ps sp)(m:mg x=some (.ref f))(kp:PySem.W.keepIn K (.ref f)=true)(b:Binds K fd ps []):Cal P w K mg base k x ps sp:=⟨f,fd,F,m,kp,b⟩
theorem qP{P:Program}{w:World}{K:Frag}{mg:Str->Option Value}{base:Heap}{k:Nat}{x:Str}{ps:List Str}{sp:Sp}{f:Addr}{fd:FuncData}(F:FnOk P w K mg base (CX1 P w) k f fd ps sp)(m:mg x=some (.ref f))(kp:PySem.W.keepIn K (.ref f)=true)(b:Binds K fd ps []):tU P w K mg base k x ps sp:=⟨f,fd,F,m,kp,b⟩
theorem Dh{P:Program}{w:World}{K:Frag}{mg:Str->Option Value}{base:Heap}{k:Nat}{x:Str}{ps:List Str}{sp:Sp}{f:Addr}{fd:FuncData}(F:FnOkU P w K mg base CX0 k f fd ps sp)(m:mg x=some (.ref f))(kp:PySem.W.keepIn K (.ref f)=true)(b:Binds K fd ps []):Fx P w K mg base k x ps sp:=⟨f,fd,F,m,kp,b⟩
theorem wM{K:Frag}{x qual:Str}{st:Stmt}{f c T:Addr}{fd:FuncData}{h:Heap}{mg:Str->Option Value}(X:K.In h)(G:h.Ns mainGlobals mg)(F:Fun K x qual st f fd)(m:mg x=some (.ref f))(t:PySem.W.tabIn K x=some (c,T)):fd.code=.ref c:=by
 obtain⟨oc,od,kV,doc,pm,an,af,ct,c6,rfl,lk,_⟩:=F.ex;exact PySem.W.law_code X G t m (X _ _ lk) rfl
def HasM(K:Frag)(C:Addr)(m q:Str)(st:Stmt)(f:Addr):Prop:=∃(od an:Option Addr) (sl:Array (Option Value)) (oc kV dc pm cd ct:Value),PySem.W.findIn K (.ref C) m=some (some (.ref f))/\PySem.W.isFn K (.ref f)=true /\
 K.lookup f=some ⟨oc,od,.func (PySem.W.fnOf m q (dN st) (cH st) (az st) .none kV dc pm an cd ct),sl⟩/\PySem.W.codeIn K cd q=true/\PySem.W.keepIn K (.ref f)=true
theorem hasm_mk{K:Frag}{C:Addr}{m q:Str}{st:Stmt}{f:Addr}{od an:Option Addr}{sl:Array (Option Value)}{oc kV dc pm cd ct:Value}(a:PySem.W.findIn K (.ref C) m=some (some (.ref f)))(i:PySem.W.isFn K (.ref f)=true)
  (l:K.lookup f=some ⟨oc,od,.func (PySem.W.fnOf m q (dN st) (cH st) (az st) .none kV dc pm an cd ct),sl⟩) (c:PySem.W.codeIn K cd q=true) (k:PySem.W.keepIn K (.ref f)=true):HasM K C m q st f:=⟨od,an,sl,oc,kV,dc,pm,cd,ct,a,i,l,c,k⟩
theorem HasM.get{K:Frag}{C f:Addr}{m q:Str}{st:Stmt}(H:HasM K C m q st f):∃fd,Fun K m q st f fd/\Meth K C m f:=by
 obtain⟨od,an,sl,oc,kV,dc,pm,cd,ct,a,i,l,c,k⟩:=H;exact⟨_,uD (st:=st) l c k,⟨a,i,k⟩⟩
theorem Di{P:Program}{w:World}{K:Frag}{mg:Str->Option Value}{base:Heap}{C:Addr}{k:Nat}{x:Str}{ps:List Str}{sp:Sp}{f:Addr}{fd:FuncData}(F:FnOk P w K mg base CX0 k f fd ps sp)(m:Meth K C x f)(b:Binds K fd ps []):mJ P w K mg base C k x ps sp:=⟨f,fd,F,m,b⟩
theorem jC{P:Program}{w:World}{K:Frag}{mg:Str->Option Value}{base:Heap}{C:Addr}{k:Nat}{x:Str}{ps:List Str}{sp:Sp}{f:Addr}{fd:FuncData}(F:FnOk P w K mg base (CX1 P w) k f fd ps sp)(m:Meth K C x f)(b:Binds K fd ps []):oZ P w K mg base C k x ps sp:=⟨f,fd,F,m,b⟩
theorem all_mk{l:PySem.W.OpenLaw}{w:World}{K:Frag}{h:Heap}{mg:Str->Option Value}{fa fL C:Addr}{MD Ke:Option Addr}{ME:Array (Option Value)}{MF Kf Kg Kh FE Ki:Value}{t0 t1 t2 t3 t4 t5 t6 t7 t8:Tok}{cT T0 cU U0:Addr}{C0 C1 C2 C3 C4 C5 C6 C7 C8 C9 fg eB eC fh fk fm br c8:Addr}{g0 g1 g2 g3 g4 g6 gT:Addr}(X:K.In h)(G:h.Ns mainGlobals mg)(Kj:mg "law"=some (.ref fa))
  (h21:Has K "is_whole" (top 21))
  (h22:Has K "is_whole_from" (top 22))
  (h23:Has K "is_tuple_of" (top 23))
  (h24:Has K "are_wholes" (top 24))
  (h35:Has K "is_clip" (top 35))
  (h36:Has K "is_promise" (top 36))
  (h37:Has K "refuse_one_more" (top 37))
  (h38:Has K "held_in" (top 38))
  (h39:Has K "is_sale_between" (top 39))
  (h40:Has K "sale_holds" (top 40))
  (h58:Has K "refuse_no_year_of" (top 58))
  (h62:Has K "_law_cell_at" (top 62))
  (h63:Has K "_law_state" (top 63))
  (h64:Has K "_law_take" (top 64))
  (h65:Has K "_law_clips" (top 65))
  (h66:Has K "_law_begun" (top 66))
  (h67:Has K "_law_holds" (top 67))
  (h68:Has K "_law_sell" (top 68))
  (h69:Has K "_law_sold" (top 69))
  (h70:Has K "_law_kind" (top 70))
  (h71:Has K "_law_said" (top 71))
  (h72:Has K "_law_whole" (top 72))
  (h73:Has K "_law_between" (top 73))
  (h74:Has K "_law_is_clip" (top 74))
  (h75:Has K "_law_is_promise" (top 75))
  (h76:Has K "_law_is_sale" (top 76))
  (h77:Has K "_law_odd" (top 77))
  (h78:Has K "_law_spoilt" (top 78))
  (h79:Has K "_law_same" (top 79))
  (h80:Has K "_law_behind" (top 80))
  (h81:Has K "_law_do" (top 81))
  (h82:Has K "_law_one" (top 82))
  (h83:Has K "_law_filled" (top 83))
  (aL:PySem.W.nsIn K mainGlobals "law"=some (some (.ref fL)))
  (lL:K.lookup fL=some ⟨MF,MD,.func (PySem.W.fnOf "law" "law" (dN (top 84)) (cH (top 84)) (az (top 84)) .none Kf Kg Kh Ke FE Ki),ME⟩)
  (cL:PySem.W.codeIn K FE "law"=true)
  (kL:PySem.W.keepIn K (.ref fL)=true)
  (aC:PySem.W.nsIn K mainGlobals "Keeper"=some (some (.ref C)))
  (cpg:PySem.W.plainGet K C Str.empty=true)
  (chd:PySem.W.hasDictIn K C=true)
  (cpo:PySem.W.plainOver K C=true)
  (csa:PySem.W.findIn K (.ref C) "__setattr__"=some (some (.builtin "object.__setattr__")))
  (cmk:PySem.W.makesIn K C=true)
  (ckc:PySem.W.keepIn K (.ref C)=true)
  (cn0:PySem.W.findIn K (.ref C) "stages"=some none)
  (hm0:HasM K C "__init__" "Keeper.__init__" (inClass (top 60) 0) g0)
  (hm1:HasM K C "book_now" "Keeper.book_now" (inClass (top 60) 1) g1)
  (hm2:HasM K C "shear" "Keeper.shear" (inClass (top 60) 2) g2)
  (hm3:HasM K C "pledge" "Keeper.pledge" (inClass (top 60) 3) g3)
  (hm4:HasM K C "sell" "Keeper.sell" (inClass (top 60) 4) g4)
  (hm6:HasM K C "gifts_of" "Keeper.gifts_of" (inClass (top 60) 6) g6)
  (n0:PySem.W.nsIn K mainGlobals "SORTS"=some (some (.int 3 t0)))
  (n1:PySem.W.nsIn K mainGlobals "HOLDERS"=some (some (.int 8 t1)))
  (n2:PySem.W.nsIn K mainGlobals "LAST_YEAR"=some (some (.int 19 t2)))
  (n3:PySem.W.nsIn K mainGlobals "MOST_CLIPS"=some (some (.int 20 t3)))
  (n4:PySem.W.nsIn K mainGlobals "MOST_PROMISES"=some (some (.int 10 t4)))
  (n5:PySem.W.nsIn K mainGlobals "MOST_WOOL"=some (some (.int 999 t5)))
  (n6:PySem.W.nsIn K mainGlobals "MOST_SACKS"=some (some (.int 99 t6)))
  (n7:PySem.W.nsIn K mainGlobals "MOST_PRICE"=some (some (.int 1000000 t7)))
  (n8:PySem.W.nsIn K mainGlobals "MOST_SALES"=some (some (.int 12 t8)))
  (z_isinstance:PySem.W.nsIn K mainGlobals "isinstance"=some none)
  (z_int:PySem.W.nsIn K mainGlobals "int"=some none)
  (z_bool:PySem.W.nsIn K mainGlobals "bool"=some none)
  (z_tuple:PySem.W.nsIn K mainGlobals "tuple"=some none)
  (z_len:PySem.W.nsIn K mainGlobals "len"=some none)
  (z_all:PySem.W.nsIn K mainGlobals "all"=some none)
  (z_range:PySem.W.nsIn K mainGlobals "range"=some none)
  (z_list:PySem.W.nsIn K mainGlobals "list"=some none)
  (z_max:PySem.W.nsIn K mainGlobals "max"=some none)
  (z_min:PySem.W.nsIn K mainGlobals "min"=some none)
  (z_zip:PySem.W.nsIn K mainGlobals "zip"=some none)
  (z_enumerate:PySem.W.nsIn K mainGlobals "enumerate"=some none)
  (z_repr:PySem.W.nsIn K mainGlobals "repr"=some none)
  (z_str:PySem.W.nsIn K mainGlobals "str"=some none)
  (z_ValueError:PySem.W.nsIn K mainGlobals "ValueError"=some none)
  (k0:PySem.W.nsIn K mainGlobals "NoClips"=some (some (.ref C0)))
  (k1:PySem.W.nsIn K mainGlobals "NoPromises"=some (some (.ref C1)))
  (k2:PySem.W.nsIn K mainGlobals "NoSales"=some (some (.ref C2)))
  (k3:PySem.W.nsIn K mainGlobals "NoBook"=some (some (.ref C3)))
  (k4:PySem.W.nsIn K mainGlobals "NoNumber"=some (some (.ref C4)))
  (k5:PySem.W.nsIn K mainGlobals "NoYear"=some (some (.ref C5)))
  (k6:PySem.W.nsIn K mainGlobals "NoWeights"=some (some (.ref C6)))
  (k7:PySem.W.nsIn K mainGlobals "NoPaper"=some (some (.ref C7)))
  (k8:PySem.W.nsIn K mainGlobals "NoGrowth"=some (some (.ref C8)))
  (k9:PySem.W.nsIn K mainGlobals "NoPromise"=some (some (.ref C9)))
  (k10:PySem.W.nsIn K mainGlobals "NoSort"=some (some (.ref fg)))
  (k11:PySem.W.nsIn K mainGlobals "NoClip"=some (some (.ref eB)))
  (k12:PySem.W.nsIn K mainGlobals "NoSale"=some (some (.ref eC)))
  (k13:PySem.W.nsIn K mainGlobals "NoDeed"=some (some (.ref fh)))
  (k14:PySem.W.nsIn K mainGlobals "NoText"=some (some (.ref fk)))
  (k15:PySem.W.nsIn K mainGlobals "NoLine"=some (some (.ref fm)))
  (k16:PySem.W.nsIn K mainGlobals "TooMany"=some (some (.ref br)))
  (k17:PySem.W.nsIn K mainGlobals "WoolError"=some (some (.ref c8)))
  (e5:PySem.W.excIn K C5 VE "ValueError.__new__"=true)
  (d5:uX K [C0,C1,C2,C3,C4,C5,C6,C7,C8,C9,fg,eB,eC,fh,fk,fm,br,c8] 5=true)
  (e9:PySem.W.excIn K C9 VE "ValueError.__new__"=true)
  (d9:uX K [C0,C1,C2,C3,C4,C5,C6,C7,C8,C9,fg,eB,eC,fh,fk,fm,br,c8] 9=true)
  (e11:PySem.W.excIn K eB VE "ValueError.__new__"=true)
  (d11:uX K [C0,C1,C2,C3,C4,C5,C6,C7,C8,C9,fg,eB,eC,fh,fk,fm,br,c8] 11=true)
  (e12:PySem.W.excIn K eC VE "ValueError.__new__"=true)
  (d12:uX K [C0,C1,C2,C3,C4,C5,C6,C7,C8,C9,fg,eB,eC,fh,fk,fm,br,c8] 12=true)
  (d16:uX K [C0,C1,C2,C3,C4,C5,C6,C7,C8,C9,fg,eB,eC,fh,fk,fm,br,c8] 16=true)
  (hT:HasM K br "__init__" "TooMany.__init__" (inClass (top 19) 0) gT)
  (qoI:uN K br VE "ValueError.__new__" gT=true)
  (qoy:PySem.W.typeIn K (.ref gT)=some (.type "function"))
  (qok:PySem.W.keepIn K (.ref br)=true)
  (qob:PySem.W.mroIn K br (.type "BaseException")=some true)
  (qov:PySem.W.mroIn K br (.type "ValueError")=some true)
  (qos:PySem.W.findIn K (.ref br) "__setattr__"=some (some (.builtin "object.__setattr__")))
  (qoo:lw K br=true)
  (qoh:PySem.W.hasDictIn K br=true)
  (qog:PySem.W.specialIn K (.ref c8) "__getattribute__"=some (some (.builtin "type.__getattribute__")))
  (qor:PySem.W.readsIn K c8 (.type "type")=true)
  (qof:PySem.W.findCls K (.ref c8) (.type "type") "__init__"=some (.val (.builtin "ValueError.__init__")))
  (qn0:PySem.W.findIn K (.ref br) "many"=some none)
  (qn1:PySem.W.findIn K (.ref br) "most"=some none)
  (tb:PySem.W.tabIn K "_law_one"=some (cT,T0))
  (tb2:PySem.W.tabIn K "law"=some (cU,U0))
  (n12:T0≠U0)
  : ∃fd:FuncData,(∀(s:Shared) (v:Value),BindsTo s fd ⟨[v],[]⟩ [("_law_script",v)])/\∀base:Heap,K.In base->base.Ns mainGlobals mg->PySem.W.CodeHd base cT T0->base.BuiltinsAt mg T0->PySem.W.CodeHd base cU U0->base.BuiltinsAt mg U0->FnOk l.prog w K mg base CX0 64 fa fd ["_law_script"] (wL K T0 U0):=by
 have e:=Kj.symm.trans (PySem.W.mg_of X G aL);cases e;have FL:=uD (st:=top 84) lL cL kL;obtain⟨Pr,MG,FF,MJ⟩:=h21.get X G;have MK:=FF.binds (ps:=["thing"]) fun _ _ _ _ _ _=>el1 fun _=>rfl;obtain⟨Pt,ML,FG,MM⟩:=h22.get X G;have MN:=FG.binds (ps:=["thing","least","most"]) fun _ _ _ _ _ _=>el3 fun _ _ _=>rfl;obtain⟨Pu,MO,FH,MP⟩:=h23.get X G;have MQ:=FH.binds (ps:=["thing","fewest","most"]) fun _ _ _ _ _ _=>el3 fun _ _ _=>rfl;obtain⟨Pw,MR,FI,MT⟩:=h24.get X G;have MU:=FI.binds (ps:=["thing","many"]) fun _ _ _ _ _ _=>el2 fun _ _=>rfl;obtain⟨Px,MV,FK,MW⟩:=h35.get X G;have MX:=FK.binds (ps:=["thing"]) fun _ _ _ _ _ _=>el1 fun _=>rfl;obtain⟨Py,MY,FO,MZ⟩:=h36.get X G;have M0:=FO.binds (ps:=["thing"]) fun _ _ _ _ _ _=>el1 fun _=>rfl;obtain⟨Pz,M3,r9,Kk⟩:=h37.get X G;have Kl:=r9.binds (ps:=["rows","most"]) fun _ _ _ _ _ _=>el2 fun _ _=>rfl;obtain⟨PB,M4,FR,M5⟩:=h38.get X G;have M6:=FR.binds (ps:=["promises","sales","number","year"]) fun _ _ _ _ _ _=>el4 fun _ _ _ _=>rfl;obtain⟨PD,M7,FU,M8⟩:=h39.get X G;have M9:=FU.binds (ps:=["promises","sale"]) fun _ _ _ _ _ _=>el2 fun _ _=>rfl;obtain⟨PF,Na,FV,Nb⟩:=h40.get X G;have Nd:=FV.binds (ps:=["promises","ahead","sale"]) fun _ _ _ _ _ _=>el3 fun _ _ _=>rfl;obtain⟨PH,Nf,FX,Ng⟩:=h58.get X G;have Nh:=FX.binds (ps:=["clips","year"]) fun _ _ _ _ _ _=>el2 fun _ _=>rfl;obtain⟨PJ,Ni,FY,Nj⟩:=h62.get X G;have Nk:=FY.binds (ps:=["_law_script","_law_k"]) fun _ _ _ _ _ _=>el2 fun _ _=>rfl;obtain⟨PL,Nl,F0,Nm⟩:=h63.get X G;have Nn:=F0.binds (ps:=["_law_script","_law_k"]) fun _ _ _ _ _ _=>el2 fun _ _=>rfl;obtain⟨PM,Np,F2,Nq⟩:=h64.get X G;have Nr:=F2.binds (ps:=["_law_state_here","_law_many"]) fun _ _ _ _ _ _=>el2 fun _ _=>rfl;obtain⟨PN,Nt,F3,Nu⟩:=h65.get X G;have Nv:=F3.binds (ps:=["_law_state_here","_law_most"]) fun _ _ _ _ _ _=>el2 fun _ _=>rfl;obtain⟨PQ,Nw,F4,Nx⟩:=h66.get X G;have Ny:=F4.binds (ps:=["_law_promises"]) fun _ _ _ _ _ _=>el1 fun _=>rfl;obtain⟨PR,Nz,F5,NA⟩:=h67.get X G;have NB:=F5.binds (ps:=["_law_promises","_law_rows","_law_sale"]) fun _ _ _ _ _ _=>el3 fun _ _ _=>rfl;obtain⟨PU,NC,F6,ND⟩:=h68.get X G;have NG:=F6.binds (ps:=["_law_promises","_law_rows","_law_sale"]) fun _ _ _ _ _ _=>el3 fun _ _ _=>rfl;obtain⟨PV,NH,F7,NI⟩:=h69.get X G;have NJ:=F7.binds (ps:=["_law_promises","_law_sales"]) fun _ _ _ _ _ _=>el2 fun _ _=>rfl;obtain⟨PX,NK,F8,NM⟩:=h70.get X G;have NN:=F8.binds (ps:=["_law_e"]) fun _ _ _ _ _ _=>el1 fun _=>rfl;obtain⟨PY,NP,F9,NQ⟩:=h71.get X G;have NR:=F9.binds (ps:=["_law_call"]) fun _ _ _ _ _ _=>el1 fun _=>rfl;obtain⟨PZ,NS,GA,NT⟩:=h72.get X G;have NU:=GA.binds (ps:=["_law_thing"]) fun _ _ _ _ _ _=>el1 fun _=>rfl;obtain⟨P1,NV,GB,NW⟩:=h73.get X G;have NY:=GB.binds (ps:=["_law_thing","_law_low","_law_high"]) fun _ _ _ _ _ _=>el3 fun _ _ _=>rfl;obtain⟨P2,NZ,GG,N0⟩:=h74.get X G;have N1:=GG.binds (ps:=["_law_thing"]) fun _ _ _ _ _ _=>el1 fun _=>rfl;obtain⟨P4,N3,GH,N4⟩:=h75.get X G;have N5:=GH.binds (ps:=["_law_thing"]) fun _ _ _ _ _ _=>el1 fun _=>rfl;obtain⟨P5,N6,GI,N7⟩:=h76.get X G;have N8:=GI.binds (ps:=["_law_thing"]) fun _ _ _ _ _ _=>el1 fun _=>rfl;obtain⟨P6,N9,GL,Oa⟩:=h77.get X G;have Ob:=GL.binds (ps:=["_law_state_here"]) fun _ _ _ _ _ _=>el1 fun _=>rfl;obtain⟨Oc,GN,sd,GO⟩:=h78.get X G;have GS:=sd.binds (ps:=["_law_state_here","_law_thing","_law_deep"]) fun _ _ _ _ _ _=>el3 fun _ _ _=>rfl;obtain⟨P7,Od,GU,Oe⟩:=h79.get X G;have Of:=GU.binds (ps:=["_law_found","_law_due"]) fun _ _ _ _ _ _=>el2 fun _ _=>rfl;obtain⟨P8,Og,GV,Oh⟩:=h80.get X G;have Oi:=GV.binds (ps:=["_law_now","_law_deed"]) fun _ _ _ _ _ _=>el2 fun _ _=>rfl;obtain⟨P9,Oj,GW,Ol⟩:=h81.get X G;have Om:=GW.binds (ps:=["_law_keeper","_law_deed"]) fun _ _ _ _ _ _=>el2 fun _ _=>rfl;obtain⟨Qa,Oo,A6,Km⟩:=h82.get X G;have Oq:=A6.binds (ps:=["_law_keeper","_law_past","_law_now","_law_deed"]) fun _ _ _ _ _ _=>el4 fun _ _ _ _=>rfl;obtain⟨Qb,Ot,GY,Ou⟩:=h83.get X G;have Ov:=GY.binds (ps:=["_law_state_here","_law_keeper","_law_full"]) fun _ _ _ _ _ _=>el3 fun _ _ _=>rfl;obtain⟨Ow,G0,Kn⟩:=hm0.get;have Ox:=G0.binds (ps:=["self"]) fun _ _ _ _ _ _=>el1 fun _=>rfl;obtain⟨Qd,G1,Oy⟩:=hm1.get;have Oz:=G1.binds (ps:=["self"]) fun _ _ _ _ _ _=>el1 fun _=>rfl;obtain⟨Qe,G2,OA⟩:=hm2.get;have OB:=G2.binds (ps:=["self","clip"]) fun _ _ _ _ _ _=>el2 fun _ _=>rfl;obtain⟨Qf,G3,OC⟩:=hm3.get;have OD:=G3.binds (ps:=["self","promise"]) fun _ _ _ _ _ _=>el2 fun _ _=>rfl;obtain⟨Qg,G4,OE⟩:=hm4.get;have OF:=G4.binds (ps:=["self","sale"]) fun _ _ _ _ _ _=>el2 fun _ _=>rfl;obtain⟨Qh,G6,OG⟩:=hm6.get;have OH:=G6.binds (ps:=["self","year"]) fun _ _ _ _ _ _=>el2 fun _ _=>rfl;obtain⟨OI,GT,Qi⟩:=hT.get;have OJ:=GT.binds (ps:=["self","many","most"]) fun _ _ _ _ _ _=>el3 fun _ _ _=>rfl
 have XT:Txt K C:=⟨⟨cpg,chd,cpo,csa⟩,cn0⟩
 have mC:mg "Keeper"=some (.ref C):=PySem.W.mg_of X G aC
 have T:Mg mg:=⟨(zB0 X G z_isinstance),(zB0 X G z_int),(zB0 X G z_bool),(zB0 X G z_tuple),(zB0 X G z_len),(zB0 X G z_all)⟩
 have N:Nums mg:=⟨⟨t0,PySem.W.mg_of X G n0⟩,⟨t1,PySem.W.mg_of X G n1⟩,⟨t2,PySem.W.mg_of X G n2⟩,⟨t3,PySem.W.mg_of X G n3⟩,⟨t4,PySem.W.mg_of X G n4⟩,⟨t5,PySem.W.mg_of X G n5⟩,⟨t6,PySem.W.mg_of X G n6⟩,⟨t7,PySem.W.mg_of X G n7⟩⟩
 have N2:MS mg:=⟨⟨t8,PySem.W.mg_of X G n8⟩⟩
 refine⟨PySem.W.fnOf "law" "law" (dN (top 84)) (cH (top 84)) (az (top 84)) .none Kf Kg Kh Ke FE Ki,fun s v=>.of_eq rfl,fun base kb _ hC hB qS OK=>?_⟩
 have L:Clss mg (fun i=>[C0,C1,C2,C3,C4,C5,C6,C7,C8,C9,fg,eB,eC,fh,fk,fm,br,c8].getD i 0):=⟨PySem.W.mg_of X G k0,PySem.W.mg_of X G k1,PySem.W.mg_of X G k2,PySem.W.mg_of X G k3,PySem.W.mg_of X G k4,PySem.W.mg_of X G k5,PySem.W.mg_of X G k6,PySem.W.mg_of X G k7,PySem.W.mg_of X G k8,PySem.W.mg_of X G k9,PySem.W.mg_of X G k10,PySem.W.mg_of X G k11,PySem.W.mg_of X G k12,PySem.W.mg_of X G k13,PySem.W.mg_of X G k14,PySem.W.mg_of X G k15,PySem.W.mg_of X G k16,PySem.W.mg_of X G k17⟩
 have O5:=ql (mg:=mg) kb L.n5 e5;have K5:=tW d5;have O9:=ql (mg:=mg) kb L.n9 e9;have K9:=tW d9;have OL:=ql (mg:=mg) kb L.n11 e11;have OM:=tW d11;have ON:=ql (mg:=mg) kb L.n12 e12;have OO:=tW d12;have OP:=tW d16
 have yv:TMF K (fun i=>[C0,C1,C2,C3,C4,C5,C6,C7,C8,C9,fg,eB,eC,fh,fk,fm,br,c8].getD i 0):=⟨⟨qov,qos,qoo,qoh⟩,⟨qog,qor,qof⟩,qn0,qn1⟩
 have OQ:TMk l.prog w K mg base (fun i=>[C0,C1,C2,C3,C4,C5,C6,C7,C8,C9,fg,eB,eC,fh,fk,fm,br,c8].getD i 0):=⟨gT,OI,Fz GT L yv,BR kb qoI,qoy,OJ,qok,qob⟩
 have cy:=wM X G A6 Km tb;have p9:=wM X G FL Kj tb2;have yA:=bz l.prog w base (tM FF T) MJ FF.kp MK;have He:=bz l.prog w base (nM FG yA) MM FG.kp MN;have HC:=bz l.prog w base (m5 FH T) MP FH.kp MQ;have lb:=bz l.prog w base (nH FI T yA HC) MT FI.kp MU;have yB:=bz l.prog w base (uT FK T N lb) MW FK.kp MX;have yT:=bz l.prog w base (nJ FO T N lb) MZ FO.kp M0;have qa:=bz l.prog w base (wH (j:=0) r9 T) Kk r9.kp Kl;have XM:=qP (P:=l.prog) (w:=w) (base:=base) (either (wH (j:=2) r9 T) (Av (Cs:=fun i=>[C0,C1,C2,C3,C4,C5,C6,C7,C8,C9,fg,eB,eC,fh,fk,fm,br,c8].getD i 0) r9 T L OQ)) Kk r9.kp Kl;have HE:=bz l.prog w base (CK FR N) M5 FR.kp M6;have HG:=bz l.prog w base (CN FU T N) M8 FU.kp M9;have yY:=bz l.prog w base (Ag FV T (zB0 X G z_range) HG HE) Nb FV.kp Nd;have XY:=qP (P:=l.prog) (w:=w) (base:=base) (Ay (Cs:=fun i=>[C0,C1,C2,C3,C4,C5,C6,C7,C8,C9,fg,eB,eC,fh,fk,fm,br,c8].getD i 0) FX T O5 He) Ng FX.kp Nh
 have OR:MkM l.prog w K mg base C:=⟨g0,Ow,CW G0 XT,⟨cmk,Kn.at_,Kn.fn,ckc⟩,Ox⟩
 have mT:=Di (P:=l.prog) (w:=w) (mg:=mg) (base:=base) (Fy G1 XT) Oy Oz;have XS:=jC (P:=l.prog) (w:=w) (mg:=mg) (base:=base) (either (Ao G2 XT N yB mT qa) (ye (Cs:=fun i=>[C0,C1,C2,C3,C4,C5,C6,C7,C8,C9,fg,eB,eC,fh,fk,fm,br,c8].getD i 0) G2 XT N OL yB mT XM)) OA OB;have XP:=jC (P:=l.prog) (w:=w) (mg:=mg) (base:=base) (either (yd G3 XT T N yT mT qa) (v9 (Cs:=fun i=>[C0,C1,C2,C3,C4,C5,C6,C7,C8,C9,fg,eB,eC,fh,fk,fm,br,c8].getD i 0) G3 XT N O9 yT mT XM)) OC OD;have XL:=jC (P:=l.prog) (w:=w) (mg:=mg) (base:=base) (either (Aq G4 XT N2 lb yY mT qa) (Ax (Cs:=fun i=>[C0,C1,C2,C3,C4,C5,C6,C7,C8,C9,fg,eB,eC,fh,fk,fm,br,c8].getD i 0) G4 XT N2 ON lb yY mT XM)) OE OF;have XG:=jC (P:=l.prog) (w:=w) (mg:=mg) (base:=base) (yf (Cs:=fun i=>[C0,C1,C2,C3,C4,C5,C6,C7,C8,C9,fg,eB,eC,fh,fk,fm,br,c8].getD i 0) G6 XT mT XY) OG OH;have HI:=bz l.prog w base (Ci FY T) Nj FY.kp Nk;have HK:=bz l.prog w base (zU F0 HI) Nm F0.kp Nn;have iO:=bz l.prog w base (Cj F2) Nq F2.kp Nr;have HL:=bz l.prog w base (yl F3 T (zB0 X G z_range) iO) Nu F3.kp Nv;have HM:=bz l.prog w base (Ah F4 (zB0 X G z_enumerate) (zB0 X G z_range)) Nx F4.kp Ny;have HU:=bz l.prog w base (xY F5 T (zB0 X G z_range) (zB0 X G z_min)) NA F5.kp NB;have HV:=bz l.prog w base (CT F6 (zB0 X G z_range)) ND F6.kp NG;have Ic:=bz l.prog w base (CV (Al F7 (zB0 X G z_enumerate) HM HU HV)) NI F7.kp NJ;have Im:=Dh (P:=l.prog) (w:=w) (base:=base) (Cw F8 T (zB0 X G z_ValueError) L) NM F8.kp NN;have y4:=bz l.prog w base (Cz (kk:=7) F9 L Im) NQ F9.kp NR;have lh:=bz l.prog w base (xV GA T) NT GA.kp NU;have y7:=bz l.prog w base (tO GB lh) NW GB.kp NY;have Ip:=bz l.prog w base (tQ GG T y7) N0 GG.kp N1;have Iq:=bz l.prog w base (m9 GH T (zB0 X G z_zip) y7) N4 GH.kp N5;have Ir:=bz l.prog w base (uc GI T lh) N7 GI.kp N8;have qf:=bz l.prog w base (Fl GL iO) Oa GL.kp Ob;have S0:=bz l.prog w base (uW (f:=Oc) (fd:=GN)) GO sd.kp GS;have S1:=bz l.prog w base (oV (k:=0) sd T (zB0 X G z_list) iO lh qf S0) GO sd.kp GS;have S2:=bz l.prog w base (oV (k:=1) sd T (zB0 X G z_list) iO lh qf S1) GO sd.kp GS;have y8:=bz l.prog w base (Ck GU (zB0 X G z_repr)) Oe GU.kp Of;have y9:=bz l.prog w base (yh GV T Ip Iq Ir Ic) Oh GV.kp Oi;have XD:=qP (P:=l.prog) (w:=w) (base:=base) (GR GW XT XS XP XL) Ol GW.kp Om;have Iu:=bz l.prog w base (FN A6 cy hC hB T (zB0 X G z_str) y9 y4 XD y8) Km A6.kp Oq;have Iv:=bz l.prog w base (ym GY HL Iu) Ou GY.kp Ov;exact FQ FL p9 qS OK n12 XT mC T (zB0 X G z_range) (zB0 X G z_max) (zB0 X G z_min) (zB0 X G z_str) (zB0 X G z_repr) yv (fun j hj=>by rcases hj with rfl|rfl|rfl|rfl|rfl<;>first|exact K5|exact K9|exact OM|exact OO|exact OP) HK iO OR Iv S2 qf y9 y4 XD XG mT y8
theorem walk{l:PySem.W.OpenLaw}{q:Program}{loose:List Str}{XP:(Str->Option Value)->Heap->Prop}{YP:World->Heap->Prop}{d dr q0:DefRec}{K:Params->Frag}{c T0 c2 U0:Addr}(hn:l.most=some 63)(ny:d.params.defaults=[])
  (hY:∀(w:World) (h:Heap),YP w h->(K w.params).In h) (DF:(PyProof.Rows.recsOf q).find? (fun e=>e.name==("_law_one":Str))=some dr) (vc:∀p:Params,PySem.W.tabIn (K p) "_law_one"=some (c,T0)) (om:(PyProof.Rows.recsOf q).find? (fun e=>e.name==("law":Str))=some q0) (oo:∀p:Params,PySem.W.tabIn (K p) "law"=some (c2,U0)) (n12:T0≠U0) (DH:∀p:Params,PySem.W.noTabs (K p)=true)
  (F:∀(w:World) (mg:Str->Option Value) (fa:Addr) (h:Heap),(K w.params).In h->h.Ns mainGlobals mg->mg d.name=some (.ref fa)->
   ∃fd:FuncData,(∀(s:Shared) (u:Value),BindsTo s fd ⟨[u],[]⟩ [("_law_script",u)])/\∀base:Heap,(K w.params).In base->base.Ns mainGlobals mg->PySem.W.CodeHd base c T0->base.BuiltinsAt mg T0->PySem.W.CodeHd base c2 U0->base.BuiltinsAt mg U0->FnOk l.prog w (K w.params) mg base CX0 64 fa fd ["_law_script"] (wL (K w.params) T0 U0)):
  PySem.W.WalkO q loose XP YP l.row.toRowW d [] (fun f vs=>PySem.call f vs):=
 L2.walk_ofT2 (n:=63) (k:=64) (x:="_law_script") (nm:="_law_one") (nm2:="law") (qn:=qnO) (qn2:=qnL) (CX:=fun _=>CX0) (sp:=fun w=>wL (K w.params) T0 U0) hn Zx ny ⟨rfl,by decide,by decide,rfl⟩ hY DF vc om oo n12 DH F (fun _ _ a ns hl hS hT fE=>⟨a,ns,rfl,hS,hl,hT,fE,fun _=>rfl⟩) fun _ _ _ _ _ z=>z
end K72
open PySem PySem.W PyProof.Rows
set_option maxRecDepth 100000 in
set_option maxHeartbeats 0 in
theorem PySem.Challenge.cw_woolyears_k72_what_a_keeper_refuses_holds : PySem.Challenge.rw_woolyears_k72_what_a_keeper_refuses.Holds := by
 w_on;o_law;k_head;(case hw=>w_witness2)
 k_fill
 refine' K72.walk (l:=PySem.Challenge.rw_woolyears_k72_what_a_keeper_refuses) rfl rfl (fun w h Y=>PySem.W.km_in_of Y) ?fd ?tb ?fd2 ?tb2 ?n12 ?nt ?F
 case fd=>exact rfl
 case fd2=>exact rfl
 case tb =>
  intro p
  refine' K72.tab_mk ?a ?l ?c ?m ?v
  (case a=>k_is);(case l=>k_is);(case c=>exact rfl);(case m=>k_is);(case v=>exact rfl)
 case tb2 =>
  intro p
  refine' K72.tab_mk ?a ?l ?c ?m ?v
  (case a=>k_is);(case l=>k_is);(case c=>exact rfl);(case m=>k_is);(case v=>exact rfl)
 case n12=>decide
 case nt =>
  intro p
  kernel_rfl
 case F =>
  intro w mg fa h KX G hmg
  refine' K72.all_mk KX G hmg ?h21 ?h22 ?h23 ?h24 ?h35 ?h36 ?h37 ?h38 ?h39 ?h40 ?h58 ?h62 ?h63 ?h64 ?h65 ?h66 ?h67 ?h68 ?h69 ?h70 ?h71 ?h72 ?h73 ?h74 ?h75 ?h76 ?h77 ?h78 ?h79 ?h80 ?h81 ?h82 ?h83 ?aL ?lL ?cL ?kL ?aC ?cpg ?chd ?cpo ?csa ?cmk ?ckc ?cn0 ?hm0 ?hm1 ?hm2 ?hm3 ?hm4 ?hm6 ?n0 ?n1 ?n2 ?n3 ?n4 ?n5 ?n6 ?n7 ?n8 ?z_isinstance ?z_int ?z_bool ?z_tuple ?z_len ?z_all ?z_range ?z_list ?z_max ?z_min ?z_zip ?z_enumerate ?z_repr ?z_str ?z_ValueError ?k0 ?k1 ?k2 ?k3 ?k4 ?k5 ?k6 ?k7 ?k8 ?k9 ?k10 ?k11 ?k12 ?k13 ?k14 ?k15 ?k16 ?k17 ?e5 ?d5 ?e9 ?d9 ?e11 ?d11 ?e12 ?d12 ?d16 ?hT ?qoI ?qoy ?qok ?qob ?qov ?qos ?qoo ?qoh ?qog ?qor ?qof ?qn0 ?qn1 ?tb ?tb2 ?n12
  case h21 =>
   refine' K72.has_mk ?a ?l ?c ?k
   (case a=>k_is);(case l=>k_is);(case c=>k_is);(case k=>k_is)
  case h22 =>
   refine' K72.has_mk ?a ?l ?c ?k
   (case a=>k_is);(case l=>k_is);(case c=>k_is);(case k=>k_is)
  case h23 =>
   refine' K72.has_mk ?a ?l ?c ?k
   (case a=>k_is);(case l=>k_is);(case c=>k_is);(case k=>k_is)
  case h24 =>
   refine' K72.has_mk ?a ?l ?c ?k
   (case a=>k_is);(case l=>k_is);(case c=>k_is);(case k=>k_is)
  case h35 =>
   refine' K72.has_mk ?a ?l ?c ?k
   (case a=>k_is);(case l=>k_is);(case c=>k_is);(case k=>k_is)
  case h36 =>
   refine' K72.has_mk ?a ?l ?c ?k
   (case a=>k_is);(case l=>k_is);(case c=>k_is);(case k=>k_is)
  case h37 =>
   refine' K72.has_mk ?a ?l ?c ?k
   (case a=>k_is);(case l=>k_is);(case c=>k_is);(case k=>k_is)
  case h38 =>
   refine' K72.has_mk ?a ?l ?c ?k
   (case a=>k_is);(case l=>k_is);(case c=>k_is);(case k=>k_is)
  case h39 =>
   refine' K72.has_mk ?a ?l ?c ?k
   (case a=>k_is);(case l=>k_is);(case c=>k_is);(case k=>k_is)
  case h40 =>
   refine' K72.has_mk ?a ?l ?c ?k
   (case a=>k_is);(case l=>k_is);(case c=>k_is);(case k=>k_is)
  case h58 =>
   refine' K72.has_mk ?a ?l ?c ?k
   (case a=>k_is);(case l=>k_is);(case c=>k_is);(case k=>k_is)
  case h62 =>
   refine' K72.has_mk ?a ?l ?c ?k
   (case a=>k_is);(case l=>k_is);(case c=>k_is);(case k=>k_is)
  case h63 =>
   refine' K72.has_mk ?a ?l ?c ?k
   (case a=>k_is);(case l=>k_is);(case c=>k_is);(case k=>k_is)
  case h64 =>
   refine' K72.has_mk ?a ?l ?c ?k
   (case a=>k_is);(case l=>k_is);(case c=>k_is);(case k=>k_is)
  case h65 =>
   refine' K72.has_mk ?a ?l ?c ?k
   (case a=>k_is);(case l=>k_is);(case c=>k_is);(case k=>k_is)
  case h66 =>
   refine' K72.has_mk ?a ?l ?c ?k
   (case a=>k_is);(case l=>k_is);(case c=>k_is);(case k=>k_is)
  case h67 =>
   refine' K72.has_mk ?a ?l ?c ?k
   (case a=>k_is);(case l=>k_is);(case c=>k_is);(case k=>k_is)
  case h68 =>
   refine' K72.has_mk ?a ?l ?c ?k
   (case a=>k_is);(case l=>k_is);(case c=>k_is);(case k=>k_is)
  case h69 =>
   refine' K72.has_mk ?a ?l ?c ?k
   (case a=>k_is);(case l=>k_is);(case c=>k_is);(case k=>k_is)
  case h70 =>
   refine' K72.has_mk ?a ?l ?c ?k
   (case a=>k_is);(case l=>k_is);(case c=>k_is);(case k=>k_is)
  case h71 =>
   refine' K72.has_mk ?a ?l ?c ?k
   (case a=>k_is);(case l=>k_is);(case c=>k_is);(case k=>k_is)
  case h72 =>
   refine' K72.has_mk ?a ?l ?c ?k
   (case a=>k_is);(case l=>k_is);(case c=>k_is);(case k=>k_is)
  case h73 =>
   refine' K72.has_mk ?a ?l ?c ?k
   (case a=>k_is);(case l=>k_is);(case c=>k_is);(case k=>k_is)
  case h74 =>
   refine' K72.has_mk ?a ?l ?c ?k
   (case a=>k_is);(case l=>k_is);(case c=>k_is);(case k=>k_is)
  case h75 =>
   refine' K72.has_mk ?a ?l ?c ?k
   (case a=>k_is);(case l=>k_is);(case c=>k_is);(case k=>k_is)
  case h76 =>
   refine' K72.has_mk ?a ?l ?c ?k
   (case a=>k_is);(case l=>k_is);(case c=>k_is);(case k=>k_is)
  case h77 =>
   refine' K72.has_mk ?a ?l ?c ?k
   (case a=>k_is);(case l=>k_is);(case c=>k_is);(case k=>k_is)
  case h78 =>
   refine' K72.has_mk ?a ?l ?c ?k
   (case a=>k_is);(case l=>k_is);(case c=>k_is);(case k=>k_is)
  case h79 =>
   refine' K72.has_mk ?a ?l ?c ?k
   (case a=>k_is);(case l=>k_is);(case c=>k_is);(case k=>k_is)
  case h80 =>
   refine' K72.has_mk ?a ?l ?c ?k
   (case a=>k_is);(case l=>k_is);(case c=>k_is);(case k=>k_is)
  case h81 =>
   refine' K72.has_mk ?a ?l ?c ?k
   (case a=>k_is);(case l=>k_is);(case c=>k_is);(case k=>k_is)
  case h82 =>
   refine' K72.has_mk ?a ?l ?c ?k
   (case a=>k_is);(case l=>k_is);(case c=>k_is);(case k=>k_is)
  case h83 =>
   refine' K72.has_mk ?a ?l ?c ?k
   (case a=>k_is);(case l=>k_is);(case c=>k_is);(case k=>k_is)
  (case aL=>k_is)
  (case lL=>k_is)
  (case cL=>k_is)
  (case kL=>k_is)
  (case aC=>k_is)
  (case cpg=>k_is)
  (case chd=>k_is)
  (case cpo=>k_is)
  (case csa=>k_is)
  (case cmk=>k_is)
  (case ckc=>k_is)
  (case cn0=>k_is)
  case hm0 =>
   refine' K72.hasm_mk ?a ?i ?l ?c ?k
   (case a=>k_is);(case i=>k_is);(case l=>k_is);(case c=>k_is);(case k=>k_is)
  case hm1 =>
   refine' K72.hasm_mk ?a ?i ?l ?c ?k
   (case a=>k_is);(case i=>k_is);(case l=>k_is);(case c=>k_is);(case k=>k_is)
  case hm2 =>
   refine' K72.hasm_mk ?a ?i ?l ?c ?k
   (case a=>k_is);(case i=>k_is);(case l=>k_is);(case c=>k_is);(case k=>k_is)
  case hm3 =>
   refine' K72.hasm_mk ?a ?i ?l ?c ?k
   (case a=>k_is);(case i=>k_is);(case l=>k_is);(case c=>k_is);(case k=>k_is)
  case hm4 =>
   refine' K72.hasm_mk ?a ?i ?l ?c ?k
   (case a=>k_is);(case i=>k_is);(case l=>k_is);(case c=>k_is);(case k=>k_is)
  case hm6 =>
   refine' K72.hasm_mk ?a ?i ?l ?c ?k
   (case a=>k_is);(case i=>k_is);(case l=>k_is);(case c=>k_is);(case k=>k_is)
  (case n0=>k_is)
  (case n1=>k_is)
  (case n2=>k_is)
  (case n3=>k_is)
  (case n4=>k_is)
  (case n5=>k_is)
  (case n6=>k_is)
  (case n7=>k_is)
  (case n8=>k_is)
  (case z_isinstance=>k_is)
  (case z_int=>k_is)
  (case z_bool=>k_is)
  (case z_tuple=>k_is)
  (case z_len=>k_is)
  (case z_all=>k_is)
  (case z_range=>k_is)
  (case z_list=>k_is)
  (case z_max=>k_is)
  (case z_min=>k_is)
  (case z_zip=>k_is)
  (case z_enumerate=>k_is)
  (case z_repr=>k_is)
  (case z_str=>k_is)
  (case z_ValueError=>k_is)
  (case k0=>k_is)
  (case k1=>k_is)
  (case k2=>k_is)
  (case k3=>k_is)
  (case k4=>k_is)
  (case k5=>k_is)
  (case k6=>k_is)
  (case k7=>k_is)
  (case k8=>k_is)
  (case k9=>k_is)
  (case k10=>k_is)
  (case k11=>k_is)
  (case k12=>k_is)
  (case k13=>k_is)
  (case k14=>k_is)
  (case k15=>k_is)
  (case k16=>k_is)
  (case k17=>k_is)
  (case e5=>kernel_rfl)
  (case d5=>kernel_rfl)
  (case e9=>kernel_rfl)
  (case d9=>kernel_rfl)
  (case e11=>kernel_rfl)
  (case d11=>kernel_rfl)
  (case e12=>kernel_rfl)
  (case d12=>kernel_rfl)
  (case d16=>kernel_rfl)
  case hT =>
   refine' K72.hasm_mk ?a ?i ?l ?c ?k
   (case a=>k_is);(case i=>k_is);(case l=>k_is);(case c=>k_is);(case k=>k_is)
  (case qoI=>kernel_rfl)
  (case qoy=>kernel_rfl)
  (case qok=>kernel_rfl)
  (case qob=>kernel_rfl)
  (case qov=>kernel_rfl)
  (case qos=>kernel_rfl)
  (case qoo=>kernel_rfl)
  (case qoh=>kernel_rfl)
  (case qog=>kernel_rfl)
  (case qor=>kernel_rfl)
  (case qof=>kernel_rfl)
  (case qn0=>kernel_rfl)
  (case qn1=>kernel_rfl)
  case tb =>
   refine' K72.tab_mk ?a ?l ?c ?m ?v
   (case a=>k_is);(case l=>k_is);(case c=>exact rfl);(case m=>k_is);(case v=>exact rfl)
  case tb2 =>
   refine' K72.tab_mk ?a ?l ?c ?m ?v
   (case a=>k_is);(case l=>k_is);(case c=>exact rfl);(case m=>k_is);(case v=>exact rfl)
  (case n12=>decide)
