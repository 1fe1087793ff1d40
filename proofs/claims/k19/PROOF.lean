import PyProof.Rows.All
import Wide.All
import OpenK.AllK
import Wide.FinOn
import Lean
import PyProof.EqAt
import PyProof.EqKinds
import PyProof.TupleCall
import PyProof.P3Eq
import PyProof.NeKinds
import PyProof.StationsW
import PyProof.ExcClass3
import PyProof.NsDelKeeps
import PyProof.RulesAs
import PyProof.ListRange
import PyProof.ExcArgsOwn
import PyProof.IsiH_list
import PySem.Challenge.RW_sureroad_k19_what_lies_on_roads
set_option Elab.async false
set_option linter.all false
set_option maxRecDepth 100000
set_option maxHeartbeats 4000000
def PySem.W.Fast.tw13215841920184278181:=0
def PySem.W.Fast.tw9037726204938340584:=0
def PySem.W.Fast.tw18446229786525506433:=0
def PySem.W.Fast.tw15374776525093654242:=0
def PySem.W.Fast.tw8280267663759405785:=0
def PySem.W.Fast.tw14158261020042023632:=0
def PySem.W.Fast.tw3130391825598575469:=0
def PySem.W.Fast.tw16402936145306681745:=0
def PySem.W.Fast.tw15640296119924919706:=0
def PySem.W.Fast.tw11850128795656909873:=0
def PySem.W.Fast.tw12383366740048480714:=0
def PySem.W.Fast.tw6430650668991446056:=0
def PySem.W.Fast.tw16178133794447795393:=0
def PySem.W.Fast.tw2346205922689459590:=0
def PySem.W.Fast.tw4293464274039472736:=0
def PySem.W.Fast.tw16227891045070890085:=0
def PySem.W.Fast.tw2663853809175955500:=0
def PySem.W.Fast.tw10142013184668176473:=0
noncomputable section
namespace L2
open PySem PySem.Spec PyProof.Rows
abbrev Key:=Sum Int Str
def sC:Key->Value->Bool
 |.inl k,v=>Value.isInt k v
 |.inr x,v=>Value.isStrOf x v
def EQ(w:World):Key->Int
 |.inl k=>hashInt k
 |.inr x=>hashStr w x
theorem cS:∀{k:Key}{v:Value},sC k v=true->(∃i t,k=Sum.inl i/\v=Value.int i t)\/(∃x t,k=Sum.inr x/\v=Value.str x t)
 |.inl i,v,h=>by
  obtain⟨t,e⟩:=Value.isInt_shape (k:=i) (v:=v) h;exact .inl ⟨i,t,rfl,e⟩
 |.inr x,v,h=>by
  obtain⟨t,e⟩:=Value.isStrOf_shape (x:=x) (v:=v) h;exact .inr ⟨x,t,rfl,e⟩
theorem yz(i:Int)(t:Tok):sC (.inl i) (.int i t)=true:=by simp[sC,Value.isInt]
theorem yV(x:Str)(t:Tok):sC (.inr x) (.str x t)=true:=by simp[sC,Value.isStrOf]
theorem Dt(a b:Int):decide ((Sum.inl a:Key)=Sum.inl b)=(a == b):=by
 by_cases e:a=b
 ·subst e;simp
 ·have h:¬(Sum.inl a:Key)=Sum.inl b:=fun q=>e (Sum.inl.inj q)
  rw[decide_eq_false h];exact(beq_eq_false_iff_ne.mpr e).symm
theorem DD(a b:Str):decide ((Sum.inr a:Key)=Sum.inr b)=decide (a=b):=by
 by_cases e:a=b
 ·subst e;simp
 ·have h:¬(Sum.inr a:Key)=Sum.inr b:=fun q=>e (Sum.inr.inj q)
  rw[decide_eq_false h,decide_eq_false e]
theorem Dq(a:Int)(b:Str):decide ((Sum.inl a:Key)=Sum.inr b)=false:=decide_eq_false (fun q=>nomatch q)
theorem Da(a:Str)(b:Int):decide ((Sum.inr a:Key)=Sum.inl b)=false:=decide_eq_false (fun q=>nomatch q)
def cV(prog:Program)(w:World):PySem.KeyKind prog w Key where
 is:=sC
 hash:=EQ w
 inj:=fun v a b ha hb=>by
  rcases cS ha with ⟨i,t,rfl,rfl⟩|⟨x,t,rfl,rfl⟩
  ·rcases cS hb with ⟨j,u,rfl,e⟩|⟨y,u,rfl,e⟩
   ·injection e with e1 _;rw[e1]
   ·exact nomatch e
  ·rcases cS hb with ⟨j,u,rfl,e⟩|⟨y,u,rfl,e⟩
   ·exact nomatch e
   ·injection e with e1 _;rw[e1]
 byValue:=fun k v h=>by
  rcases cS h with ⟨i,t,rfl,rfl⟩|⟨x,t,rfl,rfl⟩<;>rfl
 pyHash:=fun hv h=>by
  rcases cS hv with ⟨i,t,rfl,rfl⟩|⟨x,t,rfl,rfl⟩
  ·exact wpAny_pyHash_int h
  ·exact wpAny_pyHash_str h
 eqBool:=fun hu hv h=>by
  rcases cS hu with ⟨i,t,rfl,rfl⟩|⟨x,t,rfl,rfl⟩
  ·rcases cS hv with ⟨j,u,rfl,rfl⟩|⟨y,u,rfl,rfl⟩
   ·rw[Dt] at h;exact wpAny_eqBool_int h
   ·rw[Dq] at h;exact SeqAt.EqAt.int_str i t y u _ _ _ _ h
  ·rcases cS hv with ⟨j,u,rfl,rfl⟩|⟨y,u,rfl,rfl⟩
   ·rw[Da] at h;exact SeqAt.EqAt.str_int x t j u _ _ _ _ h
   ·rw[DD] at h;exact wpAny_eqBool_str h
 «strs»:=fun k x t v h=>by
  rcases cS h with ⟨i,u,rfl,e⟩|⟨y,u,rfl,e⟩
  ·exact nomatch e
  ·injection e with e1 _
   subst e1;cases v<;>rfl
theorem uJ(prog:Program)(w:World)(i:Int)(t:Tok):(cV prog w).is (.inl i) (.int i t)=true:=yz i t
theorem vb(prog:Program)(w:World)(x:Str)(t:Tok):(cV prog w).is (.inr x) (.str x t)=true:=yV x t
end L2
namespace L2
open PySem PySem.Spec PyProof.Rows
inductive V where
 |D_|bl (b:Bool)|int (i:Int)|str (x:Str)|Pn (b:Array UInt8)|Po (b:UInt64)|ref (a:Addr)|ty (n:String)
 deriving DecidableEq
def RelV:V->Value->Prop
 |.D_,u=>u=Value.none
 |.bl b,u=>u=Value.bool b
 |.int i,u=>∃t,u=Value.int i t
 |.str x,u=>∃t,u=Value.str x t
 |.Pn b,u=>∃t,u=Value.bytes b t
 |.Po b,u=>∃t,u=Value.float b t
 |.ref a,u=>u=Value.ref a
 |.ty n,u=>u=Value.type n
abbrev Vals:List V->List Value->Prop:=Paired RelV
theorem Vals.length{xs:List V}{us:List Value}(r:Vals xs us):xs.length=us.length:=Paired.length r
theorem Vals.get:∀{xs:List V}{us:List Value}{i:Nat}{x:V},Vals xs us->xs[i]?=some x->∃u,us[i]?=some u/\RelV x u
 |_,_,_,_,.nil,e=>by simp at e
 |_,_,0,_,.cons r _,e=>by simp at e;subst e;exact⟨_,rfl,r⟩
 |_,_,i+1,x,.cons _ t,e=>by
  obtain⟨u,h1,h2⟩:=Vals.get (i:=i) (x:=x) t (by simpa using e);exact⟨u,by simpa using h1,h2⟩
theorem Vals.set{x:V}{u:Value}(r:RelV x u):∀{xs:List V}{us:List Value}(i:Nat),Vals xs us->Vals (xs.set i x) (us.set i u)
 |_,_,_,.nil=>.nil
 |_,_,0,.cons _ t=>.cons r t
 |_,_,i+1,.cons q t=>.cons q (Vals.set r i t)
theorem Vals.append:∀{xs ys:List V}{us ws:List Value},Vals xs us->Vals ys ws->Vals (xs++ys) (us++ws)
 |_,_,_,_,.nil,s=>s
 |_,_,_,_,.cons r t,s=>.cons r (Vals.append t s)
theorem Vals.take:∀{xs:List V}{us:List Value}(n:Nat),Vals xs us->Vals (xs.take n) (us.take n)
 |_,_,0,_=>.nil
 |_,_,_+1,.nil=>.nil
 |_,_,n+1,.cons r t=>.cons r (Vals.take n t)
theorem Vals.drop:∀{xs:List V}{us:List Value}(n:Nat),Vals xs us->Vals (xs.drop n) (us.drop n)
 |_,_,0,r=>r
 |_,_,_+1,.nil=>.nil
 |_,_,n+1,.cons _ t=>Vals.drop n t
theorem Vals.none_of:∀{xs:List V}{us:List Value}{i:Nat},Vals xs us->xs[i]?=none->us[i]?=none:=fun {xs us i} r e=>by
 have h1:=r.length;have h2:xs.length<=i:=List.getElem?_eq_none_iff.mp e;exact List.getElem?_eq_none_iff.mpr (by omega)
def Hy:Option V->Option Value->Prop
 |some v,some u=>RelV v u
 |none,none=>True
 |_,_=>False
def KV{κ:Type}:List (κ×V)->List (κ×Value)->Prop:=Paired fun(p:κ×V) (q:κ×Value)=>p.1=q.1/\RelV p.2 q.2
def kV:Key->V
 |.inl i=>.int i
 |.inr x=>.str x
inductive HO where
 |lst (xs:List V)
 |tup (xs:List V)
 |dK (kvs:List (Key×V))|dT (kvs:List (List Key×V))
 |set (S:Int->Bool) (n:Nat)
 |ins (C dx:Addr) (fs:List (Str×V))
 |own (x:Addr)
 |xd (fs:List (Str×V))
 |met (f x:Addr)
 |Qf (lo hi:Int)
 |L4 (o:Obj) (u:HO)
 |O0 (ps:Array Value)
 |ext (φ:Heap->Prop)
abbrev Hp:=Addr->Option HO
def upd(H:Hp)(a:Addr)(o:HO):Hp:=fun b=>if b=a then some o else H b
theorem bD{H:Hp}{a:Addr}{o:HO}:upd H a o a=some o:=by unfold upd;rw[if_pos rfl]
theorem bi{H:Hp}{a b:Addr}{o:HO}(h:b≠a):upd H a o b=H b:=by unfold upd;rw[if_neg h]
theorem DQ{H:Hp}{a b:Addr}{o u:HO}(h:H a=some o)(h':H b=some u)(d:o≠u):a≠b:=by
 intro e;subst e;rw[h] at h';exact d (Option.some.inj h')
theorem ba{H:Hp}{a b:Addr}{o:HO}(h:H a=some o)(h':H b=none):a≠b:=by
 intro e;subst e;rw[h] at h';cases h'
section
variable(P:Program)(w:World)
def FT(H:Hp)(h:Heap)(a:Addr):HO->Prop
 |.lst xs=>xs.length<=sizeLine/\∃(w_:List Value) (n:Nat),Vals xs w_/\h.get? a=some { cls:=.type "list",data:=.seq w_.toArray n }
 |.tup xs=>xs.length<=sizeLine/\∃w_:List Value,Vals xs w_/\IsTup h a w_.toArray
 |.dK kvs=>kvs.length<=sizeLine/\(a == sysModules)=false/\∃vs,KV kvs vs/\h.DictOf (cV P w) a vs
 |.dT kvs=>kvs.length<=sizeLine/\(a == sysModules)=false/\∃xs:List (List Key×Addr×Value),
   Paired (fun(p:List Key×V) (q:List Key×Addr×Value)=>p.1=q.1/\H q.2.1=some (.tup (p.1.map kV))/\RelV p.2 q.2.2) kvs xs/\
   ∃o es ep,h.get? a=some o/\o.ExactDict/\o.data=.dict es ep/\es.toList=xs.map (entryOfKey (tupleKind (cV P w)))/\(xs.map (·.1)).Nodup
 |.set S n=>h.SetOf (intKind P w) a S n
 |.ins C dx fs=>H dx=some (.own a)/\fs.length<=1000/\dx≠a/\h.get? a=some (PySem.W.instObj C dx)/\
   ∃mA,h.Ns1 dx mA/\(∀f,Hy (fs.lookup f) (mA f))/\PySem.Within mA (fs.map (·.1))
 |.own _=>∃o,h.get? a=some o
 |.xd fs=>∃mA,h.Ns1 a mA/\∀f,Hy (fs.lookup f) (mA f)
 |.Qf lo hi=>∃t u v,h.get? a=some { cls:=.type "range",data:=.fields #[.int lo t,.int hi u,.int 1 v] }
 |.L4 o u=>h.get? a=some o/\FT H h a u
 |.O0 ps=>h.get? a=some { cls:=.none,data:=.fields ps }
 |.met f x=>h.get? a=some (PySem.W.methodObj (.ref f) (.ref x))
 |.ext φ=>φ h/\(∃o,h.get? a=some o)/\∀h1 h2:Heap,φ h1->(∀o,h1.get? a=some o->h2.get? a=some o)->φ h2
def G6(H:Hp)(h:Heap):Prop:=∀a o,H a=some o->FT P w H h a o
end
section
variable{P:Program}{w:World}{H H':Hp}{h h':Heap}{a:Addr}{o:HO}
theorem FT.lt(x:FT P w H h a o):a<h.objs.size:=by
 cases o with
 |lst xs=>obtain⟨_,_,_,_,e⟩:=x;exact Heap.lt_size e
 |tup xs=>obtain⟨_,_,_,p⟩:=x;exact p.lt
 |dK kvs=>obtain⟨_,_,_,_,o,_,_,e,_⟩:=x;exact Heap.lt_size e
 |dT kvs=>obtain⟨_,_,_,_,o,_,_,e,_⟩:=x;exact Heap.lt_size e
 |set S n=>obtain⟨o,_,_,_,e,_⟩:=x;exact Heap.lt_size e
 |ins C dx fs=>obtain⟨_,_,_,e,_⟩:=x;exact Heap.lt_size e
 |own y=>obtain⟨_,e⟩:=x;exact Heap.lt_size e
 |xd fs=>obtain⟨_,⟨_,_,_,e,_⟩,_⟩:=x;exact Heap.lt_size e
 |Qf lo hi=>obtain⟨_,_,_,e⟩:=x;exact Heap.lt_size e
 |L4 ob u=>obtain⟨e,_⟩:=x;exact Heap.lt_size e
 |O0 ps=>exact Heap.lt_size (show h.get? a=some _ from x)
 |met f y=>exact Heap.lt_size (show h.get? a=some _ from x)
 |ext φ=>obtain⟨_,⟨_,e⟩,_⟩:=x;exact Heap.lt_size e
theorem Paired.Pp{α β:Type}{F G:α->β->Prop}:∀{QI:List α}{QJ:List β},Paired F QI QJ->(∀a b,F a b->G a b)->Paired G QI QJ
 |_,_,.nil,_=>.nil
 |_,_,.cons r t,f=>.cons (f _ _ r) (Paired.Pp t f)
theorem FT.Jd(x:FT P w H h a o)(k:∀b u,(b=a\/H b=some (.own a))->h.get? b=some u->h'.get? b=some u)
  (ho:∀b,H b=some (.own a)->H' b=some (.own a)) (ht:∀b xs,H b=some (.tup xs)->H' b=some (.tup xs)):FT P w H' h' a o:=by
 induction o with
 |lst xs=>obtain⟨z,w_,n,r,e⟩:=x;exact⟨z,w_,n,r,k _ _ (.inl rfl) e⟩
 |tup xs=>obtain⟨z,w_,r,ob,e,c⟩:=x;exact⟨z,w_,r,ob,k _ _ (.inl rfl) e,c⟩
 |dK kvs=>obtain⟨z,y,vs,r,ob,es,ep,e,c⟩:=x;exact⟨z,y,vs,r,ob,es,ep,k _ _ (.inl rfl) e,c⟩
 |dT kvs=>
  obtain⟨z,y,xs,r,ob,es,ep,e,c⟩:=x;exact⟨z,y,xs,Paired.Pp r fun p q z=>⟨z.1,ht _ _ z.2.1,z.2.2⟩,ob,es,ep,k _ _ (.inl rfl) e,c⟩
 |set S n=>obtain⟨ob,es,ep,t,e,c⟩:=x;exact⟨ob,es,ep,t,k _ _ (.inl rfl) e,c⟩
 |ins C dx fs=>
  obtain⟨d,z,ne,e,mA,⟨od,es,ep,e2,c⟩,r⟩:=x;exact⟨ho _ d,z,ne,k _ _ (.inl rfl) e,mA,⟨od,es,ep,k _ _ (.inr d) e2,c⟩,r⟩
 |own y=>obtain⟨ob,e⟩:=x;exact⟨ob,k _ _ (.inl rfl) e⟩
 |xd fs=>obtain⟨mA,⟨od,es,ep,e,c⟩,r⟩:=x;exact⟨mA,⟨od,es,ep,k _ _ (.inl rfl) e,c⟩,r⟩
 |Qf lo hi=>obtain⟨t,u,v,e⟩:=x;exact⟨t,u,v,k _ _ (.inl rfl) e⟩
 |L4 ob u ih=>obtain⟨e,q⟩:=x;exact⟨k _ _ (.inl rfl) e,ih q⟩
 |O0 ps=>
  have e:h.get? a=some { cls:=.none,data:=.fields ps }:=x;show h'.get? a=some { cls:=.none,data:=.fields ps };exact k a _ (.inl rfl) e
 |met f y=>
  have e:h.get? a=some (PySem.W.methodObj (.ref f) (.ref y)):=x;show h'.get? a=some (PySem.W.methodObj (.ref f) (.ref y));exact k a _ (.inl rfl) e
 |ext φ=>obtain⟨p,⟨o,e⟩,st⟩:=x;exact⟨st _ _ p fun o q=>k _ _ (.inl rfl) q,⟨o,k _ _ (.inl rfl) e⟩,st⟩
theorem G6.lt(x:G6 P w H h)(e:H a=some o):a<h.objs.size:=(x a o e).lt
theorem G6.fresh(x:G6 P w H h)(e:h.objs.size<=a):H a=none:=by
 cases q:H a with
 |none=>rfl
 |some u=>exact absurd (Nat.lt_of_lt_of_le (x.lt q) e) (Nat.lt_irrefl _)
theorem G6.kept(x:G6 P w H h)(k:∀b u,h.get? b=some u->h'.get? b=some u):G6 P w H h':=fun a o e=>
 (x a o e).Jd (fun b u _ q=>k b u q) (fun _ q=>q) fun _ _ q=>q
theorem G6.laid(x:G6 P w H h)(k:∀b u,h.get? b=some u->h'.get? b=some u)(hp:h.objs.size<=a)(new:FT P w (upd H a o) h' a o):G6 P w (upd H a o) h':=fun b u e=>by
 have hn:=x.fresh hp;by_cases hb:b=a
 ·subst hb;rw[bD] at e;cases e;exact new
 ·rw[bi hb] at e;exact(x b u e).Jd (fun c v _ q=>k c v q) (fun c q=>by rw[bi (ba q hn)];exact q) fun c xs q=>by rw[bi (ba q hn)];exact q
end
def Rd(H:Hp)(a:Addr)(u:HO):Prop:=H a=some u\/∃o,H a=some (.L4 o u)
theorem Rd.of{H:Hp}{a:Addr}{u:HO}(h:H a=some u):Rd H a u:=.inl h
theorem Rd.ok{P:Program}{w:World}{H:Hp}{h:Heap}{a:Addr}{u:HO}(r:Rd H a u)(x:G6 P w H h):FT P w H h a u:=by
 rcases r with r|⟨o,r⟩
 ·exact x a u r
 ·obtain⟨_,q⟩:=x a _ r;exact q
def QK:Option HO->Prop
 |some (.lst _)=>True
 |some (.dK _)=>True
 |some (.dT _)=>True
 |some (.set _ _)=>True
 |some (.ins _ _ _)=>True
 |some (.ext _)=>True
 |_=>False
section
variable{P:Program}{w:World}{H:Hp}{h h':Heap}{x e:Addr}{o':HO}
theorem G6.write(ok:G6 P w H h)(mu:QK (H x))(he:e=x\/H e=some (.own x))(k:∀b u,b≠e->h.get? b=some u->h'.get? b=some u)(Qg:∃u,h'.get? e=some u)
  (new:FT P w (upd H x o') h' x o'):G6 P w (upd H x o') h':=fun b u q=>by
 have QL:∀c y,H c=some (.own y)->c≠x:=fun c y r z=>by subst z;rw[r] at mu;exact mu
 have SO:∀c xs,H c=some (.tup xs)->c≠x:=fun c xs r z=>by subst z;rw[r] at mu;exact mu
 by_cases hb:b=x
 ·subst hb;rw[bD] at q;cases q;exact new
 ·rw[bi hb] at q;by_cases J9:b=e
  ·have q':H b=some (.own x):=by
    rcases he with z|z
    ·exact absurd (J9.trans z) hb
    ·rw[J9];exact z
   rw[q] at q';cases q';obtain⟨v,hv⟩:=Qg;exact⟨v,by rw[J9];exact hv⟩
  ·refine(ok b u q).Jd (fun c v hc r=>k c v ?_ r) (fun c r=>by rw[bi (QL c b r)];exact r) fun c xs r=>by rw[bi (SO c xs r)];exact r
   rcases hc with rfl|hc
   ·exact J9
   ·rintro rfl;rcases he with z|z
    ·exact QL c b hc z
    ·rw[hc] at z;cases z;exact hb rfl
end
structure Un(fs ex:List Addr)(H H':Hp)(h h':Heap):Prop where
 keep:∀b o,h.get? b=some o->H b=none->b∉fs->b∉ex->h'.get? b=some o
 slot:∀b o,h.get? b=some o->H b=none->b∈fs->b∉ex->∃sl,h'.get? b=some { o with slots:=sl }
 free:∀b o,h.get? b=some o->H b=none->b∉ex->H' b=none
 there:∀b o,h.get? b=some o->b∉ex->∃o',h'.get? b=some o'
 Iu:∀b xs,H b=some (.tup xs)->H' b=some (.tup xs)
 Ih:∀b o u,H b=some (.L4 o u)->H' b=some (.L4 o u)
 Iw:∀b ps,H b=some (.O0 ps)->∃more,H' b=some (.O0 (ps++more))
section
variable{fs SQ ex Wh:List Addr}{H H1 H2:Hp}{h h1 h2 h':Heap}{a x e:Addr}{o:HO}
theorem Un.any(u:Un fs ex H H1 h h1){b:Addr}{ob:Obj}(q:h.get? b=some ob)(n:H b=none)(hx:b∉ex):∃sl,h1.get? b=some { ob with slots:=sl }:=by
 by_cases hb:b∈fs
 ·exact u.slot b ob q n hb hx
 ·exact⟨ob.slots,u.keep b ob q n hb hx⟩
theorem Un.trans(a:Un fs ex H H1 h h1)(b:Un fs ex H1 H2 h1 h2):Un fs ex H H2 h h2 where
 keep:=fun c ob q n hc hx=>b.keep c ob (a.keep c ob q n hc hx) (a.free c ob q n hx) hc hx
 slot:=fun c ob q n hc hx=>by
  obtain⟨sl,e1⟩:=a.slot c ob q n hc hx;obtain⟨SR,e2⟩:=b.slot c _ e1 (a.free c ob q n hx) hc hx;exact⟨SR,e2⟩
 free:=fun c ob q n hx=>by
  obtain⟨o',e1⟩:=a.there c ob q hx;exact b.free c o' e1 (a.free c ob q n hx) hx
 there:=fun c ob q hx=>by
  obtain⟨o',e1⟩:=a.there c ob q hx;exact b.there c o' e1 hx
 Iu:=fun c xs q=>b.Iu c xs (a.Iu c xs q)
 Ih:=fun c ob xs q=>b.Ih c ob xs (a.Ih c ob xs q)
 Iw:=fun c ps q=>by
  obtain⟨m1,e1⟩:=a.Iw c ps q;obtain⟨m2,e2⟩:=b.Iw c _ e1;exact⟨m1++m2,by rw[e2,Array.append_assoc]⟩
theorem Un.kept(k:∀b u,h.get? b=some u->h'.get? b=some u):Un fs ex H H h h':=
 ⟨fun b ob q _ _ _=>k b ob q,fun b ob q _ _ _=>⟨ob.slots,k b ob q⟩,fun _ _ _ n _=>n,fun b ob q _=>⟨ob,k b ob q⟩,fun _ _ q=>q,fun _ _ _ q=>q,fun _ ps q=>⟨#[],by rw[q];simp⟩⟩
theorem Un.refl:Un fs ex H H h h:=Un.kept fun _ _ q=>q
theorem Un.laid(k:∀b u,h.get? b=some u->h'.get? b=some u)(hp:h.objs.size<=a)(hn:H a=none):Un fs ex H (upd H a o) h h' where
 keep:=fun b u q _ _ _=>k b u q
 slot:=fun b u q _ _ _=>⟨u.slots,k b u q⟩
 free:=fun b u q n _=>by rw[bi (Nat.ne_of_lt (Nat.lt_of_lt_of_le (Heap.lt_size q) hp))];exact n
 there:=fun b u q _=>⟨u,k b u q⟩
 Iu:=fun b xs q=>by rw[bi (ba q hn)];exact q
 Ih:=fun b u xs q=>by rw[bi (ba q hn)];exact q
 Iw:=fun b ps q=>⟨#[],by rw[bi (ba q hn),q];simp⟩
theorem Un.write(mu:QK (H x))(he:e=x\/H e=some (.own x))(k:∀b u,b≠e->h.get? b=some u->h'.get? b=some u)(Qg:∃u,h'.get? e=some u):Un fs ex H (upd H x o) h h':=by
 have hx:∀b,H b=none->b≠x:=fun b n z=>by subst z;rw[n] at mu;exact mu
 have hb:∀b,H b=none->b≠e:=fun b n z=>by
  subst z;rcases he with r|r
  ·exact hx b n r
  ·rw[n] at r;cases r
 have hm:∀b u,H b=some u->¬QK (some u)->b≠x:=fun b u q nm z=>by subst z;rw[q] at mu;exact nm mu
 refine⟨fun b u q n _ _=>k b u (hb b n) q,fun b u q n _ _=>⟨u.slots,k b u (hb b n) q⟩,fun b u q n _=>by rw[bi (hx b n)];exact n,fun b u q _=>?_,
  fun b xs q=>by rw[bi (hm b _ q fun z=>z)];exact q,fun b u xs q=>by rw[bi (hm b _ q fun z=>z)];exact q,fun b ps q=>⟨#[],by rw[bi (hm b _ q fun z=>z),q];simp⟩⟩
 by_cases J9:b=e
 ·subst J9;exact Qg
 ·exact⟨u,k b u J9 q⟩
theorem Un.mono(u:Un fs ex H H1 h h1)(hs:∀b∈fs,b∈SQ)(hx:∀b∈ex,b∈Wh):Un SQ Wh H H1 h h1:=
 ⟨fun b ob q n hb he=>u.keep b ob q n (fun z=>hb (hs b z)) fun z=>he (hx b z),fun _ _ q n _ he=>u.any q n fun z=>he (hx _ z),fun b ob q n he=>u.free b ob q n fun z=>he (hx b z),fun b ob q he=>u.there b ob q fun z=>he (hx b z),u.Iu,u.Ih,u.Iw⟩
end
def RX(h:Heap)(H:Hp):List Addr:=(List.range h.objs.size).filter fun a=>(H a).isSome
def tT(h:Heap)(H:Hp):Heap:=PySem.W.hideAll h (RX h H)
theorem yU(h:Heap)(H:Hp):(tT h H).objs.size=h.objs.size:=PySem.W.hideAll_size _ _
theorem y3{h:Heap}{H:Hp}{b:Addr}{o:Obj}(e:h.get? b=some o)(n:H b=none):(tT h H).get? b=some o:=
 PySem.W.hideAll_get _ e fun hm=>by
  have q:(H b).isSome=true:=(List.mem_filter.mp hm).2;rw[n] at q;simp at q
theorem AI{h:Heap}{H:Hp}{b:Addr}{o:Obj}(e:(tT h H).get? b=some o):h.get? b=some o/\H b=none:=by
 have e':h.get? b=some o:=PySem.W.of_hideAll (RX h H) e;refine⟨e',?_⟩;cases q:H b with
 |none=>rfl
 |some x=>
  have hm:b∈RX h H:=List.mem_filter.mpr ⟨List.mem_range.mpr (Heap.lt_size e'),by simp[q]⟩;have z:(tT h H).get? b=none:=PySem.W.hideAll_none (RX h H) hm;rw[z] at e;cases e
def B4(g h:Heap)(L:Addr):List (Addr×Obj):=(List.range h.objs.size).filterMap fun a=>if a=L\/(g.get? a).isSome=true then none else (h.get? a).map fun o=>(a,o)
def rest(g h:Heap)(L d:Addr):List (Addr×Obj):=(B4 g h L).filter fun p=>decide (p.1≠d)
end L2
namespace L2
open PySem PySem.Spec PyProof.Rows
structure Mod(K:PySem.W.Frag)(mg:Str->Option Value)(base:Heap):Prop where
 Qh:K.In base
 glob:base.Ns mainGlobals mg
 blt:∃mb,base.Ns builtinsNs mb/\∀x:Str,x≠"__name__"->mb x=bootBuiltins x
 nolimit:base.NoLimit
structure Cx where
 prog:Program
 w:World
 K:PySem.W.Frag
 mg:Str->Option Value
 base:Heap
 A:Around
 N:List Str
 G1:Shared
 Nd:Hp
 env:Env
 outer:List Env
 stack:List Env
 ex:List Addr
 fn:Str->Bool
 calm:Bool
 pn:List (Addr×Obj)
 xe:Value->Shared->Prop
def LX(l:List Env):List Addr:=l.filterMap (·.frame)
abbrev Cx.fs(X:Cx):List Addr:=LX X.outer
def SS(sc:Scope)(x:Str):Prop:=sc.names.lookup x=some .local\/sc.names.lookup x=some .cell\/sc.names.lookup x=some .free
def Loc(sc:Scope)(x:Str):Prop:=sc.names.lookup x=some .local\/sc.names.lookup x=some .cell
def Look(env:Env)(h:Heap)(m:Str->Option Value)(x:Str)(u:Value):Prop:=
 (env.kindOf x=some .local/\m x=some u)\/((env.kindOf x=some .cell\/env.kindOf x=some .free)/\∃c,env.cells.lookup x=some c/\h.IsCell c (some u))
structure Cx.Ok(X:Cx):Prop where
 mod:Mod X.K X.mg X.base
 kind:X.env.scope.kind=.function
 glob:X.env.globals=mainGlobals
 blt:X.env.builtins=builtinsNs
 above:X.G1.heap.objs.size<=X.env.locals
 inj:∀x y c,X.env.cells.lookup x=some c->X.env.cells.lookup y=some c->x=y
 has:∀x,(X.env.kindOf x=some .cell\/X.env.kindOf x=some .free)->∃c,X.env.cells.lookup x=some c
 Qi:∀x c,X.fn x=true->X.env.cells.lookup x=some c->X.G1.heap.objs.size<=c
 hd:X.calm=true->X.A.handled=none
 frames:X.A.frames=some X.stack
 QM:X.stack=X.outer\/(X.stack=X.env :: X.outer/\X.env.frame=some X.env.locals)
 SU:∀b∈X.ex,b≠X.env.locals/\∀x c,X.env.cells.lookup x=some c->c≠b
 bs:∀b o,X.base.get? b=some o->X.G1.heap.get? b=some o/\X.Nd b=none
 M5:X.base.objs.size<=X.G1.heap.objs.size
 MM:∀b o,X.base.get? b=some o->b∉X.ex
 Nf:∀b∈X.ex,b∉X.fs
 IK:X.G1.heap.FunFrames X.base X.outer
 Ob:∀b∈X.fs,X.Nd b=none
structure Inv(X:Cx)(pins:List (Addr×Obj))(σ:List (Option V))(H:Hp)(s:Shared):Prop where
 ok:X.Ok
 os:s.os=X.G1.os
 bare:AllBare s.gens
 base:Un X.fs X.ex X.Nd H X.G1.heap s.heap
 loc:∃m,s.heap.Ns X.env.locals m/\∀(i:Nat) (x:Str) (v:V),X.N[i]?=some x->σ[i]?=some (some v)->SS X.env.scope x->∃u,RelV v u/\Look X.env s.heap m x u
 cell:∀x c,X.env.cells.lookup x=some c->∃v,s.heap.IsCell c v
 free:H X.env.locals=none
 HE:∀x c,X.env.cells.lookup x=some c->H c=none
 pin:∀p∈X.pn++pins,s.heap.get? p.1=some p.2/\H p.1=none/\p.1≠X.env.locals/\p.1∉X.fs/\∀v,p.2.data≠.cell v
 Fn:G6 X.prog X.w H s.heap
 len:σ.length=X.N.length
section
variable{X:Cx}{pins:List (Addr×Obj)}{σ:List (Option V)}{H H':Hp}{s:Shared}{h':Heap}
theorem Cx.Ok.SV(ok:X.Ok){b:Addr}{o:Obj}(e:X.base.get? b=some o):b∉X.fs:=fun hb=>by
 have:=(ok.IK.mem hb).1;rw[e] at this;cases this
theorem Inv.bs(I:Inv X pins σ H s):∀b o,X.base.get? b=some o->s.heap.get? b=some o/\H b=none:=fun b o e=>
 ⟨I.base.keep b o (I.ok.bs b o e).1 (I.ok.bs b o e).2 (I.ok.SV e) (I.ok.MM b o e),I.base.free b o (I.ok.bs b o e).1 (I.ok.bs b o e).2 (I.ok.MM b o e)⟩
theorem Inv.bk(I:Inv X pins σ H s):∀b o,X.base.get? b=some o->s.heap.get? b=some o:=fun b o e=>(I.bs b o e).1
theorem Inv.mod(I:Inv X pins σ H s):Mod X.K X.mg X.base:=I.ok.mod
theorem Inv.Jy(I:Inv X pins σ H s):X.K.In s.heap:=I.ok.mod.Qh.keeps I.bk
theorem Inv.nolimit(I:Inv X pins σ H s):s.heap.NoLimit:=I.ok.mod.nolimit.keeps I.bk
theorem Inv.fr(I:Inv X pins σ H s):∃m,Fr X.base X.env.locals s.heap m:=
 let ⟨m,hn,_⟩:=I.loc
 ⟨m,hn,I.bk,Nat.le_trans I.ok.M5 I.ok.above⟩
theorem Inv.lt(I:Inv X pins σ H s):X.env.locals<s.heap.objs.size:=let ⟨_,hn,_⟩:=I.loc;hn.lt
theorem Inv.sz(I:Inv X pins σ H s):X.G1.heap.objs.size<=s.heap.objs.size:=Nat.le_trans I.ok.above (Nat.le_of_lt I.lt)
theorem Inv.SW(I:Inv X pins σ H s){a:Addr}(h:s.heap.objs.size<=a):a∉X.fs:=fun hb=>by
 obtain⟨_,o,ho,_⟩:=I.ok.IK.mem hb;exact absurd (Nat.lt_of_lt_of_le (Heap.lt_size ho) (Nat.le_trans I.sz h)) (Nat.lt_irrefl _)
theorem Inv.Pq(I:Inv X pins σ H s):∀x c,X.env.cells.lookup x=some c->c≠X.env.locals:=fun x c e z=>by
 obtain⟨v,o,ho,hd⟩:=I.cell x c e;obtain⟨m,⟨o',es,ep,L5,J_,_⟩,_⟩:=I.loc;rw[z,L5] at ho;cases ho;rw[J_] at hd;cases hd
theorem Inv.IK(I:Inv X pins σ H s):s.heap.FunFrames X.base X.outer:=by
 have all:∀(l:List Env),(∀b∈LX l,b∈X.fs)->X.G1.heap.FunFrames X.base l->s.heap.FunFrames X.base l:=by
  intro l
  induction l with
  |nil=>intro _ _;trivial
  |cons env r ih=>
   intro hs hl;obtain⟨hk,⟨L,o,hf,hn,ho,hd⟩,hr⟩:=hl;have hL:L∈X.fs:=hs L (by unfold LX;rw[List.filterMap_cons,hf];exact List.mem_cons_self);obtain⟨sl,e⟩:=I.base.slot L o ho (I.ok.Ob L hL) hL fun z=>I.ok.Nf L z hL
   exact⟨hk,⟨L,_,hf,hn,e,hd⟩,ih (fun b hb=>hs b (by unfold LX;rw[List.filterMap_cons,hf];exact List.mem_cons_of_mem _ hb)) hr⟩
 exact all X.outer (fun _ hb=>hb) I.ok.IK
theorem Inv.stack(I:Inv X pins σ H s):s.heap.FunFrames X.base X.stack:=by
 rcases I.ok.QM with e|⟨e,hf⟩
 ·rw[e];exact I.IK
 ·rw[e];obtain⟨m,hn,_⟩:=I.loc;refine .cons (by rw[I.ok.kind];decide) hf hn ?_ I.IK;exact Heap.get?_none_of_le (Nat.le_trans I.ok.M5 I.ok.above)
theorem Inv.KR(I:Inv X pins σ H s):∀b∈LX X.stack,b∈X.env.locals :: X.fs:=fun b hb=>by
 rcases I.ok.QM with e|⟨e,hf⟩
 ·rw[e] at hb;exact List.mem_cons_of_mem _ hb
 ·rw[e] at hb;unfold LX at hb;rw[List.filterMap_cons,hf] at hb;exact hb
theorem Inv.KS(I:Inv X pins σ H s):∀b∈LX X.stack,H b=none:=fun b hb=>by
 rcases List.mem_cons.mp (I.KR b hb) with e|hb
 ·rw[e];exact I.free
 ·obtain⟨_,o,ho,_⟩:=I.ok.IK.mem hb;exact I.base.free b o ho (I.ok.Ob b hb) fun z=>I.ok.Nf b z hb
theorem Inv.step{g':Array GenState}{t':Nat}{d':Drawn}{ch:List Addr}(I:Inv X pins σ H s)
  (M6:∀b∈ch,(b∈X.ex\/X.G1.heap.objs.size<=b)/\b≠X.env.locals/\(∀x c,X.env.cells.lookup x=some c->c≠b)/\∀p∈X.pn++pins,p.1≠b)
  (keep:∀b o,b≠X.env.locals->b∉X.fs->b∉ch->s.heap.get? b=some o->H b=none->h'.get? b=some o)
  (slot:∀b o,b≠X.env.locals->b∈X.fs->b∉ch->s.heap.get? b=some o->H b=none->∃sl,h'.get? b=some { o with slots:=sl }) (free:∀b o,b∉ch->s.heap.get? b=some o->H b=none->H' b=none)
  (there:∀b o,b∉ch->s.heap.get? b=some o->∃o',h'.get? b=some o')
  (Iu:∀b xs,H b=some (.tup xs)->H' b=some (.tup xs)) (Ih:∀b o u,H b=some (.L4 o u)->H' b=some (.L4 o u)) (Iw:∀b ps,H b=some (.O0 ps)->∃more,H' b=some (.O0 (ps++more)))
  (ns:∀m,s.heap.Ns X.env.locals m->h'.Ns X.env.locals m) (Fn:G6 X.prog X.w H' h') (hg:AllBare g') :
  Inv X pins σ H' { s with heap:=h',gens:=g',drawn:=d',toks:=t' }:=by
 have Wi:∀b o,X.G1.heap.get? b=some o->b≠X.env.locals:=fun b o e=>Nat.ne_of_lt (Nat.lt_of_lt_of_le (Heap.lt_size e) I.ok.above)
 have RY:∀b o,X.G1.heap.get? b=some o->b∉X.ex->b∉ch:=fun b o e hx hb=>by
  rcases (M6 b hb).1 with z|z
  ·exact hx z
  ·exact absurd (Nat.lt_of_lt_of_le (Heap.lt_size e) z) (Nat.lt_irrefl _)
 have cellK:∀x c,X.env.cells.lookup x=some c->∀v,s.heap.IsCell c v->h'.IsCell c v:=fun x c e v ⟨o,ho,hd⟩=>by
  have QN:c∉ch:=fun z=>(M6 c z).2.2.1 x c e rfl
  by_cases hc:c∈X.fs
  ·obtain⟨sl,q⟩:=slot c o (I.Pq x c e) hc QN ho (I.HE x c e);exact⟨_,q,hd⟩
  ·exact⟨o,keep c o (I.Pq x c e) hc QN ho (I.HE x c e),hd⟩
 refine⟨I.ok,I.os,hg,⟨fun b o e n hb hx=>?_,fun b o e n hb hx=>?_,fun b o e n hx=>?_,fun b o e hx=>?_,fun b xs e=>Iu b xs (I.base.Iu b xs e),fun b o xs e=>Ih b o xs (I.base.Ih b o xs e),fun b ps e=>?_⟩,?_,fun x c e=>?_,?_,fun x c e=>?_,fun p hp=>?_,Fn,I.len⟩
 ·exact keep b o (Wi b o e) hb (RY b o e hx) (I.base.keep b o e n hb hx) (I.base.free b o e n hx)
 ·obtain⟨sl,e1⟩:=I.base.slot b o e n hb hx;obtain⟨SR,e2⟩:=slot b _ (Wi b o e) hb (RY b o e hx) e1 (I.base.free b o e n hx);exact⟨SR,e2⟩
 ·obtain⟨o',e1⟩:=I.base.there b o e hx;exact free b o' (RY b o e hx) e1 (I.base.free b o e n hx)
 ·obtain⟨o',e1⟩:=I.base.there b o e hx;exact there b o' (RY b o e hx) e1
 ·obtain⟨m1,e1⟩:=I.base.Iw b ps e;obtain⟨m2,e2⟩:=Iw b _ e1;exact⟨m1++m2,by rw[e2,Array.append_assoc]⟩
 ·obtain⟨m,hn,hl⟩:=I.loc;refine⟨m,ns m hn,fun i x v e1 e2 e3=>?_⟩;obtain⟨u,r,l⟩:=hl i x v e1 e2 e3;refine⟨u,r,?_⟩;rcases l with l|⟨k,c,e,z⟩
  ·exact .inl l
  ·exact .inr ⟨k,c,e,cellK x c e _ z⟩
 ·obtain⟨v,z⟩:=I.cell x c e;exact⟨v,cellK x c e v z⟩
 ·obtain⟨m,⟨o,_,_,ho,_⟩,_⟩:=I.loc;exact free _ o (fun z=>(M6 _ z).2.1 rfl) ho I.free
 ·obtain⟨v,o,ho,hd⟩:=I.cell x c e;exact free c o (fun z=>(M6 c z).2.2.1 x c e rfl) ho (I.HE x c e)
 ·obtain⟨e,n,ne,nf,d⟩:=I.pin p hp;have QN:p.1∉ch:=fun z=>(M6 p.1 z).2.2.2 p hp rfl
  exact⟨keep p.1 p.2 ne nf QN e n,free p.1 p.2 QN e n,ne,nf,d⟩
theorem Inv.un{t':Nat}(I:Inv X pins σ H s)(u:Un X.fs [] H H' s.heap h')(Fn:G6 X.prog X.w H' h'):Inv X pins σ H' { s with heap:=h',toks:=t' }:=by
 obtain⟨m,⟨o,es,ep,ho,r⟩,_⟩:=id I.loc;obtain⟨sl,hL⟩:=u.any ho I.free (by simp);exact I.step (g':=s.gens) (d':=s.drawn) (ch:=[]) (fun _ z=>nomatch z) (fun b o _ hb _ e n=>u.keep b o e n hb (by simp)) (fun b o _ hb _ e n=>u.slot b o e n hb (by simp)) (fun b o _ e n=>u.free b o e n (by simp)) (fun b o _ e=>u.there b o e (by simp)) u.Iu u.Ih u.Iw (fun m' hm=>by
  obtain⟨o',SX,SY,L5,r'⟩:=hm;rw[ho] at L5;cases L5;exact⟨_,SX,SY,hL,r'⟩) Fn I.bare
theorem Inv.call{g':Array GenState}{t':Nat}{d':Drawn}{ch:List Addr}(I:Inv X pins σ H s)(u:Un (LX X.stack) ch H H' s.heap h')(Fn:G6 X.prog X.w H' h')(hg:AllBare g')
  (M6:∀b∈ch,(b∈X.ex\/X.G1.heap.objs.size<=b)/\b≠X.env.locals/\(∀x c,X.env.cells.lookup x=some c->c≠b)/\∀p∈X.pn++pins,p.1≠b) :
  Inv X pins σ H' { s with heap:=h',gens:=g',drawn:=d',toks:=t' }:=by
 obtain⟨m,⟨o,es,ep,ho,r⟩,_⟩:=id I.loc;obtain⟨sl,hL⟩:=u.any ho I.free fun z=>(M6 _ z).2.1 rfl
 exact I.step (ch:=ch) M6 (fun b o hL hb hc e n=>u.keep b o e n (fun z=>(List.mem_cons.mp (I.KR b z)).elim hL hb) hc) (fun b o _ _ hc e n=>u.any e n hc) (fun b o hc e n=>u.free b o e n hc) (fun b o hc e=>u.there b o e hc) u.Iu u.Ih u.Iw (fun m' hm=>by
  obtain⟨o',SX,SY,L5,r'⟩:=hm;rw[ho] at L5;cases L5;exact⟨_,SX,SY,hL,r'⟩) Fn hg
theorem Inv.turned{t':Nat}{it:Addr}(I:Inv X pins σ H s)(k:∀b o,b≠it->s.heap.get? b=some o->h'.get? b=some o)(hn:H it=none)(hL:it≠X.env.locals)
  (h1:it∈X.ex\/X.G1.heap.objs.size<=it) (h2:∀x c,X.env.cells.lookup x=some c->c≠it) (h3:∀p∈X.pn++pins,p.1≠it):Inv X pins σ H { s with heap:=h',toks:=t' }:=by
 have Wj:∀b u,H b=some u->b≠it:=fun b u e z=>by rw[z,hn] at e;cases e
 refine I.step (g':=s.gens) (d':=s.drawn) (ch:=[it]) (fun b hb=>?_) (fun b o _ _ hc e _=>k b o (fun z=>hc (by simp[z])) e) (fun b o _ _ hc e _=>⟨o.slots,k b o (fun z=>hc (by simp[z])) e⟩) (fun _ _ _ _ n=>n)
  (fun b o hc e=>⟨o,k b o (fun z=>hc (by simp[z])) e⟩) (fun _ _ e=>e) (fun _ _ _ e=>e) (fun b ps e=>⟨#[],by rw[e];simp⟩) (fun m hm=>?_) (fun b u e=>?_) I.bare
 ·have e:b=it:=by simpa using hb
  subst e;exact⟨h1,hL,h2,h3⟩
 ·obtain⟨o,es,ep,ho,r⟩:=hm;exact⟨o,es,ep,k _ o (Ne.symm hL) ho,r⟩
 ·refine(I.Fn b u e).Jd (fun c v hc q=>k c v ?_ q) (fun _ q=>q) fun _ _ q=>q
  rcases hc with z|z
  ·rw[z];exact Wj b u e
  ·exact Wj c _ z
theorem Inv.tok(I:Inv X pins σ H s)(t:Nat):Inv X pins σ H { s with toks:=t }:=I.un (h':=s.heap) (t':=t) Un.refl I.Fn
theorem Inv.kept{t':Nat}(I:Inv X pins σ H s)(k:∀b u,s.heap.get? b=some u->h'.get? b=some u):Inv X pins σ H { s with heap:=h',toks:=t' }:=I.un (Un.kept k) (I.Fn.kept k)
theorem Inv.laid{a:Addr}{o:HO}{t':Nat}(I:Inv X pins σ H s)(k:∀b u,s.heap.get? b=some u->h'.get? b=some u)(hp:s.heap.objs.size<=a)(new:FT X.prog X.w (upd H a o) h' a o) :
  Inv X pins σ (upd H a o) { s with heap:=h',toks:=t' }:=I.un (Un.laid k hp (I.Fn.fresh hp)) (I.Fn.laid k hp new)
theorem Inv.write{x e:Addr}{o:HO}{t':Nat}(I:Inv X pins σ H s)(mu:QK (H x))(he:e=x\/H e=some (.own x))(k:∀b u,b≠e->s.heap.get? b=some u->h'.get? b=some u)(Qg:∃u,h'.get? e=some u)
  (new:FT X.prog X.w (upd H x o) h' x o):Inv X pins σ (upd H x o) { s with heap:=h',toks:=t' }:=I.un (Un.write mu he k Qg) (I.Fn.write mu he k Qg new)
theorem Inv.KU{O1:List (Addr×Obj)}(I:Inv X pins σ H s)(h:∀p∈O1,s.heap.get? p.1=some p.2/\H p.1=none/\p.1≠X.env.locals/\p.1∉X.fs/\∀v,p.2.data≠.cell v):Inv X O1 σ H s:=
 ⟨I.ok,I.os,I.bare,I.base,I.loc,I.cell,I.free,I.HE,fun p hp=>(List.mem_append.mp hp).elim (fun z=>I.pin p (List.mem_append_left _ z)) (h p),I.Fn,I.len⟩
theorem uL{N:List Str}(hN:N.Nodup){i j:Nat}{x:Str}(a:N[i]?=some x)(b:N[j]?=some x):i=j:=by
 obtain⟨h1,e1⟩:=List.getElem?_eq_some_iff.mp a;obtain⟨h2,e2⟩:=List.getElem?_eq_some_iff.mp b;exact(List.getElem_inj hN).mp (e1.trans e2.symm)
theorem sK{M:Model}{A:Around}{E:Value->Shared->Prop}{i:Nat}{x:Str}{v:V}{u:Value}{Q:Unit->Shared->Prop}(I:Inv X pins σ H s)(hN:X.N.Nodup)(hi:X.N[i]?=some x)(hx:Loc X.env.scope x)(r:RelV v u)
  (h:∀s',Inv X pins (σ.set i (some v)) H s'->(∃a,Heap.SameBut a s.heap s'.heap/\(a=X.env.locals\/X.env.cells.lookup x=some a))->Q () s') (hf:X.fn x=true\/X.env.scope.names.lookup x=some .local:=by first|exact .inl rfl|exact .inr rfl|assumption):wpAny M A (storeName X.env x u) Q E s:=by
 obtain⟨m,hn,hl⟩:=id I.loc;have IL:(X.env.scope.kind == .class || (X.env.scope.kind == .module && X.env.locals != X.env.globals))=false:=by rw[I.ok.kind];rfl
 have QO:i<σ.length:=by rw[I.len];exact(List.getElem?_eq_some_iff.mp hi).1
 have Pq:=I.Pq;have tracked:∀{a:Addr}{h':Heap},(∃o,s.heap.get? a=some o/\H a=none)->Heap.SameBut a s.heap h'->G6 X.prog X.w H h':=fun {a h'} ha hs b ob e=>by
  obtain⟨_,_,Mu⟩:=ha;refine(I.Fn b ob e).Jd (fun c w' hc q=>(hs.2 c ?_).trans q) (fun _ q=>q) fun _ _ q=>q
  rintro rfl;rcases hc with rfl|hc
  ·rw[Mu] at e;cases e
  ·rw[Mu] at hc;cases hc
 rcases hx with hk|hk
 ·refine wpAny_storeName_local hk hn (fun h' RZ hs=>?_) IL;obtain⟨oL,_,_,X3,_⟩:=id hn;refine h _ ⟨I.ok,I.os,I.bare,⟨fun b o e n hb hx=>?_,fun b o e n hb hx=>?_,I.base.free,fun b o e hx=>?_,I.base.Iu,I.base.Ih,I.base.Iw⟩,⟨_,RZ,fun j y v' e1 e2 e3=>?_⟩,fun y c e=>?_,I.free,I.HE,fun p hp=>?_,tracked ⟨oL,X3,I.free⟩ hs,by simpa using I.len⟩ ⟨_,hs,.inl rfl⟩
  ·exact(hs.2 b (Nat.ne_of_lt (Nat.lt_of_lt_of_le (Heap.lt_size e) I.ok.above))).trans (I.base.keep b o e n hb hx)
  ·obtain⟨sl,e1⟩:=I.base.slot b o e n hb hx;exact⟨sl,(hs.2 b (Nat.ne_of_lt (Nat.lt_of_lt_of_le (Heap.lt_size e) I.ok.above))).trans e1⟩
  ·obtain⟨o',e1⟩:=I.base.there b o e hx;exact⟨o',(hs.2 b (Nat.ne_of_lt (Nat.lt_of_lt_of_le (Heap.lt_size e) I.ok.above))).trans e1⟩
  ·by_cases hj:j=i
   ·subst hj;rw[hi] at e1;cases e1;rw[List.getElem?_set_self QO] at e2;cases e2;exact⟨u,r,.inl ⟨hk,by simp⟩⟩
   ·rw[List.getElem?_set_ne (Ne.symm hj)] at e2;obtain⟨u',r',q⟩:=hl j y v' e1 e2 e3;refine⟨u',r',?_⟩;rcases q with ⟨k,e⟩|⟨k,c,e,z⟩
    ·refine .inl ⟨k,?_⟩;have:y≠x:=fun e=>hj (uL hN e1 (e ▸ hi))
     simp[this,e]
    ·exact .inr ⟨k,c,e,z.sameBut hs (Pq y c e)⟩
  ·obtain⟨w',z⟩:=I.cell y c e;exact⟨w',z.sameBut hs (Pq y c e)⟩
  ·obtain⟨e,n,ne,nf,d⟩:=I.pin p hp;exact⟨(hs.2 p.1 ne).trans e,n,ne,nf,d⟩
 ·have S8:X.fn x=true:=by
   rcases hf with z|z
   ·exact z
   ·rw[z] at hk;cases hk
  obtain⟨c,hc⟩:=I.ok.has x (.inl hk);obtain⟨w',z⟩:=I.cell x c hc;refine wpAny_storeName_cell I.ok.kind hk hc z (fun h' QP hs=>?_);obtain⟨oc,Wl,S9⟩:=id z;refine h { s with heap:=h' } ⟨I.ok,I.os,I.bare,⟨fun b o e n hb hx=>?_,fun b o e n hb hx=>?_,I.base.free,fun b o e hx=>?_,I.base.Iu,I.base.Ih,I.base.Iw⟩,⟨m,hn.sameBut hs (Ne.symm (Pq x c hc)),fun j y v' e1 e2 e3=>?_⟩,fun y c' e=>?_,I.free,I.HE,fun p hp=>?_,tracked ⟨oc,Wl,I.HE x c hc⟩ hs,by simpa using I.len⟩ ⟨c,hs,.inr hc⟩
  ·exact(hs.2 b (Nat.ne_of_lt (Nat.lt_of_lt_of_le (Heap.lt_size e) (I.ok.Qi x c S8 hc)))).trans (I.base.keep b o e n hb hx)
  ·obtain⟨sl,e1⟩:=I.base.slot b o e n hb hx;exact⟨sl,(hs.2 b (Nat.ne_of_lt (Nat.lt_of_lt_of_le (Heap.lt_size e) (I.ok.Qi x c S8 hc)))).trans e1⟩
  ·obtain⟨o',e1⟩:=I.base.there b o e hx;exact⟨o',(hs.2 b (Nat.ne_of_lt (Nat.lt_of_lt_of_le (Heap.lt_size e) (I.ok.Qi x c S8 hc)))).trans e1⟩
  ·by_cases hj:j=i
   ·subst hj;rw[hi] at e1;cases e1;rw[List.getElem?_set_self QO] at e2;cases e2;exact⟨u,r,.inr ⟨.inl hk,c,hc,QP⟩⟩
   ·rw[List.getElem?_set_ne (Ne.symm hj)] at e2;obtain⟨u',r',q⟩:=hl j y v' e1 e2 e3;refine⟨u',r',?_⟩;rcases q with q|⟨k,c',e,z'⟩
    ·exact .inl q
    ·refine .inr ⟨k,c',e,z'.sameBut hs ?_⟩;rintro rfl;exact hj (uL hN e1 (I.ok.inj _ _ _ e hc ▸ hi))
  ·by_cases Wm:c'=c
   ·subst Wm;exact⟨_,QP⟩
   ·obtain⟨w2,z2⟩:=I.cell y c' e;exact⟨w2,z2.sameBut hs Wm⟩
  ·obtain⟨e,n,ne,nf,d⟩:=I.pin p hp;refine⟨(hs.2 p.1 ?_).trans e,n,ne,nf,d⟩;intro q;rw[q,Wl] at e;have q':oc=p.2:=Option.some.inj e;exact d w' (by rw[<-q'];exact S9)
theorem vc{M:Model}{A:Around}{E:Value->Shared->Prop}{i:Nat}{x:Str}{v:V}{u:Value}{Q:Unit->Shared->Prop}(I:Inv X pins σ H s)(hN:X.N.Nodup)(hi:X.N[i]?=some x)(hx:Loc X.env.scope x)(r:RelV v u)
  (h:∀s',Inv X pins (σ.set i (some v)) H s'->Q () s') (hf:X.fn x=true\/X.env.scope.names.lookup x=some .local:=by first|exact .inl rfl|exact .inr rfl|assumption):wpAny M A (storeName X.env x u) Q E s:=
 sK I hN hi hx r (fun s' I' _=>h s' I') hf
theorem Inv.O2{s':Shared}{ch:List Addr}(I:Inv X pins σ H s)(ho:s'.os=s.os)(u:Un (LX X.stack) ch H H' s.heap s'.heap)(Fn:G6 X.prog X.w H' s'.heap)(hg:AllBare s'.gens)
  (M6:∀b∈ch,(b∈X.ex\/X.G1.heap.objs.size<=b)/\b≠X.env.locals/\(∀x c,X.env.cells.lookup x=some c->c≠b)/\∀p∈X.pn++pins,p.1≠b):Inv X pins σ H' s':=by
 obtain⟨h',g',d',t',o'⟩:=s';have e:o'=s.os:=ho;subst e;exact I.call (g':=g') (t':=t') (d':=d') u Fn hg M6
end
abbrev XK:=Value->Option Addr->Hp->Prop
abbrev St:=List (Option V)
abbrev VK:=V->Hp->Prop
abbrev TE:=St->Hp->VK->Prop
abbrev TT:=St->Hp->(Bool->Hp->Prop)->Prop
structure Ends where
 nx:St->Hp->Prop
 rt:VK
 bk:St->Hp->Prop:=fun _ _=>False
 ct:St->Hp->Prop:=fun _ _=>False
abbrev TS:=Ends->St->Hp->Prop
def EP(X:Cx)(pins:List (Addr×Obj))(σ:St)(Q:VK)(u:Value)(s':Shared):Prop:=∃v H',Inv X pins σ H' s'/\RelV v u/\Q v H'
def TP(X:Cx)(pins:List (Addr×Obj))(σ:St)(Q:Bool->Hp->Prop)(b:Bool)(s':Shared):Prop:=∃H',Inv X pins σ H' s'/\Q b H'
def AP(X:Cx)(pins:List (Addr×Obj))(σ:St)(Q:List V->Hp->Prop)(us:List Value)(s':Shared):Prop:=∃vs H',Inv X pins σ H' s'/\Vals vs us/\Q vs H'
def SP(X:Cx)(pins:List (Addr×Obj))(D:Ends)(f:Flow)(s':Shared):Prop:=
 match f with
 |.next=>∃FJ H',Inv X pins FJ H' s'/\D.nx FJ H'
 |.brk=>∃FJ H',Inv X pins FJ H' s'/\D.bk FJ H'
 |.cont=>∃FJ H',Inv X pins FJ H' s'/\D.ct FJ H'
 |.ret u=>∃v FJ H',Inv X pins FJ H' s'/\RelV v u/\D.rt v H'
def PE(X:Cx)(e:Expr)(t:TE):Prop:=
 ∀(pins:List (Addr×Obj)) (s:Shared) (σ:St) (H:Hp) (Q:VK),Inv X pins σ H s->t σ H Q->wpAny (model X.prog X.w) X.A (eval e X.env) (EP X pins σ Q) X.xe s
def PT(X:Cx)(e:Expr)(t:TT):Prop:=
 ∀(pins:List (Addr×Obj)) (s:Shared) (σ:St) (H:Hp) (Q:Bool->Hp->Prop),Inv X pins σ H s->t σ H Q->wpAny (model X.prog X.w) X.A (isTrue e X.env (eval e X.env)) (TP X pins σ Q) X.xe s
def PW(X:Cx)(e:Expr)(t:TT):Prop:=
 ∀(whole:Sem Value) (pins:List (Addr×Obj)) (s:Shared) (σ:St) (H:Hp) (Q:Bool->Hp->Prop),Inv X pins σ H s->t σ H Q->wpAny (model X.prog X.w) X.A (isTrue e X.env whole) (TP X pins σ Q) X.xe s
theorem PW.pt{X:Cx}{e:Expr}{t:TT}(h:PW X e t):PT X e t:=h _
def QQ(X:Cx)(st:List Stmt)(t:TS):Prop:=
 ∀(pins:List (Addr×Obj)) (s:Shared) (σ:St) (H:Hp) (D:Ends),Inv X pins σ H s->t D σ H->wpAny (model X.prog X.w) X.A (execs st X.env) (SP X pins D) X.xe s
theorem O3{α:Type}{t:Sem α}{Q Q':α->Shared->Prop}{M:Model}{A:Around}{E:Value->Shared->Prop}{s:Shared}(h:wpAny M A t Q E s)(hQ:∀a s,Q a s->Q' a s):wpAny M A t Q' E s:=wpAny_mono h hQ fun _ _ x=>x
end L2
namespace L2
open PySem PySem.Spec PyProof.Rows
section
variable{X:Cx}
def EE(i:Nat):TE:=fun σ H Q=>∃v,σ[i]?=some (some v)/\Q v H
theorem DI{i:Nat}{x:Str}{pos:Pos}(hN:X.N[i]?=some x)(hv:SS X.env.scope x)(hd:(x == ("__debug__":Str))=false:=by decide)(LY:(x == ("__classdict__":Str))=false:=by decide):PE X (.Name x pos) (EE i):=by
 intro pins s σ H Q I h;obtain⟨v,e,h⟩:=h;obtain⟨m,hn,hl⟩:=I.loc;obtain⟨u,r,l⟩:=hl i x v hN e hv;have fin:EP X pins σ Q u s:=⟨v,H,I,r,h⟩;rcases l with ⟨hk,hm⟩|⟨hk,c,hc,FU⟩
 ·exact wpAny_Name (wpAny_loadName_local I.ok.kind hk hn hm fin) hd
 ·rcases hk with hk|hk
  ·exact wpAny_Name (wpAny_loadName_cell I.ok.kind hk hc FU fin) hd
  ·exact wpAny_Name (wpAny_loadName_free I.ok.kind hk hc FU fin LY) hd
def Gl(X:Cx)(x:Str):Prop:=X.env.kindOf x=some .globalImplicit
theorem lf{E:Value->Shared->Prop}{pins:List (Addr×Obj)}{s:Shared}{σ:St}{H:Hp}{x:Str}{u:Value}{pos:Pos}{Q:Value->Shared->Prop}(I:Inv X pins σ H s)(hg:Gl X x)(hm:X.mg x=some u)(h:Q u s)
  (hd:(x == ("__debug__":Str))=false:=by decide):wpAny (model X.prog X.w) X.A (eval (.Name x pos) X.env) Q E s:=
 Calls.Name_function_global I.ok.kind hg (Calls.loadGlobal_global (by rw[I.ok.glob];exact I.mod.glob.keeps I.bk) hm h) hd
theorem kH{E:Value->Shared->Prop}{pins:List (Addr×Obj)}{s:Shared}{σ:St}{H:Hp}{x:Str}{u:Value}{pos:Pos}{Q:Value->Shared->Prop}(I:Inv X pins σ H s)(hg:Gl X x)(hm:X.mg x=none)(hv:bootBuiltins x=some u)(h:Q u s)
  (hn:x≠"__name__":=by decide) (hd:(x == ("__debug__":Str))=false:=by decide):wpAny (model X.prog X.w) X.A (eval (.Name x pos) X.env) Q E s:=by
 obtain⟨mb,h1,h2⟩:=I.mod.blt;exact Calls.Name_function_global I.ok.kind hg (Calls.loadGlobal_builtin (by rw[I.ok.glob];exact I.mod.glob.keeps I.bk) hm (by rw[I.ok.blt];exact h1.keeps I.bk) ((h2 x hn).trans hv) h) hd
variable{a b:Expr}{ta tb:TE}{pos:Pos}
theorem RelV.Lx{x:V}{v:Value}(r:RelV x v):(v == Value.none)=decide (x=.D_):=by
 cases x with
 |D_=>cases r;rfl
 |bl _=>cases r;rfl
 |int _=>obtain⟨t,rfl⟩:=r;rfl
 |str _=>obtain⟨t,rfl⟩:=r;rfl
 |Pn _=>obtain⟨t,rfl⟩:=r;rfl
 |Po _=>obtain⟨t,rfl⟩:=r;rfl
 |ref _=>cases r;rfl
 |ty _=>cases r;rfl
variable{tA QR:TT}{rest:List Expr}
end
end L2
namespace L2
open PySem PySem.Spec PyProof.Rows
def G7(K:PySem.W.Frag)(H:Hp)(a:Addr)(xs:List V):Prop:=
 Rd H a (.lst xs)\/
  ∃(o:Obj) (w_:Array Value) (n:Nat),K.lookup a=some o/\o.cls=.type "list"/\o.dict=none/\o.data=.seq w_ n/\w_.size<=sizeLine/\Vals xs w_.toList
def HH(K:PySem.W.Frag)(H:Hp)(a:Addr)(xs:List V):Prop:=
 Rd H a (.tup xs)\/
  ∃(o:Obj) (w_:Array Value) (n:Nat),K.lookup a=some o/\o.cls=.type "tuple"/\o.data=.seq w_ n/\w_.size<=sizeLine/\Vals xs w_.toList
def E1:Value->Option V
 |.none=>some .D_
 |.bool b=>some (.bl b)
 |.int i _=>some (.int i)
 |.str x _=>some (.str x)
 |.bytes b _=>some (.Pn b)
 |.float b _=>some (.Po b)
 |.ref a=>some (.ref a)
 |.type n=>some (.ty n)
 |_=>none
theorem RelV.abs{x:V}{u:Value}(r:RelV x u):E1 u=some x:=by
 cases x with
 |D_=>cases r;rfl
 |bl _=>cases r;rfl
 |int _=>obtain⟨t,rfl⟩:=r;rfl
 |str _=>obtain⟨t,rfl⟩:=r;rfl
 |Pn _=>obtain⟨t,rfl⟩:=r;rfl
 |Po _=>obtain⟨t,rfl⟩:=r;rfl
 |ref _=>cases r;rfl
 |ty _=>cases r;rfl
theorem RelV.inj{x y:V}{u:Value}(r:RelV x u)(q:RelV y u):x=y:=Option.some.inj (r.abs.symm.trans q.abs)
theorem Vals.inj:∀{xs ys:List V}{us:List Value},Vals xs us->Vals ys us->xs=ys
 |_,_,_,.nil,.nil=>rfl
 |_,_,_,.cons r t,.cons r' t'=>by rw[r.inj r',Vals.inj t t']
section
variable{X:Cx}{pins:List (Addr×Obj)}{σ:St}{H:Hp}{s:Shared}{a:Addr}{xs ys:List V}
theorem G7.of{K:PySem.W.Frag}(h:H a=some (.lst xs)):G7 K H a xs:=.inl (.inl h)
theorem HH.of{K:PySem.W.Frag}(h:H a=some (.tup xs)):HH K H a xs:=.inl (.inl h)
theorem Inv.list(I:Inv X pins σ H s)(h:G7 X.K H a xs):∃w_:List Value,Vals xs w_/\PlainL s.heap a w_.toArray/\xs.length<=sizeLine:=by
 rcases h with h|⟨o,w_,n,hk,hc,hd,hs,hz,r⟩
 ·obtain⟨z,w_,n,r,e⟩:=h.ok I.Fn;exact⟨w_,r,⟨_,n,e,rfl,rfl,rfl⟩,z⟩
 ·refine⟨w_.toList,r,⟨o,n,I.Jy a o hk,hc,hd,by simpa using hs⟩,?_⟩;have e:=r.length;simp only[Array.length_toList] at e;omega
theorem Inv.tuple(I:Inv X pins σ H s)(h:HH X.K H a xs):∃w_:List Value,Vals xs w_/\IsTup s.heap a w_.toArray/\xs.length<=sizeLine:=by
 rcases h with h|⟨o,w_,n,hk,hc,hs,hz,r⟩
 ·obtain⟨z,w_,r,p⟩:=h.ok I.Fn;exact⟨w_,r,p,z⟩
 ·refine⟨w_.toList,r,⟨o,I.Jy a o hk,hc,n,by simpa using hs⟩,?_⟩;have e:=r.length;simp only[Array.length_toList] at e;omega
theorem Inv.Ly(I:Inv X pins σ H s)(h:G7 X.K H a xs)(h':G7 X.K H a ys):xs=ys:=by
 obtain⟨w_,r,⟨o,n,e,_,_,d⟩,_⟩:=I.list h;obtain⟨its',r',⟨o',n',e',_,_,d'⟩,_⟩:=I.list h';rw[e] at e';cases e';rw[d] at d'
 injection d' with d1 _
 have:w_=its':=by simpa using congrArg Array.toList d1
 subst this;exact r.inj r'
theorem Inv.KN(I:Inv X pins σ H s)(h:HH X.K H a xs)(h':HH X.K H a ys):xs=ys:=by
 obtain⟨w_,r,⟨o,e,_,n,d⟩,_⟩:=I.tuple h;obtain⟨its',r',⟨o',e',_,n',d'⟩,_⟩:=I.tuple h';rw[e] at e';cases e';rw[d] at d'
 injection d' with d1 _
 have:w_=its':=by simpa using congrArg Array.toList d1
 subst this;exact r.inj r'
end
abbrev Cx.Fz(X:Cx)(E:Value->Shared->Prop):Cx:={ X with xe:=E }
abbrev Cx.O4(X:Cx):Cx:=X.Fz fun _ _=>False
theorem Cx.Ok.Fz{X:Cx}(ok:X.Ok)(E:Value->Shared->Prop):(X.Fz E).Ok:=
 ⟨ok.mod,ok.kind,ok.glob,ok.blt,ok.above,ok.inj,ok.has,ok.Qi,ok.hd,ok.frames,ok.QM,ok.SU,ok.bs,ok.M5,ok.MM,ok.Nf,ok.IK,ok.Ob⟩
theorem Cx.Ok.Fx{X:Cx}{E:Value->Shared->Prop}(ok:(X.Fz E).Ok):X.Ok:=
 ⟨ok.mod,ok.kind,ok.glob,ok.blt,ok.above,ok.inj,ok.has,ok.Qi,ok.hd,ok.frames,ok.QM,ok.SU,ok.bs,ok.M5,ok.MM,ok.Nf,ok.IK,ok.Ob⟩
section
variable{X:Cx}{pins:List (Addr×Obj)}{σ:St}{H:Hp}{s:Shared}{E:Value->Shared->Prop}
theorem Inv.Fz(I:Inv X pins σ H s)(E:Value->Shared->Prop):Inv (X.Fz E) pins σ H s:=⟨I.ok.Fz E,I.os,I.bare,I.base,I.loc,I.cell,I.free,I.HE,I.pin,I.Fn,I.len⟩
theorem Inv.Fx(I:Inv (X.Fz E) pins σ H s):Inv X pins σ H s:=⟨I.ok.Fx,I.os,I.bare,I.base,I.loc,I.cell,I.free,I.HE,I.pin,I.Fn,I.len⟩
theorem SP.Fx{D:Ends}{f:Flow}{s':Shared}(h:SP (X.Fz E) pins D f s'):SP X pins D f s':=by
 cases f with
 |next=>obtain⟨FJ,H',I,q⟩:=h;exact⟨FJ,H',I.Fx,q⟩
 |brk=>obtain⟨FJ,H',I,q⟩:=h;exact⟨FJ,H',I.Fx,q⟩
 |cont=>obtain⟨FJ,H',I,q⟩:=h;exact⟨FJ,H',I.Fx,q⟩
 |ret u=>obtain⟨v,FJ,H',I,r,q⟩:=h;exact⟨v,FJ,H',I.Fx,r,q⟩
theorem PE.O4{e:Expr}{t:TE}(h:PE X.O4 e t):PE X e t:=fun pins s σ H Q I hw=>
 wpAny_mono (h pins s σ H Q (I.Fz _) hw) (fun _ _ ⟨v,H',I',r,q⟩=>⟨v,H',I'.Fx,r,q⟩) fun _ _ z=>False.elim z
theorem PT.O4{e:Expr}{t:TT}(h:PT X.O4 e t):PT X e t:=fun pins s σ H Q I hw=>
 wpAny_mono (h pins s σ H Q (I.Fz _) hw) (fun _ _ ⟨H',I',q⟩=>⟨H',I'.Fx,q⟩) fun _ _ z=>False.elim z
theorem QQ.O4{st:List Stmt}{t:TS}(h:QQ X.O4 st t):QQ X st t:=fun pins s σ H D I hw=>
 wpAny_mono (h pins s σ H D (I.Fz _) hw) (fun _ _ q=>q.Fx) fun _ _ z=>False.elim z
end
section
variable{X:Cx}{st:Stmt}{rest:List Stmt}{t u:TS}{e:Expr}{te:TE}{pos:Pos}
theorem Inv.quiet{pins:List (Addr×Obj)}{σ:St}{H:Hp}{s:Shared}(I:Inv X pins σ H s):interactive X.env=false:=by simp[interactive,I.ok.kind]
end
abbrev TG:=V->St->Hp->(St->Hp->Prop)->Prop
def PG(X:Cx)(target:Expr)(t:TG):Prop:=
 ∀(pins:List (Addr×Obj)) (s:Shared) (σ:St) (H:Hp) (v:V) (u:Value) (Q:St->Hp->Prop),Inv X pins σ H s->RelV v u->t v σ H Q->
  wpAny (model X.prog X.w) X.A (assign target X.env u) (fun _ s'=>∃FJ H',Inv X pins FJ H' s'/\Q FJ H') X.xe s
abbrev ED:=V->V->V->Hp->(Hp->Prop)->Prop
def EA(X:Cx)(t:ED):Prop:=
 ∀(pins:List (Addr×Obj)) (s:Shared) (σ:St) (H:Hp) (o i v:V) (ov iv u:Value) (Q:Hp->Prop),Inv X pins σ H s->RelV o ov->RelV i iv->RelV v u->t o i v H Q->
  wpAny (model X.prog X.w) X.A (setItem ov iv u) (fun _ s'=>∃H',Inv X pins σ H' s'/\Q H') X.xe s
section
variable{X:Cx}{pos:Pos}
def Eh(i:Nat):TG:=fun v σ H Q=>Q (σ.set i (some v)) H
theorem AN{i:Nat}{x:Str}(hN:X.N.Nodup)(hi:X.N[i]?=some x)(hx:Loc X.env.scope x)(hf:X.fn x=true\/X.env.scope.names.lookup x=some .local:=by first|exact .inl rfl|exact .inr rfl|assumption):PG X (.Name x pos) (Eh i):=by
 intro pins s σ H v u Q I r h;exact wpAny_assign_Name (vc I hN hi hx r (fun s' I'=>⟨_,H,I',h⟩) hf)
end
section
variable{X:Cx}{pos:Pos}
end
structure It where
 go:Nat->Hp->Prop
 Wn:Nat->Hp->V->Hp->Prop
 stop:Nat->Hp->Prop
def Jq(X:Cx)(pins:List (Addr×Obj))(H:Hp)(b:Addr):Prop:=
 H b=none/\b≠X.env.locals/\b∉X.fs/\(b∈X.ex\/X.G1.heap.objs.size<=b)/\(∀x c,X.env.cells.lookup x=some c->c≠b)/\∀p∈X.pn++pins,p.1≠b
theorem Inv.MN{X:Cx}{pins:List (Addr×Obj)}{σ:St}{H H':Hp}{s:Shared}{b:Addr}(I:Inv X pins σ H s)(hb:s.heap.objs.size<=b)(hn:H' b=none):Jq X pins H' b:=by
 refine⟨hn,Nat.ne_of_gt (Nat.lt_of_lt_of_le I.lt hb),I.SW hb,.inr (Nat.le_trans I.sz hb),fun x c e z=>?_,fun p hp z=>?_⟩
 ·obtain⟨v,q⟩:=I.cell x c e;exact absurd (Nat.lt_of_lt_of_le q.lt (by rw[z];exact hb)) (Nat.lt_irrefl _)
 ·exact absurd (Nat.lt_of_lt_of_le (Heap.lt_size (I.pin p hp).1) (by rw[z];exact hb)) (Nat.lt_irrefl _)
structure Turn(P:Program)(w:World)(K:PySem.W.Frag)(tg:Expr)(J:It)(fp:List Addr)(it:Addr)(tn:Nat->Heap->Prop):Prop where
 mem:it∈fp
 obj:∀i h,tn i h->∀b∈fp,∃o,h.get? b=some o/\∀v,o.data≠.cell v
 keep:∀i h h',tn i h->(∀b∈fp,∀o,h.get? b=some o->h'.get? b=some o)->tn i h'
 item:∀(X:Cx),X.prog=P->X.w=w->X.K=K->X.calm=true->∀(i:Nat) (pins:List (Addr×Obj)) (s:Shared) (σ:St) (H:Hp) (E:Value->Shared->Prop),Inv X pins σ H s->(∀b∈fp,Jq X pins H b)->tn i s.heap->J.go i H->
  wpAny (model P w) X.A (pyNext (.ref it)) (fun r s1=>∃u,r=some u/\
   wpAny (model P w) X.A (letOwnedTupleGo tg (.ref it) u) (fun _ s2=>∃x H',Inv X pins σ H' s2/\RelV x u/\J.Wn i H x H'/\tn (i+1) s2.heap/\∀b∈fp,H' b=none) E s1) E s
 done:∀(X:Cx),X.prog=P->X.w=w->X.K=K->X.calm=true->∀(i:Nat) (pins:List (Addr×Obj)) (s:Shared) (σ:St) (H:Hp) (E:Value->Shared->Prop),Inv X pins σ H s->(∀b∈fp,Jq X pins H b)->tn i s.heap->J.stop i H->
  wpAny (model P w) X.A (pyNext (.ref it)) (fun r s1=>r=none/\Inv X pins σ H s1) E s
 self:∀(A:Around) (i:Nat) (s:Shared) (Q:Value->Shared->Prop) (E:Value->Shared->Prop),tn i s.heap->Q (.ref it) s->wpAny (model P w) A (pyIter (.ref it)) Q E s
def S_(X:Cx)(pins:List (Addr×Obj))(σ:St)(tg:Expr)(R:It->Hp->Prop)(Mv:Value)(s2:Shared):Prop:=
 ∃(it:Addr) (fp:List Addr) (tn:Nat->Heap->Prop) (J:It) (H':Hp),Mv=.ref it/\Inv X pins σ H' s2/\Turn X.prog X.w X.K tg J fp it tn/\tn 0 s2.heap/\(∀b∈fp,Jq X pins H' b)/\R J H'
theorem zt{M:Model}{A:Around}{E:Value->Shared->Prop}{s:Shared}{tg:Expr}{it:Addr}{u:Value}{o:Obj}{n:String}{vs:Array Value}{Q:Unit->Shared->Prop}(ho:s.heap.get? it=some o)(hc:o.cls=.type n)(hd:o.data=.fields vs)
  (hn:["enumerate","zip","dict_itemiterator","dict_reverseitemiterator","odict_iterator","itertools.zip_longest","itertools.pairwise"].contains n=false) (hQ:Q () s):wpAny M A (letOwnedTupleGo tg (.ref it) u) Q E s:=by
 unfold letOwnedTupleGo;cases tg<;>first
  |exact wpAny_pure hQ
  |(cases u<;>first
    |exact wpAny_pure hQ
    |(refine wpAny_bind (wpAny_load ho ?_)
      rw[hc,hd];show wpAny M A (if (["enumerate","zip","dict_itemiterator","dict_reverseitemiterator","odict_iterator","itertools.zip_longest","itertools.pairwise"].contains n && vs[0]? == some (rawInt _))=true then _ else _) Q E s;rw[if_neg (by intro h;rw[hn,Bool.false_and] at h;cases h)];exact wpAny_pure hQ))
def Ta(K:PySem.W.Frag)(a:Addr):It:=
 ⟨fun i H=>∃xs x,G7 K H a xs/\xs[i]?=some x,fun i H x H'=>H'=H/\∀xs,G7 K H a xs->xs[i]?=some x,fun i H=>∃xs,G7 K H a xs/\xs.length<=i⟩
def Wo(K:PySem.W.Frag)(a:Addr):It:=
 ⟨fun i H=>∃xs x,HH K H a xs/\xs[i]?=some x,fun i H x H'=>H'=H/\∀xs,HH K H a xs->xs[i]?=some x,fun i H=>∃xs,HH K H a xs/\xs.length<=i⟩
theorem rX{P:Program}{w:World}{K:PySem.W.Frag}{tg:Expr}(a it:Addr):Turn P w K tg (Ta K a) [it] it (fun i h=>h.IsListIter it a i) where
 mem:=by simp
 obj:=fun i h st b hb=>by
  have e:b=it:=by simpa using hb
  subst e;obtain⟨o,e,c,d⟩:=st;exact⟨o,e,fun v z=>by rw[d] at z;cases z⟩
 keep:=fun i h h' st k=>st.at fun o e=>k it (by simp) o e
 item:=by
  intro X hP hw hK hc i pins s σ H E I hf st hg;subst hP hw hK;obtain⟨xs,x,hq,hx⟩:=hg;obtain⟨w_,rv,p,hz⟩:=I.list hq;obtain⟨u,hu,ru⟩:=rv.get hx;obtain⟨f0,f1,f2,f3,f4,f5⟩:=hf it (by simp);refine wpAny_pyNext_list_item st p.isList (x:=u) (by simpa using hu) fun h' HK sb=>?_
  have I1:Inv X pins σ H { s with heap:=h' }:=I.turned (t':=s.toks) (fun b o hb e=>(sb.2 b hb).trans e) f0 f1 f3 f4 f5;obtain⟨o,e,c,d⟩:=id HK;exact⟨u,rfl,zt (s:={ s with heap:=h' }) e c d (by decide) ⟨x,H,I1,ru,⟨rfl,fun ys hy=>by rw[I.Ly hy hq];exact hx⟩,HK,fun b hb=>(hf b hb).1⟩⟩
 done:=by
  intro X hP hw hK hc i pins s σ H E I hf st hg;subst hP hw hK;obtain⟨xs,hq,hx⟩:=hg;obtain⟨w_,rv,p,hz⟩:=I.list hq;obtain⟨f0,f1,f2,f3,f4,f5⟩:=hf it (by simp);have hl:=rv.length;exact wpAny_pyNext_list_end (I.ok.hd hc) st p.isList (by simp;omega) fun h' eb=>⟨rfl,I.turned (t':=s.toks) (fun b o hb e=>eb b o hb e) f0 f1 f3 f4 f5⟩
 self:=fun _ _ _ _ _ st h=>wpAny_pyIter_listiter st h
theorem wB{P:Program}{w:World}{K:PySem.W.Frag}{tg:Expr}(a it:Addr):Turn P w K tg (Wo K a) [it] it (fun i h=>h.IsTupleIter it a i) where
 mem:=by simp
 obj:=fun i h st b hb=>by
  have e:b=it:=by simpa using hb
  subst e;obtain⟨o,e,c,d⟩:=st;exact⟨o,e,fun v z=>by rw[d] at z;cases z⟩
 keep:=fun i h h' st k=>st.at fun o e=>k it (by simp) o e
 item:=by
  intro X hP hw hK hc i pins s σ H E I hf st hg;subst hP hw hK;obtain⟨xs,x,hq,hx⟩:=hg;obtain⟨w_,rv,p,hz⟩:=I.tuple hq;obtain⟨u,hu,ru⟩:=rv.get hx;obtain⟨f0,f1,f2,f3,f4,f5⟩:=hf it (by simp);refine wpAny_pyNext_tuple_item st (show s.heap.IsTuple a w_.toArray from p) (x:=u) (by simpa using hu) fun h' HK sb=>?_
  have I1:Inv X pins σ H { s with heap:=h' }:=I.turned (t':=s.toks) (fun b o hb e=>(sb.2 b hb).trans e) f0 f1 f3 f4 f5;obtain⟨o,e,c,d⟩:=id HK;exact⟨u,rfl,zt (s:={ s with heap:=h' }) e c d (by decide) ⟨x,H,I1,ru,⟨rfl,fun ys hy=>by rw[I.KN hy hq];exact hx⟩,HK,fun b hb=>(hf b hb).1⟩⟩
 done:=by
  intro X hP hw hK hc i pins s σ H E I hf st hg;subst hP hw hK;obtain⟨xs,hq,hx⟩:=hg;obtain⟨w_,rv,p,hz⟩:=I.tuple hq;obtain⟨f0,f1,f2,f3,f4,f5⟩:=hf it (by simp);have hl:=rv.length;exact wpAny_pyNext_tuple_end (I.ok.hd hc) st (show s.heap.IsTuple a w_.toArray from p) (by simp;omega) fun h' eb=>⟨rfl,I.turned (t':=s.toks) (fun b o hb e=>eb b o hb e) f0 f1 f3 f4 f5⟩
 self:=fun _ _ _ _ _ st h=>wpAny_pyIter_tupleiter st h
end L2
namespace L2
open PySem PySem.Spec PyProof.Rows
section
variable{X:Cx}{tg:Expr}
def nw(fp:List Addr)(h:Heap):List (Addr×Obj):=fp.filterMap fun b=>(h.get? b).map fun o=>(b,o)
theorem jT{fp:List Addr}{h:Heap}{b:Addr}{o:Obj}(hb:b∈fp)(e:h.get? b=some o):(b,o)∈nw fp h:=List.mem_filterMap.mpr ⟨b,hb,by rw[e];rfl⟩
theorem yl{fp:List Addr}{h:Heap}{p:Addr×Obj}(hp:p∈nw fp h):p.1∈fp/\h.get? p.1=some p.2:=by
 obtain⟨b,hb,e⟩:=List.mem_filterMap.mp hp;cases q:h.get? b with
 |none=>rw[q] at e;cases e
 |some o=>
  rw[q] at e;have e':(b,o)=p:=Option.some.inj e;subst e';exact⟨hb,q⟩
theorem Inv.pinned{pins:List (Addr×Obj)}{σ:St}{H:Hp}{s:Shared}{fp:List Addr}(I:Inv X pins σ H s)(hf:∀b∈fp,Jq X pins H b)(ho:∀b∈fp,∃o,s.heap.get? b=some o/\∀v,o.data≠.cell v):Inv X (pins++nw fp s.heap) σ H s:=
 I.KU fun p hp=>(List.mem_append.mp hp).elim (fun z=>I.pin p (List.mem_append_right _ z)) fun z=>by
  obtain⟨hb,e⟩:=yl z;obtain⟨f0,f1,f2,_⟩:=hf p.1 hb;obtain⟨o,e',d⟩:=ho p.1 hb;rw[e] at e';cases e';exact⟨e,f0,f1,f2,d⟩
theorem Inv.IM{pins pl:List (Addr×Obj)}{σ:St}{H:Hp}{s:Shared}(I:Inv X (pins++pl) σ H s):Inv X pins σ H s:=I.KU fun p hp=>I.pin p (List.mem_append_right _ (List.mem_append_left _ hp))
end
end L2
namespace L2
open PySem PySem.Spec PyProof.Rows
abbrev R2:=V->V->Hp->VK->Prop
def KW(X:Cx)(f:Value->Value->Sem Value)(r:R2):Prop:=
 ∀(pins:List (Addr×Obj)) (s:Shared) (σ:St) (H:Hp) (x y:V) (v u:Value) (Q:VK),Inv X pins σ H s->RelV x v->RelV y u->r x y H Q->
  wpAny (model X.prog X.w) X.A (f v u) (EP X pins σ Q) X.xe s
def Tb(X:Cx)(f:Value->Sem Value)(r:V->Hp->VK->Prop):Prop:=
 ∀(pins:List (Addr×Obj)) (s:Shared) (σ:St) (H:Hp) (x:V) (v:Value) (Q:VK),Inv X pins σ H s->RelV x v->r x H Q->
  wpAny (model X.prog X.w) X.A (f v) (EP X pins σ Q) X.xe s
def HN(X:Cx)(f:Value)(r:List V->Hp->VK->Prop):Prop:=
 ∀(pins:List (Addr×Obj)) (s:Shared) (σ:St) (H:Hp) (xs:List V) (us:List Value) (Q:VK),Inv X pins σ H s->Vals xs us->r xs H Q->
  wpAny (model X.prog X.w) X.A (call f us) (EP X pins σ Q) X.xe s
def EH(X:Cx)(r:V->Hp->(Bool->Hp->Prop)->Prop):Prop:=
 ∀(pins:List (Addr×Obj)) (s:Shared) (σ:St) (H:Hp) (x:V) (v:Value) (Q:Bool->Hp->Prop),Inv X pins σ H s->RelV x v->r x H Q->
  wpAny (model X.prog X.w) X.A (truthy v) (TP X pins σ Q) X.xe s
def rI(C:Int->Int->Prop)(g:Int->Int->V):R2:=fun x y H Q=>∃i j,x=.int i/\y=.int j/\C i j/\Q (g i j) H
def Qj(g:Int->Int->V):R2:=fun x y H Q=>∃i j,x=.int i/\y=.int j/\Q (g i j) H
def rU(g:Int->V):V->Hp->VK->Prop:=fun x H Q=>∃i,x=.int i/\Q (g i) H
section
variable{X:Cx}{a b c:Expr}{ta tb tc:TE}{pos:Pos}
theorem R3{f:Value->Value->Sem Value}{C:Int->Int->Prop}{g:Int->Int->Int}
  (rule:∀(i j:Int) (t u:Tok) (s:Shared) (Q:Value->Shared->Prop) (E:Value->Shared->Prop),C i j->Q (.int (g i j) s.toks) { s with toks:=s.toks+1 }->wpAny (model X.prog X.w) X.A (f (.int i t) (.int j u)) Q E s) :
  KW X f (rI C fun i j=>.int (g i j)):=by
 intro pins s σ H x y v u Q I rx ry h;obtain⟨i,j,rfl,rfl,hc,q⟩:=h;obtain⟨t,rfl⟩:=rx;obtain⟨t',rfl⟩:=ry;exact rule i j t t' s _ _ hc ⟨.int (g i j),H,I.tok _,⟨_,rfl⟩,q⟩
theorem AQ{f:Value->Value->Sem Value}{g:Int->Int->Bool}
  (rule:∀(i j:Int) (t u:Tok) (s:Shared) (Q:Value->Shared->Prop) (E:Value->Shared->Prop),Q (.bool (g i j)) s->wpAny (model X.prog X.w) X.A (f (.int i t) (.int j u)) Q E s) :
  KW X f (Qj fun i j=>.bl (g i j)):=by
 intro pins s σ H x y v u Q I rx ry h;obtain⟨i,j,rfl,rfl,q⟩:=h;obtain⟨t,rfl⟩:=rx;obtain⟨t',rfl⟩:=ry;exact rule i j t t' s _ _ ⟨.bl (g i j),H,I,rfl,q⟩
def Dh(i j:Int):Prop:=0<j/\j<1073741824
def L6(i j:Int):Prop:=(-(2 ^ 64)<i/\i<2 ^ 64)\/(-(2 ^ 64)<j/\j<2 ^ 64)
theorem L6.ok{i j:Int}(h:L6 i j):IntMulOk i j:=by
 rcases h with ⟨h1,h2⟩|⟨h1,h2⟩
 ·exact .of_left (intBits_le_64 h1 h2)
 ·exact .of_right (intBits_le_64 h1 h2)
theorem Pr:KW X (binaryOp .Mult) (rI L6 fun i j=>.int (i * j)):=R3 fun _ _ _ _ _ _ _ hc q=>mul_int q hc.ok
theorem Bf:KW X (binaryOp .FloorDiv) (rI Dh fun i j=>.int (i / j)):=R3 fun i j _ _ _ _ _ hc q=>by
 have h1:(0:Int)<j:=hc.1;have h2:j<1073741824:=hc.2;exact floordiv_int (by omega) (by rw[Int.fdiv_eq_ediv_of_nonneg i (by omega)];exact q) (.inl (PyProof.noPylong_small (by omega)))
theorem Dj:KW X (binaryOp .Mod) (rI (fun _ j=>0<j) fun i j=>.int (i % j)):=R3 fun i j _ _ _ _ _ hc q=>by
 have h1:(0:Int)<j:=hc;exact mod_int' (by omega) (by rw[Int.fmod_eq_emod_of_nonneg i (by omega)];exact q)
theorem X4{f:Value->Sem Value}{g:Int->Int}
  (rule:∀(i:Int) (t:Tok) (s:Shared) (Q:Value->Shared->Prop) (E:Value->Shared->Prop),Q (.int (g i) s.toks) { s with toks:=s.toks+1 }->wpAny (model X.prog X.w) X.A (f (.int i t)) Q E s) :
  Tb X f (rU fun i=>.int (g i)):=by
 intro pins s σ H x v Q I rx h;obtain⟨i,rfl,q⟩:=h;obtain⟨t,rfl⟩:=rx;exact rule i t s _ _ ⟨.int (g i),H,I.tok _,⟨_,rfl⟩,q⟩
theorem CY:Tb X (unaryOp .USub) (rU fun i=>.int (-i)):=X4 fun _ _ _ _ _ q=>neg_int q
end
section
variable{X:Cx}{a b c:Expr}{ta tb tc:TE}{pos:Pos}
theorem DV:KW X (compareOp .Lt) (Qj fun i j=>.bl (decide (i<j))):=AQ fun _ _ _ _ _ _ _ q=>lt_int q
theorem Eb:KW X (compareOp .LtE) (Qj fun i j=>.bl (decide (i<=j))):=AQ fun _ _ _ _ _ _ _ q=>le_int q
theorem D0:KW X (compareOp .Gt) (Qj fun i j=>.bl (decide (j<i))):=AQ fun _ _ _ _ _ _ _ q=>gt_int q
theorem D6:KW X (compareOp .GtE) (Qj fun i j=>.bl (decide (j<=i))):=AQ fun _ _ _ _ _ _ _ q=>ge_int q
theorem KW.or{f:Value->Value->Sem Value}{r r':R2}(h:KW X f r)(h':KW X f r'):KW X f (fun x y H Q=>r x y H Q\/r' x y H Q):=by
 intro pins s σ H x y v u Q I rx ry q;rcases q with q|q
 ·exact h pins s σ H x y v u Q I rx ry q
 ·exact h' pins s σ H x y v u Q I rx ry q
theorem aK(b:Expr){op:CmpOp}(h:op≠.In:=by decide)(h2:op≠.NotIn:=by decide):behindInMarks op b=false:=by
 have e1:(op == CmpOp.In)=false:=by cases op<;>first|rfl|exact absurd rfl h
 have e2:(op == CmpOp.NotIn)=false:=by cases op<;>first|rfl|exact absurd rfl h2
 cases b<;>simp[behindInMarks,e1,e2]
def D8(K:PySem.W.Frag)(x:V)(H:Hp)(k:Bool):Prop:=
 match x with
 |.D_=>k=false
 |.bl b=>k=b
 |.int i=>k=(i != 0)
 |.str y=>y.length<=sizeLine/\k=((y.length:Int) != 0)
 |.Pn y=>y.size<=sizeLine/\k=((y.size:Int) != 0)
 |.ref p=>(∃xs,G7 K H p xs/\k = !xs.isEmpty)\/(∃xs,HH K H p xs/\k = !xs.isEmpty)\/∃kvs,H p=some (.dK kvs)/\k = !kvs.isEmpty
 |_=>False
theorem vW{κ:Type}{kvs:List (κ×V)}{vs:List (κ×Value)}(r:KV kvs vs):(!vs.isEmpty) = !kvs.isEmpty:=by
 cases r<;>rfl
theorem qt{xs:List V}{w_:List Value}(r:Vals xs w_):(!w_.toArray.isEmpty) = !xs.isEmpty:=by
 cases r<;>simp
theorem lW:(sizeLine:Nat)<2 ^ 63:=by rw[sizeLine_eq];decide
theorem Dg:EH X (fun x H Q=>∃k,D8 X.K x H k/\Q k H):=by
 intro pins s σ H x v Q I rx h;obtain⟨k,e,q⟩:=h;have hl:=lW;have hs:sizeLine=16777216:=sizeLine_eq;cases x with
 |D_=>
  cases rx;have e':k=false:=e;subst e';exact truthy_none ⟨H,I,q⟩
 |bl b=>
  cases rx;have e':k=b:=e;subst e';exact wpAny_truthy_bool ⟨H,I,q⟩
 |int i=>
  obtain⟨t,rfl⟩:=rx;have e':k=(i != 0):=e;subst e';exact PySem.P.truthy_int ⟨H,I,q⟩
 |str y=>
  obtain⟨t,rfl⟩:=rx;obtain⟨hy,e'⟩:y.length<=sizeLine/\k=((y.length:Int) != 0):=e;subst e';exact PySem.P.truthy_str (by omega) ⟨H,I.tok _,q⟩
 |Pn y=>
  obtain⟨t,rfl⟩:=rx;obtain⟨hy,e'⟩:y.size<=sizeLine/\k=((y.size:Int) != 0):=e;subst e';exact PySem.W.truthy_bytes (by omega) ⟨H,I.tok _,q⟩
 |ref p=>
  cases rx;have e':(∃xs,G7 X.K H p xs/\k = !xs.isEmpty)\/(∃xs,HH X.K H p xs/\k = !xs.isEmpty)\/∃kvs,H p=some (.dK kvs)/\k = !kvs.isEmpty:=e;rcases e' with ⟨xs,hx,e'⟩|⟨xs,hx,e'⟩|⟨kvs,hx,e'⟩
  ·subst e';obtain⟨w_,r,pl,hz⟩:=I.list hx;have hlen:=r.length;exact wpAny_truthy_list pl.isList (by simp only[List.size_toArray];omega) ⟨H,I.tok _,by rw[qt r];exact q⟩
  ·subst e';obtain⟨w_,r,pl,hz⟩:=I.tuple hx;have hlen:=r.length;exact truthy_tuple pl (by simp only[List.size_toArray];omega) ⟨H,I.tok _,by rw[qt r];exact q⟩
  ·subst e';obtain⟨hz,hS,vs,r,m⟩:kvs.length<=sizeLine/\(p == sysModules)=false/\∃vs,KV kvs vs/\s.heap.DictOf (cV X.prog X.w) p vs:=I.Fn p _ hx;have hlen:kvs.length=vs.length:=Paired.length r;exact wpAny_truthy_dict hS m (by omega) ⟨H,I.tok _,by rw[vW r];exact q⟩
 |_=>exact(show False from e).elim
theorem xk{x:V}{us:List Value}(r:Vals [x] us):∃u,us=[u]/\RelV x u:=by
 cases r with
 |cons r1 r2=>cases r2;exact⟨_,rfl,r1⟩
theorem Cq{x y:V}{us:List Value}(r:Vals [x,y] us):∃u w',us=[u,w']/\RelV x u/\RelV y w':=by
 cases r with
 |cons r1 r2=>
  cases r2 with
  |cons r3 r4=>cases r4;exact⟨_,_,rfl,r1,r3⟩
theorem yN(hc:X.calm=true):HN X (.builtin "max") (fun xs H Q=>∃i j,xs=[.int i,.int j]/\Q (.int (if j > i then j else i)) H):=by
 intro pins s σ H xs us Q I r h;obtain⟨i,j,rfl,q⟩:=h;obtain⟨u,w',rfl,⟨t,rfl⟩,⟨t',rfl⟩⟩:=Cq r;refine max_two_ints (I.ok.hd hc) fun h' tk k=>⟨_,H,I.kept k,?_,q⟩
 by_cases hj:j > i
 ·rw[if_pos hj,if_pos hj];exact⟨_,rfl⟩
 ·rw[if_neg hj,if_neg hj];exact⟨_,rfl⟩
theorem yk(hc:X.calm=true):HN X (.builtin "min") (fun xs H Q=>∃i j,xs=[.int i,.int j]/\Q (.int (if j<i then j else i)) H):=by
 intro pins s σ H xs us Q I r h;obtain⟨i,j,rfl,q⟩:=h;obtain⟨u,w',rfl,⟨t,rfl⟩,⟨t',rfl⟩⟩:=Cq r;refine min_two_ints (I.ok.hd hc) fun h' tk k=>⟨_,H,I.kept k,?_,q⟩
 by_cases hj:j<i
 ·rw[if_pos hj,if_pos hj];exact⟨_,rfl⟩
 ·rw[if_neg hj,if_neg hj];exact⟨_,rfl⟩
end
end L2
namespace L2
open PySem PySem.Spec PyProof.Rows
structure L7(h:Heap)(x dx C:Addr)(mA:Str->Option Value):Prop where
 obj:h.get? x=some (PySem.W.instObj C dx)
 ns:h.Ns1 dx mA
 ne:dx≠x
theorem ym{h:Heap}{dx:Addr}{mA:Str->Option Value}(n:h.Ns1 dx mA):∃od,h.get? dx=some od/\∀name,PySem.W.lookIn name od=some (mA name):=by
 obtain⟨o,es,ep,ho,hd,hk,_,hm⟩:=n;refine⟨o,ho,fun name=>?_⟩;have e:=hm name;unfold nsFind findBy at e;rw[<-Array.find?_toList] at e;unfold PySem.W.lookIn;rw[hd];dsimp only;split
 ·rename_i y q;rw[q] at e;exact congrArg some e
 ·rename_i q;rw[q] at e;have a:es.toList.any (·.refKey)=false:=by
   rw[List.any_eq_false];intro y hy;obtain⟨z,t,Tc⟩:=hk y (Array.mem_toList_iff.mp hy);simp[DictEntry.refKey,Tc]
  have a':¬es.toList.any (·.refKey)=true:=by rw[a];exact Bool.false_ne_true
  rw[if_neg a'];exact congrArg some e
theorem L7.look{h:Heap}{x dx C:Addr}{mA:Str->Option Value}(I:L7 h x dx C mA):∃od,PySem.W.InstAt h x (PySem.W.instObj C dx) C (some od)/\∀name,PySem.W.lookIn name od=some (mA name):=
 let ⟨od,ho,hl⟩:=ym I.ns
 ⟨od,⟨I.obj,rfl,rfl,ho⟩,hl⟩
section
variable{prog:Program}{w:World}{A:Around}{E:Value->Shared->Prop}{s:Shared}{K:PySem.W.Frag}{x dx C f:Addr}{mA:Str->Option Value}{name:Str}{v:Value}
theorem Bq{expr:Bool}{Q:Value->Shared->Prop}(X:K.In s.heap)(I:L7 s.heap x dx C mA)(hg:PySem.W.plainGet K C name=true)(hh:PySem.W.hasDictIn K C=true)
  (ha:PySem.W.findIn K (.ref C) name=some none) (hv:mA name=some v) (X5:PySem.W.handedIn v=true) (h:Q v { s with toks:=s.toks+1 }) :
  wpAny (model prog w) A (getAttr (.ref x) name expr) Q E s:=by
 obtain⟨od,J,hl⟩:=I.look;exact PySem.W.get_value X J (PySem.W.plainGet_of hg).1 (PySem.W.findObj_own hh ha rfl (by rw[hl,hv])) X5 h
theorem Ac{pl:Sem Bool}{Q:Value×List Value->Shared->Prop}(X:K.In s.heap)(I:L7 s.heap x dx C mA)(hg:PySem.W.plainGet K C name=true)
  (hf:PySem.W.findIn K (.ref C) name=some (some (.ref f))) (ht:PySem.W.isFn K (.ref f)=true) (hv:mA name=none) (h:Q (.ref f,[.ref x]) s) :
  wpAny (model prog w) A (getMethod (.ref x) name pl) Q E s:=by
 obtain⟨od,J,hl⟩:=I.look;exact PySem.W.method_fn X J (PySem.W.plainGet_of hg).1 (PySem.W.plainGet_of hg).2 hf (beq_iff_eq.mp ht) (by show(PySem.W.lookIn name od).map (·.isSome)=some false;rw[hl,hv];rfl) h
theorem Bg{ns:List Str}{Q:Unit->Shared->Prop}(X:K.In s.heap)(I:L7 s.heap x dx C mA)
  (hs:PySem.W.findIn K (.ref C) "__setattr__"=some (some (.builtin "object.__setattr__"))) (hp:PySem.W.plainOver K C=true) (ht:PySem.W.takerIn K C name=some none) (hh:PySem.W.hasDictIn K C=true)
  (hw:PySem.Within mA ns) (hsz:ns.length<=sizeLine)
  (h:∀h',L7 h' x dx C (fun y=>if y=name then some v else mA y)->Heap.SameBut dx s.heap h'->Q () { s with heap:=h',toks:=s.toks+2 }) :
  wpAny (model prog w) A (setAttr (.ref x) name v) Q E s:=by
 obtain⟨od,J,hl⟩:=I.look;refine PySem.W.set_plain X J hs (PySem.W.osa_open (s:={ s with toks:=s.toks+1 }) (r:=none) X J hp ht fun b=>?_);obtain⟨cd,hc,J_⟩:=PySem.W.any_some hh;have hx:s.heap.get? x=some ⟨.ref C,some dx,.plain,#[]⟩:=I.obj;refine wpAny_bind (wpAny_pure (wpAny_bind (wpAny_bind (wpAny_loadPart hx (wpAny_bind (PySem.W.Looks.here (s:={ s with toks:=s.toks+1 }) (PySem.W.looks_clsIn X hc) ?_))))));rw[J_];refine wpAny_pure (a:=some dx) (wpAny_bind (wpAny_pure (wpAny_bind ?_)));refine wpAny_nsSet1 (s:={ s with toks:=s.toks+1 }) I.ns fun h' Qk KO=>?_
 obtain⟨oD,esD,epD,X6,X7,X8⟩:=Qk.count (PySem.Within.cons name v hw);refine wpAny_bind (wpAny_lookBehind X6 (by rw[X7];exact pastItsLine_dict (Nat.le_trans X8 (by rw[List.length_cons];omega))) ?_);exact wpAny_pure (h _ ⟨(KO.2 _ (Ne.symm I.ne)).trans I.obj,Qk,I.ne⟩ KO)
theorem zi{R:Result->Shared->Prop}{vs:List Value}{kw:List (Str×Value)}(X:K.In s.heap)(hm:PySem.W.makesIn K C=true)
  (hi:PySem.W.findIn K (.ref C) "__init__"=some (some (.ref f))) (hf:PySem.W.typeIn K (.ref f)=some (.type "function"))
  (h:codeAny (model prog w) (A.under (.builtin "type.__call__" ⟨.ref C :: vs,kw⟩)) (.call (.ref f) ⟨.ref (s.heap.objs.size+1) :: vs,kw⟩) (PySem.W.InitBack (s.heap.objs.size+1) R)
   { s with heap:=(s.heap.push PySem.W.emptyDict).push (PySem.W.instObj C s.heap.objs.size) }) :
  codeAny (model prog w) A (.call (.ref C) ⟨vs,kw⟩) R s:=by
 obtain⟨hh,g,d,t,os⟩:=s;exact PySem.W.make_core (PySem.W.makes_of X hm) (PySem.W.looks_findIn X hi) (fun self=>PySem.W.bind_fn X self hf) (.inl rfl) h
end
def gJ(f:Str)(v:V):List (Str×V)->List (Str×V)
 |[]=>[(f,v)]
 |(g,x) :: r=>if g=f then (g,v) :: r else (g,x) :: gJ f v r
theorem oy(f g:Str)(v:V):∀fs:List (Str×V),(gJ f v fs).lookup g=if g=f then some v else fs.lookup g
 |[]=>by
  show List.lookup g [(f,v)]=_;by_cases h:g=f
  ·have hb:(g == f)=true:=beq_iff_eq.mpr h;simp only[List.lookup,hb,if_pos h]
  ·have hb:(g == f)=false:=beq_eq_false_iff_ne.mpr h;simp only[List.lookup,hb,if_neg h]
 |(k,x) :: r=>by
  have ih:=oy f g v r;rw[show gJ f v ((k,x) :: r)=(if k=f then (k,v) :: r else (k,x) :: gJ f v r) from rfl];by_cases hk:k=f
  ·rw[if_pos hk];by_cases h:g=k
   ·have hb:(g == k)=true:=beq_iff_eq.mpr h;simp only[List.lookup,hb,if_pos (h.trans hk)]
   ·have hb:(g == k)=false:=beq_eq_false_iff_ne.mpr h;simp only[List.lookup,hb,if_neg (fun e:g=f=>h (e.trans hk.symm))]
  ·rw[if_neg hk];by_cases h:g=k
   ·have hb:(g == k)=true:=beq_iff_eq.mpr h;simp only[List.lookup,hb,if_neg (fun e:g=f=>hk (h.symm.trans e))]
   ·have hb:(g == k)=false:=beq_eq_false_iff_ne.mpr h;simp only[List.lookup,hb];exact ih
theorem n3(f:Str)(v:V):∀fs:List (Str×V),f∈(gJ f v fs).map (·.1)/\∀g,g∈fs.map (·.1)->g∈(gJ f v fs).map (·.1)
 |[]=>⟨by simp[gJ],fun g h=>by simp at h⟩
 |(k,x) :: r=>by
  obtain⟨i1,i2⟩:=n3 f v r;rw[show gJ f v ((k,x) :: r)=(if k=f then (k,v) :: r else (k,x) :: gJ f v r) from rfl];by_cases hk:k=f
  ·rw[if_pos hk];subst hk;exact⟨by simp,fun g h=>by simpa using h⟩
  ·rw[if_neg hk];refine⟨?_,fun g h=>?_⟩
   ·rw[List.map_cons];exact List.mem_cons_of_mem _ i1
   ·rw[List.map_cons] at h ⊢;rcases List.mem_cons.mp h with e|e
    ·exact List.mem_cons.mpr (.inl e)
    ·exact List.mem_cons_of_mem _ (i2 g e)
theorem oo(f:Str)(v:V):∀fs:List (Str×V),(gJ f v fs).length<=fs.length+1
 |[]=>by simp[gJ]
 |(k,x) :: r=>by
  have ih:=oo f v r;rw[show gJ f v ((k,x) :: r)=(if k=f then (k,v) :: r else (k,x) :: gJ f v r) from rfl];by_cases hk:k=f
  ·rw[if_pos hk,List.length_cons,List.length_cons];omega
  ·rw[if_neg hk,List.length_cons,List.length_cons];omega
theorem Hy.some_of{v:V}{o:Option Value}(r:Hy (some v) o):∃u,o=some u/\RelV v u:=by
 cases o with
 |none=>exact(show False from r).elim
 |some u=>exact⟨u,rfl,r⟩
theorem Hy.none_of{o:Option Value}(r:Hy none o):o=none:=by
 cases o with
 |none=>rfl
 |some u=>exact(show False from r).elim
theorem yq{v:V}{u:Value}(r:RelV v u):PySem.W.handedIn u=true:=by
 cases v with
 |D_=>cases(show u=Value.none from r);rfl
 |bl b=>cases(show u=Value.bool b from r);rfl
 |int i=>obtain⟨t,e⟩:=(show ∃t,u=Value.int i t from r);cases e;rfl
 |str x=>obtain⟨t,e⟩:=(show ∃t,u=Value.str x t from r);cases e;rfl
 |Pn b=>obtain⟨t,e⟩:=(show ∃t,u=Value.bytes b t from r);cases e;rfl
 |Po b=>obtain⟨t,e⟩:=(show ∃t,u=Value.float b t from r);cases e;rfl
 |ref a=>cases(show u=Value.ref a from r);rfl
 |ty n=>cases(show u=Value.type n from r);rfl
section
variable{P:Program}{w:World}{H H':Hp}{h h':Heap}{a C dx:Addr}{fs SQ:List (Str×V)}
theorem tP(Fn:G6 P w H h)(e:H a=some (.ins C dx fs)):∃mA,L7 h a dx C mA/\(∀f,Hy (fs.lookup f) (mA f))/\PySem.Within mA (fs.map (·.1))/\fs.length<=1000/\H dx=some (.own a):=by
 obtain⟨d,z,ne,ob,mA,n,r,q⟩:=(show FT P w H h a (.ins C dx fs) from Fn a _ e);exact⟨mA,⟨ob,n,ne⟩,r,q,z,d⟩
end
structure Lz(K:PySem.W.Frag)(C:Addr):Prop where
 pg:PySem.W.plainGet K C Str.empty=true
 hd:PySem.W.hasDictIn K C=true
 po:PySem.W.plainOver K C=true
 sa:PySem.W.findIn K (.ref C) "__setattr__"=some (some (.builtin "object.__setattr__"))
theorem Lz.get{K:PySem.W.Frag}{C:Addr}(c:Lz K C)(f:Str):PySem.W.plainGet K C f=true:=c.pg
def Fy(K:PySem.W.Frag)(C:Addr)(f:Str):Prop:=PySem.W.findIn K (.ref C) f=some none
theorem Fy.QS{K:PySem.W.Frag}{C:Addr}{f:Str}(n:Fy K C f):PySem.W.takerIn K C f=some none:=by
 unfold PySem.W.takerIn;rw[show PySem.W.findIn K (.ref C) f=some none from n];rfl
structure Con(K:PySem.W.Frag)(C:Addr)(f:Str)(v:V)(u:Value):Prop where
 at_:PySem.W.findIn K (.ref C) f=some (some u)
 rel:RelV v u
 get:PySem.W.specialIn K u "__get__"=some none
 cp:PySem.W.copiedNames.contains f=false
structure Meth(K:PySem.W.Frag)(C:Addr)(m:Str)(f:Addr):Prop where
 at_:PySem.W.findIn K (.ref C) m=some (some (.ref f))
 fn:PySem.W.isFn K (.ref f)=true
 kp:PySem.W.keepIn K (.ref f)=true
section
variable{X:Cx}{pins:List (Addr×Obj)}{σ:St}{H:Hp}{s:Shared}{a C dx:Addr}{fs:List (Str×V)}{f:Str}{v:V}{A:Around}{E:Value->Shared->Prop}
theorem qo{b:Bool}{Q:Value->Shared->Prop}(I:Inv X pins σ H s)(e:H a=some (.ins C dx fs))(c:Lz X.K C)(n:Fy X.K C f)(l:fs.lookup f=some v)
  (h:∀u s',Inv X pins σ H s'->RelV v u->Q u s'):wpAny (model X.prog X.w) A (getAttr (.ref a) f b) Q E s:=by
 obtain⟨mA,O,r,_,_,_⟩:=tP I.Fn e;obtain⟨u,hu,ru⟩:=Hy.some_of (v:=v) (o:=mA f) (by rw[<-l];exact r f);exact Bq I.Jy O (c.get f) c.hd n hu (yq ru) (h u _ (I.tok _) ru)
theorem qi{m:Str}{g:Addr}{pl:Sem Bool}{Q:Value×List Value->Shared->Prop}(I:Inv X pins σ H s)(e:H a=some (.ins C dx fs))(c:Lz X.K C)(k:Meth X.K C m g)(l:fs.lookup m=none)
  (h:Q (.ref g,[.ref a]) s):wpAny (model X.prog X.w) A (getMethod (.ref a) m pl) Q E s:=by
 obtain⟨mA,O,r,_,_,_⟩:=tP I.Fn e;have hn:mA m=none:=Hy.none_of (by rw[<-l];exact r m);exact Ac I.Jy O (c.get m) k.at_ k.fn hn h
theorem qF{y:V}{u:Value}{Q:Unit->Shared->Prop}(I:Inv X pins σ H s)(e:H a=some (.ins C dx fs))(c:Lz X.K C)(n:Fy X.K C f)(hl:fs.length<1000)(ry:RelV y u)
  (h:∀s',Inv X pins σ (upd H a (.ins C dx (gJ f y fs))) s'->Q () s'):wpAny (model X.prog X.w) A (setAttr (.ref a) f u) Q E s:=by
 obtain⟨mA,O,r,wi,_,ho⟩:=tP I.Fn e;have hz:(fs.map (·.1)).length<=sizeLine:=by rw[List.length_map,sizeLine_eq];omega
 refine Bg I.Jy O c.sa c.po n.QS c.hd wi hz fun h' O' sb=>h _ ?_
 have hd:∃o,h'.get? dx=some o:=let ⟨o,_,_,e',_⟩:=O'.ns;⟨o,e'⟩
 refine I.write (x:=a) (e:=dx) (by rw[e];exact True.intro) (.inr ho) (fun b q hb z=>(sb.2 b hb).trans z) hd ?_;refine⟨by rw[bi O.ne];exact ho,?_,O.ne,O'.obj,_,O'.ns,fun g=>?_,fun g hg=>?_⟩
 ·have:=oo f y fs;omega
 ·show Hy ((gJ f y fs).lookup g) (if g=f then some u else mA g);rw[oy];by_cases q:g=f
  ·rw[if_pos q,if_pos q];exact ry
  ·rw[if_neg q,if_neg q];exact r g
 ·by_cases q:g=f
  ·rw[q];exact(n3 f y fs).1
  ·refine(n3 f y fs).2 g (wi g fun z=>hg ?_);show(if g=f then some u else mA g)=none;rw[if_neg q];exact z
theorem Inv.made(I:Inv X pins σ H s):Inv X pins σ (upd (upd H s.heap.objs.size (.own (s.heap.objs.size+1))) (s.heap.objs.size+1) (.ins C s.heap.objs.size []))
  { s with heap:=(s.heap.push PySem.W.emptyDict).push (PySem.W.instObj C s.heap.objs.size) }:=by
 have e1:(s.heap.push PySem.W.emptyDict).get? s.heap.objs.size=some PySem.W.emptyDict:=Heap.get?_push_size s.heap rfl;have e2:((s.heap.push PySem.W.emptyDict).push (PySem.W.instObj C s.heap.objs.size)).get? (s.heap.objs.size+1)=some (PySem.W.instObj C s.heap.objs.size):=by
  have:=Heap.get?_push_size (s.heap.push PySem.W.emptyDict) (o:=PySem.W.instObj C s.heap.objs.size) rfl;rwa[Heap.size_push] at this
 have e3:(s.heap.push PySem.W.emptyDict).Ns s.heap.objs.size (fun _=>none):=⟨PySem.W.emptyDict,#[],_,e1,rfl,(fun e he=>absurd he (by simp)),fun _=>rfl⟩;have I1:=I.laid (a:=s.heap.objs.size) (o:=.own (s.heap.objs.size+1)) (h':=s.heap.push PySem.W.emptyDict) (t':=s.toks) (fun b u q=>Heap.get?_push_of_some _ q) (Nat.le_refl _) ⟨_,e1⟩;refine I1.laid (a:=s.heap.objs.size+1) (o:=.ins C s.heap.objs.size []) (t':=s.toks) (fun b u q=>Heap.get?_push_of_some _ q) (Nat.le_of_eq (Heap.size_push _ _)) ?_;have ne:s.heap.objs.size≠s.heap.objs.size+1:=Nat.ne_of_lt (Nat.lt_succ_self _);refine⟨by rw[bi ne,bD],Nat.zero_le _,ne,e2,fun _=>none,(Heap.Ns1.of_empty e3).at fun o q=>Heap.get?_push_of_some _ q,fun _=>True.intro,fun y hy=>absurd rfl hy⟩
theorem B7{prog:Program}{w:World}{env:Env}{e:Expr}{f:Str}{pos:Pos}{s:Shared}{Q:Value->Shared->Prop}(hb:attributeBase e f env (eval e env)=eval e env)
  (h:wpAny (model prog w) A (eval e env) (fun o FE=>wpAny (model prog w) A (getAttr o f true) Q E FE) E s):wpAny (model prog w) A (eval (.Attribute e f pos) env) Q E s:=
 Attribute_any_ h (by rw[arm_eval_Attribute,hb])
end
def jZ(K:PySem.W.Frag)(ta tv:TE)(f:Str):TS:=fun D σ H=>tv σ H fun y H1=>ta σ H1 fun x H2=>∃a C dx fs,x=.ref a/\H2 a=some (.ins C dx fs)/\Lz K C/\Fy K C f/\fs.length<1000/\
 D.nx σ (upd H2 a (.ins C dx (gJ f y fs)))
section
variable{X:Cx}{o e value:Expr}{f:Str}{pos pos' Jz:Pos}{ta tv:TE}
end
section
variable{X:Cx}{pins:List (Addr×Obj)}{σ:St}{H:Hp}{s:Shared}{A:Around}{E:Value->Shared->Prop}{Q:Value->Shared->Prop}{c:Value}{b:Bool}
inductive JA(K:PySem.W.Frag)(H:Hp):V->Value->Prop where
 |D_:JA K H .D_ (.type "NoneType")
 |bl (x:Bool):JA K H (.bl x) (.type "bool")
 |int (i:Int):JA K H (.int i) (.type "int")
 |str (x:Str):JA K H (.str x) (.type "str")
 |Po (x:UInt64):JA K H (.Po x) (.type "float")
 |lst {a:Addr}{xs:List V}(e:H a=some (.lst xs)):JA K H (.ref a) (.type "list")
 |L4 {a:Addr}{o:Obj}{xs:List V}(e:H a=some (.L4 o (.lst xs))):JA K H (.ref a) (.type "list")
 |tup {a:Addr}{xs:List V}(e:H a=some (.tup xs)):JA K H (.ref a) (.type "tuple")
 |dK {a:Addr}{kvs:List (Key×V)}(e:H a=some (.dK kvs)):JA K H (.ref a) (.type "dict")
 |dT {a:Addr}{kvs:List (List Key×V)}(e:H a=some (.dT kvs)):JA K H (.ref a) (.type "dict")
 |ins {a C dx:Addr}{fs:List (Str×V)}(e:H a=some (.ins C dx fs)) (cl:Lz K C) (ha:PySem.W.findIn K (.ref C) "__class__"=some (some (.builtin "object.__class__")))
   (hn:PySem.W.specialIn K (.builtin "object.__class__") "__get__"=some (some (.builtin "getset_descriptor.__get__"))) (Wq:PySem.W.takesIn K (.builtin "object.__class__")=some true)
   (hm:PySem.W.mroIn K C (.type "object")=some true):JA K H (.ref a) (.ref C)
end
end L2
namespace L2
open PySem PySem.Spec PyProof.Rows
structure Gy(k:Nat)(A:Around):Prop where
 hd:A.handled=none
 dp:A.depth+3 * k+5<recursionLimit
 un:A.units+16 * k+200<cLine
theorem Gy.mono{j k:Nat}{A:Around}(r:Gy k A)(h:j<=k):Gy j A:=⟨r.hd,by have:=r.dp;omega,by have:=r.un;omega⟩
theorem Gy.deeper{k:Nat}{A:Around}(r:Gy (k+1) A)(env:Env):Gy k (A.deeper env):=
 ⟨r.hd,by have:=r.dp;show A.depth+1+3 * k+5<_;omega,by have:=r.un;show A.units+3+16 * k+200<_;omega⟩
theorem Gy.in1{k:Nat}{A:Around}(r:Gy (k+1) A):Gy k A.in1:=
 ⟨r.hd,by have:=r.dp;show A.depth+3 * k+5<_;omega,by have:=r.un;show A.units+1+16 * k+200<_;omega⟩
theorem wF{A:Around}{C:Addr}{us:List Value}{kw:List (Str×Value)}:(A.under (.builtin "type.__call__" ⟨.ref C :: us,kw⟩)).depth=A.depth+1:=by
 first|rfl|simp[Around.under,Code.weight,Code.isCreation,Code.isGuard,Code.isCaller,Code.frames,Code.isFrame,guardIds]
theorem wm{A:Around}{C:Addr}{us:List Value}{kw:List (Str×Value)}:(A.under (.builtin "type.__call__" ⟨.ref C :: us,kw⟩)).units=A.units+1:=by
 first|rfl|simp[Around.under,Code.cUnits,Code.frames,Code.isFrame]
theorem Gy.make{k:Nat}{A:Around}(r:Gy (k+1) A)(C:Addr)(us:List Value)(kw:List (Str×Value)):Gy k (A.under (.builtin "type.__call__" ⟨.ref C :: us,kw⟩)):=
 ⟨r.hd,by have:=r.dp;rw[wF];omega,by have:=r.un;rw[wm];omega⟩
theorem Gy.depth{k:Nat}{A:Around}(r:Gy k A):A.depth<recursionLimit:=by have:=r.dp;omega
theorem Gy.units{k:Nat}{A:Around}(r:Gy k A):A.units+64<cLine:=by have:=r.un;omega
section
variable{X:Cx}{e:Expr}{es:List Expr}{te:TE}{t:TA}{pos:Pos}
end
abbrev Sp:=List V->Hp->VK->XK->Prop
abbrev Je:=List Env->Hp->Shared->XK->Value->Shared->Prop
structure Ka(P:Program)(w:World)(K:PySem.W.Frag)(mg:Str->Option Value)(base:Heap)(A:Around)(outer:List Env)(s:Shared)(H:Hp):Prop where
 frames:A.frames=some outer
 mod:Mod K mg base
 bs:∀b o,base.get? b=some o->s.heap.get? b=some o/\H b=none
 M5:base.objs.size<=s.heap.objs.size
 IK:s.heap.FunFrames base outer
 Ob:∀b∈LX outer,H b=none
 Fn:G6 P w H s.heap
 bare:AllBare s.gens
def CE(outer:List Env)(P:Program)(w:World)(H:Hp)(s:Shared)(Q:VK)(u:Value)(s':Shared):Prop:=
 ∃v H',s'.os=s.os/\AllBare s'.gens/\Un (LX outer) [] H H' s.heap s'.heap/\G6 P w H' s'.heap/\RelV v u/\Q v H'
def CR(CX:Je)(outer:List Env)(P:Program)(w:World)(H:Hp)(s:Shared)(Q:VK)(E:XK)(r:Result)(s':Shared):Prop:=
 match r with
 |.ok (.ret u)=>CE outer P w H s Q u s'
 |.ok _=>False
 |.error e=>CX outer H s E e s'
structure IP(P:Program)(w:World)(K:PySem.W.Frag)(mg:Str->Option Value)(base:Heap)(CX:Je)(k:Nat)(f:Addr)(fd:FuncData)(ps:List Str)(sp:Sp):Prop where
 len:∀vs H Q E,sp vs H Q E->vs.length=ps.length
 run:∀(A:Around) (outer:List Env) (s:Shared) (H:Hp) (args:Args) (us:List Value) (vs:List V) (Q:VK) (E:XK),Gy k A->Ka P w K mg base A outer s H->BindsTo s fd args (ps.zip us)->Vals vs us->sp vs H Q E->
  codeAny (model P w) A (.call (.ref f) args) (CR CX outer P w H s Q E) s
theorem IP.mono{P:Program}{w:World}{K:PySem.W.Frag}{mg:Str->Option Value}{base:Heap}{CX:Je}{j k:Nat}{f:Addr}{fd:FuncData}{ps:List Str}{sp:Sp}(F:IP P w K mg base CX j f fd ps sp)(h:j<=k) :
  IP P w K mg base CX k f fd ps sp:=⟨F.len,fun A outer s H args us vs Q E hr=>F.run A outer s H args us vs Q E (hr.mono h)⟩
theorem IP.imp{P:Program}{w:World}{K:PySem.W.Frag}{mg:Str->Option Value}{base:Heap}{CX:Je}{k:Nat}{f:Addr}{fd:FuncData}{ps:List Str}{sp Wr:Sp}(F:IP P w K mg base CX k f fd ps sp)
  (h:∀vs H Q E,Wr vs H Q E->sp vs H Q E):IP P w K mg base CX k f fd ps Wr:=
 ⟨fun vs H Q E q=>F.len vs H Q E (h _ _ _ _ q),fun A outer s H args us vs Q E hr he hb hv hs=>F.run A outer s H args us vs Q E hr he hb hv (h _ _ _ _ hs)⟩
theorem Ka.make{P:Program}{w:World}{K:PySem.W.Frag}{mg:Str->Option Value}{base:Heap}{A:Around}{outer:List Env}{s:Shared}{H:Hp}(e:Ka P w K mg base A outer s H)(C:Addr)(us:List Value)(kw:List (Str×Value)) :
  Ka P w K mg base (A.under (.builtin "type.__call__" ⟨.ref C :: us,kw⟩)) outer s H:=⟨by first|exact e.frames|(simpa[Around.under,Code.envs,Code.isFrame,pushEnvs] using e.frames),e.mod,e.bs,e.M5,e.IK,e.Ob,e.Fn,e.bare⟩
theorem Ka.in1{P:Program}{w:World}{K:PySem.W.Frag}{mg:Str->Option Value}{base:Heap}{A:Around}{outer:List Env}{s:Shared}{H:Hp}(e:Ka P w K mg base A outer s H) :
  Ka P w K mg base A.in1 outer s H:=⟨e.frames,e.mod,e.bs,e.M5,e.IK,e.Ob,e.Fn,e.bare⟩
section
variable{X:Cx}{pins:List (Addr×Obj)}{σ:St}{H:Hp}{s s':Shared}
theorem Inv.QT(I:Inv X pins σ H s):Ka X.prog X.w X.K X.mg X.base X.A X.stack s H:=
 ⟨I.ok.frames,I.ok.mod,I.bs,Nat.le_trans I.ok.M5 I.sz,I.stack,I.KS,I.Fn,I.bare⟩
theorem Inv.after{Q:VK}{u:Value}(I:Inv X pins σ H s)(h:CE X.stack X.prog X.w H s Q u s'):EP X pins σ Q u s':=by
 obtain⟨v,H',os,bare,un,Fn,r,q⟩:=h;obtain⟨hh,g,d,t,Td⟩:=s';obtain rfl:Td=s.os:=os;exact⟨v,H',I.call (h':=hh) (g':=g) (d':=d) (t':=t) (ch:=[]) un Fn bare (fun b z=>absurd z (by simp)),r,q⟩
end
def Binds(K:PySem.W.Frag)(fd:FuncData)(ps:List Str)(ds:List Value):Prop:=
 ∀(s:Shared) (us:List Value),K.In s.heap->(us++ds).length=ps.length->BindsTo s fd ⟨us,[]⟩ (ps.zip (us++ds))
theorem Binds.all{K:PySem.W.Frag}{fd:FuncData}{ps:List Str}(h:∀us:List Value,us.length=ps.length->bindArgs fd ⟨us,[]⟩=pure (ps.zip us)):Binds K fd ps []:=fun s us _ hl=>by
 rw[List.append_nil] at hl ⊢;exact .of_eq (h us hl)
section
variable{X:Cx}{CX:Je}{k:Nat}{f C:Addr}{fd:FuncData}{ps:List Str}{sp:Sp}{dvs:List V}{ds:List Value}{E:XK}{x m:Str}{p pos apos:Pos}{e o:Expr}{es:List Expr}{ta:TE}{t:TA}
structure Mk(K:PySem.W.Frag)(C f:Addr):Prop where
 makes:PySem.W.makesIn K C=true
 init:PySem.W.findIn K (.ref C) "__init__"=some (some (.ref f))
 fn:PySem.W.isFn K (.ref f)=true
 kp:PySem.W.keepIn K (.ref C)=true
end
section
variable{X:Cx}{CX:Je}{k:Nat}{f C:Addr}{fd:FuncData}{ps ks:List Str}{sp:Sp}{E:XK}{x m:Str}{p pos apos X9:Pos}{e o:Expr}{es:List Expr}{kws:List Keyword}{te ta:TE}{t tk:TA}{nm:Option Str}
structure Te(K:PySem.W.Frag)(fd:FuncData)(ps ks:List Str)(g:List Value->List Value->List Value)(gV:List V->List V->List V):Prop where
 to:∀(s:Shared) (us ws:List Value),K.In s.heap->(g us ws).length=ps.length->BindsTo s fd ⟨us,ks.zip ws⟩ (ps.zip (g us ws))
 rel:∀{vs:List V}{us:List Value}{zs:List V}{ws:List Value},Vals vs us->Vals zs ws->Vals (gV vs zs) (g us ws)
variable{g:List Value->List Value->List Value}{gV:List V->List V->List V}
end
structure n_(N P:List Str)(sc:Scope):Prop where
 kind:sc.kind=.function
 co:sc.isCoroutine=false
 gen:sc.isGenerator=false
 nd:N.Nodup
 pre:N.take P.length=P
 par:∀x∈P,sc.names.lookup x=some .local\/sc.names.lookup x=some .cell
 Pt:∀y∈sc.names,y.2≠.free
theorem rO{kindOf:Str->Option NameKind}{x:Str}:∀{binds:List (Str×Value)}{m:Str->Option Value},(∀v,(x,v)∉binds)->bindL kindOf binds m x=m x
 |[],_,_=>rfl
 |(n,v) :: r,m,h=>by
  unfold bindL;rw[rO fun w hw=>h w (List.mem_cons_of_mem _ hw)];split
  ·have:x≠n:=by rintro rfl;exact h v List.mem_cons_self
   simp[this]
  ·rfl
theorem sF{kindOf:Str->Option NameKind}{x:Str}:∀{binds:List (Str×Value)}{m:Str->Option Value},(∀v,(x,v)∉binds)->bindC kindOf binds m x=m x
 |[],_,_=>rfl
 |(n,v) :: r,m,h=>by
  unfold bindC;rw[sF fun w hw=>h w (List.mem_cons_of_mem _ hw)];split
  ·rfl
  ·have:x≠n:=by rintro rfl;exact h v List.mem_cons_self
   simp[this]
theorem sy{kindOf:Str->Option NameKind}{x:Str}{v:Value}:∀{P:List Str}{vs:List Value}{i:Nat}{m:Str->Option Value},P.Nodup->P[i]?=some x->vs[i]?=some v->kindOf x=some .local->
  bindL kindOf (P.zip vs) m x=some v
 |[],_,_,_,_,h,_,_=>by simp at h
 |_ :: _,[],_,_,_,_,h,_=>by simp at h
 |p :: P,w :: vs,0,m,nd,h1,h2,hk=>by
  simp at h1 h2;subst h1;subst h2;show bindL kindOf ((p,w) :: P.zip vs) m p=_;unfold bindL;rw[rO fun v hv=>(List.nodup_cons.mp nd).1 (List.of_mem_zip hv).1,if_pos hk];simp
 |p :: P,w :: vs,i+1,m,nd,h1,h2,hk=>by
  show bindL kindOf ((p,w) :: P.zip vs) m x=_;unfold bindL;exact sy (i:=i) (List.nodup_cons.mp nd).2 (by simpa using h1) (by simpa using h2) hk
theorem rZ{kindOf:Str->Option NameKind}{x:Str}{v:Value}:∀{P:List Str}{vs:List Value}{i:Nat}{m:Str->Option Value},P.Nodup->P[i]?=some x->vs[i]?=some v->kindOf x≠some .local->
  bindC kindOf (P.zip vs) m x=some v
 |[],_,_,_,_,h,_,_=>by simp at h
 |_ :: _,[],_,_,_,_,h,_=>by simp at h
 |p :: P,w :: vs,0,m,nd,h1,h2,hk=>by
  simp at h1 h2;subst h1;subst h2;show bindC kindOf ((p,w) :: P.zip vs) m p=_;unfold bindC;rw[sF fun v hv=>(List.nodup_cons.mp nd).1 (List.of_mem_zip hv).1,if_neg hk];simp
 |p :: P,w :: vs,i+1,m,nd,h1,h2,hk=>by
  show bindC kindOf ((p,w) :: P.zip vs) m x=_;unfold bindC;exact rZ (i:=i) (List.nodup_cons.mp nd).2 (by simpa using h1) (by simpa using h2) hk
def start(N:List Str)(vs:List V):St:=vs.map some++List.replicate (N.length-vs.length) none
def oO(CX:Je)(P:Program)(w:World)(K:PySem.W.Frag)(mg:Str->Option Value)(base:Heap)(N:List Str)(qual:Str)(scope:Scope)(f:Addr)(cd:Value)(A:Around)(outer:List Env)(s:Shared)(H:Hp)(E:XK):Cx where
 prog:=P
 w:=w
 K:=K
 mg:=mg
 base:=base
 A:=A.deeper (envOfC qual scope s.heap.objs.size f cd)
 N:=N
 G1:=s
 Nd:=H
 env:=envOfC qual scope s.heap.objs.size f cd
 outer:=outer
 stack:=envOfC qual scope s.heap.objs.size f cd :: outer
 ex:=[]
 calm:=true
 fn:=fun _=>true
 pn:=[]
 xe:=fun e s'=>wpAny (model P w) (A.deeper (envOfC qual scope s.heap.objs.size f cd)) (leaving (envOfC qual scope s.heap.objs.size f cd) e) (fun _ Oc=>CX outer H s E e Oc) (fun e' Oc=>CX outer H s E e' Oc) s'
theorem vp{sc:Scope}{n:Nat}{x:Str}(h:sc.names.lookup x=some .cell):∃c,(cellsFrom n sc.names []).lookup x=some c:=by
 have q:=PySem.W.cellsFrom_some sc.names n [] (.inl h);exact Option.isSome_iff_exists.mp q
theorem yg{CX:Je}{P:Program}{w:World}{K:PySem.W.Frag}{mg:Str->Option Value}{base:Heap}{N ps:List Str}{qual:Str}{scope:Scope}{f:Addr}{cd:Value}{A:Around}{outer:List Env}{s s1:Shared}{H:Hp}{E:XK}{us:List Value}{vs:List V}
  (S:n_ N ps scope) (hd:A.handled=none) (e0:Ka P w K mg base A outer s H) (hl:vs.length=ps.length) (r:Vals vs us)
  (x:InCallC s s.heap.objs.size (bindL (envOfC qual scope s.heap.objs.size f cd).kindOf (ps.zip us) fun _=>none) (cellsFrom (s.heap.objs.size+1) scope.names []) (bindC (envOfC qual scope s.heap.objs.size f cd).kindOf (ps.zip us) fun _=>none) s1) :
  Inv (oO CX P w K mg base N qual scope f cd A outer s H E) [] (start N vs) H s1:=by
 have LB:ps.length<=N.length:=by have:=congrArg List.length S.pre;rw[List.length_take] at this;omega
 obtain⟨h1,tk,rfl,hk⟩:=x.done;have QU:∀b:Addr,b∉(oO CX P w K mg base N qual scope f cd A outer s H E).ex:=fun b z=>absurd (show b∈([]:List Addr) from z) (by simp)
 refine⟨⟨e0.mod,S.kind,rfl,rfl,Nat.le_refl _,fun y z c h1 h2=>?_,fun y hy=>?_,fun y c _ h=>?_,fun _=>hd,Around.frames_deeper e0.frames,.inr ⟨rfl,rfl⟩,fun b z=>absurd z (QU b),e0.bs,e0.M5,fun b _ _=>QU b,fun b z=>absurd z (QU b),e0.IK,e0.Ob⟩,
  rfl,e0.bare,Un.kept hk,⟨_,x.toInCall.ns,fun i y v h1 h2 h3=>?_⟩,fun y c h=>⟨_,x.cell y c h⟩,e0.Fn.fresh (Nat.le_refl _),fun y c h=>?_,fun p hp=>absurd (show p∈([]:List (Addr×Obj)) from hp) (by simp),e0.Fn.kept hk,?_⟩
 ·exact name_of_addr x.apart (PySem.mem_of_lookup h1) (PySem.mem_of_lookup h2)
 ·have hy:scope.names.lookup y=some .cell\/scope.names.lookup y=some .free:=hy;rcases hy with hy|hy
  ·exact vp hy
  ·exact absurd rfl (S.Pt _ (PySem.mem_of_lookup hy))
 ·exact Nat.le_of_lt (x.above y c (PySem.mem_of_lookup h))
 ·have hi:i<vs.length:=by
   unfold start at h2;by_cases hi:i<vs.length
   ·exact hi
   ·rw[List.getElem?_append_right (by simpa using hi)] at h2;rw[List.getElem?_replicate] at h2;split at h2<;>cases h2
  have ha:vs[i]?=some v:=by
   unfold start at h2;rw[List.getElem?_append_left (by simpa using hi),List.getElem?_map] at h2;cases e:vs[i]? with
   |none=>rw[e] at h2;cases h2
   |some a=>rw[e] at h2;cases h2;rfl
  obtain⟨u,hu,rv⟩:=r.get ha;have hp:ps[i]?=some y:=by
   rw[<-S.pre,List.getElem?_take_of_lt (by omega)];exact h1
  have Ws:ps.Nodup:=by rw[<-S.pre];exact S.nd.sublist (List.take_sublist _ _)
  refine⟨u,rv,?_⟩;rcases S.par y (List.mem_of_getElem? hp) with k|k
  ·exact .inl ⟨k,sy Ws hp hu k⟩
  ·obtain⟨c,e⟩:=vp (n:=s.heap.objs.size+1) k;refine .inr ⟨.inl k,c,e,?_⟩;have q:=x.cell y c e;rw[rZ Ws hp hu (by show scope.names.lookup y≠_;rw[k];decide)] at q;exact q
 ·exact e0.Fn.fresh (Nat.le_of_lt (x.above y c (PySem.mem_of_lookup h)))
 ·unfold start;show _=N.length;rw[List.length_append,List.length_map,List.length_replicate];omega
theorem Ci{CX:Je}{P:Program}{w:World}{K:PySem.W.Frag}{mg:Str->Option Value}{base:Heap}{k:Nat}{f:Addr}{name qual:Str}{params:Arguments}{body:List Stmt}{scope:Scope}{dV kV doc pm Fm ct oc:Value}{an od:Option Addr}
  {M7:Array (Option Value)}{N ps:List Str}{sp:Sp}(lk:K.lookup f=some ⟨oc,od,.func (PySem.W.fnOf name qual params body scope dV kV doc pm an Fm ct),M7⟩) (LY:PySem.W.codeIn K Fm qual=true) (S:n_ N ps scope)
  (len:∀vs H Q E,sp vs H Q E->vs.length=ps.length)
  (LC:∀(A:Around) (outer:List Env) (s:Shared) (H:Hp) (vs:List V) (Q:VK) (E:XK),Gy k (A.deeper (envOfC qual scope s.heap.objs.size f Fm))->sp vs H Q E->
   ∃t,QQ (oO CX P w K mg base N qual scope f Fm A outer s H E) body t/\t { nx:=fun _ H'=>Q .D_ H',rt:=Q } (start N vs) H) :
  IP P w K mg base CX (k+1) f (PySem.W.fnOf name qual params body scope dV kV doc pm an Fm ct) ps sp:=by
 refine⟨len,fun A outer s H args us vs Q E hr e0 hb r N2=>?_⟩;have hl:=len _ _ _ _ N2;have KX:K.In s.heap:=e0.mod.Qh.keeps fun b o e=>(e0.bs b o e).1
 have lim:s.heap.NoLimit:=e0.mod.nolimit.keeps fun b o e=>(e0.bs b o e).1
 have QV:∀y∈ps.zip us,scope.names.lookup y.1=some .local\/(scope.names.lookup y.1=some .cell/\((cellsFrom (s.heap.objs.size+1) scope.names []).lookup y.1).isSome=true):=fun ⟨n,v⟩ hy=>by
  rcases S.par n (List.of_mem_zip hy).1 with q|q
  ·exact .inl q
  ·exact .inr ⟨q,PySem.W.cellsFrom_some _ _ _ (.inl q)⟩
 refine codeAny_call_function hr.depth (KX _ _ lk) rfl S.co S.gen rfl (PySem.W.codeRec_of KX LY) (hb _ _ _ _ ?_);refine wpAny_newFunctionEnv_cells S.kind QV fun env he s1 x=>?_
 subst he;refine⟨lim.keeps x.toInCall.keep,codeAny_func ?_⟩;obtain⟨t,ht,hq⟩:=LC A outer s H vs Q E (hr.deeper _) N2;have I:Inv (oO CX P w K mg base N qual scope f Fm A outer s H E) [] (start N vs) H s1:=yg S hr.hd e0 hl r x;refine wpAny_mono (ht [] s1 (start N vs) H _ I hq) (fun fl s' hs=>?_) fun e s' hs=>hs
 have fin:∀{FJ:St}{H':Hp}{v:V}{u:Value},Inv (oO CX P w K mg base N qual scope f Fm A outer s H E) [] FJ H' s'->RelV v u->Q v H'->CE outer P w H s Q u s':=
  fun {FJ H' v u} J rv q=>⟨v,H',J.os,J.bare,J.base,J.Fn,rv,q⟩
 cases fl with
 |ret u=>
  obtain⟨v,FJ,H',J,rv,q⟩:=hs;exact fin J rv q
 |next=>
  obtain⟨FJ,H',J,q⟩:=hs;exact fin (v:=V.D_) (u:=Value.none) J rfl q
 |brk=>
  obtain⟨_,_,_,q⟩:=hs;exact False.elim q
 |cont=>
  obtain⟨_,_,_,q⟩:=hs;exact False.elim q
end L2
namespace L2
open PySem PySem.Spec PyProof.Rows
section
variable{X:Cx}{x:Str}{p pos:Pos}{e:Expr}{es:List Expr}{t:TA}{id T:String}{r:List V->Hp->VK->Prop}
end
end L2
namespace HT
open PySem PyProof.Rows
section
open PySem.SeqAt
open PySem.AutoSeq1 (wpAny_loadPart')
open PySem.MeetsSeq PySem.MeetsSeq2 PySem.MeetsSeq3
end
section
variable{prog:Program}{w:World}{A:Around}{E:Value->Shared->Prop}{s:Shared}
theorem Od{t b:Addr}{vs ws:List Value}{Q:Value->Shared->Prop}(ht:IsTup s.heap t vs.toArray)(hb:IsTup s.heap b ws.toArray)(hv:vs≠[])
  (h1:ws=[]->Q (.ref t) s) (h2:ws≠[]->Q (.ref s.heap.objs.size) { s with heap:=s.heap.push { cls:=.type "tuple",data:=.seq (vs++ws).toArray } })
  (hsz:vs.length+ws.length<=sizeLine):wpAny (model prog w) A (binaryOp .Add (.ref t) (.ref b)) Q E s:=by
 obtain⟨⟨cls,dd,data,sl⟩,ho,hc,n,hd⟩:=id ht;obtain⟨⟨QW,Ql,data2,Qm⟩,MO,O5,n2,hd2⟩:=id hb;simp only at hc hd O5 hd2;subst hc hd O5 hd2;have e:vs.toArray++ws.toArray=(vs++ws).toArray:=by simp
 by_cases hw:ws=[]
 ·exact concat_meets ⟨_,ho,rfl⟩ ⟨_,MO,rfl⟩ noFill_tuple_add seq_tuple_add PySem.F.slot_tuple_add PySem.F.entry_tuple_add (PySem.F.args_tuple_add_2 _ _)
   (tuple_addW1 t b vs.toArray ws.toArray n n2 dd Ql sl Qm (by simpa using hv) (by simp[hw])) ⟨ho,MO,h1 hw⟩
 ·refine concat_meets ⟨_,ho,rfl⟩ ⟨_,MO,rfl⟩ noFill_tuple_add seq_tuple_add PySem.F.slot_tuple_add PySem.F.entry_tuple_add (PySem.F.args_tuple_add_2 _ _)
   (tuple_addW2 t b vs.toArray ws.toArray n n2 dd Ql sl Qm (by simpa using hv) (by simpa using hw) (by rw[List.size_toArray,List.size_toArray];exact hsz)) ⟨ho,MO,?_⟩
  rw[e];exact h2 hw
def Gs(n d:Nat):Option Int->Nat
 |none=>d
 |some v=>if v<0 then (v+(n:Int)).toNat else min v.toNat n
theorem IQ(n d:Nat):Gs n d none=d:=rfl
theorem Hz(n d k:Nat):Gs n d (some (k:Int))=min k n:=by
 show(if (k:Int)<0 then ((k:Int)+(n:Int)).toNat else min (k:Int).toNat n)=min k n;rw[if_neg (by omega),Int.toNat_natCast]
theorem Dz(n d:Nat)(hd:d<=n)(o:Option Int):Gs n d o<=n:=by
 cases o with
 |none=>exact hd
 |some v=>
  show(if v<0 then (v+(n:Int)).toNat else min v.toNat n)<=n;by_cases hv:v<0
  ·rw[if_pos hv];omega
  ·rw[if_neg hv];exact Nat.min_le_right _ _
theorem xD(v:Int)(n d:Nat):(if v<0 then max (v+(n:Int)) 0 else min v (n:Int))=((Gs n d (some v):Nat):Int):=by
 show(if v<0 then max (v+(n:Int)) 0 else min v (n:Int))=(((if v<0 then (v+(n:Int)).toNat else min v.toNat n):Nat):Int);by_cases hv:v<0
 ·simp only[if_pos hv];omega
 ·simp only[if_neg hv];omega
theorem wt(lo hi:Option Int)(n:Nat):Builtin.Slice.sliceAdjust lo hi 1 (n:Int)=(((Gs n 0 lo:Nat):Int),((Gs n n hi:Nat):Int)):=by
 have h1:¬((1:Int)<0):=by omega
 unfold Builtin.Slice.sliceAdjust;simp only[h1,if_false];refine Prod.ext ?_ ?_
 ·cases lo with
  |none=>rfl
  |some v=>exact xD v n 0
 ·cases hi with
  |none=>rfl
  |some v=>exact xD v n n
theorem wT(i j:Nat):Builtin.Slice.slicePlaces (i:Int) (j:Int) 1=j-i:=by
 unfold Builtin.Slice.slicePlaces;have h1:(1:Int) > 0:=by omega
 simp only[h1,if_true,Int.ediv_one];split<;>omega
theorem p8{v:Value}{o:Option Int}{Q:Option Int->Shared->Prop}(p:IsPart v o)(h:Q o s):wpAny (model prog w) A (Builtin.Slice.slicePartIndex v) Q E s:=by
 cases p with
 |none=>exact slicePart_none h
 |int i t=>exact slicePart_int h
theorem Ho{sl:Addr}{vl vu:Value}{lo hi:Option Int}{n:Nat}{Q:Int×Int×Nat->Shared->Prop}(hs:s.heap.IsSliceOf sl vl vu .none)(pl:IsPart vl lo)(pu:IsPart vu hi)
  (h:Q (((Gs n 0 lo:Nat):Int),1,Gs n n hi-Gs n 0 lo) s):wpAny (model prog w) A (Builtin.Slice.sliceApplied (.ref sl) (pure (n:Int))) Q E s:=by
 obtain⟨os,Pu,JW,Pw⟩:=id hs;unfold Builtin.Slice.sliceApplied Builtin.Slice.sliceFields;refine wpAny_bind (wpAny_bind (wpAny_field Pu Pw (x:=vl) rfl (wpAny_bind (wpAny_field Pu Pw (x:=vu) rfl (wpAny_bind (wpAny_field Pu Pw (x:=.none) rfl (wpAny_pure ?_)))))));refine wpAny_bind (slicePart_none ?_);show wpAny _ _ (if ((1:Int) == 0)=true then _ else _) _ _ s;rw[if_neg (by decide)];refine wpAny_bind (p8 pl (wpAny_bind (p8 pu (wpAny_bind (wpAny_pure ?_)))));show wpAny _ _ (match Builtin.Slice.sliceAdjust lo hi 1 (n:Int) with|(lo,hi)=>pure (lo,(1:Int),Builtin.Slice.slicePlaces lo hi 1)) _ _ s;rw[wt lo hi n];show wpAny _ _ (pure (((Gs n 0 lo:Nat):Int),(1:Int),Builtin.Slice.slicePlaces ((Gs n 0 lo:Nat):Int) ((Gs n n hi:Nat):Int) 1)) _ _ s;rw[wT];exact wpAny_pure h
theorem Al(xs:Array Value)(i k:Nat):((List.range k).filterMap fun(m:Nat)=>xs[((i:Int)+(m:Int) * 1).toNat]?).toArray=((xs.toList.drop i).take k).toArray:=by
 have e:(fun(m:Nat)=>xs[((i:Int)+(m:Int) * 1).toNat]?)=fun m=>xs[i+m]?:=by
  funext m;have:((i:Int)+(m:Int) * 1).toNat=i+m:=by omega
  rw[this]
 rw[e];have:=pick_run xs i k;rw[List.filterMap_map] at this;have e2:((fun x=>xs[x]?) ∘ fun x=>i+x)=fun m=>xs[i+m]?:=rfl
 rw[e2] at this;rw[this]
theorem IS{t sl:Addr}{items:Array Value}{vl vu:Value}{lo hi:Option Int}{Q:Value->Shared->Prop}(ht:IsTup s.heap t items)(hs:s.heap.IsSliceOf sl vl vu .none)(pl:IsPart vl lo)(pu:IsPart vu hi)
  (hw:¬(Gs items.size 0 lo=0/\Gs items.size items.size hi=items.size))
  (h:Q (.ref s.heap.objs.size) { s with heap:=s.heap.push { cls:=.type "tuple",data:=.seq ((items.toList.drop (Gs items.size 0 lo)).take (Gs items.size items.size hi-Gs items.size 0 lo)).toArray } })
  (hsz:items.size<=sizeLine):wpAny (model prog w) A (getItem (.ref t) (.ref sl)) Q E s:=by
 have Mw:sizeOk (.seq ((items.toList.drop (Gs items.size 0 lo)).take (Gs items.size items.size hi-Gs items.size 0 lo)).toArray):=by
  show((items.toList.drop (Gs items.size 0 lo)).take (Gs items.size items.size hi-Gs items.size 0 lo)).toArray.size<=sizeLine;rw[List.size_toArray,List.length_take,List.length_drop,Array.length_toList];omega
 have hj:Gs items.size items.size hi<=items.size:=Dz _ _ (Nat.le_refl _) hi;obtain⟨os,Pu,JW,Pw⟩:=id hs;have Tf:s.TypeIs (.ref sl) "slice":=⟨os,Pu,JW⟩;unfold getItem
 try with_reducible refine wpAny_holding ?_
 first|refine wpAny_bind (wpAny_pure ?_)|skip
 refine wpAny_bind (wpAny_sequenceKey ht.typeIs (by decide) ?_);refine wpAny_bind (wpAny_callSpecial?_slot (name:=Str.ofString "__getitem__") ht.typeIs PyProof.Rows.slot_tuple_getitem
  (wpAny_call_entry PyProof.Rows.slot_tuple_getitem ht.typeIs entry_tuple_getitem ?_ (args_tuple_getitem _ _)))
 show wpAny _ _ (Builtin.Tuple.tupleItemsOf (.ref t) >>= _) _ _ s;refine wpAny_bind (tupleItemsOf_ ht ?_);refine wpAny_bind (wpAny_typeOf Tf ?_);rw[if_pos (by decide)];refine wpAny_bind (Ho hs pl pu ?_);have Mx:¬((((Gs items.size 0 lo:Nat):Int) == 0 && (1:Int) == 1 && (Gs items.size items.size hi-Gs items.size 0 lo) == items.size)=true):=by
  intro q;rw[Bool.and_eq_true,Bool.and_eq_true] at q;have q1:((Gs items.size 0 lo:Nat):Int)=0:=eq_of_beq q.1.1;have q2:Gs items.size items.size hi-Gs items.size 0 lo=items.size:=eq_of_beq q.2;exact hw ⟨by omega,by omega⟩
 show wpAny _ _ (if (((Gs items.size 0 lo:Nat):Int) == 0 && (1:Int) == 1 && (Gs items.size items.size hi-Gs items.size 0 lo) == items.size)=true then _ else _) _ _ s;rw[if_neg Mx,Al]
 first
  |exact wpAny_bind (m:=Builtin.Tuple.tupleExact _) (wpAny_newObj_type (wpAny_pure ⟨_,rfl,wpAny_pure h⟩) Mw)
  |exact wpAny_bind (m:=Builtin.Tuple.tupleExact _) (wpAny_newObj_type (wpAny_bind (wpAny_pure (wpAny_pure ⟨_,rfl,wpAny_pure h⟩))) Mw)
  |exact wpAny_bind (wpAny_bind (m:=Builtin.Tuple.tupleExact _) (wpAny_newObj_type (wpAny_pure (wpAny_pure ⟨_,rfl,wpAny_pure h⟩)) Mw))
  |exact wpAny_bind (wpAny_bind (m:=Builtin.Tuple.tupleExact _) (wpAny_newObj_type (wpAny_pure ⟨_,rfl,wpAny_pure h⟩) Mw))
end
end HT
namespace L2
open PySem PySem.Spec PyProof.Rows
abbrev TO:=St->Hp->(Option Int->Hp->Prop)->Prop
theorem wJ{ns:List Int}:∀{us:List Value},Vals (ns.map V.int) us->IntsAre us ns:=by
 induction ns with
 |nil=>intro us r;rw[List.map_nil] at r;cases r;exact .nil
 |cons n ns ih=>
  intro us r;rw[List.map_cons] at r;cases r with
  |cons r1 r2=>
   obtain⟨t,e⟩:=r1;subst e;exact .cons n t (ih r2)
section
variable{X:Cx}{e:Expr}{te:TE}{lo hi:Option Expr}{tl th:TO}{pos p2:Pos}
def QX(X:Cx)(r:V->Option Int->Option Int->Hp->VK->Prop):Prop:=
 ∀(pins:List (Addr×Obj)) (s:Shared) (σ:St) (H:Hp) (x:V) (v vl vu:Value) (lo hi:Option Int) (sl:Addr) (Q:VK),Inv X pins σ H s->RelV x v->s.heap.IsSliceOf sl vl vu .none->IsPart vl lo->IsPart vu hi->r x lo hi H Q->
  ∃T id,typeLookup (.type T) "__getitem__"=pure (some (.builtin id))/\s.TypeIs v T/\wpAny (model X.prog X.w) X.A (getItem v (.ref sl)) (EP X pins σ Q) X.xe s
theorem QX.or{r r':V->Option Int->Option Int->Hp->VK->Prop}(h:QX X r)(h':QX X r'):QX X (fun x lo hi H Q=>r x lo hi H Q\/r' x lo hi H Q):=by
 intro pins s σ H x v vl vu lo hi sl Q I rx hs pl pu q;rcases q with q|q
 ·exact h pins s σ H x v vl vu lo hi sl Q I rx hs pl pu q
 ·exact h' pins s σ H x v vl vu lo hi sl Q I rx hs pl pu q
def vU(xs:List V)(lo hi:Option Int):List V:=(xs.drop (HT.Gs xs.length 0 lo)).take (HT.Gs xs.length xs.length hi-HT.Gs xs.length 0 lo)
theorem ol(xs:List V)(lo hi:Option Int):(vU xs lo hi).length<=xs.length:=by
 unfold vU;rw[List.length_take,List.length_drop];omega
theorem Vals.IT{xs:List V}{us:List Value}(r:Vals xs us):us=[]↔xs=[]:=by
 cases r with
 |nil=>simp
 |cons _ _=>simp
end
end L2
namespace L2
open PySem PySem.Spec PyProof.Rows
def My(n:Nat)(i:Int):Option Nat:=if 0<=i then (if i<n then some i.toNat else none) else if -(n:Int)<=i then some (i+n).toNat else none
def Lp{α:Type}(xs:List α)(i:Int):Option α:=(My xs.length i).bind fun j=>xs[j]?
theorem xb{n:Nat}{i:Int}{j:Nat}(h:My n i=some j):seqIndex? i n=some j/\j<n/\-(n:Int)<=i/\i<n:=by
 unfold My at h;by_cases h0:0<=i
 ·rw[if_pos h0] at h;by_cases h1:i<n
  ·rw[if_pos h1] at h;have e:i.toNat=j:=Option.some.inj h;exact⟨by rw[seqIndex_of h0 h1,e],by omega,by omega,h1⟩
  ·rw[if_neg h1] at h;cases h
 ·rw[if_neg h0] at h;by_cases h1:-(n:Int)<=i
  ·rw[if_pos h1] at h;have e:(i+n).toNat=j:=Option.some.inj h;exact⟨by rw[seqIndex_neg (by omega) h1,e],by omega,h1,by omega⟩
  ·rw[if_neg h1] at h;cases h
theorem xK{α:Type}{xs:List α}{i:Int}{v:α}(h:Lp xs i=some v):∃j,seqIndex? i xs.length=some j/\xs[j]?=some v/\j<xs.length/\-(xs.length:Int)<=i/\i<xs.length:=by
 unfold Lp at h;cases e:My xs.length i with
 |none=>rw[e] at h;cases h
 |some j=>
  rw[e] at h;obtain⟨h1,h2,h3,h4⟩:=xb e;exact⟨j,h1,h,h2,h3,h4⟩
theorem tN{α:Type}{xs:List α}{j:Nat}{v:α}(h:xs[j]?=some v):Lp xs (j:Int)=some v:=by
 have hj:j<xs.length:=(List.getElem?_eq_some_iff.mp h).1;have e:My xs.length (j:Int)=some j:=by
  unfold My;rw[if_pos (by omega),if_pos (by omega)];simp
 unfold Lp;rw[e];exact h
def BE(b:Expr):Prop:=∀o i,subscripted b false o i=operate [o,i] (getItem o i)
def Px(X:Cx)(r:R2):Prop:=
 ∀(value slice:Expr) (pins:List (Addr×Obj)) (s:Shared) (σ:St) (H:Hp) (x y:V) (v u:Value) (Q:VK),Inv X pins σ H s->RelV x v->RelV y u->r x y H Q->
  subscripted slice false v u=operate [v,u] (getItem v u)->wpAny (model X.prog X.w) X.A (subscriptTail value slice v u) (EP X pins σ Q) X.xe s
def R4(X:Cx)(id:String)(r:V->List V->Hp->VK->Prop):Prop:=
 ∀(pins:List (Addr×Obj)) (s:Shared) (σ:St) (H:Hp) (x:V) (xs:List V) (v:Value) (us:List Value) (Q:VK),Inv X pins σ H s->RelV x v->Vals xs us->r x xs H Q->
  wpAny (model X.prog X.w) X.A (call (.builtin id) (v :: us)) (EP X pins σ Q) X.xe s
section
variable{X:Cx}{a b:Expr}{ta tb:TE}{pos:Pos}
theorem Px.or{r r':R2}(h:Px X r)(h':Px X r'):Px X (fun x y H Q=>r x y H Q\/r' x y H Q):=by
 intro value slice pins s σ H x y v u Q I rx ry q hs;rcases q with q|q
 ·exact h value slice pins s σ H x y v u Q I rx ry q hs
 ·exact h' value slice pins s σ H x y v u Q I rx ry q hs
theorem R4.or{id:String}{r r':V->List V->Hp->VK->Prop}(h:R4 X id r)(h':R4 X id r'):R4 X id (fun x xs H Q=>r x xs H Q\/r' x xs H Q):=by
 intro pins s σ H x xs v us Q I rx rs q;rcases q with q|q
 ·exact h pins s σ H x xs v us Q I rx rs q
 ·exact h' pins s σ H x xs v us Q I rx rs q
def DR(K:PySem.W.Frag):R2:=fun x y H Q=>∃p xs i v,x=.ref p/\y=.int i/\G7 K H p xs/\Lp xs i=some v/\Q v H
def DW(K:PySem.W.Frag):R2:=fun x y H Q=>∃p xs i v,x=.ref p/\y=.int i/\HH K H p xs/\Lp xs i=some v/\Q v H
theorem B5:Px X (DR X.K):=by
 intro value slice pins s σ H x y v u Q I rx ry h hs;obtain⟨p,xs,i,z,rfl,rfl,hq,he,q⟩:=h;cases rx;obtain⟨t,rfl⟩:=ry;obtain⟨w_,r,pl,hz⟩:=I.list hq;obtain⟨j,h1,h2,h3,h4,h5⟩:=xK he;obtain⟨w,ew,IJ⟩:=r.get h2;have hl:=r.length;have hn:=lW;have fin:EP X pins σ Q w s:=⟨z,H,I,IJ,q⟩;by_cases h0:0<=i
 ·have hj:i.toNat=j:=by
   rw[seqIndex_of h0 h5] at h1;exact Option.some.inj h1
  exact item_listR pl.isList h0 (by omega) (by rw[hj];simpa using ew) fin hs
 ·have hj:(i+(w_.toArray.size:Int)).toNat=j:=by
   rw[seqIndex_neg (by omega) h4] at h1;rw[List.size_toArray,<-hl];exact Option.some.inj h1
  exact subscriptTail_builtinR (x:=w) pl.isList.typeIs slot_list_getitem.lookup
   (wpAny_getItem_list_neg (Q:=fun r s'=>r=w/\EP X pins σ Q r s') pl.isList (by omega) (by rw[List.size_toArray]<;>omega) (by omega) (by rw[hj];simpa using ew) ⟨rfl,fin⟩) hs
theorem CA:Px X (DW X.K):=by
 intro value slice pins s σ H x y v u Q I rx ry h hs;obtain⟨p,xs,i,z,rfl,rfl,hq,he,q⟩:=h;cases rx;obtain⟨t,rfl⟩:=ry;obtain⟨w_,r,pl,hz⟩:=I.tuple hq;obtain⟨j,h1,h2,h3,h4,h5⟩:=xK he;obtain⟨w,ew,IJ⟩:=r.get h2;have hl:=r.length;have hn:=lW;have fin:EP X pins σ Q w s:=⟨z,H,I,IJ,q⟩;exact subscriptTail_builtinR (x:=w) pl.typeIs slot_tuple_getitem.lookup
  (getItem_tuple (j:=j) (Q:=fun r s'=>r=w/\EP X pins σ Q r s') pl (by omega) (by omega) (by rw[List.size_toArray,<-hl];exact h1) (by simpa using ew) ⟨rfl,fin⟩) hs
theorem wC(w_:List Value)(n j:Nat)(u:Value):Obj.mapSeq (·.setIfInBounds j u) { cls:=.type "list",data:=.seq w_.toArray n } = { cls:=.type "list",data:=.seq (w_.set j u).toArray n }:=by
 simp[Obj.mapSeq]
theorem Inv.lst{pins:List (Addr×Obj)}{σ:St}{H:Hp}{s:Shared}{p:Addr}{xs:List V}(I:Inv X pins σ H s)(h:H p=some (.lst xs)) :
  ∃(w_:List Value) (n:Nat),Vals xs w_/\s.heap.get? p=some { cls:=.type "list",data:=.seq w_.toArray n }/\xs.length<=sizeLine:=by
 obtain⟨z,w_,n,r,e⟩:=I.Fn p _ h;exact⟨w_,n,r,e,z⟩
theorem Inv.Py{pins:List (Addr×Obj)}{σ:St}{H:Hp}{s:Shared}{p:Addr}{xs ys:List V}{w_ its':List Value}{n n':Nat}{f:Obj->Obj}(I:Inv X pins σ H s)(h:H p=some (.lst xs))
  (ho:s.heap.get? p=some { cls:=.type "list",data:=.seq w_.toArray n }) (hf:f { cls:=.type "list",data:=.seq w_.toArray n } = { cls:=.type "list",data:=.seq its'.toArray n' }) (r:Vals ys its') (hz:ys.length<=sizeLine) (t:Nat) :
  Inv X pins σ (upd H p (.lst ys)) { s with heap:=s.heap.update p f,toks:=t }:=by
 have e:(s.heap.update p f).get? p=some { cls:=.type "list",data:=.seq its'.toArray n' }:=by
  rw[Heap.get?_update_self f ho (by rw[hf]<;>rfl),hf]
 refine I.write (x:=p) (e:=p) (by rw[h];trivial) (.inl rfl) (fun b u hb q=>(Heap.get?_update_other _ _ (Ne.symm hb)).trans q) ⟨_,e⟩ ?_;exact⟨hz,its',n',r,e⟩
def Ei:V->V->V->Hp->(Hp->Prop)->Prop:=fun o i v H Q=>∃p xs k j,o=.ref p/\i=.int k/\H p=some (.lst xs)/\My xs.length k=some j/\Q (upd H p (.lst (xs.set j v)))
theorem z0:EA X Ei:=by
 intro pins s σ H o i v ov iv u Q I ro ri rv h;obtain⟨p,xs,k,j,rfl,rfl,hp,hj,q⟩:=h;cases ro;obtain⟨t,rfl⟩:=ri;obtain⟨w_,n,r,ho,hz⟩:=I.lst hp;obtain⟨h1,h2,h3,h4⟩:=xb hj;have hl:=r.length;have hn:=lW;have I':Inv X pins σ (upd H p (.lst (xs.set j v))) { s with heap:=s.heap.update p (Obj.mapSeq (·.setIfInBounds j u)) }:=
  I.Py hp ho (wC w_ n j u) (r.set rv j) (by rw[List.length_set];exact hz) s.toks
 by_cases h0:0<=k
 ·have hk:k.toNat=j:=by
   rw[seqIndex_of h0 h4] at h1;exact Option.some.inj h1
  exact PySem.W.ki_setAt ho h0 (by omega) (by rw[List.size_toArray,<-hl];exact h4) (by rw[hk];exact⟨_,I',q⟩)
 ·have hk:(k+(w_.toArray.size:Int)).toNat=j:=by
   rw[seqIndex_neg (by omega) h3] at h1;rw[List.size_toArray,<-hl];exact Option.some.inj h1
  exact PySem.W.ki_setBack ho (by omega) (by rw[List.size_toArray,<-hl];exact h3) (by omega) (by rw[hk];exact⟨_,I',q⟩)
theorem uc(lo hi:Option Int)(n:Nat):(sliceBounds lo hi none n).1=((HT.Gs n 0 lo:Nat):Int)/\(sliceBounds lo hi none n).2.1=((HT.Gs n n hi:Nat):Int)/\(sliceBounds lo hi none n).2.2=1:=by
 refine⟨?_,?_,rfl⟩
 ·cases lo with
  |none=>simp[sliceBounds,HT.Gs]
  |some i=>
   simp only[sliceBounds,HT.Gs,Option.getD_none,show(1:Int) > 0 by decide,if_true];by_cases h:i<0
   ·simp only[h,if_true]<;>omega
   ·simp only[h,if_false]<;>omega
 ·cases hi with
  |none=>simp[sliceBounds,HT.Gs]
  |some i=>
   simp only[sliceBounds,HT.Gs,Option.getD_none,show(1:Int) > 0 by decide,if_true];by_cases h:i<0
   ·simp only[h,if_true]<;>omega
   ·simp only[h,if_false]<;>omega
theorem rj(w_:List Value)(lo hi:Option Int):slicePick w_.toArray lo hi none=((w_.drop (HT.Gs w_.length 0 lo)).take (HT.Gs w_.length w_.length hi-HT.Gs w_.length 0 lo)).toArray:=by
 obtain⟨h1,h2,h3⟩:=uc lo hi w_.toArray.size;unfold slicePick;rw[h1,h2,h3];simp only[sliceRange_one,pick_run,List.size_toArray]<;>rfl
def EX(K:PySem.W.Frag):V->Option Int->Option Int->Hp->VK->Prop:=fun x lo hi H Q=>∃a xs,x=.ref a/\G7 K H a xs/\∀p,H p=none->Q (.ref p) (upd H p (.lst (vU xs lo hi)))
theorem xm:QX X (EX X.K):=by
 intro pins s σ H x v vl vu lo hi sl Q I rx hs pl pu h;obtain⟨a,xs,rfl,hx,q⟩:=h;cases rx;obtain⟨w_,r,ht,hz⟩:=I.list hx;have hlen:=r.length;refine⟨"list",_,slot_list_getitem.lookup,ht.isList.typeIs,?_⟩;refine wpAny_getItem_list_slice ht.isList hs pl pu .none (by simp) ?_ (by rw[List.size_toArray]<;>omega);rw[rj,<-hlen];refine⟨.ref s.heap.objs.size,_,I.laid (t':=s.toks) (o:=.lst (vU xs lo hi)) (fun b ob q=>Heap.get?_push_of_some _ q) (Nat.le_refl _) ?_,rfl,q _ (I.Fn.fresh (Nat.le_refl _))⟩;exact⟨Nat.le_trans (ol xs lo hi) hz,_,0,(r.drop (HT.Gs xs.length 0 lo)).take (HT.Gs xs.length xs.length hi-HT.Gs xs.length 0 lo),Heap.get?_push_size _ rfl⟩
def jI:V->Bool
 |.D_=>true
 |.bl _=>true
 |.int _=>true
 |.str _=>true
 |_=>false
def M8:V->V->Bool
 |.D_,.D_=>true
 |.bl a,.bl b=>a == b
 |.bl a,.int b=>(if a then 1 else 0) == b
 |.int a,.bl b=>a == (if b then 1 else 0)
 |.int a,.int b=>a == b
 |.str a,.str b=>a == b
 |_,_=>false
theorem CD{A:Around}{s:Shared}{y x:V}{u v:Value}(ry:RelV y u)(rx:RelV x v)(fy:jI y=true)(fx:jI x=true):SeqAt.EqAt A s u v (M8 y x):=by
 cases y with
 |D_=>
  cases ry;cases x with
  |D_=>cases rx;exact SeqAt.EqAt.same _
  |bl b=>cases rx;exact SeqAt.EqAt.none_bool b
  |int b=>obtain⟨t,rfl⟩:=rx;exact SeqAt.EqAt.none_int b t
  |str b=>obtain⟨t,rfl⟩:=rx;exact SeqAt.EqAt.none_str b t
  |_=>exact absurd (show false=true from fx) Bool.false_ne_true
 |bl a=>
  cases ry;cases x with
  |D_=>cases rx;exact SeqAt.EqAt.bool_none a
  |bl b=>cases rx;exact SeqAt.EqAt.bool_bool a b
  |int b=>obtain⟨t,rfl⟩:=rx;exact SeqAt.EqAt.bool_int a b t
  |str b=>obtain⟨t,rfl⟩:=rx;exact SeqAt.EqAt.bool_str a b t
  |_=>exact absurd (show false=true from fx) Bool.false_ne_true
 |int a=>
  obtain⟨t',rfl⟩:=ry;cases x with
  |D_=>cases rx;exact SeqAt.EqAt.int_none a t'
  |bl b=>cases rx;exact SeqAt.EqAt.int_bool a t' b
  |int b=>obtain⟨t,rfl⟩:=rx;exact SeqAt.EqAt.int_int a t' b t
  |str b=>obtain⟨t,rfl⟩:=rx;exact SeqAt.EqAt.int_str a t' b t
  |_=>exact absurd (show false=true from fx) Bool.false_ne_true
 |str a=>
  obtain⟨t',rfl⟩:=ry;cases x with
  |D_=>cases rx;exact SeqAt.EqAt.str_none a t'
  |bl b=>cases rx;exact SeqAt.EqAt.str_bool a t' b
  |int b=>obtain⟨t,rfl⟩:=rx;exact SeqAt.EqAt.str_int a t' b t
  |str b=>obtain⟨t,rfl⟩:=rx;exact SeqAt.EqAt.str_str a t' b t
  |_=>exact absurd (show false=true from fx) Bool.false_ne_true
 |_=>exact absurd (show false=true from fy) Bool.false_ne_true
def M9(x:V)(u:Value):Bool:=match u with
 |.none=>M8 .D_ x
 |.bool b=>M8 (.bl b) x
 |.int i _=>M8 (.int i) x
 |.str z _=>M8 (.str z) x
 |_=>false
theorem vP{x y:V}{u:Value}(r:RelV y u)(f:jI y=true):M9 x u=M8 y x:=by
 cases y with
 |D_=>cases r;rfl
 |bl b=>cases r;rfl
 |int i=>obtain⟨t,rfl⟩:=r;rfl
 |str z=>obtain⟨t,rfl⟩:=r;rfl
 |_=>exact absurd (show false=true from f) Bool.false_ne_true
theorem tm{x:V}:∀{xs:List V}{us:List Value},Vals xs us->xs.all jI=true->us.any (M9 x)=xs.any fun y=>M8 y x
 |_,_,.nil,_=>rfl
 |y :: xs,u :: us,.cons r t,f=>by
  rw[List.all_cons,Bool.and_eq_true] at f;rw[List.any_cons,List.any_cons,vP r f.1,tm t f.2]
theorem mQ{A:Around}{s:Shared}{x:V}{v:Value}(rx:RelV x v)(fx:jI x=true):∀{xs:List V}{us:List Value},Vals xs us->xs.all jI=true->∀u∈us,SeqAt.EqAt A s u v (M9 x u)
 |_,_,.nil,_=>fun u hu=>by cases hu
 |y :: xs,u :: us,.cons r t,f=>fun u' hu=>by
  rw[List.all_cons,Bool.and_eq_true] at f;rcases List.mem_cons.mp hu with rfl|hu
  ·rw[vP r f.1];exact CD r rx f.1 fx
  ·exact mQ rx fx t f.2 u' hu
def Jk(x:V)(xs:List V):Bool:=xs.any fun y=>M8 y x
def X_(K:PySem.W.Frag)(neg:Bool):R2:=fun x y H Q=>∃p xs,y=.ref p/\(G7 K H p xs\/HH K H p xs)/\jI x=true/\xs.all jI=true/\Q (.bl (if neg then !Jk x xs else Jk x xs)) H
theorem yO:KW X (compareOp .In) (X_ X.K false):=by
 intro pins s σ H x y v u Q I rx ry h;obtain⟨p,xs,rfl,hq,fx,fs,q⟩:=h;cases ry;rcases hq with hq|hq
 ·obtain⟨w_,r,pl,hz⟩:=I.list hq;refine SeqAt.in_listAt (M9 x) pl.isList (fun w hw=>mQ rx fx r fs w (by simpa using hw)) ⟨.bl _,H,I,rfl,?_⟩;rw[show w_.toArray.any (M9 x)=w_.any (M9 x) by simp,tm r fs];exact q
 ·obtain⟨w_,r,pl,hz⟩:=I.tuple hq;refine SeqAt.in_tupleAt (M9 x) pl (fun w hw=>mQ rx fx r fs w (by simpa using hw)) ⟨.bl _,H,I,rfl,?_⟩;rw[show w_.toArray.any (M9 x)=w_.any (M9 x) by simp,tm r fs];exact q
theorem tO:HN X (.builtin "len") (fun xs H Q=>∃p ys,xs=[.ref p]/\(G7 X.K H p ys\/HH X.K H p ys)/\Q (.int ys.length) H):=by
 intro pins s σ H xs us Q I r h;obtain⟨p,ys,rfl,hq,q⟩:=h;obtain⟨u,rfl,rx⟩:=xk r;cases rx;have hn:=lW;rcases hq with hq|hq
 ·obtain⟨w_,r',pl,hz⟩:=I.list hq;have hlen:=r'.length;exact Calls.call_len_list pl.isList (by simp only[List.size_toArray]<;>omega) ⟨.int ys.length,H,I.tok _,⟨s.toks+1,by rw[List.size_toArray,hlen]⟩,q⟩
 ·obtain⟨w_,r',pl,hz⟩:=I.tuple hq;have hlen:=r'.length;exact len_tuple pl (by simp only[List.size_toArray]<;>omega) ⟨.int ys.length,H,I.tok _,⟨s.toks+1,by rw[List.size_toArray,hlen]⟩,q⟩
theorem HN.or{f:Value}{r r':List V->Hp->VK->Prop}(h:HN X f r)(h':HN X f r'):HN X f (fun xs H Q=>r xs H Q\/r' xs H Q):=by
 intro pins s σ H xs us Q I rs q;rcases q with q|q
 ·exact h pins s σ H xs us Q I rs q
 ·exact h' pins s σ H xs us Q I rs q
theorem sY:HN X (.type "list") (fun xs H Q=>∃p ys,xs=[.ref p]/\(G7 X.K H p ys\/HH X.K H p ys)/\∀l,H l=none->Q (.ref l) (upd H l (.lst ys))):=by
 intro pins s σ H xs us Q I r h;obtain⟨p,ys,rfl,hq,q⟩:=h;obtain⟨u,rfl,rx⟩:=xk r;cases rx;have fin:∀(w_:List Value),Vals ys w_->ys.length<=sizeLine->∀(h':Heap) (c':Nat),(∀b o',s.heap.get? b=some o'->h'.get? b=some o')->
   h'.get? s.heap.objs.size=some { cls:=.type "list",dict:=none,data:=.seq w_.toArray c',slots:=#[] }->EP X pins σ Q (.ref s.heap.objs.size) { s with heap:=h' }:=fun w_ r' hz h' c' kp e=>
  ⟨.ref s.heap.objs.size,_,I.laid (t':=s.toks) kp (Nat.le_refl _) (show FT X.prog X.w _ h' _ (.lst ys) from ⟨hz,w_,c',r',e⟩),rfl,q _ (I.Fn.fresh (Nat.le_refl _))⟩
 rcases hq with hq|hq
 ·obtain⟨w_,r',pl,hz⟩:=I.list hq;have hlen:=r'.length;obtain⟨o,ho,hc,n,hd⟩:=pl.isList;exact call_list_seq p (.inl rfl) ho hc hd (fun h' c' kp e=>fin w_ r' hz h' c' kp e) (by simp only[List.size_toArray]<;>omega)
 ·obtain⟨w_,r',pl,hz⟩:=I.tuple hq;have hlen:=r'.length;obtain⟨o,ho,hc,n,hd⟩:=pl;exact call_list_seq p (.inr rfl) ho hc hd (fun h' c' kp e=>fin w_ r' hz h' c' kp e) (by simp only[List.size_toArray]<;>omega)
theorem qL:HN X (.type "tuple") (fun xs H Q=>∃p ys,xs=[.ref p]/\((G7 X.K H p ys/\∀l,H l=none->Q (.ref l) (upd H l (.tup ys)))\/(HH X.K H p ys/\Q (.ref p) H))):=by
 intro pins s σ H xs us Q I r h;obtain⟨p,ys,rfl,h⟩:=h;obtain⟨u,rfl,rx⟩:=xk r;cases rx;rcases h with ⟨hq,q⟩|⟨hq,q⟩
 ·obtain⟨w_,r',pl,hz⟩:=I.list hq;have hlen:=r'.length;refine call_tuple_list pl.isList (fun h' kp=>?_) (by simp only[List.size_toArray]<;>omega);have I1:Inv X pins σ H { s with heap:=h' }:=I.kept (t':=s.toks) kp;have I2:Inv X pins σ (upd H h'.objs.size (.tup ys)) { s with heap:=h'.push { cls:=.type "tuple",data:=.seq w_.toArray } }:=
   I1.laid (t':=s.toks) (fun b o e=>Heap.get?_push_of_some _ e) (Nat.le_refl _) (show FT X.prog X.w _ _ _ (.tup ys) from ⟨hz,w_,r',IsTup.new _ _⟩)
  exact⟨.ref h'.objs.size,_,I2,rfl,q _ (I1.Fn.fresh (Nat.le_refl _))⟩
 ·obtain⟨w_,r',pl,hz⟩:=I.tuple hq;exact call_tuple_same pl ⟨.ref p,H,I,rfl,q⟩
def Ya(K:PySem.W.Frag)(T:String)(x:V)(H:Hp):Prop:=match x with
 |.str _=>T = "str"
 |.int _=>T = "int"
 |.ref p=>(T = "list"/\∃xs,G7 K H p xs)\/(T = "tuple"/\∃o,K.lookup p=some o/\o.cls=.type "tuple"/\o.dict=none)\/
   (T = "dict"/\((∃kvs,H p=some (.dK kvs))\/∃kvs,H p=some (.dT kvs)))\/(T = "set"/\∃S n,H p=some (.set S n))
 |_=>False
theorem CL{pins:List (Addr×Obj)}{σ:St}{H:Hp}{s:Shared}{T:String}{x:V}{v:Value}(I:Inv X pins σ H s)(r:RelV x v)(ty:Ya X.K T x H) :
  s.TypeIs v T/\∀a,v=.ref a->∃ob,s.heap.get? a=some ob/\ob.dict=none:=by
 cases x with
 |str z=>
  obtain⟨t,rfl⟩:=r;cases(show T = "str" from ty);exact⟨typeIs_str s z t,fun _ e=>nomatch e⟩
 |int i=>
  obtain⟨t,rfl⟩:=r;cases(show T = "int" from ty);exact⟨typeIs_int s i t,fun _ e=>nomatch e⟩
 |ref p=>
  cases r;rcases ty with ⟨rfl,xs,hq⟩|⟨rfl,o,hk,hc,hd⟩|⟨rfl,hk⟩|⟨rfl,S,n,hk⟩
  ·obtain⟨w_,_,pl,_⟩:=I.list hq;refine⟨pl.isList.typeIs,fun a e=>?_⟩;cases e;obtain⟨o,n,e,c,hd,_⟩:=pl;exact⟨o,e,hd⟩
  ·refine⟨⟨o,I.Jy p o hk,hc⟩,fun a e=>?_⟩;cases e;exact⟨o,I.Jy _ o hk,hd⟩
  ·have z:∃o,s.heap.get? p=some o/\o.ExactDict:=by
    rcases hk with ⟨kvs,hk⟩|⟨kvs,hk⟩
    ·obtain⟨_,_,_,_,o,_,_,e,ex,_⟩:=I.Fn p _ hk;exact⟨o,e,ex⟩
    ·obtain⟨_,_,_,_,o,_,_,e,ex,_⟩:=I.Fn p _ hk;exact⟨o,e,ex⟩
   obtain⟨o,e,ex⟩:=z;refine⟨⟨o,e,ex.1⟩,fun a e2=>?_⟩;cases e2;exact⟨o,e,ex.2.1⟩
  ·obtain⟨o,_,_,_,e,ex,_⟩:=I.Fn p _ hk;refine⟨⟨o,e,ex.1⟩,fun a e2=>?_⟩;cases e2;exact⟨o,e,ex.2.1⟩
 |_=>exact False.elim ty
variable{o e:Expr}{es:List Expr}{to:TE}{t:TA}{name:Str}{apos Gb:Pos}{T id:String}{r:V->List V->Hp->VK->Prop}
end
end L2
namespace L2
open PySem PySem.Spec PyProof.Rows
def Wt(X:Cx)(id:String)(r:V->List V->Hp->VK->Prop):Prop:=
 ∀(pins:List (Addr×Obj)) (s:Shared) (σ:St) (H:Hp) (x:V) (xs:List V) (v:Value) (us:List Value) (Q:VK),Inv X pins σ H s->RelV x v->Vals xs us->r x xs H Q->
  wpAny (model X.prog X.w) X.A (call (.builtin id) (v :: us)) (EP X pins σ Q) X.xe s
theorem Vals.one:∀{x:V}{us:List Value},Vals [x] us->∃u,us=[u]/\RelV x u
 |_,_,.cons r .nil=>⟨_,rfl,r⟩
theorem Vals.two:∀{x y:V}{us:List Value},Vals [x,y] us->∃u v,us=[u,v]/\RelV x u/\RelV y v
 |_,_,_,.cons r (.cons q .nil)=>⟨_,_,rfl,r,q⟩
theorem Vals.zero:∀{us:List Value},Vals [] us->us=[]
 |_,.nil=>rfl
theorem Vals.eraseIdx:∀{xs:List V}{us:List Value}(i:Nat),Vals xs us->Vals (xs.eraseIdx i) (us.eraseIdx i)
 |_,_,_,.nil=>.nil
 |_,_,0,.cons _ t=>t
 |_,_,i+1,.cons r t=>.cons r (Vals.eraseIdx i t)
theorem Vals.rep{xs:List V}{us:List Value}(h:Vals xs us):∀k:Nat,Vals (List.replicate k xs).flatten (List.replicate k us).flatten
 |0=>.nil
 |k+1=>by
  rw[List.replicate_succ,List.replicate_succ,List.flatten_cons,List.flatten_cons];exact Vals.append h (Vals.rep h k)
theorem rT{α:Type}:∀(l:List α) (i:Nat),(l.eraseIdx i).length<=l.length
 |[],_=>Nat.le_refl _
 |_ :: _,0=>Nat.le_succ _
 |_ :: r,i+1=>Nat.succ_le_succ (rT r i)
theorem rY(w_:List Value):∀(k:Nat) (acc:List Value),
  List.foldl (fun x1 x2=>x1++x2) acc.toArray (List.replicate k w_.toArray)=(acc++(List.replicate k w_).flatten).toArray
 |0,acc=>by simp
 |k+1,acc=>by
  have e:acc.toArray++w_.toArray=(acc++w_).toArray:=by simp
  have e2:(acc++w_)++(List.replicate k w_).flatten=acc++(List.replicate (k+1) w_).flatten:=by
   rw[List.replicate_succ,List.flatten_cons,List.append_assoc]
  rw[<-e2,<-rY w_ k (acc++w_),<-e,List.replicate_succ,List.foldl_cons]
section
variable{X:Cx}{pins:List (Addr×Obj)}{σ:St}{H:Hp}{s:Shared}{l b:Addr}{xs ys zs:List V}
theorem Inv.Oe{w_ its':List Value}{n:Nat}{f:Array Value->Array Value}{t':Nat}(I:Inv X pins σ H s)(hH:H l=some (.lst xs))
  (e:s.heap.get? l=some { cls:=.type "list",data:=.seq w_.toArray n }) (hf:f w_.toArray=its'.toArray) (hv:Vals ys its') (hz:ys.length<=sizeLine) :
  Inv X pins σ (upd H l (.lst ys)) { s with heap:=s.heap.update l (Obj.mapSeq f),toks:=t' }:=by
 have q:=PySem.IsL.update e f;rw[hf] at q;refine I.write (x:=l) (e:=l) (by rw[hH];exact trivial) (.inl rfl) (fun b' u hb hu=>(Heap.get?_update_other s.heap (Obj.mapSeq f) (Ne.symm hb)).trans hu) ⟨_,q⟩ ?_;exact⟨hz,its',_,hv,q⟩
theorem Inv.QY{w_:List Value}{t':Nat}(I:Inv X pins σ H s)(hv:Vals ys w_)(hz:ys.length<=sizeLine) :
  Inv X pins σ (upd H s.heap.objs.size (.lst ys)) { s with heap:=s.heap.push { cls:=.type "list",data:=.seq w_.toArray },toks:=t' }:=
 I.laid (fun _ _ q=>Heap.get?_push_of_some _ q) (Nat.le_refl _) ⟨hz,w_,0,hv,Heap.get?_push_size _ rfl⟩
theorem Inv.fresh(I:Inv X pins σ H s):H s.heap.objs.size=none:=I.Fn.fresh (Nat.le_refl _)
theorem Inv.LD(I:Inv X pins σ H s)(hH:H l=some (.lst xs)):xs.length<=sizeLine/\∃(w_:List Value) (n:Nat),Vals xs w_/\xs.length=w_.length/\s.heap.get? l=some { cls:=.type "list",data:=.seq w_.toArray n }:=by
 obtain⟨z,w_,n,r,e⟩:=I.Fn l _ hH;exact⟨z,w_,n,r,r.length,e⟩
theorem uZ{n:Nat}(h:n<=sizeLine):Builtin.List.listTooLong n=false:=by
 unfold Builtin.List.listTooLong;exact decide_eq_false (by omega)
end
section
variable{X:Cx}
def BS:V->List V->Hp->VK->Prop:=fun x vs H Q=>∃l xs y,x=.ref l/\vs=[y]/\H l=some (.lst xs)/\xs.length<sizeLine/\Q .D_ (upd H l (.lst (xs++[y])))
theorem sk:Wt X "list.append" BS:=by
 intro pins s σ H x vs v us Q I rx rv h;obtain⟨l,xs,y,rfl,rfl,hH,hz,q⟩:=h;cases rx;obtain⟨u,rfl,ru⟩:=rv.one;obtain⟨z,w_,n,r,hl,e⟩:=I.LD hH;refine call_meets F.slot_list_append ⟨_,e,rfl⟩ F.entry_list_append (F.args_list_append_2 _ _) (PySem.list_append l w_.toArray n u (by rw[List.size_toArray];omega)) ⟨e,?_⟩;refine⟨.D_,_,I.Oe (its':=w_++[u]) hH e (by simp) (r.append (.cons ru .nil)) ?_,rfl,q⟩;rw[List.length_append,List.length_singleton];omega
def DC:V->List V->Hp->VK->Prop:=fun x vs H Q=>∃l xs i k y,x=.ref l/\vs=[.int i]/\H l=some (.lst xs)/\-(2 ^ 63)<=i/\i<2 ^ 63/\seqIndex? i xs.length=some k/\xs[k]?=some y/\Q y (upd H l (.lst (xs.eraseIdx k)))
theorem yW:Wt X "list.pop" DC:=by
 intro pins s σ H x vs v us Q I rx rv h;obtain⟨l,xs,i,k,y,rfl,rfl,hH,h1,h2,hk,hy,q⟩:=h;cases rx;obtain⟨u,rfl,ru⟩:=rv.one;obtain⟨t,rfl⟩:=ru;obtain⟨z,w_,n,r,hl,e⟩:=I.LD hH;obtain⟨w,hw,IJ⟩:=r.get hy;refine call_meets F.slot_list_pop ⟨_,e,rfl⟩ F.entry_list_pop (F.args_list_pop_2 _ _)
  (MeetsSeq.list_pop_at l w_.toArray n i t k w (fitsIndex_both h1 h2) (by rw[List.size_toArray,<-hl];exact hk) (by rw[<-Array.getElem?_toList];exact hw) (by rw[List.size_toArray];omega)) ⟨e,?_⟩
 refine⟨y,_,I.Oe (its':=w_.eraseIdx k) hH e ?_ (r.eraseIdx k) ?_,IJ,q⟩
 ·show w_.toArray.eraseIdxIfInBounds k=(w_.eraseIdx k).toArray;rw[List.eraseIdxIfInBounds_toArray]
 ·have:=rT xs k;omega
def EZ:R2:=fun x y H Q=>∃l b xs zs,x=.ref l/\y=.ref b/\H l=some (.lst xs)/\H b=some (.lst zs)/\xs.length+zs.length<=sizeLine/\∀p,H p=none->Q (.ref p) (upd H p (.lst (xs++zs)))
theorem De:KW X (binaryOp .Add) EZ:=by
 intro pins s σ H x y v u Q I rx ry h;obtain⟨l,b,xs,zs,rfl,rfl,hH,hB,hz,q⟩:=h;cases rx;cases ry;obtain⟨z,w_,n,r,hl,e⟩:=I.LD hH;obtain⟨z2,LF,n2,r2,M_,e2⟩:=I.LD hB;refine PySem.P.add_list e e2 ?_ (by rw[List.size_toArray,List.size_toArray];omega);have ea:w_.toArray++LF.toArray=(w_++LF).toArray:=by simp
 rw[ea];exact⟨.ref _,_,I.QY (t':=s.toks) (r.append r2) (by rw[List.length_append];omega),rfl,q _ I.fresh⟩
def EK:R2:=fun x y H Q=>∃l k xs,x=.ref l/\y=.int k/\H l=some (.lst xs)/\-(2 ^ 63)<=k/\k<2 ^ 63/\xs.length * k.toNat<=sizeLine/\
 ∀p,H p=none->Q (.ref p) (upd H p (.lst (List.replicate k.toNat xs).flatten))
theorem BU{α:Type}(xs:List α)(k:Nat):(List.replicate k xs).flatten.length=k * xs.length:=by
 induction k with
 |zero=>simp
 |succ k ih=>rw[List.replicate_succ,List.flatten_cons,List.length_append,ih,Nat.succ_mul,Nat.add_comm]
theorem Db:KW X (binaryOp .Mult) EK:=by
 intro pins s σ H x y v u Q I rx ry h;obtain⟨l,k,xs,rfl,rfl,hH,h1,h2,hz,q⟩:=h;cases rx;obtain⟨t,rfl⟩:=ry;obtain⟨z,w_,n,r,hl,e⟩:=I.LD hH;have hlen:w_.toArray.size * k.toNat<=sizeLine:=by rw[List.size_toArray,<-hl];exact hz
 have Tg:¬w_.toArray.size * k.toNat > (2 ^ 63-1) / 8:=by
  have:(sizeLine:Nat)<=(2 ^ 63-1) / 8:=by decide
  omega
 have Ng:¬(!Builtin.List.listFitsIndex k)=true:=by
  rw[fitsIndex_both h1 h2];exact Bool.false_ne_true
 have Nh:¬Builtin.List.listTooLong (w_.toArray.size * k.toNat)=true:=by
  rw[uZ hlen];exact Bool.false_ne_true
 have GD:List.foldl (fun x1 x2=>x1++x2) #[] (List.replicate (if w_.toArray.isEmpty=true then 0 else k.toNat) w_.toArray)=(List.replicate k.toNat w_).flatten.toArray:=by
  have f0:∀m:Nat,List.foldl (fun x1 x2=>x1++x2) #[] (List.replicate m w_.toArray)=(List.replicate m w_).flatten.toArray:=fun m=>by
   have:=rY w_ m [];rw[List.nil_append] at this;exact this
  rw[f0];cases w_ with
  |nil=>simp
  |cons a r'=>rw[if_neg (by simp)]
 refine wpAny_binaryOp_repeat_ref (T:="list") (U:="int") (by decide) ⟨_,e,rfl⟩ (fun s'=>typeIs_int s' k t) noFill_list_mul F.fills_int_mul F.slot_int_rmul repeat_list F.slot_int_index.lookup
  (call_meets F.slot_int_rmul (typeIs_int s k t) F.entry_int_rmul (F.args_int_rmul_2 _ _) (int___rmul___int_list k t l w_.toArray n)
   ⟨e,rfl,⟨_,e,rfl⟩,call_meets F.slot_list_mul ⟨_,e,rfl⟩ F.entry_list_mul (F.args_list_mul_2 _ _) (AutoListH.list___mul___list_int_3 l w_.toArray n k t Ng Tg Nh) ⟨e,?_⟩⟩)
 rw[GD];exact⟨.ref _,_,I.QY (t':=s.toks) (r.rep k.toNat) (by rw[BU,Nat.mul_comm];exact hz),rfl,q _ I.fresh⟩
end
section
variable{prog:Program}{w:World}{A:Around}{E:Value->Shared->Prop}{s:Shared}
end
section
variable{X:Cx}
end
end L2
namespace Wu
open PySem PySem.W PySem.Calls PyProof.Rows
theorem oV{P:Params}{h:Heap}:∀(ns:List Int) (vs:List Value),WellAll P h vs (ns.map WData.int)->IntsAre vs ns:=by
 intro ns
 induction ns with
 |nil=>
  intro vs w;rw[List.map_nil] at w;cases w;exact .nil
 |cons n ns ih=>
  intro vs w;rw[List.map_cons] at w;cases w with
  |cons a b=>
   cases a;exact .cons _ _ (ih _ b)
theorem ye{l:OpenLaw}{n:Nat}(hn:l.most=some n){P:Params}{h:Heap}{args:List WData}{vals:List Value}
  (Of:l.row.toRowW.claim.pre args=true) (R6:WellAll P h vals args) :
  ∃a vs ns,vals=[Value.ref a]/\args=[WData.list (ns.map WData.int)]/\h.get? a=some { cls:=.type "list",data:=.seq vs.toArray }/\IntsAre vs ns/\ns.length<=n:=by
 have Yb:WShape.hasAll [] args [.list .int]=true:=(pre_splitW Of).1;have hc:l.pre.holds [] { args:=args }=true:=(pre_splitW Of).2;obtain⟨d,r,rfl,h1,h2⟩:=hasAllW_cons Yb;obtain rfl:=hasAllW_nil h2;obtain⟨xs,rfl,h3⟩:=hasW_list h1;obtain⟨ns,rfl⟩:=items_int h3;have hlen:ns.length<=n:=by
  unfold OpenLaw.pre at hc;have h4:(WTm.not (.lt (.lit (.int (n:Int))) (.len (.arg 0)))).holds [] { args:=[.list (ns.map .int)] }=true:=by
   have h4:=(holds_andW hc).1;rw[hn] at h4;exact h4
  have h5:=condW_of h4 (w_not (w_lt w_lit (w_len_list (w_arg rfl))));rw[List.length_map] at h5;refine Nat.le_of_not_lt fun q=>?_
  have q':(n:Int)<((ns.length:Nat):Int):=by omega
  first
   |(rw[decide_eq_true q'] at h5;exact absurd h5 (by decide))
   |(simp at h5;omega)
 cases R6 with
 |cons w1 w2=>
  cases w2;cases w1 with
  |list ho Pz=>exact⟨_,_,ns,rfl,rfl,ho,oV ns _ Pz,hlen⟩
theorem yJ(l:OpenLaw)(args:List WData):l.row.toRowW.claim.post args (.bool true) args=true:=
 postW_of (r:=l.row.toRowW) (X:=(true == true))
  (show WShape.has [] (.bool true) .bool=true by first|rfl|decide|simp[WShape.has,WShape.arms,WShape.armsAll])
  (show(WTm.eq .res (.lit (.bool true))).value [] { args:=args,res:=some (.bool true),after:=args }=some (.bool (true == true)) from w_eq_bool (w_res rfl) w_lit) rfl
theorem LG{l:OpenLaw}{n:Nat}{q:Program}{loose:List Str}{XP:(Str->Option Value)->Heap->Prop}{YP:World->Heap->Prop}{d:DefRec}
  (hn:l.most=some n) (QZ:d.params.defaults=[])
  (call:∀(w:World) (G1 FE:Shared) (mg mb:Str->Option Value) (fa:Addr) (o:Obj) (pm cd doc:Value) (a:Addr) (vs:List Value) (ns:List Int),
   Ground q loose [] XP w G1 mg mb FE.heap->YP w FE.heap->
   FE.heap.get? fa=some o->o.data=.func (docDef d.name d.params d.body d.scope pm cd doc)->FE.heap.CodeRec cd d.name->mg d.name=some (.ref fa)->
   FE.heap.get? a=some { cls:=.type "list",data:=.seq vs.toArray }->IntsAre vs ns->ns.length<=n->FE.gens = #[]->
   codeAny (model l.prog w) callerA (.call (.ref fa) ⟨[.ref a],[]⟩) (fun r s'=>r=.ok (.ret (.bool true))/\OldK FE.heap s'.heap/\s'.os=FE.os/\AllBare s'.gens) FE) :
  WalkO q loose XP YP l.row.toRowW d [] (fun f vs=>PySem.call f vs):=by
 intro w G1 FE mg mb G Y fa o pm cd doc dV kV ho hd LY hD hmg hg args vals as Of Yc PA R6 Q0;obtain rfl:dV=.none:=Dflts.none hD QZ;obtain rfl:kV=.none:=Dflts.noKw hD;obtain⟨a,vs,ns,rfl,rfl,PB,hints,hlen⟩:=ye hn Of R6;refine enter_call (codeAny_mono (call w G1 FE mg mb fa o pm cd doc a vs ns G Y ho (fd_plain hd) LY hmg PB hints hlen hg) fun r s' hq=>?_);obtain⟨rfl,h2,h3,h4⟩:=hq;exact⟨.inl ⟨.bool true,.bool true,[],rfl,fun _=>rfl,.bool true,yJ l _,fun _=>⟨List.Pairwise.nil,fun _ hm=>(nomatch hm)⟩⟩,h2,h3,h4⟩
section
variable{prog:Program}{w:World}{A:Around}{E:Value->Shared->Prop}{s:Shared}{K:Frag}
end
end Wu
namespace L2
open PySem PySem.Spec PyProof.Rows
theorem jE:∀{vs:List Value}{ns:List Int},IntsAre vs ns->Vals (ns.map V.int) vs
 |_,_,.nil=>.nil
 |_,_,.cons n t h=>.cons ⟨t,rfl⟩ (jE h)
def BH(H:Hp):Prop:=∀b,H b=none\/∃o xs,H b=some (.L4 o (.lst xs))
theorem An{P:Program}{w:World}{K:PySem.W.Frag}{mg mb:Str->Option Value}{CX:Je}{k:Nat}{fa a:Addr}{fd:FuncData}{x:Str}{sp:Sp}{FE:Shared}{vs:List Value}{ns:List Int}
  (KX:K.In FE.heap) (IU:FE.heap.Ns mainGlobals mg) (hb:FE.heap.Ns builtinsNs mb) (Yd:∀x:Str,x≠"__name__"->mb x=bootBuiltins x) (Th:FE.heap.NoLimit) (hg:FE.gens = #[])
  (ha:FE.heap.get? a=some { cls:=.type "list",data:=.seq vs.toArray }) (hi:IntsAre vs ns) (hl:ns.length<=sizeLine) (hr:Gy k callerA)
  (F:∀base:Heap,K.In base->base.Ns mainGlobals mg->IP P w K mg base CX k fa fd [x] sp) (Q2:∀(s:Shared) (u:Value),BindsTo s fd ⟨[u],[]⟩ [(x,u)])
  (N2:∀H:Hp,BH H->G7 K H a (ns.map V.int)->sp [.ref a] H (fun v _=>v=.bl true) fun _ _ _=>False)
  (Ti:∀H e s',CX [] H FE (fun _ _ _=>False) e s'->False) :
  codeAny (model P w) callerA (.call (.ref fa) ⟨[.ref a],[]⟩) (fun r s'=>r=.ok (.ret (.bool true))/\OldK FE.heap s'.heap/\s'.os=FE.os/\AllBare s'.gens) FE:=by
 have rv:=jE hi;have Tj:=hi.length;have core:∀H:Hp,BH H->G7 K H a (ns.map V.int)->G6 P w H FE.heap->(∀b,H b≠none->b=a)->(H a≠none->K.lookup a=none)->
   codeAny (model P w) callerA (.call (.ref fa) ⟨[.ref a],[]⟩) (fun r s'=>r=.ok (.ret (.bool true))/\OldK FE.heap s'.heap/\s'.os=FE.os/\AllBare s'.gens) FE:=by
  intro H hO hS Fn hA hK;have Mz:∀{b:Addr}{o:Obj},FE.heap.get? b=some o->H b=none->(tT FE.heap H).get? b=some o:=fun e n=>y3 e n
  have QU:∀{b:Addr}{o:Obj}{es:Array DictEntry}{ep:Nat},FE.heap.get? b=some o->o.data=.dict es ep->H b=none:=fun {b o es ep} e d=>by
   cases q:H b with
   |none=>rfl
   |some u=>
    have e':b=a:=hA b (by rw[q];simp);subst e';rw[ha] at e;cases e;have d':Data.seq vs.toArray _=Data.dict es ep:=d;cases d'
  have R7:∀{b:Addr}{m:Str->Option Value},FE.heap.Ns b m->(tT FE.heap H).Ns b m:=fun {b m} ⟨o,es,ep,e,d,r⟩=>⟨o,es,ep,Mz e (QU e d),d,r⟩
  have Wv:K.In (tT FE.heap H):=fun b o e=>Mz (KX b o e) (by
   cases q:H b with
   |none=>rfl
   |some u=>
    have e':b=a:=hA b (by rw[q];simp);subst e';rw[hK (by rw[q];simp)] at e;cases e)
  have hM:Mod K mg (tT FE.heap H):=⟨Wv,R7 IU,⟨mb,R7 hb,Yd⟩,let ⟨mc,h1,h2⟩:=Th;⟨mc,R7 h1,h2⟩⟩;have e0:Ka P w K mg (tT FE.heap H) callerA [] FE H:=⟨rfl,hM,fun b o e=>AI e,Nat.le_of_eq (yU _ _),trivial,fun b hb=>absurd (show b∈([]:List Addr) from hb) (by simp),Fn,.of_eq hg⟩;refine codeAny_mono ((F _ Wv (R7 IU)).run callerA [] FE H ⟨[.ref a],[]⟩ [.ref a] [.ref a] _ _ hr e0 (Q2 FE (.ref a)) (.cons rfl .nil) (N2 H hO hS)) fun r s' h=>?_
  cases r with
  |error e=>exact(Ti H e s' h).elim
  |ok fl=>
   cases fl with
   |next=>exact False.elim h
   |brk=>exact False.elim h
   |cont=>exact False.elim h
   |ret u=>
    obtain⟨v,H',os,bare,un,Tn,r',q⟩:=h;have q':v=.bl true:=q;subst q';obtain rfl:u=Value.bool true:=r';refine⟨rfl,OldK.of_keep fun b o e=>?_,os,bare⟩;cases q:H b with
    |none=>exact un.keep b o e q (by intro z;exact absurd (show b∈([]:List Addr) from z) (by simp)) (by simp)
    |some u=>
     rcases hO b with z|⟨ob,xs,z⟩
     ·rw[q] at z;cases z
     ·have z2:=un.Ih b ob _ z;obtain⟨e1,_⟩:=Fn b _ z;obtain⟨e2,_⟩:=Tn b _ z2;rw[e] at e1;cases e1;exact e2
 cases hk:K.lookup a with
 |some o=>
  have e:=KX a o hk;rw[ha] at e;cases e;refine core (fun _=>none) (fun _=>.inl rfl) (.inr ⟨_,vs.toArray,_,hk,rfl,rfl,rfl,by rw[List.size_toArray,Tj];exact hl,by simpa using rv⟩) (fun b u z=>by have z':(none:Option HO)=some u:=z;cases z') (fun b z=>absurd rfl z) fun z=>absurd rfl z
 |none=>
  refine core (fun b=>if b=a then some (.L4 { cls:=.type "list",data:=.seq vs.toArray } (.lst (ns.map V.int))) else none) (fun b=>?_) (.inl (.inr ⟨{ cls:=.type "list",data:=.seq vs.toArray },if_pos rfl⟩)) (fun b u z=>?_) (fun b z=>?_) fun _=>hk
  ·by_cases hb:b=a
   ·exact .inr ⟨_,_,if_pos hb⟩
   ·exact .inl (if_neg hb)
  ·by_cases hb:b=a
   ·have z':=(if_pos hb).symm.trans z;cases z';subst hb;exact⟨ha,by rw[List.length_map];exact hl,vs,_,rv,ha⟩
   ·have z':=(if_neg hb).symm.trans z;cases z'
  ·by_cases hb:b=a
   ·exact hb
   ·exact absurd (if_neg hb) z
end L2
namespace L2
open PySem PySem.Spec PyProof.Rows
theorem Og{l:PySem.W.OpenLaw}{n k:Nat}{q:Program}{loose:List Str}{XP:(Str->Option Value)->Heap->Prop}{YP:World->Heap->Prop}{d:DefRec}{K:Params->PySem.W.Frag}{CX:World->Je}{sp:World->Sp}{x:Str}
  (hn:l.most=some n) (Qk:n<=sizeLine) (QZ:d.params.defaults=[]) (hr:Gy k callerA)
  (hY:∀(w:World) (h:Heap),YP w h->(K w.params).In h)
  (F:∀(w:World) (mg:Str->Option Value) (fa:Addr) (h:Heap),(K w.params).In h->h.Ns mainGlobals mg->mg d.name=some (.ref fa)->
   ∃fd:FuncData,(∀(s:Shared) (u:Value),BindsTo s fd ⟨[u],[]⟩ [(x,u)])/\
    ∀base:Heap,(K w.params).In base->base.Ns mainGlobals mg->IP l.prog w (K w.params) mg base (CX w) k fa fd [x] (sp w))
  (N2:∀(w:World) (H:Hp) (a:Addr) (ns:List Int),ns.length<=n->BH H->G7 (K w.params) H a (ns.map V.int)->sp w [.ref a] H (fun v _=>v=.bl true) fun _ _ _=>False)
  (Ti:∀(w:World) (H:Hp) (s:Shared) (e:Value) (s':Shared),CX w [] H s (fun _ _ _=>False) e s'->False) :
  PySem.W.WalkO q loose XP YP l.row.toRowW d [] (fun f vs=>PySem.call f vs):=by
 refine Wu.LG hn QZ fun w G1 FE mg mb fa o pm cd doc a vs ns G Y ho hd LY hmg PB hints hlen hg=>?_
 have KX:=hY w _ Y;obtain⟨fd,hb,hF⟩:=F w mg fa _ KX G.T.g hmg;exact An KX G.T.g G.T.b G.T.builtins G.T.nolimit hg PB hints (Nat.le_trans hlen Qk) hr hF hb (fun H hO hS=>N2 w H a ns hlen hO hS) fun H e s'=>Ti w H FE e s'
end L2
namespace L2
open PySem PySem.Spec PyProof.Rows
def bq(s:Stmt)(j:Nat):Stmt:=match s with
 |.ClassDef _ _ _ body _ _ _ _ _ _ _=>body.getD j (.Pass ⟨0,0,0,0⟩)
 |_=>.Pass ⟨0,0,0,0⟩
def Gv(s:Stmt):Arguments:=match s with
 |.FunctionDef _ a _ _ _ _ _ _ _ _=>a
 |_=>{ posonlyargs:=[],args:=[],vararg:=none,kwonlyargs:=[],kw_defaults:=[],kwarg:=none,defaults:=[] }
def F_(s:Stmt):List Stmt:=match s with
 |.FunctionDef _ _ b _ _ _ _ _ _ _=>b
 |_=>[]
def h_(s:Stmt):Scope:=match s with
 |.FunctionDef _ _ _ _ _ _ sc _ _ _=>sc
 |_=>{ kind:=.function,names:=[],isGenerator:=false,isCoroutine:=false }
abbrev Ww:Je:=fun _ _ _ _ _ _=>False
abbrev E0:XK:=fun _ _ _=>False
structure Gf(K:PySem.W.Frag)(x qual:Str)(st:Stmt)(f:Addr)(fd:FuncData):Prop where
 ex:∃(oc:Value) (od:Option Addr) (kV doc pm:Value) (an:Option Addr) (Fm ct:Value) (M7:Array (Option Value)),
  fd=PySem.W.fnOf x qual (Gv st) (F_ st) (h_ st) .none kV doc pm an Fm ct/\K.lookup f=some ⟨oc,od,.func fd,M7⟩/\PySem.W.codeIn K Fm qual=true
 kp:PySem.W.keepIn K (.ref f)=true
section
variable{P:Program}{w:World}{K:PySem.W.Frag}{mg:Str->Option Value}{base:Heap}
theorem Gf.ok{x qual:Str}{st:Stmt}{f:Addr}{fd:FuncData}{N ps:List Str}{k:Nat}{sp:Sp}(F:Gf K x qual st f fd)(S:n_ N ps (h_ st))(len:∀vs H Q E,sp vs H Q E->vs.length=ps.length)
  (LC:∀(Fm:Value) (A:Around) (outer:List Env) (s:Shared) (H:Hp) (vs:List V) (Q:VK) (E:XK),Gy k (A.deeper (envOfC qual (h_ st) s.heap.objs.size f Fm))->sp vs H Q E->
   ∃t,QQ (oO Ww P w K mg base N qual (h_ st) f Fm A outer s H E).O4 (F_ st) t/\t { nx:=fun _ H'=>Q .D_ H',rt:=Q } (start N vs) H):IP P w K mg base Ww (k+1) f fd ps sp:=by
 obtain⟨oc,od,kV,doc,pm,an,Fm,ct,M7,rfl,lk,LY⟩:=F.ex;refine Ci lk LY S len fun A outer s H vs Q E hr N2=>?_
 obtain⟨t,h,q⟩:=LC Fm A outer s H vs Q E hr N2;exact⟨t,h.O4,q⟩
theorem Gf.binds{x qual:Str}{st:Stmt}{f:Addr}{fd:FuncData}{ps:List Str}(F:Gf K x qual st f fd)
  (h:∀(kV doc pm:Value) (an:Option Addr) (Fm ct:Value) (us:List Value),us.length=ps.length->bindArgs (PySem.W.fnOf x qual (Gv st) (F_ st) (h_ st) .none kV doc pm an Fm ct) ⟨us,[]⟩=pure (ps.zip us)):Binds K fd ps []:=by
 obtain⟨oc,od,kV,doc,pm,an,Fm,ct,M7,rfl,lk,LY⟩:=F.ex;exact .all (h kV doc pm an Fm ct)
theorem DA{x qual:Str}{st:Stmt}{f:Addr}{oc:Value}{od an:Option Addr}{M7:Array (Option Value)}{kV doc pm Fm ct:Value}(l:K.lookup f=some ⟨oc,od,.func (PySem.W.fnOf x qual (Gv st) (F_ st) (h_ st) .none kV doc pm an Fm ct),M7⟩)
  (c:PySem.W.codeIn K Fm qual=true) (k:PySem.W.keepIn K (.ref f)=true):Gf K x qual st f (PySem.W.fnOf x qual (Gv st) (F_ st) (h_ st) .none kV doc pm an Fm ct):=⟨⟨oc,od,kV,doc,pm,an,Fm,ct,M7,rfl,l,c⟩,k⟩
end
section
variable{X:Cx}
end
def Kb(H H':Hp):Prop:=∀b o,H b=some o->H' b=some o
theorem Kb.refl(H:Hp):Kb H H:=fun _ _ h=>h
theorem Kb.trans{H H1 H2:Hp}(a:Kb H H1)(b:Kb H1 H2):Kb H H2:=fun c o h=>b c o (a c o h)
theorem Kb.free{H H':Hp}(e:Kb H H'){l:Addr}(h:H' l=Option.none):H l=Option.none:=by
 cases q:H l with
 |none=>rfl
 |some o=>
  rw[e l o q] at h;cases h
theorem Kb.seq{K:PySem.W.Frag}{H H':Hp}{a:Addr}{xs:List V}(e:Kb H H')(h:G7 K H a xs):G7 K H' a xs:=by
 rcases h with (h|⟨o,h⟩)|h
 ·exact .inl (.inl (e _ _ h))
 ·exact .inl (.inr ⟨o,e _ _ h⟩)
 ·exact .inr h
end L2
namespace DL
open PySem PySem.Spec PyProof.Rows L2
inductive D where
 |D_|bl (b:Bool)|int (i:Int)|str (x:Str)|tup (xs:List D)|Gp (xs:List D)|ob (n:Nat)|xn (c:Addr)
inductive Cell where
 |lst (xs:List D)|GW (kvs:List (Key×D))|ins (C:Addr) (ns:List Str) (ds:List D)
inductive R(α:Type) where
 |ok (a:α) (S:List Cell)|exc (c:Addr) (S:List Cell)|bad
abbrev M(α:Type):=List Cell->R α
abbrev s_:=List (Option D)
def M.bind{α β:Type}(m:M α)(k:α->M β):M β:=fun S=>match m S with
 |.ok a S'=>k a S'
 |.exc c S'=>.exc c S'
 |.bad=>.bad
def M.ret{α:Type}(a:α):M α:=fun S=>.ok a S
def M.bad{α:Type}:M α:=fun _=>.bad
def Hq{α:Type}(P:Prop)(a b:α):α:=@ite α P (Classical.propDecidable P) a b
theorem bW{α:Type}{P:Prop}{a b:α}(h:P):Hq P a b=a:=by unfold Hq;exact if_pos h
theorem uf{α:Type}{P:Prop}{a b:α}(h:¬P):Hq P a b=b:=by unfold Hq;exact if_neg h
def N3(K:PySem.W.Frag)(H:Hp)(a:Addr)(xs:List V):Prop:=
 (∃o,H a=some (.L4 o (.lst xs)))\/
  ∃(o:Obj) (w_:Array Value) (n:Nat),K.lookup a=some o/\o.cls=.type "list"/\o.dict=none/\o.data=.seq w_ n/\w_.size<=sizeLine/\Vals xs w_.toList
theorem N3.sq{K:PySem.W.Frag}{H:Hp}{a:Addr}{xs:List V}(h:N3 K H a xs):G7 K H a xs:=by
 rcases h with ⟨o,h⟩|h
 ·exact .inl (.inr ⟨o,h⟩)
 ·exact .inr h
def XO(a c:Addr):HO:=.ext fun h=>∃o,h.get? a=some o/\o.cls=.ref c
mutual
def r_(K:PySem.W.Frag)(H:Hp)(J:List Addr):D->V->Prop
 |.D_,v=>v=.D_
 |.bl b,v=>v=.bl b
 |.int i,v=>v=.int i
 |.str x,v=>v=.str x
 |.tup xs,v=>∃a vs,v=.ref a/\HH K H a vs/\j_ K H J xs vs
 |.Gp xs,v=>∃a vs,v=.ref a/\N3 K H a vs/\j_ K H J xs vs
 |.ob n,v=>∃a,v=.ref a/\J[n]?=some a
 |.xn c,v=>∃a,v=.ref a/\H a=some (XO a c)
def j_(K:PySem.W.Frag)(H:Hp)(J:List Addr):List D->List V->Prop
 |[],vs=>vs=[]
 |x :: xs,vs=>∃v r,vs=v :: r/\r_ K H J x v/\j_ K H J xs r
end
def R8:HO->Bool
 |.tup _=>true
 |.L4 _ _=>true
 |.ext _=>true
 |_=>false
structure Ext(H:Hp)(J:List Addr)(H':Hp)(J':List Addr):Prop where
 st:∀b o,H b=some o->R8 o=true->H' b=some o
 pre:∃more,J'=J++more
theorem Ext.refl(H:Hp)(J:List Addr):Ext H J H J:=⟨fun _ _ e _=>e,[],by simp⟩
theorem Ext.trans{H H1 H2:Hp}{J J1 J2:List Addr}(a:Ext H J H1 J1)(b:Ext H1 J1 H2 J2):Ext H J H2 J2:=by
 obtain⟨m1,e1⟩:=a.pre;obtain⟨m2,e2⟩:=b.pre;exact⟨fun c o e st=>b.st c o (a.st c o e st) st,m1++m2,by rw[e2,e1,List.append_assoc]⟩
theorem Ext.new{H:Hp}{J:List Addr}{p:Addr}{o:HO}(h:H p=none):Ext H J (upd H p o) J:=
 ⟨fun b u e _=>by rw[bi (ba e h)];exact e,[],by simp⟩
theorem Ext.snoc{H H':Hp}{J J':List Addr}(a:Ext H J H' J')(m:List Addr):Ext H J H' (J'++m):=by
 obtain⟨m1,e1⟩:=a.pre;exact⟨a.st,m1++m,by rw[e1,List.append_assoc]⟩
theorem Ext.write{H:Hp}{J:List Addr}{p:Addr}{o u:HO}(h:H p=some u)(hs:R8 u=false):Ext H J (upd H p o) J:=
 ⟨fun b w e st=>by
  have:b≠p:=by
   rintro rfl;rw[h] at e;cases e;rw[hs] at st;cases st
  rw[bi this];exact e,[],by simp⟩
section
variable{K:PySem.W.Frag}{H H':Hp}{J J':List Addr}
theorem HH.ext{a:Addr}{vs:List V}(e:Ext H J H' J')(h:HH K H a vs):HH K H' a vs:=by
 rcases h with (h|⟨o,h⟩)|h
 ·exact .inl (.inl (e.st _ _ h rfl))
 ·exact .inl (.inr ⟨o,e.st _ _ h rfl⟩)
 ·exact .inr h
theorem N3.ext{a:Addr}{vs:List V}(e:Ext H J H' J')(h:N3 K H a vs):N3 K H' a vs:=by
 rcases h with ⟨o,h⟩|h
 ·exact .inl ⟨o,e.st _ _ h rfl⟩
 ·exact .inr h
mutual
theorem r_.ext(e:Ext H J H' J'):∀{d:D}{v:V},r_ K H J d v->r_ K H' J' d v
 |.D_,_,h=>by unfold r_ at h ⊢;exact h
 |.bl _,_,h=>by unfold r_ at h ⊢;exact h
 |.int _,_,h=>by unfold r_ at h ⊢;exact h
 |.str _,_,h=>by unfold r_ at h ⊢;exact h
 |.tup xs,v,h=>by
  unfold r_ at h ⊢;obtain⟨a,vs,h1,h2,h3⟩:=h;exact⟨a,vs,h1,HH.ext e h2,j_.ext e h3⟩
 |.Gp xs,v,h=>by
  unfold r_ at h ⊢;obtain⟨a,vs,h1,h2,h3⟩:=h;exact⟨a,vs,h1,N3.ext e h2,j_.ext e h3⟩
 |.ob n,v,h=>by
  unfold r_ at h ⊢;obtain⟨a,h1,h2⟩:=h;obtain⟨m,em⟩:=e.pre;refine⟨a,h1,?_⟩;rw[em,List.getElem?_append_left (List.getElem?_eq_some_iff.mp h2).1];exact h2
 |.xn c,v,h=>by
  unfold r_ at h ⊢;obtain⟨a,h1,h2⟩:=h;exact⟨a,h1,e.st _ _ h2 rfl⟩
theorem j_.ext(e:Ext H J H' J'):∀{xs:List D}{vs:List V},j_ K H J xs vs->j_ K H' J' xs vs
 |[],_,h=>by unfold j_ at h ⊢;exact h
 |x :: xs,vs,h=>by
  unfold j_ at h ⊢;obtain⟨v,r,h1,h2,h3⟩:=h;exact⟨v,r,h1,r_.ext e h2,j_.ext e h3⟩
end
theorem j_.length:∀{xs:List D}{vs:List V},j_ K H J xs vs->vs.length=xs.length
 |[],_,h=>by unfold j_ at h;rw[h];rfl
 |x :: xs,vs,h=>by
  unfold j_ at h;obtain⟨v,r,h1,_,h3⟩:=h;rw[h1,List.length_cons,List.length_cons,j_.length h3]
theorem j_.get:∀{xs:List D}{vs:List V}{i:Nat}{x:D},j_ K H J xs vs->xs[i]?=some x->∃v,vs[i]?=some v/\r_ K H J x v
 |[],_,_,_,_,e=>by simp at e
 |y :: xs,vs,0,x,h,e=>by
  unfold j_ at h;obtain⟨v,r,h1,h2,_⟩:=h;simp at e;subst e h1;exact⟨v,rfl,h2⟩
 |y :: xs,vs,i+1,x,h,e=>by
  unfold j_ at h;obtain⟨v,r,h1,_,h3⟩:=h;subst h1;exact j_.get (i:=i) h3 (by simpa using e)
theorem j_.append:∀{xs ys:List D}{vs ws:List V},j_ K H J xs vs->j_ K H J ys ws->j_ K H J (xs++ys) (vs++ws)
 |[],_,_,_,h,g=>by unfold j_ at h;rw[h];exact g
 |x :: xs,ys,vs,ws,h,g=>by
  unfold j_ at h;obtain⟨v,r,h1,h2,h3⟩:=h;subst h1;rw[List.cons_append,List.cons_append];unfold j_;exact⟨v,_,rfl,h2,j_.append h3 g⟩
theorem j_.nil:j_ K H J [] []:=by unfold j_;rfl
theorem j_.cons{x:D}{xs:List D}{v:V}{vs:List V}(h:r_ K H J x v)(t:j_ K H J xs vs):j_ K H J (x :: xs) (v :: vs):=by
 unfold j_;exact⟨v,vs,rfl,h,t⟩
theorem j_.one{x:D}{v:V}(h:r_ K H J x v):j_ K H J [x] [v]:=.cons h .nil
theorem j_.take:∀{xs:List D}{vs:List V}(n:Nat),j_ K H J xs vs->j_ K H J (xs.take n) (vs.take n)
 |_,_,0,_=>by simp;exact .nil
 |[],_,n+1,h=>by unfold j_ at h;subst h;simp;exact .nil
 |x :: xs,vs,n+1,h=>by
  unfold j_ at h;obtain⟨v,r,h1,h2,h3⟩:=h;subst h1;exact .cons h2 (j_.take n h3)
theorem j_.drop:∀{xs:List D}{vs:List V}(n:Nat),j_ K H J xs vs->j_ K H J (xs.drop n) (vs.drop n)
 |_,_,0,h=>by simpa using h
 |[],_,n+1,h=>by unfold j_ at h;subst h;simp;exact .nil
 |x :: xs,vs,n+1,h=>by
  unfold j_ at h;obtain⟨v,r,h1,h2,h3⟩:=h;subst h1;exact j_.drop n h3
theorem j_.set{d:D}{w:V}(hd:r_ K H J d w):∀{xs:List D}{vs:List V}(n:Nat),j_ K H J xs vs->j_ K H J (xs.set n d) (vs.set n w)
 |[],_,n,h=>by unfold j_ at h;subst h;simp;exact .nil
 |x :: xs,vs,0,h=>by
  unfold j_ at h;obtain⟨v,r,h1,h2,h3⟩:=h;subst h1;exact .cons hd h3
 |x :: xs,vs,n+1,h=>by
  unfold j_ at h;obtain⟨v,r,h1,h2,h3⟩:=h;subst h1;exact .cons h2 (j_.set hd n h3)
theorem j_.IT{xs:List D}{vs:List V}(h:j_ K H J xs vs):vs=[]↔xs=[]:=by
 have:=h.length;constructor
 ·intro e;subst e;exact List.length_eq_zero_iff.mp (by simpa using this.symm)
 ·intro e;subst e;exact List.length_eq_zero_iff.mp (by simpa using this)
theorem j_.ints(ns:List Int):j_ K H J (ns.map D.int) (ns.map V.int):=by
 induction ns with
 |nil=>exact .nil
 |cons n r ih=>exact .cons (by unfold r_;rfl) ih
end
def Fb{κ:Type}(K:PySem.W.Frag)(H:Hp)(J:List Addr):List (κ×D)->List (κ×V)->Prop
 |[],ws=>ws=[]
 |(k,d) :: r,ws=>∃v t,ws=(k,v) :: t/\r_ K H J d v/\Fb K H J r t
section
variable{κ:Type}{K:PySem.W.Frag}{H H':Hp}{J J':List Addr}
theorem Fb.ext(e:Ext H J H' J'):∀{xs:List (κ×D)}{ws:List (κ×V)},Fb K H J xs ws->Fb K H' J' xs ws
 |[],_,h=>h
 |(k,d) :: r,ws,h=>by
  obtain⟨v,t,h1,h2,h3⟩:=h;exact⟨v,t,h1,h2.ext e,Fb.ext e h3⟩
theorem Fb.length:∀{xs:List (κ×D)}{ws:List (κ×V)},Fb K H J xs ws->ws.length=xs.length
 |[],_,h=>by
  have h':_=[]:=h;rw[h'];rfl
 |(k,d) :: r,ws,h=>by
  obtain⟨v,t,h1,h2,h3⟩:=h;rw[h1,List.length_cons,List.length_cons,Fb.length h3]
end
def Iy(K:PySem.W.Frag)(H:Hp)(J:List Addr):Cell->Addr->Prop
 |.lst xs,a=>∃vs,H a=some (.lst vs)/\j_ K H J xs vs
 |.GW kvs,a=>∃ws,H a=some (.dK ws)/\Fb K H J kvs ws
 |.ins C ns ds,a=>∃dx ws,H a=some (.ins C dx ws)/\ws.map (·.1)=ns/\j_ K H J ds (ws.map (·.2))
structure Fg(K:PySem.W.Frag)(H:Hp)(J:List Addr)(S:List Cell):Prop where
 len:J.length=S.length
 nd:J.Nodup
 at_:∀(n:Nat) c a,S[n]?=some c->J[n]?=some a->Iy K H J c a
section
variable{K:PySem.W.Frag}{H H':Hp}{J J':List Addr}{S:List Cell}{a p:Addr}{c c':Cell}{n:Nat}{o o':HO}
theorem Iy.MA(h:Iy K H J c a):∃o,H a=some o/\R8 o=false:=by
 cases c with
 |lst xs=>obtain⟨vs,h,_⟩:=h;exact⟨_,h,rfl⟩
 |GW xs=>obtain⟨vs,h,_⟩:=h;exact⟨_,h,rfl⟩
 |ins C ns ds=>obtain⟨dx,vs,h,_⟩:=h;exact⟨_,h,rfl⟩
theorem Iy.keep(h:Iy K H J c a)(e:Ext H J H' J')(he:H' a=H a):Iy K H' J' c a:=by
 cases c with
 |lst xs=>obtain⟨vs,h,r⟩:=h;exact⟨vs,he.trans h,r.ext e⟩
 |GW xs=>obtain⟨vs,h,r⟩:=h;exact⟨vs,he.trans h,r.ext e⟩
 |ins C ns ds=>obtain⟨dx,vs,h,q,r⟩:=h;exact⟨dx,vs,he.trans h,q,r.ext e⟩
theorem Fg.cell(h:Fg K H J S)(hn:S[n]?=some c):∃a,J[n]?=some a/\Iy K H J c a:=by
 have hi:=(List.getElem?_eq_some_iff.mp hn).1;have hl:=h.len;exact⟨J[n]'(by omega),by simp,h.at_ n c _ hn (by simp)⟩
theorem Fg.JB(h:Fg K H J S)(hn:J[n]?=some a):∃c,S[n]?=some c/\Iy K H J c a:=by
 have hi:=(List.getElem?_eq_some_iff.mp hn).1;have hl:=h.len;exact⟨S[n]'(by omega),by simp,h.at_ n _ _ (by simp) hn⟩
theorem Fg.held(h:Fg K H J S)(ha:a∈J):∃o,H a=some o/\R8 o=false:=by
 obtain⟨n,hn⟩:=List.mem_iff_getElem?.mp ha;obtain⟨c,_,hc⟩:=h.JB hn;exact hc.MA
theorem Fg.new(h:Fg K H J S)(hp:H p=none):Fg K (upd H p o) J S where
 len:=h.len
 nd:=h.nd
 at_:=fun n c a hc ha=>by
  have r:=h.at_ n c a hc ha;obtain⟨u,hu,_⟩:=r.MA;exact r.keep (Ext.new hp) (bi (ba hu hp))
theorem Fg.push(h:Fg K H J S)(hp:H p=none)(hc:Iy K (upd H p o) (J++[p]) c p):Fg K (upd H p o) (J++[p]) (S++[c]) where
 len:=by simp[h.len]
 nd:=by
  rw[List.nodup_append];refine⟨h.nd,by simp,?_⟩;intro a ha b hb;simp at hb;subst hb;obtain⟨u,hu,_⟩:=h.held ha;exact ba hu hp
 at_:=fun n c1 a h1 ha=>by
  have hl:=h.len;by_cases hn:n<S.length
  ·rw[List.getElem?_append_left hn] at h1;rw[List.getElem?_append_left (by omega)] at ha;have r:=h.at_ n c1 a h1 ha;obtain⟨u,hu,_⟩:=r.MA;exact r.keep ((Ext.new hp).snoc _) (bi (ba hu hp))
  ·have RZ:=(List.getElem?_eq_some_iff.mp h1).1;have e:n=S.length:=by rw[List.length_append] at RZ;simp at RZ;omega
   subst e;rw[List.getElem?_append_right (Nat.le_refl _)] at h1;rw[List.getElem?_append_right (by omega)] at ha;simp at h1;rw[<-hl] at ha;simp at ha;subst h1 ha;exact hc
theorem Fg.write(h:Fg K H J S)(hn:J[n]?=some a)(hc:Iy K (upd H a o) J c' a):Fg K (upd H a o) J (S.set n c') where
 len:=by rw[List.length_set];exact h.len
 nd:=h.nd
 at_:=fun m c1 b h1 hb=>by
  obtain⟨c0,_,r0⟩:=h.JB hn;obtain⟨u0,Ye,Wx⟩:=r0.MA;by_cases e:m=n
  ·subst e;rw[hn] at hb;cases hb;rw[List.getElem?_set] at h1;simp at h1;obtain⟨_,h1⟩:=h1;subst h1;exact hc
  ·rw[List.getElem?_set_ne (Ne.symm e)] at h1;have r:=h.at_ m c1 b h1 hb;have Yf:b≠a:=by
    rintro rfl;exact e ((List.getElem?_inj (List.getElem?_eq_some_iff.mp hb).1 h.nd).mp (hb.trans hn.symm))
   exact r.keep (Ext.write Ye Wx) (bi Yf)
end
structure HI(K:PySem.W.Frag)(H:Hp)(J:List Addr)(r:s_)(σ:L2.St):Prop where
 len:r.length=σ.length
 at_:∀(i:Nat) d,r[i]?=some (some d)->∃v,σ[i]?=some (some v)/\r_ K H J d v
section
variable{K:PySem.W.Frag}{H H':Hp}{J J':List Addr}{r:s_}{σ:L2.St}
theorem HI.ext(h:HI K H J r σ)(e:Ext H J H' J'):HI K H' J' r σ:=⟨h.len,fun i d q=>let ⟨v,a,b⟩:=h.at_ i d q;⟨v,a,b.ext e⟩⟩
theorem HI.set(h:HI K H J r σ){i:Nat}{d:D}{v:V}(hd:r_ K H J d v):HI K H J (r.set i (some d)) (σ.set i (some v)) where
 len:=by simp[h.len]
 at_:=fun j d' q=>by
  by_cases e:j=i
  ·subst e;rw[List.getElem?_set] at q;simp at q;obtain⟨hj,q⟩:=q;subst q;refine⟨v,?_,hd⟩;rw[List.getElem?_set];simp[<-h.len,hj]
  ·rw[List.getElem?_set_ne (Ne.symm e)] at q ⊢;exact h.at_ j d' q
end
theorem HI.start{K:PySem.W.Frag}{H:Hp}{J:List Addr}{N:List Str}{xs:List D}{vs:List V}(h:j_ K H J xs vs) :
  HI K H J (xs.map some++List.replicate (N.length-xs.length) none) (L2.start N vs) where
 len:=by unfold L2.start;simp[h.length]
 at_:=fun i d q=>by
  have hl:=h.length;unfold L2.start;by_cases hi:i<xs.length
  ·rw[List.getElem?_append_left (by simpa using hi)] at q;rw[List.getElem?_append_left (by simp;omega)];rw[List.getElem?_map] at q ⊢;cases e:xs[i]? with
   |none=>rw[e] at q;simp at q
   |some x=>
    rw[e] at q;simp at q;subst q;obtain⟨v,h1,h2⟩:=h.get e;exact⟨v,by rw[h1];rfl,h2⟩
  ·rw[List.getElem?_append_right (by simpa using hi)] at q;rw[List.getElem?_replicate] at q;split at q<;>simp at q
end DL
namespace DL
open PySem PySem.Spec PyProof.Rows L2
abbrev Fe:=List (Addr×Obj)
def TO(T:Addr):HO:=.ext fun h=>∃o,h.get? T=some o
def Ej(h:Heap)(a c:Addr):Prop:=∃oe vs a0,h.get? a=some oe/\oe.cls=.ref c/\oe.data=.fields vs/\vs[0]?=some a0/\vs[1]?=some .none
def Tr(h:Heap)(a c T:Addr):Prop:=∃oe vs oT ts a0,h.get? a=some oe/\oe.cls=.ref c/\oe.data=.fields vs/\vs[0]?=some a0/\vs[1]?=some (.ref T)/\T≠a/\h.get? T=some oT/\oT.data=.fields ts/\ts[3]?=some .none
def XF(X:Cx)(H:Hp)(e:Value)(c:Addr)(h:Heap):Prop:=∃a,e=.ref a/\H a=some (XO a c)/\(Ej h a c\/∃T,H T=some (TO T)/\Tr h a c T)
structure Oh(X:Cx)(pins:Fe)(σ:L2.St)(H:Hp)(s:Shared)(e:Value)(c:Addr):Prop where
 inv:Inv X pins σ H s
 Yg:XF X H e c s.heap
def Got(K:PySem.W.Frag)(H:Hp)(J:List Addr)(d:D)(S:List Cell):VK:=fun v H'=>∃J',Ext H J H' J'/\Fg K H' J' S/\r_ K H' J' d v
def Oi(K:PySem.W.Frag)(H:Hp)(J:List Addr)(ds:List D)(S:List Cell)(vs:List V)(H':Hp):Prop:=∃J',Ext H J H' J'/\Fg K H' J' S/\j_ K H' J' ds vs
def Iz(K:PySem.W.Frag)(H:Hp)(J:List Addr)(S:List Cell)(H':Hp):Prop:=∃J',Ext H J H' J'/\Fg K H' J' S
def XP(X:Cx)(pins:Fe)(σ:L2.St)(c:Addr)(G:Hp->Prop)(e:Value)(s':Shared):Prop:=∃H',Oh X pins σ H' s' e c/\G H'
def Mt(X:Cx)(pins:Fe)(σ:L2.St)(H:Hp)(J:List Addr)(r:R D)(Q:Value->Shared->Prop)(E:Value->Shared->Prop):Prop:=match r with
 |.ok d S'=>∀u s',EP X pins σ (Got X.K H J d S') u s'->Q u s'
 |.exc c S'=>∀e s',XP X pins σ c (Iz X.K H J S') e s'->E e s'
 |.bad=>False
def LZ(X:Cx)(pins:Fe)(σ:L2.St)(H:Hp)(J:List Addr)(r:R Bool)(Q:Bool->Shared->Prop)(E:Value->Shared->Prop):Prop:=match r with
 |.ok b S'=>∀s',TP X pins σ (fun _=>Iz X.K H J S') b s'->Q b s'
 |.exc c S'=>∀e s',XP X pins σ c (Iz X.K H J S') e s'->E e s'
 |.bad=>False
def Q3(X:Cx)(pins:Fe)(σ:L2.St)(H:Hp)(J:List Addr)(r:R (List D))(Q:List Value->Shared->Prop)(E:Value->Shared->Prop):Prop:=match r with
 |.ok ds S'=>∀us s',AP X pins σ (Oi X.K H J ds S') us s'->Q us s'
 |.exc c S'=>∀e s',XP X pins σ c (Iz X.K H J S') e s'->E e s'
 |.bad=>False
section
variable{X:Cx}{pins:Fe}{σ:L2.St}{H H1:Hp}{J J1:List Addr}
theorem Got.ext{K:PySem.W.Frag}{d:D}{S:List Cell}{v:V}{H':Hp}(e:Ext H J H1 J1)(h:Got K H1 J1 d S v H'):Got K H J d S v H':=let ⟨J',a,b,c⟩:=h;⟨J',e.trans a,b,c⟩
theorem Oi.ext{K:PySem.W.Frag}{d:List D}{S:List Cell}{v:List V}{H':Hp}(e:Ext H J H1 J1)(h:Oi K H1 J1 d S v H'):Oi K H J d S v H':=let ⟨J',a,b,c⟩:=h;⟨J',e.trans a,b,c⟩
theorem Iz.ext{K:PySem.W.Frag}{S:List Cell}{H':Hp}(e:Ext H J H1 J1)(h:Iz K H1 J1 S H'):Iz K H J S H':=let ⟨J',a,b⟩:=h;⟨J',e.trans a,b⟩
theorem XP.ext{c:Addr}{S:List Cell}{u:Value}{s':Shared}(e:Ext H J H1 J1)(h:XP X pins σ c (Iz X.K H1 J1 S) u s'):XP X pins σ c (Iz X.K H J S) u s':=let ⟨H',a,b⟩:=h;⟨H',a,b.ext e⟩
theorem Mt.ext{r:R D}{Q E:Value->Shared->Prop}(e:Ext H J H1 J1)(h:Mt X pins σ H J r Q E):Mt X pins σ H1 J1 r Q E:=by
 cases r with
 |ok d S=>exact fun u s' ⟨v,H',I,rv,g⟩=>h u s' ⟨v,H',I,rv,g.ext e⟩
 |exc c S=>exact fun u s' x=>h u s' (x.ext e)
 |bad=>exact h
theorem LZ.ext{r:R Bool}{Q:Bool->Shared->Prop}{E:Value->Shared->Prop}(e:Ext H J H1 J1)(h:LZ X pins σ H J r Q E):LZ X pins σ H1 J1 r Q E:=by
 cases r with
 |ok d S=>exact fun s' ⟨H',I,g⟩=>h s' ⟨H',I,g.ext e⟩
 |exc c S=>exact fun u s' x=>h u s' (x.ext e)
 |bad=>exact h
theorem Q3.ext{r:R (List D)}{Q:List Value->Shared->Prop}{E:Value->Shared->Prop}(e:Ext H J H1 J1)(h:Q3 X pins σ H J r Q E):Q3 X pins σ H1 J1 r Q E:=by
 cases r with
 |ok d S=>exact fun u s' ⟨v,H',I,rv,g⟩=>h u s' ⟨v,H',I,rv,g.ext e⟩
 |exc c S=>exact fun u s' x=>h u s' (x.ext e)
 |bad=>exact h
end
structure At(X:Cx)(pins:Fe)(σ:L2.St)(H:Hp)(J:List Addr)(r:s_)(S:List Cell)(s:Shared):Prop where
 inv:Inv X pins σ H s
 loc:HI X.K H J r σ
 st:Fg X.K H J S
def FR(X:Cx)(e:Expr)(f:s_->M D):Prop:=∀(pins:Fe) (s:Shared) (σ:L2.St) (H:Hp) (J:List Addr) (r:s_) (S:List Cell) (Q E:Value->Shared->Prop),
 At X pins σ H J r S s->Mt X pins σ H J (f r S) Q E->wpAny (model X.prog X.w) X.A (eval e X.env) Q E s
def MB(X:Cx)(e:Expr)(f:s_->M Bool):Prop:=∀(pins:Fe) (s:Shared) (σ:L2.St) (H:Hp) (J:List Addr) (r:s_) (S:List Cell) (Q:Bool->Shared->Prop) (E:Value->Shared->Prop),
 At X pins σ H J r S s->LZ X pins σ H J (f r S) Q E->wpAny (model X.prog X.w) X.A (isTrue e X.env (eval e X.env)) Q E s
def IV(X:Cx)(e:Expr)(f:s_->M Bool):Prop:=∀(whole:Sem Value) (pins:Fe) (s:Shared) (σ:L2.St) (H:Hp) (J:List Addr) (r:s_) (S:List Cell) (Q:Bool->Shared->Prop) (E:Value->Shared->Prop),
 At X pins σ H J r S s->LZ X pins σ H J (f r S) Q E->wpAny (model X.prog X.w) X.A (isTrue e X.env whole) Q E s
theorem IV.pt{X:Cx}{e:Expr}{f:s_->M Bool}(h:IV X e f):MB X e f:=h _
def Lq(X:Cx)(es:List Expr)(f:s_->M (List D)):Prop:=∀(pos:Pos) (pins:Fe) (s:Shared) (σ:L2.St) (H:Hp) (J:List Addr) (r:s_) (S:List Cell) (Q:List Value->Shared->Prop) (E:Value->Shared->Prop),
 At X pins σ H J r S s->Q3 X pins σ H J (f r S) Q E->wpAny (model X.prog X.w) X.A (spliced (backTo pos (starEach es X.env))) Q E s
def IW(X:Cx)(f:Value->Value->Sem Value)(g:D->D->M D):Prop:=∀(pins:Fe) (s:Shared) (σ:L2.St) (H:Hp) (J:List Addr) (S:List Cell) (x y:D) (vx vy:V) (v u:Value) (Q E:Value->Shared->Prop),
 Inv X pins σ H s->Fg X.K H J S->r_ X.K H J x vx->r_ X.K H J y vy->RelV vx v->RelV vy u->Mt X pins σ H J (g x y S) Q E->wpAny (model X.prog X.w) X.A (f v u) Q E s
def Q4(X:Cx)(f:Value->Sem Value)(g:D->M D):Prop:=∀(pins:Fe) (s:Shared) (σ:L2.St) (H:Hp) (J:List Addr) (S:List Cell) (x:D) (vx:V) (v:Value) (Q E:Value->Shared->Prop),
 Inv X pins σ H s->Fg X.K H J S->r_ X.K H J x vx->RelV vx v->Mt X pins σ H J (g x S) Q E->wpAny (model X.prog X.w) X.A (f v) Q E s
def GP(X:Cx)(f:Value)(g:List D->M D):Prop:=∀(pins:Fe) (s:Shared) (σ:L2.St) (H:Hp) (J:List Addr) (S:List Cell) (xs:List D) (vs:List V) (us:List Value) (Q E:Value->Shared->Prop),
 Inv X pins σ H s->Fg X.K H J S->j_ X.K H J xs vs->Vals vs us->Mt X pins σ H J (g xs S) Q E->wpAny (model X.prog X.w) X.A (call f us) Q E s
section
variable{X:Cx}{a b c:Expr}{fa fb fc:s_->M D}{pos:Pos}
theorem EP.Fx{pins:Fe}{σ:L2.St}{E:Value->Shared->Prop}{Q:VK}{u:Value}{s':Shared}(h:EP (X.Fz E) pins σ Q u s'):EP X pins σ Q u s':=let ⟨v,H',I,r,q⟩:=h;⟨v,H',I.Fx,r,q⟩
theorem IW.of{f:Value->Value->Sem Value}{r:R2}{g:D->D->M D}(h:∀E,KW (X.Fz E) f r)
  (hg:∀(H:Hp) (J:List Addr) (S:List Cell) (x y:D) (vx vy:V) (d:D) (S':List Cell),Fg X.K H J S->r_ X.K H J x vx->r_ X.K H J y vy->g x y S=.ok d S'->r vx vy H (Got X.K H J d S'))
  (hn:∀x y S c S',g x y S≠.exc c S'):IW X f g:=by
 intro pins s σ H J S x y vx vy v u Q E I rs rx ry rv ru m;cases e:g x y S with
 |ok d S'=>
  rw[e] at m;exact wpAny_mono (h E pins s σ H vx vy v u _ (I.Fz E) rv ru (hg H J S x y vx vy d S' rs rx ry e)) (fun u s' q=>m u s' (EP.Fx q)) fun _ _ z=>z
 |exc c S'=>exact absurd e (hn _ _ _ _ _)
 |bad=>rw[e] at m;exact m.elim
theorem Q4.of{f:Value->Sem Value}{r:V->Hp->VK->Prop}{g:D->M D}(h:∀E,Tb (X.Fz E) f r)
  (hg:∀(H:Hp) (J:List Addr) (S:List Cell) (x:D) (vx:V) (d:D) (S':List Cell),Fg X.K H J S->r_ X.K H J x vx->g x S=.ok d S'->r vx H (Got X.K H J d S'))
  (hn:∀x S c S',g x S≠.exc c S'):Q4 X f g:=by
 intro pins s σ H J S x vx v Q E I rs rx rv m;cases e:g x S with
 |ok d S'=>
  rw[e] at m;exact wpAny_mono (h E pins s σ H vx v _ (I.Fz E) rv (hg H J S x vx d S' rs rx e)) (fun u s' q=>m u s' (EP.Fx q)) fun _ _ z=>z
 |exc c S'=>exact absurd e (hn _ _ _ _)
 |bad=>rw[e] at m;exact m.elim
theorem GP.of{f:Value}{r:List V->Hp->VK->Prop}{g:List D->M D}(h:∀E,HN (X.Fz E) f r)
  (hg:∀(H:Hp) (J:List Addr) (S:List Cell) (xs:List D) (vs:List V) (d:D) (S':List Cell),Fg X.K H J S->j_ X.K H J xs vs->g xs S=.ok d S'->r vs H (Got X.K H J d S'))
  (hn:∀xs S c S',g xs S≠.exc c S'):GP X f g:=by
 intro pins s σ H J S xs vs us Q E I rs rx rv m;cases e:g xs S with
 |ok d S'=>
  rw[e] at m;exact wpAny_mono (h E pins s σ H vs us _ (I.Fz E) rv (hg H J S xs vs d S' rs rx e)) (fun u s' q=>m u s' (EP.Fx q)) fun _ _ z=>z
 |exc c S'=>exact absurd e (hn _ _ _ _)
 |bad=>rw[e] at m;exact m.elim
theorem go2(ha:FR X a fa)(hb:FR X b fb){f:Value->Value->Sem Value}{g:D->D->M D}(ho:IW X f g){Q E:Value->Shared->Prop}{pins:Fe}{s:Shared}{σ:L2.St}{H:Hp}{J:List Addr}{r:s_}{S:List Cell}
  (I:At X pins σ H J r S s) (m:Mt X pins σ H J ((fa r).bind (fun x=>(fb r).bind fun y=>g x y) S) Q E) :
  wpAny (model X.prog X.w) X.A (eval a X.env) (fun v FE=>wpAny (model X.prog X.w) X.A (eval b X.env) (fun u Ni=>wpAny (model X.prog X.w) X.A (f v u) Q E Ni) E FE) E s:=by
 refine ha pins s σ H J r S _ E I ?_;unfold M.bind at m;cases e:fa r S with
 |bad=>rw[e] at m;exact m
 |exc c S1=>rw[e] at m;exact m
 |ok x S1=>
  rw[e] at m;intro u s' ⟨vx,H1,I1,r1,J1,ex,rs,rv⟩;refine hb pins s' σ H1 J1 r S1 _ E ⟨I1,I.loc.ext ex,rs⟩ ?_;dsimp only at m;cases e2:fb r S1 with
  |bad=>rw[e2] at m;exact m
  |exc c S2=>rw[e2] at m;exact Mt.ext (r:=.exc c S2) (Q:=fun _ _=>True) ex m
  |ok y S2=>
   rw[e2] at m;intro u2 s2 ⟨vy,H2,I2,r2,J2,JX,IA,KY⟩;exact ho pins s2 σ H2 J2 S2 x y vx vy u u2 Q E I2 IA (rv.ext JX) KY r1 r2 (Mt.ext (ex.trans JX) m)
def f_(g:D->D->M D)(fa fb:s_->M D):s_->M D:=fun r=>(fa r).bind fun x=>(fb r).bind fun y=>g x y
theorem bI{op:Operator}{g:D->D->M D}(ho:IW X (binaryOp op) g)(ha:FR X a fa)(hb:FR X b fb):FR X (.BinOp a op b pos) (f_ g fa fb):=
 fun pins s σ H J r S Q E I m=>wpAny_BinOp (go2 ha hb ho I m)
theorem pV{op:CmpOp}{g:D->D->M D}(ho:IW X (compareOp op) g)(ha:FR X a fa)(hb:FR X b fb)(hm:behindInMarks op b=false):FR X (.Compare a [op] [b] pos) (f_ g fa fb):=
 fun pins s σ H J r S Q E I m=>wpAny_Compare1 (go2 ha hb ho I m) hm
def aa(i:Nat):s_->M D:=fun r S=>match r[i]? with
 |some (some d)=>.ok d S
 |_=>.bad
def dC(d:D):s_->M D:=fun _ S=>.ok d S
theorem Mt.HL{pins:Fe}{s:Shared}{σ:L2.St}{H:Hp}{J:List Addr}{S:List Cell}{d:D}{v:V}{u:Value}{Q E:Value->Shared->Prop}(m:Mt X pins σ H J (.ok d S) Q E)(I:Inv X pins σ H s)(rs:Fg X.K H J S)(rv:r_ X.K H J d v)(r:RelV v u):Q u s:=
 m u s ⟨v,H,I,r,J,Ext.refl _ _,rs,rv⟩
theorem ae(i:Nat){x:Str}(hN:X.N[i]?=some x:=by rfl)(hv:SS X.env.scope x:=by first|exact Or.inl rfl|exact Or.inr (Or.inl rfl)|exact Or.inr (Or.inr rfl))(hd:(x == ("__debug__":Str))=false:=by decide)
  (LY:(x == ("__classdict__":Str))=false:=by decide):FR X (.Name x pos) (aa i):=by
 intro pins s σ H J r S Q E I m;unfold aa at m;cases e:r[i]? with
 |none=>rw[e] at m;exact m.elim
 |some o=>
  cases o with
  |none=>rw[e] at m;exact m.elim
  |some d=>
   rw[e] at m;obtain⟨v,h1,h2⟩:=I.loc.at_ i d e;exact wpAny_mono (DI (X:=X.Fz E) hN hv hd LY pins s σ H (Got X.K H J d S) (I.inv.Fz E) ⟨v,h1,J,Ext.refl _ _,I.st,h2⟩) (fun u s' q=>m u s' (EP.Fx q)) fun _ _ z=>z
theorem aq{i j pos}:FR X (.Constant (.int i) j pos) (dC (.int i)):=fun pins s σ H J r S Q E I m=>
 wpAny_Constant_int (m.HL (I.inv.tok _) I.st (v:=.int i) (by unfold r_;rfl) ⟨_,rfl⟩)
theorem jH{i j pos}:FR X (.Constant (.bool i) j pos) (dC (.bl i)):=fun pins s σ H J r S Q E I m=>
 Constant_bool (m.HL I.inv I.st (v:=.bl i) (by unfold r_;rfl) rfl)
theorem n5{j pos}:FR X (.Constant .none j pos) (dC .D_):=fun pins s σ H J r S Q E I m=>
 Constant_none (m.HL I.inv I.st (v:=.D_) (by unfold r_;rfl) rfl)
theorem aI{i j pos}:FR X (.Constant (.str i) j pos) (dC (.str i)):=fun pins s σ H J r S Q E I m=>
 Calls.Constant_str (m.HL (I.inv.tok _) I.st (v:=.str i) (by unfold r_;rfl) ⟨_,rfl⟩)
def Jr(K:PySem.W.Frag)(d:D)(u:Value):Prop:=∀H J,∃v,RelV v u/\r_ K H J d v
theorem BI{x:Str}{d:D}{u:Value}{pos:Pos}(hg:Gl X x)(hm:X.mg x=some u)(kr:Jr X.K d u)(hd:(x == ("__debug__":Str))=false:=by decide):FR X (.Name x pos) (dC d):=by
 intro pins s σ H J r S Q E I m;obtain⟨v,h1,h2⟩:=kr H J;exact lf I.inv hg hm (m.HL I.inv I.st h2 h1) hd
def PC:D->M Bool
 |.bl b=>fun S=>.ok b S
 |_=>fun _=>.bad
def al(f:s_->M D):s_->M Bool:=fun r=>(f r).bind PC
theorem r_.N4{K:PySem.W.Frag}{H:Hp}{J:List Addr}{b:Bool}{v:V}(h:r_ K H J (.bl b) v):v=.bl b:=by unfold r_ at h;exact h
theorem r_.Gu{K:PySem.W.Frag}{H:Hp}{J:List Addr}{b:Int}{v:V}(h:r_ K H J (.int b) v):v=.int b:=by unfold r_ at h;exact h
theorem r_.Nj{K:PySem.W.Frag}{H:Hp}{J:List Addr}{b:Str}{v:V}(h:r_ K H J (.str b) v):v=.str b:=by unfold r_ at h;exact h
theorem r_.LH{K:PySem.W.Frag}{H:Hp}{J:List Addr}{v:V}(h:r_ K H J .D_ v):v=.D_:=by unfold r_ at h;exact h
theorem r_.IC{K:PySem.W.Frag}{H:Hp}{J:List Addr}{xs:List D}{v:V}(h:r_ K H J (.tup xs) v):∃a vs,v=.ref a/\HH K H a vs/\j_ K H J xs vs:=by unfold r_ at h;exact h
theorem r_.KZ{K:PySem.W.Frag}{H:Hp}{J:List Addr}{xs:List D}{v:V}(h:r_ K H J (.Gp xs) v):∃a vs,v=.ref a/\N3 K H a vs/\j_ K H J xs vs:=by unfold r_ at h;exact h
theorem r_.Im{K:PySem.W.Frag}{H:Hp}{J:List Addr}{n:Nat}{v:V}(h:r_ K H J (.ob n) v):∃a,v=.ref a/\J[n]?=some a:=by unfold r_ at h;exact h
theorem r_.Yh{K:PySem.W.Frag}{H:Hp}{J:List Addr}{n:Nat}{v:V}(h:r_ K H J (.xn n) v):∃a,v=.ref a/\H a=some (XO a n):=by unfold r_ at h;exact h
theorem r_.int(K:PySem.W.Frag)(H:Hp)(J:List Addr)(b:Int):r_ K H J (.int b) (.int b):=by unfold r_;rfl
theorem r_.bl(K:PySem.W.Frag)(H:Hp)(J:List Addr)(b:Bool):r_ K H J (.bl b) (.bl b):=by unfold r_;rfl
theorem r_.str(K:PySem.W.Frag)(H:Hp)(J:List Addr)(b:Str):r_ K H J (.str b) (.str b):=by unfold r_;rfl
theorem r_.D_(K:PySem.W.Frag)(H:Hp)(J:List Addr):r_ K H J .D_ .D_:=by unfold r_;rfl
theorem r_.tup{K:PySem.W.Frag}{H:Hp}{J:List Addr}{xs:List D}{a:Addr}{vs:List V}(h:HH K H a vs)(g:j_ K H J xs vs):r_ K H J (.tup xs) (.ref a):=by unfold r_;exact⟨a,vs,rfl,h,g⟩
theorem r_.ob{K:PySem.W.Frag}{H:Hp}{J:List Addr}{n:Nat}{a:Addr}(h:J[n]?=some a):r_ K H J (.ob n) (.ref a):=by unfold r_;exact⟨a,rfl,h⟩
theorem LZ.Oj{pins:Fe}{σ:L2.St}{H:Hp}{J:List Addr}{rd:R D}{S:List Cell}{f:s_->M D}{r:s_}{Q:Bool->Shared->Prop}{E:Value->Shared->Prop}(m:LZ X pins σ H J (al f r S) Q E) :
  Mt X pins σ H J (f r S) (fun v s'=>wpAny (model X.prog X.w) X.A (truthy v) Q E s') E:=by
 unfold al M.bind at m;cases e:f r S with
 |bad=>rw[e] at m;exact m
 |exc c S1=>rw[e] at m;exact m
 |ok x S1=>
  rw[e] at m;intro u s' ⟨vx,H1,I1,r1,J1,ex,rs,rv⟩;cases x with
  |bl b=>
   cases rv.N4;cases r1;exact wpAny_truthy_bool (m s' ⟨H1,I1,J1,ex,rs⟩)
  |_=>exact m.elim
theorem aD{op:CmpOp}{g:D->D->M D}(ho:IW X (compareOp op) g)(ha:FR X a fa)(hb:FR X b fb)(hm:behindInMarks op b=false):MB X (.Compare a [op] [b] pos) (al (f_ g fa fb)):=by
 intro pins s σ H J r S Q E I m;refine wpAny_isTrue_Compare1 ?_ hm;have m':=LZ.Oj (rd:=.bad) m;have:=go2 ha hb ho I m';exact this
def cX(t u:s_->M Bool):s_->M Bool:=fun r=>(t r).bind fun c=>if c=true then u r else M.ret false
def G8(t u:s_->M Bool):s_->M Bool:=fun r=>(t r).bind fun c=>if c=true then M.ret true else u r
def cW(t:s_->M Bool):s_->M Bool:=fun r=>(t r).bind fun c=>M.ret (!c)
variable{tA QR:s_->M Bool}{rest:List Expr}
theorem To{t:Sem Bool}{f:M Bool}{k:Bool->M Bool}{pins:Fe}{s:Shared}{σ:L2.St}{H:Hp}{J:List Addr}{r:s_}{S:List Cell}{Q:Bool->Shared->Prop}{Q':Bool->Shared->Prop}{E:Value->Shared->Prop}(I:At X pins σ H J r S s)
  (ha:∀Q1,LZ X pins σ H J (f S) Q1 E->wpAny (model X.prog X.w) X.A t Q1 E s) (m:LZ X pins σ H J (f.bind k S) Q E)
  (hk:∀c S1 s1 H1 J1,At X pins σ H1 J1 r S1 s1->LZ X pins σ H1 J1 (k c S1) Q E->Q' c s1):wpAny (model X.prog X.w) X.A t Q' E s:=by
 refine ha _ ?_;unfold M.bind at m;cases e:f S with
 |bad=>rw[e] at m;exact m
 |exc c S1=>rw[e] at m;exact m
 |ok x S1=>
  rw[e] at m;intro s' ⟨H1,I1,J1,ex,rs⟩;exact hk x S1 s' H1 J1 ⟨I1,I.loc.ext ex,rs⟩ (LZ.ext ex m)
theorem db(ha:MB X a tA):IV X (.BoolOp .And [a] pos) tA:=by
 intro wh pins s σ H J r S Q E I m;refine isTrue_and (ha pins s σ H J r S _ E I ?_);cases e:tA r S with
 |bad=>rw[e] at m;exact m
 |exc c S1=>rw[e] at m;exact m
 |ok x S1=>
  rw[e] at m;intro s' h;cases x with
  |true=>exact isTrue_and_nil (m s' h)
  |false=>exact m s' h
theorem iS(ha:MB X a tA):IV X (.BoolOp .Or [a] pos) tA:=by
 intro wh pins s σ H J r S Q E I m;refine isTrue_or (ha pins s σ H J r S _ E I ?_);cases e:tA r S with
 |bad=>rw[e] at m;exact m
 |exc c S1=>rw[e] at m;exact m
 |ok x S1=>
  rw[e] at m;intro s' h;cases x with
  |false=>exact isTrue_or_nil (m s' h)
  |true=>exact m s' h
theorem LZ.HL{pins:Fe}{s:Shared}{σ:L2.St}{H:Hp}{J:List Addr}{r:s_}{S:List Cell}{b:Bool}{Q:Bool->Shared->Prop}{E:Value->Shared->Prop}(m:LZ X pins σ H J (.ok b S) Q E)(I:At X pins σ H J r S s):Q b s:=
 m s ⟨H,I.inv,J,Ext.refl _ _,I.st⟩
theorem dJ(ha:MB X a tA)(hb:IV X (.BoolOp .And (b :: rest) pos) QR):IV X (.BoolOp .And (a :: b :: rest) pos) (cX tA QR):=by
 intro wh pins s σ H J r S Q E I m;refine isTrue_and (To (r:=r) I (fun Q1=>ha pins s σ H J r S Q1 E I) m fun c S1 s1 H1 J1 I1 m1=>?_);cases c with
 |true=>exact hb wh pins s1 σ H1 J1 r S1 Q E I1 m1
 |false=>exact m1.HL I1
theorem iO(ha:MB X a tA)(hb:IV X (.BoolOp .Or (b :: rest) pos) QR):IV X (.BoolOp .Or (a :: b :: rest) pos) (G8 tA QR):=by
 intro wh pins s σ H J r S Q E I m;refine isTrue_or (To (r:=r) I (fun Q1=>ha pins s σ H J r S Q1 E I) m fun c S1 s1 H1 J1 I1 m1=>?_);cases c with
 |false=>exact hb wh pins s1 σ H1 J1 r S1 Q E I1 m1
 |true=>exact m1.HL I1
theorem gg(ha:MB X a tA):MB X (.UnaryOp .Not a pos) (cW tA):=by
 intro pins s σ H J r S Q E I m;exact isTrue_not (To (r:=r) I (fun Q1=>ha pins s σ H J r S Q1 E I) m fun c S1 s1 H1 J1 I1 m1=>m1.HL I1)
def im(fa fb:s_->M D):s_->M D:=fun r=>(al fa r).bind fun c=>if c=true then fb r else M.ret (.bl false)
def EU(fa fb:s_->M D):s_->M D:=fun r=>(al fa r).bind fun c=>if c=true then M.ret (.bl true) else fb r
def zu(fa:s_->M D):s_->M D:=fun r=>(al fa r).bind fun c=>M.ret (.bl (!c))
theorem Wy(ha:FR X a fa){k:Bool->M D}{pins:Fe}{s:Shared}{σ:L2.St}{H:Hp}{J:List Addr}{r:s_}{S:List Cell}{Q Q':Value->Shared->Prop}{E:Value->Shared->Prop}(I:At X pins σ H J r S s)
  (m:Mt X pins σ H J ((al fa r).bind k S) Q E) (hk:∀c S1 s1 H1 J1,At X pins σ H1 J1 r S1 s1->Mt X pins σ H1 J1 (k c S1) Q E->Q' (.bool c) s1):wpAny (model X.prog X.w) X.A (eval a X.env) Q' E s:=by
 refine ha pins s σ H J r S _ E I ?_;unfold al M.bind at m;cases e:fa r S with
 |bad=>rw[e] at m;exact m
 |exc c S1=>rw[e] at m;exact m
 |ok x S1=>
  rw[e] at m;intro u s' ⟨vx,H1,I1,r1,J1,ex,rs,rv⟩;cases x with
  |bl b=>
   cases rv.N4;cases r1;exact hk b S1 s' H1 J1 ⟨I1,I.loc.ext ex,rs⟩ (Mt.ext ex m)
  |_=>exact m.elim
theorem n6{op}(h:FR X a fa):FR X (.BoolOp op [a] pos) fa:=fun pins s σ H J r S Q E I m=>BoolOp_one (h pins s σ H J r S Q E I m)
theorem kP(ha:FR X a fa)(hb:FR X (.BoolOp .And (b :: rest) pos) fb):FR X (.BoolOp .And (a :: b :: rest) pos) (im fa fb):=by
 intro pins s σ H J r S Q E I m;refine BoolOp_and (Wy ha I m fun c S1 s1 H1 J1 I1 m1=>wpAny_truthy_bool ?_);cases c with
 |true=>exact hb pins s1 σ H1 J1 r S1 Q E I1 m1
 |false=>exact m1.HL I1.inv I1.st (r_.bl _ _ _ false) rfl
theorem Dc(ha:FR X a fa):FR X (.UnaryOp .Not a pos) (zu fa):=by
 intro pins s σ H J r S Q E I m;exact UnaryOp_ (Wy ha I m fun c S1 s1 H1 J1 I1 m1=>not_of (wpAny_truthy_bool (m1.HL I1.inv I1.st (r_.bl _ _ _ (!c)) rfl)))
def Qn(t:s_->M Bool)(fa fb:s_->M D):s_->M D:=fun r=>(t r).bind fun c=>if c=true then fa r else fb r
theorem EB{t:Sem Bool}{f:M Bool}{k:Bool->M D}{pins:Fe}{s:Shared}{σ:L2.St}{H:Hp}{J:List Addr}{r:s_}{S:List Cell}{Q:Value->Shared->Prop}{Q':Bool->Shared->Prop}{E:Value->Shared->Prop}(I:At X pins σ H J r S s)
  (ha:∀Q1,LZ X pins σ H J (f S) Q1 E->wpAny (model X.prog X.w) X.A t Q1 E s) (m:Mt X pins σ H J (f.bind k S) Q E)
  (hk:∀c S1 s1 H1 J1,At X pins σ H1 J1 r S1 s1->Mt X pins σ H1 J1 (k c S1) Q E->Q' c s1):wpAny (model X.prog X.w) X.A t Q' E s:=by
 refine ha _ ?_;unfold M.bind at m;cases e:f S with
 |bad=>rw[e] at m;exact m
 |exc c S1=>rw[e] at m;exact m
 |ok x S1=>
  rw[e] at m;intro s' ⟨H1,I1,J1,ex,rs⟩;exact hk x S1 s' H1 J1 ⟨I1,I.loc.ext ex,rs⟩ (Mt.ext ex m)
theorem uW{c:Expr}(hc:MB X c tA)(ha:FR X a fa)(hb:FR X b fb):FR X (.IfExp c a b pos) (Qn tA fa fb):=by
 intro pins s σ H J r S Q E I m;refine wpAny_IfExp (EB (r:=r) I (fun Q1=>hc pins s σ H J r S Q1 E I) m fun d S1 s1 H1 J1 I1 m1=>?_);cases d with
 |true=>exact ha pins s1 σ H1 J1 r S1 Q E I1 m1
 |false=>exact hb pins s1 σ H1 J1 r S1 Q E I1 m1
def jb(g g':D->D->M D)(fa fb fc:s_->M D):s_->M D:=fun r=>(fa r).bind fun x=>(fb r).bind fun y=>((g x y).bind PC).bind fun k=>if k=true then (fc r).bind fun z=>g' y z else M.ret (.bl false)
end
end DL
namespace DL
open PySem PySem.Spec PyProof.Rows L2
section
variable{X:Cx}{a b c:Expr}{fa fb fc:s_->M D}{pos:Pos}
theorem mR{op Lr:CmpOp}{g g':D->D->M D}(ho:IW X (compareOp op) g)(L5:IW X (compareOp Lr) g')(ha:FR X a fa)(hb:FR X b fb)(hc:FR X c fc)
  (hm:lastMarks [op,Lr] [b,c]=false:=by with_unfolding_all rfl):FR X (.Compare a [op,Lr] [b,c] pos) (jb g g' fa fb fc):=by
 intro pins s σ H J r S Q E I m;refine Compare_chain (ha pins s σ H J r S _ E I ?_) hm;unfold jb M.bind at m;cases e1:fa r S with
 |bad=>rw[e1] at m;exact m
 |exc c S1=>rw[e1] at m;exact m
 |ok x S1=>
  rw[e1] at m;intro v s1 ⟨vx,H1,I1,r1,J1,HJ,Ic,Hn⟩;refine chain_link (hb pins s1 σ H1 J1 r S1 _ E ⟨I1,I.loc.ext HJ,Ic⟩ ?_);have m:=Mt.ext HJ m;dsimp only at m;cases e2:fb r S1 with
  |bad=>rw[e2] at m;exact m
  |exc c S2=>rw[e2] at m;exact m
  |ok y S2=>
   rw[e2] at m;intro u s2 ⟨vy,H2,I2,r2,J2,JX,IA,KY⟩;have m:=Mt.ext JX m;dsimp only at m;refine ho pins s2 σ H2 J2 S2 x y vx vy v u _ E I2 IA (Hn.ext JX) KY r1 r2 ?_;cases e3:g x y S2 with
   |bad=>rw[e3] at m;exact m
   |exc c S3=>rw[e3] at m;exact m
   |ok z S3=>
    rw[e3] at m;intro w s3 ⟨vz,H3,I3,r3,J3,Qo,O6,Q5⟩;have m:=Mt.ext Qo m;dsimp only at m;cases z with
    |bl k=>
     cases Q5.N4;cases r3;refine wpAny_truthy_bool ?_;cases k with
     |false=>exact ite_ff (m.HL I3 O6 (r_.bl _ _ _ false) rfl)
     |true=>
      refine ite_tt (chain_last (hc pins s3 σ H3 J3 r S3 _ E ⟨I3,((I.loc.ext HJ).ext JX).ext Qo,O6⟩ ?_));simp only[PC,if_true,M.bind] at m;cases e4:fc r S3 with
      |bad=>rw[e4] at m;exact m
      |exc c S4=>rw[e4] at m;exact m
      |ok z S4=>
       rw[e4] at m;intro w s4 ⟨vz,H4,I4,r4,J4,Wz,Yi,Tp⟩;exact L5 pins s4 σ H4 J4 S4 y z vy vz u w _ E I4 Yi ((KY.ext Qo).ext Wz) Tp r2 r4 (Mt.ext Wz m)
    |_=>exact m.elim
def ai:s_->M (List D):=fun _=>M.ret []
def ac(f:s_->M D)(g:s_->M (List D)):s_->M (List D):=fun r=>(f r).bind fun x=>(g r).bind fun xs=>M.ret (x :: xs)
variable{e:Expr}{es:List Expr}{fe:s_->M D}{ft:s_->M (List D)}
theorem ah:Lq X [] ai:=fun _ pins s σ H J r S Q E I m=>Calls.spliced_nil (m [] s ⟨[],H,I.inv,.nil,J,Ext.refl _ _,I.st,.nil⟩)
theorem af(ha:FR X e fe)(hr:Lq X es ft)(hs:starEach (e :: es) X.env=(false,eval e X.env) :: starEach es X.env:=by rfl):Lq X (e :: es) (ac fe ft):=by
 intro pos pins s σ H J r S Q E I m;rw[hs];show wpAny _ _ (spliced ((false,eval e X.env) :: backTo pos (starEach es X.env))) _ _ s;refine Calls.spliced_cons (ha pins s σ H J r S _ E I ?_);unfold ac M.bind at m;cases e1:fe r S with
 |bad=>rw[e1] at m;exact m
 |exc c S1=>rw[e1] at m;exact m
 |ok x S1=>
  rw[e1] at m;intro v s1 ⟨vx,H1,I1,r1,J1,HJ,Ic,Hn⟩;refine hr pos pins s1 σ H1 J1 r S1 _ E ⟨I1,I.loc.ext HJ,Ic⟩ ?_;have m:=Q3.ext HJ m;dsimp only at m;cases e2:ft r S1 with
  |bad=>rw[e2] at m;exact m
  |exc c S2=>rw[e2] at m;exact m
  |ok xs S2=>
   rw[e2] at m;intro us s2 ⟨vs,H2,I2,r2,J2,JX,IA,KY⟩;exact m (v :: us) s2 ⟨vx :: vs,H2,I2,.cons r1 r2,J2,JX,IA,.cons (Hn.ext JX) KY⟩
theorem R9(h:Lq X es ft){k:List D->M D}{pins:Fe}{s:Shared}{σ:L2.St}{H:Hp}{J:List Addr}{r:s_}{S:List Cell}{Q E:Value->Shared->Prop}{Q':List Value->Shared->Prop}(I:At X pins σ H J r S s)
  (m:Mt X pins σ H J ((ft r).bind k S) Q E) (hk:∀xs S1 s1 H1 J1 vs us,At X pins σ H1 J1 r S1 s1->j_ X.K H1 J1 xs vs->Vals vs us->Mt X pins σ H1 J1 (k xs S1) Q E->Q' us s1) (pos:Pos) :
  wpAny (model X.prog X.w) X.A (spliced (backTo pos (starEach es X.env))) Q' E s:=by
 refine h pos pins s σ H J r S _ E I ?_;unfold M.bind at m;cases e1:ft r S with
 |bad=>rw[e1] at m;exact m
 |exc c S1=>rw[e1] at m;exact m
 |ok x S1=>
  rw[e1] at m;intro us s1 ⟨vs,H1,I1,r1,J1,HJ,Ic,Hn⟩;exact hk x S1 s1 H1 J1 vs us ⟨I1,I.loc.ext HJ,Ic⟩ Hn r1 (Mt.ext HJ m)
def nE(xs:List D):M D:=fun S=>Hq (xs.length<=sizeLine) (.ok (.tup xs) S) .bad
def nF(xs:List D):M D:=fun S=>Hq (xs.length<=sizeLine) (.ok (.ob S.length) (S++[.lst xs])) .bad
theorem Got.tup{K:PySem.W.Frag}{H:Hp}{J:List Addr}{S:List Cell}{xs:List D}{vs:List V}{p:Addr}(rs:Fg K H J S)(rv:j_ K H J xs vs)(hp:H p=none):Got K H J (.tup xs) S (.ref p) (upd H p (.tup vs)):=
 ⟨J,Ext.new hp,rs.new hp,.tup (HH.of bD) (rv.ext (Ext.new hp))⟩
theorem Got.lst{K:PySem.W.Frag}{H:Hp}{J:List Addr}{S:List Cell}{xs:List D}{vs:List V}{p:Addr}(rs:Fg K H J S)(rv:j_ K H J xs vs)(hp:H p=none):Got K H J (.ob S.length) (S++[.lst xs]) (.ref p) (upd H p (.lst vs)):=
 ⟨J++[p],(Ext.new hp).snoc _,rs.push hp ⟨vs,bD,rv.ext ((Ext.new hp).snoc _)⟩,.ob (by rw[<-rs.len];simp)⟩
theorem Mt.val{pins:Fe}{s:Shared}{σ:L2.St}{H H':Hp}{J:List Addr}{S:List Cell}{d:D}{v:V}{u:Value}{Q E:Value->Shared->Prop}(m:Mt X pins σ H J (.ok d S) Q E)(I:Inv X pins σ H' s)(r:RelV v u)(g:Got X.K H J d S v H'):Q u s:=
 m u s ⟨v,H',I,r,g⟩
def cn(ft:s_->M (List D)):s_->M D:=fun r=>(ft r).bind nE
def bV(ft:s_->M (List D)):s_->M D:=fun r=>(ft r).bind nF
theorem cg{x1}(h:Lq X es ft):FR X (.Tuple es x1 pos) (cn ft):=by
 intro pins s σ H J r S Q E I m;refine wpAny_Tuple_spliced (R9 h I m (fun xs S1 s1 H1 J1 vs us I1 rv r1 m1=>?_) pos);unfold nE Hq at m1;split at m1
 ·rename_i z;have z':vs.length<=sizeLine:=by rw[rv.length];exact z
  refine⟨by rw[<-r1.length];exact z',?_⟩;have hf:H1 s1.heap.objs.size=none:=I1.inv.Fn.fresh (Nat.le_refl _);refine m1.val (H':=upd H1 s1.heap.objs.size (.tup vs)) (v:=.ref s1.heap.objs.size) (I1.inv.laid (t':=s1.toks) (fun b u e=>Heap.get?_push_of_some _ e) (Nat.le_refl _) ?_) rfl (Got.tup I1.st rv hf);exact⟨z',us,r1,⟨_,Heap.get?_push_size _ rfl,rfl,_,rfl⟩⟩
 ·exact m1.elim
theorem ci(h:Lq X es ft):FR X (.List es pos) (bV ft):=by
 intro pins s σ H J r S Q E I m;refine wpAny_List_spliced (R9 h I m (fun xs S1 s1 H1 J1 vs us I1 rv r1 m1=>?_) pos);unfold nF Hq at m1;split at m1
 ·rename_i z;have z':vs.length<=sizeLine:=by rw[rv.length];exact z
  refine⟨by rw[<-r1.length];exact z',?_⟩;have hf:H1 s1.heap.objs.size=none:=I1.inv.Fn.fresh (Nat.le_refl _);refine m1.val (H':=upd H1 s1.heap.objs.size (.lst vs)) (v:=.ref s1.heap.objs.size) (I1.inv.laid (t':=s1.toks) (fun b u e=>Heap.get?_push_of_some _ e) (Nat.le_refl _) ?_) rfl (Got.lst I1.st rv hf);exact⟨z',us,0,r1,Heap.get?_push_size _ rfl⟩
 ·exact m1.elim
def Qp(X:Cx)(g:D->D->M D):Prop:=∀(value slice:Expr) (pins:Fe) (s:Shared) (σ:L2.St) (H:Hp) (J:List Addr) (S:List Cell) (x y:D) (vx vy:V) (v u:Value) (Q E:Value->Shared->Prop),
 Inv X pins σ H s->Fg X.K H J S->r_ X.K H J x vx->r_ X.K H J y vy->RelV vx v->RelV vy u->subscripted slice false v u=operate [v,u] (getItem v u)->Mt X pins σ H J (g x y S) Q E->wpAny (model X.prog X.w) X.A (subscriptTail value slice v u) Q E s
theorem Qp.of{r:R2}{g:D->D->M D}(h:∀E,Px (X.Fz E) r)
  (hg:∀(H:Hp) (J:List Addr) (S:List Cell) (x y:D) (vx vy:V) (d:D) (S':List Cell),Fg X.K H J S->r_ X.K H J x vx->r_ X.K H J y vy->g x y S=.ok d S'->r vx vy H (Got X.K H J d S'))
  (hn:∀x y S c S',g x y S≠.exc c S'):Qp X g:=by
 intro value slice pins s σ H J S x y vx vy v u Q E I rs rx ry rv ru hs m;cases e:g x y S with
 |ok d S'=>
  rw[e] at m;exact wpAny_mono (h E value slice pins s σ H vx vy v u _ (I.Fz E) rv ru (hg H J S x y vx vy d S' rs rx ry e) hs) (fun u s' q=>m u s' (EP.Fx q)) fun _ _ z=>z
 |exc c S'=>exact absurd e (hn _ _ _ _ _)
 |bad=>rw[e] at m;exact m.elim
theorem aJ{g:D->D->M D}(hr:Qp X g)(ha:FR X a fa)(hb:FR X b fb)(hs:BE b):FR X (.Subscript a b pos) (f_ g fa fb):=by
 intro pins s σ H J r S Q E I m;refine Subscript_ (ha pins s σ H J r S _ E I ?_);unfold f_ M.bind at m;cases e:fa r S with
 |bad=>rw[e] at m;exact m
 |exc c S1=>rw[e] at m;exact m
 |ok x S1=>
  rw[e] at m;intro u s' ⟨vx,H1,I1,r1,J1,ex,rs,rv⟩;refine hb pins s' σ H1 J1 r S1 _ E ⟨I1,I.loc.ext ex,rs⟩ ?_;dsimp only at m;have m:=Mt.ext ex m;cases e2:fb r S1 with
  |bad=>rw[e2] at m;exact m
  |exc c S2=>rw[e2] at m;exact m
  |ok y S2=>
   rw[e2] at m;intro u2 s2 ⟨vy,H2,I2,r2,J2,JX,IA,KY⟩;exact hr a b pins s2 σ H2 J2 S2 x y vx vy u u2 Q E I2 IA (rv.ext JX) KY r1 r2 (hs _ _) (Mt.ext JX m)
def Yj(X:Cx)(pins:Fe)(σ:L2.St)(H:Hp)(J:List Addr)(r:R (Option Int))(Q:Value->Shared->Prop)(E:Value->Shared->Prop):Prop:=match r with
 |.ok o S'=>∀u s' H',Inv X pins σ H' s'->Iz X.K H J S' H'->IsPart u o->Q u s'
 |.exc c S'=>∀e s',XP X pins σ c (Iz X.K H J S') e s'->E e s'
 |.bad=>False
def R_(X:Cx)(e:Option Expr)(f:s_->M (Option Int)):Prop:=∀(pins:Fe) (s:Shared) (σ:L2.St) (H:Hp) (J:List Addr) (r:s_) (S:List Cell) (Q E:Value->Shared->Prop),
 At X pins σ H J r S s->Yj X pins σ H J (f r S) Q E->wpAny (model X.prog X.w) X.A (evalPart e X.env) Q E s
def bT:s_->M (Option Int):=fun _=>M.ret none
def zp:D->M (Option Int)
 |.int i=>M.ret (some i)
 |_=>M.bad
def bP(f:s_->M D):s_->M (Option Int):=fun r=>(f r).bind zp
theorem iu:R_ X none bT:=by
 intro pins s σ H J r S Q E I m;rw[evalPart_none];exact wpAny_pure (m .none s H I.inv ⟨J,Ext.refl _ _,I.st⟩ .none)
theorem dQ(h:FR X e fe):R_ X (some e) (bP fe):=by
 intro pins s σ H J r S Q E I m;rw[evalPart_some];refine h pins s σ H J r S _ E I ?_;unfold bP M.bind at m;cases e1:fe r S with
 |bad=>rw[e1] at m;exact m
 |exc c S1=>rw[e1] at m;exact m
 |ok x S1=>
  rw[e1] at m;intro u s' ⟨vx,H1,I1,r1,J1,ex,rs,rv⟩;cases x with
  |int i=>
   cases rv.Gu;obtain⟨t,rfl⟩:=r1;exact m _ s' H1 I1 ⟨J1,ex,rs⟩ (.int i t)
  |_=>exact m.elim
def WA(X:Cx)(g:D->Option Int->Option Int->M D):Prop:=∀(pins:Fe) (s:Shared) (σ:L2.St) (H:Hp) (J:List Addr) (S:List Cell) (x:D) (vx:V) (v vl vu:Value) (lo hi:Option Int) (sl:Addr) (Q E:Value->Shared->Prop),
 Inv X pins σ H s->Fg X.K H J S->r_ X.K H J x vx->RelV vx v->s.heap.IsSliceOf sl vl vu .none->IsPart vl lo->IsPart vu hi->Mt X pins σ H J (g x lo hi S) Q E->
  ∃T id,typeLookup (.type T) "__getitem__"=pure (some (.builtin id))/\s.TypeIs v T/\wpAny (model X.prog X.w) X.A (getItem v (.ref sl)) Q E s
def HP(g:D->Option Int->Option Int->M D)(fe:s_->M D)(fl fh:s_->M (Option Int)):s_->M D:=fun r=>(fe r).bind fun x=>(fl r).bind fun l=>(fh r).bind fun h=>g x l h
theorem fB{g:D->Option Int->Option Int->M D}{lo hi:Option Expr}{fl fh:s_->M (Option Int)}{p2:Pos}(hr:WA X g)(he:FR X e fe)(hl:R_ X lo fl)(hu:R_ X hi fh):FR X (.Subscript e (.Slice lo hi none p2) pos) (HP g fe fl fh):=by
 intro pins s σ H J r S Q E I m;refine Subscript_ (he pins s σ H J r S _ E I ?_);unfold HP M.bind at m;cases e1:fe r S with
 |bad=>rw[e1] at m;exact m
 |exc c S1=>rw[e1] at m;exact m
 |ok x S1=>
  rw[e1] at m;intro v s1 ⟨vx,H1,I1,r1,J1,HJ,Ic,Hn⟩;refine wpAny_Slice (hl pins s1 σ H1 J1 r S1 _ E ⟨I1,I.loc.ext HJ,Ic⟩ ?_);have m:=Mt.ext HJ m;dsimp only at m;cases e2:fl r S1 with
  |bad=>rw[e2] at m;exact m
  |exc c S2=>rw[e2] at m;exact m
  |ok l S2=>
   rw[e2] at m;intro vl s2 H2 I2 ⟨J2,JX,IA⟩ pl;have m:=Mt.ext JX m;dsimp only at m;refine hu pins s2 σ H2 J2 r S2 _ E ⟨I2,(I.loc.ext HJ).ext JX,IA⟩ ?_;cases e3:fh r S2 with
   |bad=>rw[e3] at m;exact m
   |exc c S3=>rw[e3] at m;exact m
   |ok u S3=>
    rw[e3] at m;intro vu s3 H3 I3 ⟨J3,Qo,O6⟩ pu;have m:=Mt.ext Qo m;rw[evalPart_none];refine wpAny_pure ?_;have I4:Inv X pins σ H3 { s3 with heap:=s3.heap.push { cls:=.type "slice",data:=.fields #[vl,vu,.none] } }:=I3.kept (t':=s3.toks) fun b ob q=>Heap.get?_push_of_some _ q
    obtain⟨T,id,hT,ht,hg⟩:=hr pins { s3 with heap:=s3.heap.push { cls:=.type "slice",data:=.fields #[vl,vu,.none] } } σ H3 J3 S3 x vx v vl vu l u s3.heap.objs.size Q E I4 O6 ((Hn.ext JX).ext Qo) r1 (Heap.IsSliceOf.new ..) pl pu m;show wpAny (model X.prog X.w) X.A (subscriptTail e (.Slice lo hi none p2) v (.ref s3.heap.objs.size)) Q E { s3 with heap:=s3.heap.push { cls:=.type "slice",data:=.fields #[vl,vu,.none] } };exact tail_any (ops:=[.ref s3.heap.objs.size,v]) ht hT hg (by with_unfolding_all rfl)
def am(g:List D->M D)(ft:s_->M (List D)):s_->M D:=fun r=>(ft r).bind g
theorem bx{x:Str}{p:Pos}{id:String}{g:List D->M D}(hc:GP X (.builtin id) g)(hg:Gl X x)(hm:X.mg x=none)(hv:bootBuiltins x=some (.builtin id))(ha:Lq X (e :: es) ft)(hn:x≠"__name__":=by decide)(MP:(x == ("__debug__":Str))=false:=by decide)
  (he:starEach (e :: es) X.env=(false,eval e X.env) :: starEach es X.env:=by rfl) (LB:(backTo pos (starEach es X.env)).any (·.1)=false:=by rfl):FR X (.Call (.Name x p) (e :: es) [] pos) (am g ft):=by
 intro pins s σ H J r S Q E I m;refine wpAny_Call_Name_kw (kH I.inv hg hm hv ?_ hn MP);exact PyProof.Rows.callWith_builtin1 (R9 ha I m (fun xs S1 s1 H1 J1 vs us I1 rv r1 m1=>hc pins s1 σ H1 J1 S1 xs vs us Q E I1.inv I1.st rv r1 m1) pos) he LB
theorem fH{x:Str}{p:Pos}{T:String}{g:List D->M D}(hc:GP X (.type T) g)(hg:Gl X x)(hm:X.mg x=none)(hv:bootBuiltins x=some (.type T))(ha:Lq X (e :: es) ft)(hn:x≠"__name__":=by decide)(MP:(x == ("__debug__":Str))=false:=by decide)
  (he:starEach (e :: es) X.env=(false,eval e X.env) :: starEach es X.env:=by rfl) (LB:(backTo pos (starEach es X.env)).any (·.1)=false:=by rfl):FR X (.Call (.Name x p) (e :: es) [] pos) (am g ft):=by
 intro pins s σ H J r S Q E I m;refine wpAny_Call_Name_kw (kH I.inv hg hm hv ?_ hn MP);exact PyProof.Rows.callWith_type1 (R9 ha I m (fun xs S1 s1 H1 J1 vs us I1 rv r1 m1=>hc pins s1 σ H1 J1 S1 xs vs us Q E I1.inv I1.st rv r1 m1) pos) he LB
def WB(K:PySem.W.Frag)(n:Nat)(F:List D->M D):Sp:=fun vs H Q E=>vs.length=n/\∃J xs S,j_ K H J xs vs/\Fg K H J S/\match F xs S with
 |.ok d S'=>∀v H',Got K H J d S' v H'->Q v H'
 |.exc c S'=>∀H',Iz K H J S' H'->E (.ref c) none H'
 |.bad=>False
def oG(CX:Je)(X:Cx):Prop:=∀(E0:XK) (pins:Fe) (σ:L2.St) (H:Hp) (s:Shared) (e:Value) (s':Shared),Inv X pins σ H s->CX X.stack H s E0 e s'->∃c H',Oh X pins σ H' s' e c/\E0 (.ref c) none H'
abbrev Gm(P:Program)(w:World)(K:PySem.W.Frag)(mg:Str->Option Value)(base:Heap)(CX:Je)(k:Nat)(f:Addr)(fd:FuncData)(ps:List Str)(F:List D->M D):Prop:=IP P w K mg base CX k f fd ps (WB K ps.length F)
theorem sR{CX:Je}{k:Nat}{f:Addr}{fd:FuncData}{ps:List Str}{F:List D->M D}{pins:Fe}{σ:L2.St}{H:Hp}{J:List Addr}{S:List Cell}{s:Shared}{Q E:Value->Shared->Prop}{xs:List D}{vs:List V}{us:List Value}
  (hF:Gm X.prog X.w X.K X.mg X.base CX k f fd ps F) (hr:Gy k X.A) (hb:Binds X.K fd ps []) (hx:oG CX X) (I:Inv X pins σ H s) (rs:Fg X.K H J S) (rx:j_ X.K H J xs vs) (rv:Vals vs us) (hl:xs.length=ps.length)
  (m:Mt X pins σ H J (F xs S) Q E):wpAny (model X.prog X.w) X.A (call (.ref f) us) Q E s:=by
 have hlen:(us++[]).length=ps.length:=by rw[List.append_nil,<-rv.length,rx.length];exact hl
 have Ol:=hb s us I.Jy hlen;rw[List.append_nil] at Ol;refine wpAny_call (codeAny_mono (hF.run X.A X.stack s H ⟨us,[]⟩ us vs (fun v H'=>∃d S',F xs S=.ok d S'/\Got X.K H J d S' v H') (fun cl _ H'=>∃c S',F xs S=.exc c S'/\cl=.ref c/\Iz X.K H J S' H') hr I.QT Ol rv ?_) fun rr s' hq=>?_)
 ·refine⟨by rw[rx.length];exact hl,J,xs,S,rx,rs,?_⟩;cases e:F xs S with
  |ok d S'=>exact fun v H' g=>⟨d,S',rfl,g⟩
  |exc c S'=>exact fun H' g=>⟨c,S',rfl,rfl,g⟩
  |bad=>rw[e] at m;exact m
 ·cases rr with
  |error e=>
   obtain⟨c,H',XI,c',S',e1,e2,g⟩:=hx _ pins σ H s e s' I hq;cases e2;rw[e1] at m;exact m e s' ⟨H',XI,g⟩
  |ok fl=>
   cases fl with
   |ret u=>
    obtain⟨v,H',I',r',d,S',e1,g⟩:=I.after hq;rw[e1] at m;exact m u s' ⟨v,H',I',r',g⟩
   |next=>exact False.elim hq
   |brk=>exact False.elim hq
   |cont=>exact False.elim hq
theorem BG{CX:Je}{k:Nat}{f:Addr}{fd:FuncData}{ps:List Str}{F:List D->M D}{x:Str}{p:Pos}(hF:Gm X.prog X.w X.K X.mg X.base CX k f fd ps F)(hr:Gy k X.A)(hg:Gl X x)(hm:X.mg x=some (.ref f))(hk:PySem.W.keepIn X.K (.ref f)=true)
  (hb:Binds X.K fd ps []) (hx:oG CX X) (ha:Lq X (e :: es) ft) (hl:∀r S xs S',ft r S=.ok xs S'->xs.length=ps.length)
  (MP:(x == ("__debug__":Str))=false:=by decide) (he:starEach (e :: es) X.env=(false,eval e X.env) :: starEach es X.env:=by rfl) (LB:(backTo pos (starEach es X.env)).any (·.1)=false:=by rfl) :
  FR X (.Call (.Name x p) (e :: es) [] pos) (am F ft):=by
 intro pins s σ H J r S Q E I m;refine wpAny_Call_Name_kw (lf I.inv hg hm ?_ MP);refine PySem.W.callWith_K (h₀:=X.base) I.inv.ok.mod.Qh hk ?_ he LB;refine ha pos pins s σ H J r S _ E I ?_;unfold am M.bind at m;cases e1:ft r S with
 |bad=>rw[e1] at m;exact m
 |exc c S1=>rw[e1] at m;exact m
 |ok xs S1=>
  rw[e1] at m;intro us s1 ⟨vs,H1,I1,r1,J1,HJ,Ic,Hn⟩;exact⟨I1.Jy,sR hF hr hb hx I1 Ic Hn r1 (hl r S xs S1 e1) (Mt.ext HJ m)⟩
end
end DL
namespace DL
open PySem PySem.Spec PyProof.Rows L2
inductive Fl where
 |nx (r:s_)|rt (d:D)|bk (r:s_)|ct (r:s_)|xc (c:Addr) (r:s_)
abbrev L0:=Option (Fl×List Cell)
abbrev Fw:=s_->List Cell->L0
def Kc(X:Cx)(pins:Fe)(H:Hp)(J:List Addr)(x:L0)(Q:Flow->Shared->Prop)(E:Value->Shared->Prop):Prop:=match x with
 |none=>False
 |some (.nx r',S')=>∀s' FJ H' J',At X pins FJ H' J' r' S' s'->Ext H J H' J'->Q .next s'
 |some (.bk r',S')=>∀s' FJ H' J',At X pins FJ H' J' r' S' s'->Ext H J H' J'->Q .brk s'
 |some (.ct r',S')=>∀s' FJ H' J',At X pins FJ H' J' r' S' s'->Ext H J H' J'->Q .cont s'
 |some (.rt d,S')=>∀u s' FJ,EP X pins FJ (Got X.K H J d S') u s'->Q (.ret u) s'
 |some (.xc c r',S')=>∀e s' FJ H' J',Oh X pins FJ H' s' e c->HI X.K H' J' r' FJ->Fg X.K H' J' S'->Ext H J H' J'->E e s'
theorem Kc.ext{X:Cx}{pins:Fe}{H H1:Hp}{J J1:List Addr}{x:L0}{Q:Flow->Shared->Prop}{E:Value->Shared->Prop}(e:Ext H J H1 J1)(h:Kc X pins H J x Q E):Kc X pins H1 J1 x Q E:=by
 match x,h with
 |none,h=>exact h
 |some (.nx r',S'),h=>exact fun s' FJ H' J' a x=>h s' FJ H' J' a (e.trans x)
 |some (.bk r',S'),h=>exact fun s' FJ H' J' a x=>h s' FJ H' J' a (e.trans x)
 |some (.ct r',S'),h=>exact fun s' FJ H' J' a x=>h s' FJ H' J' a (e.trans x)
 |some (.rt d,S'),h=>exact fun u s' FJ ⟨v,H',I,rv,g⟩=>h u s' FJ ⟨v,H',I,rv,g.ext e⟩
 |some (.xc c r',S'),h=>exact fun u s' FJ H' J' a b c x=>h u s' FJ H' J' a b c (e.trans x)
def L1(X:Cx)(st:Stmt)(t:Fw):Prop:=∀(pins:Fe) (s:Shared) (σ:L2.St) (H:Hp) (J:List Addr) (r:s_) (S:List Cell) (Q:Flow->Shared->Prop) (E:Value->Shared->Prop),
 At X pins σ H J r S s->Kc X pins H J (t r S) Q E->wpAny (model X.prog X.w) X.A (exec st X.env) Q E s
def nv(X:Cx)(st:List Stmt)(t:Fw):Prop:=∀(pins:Fe) (s:Shared) (σ:L2.St) (H:Hp) (J:List Addr) (r:s_) (S:List Cell) (Q:Flow->Shared->Prop) (E:Value->Shared->Prop),
 At X pins σ H J r S s->Kc X pins H J (t r S) Q E->wpAny (model X.prog X.w) X.A (execs st X.env) Q E s
def cw{α:Type}(m:M α)(r:s_)(k:α->List Cell->L0):List Cell->L0:=fun S=>match m S with
 |.ok a S'=>k a S'
 |.exc c S'=>some (.xc c r,S')
 |.bad=>none
def bz:Fw:=fun r S=>some (.nx r,S)
def aL(t u:Fw):Fw:=fun r S=>match t r S with
 |some (.nx r',S')=>u r' S'
 |o=>o
section
variable{X:Cx}{st:Stmt}{rest:List Stmt}{t u:Fw}{e:Expr}{fe:s_->M D}{pos:Pos}
theorem aU:nv X [] bz:=fun pins s σ H J r S Q E I m=>wpAny_execs_nil (m s σ H J I (Ext.refl _ _))
theorem au(h1:L1 X st t)(h2:nv X rest u):nv X (st :: rest) (aL t u):=by
 intro pins s σ H J r S Q E I m;refine wpAny_execs_cons (h1 pins s σ H J r S _ E I ?_);unfold aL at m
 match e:t r S with
 |none=>rw[e] at m;exact m
 |some (.nx r',S')=>
  rw[e] at m;exact fun s' FJ H' J' a x=>h2 pins s' FJ H' J' r' S' Q E a (Kc.ext x m)
 |some (.bk r',S')=>rw[e] at m;exact m
 |some (.ct r',S')=>rw[e] at m;exact m
 |some (.rt d,S')=>rw[e] at m;exact m
 |some (.xc c r',S')=>rw[e] at m;exact m
theorem ao(h1:L1 X st t):nv X [st] t:=by
 intro pins s σ H J r S Q E I m;refine wpAny_execs_cons (h1 pins s σ H J r S _ E I ?_)
 match e:t r S with
 |none=>rw[e] at m;exact m
 |some (.nx r',S')=>rw[e] at m;exact fun s' FJ H' J' a x=>wpAny_execs_nil (m s' FJ H' J' a x)
 |some (.bk r',S')=>rw[e] at m;exact m
 |some (.ct r',S')=>rw[e] at m;exact m
 |some (.rt d,S')=>rw[e] at m;exact m
 |some (.xc c r',S')=>rw[e] at m;exact m
theorem Q6(he:FR X e fe){k:D->List Cell->L0}{pins:Fe}{s:Shared}{σ:L2.St}{H:Hp}{J:List Addr}{r:s_}{S:List Cell}{Q:Flow->Shared->Prop}{E:Value->Shared->Prop}{Q':Value->Shared->Prop}(I:At X pins σ H J r S s)
  (m:Kc X pins H J (cw (fe r) r k S) Q E) (hk:∀x S1 v s1 vx H1 J1,At X pins σ H1 J1 r S1 s1->r_ X.K H1 J1 x vx->RelV vx v->Kc X pins H1 J1 (k x S1) Q E->Q' v s1) :
  wpAny (model X.prog X.w) X.A (eval e X.env) Q' E s:=by
 refine he pins s σ H J r S _ E I ?_;unfold cw at m;cases e1:fe r S with
 |bad=>rw[e1] at m;exact m
 |exc c S1=>
  rw[e1] at m;exact fun x s' ⟨H',XI,J',ex,rs⟩=>m x s' σ H' J' XI (I.loc.ext ex) rs ex
 |ok x S1=>
  rw[e1] at m;exact fun v s1 ⟨vx,H1,I1,r1,J1,ex,rs,rv⟩=>hk x S1 v s1 vx H1 J1 ⟨I1,I.loc.ext ex,rs⟩ rv r1 (Kc.ext ex m)
theorem EN{te:s_->M Bool}(he:MB X e te){k:Bool->List Cell->L0}{pins:Fe}{s:Shared}{σ:L2.St}{H:Hp}{J:List Addr}{r:s_}{S:List Cell}{Q:Flow->Shared->Prop}{E:Value->Shared->Prop}{Q':Bool->Shared->Prop}(I:At X pins σ H J r S s)
  (m:Kc X pins H J (cw (te r) r k S) Q E) (hk:∀b S1 s1 H1 J1,At X pins σ H1 J1 r S1 s1->Kc X pins H1 J1 (k b S1) Q E->Q' b s1) :
  wpAny (model X.prog X.w) X.A (isTrue e X.env (eval e X.env)) Q' E s:=by
 refine he pins s σ H J r S _ E I ?_;unfold cw at m;cases e1:te r S with
 |bad=>rw[e1] at m;exact m
 |exc c S1=>
  rw[e1] at m;exact fun x s' ⟨H',XI,J',ex,rs⟩=>m x s' σ H' J' XI (I.loc.ext ex) rs ex
 |ok x S1=>
  rw[e1] at m;exact fun s1 ⟨H1,I1,J1,ex,rs⟩=>hk x S1 s1 H1 J1 ⟨I1,I.loc.ext ex,rs⟩ (Kc.ext ex m)
def bB(fe:s_->M D):Fw:=fun r=>cw (fe r) r fun _ S=>some (.nx r,S)
theorem aY(he:FR X e fe)(hs:swapsWith e none pos.line X.env=pure false:=by rfl):L1 X (.Expr e pos) (bB fe):=by
 intro pins s σ H J r S Q E I m;exact wpAny_Expr_any (Q6 he I m fun x S1 v s1 vx H1 J1 I1 rv r1 m1=>m1 s1 σ H1 J1 I1 (Ext.refl _ _)) I.inv.quiet hs
def bG(fe:s_->M D):Fw:=fun r=>cw (fe r) r fun d S=>some (.rt d,S)
theorem aW(he:FR X e fe):L1 X (.Return (some e) pos) (bG fe):=by
 intro pins s σ H J r S Q E I m;exact wpAny_Return_some (Q6 he I m fun x S1 v s1 vx H1 J1 I1 rv r1 m1=>m1 v s1 σ ⟨vx,H1,I1.inv,r1,J1,Ext.refl _ _,I1.st,rv⟩)
def Ga(c:s_->M Bool)(t u:Fw):Fw:=fun r=>cw (c r) r fun b S=>if b=true then t r S else u r S
theorem bu{c:Expr}{a b:List Stmt}{tc:s_->M Bool}(hc:MB X c tc)(ha:nv X a t)(hb:nv X b u):L1 X (.If c a b pos) (Ga tc t u):=by
 intro pins s σ H J r S Q E I m;refine wpAny_If (EN hc I m fun d S1 s1 H1 J1 I1 m1=>?_);cases d with
 |true=>exact ha pins s1 σ H1 J1 r S1 Q E I1 m1
 |false=>exact hb pins s1 σ H1 J1 r S1 Q E I1 m1
abbrev Kd:=D->s_->Option s_
def Om(X:Cx)(tg:Expr)(t:Kd):Prop:=∀(pins:Fe) (s:Shared) (σ:L2.St) (H:Hp) (J:List Addr) (r:s_) (S:List Cell) (d:D) (v:V) (u:Value) (Q:Unit->Shared->Prop) (E:Value->Shared->Prop) (r':s_),
 At X pins σ H J r S s->r_ X.K H J d v->RelV v u->t d r=some r'->(∀s' FJ H' J',At X pins FJ H' J' r' S s'->Ext H J H' J'->Q () s')->wpAny (model X.prog X.w) X.A (assign tg X.env u) Q E s
def gN(i:Nat):Kd:=fun d r=>some (r.set i (some d))
theorem cj{i:Nat}{x:Str}(hN:X.N.Nodup)(hi:X.N[i]?=some x:=by rfl)(hx:Loc X.env.scope x:=by first|exact Or.inl rfl|exact Or.inr rfl)(hf:X.fn x=true\/X.env.scope.names.lookup x=some .local:=by first|exact .inl rfl|exact .inr rfl|assumption):Om X (.Name x pos) (gN i):=by
 intro pins s σ H J r S d v u Q E r' I rv ru e k;cases e;refine wpAny_mono (AN (X:=X.Fz E) hN hi hx hf pins s σ H v u (fun FJ H'=>FJ=σ.set i (some v)/\H'=H) (I.inv.Fz E) ru ⟨rfl,rfl⟩) (fun _ s' q=>?_) fun _ _ z=>z
 obtain⟨FJ,H',I',rfl,rfl⟩:=q;exact k s' _ _ J ⟨I'.Fx,I.loc.set rv,I.st⟩ (Ext.refl _ _)
def O7:List Nat->List D->s_->Option s_
 |[],[],r=>some r
 |i :: is,d :: ds,r=>O7 is ds (r.set i (some d))
 |_,_,_=>none
def gT(is:List Nat):Kd:=fun d r=>match d with
 |.tup ds=>O7 is ds r
 |_=>none
def Bp(X:Cx)(ts:List Expr)(is:List Nat):Prop:=∀(pins:Fe) (s:Shared) (σ:L2.St) (H:Hp) (J:List Addr) (r:s_) (S:List Cell) (ds:List D) (vs:List V) (us:List Value) (Q:Unit->Shared->Prop) (E:Value->Shared->Prop) (r':s_),
 At X pins σ H J r S s->j_ X.K H J ds vs->Vals vs us->O7 is ds r=some r'->(∀s' FJ H' J',At X pins FJ H' J' r' S s'->Ext H J H' J'->Q () s')->wpAny (model X.prog X.w) X.A (assignInOrder ((assignEach ts X.env).map (·.2)) us) Q E s
theorem sT:Bp X [] []:=by
 intro pins s σ H J r S ds vs us Q E r' I rv ru e k;cases ds with
 |nil=>
  cases e;unfold j_ at rv;subst rv;cases ru;rw[show(assignEach [] X.env).map (·.2)=[] from rfl];exact assignInOrder_nil (k s σ H J I (Ext.refl _ _))
 |cons d ds=>cases e
theorem jA{ex:Expr}{es:List Expr}{i:Nat}{is:List Nat}(h1:Om X ex (gN i))(h2:Bp X es is)
  (hs:(assignEach (ex :: es) X.env).map (·.2)=assign ex X.env :: (assignEach es X.env).map (·.2):=by rfl):Bp X (ex :: es) (i :: is):=by
 intro pins s σ H J r S ds vs us Q E r' I rv ru e k;cases ds with
 |nil=>cases e
 |cons d ds=>
  unfold j_ at rv;obtain⟨v,vr,rfl,Hn,KY⟩:=rv;cases ru with
  |cons q1 q2=>
   rw[hs];refine assignInOrder_cons (h1 pins s σ H J r S d v _ _ E _ I Hn q1 rfl fun s1 Qq H1 J1 I1 x1=>?_);exact h2 pins s1 Qq H1 J1 _ S ds vr _ Q E r' I1 (KY.ext x1) q2 e fun s' FJ H' J' a x=>k s' FJ H' J' a (x1.trans x)
theorem xt:∀{is:List Nat}{ds:List D}{r r':s_},O7 is ds r=some r'->ds.length=is.length
 |[],[],_,_,_=>rfl
 |i :: is,d :: ds,r,r',h=>by
  rw[List.length_cons,List.length_cons,xt (show O7 is ds (r.set i (some d))=some r' from h)]
 |[],d :: ds,r,r',h=>by cases h
 |i :: is,[],r,r',h=>by cases h
end
end DL
namespace DL
open PySem PySem.Spec PyProof.Rows L2
section
variable{X:Cx}{st:Stmt}{rest:List Stmt}{t u:Fw}{e:Expr}{fe:s_->M D}{pos:Pos}
theorem wx{es:List Expr}{k:Nat}{is:List Nat}(hc:X.calm=true)(h:Bp X es is)(hn:(assignEach es X.env).length=is.length:=by rfl)(He:(assignEach es X.env).findIdx? (·.1)=none:=by rfl):Om X (.Tuple es k pos) (gT is):=by
 intro pins s σ H J r S d v u Q E r' I rv ru e k;cases d with
 |tup ds=>
  obtain⟨a,vs,rfl,hq,FK⟩:=rv.IC;cases ru;obtain⟨w_,rel,ht,hz⟩:=I.inv.tuple hq;have e':O7 is ds r=some r':=e;have hl:=xt e';refine assign_Tuple_tuple (I.inv.ok.hd hc) ht (by simp[hn,<-hl,<-FK.length,rel.length]) He fun h' hx=>?_
  have I1:Inv X pins σ H { s with heap:=h' }:=I.inv.kept (t':=s.toks) fun b o e=>hx b o (Nat.ne_of_lt (Heap.lt_size e)) e
  exact h pins _ σ H J r S ds vs _ Q E r' ⟨I1,I.loc,I.st⟩ FK (by simpa using rel) e' k
 |_=>cases e
def cr(fe:s_->M D)(g:Kd):Fw:=fun r=>cw (fe r) r fun d S=>match g d r with
 |some r'=>some (.nx r',S)
 |none=>none
theorem bO{i:Nat}{x:Str}{pos':Pos}(hN:X.N.Nodup)(he:FR X e fe)(hi:X.N[i]?=some x:=by rfl)(hx:Loc X.env.scope x:=by first|exact Or.inl rfl|exact Or.inr rfl)(hs:swapsWith e (some (.Name x pos')) pos.line X.env=pure false:=by rfl)
  (hf:X.fn x=true\/X.env.scope.names.lookup x=some .local:=by first|exact .inl rfl|exact .inr rfl|assumption):L1 X (.Assign [.Name x pos'] e pos) (cr fe (gN i)):=by
 intro pins s σ H J r S Q E I m;refine wpAny_Assign_Name (Q6 he I m fun d S1 v s1 vx H1 J1 I1 rv r1 m1=>?_) hs;exact vc I1.inv hN hi hx r1 (fun s2 I2=>m1 s2 _ H1 J1 ⟨I2,I1.loc.set rv,I1.st⟩ (Ext.refl _ _)) hf
theorem Cy{tg:Expr}{g:Kd}(he:FR X e fe)(hg:Om X tg g)(hs:swapsWithSole [tg] e pos.line X.env=pure false:=by rfl)(hw:swappedStores [tg] e X.env=pure none:=by rfl)
  (h1:(assignEach [tg] X.env).map (·.2)=[assign tg X.env]:=by rfl):L1 X (.Assign [tg] e pos) (cr fe g):=by
 intro pins s σ H J r S Q E I m;refine wpAny_Assign_stores (Q6 he I m fun d S1 v s1 vx H1 J1 I1 rv r1 m1=>?_) hs hw;rw[h1];cases eg:g d r with
 |none=>rw[eg] at m1;exact m1.elim
 |some r'=>
  rw[eg] at m1;exact hg pins s1 σ H1 J1 r S1 d vx v _ E r' I1 rv r1 eg fun s' FJ H' J' a x=>m1 s' FJ H' J' a x
def fO(c:s_->M Bool)(b:Fw):Nat->Fw
 |0=>fun _ _=>none
 |n+1=>fun r S=>match c r S with
  |.ok true S1=>(match b r S1 with
   |some (.nx r',S')=>fO c b n r' S'
   |some (.ct r',S')=>fO c b n r' S'
   |some (.bk r',S')=>some (.nx r',S')
   |some (.rt d,S')=>some (.rt d,S')
   |_=>none)
  |.ok false S1=>some (.nx r,S1)
  |_=>none
theorem uP{c:Expr}{body:List Stmt}{tc:s_->M Bool}{tb:Fw}(n:Nat)(hc:MB X c tc)(hb:nv X body tb):L1 X (.While c body [] pos) (fO tc tb n):=by
 intro pins s σ H J r S Q E I m;refine wpAny_While (codeAny_whileLoop (fun k s'=>∃FJ H' J' r' S',At X pins FJ H' J' r' S' s'/\Ext H J H' J'/\Kc X pins H J (fO tc tb k r' S') Q E) ?_ n ⟨σ,H,J,r,S,I,Ext.refl _ _,m⟩);rintro k s1 ⟨Qq,H1,J1,r1,S1,I1,x1,m1⟩;cases k with
 |zero=>exact m1.elim
 |succ k=>
  refine hc pins s1 Qq H1 J1 r1 S1 _ _ I1 ?_;unfold fO at m1;cases ec:tc r1 S1 with
  |bad=>rw[ec] at m1;exact m1.elim
  |exc c S2=>rw[ec] at m1;exact m1.elim
  |ok k2 S2=>
   rw[ec] at m1;rintro s2 ⟨H2,I2,J2,x2,IA⟩;cases k2 with
   |false=>
    rw[if_neg Bool.false_ne_true];exact wpAny_execs_nil (m1 s2 Qq H2 J2 ⟨I2,I1.loc.ext x2,IA⟩ (x1.trans x2))
   |true=>
    rw[if_pos rfl];refine hb pins s2 Qq H2 J2 r1 S2 _ _ ⟨I2,I1.loc.ext x2,IA⟩ ?_;dsimp only at m1
    match eb:tb r1 S2 with
    |none=>rw[eb] at m1;exact m1.elim
    |some (.nx r',S')=>
     rw[eb] at m1;exact fun s' FJ H' J' a x=>⟨k,Nat.lt_succ_self _,FJ,H',J',r',S',a,(x1.trans x2).trans x,m1⟩
    |some (.ct r',S')=>
     rw[eb] at m1;exact fun s' FJ H' J' a x=>⟨k,Nat.lt_succ_self _,FJ,H',J',r',S',a,(x1.trans x2).trans x,m1⟩
    |some (.bk r',S')=>
     rw[eb] at m1;exact fun s' FJ H' J' a x=>m1 s' FJ H' J' a ((x1.trans x2).trans x)
    |some (.rt d,S')=>
     rw[eb] at m1;exact fun u s' FJ ⟨v,H',I',rv,g⟩=>m1 u s' FJ ⟨v,H',I',rv,g.ext (x1.trans x2)⟩
    |some (.xc c r',S')=>rw[eb] at m1;exact m1.elim
structure Wk where
 items:List D
 guard:Option (Nat×List D):=none
def IX:Option (Nat×List D)->List Cell->Prop
 |none,_=>True
 |some (n,xs),S=>S[n]?=some (.lst xs)
def Hf(K:PySem.W.Frag)(it:It)(w:Wk)(H0:Hp)(J0:List Addr):Prop:=∀(H:Hp) (J:List Addr) (S:List Cell),Ext H0 J0 H J->Fg K H J S->IX w.guard S->
 (∀i,i<w.items.length->it.go i H)/\it.stop w.items.length H/\
 ∀i x H',it.Wn i H x H'->∀d,w.items[i]?=some d->∃J',Ext H J H' J'/\Fg K H' J' S/\r_ K H' J' d x
def MC(X:Cx)(pins:Fe)(σ:L2.St)(H:Hp)(J:List Addr)(tg:Expr)(x:R Wk)(Q:Value->Shared->Prop)(E:Value->Shared->Prop):Prop:=match x with
 |.ok w S'=>∀Mv s2,S_ X pins σ tg (fun it H1=>∃J1,Ext H J H1 J1/\Fg X.K H1 J1 S'/\IX w.guard S'/\Hf X.K it w H1 J1) Mv s2->Q Mv s2
 |.exc c S'=>∀e s',XP X pins σ c (Iz X.K H J S') e s'->E e s'
 |.bad=>False
def PId(X:Cx)(tg iter:Expr)(f:s_->M Wk):Prop:=∀(pins:Fe) (s:Shared) (σ:L2.St) (H:Hp) (J:List Addr) (r:s_) (S:List Cell) (Q E:Value->Shared->Prop),
 At X pins σ H J r S s->MC X pins σ H J tg (f r S) Q E->wpAny (model X.prog X.w) X.A (eval iter X.env) (fun v s1=>wpAny (model X.prog X.w) X.A (pyIter v) Q E s1) E s
open Classical in
def ij(g:Option (Nat×List D))(tg:Kd)(b:Fw):List D->Fw
 |[],r,S=>some (.nx r,S)
 |x :: xs,r,S=>match tg x r with
  |none=>none
  |some r1=>match b r1 S with
   |some (.nx r',S')=>if IX g S' then ij g tg b xs r' S' else none
   |some (.ct r',S')=>if IX g S' then ij g tg b xs r' S' else none
   |some (.bk r',S')=>some (.nx r',S')
   |some (.rt d,S')=>some (.rt d,S')
   |_=>none
def pL(f:s_->M Wk)(tg:Kd)(b:Fw):Fw:=fun r=>cw (f r) r fun w S=>ij w.guard tg b w.items r S
theorem ma{tg iter:Expr}{body:List Stmt}{f:s_->M Wk}{g:Kd}{tb:Fw}(hc:X.calm=true)(hi:PId X tg iter f)(hg:Om X tg g)(hb:nv X body tb)
  (hs:∀x,foldedSetIterable iter X.env x=pure x:=by intro _;rfl):L1 X (.For tg iter body [] pos) (pL f g tb):=by
 intro pins s σ H J r S Q E I m;refine wpAny_For (hi pins s σ H J r S _ E I ?_) hs;unfold pL cw at m;cases ef:f r S with
 |bad=>rw[ef] at m;exact m
 |exc c S1=>
  rw[ef] at m;exact fun x s' ⟨H',XI,J',ex,rs⟩=>m x s' σ H' J' XI (I.loc.ext ex) rs ex
 |ok w S1=>
  rw[ef] at m;dsimp only at m;rintro Mv s2 ⟨it,fp,tn,it0,H2,rfl,I2,T,Q7,f2,J2,x2,IA,gk,ok⟩;have L8:∀{H':Hp},(∀b∈fp,H' b=none)->∀b∈fp,Jq X pins H' b:=fun hn b hb=>⟨hn b hb,(f2 b hb).2⟩
  refine codeAny_forLoop_any (fun n s'=>∃i FJ H' J' r' S',At X pins FJ H' J' r' S' s'/\Ext H2 J2 H' J'/\tn i s'.heap/\(∀b∈fp,H' b=none)/\IX w.guard S'/\n=w.items.length-i/\i<=w.items.length/\
   Kc X pins H J (ij w.guard g tb (w.items.drop i) r' S') Q E) ?_ w.items.length ⟨0,σ,H2,J2,r,S1,⟨I2,I.loc.ext x2,IA⟩,Ext.refl _ _,Q7,fun b hb=>(f2 b hb).1,gk,by simp,Nat.zero_le _,by simpa using m⟩
  rintro n s3 ⟨i,LI,H3,J3,r3,S3,I3,x3,MQ,Q8,Tq,rfl,PD,m3⟩;obtain⟨Ts,Nk,PF⟩:=ok H3 J3 S3 x3 I3.st Tq;by_cases LJ:i<w.items.length
  ·obtain⟨d,hd⟩:∃d,w.items[i]?=some d:=⟨w.items[i],by simp[LJ]⟩;rw[List.drop_eq_getElem_cons LJ] at m3;have J_:w.items[i]=d:=by
    rw[List.getElem?_eq_getElem LJ] at hd;exact Option.some.inj hd
   rw[J_] at m3;unfold ij at m3;cases eg:g d r3 with
   |none=>rw[eg] at m3;exact m3.elim
   |some r4=>
    rw[eg] at m3;dsimp only at m3;refine O3 (T.item X rfl rfl rfl hc i pins s3 LI H3 _ I3.inv (L8 Q8) MQ (Ts i LJ)) fun rr s4 ⟨u,hr,h4⟩=>?_
    subst hr;refine O3 h4 fun _ s5 ⟨x,H5,I5,r5,y5,PH,Tt⟩=>?_
    obtain⟨J5,x5,Tu,Tv⟩:=PF i x H5 y5 d hd;have Tw:=I5.pinned (L8 Tt) (T.obj _ _ PH);refine hg _ s5 LI H5 J5 r3 S3 d x u _ _ r4 ⟨Tw,I3.loc.ext x5,Tu⟩ Tv r5 eg fun s6 Qr H6 J6 I6 x6=>?_
    refine hb _ s6 Qr H6 J6 r4 S3 _ _ I6 ?_;have again:∀{r7:s_}{S7:List Cell}{PI:L2.St}{H7:Hp}{J7:List Addr}{s7:Shared},At X (pins++nw fp s5.heap) PI H7 J7 r7 S7 s7->Ext H6 J6 H7 J7->IX w.guard S7->Kc X pins H J (ij w.guard g tb (w.items.drop (i+1)) r7 S7) Q E->
      ∃m,m<w.items.length-i/\∃i FJ H' J' r' S',At X pins FJ H' J' r' S' s7/\Ext H2 J2 H' J'/\tn i s7.heap/\(∀b∈fp,H' b=none)/\IX w.guard S'/\m=w.items.length-i/\i<=w.items.length/\Kc X pins H J (ij w.guard g tb (w.items.drop i) r' S') Q E:=by
     intro r7 S7 PI H7 J7 s7 I7 x7 Tx m7;refine⟨w.items.length-(i+1),by omega,i+1,PI,H7,J7,r7,S7,⟨I7.inv.IM,I7.loc,I7.st⟩,((x3.trans x5).trans x6).trans x7,T.keep _ _ _ PH fun b hb o e=>(I7.inv.pin (b,o) (List.mem_append_right _ (List.mem_append_right _ (jT hb e)))).1,fun b hb=>?_,Tx,rfl,LJ,m7⟩;obtain⟨o,e,d⟩:=T.obj _ _ PH b hb;exact(I7.inv.pin (b,o) (List.mem_append_right _ (List.mem_append_right _ (jT hb e)))).2.1
    match eb:tb r4 S3 with
    |none=>rw[eb] at m3;exact m3.elim
    |some (.nx r',S')=>
     rw[eb] at m3;dsimp only at m3;by_cases PJ:IX w.guard S'
     ·rw[if_pos PJ] at m3;exact fun s' FJ H' J' a x=>again a x PJ m3
     ·rw[if_neg PJ] at m3;exact m3.elim
    |some (.ct r',S')=>
     rw[eb] at m3;dsimp only at m3;by_cases PJ:IX w.guard S'
     ·rw[if_pos PJ] at m3;exact fun s' FJ H' J' a x=>again a x PJ m3
     ·rw[if_neg PJ] at m3;exact m3.elim
    |some (.bk r',S')=>
     rw[eb] at m3;exact fun s' FJ H' J' a x=>m3 s' FJ H' J' ⟨a.inv.IM,a.loc,a.st⟩ ((((x2.trans x3).trans x5).trans x6).trans x)
    |some (.rt d',S')=>
     rw[eb] at m3;exact fun u s' FJ ⟨v,H',I',rv,g'⟩=>m3 u s' FJ ⟨v,H',I'.IM,rv,g'.ext (((x2.trans x3).trans x5).trans x6)⟩
    |some (.xc c r',S')=>rw[eb] at m3;exact m3.elim
  ·have e:i=w.items.length:=by omega
   subst e;rw[List.drop_length] at m3;refine O3 (T.done X rfl rfl rfl hc _ pins s3 LI H3 _ I3.inv (L8 Q8) MQ Nk) fun rr s4 ⟨hr,I4⟩=>?_
   subst hr;exact wpAny_execs_nil (m3 s4 LI H3 J3 ⟨I4,I3.loc,I3.st⟩ (x2.trans x3))
end
end DL
namespace DL
open PySem PySem.Spec PyProof.Rows L2
section
variable{X:Cx}{tg:Expr}{e:Expr}{fe:s_->M D}{pos:Pos}
def kG:D->M Wk
 |.tup xs=>M.ret ⟨xs,none⟩
 |.Gp xs=>M.ret ⟨xs,none⟩
 |.ob n=>fun S=>match S[n]? with
  |some (.lst xs)=>.ok ⟨xs,some (n,xs)⟩ S
  |_=>.bad
 |_=>M.bad
def HM(f:s_->M D):s_->M Wk:=fun r=>(f r).bind kG
theorem Hf.tup{K:PySem.W.Frag}{H:Hp}{J:List Addr}{a:Addr}{vs:List V}{xs:List D}{X:Cx}{pins:Fe}{σ:L2.St}{s:Shared}(I:Inv X pins σ H s)(hK:X.K=K)(hq:HH K H a vs)(rv:j_ K H J xs vs):Hf K (Wo K a) ⟨xs,none⟩ H J:=by
 intro H1 J1 S x rs _;have MR:=HH.ext x hq;have Hn:=rv.ext x;have hl:=Hn.length;refine⟨fun i hi=>⟨vs,vs[i]'(by rw[hl];exact hi),MR,by simp⟩,⟨vs,MR,by rw[hl];exact Nat.le_refl _⟩,?_⟩;rintro i y H' ⟨rfl,hy⟩ d hd;obtain⟨v,h1,h2⟩:=Hn.get hd;have:=hy vs MR;rw[h1] at this;cases this;exact⟨J1,Ext.refl _ _,rs,h2⟩
theorem Hf.Gp{K:PySem.W.Frag}{H:Hp}{J:List Addr}{a:Addr}{vs:List V}{xs:List D}(hq:N3 K H a vs)(rv:j_ K H J xs vs):Hf K (Ta K a) ⟨xs,none⟩ H J:=by
 intro H1 J1 S x rs _;have MR:=(N3.ext x hq).sq;have Hn:=rv.ext x;have hl:=Hn.length;refine⟨fun i hi=>⟨vs,vs[i]'(by rw[hl];exact hi),MR,by simp⟩,⟨vs,MR,by rw[hl];exact Nat.le_refl _⟩,?_⟩;rintro i y H' ⟨rfl,hy⟩ d hd;obtain⟨v,h1,h2⟩:=Hn.get hd;have:=hy vs MR;rw[h1] at this;cases this;exact⟨J1,Ext.refl _ _,rs,h2⟩
theorem Hf.lst{K:PySem.W.Frag}{H:Hp}{J:List Addr}{a:Addr}{n:Nat}{xs:List D}(hn:J[n]?=some a):Hf K (Ta K a) ⟨xs,some (n,xs)⟩ H J:=by
 intro H1 J1 S x rs gk;have Yk:J1[n]?=some a:=by
  obtain⟨m,em⟩:=x.pre;rw[em,List.getElem?_append_left (List.getElem?_eq_some_iff.mp hn).1];exact hn
 obtain⟨vs,h1,Hn⟩:=rs.at_ n _ a gk Yk;have MR:G7 K H1 a vs:=G7.of h1;have hl:=Hn.length;refine⟨fun i hi=>⟨vs,vs[i]'(by rw[hl];exact hi),MR,by simp⟩,⟨vs,MR,by rw[hl];exact Nat.le_refl _⟩,?_⟩;rintro i y H' ⟨rfl,hy⟩ d hd;obtain⟨v,h1,h2⟩:=Hn.get hd;have:=hy vs MR;rw[h1] at this;cases this;exact⟨J1,Ext.refl _ _,rs,h2⟩
theorem d6(he:FR X e fe):PId X tg e (HM fe):=by
 intro pins s σ H J r S Q E I m;refine he pins s σ H J r S _ E I ?_;unfold HM M.bind at m;cases e1:fe r S with
 |bad=>rw[e1] at m;exact m
 |exc c S1=>rw[e1] at m;exact m
 |ok x S1=>
  rw[e1] at m;dsimp only at m;rintro v s1 ⟨vx,H1,I1,r1,J1,ex,rs,rv⟩;cases x with
  |tup xs=>
   obtain⟨a,vs,rfl,hq,FK⟩:=rv.IC;cases r1;obtain⟨w_,rl,p,hz⟩:=I1.tuple hq;refine wpAny_pyIter_tuple (show s1.heap.IsTuple a w_.toArray from p) (m _ _ ?_);refine⟨s1.heap.objs.size,[s1.heap.objs.size],_,_,H1,rfl,I1.kept (t':=s1.toks) fun b o e=>Heap.get?_push_of_some _ e,wB a _,⟨_,Heap.get?_push_size _ rfl,rfl,rfl⟩,fun b hb=>?_,J1,ex,rs,trivial,Hf.tup I1 rfl hq FK⟩;have e:b=s1.heap.objs.size:=by simpa using hb
   subst e;exact I1.MN (Nat.le_refl _) (I1.Fn.fresh (Nat.le_refl _))
  |Gp xs=>
   obtain⟨a,vs,rfl,hq,FK⟩:=rv.KZ;cases r1;obtain⟨w_,rl,p,hz⟩:=I1.list hq.sq;refine wpAny_pyIter_list p.isList (m _ _ ?_);refine⟨s1.heap.objs.size,[s1.heap.objs.size],_,_,H1,rfl,I1.kept (t':=s1.toks) fun b o e=>Heap.get?_push_of_some _ e,rX a _,⟨_,Heap.get?_push_size _ rfl,rfl,rfl⟩,fun b hb=>?_,J1,ex,rs,trivial,Hf.Gp hq FK⟩;have e:b=s1.heap.objs.size:=by simpa using hb
   subst e;exact I1.MN (Nat.le_refl _) (I1.Fn.fresh (Nat.le_refl _))
  |ob n=>
   obtain⟨a,rfl,hn⟩:=rv.Im;cases r1;obtain⟨c,hc,rc⟩:=rs.JB hn;simp only[kG] at m;rw[hc] at m;cases c with
   |lst xs=>
    obtain⟨vs,h1,FK⟩:=rc;obtain⟨w_,rl,p,hz⟩:=I1.list (G7.of h1);refine wpAny_pyIter_list p.isList (m _ _ ?_);refine⟨s1.heap.objs.size,[s1.heap.objs.size],_,_,H1,rfl,I1.kept (t':=s1.toks) fun b o e=>Heap.get?_push_of_some _ e,rX a _,⟨_,Heap.get?_push_size _ rfl,rfl,rfl⟩,fun b hb=>?_,J1,ex,rs,hc,Hf.lst hn⟩;have e:b=s1.heap.objs.size:=by simpa using hb
    subst e;exact I1.MN (Nat.le_refl _) (I1.Fn.fresh (Nat.le_refl _))
   |_=>exact m.elim
  |_=>exact m.elim
def gW(lo c:Int)(n:Nat):List D:=(List.range n).map fun(i:Nat)=>D.int (lo+(i:Int) * c)
def B6(lo c:Int)(n:Nat):It:=⟨fun i _=>i<n,fun i H x H'=>H'=H/\x=.int (lo+(i:Int) * c),fun i _=>n<=i⟩
theorem zL{lo c:Int}{n i:Nat}{d:D}(h:(gW lo c n)[i]?=some d):d=.int (lo+(i:Int) * c):=by
 unfold gW at h;rw[List.getElem?_map] at h;cases e:(List.range n)[i]? with
 |none=>rw[e] at h;cases h
 |some k=>
  rw[e] at h;obtain⟨h2,h3⟩:=List.getElem?_eq_some_iff.mp e;rw[List.getElem_range] at h3;subst h3;cases h;rfl
theorem Hf.Qf{K:PySem.W.Frag}{H:Hp}{J:List Addr}(lo c:Int)(n:Nat):Hf K (B6 lo c n) ⟨gW lo c n,none⟩ H J:=by
 intro H1 J1 S x rs _;have hl:(gW lo c n).length=n:=by simp[gW]
 refine⟨fun i hi=>by rw[hl] at hi;exact hi,by show n<=_;rw[hl];exact Nat.le_refl _,?_⟩;rintro i y H' ⟨rfl,rfl⟩ d hd;refine⟨J1,Ext.refl _ _,rs,?_⟩;rw[zL hd];exact r_.int _ _ _ _
theorem yp{P:Program}{w:World}{K:PySem.W.Frag}{tg:Expr}(it:Addr)(lo c:Int)(n:Nat):Turn P w K tg (B6 lo c n) [it] it (fun i h=>IsRangeIter h it (lo+(i:Nat) * c) ((n:Int)-(i:Nat)) c) where
 mem:=by simp
 obj:=fun i h st b hb=>by
  have e:b=it:=by simpa using hb
  subst e;exact⟨_,st,fun v z=>by
   have z':Data.fields _=Data.cell v:=z;cases z'⟩
 keep:=fun i h h' st k=>k it (by simp) _ st
 item:=by
  intro X hP hw hK hc i pins s σ H E I hf st hg;subst hP hw hK;obtain⟨f0,f1,f2,f3,f4,f5⟩:=hf it (by simp);have W:=Walks.range (prog:=X.prog) (w:=X.w) (I.ok.hd hc) it lo c n;refine W.item i s _ _ hg st fun v h' tk hv HK kk=>?_
  obtain⟨t,rfl⟩:=hv;have I1:Inv X pins σ H { s with heap:=h',toks:=tk }:=I.turned (fun b o hb e=>kk b o (by simpa using hb) e) f0 f1 f3 f4 f5;exact⟨_,rfl,zt (s:={ s with heap:=h',toks:=tk }) (n:="range_iterator") HK rfl rfl (by decide) ⟨.int (lo+i * c),H,I1,⟨t,rfl⟩,⟨rfl,rfl⟩,HK,fun b hb=>(hf b hb).1⟩⟩
 done:=by
  intro X hP hw hK hc i pins s σ H E I hf st hg;subst hP hw hK;obtain⟨f0,f1,f2,f3,f4,f5⟩:=hf it (by simp);exact wpAny_pyNext_range_end (I.ok.hd hc) st (by have:n<=i:=hg;omega) fun h' eb=>⟨rfl,I.turned (t':=s.toks) (fun b o hb e=>eb b o hb e) f0 f1 f3 f4 f5⟩
 self:=fun _ _ _ _ _ st h=>wpAny_pyIter_rangeiter st h
theorem zW{pins:Fe}{σ:L2.St}{H:Hp}{s:Shared}{Rr:It->Hp->Prop}{E:Value->Shared->Prop}{lo hi c:Int}{t u v:Tok}{tk:Nat}(I:Inv X pins σ H s)(hc:0<c)(Q9:Builtin.Range.small lo hi c=true)
  (q:Rr (B6 lo c (Builtin.Range.rangeSize lo hi c).toNat) H):wpAny (model X.prog X.w) X.A (pyIter (.ref s.heap.objs.size)) (S_ X pins σ tg Rr) E { s with heap:=s.heap.push { cls:=.type "range",data:=.fields #[.int lo t,.int hi u,.int c v] },toks:=tk }:=by
 refine wpAny_pyIter_range (IsRange.new ..) Q9 ?_;have I1:Inv X pins σ H { s with heap:=s.heap.push { cls:=.type "range",data:=.fields #[.int lo t,.int hi u,.int c v] },toks:=tk }:=I.kept fun b o e=>Heap.get?_push_of_some _ e
 refine⟨(s.heap.push { cls:=.type "range",data:=.fields #[.int lo t,.int hi u,.int c v] }).objs.size,[(s.heap.push { cls:=.type "range",data:=.fields #[.int lo t,.int hi u,.int c v] }).objs.size],_,_,H,rfl,
  I1.kept (t':=tk) fun b o e=>Heap.get?_push_of_some _ e,yp _ lo c (Builtin.Range.rangeSize lo hi c).toNat,?_,fun b hb=>?_,q⟩
 ·have e1:lo+((0:Nat):Int) * c=lo:=by simp
  have e2:(((Builtin.Range.rangeSize lo hi c).toNat:Nat):Int)-((0:Nat):Int)=Builtin.Range.rangeSize lo hi c:=by
   have:0<=Builtin.Range.rangeSize lo hi c:=by
    unfold Builtin.Range.rangeSize;rw[if_pos hc];split
    ·have:=Int.ediv_nonneg (a:=hi-lo-1) (b:=c) (by omega) (by omega);omega
    ·omega
   omega
  show IsRangeIter _ _ (lo+((0:Nat):Int) * c) ((((Builtin.Range.rangeSize lo hi c).toNat:Nat):Int)-((0:Nat):Int)) c;rw[e1,e2];exact Heap.get?_push_size _ rfl
 ·have e:b=(s.heap.push { cls:=.type "range",data:=.fields #[.int lo t,.int hi u,.int c v] }).objs.size:=by simpa using hb
  subst e;exact I1.MN (Nat.le_refl _) (I1.Fn.fresh (Nat.le_refl _))
def uM(lo hi c:Int):M Wk:=fun S=>Hq ((0<c/\c<1073741824)/\Builtin.Range.small lo hi c=true) (.ok ⟨gW lo c (Builtin.Range.rangeSize lo hi c).toNat,none⟩ S) .bad
def xu:D->M Wk
 |.int j=>uM 0 j 1
 |_=>M.bad
def u9:D->D->M Wk
 |.int i,.int j=>uM i j 1
 |_,_=>M.bad
def rM(fa:s_->M D):s_->M Wk:=fun r=>(fa r).bind xu
def xF(fa fb:s_->M D):s_->M Wk:=fun r=>(fa r).bind fun x=>(fb r).bind fun y=>u9 x y
theorem MC.ext{pins:Fe}{σ:L2.St}{H H1:Hp}{J J1:List Addr}{x:R Wk}{Q:Value->Shared->Prop}{E:Value->Shared->Prop}(e:Ext H J H1 J1)(h:MC X pins σ H J tg x Q E):MC X pins σ H1 J1 tg x Q E:=by
 cases x with
 |ok w S=>exact fun Mv s2 ⟨it,fp,tn,it0,H2,a,b,c,d,f,J2,x2,g⟩=>h Mv s2 ⟨it,fp,tn,it0,H2,a,b,c,d,f,J2,e.trans x2,g⟩
 |exc c S=>exact fun u s' x=>h u s' (x.ext e)
 |bad=>exact h
theorem Sa{es:List Expr}{ft:s_->M (List D)}(ha:Lq X es ft){k:List D->M Wk}{pins:Fe}{s:Shared}{σ:L2.St}{H:Hp}{J:List Addr}{r:s_}{S:List Cell}{Q E:Value->Shared->Prop}{Q':List Value->Shared->Prop}(I:At X pins σ H J r S s)
  (m:MC X pins σ H J tg ((ft r).bind k S) Q E) (hk:∀xs S1 s1 H1 J1 vs us,At X pins σ H1 J1 r S1 s1->j_ X.K H1 J1 xs vs->Vals vs us->MC X pins σ H1 J1 tg (k xs S1) Q E->Q' us s1) (pos:Pos) :
  wpAny (model X.prog X.w) X.A (spliced (backTo pos (starEach es X.env))) Q' E s:=by
 refine ha pos pins s σ H J r S _ E I ?_;unfold M.bind at m;cases e1:ft r S with
 |bad=>rw[e1] at m;exact m
 |exc c S1=>rw[e1] at m;exact m
 |ok x S1=>
  rw[e1] at m;intro us s1 ⟨vs,H1,I1,r1,J1,HJ,Ic,Hn⟩;exact hk x S1 s1 H1 J1 vs us ⟨I1,I.loc.ext HJ,Ic⟩ Hn r1 (MC.ext HJ m)
def sP{α:Type}(f:D->M α):List D->M α
 |[x]=>f x
 |_=>M.bad
def A6{α:Type}(f:D->D->M α):List D->M α
 |[x,y]=>f x y
 |_=>M.bad
theorem j_.ID{K:PySem.W.Frag}{H:Hp}{J:List Addr}{x:D}{vs:List V}(h:j_ K H J [x] vs):∃v,vs=[v]/\r_ K H J x v:=by
 unfold j_ at h;obtain⟨v,t,rfl,h1,h2⟩:=h;unfold j_ at h2;subst h2;exact⟨v,rfl,h1⟩
theorem j_.Oo{K:PySem.W.Frag}{H:Hp}{J:List Addr}{x y:D}{vs:List V}(h:j_ K H J [x,y] vs):∃v w,vs=[v,w]/\r_ K H J x v/\r_ K H J y w:=by
 unfold j_ at h;obtain⟨v,t,rfl,h1,h2⟩:=h;obtain⟨w,rfl,h3⟩:=j_.ID h2;exact⟨v,w,rfl,h1,h3⟩
theorem wZ{pins:Fe}{σ:L2.St}{H:Hp}{J:List Addr}{S:List Cell}{lo hi c:Int}{Q E:Value->Shared->Prop}(m:MC X pins σ H J tg (uM lo hi c S) Q E)(rs:Fg X.K H J S) :
  (0<c/\c<1073741824)/\Builtin.Range.small lo hi c=true/\∀Mv s2,S_ X pins σ tg (fun it H1=>it=B6 lo c (Builtin.Range.rangeSize lo hi c).toNat/\H1=H) Mv s2->Q Mv s2:=by
 unfold uM Hq at m;split at m
 ·rename_i h;refine⟨h.1,h.2,fun Mv s2 ⟨it,fp,tn,it0,H2,a,b,c,d,f,e1,e2⟩=>?_⟩;subst e1 e2;exact m Mv s2 ⟨it,fp,tn,_,_,a,b,c,d,f,J,Ext.refl _ _,rs,trivial,Hf.Qf _ _ _⟩
 ·exact m.elim
theorem pN{a:Expr}{p:Pos}{fa:s_->M D}(hg:Gl X "range")(hm:X.mg "range"=none)(ha:FR X a fa)(hs:starEach [a] X.env=[(false,eval a X.env)]:=by rfl):PId X tg (.Call (.Name "range" p) [a] [] pos) (rM fa):=by
 intro pins s σ H J r S Q E I m;have m':MC X pins σ H J tg ((ac fa ai r).bind (sP xu) S) Q E:=by
  unfold rM M.bind at m;unfold ac ai M.bind M.ret;cases e1:fa r S<;>(rw[e1] at m;exact m)
 refine Call_ (kH I.inv hg hm boot_range (PyProof.Rows.callWith_type1 (Sa (af ha ah (by rw[hs];rfl)) I m' (fun xs S1 s1 H1 J1 vs us I1 rv r1 m1=>?_) pos) hs rfl))
 match xs,m1,rv with
 |[.int j],m1,rv=>
  obtain⟨v,rfl,h1⟩:=rv.ID;cases h1.Gu;cases r1 with
  |cons q qq=>
   cases qq;obtain⟨t,rfl⟩:=q;obtain⟨hc,Q9,k⟩:=wZ m1 I1.st;exact call_range_1 (O3 (zW I1.inv hc.1 Q9 ⟨rfl,rfl⟩) k)
 |[],m1,rv=>exact m1.elim
 |[.D_],m1,rv=>exact m1.elim
 |[.bl _],m1,rv=>exact m1.elim
 |[.str _],m1,rv=>exact m1.elim
 |[.tup _],m1,rv=>exact m1.elim
 |[.Gp _],m1,rv=>exact m1.elim
 |[.ob _],m1,rv=>exact m1.elim
 |[.xn _],m1,rv=>exact m1.elim
 |_ :: _ :: _,m1,rv=>exact m1.elim
theorem wy{a b:Expr}{p:Pos}{fa fb:s_->M D}(hg:Gl X "range")(hm:X.mg "range"=none)(ha:FR X a fa)(hb:FR X b fb)(hs:starEach [a,b] X.env=[(false,eval a X.env),(false,eval b X.env)]:=by rfl)
  (KO:starEach [b] X.env=[(false,eval b X.env)]:=by rfl):PId X tg (.Call (.Name "range" p) [a,b] [] pos) (xF fa fb):=by
 intro pins s σ H J r S Q E I m;have m':MC X pins σ H J tg ((ac fa (ac fb ai) r).bind (A6 u9) S) Q E:=by
  unfold xF M.bind at m;unfold ac ai M.bind M.ret;cases e1:fa r S with
  |ok x S1=>
   rw[e1] at m;dsimp only at m ⊢;cases e2:fb r S1<;>(rw[e2] at m;exact m)
  |exc c S1=>rw[e1] at m;exact m
  |bad=>rw[e1] at m;exact m
 refine Call_ (kH I.inv hg hm boot_range (PyProof.Rows.callWith_type1 (Sa (af ha (af hb ah (by rw[KO];rfl)) (by rw[hs,KO])) I m' (fun xs S1 s1 H1 J1 vs us I1 rv r1 m1=>?_) pos) (by rw[hs,KO]) (by rw[KO];rfl)))
 match xs,m1,rv with
 |[x,y],m1,rv=>
  obtain⟨v,w,rfl,h1,h2⟩:=rv.Oo;cases x with
  |int i=>
   cases y with
   |int j=>
    cases h1.Gu;cases h2.Gu;obtain⟨u1,u2,rfl,q1,q2⟩:=Vals.two r1;obtain⟨t,rfl⟩:=q1;obtain⟨t',rfl⟩:=q2;obtain⟨hc,Q9,k⟩:=wZ m1 I1.st;exact call_range_2 (O3 (zW I1.inv hc.1 Q9 ⟨rfl,rfl⟩) k)
   |_=>exact m1.elim
  |_=>exact m1.elim
 |[],m1,rv=>exact m1.elim
 |[_],m1,rv=>exact m1.elim
 |_ :: _ :: _ :: _,m1,rv=>exact m1.elim
end
end DL
namespace DL
open PySem PySem.Spec PyProof.Rows L2
def Nl(X:Cx)(scope:Scope)(N':List Str)(cl:List (Str×Addr))(C:Addr)(s2:Shared)(H2:Hp)(fp:List Addr):Cx where
 prog:=X.prog
 w:=X.w
 K:=X.K
 mg:=X.mg
 base:=X.base
 A:=X.A
 N:=N'
 G1:=s2
 Nd:=H2
 env:=compEnvC scope cl C X.env
 outer:=X.stack
 stack:=X.stack
 ex:=fp
 fn:=fun _=>false
 calm:=X.calm
 pn:=[]
 xe:=fun _ _=>False
def gO{α:Type}(own:Nat)(caps:List Nat)(r:List (Option α)):List (Option α):=List.replicate own none++caps.map fun j=>(r[j]?).join
def Jl(X:Cx)(scope:Scope)(cl:List (Str×Addr)):List Nat->List Str->Prop
 |[],[]=>True
 |j :: js,x :: xs=>(X.N[j]?=some x/\(X.env.kindOf x=some .cell\/X.env.kindOf x=some .free)/\((relabel scope X.env).names.lookup x=some .cell\/(relabel scope X.env).names.lookup x=some .free)/\cl.lookup x=X.env.cells.lookup x)/\Jl X scope cl js xs
 |_,_=>False
theorem Jl.get{X:Cx}{scope:Scope}{cl:List (Str×Addr)}:∀{js:List Nat}{xs:List Str}{k:Nat}{j:Nat},Jl X scope cl js xs->js[k]?=some j->∃x,xs[k]?=some x/\X.N[j]?=some x/\
  (X.env.kindOf x=some .cell\/X.env.kindOf x=some .free)/\((relabel scope X.env).names.lookup x=some .cell\/(relabel scope X.env).names.lookup x=some .free)/\cl.lookup x=X.env.cells.lookup x
 |[],_,_,_,_,e=>by simp at e
 |_ :: _,[],_,_,h,_=>h.elim
 |j :: js,x :: xs,0,j',h,e=>by
  simp at e;subst e;obtain⟨⟨a,b,c,d⟩,_⟩:=h;exact⟨x,rfl,a,b,c,d⟩
 |j :: js,x :: xs,k+1,j',h,e=>by
  obtain⟨_,h⟩:=h;obtain⟨y,a,b⟩:=Jl.get (k:=k) h (by simpa using e);exact⟨y,by simpa using a,b⟩
theorem Jl.len{X:Cx}{scope:Scope}{cl:List (Str×Addr)}:∀{js:List Nat}{xs:List Str},Jl X scope cl js xs->xs.length=js.length
 |[],[],_=>rfl
 |[],_ :: _,h=>h.elim
 |_ :: _,[],h=>h.elim
 |j :: js,x :: xs,h=>by rw[List.length_cons,List.length_cons,Jl.len h.2]
theorem HI.Sd{K:PySem.W.Frag}{H:Hp}{J:List Addr}{r:s_}{σ:L2.St}(h:HI K H J r σ)(own:Nat)(caps:List Nat):HI K H J (gO own caps r) (gO own caps σ) where
 len:=by simp[gO]
 at_:=fun i d q=>by
  unfold gO at q ⊢;by_cases hi:i<own
  ·rw[List.getElem?_append_left (by simpa using hi),List.getElem?_replicate] at q;split at q<;>cases q
  ·rw[List.getElem?_append_right (by simpa using hi)] at q ⊢;simp only[List.length_replicate] at q ⊢;rw[List.getElem?_map] at q ⊢;cases e:caps[i-own]? with
   |none=>rw[e] at q;cases q
   |some j=>
    rw[e] at q;simp only[Option.map_some,Option.some.injEq] at q ⊢;obtain⟨v,h1,h2⟩:=h.at_ j d (by
     cases e2:r[j]? with
     |none=>rw[e2] at q;cases q
     |some o=>rw[e2] at q;simp at q;rw[q])
    exact⟨v,by rw[h1];rfl,h2⟩
theorem nu{X:Cx}{cl:List (Str×Addr)}(Na:∀p∈cl,X.env.cells.lookup p.1=some p.2){x:Str}{c:Addr}(h:cl.lookup x=some c):X.env.cells.lookup x=some c:=by
 induction cl with
 |nil=>simp at h
 |cons p r ih=>
  obtain⟨y,b⟩:=p;rw[List.lookup_cons] at h;cases e:x == y with
  |true=>
   rw[e] at h;simp at h;subst h;have:=beq_iff_eq.mp e;subst this;exact Na (x,b) (by simp)
  |false=>
   rw[e] at h;exact ih (fun p hp=>Na p (List.mem_cons_of_mem _ hp)) h
theorem mK{scope:Scope}{env:Env}{x:Str}{k:NameKind}(hk:k=.cell\/k=.free)(FU:∀y∈scope.names,y.2≠.cell)(h:(relabel scope env).names.lookup x=some k):∃p∈scope.names,p.1=x/\p.2=.free:=by
 unfold relabel at h;dsimp only at h
 generalize scope.names=ns at h FU
 induction ns with
 |nil=>simp at h
 |cons p r ih=>
  obtain⟨n,kk⟩:=p;rw[List.map_cons] at h;by_cases hc:(kk == NameKind.free && env.scope.kind == .function && env.kindOf n == some .cell)=true
  ·simp only[hc,if_true,List.lookup_cons] at h;cases e:x == n with
   |true=>
    have hx:=beq_iff_eq.mp e;simp only[Bool.and_eq_true,beq_iff_eq] at hc;exact⟨(n,kk),by simp,hx.symm,hc.1.1⟩
   |false=>
    rw[e] at h;obtain⟨p,hp,q⟩:=ih h fun y hy=>FU y (List.mem_cons_of_mem _ hy)
    exact⟨p,List.mem_cons_of_mem _ hp,q⟩
  ·rw[if_neg hc,List.lookup_cons] at h;cases e:x == n with
   |true=>
    rw[e] at h;simp at h;have hx:=beq_iff_eq.mp e;rcases hk with rfl|rfl
    ·exact absurd h (FU (n,kk) (by simp))
    ·exact⟨(n,kk),by simp,hx.symm,h⟩
   |false=>
    rw[e] at h;obtain⟨p,hp,q⟩:=ih h fun y hy=>FU y (List.mem_cons_of_mem _ hy)
    exact⟨p,List.mem_cons_of_mem _ hp,q⟩
section
variable{X:Cx}{pins:Fe}{σ:L2.St}{H2:Hp}{s2:Shared}{scope:Scope}{own:List Str}{capN:List Str}{caps:List Nat}{cl:List (Str×Addr)}{fp:List Addr}
structure MD(X:Cx)(scope:Scope)(own capN:List Str)(caps:List Nat)(cl:List (Str×Addr)):Prop where
 Q_:closureFor scope X.env=pure cl
 cells:∀p∈cl,X.env.cells.lookup p.1=some p.2
 frees:scope.names.all (fun p=>p.2 != .free || (cl.lookup p.1).isSome)=true
 L9:∀y∈scope.names,y.2≠.cell
 kind:scope.kind=.function
 names:∀x∈scope.names,x.2=.local->scope.names.lookup x.1=some .local
 Sd:Jl X scope cl caps capN
 nd:(own++capN).Nodup
theorem yA(B:MD X scope own capN caps cl)(I:Inv X pins σ H2 s2)(hf:∀b∈fp,Jq X pins H2 b)(ho:∀b∈fp,∃o,s2.heap.get? b=some o){h':Heap}{tk:Nat}
  (IU:h'.Ns (s2.heap.objs.size+1) fun _=>none) (Tz:h'.get? s2.heap.objs.size=some { cls:=.type "list",data:=.seq #[] }) (keep:∀b o,s2.heap.get? b=some o->h'.get? b=some o) :
  Inv (Nl X scope (own++capN) cl (s2.heap.objs.size+1) s2 H2 fp) [] (gO own.length caps σ) (upd H2 s2.heap.objs.size (.lst [])) { s2 with heap:=h',toks:=tk }:=by
 have Oq:H2 s2.heap.objs.size=none:=I.Fn.fresh (Nat.le_refl _);have O8:∀{b:Addr}{o:Obj},s2.heap.get? b=some o->b<s2.heap.objs.size:=fun e=>Heap.lt_size e
 have PK:∀x c,X.env.cells.lookup x=some c->c<s2.heap.objs.size:=fun x c e=>by
  obtain⟨v,hv⟩:=I.cell x c e;obtain⟨o,ho,_⟩:=hv;exact O8 ho
 have TB:G6 X.prog X.w (upd H2 s2.heap.objs.size (.lst [])) h':=I.Fn.laid keep (Nat.le_refl _) ⟨Nat.zero_le _,[],0,.nil,Tz⟩;refine⟨?_,rfl,I.bare,?_,?_,?_,?_,?_,?_,TB,?_⟩
 ·refine⟨I.ok.mod,B.kind,I.ok.glob,I.ok.blt,Nat.le_succ _,?_,?_,?_,I.ok.hd,I.ok.frames,.inl rfl,?_,I.bs,Nat.le_trans I.ok.M5 I.sz,?_,?_,I.stack,I.KS⟩
  ·exact fun x y c h1 h2=>I.ok.inj x y c (nu B.cells h1) (nu B.cells h2)
  ·intro x hx;have:∃p∈scope.names,p.1=x/\p.2=.free:=by
    rcases hx with hx|hx
    ·exact mK (.inl rfl) B.L9 hx
    ·exact mK (.inr rfl) B.L9 hx
   obtain⟨p,hp,rfl,Mu⟩:=this;have:=(List.all_eq_true.mp B.frees) p hp;rw[Mu] at this;simp only[bne_self_eq_false,Bool.false_or] at this;exact Option.isSome_iff_exists.mp this
  ·exact fun x c h=>by cases h
  ·intro b hb;obtain⟨o,L3⟩:=ho b hb;refine⟨Nat.ne_of_lt (Nat.lt_succ_of_lt (O8 L3)),fun x c h=>(hf b hb).2.2.2.2.1 x c (nu B.cells h)⟩
  ·intro b o hb Ra;obtain⟨_,_,_,hx,_⟩:=hf b Ra;rcases hx with hx|hx
   ·exact I.ok.MM b o hb hx
   ·exact absurd (Nat.lt_of_lt_of_le (Heap.lt_size hb) (Nat.le_trans I.ok.M5 hx)) (Nat.lt_irrefl _)
  ·intro b hb Ol;obtain⟨_,hl,Yl,_⟩:=hf b hb;rcases List.mem_cons.mp (I.KR b Ol) with e|e
   ·exact hl e
   ·exact Yl e
 ·exact(Un.laid (o:=.lst []) keep (Nat.le_refl _) Oq)
 ·refine⟨_,IU,fun i x v hN hs hv=>?_⟩;unfold gO at hs;by_cases hi:i<own.length
  ·rw[List.getElem?_append_left (by simpa using hi),List.getElem?_replicate] at hs;split at hs<;>cases hs
  ·rw[List.getElem?_append_right (by simpa using hi)] at hs;have PL:(own++capN)[i]?=some x:=hN;rw[List.getElem?_append_right (by omega)] at PL;simp only[List.length_replicate] at hs;rw[List.getElem?_map] at hs;cases e:caps[i-own.length]? with
   |none=>rw[e] at hs;cases hs
   |some j=>
    rw[e] at hs;simp only[Option.map_some,Option.some.injEq] at hs;obtain⟨y,hy,Ym,WC,Yn,Na⟩:=B.Sd.get e;rw[PL] at hy;cases hy;have Yo:σ[j]?=some (some v):=by
     cases e2:σ[j]? with
     |none=>rw[e2] at hs;cases hs
     |some o=>rw[e2] at hs;simp at hs;rw[hs]
    obtain⟨m,hm,hl⟩:=I.loc;obtain⟨u,ru,look⟩:=hl j x v Ym Yo (.inr WC);rcases look with ⟨hk,_⟩|⟨_,c,hc,FU⟩
    ·rcases WC with hk'|hk'<;>(rw[hk] at hk';cases hk')
    ·refine⟨u,ru,.inr ⟨Yn,c,Na.trans hc,?_⟩⟩;obtain⟨o,ho,hd⟩:=FU;exact⟨o,keep c o ho,hd⟩
 ·intro x c h;obtain⟨v,o,ho,hd⟩:=I.cell x c (nu B.cells h);exact⟨v,o,keep c o ho,hd⟩
 ·show upd H2 s2.heap.objs.size (.lst []) (s2.heap.objs.size+1)=none;rw[bi (Nat.succ_ne_self _)];exact I.Fn.fresh (Nat.le_succ _)
 ·intro x c h;have h1:=nu B.cells h;rw[bi (Nat.ne_of_lt (PK x c h1))];exact I.HE x c h1
 ·intro p hp;cases hp
 ·unfold gO;simp only[List.length_append,List.length_replicate,List.length_map];show own.length+caps.length=(own++capN).length;rw[List.length_append,B.Sd.len]
end
end DL
namespace DL
open PySem PySem.Spec PyProof.Rows L2
def Qs(X:Cx)(ifs:List Expr)(f:s_->M Bool):Prop:=∀(pins:Fe) (s:Shared) (σ:L2.St) (H:Hp) (J:List Addr) (r:s_) (S:List Cell) (Q:Bool->Shared->Prop) (E:Value->Shared->Prop),
 At X pins σ H J r S s->LZ X pins σ H J (f r S) Q E->wpAny (model X.prog X.w) X.A (forIn ifs true fun c b=>if b=true then do let ok <-isTrue c X.env (eval c X.env);pure (ForInStep.yield ok) else pure (ForInStep.yield b)) Q E s
theorem ja{X:Cx}:Qs X [] (fun _=>M.ret true):=fun pins s σ H J r S Q E I m=>wpAny_tests_nil (m.HL I)
theorem CN{X:Cx}{c:Expr}{f:s_->M Bool}(h:MB X c f):Qs X [c] f:=fun pins s σ H J r S Q E I m=>wpAny_tests_one (h pins s σ H J r S Q E I m)
open Classical in
def dL(tg:Kd)(ti:s_->M Bool)(fe:s_->M D)(n:Nat)(g:Option (Nat×List D))(r0:s_):List D->List Cell->R Unit
 |[],S=>.ok () S
 |x :: xs,S=>match tg x r0 with
  |none=>.bad
  |some r1=>match ti r1 S with
   |.ok false S1=>if IX g S1 then dL tg ti fe n g r0 xs S1 else .bad
   |.ok true S1=>(match fe r1 S1 with
    |.ok d S2=>(match S2[n]? with
     |some (.lst ys)=>Hq (ys.length<sizeLine/\IX g (S2.set n (.lst (ys++[d])))) (dL tg ti fe n g r0 xs (S2.set n (.lst (ys++[d])))) .bad
     |_=>.bad)
    |_=>.bad)
   |_=>.bad
def dH(f:s_->M Wk)(tg:Kd)(ti:s_->M Bool)(fe:s_->M D)(own:Nat)(caps:List Nat):s_->M D:=fun r=>(f r).bind fun w S=>match dL tg ti fe S.length w.guard (gO own caps r) w.items (S++[.lst []]) with
 |.ok _ S'=>.ok (.ob S.length) S'
 |_=>.bad
def qh(own:Nat)(tg:Kd):Prop:=∀d r r',tg d r=some r'->r'.length=r.length/\∀i,own<=i->r'[i]?=r[i]?
theorem fY{own i:Nat}(h:i<own):qh own (gN i):=fun d r r' e=>by
 cases e;exact⟨by simp,fun j hj=>by rw[List.getElem?_set_ne (by omega)]⟩
theorem uo{own:Nat}:∀{is:List Nat},(∀i∈is,i<own)->∀{ds:List D}{r r':s_},O7 is ds r=some r'->r'.length=r.length/\∀i,own<=i->r'[i]?=r[i]?
 |[],_,[],r,r',e=>by cases e;exact⟨rfl,fun _ _=>rfl⟩
 |[],_,_ :: _,r,r',e=>by cases e
 |i :: is,h,[],r,r',e=>by cases e
 |i :: is,h,d :: ds,r,r',e=>by
  obtain⟨a,b⟩:=uo (is:=is) (fun j hj=>h j (List.mem_cons_of_mem _ hj)) (show O7 is ds (r.set i (some d))=some r' from e);refine⟨by rw[a];simp,fun j hj=>?_⟩;have:=h i (by simp);rw[b j hj,List.getElem?_set_ne (by omega)]
theorem Bz{own:Nat}{is:List Nat}(h:∀i∈is,i<own):qh own (gT is):=fun d r r' e=>by
 cases d with
 |tup ds=>exact uo h e
 |_=>cases e
theorem HI.own{K:PySem.W.Frag}{H:Hp}{J:List Addr}{own:Nat}{caps:List Nat}{r r1:s_}{σ:L2.St}{tg:Kd}{d:D}(ho:qh own tg)(e:tg d (gO own caps r)=some r1)(h:HI K H J r1 σ):HI K H J (gO own caps r) σ:=by
 obtain⟨a,b⟩:=ho _ _ _ e;refine⟨by rw[<-a];exact h.len,fun i d' q=>?_⟩;by_cases hi:i<own
 ·unfold gO at q;rw[List.getElem?_append_left (by simpa using hi),List.getElem?_replicate] at q;split at q<;>cases q
 ·exact h.at_ i d' (by rw[b i (by omega)];exact q)
section
variable{X:Cx}{elt target iter:Expr}{ifs:List Expr}{scope:Scope}{pos:Pos}{tg:Kd}{ti:s_->M Bool}{fe:s_->M D}{own:Nat}{caps:List Nat}
theorem ya(hc:X.calm=true)(hg:Om X target tg)(ht:Qs X ifs ti)(he:FR X elt fe)(L_:qh own tg){r:s_}{w:Wk}{it:Addr}{fp:List Addr}{tn:Nat->Heap->Prop}{it0:It}{H0:Hp}{J0:List Addr}{n:Nat}{acc:Addr}
  (T:Turn X.prog X.w X.K target it0 fp it tn) (ok:Hf X.K it0 w H0 J0) (Oq:J0[n]?=some acc) {RR:Result->Shared->Prop}{σ:L2.St}{S:List Cell}{s:Shared}{S':List Cell}(I:At X [] σ H0 J0 (gO own caps r) S s)
  (Qt:∀b∈fp,Jq X [] H0 b) (st:tn 0 s.heap) (gk:IX w.guard S) (hr:dL tg ti fe n w.guard (gO own caps r) w.items S=.ok () S')
  (hR:∀s' FJ H' J',Inv X [] FJ H' s'->Fg X.K H' J' S'->Ext H0 J0 H' J'->RR (.ok .next) s') :
  codeAny (model X.prog X.w) X.A (.compLoop (.ListComp elt [⟨target,iter,ifs,0⟩] scope pos) 0 (.ref it) (.ref acc) X.env) RR s:=by
 have L8:∀{H':Hp},(∀b∈fp,H' b=none)->∀b∈fp,Jq X [] H' b:=fun hn b hb=>⟨hn b hb,(Qt b hb).2⟩
 refine codeAny_loop rfl (fun k s'=>∃i FJ H' J' S1,At X [] FJ H' J' (gO own caps r) S1 s'/\Ext H0 J0 H' J'/\tn i s'.heap/\(∀b∈fp,H' b=none)/\IX w.guard S1/\k=w.items.length-i/\i<=w.items.length/\
  dL tg ti fe n w.guard (gO own caps r) (w.items.drop i) S1=.ok () S') ?_ w.items.length ⟨0,σ,H0,J0,S,I,Ext.refl _ _,st,fun b hb=>(Qt b hb).1,gk,by simp,Nat.zero_le _,by simpa using hr⟩
 rintro k s3 ⟨i,LI,H3,J3,S3,I3,x3,MQ,Q8,Tq,rfl,PD,m3⟩;show wpAny _ X.A ((compTurn (.ListComp elt [⟨target,iter,ifs,0⟩] scope pos) 0 (.ref it) (.ref acc) X.env).onRaise (fun x=>do noteFrame x X.env;theTreesLotGoes x)) _ _ s3;refine wpAny_noted ?_;rw[compTurn_list];refine wpAny_bind (wpAny_standAt (wpAny_bind ?_));obtain⟨Ts,Nk,PF⟩:=ok H3 J3 S3 x3 I3.st Tq;by_cases LJ:i<w.items.length
 ·obtain⟨d,hd⟩:∃d,w.items[i]?=some d:=⟨w.items[i],by simp[LJ]⟩;rw[List.drop_eq_getElem_cons LJ] at m3;have J_:w.items[i]=d:=by
   rw[List.getElem?_eq_getElem LJ] at hd;exact Option.some.inj hd
  rw[J_] at m3;unfold dL at m3;cases eg:tg d (gO own caps r) with
  |none=>rw[eg] at m3;cases m3
  |some r4=>
   rw[eg] at m3;dsimp only at m3;refine O3 (T.item X rfl rfl rfl hc i [] s3 LI H3 _ I3.inv (L8 Q8) MQ (Ts i LJ)) fun rr s4 ⟨u,hr,h4⟩=>?_
   subst hr;refine wpAny_bind (O3 h4 fun _ s5 ⟨x,H5,I5,r5,y5,PH,Tt⟩=>?_);obtain⟨J5,x5,Tu,Tv⟩:=PF i x H5 y5 d hd;have Tw:=I5.pinned (L8 Tt) (T.obj _ _ PH);refine wpAny_bind (hg _ s5 LI H5 J5 (gO own caps r) S3 d x u _ _ r4 ⟨Tw,I3.loc.ext x5,Tu⟩ Tv r5 eg fun s6 Qr H6 J6 I6 x6=>?_);have back:∀{PI:L2.St}{H7:Hp}{J7:List Addr}{S7:List Cell}{s7:Shared},At X ([]++nw fp s5.heap) PI H7 J7 r4 S7 s7->Ext H6 J6 H7 J7->IX w.guard S7->dL tg ti fe n w.guard (gO own caps r) (w.items.drop (i+1)) S7=.ok () S'->
     ∃m,m<w.items.length-i/\∃i FJ H' J' S1,At X [] FJ H' J' (gO own caps r) S1 s7/\Ext H0 J0 H' J'/\tn i s7.heap/\(∀b∈fp,H' b=none)/\IX w.guard S1/\m=w.items.length-i/\i<=w.items.length/\
      dL tg ti fe n w.guard (gO own caps r) (w.items.drop i) S1=.ok () S':=by
    intro PI H7 J7 S7 s7 I7 x7 Tx m7;refine⟨w.items.length-(i+1),by omega,i+1,PI,H7,J7,S7,⟨I7.inv.IM,HI.own L_ eg I7.loc,I7.st⟩,((x3.trans x5).trans x6).trans x7,T.keep _ _ _ PH fun b hb o e=>(I7.inv.pin (b,o) (List.mem_append_right _ (List.mem_append_right _ (jT hb e)))).1,fun b hb=>?_,Tx,rfl,LJ,m7⟩;obtain⟨o,e,d⟩:=T.obj _ _ PH b hb;exact(I7.inv.pin (b,o) (List.mem_append_right _ (List.mem_append_right _ (jT hb e)))).2.1
   refine wpAny_bind (ht _ s6 Qr H6 J6 r4 S3 _ _ I6 ?_);cases et:ti r4 S3 with
   |bad=>rw[et] at m3;cases m3
   |exc c S4=>rw[et] at m3;cases m3
   |ok b S4=>
    rw[et] at m3;rintro s7 ⟨H7,I7,J7,x7,Yp⟩;have A7:At X ([]++nw fp s5.heap) Qr H7 J7 r4 S4 s7:=⟨I7,I6.loc.ext x7,Yp⟩;cases b with
    |false=>
     dsimp only at m3;by_cases g4:IX w.guard S4
     ·rw[if_pos g4] at m3;exact wpAny_pure ⟨rfl,back A7 x7 g4 m3⟩
     ·rw[if_neg g4] at m3;cases m3
    |true=>
     dsimp only at m3;refine wpAny_bind (wpAny_bind (he _ s7 Qr H7 J7 r4 S4 _ _ A7 ?_));cases ee:fe r4 S4 with
     |bad=>rw[ee] at m3;cases m3
     |exc c S5=>rw[ee] at m3;cases m3
     |ok dv S5=>
      rw[ee] at m3;rintro v s8 ⟨vx,H8,I8,r8,J8,x8,WD,Yq⟩;dsimp only at m3;have O9:J8[n]?=some acc:=by
       obtain⟨m1,e1⟩:=((((x3.trans x5).trans x6).trans x7).trans x8).pre;rw[e1,List.getElem?_append_left (List.getElem?_eq_some_iff.mp Oq).1];exact Oq
      obtain⟨c8,Yr,Ys⟩:=WD.JB O9;rw[Yr] at m3;cases c8 with
      |lst ys=>
       dsimp only at m3;by_cases g5:ys.length<sizeLine/\IX w.guard (S5.set n (.lst (ys++[dv])))
       ·rw[bW g5] at m3;obtain⟨vs,Rb,FK⟩:=Ys;refine wpAny_bind (wpAny_mono (sk (X:=X.Fz (notedBy (model X.prog X.w) X.A X.env fun e s'=>RR (.error e) s')) _ s8 Qr H8 (.ref acc) [vx] (.ref acc) [v] (fun v' H9=>v'=.D_/\H9=upd H8 acc (.lst (vs++[vx]))) (I8.Fz _) rfl (.cons r8 .nil)
         ⟨acc,vs,vx,rfl,rfl,Rb,by rw[FK.length];exact g5.1,rfl,rfl⟩) (fun v' s9 q=>?_) fun _ _ z=>z)
        obtain⟨v9,H9,I9,r9,rfl,rfl⟩:=q;have x9:Ext H8 J8 (upd H8 acc (.lst (vs++[vx]))) J8:=Ext.write Rb rfl;have Yt:Fg X.K (upd H8 acc (.lst (vs++[vx]))) J8 (S5.set n (.lst (ys++[dv]))):=WD.write O9 ⟨_,bD,(FK.ext x9).append (.one (Yq.ext x9))⟩;exact wpAny_pure (wpAny_pure ⟨rfl,back ⟨I9.Fx,(A7.loc.ext x8).ext x9,Yt⟩ ((x7.trans x8).trans x9) g5.2 m3⟩)
       ·rw[uf g5] at m3;cases m3
      |_=>cases m3
 ·have e:i=w.items.length:=by omega
  subst e;rw[List.drop_length] at m3;cases m3;refine O3 (T.done X rfl rfl rfl hc _ [] s3 LI H3 _ I3.inv (L8 Q8) MQ Nk) fun rr s4 ⟨hr,I4⟩=>?_
  subst hr;exact wpAny_pure (hR s4 LI H3 J3 I4 I3.st x3)
end
section
variable{X:Cx}{elt target iter:Expr}{ifs:List Expr}{scope:Scope}{pos:Pos}{f:s_->M Wk}{tg:Kd}{ti:s_->M Bool}{fe:s_->M D}{own capN:List Str}{caps:List Nat}{cl:List (Str×Addr)}
structure CompEnd(X:Cx)(pins:Fe)(σ:L2.St)(H:Hp)(J:List Addr)(n:Nat)(S':List Cell)(D C:Addr)(s':Shared):Prop where
 ex:∃H' J',Inv X pins σ H' s'/\Ext H J H' J'/\Fg X.K H' J' S'/\J'[n]?=some D/\H' C=none/\C≠X.env.locals/\X.G1.heap.objs.size<=C/\(∀x c,X.env.cells.lookup x=some c->c≠C)/\∀p∈X.pn++pins,p.1≠C
 ns:∃m,s'.heap.Ns C m
theorem sx(B:MD X scope own capN caps cl)(hc:X.calm=true)(L_:qh own.length tg)
  (hB:∀(C:Addr) (s2:Shared) (H2:Hp) (fp:List Addr),Om (Nl X scope (own++capN) cl C s2 H2 fp) target tg/\Qs (Nl X scope (own++capN) cl C s2 H2 fp) ifs ti/\FR (Nl X scope (own++capN) cl C s2 H2 fp) elt fe)
  {pins:Fe}{s2:Shared}{σ:L2.St}{H2:Hp}{J2:List Addr}{r:s_}{S:List Cell}{w:Wk}{S':List Cell}{RR:Value->Addr->Result->Shared->Prop}{E:Value->Shared->Prop}
  {it:Addr}{fp:List Addr}{tn:Nat->Heap->Prop}{it0:It}(I2:At X pins σ H2 J2 r S s2) (T:Turn X.prog X.w X.K target it0 fp it tn) (ok:Hf X.K it0 w H2 J2) (Qt:∀b∈fp,Jq X pins H2 b) (st:tn 0 s2.heap) (gk:IX w.guard S)
  (hr:dL tg ti fe S.length w.guard (gO own.length caps r) w.items (S++[.lst []])=.ok () S')
  (hR:∀D C s',CompEnd X pins σ H2 J2 S.length S' D C s'->RR (.ref D) C (.ok .next) s') :
  wpAny (model X.prog X.w) X.A (newList []) (fun acc TF=>wpAny (model X.prog X.w) X.A (newFunctionEnv scope X.env.globals cl [] X.env.qual none .none (some X.env)) (fun Rc TH=>
   codeAny (model X.prog X.w) X.A (.compStart (.ListComp elt [⟨target,iter,ifs,0⟩] scope pos) 0 (.ref it) acc { Rc with scope:=relabel scope X.env }) (RR acc Rc.locals) TH) E TF) E s2:=by
 refine wpAny_newObj_type (wpAny_newFunctionEnv B.L9 (by intro y hy;simp at hy) (fun MS Ma K0=>?_) B.kind);dsimp only at Ma K0 ⊢;have hsz:(s2.heap.push { cls:=.type "list",dict:=none,data:=.seq ([]:List Value).toArray }).objs.size=s2.heap.objs.size+1:=by rw[Heap.size_push]
 rw[hsz] at Ma K0 ⊢;have keep:∀b o,s2.heap.get? b=some o->MS.get? b=some o:=fun b o e=>
  K0.extBut b o (Nat.ne_of_lt (Nat.lt_succ_of_lt (Heap.lt_size e))) (Heap.get?_push_of_some _ (Heap.get?_push_of_some _ e))
 have hl:MS.get? s2.heap.objs.size=some { cls:=.type "list",data:=.seq #[] }:=K0.extBut _ _ (Nat.ne_of_lt (Nat.lt_succ_self _)) (Heap.get?_push_of_some _ (Heap.get?_push_size _ rfl));have WE:∀b∈fp,∃o,s2.heap.get? b=some o:=fun b hb=>let ⟨o,e,_⟩:=T.obj _ _ st b hb;⟨o,e⟩
 have Qu:H2 s2.heap.objs.size=none:=I2.inv.Fn.fresh (Nat.le_refl _);have IB:=yA (tk:=s2.toks+([]:List (Str×Value)).length) B I2.inv Qt WE (by simpa using Ma) hl keep;have Se:tn 0 MS:=T.keep _ _ _ st fun b hb o e=>keep b o e
 obtain⟨hg,ht,he⟩:=hB (s2.heap.objs.size+1) s2 H2 fp;have x0:Ext H2 J2 (upd H2 s2.heap.objs.size (.lst [])) (J2++[s2.heap.objs.size]):=(Ext.new Qu).snoc _;have Yu:Fg X.K (upd H2 s2.heap.objs.size (.lst [])) (J2++[s2.heap.objs.size]) (S++[.lst []]):=I2.st.push Qu ⟨[],bD,.nil⟩;have loop:codeAny (model X.prog X.w) X.A (.compLoop (.ListComp elt [⟨target,iter,ifs,0⟩] scope pos) 0 (.ref it) (.ref s2.heap.objs.size) (compEnvC scope cl (s2.heap.objs.size+1) X.env)) (RR (.ref s2.heap.objs.size) (s2.heap.objs.size+1))
   { s2 with heap:=MS,toks:=s2.toks+([]:List (Str×Value)).length }:=by
  refine ya (X:=Nl X scope (own++capN) cl (s2.heap.objs.size+1) s2 H2 fp) (own:=own.length) (caps:=caps) (r:=r) (w:=w) (n:=S.length) hc hg ht he L_ (H0:=upd H2 s2.heap.objs.size (.lst [])) (J0:=J2++[s2.heap.objs.size]) (it0:=it0) (fp:=fp) (tn:=tn) T
   ?_ ?_ (S:=S++[Cell.lst []]) ⟨IB,(I2.loc.ext x0).Sd _ _,Yu⟩ ?_ Se ?_ hr ?_
  ·exact fun H J S1 x rs g=>ok H J S1 (x0.trans x) rs g
  ·rw[<-I2.st.len];simp
  ·intro b hb;obtain⟨o,L3⟩:=WE b hb;obtain⟨f0,f1,f2,f3,f4,f5⟩:=Qt b hb;refine⟨by rw[bi (Nat.ne_of_lt (Heap.lt_size L3))];exact f0,Nat.ne_of_lt (Nat.lt_succ_of_lt (Heap.lt_size L3)),?_,.inl hb,fun x c h=>f4 x c (nu B.cells h),fun p hp=>by cases hp⟩;intro Ol;rcases List.mem_cons.mp (I2.inv.KR b Ol) with e|e
   ·exact f1 e
   ·exact f2 e
  ·cases eg:w.guard with
   |none=>trivial
   |some q=>
    obtain⟨k,xs⟩:=q;rw[eg] at gk;show(S++[Cell.lst []])[k]?=_;rw[List.getElem?_append_left (List.getElem?_eq_some_iff.mp gk).1];exact gk
  ·intro s' FJ H' J' I' MT x';refine hR _ _ s' ⟨⟨H',J',?_,x0.trans x',MT,?_,I'.free,?_,?_,?_,?_⟩,?_⟩
   ·refine I2.inv.O2 (ch:=fp) I'.os I'.base I'.Fn I'.bare fun b hb=>?_
    obtain⟨f0,f1,f2,f3,f4,f5⟩:=Qt b hb;exact⟨f3,f1,f4,f5⟩
   ·obtain⟨m,em⟩:=x'.pre;rw[em,List.getElem?_append_left (by rw[List.length_append,I2.st.len];simp),<-I2.st.len];simp
   ·exact(Nat.ne_of_lt (Nat.lt_succ_of_lt I2.inv.lt)).symm
   ·exact Nat.le_trans I2.inv.sz (Nat.le_succ _)
   ·intro x c h;obtain⟨v,o,ho,_⟩:=I2.inv.cell x c h;exact Nat.ne_of_lt (Nat.lt_succ_of_lt (Heap.lt_size ho))
   ·intro p hp;obtain⟨h1,_⟩:=I2.inv.pin p hp;exact Nat.ne_of_lt (Nat.lt_succ_of_lt (Heap.lt_size h1))
   ·obtain⟨m,hm,_⟩:=I'.loc;exact⟨m,hm⟩
 exact codeAny_compStart_list loop (T.self _ 0 _ _ _ Se loop)
theorem CompEnd.PM{pins:Fe}{σ:L2.St}{H:Hp}{J:List Addr}{n:Nat}{S':List Cell}{D C:Addr}{s':Shared}(h:CompEnd X pins σ H J n S' D C s'){h':Heap}(hs:Heap.SameBut C s'.heap h') :
  ∃H' J',Inv X pins σ H' { s' with heap:=h' }/\Ext H J H' J'/\Fg X.K H' J' S'/\J'[n]?=some D:=by
 obtain⟨H',J',I,x,rs,hn,f0,f1,f2,f3,f4⟩:=h.ex;exact⟨H',J',I.turned (t':=s'.toks) (fun b o hb e=>(hs.2 b hb).trans e) f0 f1 (.inr f2) f3 f4,x,rs,hn⟩
theorem gU(B:MD X scope own capN caps cl)(hc:X.calm=true)(hi:PId X target iter f)(L_:qh own.length tg)
  (hB:∀(C:Addr) (s2:Shared) (H2:Hp) (fp:List Addr),Om (Nl X scope (own++capN) cl C s2 H2 fp) target tg/\Qs (Nl X scope (own++capN) cl C s2 H2 fp) ifs ti/\FR (Nl X scope (own++capN) cl C s2 H2 fp) elt fe)
  (hs:∀x,foldedSetIterable iter X.env x=pure x:=by intro _;rfl) :
  FR X (.ListComp elt [⟨target,iter,ifs,0⟩] scope pos) (dH f tg ti fe own.length caps):=by
 intro pins s σ H J r S Q E I m;rw[eval_ListComp];refine wpAny_comprehension_free (use:=none) rfl hs B.Q_ B.kind B.names (hi pins s σ H J r S _ E I ?_);unfold dH M.bind at m;cases ef:f r S with
 |bad=>rw[ef] at m;exact m
 |exc c S1=>rw[ef] at m;exact m
 |ok w S1=>
  rw[ef] at m;dsimp only at m;rintro Mv s2 ⟨it,fp,tn,it0,H2,rfl,I2,T,Q7,f2,J2,x2,IA,gk,ok⟩;cases er:dL tg ti fe S1.length w.guard (gO own.length caps r) w.items (S1++[.lst []]) with
  |bad=>rw[er] at m;exact m.elim
  |exc c S3=>rw[er] at m;exact m.elim
  |ok uu S'=>
   rw[er] at m;refine sx (RR:=fun acc C=>compPost (model X.prog X.w) X.A E none Q acc C) B hc L_ hB ⟨I2,I.loc.ext x2,IA⟩ T ok f2 Q7 gk er fun D C s' ce=>?_
   obtain⟨mC,TJ⟩:=ce.ns;refine⟨mC,TJ,fun h' Nm=>?_⟩;obtain⟨H',J',I',x',MT,hn⟩:=ce.PM Nm;exact m _ _ ⟨.ref D,H',I',rfl,J',x2.trans x',MT,.ob hn⟩
theorem pO{i:Nat}{y:Str}{py Rf:Pos}(hN:X.N.Nodup)(B:MD X scope own capN caps cl)(hc:X.calm=true)(hi:PId X target iter f)(L_:qh own.length tg)
  (hB:∀(C:Addr) (s2:Shared) (H2:Hp) (fp:List Addr),Om (Nl X scope (own++capN) cl C s2 H2 fp) target tg/\Qs (Nl X scope (own++capN) cl C s2 H2 fp) ifs ti/\FR (Nl X scope (own++capN) cl C s2 H2 fp) elt fe)
  (Yv:swapsWith (.ListComp elt [⟨target,iter,ifs,0⟩] scope pos) (some (.Name y py)) Rf.line X.env=pure true:=by rfl) (Yw:X.N[i]?=some y:=by rfl) (hx:Loc X.env.scope y:=by first|exact Or.inl rfl|exact Or.inr rfl)
  (hf:X.fn y=true\/X.env.scope.names.lookup y=some .local:=by first|exact .inl rfl|exact .inr rfl|assumption)
  (hs:∀x,foldedSetIterable iter X.env x=pure x:=by intro _;rfl) :
  L1 X (.Assign [.Name y py] (.ListComp elt [⟨target,iter,ifs,0⟩] scope pos) Rf) (cr (dH f tg ti fe own.length caps) (gN i)):=by
 intro pins s σ H J r S Q E I m;rw[exec_Assign_Name_used _ _ _ _ Yv];refine wpAny_bind (wpAny_standAt (wpAny_bind ?_));show wpAny _ X.A (do let _ <-comprehension (.ListComp elt [⟨target,iter,ifs,0⟩] scope pos) scope X.env _ (newList []) false (eval iter X.env) (some (assign (.Name y py) X.env))) _ _ s;refine wpAny_bind (wpAny_mono (wpAny_comprehension_free (use:=some (assign (.Name y py) X.env)) (Q:=fun _ s'=>Q .next s') rfl hs B.Q_ B.kind B.names (hi pins s σ H J r S _ E I ?_)) (fun _ s' hq=>wpAny_pure (wpAny_pure hq)) fun _ _ z=>z);unfold cr cw dH M.bind at m;cases ef:f r S with
 |bad=>rw[ef] at m;exact m
 |exc c S1=>rw[ef] at m;exact fun x s' ⟨H',XI,J',ex,rs⟩=>m x s' σ H' J' XI (I.loc.ext ex) rs ex
 |ok w S1=>
  rw[ef] at m;dsimp only at m;rintro Mv s2 ⟨it,fp,tn,it0,H2,rfl,I2,T,Q7,f2,J2,x2,IA,gk,ok⟩;cases er:dL tg ti fe S1.length w.guard (gO own.length caps r) w.items (S1++[.lst []]) with
  |bad=>rw[er] at m;exact m.elim
  |exc c S3=>rw[er] at m;exact m.elim
  |ok uu S'=>
   rw[er] at m;refine sx (RR:=fun acc C=>compPost (model X.prog X.w) X.A E (some (assign (.Name y py) X.env)) (fun _ s'=>Q .next s') acc C) B hc L_ hB ⟨I2,I.loc.ext x2,IA⟩ T ok f2 Q7 gk er fun D C s' ce=>?_
   obtain⟨H',J',I',x',MT,hn,f0,f1,Yx,f3,f4⟩:=ce.ex;obtain⟨mC,TJ⟩:=ce.ns;show wpAny _ X.A (assign (.Name y py) X.env (.ref D)) _ _ _;refine wpAny_assign_Name (sK I' hN Yw hx (v:=.ref D) rfl (fun s3 I3 ch=>?_) hf);obtain⟨ca,Yy,Yz⟩:=ch;have YA:C≠ca:=by
    rcases Yz with e|e
    ·rw[e];exact f1
    ·exact(f3 _ _ e).symm
   refine⟨mC,TJ.sameBut Yy YA,fun h' Nm=>?_⟩;exact m _ _ H' J' ⟨I3.turned (h':=h') (t':=s3.toks) (fun b o hb e=>(Nm.2 b hb).trans e) f0 f1 (.inr Yx) f3 f4,((I.loc.ext x2).ext x').set (.ob hn),MT⟩ (x2.trans x')
end
end DL
namespace DL
open PySem PySem.Spec PyProof.Rows L2
mutual
def GQ(n:Nat):D->Prop
 |.tup xs=>iW n xs
 |.Gp xs=>iW n xs
 |.ob k=>k<n
 |_=>True
def iW(n:Nat):List D->Prop
 |[]=>True
 |x :: xs=>GQ n x/\iW n xs
end
section
variable{K:PySem.W.Frag}{H:Hp}{J m:List Addr}
mutual
theorem r_.wf:∀{d:D}{v:V},r_ K H J d v->GQ J.length d
 |.D_,_,_=>by unfold GQ;trivial
 |.bl _,_,_=>by unfold GQ;trivial
 |.int _,_,_=>by unfold GQ;trivial
 |.str _,_,_=>by unfold GQ;trivial
 |.xn _,_,_=>by unfold GQ;trivial
 |.tup xs,_,h=>by
  obtain⟨a,vs,_,_,h⟩:=h.IC;unfold GQ;exact j_.wf h
 |.Gp xs,_,h=>by
  obtain⟨a,vs,_,_,h⟩:=h.KZ;unfold GQ;exact j_.wf h
 |.ob k,_,h=>by
  obtain⟨a,_,h⟩:=h.Im;unfold GQ;exact(List.getElem?_eq_some_iff.mp h).1
theorem j_.wf:∀{xs:List D}{vs:List V},j_ K H J xs vs->iW J.length xs
 |[],_,_=>by unfold iW;trivial
 |x :: xs,_,h=>by
  unfold j_ at h;obtain⟨v,r,_,h1,h2⟩:=h;unfold iW;exact⟨r_.wf h1,j_.wf h2⟩
end
mutual
theorem r_.shrink:∀{d:D}{v:V},GQ J.length d->r_ K H (J++m) d v->r_ K H J d v
 |.D_,_,_,h=>by unfold r_ at h ⊢;exact h
 |.bl _,_,_,h=>by unfold r_ at h ⊢;exact h
 |.int _,_,_,h=>by unfold r_ at h ⊢;exact h
 |.str _,_,_,h=>by unfold r_ at h ⊢;exact h
 |.xn _,_,_,h=>by unfold r_ at h ⊢;exact h
 |.tup xs,_,w,h=>by
  unfold GQ at w;unfold r_ at h ⊢;obtain⟨a,vs,h1,h2,h3⟩:=h;exact⟨a,vs,h1,h2,j_.shrink w h3⟩
 |.Gp xs,_,w,h=>by
  unfold GQ at w;unfold r_ at h ⊢;obtain⟨a,vs,h1,h2,h3⟩:=h;exact⟨a,vs,h1,h2,j_.shrink w h3⟩
 |.ob k,_,w,h=>by
  unfold GQ at w;unfold r_ at h ⊢;obtain⟨a,h1,h2⟩:=h;rw[List.getElem?_append_left w] at h2;exact⟨a,h1,h2⟩
theorem j_.shrink:∀{xs:List D}{vs:List V},iW J.length xs->j_ K H (J++m) xs vs->j_ K H J xs vs
 |[],_,_,h=>by unfold j_ at h ⊢;exact h
 |x :: xs,_,w,h=>by
  unfold iW at w;unfold j_ at h ⊢;obtain⟨v,r,h1,h2,h3⟩:=h;exact⟨v,r,h1,r_.shrink w.1 h2,j_.shrink w.2 h3⟩
end
def Dk{κ:Type}(n:Nat)(xs:List (κ×D)):Prop:=∀p∈xs,GQ n p.2
theorem Fb.wf{κ:Type}:∀{xs:List (κ×D)}{ws:List (κ×V)},Fb K H J xs ws->Dk J.length xs
 |[],_,_=>fun p hp=>by cases hp
 |(k,d) :: r,ws,h=>by
  obtain⟨v,t,_,h1,h2⟩:=h;intro p hp;rcases List.mem_cons.mp hp with rfl|hp
  ·exact h1.wf
  ·exact Fb.wf h2 p hp
theorem Fb.shrink{κ:Type}:∀{xs:List (κ×D)}{ws:List (κ×V)},Dk J.length xs->Fb K H (J++m) xs ws->Fb K H J xs ws
 |[],_,_,h=>h
 |(k,d) :: r,ws,w,h=>by
  obtain⟨v,t,h0,h1,h2⟩:=h;exact⟨v,t,h0,h1.shrink (w (k,d) (by simp)),Fb.shrink (fun p hp=>w p (List.mem_cons_of_mem _ hp)) h2⟩
def PN(n:Nat):Cell->Prop
 |.lst xs=>iW n xs
 |.GW kvs=>Dk n kvs
 |.ins _ _ ds=>iW n ds
theorem Iy.wf{c:Cell}{a:Addr}(h:Iy K H J c a):PN J.length c:=by
 cases c with
 |lst xs=>obtain⟨vs,_,r⟩:=h;exact r.wf
 |GW xs=>obtain⟨vs,_,r⟩:=h;exact r.wf
 |ins C ns ds=>obtain⟨dx,vs,_,_,r⟩:=h;exact r.wf
theorem Iy.shrink{c:Cell}{a:Addr}(w:PN J.length c)(h:Iy K H (J++m) c a):Iy K H J c a:=by
 cases c with
 |lst xs=>obtain⟨vs,e,r⟩:=h;exact⟨vs,e,r.shrink w⟩
 |GW xs=>obtain⟨vs,e,r⟩:=h;exact⟨vs,e,r.shrink w⟩
 |ins C ns ds=>obtain⟨dx,vs,e,q,r⟩:=h;exact⟨dx,vs,e,q,r.shrink w⟩
theorem Fg.wf{S:List Cell}(h:Fg K H J S){n:Nat}{c:Cell}(hn:S[n]?=some c):PN S.length c:=by
 obtain⟨a,_,r⟩:=h.cell hn;rw[<-h.len];exact r.wf
theorem Fg.shrink{S G:List Cell}{J':List Addr}(h:Fg K H J' (S++G))(hw:∀(n:Nat) c,S[n]?=some c->PN S.length c):Fg K H (J'.take S.length) S:=by
 have hl:=h.len;rw[List.length_append] at hl;have hj:(J'.take S.length).length=S.length:=by rw[List.length_take];omega
 refine⟨hj,h.nd.sublist (List.take_sublist _ _),fun n c a hc ha=>?_⟩;have hn:=(List.getElem?_eq_some_iff.mp hc).1;have MU:J'[n]?=some a:=by
  rw[List.getElem?_take] at ha;rw[if_pos hn] at ha;exact ha
 have r:=h.at_ n c a (by rw[List.getElem?_append_left hn];exact hc) MU;have w:=hw n c hc;rw[<-hj] at w;rw[<-List.take_append_drop S.length J'] at r;exact r.shrink w
theorem Got.drop{H':Hp}{S0 S G:List Cell}{d:D}{v:V}(h:Got K H J d (S++G) v H')(r0:Fg K H J S0)(hl:S0.length<=S.length)(hd:GQ S.length d)(hw:∀(n:Nat) c,S[n]?=some c->PN S.length c):Got K H J d S v H':=by
 obtain⟨J',x,rs,rv⟩:=h;have hlen:=rs.len;rw[List.length_append] at hlen;have hj:(J'.take S.length).length=S.length:=by rw[List.length_take];omega
 refine⟨J'.take S.length,⟨x.st,?_⟩,rs.shrink hw,?_⟩
 ·obtain⟨more,e⟩:=x.pre;refine⟨more.take (S.length-J.length),?_⟩;rw[e,List.take_append,List.take_of_length_le (by rw[r0.len];exact hl)]
 ·rw[<-hj] at hd;rw[<-List.take_append_drop S.length J'] at rv;exact rv.shrink hd
end
def CH(S0:List Cell)(x:L0)(y:R D):Prop:=match y with
 |.ok d S'=>∃G,(G=[]\/(S0.length<=S'.length/\GQ S'.length d/\(S'=S0\/∀(n:Nat) c,S'[n]?=some c->PN S'.length c)))/\(x=some (.rt d,S'++G)\/(d=.D_/\∃r',x=some (.nx r',S'++G)))
 |.exc c S'=>∃r',x=some (.xc c r',S')
 |.bad=>True
def zI(CX:Je)(X:Cx)(E:XK):Prop:=∀(σ:L2.St) (H':Hp) (s':Shared) (e:Value) (c:Addr),Oh X [] σ H' s' e c->(∀p o,H' p=none->E (.ref c) none (upd H' p o))->X.xe e s'
section
variable{P:Program}{w:World}{K:PySem.W.Frag}{mg:Str->Option Value}{base:Heap}{CX:Je}
theorem qK{x qual:Str}{st:Stmt}{f:Addr}{fd:FuncData}{N ps:List Str}{k:Nat}{F:List D->M D}(hF:Gf K x qual st f fd)(S:n_ N ps (h_ st))
  (PO:∀(Fm:Value) (A:Around) (outer:List Env) (s:Shared) (H:Hp) (E:XK),zI CX (oO CX P w K mg base N qual (h_ st) f Fm A outer s H E) E)
  (LC:∀(Fm:Value) (A:Around) (outer:List Env) (s:Shared) (H:Hp) (E:XK),Gy k (A.deeper (envOfC qual (h_ st) s.heap.objs.size f Fm))->
   ∃t,nv (oO CX P w K mg base N qual (h_ st) f Fm A outer s H E) (F_ st) t/\∀xs S0,xs.length=ps.length->CH S0 (t (xs.map some++List.replicate (N.length-xs.length) none) S0) (F xs S0)) :
  Gm P w K mg base CX (k+1) f fd ps F:=by
 obtain⟨oc,od,kV,doc,pm,an,Fm,ct,M7,rfl,lk,LY⟩:=hF.ex;refine Ci lk LY S (fun vs H Q E h=>h.1) (fun A outer s H vs Q E hr h=>?_);obtain⟨hlen,J,xs,S0,rx,rs,h⟩:=h;obtain⟨t,ht,TK⟩:=LC Fm A outer s H E hr;have hl:xs.length=ps.length:=by rw[<-rx.length];exact hlen
 have he:=TK xs S0 hl;refine⟨fun D σ H'=>D = { nx:=fun _ H'=>Q .D_ H',rt:=Q }/\σ=L2.start N vs/\H'=H,?_,rfl,rfl,rfl⟩;rintro pins s1 Qq H1 D1 I1 ⟨rfl,rfl,rfl⟩;refine ht pins s1 _ _ J _ S0 _ _ ⟨I1,HI.start rx,rs⟩ ?_;have YB:∀(n:Nat) c,S0[n]?=some c->PN S0.length c:=fun n c h=>rs.wf h
 cases ef:F xs S0 with
 |bad=>rw[ef] at h;exact h.elim
 |ok d S'=>
  rw[ef] at he h;dsimp only at h;obtain⟨G,hG,hx⟩:=he;have fin:∀{v:V}{H':Hp},Got K H1 J d (S'++G) v H'->Q v H':=fun {v H'} g=>by
   rcases hG with rfl|⟨h1,h2,h3⟩
   ·rw[List.append_nil] at g;exact h v H' g
   ·refine h v H' (g.drop rs h1 h2 ?_);rcases h3 with rfl|h3
    ·exact YB
    ·exact h3
  rcases hx with hx|⟨rfl,r',hx⟩
  ·rw[hx];exact fun u s' FJ ⟨v,H',I',rv,g⟩=>⟨v,FJ,H',I',rv,fin g⟩
  ·rw[hx];exact fun s' FJ H' J' a x=>⟨FJ,H',a.inv,fin ⟨J',x,a.st,r_.D_ _ _ _⟩⟩
 |exc c S'=>
  rw[ef] at he h;dsimp only at h;obtain⟨r',hx⟩:=he;rw[hx];exact fun e s' FJ H' J' XI rl MT x=>PO Fm A outer s H1 E FJ H' s' e c ⟨XI.inv.KU (fun p hp=>(nomatch hp)),XI.Yg⟩ (fun p o hp=>h (upd H' p o) ⟨J',x.trans (Ext.new hp),MT.new hp⟩)
end
end DL
namespace DL
open PySem PySem.Spec PyProof.Rows L2
mutual
def pD(S:List Cell):Nat->D->Option PyData
 |0,_=>none
 |n+1,.D_=>some .none
 |n+1,.bl b=>some (.bool b)
 |n+1,.int i=>some (.int i)
 |n+1,.str x=>if PyData.canLay0 (.str x)=true then some (.str x) else none
 |n+1,.tup xs=>(JC S n xs).map .tuple
 |n+1,.Gp xs=>(JC S n xs).map .list
 |n+1,.ob k=>match S[k]? with
  |some (.lst xs)=>(JC S n xs).map .list
  |_=>none
 |n+1,.xn _=>none
def JC(S:List Cell)(n:Nat):List D->Option (List PyData)
 |[]=>some []
 |x :: xs=>match pD S n x,JC S n xs with
  |some p,some ps=>some (p :: ps)
  |_,_=>none
end
section
variable{X:Cx}{pins:Fe}{σ:L2.St}{H:Hp}{J:List Addr}{S:List Cell}{s:Shared}
mutual
theorem kR(I:Inv X pins σ H s)(rs:Fg X.K H J S):∀{n:Nat}{d:D}{v:V}{u:Value}{p:PyData},r_ X.K H J d v->RelV v u->pD S n d=some p->(∃as,Reads s.heap u p as)/\p.canLay0=true/\p.depth<=n
 |0,_,_,_,_,_,_,e=>by unfold pD at e;cases e
 |n+1,.D_,_,_,_,rv,r,e=>by
  cases rv.LH;cases r;unfold pD at e;cases e;exact⟨⟨_,.none⟩,rfl,Nat.zero_le _⟩
 |n+1,.bl b,_,_,_,rv,r,e=>by
  cases rv.N4;cases r;unfold pD at e;cases e;exact⟨⟨_,.bool b⟩,rfl,Nat.zero_le _⟩
 |n+1,.int i,_,_,_,rv,r,e=>by
  cases rv.Gu;obtain⟨t,rfl⟩:=r;unfold pD at e;cases e;exact⟨⟨_,.int i t⟩,rfl,Nat.zero_le _⟩
 |n+1,.str x,_,_,_,rv,r,e=>by
  cases rv.Nj;obtain⟨t,rfl⟩:=r;unfold pD at e;split at e
  ·rename_i h;cases e;exact⟨⟨_,.str x t⟩,h,Nat.zero_le _⟩
  ·cases e
 |n+1,.tup xs,_,_,_,rv,r,e=>by
  obtain⟨a,vs,rfl,hq,FK⟩:=rv.IC;cases r;obtain⟨w_,rl,⟨o,ho,hc,k,hd⟩,hz⟩:=I.tuple hq;unfold pD at e;cases ep:JC S n xs with
  |none=>rw[ep] at e;cases e
  |some ps=>
   rw[ep] at e;cases e;obtain⟨⟨as,h1⟩,h2,h3⟩:=iU I rs FK rl ep;exact⟨⟨_,.tuple ho hc hd (by simpa using h1)⟩,h2,Nat.succ_le_succ h3⟩
 |n+1,.Gp xs,_,_,_,rv,r,e=>by
  obtain⟨a,vs,rfl,hq,FK⟩:=rv.KZ;cases r;obtain⟨w_,rl,pl,hz⟩:=I.list hq.sq;obtain⟨o,ho,hc,k,hd⟩:=pl.isList;unfold pD at e;cases ep:JC S n xs with
  |none=>rw[ep] at e;cases e
  |some ps=>
   rw[ep] at e;cases e;obtain⟨⟨as,h1⟩,h2,h3⟩:=iU I rs FK rl ep;exact⟨⟨_,.list ho hc hd (by simpa using h1)⟩,h2,Nat.succ_le_succ h3⟩
 |n+1,.ob k,_,_,_,rv,r,e=>by
  obtain⟨a,rfl,hn⟩:=rv.Im;cases r;obtain⟨c,hc,rc⟩:=rs.JB hn;unfold pD at e;rw[hc] at e;cases c with
  |lst xs=>
   obtain⟨vs,hv,FK⟩:=rc;obtain⟨w_,rl,pl,hz⟩:=I.list (G7.of hv);obtain⟨o,ho,hc,k,hd⟩:=pl.isList;dsimp only at e;cases ep:JC S n xs with
   |none=>rw[ep] at e;cases e
   |some ps=>
    rw[ep] at e;cases e;obtain⟨⟨as,h1⟩,h2,h3⟩:=iU I rs FK rl ep;exact⟨⟨_,.list ho hc hd (by simpa using h1)⟩,h2,Nat.succ_le_succ h3⟩
  |_=>cases e
 |n+1,.xn c,_,_,_,_,_,e=>by unfold pD at e;cases e
theorem iU(I:Inv X pins σ H s)(rs:Fg X.K H J S):∀{n:Nat}{xs:List D}{vs:List V}{us:List Value}{ps:List PyData},j_ X.K H J xs vs->Vals vs us->JC S n xs=some ps->(∃as,ReadsAll s.heap us ps as)/\PyData.canLayAll0 ps=true/\PyData.depthAll ps<=n
 |n,[],_,_,_,rv,r,e=>by
  unfold j_ at rv;subst rv;cases r;unfold JC at e;cases e;exact⟨⟨_,.nil⟩,rfl,Nat.zero_le _⟩
 |n,x :: xs,_,_,_,rv,r,e=>by
  unfold j_ at rv;obtain⟨v,t,rfl,h1,h2⟩:=rv;cases r with
  |cons q qs=>
   unfold JC at e;cases e1:pD S n x with
   |none=>rw[e1] at e;cases e
   |some p=>
    cases e2:JC S n xs with
    |none=>rw[e1,e2] at e;cases e
    |some ps=>
     rw[e1,e2] at e;cases e;obtain⟨⟨as,a1⟩,a2,a3⟩:=kR I rs h1 q e1;obtain⟨⟨bs,b1⟩,b2,b3⟩:=iU I rs h2 qs e2;refine⟨⟨_,.cons a1 b1⟩,?_,?_⟩
     ·simp[PyData.canLayAll0,a2,b2]
     ·simp only[PyData.depthAll];exact Nat.max_le.mpr ⟨a3,b3⟩
end
end
def Fo(x y:D):M D:=fun S=>match pD S 30 x,pD S 30 y with
 |some p,some q=>.ok (.bl (PyData.eqv p q)) S
 |_,_=>.bad
def Hg(x y:D):M D:=fun S=>match pD S 30 x,pD S 30 y with
 |some p,some q=>.ok (.bl (!PyData.eqv p q)) S
 |_,_=>.bad
section
variable{X:Cx}
theorem cm(hu:X.A.units+64<cLine):IW X (compareOp .Eq) Fo:=by
 intro pins s σ H J S x y vx vy v u Q E I rs rx ry rv ru m;unfold Fo at m;cases e1:pD S 30 x with
 |none=>rw[e1] at m;exact m.elim
 |some p=>
  cases e2:pD S 30 y with
  |none=>rw[e1,e2] at m;exact m.elim
  |some q=>
   rw[e1,e2] at m;obtain⟨⟨as,a1⟩,a2,a3⟩:=kR I rs rx rv e1;obtain⟨⟨bs,b1⟩,b2,b3⟩:=kR I rs ry ru e2;exact SeqAt.compareEq_reads a1 b1 a2 b2 (by have:=Nat.min_le_left p.depth q.depth;omega) (m.HL I rs (r_.bl _ _ _ _) rfl)
theorem om(hu:X.A.units+64<cLine):IW X (compareOp .NotEq) Hg:=by
 intro pins s σ H J S x y vx vy v u Q E I rs rx ry rv ru m;unfold Hg at m;cases e1:pD S 30 x with
 |none=>rw[e1] at m;exact m.elim
 |some p=>
  cases e2:pD S 30 y with
  |none=>rw[e1,e2] at m;exact m.elim
  |some q=>
   rw[e1,e2] at m;obtain⟨⟨as,a1⟩,a2,a3⟩:=kR I rs rx rv e1;obtain⟨⟨bs,b1⟩,b2,b3⟩:=kR I rs ry ru e2;exact SeqAt.compareNe_reads a1 b1 a2 b2 (by have:=Nat.min_le_left p.depth q.depth;omega) (m.HL I rs (r_.bl _ _ _ _) rfl)
def Qv(C:Int->Int->Prop)(g:Int->Int->D):D->D->M D
 |.int i,.int j=>fun S=>Hq (C i j) (.ok (g i j) S) .bad
 |_,_=>M.bad
theorem wM{f:Value->Value->Sem Value}{C:Int->Int->Prop}{g:Int->Int->Int}(h:∀E,KW (X.Fz E) f (rI C fun i j=>.int (g i j))):IW X f (Qv C fun i j=>.int (g i j)):=by
 refine IW.of h (fun H J S x y vx vy d S' rs rx ry e=>?_) (fun x y S c S' e=>?_)
 ·cases x with
  |int i=>
   cases y with
   |int j=>
    cases rx.Gu;cases ry.Gu;simp only[Qv,Hq] at e;split at e
    ·rename_i hc;cases e;exact⟨i,j,rfl,rfl,hc,J,Ext.refl _ _,rs,r_.int _ _ _ _⟩
    ·cases e
   |_=>cases e
  |_=>cases e
 ·cases x with
  |int i=>
   cases y with
   |int j=>
    simp only[Qv,Hq] at e;split at e<;>cases e
   |_=>cases e
  |_=>cases e
def tL(p:Int->Int->Bool):D->D->M D
 |.int i,.int j=>fun S=>.ok (.bl (p i j)) S
 |_,_=>M.bad
theorem tS{f:Value->Value->Sem Value}{p:Int->Int->Bool}(h:∀E,KW (X.Fz E) f (Qj fun i j=>.bl (p i j))):IW X f (tL p):=by
 refine IW.of h (fun H J S x y vx vy d S' rs rx ry e=>?_) (fun x y S c S' e=>?_)
 ·cases x with
  |int i=>
   cases y with
   |int j=>
    cases rx.Gu;cases ry.Gu;cases e;exact⟨i,j,rfl,rfl,J,Ext.refl _ _,rs,r_.bl _ _ _ _⟩
   |_=>cases e
  |_=>cases e
 ·cases x with
  |int i=>
   cases y with
   |int j=>cases e
   |_=>cases e
  |_=>cases e
def rF:D->D->M D:=Qv (fun _ _=>True) fun i j=>.int (i-j)
def zP:D->D->M D:=Qv Dh fun i j=>.int (i / j)
def kq:D->D->M D:=Qv (fun _ j=>0<j) fun i j=>.int (i % j)
theorem wk:IW X (binaryOp .Sub) rF:=wM (C:=fun _ _=>True) (g:=fun i j=>i-j) fun E=>R3 fun _ _ _ _ _ _ _ _ q=>sub_int q
theorem BL:IW X (binaryOp .FloorDiv) zP:=wM fun E=>Bf
theorem jp:IW X (binaryOp .Mod) kq:=wM fun E=>Dj
theorem km:IW X (compareOp .Lt) (tL fun i j=>decide (i<j)):=tS fun E=>DV
theorem mD:IW X (compareOp .LtE) (tL fun i j=>decide (i<=j)):=tS fun E=>Eb
theorem vA:IW X (compareOp .Gt) (tL fun i j=>decide (j<i)):=tS fun E=>D0
theorem rS:IW X (compareOp .GtE) (tL fun i j=>decide (j<=i)):=tS fun E=>D6
theorem Ai{t b:Addr}{vs ws:List Value}{A:Around}{s:Shared}{prog:Program}{w:World}{Q E:Value->Shared->Prop}(ht:IsTup s.heap t vs.toArray)(hb:IsTup s.heap b ws.toArray)(hv:vs=[])(h1:Q (.ref b) s) :
  wpAny (model prog w) A (binaryOp .Add (.ref t) (.ref b)) Q E s:=by
 obtain⟨⟨cls,dd,data,sl⟩,ho,hc,n,hd⟩:=id ht;obtain⟨⟨QW,Ql,data2,Qm⟩,MO,O5,n2,hd2⟩:=id hb;simp only at hc hd O5 hd2;subst hc hd O5 hd2;exact concat_meets ⟨_,ho,rfl⟩ ⟨_,MO,rfl⟩ noFill_tuple_add seq_tuple_add PySem.F.slot_tuple_add PySem.F.entry_tuple_add (PySem.F.args_tuple_add_2 _ _)
  (tuple_addW0 t b vs.toArray ws.toArray n n2 dd Ql sl Qm (by simp[hv])) ⟨ho,MO,h1⟩
def cz(S:List Cell)(n:Nat):Option (List D):=match S[n]? with
 |some (.lst xs)=>some xs
 |_=>none
def bL:D->D->M D
 |.int i,.int j=>fun S=>.ok (.int (i+j)) S
 |.tup xs,.tup ys=>nE (xs++ys)
 |.ob n,.ob m=>fun S=>match cz S n,cz S m with
  |some xs,some ys=>nF (xs++ys) S
  |_,_=>.bad
 |_,_=>M.bad
theorem qC{S:List Cell}{n:Nat}{xs:List D}(h:cz S n=some xs):S[n]?=some (.lst xs):=by
 unfold cz at h;split at h
 ·rename_i e;rw[e];cases h;rfl
 ·cases h
theorem Fg.lst{K:PySem.W.Frag}{H:Hp}{J:List Addr}{S:List Cell}{n:Nat}{xs:List D}{a:Addr}(rs:Fg K H J S)(h:cz S n=some xs)(hn:J[n]?=some a):∃vs,H a=some (.lst vs)/\j_ K H J xs vs:=rs.at_ n _ a (qC h) hn
theorem cD:IW X (binaryOp .Add) bL:=by
 intro pins s σ H J S x y vx vy v u Q E I rs rx ry rv ru m;cases x with
 |int i=>
  cases y with
  |int j=>
   cases rx.Gu;cases ry.Gu;obtain⟨t,rfl⟩:=rv;obtain⟨t',rfl⟩:=ru;exact add_int (m.HL (I.tok _) rs (r_.int _ _ _ _) ⟨_,rfl⟩)
  |_=>exact m.elim
 |tup xs=>
  cases y with
  |tup ys=>
   obtain⟨a,vs,rfl,ha,FK⟩:=rx.IC;obtain⟨b,ws,rfl,hb,rws⟩:=ry.IC;cases rv;cases ru;obtain⟨w_,r1,p1,_⟩:=I.tuple ha;obtain⟨LF,r2,p2,_⟩:=I.tuple hb;simp only[bL,nE,Hq] at m;split at m
   ·rename_i hz;rw[List.length_append] at hz;by_cases h0:w_=[]
    ·have e0:xs=[]:=FK.IT.mp (r1.IT.mp h0);subst e0;exact Ai p1 p2 h0 (m.HL (v:=.ref b) I rs (by rw[List.nil_append];exact .tup hb rws) rfl)
    ·refine HT.Od p1 p2 h0 (fun z=>?_) (fun z=>?_) (by rw[<-r1.length,<-r2.length,FK.length,rws.length];exact hz)
     ·have e0:ys=[]:=rws.IT.mp (r2.IT.mp z);subst e0;exact m.HL (v:=.ref a) I rs (by rw[List.append_nil];exact .tup ha FK) rfl
     ·have hf:H s.heap.objs.size=none:=I.Fn.fresh (Nat.le_refl _);refine m.val (H':=upd H s.heap.objs.size (.tup (vs++ws))) (v:=.ref s.heap.objs.size) (I.laid (t':=s.toks) (fun b u e=>Heap.get?_push_of_some _ e) (Nat.le_refl _) ?_) rfl (Got.tup rs (FK.append rws) hf);exact⟨by rw[List.length_append,FK.length,rws.length];exact hz,_,r1.append r2,IsTup.new _ _⟩
   ·exact m.elim
  |_=>exact m.elim
 |ob n=>
  cases y with
  |ob k=>
   obtain⟨a,rfl,hn⟩:=rx.Im;obtain⟨b,rfl,hk⟩:=ry.Im;simp only[bL] at m;cases e1:cz S n with
   |none=>rw[e1] at m;exact m.elim
   |some xs=>
    cases e2:cz S k with
    |none=>rw[e1,e2] at m;exact m.elim
    |some ys=>
     rw[e1,e2] at m;obtain⟨vs,hv,FK⟩:=rs.lst e1 hn;obtain⟨ws,hw,rws⟩:=rs.lst e2 hk;simp only[nF,Hq] at m;split at m
     ·rename_i hz;rw[List.length_append] at hz;refine wpAny_mono (De (X:=X.Fz E) pins s σ H (.ref a) (.ref b) v u (Got X.K H J (.ob S.length) (S++[.lst (xs++ys)])) (I.Fz E) rv ru ⟨a,b,vs,ws,rfl,rfl,hv,hw,by rw[FK.length,rws.length];exact hz,fun p hp=>?_⟩) (fun u s' q=>m u s' (EP.Fx q)) fun _ _ z=>z
      exact Got.lst rs (FK.append rws) hp
     ·exact m.elim
  |_=>exact m.elim
 |_=>exact m.elim
end
end DL
namespace DL
open PySem PySem.Spec PyProof.Rows L2
section
variable{X:Cx}
def eI:D->D->M D
 |.int i,.int j=>fun S=>Hq (L6 i j) (.ok (.int (i * j)) S) .bad
 |.ob n,.int k=>fun S=>match cz S n with
  |some xs=>Hq ((-(2 ^ 63)<=k/\k<2 ^ 63)/\xs.length * k.toNat<=sizeLine) (.ok (.ob S.length) (S++[.lst (List.replicate k.toNat xs).flatten])) .bad
  |none=>.bad
 |_,_=>M.bad
theorem j_.rep{K:PySem.W.Frag}{H:Hp}{J:List Addr}{xs:List D}{vs:List V}(h:j_ K H J xs vs):∀k:Nat,j_ K H J (List.replicate k xs).flatten (List.replicate k vs).flatten
 |0=>.nil
 |k+1=>by
  rw[List.replicate_succ,List.replicate_succ,List.flatten_cons,List.flatten_cons];exact h.append (j_.rep h k)
theorem jw:IW X (binaryOp .Mult) eI:=by
 refine IW.of (fun E=>Pr.or Db) (fun H J S x y vx vy d S' rs rx ry e=>?_) (fun x y S c S' e=>?_)
 ·cases x with
  |int i=>
   cases y with
   |int j=>
    cases rx.Gu;cases ry.Gu;simp only[eI,Hq] at e;split at e
    ·rename_i hc;cases e;exact .inl ⟨i,j,rfl,rfl,hc,J,Ext.refl _ _,rs,r_.int _ _ _ _⟩
    ·cases e
   |_=>cases e
  |ob n=>
   cases y with
   |int k=>
    obtain⟨a,rfl,hn⟩:=rx.Im;cases ry.Gu;simp only[eI,Hq] at e;cases e1:cz S n with
    |none=>rw[e1] at e;cases e
    |some xs=>
     rw[e1] at e;dsimp only at e;split at e
     ·rename_i hz;cases e;obtain⟨vs,hv,FK⟩:=rs.lst e1 hn;exact .inr ⟨a,k,vs,rfl,rfl,hv,hz.1.1,hz.1.2,by rw[FK.length];exact hz.2,fun p hp=>Got.lst rs (FK.rep _) hp⟩
     ·cases e
   |_=>cases e
  |_=>cases e
 ·cases x with
  |int i=>
   cases y with
   |int j=>
    simp only[eI,Hq] at e;split at e<;>cases e
   |_=>cases e
  |ob n=>
   cases y with
   |int k=>
    simp only[eI,Hq] at e;split at e
    ·split at e<;>cases e
    ·cases e
   |_=>cases e
  |_=>cases e
def fM(S:List Cell):D->Option (List D)
 |.tup xs=>some xs
 |.Gp xs=>some xs
 |.ob n=>cz S n
 |_=>none
def t_:D->D->M D
 |x,.int i=>fun S=>match fM S x with
  |some xs=>(match Lp xs i with
   |some d=>.ok d S
   |none=>.bad)
  |none=>.bad
 |_,_=>M.bad
theorem j_.Lp{K:PySem.W.Frag}{H:Hp}{J:List Addr}{xs:List D}{vs:List V}{i:Int}{d:D}(h:j_ K H J xs vs)(e:L2.Lp xs i=some d):∃v,L2.Lp vs i=some v/\r_ K H J d v:=by
 unfold L2.Lp at e ⊢;rw[h.length];cases e1:My xs.length i with
 |none=>rw[e1] at e;cases e
 |some j=>
  rw[e1] at e;exact h.get (show xs[j]?=some d from e)
theorem FY:Qp X t_:=by
 refine Qp.of (r:=fun x y H Q=>DR X.K x y H Q\/DW X.K x y H Q) (fun E=>(B5 (X:=X.Fz E)).or (CA (X:=X.Fz E))) (fun H J S x y vx vy d S' rs rx ry e=>?_) (fun x y S c S' e=>?_)
 ·cases y with
  |int i=>
   cases ry.Gu;simp only[t_] at e;cases x with
   |tup xs=>
    obtain⟨a,vs,rfl,hq,FK⟩:=rx.IC;simp only[fM] at e;cases e1:Lp xs i with
    |none=>rw[e1] at e;cases e
    |some d=>
     rw[e1] at e;cases e;obtain⟨v,h1,h2⟩:=FK.Lp e1;exact .inr ⟨a,vs,i,v,rfl,rfl,hq,h1,J,Ext.refl _ _,rs,h2⟩
   |Gp xs=>
    obtain⟨a,vs,rfl,hq,FK⟩:=rx.KZ;simp only[fM] at e;cases e1:Lp xs i with
    |none=>rw[e1] at e;cases e
    |some d=>
     rw[e1] at e;cases e;obtain⟨v,h1,h2⟩:=FK.Lp e1;exact .inl ⟨a,vs,i,v,rfl,rfl,hq.sq,h1,J,Ext.refl _ _,rs,h2⟩
   |ob n=>
    obtain⟨a,rfl,hn⟩:=rx.Im;simp only[fM] at e;cases e0:cz S n with
    |none=>rw[e0] at e;cases e
    |some xs=>
     rw[e0] at e;dsimp only at e;obtain⟨vs,hv,FK⟩:=rs.lst e0 hn;cases e1:Lp xs i with
     |none=>rw[e1] at e;cases e
     |some d=>
      rw[e1] at e;cases e;obtain⟨v,h1,h2⟩:=FK.Lp e1;exact .inl ⟨a,vs,i,v,rfl,rfl,G7.of hv,h1,J,Ext.refl _ _,rs,h2⟩
   |_=>cases e
  |_=>cases e
 ·cases y with
  |int i=>
   simp only[t_] at e;split at e
   ·split at e<;>cases e
   ·cases e
  |_=>cases e
def fJ(xs:List D)(lo hi:Option Int):List D:=(xs.drop (HT.Gs xs.length 0 lo)).take (HT.Gs xs.length xs.length hi-HT.Gs xs.length 0 lo)
theorem j_.cut{K:PySem.W.Frag}{H:Hp}{J:List Addr}{xs:List D}{vs:List V}(h:j_ K H J xs vs)(lo hi:Option Int):j_ K H J (fJ xs lo hi) (vU vs lo hi):=by
 unfold fJ vU;rw[h.length];exact(h.drop _).take _
def Hh:D->Option Int->Option Int->M D
 |.tup xs,lo,hi=>M.ret (.tup (fJ xs lo hi))
 |.Gp xs,lo,hi=>fun S=>.ok (.ob S.length) (S++[.lst (fJ xs lo hi)])
 |.ob n,lo,hi=>fun S=>match cz S n with
  |some xs=>.ok (.ob S.length) (S++[.lst (fJ xs lo hi)])
  |none=>.bad
 |_,_,_=>M.bad
theorem mJ{prog:Program}{w:World}{A:Around}{E:Value->Shared->Prop}{s:Shared}{t sl:Addr}{items:Array Value}{vl vu:Value}{lo hi:Option Int}{Q:Value->Shared->Prop}(ht:IsTup s.heap t items)(hs:s.heap.IsSliceOf sl vl vu .none)
  (pl:IsPart vl lo) (pu:IsPart vu hi) (hw:HT.Gs items.size 0 lo=0/\HT.Gs items.size items.size hi=items.size) (h:Q (.ref t) s):wpAny (model prog w) A (getItem (.ref t) (.ref sl)) Q E s:=by
 obtain⟨os,Pu,JW,Pw⟩:=id hs;have Tf:s.TypeIs (.ref sl) "slice":=⟨os,Pu,JW⟩;unfold getItem
 try with_reducible refine wpAny_holding ?_
 first|refine wpAny_bind (wpAny_pure ?_)|skip
 refine wpAny_bind (wpAny_sequenceKey ht.typeIs (by decide) ?_);refine wpAny_bind (wpAny_callSpecial?_slot (name:=Str.ofString "__getitem__") ht.typeIs PyProof.Rows.slot_tuple_getitem
  (wpAny_call_entry PyProof.Rows.slot_tuple_getitem ht.typeIs entry_tuple_getitem ?_ (args_tuple_getitem _ _)))
 show wpAny _ _ (Builtin.Tuple.tupleItemsOf (.ref t) >>= _) _ _ s;refine wpAny_bind (tupleItemsOf_ ht ?_);refine wpAny_bind (wpAny_typeOf Tf ?_);rw[if_pos (by decide)];refine wpAny_bind (HT.Ho hs pl pu ?_);have TL:((((HT.Gs items.size 0 lo:Nat):Int) == 0 && (1:Int) == 1 && (HT.Gs items.size items.size hi-HT.Gs items.size 0 lo) == items.size)=true):=by
  rw[hw.1,hw.2];simp
 show wpAny _ _ (if (((HT.Gs items.size 0 lo:Nat):Int) == 0 && (1:Int) == 1 && (HT.Gs items.size items.size hi-HT.Gs items.size 0 lo) == items.size)=true then _ else _) _ _ s;rw[if_pos TL];refine wpAny_bind (m:=Builtin.Tuple.tupleIsExact _) (wpAny_bind (wpAny_typeOf ht.typeIs (wpAny_pure ?_)));rw[if_pos (by decide)]
 first
  |exact wpAny_bind (wpAny_rule (wpAny_pure ⟨_,rfl,wpAny_pure h⟩))
  |exact wpAny_bind (wpAny_rule (wpAny_bind (wpAny_pure (wpAny_pure ⟨_,rfl,wpAny_pure h⟩))))
theorem Ot:WA X Hh:=by
 intro pins s σ H J S x vx v vl vu lo hi sl Q E I rs rx rv hs pl pu m;cases x with
 |tup xs=>
  obtain⟨a,vs,rfl,hq,FK⟩:=rx.IC;cases rv;obtain⟨w_,r,ht,hz⟩:=I.tuple hq;have hlen:w_.toArray.size=xs.length:=by rw[List.size_toArray,<-r.length,FK.length]
  refine⟨"tuple",_,PyProof.Rows.slot_tuple_getitem.lookup,ht.typeIs,?_⟩;by_cases hw:HT.Gs xs.length 0 lo=0/\HT.Gs xs.length xs.length hi=xs.length
  ·refine mJ ht hs pl pu (by rw[hlen];exact hw) (m.HL (v:=.ref a) I rs ?_ rfl);have e:fJ xs lo hi=xs:=by
    unfold fJ;rw[hw.1,hw.2];simp
   rw[e];exact .tup hq FK
  ·refine HT.IS ht hs pl pu (by rw[hlen];exact hw) ?_ (by rw[List.size_toArray,<-r.length];exact hz);have hf:H s.heap.objs.size=none:=I.Fn.fresh (Nat.le_refl _);refine m.val (H':=upd H s.heap.objs.size (.tup (vU vs lo hi))) (v:=.ref s.heap.objs.size) (I.laid (t':=s.toks) (fun b ob q=>Heap.get?_push_of_some _ q) (Nat.le_refl _) ?_) rfl (Got.tup rs (FK.cut lo hi) hf);have M_:w_.toArray.size=vs.length:=by rw[List.size_toArray];exact r.length.symm
   rw[M_];exact⟨Nat.le_trans (ol vs lo hi) hz,_,(r.drop (HT.Gs vs.length 0 lo)).take (HT.Gs vs.length vs.length hi-HT.Gs vs.length 0 lo),IsTup.new _ _⟩
 |Gp xs=>
  obtain⟨a,vs,rfl,hq,FK⟩:=rx.KZ;obtain⟨T,id,h1,h2,h3⟩:=xm (X:=X.Fz E) pins s σ H (.ref a) v vl vu lo hi sl (Got X.K H J (.ob S.length) (S++[.lst (fJ xs lo hi)])) (I.Fz E) rv hs pl pu ⟨a,vs,rfl,hq.sq,fun p hp=>Got.lst rs (FK.cut lo hi) hp⟩;exact⟨T,id,h1,h2,wpAny_mono h3 (fun u s' q=>m u s' (EP.Fx q)) fun _ _ z=>z⟩
 |ob n=>
  obtain⟨a,rfl,hn⟩:=rx.Im;simp only[Hh] at m;cases e0:cz S n with
  |none=>rw[e0] at m;exact m.elim
  |some xs=>
   rw[e0] at m;obtain⟨vs,hv,FK⟩:=rs.lst e0 hn;obtain⟨T,id,h1,h2,h3⟩:=xm (X:=X.Fz E) pins s σ H (.ref a) v vl vu lo hi sl (Got X.K H J (.ob S.length) (S++[.lst (fJ xs lo hi)])) (I.Fz E) rv hs pl pu ⟨a,vs,rfl,G7.of hv,fun p hp=>Got.lst rs (FK.cut lo hi) hp⟩;exact⟨T,id,h1,h2,wpAny_mono h3 (fun u s' q=>m u s' (EP.Fx q)) fun _ _ z=>z⟩
 |_=>exact m.elim
def bw:List D->M D
 |[x]=>fun S=>match fM S x with
  |some xs=>.ok (.int xs.length) S
  |none=>.bad
 |_=>M.bad
theorem ld{K:PySem.W.Frag}{H:Hp}{J:List Addr}{S:List Cell}{x:D}{v:V}{xs:List D}(rs:Fg K H J S)(rx:r_ K H J x v)(e:fM S x=some xs):∃a vs,v=.ref a/\(G7 K H a vs\/HH K H a vs)/\j_ K H J xs vs:=by
 cases x with
 |tup xs=>
  obtain⟨a,vs,rfl,hq,FK⟩:=rx.IC;cases e;exact⟨a,vs,rfl,.inr hq,FK⟩
 |Gp xs=>
  obtain⟨a,vs,rfl,hq,FK⟩:=rx.KZ;cases e;exact⟨a,vs,rfl,.inl hq.sq,FK⟩
 |ob n=>
  obtain⟨a,rfl,hn⟩:=rx.Im;obtain⟨vs,hv,FK⟩:=rs.lst e hn;exact⟨a,vs,rfl,.inl (G7.of hv),FK⟩
 |_=>cases e
theorem dm:GP X (.builtin "len") bw:=by
 refine GP.of (r:=fun xs H Q=>∃p ys,xs=[.ref p]/\(G7 X.K H p ys\/HH X.K H p ys)/\Q (.int ys.length) H) (fun E=>tO (X:=X.Fz E)) (fun H J S xs vs d S' rs rx e=>?_) (fun xs S c S' e=>?_)
 ·match xs,rx,e with
  |[x],rx,e=>
   obtain⟨v,rfl,h1⟩:=rx.ID;simp only[bw] at e;cases e1:fM S x with
   |none=>rw[e1] at e;cases e
   |some ys=>
    rw[e1] at e;cases e;obtain⟨a,ws,rfl,hq,FK⟩:=ld rs h1 e1;exact⟨a,ws,rfl,hq,J,Ext.refl _ _,rs,by rw[FK.length];exact r_.int _ _ _ _⟩
  |[],rx,e=>cases e
  |_ :: _ :: _,rx,e=>cases e
 ·match xs,e with
  |[x],e=>
   simp only[bw] at e;split at e<;>cases e
  |[],e=>cases e
  |_ :: _ :: _,e=>cases e
def uB(g:Int->Int->Int):List D->M D
 |[.int i,.int j]=>M.ret (.int (g i j))
 |_=>M.bad
theorem xv{g:Int->Int->Int}{xs:List D}{S S':List Cell}{d:D}(e:uB g xs S=.ok d S'):∃i j,xs=[.int i,.int j]/\d=.int (g i j)/\S'=S:=by
 unfold uB at e;split at e
 ·rename_i i j;cases e;exact⟨i,j,rfl,rfl,rfl⟩
 ·cases e
theorem xj{g:Int->Int->Int}{xs:List D}{S S':List Cell}{c:Addr}:uB g xs S≠.exc c S':=by
 intro e;unfold uB at e;split at e<;>cases e
theorem Dp(hc:X.calm=true):GP X (.builtin "max") (uB fun i j=>if j > i then j else i):=by
 refine GP.of (fun E=>yN (X:=X.Fz E) hc) (fun H J S xs vs d S' rs rx e=>?_) (fun xs S c S'=>xj);obtain⟨i,j,rfl,rfl,rfl⟩:=xv e;obtain⟨v,w,rfl,h1,h2⟩:=rx.Oo;cases h1.Gu;cases h2.Gu;exact⟨i,j,rfl,J,Ext.refl _ _,rs,r_.int _ _ _ _⟩
theorem zJ(hc:X.calm=true):GP X (.builtin "min") (uB fun i j=>if j<i then j else i):=by
 refine GP.of (fun E=>yk (X:=X.Fz E) hc) (fun H J S xs vs d S' rs rx e=>?_) (fun xs S c S'=>xj);obtain⟨i,j,rfl,rfl,rfl⟩:=xv e;obtain⟨v,w,rfl,h1,h2⟩:=rx.Oo;cases h1.Gu;cases h2.Gu;exact⟨i,j,rfl,J,Ext.refl _ _,rs,r_.int _ _ _ _⟩
def gI:List D->M D
 |[x]=>fun S=>match fM S x with
  |some xs=>.ok (.tup xs) S
  |none=>.bad
 |_=>M.bad
theorem jD:GP X (.type "tuple") gI:=by
 refine GP.of (r:=fun xs H Q=>∃p ys,xs=[.ref p]/\((G7 X.K H p ys/\∀l,H l=none->Q (.ref l) (upd H l (.tup ys)))\/(HH X.K H p ys/\Q (.ref p) H))) (fun E=>qL (X:=X.Fz E)) (fun H J S xs vs d S' rs rx e=>?_) (fun xs S c S' e=>?_)
 ·unfold gI at e;split at e
  ·obtain⟨v,rfl,h1⟩:=rx.ID;split at e
   ·rename_i e1;cases e;obtain⟨a,ws,rfl,hq,FK⟩:=ld rs h1 e1;refine⟨a,ws,rfl,?_⟩;rcases hq with hq|hq
    ·exact .inl ⟨hq,fun l hl=>Got.tup rs FK hl⟩
    ·exact .inr ⟨hq,J,Ext.refl _ _,rs,.tup hq FK⟩
   ·cases e
  ·cases e
 ·unfold gI at e;split at e
  ·split at e<;>cases e
  ·cases e
def xw:List D->M D
 |[x]=>fun S=>match fM S x with
  |some xs=>.ok (.ob S.length) (S++[.lst xs])
  |none=>.bad
 |_=>M.bad
theorem AM:GP X (.type "list") xw:=by
 refine GP.of (r:=fun xs H Q=>∃p ys,xs=[.ref p]/\(G7 X.K H p ys\/HH X.K H p ys)/\∀l,H l=none->Q (.ref l) (upd H l (.lst ys))) (fun E=>sY (X:=X.Fz E)) (fun H J S xs vs d S' rs rx e=>?_) (fun xs S c S' e=>?_)
 ·unfold xw at e;split at e
  ·obtain⟨v,rfl,h1⟩:=rx.ID;split at e
   ·rename_i e1;cases e;obtain⟨a,ws,rfl,hq,FK⟩:=ld rs h1 e1;exact⟨a,ws,rfl,hq,fun l hl=>Got.lst rs FK hl⟩
   ·cases e
  ·cases e
 ·unfold xw at e;split at e
  ·split at e<;>cases e
  ·cases e
def Qw(S:List Cell):D->Option String
 |.D_=>some "NoneType"
 |.bl _=>some "bool"
 |.int _=>some "int"
 |.str _=>some "str"
 |.tup _=>some "tuple"
 |.Gp _=>some "list"
 |.ob n=>match S[n]? with
  |some (.lst _)=>some "list"
  |some (.GW _)=>some "dict"
  |_=>none
 |.xn _=>none
def xr(t T:String):Bool:=t == T || (t == "bool" && T == "int")
def N5(T:String)(x:D):M D:=fun S=>match Qw S x with
 |some t=>.ok (.bl (xr t T)) S
 |none=>.bad
def uI(K:PySem.W.Frag)(T:String):Prop:=∀t∈["NoneType","bool","int","str","tuple","list","dict"],PySem.W.kitOne K (.type t) (.type T)=some (xr t T)
theorem Bj(K:PySem.W.Frag):uI K "int":=by
 intro t ht;simp only[List.mem_cons,List.not_mem_nil,or_false] at ht;rcases ht with rfl|rfl|rfl|rfl|rfl|rfl|rfl<;>rfl
theorem zk(K:PySem.W.Frag):uI K "bool":=by
 intro t ht;simp only[List.mem_cons,List.not_mem_nil,or_false] at ht;rcases ht with rfl|rfl|rfl|rfl|rfl|rfl|rfl<;>rfl
theorem n7(K:PySem.W.Frag):uI K "tuple":=by
 intro t ht;simp only[List.mem_cons,List.not_mem_nil,or_false] at ht;rcases ht with rfl|rfl|rfl|rfl|rfl|rfl|rfl<;>rfl
theorem zZ{T:String}{pins:Fe}{s:Shared}{σ:L2.St}{H:Hp}{J:List Addr}{S:List Cell}{x:D}{vx:V}{v:Value}{Q E:Value->Shared->Prop}(hk:uI X.K T)(I:Inv X pins σ H s)(rs:Fg X.K H J S)(rx:r_ X.K H J x vx)(rv:RelV vx v)
  (m:Mt X pins σ H J (N5 T x S) Q E):wpAny (model X.prog X.w) X.A (call (.builtin "isinstance") [v,.type T]) Q E s:=by
 unfold N5 at m;cases x with
 |D_=>
  cases rx.LH;cases rv;exact PySem.W.kia_one PySem.W.kitx_none I.Jy True.intro (hk "NoneType" (by simp)) (fun z=>nomatch z) fun tk=>m.HL (I.tok tk) rs (r_.bl _ _ _ _) rfl
 |bl b=>
  cases rx.N4;cases rv;exact PySem.W.kia_one PySem.W.kitx_bool I.Jy True.intro (hk "bool" (by simp)) (fun z=>nomatch z) fun tk=>m.HL (I.tok tk) rs (r_.bl _ _ _ _) rfl
 |int i=>
  cases rx.Gu;obtain⟨t,rfl⟩:=rv;exact PySem.W.kia_one PySem.W.kitx_int I.Jy True.intro (hk "int" (by simp)) (fun z=>nomatch z) fun tk=>m.HL (I.tok tk) rs (r_.bl _ _ _ _) rfl
 |str i=>
  cases rx.Nj;obtain⟨t,rfl⟩:=rv;exact PySem.W.kia_one PySem.W.kitx_str I.Jy True.intro (hk "str" (by simp)) (fun z=>nomatch z) fun tk=>m.HL (I.tok tk) rs (r_.bl _ _ _ _) rfl
 |tup xs=>
  obtain⟨a,vs,rfl,hq,FK⟩:=rx.IC;cases rv;obtain⟨w_,r,⟨o,h1,h2,_⟩,hz⟩:=I.tuple hq;exact PySem.W.kia_one PySem.W.kitx_tuple I.Jy ⟨o,h1,h2⟩ (hk "tuple" (by simp)) (fun z=>nomatch z) fun tk=>m.HL (I.tok tk) rs (r_.bl _ _ _ _) rfl
 |Gp xs=>
  obtain⟨a,vs,rfl,hq,FK⟩:=rx.KZ;cases rv;obtain⟨w_,r,pl,hz⟩:=I.list hq.sq;obtain⟨o,h1,h2,_⟩:=pl.isList;exact PySem.W.kia_one PySem.W.kitx_list I.Jy ⟨o,h1,h2⟩ (hk "list" (by simp)) (fun z=>nomatch z) fun tk=>m.HL (I.tok tk) rs (r_.bl _ _ _ _) rfl
 |ob n=>
  obtain⟨a,rfl,hn⟩:=rx.Im;cases rv;simp only[Qw] at m;obtain⟨c,hc,rc⟩:=rs.JB hn;rw[hc] at m;cases c with
  |lst xs=>
   obtain⟨vs,hv,FK⟩:=rc;obtain⟨w_,r,pl,hz⟩:=I.list (G7.of hv);obtain⟨o,h1,h2,_⟩:=pl.isList;exact PySem.W.kia_one PySem.W.kitx_list I.Jy ⟨o,h1,h2⟩ (hk "list" (by simp)) (fun z=>nomatch z) fun tk=>m.HL (I.tok tk) rs (r_.bl _ _ _ _) rfl
  |GW kvs=>
   obtain⟨ws,hv,_⟩:=rc;obtain⟨_,_,vs,_,p⟩:=(show FT X.prog X.w H s.heap a (.dK ws) from I.Fn a _ hv);obtain⟨o,es,ep,h1,h2,_⟩:=p;exact PySem.W.kia_one PySem.W.kitx_dict I.Jy ⟨o,h1,h2.1⟩ (hk "dict" (by simp)) (fun z=>nomatch z) fun tk=>m.HL (I.tok tk) rs (r_.bl _ _ _ _) rfl
  |ins C ns ds=>exact m.elim
 |xn c=>exact m.elim
def Ls(T:String)(fe:s_->M D):s_->M D:=fun r=>(fe r).bind (N5 T)
variable{e:Expr}{fe:s_->M D}{pos:Pos}
theorem jF{x:Str}{T:String}{p p2:Pos}(he:FR X e fe)(hg:Gl X "isinstance")(hm:X.mg "isinstance"=none)(YC:Gl X x)(YD:X.mg x=none)(TM:bootBuiltins x=some (.type T))(hk:uI X.K T)
  (hs:starEach [e,.Name x p2] X.env=[(false,eval e X.env),(false,eval (.Name x p2) X.env)]:=by rfl) (KO:starEach [.Name x p2] X.env=[(false,eval (.Name x p2) X.env)]:=by rfl) (hn:x≠"__name__":=by decide) (hd:(x == ("__debug__":Str))=false:=by decide) :
  FR X (.Call (.Name "isinstance" p) [e,.Name x p2] [] pos) (Ls T fe):=by
 intro pins s σ H J r S Q E I m;refine wpAny_Call_Name_kw (kH I.inv hg hm boot_isinstance ?_);refine PyProof.Rows.callWith_builtin1 ?_ (by rw[hs,KO]) (by rw[KO];rfl);rw[hs];show wpAny _ _ (spliced ((false,eval e X.env) :: backTo pos [(false,eval (.Name x p2) X.env)])) _ _ s;refine Calls.spliced_cons (he pins s σ H J r S _ E I ?_);unfold Ls M.bind at m;cases e1:fe r S with
 |bad=>rw[e1] at m;exact m
 |exc c S1=>rw[e1] at m;exact m
 |ok d S1=>
  rw[e1] at m;dsimp only at m;rintro v s1 ⟨vx,H1,I1,r1,J1,ex,rs,rv⟩;show wpAny _ _ (spliced ((false,eval (.Name x p2) X.env) :: backTo pos [])) _ _ s1;refine Calls.spliced_cons (kH I1 YC YD TM ?_ hn hd);exact Calls.spliced_nil (zZ hk I1 rs rv r1 (Mt.ext ex m))
end
end DL
namespace DL
open PySem PySem.Spec PyProof.Rows L2
open AutoSeq1 (wpAny_loadPart')
section
variable{prog:Program}{w:World}{A:Around}{E:Value->Shared->Prop}{s:Shared}
theorem wa{it t:Addr}{i:Nat}{items:Array Value}{x:Value}{Q:Value->Shared->Prop}(hi:s.heap.IsTupleIter it t i)(ht:s.heap.IsTuple t items)(hx:items[i]?=some x)
  (hQ:∀h',h'.IsTupleIter it t (i+1)->Heap.SameBut it s.heap h'->Q x { s with heap:=h' }):wpAny (model prog w) A (Builtin.SmallTypes.nextOf (.ref it)) Q E s:=by
 obtain⟨oi,O_,WG,Ou⟩:=id hi;obtain⟨ot,TN,_,nt,TQ⟩:=ht;unfold Builtin.SmallTypes.nextOf;refine wpAny_bind (wpAny_callSpecial?_slot (name:=Str.ofString "__next__") hi.typeIs slot_tupleiter_next
  (wpAny_call_entry slot_tupleiter_next hi.typeIs entry_tupleiter_next ?_ (args_tupleiter_next _)))
 show wpAny _ _ (field (.ref it) 0 >>= _) _ _ s;refine wpAny_bind (wpAny_field O_ Ou (x:=.ref t) rfl ?_);show wpAny _ _ (if (Value.ref t == Value.none)=true then _ else _) _ _ s;rw[if_neg (show ¬((Value.ref t == Value.none)=true) from Bool.false_ne_true)];show wpAny _ _ (field (.ref it) 1 >>= _) _ _ s;refine wpAny_bind (wpAny_field O_ Ou (x:=.int i 0) rfl ?_);show wpAny _ _ (seqItems? (.ref t) >>= _) _ _ s;refine wpAny_bind (wpAny_seqItems TN TQ ?_);simp only[Int.toNat_natCast,hx];refine wpAny_bind (wpAny_setField O_ Ou (by simp) (wpAny_pure ⟨x,rfl,wpAny_pure (hQ _ ?_ (Heap.SameBut.update ..))⟩));exact⟨_,Heap.get?_update_self _ O_ (Obj.isFreed_of_fields (Obj.data_mapFields Ou _)),(Obj.cls_mapFields ..).trans WG,by
  rw[Obj.data_mapFields Ou];simp[rawInt]⟩
theorem kI{it t:Addr}{i:Nat}{items:Array Value}{Q:Value->Shared->Prop}(hh:A.handled=none)(hi:s.heap.IsTupleIter it t i)(ht:s.heap.IsTuple t items)(hx:items[i]?=none)
  (hE:∀h' e,Heap.ExtBut it s.heap h'->(∃o,h'.get? e=some o/\o.cls=.type "StopIteration")->E (.ref e) { s with heap:=h' }):wpAny (model prog w) A (Builtin.SmallTypes.nextOf (.ref it)) Q E s:=by
 obtain⟨oi,O_,WG,Ou⟩:=id hi;obtain⟨ot,TN,_,nt,TQ⟩:=ht;unfold Builtin.SmallTypes.nextOf;refine wpAny_bind (wpAny_callSpecial?_slot (name:=Str.ofString "__next__") hi.typeIs slot_tupleiter_next
  (wpAny_call_entry slot_tupleiter_next hi.typeIs entry_tupleiter_next ?_ (args_tupleiter_next _)))
 show wpAny _ _ (field (.ref it) 0 >>= _) _ _ s;refine wpAny_bind (wpAny_field O_ Ou (x:=.ref t) rfl ?_);show wpAny _ _ (if (Value.ref t == Value.none)=true then _ else _) _ _ s;rw[if_neg (show ¬((Value.ref t == Value.none)=true) from Bool.false_ne_true)];show wpAny _ _ (field (.ref it) 1 >>= _) _ _ s;refine wpAny_bind (wpAny_field O_ Ou (x:=.int i 0) rfl ?_);show wpAny _ _ (seqItems? (.ref t) >>= _) _ _ s;refine wpAny_bind (wpAny_seqItems TN TQ ?_);simp only[Int.toNat_natCast,hx];refine wpAny_bind (wpAny_rule (wpAny_bind (wpAny_setField O_ Ou (by simp) ?_)));show wpAny _ _ (newExc (.type "StopIteration") [] >>= _) _ _ _;refine wpAny_bind ?_;simp only[newExc,newTuple];refine wpAny_bind (wpAny_newObj_type ?_ (by size_fits));refine wpAny_bind (m:=firstArgMember _ _) (wpAny_of_eq (a:=Value.none) (by first|rfl|(simp only[firstArgMember];rfl)) ?_);refine wpAny_newObj_type ?_ (by size_fits);simp only[raiseNew];refine wpAny_bind (wpAny_handled ?_)
 first|rw[show A.in1.handled=none from hh]|rw[hh]
 refine wpAny_bind (wpAny_pure (wpAny_throw ?_));exact hE _ _ (((Heap.SameBut.update ..).extBut.push _).push _) ⟨_,Heap.get?_push_size _ rfl,rfl⟩
end
theorem yb{prog:Program}{w:World}{A:Around}(hh:A.handled=none)(it t:Addr)(N6:t≠it)(items:Array Value) :
  Draws prog w A it [it,t] items.size (fun i v=>items[i]?=some v) (fun i h=>h.IsTupleIter it t i/\h.IsTuple t items) where
 live:=fun _ _ st=>let ⟨o,ho,_⟩:=st.1;⟨o,ho⟩
 frame:=fun _ _ _ st hk=>⟨st.1.at fun o e=>hk it (by simp) o e,let ⟨o,ho,q⟩:=st.2;⟨o,hk t (by simp) o ho,q⟩⟩
 item:=fun i s Q E hi st hQ=>by
  refine wa st.1 st.2 (x:=items[i]) (by simp[hi]) fun h' TR Nm=>?_
  obtain⟨o,ho,q⟩:=st.2;exact hQ _ h' s.toks (by simp[hi]) ⟨TR,⟨o,Nm.extBut t o N6 ho,q⟩⟩ Nm
 done:=fun s Q E st hE=>kI hh st.1 st.2 (by simp) hE
theorem p0{prog:Program}{w:World}{A:Around}{it:Addr}{fp:List Addr}{n:Nat}{P:Nat->Value->Prop}{St:Nat->Heap->Prop}(D:Draws prog w A it fp n P St)(c:Nat) :
  Draws prog w A it fp (n+c) (fun i v=>c<=i/\P (i-c) v) (fun i h=>c<=i/\St (i-c) h) where
 live:=fun i h st=>D.live _ h st.2
 frame:=fun i h h' st hk=>⟨st.1,D.frame _ h h' st.2 hk⟩
 item:=fun i s Q E hi st hQ=>D.item (i-c) s Q E (by have:=st.1;omega) st.2 fun x h' tk hp hs hb=>hQ x h' tk ⟨st.1,hp⟩ ⟨by have:=st.1;omega,by rw[show i+1-c=i-c+1 by have:=st.1;omega];exact hs⟩ hb
 done:=fun s Q E st hE=>D.done s Q E (by have:=st.2;rw[show n+c-c=n by omega] at this;exact this) hE
theorem pK(l:Addr)(items:Array Value)(n:Nat)(PQ:Option Addr)(sl:Array (Option Value)) :
  Meets (Builtin.«enumerate.__new__» ⟨[.type "enumerate",.ref l],[]⟩) (fun _ R s=>s.heap.get? l=some { cls:=.type "tuple",dict:=PQ,data:=.seq items n,slots:=sl }/\
   R (.ok (.ret (.ref (s.heap.push { cls:=.type "tuple_iterator",data:=.fields #[.ref l,.int 0 0] }).objs.size)))
    { s with heap:=(s.heap.push { cls:=.type "tuple_iterator",data:=.fields #[.ref l,.int 0 0] }).push { cls:=.type "enumerate",data:=.fields #[.none,.bool false,.ref s.heap.objs.size,rawInt 0,.none,.none] } }):=
 .of_wp fun prog w A R s h=>by
  obtain⟨hp,g,d,tk,os⟩:=s;obtain⟨hl,h⟩:=h;have Rg:=sub_enumerate;have hT:Heap.IsTuple (Shared.heap ⟨hp,g,d,tk,os⟩) l items:=⟨_,hl,rfl,n,rfl⟩
  wp_walk using wpAny_loadPart' hl
  refine wpAny_stack_any fun st=>wpAny_pure ?_
  split
  ·rename_i c _ _ _ _ _;cases(c == Value.type "enumerate")
   ·wp_walk using wpAny_loadPart' hl,wpAny_pyIter_tuple hT
    exact⟨_,rfl,h⟩
   ·wp_walk using wpAny_loadPart' hl,wpAny_pyIter_tuple hT
    exact⟨_,rfl,h⟩
  ·wp_walk using wpAny_loadPart' hl,wpAny_pyIter_tuple hT
   exact⟨_,rfl,h⟩
end DL
namespace DL
open PySem PySem.Spec PyProof.Rows L2
theorem G6.other{P:Program}{w:World}{H:Hp}{h h':Heap}{ch:List Addr}(x:G6 P w H h)(hn:∀b∈ch,H b=none)(k:∀b u,b∉ch->h.get? b=some u->h'.get? b=some u):G6 P w H h':=fun a o e=>
 (x a o e).Jd (fun b u hb q=>k b u (fun hm=>by
  rcases hb with rfl|hb
  ·rw[hn b hm] at e;cases e
  ·rw[hn b hm] at hb;cases hb) q) (fun _ q=>q) fun _ _ q=>q
theorem G6.add{P:Program}{w:World}{H:Hp}{h:Heap}{p:Addr}{o:HO}(x:G6 P w H h)(hp:H p=none)(new:FT P w (upd H p o) h p o):G6 P w (upd H p o) h:=fun a u e=>by
 by_cases ha:a=p
 ·subst ha;rw[bD] at e;cases e;exact new
 ·rw[bi ha] at e;exact(x a u e).Jd (fun _ _ _ q=>q) (fun b q=>by rw[bi (ba q hp)];exact q) fun b xs q=>by rw[bi (ba q hp)];exact q
theorem Inv.ME{X:Cx}{pins:Fe}{σ:L2.St}{H:Hp}{s:Shared}{ch:List Addr}{h':Heap}{tk:Nat}{p:Addr}{o:HO}(I:Inv X pins σ H s)(hf:∀b∈ch,Jq X pins H b)(k:∀b u,b∉ch->s.heap.get? b=some u->h'.get? b=some u)
  (hp:s.heap.objs.size<=p) (new:FT X.prog X.w (upd H p o) h' p o):Inv X pins σ (upd H p o) { s with heap:=h',toks:=tk }:=by
 have Sf:H p=none:=I.Fn.fresh hp;have HA:∀{b:Addr}{u:Obj},s.heap.get? b=some u->b≠p:=fun e=>Nat.ne_of_lt (Nat.lt_of_lt_of_le (Heap.lt_size e) hp)
 refine I.O2 (ch:=ch) rfl ⟨?_,?_,?_,?_,?_,?_,?_⟩ (G6.add (G6.other I.Fn (fun b hb=>(hf b hb).1) k) Sf new) I.bare fun b hb=>?_
 ·exact fun b u q _ _ hx=>k b u hx q
 ·exact fun b u q _ _ hx=>⟨u.slots,by rw[k b u hx q]⟩
 ·exact fun b u q n hx=>by rw[bi (HA q)];exact n
 ·exact fun b u q hx=>⟨u,k b u hx q⟩
 ·exact fun b xs q=>by rw[bi (ba q Sf)];exact q
 ·exact fun b ob u q=>by rw[bi (ba q Sf)];exact q
 ·exact fun b ps q=>⟨#[],by rw[bi (ba q Sf)];simpa using q⟩
 ·obtain⟨_,f1,_,f3,f4,f5⟩:=hf b hb;exact⟨f3,f1,f4,f5⟩
theorem jM{prog:Program}{w:World}{A:Around}{E:Value->Shared->Prop}{s:Shared}{e it a:Addr}{i:Nat}{c:Int}{old:Value}{items:Array Value}{Q:Option Value->Shared->Prop}(hh:A.handled=none)(he:IsEnum s.heap e it c old)(hit:s.heap.IsTupleIter it a i)
  (ot:s.heap.IsTuple a items) (ha:a≠it) (hx:items.size<=i) (hQ:∀h',Heap.ExtBut it s.heap h'->Q none { s with heap:=h' }):wpAny (model prog w) A (pyNext (.ref e)) Q E s:=by
 have hT:s.TypeIs (.ref e) "enumerate":=⟨_,he,rfl⟩;unfold pyNext;refine wpAny_bind (wpAny_attempt (wpAny_callSpecial?_slot (name:=Str.ofString "__next__") hT F.slot_enumerate_next
  (wpAny_call_entry F.slot_enumerate_next hT F.entry_enumerate_next ?_ (F.args_enumerate_next_1 _))))
 show wpAny _ _ (field (.ref e) 2 >>= _) _ _ _;refine wpAny_bind (wpAny_field he rfl (x:=.ref it) rfl ?_);refine wpAny_bind (kI hh hit ot (by simpa using hx) fun h' x MF TU=>?_);obtain⟨o,ho,hc⟩:=TU;refine wpAny_bind (wpAny_isInstance (T:="StopIteration") (b:=true) ⟨o,ho,hc⟩ isSubtype_stop ?_);exact wpAny_pure (hQ _ MF)
def DS(K:PySem.W.Frag)(a:Addr)(c:Nat):It:=
 ⟨fun i H=>∃vs x,HH K H a vs/\vs[i]?=some x,fun i H x H'=>∃p v,H p=none/\H'=upd H p (.tup [.int ((c+i:Nat):Int),v])/\x=.ref p/\∀vs,HH K H a vs->vs[i]?=some v,fun i H=>∃vs,HH K H a vs/\vs.length<=i⟩
theorem pZ{P:Program}{w:World}{K:PySem.W.Frag}{elts:List Expr}{k1:Nat}{pos:Pos}(a it e:Addr)(c:Nat)(PR:e≠it) :
  Turn P w K (.Tuple elts k1 pos) (DS K a c) [e,it] e (fun i h=>(∃old,IsEnum h e it ((c+i:Nat):Int) old)/\h.IsTupleIter it a i) where
 mem:=by simp
 obj:=fun i h st b hb=>by
  obtain⟨⟨old,he⟩,hit⟩:=st;simp at hb;rcases hb with rfl|rfl
  ·exact⟨_,he,fun v z=>by
    have z':Data.fields _=Data.cell v:=z;cases z'⟩
  ·obtain⟨o,ho,hc,hd⟩:=hit;exact⟨o,ho,fun v z=>by rw[hd] at z;cases z⟩
 keep:=fun i h h' st k=>by
  obtain⟨⟨old,he⟩,hit⟩:=st;exact⟨⟨old,k e (by simp) _ he⟩,hit.at fun o ho=>k it (by simp) o ho⟩
 item:=by
  intro X hP hw hK hc i pins s σ H E I hf st hg;subst hP hw hK;obtain⟨⟨old,he⟩,hit⟩:=st;obtain⟨vs,x,hq,hx⟩:=hg;obtain⟨w_,rv,pl,hz⟩:=I.tuple hq;have ot:s.heap.IsTuple a w_.toArray:=pl;have PS:a≠it:=by
   rintro rfl;obtain⟨o1,h1,h2,_⟩:=ot;obtain⟨o2,h3,h4,_⟩:=hit;rw[h1] at h3;cases h3;rw[h2] at h4;exact absurd h4 (by simp)
  have TV:e≠a:=by
   rintro rfl;obtain⟨o1,h1,h2,_⟩:=ot;rw[he] at h1;cases h1;exact absurd h2 (by simp)
  have hlen:=rv.length;have PD:i<w_.length:=by
   have:=(List.getElem?_eq_some_iff.mp hx).1;omega
  have Dw:=p0 (yb (prog:=X.prog) (w:=X.w) (A:=X.A.in1) (I.ok.hd hc) it a PS w_.toArray) c;refine wpAny_pyNext_enum_itemD Dw (i:=c+i) he ⟨Nat.le_add_right _ _,by rw[show c+i-c=i by omega];exact⟨hit,ot⟩⟩ (by simp;omega) PR (by simp;exact⟨PR,TV⟩) fun y h1 tk hP PU He hT hsz hk=>?_
  obtain⟨_,hP⟩:=hP;rw[show c+i-c=i by omega] at hP;have hy:w_[i]?=some y:=by simpa using hP
  obtain⟨_,He⟩:=He;rw[show c+i+1-c=i+1 by omega] at He;refine⟨_,rfl,?_⟩;refine wpAny_letOwnedTupleGo_enum PU fun h2 Qx KO=>?_
  obtain⟨u,hu,ru⟩:=rv.get hx;rw[hy] at hu;cases hu;have N7:H s.heap.objs.size=none:=I.Fn.fresh (Nat.le_refl _);have TX:e≠s.heap.objs.size:=Nat.ne_of_lt (Heap.lt_size he);have Nn:∀b u,b∉[e,it]->s.heap.get? b=some u->h2.get? b=some u:=fun b u hb q=>by
   simp at hb;exact KO.extBut b u hb.1 (hk b u hb.1 hb.2 q)
  have Mb:h2.get? s.heap.objs.size=some { cls:=.type "tuple",data:=.seq #[.int ((c+i:Nat):Int) tk,y] }:=KO.extBut _ _ (Ne.symm TX) hT;refine⟨.ref s.heap.objs.size,upd H s.heap.objs.size (.tup [.int ((c+i:Nat):Int),x]),Inv.ME (s:=s) (h':=h2) (tk:=tk+1) I hf Nn (Nat.le_refl _) ⟨by show 2<=sizeLine;decide,[.int ((c+i:Nat):Int) tk,y],.cons ⟨_,rfl⟩ (.cons ru .nil),_,Mb,rfl,_,rfl⟩,rfl,
   ⟨s.heap.objs.size,x,N7,rfl,rfl,fun ws hw=>by rw[I.KN hw hq];exact hx⟩,⟨⟨y,?_⟩,?_⟩,?_⟩
  ·rw[show((c+(i+1):Nat):Int)=((c+i:Nat):Int)+1 by push_cast;omega];exact Qx
  ·exact He.1.extBut KO.extBut (Ne.symm PR)
  ·intro b hb;obtain⟨f0,_⟩:=hf b hb;have:∃o,s.heap.get? b=some o:=by
    simp at hb;rcases hb with rfl|rfl
    ·exact⟨_,he⟩
    ·obtain⟨o,ho,_⟩:=hit;exact⟨o,ho⟩
   obtain⟨o,ho⟩:=this;rw[bi (Nat.ne_of_lt (Heap.lt_size ho))];exact f0
 done:=by
  intro X hP hw hK hc i pins s σ H E I hf st hg;subst hP hw hK;obtain⟨⟨old,he⟩,hit⟩:=st;obtain⟨vs,hq,hx⟩:=hg;obtain⟨w_,rv,pl,hz⟩:=I.tuple hq;have ot:s.heap.IsTuple a w_.toArray:=pl;have PS:a≠it:=by
   rintro rfl;obtain⟨o1,h1,h2,_⟩:=ot;obtain⟨o2,h3,h4,_⟩:=hit;rw[h1] at h3;cases h3;rw[h2] at h4;exact absurd h4 (by simp)
  have hlen:=rv.length;obtain⟨f0,f1,f2,f3,f4,f5⟩:=hf it (by simp);refine jM (I.ok.hd hc) he hit ot PS (by simp;omega) fun h' eb=>⟨rfl,I.turned (t':=s.toks) (fun b o hb e=>eb b o hb e) f0 f1 f3 f4 f5⟩
 self:=fun A i s Q E st h=>by
  obtain⟨⟨old,he⟩,hit⟩:=st;exact wpAny_pyIter_enum he h
theorem Hf.Pa{K:PySem.W.Frag}{H:Hp}{J:List Addr}{a:Addr}{c:Nat}{xs:List D}{g:Option (Nat×List D)}(Fn:∀(H1:Hp) (J1:List Addr) (S:List Cell),Ext H J H1 J1->Fg K H1 J1 S->IX g S->∃vs,HH K H1 a vs/\j_ K H1 J1 xs vs) :
  Hf K (DS K a c) ⟨xs.zipIdx.map fun p=>.tup [.int ((c+p.2:Nat):Int),p.1],g⟩ H J:=by
 intro H1 J1 S x rs gk;obtain⟨vs,hq,FK⟩:=Fn H1 J1 S x rs gk;have hl:=FK.length;have hlen:(xs.zipIdx.map fun(p:D×Nat)=>D.tup [.int ((c+p.2:Nat):Int),p.1]).length=xs.length:=by simp
 refine⟨fun i hi=>⟨vs,vs[i]'(by rw[hl];simpa using hi),hq,by simp⟩,⟨vs,hq,by rw[hl];simp⟩,?_⟩;rintro i y H' ⟨p,v,hp,rfl,rfl,hv⟩ d hd;have J_:(xs.zipIdx.map fun(p:D×Nat)=>D.tup [.int ((c+p.2:Nat):Int),p.1])[i]?=some d:=hd;rw[List.getElem?_map,List.getElem?_zipIdx] at J_;cases e:xs[i]? with
 |none=>rw[e] at J_;cases J_
 |some z=>
  rw[e] at J_;simp only[Option.map_some,Option.some.injEq,Nat.zero_add] at J_;subst J_;obtain⟨v',h1,h2⟩:=FK.get e;have:=hv vs hq;rw[h1] at this;cases this;obtain⟨J',x',MT,TY⟩:=Got.tup (p:=p) rs (j_.cons (r_.int K H1 J1 ((c+i:Nat):Int)) (.one h2)) hp;exact⟨J',x',MT,TY⟩
theorem jx{prog:Program}{w:World}{A:Around}{E:Value->Shared->Prop}{s:Shared}{e it a:Addr}{i:Nat}{c:Int}{old:Value}{items:Array Value}{Q:Option Value->Shared->Prop}(hh:A.handled=none)(he:IsEnum s.heap e it c old)(hit:s.heap.IsListIter it a i)
  (ot:s.heap.IsList a items) (ha:a≠it) (hx:items.size<=i) (hQ:∀h',Heap.ExtBut it s.heap h'->Q none { s with heap:=h' }):wpAny (model prog w) A (pyNext (.ref e)) Q E s:=by
 have hT:s.TypeIs (.ref e) "enumerate":=⟨_,he,rfl⟩;unfold pyNext;refine wpAny_bind (wpAny_attempt (wpAny_callSpecial?_slot (name:=Str.ofString "__next__") hT F.slot_enumerate_next
  (wpAny_call_entry F.slot_enumerate_next hT F.entry_enumerate_next ?_ (F.args_enumerate_next_1 _))))
 show wpAny _ _ (field (.ref e) 2 >>= _) _ _ _;refine wpAny_bind (wpAny_field he rfl (x:=.ref it) rfl ?_);refine wpAny_bind (wpAny_nextOf_list_end hh hit ot (by simpa using hx) fun h' x MF TU=>?_);obtain⟨o,ho,hc⟩:=TU;refine wpAny_bind (wpAny_isInstance (T:="StopIteration") (b:=true) ⟨o,ho,hc⟩ isSubtype_stop ?_);exact wpAny_pure (hQ _ MF)
def DO(K:PySem.W.Frag)(a:Addr)(c:Nat):It:=
 ⟨fun i H=>∃vs x,G7 K H a vs/\vs[i]?=some x,fun i H x H'=>∃p v,H p=none/\H'=upd H p (.tup [.int ((c+i:Nat):Int),v])/\x=.ref p/\∀vs,G7 K H a vs->vs[i]?=some v,fun i H=>∃vs,G7 K H a vs/\vs.length<=i⟩
theorem wq{P:Program}{w:World}{K:PySem.W.Frag}{elts:List Expr}{k1:Nat}{pos:Pos}(a it e:Addr)(c:Nat)(PR:e≠it) :
  Turn P w K (.Tuple elts k1 pos) (DO K a c) [e,it] e (fun i h=>(∃old,IsEnum h e it ((c+i:Nat):Int) old)/\h.IsListIter it a i) where
 mem:=by simp
 obj:=fun i h st b hb=>by
  obtain⟨⟨old,he⟩,hit⟩:=st;simp at hb;rcases hb with rfl|rfl
  ·exact⟨_,he,fun v z=>by
    have z':Data.fields _=Data.cell v:=z;cases z'⟩
  ·obtain⟨o,ho,hc,hd⟩:=hit;exact⟨o,ho,fun v z=>by rw[hd] at z;cases z⟩
 keep:=fun i h h' st k=>by
  obtain⟨⟨old,he⟩,hit⟩:=st;exact⟨⟨old,k e (by simp) _ he⟩,hit.at fun o ho=>k it (by simp) o ho⟩
 item:=by
  intro X hP hw hK hc i pins s σ H E I hf st hg;subst hP hw hK;obtain⟨⟨old,he⟩,hit⟩:=st;obtain⟨vs,x,hq,hx⟩:=hg;obtain⟨w_,rv,pl,hz⟩:=I.list hq;have ot:s.heap.IsList a w_.toArray:=pl.isList;have PS:a≠it:=by
   rintro rfl;obtain⟨o1,h1,h2,_⟩:=ot;obtain⟨o2,h3,h4,_⟩:=hit;rw[h1] at h3;cases h3;rw[h2] at h4;exact absurd h4 (by simp)
  have TV:e≠a:=by
   rintro rfl;obtain⟨o1,h1,h2,_⟩:=ot;rw[he] at h1;cases h1;exact absurd h2 (by simp)
  have hlen:=rv.length;have PD:i<w_.length:=by
   have:=(List.getElem?_eq_some_iff.mp hx).1;omega
  have Dw:=p0 (Draws.list (prog:=X.prog) (w:=X.w) (A:=X.A.in1) (I.ok.hd hc) it a PS w_.toArray) c;refine wpAny_pyNext_enum_itemD Dw (i:=c+i) he ⟨Nat.le_add_right _ _,by rw[show c+i-c=i by omega];exact⟨hit,ot⟩⟩ (by simp;omega) PR (by simp;exact⟨PR,TV⟩) fun y h1 tk hP PU He hT hsz hk=>?_
  obtain⟨_,hP⟩:=hP;rw[show c+i-c=i by omega] at hP;have hy:w_[i]?=some y:=by simpa using hP
  obtain⟨_,He⟩:=He;rw[show c+i+1-c=i+1 by omega] at He;refine⟨_,rfl,?_⟩;refine wpAny_letOwnedTupleGo_enum PU fun h2 Qx KO=>?_
  obtain⟨u,hu,ru⟩:=rv.get hx;rw[hy] at hu;cases hu;have N7:H s.heap.objs.size=none:=I.Fn.fresh (Nat.le_refl _);have TX:e≠s.heap.objs.size:=Nat.ne_of_lt (Heap.lt_size he);have Nn:∀b u,b∉[e,it]->s.heap.get? b=some u->h2.get? b=some u:=fun b u hb q=>by
   simp at hb;exact KO.extBut b u hb.1 (hk b u hb.1 hb.2 q)
  have Mb:h2.get? s.heap.objs.size=some { cls:=.type "tuple",data:=.seq #[.int ((c+i:Nat):Int) tk,y] }:=KO.extBut _ _ (Ne.symm TX) hT;refine⟨.ref s.heap.objs.size,upd H s.heap.objs.size (.tup [.int ((c+i:Nat):Int),x]),Inv.ME (s:=s) (h':=h2) (tk:=tk+1) I hf Nn (Nat.le_refl _) ⟨by show 2<=sizeLine;decide,[.int ((c+i:Nat):Int) tk,y],.cons ⟨_,rfl⟩ (.cons ru .nil),_,Mb,rfl,_,rfl⟩,rfl,
   ⟨s.heap.objs.size,x,N7,rfl,rfl,fun ws hw=>by rw[I.Ly hw hq];exact hx⟩,⟨⟨y,?_⟩,?_⟩,?_⟩
  ·rw[show((c+(i+1):Nat):Int)=((c+i:Nat):Int)+1 by push_cast;omega];exact Qx
  ·exact He.1.extBut KO.extBut (Ne.symm PR)
  ·intro b hb;obtain⟨f0,_⟩:=hf b hb;have:∃o,s.heap.get? b=some o:=by
    simp at hb;rcases hb with rfl|rfl
    ·exact⟨_,he⟩
    ·obtain⟨o,ho,_⟩:=hit;exact⟨o,ho⟩
   obtain⟨o,ho⟩:=this;rw[bi (Nat.ne_of_lt (Heap.lt_size ho))];exact f0
 done:=by
  intro X hP hw hK hc i pins s σ H E I hf st hg;subst hP hw hK;obtain⟨⟨old,he⟩,hit⟩:=st;obtain⟨vs,hq,hx⟩:=hg;obtain⟨w_,rv,pl,hz⟩:=I.list hq;have ot:s.heap.IsList a w_.toArray:=pl.isList;have PS:a≠it:=by
   rintro rfl;obtain⟨o1,h1,h2,_⟩:=ot;obtain⟨o2,h3,h4,_⟩:=hit;rw[h1] at h3;cases h3;rw[h2] at h4;exact absurd h4 (by simp)
  have hlen:=rv.length;obtain⟨f0,f1,f2,f3,f4,f5⟩:=hf it (by simp);refine jx (I.ok.hd hc) he hit ot PS (by simp;omega) fun h' eb=>⟨rfl,I.turned (t':=s.toks) (fun b o hb e=>eb b o hb e) f0 f1 f3 f4 f5⟩
 self:=fun A i s Q E st h=>by
  obtain⟨⟨old,he⟩,hit⟩:=st;exact wpAny_pyIter_enum he h
theorem Hf.Rh{K:PySem.W.Frag}{H:Hp}{J:List Addr}{a:Addr}{c:Nat}{xs:List D}{g:Option (Nat×List D)}(Fn:∀(H1:Hp) (J1:List Addr) (S:List Cell),Ext H J H1 J1->Fg K H1 J1 S->IX g S->∃vs,G7 K H1 a vs/\j_ K H1 J1 xs vs) :
  Hf K (DO K a c) ⟨xs.zipIdx.map fun p=>.tup [.int ((c+p.2:Nat):Int),p.1],g⟩ H J:=by
 intro H1 J1 S x rs gk;obtain⟨vs,hq,FK⟩:=Fn H1 J1 S x rs gk;have hl:=FK.length;have hlen:(xs.zipIdx.map fun(p:D×Nat)=>D.tup [.int ((c+p.2:Nat):Int),p.1]).length=xs.length:=by simp
 refine⟨fun i hi=>⟨vs,vs[i]'(by rw[hl];simpa using hi),hq,by simp⟩,⟨vs,hq,by rw[hl];simp⟩,?_⟩;rintro i y H' ⟨p,v,hp,rfl,rfl,hv⟩ d hd;have J_:(xs.zipIdx.map fun(p:D×Nat)=>D.tup [.int ((c+p.2:Nat):Int),p.1])[i]?=some d:=hd;rw[List.getElem?_map,List.getElem?_zipIdx] at J_;cases e:xs[i]? with
 |none=>rw[e] at J_;cases J_
 |some z=>
  rw[e] at J_;simp only[Option.map_some,Option.some.injEq,Nat.zero_add] at J_;subst J_;obtain⟨v',h1,h2⟩:=FK.get e;have:=hv vs hq;rw[h1] at this;cases this;obtain⟨J',x',MT,TY⟩:=Got.tup (p:=p) rs (j_.cons (r_.int K H1 J1 ((c+i:Nat):Int)) (.one h2)) hp;exact⟨J',x',MT,TY⟩
end DL
namespace DL
open PySem PySem.Spec PyProof.Rows L2
section
variable{prog:Program}{w:World}{A:Around}{E:Value->Shared->Prop}{s:Shared}
theorem rC{l:Addr}{items:Array Value}{Q:Value->Shared->Prop}(hL:s.heap.IsTuple l items)
  (h:∀h',IsEnum h' (s.heap.objs.size+1) s.heap.objs.size 0 .none->h'.IsTupleIter s.heap.objs.size l 0->(∀b o,s.heap.get? b=some o->h'.get? b=some o)->Q (.ref (s.heap.objs.size+1)) { s with heap:=h' }) :
  wpAny (model prog w) A (call (.type "enumerate") [.ref l]) Q E s:=by
 obtain⟨⟨c,PQ,dt,sl⟩,hl,hc,n,hd⟩:=hL;simp only at hc hd;subst hc hd;refine callType_new F.called_enumerate (by decide) (F.typeCall_enumerate_1 _) (F.newCall_enumerate_1 _) (fun obj=>F.args_object_init_2 obj _) F.entry_enumerate_new (pK l items n PQ sl) ⟨hl,?_⟩;have hz:(s.heap.push { cls:=.type "tuple_iterator",data:=.fields #[.ref l,.int 0 0] }).objs.size=s.heap.objs.size+1:=Heap.size_push ..;show _/\_;rw[hz];have he:IsEnum ((s.heap.push { cls:=.type "tuple_iterator",data:=.fields #[.ref l,.int 0 0] }).push { cls:=.type "enumerate",data:=.fields #[.none,.bool false,.ref s.heap.objs.size,rawInt 0,.none,.none] }) (s.heap.objs.size+1) s.heap.objs.size 0 .none:=by
  have q:=Heap.get?_push_size (s.heap.push { cls:=.type "tuple_iterator",data:=.fields #[.ref l,.int 0 0] }) (o:={ cls:=.type "enumerate",data:=.fields #[.none,.bool false,.ref s.heap.objs.size,rawInt 0,.none,.none] }) rfl;rw[hz] at q;exact q
 exact⟨⟨_,he,rfl⟩,h _ he ⟨_,Heap.get?_push_of_some _ (Heap.get?_push_size _ rfl),rfl,rfl⟩ fun b o x=>Heap.get?_push_of_some _ (Heap.get?_push_of_some _ x)⟩
end
def iV(c:Nat)(xs:List D):List D:=xs.zipIdx.map fun p=>.tup [.int ((c+p.2:Nat):Int),p.1]
def xL(c:Nat):D->M Wk
 |.tup xs=>M.ret ⟨iV c xs,none⟩
 |.ob n=>fun S=>match cz S n with
  |some xs=>.ok ⟨iV c xs,some (n,xs)⟩ S
  |none=>.bad
 |_=>M.bad
def wU(c:Nat)(fe:s_->M D):s_->M Wk:=fun r=>(fe r).bind (xL c)
section
variable{X:Cx}{e:Expr}{fe:s_->M D}{pos:Pos}{elts:List Expr}{k1:Nat}{Jz:Pos}
theorem tG{pins:Fe}{σ:L2.St}{H:Hp}{s:Shared}(I:Inv X pins σ H s):∀b∈[s.heap.objs.size+1,s.heap.objs.size],Jq X pins H b:=fun b hb=>by
 simp at hb;rcases hb with rfl|rfl
 ·exact I.MN (Nat.le_succ _) (I.Fn.fresh (Nat.le_succ _))
 ·exact I.MN (Nat.le_refl _) (I.Fn.fresh (Nat.le_refl _))
theorem y8{p:Pos}(hg:Gl X "enumerate")(hm:X.mg "enumerate"=none)(he:FR X e fe)(hs:starEach [e] X.env=[(false,eval e X.env)]:=by rfl):PId X (.Tuple elts k1 Jz) (.Call (.Name "enumerate" p) [e] [] pos) (wU 0 fe):=by
 intro pins s σ H J r S Q E I m;have m':MC X pins σ H J (.Tuple elts k1 Jz) ((ac fe ai r).bind (sP (xL 0)) S) Q E:=by
  unfold wU M.bind at m;unfold ac ai M.bind M.ret;cases e1:fe r S<;>(rw[e1] at m;exact m)
 refine Call_ (kH I.inv hg hm boot_enumerate (PyProof.Rows.callWith_type1 (Sa (af he ah (by rw[hs];rfl)) I m' (fun xs S1 s1 H1 J1 vs us I1 rv r1 m1=>?_) pos) hs rfl))
 match xs,m1,rv with
 |[],m1,rv=>exact m1.elim
 |_ :: _ :: _,m1,rv=>exact m1.elim
 |[x],m1,rv=>
  obtain⟨v,rfl,h1⟩:=rv.ID;obtain⟨u,rfl,ru⟩:=Vals.one r1
  change MC X pins σ H1 J1 (.Tuple elts k1 Jz) (xL 0 x S1) Q E at m1
  cases x with
  |tup ys=>
   obtain⟨a,ws,rfl,hq,FK⟩:=h1.IC;cases ru;obtain⟨w_,rl,pl,hz⟩:=I1.inv.tuple hq;refine rC pl fun h' MF LJ hk'=>wpAny_pyIter_enum MF ?_
   refine m1 _ _ ⟨s1.heap.objs.size+1,[s1.heap.objs.size+1,s1.heap.objs.size],_,_,H1,rfl,I1.inv.kept (t':=s1.toks) hk',pZ a s1.heap.objs.size (s1.heap.objs.size+1) 0 (Nat.succ_ne_self _),⟨⟨_,MF⟩,LJ⟩,tG I1.inv,J1,Ext.refl _ _,I1.st,trivial,?_⟩;exact Hf.Pa fun H2 J2 S2 x2 IA _=>⟨ws,HH.ext x2 hq,FK.ext x2⟩
  |ob n=>
   obtain⟨a,rfl,hn⟩:=h1.Im;cases ru;simp only[xL] at m1;cases e1:cz S1 n with
   |none=>rw[e1] at m1;exact m1.elim
   |some ys=>
    rw[e1] at m1;obtain⟨ws,hv,FK⟩:=I1.st.lst e1 hn;obtain⟨w_,rl,pl,hz⟩:=I1.inv.list (G7.of hv);refine call_enumerate_list pl.isList fun h' MF LJ Qy hk'=>wpAny_pyIter_enum MF ?_
    refine m1 _ _ ⟨s1.heap.objs.size+1,[s1.heap.objs.size+1,s1.heap.objs.size],_,_,H1,rfl,I1.inv.kept (t':=s1.toks) hk',wq a s1.heap.objs.size (s1.heap.objs.size+1) 0 (Nat.succ_ne_self _),⟨⟨_,MF⟩,LJ⟩,tG I1.inv,J1,Ext.refl _ _,I1.st,qC e1,?_⟩;refine Hf.Rh fun H2 J2 S2 x2 IA gk=>?_
    have Qk:J2[n]?=some a:=by
     obtain⟨m,em⟩:=x2.pre;rw[em,List.getElem?_append_left (List.getElem?_eq_some_iff.mp hn).1];exact hn
    obtain⟨YE,h2,KY⟩:=IA.at_ n _ a gk Qk;exact⟨YE,G7.of h2,KY⟩
  |_=>exact m1.elim
def PV(X:Cx)(id:String)(g:D->List D->M D):Prop:=∀(pins:Fe) (s:Shared) (σ:L2.St) (H:Hp) (J:List Addr) (S:List Cell) (x:D) (xs:List D) (vx:V) (vs:List V) (v:Value) (us:List Value) (Q E:Value->Shared->Prop),
 Inv X pins σ H s->Fg X.K H J S->r_ X.K H J x vx->j_ X.K H J xs vs->RelV vx v->Vals vs us->Mt X pins σ H J (g x xs S) Q E->wpAny (model X.prog X.w) X.A (call (.builtin id) (v :: us)) Q E s
theorem CU{es:List Expr}{ft:s_->M (List D)}(h:Lq X es ft){k:List D->M D}{pins:Fe}{s:Shared}{σ:L2.St}{H:Hp}{J:List Addr}{r:s_}{S:List Cell}{Q E:Value->Shared->Prop}{Q':List Value->Shared->Prop}(I:At X pins σ H J r S s)
  (m:Mt X pins σ H J ((ft r).bind k S) Q E) (hk:∀xs S1 s1 H1 J1 vs us,At X pins σ H1 J1 r S1 s1->Ext H J H1 J1->j_ X.K H1 J1 xs vs->Vals vs us->Mt X pins σ H1 J1 (k xs S1) Q E->Q' us s1) (pos:Pos) :
  wpAny (model X.prog X.w) X.A (spliced (backTo pos (starEach es X.env))) Q' E s:=by
 refine h pos pins s σ H J r S _ E I ?_;unfold M.bind at m;cases e1:ft r S with
 |bad=>rw[e1] at m;exact m
 |exc c S1=>rw[e1] at m;exact m
 |ok x S1=>
  rw[e1] at m;intro us s1 ⟨vs,H1,I1,r1,J1,HJ,Ic,Hn⟩;exact hk x S1 s1 H1 J1 vs us ⟨I1,I.loc.ext HJ,Ic⟩ HJ Hn r1 (Mt.ext HJ m)
def BO(x:D):M Unit:=fun S=>match x with
 |.ob n=>(match cz S n with
  |some _=>.ok () S
  |none=>.bad)
 |_=>.bad
def IY(g:D->List D->M D)(fo:s_->M D)(ft:s_->M (List D)):s_->M D:=fun r=>(fo r).bind fun x=>(BO x).bind fun _=>(ft r).bind fun xs=>g x xs
theorem eh{o:Expr}{es:List Expr}{fo:s_->M D}{ft:s_->M (List D)}{name:Str}{apos Gb:Pos}{id:String}{g:D->List D->M D}(slot:Slot "list" name id)(TZ:typeOf (.builtin id)=pure (.type "method_descriptor"))(hm:PV X id g)
  (ho:FR X o fo) (ha:Lq X (e :: es) ft)
  (JD:attributeBase o name X.env (eval o X.env)=eval o X.env:=by rfl)
  (Mc:((backTo Gb (starEach (e :: es) X.env)).all (fun x=>!x.1) && (backToKw Gb (keywordEach [] X.env)).all (fun x=>x.1.isSome)
   && decide ((e :: es).length+([]:List Keyword).length+(if ([]:List Keyword).isEmpty then 0 else 1)<30))=true:=by rfl)
  (JE:(apos.endLine == Gb.line)=true:=by rfl) (hs:starEach (e :: es) X.env=(false,eval e X.env) :: starEach es X.env:=by rfl) (JF:(backTo Gb (starEach es X.env)).any (·.1)=false:=by rfl) :
  FR X (.Call (.Attribute o name apos) (e :: es) [] Gb) (IY g fo ft):=by
 intro pins s σ H J r S Q E I m;refine wpAny_Call_method_late JD Mc JE rfl (ho pins s σ H J r S _ E I ?_);unfold IY M.bind at m;cases e1:fo r S with
 |bad=>rw[e1] at m;exact m
 |exc c S1=>rw[e1] at m;exact m
 |ok x S1=>
  rw[e1] at m;dsimp only at m;rintro v s1 ⟨vx,H1,I1,r1,J1,HJ,Ic,Hn⟩;cases x with
  |ob n=>
   obtain⟨a,rfl,hn⟩:=Hn.Im;simp only[BO] at m;cases e2:cz S1 n with
   |none=>rw[e2] at m;exact m.elim
   |some xs=>
    rw[e2] at m;obtain⟨ws,hv,FK⟩:=Ic.lst e2 hn;obtain⟨h1,h2⟩:=CL I1 r1 (T:="list") (.inl ⟨rfl,ws,G7.of hv⟩);refine⟨"list",id,PySem.F.plainAttrs_list,slot,TZ,h1,h2,?_⟩;have m:=Mt.ext HJ m;have hA:=CU (k:=fun xs=>g (.ob n) xs) (Q':=fun us s2=>wpAny (model X.prog X.w) X.A (call (.builtin id) (v :: us)) Q E s2) ha ⟨I1,I.loc.ext HJ,Ic⟩ m (fun xs S2 s2 H2 J2 vs us I2 x2 rv r2 m2=>?_) Gb
    ·rw[hs] at hA ⊢;exact Calls.callWith_builtin (by show(false || (backTo Gb (starEach es X.env)).any (·.1))=false;rw[JF]<;>rfl) (Calls.evalArgs_plain hA)
    ·exact hm pins s2 σ H2 J2 S2 (.ob n) xs (.ref a) vs v us Q E I2.inv I2.st (Hn.ext x2) rv r1 r2 m2
  |_=>exact m.elim
def j4:D->List D->M D
 |.ob n,[y]=>fun S=>match cz S n with
  |some xs=>Hq (xs.length<sizeLine) (.ok .D_ (S.set n (.lst (xs++[y])))) .bad
  |none=>.bad
 |_,_=>M.bad
theorem dA:PV X "list.append" j4:=by
 intro pins s σ H J S x xs vx vs v us Q E I rs rx K2 rv FK m
 match x,xs,m,rx,K2 with
 |.ob n,[y],m,rx,K2=>
  obtain⟨a,rfl,hn⟩:=rx.Im;obtain⟨w,rfl,IJ⟩:=K2.ID;simp only[j4,Hq] at m;cases e1:cz S n with
  |none=>rw[e1] at m;exact m.elim
  |some xs=>
   rw[e1] at m;dsimp only at m;obtain⟨ws,hv,rws⟩:=rs.lst e1 hn;split at m
   ·rename_i hz;refine wpAny_mono (sk (X:=X.Fz E) pins s σ H (.ref a) [w] v us (Got X.K H J .D_ (S.set n (.lst (xs++[y])))) (I.Fz E) rv FK ⟨a,ws,w,rfl,rfl,hv,by rw[rws.length];exact hz,?_⟩) (fun u s' q=>m u s' (EP.Fx q)) fun _ _ z=>z
    have x9:Ext H J (upd H a (.lst (ws++[w]))) J:=Ext.write hv rfl;exact⟨J,x9,rs.write hn ⟨_,bD,(rws.ext x9).append (.one (IJ.ext x9))⟩,r_.D_ _ _ _⟩
   ·exact m.elim
 |.ob n,[],m,_,_=>exact m.elim
 |.ob n,_ :: _ :: _,m,_,_=>exact m.elim
 |.D_,xs,m,_,_=>cases xs<;>exact m.elim
 |.bl _,xs,m,_,_=>cases xs<;>exact m.elim
 |.int _,xs,m,_,_=>cases xs<;>exact m.elim
 |.str _,xs,m,_,_=>cases xs<;>exact m.elim
 |.tup _,xs,m,_,_=>cases xs<;>exact m.elim
 |.Gp _,xs,m,_,_=>cases xs<;>exact m.elim
 |.xn _,xs,m,_,_=>cases xs<;>exact m.elim
end
end DL
namespace DL
open PySem PySem.Spec PyProof.Rows L2
structure Hs(P:Program)(w:World)(K:PySem.W.Frag)(mg:Str->Option Value)(base:Heap)(CX:Je)(x:Str)(k:Nat)(ps:List Str)(F:List D->M D):Prop where
 ex:∃f fd,mg x=some (.ref f)/\PySem.W.keepIn K (.ref f)=true/\Binds K fd ps []/\Gm P w K mg base CX k f fd ps F
theorem aP{X:Cx}{CX:Je}{k:Nat}{ps:List Str}{F:List D->M D}{x:Str}{p pos:Pos}{e:Expr}{es:List Expr}{ft:s_->M (List D)}(h:Hs X.prog X.w X.K X.mg X.base CX x k ps F)(hr:Gy k X.A)(hg:Gl X x)(hx:oG CX X)(ha:Lq X (e :: es) ft)
  (hl:∀r S xs S',ft r S=.ok xs S'->xs.length=ps.length)
  (MP:(x == ("__debug__":Str))=false:=by decide) (he:starEach (e :: es) X.env=(false,eval e X.env) :: starEach es X.env:=by rfl) (LB:(backTo pos (starEach es X.env)).any (·.1)=false:=by rfl) :
  FR X (.Call (.Name x p) (e :: es) [] pos) (am F ft):=by
 obtain⟨f,fd,hm,hk,hb,hF⟩:=h.ex;exact BG hF hr hg hm hk hb hx ha hl MP he LB
theorem aE:∀(r:s_) (S:List Cell) (xs:List D) (S':List Cell),ai r S=.ok xs S'->xs.length=0:=by
 intro r S xs S' e;cases e;rfl
theorem ak{n:Nat}{f:s_->M D}{g:s_->M (List D)}(h:∀(r:s_) (S:List Cell) (xs:List D) (S':List Cell),g r S=.ok xs S'->xs.length=n):∀(r:s_) (S:List Cell) (xs:List D) (S':List Cell),ac f g r S=.ok xs S'->xs.length=n+1:=by
 intro r S xs S' e;unfold ac M.bind at e;cases e1:f r S with
 |bad=>rw[e1] at e;cases e
 |exc c S1=>rw[e1] at e;cases e
 |ok x S1=>
  rw[e1] at e;dsimp only at e;cases e2:g r S1 with
  |bad=>rw[e2] at e;cases e
  |exc c S1=>rw[e2] at e;cases e
  |ok ys S2=>
   rw[e2] at e;have e':R.ok (x :: ys) S2=R.ok xs S':=e
   injection e' with e3 e4
   rw[<-e3,List.length_cons,h r S1 ys S2 e2]
def fin(S0:List Cell):L0->R D
 |some (.rt d,S')=>.ok d S'
 |some (.nx _,S')=>.ok .D_ S'
 |some (.xc c _,S')=>.exc c S'
 |_=>.bad
theorem mH{S0:List Cell}{x:L0}:CH S0 x (fin S0 x):=by
 match x with
 |none=>trivial
 |some (.rt d,S')=>exact⟨[],.inl rfl,.inl (by rw[List.append_nil])⟩
 |some (.nx r,S')=>exact⟨[],.inl rfl,.inr ⟨rfl,r,by rw[List.append_nil]⟩⟩
 |some (.xc c r,S')=>exact⟨r,rfl⟩
 |some (.bk r,S')=>trivial
 |some (.ct r,S')=>trivial
open Classical in
def cI(S0:List Cell):L0->R D
 |some (.rt d,S')=>if (∃G,S'=S0++G)/\GQ S0.length d then .ok d S0 else .bad
 |some (.nx _,S')=>if ∃G,S'=S0++G then .ok .D_ S0 else .bad
 |some (.xc c _,S')=>.exc c S'
 |_=>.bad
theorem yH{S0:List Cell}{x:L0}:CH S0 x (cI S0 x):=by
 match x with
 |none=>trivial
 |some (.rt d,S')=>
  simp only[cI];by_cases h:(∃G,S'=S0++G)/\GQ S0.length d
  ·rw[if_pos h];obtain⟨⟨G,rfl⟩,hd⟩:=h;exact⟨G,.inr ⟨Nat.le_refl _,hd,.inl rfl⟩,.inl rfl⟩
  ·rw[if_neg h];trivial
 |some (.nx r,S')=>
  simp only[cI];by_cases h:∃G,S'=S0++G
  ·rw[if_pos h];obtain⟨G,rfl⟩:=h;exact⟨G,.inr ⟨Nat.le_refl _,by unfold GQ;trivial,.inl rfl⟩,.inr ⟨rfl,r,rfl⟩⟩
  ·rw[if_neg h];trivial
 |some (.xc c r,S')=>exact⟨r,rfl⟩
 |some (.bk r,S')=>trivial
 |some (.ct r,S')=>trivial
def gy:s_->M Bool:=fun _=>M.ret true
def HQ:D->D->M D:=tL fun i j=>decide (i<j)
def JY:D->D->M D:=tL fun i j=>decide (i<=j)
def MG:D->D->M D:=tL fun i j=>decide (j<i)
def IZ:D->D->M D:=tL fun i j=>decide (j<=i)
def CJ:List D->M D:=uB fun i j=>if j > i then j else i
def xY:List D->M D:=uB fun i j=>if j<i then j else i
def Qz(g:D->M D)(fa:s_->M D):s_->M D:=fun r=>(fa r).bind g
theorem DX{X:Cx}{a:Expr}{fa:s_->M D}{pos:Pos}{op:UnaryOp}{g:D->M D}(ho:Q4 X (unaryOp op) g)(ha:FR X a fa):FR X (.UnaryOp op a pos) (Qz g fa):=by
 intro pins s σ H J r S Q E I m;refine UnaryOp_ (ha pins s σ H J r S _ E I ?_);unfold Qz M.bind at m;cases e1:fa r S with
 |bad=>rw[e1] at m;exact m
 |exc c S1=>rw[e1] at m;exact m
 |ok x S1=>
  rw[e1] at m;rintro v s1 ⟨vx,H1,I1,r1,J1,ex,rs,rv⟩;exact ho pins s1 σ H1 J1 S1 x vx v Q E I1 rs rv r1 (Mt.ext ex m)
def B9:D->M D
 |.int i=>M.ret (.int (-i))
 |_=>M.bad
theorem CV{X:Cx}:Q4 X (unaryOp .USub) B9:=by
 refine Q4.of (fun E=>CY) (fun H J S x vx d S' rs rx e=>?_) (fun x S c S' e=>?_)
 ·cases x with
  |int i=>
   cases rx.Gu;cases e;exact⟨i,rfl,J,Ext.refl _ _,rs,r_.int _ _ _ _⟩
  |_=>cases e
 ·cases x with
  |int i=>cases e
  |_=>cases e
def tF(x:D):M Bool:=fun S=>match x with
 |.D_=>.ok false S
 |.bl b=>.ok b S
 |.int i=>.ok (i != 0) S
 |.tup xs=>.ok (!xs.isEmpty) S
 |.Gp xs=>.ok (!xs.isEmpty) S
 |.ob n=>(match S[n]? with
  |some (.lst xs)=>.ok (!xs.isEmpty) S
  |some (.GW kvs)=>.ok (!kvs.isEmpty) S
  |_=>.bad)
 |_=>.bad
def bR(f:s_->M D):s_->M Bool:=fun r=>(f r).bind tF
theorem j_.isEmpty{K:PySem.W.Frag}{H:Hp}{J:List Addr}{xs:List D}{vs:List V}(h:j_ K H J xs vs):vs.isEmpty=xs.isEmpty:=by
 have:=h.length;cases xs with
 |nil=>cases vs with
  |nil=>rfl
  |cons _ _=>cases this
 |cons _ _=>cases vs with
  |nil=>cases this
  |cons _ _=>rfl
theorem Fb.isEmpty{κ:Type}{K:PySem.W.Frag}{H:Hp}{J:List Addr}{xs:List (κ×D)}{vs:List (κ×V)}(h:Fb K H J xs vs):vs.isEmpty=xs.isEmpty:=by
 have:=h.length;cases xs with
 |nil=>cases vs with
  |nil=>rfl
  |cons _ _=>cases this
 |cons _ _=>cases vs with
  |nil=>cases this
  |cons _ _=>rfl
theorem cR{X:Cx}{a:Expr}{fa:s_->M D}(ha:FR X a fa)(he:∀whole,isTrue a X.env whole=(do let v <-whole;standAt a.pos;holding [v] (truthy v)):=by intro _;rfl):MB X a (bR fa):=by
 intro pins s σ H J r S Q E I m;refine isTrue_plain (ha pins s σ H J r S _ E I ?_) (he _);unfold bR M.bind at m;cases e1:fa r S with
 |bad=>rw[e1] at m;exact m
 |exc c S1=>rw[e1] at m;exact m
 |ok x S1=>
  rw[e1] at m;rintro v s1 ⟨vx,H1,I1,r1,J1,ex,rs,rv⟩;have fin:∀k,D8 X.K vx H1 k->tF x S1=.ok k S1->wpAny (model X.prog X.w) X.A (truthy v) Q E s1:=fun k ht hk=>by
   dsimp only at m;rw[hk] at m;exact wpAny_mono (Dg (X:=X.Fz E) pins s1 σ H1 vx v (fun b H'=>b=k/\H'=H1) (I1.Fz E) r1 ⟨k,ht,rfl,rfl⟩) (fun b s2 ⟨H2,I2,hb,hH⟩=>by subst hb hH;exact m s2 ⟨_,I2.Fx,J1,ex,rs⟩) fun _ _ z=>z
  cases x with
  |D_=>cases rv.LH;exact fin false rfl rfl
  |bl b=>cases rv.N4;exact fin b rfl rfl
  |int i=>cases rv.Gu;exact fin _ rfl rfl
  |tup xs=>
   obtain⟨a,vs,rfl,hq,FK⟩:=rv.IC;exact fin _ (.inr (.inl ⟨vs,hq,by rw[FK.isEmpty]⟩)) rfl
  |Gp xs=>
   obtain⟨a,vs,rfl,hq,FK⟩:=rv.KZ;exact fin _ (.inl ⟨vs,hq.sq,by rw[FK.isEmpty]⟩) rfl
  |ob n=>
   obtain⟨a,rfl,hn⟩:=rv.Im;obtain⟨c,hc,rc⟩:=rs.JB hn;cases c with
   |lst xs=>
    obtain⟨vs,hv,FK⟩:=rc;exact fin (!xs.isEmpty) (.inl ⟨vs,G7.of hv,by rw[FK.isEmpty]⟩) (by simp only[tF,hc])
   |GW xs=>
    obtain⟨vs,hv,FK⟩:=rc;exact fin (!xs.isEmpty) (.inr (.inr ⟨vs,hv,by rw[FK.isEmpty]⟩)) (by simp only[tF,hc])
   |ins C ns ds=>
    dsimp only[tF] at m;rw[hc] at m;exact m.elim
  |_=>exact m.elim
def IE(X:Cx):List (Str×Addr)->Prop
 |[]=>True
 |p :: r=>X.env.cells.lookup p.1=some p.2/\IE X r
theorem IE.all{X:Cx}:∀{cl:List (Str×Addr)},IE X cl->∀p∈cl,X.env.cells.lookup p.1=some p.2
 |[],_,p,hp=>by cases hp
 |q :: r,h,p,hp=>by
  rcases List.mem_cons.mp hp with rfl|hp
  ·exact h.1
  ·exact IE.all h.2 p hp
def xM(K:PySem.W.Frag):Sp:=fun vs H Q _=>∃(a:Addr) (ns:List Int),vs=[.ref a]/\G7 K H a (ns.map V.int)/\ns.length<=63/\BH H/\∀H',Q (.bl true) H'
theorem zd{K:PySem.W.Frag}{F:List D->M D}(hF:∀ns:List Int,ns.length<=63->∃S',F [.Gp (ns.map D.int)] []=.ok (.bl true) S'):∀vs H Q E,xM K vs H Q E->WB K 1 F vs H Q E:=by
 rintro vs H Q E ⟨a,ns,rfl,hS,hl,ho,k⟩;refine⟨rfl,[],[.Gp (ns.map D.int)],[],?_,⟨rfl,List.nodup_nil,fun n c a h=>by simp at h⟩,?_⟩
 ·refine .one ?_;unfold r_;refine⟨a,ns.map V.int,rfl,?_,j_.ints ns⟩;rcases hS with (h|⟨o,h⟩)|h
  ·rcases ho a with e|⟨o,xs,e⟩
   ·rw[h] at e;cases e
   ·rw[h] at e;cases e
  ·exact .inl ⟨o,h⟩
  ·exact .inr h
 ·obtain⟨S',e⟩:=hF ns hl;rw[e];rintro v H' ⟨J',_,_,rv⟩;rw[rv.N4];exact k H'
end DL
namespace DL
open PySem PySem.Spec PyProof.Rows L2
@[simp] theorem D3{α:Type}{a b:α}:Hq True a b=a:=bW trivial
@[simp] theorem DK{α:Type}{a b:α}:Hq False a b=b:=uf (fun h=>h)
theorem dO{g:Option (Nat×List D)}{tg:Kd}{b:Fw}(Iv:Nat->s_->List Cell->Prop):∀(items:List D) (k:Nat) (r:s_) (S:List Cell),
  (∀i x r S,items[i]?=some x->Iv (k+i) r S->∃r1 r2 S2,tg x r=some r1/\b r1 S=some (.nx r2,S2)/\IX g S2/\Iv (k+i+1) r2 S2)->Iv k r S->
  ∃r' S',ij g tg b items r S=some (.nx r',S')/\Iv (k+items.length) r' S'
 |[],k,r,S,_,h=>⟨r,S,rfl,by simpa using h⟩
 |x :: xs,k,r,S,hs,h=>by
  obtain⟨r1,r2,S2,h1,h2,h3,h4⟩:=hs 0 x r S rfl h;obtain⟨r',S',e1,e2⟩:=dO Iv xs (k+1) r2 S2 (fun i y r S hy hi=>by
   have:=hs (i+1) y r S (by simpa using hy) (by rw[show k+(i+1)=k+1+i by omega];exact hi);rw[show k+(i+1)+1=k+1+i+1 by omega] at this;exact this) h4
  refine⟨r',S',?_,by rw[List.length_cons,show k+(xs.length+1)=k+1+xs.length by omega];exact e2⟩;unfold ij;rw[h1];dsimp only;rw[h2];dsimp only;rw[if_pos h3];exact e1
theorem p5(S:List Cell)(n:Nat):∀is:List Int,JC S (n+1) (is.map D.int)=some (is.map PyData.int)
 |[]=>by simp[JC]
 |i :: is=>by simp[JC,pD,p5 S n is]
theorem pG(S:List Cell)(n:Nat)(is:List Int):pD S (n+2) (.tup (is.map D.int))=some (.tuple (is.map PyData.int)):=by
 simp[pD,p5]
theorem ou:∀is js:List Int,PyData.eqvAll (is.map PyData.int) (js.map PyData.int)=decide (is=js)
 |[],[]=>by simp[PyData.eqvAll]
 |[],_ :: _=>by simp[PyData.eqvAll]
 |_ :: _,[]=>by simp[PyData.eqvAll]
 |i :: is,j :: js=>by
  simp only[List.map_cons,PyData.eqvAll,PyData.eqv,ou is js,List.cons.injEq];by_cases h1:i=j<;>by_cases h2:is=js<;>simp[h1,h2]
theorem zq(S:List Cell)(is js:List Int):Hg (.tup (is.map D.int)) (.tup (js.map D.int)) S=.ok (.bl (!decide (is=js))) S:=by
 simp only[Hg,pG S 28,PyData.eqv,ou]
theorem BA(S:List Cell)(i j:Int):Fo (.int i) (.int j) S=.ok (.bl (decide (i=j))) S:=by
 have e:(i == j)=decide (i=j):=by
  by_cases h:i=j<;>simp[h]
 simp only[Fo,pD,PyData.eqv,e]
theorem BY(S:List Cell)(i j:Int):Hg (.int i) (.int j) S=.ok (.bl (!decide (i=j))) S:=by
 have e:(i == j)=decide (i=j):=by
  by_cases h:i=j<;>simp[h]
 simp only[Hg,pD,PyData.eqv,e]
theorem wH{S:List Cell}{n:Nat}(h:n<=1000000):uM 0 (n:Int) 1 S=.ok ⟨gW 0 1 n,none⟩ S:=by
 have hs:Builtin.Range.small 0 (n:Int) 1=true:=small_one (by omega) (by omega) (by omega) (by omega);unfold uM;have e:(if (0:Int)<(n:Int) then (n:Int)-0 else 0).toNat=n:=by split<;>omega
 rw[bW ⟨⟨by omega,by omega⟩,hs⟩,rangeSize_one,e]
theorem yF{xs:List D}{k:Nat}(h:k<=xs.length):fJ xs none (some (k:Int))=xs.take k:=by
 unfold fJ;rw[HT.IQ,HT.Hz,Nat.min_eq_left h];simp
theorem fR{xs:List D}{k:Nat}(h:k<=xs.length):fJ xs (some (k:Int)) none=xs.drop k:=by
 unfold fJ;rw[HT.IQ,HT.Hz,Nat.min_eq_left h];rw[List.take_of_length_le];simp
end DL
namespace DL
open PySem PySem.Spec PyProof.Rows L2
open AutoSeq1 (wpAny_loadPart')
open SeqAt
theorem jL{prog:Program}{w:World}{A:Around}{items:Array Value}{x:Value}{e:Value->Bool}{j:Nat}(hj:j<items.size)(hit:e items[j]=true)(Mx:∀m (hm:m<items.size),m<j->e items[m]=false){s:Shared}
  (he:∀y,y∈items->EqAt A s y x (e y)) {Q:Option PySem.Fin×PUnit->Shared->Prop}{E:Value->Shared->Prop}(hQ:Q (some (.done (.ret (.int j s.toks))),()) { s with toks:=s.toks+1 }):∀(k pre:Nat),pre+k=items.size->pre<=j->
  wpAny (model prog w) A (forIn (List.range' pre k) ((none,()):Option PySem.Fin×PUnit) fun(i:Nat) (_:Option PySem.Fin×PUnit)=>match items[i]? with
      |some y=>do
       let b <-eqBool y x
       if b=true then do
         let r <-retInt ((i:Nat):Int)
         pure (ForInStep.done (some r,()))
        else pure (ForInStep.yield (none,()))
      |_=>pure (ForInStep.yield (none,()))) Q E s
 |0,pre,h1,h2=>by omega
 |k+1,pre,h1,h2=>by
  rw[List.range'_succ,List.forIn_cons];have hp:pre<items.size:=by omega
  have hg:items[pre]?=some items[pre]:=by simp[hp]
  rw[hg];dsimp only;refine wpAny_bind (wpAny_bind (he _ (Array.getElem_mem hp) prog w E _ ?_));by_cases YF:pre=j
  ·subst YF;rw[hit,if_pos rfl];refine wpAny_bind (m:=retInt _) (wpAny_bind (wpAny_mkInt (wpAny_pure ?_)));exact wpAny_pure (wpAny_pure hQ)
  ·rw[Mx pre hp (by omega),if_neg (by decide)];exact wpAny_pure (jL hj hit Mx he hQ k (pre+1) (by omega) (by omega))
theorem mT(l:Addr)(items:Array Value)(n:Nat)(dd:Option Addr)(sl:Array (Option Value))(x:Value)(e:Value->Bool)(j:Nat)(hj:j<items.size)
  (hit:e items[j]=true) (Mx:∀m (hm:m<items.size),m<j->e items[m]=false) :
  Meets (Builtin.«tuple.index» ⟨[.ref l,x],[]⟩)
   (fun A R s=>s.heap.get? l=some { cls:=.type "tuple",dict:=dd,data:=.seq items n,slots:=sl }/\(∀y,y∈items->EqAt A.in1 s y x (e y))/\R (.ok (.ret (.int j s.toks))) { s with toks:=s.toks+1 }):=by
 refine .of_wp fun prog w A R s h=>?_
 obtain⟨hp,g,d,tk,os⟩:=s;obtain⟨hl,he,h⟩:=h;unfold Builtin.«tuple.index»;simp only[Std.Legacy.Range.forIn_eq_forIn_range']
 wp_walk using wpAny_loadPart' hl
 refine jL (s:=⟨hp,g,d,tk,os⟩) hj hit Mx he ?_ _ 0 ?_ (Nat.zero_le _)
 ·exact wpAny_pure ⟨_,rfl,h⟩
 ·simp[Std.Legacy.Range.size]
def fv:D->Option V
 |.D_=>some .D_
 |.bl b=>some (.bl b)
 |.int i=>some (.int i)
 |.str x=>some (.str x)
 |_=>none
def Ov:List D->Option (List V)
 |[]=>some []
 |x :: xs=>match fv x,Ov xs with
  |some v,some vs=>some (v :: vs)
  |_,_=>none
theorem vS{K:PySem.W.Frag}{H:Hp}{J:List Addr}{d:D}{v w:V}(h:fv d=some w)(r:r_ K H J d v):v=w/\jI w=true:=by
 cases d with
 |D_=>cases h;exact⟨r.LH,rfl⟩
 |bl b=>cases h;exact⟨r.N4,rfl⟩
 |int b=>cases h;exact⟨r.Gu,rfl⟩
 |str b=>cases h;exact⟨r.Nj,rfl⟩
 |_=>cases h
theorem tY{K:PySem.W.Frag}{H:Hp}{J:List Addr}:∀{xs:List D}{vs ws:List V},Ov xs=some ws->j_ K H J xs vs->vs=ws/\ws.all jI=true
 |[],vs,ws,h,r=>by
  cases h;unfold j_ at r;exact⟨r,rfl⟩
 |x :: xs,vs,ws,h,r=>by
  unfold j_ at r;obtain⟨v,t,rfl,r1,r2⟩:=r;unfold Ov at h;cases e1:fv x with
  |none=>rw[e1] at h;cases h
  |some w=>
   cases e2:Ov xs with
   |none=>rw[e1,e2] at h;cases h
   |some WH=>
    rw[e1,e2] at h;cases h;obtain⟨rfl,h1⟩:=vS e1 r1;obtain⟨rfl,h2⟩:=tY e2 r2;exact⟨rfl,by simp[h1,h2]⟩
def inD(x y:D):M D:=fun S=>match fv x,fM S y with
 |some w,some ys=>(match Ov ys with
  |some ws=>.ok (.bl (Jk w ws)) S
  |none=>.bad)
 |_,_=>.bad
section
variable{X:Cx}
theorem Ce(hu:X.A.units+64<cLine):IW X (compareOp .In) inD:=by
 intro pins s σ H J S x y vx vy v u Q E I rs rx ry rv ru m;unfold inD at m;cases e1:fv x with
 |none=>rw[e1] at m;exact m.elim
 |some w=>
  cases e2:fM S y with
  |none=>rw[e1,e2] at m;exact m.elim
  |some ys=>
   rw[e1,e2] at m;dsimp only at m;cases e3:Ov ys with
   |none=>rw[e3] at m;exact m.elim
   |some ws=>
    rw[e3] at m;obtain⟨rfl,h1⟩:=vS e1 rx;obtain⟨a,vs,rfl,hq,FK⟩:=ld rs ry e2;obtain⟨rfl,h2⟩:=tY e3 FK;exact wpAny_mono (yO (X:=X.Fz E) pins s σ H vx (.ref a) v u (Got X.K H J (.bl (Jk vx vs)) S) (I.Fz E) rv ru ⟨a,vs,rfl,hq,h1,h2,J,Ext.refl _ _,rs,r_.bl _ _ _ _⟩) (fun u s' q=>m u s' (EP.Fx q)) fun _ _ z=>z
def iZ:List D->Option (List Int)
 |[]=>some []
 |.int i :: xs=>(iZ xs).map (i :: ·)
 |_ :: _=>none
def oE:List D->Option (List Bool)
 |[]=>some []
 |.bl i :: xs=>(oE xs).map (i :: ·)
 |_ :: _=>none
theorem mi:∀{xs:List D}{is:List Int},iZ xs=some is->xs=is.map D.int
 |[],is,h=>by cases h;rfl
 |x :: xs,is,h=>by
  cases x with
  |int i=>
   simp only[iZ] at h;cases e:iZ xs with
   |none=>rw[e] at h;cases h
   |some js=>
    rw[e] at h;cases h;rw[mi e];rfl
  |_=>cases h
theorem rN:∀{xs:List D}{is:List Bool},oE xs=some is->xs=is.map D.bl
 |[],is,h=>by cases h;rfl
 |x :: xs,is,h=>by
  cases x with
  |bl i=>
   simp only[oE] at h;cases e:oE xs with
   |none=>rw[e] at h;cases h
   |some js=>
    rw[e] at h;cases h;rw[rN e];rfl
  |_=>cases h
theorem gx:∀is:List Int,iZ (is.map D.int)=some is
 |[]=>rfl
 |i :: is=>by simp[iZ,gx is]
theorem nA:∀is:List Bool,oE (is.map D.bl)=some is
 |[]=>rfl
 |i :: is=>by simp[oE,nA is]
def nz:List D->M D
 |[x]=>fun S=>match fM S x with
  |some xs=>(match iZ xs with
   |some is=>.ok (.int is.sum) S
   |none=>.bad)
  |none=>.bad
 |_=>M.bad
def sV:List D->M D
 |[x]=>fun S=>match fM S x with
  |some xs=>(match oE xs with
   |some is=>.ok (.bl (is.all id)) S
   |none=>.bad)
  |none=>.bad
 |_=>M.bad
theorem oa(is:List Int):∀n,n<=is.length->preSum (fun i=>is.getD i 0) n=(is.take n).sum
 |0,_=>by simp[preSum]
 |n+1,h=>by
  rw[preSum,oa is n (by omega),List.take_add_one,List.sum_append];have hg:is[n]?=some (is.getD n 0):=by simp[List.getD,List.getElem?_eq_getElem (show n<is.length by omega)]
  rw[hg];simp
theorem yy(is:List Bool):(List.range is.length).all (fun i=>is.getD i true)=is.all id:=by
 rw[Bool.eq_iff_iff,List.all_eq_true,List.all_eq_true];constructor
 ·intro h b hb;obtain⟨i,hi,rfl⟩:=List.mem_iff_getElem.mp hb;have:=h i (List.mem_range.mpr hi);simpa[List.getD,List.getElem?_eq_getElem hi] using this
 ·intro h i hi;have hi:=List.mem_range.mp hi;have:=h _ (List.getElem_mem hi);simpa[List.getD,List.getElem?_eq_getElem hi] using this
theorem mZ{α:Type}{f:α->D}{g:α->V}{K:PySem.W.Frag}{H:Hp}{J:List Addr}(WI:∀a v,r_ K H J (f a) v->v=g a):∀{as:List α}{vs:List V},j_ K H J (as.map f) vs->vs=as.map g
 |[],vs,h=>by unfold j_ at h;simpa using h
 |a :: as,vs,h=>by
  rw[List.map_cons] at h;unfold j_ at h;obtain⟨v,r,rfl,h1,h2⟩:=h;rw[WI a v h1,mZ WI h2];rfl
theorem vt{pins:Fe}{σ:L2.St}{H:Hp}{s:Shared}{a:Addr}{vs:List V}(hc:X.calm=true)(I:Inv X pins σ H s)(hq:G7 X.K H a vs\/HH X.K H a vs){Q E:Value->Shared->Prop}
  (h:∀(it:Addr) (fp:List Addr) (St:Nat->Heap->Prop) (w_:List Value) (s2:Shared),Vals vs w_->Walks X.prog X.w X.A.in1 it fp [it] w_.length (fun i v=>w_[i]?=some v) St->St 0 s2.heap->(∀b∈fp,b<s2.heap.objs.size)->s2.toks=s.toks->
   (∀h' tk,(∀b o,b∉[it]->s2.heap.get? b=some o->h'.get? b=some o)->Inv X pins σ H { s2 with heap:=h',toks:=tk })->Q (.ref it) s2):wpAny (model X.prog X.w) X.A.in1 (pyIter (.ref a)) Q E s:=by
 rcases hq with hq|hq
 ·obtain⟨w_,rl,pl,hz⟩:=I.list hq;have HA:a<s.heap.objs.size:=by
   obtain⟨o,ho,_⟩:=pl.isList;exact Heap.lt_size ho
  refine wpAny_pyIter_list pl.isList (h s.heap.objs.size [s.heap.objs.size,a] (fun i h=>h.IsListIter s.heap.objs.size a i/\h.IsList a w_.toArray) w_ _ rl (by simpa using Walks.list (prog:=X.prog) (w:=X.w) (A:=X.A.in1) (I.ok.hd hc) s.heap.objs.size a (Nat.ne_of_lt HA) w_.toArray) ⟨⟨_,Heap.get?_push_size _ rfl,rfl,rfl⟩,pl.isList.at fun o e=>Heap.get?_push_of_some _ e⟩ (fun b hb=>?_) rfl fun h' tk hk=>?_)
  ·simp at hb;rw[Heap.size_push];rcases hb with rfl|rfl
   ·exact Nat.lt_succ_self _
   ·exact Nat.lt_succ_of_lt HA
  ·exact I.kept fun b o e=>hk b o (by simp;exact Nat.ne_of_lt (Heap.lt_size e)) (Heap.get?_push_of_some _ e)
 ·obtain⟨w_,rl,pl,hz⟩:=I.tuple hq;have hT:s.heap.IsTuple a w_.toArray:=pl;have HA:a<s.heap.objs.size:=by
   obtain⟨o,ho,_⟩:=hT;exact Heap.lt_size ho
  refine wpAny_pyIter_tuple hT (h s.heap.objs.size [s.heap.objs.size,a] (fun i h=>h.IsTupleIter s.heap.objs.size a i/\h.IsTuple a w_.toArray) w_ _ rl (by simpa using Walks.tuple (prog:=X.prog) (w:=X.w) (A:=X.A.in1) (I.ok.hd hc) s.heap.objs.size a (Nat.ne_of_lt HA) w_.toArray) ⟨⟨_,Heap.get?_push_size _ rfl,rfl,rfl⟩,hT.at fun o e=>Heap.get?_push_of_some _ e⟩ (fun b hb=>?_) rfl fun h' tk hk=>?_)
  ·simp at hb;rw[Heap.size_push];rcases hb with rfl|rfl
   ·exact Nat.lt_succ_self _
   ·exact Nat.lt_succ_of_lt HA
  ·exact I.kept fun b o e=>hk b o (by simp;exact Nat.ne_of_lt (Heap.lt_size e)) (Heap.get?_push_of_some _ e)
theorem wd(hc:X.calm=true):GP X (.builtin "sum") nz:=by
 intro pins s σ H J S xs vs us Q E I rs rx rv m
 match xs,m,rx with
 |[],m,rx=>exact m.elim
 |_ :: _ :: _,m,rx=>exact m.elim
 |[x],m,rx=>
  obtain⟨v,rfl,h1⟩:=rx.ID;obtain⟨u,rfl,ru⟩:=Vals.one rv;simp only[nz] at m;cases e1:fM S x with
  |none=>rw[e1] at m;exact m.elim
  |some ys=>
   rw[e1] at m;dsimp only at m;cases e2:iZ ys with
   |none=>rw[e2] at m;exact m.elim
   |some is=>
    rw[e2] at m;cases mi e2;obtain⟨a,ws,rfl,hq,FK⟩:=ld rs h1 e1;cases ru;have ew:=mZ (g:=V.int) (fun i v h=>h.Gu) FK;subst ew;refine call_sum_walkG (vt hc I hq fun it fp St w_ s2 rl W st hf Wq hI=>?_);have hi:=wJ rl;have hlen:w_.length=is.length:=by have:=rl.length;simpa using this.symm
    refine⟨it,fp,[it],w_.length,_,St,(fun i=>is.getD i 0),rfl,W,st,hf,?_,?_⟩
    ·intro i v hv;obtain⟨x,hx,rx⟩:∃x,(is.map V.int)[i]?=some x/\RelV x v:=by
      have HA:=(List.getElem?_eq_some_iff.mp hv).1;obtain⟨u,hu,ru⟩:=Vals.get (x:=.int (is.getD i 0)) rl (i:=i) (by simp[List.getD,List.getElem?_eq_getElem (show i<is.length by omega)]);rw[hv] at hu;cases hu;exact⟨_,by simp[List.getD,List.getElem?_eq_getElem (show i<is.length by omega)],ru⟩
     rw[List.getElem?_map] at hx;cases e:is[i]? with
     |none=>rw[e] at hx;cases hx
     |some k=>
      rw[e] at hx;cases hx;obtain⟨t,rfl⟩:=rx;exact⟨t,by simp[List.getD,e]⟩
    ·intro h' tk t' hk;rw[hlen,oa is _ (Nat.le_refl _),List.take_length];exact m.HL (hI h' tk hk) rs (r_.int _ _ _ _) ⟨_,rfl⟩
theorem Ar(hc:X.calm=true):GP X (.builtin "all") sV:=by
 intro pins s σ H J S xs vs us Q E I rs rx rv m
 match xs,m,rx with
 |[],m,rx=>exact m.elim
 |_ :: _ :: _,m,rx=>exact m.elim
 |[x],m,rx=>
  obtain⟨v,rfl,h1⟩:=rx.ID;obtain⟨u,rfl,ru⟩:=Vals.one rv;simp only[sV] at m;cases e1:fM S x with
  |none=>rw[e1] at m;exact m.elim
  |some ys=>
   rw[e1] at m;dsimp only at m;cases e2:oE ys with
   |none=>rw[e2] at m;exact m.elim
   |some is=>
    rw[e2] at m;cases rN e2;obtain⟨a,ws,rfl,hq,FK⟩:=ld rs h1 e1;cases ru;have ew:=mZ (g:=V.bl) (fun i v h=>h.N4) FK;subst ew;refine call_all_walk (vt hc I hq fun it fp St w_ s2 rl W st hf Wq hI=>?_);have hlen:w_.length=is.length:=by have:=rl.length;simpa using this.symm
    refine⟨it,fp,[it],w_.length,_,St,(fun i=>is.getD i true),rfl,W,st,?_,?_⟩
    ·intro i v s Q E hv hQ;have HA:=(List.getElem?_eq_some_iff.mp hv).1;obtain⟨u,hu,ru⟩:=Vals.get (x:=.bl (is.getD i true)) rl (i:=i) (by simp[List.getD,List.getElem?_eq_getElem (show i<is.length by omega)]);rw[hv] at hu;cases hu;cases ru;exact wpAny_truthy_bool hQ
    ·intro h' tk hk;rw[hlen,yy];exact m.HL (hI h' tk hk) rs (r_.bl _ _ _ _) rfl
def qr(w:V):List V->Option Nat
 |[]=>none
 |y :: ys=>if M8 y w=true then some 0 else (qr w ys).map (·+1)
theorem xB{w:V}:∀{ys:List V}{j:Nat},qr w ys=some j->∃h:j<ys.length,M8 ys[j] w=true/\∀m (hm:m<ys.length),m<j->M8 ys[m] w=false
 |[],j,h=>by cases h
 |y :: ys,j,h=>by
  unfold qr at h;split at h
  ·rename_i e;cases h;exact⟨by simp,e,fun m hm h0=>absurd h0 (Nat.not_lt_zero _)⟩
  ·rename_i e;cases e2:qr w ys with
   |none=>rw[e2] at h;cases h
   |some k=>
    rw[e2] at h;cases h;obtain⟨h1,h2,h3⟩:=xB e2;refine⟨by simp;omega,by simpa using h2,fun m hm hk=>?_⟩;cases m with
    |zero=>simpa using e
    |succ m=>simpa using h3 m (by simpa using hm) (Nat.lt_of_succ_lt_succ hk)
def xR(ys:List D)(x:D):M D:=fun S=>match fv x,Ov ys with
 |some w,some ws=>(match qr w ws with
  |some j=>.ok (.int j) S
  |none=>.bad)
 |_,_=>.bad
theorem yK{A:Around}{s:Shared}{x:V}{v:Value}(rx:RelV x v)(fx:jI x=true){ws:List V}{w_:List Value}(rl:Vals ws w_)(hf:ws.all jI=true):∀y,y∈w_.toArray->SeqAt.EqAt A s y v (M9 x y):=fun y hy=>
 mQ rx fx rl hf y (by simpa using hy)
theorem xE{x:V}{ws:List V}{w_:List Value}(rl:Vals ws w_)(hf:ws.all jI=true){m:Nat}(h1:m<ws.length)(h2:m<w_.toArray.size):M9 x w_.toArray[m]=M8 ws[m] x:=by
 obtain⟨u,hu,ru⟩:=rl.get (i:=m) (x:=ws[m]) (by simp);have e:w_.toArray[m]=u:=by
  have h3:m<w_.length:=by simpa using h2
  rw[List.getElem?_eq_getElem h3] at hu;simpa using Option.some.inj hu
 rw[e];exact vP ru (List.all_eq_true.mp hf _ (List.getElem_mem h1))
theorem yI{pins:Fe}{s:Shared}{σ:L2.St}{H:Hp}{J:List Addr}{S:List Cell}{a:Addr}{ys:List D}{vs:List V}{x:D}{vx:V}{v:Value}{Q E:Value->Shared->Prop}(I:Inv X pins σ H s)(rs:Fg X.K H J S)(hq:HH X.K H a vs)(FK:j_ X.K H J ys vs)
  (rx:r_ X.K H J x vx) (rv:RelV vx v) (m:Mt X pins σ H J (xR ys x S) Q E):wpAny (model X.prog X.w) X.A (call (.builtin "tuple.index") [.ref a,v]) Q E s:=by
 unfold xR at m;cases e1:fv x with
 |none=>rw[e1] at m;exact m.elim
 |some w=>
  cases e2:Ov ys with
  |none=>rw[e1,e2] at m;exact m.elim
  |some ws=>
   rw[e1,e2] at m;dsimp only at m;cases e3:qr w ws with
   |none=>rw[e3] at m;exact m.elim
   |some j=>
    rw[e3] at m;obtain⟨rfl,h1⟩:=vS e1 rx;obtain⟨rfl,h2⟩:=tY e2 FK;obtain⟨hj,hit,Mx⟩:=xB e3;obtain⟨w_,rl,⟨o,ho,hc,n,hd⟩,hz⟩:=I.tuple hq;obtain⟨cls,dd,data,sl⟩:=o;simp only at hc hd;subst hc hd;have hl:=rl.length;refine call_meets PySem.F.slot_tuple_index ⟨_,ho,rfl⟩ PySem.F.entry_tuple_index (PySem.F.args_tuple_index_2 _ _)
     (mT a w_.toArray n dd sl v (M9 vx) j (by simp;omega) (by rw[xE rl h2 hj];exact hit) (fun m hm YG=>by rw[xE rl h2 (by omega)];exact Mx m (by omega) YG)) ⟨ho,yK rv h1 rl h2,?_⟩
    exact m.HL (I.tok _) rs (r_.int _ _ _ _) ⟨_,rfl⟩
structure Ow(K:PySem.W.Frag)(u:Value)(vs:List V):Prop where
 ex:∃(a:Addr) (o:Obj) (w_:Array Value) (n:Nat),u=.ref a/\K.lookup a=some o/\o.cls=.type "tuple"/\o.dict=none/\o.data=.seq w_ n/\w_.size<=sizeLine/\Vals vs w_.toList
theorem Ow.rep{K:PySem.W.Frag}{u:Value}{vs:List V}{ds:List D}(h:Ow K u vs)(hd:∀H J,j_ K H J ds vs):Jr K (.tup ds) u:=by
 obtain⟨a,o,w_,n,rfl,h1,h2,h3,h4,h5,h6⟩:=h.ex;exact fun H J=>⟨.ref a,rfl,.tup (.inr ⟨o,w_,n,h1,h2,h4,h5,h6⟩) (hd H J)⟩
def mM(k:D)(ft:s_->M (List D)):s_->M D:=fun r=>(ft r).bind fun xs=>match k,xs with
 |.tup ys,[x]=>xR ys x
 |_,_=>M.bad
theorem yd{x:Str}{e:Expr}{np apos Gb:Pos}{u:Value}{vs:List V}{ds:List D}{ft:s_->M (List D)}(hg:Gl X x)(hm:X.mg x=some u)(hk:Ow X.K u vs)(Pw:∀H J,j_ X.K H J ds vs)(ha:Lq X [e] ft)(hd:(x == ("__debug__":Str))=false:=by decide)
  (JD:attributeBase (.Name x np) "index" X.env (eval (.Name x np) X.env)=eval (.Name x np) X.env:=by rfl)
  (Mc:((backTo Gb (starEach [e] X.env)).all (fun x=>!x.1) && (backToKw Gb (keywordEach [] X.env)).all (fun x=>x.1.isSome)
   && decide ([e].length+([]:List Keyword).length+(if ([]:List Keyword).isEmpty then 0 else 1)<30))=true:=by rfl)
  (JE:(apos.endLine == Gb.line)=true:=by rfl) (hs:starEach [e] X.env=[(false,eval e X.env)]:=by rfl) :
  FR X (.Call (.Attribute (.Name x np) "index" apos) [e] [] Gb) (mM (.tup ds) ft):=by
 intro pins s σ H J r S Q E I m;obtain⟨a,o,w_,n,rfl,h1,h2,h3,h4,h5,h6⟩:=hk.ex;refine wpAny_Call_method_late JD Mc JE rfl (lf I.inv hg hm ?_ hd);have ho:=I.inv.Jy a o h1;refine⟨"tuple","tuple.index",PySem.F.plainAttrs_tuple,PySem.F.slot_tuple_index,PySem.F.type_tuple_index,⟨o,ho,h2⟩,fun b hb=>?_,?_⟩
 ·cases hb;exact⟨o,ho,h3⟩
 ·have hA:=CU (k:=fun xs=>match D.tup ds,xs with|.tup ys,[x]=>xR ys x|_,_=>M.bad) (Q':=fun us s2=>wpAny (model X.prog X.w) X.A (call (.builtin "tuple.index") (.ref a :: us)) Q E s2) ha I m (fun xs S2 s2 H2 J2 ws us I2 x2 rv r2 m2=>?_) Gb
  ·rw[hs] at hA ⊢;exact Calls.callWith_builtin rfl (Calls.evalArgs_plain hA)
  ·match xs,m2,rv with
   |[],m2,rv=>exact m2.elim
   |_ :: _ :: _,m2,rv=>exact m2.elim
   |[y],m2,rv=>
    obtain⟨w,rfl,hw⟩:=rv.ID;obtain⟨uu,rfl,ru⟩:=Vals.one r2;exact yI I2.inv I2.st (.inr ⟨o,w_,n,h1,h2,h4,h5,h6⟩) (Pw H2 J2) hw ru m2
end
end DL
namespace DL
open PySem PySem.Spec PyProof.Rows L2
theorem n4{f:Str}{v:V}:∀{ws:List (Str×V)}{i:Nat},(ws.map (·.1)).Nodup->(ws.map (·.1))[i]?=some f->(ws.map (·.2))[i]?=some v->ws.lookup f=some v
 |[],_,_,h,_=>by simp at h
 |(g,x) :: r,0,nd,h,h2=>by
  simp at h h2;subst h h2;simp[List.lookup_cons]
 |(g,x) :: r,i+1,nd,h,h2=>by
  simp only[List.map_cons,List.nodup_cons] at nd;simp only[List.map_cons,List.getElem?_cons_succ] at h h2;have hm:f∈r.map (·.1):=List.mem_of_getElem? h;have hb:(f == g)=false:=beq_eq_false_iff_ne.mpr fun e=>nd.1 (e ▸ hm)
  rw[List.lookup_cons,hb];exact n4 nd.2 h h2
theorem nO{f:Str}:∀{ws:List (Str×V)},f∉ws.map (·.1)->ws.lookup f=none
 |[],_=>rfl
 |(g,x) :: r,h=>by
  simp only[List.map_cons,List.mem_cons,not_or] at h;have hb:(f == g)=false:=beq_eq_false_iff_ne.mpr h.1;rw[List.lookup_cons,hb];exact nO h.2
theorem ny(f g:Str)(y x:V)(r:List (Str×V)):gJ f y ((g,x) :: r)=if g=f then (g,y) :: r else (g,x) :: gJ f y r:=rfl
theorem wY{f:Str}{y:V}:∀{ws:List (Str×V)}{i:Nat},(ws.map (·.1)).Nodup->(ws.map (·.1))[i]?=some f->(gJ f y ws).map (·.1)=ws.map (·.1)/\(gJ f y ws).map (·.2)=(ws.map (·.2)).set i y
 |[],_,_,h=>by simp at h
 |(g,x) :: r,0,nd,h=>by
  simp at h;subst h;rw[ny,if_pos rfl];exact⟨rfl,rfl⟩
 |(g,x) :: r,i+1,nd,h=>by
  simp only[List.map_cons,List.nodup_cons] at nd;simp only[List.map_cons,List.getElem?_cons_succ] at h;have hm:f∈r.map (·.1):=List.mem_of_getElem? h;have hb:¬g=f:=fun e=>nd.1 (e ▸ hm)
  rw[ny,if_neg hb];obtain⟨h1,h2⟩:=wY (y:=y) nd.2 h;exact⟨by rw[List.map_cons,List.map_cons,h1],by rw[List.map_cons,List.map_cons,List.set_cons_succ,h2]⟩
theorem uC{f:Str}{y:V}:∀{ws:List (Str×V)},f∉ws.map (·.1)->gJ f y ws=ws++[(f,y)]
 |[],_=>rfl
 |(g,x) :: r,h=>by
  simp only[List.map_cons,List.mem_cons,not_or] at h;rw[ny,if_neg (fun e=>h.1 e.symm),uC h.2];rfl
def iM(C:Addr)(ns:List Str)(x:D):M (Nat×List D):=fun S=>match x with
 |.ob n=>(match S[n]? with
  |some (.ins C' Np ds)=>Hq (C'=C/\Np=ns) (.ok (n,ds) S) .bad
  |_=>.bad)
 |_=>.bad
theorem kY{C:Addr}{ns:List Str}{n:Nat}{ds:List D}{S:List Cell}(h:S[n]?=some (.ins C ns ds)):iM C ns (.ob n) S=.ok (n,ds) S:=by
 simp only[iM,h]
 first
  |exact bW ⟨rfl,rfl⟩
  |exact bW ⟨trivial,trivial⟩
theorem j1{C:Addr}{ns:List Str}{x:D}{S S':List Cell}{p:Nat×List D}(h:iM C ns x S=.ok p S'):S'=S/\x=.ob p.1/\S[p.1]?=some (.ins C ns p.2):=by
 unfold iM at h;cases x with
 |ob n=>
  dsimp only at h;cases e:S[n]? with
  |none=>rw[e] at h;cases h
  |some c=>
   rw[e] at h;cases c with
   |ins C' Np ds=>
    dsimp only at h;unfold Hq at h;split at h
    ·rename_i q;obtain⟨rfl,rfl⟩:=q
     injection h with h1 h2
     subst h1 h2;exact⟨rfl,rfl,e⟩
    ·cases h
   |_=>cases h
 |_=>cases h
theorem j6{C:Addr}{ns:List Str}{x:D}{S S':List Cell}{c:Addr}:iM C ns x S≠.exc c S':=by
 intro h;unfold iM at h;cases x with
 |ob n=>
  dsimp only at h;cases e:S[n]? with
  |none=>rw[e] at h;cases h
  |some c=>
   rw[e] at h;cases c with
   |ins C' Np ds=>
    dsimp only at h;unfold Hq at h;split at h<;>cases h
   |_=>cases h
 |_=>cases h
def AV(o:Option D):M D:=fun S=>match o with
 |some d=>.ok d S
 |none=>.bad
section
variable{X:Cx}{o e:Expr}{es:List Expr}{fo fe:s_->M D}{ft:s_->M (List D)}{pos Jz apos:Pos}{C:Addr}{ns:List Str}{i:Nat}{f:Str}
def aB(C:Addr)(ns:List Str)(i:Nat)(fo:s_->M D):s_->M D:=fun r=>(fo r).bind fun x=>(iM C ns x).bind fun p=>AV p.2[i]?
theorem aF(c:Lz X.K C)(na:Fy X.K C f)(nd:ns.Nodup)(ho:FR X o fo)(hi:ns[i]?=some f:=by rfl)(hb:attributeBase o f X.env (eval o X.env)=eval o X.env:=by rfl):FR X (.Attribute o f pos) (aB C ns i fo):=by
 intro pins s σ H J r S Q E I m;refine B7 hb (ho pins s σ H J r S _ E I ?_);unfold aB M.bind at m;cases e1:fo r S with
 |bad=>rw[e1] at m;exact m
 |exc c S1=>rw[e1] at m;exact m
 |ok x S1=>
  rw[e1] at m;dsimp only at m;rintro v s1 ⟨vx,H1,I1,r1,J1,HJ,Ic,Hn⟩
  replace m:=Mt.ext HJ m
  cases e2:iM C ns x S1 with
  |bad=>rw[e2] at m;exact m.elim
  |exc c S2=>exact absurd e2 j6
  |ok p S2=>
   rw[e2] at m;obtain⟨n,ds⟩:=p;obtain⟨rfl,rfl,hc⟩:=j1 e2;obtain⟨a,rfl,hn⟩:=Hn.Im;obtain⟨dx,ws,hv,IU,Ox⟩:=Ic.at_ n _ a hc hn;dsimp only[AV] at m;cases e3:ds[i]? with
   |none=>rw[e3] at m;exact m.elim
   |some d=>
    rw[e3] at m;obtain⟨w,hw,IJ⟩:=Ox.get e3;cases r1;exact qo I1 hv c na (n4 (IU ▸ nd) (IU ▸ hi) hw) fun u s2 I2 ru=>m.HL I2 Ic IJ ru
theorem Ext.ins{K:PySem.W.Frag}{H:Hp}{J:List Addr}{a dx:Addr}{ws WH:List (Str×V)}(h:H a=some (.ins C dx ws)):Ext H J (upd H a (.ins C dx WH)) J:=Ext.write h rfl
def jZ(C:Addr)(ns:List Str)(i:Nat)(fo fe:s_->M D):Fw:=fun r=>cw (fe r) r fun d=>cw (fo r) r fun x S1=>match iM C ns x S1 with
 |.ok p S2=>some (.nx r,S2.set p.1 (.ins C ns (p.2.set i d)))
 |_=>none
theorem sW(he:FR X e fe){k:D->List Cell->L0}{pins:Fe}{s:Shared}{σ:L2.St}{H:Hp}{J:List Addr}{r:s_}{S:List Cell}{Q:Flow->Shared->Prop}{E:Value->Shared->Prop}{Q':Value->Shared->Prop}(I:At X pins σ H J r S s)
  (m:Kc X pins H J (cw (fe r) r k S) Q E) (hk:∀x S1 v s1 vx H1 J1,At X pins σ H1 J1 r S1 s1->Ext H J H1 J1->r_ X.K H1 J1 x vx->RelV vx v->Kc X pins H1 J1 (k x S1) Q E->Q' v s1) :
  wpAny (model X.prog X.w) X.A (eval e X.env) Q' E s:=by
 refine he pins s σ H J r S _ E I ?_;unfold cw at m;cases e1:fe r S with
 |bad=>rw[e1] at m;exact m
 |exc c S1=>
  rw[e1] at m;exact fun x s' ⟨H',XI,J',ex,rs⟩=>m x s' σ H' J' XI (I.loc.ext ex) rs ex
 |ok x S1=>
  rw[e1] at m;exact fun v s1 ⟨vx,H1,I1,r1,J1,ex,rs,rv⟩=>hk x S1 v s1 vx H1 J1 ⟨I1,I.loc.ext ex,rs⟩ ex rv r1 (Kc.ext ex m)
theorem u6{pins:Fe}{s:Shared}{σ:L2.St}{H:Hp}{J:List Addr}{r:s_}{S:List Cell}{n:Nat}{ds:List D}{d:D}{vd:V}{u:Value}{a:Addr}{Q:Flow->Shared->Prop}{E:Value->Shared->Prop}
  (c:Lz X.K C) (na:Fy X.K C f) (nd:ns.Nodup) (hz:ns.length<1000) (hi:ns[i]?=some f) (I:At X pins σ H J r S s) (hc:S[n]?=some (.ins C ns ds)) (hn:J[n]?=some a) (rd:r_ X.K H J d vd) (ru:RelV vd u)
  (m:Kc X pins H J (some (.nx r,S.set n (.ins C ns (ds.set i d)))) Q E):wpAny (model X.prog X.w) X.A (setAttr (.ref a) f u) (fun _ s'=>Q .next s') E s:=by
 obtain⟨dx,ws,hv,IU,Ox⟩:=I.st.at_ n _ a hc hn;refine qF I.inv hv c na (by rw[<-List.length_map (f:=(·.1)),IU];exact hz) ru fun s3 I3=>?_
 have x3:Ext H J (upd H a (.ins C dx (gJ f vd ws))) J:=Ext.write hv rfl;obtain⟨p1,p2⟩:=wY (y:=vd) (IU ▸ nd) (IU ▸ hi);refine m s3 σ _ J ⟨I3,I.loc.ext x3,I.st.write hn ⟨dx,_,bD,p1.trans IU,?_⟩⟩ x3;rw[p2];exact j_.set (rd.ext x3) i (Ox.ext x3)
theorem gE{pos':Pos}(c:Lz X.K C)(na:Fy X.K C f)(nd:ns.Nodup)(hz:ns.length<1000)(ho:FR X o fo)(he:FR X e fe)(hi:ns[i]?=some f:=by rfl)
  (hs:swapsWith e (some (.Attribute o f pos')) pos.line X.env=pure false:=by rfl):L1 X (.Assign [.Attribute o f pos'] e pos) (jZ C ns i fo fe):=by
 intro pins s σ H J r S Q E I m;refine plainObj_wpAny_Assign_Attribute (sW he I m fun d S1 u s1 vd H1 J1 I1 x1 rd ru m1=>sW ho I1 m1 fun x S2 v s2 vx H2 J2 I2 x2 rx rv m2=>?_) hs;cases e2:iM C ns x S2 with
 |bad=>rw[e2] at m2;exact m2.elim
 |exc c S2=>exact absurd e2 j6
 |ok p S3=>
  rw[e2] at m2;obtain⟨n,ds⟩:=p;obtain⟨rfl,rfl,hc⟩:=j1 e2;obtain⟨a,rfl,hn⟩:=rx.Im;cases rv;exact u6 c na nd hz hi I2 hc hn (rd.ext x2) ru m2
def cJ(C:Addr)(ns:List Str)(f:Str)(fo fe:s_->M D):Fw:=fun r=>cw (fe r) r fun d=>cw (fo r) r fun x S1=>match iM C ns x S1 with
 |.ok p S2=>some (.nx r,S2.set p.1 (.ins C (ns++[f]) (p.2++[d])))
 |_=>none
theorem cN{pos':Pos}(c:Lz X.K C)(na:Fy X.K C f)(hz:ns.length<1000)(hf:f∉ns)(ho:FR X o fo)(he:FR X e fe)
  (hs:swapsWith e (some (.Attribute o f pos')) pos.line X.env=pure false:=by rfl):L1 X (.Assign [.Attribute o f pos'] e pos) (cJ C ns f fo fe):=by
 intro pins s σ H J r S Q E I m;refine plainObj_wpAny_Assign_Attribute (sW he I m fun d S1 u s1 vd H1 J1 I1 x1 rd ru m1=>sW ho I1 m1 fun x S2 v s2 vx H2 J2 I2 x2 rx rv m2=>?_) hs;cases e2:iM C ns x S2 with
 |bad=>rw[e2] at m2;exact m2.elim
 |exc c S2=>exact absurd e2 j6
 |ok p S3=>
  rw[e2] at m2;obtain⟨n,ds⟩:=p;obtain⟨rfl,rfl,hc⟩:=j1 e2;obtain⟨a,rfl,hn⟩:=rx.Im;cases rv;obtain⟨dx,ws,hv,IU,Ox⟩:=I2.st.at_ n _ a hc hn;refine qF I2.inv hv c na (by rw[<-List.length_map (f:=(·.1)),IU];exact hz) ru fun s3 I3=>?_
  have x3:Ext H2 J2 (upd H2 a (.ins C dx (gJ f vd ws))) J2:=Ext.write hv rfl;have pn:gJ f vd ws=ws++[(f,vd)]:=uC (IU ▸ hf);have YH:(gJ f vd ws).map (·.2)=ws.map (·.2)++[vd]:=by rw[pn,List.map_append];rfl
  refine m2 s3 σ _ J2 ⟨I3,I2.loc.ext x3,I2.st.write hn ⟨dx,_,bD,by rw[pn,List.map_append,IU];rfl,?_⟩⟩ x3;rw[YH];exact(Ox.ext x3).append (.one ((rd.ext x2).ext x3))
def oq(C:Addr)(ns:List Str)(i:Nat)(fo fe:s_->M D):Fw:=fun r=>cw (fo r) r fun x S1=>match iM C ns x S1 with
 |.ok p S2=>(match p.2[i]? with
  |some (.int a)=>cw (fe r) r (fun y S3=>match y with
   |.int b=>(match iM C ns x S3 with
    |.ok q S4=>some (.nx r,S4.set q.1 (.ins C ns (q.2.set i (.int (a+b)))))
    |_=>none)
   |_=>none) S2
  |_=>none)
 |_=>none
theorem tC(c:Lz X.K C)(na:Fy X.K C f)(nd:ns.Nodup)(hz:ns.length<1000)(ho:FR X o fo)(he:FR X e fe)(hi:ns[i]?=some f:=by rfl) :
  L1 X (.AugAssign (.Attribute o f Jz) .Add e pos) (oq C ns i fo fe):=by
 intro pins s σ H J r S Q E I m;refine wpAny_AugAssign_AttributeAny (sW ho I m fun x S1 v s1 vx H1 J1 I1 x1 rx rv m1=>?_);cases e2:iM C ns x S1 with
 |bad=>rw[e2] at m1;exact m1.elim
 |exc c S2=>exact absurd e2 j6
 |ok p S2=>
  rw[e2] at m1;obtain⟨n,ds⟩:=p;obtain⟨rfl,rfl,hc⟩:=j1 e2;obtain⟨a,rfl,hn⟩:=rx.Im;cases rv;dsimp only at m1;cases e3:ds[i]? with
  |none=>rw[e3] at m1;exact m1.elim
  |some d=>
   rw[e3] at m1;cases d with
   |int j=>
    obtain⟨dx,ws,hv,IU,Ox⟩:=I1.st.at_ n _ a hc hn;obtain⟨w,hw,IJ⟩:=Ox.get e3;cases IJ.Gu;refine qo I1.inv hv c na (n4 (IU ▸ nd) (IU ▸ hi) hw) fun u s2 I2 ru=>?_
    refine sW he ⟨I2,I1.loc,I1.st⟩ m1 fun y S3 v3 s3 vy H3 J3 I3 x3 ry Q5 m3=>?_
    cases y with
    |int k=>
     dsimp only at m3;cases e4:iM C ns (.ob n) S3 with
     |bad=>rw[e4] at m3;exact m3.elim
     |exc c S2=>exact absurd e4 j6
     |ok q S4=>
      rw[e4] at m3;obtain⟨n',Pb⟩:=q;obtain⟨rfl,Oy,QP⟩:=j1 e4
      injection Oy with Oy
      subst Oy;cases ry.Gu;obtain⟨t1,rfl⟩:=ru;obtain⟨t2,rfl⟩:=Q5;have YI:J3[n]?=some a:=by
       obtain⟨mm,em⟩:=x3.pre;rw[em,List.getElem?_append_left (List.getElem?_eq_some_iff.mp hn).1];exact hn
      exact PyProof.Rows.iadd_int (u6 c na nd hz hi ⟨I3.inv.tok _,I3.loc,I3.st⟩ QP YI (r_.int _ _ _ (j+k)) ⟨_,rfl⟩ m3)
    |_=>exact m3.elim
   |_=>exact m1.elim
structure FV(P:Program)(w:World)(K:PySem.W.Frag)(mg:Str->Option Value)(base:Heap)(CX:Je)(C:Addr)(m:Str)(k:Nat)(ps:List Str)(F:List D->M D):Prop where
 ex:∃f fd,Meth K C m f/\Binds K fd ps []/\Gm P w K mg base CX k f fd ps F
def bc(C:Addr)(ns:List Str)(F:List D->M D)(fo:s_->M D)(ft:s_->M (List D)):s_->M D:=fun r=>(fo r).bind fun x=>(iM C ns x).bind fun _=>(ft r).bind fun xs=>F (x :: xs)
theorem bC{CX:Je}{k:Nat}{ps:List Str}{F:List D->M D}{m:Str}{pl:Sem Bool}(h:FV X.prog X.w X.K X.mg X.base CX C m k ps F)(hr:Gy k X.A)(c:Lz X.K C)(hm:m∉ns)(hx:oG CX X)(ho:FR X o fo)(ha:Lq X (e :: es) ft)
  (hl:∀r S xs S',ft r S=.ok xs S'->xs.length+1=ps.length)
  (He:starEach (e :: es) X.env=(false,eval e X.env) :: starEach es X.env:=by rfl) (LB:(backTo pos (starEach es X.env)).any (·.1)=false:=by rfl)
  (ht:eval (.Call (.Attribute o m apos) (e :: es) [] pos) X.env=(do
   let ov <-eval o X.env
   standAt apos.atName
   let (f,first) <-holding [ov] (getMethod ov m pl)
   callWith pos f first (backTo pos (starEach (e :: es) X.env)) (backToKw pos (keywordEach [] X.env))):=by rfl) :
  FR X (.Call (.Attribute o m apos) (e :: es) [] pos) (bc C ns F fo ft):=by
 obtain⟨f,fd,hM,hb,hF⟩:=h.ex;intro pins s σ H J r S Q E I mm;refine PySem.W.methodCall_KW (pl:=pl) (ho pins s σ H J r S _ E I ?_) ht;unfold bc M.bind at mm;cases e1:fo r S with
 |bad=>rw[e1] at mm;exact mm
 |exc c S1=>rw[e1] at mm;exact mm
 |ok x S1=>
  rw[e1] at mm;dsimp only at mm;rintro v s1 ⟨vx,H1,I1,r1,J1,HJ,Ic,Hn⟩
  replace mm:=Mt.ext HJ mm
  cases e2:iM C ns x S1 with
  |bad=>rw[e2] at mm;exact mm.elim
  |exc c S2=>exact absurd e2 j6
  |ok p S2=>
   rw[e2] at mm;obtain⟨n,ds⟩:=p;obtain⟨rfl,rfl,hc⟩:=j1 e2;obtain⟨a,rfl,hn⟩:=Hn.Im;cases r1;obtain⟨dx,ws,hv,IU,Ox⟩:=Ic.at_ n _ a hc hn;refine qi I1 hv c hM (nO (IU ▸ hm)) ?_;refine PySem.W.callWith_K (first:=[.ref a]) (h₀:=X.base) I1.ok.mod.Qh hM.kp ?_ He LB;refine ha pos pins s1 σ H1 J1 r _ _ E ⟨I1,I.loc.ext HJ,Ic⟩ ?_;dsimp only at mm;cases e3:ft r S2 with
   |bad=>rw[e3] at mm;exact mm
   |exc c S3=>rw[e3] at mm;exact mm
   |ok xs S3=>
    rw[e3] at mm;intro us s2 ⟨vs,H2,I2,r2,J2,JX,IA,KY⟩;exact⟨I2.Jy,sR (us:=.ref a :: us) (vs:=.ref a :: vs) (xs:=.ob n :: xs) hF hr hb hx I2 IA (.cons (Hn.ext JX) KY) (.cons rfl r2) (by rw[List.length_cons];exact hl r _ xs S3 e3) (Mt.ext JX mm)⟩
theorem dX{CX:Je}{k:Nat}{ps:List Str}{F:List D->M D}{m:Str}{pl:Sem Bool}(h:FV X.prog X.w X.K X.mg X.base CX C m k ps F)(hr:Gy k X.A)(c:Lz X.K C)(hm:m∉ns)(hx:oG CX X)(ho:FR X o fo)
  (hl:1=ps.length:=by rfl)
  (ht:eval (.Call (.Attribute o m apos) [] [] pos) X.env=(do
   let ov <-eval o X.env
   standAt apos.atName
   let (f,first) <-holding [ov] (getMethod ov m pl)
   callWith pos f first (backTo pos (starEach [] X.env)) (backToKw pos (keywordEach [] X.env))):=by rfl) :
  FR X (.Call (.Attribute o m apos) [] [] pos) (bc C ns F fo ai):=by
 obtain⟨f,fd,hM,hb,hF⟩:=h.ex;intro pins s σ H J r S Q E I mm;refine PySem.W.methodCall_KW (pl:=pl) (ho pins s σ H J r S _ E I ?_) ht;unfold bc M.bind at mm;cases e1:fo r S with
 |bad=>rw[e1] at mm;exact mm
 |exc c S1=>rw[e1] at mm;exact mm
 |ok x S1=>
  rw[e1] at mm;dsimp only at mm;rintro v s1 ⟨vx,H1,I1,r1,J1,HJ,Ic,Hn⟩
  replace mm:=Mt.ext HJ mm
  cases e2:iM C ns x S1 with
  |bad=>rw[e2] at mm;exact mm.elim
  |exc c S2=>exact absurd e2 j6
  |ok p S2=>
   rw[e2] at mm;obtain⟨n,ds⟩:=p;obtain⟨rfl,rfl,hc⟩:=j1 e2;obtain⟨a,rfl,hn⟩:=Hn.Im;cases r1;obtain⟨dx,ws,hv,IU,Ox⟩:=Ic.at_ n _ a hc hn;refine qi I1 hv c hM (nO (IU ▸ hm)) ?_;exact PySem.W.callWith_K0 (first:=[.ref a]) I1.Jy hM.kp (sR (us:=[.ref a]) (vs:=[.ref a]) (xs:=[.ob n]) hF hr hb hx I1 Ic (.one Hn) (.cons rfl .nil) hl mm)
structure Md(P:Program)(w:World)(K:PySem.W.Frag)(mg:Str->Option Value)(base:Heap)(CX:Je)(x:Str)(C:Addr)(k:Nat)(ps:List Str)(F:List D->M D):Prop where
 ex:∃f fd,mg x=some (.ref C)/\Mk K C f/\Binds K fd ps []/\Gm P w K mg base CX k f fd ps F
def iI(C:Addr)(F:List D->M D)(xs:List D):M D:=fun S=>match F (.ob S.length :: xs) (S++[.ins C [] []]) with
 |.ok .D_ S'=>.ok (.ob S.length) S'
 |_=>.bad
theorem xV{CX:Je}{k:Nat}{fI:Addr}{fd:FuncData}{ps:List Str}{F:List D->M D}{pins:Fe}{σ:L2.St}{H:Hp}{J:List Addr}{S:List Cell}{s:Shared}{Q E:Value->Shared->Prop}{xs:List D}{vs:List V}{us:List Value}
  (hM:Mk X.K C fI) (hF:Gm X.prog X.w X.K X.mg X.base CX k fI fd ps F) (hr:Gy (k+1) X.A) (hb:Binds X.K fd ps []) (hx:oG CX X) (I:Inv X pins σ H s) (rs:Fg X.K H J S) (rx:j_ X.K H J xs vs) (rv:Vals vs us) (hl:xs.length+1=ps.length)
  (m:Mt X pins σ H J (iI C F xs S) Q E):wpAny (model X.prog X.w) X.A (call (.ref C) us) Q E s:=by
 have Qu:H s.heap.objs.size=none:=I.Fn.fresh (Nat.le_refl _);have YJ:H (s.heap.objs.size+1)=none:=I.Fn.fresh (Nat.le_succ _);have ne:s.heap.objs.size+1≠s.heap.objs.size:=Nat.succ_ne_self _;have I2:=Inv.made (C:=C) I;have Ri:upd H s.heap.objs.size (.own (s.heap.objs.size+1)) (s.heap.objs.size+1)=none:=by rw[bi ne];exact YJ
 have x1:Ext H J (upd H s.heap.objs.size (.own (s.heap.objs.size+1))) J:=Ext.new Qu;have x2:Ext (upd H s.heap.objs.size (.own (s.heap.objs.size+1))) J (upd (upd H s.heap.objs.size (.own (s.heap.objs.size+1))) (s.heap.objs.size+1) (.ins C s.heap.objs.size [])) (J++[s.heap.objs.size+1]):=(Ext.new Ri).snoc _;have WJ:=x1.trans x2;have IA:Fg X.K (upd (upd H s.heap.objs.size (.own (s.heap.objs.size+1))) (s.heap.objs.size+1) (.ins C s.heap.objs.size [])) (J++[s.heap.objs.size+1]) (S++[.ins C [] []]):=
  (rs.new Qu).push Ri ⟨s.heap.objs.size,[],bD,rfl,.nil⟩
 have ro:r_ X.K (upd (upd H s.heap.objs.size (.own (s.heap.objs.size+1))) (s.heap.objs.size+1) (.ins C s.heap.objs.size [])) (J++[s.heap.objs.size+1]) (.ob S.length) (.ref (s.heap.objs.size+1)):=.ob (by rw[<-rs.len];simp);have T_:j_ X.K (upd (upd H s.heap.objs.size (.own (s.heap.objs.size+1))) (s.heap.objs.size+1) (.ins C s.heap.objs.size [])) (J++[s.heap.objs.size+1]) (.ob S.length :: xs) (.ref (s.heap.objs.size+1) :: vs):=.cons ro (rx.ext WJ);have KY:Vals (V.ref (s.heap.objs.size+1) :: vs) (Value.ref (s.heap.objs.size+1) :: us):=.cons rfl rv;have hlen:(Value.ref (s.heap.objs.size+1) :: us++[]).length=ps.length:=by
  rw[List.append_nil,<-KY.length,T_.length];exact hl
 have Ol:=hb _ (Value.ref (s.heap.objs.size+1) :: us) I2.Jy hlen;rw[List.append_nil] at Ol;unfold iI at m;cases e:F (.ob S.length :: xs) (S++[.ins C [] []]) with
 |bad=>rw[e] at m;exact m.elim
 |exc c S'=>rw[e] at m;exact m.elim
 |ok d S'=>
  rw[e] at m;cases d with
  |D_=>
   dsimp only at m;refine wpAny_call (zi (f:=fI) I.Jy hM.makes hM.init (beq_iff_eq.mp hM.fn) (codeAny_mono (hF.run _ X.stack _ _ ⟨Value.ref (s.heap.objs.size+1) :: us,[]⟩ (Value.ref (s.heap.objs.size+1) :: us) _
    (fun v H'=>Got X.K (upd (upd H s.heap.objs.size (.own (s.heap.objs.size+1))) (s.heap.objs.size+1) (.ins C s.heap.objs.size [])) (J++[s.heap.objs.size+1]) .D_ S' v H') (fun _ _ _=>False) (hr.make C us []) (I2.QT.make C us []) Ol KY ?_) fun rr s' hq=>?_))
   ·refine⟨by rw[T_.length];exact hl,J++[s.heap.objs.size+1],_,_,T_,IA,?_⟩;rw[e];exact fun v H' g=>g
   ·cases rr with
    |error er=>
     obtain⟨c,H',XI,z⟩:=hx _ pins σ _ _ er s' I2 hq;exact z.elim
    |ok fl=>
     cases fl with
     |ret u=>
      obtain⟨v,H',I3,Q5,J3,x3,O6,Tp⟩:=I2.after hq;cases Tp.LH;exact⟨Q5,m _ s' ⟨V.ref (s.heap.objs.size+1),H',I3,rfl,J3,WJ.trans x3,O6,ro.ext x3⟩⟩
     |next=>exact False.elim hq
     |brk=>exact False.elim hq
     |cont=>exact False.elim hq
  |_=>exact m.elim
theorem tU{CX:Je}{k:Nat}{ps:List Str}{F:List D->M D}{x:Str}{p:Pos}(h:Md X.prog X.w X.K X.mg X.base CX x C k ps F)(hr:Gy (k+1) X.A)(hg:Gl X x)(hx:oG CX X)(ha:Lq X (e :: es) ft)
  (hl:∀r S xs S',ft r S=.ok xs S'->xs.length+1=ps.length)
  (MP:(x == ("__debug__":Str))=false:=by decide) (he:starEach (e :: es) X.env=(false,eval e X.env) :: starEach es X.env:=by rfl) (LB:(backTo pos (starEach es X.env)).any (·.1)=false:=by rfl) :
  FR X (.Call (.Name x p) (e :: es) [] pos) (am (iI C F) ft):=by
 obtain⟨f,fd,hm,hM,hb,hF⟩:=h.ex;intro pins s σ H J r S Q E I m;refine wpAny_Call_Name_kw (lf I.inv hg hm ?_ MP);refine PySem.W.callWith_K (h₀:=X.base) I.inv.ok.mod.Qh hM.kp ?_ he LB;refine ha pos pins s σ H J r S _ E I ?_;unfold am M.bind at m;cases e1:ft r S with
 |bad=>rw[e1] at m;exact m
 |exc c S1=>rw[e1] at m;exact m
 |ok xs S1=>
  rw[e1] at m;intro us s1 ⟨vs,H1,I1,r1,J1,HJ,Ic,Hn⟩;exact⟨I1.Jy,xV hM hF hr hb hx I1 Ic Hn r1 (hl r S xs S1 e1) (Mt.ext HJ m)⟩
end
end DL
namespace L2
open PySem PySem.Spec PyProof.Rows
section
variable{κ:Type}[DecidableEq κ]
def jW(kvs:List (κ×V))(k:κ):Option V:=(kvs.find? fun kv=>decide (kv.1=k)).map (·.2)
def jC(kvs:List (κ×V))(k:κ)(v:V):List (κ×V):=
 if (kvs.any fun kv=>decide (kv.1=k))=true then kvs.map (fun kv=>if kv.1=k then (kv.1,v) else kv) else kvs++[(k,v)]
def qG(kvs:List (κ×V))(k:κ):List (κ×V):=kvs.filter fun kv=>decide (kv.1≠k)
theorem mX{p:κ×V}{r:List (κ×V)}{k:κ}(e:p.1=k):jW (p :: r) k=some p.2:=by simp[jW,List.find?_cons,e]
theorem mG{p:κ×V}{r:List (κ×V)}{k:κ}(e:¬p.1=k):jW (p :: r) k=jW r k:=by simp[jW,List.find?_cons,e]
theorem vC(k:κ):∀kvs:List (κ×V),(kvs.any fun kv=>decide (kv.1=k))=(jW kvs k).isSome
 |[]=>rfl
 |p :: r=>by
  rw[List.any_cons];by_cases e:p.1=k
  ·simp only[mX e,decide_eq_true e,Bool.true_or,Option.isSome_some]
  ·rw[mG e,decide_eq_false e,Bool.false_or];exact vC k r
theorem kO(kvs:List (κ×V))(k:κ)(v:V):(jC kvs k v).length<=kvs.length+1:=by
 unfold jC;split
 ·rw[List.length_map];omega
 ·rw[List.length_append,List.length_cons,List.length_nil];omega
theorem Hy.Ht{o:Option V}{u:Option Value}(r:Hy o u):o.isSome=u.isSome:=by
 cases o with
 |none=>cases u with
  |none=>rfl
  |some _=>exact(show False from r).elim
 |some _=>cases u with
  |none=>exact(show False from r).elim
  |some _=>rfl
theorem Hy.getD{o:Option V}{u:Option Value}{d:V}{d':Value}(r:Hy o u)(rd:RelV d d'):RelV (o.getD d) (u.getD d'):=by
 cases o with
 |none=>cases u with
  |none=>exact rd
  |some _=>exact(show False from r).elim
 |some _=>cases u with
  |none=>exact(show False from r).elim
  |some _=>exact r
theorem KV.val{kvs:List (κ×V)}{vs:List (κ×Value)}(r:KV kvs vs)(k:κ):Hy (jW kvs k) (valueAt vs k):=by
 unfold KV at r
 induction r with
 |nil=>exact True.intro
 |@cons p q ps qs h t ih=>
  obtain⟨h1,h2⟩:=h;by_cases e:p.1=k
  ·have e':q.1=k:=h1.symm.trans e;have b:valueAt (q :: qs) k=some q.2:=by simp[valueAt,List.find?_cons,e']
   rw[mX e,b];exact h2
  ·have e':¬q.1=k:=fun z=>e (h1.trans z)
   have b:valueAt (q :: qs) k=valueAt qs k:=by simp[valueAt,List.find?_cons,e']
   rw[mG e,b];exact ih
theorem KV.any{kvs:List (κ×V)}{vs:List (κ×Value)}(r:KV kvs vs)(k:κ):(kvs.any fun kv=>decide (kv.1=k))=vs.any fun kv=>decide (kv.1=k):=by
 unfold KV at r
 induction r with
 |nil=>rfl
 |cons h t ih=>rw[List.any_cons,List.any_cons,ih,h.1]
theorem KV.PX{kvs:List (κ×V)}{vs:List (κ×Value)}(r:KV kvs vs)(k:κ){y:V}{u:Value}(ry:RelV y u) :
  KV (kvs.map fun kv=>if kv.1=k then (kv.1,y) else kv) (vs.map fun kv=>if kv.1=k then (kv.1,u) else kv):=by
 unfold KV at r ⊢
 induction r with
 |nil=>exact .nil
 |@cons p q ps qs h t ih=>
  rw[List.map_cons,List.map_cons];refine .cons ?_ ih;obtain⟨h1,h2⟩:=h;by_cases e:p.1=k
  ·rw[if_pos e,if_pos (h1.symm.trans e)];exact⟨h1,ry⟩
  ·rw[if_neg e,if_neg (fun z=>e (h1.trans z))];exact⟨h1,h2⟩
theorem KV.put{kvs:List (κ×V)}{vs:List (κ×Value)}(r:KV kvs vs)(k:κ){y:V}{u:Value}(ry:RelV y u):KV (jC kvs k y) (stored vs k u):=by
 unfold jC stored;rw[r.any k];by_cases e:(vs.any fun kv=>decide (kv.1=k))=true
 ·rw[if_pos e,if_pos e];exact r.PX k ry
 ·rw[if_neg e,if_neg e];exact Paired.snoc r ⟨rfl,ry⟩
theorem KV.drop{kvs:List (κ×V)}{vs:List (κ×Value)}(r:KV kvs vs)(k:κ):KV (qG kvs k) (without vs k):=by
 unfold KV at r ⊢;unfold qG without
 induction r with
 |nil=>exact .nil
 |@cons p q ps qs h t ih=>
  obtain⟨h1,h2⟩:=h;rw[List.filter_cons,List.filter_cons];by_cases e:p.1=k
  ·have a:¬decide (p.1≠k)=true:=by simp[e]
   have b:¬decide (q.1≠k)=true:=by simp[h1.symm.trans e]
   rw[if_neg a,if_neg b];exact ih
  ·have e':¬q.1=k:=fun z=>e (h1.trans z)
   have a:decide (p.1≠k)=true:=by simp[e]
   have b:decide (q.1≠k)=true:=by simp[e']
   rw[if_pos a,if_pos b];exact .cons ⟨h1,h2⟩ ih
theorem KV.keys{kvs:List (κ×V)}{vs:List (κ×Value)}(r:KV kvs vs):kvs.map (·.1)=vs.map (·.1):=by
 unfold KV at r
 induction r with
 |nil=>rfl
 |cons h t ih=>rw[List.map_cons,List.map_cons,ih,h.1]
theorem KV.length{kvs:List (κ×V)}{vs:List (κ×Value)}(r:KV kvs vs):kvs.length=vs.length:=Paired.length r
theorem Am(kvs:List (κ×V))(k:κ):(qG kvs k).length<=kvs.length:=List.length_filter_le _ _
end
theorem ph{P:Program}{w:World}{k:Key}{u:Value}(r:RelV (kV k) u):(cV P w).is k u=true:=by
 cases k with
 |inl i=>obtain⟨t,e⟩:=(show ∃t,u=Value.int i t from r);subst e;exact uJ P w i t
 |inr x=>obtain⟨t,e⟩:=(show ∃t,u=Value.str x t from r);subst e;exact vb P w x t
theorem si{P:Program}{w:World}:∀{ks:List Key}{us:List Value},Vals (ks.map kV) us->ItemsAre (cV P w) ks us
 |[],_,r=>by rw[List.map_nil] at r;cases r;exact .nil
 |k :: ks,_,r=>by
  rw[List.map_cons] at r;cases r with
  |cons h t=>exact .cons (ph h) (si t)
abbrev KT(H:Hp):List (List Key×V)->List (List Key×Addr×Value)->Prop:=Paired fun p q=>p.1=q.1/\H q.2.1=some (.tup (p.1.map kV))/\RelV p.2 q.2.2
theorem KT.val{H:Hp}{kvs:List (List Key×V)}{xs:List (List Key×Addr×Value)}(r:KT H kvs xs)(k:List Key):Hy (jW kvs k) ((atKey xs k).map (·.2)):=by
 induction r with
 |nil=>exact True.intro
 |@cons p q ps qs h t ih=>
  obtain⟨h1,_,h2⟩:=h;by_cases e:p.1=k
  ·have e':q.1=k:=h1.symm.trans e;have b:atKey (q :: qs) k=some q.2:=by simp[atKey,List.find?_cons,e']
   rw[mX e,b];exact h2
  ·have e':¬q.1=k:=fun z=>e (h1.trans z)
   have b:atKey (q :: qs) k=atKey qs k:=by simp[atKey,List.find?_cons,e']
   rw[mG e,b];exact ih
theorem KT.PX{H:Hp}{kvs:List (List Key×V)}{xs:List (List Key×Addr×Value)}(r:KT H kvs xs)(k:List Key){y:V}{u:Value}(ry:RelV y u) :
  KT H (kvs.map fun kv=>if kv.1=k then (kv.1,y) else kv) (xs.map (putAt k u)):=by
 induction r with
 |nil=>exact .nil
 |@cons p q ps qs h t ih=>
  rw[List.map_cons,List.map_cons];refine .cons ?_ ih;obtain⟨h1,h2,h3⟩:=h;unfold putAt;by_cases e:p.1=k
  ·rw[if_pos e,if_pos (h1.symm.trans e)];exact⟨h1,h2,ry⟩
  ·rw[if_neg e,if_neg (fun z=>e (h1.trans z))];exact⟨h1,h2,h3⟩
theorem KT.put{H:Hp}{kvs:List (List Key×V)}{xs:List (List Key×Addr×Value)}(r:KT H kvs xs)(k:List Key){b:Addr}{y:V}{u:Value}(hb:H b=some (.tup (k.map kV)))(ry:RelV y u) :
  KT H (jC kvs k y) (storedH xs k b u):=by
 have e:(kvs.any fun kv=>decide (kv.1=k))=(atKey xs k).isSome:=by
  rw[vC,(r.val k).Ht,Option.isSome_map]
 unfold jC storedH;rw[e];by_cases q:(atKey xs k).isSome=true
 ·rw[if_pos q,if_pos q];exact r.PX k ry
 ·rw[if_neg q,if_neg q];exact Paired.snoc r ⟨rfl,hb,ry⟩
theorem KT.keeps{H H':Hp}{kvs:List (List Key×V)}{xs:List (List Key×Addr×Value)}(r:KT H kvs xs)(ht:∀b ys,H b=some (.tup ys)->H' b=some (.tup ys)):KT H' kvs xs:=
 Paired.Pp r fun _ _ z=>⟨z.1,ht _ _ z.2.1,z.2.2⟩
section
variable{P:Program}{w:World}{H:Hp}{h:Heap}{a:Addr}
theorem Cp{u:HO}(ok:G6 P w H h)(e:Rd H a u):FT P w H h a u:=e.ok ok
theorem sD{kvs:List (Key×V)}(ok:G6 P w H h)(e:Rd H a (.dK kvs)):kvs.length<=sizeLine/\(a == sysModules)=false/\∃vs,KV kvs vs/\h.DictOf (cV P w) a vs:=
 show FT P w H h a (.dK kvs) from Cp ok e
theorem AB{kvs:List (Key×V)}(ok:G6 P w H h)(e:H a=some (.dK kvs)):kvs.length<=sizeLine/\(a == sysModules)=false/\∃vs,KV kvs vs/\h.DictOf (cV P w) a vs:=sD ok (.inl e)
theorem qv{ks:List Key}(ok:G6 P w H h)(e:H a=some (.tup (ks.map kV))):(tupleKind (cV P w)).is h ks a:=by
 obtain⟨_,w_,r,o,h1,h2,n,h3⟩:=(show FT P w H h a (.tup (ks.map kV)) from ok a _ e);exact⟨o,w_.toArray,n,h1,h2,h3,by simpa using si r⟩
theorem rQ{kvs:List (List Key×V)}(ok:G6 P w H h)(e:Rd H a (.dT kvs)):kvs.length<=sizeLine/\(a == sysModules)=false/\
  ∃xs,KT H kvs xs/\h.DictOfH (tupleKind (cV P w)) a xs:=by
 obtain⟨z,y,xs,r,o,es,ep,h1,h2,h3,h4,h5⟩:=(show FT P w H h a (.dT kvs) from Cp ok e);refine⟨z,y,xs,r,o,es,ep,h1,h2,h3,h4,fun x hx=>?_,h5⟩;have all:∀{l:List (List Key×V)}{m:List (List Key×Addr×Value)},KT H l m->∀x∈m,(tupleKind (cV P w)).is h x.1 x.2.1:=by
  intro l m q
  induction q with
  |nil=>intro x hx;exact nomatch hx
  |@cons p q ps qs hq t ih=>
   intro x hx;rcases List.mem_cons.mp hx with e|hx
   ·subst e;exact qv ok (by rw[<-hq.1];exact hq.2.1)
   ·exact ih x hx
 exact all r x hx
theorem Ed{kvs:List (List Key×V)}(ok:G6 P w H h)(e:H a=some (.dT kvs)):kvs.length<=sizeLine/\(a == sysModules)=false/\
  ∃xs,KT H kvs xs/\h.DictOfH (tupleKind (cV P w)) a xs:=rQ ok (.inl e)
end
def Js(H:Hp)(a:Addr)(y:V)(r:Option V):Prop:=
 (∃kvs k,Rd H a (.dK kvs)/\y=kV k/\r=jW kvs k)\/∃kvs k b,Rd H a (.dT kvs)/\y=.ref b/\H b=some (.tup (k.map kV))/\r=jW kvs k
def MV(H:Hp)(a:Addr)(y v:V)(H':Hp):Prop:=
 (∃kvs k,H a=some (.dK kvs)/\y=kV k/\kvs.length<sizeLine/\H'=upd H a (.dK (jC kvs k v)))\/
 ∃kvs k b,H a=some (.dT kvs)/\y=.ref b/\H b=some (.tup (k.map kV))/\kvs.length<sizeLine/\H'=upd H a (.dT (jC kvs k v))
theorem Js.k{H:Hp}{a:Addr}{kvs:List (Key×V)}{k:Key}(e:H a=some (.dK kvs)):Js H a (kV k) (jW kvs k):=.inl ⟨kvs,k,.inl e,rfl,rfl⟩
theorem Js.t{H:Hp}{a b:Addr}{kvs:List (List Key×V)}{k:List Key}(e:H a=some (.dT kvs))(eb:H b=some (.tup (k.map kV))):Js H a (.ref b) (jW kvs k):=.inr ⟨kvs,k,b,.inl e,rfl,eb,rfl⟩
theorem MV.k{H:Hp}{a:Addr}{kvs:List (Key×V)}{k:Key}{v:V}(e:H a=some (.dK kvs))(hl:kvs.length<sizeLine):MV H a (kV k) v (upd H a (.dK (jC kvs k v))):=.inl ⟨kvs,k,e,rfl,hl,rfl⟩
theorem MV.t{H:Hp}{a b:Addr}{kvs:List (List Key×V)}{k:List Key}{v:V}(e:H a=some (.dT kvs))(eb:H b=some (.tup (k.map kV)))(hl:kvs.length<sizeLine) :
  MV H a (.ref b) v (upd H a (.dT (jC kvs k v))):=.inr ⟨kvs,k,b,e,rfl,eb,hl,rfl⟩
section
variable{X:Cx}{pins:List (Addr×Obj)}{σ:St}{H:Hp}{s:Shared}{a:Addr}{y v:V}{u r:Value}{o:Option V}{A:Around}{E:Value->Shared->Prop}
theorem Inv.big(I:Inv X pins σ H s):sysModules<s.heap.objs.size:=by
 have h:mainGlobals<s.heap.objs.size:=(I.mod.glob.keeps I.bk).lt;exact Nat.lt_trans (by decide) h
theorem xW{Q:Value->Shared->Prop}(hu:A.units+1<cLine)(I:Inv X pins σ H s)(g:Js H a y (some v))(ry:RelV y u)(h:∀w' s',Inv X pins σ H s'->RelV v w'->Q w' s') :
  wpAny (model X.prog X.w) A (getItem (.ref a) u) Q E s:=by
 rcases g with ⟨kvs,k,e,ey,l⟩|⟨kvs,k,b,e,ey,eb,l⟩
 ·subst ey;obtain⟨z,hd,vs,rel,dd⟩:=sD I.Fn e;obtain⟨w',hw,IJ⟩:=Hy.some_of (v:=v) (o:=valueAt vs k) (by rw[l];exact rel.val k);exact wpAny_getItem_of (ph ry) dd.mapOf hw (h w' _ (I.tok _) IJ)
 ·subst ey;cases(show u=Value.ref b from ry);obtain⟨z,hd,xs,rel,dd⟩:=rQ I.Fn e;obtain⟨w',hw,IJ⟩:=Hy.some_of (v:=v) (o:=(atKey xs k).map (·.2)) (by rw[l];exact rel.val k);obtain⟨p,hp,YK⟩:=Option.map_eq_some_iff.mp hw;refine wpAny_getItem_heap (tupleKind_room_in1 hu) (qv I.Fn eb) dd hp ?_;rw[YK];exact h w' _ (I.tok _) IJ
theorem EM{Q:Value->Shared->Prop}(hu:A.units+1<cLine)(I:Inv X pins σ H s)(g:Js H a y o)(ry:RelV y u)(h:∀s',Inv X pins σ H s'->Q (.bool o.isSome) s') :
  wpAny (model X.prog X.w) A (compareOp .In u (.ref a)) Q E s:=by
 rcases g with ⟨kvs,k,e,ey,l⟩|⟨kvs,k,b,e,ey,eb,l⟩
 ·subst ey;obtain⟨z,hd,vs,rel,dd⟩:=sD I.Fn e;refine wpAny_in_of (ph ry) hd dd.mapOf ?_;rw[<-(rel.val k).Ht,<-l];exact h _ (I.tok _)
 ·subst ey;cases(show u=Value.ref b from ry);obtain⟨z,hd,xs,rel,dd⟩:=rQ I.Fn e;refine wpAny_in_heap (tupleKind_room_in1 hu) (qv I.Fn eb) hd dd ?_;have q:=(rel.val k).Ht;rw[Option.isSome_map] at q;rw[<-q,<-l];exact h _ (I.tok _)
theorem Bm{Q:Value->Shared->Prop}(hu:A.units+1<cLine)(I:Inv X pins σ H s)(g:Js H a y o)(ry:RelV y u)(h:∀s',Inv X pins σ H s'->Q (.bool (!o.isSome)) s') :
  wpAny (model X.prog X.w) A (compareOp .NotIn u (.ref a)) Q E s:=by
 rcases g with ⟨kvs,k,e,ey,l⟩|⟨kvs,k,b,e,ey,eb,l⟩
 ·subst ey;obtain⟨z,hd,vs,rel,dd⟩:=sD I.Fn e;refine wpAny_notIn_of (ph ry) hd dd.mapOf ?_;rw[<-(rel.val k).Ht,<-l];exact h _ (I.tok _)
 ·subst ey;cases(show u=Value.ref b from ry);obtain⟨z,hd,xs,rel,dd⟩:=rQ I.Fn e;refine wpAny_notIn_heap (tupleKind_room_in1 hu) (qv I.Fn eb) hd dd ?_;have q:=(rel.val k).Ht;rw[Option.isSome_map] at q;rw[<-q,<-l];exact h _ (I.tok _)
theorem o8{h':Heap}{t':Nat}{ob:HO}(I:Inv X pins σ H s)(mu:QK (H a))(hs:Heap.SameBut a s.heap h')(he:∃q,h'.get? a=some q)(new:FT X.prog X.w (upd H a ob) h' a ob) :
  Inv X pins σ (upd H a ob) { s with heap:=h',toks:=t' }:=
 I.write (x:=a) (e:=a) mu (.inl rfl) (fun b q hb z=>(hs.2 b hb).trans z) he new
theorem vR{P:Program}{w:World}{H':Hp}{h':Heap}{kvs:List (Key×V)}{vs:List (Key×Value)}(z:kvs.length<=sizeLine)(hd:(a == sysModules)=false)(rel:KV kvs vs)(dd:h'.DictOf (cV P w) a vs) :
  FT P w H' h' a (.dK kvs):=⟨z,hd,vs,rel,dd⟩
theorem xS{H':Hp}{Q:Unit->Shared->Prop}(hu:A.units+1<cLine)(I:Inv X pins σ H s)(g:MV H a y v H')(ry:RelV y u)(rv:RelV v r)(h:∀s',Inv X pins σ H' s'->Q () s') :
  wpAny (model X.prog X.w) A (setItem (.ref a) u r) Q E s:=by
 rcases g with ⟨kvs,k,e,ey,l,eH⟩|⟨kvs,k,b,e,ey,eb,l,eH⟩
 ·subst ey eH;obtain⟨z,hd,vs,rel,dd⟩:=AB I.Fn e;have hz:vs.length<=sizeLine:=by rw[<-rel.length];exact z
  have hl:(jC kvs k v).length<=sizeLine:=by have:=kO kvs k v;omega
  refine wpAny_setItem_pairs (hsz:=hz) (ph ry) dd fun h' N8 hs=>h _ ?_
  have he:∃q,h'.get? a=some q:=let ⟨q,_,_,hq,_⟩:=N8;⟨q,hq⟩
  exact o8 I (by rw[e];exact True.intro) hs he (vR hl hd (rel.put k rv) N8)
 ·subst ey eH;cases(show u=Value.ref b from ry);obtain⟨z,hd,xs,rel,dd⟩:=Ed I.Fn e;have hz:xs.length<=sizeLine:=by rw[<-Paired.length rel];exact z
  have hl:(jC kvs k v).length<=sizeLine:=by have:=kO kvs k v;omega
  refine wpAny_setItem_heap (hsz:=hz) (tupleKind_room_in1 hu) (qv I.Fn eb) dd fun h' N8 hs=>h _ ?_
  obtain⟨q,es,ep,hq,h2,h3,h4,_,h5⟩:=N8;refine o8 I (by rw[e];exact True.intro) hs ⟨q,hq⟩ ⟨hl,hd,_,(rel.put k eb rv).keeps fun c ys ec=>?_,q,es,ep,hq,h2,h3,h4,h5⟩;rw[bi (DQ ec e (fun z=>nomatch z))];exact ec
end
section
variable{X:Cx}{pins:List (Addr×Obj)}{σ:St}{H:Hp}{s:Shared}{a:Addr}{kvs:List (Key×V)}{k:Key}{u:Value}{A:Around}{E:Value->Shared->Prop}
theorem Ee{v:V}{more:List Value}{Q:Value->Shared->Prop}(I:Inv X pins σ H s)(e:H a=some (.dK kvs))(ry:RelV (kV k) u)(l:jW kvs k=some v)(hm:more=[]\/∃x,more=[x])
  (h:∀w' s',Inv X pins σ (upd H a (.dK (qG kvs k))) s'->RelV v w'->Q w' s'):wpAny (model X.prog X.w) A (call (.builtin "dict.pop") (.ref a :: u :: more)) Q E s:=by
 obtain⟨z,hd,vs,rel,dd⟩:=AB I.Fn e;obtain⟨w',hw,IJ⟩:=Hy.some_of (v:=v) (o:=valueAt vs k) (by rw[<-l];exact rel.val k);have hp:(keyPart u).isSome=true:=by
  cases k with
  |inl i=>obtain⟨t,q⟩:=(show ∃t,u=Value.int i t from ry);subst q;rfl
  |inr x=>obtain⟨t,q⟩:=(show ∃t,u=Value.str x t from ry);subst q;rfl
 have ha:argsOk "dict.pop" ⟨.ref a :: u :: more,[]⟩:=by
  rcases hm with q|⟨x,q⟩
  ·subst q;exact PySem.F.args_dict_pop_2 _ _
  ·subst q;exact PySem.F.args_dict_pop_3 _ _ _
 refine call_meetsIn PySem.F.slot_dict_pop dd.typeIs PySem.F.entry_dict_pop ha (meets_dict_pop_there (cV X.prog X.w) a (ph ry) more hm hp)
  ⟨vs,w',dd,by rw[<-rel.length];exact z,hw,fun h' N8 hs=>h w' _ ?_ IJ⟩
 have he:∃q,h'.get? a=some q:=let ⟨q,_,_,hq,_⟩:=N8;⟨q,hq⟩
 exact o8 I (by rw[e];exact True.intro) hs he (vR (Nat.le_trans (Am kvs k) z) hd (rel.drop k) N8)
end
theorem uv{X:Cx}{pins:List (Addr×Obj)}{σ:St}{H:Hp}{s:Shared}{a:Addr}{y:V}{o:Option V}(I:Inv X pins σ H s)(g:Js H a y o):s.TypeIs (.ref a) "dict":=by
 rcases g with ⟨kvs,k,e,_,_⟩|⟨kvs,k,b,e,_,_,_⟩
 ·obtain⟨_,_,vs,_,dd⟩:=sD I.Fn e;exact dd.typeIs
 ·obtain⟨_,_,xs,_,dd⟩:=rQ I.Fn e;exact dd.typeIs
section
variable{X:Cx}{o i e value:Expr}{pos pos' Jz:Pos}{td ty tv:TE}
end
theorem uF{P:Program}{w:World}{H:Hp}(h:Heap)(hb:sysModules<h.objs.size):FT P w H (h.push { cls:=.type "dict",data:=.dict #[] }) h.objs.size (.dK []):=
 ⟨Nat.zero_le _,beq_eq_false_iff_ne.mpr (Ne.symm (Nat.ne_of_lt hb)),[],.nil,Heap.DictOf.new h⟩
def Cz:TE:=fun _ H Q=>∀p,H p=none->Q (.ref p) (upd H p (.dK []))
section
variable{X:Cx}{pos:Pos}
theorem AD:PE X (.Dict [] [] pos) Cz:=fun pins s σ H Q I h=>
 wpAny_Dict_empty ⟨.ref s.heap.objs.size,_,I.laid (a:=s.heap.objs.size) (o:=.dK []) (t':=s.toks) (fun _ _ q=>Heap.get?_push_of_some _ q) (Nat.le_refl _) (uF s.heap I.big),rfl,h _ (I.Fn.fresh (Nat.le_refl _))⟩
end
abbrev VV:List (V×V)->List (Value×Value)->Prop:=Paired fun p q=>RelV p.1 q.1/\RelV p.2 q.2
def nC(kvs more:List (Key×V)):List (Key×V):=more.foldl (fun acc kv=>jC acc kv.1 kv.2) kvs
theorem KV.merge:∀{more:List (Key×V)}{rs:List (Key×Value)}{kvs:List (Key×V)}{vs:List (Key×Value)},KV more rs->KV kvs vs->KV (nC kvs more) (merged vs rs):=by
 intro more rs kvs vs r;unfold KV at r
 induction r generalizing kvs vs with
 |nil=>intro q;exact q
 |@cons p q ps qs h t ih=>
  intro r0;have e:KV (jC kvs p.1 p.2) (stored vs q.1 q.2):=by
   have:=r0.put p.1 h.2;rw[<-h.1];exact this
  exact ih e
theorem lD:∀(more kvs:List (Key×V)),(nC kvs more).length<=kvs.length+more.length
 |[],kvs=>by show kvs.length<=kvs.length+0;omega
 |p :: r,kvs=>by
  have h1:=lD r (jC kvs p.1 p.2);have h2:=kO kvs p.1 p.2;show(nC (jC kvs p.1 p.2) r).length<=_;rw[List.length_cons];omega
theorem qe{P:Program}{w:World}:∀{kvs:List (Key×V)}{ws:List (Value×Value)},VV (kvs.map fun kv=>(kV kv.1,kv.2)) ws->∃rs,Carries (cV P w) ws rs/\KV kvs rs
 |[],_,r=>by rw[List.map_nil] at r;cases r;exact⟨[],True.intro,.nil⟩
 |p :: kvs,_,r=>by
  rw[List.map_cons] at r;cases r with
  |@cons a b as bs h t=>
   obtain⟨rs,c,q⟩:=qe (P:=P) (w:=w) t;obtain⟨b1,b2⟩:=b;exact⟨(p.1,b2) :: rs,⟨ph h.1,rfl,c⟩,.cons ⟨rfl,h.2⟩ q⟩
structure M1(X:Cx)(o:Expr)(m:Str)(apos:Pos)(e:Expr)(Gb:Pos):Prop where
 base:attributeBase o m X.env (eval o X.env)=eval o X.env
 YL:((backTo Gb (starEach [e] X.env)).all (fun x=>!x.1) && (backToKw Gb (keywordEach [] X.env)).all (fun x=>x.1.isSome)
  && decide (([e]:List Expr).length+([]:List Keyword).length+(if ([]:List Keyword).isEmpty then 0 else 1)<30))=true
 line:(apos.endLine == Gb.line)=true
 trees:backTo Gb (starEach [e] X.env)=[(false,eval e X.env)]
structure M2(X:Cx)(o:Expr)(m:Str)(apos:Pos)(e f:Expr)(Gb:Pos):Prop where
 base:attributeBase o m X.env (eval o X.env)=eval o X.env
 YL:((backTo Gb (starEach [e,f] X.env)).all (fun x=>!x.1) && (backToKw Gb (keywordEach [] X.env)).all (fun x=>x.1.isSome)
  && decide (([e,f]:List Expr).length+([]:List Keyword).length+(if ([]:List Keyword).isEmpty then 0 else 1)<30))=true
 line:(apos.endLine == Gb.line)=true
 trees:backTo Gb (starEach [e,f] X.env)=[(false,eval e X.env),(false,eval f X.env)]
def YM(H:Hp)(a:Addr):Prop:=(∃kvs,Rd H a (.dK kvs))\/∃kvs,Rd H a (.dT kvs)
theorem Dl{X:Cx}{pins:List (Addr×Obj)}{σ:St}{H:Hp}{s:Shared}{a:Addr}(I:Inv X pins σ H s)(d:YM H a) :
  s.TypeIs (.ref a) "dict"/\(∀b,Value.ref a=.ref b->∃ob,s.heap.get? b=some ob/\ob.dict=none)/\(a == sysModules)=false:=by
 rcases d with ⟨kvs,e⟩|⟨kvs,e⟩
 ·obtain⟨_,hd,vs,_,dd⟩:=sD I.Fn e;refine⟨dd.typeIs,fun b q=>?_,hd⟩;cases q;obtain⟨ob,_,_,h1,h2,_⟩:=dd;exact⟨ob,h1,h2.2.1⟩
 ·obtain⟨_,hd,xs,_,dd⟩:=rQ I.Fn e;refine⟨dd.typeIs,fun b q=>?_,hd⟩;cases q;obtain⟨ob,_,_,h1,h2,_⟩:=dd;exact⟨ob,h1,h2.2.1⟩
section
variable{X:Cx}{pins:List (Addr×Obj)}{σ:St}{H:Hp}{s:Shared}{a:Addr}{y d:V}{u r:Value}{o:Option V}{A:Around}{E:Value->Shared->Prop}
end
section
variable{X:Cx}{o e f:Expr}{apos Gb:Pos}{td ty tx:TE}
end
end L2
namespace DL
open PySem PySem.Spec PyProof.Rows L2
def gX(kvs:List (Key×D))(k:Key):Option D:=(kvs.find? fun kv=>decide (kv.1=k)).map (·.2)
def q7(kvs:List (Key×D))(k:Key)(d:D):List (Key×D):=
 if (kvs.any fun kv=>decide (kv.1=k))=true then kvs.map (fun kv=>if kv.1=k then (kv.1,d) else kv) else kvs++[(k,d)]
def vB(kvs:List (Key×D))(k:Key):List (Key×D):=kvs.filter fun kv=>decide (kv.1≠k)
section
variable{K:PySem.W.Frag}{H:Hp}{J:List Addr}
theorem Fb.val:∀{kvs:List (Key×D)}{ws:List (Key×V)}(k:Key),Fb K H J kvs ws->(∀d,gX kvs k=some d->∃v,jW ws k=some v/\r_ K H J d v)/\(gX kvs k=none->jW ws k=none)
 |[],_,k,h=>by
  have h':_=[]:=h;subst h';exact⟨fun d e=>(by cases e),fun _=>rfl⟩
 |(k0,d0) :: r,ws,k,h=>by
  obtain⟨v,t,rfl,h2,h3⟩:=h;by_cases e:k0=k
  ·have e1:gX ((k0,d0) :: r) k=some d0:=by simp[gX,List.find?_cons,e]
   have e2:jW ((k0,v) :: t) k=some v:=mX e;rw[e1,e2];exact⟨fun d q=>⟨v,rfl,by cases q;exact h2⟩,fun q=>(by cases q)⟩
  ·have e1:gX ((k0,d0) :: r) k=gX r k:=by simp[gX,List.find?_cons,e]
   have e2:jW ((k0,v) :: t) k=jW t k:=mG e;rw[e1,e2];exact Fb.val k h3
theorem Fb.Rj:∀{kvs:List (Key×D)}{ws:List (Key×V)}(k:Key),Fb K H J kvs ws->(kvs.any fun kv=>decide (kv.1=k))=ws.any fun kv=>decide (kv.1=k)
 |[],_,k,h=>by
  have h':_=[]:=h;subst h';rfl
 |(k0,d0) :: r,ws,k,h=>by
  obtain⟨v,t,rfl,h2,h3⟩:=h;rw[List.any_cons,List.any_cons,Fb.Rj k h3]
theorem Fb.PY{d:D}{v:V}(hd:r_ K H J d v):∀{kvs:List (Key×D)}{ws:List (Key×V)}(k:Key),Fb K H J kvs ws->
  Fb K H J (kvs.map fun kv=>if kv.1=k then (kv.1,d) else kv) (ws.map fun kv=>if kv.1=k then (kv.1,v) else kv)
 |[],_,k,h=>by
  have h':_=[]:=h;subst h';exact h
 |(k0,d0) :: r,ws,k,h=>by
  obtain⟨v0,t,rfl,h2,h3⟩:=h;rw[List.map_cons,List.map_cons];by_cases e:k0=k
  ·rw[if_pos e,if_pos e];exact⟨v,_,rfl,hd,Fb.PY hd k h3⟩
  ·rw[if_neg e,if_neg e];exact⟨v0,_,rfl,h2,Fb.PY hd k h3⟩
theorem Fb.snoc{d:D}{v:V}(hd:r_ K H J d v):∀{kvs:List (Key×D)}{ws:List (Key×V)}(k:Key),Fb K H J kvs ws->Fb K H J (kvs++[(k,d)]) (ws++[(k,v)])
 |[],_,k,h=>by
  have h':_=[]:=h;subst h';exact⟨v,[],rfl,hd,rfl⟩
 |(k0,d0) :: r,ws,k,h=>by
  obtain⟨v0,t,rfl,h2,h3⟩:=h;exact⟨v0,_,rfl,h2,Fb.snoc hd k h3⟩
theorem Fb.put{d:D}{v:V}(hd:r_ K H J d v){kvs:List (Key×D)}{ws:List (Key×V)}(k:Key)(h:Fb K H J kvs ws):Fb K H J (q7 kvs k d) (jC ws k v):=by
 unfold q7 jC;rw[h.Rj k];by_cases e:(ws.any fun kv=>decide (kv.1=k))=true
 ·rw[if_pos e,if_pos e];exact h.PY hd k
 ·rw[if_neg e,if_neg e];exact h.snoc hd k
theorem Fb.Nq:∀{kvs:List (Key×D)}{ws:List (Key×V)}(k:Key),Fb K H J kvs ws->Fb K H J (vB kvs k) (qG ws k)
 |[],_,k,h=>by
  have h':_=[]:=h;subst h';exact h
 |(k0,d0) :: r,ws,k,h=>by
  obtain⟨v0,t,rfl,h2,h3⟩:=h;unfold vB qG;rw[List.filter_cons,List.filter_cons];by_cases e:decide (k0≠k)=true
  ·rw[if_pos e,if_pos e];exact⟨v0,_,rfl,h2,Fb.Nq k h3⟩
  ·rw[if_neg e,if_neg e];exact Fb.Nq k h3
end
def hZ:D->Option Key
 |.int i=>some (.inl i)
 |.str x=>some (.inr x)
 |_=>none
theorem jB{K:PySem.W.Frag}{H:Hp}{J:List Addr}{x:D}{k:Key}{v:V}(h:hZ x=some k)(r:r_ K H J x v):v=kV k:=by
 cases x with
 |int i=>cases h;cases r.Gu;rfl
 |str i=>cases h;cases r.Nj;rfl
 |_=>cases h
def du(S:List Cell)(n:Nat):Option (List (Key×D)):=match S[n]? with
 |some (.GW kvs)=>some kvs
 |_=>none
theorem wr{S:List Cell}{n:Nat}{kvs:List (Key×D)}(h:du S n=some kvs):S[n]?=some (.GW kvs):=by
 unfold du at h;split at h
 ·rename_i e;cases h;exact e
 ·cases h
theorem eR{S:List Cell}{n:Nat}{kvs:List (Key×D)}(h:S[n]?=some (.GW kvs)):du S n=some kvs:=by unfold du;rw[h]
theorem Fg.GW{K:PySem.W.Frag}{H:Hp}{J:List Addr}{S:List Cell}{n:Nat}{kvs:List (Key×D)}{a:Addr}(rs:Fg K H J S)(h:du S n=some kvs)(hn:J[n]?=some a):∃ws,H a=some (.dK ws)/\Fb K H J kvs ws:=rs.at_ n _ a (wr h) hn
section
variable{X:Cx}{a b o e:Expr}{es:List Expr}{fa fb fo fi fe:s_->M D}{ft:s_->M (List D)}{pos:Pos}
def pY(x y:D):M D:=fun S=>match hZ x,y with
 |some k,.ob n=>(match du S n with
  |some kvs=>.ok (.bl (gX kvs k).isSome) S
  |none=>.bad)
 |_,_=>.bad
def eY(x y:D):M D:=fun S=>match hZ x,y with
 |some k,.ob n=>(match du S n with
  |some kvs=>.ok (.bl (!(gX kvs k).isSome)) S
  |none=>.bad)
 |_,_=>.bad
theorem tK{K:PySem.W.Frag}{H:Hp}{J:List Addr}{S:List Cell}{n:Nat}{kvs:List (Key×D)}{ad:Addr}(rs:Fg K H J S)(h:du S n=some kvs)(hn:J[n]?=some ad)(k:Key) :
  (∀d,gX kvs k=some d->∃v,Js H ad (kV k) (some v)/\r_ K H J d v)/\∃ov,Js H ad (kV k) ov/\ov.isSome=(gX kvs k).isSome:=by
 obtain⟨ws,hv,rp⟩:=rs.GW h hn;obtain⟨h1,h2⟩:=rp.val k;refine⟨fun d e=>?_,jW ws k,Js.k hv,?_⟩
 ·obtain⟨v,e1,e2⟩:=h1 d e;exact⟨v,by rw[<-e1];exact Js.k hv,e2⟩
 ·cases e:gX kvs k with
  |none=>rw[h2 e];rfl
  |some d=>obtain⟨v,e1,_⟩:=h1 d e;rw[e1];rfl
theorem AE(hu:X.A.units+64<cLine):IW X (compareOp .In) pY:=by
 intro pins s σ H J S x y vx vy v u Q E I rs rx ry rv ru m;unfold pY at m;cases ek:hZ x with
 |none=>rw[ek] at m;exact m.elim
 |some k=>
  rw[ek] at m;cases y with
  |ob n=>
   dsimp only at m;obtain⟨ad,rfl,hn⟩:=ry.Im;cases ru;cases ed:du S n with
   |none=>rw[ed] at m;exact m.elim
   |some kvs=>
    rw[ed] at m;have:=jB ek rx;subst this;obtain⟨_,ov,g,e⟩:=tK rs ed hn k;refine EM (by omega) I g rv fun s' I'=>?_
    rw[e];exact m.HL I' rs (r_.bl _ _ _ _) rfl
  |_=>exact m.elim
theorem sE(hu:X.A.units+64<cLine):IW X (compareOp .NotIn) eY:=by
 intro pins s σ H J S x y vx vy v u Q E I rs rx ry rv ru m;unfold eY at m;cases ek:hZ x with
 |none=>rw[ek] at m;exact m.elim
 |some k=>
  rw[ek] at m;cases y with
  |ob n=>
   dsimp only at m;obtain⟨ad,rfl,hn⟩:=ry.Im;cases ru;cases ed:du S n with
   |none=>rw[ed] at m;exact m.elim
   |some kvs=>
    rw[ed] at m;have:=jB ek rx;subst this;obtain⟨_,ov,g,e⟩:=tK rs ed hn k;refine Bm (by omega) I g rv fun s' I'=>?_
    rw[e];exact m.HL I' rs (r_.bl _ _ _ _) rfl
  |_=>exact m.elim
def gq(x y:D):M D:=fun S=>match x,hZ y with
 |.ob n,some k=>(match du S n with
  |some kvs=>(match gX kvs k with
   |some d=>.ok d S
   |none=>.bad)
  |none=>.bad)
 |_,_=>.bad
theorem rm(hu:X.A.units+64<cLine):Qp X gq:=by
 intro value slice pins s σ H J S x y vx vy v u Q E I rs rx ry rv ru hs m;unfold gq at m;cases ek:hZ y with
 |none=>rw[ek] at m;cases x<;>exact m.elim
 |some k=>
  rw[ek] at m;cases x with
  |ob n=>
   dsimp only at m;obtain⟨ad,rfl,hn⟩:=rx.Im;cases rv;cases ed:du S n with
   |none=>rw[ed] at m;exact m.elim
   |some kvs=>
    rw[ed] at m;dsimp only at m;have:=jB ek ry;subst this;cases ev:gX kvs k with
    |none=>rw[ev] at m;exact m.elim
    |some d=>
     rw[ev] at m;obtain⟨h1,_⟩:=tK rs ed hn k;obtain⟨w,g,IJ⟩:=h1 d ev;exact tail_any (uv I g) PySem.F.slot_dict_getitem.lookup (xW (by omega) I g ru fun w' s' I' rr=>m.HL I' rs IJ rr) hs
  |_=>exact m.elim
def kj:s_->M D:=fun _ S=>.ok (.ob S.length) (S++[.GW []])
theorem pe:FR X (.Dict [] [] pos) kj:=by
 intro pins s σ H J r S Q E I m;refine wpAny_mono (AD (X:=X.Fz E) pins s σ H (Got X.K H J (.ob S.length) (S++[.GW []])) (I.inv.Fz E) ?_) (fun u s' q=>m u s' (EP.Fx q)) fun _ _ z=>z
 intro p hp;exact⟨J++[p],(Ext.new hp).snoc _,I.st.push hp ⟨[],bD,rfl⟩,.ob (by rw[<-I.st.len];simp)⟩
def Ua(X:Cx)(g:D->D->D->List Cell->Option (List Cell)):Prop:=∀(pins:Fe) (s:Shared) (σ:L2.St) (H:Hp) (J:List Addr) (S:List Cell) (x y d:D) (vx vy vd:V) (ux uy ud:Value) (S':List Cell) (Q:Unit->Shared->Prop) (E:Value->Shared->Prop),
 Inv X pins σ H s->Fg X.K H J S->r_ X.K H J x vx->r_ X.K H J y vy->r_ X.K H J d vd->RelV vx ux->RelV vy uy->RelV vd ud->g x y d S=some S'->(∀s' H',Inv X pins σ H' s'->Ext H J H' J->Fg X.K H' J S'->Q () s')->wpAny (model X.prog X.w) X.A (setItem ux uy ud) Q E s
def wN(g:D->D->D->List Cell->Option (List Cell))(fo fi fe:s_->M D):Fw:=fun r=>cw (fe r) r fun d=>cw (fo r) r fun x=>cw (fi r) r fun y S=>match g x y d S with
 |some S'=>some (.nx r,S')
 |none=>none
theorem tZ{i:Expr}{pos':Pos}{g:D->D->D->List Cell->Option (List Cell)}(hg:Ua X g)(ho:FR X o fo)(hi:FR X i fi)(he:FR X e fe)(hs:swapsWith e (some (.Subscript o i pos')) pos.line X.env=pure false:=by rfl) :
  L1 X (.Assign [.Subscript o i pos'] e pos) (wN g fo fi fe):=by
 intro pins s σ H J r S Q E I m;refine wpAny_Assign_Subscript (sW he I m fun d S1 ud s1 vd H1 J1 I1 x1 rd ru m1=>sW ho I1 m1 fun x S2 ux s2 vx H2 J2 I2 x2 rx YN m2=>sW hi I2 m2 fun y S3 uy s3 vy H3 J3 I3 x3 ry YO m3=>?_) hs;cases eg:g x y d S3 with
 |none=>rw[eg] at m3;exact m3.elim
 |some S'=>
  rw[eg] at m3;exact hg pins s3 σ H3 J3 S3 x y d vx vy vd ux uy ud S' _ E I3.inv I3.st (rx.ext x3) ry ((rd.ext x2).ext x3) YN YO ru eg fun s' H' I' x' MT=>m3 s' σ H' J3 ⟨I',I3.loc.ext x',MT⟩ x'
def pi(x y d:D)(S:List Cell):Option (List Cell):=match x,hZ y with
 |.ob n,some k=>(match du S n with
  |some kvs=>Hq (kvs.length<sizeLine) (some (S.set n (.GW (q7 kvs k d)))) none
  |none=>none)
 |_,_=>none
theorem xA(hu:X.A.units+64<cLine):Ua X pi:=by
 intro pins s σ H J S x y d vx vy vd ux uy ud S' Q E I rs rx ry rd Ub Uc Ud eg k;unfold pi at eg;cases ek:hZ y with
 |none=>rw[ek] at eg;cases x<;>cases eg
 |some ky=>
  rw[ek] at eg;cases x with
  |ob n=>
   dsimp only at eg;obtain⟨ad,rfl,hn⟩:=rx.Im;cases Ub;cases ed:du S n with
   |none=>rw[ed] at eg;cases eg
   |some kvs=>
    rw[ed] at eg;dsimp only at eg;unfold Hq at eg;split at eg
    ·rename_i hz;cases eg;have:=jB ek ry;subst this;obtain⟨ws,hv,rp⟩:=rs.GW ed hn;refine xS (by omega) I (MV.k hv (by rw[rp.length];exact hz)) Uc Ud fun s' I'=>?_
     have x':Ext H J (upd H ad (.dK (jC ws ky vd))) J:=Ext.write hv rfl;exact k s' _ I' x' (rs.write hn ⟨_,bD,(rp.ext x').put (rd.ext x') ky⟩)
    ·cases eg
  |_=>cases eg
def n8(x y d:D)(S:List Cell):Option (List Cell):=match x,y with
 |.ob n,.int i=>(match cz S n with
  |some xs=>(match My xs.length i with
   |some j=>some (S.set n (.lst (xs.set j d)))
   |none=>none)
  |none=>none)
 |_,_=>none
theorem xQ:Ua X n8:=by
 intro pins s σ H J S x y d vx vy vd ux uy ud S' Q E I rs rx ry rd Ub Uc Ud eg k;unfold n8 at eg;cases x with
 |ob n=>
  cases y with
  |int i=>
   dsimp only at eg;obtain⟨ad,rfl,hn⟩:=rx.Im;cases ry.Gu;cases ed:cz S n with
   |none=>rw[ed] at eg;cases eg
   |some xs=>
    rw[ed] at eg;dsimp only at eg;cases ej:My xs.length i with
    |none=>rw[ej] at eg;cases eg
    |some j=>
     rw[ej] at eg;cases eg;obtain⟨ws,hv,IJ⟩:=rs.lst ed hn;refine wpAny_mono (z0 (X:=X.Fz E) pins s σ H (.ref ad) (.int i) vd ux uy ud (fun H'=>H'=upd H ad (.lst (ws.set j vd))) (I.Fz E) Ub Uc Ud ⟨ad,ws,i,j,rfl,rfl,hv,by rw[IJ.length];exact ej,rfl⟩) (fun _ s' q=>?_) fun _ _ z=>z
     obtain⟨H',I',rfl⟩:=q;have x':Ext H J (upd H ad (.lst (ws.set j vd))) J:=Ext.write hv rfl;exact k s' _ I'.Fx x' (rs.write hn ⟨_,bD,j_.set (rd.ext x') j (IJ.ext x')⟩)
  |_=>cases eg
 |_=>cases eg
def Br(x:D):M Unit:=fun S=>match x with
 |.ob n=>(match du S n with
  |some _=>.ok () S
  |none=>.bad)
 |_=>.bad
def yo(g:D->List D->M D)(fo:s_->M D)(ft:s_->M (List D)):s_->M D:=fun r=>(fo r).bind fun x=>(Br x).bind fun _=>(ft r).bind fun xs=>g x xs
theorem Dy{name:Str}{apos Gb:Pos}{id:String}{g:D->List D->M D}(slot:Slot "dict" name id)(TZ:typeOf (.builtin id)=pure (.type "method_descriptor"))(hm:PV X id g)
  (ho:FR X o fo) (ha:Lq X (e :: es) ft)
  (JD:attributeBase o name X.env (eval o X.env)=eval o X.env:=by rfl)
  (Mc:((backTo Gb (starEach (e :: es) X.env)).all (fun x=>!x.1) && (backToKw Gb (keywordEach [] X.env)).all (fun x=>x.1.isSome)
   && decide ((e :: es).length+([]:List Keyword).length+(if ([]:List Keyword).isEmpty then 0 else 1)<30))=true:=by rfl)
  (JE:(apos.endLine == Gb.line)=true:=by rfl) (hs:starEach (e :: es) X.env=(false,eval e X.env) :: starEach es X.env:=by rfl) (JF:(backTo Gb (starEach es X.env)).any (·.1)=false:=by rfl) :
  FR X (.Call (.Attribute o name apos) (e :: es) [] Gb) (yo g fo ft):=by
 intro pins s σ H J r S Q E I m;refine wpAny_Call_method_late JD Mc JE rfl (ho pins s σ H J r S _ E I ?_);unfold yo M.bind at m;cases e1:fo r S with
 |bad=>rw[e1] at m;exact m
 |exc c S1=>rw[e1] at m;exact m
 |ok x S1=>
  rw[e1] at m;dsimp only at m;rintro v s1 ⟨vx,H1,I1,r1,J1,HJ,Ic,Hn⟩;cases x with
  |ob n=>
   obtain⟨a,rfl,hn⟩:=Hn.Im;simp only[Br] at m;cases e2:du S1 n with
   |none=>rw[e2] at m;exact m.elim
   |some kvs=>
    rw[e2] at m;obtain⟨ws,hv,FK⟩:=Ic.GW e2 hn;cases r1;obtain⟨h1,h2,_⟩:=Dl I1 (.inl ⟨ws,.inl hv⟩);refine⟨"dict",id,PySem.F.plainAttrs_dict,slot,TZ,h1,h2,?_⟩;have m:=Mt.ext HJ m;have hA:=CU (k:=fun xs=>g (.ob n) xs) (Q':=fun us s2=>wpAny (model X.prog X.w) X.A (call (.builtin id) (.ref a :: us)) Q E s2) ha ⟨I1,I.loc.ext HJ,Ic⟩ m (fun xs S2 s2 H2 J2 vs us I2 x2 rv r2 m2=>?_) Gb
    ·rw[hs] at hA ⊢;exact Calls.callWith_builtin (by show(false || (backTo Gb (starEach es X.env)).any (·.1))=false;rw[JF]<;>rfl) (Calls.evalArgs_plain hA)
    ·exact hm pins s2 σ H2 J2 S2 (.ob n) xs (.ref a) vs (.ref a) us Q E I2.inv I2.st (Hn.ext x2) rv rfl r2 m2
  |_=>exact m.elim
def uR:D->List D->M D
 |.ob n,[y]=>fun S=>match hZ y,du S n with
  |some k,some kvs=>(match gX kvs k with
   |some d=>.ok d (S.set n (.GW (vB kvs k)))
   |none=>.bad)
  |_,_=>.bad
 |_,_=>M.bad
theorem BM:PV X "dict.pop" uR:=by
 intro pins s σ H J S x xs vx vs v us Q E I rs rx K2 rv FK m;cases x with
 |ob n=>
  match xs,m,K2 with
  |[y],m,K2=>
   obtain⟨ad,rfl,hn⟩:=rx.Im;obtain⟨w,rfl,IJ⟩:=K2.ID;obtain⟨u,rfl,ru⟩:=FK.one;cases rv;simp only[uR] at m;cases ek:hZ y with
   |none=>rw[ek] at m;exact m.elim
   |some k=>
    rw[ek] at m;cases ed:du S n with
    |none=>rw[ed] at m;exact m.elim
    |some kvs=>
     rw[ed] at m;dsimp only at m;cases ev:gX kvs k with
     |none=>rw[ev] at m;exact m.elim
     |some d=>
      rw[ev] at m;have:=jB ek IJ;subst this;obtain⟨ws,hv,rp⟩:=rs.GW ed hn;obtain⟨vd,e1,rd⟩:=(rp.val k).1 d ev;refine Ee I hv ru e1 (.inl rfl) fun w' s' I' rr=>?_
      have x':Ext H J (upd H ad (.dK (qG ws k))) J:=Ext.write hv rfl;exact m w' s' ⟨vd,_,I',rr,J,x',rs.write hn ⟨_,bD,(rp.ext x').Nq k⟩,rd.ext x'⟩
  |[],m,_=>exact m.elim
  |_ :: _ :: _,m,_=>exact m.elim
 |_=>exact m.elim
end
end DL
namespace DL
open PySem PySem.Spec PyProof.Rows L2
theorem oP(l:Addr)(items:Array Value)(n:Nat)(b:Addr)(JG:Array Value)(n2:Nat)(dd:Option Addr)(sl:Array (Option Value))(Wx:¬(!items.isEmpty && Builtin.List.listTooLong (items.size+JG.size))=true)(YQ:items.size<=sizeLine)(KO:items.size+JG.size<=sizeLine+1) :
  Meets (Builtin.«list.extend» ⟨[.ref l,.ref b],[]⟩) (fun _ R s=>s.heap.get? l=some { cls:=.type "list",dict:=none,data:=.seq items n,slots:=#[] }/\s.heap.get? b=some { cls:=.type "tuple",dict:=dd,data:=.seq JG n2,slots:=sl }/\R (.ok (.ret Value.none)) { s with heap:=s.heap.update l (Obj.mapSeq fun x=>x++JG),toks:=s.toks }):=
 .of_wp fun prog w A R s h=>by
  obtain⟨hp,g,d,tk,os⟩:=s;obtain⟨hl,hb,h⟩:=h;have f1:=PySem.AutoSeq1.idx_int;have f2:=PySem.AutoSeq1.sub_tuple_tuple;have f3:=PySem.AutoSeq1.sub_list_list;have f4:=PySem.AutoSeq1.sub_tuple_list;have f5:=PySem.AutoSeq1.sub_list_tuple;have Qy:(items++JG).size<=sizeLine+1:=by rw[Array.size_append];exact KO
  wp_walk using (wpAny_updateSeq hl rfl (hz:=YQ) (_hz':=Qy)),wpAny_loadPart' hl,wpAny_loadPart' hb
  exact⟨_,rfl,h⟩
section
variable{X:Cx}
def rA:D->List D->M D
 |.ob n,[.tup ys]=>fun S=>match cz S n with
  |some xs=>Hq (xs.length+ys.length<=sizeLine) (.ok .D_ (S.set n (.lst (xs++ys)))) .bad
  |none=>.bad
 |_,_=>M.bad
theorem nJ:PV X "list.extend" rA:=by
 intro pins s σ H J S x xs vx vs v us Q E I rs rx K2 rv FK m;cases x with
 |ob n=>
  match xs,m,K2 with
  |[.tup ys],m,K2=>
   obtain⟨ad,rfl,hn⟩:=rx.Im;obtain⟨w,rfl,IJ⟩:=K2.ID;obtain⟨u,rfl,ru⟩:=FK.one;cases rv;obtain⟨b,zs,rfl,hq,rz⟩:=IJ.IC;cases ru;simp only[rA,Hq] at m;cases ed:cz S n with
   |none=>rw[ed] at m;exact m.elim
   |some Sg=>
    rw[ed] at m;dsimp only at m;split at m
    ·rename_i hz;obtain⟨ws,hv,rws⟩:=rs.lst ed hn;obtain⟨z,w_,n1,r,hl,e⟩:=I.LD hv;obtain⟨LF,r2,ht,WK⟩:=I.tuple hq;obtain⟨⟨QW,Ql,data2,Qm⟩,MO,O5,n2,hd2⟩:=id ht;simp only at O5 hd2;subst O5 hd2;have M_:=r2.length;have l1:=rws.length;have l2:=rz.length;have hsz:w_.toArray.size+LF.toArray.size<=sizeLine:=by rw[List.size_toArray,List.size_toArray];omega
     have Nh:¬(!w_.toArray.isEmpty && Builtin.List.listTooLong (w_.toArray.size+LF.toArray.size))=true:=by
      rw[uZ hsz,Bool.and_false];exact Bool.false_ne_true
     refine call_meets F.slot_list_extend ⟨_,e,rfl⟩ F.entry_list_extend (F.args_list_extend_2 _ _) (oP ad w_.toArray n1 b LF.toArray n2 Ql Qm Nh (by rw[List.size_toArray];omega) (by omega)) ⟨e,MO,?_⟩;have x':Ext H J (upd H ad (.lst (ws++zs))) J:=Ext.write hv rfl;refine m _ _ ⟨.D_,_,I.Oe (its':=w_++LF) hv e (by simp) (r.append r2) (by rw[List.length_append];omega),rfl,J,x',rs.write hn ⟨_,bD,(rws.ext x').append (rz.ext x')⟩,r_.D_ _ _ _⟩
    ·exact m.elim
  |[],m,_=>exact m.elim
  |[.D_],m,_=>exact m.elim
  |[.bl _],m,_=>exact m.elim
  |[.int _],m,_=>exact m.elim
  |[.str _],m,_=>exact m.elim
  |[.Gp _],m,_=>exact m.elim
  |[.ob _],m,_=>exact m.elim
  |[.xn _],m,_=>exact m.elim
  |y :: _ :: _,m,_=>cases y<;>exact m.elim
 |_=>exact m.elim
theorem j_.eraseIdx{K:PySem.W.Frag}{H:Hp}{J:List Addr}:∀{xs:List D}{vs:List V}(i:Nat),j_ K H J xs vs->j_ K H J (xs.eraseIdx i) (vs.eraseIdx i)
 |[],_,i,h=>by unfold j_ at h;subst h;simp;exact .nil
 |x :: xs,vs,0,h=>by
  unfold j_ at h;obtain⟨v,r,h1,h2,h3⟩:=h;subst h1;exact h3
 |x :: xs,vs,i+1,h=>by
  unfold j_ at h;obtain⟨v,r,h1,h2,h3⟩:=h;subst h1;exact .cons h2 (j_.eraseIdx i h3)
def wS:D->List D->M D
 |.ob n,[.int i]=>fun S=>match cz S n with
  |some xs=>Hq (0<=i/\i<xs.length) (match xs[i.toNat]? with
   |some d=>.ok d (S.set n (.lst (xs.eraseIdx i.toNat)))
   |none=>.bad) .bad
  |none=>.bad
 |_,_=>M.bad
theorem zo:PV X "list.pop" wS:=by
 intro pins s σ H J S x xs vx vs v us Q E I rs rx K2 rv FK m;cases x with
 |ob n=>
  match xs,m,K2 with
  |[.int i],m,K2=>
   obtain⟨ad,rfl,hn⟩:=rx.Im;obtain⟨w,rfl,IJ⟩:=K2.ID;cases IJ.Gu;simp only[wS,Hq] at m;cases ed:cz S n with
   |none=>rw[ed] at m;exact m.elim
   |some Sg=>
    rw[ed] at m;dsimp only at m;split at m
    ·rename_i hz;cases e3:Sg[i.toNat]? with
     |none=>rw[e3] at m;exact m.elim
     |some d=>
      rw[e3] at m;obtain⟨ws,hv,rws⟩:=rs.lst ed hn;obtain⟨w,hw,IJ⟩:=rws.get e3;have hl:=rws.length;have Ue:=lW;have hz0:=(I.LD hv).1;refine wpAny_mono (yW (X:=X.Fz E) pins s σ H (.ref ad) [.int i] v us (Got X.K H J d (S.set n (.lst (Sg.eraseIdx i.toNat)))) (I.Fz E) rv FK ⟨ad,ws,i,i.toNat,w,rfl,rfl,hv,by omega,by omega,seqIndex_of hz.1 (by rw[hl];exact hz.2),hw,?_⟩) (fun u s' q=>m u s' (EP.Fx q)) fun _ _ z=>z
      have x':Ext H J (upd H ad (.lst (ws.eraseIdx i.toNat))) J:=Ext.write hv rfl;exact⟨J,x',rs.write hn ⟨_,bD,j_.eraseIdx _ (rws.ext x')⟩,IJ.ext x'⟩
    ·exact m.elim
  |[],m,_=>exact m.elim
  |[.D_],m,_=>exact m.elim
  |[.bl _],m,_=>exact m.elim
  |[.tup _],m,_=>exact m.elim
  |[.str _],m,_=>exact m.elim
  |[.Gp _],m,_=>exact m.elim
  |[.ob _],m,_=>exact m.elim
  |[.xn _],m,_=>exact m.elim
  |y :: _ :: _,m,_=>cases y<;>exact m.elim
 |_=>exact m.elim
def vg:D->List D->M D
 |.ob n,[.int i,y]=>fun S=>match cz S n with
  |some xs=>Hq ((0<=i/\i<=xs.length)/\xs.length<sizeLine) (.ok .D_ (S.set n (.lst (xs.take i.toNat++y :: xs.drop i.toNat)))) .bad
  |none=>.bad
 |_,_=>M.bad
theorem xX:PV X "list.insert" vg:=by
 intro pins s σ H J S x xs vx vs v us Q E I rs rx K2 rv FK m;cases x with
 |ob n=>
  match xs,m,K2 with
  |[.int i,y],m,K2=>
   obtain⟨ad,rfl,hn⟩:=rx.Im;obtain⟨w1,w2,rfl,YR,YS⟩:=K2.Oo;cases YR.Gu;obtain⟨u1,u2,rfl,YT,YU⟩:=FK.two;obtain⟨t1,rfl⟩:=YT;cases rv;simp only[vg,Hq] at m;cases ed:cz S n with
   |none=>rw[ed] at m;exact m.elim
   |some Sg=>
    rw[ed] at m;dsimp only at m;split at m
    ·rename_i hz;obtain⟨ws,hv,rws⟩:=rs.lst ed hn;obtain⟨z,w_,n1,r,hl,e⟩:=I.LD hv;have l1:=rws.length;have Ue:=lW;have Ng:Builtin.List.listFitsIndex i=true:=fitsIndex_both (by omega) (by omega);refine call_meets PySem.F.slot_list_insert ⟨_,e,rfl⟩ PySem.F.entry_list_insert (PySem.F.args_list_insert_3 _ _ _) (PySem.AutoSeq1.list_insert_list_int_val_1 ad w_.toArray n1 i t1 u2 (by simp[Ng]) (by rw[List.size_toArray];omega)) ⟨e,?_⟩;have x':Ext H J (upd H ad (.lst (ws.take i.toNat++w2 :: ws.drop i.toNat))) J:=Ext.write hv rfl;refine m _ _ ⟨.D_,_,I.Oe (its':=w_.take i.toNat++u2 :: w_.drop i.toNat) hv e ?_ ((r.take _).append (.cons YU (r.drop _))) ?_,rfl,J,x',rs.write hn ⟨_,bD,((rws.ext x').take _).append (.cons (YS.ext x') ((rws.ext x').drop _))⟩,r_.D_ _ _ _⟩
     ·have h0:¬i<0:=by omega
      have hk:min i.toNat w_.toArray.size=i.toNat:=by rw[List.size_toArray];omega
      simp only[if_neg h0,hk];apply Array.toList_inj.mp;simp;exact List.take_of_length_le (by rw[List.length_drop];exact Nat.le_refl _)
     ·rw[List.length_append,List.length_cons,List.length_take,List.length_drop];omega
    ·exact m.elim
  |[],m,_=>exact m.elim
  |[.int _],m,_=>exact m.elim
  |[.D_],m,_=>exact m.elim
  |[.bl _],m,_=>exact m.elim
  |[.tup _],m,_=>exact m.elim
  |[.str _],m,_=>exact m.elim
  |[.Gp _],m,_=>exact m.elim
  |[.ob _],m,_=>exact m.elim
  |[.xn _],m,_=>exact m.elim
  |.D_ :: _ :: _,m,_=>exact m.elim
  |.bl _ :: _ :: _,m,_=>exact m.elim
  |.tup _ :: _ :: _,m,_=>exact m.elim
  |.str _ :: _ :: _,m,_=>exact m.elim
  |.Gp _ :: _ :: _,m,_=>exact m.elim
  |.ob _ :: _ :: _,m,_=>exact m.elim
  |.xn _ :: _ :: _,m,_=>exact m.elim
  |.int _ :: _ :: _ :: _,m,_=>exact m.elim
 |_=>exact m.elim
end
end DL
namespace DL
open PySem PySem.Spec PyProof.Rows L2
section
variable{X:Cx}
theorem dR{n:Nat}{g:s_->M (List D)}(h:∀(r:s_) (S:List Cell) (xs:List D) (S':List Cell),g r S=.ok xs S'->xs.length=n):∀(r:s_) (S:List Cell) (xs:List D) (S':List Cell),g r S=.ok xs S'->xs.length+1=n+1:=
 fun r S xs S' e=>by rw[h r S xs S' e]
def rG:s_->M (List (D×D)):=fun _=>M.ret []
def iD(fk fv:s_->M D)(f:s_->M (List (D×D))):s_->M (List (D×D)):=fun r=>(fk r).bind fun k=>(fv r).bind fun v=>(f r).bind fun ps=>M.ret ((k,v) :: ps)
def QA(X:Cx)(pins:Fe)(σ:L2.St)(H:Hp)(J:List Addr)(r:R (List (D×D)))(Q:List (Value×Value)->Shared->Prop)(E:Value->Shared->Prop):Prop:=match r with
 |.ok ps S'=>∀us s',(∃vs H' J',Inv X pins σ H' s'/\VV vs us/\Ext H J H' J'/\Fg X.K H' J' S'/\j_ X.K H' J' (ps.map (·.1)) (vs.map (·.1))/\j_ X.K H' J' (ps.map (·.2)) (vs.map (·.2)))->Q us s'
 |.exc c S'=>∀e s',XP X pins σ c (Iz X.K H J S') e s'->E e s'
 |.bad=>False
theorem QA.ext{pins:Fe}{σ:L2.St}{H H1:Hp}{J J1:List Addr}{r:R (List (D×D))}{Q:List (Value×Value)->Shared->Prop}{E:Value->Shared->Prop}(e:Ext H J H1 J1)(h:QA X pins σ H J r Q E):QA X pins σ H1 J1 r Q E:=by
 cases r with
 |ok d S=>exact fun u s' ⟨v,H',J',I,rv,x,g⟩=>h u s' ⟨v,H',J',I,rv,e.trans x,g⟩
 |exc c S=>exact fun u s' x=>h u s' (x.ext e)
 |bad=>exact h
def Sh(X:Cx)(pos:Pos)(keys:List (Option Expr))(values:List Expr)(f:s_->M (List (D×D))):Prop:=∀(pins:Fe) (s:Shared) (σ:L2.St) (H:Hp) (J:List Addr) (r:s_) (S:List Cell) (Q:List (Value×Value)->Shared->Prop) (E:Value->Shared->Prop),
 At X pins σ H J r S s->QA X pins σ H J (f r S) Q E->wpAny (model X.prog X.w) X.A (evalPairs (pairTrees keys values X.env pos)) Q E s
theorem Bs{pos:Pos}:Sh X pos [] [] rG:=fun pins s σ H J r S Q E I m=>pairTrees_nil_walk (m [] s ⟨[],H,J,I.inv,.nil,Ext.refl _ _,I.st,.nil,.nil⟩)
theorem ut{pos:Pos}{k v:Expr}{ks:List (Option Expr)}{vs:List Expr}{fk fv:s_->M D}{f:s_->M (List (D×D))}(hk:FR X k fk)(hv:FR X v fv)(hr:Sh X pos ks vs f):Sh X pos (some k :: ks) (v :: vs) (iD fk fv f):=by
 intro pins s σ H J r S Q E I m;refine pairTrees_cons_walk (hk pins s σ H J r S _ E I ?_);unfold iD M.bind at m;cases e1:fk r S with
 |bad=>rw[e1] at m;exact m
 |exc c S1=>rw[e1] at m;exact m
 |ok x S1=>
  rw[e1] at m;intro u1 s1 ⟨v1,H1,I1,r1,J1,x1,Ic,Hn⟩;have m:=QA.ext x1 m;dsimp only at m;refine hv pins s1 σ H1 J1 r S1 _ E ⟨I1,I.loc.ext x1,Ic⟩ ?_;cases e2:fv r S1 with
  |bad=>rw[e2] at m;exact m
  |exc c S2=>rw[e2] at m;exact m
  |ok y S2=>
   rw[e2] at m;intro u2 s2 ⟨v2,H2,I2,r2,J2,x2,IA,KY⟩;have m:=QA.ext x2 m;dsimp only at m;refine hr pins s2 σ H2 J2 r S2 _ E ⟨I2,(I.loc.ext x1).ext x2,IA⟩ ?_;cases e3:f r S2 with
   |bad=>rw[e3] at m;exact m
   |exc c S3=>rw[e3] at m;exact m
   |ok ps S3=>
    rw[e3] at m;intro us s3 ⟨YV,H3,J3,I3,rel,x3,O6,ra,rb⟩;exact m _ s3 ⟨(v1,v2) :: YV,H3,J3,I3,.cons ⟨r1,r2⟩ rel,x3,O6,.cons ((Hn.ext x2).ext x3) ra,.cons (KY.ext x3) rb⟩
def oH:List (D×D)->Option (List (Key×D))
 |[]=>some []
 |(k,d) :: r=>match hZ k,oH r with
  |some k',some t=>some ((k',d) :: t)
  |_,_=>none
def tM(kvs more:List (Key×D)):List (Key×D):=more.foldl (fun acc kv=>q7 acc kv.1 kv.2) kvs
def pj(f:s_->M (List (D×D))):s_->M D:=fun r S=>match f r (S++[.GW []]) with
 |.ok ps S1=>(match du S1 S.length,oH ps with
  |some [],some kvs=>Hq (kvs.length<=15) (.ok (.ob S.length) (S1.set S.length (.GW (tM [] kvs)))) .bad
  |_,_=>.bad)
 |.exc c S1=>.exc c S1
 |.bad=>.bad
theorem sm{K:PySem.W.Frag}{H:Hp}{J:List Addr}:∀{ps:List (D×D)}{vs:List (V×V)}{kvs:List (Key×D)},oH ps=some kvs->j_ K H J (ps.map (·.1)) (vs.map (·.1))->j_ K H J (ps.map (·.2)) (vs.map (·.2))->
  ∃ws:List (Key×V),vs=ws.map (fun kv=>(kV kv.1,kv.2))/\Fb K H J kvs ws/\ws.length=kvs.length
 |[],vs,kvs,e,ra,rb=>by
  cases e;have:=ra.length;cases vs with
  |nil=>exact⟨[],rfl,rfl,rfl⟩
  |cons v vs=>simp at this
 |(k,d) :: r,vs,kvs,e,ra,rb=>by
  cases vs with
  |nil=>have:=ra.length;simp at this
  |cons v vs=>
   unfold oH at e;cases e1:hZ k with
   |none=>rw[e1] at e;cases e
   |some k'=>
    rw[e1] at e;cases e2:oH r with
    |none=>rw[e2] at e;cases e
    |some t=>
     rw[e2] at e;cases e;rw[List.map_cons,List.map_cons] at ra rb;unfold j_ at ra rb;obtain⟨a1,a2,a3,a4,a5⟩:=ra;obtain⟨b1,b2,b3,b4,b5⟩:=rb
     injection a3 with a6 a7
     injection b3 with b6 b7
     subst a6 a7 b6 b7;obtain⟨ws,h1,h2,h3⟩:=sm e2 a5 b5;refine⟨(k',v.2) :: ws,?_,⟨v.2,ws,rfl,b4,h2⟩,by simp[h3]⟩;rw[List.map_cons,<-h1,<-jB e1 a4]
theorem Fb.merge{K:PySem.W.Frag}{H:Hp}{J:List Addr}:∀{more:List (Key×D)}{ms:List (Key×V)}{kvs:List (Key×D)}{ws:List (Key×V)},Fb K H J more ms->Fb K H J kvs ws->Fb K H J (tM kvs more) (nC ws ms)
 |[],_,kvs,ws,h,g=>by
  have h':_=[]:=h;subst h';exact g
 |(k,d) :: r,ms,kvs,ws,h,g=>by
  obtain⟨v,t,rfl,h2,h3⟩:=h;exact Fb.merge (kvs:=q7 kvs k d) (ws:=jC ws k v) h3 (g.put h2 k)
theorem AK{pos:Pos}{keys:List (Option Expr)}{values:List Expr}{f:s_->M (List (D×D))}(h:Sh X pos keys values f)(Pz:keys.all (·.isSome)=true:=by rfl)(hl:keys.length=values.length:=by rfl)(h0:keys≠[]:=by simp)
  (YW:keys.length<=15:=by decide):FR X (.Dict keys values pos) (pj f):=by
 intro pins s σ H J r S Q E I m;have hn:=I.inv.Fn.fresh (Nat.le_refl s.heap.objs.size);have I1:=I.inv.laid (a:=s.heap.objs.size) (o:=.dK []) (h':=s.heap.push { cls:=.type "dict",data:=.dict #[] }) (t':=s.toks) (fun _ _ q=>Heap.get?_push_of_some _ q) (Nat.le_refl _) (uF s.heap I.inv.big);have x1:Ext H J (upd H s.heap.objs.size (.dK [])) (J++[s.heap.objs.size]):=(Ext.new hn).snoc _;have Ic:Fg X.K (upd H s.heap.objs.size (.dK [])) (J++[s.heap.objs.size]) (S++[.GW []]):=I.st.push hn ⟨[],bD,rfl⟩;have hJ:(J++[s.heap.objs.size])[S.length]?=some s.heap.objs.size:=by rw[<-I.st.len];simp
 refine wpAny_Dict_walk (knd:=cV X.prog X.w) Pz hl h0 YW (h pins _ σ _ _ r (S++[.GW []]) _ E ⟨I1,I.loc.ext x1,Ic⟩ ?_);unfold pj at m;cases e1:f r (S++[.GW []]) with
 |bad=>rw[e1] at m;exact m
 |exc c S1=>rw[e1] at m;exact fun u s' x=>m u s' (x.ext x1)
 |ok ps S1=>
  rw[e1] at m;have m:=Mt.ext x1 m;intro us s2 ⟨vs,H2,J2,I2,rel,x2,IA,ra,rb⟩;have m:=Mt.ext x2 m;dsimp only at m;have Ug:J2[S.length]?=some s.heap.objs.size:=by
   obtain⟨mm,em⟩:=x2.pre;rw[em,List.getElem?_append_left (List.getElem?_eq_some_iff.mp hJ).1];exact hJ
  cases e2:du S1 S.length with
  |none=>rw[e2] at m;exact m.elim
  |some Uh=>
   rw[e2] at m;cases Uh with
   |cons p q=>exact m.elim
   |nil=>
    cases e3:oH ps with
    |none=>rw[e3] at m;exact m.elim
    |some kvs=>
     rw[e3] at m;dsimp only at m;unfold Hq at m;split at m
     ·rename_i hz;obtain⟨ws,rfl,rp,R6⟩:=sm e3 ra rb;obtain⟨w0,hv,YX⟩:=IA.GW e2 Ug;have Ui:w0=[]:=YX;subst Ui;obtain⟨rs,c,rk⟩:=qe (P:=X.prog) (w:=X.w) rel;obtain⟨z,hd,vs0,r0,dd⟩:=AB I2.Fn hv;cases r0;refine⟨rs,c,dd,fun h' N8 hs=>?_⟩;have Qy:(nC [] ws).length<=sizeLine:=by
       have h1:=lD ws [];rw[List.length_nil] at h1;rw[sizeLine_eq];omega
      have he:∃q,h'.get? s.heap.objs.size=some q:=let ⟨q,_,_,hq,_⟩:=N8;⟨q,hq⟩
      have x':Ext H2 J2 (upd H2 s.heap.objs.size (.dK (nC [] ws))) J2:=Ext.write hv rfl;exact m _ _ ⟨.ref s.heap.objs.size,_,o8 I2 (by rw[hv];exact True.intro) hs he (vR Qy hd (rk.merge .nil) N8),rfl,J2,x',IA.write Ug ⟨_,bD,(rp.ext x').merge rfl⟩,.ob Ug⟩
     ·exact m.elim
end
end DL
namespace DL
open PySem PySem.Spec PyProof.Rows L2
theorem Nr{n:Nat}(h:n<=1000000):n<sizeLine:=Nat.lt_of_le_of_lt h (by rw[sizeLine_eq];decide)
section
variable{α β:Type}{S:List Cell}{r:s_}
@[simp] theorem av(m:M α)(k:α->M β):(m.bind k) S=match m S with
 |.ok a S'=>k a S'
 |.exc c S'=>.exc c S'
 |.bad=>.bad:=rfl
@[simp] theorem kD(a:α):(M.ret a) S=.ok a S:=rfl
@[simp] theorem kg(i:Nat):aa i r S=match r[i]? with
 |some (some d)=>.ok d S
 |_=>.bad:=rfl
@[simp] theorem tj(d:D):dC d r S=.ok d S:=rfl
@[simp] theorem E3(g:D->D->M D)(fa fb:s_->M D):f_ g fa fb r=(fa r).bind fun x=>(fb r).bind fun y=>g x y:=rfl
@[simp] theorem E5(g:D->M D)(fa:s_->M D):Qz g fa r=(fa r).bind g:=rfl
@[simp] theorem Et(g:List D->M D)(ft:s_->M (List D)):am g ft r=(ft r).bind g:=rfl
@[simp] theorem EC:ai r=M.ret []:=rfl
@[simp] theorem Em(f:s_->M D)(g:s_->M (List D)):ac f g r=(f r).bind fun x=>(g r).bind fun xs=>M.ret (x :: xs):=rfl
@[simp] theorem Er(f:s_->M D):al f r=(f r).bind PC:=rfl
@[simp] theorem Ct(b:Bool):PC (.bl b) S=.ok b S:=rfl
@[simp] theorem cO(f:s_->M D):bR f r=(f r).bind tF:=rfl
@[simp] theorem DM(b:Bool):tF (.bl b) S=.ok b S:=rfl
@[simp] theorem cL(t u:s_->M Bool):cX t u r=(t r).bind fun c=>if c=true then u r else M.ret false:=rfl
@[simp] theorem d7(t u:s_->M Bool):G8 t u r=(t r).bind fun c=>if c=true then M.ret true else u r:=rfl
@[simp] theorem cP(t:s_->M Bool):cW t r=(t r).bind fun c=>M.ret (!c):=rfl
@[simp] theorem fV(fa fb:s_->M D):im fa fb r=(al fa r).bind fun c=>if c=true then fb r else M.ret (.bl false):=rfl
@[simp] theorem E2(fa fb:s_->M D):EU fa fb r=(al fa r).bind fun c=>if c=true then M.ret (.bl true) else fb r:=rfl
@[simp] theorem Ep(fa:s_->M D):zu fa r=(al fa r).bind fun c=>M.ret (.bl (!c)):=rfl
@[simp] theorem zE(t:s_->M Bool)(fa fb:s_->M D):Qn t fa fb r=(t r).bind fun c=>if c=true then fa r else fb r:=rfl
@[simp] theorem uT(g g':D->D->M D)(fa fb fc:s_->M D):jb g g' fa fb fc r=(fa r).bind fun x=>(fb r).bind fun y=>((g x y).bind PC).bind fun k=>if k=true then (fc r).bind fun z=>g' y z else M.ret (.bl false):=rfl
@[simp] theorem Ey(ft:s_->M (List D)):cn ft r=(ft r).bind nE:=rfl
@[simp] theorem EO(ft:s_->M (List D)):bV ft r=(ft r).bind nF:=rfl
@[simp] theorem lE(g:D->Option Int->Option Int->M D)(fe:s_->M D)(fl fh:s_->M (Option Int)):HP g fe fl fh r=(fe r).bind fun x=>(fl r).bind fun l=>(fh r).bind fun h=>g x l h:=rfl
@[simp] theorem d3:bT r=M.ret none:=rfl
@[simp] theorem eZ(f:s_->M D):bP f r=(f r).bind zp:=rfl
@[simp] theorem gc(i:Int):zp (.int i)=M.ret (some i):=rfl
@[simp] theorem E6(T:String)(f:s_->M D):Ls T f r=(f r).bind (N5 T):=rfl
@[simp] theorem lF(f:s_->M D):HM f r=(f r).bind kG:=rfl
@[simp] theorem EF:gy r=M.ret true:=rfl
@[simp] theorem EJ(C:Addr)(ns:List Str)(i:Nat)(fo:s_->M D):aB C ns i fo r=(fo r).bind fun x=>(iM C ns x).bind fun p=>AV p.2[i]?:=rfl
@[simp] theorem ET(d:D):AV (some d) S=.ok d S:=rfl
@[simp] theorem Es(C:Addr)(ns:List Str)(F:List D->M D)(fo:s_->M D)(ft:s_->M (List D)):bc C ns F fo ft r=(fo r).bind fun x=>(iM C ns x).bind fun _=>(ft r).bind fun xs=>F (x :: xs):=rfl
@[simp] theorem E7(g:D->List D->M D)(fo:s_->M D)(ft:s_->M (List D)):IY g fo ft r=(fo r).bind fun x=>(BO x).bind fun _=>(ft r).bind fun xs=>g x xs:=rfl
@[simp] theorem EY(g:D->List D->M D)(fo:s_->M D)(ft:s_->M (List D)):yo g fo ft r=(fo r).bind fun x=>(Br x).bind fun _=>(ft r).bind fun xs=>g x xs:=rfl
@[simp] theorem Eu:kj r S=.ok (.ob S.length) (S++[.GW []]):=rfl
@[simp] theorem E8(i:Nat)(d:D):gN i d r=some (r.set i (some d)):=rfl
theorem bS{n:Nat}{xs:List D}(h:S[n]?=some (.lst xs)):cz S n=some xs:=by unfold cz;rw[h]
@[simp] theorem EV{n:Nat}:BO (.ob n) S=match cz S n with
 |some _=>.ok () S
 |none=>.bad:=rfl
@[simp] theorem EI{n:Nat}:Br (.ob n) S=match du S n with
 |some _=>.ok () S
 |none=>.bad:=rfl
@[simp] theorem cx(i j:Int):bL (.int i) (.int j) S=.ok (.int (i+j)) S:=rfl
@[simp] theorem sd(i j:Int):rF (.int i) (.int j) S=.ok (.int (i-j)) S:=bW trivial
theorem fT{i j:Int}(h:L6 i j):eI (.int i) (.int j) S=.ok (.int (i * j)) S:=bW h
@[simp] theorem EW(j:Int):eI (.int 2) (.int j) S=.ok (.int (2 * j)) S:=fT (.inl ⟨by decide,by decide⟩)
theorem da{i j:Int}(h:0<j):kq (.int i) (.int j) S=.ok (.int (i % j)) S:=bW h
theorem wu{i j:Int}(h:Dh i j):zP (.int i) (.int j) S=.ok (.int (i / j)) S:=bW h
@[simp] theorem qN(i j:Int):HQ (.int i) (.int j) S=.ok (.bl (decide (i<j))) S:=rfl
@[simp] theorem vF(i j:Int):JY (.int i) (.int j) S=.ok (.bl (decide (i<=j))) S:=rfl
@[simp] theorem zU(i j:Int):MG (.int i) (.int j) S=.ok (.bl (decide (j<i))) S:=rfl
@[simp] theorem tu(i j:Int):IZ (.int i) (.int j) S=.ok (.bl (decide (j<=i))) S:=rfl
@[simp] theorem jy(i j:Int):Fo (.int i) (.int j) S=.ok (.bl (decide (i=j))) S:=BA S i j
@[simp] theorem gp(i j:Int):Hg (.int i) (.int j) S=.ok (.bl (!decide (i=j))) S:=BY S i j
@[simp] theorem Cg(i j:Int):xY [.int i,.int j] S=.ok (.int (min i j)) S:=by
 show R.ok (D.int (if j<i then j else i)) S=_;congr 2;omega
@[simp] theorem Ef(i j:Int):CJ [.int i,.int j] S=.ok (.int (max i j)) S:=by
 show R.ok (D.int (if j > i then j else i)) S=_;congr 2;omega
theorem aN{xs:List D}{i:Nat}{d:D}(h:xs[i]?=some d):t_ (.tup xs) (.int (i:Int)) S=.ok d S:=by
 simp only[t_,fM,tN h]
theorem ke{xs:List D}{n i:Nat}{d:D}(hn:S[n]?=some (.lst xs))(h:xs[i]?=some d):t_ (.ob n) (.int (i:Int)) S=.ok d S:=by
 simp only[t_,fM,bS hn,tN h]
theorem kE{xs:List D}{n:Nat}(hn:S[n]?=some (.lst xs)):bw [.ob n] S=.ok (.int xs.length) S:=by
 simp only[bw,fM,bS hn]
@[simp] theorem cb(xs:List D):bw [.tup xs] S=.ok (.int xs.length) S:=rfl
@[simp] theorem Cl(xs:List D):gI [.tup xs] S=.ok (.tup xs) S:=rfl
theorem fP{xs:List D}{n:Nat}(hn:S[n]?=some (.lst xs)):gI [.ob n] S=.ok (.tup xs) S:=by
 simp only[gI,fM,bS hn]
theorem uq{xs:List D}(h:xs.length<=1000000):nE xs S=.ok (.tup xs) S:=bW (Nat.le_of_lt (Nr h))
theorem uj{xs:List D}(h:xs.length<=1000000):nF xs S=.ok (.ob S.length) (S++[.lst xs]):=bW (Nat.le_of_lt (Nr h))
theorem uQ{xs:List D}{n:Nat}{d:D}(hn:S[n]?=some (.lst xs))(h:xs.length<1000000):j4 (.ob n) [d] S=.ok .D_ (S.set n (.lst (xs++[d]))):=by
 simp only[j4,bS hn];exact bW (Nr (by omega))
theorem Cf{xs ys:List D}{n:Nat}(hn:S[n]?=some (.lst xs))(h:xs.length+ys.length<=1000000):rA (.ob n) [.tup ys] S=.ok .D_ (S.set n (.lst (xs++ys))):=by
 simp only[rA,bS hn];exact bW (Nat.le_of_lt (Nr h))
@[simp] theorem Ev:bz r S=some (.nx r,S):=rfl
@[simp] theorem sU(m:M α)(k:α->List Cell->L0):cw m r k S=match m S with
 |.ok a S'=>k a S'
 |.exc c S'=>some (.xc c r,S')
 |.bad=>none:=rfl
@[simp] theorem pE(t u:Fw):aL t u r S=match t r S with
 |some (.nx r',S')=>u r' S'
 |o=>o:=rfl
@[simp] theorem EG(f:s_->M D):bG f r=cw (f r) r fun d S=>some (.rt d,S):=rfl
@[simp] theorem El(f:s_->M D):bB f r=cw (f r) r fun _ S=>some (.nx r,S):=rfl
@[simp] theorem E4(c:s_->M Bool)(t u:Fw):Ga c t u r=cw (c r) r fun b S=>if b=true then t r S else u r S:=rfl
@[simp] theorem Ex(f:s_->M D)(g:Kd):cr f g r=cw (f r) r fun d S=>match g d r with
 |some r'=>some (.nx r',S)
 |none=>none:=rfl
@[simp] theorem Ew(C:Addr)(ns:List Str)(i:Nat)(fo fe:s_->M D):jZ C ns i fo fe r=cw (fe r) r fun d=>cw (fo r) r fun x S1=>match iM C ns x S1 with
 |.ok p S2=>some (.nx r,S2.set p.1 (.ins C ns (p.2.set i d)))
 |_=>none:=rfl
@[simp] theorem Eo(C:Addr)(ns:List Str)(f:Str)(fo fe:s_->M D):cJ C ns f fo fe r=cw (fe r) r fun d=>cw (fo r) r fun x S1=>match iM C ns x S1 with
 |.ok p S2=>some (.nx r,S2.set p.1 (.ins C (ns++[f]) (p.2++[d])))
 |_=>none:=rfl
@[simp] theorem ER(g:D->D->D->List Cell->Option (List Cell))(fo fi fe:s_->M D):wN g fo fi fe r=cw (fe r) r fun d=>cw (fo r) r fun x=>cw (fi r) r fun y S=>match g x y d S with
 |some S'=>some (.nx r,S')
 |none=>none:=rfl
@[simp] theorem Ek(S0:List Cell)(d:D):fin S0 (some (.rt d,S))=.ok d S:=rfl
@[simp] theorem D2(S0:List Cell):fin S0 (some (.nx r,S))=.ok .D_ S:=rfl
@[simp] theorem D9(S0:List Cell)(c:Addr):fin S0 (some (.xc c r,S))=.exc c S:=rfl
theorem kU{S0 G:List Cell}{d:D}(h:GQ S0.length d):cI S0 (some (.rt d,S0++G))=.ok d S0:=if_pos ⟨⟨G,rfl⟩,h⟩
theorem bA{S0:List Cell}{d:D}(h:GQ S0.length d):cI S0 (some (.rt d,S0))=.ok d S0:=if_pos ⟨⟨[],by simp⟩,h⟩
end
def Fr(fp:List Nat)(S S':List Cell):Prop:=S.length<=S'.length/\∀i,i<S.length->i∉fp->S'[i]?=S[i]?
theorem Fr.refl(fp:List Nat)(S:List Cell):Fr fp S S:=⟨Nat.le_refl _,fun _ _ _=>rfl⟩
theorem Fr.trans{fp fq:List Nat}{S S1 S2:List Cell}(a:Fr fp S S1)(b:Fr fq S1 S2)(h:∀i∈fq,i<S.length->i∈fp):Fr fp S S2:=
 ⟨Nat.le_trans a.1 b.1,fun i hi hn=>(b.2 i (Nat.lt_of_lt_of_le hi a.1) fun hq=>hn (h i hq hi)).trans (a.2 i hi hn)⟩
theorem Fr.tr{fp:List Nat}{S S1 S2:List Cell}(a:Fr fp S S1)(b:Fr fp S1 S2):Fr fp S S2:=a.trans b fun _ h _=>h
theorem Fr.set{fp:List Nat}{S:List Cell}{n:Nat}{c:Cell}(h:n∈fp):Fr fp S (S.set n c):=
 ⟨by rw[List.length_set];exact Nat.le_refl _,fun i _ hn=>List.getElem?_set_ne fun e:n=i=>hn (e ▸ h)⟩
theorem Fr.push{fp:List Nat}{S:List Cell}{c:List Cell}:Fr fp S (S++c):=
 ⟨by rw[List.length_append];omega,fun i hi _=>List.getElem?_append_left hi⟩
theorem Fr.get{fp:List Nat}{S S':List Cell}{i:Nat}{c:Cell}(a:Fr fp S S')(h:S[i]?=some c)(hn:i∉fp):S'[i]?=some c:=
 (a.2 i (List.getElem?_eq_some_iff.mp h).1 hn).trans h
theorem Fr.mono{fp fq:List Nat}{S S':List Cell}(a:Fr fp S S')(h:∀i∈fp,i<S.length->i∈fq):Fr fq S S':=⟨a.1,fun i hi hn=>a.2 i hi fun z=>hn (h i z hi)⟩
theorem br{S:List Cell}{i:Nat}{c:Cell}(h:S[i]?=some c):i<S.length:=(List.getElem?_eq_some_iff.mp h).1
theorem dy{S:List Cell}{i:Nat}{c d:Cell}(h:S[i]?=some c):(S.set i d)[i]?=some d:=by
 rw[List.getElem?_set];simp[br h]
theorem cG{S:List Cell}{i j:Nat}{c d:Cell}(h:S[j]?=some c)(hn:i≠j):(S.set i d)[j]?=some c:=by rw[List.getElem?_set_ne hn];exact h
theorem aC{S G:List Cell}{j:Nat}{c:Cell}(h:S[j]?=some c):(S++G)[j]?=some c:=by rw[List.getElem?_append_left (br h)];exact h
theorem bE{S:List Cell}{c:Cell}:(S++[c])[S.length]?=some c:=by simp
section
variable{S S1 S2:List Cell}{r r1:s_}{d x y:D}{n:Nat}{C:Addr}{ns:List Str}{ds:List D}
theorem aw{t u:Fw}(h:t r S=some (.nx r1,S1)):aL t u r S=u r1 S1:=by rw[pE,h]
theorem cZ{t u:Fw}(h:t r S=some (.rt d,S1)):aL t u r S=some (.rt d,S1):=by rw[pE,h]
theorem bF{fe:s_->M D}{i:Nat}(h:fe r S=.ok d S1):cr fe (gN i) r S=some (.nx (r.set i (some d)),S1):=by simp[h]
theorem bf{fe:s_->M D}(h:fe r S=.ok d S1):bB fe r S=some (.nx r,S1):=by simp[h]
theorem aR{fe:s_->M D}(h:fe r S=.ok d S1):bG fe r S=some (.rt d,S1):=by simp[h]
theorem Co{c:s_->M Bool}{t u:Fw}{b:Bool}(h:c r S=.ok b S1):Ga c t u r S=if b=true then t r S1 else u r S1:=by simp[h]
theorem aV{c:s_->M Bool}{t u:Fw}(h:c r S=.ok true S1):Ga c t u r S=t r S1:=by rw[Co h,if_pos rfl]
theorem ay{c:s_->M Bool}{t u:Fw}(h:c r S=.ok false S1):Ga c t u r S=u r S1:=by rw[Co h,if_neg (by decide)]
theorem DH{i:Nat}{fo fe:s_->M D}(h1:fe r S=.ok d S1)(h2:fo r S1=.ok (.ob n) S2)(h3:S2[n]?=some (.ins C ns ds)):jZ C ns i fo fe r S=some (.nx r,S2.set n (.ins C ns (ds.set i d))):=by
 simp[h1,h2,kY h3]
theorem jP{f:Str}{fo fe:s_->M D}(h1:fe r S=.ok d S1)(h2:fo r S1=.ok (.ob n) S2)(h3:S2[n]?=some (.ins C ns ds)):cJ C ns f fo fe r S=some (.nx r,S2.set n (.ins C (ns++[f]) (ds++[d]))):=by
 simp[h1,h2,kY h3]
theorem xl{i:Nat}{fo fe:s_->M D}{a b:Int}{Pb:List D}{S3:List Cell}(h2:fo r S=.ok (.ob n) S1)(h3:S1[n]?=some (.ins C ns ds))(h4:ds[i]?=some (.int a))(h1:fe r S1=.ok (.int b) S3)(h5:S3[n]?=some (.ins C ns Pb)) :
  oq C ns i fo fe r S=some (.nx r,S3.set n (.ins C ns (Pb.set i (.int (a+b))))):=by
 unfold oq;simp[h2,kY h3,h4,h1,kY h5]
theorem tp{g:D->D->D->List Cell->Option (List Cell)}{fo fi fe:s_->M D}{S3 S4:List Cell}(h1:fe r S=.ok d S1)(h2:fo r S1=.ok x S2)(h3:fi r S2=.ok y S3)(h4:g x y d S3=some S4):wN g fo fi fe r S=some (.nx r,S4):=by
 simp[h1,h2,h3,h4]
theorem bX{i:Nat}{fo:s_->M D}(h:fo r S=.ok (.ob n) S1)(h3:S1[n]?=some (.ins C ns ds))(hd:ds[i]?=some d):aB C ns i fo r S=.ok d S1:=by
 simp[h,kY h3,hd]
theorem aZ{F:List D->M D}{fo:s_->M D}{ft:s_->M (List D)}{xs:List D}{a:R D}(h:fo r S=.ok (.ob n) S1)(h3:S1[n]?=some (.ins C ns ds))(h4:ft r S1=.ok xs S2)(h5:F (.ob n :: xs) S2=a):bc C ns F fo ft r S=a:=by
 simp[h,kY h3,h4,h5]
theorem ax{F:List D->M D}{ft:s_->M (List D)}{xs:List D}{a:R D}(h4:ft r S=.ok xs S1)(h5:F xs S1=a):am F ft r S=a:=by simp[h4,h5]
theorem ar{g:D->D->M D}{fa fb:s_->M D}{a:R D}(h1:fa r S=.ok x S1)(h2:fb r S1=.ok y S2)(h3:g x y S2=a):f_ g fa fb r S=a:=by simp[h1,h2,h3]
theorem ag{f:s_->M D}{g:s_->M (List D)}{xs:List D}(h1:f r S=.ok x S1)(h2:g r S1=.ok xs S2):ac f g r S=.ok (x :: xs) S2:=by simp[h1,h2]
theorem aj:ai r S=.ok [] S:=rfl
theorem az{f:s_->M D}{b:Bool}(h:f r S=.ok (.bl b) S1):al f r S=.ok b S1:=by simp[h]
theorem lH{g:D->List D->M D}{fo:s_->M D}{ft:s_->M (List D)}{xs ys:List D}{a:R D}(h:fo r S=.ok (.ob n) S1)(h3:S1[n]?=some (.lst ys))(h4:ft r S1=.ok xs S2)(h5:g (.ob n) xs S2=a):IY g fo ft r S=a:=by
 simp[h,bS h3,h4,h5]
theorem Du{g:D->List D->M D}{fo:s_->M D}{ft:s_->M (List D)}{xs:List D}{kvs:List (Key×D)}{a:R D}(h:fo r S=.ok (.ob n) S1)(h3:S1[n]?=some (.GW kvs))(h4:ft r S1=.ok xs S2)(h5:g (.ob n) xs S2=a):yo g fo ft r S=a:=by
 simp[h,eR h3,h4,h5]
theorem bM{ft:s_->M (List D)}{xs:List D}(h:ft r S=.ok xs S1)(hl:xs.length<=1000000):cn ft r S=.ok (.tup xs) S1:=by simp[h,uq hl]
theorem bY{ft:s_->M (List D)}{xs:List D}(h:ft r S=.ok xs S1)(hl:xs.length<=1000000):bV ft r S=.ok (.ob S1.length) (S1++[.lst xs]):=by simp[h,uj hl]
theorem bg{a b:Str}{c:Bool}(h1:(PyData.str a).canLay0=true:=by decide +kernel)(h2:(PyData.str b).canLay0=true:=by decide +kernel)(h3:decide (a=b)=c:=by decide +kernel):Fo (.str a) (.str b) S=.ok (.bl c) S:=by
 subst h3;have h:(PyData.str a).eqv (.str b)=decide (a=b):=by
  by_cases e:a=b
  ·subst e;simp[PyData.eqv]
  ·simp[PyData.eqv,e]
 simp only[Fo,pD,h1,h2,if_true,h]
theorem vf{a b:Str}{c:Bool}(h1:(PyData.str a).canLay0=true:=by decide +kernel)(h2:(PyData.str b).canLay0=true:=by decide +kernel)(h3:(!decide (a=b))=c:=by decide +kernel):Hg (.str a) (.str b) S=.ok (.bl c) S:=by
 subst h3;have h:(PyData.str a).eqv (.str b)=decide (a=b):=by
  by_cases e:a=b
  ·subst e;simp[PyData.eqv]
  ·simp[PyData.eqv,e]
 simp only[Hg,pD,h1,h2,if_true,h]
end
end DL
namespace DL
open PySem PySem.Spec PyProof.Rows L2
section
variable{S S1 S2:List Cell}{r r1:s_}{d x y:D}{n i:Nat}{C:Addr}{ns:List Str}{ds Pb:List D}{fo fe:s_->M D}
theorem aS{S:List Cell}{i:Nat}{c:Cell}(h:i=S.length):(S++[c])[i]?=some c:=by subst h;exact bE
structure Ch(n:Nat)(c:Cell)(S S':List Cell):Prop where
 at_:S'[n]?=some c
 fr:Fr [n] S S'
 len:S'.length=S.length
theorem Ch.old{m:Nat}{c c':Cell}(h:Ch n c S S1)(hm:S[m]?=some c')(hn:n≠m):S1[m]?=some c':=h.fr.get hm (by simpa using Ne.symm hn)
theorem Ch.set{c c':Cell}(h:S[n]?=some c'):Ch n c S (S.set n c):=⟨dy h,Fr.set (by simp),by simp⟩
theorem gF(h1:fe r S=.ok d S1)(h2:fo r S1=.ok (.ob n) S1)(h3:S1[n]?=some (.ins C ns ds))(h4:ds.set i d=Pb):∃S2,jZ C ns i fo fe r S=some (.nx r,S2)/\Ch n (.ins C ns Pb) S1 S2:=by
 subst h4;exact⟨_,DH h1 h2 h3,Ch.set h3⟩
theorem xy{a b:Int}(h2:fo r S=.ok (.ob n) S)(h3:S[n]?=some (.ins C ns ds))(h5:ds[i]?=some (.int a))(h1:fe r S=.ok (.int b) S)(h4:ds.set i (.int (a+b))=Pb):∃S2,oq C ns i fo fe r S=some (.nx r,S2)/\Ch n (.ins C ns Pb) S S2:=by
 subst h4;exact⟨_,xl h2 h3 h5 h1 h3,Ch.set h3⟩
theorem sX{xs:List D}{ft:s_->M (List D)}(h1:fo r S=.ok (.ob n) S)(h2:S[n]?=some (.lst xs))(h3:ft r S=.ok [d] S)(hz:xs.length<1000000):∃S2,IY j4 fo ft r S=.ok .D_ S2/\Ch n (.lst (xs++[d])) S S2:=
 ⟨_,lH h1 h2 h3 (uQ h2 hz),Ch.set h2⟩
theorem zM{xs ys:List D}{ft:s_->M (List D)}(h1:fo r S=.ok (.ob n) S)(h2:S[n]?=some (.lst xs))(h3:ft r S=.ok [.tup ys] S)(hz:xs.length+ys.length<=1000000):∃S2,IY rA fo ft r S=.ok .D_ S2/\Ch n (.lst (xs++ys)) S S2:=
 ⟨_,lH h1 h2 h3 (Cf h2 hz),Ch.set h2⟩
theorem Ch.fp{fp:List Nat}{c:Cell}(h:Ch n c S S1)(hn:n∈fp):Fr fp S S1:=h.fr.mono fun i hi _=>by
 have:i=n:=by simpa using hi
 rw[this];exact hn
end
theorem lV{tg:Kd}{ti:s_->M Bool}{fe:s_->M D}{r0:s_}(kp:D->Bool)(h:D->D)(g:Option (Nat×List D))(S:List Cell)(hg:IX g S):∀(items ys:List D),
  (∀x,x∈items->∃r1,tg x r0=some r1/\(∀zs,ti r1 (S++[.lst zs])=.ok (kp x) (S++[.lst zs]))/\(kp x=true->∀zs,fe r1 (S++[.lst zs])=.ok (h x) (S++[.lst zs])))->ys.length+items.length<=1000000->
  dL tg ti fe S.length g r0 items (S++[.lst ys])=.ok () (S++[.lst (ys++(items.filter kp).map h)])
 |[],ys,_,_=>by simp[dL]
 |x :: xs,ys,hx,hl=>by
  obtain⟨r1,h1,h2,h3⟩:=hx x (by simp);have Si:∀zs,IX g (S++[Cell.lst zs]):=fun zs=>by
   cases g with
   |none=>trivial
   |some p=>exact aC hg
  unfold dL;rw[h1];dsimp only;rw[h2];cases hk:kp x with
  |false=>
   dsimp only;rw[if_pos (Si _),lV kp h g S hg xs ys (fun y hy=>hx y (List.mem_cons_of_mem _ hy)) (by simp at hl;omega)];rw[List.filter_cons_of_neg (by simp[hk])]
  |true=>
   have Jf:(S++[Cell.lst ys]).set S.length (.lst (ys++[h x]))=S++[.lst (ys++[h x])]:=by
    rw[List.set_append_right _ _ (Nat.le_refl _)];simp
   dsimp only;rw[h3 hk];dsimp only;rw[List.getElem?_append_right (Nat.le_refl _)];simp only[Nat.sub_self,List.getElem?_cons_zero];rw[Jf,bW ⟨Nr (by simp at hl;omega),Si _⟩,lV kp h g S hg xs (ys++[h x]) (fun y hy=>hx y (List.mem_cons_of_mem _ hy)) (by simp at hl ⊢;omega)];rw[List.filter_cons_of_pos hk,List.map_cons,List.append_assoc];rfl
theorem iQ{f:s_->M Wk}{tg:Kd}{ti:s_->M Bool}{fe:s_->M D}{own:Nat}{caps:List Nat}{r:s_}{S S1:List Cell}{w:Wk}(kp:D->Bool)(h:D->D)(h1:f r S=.ok w S1)(hg:IX w.guard S1)(hz:w.items.length<=1000000)
  (hx:∀x,x∈w.items->∃r1,tg x (gO own caps r)=some r1/\(∀zs,ti r1 (S1++[.lst zs])=.ok (kp x) (S1++[.lst zs]))/\(kp x=true->∀zs,fe r1 (S1++[.lst zs])=.ok (h x) (S1++[.lst zs]))) :
  dH f tg ti fe own caps r S=.ok (.ob S1.length) (S1++[.lst ((w.items.filter kp).map h)]):=by
 unfold dH;rw[av,h1];dsimp only;rw[lV kp h w.guard S1 hg w.items [] hx (by simpa using hz)];rfl
theorem CO{c:s_->M Bool}{b:Fw}{k:Nat}{r:s_}{S S1:List Cell}(h:c r S=.ok false S1):fO c b (k+1) r S=some (.nx r,S1):=by
 unfold fO;rw[h]
theorem DZ{c:s_->M Bool}{b:Fw}{k:Nat}{r r2:s_}{S S1 S2:List Cell}(h:c r S=.ok true S1)(hb:b r S1=some (.nx r2,S2)):fO c b (k+1) r S=fO c b k r2 S2:=by
 rw[fO];dsimp only;rw[h];dsimp only;rw[hb]
theorem lR{f:s_->M Wk}{tg:Kd}{b:Fw}{r:s_}{S S1:List Cell}{w:Wk}(h:f r S=.ok w S1):pL f tg b r S=ij w.guard tg b w.items r S1:=by
 unfold pL;rw[sU,h]
theorem xa{S:List Cell}{n:Nat}(h:n<=1000000):xu (.int (n:Int)) S=.ok ⟨gW 0 1 n,none⟩ S:=wH h
end DL
namespace DL
open PySem PySem.Spec PyProof.Rows L2
mutual
theorem Av{S:List Cell}:∀{n:Nat}{d:D}{p:PyData},pD S n d=some p->p.canLay0=true
 |0,d,p,h=>by unfold pD at h;cases h
 |n+1,.D_,p,h=>by simp only[pD] at h;cases h;rfl
 |n+1,.bl b,p,h=>by simp only[pD] at h;cases h;rfl
 |n+1,.int i,p,h=>by simp only[pD] at h;cases h;rfl
 |n+1,.str x,p,h=>by
  simp only[pD] at h;split at h
  ·rename_i q;cases h;exact q
  ·cases h
 |n+1,.tup xs,p,h=>by
  simp only[pD] at h;cases e:JC S n xs with
  |none=>rw[e] at h;cases h
  |some ps=>rw[e] at h;cases h;exact pb e
 |n+1,.Gp xs,p,h=>by
  simp only[pD] at h;cases e:JC S n xs with
  |none=>rw[e] at h;cases h
  |some ps=>rw[e] at h;cases h;exact pb e
 |n+1,.ob k,p,h=>by
  simp only[pD] at h;split at h
  ·rename_i xs _;cases e:JC S n xs with
   |none=>rw[e] at h;cases h
   |some ps=>rw[e] at h;cases h;exact pb e
  ·cases h
 |n+1,.xn c,p,h=>by simp only[pD] at h;cases h
theorem pb{S:List Cell}:∀{n:Nat}{xs:List D}{ps:List PyData},JC S n xs=some ps->PyData.canLayAll0 ps=true
 |n,[],ps,h=>by simp only[JC] at h;cases h;rfl
 |n,x :: xs,ps,h=>by
  simp only[JC] at h;cases e1:pD S n x with
  |none=>rw[e1] at h;cases h
  |some p=>
   rw[e1] at h;cases e2:JC S n xs with
   |none=>rw[e2] at h;cases h
   |some qs=>
    rw[e2] at h;cases h;show(PyData.canLay0 p && PyData.canLayAll0 qs)=true;rw[Av e1,pb e2];rfl
end
section
variable{S:List Cell}{x y:D}{p:PyData}
theorem xI(h1:pD S 30 x=some p)(h2:pD S 30 y=some p):Hg x y S=.ok (.bl false) S:=by
 simp only[Hg,h1,h2,PySem.SeqAt.eqv_refl p (Av h1)];rfl
theorem Cm{n l:Nat}{xs:List D}(h:S[l]?=some (.lst xs)):pD S (n+1) (.ob l)=(JC S n xs).map .list:=by simp only[pD,h]
theorem As{l l':Nat}{xs:List D}(h1:S[l]?=some (.lst xs))(h2:S[l']?=some (.lst xs))(h:∃ps,JC S 29 xs=some ps):Hg (.ob l) (.ob l') S=.ok (.bl false) S:=by
 obtain⟨ps,hp⟩:=h;exact xI (p:=.list ps) (by rw[Cm h1,hp];rfl) (by rw[Cm h2,hp];rfl)
end
end DL
namespace DL
open PySem PySem.Spec PyProof.Rows L2
section
variable{X:Cx}
end
end DL
namespace DL
open PySem PySem.Spec PyProof.Rows L2
theorem qA(a b:Value):checkTypeCall "enumerate" ⟨[a],[("start",b)]⟩=pure ():=by kernel_rfl
theorem qY(a b:Value):checkBuiltinCall "enumerate.__new__" ⟨[.type "enumerate",a],[("start",b)]⟩=pure ():=by kernel_rfl
section
variable{prog:Program}{w:World}{A:Around}{E:Value->Shared->Prop}{s:Shared}
theorem oX(l:Addr)(items:Array Value)(n:Nat)(PQ:Option Addr)(sl:Array (Option Value))(i:Int)(t:Tok)(hi:Builtin.SmallTypes.fitsIndex i=true) :
  Meets (Builtin.«enumerate.__new__» ⟨[.type "enumerate",.ref l],[("start",.int i t)]⟩) (fun _ R s=>s.heap.get? l=some { cls:=.type "tuple",dict:=PQ,data:=.seq items n,slots:=sl }/\
   R (.ok (.ret (.ref (s.heap.push { cls:=.type "tuple_iterator",data:=.fields #[.ref l,.int 0 0] }).objs.size)))
    { s with heap:=(s.heap.push { cls:=.type "tuple_iterator",data:=.fields #[.ref l,.int 0 0] }).push { cls:=.type "enumerate",data:=.fields #[.none,.bool false,.ref s.heap.objs.size,rawInt i,.none,.none] } }):=
 .of_wp fun prog w A R s h=>by
  obtain⟨hp,g,d,tk,os⟩:=s;obtain⟨hl,h⟩:=h;have Rg:=sub_enumerate;have f1:=AutoSeq1.idx_int;have hT:Heap.IsTuple (Shared.heap ⟨hp,g,d,tk,os⟩) l items:=⟨_,hl,rfl,n,rfl⟩
  wp_walk using wpAny_loadPart' hl
  refine wpAny_stack_any fun st=>wpAny_pure ?_
  split
  ·rename_i c _ _ _ _ _;cases(c == Value.type "enumerate")
   ·wp_walk using wpAny_loadPart' hl,wpAny_pyIter_tuple hT
    exact⟨_,rfl,h⟩
   ·wp_walk using wpAny_loadPart' hl,wpAny_pyIter_tuple hT
    exact⟨_,rfl,h⟩
  ·wp_walk using wpAny_loadPart' hl,wpAny_pyIter_tuple hT
   exact⟨_,rfl,h⟩
theorem lr(a b c:Value):argsOk "object.__init__" ⟨[a,b],[("start",c)]⟩:=by
 unfold argsOk;rw[signature?_of (id:="object.__init__") (n:=['_','_','t','i','n','i','_','_']) (o:=['t','c','e','j','b','o']) (by kernel_rfl) PySem.F.owner_object];kernel_rfl
theorem pp{self a c:Value} :
  Meets (Builtin.«object.__init__» ⟨[self,a],[("start",c)]⟩) (fun _ R s=>s.TypeIs self "enumerate"/\R (.ok (.ret .none)) s):=by
 refine Meets.of_wp fun prog w A R s hs=>?_
 obtain⟨hT,hq⟩:=hs;have hl:=PySem.F.called_enumerate.init.lookup;have hm:=PySem.F.called_enumerate.made;have N6:(some "enumerate.__new__" != some "object.__new__")=true:=by decide
 repeat (any_goals (first|assumption|wp_step))
 exact⟨_,rfl,hq⟩
theorem pP{l:Addr}{items:Array Value}{i:Int}{t:Tok}{Q:Value->Shared->Prop}(hL:s.heap.IsTuple l items)(hi:Builtin.SmallTypes.fitsIndex i=true)
  (h:∀h',IsEnum h' (s.heap.objs.size+1) s.heap.objs.size i .none->h'.IsTupleIter s.heap.objs.size l 0->(∀b o,s.heap.get? b=some o->h'.get? b=some o)->Q (.ref (s.heap.objs.size+1)) { s with heap:=h' }) :
  wpAny (model prog w) A (call (.type "enumerate") [.ref l] [("start",.int i t)]) Q E s:=by
 obtain⟨⟨c,PQ,dt,sl⟩,hl,hc,n,hd⟩:=hL;simp only at hc hd;subst hc hd;have ft:=PySem.F.called_enumerate;obtain⟨c0,tl,YY⟩:=ft.mro;have WL:=ft.made;have Rg:=ft.sub;have WM:=qA (.ref l) (.int i t);refine wpAny_call (codeAny_of_tree ?_);show wpAny _ _ (callAny (.type "enumerate") _) _ _ _;refine wpAny_pure ⟨Code.quiet_builtin _ (by decide +kernel),codeAny_builtin PySem.F.entry_type_call ?_⟩;rw[Around.under_plain (weight_type_call_type "enumerate" [.ref l] [("start",.int i t)]) (units_type_call_type "enumerate" [.ref l] [("start",.int i t)])];have h1:=ft.notType;have h2:=ft.canCreate
 repeat (any_goals (first|assumption|wp_step))
 have hz:(s.heap.push { cls:=.type "tuple_iterator",data:=.fields #[.ref l,.int 0 0] }).objs.size=s.heap.objs.size+1:=Heap.size_push ..;have he:IsEnum ((s.heap.push { cls:=.type "tuple_iterator",data:=.fields #[.ref l,.int 0 0] }).push { cls:=.type "enumerate",data:=.fields #[.none,.bool false,.ref s.heap.objs.size,rawInt i,.none,.none] }) (s.heap.objs.size+1) s.heap.objs.size i .none:=by
  have q:=Heap.get?_push_size (s.heap.push { cls:=.type "tuple_iterator",data:=.fields #[.ref l,.int 0 0] }) (o:={ cls:=.type "enumerate",data:=.fields #[.none,.bool false,.ref s.heap.objs.size,rawInt i,.none,.none] }) rfl;rw[hz] at q;exact q
 have fin:=h _ he ⟨_,Heap.get?_push_of_some _ (Heap.get?_push_size _ rfl),rfl,rfl⟩ fun b o x=>Heap.get?_push_of_some _ (Heap.get?_push_of_some _ x)
 refine codeAny_mono (codeAny_call_builtin ft.plain PySem.F.entry_enumerate_new (wpAny_of_eq (qY (.ref l) (.int i t)) (oX l items n PQ sl i t hi prog w A.in1 (wants (fun obj FE=>FE.TypeIs obj "enumerate"/\Q obj FE) E) s ⟨hl,?_⟩))) fun r FE hr=>?_
 ·show _/\_;rw[hz];exact⟨⟨_,he,rfl⟩,fin⟩
 ·cases r with
  |error e=>exact hr
  |ok fl=>
   cases fl with
   |ret obj=>
    obtain⟨hT,MR⟩:=hr;have hli:=ft.init.lookup;have hbi:=ft.init.bind obj
    repeat (any_goals (first|assumption|wp_step))
    refine codeAny_mono (codeAny_call_builtin ft.init.plain PySem.F.entry_object_init (ft.init.check _ _ _ _ _ _ _ _ hT (lr _ _ _) (pp prog w A.in1 (wants (fun r Ni=>r=.none/\Q obj Ni) E) FE ⟨hT,rfl,MR⟩))) fun Uj Ni Nt=>?_
    cases Uj with
    |error e=>exact Nt
    |ok Rk=>
     cases Rk with
     |ret r=>
      obtain⟨rfl,hq⟩:=Nt
      repeat (any_goals (first|assumption|wp_step))
     |_=>exact Nt.elim
   |_=>exact hr.elim
end
section
variable{M:Model}{A:Around}{E:Value->Shared->Prop}{s:Shared}{env:Env}
theorem mO{pos:Pos}{T:String}{first:List Value}{args:List (Bool×Sem Value)}{keywords:List (Option Str×Sem Value)}{Q:Value->Shared->Prop}
  (JF:args.any (·.1)=false) (YZ:keywords.any (·.1.isNone)=false)
  (h:wpAny M A (evalArgs (.type T) true args keywords) (fun a FE=>wpAny M A (call (.type T) (first++a.pos) a.kw) Q E FE) E s) :
  wpAny M A (callWith pos (.type T) first args keywords) Q E s:=by
 unfold callWith;refine wpAny_bind (wpAny_holding (wpAny_mono h (fun a FE MS=>wpAny_bind (wpAny_standAt ?_)) fun _ _ x=>x));simp only[JF,YZ,Bool.or_false];refine wpAny_bind (wpAny_pure ?_);exact wpAny_bind (wpAny_mono MS (fun r Ni hr=>wpAny_bind (wpAny_holding (wpAny_point (wpAny_pure hr)))) fun _ _ x=>x)
end
section
variable{X:Cx}{e:Expr}{fe:s_->M D}{pos:Pos}{elts:List Expr}{k1:Nat}{Jz:Pos}
def wj(c:Nat):D->M Wk
 |.tup xs=>M.ret ⟨iV c xs,none⟩
 |_=>M.bad
def sM(c:Nat)(fe:s_->M D):s_->M Wk:=fun r=>(fe r).bind (wj c)
theorem yL{p kp cp:Pos}{i:Int}{c j:Nat}(hg:Gl X "enumerate")(hm:X.mg "enumerate"=none)(he:FR X e fe)(Y0:i=(c:Int):=by decide)(hc:c<=1000:=by decide)(hs:starEach [e] X.env=[(false,eval e X.env)]:=by rfl) :
  PId X (.Tuple elts k1 Jz) (.Call (.Name "enumerate" p) [e] [⟨some "start",.Constant (.int i) j cp,kp⟩] pos) (sM c fe):=by
 intro pins s σ H J r S Q E I m;subst Y0;have m':MC X pins σ H J (.Tuple elts k1 Jz) ((ac fe ai r).bind (sP (wj c)) S) Q E:=by
  unfold sM M.bind at m;unfold ac ai M.bind M.ret;cases e1:fe r S<;>(rw[e1] at m;exact m)
 refine wpAny_Call_Name_kw (kH I.inv hg hm boot_enumerate (mO (by rw[hs];rfl) rfl ?_));have hb:backTo pos (starEach [e] X.env)=(false,eval e X.env) :: []:=by rw[hs];rfl
 rw[hb];refine evalArgs_kwB rfl ?_;rw[<-hb];refine Sa (af he ah (by rw[hs];rfl)) I m' (fun xs S1 s1 H1 J1 vs us I1 rv r1 m1=>?_) pos;refine kws_cons (wpAny_Constant_int (kws_nil ?_));have Ng:Builtin.SmallTypes.fitsIndex (c:Int)=true:=by
  unfold Builtin.SmallTypes.fitsIndex;simp only[Bool.and_eq_true,decide_eq_true_eq];omega
 match xs,m1,rv with
 |[],m1,rv=>exact m1.elim
 |_ :: _ :: _,m1,rv=>exact m1.elim
 |[x],m1,rv=>
  obtain⟨v,rfl,h1⟩:=rv.ID;obtain⟨u,rfl,ru⟩:=Vals.one r1
  change MC X pins σ H1 J1 (.Tuple elts k1 Jz) (wj c x S1) Q E at m1
  cases x with
  |tup ys=>
   obtain⟨a,ws,rfl,hq,FK⟩:=h1.IC;cases ru;obtain⟨w_,rl,pl,hz⟩:=I1.inv.tuple hq;refine pP (s:={ s1 with toks:=s1.toks+1 }) pl Ng fun h' MF LJ hk'=>wpAny_pyIter_enum MF ?_
   refine m1 _ _ ⟨s1.heap.objs.size+1,[s1.heap.objs.size+1,s1.heap.objs.size],_,_,H1,rfl,I1.inv.kept (t':=s1.toks+1) hk',pZ a s1.heap.objs.size (s1.heap.objs.size+1) c (Nat.succ_ne_self _),⟨⟨_,MF⟩,LJ⟩,tG I1.inv,J1,Ext.refl _ _,I1.st,trivial,?_⟩;exact Hf.Pa fun H2 J2 S2 x2 IA _=>⟨ws,HH.ext x2 hq,FK.ext x2⟩
  |_=>exact m1.elim
theorem dc{x:Str}{d:D}{pos:Pos}(hg:Gl X x)(h:∃u,X.mg x=some u/\Jr X.K d u)(hd:(x == ("__debug__":Str))=false:=by decide):FR X (.Name x pos) (dC d):=by
 obtain⟨u,h1,h2⟩:=h;exact BI hg h1 h2 hd
def KP(K:PySem.W.Frag)(mg:Str->Option Value)(x:Str)(ss:List Str):Prop:=∃u,mg x=some u/\Ow K u (ss.map V.str)
theorem pI{K:PySem.W.Frag}(ss:List Str)(H:Hp)(J:List Addr):j_ K H J (ss.map D.str) (ss.map V.str):=by
 induction ss with
 |nil=>exact .nil
 |cons a r ih=>exact .cons (by unfold r_;rfl) ih
theorem KP.glob{K:PySem.W.Frag}{mg:Str->Option Value}{x:Str}{ss:List Str}(h:KP K mg x ss):∃u,mg x=some u/\Jr K (.tup (ss.map D.str)) u:=by
 obtain⟨u,h1,h2⟩:=h;exact⟨u,h1,h2.rep (pI ss)⟩
theorem wg{x:Str}{e:Expr}{np apos Gb:Pos}{ss:List Str}{ft:s_->M (List D)}(hg:Gl X x)(h:KP X.K X.mg x ss)(ha:Lq X [e] ft)(hd:(x == ("__debug__":Str))=false:=by decide)
  (JD:attributeBase (.Name x np) "index" X.env (eval (.Name x np) X.env)=eval (.Name x np) X.env:=by rfl)
  (Mc:((backTo Gb (starEach [e] X.env)).all (fun x=>!x.1) && (backToKw Gb (keywordEach [] X.env)).all (fun x=>x.1.isSome)
   && decide ([e].length+([]:List Keyword).length+(if ([]:List Keyword).isEmpty then 0 else 1)<30))=true:=by rfl)
  (JE:(apos.endLine == Gb.line)=true:=by rfl) (hs:starEach [e] X.env=[(false,eval e X.env)]:=by rfl) :
  FR X (.Call (.Attribute (.Name x np) "index" apos) [e] [] Gb) (mM (.tup (ss.map D.str)) ft):=by
 obtain⟨u,h1,h2⟩:=h;exact yd hg h1 h2 (pI ss) ha hd JD Mc JE hs
theorem iL{K:PySem.W.Frag}{i:Int}{t:Tok}:Jr K (.int i) (.int i t):=fun H J=>⟨.int i,⟨_,rfl⟩,r_.int _ _ _ _⟩
theorem rJ:∀{ss:List Str}{vs:List Value},(List.zip ss vs).all (fun p=>match p.2 with|.str x _=>x == p.1|_=>false)=true->ss.length=vs.length->Vals (ss.map V.str) vs
 |[],[],_,_=>.nil
 |a :: r,v :: vs,h,hl=>by
  simp only[List.zip_cons_cons,List.all_cons,Bool.and_eq_true] at h;refine .cons ?_ (rJ h.2 (by simpa using hl));cases v with
  |str x t=>
   have:=beq_iff_eq.mp h.1;subst this;exact⟨_,rfl⟩
  |_=>exact absurd h.1 Bool.false_ne_true
 |[],_ :: _,_,h=>by cases h
 |_ :: _,[],_,h=>by cases h
theorem vw{K:PySem.W.Frag}{mg:Str->Option Value}{x:Str}{ss:List Str}{a:Addr}{w_:Array Value}{n:Nat}{sl:Array (Option Value)}(hm:mg x=some (.ref a))(hl:K.lookup a=some ⟨.type "tuple",none,.seq w_ n,sl⟩)(hv:(List.zip ss w_.toList).all (fun p=>match p.2 with|.str x _=>x == p.1|_=>false)=true)(hn:ss.length=w_.toList.length)(hz:ss.length<=1000):KP K mg x ss:=
 ⟨_,hm,⟨⟨a,_,w_,n,rfl,hl,rfl,rfl,rfl,by rw[<-Array.length_toList,<-hn];exact Nat.le_of_lt (Nr (by omega)),rJ hv hn⟩⟩⟩
end
end DL
namespace DL
open PySem PySem.Spec PyProof.Rows L2
section
variable{X:Cx}{body:List Stmt}{h0:ExceptHandler}{hs:List ExceptHandler}{t:Fw}{pos:Pos}
end
end DL
namespace DL
open PySem PySem.Spec PyProof.Rows L2
def tV(l:List Env)(ex:List Addr)(h h':Heap):Prop:=
 (∀b o,h.get? b=some o->b∉ex->b∉l.filterMap (·.frame)->h'.get? b=some o)/\(∀b o,h.get? b=some o->b∉ex->∃sl,h'.get? b=some { o with slots:=sl })
section
variable{M:Model}{A:Around}{E:Value->Shared->Prop}{s:Shared}
theorem rR{base:Heap}{env:Env}{outer:List Env}{L e:Addr}{oe:Obj}{vs:Array Value}{head a0:Value}{Oz:Bool}{Q:Unit->Shared->Prop}
  (N7:A.frames=some (env :: outer)) (hl:s.heap.FunFrames base (env :: outer)) (hf:env.frame=some L)
  (he:s.heap.get? e=some oe) (QB:base.StaysIn s.heap) (Uk:base.get? e=none) (hd:oe.data=.fields vs) (hsz:1<vs.size) (h0:vs[0]?=some a0)
  (h:∀h',Heap.LeftW base (env :: outer) e oe.cls a0 s.heap h'->tV (env :: outer) [e] s.heap h'->(∃Pd Pe T,h'.get? e=some Pd/\Pd.data=.fields Pe/\Pe[1]?=some (.ref T)/\s.heap.objs.size<=T)->Q () { s with heap:=h' }) :
  wpAny M A (do let a <-frameOf env;let pl <-entryPlaceOf L Oz;let b <-EntryCells.newEntry head a .none (rawInt L) .none pl;setField (.ref e) 1 b) (fun _ s'=>wpAny M A (setFlight (.ref e) none) Q E s') E s:=by
 have Ul:e∉(env :: outer).filterMap (·.frame):=fun hm=>by
  obtain⟨_,o,ho,MH⟩:=hl.mem hm;rw[he] at ho
  injection ho with ho
  subst ho;exact MH vs hd
 refine wpAny_bind (wpAny_frameOf_fun N7 hl hf fun h1 q=>?_);refine wpAny_bind (wpAny_entryPlaceOf fun pl LB=>?_);unfold EntryCells.newEntry newFields;refine wpAny_bind (wpAny_newObj_type ?_ (LB.sizeOk5 _ _ _ _ _));obtain⟨tb,Um⟩:∃tb:Obj,tb = { cls:=.type "traceback",dict:=none,data:=.fields ([head,.ref L,.none,rawInt L,.none]++(if pl.isEmpty then List.replicate 6 Value.none else pl)).toArray }:=⟨_,rfl⟩;rw[<-Um];have Rl:h1.get? e=some oe:=(q.2.1 e Ul).trans he;have kb1:base.StaysIn h1:=fun b o L3=>(q.2.1 b fun hm=>by rw[(hl.mem hm).1] at L3;cases L3).trans (QB b o L3)
 have Qx:=Heap.get?_push_of_some (h:=h1) tb Rl;refine wpAny_setField Qx hd hsz ?_;obtain⟨T,hT⟩:∃T,T=h1.objs.size:=⟨_,rfl⟩;have MW:T≠e:=by rw[hT];exact Nat.ne_of_gt (Heap.lt_size Rl)
 have Pf:s.heap.objs.size<=T:=by rw[hT,q.1];exact Nat.le_refl _
 obtain⟨h2,Sj⟩:∃h2,h2=(h1.push tb).update e (Obj.mapFields (·.setIfInBounds 1 (Value.ref T))):=⟨_,rfl⟩;have Sk:=Obj.data_mapFields hd (·.setIfInBounds 1 (Value.ref T));have WN:h2.get? e=some (Obj.mapFields (·.setIfInBounds 1 (Value.ref T)) oe):=by rw[Sj];exact Heap.get?_update_self _ Qx (Obj.isFreed_of_fields Sk)
 have Me:h2.get? T=some tb:=by rw[Sj,Heap.get?_update_other _ _ (Ne.symm MW),hT];exact Heap.get?_push_size h1 (by rw[Um];rfl)
 have Mf:tb.data=.fields ([head,.ref L,.none,rawInt L,.none]++(if pl.isEmpty then List.replicate 6 Value.none else pl)).toArray:=by rw[Um]
 have goal:wpAny M A (setFlight (.ref e) none) Q E { s with heap:=h2 }:=by
  unfold setFlight;refine wpAny_bind (wpAny_field WN Sk (x:=.ref T) (by simp[hsz]) ?_);rw[if_pos (show(Value.ref T != Value.none)=true from by simp)];refine wpAny_setField Me Mf (by simp only[List.size_toArray,List.length_append,List.length_cons,List.length_nil]<;>omega) ?_;obtain⟨h3,Sl⟩:∃h3,h3=h2.update T (Obj.mapFields (·.setIfInBounds 3 ((none:Option Addr).elim Value.none fun f=>rawInt f))):=⟨_,rfl⟩;have keep:∀b o,b≠e->h1.get? b=some o->h3.get? b=some o:=fun b o J9 hb=>by
   have TM:T≠b:=by rw[hT];exact Nat.ne_of_gt (Heap.lt_size hb)
   rw[Sl,Sj,Heap.get?_update_other _ _ TM,Heap.get?_update_other _ _ (Ne.symm J9)];exact Heap.get?_push_of_some _ hb
  have WO:h3.get? e=some (Obj.mapFields (·.setIfInBounds 1 (Value.ref T)) oe):=by rw[Sl,Heap.get?_update_other _ _ MW];exact WN
  have LK:∀b o,s.heap.get? b=some o->(∀vs,o.data≠.fields vs)->b≠e:=fun b o hb MH z=>by
   rw[z,he] at hb
   injection hb with hb
   subst hb;exact MH vs hd
  have QC:h3.get? T=some (Obj.mapFields (·.setIfInBounds 3 ((none:Option Addr).elim Value.none fun f=>rawInt f)) tb):=by rw[Sl];exact Heap.get?_update_self _ Me (Obj.isFreed_of_fields (Obj.data_mapFields Mf _))
  have Uo:=Obj.data_mapFields Mf (·.setIfInBounds 3 ((none:Option Addr).elim Value.none fun f=>rawInt f));have hq:Q () { s with heap:=h3 }:=by
   refine h h3 ⟨fun b o L3=>keep b o (fun z=>by rw[z,Uk] at L3;cases L3) (kb1 b o L3),hl.of_keeps fun b o hb MH=>?_,?_,fun b o hb MH=>?_⟩ ⟨fun b o hb J9 Ra=>?_,fun b o hb J9=>?_⟩ ⟨_,_,T,WO,Sk,by simp[hsz],Pf⟩
   ·obtain⟨sl,hs⟩:=q.2.2 b o hb;exact⟨_,keep b _ (LK b o hb MH) hs,rfl⟩
   ·refine⟨_,_,T,_,_,WO,⟨Obj.cls_mapFields _ _,by rw[Array.getElem?_setIfInBounds_ne (by decide)];exact h0⟩,Sk,by simp[hsz],?_,MW,QC,Uo,?_⟩
    ·rw[hT];exact kb1.fresh
    ·first|(simp;done)|(rcases LB with rfl|⟨_,_,_,_,_,_,_,rfl⟩<;>simp)
   ·obtain⟨sl,hs⟩:=q.2.2 b o hb;exact⟨sl,keep b _ (LK b o hb MH) hs⟩
   ·exact keep b o (by simpa using J9) ((q.2.1 b Ra).trans hb)
   ·obtain⟨sl,hs⟩:=q.2.2 b o hb;exact⟨sl,keep b _ (by simpa using J9) hs⟩
  rw[Sl] at hq;exact hq
 rw[Sj,hT] at goal;exact goal
def pa(h:Heap)(e T:Addr):Prop:=∃oe vs,h.get? e=some oe/\oe.data=.fields vs/\vs[1]?=some (.ref T)
theorem wR{base:Heap}{env:Env}{outer:List Env}{L e T:Addr}{cls a0:Value}{Q:Unit->Shared->Prop}
  (N7:A.frames=some (env :: outer)) (hl:s.heap.FunFrames base (env :: outer)) (hf:env.frame=some L) (ht:s.heap.TracedW base e cls a0) (Y1:pa s.heap e T) (QB:base.StaysIn s.heap) (Uk:base.get? e=none)
  (h:∀h' T',Heap.LeftW base (env :: outer) e cls a0 s.heap h'->tV (env :: outer) [e,T] s.heap h'->pa h' e T'->s.heap.objs.size<=T'->(∃oT,h'.get? T=some oT)->Q () { s with heap:=h' }):wpAny M A (noteFrame (.ref e) env) (fun _ s2=>wpAny M A (setFlight (.ref e) none) Q E s2) E s:=by
 obtain⟨oe,vs,T0,oT,ts,he,⟨IL,h0⟩,hd,h1,WQ,MW,hT,Mf,h3⟩:=ht;obtain⟨Pd,Pe,b1,b2,b3⟩:=Y1;rw[he] at b1;cases b1;rw[hd] at b2;cases b2;rw[h1] at b3;cases b3;subst IL;unfold noteFrame;simp only[hf];refine wpAny_bind (wpAny_field he hd h1 ?_);rw[if_pos (show(Value.ref T != Value.none)=true from by simp)];refine wpAny_bind (wpAny_field hT Mf h3 ?_);rw[if_neg (show ¬((Value.none == rawInt L)=true) from by simp[rawInt])];refine wpAny_bind (wpAny_setField hT Mf (Array.getElem?_eq_some_iff.mp h3).1 ?_);have other:∀b,b≠T->(s.heap.update T (Obj.mapFields (·.setIfInBounds 3 Value.none))).get? b=s.heap.get? b:=fun b hb=>Heap.get?_update_other _ _ (Ne.symm hb)
 have Pg:∀b o,s.heap.get? b=some o->(∀vs,o.data≠.fields vs)->b≠T:=fun b o hb MH z=>by
  rw[z,hT] at hb
  injection hb with hb
  subst hb;exact MH ts Mf
 refine rR N7 (hl.of_keeps fun b o hb MH=>⟨o,(other b (Pg b o hb MH)).trans hb,rfl⟩) hf ((other e (Ne.symm MW)).trans he)
  (fun b o L3=>(other b fun z=>by rw[z,WQ] at L3;cases L3).trans (QB b o L3)) Uk hd (Array.getElem?_eq_some_iff.mp h1).1 h0
  fun h' ⟨x1,x2,x3,x4⟩ ⟨y1,y2⟩ ⟨Pd,Pe,T',c1,c2,c3,c4⟩=>h h' T' ⟨x1,x2,x3,fun b o hb MH=>x4 b o ((other b (Pg b o hb MH)).trans hb) MH⟩ ⟨fun b o hb J9 Ra=>?_,fun b o hb J9=>?_⟩ ⟨Pd,Pe,c1,c2,c3⟩ ?_ ?_
 ·simp only[List.mem_cons,List.not_mem_nil,or_false,not_or] at J9;exact y1 b o ((other b J9.2).trans hb) (by simpa using J9.1) Ra
 ·simp only[List.mem_cons,List.not_mem_nil,or_false,not_or] at J9;exact y2 b o ((other b J9.2).trans hb) (by simpa using J9.1)
 ·have hsz:(s.heap.update T (Obj.mapFields (·.setIfInBounds 3 Value.none))).objs.size=s.heap.objs.size:=Heap.size_update ..;rw[<-hsz];exact c4
 ·have Mb:(s.heap.update T (Obj.mapFields (·.setIfInBounds 3 Value.none))).get? T=some (Obj.mapFields (·.setIfInBounds 3 Value.none) oT):=Heap.get?_update_self _ hT (Obj.isFreed_of_fields (Obj.data_mapFields Mf _));obtain⟨sl,q⟩:=y2 T _ Mb (by simpa using MW);exact⟨_,q⟩
end
end DL
namespace DL
open PySem PySem.Spec PyProof.Rows L2
section
variable{P:Program}{w:World}{H H':Hp}{h h':Heap}{a:Addr}{o:HO}
theorem ve(x:FT P w H h a o):∃u,h.get? a=some u:=by
 cases o with
 |lst xs=>obtain⟨_,_,_,_,e⟩:=x;exact⟨_,e⟩
 |tup xs=>obtain⟨_,_,_,_,e,_⟩:=x;exact⟨_,e⟩
 |dK kvs=>obtain⟨_,_,_,_,o,_,_,e,_⟩:=x;exact⟨_,e⟩
 |dT kvs=>obtain⟨_,_,_,_,o,_,_,e,_⟩:=x;exact⟨_,e⟩
 |set S n=>obtain⟨o,_,_,_,e,_⟩:=x;exact⟨_,e⟩
 |ins C dx fs=>obtain⟨_,_,_,e,_⟩:=x;exact⟨_,e⟩
 |own y=>obtain⟨_,e⟩:=x;exact⟨_,e⟩
 |xd fs=>obtain⟨_,⟨_,_,_,e,_⟩,_⟩:=x;exact⟨_,e⟩
 |Qf lo hi=>obtain⟨_,_,_,e⟩:=x;exact⟨_,e⟩
 |L4 ob u=>obtain⟨e,_⟩:=x;exact⟨_,e⟩
 |O0 ps=>exact⟨_,(show h.get? a=some _ from x)⟩
 |met f y=>exact⟨_,(show h.get? a=some _ from x)⟩
 |ext φ=>obtain⟨_,⟨_,e⟩,_⟩:=x;exact⟨_,e⟩
theorem uD(x:G6 P w H h)(hp:h.get? a=none):H a=none:=by
 cases q:H a with
 |none=>rfl
 |some u=>obtain⟨v,e⟩:=ve (x a u q);rw[hp] at e;cases e
theorem yS(x:G6 P w H h)(k:∀b u,h.get? b=some u->h'.get? b=some u)(hp:h.get? a=none)(new:FT P w (upd H a o) h' a o):G6 P w (upd H a o) h':=fun b u e=>by
 have hn:=uD x hp;by_cases hb:b=a
 ·subst hb;rw[bD] at e;cases e;exact new
 ·rw[bi hb] at e;exact(x b u e).Jd (fun c v _ q=>k c v q) (fun c q=>by rw[bi (ba q hn)];exact q) fun c xs q=>by rw[bi (ba q hn)];exact q
theorem zl{fs ex:List Addr}(k:∀b u,h.get? b=some u->h'.get? b=some u)(hp:h.get? a=none)(hn:H a=none):Un fs ex H (upd H a o) h h' where
 keep:=fun b u q _ _ _=>k b u q
 slot:=fun b u q _ _ _=>⟨u.slots,k b u q⟩
 free:=fun b u q n _=>by rw[bi (fun z=>by rw[z,hp] at q;cases q)];exact n
 there:=fun b u q _=>⟨u,k b u q⟩
 Iu:=fun b xs q=>by rw[bi (ba q hn)];exact q
 Ih:=fun b u xs q=>by rw[bi (ba q hn)];exact q
 Iw:=fun b ps q=>⟨#[],by rw[bi (ba q hn),q];simp⟩
theorem uV{c:Addr}(e:∃o,h.get? a=some o/\o.cls=.ref c):FT P w H h a (XO a c):=by
 obtain⟨o,e1,e2⟩:=e;exact⟨⟨o,e1,e2⟩,⟨o,e1⟩,fun h1 h2 ⟨u,q1,q2⟩ k=>⟨u,k u q1,q2⟩⟩
theorem pU(e:∃o,h.get? a=some o):FT P w H h a (TO a):=by
 obtain⟨o,e1⟩:=e;exact⟨⟨o,e1⟩,⟨o,e1⟩,fun h1 h2 ⟨u,q1⟩ k=>⟨u,k u q1⟩⟩
theorem uN{l:List Env}{ex:List Addr}{T:Addr}(x:G6 P w H h)(kb:tV l ex h h')(hf:∀b∈LX l,H b=none)
  (hx:∀b∈ex,(∃c,H b=some (XO b c)/\∃o,h'.get? b=some o/\o.cls=.ref c)\/(H b=some (TO b)/\∃o,h'.get? b=some o)) (hT:h.objs.size<=T) (Rm:∃o,h'.get? T=some o) :
  Un (LX l) [] H (upd H T (TO T)) h h'/\G6 P w (upd H T (TO T)) h':=by
 have hn:H T=none:=x.fresh hT;have WR:∀b,H b=none->b∉ex:=fun b n z=>by
  rcases hx b z with ⟨c,q,_⟩|⟨q,_⟩<;>(rw[n] at q;cases q)
 refine⟨⟨fun b u q n hb _=>kb.1 b u q (WR b n) hb,fun b u q n _ _=>kb.2 b u q (WR b n),fun b u q n _=>?_,fun b u q _=>?_,fun b xs q=>by rw[bi (ba q hn)];exact q,fun b u xs q=>by rw[bi (ba q hn)];exact q,fun b ps q=>⟨#[],by rw[bi (ba q hn),q];simp⟩⟩,fun b u e=>?_⟩
 ·rw[bi (Nat.ne_of_lt (Nat.lt_of_lt_of_le (Heap.lt_size q) hT))];exact n
 ·by_cases z:b∈ex
  ·rcases hx b z with ⟨c,_,o,e1,_⟩|⟨_,o,e1⟩<;>exact⟨o,e1⟩
  ·obtain⟨sl,e1⟩:=kb.2 b u q z;exact⟨_,e1⟩
 ·by_cases hb:b=T
  ·subst hb;rw[bD] at e;cases e;exact pU Rm
  ·rw[bi hb] at e;by_cases z:b∈ex
   ·rcases hx b z with ⟨c,q,y⟩|⟨q,y⟩
    ·rw[q] at e;cases e;exact uV y
    ·rw[q] at e;cases e;exact pU y
   ·refine(x b u e).Jd (fun c v hc q=>kb.1 c v q ?_ ?_) (fun c q=>by rw[bi (ba q hn)];exact q) fun c xs q=>by rw[bi (ba q hn)];exact q
    ·rcases hc with rfl|hc
     ·exact z
     ·intro zc;rcases hx c zc with ⟨_,q',_⟩|⟨q',_⟩<;>(rw[hc] at q';cases q')
    ·intro zf;have:=hf c zf;rcases hc with rfl|hc
     ·rw[e] at this;cases this
     ·rw[hc] at this;cases this
theorem yn{L:Addr}{fs ex:List Addr}(u:Un (L :: fs) ex H H' h h')(hL:h.objs.size<=L):Un fs ex H H' h h' where
 keep:=fun b o q n hb hx=>u.keep b o q n (fun z=>(List.mem_cons.mp z).elim (fun e=>absurd (Heap.lt_size q) (by rw[e];exact Nat.not_lt.mpr hL)) hb) hx
 slot:=fun b o q n hb hx=>u.slot b o q n (List.mem_cons_of_mem _ hb) hx
 free:=u.free
 there:=u.there
 Iu:=u.Iu
 Ih:=u.Ih
 Iw:=u.Iw
end
theorem Tr.of{base h:Heap}{a c T:Addr}{a0:Value}(t:h.TracedW base a (.ref c) a0)(ta:pa h a T):Tr h a c T:=by
 obtain⟨oe,vs,T0,oT,ts,he,⟨IL,h0⟩,hd,h1,WQ,MW,hT,Mf,h3⟩:=t;obtain⟨Pd,Pe,b1,b2,b3⟩:=ta;rw[he] at b1;cases b1;rw[hd] at b2;cases b2;rw[h1] at b3;cases b3;exact⟨oe,vs,oT,ts,a0,he,IL,hd,h0,h1,MW,hT,Mf,h3⟩
theorem Tr.to{base h:Heap}{a c T:Addr}(t:Tr h a c T)(hb:base.get? T=none):∃a0,h.TracedW base a (.ref c) a0/\pa h a T:=by
 obtain⟨oe,vs,oT,ts,a0,he,IL,hd,h0,h1,MW,hT,Mf,h3⟩:=t;exact⟨a0,⟨oe,vs,T,oT,ts,he,⟨IL,h0⟩,hd,h1,hb,MW,hT,Mf,h3⟩,oe,vs,he,hd,h1⟩
theorem Tr.cls{h:Heap}{a c T:Addr}(t:Tr h a c T):∃o,h.get? a=some o/\o.cls=.ref c:=by
 obtain⟨oe,vs,oT,ts,a0,he,IL,_⟩:=t;exact⟨oe,he,IL⟩
theorem Tr.end{h:Heap}{a c T:Addr}(t:Tr h a c T):∃o,h.get? T=some o:=by
 obtain⟨oe,vs,oT,ts,a0,he,IL,hd,h0,h1,MW,hT,_⟩:=t;exact⟨oT,hT⟩
def A_(P:Program)(w:World):Je:=fun outer H s E e s'=>∃a c T H',e=.ref a/\s'.os=s.os/\AllBare s'.gens/\Un (LX outer) [] H H' s.heap s'.heap/\G6 P w H' s'.heap/\H' a=some (XO a c)/\H' T=some (TO T)/\Tr s'.heap a c T/\E (.ref c) none H'
theorem yY{P:Program}{w:World}{H:Hp}{s:Shared}{e:Value}{s':Shared}:A_ P w [] H s (fun _ _ _=>False) e s'->False:=fun ⟨_,_,_,_,_,_,_,_,_,_,_,_,z⟩=>z
theorem j7{X:Cx}{pins:Fe}{σ:L2.St}{H:Hp}{s:Shared}{a:Addr}{o:HO}(I:Inv X pins σ H s)(e:H a=some o):X.base.get? a=none:=by
 cases q:X.base.get? a with
 |none=>rfl
 |some u=>have:=(I.bs a u q).2;rw[e] at this;cases this
theorem w3{X:Cx}{pins:Fe}{σ:L2.St}{H:Hp}{s:Shared}{a c:Addr}{Q:Unit->Shared->Prop}{E:Value->Shared->Prop}(He:X.stack=X.env :: X.outer/\X.env.frame=some X.env.locals)(I:Inv X pins σ H s)(hX:H a=some (XO a c))(hc:Ej s.heap a c\/∃T,H T=some (TO T)/\Tr s.heap a c T)
  (hq:∀h' T',H T'=none->Un (LX X.stack) [] H (upd H T' (TO T')) s.heap h'->G6 X.prog X.w (upd H T' (TO T')) h'->Tr h' a c T'->Q () { s with heap:=h' }) :
  wpAny (model X.prog X.w) X.A (noteFrame (.ref a) X.env) (fun _ s2=>wpAny (model X.prog X.w) X.A (setFlight (.ref a) none) Q E s2) E s:=by
 have N7:X.A.frames=some (X.env :: X.outer):=by rw[I.ok.frames,He.1]
 have hl:s.heap.FunFrames X.base (X.env :: X.outer):=by rw[<-He.1];exact I.stack
 have WS:∀b∈LX (X.env :: X.outer),H b=none:=by rw[<-He.1];exact I.KS
 have QB:X.base.StaysIn s.heap:=I.bk;rcases hc with ⟨oe,vs,a0,he,Na,hd,h0,h1⟩|⟨T,WT,tr⟩
 ·unfold noteFrame;simp only[He.2];refine wpAny_bind (wpAny_field he hd h1 ?_);rw[if_neg (by decide)];refine rR N7 hl He.2 he QB (j7 I hX) hd (Array.getElem?_eq_some_iff.mp h1).1 h0 fun h' lw kb ⟨Pd,Pe,T',c1,c2,c3,c4⟩=>?_
  rw[Na] at lw;have tr:=Tr.of lw.2.2.1 ⟨Pd,Pe,c1,c2,c3⟩;obtain⟨u1,u2⟩:=uN I.Fn kb WS (fun b hb=>.inl ⟨c,by simp at hb;subst hb;exact⟨hX,tr.cls⟩⟩) c4 tr.end;rw[<-He.1] at u1;exact hq h' T' (I.Fn.fresh c4) u1 u2 tr
 ·obtain⟨a0,tw,ta⟩:=tr.to (j7 I WT);refine wR N7 hl He.2 tw ta QB (j7 I hX) fun h' T' lw kb Y2 hs Y3=>?_
  have Up:=Tr.of lw.2.2.1 Y2;obtain⟨u1,u2⟩:=uN I.Fn kb WS (fun b hb=>by
   simp only[List.mem_cons,List.not_mem_nil,or_false] at hb;rcases hb with rfl|rfl
   ·exact .inl ⟨c,hX,Up.cls⟩
   ·exact .inr ⟨WT,Y3⟩) hs Up.end
  rw[<-He.1] at u1;exact hq h' T' (I.Fn.fresh hs) u1 u2 Up
theorem mw{P:Program}{w:World}{K:PySem.W.Frag}{mg:Str->Option Value}{base:Heap}{N:List Str}{qual:Str}{scope:Scope}{f:Addr}{Fm:Value}{A:Around}{outer:List Env}{s:Shared}{H:Hp}{E:XK} :
  zI (A_ P w) (oO (A_ P w) P w K mg base N qual scope f Fm A outer s H E) E:=by
 intro σ H' s' e c XI hE;obtain⟨I,a,rfl,hX,hc⟩:=XI;show wpAny (model P w) (A.deeper (envOfC qual scope s.heap.objs.size f Fm)) (leaving (envOfC qual scope s.heap.objs.size f Fm) (.ref a)) (fun _ Oc=>A_ P w outer H s E (.ref a) Oc) (fun e' Oc=>A_ P w outer H s E e' Oc) s';unfold leaving;refine wpAny_bind (w3 (X:=oO (A_ P w) P w K mg base N qual scope f Fm A outer s H E) (Q:=fun _ Oc=>A_ P w outer H s E (.ref a) Oc) ⟨rfl,rfl⟩ I hX hc fun h' T' hn un Fn tr=>?_);have N6:a≠T':=ba hX hn;refine⟨a,c,T',_,rfl,I.os,I.bare,yn (L:=s.heap.objs.size) (Un.trans (I.base.mono (fun b hb=>List.mem_cons_of_mem _ hb) fun b hb=>hb) un) (Nat.le_refl _),Fn,by rw[bi N6];exact hX,bD,tr,hE T' _ hn⟩
theorem aM{X:Cx}:oG (A_ X.prog X.w) X:=by
 intro E0 pins σ H s e s' I h;obtain⟨a,c,T,H',rfl,os,bare,un,Fn,hX,hT,tr,hE⟩:=h;obtain⟨hh,g,d,t,Td⟩:=s';obtain rfl:Td=s.os:=os;exact⟨c,H',⟨I.call (h':=hh) (g':=g) (d':=d) (t':=t) (ch:=[]) un Fn bare (fun b z=>absurd z (by simp)),a,rfl,hX,.inr ⟨T,hT,tr⟩⟩,hE⟩
structure Nu(K:PySem.W.Frag)(mg:Str->Option Value)(x:Str)(C:Addr):Prop where
 nm:mg x=some (.ref C)
 cls:PySem.W.excIn K C [.type "ValueError",.type "Exception",.type "BaseException",.type "object"] "ValueError.__new__"=true
theorem rK{K:PySem.W.Frag}{h:Heap}{C:Addr}{WU:List Value}{newId:String}(X:K.In h)(q:PySem.W.excIn K C WU newId=true) :
  ∃bm N nm q bs hdct sn sub ab col dd k0 k1 k2 k3 k5 mN,h.get? C=some (excClassObj nm q C N bs bm hdct sn sub ab col dd k0 k1 k2 k3 k5 newId)/\h.Ns N mN/\mN "__init__"=none/\OwnTail h WU bm:=by
 unfold PySem.W.excIn at q;split at q
 ·rename_i dd cd sl ho;split at q
  ·rename_i C' bm k0 k1 k2 k3 n k5 hm hs;simp only[Bool.and_eq_true,beq_iff_eq,Bool.not_eq_true'] at q;obtain⟨⟨⟨⟨⟨rfl,rfl⟩,Rn⟩,ht⟩,Fn⟩,Ro⟩:=q;obtain⟨nm,bs,mro,ns,qn,hd,sn,sub,ab,col,del⟩:=cd;dsimp only at hm Rn Fn Ro;subst hm Rn;have Pf:sl = #[k0,k1,k2,k3,some (.builtin n),k5]:=by
    obtain⟨l⟩:=sl;simp only at hs;rw[hs]
   subst Pf;exact⟨bm,ns,nm,qn,bs,hd,sn,sub,ab,col,dd,k0,k1,k2,k3,k5,_,X _ _ ho,.of_isNs (PySem.W.isNs_of_in X Fn),PySem.W.nsMap_none_of_in X Fn Ro,PySem.W.tail_of_in X ht⟩
  ·cases q
 ·cases q
def nD(C:Addr)(fe:s_->M D):Fw:=fun r=>cw (fe r) r fun _ S=>some (.xc C r,S)
theorem mV{X:Cx}{x:Str}{C:Addr}{np Gb pos:Pos}{e:Expr}{fe:s_->M D}(hx:Nu X.K X.mg x C)(hg:Gl X x)(hc:X.calm=true)(he:FR X e fe)
  (MP:(x == ("__debug__":Str))=false:=by decide) (hs:starEach [e] X.env=(false,eval e X.env) :: starEach [] X.env:=by rfl) :
  L1 X (.Raise (some (.Call (.Name x np) [e] [] Gb)) none pos) (nD C fe):=by
 intro pins s σ H J r S Q E I m;obtain⟨tl,N,nm,q,bs,hdct,sn,sub,ab,col,dd,k0,k1,k2,k3,k5,mN,hC,hN,Ro,T⟩:=rK I.inv.mod.Qh hx.cls;refine wpAny_Raise_call_subT (C:=C) (nm:=nm) (q:=q) (N:=N) (bs:=bs) (bm:=tl) (hdct:=hdct) (sn:=sn) (sub:=sub) (ab:=ab) (col:=col) (dd:=dd) (k0:=k0) (k1:=k1) (k2:=k2) (k3:=k3) (k5:=k5)
  PySem.F.excBase_ValueError (mN:=mN) (T.hasType PySem.F.excBase_ValueError.hasBase) (I.inv.ok.hd hc) (by rw[hs];rfl) Ro (lf I.inv hg hx.nm ⟨rfl,?_⟩ MP)
 rw[hs];refine Calls.evalArgs_plain (Calls.spliced_cons (Q6 he I m fun d S1 v s1 vx H1 J1 I1 rv r1 m1=>Calls.spliced_nil ⟨rfl,(by decide:(1:Nat)<=sizeLine),I1.inv.bk _ _ hC,hN.keeps I1.inv.bk,T.keeps I1.inv.bk,fun h' e' hm=>?_⟩));obtain⟨t0,Rl,_,_⟩:=hm.there;have hn:H1 e'=none:=uD I1.inv.Fn hm.new;have I2:Inv X pins σ (upd H1 e' (XO e' C)) { s1 with heap:=h' }:=I1.inv.un (h':=h') (t':=s1.toks) (zl hm.keeps hm.new hn) (yS I1.inv.Fn hm.keeps hm.new (uV ⟨_,Rl,rfl⟩));exact m1 (.ref e') _ σ (upd H1 e' (XO e' C)) J1 ⟨I2,e',rfl,bD,.inl ⟨_,_,_,Rl,rfl,rfl,rfl,rfl⟩⟩ (I1.loc.ext (Ext.new hn)) (I1.st.new hn) (Ext.new hn)
end DL
namespace DL
open PySem PySem.Spec PyProof.Rows L2
section
variable{P:Program}{w:World}{H H':Hp}{h h':Heap}{a:Addr}{o:HO}
theorem Ak{T:Addr}(x:G6 P w H h)(hT:H T=some (TO T))(k:∀b,b≠T->h'.get? b=h.get? b)(Rm:∃o,h'.get? T=some o)(fs:List Addr) :
  Un fs [] H H h h'/\G6 P w H h':=by
 have ne:∀b,H b=none->b≠T:=fun b n z=>by rw[z,hT] at n;cases n
 refine⟨⟨fun b u q n _ _=>(k b (ne b n)).trans q,fun b u q n _ _=>⟨u.slots,(k b (ne b n)).trans q⟩,fun _ _ _ n _=>n,fun b u q _=>?_,fun _ _ q=>q,fun _ _ _ q=>q,fun b ps q=>⟨#[],by rw[q];simp⟩⟩,fun b u e=>?_⟩
 ·by_cases z:b=T
  ·subst z;exact Rm
  ·exact⟨u,(k b z).trans q⟩
 ·by_cases z:b=T
  ·subst z;rw[hT] at e;cases e;exact pU Rm
  ·refine(x b u e).Jd (fun c v hc q=>(k c ?_).trans q) (fun _ q=>q) fun _ _ q=>q
   rcases hc with rfl|hc
   ·exact z
   ·rintro rfl;rw[hT] at hc;cases hc
end
def Cx.marked(X:Cx)(a:Addr):Cx:={ X with A:=X.A.mark (some (.ref a)),calm:=false }
section
variable{X:Cx}{pins:Fe}{σ:L2.St}{H:Hp}{s:Shared}{a c T:Addr}
theorem wL(I:Inv X pins σ H s)(a:Addr):Inv (Cx.marked X a) pins σ H s:=
 ⟨⟨I.ok.mod,I.ok.kind,I.ok.glob,I.ok.blt,I.ok.above,I.ok.inj,I.ok.has,I.ok.Qi,fun z=>(nomatch z),I.ok.frames,I.ok.QM,I.ok.SU,I.ok.bs,I.ok.M5,I.ok.MM,I.ok.Nf,I.ok.IK,I.ok.Ob⟩,I.os,I.bare,I.base,I.loc,I.cell,I.free,I.HE,I.pin,I.Fn,I.len⟩
theorem hW(ok:X.Ok)(I:Inv (Cx.marked X a) pins σ H s):Inv X pins σ H s:=⟨ok,I.os,I.bare,I.base,I.loc,I.cell,I.free,I.HE,I.pin,I.Fn,I.len⟩
theorem oU{M:Model}{A:Around}{Q:Unit->Shared->Prop}{E:Value->Shared->Prop}(I:Inv X pins σ H s)(hT:H T=some (TO T))(t:Tr s.heap a c T)
  (hq:∀h',Inv X pins σ H { s with heap:=h' }->(∃o,h'.get? a=some o/\o.cls=.ref c)->Q () { s with heap:=h' }):wpAny M A (setFlight (.ref a) none) Q E s:=by
 obtain⟨oe,vs,oT,ts,a0,he,IL,hd,h0,h1,MW,WV,Mf,h3⟩:=t;unfold setFlight;refine wpAny_bind (wpAny_field he hd h1 ?_);rw[if_pos (show(Value.ref T != Value.none)=true from by simp)];refine wpAny_setField WV Mf (Array.getElem?_eq_some_iff.mp h3).1 ?_;have k:∀b,b≠T->(s.heap.update T (Obj.mapFields (·.setIfInBounds 3 ((none:Option Addr).elim Value.none fun f=>rawInt f)))).get? b=s.heap.get? b:=fun b hb=>Heap.get?_update_other _ _ (Ne.symm hb)
 obtain⟨u1,u2⟩:=Ak I.Fn hT k ⟨_,Heap.get?_update_self _ WV (Obj.isFreed_of_fields (Obj.data_mapFields Mf _))⟩ X.fs;exact hq _ (I.un (t':=s.toks) u1 u2) ⟨oe,(k a (Ne.symm MW)).trans he,IL⟩
end
structure Y4(K:PySem.W.Frag)(c C:Addr):Prop where
 sub:PySem.W.subIn K (.ref c) (.ref C)=some true
theorem tE{M:Model}{A:Around}{E:Value->Shared->Prop}{s:Shared}{K:PySem.W.Frag}{a c C:Addr}{x:Str}{mg:Str->Option Value}{Q:Bool->Shared->Prop}(X:K.In s.heap)(hC:Nu K mg x C)(hs:PySem.W.subIn K (.ref c) (.ref C)=some true)
  (he:∃o,s.heap.get? a=some o/\o.cls=.ref c) (hq:Q true s):wpAny M A (excMatches (.ref a) (.ref C)) Q E s:=by
 obtain⟨tl,N,nm,q,bs,hdct,sn,sub,ab,col,dd,k0,k1,k2,k3,k5,mN,WX,hN,Ro,T⟩:=rK X hC.cls;obtain⟨oe,he,IL⟩:=he;have Y5:(Value.ref C :: tl).contains (.type "BaseException")=true:=by rw[List.contains_cons,T.hasType PySem.F.excBase_ValueError.hasBase,Bool.or_true]
 have f:=tc_notTuple;obtain⟨hh,g,d,tk,os⟩:=s;have L:=PySem.W.looks_subIn (M:=M) X hs;unfold excMatches
 repeat (first|(with_reducible refine wpAny_loadPart_at he ?_;rw[IL])|with_reducible refine wpAny_loadPart_at WX ?_|(with_reducible refine wpAny_isSubtype_exc WX ?_;rw[Y5])|(with_reducible refine L.here ?_)|wp_step)
 exact hq
def WY:L0->L0
 |some (.xc _ _,_)=>none
 |x=>x
def v6(L:List Addr)(t u:Fw):Fw:=fun r S=>match t r S with
 |some (.xc c r',S')=>if c∈L then WY (u r' S') else none
 |x=>x
section
variable{X:Cx}{body Nv:List Stmt}{PZ:Stmt}{t u:Fw}{pos np hp:Pos}{x:Str}{C:Addr}{L:List Addr}
theorem CK(hC:Nu X.K X.mg x C)(hL:∀c∈L,PySem.W.subIn X.K (.ref c) (.ref C)=some true)(hg:Gl X x)(He:X.stack=X.env :: X.outer/\X.env.frame=some X.env.locals)(hb:nv X body t)(hs:∀a,nv (Cx.marked X a) (PZ :: Nv) u)
  (MP:(x == ("__debug__":Str))=false:=by decide) :
  L1 X (.Try body [.ExceptHandler (some (.Name x np)) none (PZ :: Nv) hp] [] [] pos) (v6 L t u):=by
 intro pins s σ H J r S Q E I m;refine wpAny_Try_except (hb pins s σ H J r S _ _ I ?_);unfold v6 at m
 match e:t r S with
 |none=>rw[e] at m;exact m
 |some (.nx r',S')=>
  rw[e] at m;exact fun s' FJ H' J' a x=>wpAny_execs_nil (m s' FJ H' J' a x)
 |some (.bk r',S')=>rw[e] at m;exact m
 |some (.ct r',S')=>rw[e] at m;exact m
 |some (.rt d,S')=>rw[e] at m;exact m
 |some (.xc c r',S')=>
  rw[e] at m;dsimp only at m;split at m
  ·rename_i Y6;rintro ev s' FJ H' J' ⟨I1,a,rfl,hX,hc⟩ rl rs ex;refine w3 He I1 hX hc fun h' T' hn un Fn tr=>?_
   have N6:a≠T':=ba hX hn;have I2:Inv X pins FJ (upd H' T' (TO T')) { s' with heap:=h' }:=I1.call (h':=h') (g':=s'.gens) (d':=s'.drawn) (t':=s'.toks) (ch:=[]) un Fn I1.bare (fun b z=>absurd z (by simp));have I3:=wL I2 a;refine wpAny_handleBy_cons (codeAny_handlers_test (lf (X:=Cx.marked X a) I3 hg hC.nm ?_ MP)) (by intro q;cases q);refine tE I2.Jy hC (hL c Y6) tr.cls (codeAny_handlers_suite ?_);refine oU I3 bD tr fun h2 I4 _=>?_
   have JX:Ext H' J' (upd H' T' (TO T')) J':=Ext.new hn;refine hs a pins _ FJ _ J' r' S' _ _ ⟨I4,rl.ext JX,rs.new hn⟩ ?_;have m2:=Kc.ext (ex.trans JX) m
   match e2:u r' S' with
   |none=>rw[e2] at m2;exact m2
   |some (.nx r2,S2)=>rw[e2] at m2;exact fun s3 LI H3 J3 a3 x3=>m2 s3 LI H3 J3 ⟨hW I2.ok a3.inv,a3.loc,a3.st⟩ x3
   |some (.bk r2,S2)=>rw[e2] at m2;exact fun s3 LI H3 J3 a3 x3=>m2 s3 LI H3 J3 ⟨hW I2.ok a3.inv,a3.loc,a3.st⟩ x3
   |some (.ct r2,S2)=>rw[e2] at m2;exact fun s3 LI H3 J3 a3 x3=>m2 s3 LI H3 J3 ⟨hW I2.ok a3.inv,a3.loc,a3.st⟩ x3
   |some (.rt d,S2)=>rw[e2] at m2;exact fun v s3 LI ⟨vv,H3,I5,rv,g⟩=>m2 v s3 LI ⟨vv,H3,hW I2.ok I5,rv,g⟩
   |some (.xc c2 r2,S2)=>rw[e2] at m2;exact m2.elim
  ·exact m.elim
end
end DL
namespace DL
open PySem PySem.Spec PyProof.Rows L2
section
variable{X:Cx}{pins:Fe}{σ:L2.St}{H:Hp}{s:Shared}
end
section
variable{X:Cx}{body Nv:List Stmt}{PZ:Stmt}{t u:Fw}{pos np hp:Pos}{x n:Str}{C:Addr}{L:List Addr}{i:Nat}
end
section
variable{X:Cx}{e:Expr}{fe:s_->M D}{pos:Pos}
end
end DL
namespace DL
open PySem PySem.Spec PyProof.Rows L2
theorem CQ{α:Type}{P:α->Prop}:∀c∈([]:List α),P c:=fun _ h=>nomatch h
theorem AX{α:Type}{P:α->Prop}{x:α}{l:List α}(h:P x)(t:∀c∈l,P c):∀c∈x :: l,P c:=fun c hc=>(List.mem_cons.mp hc).elim (fun e=>e ▸ h) (t c)
section
variable{X:Cx}{pos p p2 p3 p4:Pos}
end
end DL
namespace DL
open PySem PySem.Spec PyProof.Rows L2
def DJ:D->Bool
 |.D_=>true
 |_=>false
def wP(x y:D):M D:=fun S=>match y with
 |.D_=>.ok (.bl (DJ x)) S
 |_=>.bad
def mW(x y:D):M D:=fun S=>match y with
 |.D_=>.ok (.bl (!DJ x)) S
 |_=>.bad
theorem r_.Nw{K:PySem.W.Frag}{H:Hp}{J:List Addr}{d:D}{v:V}(h:r_ K H J d v):decide (v=.D_)=DJ d:=by
 cases d with
 |D_=>cases h.LH;rfl
 |bl b=>cases h.N4;rfl
 |int i=>cases h.Gu;rfl
 |str x=>cases h.Nj;rfl
 |tup xs=>obtain⟨a,vs,rfl,_⟩:=h.IC;rfl
 |Gp xs=>obtain⟨a,vs,rfl,_⟩:=h.KZ;rfl
 |ob n=>obtain⟨a,rfl,_⟩:=h.Im;rfl
 |xn c=>obtain⟨a,rfl,_⟩:=h.Yh;rfl
section
variable{X:Cx}
theorem z7:IW X (compareOp .Is) wP:=by
 intro pins s σ H J S x y vx vy v u Q E I rs rx ry rv ru m;cases y with
 |D_=>
  cases ry.LH;cases ru;refine is_none_gen ?_;rw[rv.Lx,rx.Nw];exact m.HL I rs (r_.bl _ _ _ _) rfl
 |_=>exact m.elim
theorem xi:IW X (compareOp .IsNot) mW:=by
 intro pins s σ H J S x y vx vy v u Q E I rs rx ry rv ru m;cases y with
 |D_=>
  cases ry.LH;cases ru;refine isnot_none_gen ?_;rw[rv.Lx,rx.Nw];exact m.HL I rs (r_.bl _ _ _ _) rfl
 |_=>exact m.elim
end
end DL
namespace DL
open PySem PySem.Spec PyProof.Rows L2
structure NoX(K:PySem.W.Frag)(c:Addr):Prop where
 cls:PySem.W.excIn K c [.type "ValueError",.type "Exception",.type "BaseException",.type "object"] "ValueError.__new__"=true
 ga:PySem.W.findIn K (.ref c) "__getattribute__"=some (some (.builtin "BaseException.__getattribute__"))
 gat:PySem.W.findIn K (.ref c) "__getattr__"=some none
 Y7:PySem.W.findIn K (.ref c) "__class__"=some (some (.builtin "object.__class__"))
section
variable{prog:Program}{w:World}{A:Around}{E:Value->Shared->Prop}{h:Heap}{g:Array GenState}{d:Drawn}{t:Nat}{os:OsState}{a:Addr}{o:Obj}{K:PySem.W.Frag}
 {nm q:Str}{C N:Addr}{bs bm:List Value}{hdct:Bool}{sn:List Str}{sub:List Value}{ab:Bool}{col:Option Bool}{dd:Option Addr}{k0 k1 k2 k3 k5:Option Value}{newId:String}
end
end DL
namespace DL
open PySem PySem.Spec PyProof.Rows L2
section
variable{env:Env}{es:List Expr}
end
end DL
namespace DL
open PySem PySem.Spec PyProof.Rows
section
variable{prog:Program}{w:World}{A:Around}{E:Value->Shared->Prop}{s:Shared}{b:Array Keyed}
theorem BD{st:SortSt}{Q:Option Nat->SortSt->Prop}(hk:IntKeys b)(h1:1<=b.size)(hB:SBase b st)(up:SortedTo (arrOf st) b.size)(q:Q (some b.size) st):wpS (model prog w) A E s (countRun' 0 b.size) Q st:=by
 rw[countRun0_eq];have Se:SortedTo (arrOf st) 1:=fun i j hi hj=>up i j hi (by omega)
 refine wpS_bind (wpS_ascLoop hk (Nat.le_refl _) (Nat.le_refl 1) h1 hB Se fun n n1 n2 _ o=>?_);have e:n=b.size:=by
  rcases o with z|z
  ·exact z
  ·apply Classical.byContradiction;intro ne;have:=up (n-1) n (by omega) (by omega);omega
 subst e;dsimp only;rw[if_pos (by simp)];exact wpS_pure q
theorem Bu{st:SortSt}{Q:Unit->SortSt->Prop}(hk:IntKeys b)(hB:SBase b st)(h2:2<=b.size)(up:SortedTo (arrOf st) b.size)
  (q:∀HK,(arrOf HK).Perm b->failedOf HK=none->SortedTo (arrOf HK) b.size->Q () HK):wpS (model prog w) A E s sortRuns' Q st:=by
 rw[sortRuns'_eq];refine wpS_bind (wpS_get ?_);dsimp only;simp only[hB.size];obtain⟨mr,Y8⟩:∃mr,minRun' b.size b.size 0=mr:=⟨_,rfl⟩;rw[Y8];have done:∀MQ,SBase b MQ->SortedTo (arrOf MQ) b.size->SDone b (setPending MQ ((pendingOf MQ).push (0,b.size,0))):=fun MQ B h=>B.done h
 refine wpS_bind (wpS_mono (wpS_forRange (I:=fun x c HK=>(x=0/\c=(none,0)/\HK=st)\/(1<=x/\c=(none,b.size)/\SDone b HK)) (Q:=fun c HK=>c=(none,b.size)/\SDone b HK) ?step ?fin (.inl ⟨rfl,rfl,rfl⟩)) ?post)
 case fin=>
  intro c HK h;rcases h with ⟨hx,_⟩|⟨_,h⟩
  ·omega
  ·exact h
 case step=>
  intro x c HK _ hx h;rcases h with ⟨rfl,rfl,rfl⟩|⟨hx1,rfl,hD⟩
  ·dsimp only;rw[if_neg (by omega)];simp only[Nat.sub_zero,Nat.zero_add];refine wpS_bind (BD hk (by omega) hB up ?_);dsimp only;by_cases HA:b.size<mr
   ·rw[if_pos HA];simp only[Nat.sub_zero,Nat.min_eq_left (Nat.le_of_lt HA)];refine wpS_bind (wpS_lift (wpAny_rule ⟨rfl,?_⟩));refine wpS_bind (wpS_binarySort hk (Nat.le_refl _) (Nat.le_refl _) hB up fun MQ B3 h3=>?_);simp only[Bool.not_true,Bool.false_eq_true,if_false];refine wpS_bind (wpS_get ?_);rw[show(pendingOf MQ).back?=none by rw[B3.pend];rfl];dsimp only;exact wpS_bind (wpS_modify (wpS_pure (.inr ⟨by omega,rfl,done _ B3 h3⟩)))
   ·rw[if_neg HA];refine wpS_bind (wpS_get ?_);rw[show(pendingOf HK).back?=none by rw[hB.pend];rfl];dsimp only;exact wpS_bind (wpS_modify (wpS_pure (.inr ⟨by omega,rfl,done _ hB up⟩)))
  ·dsimp only;rw[if_pos (Nat.le_refl _)];exact wpS_pure ⟨rfl,hD⟩
 case post=>
  intro c HK h;obtain⟨rfl,hD⟩:=h;dsimp only;refine wpS_bind (wpS_mono (wpS_forRange (I:=fun _ c z=>z=HK/\c=(none,())) (Q:=fun c z=>z=HK/\c=(none,())) ?_ (fun _ _ z=>z) ⟨rfl,rfl⟩) ?_)
  ·intro x c z _ _ h;obtain⟨rfl,rfl⟩:=h;refine wpS_bind (wpS_get ?_);rw[if_pos (by rw[hD.2.2.1];exact Nat.le_refl 1)];exact wpS_pure ⟨rfl,rfl⟩
  ·intro c z h;obtain⟨rfl,rfl⟩:=h;exact wpS_pure (q _ hD.1 hD.2.1 hD.2.2.2)
theorem vH{vs:List Value}{ns:List Int}(hI:IntsAre vs ns)(up:ns.Pairwise (·<=·)):SortedTo (pairsOf vs) (pairsOf vs).size:=by
 intro i j hij hj;have hn:=hI.nums;have hl:(pairsOf vs).size=vs.length:=pairsOf_size vs;have key:∀k (hk:k<(pairsOf vs).size),K (pairsOf vs) k=ns.getD k 0:=fun k hk=>by
  rw[K_eq hk];have hk':k<vs.length:=by omega
  have e:(pairsOf vs)[k].1=vs[k]:=by simp[pairsOf]
  rw[e,<-hn];simp[List.getD,hk']
 rw[key i (by omega),key j hj];by_cases e:i=j
 ·subst e;exact Int.le_refl _
 ·have Nx:ns.length=vs.length:=by rw[<-hn,List.length_map]
  have:=List.pairwise_iff_getElem.mp up i j (by omega) (by omega) (by omega);simpa[List.getD,show i<ns.length by omega,show j<ns.length by omega] using this
theorem BP{a:Addr}{vs:List Value}{ns:List Int}{n:Nat}{P:Fin->Shared->Prop}(ho:s.heap.get? a=some (seqObj "list" vs.toArray n))(hI:IntsAre vs ns)(up:ns.Pairwise (·<=·))(hz:vs.length<=sizeLine)
  (q:∀(out:Array Value) (Np:List Int),IntsAre out.toList Np->Np.Perm ns->Np.Pairwise (·<=·)->P (.done (.ret .none)) { s with heap:=sortedHeap s.heap a vs out }):wpAny (model prog w) A (Builtin.«list.sort» ⟨[.ref a],[]⟩) P E s:=by
 rw[list_sort_plain];have la:a<s.heap.objs.size:=Heap.lt_size ho;have zz:vs.toArray.size<=sizeLine:=by simpa using hz
 refine wpAny_bind (listItems_at ho rfl (wpAny_bind (listUpdate_at ho rfl ?_ zz (Nat.zero_le _))));obtain⟨e1,o1⟩:∃e1,(s.heap.update a (Obj.mapSeq fun _=>#[])).get? a=some (seqObj "list" #[] e1):=⟨_,get?_update_seq ho (fun _=>#[])⟩;refine wpAny_bind (seqEpoch_at o1 rfl (wpAny_bind (wpAny_newTuple ?_ )));refine wpAny_bind (wpAny_newList (wpAny_holding ?_));have o6:(((s.heap.update a (Obj.mapSeq fun _=>#[])).push (seqObj "tuple" vs.toArray 0)).push (seqObj "list" #[] 0)).get? a=some (seqObj "list" #[] e1):=by
  have n1:a≠(s.heap.update a (Obj.mapSeq fun _=>#[])).objs.size:=by rw[Heap.size_update];exact Nat.ne_of_lt la
  have n2:a≠((s.heap.update a (Obj.mapSeq fun _=>#[])).push (seqObj "tuple" vs.toArray 0)).objs.size:=by rw[size_push',Heap.size_update];exact Nat.ne_of_lt (Nat.lt_succ_of_lt la)
  rw[Heap.get?_push_ne _ _ _ n2,Heap.get?_push_ne _ _ _ n1];exact o1
 show wpAny (model prog w) A _ P E { s with heap:=((s.heap.update a (Obj.mapSeq fun _=>#[])).push (seqObj "tuple" vs.toArray 0)).push (seqObj "list" #[] 0) };dsimp only;have end_:∀HK:SortSt,(arrOf HK).Perm (pairsOf vs)->SortedTo (arrOf HK) (pairsOf vs).size->P (.done (.ret .none)) { s with heap:=sortedHeap s.heap a vs ((arrOf HK).map (·.2)) }:=fun HK hp hs=>by
  obtain⟨Np,h1,h2,h3⟩:=sorted_out hI hp hs;exact q _ Np h1 h2 h3
 by_cases h2:vs.toArray.size<2
 ·rw[if_pos h2,if_pos h2];refine wpAny_bind (wpAny_pure ?_);rw[StateT.run_pure];refine wpAny_bind (wpAny_pure ?_);dsimp only;refine wpAny_bind (seqEpoch_at o6 rfl (wpAny_bind (listUpdate_at o6 rfl ?_ (Nat.zero_le _) ?_)))
  ·simp only[bne_self_eq_false,Bool.false_eq_true,if_false];exact wpAny_pure (end_ (SortSt.mk' general' (vs.toArray.zip vs.toArray) #[] 7 none) (Array.Perm.refl _) (vH hI up))
  ·rw[Array.size_map];show(pairsOf vs).size<=_;rw[pairsOf_size];omega
 ·rw[if_neg h2,if_neg h2];obtain⟨v1,v2,rest,rfl⟩:∃v1 v2 rest,vs=v1 :: v2 :: rest:=by
   match vs,h2 with
   |[],h2=>simp at h2
   |[_],h2=>simp at h2
   |v1 :: v2 :: rest,_=>exact⟨v1,v2,rest,rfl⟩
  rw[keyKind_ints hI];refine wpAny_bind (wpAny_pure ?_);obtain⟨vs,Rb⟩:∃vs,v1 :: v2 :: rest=vs:=⟨_,rfl⟩;rw[Rb] at hI hz zz o6 end_ h2 ⊢;have l2:2<=(pairsOf vs).size:=by rw[pairsOf_size,<-Rb];simp
  refine wpAny_bind (wpAny_mono (Bu (b:=pairsOf vs) (st:=SortSt.mk' oneType' (vs.toArray.zip vs.toArray) #[] 7 none) (Q:=fun _ HK=>(arrOf HK).Perm (pairsOf vs)/\failedOf HK=none/\SortedTo (arrOf HK) (pairsOf vs).size) hI.intKeys ⟨Array.Perm.refl _,rfl,rfl,rfl⟩ l2 (vH hI up) fun HK a1 a2 a3=>⟨a1,a2,a3⟩) ?_ fun _ _ e=>e);rintro⟨⟨⟩,HK⟩ s' ⟨rfl,hp,hf,hs⟩;dsimp only;refine wpAny_bind (seqEpoch_at o6 rfl (wpAny_bind (listUpdate_at o6 rfl ?_ (Nat.zero_le _) ?_)))
  ·rw[hf];simp only[bne_self_eq_false,Bool.false_eq_true,if_false];exact wpAny_pure (end_ HK hp hs)
  ·rw[Array.size_map,hp.size_eq,pairsOf_size];omega
theorem yr{l:Addr}{vs:List Value}{ns:List Int}{Q:Value->Shared->Prop}(hl:s.heap.IsList l vs.toArray)(hI:IntsAre vs ns)(up:ns.Pairwise (·<=·))(hz:vs.length<=sizeLine)
  (q:∀(out:Array Value),IntsAre out.toList ns->Q (.ref (s.heap.objs.size+1)) { s with heap:=sortedAll s.heap vs out }):wpAny (model prog w) A (call (.builtin "sorted") [.ref l]) Q E s:=by
 refine Calls.call_function_entry kind_sorted plain_sorted entry_sorted (args_sorted1 _) ?_;unfold Builtin.«sorted»;refine wpAny_bind (m:=checkCount "sorted" 1 1 _) (wpAny_pure ?_);refine wpAny_bind (collect_list hl (wpAny_bind (wpAny_newList ?_)) hz);obtain⟨h1,e1⟩:∃h1,(s.heap.push (seqObj "list" #[] 0)).update s.heap.objs.size (Obj.mapSeq (·++vs.toArray))=h1:=⟨_,rfl⟩;have z1:h1.objs.size=s.heap.objs.size+1:=by rw[<-e1,Heap.size_update,size_push']
 have o1:(h1.push (seqObj "list" vs.toArray 0)).get? (s.heap.objs.size+1)=some (seqObj "list" vs.toArray 0):=by
  rw[<-z1];exact Heap.get?_push_size _ rfl
 show wpAny _ _ _ _ _ { s with heap:=((s.heap.push (seqObj "list" #[] 0)).update s.heap.objs.size (Obj.mapSeq (·++vs.toArray))).push (seqObj "list" vs.toArray 0) };have sa:∀out,sortedAll s.heap vs out=sortedHeap (h1.push (seqObj "list" vs.toArray 0)) (s.heap.objs.size+1) vs out:=fun out=>by rw[<-e1];rfl
 rw[e1,z1];refine wpAny_bind (wpAny_holding (wpAny_call_entry slot_list_sort ⟨_,o1,rfl⟩ entry_list_sort (BP o1 hI up hz fun out Np a1 a2 a3=>⟨_,rfl,?_⟩) (args_list_sort _)));have en:Np=ns:=List.Perm.eq_of_pairwise (fun a b _ _ h1 h2=>Int.le_antisymm h1 h2) a3 up a2;subst en;have:=q out a1;rw[sa] at this;exact wpAny_pure ⟨_,rfl,this⟩
end
end DL
namespace DL
open PySem PySem.Spec PyProof.Rows L2
theorem sA:∀{ns:List Int}{us:List Value},Vals (ns.map V.int) us->IntsAre us ns
 |[],_,.nil=>.nil
 |n :: ns,_,.cons h t=>by
  obtain⟨tk,rfl⟩:=h;exact .cons n tk (sA t)
theorem jE:∀{ns:List Int}{us:List Value},IntsAre us ns->Vals (ns.map V.int) us
 |_,_,.nil=>.nil
 |_,_,.cons n t h=>.cons ⟨t,rfl⟩ (jE h)
section
variable{X:Cx}
theorem qm:HN X (.builtin "sorted") (fun xs H Q=>∃(p:Addr) (ns:List Int),xs=[.ref p]/\G7 X.K H p (ns.map V.int)/\ns.Pairwise (·<=·)/\∀l,H l=none->Q (.ref l) (upd H l (.lst (ns.map V.int)))):=by
 intro pins s σ H xs us Q I r h;obtain⟨p,ns,rfl,hq,up,q⟩:=h;obtain⟨u,rfl,rx⟩:=xk r;cases rx;obtain⟨w_,r',pl,hz⟩:=I.list hq;have hlen:=r'.length;refine yr (ns:=ns) pl.isList (sA r') up (by omega) fun out ho=>?_
 obtain⟨e,he⟩:=sortedAll_at s.heap w_ out;have Qy:(ns.map V.int).length<=sizeLine:=hz;exact⟨.ref (s.heap.objs.size+1),_,I.laid (t':=s.toks) (fun b o e=>sortedAll_old e) (Nat.le_succ _) (show FT X.prog X.w _ _ _ (.lst (ns.map V.int)) from ⟨Qy,out.toList,e,jE ho,he⟩),rfl,q _ (I.Fn.fresh (Nat.le_succ _))⟩
theorem yx:bootBuiltins "sorted"=some (.builtin "sorted"):=by decide +kernel
def mB:List D->M D
 |[.ob n]=>fun S=>match cz S n with
  |some xs=>(match iZ xs with
   |some is=>Hq (is.Pairwise (·<=·)) (.ok (.ob S.length) (S++[.lst xs])) .bad
   |none=>.bad)
  |none=>.bad
 |_=>M.bad
theorem vn{xs:List D}{S:List Cell}(h:mB xs S≠.bad):∃(n:Nat) (is:List Int),xs=[.ob n]/\cz S n=some (is.map D.int)/\is.Pairwise (·<=·)/\mB xs S=.ok (.ob S.length) (S++[.lst (is.map D.int)]):=by
 unfold mB at h ⊢;split at h
 ·rename_i n
  try dsimp only at h
  try dsimp only
  cases e0:cz S n with
  |none=>rw[e0] at h;exact absurd rfl h
  |some ys=>
   rw[e0] at h
   try dsimp only at h
   try dsimp only
   cases e2:iZ ys with
   |none=>rw[e2] at h;exact absurd rfl h
   |some is=>
    rw[e2] at h
    try dsimp only at h
    try dsimp only
    by_cases up:is.Pairwise (·<=·)
    ·have e3:=mi e2;subst e3;exact⟨n,is,rfl,e0,up,bW up⟩
    ·rw[uf up] at h;exact absurd rfl h
 ·exact absurd rfl h
theorem yM:GP X (.builtin "sorted") mB:=by
 refine GP.of (r:=fun xs H Q=>∃(p:Addr) (ns:List Int),xs=[.ref p]/\G7 X.K H p (ns.map V.int)/\ns.Pairwise (·<=·)/\∀l,H l=none->Q (.ref l) (upd H l (.lst (ns.map V.int)))) (fun E=>qm (X:=X.Fz E)) (fun H J S xs vs d S' rs rx e=>?_) (fun xs S c S' e=>?_)
 ·obtain⟨n,is,rfl,h1,up,h2⟩:=vn (by rw[e];intro z;cases z);rw[h2] at e;cases e;obtain⟨v,rfl,hv⟩:=rx.ID;obtain⟨a,rfl,hn⟩:=hv.Im;obtain⟨ws,hw,FK⟩:=rs.lst h1 hn;have ew:=mZ (g:=V.int) (fun i v h=>h.Gu) FK;subst ew;exact⟨a,is,rfl,G7.of hw,up,fun l hl=>Got.lst rs FK hl⟩
 ·obtain⟨n,is,rfl,h1,up,h2⟩:=vn (by rw[e];intro z;cases z);rw[h2] at e;cases e
end
end DL
namespace DL
open PySem PySem.Spec PyProof.Rows L2
end DL
namespace Lw
open PySem L2 DL
open PyProof.Rows (boot_max boot_min boot_sum boot_all boot_int boot_tuple boot_list boot_isinstance boot_range boot_enumerate boot_bool)
theorem GC{N P:List Str}{sc:Scope}(a:sc.kind=.function:=by rfl)(b:sc.isCoroutine=false:=by rfl)(c:sc.isGenerator=false:=by rfl)(d:N.Nodup:=by decide +kernel)(e:N.take P.length=P:=by rfl)(f:∀x∈P,sc.names.lookup x=some .local\/sc.names.lookup x=some .cell:=by decide +kernel)(g:∀y∈sc.names,y.2≠.free:=by decide +kernel):n_ N P sc:=⟨a,b,c,d,e,f,g⟩
@[simp] def mF(n:Nat)(c:Fw):List D->M D:=fun xs S=>fin S (c (xs.map some++List.replicate (n-xs.length) none) S)
@[simp] def mP(n:Nat)(c:Fw):List D->M D:=fun xs S=>cI S (c (xs.map some++List.replicate (n-xs.length) none) S)
theorem fE{P:Program}{w:World}{K:PySem.W.Frag}{mg:Str->Option Value}{base:Heap}{x qual:Str}{st:Stmt}{f:Addr}{fd:FuncData}{N ps:List Str}{k:Nat}{t:Fw}(hF:Gf K x qual st f fd)(S:n_ N ps (h_ st))(h:∀(Fm:Value) (A:Around) (outer:List Env) (s:Shared) (H:Hp) (E:XK),Gy k (A.deeper (PyProof.Rows.envOfC qual (h_ st) s.heap.objs.size f Fm))->nv (oO (A_ P w) P w K mg base N qual (h_ st) f Fm A outer s H E) (F_ st) t):Gm P w K mg base (A_ P w) (k+1) f fd ps (mF N.length t):=qK hF S (fun _ _ _ _ _ _=>mw) (fun Fm A outer s H E hr=>⟨t,h Fm A outer s H E hr,fun xs S0 hl=>mH⟩)
theorem fG{P:Program}{w:World}{K:PySem.W.Frag}{mg:Str->Option Value}{base:Heap}{x qual:Str}{st:Stmt}{f:Addr}{fd:FuncData}{N ps:List Str}{k:Nat}{t:Fw}(hF:Gf K x qual st f fd)(S:n_ N ps (h_ st))(h:∀(Fm:Value) (A:Around) (outer:List Env) (s:Shared) (H:Hp) (E:XK),Gy k (A.deeper (PyProof.Rows.envOfC qual (h_ st) s.heap.objs.size f Fm))->nv (oO (A_ P w) P w K mg base N qual (h_ st) f Fm A outer s H E) (F_ st) t):Gm P w K mg base (A_ P w) (k+1) f fd ps (mP N.length t):=qK hF S (fun _ _ _ _ _ _=>mw) (fun Fm A outer s H E hr=>⟨t,h Fm A outer s H E hr,fun xs S0 hl=>yH⟩)
def top(i:Nat):Stmt:=PySem.Challenge.pw_sureroad_k19_what_lies_on_roads.main.body.getD i (.Pass ⟨0,0,0,0⟩)
abbrev lP:Stmt:=top 41
abbrev kK:Stmt:=top 40
abbrev iy:Stmt:=top 43
abbrev eX:Stmt:=bq (top 15) 0
abbrev eV:Stmt:=bq (top 13) 0
abbrev fD:Stmt:=bq (top 37) 0
abbrev kT:Stmt:=top 44
abbrev kz:Stmt:=top 34
abbrev i8:Stmt:=top 32
abbrev lQ:Stmt:=top 26
abbrev qu:Stmt:=top 27
abbrev lL:Stmt:=top 28
abbrev lJ:Stmt:=top 29
abbrev ni:Stmt:=top 30
abbrev wn:Stmt:=top 35
abbrev gL:Stmt:=bq (top 37) 9
abbrev eG:Stmt:=bq (top 37) 13
abbrev jQ:Stmt:=top 47
abbrev kM:Stmt:=top 10
abbrev jl:Stmt:=bq (top 15) 1
abbrev ka:Stmt:=bq (top 37) 1
abbrev iK:Stmt:=top 42
abbrev mh:Stmt:=top 31
abbrev nV:Stmt:=top 33
abbrev eN:Stmt:=bq (top 37) 15
abbrev kB:Stmt:=top 7
abbrev fL:Stmt:=bq (top 15) 7
abbrev gP:Stmt:=bq (top 15) 6
abbrev jo:Stmt:=bq (top 15) 5
abbrev jX:Stmt:=bq (top 37) 3
abbrev fA:Stmt:=bq (top 37) 14
abbrev iP:Stmt:=bq (top 13) 2
abbrev dP:Stmt:=bq (top 13) 4
abbrev j3:Stmt:=top 6
abbrev kh:Stmt:=top 8
abbrev jt:Stmt:=bq (top 13) 6
abbrev j0:Stmt:=top 11
abbrev jj:Stmt:=bq (top 13) 8
abbrev fj:Stmt:=bq (top 13) 7
abbrev jv:Stmt:=bq (top 13) 9
abbrev eu:Stmt:=bq (top 13) 5
abbrev ix:Stmt:=bq (top 13) 3
abbrev eL:Stmt:=bq (top 15) 4
abbrev eF:Stmt:=bq (top 15) 11
abbrev dN:Stmt:=bq (top 15) 12
abbrev eo:Stmt:=bq (top 15) 10
abbrev eO:Stmt:=bq (top 15) 9
abbrev iG:Stmt:=bq (top 15) 8
abbrev iq:Stmt:=bq (top 37) 16
abbrev jR:Stmt:=bq (top 37) 4
abbrev j2:Stmt:=bq (top 37) 5
abbrev iE:Stmt:=bq (top 37) 6
abbrev nW:Stmt:=top 38
abbrev jk:Stmt:=bq (top 37) 7
abbrev jn:Stmt:=bq (top 15) 3
abbrev jh:Stmt:=bq (top 13) 1
abbrev jS:Stmt:=bq (top 37) 8
abbrev ik:Stmt:=bq (top 15) 2
abbrev iX:Stmt:=bq (top 37) 2
abbrev nQ:Stmt:=top 45
abbrev jN:Stmt:=top 48
abbrev sI:Stmt:=top 49
structure Cs where
 g_:Addr
 c_:Addr
 World:Addr
 Ny:Addr
 Gq:Addr
abbrev d_:List Str:=["window","given","opening","next_index","early","begun"]
theorem aX:d_.Nodup:=by decide +kernel
abbrev a_:List Str:=["window","most","messages","sure","opening","state","pieces","base","noted"]
theorem aG:a_.Nodup:=by decide +kernel
abbrev m_:List Str:=["sender","hearer","roads"]
theorem b8:m_.Nodup:=by decide +kernel
abbrev Hu:List Str:=["hello","welcome","who","data","note"]
abbrev d2:D:=.tup (Hu.map D.str)
abbrev GF:List Str:=["hello","welcome","who"]
abbrev eB:D:=.tup (GF.map D.str)
abbrev FN:D:=.int 65535
abbrev Fp:D:=.int 13
abbrev FQ:D:=.int 255
abbrev FW:D:=.int 8
abbrev Hi:D:=.int 7
abbrev Fq:D:=.int 3
abbrev Fi:D:=.int 2
structure Txt(K:PySem.W.Frag)(mg:Str->Option Value)(G:Cs):Prop where
 Ph:mg "all"=none
 P0:mg "bool"=none
 Jm:mg "enumerate"=none
 Rp:mg "int"=none
 GG:mg "isinstance"=none
 GH:mg "len"=none
 P4:mg "list"=none
 Rq:mg "max"=none
 Pj:mg "min"=none
 K3:mg "range"=none
 Nz:mg "sorted"=none
 NA:mg "sum"=none
 G2:mg "tuple"=none
 o_:Lz K G.g_
 FO:Fy K G.g_ "window"
 HF:Fy K G.g_ "given"
 E9:Fy K G.g_ "opening"
 y_:Fy K G.g_ "next_index"
 FF:Fy K G.g_ "early"
 Gj:Fy K G.g_ "begun"
 i_:Lz K G.c_
 FP:Fy K G.c_ "window"
 G9:Fy K G.c_ "most"
 Gz:Fy K G.c_ "messages"
 G_:Fy K G.c_ "sure"
 FD:Fy K G.c_ "opening"
 B_:Fy K G.c_ "state"
 Ff:Fy K G.c_ "pieces"
 Fj:Fy K G.c_ "base"
 Gw:Fy K G.c_ "noted"
 u_:Lz K G.World
 FG:Fy K G.World "sender"
 Gx:Fy K G.World "hearer"
 Fd:Fy K G.World "roads"
 NB:Nu K mg "NoCard" G.Ny
 Ie:Nu K mg "NoStrip" G.Gq
 GA:PySem.W.subIn K (.ref G.Gq) (.ref G.Gq)=some true
 K4:KP K mg "KINDS" Hu
 Ke:KP K mg "SHORT_KINDS" GF
 Kf:∃u,mg "TOP_OPENING"=some u/\Jr K FN u
 K6:∃u,mg "TOP_NUMBER"=some u/\Jr K Fp u
 JH:∃u,mg "TOP_CELL"=some u/\Jr K FQ u
 HR:∃u,mg "MOST_PIECE_LETTERS"=some u/\Jr K FW u
 LL:∃u,mg "MOST_BITS"=some u/\Jr K Hi u
 I0:∃u,mg "HEAD_CELLS"=some u/\Jr K Fq u
 Io:∃u,mg "CHECK_CELLS"=some u/\Jr K Fi u
section
variable{P:Program}{w:World}{K:PySem.W.Frag}{mg:Str->Option Value}{base:Heap}
theorem uS:n_ ["_law_cell_here","_law_prime","_law_many"] ["_law_cell_here","_law_prime","_law_many"] (h_ lP):=GC
def oI:Fw:=(bG (f_ kq (f_ kq (f_ eI (aa 0) (dC (.int 48271))) (aa 1)) (aa 2)))
def aH:List D->M D:=mF 3 oI
theorem um{G:Cs}(T:Txt K mg G){f:Addr}{fd:FuncData}(F:Gf K "_law_mix" "_law_mix" lP f fd):Gm P w K mg base (A_ P w) 1 f fd ["_law_cell_here","_law_prime","_law_many"] aH:=by
 refine fE F uS fun Fm A outer s H E hr=>?_
 have hu:=hr.units;exact(ao (aW (bI jp (bI jp (bI jw (ae 0) aq) (ae 1)) (ae 2))))
theorem tf:n_ ["_law_script","_law_k"] ["_law_script","_law_k"] (h_ kK):=GC
def jO:Fw:=(aL (Ga (al (f_ HQ (aa 1) (am bw (ac (aa 0) ai)))) (bG (f_ t_ (aa 0) (aa 1))) bz)
 (bG (dC (.int 0))))
def bK:List D->M D:=mF 2 jO
theorem tq{G:Cs}(T:Txt K mg G){f:Addr}{fd:FuncData}(F:Gf K "_law_cell" "_law_cell" kK f fd):Gm P w K mg base (A_ P w) 1 f fd ["_law_script","_law_k"] bK:=by
 refine fE F tf fun Fm A outer s H E hr=>?_
 have hu:=hr.units;exact(au (bu (aD km (ae 1) (bx dm rfl T.GH PySem.boot_len (af (ae 0) ah)) (aK _)) (ao (aW (aJ FY (ae 0) (ae 1) (fun _ _=>rfl)))) aU)
   (ao (aW aq)))
theorem GX:n_ ["_law_script","_law_window","_law_most"] ["_law_script"] (h_ iy):=GC
def gQ:Fw:=(aL (cr (f_ bL (dC (.int 1)) (am aH (ac (am bK (ac (aa 0) (ac (dC (.int 0)) ai))) (ac (dC (.int 9883)) (ac (dC (.int 7)) ai))))) (gN 1))
 (aL (cr (f_ bL (dC (.int 1)) (am aH (ac (am bK (ac (aa 0) (ac (dC (.int 1)) ai))) (ac (dC (.int 9871)) (ac (dC (.int 8)) ai))))) (gN 2))
 (bG (cn (ac (aa 1) (ac (aa 2) ai))))))
def ff:List D->M D:=mF 3 gQ
theorem oQ{G:Cs}(T:Txt K mg G)(Hj:Hs P w K mg base (A_ P w) "_law_cell" 1 ["_law_script","_law_k"] bK)(Fs:Hs P w K mg base (A_ P w) "_law_mix" 1 ["_law_cell_here","_law_prime","_law_many"] aH){f:Addr}{fd:FuncData}(F:Gf K "_law_setting" "_law_setting" iy f fd):Gm P w K mg base (A_ P w) 2 f fd ["_law_script"] ff:=by
 refine fE F GX fun Fm A outer s H E hr=>?_
 have hu:=hr.units;exact(au (bO (i:=1) GX.nd (bI cD aq (aP Fs (hr.mono (by decide)) rfl aM (af (aP Hj (hr.mono (by decide)) rfl aM (af (ae 0) (af aq ah)) (ak (ak aE))) (af aq (af aq ah))) (ak (ak (ak aE))))))
   (au (bO (i:=2) GX.nd (bI cD aq (aP Fs (hr.mono (by decide)) rfl aM (af (aP Hj (hr.mono (by decide)) rfl aM (af (ae 0) (af aq ah)) (ak (ak aE))) (af aq (af aq ah))) (ak (ak (ak aE))))))
   (ao (aW (cg (af (ae 1) (af (ae 2) ah)))))))
theorem lI:n_ ["self","window","most"] ["self","window","most"] (h_ eX):=GC
def dg(G:Cs):Fw:=(aL (cJ G.c_ [] "window" (aa 0) (aa 1))
 (aL (cJ G.c_ ["window"] "most" (aa 0) (aa 2))
 (aL (cJ G.c_ ["window","most"] "messages" (aa 0) (bV ai))
 (aL (cJ G.c_ ["window","most","messages"] "sure" (aa 0) (dC (.int 0)))
 (aL (cJ G.c_ ["window","most","messages","sure"] "opening" (aa 0) (dC (.int 0)))
 (aL (cJ G.c_ ["window","most","messages","sure","opening"] "state" (aa 0) (dC (.str "shut")))
 (aL (cJ G.c_ ["window","most","messages","sure","opening","state"] "pieces" (aa 0) (bV ai))
 (aL (cJ G.c_ ["window","most","messages","sure","opening","state","pieces"] "base" (aa 0) (dC (.int 0)))
 (cJ G.c_ ["window","most","messages","sure","opening","state","pieces","base"] "noted" (aa 0) kj)))))))))
def bZ(G:Cs):List D->M D:=fun xs S=>fin S (dg G (xs.map some++List.replicate (3-xs.length) none) S)
theorem lZ{G:Cs}(T:Txt K mg G){f:Addr}{fd:FuncData}(F:Gf K "__init__" "Sender.__init__" eX f fd):Gm P w K mg base (A_ P w) 1 f fd ["self","window","most"] (bZ G):=by
 refine qK F lI (fun _ _ _ _ _ _=>mw) (fun Fm A outer s H E hr=>⟨dg G,?_,fun xs S0 hl=>mH⟩);have hu:=hr.units;exact(au (cN T.i_ T.FP (by decide) (by decide +kernel) (ae 0) (ae 1))
   (au (cN T.i_ T.G9 (by decide) (by decide +kernel) (ae 0) (ae 2))
   (au (cN T.i_ T.Gz (by decide) (by decide +kernel) (ae 0) (ci ah))
   (au (cN T.i_ T.G_ (by decide) (by decide +kernel) (ae 0) aq)
   (au (cN T.i_ T.FD (by decide) (by decide +kernel) (ae 0) aq)
   (au (cN T.i_ T.B_ (by decide) (by decide +kernel) (ae 0) aI)
   (au (cN T.i_ T.Ff (by decide) (by decide +kernel) (ae 0) (ci ah))
   (au (cN T.i_ T.Fj (by decide) (by decide +kernel) (ae 0) aq)
   (ao (cN T.i_ T.Gw (by decide) (by decide +kernel) (ae 0) pe))))))))))
theorem mf:n_ ["self","window"] ["self","window"] (h_ eV):=GC
def di(G:Cs):Fw:=(aL (cJ G.g_ [] "window" (aa 0) (aa 1))
 (aL (cJ G.g_ ["window"] "given" (aa 0) (bV ai))
 (aL (cJ G.g_ ["window","given"] "opening" (aa 0) (dC (.int 0)))
 (aL (cJ G.g_ ["window","given","opening"] "next_index" (aa 0) (dC (.int 0)))
 (aL (cJ G.g_ ["window","given","opening","next_index"] "early" (aa 0) kj)
 (cJ G.g_ ["window","given","opening","next_index","early"] "begun" (aa 0) (bV ai)))))))
def bQ(G:Cs):List D->M D:=fun xs S=>fin S (di G (xs.map some++List.replicate (2-xs.length) none) S)
theorem me{G:Cs}(T:Txt K mg G){f:Addr}{fd:FuncData}(F:Gf K "__init__" "Hearer.__init__" eV f fd):Gm P w K mg base (A_ P w) 1 f fd ["self","window"] (bQ G):=by
 refine qK F mf (fun _ _ _ _ _ _=>mw) (fun Fm A outer s H E hr=>⟨di G,?_,fun xs S0 hl=>mH⟩);have hu:=hr.units;exact(au (cN T.o_ T.FO (by decide) (by decide +kernel) (ae 0) (ae 1))
   (au (cN T.o_ T.HF (by decide) (by decide +kernel) (ae 0) (ci ah))
   (au (cN T.o_ T.E9 (by decide) (by decide +kernel) (ae 0) aq)
   (au (cN T.o_ T.y_ (by decide) (by decide +kernel) (ae 0) aq)
   (au (cN T.o_ T.FF (by decide) (by decide +kernel) (ae 0) pe)
   (ao (cN T.o_ T.Gj (by decide) (by decide +kernel) (ae 0) (ci ah))))))))
theorem mz:n_ ["self","window","most"] ["self","window","most"] (h_ fD):=GC
def dG(G:Cs):Fw:=(aL (cJ G.World [] "sender" (aa 0) (am (iI G.c_ (bZ G)) (ac (aa 1) (ac (aa 2) ai))))
 (aL (cJ G.World ["sender"] "hearer" (aa 0) (am (iI G.g_ (bQ G)) (ac (aa 1) ai)))
 (cJ G.World ["sender","hearer"] "roads" (aa 0) (pj (iD (dC (.str "there")) (bV ai) (iD (dC (.str "back")) (bV ai) rG))))))
def cH(G:Cs):List D->M D:=fun xs S=>fin S (dG G (xs.map some++List.replicate (3-xs.length) none) S)
theorem m0{G:Cs}(T:Txt K mg G)(NC:Md P w K mg base (A_ P w) "Sender" G.c_ 1 ["self","window","most"] (bZ G))(ND:Md P w K mg base (A_ P w) "Hearer" G.g_ 1 ["self","window"] (bQ G)){f:Addr}{fd:FuncData}(F:Gf K "__init__" "World.__init__" fD f fd):Gm P w K mg base (A_ P w) 3 f fd ["self","window","most"] (cH G):=by
 refine qK F mz (fun _ _ _ _ _ _=>mw) (fun Fm A outer s H E hr=>⟨dG G,?_,fun xs S0 hl=>mH⟩);have hu:=hr.units;exact(au (cN T.u_ T.FG (by decide) (by decide +kernel) (ae 0) (tU NC (hr.mono (by decide)) rfl aM (af (ae 1) (af (ae 2) ah)) (dR (ak (ak aE)))))
   (au (cN T.u_ T.Gx (by decide) (by decide +kernel) (ae 0) (tU ND (hr.mono (by decide)) rfl aM (af (ae 1) ah) (dR (ak aE))))
   (ao (cN T.u_ T.Fd (by decide) (by decide +kernel) (ae 0) (AK (ut aI (ci ah) (ut aI (ci ah) Bs)))))))
theorem Gg:n_ ["_law_script","_law_falls","_law_found","_law_cell_here","_law_turn","_law_road"] ["_law_script","_law_falls"] (h_ kT):=GC
def eW:Fw:=(aL (cr (am aH (ac (aa 3) (ac (dC (.int 9859)) (ac (dC (.int 20)) ai)))) (gN 4))
 (aL (cr (f_ t_ (bV (ac (dC (.str "there")) (ac (dC (.str "back")) ai))) (am aH (ac (aa 3) (ac (dC (.int 9857)) (ac (dC (.int 2)) ai))))) (gN 5))
 (Ga (al (f_ HQ (aa 4) (dC (.int 2)))) (bB (IY j4 (aa 2) (ac (cn (ac (dC (.str "hand")) (ac (aa 3) ai))) ai))) (Ga (al (f_ HQ (aa 4) (dC (.int 6)))) (bB (IY j4 (aa 2) (ac (cn (ac (dC (.str "tick")) ai)) ai))) (Ga (al (f_ HQ (aa 4) (dC (.int 14)))) (cr (f_ bL (aa 2) (f_ eI (bV (ac (cn (ac (dC (.str "step")) (ac (aa 5) ai))) ai)) (f_ bL (dC (.int 1)) (am aH (ac (aa 3) (ac (dC (.int 9851)) (ac (dC (.int 4)) ai))))))) (gN 2)) (Ga (al (f_ HQ (aa 4) (dC (.int 17)))) (bB (IY j4 (aa 2) (ac (cn (ac (f_ t_ (bV (ac (dC (.str "lose")) (ac (dC (.str "double")) (ac (dC (.str "spoil")) ai)))) (f_ rF (aa 4) (dC (.int 14)))) (ac (aa 5) (ac (am aH (ac (aa 3) (ac (dC (.int 9839)) (ac (dC (.int 6)) ai)))) (ac (aa 3) ai))))) ai))) (Ga (cX (al (f_ Fo (aa 4) (dC (.int 17)))) (bR (aa 1))) (cr (f_ bL (aa 2) (bV (ac (cn (ac (dC (.str "fall")) (ac (f_ t_ (bV (ac (dC (.str "sender")) (ac (dC (.str "hearer")) ai))) (am aH (ac (aa 3) (ac (dC (.int 9833)) (ac (dC (.int 2)) ai))))) ai))) ai))) (gN 2)) (bB (IY j4 (aa 2) (ac (cn (ac (dC (.str "open")) ai)) ai))))))))))
def jV:Fw:=(aL (cr (bV (ac (cn (ac (dC (.str "open")) ai)) (ac (cn (ac (dC (.str "hand")) (ac (am bK (ac (aa 0) (ac (dC (.int 2)) ai))) ai))) ai))) (gN 2))
 (aL (pL (HM (HP Hh (aa 0) (bP (dC (.int 3))) (bP (dC (.int 63))))) (gN 3) eW)
 (bG (aa 2))))
def gr:List D->M D:=mF 6 jV
theorem ug{G:Cs}(T:Txt K mg G)(Hj:Hs P w K mg base (A_ P w) "_law_cell" 1 ["_law_script","_law_k"] bK)(Fs:Hs P w K mg base (A_ P w) "_law_mix" 1 ["_law_cell_here","_law_prime","_law_many"] aH){f:Addr}{fd:FuncData}(F:Gf K "_law_acts" "_law_acts" kT f fd):Gm P w K mg base (A_ P w) 2 f fd ["_law_script","_law_falls"] gr:=by
 refine fE F Gg fun Fm A outer s H E hr=>?_
 have hu:=hr.units;exact(au (bO (i:=2) Gg.nd (ci (af (cg (af aI ah)) (af (cg (af aI (af (aP Hj (hr.mono (by decide)) rfl aM (af (ae 0) (af aq ah)) (ak (ak aE))) ah))) ah))))
   (au (ma rfl (d6 (fB Ot (ae 0) (dQ aq) (dQ aq))) (cj (i:=3) Gg.nd) (au (bO (i:=4) Gg.nd (aP Fs (hr.mono (by decide)) rfl aM (af (ae 3) (af aq (af aq ah))) (ak (ak (ak aE)))))
   (au (bO (i:=5) Gg.nd (aJ FY (ci (af aI (af aI ah))) (aP Fs (hr.mono (by decide)) rfl aM (af (ae 3) (af aq (af aq ah))) (ak (ak (ak aE)))) (fun _ _=>rfl)))
   (ao (bu (aD km (ae 4) aq (aK _)) (ao (aY (eh PySem.F.slot_list_append PySem.F.type_list_append dA (ae 2) (af (cg (af aI (af (ae 3) ah))) ah)))) (ao (bu (aD km (ae 4) aq (aK _)) (ao (aY (eh PySem.F.slot_list_append PySem.F.type_list_append dA (ae 2) (af (cg (af aI ah)) ah)))) (ao (bu (aD km (ae 4) aq (aK _)) (ao (bO (i:=2) Gg.nd (bI cD (ae 2) (bI jw (ci (af (cg (af aI (af (ae 5) ah))) ah)) (bI cD aq (aP Fs (hr.mono (by decide)) rfl aM (af (ae 3) (af aq (af aq ah))) (ak (ak (ak aE))))))))) (ao (bu (aD km (ae 4) aq (aK _)) (ao (aY (eh PySem.F.slot_list_append PySem.F.type_list_append dA (ae 2) (af (cg (af (aJ FY (ci (af aI (af aI (af aI ah)))) (bI wk (ae 4) aq) (fun _ _=>rfl)) (af (ae 5) (af (aP Fs (hr.mono (by decide)) rfl aM (af (ae 3) (af aq (af aq ah))) (ak (ak (ak aE)))) (af (ae 3) ah))))) ah)))) (ao (bu (IV.pt (dJ (aD (cm hu) (ae 4) aq (aK _)) (db (cR (ae 1))))) (ao (bO (i:=2) Gg.nd (bI cD (ae 2) (ci (af (cg (af aI (af (aJ FY (ci (af aI (af aI ah))) (aP Fs (hr.mono (by decide)) rfl aM (af (ae 3) (af aq (af aq ah))) (ak (ak (ak aE)))) (fun _ _=>rfl)) ah))) ah))))) (ao (aY (eh PySem.F.slot_list_append PySem.F.type_list_append dA (ae 2) (af (cg (af aI ah)) ah)))))))))))))))))
   (ao (aW (ae 2)))))
theorem G3:n_ ["cells","kind","opening","rest"] ["cells"] (h_ kz):=GC
def fu:Fw:=(aL (cr (f_ t_ (dC d2) (f_ t_ (aa 0) (dC (.int 0)))) (gN 1))
 (aL (cr (f_ bL (f_ eI (f_ t_ (aa 0) (dC (.int 1))) (dC (.int 256))) (f_ t_ (aa 0) (dC (.int 2)))) (gN 2))
 (aL (cr (HP Hh (aa 0) (bP (dC Fq)) bT) (gN 3))
 (aL (Ga (cX (al (f_ Fo (aa 1) (dC (.str "data")))) (al (f_ IZ (am bw (ac (aa 3) ai)) (dC (.int 2))))) (bG (cn (ac (aa 1) (ac (aa 2) (ac (f_ t_ (aa 3) (dC (.int 0))) (ac (cn (ac (f_ t_ (aa 3) (dC (.int 1))) (ac (HP Hh (aa 3) (bP (dC (.int 2))) bT) ai))) ai)))))) bz)
 (aL (Ga (cX (al (f_ Fo (aa 1) (dC (.str "note")))) (al (f_ IZ (am bw (ac (aa 3) ai)) (dC (.int 1))))) (bG (cn (ac (aa 1) (ac (aa 2) (ac (f_ t_ (aa 3) (dC (.int 0))) (ac (HP Hh (aa 3) (bP (dC (.int 1))) bT) ai)))))) bz)
 (bG (f_ bL (cn (ac (aa 1) (ac (aa 2) ai))) (aa 3))))))))
def gz:List D->M D:=mP 4 fu
theorem ua{G:Cs}(T:Txt K mg G){f:Addr}{fd:FuncData}(F:Gf K "card_from" "card_from" kz f fd):Gm P w K mg base (A_ P w) 1 f fd ["cells"] gz:=by
 refine fG F G3 fun Fm A outer s H E hr=>?_
 have hu:=hr.units;exact(au (bO (i:=1) G3.nd (aJ FY (dc rfl T.K4.glob) (aJ FY (ae 0) aq (fun _ _=>rfl)) (fun _ _=>rfl)))
   (au (bO (i:=2) G3.nd (bI cD (bI jw (aJ FY (ae 0) aq (fun _ _=>rfl)) aq) (aJ FY (ae 0) aq (fun _ _=>rfl))))
   (au (bO (i:=3) G3.nd (fB Ot (ae 0) (dQ (dc rfl T.I0)) iu))
   (au (bu (IV.pt (dJ (aD (cm hu) (ae 1) aI (aK _)) (db (aD rS (bx dm rfl T.GH PySem.boot_len (af (ae 3) ah)) aq (aK _))))) (ao (aW (cg (af (ae 1) (af (ae 2) (af (aJ FY (ae 3) aq (fun _ _=>rfl)) (af (cg (af (aJ FY (ae 3) aq (fun _ _=>rfl)) (af (fB Ot (ae 3) (dQ aq) iu) ah))) ah))))))) aU)
   (au (bu (IV.pt (dJ (aD (cm hu) (ae 1) aI (aK _)) (db (aD rS (bx dm rfl T.GH PySem.boot_len (af (ae 3) ah)) aq (aK _))))) (ao (aW (cg (af (ae 1) (af (ae 2) (af (aJ FY (ae 3) aq (fun _ _=>rfl)) (af (fB Ot (ae 3) (dQ aq) iu) ah))))))) aU)
   (ao (aW (bI cD (cg (af (ae 1) (af (ae 2) ah))) (ae 3)))))))))
theorem Ha:n_ ["cells","summed","weighed"] ["cells"] (h_ i8):=GC
def iC:Fw:=(aL (cr (f_ bL (aa 0) (cn (ac (f_ kq (am nz (ac (aa 0) ai)) (dC (.int 256))) ai))) (gN 1))
 (aL (cr (am nz (ac (dH (sM 1 (aa 1)) (gT [0,1]) gy (f_ eI (aa 0) (aa 1)) 2 []) ai)) (gN 2))
 (bG (f_ bL (aa 1) (cn (ac (f_ kq (aa 2) (dC (.int 256))) ai))))))
def cE:List D->M D:=mP 3 iC
theorem pJ{G:Cs}(T:Txt K mg G){f:Addr}{fd:FuncData}(F:Gf K "with_checks" "with_checks" i8 f fd):Gm P w K mg base (A_ P w) 1 f fd ["cells"] cE:=by
 refine fG F Ha fun Fm A outer s H E hr=>?_
 have hu:=hr.units;exact(au (bO (i:=1) Ha.nd (bI cD (ae 0) (cg (af (bI jp (bx (wd rfl) rfl T.NA boot_sum (af (ae 0) ah)) aq) ah))))
   (au (bO (i:=2) Ha.nd (bx (wd rfl) rfl T.NA boot_sum (af (gU (own:=["place","cell"]) (capN:=[]) (caps:=[]) ⟨rfl,IE.all trivial,rfl,by decide +kernel,rfl,by decide +kernel,trivial,by decide +kernel⟩ rfl (yL rfl T.Jm (ae 1)) (Bz (by decide)) (fun C s2 H2 fp=>⟨(wx rfl (jA (cj (i:=0) (show(["place","cell"]:List Str).Nodup from by decide +kernel)) (jA (cj (i:=1) (show(["place","cell"]:List Str).Nodup from by decide +kernel)) sT))),ja,(bI jw (ae 0) (ae 1))⟩)) ah)))
   (ao (aW (bI cD (ae 1) (cg (af (bI jp (ae 2) aq) ah)))))))
theorem u8:n_ ["thing","top"] ["thing","top"] (h_ lQ):=GC
def kC:Fw:=(bG (im (Ls "int" (aa 0)) (im (zu (Ls "bool" (aa 0))) (jb JY JY (dC (.int 0)) (aa 0) (aa 1)))))
def aQ:List D->M D:=mF 2 kC
theorem vo{G:Cs}(T:Txt K mg G){f:Addr}{fd:FuncData}(F:Gf K "is_whole" "is_whole" lQ f fd):Gm P w K mg base (A_ P w) 1 f fd ["thing","top"] aQ:=by
 refine fE F u8 fun Fm A outer s H E hr=>?_
 have hu:=hr.units;exact(ao (aW (kP (jF (ae 0) rfl T.GG rfl T.Rp boot_int (Bj _)) (kP (Dc (jF (ae 0) rfl T.GG rfl T.P0 boot_bool (zk _))) (n6 (mR mD mD aq (ae 0) (ae 1)))))))
theorem yi:n_ ["thing","top"] ["thing","top"] (h_ qu):=GC
def nM:Fw:=(bG (im (Ls "tuple" (aa 0)) (am sV (ac (dH (HM (aa 0)) (gN 0) gy (am aQ (ac (aa 0) (ac (aa 1) ai))) 1 [1]) ai))))
def b0:List D->M D:=mP 2 nM
theorem yG{G:Cs}(T:Txt K mg G)(GR:Hs P w K mg base (A_ P w) "is_whole" 1 ["thing","top"] aQ){f:Addr}{fd:FuncData}(F:Gf K "is_row" "is_row" qu f fd):Gm P w K mg base (A_ P w) 2 f fd ["thing","top"] b0:=by
 refine fG F yi fun Fm A outer s H E hr=>?_
 have hu:=hr.units;exact(ao (aW (kP (jF (ae 0) rfl T.GG rfl T.G2 boot_tuple (n7 _)) (n6 (bx (Ar rfl) rfl T.Ph boot_all (af (gU (own:=["part"]) (capN:=["top"]) (caps:=[1]) ⟨rfl,IE.all ⟨rfl,trivial⟩,rfl,by decide +kernel,rfl,by decide +kernel,⟨⟨rfl,Or.inl rfl,Or.inl rfl,rfl⟩,trivial⟩,by decide +kernel⟩ rfl (d6 (ae 0)) (fY (by decide)) (fun C s2 H2 fp=>⟨(cj (i:=0) (show(["part","top"]:List Str).Nodup from by decide +kernel)),ja,(aP GR (hr.mono (by decide)) rfl aM (af (ae 0) (af (ae 1) ah)) (ak (ak aE)))⟩)) ah))))))
theorem uY:n_ ["thing"] ["thing"] (h_ lL):=GC
def gs:Fw:=(aL (Ga (G8 (cW (bR (Ls "tuple" (aa 0)))) (al (f_ Hg (am bw (ac (aa 0) ai)) (dC (.int 2))))) (bG (dC (.bl false))) bz)
 (bG (im (am aQ (ac (f_ t_ (aa 0) (dC (.int 0))) (ac (dC (.int 1)) ai))) (im (am b0 (ac (f_ t_ (aa 0) (dC (.int 1))) (ac (dC FQ) ai))) (f_ JY (am bw (ac (f_ t_ (aa 0) (dC (.int 1))) ai)) (dC FW))))))
def iA:List D->M D:=mP 1 gs
theorem vh{G:Cs}(T:Txt K mg G)(GR:Hs P w K mg base (A_ P w) "is_whole" 1 ["thing","top"] aQ)(HS:Hs P w K mg base (A_ P w) "is_row" 2 ["thing","top"] b0){f:Addr}{fd:FuncData}(F:Gf K "is_piece" "is_piece" lL f fd):Gm P w K mg base (A_ P w) 3 f fd ["thing"] iA:=by
 refine fG F uY fun Fm A outer s H E hr=>?_
 have hu:=hr.units;exact(au (bu (IV.pt (iO (gg (cR (jF (ae 0) rfl T.GG rfl T.G2 boot_tuple (n7 _)))) (iS (aD (om hu) (bx dm rfl T.GH PySem.boot_len (af (ae 0) ah)) aq (aK _))))) (ao (aW jH)) aU)
   (ao (aW (kP (aP GR (hr.mono (by decide)) rfl aM (af (aJ FY (ae 0) aq (fun _ _=>rfl)) (af aq ah)) (ak (ak aE))) (kP (aP HS (hr.mono (by decide)) rfl aM (af (aJ FY (ae 0) aq (fun _ _=>rfl)) (af (dc rfl T.JH) ah)) (ak (ak aE))) (n6 (pV mD (bx dm rfl T.GH PySem.boot_len (af (aJ FY (ae 0) aq (fun _ _=>rfl)) ah)) (dc rfl T.HR) (aK _))))))))
theorem vk:n_ ["thing"] ["thing"] (h_ lJ):=GC
def gu:Fw:=(bG (im (am b0 (ac (aa 0) (ac (dC (.int 1)) ai))) (f_ JY (am bw (ac (aa 0) ai)) (dC Hi))))
def il:List D->M D:=mP 1 gu
theorem uE{G:Cs}(T:Txt K mg G)(HS:Hs P w K mg base (A_ P w) "is_row" 2 ["thing","top"] b0){f:Addr}{fd:FuncData}(F:Gf K "are_bits" "are_bits" lJ f fd):Gm P w K mg base (A_ P w) 3 f fd ["thing"] il:=by
 refine fG F vk fun Fm A outer s H E hr=>?_
 have hu:=hr.units;exact(ao (aW (kP (aP HS (hr.mono (by decide)) rfl aM (af (ae 0) (af aq ah)) (ak (ak aE))) (n6 (pV mD (bx dm rfl T.GH PySem.boot_len (af (ae 0) ah)) (dc rfl T.LL) (aK _))))))
theorem v8:n_ ["thing"] ["thing"] (h_ ni):=GC
def eK:Fw:=(aL (Ga (G8 (cW (bR (Ls "tuple" (aa 0)))) (G8 (al (f_ HQ (am bw (ac (aa 0) ai)) (dC (.int 2)))) (cW (bR (am aQ (ac (f_ t_ (aa 0) (dC (.int 1))) (ac (dC FN) ai))))))) (bG (dC (.bl false))) bz)
 (aL (Ga (al (f_ inD (f_ t_ (aa 0) (dC (.int 0))) (dC eB))) (bG (f_ Fo (am bw (ac (aa 0) ai)) (dC (.int 2)))) bz)
 (aL (Ga (G8 (al (f_ Hg (am bw (ac (aa 0) ai)) (dC (.int 4)))) (cW (bR (am aQ (ac (f_ t_ (aa 0) (dC (.int 2))) (ac (dC Fp) ai)))))) (bG (dC (.bl false))) bz)
 (aL (Ga (al (f_ Fo (f_ t_ (aa 0) (dC (.int 0))) (dC (.str "data")))) (bG (am iA (ac (f_ t_ (aa 0) (dC (.int 3))) ai))) bz)
 (bG (im (f_ Fo (f_ t_ (aa 0) (dC (.int 0))) (dC (.str "note"))) (am il (ac (f_ t_ (aa 0) (dC (.int 3))) ai))))))))
def cQ:List D->M D:=mP 1 eK
theorem vX{G:Cs}(T:Txt K mg G)(GR:Hs P w K mg base (A_ P w) "is_whole" 1 ["thing","top"] aQ)(Mg:Hs P w K mg base (A_ P w) "is_piece" 3 ["thing"] iA)(Mh:Hs P w K mg base (A_ P w) "are_bits" 3 ["thing"] il){f:Addr}{fd:FuncData}(F:Gf K "is_card" "is_card" ni f fd):Gm P w K mg base (A_ P w) 4 f fd ["thing"] cQ:=by
 refine fG F v8 fun Fm A outer s H E hr=>?_
 have hu:=hr.units;exact(au (bu (IV.pt (iO (gg (cR (jF (ae 0) rfl T.GG rfl T.G2 boot_tuple (n7 _)))) (iO (aD km (bx dm rfl T.GH PySem.boot_len (af (ae 0) ah)) aq (aK _)) (iS (gg (cR (aP GR (hr.mono (by decide)) rfl aM (af (aJ FY (ae 0) aq (fun _ _=>rfl)) (af (dc rfl T.Kf) ah)) (ak (ak aE))))))))) (ao (aW jH)) aU)
   (au (bu (aD (Ce hu) (aJ FY (ae 0) aq (fun _ _=>rfl)) (dc rfl T.Ke.glob) (by with_unfolding_all rfl)) (ao (aW (pV (cm hu) (bx dm rfl T.GH PySem.boot_len (af (ae 0) ah)) aq (aK _)))) aU)
   (au (bu (IV.pt (iO (aD (om hu) (bx dm rfl T.GH PySem.boot_len (af (ae 0) ah)) aq (aK _)) (iS (gg (cR (aP GR (hr.mono (by decide)) rfl aM (af (aJ FY (ae 0) aq (fun _ _=>rfl)) (af (dc rfl T.K6) ah)) (ak (ak aE)))))))) (ao (aW jH)) aU)
   (au (bu (aD (cm hu) (aJ FY (ae 0) aq (fun _ _=>rfl)) aI (aK _)) (ao (aW (aP Mg (hr.mono (by decide)) rfl aM (af (aJ FY (ae 0) aq (fun _ _=>rfl)) ah) (ak aE)))) aU)
   (ao (aW (kP (pV (cm hu) (aJ FY (ae 0) aq (fun _ _=>rfl)) aI (aK _)) (n6 (aP Mh (hr.mono (by decide)) rfl aM (af (aJ FY (ae 0) aq (fun _ _=>rfl)) ah) (ak aE))))))))))
theorem K7:n_ ["strip","cells","card"] ["strip"] (h_ wn):=GC
def mI(G:Cs):Fw:=(aL (Ga (G8 (cW (bR (am b0 (ac (aa 0) (ac (dC FQ) ai))))) (G8 (al (f_ HQ (am bw (ac (aa 0) ai)) (f_ bL (dC Fq) (dC Fi)))) (al (f_ IZ (f_ t_ (aa 0) (dC (.int 0))) (am bw (ac (dC d2) ai)))))) (nD G.Gq (dC (.str "these are not the cells of a strip"))) bz)
 (aL (cr (HP Hh (aa 0) bT (bP (Qz B9 (dC Fi)))) (gN 1))
 (aL (Ga (al (f_ Hg (aa 0) (am cE (ac (aa 1) ai)))) (nD G.Gq (dC (.str "the checks do not fit the cells"))) bz)
 (aL (cr (am gz (ac (aa 1) ai)) (gN 2))
 (aL (Ga (cW (bR (am cQ (ac (aa 2) ai)))) (nD G.Gq (dC (.str "the cells tell no card"))) bz)
 (bG (aa 2)))))))
def iH(G:Cs):List D->M D:=mP 3 (mI G)
theorem BV{G:Cs}(T:Txt K mg G)(HS:Hs P w K mg base (A_ P w) "is_row" 2 ["thing","top"] b0)(Hk:Hs P w K mg base (A_ P w) "with_checks" 1 ["cells"] cE)(LM:Hs P w K mg base (A_ P w) "card_from" 1 ["cells"] gz)(Jg:Hs P w K mg base (A_ P w) "is_card" 4 ["thing"] cQ){f:Addr}{fd:FuncData}(F:Gf K "read" "read" wn f fd):Gm P w K mg base (A_ P w) 5 f fd ["strip"] (iH G):=by
 refine fG F K7 fun Fm A outer s H E hr=>?_
 have hu:=hr.units;exact(au (bu (IV.pt (iO (gg (cR (aP HS (hr.mono (by decide)) rfl aM (af (ae 0) (af (dc rfl T.JH) ah)) (ak (ak aE))))) (iO (aD km (bx dm rfl T.GH PySem.boot_len (af (ae 0) ah)) (bI cD (dc rfl T.I0) (dc rfl T.Io)) (aK _)) (iS (aD rS (aJ FY (ae 0) aq (fun _ _=>rfl)) (bx dm rfl T.GH PySem.boot_len (af (dc rfl T.K4.glob) ah)) (aK _)))))) (ao (mV T.Ie rfl rfl aI)) aU)
   (au (bO (i:=1) K7.nd (fB Ot (ae 0) iu (dQ (DX CV (dc rfl T.Io)))))
   (au (bu (aD (om hu) (ae 0) (aP Hk (hr.mono (by decide)) rfl aM (af (ae 1) ah) (ak aE)) (aK _)) (ao (mV T.Ie rfl rfl aI)) aU)
   (au (bO (i:=2) K7.nd (aP LM (hr.mono (by decide)) rfl aM (af (ae 1) ah) (ak aE)))
   (au (bu (gg (cR (aP Jg (hr.mono (by decide)) rfl aM (af (ae 2) ah) (ak aE)))) (ao (mV T.Ie rfl rfl aI)) aU)
   (ao (aW (ae 2))))))))
theorem nK:n_ ["self","road"] ["self","road"] (h_ gL):=GC
def fF(G:Cs):Fw:=(bG (am gI (ac (dH (HM (f_ gq (aB G.World m_ 2 (aa 0)) (aa 1))) (gN 0) gy (f_ t_ (aa 0) (dC (.int 0))) 1 []) ai)))
def dz(G:Cs):List D->M D:=mF 2 (fF G)
theorem nG{G:Cs}(T:Txt K mg G){f:Addr}{fd:FuncData}(F:Gf K "on_road" "World.on_road" gL f fd):Gm P w K mg base (A_ P w) 1 f fd ["self","road"] (dz G):=by
 refine fE F nK fun Fm A outer s H E hr=>?_
 have hu:=hr.units;exact(ao (aW (fH jD rfl T.G2 boot_tuple (af (gU (own:=["entry"]) (capN:=[]) (caps:=[]) ⟨rfl,IE.all trivial,rfl,by decide +kernel,rfl,by decide +kernel,trivial,by decide +kernel⟩ rfl (d6 (aJ (rm hu) (aF T.u_ T.Fd b8 (ae 0)) (ae 1) (fun _ _=>rfl))) (fY (by decide)) (fun C s2 H2 fp=>⟨(cj (i:=0) (show(["entry"]:List Str).Nodup from by decide +kernel)),ja,(aJ FY (ae 0) aq (fun _ _=>rfl))⟩)) ah))))
theorem lx:n_ ["self","who"] ["self","who"] (h_ eG):=GC
def cC(G:Cs):Fw:=(bG (Qn (al (f_ Fo (aa 1) (dC (.str "sender")))) (aB G.c_ a_ 4 (aB G.World m_ 0 (aa 0))) (aB G.g_ d_ 2 (aB G.World m_ 1 (aa 0)))))
def aO(G:Cs):List D->M D:=mF 2 (cC G)
theorem lv{G:Cs}(T:Txt K mg G){f:Addr}{fd:FuncData}(F:Gf K "opening_of" "World.opening_of" eG f fd):Gm P w K mg base (A_ P w) 1 f fd ["self","who"] (aO G):=by
 refine fE F lx fun Fm A outer s H E hr=>?_
 have hu:=hr.units;exact(ao (aW (uW (aD (cm hu) (ae 1) aI (aK _)) (aF T.i_ T.FD aG (aF T.u_ T.FG b8 (ae 0))) (aF T.o_ T.E9 aX (aF T.u_ T.Gx b8 (ae 0))))))
theorem Ip:n_ ["_law_world","_law_road","_law_kinds_here","_law_found"] ["_law_world","_law_road","_law_kinds_here"] (h_ jQ):=GC
def jr(G:Cs):Fw:=(aL (cr (dH (HM (bc G.World m_ (dz G) (aa 0) (ac (aa 1) ai))) (gN 0) gy (am (iH G) (ac (aa 0) ai)) 1 []) (gN 3))
 (aL (Ga (cW (bR (am sV (ac (dH (HM (aa 3)) (gN 0) gy (im (f_ inD (f_ t_ (aa 0) (dC (.int 0))) (aa 1)) (jb JY JY (dC (.int 1)) (f_ t_ (aa 0) (dC (.int 1))) (bc G.World m_ (aO G) (aa 2) (ac (dC (.str "sender")) ai)))) 1 [2,0]) ai)))) (bG (dC .D_)) bz)
 (bG (aa 3))))
def dh(G:Cs):List D->M D:=mF 4 (jr G)
theorem q0{G:Cs}(T:Txt K mg G)(Jt:FV P w K mg base (A_ P w) G.World "on_road" 1 ["self","road"] (dz G))(Mi:Hs P w K mg base (A_ P w) "read" 5 ["strip"] (iH G))(Gh:FV P w K mg base (A_ P w) G.World "opening_of" 1 ["self","who"] (aO G)){f:Addr}{fd:FuncData}(F:Gf K "_law_kinds" "_law_kinds" jQ f fd):Gm P w K mg base (A_ P w) 6 f fd ["_law_world","_law_road","_law_kinds_here"] (dh G):=by
 refine fE F Ip fun Fm A outer s H E hr=>?_
 have hu:=hr.units;exact(au (pO (i:=3) Ip.nd (own:=["_law_strip"]) (capN:=[]) (caps:=[]) ⟨rfl,IE.all trivial,rfl,by decide +kernel,rfl,by decide +kernel,trivial,by decide +kernel⟩ rfl (d6 (bC Jt (hr.mono (by decide)) T.u_ (by decide +kernel) aM (ae 0) (af (ae 1) ah) (dR (ak aE)))) (fY (by decide)) (fun C s2 H2 fp=>⟨(cj (i:=0) (show(["_law_strip"]:List Str).Nodup from by decide +kernel)),ja,(aP Mi (hr.mono (by decide)) rfl aM (af (ae 0) ah) (ak aE))⟩))
   (au (bu (gg (cR (bx (Ar rfl) rfl T.Ph boot_all (af (gU (own:=["_law_card"]) (capN:=["_law_kinds_here","_law_world"]) (caps:=[2,0]) ⟨rfl,IE.all ⟨rfl,⟨rfl,trivial⟩⟩,rfl,by decide +kernel,rfl,by decide +kernel,⟨⟨rfl,Or.inl rfl,Or.inl rfl,rfl⟩,⟨⟨rfl,Or.inl rfl,Or.inl rfl,rfl⟩,trivial⟩⟩,by decide +kernel⟩ rfl (d6 (ae 3)) (fY (by decide)) (fun C s2 H2 fp=>⟨(cj (i:=0) (show(["_law_card","_law_kinds_here","_law_world"]:List Str).Nodup from by decide +kernel)),ja,(kP (pV (Ce hu) (aJ FY (ae 0) aq (fun _ _=>rfl)) (ae 1) (by with_unfolding_all rfl)) (n6 (mR mD mD aq (aJ FY (ae 0) aq (fun _ _=>rfl)) (bC Gh (hr.mono (by decide)) T.u_ (by decide +kernel) aM (ae 2) (af aI ah) (dR (ak aE))))))⟩)) ah)))) (ao (aW n5)) aU)
   (ao (aW (ae 3)))))
theorem GI:n_ ["message","most","size","pieces","rest"] ["message","most"] (h_ kM):=GC
def jU(fuel:Nat):Fw:=(aL (cr (am CJ (ac (aa 1) (ac (dC (.int 1)) ai))) (gN 2))
 (aL (cr (bV ai) (gN 3))
 (aL (cr (aa 0) (gN 4))
 (aL (fO (al (f_ MG (am bw (ac (aa 4) ai)) (aa 2))) (aL (bB (IY j4 (aa 3) (ac (cn (ac (dC (.int 0)) (ac (HP Hh (aa 4) bT (bP (aa 2))) ai))) ai)))
 (cr (HP Hh (aa 4) (bP (aa 2)) bT) (gN 4))) fuel)
 (aL (bB (IY j4 (aa 3) (ac (cn (ac (dC (.int 1)) (ac (aa 4) ai))) ai)))
 (bG (am gI (ac (aa 3) ai))))))))
def df:List D->M D:=fun xs S=>cI S (jU 100 (xs.map some++List.replicate (5-xs.length) none) S)
theorem tI{G:Cs}(T:Txt K mg G){f:Addr}{fd:FuncData}(F:Gf K "pieces_of" "pieces_of" kM f fd):Gm P w K mg base (A_ P w) 1 f fd ["message","most"] df:=by
 refine fG F GI fun Fm A outer s H E hr=>?_
 have hu:=hr.units;have Uq:(100:Nat)=100:=rfl
 generalize Y9:(100:Nat)=fuel at Uq
 exact(au (bO (i:=2) GI.nd (bx (Dp rfl) rfl T.Rq boot_max (af (ae 1) (af aq ah))))
   (au (bO (i:=3) GI.nd (ci ah))
   (au (bO (i:=4) GI.nd (ae 0))
   (au (uP fuel (aD vA (bx dm rfl T.GH PySem.boot_len (af (ae 4) ah)) (ae 2) (aK _)) (au (aY (eh PySem.F.slot_list_append PySem.F.type_list_append dA (ae 3) (af (cg (af aq (af (fB Ot (ae 4) iu (dQ (ae 2))) ah))) ah)))
   (ao (bO (i:=4) GI.nd (fB Ot (ae 4) (dQ (ae 2)) iu)))))
   (au (aY (eh PySem.F.slot_list_append PySem.F.type_list_append dA (ae 3) (af (cg (af aq (af (ae 4) ah))) ah)))
   (ao (aW (fH jD rfl T.G2 boot_tuple (af (ae 3) ah)))))))))
theorem pw:n_ ["self","message"] ["self","message"] (h_ jl):=GC
def iw(G:Cs):Fw:=(aL (bB (IY j4 (aB G.c_ a_ 2 (aa 0)) (ac (aa 1) ai)))
 (Ga (al (f_ Hg (aB G.c_ a_ 5 (aa 0)) (dC (.str "shut")))) (bB (IY rA (aB G.c_ a_ 6 (aa 0)) (ac (am df (ac (aa 1) (ac (aB G.c_ a_ 1 (aa 0)) ai))) ai))) bz))
def gh(G:Cs):List D->M D:=mF 2 (iw G)
theorem p6{G:Cs}(T:Txt K mg G)(HU:Hs P w K mg base (A_ P w) "pieces_of" 1 ["message","most"] df){f:Addr}{fd:FuncData}(F:Gf K "hand" "Sender.hand" jl f fd):Gm P w K mg base (A_ P w) 2 f fd ["self","message"] (gh G):=by
 refine fE F pw fun Fm A outer s H E hr=>?_
 have hu:=hr.units;exact(au (aY (eh PySem.F.slot_list_append PySem.F.type_list_append dA (aF T.i_ T.Gz aG (ae 0)) (af (ae 1) ah)))
   (ao (bu (aD (om hu) (aF T.i_ T.B_ aG (ae 0)) aI (aK _)) (ao (aY (eh PySem.F.slot_list_extend PySem.F.type_list_extend nJ (aF T.i_ T.Ff aG (ae 0)) (af (aP HU (hr.mono (by decide)) rfl aM (af (ae 1) (af (aF T.i_ T.G9 aG (ae 0)) ah)) (ak (ak aE))) ah)))) aU)))
theorem qM:n_ ["self","message"] ["self","message"] (h_ ka):=GC
def je(G:Cs):Fw:=(bB (bc G.c_ a_ (gh G) (aB G.World m_ 0 (aa 0)) (ac (aa 1) ai)))
def hV(G:Cs):List D->M D:=mF 2 (je G)
theorem q8{G:Cs}(T:Txt K mg G)(Kg:FV P w K mg base (A_ P w) G.c_ "hand" 2 ["self","message"] (gh G)){f:Addr}{fd:FuncData}(F:Gf K "hand" "World.hand" ka f fd):Gm P w K mg base (A_ P w) 3 f fd ["self","message"] (hV G):=by
 refine fE F qM fun Fm A outer s H E hr=>?_
 have hu:=hr.units;exact(ao (aY (bC Kg (hr.mono (by decide)) T.i_ (by decide +kernel) aM (aF T.u_ T.FG b8 (ae 0)) (af (ae 1) ah) (dR (ak aE)))))
theorem HG:n_ ["_law_cell_here","_law_longest","_law_many"] ["_law_cell_here","_law_longest"] (h_ iK):=GC
def gA:Fw:=(aL (cr (am aH (ac (aa 0) (ac (dC (.int 9973)) (ac (f_ bL (aa 1) (dC (.int 1))) ai)))) (gN 2))
 (bG (am gI (ac (dH (rM (aa 2)) (gN 0) gy (am aH (ac (f_ bL (aa 1) (f_ eI (dC (.int 31)) (aa 0))) (ac (dC (.int 9967)) (ac (dC (.int 256)) ai)))) 1 [0]) ai))))
def fm:List D->M D:=mP 3 gA
theorem oN{G:Cs}(T:Txt K mg G)(Fs:Hs P w K mg base (A_ P w) "_law_mix" 1 ["_law_cell_here","_law_prime","_law_many"] aH){f:Addr}{fd:FuncData}(F:Gf K "_law_message" "_law_message" iK f fd):Gm P w K mg base (A_ P w) 2 f fd ["_law_cell_here","_law_longest"] fm:=by
 refine fG F HG fun Fm A outer s H E hr=>?_
 have hu:=hr.units;exact(au (bO (i:=2) HG.nd (aP Fs (hr.mono (by decide)) rfl aM (af (ae 0) (af aq (af (bI cD (ae 1) aq) ah))) (ak (ak (ak aE)))))
   (ao (aW (fH jD rfl T.G2 boot_tuple (af (gU (own:=["_law_k"]) (capN:=["_law_cell_here"]) (caps:=[0]) ⟨rfl,IE.all ⟨rfl,trivial⟩,rfl,by decide +kernel,rfl,by decide +kernel,⟨⟨rfl,Or.inl rfl,Or.inl rfl,rfl⟩,trivial⟩,by decide +kernel⟩ rfl (pN rfl T.K3 (ae 2)) (fY (by decide)) (fun C s2 H2 fp=>⟨(cj (i:=0) (show(["_law_k","_law_cell_here"]:List Str).Nodup from by decide +kernel)),ja,(aP Fs (hr.mono (by decide)) rfl aM (af (bI cD (ae 1) (bI jw aq (ae 0))) (af aq (af aq ah))) (ak (ak (ak aE))))⟩)) ah)))))
theorem Jn:n_ ["card","head"] ["card"] (h_ mh):=GC
def kS:Fw:=(aL (cr (cn (ac (mM d2 (ac (f_ t_ (aa 0) (dC (.int 0))) ai)) (ac (f_ zP (f_ t_ (aa 0) (dC (.int 1))) (dC (.int 256))) (ac (f_ kq (f_ t_ (aa 0) (dC (.int 1))) (dC (.int 256))) ai)))) (gN 1))
 (aL (Ga (al (f_ Fo (f_ t_ (aa 0) (dC (.int 0))) (dC (.str "data")))) (bG (f_ bL (f_ bL (aa 1) (cn (ac (f_ t_ (aa 0) (dC (.int 2))) (ac (f_ t_ (f_ t_ (aa 0) (dC (.int 3))) (dC (.int 0))) ai)))) (f_ t_ (f_ t_ (aa 0) (dC (.int 3))) (dC (.int 1))))) bz)
 (aL (Ga (al (f_ Fo (f_ t_ (aa 0) (dC (.int 0))) (dC (.str "note")))) (bG (f_ bL (f_ bL (aa 1) (cn (ac (f_ t_ (aa 0) (dC (.int 2))) ai))) (f_ t_ (aa 0) (dC (.int 3))))) bz)
 (bG (aa 1)))))
def j5:List D->M D:=mP 2 kS
theorem vJ{G:Cs}(T:Txt K mg G){f:Addr}{fd:FuncData}(F:Gf K "cells_of" "cells_of" mh f fd):Gm P w K mg base (A_ P w) 1 f fd ["card"] j5:=by
 refine fG F Jn fun Fm A outer s H E hr=>?_
 have hu:=hr.units;exact(au (bO (i:=1) Jn.nd (cg (af (wg rfl T.K4 (af (aJ FY (ae 0) aq (fun _ _=>rfl)) ah)) (af (bI BL (aJ FY (ae 0) aq (fun _ _=>rfl)) aq) (af (bI jp (aJ FY (ae 0) aq (fun _ _=>rfl)) aq) ah)))))
   (au (bu (aD (cm hu) (aJ FY (ae 0) aq (fun _ _=>rfl)) aI (aK _)) (ao (aW (bI cD (bI cD (ae 1) (cg (af (aJ FY (ae 0) aq (fun _ _=>rfl)) (af (aJ FY (aJ FY (ae 0) aq (fun _ _=>rfl)) aq (fun _ _=>rfl)) ah)))) (aJ FY (aJ FY (ae 0) aq (fun _ _=>rfl)) aq (fun _ _=>rfl))))) aU)
   (au (bu (aD (cm hu) (aJ FY (ae 0) aq (fun _ _=>rfl)) aI (aK _)) (ao (aW (bI cD (bI cD (ae 1) (cg (af (aJ FY (ae 0) aq (fun _ _=>rfl)) ah))) (aJ FY (ae 0) aq (fun _ _=>rfl))))) aU)
   (ao (aW (ae 1))))))
theorem vQ:n_ ["card"] ["card"] (h_ nV):=GC
def lM(G:Cs):Fw:=(aL (Ga (cW (bR (am cQ (ac (aa 0) ai)))) (nD G.Ny (dC (.str "this is no card"))) bz)
 (bG (am cE (ac (am j5 (ac (aa 0) ai)) ai))))
def jG(G:Cs):List D->M D:=mP 1 (lM G)
theorem wc{G:Cs}(T:Txt K mg G)(Jg:Hs P w K mg base (A_ P w) "is_card" 4 ["thing"] cQ)(Mj:Hs P w K mg base (A_ P w) "cells_of" 1 ["card"] j5)(Hk:Hs P w K mg base (A_ P w) "with_checks" 1 ["cells"] cE){f:Addr}{fd:FuncData}(F:Gf K "written" "written" nV f fd):Gm P w K mg base (A_ P w) 5 f fd ["card"] (jG G):=by
 refine fG F vQ fun Fm A outer s H E hr=>?_
 have hu:=hr.units;exact(au (bu (gg (cR (aP Jg (hr.mono (by decide)) rfl aM (af (ae 0) ah) (ak aE)))) (ao (mV T.NB rfl rfl aI)) aU)
   (ao (aW (aP Hk (hr.mono (by decide)) rfl aM (af (aP Mj (hr.mono (by decide)) rfl aM (af (ae 0) ah) (ak aE)) ah) (ak aE)))))
theorem GZ:n_ ["self","road","cards","card"] ["self","road","cards"] (h_ eN):=GC
def dB(G:Cs):Fw:=(bB (IY j4 (f_ gq (aB G.World m_ 2 (aa 0)) (aa 1)) (ac (cn (ac (am (jG G) (ac (aa 3) ai)) (ac (dC (.bl false)) ai))) ai)))
def ez(G:Cs):Fw:=(pL (HM (aa 2)) (gN 3) (dB G))
def bU(G:Cs):List D->M D:=mF 4 (ez G)
theorem lz{G:Cs}(T:Txt K mg G)(MX:Hs P w K mg base (A_ P w) "written" 5 ["card"] (jG G)){f:Addr}{fd:FuncData}(F:Gf K "put_behind" "World.put_behind" eN f fd):Gm P w K mg base (A_ P w) 6 f fd ["self","road","cards"] (bU G):=by
 refine fE F GZ fun Fm A outer s H E hr=>?_
 have hu:=hr.units;exact(ao (ma rfl (d6 (ae 2)) (cj (i:=3) GZ.nd) (ao (aY (eh PySem.F.slot_list_append PySem.F.type_list_append dA (aJ (rm hu) (aF T.u_ T.Fd b8 (ae 0)) (ae 1) (fun _ _=>rfl)) (af (cg (af (aP MX (hr.mono (by decide)) rfl aM (af (ae 3) ah) (ak aE)) (af jH ah))) ah))))))
theorem tW:n_ ["index","window"] ["index","window"] (h_ kB):=GC
def mL:Fw:=(bG (f_ kq (aa 0) (f_ eI (dC (.int 2)) (aa 1))))
def dU:List D->M D:=mF 2 mL
theorem ub{G:Cs}(T:Txt K mg G){f:Addr}{fd:FuncData}(F:Gf K "number_of" "number_of" kB f fd):Gm P w K mg base (A_ P w) 1 f fd ["index","window"] dU:=by
 refine fE F tW fun Fm A outer s H E hr=>?_
 have hu:=hr.units;exact(ao (aW (bI jp (ae 0) (bI jw aq (ae 1)))))
theorem m5:n_ ["self","index"] ["self","index"] (h_ fL):=GC
def fw(G:Cs):Fw:=(bG (cn (ac (dC (.str "data")) (ac (aB G.c_ a_ 4 (aa 0)) (ac (am dU (ac (aa 1) (ac (aB G.c_ a_ 0 (aa 0)) ai))) (ac (f_ t_ (aB G.c_ a_ 6 (aa 0)) (aa 1)) ai))))))
def cY(G:Cs):List D->M D:=mF 2 (fw G)
theorem mn{G:Cs}(T:Txt K mg G)(HV:Hs P w K mg base (A_ P w) "number_of" 1 ["index","window"] dU){f:Addr}{fd:FuncData}(F:Gf K "data_of" "Sender.data_of" fL f fd):Gm P w K mg base (A_ P w) 2 f fd ["self","index"] (cY G):=by
 refine fE F m5 fun Fm A outer s H E hr=>?_
 have hu:=hr.units;exact(ao (aW (cg (af aI (af (aF T.i_ T.FD aG (ae 0)) (af (aP HV (hr.mono (by decide)) rfl aM (af (ae 1) (af (aF T.i_ T.FP aG (ae 0)) ah)) (ak (ak aE))) (af (aJ FY (aF T.i_ T.Ff aG (ae 0)) (ae 1) (fun _ _=>rfl)) ah)))))))
theorem Hv:n_ ["self","end"] ["self"] (h_ gP):=GC
def fQ(G:Cs):Fw:=(aL (cr (am xY (ac (f_ bL (aB G.c_ a_ 7 (aa 0)) (aB G.c_ a_ 0 (aa 0))) (ac (am bw (ac (aB G.c_ a_ 6 (aa 0)) ai)) ai))) (gN 1))
 (bG (dH (xF (aB G.c_ a_ 7 (aa 0)) (aa 1)) (gN 0) (al (f_ eY (aa 0) (aB G.c_ a_ 8 (aa 1)))) (aa 0) 1 [0])))
def dw(G:Cs):List D->M D:=mF 2 (fQ G)
theorem nU{G:Cs}(T:Txt K mg G){f:Addr}{fd:FuncData}(F:Gf K "wanted" "Sender.wanted" gP f fd):Gm P w K mg base (A_ P w) 1 f fd ["self"] (dw G):=by
 refine fE F Hv fun Fm A outer s H E hr=>?_
 have hu:=hr.units;exact(au (bO (i:=1) Hv.nd (bx (zJ rfl) rfl T.Pj boot_min (af (bI cD (aF T.i_ T.Fj aG (ae 0)) (aF T.i_ T.FP aG (ae 0))) (af (bx dm rfl T.GH PySem.boot_len (af (aF T.i_ T.Ff aG (ae 0)) ah)) ah))))
   (ao (aW (gU (own:=["index"]) (capN:=["self"]) (caps:=[0]) ⟨rfl,IE.all ⟨rfl,trivial⟩,rfl,by decide +kernel,rfl,by decide +kernel,⟨⟨rfl,Or.inl rfl,Or.inl rfl,rfl⟩,trivial⟩,by decide +kernel⟩ rfl (wy rfl T.K3 (aF T.i_ T.Fj aG (ae 0)) (ae 1)) (fY (by decide)) (fun C s2 H2 fp=>⟨(cj (i:=0) (show(["index","self"]:List Str).Nodup from by decide +kernel)),(CN (aD (sE hu) (ae 0) (aF T.i_ T.Gw aG (ae 1)) (by with_unfolding_all rfl))),(ae 0)⟩)))))
theorem qg:n_ ["self"] ["self"] (h_ jo):=GC
def iJ(G:Cs):Fw:=(aL (Ga (al (f_ Fo (aB G.c_ a_ 5 (aa 0)) (dC (.str "opening")))) (bG (bV (ac (cn (ac (dC (.str "hello")) (ac (aB G.c_ a_ 4 (aa 0)) ai))) ai))) bz)
 (aL (Ga (al (f_ Fo (aB G.c_ a_ 5 (aa 0)) (dC (.str "open")))) (bG (dH (HM (bc G.c_ a_ (dw G) (aa 0) ai)) (gN 0) gy (bc G.c_ a_ (cY G) (aa 1) (ac (aa 0) ai)) 1 [0])) bz)
 (bG (bV ai))))
def fW(G:Cs):List D->M D:=mF 1 (iJ G)
theorem pf{G:Cs}(T:Txt K mg G)(Ju:FV P w K mg base (A_ P w) G.c_ "wanted" 1 ["self"] (dw G))(Jh:FV P w K mg base (A_ P w) G.c_ "data_of" 2 ["self","index"] (cY G)){f:Addr}{fd:FuncData}(F:Gf K "tick" "Sender.tick" jo f fd):Gm P w K mg base (A_ P w) 3 f fd ["self"] (fW G):=by
 refine fE F qg fun Fm A outer s H E hr=>?_
 have hu:=hr.units;exact(au (bu (aD (cm hu) (aF T.i_ T.B_ aG (ae 0)) aI (aK _)) (ao (aW (ci (af (cg (af aI (af (aF T.i_ T.FD aG (ae 0)) ah))) ah)))) aU)
   (au (bu (aD (cm hu) (aF T.i_ T.B_ aG (ae 0)) aI (aK _)) (ao (aW (gU (own:=["index"]) (capN:=["self"]) (caps:=[0]) ⟨rfl,IE.all ⟨rfl,trivial⟩,rfl,by decide +kernel,rfl,by decide +kernel,⟨⟨rfl,Or.inl rfl,Or.inl rfl,rfl⟩,trivial⟩,by decide +kernel⟩ rfl (d6 (dX Ju (hr.mono (by decide)) T.i_ (by decide +kernel) aM (ae 0))) (fY (by decide)) (fun C s2 H2 fp=>⟨(cj (i:=0) (show(["index","self"]:List Str).Nodup from by decide +kernel)),ja,(bC Jh (hr.mono (by decide)) T.i_ (by decide +kernel) aM (ae 1) (af (ae 0) ah) (dR (ak aE)))⟩)))) aU)
   (ao (aW (ci ah)))))
theorem qV:n_ ["self"] ["self"] (h_ jX):=GC
def ji(G:Cs):Fw:=(bB (bc G.World m_ (bU G) (aa 0) (ac (dC (.str "there")) (ac (bc G.c_ a_ (fW G) (aB G.World m_ 0 (aa 0)) ai) ai))))
def gY(G:Cs):List D->M D:=mF 1 (ji G)
theorem qX{G:Cs}(T:Txt K mg G)(Kh:FV P w K mg base (A_ P w) G.c_ "tick" 3 ["self"] (fW G))(Gi:FV P w K mg base (A_ P w) G.World "put_behind" 6 ["self","road","cards"] (bU G)){f:Addr}{fd:FuncData}(F:Gf K "tick" "World.tick" jX f fd):Gm P w K mg base (A_ P w) 7 f fd ["self"] (gY G):=by
 refine fE F qV fun Fm A outer s H E hr=>?_
 have hu:=hr.units;exact(ao (aY (bC Gi (hr.mono (by decide)) T.u_ (by decide +kernel) aM (ae 0) (af aI (af (dX Kh (hr.mono (by decide)) T.i_ (by decide +kernel) aM (aF T.u_ T.FG b8 (ae 0))) ah)) (dR (ak (ak aE))))))
theorem lK:n_ ["self","road","k"] ["self","road","k"] (h_ fA):=GC
def eM(G:Cs):Fw:=(bG (jb JY HQ (dC (.int 0)) (aa 2) (am bw (ac (f_ gq (aB G.World m_ 2 (aa 0)) (aa 1)) ai))))
def aT(G:Cs):List D->M D:=mF 3 (eM G)
theorem lO{G:Cs}(T:Txt K mg G){f:Addr}{fd:FuncData}(F:Gf K "has_strip" "World.has_strip" fA f fd):Gm P w K mg base (A_ P w) 1 f fd ["self","road","k"] (aT G):=by
 refine fE F lK fun Fm A outer s H E hr=>?_
 have hu:=hr.units;exact(ao (aW (mR mD km aq (ae 2) (bx dm rfl T.GH PySem.boot_len (af (aJ (rm hu) (aF T.u_ T.Fd b8 (ae 0)) (ae 1) (fun _ _=>rfl)) ah)))))
theorem oW:n_ ["self","opening"] ["self","opening"] (h_ iP):=GC
def gC(G:Cs):Fw:=(aL (jZ G.g_ d_ 2 (aa 0) (aa 1))
 (aL (jZ G.g_ d_ 3 (aa 0) (dC (.int 0)))
 (aL (jZ G.g_ d_ 4 (aa 0) kj)
 (jZ G.g_ d_ 5 (aa 0) (bV ai)))))
def cK(G:Cs):List D->M D:=mF 2 (gC G)
theorem oM{G:Cs}(T:Txt K mg G){f:Addr}{fd:FuncData}(F:Gf K "begin" "Hearer.begin" iP f fd):Gm P w K mg base (A_ P w) 1 f fd ["self","opening"] (cK G):=by
 refine fE F oW fun Fm A outer s H E hr=>?_
 have hu:=hr.units;exact(au (gE T.o_ T.E9 aX (by decide) (ae 0) (ae 1))
   (au (gE T.o_ T.y_ aX (by decide) (ae 0) aq)
   (au (gE T.o_ T.FF aX (by decide) (ae 0) pe)
   (ao (gE T.o_ T.Gj aX (by decide) (ae 0) (ci ah))))))
theorem ku:n_ ["self","opening"] ["self","opening"] (h_ dP):=GC
def dF(G:Cs):Fw:=(aL (Ga (al (f_ HQ (aa 1) (aB G.g_ d_ 2 (aa 0)))) (bG (bV ai)) bz)
 (aL (Ga (al (f_ MG (aa 1) (aB G.g_ d_ 2 (aa 0)))) (bB (bc G.g_ d_ (cK G) (aa 0) (ac (aa 1) ai))) bz)
 (bG (bV (ac (cn (ac (dC (.str "welcome")) (ac (aa 1) ai))) ai)))))
def cu(G:Cs):List D->M D:=mF 2 (dF G)
theorem ko{G:Cs}(T:Txt K mg G)(Hb:FV P w K mg base (A_ P w) G.g_ "begin" 1 ["self","opening"] (cK G)){f:Addr}{fd:FuncData}(F:Gf K "hears_hello" "Hearer.hears_hello" dP f fd):Gm P w K mg base (A_ P w) 2 f fd ["self","opening"] (cu G):=by
 refine fE F ku fun Fm A outer s H E hr=>?_
 have hu:=hr.units;exact(au (bu (aD km (ae 1) (aF T.o_ T.E9 aX (ae 0)) (aK _)) (ao (aW (ci ah))) aU)
   (au (bu (aD vA (ae 1) (aF T.o_ T.E9 aX (ae 0)) (aK _)) (ao (aY (bC Hb (hr.mono (by decide)) T.o_ (by decide +kernel) aM (ae 0) (af (ae 1) ah) (dR (ak aE))))) aU)
   (ao (aW (ci (af (cg (af aI (af (ae 1) ah))) ah))))))
theorem rq:n_ ["number","window"] ["number","window"] (h_ j3):=GC
def jf:Fw:=(bG (jb JY HQ (dC (.int 0)) (aa 0) (f_ eI (dC (.int 2)) (aa 1))))
def b9:List D->M D:=mF 2 jf
theorem rg{G:Cs}(T:Txt K mg G){f:Addr}{fd:FuncData}(F:Gf K "goes_round" "goes_round" j3 f fd):Gm P w K mg base (A_ P w) 1 f fd ["number","window"] b9:=by
 refine fE F rq fun Fm A outer s H E hr=>?_
 have hu:=hr.units;exact(ao (aW (mR mD km aq (ae 0) (bI jw aq (ae 1)))))
theorem qP:n_ ["number","low","window"] ["number","low","window"] (h_ kh):=GC
def iY:Fw:=(bG (f_ bL (aa 1) (f_ kq (f_ rF (aa 0) (aa 1)) (f_ eI (dC (.int 2)) (aa 2)))))
def cq:List D->M D:=mF 3 iY
theorem qT{G:Cs}(T:Txt K mg G){f:Addr}{fd:FuncData}(F:Gf K "index_near" "index_near" kh f fd):Gm P w K mg base (A_ P w) 1 f fd ["number","low","window"] cq:=by
 refine fE F qP fun Fm A outer s H E hr=>?_
 have hu:=hr.units;exact(ao (aW (bI cD (ae 1) (bI jp (bI wk (ae 0) (ae 1)) (bI jw aq (ae 2))))))
theorem HW:n_ ["self","number","piece","index"] ["self","number","piece"] (h_ jt):=GC
def iz(G:Cs):Fw:=(Ga (bR (am b9 (ac (aa 1) (ac (aB G.g_ d_ 0 (aa 0)) ai)))) (aL (cr (am cq (ac (aa 1) (ac (f_ rF (aB G.g_ d_ 3 (aa 0)) (aB G.g_ d_ 0 (aa 0))) (ac (aB G.g_ d_ 0 (aa 0)) ai)))) (gN 3))
 (Ga (cX (al (f_ IZ (aa 3) (aB G.g_ d_ 3 (aa 0)))) (al (f_ eY (aa 3) (aB G.g_ d_ 4 (aa 0))))) (wN pi (aB G.g_ d_ 4 (aa 0)) (aa 3) (aa 2)) bz)) bz)
def gl(G:Cs):List D->M D:=mF 4 (iz G)
theorem pH{G:Cs}(T:Txt K mg G)(HB:Hs P w K mg base (A_ P w) "goes_round" 1 ["number","window"] b9)(HC:Hs P w K mg base (A_ P w) "index_near" 1 ["number","low","window"] cq){f:Addr}{fd:FuncData}(F:Gf K "keep" "Hearer.keep" jt f fd):Gm P w K mg base (A_ P w) 2 f fd ["self","number","piece"] (gl G):=by
 refine fE F HW fun Fm A outer s H E hr=>?_
 have hu:=hr.units;exact(ao (bu (cR (aP HB (hr.mono (by decide)) rfl aM (af (ae 1) (af (aF T.o_ T.FO aX (ae 0)) ah)) (ak (ak aE)))) (au (bO (i:=3) HW.nd (aP HC (hr.mono (by decide)) rfl aM (af (ae 1) (af (bI wk (aF T.o_ T.y_ aX (ae 0)) (aF T.o_ T.FO aX (ae 0))) (af (aF T.o_ T.FO aX (ae 0)) ah))) (ak (ak (ak aE)))))
   (ao (bu (IV.pt (dJ (aD rS (ae 3) (aF T.o_ T.y_ aX (ae 0)) (aK _)) (db (aD (sE hu) (ae 3) (aF T.o_ T.FF aX (ae 0)) (by with_unfolding_all rfl))))) (ao (tZ (xA hu) (aF T.o_ T.FF aX (ae 0)) (ae 3) (ae 2))) aU))) aU))
theorem Hl:n_ ["pieces","letters","piece"] ["pieces"] (h_ j0):=GC
def oY:Fw:=(bB (IY rA (aa 1) (ac (f_ t_ (aa 2) (dC (.int 1))) ai)))
def jm:Fw:=(aL (cr (bV ai) (gN 1))
 (aL (pL (HM (aa 0)) (gN 2) oY)
 (bG (am gI (ac (aa 1) ai)))))
def dY:List D->M D:=mP 3 jm
theorem qZ{G:Cs}(T:Txt K mg G){f:Addr}{fd:FuncData}(F:Gf K "letters_of" "letters_of" j0 f fd):Gm P w K mg base (A_ P w) 1 f fd ["pieces"] dY:=by
 refine fG F Hl fun Fm A outer s H E hr=>?_
 have hu:=hr.units;exact(au (bO (i:=1) Hl.nd (ci ah))
   (au (ma rfl (d6 (ae 0)) (cj (i:=2) Hl.nd) (ao (aY (eh PySem.F.slot_list_extend PySem.F.type_list_extend nJ (ae 1) (af (aJ FY (ae 2) aq (fun _ _=>rfl)) ah)))))
   (ao (aW (fH jD rfl T.G2 boot_tuple (af (ae 1) ah))))))
theorem qB:n_ ["self","piece"] ["self","piece"] (h_ jj):=GC
def ir(G:Cs):Fw:=(aL (bB (IY j4 (aB G.g_ d_ 5 (aa 0)) (ac (aa 1) ai)))
 (Ga (al (f_ Fo (f_ t_ (aa 1) (dC (.int 0))) (dC (.int 1)))) (aL (bB (IY j4 (aB G.g_ d_ 1 (aa 0)) (ac (cn (ac (aB G.g_ d_ 2 (aa 0)) (ac (am dY (ac (aB G.g_ d_ 5 (aa 0)) ai)) ai))) ai)))
 (jZ G.g_ d_ 5 (aa 0) (bV ai))) bz))
def fZ(G:Cs):List D->M D:=mF 2 (ir G)
theorem pA{G:Cs}(T:Txt K mg G)(K8:Hs P w K mg base (A_ P w) "letters_of" 1 ["pieces"] dY){f:Addr}{fd:FuncData}(F:Gf K "take" "Hearer.take" jj f fd):Gm P w K mg base (A_ P w) 2 f fd ["self","piece"] (fZ G):=by
 refine fE F qB fun Fm A outer s H E hr=>?_
 have hu:=hr.units;exact(au (aY (eh PySem.F.slot_list_append PySem.F.type_list_append dA (aF T.o_ T.Gj aX (ae 0)) (af (ae 1) ah)))
   (ao (bu (aD (cm hu) (aJ FY (ae 1) aq (fun _ _=>rfl)) aq (aK _)) (au (aY (eh PySem.F.slot_list_append PySem.F.type_list_append dA (aF T.o_ T.HF aX (ae 0)) (af (cg (af (aF T.o_ T.E9 aX (ae 0)) (af (aP K8 (hr.mono (by decide)) rfl aM (af (aF T.o_ T.Gj aX (ae 0)) ah) (ak aE)) ah))) ah)))
   (ao (gE T.o_ T.Gj aX (by decide) (ae 0) (ci ah)))) aU)))
theorem Hc:n_ ["self","piece"] ["self"] (h_ fj):=GC
def ck(G:Cs)(fuel:Nat):Fw:=(fO (al (f_ pY (aB G.g_ d_ 3 (aa 0)) (aB G.g_ d_ 4 (aa 0)))) (aL (cr (yo uR (aB G.g_ d_ 4 (aa 0)) (ac (aB G.g_ d_ 3 (aa 0)) ai)) (gN 1))
 (aL (oq G.g_ d_ 3 (aa 0) (dC (.int 1)))
 (bB (bc G.g_ d_ (fZ G) (aa 0) (ac (aa 1) ai))))) fuel)
def dI(G:Cs):List D->M D:=fun xs S=>fin S (ck G 1000000 (xs.map some++List.replicate (2-xs.length) none) S)
theorem lS{G:Cs}(T:Txt K mg G)(Ki:FV P w K mg base (A_ P w) G.g_ "take" 2 ["self","piece"] (fZ G)){f:Addr}{fd:FuncData}(F:Gf K "take_all" "Hearer.take_all" fj f fd):Gm P w K mg base (A_ P w) 3 f fd ["self"] (dI G):=by
 refine fE F Hc fun Fm A outer s H E hr=>?_
 have hu:=hr.units;have Uq:(1000000:Nat)=1000000:=rfl
 generalize Y9:(1000000:Nat)=fuel at Uq
 exact(ao (uP fuel (aD (AE hu) (aF T.o_ T.y_ aX (ae 0)) (aF T.o_ T.FF aX (ae 0)) (by with_unfolding_all rfl)) (au (bO (i:=1) Hc.nd (Dy PySem.F.slot_dict_pop PySem.F.type_dict_pop BM (aF T.o_ T.FF aX (ae 0)) (af (aF T.o_ T.y_ aX (ae 0)) ah)))
   (au (tC T.o_ T.y_ aX (by decide) (ae 0) aq)
   (ao (aY (bC Ki (hr.mono (by decide)) T.o_ (by decide +kernel) aM (ae 0) (af (ae 1) ah) (dR (ak aE)))))))))
theorem HX:n_ ["self","bits"] ["self"] (h_ jv):=GC
def io(G:Cs):Fw:=(aL (cr (am gI (ac (dH (rM (aB G.g_ d_ 0 (aa 0))) (gN 0) gy (Qn (al (f_ pY (f_ bL (aB G.g_ d_ 3 (aa 1)) (aa 0)) (aB G.g_ d_ 4 (aa 1)))) (dC (.int 1)) (dC (.int 0))) 1 [0]) ai)) (gN 1))
 (bG (cn (ac (dC (.str "note")) (ac (aB G.g_ d_ 2 (aa 0)) (ac (am dU (ac (aB G.g_ d_ 3 (aa 0)) (ac (aB G.g_ d_ 0 (aa 0)) ai))) (ac (aa 1) ai)))))))
def gi(G:Cs):List D->M D:=mF 2 (io G)
theorem pr{G:Cs}(T:Txt K mg G)(HV:Hs P w K mg base (A_ P w) "number_of" 1 ["index","window"] dU){f:Addr}{fd:FuncData}(F:Gf K "note" "Hearer.note" jv f fd):Gm P w K mg base (A_ P w) 2 f fd ["self"] (gi G):=by
 refine fE F HX fun Fm A outer s H E hr=>?_
 have hu:=hr.units;exact(au (bO (i:=1) HX.nd (fH jD rfl T.G2 boot_tuple (af (gU (own:=["k"]) (capN:=["self"]) (caps:=[0]) ⟨rfl,IE.all ⟨rfl,trivial⟩,rfl,by decide +kernel,rfl,by decide +kernel,⟨⟨rfl,Or.inl rfl,Or.inl rfl,rfl⟩,trivial⟩,by decide +kernel⟩ rfl (pN rfl T.K3 (aF T.o_ T.FO aX (ae 0))) (fY (by decide)) (fun C s2 H2 fp=>⟨(cj (i:=0) (show(["k","self"]:List Str).Nodup from by decide +kernel)),ja,(uW (aD (AE hu) (bI cD (aF T.o_ T.y_ aX (ae 1)) (ae 0)) (aF T.o_ T.FF aX (ae 1)) (by with_unfolding_all rfl)) aq aq)⟩)) ah)))
   (ao (aW (cg (af aI (af (aF T.o_ T.E9 aX (ae 0)) (af (aP HV (hr.mono (by decide)) rfl aM (af (aF T.o_ T.y_ aX (ae 0)) (af (aF T.o_ T.FO aX (ae 0)) ah)) (ak (ak aE))) (af (ae 1) ah))))))))
theorem kJ:n_ ["self","opening","number","piece"] ["self","opening","number","piece"] (h_ eu):=GC
def dS(G:Cs):Fw:=(aL (Ga (al (f_ HQ (aa 1) (aB G.g_ d_ 2 (aa 0)))) (bG (bV ai)) bz)
 (aL (Ga (al (f_ MG (aa 1) (aB G.g_ d_ 2 (aa 0)))) (bG (bV (ac (cn (ac (dC (.str "who")) (ac (aa 1) ai))) ai))) bz)
 (aL (bB (bc G.g_ d_ (gl G) (aa 0) (ac (aa 2) (ac (aa 3) ai))))
 (aL (bB (bc G.g_ d_ (dI G) (aa 0) ai))
 (bG (bV (ac (bc G.g_ d_ (gi G) (aa 0) ai) ai)))))))
def cA(G:Cs):List D->M D:=mF 4 (dS G)
theorem kL{G:Cs}(T:Txt K mg G)(Kj:FV P w K mg base (A_ P w) G.g_ "keep" 2 ["self","number","piece"] (gl G))(I_:FV P w K mg base (A_ P w) G.g_ "take_all" 3 ["self"] (dI G))(Kk:FV P w K mg base (A_ P w) G.g_ "note" 2 ["self"] (gi G)){f:Addr}{fd:FuncData}(F:Gf K "hears_data" "Hearer.hears_data" eu f fd):Gm P w K mg base (A_ P w) 4 f fd ["self","opening","number","piece"] (cA G):=by
 refine fE F kJ fun Fm A outer s H E hr=>?_
 have hu:=hr.units;exact(au (bu (aD km (ae 1) (aF T.o_ T.E9 aX (ae 0)) (aK _)) (ao (aW (ci ah))) aU)
   (au (bu (aD vA (ae 1) (aF T.o_ T.E9 aX (ae 0)) (aK _)) (ao (aW (ci (af (cg (af aI (af (ae 1) ah))) ah)))) aU)
   (au (aY (bC Kj (hr.mono (by decide)) T.o_ (by decide +kernel) aM (ae 0) (af (ae 2) (af (ae 3) ah)) (dR (ak (ak aE)))))
   (au (aY (dX I_ (hr.mono (by decide)) T.o_ (by decide +kernel) aM (ae 0)))
   (ao (aW (ci (af (dX Kk (hr.mono (by decide)) T.o_ (by decide +kernel) aM (ae 0)) ah))))))))
theorem oR:n_ ["self","card"] ["self","card"] (h_ ix):=GC
def gB(G:Cs):Fw:=(aL (Ga (al (f_ Fo (f_ t_ (aa 1) (dC (.int 0))) (dC (.str "hello")))) (bG (bc G.g_ d_ (cu G) (aa 0) (ac (f_ t_ (aa 1) (dC (.int 1))) ai))) bz)
 (aL (Ga (al (f_ Fo (f_ t_ (aa 1) (dC (.int 0))) (dC (.str "data")))) (bG (bc G.g_ d_ (cA G) (aa 0) (ac (f_ t_ (aa 1) (dC (.int 1))) (ac (f_ t_ (aa 1) (dC (.int 2))) (ac (f_ t_ (aa 1) (dC (.int 3))) ai))))) bz)
 (bG (bV ai))))
def eU(G:Cs):List D->M D:=mF 2 (gB G)
theorem o0{G:Cs}(T:Txt K mg G)(HY:FV P w K mg base (A_ P w) G.g_ "hears_hello" 2 ["self","opening"] (cu G))(Ii:FV P w K mg base (A_ P w) G.g_ "hears_data" 4 ["self","opening","number","piece"] (cA G)){f:Addr}{fd:FuncData}(F:Gf K "hears" "Hearer.hears" ix f fd):Gm P w K mg base (A_ P w) 5 f fd ["self","card"] (eU G):=by
 refine fE F oR fun Fm A outer s H E hr=>?_
 have hu:=hr.units;exact(au (bu (aD (cm hu) (aJ FY (ae 1) aq (fun _ _=>rfl)) aI (aK _)) (ao (aW (bC HY (hr.mono (by decide)) T.o_ (by decide +kernel) aM (ae 0) (af (aJ FY (ae 1) aq (fun _ _=>rfl)) ah) (dR (ak aE))))) aU)
   (au (bu (aD (cm hu) (aJ FY (ae 1) aq (fun _ _=>rfl)) aI (aK _)) (ao (aW (bC Ii (hr.mono (by decide)) T.o_ (by decide +kernel) aM (ae 0) (af (aJ FY (ae 1) aq (fun _ _=>rfl)) (af (aJ FY (ae 1) aq (fun _ _=>rfl)) (af (aJ FY (ae 1) aq (fun _ _=>rfl)) ah))) (dR (ak (ak (ak aE))))))) aU)
   (ao (aW (ci ah)))))
theorem G0:n_ ["self","message"] ["self"] (h_ eL):=GC
def dE(G:Cs):Fw:=(bB (IY rA (aB G.c_ a_ 6 (aa 0)) (ac (am df (ac (aa 1) (ac (aB G.c_ a_ 1 (aa 0)) ai))) ai)))
def ei(G:Cs):Fw:=(aL (oq G.c_ a_ 4 (aa 0) (dC (.int 1)))
 (aL (jZ G.c_ a_ 5 (aa 0) (dC (.str "opening")))
 (aL (jZ G.c_ a_ 6 (aa 0) (bV ai))
 (aL (pL (HM (HP Hh (aB G.c_ a_ 2 (aa 0)) (bP (aB G.c_ a_ 3 (aa 0))) bT)) (gN 1) (dE G))
 (aL (jZ G.c_ a_ 7 (aa 0) (dC (.int 0)))
 (jZ G.c_ a_ 8 (aa 0) kj))))))
def bJ(G:Cs):List D->M D:=mF 2 (ei G)
theorem lu{G:Cs}(T:Txt K mg G)(HU:Hs P w K mg base (A_ P w) "pieces_of" 1 ["message","most"] df){f:Addr}{fd:FuncData}(F:Gf K "open_anew" "Sender.open_anew" eL f fd):Gm P w K mg base (A_ P w) 2 f fd ["self"] (bJ G):=by
 refine fE F G0 fun Fm A outer s H E hr=>?_
 have hu:=hr.units;exact(au (tC T.i_ T.FD aG (by decide) (ae 0) aq)
   (au (gE T.i_ T.B_ aG (by decide) (ae 0) aI)
   (au (gE T.i_ T.Ff aG (by decide) (ae 0) (ci ah))
   (au (ma rfl (d6 (fB Ot (aF T.i_ T.Gz aG (ae 0)) (dQ (aF T.i_ T.G_ aG (ae 0))) iu)) (cj (i:=1) G0.nd) (ao (aY (eh PySem.F.slot_list_extend PySem.F.type_list_extend nJ (aF T.i_ T.Ff aG (ae 0)) (af (aP HU (hr.mono (by decide)) rfl aM (af (ae 1) (af (aF T.i_ T.G9 aG (ae 0)) ah)) (ak (ak aE))) ah)))))
   (au (gE T.i_ T.Fj aG (by decide) (ae 0) aq)
   (ao (gE T.i_ T.Gw aG (by decide) (ae 0) pe)))))))
theorem lC:n_ ["self","index"] ["self","index"] (h_ eF):=GC
def d9(G:Cs):Fw:=(aL (oq G.c_ a_ 3 (aa 0) (am nz (ac (dH (HM (HP Hh (aB G.c_ a_ 6 (aa 0)) (bP (aB G.c_ a_ 7 (aa 0))) (bP (aa 1)))) (gN 0) gy (f_ t_ (aa 0) (dC (.int 0))) 1 []) ai)))
 (jZ G.c_ a_ 7 (aa 0) (aa 1)))
def dq(G:Cs):List D->M D:=mF 2 (d9 G)
theorem lB{G:Cs}(T:Txt K mg G){f:Addr}{fd:FuncData}(F:Gf K "move_base" "Sender.move_base" eF f fd):Gm P w K mg base (A_ P w) 1 f fd ["self","index"] (dq G):=by
 refine fE F lC fun Fm A outer s H E hr=>?_
 have hu:=hr.units;exact(au (tC T.i_ T.G_ aG (by decide) (ae 0) (bx (wd rfl) rfl T.NA boot_sum (af (gU (own:=["piece"]) (capN:=[]) (caps:=[]) ⟨rfl,IE.all trivial,rfl,by decide +kernel,rfl,by decide +kernel,trivial,by decide +kernel⟩ rfl (d6 (fB Ot (aF T.i_ T.Ff aG (ae 0)) (dQ (aF T.i_ T.Fj aG (ae 0))) (dQ (ae 1)))) (fY (by decide)) (fun C s2 H2 fp=>⟨(cj (i:=0) (show(["piece"]:List Str).Nodup from by decide +kernel)),ja,(aJ FY (ae 0) aq (fun _ _=>rfl))⟩)) ah)))
   (ao (gE T.i_ T.Fj aG (by decide) (ae 0) (ae 1))))
theorem Gk:n_ ["self","bits","k","bit"] ["self","bits"] (h_ dN):=GC
def cy(G:Cs):Fw:=(Ga (cX (al (f_ Fo (aa 3) (dC (.int 1)))) (al (f_ HQ (f_ bL (aB G.c_ a_ 7 (aa 0)) (aa 2)) (am bw (ac (aB G.c_ a_ 6 (aa 0)) ai))))) (wN pi (aB G.c_ a_ 8 (aa 0)) (f_ bL (aB G.c_ a_ 7 (aa 0)) (aa 2)) (dC (.bl true))) bz)
def dD(G:Cs):Fw:=(pL (wU 0 (aa 1)) (gT [2,3]) (cy G))
def cU(G:Cs):List D->M D:=mF 4 (dD G)
theorem kt{G:Cs}(T:Txt K mg G){f:Addr}{fd:FuncData}(F:Gf K "note_pieces" "Sender.note_pieces" dN f fd):Gm P w K mg base (A_ P w) 1 f fd ["self","bits"] (cU G):=by
 refine fE F Gk fun Fm A outer s H E hr=>?_
 have hu:=hr.units;exact(ao (ma rfl (y8 rfl T.Jm (ae 1)) (wx rfl (jA (cj (i:=2) Gk.nd) (jA (cj (i:=3) Gk.nd) sT))) (ao (bu (IV.pt (dJ (aD (cm hu) (ae 3) aq (aK _)) (db (aD km (bI cD (aF T.i_ T.Fj aG (ae 0)) (ae 2)) (bx dm rfl T.GH PySem.boot_len (af (aF T.i_ T.Ff aG (ae 0)) ah)) (aK _))))) (ao (tZ (xA hu) (aF T.i_ T.Gw aG (ae 0)) (bI cD (aF T.i_ T.Fj aG (ae 0)) (ae 2)) jH)) aU))))
theorem GS:n_ ["self","number","bits","index"] ["self","number","bits"] (h_ eo):=GC
def dM(G:Cs):Fw:=(Ga (bR (am b9 (ac (aa 1) (ac (aB G.c_ a_ 0 (aa 0)) ai)))) (aL (cr (am cq (ac (aa 1) (ac (aB G.c_ a_ 7 (aa 0)) (ac (aB G.c_ a_ 0 (aa 0)) ai)))) (gN 3))
 (Ga (al (f_ JY (aa 3) (am xY (ac (f_ bL (aB G.c_ a_ 7 (aa 0)) (aB G.c_ a_ 0 (aa 0))) (ac (am bw (ac (aB G.c_ a_ 6 (aa 0)) ai)) ai))))) (aL (bB (bc G.c_ a_ (dq G) (aa 0) (ac (aa 3) ai)))
 (bB (bc G.c_ a_ (cU G) (aa 0) (ac (aa 2) ai)))) bz)) bz)
def cf(G:Cs):List D->M D:=mF 4 (dM G)
theorem kA{G:Cs}(T:Txt K mg G)(HB:Hs P w K mg base (A_ P w) "goes_round" 1 ["number","window"] b9)(HC:Hs P w K mg base (A_ P w) "index_near" 1 ["number","low","window"] cq)(IF:FV P w K mg base (A_ P w) G.c_ "move_base" 1 ["self","index"] (dq G))(HZ:FV P w K mg base (A_ P w) G.c_ "note_pieces" 1 ["self","bits"] (cU G)){f:Addr}{fd:FuncData}(F:Gf K "hears_note" "Sender.hears_note" eo f fd):Gm P w K mg base (A_ P w) 2 f fd ["self","number","bits"] (cf G):=by
 refine fE F GS fun Fm A outer s H E hr=>?_
 have hu:=hr.units;exact(ao (bu (cR (aP HB (hr.mono (by decide)) rfl aM (af (ae 1) (af (aF T.i_ T.FP aG (ae 0)) ah)) (ak (ak aE)))) (au (bO (i:=3) GS.nd (aP HC (hr.mono (by decide)) rfl aM (af (ae 1) (af (aF T.i_ T.Fj aG (ae 0)) (af (aF T.i_ T.FP aG (ae 0)) ah))) (ak (ak (ak aE)))))
   (ao (bu (aD mD (ae 3) (bx (zJ rfl) rfl T.Pj boot_min (af (bI cD (aF T.i_ T.Fj aG (ae 0)) (aF T.i_ T.FP aG (ae 0))) (af (bx dm rfl T.GH PySem.boot_len (af (aF T.i_ T.Ff aG (ae 0)) ah)) ah))) (aK _)) (au (aY (bC IF (hr.mono (by decide)) T.i_ (by decide +kernel) aM (ae 0) (af (ae 3) ah) (dR (ak aE))))
   (ao (aY (bC HZ (hr.mono (by decide)) T.i_ (by decide +kernel) aM (ae 0) (af (ae 2) ah) (dR (ak aE)))))) aU))) aU))
theorem ly:n_ ["self","card"] ["self","card"] (h_ eO):=GC
def el(G:Cs):Fw:=(Ga (cX (al (f_ Fo (f_ t_ (aa 1) (dC (.int 0))) (dC (.str "welcome")))) (al (f_ Fo (aB G.c_ a_ 5 (aa 0)) (dC (.str "opening"))))) (jZ G.c_ a_ 5 (aa 0) (dC (.str "open"))) (Ga (cX (al (f_ Fo (f_ t_ (aa 1) (dC (.int 0))) (dC (.str "who")))) (al (f_ Fo (aB G.c_ a_ 5 (aa 0)) (dC (.str "open"))))) (bB (bc G.c_ a_ (bJ G) (aa 0) ai)) (Ga (cX (al (f_ Fo (f_ t_ (aa 1) (dC (.int 0))) (dC (.str "note")))) (al (f_ Fo (aB G.c_ a_ 5 (aa 0)) (dC (.str "open"))))) (bB (bc G.c_ a_ (cf G) (aa 0) (ac (f_ t_ (aa 1) (dC (.int 2))) (ac (f_ t_ (aa 1) (dC (.int 3))) ai)))) bz)))
def dl(G:Cs):List D->M D:=mF 2 (el G)
theorem lA{G:Cs}(T:Txt K mg G)(GB:FV P w K mg base (A_ P w) G.c_ "open_anew" 2 ["self"] (bJ G))(Ij:FV P w K mg base (A_ P w) G.c_ "hears_note" 2 ["self","number","bits"] (cf G)){f:Addr}{fd:FuncData}(F:Gf K "hears_own" "Sender.hears_own" eO f fd):Gm P w K mg base (A_ P w) 3 f fd ["self","card"] (dl G):=by
 refine fE F ly fun Fm A outer s H E hr=>?_
 have hu:=hr.units;exact(ao (bu (IV.pt (dJ (aD (cm hu) (aJ FY (ae 1) aq (fun _ _=>rfl)) aI (aK _)) (db (aD (cm hu) (aF T.i_ T.B_ aG (ae 0)) aI (aK _))))) (ao (gE T.i_ T.B_ aG (by decide) (ae 0) aI)) (ao (bu (IV.pt (dJ (aD (cm hu) (aJ FY (ae 1) aq (fun _ _=>rfl)) aI (aK _)) (db (aD (cm hu) (aF T.i_ T.B_ aG (ae 0)) aI (aK _))))) (ao (aY (dX GB (hr.mono (by decide)) T.i_ (by decide +kernel) aM (ae 0)))) (ao (bu (IV.pt (dJ (aD (cm hu) (aJ FY (ae 1) aq (fun _ _=>rfl)) aI (aK _)) (db (aD (cm hu) (aF T.i_ T.B_ aG (ae 0)) aI (aK _))))) (ao (aY (bC Ij (hr.mono (by decide)) T.i_ (by decide +kernel) aM (ae 0) (af (aJ FY (ae 1) aq (fun _ _=>rfl)) (af (aJ FY (ae 1) aq (fun _ _=>rfl)) ah)) (dR (ak (ak aE)))))) aU))))))
theorem oS:n_ ["self","card"] ["self","card"] (h_ iG):=GC
def gK(G:Cs):Fw:=(aL (Ga (al (f_ Fo (f_ t_ (aa 1) (dC (.int 1))) (aB G.c_ a_ 4 (aa 0)))) (bB (bc G.c_ a_ (dl G) (aa 0) (ac (aa 1) ai))) bz)
 (bG (bV ai)))
def eT(G:Cs):List D->M D:=mF 2 (gK G)
theorem o5{G:Cs}(T:Txt K mg G)(IG:FV P w K mg base (A_ P w) G.c_ "hears_own" 3 ["self","card"] (dl G)){f:Addr}{fd:FuncData}(F:Gf K "hears" "Sender.hears" iG f fd):Gm P w K mg base (A_ P w) 4 f fd ["self","card"] (eT G):=by
 refine fE F oS fun Fm A outer s H E hr=>?_
 have hu:=hr.units;exact(au (bu (aD (cm hu) (aJ FY (ae 1) aq (fun _ _=>rfl)) (aF T.i_ T.FD aG (ae 0)) (aK _)) (ao (aY (bC IG (hr.mono (by decide)) T.i_ (by decide +kernel) aM (ae 0) (af (ae 1) ah) (dR (ak aE))))) aU)
   (ao (aW (ci ah))))
theorem GY:n_ ["self","road","strip","card"] ["self","road","strip"] (h_ iq):=GC
def gM(G:Cs):Fw:=(aL (v6 [G.Gq] (cr (am (iH G) (ac (aa 2) ai)) (gN 3)) (cr (dC .D_) (gN 3)))
 (aL (Ga (cX (al (f_ mW (aa 3) (dC .D_))) (al (f_ Fo (aa 1) (dC (.str "there"))))) (bB (bc G.World m_ (bU G) (aa 0) (ac (dC (.str "back")) (ac (bc G.g_ d_ (eU G) (aB G.World m_ 1 (aa 0)) (ac (aa 3) ai)) ai)))) bz)
 (Ga (cX (al (f_ mW (aa 3) (dC .D_))) (al (f_ Fo (aa 1) (dC (.str "back"))))) (bB (bc G.World m_ (bU G) (aa 0) (ac (dC (.str "there")) (ac (bc G.c_ a_ (eT G) (aB G.World m_ 0 (aa 0)) (ac (aa 3) ai)) ai)))) bz)))
def fC(G:Cs):List D->M D:=mF 4 (gM G)
theorem oJ{G:Cs}(T:Txt K mg G)(Mi:Hs P w K mg base (A_ P w) "read" 5 ["strip"] (iH G))(JI:FV P w K mg base (A_ P w) G.g_ "hears" 5 ["self","card"] (eU G))(Gi:FV P w K mg base (A_ P w) G.World "put_behind" 6 ["self","road","cards"] (bU G))(JJ:FV P w K mg base (A_ P w) G.c_ "hears" 4 ["self","card"] (eT G)){f:Addr}{fd:FuncData}(F:Gf K "arrive" "World.arrive" iq f fd):Gm P w K mg base (A_ P w) 7 f fd ["self","road","strip"] (fC G):=by
 refine fE F GY fun Fm A outer s H E hr=>?_
 have hu:=hr.units;exact(au (CK T.Ie (AX T.GA CQ) rfl ⟨rfl,rfl⟩ (ao (bO (i:=3) GY.nd (aP Mi (hr.mono (by decide)) rfl aM (af (ae 2) ah) (ak aE)))) (fun _=>(ao (bO (i:=3) GY.nd n5))))
   (au (bu (IV.pt (dJ (aD xi (ae 3) n5 (aK _)) (db (aD (cm hu) (ae 1) aI (aK _))))) (ao (aY (bC Gi (hr.mono (by decide)) T.u_ (by decide +kernel) aM (ae 0) (af aI (af (bC JI (hr.mono (by decide)) T.o_ (by decide +kernel) aM (aF T.u_ T.Gx b8 (ae 0)) (af (ae 3) ah) (dR (ak aE))) ah)) (dR (ak (ak aE)))))) aU)
   (ao (bu (IV.pt (dJ (aD xi (ae 3) n5 (aK _)) (db (aD (cm hu) (ae 1) aI (aK _))))) (ao (aY (bC Gi (hr.mono (by decide)) T.u_ (by decide +kernel) aM (ae 0) (af aI (af (bC JJ (hr.mono (by decide)) T.i_ (by decide +kernel) aM (aF T.u_ T.FG b8 (ae 0)) (af (ae 3) ah) (dR (ak aE))) ah)) (dR (ak (ak aE)))))) aU))))
theorem qW:n_ ["self","road"] ["self","road"] (h_ jR):=GC
def jg(G:Cs):Fw:=(Ga (bR (bc G.World m_ (aT G) (aa 0) (ac (aa 1) (ac (dC (.int 0)) ai)))) (bB (bc G.World m_ (fC G) (aa 0) (ac (aa 1) (ac (f_ t_ (IY wS (f_ gq (aB G.World m_ 2 (aa 0)) (aa 1)) (ac (dC (.int 0)) ai)) (dC (.int 0))) ai)))) bz)
def gS(G:Cs):List D->M D:=mF 2 (jg G)
theorem rf{G:Cs}(T:Txt K mg G)(Ft:FV P w K mg base (A_ P w) G.World "has_strip" 1 ["self","road","k"] (aT G))(JK:FV P w K mg base (A_ P w) G.World "arrive" 7 ["self","road","strip"] (fC G)){f:Addr}{fd:FuncData}(F:Gf K "step" "World.step" jR f fd):Gm P w K mg base (A_ P w) 8 f fd ["self","road"] (gS G):=by
 refine fE F qW fun Fm A outer s H E hr=>?_
 have hu:=hr.units;exact(ao (bu (cR (bC Ft (hr.mono (by decide)) T.u_ (by decide +kernel) aM (ae 0) (af (ae 1) (af aq ah)) (dR (ak (ak aE))))) (ao (aY (bC JK (hr.mono (by decide)) T.u_ (by decide +kernel) aM (ae 0) (af (ae 1) (af (aJ FY (eh PySem.F.slot_list_pop PySem.F.type_list_pop zo (aJ (rm hu) (aF T.u_ T.Fd b8 (ae 0)) (ae 1) (fun _ _=>rfl)) (af aq ah)) aq (fun _ _=>rfl)) ah)) (dR (ak (ak aE)))))) aU))
theorem qU:n_ ["self","road","k"] ["self","road","k"] (h_ j2):=GC
def ju(G:Cs):Fw:=(Ga (bR (bc G.World m_ (aT G) (aa 0) (ac (aa 1) (ac (aa 2) ai)))) (bB (IY wS (f_ gq (aB G.World m_ 2 (aa 0)) (aa 1)) (ac (aa 2) ai))) bz)
def ia(G:Cs):List D->M D:=mF 3 (ju G)
theorem rD{G:Cs}(T:Txt K mg G)(Ft:FV P w K mg base (A_ P w) G.World "has_strip" 1 ["self","road","k"] (aT G)){f:Addr}{fd:FuncData}(F:Gf K "lose" "World.lose" j2 f fd):Gm P w K mg base (A_ P w) 2 f fd ["self","road","k"] (ia G):=by
 refine fE F qU fun Fm A outer s H E hr=>?_
 have hu:=hr.units;exact(ao (bu (cR (bC Ft (hr.mono (by decide)) T.u_ (by decide +kernel) aM (ae 0) (af (ae 1) (af (ae 2) ah)) (dR (ak (ak aE))))) (ao (aY (eh PySem.F.slot_list_pop PySem.F.type_list_pop zo (aJ (rm hu) (aF T.u_ T.Fd b8 (ae 0)) (ae 1) (fun _ _=>rfl)) (af (ae 2) ah)))) aU))
theorem oK:n_ ["self","road","k"] ["self","road","k"] (h_ iE):=GC
def gD(G:Cs):Fw:=(Ga (bR (bc G.World m_ (aT G) (aa 0) (ac (aa 1) (ac (aa 2) ai)))) (bB (IY vg (f_ gq (aB G.World m_ 2 (aa 0)) (aa 1)) (ac (aa 2) (ac (f_ t_ (f_ gq (aB G.World m_ 2 (aa 0)) (aa 1)) (aa 2)) ai)))) bz)
def eS(G:Cs):List D->M D:=mF 3 (gD G)
theorem o4{G:Cs}(T:Txt K mg G)(Ft:FV P w K mg base (A_ P w) G.World "has_strip" 1 ["self","road","k"] (aT G)){f:Addr}{fd:FuncData}(F:Gf K "double" "World.double" iE f fd):Gm P w K mg base (A_ P w) 2 f fd ["self","road","k"] (eS G):=by
 refine fE F oK fun Fm A outer s H E hr=>?_
 have hu:=hr.units;exact(ao (bu (cR (bC Ft (hr.mono (by decide)) T.u_ (by decide +kernel) aM (ae 0) (af (ae 1) (af (ae 2) ah)) (dR (ak (ak aE))))) (ao (aY (eh PySem.F.slot_list_insert PySem.F.type_list_insert xX (aJ (rm hu) (aF T.u_ T.Fd b8 (ae 0)) (ae 1) (fun _ _=>rfl)) (af (ae 2) (af (aJ FY (aJ (rm hu) (aF T.u_ T.Fd b8 (ae 0)) (ae 1) (fun _ _=>rfl)) (ae 2) (fun _ _=>rfl)) ah))))) aU))
theorem IH:n_ ["strip","place","by","cells","at"] ["strip","place","by"] (h_ nW):=GC
def lX:Fw:=(aL (cr (am xw (ac (aa 0) ai)) (gN 3))
 (aL (cr (f_ kq (aa 1) (am bw (ac (aa 3) ai))) (gN 4))
 (aL (wN n8 (aa 3) (aa 4) (f_ kq (f_ bL (f_ t_ (aa 3) (aa 4)) (aa 2)) (dC (.int 256))))
 (bG (am gI (ac (aa 3) ai))))))
def jJ:List D->M D:=mP 5 lX
theorem wz{G:Cs}(T:Txt K mg G){f:Addr}{fd:FuncData}(F:Gf K "changed" "changed" nW f fd):Gm P w K mg base (A_ P w) 1 f fd ["strip","place","by"] jJ:=by
 refine fG F IH fun Fm A outer s H E hr=>?_
 have hu:=hr.units;exact(au (bO (i:=3) IH.nd (fH AM rfl T.P4 boot_list (af (ae 0) ah)))
   (au (bO (i:=4) IH.nd (bI jp (ae 1) (bx dm rfl T.GH PySem.boot_len (af (ae 3) ah))))
   (au (tZ xQ (ae 3) (ae 4) (bI jp (bI cD (aJ FY (ae 3) (ae 4) (fun _ _=>rfl)) (ae 2)) aq))
   (ao (aW (fH jD rfl T.G2 boot_tuple (af (ae 3) ah)))))))
theorem qI:n_ ["self","road","k","place","by"] ["self","road","k","place","by"] (h_ jk):=GC
def ic(G:Cs):Fw:=(Ga (cX (bR (bc G.World m_ (aT G) (aa 0) (ac (aa 1) (ac (aa 2) ai)))) (cX (cW (bR (f_ t_ (f_ t_ (f_ gq (aB G.World m_ 2 (aa 0)) (aa 1)) (aa 2)) (dC (.int 1))))) (al (f_ Hg (f_ kq (aa 4) (dC (.int 256))) (dC (.int 0)))))) (wN n8 (f_ gq (aB G.World m_ 2 (aa 0)) (aa 1)) (aa 2) (cn (ac (am jJ (ac (f_ t_ (f_ t_ (f_ gq (aB G.World m_ 2 (aa 0)) (aa 1)) (aa 2)) (dC (.int 0))) (ac (aa 3) (ac (aa 4) ai)))) (ac (dC (.bl true)) ai)))) bz)
def gn(G:Cs):List D->M D:=mF 5 (ic G)
theorem qy{G:Cs}(T:Txt K mg G)(Ft:FV P w K mg base (A_ P w) G.World "has_strip" 1 ["self","road","k"] (aT G))(MY:Hs P w K mg base (A_ P w) "changed" 1 ["strip","place","by"] jJ){f:Addr}{fd:FuncData}(F:Gf K "spoil" "World.spoil" jk f fd):Gm P w K mg base (A_ P w) 2 f fd ["self","road","k","place","by"] (gn G):=by
 refine fE F qI fun Fm A outer s H E hr=>?_
 have hu:=hr.units;exact(ao (bu (IV.pt (dJ (cR (bC Ft (hr.mono (by decide)) T.u_ (by decide +kernel) aM (ae 0) (af (ae 1) (af (ae 2) ah)) (dR (ak (ak aE))))) (dJ (gg (cR (aJ FY (aJ FY (aJ (rm hu) (aF T.u_ T.Fd b8 (ae 0)) (ae 1) (fun _ _=>rfl)) (ae 2) (fun _ _=>rfl)) aq (fun _ _=>rfl)))) (db (aD (om hu) (bI jp (ae 4) aq) aq (aK _)))))) (ao (tZ xQ (aJ (rm hu) (aF T.u_ T.Fd b8 (ae 0)) (ae 1) (fun _ _=>rfl)) (ae 2) (cg (af (aP MY (hr.mono (by decide)) rfl aM (af (aJ FY (aJ FY (aJ (rm hu) (aF T.u_ T.Fd b8 (ae 0)) (ae 1) (fun _ _=>rfl)) (ae 2) (fun _ _=>rfl)) aq (fun _ _=>rfl)) (af (ae 3) (af (ae 4) ah))) (ak (ak (ak aE)))) (af jH ah))))) aU))
theorem pR:n_ ["self"] ["self"] (h_ jn):=GC
def ip(G:Cs):Fw:=(jZ G.c_ a_ 5 (aa 0) (dC (.str "shut")))
def gj(G:Cs):List D->M D:=mF 1 (ip G)
theorem pB{G:Cs}(T:Txt K mg G){f:Addr}{fd:FuncData}(F:Gf K "fall" "Sender.fall" jn f fd):Gm P w K mg base (A_ P w) 1 f fd ["self"] (gj G):=by
 refine fE F pR fun Fm A outer s H E hr=>?_
 have hu:=hr.units;exact(ao (gE T.i_ T.B_ aG (by decide) (ae 0) aI))
theorem qc:n_ ["self"] ["self"] (h_ jh):=GC
def iN(G:Cs):Fw:=(bB (bc G.g_ d_ (cK G) (aa 0) (ac (dC (.int 0)) ai)))
def gf(G:Cs):List D->M D:=mF 1 (iN G)
theorem pM{G:Cs}(T:Txt K mg G)(Hb:FV P w K mg base (A_ P w) G.g_ "begin" 1 ["self","opening"] (cK G)){f:Addr}{fd:FuncData}(F:Gf K "fall" "Hearer.fall" jh f fd):Gm P w K mg base (A_ P w) 2 f fd ["self"] (gf G):=by
 refine fE F qc fun Fm A outer s H E hr=>?_
 have hu:=hr.units;exact(ao (aY (bC Hb (hr.mono (by decide)) T.o_ (by decide +kernel) aM (ae 0) (af aq ah) (dR (ak aE)))))
theorem qR:n_ ["self","who"] ["self","who"] (h_ jS):=GC
def eA(G:Cs):Fw:=(aL (Ga (al (f_ Fo (aa 1) (dC (.str "sender")))) (bB (bc G.c_ a_ (gj G) (aB G.World m_ 0 (aa 0)) ai)) bz)
 (Ga (al (f_ Fo (aa 1) (dC (.str "hearer")))) (bB (bc G.g_ d_ (gf G) (aB G.World m_ 1 (aa 0)) ai)) bz))
def gZ(G:Cs):List D->M D:=mF 2 (eA G)
theorem qQ{G:Cs}(T:Txt K mg G)(Kl:FV P w K mg base (A_ P w) G.c_ "fall" 1 ["self"] (gj G))(Km:FV P w K mg base (A_ P w) G.g_ "fall" 2 ["self"] (gf G)){f:Addr}{fd:FuncData}(F:Gf K "fall" "World.fall" jS f fd):Gm P w K mg base (A_ P w) 3 f fd ["self","who"] (gZ G):=by
 refine fE F qR fun Fm A outer s H E hr=>?_
 have hu:=hr.units;exact(au (bu (aD (cm hu) (ae 1) aI (aK _)) (ao (aY (dX Kl (hr.mono (by decide)) T.i_ (by decide +kernel) aM (aF T.u_ T.FG b8 (ae 0))))) aU)
   (ao (bu (aD (cm hu) (ae 1) aI (aK _)) (ao (aY (dX Km (hr.mono (by decide)) T.o_ (by decide +kernel) aM (aF T.u_ T.Gx b8 (ae 0))))) aU)))
theorem o7:n_ ["self"] ["self"] (h_ ik):=GC
def gR(G:Cs):Fw:=(Ga (al (f_ Fo (aB G.c_ a_ 5 (aa 0)) (dC (.str "shut")))) (bB (bc G.c_ a_ (bJ G) (aa 0) ai)) bz)
def fz(G:Cs):List D->M D:=mF 1 (gR G)
theorem oZ{G:Cs}(T:Txt K mg G)(GB:FV P w K mg base (A_ P w) G.c_ "open_anew" 2 ["self"] (bJ G)){f:Addr}{fd:FuncData}(F:Gf K "start" "Sender.start" ik f fd):Gm P w K mg base (A_ P w) 3 f fd ["self"] (fz G):=by
 refine fE F o7 fun Fm A outer s H E hr=>?_
 have hu:=hr.units;exact(ao (bu (aD (cm hu) (aF T.i_ T.B_ aG (ae 0)) aI (aK _)) (ao (aY (dX GB (hr.mono (by decide)) T.i_ (by decide +kernel) aM (ae 0)))) aU))
theorem qH:n_ ["self"] ["self"] (h_ iX):=GC
def ii(G:Cs):Fw:=(bB (bc G.c_ a_ (fz G) (aB G.World m_ 0 (aa 0)) ai))
def gm(G:Cs):List D->M D:=mF 1 (ii G)
theorem qp{G:Cs}(T:Txt K mg G)(JL:FV P w K mg base (A_ P w) G.c_ "start" 3 ["self"] (fz G)){f:Addr}{fd:FuncData}(F:Gf K "start" "World.start" iX f fd):Gm P w K mg base (A_ P w) 4 f fd ["self"] (gm G):=by
 refine fE F qH fun Fm A outer s H E hr=>?_
 have hu:=hr.units;exact(ao (aY (dX JL (hr.mono (by decide)) T.i_ (by decide +kernel) aM (aF T.u_ T.FG b8 (ae 0)))))
theorem v7:n_ ["_law_world","_law_act"] ["_law_world","_law_act"] (h_ nQ):=GC
def lY(G:Cs):Fw:=(Ga (al (f_ Fo (f_ t_ (aa 1) (dC (.int 0))) (dC (.str "hand")))) (bB (bc G.World m_ (hV G) (aa 0) (ac (am fm (ac (f_ t_ (aa 1) (dC (.int 1))) (ac (dC (.int 12)) ai))) ai))) (Ga (al (f_ Fo (f_ t_ (aa 1) (dC (.int 0))) (dC (.str "tick")))) (bB (bc G.World m_ (gY G) (aa 0) ai)) (Ga (al (f_ Fo (f_ t_ (aa 1) (dC (.int 0))) (dC (.str "step")))) (bB (bc G.World m_ (gS G) (aa 0) (ac (f_ t_ (aa 1) (dC (.int 1))) ai))) (Ga (al (f_ Fo (f_ t_ (aa 1) (dC (.int 0))) (dC (.str "lose")))) (bB (bc G.World m_ (ia G) (aa 0) (ac (f_ t_ (aa 1) (dC (.int 1))) (ac (f_ t_ (aa 1) (dC (.int 2))) ai)))) (Ga (al (f_ Fo (f_ t_ (aa 1) (dC (.int 0))) (dC (.str "double")))) (bB (bc G.World m_ (eS G) (aa 0) (ac (f_ t_ (aa 1) (dC (.int 1))) (ac (f_ t_ (aa 1) (dC (.int 2))) ai)))) (Ga (al (f_ Fo (f_ t_ (aa 1) (dC (.int 0))) (dC (.str "spoil")))) (bB (bc G.World m_ (gn G) (aa 0) (ac (f_ t_ (aa 1) (dC (.int 1))) (ac (f_ t_ (aa 1) (dC (.int 2))) (ac (am aH (ac (f_ t_ (aa 1) (dC (.int 3))) (ac (dC (.int 9829)) (ac (dC (.int 16)) ai)))) (ac (am aH (ac (f_ t_ (aa 1) (dC (.int 3))) (ac (dC (.int 9817)) (ac (dC (.int 256)) ai)))) ai)))))) (Ga (al (f_ Fo (f_ t_ (aa 1) (dC (.int 0))) (dC (.str "fall")))) (bB (bc G.World m_ (gZ G) (aa 0) (ac (f_ t_ (aa 1) (dC (.int 1))) ai))) (bB (bc G.World m_ (gm G) (aa 0) ai)))))))))
def li(G:Cs):List D->M D:=mF 2 (lY G)
theorem vY{G:Cs}(T:Txt K mg G)(JM:Hs P w K mg base (A_ P w) "_law_message" 2 ["_law_cell_here","_law_longest"] fm)(K9:FV P w K mg base (A_ P w) G.World "hand" 3 ["self","message"] (hV G))(K_:FV P w K mg base (A_ P w) G.World "tick" 7 ["self"] (gY G))(La:FV P w K mg base (A_ P w) G.World "step" 8 ["self","road"] (gS G))(Lb:FV P w K mg base (A_ P w) G.World "lose" 2 ["self","road","k"] (ia G))(JN:FV P w K mg base (A_ P w) G.World "double" 2 ["self","road","k"] (eS G))(Fs:Hs P w K mg base (A_ P w) "_law_mix" 1 ["_law_cell_here","_law_prime","_law_many"] aH)(Kn:FV P w K mg base (A_ P w) G.World "spoil" 2 ["self","road","k","place","by"] (gn G))(Lc:FV P w K mg base (A_ P w) G.World "fall" 3 ["self","who"] (gZ G))(Ko:FV P w K mg base (A_ P w) G.World "start" 4 ["self"] (gm G)){f:Addr}{fd:FuncData}(F:Gf K "_law_do" "_law_do" nQ f fd):Gm P w K mg base (A_ P w) 9 f fd ["_law_world","_law_act"] (li G):=by
 refine fE F v7 fun Fm A outer s H E hr=>?_
 have hu:=hr.units;exact(ao (bu (aD (cm hu) (aJ FY (ae 1) aq (fun _ _=>rfl)) aI (aK _)) (ao (aY (bC K9 (hr.mono (by decide)) T.u_ (by decide +kernel) aM (ae 0) (af (aP JM (hr.mono (by decide)) rfl aM (af (aJ FY (ae 1) aq (fun _ _=>rfl)) (af aq ah)) (ak (ak aE))) ah) (dR (ak aE))))) (ao (bu (aD (cm hu) (aJ FY (ae 1) aq (fun _ _=>rfl)) aI (aK _)) (ao (aY (dX K_ (hr.mono (by decide)) T.u_ (by decide +kernel) aM (ae 0)))) (ao (bu (aD (cm hu) (aJ FY (ae 1) aq (fun _ _=>rfl)) aI (aK _)) (ao (aY (bC La (hr.mono (by decide)) T.u_ (by decide +kernel) aM (ae 0) (af (aJ FY (ae 1) aq (fun _ _=>rfl)) ah) (dR (ak aE))))) (ao (bu (aD (cm hu) (aJ FY (ae 1) aq (fun _ _=>rfl)) aI (aK _)) (ao (aY (bC Lb (hr.mono (by decide)) T.u_ (by decide +kernel) aM (ae 0) (af (aJ FY (ae 1) aq (fun _ _=>rfl)) (af (aJ FY (ae 1) aq (fun _ _=>rfl)) ah)) (dR (ak (ak aE)))))) (ao (bu (aD (cm hu) (aJ FY (ae 1) aq (fun _ _=>rfl)) aI (aK _)) (ao (aY (bC JN (hr.mono (by decide)) T.u_ (by decide +kernel) aM (ae 0) (af (aJ FY (ae 1) aq (fun _ _=>rfl)) (af (aJ FY (ae 1) aq (fun _ _=>rfl)) ah)) (dR (ak (ak aE)))))) (ao (bu (aD (cm hu) (aJ FY (ae 1) aq (fun _ _=>rfl)) aI (aK _)) (ao (aY (bC Kn (hr.mono (by decide)) T.u_ (by decide +kernel) aM (ae 0) (af (aJ FY (ae 1) aq (fun _ _=>rfl)) (af (aJ FY (ae 1) aq (fun _ _=>rfl)) (af (aP Fs (hr.mono (by decide)) rfl aM (af (aJ FY (ae 1) aq (fun _ _=>rfl)) (af aq (af aq ah))) (ak (ak (ak aE)))) (af (aP Fs (hr.mono (by decide)) rfl aM (af (aJ FY (ae 1) aq (fun _ _=>rfl)) (af aq (af aq ah))) (ak (ak (ak aE)))) ah)))) (dR (ak (ak (ak (ak aE)))))))) (ao (bu (aD (cm hu) (aJ FY (ae 1) aq (fun _ _=>rfl)) aI (aK _)) (ao (aY (bC Lc (hr.mono (by decide)) T.u_ (by decide +kernel) aM (ae 0) (af (aJ FY (ae 1) aq (fun _ _=>rfl)) ah) (dR (ak aE))))) (ao (aY (dX Ko (hr.mono (by decide)) T.u_ (by decide +kernel) aM (ae 0))))))))))))))))))
theorem Iq:n_ ["_law_cards","_law_window","_law_most","_law_card"] ["_law_cards","_law_window","_law_most"] (h_ jN):=GC
def eD:Fw:=(aL (Ga (cX (al (f_ Fo (f_ t_ (aa 3) (dC (.int 0))) (dC (.str "data")))) (G8 (al (f_ IZ (f_ t_ (aa 3) (dC (.int 2))) (f_ eI (dC (.int 2)) (aa 1)))) (al (f_ MG (am bw (ac (f_ t_ (f_ t_ (aa 3) (dC (.int 3))) (dC (.int 1))) ai)) (aa 2))))) (bG (dC (.bl false))) bz)
 (Ga (cX (al (f_ Fo (f_ t_ (aa 3) (dC (.int 0))) (dC (.str "note")))) (G8 (al (f_ IZ (f_ t_ (aa 3) (dC (.int 2))) (f_ eI (dC (.int 2)) (aa 1)))) (al (f_ Hg (am bw (ac (f_ t_ (aa 3) (dC (.int 3))) ai)) (aa 1))))) (bG (dC (.bl false))) bz))
def jq:Fw:=(aL (pL (HM (aa 0)) (gN 3) eD)
 (bG (dC (.bl true))))
def dZ:List D->M D:=mF 4 jq
theorem qO{G:Cs}(T:Txt K mg G){f:Addr}{fd:FuncData}(F:Gf K "_law_sizes" "_law_sizes" jN f fd):Gm P w K mg base (A_ P w) 1 f fd ["_law_cards","_law_window","_law_most"] dZ:=by
 refine fE F Iq fun Fm A outer s H E hr=>?_
 have hu:=hr.units;exact(au (ma rfl (d6 (ae 0)) (cj (i:=3) Iq.nd) (au (bu (IV.pt (dJ (aD (cm hu) (aJ FY (ae 3) aq (fun _ _=>rfl)) aI (aK _)) (db (IV.pt (iO (aD rS (aJ FY (ae 3) aq (fun _ _=>rfl)) (bI jw aq (ae 1)) (aK _)) (iS (aD vA (bx dm rfl T.GH PySem.boot_len (af (aJ FY (aJ FY (ae 3) aq (fun _ _=>rfl)) aq (fun _ _=>rfl)) ah)) (ae 2) (aK _)))))))) (ao (aW jH)) aU)
   (ao (bu (IV.pt (dJ (aD (cm hu) (aJ FY (ae 3) aq (fun _ _=>rfl)) aI (aK _)) (db (IV.pt (iO (aD rS (aJ FY (ae 3) aq (fun _ _=>rfl)) (bI jw aq (ae 1)) (aK _)) (iS (aD (om hu) (bx dm rfl T.GH PySem.boot_len (af (aJ FY (ae 3) aq (fun _ _=>rfl)) ah)) (ae 1) (aK _)))))))) (ao (aW jH)) aU))))
   (ao (aW jH)))
theorem H_:n_ ["_law_script","_law_window","_law_most","_law_world","_law_act","_law_there","_law_back","_law_openings"] ["_law_script"] (h_ sI):=GC
def qb(G:Cs):Fw:=(aL (Ga (al (f_ Hg (f_ t_ (aa 4) (dC (.int 0))) (dC (.str "spoil")))) (bB (am (li G) (ac (aa 3) (ac (aa 4) ai)))) bz)
 (aL (cr (am (dh G) (ac (aa 3) (ac (dC (.str "there")) (ac (bV (ac (dC (.str "hello")) (ac (dC (.str "data")) ai))) ai)))) (gN 5))
 (aL (cr (am (dh G) (ac (aa 3) (ac (dC (.str "back")) (ac (bV (ac (dC (.str "welcome")) (ac (dC (.str "who")) (ac (dC (.str "note")) ai)))) ai)))) (gN 6))
 (aL (Ga (G8 (al (f_ wP (aa 5) (dC .D_))) (G8 (al (f_ wP (aa 6) (dC .D_))) (cW (bR (am dZ (ac (f_ bL (aa 5) (aa 6)) (ac (aa 1) (ac (aa 2) ai)))))))) (bG (dC (.bl false))) bz)
 (aL (cr (dH (HM (aa 5)) (gN 0) gy (f_ t_ (aa 0) (dC (.int 1))) 1 []) (gN 7))
 (Ga (G8 (al (f_ Hg (aa 7) (am mB (ac (aa 7) ai)))) (al (f_ MG (bc G.World m_ (aO G) (aa 3) (ac (dC (.str "hearer")) ai)) (bc G.World m_ (aO G) (aa 3) (ac (dC (.str "sender")) ai))))) (bG (dC (.bl false))) bz))))))
def vM(G:Cs):Fw:=(aL (cr (am ff (ac (aa 0) ai)) (gT [1,2]))
 (aL (cr (am (iI G.World (cH G)) (ac (aa 1) (ac (aa 2) ai))) (gN 3))
 (aL (pL (HM (am gr (ac (aa 0) (ac (dC (.bl true)) ai)))) (gN 4) (qb G))
 (bG (dC (.bl true))))))
def Ck(G:Cs):List D->M D:=mF 8 (vM G)
theorem Dd{G:Cs}(T:Txt K mg G)(JO:Hs P w K mg base (A_ P w) "_law_setting" 2 ["_law_script"] ff)(OA:Md P w K mg base (A_ P w) "World" G.World 3 ["self","window","most"] (cH G))(LN:Hs P w K mg base (A_ P w) "_law_acts" 2 ["_law_script","_law_falls"] gr)(MZ:Hs P w K mg base (A_ P w) "_law_do" 9 ["_law_world","_law_act"] (li G))(Ja:Hs P w K mg base (A_ P w) "_law_kinds" 6 ["_law_world","_law_road","_law_kinds_here"] (dh G))(Ld:Hs P w K mg base (A_ P w) "_law_sizes" 1 ["_law_cards","_law_window","_law_most"] dZ)(Gh:FV P w K mg base (A_ P w) G.World "opening_of" 1 ["self","who"] (aO G)){f:Addr}{fd:FuncData}(F:Gf K "law" "law" sI f fd):Gm P w K mg base (A_ P w) 10 f fd ["_law_script"] (Ck G):=by
 refine fE F H_ fun Fm A outer s H E hr=>?_
 have hu:=hr.units;exact(au (Cy (aP JO (hr.mono (by decide)) rfl aM (af (ae 0) ah) (ak aE)) (wx rfl (jA (cj (i:=1) H_.nd) (jA (cj (i:=2) H_.nd) sT))))
   (au (bO (i:=3) H_.nd (tU OA (hr.mono (by decide)) rfl aM (af (ae 1) (af (ae 2) ah)) (dR (ak (ak aE)))))
   (au (ma rfl (d6 (aP LN (hr.mono (by decide)) rfl aM (af (ae 0) (af jH ah)) (ak (ak aE)))) (cj (i:=4) H_.nd) (au (bu (aD (om hu) (aJ FY (ae 4) aq (fun _ _=>rfl)) aI (aK _)) (ao (aY (aP MZ (hr.mono (by decide)) rfl aM (af (ae 3) (af (ae 4) ah)) (ak (ak aE))))) aU)
   (au (bO (i:=5) H_.nd (aP Ja (hr.mono (by decide)) rfl aM (af (ae 3) (af aI (af (ci (af aI (af aI ah))) ah))) (ak (ak (ak aE)))))
   (au (bO (i:=6) H_.nd (aP Ja (hr.mono (by decide)) rfl aM (af (ae 3) (af aI (af (ci (af aI (af aI (af aI ah)))) ah))) (ak (ak (ak aE)))))
   (au (bu (IV.pt (iO (aD z7 (ae 5) n5 (aK _)) (iO (aD z7 (ae 6) n5 (aK _)) (iS (gg (cR (aP Ld (hr.mono (by decide)) rfl aM (af (bI cD (ae 5) (ae 6)) (af (ae 1) (af (ae 2) ah))) (ak (ak (ak aE)))))))))) (ao (aW jH)) aU)
   (au (pO (i:=7) H_.nd (own:=["_law_card"]) (capN:=[]) (caps:=[]) ⟨rfl,IE.all trivial,rfl,by decide +kernel,rfl,by decide +kernel,trivial,by decide +kernel⟩ rfl (d6 (ae 5)) (fY (by decide)) (fun C s2 H2 fp=>⟨(cj (i:=0) (show(["_law_card"]:List Str).Nodup from by decide +kernel)),ja,(aJ FY (ae 0) aq (fun _ _=>rfl))⟩))
   (ao (bu (IV.pt (iO (aD (om hu) (ae 7) (bx yM rfl T.Nz yx (af (ae 7) ah)) (aK _)) (iS (aD vA (bC Gh (hr.mono (by decide)) T.u_ (by decide +kernel) aM (ae 3) (af aI ah) (dR (ak aE))) (bC Gh (hr.mono (by decide)) T.u_ (by decide +kernel) aM (ae 3) (af aI ah) (dR (ak aE))) (aK _))))) (ao (aW jH)) aU))))))))
   (ao (aW jH)))))
end
end Lw
namespace Lw
abbrev GL:=List Int
abbrev Pc:=Int×List Int
inductive v_ where
 |x_ (o:Nat)|tB (o:Nat)|GU (o:Nat)|data (o n:Nat) (p:Pc)|note (o n:Nat) (bs:List Int)
 deriving DecidableEq
def nL(k:Nat):Nat->GL->List Pc
 |0,m=>[(1,m)]
 |n+1,m=>if k<m.length then (0,m.take k) :: nL k n (m.drop k) else [(1,m)]
def eP(k:Nat)(m:GL):List Pc:=nL k 100 m
def bh(ps:List Pc):GL:=ps.flatMap (·.2)
def FC(ps:List Pc):Nat:=(ps.filter fun p=>decide (p.1=1)).length
def jd(num low:Int)(w:Nat):Int:=low+(num-low) % (2 * (w:Int))
structure Hr where
 w:Nat
 given:List (Nat×GL)
 op:Nat
 nx:Nat
 early:List (Nat×Pc)
 begun:List Pc
namespace Hr
def new(w:Nat):Hr:=⟨w,[],0,0,[],[]⟩
def begin_(h:Hr)(o:Nat):Hr:={ h with op:=o,nx:=0,early:=[],begun:=[] }
def Ge(h:Hr):Hr:=h.begin_ 0
def idx(h:Hr)(num:Nat):Int:=jd num ((h.nx:Int)-h.w) h.w
def keep(h:Hr)(num:Nat)(p:Pc):Hr:=if num<2 * h.w/\(h.nx:Int)<=h.idx num/\h.early.lookup (h.idx num).toNat=none then { h with early:=h.early++[((h.idx num).toNat,p)] } else h
def take(h:Hr)(p:Pc):Hr:=if p.1=1 then { h with given:=h.given++[(h.op,bh (h.begun++[p]))],begun:=[] } else { h with begun:=h.begun++[p] }
def pop(h:Hr):Hr:={ h with early:=h.early.filter fun e=>decide (e.1≠h.nx),nx:=h.nx+1 }
def Fh:Nat->Hr->Hr
 |0,h=>h
 |n+1,h=>match h.early.lookup h.nx with
  |none=>h
  |some p=>Fh n (h.pop.take p)
def bits(h:Hr):List Int:=(List.range h.w).map fun k=>if (h.early.lookup (h.nx+k)).isSome then 1 else 0
def note(h:Hr):v_:=.note h.op (h.nx % (2 * h.w)) h.bits
def data(h:Hr)(num:Nat)(p:Pc):Hr:=Fh (h.keep num p).early.length (h.keep num p)
def l_(h:Hr):v_->Hr×List v_
 |.x_ o=>if o<h.op then (h,[]) else if h.op<o then (h.begin_ o,[.tB o]) else (h,[.tB o])
 |.data o n p=>if o<h.op then (h,[]) else if h.op<o then (h,[.GU o]) else (h.data n p,[(h.data n p).note])
 |_=>(h,[])
end Hr
inductive St where
 |GJ|opening|opened
 deriving DecidableEq
structure Sr where
 w:Nat
 most:Nat
 msgs:List GL
 sure:Nat
 op:Nat
 st:St
 ps:List Pc
 base:Nat
 E_:List Nat
namespace Sr
def new(w most:Nat):Sr:=⟨w,most,[],0,0,.GJ,[],0,[]⟩
def hand(s:Sr)(m:GL):Sr:={ s with msgs:=s.msgs++[m],ps:=if s.st=.GJ then s.ps else s.ps++eP s.most m }
def anew(s:Sr):Sr:={ s with op:=s.op+1,st:=.opening,ps:=(s.msgs.drop s.sure).flatMap (eP s.most),base:=0,E_:=[] }
def start(s:Sr):Sr:=if s.st=.GJ then s.anew else s
def Ge(s:Sr):Sr:={ s with st:=.GJ }
def wanted(s:Sr):List Nat:=(List.range' s.base (min (s.base+s.w) s.ps.length-s.base)).filter fun i=>decide (i∉s.E_)
def dataOf(s:Sr)(i:Nat):v_:=.data s.op (i % (2 * s.w)) (s.ps.getD i (0,[]))
def tick(s:Sr):List v_:=match s.st with
 |.GJ=>[]
 |.opening=>[.x_ s.op]
 |.opened=>s.wanted.map s.dataOf
def Fu(s:Sr):Nat->List Int->Sr
 |_,[]=>s
 |k,b :: bs=>Fu (if b=1/\s.base+k<s.ps.length/\s.base+k∉s.E_ then { s with E_:=s.E_++[s.base+k] } else s) (k+1) bs
def Hw(s:Sr)(i:Nat):Sr:={ s with sure:=s.sure+FC ((s.ps.take i).drop s.base),base:=i }
def C_(s:Sr)(num:Nat)(bs:List Int):Sr:=
 if num<2 * s.w/\jd num s.base s.w<=min (s.base+s.w) s.ps.length then (s.Hw (jd num s.base s.w).toNat).Fu 0 bs else s
def l_(s:Sr):v_->Sr
 |.tB o=>if o=s.op/\s.st=.opening then { s with st:=.opened } else s
 |.GU o=>if o=s.op/\s.st=.opened then s.anew else s
 |.note o n bs=>if o=s.op/\s.st=.opened then s.C_ n bs else s
 |_=>s
end Sr
end Lw
namespace Lw
theorem ie(a b:List Pc):bh (a++b)=bh a++bh b:=by simp[bh]
theorem uU(p:Pc):bh [p]=p.2:=by simp[bh]
theorem d5(a b:List Pc):FC (a++b)=FC a+FC b:=by simp[FC]
theorem qD{a:List Pc}(h:∀p∈a,p.1=0):FC a=0:=by
 unfold FC;rw[List.length_eq_zero_iff,List.filter_eq_nil_iff];intro p hp;rw[h p hp]
 decide
theorem rV(k:Nat):∀(n:Nat) (m:GL),∃pre l,nL k n m=pre++[(1,l)]/\(∀p∈pre,p.1=0)/\bh pre++l=m
 |0,m=>⟨[],m,rfl,by simp,by simp[bh]⟩
 |n+1,m=>by
  unfold nL;split
  ·obtain⟨pre,l,h1,h2,h3⟩:=rV k n (m.drop k);refine⟨(0,m.take k) :: pre,l,by rw[h1];rfl,?_,?_⟩
   ·intro p hp;rcases List.mem_cons.mp hp with rfl|hp
    ·rfl
    ·exact h2 p hp
   ·rw[show bh ((0,m.take k) :: pre)=m.take k++bh pre by simp[bh],List.append_assoc,h3,List.take_append_drop]
  ·exact⟨[],m,rfl,by simp,by simp[bh]⟩
theorem lh(k:Nat)(m:GL):∃pre l,eP k m=pre++[(1,l)]/\(∀p∈pre,p.1=0)/\bh pre++l=m:=rV k 100 m
theorem qw(k:Nat)(m:GL):FC (eP k m)=1:=by
 obtain⟨pre,l,h1,h2,_⟩:=lh k m;rw[h1,d5,qD h2];rfl
theorem qa(k:Nat)(m:GL):∀p∈eP k m,p.1=0\/p.1=1:=by
 obtain⟨pre,l,h1,h2,_⟩:=lh k m;intro p hp;rw[h1] at hp;rcases List.mem_append.mp hp with hp|hp
 ·exact .inl (h2 p hp)
 ·rw[List.mem_singleton.mp hp];exact .inr rfl
def rB(x:List GL×List Pc)(p:Pc):List GL×List Pc:=if p.1=1 then (x.1++[bh (x.2++[p])],[]) else (x.1,x.2++[p])
def N9(ps:List Pc):List GL×List Pc:=ps.foldl rB ([],[])
theorem vi(ps:List Pc)(p:Pc):N9 (ps++[p])=rB (N9 ps) p:=by simp[N9,List.foldl_append]
theorem qE:∀(ps:List Pc) (x:List GL×List Pc),(∀p∈ps,p.1=0)->ps.foldl rB x=(x.1,x.2++ps)
 |[],x,_=>by simp
 |p :: ps,x,h=>by
  have h0:p.1=0:=h p (by simp);have h1:¬p.1=1:=by rw[h0];decide
  rw[List.foldl_cons,show rB x p=(x.1,x.2++[p]) by simp[rB,h1],qE ps _ fun q hq=>h q (List.mem_cons_of_mem _ hq)];simp
theorem A8(k:Nat)(m:GL)(ms:List GL):(eP k m).foldl rB (ms,[])=(ms++[m],[]):=by
 obtain⟨pre,l,h1,h2,h3⟩:=lh k m;rw[h1,List.foldl_append,qE pre _ h2];simp[rB,ie,uU,h3]
def fl(k:Nat)(ms:List GL):List Pc:=ms.flatMap (eP k)
theorem sJ(k:Nat)(a b:List GL):fl k (a++b)=fl k a++fl k b:=by simp[fl]
theorem sO(k:Nat)(m:GL)(ms:List GL):fl k (m :: ms)=eP k m++fl k ms:=by simp[fl]
theorem uX(k:Nat):∀ms:List GL,FC (fl k ms)=ms.length
 |[]=>rfl
 |m :: ms=>by rw[sO,d5,qw,uX k ms,List.length_cons];omega
theorem Ap(k:Nat)(ms:List GL):∀p∈fl k ms,p.1=0\/p.1=1:=by
 intro p hp;obtain⟨m,_,h⟩:=List.mem_flatMap.mp hp;exact qa k m p h
theorem zn(k:Nat):∀(ms:List GL) (n:Nat) (acc:List GL),∃b,((fl k ms).take n).foldl rB (acc,[])=(acc++ms.take (FC ((fl k ms).take n)),b)
 |[],n,acc=>⟨[],by simp[fl]⟩
 |m :: ms,n,acc=>by
  rw[sO];by_cases h:(eP k m).length<=n
  ·obtain⟨b,hb⟩:=zn k ms (n-(eP k m).length) (acc++[m]);refine⟨b,?_⟩;rw[List.take_append,List.take_of_length_le h,List.foldl_append,A8,hb,d5,qw,Nat.add_comm 1,List.take_succ_cons,List.append_assoc];rfl
  ·obtain⟨pre,l,h1,h2,h3⟩:=lh k m;have hz:∀p∈((eP k m++fl k ms).take n),p.1=0:=by
    intro p hp;rw[List.take_append_of_le_length (by omega),h1] at hp;rw[h1,List.length_append,List.length_singleton] at h;rw[List.take_append_of_le_length (by omega)] at hp;exact h2 p (List.mem_of_mem_take hp)
   refine⟨(eP k m++fl k ms).take n,?_⟩;rw[qE _ _ hz,qD hz];simp
theorem uA(k:Nat)(ms:List GL)(n:Nat):(N9 ((fl k ms).take n)).1=ms.take (FC ((fl k ms).take n)):=by
 obtain⟨b,hb⟩:=zn k ms n [];unfold N9;rw[hb];simp
theorem pz(a:List Pc){i j:Nat}(h:i<=j):FC (a.take i)<=FC (a.take j):=by
 have e:a.take j=a.take i++(a.take j).drop i:=by
  have:=List.take_append_drop i (a.take j);rw[List.take_take,Nat.min_eq_left h] at this;exact this.symm
 rw[e,d5];omega
theorem oC(k:Nat)(ms:List GL)(n:Nat):FC ((fl k ms).take n)<=ms.length:=by
 rw[<-uX k ms];have:=d5 ((fl k ms).take n) ((fl k ms).drop n);rw[List.take_append_drop] at this;omega
theorem uH{i low:Int}{w:Nat}(hw:0<w)(h1:low<=i)(h2:i<low+2 * w):jd (i % (2 * (w:Int))) low w=i:=by
 unfold jd;have hm:(0:Int)<2 * (w:Int):=by omega
 have e:(i % (2 * (w:Int))-low) % (2 * (w:Int))=(i-low) % (2 * (w:Int)):=by
  rw[Int.sub_emod,Int.emod_emod_of_dvd _ (Int.dvd_refl _),<-Int.sub_emod]
 rw[e,Int.emod_eq_of_lt (by omega) (by omega)];omega
end Lw
namespace Lw
open PySem L2 DL
def FL(p:Pc):D:=.tup [.int p.1,.tup (p.2.map D.int)]
def FI(m:GL):D:=.tup (m.map D.int)
def k_:v_->D
 |.x_ o=>.tup [.str "hello",.int (o:Int)]
 |.tB o=>.tup [.str "welcome",.int (o:Int)]
 |.GU o=>.tup [.str "who",.int (o:Int)]
 |.data o n p=>.tup [.str "data",.int (o:Int),.int (n:Int),FL p]
 |.note o n bs=>.tup [.str "note",.int (o:Int),.int (n:Int),.tup (bs.map D.int)]
theorem dr{S:List Cell}{i j:Nat}{c d:Cell}(h1:S[i]?=some c)(h2:S[j]?=some d)(h:c≠d):i≠j:=fun e=>h (by subst e;rw[h1] at h2;injection h2)
theorem de(n:Nat):∀is:List Int,iW n (is.map D.int)
 |[]=>by simp[iW]
 |i :: is=>by simp[iW,GQ,de n is]
theorem CP(n:Nat)(x:GL):GQ n (FI x):=by simp[FI,GQ,de]
theorem DU(n:Nat)(p:Pc):GQ n (FL p):=by simp[FL,GQ,iW,de]
theorem zO(n:Nat):∀ps:List Pc,iW n (ps.map FL)
 |[]=>by simp[iW]
 |p :: ps=>by rw[List.map_cons];exact⟨DU n p,zO n ps⟩
end Lw
namespace Lw
open PySem L2 DL
theorem vE{k:Nat}(hk:1<=k):∀(n:Nat) (m:GL),(nL k n m).length<=m.length+1
 |0,m=>by simp[nL]
 |n+1,m=>by
  unfold nL;split
  ·have:=vE hk n (m.drop k);rw[List.length_drop] at this;rw[List.length_cons];omega
  ·simp
theorem mY{k:Nat}(hk:1<=k)(m:GL):(eP k m).length<=m.length+1:=vE hk 100 m
theorem og{k:Nat}(hk:1<=k){x0 x1:Option D}{S:List Cell}:∀(fuel:Nat) (acc:List Pc) (m:GL),m.length<fuel->acc.length+m.length<1000000->∃pre l,nL k fuel m=pre++[(1,l)]/\pre.length<=m.length/\
  fO (al (f_ MG (am bw (ac (aa 4) ai)) (aa 2))) (aL (bB (IY j4 (aa 3) (ac (cn (ac (dC (.int 0)) (ac (HP Hh (aa 4) bT (bP (aa 2))) ai))) ai)))
 (cr (HP Hh (aa 4) (bP (aa 2)) bT) (gN 4))) fuel [x0,x1,some (.int (k:Int)),some (.ob S.length),some (FI m)] (S++[.lst (acc.map FL)])=some (.nx [x0,x1,some (.int (k:Int)),some (.ob S.length),some (FI l)],S++[.lst ((acc++pre).map FL)])
 |0,_,_,h,_=>by omega
 |f+1,acc,m,h,hz=>by
  have t1:al (f_ MG (am bw (ac (aa 4) ai)) (aa 2)) [x0,x1,some (.int (k:Int)),some (.ob S.length),some (FI m)] (S++[.lst (acc.map FL)])=.ok (decide (k<m.length)) (S++[.lst (acc.map FL)]):=by
   refine az (ar (x:=.int (m.length:Int)) (ax (ag rfl aj) (by unfold FI;rw[cb,List.length_map])) rfl ?_);rw[zU];congr 2;rw[decide_eq_decide];omega
  by_cases hc:k<m.length
  ·rw[decide_eq_true hc] at t1;obtain⟨pre,l,p1,p2,p3⟩:=og (x0:=x0) (x1:=x1) (S:=S) hk f (acc++[(0,m.take k)]) (m.drop k) (by rw[List.length_drop];omega) (by rw[List.length_append,List.length_drop,List.length_singleton];omega);refine⟨(0,m.take k) :: pre,l,?_,?_,?_⟩
   ·rw[nL,if_pos hc,p1];rfl
   ·rw[List.length_drop] at p2;rw[List.length_cons];omega
   ·have c1:fJ (m.map D.int) none (some (k:Int))=(m.take k).map D.int:=by rw[yF (by simp;omega),List.map_take]
    have c2:fJ (m.map D.int) (some (k:Int)) none=(m.drop k).map D.int:=by rw[fR (by simp;omega),List.map_drop]
    have s1:∀T,HP Hh (aa 4) bT (bP (aa 2)) [x0,x1,some (.int (k:Int)),some (.ob S.length),some (FI m)] T=.ok (FI (m.take k)) T:=fun T=>by
     simp only[lE,av,kg,List.getElem?_cons_succ,List.getElem?_cons_zero,d3,kD,eZ,gc,FI,Hh,c1]
    have s2:∀T,HP Hh (aa 4) (bP (aa 2)) bT [x0,x1,some (.int (k:Int)),some (.ob S.length),some (FI m)] T=.ok (FI (m.drop k)) T:=fun T=>by
     simp only[lE,av,kg,List.getElem?_cons_succ,List.getElem?_cons_zero,d3,kD,eZ,gc,FI,Hh,c2]
    have Jf:∀a c:Cell,(S++[a]).set S.length c=S++[c]:=fun a c=>by rw[List.set_append_right _ _ (Nat.le_refl _)];simp
    have ee:=uQ (S:=S++[.lst (acc.map FL)]) (n:=S.length) (xs:=acc.map FL) (d:=FL (0,m.take k)) (aS rfl) (by simp;omega);rw[Jf] at ee;have e2:acc.map FL++[FL (0,m.take k)]=(acc++[(0,m.take k)]).map FL:=by simp
    rw[e2] at ee;rw[DZ t1 (r2:=[x0,x1,some (.int (k:Int)),some (.ob S.length),some (FI (m.drop k))]) (S2:=S++[.lst ((acc++[(0,m.take k)]).map FL)])]
    ·rw[p3];simp
    ·rw[aw (bf (lH rfl (aS rfl) (ag (bM (ag rfl (ag (s1 _) aj)) (by simp)) aj) ee)),bF (s2 _)];rfl
  ·rw[decide_eq_false hc] at t1;refine⟨[],m,by rw[nL,if_neg hc];rfl,by simp,?_⟩;rw[CO t1,List.append_nil]
theorem sG{k:Nat}(hk:1<=k){m:GL}(hm:m.length<=40)(S:List Cell):df [FI m,.int (k:Int)] S=.ok (.tup ((eP k m).map FL)) S:=by
 show cI S (jU 100 [some (FI m),some (.int (k:Int)),none,none,none] S)=_;unfold jU;have Ur:CJ [.int (k:Int),.int 1] S=.ok (.int (k:Int)) S:=by
  rw[Ef];congr 2;omega
 rw[aw (bF (ax (ag rfl (ag rfl aj)) Ur))];show cI S (aL _ _ [some (FI m),some (.int (k:Int)),some (.int (k:Int)),none,none] S)=_;rw[aw (bF (bY aj (by decide)))];show cI S (aL _ _ [some (FI m),some (.int (k:Int)),some (.int (k:Int)),some (.ob S.length),none] (S++[.lst []]))=_;rw[aw (bF (d:=FI m) rfl)];show cI S (aL _ _ [some (FI m),some (.int (k:Int)),some (.int (k:Int)),some (.ob S.length),some (FI m)] (S++[.lst []]))=_;obtain⟨pre,l,p1,p2,p3⟩:=og (x0:=some (FI m)) (x1:=some (.int (k:Int))) (S:=S) hk 100 [] m (by omega) (by simp;omega);rw[List.map_nil] at p3;have Jf:∀a c:Cell,(S++[a]).set S.length c=S++[c]:=fun a c=>by rw[List.set_append_right _ _ (Nat.le_refl _)];simp
 have ee:=uQ (S:=S++[.lst (pre.map FL)]) (n:=S.length) (xs:=pre.map FL) (d:=FL (1,l)) (aS rfl) (by simp;omega);rw[Jf] at ee;have e2:pre.map FL++[FL (1,l)]=(eP k m).map FL:=by unfold eP;rw[p1];simp
 rw[e2] at ee;rw[aw p3,List.nil_append,aw (bf (lH rfl (aS rfl) (ag (bM (ag rfl (ag rfl aj)) (by simp)) aj) ee)),aR (ax (ag (x:=.ob S.length) rfl aj) (fP (aS rfl)))];exact kU (by unfold GQ;exact zO _ _)
end Lw
namespace Lw
open PySem L2 DL
def Pk:St->Str
 |.GJ=>"shut"
 |.opening=>"opening"
 |.opened=>"open"
def Nb(l:List Nat):List (Key×D):=l.map fun(k:Nat)=>(Sum.inl (k:Int),.bl true)
structure FH(G:Cs)(S:List Cell)(n m p q:Nat)(s:Sr):Prop where
 ob:S[n]?=some (.ins G.c_ a_ [.int (s.w:Int),.int (s.most:Int),.ob m,.int (s.sure:Int),.int (s.op:Int),.str (Pk s.st),.ob p,.int (s.base:Int),.ob q])
 ms:S[m]?=some (.lst (s.msgs.map FI))
 ps:S[p]?=some (.lst (s.ps.map FL))
 nt:S[q]?=some (.GW (Nb s.E_))
 mp:m≠p
section
variable{G:Cs}{S S' S1 S2:List Cell}{n m p q p1 q1 p2 q2 p' q':Nat}{s s' s1 s2:Sr}
theorem FH.nm(a:FH G S n m p q s):n≠m:=dr a.ob a.ms (by intro z;cases z)
theorem FH.np(a:FH G S n m p q s):n≠p:=dr a.ob a.ps (by intro z;cases z)
theorem FH.nq(a:FH G S n m p q s):n≠q:=dr a.ob a.nt (by intro z;cases z)
theorem FH.mq(a:FH G S n m p q s):m≠q:=dr a.ms a.nt (by intro z;cases z)
theorem FH.pq(a:FH G S n m p q s):p≠q:=dr a.ps a.nt (by intro z;cases z)
theorem FH.push(a:FH G S n m p q s)(c:List Cell):FH G (S++c) n m p q s:=⟨aC a.ob,aC a.ms,aC a.ps,aC a.nt,a.mp⟩
structure GN(G:Cs)(n m p q:Nat)(S:List Cell)(p' q':Nat)(S':List Cell)(s':Sr):Prop where
 at_:FH G S' n m p' q' s'
 fr:Fr [n,m,p,q] S S'
 p_:p'=p\/S.length<=p'
 q_:q'=q\/S.length<=q'
theorem GN.trans(a:GN G n m p q S p1 q1 S1 s1)(c:GN G n m p1 q1 S1 p2 q2 S2 s2):GN G n m p q S p2 q2 S2 s2:=by
 have hl:=a.fr.1;refine⟨c.at_,a.fr.trans c.fr fun i hi hs=>?_,?_,?_⟩
 ·simp only[List.mem_cons,List.not_mem_nil,or_false] at hi ⊢;have he:=a.p_;have hb:=a.q_;omega
 ·have:=a.p_;have:=c.p_;omega
 ·have:=a.q_;have:=c.q_;omega
theorem GN.refl(a:FH G S n m p q s):GN G n m p q S p q S s:=⟨a,Fr.refl _ _,.inl rfl,.inl rfl⟩
theorem GN.push(a:GN G n m p q S p' q' S' s')(c:List Cell):GN G n m p q S p' q' (S'++c) s':=⟨a.at_.push c,a.fr.tr Fr.push,a.p_,a.q_⟩
theorem zY(a:FH G S n m p q s)(r:s_):aB G.c_ a_ 0 (aa 0) (some (.ob n) :: r) S=.ok (.int (s.w:Int)) S:=bX rfl a.ob rfl
theorem xg(a:FH G S n m p q s)(r:s_):aB G.c_ a_ 1 (aa 0) (some (.ob n) :: r) S=.ok (.int (s.most:Int)) S:=bX rfl a.ob rfl
theorem Cj(a:FH G S n m p q s)(r:s_):aB G.c_ a_ 2 (aa 0) (some (.ob n) :: r) S=.ok (.ob m) S:=bX rfl a.ob rfl
theorem B8(a:FH G S n m p q s)(r:s_):aB G.c_ a_ 3 (aa 0) (some (.ob n) :: r) S=.ok (.int (s.sure:Int)) S:=bX rfl a.ob rfl
theorem zX(a:FH G S n m p q s)(r:s_):aB G.c_ a_ 4 (aa 0) (some (.ob n) :: r) S=.ok (.int (s.op:Int)) S:=bX rfl a.ob rfl
theorem rP(a:FH G S n m p q s)(r:s_):aB G.c_ a_ 5 (aa 0) (some (.ob n) :: r) S=.ok (.str (Pk s.st)) S:=bX rfl a.ob rfl
theorem px(a:FH G S n m p q s)(r:s_):aB G.c_ a_ 6 (aa 0) (some (.ob n) :: r) S=.ok (.ob p) S:=bX rfl a.ob rfl
theorem kZ(a:FH G S n m p q s)(r:s_):aB G.c_ a_ 7 (aa 0) (some (.ob n) :: r) S=.ok (.int (s.base:Int)) S:=bX rfl a.ob rfl
theorem DY(a:FH G S n m p q s)(r:s_):aB G.c_ a_ 8 (aa 0) (some (.ob n) :: r) S=.ok (.ob q) S:=bX rfl a.ob rfl
theorem vL(a b:St)(S:List Cell):Fo (.str (Pk a)) (.str (Pk b)) S=.ok (.bl (decide (a=b))) S:=by
 cases a<;>cases b<;>exact bg
theorem DT(a b:St)(S:List Cell):Hg (.str (Pk a)) (.str (Pk b)) S=.ok (.bl (!decide (a=b))) S:=by
 cases a<;>cases b<;>exact vf
structure Sb(N:Nat)(s:Sr):Prop where
 most:1<=s.most
 ml:s.msgs.length<=N
 NF:∀x,x∈s.msgs->x.length<=40
 pl:s.ps.length<=41 * N
 fg:∀x,x∈s.ps->x.1=0\/x.1=1
 nl:s.E_.length<=7 * N
theorem wI{k:Nat}(hk:1<=k):∀{ms:List GL},(∀x,x∈ms->x.length<=40)->(fl k ms).length<=41 * ms.length
 |[],_=>by simp[fl]
 |x :: ms,h=>by
  have h1:=mY hk x;have h2:=h x (by simp);have h3:=wI hk (ms:=ms) fun y hy=>h y (List.mem_cons_of_mem _ hy)
  rw[sO,List.length_append,List.length_cons];omega
theorem Sb.mono{N M:Nat}(b:Sb N s)(h:N<=M):Sb M s:=⟨b.most,Nat.le_trans b.ml h,b.NF,by have:=b.pl;omega,b.fg,by have:=b.nl;omega⟩
theorem Sb.hand{N:Nat}{x:GL}(b:Sb N s)(hx:x.length<=40):Sb (N+1) (s.hand x):=by
 have h1:=b.ml;have h2:=b.pl;have h3:=mY b.most x;refine⟨b.most,?_,?_,?_,?_,by have:=b.nl;show s.E_.length<=_;omega⟩
 ·show(s.msgs++[x]).length<=_;rw[List.length_append,List.length_singleton];omega
 ·intro y hy;rcases List.mem_append.mp hy with hy|hy
  ·exact b.NF y hy
  ·rw[List.mem_singleton.mp hy];exact hx
 ·show(if s.st=.GJ then s.ps else s.ps++eP s.most x).length<=_;split
  ·omega
  ·rw[List.length_append];omega
 ·intro y hy;have Us:y∈(if s.st=.GJ then s.ps else s.ps++eP s.most x):=hy;split at Us
  ·exact b.fg y Us
  ·rcases List.mem_append.mp Us with hy|hy
   ·exact b.fg y hy
   ·exact qa _ _ y hy
theorem Sb.anew{N:Nat}(b:Sb N s):Sb N s.anew:=by
 refine⟨b.most,b.ml,b.NF,?_,Ap _ _,Nat.zero_le _⟩;have:=wI b.most (ms:=s.msgs.drop s.sure) fun x hx=>b.NF x (List.mem_of_mem_drop hx)
 rw[List.length_drop] at this;have h1:=b.ml;show(fl s.most (s.msgs.drop s.sure)).length<=_;omega
theorem AY{N:Nat}(a:FH G S n m p q s)(b:Sb N s)(hN:N<20000){x:GL}(hx:x.length<=40):∃S',gh G [.ob n,FI x] S=.ok .D_ S'/\GN G n m p q S p q S' (s.hand x):=by
 show ∃S',fin S (iw G [some (.ob n),some (FI x)] S)=_/\_;unfold iw;have hml:=b.ml;have LB:=b.pl;have Na:=mY b.most x;obtain⟨S1,q1,c1⟩:=sX (fo:=aB G.c_ a_ 2 (aa 0)) (ft:=ac (aa 1) ai) (r:=[some (.ob n),some (FI x)]) (Cj a _) a.ms (ag rfl aj) (by rw[List.length_map];omega);have a1:FH G S1 n m p q { s with msgs:=s.msgs++[x] }:=⟨c1.old a.ob a.nm.symm,by simpa using c1.at_,c1.old a.ps a.mp,c1.old a.nt a.mq,a.mp⟩;have f1:Fr [n,m,p,q] S S1:=c1.fp (by simp);rw[aw (bf q1)];have t1:al (f_ Hg (aB G.c_ a_ 5 (aa 0)) (dC (.str "shut"))) [some (.ob n),some (FI x)] S1=.ok (!decide (s.st=.GJ)) S1:=az (ar (rP a1 _) rfl (DT s.st .GJ _));by_cases hs:s.st=.GJ
 ·rw[decide_eq_true hs] at t1;have e1:s.hand x = { s with msgs:=s.msgs++[x] }:=by unfold Sr.hand;rw[if_pos hs]
  rw[ay t1,e1];exact⟨S1,rfl,a1,f1,.inl rfl,.inl rfl⟩
 ·rw[decide_eq_false hs] at t1;have e1:s.hand x = { s with msgs:=s.msgs++[x],ps:=s.ps++eP s.most x }:=by unfold Sr.hand;rw[if_neg hs]
  obtain⟨S2,q2,c2⟩:=zM (fo:=aB G.c_ a_ 6 (aa 0)) (ft:=ac (am df (ac (aa 1) (ac (aB G.c_ a_ 1 (aa 0)) ai))) ai) (r:=[some (.ob n),some (FI x)]) (px a1 _) a1.ps
   (ag (ax (ag rfl (ag (xg a1 _) aj)) (sG b.most hx S1)) aj) (by rw[List.length_map,List.length_map];show s.ps.length+_<=_;omega)
  rw[aV t1,bf q2,e1];refine⟨S2,rfl,⟨c2.old a1.ob a.np.symm,c2.old a1.ms a.mp.symm,by simpa using c2.at_,c2.old a1.nt a.pq,a.mp⟩,f1.tr (c2.fp (by simp)),.inl rfl,.inl rfl⟩
end
end Lw
namespace Lw
open PySem L2 DL
section
variable{G:Cs}{S S' S1 S2:List Cell}{n m p q p1 q1 p2 q2 p' q':Nat}{s s' s1 s2:Sr}
theorem A9(a:FH G S n m p q s):∃S',gj G [.ob n] S=.ok .D_ S'/\GN G n m p q S p q S' s.Ge:=by
 show ∃S',fin S (ip G [some (.ob n)] S)=_/\_;unfold ip;obtain⟨S1,q1,c1⟩:=gF (fo:=aa 0) (fe:=dC (.str "shut")) (r:=[some (.ob n)]) (i:=5) rfl rfl a.ob rfl;rw[q1];exact⟨S1,rfl,⟨c1.at_,c1.old a.ms a.nm,c1.old a.ps a.np,c1.old a.nt a.nq,a.mp⟩,c1.fp (by simp),.inl rfl,.inl rfl⟩
end
end Lw
namespace Lw
open PySem L2 DL
section
variable{G:Cs}{S S' S1 S2:List Cell}{n m p q p1 q1 p2 q2 p' q':Nat}{s s' s1 s2:Sr}{N:Nat}
theorem zg{k:Nat}{ms:List GL}{i:Nat}{x:GL}(h:ms[i]?=some x):fl k (ms.take (i+1))=fl k (ms.take i)++eP k x:=by
 rw[List.take_add_one,h,Option.toList_some,sJ];simp[fl]
theorem yC{s:Sr}(b:Sb N s)(hN:N<=20000){ms:List GL}(OB:∀x,x∈ms->x.length<=40)(hl:ms.length<=N){kk:Nat}{x1:Option D}(a:FH G S n m p q s)(Y_:s.ps=[])(hk:S[kk]?=some (.lst (ms.map FI)))(WZ:kk≠p) :
  ∃S' Pl,ij (some (kk,ms.map FI)) (gN 1) (dE G) (ms.map FI) [some (.ob n),x1] S=some (.nx [some (.ob n),Pl],S')/\FH G S' n m p q { s with ps:=fl s.most ms }/\Fr [p] S S':=by
 obtain⟨r',S',e,Pl,rfl,a',f',_⟩:=dO (g:=some (kk,ms.map FI)) (tg:=gN 1) (b:=dE G)
  (fun i r S'=>∃Pl,r=[some (.ob n),Pl]/\FH G S' n m p q { s with ps:=fl s.most (ms.take i) }/\Fr [p] S S'/\S'[kk]?=some (.lst (ms.map FI))) (ms.map FI) 0 [some (.ob n),x1] S
  (by
   rintro i y r S' hy ⟨Pl,rfl,a',f',k'⟩;rw[List.getElem?_map] at hy;cases hx:ms[i]? with
   |none=>rw[hx] at hy;cases hy
   |some x=>
    rw[hx] at hy;cases hy;rw[Nat.zero_add] at a' ⊢;have Za:=List.mem_of_getElem? hx;have PD:=(List.getElem?_eq_some_iff.mp hx).1;have l1:=wI b.most (ms:=ms.take i) fun y hy=>OB y (List.mem_of_mem_take hy)
    have l2:=mY b.most x;have l3:=OB x Za;rw[List.length_take] at l1;obtain⟨S2,q2,c2⟩:=zM (fo:=aB G.c_ a_ 6 (aa 0)) (ft:=ac (am df (ac (aa 1) (ac (aB G.c_ a_ 1 (aa 0)) ai))) ai) (r:=[some (.ob n),some (FI x)]) (px a' _) a'.ps
     (ag (ax (ag rfl (ag (xg a' _) aj)) (sG b.most l3 S')) aj) (by rw[List.length_map,List.length_map];show(fl s.most (ms.take i)).length+_<=_;omega)
    refine⟨[some (.ob n),some (FI x)],[some (.ob n),some (FI x)],S2,rfl,bf q2,c2.old k' WZ.symm,some (FI x),rfl,?_,f'.tr (c2.fp (by simp)),c2.old k' WZ.symm⟩;refine⟨c2.old a'.ob a.np.symm,c2.old a'.ms a.mp.symm,?_,c2.old a'.nt a.pq,a.mp⟩;show S2[p]?=some (.lst ((fl s.most (ms.take (i+1))).map FL));rw[zg hx,List.map_append];exact c2.at_)
  ⟨x1,rfl,⟨a.ob,a.ms,by show S[p]?=some (.lst ((fl s.most (ms.take 0)).map FL));rw[List.take_zero];have:=a.ps;rw[Y_] at this;exact this,a.nt,a.mp⟩,Fr.refl _ _,hk⟩
 refine⟨S',Pl,e,?_,f'⟩;rw[show 0+(ms.map FI).length=ms.length by simp,List.take_length] at a';exact a'
theorem xf(a:FH G S n m p q s)(b:Sb N s)(hN:N<=20000):∃S' p' q',bJ G [.ob n] S=.ok .D_ S'/\GN G n m p q S p' q' S' s.anew:=by
 show ∃S' p' q',fin S (ei G [some (.ob n),none] S)=_/\_;unfold ei;have ln:=br a.ob;have lm:=br a.ms;have lp:=br a.ps;have lq:=br a.nt;obtain⟨S1,e1,c1⟩:=xy (fo:=aa 0) (fe:=dC (.int 1)) (r:=[some (.ob n),none]) (i:=4) rfl a.ob rfl rfl rfl;obtain⟨S2,e2,c2⟩:=gF (fo:=aa 0) (fe:=dC (.str "opening")) (r:=[some (.ob n),none]) (i:=5) rfl rfl c1.at_ rfl;obtain⟨S3,e3,c3⟩:=gF (fo:=aa 0) (fe:=bV ai) (r:=[some (.ob n),none]) (i:=6) (bY aj (by decide)) rfl (aC (G:=[.lst []]) c2.at_) rfl;have l1:=c1.len;have l2:=c2.len;have l3:=c3.len;rw[List.length_append,List.length_singleton] at l3;have Zb:S3[m]?=some (.lst (s.msgs.map FI)):=c3.old (aC (c2.old (c1.old a.ms a.nm) a.nm)) a.nm;have a3:FH G S3 n m S2.length q { s with op:=s.op+1,st:=.opening,ps:=[] }:=
  ⟨c3.at_,Zb,c3.old (aS rfl) (by omega),c3.old (aC (c2.old (c1.old a.nt a.nq) a.nq)) a.nq,by omega⟩
 have f3:Fr [n] S S3:=((c1.fr.tr c2.fr).tr Fr.push).tr c3.fr;have b3:Sb N { s with op:=s.op+1,st:=.opening,ps:=[] }:=⟨b.most,b.ml,b.NF,Nat.zero_le _,by simp,b.nl⟩;have P5:fJ (s.msgs.map FI) (some (s.sure:Int)) none=(s.msgs.drop s.sure).map FI:=by
  unfold fJ;rw[HT.Hz,HT.IQ,List.map_drop];by_cases h:s.sure<=(s.msgs.map FI).length
  ·rw[Nat.min_eq_left h,List.take_of_length_le (by rw[List.length_drop];omega)]
  ·rw[Nat.min_eq_right (by omega),List.drop_of_length_le (Nat.le_refl _),List.drop_of_length_le (by omega)];simp
 have w1:HM (HP Hh (aB G.c_ a_ 2 (aa 0)) (bP (aB G.c_ a_ 3 (aa 0))) bT) [some (.ob n),none] S3=.ok ⟨(s.msgs.drop s.sure).map FI,some (S3.length,(s.msgs.drop s.sure).map FI)⟩ (S3++[.lst ((s.msgs.drop s.sure).map FI)]):=by
  have:HP Hh (aB G.c_ a_ 2 (aa 0)) (bP (aB G.c_ a_ 3 (aa 0))) bT [some (.ob n),none] S3=.ok (.ob S3.length) (S3++[.lst ((s.msgs.drop s.sure).map FI)]):=by
   rw[lE,av,Cj a3];dsimp only;rw[av,eZ,av,B8 a3];simp only[gc,kD,d3,av,Hh,bS a3.ms];rw[show({ s with op:=s.op+1,st:=.opening,ps:=[] }:Sr).sure=s.sure from rfl,P5]
  rw[lF,av,this];simp only[kG,bE]
 have Zc:(s.msgs.drop s.sure).length<=N:=by have:=b.ml;rw[List.length_drop];omega
 obtain⟨S4,x4,e4,a4,f4⟩:=yC (x1:=none) b3 hN (ms:=s.msgs.drop s.sure) (fun x hx=>b.NF x (List.mem_of_mem_drop hx)) Zc (kk:=S3.length) (a3.push [.lst ((s.msgs.drop s.sure).map FI)]) rfl (aS rfl) (by omega);have l4:=f4.1;rw[List.length_append,List.length_singleton] at l4;obtain⟨S5,e5,c5⟩:=gF (fo:=aa 0) (fe:=dC (.int 0)) (r:=[some (.ob n),x4]) (i:=7) rfl rfl a4.ob rfl;obtain⟨S6,e6,c6⟩:=gF (fo:=aa 0) (fe:=kj) (r:=[some (.ob n),x4]) (i:=8) rfl rfl (aC (G:=[.GW []]) c5.at_) rfl;have l5:=c5.len;have lp4:=br a4.ps;refine⟨S6,S2.length,S5.length,?_,⟨⟨c6.at_,c6.old (aC (c5.old a4.ms a.nm)) a.nm,c6.old (aC (c5.old a4.ps (by omega))) (by omega),c6.old (aS rfl) (by omega),by omega⟩,?_,.inr (by omega),.inr (by omega)⟩⟩
 ·rw[aw e1,aw e2,aw e3,aw (by rw[lR w1];exact e4),aw e5,e6];rfl
 ·have g1:Fr [n,m,p,q] S S3:=f3.mono fun i hi _=>by simp at hi;simp[hi]
  have g2:Fr [n,m,p,q] S S4:=(g1.tr Fr.push).trans f4 fun i hi hs=>by
   have:i=S2.length:=by simpa using hi
   omega
  exact((g2.tr (c5.fp (by simp))).tr Fr.push).tr (c6.fp (by simp))
theorem Ae(a:FH G S n m p q s)(b:Sb N s)(hN:N<=20000):∃S' p' q',fz G [.ob n] S=.ok .D_ S'/\GN G n m p q S p' q' S' s.start:=by
 show ∃S' p' q',fin S (gR G [some (.ob n)] S)=_/\_;unfold gR;have t1:al (f_ Fo (aB G.c_ a_ 5 (aa 0)) (dC (.str "shut"))) [some (.ob n)] S=.ok (decide (s.st=.GJ)) S:=az (ar (rP a _) rfl (vL s.st .GJ _));by_cases hs:s.st=.GJ
 ·rw[decide_eq_true hs] at t1;obtain⟨S',p',q',e1,k1⟩:=xf a b hN;refine⟨S',p',q',?_,?_⟩
  ·rw[aV t1,bf (aZ rfl a.ob aj e1)];rfl
  ·unfold Sr.start;rw[if_pos hs];exact k1
 ·rw[decide_eq_false hs] at t1;refine⟨S,p,q,?_,?_⟩
  ·rw[ay t1];rfl
  ·unfold Sr.start;rw[if_neg hs];exact GN.refl a
end
end Lw
namespace Lw
open PySem L2 DL
section
variable{G:Cs}{S S' S1 S2:List Cell}{n m p q p1 q1 p2 q2 p' q':Nat}{s s' s1 s2:Sr}{N:Nat}
theorem DG(l:List Nat)(k:Nat):(gX (Nb l) (.inl (k:Int))).isSome=decide (k∈l):=by
 induction l with
 |nil=>rfl
 |cons a r ih=>
  unfold Nb at ih ⊢;rw[List.map_cons];unfold gX at ih ⊢;rw[List.find?_cons];by_cases h:a=k
  ·subst h;simp
  ·have h2:decide ((Sum.inl (a:Int):Key)=Sum.inl (k:Int))=false:=decide_eq_false fun z=>h (by injection z with z;omega)
   simp only[h2];rw[ih];simp[Ne.symm h]
theorem uh{m w:Nat}(hw:0<w)(S:List Cell):dU [.int (m:Int),.int (w:Int)] S=.ok (.int ((m % (2 * w):Nat):Int)) S:=by
 have h1:(0:Int)<2 * (w:Int):=by omega
 simp[dU,mL,da h1]
theorem yR(a:FH G S n m p q s)(hw:0<s.w){i:Nat}(hi:i<s.ps.length):cY G [.ob n,.int (i:Int)] S=.ok (k_ (s.dataOf i)) S:=by
 show fin S (fw G [some (.ob n),some (.int (i:Int))] S)=_;unfold fw;have hx:s.ps[i]?=some (s.ps.getD i (0,[])):=by simp[List.getD,hi]
 have e1:t_ (.ob p) (.int (i:Int)) S=.ok (FL (s.ps.getD i (0,[]))) S:=ke a.ps (by rw[List.getElem?_map,hx];rfl);rw[aR (bM (ag rfl (ag (zX a _) (ag (ax (ag rfl (ag (zY a _) aj)) (uh hw S)) (ag (ar (px a _) rfl e1) aj)))) (by simp))];rfl
theorem AZ{lo hi:Nat}(h:hi<=1000000)(S:List Cell):u9 (.int (lo:Int)) (.int (hi:Int)) S=.ok ⟨gW (lo:Int) 1 (hi-lo),none⟩ S\/hi<lo:=by
 by_cases hl:hi<lo
 ·exact .inr hl
 ·refine .inl ?_;show uM (lo:Int) (hi:Int) 1 S=_;have hs:Builtin.Range.small (lo:Int) (hi:Int) 1=true:=small_one (by omega) (by omega) (by omega) (by omega);unfold uM;have e:(if (lo:Int)<(hi:Int) then (hi:Int)-(lo:Int) else 0).toNat=hi-lo:=by split<;>omega
  rw[bW ⟨⟨by omega,by omega⟩,hs⟩,rangeSize_one,e]
theorem xT(a:FH G S n m p q s)(hN:s.ps.length<=1000000)(hb:s.base<=s.ps.length):dw G [.ob n] S=.ok (.ob S.length) (S++[.lst (s.wanted.map fun(i:Nat)=>.int (i:Int))]):=by
 show fin S (fQ G [some (.ob n),none] S)=_;unfold fQ;have e1:am xY (ac (f_ bL (aB G.c_ a_ 7 (aa 0)) (aB G.c_ a_ 0 (aa 0))) (ac (am bw (ac (aB G.c_ a_ 6 (aa 0)) ai)) ai)) [some (.ob n),none] S=.ok (.int ((min (s.base+s.w) s.ps.length:Nat):Int)) S:=by
  refine ax (ag (ar (kZ a _) (zY a _) (cx _ _)) (ag (ax (ag (px a _) aj) (kE a.ps)) aj)) ?_;rw[Cg,List.length_map];congr 2;omega
 rw[aw (bF e1)];show fin S (bG _ [some (.ob n),some (.int ((min (s.base+s.w) s.ps.length:Nat):Int))] S)=_;obtain⟨hi,Ut⟩:∃hi,min (s.base+s.w) s.ps.length=hi:=⟨_,rfl⟩;have Q0:s.base<=hi:=by omega
 have q1:=iQ (f:=xF (aB G.c_ a_ 7 (aa 0)) (aa 1)) (tg:=gN 0) (ti:=al (f_ eY (aa 0) (aB G.c_ a_ 8 (aa 1)))) (fe:=aa 0) (own:=1) (caps:=[0])
  (r:=[some (.ob n),some (.int (hi:Int))]) (S:=S) (S1:=S) (w:=⟨gW (s.base:Int) 1 (hi-s.base),none⟩) (fun x=>match x with
   |.int k=>decide (k.toNat∉s.E_)
   |_=>false) id (by
   show((aB G.c_ a_ 7 (aa 0) [some (.ob n),some (.int (hi:Int))]).bind fun x=>(aa 1 [some (.ob n),some (.int (hi:Int))]).bind fun y=>u9 x y) S=_;rw[av,kZ a];show u9 (.int (s.base:Int)) (.int (hi:Int)) S=_;rcases AZ (lo:=s.base) (hi:=hi) (by omega) S with h|h
   ·exact h
   ·omega) trivial (by simp[gW];omega) (by
   intro x hx;simp only[gW,List.mem_map,List.mem_range] at hx;obtain⟨k,_,rfl⟩:=hx;have hk:(s.base:Int)+(k:Int) * 1=((s.base+k:Nat):Int):=by omega
   rw[hk];refine⟨_,rfl,fun zs=>?_,fun _ zs=>rfl⟩;have ap:=a.push [.lst zs];have g2:aB G.c_ a_ 8 (aa 1) [some (.int ((s.base+k:Nat):Int)),some (.ob n)] (S++[.lst zs])=.ok (.ob q) (S++[.lst zs]):=bX rfl ap.ob rfl;show al _ [some (.int ((s.base+k:Nat):Int)),some (.ob n)] (S++[.lst zs])=_;refine az (ar rfl g2 ?_);simp only[eY,hZ,eR ap.nt,DG,Int.toNat_natCast];simp)
 have hw:((gW (s.base:Int) 1 (hi-s.base)).filter (fun x=>match x with
   |.int k=>decide (k.toNat∉s.E_)
   |_=>false)).map id=s.wanted.map fun(i:Nat)=>.int (i:Int):=by
  unfold gW Sr.wanted;rw[Ut,List.map_id,List.range'_eq_map_range,List.filter_map,List.filter_map,List.map_map];have:((fun x:D=>match x with
   |.int k=>decide (k.toNat∉s.E_)
   |_=>false) ∘ fun(i:Nat)=>D.int ((s.base:Int)+(i:Int) * 1))=((fun i=>decide (i∉s.E_)) ∘ fun x=>s.base+x):=by
   funext i;have hk:((s.base:Int)+(i:Int) * 1).toNat=s.base+i:=by omega
   simp only[Function.comp_def,hk]
  rw[this];refine List.map_congr_left fun i _=>?_
  simp only[Function.comp_def];congr 1;omega
 rw[hw] at q1;rw[Ut,aR q1];rfl
theorem Bn(a:FH G S n m p q s)(hw:0<s.w)(hN:s.ps.length<=1000000)(hb:s.st=.opened->s.base<=s.ps.length):∃S' l,fW G [.ob n] S=.ok (.ob l) S'/\GN G n m p q S p q S' s/\S'[l]?=some (.lst (s.tick.map k_))/\S.length<=l:=by
 show ∃S' l,fin S (iJ G [some (.ob n)] S)=_/\_;unfold iJ;have t1:al (f_ Fo (aB G.c_ a_ 5 (aa 0)) (dC (.str "opening"))) [some (.ob n)] S=.ok (decide (s.st=.opening)) S:=az (ar (rP a _) rfl (vL s.st .opening _));have t2:al (f_ Fo (aB G.c_ a_ 5 (aa 0)) (dC (.str "open"))) [some (.ob n)] S=.ok (decide (s.st=.opened)) S:=az (ar (rP a _) rfl (vL s.st .opened _));cases hs:s.st with
 |opening=>
  rw[hs] at t1;have e1:s.tick=[.x_ s.op]:=by unfold Sr.tick;rw[hs]
  rw[cZ (by rw[aV t1];exact aR (bY (ag (bM (ag rfl (ag (zX a _) aj)) (by simp)) aj) (by simp))),e1];exact⟨_,_,rfl,(GN.refl a).push _,aS rfl,Nat.le_refl _⟩
 |GJ=>
  rw[hs] at t1 t2;have e1:s.tick=[]:=by unfold Sr.tick;rw[hs]
  rw[aw (by rw[ay t1];rfl),aw (by rw[ay t2];rfl),aR (bY aj (by decide)),e1];exact⟨_,_,rfl,(GN.refl a).push _,aS rfl,Nat.le_refl _⟩
 |opened=>
  rw[hs] at t1 t2;have e1:s.tick=s.wanted.map s.dataOf:=by unfold Sr.tick;rw[hs]
  obtain⟨S1,Lu⟩:∃S1,S++[Cell.lst (s.wanted.map fun(i:Nat)=>.int (i:Int))]=S1:=⟨_,rfl⟩;have w1:=xT a hN (hb hs);rw[Lu] at w1;have k1:S1[S.length]?=some (.lst (s.wanted.map fun(i:Nat)=>.int (i:Int))):=by rw[<-Lu];exact aS rfl
  have a1:FH G S1 n m p q s:=by rw[<-Lu];exact a.push _
  have wl:s.wanted.length<=1000000:=by
   unfold Sr.wanted;refine Nat.le_trans (List.length_filter_le _ _) ?_;rw[List.length_range'];omega
  have q1:=iQ (f:=HM (bc G.c_ a_ (dw G) (aa 0) ai)) (tg:=gN 0) (ti:=gy) (fe:=bc G.c_ a_ (cY G) (aa 1) (ac (aa 0) ai)) (own:=1) (caps:=[0])
   (r:=[some (.ob n)]) (S:=S) (S1:=S1) (w:=⟨s.wanted.map fun(i:Nat)=>.int (i:Int),some (S.length,s.wanted.map fun(i:Nat)=>.int (i:Int))⟩) (fun _=>true) (fun x=>match x with
    |.int k=>k_ (s.dataOf k.toNat)
    |_=>.D_) (by
    rw[lF,av,aZ rfl a.ob aj w1];simp only[kG,k1]) k1 (by rw[List.length_map];exact wl) (by
    intro x hx;obtain⟨i,hi,rfl⟩:=List.mem_map.mp hx;refine⟨_,rfl,fun _=>rfl,fun _ zs=>?_⟩;have ap:=a1.push [.lst zs];have Zd:i<s.ps.length:=by
     unfold Sr.wanted at hi;have:=(List.mem_range'_1.mp (List.mem_filter.mp hi).1).2;have:=hb hs;omega
    show bc _ _ _ _ _ [some (.int (i:Int)),some (.ob n)] (S1++[.lst zs])=_;refine aZ rfl ap.ob (ag rfl aj) ?_;rw[yR ap hw Zd];dsimp only;rw[Int.toNat_natCast])
  have hm:((s.wanted.map fun(i:Nat)=>D.int (i:Int)).filter fun _=>true).map (fun x=>match x with
    |.int k=>k_ (s.dataOf k.toNat)
    |_=>.D_)=(s.wanted.map s.dataOf).map k_:=by
   rw[List.filter_eq_self.mpr (by simp),List.map_map,List.map_map];refine List.map_congr_left fun i _=>?_
   simp only[Function.comp_def,Int.toNat_natCast]
  dsimp only at q1;rw[hm] at q1;rw[aw (by rw[ay t1];rfl),cZ (by rw[aV t2];exact aR q1),e1];refine⟨_,_,rfl,⟨a1.push _,?_,.inl rfl,.inl rfl⟩,aS rfl,?_⟩
  ·rw[<-Lu];exact Fr.push.tr Fr.push
  ·rw[<-Lu];simp
end
end Lw
namespace Lw
open PySem L2 DL
section
variable{G:Cs}{S S' S1 S2:List Cell}{n m p q p1 q1 p2 q2 p' q':Nat}{s s' s1 s2:Sr}{N:Nat}
theorem zh{xs:List D}{i j:Nat}(h1:i<=j)(h2:j<=xs.length):fJ xs (some (i:Int)) (some (j:Int))=(xs.take j).drop i:=by
 unfold fJ;rw[HT.Hz,HT.Hz,Nat.min_eq_left (show i<=xs.length by omega),Nat.min_eq_left h2,List.drop_take]
theorem yf{ps:List Pc}(h:∀x,x∈ps->x.1=0\/x.1=1):(ps.map (·.1)).sum=(FC ps:Int):=by
 induction ps with
 |nil=>rfl
 |cons a r ih=>
  have h1:=h a (by simp);have h2:=ih fun x hx=>h x (List.mem_cons_of_mem _ hx)
  have e:FC (a :: r)=(if a.1=1 then 1 else 0)+FC r:=by
   unfold FC;rw[List.filter_cons];rcases h1 with h1|h1
   ·simp[h1]
   ·simp[h1];omega
  rw[List.map_cons,List.sum_cons,h2,e];rcases h1 with h1|h1
  ·rw[h1];simp
  ·rw[h1];simp
theorem Bi(a:FH G S n m p q s)(b:Sb N s)(hN:N<=20000){i:Nat}(h1:s.base<=i)(h2:i<=s.ps.length):∃S',dq G [.ob n,.int (i:Int)] S=.ok .D_ S'/\GN G n m p q S p q S' (s.Hw i):=by
 show ∃S',fin S (d9 G [some (.ob n),some (.int (i:Int))] S)=_/\_;unfold d9;have LB:=b.pl;obtain⟨qs,Sm⟩:∃qs,(s.ps.take i).drop s.base=qs:=⟨_,rfl⟩;have Ze:qs.length<=1000000:=by rw[<-Sm,List.length_drop,List.length_take];omega
 have Zf:∀x,x∈qs->x.1=0\/x.1=1:=fun x hx=>b.fg x (by rw[<-Sm] at hx;exact List.mem_of_mem_take (List.mem_of_mem_drop hx))
 have w1:HM (HP Hh (aB G.c_ a_ 6 (aa 0)) (bP (aB G.c_ a_ 7 (aa 0))) (bP (aa 1))) [some (.ob n),some (.int (i:Int))] S=.ok ⟨qs.map FL,some (S.length,qs.map FL)⟩ (S++[.lst (qs.map FL)]):=by
  have:HP Hh (aB G.c_ a_ 6 (aa 0)) (bP (aB G.c_ a_ 7 (aa 0))) (bP (aa 1)) [some (.ob n),some (.int (i:Int))] S=.ok (.ob S.length) (S++[.lst (qs.map FL)]):=by
   rw[lE,av,px a];dsimp only;rw[av,eZ,av,kZ a];simp only[gc,kD,av,eZ,kg,List.getElem?_cons_succ,List.getElem?_cons_zero,Hh,bS a.ps];rw[zh h1 (by rw[List.length_map];exact h2),<-List.map_take,<-List.map_drop,Sm]
  rw[lF,av,this];simp only[kG,bE]
 have q1:=iQ (f:=HM (HP Hh (aB G.c_ a_ 6 (aa 0)) (bP (aB G.c_ a_ 7 (aa 0))) (bP (aa 1)))) (tg:=gN 0) (ti:=gy) (fe:=f_ t_ (aa 0) (dC (.int 0))) (own:=1) (caps:=[]) (r:=[some (.ob n),some (.int (i:Int))]) (S:=S)
  (S1:=S++[.lst (qs.map FL)]) (w:=⟨qs.map FL,some (S.length,qs.map FL)⟩) (fun _=>true) (fun x=>match x with
   |.tup (y :: _)=>y
   |_=>.D_) w1 (aS rfl) (by rw[List.length_map];exact Ze) (by
   intro x hx;obtain⟨y,_,rfl⟩:=List.mem_map.mp hx;exact⟨_,rfl,fun _=>rfl,fun _ zs=>ar rfl rfl rfl⟩)
 have hm:((qs.map FL).filter fun _=>true).map (fun x=>match x with
   |.tup (y :: _)=>y
   |_=>.D_)=(qs.map (·.1)).map D.int:=by
  rw[List.filter_eq_self.mpr (by simp),List.map_map,List.map_map];rfl
 dsimp only at q1;rw[hm] at q1;have e1:am nz (ac (dH (HM (HP Hh (aB G.c_ a_ 6 (aa 0)) (bP (aB G.c_ a_ 7 (aa 0))) (bP (aa 1)))) (gN 0) gy (f_ t_ (aa 0) (dC (.int 0))) 1 []) ai) [some (.ob n),some (.int (i:Int))] S=.ok (.int (FC qs:Int)) ((S++[.lst (qs.map FL)])++[.lst ((qs.map (·.1)).map D.int)]):=by
  refine ax (ag q1 aj) ?_;simp only[nz,fM,bS bE,gx];rw[yf Zf]
 obtain⟨S2,OC⟩:∃S2,(S++[Cell.lst (qs.map FL)])++[Cell.lst ((qs.map (·.1)).map D.int)]=S2:=⟨_,rfl⟩;have a2:FH G S2 n m p q s:=by rw[<-OC];exact(a.push _).push _
 have f2:Fr [n,m,p,q] S S2:=by rw[<-OC];exact Fr.push.tr Fr.push
 rw[OC] at e1;have q3:=xl (fo:=aa 0) (r:=[some (.ob n),some (.int (i:Int))]) (i:=3) rfl a.ob rfl e1 a2.ob;have c3:=Ch.set (c:=.ins G.c_ a_ [.int (s.w:Int),.int (s.most:Int),.ob m,.int ((s.sure:Int)+(FC qs:Int)),.int (s.op:Int),.str (Pk s.st),.ob p,.int (s.base:Int),.ob q]) a2.ob;obtain⟨S3,M0⟩:∃S3,S2.set n (.ins G.c_ a_ [.int (s.w:Int),.int (s.most:Int),.ob m,.int ((s.sure:Int)+(FC qs:Int)),.int (s.op:Int),.str (Pk s.st),.ob p,.int (s.base:Int),.ob q])=S3:=⟨_,rfl⟩;have Uu:oq G.c_ a_ 3 (aa 0) (am nz (ac (dH (HM (HP Hh (aB G.c_ a_ 6 (aa 0)) (bP (aB G.c_ a_ 7 (aa 0))) (bP (aa 1)))) (gN 0) gy (f_ t_ (aa 0) (dC (.int 0))) 1 []) ai)) [some (.ob n),some (.int (i:Int))] S=some (.nx [some (.ob n),some (.int (i:Int))],S3):=by
  rw[q3,<-M0];rfl
 rw[M0] at c3;obtain⟨S4,q4,c4⟩:=gF (fo:=aa 0) (fe:=aa 1) (r:=[some (.ob n),some (.int (i:Int))]) (i:=7) rfl rfl c3.at_ rfl;rw[aw Uu,q4];have Uv:(s.sure:Int)+(FC qs:Int)=((s.sure+FC qs:Nat):Int):=by omega
 refine⟨S4,rfl,⟨?_,c4.old (c3.old a2.ms a.nm) a.nm,c4.old (c3.old a2.ps a.np) a.np,c4.old (c3.old a2.nt a.nq) a.nq,a.mp⟩,(f2.tr (c3.fp (by simp))).tr (c4.fp (by simp)),.inl rfl,.inl rfl⟩;have:=c4.at_;rw[Uv] at this;unfold Sr.Hw;rw[Sm];exact this
theorem DF{l:List Nat}(k:Nat):q7 (Nb l) (.inl (k:Int)) (.bl true)=Nb (if k∈l then l else l++[k]):=by
 have Uw:((Nb l).any fun kv=>decide (kv.1=(Sum.inl (k:Int):Key)))=decide (k∈l):=by
  induction l with
  |nil=>rfl
  |cons a r ih=>
   unfold Nb at ih ⊢;rw[List.map_cons,List.any_cons,ih];by_cases h:a=k
   ·subst h;simp
   ·have h2:decide ((Sum.inl (a:Int):Key)=Sum.inl (k:Int))=false:=decide_eq_false fun z=>h (by injection z with z;omega)
    rw[h2];simp[Ne.symm h]
 unfold q7;rw[Uw];by_cases h:k∈l
 ·rw[if_pos (decide_eq_true h),if_pos h];unfold Nb;rw[List.map_map];refine List.map_congr_left fun a _=>?_
  simp only[Function.comp_def];split<;>rfl
 ·rw[if_neg (by simp[h]),if_neg h];simp[Nb]
theorem pX:∀(bs:List Int) (s:Sr) (k:Nat) (b:Int),s.Fu k (bs++[b])=(s.Fu k bs).Fu (k+bs.length) [b]
 |[],s,k,b=>rfl
 |c :: bs,s,k,b=>by
  rw[List.cons_append];unfold Sr.Fu;rw[pX bs _ (k+1) b,List.length_cons,show k+1+bs.length=k+(bs.length+1) by omega];rfl
theorem dn:∀(bs:List Int) (s:Sr) (k:Nat),(s.Fu k bs).w=s.w/\(s.Fu k bs).most=s.most/\(s.Fu k bs).msgs=s.msgs/\(s.Fu k bs).sure=s.sure/\(s.Fu k bs).op=s.op/\(s.Fu k bs).st=s.st/\(s.Fu k bs).ps=s.ps/\(s.Fu k bs).base=s.base/\(s.Fu k bs).E_.length<=s.E_.length+bs.length
 |[],s,k=>⟨rfl,rfl,rfl,rfl,rfl,rfl,rfl,rfl,by simp[Sr.Fu]⟩
 |b :: bs,s,k=>by
  unfold Sr.Fu;split
  ·obtain⟨h1,h2,h3,h4,h5,h6,h7,h8,h9⟩:=dn bs { s with E_:=s.E_++[s.base+k] } (k+1);refine⟨h1,h2,h3,h4,h5,h6,h7,h8,?_⟩;rw[List.length_append,List.length_singleton] at h9;rw[List.length_cons];omega
  ·obtain⟨h1,h2,h3,h4,h5,h6,h7,h8,h9⟩:=dn bs s (k+1);refine⟨h1,h2,h3,h4,h5,h6,h7,h8,?_⟩;rw[List.length_cons];omega
theorem yX(a:FH G S n m p q s)(hz:s.E_.length<=500000){bs:List Int}(hb:bs.length<=1000):∃S',cU G [.ob n,.tup (bs.map D.int)] S=.ok .D_ S'/\GN G n m p q S p q S' (s.Fu 0 bs):=by
 show ∃S',fin S (dD G [some (.ob n),some (.tup (bs.map D.int)),none,none] S)=_/\_;unfold dD;have w1:wU 0 (aa 1) [some (.ob n),some (.tup (bs.map D.int)),none,none] S=.ok ⟨iV 0 (bs.map D.int),none⟩ S:=rfl;have OD:∀{i:Nat}{y:D},(iV 0 (bs.map D.int))[i]?=some y->∃b,bs[i]?=some b/\y=.tup [.int (i:Int),.int b]:=by
  intro i y h;unfold iV at h;rw[List.getElem?_map,List.getElem?_zipIdx,List.getElem?_map] at h;cases e:bs[i]? with
  |none=>rw[e] at h;simp at h
  |some b=>
   rw[e] at h;simp at h;exact⟨b,rfl,h.symm⟩
 obtain⟨r',S',e,x2,x3,rfl,a',f'⟩:=dO (g:=none) (tg:=gT [2,3]) (b:=cy G)
  (fun i r S'=>∃x2 x3,r=[some (.ob n),some (.tup (bs.map D.int)),x2,x3]/\FH G S' n m p q (s.Fu 0 (bs.take i))/\Fr [n,m,p,q] S S') (iV 0 (bs.map D.int)) 0 [some (.ob n),some (.tup (bs.map D.int)),none,none] S
  (by
   rintro i y r S' hy ⟨x2,x3,rfl,a',f'⟩;obtain⟨b,Sn,rfl⟩:=OD hy;rw[Nat.zero_add] at a' ⊢;have PD:=(List.getElem?_eq_some_iff.mp Sn).1;obtain⟨s',Nm⟩:∃s',s.Fu 0 (bs.take i)=s':=⟨_,rfl⟩;have Rt:s.Fu 0 (bs.take (i+1))=s'.Fu i [b]:=by
    rw[List.take_add_one,Sn,Option.toList_some,pX,Nm,List.length_take,Nat.min_eq_left (by omega),Nat.zero_add]
   have W0:=dn (bs.take i) s 0;rw[Nm] at W0 a';rw[Rt];obtain⟨_,_,_,_,_,_,g7,g8,g9⟩:=W0;rw[List.length_take] at g9;refine⟨[some (.ob n),some (.tup (bs.map D.int)),some (.int (i:Int)),some (.int b)],[some (.ob n),some (.tup (bs.map D.int)),some (.int (i:Int)),some (.int b)],?_⟩;have t1:al (f_ Fo (aa 3) (dC (.int 1))) [some (.ob n),some (.tup (bs.map D.int)),some (.int (i:Int)),some (.int b)] S'=.ok (decide (b=1)) S':=az (ar rfl rfl (jy _ _));have k1:f_ bL (aB G.c_ a_ 7 (aa 0)) (aa 2) [some (.ob n),some (.tup (bs.map D.int)),some (.int (i:Int)),some (.int b)] S'=.ok (.int ((s'.base+i:Nat):Int)) S':=by
    refine ar (kZ a' _) rfl ?_;rw[cx];congr 2
   have t2:al (f_ HQ (f_ bL (aB G.c_ a_ 7 (aa 0)) (aa 2)) (am bw (ac (aB G.c_ a_ 6 (aa 0)) ai))) [some (.ob n),some (.tup (bs.map D.int)),some (.int (i:Int)),some (.int b)] S'=.ok (decide (s'.base+i<s'.ps.length)) S':=by
    refine az (ar k1 (ax (ag (px a' _) aj) (kE a'.ps)) ?_);rw[qN,List.length_map];congr 2;rw[decide_eq_decide];omega
   by_cases hc:b=1/\s'.base+i<s'.ps.length
   ·have tt:cX (al (f_ Fo (aa 3) (dC (.int 1)))) (al (f_ HQ (f_ bL (aB G.c_ a_ 7 (aa 0)) (aa 2)) (am bw (ac (aB G.c_ a_ 6 (aa 0)) ai)))) [some (.ob n),some (.tup (bs.map D.int)),some (.int (i:Int)),some (.int b)] S'=.ok true S':=by
     rw[cL,av,t1,decide_eq_true hc.1];show al _ _ S'=_;rw[t2,decide_eq_true hc.2]
    have hp:pi (.ob q) (.int ((s'.base+i:Nat):Int)) (.bl true) S'=some (S'.set q (.GW (Nb (if s'.base+i∈s'.E_ then s'.E_ else s'.E_++[s'.base+i])))):=by
     simp only[pi,hZ,eR a'.nt,DF];exact bW (Nr (by unfold Nb;rw[List.length_map];omega))
    have hn:s'.Fu i [b] = { s' with E_:=if s'.base+i∈s'.E_ then s'.E_ else s'.E_++[s'.base+i] }:=by
     unfold Sr.Fu;by_cases hm:s'.base+i∈s'.E_
     ·rw[if_neg (by simp[hm]),if_pos hm];rfl
     ·rw[if_pos ⟨hc.1,hc.2,hm⟩,if_neg hm];rfl
    refine⟨S'.set q (.GW (Nb (if s'.base+i∈s'.E_ then s'.E_ else s'.E_++[s'.base+i]))),rfl,?_,trivial,_,_,rfl,?_,f'.tr (Fr.set (by simp))⟩
    ·unfold cy;rw[aV tt,tp (d:=.bl true) rfl (DY a' _) k1 hp]
    ·rw[hn];exact⟨cG a'.ob a.nq.symm,cG a'.ms a.mq.symm,cG a'.ps a.pq.symm,dy a'.nt,a.mp⟩
   ·have tt:cX (al (f_ Fo (aa 3) (dC (.int 1)))) (al (f_ HQ (f_ bL (aB G.c_ a_ 7 (aa 0)) (aa 2)) (am bw (ac (aB G.c_ a_ 6 (aa 0)) ai)))) [some (.ob n),some (.tup (bs.map D.int)),some (.int (i:Int)),some (.int b)] S'=.ok false S':=by
     rw[cL,av,t1];by_cases P6:b=1
     ·rw[decide_eq_true P6];show al _ _ S'=_;rw[t2,decide_eq_false fun z=>hc ⟨P6,z⟩]
     ·rw[decide_eq_false P6];rfl
    have hn:s'.Fu i [b]=s':=by
     unfold Sr.Fu;rw[if_neg fun z=>hc ⟨z.1,z.2.1⟩];rfl
    refine⟨S',rfl,?_,trivial,_,_,rfl,?_,f'⟩
    ·unfold cy;rw[ay tt];rfl
    ·rw[hn];exact a')
  ⟨none,none,rfl,by rw[List.take_zero];exact a,Fr.refl _ _⟩
 have hlen:(iV 0 (bs.map D.int)).length=bs.length:=by simp[iV]
 rw[hlen,Nat.zero_add,List.take_length] at a';rw[lR w1,e];exact⟨S',rfl,a',f',.inl rfl,.inl rfl⟩
end
end Lw
namespace Lw
open PySem L2 DL
section
variable{G:Cs}{S S' S1 S2:List Cell}{n m p q p1 q1 p2 q2 p' q':Nat}{s s' s1 s2:Sr}{N:Nat}
theorem wO(m w:Nat)(S:List Cell):b9 [.int (m:Int),.int (w:Int)] S=.ok (.bl (decide (m<2 * w))) S:=by
 have h1:decide ((0:Int)<=(m:Int))=true:=decide_eq_true (by omega);have h2:decide ((m:Int)<2 * (w:Int))=decide (m<2 * w):=by rw[decide_eq_decide];omega
 simp[b9,jf,h1,h2]
theorem yj{n l:Int}{w:Nat}(hw:0<w)(S:List Cell):cq [.int n,.int l,.int (w:Int)] S=.ok (.int (jd n l w)) S:=by
 simp[cq,iY,da (show(0:Int)<2 * (w:Int) by omega),jd]
theorem sZ(n l:Int){w:Nat}(hw:0<w):l<=jd n l w:=by
 unfold jd;have:=Int.emod_nonneg (n-l) (show(2 * (w:Int))≠0 by omega);omega
theorem sQ(a:FH G S n m p q s)(b:Sb N s)(hN:N<=20000)(hw:0<s.w){num:Nat}{bs:List Int}(hb:bs.length<=1000) :
  ∃S',cf G [.ob n,.int (num:Int),.tup (bs.map D.int)] S=.ok .D_ S'/\GN G n m p q S p q S' (s.C_ num bs):=by
 show ∃S',fin S (dM G [some (.ob n),some (.int (num:Int)),some (.tup (bs.map D.int)),none] S)=_/\_;unfold dM;have t1:bR (am b9 (ac (aa 1) (ac (aB G.c_ a_ 0 (aa 0)) ai))) [some (.ob n),some (.int (num:Int)),some (.tup (bs.map D.int)),none] S=.ok (decide (num<2 * s.w)) S:=by
  rw[cO,av,ax (ag rfl (ag (zY a _) aj)) (wO num s.w S)];rfl
 by_cases c1:num<2 * s.w
 ·rw[decide_eq_true c1] at t1;obtain⟨i,hi⟩:∃i:Nat,jd num s.base s.w=(i:Int):=⟨(jd num s.base s.w).toNat,by have:=sZ num s.base hw;omega⟩;have Ru:s.base<=i:=by have:=sZ num s.base hw;omega
  rw[aV t1,aw (bF (ax (ag rfl (ag (kZ a _) (ag (zY a _) aj))) (yj hw S)))];rw[hi];show ∃S',fin S (Ga _ _ _ [some (.ob n),some (.int (num:Int)),some (.tup (bs.map D.int)),some (.int (i:Int))] S)=_/\_;have e1:am xY (ac (f_ bL (aB G.c_ a_ 7 (aa 0)) (aB G.c_ a_ 0 (aa 0))) (ac (am bw (ac (aB G.c_ a_ 6 (aa 0)) ai)) ai)) [some (.ob n),some (.int (num:Int)),some (.tup (bs.map D.int)),some (.int (i:Int))] S=.ok (.int ((min (s.base+s.w) s.ps.length:Nat):Int)) S:=by
   refine ax (ag (ar (kZ a _) (zY a _) (cx _ _)) (ag (ax (ag (px a _) aj) (kE a.ps)) aj)) ?_;rw[Cg,List.length_map];congr 2;omega
  have t2:al (f_ JY (aa 3) (am xY (ac (f_ bL (aB G.c_ a_ 7 (aa 0)) (aB G.c_ a_ 0 (aa 0))) (ac (am bw (ac (aB G.c_ a_ 6 (aa 0)) ai)) ai)))) [some (.ob n),some (.int (num:Int)),some (.tup (bs.map D.int)),some (.int (i:Int))] S=.ok (decide (i<=min (s.base+s.w) s.ps.length)) S:=by
   refine az (ar rfl e1 ?_);rw[vF];congr 2;rw[decide_eq_decide];omega
  by_cases c2:i<=min (s.base+s.w) s.ps.length
  ·rw[decide_eq_true c2] at t2;have he:s.C_ num bs=(s.Hw i).Fu 0 bs:=by
    unfold Sr.C_;rw[if_pos ⟨c1,by rw[hi];omega⟩,hi];rfl
   obtain⟨S1,q1,k1⟩:=Bi a b hN Ru (by omega);obtain⟨S2,q2,k2⟩:=yX (bs:=bs) k1.at_ (by have:=b.nl;show s.E_.length<=_;omega) hb;rw[aV t2,aw (bf (aZ rfl a.ob (ag rfl aj) q1)),bf (aZ rfl k1.at_.ob (ag rfl aj) q2),he];exact⟨S2,rfl,k1.trans k2⟩
  ·rw[decide_eq_false c2] at t2;have he:s.C_ num bs=s:=by
    unfold Sr.C_;rw[if_neg (by rw[hi];omega)]
   rw[ay t2,he];exact⟨S,rfl,GN.refl a⟩
 ·rw[decide_eq_false c1] at t1;have he:s.C_ num bs=s:=by
   unfold Sr.C_;rw[if_neg (fun z=>c1 z.1)]
  rw[ay t1,he];exact⟨S,rfl,GN.refl a⟩
def v_.Jo:v_->Nat
 |.x_ o=>o
 |.tB o=>o
 |.GU o=>o
 |.data o _ _=>o
 |.note o _ _=>o
def v_.knd:v_->Str
 |.x_ _=>"hello"
 |.tB _=>"welcome"
 |.GU _=>"who"
 |.data _ _ _=>"data"
 |.note _ _ _=>"note"
def Ml:v_->Prop
 |.note _ _ bs=>bs.length<=7
 |_=>True
theorem zy(c:v_)(S:List Cell):t_ (k_ c) (.int 0) S=.ok (.str c.knd) S:=by cases c<;>rfl
def W2:v_->Bool
 |.tB _=>true
 |_=>false
def isQ:v_->Bool
 |.GU _=>true
 |_=>false
def W3:v_->Bool
 |.note _ _ _=>true
 |_=>false
theorem kW(c:v_)(S:List Cell):Fo (.str c.knd) (.str "welcome") S=.ok (.bl (W2 c)) S:=by cases c<;>simp only[v_.knd,W2]<;>exact bg
theorem kQ(c:v_)(S:List Cell):Fo (.str c.knd) (.str "who") S=.ok (.bl (isQ c)) S:=by cases c<;>simp only[v_.knd,isQ]<;>exact bg
theorem kN(c:v_)(S:List Cell):Fo (.str c.knd) (.str "note") S=.ok (.bl (W3 c)) S:=by cases c<;>simp only[v_.knd,W3]<;>exact bg
theorem z9(c:v_)(S:List Cell):t_ (k_ c) (.int 1) S=.ok (.int (c.Jo:Int)) S:=by cases c<;>rfl
theorem Cu(a:FH G S n m p q s)(b:Sb N s)(hN:N<=20000)(hw:0<s.w){c:v_}(hc:Ml c)(ho:c.Jo=s.op) :
  ∃S' p' q',dl G [.ob n,k_ c] S=.ok .D_ S'/\GN G n m p q S p' q' S' (s.l_ c):=by
 show ∃S' p' q',fin S (el G [some (.ob n),some (k_ c)] S)=_/\_;unfold el;have t1:al (f_ Fo (aB G.c_ a_ 5 (aa 0)) (dC (.str "opening"))) [some (.ob n),some (k_ c)] S=.ok (decide (s.st=.opening)) S:=az (ar (rP a _) rfl (vL s.st .opening _));have t2:al (f_ Fo (aB G.c_ a_ 5 (aa 0)) (dC (.str "open"))) [some (.ob n),some (k_ c)] S=.ok (decide (s.st=.opened)) S:=az (ar (rP a _) rfl (vL s.st .opened _));have k0:∀{k:Str}{y:Bool},Fo (.str c.knd) (.str k) S=.ok (.bl y) S->al (f_ Fo (f_ t_ (aa 1) (dC (.int 0))) (dC (.str k))) [some (.ob n),some (k_ c)] S=.ok y S:=fun h=>az (ar (ar rfl rfl (zy c S)) rfl h)
 have nothing:s.l_ c=s->Ga (cX (al (f_ Fo (f_ t_ (aa 1) (dC (.int 0))) (dC (.str "welcome")))) (al (f_ Fo (aB G.c_ a_ 5 (aa 0)) (dC (.str "opening"))))) (jZ G.c_ a_ 5 (aa 0) (dC (.str "open"))) (Ga (cX (al (f_ Fo (f_ t_ (aa 1) (dC (.int 0))) (dC (.str "who")))) (al (f_ Fo (aB G.c_ a_ 5 (aa 0)) (dC (.str "open"))))) (bB (bc G.c_ a_ (bJ G) (aa 0) ai)) (Ga (cX (al (f_ Fo (f_ t_ (aa 1) (dC (.int 0))) (dC (.str "note")))) (al (f_ Fo (aB G.c_ a_ 5 (aa 0)) (dC (.str "open"))))) (bB (bc G.c_ a_ (cf G) (aa 0) (ac (f_ t_ (aa 1) (dC (.int 2))) (ac (f_ t_ (aa 1) (dC (.int 3))) ai)))) bz)) [some (.ob n),some (k_ c)] S=some (.nx [some (.ob n),some (k_ c)],S)->
   ∃S' p' q',fin S (Ga (cX (al (f_ Fo (f_ t_ (aa 1) (dC (.int 0))) (dC (.str "welcome")))) (al (f_ Fo (aB G.c_ a_ 5 (aa 0)) (dC (.str "opening"))))) (jZ G.c_ a_ 5 (aa 0) (dC (.str "open"))) (Ga (cX (al (f_ Fo (f_ t_ (aa 1) (dC (.int 0))) (dC (.str "who")))) (al (f_ Fo (aB G.c_ a_ 5 (aa 0)) (dC (.str "open"))))) (bB (bc G.c_ a_ (bJ G) (aa 0) ai)) (Ga (cX (al (f_ Fo (f_ t_ (aa 1) (dC (.int 0))) (dC (.str "note")))) (al (f_ Fo (aB G.c_ a_ 5 (aa 0)) (dC (.str "open"))))) (bB (bc G.c_ a_ (cf G) (aa 0) (ac (f_ t_ (aa 1) (dC (.int 2))) (ac (f_ t_ (aa 1) (dC (.int 3))) ai)))) bz)) [some (.ob n),some (k_ c)] S)=.ok .D_ S'/\GN G n m p q S p' q' S' (s.l_ c):=by
  intro h1 h2;rw[h2,h1];exact⟨S,p,q,rfl,GN.refl a⟩
 have an:∀{f g:s_->M Bool}{y z:Bool},f [some (.ob n),some (k_ c)] S=.ok y S->g [some (.ob n),some (k_ c)] S=.ok z S->cX f g [some (.ob n),some (k_ c)] S=.ok (y && z) S:=by
  intro f g y z h1 h2;rw[cL,av,h1];cases y
  ·rfl
  ·show g _ S=_;rw[h2,Bool.true_and]
 cases c with
 |x_ o=>exact nothing rfl (by rw[ay (an (k0 (kW _ S)) t1),ay (an (k0 (kQ _ S)) t2),ay (an (k0 (kN _ S)) t2)];rfl)
 |data o i x=>exact nothing rfl (by rw[ay (an (k0 (kW _ S)) t1),ay (an (k0 (kQ _ S)) t2),ay (an (k0 (kN _ S)) t2)];rfl)
 |tB o=>
  have L5:o=s.op:=ho;by_cases hs:s.st=.opening
  ·rw[decide_eq_true hs] at t1;have he:s.l_ (.tB o) = { s with st:=.opened }:=by unfold Sr.l_;exact if_pos ⟨L5,hs⟩
   obtain⟨S1,q1,c1⟩:=gF (fo:=aa 0) (fe:=dC (.str "open")) (r:=[some (.ob n),some (k_ (.tB o))]) (i:=5) rfl rfl a.ob rfl;rw[aV (an (k0 (kW _ S)) t1),q1,he];exact⟨S1,p,q,rfl,⟨c1.at_,c1.old a.ms a.nm,c1.old a.ps a.np,c1.old a.nt a.nq,a.mp⟩,c1.fp (by simp),.inl rfl,.inl rfl⟩
  ·rw[decide_eq_false hs] at t1;exact nothing (by unfold Sr.l_;exact if_neg fun z=>hs z.2) (by rw[ay (an (k0 (kW _ S)) t1),ay (an (k0 (kQ _ S)) t2),ay (an (k0 (kN _ S)) t2)];rfl)
 |GU o=>
  have L5:o=s.op:=ho;by_cases hs:s.st=.opened
  ·rw[decide_eq_true hs] at t2;have he:s.l_ (.GU o)=s.anew:=by unfold Sr.l_;exact if_pos ⟨L5,hs⟩
   obtain⟨S1,p1,q1,e1,k1⟩:=xf a b hN;rw[ay (an (k0 (kW _ S)) t1),aV (an (k0 (kQ _ S)) t2),bf (aZ rfl a.ob aj e1),he];exact⟨S1,p1,q1,rfl,k1⟩
  ·rw[decide_eq_false hs] at t2;exact nothing (by unfold Sr.l_;exact if_neg fun z=>hs z.2) (by rw[ay (an (k0 (kW _ S)) t1),ay (an (k0 (kQ _ S)) t2),ay (an (k0 (kN _ S)) t2)];rfl)
 |note o i bs=>
  have L5:o=s.op:=ho;by_cases hs:s.st=.opened
  ·rw[decide_eq_true hs] at t2;have he:s.l_ (.note o i bs)=s.C_ i bs:=by unfold Sr.l_;exact if_pos ⟨L5,hs⟩
   have hb:bs.length<=7:=hc;obtain⟨S1,e1,k1⟩:=sQ (num:=i) (bs:=bs) a b hN hw (by omega);rw[ay (an (k0 (kW _ S)) t1),ay (an (k0 (kQ _ S)) t2),aV (an (k0 (kN _ S)) t2),bf (aZ rfl a.ob (ag (ar rfl rfl rfl) (ag (ar rfl rfl rfl) aj)) e1),he];exact⟨S1,p,q,rfl,k1⟩
  ·rw[decide_eq_false hs] at t2;exact nothing (by unfold Sr.l_;exact if_neg fun z=>hs z.2) (by rw[ay (an (k0 (kW _ S)) t1),ay (an (k0 (kQ _ S)) t2),ay (an (k0 (kN _ S)) t2)];rfl)
theorem vm{c:v_}(ho:c.Jo≠s.op):s.l_ c=s:=by
 cases c with
 |x_ o=>rfl
 |data o i x=>rfl
 |tB o=>unfold Sr.l_;exact if_neg fun z=>ho z.1
 |GU o=>unfold Sr.l_;exact if_neg fun z=>ho z.1
 |note o i bs=>unfold Sr.l_;exact if_neg fun z=>ho z.1
theorem Aw(a:FH G S n m p q s)(b:Sb N s)(hN:N<=20000)(hw:0<s.w){c:v_}(hc:Ml c) :
  ∃S' p' q' l,eT G [.ob n,k_ c] S=.ok (.ob l) S'/\GN G n m p q S p' q' S' (s.l_ c)/\S'[l]?=some (.lst [])/\S.length<=l:=by
 show ∃S' p' q' l,fin S (gK G [some (.ob n),some (k_ c)] S)=_/\_;unfold gK;have t1:al (f_ Fo (f_ t_ (aa 1) (dC (.int 1))) (aB G.c_ a_ 4 (aa 0))) [some (.ob n),some (k_ c)] S=.ok (decide (c.Jo=s.op)) S:=by
  refine az (ar (ar rfl rfl (z9 c S)) (zX a _) ?_);rw[jy];congr 2;rw[decide_eq_decide];omega
 by_cases ho:c.Jo=s.op
 ·rw[decide_eq_true ho] at t1;obtain⟨S1,p1,q1,e1,k1⟩:=Cu a b hN hw hc ho;rw[aw (by rw[aV t1];exact bf (aZ rfl a.ob (ag rfl aj) e1)),aR (bY aj (by decide))];exact⟨_,p1,q1,_,rfl,k1.push _,aS rfl,k1.fr.1⟩
 ·rw[decide_eq_false ho] at t1;rw[aw (by rw[ay t1];rfl),aR (bY aj (by decide)),vm ho];exact⟨_,p,q,_,rfl,(GN.refl a).push _,aS rfl,Nat.le_refl _⟩
theorem Sb.note{num:Nat}{bs:List Int}(b:Sb N s)(h:bs.length<=7):Sb (N+1) (s.C_ num bs):=by
 unfold Sr.C_;split
 ·obtain⟨h1,h2,h3,h4,h5,h6,h7,h8,h9⟩:=dn bs (s.Hw (jd num s.base s.w).toNat) 0;have hn:=b.nl;have hm:=b.ml;have hp:=b.pl;refine⟨by rw[h2];exact b.most,by rw[h3];show s.msgs.length<=_;omega,by rw[h3];exact b.NF,by rw[h7];show s.ps.length<=_;omega,by rw[h7];exact b.fg,?_⟩;have:(s.Hw (jd num s.base s.w).toNat).E_.length=s.E_.length:=rfl;omega
 ·exact b.mono (Nat.le_succ _)
theorem Sb.l_{c:v_}(b:Sb N s)(hc:Ml c):Sb (N+1) (s.l_ c):=by
 cases c with
 |x_ o=>exact b.mono (Nat.le_succ _)
 |data o i x=>exact b.mono (Nat.le_succ _)
 |tB o=>
  unfold Sr.l_;dsimp only;split
  ·exact⟨b.most,Nat.le_succ_of_le b.ml,b.NF,by have:=b.pl;show s.ps.length<=_;omega,b.fg,by have:=b.nl;show s.E_.length<=_;omega⟩
  ·exact b.mono (Nat.le_succ _)
 |GU o=>
  unfold Sr.l_;dsimp only;split
  ·exact b.anew.mono (Nat.le_succ _)
  ·exact b.mono (Nat.le_succ _)
 |note o i bs=>
  unfold Sr.l_;dsimp only;split
  ·exact b.note hc
  ·exact b.mono (Nat.le_succ _)
theorem Sb.Ge(b:Sb N s):Sb N s.Ge:=⟨b.most,b.ml,b.NF,b.pl,b.fg,b.nl⟩
theorem Sb.start(b:Sb N s):Sb N s.start:=by
 unfold Sr.start;split
 ·exact b.anew
 ·exact b
def Bl(s:Sr):Prop:=s.base<=s.ps.length
theorem Bl.hand(b:Bl s)(x:GL):Bl (s.hand x):=by
 unfold Bl Sr.hand at *;dsimp only;split
 ·exact b
 ·rw[List.length_append];omega
theorem Bl.anew:Bl s.anew:=Nat.zero_le _
theorem Bl.start(b:Bl s):Bl s.start:=by
 unfold Sr.start;split
 ·exact Bl.anew
 ·exact b
theorem Bl.l_(hw:0<s.w)(b:Bl s)(c:v_):Bl (s.l_ c):=by
 cases c with
 |x_ o=>exact b
 |data o i x=>exact b
 |tB o=>
  unfold Sr.l_;dsimp only;split<;>exact b
 |GU o=>
  unfold Sr.l_;dsimp only;split
  ·exact Bl.anew
  ·exact b
 |note o i bs=>
  unfold Sr.l_;dsimp only;split
  ·unfold Sr.C_;split
   ·rename_i h;obtain⟨h1,h2,h3,h4,h5,h6,h7,h8,h9⟩:=dn bs (s.Hw (jd i s.base s.w).toNat) 0;unfold Bl;rw[h7,h8];have:=sZ i s.base hw;show(jd i s.base s.w).toNat<=s.ps.length;omega
   ·exact b
  ·exact b
theorem AC(s:Sr)(c:v_):(s.l_ c).w=s.w:=by
 cases c with
 |x_ o=>rfl
 |data o i x=>rfl
 |tB o=>unfold Sr.l_;dsimp only;split<;>rfl
 |GU o=>unfold Sr.l_;dsimp only;split<;>rfl
 |note o i bs=>
  unfold Sr.l_;dsimp only;split
  ·unfold Sr.C_;split
   ·exact(dn bs (s.Hw (jd i s.base s.w).toNat) 0).1
   ·rfl
  ·rfl
theorem eE{f:Str}{C:Addr}{ns:List Str}{ds:List D}{d:D}{fo fe:s_->M D}{r:s_}(h1:fe r S=.ok d S1)(h2:fo r S1=.ok (.ob n) S1)(h3:S1[n]?=some (.ins C ns ds)):∃S2,cJ C ns f fo fe r S=some (.nx r,S2)/\Ch n (.ins C (ns++[f]) (ds++[d])) S1 S2:=
 ⟨_,jP h1 h2 h3,Ch.set h3⟩
theorem BF(w most:Nat)(S:List Cell):∃S' m p q,iI G.c_ (bZ G) [.int (w:Int),.int (most:Int)] S=.ok (.ob S.length) S'/\FH G S' S.length m p q (Sr.new w most)/\Fr [] S S'/\S.length<=m/\S.length<=p/\S.length<=q:=by
 obtain⟨n,hn⟩:∃n,n=S.length:=⟨_,rfl⟩;have s0:(S++[Cell.ins G.c_ [] []])[n]?=some (.ins G.c_ [] []):=aS hn;obtain⟨r,hr⟩:∃r:s_,r=[some (.ob n),some (.int (w:Int)),some (.int (most:Int))]:=⟨_,rfl⟩;have v0:∀S,aa 0 r S=.ok (.ob n) S:=fun S=>by rw[hr];rfl
 have v1:∀S,aa 1 r S=.ok (.int (w:Int)) S:=fun S=>by rw[hr];rfl
 have v2:∀S,aa 2 r S=.ok (.int (most:Int)) S:=fun S=>by rw[hr];rfl
 obtain⟨T1,e1,c1⟩:=eE (f:="window") (fo:=aa 0) (fe:=aa 1) (v1 _) (v0 _) s0;obtain⟨T2,e2,c2⟩:=eE (f:="most") (fo:=aa 0) (fe:=aa 2) (v2 _) (v0 _) c1.at_;obtain⟨T3,e3,c3⟩:=eE (f:="messages") (fo:=aa 0) (fe:=bV ai) (r:=r) (bY aj (by decide)) (v0 _) (aC (G:=[.lst []]) c2.at_);obtain⟨T4,e4,c4⟩:=eE (f:="sure") (fo:=aa 0) (fe:=dC (.int 0)) (r:=r) rfl (v0 _) c3.at_;obtain⟨T5,e5,c5⟩:=eE (f:="opening") (fo:=aa 0) (fe:=dC (.int 0)) (r:=r) rfl (v0 _) c4.at_;obtain⟨T6,e6,c6⟩:=eE (f:="state") (fo:=aa 0) (fe:=dC (.str "shut")) (r:=r) rfl (v0 _) c5.at_;obtain⟨T7,e7,c7⟩:=eE (f:="pieces") (fo:=aa 0) (fe:=bV ai) (r:=r) (bY aj (by decide)) (v0 _) (aC (G:=[.lst []]) c6.at_);obtain⟨T8,e8,c8⟩:=eE (f:="base") (fo:=aa 0) (fe:=dC (.int 0)) (r:=r) rfl (v0 _) c7.at_;obtain⟨T9,e9,c9⟩:=eE (f:="noted") (fo:=aa 0) (fe:=kj) (r:=r) rfl (v0 _) (aC (G:=[.GW []]) c8.at_);have l1:=c1.len;have l2:=c2.len;have l3:=c3.len;have l4:=c4.len;have l5:=c5.len;have l6:=c6.len;have l7:=c7.len;have l8:=c8.len;have l9:=c9.len;rw[List.length_append,List.length_singleton] at l1 l3 l7 l9;have m3:T3[T2.length]?=some (.lst []):=c3.old (aS rfl) (by omega);have m6:T6[T2.length]?=some (.lst []):=c6.old (c5.old (c4.old m3 (by omega)) (by omega)) (by omega);have m7:T7[T2.length]?=some (.lst []):=c7.old (aC m6) (by omega);have p7:T7[T6.length]?=some (.lst []):=c7.old (aS rfl) (by omega);have m9:T9[T2.length]?=some (.lst []):=c9.old (aC (c8.old m7 (by omega))) (by omega);have p9:T9[T6.length]?=some (.lst []):=c9.old (aC (c8.old p7 (by omega))) (by omega);have q9:T9[T8.length]?=some (.GW []):=c9.old (aS rfl) (by omega);refine⟨T9,T2.length,T6.length,T8.length,?_,?_,?_,by omega,by omega,by omega⟩
 ·unfold iI;rw[<-hn];have:bZ G [.ob n,.int (w:Int),.int (most:Int)] (S++[.ins G.c_ [] []])=.ok .D_ T9:=by
   show fin _ (dg G [some (.ob n),some (.int (w:Int)),some (.int (most:Int))] _)=_;rw[<-hr];simp only[List.nil_append,List.cons_append] at e2 e3 e4 e5 e6 e7 e8;unfold dg;rw[aw e1,aw e2,aw e3,aw e4,aw e5,aw e6,aw e7,aw e8];rw[show cJ G.c_ ["window","most","messages","sure","opening","state","pieces","base"] "noted" (aa 0) kj r T8=some (.nx r,T9) from e9];rfl
  rw[this]
 ·rw[<-hn];exact⟨c9.at_,m9,p9,q9,by omega⟩
 ·have f:Fr [n] S T9:=((((((((((Fr.push.tr c1.fr).tr c2.fr).tr Fr.push).tr c3.fr).tr c4.fr).tr c5.fr).tr c6.fr).tr Fr.push).tr c7.fr).tr c8.fr).tr (Fr.push.tr c9.fr);exact f.mono fun i hi hs=>by
   have:i=n:=by simpa using hi
   omega
end
end Lw
namespace Lw
open PySem L2 DL
def W4(g:Nat×GL):D:=.tup [.int (g.1:Int),.tup (g.2.map D.int)]
def LO(e:List (Nat×Pc)):List (Key×D):=e.map fun q=>(Sum.inl (q.1:Int),FL q.2)
theorem qz(e:List (Nat×Pc))(k:Nat):gX (LO e) (.inl (k:Int))=(e.lookup k).map FL:=by
 induction e with
 |nil=>rfl
 |cons a r ih=>
  obtain⟨a1,a2⟩:=a;rw[List.lookup_cons];unfold LO at ih ⊢;rw[List.map_cons];unfold gX at ih ⊢;rw[List.find?_cons];by_cases h:k=a1
  ·subst h;simp
  ·have h1:(k == a1)=false:=beq_eq_false_iff_ne.mpr h;have h2:decide ((Sum.inl (a1:Int):Key)=Sum.inl (k:Int))=false:=decide_eq_false fun z=>h (by injection z with z;omega)
   simp only[h2,h1];exact ih
theorem CB(e:List (Nat×Pc))(k:Nat):((LO e).any fun kv=>decide (kv.1=(Sum.inl (k:Int):Key)))=(e.lookup k).isSome:=by
 induction e with
 |nil=>rfl
 |cons a r ih=>
  obtain⟨a1,a2⟩:=a;rw[List.lookup_cons];unfold LO at ih ⊢;rw[List.map_cons,List.any_cons];by_cases h:k=a1
  ·subst h;simp
  ·have h1:(k == a1)=false:=beq_eq_false_iff_ne.mpr h;have h2:decide ((Sum.inl (a1:Int):Key)=Sum.inl (k:Int))=false:=decide_eq_false fun z=>h (by injection z with z;omega)
   simp only[h2,h1,Bool.false_or];exact ih
theorem Ds{e:List (Nat×Pc)}{k:Nat}(p:Pc)(h:e.lookup k=none):q7 (LO e) (.inl (k:Int)) (FL p)=LO (e++[(k,p)]):=by
 unfold q7;rw[CB,h];simp[LO]
theorem Cd(e:List (Nat×Pc))(k:Nat):vB (LO e) (.inl (k:Int))=LO (e.filter fun q=>decide (q.1≠k)):=by
 induction e with
 |nil=>rfl
 |cons a r ih=>
  obtain⟨a1,a2⟩:=a;unfold vB LO at ih ⊢;rw[List.map_cons,List.filter_cons,List.filter_cons];by_cases h:a1=k
  ·subst h;simpa using ih
  ·have h2:decide ((Sum.inl (a1:Int):Key)≠Sum.inl (k:Int))=true:=decide_eq_true fun z=>h (by injection z with z;omega)
   have h3:decide (a1≠k)=true:=decide_eq_true h;simp only[h2,h3,if_true,List.map_cons];rw[ih]
theorem Dr(e:List (Nat×Pc)):(LO e).length=e.length:=by simp[LO]
structure FZ(G:Cs)(S:List Cell)(n g e b:Nat)(h:Hr):Prop where
 ob:S[n]?=some (.ins G.g_ d_ [.int (h.w:Int),.ob g,.int (h.op:Int),.int (h.nx:Int),.ob e,.ob b])
 gv:S[g]?=some (.lst (h.given.map W4))
 ea:S[e]?=some (.GW (LO h.early))
 be:S[b]?=some (.lst (h.begun.map FL))
 gb:g≠b
section
variable{G:Cs}{S:List Cell}{n g e b:Nat}{h:Hr}
theorem FZ.ng(a:FZ G S n g e b h):n≠g:=dr a.ob a.gv (by intro z;cases z)
theorem FZ.ne(a:FZ G S n g e b h):n≠e:=dr a.ob a.ea (by intro z;cases z)
theorem FZ.nb(a:FZ G S n g e b h):n≠b:=dr a.ob a.be (by intro z;cases z)
theorem FZ.ge(a:FZ G S n g e b h):g≠e:=dr a.gv a.ea (by intro z;cases z)
theorem FZ.eb(a:FZ G S n g e b h):e≠b:=dr a.ea a.be (by intro z;cases z)
theorem FZ.fr{S':List Cell}{fp:List Nat}(a:FZ G S n g e b h)(f:Fr fp S S')(h1:n∉fp)(h2:g∉fp)(h3:e∉fp)(h4:b∉fp):FZ G S' n g e b h:=⟨f.get a.ob h1,f.get a.gv h2,f.get a.ea h3,f.get a.be h4,a.gb⟩
theorem FZ.push(a:FZ G S n g e b h)(c:List Cell):FZ G (S++c) n g e b h:=⟨aC a.ob,aC a.gv,aC a.ea,aC a.be,a.gb⟩
theorem zH(a:FZ G S n g e b h)(o:Nat):∃S' e' b',cK G [.ob n,.int (o:Int)] S=.ok .D_ S'/\FZ G S' n g e' b' (h.begin_ o)/\Fr [n] S S'/\S.length<=e'/\S.length<=b':=by
 have hn:=br a.ob;have hg:=br a.gv;have ng:=a.ng;obtain⟨S1,q1,c1⟩:=gF (fo:=aa 0) (fe:=aa 1) (r:=[some (.ob n),some (.int (o:Int))]) (i:=2) rfl rfl a.ob rfl;obtain⟨S2,q2,c2⟩:=gF (fo:=aa 0) (fe:=dC (.int 0)) (r:=[some (.ob n),some (.int (o:Int))]) (i:=3) rfl rfl c1.at_ rfl;obtain⟨S3,q3,c3⟩:=gF (fo:=aa 0) (fe:=kj) (r:=[some (.ob n),some (.int (o:Int))]) (i:=4) rfl rfl (aC (G:=[.GW []]) c2.at_) rfl;obtain⟨S4,q4,c4⟩:=gF (fo:=aa 0) (fe:=bV ai) (r:=[some (.ob n),some (.int (o:Int))]) (i:=5) (bY aj (by decide)) rfl (aC (G:=[.lst []]) c3.at_) rfl;have l1:=c1.len;have l2:=c2.len;have l3:=c3.len;have l4:=c4.len;rw[List.length_append,List.length_singleton] at l3 l4;refine⟨S4,S2.length,S3.length,?_,⟨c4.at_,c4.old (aC (c3.old (aC (c2.old (c1.old a.gv ng) ng)) ng)) ng,c4.old (aC (c3.old (aS rfl) (by omega))) (by omega),c4.old (aS rfl) (by omega),by omega⟩,?_,by omega,by omega⟩
 ·show fin S (gC G [some (.ob n),some (.int (o:Int))] S)=_;unfold gC;rw[aw q1,aw q2,aw q3,q4];rfl
 ·exact((((c1.fr.tr c2.fr).tr Fr.push).tr c3.fr).tr Fr.push).tr c4.fr
end
end Lw
namespace Lw
open PySem L2 DL
section
variable{G:Cs}{S S' S1 S2:List Cell}{n g e b e' b' e1 b1 e2 b2:Nat}{h h' h1 h2:Hr}
structure Gr(G:Cs)(n g e b:Nat)(S:List Cell)(e' b':Nat)(S':List Cell)(h':Hr):Prop where
 at_:FZ G S' n g e' b' h'
 fr:Fr [n,g,e,b] S S'
 e_:e'=e\/S.length<=e'
 b_:b'=b\/S.length<=b'
theorem Gr.trans(a:Gr G n g e b S e1 b1 S1 h1)(c:Gr G n g e1 b1 S1 e2 b2 S2 h2):Gr G n g e b S e2 b2 S2 h2:=by
 have hl:=a.fr.1;refine⟨c.at_,a.fr.trans c.fr fun i hi hs=>?_,?_,?_⟩
 ·simp only[List.mem_cons,List.not_mem_nil,or_false] at hi ⊢;have he:=a.e_;have hb:=a.b_;omega
 ·have:=a.e_;have:=c.e_;omega
 ·have:=a.b_;have:=c.b_;omega
theorem Gr.refl(a:FZ G S n g e b h):Gr G n g e b S e b S h:=⟨a,Fr.refl _ _,.inl rfl,.inl rfl⟩
theorem Gr.push(a:Gr G n g e b S e' b' S' h')(c:List Cell):Gr G n g e b S e' b' (S'++c) h':=⟨a.at_.push c,a.fr.tr Fr.push,a.e_,a.b_⟩
theorem se(a:FZ G S n g e b h)(o:Nat):∃S' e' b',cK G [.ob n,.int (o:Int)] S=.ok .D_ S'/\Gr G n g e b S e' b' S' (h.begin_ o):=by
 obtain⟨S',e',b',q,c,f,h1,h2⟩:=zH a o;exact⟨S',e',b',q,⟨c,f.mono (fun i hi _=>by simp at hi;simp[hi]),.inr h1,.inr h2⟩⟩
theorem rH(a:FZ G S n g e b h)(r:s_):aB G.g_ d_ 2 (aa 0) (some (.ob n) :: r) S=.ok (.int (h.op:Int)) S:=bX rfl a.ob rfl
theorem sv(a:FZ G S n g e b h)(r:s_):aB G.g_ d_ 3 (aa 0) (some (.ob n) :: r) S=.ok (.int (h.nx:Int)) S:=bX rfl a.ob rfl
theorem zN(a:FZ G S n g e b h)(r:s_):aB G.g_ d_ 0 (aa 0) (some (.ob n) :: r) S=.ok (.int (h.w:Int)) S:=bX rfl a.ob rfl
theorem uK(a:FZ G S n g e b h)(r:s_):aB G.g_ d_ 4 (aa 0) (some (.ob n) :: r) S=.ok (.ob e) S:=bX rfl a.ob rfl
theorem Cn(a:FZ G S n g e b h)(r:s_):aB G.g_ d_ 5 (aa 0) (some (.ob n) :: r) S=.ok (.ob b) S:=bX rfl a.ob rfl
theorem Ec(a:FZ G S n g e b h)(r:s_):aB G.g_ d_ 1 (aa 0) (some (.ob n) :: r) S=.ok (.ob g) S:=bX rfl a.ob rfl
structure Out(S:List Cell)(l:Nat)(S':List Cell)(cs:List v_):Prop where
 at_:S'[l]?=some (.lst (cs.map k_))
 new:S.length<=l
theorem zB(a:FZ G S n g e b h)(o:Nat):∃S' e' b' l,cu G [.ob n,.int (o:Int)] S=.ok (.ob l) S'/\Gr G n g e b S e' b' S' (h.l_ (.x_ o)).1/\Out S l S' (h.l_ (.x_ o)).2:=by
 show ∃S' e' b' l,fin S (dF G [some (.ob n),some (.int (o:Int))] S)=_/\_;unfold dF;have t1:al (f_ HQ (aa 1) (aB G.g_ d_ 2 (aa 0))) [some (.ob n),some (.int (o:Int))] S=.ok (decide (o<h.op)) S:=by
  refine az (ar rfl (rH a _) ?_);rw[qN];congr 2;rw[decide_eq_decide];omega
 have t2:al (f_ MG (aa 1) (aB G.g_ d_ 2 (aa 0))) [some (.ob n),some (.int (o:Int))] S=.ok (decide (h.op<o)) S:=by
  refine az (ar rfl (rH a _) ?_);rw[zU];congr 2;rw[decide_eq_decide];omega
 have wl:∀S0,bG (bV (ac (cn (ac (dC (.str "welcome")) (ac (aa 1) ai))) ai)) [some (.ob n),some (.int (o:Int))] S0=some (.rt (.ob S0.length),S0++[.lst [k_ (.tB o)]]):=fun S0=>
  aR (bY (ag (bM (ag rfl (ag rfl aj)) (by simp)) aj) (by simp))
 by_cases c1:o<h.op
 ·have e1:h.l_ (.x_ o)=(h,[]):=by simp[Hr.l_,c1]
  rw[decide_eq_true c1] at t1;rw[cZ (by rw[aV t1];exact aR (bY aj (by decide))),e1];exact⟨_,e,b,_,rfl,(Gr.refl a).push _,⟨aS rfl,Nat.le_refl _⟩⟩
 ·rw[decide_eq_false c1] at t1;rw[aw (by rw[ay t1];rfl)];by_cases c2:h.op<o
  ·have e1:h.l_ (.x_ o)=(h.begin_ o,[.tB o]):=by simp[Hr.l_,c1,c2]
   rw[decide_eq_true c2] at t2;obtain⟨S1,Zg,Zh,q,c⟩:=se a o;rw[aw (by rw[aV t2];exact bf (aZ rfl a.ob (ag rfl aj) q)),wl,e1];exact⟨_,Zg,Zh,_,rfl,c.push _,⟨aS rfl,c.fr.1⟩⟩
  ·have e1:h.l_ (.x_ o)=(h,[.tB o]):=by simp[Hr.l_,c1,c2]
   rw[decide_eq_false c2] at t2;rw[aw (by rw[ay t2];rfl),wl,e1];exact⟨_,e,b,_,rfl,(Gr.refl a).push _,⟨aS rfl,Nat.le_refl _⟩⟩
theorem zD(m w:Nat)(S:List Cell):b9 [.int (m:Int),.int (w:Int)] S=.ok (.bl (decide (m<2 * w))) S:=by
 have h1:(0:Int)<=(m:Int):=by omega
 have h2:decide ((m:Int)<2 * (w:Int))=decide (m<2 * w):=by rw[decide_eq_decide];omega
 simp[b9,jf,h1,h2]
theorem zQ{m:Int}{low:Int}{w:Nat}(hw:0<w)(S:List Cell):cq [.int m,.int low,.int (w:Int)] S=.ok (.int (jd m low w)) S:=by
 have h1:(0:Int)<2 * (w:Int):=by omega
 simp[cq,iY,da h1,jd]
theorem Bx(a:FZ G S n g e b h)(hw:0<h.w)(num:Nat)(p:Pc)(hz:h.early.length<1000000):∃S',gl G [.ob n,.int (num:Int),FL p] S=.ok .D_ S'/\Gr G n g e b S e b S' (h.keep num p):=by
 show ∃S',fin S (iz G [some (.ob n),some (.int (num:Int)),some (FL p),none] S)=_/\_;unfold iz;have t1:bR (am b9 (ac (aa 1) (ac (aB G.g_ d_ 0 (aa 0)) ai))) [some (.ob n),some (.int (num:Int)),some (FL p),none] S=.ok (decide (num<2 * h.w)) S:=by
  rw[cO,av,ax (ag rfl (ag (zN a _) aj)) (zD num h.w S)];rfl
 by_cases c1:num<2 * h.w
 ·rw[decide_eq_true c1] at t1;have t2:am cq (ac (aa 1) (ac (f_ rF (aB G.g_ d_ 3 (aa 0)) (aB G.g_ d_ 0 (aa 0))) (ac (aB G.g_ d_ 0 (aa 0)) ai))) [some (.ob n),some (.int (num:Int)),some (FL p),none] S=.ok (.int (h.idx num)) S:=
   ax (ag rfl (ag (ar (sv a _) (zN a _) (sd _ _)) (ag (zN a _) aj))) (zQ hw S)
  rw[aV t1,aw (bF t2)];show ∃S',fin S (Ga _ _ _ [some (.ob n),some (.int (num:Int)),some (FL p),some (.int (h.idx num))] S)=_/\_;have t3:al (f_ IZ (aa 3) (aB G.g_ d_ 3 (aa 0))) [some (.ob n),some (.int (num:Int)),some (FL p),some (.int (h.idx num))] S=.ok (decide ((h.nx:Int)<=h.idx num)) S:=
   az (ar rfl (sv a _) (tu _ _))
  by_cases c2:(h.nx:Int)<=h.idx num
  ·obtain⟨k,hk⟩:∃k:Nat,h.idx num=(k:Int):=⟨(h.idx num).toNat,by omega⟩;have t4:al (f_ eY (aa 3) (aB G.g_ d_ 4 (aa 0))) [some (.ob n),some (.int (num:Int)),some (FL p),some (.int (h.idx num))] S=.ok (!(h.early.lookup k).isSome) S:=by
    refine az (ar rfl (uK a _) ?_);rw[hk];simp only[eY,hZ,eR a.ea,qz,Option.isSome_map]
   by_cases c3:h.early.lookup k=none
   ·have e1:h.keep num p = { h with early:=h.early++[(k,p)] }:=by
     unfold Hr.keep;rw[if_pos ⟨c1,c2,by rw[hk];exact c3⟩,hk];rfl
    have tt:cX (al (f_ IZ (aa 3) (aB G.g_ d_ 3 (aa 0)))) (al (f_ eY (aa 3) (aB G.g_ d_ 4 (aa 0)))) [some (.ob n),some (.int (num:Int)),some (FL p),some (.int (h.idx num))] S=.ok true S:=by
     rw[cL,av,t3,decide_eq_true c2];show al _ _ S=_;rw[t4,c3];rfl
    rw[aV tt,tp (d:=FL p) rfl (uK a _) (y:=.int (h.idx num)) rfl (S4:=S.set e (.GW (LO (h.early++[(k,p)])))) (by
     rw[hk];simp only[pi,hZ,eR a.ea,Ds p c3];exact bW (Nr (by rw[Dr];omega)))]
    refine⟨_,rfl,?_⟩;rw[e1];exact⟨⟨cG a.ob a.ne.symm,cG a.gv a.ge.symm,dy a.ea,cG a.be a.eb,a.gb⟩,Fr.set (by simp),.inl rfl,.inl rfl⟩
   ·have e1:h.keep num p=h:=by
     unfold Hr.keep;exact if_neg fun q=>c3 (by have:=q.2.2;rw[hk] at this;exact this)
    have tt:cX (al (f_ IZ (aa 3) (aB G.g_ d_ 3 (aa 0)))) (al (f_ eY (aa 3) (aB G.g_ d_ 4 (aa 0)))) [some (.ob n),some (.int (num:Int)),some (FL p),some (.int (h.idx num))] S=.ok false S:=by
     rw[cL,av,t3,decide_eq_true c2];show al _ _ S=_;rw[t4];cases q:h.early.lookup k with
     |none=>exact absurd q c3
     |some _=>rfl
    rw[ay tt,e1];exact⟨_,rfl,Gr.refl a⟩
  ·have e1:h.keep num p=h:=by
    unfold Hr.keep;exact if_neg fun q=>c2 q.2.1
   have tt:cX (al (f_ IZ (aa 3) (aB G.g_ d_ 3 (aa 0)))) (al (f_ eY (aa 3) (aB G.g_ d_ 4 (aa 0)))) [some (.ob n),some (.int (num:Int)),some (FL p),some (.int (h.idx num))] S=.ok false S:=by
    rw[cL,av,t3,decide_eq_false c2];rfl
   rw[ay tt,e1];exact⟨_,rfl,Gr.refl a⟩
 ·rw[decide_eq_false c1] at t1;have e1:h.keep num p=h:=by
   unfold Hr.keep;exact if_neg fun q=>c1 q.1
  rw[ay t1,e1];exact⟨_,rfl,Gr.refl a⟩
end
end Lw
namespace Lw
open PySem L2 DL
section
variable{G:Cs}{S S' S1 S2:List Cell}{n g e b e' b' e1 b1 e2 b2:Nat}{h h' h1 h2:Hr}
theorem Bw(a:FZ G S n g e b h):∃S' e' b',gf G [.ob n] S=.ok .D_ S'/\Gr G n g e b S e' b' S' h.Ge:=by
 obtain⟨S',e',b',q,c⟩:=se a 0;refine⟨S',e',b',?_,c⟩;show fin S (iN G [some (.ob n)] S)=_;unfold iN;rw[bf (aZ rfl a.ob rfl q)];rfl
end
end Lw
namespace Lw
open PySem L2 DL
section
variable{G:Cs}{S S' S1 S2:List Cell}{n g e b e' b' e1 b1 e2 b2:Nat}{h h' h1 h2:Hr}
theorem Dn(p:Pc)(S:List Cell):t_ (FL p) (.int 0) S=.ok (.int p.1) S:=rfl
theorem Do(p:Pc)(S:List Cell):t_ (FL p) (.int 1) S=.ok (.tup (p.2.map D.int)) S:=rfl
theorem nY(ps:List Pc)(k:Nat):(bh (ps.take k)).length<=(bh ps).length:=by
 have:=ie (ps.take k) (ps.drop k);rw[List.take_append_drop] at this;rw[this,List.length_append];omega
theorem mj{ps:List Pc}{k:Nat}{p:Pc}(h:ps[k]?=some p):bh (ps.take (k+1))=bh (ps.take k)++p.2:=by
 rw[List.take_add_one,h];simp[ie,bh]
theorem wo{x:D}{ps:List Pc}{gd:Option (Nat×List D)}(hx:∀T,kG x (S++T)=.ok ⟨ps.map FL,gd⟩ (S++T))(hg:IX gd S)(hz:(bh ps).length<=1000000):dY [x] S=.ok (.tup ((bh ps).map D.int)) S:=by
 show cI S (jm [some x,none,none] S)=_;unfold jm;rw[aw (bF (bY aj (by decide)))];show cI S (aL _ _ [some x,some (.ob S.length),none] (S++[.lst []]))=_;have hw:HM (aa 0) [some x,some (.ob S.length),none] (S++[.lst []])=.ok ⟨ps.map FL,gd⟩ (S++[.lst []]):=by
  rw[lF,av];exact hx _
 obtain⟨r',S',q,last,rfl,rfl⟩:=dO (g:=gd) (tg:=gN 2) (b:=bB (IY rA (aa 1) (ac (f_ t_ (aa 2) (dC (.int 1))) ai)))
  (fun k r S'=>∃last,r=[some x,some (.ob S.length),last]/\S'=S++[.lst ((bh (ps.take k)).map D.int)]) (ps.map FL) 0 [some x,some (.ob S.length),none] (S++[.lst []])
  (by
   rintro i y r S' hy ⟨last,rfl,rfl⟩;rw[List.getElem?_map] at hy;cases hp:ps[i]? with
   |none=>rw[hp] at hy;cases hy
   |some p=>
    rw[hp] at hy;cases hy;rw[Nat.zero_add];have Jf:∀a c:Cell,(S++[a]).set S.length c=S++[c]:=fun a c=>by rw[List.set_append_right _ _ (Nat.le_refl _)];simp
    refine⟨[some x,some (.ob S.length),some (FL p)],[some x,some (.ob S.length),some (FL p)],S++[.lst ((bh (ps.take i)).map D.int++p.2.map D.int)],rfl,?_,?_,some (FL p),rfl,?_⟩
    ·have hl:=nY ps (i+1);rw[mj hp,List.length_append] at hl;have ee:=bf (r:=[some x,some (.ob S.length),some (FL p)]) (fe:=IY rA (aa 1) (ac (f_ t_ (aa 2) (dC (.int 1))) ai)) (lH (n:=S.length) (S:=S++[.lst ((bh (ps.take i)).map D.int)]) rfl (aS rfl) (ag (ar rfl rfl (Do p _)) aj)
      (Cf (xs:=(bh (ps.take i)).map D.int) (ys:=p.2.map D.int) (aS rfl) (by rw[List.length_map,List.length_map];omega)))
     rw[Jf] at ee;exact ee
    ·cases gd with
     |none=>trivial
     |some q=>exact aC hg
    ·rw[mj hp,List.map_append])
  ⟨none,rfl,by simp[bh]⟩
 rw[aw (by rw[lR hw];exact q),aR (ax (ag (x:=.ob S.length) rfl aj) (fP (aS rfl)))];rw[show 0+(ps.map FL).length=ps.length by simp,List.take_length];exact kU (by unfold GQ;exact de _ _)
theorem wv{k:Nat}{ps:List Pc}(hk:S[k]?=some (.lst (ps.map FL)))(hz:(bh ps).length<=1000000):dY [.ob k] S=.ok (.tup ((bh ps).map D.int)) S:=by
 refine wo (gd:=some (k,ps.map FL)) (fun T=>?_) hk hz;simp only[kG];rw[aC hk]
theorem BW(a:FZ G S n g e b h)(p:Pc)(z1:h.begun.length<1000000)(z2:h.given.length<1000000)(z3:(bh (h.begun++[p])).length<=1000000) :
  ∃S' b',fZ G [.ob n,FL p] S=.ok .D_ S'/\Gr G n g e b S e b' S' (h.take p):=by
 show ∃S' b',fin S (ir G [some (.ob n),some (FL p)] S)=_/\_;unfold ir;obtain⟨S1,q1,c1⟩:=sX (fo:=aB G.g_ d_ 5 (aa 0)) (ft:=ac (aa 1) ai) (r:=[some (.ob n),some (FL p)]) (Cn a _) a.be (ag rfl aj) (by simpa using z1);have a1:FZ G S1 n g e b { h with begun:=h.begun++[p] }:=⟨c1.old a.ob a.nb.symm,c1.old a.gv a.gb.symm,c1.old a.ea a.eb.symm,by simpa using c1.at_,a.gb⟩;have f1:Fr [n,g,e,b] S S1:=c1.fp (by simp);rw[aw (bf q1)];have t1:al (f_ Fo (f_ t_ (aa 1) (dC (.int 0))) (dC (.int 1))) [some (.ob n),some (FL p)] S1=.ok (decide (p.1=1)) S1:=az (ar (ar rfl rfl (Dn p _)) rfl (jy _ _));by_cases hl:p.1=1
 ·rw[decide_eq_true hl] at t1;have e1:h.take p = { h with given:=h.given++[(h.op,bh (h.begun++[p]))],begun:=[] }:=by unfold Hr.take;rw[if_pos hl]
  obtain⟨S2,q2,c2⟩:=sX (d:=W4 (h.op,bh (h.begun++[p]))) (fo:=aB G.g_ d_ 1 (aa 0)) (ft:=ac (cn (ac (aB G.g_ d_ 2 (aa 0)) (ac (am dY (ac (aB G.g_ d_ 5 (aa 0)) ai)) ai))) ai)
   (r:=[some (.ob n),some (FL p)]) (Ec a1 _) a1.gv (ag (bM (ag (rH a1 _) (ag (ax (ag (Cn a1 _) aj) (wv a1.be z3)) aj)) (by simp)) aj) (by simpa using z2)
  obtain⟨S3,q3,c3⟩:=gF (fo:=aa 0) (fe:=bV ai) (r:=[some (.ob n),some (FL p)]) (i:=5) (bY aj (by decide)) rfl (aC (G:=[.lst []]) (c2.old a1.ob a.ng.symm)) rfl;have l2:=c2.len;have HA:=br a1.ob;have hlg:=br a1.gv;have hl1:=f1.1;have a3:FZ G S3 n g e S2.length { h with given:=h.given++[(h.op,bh (h.begun++[p]))],begun:=[] }:=
   ⟨c3.at_,c3.old (aC (by simpa using c2.at_)) a.ng,c3.old (aC (c2.old a1.ea a.ge)) a.ne,c3.old (aS rfl) (by omega),by omega⟩
  refine⟨S3,S2.length,?_,?_⟩
  ·rw[aV t1,aw (bf q2),q3];rfl
  ·rw[e1];exact⟨a3,((f1.tr (c2.fp (by simp))).tr Fr.push).tr (c3.fp (by simp)),.inl rfl,.inr (by omega)⟩
 ·rw[decide_eq_false hl] at t1;have e1:h.take p = { h with begun:=h.begun++[p] }:=by unfold Hr.take;rw[if_neg hl]
  refine⟨S1,b,?_,?_⟩
  ·rw[ay t1];rfl
  ·rw[e1];exact⟨a1,f1,.inl rfl,.inl rfl⟩
end
end Lw
namespace Lw
open PySem L2 DL
structure Bd(N:Nat)(h:Hr):Prop where
 cnt:h.given.length+h.begun.length+h.early.length<=N
 bp:∀p,p∈h.begun->p.2.length<=40
 ep:∀q,q∈h.early->q.2.2.length<=40
theorem pW:∀{ps:List Pc},(∀p,p∈ps->p.2.length<=40)->(bh ps).length<=40 * ps.length
 |[],_=>by simp[bh]
 |p :: ps,h=>by
  have h1:=h p (by simp);have h2:=pW fun q hq=>h q (List.mem_cons_of_mem _ hq)
  have:bh (p :: ps)=p.2++bh ps:=by simp[bh]
  rw[this,List.length_append,List.length_cons];omega
theorem oA{l:List (Nat×Pc)}{k:Nat}{p:Pc}(h:l.lookup k=some p):(k,p)∈l:=by
 induction l with
 |nil=>simp at h
 |cons a r ih=>
  obtain⟨a1,a2⟩:=a;rw[List.lookup_cons] at h;cases e:k == a1 with
  |true=>
   rw[e] at h;simp at h;have:=beq_iff_eq.mp e;subst this h;simp
  |false=>
   rw[e] at h;exact List.mem_cons_of_mem _ (ih h)
section
variable{N:Nat}{h:Hr}
theorem Bd.mono{M:Nat}(b:Bd N h)(hm:N<=M):Bd M h:=⟨Nat.le_trans b.cnt hm,b.bp,b.ep⟩
theorem Bd.begin_(b:Bd N h)(o:Nat):Bd N (h.begin_ o):=⟨by have:=b.cnt;simp[Hr.begin_];omega,by simp[Hr.begin_],by simp[Hr.begin_]⟩
theorem Bd.keep(b:Bd N h)(num:Nat){p:Pc}(hp:p.2.length<=40):Bd (N+1) (h.keep num p):=by
 unfold Hr.keep;split
 ·refine⟨?_,b.bp,fun q hq=>?_⟩
  ·have:=b.cnt;show h.given.length+h.begun.length+(h.early++_).length<=_;rw[List.length_append,List.length_singleton];omega
  ·rcases List.mem_append.mp hq with hq|hq
   ·exact b.ep q hq
   ·rw[List.mem_singleton.mp hq];exact hp
 ·exact b.mono (Nat.le_succ _)
theorem Bd.one(b:Bd N h){p:Pc}(hp:h.early.lookup h.nx=some p):Bd N (h.pop.take p)/\(h.pop.take p).early.length<h.early.length:=by
 have hm:=oA hp;have HA:(h.early.filter fun e=>decide (e.1≠h.nx)).length<h.early.length:=List.length_filter_lt_length_iff_exists.mpr ⟨_,hm,by simp⟩;have hc:=b.cnt;have OB:=b.ep _ hm;unfold Hr.take Hr.pop;split
 ·refine⟨⟨?_,by simp,fun q hq=>b.ep q (List.mem_filter.mp hq).1⟩,HA⟩;show(h.given++[_]).length+0+(h.early.filter _).length<=N;rw[List.length_append,List.length_singleton];omega
 ·refine⟨⟨?_,fun q hq=>?_,fun q hq=>b.ep q (List.mem_filter.mp hq).1⟩,HA⟩
  ·show h.given.length+(h.begun++[p]).length+(h.early.filter _).length<=N;rw[List.length_append,List.length_singleton];omega
  ·rcases List.mem_append.mp hq with hq|hq
   ·exact b.bp q hq
   ·rw[List.mem_singleton.mp hq];exact OB
theorem Bd.Fh:∀{k:Nat}{h:Hr},Bd N h->Bd N (Hr.Fh k h)
 |0,_,b=>b
 |k+1,h,b=>by
  unfold Hr.Fh;cases e:h.early.lookup h.nx with
  |none=>exact b
  |some p=>exact Bd.Fh (b.one e).1
end
section
variable{G:Cs}{S S' S1 S2:List Cell}{n g e b e' b' e1 b1 e2 b2:Nat}{h h' h1 h2:Hr}{N:Nat}
theorem wQ(hN:N<=20000):∀(k fuel:Nat) (S:List Cell) (b:Nat) (h:Hr) (x1:Option D),FZ G S n g e b h->h.early.length<=k->k<fuel->Bd N h->
  ∃S' b' Pl,ck G fuel [some (.ob n),x1] S=some (.nx [some (.ob n),Pl],S')/\Gr G n g e b S e b' S' (Hr.Fh k h):=by
 intro k
 induction k with
 |zero=>
  intro fuel S b h x1 a hk hf _;obtain⟨f,rfl⟩:∃f,fuel=f+1:=⟨fuel-1,by omega⟩;have he:h.early=[]:=List.length_eq_zero_iff.mp (by omega);have t1:al (f_ pY (aB G.g_ d_ 3 (aa 0)) (aB G.g_ d_ 4 (aa 0))) [some (.ob n),x1] S=.ok false S:=by
   refine az (ar (sv a _) (uK a _) ?_);simp only[pY,hZ,eR a.ea,qz,Option.isSome_map,he];rfl
  refine⟨S,b,x1,?_,Gr.refl a⟩;unfold ck;exact CO t1
 |succ k ih=>
  intro fuel S b h x1 a hk hf hb;obtain⟨f,rfl⟩:∃f,fuel=f+1:=⟨fuel-1,by omega⟩;have t1:al (f_ pY (aB G.g_ d_ 3 (aa 0)) (aB G.g_ d_ 4 (aa 0))) [some (.ob n),x1] S=.ok (h.early.lookup h.nx).isSome S:=by
   refine az (ar (sv a _) (uK a _) ?_);simp only[pY,hZ,eR a.ea,qz,Option.isSome_map]
  cases hp:h.early.lookup h.nx with
  |none=>
   rw[hp] at t1;refine⟨S,b,x1,?_,?_⟩
   ·unfold ck;exact CO t1
   ·unfold Hr.Fh;rw[hp];exact Gr.refl a
  |some p=>
   rw[hp] at t1;obtain⟨Sn,HA⟩:=hb.one hp;have hm:=oA hp;have Zi:=hb.ep _ hm;have hc:=hb.cnt;have q1:yo uR (aB G.g_ d_ 4 (aa 0)) (ac (aB G.g_ d_ 3 (aa 0)) ai) [some (.ob n),x1] S=.ok (FL p) (S.set e (.GW (LO (h.early.filter fun q=>decide (q.1≠h.nx))))):=by
    refine Du (uK a _) a.ea (ag (sv a _) aj) ?_;simp only[uR,hZ,eR a.ea,qz,hp,Option.map_some,Cd]
   have a1:FZ G (S.set e (.GW (LO (h.early.filter fun q=>decide (q.1≠h.nx))))) n g e b { h with early:=h.early.filter fun q=>decide (q.1≠h.nx) }:=
    ⟨cG a.ob a.ne.symm,cG a.gv a.ge.symm,dy a.ea,cG a.be a.eb,a.gb⟩
   obtain⟨S1,Lu⟩:∃S1,S.set e (.GW (LO (h.early.filter fun q=>decide (q.1≠h.nx))))=S1:=⟨_,rfl⟩;have f1:Fr [n,g,e,b] S S1:=by rw[<-Lu];exact Fr.set (by simp)
   rw[Lu] at q1 a1;obtain⟨S2,q2,c2⟩:=xy (fo:=aa 0) (fe:=dC (.int 1)) (r:=[some (.ob n),some (FL p)]) (i:=3) rfl a1.ob rfl rfl rfl;have a2:FZ G S2 n g e b h.pop:=⟨c2.at_,c2.old a1.gv a.ng,c2.old a1.ea a.ne,c2.old a1.be a.nb,a.gb⟩;have f2:Fr [n,g,e,b] S1 S2:=c2.fp (by simp);obtain⟨S3,b3,q3,c3⟩:=BW a2 p (by show h.begun.length<_;omega) (by show h.given.length<_;omega) (by
    have:=pW (ps:=h.begun++[p]) fun q hq=>(List.mem_append.mp hq).elim (hb.bp q) fun z=>by rw[List.mem_singleton.mp z];exact Zi
    rw[List.length_append,List.length_singleton] at this;show(bh (h.begun++[p])).length<=_;omega)
   obtain⟨S4,b4,x4,q4,c4⟩:=ih f S3 b3 _ (some (FL p)) c3.at_ (by omega) (by omega) Sn;refine⟨S4,b4,x4,?_,?_⟩
   ·unfold ck at q4 ⊢;rw[DZ t1 (r2:=[some (.ob n),some (FL p)]) (S2:=S3) ?_]
    ·exact q4
    ·rw[aw (bF q1)];show aL _ _ [some (.ob n),some (FL p)] S1=_;rw[aw q2,bf (aZ rfl a2.ob (ag rfl aj) q3)]
   ·have e1:Hr.Fh (k+1) h=Hr.Fh k (h.pop.take p):=by
     rw[Hr.Fh,hp]
    rw[e1];exact(Gr.trans ⟨a2,f1.tr f2,.inl rfl,.inl rfl⟩ c3).trans c4
theorem Bb(a:FZ G S n g e b h)(hw:0<h.w)(So:h.w<=1000):∃S',gi G [.ob n] S=.ok (k_ h.note) S'/\Gr G n g e b S e b S' h:=by
 show ∃S',fin S (io G [some (.ob n),none] S)=_/\_;unfold io;have q1:=iQ (f:=rM (aB G.g_ d_ 0 (aa 0))) (tg:=gN 0) (ti:=gy) (fe:=Qn (al (f_ pY (f_ bL (aB G.g_ d_ 3 (aa 1)) (aa 0)) (aB G.g_ d_ 4 (aa 1)))) (dC (.int 1)) (dC (.int 0))) (own:=1) (caps:=[0])
  (r:=[some (.ob n),none]) (S:=S) (S1:=S) (w:=⟨gW 0 1 h.w,none⟩) (fun _=>true) (fun x=>match x with
   |.int k=>.int (if (h.early.lookup (h.nx+k.toNat)).isSome then 1 else 0)
   |_=>.D_) (by
   show((aB G.g_ d_ 0 (aa 0) [some (.ob n),none]).bind xu) S=_;rw[av,zN a];exact xa (by omega)) trivial (by simp[gW];omega) (by
   intro x hx;simp only[gW,List.mem_map,List.mem_range] at hx;obtain⟨k,_,rfl⟩:=hx;refine⟨_,rfl,fun _=>rfl,fun _ zs=>?_⟩;have ap:=a.push [.lst zs];have g1:aB G.g_ d_ 3 (aa 1) [some (.int (0+(k:Int) * 1)),some (.ob n)] (S++[.lst zs])=.ok (.int (h.nx:Int)) (S++[.lst zs]):=bX rfl ap.ob rfl;have g2:aB G.g_ d_ 4 (aa 1) [some (.int (0+(k:Int) * 1)),some (.ob n)] (S++[.lst zs])=.ok (.ob e) (S++[.lst zs]):=bX rfl ap.ob rfl;have g3:al (f_ pY (f_ bL (aB G.g_ d_ 3 (aa 1)) (aa 0)) (aB G.g_ d_ 4 (aa 1))) [some (.int (0+(k:Int) * 1)),some (.ob n)] (S++[.lst zs])=.ok (h.early.lookup (h.nx+k)).isSome (S++[.lst zs]):=by
    refine az (ar (ar g1 rfl (cx _ _)) g2 ?_);have:(h.nx:Int)+(0+(k:Int) * 1)=((h.nx+k:Nat):Int):=by omega
    rw[this];simp only[pY,hZ,eR ap.ea,qz,Option.isSome_map]
   show Qn _ _ _ [some (.int (0+(k:Int) * 1)),some (.ob n)] (S++[.lst zs])=_;rw[zE,av,g3];have hk:(0+(k:Int) * 1).toNat=k:=by omega
   dsimp only;rw[hk];cases(h.early.lookup (h.nx+k)).isSome<;>rfl)
 have NG:((gW 0 1 h.w).filter fun _=>true).map (fun x=>match x with
   |.int k=>.int (if (h.early.lookup (h.nx+k.toNat)).isSome then 1 else 0)
   |_=>.D_)=h.bits.map D.int:=by
  rw[List.filter_eq_self.mpr (by simp)];unfold gW Hr.bits;rw[List.map_map,List.map_map];refine List.map_congr_left fun k _=>?_
  have hk:(0+(k:Int) * 1).toNat=k:=by omega
  simp only[Function.comp_def,hk]
 rw[NG] at q1;have ap:=a.push [.lst (h.bits.map D.int)];rw[aw (bF (ax (ag q1 aj) (fP (aS rfl))))];show ∃S',fin S (bG _ [some (.ob n),some (.tup (h.bits.map D.int))] (S++[.lst (h.bits.map D.int)]))=_/\_;rw[aR (bM (ag rfl (ag (rH ap _) (ag (ax (ag (sv ap _) (ag (zN ap _) aj)) (uh hw _)) (ag rfl aj)))) (by simp))];exact⟨_,rfl,(Gr.refl a).push _⟩
end
end Lw
namespace Lw
open PySem L2 DL
section
variable{G:Cs}{S S' S1 S2:List Cell}{n g e b e' b' e1 b1 e2 b2:Nat}{h h' h1 h2:Hr}{N:Nat}
theorem W5(d:D)(xs:List D)(S:List Cell):t_ (.tup (d :: xs)) (.int 0) S=.ok d S:=aN (i:=0) rfl
def QD:v_->Prop
 |.data _ _ p=>p.2.length<=40
 |_=>True
theorem Bd.l_{c:v_}(d:Bd N h)(hc:QD c):Bd (N+1) (h.l_ c).1:=by
 cases c with
 |x_ o=>
  dsimp only[Hr.l_];split
  ·exact d.mono (Nat.le_succ _)
  ·split
   ·exact(d.begin_ o).mono (Nat.le_succ _)
   ·exact d.mono (Nat.le_succ _)
 |data o m p=>
  dsimp only[Hr.l_];split
  ·exact d.mono (Nat.le_succ _)
  ·split
   ·exact d.mono (Nat.le_succ _)
   ·exact Bd.Fh (d.keep m hc)
 |tB o=>exact d.mono (Nat.le_succ _)
 |GU o=>exact d.mono (Nat.le_succ _)
 |note o j bs=>exact d.mono (Nat.le_succ _)
theorem Di(h:Hr)(p:Pc):(h.take p).w=h.w:=by unfold Hr.take;split<;>rfl
theorem rL:∀(k:Nat) (h:Hr),(Hr.Fh k h).w=h.w
 |0,_=>rfl
 |k+1,h=>by
  unfold Hr.Fh;cases e:h.early.lookup h.nx with
  |none=>rfl
  |some p=>exact(rL k _).trans (Di _ _)
theorem CT(h:Hr)(m:Nat)(p:Pc):(h.keep m p).w=h.w:=by unfold Hr.keep;split<;>rfl
theorem tR(h:Hr)(m:Nat)(p:Pc):(h.data m p).w=h.w:=(rL _ _).trans (CT _ _ _)
theorem Ba(h:Hr)(c:v_):(h.l_ c).1.w=h.w:=by
 cases c with
 |x_ o=>
  dsimp only[Hr.l_];split
  ·rfl
  ·split<;>rfl
 |data o m p=>
  dsimp only[Hr.l_];split
  ·rfl
  ·split
   ·rfl
   ·exact tR h m p
 |_=>rfl
theorem Bc(a:FZ G S n g e b h)(hw:0<h.w)(So:h.w<=1000)(d:Bd N h)(hN:N<20000)(o m:Nat)(p:Pc)(hp:p.2.length<=40) :
  ∃S' e' b' l,cA G [.ob n,.int (o:Int),.int (m:Int),FL p] S=.ok (.ob l) S'/\Gr G n g e b S e' b' S' (h.l_ (.data o m p)).1/\Out S l S' (h.l_ (.data o m p)).2:=by
 show ∃S' e' b' l,fin S (dS G [some (.ob n),some (.int (o:Int)),some (.int (m:Int)),some (FL p)] S)=_/\_;unfold dS;have t1:al (f_ HQ (aa 1) (aB G.g_ d_ 2 (aa 0))) [some (.ob n),some (.int (o:Int)),some (.int (m:Int)),some (FL p)] S=.ok (decide (o<h.op)) S:=by
  refine az (ar rfl (rH a _) ?_);rw[qN];congr 2;rw[decide_eq_decide];omega
 have t2:al (f_ MG (aa 1) (aB G.g_ d_ 2 (aa 0))) [some (.ob n),some (.int (o:Int)),some (.int (m:Int)),some (FL p)] S=.ok (decide (h.op<o)) S:=by
  refine az (ar rfl (rH a _) ?_);rw[zU];congr 2;rw[decide_eq_decide];omega
 by_cases c1:o<h.op
 ·have e1:h.l_ (.data o m p)=(h,[]):=by simp[Hr.l_,c1]
  rw[decide_eq_true c1] at t1;rw[cZ (by rw[aV t1];exact aR (bY aj (by decide))),e1];exact⟨_,e,b,_,rfl,(Gr.refl a).push _,⟨aS rfl,Nat.le_refl _⟩⟩
 ·rw[decide_eq_false c1] at t1;rw[aw (by rw[ay t1];rfl)];by_cases c2:h.op<o
  ·have e1:h.l_ (.data o m p)=(h,[.GU o]):=by simp[Hr.l_,c1,c2]
   rw[decide_eq_true c2] at t2;rw[cZ (by rw[aV t2];exact aR (bY (ag (bM (ag rfl (ag rfl aj)) (by simp)) aj) (by simp))),e1];exact⟨_,e,b,_,rfl,(Gr.refl a).push _,⟨aS rfl,Nat.le_refl _⟩⟩
  ·have e1:h.l_ (.data o m p)=(h.data m p,[(h.data m p).note]):=by simp[Hr.l_,c1,c2]
   rw[decide_eq_false c2] at t2;have hc:=d.cnt;have dk:=d.keep m hp;obtain⟨S1,q1,k1⟩:=Bx a hw m p (by omega);obtain⟨S2,b2,x2,q2,k2⟩:=wQ (G:=G) (n:=n) (g:=g) (e:=e) (N:=N+1) (by omega) (h.keep m p).early.length 1000000 S1 b (h.keep m p) none k1.at_ (Nat.le_refl _) (by have:=dk.cnt;omega) dk;have Ux:dI G [.ob n] S1=.ok .D_ S2:=by
    show fin S1 (ck G 1000000 [some (.ob n),none] S1)=_;rw[q2];rfl
   have N_:Gr G n g e b S1 e b2 S2 (h.data m p):=k2;obtain⟨S3,q3,k3⟩:=Bb N_.at_ (by rw[tR];exact hw) (by rw[tR];exact So);have W6:=(k1.trans N_).trans k3;rw[aw (by rw[ay t2];rfl),aw (bf (aZ rfl a.ob (ag rfl (ag rfl aj)) q1)),aw (bf (aZ rfl k1.at_.ob aj Ux)),aR (bY (ag (aZ rfl N_.at_.ob aj q3) aj) (by simp)),e1];exact⟨_,e,b2,_,rfl,W6.push _,⟨aS rfl,W6.fr.1⟩⟩
theorem AA(a:FZ G S n g e b h)(hw:0<h.w)(So:h.w<=1000)(d:Bd N h)(hN:N<20000){c:v_}(hc:QD c) :
  ∃S' e' b' l,eU G [.ob n,k_ c] S=.ok (.ob l) S'/\Gr G n g e b S e' b' S' (h.l_ c).1/\Out S l S' (h.l_ c).2:=by
 show ∃S' e' b' l,fin S (gB G [some (.ob n),some (k_ c)] S)=_/\_;unfold gB;have Uy:∀{k:Str}{xs:List D},k_ c=.tup (.str k :: xs)->(∀S:List Cell,Fo (.str k) (.str "hello") S=.ok (.bl false) S)->(∀S:List Cell,Fo (.str k) (.str "data") S=.ok (.bl false) S)->h.l_ c=(h,[])->
   ∃S' e' b' l,fin S (aL (Ga (al (f_ Fo (f_ t_ (aa 1) (dC (.int 0))) (dC (.str "hello")))) (bG (bc G.g_ d_ (cu G) (aa 0) (ac (f_ t_ (aa 1) (dC (.int 1))) ai))) bz)
 (aL (Ga (al (f_ Fo (f_ t_ (aa 1) (dC (.int 0))) (dC (.str "data")))) (bG (bc G.g_ d_ (cA G) (aa 0) (ac (f_ t_ (aa 1) (dC (.int 1))) (ac (f_ t_ (aa 1) (dC (.int 2))) (ac (f_ t_ (aa 1) (dC (.int 3))) ai))))) bz)
 (bG (bV ai))) [some (.ob n),some (k_ c)] S)=.ok (.ob l) S'/\Gr G n g e b S e' b' S' (h.l_ c).1/\Out S l S' (h.l_ c).2:=by
  intro k xs LY h1 h2 he;rw[LY,aw (by rw[ay (az (ar (ar rfl rfl (W5 _ _ _)) rfl (h1 _)))];rfl),aw (by rw[ay (az (ar (ar rfl rfl (W5 _ _ _)) rfl (h2 _)))];rfl),aR (bY aj (by decide)),he];exact⟨_,e,b,_,rfl,(Gr.refl a).push _,⟨aS rfl,Nat.le_refl _⟩⟩
 cases c with
 |x_ o=>
  obtain⟨S',e',b',l,q,k1,k2⟩:=zB a o;rw[cZ (by rw[aV (az (ar (ar rfl rfl rfl) rfl bg))];exact aR (aZ rfl a.ob (ag (ar rfl rfl rfl) aj) q))];exact⟨S',e',b',l,rfl,k1,k2⟩
 |data o m p=>
  obtain⟨S',e',b',l,q,k1,k2⟩:=Bc a hw So d hN o m p hc;rw[aw (by rw[ay (az (ar (ar rfl rfl rfl) rfl bg))];rfl),
   cZ (by rw[aV (az (ar (ar rfl rfl rfl) rfl bg))];exact aR (aZ rfl a.ob (ag (ar rfl rfl rfl) (ag (ar rfl rfl rfl) (ag (ar rfl rfl rfl) aj))) q))]
  exact⟨S',e',b',l,rfl,k1,k2⟩
 |tB o=>exact Uy (k:="welcome") rfl (fun _=>bg) (fun _=>bg) rfl
 |GU o=>exact Uy (k:="who") rfl (fun _=>bg) (fun _=>bg) rfl
 |note o m bs=>exact Uy (k:="note") rfl (fun _=>bg) (fun _=>bg) rfl
theorem BR(w:Nat)(S:List Cell):∃S' g e b,iI G.g_ (bQ G) [.int (w:Int)] S=.ok (.ob S.length) S'/\FZ G S' S.length g e b (Hr.new w)/\Fr [] S S'/\S.length<=g/\S.length<=e/\S.length<=b:=by
 obtain⟨n,hn⟩:∃n,n=S.length:=⟨_,rfl⟩;have s0:(S++[Cell.ins G.g_ [] []])[n]?=some (.ins G.g_ [] []):=aS hn;have q1:=jP (f:="window") (fo:=aa 0) (fe:=aa 1) (r:=[some (.ob n),some (.int (w:Int))]) rfl rfl s0;have s1:=dy (d:=Cell.ins G.g_ ["window"] [.int (w:Int)]) s0;have q2:=jP (f:="given") (fo:=aa 0) (fe:=bV ai) (r:=[some (.ob n),some (.int (w:Int))]) (bY aj (by decide)) rfl (aC (G:=[.lst []]) s1);obtain⟨T1,Sq⟩:∃T1,(S++[Cell.ins G.g_ [] []]).set n (.ins G.g_ ["window"] [.int (w:Int)])=T1:=⟨_,rfl⟩;have l1:T1.length=S.length+1:=by rw[<-Sq];simp
 have f1:Fr [n] S T1:=by rw[<-Sq];exact Fr.push.tr (Fr.set (by simp))
 have Zj:cJ G.g_ [] "window" (aa 0) (aa 1) [some (.ob n),some (.int (w:Int))] (S++[.ins G.g_ [] []])=some (.nx [some (.ob n),some (.int (w:Int))],T1):=by rw[q1,<-Sq];rfl
 rw[Sq] at s1 q2;have s2:=dy (d:=Cell.ins G.g_ ["window","given"] [.int (w:Int),.ob T1.length]) (aC (G:=[.lst []]) s1);obtain⟨T2,Mb⟩:∃T2,(T1++[Cell.lst []]).set n (.ins G.g_ ["window","given"] [.int (w:Int),.ob T1.length])=T2:=⟨_,rfl⟩;have l2:T2.length=S.length+2:=by rw[<-Mb];simp;omega
 have f2:Fr [n] T1 T2:=by rw[<-Mb];exact Fr.push.tr (Fr.set (by simp))
 have g2:T2[T1.length]?=some (.lst []):=by rw[<-Mb];exact cG (aS rfl) (by omega)
 have Ux:cJ G.g_ ["window"] "given" (aa 0) (bV ai) [some (.ob n),some (.int (w:Int))] T1=some (.nx [some (.ob n),some (.int (w:Int))],T2):=by rw[q2,<-Mb];rfl
 rw[Mb] at s2;have q3:=jP (f:="opening") (fo:=aa 0) (fe:=dC (.int 0)) (r:=[some (.ob n),some (.int (w:Int))]) rfl rfl s2;have s3:=dy (d:=Cell.ins G.g_ ["window","given","opening"] [.int (w:Int),.ob T1.length,.int 0]) s2;obtain⟨T3,Me⟩:∃T3,T2.set n (.ins G.g_ ["window","given","opening"] [.int (w:Int),.ob T1.length,.int 0])=T3:=⟨_,rfl⟩;have l3:T3.length=S.length+2:=by rw[<-Me];simp;omega
 have f3:Fr [n] T2 T3:=by rw[<-Me];exact Fr.set (by simp)
 have Uu:cJ G.g_ ["window","given"] "opening" (aa 0) (dC (.int 0)) [some (.ob n),some (.int (w:Int))] T2=some (.nx [some (.ob n),some (.int (w:Int))],T3):=by rw[q3,<-Me];rfl
 rw[Me] at s3;have q4:=jP (f:="next_index") (fo:=aa 0) (fe:=dC (.int 0)) (r:=[some (.ob n),some (.int (w:Int))]) rfl rfl s3;have s4:=dy (d:=Cell.ins G.g_ ["window","given","opening","next_index"] [.int (w:Int),.ob T1.length,.int 0,.int 0]) s3;obtain⟨T4,QC⟩:∃T4,T3.set n (.ins G.g_ ["window","given","opening","next_index"] [.int (w:Int),.ob T1.length,.int 0,.int 0])=T4:=⟨_,rfl⟩;have l4:T4.length=S.length+2:=by rw[<-QC];simp;omega
 have f4:Fr [n] T3 T4:=by rw[<-QC];exact Fr.set (by simp)
 have Zk:cJ G.g_ ["window","given","opening"] "next_index" (aa 0) (dC (.int 0)) [some (.ob n),some (.int (w:Int))] T3=some (.nx [some (.ob n),some (.int (w:Int))],T4):=by rw[q4,<-QC];rfl
 rw[QC] at s4;have q5:=jP (f:="early") (fo:=aa 0) (fe:=kj) (r:=[some (.ob n),some (.int (w:Int))]) rfl rfl (aC (G:=[.GW []]) s4);have s5:=dy (d:=Cell.ins G.g_ ["window","given","opening","next_index","early"] [.int (w:Int),.ob T1.length,.int 0,.int 0,.ob T4.length]) (aC (G:=[.GW []]) s4);obtain⟨T5,Rv⟩:∃T5,(T4++[Cell.GW []]).set n (.ins G.g_ ["window","given","opening","next_index","early"] [.int (w:Int),.ob T1.length,.int 0,.int 0,.ob T4.length])=T5:=⟨_,rfl⟩;have l5:T5.length=S.length+3:=by rw[<-Rv];simp;omega
 have f5:Fr [n] T4 T5:=by rw[<-Rv];exact Fr.push.tr (Fr.set (by simp))
 have g5:T5[T4.length]?=some (.GW []):=by rw[<-Rv];exact cG (aS rfl) (by omega)
 have Zl:cJ G.g_ ["window","given","opening","next_index"] "early" (aa 0) kj [some (.ob n),some (.int (w:Int))] T4=some (.nx [some (.ob n),some (.int (w:Int))],T5):=by rw[q5,<-Rv];rfl
 rw[Rv] at s5;have q6:=jP (f:="begun") (fo:=aa 0) (fe:=bV ai) (r:=[some (.ob n),some (.int (w:Int))]) (bY aj (by decide)) rfl (aC (G:=[.lst []]) s5);have s6:=dy (d:=Cell.ins G.g_ d_ [.int (w:Int),.ob T1.length,.int 0,.int 0,.ob T4.length,.ob T5.length]) (aC (G:=[.lst []]) s5);have Zm:cJ G.g_ ["window","given","opening","next_index","early"] "begun" (aa 0) (bV ai) [some (.ob n),some (.int (w:Int))] T5=some (.nx [some (.ob n),some (.int (w:Int))],(T5++[Cell.lst []]).set n (.ins G.g_ d_ [.int (w:Int),.ob T1.length,.int 0,.int 0,.ob T4.length,.ob T5.length])):=by rw[q6];rfl
 have f6:Fr [n] T5 ((T5++[Cell.lst []]).set n (.ins G.g_ d_ [.int (w:Int),.ob T1.length,.int 0,.int 0,.ob T4.length,.ob T5.length])):=Fr.push.tr (Fr.set (by simp));have Rw:∀m,m≠n->m∉[n]:=fun m hm=>by simpa using hm
 refine⟨(T5++[Cell.lst []]).set n (.ins G.g_ d_ [.int (w:Int),.ob T1.length,.int 0,.int 0,.ob T4.length,.ob T5.length]),T1.length,T4.length,T5.length,?_,?_,?_,by omega,by omega,by omega⟩
 ·unfold iI;rw[<-hn];have:bQ G [.ob n,.int (w:Int)] (S++[.ins G.g_ [] []])=.ok .D_ ((T5++[Cell.lst []]).set n (.ins G.g_ d_ [.int (w:Int),.ob T1.length,.int 0,.int 0,.ob T4.length,.ob T5.length])):=by
   show fin _ (di G [some (.ob n),some (.int (w:Int))] _)=_;unfold di;rw[aw Zj,aw Ux,aw Uu,aw Zk,aw Zl,Zm];rfl
  rw[this]
 ·rw[<-hn];refine⟨s6,?_,?_,cG (aS rfl) (by omega),by omega⟩
  ·exact f6.get (f5.get (f4.get (f3.get g2 (Rw _ (by omega))) (Rw _ (by omega))) (Rw _ (by omega))) (Rw _ (by omega))
  ·exact f6.get g5 (Rw _ (by omega))
 ·exact(((((f1.tr f2).tr f3).tr f4).tr f5).tr f6).mono fun i hi hs=>by
   have:i=n:=by simpa using hi
   omega
end
end Lw
namespace Lw
open PySem L2 DL
theorem w4{S:List Cell}{n:Nat}(is:List Int):pD S (n+2) (.tup (is.map D.int))=some (.tuple (is.map PyData.int)):=pG S n is
theorem k9(n:Nat)(c:v_):GQ n (k_ c):=by
 cases c<;>simp[k_,FL,GQ,iW,de]
end Lw
namespace Lw
open PySem L2 DL
end Lw
namespace Lw
open PySem L2 DL
def Ss(ss:List Int):Int:=(ss.zipIdx.map fun p=>((1+p.2:Nat):Int) * p.1).sum
def GO(cs:List Int):List Int:=(cs++[cs.sum % 256])++[Ss (cs++[cs.sum % 256]) % 256]
def aA:v_->List Int
 |.x_ o=>[0,(o:Int) / 256,(o:Int) % 256]
 |.tB o=>[1,(o:Int) / 256,(o:Int) % 256]
 |.GU o=>[2,(o:Int) / 256,(o:Int) % 256]
 |.data o n p=>[3,(o:Int) / 256,(o:Int) % 256,(n:Int),p.1]++p.2
 |.note o n bs=>[4,(o:Int) / 256,(o:Int) % 256,(n:Int)]++bs
def Jp:v_->Prop
 |.x_ o=>o<=65535
 |.tB o=>o<=65535
 |.GU o=>o<=65535
 |.data o n p=>o<=65535/\n<=13/\(0<=p.1/\p.1<=1)/\p.2.length<=8/\∀x,x∈p.2->0<=x/\x<=255
 |.note o n bs=>o<=65535/\n<=13/\bs.length<=7/\∀x,x∈bs->0<=x/\x<=1
section
variable{S:List Cell}
theorem fX{xs ys:List D}(hz:(xs++ys).length<=1000000):bL (.tup xs) (.tup ys) S=.ok (.tup (xs++ys)) S:=uq hz
theorem Bv(is:List Int):nz [.tup (is.map D.int)] S=.ok (.int is.sum) S:=by
 simp only[nz,fM,gx]
theorem Df{l:Nat}{is:List Int}(h:S[l]?=some (.lst (is.map D.int))):nz [.ob l] S=.ok (.int is.sum) S:=by
 simp only[nz,fM,bS h,gx]
theorem nk(cs:List Int)(hl:cs.length<=1000)(S:List Cell):cE [.tup (cs.map D.int)] S=.ok (.tup ((GO cs).map D.int)) S:=by
 show cI S (iC [some (.tup (cs.map D.int)),none,none] S)=_;unfold iC;obtain⟨ss,Uz⟩:∃ss,cs++[cs.sum % 256]=ss:=⟨_,rfl⟩;have Pf:ss.length=cs.length+1:=by rw[<-Uz];simp
 have e1:f_ bL (aa 0) (cn (ac (f_ kq (am nz (ac (aa 0) ai)) (dC (.int 256))) ai)) [some (.tup (cs.map D.int)),none,none] S=.ok (.tup (ss.map D.int)) S:=by
  refine ar rfl (bM (ag (ar (ax (ag rfl aj) (Bv cs)) rfl (da (by decide))) aj) (by simp)) ?_;rw[fX (by simp;omega),<-Uz,List.map_append];rfl
 rw[aw (bF e1)];show cI S (aL _ _ [some (.tup (cs.map D.int)),some (.tup (ss.map D.int)),none] S)=_;have q1:=iQ (f:=sM 1 (aa 1)) (tg:=gT [0,1]) (ti:=gy) (fe:=f_ eI (aa 0) (aa 1)) (own:=2) (caps:=[])
  (r:=[some (.tup (cs.map D.int)),some (.tup (ss.map D.int)),none]) (S:=S) (S1:=S) (w:=⟨iV 1 (ss.map D.int),none⟩) (fun _=>true) (fun x=>match x with
   |.tup [.int i,.int j]=>.int (i * j)
   |_=>.D_) rfl trivial (by simp[iV];omega) (by
   intro x hx;unfold iV at hx;obtain⟨y,hy,rfl⟩:=List.mem_map.mp hx;rw[List.zipIdx_map] at hy;obtain⟨z,hz,rfl⟩:=List.mem_map.mp hy;have HA:z.2<ss.length:=by
    have:=List.mem_zipIdx hz;omega
   refine⟨_,rfl,fun _=>rfl,fun _ zs=>?_⟩;show f_ eI (aa 0) (aa 1) [some (.int ((1+z.2:Nat):Int)),some (.int z.1)] (S++[.lst zs])=_;exact ar rfl rfl (fT (.inl ⟨by omega,by omega⟩)))
 have hw:((iV 1 (ss.map D.int)).filter fun _=>true).map (fun x=>match x with
   |.tup [.int i,.int j]=>D.int (i * j)
   |_=>.D_)=(ss.zipIdx.map fun p=>((1+p.2:Nat):Int) * p.1).map D.int:=by
  rw[List.filter_eq_self.mpr (by simp)];unfold iV;rw[List.zipIdx_map,List.map_map,List.map_map,List.map_map];rfl
 rw[hw] at q1;rw[aw (bF (ax (ag q1 aj) (Df (aS rfl))))];show cI S (bG _ [some (.tup (cs.map D.int)),some (.tup (ss.map D.int)),some (.int (Ss ss))] (S++[.lst ((ss.zipIdx.map fun p=>((1+p.2:Nat):Int) * p.1).map D.int)]))=_;have e3:f_ bL (aa 1) (cn (ac (f_ kq (aa 2) (dC (.int 256))) ai)) [some (.tup (cs.map D.int)),some (.tup (ss.map D.int)),some (.int (Ss ss))] (S++[.lst ((ss.zipIdx.map fun p=>((1+p.2:Nat):Int) * p.1).map D.int)])=.ok (.tup ((GO cs).map D.int)) (S++[.lst ((ss.zipIdx.map fun p=>((1+p.2:Nat):Int) * p.1).map D.int)]):=by
  refine ar rfl (bM (ag (ar rfl rfl (da (by decide))) aj) (by simp)) ?_;rw[fX (by simp;omega)];unfold GO;rw[Uz,List.map_append];rfl
 rw[aR e3];exact kU (by unfold GQ;exact de _ _)
theorem eC(i top:Int)(S:List Cell):aQ [.int i,.int top] S=.ok (.bl (decide (0<=i) && decide (i<=top))) S:=by
 by_cases h:0<=i
 ·simp[aQ,kC,N5,Qw,xr,h]
 ·simp[aQ,kC,N5,Qw,xr,h]
theorem sN(is:List Int)(top:Int)(hl:is.length<=1000000)(S:List Cell):b0 [.tup (is.map D.int),.int top] S=.ok (.bl (is.all fun i=>decide (0<=i) && decide (i<=top))) S:=by
 show cI S (nM [some (.tup (is.map D.int)),some (.int top)] S)=_;unfold nM;have q1:=iQ (f:=HM (aa 0)) (tg:=gN 0) (ti:=gy) (fe:=am aQ (ac (aa 0) (ac (aa 1) ai))) (own:=1) (caps:=[1])
  (r:=[some (.tup (is.map D.int)),some (.int top)]) (S:=S) (S1:=S) (w:=⟨is.map D.int,none⟩) (fun _=>true) (fun x=>match x with
   |.int i=>.bl (decide (0<=i) && decide (i<=top))
   |_=>.D_) rfl trivial (by simpa using hl) (by
   intro x hx;obtain⟨i,_,rfl⟩:=List.mem_map.mp hx;refine⟨_,rfl,fun _=>rfl,fun _ zs=>?_⟩;show am _ _ [some (.int i),some (.int top)] _=_;exact ax (ag rfl (ag rfl aj)) (eC i top _))
 have hw:((is.map D.int).filter fun _=>true).map (fun x=>match x with
   |.int i=>D.bl (decide (0<=i) && decide (i<=top))
   |_=>.D_)=(is.map fun i=>decide (0<=i) && decide (i<=top)).map D.bl:=by
  rw[List.filter_eq_self.mpr (by simp),List.map_map,List.map_map];rfl
 rw[hw] at q1;have t1:al (Ls "tuple" (aa 0)) [some (.tup (is.map D.int)),some (.int top)] S=.ok true S:=rfl;have t2:im (Ls "tuple" (aa 0)) (am sV (ac (dH (HM (aa 0)) (gN 0) gy (am aQ (ac (aa 0) (ac (aa 1) ai))) 1 [1]) ai)) [some (.tup (is.map D.int)),some (.int top)] S=.ok (.bl (is.all fun i=>decide (0<=i) && decide (i<=top))) (S++[.lst ((is.map fun i=>decide (0<=i) && decide (i<=top)).map D.bl)]):=by
  rw[fV,av,t1];refine ax (ag q1 aj) ?_;simp only[sV,fM,bS bE,nA,List.all_map];rfl
 rw[aR t2];exact kU (by simp[GQ])
theorem wb{is:List Int}{top:Int}(hl:is.length<=1000000)(h:∀x,x∈is->0<=x/\x<=top)(S:List Cell):b0 [.tup (is.map D.int),.int top] S=.ok (.bl true) S:=by
 rw[sN is top hl];congr 2;rw[List.all_eq_true];intro x hx;simp[h x hx]
theorem Ax{p:Pc}(h1:0<=p.1/\p.1<=1)(h2:p.2.length<=8)(h3:∀x,x∈p.2->0<=x/\x<=255)(S:List Cell):iA [FL p] S=.ok (.bl true) S:=by
 show cI S (gs [some (FL p)] S)=_;unfold gs;have t1:G8 (cW (bR (Ls "tuple" (aa 0)))) (al (f_ Hg (am bw (ac (aa 0) ai)) (dC (.int 2)))) [some (FL p)] S=.ok false S:=by
  have u:al (f_ Hg (am bw (ac (aa 0) ai)) (dC (.int 2))) [some (FL p)] S=.ok false S:=az (ar (x:=.int 2) (ax (ag rfl aj) rfl) rfl (gp 2 2));rw[d7,av,cP,av];exact u
 rw[aw (by rw[ay t1];rfl)];have i0:f_ t_ (aa 0) (dC (.int 0)) [some (FL p)] S=.ok (.int p.1) S:=rfl;have i1:f_ t_ (aa 0) (dC (.int 1)) [some (FL p)] S=.ok (.tup (p.2.map D.int)) S:=rfl;have e1:al (am aQ (ac (f_ t_ (aa 0) (dC (.int 0))) (ac (dC (.int 1)) ai))) [some (FL p)] S=.ok true S:=by
  refine az (ax (ag i0 (ag rfl aj)) ?_);rw[eC];simp[h1]
 have e2:al (am b0 (ac (f_ t_ (aa 0) (dC (.int 1))) (ac (dC FQ) ai))) [some (FL p)] S=.ok true S:=az (ax (ag i1 (ag rfl aj)) (wb (by omega) h3 S));have e3:f_ JY (am bw (ac (f_ t_ (aa 0) (dC (.int 1))) ai)) (dC FW) [some (FL p)] S=.ok (.bl true) S:=by
  refine ar (ax (ag i1 aj) (cb _)) rfl ?_;rw[vF,List.length_map,decide_eq_true (by omega)]
 rw[aR (d:=.bl true) (S1:=S)]
 ·exact bA (by simp[GQ])
 ·rw[fV,av,e1];show im _ _ _ S=_;rw[fV,av,e2];exact e3
theorem AS{bs:List Int}(h2:bs.length<=7)(h3:∀x,x∈bs->0<=x/\x<=1)(S:List Cell):il [.tup (bs.map D.int)] S=.ok (.bl true) S:=by
 show cI S (gu [some (.tup (bs.map D.int))] S)=_;unfold gu;have e2:al (am b0 (ac (aa 0) (ac (dC (.int 1)) ai))) [some (.tup (bs.map D.int))] S=.ok true S:=az (ax (ag rfl (ag rfl aj)) (wb (by omega) h3 S));have e3:f_ JY (am bw (ac (aa 0) ai)) (dC Hi) [some (.tup (bs.map D.int))] S=.ok (.bl true) S:=by
  refine ar (ax (ag rfl aj) (cb _)) rfl ?_;rw[vF,List.length_map,decide_eq_true (by omega)]
 rw[aR (d:=.bl true) (S1:=S)]
 ·exact bA (by simp[GQ])
 ·rw[fV,av,e2];exact e3
end
end Lw
namespace Lw
open PySem L2 DL
def v_.FA:v_->Nat
 |.x_ o=>o
 |.tB o=>o
 |.GU o=>o
 |.data o _ _=>o
 |.note o _ _=>o
def v_.kn:v_->Str
 |.x_ _=>"hello"
 |.tB _=>"welcome"
 |.GU _=>"who"
 |.data _ _ _=>"data"
 |.note _ _ _=>"note"
def v_.ki:v_->Nat
 |.x_ _=>0
 |.tB _=>1
 |.GU _=>2
 |.data _ _ _=>3
 |.note _ _ _=>4
section
variable{S:List Cell}{G:Cs}
theorem nr(c:v_)(S:List Cell):t_ (k_ c) (.int 0) S=.ok (.str c.kn) S:=by cases c<;>rfl
theorem qk(c:v_)(S:List Cell):t_ (k_ c) (.int 1) S=.ok (.int (c.FA:Int)) S:=by cases c<;>rfl
theorem Jp.op{c:v_}(h:Jp c):c.FA<=65535:=by
 cases c with
 |x_ o=>exact h
 |tB o=>exact h
 |GU o=>exact h
 |data o n p=>exact h.1
 |note o n bs=>exact h.1
theorem lg(c:v_)(S:List Cell):Fo (.str c.kn) (.str "data") S=.ok (.bl (decide (c.ki=3))) S:=by
 cases c with
 |x_ o=>exact(show Fo (.str "hello") (.str "data") S=.ok (.bl false) S from bg)
 |tB o=>exact(show Fo (.str "welcome") (.str "data") S=.ok (.bl false) S from bg)
 |GU o=>exact(show Fo (.str "who") (.str "data") S=.ok (.bl false) S from bg)
 |data o n p=>exact(show Fo (.str "data") (.str "data") S=.ok (.bl true) S from bg)
 |note o n bs=>exact(show Fo (.str "note") (.str "data") S=.ok (.bl false) S from bg)
theorem lc(c:v_)(S:List Cell):Fo (.str c.kn) (.str "note") S=.ok (.bl (decide (c.ki=4))) S:=by
 cases c with
 |x_ o=>exact(show Fo (.str "hello") (.str "note") S=.ok (.bl false) S from bg)
 |tB o=>exact(show Fo (.str "welcome") (.str "note") S=.ok (.bl false) S from bg)
 |GU o=>exact(show Fo (.str "who") (.str "note") S=.ok (.bl false) S from bg)
 |data o n p=>exact(show Fo (.str "data") (.str "note") S=.ok (.bl false) S from bg)
 |note o n bs=>exact(show Fo (.str "note") (.str "note") S=.ok (.bl true) S from bg)
theorem pT(c:v_)(S:List Cell):inD (.str c.kn) eB S=.ok (.bl (decide (c.ki<3))) S:=by
 have h1:Jk (.str "hello") [.str "hello",.str "welcome",.str "who"]=true:=by decide +kernel
 have h2:Jk (.str "welcome") [.str "hello",.str "welcome",.str "who"]=true:=by decide +kernel
 have h3:Jk (.str "who") [.str "hello",.str "welcome",.str "who"]=true:=by decide +kernel
 have h4:Jk (.str "data") [.str "hello",.str "welcome",.str "who"]=false:=by decide +kernel
 have h5:Jk (.str "note") [.str "hello",.str "welcome",.str "who"]=false:=by decide +kernel
 cases c with
 |x_ o=>show R.ok (D.bl (Jk (.str "hello") [.str "hello",.str "welcome",.str "who"])) S=_;rw[h1];rfl
 |tB o=>show R.ok (D.bl (Jk (.str "welcome") [.str "hello",.str "welcome",.str "who"])) S=_;rw[h2];rfl
 |GU o=>show R.ok (D.bl (Jk (.str "who") [.str "hello",.str "welcome",.str "who"])) S=_;rw[h3];rfl
 |data o n p=>show R.ok (D.bl (Jk (.str "data") [.str "hello",.str "welcome",.str "who"])) S=_;rw[h4];rfl
 |note o n bs=>show R.ok (D.bl (Jk (.str "note") [.str "hello",.str "welcome",.str "who"])) S=_;rw[h5];rfl
theorem AR(c:v_)(S:List Cell):xR (Hu.map D.str) (.str c.kn) S=.ok (.int (c.ki:Int)) S:=by
 have h1:qr (.str "hello") [.str "hello",.str "welcome",.str "who",.str "data",.str "note"]=some 0:=by decide +kernel
 have h2:qr (.str "welcome") [.str "hello",.str "welcome",.str "who",.str "data",.str "note"]=some 1:=by decide +kernel
 have h3:qr (.str "who") [.str "hello",.str "welcome",.str "who",.str "data",.str "note"]=some 2:=by decide +kernel
 have h4:qr (.str "data") [.str "hello",.str "welcome",.str "who",.str "data",.str "note"]=some 3:=by decide +kernel
 have h5:qr (.str "note") [.str "hello",.str "welcome",.str "who",.str "data",.str "note"]=some 4:=by decide +kernel
 have e:Ov (Hu.map D.str)=some [.str "hello",.str "welcome",.str "who",.str "data",.str "note"]:=rfl;unfold xR;cases c<;>simp only[v_.kn,v_.ki,fv,e,h1,h2,h3,h4,h5]<;>rfl
theorem wW{c:v_}(h:Jp c)(S:List Cell):cQ [k_ c] S=.ok (.bl true) S:=by
 show cI S (eK [some (k_ c)] S)=_;unfold eK;have Lv:=h.op;have ht:Qw S (k_ c)=some "tuple":=by cases c<;>rfl
 have i1:f_ t_ (aa 0) (dC (.int 1)) [some (k_ c)] S=.ok (.int (c.FA:Int)) S:=ar rfl rfl (qk c S);have i0:f_ t_ (aa 0) (dC (.int 0)) [some (k_ c)] S=.ok (.str c.kn) S:=ar rfl rfl (nr c S);have len:am bw (ac (aa 0) ai) [some (k_ c)] S=.ok (.int (if c.ki<3 then 2 else 4)) S:=by
  refine ax (ag rfl aj) ?_;cases c<;>rfl
 have tt:bR (Ls "tuple" (aa 0)) [some (k_ c)] S=.ok true S:=by
  show((N5 "tuple" (k_ c)).bind tF) S=_;rw[av];simp only[N5,ht];rfl
 have t1:G8 (cW (bR (Ls "tuple" (aa 0)))) (G8 (al (f_ HQ (am bw (ac (aa 0) ai)) (dC (.int 2)))) (cW (bR (am aQ (ac (f_ t_ (aa 0) (dC (.int 1))) (ac (dC FN) ai)))))) [some (k_ c)] S=.ok false S:=by
  have u1:al (f_ HQ (am bw (ac (aa 0) ai)) (dC (.int 2))) [some (k_ c)] S=.ok false S:=by
   refine az (ar len rfl ?_);rw[qN,decide_eq_false (by split<;>omega)]
  have u2:bR (am aQ (ac (f_ t_ (aa 0) (dC (.int 1))) (ac (dC FN) ai))) [some (k_ c)] S=.ok true S:=by
   rw[cO,av,ax (ag i1 (ag rfl aj)) (eC (c.FA:Int) 65535 S),decide_eq_true (show(0:Int)<=(c.FA:Int) by omega),decide_eq_true (show(c.FA:Int)<=65535 by omega)];rfl
  rw[d7,av,cP,av,tt];show G8 _ _ _ S=_;rw[d7,av,u1];show cW _ _ S=_;rw[cP,av,u2];rfl
 have t2:al (f_ inD (f_ t_ (aa 0) (dC (.int 0))) (dC eB)) [some (k_ c)] S=.ok (decide (c.ki<3)) S:=az (ar i0 rfl (pT c S));rw[aw (by rw[ay t1];rfl)];by_cases hk:c.ki<3
 ·rw[decide_eq_true hk] at t2;rw[cZ (by rw[aV t2];exact aR (d:=.bl true) (ar len rfl (by rw[if_pos hk,jy];rfl)))];exact bA (by simp[GQ])
 ·rw[decide_eq_false hk] at t2;rw[aw (by rw[ay t2];rfl)];have t5:al (f_ Hg (am bw (ac (aa 0) ai)) (dC (.int 4))) [some (k_ c)] S=.ok false S:=az (ar len rfl (by rw[if_neg hk,gp];rfl));have t6:al (f_ Fo (f_ t_ (aa 0) (dC (.int 0))) (dC (.str "data"))) [some (k_ c)] S=.ok (decide (c.ki=3)) S:=az (ar i0 rfl (lg c S));have t7:al (f_ Fo (f_ t_ (aa 0) (dC (.int 0))) (dC (.str "note"))) [some (k_ c)] S=.ok (decide (c.ki=4)) S:=az (ar i0 rfl (lc c S));cases c with
  |x_ o=>exact absurd (show 0<3 by decide) hk
  |tB o=>exact absurd (show 1<3 by decide) hk
  |GU o=>exact absurd (show 2<3 by decide) hk
  |data o n p=>
   obtain⟨h1,h2,h3,h4,h5⟩:=h;have i2:f_ t_ (aa 0) (dC (.int 2)) [some (k_ (.data o n p))] S=.ok (.int (n:Int)) S:=rfl;have i3:f_ t_ (aa 0) (dC (.int 3)) [some (k_ (.data o n p))] S=.ok (FL p) S:=rfl;have u2:bR (am aQ (ac (f_ t_ (aa 0) (dC (.int 2))) (ac (dC Fp) ai))) [some (k_ (.data o n p))] S=.ok true S:=by
    rw[cO,av,ax (ag i2 (ag rfl aj)) (eC (n:Int) 13 S),decide_eq_true (show(0:Int)<=(n:Int) by omega),decide_eq_true (show(n:Int)<=13 by omega)];rfl
   have t8:G8 (al (f_ Hg (am bw (ac (aa 0) ai)) (dC (.int 4)))) (cW (bR (am aQ (ac (f_ t_ (aa 0) (dC (.int 2))) (ac (dC Fp) ai))))) [some (k_ (.data o n p))] S=.ok false S:=by
    rw[d7,av,t5];show cW _ _ S=_;rw[cP,av,u2];rfl
   rw[aw (by rw[ay t8];rfl),cZ (by rw[aV t6];exact aR (ax (ag i3 aj) (Ax h3 h4 h5 S)))];exact bA (by simp[GQ])
  |note o n bs=>
   obtain⟨h1,h2,h4,h5⟩:=h;have i2:f_ t_ (aa 0) (dC (.int 2)) [some (k_ (.note o n bs))] S=.ok (.int (n:Int)) S:=rfl;have i3:f_ t_ (aa 0) (dC (.int 3)) [some (k_ (.note o n bs))] S=.ok (.tup (bs.map D.int)) S:=rfl;have u2:bR (am aQ (ac (f_ t_ (aa 0) (dC (.int 2))) (ac (dC Fp) ai))) [some (k_ (.note o n bs))] S=.ok true S:=by
    rw[cO,av,ax (ag i2 (ag rfl aj)) (eC (n:Int) 13 S),decide_eq_true (show(0:Int)<=(n:Int) by omega),decide_eq_true (show(n:Int)<=13 by omega)];rfl
   have t8:G8 (al (f_ Hg (am bw (ac (aa 0) ai)) (dC (.int 4)))) (cW (bR (am aQ (ac (f_ t_ (aa 0) (dC (.int 2))) (ac (dC Fp) ai))))) [some (k_ (.note o n bs))] S=.ok false S:=by
    rw[d7,av,t5];show cW _ _ S=_;rw[cP,av,u2];rfl
   rw[aw (by rw[ay t8];rfl),aw (by rw[ay t6];rfl),aR (d:=.bl true) (S1:=S)]
   ·exact bA (by simp[GQ])
   ·rw[fV,av,t7];exact ax (ag i3 aj) (AS h4 h5 S)
theorem fK{c:v_}(h:Jp c):3<=(aA c).length/\(aA c).length<=13:=by
 cases c with
 |x_ o=>exact⟨by simp[aA],by simp[aA]⟩
 |tB o=>exact⟨by simp[aA],by simp[aA]⟩
 |GU o=>exact⟨by simp[aA],by simp[aA]⟩
 |data o n p=>obtain⟨h1,h2,h3,h4,h5⟩:=h;exact⟨by simp[aA],by simp[aA];omega⟩
 |note o n bs=>obtain⟨h1,h2,h4,h5⟩:=h;exact⟨by simp[aA],by simp[aA];omega⟩
end
end Lw
namespace Lw
open PySem L2 DL
section
variable{S:List Cell}{G:Cs}
theorem Ah{c:v_}(h:Jp c)(S:List Cell):j5 [k_ c] S=.ok (.tup ((aA c).map D.int)) S:=by
 show cI S (kS [some (k_ c),none] S)=_;unfold kS;have i1:f_ t_ (aa 0) (dC (.int 1)) [some (k_ c),none] S=.ok (.int (c.FA:Int)) S:=ar rfl rfl (qk c S);have i0:∀r,f_ t_ (aa 0) (dC (.int 0)) (some (k_ c) :: r) S=.ok (.str c.kn) S:=fun r=>ar rfl rfl (nr c S)
 have kx:mM d2 (ac (f_ t_ (aa 0) (dC (.int 0))) ai) [some (k_ c),none] S=.ok (.int (c.ki:Int)) S:=by
  unfold mM;rw[av,ag (i0 _) aj];exact AR c S
 rw[aw (bF (bM (ag kx (ag (ar i1 rfl (wu ⟨by decide,by decide⟩)) (ag (ar i1 rfl (da (by decide))) aj))) (by simp)))];show cI S (aL _ _ [some (k_ c),some (.tup [.int (c.ki:Int),.int ((c.FA:Int) / 256),.int ((c.FA:Int) % 256)])] S)=_;have t6:al (f_ Fo (f_ t_ (aa 0) (dC (.int 0))) (dC (.str "data"))) [some (k_ c),some (.tup [.int (c.ki:Int),.int ((c.FA:Int) / 256),.int ((c.FA:Int) % 256)])] S=.ok (decide (c.ki=3)) S:=az (ar (i0 _) rfl (lg c S));have t7:al (f_ Fo (f_ t_ (aa 0) (dC (.int 0))) (dC (.str "note"))) [some (k_ c),some (.tup [.int (c.ki:Int),.int ((c.FA:Int) / 256),.int ((c.FA:Int) % 256)])] S=.ok (decide (c.ki=4)) S:=az (ar (i0 _) rfl (lc c S));cases c with
 |x_ o=>
  rw[aw (by rw[ay t6];rfl),aw (by rw[ay t7];rfl),aR rfl];exact bA (by simp[GQ,iW])
 |tB o=>
  rw[aw (by rw[ay t6];rfl),aw (by rw[ay t7];rfl),aR rfl];exact bA (by simp[GQ,iW])
 |GU o=>
  rw[aw (by rw[ay t6];rfl),aw (by rw[ay t7];rfl),aR rfl];exact bA (by simp[GQ,iW])
 |data o n p=>
  obtain⟨h1,h2,h3,h4,h5⟩:=h;have e1:f_ bL (f_ bL (aa 1) (cn (ac (f_ t_ (aa 0) (dC (.int 2))) (ac (f_ t_ (f_ t_ (aa 0) (dC (.int 3))) (dC (.int 0))) ai)))) (f_ t_ (f_ t_ (aa 0) (dC (.int 3))) (dC (.int 1))) [some (k_ (.data o n p)),some (.tup [.int ((3:Nat):Int),.int ((o:Int) / 256),.int ((o:Int) % 256)])] S=.ok (.tup ((aA (.data o n p)).map D.int)) S:=by
   refine ar (ar rfl (bM (ag (x:=.int (n:Int)) rfl (ag (x:=.int p.1) rfl aj)) (by simp)) (fX (by simp))) (y:=.tup (p.2.map D.int)) rfl ?_;rw[fX (by simp;omega)];rfl
  rw[cZ (by rw[aV t6];exact aR e1)];exact bA (by unfold GQ;exact de _ _)
 |note o n bs=>
  obtain⟨h1,h2,h4,h5⟩:=h;have e1:f_ bL (f_ bL (aa 1) (cn (ac (f_ t_ (aa 0) (dC (.int 2))) ai))) (f_ t_ (aa 0) (dC (.int 3))) [some (k_ (.note o n bs)),some (.tup [.int ((4:Nat):Int),.int ((o:Int) / 256),.int ((o:Int) % 256)])] S=.ok (.tup ((aA (.note o n bs)).map D.int)) S:=by
   refine ar (ar rfl (bM (ag (x:=.int (n:Int)) rfl aj) (by simp)) (fX (by simp))) (y:=.tup (bs.map D.int)) rfl ?_;rw[fX (by simp;omega)];rfl
  rw[aw (by rw[ay t6];rfl),cZ (by rw[aV t7];exact aR e1)];exact bA (by unfold GQ;exact de _ _)
theorem wA{c:v_}(h:Jp c)(S:List Cell):jG G [k_ c] S=.ok (.tup ((GO (aA c)).map D.int)) S:=by
 show cI S (lM G [some (k_ c)] S)=_;unfold lM;have t1:cW (bR (am cQ (ac (aa 0) ai))) [some (k_ c)] S=.ok false S:=by
  rw[cP,av,cO,av,ax (ag rfl aj) (wW h S)];rfl
 have hl:=fK h;rw[aw (by rw[ay t1];rfl),aR (ax (ag (ax (ag rfl aj) (Ah h S)) aj) (nk _ (by omega) S))];exact bA (by unfold GQ;exact de _ _)
end
end Lw
namespace Lw
open PySem L2 DL
section
variable{S:List Cell}{G:Cs}
theorem sB{xs:List D}(h:2<=xs.length):fJ xs none (some (-2))=xs.take (xs.length-2):=by
 unfold fJ;have e:HT.Gs xs.length xs.length (some (-2))=xs.length-2:=by
  unfold HT.Gs;simp only[];split<;>omega
 rw[HT.IQ,e];simp
theorem ES(c:v_)(S:List Cell):t_ (.tup ((aA c).map D.int)) (.int 0) S=.ok (.int (c.ki:Int)) S:=aN (i:=0) (by cases c<;>rfl)
theorem Ez(c:v_)(S:List Cell):t_ (.tup ((aA c).map D.int)) (.int 1) S=.ok (.int ((c.FA:Int) / 256)) S:=aN (i:=1) (by cases c<;>rfl)
theorem EL(c:v_)(S:List Cell):t_ (.tup ((aA c).map D.int)) (.int 2) S=.ok (.int ((c.FA:Int) % 256)) S:=aN (i:=2) (by cases c<;>rfl)
theorem AT{c:v_}(h:Jp c)(S:List Cell):gz [.tup ((aA c).map D.int)] S=.ok (k_ c) S:=by
 show cI S (fu [some (.tup ((aA c).map D.int)),none,none,none] S)=_;unfold fu;have Lv:=h.op;have e1:f_ t_ (dC d2) (f_ t_ (aa 0) (dC (.int 0))) [some (.tup ((aA c).map D.int)),none,none,none] S=.ok (.str c.kn) S:=ar rfl (ar rfl rfl (ES c S)) (aN (i:=c.ki) (by cases c<;>rfl));have e2:f_ bL (f_ eI (f_ t_ (aa 0) (dC (.int 1))) (dC (.int 256))) (f_ t_ (aa 0) (dC (.int 2))) [some (.tup ((aA c).map D.int)),some (.str c.kn),none,none] S=.ok (.int (c.FA:Int)) S:=by
  have i1:f_ t_ (aa 0) (dC (.int 1)) [some (.tup ((aA c).map D.int)),some (.str c.kn),none,none] S=.ok (.int ((c.FA:Int) / 256)) S:=ar rfl rfl (Ez c S);have i2:f_ t_ (aa 0) (dC (.int 2)) [some (.tup ((aA c).map D.int)),some (.str c.kn),none,none] S=.ok (.int ((c.FA:Int) % 256)) S:=ar rfl rfl (EL c S);refine ar (ar i1 rfl (fT (.inr ⟨by decide,by decide⟩))) i2 ?_;rw[cx];congr 2;omega
 rw[aw (bF e1)];show cI S (aL _ _ [some (.tup ((aA c).map D.int)),some (.str c.kn),none,none] S)=_;rw[aw (bF e2)];show cI S (aL _ _ [some (.tup ((aA c).map D.int)),some (.str c.kn),some (.int (c.FA:Int)),none] S)=_;have hl:=fK h;have e3:HP Hh (aa 0) (bP (dC Fq)) bT [some (.tup ((aA c).map D.int)),some (.str c.kn),some (.int (c.FA:Int)),none] S=.ok (.tup (((aA c).drop 3).map D.int)) S:=by
  simp only[lE,kg,List.getElem?_cons_succ,List.getElem?_cons_zero,av,d3,kD,eZ,gc,tj,Hh];rw[show(3:Int)=((3:Nat):Int) from rfl,fR (by rw[List.length_map];omega),<-List.map_drop]
 rw[aw (bF e3)];show cI S (aL _ _ [some (.tup ((aA c).map D.int)),some (.str c.kn),some (.int (c.FA:Int)),some (.tup (((aA c).drop 3).map D.int))] S)=_;have t6:al (f_ Fo (aa 1) (dC (.str "data"))) [some (.tup ((aA c).map D.int)),some (.str c.kn),some (.int (c.FA:Int)),some (.tup (((aA c).drop 3).map D.int))] S=.ok (decide (c.ki=3)) S:=az (ar rfl rfl (lg c S));have t7:al (f_ Fo (aa 1) (dC (.str "note"))) [some (.tup ((aA c).map D.int)),some (.str c.kn),some (.int (c.FA:Int)),some (.tup (((aA c).drop 3).map D.int))] S=.ok (decide (c.ki=4)) S:=az (ar rfl rfl (lc c S));have sh:∀{r:s_},al (f_ Fo (aa 1) (dC (.str "data"))) r S=.ok false S->al (f_ Fo (aa 1) (dC (.str "note"))) r S=.ok false S->
   aL (Ga (cX (al (f_ Fo (aa 1) (dC (.str "data")))) (al (f_ IZ (am bw (ac (aa 3) ai)) (dC (.int 2))))) (bG (cn (ac (aa 1) (ac (aa 2) (ac (f_ t_ (aa 3) (dC (.int 0))) (ac (cn (ac (f_ t_ (aa 3) (dC (.int 1))) (ac (HP Hh (aa 3) (bP (dC (.int 2))) bT) ai))) ai)))))) bz)
    (aL (Ga (cX (al (f_ Fo (aa 1) (dC (.str "note")))) (al (f_ IZ (am bw (ac (aa 3) ai)) (dC (.int 1))))) (bG (cn (ac (aa 1) (ac (aa 2) (ac (f_ t_ (aa 3) (dC (.int 0))) (ac (HP Hh (aa 3) (bP (dC (.int 1))) bT) ai)))))) bz)
    (bG (f_ bL (cn (ac (aa 1) (ac (aa 2) ai))) (aa 3)))) r S=bG (f_ bL (cn (ac (aa 1) (ac (aa 2) ai))) (aa 3)) r S:=by
  intro r a b;rw[aw (by rw[ay (by rw[cL,av,a];rfl)];rfl),aw (by rw[ay (by rw[cL,av,b];rfl)];rfl)]
 cases c with
 |x_ o=>
  rw[sh t6 t7,aR (ar (bM (ag rfl (ag rfl aj)) (by simp)) rfl (fX (by simp[aA])))];exact bA (k9 _ (.x_ o))
 |tB o=>
  rw[sh t6 t7,aR (ar (bM (ag rfl (ag rfl aj)) (by simp)) rfl (fX (by simp[aA])))];exact bA (k9 _ (.tB o))
 |GU o=>
  rw[sh t6 t7,aR (ar (bM (ag rfl (ag rfl aj)) (by simp)) rfl (fX (by simp[aA])))];exact bA (k9 _ (.GU o))
 |data o n p=>
  obtain⟨h1,h2,h3,h4,h5⟩:=h;have UA:(aA (.data o n p)).drop 3=(n:Int) :: p.1 :: p.2:=rfl;rw[UA] at t6 ⊢;have g1:al (f_ IZ (am bw (ac (aa 3) ai)) (dC (.int 2))) [some (.tup ((aA (.data o n p)).map D.int)),some (.str (v_.data o n p).kn),some (.int ((v_.data o n p).FA:Int)),some (.tup (((n:Int) :: p.1 :: p.2).map D.int))] S=.ok true S:=by
   refine az (ar (ax (ag rfl aj) (cb _)) rfl ?_);rw[tu,decide_eq_true (by simp;omega)]
  have g2:HP Hh (aa 3) (bP (dC (.int 2))) bT [some (.tup ((aA (.data o n p)).map D.int)),some (.str (v_.data o n p).kn),some (.int ((v_.data o n p).FA:Int)),some (.tup (((n:Int) :: p.1 :: p.2).map D.int))] S=.ok (.tup (p.2.map D.int)) S:=by
   simp only[lE,kg,List.getElem?_cons_succ,List.getElem?_cons_zero,av,d3,kD,eZ,gc,tj,Hh];rw[show(2:Int)=((2:Nat):Int) from rfl,fR (by simp)];rfl
  rw[cZ (by rw[aV (by rw[cL,av,t6];exact g1)];exact aR (bM (ag rfl (ag rfl (ag (x:=.int (n:Int)) (ar rfl rfl (aN (i:=0) rfl)) (ag (bM (ag (x:=.int p.1) (ar rfl rfl (aN (i:=1) rfl)) (ag g2 aj)) (by simp)) aj)))) (by simp)))];exact bA (k9 _ (.data o n p))
 |note o n bs=>
  obtain⟨h1,h2,h4,h5⟩:=h;have UA:(aA (.note o n bs)).drop 3=(n:Int) :: bs:=rfl;rw[UA] at t6 t7 ⊢;have g1:al (f_ IZ (am bw (ac (aa 3) ai)) (dC (.int 1))) [some (.tup ((aA (.note o n bs)).map D.int)),some (.str (v_.note o n bs).kn),some (.int ((v_.note o n bs).FA:Int)),some (.tup (((n:Int) :: bs).map D.int))] S=.ok true S:=by
   refine az (ar (ax (ag rfl aj) (cb _)) rfl ?_);rw[tu,decide_eq_true (by simp;omega)]
  have g2:HP Hh (aa 3) (bP (dC (.int 1))) bT [some (.tup ((aA (.note o n bs)).map D.int)),some (.str (v_.note o n bs).kn),some (.int ((v_.note o n bs).FA:Int)),some (.tup (((n:Int) :: bs).map D.int))] S=.ok (.tup (bs.map D.int)) S:=by
   simp only[lE,kg,List.getElem?_cons_succ,List.getElem?_cons_zero,av,d3,kD,eZ,gc,tj,Hh];rw[show(1:Int)=((1:Nat):Int) from rfl,fR (by simp)];rfl
  rw[aw (by rw[ay (by rw[cL,av,t6];rfl)];rfl),cZ (by rw[aV (by rw[cL,av,t7];exact g1)];exact aR (bM (ag rfl (ag rfl (ag (x:=.int (n:Int)) (ar rfl rfl (aN (i:=0) rfl)) (ag g2 aj)))) (by simp)))];exact bA (k9 _ (.note o n bs))
theorem sH{c:v_}(h:Jp c):∀x,x∈aA c->0<=x/\x<=255:=by
 have Lv:=h.op;intro x hx;cases c with
 |x_ o=>have:o<=65535:=Lv;simp[aA] at hx;omega
 |tB o=>have:o<=65535:=Lv;simp[aA] at hx;omega
 |GU o=>have:o<=65535:=Lv;simp[aA] at hx;omega
 |data o n p=>
  obtain⟨h1,h2,h3,h4,h5⟩:=h;simp[aA] at hx;rcases hx with hx|hx|hx|hx|hx|hx
  ·omega
  ·omega
  ·omega
  ·omega
  ·omega
  ·exact h5 x hx
 |note o n bs=>
  obtain⟨h1,h2,h4,h5⟩:=h;simp[aA] at hx;rcases hx with hx|hx|hx|hx|hx
  ·omega
  ·omega
  ·omega
  ·omega
  ·have:=h5 x hx;omega
theorem Aj{cs:List Int}(h:∀x,x∈cs->0<=x/\x<=255):∀x,x∈GO cs->0<=x/\x<=255:=by
 intro x hx;unfold GO at hx;rcases List.mem_append.mp hx with hx|hx
 ·rcases List.mem_append.mp hx with hx|hx
  ·exact h x hx
  ·rw[List.mem_singleton.mp hx];omega
 ·rw[List.mem_singleton.mp hx];omega
theorem mv(cs:List Int):(GO cs).length=cs.length+2:=by simp[GO]
theorem mU(cs:List Int):(GO cs).take cs.length=cs:=by
 unfold GO;rw[List.append_assoc];exact List.take_left
theorem xO{c:v_}(h:Jp c)(S:List Cell):iH G [.tup ((GO (aA c)).map D.int)] S=.ok (k_ c) S:=by
 show cI S (mI G [some (.tup ((GO (aA c)).map D.int)),none,none] S)=_;unfold mI;have hl:=fK h;have Na:=mv (aA c);have u1:bR (am b0 (ac (aa 0) (ac (dC FQ) ai))) [some (.tup ((GO (aA c)).map D.int)),none,none] S=.ok true S:=by
  rw[cO,av,ax (ag rfl (ag rfl aj)) (wb (by omega) (Aj (sH h)) S)];rfl
 have u2:al (f_ HQ (am bw (ac (aa 0) ai)) (f_ bL (dC Fq) (dC Fi))) [some (.tup ((GO (aA c)).map D.int)),none,none] S=.ok false S:=by
  refine az (ar (ax (ag rfl aj) (cb _)) (ar rfl rfl (cx _ _)) ?_);rw[qN,List.length_map,decide_eq_false (by omega)]
 have u3:al (f_ IZ (f_ t_ (aa 0) (dC (.int 0))) (am bw (ac (dC d2) ai))) [some (.tup ((GO (aA c)).map D.int)),none,none] S=.ok false S:=by
  have i0:f_ t_ (aa 0) (dC (.int 0)) [some (.tup ((GO (aA c)).map D.int)),none,none] S=.ok (.int (c.ki:Int)) S:=ar rfl rfl (aN (i:=0) (by cases c<;>rfl));have hk:c.ki<=4:=by cases c<;>simp[v_.ki]
  refine az (ar i0 (ax (ag rfl aj) (cb _)) ?_);rw[tu,decide_eq_false];show ¬((5:Int)<=(c.ki:Int));omega
 have t1:G8 (cW (bR (am b0 (ac (aa 0) (ac (dC FQ) ai))))) (G8 (al (f_ HQ (am bw (ac (aa 0) ai)) (f_ bL (dC Fq) (dC Fi)))) (al (f_ IZ (f_ t_ (aa 0) (dC (.int 0))) (am bw (ac (dC d2) ai))))) [some (.tup ((GO (aA c)).map D.int)),none,none] S=.ok false S:=by
  rw[d7,av,cP,av,u1];show G8 _ _ _ S=_;rw[d7,av,u2];exact u3
 rw[aw (by rw[ay t1];rfl)];have e1:HP Hh (aa 0) bT (bP (Qz B9 (dC Fi))) [some (.tup ((GO (aA c)).map D.int)),none,none] S=.ok (.tup ((aA c).map D.int)) S:=by
  have P5:fJ ((GO (aA c)).map D.int) none (some (-2))=(aA c).map D.int:=by
   rw[sB (by rw[List.length_map];omega),List.length_map,Na,<-List.map_take,show(aA c).length+2-2=(aA c).length by omega,mU]
  show R.ok (D.tup (fJ ((GO (aA c)).map D.int) none (some (-2)))) S=_;rw[P5]
 rw[aw (bF e1)];show cI S (aL _ _ [some (.tup ((GO (aA c)).map D.int)),some (.tup ((aA c).map D.int)),none] S)=_;have t2:al (f_ Hg (aa 0) (am cE (ac (aa 1) ai))) [some (.tup ((GO (aA c)).map D.int)),some (.tup ((aA c).map D.int)),none] S=.ok false S:=
  az (ar rfl (ax (ag rfl aj) (nk _ (by omega) S)) (xI (w4 (n:=28) (GO (aA c))) (w4 (n:=28) (GO (aA c)))))
 rw[aw (by rw[ay t2];rfl),aw (bF (ax (ag rfl aj) (AT h S)))];show cI S (aL _ _ [some (.tup ((GO (aA c)).map D.int)),some (.tup ((aA c).map D.int)),some (k_ c)] S)=_;have t3:cW (bR (am cQ (ac (aa 2) ai))) [some (.tup ((GO (aA c)).map D.int)),some (.tup ((aA c).map D.int)),some (k_ c)] S=.ok false S:=by
  rw[cP,av,cO,av,ax (ag rfl aj) (wW h S)];rfl
 rw[aw (by rw[ay t3];rfl),aR rfl];exact bA (k9 _ c)
end
end Lw
namespace Lw
open PySem L2 DL
section
variable{S:List Cell}{G:Cs}
theorem zG(p:Pc)(hl:p.2.length<=1000)(S:List Cell):iA [FL p] S=.ok (.bl (decide (0<=p.1/\p.1<=1) && (p.2.all fun i=>decide (0<=i) && decide (i<=255)) && decide (p.2.length<=8))) S:=by
 show cI S (gs [some (FL p)] S)=_;unfold gs;have t1:G8 (cW (bR (Ls "tuple" (aa 0)))) (al (f_ Hg (am bw (ac (aa 0) ai)) (dC (.int 2)))) [some (FL p)] S=.ok false S:=by
  have u:al (f_ Hg (am bw (ac (aa 0) ai)) (dC (.int 2))) [some (FL p)] S=.ok false S:=az (ar (x:=.int 2) (ax (ag rfl aj) rfl) rfl (gp 2 2));rw[d7,av,cP,av];exact u
 rw[aw (by rw[ay t1];rfl)];have i0:f_ t_ (aa 0) (dC (.int 0)) [some (FL p)] S=.ok (.int p.1) S:=rfl;have i1:f_ t_ (aa 0) (dC (.int 1)) [some (FL p)] S=.ok (.tup (p.2.map D.int)) S:=rfl;have e1:al (am aQ (ac (f_ t_ (aa 0) (dC (.int 0))) (ac (dC (.int 1)) ai))) [some (FL p)] S=.ok (decide (0<=p.1) && decide (p.1<=1)) S:=az (ax (ag i0 (ag rfl aj)) (eC _ _ S));have e2:al (am b0 (ac (f_ t_ (aa 0) (dC (.int 1))) (ac (dC FQ) ai))) [some (FL p)] S=.ok (p.2.all fun i=>decide (0<=i) && decide (i<=255)) S:=az (ax (ag i1 (ag rfl aj)) (sN _ _ (by omega) S));have e3:f_ JY (am bw (ac (f_ t_ (aa 0) (dC (.int 1))) ai)) (dC FW) [some (FL p)] S=.ok (.bl (decide (p.2.length<=8))) S:=by
  refine ar (ax (ag i1 aj) (cb _)) rfl ?_;rw[vF,List.length_map];congr 2;rw[decide_eq_decide];omega
 obtain⟨b2,Rx⟩:∃b2,(p.2.all fun i=>decide (0<=i) && decide (i<=255))=b2:=⟨_,rfl⟩;rw[Rx] at e2 ⊢;have hd:decide (0<=p.1/\p.1<=1)=(decide (0<=p.1) && decide (p.1<=1)):=by simp
 rw[hd];obtain⟨b1,P6⟩:∃b1,(decide (0<=p.1) && decide (p.1<=1))=b1:=⟨_,rfl⟩;rw[P6] at e1 ⊢;rw[aR (d:=.bl (b1 && b2 && decide (p.2.length<=8))) (S1:=S)]
 ·exact bA (by simp[GQ])
 ·rw[fV,av,e1];cases b1 with
  |false=>rfl
  |true=>
   show im _ _ _ S=_;rw[fV,av,e2];cases b2 with
   |false=>rfl
   |true=>exact e3
theorem AG(bs:List Int)(hl:bs.length<=1000)(S:List Cell):il [.tup (bs.map D.int)] S=.ok (.bl ((bs.all fun i=>decide (0<=i) && decide (i<=1)) && decide (bs.length<=7))) S:=by
 show cI S (gu [some (.tup (bs.map D.int))] S)=_;unfold gu;have e2:al (am b0 (ac (aa 0) (ac (dC (.int 1)) ai))) [some (.tup (bs.map D.int))] S=.ok (bs.all fun i=>decide (0<=i) && decide (i<=1)) S:=az (ax (ag rfl (ag rfl aj)) (sN _ _ (by omega) S));have e3:f_ JY (am bw (ac (aa 0) ai)) (dC Hi) [some (.tup (bs.map D.int))] S=.ok (.bl (decide (bs.length<=7))) S:=by
  refine ar (ax (ag rfl aj) (cb _)) rfl ?_;rw[vF,List.length_map];congr 2;rw[decide_eq_decide];omega
 obtain⟨b2,Rx⟩:∃b2,(bs.all fun i=>decide (0<=i) && decide (i<=1))=b2:=⟨_,rfl⟩;rw[Rx] at e2 ⊢;rw[aR (d:=.bl (b2 && decide (bs.length<=7))) (S1:=S)]
 ·exact bA (by simp[GQ])
 ·rw[fV,av,e2];cases b2 with
  |false=>rfl
  |true=>exact e3
theorem Mm{l:List Int}{t:Int}:(l.all fun i=>decide (0<=i) && decide (i<=t))=true↔∀x,x∈l->0<=x/\x<=t:=by
 rw[List.all_eq_true];constructor
 ·intro h x hx;have:=h x hx;simp at this;exact this
 ·intro h x hx;simp[h x hx]
theorem w8{c:v_}(Lv:c.FA<=65535)(hz:∀o n p,c=.data o n p->p.2.length<=1000)(WK:∀o n bs,c=.note o n bs->bs.length<=1000)(h:¬Jp c)(S:List Cell):cQ [k_ c] S=.ok (.bl false) S:=by
 show cI S (eK [some (k_ c)] S)=_;unfold eK;have ht:Qw S (k_ c)=some "tuple":=by cases c<;>rfl
 have i1:f_ t_ (aa 0) (dC (.int 1)) [some (k_ c)] S=.ok (.int (c.FA:Int)) S:=ar rfl rfl (qk c S);have i0:f_ t_ (aa 0) (dC (.int 0)) [some (k_ c)] S=.ok (.str c.kn) S:=ar rfl rfl (nr c S);have len:am bw (ac (aa 0) ai) [some (k_ c)] S=.ok (.int (if c.ki<3 then 2 else 4)) S:=by
  refine ax (ag rfl aj) ?_;cases c<;>rfl
 have tt:bR (Ls "tuple" (aa 0)) [some (k_ c)] S=.ok true S:=by
  show((N5 "tuple" (k_ c)).bind tF) S=_;rw[av];simp only[N5,ht];rfl
 have t1:G8 (cW (bR (Ls "tuple" (aa 0)))) (G8 (al (f_ HQ (am bw (ac (aa 0) ai)) (dC (.int 2)))) (cW (bR (am aQ (ac (f_ t_ (aa 0) (dC (.int 1))) (ac (dC FN) ai)))))) [some (k_ c)] S=.ok false S:=by
  have u1:al (f_ HQ (am bw (ac (aa 0) ai)) (dC (.int 2))) [some (k_ c)] S=.ok false S:=by
   refine az (ar len rfl ?_);rw[qN,decide_eq_false (by split<;>omega)]
  have u2:bR (am aQ (ac (f_ t_ (aa 0) (dC (.int 1))) (ac (dC FN) ai))) [some (k_ c)] S=.ok true S:=by
   rw[cO,av,ax (ag i1 (ag rfl aj)) (eC (c.FA:Int) 65535 S),decide_eq_true (show(0:Int)<=(c.FA:Int) by omega),decide_eq_true (show(c.FA:Int)<=65535 by omega)];rfl
  rw[d7,av,cP,av,tt];show G8 _ _ _ S=_;rw[d7,av,u1];show cW _ _ S=_;rw[cP,av,u2];rfl
 have t2:al (f_ inD (f_ t_ (aa 0) (dC (.int 0))) (dC eB)) [some (k_ c)] S=.ok (decide (c.ki<3)) S:=az (ar i0 rfl (pT c S));rw[aw (by rw[ay t1];rfl)];have t6:al (f_ Fo (f_ t_ (aa 0) (dC (.int 0))) (dC (.str "data"))) [some (k_ c)] S=.ok (decide (c.ki=3)) S:=az (ar i0 rfl (lg c S));have t7:al (f_ Fo (f_ t_ (aa 0) (dC (.int 0))) (dC (.str "note"))) [some (k_ c)] S=.ok (decide (c.ki=4)) S:=az (ar i0 rfl (lc c S));cases c with
 |x_ o=>exact absurd Lv h
 |tB o=>exact absurd Lv h
 |GU o=>exact absurd Lv h
 |data o n p=>
  rw[aw (by rw[ay t2];rfl)];have t5:al (f_ Hg (am bw (ac (aa 0) ai)) (dC (.int 4))) [some (k_ (.data o n p))] S=.ok false S:=az (ar len rfl (gp 4 4));have i2:f_ t_ (aa 0) (dC (.int 2)) [some (k_ (.data o n p))] S=.ok (.int (n:Int)) S:=rfl;have i3:f_ t_ (aa 0) (dC (.int 3)) [some (k_ (.data o n p))] S=.ok (FL p) S:=rfl;have u2:bR (am aQ (ac (f_ t_ (aa 0) (dC (.int 2))) (ac (dC Fp) ai))) [some (k_ (.data o n p))] S=.ok (decide (n<=13)) S:=by
   rw[cO,av,ax (ag i2 (ag rfl aj)) (eC (n:Int) 13 S),decide_eq_true (show(0:Int)<=(n:Int) by omega)];show R.ok (true && decide ((n:Int)<=13)) S=_;rw[Bool.true_and];congr 1;rw[decide_eq_decide];omega
  have t8:G8 (al (f_ Hg (am bw (ac (aa 0) ai)) (dC (.int 4)))) (cW (bR (am aQ (ac (f_ t_ (aa 0) (dC (.int 2))) (ac (dC Fp) ai))))) [some (k_ (.data o n p))] S=.ok (!decide (n<=13)) S:=by
   rw[d7,av,t5];show cW _ _ S=_;rw[cP,av,u2];rfl
  by_cases hn:n<=13
  ·rw[decide_eq_true hn] at t8;have hp:=zG p (hz o n p rfl) S;have hf:(decide (0<=p.1/\p.1<=1) && (p.2.all fun i=>decide (0<=i) && decide (i<=255)) && decide (p.2.length<=8))=false:=by
    rw[<-Bool.not_eq_true];intro z;simp only[Bool.and_eq_true,decide_eq_true_eq] at z;exact h ⟨Lv,hn,z.1.1,z.2,Mm.mp z.1.2⟩
   rw[hf] at hp;rw[aw (by rw[ay t8];rfl),cZ (by rw[aV t6];exact aR (ax (ag i3 aj) hp))];exact bA (by simp[GQ])
  ·rw[decide_eq_false hn] at t8;rw[cZ (by rw[aV t8];exact aR rfl)];exact bA (by simp[GQ])
 |note o n bs=>
  rw[aw (by rw[ay t2];rfl)];have t5:al (f_ Hg (am bw (ac (aa 0) ai)) (dC (.int 4))) [some (k_ (.note o n bs))] S=.ok false S:=az (ar len rfl (gp 4 4));have i2:f_ t_ (aa 0) (dC (.int 2)) [some (k_ (.note o n bs))] S=.ok (.int (n:Int)) S:=rfl;have i3:f_ t_ (aa 0) (dC (.int 3)) [some (k_ (.note o n bs))] S=.ok (.tup (bs.map D.int)) S:=rfl;have u2:bR (am aQ (ac (f_ t_ (aa 0) (dC (.int 2))) (ac (dC Fp) ai))) [some (k_ (.note o n bs))] S=.ok (decide (n<=13)) S:=by
   rw[cO,av,ax (ag i2 (ag rfl aj)) (eC (n:Int) 13 S),decide_eq_true (show(0:Int)<=(n:Int) by omega)];show R.ok (true && decide ((n:Int)<=13)) S=_;rw[Bool.true_and];congr 1;rw[decide_eq_decide];omega
  have t8:G8 (al (f_ Hg (am bw (ac (aa 0) ai)) (dC (.int 4)))) (cW (bR (am aQ (ac (f_ t_ (aa 0) (dC (.int 2))) (ac (dC Fp) ai))))) [some (k_ (.note o n bs))] S=.ok (!decide (n<=13)) S:=by
   rw[d7,av,t5];show cW _ _ S=_;rw[cP,av,u2];rfl
  by_cases hn:n<=13
  ·rw[decide_eq_true hn] at t8;have hp:=AG bs (WK o n bs rfl) S;have hf:((bs.all fun i=>decide (0<=i) && decide (i<=1)) && decide (bs.length<=7))=false:=by
    rw[<-Bool.not_eq_true];intro z;simp only[Bool.and_eq_true,decide_eq_true_eq] at z;exact h ⟨Lv,hn,z.2,Mm.mp z.1⟩
   rw[hf] at hp;rw[aw (by rw[ay t8];rfl),aw (by rw[ay t6];rfl),aR (d:=.bl false) (S1:=S)]
   ·exact bA (by simp[GQ])
   ·rw[fV,av,t7];exact ax (ag i3 aj) hp
  ·rw[decide_eq_false hn] at t8;rw[cZ (by rw[aV t8];exact aR rfl)];exact bA (by simp[GQ])
end
end Lw
namespace Lw
open PySem L2 DL
section
variable{S:List Cell}{G:Cs}
def d8:Nat->Nat->v_
 |0,o=>.x_ o
 |1,o=>.tB o
 |2,o=>.GU o
 |3,o=>.data o 0 (0,[])
 |_,o=>.note o 0 []
theorem ul{k:Nat}(h:k<=4)(o:Nat):(d8 k o).ki=k:=by
 match k,h with
 |0,_=>rfl
 |1,_=>rfl
 |2,_=>rfl
 |3,_=>rfl
 |4,_=>rfl
theorem Ab{k:Nat}(h:k<=4)(o:Nat)(S:List Cell):t_ d2 (.int (k:Int)) S=.ok (.str (d8 k o).kn) S:=by
 match k,h with
 |0,_=>exact aN (i:=0) rfl
 |1,_=>exact aN (i:=1) rfl
 |2,_=>exact aN (i:=2) rfl
 |3,_=>exact aN (i:=3) rfl
 |4,_=>exact aN (i:=4) rfl
def gw(k o:Nat)(rest:List Int):D:=.tup (.str (d8 k o).kn :: .int (o:Int) :: rest.map D.int)
theorem AO{k o:Nat}(hk:k<=4)(ho:o<=65535){rest:List Int}(h:(k<3/\rest≠[])\/(3<=k/\rest.length≠2))(S:List Cell):cQ [gw k o rest] S=.ok (.bl false) S:=by
 show cI S (eK [some (gw k o rest)] S)=_;unfold eK;have Su:=ul hk o;have i1:f_ t_ (aa 0) (dC (.int 1)) [some (gw k o rest)] S=.ok (.int (o:Int)) S:=ar rfl rfl (aN (i:=1) rfl);have i0:f_ t_ (aa 0) (dC (.int 0)) [some (gw k o rest)] S=.ok (.str (d8 k o).kn) S:=ar rfl rfl (aN (i:=0) rfl);have len:am bw (ac (aa 0) ai) [some (gw k o rest)] S=.ok (.int ((rest.length+2:Nat):Int)) S:=by
  refine ax (ag rfl aj) ?_;unfold gw;rw[cb];congr 2;simp;omega
 have tt:bR (Ls "tuple" (aa 0)) [some (gw k o rest)] S=.ok true S:=rfl;have t1:G8 (cW (bR (Ls "tuple" (aa 0)))) (G8 (al (f_ HQ (am bw (ac (aa 0) ai)) (dC (.int 2)))) (cW (bR (am aQ (ac (f_ t_ (aa 0) (dC (.int 1))) (ac (dC FN) ai)))))) [some (gw k o rest)] S=.ok false S:=by
  have u1:al (f_ HQ (am bw (ac (aa 0) ai)) (dC (.int 2))) [some (gw k o rest)] S=.ok false S:=by
   refine az (ar len rfl ?_);rw[qN,decide_eq_false (by omega)]
  have u2:bR (am aQ (ac (f_ t_ (aa 0) (dC (.int 1))) (ac (dC FN) ai))) [some (gw k o rest)] S=.ok true S:=by
   rw[cO,av,ax (ag i1 (ag rfl aj)) (eC (o:Int) 65535 S),decide_eq_true (show(0:Int)<=(o:Int) by omega),decide_eq_true (show(o:Int)<=65535 by omega)];rfl
  rw[d7,av,cP,av,tt];show G8 _ _ _ S=_;rw[d7,av,u1];show cW _ _ S=_;rw[cP,av,u2];rfl
 have t2:al (f_ inD (f_ t_ (aa 0) (dC (.int 0))) (dC eB)) [some (gw k o rest)] S=.ok (decide (k<3)) S:=by
  have:=pT (d8 k o) S;rw[Su] at this;exact az (ar i0 rfl this)
 rw[aw (by rw[ay t1];rfl)];by_cases W7:k<3
 ·rw[decide_eq_true W7] at t2;have hr:rest≠[]:=by
   rcases h with h|h
   ·exact h.2
   ·omega
  have hl:0<rest.length:=List.length_pos_iff.mpr hr;rw[cZ (by rw[aV t2];exact aR (d:=.bl false) (ar len rfl (by rw[jy,decide_eq_false (by omega)])))];exact bA (by simp[GQ])
 ·rw[decide_eq_false W7] at t2;rw[aw (by rw[ay t2];rfl)];have hr:rest.length≠2:=by
   rcases h with h|h
   ·omega
   ·exact h.2
  have t5:al (f_ Hg (am bw (ac (aa 0) ai)) (dC (.int 4))) [some (gw k o rest)] S=.ok true S:=az (ar len rfl (by rw[gp,decide_eq_false (by omega)];rfl));have t8:G8 (al (f_ Hg (am bw (ac (aa 0) ai)) (dC (.int 4)))) (cW (bR (am aQ (ac (f_ t_ (aa 0) (dC (.int 2))) (ac (dC Fp) ai))))) [some (gw k o rest)] S=.ok true S:=by
   rw[d7,av,t5];rfl
  rw[cZ (by rw[aV t8];exact aR rfl)];exact bA (by simp[GQ])
def ox(k o:Nat)(rest:List Int):D:=match k,rest with
 |3,n :: f :: l=>.tup [.str "data",.int (o:Int),.int n,.tup [.int f,.tup (l.map D.int)]]
 |4,n :: bs=>.tup [.str "note",.int (o:Int),.int n,.tup (bs.map D.int)]
 |k,rest=>gw k o rest
theorem tQ(z k o:Nat)(rest:List Int):GQ z (ox k o rest):=by
 unfold ox;split<;>simp[gw,GQ,iW,de]
theorem zb{k hi lo:Nat}(hk:k<=4){rest:List Int}(hr:rest.length<=1000)(S:List Cell) :
  gz [.tup (((k:Int) :: (hi:Int) :: (lo:Int) :: rest).map D.int)] S=.ok (ox k (hi * 256+lo) rest) S:=by
 obtain⟨o,ho⟩:∃o,hi * 256+lo=o:=⟨_,rfl⟩;rw[ho];obtain⟨cs,JW⟩:∃cs,(k:Int) :: (hi:Int) :: (lo:Int) :: rest=cs:=⟨_,rfl⟩;rw[JW];have g0:∀S,t_ (.tup (cs.map D.int)) (.int 0) S=.ok (.int (k:Int)) S:=fun S=>by rw[<-JW];exact aN (i:=0) rfl
 have g1:∀S,t_ (.tup (cs.map D.int)) (.int 1) S=.ok (.int (hi:Int)) S:=fun S=>by rw[<-JW];exact aN (i:=1) rfl
 have g2:∀S,t_ (.tup (cs.map D.int)) (.int 2) S=.ok (.int (lo:Int)) S:=fun S=>by rw[<-JW];exact aN (i:=2) rfl
 have Ry:cs.drop 3=rest:=by rw[<-JW];rfl
 have Na:3<=cs.length:=by rw[<-JW];simp
 show cI S (fu [some (.tup (cs.map D.int)),none,none,none] S)=_;unfold fu;have e1:f_ t_ (dC d2) (f_ t_ (aa 0) (dC (.int 0))) [some (.tup (cs.map D.int)),none,none,none] S=.ok (.str (d8 k o).kn) S:=ar rfl (ar rfl rfl (g0 S)) (Ab hk o S);have e2:f_ bL (f_ eI (f_ t_ (aa 0) (dC (.int 1))) (dC (.int 256))) (f_ t_ (aa 0) (dC (.int 2))) [some (.tup (cs.map D.int)),some (.str (d8 k o).kn),none,none] S=.ok (.int (o:Int)) S:=by
  refine ar (ar (ar rfl rfl (g1 S)) rfl (fT (.inr ⟨by decide,by decide⟩))) (ar rfl rfl (g2 S)) ?_;rw[cx];congr 2;omega
 rw[aw (bF e1)];show cI S (aL _ _ [some (.tup (cs.map D.int)),some (.str (d8 k o).kn),none,none] S)=_;rw[aw (bF e2)];show cI S (aL _ _ [some (.tup (cs.map D.int)),some (.str (d8 k o).kn),some (.int (o:Int)),none] S)=_;have e3:HP Hh (aa 0) (bP (dC Fq)) bT [some (.tup (cs.map D.int)),some (.str (d8 k o).kn),some (.int (o:Int)),none] S=.ok (.tup (rest.map D.int)) S:=by
  simp only[lE,kg,List.getElem?_cons_succ,List.getElem?_cons_zero,av,d3,kD,eZ,gc,tj,Hh];rw[show(3:Int)=((3:Nat):Int) from rfl,fR (by rw[List.length_map];omega),<-List.map_drop,Ry]
 rw[aw (bF e3)];show cI S (aL _ _ [some (.tup (cs.map D.int)),some (.str (d8 k o).kn),some (.int (o:Int)),some (.tup (rest.map D.int))] S)=_;have Su:=ul hk o;have t6:al (f_ Fo (aa 1) (dC (.str "data"))) [some (.tup (cs.map D.int)),some (.str (d8 k o).kn),some (.int (o:Int)),some (.tup (rest.map D.int))] S=.ok (decide (k=3)) S:=by
  have:=lg (d8 k o) S;rw[Su] at this;exact az (ar rfl rfl this)
 have t7:al (f_ Fo (aa 1) (dC (.str "note"))) [some (.tup (cs.map D.int)),some (.str (d8 k o).kn),some (.int (o:Int)),some (.tup (rest.map D.int))] S=.ok (decide (k=4)) S:=by
  have:=lc (d8 k o) S;rw[Su] at this;exact az (ar rfl rfl this)
 have n2:al (f_ IZ (am bw (ac (aa 3) ai)) (dC (.int 2))) [some (.tup (cs.map D.int)),some (.str (d8 k o).kn),some (.int (o:Int)),some (.tup (rest.map D.int))] S=.ok (decide (2<=rest.length)) S:=by
  refine az (ar (ax (ag rfl aj) (cb _)) rfl ?_);rw[tu,List.length_map];congr 2;rw[decide_eq_decide];omega
 have n1:al (f_ IZ (am bw (ac (aa 3) ai)) (dC (.int 1))) [some (.tup (cs.map D.int)),some (.str (d8 k o).kn),some (.int (o:Int)),some (.tup (rest.map D.int))] S=.ok (decide (1<=rest.length)) S:=by
  refine az (ar (ax (ag rfl aj) (cb _)) rfl ?_);rw[tu,List.length_map];congr 2;rw[decide_eq_decide];omega
 have t9:cX (al (f_ Fo (aa 1) (dC (.str "data")))) (al (f_ IZ (am bw (ac (aa 3) ai)) (dC (.int 2)))) [some (.tup (cs.map D.int)),some (.str (d8 k o).kn),some (.int (o:Int)),some (.tup (rest.map D.int))] S=.ok (decide (k=3) && decide (2<=rest.length)) S:=by
  rw[cL,av,t6];cases decide (k=3) with
  |false=>rfl
  |true=>exact n2
 have Sv:cX (al (f_ Fo (aa 1) (dC (.str "note")))) (al (f_ IZ (am bw (ac (aa 3) ai)) (dC (.int 1)))) [some (.tup (cs.map D.int)),some (.str (d8 k o).kn),some (.int (o:Int)),some (.tup (rest.map D.int))] S=.ok (decide (k=4) && decide (1<=rest.length)) S:=by
  rw[cL,av,t7];cases decide (k=4) with
  |false=>rfl
  |true=>exact n1
 have last:bG (f_ bL (cn (ac (aa 1) (ac (aa 2) ai))) (aa 3)) [some (.tup (cs.map D.int)),some (.str (d8 k o).kn),some (.int (o:Int)),some (.tup (rest.map D.int))] S=some (.rt (gw k o rest),S):=
  aR (ar (bM (ag rfl (ag rfl aj)) (by simp)) rfl (fX (by simp;omega)))
 by_cases h3:k=3/\2<=rest.length
 ·obtain⟨rfl,hl⟩:=h3
  match rest,hl with
  |n :: f :: l,_=>
   rw[decide_eq_true (show(3:Nat)=3 from rfl),decide_eq_true (show 2<=(n :: f :: l).length by simp)] at t9;have c2:HP Hh (aa 3) (bP (dC (.int 2))) bT [some (.tup (cs.map D.int)),some (.str (d8 3 o).kn),some (.int (o:Int)),some (.tup ((n :: f :: l).map D.int))] S=.ok (.tup (l.map D.int)) S:=by
    simp only[lE,kg,List.getElem?_cons_succ,List.getElem?_cons_zero,av,d3,kD,eZ,gc,tj,Hh];rw[show(2:Int)=((2:Nat):Int) from rfl,fR (by simp)];rfl
   rw[cZ (by rw[aV t9];exact aR (bM (ag rfl (ag rfl (ag (x:=.int n) (ar rfl rfl (aN (i:=0) rfl)) (ag (bM (ag (x:=.int f) (ar rfl rfl (aN (i:=1) rfl)) (ag c2 aj)) (by simp)) aj)))) (by simp)))];exact bA (tQ S.length 3 o (n :: f :: l))
 ·have f9:(decide (k=3) && decide (2<=rest.length))=false:=by
   rw[<-Bool.not_eq_true];simpa using h3
  rw[f9] at t9;rw[aw (by rw[ay t9];rfl)];by_cases h4:k=4/\1<=rest.length
  ·obtain⟨rfl,hl⟩:=h4
   match rest,hl with
   |n :: bs,_=>
    rw[decide_eq_true (show(4:Nat)=4 from rfl),decide_eq_true (show 1<=(n :: bs).length by simp)] at Sv;have c2:HP Hh (aa 3) (bP (dC (.int 1))) bT [some (.tup (cs.map D.int)),some (.str (d8 4 o).kn),some (.int (o:Int)),some (.tup ((n :: bs).map D.int))] S=.ok (.tup (bs.map D.int)) S:=by
     simp only[lE,kg,List.getElem?_cons_succ,List.getElem?_cons_zero,av,d3,kD,eZ,gc,tj,Hh];rw[show(1:Int)=((1:Nat):Int) from rfl,fR (by simp)];rfl
    rw[cZ (by rw[aV Sv];exact aR (bM (ag rfl (ag rfl (ag (x:=.int n) (ar rfl rfl (aN (i:=0) rfl)) (ag c2 aj)))) (by simp)))];exact bA (tQ S.length 4 o (n :: bs))
  ·have Sw:(decide (k=4) && decide (1<=rest.length))=false:=by
    rw[<-Bool.not_eq_true];simpa using h4
   rw[Sw] at Sv;rw[aw (by rw[ay Sv];rfl),last];have:ox k o rest=gw k o rest:=by
    unfold ox;split
    ·exact absurd ⟨rfl,by simp⟩ h3
    ·exact absurd ⟨rfl,by simp⟩ h4
    ·rfl
   rw[this];exact bA (by rw[<-this];exact tQ _ _ _ _)
theorem BQ{k hi lo:Nat}(hk:k<=4)(Ut:hi<=255)(Q0:lo<=255){rest:List Int}(hr:rest.length<=1000)(Ik:∀x,x∈rest->0<=x)(Mx:∀c,Jp c->aA c≠(k:Int) :: (hi:Int) :: (lo:Int) :: rest)(S:List Cell) :
  cQ [ox k (hi * 256+lo) rest] S=.ok (.bl false) S:=by
 obtain⟨o,ho⟩:∃o,hi * 256+lo=o:=⟨_,rfl⟩;have NH:o<=65535:=by omega
 have hd:((o:Int) / 256)=hi/\((o:Int) % 256)=lo:=by omega
 rw[ho];unfold ox;split
 ·rename_i n f l;have hn:=Ik n (by simp);have Oy:(n.toNat:Int)=n:=Int.toNat_of_nonneg hn;have:=w8 (c:=.data o n.toNat (f,l)) NH (fun a b p e=>by cases e;simp at hr ⊢;omega) (fun a b p e=>by cases e) (fun z=>Mx _ z (by simp[aA,hd,Oy])) S;have e:k_ (.data o n.toNat (f,l))=.tup [.str "data",.int (o:Int),.int n,.tup [.int f,.tup (l.map D.int)]]:=by simp only[k_,FL,Oy]
  rw[e] at this;exact this
 ·rename_i n bs;have hn:=Ik n (by simp);have Oy:(n.toNat:Int)=n:=Int.toNat_of_nonneg hn;have:=w8 (c:=.note o n.toNat bs) NH (fun a b p e=>by cases e) (fun a b p e=>by cases e;simp at hr ⊢;omega) (fun z=>Mx _ z (by simp[aA,hd,Oy])) S;have e:k_ (.note o n.toNat bs)=.tup [.str "note",.int (o:Int),.int n,.tup (bs.map D.int)]:=by simp only[k_,Oy]
  rw[e] at this;exact this
 ·rename_i h3 h4;refine AO hk NH ?_ S
  match k,hk with
  |0,_=>exact .inl ⟨by decide,fun z=>Mx (.x_ o) NH (by simp[aA,hd,z])⟩
  |1,_=>exact .inl ⟨by decide,fun z=>Mx (.tB o) NH (by simp[aA,hd,z])⟩
  |2,_=>exact .inl ⟨by decide,fun z=>Mx (.GU o) NH (by simp[aA,hd,z])⟩
  |3,_=>exact .inr ⟨by decide,fun z=>by
    match rest,z with
    |[n,f],_=>exact h3 n f [] rfl rfl⟩
  |4,_=>exact .inr ⟨by decide,fun z=>by
    match rest,z with
    |[n,f],_=>exact h4 n [f] rfl rfl⟩
theorem Ca{xs:List Int}(hl:xs.length<=1000)(h:∀c,Jp c->GO (aA c)≠xs)(S:List Cell):iH G [.tup (xs.map D.int)] S=.exc G.Gq S:=by
 show cI S (mI G [some (.tup (xs.map D.int)),none,none] S)=_;unfold mI;have u1:bR (am b0 (ac (aa 0) (ac (dC FQ) ai))) [some (.tup (xs.map D.int)),none,none] S=.ok (xs.all fun i=>decide (0<=i) && decide (i<=255)) S:=by
  rw[cO,av,ax (ag rfl (ag rfl aj)) (sN xs 255 (by omega) S)];rfl
 have u2:al (f_ HQ (am bw (ac (aa 0) ai)) (f_ bL (dC Fq) (dC Fi))) [some (.tup (xs.map D.int)),none,none] S=.ok (decide (xs.length<5)) S:=by
  refine az (ar (ax (ag rfl aj) (cb _)) (ar rfl rfl (cx _ _)) ?_);rw[qN,List.length_map];congr 2;rw[decide_eq_decide];omega
 have Ji:∀{t:Fw},G8 (cW (bR (am b0 (ac (aa 0) (ac (dC FQ) ai))))) (G8 (al (f_ HQ (am bw (ac (aa 0) ai)) (f_ bL (dC Fq) (dC Fi)))) (al (f_ IZ (f_ t_ (aa 0) (dC (.int 0))) (am bw (ac (dC d2) ai))))) [some (.tup (xs.map D.int)),none,none] S=.ok true S->
   cI S (aL (Ga (G8 (cW (bR (am b0 (ac (aa 0) (ac (dC FQ) ai))))) (G8 (al (f_ HQ (am bw (ac (aa 0) ai)) (f_ bL (dC Fq) (dC Fi)))) (al (f_ IZ (f_ t_ (aa 0) (dC (.int 0))) (am bw (ac (dC d2) ai)))))) (nD G.Gq (dC (.str "these are not the cells of a strip"))) bz) t [some (.tup (xs.map D.int)),none,none] S)=.exc G.Gq S:=by
  intro t a;rw[pE,aV a];rfl
 cases P7:(xs.all fun i=>decide (0<=i) && decide (i<=255)) with
 |false=>
  rw[P7] at u1;refine Ji ?_;rw[d7,av,cP,av,u1];rfl
 |true=>
  rw[P7] at u1;have Ik:=Mm.mp P7;by_cases h5:xs.length<5
  ·rw[decide_eq_true h5] at u2;refine Ji ?_;rw[d7,av,cP,av,u1];show G8 _ _ _ S=_;rw[d7,av,u2];rfl
  ·rw[decide_eq_false h5] at u2
   match xs,h5,hl,h,Ik,u1,u2,@Ji with
   |k :: hi :: lo :: a :: b :: tl,_,hl,h,Ik,u1,u2,Ji=>
    obtain⟨xs,P8⟩:∃xs,k :: hi :: lo :: a :: b :: tl=xs:=⟨_,rfl⟩;have hk0:=Ik k (by simp);have Zn:=Ik hi (by simp);have Zo:=Ik lo (by simp);have W8:5<=xs.length:=by rw[<-P8];simp
    have i0:f_ t_ (aa 0) (dC (.int 0)) [some (.tup (xs.map D.int)),none,none] S=.ok (.int k) S:=by rw[<-P8];exact ar rfl rfl (aN (i:=0) rfl)
    rw[P8] at hl h Ik u1 u2 Ji ⊢;have u3:al (f_ IZ (f_ t_ (aa 0) (dC (.int 0))) (am bw (ac (dC d2) ai))) [some (.tup (xs.map D.int)),none,none] S=.ok (decide (5<=k)) S:=az (ar i0 (ax (ag rfl aj) (cb _)) (tu _ _));have t1:G8 (cW (bR (am b0 (ac (aa 0) (ac (dC FQ) ai))))) (G8 (al (f_ HQ (am bw (ac (aa 0) ai)) (f_ bL (dC Fq) (dC Fi)))) (al (f_ IZ (f_ t_ (aa 0) (dC (.int 0))) (am bw (ac (dC d2) ai))))) [some (.tup (xs.map D.int)),none,none] S=.ok (decide (5<=k)) S:=by
     rw[d7,av,cP,av,u1];show G8 _ _ _ S=_;rw[d7,av,u2];exact u3
    by_cases W9:5<=k
    ·rw[decide_eq_true W9] at t1;exact Ji t1
    ·rw[decide_eq_false W9] at t1;rw[aw (by rw[ay t1];rfl)];obtain⟨cs,JW⟩:∃cs,xs.take (xs.length-2)=cs:=⟨_,rfl⟩;have e1:HP Hh (aa 0) bT (bP (Qz B9 (dC Fi))) [some (.tup (xs.map D.int)),none,none] S=.ok (.tup (cs.map D.int)) S:=by
      show R.ok (D.tup (fJ (xs.map D.int) none (some (-2)))) S=_;rw[sB (by rw[List.length_map];omega),List.length_map,<-List.map_take,JW]
     rw[aw (bF e1)];show cI S (aL _ _ [some (.tup (xs.map D.int)),some (.tup (cs.map D.int)),none] S)=_;have Rz:cs.length=xs.length-2:=by rw[<-JW,List.length_take];omega
     have t2:al (f_ Hg (aa 0) (am cE (ac (aa 1) ai))) [some (.tup (xs.map D.int)),some (.tup (cs.map D.int)),none] S=.ok (!decide (xs=GO cs)) S:=
      az (ar rfl (ax (ag rfl aj) (nk _ (by omega) S)) (zq S xs (GO cs)))
     by_cases UB:xs=GO cs
     ·rw[decide_eq_true UB] at t2;rw[aw (by rw[ay t2];rfl)];obtain⟨kN,Zp⟩:∃kN:Nat,k=kN:=⟨k.toNat,by omega⟩;obtain⟨hN,Zq⟩:∃hN:Nat,hi=hN:=⟨hi.toNat,by omega⟩;obtain⟨lN,Zr⟩:∃lN:Nat,lo=lN:=⟨lo.toNat,by omega⟩;subst Zp Zq Zr;obtain⟨rest,MI⟩:∃rest,cs=(kN:Int) :: (hN:Int) :: (lN:Int) :: rest:=by
       rw[<-JW,<-P8];exact⟨(a :: b :: tl).take (tl.length),by simp⟩
      have W_:rest.length<=1000:=by rw[MI] at Rz;simp at Rz;omega
      have UC:∀x,x∈rest->0<=x:=fun x hx=>(Ik x (by
       have:x∈cs:=by rw[MI];simp[hx]
       rw[<-JW] at this;exact List.mem_of_mem_take this)).1
      have fg:=zb (k:=kN) (hi:=hN) (lo:=lN) (by omega) W_ S;have fn:=BQ (k:=kN) (hi:=hN) (lo:=lN) (by omega) (by omega) (by omega) W_ UC (fun c hc z=>h c hc (by rw[z,<-MI];exact UB.symm)) S;rw[<-MI] at fg;obtain⟨dd,Zs⟩:∃dd,ox kN (hN * 256+lN) rest=dd:=⟨_,rfl⟩;rw[Zs] at fg fn;rw[aw (bF (ax (ag rfl aj) fg))];show cI S (aL _ _ [some (.tup (xs.map D.int)),some (.tup (cs.map D.int)),some dd] S)=_;have t3:cW (bR (am cQ (ac (aa 2) ai))) [some (.tup (xs.map D.int)),some (.tup (cs.map D.int)),some dd] S=.ok true S:=by
       rw[cP,av,cO,av,ax (ag rfl aj) fn];rfl
      rw[pE,aV t3];rfl
     ·rw[decide_eq_false UB] at t2;rw[pE,aV t2];rfl
end
end Lw
namespace Lw
open PySem L2 DL
theorem xN{xs cs:List Int}(h:xs=GO cs):cs=xs.take (xs.length-2)/\xs[xs.length-2]?=some (cs.sum % 256)/\xs[xs.length-1]?=some (Ss (cs++[cs.sum % 256]) % 256)/\xs.length=cs.length+2:=by
 have hl:=mv cs;rw[<-h] at hl;refine⟨?_,?_,?_,hl⟩
 ·rw[show xs.length-2=cs.length by omega,h,mU]
 ·rw[show xs.length-2=cs.length by omega,h];unfold GO;rw[List.append_assoc,List.getElem?_append_right (Nat.le_refl _)];simp
 ·rw[show xs.length-1=cs.length+1 by omega,h];unfold GO;rw[List.getElem?_append_right (by simp)];simp
theorem w5:∀{l:List Int}{i:Nat}{a v:Int},l[i]?=some a->(l.set i v).sum=l.sum-a+v
 |[],_,_,_,h=>by simp at h
 |x :: l,0,a,v,h=>by
  simp at h;subst h;simp only[List.set_cons_zero,List.sum_cons];omega
 |x :: l,i+1,a,v,h=>by
  have:=w5 (l:=l) (i:=i) (a:=a) (v:=v) (by simpa using h);simp only[List.set_cons_succ,List.sum_cons,this];omega
theorem CW{cs:List Int}{i:Nat}{a v:Int}(ha:(GO cs)[i]?=some a)(hv:¬(v-a) % 256=0):∀Sx,GO Sx≠(GO cs).set i v:=by
 intro Sx h;obtain⟨n,hn⟩:∃n,cs.length=n:=⟨_,rfl⟩;obtain⟨h1,h2,h3,h4⟩:=xN h.symm;obtain⟨g1,g2,g3,g4⟩:=xN (rfl:GO cs=GO cs);rw[List.length_set,g4] at h1 h2 h3 h4;rw[g4] at g1 g2 g3;have hi:=(List.getElem?_eq_some_iff.mp ha).1;rw[g4] at hi;simp only[show cs.length+2-2=cs.length by omega,show cs.length+2-1=cs.length+1 by omega] at *;by_cases c1:i<cs.length
 ·have OE:Sx=cs.set i v:=by
   rw[h1,List.take_set,mU]
  have Zt:cs[i]?=some a:=by
   rw[<-ha];unfold GO;rw[List.append_assoc,List.getElem?_append_left c1]
  have hs:=w5 (v:=v) Zt;rw[List.getElem?_set_ne (by omega),g2] at h2
  injection h2 with h2
  rw[OE,hs] at h2;omega
 ·have OE:Sx=cs:=by
   rw[h1,List.take_set_of_le (by omega),mU]
  by_cases c2:i=cs.length
  ·subst c2;rw[List.getElem?_set_self (by rw[g4];omega)] at h2;rw[ha] at g2
   injection h2 with h2
   injection g2 with g2
   rw[OE] at h2;omega
  ·have c3:i=cs.length+1:=by omega
   subst c3;rw[List.getElem?_set_self (by rw[g4];omega)] at h3;rw[ha] at g3
   injection h3 with h3
   injection g3 with g3
   rw[OE] at h3;omega
end Lw
namespace Lw
inductive TC where
 |x_ (o:Nat)|data (o i:Nat)
 deriving DecidableEq
namespace TC
def op:TC->Nat
 |x_ o=>o
 |data o _=>o
def rank:TC->Nat
 |x_ o=>2 * o
 |data o _=>2 * o+1
end TC
inductive BC where
 |tB (o:Nat)|GU (o:Nat)|note (o j:Nat) (bs:List Int)
def BC.op:BC->Nat
 |tB o=>o
 |GU o=>o
 |note o _ _=>o
structure Sys where
 s:Sr
 h:Hr
 T:List TC
 B:List BC
 st:Nat->Nat
 tk:Nat->Nat
def mk(j:Nat)(bs:List Int)(x:Nat):Prop:=∃k,bs[k]?=some 1/\x=j+k
structure Cw where
 s:Sr
 h:Hr
 T:List v_
 B:List v_
namespace Sys
def P(x:Sys)(o:Nat):List Pc:=fl x.s.most (x.s.msgs.drop (x.st o))
def en(x:Sys)(o:Nat):Nat:=x.st o+FC ((x.P o).take (x.tk o))
def run(x:Sys)(o:Nat):List (Nat×GL):=((x.s.msgs.drop (x.st o)).take (FC ((x.P o).take (x.tk o)))).map fun m=>(o,m)
def cT(x:Sys):TC->v_
 |.x_ o=>.x_ o
 |.data o i=>.data o (i % (2 * x.s.w)) ((x.P o).getD i (0,[]))
def cB(x:Sys):BC->v_
 |.tB o=>.tB o
 |.GU o=>.GU o
 |.note o j bs=>.note o (j % (2 * x.s.w)) bs
def con(x:Sys):Cw:=⟨x.s,x.h,x.T.map x.cT,x.B.map x.cB⟩
end Sys
structure Oa(x:Sys):Prop where
 w0:0<x.s.w
 ww:x.h.w=x.s.w
 ps:x.s.st≠.GJ->x.s.ps=x.P x.s.op/\1<=x.s.op
 Mn:x.s.st=.opening->x.s.base=0/\x.s.E_=[]/\x.tk x.s.op=0/\(x.h.op=x.s.op->x.h.early=[])
 su:x.s.sure=x.st x.s.op+FC ((x.P x.s.op).take x.s.base)
 sl:∀o,o<=x.s.op->x.st o<=x.s.msgs.length
 ch:∀o,1<=o->o<=x.s.op->∃o',o'<o/\x.st o<=x.en o'
 s0:x.st 0=0
 bt:x.s.base<=x.tk x.s.op
 tw:x.tk x.s.op<=x.s.base+x.s.w
 tl:∀o,x.tk o<=(x.P o).length
 tz:∀o,x.s.op<o->x.tk o=0
 t0:x.tk 0=0
 ho:x.h.op<=x.s.op
 hz:x.h.op=0->x.h.early=[]
 hn:x.h.nx=x.tk x.h.op
 hl:x.h.op≠0->∀o,x.h.op<o->x.tk o=0
 he:∀e,e∈x.h.early->(x.P x.h.op)[e.1]?=some e.2/\x.h.nx<e.1
 hd:(x.h.early.map (·.1)).Nodup
 hb:x.h.begun=(N9 ((x.P x.h.op).take x.h.nx)).2
 hg:x.h.given=(List.range (x.s.op+1)).flatMap x.run
 ek:x.h.op=x.s.op->∀e,e∈x.h.early->e.1<x.s.base+x.s.w
 n0:x.s.op=0->x.s.E_=[]
structure RA(x:Sys):Prop where
 so:x.T.Pairwise fun a b=>a.rank<=b.rank
 bd:∀c,c∈x.T->1<=c.op/\c.rank<=2 * x.s.op+1
 bo:x.s.st=.opening->∀c,c∈x.T->c.rank<=2 * x.s.op
 rt:∀o,0<x.tk o->∀c,c∈x.T->2 * o+1<=c.rank
 rh:∀c,c∈x.T->2 * x.h.op<=c.rank
 re:x.h.early≠[]->∀c,c∈x.T->2 * x.h.op+1<=c.rank
 r2:∀o i,TC.data o i∈x.T->i<(x.P o).length
 r3:∀o i,TC.x_ o∈x.T->TC.data o i∈x.T->i<x.s.w
 r4:∀i,TC.data x.h.op i∈x.T->i<x.h.nx+x.s.w/\x.h.nx<=i+x.s.w/\∀e,e∈x.h.early->e.1<i+x.s.w
 r6:x.T.Pairwise fun a b=>∀o i j,a=TC.data o i->b=TC.data o j->i<j+x.s.w
 r7:∀i,TC.data x.s.op i∈x.T->i<x.s.base+x.s.w
structure P9(x:Sys):Prop where
 bb:∀c,c∈x.B->1<=c.op/\c.op<=x.s.op
 bn:∀j bs,BC.note x.s.op j bs∈x.B->x.s.base<=j/\j<=x.tk x.s.op
 bp:x.B.Pairwise fun a b=>∀j bs j' Kp,a=BC.note x.s.op j bs->b=BC.note x.s.op j' Kp->j<=j'/\¬mk j bs j'
 m1:x.h.op=x.s.op->(∀k,k∈x.s.E_->k<x.h.nx\/k∈x.h.early.map (·.1))/\∀j bs k,BC.note x.s.op j bs∈x.B->mk j bs k->k<x.h.nx\/k∈x.h.early.map (·.1)
 m2:∀k,k∈x.s.E_->k≠x.s.base/\∀j bs,BC.note x.s.op j bs∈x.B->k≠j
 m4:∀j bs,BC.note x.s.op j bs∈x.B->¬mk j bs j
 nh:TC.x_ x.s.op∈x.T\/x.s.st=.opening->∀j bs,¬BC.note x.s.op j bs∈x.B
 nd:TC.x_ x.s.op∈x.T->x.s.E_=[]
structure Iv(x:Sys):Prop where
 c:Oa x
 t:RA x
 b:P9 x
def Sys.new(w most:Nat):Sys:=⟨Sr.new w most,Hr.new w,[],[],fun _=>0,fun _=>0⟩
theorem Cv{w most:Nat}(hw:0<w):Iv (Sys.new w most):=by
 refine⟨?_,?_,?_⟩
 ·constructor<;>simp[Sys.new,Sr.new,Hr.new,Sys.P,Sys.en,Sys.run,fl,FC,N9,hw]
  ·intro o h1 h2;omega
 ·constructor<;>simp[Sys.new,Sr.new,Hr.new]
 ·constructor<;>simp[Sys.new,Sr.new,Hr.new]
section
variable{x:Sys}{m:GL}
def Sys.hand(x:Sys)(m:GL):Sys:={ x with s:=x.s.hand m }
theorem yZ{o:Nat}(h:x.st o<=x.s.msgs.length):(x.hand m).P o=x.P o++eP x.s.most m:=by
 simp only[Sys.P,Sys.hand,Sr.hand];rw[List.drop_append_of_le_length h,sJ];simp[fl]
theorem nj{o n:Nat}(h:x.st o<=x.s.msgs.length)(hn:n<=(x.P o).length):((x.hand m).P o).take n=(x.P o).take n:=by
 rw[yZ h,List.take_append_of_le_length hn]
end
end Lw
namespace Lw
section
variable{x:Sys}{m:GL}
theorem AU(c:Oa x){o:Nat}(h:o<=x.s.op):(x.hand m).en o=x.en o:=by
 unfold Sys.en;rw[show(x.hand m).st=x.st from rfl,show(x.hand m).tk=x.tk from rfl,nj (c.sl o h) (c.tl o)]
theorem zV(c:Oa x){o:Nat}(h:o<=x.s.op):(x.hand m).run o=x.run o:=by
 unfold Sys.run;rw[show(x.hand m).st=x.st from rfl,show(x.hand m).tk=x.tk from rfl,nj (c.sl o h) (c.tl o)];have hk:=oC x.s.most (x.s.msgs.drop (x.st o)) (x.tk o);rw[show(x.hand m).s.msgs=x.s.msgs++[m] from rfl,List.drop_append_of_le_length (c.sl o h),List.take_append_of_le_length];exact hk
theorem iB{α β:Type}{l:List α}{f g:α->List β}(h:∀a,a∈l->f a=g a):l.flatMap f=l.flatMap g:=by
 induction l with
 |nil=>rfl
 |cons a r ih=>rw[List.flatMap_cons,List.flatMap_cons,h a (by simp),ih fun b hb=>h b (List.mem_cons_of_mem _ hb)]
theorem xz(v:Iv x)(m:GL):Iv (x.hand m)/\(x.hand m).con = { x.con with s:=x.s.hand m }:=by
 obtain⟨c,t,b⟩:=v;have hP:∀o,o<=x.s.op->(x.hand m).P o=x.P o++eP x.s.most m:=fun o h=>yZ (c.sl o h)
 have Xa:∀o,o<=x.s.op->(x.P o).length<=((x.hand m).P o).length:=fun o h=>by rw[hP o h,List.length_append];omega
 have hT:∀o n,o<=x.s.op->n<=(x.P o).length->((x.hand m).P o).take n=(x.P o).take n:=fun o n h hn=>nj (c.sl o h) hn
 have Nx:x.h.nx<=(x.P x.h.op).length:=by rw[c.hn];exact c.tl _
 have Zu:x.s.base<=(x.P x.s.op).length:=Nat.le_trans c.bt (c.tl _);refine⟨⟨?_,?_,?_⟩,?_⟩
 ·refine⟨c.w0,c.ww,?_,c.Mn,?_,?_,?_,c.s0,c.bt,c.tw,?_,c.tz,c.t0,c.ho,c.hz,c.hn,c.hl,?_,c.hd,?_,?_,c.ek,c.n0⟩
  ·intro hs;obtain⟨h1,h2⟩:=c.ps hs;refine⟨?_,h2⟩;show(if x.s.st=.GJ then x.s.ps else x.s.ps++eP x.s.most m)=_;rw[if_neg (show ¬x.s.st=.GJ from hs),show(x.hand m).s.op=x.s.op from rfl,hP _ (Nat.le_refl _),h1]
  ·show x.s.sure=x.st x.s.op+FC (((x.hand m).P x.s.op).take x.s.base);rw[hT _ _ (Nat.le_refl _) Zu];exact c.su
  ·intro o ho;have:=c.sl o ho;show x.st o<=(x.s.msgs++[m]).length;rw[List.length_append];omega
  ·intro o h1 h2;obtain⟨o',h3,h4⟩:=c.ch o h1 h2;exact⟨o',h3,by rw[AU c (by have:o<=x.s.op:=h2;omega)];exact h4⟩
  ·intro o;by_cases ho:o<=x.s.op
   ·exact Nat.le_trans (c.tl o) (Xa o ho)
   ·show x.tk o<=_;rw[c.tz o (by omega)];exact Nat.zero_le _
  ·intro e he;obtain⟨h1,h2⟩:=c.he e he;refine⟨?_,h2⟩;show((x.hand m).P x.h.op)[e.1]?=_;rw[hP _ c.ho,List.getElem?_append_left (List.getElem?_eq_some_iff.mp h1).1];exact h1
  ·show x.h.begun=(N9 (((x.hand m).P x.h.op).take x.h.nx)).2;rw[hT _ _ c.ho Nx];exact c.hb
  ·show x.h.given=(List.range (x.s.op+1)).flatMap (x.hand m).run;rw[c.hg];exact iB fun o ho=>(zV c (by have:=List.mem_range.mp ho;omega)).symm
 ·refine⟨t.so,t.bd,t.bo,t.rt,t.rh,t.re,?_,t.r3,t.r4,t.r6,t.r7⟩;intro o i h;have:=(t.bd _ h).2;have ho:o<=x.s.op:=by simp only[TC.rank] at this;omega
  exact Nat.lt_of_lt_of_le (t.r2 o i h) (Xa o ho)
 ·exact⟨b.bb,b.bn,b.bp,b.m1,b.m2,b.m4,b.nh,b.nd⟩
 ·unfold Sys.con;refine congr (congr (congrArg (Cw.mk (x.s.hand m)) rfl) ?_) rfl;refine List.map_congr_left fun a ha=>?_
  cases a with
  |x_ o=>rfl
  |data o i=>
   have h2:=(t.bd _ ha).2;have ho:o<=x.s.op:=by simp only[TC.rank] at h2;omega
   show v_.data o (i % (2 * x.s.w)) (((x.hand m).P o).getD i (0,[]))=v_.data o (i % (2 * x.s.w)) ((x.P o).getD i (0,[]));rw[hP o ho];have hi:=t.r2 o i ha;simp[List.getD,List.getElem?_append_left hi]
def Sys.anew(x:Sys):Sys:={ x with s:=x.s.anew,st:=fun o=>if o=x.s.op+1 then x.s.sure else x.st o }
theorem lb{o:Nat}(h:o<=x.s.op):x.anew.st o=x.st o:=if_neg (by omega)
theorem md{o:Nat}(h:o<=x.s.op):x.anew.P o=x.P o:=by
 unfold Sys.P;rw[lb h];rfl
theorem xx{o:Nat}(h:o<=x.s.op):x.anew.en o=x.en o:=by
 unfold Sys.en;rw[lb h,md h];rfl
theorem ze{o:Nat}(h:o<=x.s.op):x.anew.run o=x.run o:=by
 unfold Sys.run;rw[lb h,md h];rfl
theorem Eg(c:Oa x){o:Nat}(h:o<=x.s.op):x.en o<=x.s.msgs.length:=by
 have h1:=c.sl o h;have h2:=oC x.s.most (x.s.msgs.drop (x.st o)) (x.tk o);rw[List.length_drop] at h2;unfold Sys.en Sys.P;omega
theorem AJ(c:Oa x):x.s.sure<=x.en x.s.op:=by
 rw[c.su];unfold Sys.en;have:=pz (x.P x.s.op) c.bt;omega
theorem xH(v:Iv x):Iv x.anew/\x.anew.con = { x.con with s:=x.s.anew }:=by
 obtain⟨c,t,b⟩:=v;have Lv:x.anew.s.op=x.s.op+1:=rfl;have He:x.anew.st (x.s.op+1)=x.s.sure:=if_pos rfl;have hle:=Eg c (Nat.le_refl x.s.op);have Xb:=AJ c;have N6:x.h.op≠x.s.op+1:=by have:=c.ho;omega
 refine⟨⟨?_,?_,?_⟩,?_⟩
 ·refine⟨c.w0,c.ww,?_,?_,?_,?_,?_,?_,Nat.zero_le _,?_,?_,?_,c.t0,Nat.le_succ_of_le c.ho,c.hz,c.hn,c.hl,?_,c.hd,?_,?_,fun h=>absurd h N6,fun h=>absurd h (Nat.succ_ne_zero _)⟩
  ·intro _;refine⟨?_,Nat.le_add_left _ _⟩;show(x.s.msgs.drop x.s.sure).flatMap (eP x.s.most)=fl x.s.most (x.s.msgs.drop (x.anew.st (x.s.op+1)));rw[He];rfl
  ·exact fun _=>⟨rfl,rfl,c.tz _ (Nat.lt_succ_self _),fun h=>absurd h N6⟩
  ·show x.s.sure=x.anew.st (x.s.op+1)+FC ((x.anew.P (x.s.op+1)).take 0);rw[He];rfl
  ·intro o ho;by_cases h:o<=x.s.op
   ·rw[lb h];exact c.sl o h
   ·have:o=x.s.op+1:=by have:o<=x.s.op+1:=ho;omega
    rw[this,He];exact Nat.le_trans Xb hle
  ·intro o h1 h2;by_cases h:o<=x.s.op
   ·obtain⟨o',h3,h4⟩:=c.ch o h1 h;exact⟨o',h3,by rw[lb h,xx (by omega)];exact h4⟩
   ·have:o=x.s.op+1:=by have:o<=x.s.op+1:=h2;omega
    refine⟨x.s.op,by omega,?_⟩;rw[this,He,xx (Nat.le_refl _)];exact Xb
  ·rw[lb (Nat.zero_le _)];exact c.s0
  ·show x.tk (x.s.op+1)<=0+x.s.w;rw[c.tz _ (Nat.lt_succ_self _)];exact Nat.zero_le _
  ·intro o;by_cases h:o<=x.s.op
   ·rw[md h];exact c.tl o
   ·show x.tk o<=_;rw[c.tz o (by omega)];exact Nat.zero_le _
  ·intro o ho;exact c.tz o (by have:x.s.op+1<o:=ho;omega)
  ·intro e he;rw[show x.anew.h=x.h from rfl,md c.ho];exact c.he e he
  ·rw[show x.anew.h=x.h from rfl,md c.ho];exact c.hb
  ·show x.h.given=(List.range (x.s.op+1+1)).flatMap x.anew.run;rw[List.range_succ,List.flatMap_append,c.hg];have e1:x.anew.run (x.s.op+1)=[]:=by
    unfold Sys.run;rw[show x.anew.tk (x.s.op+1)=0 from c.tz _ (Nat.lt_succ_self _)];simp[FC]
   rw[List.flatMap_cons,e1,List.flatMap_nil,List.append_nil,List.append_nil];exact iB fun o ho=>(ze (by have:=List.mem_range.mp ho;omega)).symm
 ·have Sy:∀cc,cc∈x.T->cc.rank<=2 * x.s.op+1:=fun cc h=>(t.bd cc h).2
  have opl:∀cc:TC,2 * cc.op<=cc.rank:=fun cc=>by cases cc<;>simp[TC.op,TC.rank]
  refine⟨t.so,?_,?_,t.rt,t.rh,t.re,?_,t.r3,t.r4,t.r6,?_⟩
  ·exact fun cc h=>⟨(t.bd cc h).1,by have:=Sy cc h;show cc.rank<=2 * (x.s.op+1)+1;omega⟩
  ·exact fun _ cc h=>by have:=Sy cc h;show cc.rank<=2 * (x.s.op+1);omega
  ·intro o i h;have h2:=Sy _ h;have ho:o<=x.s.op:=by simp only[TC.rank] at h2;omega
   rw[md ho];exact t.r2 o i h
  ·intro i h;have h2:=Sy _ h;simp only[TC.rank,Lv] at h2;omega
 ·have Sz:∀j bs,¬BC.note (x.s.op+1) j bs∈x.B:=fun j bs h=>by
   have h2:=(b.bb _ h).2;simp only[BC.op] at h2;omega
  refine⟨fun cc h=>⟨(b.bb cc h).1,Nat.le_succ_of_le (b.bb cc h).2⟩,fun j bs h=>absurd h (Sz j bs),?_,fun h=>absurd h N6,fun k hk=>?_,fun j bs h=>absurd h (Sz j bs),fun _=>Sz,fun _=>rfl⟩
  ·refine List.Pairwise.imp_of_mem (fun {a a'} ha _ _=>?_) b.bp;intro j bs j' Kp e1 _;rw[e1] at ha;exact absurd ha (Sz j bs)
  ·have:k∈([]:List Nat):=hk;simp at this
 ·unfold Sys.con;refine congr (congr (congrArg (Cw.mk x.s.anew) rfl) ?_) rfl;refine List.map_congr_left fun a ha=>?_
  cases a with
  |x_ o=>rfl
  |data o i=>
   have h2:=(t.bd _ ha).2;have ho:o<=x.s.op:=by simp only[TC.rank] at h2;omega
   show v_.data o (i % (2 * x.s.w)) ((x.anew.P o).getD i (0,[]))=v_.data o (i % (2 * x.s.w)) ((x.P o).getD i (0,[]));rw[md ho]
def Sys.LP(x:Sys):Sys:={ x with s:=x.s.Ge }
theorem vq(v:Iv x):Iv x.LP/\x.LP.con = { x.con with s:=x.s.Ge }:=by
 obtain⟨c,t,b⟩:=v;refine⟨⟨⟨c.w0,c.ww,fun h=>absurd rfl h,fun h=>(by cases h),c.su,c.sl,c.ch,c.s0,c.bt,c.tw,c.tl,c.tz,c.t0,c.ho,c.hz,c.hn,c.hl,c.he,c.hd,c.hb,c.hg,c.ek,c.n0⟩,
  ⟨t.so,t.bd,fun h=>(by cases h),t.rt,t.rh,t.re,t.r2,t.r3,t.r4,t.r6,t.r7⟩,⟨b.bb,b.bn,b.bp,b.m1,b.m2,b.m4,fun h=>b.nh (h.elim .inl fun e=>(by cases e)),b.nd⟩⟩,rfl⟩
def Sys.JP(x:Sys):Sys:={ x with h:=x.h.Ge }
theorem uO(v:Iv x):Iv x.JP/\x.JP.con = { x.con with h:=x.h.Ge }:=by
 obtain⟨c,t,b⟩:=v;refine⟨⟨⟨c.w0,c.ww,c.ps,fun e=>⟨(c.Mn e).1,(c.Mn e).2.1,(c.Mn e).2.2.1,fun _=>rfl⟩,c.su,c.sl,c.ch,c.s0,c.bt,c.tw,c.tl,c.tz,c.t0,Nat.zero_le _,fun _=>rfl,c.t0.symm,fun h=>absurd rfl h,?_,List.nodup_nil,rfl,c.hg,?_,c.n0⟩,
  ⟨t.so,t.bd,t.bo,t.rt,fun cc _=>Nat.zero_le _,fun h=>absurd rfl h,t.r2,t.r3,?_,t.r6,t.r7⟩,⟨b.bb,b.bn,b.bp,?_,b.m2,b.m4,b.nh,b.nd⟩⟩,rfl⟩
 ·intro e he;have:e∈([]:List (Nat×Pc)):=he;simp at this
 ·intro _ e he;have:e∈([]:List (Nat×Pc)):=he;simp at this
 ·intro i h;have:=(t.bd _ h).1;have h0:x.JP.h.op=0:=rfl;simp only[TC.op,h0] at this;omega
 ·intro h0;have Zv:x.s.op=0:=h0.symm;refine⟨fun k hk=>?_,fun j bs k hj _=>?_⟩
  ·have hk':k∈x.s.E_:=hk;rw[c.n0 Zv] at hk';simp at hk'
  ·have:=(b.bb _ hj).1;simp only[BC.op] at this;have hj2:x.JP.s.op=x.s.op:=rfl;omega
end
end Lw
namespace Lw
section
variable{x:Sys}
def Sys.Il(x:Sys)(T:List TC):Sys:={ x with T:=T }
def Sys.setB(x:Sys)(B:List BC):Sys:={ x with B:=B }
theorem o9(t:RA x){T:List TC}(hm:∀c,c∈T->c∈x.T)(so:T.Pairwise fun a b=>a.rank<=b.rank)(r6:T.Pairwise fun a b=>∀o i j,a=TC.data o i->b=TC.data o j->i<j+x.s.w):RA (x.Il T):=
 ⟨so,fun c h=>t.bd c (hm c h),fun q c h=>t.bo q c (hm c h),fun o q c h=>t.rt o q c (hm c h),fun c h=>t.rh c (hm c h),fun q c h=>t.re q c (hm c h),fun o i h=>t.r2 o i (hm _ h),fun o i h h'=>t.r3 o i (hm _ h) (hm _ h'),
  fun i h=>t.r4 i (hm _ h),r6,fun i h=>t.r7 i (hm _ h)⟩
theorem pd(b:P9 x){B:List BC}(hm:∀c,c∈B->c∈x.B)(bp:B.Pairwise fun a b=>∀j bs j' Kp,a=BC.note x.s.op j bs->b=BC.note x.s.op j' Kp->j<=j'/\¬mk j bs j'):P9 (x.setB B):=
 ⟨fun c h=>b.bb c (hm c h),fun j bs h=>b.bn j bs (hm _ h),bp,fun q=>⟨(b.m1 q).1,fun j bs k h=>(b.m1 q).2 j bs k (hm _ h)⟩,fun k hk=>⟨(b.m2 k hk).1,fun j bs h=>(b.m2 k hk).2 j bs (hm _ h)⟩,fun j bs h=>b.m4 j bs (hm _ h),fun q j bs h=>b.nh q j bs (hm _ h),b.nd⟩
theorem va(c:Oa x)(T:List TC):Oa (x.Il T):=⟨c.w0,c.ww,c.ps,c.Mn,c.su,c.sl,c.ch,c.s0,c.bt,c.tw,c.tl,c.tz,c.t0,c.ho,c.hz,c.hn,c.hl,c.he,c.hd,c.hb,c.hg,c.ek,c.n0⟩
theorem rW(c:Oa x)(B:List BC):Oa (x.setB B):=⟨c.w0,c.ww,c.ps,c.Mn,c.su,c.sl,c.ch,c.s0,c.bt,c.tw,c.tl,c.tz,c.t0,c.ho,c.hz,c.hn,c.hl,c.he,c.hd,c.hb,c.hg,c.ek,c.n0⟩
theorem u7(b:P9 x)(T:List TC)(hm:TC.x_ x.s.op∈T->TC.x_ x.s.op∈x.T\/x.s.st=.opening/\x.s.E_=[]):P9 (x.Il T):=
 ⟨b.bb,b.bn,b.bp,b.m1,b.m2,b.m4,fun q=>b.nh (q.elim (fun h=>(hm h).elim .inl fun e=>.inr e.1) .inr),fun h=>(hm h).elim b.nd fun e=>e.2⟩
theorem sL(t:RA x)(B:List BC):RA (x.setB B):=⟨t.so,t.bd,t.bo,t.rt,t.rh,t.re,t.r2,t.r3,t.r4,t.r6,t.r7⟩
def dup{α:Type}(l:List α)(k:Nat):List α:=l.take (k+1)++l.drop k
theorem pc{α:Type}{l:List α}{k:Nat}{a:α}(h:a∈dup l k):a∈l:=by
 rcases List.mem_append.mp h with h|h
 ·exact List.mem_of_mem_take h
 ·exact List.mem_of_mem_drop h
theorem xJ{α β:Type}(f:α->β)(l:List α)(k:Nat):dup (l.map f) k=(dup l k).map f:=by simp[dup]
theorem jY{α:Type}{R:α->α->Prop}{l:List α}(h:l.Pairwise R)(hr:∀a,a∈l->R a a):∀k,(dup l k).Pairwise R:=by
 induction l with
 |nil=>intro k;simp[dup]
 |cons a r ih=>
  intro k;obtain⟨h1,h2⟩:=List.pairwise_cons.mp h;cases k with
  |zero=>
   show(a :: ([]++a :: r)).Pairwise R;rw[List.nil_append];exact List.pairwise_cons.mpr ⟨fun b hb=>(List.mem_cons.mp hb).elim (fun e=>e ▸ hr a (by simp)) (h1 b),h⟩
  |succ k=>
   show(a :: dup r k).Pairwise R;exact List.pairwise_cons.mpr ⟨fun b hb=>h1 b (pc hb),ih h2 (fun b hb=>hr b (List.mem_cons_of_mem _ hb)) k⟩
theorem lj{α β:Type}(f:α->β):∀(l:List α) (k:Nat),(l.map f).eraseIdx k=(l.eraseIdx k).map f
 |[],_=>rfl
 |_ :: _,0=>rfl
 |a :: r,k+1=>by
  show f a :: (r.map f).eraseIdx k=f a :: (r.eraseIdx k).map f;rw[lj f r k]
theorem uz(v:Iv x)(k:Nat):Iv (x.Il (x.T.eraseIdx k))/\(x.Il (x.T.eraseIdx k)).con = { x.con with T:=x.con.T.eraseIdx k }:=by
 have hs:(x.T.eraseIdx k).Sublist x.T:=List.eraseIdx_sublist ..;refine⟨⟨va v.c _,o9 v.t (fun c h=>hs.subset h) (v.t.so.sublist hs) (v.t.r6.sublist hs),u7 v.b _ fun h=>.inl (hs.subset h)⟩,?_⟩;unfold Sys.con;simp only[Sys.Il];refine congr (congr rfl ?_) rfl;show(x.T.eraseIdx k).map x.cT=(x.T.map x.cT).eraseIdx k;exact(lj ..).symm
theorem vj(v:Iv x)(k:Nat):Iv (x.setB (x.B.eraseIdx k))/\(x.setB (x.B.eraseIdx k)).con = { x.con with B:=x.con.B.eraseIdx k }:=by
 have hs:(x.B.eraseIdx k).Sublist x.B:=List.eraseIdx_sublist ..;refine⟨⟨rW v.c _,sL v.t _,pd v.b (fun c h=>hs.subset h) (v.b.bp.sublist hs)⟩,?_⟩;unfold Sys.con;simp only[Sys.setB];refine congr rfl ?_;show(x.B.eraseIdx k).map x.cB=(x.B.map x.cB).eraseIdx k;exact(lj ..).symm
theorem xq(v:Iv x)(k:Nat):Iv (x.Il (dup x.T k))/\(x.Il (dup x.T k)).con = { x.con with T:=dup x.con.T k }:=by
 refine⟨⟨va v.c _,o9 v.t (fun c h=>pc h) (jY v.t.so (fun a _=>Nat.le_refl _) k) (jY v.t.r6 (fun a _ o i j e1 e2=>?_) k),u7 v.b _ fun h=>.inl (pc h)⟩,?_⟩
 ·rw[e1] at e2;cases e2;have:=v.c.w0;omega
 ·unfold Sys.con;simp only[Sys.Il];refine congr (congr rfl ?_) rfl;exact(xJ x.cT x.T k).symm
theorem xh(v:Iv x)(k:Nat):Iv (x.setB (dup x.B k))/\(x.setB (dup x.B k)).con = { x.con with B:=dup x.con.B k }:=by
 refine⟨⟨rW v.c _,sL v.t _,pd v.b (fun c h=>pc h) (jY v.b.bp (fun a ha j bs j' Kp e1 e2=>?_) k)⟩,?_⟩
 ·rw[e1] at e2;cases e2;rw[e1] at ha;exact⟨Nat.le_refl _,v.b.m4 j bs ha⟩
 ·unfold Sys.con;simp only[Sys.setB];refine congr rfl ?_;exact(xJ x.cB x.B k).symm
def Sys.JQ(x:Sys):List TC:=match x.s.st with
 |.GJ=>[]
 |.opening=>[.x_ x.s.op]
 |.opened=>x.s.wanted.map fun i=>.data x.s.op i
theorem dW{s:Sr}{i:Nat}(h:i∈s.wanted):s.base<=i/\i<s.base+s.w/\i<s.ps.length/\i∉s.E_:=by
 unfold Sr.wanted at h;obtain⟨h1,h2⟩:=List.mem_filter.mp h;obtain⟨h3,h4⟩:=List.mem_range'_1.mp h1;refine⟨h3,by omega,by omega,by simpa using h2⟩
theorem dj{α:Type}{R:α->α->Prop}{a b:List α}(ha:a.Pairwise R)(hb:b.Pairwise R)(h:∀x,x∈a->∀y,y∈b->R x y):(a++b).Pairwise R:=List.pairwise_append.mpr ⟨ha,hb,h⟩
theorem w6(v:Iv x):Iv (x.Il (x.T++x.JQ))/\(x.Il (x.T++x.JQ)).con = { x.con with T:=x.con.T++x.s.tick }:=by
 obtain⟨c,t,b⟩:=v;have GD:∀a,a∈x.JQ->(x.s.st=.opening/\a=.x_ x.s.op/\1<=x.s.op)\/(x.s.st=.opened/\1<=x.s.op/\x.s.ps=x.P x.s.op/\∃i,a=.data x.s.op i/\i∈x.s.wanted):=by
  intro a ha;unfold Sys.JQ at ha;cases e:x.s.st with
  |GJ=>rw[e] at ha;simp at ha
  |opening=>
   rw[e] at ha;simp at ha;exact .inl ⟨rfl,ha,(c.ps (by rw[e];simp)).2⟩
  |opened=>
   rw[e] at ha;obtain⟨i,hi,rfl⟩:=List.mem_map.mp ha;obtain⟨h1,h2⟩:=c.ps (by rw[e];simp);exact .inr ⟨rfl,h2,h1,i,rfl,hi⟩
 refine⟨⟨va c _,?_,u7 b _ fun h=>?_⟩,?_⟩
 rotate_left
 ·rcases List.mem_append.mp h with h|h
  ·exact .inl h
  ·rcases GD _ h with ⟨e,_,_⟩|⟨_,_,_,i,q,_⟩
   ·exact .inr ⟨e,(c.Mn e).2.1⟩
   ·cases q
 rotate_right
 ·have rk:∀a,a∈x.JQ->2 * x.s.op<=a.rank/\a.rank<=2 * x.s.op+1/\a.op=x.s.op/\1<=x.s.op:=by
   intro a ha;rcases GD a ha with ⟨_,rfl,h⟩|⟨_,h,_,i,rfl,_⟩<;>simp[TC.rank,TC.op,h]
  have Zw:TC.x_ x.s.op∈x.T->x.tk x.s.op=0:=fun h=>by
   cases e:x.tk x.s.op with
   |zero=>rfl
   |succ n=>
    have:=t.rt x.s.op (by omega) _ h;simp only[TC.rank] at this;omega
  refine⟨?_,?_,?_,?_,?_,?_,?_,?_,?_,?_,?_⟩
  ·refine dj t.so ?_ ?_
   ·refine List.Pairwise.imp_of_mem (R:=fun _ _=>True) ?_ (by simp[List.pairwise_iff_forall_sublist]);intro a a' ha MU _;rcases GD a ha with ⟨e,rfl,_⟩|⟨e,_,_,i,rfl,_⟩<;>rcases GD a' MU with ⟨e',rfl,_⟩|⟨e',_,_,i',rfl,_⟩<;>simp_all [TC.rank]
   ·intro a ha a' MU;rcases GD a' MU with ⟨e,rfl,_⟩|⟨e,_,_,i,rfl,_⟩
    ·exact t.bo e a ha
    ·exact(t.bd a ha).2
  ·intro a ha;rcases List.mem_append.mp ha with ha|ha
   ·exact t.bd a ha
   ·obtain⟨h1,h2,h3,h4⟩:=rk a ha;exact⟨by rw[h3];exact h4,h2⟩
  ·intro e a ha;rcases List.mem_append.mp ha with ha|ha
   ·exact t.bo e a ha
   ·rcases GD a ha with ⟨_,rfl,_⟩|⟨e',_⟩
    ·exact Nat.le_refl _
    ·have e2:x.s.st=.opening:=e;rw[e2] at e';cases e'
  ·intro o ho a ha;rcases List.mem_append.mp ha with ha|ha
   ·exact t.rt o ho a ha
   ·have hle:o<=x.s.op:=Nat.le_of_not_lt fun h=>by have:=c.tz o h;have:0<x.tk o:=ho;omega
    rcases GD a ha with ⟨e,rfl,_⟩|⟨e,_,_,i,rfl,_⟩
    ·have:=(c.Mn e).2.2.1;have N6:o≠x.s.op:=fun q=>by rw[q] at ho;have:0<x.tk x.s.op:=ho;omega
     simp only[TC.rank];omega
    ·simp only[TC.rank];omega
  ·intro a ha;rcases List.mem_append.mp ha with ha|ha
   ·exact t.rh a ha
   ·have h1:=(rk a ha).1;have h2:=c.ho;show 2 * x.h.op<=_;omega
  ·intro he a ha;rcases List.mem_append.mp ha with ha|ha
   ·exact t.re he a ha
   ·have MF:x.h.early≠[]:=he;show 2 * x.h.op+1<=_;have h2:=c.ho;rcases GD a ha with ⟨e,rfl,_⟩|⟨e,_,_,i,rfl,_⟩
    ·by_cases hq:x.h.op=x.s.op
     ·exact absurd ((c.Mn e).2.2.2 hq) MF
     ·simp only[TC.rank];omega
    ·simp only[TC.rank];omega
  ·intro o i ha;rcases List.mem_append.mp ha with ha|ha
   ·exact t.r2 o i ha
   ·rcases GD _ ha with ⟨e,q,_⟩|⟨e,_,hp,i',q,hi⟩
    ·cases q
    ·cases q;have:=(dW hi).2.2.1;rw[hp] at this;exact this
  ·intro o i h1 h2;rcases List.mem_append.mp h2 with h2|h2
   ·rcases List.mem_append.mp h1 with h1|h1
    ·exact t.r3 o i h1 h2
    ·rcases GD _ h1 with ⟨e,q,_⟩|⟨e,_,_,i',q,_⟩
     ·cases q;have:=t.bo e _ h2;simp only[TC.rank] at this;omega
     ·cases q
   ·rcases GD _ h2 with ⟨e,q,_⟩|⟨e,_,_,i',q,hi⟩
    ·cases q
    ·cases q;have hw:=dW hi;rcases List.mem_append.mp h1 with h1|h1
     ·have hb:=c.bt;rw[Zw h1] at hb;show i<x.s.w;omega
     ·rcases GD _ h1 with ⟨e',_,_⟩|⟨_,_,_,i',q,_⟩
      ·rw[e] at e';cases e'
      ·cases q
  ·intro i h;rcases List.mem_append.mp h with h|h
   ·exact t.r4 i h
   ·rcases GD _ h with ⟨e,q,_⟩|⟨e,_,_,i',q,hi⟩
    ·cases q
    ·have q':TC.data x.h.op i=TC.data x.s.op i':=q
     injection q' with q1 q2
     subst q2;have hw:=dW hi;have Zx:=c.hn;rw[q1] at Zx;have h1:=c.bt;have h2:=c.tw;refine⟨?_,?_,fun e he=>?_⟩
     ·show i<x.h.nx+x.s.w;omega
     ·show x.h.nx<=i+x.s.w;omega
     ·have:=c.ek q1 e he;show e.1<i+x.s.w;omega
  ·refine dj t.r6 ?_ ?_
   ·refine List.Pairwise.imp_of_mem (R:=fun _ _=>True) ?_ (by simp[List.pairwise_iff_forall_sublist]);intro a a' ha MU _ o i j e1 e2;rcases GD a ha with ⟨e,q,_⟩|⟨e,_,_,i1,q,h1⟩
    ·rw[q] at e1;cases e1
    ·rcases GD a' MU with ⟨e',q',_⟩|⟨e',_,_,i2,q',h2⟩
     ·rw[q'] at e2;cases e2
     ·rw[q] at e1;rw[q'] at e2;cases e1;cases e2;have:=dW h1;have:=dW h2;show i<j+x.s.w;omega
   ·intro a ha a' MU o i j e1 e2;rcases GD a' MU with ⟨e',q',_⟩|⟨e',_,_,i2,q',h2⟩
    ·rw[q'] at e2;cases e2
    ·rw[q'] at e2;cases e2;rw[e1] at ha;have:=t.r7 i ha;have:=dW h2;show i<j+x.s.w;omega
  ·intro i h;rcases List.mem_append.mp h with h|h
   ·exact t.r7 i h
   ·rcases GD _ h with ⟨e,q,_⟩|⟨e,_,_,i',q,hi⟩
    ·cases q
    ·have q':TC.data x.s.op i=TC.data x.s.op i':=q
     injection q' with q1 q2
     subst q2;exact(dW hi).2.1
 ·unfold Sys.con;simp only[Sys.Il];refine congr (congr rfl ?_) rfl;show(x.T++x.JQ).map x.cT=x.T.map x.cT++x.s.tick;rw[List.map_append];congr 1;unfold Sys.JQ Sr.tick;cases e:x.s.st with
  |GJ=>rfl
  |opening=>rfl
  |opened=>
   obtain⟨h1,_⟩:=c.ps (by rw[e];simp);simp only[List.map_map];refine List.map_congr_left fun i _=>?_
   show v_.data x.s.op (i % (2 * x.s.w)) ((x.P x.s.op).getD i (0,[]))=v_.data x.s.op (i % (2 * x.s.w)) (x.s.ps.getD i (0,[]));rw[h1]
end
end Lw
namespace Lw
open PySem L2 DL
structure En where
 c:v_
 x:Option (List Int)
def En.xs(e:En):List Int:=match e.x with
 |none=>GO (aA e.c)
 |some xs=>xs
def gd(c:v_):En:=⟨c,none⟩
structure WW where
 s:Sr
 h:Hr
 T:List En
 B:List En
def eJ(e:En)(place:Nat)(Hx:Int):En:=match e.x with
 |some _=>e
 |none=>if Hx % 256=0 then e else ⟨e.c,some (e.xs.set (place % e.xs.length) ((e.xs.getD (place % e.xs.length) 0+Hx) % 256))⟩
def gG(l:List En)(k place:Nat)(Hx:Int):List En:=match l[k]? with
 |some e=>l.set k (eJ e place Hx)
 |none=>l
def nZ(l:List En)(k:Nat):List En:=match l[k]? with
 |some e=>l.insertIdx k e
 |none=>l
inductive Act where
 |hand (m:GL)|start|tick|step (r:Bool)|Mo (r:Bool) (k:Nat)|dbl (r:Bool) (k:Nat)|Jb (r:Bool) (k place:Nat) (Hx:Int)|Ge (r:Bool)
namespace WW
def new(w most:Nat):WW:=⟨Sr.new w most,Hr.new w,[],[]⟩
def road(w:WW)(r:Bool):List En:=if r then w.T else w.B
def FX(w:WW)(r:Bool)(l:List En):WW:=if r then { w with T:=l } else { w with B:=l }
def GK(w:WW)(r:Bool)(e:En):WW:=match e.x with
 |some _=>w
 |none=>if r then { w with h:=(w.h.l_ e.c).1,B:=w.B++(w.h.l_ e.c).2.map gd } else { w with s:=w.s.l_ e.c }
def step(w:WW)(r:Bool):WW:=match w.road r with
 |[]=>w
 |e :: l=>(w.FX r l).GK r e
def act(w:WW):Act->WW
 |.hand m=>{ w with s:=w.s.hand m }
 |.start=>{ w with s:=w.s.start }
 |.tick=>{ w with T:=w.T++w.s.tick.map gd }
 |.step r=>w.step r
 |.Mo r k=>w.FX r ((w.road r).eraseIdx k)
 |.dbl r k=>w.FX r (nZ (w.road r) k)
 |.Jb r k place Hx=>w.FX r (gG (w.road r) k place Hx)
 |.Ge r=>if r then { w with s:=w.s.Ge } else { w with h:=w.h.Ge }
end WW
def OF(m:GL):Prop:=∀x,x∈m->0<=x/\x<=255
def Nc(N:Nat)(e:En):Prop:=Jp e.c/\e.c.FA<=N/\e.xs.length<=100/\∀xs,e.x=some xs->∀c,Jp c->GO (aA c)≠xs
structure G4(N:Nat)(w:WW):Prop where
 sb:Sb N w.s
 bl:Bl w.s
 w0:0<w.s.w
 w7:w.s.w<=7
 m8:w.s.most<=8
 hw:w.h.w=w.s.w
 bd:Bd N w.h
 op:w.s.op<=N
 ho:w.h.op<=N
 gk:∀m,m∈w.s.msgs->OF m
 pk:∀p,p∈w.s.ps->p.2.length<=8/\OF p.2
 tk:∀e,e∈w.T->Nc N e
 bk:∀e,e∈w.B->Nc N e
 tl:w.T.length<=8 * N
 ql:w.B.length<=8 * N
theorem Nc.mono{N M:Nat}{e:En}(h:Nc N e)(hm:N<=M):Nc M e:=⟨h.1,Nat.le_trans h.2.1 hm,h.2.2⟩
theorem vD{N:Nat}{c:v_}(h:Jp c)(ho:c.FA<=N):Nc N (gd c):=by
 have:=fK h;refine⟨h,ho,?_,fun xs z=>by cases z⟩;show(GO (aA c)).length<=100;rw[mv];omega
theorem G4.mono{N M:Nat}{w:WW}(a:G4 N w)(h:N<=M):G4 M w:=
 ⟨a.sb.mono h,a.bl,a.w0,a.w7,a.m8,a.hw,a.bd.mono h,Nat.le_trans a.op h,Nat.le_trans a.ho h,a.gk,a.pk,fun e he=>(a.tk e he).mono h,fun e he=>(a.bk e he).mono h,by have:=a.tl;omega,by have:=a.ql;omega⟩
theorem kf{k:Nat}:∀(n:Nat) (m:GL),m.length<=n->1<=k->∀p,p∈nL k n m->p.2.length<=k/\∀x,x∈p.2->x∈m
 |0,m,hm,hk,p,hp=>by
  have:m=[]:=List.eq_nil_of_length_eq_zero (by omega);subst this;simp[nL] at hp;subst hp;simp
 |n+1,m,hm,hk,p,hp=>by
  unfold nL at hp;split at hp
  ·rcases List.mem_cons.mp hp with rfl|hp
   ·exact⟨by rw[List.length_take];omega,fun x hx=>List.mem_of_mem_take hx⟩
   ·have:=kf n (m.drop k) (by rw[List.length_drop];omega) hk p hp;exact⟨this.1,fun x hx=>List.mem_of_mem_drop (this.2 x hx)⟩
  ·simp at hp;subst hp;exact⟨by show m.length<=k;omega,fun x hx=>hx⟩
theorem xG{k:Nat}(hk:1<=k)(h8:k<=8){m:GL}(hm:m.length<=40)(ho:OF m):∀p,p∈eP k m->p.2.length<=8/\OF p.2:=fun p hp=>by
 have:=kf 100 m (by omega) hk p hp;exact⟨by omega,fun x hx=>ho x (this.2 x hx)⟩
section
variable{N:Nat}{w:WW}
theorem Bt{a b:Nat}(h1:0<a)(h2:a<=7)(h3:1<=b)(h4:b<=8):G4 0 (WW.new a b):=by
 refine⟨⟨h3,by simp[WW.new,Sr.new],by simp[WW.new,Sr.new],by simp[WW.new,Sr.new],by simp[WW.new,Sr.new],by simp[WW.new,Sr.new]⟩,Nat.zero_le _,h1,h2,h4,rfl,⟨by simp[WW.new,Hr.new],by simp[WW.new,Hr.new],by simp[WW.new,Hr.new]⟩,Nat.le_refl _,Nat.le_refl _,by simp[WW.new,Sr.new],by simp[WW.new,Sr.new],by simp[WW.new],by simp[WW.new],by simp[WW.new],by simp[WW.new]⟩
theorem zK(a:G4 N w){m:GL}(hm:m.length<=40)(ho:OF m):G4 (N+1) (w.act (.hand m)):=by
 have a':=a.mono (Nat.le_succ N);refine⟨a.sb.hand hm,a.bl.hand m,a.w0,a.w7,a.m8,a.hw,a'.bd,a'.op,a'.ho,fun y hy=>?_,fun p hp=>?_,a'.tk,a'.bk,a'.tl,a'.ql⟩
 ·rcases List.mem_append.mp (show y∈w.s.msgs++[m] from hy) with hy|hy
  ·exact a.gk y hy
  ·rw[List.mem_singleton.mp hy];exact ho
 ·have hp':p∈(if w.s.st=.GJ then w.s.ps else w.s.ps++eP w.s.most m):=hp;split at hp'
  ·exact a.pk p hp'
  ·rcases List.mem_append.mp hp' with hp'|hp'
   ·exact a.pk p hp'
   ·exact xG a.sb.most a.m8 hm ho p hp'
theorem xC(a:G4 N w):∀p,p∈w.s.anew.ps->p.2.length<=8/\OF p.2:=fun p hp=>by
 obtain⟨m,hm,hp⟩:=List.mem_flatMap.mp (show p∈(w.s.msgs.drop w.s.sure).flatMap (eP w.s.most) from hp);have Xc:=List.mem_of_mem_drop hm;exact xG a.sb.most a.m8 (a.sb.NF m Xc) (a.gk m Xc) p hp
theorem yE(a:G4 N w):G4 (N+1) (w.act .start):=by
 have a':=a.mono (Nat.le_succ N);by_cases h:w.s.st=.GJ
 ·have e:w.act .start = { w with s:=w.s.anew }:=by show({ w with s:=w.s.start }:WW)=_;unfold Sr.start;rw[if_pos h]
  have hb:Sb (N+1) w.s.anew:=by
   have:=(a.sb.start (s:=w.s)).mono (Nat.le_succ N);unfold Sr.start at this;rw[if_pos h] at this;exact this
  rw[e];exact⟨hb,Bl.anew,a.w0,a.w7,a.m8,a.hw,a'.bd,by have:=a.op;show w.s.op+1<=_;omega,a'.ho,a.gk,xC a,a'.tk,a'.bk,a'.tl,a'.ql⟩
 ·have e:w.act .start=w:=by show({ w with s:=w.s.start }:WW)=_;unfold Sr.start;rw[if_neg h]
  rw[e];exact a'
theorem we(s:Sr):s.wanted.length<=s.w:=by
 unfold Sr.wanted;refine Nat.le_trans (List.length_filter_le _ _) ?_;rw[List.length_range'];omega
theorem xo(a:G4 N w)(hN:N<=20000):(∀c,c∈w.s.tick->Jp c/\c.FA<=N)/\w.s.tick.length<=7:=by
 have ho:=a.op;have hw:=a.w7;have h0:=a.w0;unfold Sr.tick;cases w.s.st with
 |GJ=>exact⟨fun c hc=>by simp at hc,by simp⟩
 |opening=>exact⟨fun c hc=>by simp at hc;subst hc;exact⟨(show w.s.op<=65535 by omega),ho⟩,by simp⟩
 |opened=>
  refine⟨fun c hc=>?_,by rw[List.length_map];have:=we w.s;omega⟩;obtain⟨i,hi,rfl⟩:=List.mem_map.mp hc;obtain⟨h1,h2,h3,h4⟩:=dW hi;have OD:w.s.ps.getD i (0,[])∈w.s.ps:=by
   rw[List.getD_eq_getElem?_getD,List.getElem?_eq_getElem h3];exact List.getElem_mem h3
  have hf:=a.sb.fg _ OD;have hp:=a.pk _ OD;have hm:=Nat.mod_lt i (show 0<2 * w.s.w by omega);exact⟨⟨by omega,by omega,by omega,hp.1,hp.2⟩,ho⟩
theorem z8(a:G4 N w)(hN:N<=20000):G4 (N+1) (w.act .tick):=by
 have a':=a.mono (Nat.le_succ N);obtain⟨h1,h2⟩:=xo a hN;refine⟨a'.sb,a'.bl,a.w0,a.w7,a.m8,a.hw,a'.bd,a'.op,a'.ho,a.gk,a.pk,fun e he=>?_,a'.bk,?_,a'.ql⟩
 ·rcases List.mem_append.mp (show e∈w.T++w.s.tick.map gd from he) with he|he
  ·exact a'.tk e he
  ·obtain⟨c,hc,rfl⟩:=List.mem_map.mp he;exact(vD (h1 c hc).1 (h1 c hc).2).mono (Nat.le_succ _)
 ·show(w.T++w.s.tick.map gd).length<=_;have:=a.tl;rw[List.length_append,List.length_map];omega
theorem G4.rd(a:G4 N w)(r:Bool):∀e,e∈w.road r->Nc N e:=by
 cases r with
 |true=>exact a.tk
 |false=>exact a.bk
theorem G4.rl(a:G4 N w)(r:Bool):(w.road r).length<=8 * N:=by
 cases r with
 |true=>exact a.tl
 |false=>exact a.ql
theorem G4.FX(a:G4 N w)(r:Bool){l:List En}(h1:∀e,e∈l->Nc N e)(h2:l.length<=8 * N):G4 N (w.FX r l):=by
 cases r with
 |true=>exact⟨a.sb,a.bl,a.w0,a.w7,a.m8,a.hw,a.bd,a.op,a.ho,a.gk,a.pk,h1,a.bk,h2,a.ql⟩
 |false=>exact⟨a.sb,a.bl,a.w0,a.w7,a.m8,a.hw,a.bd,a.op,a.ho,a.gk,a.pk,a.tk,h1,a.tl,h2⟩
theorem Ao(a:G4 N w)(r:Bool)(k:Nat):G4 N (w.act (.Mo r k)):=by
 refine a.FX r (fun e he=>a.rd r e (List.mem_of_mem_eraseIdx he)) ?_;have:=List.length_eraseIdx_le (w.road r) k;have:=a.rl r;omega
theorem ig{α:Type}:∀{l:List α}{k:Nat}{x y:α},y∈l.insertIdx k x->y=x\/y∈l
 |l,0,x,y,h=>by simpa using h
 |[],k+1,x,y,h=>by simp at h
 |z :: l,k+1,x,y,h=>by
  rw[List.insertIdx_succ_cons] at h;rcases List.mem_cons.mp h with rfl|h
  ·exact .inr List.mem_cons_self
  ·rcases ig h with h|h
   ·exact .inl h
   ·exact .inr (List.mem_cons_of_mem _ h)
theorem BZ(a:G4 N w)(r:Bool)(k:Nat):G4 (N+1) (w.act (.dbl r k)):=by
 have a':=a.mono (Nat.le_succ N);have hl:=a.rl r;refine a'.FX r (fun e he=>?_) ?_
 ·unfold nZ at he;split at he
  ·rename_i e' h';rcases ig he with rfl|he
   ·exact a'.rd r e (List.mem_of_getElem? h')
   ·exact a'.rd r e he
  ·exact a'.rd r e he
 ·unfold nZ;split
  ·exact Nat.le_trans List.length_insertIdx_le_succ (by omega)
  ·omega
theorem uk(a:G4 N w)(hN:N<=20000){c:v_}(hc:Jp c)(Xd:c.FA<=N):(∀d,d∈(w.h.l_ c).2->Jp d/\d.FA<=N)/\(w.h.l_ c).2.length<=1/\(w.h.l_ c).1.op<=N:=by
 have ho:=a.ho;have hw:=a.hw;have h7:=a.w7;have h0:=a.w0;have tX:∀h:Hr,h.op<=N->h.w=w.s.w->Jp h.note/\h.note.FA<=N:=by
  intro h h1 h2;refine⟨⟨by omega,?_,?_,fun x hx=>?_⟩,h1⟩
  ·have:=Nat.mod_lt h.nx (show 0<2 * h.w by omega);omega
  ·show h.bits.length<=7;unfold Hr.bits;rw[List.length_map,List.length_range];omega
  ·obtain⟨k,_,rfl⟩:=List.mem_map.mp (show x∈h.bits from hx);split<;>omega
 cases c with
 |x_ o=>
  have NH:o<=65535:=hc;have RB:o<=N:=Xd;dsimp only[Hr.l_];split
  ·exact⟨fun d hd=>by simp at hd,by simp,ho⟩
  ·split
   ·exact⟨fun d hd=>by simp at hd;subst hd;exact⟨NH,RB⟩,by simp,RB⟩
   ·exact⟨fun d hd=>by simp at hd;subst hd;exact⟨NH,RB⟩,by simp,ho⟩
 |data o n p=>
  have NH:=hc.1;have RB:o<=N:=Xd;dsimp only[Hr.l_];split
  ·exact⟨fun d hd=>by simp at hd,by simp,ho⟩
  ·split
   ·exact⟨fun d hd=>by simp at hd;subst hd;exact⟨NH,RB⟩,by simp,ho⟩
   ·have e1:(w.h.data n p).op=w.h.op:=by
     unfold Hr.data;have t:∀(k:Nat) (h:Hr),(Hr.Fh k h).op=h.op:=by
      intro k
      induction k with
      |zero=>intro h;rfl
      |succ k ih=>
       intro h;unfold Hr.Fh;split
       ·rfl
       ·rw[ih];unfold Hr.take;split<;>rfl
     rw[t];unfold Hr.keep;split<;>rfl
    have e2:=tR w.h n p;refine⟨fun d hd=>?_,by simp,by rw[e1];exact ho⟩;simp at hd;subst hd;exact tX _ (by rw[e1];exact ho) (by rw[e2];exact hw)
 |tB o=>exact⟨fun d hd=>by simp[Hr.l_] at hd,by simp[Hr.l_],ho⟩
 |GU o=>exact⟨fun d hd=>by simp[Hr.l_] at hd,by simp[Hr.l_],ho⟩
 |note o n bs=>exact⟨fun d hd=>by simp[Hr.l_] at hd,by simp[Hr.l_],ho⟩
theorem Jp.QD{c:v_}(h:Jp c):QD c:=by
 cases c with
 |data o n p=>exact Nat.le_trans h.2.2.2.1 (by decide)
 |_=>trivial
theorem Jp.Ml{c:v_}(h:Jp c):Ml c:=by
 cases c with
 |note o n bs=>exact h.2.2.1
 |_=>trivial
theorem tH(s:Sr)(n:Nat)(bs:List Int):(s.C_ n bs).ps=s.ps/\(s.C_ n bs).op=s.op/\(s.C_ n bs).msgs=s.msgs/\(s.C_ n bs).most=s.most:=by
 unfold Sr.C_;split
 ·have:=dn bs (s.Hw (jd n s.base s.w).toNat) 0;exact⟨this.2.2.2.2.2.2.1,this.2.2.2.2.1,this.2.2.1,this.2.1⟩
 ·exact⟨rfl,rfl,rfl,rfl⟩
theorem yQ(a:G4 N w)(c:v_):(∀p,p∈(w.s.l_ c).ps->p.2.length<=8/\OF p.2)/\(w.s.l_ c).op<=N+1/\(w.s.l_ c).msgs=w.s.msgs/\(w.s.l_ c).most=w.s.most:=by
 have ho:=a.op;cases c with
 |tB o=>
  dsimp only[Sr.l_];split
  ·exact⟨a.pk,by show w.s.op<=_;omega,rfl,rfl⟩
  ·exact⟨a.pk,by omega,rfl,rfl⟩
 |GU o=>
  dsimp only[Sr.l_];split
  ·exact⟨xC a,by show w.s.op+1<=_;omega,rfl,rfl⟩
  ·exact⟨a.pk,by omega,rfl,rfl⟩
 |note o n bs=>
  dsimp only[Sr.l_];split
  ·obtain⟨e1,e2,e3,e4⟩:=tH w.s n bs;rw[e1,e2,e3,e4];exact⟨a.pk,by omega,rfl,rfl⟩
  ·exact⟨a.pk,by omega,rfl,rfl⟩
 |x_ o=>exact⟨a.pk,by show w.s.op<=_;omega,rfl,rfl⟩
 |data o n p=>exact⟨a.pk,by show w.s.op<=_;omega,rfl,rfl⟩
theorem vO(a:G4 N w)(hN:N<=20000)(r:Bool){e:En}(he:Nc N e):G4 (N+1) (w.GK r e):=by
 have a':=a.mono (Nat.le_succ N);obtain⟨c,x⟩:=e;cases x with
 |some xs=>exact a'
 |none=>
  cases r with
  |true=>
   obtain⟨k1,k2,k3⟩:=uk a hN he.1 he.2.1;refine⟨a'.sb,a'.bl,a.w0,a.w7,a.m8,(Ba w.h c).trans a.hw,a.bd.l_ he.1.QD,a'.op,Nat.le_succ_of_le k3,a.gk,a.pk,a'.tk,fun d hd=>?_,a'.tl,?_⟩
   ·rcases List.mem_append.mp (show d∈w.B++(w.h.l_ c).2.map gd from hd) with hd|hd
    ·exact a'.bk d hd
    ·obtain⟨q,hq,rfl⟩:=List.mem_map.mp hd;exact(vD (k1 q hq).1 (k1 q hq).2).mono (Nat.le_succ _)
   ·show(w.B++(w.h.l_ c).2.map gd).length<=_;have:=a.ql;have N_:(w.h.l_ c).2.length<=1:=k2;rw[List.length_append,List.length_map];omega
  |false=>
   obtain⟨k1,k2,k3,k4⟩:=yQ a c;have hw:=AC w.s c;refine⟨a.sb.l_ he.1.Ml,a.bl.l_ a.w0 c,by rw[show(w.GK false ⟨c,none⟩).s=w.s.l_ c from rfl,hw];exact a.w0,by rw[show(w.GK false ⟨c,none⟩).s=w.s.l_ c from rfl,hw];exact a.w7,by rw[show(w.GK false ⟨c,none⟩).s=w.s.l_ c from rfl,k4];exact a.m8,by rw[show(w.GK false ⟨c,none⟩).s=w.s.l_ c from rfl,hw];exact a.hw,a'.bd,k2,a'.ho,fun m hm=>a.gk m (by rw[<-k3];exact hm),k1,a'.tk,a'.bk,a'.tl,a'.ql⟩
theorem yu(w:WW)(r:Bool)(l:List En):(w.FX r l).road r=l:=by cases r<;>rfl
theorem y9(a:G4 N w)(hN:N<=20000)(r:Bool):G4 (N+1) (w.act (.step r)):=by
 show G4 (N+1) (w.step r);unfold WW.step;cases h:w.road r with
 |nil=>exact a.mono (Nat.le_succ N)
 |cons e l=>
  have h1:=a.rd r;have h2:=a.rl r;rw[h] at h1 h2;rw[List.length_cons] at h2;exact vO (a.FX r (fun d hd=>h1 d (List.mem_cons_of_mem _ hd)) (by omega)) hN r (h1 e List.mem_cons_self)
theorem zS{e:En}(he:Nc N e)(place:Nat)(Hx:Int):Nc N (eJ e place Hx):=by
 obtain⟨c,x⟩:=e;cases x with
 |some xs=>exact he
 |none=>
  unfold eJ;dsimp only;split
  ·exact he
  ·rename_i hb;have Na:3<=(aA c).length/\(aA c).length<=13:=fK he.1;have P8:(⟨c,none⟩:En).xs=GO (aA c):=rfl;have Zy:=mv (aA c);refine⟨he.1,he.2.1,?_,?_⟩
   ·show(((⟨c,none⟩:En).xs).set _ _).length<=100;rw[List.length_set,P8,Zy];omega
   ·intro xs hx c' QP
    injection hx with hx
    rw[<-hx,P8];obtain⟨i,hi⟩:∃i,place % (GO (aA c)).length=i:=⟨_,rfl⟩;have HA:i<(GO (aA c)).length:=by rw[<-hi];exact Nat.mod_lt _ (by omega)
    rw[hi];have Ik:=Aj (sH he.1);obtain⟨a,ha⟩:∃a,(GO (aA c))[i]?=some a:=⟨_,List.getElem?_eq_getElem HA⟩;have Zz:(GO (aA c)).getD i 0=a:=by rw[List.getD_eq_getElem?_getD,ha];rfl
    rw[Zz];exact CW ha (by omega) (aA c')
theorem xU(a:G4 N w)(r:Bool)(k place:Nat)(Hx:Int):G4 N (w.act (.Jb r k place Hx)):=by
 have hl:=a.rl r;refine a.FX r (fun e he=>?_) ?_
 ·unfold gG at he;split at he
  ·rename_i e' h';rcases List.mem_or_eq_of_mem_set he with he|rfl
   ·exact a.rd r e he
   ·exact zS (a.rd r e' (List.mem_of_getElem? h')) place Hx
  ·exact a.rd r e he
 ·unfold gG;split
  ·rw[List.length_set];exact hl
  ·exact hl
theorem AF(a:G4 N w)(r:Bool):G4 N (w.act (.Ge r)):=by
 cases r with
 |true=>exact⟨a.sb.Ge,a.bl,a.w0,a.w7,a.m8,a.hw,a.bd,a.op,a.ho,a.gk,a.pk,a.tk,a.bk,a.tl,a.ql⟩
 |false=>exact⟨a.sb,a.bl,a.w0,a.w7,a.m8,a.hw,a.bd.begin_ 0,a.op,Nat.zero_le _,a.gk,a.pk,a.tk,a.bk,a.tl,a.ql⟩
def Act.ok:Act->Prop
 |.hand m=>m.length<=40/\OF m
 |_=>True
theorem AH(a:G4 N w)(hN:N<=20000)(t:Act)(ht:t.ok):G4 (N+1) (w.act t):=by
 cases t with
 |hand m=>exact zK a ht.1 ht.2
 |start=>exact yE a
 |tick=>exact z8 a hN
 |step r=>exact y9 a hN r
 |Mo r k=>exact(Ao a r k).mono (Nat.le_succ N)
 |dbl r k=>exact BZ a r k
 |Jb r k p b=>exact(xU a r k p b).mono (Nat.le_succ N)
 |Ge r=>exact(AF a r).mono (Nat.le_succ N)
end
end Lw
namespace Lw
open PySem L2 DL
structure Ad where
 n:Nat
 nS:Nat
 mS:Nat
 pS:Nat
 qS:Nat
 nH:Nat
 gH:Nat
 eH:Nat
 bH:Nat
 nR:Nat
 nT:Nat
 nB:Nat
def Ad.sf(a:Ad):List Nat:=[a.nS,a.mS,a.pS,a.qS]
def Ad.hf(a:Ad):List Nat:=[a.nH,a.gH,a.eH,a.bH]
def Ad.wf(a:Ad):List Nat:=[a.n,a.nR,a.nT,a.nB]
def Ad.fp(a:Ad):List Nat:=a.sf++a.hf++a.wf
def Ad.rn(a:Ad)(r:Bool):Nat:=if r then a.nT else a.nB
def bj(r:Bool):Str:=if r then "there" else "back"
def Jc(e:En):D:=.tup [.tup (e.xs.map D.int),.bl e.x.isSome]
structure G5(G:Cs)(S:List Cell)(a:Ad)(w:WW):Prop where
 ob:S[a.n]?=some (.ins G.World m_ [.ob a.nS,.ob a.nH,.ob a.nR])
 sr:FH G S a.nS a.mS a.pS a.qS w.s
 hr:FZ G S a.nH a.gH a.eH a.bH w.h
 rd:S[a.nR]?=some (.GW [(.inr "there",.ob a.nT),(.inr "back",.ob a.nB)])
 tt:S[a.nT]?=some (.lst (w.T.map Jc))
 bb:S[a.nB]?=some (.lst (w.B.map Jc))
 sh:∀i,i∈a.sf->∀j,j∈a.hf->i≠j
 sw:∀i,i∈a.sf->∀j,j∈a.wf->i≠j
 hw:∀i,i∈a.hf->∀j,j∈a.wf->i≠j
 tb:a.nT≠a.nB
structure HD(G:Cs)(a:Ad)(S:List Cell)(a':Ad)(S':List Cell)(w':WW):Prop where
 at_:G5 G S' a' w'
 fr:Fr a.fp S S'
 nn:a'.n=a.n
 ad:∀i,i∈a'.fp->i∈a.fp\/S.length<=i
section
variable{G:Cs}{S S' S1 S2:List Cell}{a a' a1 a2:Ad}{w w' w1 w2:WW}{N:Nat}
theorem rE{i p q r s:Nat}:i∈[p,q,r,s]↔i=p\/i=q\/i=r\/i=s:=by simp
theorem G5.lt(A:G5 G S a w):∀i,i∈a.fp->i<S.length:=by
 intro i hi;simp only[Ad.fp,Ad.sf,Ad.hf,Ad.wf,List.mem_append,rE] at hi;rcases hi with ((rfl|rfl|rfl|rfl)|(rfl|rfl|rfl|rfl))|(rfl|rfl|rfl|rfl)
 ·exact br A.sr.ob
 ·exact br A.sr.ms
 ·exact br A.sr.ps
 ·exact br A.sr.nt
 ·exact br A.hr.ob
 ·exact br A.hr.gv
 ·exact br A.hr.ea
 ·exact br A.hr.be
 ·exact br A.ob
 ·exact br A.rd
 ·exact br A.tt
 ·exact br A.bb
theorem Ad.P_{a:Ad}{i:Nat}(h:i∈a.sf):i∈a.fp:=by simp only[Ad.fp,List.mem_append];exact .inl (.inl h)
theorem Ad.Qa{a:Ad}{i:Nat}(h:i∈a.hf):i∈a.fp:=by simp only[Ad.fp,List.mem_append];exact .inl (.inr h)
theorem Ad.OG{a:Ad}{i:Nat}(h:i∈a.wf):i∈a.fp:=by simp only[Ad.fp,List.mem_append];exact .inr h
theorem FH.fr{n m p q:Nat}{s:Sr}{fp:List Nat}(a:FH G S n m p q s)(f:Fr fp S S')(h:∀i,i∈[n,m,p,q]->i∉fp):FH G S' n m p q s:=
 ⟨f.get a.ob (h _ (by simp)),f.get a.ms (h _ (by simp)),f.get a.ps (h _ (by simp)),f.get a.nt (h _ (by simp)),a.mp⟩
theorem G5.fr{fp:List Nat}(A:G5 G S a w)(f:Fr fp S S')(h:∀i,i∈a.fp->i∉fp):G5 G S' a w:=by
 have hs:∀i,i∈a.sf->i∉fp:=fun i hi=>h i (Ad.P_ hi)
 have hh:∀i,i∈a.hf->i∉fp:=fun i hi=>h i (Ad.Qa hi)
 have hw:∀i,i∈a.wf->i∉fp:=fun i hi=>h i (Ad.OG hi)
 exact⟨f.get A.ob (hw _ (by simp[Ad.wf])),A.sr.fr f hs,A.hr.fr f (hh _ (by simp[Ad.hf])) (hh _ (by simp[Ad.hf])) (hh _ (by simp[Ad.hf])) (hh _ (by simp[Ad.hf])),f.get A.rd (hw _ (by simp[Ad.wf])),f.get A.tt (hw _ (by simp[Ad.wf])),f.get A.bb (hw _ (by simp[Ad.wf])),A.sh,A.sw,A.hw,A.tb⟩
theorem G5.push(A:G5 G S a w)(c:List Cell):G5 G (S++c) a w:=A.fr (fp:=[]) Fr.push fun _ _ z=>nomatch z
theorem HD.refl(A:G5 G S a w):HD G a S a S w:=⟨A,Fr.refl _ _,rfl,fun i hi=>.inl hi⟩
theorem HD.push(A:HD G a S a' S' w')(c:List Cell):HD G a S a' (S'++c) w':=⟨A.at_.push c,A.fr.tr Fr.push,A.nn,A.ad⟩
theorem HD.trans(A:HD G a S a1 S1 w1)(C:HD G a1 S1 a2 S2 w2):HD G a S a2 S2 w2:=by
 have hl:=A.fr.1;refine⟨C.at_,A.fr.trans C.fr fun i hi hs=>?_,C.nn.trans A.nn,fun i hi=>?_⟩
 ·rcases A.ad i hi with h|h
  ·exact h
  ·omega
 ·rcases C.ad i hi with h|h
  ·exact A.ad i h
  ·exact .inr (by omega)
theorem G5.snd(A:G5 G S a w){p' q':Nat}{s':Sr}(k:GN G a.nS a.mS a.pS a.qS S p' q' S' s'):HD G a S { a with pS:=p',qS:=q' } S' { w with s:=s' }:=by
 have UD:∀i,i∈a.wf->i<S.length:=fun i hi=>A.lt i (Ad.OG hi)
 have ZA:∀i,i∈a.hf->i<S.length:=fun i hi=>A.lt i (Ad.Qa hi)
 have GD:∀i,i∈[a.nS,a.mS,p',q']->i∈a.sf\/S.length<=i:=fun i hi=>by
  have h1:=k.p_;have h2:=k.q_;simp only[rE,Ad.sf] at hi ⊢;rcases hi with rfl|rfl|rfl|rfl
  ·exact .inl (.inl rfl)
  ·exact .inl (.inr (.inl rfl))
  ·rcases h1 with rfl|h1
   ·exact .inl (.inr (.inr (.inl rfl)))
   ·exact .inr h1
  ·rcases h2 with rfl|h2
   ·exact .inl (.inr (.inr (.inr rfl)))
   ·exact .inr h2
 have ow:∀j,j∈a.wf->j∉[a.nS,a.mS,a.pS,a.qS]:=fun j hj z=>A.sw j z j hj rfl
 have oh:∀j,j∈a.hf->j∉[a.nS,a.mS,a.pS,a.qS]:=fun j hj z=>A.sh j z j hj rfl
 refine⟨⟨k.fr.get A.ob (ow _ (by simp[Ad.wf])),k.at_,A.hr.fr k.fr (oh _ (by simp[Ad.hf])) (oh _ (by simp[Ad.hf])) (oh _ (by simp[Ad.hf])) (oh _ (by simp[Ad.hf])),k.fr.get A.rd (ow _ (by simp[Ad.wf])),k.fr.get A.tt (ow _ (by simp[Ad.wf])),k.fr.get A.bb (ow _ (by simp[Ad.wf])),fun i hi j hj=>?_,fun i hi j hj=>?_,A.hw,A.tb⟩,k.fr.mono (fun i hi _=>Ad.P_ hi),rfl,fun i hi=>?_⟩
 ·rcases GD i hi with h|h
  ·exact A.sh i h j hj
  ·have:=ZA j hj;omega
 ·rcases GD i hi with h|h
  ·exact A.sw i h j hj
  ·have:=UD j hj;omega
 ·simp only[Ad.fp,List.mem_append] at hi ⊢;rcases hi with (hi|hi)|hi
  ·rcases GD i hi with h|h
   ·exact .inl (.inl (.inl h))
   ·exact .inr h
  ·exact .inl (.inl (.inr hi))
  ·exact .inl (.inr hi)
theorem G5.Xe(A:G5 G S a w){e' b':Nat}{h':Hr}(k:Gr G a.nH a.gH a.eH a.bH S e' b' S' h'):HD G a S { a with eH:=e',bH:=b' } S' { w with h:=h' }:=by
 have UD:∀i,i∈a.wf->i<S.length:=fun i hi=>A.lt i (Ad.OG hi)
 have ZC:∀i,i∈a.sf->i<S.length:=fun i hi=>A.lt i (Ad.P_ hi)
 have GD:∀i,i∈[a.nH,a.gH,e',b']->i∈a.hf\/S.length<=i:=fun i hi=>by
  have h1:=k.e_;have h2:=k.b_;simp only[rE,Ad.hf] at hi ⊢;rcases hi with rfl|rfl|rfl|rfl
  ·exact .inl (.inl rfl)
  ·exact .inl (.inr (.inl rfl))
  ·rcases h1 with rfl|h1
   ·exact .inl (.inr (.inr (.inl rfl)))
   ·exact .inr h1
  ·rcases h2 with rfl|h2
   ·exact .inl (.inr (.inr (.inr rfl)))
   ·exact .inr h2
 have ow:∀j,j∈a.wf->j∉[a.nH,a.gH,a.eH,a.bH]:=fun j hj z=>A.hw j z j hj rfl
 have os:∀j,j∈a.sf->j∉[a.nH,a.gH,a.eH,a.bH]:=fun j hj z=>A.sh j hj j z rfl
 refine⟨⟨k.fr.get A.ob (ow _ (by simp[Ad.wf])),A.sr.fr k.fr os,k.at_,k.fr.get A.rd (ow _ (by simp[Ad.wf])),k.fr.get A.tt (ow _ (by simp[Ad.wf])),k.fr.get A.bb (ow _ (by simp[Ad.wf])),fun i hi j hj=>?_,A.sw,fun i hi j hj=>?_,A.tb⟩,k.fr.mono (fun i hi _=>Ad.Qa hi),rfl,fun i hi=>?_⟩
 ·rcases GD j hj with h|h
  ·exact A.sh i hi j h
  ·have:=ZC i hi;omega
 ·rcases GD i hi with h|h
  ·exact A.hw i h j hj
  ·have:=UD j hj;omega
 ·simp only[Ad.fp,List.mem_append] at hi ⊢;rcases hi with (hi|hi)|hi
  ·exact .inl (.inl (.inl hi))
  ·rcases GD i hi with h|h
   ·exact .inl (.inl (.inr h))
   ·exact .inr h
  ·exact .inl (.inr hi)
theorem G5.cell(A:G5 G S a w)(r:Bool):S[a.rn r]?=some (.lst ((w.road r).map Jc)):=by
 cases r with
 |true=>exact A.tt
 |false=>exact A.bb
theorem Ad.RC(a:Ad)(r:Bool):a.rn r∈a.wf:=by cases r<;>simp[Ad.rn,Ad.wf]
theorem G5.RD(A:G5 G S a w)(r:Bool){l:List En}(c:Ch (a.rn r) (.lst (l.map Jc)) S S'):HD G a S a S' (w.FX r l):=by
 have hm:=a.RC r;have os:∀j,j∈a.sf->j∉[a.rn r]:=fun j hj z=>A.sw j hj _ hm (List.mem_singleton.mp z)
 have oh:∀j,j∈a.hf->j∉[a.rn r]:=fun j hj z=>A.hw j hj _ hm (List.mem_singleton.mp z)
 have nR:a.rn r≠a.nR:=dr (A.cell r) A.rd (by intro z;cases z);have nn:a.rn r≠a.n:=dr (A.cell r) A.ob (by intro z;cases z);refine⟨⟨?_,?_,?_,?_,?_,?_,A.sh,A.sw,A.hw,A.tb⟩,c.fr.mono (fun i hi _=>by rw[List.mem_singleton.mp hi];exact Ad.OG hm),rfl,fun i hi=>.inl hi⟩
 ·exact c.old A.ob nn
 ·cases r<;>exact A.sr.fr c.fr os
 ·cases r<;>exact A.hr.fr c.fr (oh _ (by simp[Ad.hf])) (oh _ (by simp[Ad.hf])) (oh _ (by simp[Ad.hf])) (oh _ (by simp[Ad.hf]))
 ·exact c.old A.rd nR
 ·cases r with
  |true=>exact c.at_
  |false=>exact c.old A.tt (Ne.symm A.tb)
 ·cases r with
  |true=>exact c.old A.bb A.tb
  |false=>exact c.at_
theorem CG(A:G5 G S a w)(r:Bool):gq (.ob a.nR) (.str (bj r)) S=.ok (.ob (a.rn r)) S:=by
 unfold gq;have h:du S a.nR=some [(.inr "there",.ob a.nT),(.inr "back",.ob a.nB)]:=by unfold du;rw[A.rd]
 cases r with
 |true=>
  have:gX [(.inr "there",.ob a.nT),(.inr "back",.ob a.nB)] (.inr "there")=some (.ob a.nT):=by
   unfold gX;rw[List.find?_cons];simp
  simp only[hZ,h,bj,if_true,this];rfl
 |false=>
  have e:decide ((Sum.inr ("there":Str):Key)=Sum.inr ("back":Str))=false:=by decide +kernel
  have:gX [(.inr "there",.ob a.nT),(.inr "back",.ob a.nB)] (.inr "back")=some (.ob a.nB):=by
   unfold gX;rw[List.find?_cons,e];simp
  simp only[hZ,h,bj,this,Bool.false_eq_true,if_false];rfl
theorem oj(A:G5 G S a w)(r:Bool)(rest:s_):f_ gq (aB G.World m_ 2 (aa 0)) (aa 1) (some (.ob a.n) :: some (.str (bj r)) :: rest) S=.ok (.ob (a.rn r)) S:=
 ar (bX rfl A.ob rfl) rfl (CG A r)
theorem ue(A:G5 G S a w)(r:Bool)(k:Nat):aT G [.ob a.n,.str (bj r),.int (k:Int)] S=.ok (.bl (decide (k<(w.road r).length))) S:=by
 show fin S (eM G [some (.ob a.n),some (.str (bj r)),some (.int (k:Int))] S)=_;unfold eM;have e1:am bw (ac (f_ gq (aB G.World m_ 2 (aa 0)) (aa 1)) ai) [some (.ob a.n),some (.str (bj r)),some (.int (k:Int))] S=.ok (.int ((w.road r).length:Int)) S:=by
  refine ax (ag (oj A r _) aj) ?_;rw[kE (A.cell r),List.length_map]
 rw[aR (d:=.bl (decide (k<(w.road r).length))) (S1:=S)]
 ·rfl
 ·rw[uT,av];simp only[tj];rw[av];show(((JY (.int 0) (.int (k:Int))).bind PC).bind _) S=_;rw[av,av,vF,decide_eq_true (show(0:Int)<=(k:Int) by omega)];simp only[Ct,if_true];rw[av,e1];simp only[qN];congr 2;rw[decide_eq_decide];omega
theorem wK(A:G5 G S a w)(r:Bool){l:Nat}{cs:List v_}(hl:S[l]?=some (.lst (cs.map k_)))(Xf:l≠a.rn r)(hc:∀c,c∈cs->Jp c)(hz:(w.road r).length+cs.length<=1000000) :
  ∃S',bU G [.ob a.n,.str (bj r),.ob l] S=.ok .D_ S'/\HD G a S a S' (w.FX r (w.road r++cs.map gd)):=by
 show ∃S',fin S (ez G [some (.ob a.n),some (.str (bj r)),some (.ob l),none] S)=_/\_;unfold ez;have hw:HM (aa 2) [some (.ob a.n),some (.str (bj r)),some (.ob l),none] S=.ok ⟨cs.map k_,some (l,cs.map k_)⟩ S:=by
  rw[lF,av];show kG (.ob l) S=_;simp only[kG,hl]
 obtain⟨r',S',q,x3,rfl,k,_⟩:=dO (g:=some (l,cs.map k_)) (tg:=gN 3) (b:=dB G)
  (fun i r' S'=>∃x3,r'=[some (.ob a.n),some (.str (bj r)),some (.ob l),x3]/\HD G a S a S' (w.FX r (w.road r++(cs.take i).map gd))/\S'[l]?=some (.lst (cs.map k_))) (cs.map k_) 0 [some (.ob a.n),some (.str (bj r)),some (.ob l),none] S
  (by
   rintro i y r' S' hy ⟨x3,rfl,k,Xg⟩;rw[List.getElem?_map] at hy;cases hp:cs[i]? with
   |none=>rw[hp] at hy;cases hy
   |some c=>
    rw[hp] at hy;cases hy;rw[Nat.zero_add] at k ⊢;have PD:=(List.getElem?_eq_some_iff.mp hp).1;have Fn:=hc c (List.mem_of_getElem? hp);have k':=k.at_;have FU:=k'.cell r;rw[yu] at FU;obtain⟨S2,e2,c2⟩:=sX (fo:=f_ gq (aB G.World m_ 2 (aa 0)) (aa 1)) (ft:=ac (cn (ac (am (jG G) (ac (aa 3) ai)) (ac (dC (.bl false)) ai))) ai) (r:=[some (.ob a.n),some (.str (bj r)),some (.ob l),some (k_ c)]) (d:=Jc (gd c))
     (oj k' r _) FU (ag (bM (ag (ax (ag rfl aj) (wA Fn _)) (ag rfl aj)) (by simp)) aj) (by rw[List.length_map,List.length_append,List.length_map,List.length_take];omega)
    have c3:Ch (a.rn r) (.lst ((w.road r++(cs.take (i+1)).map gd).map Jc)) S' S2:=by
     have e:(w.road r++(cs.take (i+1)).map gd).map Jc=(w.road r++(cs.take i).map gd).map Jc++[Jc (gd c)]:=by rw[List.take_add_one,hp];simp
     rw[e];exact c2
    have kk:=k.trans (k'.RD r c3);have Jf:(w.FX r (w.road r++(cs.take i).map gd)).FX r (w.road r++(cs.take (i+1)).map gd)=w.FX r (w.road r++(cs.take (i+1)).map gd):=by cases r<;>rfl
    rw[Jf] at kk;refine⟨[some (.ob a.n),some (.str (bj r)),some (.ob l),some (k_ c)],[some (.ob a.n),some (.str (bj r)),some (.ob l),some (k_ c)],S2,rfl,?_,c3.old Xg (Ne.symm Xf),some (k_ c),rfl,kk,c3.old Xg (Ne.symm Xf)⟩;unfold dB;exact bf e2)
  ⟨none,rfl,by
   have:w.FX r (w.road r++(cs.take 0).map gd)=w:=by cases r<;>simp[WW.FX,WW.road]
   rw[this];exact HD.refl A,hl⟩
 rw[show 0+(cs.map k_).length=cs.length by simp,List.take_length] at k;refine⟨S',?_,k⟩;rw[lR hw,q];rfl
theorem BN(A:G5 G S a w)(K:G4 N w)(hN:N<20000){m:GL}(hm:m.length<=40):∃S' a',hV G [.ob a.n,FI m] S=.ok .D_ S'/\HD G a S a' S' (w.act (.hand m)):=by
 obtain⟨S',e,k⟩:=AY A.sr K.sb hN hm;refine⟨S',_,?_,A.snd k⟩;show fin S (je G [some (.ob a.n),some (FI m)] S)=_;unfold je;rw[bf (aZ (bX rfl A.ob rfl) A.sr.ob (ag rfl aj) e)];rfl
theorem zC(A:G5 G S a w)(K:G4 N w)(hN:N<=20000):∃S' a',gm G [.ob a.n] S=.ok .D_ S'/\HD G a S a' S' (w.act .start):=by
 obtain⟨S',p',q',e,k⟩:=Ae A.sr K.sb hN;refine⟨S',_,?_,A.snd k⟩;show fin S (ii G [some (.ob a.n)] S)=_;unfold ii;rw[bf (aZ (bX rfl A.ob rfl) A.sr.ob aj e)];rfl
theorem Be(A:G5 G S a w)(r:Bool):∃S' a',gZ G [.ob a.n,.str (if r then "sender" else "hearer")] S=.ok .D_ S'/\HD G a S a' S' (w.act (.Ge r)):=by
 cases r with
 |true=>
  obtain⟨S',e,k⟩:=A9 A.sr;refine⟨S',_,?_,A.snd k⟩;show fin S (eA G [some (.ob a.n),some (.str "sender")] S)=_;unfold eA;rw[aw (by rw[aV (az (ar rfl rfl bg))];exact bf (aZ (bX rfl A.ob rfl) A.sr.ob aj e)),ay (az (ar rfl rfl bg))];rfl
 |false=>
  obtain⟨S',e',b',e,k⟩:=Bw A.hr;refine⟨S',_,?_,A.Xe k⟩;show fin S (eA G [some (.ob a.n),some (.str "hearer")] S)=_;unfold eA;rw[aw (by rw[ay (az (ar rfl rfl bg))];rfl),aV (az (ar rfl rfl bg)),bf (aZ (bX rfl A.ob rfl) A.hr.ob aj e)];rfl
theorem BT(A:G5 G S a w)(K:G4 N w)(hN:N<=20000):∃S' a',gY G [.ob a.n] S=.ok .D_ S'/\HD G a S a' S' (w.act .tick):=by
 have hp:=K.sb.pl;obtain⟨S1,l,e,k,hl,GD⟩:=Bn A.sr K.w0 (by omega) (fun _=>K.bl);have k1:=A.snd k;obtain⟨t1,t2⟩:=xo K hN;have tl:=K.tl;have Nx:l≠a.nT:=fun z=>by have:=br A.tt;omega
 obtain⟨S2,e2,k2⟩:=wK k1.at_ true hl Nx (fun c hc=>(t1 c hc).1) (by show w.T.length+_<=_;omega);refine⟨S2,_,?_,k1.trans k2⟩;show fin S (ji G [some (.ob a.n)] S)=_;unfold ji;rw[bf (aZ rfl A.ob (ag rfl (ag (aZ (bX rfl A.ob rfl) A.sr.ob aj e) aj)) e2)];rfl
theorem yv(A:G5 G S a w)(K:G4 N w)(hN:N<20000)(r:Bool){e:En}(he:Nc N e):∃S' a',fC G [.ob a.n,.str (bj r),.tup (e.xs.map D.int)] S=.ok .D_ S'/\HD G a S a' S' (w.GK r e):=by
 show ∃S' a',fin S (gM G [some (.ob a.n),some (.str (bj r)),some (.tup (e.xs.map D.int)),none] S)=_/\_;unfold gM;obtain⟨c,x⟩:=e;cases x with
 |some xs=>
  have PA:=Ca (G:=G) (xs:=xs) (Nat.le_trans he.2.2.1 (by decide)) (he.2.2.2 xs rfl) S;have t1:v6 [G.Gq] (cr (am (iH G) (ac (aa 2) ai)) (gN 3)) (cr (dC .D_) (gN 3)) [some (.ob a.n),some (.str (bj r)),some (.tup (xs.map D.int)),none] S=some (.nx [some (.ob a.n),some (.str (bj r)),some (.tup (xs.map D.int)),some .D_],S):=by
   have e3:cr (am (iH G) (ac (aa 2) ai)) (gN 3) [some (.ob a.n),some (.str (bj r)),some (.tup (xs.map D.int)),none] S=some (.xc G.Gq [some (.ob a.n),some (.str (bj r)),some (.tup (xs.map D.int)),none],S):=by
    unfold cr;rw[sU,ax (ag rfl aj) PA]
   unfold v6;rw[e3];simp[WY]
  have t2:∀(k:Str),cX (al (f_ mW (aa 3) (dC .D_))) (al (f_ Fo (aa 1) (dC (.str k)))) [some (.ob a.n),some (.str (bj r)),some (.tup (xs.map D.int)),some .D_] S=.ok false S:=fun k=>rfl
  refine⟨S,a,?_,HD.refl A⟩;show fin S (aL _ _ [some (.ob a.n),some (.str (bj r)),some (.tup (xs.map D.int)),none] S)=_;rw[aw t1,aw (by rw[ay (t2 _)];rfl),ay (t2 _)];rfl
 |none=>
  have Fn:Jp c:=he.1;have PA:=xO (G:=G) Fn S;have t1:v6 [G.Gq] (cr (am (iH G) (ac (aa 2) ai)) (gN 3)) (cr (dC .D_) (gN 3)) [some (.ob a.n),some (.str (bj r)),some (.tup ((GO (aA c)).map D.int)),none] S=some (.nx [some (.ob a.n),some (.str (bj r)),some (.tup ((GO (aA c)).map D.int)),some (k_ c)],S):=by
   unfold v6;rw[bF (ax (ag rfl aj) PA)];rfl
  have nn:∀T,al (f_ mW (aa 3) (dC .D_)) [some (.ob a.n),some (.str (bj r)),some (.tup ((GO (aA c)).map D.int)),some (k_ c)] T=.ok true T:=fun T=>by cases c<;>rfl
  show ∃S' a',fin S (aL _ _ [some (.ob a.n),some (.str (bj r)),some (.tup ((GO (aA c)).map D.int)),none] S)=_/\_;rw[aw t1];cases r with
  |true=>
   have y1:∀T,cX (al (f_ mW (aa 3) (dC .D_))) (al (f_ Fo (aa 1) (dC (.str "there")))) [some (.ob a.n),some (.str (bj true)),some (.tup ((GO (aA c)).map D.int)),some (k_ c)] T=.ok true T:=fun T=>by
    rw[cL,av,nn];exact az (ar rfl rfl (show Fo (.str "there") (.str "there") T=.ok (.bl true) T from bg))
   have y2:∀T,cX (al (f_ mW (aa 3) (dC .D_))) (al (f_ Fo (aa 1) (dC (.str "back")))) [some (.ob a.n),some (.str (bj true)),some (.tup ((GO (aA c)).map D.int)),some (k_ c)] T=.ok false T:=fun T=>by
    rw[cL,av,nn];exact az (ar rfl rfl (show Fo (.str "there") (.str "back") T=.ok (.bl false) T from bg))
   obtain⟨S1,e',b',l,q1,k1,o1⟩:=AA A.hr (by rw[K.hw];exact K.w0) (by rw[K.hw];have:=K.w7;omega) K.bd hN Fn.QD;have k2:=A.Xe k1;obtain⟨h1,h2,h3⟩:=uk K (by omega) Fn he.2.1;have ql:=K.ql;have Nx:l≠a.nB:=fun z=>by have:=br A.bb;have:=o1.new;omega
   obtain⟨S2,q2,k3⟩:=wK k2.at_ false o1.at_ Nx (fun d hd=>(h1 d hd).1) (by show w.B.length+_<=_;omega);refine⟨S2,_,?_,k2.trans k3⟩;rw[aw (by rw[aV (y1 _)];exact bf (aZ rfl A.ob (ag rfl (ag (aZ (bX rfl A.ob rfl) A.hr.ob (ag rfl aj) q1) aj)) q2)),ay (y2 _)];rfl
  |false=>
   have y1:∀T,cX (al (f_ mW (aa 3) (dC .D_))) (al (f_ Fo (aa 1) (dC (.str "there")))) [some (.ob a.n),some (.str (bj false)),some (.tup ((GO (aA c)).map D.int)),some (k_ c)] T=.ok false T:=fun T=>by
    rw[cL,av,nn];exact az (ar rfl rfl (show Fo (.str "back") (.str "there") T=.ok (.bl false) T from bg))
   have y2:∀T,cX (al (f_ mW (aa 3) (dC .D_))) (al (f_ Fo (aa 1) (dC (.str "back")))) [some (.ob a.n),some (.str (bj false)),some (.tup ((GO (aA c)).map D.int)),some (k_ c)] T=.ok true T:=fun T=>by
    rw[cL,av,nn];exact az (ar rfl rfl (show Fo (.str "back") (.str "back") T=.ok (.bl true) T from bg))
   obtain⟨S1,p',q',l,e1,k1,hl,GD⟩:=Aw A.sr K.sb (by omega) K.w0 Fn.Ml;have k2:=A.snd k1;have Nx:l≠a.nT:=fun z=>by have:=br A.tt;omega
   obtain⟨S2,q2,k3⟩:=wK (cs:=[]) k2.at_ true hl Nx (fun d hd=>by simp at hd) (by have:=K.tl;show w.T.length+_<=_;simp;omega);refine⟨S2,{ a with pS:=p',qS:=q' },?_,?_⟩
   ·rw[aw (by rw[ay (y1 _)];rfl),aV (y2 _),bf (aZ rfl A.ob (ag rfl (ag (aZ (bX rfl A.ob rfl) A.sr.ob (ag rfl aj) e1) aj)) q2)];rfl
   ·have k4:=k2.trans k3;have:({ w with s:=w.s.l_ c }:WW).FX true (({ w with s:=w.s.l_ c }:WW).road true++([]:List v_).map gd)=w.GK false ⟨c,none⟩:=by
     show({ s:=w.s.l_ c,h:=w.h,T:=w.T++[],B:=w.B }:WW)=_;rw[List.append_nil];rfl
    rw[this] at k4;exact k4
end
end Lw
namespace Lw
open PySem L2 DL
section
variable{G:Cs}{S S' S1 S2:List Cell}{a a' a1 a2:Ad}{w w' w1 w2:WW}{N:Nat}
theorem Cr{n:Nat}{xs:List D}{k:Nat}{d:D}(hn:S[n]?=some (.lst xs))(hk:xs[k]?=some d):wS (.ob n) [.int (k:Int)] S=.ok d (S.set n (.lst (xs.eraseIdx k))):=by
 have HA:=(List.getElem?_eq_some_iff.mp hk).1;unfold wS;simp only[bS hn];rw[bW ⟨by omega,by omega⟩,Int.toNat_natCast];simp only[hk]
theorem BB(A:G5 G S a w)(K:G4 N w)(hN:N<20000)(r:Bool):∃S' a',gS G [.ob a.n,.str (bj r)] S=.ok .D_ S'/\HD G a S a' S' (w.act (.step r)):=by
 show ∃S' a',fin S (jg G [some (.ob a.n),some (.str (bj r))] S)=_/\HD G a S a' S' (w.step r);unfold jg;have t1:bR (bc G.World m_ (aT G) (aa 0) (ac (aa 1) (ac (dC (.int 0)) ai))) [some (.ob a.n),some (.str (bj r))] S=.ok (decide (0<(w.road r).length)) S:=by
  rw[cO,av,aZ rfl A.ob (ag rfl (ag rfl aj)) (ue A r 0)];rfl
 unfold WW.step;cases hr:w.road r with
 |nil=>
  rw[hr] at t1;refine⟨S,a,?_,HD.refl A⟩;rw[ay t1];rfl
 |cons e l=>
  rw[hr,decide_eq_true (by simp)] at t1;have FU:=A.cell r;rw[hr] at FU;have hk:=K.rd r e (by rw[hr];exact List.mem_cons_self);have hp:=Cr (k:=0) (d:=Jc e) FU rfl;have SA:((e :: l).map Jc).eraseIdx 0=l.map Jc:=rfl;rw[SA] at hp;have c1:Ch (a.rn r) (.lst (l.map Jc)) S (S.set (a.rn r) (.lst (l.map Jc))):=Ch.set FU;have k1:=A.RD r c1;have K1:G4 N (w.FX r l):=by
   have h1:=K.rd r;have h2:=K.rl r;rw[hr] at h1 h2;rw[List.length_cons] at h2;exact K.FX r (fun d hd=>h1 d (List.mem_cons_of_mem _ hd)) (by omega)
  obtain⟨S2,a2,e2,k2⟩:=yv k1.at_ K1 hN r hk;refine⟨S2,a2,?_,k1.trans k2⟩;have e1:f_ t_ (IY wS (f_ gq (aB G.World m_ 2 (aa 0)) (aa 1)) (ac (dC (.int 0)) ai)) (dC (.int 0)) [some (.ob a.n),some (.str (bj r))] S=.ok (.tup (e.xs.map D.int)) (S.set (a.rn r) (.lst (l.map Jc))):=
   ar (lH (oj A r _) FU (ag rfl aj) hp) rfl (aN (i:=0) rfl)
  rw[aV t1,bf (aZ rfl A.ob (ag rfl (ag e1 aj)) e2)];rfl
theorem Cb(A:G5 G S a w)(r:Bool)(k:Nat):∃S' a',ia G [.ob a.n,.str (bj r),.int (k:Int)] S=.ok .D_ S'/\HD G a S a' S' (w.act (.Mo r k)):=by
 show ∃S' a',fin S (ju G [some (.ob a.n),some (.str (bj r)),some (.int (k:Int))] S)=_/\HD G a S a' S' (w.FX r ((w.road r).eraseIdx k));unfold ju;have t1:bR (bc G.World m_ (aT G) (aa 0) (ac (aa 1) (ac (aa 2) ai))) [some (.ob a.n),some (.str (bj r)),some (.int (k:Int))] S=.ok (decide (k<(w.road r).length)) S:=by
  rw[cO,av,aZ rfl A.ob (ag rfl (ag rfl aj)) (ue A r k)];rfl
 by_cases hk:k<(w.road r).length
 ·rw[decide_eq_true hk] at t1;have FU:=A.cell r;obtain⟨e,he⟩:∃e,(w.road r)[k]?=some e:=⟨_,List.getElem?_eq_getElem hk⟩;have hp:=Cr (k:=k) (d:=Jc e) FU (by rw[List.getElem?_map,he];rfl);rw[lj] at hp;have k1:=A.RD (l:=(w.road r).eraseIdx k) r (Ch.set FU);refine⟨_,a,?_,k1⟩;rw[aV t1,bf (lH (oj A r _) FU (ag rfl aj) hp)];rfl
 ·rw[decide_eq_false hk] at t1;refine⟨S,a,?_,?_⟩
  ·rw[ay t1];rfl
  ·rw[List.eraseIdx_of_length_le (by omega)];have:w.FX r (w.road r)=w:=by cases r<;>rfl
   rw[this];exact HD.refl A
theorem mt{α:Type}:∀(l:List α) (k:Nat) (x:α),k<=l.length->l.insertIdx k x=l.take k++x :: l.drop k
 |l,0,x,_=>by simp
 |[],k+1,x,h=>by simp at h
 |y :: l,k+1,x,h=>by
  rw[List.insertIdx_succ_cons,mt l k x (by simpa using h)];rfl
theorem Dm(A:G5 G S a w)(K:G4 N w)(hN:N<=20000)(r:Bool)(k:Nat):∃S' a',eS G [.ob a.n,.str (bj r),.int (k:Int)] S=.ok .D_ S'/\HD G a S a' S' (w.act (.dbl r k)):=by
 show ∃S' a',fin S (gD G [some (.ob a.n),some (.str (bj r)),some (.int (k:Int))] S)=_/\HD G a S a' S' (w.FX r (nZ (w.road r) k));unfold gD;have t1:bR (bc G.World m_ (aT G) (aa 0) (ac (aa 1) (ac (aa 2) ai))) [some (.ob a.n),some (.str (bj r)),some (.int (k:Int))] S=.ok (decide (k<(w.road r).length)) S:=by
  rw[cO,av,aZ rfl A.ob (ag rfl (ag rfl aj)) (ue A r k)];rfl
 have hl:=K.rl r;unfold nZ;by_cases hk:k<(w.road r).length
 ·rw[decide_eq_true hk] at t1;have FU:=A.cell r;obtain⟨e,he⟩:∃e,(w.road r)[k]?=some e:=⟨_,List.getElem?_eq_getElem hk⟩;rw[he];have RE:f_ t_ (f_ gq (aB G.World m_ 2 (aa 0)) (aa 1)) (aa 2) [some (.ob a.n),some (.str (bj r)),some (.int (k:Int))] S=.ok (Jc e) S:=ar (oj A r _) rfl (ke FU (by rw[List.getElem?_map,he];rfl));have Ik:vg (.ob (a.rn r)) [.int (k:Int),Jc e] S=.ok .D_ (S.set (a.rn r) (.lst (((w.road r).insertIdx k e).map Jc))):=by
   unfold vg;simp only[bS FU];rw[bW ⟨⟨by omega,by rw[List.length_map];omega⟩,by rw[List.length_map];exact Nr (show(w.road r).length<=1000000 by omega)⟩,Int.toNat_natCast,mt _ _ _ (by omega),List.map_append,List.map_cons,List.map_take,List.map_drop]
  have k1:=A.RD (l:=(w.road r).insertIdx k e) r (Ch.set FU);refine⟨_,a,?_,k1⟩;rw[aV t1,bf (lH (oj A r _) FU (ag rfl (ag RE aj)) Ik)];rfl
 ·rw[decide_eq_false hk] at t1;rw[List.getElem?_eq_none (by omega)];refine⟨S,a,?_,?_⟩
  ·rw[ay t1];rfl
  ·have:w.FX r (w.road r)=w:=by cases r<;>rfl
   show HD G a S a S (w.FX r (w.road r));rw[this];exact HD.refl A
theorem vZ{xs:List Int}(hx:0<xs.length)(hl:xs.length<=1000)(place:Nat)(Hx:Int)(S:List Cell):jJ [.tup (xs.map D.int),.int (place:Int),.int Hx] S=.ok (.tup ((xs.set (place % xs.length) ((xs.getD (place % xs.length) 0+Hx) % 256)).map D.int)) S:=by
 show cI S (lX [some (.tup (xs.map D.int)),some (.int (place:Int)),some (.int Hx),none,none] S)=_;unfold lX;rw[aw (bF (d:=.ob S.length) (S1:=S++[.lst (xs.map D.int)]) (ax (ag rfl aj) rfl))];show cI S (aL _ _ [some (.tup (xs.map D.int)),some (.int (place:Int)),some (.int Hx),some (.ob S.length),none] (S++[.lst (xs.map D.int)]))=_;obtain⟨i,hi⟩:∃i,place % xs.length=i:=⟨_,rfl⟩;have HA:i<xs.length:=by rw[<-hi];exact Nat.mod_lt _ hx
 have e1:f_ kq (aa 1) (am bw (ac (aa 3) ai)) [some (.tup (xs.map D.int)),some (.int (place:Int)),some (.int Hx),some (.ob S.length),none] (S++[.lst (xs.map D.int)])=.ok (.int (i:Int)) (S++[.lst (xs.map D.int)]):=by
  refine ar rfl (ax (ag rfl aj) (kE bE)) ?_;rw[List.length_map,da (by omega),<-hi];congr 2
 rw[aw (bF e1),hi];show cI S (aL _ _ [some (.tup (xs.map D.int)),some (.int (place:Int)),some (.int Hx),some (.ob S.length),some (.int (i:Int))] (S++[.lst (xs.map D.int)]))=_;have hg:xs[i]?=some (xs.getD i 0):=by rw[List.getD_eq_getElem?_getD,List.getElem?_eq_getElem HA];rfl
 obtain⟨v,hv⟩:∃v,(xs.getD i 0+Hx) % 256=v:=⟨_,rfl⟩;have e2:f_ kq (f_ bL (f_ t_ (aa 3) (aa 4)) (aa 2)) (dC (.int 256)) [some (.tup (xs.map D.int)),some (.int (place:Int)),some (.int Hx),some (.ob S.length),some (.int (i:Int))] (S++[.lst (xs.map D.int)])=.ok (.int v) (S++[.lst (xs.map D.int)]):=by
  refine ar (ar (ar rfl rfl (ke bE (by rw[List.getElem?_map,hg];rfl))) rfl (cx _ _)) rfl ?_;rw[da (by decide),hv]
 have Jf:∀a c:Cell,(S++[a]).set S.length c=S++[c]:=fun a c=>by rw[List.set_append_right _ _ (Nat.le_refl _)];simp
 have e3:n8 (.ob S.length) (.int (i:Int)) (.int v) (S++[.lst (xs.map D.int)])=some (S++[.lst ((xs.set i v).map D.int)]):=by
  have RE:My (xs.map D.int).length (i:Int)=some i:=by
   unfold My;rw[List.length_map];simp;omega
  simp only[n8,bS bE,RE,Jf];rw[List.map_set]
 rw[hv,aw (tp e2 rfl rfl e3),aR (ax (ag rfl aj) (fP bE))];exact kU (by unfold GQ;exact de _ _)
theorem zj(A:G5 G S a w)(K:G4 N w)(hN:N<=20000)(r:Bool)(k place:Nat)(Hx:Int):∃S' a',gn G [.ob a.n,.str (bj r),.int (k:Int),.int (place:Int),.int Hx] S=.ok .D_ S'/\HD G a S a' S' (w.act (.Jb r k place Hx)):=by
 show ∃S' a',fin S (ic G [some (.ob a.n),some (.str (bj r)),some (.int (k:Int)),some (.int (place:Int)),some (.int Hx)] S)=_/\HD G a S a' S' (w.FX r (gG (w.road r) k place Hx));unfold ic;obtain⟨rr,QE⟩:∃rr:s_,[some (.ob a.n),some (.str (bj r)),some (.int (k:Int)),some (.int (place:Int)),some (.int Hx)]=rr:=⟨_,rfl⟩;have t1:bR (bc G.World m_ (aT G) (aa 0) (ac (aa 1) (ac (aa 2) ai))) rr S=.ok (decide (k<(w.road r).length)) S:=by
  rw[<-QE,cO,av,aZ rfl A.ob (ag rfl (ag rfl aj)) (ue A r k)];rfl
 have same:w.FX r (w.road r)=w:=by cases r<;>rfl
 have FU:=A.cell r;have rd:f_ gq (aB G.World m_ 2 (aa 0)) (aa 1) rr S=.ok (.ob (a.rn r)) S:=by rw[<-QE];exact oj A r _
 have v2:aa 2 rr S=.ok (.int (k:Int)) S:=by rw[<-QE];rfl
 have v3:aa 3 rr S=.ok (.int (place:Int)) S:=by rw[<-QE];rfl
 have v4:aa 4 rr S=.ok (.int Hx) S:=by rw[<-QE];rfl
 rw[QE];unfold gG;by_cases hk:k<(w.road r).length
 ·rw[decide_eq_true hk] at t1;obtain⟨e,he⟩:∃e,(w.road r)[k]?=some e:=⟨_,List.getElem?_eq_getElem hk⟩;rw[he];have Fn:=K.rd r e (List.mem_of_getElem? he);have ent:f_ t_ (f_ gq (aB G.World m_ 2 (aa 0)) (aa 1)) (aa 2) rr S=.ok (Jc e) S:=ar rd v2 (ke FU (by rw[List.getElem?_map,he];rfl));have t2:bR (f_ t_ (f_ t_ (f_ gq (aB G.World m_ 2 (aa 0)) (aa 1)) (aa 2)) (dC (.int 1))) rr S=.ok e.x.isSome S:=by
   rw[cO,av,ar ent rfl (aN (i:=1) rfl)];rfl
  have t3:al (f_ Hg (f_ kq (aa 4) (dC (.int 256))) (dC (.int 0))) rr S=.ok (!decide (Hx % 256=0)) S:=az (ar (ar v4 rfl (da (by decide))) rfl (gp _ _));have t4:cX (bR (bc G.World m_ (aT G) (aa 0) (ac (aa 1) (ac (aa 2) ai)))) (cX (cW (bR (f_ t_ (f_ t_ (f_ gq (aB G.World m_ 2 (aa 0)) (aa 1)) (aa 2)) (dC (.int 1))))) (al (f_ Hg (f_ kq (aa 4) (dC (.int 256))) (dC (.int 0))))) rr S=.ok (!e.x.isSome && !decide (Hx % 256=0)) S:=by
   rw[cL,av,t1];show cX _ _ rr S=_;rw[cL,av,cP,av,t2];cases e.x.isSome with
   |true=>rfl
   |false=>exact t3
  obtain⟨c,x⟩:=e;cases x with
  |some xs=>
   refine⟨S,a,?_,?_⟩
   ·rw[ay t4];rfl
   ·have:(w.road r).set k (eJ ⟨c,some xs⟩ place Hx)=w.road r:=by
     show(w.road r).set k ⟨c,some xs⟩=_;obtain⟨h1,h2⟩:=List.getElem?_eq_some_iff.mp he;rw[<-h2,List.set_getElem_self]
    dsimp only;rw[this,same];exact HD.refl A
  |none=>
   by_cases hb:Hx % 256=0
   ·rw[decide_eq_true hb] at t4;refine⟨S,a,?_,?_⟩
    ·rw[ay t4];rfl
    ·have:(w.road r).set k (eJ ⟨c,none⟩ place Hx)=w.road r:=by
      unfold eJ;dsimp only;rw[if_pos hb];obtain⟨h1,h2⟩:=List.getElem?_eq_some_iff.mp he;rw[<-h2,List.set_getElem_self]
     dsimp only;rw[this,same];exact HD.refl A
   ·rw[decide_eq_false hb] at t4;have Na:=fK Fn.1;have W8:0<((⟨c,none⟩:En).xs).length:=by show 0<(GO (aA c)).length;rw[mv];omega
    have N2:eJ ⟨c,none⟩ place Hx=⟨c,some (((⟨c,none⟩:En).xs).set (place % ((⟨c,none⟩:En).xs).length) ((((⟨c,none⟩:En).xs).getD (place % ((⟨c,none⟩:En).xs).length) 0+Hx) % 256))⟩:=by
     unfold eJ;dsimp only;rw[if_neg hb]
    have M6:=vZ W8 (Nat.le_trans Fn.2.2.1 (by decide)) place Hx S;have e5:cn (ac (am jJ (ac (f_ t_ (f_ t_ (f_ gq (aB G.World m_ 2 (aa 0)) (aa 1)) (aa 2)) (dC (.int 0))) (ac (aa 3) (ac (aa 4) ai)))) (ac (dC (.bl true)) ai)) rr S=.ok (Jc (eJ ⟨c,none⟩ place Hx)) S:=by
     rw[N2];exact bM (ag (ax (ag (ar ent rfl (aN (i:=0) rfl)) (ag v3 (ag v4 aj))) M6) (ag rfl aj)) (by simp)
    have e6:n8 (.ob (a.rn r)) (.int (k:Int)) (Jc (eJ ⟨c,none⟩ place Hx)) S=some (S.set (a.rn r) (.lst (((w.road r).set k (eJ ⟨c,none⟩ place Hx)).map Jc))):=by
     have RE:My ((w.road r).map Jc).length (k:Int)=some k:=by
      unfold My;rw[List.length_map];simp;omega
     simp only[n8,bS FU,RE];rw[List.map_set]
    have k1:=A.RD (l:=(w.road r).set k (eJ ⟨c,none⟩ place Hx)) r (Ch.set FU);refine⟨_,a,?_,k1⟩;rw[aV t4,tp e5 rd v2 e6];rfl
 ·rw[decide_eq_false hk] at t1;rw[List.getElem?_eq_none (by omega)];refine⟨S,a,?_,?_⟩
  ·rw[ay (by rw[cL,av,t1];rfl)];rfl
  ·dsimp only;rw[same];exact HD.refl A
end
end Lw
namespace Lw
open PySem L2 DL
def cv(ns:List Int)(k:Nat):Int:=ns.getD k 0
theorem tJ{ns:List Int}{k:Nat}(S:List Cell):bK [.Gp (ns.map D.int),.int k] S=.ok (.int (cv ns k)) S:=by
 unfold cv;by_cases h:k<ns.length
 ·have e1:Lp (ns.map D.int) (k:Int)=some (.int (ns.getD k 0)):=tN (by simp[List.getD,h]);simp[bK,jO,bw,fM,t_,e1,h]
 ·have e1:ns.getD k 0=0:=by simp[List.getD,h]
  simp[bK,jO,bw,fM,t_,e1,h]
theorem D7{ns:List Int}(S:List Cell):bK [.Gp (ns.map D.int),.int 0] S=.ok (.int (cv ns 0)) S:=tJ (k:=0) S
theorem D5{ns:List Int}(S:List Cell):bK [.Gp (ns.map D.int),.int 1] S=.ok (.int (cv ns 1)) S:=tJ (k:=1) S
theorem DP{ns:List Int}(S:List Cell):bK [.Gp (ns.map D.int),.int 2] S=.ok (.int (cv ns 2)) S:=tJ (k:=2) S
end Lw
namespace Lw
open PySem L2 DL
theorem CZ{a p m:Int}(hp:0<p)(hm:0<m)(S:List Cell):aH [.int a,.int p,.int m] S=.ok (.int (a * 48271 % p % m)) S:=by
 have h1:L6 a 48271:=.inr ⟨by decide,by decide⟩;simp[aH,oI,fT h1,da hp,da hm]
def mx(a:Int)(p m:Nat):Nat:=(a * 48271 % p % m).toNat
theorem lG(a:Int){p m:Nat}(hm:0<m):mx a p m<m:=by
 unfold mx;have h1:=Int.emod_nonneg (a * 48271 % p) (show(m:Int)≠0 by omega);have h2:=Int.emod_lt_of_pos (a * 48271 % p) (show(0:Int)<m by omega);omega
theorem wV(a:Int){p m:Nat}(hp:0<p)(hm:0<m)(S:List Cell):aH [.int a,.int (p:Int),.int (m:Int)] S=.ok (.int (mx a p m:Nat)) S:=by
 rw[CZ (by omega) (by omega)];unfold mx;have h1:=Int.emod_nonneg (a * 48271 % p) (show(m:Int)≠0 by omega);rw[Int.toNat_of_nonneg h1]
theorem i9{f:s_->M D}{r:s_}{S:List Cell}{a:Int}(p m:Nat)(hf:f r S=.ok (.int a) S)(hp:0<p:=by decide)(hm:0<m:=by decide):am aH (ac f (ac (dC (.int (p:Int))) (ac (dC (.int (m:Int))) ai))) r S=.ok (.int (mx a p m:Nat)) S:=
 ax (ag hf (ag rfl (ag rfl aj))) (wV a hp hm S)
end Lw
namespace Lw
open PySem L2 DL
def Kq(ns:List Int):Nat:=1+mx (cv ns 0) 9883 7
def Le(ns:List Int):Nat:=1+mx (cv ns 1) 9871 8
theorem tD(ns:List Int):0<Kq ns:=by unfold Kq;omega
theorem zR(ns:List Int):Kq ns<=7:=by
 have:=lG (cv ns 0) (p:=9883) (m:=7) (by decide);unfold Kq;omega
theorem wX(ns:List Int):1<=Le ns:=by unfold Le;omega
theorem CC(ns:List Int):Le ns<=8:=by
 have:=lG (cv ns 1) (p:=9871) (m:=8) (by decide);unfold Le;omega
theorem wp(ns:List Int)(S:List Cell):ff [.Gp (ns.map D.int)] S=.ok (.tup [.int (Kq ns:Int),.int (Le ns:Int)]) S:=by
 show fin S (gQ [some (.Gp (ns.map D.int)),none,none] S)=_;unfold gQ;have w1:f_ bL (dC (.int 1)) (am aH (ac (am bK (ac (aa 0) (ac (dC (.int 0)) ai))) (ac (dC (.int 9883)) (ac (dC (.int 7)) ai)))) [some (.Gp (ns.map D.int)),none,none] S=.ok (.int (Kq ns:Int)) S:=by
  refine ar rfl (i9 9883 7 (ax (ag rfl (ag rfl aj)) (D7 S))) ?_;rw[cx];unfold Kq;congr 2
 rw[aw (bF w1)];show fin S (aL _ _ [some (.Gp (ns.map D.int)),some (.int (Kq ns:Int)),none] S)=_;have w2:f_ bL (dC (.int 1)) (am aH (ac (am bK (ac (aa 0) (ac (dC (.int 1)) ai))) (ac (dC (.int 9871)) (ac (dC (.int 8)) ai)))) [some (.Gp (ns.map D.int)),some (.int (Kq ns:Int)),none] S=.ok (.int (Le ns:Int)) S:=by
  refine ar rfl (i9 9871 8 (ax (ag rfl (ag rfl aj)) (D5 S))) ?_;rw[cx];unfold Le;congr 2
 rw[aw (bF w2),aR (bM (ag rfl (ag rfl aj)) (by simp))];rfl
theorem BX{fe:s_->M D}{r:s_}{S S1:List Cell}{x y:D}{i j:Nat}(h:fe r S=.ok (.tup [x,y]) S1):cr fe (gT [i,j]) r S=some (.nx ((r.set i (some x)).set j (some y)),S1):=by
 unfold cr;rw[sU,h];rfl
def kF(c:Int)(L:Nat):GL:=(List.range (mx c 9973 (L+1))).map fun(k:Nat)=>((mx (c+31 * k) 9967 256:Nat):Int)
theorem nc(c:Int)(L:Nat):(kF c L).length<=L:=by
 have:=lG c (p:=9973) (m:=L+1) (by omega);unfold kF;rw[List.length_map,List.length_range];omega
theorem vT(c:Int)(L:Nat)(hL:L<=1000)(S:List Cell):fm [.int c,.int (L:Int)] S=.ok (FI (kF c L)) S:=by
 show cI S (gA [some (.int c),some (.int (L:Int)),none] S)=_;unfold gA;have m1:am aH (ac (aa 0) (ac (dC (.int 9973)) (ac (f_ bL (aa 1) (dC (.int 1))) ai))) [some (.int c),some (.int (L:Int)),none] S=.ok (.int (mx c 9973 (L+1):Nat)) S:=
  ax (ag rfl (ag rfl (ag (x:=.int ((L+1:Nat):Int)) (ar rfl rfl (by rw[cx];congr 2)) aj))) (wV c (p:=9973) (m:=L+1) (by decide) (by omega) S)
 rw[aw (bF m1)];have HA:=lG c (p:=9973) (m:=L+1) (by omega);obtain⟨z,hz⟩:∃z,mx c 9973 (L+1)=z:=⟨_,rfl⟩;have hm:kF c L=(List.range z).map fun(k:Nat)=>((mx (c+31 * k) 9967 256:Nat):Int):=by unfold kF;rw[hz]
 rw[hz] at HA ⊢;show cI S (bG _ [some (.int c),some (.int (L:Int)),some (.int (z:Int))] S)=_;have q1:=iQ (f:=rM (aa 2)) (tg:=gN 0) (ti:=gy) (fe:=am aH (ac (f_ bL (aa 1) (f_ eI (dC (.int 31)) (aa 0))) (ac (dC (.int 9967)) (ac (dC (.int 256)) ai)))) (own:=1) (caps:=[0])
  (r:=[some (.int c),some (.int (L:Int)),some (.int (z:Int))]) (S:=S) (S1:=S) (w:=⟨gW 0 1 z,none⟩) (fun _=>true) (fun x=>match x with
   |.int k=>.int (mx (c+31 * k) 9967 256:Nat)
   |_=>.D_) (xa (by omega)) trivial (by simp[gW];omega) (by
   intro x hx;simp only[gW,List.mem_map,List.mem_range] at hx;obtain⟨k,_,rfl⟩:=hx;refine⟨_,rfl,fun _=>rfl,fun _ zs=>?_⟩;show am _ _ [some (.int (0+(k:Int) * 1)),some (.int c)] _=_;refine i9 9967 256 (ar rfl (ar rfl rfl (fT (.inl ⟨by decide,by decide⟩))) (cx _ _)))
 have NG:((gW 0 1 z).filter fun _=>true).map (fun x=>match x with
   |.int k=>.int (mx (c+31 * k) 9967 256:Nat)
   |_=>.D_)=(kF c L).map D.int:=by
  rw[List.filter_eq_self.mpr (by simp),hm];unfold gW;rw[List.map_map,List.map_map];refine List.map_congr_left fun k _=>?_
  have hk:0+(k:Int) * 1=(k:Int):=by omega
  simp only[Function.comp_def,hk]
 rw[NG] at q1;rw[aR (ax (ag q1 aj) (fP (aS rfl)))];exact kU (CP _ _)
end Lw
namespace Lw
open PySem L2 DL
section
variable{G:Cs}{S S' S1 S2:List Cell}{a a' a1 a2:Ad}{w w' w1 w2:WW}{N:Nat}
theorem Bh(x y:Nat)(S:List Cell):∃S' a,iI G.World (cH G) [.int (x:Int),.int (y:Int)] S=.ok (.ob S.length) S'/\G5 G S' a (WW.new x y)/\Fr [] S S'/\a.n=S.length/\∀i,i∈a.fp->S.length<=i:=by
 obtain⟨n,hn⟩:∃n,n=S.length:=⟨_,rfl⟩;have s0:(S++[Cell.ins G.World [] []])[n]?=some (.ins G.World [] []):=aS hn;obtain⟨r,hr⟩:∃r:s_,r=[some (.ob n),some (.int (x:Int)),some (.int (y:Int))]:=⟨_,rfl⟩;have v0:∀S,aa 0 r S=.ok (.ob n) S:=fun S=>by rw[hr];rfl
 have v1:∀S,aa 1 r S=.ok (.int (x:Int)) S:=fun S=>by rw[hr];rfl
 have v2:∀S,aa 2 r S=.ok (.int (y:Int)) S:=fun S=>by rw[hr];rfl
 obtain⟨T0,SD⟩:∃T0,S++[Cell.ins G.World [] []]=T0:=⟨_,rfl⟩;have l0:T0.length=S.length+1:=by rw[<-SD];simp
 rw[SD] at s0;obtain⟨U1,m,p,q,e1,k1,f1,g1,g2,g3⟩:=BF (G:=G) x y T0;have u1:=f1.get s0 (by simp);obtain⟨T1,b1,c1⟩:=eE (f:="sender") (fo:=aa 0) (fe:=am (iI G.c_ (bZ G)) (ac (aa 1) (ac (aa 2) ai))) (r:=r) (ax (ag (v1 _) (ag (v2 _) aj)) e1) (v0 _) u1;have RF:FH G T1 T0.length m p q (Sr.new x y):=k1.fr c1.fr fun i hi z=>by
  simp only[rE,List.mem_singleton] at hi z;omega
 have lf1:=f1.1;have lc1:=c1.len;obtain⟨U2,g,e,b,e2,k2,f2,g4,g5,g6⟩:=BR (G:=G) x T1;have u2:=f2.get c1.at_ (by simp);obtain⟨T2,b2,c2⟩:=eE (f:="hearer") (fo:=aa 0) (fe:=am (iI G.g_ (bQ G)) (ac (aa 1) ai)) (r:=r) (ax (ag (v1 _) aj) e2) (v0 _) u2;have lf2:=f2.1;have lc2:=c2.len;have hm:=br RF.ms;have hp:=br RF.ps;have hq:=br RF.nt;have hnS:=br RF.ob;have UE:FH G T2 T0.length m p q (Sr.new x y):=(RF.fr f2 (fun i hi z=>nomatch z)).fr c2.fr fun i hi z=>by
  simp only[rE,List.mem_singleton] at hi z;omega
 have N_:FZ G T2 T1.length g e b (Hr.new x):=k2.fr c2.fr (by simp;omega) (by simp;omega) (by simp;omega) (by simp;omega);have hg:=br N_.gv;have he:=br N_.ea;have hb:=br N_.be;have hnH:=br N_.ob;obtain⟨nR,QF⟩:∃nR,nR=T2.length:=⟨_,rfl⟩;obtain⟨T3,Me⟩:∃T3,T2++[Cell.GW [(.inr ("there":Str),.ob (nR+1)),(.inr ("back":Str),.ob (nR+2))]]++[.lst []]++[.lst []]=T3:=⟨_,rfl⟩;have dd:pj (iD (dC (.str "there")) (bV ai) (iD (dC (.str "back")) (bV ai) rG)) r T2=.ok (.ob nR) T3:=by
  unfold pj iD rG;simp only[av,tj,kD];rw[bY aj (by decide)];simp only[av];rw[bY aj (by decide)];simp only[];have hd:du (T2++[Cell.GW []]++[.lst []]++[.lst []]) T2.length=some []:=by
   unfold du;rw[aC (aC (aS rfl))]
  have hk:oH [(D.str "there",D.ob (T2++[Cell.GW []]).length),(D.str "back",D.ob (T2++[Cell.GW []]++[Cell.lst []]).length)]=some [(.inr ("there":Str),.ob (nR+1)),(.inr ("back":Str),.ob (nR+2))]:=by
   rw[QF];simp[oH,hZ]
  rw[hd,hk];dsimp only;have e:decide ((Sum.inr ("there":Str):Key)=Sum.inr ("back":Str))=false:=by decide +kernel
  have hmg:tM [] [((.inr ("there":Str):Key),D.ob (nR+1)),(.inr ("back":Str),D.ob (nR+2))]=[(.inr ("there":Str),.ob (nR+1)),(.inr ("back":Str),.ob (nR+2))]:=by
   simp only[tM,List.foldl_cons,List.foldl_nil,q7,List.any_nil,List.any_cons,e,Bool.false_eq_true,if_false,List.nil_append,Bool.or_false];rfl
  rw[bW (by simp),hmg,<-Me,QF];congr 1;rw[List.append_assoc,List.append_assoc,List.set_append_right _ _ (Nat.le_refl _)];simp
 have u3:T3[n]?=some (.ins G.World ["sender","hearer"] [.ob T0.length,.ob T1.length]):=by rw[<-Me];exact aC (aC (aC c2.at_))
 obtain⟨T4,b3,c3⟩:=eE (f:="roads") (fo:=aa 0) (fe:=pj (iD (dC (.str "there")) (bV ai) (iD (dC (.str "back")) (bV ai) rG))) (r:=r) dd (v0 _) u3;have l3:T3.length=nR+3:=by rw[<-Me,QF];simp
 have lc3:=c3.len;have f3:Fr [] T2 T3:=by rw[<-Me,List.append_assoc,List.append_assoc];exact Fr.push
 have Nx:n<T0.length:=by omega
 have r1:T3[nR]?=some (.GW [(.inr ("there":Str),.ob (nR+1)),(.inr ("back":Str),.ob (nR+2))]):=by rw[<-Me];exact aC (aC (aS QF))
 have r2:T3[nR+1]?=some (.lst []):=by rw[<-Me];exact aC (aS (by rw[QF];simp))
 have r3:T3[nR+2]?=some (.lst []):=by rw[<-Me];exact aS (by rw[QF];simp)
 have q1:n≠nR:=by omega
 have q2:n≠nR+1:=by omega
 have q3:n≠nR+2:=by omega
 refine⟨T4,⟨n,T0.length,m,p,q,T1.length,g,e,b,nR,nR+1,nR+2⟩,?_,⟨c3.at_,?_,?_,c3.old r1 q1,c3.old r2 q2,c3.old r3 q3,?_,?_,?_,by simp⟩,?_,hn,?_⟩
 ·unfold iI;have:cH G [.ob S.length,.int (x:Int),.int (y:Int)] (S++[.ins G.World [] []])=.ok .D_ T4:=by
   rw[SD,<-hn];show fin T0 (dG G [some (.ob n),some (.int (x:Int)),some (.int (y:Int))] T0)=_;rw[<-hr];unfold dG;have ZD:cJ G.World ["sender"] "hearer" (aa 0) (am (iI G.g_ (bQ G)) (ac (aa 1) ai)) r T1=some (.nx r,T2):=b2;rw[aw b1,aw ZD];rw[show cJ G.World ["sender","hearer"] "roads" (aa 0) (pj (iD (dC (.str "there")) (bV ai) (iD (dC (.str "back")) (bV ai) rG))) r T2=some (.nx r,T4) from b3];rfl
  rw[this]
 ·exact(UE.fr f3 (fun i hi z=>nomatch z)).fr c3.fr fun i hi z=>by
   simp only[rE,List.mem_singleton] at hi z;omega
 ·exact(N_.fr f3 (by simp) (by simp) (by simp) (by simp)).fr c3.fr (by simp;omega) (by simp;omega) (by simp;omega) (by simp;omega)
 ·intro i hi j hj;simp only[Ad.sf,Ad.hf,rE] at hi hj;omega
 ·intro i hi j hj;simp only[Ad.sf,Ad.wf,rE] at hi hj;omega
 ·intro i hi j hj;simp only[Ad.hf,Ad.wf,rE] at hi hj;omega
 ·have fS:Fr [n] S T4:=(((((show Fr [n] S T0 by rw[<-SD];exact Fr.push).tr (f1.mono fun i hi _=>nomatch hi)).tr c1.fr).tr (f2.mono fun i hi _=>nomatch hi)).tr c2.fr).tr ((f3.mono fun i hi _=>nomatch hi).tr c3.fr);exact⟨fS.1,fun i hi _=>fS.2 i hi (by simp;omega)⟩
 ·intro i hi;simp only[Ad.fp,Ad.sf,Ad.hf,Ad.wf,List.mem_append,rE] at hi;omega
inductive LA where
 |Jo|hand (c:Int)|tick|step (r:Bool)|Gn (k:Nat) (r:Bool) (i:Nat) (c:Int)|Ge (r:Bool)
def Aq:Nat->Str
 |0=>"lose"
 |1=>"double"
 |_=>"spoil"
def LA.kn:LA->Str
 |.Jo=>"open"
 |.hand _=>"hand"
 |.tick=>"tick"
 |.step _=>"step"
 |.Gn k _ _ _=>Aq k
 |.Ge _=>"fall"
def LA.d:LA->D
 |.Jo=>.tup [.str "open"]
 |.hand c=>.tup [.str "hand",.int c]
 |.tick=>.tup [.str "tick"]
 |.step r=>.tup [.str "step",.str (bj r)]
 |.Gn k r i c=>.tup [.str (Aq k),.str (bj r),.int (i:Int),.int c]
 |.Ge r=>.tup [.str "fall",.str (if r then "sender" else "hearer")]
def LA.act:LA->Act
 |.Jo=>.start
 |.hand c=>.hand (kF c 12)
 |.tick=>.tick
 |.step r=>.step r
 |.Gn 0 r i _=>.Mo r i
 |.Gn 1 r i _=>.dbl r i
 |.Gn _ r i c=>.Jb r i (mx c 9829 16) (mx c 9817 256:Nat)
 |.Ge r=>.Ge r
theorem zA(c:Int)(L:Nat):OF (kF c L):=fun x hx=>by
 unfold kF at hx;obtain⟨k,_,rfl⟩:=List.mem_map.mp hx;have:=lG (c+31 * k) (p:=9967) (m:=256) (by decide);omega
theorem LA.ok(t:LA):t.act.ok:=by
 cases t with
 |hand c=>exact⟨Nat.le_trans (nc c 12) (by decide),zA c 12⟩
 |Gn k r i c=>
  match k with
  |0=>trivial
  |1=>trivial
  |_+2=>trivial
 |_=>trivial
theorem Ag(t:LA)(S:List Cell):t_ t.d (.int 0) S=.ok (.str t.kn) S:=by cases t<;>exact aN (i:=0) rfl
theorem zT(t:LA):(PyData.str t.kn).canLay0=true:=by
 cases t with
 |Gn k r i c=>
  match k with
  |0=>exact(by decide +kernel:(PyData.str "lose").canLay0=true)
  |1=>exact(by decide +kernel:(PyData.str "double").canLay0=true)
  |_+2=>exact(by decide +kernel:(PyData.str "spoil").canLay0=true)
 |Jo=>exact(by decide +kernel:(PyData.str "open").canLay0=true)
 |hand c=>exact(by decide +kernel:(PyData.str "hand").canLay0=true)
 |tick=>exact(by decide +kernel:(PyData.str "tick").canLay0=true)
 |step r=>exact(by decide +kernel:(PyData.str "step").canLay0=true)
 |Ge r=>exact(by decide +kernel:(PyData.str "fall").canLay0=true)
theorem pF(t:LA)(k:Str)(hk:(PyData.str k).canLay0=true:=by decide +kernel)(r0:Option D)(S:List Cell):al (f_ Fo (f_ t_ (aa 1) (dC (.int 0))) (dC (.str k))) [r0,some t.d] S=.ok (decide (t.kn=k)) S:=
 az (ar (ar rfl rfl (Ag t S)) rfl (bg (zT t) hk rfl))
theorem Ea(A:G5 G S a w)(K:G4 N w)(hN:N<20000)(t:LA):∃S' a',li G [.ob a.n,t.d] S=.ok .D_ S'/\HD G a S a' S' (w.act t.act):=by
 show ∃S' a',fin S (lY G [some (.ob a.n),some t.d] S)=_/\_;unfold lY;have i1:=pF t "hand" (r0:=some (.ob a.n)) (S:=S);have i2:=pF t "tick" (r0:=some (.ob a.n)) (S:=S);have i3:=pF t "step" (r0:=some (.ob a.n)) (S:=S);have i4:=pF t "lose" (r0:=some (.ob a.n)) (S:=S);have i5:=pF t "double" (r0:=some (.ob a.n)) (S:=S);have i6:=pF t "spoil" (r0:=some (.ob a.n)) (S:=S);have i7:=pF t "fall" (r0:=some (.ob a.n)) (S:=S);have PL:N<=20000:=by omega
 cases t with
 |hand c=>
  have hl:=nc c 12;obtain⟨S',a',e,k⟩:=BN A K hN (m:=kF c 12) (by omega);rw[show decide ((LA.hand c).kn=("hand":Str))=true from (by decide +kernel:decide (("hand":Str) = "hand")=true)] at i1;refine⟨S',a',?_,k⟩;rw[aV i1,bf (aZ rfl A.ob (ag (ax (ag (ar rfl rfl (aN (i:=1) rfl)) (ag rfl aj)) (vT c 12 (by decide) S)) aj) e)];rfl
 |tick=>
  obtain⟨S',a',e,k⟩:=BT A K PL;rw[show decide (LA.tick.kn=("hand":Str))=false by decide +kernel] at i1;rw[show decide (LA.tick.kn=("tick":Str))=true by decide +kernel] at i2;refine⟨S',a',?_,k⟩;rw[ay i1,aV i2,bf (aZ rfl A.ob aj e)];rfl
 |step r=>
  obtain⟨S',a',e,k⟩:=BB A K hN r;rw[show decide ((LA.step r).kn=("hand":Str))=false from (by decide +kernel:decide (("step":Str) = "hand")=false)] at i1;rw[show decide ((LA.step r).kn=("tick":Str))=false from (by decide +kernel:decide (("step":Str) = "tick")=false)] at i2;rw[show decide ((LA.step r).kn=("step":Str))=true from (by decide +kernel:decide (("step":Str) = "step")=true)] at i3;refine⟨S',a',?_,k⟩;rw[ay i1,ay i2,aV i3,bf (aZ rfl A.ob (ag (ar rfl rfl (aN (i:=1) rfl)) aj) e)];rfl
 |Gn k r i c=>
  match k with
  |0=>
   obtain⟨S',a',e,k⟩:=Cb A r i;rw[show decide ((LA.Gn 0 r i c).kn=("hand":Str))=false from (by decide +kernel:decide (("lose":Str) = "hand")=false)] at i1;rw[show decide ((LA.Gn 0 r i c).kn=("tick":Str))=false from (by decide +kernel:decide (("lose":Str) = "tick")=false)] at i2;rw[show decide ((LA.Gn 0 r i c).kn=("step":Str))=false from (by decide +kernel:decide (("lose":Str) = "step")=false)] at i3;rw[show decide ((LA.Gn 0 r i c).kn=("lose":Str))=true from (by decide +kernel:decide (("lose":Str) = "lose")=true)] at i4;refine⟨S',a',?_,k⟩;rw[ay i1,ay i2,ay i3,aV i4,bf (aZ rfl A.ob (ag (ar rfl rfl (aN (i:=1) rfl)) (ag (ar rfl rfl (aN (i:=2) rfl)) aj)) e)];rfl
  |1=>
   obtain⟨S',a',e,k⟩:=Dm A K PL r i;rw[show decide ((LA.Gn 1 r i c).kn=("hand":Str))=false from (by decide +kernel:decide (("double":Str) = "hand")=false)] at i1;rw[show decide ((LA.Gn 1 r i c).kn=("tick":Str))=false from (by decide +kernel:decide (("double":Str) = "tick")=false)] at i2;rw[show decide ((LA.Gn 1 r i c).kn=("step":Str))=false from (by decide +kernel:decide (("double":Str) = "step")=false)] at i3;rw[show decide ((LA.Gn 1 r i c).kn=("lose":Str))=false from (by decide +kernel:decide (("double":Str) = "lose")=false)] at i4;rw[show decide ((LA.Gn 1 r i c).kn=("double":Str))=true from (by decide +kernel:decide (("double":Str) = "double")=true)] at i5;refine⟨S',a',?_,k⟩;rw[ay i1,ay i2,ay i3,ay i4,aV i5,bf (aZ rfl A.ob (ag (ar rfl rfl (aN (i:=1) rfl)) (ag (ar rfl rfl (aN (i:=2) rfl)) aj)) e)];rfl
  |j+2=>
   obtain⟨S',a',e,k⟩:=zj A K PL r i (mx c 9829 16) (mx c 9817 256:Nat);rw[show decide ((LA.Gn (j+2) r i c).kn=("hand":Str))=false from (by decide +kernel:decide (("spoil":Str) = "hand")=false)] at i1;rw[show decide ((LA.Gn (j+2) r i c).kn=("tick":Str))=false from (by decide +kernel:decide (("spoil":Str) = "tick")=false)] at i2;rw[show decide ((LA.Gn (j+2) r i c).kn=("step":Str))=false from (by decide +kernel:decide (("spoil":Str) = "step")=false)] at i3;rw[show decide ((LA.Gn (j+2) r i c).kn=("lose":Str))=false from (by decide +kernel:decide (("spoil":Str) = "lose")=false)] at i4;rw[show decide ((LA.Gn (j+2) r i c).kn=("double":Str))=false from (by decide +kernel:decide (("spoil":Str) = "double")=false)] at i5;rw[show decide ((LA.Gn (j+2) r i c).kn=("spoil":Str))=true from (by decide +kernel:decide (("spoil":Str) = "spoil")=true)] at i6;refine⟨S',a',?_,k⟩;have x3:∀T,f_ t_ (aa 1) (dC (.int 3)) [some (.ob a.n),some (LA.Gn (j+2) r i c).d] T=.ok (.int c) T:=fun T=>ar rfl rfl (aN (i:=3) rfl)
   have x1:∀T,f_ t_ (aa 1) (dC (.int 1)) [some (.ob a.n),some (LA.Gn (j+2) r i c).d] T=.ok (.str (bj r)) T:=fun T=>ar rfl rfl (aN (i:=1) rfl)
   have x2:∀T,f_ t_ (aa 1) (dC (.int 2)) [some (.ob a.n),some (LA.Gn (j+2) r i c).d] T=.ok (.int (i:Int)) T:=fun T=>ar rfl rfl (aN (i:=2) rfl)
   have y1:am aH (ac (f_ t_ (aa 1) (dC (.int 3))) (ac (dC (.int 9829)) (ac (dC (.int 16)) ai))) [some (.ob a.n),some (LA.Gn (j+2) r i c).d] S=.ok (.int (mx c 9829 16:Nat)) S:=i9 9829 16 (x3 _);have y2:am aH (ac (f_ t_ (aa 1) (dC (.int 3))) (ac (dC (.int 9817)) (ac (dC (.int 256)) ai))) [some (.ob a.n),some (LA.Gn (j+2) r i c).d] S=.ok (.int (mx c 9817 256:Nat)) S:=i9 9817 256 (x3 _);rw[ay i1,ay i2,ay i3,ay i4,ay i5,aV i6,bf (aZ rfl A.ob (ag (x1 _) (ag (x2 _) (ag y1 (ag y2 aj)))) e)];rfl
 |Ge r=>
  obtain⟨S',a',e,k⟩:=Be A r;rw[show decide ((LA.Ge r).kn=("hand":Str))=false from (by decide +kernel:decide (("fall":Str) = "hand")=false)] at i1;rw[show decide ((LA.Ge r).kn=("tick":Str))=false from (by decide +kernel:decide (("fall":Str) = "tick")=false)] at i2;rw[show decide ((LA.Ge r).kn=("step":Str))=false from (by decide +kernel:decide (("fall":Str) = "step")=false)] at i3;rw[show decide ((LA.Ge r).kn=("lose":Str))=false from (by decide +kernel:decide (("fall":Str) = "lose")=false)] at i4;rw[show decide ((LA.Ge r).kn=("double":Str))=false from (by decide +kernel:decide (("fall":Str) = "double")=false)] at i5;rw[show decide ((LA.Ge r).kn=("spoil":Str))=false from (by decide +kernel:decide (("fall":Str) = "spoil")=false)] at i6;rw[show decide ((LA.Ge r).kn=("fall":Str))=true from (by decide +kernel:decide (("fall":Str) = "fall")=true)] at i7;refine⟨S',a',?_,k⟩;rw[ay i1,ay i2,ay i3,ay i4,ay i5,ay i6,aV i7,bf (aZ rfl A.ob (ag (ar rfl rfl (aN (i:=1) rfl)) aj) e)];rfl
 |Jo=>
  obtain⟨S',a',e,k⟩:=zC A K PL;rw[show decide (LA.Jo.kn=("hand":Str))=false by decide +kernel] at i1;rw[show decide (LA.Jo.kn=("tick":Str))=false by decide +kernel] at i2;rw[show decide (LA.Jo.kn=("step":Str))=false by decide +kernel] at i3;rw[show decide (LA.Jo.kn=("lose":Str))=false by decide +kernel] at i4;rw[show decide (LA.Jo.kn=("double":Str))=false by decide +kernel] at i5;rw[show decide (LA.Jo.kn=("spoil":Str))=false by decide +kernel] at i6;rw[show decide (LA.Jo.kn=("fall":Str))=false by decide +kernel] at i7;refine⟨S',a',?_,k⟩;rw[ay i1,ay i2,ay i3,ay i4,ay i5,ay i6,ay i7,bf (aZ rfl A.ob aj e)];rfl
end
end Lw
namespace Lw
open PySem L2 DL
theorem z5{xs:List D}(i k:Nat):fJ xs (some (i:Int)) (some ((i:Int)+(k:Int)))=(xs.drop i).take k:=by
 unfold fJ;have e:(i:Int)+(k:Int)=((i+k:Nat):Int):=by omega
 rw[e,HT.Hz,HT.Hz];by_cases h:i<=xs.length
 ·rw[Nat.min_eq_left h];by_cases h2:i+k<=xs.length
  ·rw[Nat.min_eq_left h2,show i+k-i=k by omega]
  ·rw[Nat.min_eq_right (by omega),List.take_of_length_le (by rw[List.length_drop];omega),List.take_of_length_le (by rw[List.length_drop];omega)]
 ·rw[Nat.min_eq_right (show xs.length<=i by omega),Nat.min_eq_right (show xs.length<=i+k by omega),List.drop_of_length_le (Nat.le_refl _),List.drop_of_length_le (by omega)];simp
theorem nP{S:List Cell}{a b:Nat}{xs ys:List D}(h1:S[a]?=some (.lst xs))(h2:S[b]?=some (.lst ys))(hz:(xs++ys).length<=1000000):bL (.ob a) (.ob b) S=.ok (.ob S.length) (S++[.lst (xs++ys)]):=by
 simp only[bL,bS h1,bS h2,uj hz]
theorem xZ{S:List Cell}{a:Nat}{xs:List D}{k:Nat}(h:S[a]?=some (.lst xs))(hz:xs.length * k<=1000000)(hk:k<=1000000):eI (.ob a) (.int (k:Int)) S=.ok (.ob S.length) (S++[.lst (List.replicate k xs).flatten]):=by
 unfold eI;simp only[bS h];rw[bW ⟨⟨by omega,by omega⟩,by rw[Int.toNat_natCast];exact Nat.le_of_lt (Nr hz)⟩,Int.toNat_natCast]
end Lw
namespace Lw
open PySem L2 DL
section
variable{G:Cs}{S S' S1 S2:List Cell}{a a' a1 a2:Ad}{w w' w1 w2:WW}{N:Nat}
def j9(falls:Bool)(c:Int):List LA:=
 if mx c 9859 20<2 then [.hand c] else if mx c 9859 20<6 then [.tick] else if mx c 9859 20<14 then List.replicate (1+mx c 9851 4) (.step (decide (mx c 9857 2=0)))
 else if mx c 9859 20<17 then [.Gn (mx c 9859 20-14) (decide (mx c 9857 2=0)) (mx c 9839 6) c] else if mx c 9859 20=17/\falls=true then [.Ge (decide (mx c 9833 2=0))] else [.Jo]
def jc(falls:Bool)(ns:List Int):List LA:=[.Jo,.hand (cv ns 2)]++((ns.drop 3).take 60).flatMap (j9 falls)
theorem zw(falls:Bool)(c:Int):(j9 falls c).length<=4:=by
 have:=lG c (p:=9851) (m:=4) (by decide);unfold j9;split
 ·simp
 ·split
  ·simp
  ·split
   ·rw[List.length_replicate];omega
   ·split
    ·simp
    ·split<;>simp
theorem nX(falls:Bool):∀l:List Int,(l.flatMap (j9 falls)).length<=4 * l.length
 |[]=>by simp
 |c :: l=>by
  have h1:=zw falls c;have h2:=nX falls l;rw[List.flatMap_cons,List.length_append,List.length_cons];omega
theorem zv(falls:Bool)(ns:List Int):(jc falls ns).length<=242:=by
 have h1:=nX falls ((ns.drop 3).take 60);have h2:((ns.drop 3).take 60).length<=60:=by rw[List.length_take];omega
 unfold jc;rw[List.length_append];simp only[List.length_cons,List.length_nil];omega
structure Row(S0 S:List Cell)(l:Nat)(xs:List LA):Prop where
 at_:S[l]?=some (.lst (xs.map LA.d))
 fr:Fr [] S0 S
 new:S0.length<=l
theorem uw{S0 S:List Cell}{l:Nat}{c:Cell}(f:Fr [] S0 S)(h:S0.length<=l):Fr [] S0 (S.set l c):=by
 refine⟨by rw[List.length_set];exact f.1,fun i hi _=>?_⟩;rw[List.getElem?_set_ne (by omega)];exact f.2 i hi (by simp)
theorem Row.app{S0:List Cell}{l:Nat}{xs:List LA}(R:Row S0 S l xs)(t:LA)(hz:xs.length<1000){ft:s_->M (List D)}{r:s_}(h2:aa 2 r S=.ok (.ob l) S)(h3:ft r S=.ok [t.d] S):∃S',bB (IY j4 (aa 2) ft) r S=some (.nx r,S')/\Row S0 S' l (xs++[t])/\Fr [l] S S':=by
 have ee:=uQ (n:=l) (d:=t.d) R.at_ (by rw[List.length_map];omega);refine⟨S.set l (.lst ((xs++[t]).map LA.d)),?_,⟨dy R.at_,uw R.fr R.new,R.new⟩,Fr.set (by simp)⟩;rw[bf (lH h2 R.at_ h3 ee),List.map_append];rfl
theorem Bk{ns:List Int}:fJ (ns.map D.int) (some 3) (some 63)=((ns.drop 3).take 60).map D.int:=by
 have h:=z5 (xs:=ns.map D.int) 3 60;rw[<-List.map_drop,<-List.map_take] at h;exact h
theorem qx{S0 S:List Cell}{l:Nat}{xs:List LA}(R:Row S0 S l xs)(c:List Cell):Row S0 (S++c) l xs:=⟨aC R.at_,R.fr.tr Fr.push,R.new⟩
theorem yD{S0:List Cell}{falls:Bool}{ns:List Int}{c:Int}{l kk:Nat}{xs:List LA}{x4 x5:Option D}{cs:List D}(R:Row S0 S l xs)(hz:xs.length<900)(hk:S[kk]?=some (.lst cs))(Xh:kk≠l) :
  ∃S' l' y4 y5,eW [some (.Gp (ns.map D.int)),some (.bl falls),some (.ob l),some (.int c),x4,x5] S=some (.nx [some (.Gp (ns.map D.int)),some (.bl falls),some (.ob l'),some (.int c),y4,y5],S')/\Row S0 S' l' (xs++j9 falls c)/\S'[kk]?=some (.lst cs)/\(l'=l\/S.length<=l'):=by
 unfold eW;have t20:=lG c (p:=9859) (m:=20) (by decide);obtain⟨t,ht⟩:∃t,mx c 9859 20=t:=⟨_,rfl⟩;have m1:am aH (ac (aa 3) (ac (dC (.int 9859)) (ac (dC (.int 20)) ai))) [some (.Gp (ns.map D.int)),some (.bl falls),some (.ob l),some (.int c),x4,x5] S=.ok (.int (t:Int)) S:=by
  rw[<-ht];exact i9 9859 20 rfl
 rw[aw (bF m1)];show ∃S' l' y4 y5,aL _ _ [some (.Gp (ns.map D.int)),some (.bl falls),some (.ob l),some (.int c),some (.int (t:Int)),x5] S=_/\_;have t2:=lG c (p:=9857) (m:=2) (by decide);obtain⟨rd,PA⟩:∃rd,decide (mx c 9857 2=0)=rd:=⟨_,rfl⟩;obtain⟨T,hT⟩:∃T,S++[Cell.lst [.str "there",.str "back"]]=T:=⟨_,rfl⟩;have m2:f_ t_ (bV (ac (dC (.str "there")) (ac (dC (.str "back")) ai))) (am aH (ac (aa 3) (ac (dC (.int 9857)) (ac (dC (.int 2)) ai)))) [some (.Gp (ns.map D.int)),some (.bl falls),some (.ob l),some (.int c),some (.int (t:Int)),x5] S=.ok (.str (bj rd)) T:=by
  rw[<-hT];have y:am aH (ac (aa 3) (ac (dC (.int 9857)) (ac (dC (.int 2)) ai))) [some (.Gp (ns.map D.int)),some (.bl falls),some (.ob l),some (.int c),some (.int (t:Int)),x5] (S++[.lst [.str "there",.str "back"]])=.ok (.int (mx c 9857 2:Nat)) (S++[.lst [.str "there",.str "back"]]):=i9 9857 2 rfl;refine ar (bY (ag rfl (ag rfl aj)) (by simp)) y (ke bE ?_);rw[<-PA];rcases (show mx c 9857 2=0\/mx c 9857 2=1 by omega) with h|h<;>rw[h]<;>rfl
 have R1:Row S0 T l xs:=by rw[<-hT];exact qx R _
 have QG:T[kk]?=some (.lst cs):=by rw[<-hT];exact aC hk
 have lT:T.length=S.length+1:=by rw[<-hT];simp
 rw[aw (bF m2)];show ∃S' l' y4 y5,Ga _ _ _ [some (.Gp (ns.map D.int)),some (.bl falls),some (.ob l),some (.int c),some (.int (t:Int)),some (.str (bj rd))] T=_/\_;obtain⟨r,hr⟩:∃r:s_,[some (.Gp (ns.map D.int)),some (.bl falls),some (.ob l),some (.int c),some (.int (t:Int)),some (.str (bj rd))]=r:=⟨_,rfl⟩;have v1:∀S,aa 1 r S=.ok (.bl falls) S:=fun S=>by rw[<-hr];rfl
 have v2:∀S,aa 2 r S=.ok (.ob l) S:=fun S=>by rw[<-hr];rfl
 have v3:∀S,aa 3 r S=.ok (.int c) S:=fun S=>by rw[<-hr];rfl
 have v4:∀S,aa 4 r S=.ok (.int (t:Int)) S:=fun S=>by rw[<-hr];rfl
 have v5:∀S,aa 5 r S=.ok (.str (bj rd)) S:=fun S=>by rw[<-hr];rfl
 have lt:∀k:Nat,al (f_ HQ (aa 4) (dC (.int (k:Int)))) r T=.ok (decide (t<k)) T:=fun k=>by
  refine az (ar (v4 _) rfl ?_);rw[qN];congr 2;rw[decide_eq_decide];omega
 have SE:al (f_ HQ (aa 4) (dC (.int 2))) r T=.ok (decide (t<2)) T:=lt 2;have SF:al (f_ HQ (aa 4) (dC (.int 6))) r T=.ok (decide (t<6)) T:=lt 6;have OH:al (f_ HQ (aa 4) (dC (.int 14))) r T=.ok (decide (t<14)) T:=lt 14;have OI:al (f_ HQ (aa 4) (dC (.int 17))) r T=.ok (decide (t<17)) T:=lt 17;have UG:al (f_ Fo (aa 4) (dC (.int 17))) r T=.ok (decide (t=17)) T:=by
  refine az (ar (v4 _) rfl ?_);rw[jy];congr 2;rw[decide_eq_decide];omega
 rw[hr];have JR:∀{b:Fw}(la:LA) {ft:s_->M (List D)},b=bB (IY j4 (aa 2) ft)->ft r T=.ok [la.d] T->j9 falls c=[la]->∃S' l' y4 y5,b r T=some (.nx [some (.Gp (ns.map D.int)),some (.bl falls),some (.ob l'),some (.int c),y4,y5],S')/\Row S0 S' l' (xs++j9 falls c)/\S'[kk]?=some (.lst cs)/\(l'=l\/S.length<=l'):=by
  intro b la ft hb hf ht;obtain⟨S',e,R',f⟩:=R1.app la (by omega) (v2 _) hf;rw[ht,hb];exact⟨S',l,_,_,by rw[e,<-hr],R',f.get QG (by simpa using Xh),.inl rfl⟩
 unfold j9 at *;rw[ht,PA] at *;by_cases h2:t<2
 ·rw[decide_eq_true h2] at SE;rw[aV SE];simp only[if_pos h2] at JR ⊢;exact JR (.hand c) rfl (ag (bM (ag rfl (ag (v3 _) aj)) (by simp)) aj) rfl
 ·rw[decide_eq_false h2] at SE;rw[ay SE];simp only[if_neg h2] at JR ⊢;by_cases h6:t<6
  ·rw[decide_eq_true h6] at SF;rw[aV SF];simp only[if_pos h6] at JR ⊢;exact JR .tick rfl (ag (bM (ag rfl aj) (by simp)) aj) rfl
  ·rw[decide_eq_false h6] at SF;rw[ay SF];simp only[if_neg h6] at JR ⊢;by_cases SG:t<14
   ·rw[decide_eq_true SG] at OH;rw[aV OH];simp only[if_pos SG];have t4:=lG c (p:=9851) (m:=4) (by decide);obtain⟨j,hj⟩:∃j,mx c 9851 4=j:=⟨_,rfl⟩;rw[hj] at t4 ⊢;obtain⟨U,hU⟩:∃U,T++[Cell.lst [LA.d (.step rd)]]++[.lst ((List.replicate (1+j) (LA.step rd)).map LA.d)]=U:=⟨_,rfl⟩;have y:∀T,f_ bL (dC (.int 1)) (am aH (ac (aa 3) (ac (dC (.int 9851)) (ac (dC (.int 4)) ai)))) r T=.ok (.int ((1+j:Nat):Int)) T:=fun T=>by
     have y0:am aH (ac (aa 3) (ac (dC (.int 9851)) (ac (dC (.int 4)) ai))) r T=.ok (.int (mx c 9851 4:Nat)) T:=i9 9851 4 (v3 _);refine ar rfl y0 ?_;rw[cx,hj];congr 2
    have UH:(List.replicate (1+j) [LA.d (.step rd)]).flatten=(List.replicate (1+j) (LA.step rd)).map LA.d:=by
     rw[List.map_replicate]
     induction (1+j) with
     |zero=>rfl
     |succ k ih=>rw[List.replicate_succ,List.flatten_cons,ih,List.replicate_succ];rfl
    have mu:f_ eI (bV (ac (cn (ac (dC (.str "step")) (ac (aa 5) ai))) ai)) (f_ bL (dC (.int 1)) (am aH (ac (aa 3) (ac (dC (.int 9851)) (ac (dC (.int 4)) ai))))) r T=.ok (.ob (T.length+1)) U:=by
     refine ar (bY (ag (bM (ag rfl (ag (v5 _) aj)) (by simp)) aj) (by simp)) (y _) ?_;rw[<-hU];rw[xZ (aS rfl) (by simp;omega) (by omega)];have e:(List.replicate (1+j) [D.tup [D.str "step",D.str (bj rd)]]).flatten=(List.replicate (1+j) (LA.step rd)).map LA.d:=UH;rw[e];simp[LA.d]
    have M_:U[l]?=some (.lst (xs.map LA.d)):=by rw[<-hU];exact aC (aC R1.at_)
    have UI:U[T.length+1]?=some (.lst ((List.replicate (1+j) (LA.step rd)).map LA.d)):=by rw[<-hU];exact aS (by simp)
    have ad:f_ bL (aa 2) (f_ eI (bV (ac (cn (ac (dC (.str "step")) (ac (aa 5) ai))) ai)) (f_ bL (dC (.int 1)) (am aH (ac (aa 3) (ac (dC (.int 9851)) (ac (dC (.int 4)) ai)))))) r T=.ok (.ob U.length) (U++[.lst ((xs++List.replicate (1+j) (LA.step rd)).map LA.d)]):=by
     refine ar (v2 _) mu ?_;rw[List.map_append];exact nP M_ UI (by simp;omega)
    have lU:T.length<=U.length:=by rw[<-hU];simp
    have fU:Fr [] T U:=by rw[<-hU,List.append_assoc];exact Fr.push
    have hs:=R1.fr.1;refine⟨_,U.length,some (.int (t:Int)),some (.str (bj rd)),?_,⟨bE,(R1.fr.tr fU).tr Fr.push,by omega⟩,aC (fU.get QG (by simp)),.inr (by omega)⟩;rw[bF ad,<-hr];rfl
   ·rw[decide_eq_false SG] at OH;rw[ay OH];simp only[if_neg SG] at JR ⊢;by_cases SH:t<17
    ·rw[decide_eq_true SH] at OI;rw[aV OI];simp only[if_pos SH] at JR ⊢;obtain⟨T2,Mb⟩:∃T2,T++[Cell.lst [.str "lose",.str "double",.str "spoil"]]=T2:=⟨_,rfl⟩;have R2:Row S0 T2 l xs:=by rw[<-Mb];exact qx R1 _
     have Pm:T2[kk]?=some (.lst cs):=by rw[<-Mb];exact aC QG
     have sb:∀T,f_ rF (aa 4) (dC (.int 14)) r T=.ok (.int ((t-14:Nat):Int)) T:=fun T=>ar (v4 _) rfl (by rw[sd];congr 2;omega)
     have kd:f_ t_ (bV (ac (dC (.str "lose")) (ac (dC (.str "double")) (ac (dC (.str "spoil")) ai)))) (f_ rF (aa 4) (dC (.int 14))) r T=.ok (.str (Aq (t-14))) T2:=by
      rw[<-Mb];refine ar (bY (ag rfl (ag rfl (ag rfl aj))) (by simp)) (sb _) (ke bE ?_);rcases (show t-14=0\/t-14=1\/t-14=2 by omega) with h|h|h<;>rw[h]<;>rfl
     have mm:am aH (ac (aa 3) (ac (dC (.int 9839)) (ac (dC (.int 6)) ai))) r T2=.ok (.int (mx c 9839 6:Nat)) T2:=i9 9839 6 (v3 _);have ft:ac (cn (ac (f_ t_ (bV (ac (dC (.str "lose")) (ac (dC (.str "double")) (ac (dC (.str "spoil")) ai)))) (f_ rF (aa 4) (dC (.int 14)))) (ac (aa 5) (ac (am aH (ac (aa 3) (ac (dC (.int 9839)) (ac (dC (.int 6)) ai)))) (ac (aa 3) ai))))) ai r T=.ok [LA.d (.Gn (t-14) rd (mx c 9839 6) c)] T2:=
      ag (bM (ag kd (ag (v5 _) (ag mm (ag (v3 _) aj)))) (by simp)) aj
     have ee:=uQ (S:=T2) (n:=l) (d:=LA.d (.Gn (t-14) rd (mx c 9839 6) c)) R2.at_ (by rw[List.length_map];omega);refine⟨T2.set l (.lst ((xs++[LA.Gn (t-14) rd (mx c 9839 6) c]).map LA.d)),l,some (.int (t:Int)),some (.str (bj rd)),?_,⟨dy R2.at_,uw R2.fr R2.new,R2.new⟩,cG Pm (Ne.symm Xh),.inl rfl⟩;have:bB (IY j4 (aa 2) (ac (cn (ac (f_ t_ (bV (ac (dC (.str "lose")) (ac (dC (.str "double")) (ac (dC (.str "spoil")) ai)))) (f_ rF (aa 4) (dC (.int 14)))) (ac (aa 5) (ac (am aH (ac (aa 3) (ac (dC (.int 9839)) (ac (dC (.int 6)) ai)))) (ac (aa 3) ai))))) ai)) r T=some (.nx r,T2.set l (.lst ((xs++[LA.Gn (t-14) rd (mx c 9839 6) c]).map LA.d))):=by
      refine bf (d:=.D_) ?_;rw[List.map_append];exact lH (v2 _) R1.at_ ft ee
     rw[this,<-hr]
    ·rw[decide_eq_false SH] at OI;rw[ay OI];simp only[if_neg SH] at JR ⊢;have an:cX (al (f_ Fo (aa 4) (dC (.int 17)))) (bR (aa 1)) r T=.ok (decide (t=17/\falls=true)) T:=by
      rw[cL,av,UG];by_cases h:t=17
      ·rw[decide_eq_true h];show bR (aa 1) r T=_;rw[cO,av,v1];cases falls<;>simp[h]
      ·rw[decide_eq_false h];simp[h]
     by_cases hf:t=17/\falls=true
     ·rw[decide_eq_true hf] at an;rw[aV an];simp only[if_pos hf];have t2b:=lG c (p:=9833) (m:=2) (by decide);obtain⟨wh,Xi⟩:∃wh,decide (mx c 9833 2=0)=wh:=⟨_,rfl⟩;rw[Xi];obtain⟨U,hU⟩:∃U,T++[Cell.lst [.str "sender",.str "hearer"]]++[.lst [LA.d (.Ge wh)]]=U:=⟨_,rfl⟩;have y:∀T,am aH (ac (aa 3) (ac (dC (.int 9833)) (ac (dC (.int 2)) ai))) r T=.ok (.int (mx c 9833 2:Nat)) T:=fun T=>i9 9833 2 (v3 _)
      have wi:f_ t_ (bV (ac (dC (.str "sender")) (ac (dC (.str "hearer")) ai))) (am aH (ac (aa 3) (ac (dC (.int 9833)) (ac (dC (.int 2)) ai)))) r T=.ok (.str (if wh then "sender" else "hearer")) (T++[.lst [.str "sender",.str "hearer"]]):=by
       refine ar (bY (ag rfl (ag rfl aj)) (by simp)) (y _) (ke bE ?_);rw[<-Xi];rcases (show mx c 9833 2=0\/mx c 9833 2=1 by omega) with h|h<;>rw[h]<;>rfl
      have ls:bV (ac (cn (ac (dC (.str "fall")) (ac (f_ t_ (bV (ac (dC (.str "sender")) (ac (dC (.str "hearer")) ai))) (am aH (ac (aa 3) (ac (dC (.int 9833)) (ac (dC (.int 2)) ai))))) ai))) ai) r T=.ok (.ob (T.length+1)) U:=by
       rw[bY (ag (bM (ag rfl (ag wi aj)) (by simp)) aj) (by simp),<-hU];simp[LA.d]
      have M_:U[l]?=some (.lst (xs.map LA.d)):=by rw[<-hU];exact aC (aC R1.at_)
      have UI:U[T.length+1]?=some (.lst [LA.d (.Ge wh)]):=by rw[<-hU];exact aS (by simp)
      have ad:f_ bL (aa 2) (bV (ac (cn (ac (dC (.str "fall")) (ac (f_ t_ (bV (ac (dC (.str "sender")) (ac (dC (.str "hearer")) ai))) (am aH (ac (aa 3) (ac (dC (.int 9833)) (ac (dC (.int 2)) ai))))) ai))) ai)) r T=.ok (.ob U.length) (U++[.lst ((xs++[LA.Ge wh]).map LA.d)]):=by
       refine ar (v2 _) ls ?_;rw[List.map_append];exact nP M_ UI (by simp;omega)
      have lU:T.length<=U.length:=by rw[<-hU];simp
      have fU:Fr [] T U:=by rw[<-hU,List.append_assoc];exact Fr.push
      have hs:=R1.fr.1;refine⟨_,U.length,some (.int (t:Int)),some (.str (bj rd)),?_,⟨bE,(R1.fr.tr fU).tr Fr.push,by omega⟩,aC (fU.get QG (by simp)),.inr (by omega)⟩;rw[bF ad,<-hr];rfl
     ·rw[decide_eq_false hf] at an;rw[ay an];simp only[if_neg hf] at JR ⊢;exact JR .Jo rfl (ag (bM (ag rfl aj) (by simp)) aj) rfl
theorem B0(falls:Bool)(ns:List Int)(S:List Cell):∃S' l,gr [.Gp (ns.map D.int),.bl falls] S=.ok (.ob l) S'/\Row S S' l (jc falls ns):=by
 show ∃S' l,fin S (jV [some (.Gp (ns.map D.int)),some (.bl falls),none,none,none,none] S)=_/\_;unfold jV;have e1:bV (ac (cn (ac (dC (.str "open")) ai)) (ac (cn (ac (dC (.str "hand")) (ac (am bK (ac (aa 0) (ac (dC (.int 2)) ai))) ai))) ai)) [some (.Gp (ns.map D.int)),some (.bl falls),none,none,none,none] S=.ok (.ob S.length) (S++[.lst ([LA.Jo,.hand (cv ns 2)].map LA.d)]):=
  bY (ag (bM (ag rfl aj) (by simp)) (ag (bM (ag rfl (ag (ax (ag rfl (ag rfl aj)) (DP _)) aj)) (by simp)) aj)) (by simp)
 rw[aw (bF e1)];show ∃S' l,fin S (aL _ _ [some (.Gp (ns.map D.int)),some (.bl falls),some (.ob S.length),none,none,none] (S++[.lst ([LA.Jo,.hand (cv ns 2)].map LA.d)]))=_/\_;obtain⟨sl,Pf⟩:∃sl,(ns.drop 3).take 60=sl:=⟨_,rfl⟩;have ZE:sl.length<=60:=by rw[<-Pf,List.length_take];omega
 obtain⟨S1,Lu⟩:∃S1,S++[Cell.lst ([LA.Jo,.hand (cv ns 2)].map LA.d)]=S1:=⟨_,rfl⟩;have R0:Row S S1 S.length [LA.Jo,.hand (cv ns 2)]:=by rw[<-Lu];exact⟨bE,Fr.push,Nat.le_refl _⟩
 have l1:S1.length=S.length+1:=by rw[<-Lu];simp
 rw[Lu];have s1:HM (HP Hh (aa 0) (bP (dC (.int 3))) (bP (dC (.int 63)))) [some (.Gp (ns.map D.int)),some (.bl falls),some (.ob S.length),none,none,none] S1=.ok ⟨sl.map D.int,some (S1.length,sl.map D.int)⟩ (S1++[.lst (sl.map D.int)]):=by
  rw[lF,av];have:HP Hh (aa 0) (bP (dC (.int 3))) (bP (dC (.int 63))) [some (.Gp (ns.map D.int)),some (.bl falls),some (.ob S.length),none,none,none] S1=.ok (.ob S1.length) (S1++[.lst (sl.map D.int)]):=by
   rw[<-Pf,<-Bk];rfl
  rw[this];simp only[kG,bE]
 obtain⟨r',S',q,l,x3,x4,x5,rfl,k,UJ,Xj⟩:=dO (g:=some (S1.length,sl.map D.int)) (tg:=gN 3) (b:=eW)
  (fun i r' S'=>∃l x3 x4 x5,r'=[some (.Gp (ns.map D.int)),some (.bl falls),some (.ob l),x3,x4,x5]/\Row S S' l ([LA.Jo,.hand (cv ns 2)]++(sl.take i).flatMap (j9 falls))/\S'[S1.length]?=some (.lst (sl.map D.int))/\S1.length≠l) (sl.map D.int) 0 [some (.Gp (ns.map D.int)),some (.bl falls),some (.ob S.length),none,none,none] (S1++[.lst (sl.map D.int)])
  (by
   rintro i y r' S' hy ⟨l,x3,x4,x5,rfl,k,UJ,Xj⟩;rw[List.getElem?_map] at hy;cases hp:sl[i]? with
   |none=>rw[hp] at hy;cases hy
   |some c=>
    rw[hp] at hy;cases hy;rw[Nat.zero_add] at k ⊢;have hlen:=nX falls (sl.take i);rw[List.length_take] at hlen;obtain⟨S2,l2,y4,y5,e2,k2,Pm,M_⟩:=yD (falls:=falls) (ns:=ns) (c:=c) (x4:=x4) (x5:=x5) k (by rw[List.length_append];simp only[List.length_cons,List.length_nil];omega) UJ Xj;have HA:=br UJ;refine⟨[some (.Gp (ns.map D.int)),some (.bl falls),some (.ob l),some (.int c),x4,x5],_,S2,rfl,e2,Pm,l2,_,_,_,rfl,?_,Pm,by omega⟩;rw[List.take_add_one,hp,Option.toList_some,List.flatMap_append,<-List.append_assoc];simpa using k2)
  ⟨S.length,none,none,none,rfl,by simpa using qx R0 _,bE,by omega⟩
 rw[show 0+(sl.map D.int).length=sl.length by simp,List.take_length] at k;refine⟨S',l,?_,?_⟩
 ·rw[aw (by rw[lR s1];exact q),aR rfl];rfl
 ·unfold jc;rw[Pf];exact k
end
end Lw
namespace Lw
open PySem L2 DL
end Lw
namespace Lw
open PySem L2 DL
section
variable{G:Cs}{S S' S1 S2:List Cell}{a a' a1 a2:Ad}{w w' w1 w2:WW}{N:Nat}
theorem HD.out(k:HD G a S a' S' w'){j:Nat}{c:Cell}(hj:S[j]?=some c)(hn:j∉a.fp):S'[j]?=some c/\j∉a'.fp:=by
 refine⟨k.fr.get hj hn,fun z=>?_⟩;have:=br hj;rcases k.ad j z with h|h
 ·exact hn h
 ·omega
end
end Lw
namespace Lw
theorem kc{l:List (Nat×Pc)}{k:Nat}{p:Pc}(h:l.lookup k=some p):(k,p)∈l:=by
 induction l with
 |nil=>simp at h
 |cons a r ih=>
  obtain⟨a1,a2⟩:=a;rw[List.lookup_cons] at h;cases e:k == a1 with
  |true=>
   rw[e] at h;simp at h;have:=beq_iff_eq.mp e;subst this h;simp
  |false=>
   rw[e] at h;exact List.mem_cons_of_mem _ (ih h)
theorem oz{l:List (Nat×Pc)}{k:Nat}(h:l.lookup k=none):k∉l.map (·.1):=by
 induction l with
 |nil=>simp
 |cons a r ih=>
  obtain⟨a1,a2⟩:=a;rw[List.lookup_cons] at h;cases e:k == a1 with
  |true=>rw[e] at h;simp at h
  |false=>
   rw[e] at h;have h1:k≠a1:=fun q=>by rw[q,beq_self_eq_true] at e;cases e
   simp only[List.map_cons,List.mem_cons,not_or];exact⟨h1,ih h⟩
structure JS(Q:List Pc)(G:List (Nat×GL))(h:Hr):Prop where
 he:∀e,e∈h.early->Q[e.1]?=some e.2/\h.nx<=e.1
 hd:(h.early.map (·.1)).Nodup
 hb:h.begun=(N9 (Q.take h.nx)).2
 hg:h.given=G++(N9 (Q.take h.nx)).1.map fun m=>(h.op,m)
structure NI(h h':Hr):Prop where
 w:h'.w=h.w
 op:h'.op=h.op
 nx:h.nx<=h'.nx
 keys:∀k,h.nx<=k->k<h'.nx->k∈h.early.map (·.1)
 sub:∀e,e∈h'.early->e∈h.early
 Jd:∀k,k∈h.early.map (·.1)->h'.nx<=k->k∈h'.early.map (·.1)
theorem NI.refl(h:Hr):NI h h:=⟨rfl,rfl,Nat.le_refl _,fun k a b=>by omega,fun _ q=>q,fun _ q _=>q⟩
theorem vI{l:List (Nat×Pc)}{n k:Nat}(hk:k∈l.map (·.1))(hn:k≠n):k∈(l.filter fun e=>decide (e.1≠n)).map (·.1):=by
 obtain⟨e,he,rfl⟩:=List.mem_map.mp hk;exact List.mem_map.mpr ⟨e,List.mem_filter.mpr ⟨he,decide_eq_true hn⟩,rfl⟩
theorem za{Q:List Pc}{G:List (Nat×GL)}{h:Hr}{p:Pc}(r:JS Q G h)(hp:h.early.lookup h.nx=some p):JS Q G (h.pop.take p)/\(h.pop.take p).early=h.early.filter (fun e=>decide (e.1≠h.nx))/\(h.pop.take p).nx=h.nx+1/\(h.pop.take p).w=h.w/\(h.pop.take p).op=h.op:=by
 have hq:=(r.he _ (kc hp)).1;have ht:Q.take (h.nx+1)=Q.take h.nx++[p]:=by
  have hl:=(List.getElem?_eq_some_iff.mp hq);obtain⟨h1,h2⟩:=hl;rw[List.take_add_one,hq];rfl
 have e1:(h.pop.take p).early=h.early.filter (fun e=>decide (e.1≠h.nx)):=by unfold Hr.take Hr.pop;split<;>rfl
 have e2:(h.pop.take p).nx=h.nx+1:=by unfold Hr.take Hr.pop;split<;>rfl
 have e3:(h.pop.take p).w=h.w:=by unfold Hr.take Hr.pop;split<;>rfl
 have e4:(h.pop.take p).op=h.op:=by unfold Hr.take Hr.pop;split<;>rfl
 refine⟨⟨?_,?_,?_,?_⟩,e1,e2,e3,e4⟩
 ·intro e he;rw[e1] at he;obtain⟨a1,a2⟩:=List.mem_filter.mp he;have a3:=r.he e a1;have a4:e.1≠h.nx:=by simpa using a2
  rw[e2];exact⟨a3.1,by omega⟩
 ·rw[e1];exact r.hd.sublist ((List.filter_sublist).map _)
 ·rw[e2,ht,vi];unfold Hr.take rB;by_cases hl:p.1=1
  ·rw[if_pos hl,if_pos hl]
  ·rw[if_neg hl,if_neg hl];show h.begun++[p]=_;rw[r.hb]
 ·rw[e2,e4,ht,vi];unfold Hr.take rB;by_cases hl:p.1=1
  ·rw[if_pos hl,if_pos hl];show h.given++[(h.op,bh (h.begun++[p]))]=_;rw[r.hg,r.hb];simp
  ·rw[if_neg hl,if_neg hl];exact r.hg
theorem mE{Q:List Pc}{G:List (Nat×GL)}:∀(n:Nat) (h:Hr),h.early.length<=n->JS Q G h->JS Q G (Hr.Fh n h)/\NI h (Hr.Fh n h)/\(Hr.Fh n h).nx∉(Hr.Fh n h).early.map (·.1)
 |0,h,hl,r=>by
  have:h.early=[]:=List.length_eq_zero_iff.mp (by omega);exact⟨r,NI.refl h,by unfold Hr.Fh;rw[this];simp⟩
 |n+1,h,hl,r=>by
  unfold Hr.Fh;cases e:h.early.lookup h.nx with
  |none=>exact⟨r,NI.refl h,oz e⟩
  |some p=>
   dsimp only;obtain⟨r',e1,e2,e3,e4⟩:=za r e;have hm:=kc e;have HA:(h.pop.take p).early.length<=n:=by
    rw[e1];have:(h.early.filter fun e=>decide (e.1≠h.nx)).length<h.early.length:=List.length_filter_lt_length_iff_exists.mpr ⟨_,hm,by simp⟩;omega
   obtain⟨a,b,c⟩:=mE n _ HA r';refine⟨a,⟨b.w.trans e3,b.op.trans e4,by have:=b.nx;omega,?_,?_,?_⟩,c⟩
   ·intro k h1 h2;by_cases hk:k=h.nx
    ·rw[hk];exact List.mem_map.mpr ⟨_,hm,rfl⟩
    ·have:=b.keys k (by omega) h2;rw[e1] at this;obtain⟨q,hq,rfl⟩:=List.mem_map.mp this;exact List.mem_map.mpr ⟨q,(List.mem_filter.mp hq).1,rfl⟩
   ·intro q hq;have:=b.sub q hq;rw[e1] at this;exact(List.mem_filter.mp this).1
   ·intro k hk hn;have hb:=b.nx;exact b.Jd k (by rw[e1];exact vI hk (by omega)) hn
theorem wE{α:Type}{l:List α}{a:α}(h:l.Nodup)(ha:a∉l):(l++[a]).Nodup:=by
 rw[List.nodup_append];refine⟨h,by simp,fun x hx y hy=>?_⟩;simp at hy;subst hy;exact fun e=>ha (e ▸ hx)
theorem yt{Q:List Pc}{G:List (Nat×GL)}{h:Hr}{i:Nat}{p:Pc}(hw:0<h.w)(r:JS Q G h)(h1:(h.nx:Int)-h.w<=i)(h2:i<h.nx+h.w)(hp:Q[i]?=some p) :
  JS Q G (h.keep (i % (2 * h.w)) p)/\(h.keep (i % (2 * h.w)) p).w=h.w/\(h.keep (i % (2 * h.w)) p).op=h.op/\(h.keep (i % (2 * h.w)) p).nx=h.nx/\(∀e,e∈(h.keep (i % (2 * h.w)) p).early->e∈h.early\/e=(i,p))/\(∀e,e∈h.early->e∈(h.keep (i % (2 * h.w)) p).early)/\
   (h.nx<=i->i∈(h.keep (i % (2 * h.w)) p).early.map (·.1)):=by
 have hi:h.idx (i % (2 * h.w))=(i:Int):=by
  unfold Hr.idx;have:((i % (2 * h.w):Nat):Int)=(i:Int) % (2 * (h.w:Int)):=by push_cast;rfl
  rw[this];exact uH hw h1 (by omega)
 have HA:i % (2 * h.w)<2 * h.w:=Nat.mod_lt _ (by omega);unfold Hr.keep;rw[hi];simp only[Int.toNat_natCast];by_cases hc:i % (2 * h.w)<2 * h.w/\(h.nx:Int)<=i/\h.early.lookup i=none
 ·rw[if_pos hc];obtain⟨_,c2,c3⟩:=hc;refine⟨⟨?_,?_,r.hb,r.hg⟩,rfl,rfl,rfl,?_,?_,?_⟩
  ·intro e he;rcases List.mem_append.mp he with he|he
   ·exact r.he e he
   ·have:=List.mem_singleton.mp he;subst this;exact⟨hp,by show h.nx<=i;omega⟩
  ·show(h.early++[(i,p)]).map (·.1) |>.Nodup;rw[List.map_append];exact wE r.hd (oz c3)
  ·intro e he;rcases List.mem_append.mp he with he|he
   ·exact .inl he
   ·exact .inr (List.mem_singleton.mp he)
  ·exact fun e he=>List.mem_append_left _ he
  ·intro _;show i∈(h.early++[(i,p)]).map (·.1);rw[List.map_append];exact List.mem_append_right _ (by simp)
 ·rw[if_neg hc];refine⟨r,rfl,rfl,rfl,fun e he=>.inl he,fun e he=>he,fun hn=>?_⟩;have:h.early.lookup i≠none:=fun q=>hc ⟨HA,by omega,q⟩
  cases e:h.early.lookup i with
  |none=>exact absurd e this
  |some q=>exact List.mem_map.mpr ⟨_,kc e,rfl⟩
end Lw
namespace Lw
def Cw.stepT(c:Cw):Cw:=match c.T with
 |[]=>c
 |a :: r=>{ c with h:=(c.h.l_ a).1,T:=r,B:=c.B++(c.h.l_ a).2 }
def Cw.Hd(c:Cw):Cw:=match c.B with
 |[]=>c
 |a :: r=>{ c with s:=c.s.l_ a,B:=r }
section
variable{x:Sys}
theorem qf(b:P9 x){c:BC}(hb:1<=c.op/\c.op<=x.s.op)(hc:∀j bs,c≠.note x.s.op j bs):P9 (x.setB (x.B++[c])):=by
 have hm:∀j bs,BC.note x.s.op j bs∈x.B++[c]->BC.note x.s.op j bs∈x.B:=fun j bs h=>by
  rcases List.mem_append.mp h with h|h
  ·exact h
  ·exact absurd (List.mem_singleton.mp h).symm (hc j bs)
 refine⟨fun a ha=>?_,fun j bs h=>b.bn j bs (hm j bs h),?_,fun q=>⟨(b.m1 q).1,fun j bs k h=>(b.m1 q).2 j bs k (hm j bs h)⟩,fun k hk=>⟨(b.m2 k hk).1,fun j bs h=>(b.m2 k hk).2 j bs (hm j bs h)⟩,fun j bs h=>b.m4 j bs (hm j bs h),
  fun q j bs h=>b.nh q j bs (hm j bs h),b.nd⟩
 ·rcases List.mem_append.mp ha with ha|ha
  ·exact b.bb a ha
  ·rw[List.mem_singleton.mp ha];exact hb
 ·refine dj b.bp (by simp) fun a _ a' MU j bs j' Kp _ e2=>?_
  rw[List.mem_singleton.mp MU] at e2;exact absurd e2 (hc j' Kp)
theorem pv{y:Sys}{s:Sr}{h:Hr}{T B:List v_}(h1:y.s=s)(h2:y.h=h)(h3:y.T.map y.cT=T)(h4:y.B.map y.cB=B):y.con=⟨s,h,T,B⟩:=by
 unfold Sys.con;rw[h1,h2,h3,h4]
theorem Ay(v:Iv x){o:Nat}{r:List TC}(hT:x.T=.x_ o :: r):∃y:Sys,Iv y/\y.con=x.con.stepT/\y.s=x.s/\y.st=x.st:=by
 obtain⟨c,t,b⟩:=v;have Ik:TC.x_ o∈x.T:=by rw[hT];simp
 obtain⟨QH,MO⟩:=t.bd _ Ik;have OJ:(TC.x_ o).rank=2 * o:=rfl;have Lv:(TC.x_ o).op=o:=rfl;rw[OJ] at MO;rw[Lv] at QH;have Ru:=t.rh _ Ik;rw[OJ] at Ru;have so:=t.so;have r6:=t.r6;rw[hT] at so r6;obtain⟨UK,RG⟩:=List.pairwise_cons.mp so;obtain⟨_,RH⟩:=List.pairwise_cons.mp r6;have hm:∀cc,cc∈r->cc∈x.T:=fun cc h=>by rw[hT];exact List.mem_cons_of_mem _ h
 have RI:o<=x.s.op:=by omega
 have t1:=o9 t hm RG RH;have c1:=va c r;have b1:=u7 b r fun h=>.inl (hm _ h)
 have LQ:x.con.stepT=⟨x.s,(x.h.l_ (.x_ o)).1,r.map x.cT,x.B.map x.cB++(x.h.l_ (.x_ o)).2⟩:=by
  unfold Sys.con Cw.stepT;rw[hT];rfl
 have Xk:∀q,o<=q->x.tk q=0:=fun q hq=>by
  cases e:x.tk q with
  |zero=>rfl
  |succ n=>
   have:=t.rt q (by omega) _ Ik;rw[OJ] at this;omega
 by_cases he:x.h.op=o
 ·refine⟨(x.Il r).setB ((x.Il r).B++[.tB o]),⟨rW c1 _,sL t1 _,qf (c:=.tB o) b1 ⟨QH,RI⟩ (fun _ _ q=>by cases q)⟩,?_,rfl,rfl⟩;rw[LQ];have e1:x.h.l_ (.x_ o)=(x.h,[.tB o]):=by simp[Hr.l_,he]
  rw[e1];refine pv rfl rfl rfl ?_;show(x.B++[BC.tB o]).map x.cB=_;rw[List.map_append];rfl
 ·have HA:x.h.op<o:=by omega
  have e1:x.h.l_ (.x_ o)=(x.h.begin_ o,[.tB o]):=by
   simp only[Hr.l_];rw[if_neg (by omega),if_pos HA]
  refine⟨{ x with h:=x.h.begin_ o,T:=r,B:=x.B++[.tB o] },⟨?_,?_,?_⟩,?_,rfl,rfl⟩
  ·refine⟨c.w0,c.ww,c.ps,fun q=>⟨(c.Mn q).1,(c.Mn q).2.1,(c.Mn q).2.2.1,fun _=>rfl⟩,c.su,c.sl,c.ch,c.s0,c.bt,c.tw,c.tl,c.tz,c.t0,RI,fun _=>rfl,(Xk o (Nat.le_refl _)).symm,fun _ q hq=>Xk q (Nat.le_of_lt hq),?_,List.nodup_nil,rfl,c.hg,?_,c.n0⟩
   ·intro e q;have:e∈([]:List (Nat×Pc)):=q;simp at this
   ·intro _ e q;have:e∈([]:List (Nat×Pc)):=q;simp at this
  ·refine⟨RG,t1.bd,t1.bo,t1.rt,?_,fun q=>absurd rfl q,t1.r2,t1.r3,?_,RH,t1.r7⟩
   ·intro cc h;have:=UK cc h;rw[OJ] at this;exact this
   ·intro i h;have:=t.r3 o i Ik (hm _ h);refine⟨?_,Nat.zero_le _,fun e q=>?_⟩
    ·show i<0+x.s.w;omega
    ·have:e∈([]:List (Nat×Pc)):=q;simp at this
  ·have b2:=qf b1 (c:=.tB o) ⟨QH,RI⟩ (fun _ _ q=>by cases q);refine⟨b2.bb,b2.bn,b2.bp,fun q=>?_,b2.m2,b2.m4,b2.nh,b2.nd⟩;have q':o=x.s.op:=q;have RJ:TC.x_ x.s.op∈x.T:=q' ▸ Ik;refine⟨fun k hk=>?_,fun j bs k hj _=>?_⟩
   ·have hk':k∈x.s.E_:=hk;rw[b.nd RJ] at hk';simp at hk'
   ·rcases List.mem_append.mp hj with hj|hj
    ·exact absurd hj (b.nh (.inl RJ) j bs)
    ·simp at hj
  ·rw[LQ,e1];refine pv rfl rfl rfl ?_;show(x.B++[BC.tB o]).map x.cB=_;rw[List.map_append];rfl
theorem uG(c:Oa x)(h:x.h.op≠0):x.h.given=(List.range x.h.op).flatMap x.run++x.run x.h.op:=by
 rw[c.hg];have e:x.s.op+1=x.h.op+1+(x.s.op-x.h.op):=by have:=c.ho;omega
 rw[e,List.range_add,List.flatMap_append,List.range_succ,List.flatMap_append];have z:((List.range (x.s.op-x.h.op)).map (x.h.op+1+·)).flatMap x.run=[]:=by
  rw[List.flatMap_eq_nil_iff];intro o ho;obtain⟨k,_,rfl⟩:=List.mem_map.mp ho;unfold Sys.run;rw[c.hl h _ (by omega)];simp[FC]
 rw[z];simp
theorem BJ(v:Iv x){o i:Nat}{r:List TC}(hT:x.T=.data o i :: r):∃y:Sys,Iv y/\y.con=x.con.stepT/\y.s=x.s/\y.st=x.st:=by
 obtain⟨c,t,b⟩:=v;have Ik:TC.data o i∈x.T:=by rw[hT];simp
 obtain⟨QH,MO⟩:=t.bd _ Ik;have OJ:(TC.data o i).rank=2 * o+1:=rfl;have Lv:(TC.data o i).op=o:=rfl;rw[OJ] at MO;rw[Lv] at QH;have Ru:=t.rh _ Ik;rw[OJ] at Ru;have so:=t.so;have r6:=t.r6;rw[hT] at so r6;obtain⟨UK,RG⟩:=List.pairwise_cons.mp so;obtain⟨ZF,RH⟩:=List.pairwise_cons.mp r6;have hm:∀cc,cc∈r->cc∈x.T:=fun cc h=>by rw[hT];exact List.mem_cons_of_mem _ h
 have RI:o<=x.s.op:=by omega
 have t1:=o9 t hm RG RH;have c1:=va c r;have b1:=u7 b r fun h=>.inl (hm _ h)
 have SI:∀cc,cc∈r->2 * o+1<=cc.rank:=fun cc h=>by have:=UK cc h;rw[OJ] at this;exact this
 have hP:=t.r2 o i Ik;obtain⟨p,hp⟩:∃p,(x.P o)[i]?=some p:=⟨(x.P o)[i],by simp[hP]⟩;have WM:x.cT (.data o i)=.data o (i % (2 * x.s.w)) p:=by
  show v_.data o (i % (2 * x.s.w)) ((x.P o).getD i (0,[]))=_;simp[List.getD,hp]
 have LQ:x.con.stepT=⟨x.s,(x.h.l_ (.data o (i % (2 * x.s.w)) p)).1,r.map x.cT,x.B.map x.cB++(x.h.l_ (.data o (i % (2 * x.s.w)) p)).2⟩:=by
  unfold Sys.con Cw.stepT;rw[hT,List.map_cons,WM]
 by_cases he:x.h.op=o
 rotate_left
 ·have HA:x.h.op<o:=by omega
  refine⟨(x.Il r).setB ((x.Il r).B++[.GU o]),⟨rW c1 _,sL t1 _,qf (c:=.GU o) b1 ⟨QH,RI⟩ (fun _ _ q=>by cases q)⟩,?_,rfl,rfl⟩;rw[LQ];have e1:x.h.l_ (.data o (i % (2 * x.s.w)) p)=(x.h,[.GU o]):=by
   simp only[Hr.l_];rw[if_neg (by omega),if_pos HA]
  rw[e1];refine pv rfl rfl rfl ?_;show(x.B++[BC.GU o]).map x.cB=_;rw[List.map_append];rfl
 ·subst he;have h0:x.h.op≠0:=by omega
  obtain⟨q1,q2,q3⟩:=t.r4 i Ik;have hw:=c.ww;have Nx:x.h.nx<=(x.P x.h.op).length:=by rw[c.hn];exact c.tl _
  have row:JS (x.P x.h.op) ((List.range x.h.op).flatMap x.run) x.h:=by
   refine⟨fun e h=>⟨(c.he e h).1,Nat.le_of_lt (c.he e h).2⟩,c.hd,c.hb,?_⟩;rw[uG c h0];congr 1;unfold Sys.run;rw[c.hn,show x.P x.h.op=fl x.s.most (x.s.msgs.drop (x.st x.h.op)) from rfl,uA]
  obtain⟨k1,k2,k3,k4,k5,k6,k7⟩:=yt (h:=x.h) (i:=i) (p:=p) (by rw[hw];exact c.w0) row (by omega) (by omega) hp;rw[hw] at k1 k2 k3 k4 k5 k6 k7;obtain⟨a1,a2,a3⟩:=mE _ _ (Nat.le_refl _) k1;have e1:x.h.l_ (.data x.h.op (i % (2 * x.s.w)) p)=(x.h.data (i % (2 * x.s.w)) p,[(x.h.data (i % (2 * x.s.w)) p).note]):=by
   simp only[Hr.l_];rw[if_neg (Nat.lt_irrefl _),if_neg (Nat.lt_irrefl _)]
  have UL:x.h.data (i % (2 * x.s.w)) p=Hr.Fh (x.h.keep (i % (2 * x.s.w)) p).early.length (x.h.keep (i % (2 * x.s.w)) p):=rfl;rw[<-UL] at a1 a2 a3;obtain⟨h',hh⟩:∃h',x.h.data (i % (2 * x.s.w)) p=h':=⟨_,rfl⟩;rw[hh] at a1 a2 a3 e1;have w':h'.w=x.s.w:=a2.w.trans k2;have Lr:h'.op=x.h.op:=a2.op.trans k3;have Xl:x.h.nx<=h'.nx:=by have:=a2.nx;rw[k4] at this;exact this
  have Xm:∀e,e∈h'.early->e∈x.h.early\/e=(i,p):=fun e q=>k5 e (a2.sub e q)
  have key:∀k,k∈x.h.early.map (·.1)->h'.nx<=k->k∈h'.early.map (·.1):=fun k q hk=>by
   obtain⟨e,he,rfl⟩:=List.mem_map.mp q;exact a2.Jd _ (List.mem_map.mpr ⟨e,k6 e he,rfl⟩) hk
  have gap:∀k,x.h.nx<=k->k<h'.nx->k=i\/k∈x.h.early.map (·.1):=fun k h1 h2=>by
   have:=a2.keys k (by rw[k4];exact h1) h2;obtain⟨e,he,rfl⟩:=List.mem_map.mp this;rcases k5 e he with q|q
   ·exact .inr (List.mem_map.mpr ⟨e,q,rfl⟩)
   ·rw[q];exact .inl rfl
  have bound:∀M,(∀e,e∈x.h.early->e.1<M)->i<M->x.h.nx<=M->h'.nx<=M:=fun M m1 m2 m3=>by
   apply Nat.le_of_not_lt;intro HA;rcases gap M m3 HA with q|q
   ·omega
   ·obtain⟨e,he,q⟩:=List.mem_map.mp q;have:=m1 e he;omega
  have pl:h'.nx<=(x.P x.h.op).length:=bound _ (fun e he=>(List.getElem?_eq_some_iff.mp (c.he e he).1).1) hP Nx;have strict:∀e,e∈h'.early->(x.P x.h.op)[e.1]?=some e.2/\h'.nx<e.1:=fun e q=>by
   obtain⟨z1,z2⟩:=a1.he e q;have:e.1≠h'.nx:=fun z=>a3 (z ▸ List.mem_map.mpr ⟨e,q,rfl⟩)
   exact⟨z1,by omega⟩
  have NJ:x.s.st=.opening->x.h.op≠x.s.op:=fun q z=>by
   have:=t.bo q _ Ik;rw[OJ] at this;omega
  obtain⟨y,hy⟩:∃y:Sys,y = { x with h:=h',T:=r,B:=x.B++[.note x.h.op h'.nx h'.bits],tk:=fun q=>if q=x.h.op then h'.nx else x.tk q }:=⟨_,rfl⟩;have ys:y.s=x.s:=by rw[hy]
  have yh:y.h=h':=by rw[hy]
  have yT:y.T=r:=by rw[hy]
  have yB:y.B=x.B++[.note x.h.op h'.nx h'.bits]:=by rw[hy]
  have LR:y.st=x.st:=by rw[hy]
  have JZ:∀q,q≠x.h.op->y.tk q=x.tk q:=fun q hq=>by rw[hy];exact if_neg hq
  have Mp:y.tk x.h.op=h'.nx:=by rw[hy];exact if_pos rfl
  have yP:∀q,y.P q=x.P q:=fun q=>by unfold Sys.P;rw[ys,LR]
  have OK:∀q,q≠x.h.op->y.run q=x.run q:=fun q hq=>by unfold Sys.run;rw[ys,LR,yP,JZ q hq]
  have UM:∀q,x.en q<=y.en q:=fun q=>by
   unfold Sys.en;rw[LR,yP];by_cases hq:q=x.h.op
   ·rw[hq,Mp];have:=pz (x.P x.h.op) Xl;rw[c.hn] at this;omega
   ·rw[JZ q hq];exact Nat.le_refl _
  have Xn:x.tk x.s.op<=y.tk x.s.op:=by
   by_cases hq:x.s.op=x.h.op
   ·rw[hq,Mp,<-c.hn];exact Xl
   ·rw[JZ _ hq];exact Nat.le_refl _
  refine⟨y,⟨?_,?_,?_⟩,?_,ys,LR⟩
  ·refine⟨by rw[ys];exact c.w0,by rw[yh,ys];exact w',by rw[ys];intro q;rw[yP];exact c.ps q,?_,by rw[ys,LR,yP];exact c.su,by rw[ys,LR];exact c.sl,?_,by rw[LR];exact c.s0,?_,?_,?_,?_,?_,by rw[yh,ys,Lr];exact c.ho,?_,?_,?_,?_,?_,?_,?_,?_,by rw[ys];exact c.n0⟩
   ·rw[ys,yh,Lr];intro q;refine⟨(c.Mn q).1,(c.Mn q).2.1,?_,fun z=>absurd z (NJ q)⟩;rw[JZ _ (fun z=>NJ q z.symm)];exact(c.Mn q).2.2.1
   ·rw[ys,LR];intro q h1 h2;obtain⟨q',h3,h4⟩:=c.ch q h1 h2;exact⟨q',h3,Nat.le_trans h4 (UM q')⟩
   ·rw[ys];exact Nat.le_trans c.bt Xn
   ·rw[ys];by_cases hq:x.s.op=x.h.op
    ·rw[hq,Mp];refine bound _ (fun e he=>c.ek hq.symm e he) (t.r7 i (hq ▸ Ik)) ?_;rw[c.hn,<-hq];exact c.tw
    ·rw[JZ _ hq];exact c.tw
   ·intro q;rw[yP];by_cases hq:q=x.h.op
    ·rw[hq,Mp];exact pl
    ·rw[JZ q hq];exact c.tl q
   ·rw[ys];intro q hq;rw[JZ q (by have:=c.ho;omega)];exact c.tz q hq
   ·rw[JZ 0 (fun z=>h0 z.symm)];exact c.t0
   ·rw[yh,Lr];exact fun z=>absurd z h0
   ·rw[yh,Lr,Mp]
   ·rw[yh,Lr];intro _ q hq;rw[JZ q (by omega)];exact c.hl h0 q hq
   ·rw[yh,Lr];intro e q;rw[yP];exact strict e q
   ·rw[yh];exact a1.hd
   ·rw[yh,Lr,yP];exact a1.hb
   ·rw[yh,ys];have e3:x.s.op+1=x.h.op+1+(x.s.op-x.h.op):=by have:=c.ho;omega
    rw[e3,List.range_add,List.flatMap_append,List.range_succ,List.flatMap_append,a1.hg];have z:((List.range (x.s.op-x.h.op)).map (x.h.op+1+·)).flatMap y.run=[]:=by
     rw[List.flatMap_eq_nil_iff];intro o ho;obtain⟨k,_,rfl⟩:=List.mem_map.mp ho;rw[OK _ (by omega)];unfold Sys.run;rw[c.hl h0 _ (by omega)];simp[FC]
    rw[z,List.append_nil,List.flatMap_cons,List.flatMap_nil,List.append_nil];congr 1
    ·exact iB fun q hq=>(OK q (by have:=List.mem_range.mp hq;omega)).symm
    ·unfold Sys.run;rw[ys,LR,yP,Mp,Lr,show x.P x.h.op=fl x.s.most (x.s.msgs.drop (x.st x.h.op)) from rfl,uA]
   ·rw[yh,Lr,ys];intro q e he;rcases Xm e he with z|z
    ·exact c.ek q e z
    ·rw[z];exact t.r7 i (q ▸ Ik)
  ·refine⟨by rw[yT];exact RG,by rw[yT,ys];exact t1.bd,by rw[yT,ys];exact t1.bo,?_,?_,?_,?_,by rw[yT,ys];exact t1.r3,?_,by rw[yT,ys];exact RH,by rw[yT,ys];exact t1.r7⟩
   ·rw[yT];intro q hq cc h;by_cases z:q=x.h.op
    ·rw[z];exact SI cc h
    ·rw[JZ q z] at hq;exact t1.rt q hq cc h
   ·rw[yT,yh,Lr];intro cc h;have:=SI cc h;omega
   ·rw[yT,yh,Lr];exact fun _ cc h=>SI cc h
   ·rw[yT];intro q j h;rw[yP];exact t1.r2 q j h
   ·rw[yT,yh,Lr,ys];intro j h;obtain⟨z1,z2,z3⟩:=t.r4 j (hm _ h);have z4:=ZF _ h x.h.op i j rfl rfl;refine⟨by omega,bound _ z3 z4 z2,fun e he=>?_⟩;rcases Xm e he with q|q
    ·exact z3 e q
    ·rw[q];exact z4
  ·have MJ:∀k,x.h.op=x.s.op->(k<x.h.nx\/k∈x.h.early.map (·.1))->k≠h'.nx/\(k<h'.nx\/k∈h'.early.map (·.1)):=by
    intro k _ hk;rcases hk with hk|hk
    ·exact⟨by omega,.inl (by omega)⟩
    ·by_cases HA:k<h'.nx
     ·exact⟨by omega,.inl HA⟩
     ·have:=key k hk (by omega);exact⟨fun z=>a3 (z ▸ this),.inr this⟩
   have LS:∀j bs,BC.note x.s.op j bs∈y.B->BC.note x.s.op j bs∈x.B\/(x.h.op=x.s.op/\j=h'.nx/\bs=h'.bits):=by
    intro j bs h;rw[yB] at h;rcases List.mem_append.mp h with h|h
    ·exact .inl h
    ·have:=List.mem_singleton.mp h
     injection this with z1 z2 z3
     exact .inr ⟨z1.symm,z2,z3⟩
   have Xo:∀k,mk h'.nx h'.bits k->k∈h'.early.map (·.1):=by
    rintro k ⟨d,hd,rfl⟩;unfold Hr.bits at hd;rw[List.getElem?_map] at hd;cases e:(List.range h'.w)[d]? with
    |none=>rw[e] at hd;simp at hd
    |some d'=>
     rw[e] at hd;obtain⟨z1,z2⟩:=List.getElem?_eq_some_iff.mp e;rw[List.getElem_range] at z2;subst z2;cases e2:h'.early.lookup (h'.nx+d) with
     |none=>rw[Option.map_some,e2] at hd;simp at hd
     |some q=>exact List.mem_map.mpr ⟨_,kc e2,rfl⟩
   refine⟨?_,?_,?_,?_,?_,?_,?_,?_⟩
   ·rw[yB,ys];intro a ha;rcases List.mem_append.mp ha with ha|ha
    ·exact b.bb a ha
    ·rw[List.mem_singleton.mp ha];exact⟨by show 1<=x.h.op;omega,c.ho⟩
   ·rw[ys];intro j bs h;rcases LS j bs h with h|⟨z1,z2,_⟩
    ·exact⟨(b.bn j bs h).1,Nat.le_trans (b.bn j bs h).2 Xn⟩
    ·subst z2;rw[<-z1,Mp];refine⟨?_,Nat.le_refl _⟩;have h1:=c.bt;have h2:=c.hn;rw[z1] at h2;omega
   ·rw[yB,ys];refine dj b.bp (by simp) fun a ha a' MU j bs j' Kp e1 e2=>?_
    rw[List.mem_singleton.mp MU] at e2
    injection e2 with z1 z2 z3
    subst z2;rw[e1] at ha;have h1:=(b.bn j bs ha).2;have h2:=c.hn;rw[z1] at h2;refine⟨by omega,fun hk=>?_⟩;exact(MJ h'.nx z1 ((b.m1 z1).2 j bs _ ha hk)).1 rfl
   ·rw[yh,Lr,ys];intro q;refine⟨fun k hk=>(MJ k q ((b.m1 q).1 k hk)).2,fun j bs k hj hk=>?_⟩;rcases LS j bs hj with h|⟨_,z2,z3⟩
    ·exact(MJ k q ((b.m1 q).2 j bs k h hk)).2
    ·subst z2 z3;exact .inr (Xo k hk)
   ·rw[ys];intro k hk;refine⟨(b.m2 k hk).1,fun j bs hj=>?_⟩;rcases LS j bs hj with h|⟨z1,z2,_⟩
    ·exact(b.m2 k hk).2 j bs h
    ·rw[z2];exact(MJ k z1 ((b.m1 z1).1 k hk)).1
   ·rw[ys];intro j bs hj;rcases LS j bs hj with h|⟨z1,z2,z3⟩
    ·exact b.m4 j bs h
    ·subst z2 z3;exact fun hk=>a3 (Xo _ hk)
   ·rw[yT,ys];intro q j bs hj;rcases LS j bs hj with h|⟨z1,_,_⟩
    ·exact b1.nh q j bs h
    ·rcases q with q|q
     ·have:=SI _ q;have Pm:(TC.x_ x.s.op).rank=2 * x.s.op:=rfl;rw[Pm] at this;omega
     ·exact NJ q z1
   ·rw[yT,ys];exact b1.nd
  ·rw[LQ,e1];refine pv ys yh ?_ ?_
   ·rw[yT];refine List.map_congr_left fun a _=>?_
    cases a with
    |x_ q=>rfl
    |data q j=>
     show v_.data q (j % (2 * y.s.w)) ((y.P q).getD j (0,[]))=v_.data q (j % (2 * x.s.w)) ((x.P q).getD j (0,[]));rw[ys,yP]
   ·rw[yB,List.map_append];congr 1
    ·refine List.map_congr_left fun a _=>?_
     cases a<;>simp[Sys.cB,ys]
    ·show [v_.note x.h.op (h'.nx % (2 * y.s.w)) h'.bits]=[h'.note];unfold Hr.note;rw[Lr,w',ys]
theorem zx(v:Iv x):∃y:Sys,Iv y/\y.con=x.con.stepT/\y.s=x.s/\y.st=x.st:=by
 cases e:x.T with
 |nil=>
  refine⟨x,v,?_,rfl,rfl⟩;unfold Sys.con Cw.stepT;rw[e];rfl
 |cons a r=>
  cases a with
  |x_ o=>exact Ay v e
  |data o i=>exact BJ v e
end
end Lw
namespace Lw
section
variable{x:Sys}
theorem j8:∀(bs:List Int) (s:Sr) (k:Nat),(s.Fu k bs).w=s.w/\(s.Fu k bs).most=s.most/\(s.Fu k bs).msgs=s.msgs/\(s.Fu k bs).sure=s.sure/\(s.Fu k bs).op=s.op/\(s.Fu k bs).st=s.st/\(s.Fu k bs).ps=s.ps/\(s.Fu k bs).base=s.base/\∀t,t∈(s.Fu k bs).E_->t∈s.E_\/∃i,bs[i]?=some 1/\t=s.base+(k+i)
 |[],s,k=>⟨rfl,rfl,rfl,rfl,rfl,rfl,rfl,rfl,fun t h=>.inl h⟩
 |b :: bs,s,k=>by
  unfold Sr.Fu;by_cases hc:b=1/\s.base+k<s.ps.length/\s.base+k∉s.E_
  ·rw[if_pos hc];obtain⟨h1,h2,h3,h4,h5,h6,h7,h8,h9⟩:=j8 bs { s with E_:=s.E_++[s.base+k] } (k+1);refine⟨h1,h2,h3,h4,h5,h6,h7,h8,fun t ht=>?_⟩;rcases h9 t ht with q|⟨i,q1,q2⟩
   ·have q':t∈s.E_++[s.base+k]:=q;rcases List.mem_append.mp q' with q'|q'
    ·exact .inl q'
    ·exact .inr ⟨0,by simp[hc.1],by have:=List.mem_singleton.mp q';omega⟩
   ·exact .inr ⟨i+1,by simpa using q1,by have:t=s.base+(k+1+i):=q2;omega⟩
  ·rw[if_neg hc];obtain⟨h1,h2,h3,h4,h5,h6,h7,h8,h9⟩:=j8 bs s (k+1);refine⟨h1,h2,h3,h4,h5,h6,h7,h8,fun t ht=>?_⟩;rcases h9 t ht with q|⟨i,q1,q2⟩
   ·exact .inl q
   ·exact .inr ⟨i+1,by simpa using q1,by omega⟩
theorem yw(R:List Pc){b i:Nat}(h:b<=i):FC (R.take b)+FC ((R.take i).drop b)=FC (R.take i):=by
 have:R.take i=R.take b++(R.take i).drop b:=by
  have h2:=(List.take_append_drop b (R.take i)).symm;rw[List.take_take,Nat.min_eq_left h] at h2;exact h2
 rw[this,d5,<-this]
theorem sS(v:Iv x){c:BC}{r:List BC}(hB:x.B=c :: r)(hs:x.s.l_ (x.cB c)=x.s):∃y:Sys,Iv y/\y.con=x.con.Hd:=by
 have bp:=v.b.bp;rw[hB] at bp;refine⟨x.setB r,⟨rW v.c r,sL v.t r,pd v.b (fun a h=>by rw[hB];exact List.mem_cons_of_mem _ h) (List.pairwise_cons.mp bp).2⟩,?_⟩;unfold Sys.con Cw.Hd;rw[hB,List.map_cons];dsimp only;rw[hs];rfl
theorem pQ{c:BC}{r:List BC}(hB:x.B=c :: r):x.con.Hd=⟨x.s.l_ (x.cB c),x.h,x.T.map x.cT,r.map x.cB⟩:=by
 unfold Sys.con Cw.Hd;rw[hB];rfl
theorem wG(v:Iv x){r:List BC}(hB:x.B=.tB x.s.op :: r)(He:x.s.st=.opening):∃y:Sys,Iv y/\y.con=x.con.Hd:=by
 obtain⟨c,t,b⟩:=v;have bp:=b.bp;rw[hB] at bp;have hm:∀a,a∈r->a∈x.B:=fun a h=>by rw[hB];exact List.mem_cons_of_mem _ h
 have IU:x.s.st≠.GJ:=by rw[He];intro z;cases z
 have hs:x.s.l_ (x.cB (.tB x.s.op)) = { x.s with st:=.opened }:=by
  show x.s.l_ (.tB x.s.op)=_;unfold Sr.l_;exact if_pos ⟨rfl,He⟩
 refine⟨{ x with s:={ x.s with st:=.opened },B:=r },⟨?_,?_,?_⟩,?_⟩
 ·exact⟨c.w0,c.ww,fun _=>c.ps IU,(fun q=>by cases q),c.su,c.sl,c.ch,c.s0,c.bt,c.tw,c.tl,c.tz,c.t0,c.ho,c.hz,c.hn,c.hl,c.he,c.hd,c.hb,c.hg,c.ek,c.n0⟩
 ·exact⟨t.so,t.bd,(fun q=>by cases q),t.rt,t.rh,t.re,t.r2,t.r3,t.r4,t.r6,t.r7⟩
 ·refine⟨fun a h=>b.bb a (hm a h),fun j bs h=>b.bn j bs (hm _ h),(List.pairwise_cons.mp bp).2,fun q=>⟨(b.m1 q).1,fun j bs k h=>(b.m1 q).2 j bs k (hm _ h)⟩,fun k hk=>⟨(b.m2 k hk).1,fun j bs h=>(b.m2 k hk).2 j bs (hm _ h)⟩,fun j bs h=>b.m4 j bs (hm _ h),?_,b.nd⟩;intro q j bs h;rcases q with q|q
  ·exact b.nh (.inl q) j bs (hm _ h)
  ·cases q
 ·rw[pQ hB,hs];rfl
theorem DB(v:Iv x){r:List BC}(hB:x.B=.GU x.s.op :: r)(He:x.s.st=.opened):∃y:Sys,Iv y/\y.con=x.con.Hd:=by
 have hs:x.s.l_ (x.cB (.GU x.s.op))=x.s.anew:=by
  show x.s.l_ (.GU x.s.op)=_;unfold Sr.l_;exact if_pos ⟨rfl,He⟩
 have bp:=v.b.bp;rw[hB] at bp;have v1:Iv (x.setB r):=⟨rW v.c r,sL v.t r,pd v.b (fun a h=>by rw[hB];exact List.mem_cons_of_mem _ h) (List.pairwise_cons.mp bp).2⟩;obtain⟨v2,e2⟩:=xH v1;refine⟨(x.setB r).anew,v2,?_⟩;rw[e2,pQ hB,hs];rfl
theorem Cc(v:Iv x){j:Nat}{bs:List Int}{r:List BC}(hB:x.B=.note x.s.op j bs :: r)(He:x.s.st=.opened):∃y:Sys,Iv y/\y.con=x.con.Hd:=by
 obtain⟨c,t,b⟩:=v;have bp:=b.bp;rw[hB] at bp;obtain⟨Xp,ZG⟩:=List.pairwise_cons.mp bp;have hm:∀a,a∈r->a∈x.B:=fun a h=>by rw[hB];exact List.mem_cons_of_mem _ h
 have Ik:BC.note x.s.op j bs∈x.B:=by rw[hB];simp
 have IU:x.s.st≠.GJ:=by rw[He];intro z;cases z
 obtain⟨SA,Lv⟩:=c.ps IU;obtain⟨P6,Rx⟩:=b.bn j bs Ik;have htl:=c.tl x.s.op;have htw:=c.tw;have hw:=c.w0;have hn:jd (((j % (2 * x.s.w):Nat)):Int) (x.s.base:Int) x.s.w=(j:Int):=by
  have:((j % (2 * x.s.w):Nat):Int)=(j:Int) % (2 * (x.s.w:Int)):=by push_cast;rfl
  rw[this];exact uH hw (by omega) (by omega)
 have hs:x.s.l_ (x.cB (.note x.s.op j bs))=(x.s.Hw j).Fu 0 bs:=by
  show x.s.l_ (.note x.s.op (j % (2 * x.s.w)) bs)=_;have h1:x.s.l_ (.note x.s.op (j % (2 * x.s.w)) bs)=x.s.C_ (j % (2 * x.s.w)) bs:=by unfold Sr.l_;exact if_pos ⟨rfl,He⟩
  rw[h1];unfold Sr.C_;rw[if_pos ⟨Nat.mod_lt _ (by omega),by rw[hn,SA];omega⟩,hn,Int.toNat_natCast]
 obtain⟨h1,h2,h3,h4,h5,h6,h7,h8,h9⟩:=j8 bs (x.s.Hw j) 0;obtain⟨s',Nm⟩:∃s',(x.s.Hw j).Fu 0 bs=s':=⟨_,rfl⟩;rw[Nm] at h1 h2 h3 h4 h5 h6 h7 h8 h9 hs;have k1:s'.w=x.s.w:=h1;have k2:s'.most=x.s.most:=h2;have k3:s'.msgs=x.s.msgs:=h3;have k4:s'.sure=x.s.sure+FC ((x.s.ps.take j).drop x.s.base):=h4;have k5:s'.op=x.s.op:=h5;have k6:s'.st=x.s.st:=h6;have k7:s'.ps=x.s.ps:=h7;have k8:s'.base=j:=h8;obtain⟨y,hy⟩:∃y:Sys,y = { x with s:=s',B:=r }:=⟨_,rfl⟩;have ys:y.s=s':=by rw[hy]
 have yh:y.h=x.h:=by rw[hy]
 have yT:y.T=x.T:=by rw[hy]
 have yB:y.B=r:=by rw[hy]
 have LR:y.st=x.st:=by rw[hy]
 have JZ:y.tk=x.tk:=by rw[hy]
 have yP:∀o,y.P o=x.P o:=fun o=>by unfold Sys.P;rw[ys,LR,k2,k3]
 have UM:∀o,y.en o=x.en o:=fun o=>by unfold Sys.en;rw[LR,yP,JZ]
 have OK:y.run=x.run:=by funext o;unfold Sys.run;rw[ys,LR,yP,JZ,k3]
 refine⟨y,⟨?_,?_,?_⟩,?_⟩
 ·refine⟨?_,?_,?_,?_,?_,?_,?_,?_,?_,?_,?_,?_,?_,?_,?_,?_,?_,?_,?_,?_,?_,?_,?_⟩
  ·rw[ys,k1];exact c.w0
  ·rw[ys,yh,k1];exact c.ww
  ·intro q;rw[ys,k7,yP,k5];exact c.ps IU
  ·intro q;rw[ys,k6,He] at q;cases q
  ·rw[ys,k4,k5,k8,LR,yP,c.su,SA,Nat.add_assoc,yw _ P6]
  ·intro o ho;rw[ys,k5] at ho;rw[ys,k3,LR];exact c.sl o ho
  ·intro o h1 h2;rw[ys,k5] at h2;obtain⟨o',q1,q2⟩:=c.ch o h1 h2;exact⟨o',q1,by rw[LR,UM];exact q2⟩
  ·rw[LR];exact c.s0
  ·rw[ys,JZ,k8,k5];exact Rx
  ·rw[ys,JZ,k8,k5,k1];omega
  ·intro o;rw[JZ,yP];exact c.tl o
  ·intro o ho;rw[ys,k5] at ho;rw[JZ];exact c.tz o ho
  ·rw[JZ];exact c.t0
  ·rw[yh,ys,k5];exact c.ho
  ·rw[yh];exact c.hz
  ·rw[yh,JZ];exact c.hn
  ·rw[yh,JZ];exact c.hl
  ·rw[yh,yP];exact c.he
  ·rw[yh];exact c.hd
  ·rw[yh,yP];exact c.hb
  ·rw[yh,ys,k5,OK];exact c.hg
  ·intro q e he;rw[yh,ys,k5] at q;rw[yh] at he;have:=c.ek q e he;rw[ys,k8,k1];omega
  ·intro q;rw[ys,k5] at q;omega
 ·refine⟨?_,?_,?_,?_,?_,?_,?_,?_,?_,?_,?_⟩
  ·rw[yT];exact t.so
  ·rw[yT,ys,k5];exact t.bd
  ·intro q;rw[ys,k6,He] at q;cases q
  ·rw[yT,JZ];exact t.rt
  ·rw[yT,yh];exact t.rh
  ·rw[yT,yh];exact t.re
  ·intro o i h;rw[yT] at h;rw[yP];exact t.r2 o i h
  ·rw[yT,ys,k1];exact t.r3
  ·rw[yT,yh,ys,k1];exact t.r4
  ·rw[yT,ys,k1];exact t.r6
  ·intro i h;rw[yT,ys,k5] at h;have:=t.r7 i h;rw[ys,k8,k1];omega
 ·have new:∀k,k∈s'.E_->k∈x.s.E_\/mk j bs k:=fun k hk=>by
   rcases h9 k hk with q|⟨i,q1,q2⟩
   ·exact .inl q
   ·exact .inr ⟨i,q1,by have:k=j+(0+i):=q2;omega⟩
  refine⟨?_,?_,?_,?_,?_,?_,?_,?_⟩
  ·intro a h;rw[yB] at h;rw[ys,k5];exact b.bb a (hm a h)
  ·intro j' Kp h;rw[yB,ys,k5] at h;rw[ys,k8,JZ,k5];exact⟨(Xp _ h j bs j' Kp rfl rfl).1,(b.bn j' Kp (hm _ h)).2⟩
  ·rw[yB,ys,k5];exact ZG
  ·intro q;rw[yh,ys,k5] at q;obtain⟨q1,q2⟩:=b.m1 q;rw[yB,ys,yh,k5];refine⟨fun k hk=>?_,fun j' Kp k h=>q2 j' Kp k (hm _ h)⟩;rcases new k hk with z|z
   ·exact q1 k z
   ·exact q2 j bs k Ik z
  ·intro k hk;rw[ys] at hk;rw[yB,ys,k8,k5];rcases new k hk with z|z
   ·exact⟨(b.m2 k z).2 j bs Ik,fun j' Kp h=>(b.m2 k z).2 j' Kp (hm _ h)⟩
   ·exact⟨fun e=>b.m4 j bs Ik (e ▸ z),fun j' Kp h e=>(Xp _ h j bs j' Kp rfl rfl).2 (e ▸ z)⟩
  ·intro j' Kp h;rw[yB,ys,k5] at h;exact b.m4 j' Kp (hm _ h)
  ·intro q j' Kp h;rw[yB,ys,k5] at h;rw[yT,ys,k5,k6,He] at q;rcases q with q|q
   ·exact b.nh (.inl q) j' Kp (hm _ h)
   ·cases q
  ·intro q;rw[yT,ys,k5] at q;exact absurd Ik (b.nh (.inl q) j bs)
 ·rw[pQ hB,hs];refine pv ys yh ?_ ?_
  ·rw[yT];refine List.map_congr_left fun a _=>?_
   cases a with
   |x_ q=>rfl
   |data q i=>
    show v_.data q (i % (2 * y.s.w)) ((y.P q).getD i (0,[]))=v_.data q (i % (2 * x.s.w)) ((x.P q).getD i (0,[]));rw[ys,yP,k1]
  ·rw[yB];refine List.map_congr_left fun a _=>?_
   cases a<;>simp[Sys.cB,ys,k1]
theorem Az(v:Iv x):∃y:Sys,Iv y/\y.con=x.con.Hd:=by
 cases e:x.B with
 |nil=>
  refine⟨x,v,?_⟩;unfold Sys.con Cw.Hd;rw[e];rfl
 |cons a r=>
  cases a with
  |tB o=>
   by_cases hc:o=x.s.op/\x.s.st=.opening
   ·obtain⟨rfl,He⟩:=hc;exact wG v e He
   ·exact sS v e (by show x.s.l_ (.tB o)=_;unfold Sr.l_;exact if_neg hc)
  |GU o=>
   by_cases hc:o=x.s.op/\x.s.st=.opened
   ·obtain⟨rfl,He⟩:=hc;exact DB v e He
   ·exact sS v e (by show x.s.l_ (.GU o)=_;unfold Sr.l_;exact if_neg hc)
  |note o j bs=>
   by_cases hc:o=x.s.op/\x.s.st=.opened
   ·obtain⟨rfl,He⟩:=hc;exact Cc v e He
   ·exact sS v e (by show x.s.l_ (.note o (j % (2 * x.s.w)) bs)=_;unfold Sr.l_;exact if_neg hc)
def Sys.start(x:Sys):Sys:=if x.s.st=.GJ then x.anew else x
theorem vG(v:Iv x):Iv x.start/\x.start.con = { x.con with s:=x.s.start }:=by
 unfold Sys.start Sr.start;by_cases h:x.s.st=.GJ
 ·rw[if_pos h,if_pos h];exact xH v
 ·rw[if_neg h,if_neg h];exact⟨v,rfl⟩
end
end Lw
namespace Lw
def bN(l:List En):List v_:=l.filterMap fun e=>match e.x with
 |none=>some e.c
 |some _=>none
def WW.con(w:WW):Cw:=⟨w.s,w.h,bN w.T,bN w.B⟩
theorem my(a b:List En):bN (a++b)=bN a++bN b:=by simp[bN]
theorem vK(cs:List v_):bN (cs.map gd)=cs:=by
 unfold bN;rw[List.filterMap_map]
 induction cs with
 |nil=>rfl
 |cons c cs ih=>rw[List.filterMap_cons];simp only[Function.comp_def,gd] at ih ⊢;rw[ih]
theorem eQ{c:v_}{l:List En}:bN (⟨c,none⟩ :: l)=c :: bN l:=rfl
theorem ib{c:v_}{xs:List Int}{l:List En}:bN (⟨c,some xs⟩ :: l)=bN l:=rfl
theorem iR:∀(l:List En) (k:Nat),bN (l.eraseIdx k)=bN l\/∃j,bN (l.eraseIdx k)=(bN l).eraseIdx j
 |[],k=>.inl rfl
 |⟨c,none⟩ :: l,0=>.inr ⟨0,rfl⟩
 |⟨c,some xs⟩ :: l,0=>.inl rfl
 |⟨c,none⟩ :: l,k+1=>by
  rw[List.eraseIdx_cons_succ,eQ,eQ];rcases iR l k with h|⟨j,h⟩
  ·exact .inl (by rw[h])
  ·exact .inr ⟨j+1,by rw[h];rfl⟩
 |⟨c,some xs⟩ :: l,k+1=>by
  rw[List.eraseIdx_cons_succ,ib,ib];exact iR l k
theorem sg(e:En)(l:List En)(k:Nat):nZ (e :: l) (k+1)=e :: nZ l k:=by
 unfold nZ;rw[List.getElem?_cons_succ];cases l[k]? with
 |none=>rfl
 |some x=>rfl
theorem kX:∀(l:List En) (k:Nat),bN (nZ l k)=bN l\/∃j,bN (nZ l k)=dup (bN l) j
 |[],k=>.inl rfl
 |⟨c,none⟩ :: l,0=>.inr ⟨0,rfl⟩
 |⟨c,some xs⟩ :: l,0=>.inl rfl
 |⟨c,none⟩ :: l,k+1=>by
  rw[sg,eQ,eQ];rcases kX l k with h|⟨j,h⟩
  ·exact .inl (by rw[h])
  ·exact .inr ⟨j+1,by rw[h];rfl⟩
 |⟨c,some xs⟩ :: l,k+1=>by
  rw[sg,ib,ib];exact kX l k
theorem n9(e:En)(l:List En)(k p:Nat)(b:Int):gG (e :: l) (k+1) p b=e :: gG l k p b:=by
 unfold gG;rw[List.getElem?_cons_succ];cases l[k]? with
 |none=>rfl
 |some x=>rfl
theorem iT(p:Nat)(b:Int):∀(l:List En) (k:Nat),bN (gG l k p b)=bN l\/∃j,bN (gG l k p b)=(bN l).eraseIdx j
 |[],k=>.inl rfl
 |⟨c,none⟩ :: l,0=>by
  show bN (eJ ⟨c,none⟩ p b :: l)=_\/∃j,bN (eJ ⟨c,none⟩ p b :: l)=_;unfold eJ;dsimp only;split
  ·exact .inl rfl
  ·exact .inr ⟨0,rfl⟩
 |⟨c,some xs⟩ :: l,0=>.inl rfl
 |⟨c,none⟩ :: l,k+1=>by
  rw[n9,eQ,eQ];rcases iT p b l k with h|⟨j,h⟩
  ·exact .inl (by rw[h])
  ·exact .inr ⟨j+1,by rw[h];rfl⟩
 |⟨c,some xs⟩ :: l,k+1=>by
  rw[n9,ib,ib];exact iT p b l k
inductive CS:Bool->Cw->Cw->Prop
 |same {f:Bool}(c:Cw):CS f c c
 |hand {f:Bool}(c:Cw) (m:GL):CS f c { c with s:=c.s.hand m }
 |start {f:Bool}(c:Cw):CS f c { c with s:=c.s.start }
 |tick {f:Bool}(c:Cw):CS f c { c with T:=c.T++c.s.tick }
 |stepT {f:Bool}(c:Cw):CS f c c.stepT
 |Hd {f:Bool}(c:Cw):CS f c c.Hd
 |NK {f:Bool}(c:Cw) (k:Nat):CS f c { c with T:=c.T.eraseIdx k }
 |NL {f:Bool}(c:Cw) (k:Nat):CS f c { c with B:=c.B.eraseIdx k }
 |RK {f:Bool}(c:Cw) (k:Nat):CS f c { c with T:=dup c.T k }
 |RL {f:Bool}(c:Cw) (k:Nat):CS f c { c with B:=dup c.B k }
 |LP (c:Cw):CS true c { c with s:=c.s.Ge }
 |JP (c:Cw):CS true c { c with h:=c.h.Ge }
theorem jz{w:WW}{l:List En}{g:List v_}(h:bN l=g):(w.FX true l).con = { w.con with T:=g }:=by subst h;rfl
theorem jK{w:WW}{l:List En}{g:List v_}(h:bN l=g):(w.FX false l).con = { w.con with B:=g }:=by subst h;rfl
theorem zr(w:WW)(r:Bool)(f:Bool):CS f w.con (w.step r).con:=by
 unfold WW.step;cases r with
 |true=>
  cases hT:w.T with
  |nil=>
   have:w.road true=[]:=hT;rw[this];exact .same _
  |cons e l=>
   have hr:w.road true=e :: l:=hT;rw[hr];obtain⟨c,x⟩:=e;cases x with
   |some xs=>
    have:((w.FX true l).GK true ⟨c,some xs⟩).con=w.con:=by
     show(⟨w.s,w.h,bN l,bN w.B⟩:Cw)=⟨w.s,w.h,bN w.T,bN w.B⟩;rw[hT];rfl
    dsimp only;rw[this];exact .same _
   |none=>
    have:((w.FX true l).GK true ⟨c,none⟩).con=w.con.stepT:=by
     have ht:w.con.T=c :: bN l:=by show bN w.T=_;rw[hT];rfl
     unfold Cw.stepT;rw[ht];show(⟨w.s,(w.h.l_ c).1,bN l,bN (w.B++(w.h.l_ c).2.map gd)⟩:Cw)=_;rw[my,vK];rfl
    dsimp only;rw[this];exact .stepT _
 |false=>
  cases hB:w.B with
  |nil=>
   have:w.road false=[]:=hB;rw[this];exact .same _
  |cons e l=>
   have hr:w.road false=e :: l:=hB;rw[hr];obtain⟨c,x⟩:=e;cases x with
   |some xs=>
    have:((w.FX false l).GK false ⟨c,some xs⟩).con=w.con:=by
     show(⟨w.s,w.h,bN w.T,bN l⟩:Cw)=⟨w.s,w.h,bN w.T,bN w.B⟩;rw[hB];rfl
    dsimp only;rw[this];exact .same _
   |none=>
    have:((w.FX false l).GK false ⟨c,none⟩).con=w.con.Hd:=by
     have ht:w.con.B=c :: bN l:=by show bN w.B=_;rw[hB];rfl
     unfold Cw.Hd;rw[ht];rfl
    dsimp only;rw[this];exact .Hd _
def Act.falls:Act->Bool
 |.Ge _=>true
 |_=>false
theorem Bo(w:WW)(t:Act)(f:Bool)(hf:t.falls=true->f=true):CS f w.con (w.act t).con:=by
 cases t with
 |hand m=>exact .hand w.con m
 |start=>exact .start w.con
 |tick=>
  have:(w.act .tick).con = { w.con with T:=w.con.T++w.con.s.tick }:=by
   show(⟨w.s,w.h,bN (w.T++w.s.tick.map gd),bN w.B⟩:Cw)=_;rw[my,vK];rfl
  rw[this];exact .tick _
 |step r=>exact zr w r f
 |Mo r k=>
  cases r with
  |true=>
   show CS f w.con (w.FX true (w.T.eraseIdx k)).con;rcases iR w.T k with h|⟨j,h⟩
   ·rw[jz h];exact .same _
   ·rw[jz h];exact .NK _ j
  |false=>
   show CS f w.con (w.FX false (w.B.eraseIdx k)).con;rcases iR w.B k with h|⟨j,h⟩
   ·rw[jK h];exact .same _
   ·rw[jK h];exact .NL _ j
 |dbl r k=>
  cases r with
  |true=>
   show CS f w.con (w.FX true (nZ w.T k)).con;rcases kX w.T k with h|⟨j,h⟩
   ·rw[jz h];exact .same _
   ·rw[jz h];exact .RK _ j
  |false=>
   show CS f w.con (w.FX false (nZ w.B k)).con;rcases kX w.B k with h|⟨j,h⟩
   ·rw[jK h];exact .same _
   ·rw[jK h];exact .RL _ j
 |Jb r k p b=>
  cases r with
  |true=>
   show CS f w.con (w.FX true (gG w.T k p b)).con;rcases iT p b w.T k with h|⟨j,h⟩
   ·rw[jz h];exact .same _
   ·rw[jz h];exact .NK _ j
  |false=>
   show CS f w.con (w.FX false (gG w.B k p b)).con;rcases iT p b w.B k with h|⟨j,h⟩
   ·rw[jK h];exact .same _
   ·rw[jK h];exact .NL _ j
 |Ge r=>
  have:f=true:=hf rfl;subst this;cases r with
  |true=>exact .LP w.con
  |false=>exact .JP w.con
def Gd(c:Cw):Prop:=∃x:Sys,Iv x/\x.con=c
theorem DE{a b:Nat}(h:0<a):Gd (WW.new a b).con:=⟨Sys.new a b,Cv h,rfl⟩
theorem DN{f:Bool}{c c':Cw}(g:Gd c)(h:CS f c c'):Gd c':=by
 obtain⟨x,v,rfl⟩:=g;cases h with
 |same=>exact⟨x,v,rfl⟩
 |hand _ m=>exact⟨_,(xz v m).1,(xz v m).2⟩
 |start=>exact⟨_,(vG v).1,(vG v).2⟩
 |tick=>exact⟨_,(w6 v).1,(w6 v).2⟩
 |stepT=>obtain⟨y,h1,h2,_⟩:=zx v;exact⟨y,h1,h2⟩
 |Hd=>obtain⟨y,h1,h2⟩:=Az v;exact⟨y,h1,h2⟩
 |NK _ k=>exact⟨_,(uz v k).1,(uz v k).2⟩
 |NL _ k=>exact⟨_,(vj v k).1,(vj v k).2⟩
 |RK _ k=>exact⟨_,(xq v k).1,(xq v k).2⟩
 |RL _ k=>exact⟨_,(xh v k).1,(xh v k).2⟩
 |LP=>exact⟨_,(vq v).1,(vq v).2⟩
 |JP=>exact⟨_,(uO v).1,(uO v).2⟩
end Lw
namespace Lw
open PySem L2 DL
section
variable{G:Cs}{S:List Cell}{a:Ad}{w:WW}
def w9(l:List En):List D:=l.map fun e=>.tup (e.xs.map D.int)
theorem xp(A:G5 G S a w):aO G [.ob a.n,.str "sender"] S=.ok (.int (w.s.op:Int)) S:=by
 show fin S (cC G [some (.ob a.n),some (.str "sender")] S)=_;unfold cC;rw[aR (d:=.int (w.s.op:Int)) (S1:=S)]
 ·rfl
 ·rw[zE,av,az (ar rfl rfl (bg (c:=true)))];exact bX (bX rfl A.ob rfl) A.sr.ob rfl
theorem AL(A:G5 G S a w):aO G [.ob a.n,.str "hearer"] S=.ok (.int (w.h.op:Int)) S:=by
 show fin S (cC G [some (.ob a.n),some (.str "hearer")] S)=_;unfold cC;rw[aR (d:=.int (w.h.op:Int)) (S1:=S)]
 ·rfl
 ·rw[zE,av,az (ar rfl rfl (bg (c:=false)))];exact bX (bX rfl A.ob rfl) A.hr.ob rfl
theorem AW(A:G5 G S a w)(r:Bool)(hz:(w.road r).length<=1000000):dz G [.ob a.n,.str (bj r)] S=.ok (.tup (w9 (w.road r))) (S++[.lst (w9 (w.road r))]):=by
 show fin S (fF G [some (.ob a.n),some (.str (bj r))] S)=_;unfold fF;have w1:HM (f_ gq (aB G.World m_ 2 (aa 0)) (aa 1)) [some (.ob a.n),some (.str (bj r))] S=.ok ⟨(w.road r).map Jc,some (a.rn r,(w.road r).map Jc)⟩ S:=by
  rw[lF,av,oj A r []];show kG (.ob (a.rn r)) S=_;simp only[kG,A.cell r]
 have q1:=iQ (f:=HM (f_ gq (aB G.World m_ 2 (aa 0)) (aa 1))) (tg:=gN 0) (ti:=gy) (fe:=f_ t_ (aa 0) (dC (.int 0))) (own:=1) (caps:=[])
  (fun _=>true) (fun x=>match x with
   |.tup (y :: _)=>y
   |_=>.D_) w1 (A.cell r) (by rw[List.length_map];exact hz) (by
   intro x hx;obtain⟨e,_,rfl⟩:=List.mem_map.mp hx;exact⟨[some (Jc e)],rfl,fun _=>rfl,fun _ zs=>ar rfl rfl (aN (i:=0) rfl)⟩)
 have hq:(((w.road r).map Jc).filter fun _=>true).map (fun x=>match x with
   |.tup (y :: _)=>y
   |_=>D.D_)=w9 (w.road r):=by
  rw[List.filter_eq_self.mpr (by simp),List.map_map];rfl
 rw[hq] at q1;rw[aR (ax (ag q1 aj) (fP bE))];rfl
end
end Lw
namespace Lw
open PySem L2 DL
section
variable{S S' S1 S2:List Cell}
theorem zF{α:Type}{p q:α->D}{tg:Kd}{fe:s_->M D}{r0:s_}{g:Option (Nat×List D)}(hg:IX g S):∀(l:List α) (ys:List D),ys.length+l.length<=1000000->
  (∀m,m∈l->∃r1,tg (p m) r0=some r1/\∀zs,fe r1 (S++[.lst zs])=.ok (q m) (S++[.lst zs]))->
  dL tg gy fe S.length g r0 (l.map p) (S++[.lst ys])=.ok () (S++[.lst (ys++l.map q)])
 |[],ys,_,_=>by
  rw[List.map_nil,List.map_nil,List.append_nil];rfl
 |m :: l,ys,hz,hx=>by
  rw[List.length_cons] at hz;obtain⟨r1,t1,t2⟩:=hx m List.mem_cons_self;have Jf:(S++[Cell.lst ys]).set S.length (.lst (ys++[q m]))=S++[.lst (ys++[q m])]:=by
   rw[List.set_append_right _ _ (Nat.le_refl _)];simp
  have Si:IX g (S++[Cell.lst (ys++[q m])]):=by
   cases g with
   |none=>trivial
   |some p=>exact aC hg
  have ih:=zF hg l (ys++[q m]) (by rw[List.length_append,List.length_singleton];omega) (fun y hy=>hx y (List.mem_cons_of_mem _ hy));rw[List.map_cons];unfold dL;rw[t1];dsimp only;show(match fe r1 (S++[Cell.lst ys]) with
   |.ok d S2=>(match S2[S.length]? with
    |some (.lst ys)=>Hq (ys.length<sizeLine/\IX g (S2.set S.length (.lst (ys++[d])))) (dL tg gy fe S.length g r0 (l.map p) (S2.set S.length (.lst (ys++[d])))) .bad
    |_=>.bad)
   |_=>.bad)=_
  rw[t2];dsimp only;rw[bE];dsimp only;rw[Jf,bW ⟨Nr (by omega),Si⟩,ih,List.append_assoc];rfl
theorem qd{α:Type}{p q:α->D}{f:s_->M Wk}{tg:Kd}{fe:s_->M D}{own:Nat}{caps:List Nat}{r:s_}{g:Option (Nat×List D)}{l:List α}(h1:f r S=.ok ⟨l.map p,g⟩ S1)(hg:IX g S1)(hz:l.length<=1000000)
  (hx:∀m,m∈l->∃r1,tg (p m) (gO own caps r)=some r1/\∀zs,fe r1 (S1++[.lst zs])=.ok (q m) (S1++[.lst zs])):dH f tg gy fe own caps r S=.ok (.ob S1.length) (S1++[.lst (l.map q)]):=by
 unfold dH;rw[av,h1];dsimp only;rw[zF hg l [] (by simpa using hz) hx];rfl
theorem vV{r:s_}{i n:Nat}{xs:List D}(h:aa i r S=.ok (.ob n) S)(hn:S[n]?=some (.lst xs)):HM (aa i) r S=.ok ⟨xs,some (n,xs)⟩ S:=by
 rw[lF,av,h];show kG (.ob n) S=_;simp only[kG,hn]
theorem vN{t u:s_->M Bool}{r:s_}{b:Bool}(h1:t r S=.ok false S1)(h2:u r S1=.ok b S2):G8 t u r S=.ok b S2:=by
 simp[h1,h2]
end
end Lw
namespace Lw
open PySem L2 DL
def UN(w q:Nat):v_->Prop
 |.x_ _=>True
 |.data _ n p=>n<2 * w/\p.2.length<=q
 |_=>False
def RM(w:Nat):v_->Prop
 |.tB _=>True
 |.GU _=>True
 |.note _ n bs=>n<2 * w/\bs.length=w
 |_=>False
structure Rd(a q:Nat)(w:WW):Prop where
 sw:w.s.w=a
 hw:w.h.w=a
 mo:w.s.most=q
 nT:∀e,e∈w.T->e.x=none/\UN a q e.c
 nB:∀e,e∈w.B->e.x=none/\RM a e.c
 ps:∀p,p∈w.s.ps->p.2.length<=q
theorem CM(a q:Nat):Rd a q (WW.new a q):=⟨rfl,rfl,rfl,(fun _ z=>nomatch z),(fun _ z=>nomatch z),(fun _ z=>nomatch z)⟩
theorem ur{q:Nat}(hq:1<=q){ms:List GL}(hm:∀m,m∈ms->m.length<=40):∀p,p∈ms.flatMap (eP q)->p.2.length<=q:=fun p hp=>by
 obtain⟨m,h1,h2⟩:=List.mem_flatMap.mp hp;have:=hm m h1;exact(kf 100 m (by omega) hq p h2).1
theorem BK(s:Sr):s.anew.ps=(s.msgs.drop s.sure).flatMap (eP s.most)/\s.anew.w=s.w/\s.anew.most=s.most:=⟨rfl,rfl,rfl⟩
theorem Af{a q:Nat}(hq:1<=q){s:Sr}(hw:s.w=a)(hm:s.most=q)(OB:∀m,m∈s.msgs->m.length<=40)(hp:∀p,p∈s.ps->p.2.length<=q)(c:v_):(s.l_ c).w=a/\(s.l_ c).most=q/\∀p,p∈(s.l_ c).ps->p.2.length<=q:=by
 have ZH:s.anew.w=a/\s.anew.most=q/\∀p,p∈s.anew.ps->p.2.length<=q:=⟨hw,hm,fun p hz=>by
  rw[(BK s).1,hm] at hz;exact ur hq (fun m UO=>OB m (List.mem_of_mem_drop UO)) p hz⟩
 cases c with
 |tB o=>dsimp only[Sr.l_];split<;>exact⟨hw,hm,hp⟩
 |GU o=>
  dsimp only[Sr.l_];split
  ·exact ZH
  ·exact⟨hw,hm,hp⟩
 |note o n bs=>
  dsimp only[Sr.l_];split
  ·unfold Sr.C_;split
   ·obtain⟨h1,h2,_,_,_,_,h7,_⟩:=j8 bs (s.Hw (jd n s.base s.w).toNat) 0;exact⟨h1.trans hw,h2.trans hm,by rw[h7];exact hp⟩
   ·exact⟨hw,hm,hp⟩
  ·exact⟨hw,hm,hp⟩
 |x_ o=>exact⟨hw,hm,hp⟩
 |data o n p=>exact⟨hw,hm,hp⟩
theorem By(h:Hr)(p:Pc):(h.take p).w=h.w:=by unfold Hr.take;split<;>rfl
theorem qj:∀(n:Nat) (h:Hr),(h.Fh n).w=h.w
 |0,h=>rfl
 |n+1,h=>by
  unfold Hr.Fh;split
  ·rfl
  ·rename_i p _;show((h.pop.take p).Fh n).w=h.w;rw[qj n,By];rfl
theorem xP(h:Hr)(n:Nat)(p:Pc):(h.data n p).w=h.w:=by
 unfold Hr.data;rw[qj];unfold Hr.keep;split<;>rfl
theorem tX{h:Hr}{a:Nat}(ha:0<a)(hw:h.w=a):RM a h.note:=by
 unfold Hr.note;refine⟨by rw[hw];exact Nat.mod_lt _ (by omega),?_⟩;unfold Hr.bits;rw[List.length_map,List.length_range,hw]
theorem yc{a:Nat}(ha:0<a){h:Hr}(hw:h.w=a)(c:v_):(h.l_ c).1.w=a/\∀d,d∈(h.l_ c).2->RM a d:=by
 cases c with
 |x_ o=>
  unfold Hr.l_;dsimp only;split
  ·exact⟨hw,fun d z=>nomatch z⟩
  ·split
   ·exact⟨hw,fun d z=>by rw[List.mem_singleton.mp z];trivial⟩
   ·exact⟨hw,fun d z=>by rw[List.mem_singleton.mp z];trivial⟩
 |data o n p=>
  unfold Hr.l_;dsimp only;split
  ·exact⟨hw,fun d z=>nomatch z⟩
  ·split
   ·exact⟨hw,fun d z=>by rw[List.mem_singleton.mp z];trivial⟩
   ·exact⟨(xP h n p).trans hw,fun d z=>by rw[List.mem_singleton.mp z];exact tX ha ((xP h n p).trans hw)⟩
 |tB o=>exact⟨hw,fun d z=>nomatch z⟩
 |GU o=>exact⟨hw,fun d z=>nomatch z⟩
 |note o n bs=>exact⟨hw,fun d z=>nomatch z⟩
theorem Dx{a q:Nat}(ha:0<a)(hq:1<=q){w:WW}(r:Rd a q w)(OB:∀m,m∈w.s.msgs->m.length<=40)(t:Act)(ht:∀b k p d,t≠.Jb b k p d)(hm:∀m,t=.hand m->m.length<=40):Rd a q (w.act t):=by
 have Qb:∀(b:Bool) (l:List En),(∀e,e∈l->e∈w.road b)->Rd a q (w.FX b l):=fun b l h=>by
  cases b with
  |true=>exact⟨r.sw,r.hw,r.mo,fun e he=>r.nT e (h e he),r.nB,r.ps⟩
  |false=>exact⟨r.sw,r.hw,r.mo,r.nT,fun e he=>r.nB e (h e he),r.ps⟩
 cases t with
 |hand m=>
  refine⟨r.sw,r.hw,r.mo,r.nT,r.nB,fun p hp=>?_⟩;have hp':p∈(if w.s.st=.GJ then w.s.ps else w.s.ps++eP w.s.most m):=hp;split at hp'
  ·exact r.ps p hp'
  ·rcases List.mem_append.mp hp' with z|z
   ·exact r.ps p z
   ·rw[r.mo] at z;have:=hm m rfl;exact(kf 100 m (by omega) hq p z).1
 |start=>
  have:w.s.start=w.s\/w.s.start=w.s.anew:=by unfold Sr.start;split<;>simp
  rcases this with z|z
  ·show Rd a q { w with s:=w.s.start };rw[z];exact r
  ·show Rd a q { w with s:=w.s.start };rw[z];refine⟨r.sw,r.hw,r.mo,r.nT,r.nB,fun p hp=>?_⟩;have hp':p∈(w.s.msgs.drop w.s.sure).flatMap (eP w.s.most):=hp;rw[r.mo] at hp';exact ur hq (fun m UO=>OB m (List.mem_of_mem_drop UO)) p hp'
 |tick=>
  refine⟨r.sw,r.hw,r.mo,fun e he=>?_,r.nB,r.ps⟩;rcases List.mem_append.mp (show e∈w.T++w.s.tick.map gd from he) with z|z
  ·exact r.nT e z
  ·obtain⟨c,hc,rfl⟩:=List.mem_map.mp z;refine⟨rfl,?_⟩;unfold Sr.tick at hc;split at hc
   ·cases hc
   ·rw[List.mem_singleton.mp hc];trivial
   ·obtain⟨i,_,rfl⟩:=List.mem_map.mp hc;refine⟨by rw[r.sw];exact Nat.mod_lt _ (by omega),?_⟩;rw[List.getD_eq_getElem?_getD];cases hg:w.s.ps[i]? with
    |none=>exact Nat.zero_le _
    |some p=>exact r.ps p (List.mem_of_getElem? hg)
 |step b=>
  show Rd a q (w.step b);unfold WW.step;cases hr:w.road b with
  |nil=>exact r
  |cons e l=>
   have r1:=Qb b l (fun x hx=>by rw[hr];exact List.mem_cons_of_mem _ hx);have hs:(w.FX b l).s=w.s:=by cases b<;>rfl
   show Rd a q ((w.FX b l).GK b e);unfold WW.GK;cases e.x with
   |some _=>exact r1
   |none=>
    cases b with
    |true=>
     obtain⟨k1,k2⟩:=yc ha r1.hw e.c;refine⟨r1.sw,k1,r1.mo,r1.nT,fun d hd=>?_,r1.ps⟩;rcases List.mem_append.mp hd with z|z
     ·exact r1.nB d z
     ·obtain⟨c,hc,rfl⟩:=List.mem_map.mp z;exact⟨rfl,k2 c hc⟩
    |false=>
     obtain⟨k1,k2,k3⟩:=Af hq r.sw r.mo OB r.ps e.c;exact⟨k1,r1.hw,k2,r1.nT,r1.nB,k3⟩
 |Mo b k=>exact Qb b _ (fun e he=>List.mem_of_mem_eraseIdx he)
 |dbl b k=>
  refine Qb b _ (fun e he=>?_);unfold nZ at he;split at he
  ·rename_i e' h';rcases ig he with rfl|he
   ·exact List.mem_of_getElem? h'
   ·exact he
  ·exact he
 |Jb b k p d=>exact absurd rfl (ht b k p d)
 |Ge b=>cases b<;>exact⟨r.sw,r.hw,r.mo,r.nT,r.nB,r.ps⟩
theorem sj{l:List En}(h:∀e,e∈l->e.x=none):bN l=l.map (·.c):=by
 induction l with
 |nil=>rfl
 |cons e l ih=>
  obtain⟨c,x⟩:=e;have hx:x=none:=h ⟨c,x⟩ List.mem_cons_self;subst hx;rw[eQ,ih fun e he=>h e (List.mem_cons_of_mem _ he)];rfl
theorem pC{a q:Nat}{w:WW}(r:Rd a q w)(g:Gd w.con):((w.T.map (·.c)).map v_.FA).Pairwise (·<=·)/\(∀e,e∈w.T->1<=e.c.FA/\e.c.FA<=w.s.op)/\(∀e,e∈w.B->1<=e.c.FA/\e.c.FA<=w.s.op)/\w.h.op<=w.s.op:=by
 obtain⟨x,v,e⟩:=g;have e1:x.s=w.s:=congrArg Cw.s e;have e2:x.h=w.h:=congrArg Cw.h e;have e3:x.T.map x.cT=w.T.map (·.c):=(congrArg Cw.T e).trans (sj fun e he=>(r.nT e he).1);have e4:x.B.map x.cB=w.B.map (·.c):=(congrArg Cw.B e).trans (sj fun e he=>(r.nB e he).1);have oT:∀t:TC,(x.cT t).FA=t.op:=fun t=>by cases t<;>rfl
 have oB:∀t:BC,(x.cB t).FA=t.op:=fun t=>by cases t<;>rfl
 have rk:∀t:TC,t.rank=2 * t.op\/t.rank=2 * t.op+1:=fun t=>by cases t with
  |x_ o=>exact .inl rfl
  |data o i=>exact .inr rfl
 refine⟨?_,fun en he=>?_,fun en he=>?_,by rw[<-e1,<-e2];exact v.c.ho⟩
 ·rw[<-e3,List.map_map,List.pairwise_map];refine v.t.so.imp fun {p q} h=>?_
  show(x.cT p).FA<=(x.cT q).FA;rw[oT,oT];have h1:=rk p;have h2:=rk q;omega
 ·have hm:en.c∈x.T.map x.cT:=by rw[e3];exact List.mem_map.mpr ⟨en,he,rfl⟩
  obtain⟨t,ht,hc⟩:=List.mem_map.mp hm;have:=v.t.bd t ht;rw[<-hc,oT,<-e1];have h1:=rk t;omega
 ·have hm:en.c∈x.B.map x.cB:=by rw[e4];exact List.mem_map.mpr ⟨en,he,rfl⟩
  obtain⟨t,ht,hc⟩:=List.mem_map.mp hm;rw[<-hc,oB,<-e1];exact v.b.bb t ht
end Lw
namespace Lw
open PySem L2 DL
section
variable{G:Cs}{S S' S1 S2:List Cell}{a a' a1 a2:Ad}{w w' w1 w2:WW}{N:Nat}
def qJ(r:Bool):List D:=if r then [.str "hello",.str "data"] else [.str "welcome",.str "who",.str "note"]
def SJ(r:Bool)(c:v_):Prop:=if r then c.ki=0\/c.ki=3 else c.ki=1\/c.ki=2\/c.ki=4
theorem z6{r:Bool}{c:v_}(h:SJ r c){l:Nat}(hl:S[l]?=some (.lst (qJ r))):inD (.str c.kn) (.ob l) S=.ok (.bl true) S:=by
 have e:fM S (.ob l)=some (qJ r):=by
  show cz S l=_;exact bS hl
 cases r with
 |true=>
  have h1:Jk (.str "hello") [.str "hello",.str "data"]=true:=by decide +kernel
  have h2:Jk (.str "data") [.str "hello",.str "data"]=true:=by decide +kernel
  have e':inD (.str c.kn) (.ob l) S=.ok (.bl (Jk (.str c.kn) [.str "hello",.str "data"])) S:=by
   simp only[inD,e];rfl
  rw[e'];cases c with
  |x_ o=>show R.ok (D.bl (Jk (.str "hello") [.str "hello",.str "data"])) S=_;rw[h1]
  |data o n p=>show R.ok (D.bl (Jk (.str "data") [.str "hello",.str "data"])) S=_;rw[h2]
  |_=>exact absurd h (by unfold SJ;simp[v_.ki])
 |false=>
  have h1:Jk (.str "welcome") [.str "welcome",.str "who",.str "note"]=true:=by decide +kernel
  have h2:Jk (.str "who") [.str "welcome",.str "who",.str "note"]=true:=by decide +kernel
  have h3:Jk (.str "note") [.str "welcome",.str "who",.str "note"]=true:=by decide +kernel
  have e':inD (.str c.kn) (.ob l) S=.ok (.bl (Jk (.str c.kn) [.str "welcome",.str "who",.str "note"])) S:=by
   simp only[inD,e];rfl
  rw[e'];cases c with
  |tB o=>show R.ok (D.bl (Jk (.str "welcome") [.str "welcome",.str "who",.str "note"])) S=_;rw[h1]
  |GU o=>show R.ok (D.bl (Jk (.str "who") [.str "welcome",.str "who",.str "note"])) S=_;rw[h2]
  |note o n bs=>show R.ok (D.bl (Jk (.str "note") [.str "welcome",.str "who",.str "note"])) S=_;rw[h3]
  |_=>exact absurd h (by unfold SJ;simp[v_.ki])
structure Qc(w:WW)(r:Bool)(e:En):Prop where
 x:e.x=none
 ok:Jp e.c
 kd:SJ r e.c
 lo:1<=e.c.FA
 hi:e.c.FA<=w.s.op
theorem ui(A:G5 G S a w)(r:Bool){kl:Nat}(hk:S[kl]?=some (.lst (qJ r)))(hz:(w.road r).length<=1000000)(hf:∀e,e∈w.road r->Qc w r e) :
  ∃S' l,dh G [.ob a.n,.str (bj r),.ob kl] S=.ok (.ob l) S'/\S'[l]?=some (.lst (((w.road r).map (·.c)).map k_))/\Fr [] S S'/\S.length<=l:=by
 show ∃S' l,fin S (jr G [some (.ob a.n),some (.str (bj r)),some (.ob kl),none] S)=_/\_;unfold jr;have o1:=AW A r hz;obtain⟨S1,Lu⟩:∃S1,S++[Cell.lst (w9 (w.road r))]=S1:=⟨_,rfl⟩;rw[Lu] at o1;have A1:G5 G S1 a w:=by rw[<-Lu];exact A.push _
 have QG:S1[kl]?=some (.lst (qJ r)):=by rw[<-Lu];exact aC hk
 have w1:HM (bc G.World m_ (dz G) (aa 0) (ac (aa 1) ai)) [some (.ob a.n),some (.str (bj r)),some (.ob kl),none] S=.ok ⟨(w.road r).map (fun e=>.tup (e.xs.map D.int)),none⟩ S1:=by
  rw[lF,av,aZ rfl A.ob (ag rfl aj) o1];rfl
 have c1:=qd (q:=fun e:En=>k_ e.c) (tg:=gN 0) (fe:=am (iH G) (ac (aa 0) ai)) (own:=1) (caps:=[]) w1 trivial hz (by
  intro e he;refine⟨[some (.tup (e.xs.map D.int))],rfl,fun zs=>ax (ag rfl aj) ?_⟩;have hx:e.xs=GO (aA e.c):=by unfold En.xs;rw[(hf e he).x]
  rw[hx];exact xO (hf e he).ok _)
 obtain⟨cs,JW⟩:∃cs,((w.road r).map (·.c)).map k_=cs:=⟨_,rfl⟩;have Xq:(w.road r).map (fun e:En=>k_ e.c)=cs:=by rw[<-JW,List.map_map];rfl
 rw[Xq] at c1;rw[JW,aw (bF c1)];obtain⟨S2,OC⟩:∃S2,S1++[Cell.lst cs]=S2:=⟨_,rfl⟩;have A2:G5 G S2 a w:=by rw[<-OC];exact A1.push _
 have Pm:S2[kl]?=some (.lst (qJ r)):=by rw[<-OC];exact aC QG
 have M_:S2[S1.length]?=some (.lst cs):=by rw[<-OC];exact bE
 rw[OC];show ∃S' l,fin S (aL _ _ [some (.ob a.n),some (.str (bj r)),some (.ob kl),some (.ob S1.length)] S2)=_/\_;have w2:HM (aa 3) [some (.ob a.n),some (.str (bj r)),some (.ob kl),some (.ob S1.length)] S2=.ok ⟨(w.road r).map (fun e:En=>k_ e.c),some (S1.length,cs)⟩ S2:=by
  rw[Xq];exact vV rfl M_
 have c2:=qd (q:=fun _:En=>D.bl true) (tg:=gN 0) (fe:=im (f_ inD (f_ t_ (aa 0) (dC (.int 0))) (aa 1)) (jb JY JY (dC (.int 1)) (f_ t_ (aa 0) (dC (.int 1))) (bc G.World m_ (aO G) (aa 2) (ac (dC (.str "sender")) ai)))) (own:=1) (caps:=[2,0]) w2 M_ hz (by
  intro e he;refine⟨[some (k_ e.c),some (.ob kl),some (.ob a.n)],rfl,fun zs=>?_⟩;have f:=hf e he;have t1:al (f_ inD (f_ t_ (aa 0) (dC (.int 0))) (aa 1)) [some (k_ e.c),some (.ob kl),some (.ob a.n)] (S2++[.lst zs])=.ok true (S2++[.lst zs]):=az (ar (ar rfl rfl (nr e.c _)) rfl (z6 f.kd (aC Pm)));rw[fV,av,t1];show jb JY JY _ _ _ _ _=_;have A3:=A2.push [.lst zs];have i1:f_ t_ (aa 0) (dC (.int 1)) [some (k_ e.c),some (.ob kl),some (.ob a.n)] (S2++[.lst zs])=.ok (.int (e.c.FA:Int)) (S2++[.lst zs]):=ar rfl rfl (qk e.c _);have i2:bc G.World m_ (aO G) (aa 2) (ac (dC (.str "sender")) ai) [some (k_ e.c),some (.ob kl),some (.ob a.n)] (S2++[.lst zs])=.ok (.int (w.s.op:Int)) (S2++[.lst zs]):=aZ rfl A3.ob (ag rfl aj) (xp A3);have h1:=f.lo;have h2:=f.hi;rw[uT,av,tj];dsimp only;rw[av,i1];dsimp only;rw[av,av,vF,decide_eq_true (show(1:Int)<=(e.c.FA:Int) by omega)];dsimp only;rw[Ct];dsimp only;rw[if_pos rfl,av,i2];dsimp only;rw[vF,decide_eq_true (show(e.c.FA:Int)<=(w.s.op:Int) by omega)])
 have eb:(w.road r).map (fun _:En=>D.bl true)=((w.road r).map fun _=>true).map D.bl:=by rw[List.map_map];rfl
 rw[eb] at c2;obtain⟨S3,M0⟩:∃S3,S2++[Cell.lst (((w.road r).map fun _=>true).map D.bl)]=S3:=⟨_,rfl⟩;rw[M0] at c2;have l3:S3[S2.length]?=some (.lst (((w.road r).map fun _=>true).map D.bl)):=by rw[<-M0];exact bE
 have ea:sV [.ob S2.length] S3=.ok (.bl true) S3:=by
  have:(((w.road r).map fun _:En=>true).all id)=true:=by rw[List.all_map];simp
  simp only[sV,fM,bS l3,nA,this]
 have t2:cW (bR (am sV (ac (dH (HM (aa 3)) (gN 0) gy (im (f_ inD (f_ t_ (aa 0) (dC (.int 0))) (aa 1)) (jb JY JY (dC (.int 1)) (f_ t_ (aa 0) (dC (.int 1))) (bc G.World m_ (aO G) (aa 2) (ac (dC (.str "sender")) ai)))) 1 [2,0]) ai))) [some (.ob a.n),some (.str (bj r)),some (.ob kl),some (.ob S1.length)] S2=.ok false S3:=by
  rw[cP,av,cO,av,ax (ag c2 aj) ea];rfl
 rw[aw (by rw[ay t2];rfl)];refine⟨S3,S1.length,congrArg (fin S) (aR rfl),by rw[<-M0];exact aC M_,?_,by rw[<-Lu,List.length_append];omega⟩;rw[<-M0,<-OC,<-Lu];exact(Fr.push.tr Fr.push).tr Fr.push
theorem wD{l v q:Nat}(hv:v<=1000)(c:v_)(hc:UN v q c\/RM v c):eD [some (.ob l),some (.int (v:Int)),some (.int (q:Int)),some (k_ c)] S=some (.nx [some (.ob l),some (.int (v:Int)),some (.int (q:Int)),some (k_ c)],S):=by
 unfold eD;have k1:al (f_ Fo (f_ t_ (aa 3) (dC (.int 0))) (dC (.str "data"))) [some (.ob l),some (.int (v:Int)),some (.int (q:Int)),some (k_ c)] S=.ok (decide (c.ki=3)) S:=az (ar (ar rfl rfl (nr c _)) rfl (lg c S));have k2:al (f_ Fo (f_ t_ (aa 3) (dC (.int 0))) (dC (.str "note"))) [some (.ob l),some (.int (v:Int)),some (.int (q:Int)),some (k_ c)] S=.ok (decide (c.ki=4)) S:=az (ar (ar rfl rfl (nr c _)) rfl (lc c S));have m2:f_ eI (dC (.int 2)) (aa 1) [some (.ob l),some (.int (v:Int)),some (.int (q:Int)),some (k_ c)] S=.ok (.int (2 * (v:Int))) S:=ar rfl rfl (fT (by unfold L6;omega));have f1:cX (al (f_ Fo (f_ t_ (aa 3) (dC (.int 0))) (dC (.str "data")))) (G8 (al (f_ IZ (f_ t_ (aa 3) (dC (.int 2))) (f_ eI (dC (.int 2)) (aa 1)))) (al (f_ MG (am bw (ac (f_ t_ (f_ t_ (aa 3) (dC (.int 3))) (dC (.int 1))) ai)) (aa 2)))) [some (.ob l),some (.int (v:Int)),some (.int (q:Int)),some (k_ c)] S=.ok false S:=by
  rw[cL,av,k1];cases c with
  |data o n p=>
   have hd:n<2 * v/\p.2.length<=q:=by
    rcases hc with h|h
    ·exact h
    ·exact h.elim
   show G8 _ _ _ S=_;have g1:al (f_ IZ (f_ t_ (aa 3) (dC (.int 2))) (f_ eI (dC (.int 2)) (aa 1))) [some (.ob l),some (.int (v:Int)),some (.int (q:Int)),some (k_ (.data o n p))] S=.ok false S:=by
    refine az (ar (ar rfl rfl (aN (i:=2) rfl)) m2 ?_);rw[tu,decide_eq_false (by omega)]
   have g2:al (f_ MG (am bw (ac (f_ t_ (f_ t_ (aa 3) (dC (.int 3))) (dC (.int 1))) ai)) (aa 2)) [some (.ob l),some (.int (v:Int)),some (.int (q:Int)),some (k_ (.data o n p))] S=.ok false S:=by
    refine az (ar (ax (ag (ar (ar rfl rfl (aN (i:=3) rfl)) rfl (aN (i:=1) rfl)) aj) (cb _)) rfl ?_);rw[zU,List.length_map,decide_eq_false (by omega)]
   rw[d7,av,g1];exact g2
  |_=>rfl
 have f2:cX (al (f_ Fo (f_ t_ (aa 3) (dC (.int 0))) (dC (.str "note")))) (G8 (al (f_ IZ (f_ t_ (aa 3) (dC (.int 2))) (f_ eI (dC (.int 2)) (aa 1)))) (al (f_ Hg (am bw (ac (f_ t_ (aa 3) (dC (.int 3))) ai)) (aa 1)))) [some (.ob l),some (.int (v:Int)),some (.int (q:Int)),some (k_ c)] S=.ok false S:=by
  rw[cL,av,k2];cases c with
  |note o n bs=>
   have hd:n<2 * v/\bs.length=v:=by
    rcases hc with h|h
    ·exact h.elim
    ·exact h
   show G8 _ _ _ S=_;have g1:al (f_ IZ (f_ t_ (aa 3) (dC (.int 2))) (f_ eI (dC (.int 2)) (aa 1))) [some (.ob l),some (.int (v:Int)),some (.int (q:Int)),some (k_ (.note o n bs))] S=.ok false S:=by
    refine az (ar (ar rfl rfl (aN (i:=2) rfl)) m2 ?_);rw[tu,decide_eq_false (by omega)]
   have g2:al (f_ Hg (am bw (ac (f_ t_ (aa 3) (dC (.int 3))) ai)) (aa 1)) [some (.ob l),some (.int (v:Int)),some (.int (q:Int)),some (k_ (.note o n bs))] S=.ok false S:=by
    refine az (ar (ax (ag (ar rfl rfl (aN (i:=3) rfl)) aj) (cb _)) rfl ?_);rw[gp,List.length_map,hd.2,decide_eq_true rfl];rfl
   rw[d7,av,g1];exact g2
  |_=>rfl
 rw[aw (by rw[ay f1];rfl),ay f2];rfl
theorem Aa{l v q:Nat}{cs:List v_}(hl:S[l]?=some (.lst (cs.map k_)))(hv:v<=1000)(hc:∀c,c∈cs->UN v q c\/RM v c):dZ [.ob l,.int (v:Int),.int (q:Int)] S=.ok (.bl true) S:=by
 show fin S (jq [some (.ob l),some (.int (v:Int)),some (.int (q:Int)),none] S)=_;unfold jq;have hw:HM (aa 0) [some (.ob l),some (.int (v:Int)),some (.int (q:Int)),none] S=.ok ⟨cs.map k_,some (l,cs.map k_)⟩ S:=vV rfl hl;obtain⟨r',S3,q1,hI⟩:=dO (g:=some (l,cs.map k_)) (tg:=gN 3) (b:=eD)
  (fun i r S'=>S'=S/\∃x,r=[some (.ob l),some (.int (v:Int)),some (.int (q:Int)),x]) (cs.map k_) 0 [some (.ob l),some (.int (v:Int)),some (.int (q:Int)),none] S
  (by
   rintro i y r S' hy ⟨rfl,x,rfl⟩;rw[List.getElem?_map] at hy;cases hp:cs[i]? with
   |none=>rw[hp] at hy;cases hy
   |some c=>
    rw[hp] at hy;cases hy;exact⟨_,_,S',rfl,wD hv c (hc c (List.mem_of_getElem? hp)),hl,rfl,_,rfl⟩)
  ⟨rfl,none,rfl⟩
 obtain⟨rfl,x,rfl⟩:=hI;rw[aw (by rw[lR hw];exact q1)];exact congrArg (fin S3) (aR rfl)
theorem Dv{v q:Nat}(K:G4 N w)(R:Rd v q w)(g:Gd w.con):∀e,e∈w.road true->Qc w true e:=fun e he=>by
 obtain⟨h1,h2⟩:=R.nT e he;obtain⟨h3,h4⟩:=(pC R g).2.1 e he;refine⟨h1,(K.tk e he).1,?_,h3,h4⟩;cases hc:e.c with
 |x_ o=>exact .inl rfl
 |data o n p=>exact .inr rfl
 |_=>rw[hc] at h2;exact h2.elim
theorem CI{v q:Nat}(K:G4 N w)(R:Rd v q w)(g:Gd w.con):∀e,e∈w.road false->Qc w false e:=fun e he=>by
 obtain⟨h1,h2⟩:=R.nB e he;obtain⟨h3,h4⟩:=(pC R g).2.2.1 e he;refine⟨h1,(K.bk e he).1,?_,h3,h4⟩;cases hc:e.c with
 |tB o=>exact .inl rfl
 |GU o=>exact .inr (.inl rfl)
 |note o n bs=>exact .inr (.inr rfl)
 |_=>rw[hc] at h2;exact h2.elim
theorem look{v q:Nat}(A:G5 G S a w)(K:G4 N w)(hN:N<=20000)(R:Rd v q w)(hv:v<=1000)(g:Gd w.con){d0 d4 x5 x6 x7:Option D} :
  ∃S' y5 y6 y7,aL (cr (am (dh G) (ac (aa 3) (ac (dC (.str "there")) (ac (bV (ac (dC (.str "hello")) (ac (dC (.str "data")) ai))) ai)))) (gN 5))
 (aL (cr (am (dh G) (ac (aa 3) (ac (dC (.str "back")) (ac (bV (ac (dC (.str "welcome")) (ac (dC (.str "who")) (ac (dC (.str "note")) ai)))) ai)))) (gN 6))
 (aL (Ga (G8 (al (f_ wP (aa 5) (dC .D_))) (G8 (al (f_ wP (aa 6) (dC .D_))) (cW (bR (am dZ (ac (f_ bL (aa 5) (aa 6)) (ac (aa 1) (ac (aa 2) ai)))))))) (bG (dC (.bl false))) bz)
 (aL (cr (dH (HM (aa 5)) (gN 0) gy (f_ t_ (aa 0) (dC (.int 1))) 1 []) (gN 7))
 (Ga (G8 (al (f_ Hg (aa 7) (am mB (ac (aa 7) ai)))) (al (f_ MG (bc G.World m_ (aO G) (aa 3) (ac (dC (.str "hearer")) ai)) (bc G.World m_ (aO G) (aa 3) (ac (dC (.str "sender")) ai))))) (bG (dC (.bl false))) bz)))) [d0,some (.int (v:Int)),some (.int (q:Int)),some (.ob a.n),d4,x5,x6,x7] S=some (.nx [d0,some (.int (v:Int)),some (.int (q:Int)),some (.ob a.n),d4,y5,y6,y7],S')/\Fr [] S S':=by
 have hT:(w.road true).length<=8 * N:=K.rl true;have hB:(w.road false).length<=8 * N:=K.rl false;obtain⟨P1,SK⟩:∃P1,S++[Cell.lst (qJ true)]=P1:=⟨_,rfl⟩;have B1:G5 G P1 a w:=by rw[<-SK];exact A.push _
 obtain⟨S1,l1,e1,h1,f1,n1⟩:=ui B1 true (kl:=S.length) (by rw[<-SK];exact bE) (by omega) (Dv K R g);rw[aw (bF (ax (ag rfl (ag rfl (ag (bY (ag rfl (ag rfl aj)) (by simp)) aj))) (by rw[show S++[Cell.lst [.str "hello",.str "data"]]=P1 from SK];exact e1)))];have A1:G5 G S1 a w:=B1.fr f1 (fun i _ z=>nomatch z);obtain⟨P2,RN⟩:∃P2,S1++[Cell.lst (qJ false)]=P2:=⟨_,rfl⟩;have B2:G5 G P2 a w:=by rw[<-RN];exact A1.push _
 obtain⟨S2,l2,e2,h2,f2,n2⟩:=ui B2 false (kl:=S1.length) (by rw[<-RN];exact bE) (by omega) (CI K R g);show ∃S' y5 y6 y7,aL _ _ [d0,some (.int (v:Int)),some (.int (q:Int)),some (.ob a.n),d4,some (.ob l1),x6,x7] S1=_/\_;rw[aw (bF (ax (ag rfl (ag rfl (ag (bY (ag rfl (ag rfl (ag rfl aj))) (by simp)) aj))) (by rw[show S1++[Cell.lst [.str "welcome",.str "who",.str "note"]]=P2 from RN];exact e2)))];have A2:G5 G S2 a w:=B2.fr f2 (fun i _ z=>nomatch z);have Xr:S2[l1]?=some (.lst ((w.T.map (·.c)).map k_)):=f2.get (by rw[<-RN];exact aC h1) (by simp);have ZI:S2[l2]?=some (.lst ((w.B.map (·.c)).map k_)):=h2;show ∃S' y5 y6 y7,aL _ _ [d0,some (.int (v:Int)),some (.int (q:Int)),some (.ob a.n),d4,some (.ob l1),some (.ob l2),x7] S2=_/\_;obtain⟨cs,JW⟩:∃cs,(w.T.map (·.c))++(w.B.map (·.c))=cs:=⟨_,rfl⟩;have ZJ:(w.T.map (·.c)).map k_++(w.B.map (·.c)).map k_=cs.map k_:=by rw[<-JW,List.map_append]
 have Rm:w.T.length<=8 * N:=hT;have hB':w.B.length<=8 * N:=hB;have ad:=nP Xr ZI (by rw[List.length_append,List.length_map,List.length_map,List.length_map,List.length_map];omega);rw[ZJ] at ad;obtain⟨S3,M0⟩:∃S3,S2++[Cell.lst (cs.map k_)]=S3:=⟨_,rfl⟩;rw[M0] at ad;have sz:=Aa (S:=S3) (l:=S2.length) (v:=v) (q:=q) (cs:=cs) (by rw[<-M0];exact bE) hv (fun c hc=>by
  rw[<-JW] at hc;rcases List.mem_append.mp hc with z|z
  ·obtain⟨e,he,rfl⟩:=List.mem_map.mp z;exact .inl (R.nT e he).2
  ·obtain⟨e,he,rfl⟩:=List.mem_map.mp z;exact .inr (R.nB e he).2)
 have t1:al (f_ wP (aa 5) (dC .D_)) [d0,some (.int (v:Int)),some (.int (q:Int)),some (.ob a.n),d4,some (.ob l1),some (.ob l2),x7] S2=.ok false S2:=az (ar rfl rfl rfl);have t2:al (f_ wP (aa 6) (dC .D_)) [d0,some (.int (v:Int)),some (.int (q:Int)),some (.ob a.n),d4,some (.ob l1),some (.ob l2),x7] S2=.ok false S2:=az (ar rfl rfl rfl);have t3:cW (bR (am dZ (ac (f_ bL (aa 5) (aa 6)) (ac (aa 1) (ac (aa 2) ai))))) [d0,some (.int (v:Int)),some (.int (q:Int)),some (.ob a.n),d4,some (.ob l1),some (.ob l2),x7] S2=.ok false S3:=by
  rw[cP,av,cO,av,ax (ag (ar rfl rfl ad) (ag rfl (ag rfl aj))) sz];rfl
 rw[aw (by rw[ay (vN t1 (vN t2 t3))];rfl)];have A3:G5 G S3 a w:=by rw[<-M0];exact A2.push _
 have RO:S3[l1]?=some (.lst ((w.T.map (·.c)).map k_)):=by rw[<-M0];exact aC Xr
 have c1:=qd (S:=S3) (p:=k_) (q:=fun c:v_=>D.int (c.FA:Int)) (tg:=gN 0) (fe:=f_ t_ (aa 0) (dC (.int 1))) (own:=1) (caps:=[]) (r:=[d0,some (.int (v:Int)),some (.int (q:Int)),some (.ob a.n),d4,some (.ob l1),some (.ob l2),x7]) (vV (i:=5) rfl RO) RO (by rw[List.length_map];omega) (by
  intro c _;exact⟨[some (k_ c)],rfl,fun zs=>ar rfl rfl (qk c _)⟩)
 obtain⟨is,Xs⟩:∃is,(((w.T.map (·.c)).map v_.FA).map fun n:Nat=>(n:Int))=is:=⟨_,rfl⟩;have ZK:(w.T.map (·.c)).map (fun c:v_=>D.int (c.FA:Int))=is.map D.int:=by
  rw[<-Xs];simp only[List.map_map];rfl
 rw[ZK] at c1;rw[aw (bF c1)];obtain⟨S4,SM⟩:∃S4,S3++[Cell.lst (is.map D.int)]=S4:=⟨_,rfl⟩;have A4:G5 G S4 a w:=by rw[<-SM];exact A3.push _
 have h7:S4[S3.length]?=some (.lst (is.map D.int)):=by rw[<-SM];exact bE
 rw[SM];show ∃S' y5 y6 y7,Ga _ _ _ [d0,some (.int (v:Int)),some (.int (q:Int)),some (.ob a.n),d4,some (.ob l1),some (.ob l2),some (.ob S3.length)] S4=_/\_;obtain⟨ZL,_,_,gr4⟩:=pC R g;have up:is.Pairwise (·<=·):=by
  rw[<-Xs,List.pairwise_map];exact ZL.imp fun {x y} h=>Int.ofNat_le.mpr h
 have so:mB [.ob S3.length] S4=.ok (.ob S4.length) (S4++[.lst (is.map D.int)]):=by
  simp only[mB,bS h7,gx];exact bW up
 obtain⟨S5,RP⟩:∃S5,S4++[Cell.lst (is.map D.int)]=S5:=⟨_,rfl⟩;rw[RP] at so;have A5:G5 G S5 a w:=by rw[<-RP];exact A4.push _
 have t4:al (f_ Hg (aa 7) (am mB (ac (aa 7) ai))) [d0,some (.int (v:Int)),some (.int (q:Int)),some (.ob a.n),d4,some (.ob l1),some (.ob l2),some (.ob S3.length)] S4=.ok false S5:=
  az (ar rfl (ax (ag rfl aj) so) (As (by rw[<-RP];exact aC h7) (by rw[<-RP];exact bE) ⟨_,p5 S5 28 is⟩))
 have t5:al (f_ MG (bc G.World m_ (aO G) (aa 3) (ac (dC (.str "hearer")) ai)) (bc G.World m_ (aO G) (aa 3) (ac (dC (.str "sender")) ai))) [d0,some (.int (v:Int)),some (.int (q:Int)),some (.ob a.n),d4,some (.ob l1),some (.ob l2),some (.ob S3.length)] S5=.ok false S5:=by
  refine az (ar (aZ rfl A5.ob (ag rfl aj) (AL A5)) (aZ rfl A5.ob (ag rfl aj) (xp A5)) ?_);rw[zU,decide_eq_false (by omega)]
 rw[ay (vN t4 t5)];refine⟨S5,_,_,_,rfl,?_⟩;have p1:Fr [] S P1:=by rw[<-SK];exact Fr.push
 have p2:Fr [] S1 P2:=by rw[<-RN];exact Fr.push
 have p3:Fr [] S2 S5:=by rw[<-RP,<-SM,<-M0];exact(Fr.push.tr Fr.push).tr Fr.push
 exact(((p1.tr f1).tr p2).tr f2).tr p3
theorem D4(t:LA)(S:List Cell){r:s_}(hv:aa 4 r S=.ok t.d S):al (f_ Hg (f_ t_ (aa 4) (dC (.int 0))) (dC (.str "spoil"))) r S=.ok (!decide (t.kn=("spoil":Str))) S:=
 az (ar (ar hv rfl (Ag t S)) rfl (vf (zT t) (by decide +kernel) rfl))
theorem CF(t:LA)(h:decide (t.kn=("spoil":Str))=false):∀b k p d,t.act≠.Jb b k p d:=fun b k p d=>by
 cases t with
 |Gn j r i c=>
  match j with
  |0=>exact Act.noConfusion
  |1=>exact Act.noConfusion
  |j+2=>exact absurd h (by rw[show decide ((LA.Gn (j+2) r i c).kn=("spoil":Str))=true from (by decide +kernel:decide (("spoil":Str) = "spoil")=true)];decide)
 |_=>exact Act.noConfusion
theorem Au(t:LA):∀m,t.act=.hand m->m.length<=40:=fun m h=>by
 cases t with
 |hand c=>
  have e:kF c 12=m:=Act.hand.inj h;have:=nc c 12;rw[e] at this;omega
 |Gn j r i c=>
  match j with
  |0=>exact Act.noConfusion h
  |1=>exact Act.noConfusion h
  |j+2=>exact Act.noConfusion h
 |_=>exact Act.noConfusion h
theorem zm(G:Cs):∀ns:List Int,ns.length<=63->∃S',Ck G [.Gp (ns.map D.int)] []=.ok (.bl true) S':=by
 intro ns IU;show ∃S',fin [] (vM G [some (.Gp (ns.map D.int)),none,none,none,none,none,none,none] [])=_;unfold vM;rw[aw (BX (ax (ag rfl aj) (wp ns [])))];show ∃S',fin [] (aL _ _ [some (.Gp (ns.map D.int)),some (.int (Kq ns:Int)),some (.int (Le ns:Int)),none,none,none,none,none] [])=_;obtain⟨S1,a0,e1,A0,f0,ZM,Qu⟩:=Bh (G:=G) (Kq ns) (Le ns) [];rw[aw (bF (ax (ag rfl (ag rfl aj)) e1)),<-ZM];show ∃S',fin [] (aL _ _ [some (.Gp (ns.map D.int)),some (.int (Kq ns:Int)),some (.int (Le ns:Int)),some (.ob a0.n),none,none,none,none] S1)=_;obtain⟨S2,l,e2,R⟩:=B0 true ns S1;have A2:G5 G S2 a0 (WW.new (Kq ns) (Le ns)):=A0.fr R.fr (fun i _ z=>nomatch z);have ll:l∉a0.fp:=fun z=>by have h1:=A0.lt l z;have h2:=R.new;omega
 have hal:=zv true ns;have hw:HM (am gr (ac (aa 0) (ac (dC (.bl true)) ai))) [some (.Gp (ns.map D.int)),some (.int (Kq ns:Int)),some (.int (Le ns:Int)),some (.ob a0.n),none,none,none,none] S1=.ok ⟨(jc true ns).map LA.d,some (l,(jc true ns).map LA.d)⟩ S2:=by
  rw[lF,av,ax (ag rfl (ag rfl aj)) e2];show kG (.ob l) S2=_;simp only[kG,R.at_]
 obtain⟨r',S',q,_⟩:=dO (g:=some (l,(jc true ns).map LA.d)) (tg:=gN 4) (b:=qb G)
  (fun i r S'=>∃a w x4 x5 x6 x7,r=[some (.Gp (ns.map D.int)),some (.int (Kq ns:Int)),some (.int (Le ns:Int)),some (.ob a0.n),x4,x5,x6,x7]/\a.n=a0.n/\G5 G S' a w/\G4 i w/\Gd w.con/\Rd (Kq ns) (Le ns) w/\S'[l]?=some (.lst ((jc true ns).map LA.d))/\l∉a.fp) ((jc true ns).map LA.d) 0 [some (.Gp (ns.map D.int)),some (.int (Kq ns:Int)),some (.int (Le ns:Int)),some (.ob a0.n),none,none,none,none] S2
  (by
   rintro i y r S' hy ⟨a,w,x4,x5,x6,x7,rfl,hn,A,K,g,UP,Xt,Q0⟩;rw[List.getElem?_map] at hy;cases hp:(jc true ns)[i]? with
   |none=>rw[hp] at hy;cases hy
   |some t=>
    rw[hp] at hy;cases hy;rw[Nat.zero_add] at K ⊢;have PD:=(List.getElem?_eq_some_iff.mp hp).1;have hv7:=zR ns;have ts:=D4 t S' (r:=[some (.Gp (ns.map D.int)),some (.int (Kq ns:Int)),some (.int (Le ns:Int)),some (.ob a0.n),some t.d,x5,x6,x7]) rfl;unfold qb;cases hk:decide (t.kn=("spoil":Str)) with
    |true=>
     rw[hk] at ts;obtain⟨S3,y5,y6,y7,e3,f3⟩:=look A K (by omega) UP (by omega) g (d0:=some (.Gp (ns.map D.int))) (d4:=some t.d) (x5:=x5) (x6:=x6) (x7:=x7);rw[hn] at e3;have o1:=f3.get Xt (by simp);refine⟨[some (.Gp (ns.map D.int)),some (.int (Kq ns:Int)),some (.int (Le ns:Int)),some (.ob a0.n),some t.d,x5,x6,x7],_,S3,rfl,?_,o1,a,w,some t.d,y5,y6,y7,rfl,hn,A.fr f3 (fun i _ z=>nomatch z),K.mono (by omega),g,UP,o1,Q0⟩;rw[aw (by rw[ay ts];rfl)];exact e3
    |false=>
     rw[hk] at ts;obtain⟨S5,a5,e5,k5⟩:=Ea A K (by omega) t;obtain⟨o1,o2⟩:=k5.out Xt Q0;have K5:=AH K (by omega) t.act t.ok;have g5:=DN g (Bo w t.act true (fun _=>rfl));have R5:=Dx (tD ns) (wX ns) UP K.sb.NF t.act (CF t hk) (Au t);obtain⟨S3,y5,y6,y7,e3,f3⟩:=look k5.at_ K5 (by omega) R5 (by omega) g5 (d0:=some (.Gp (ns.map D.int))) (d4:=some t.d) (x5:=x5) (x6:=x6) (x7:=x7);rw[k5.nn,hn] at e3;rw[hn] at e5;have o3:=f3.get o1 (by simp);refine⟨[some (.Gp (ns.map D.int)),some (.int (Kq ns:Int)),some (.int (Le ns:Int)),some (.ob a0.n),some t.d,x5,x6,x7],_,S3,rfl,?_,o3,a5,w.act t.act,some t.d,y5,y6,y7,rfl,k5.nn.trans hn,k5.at_.fr f3 (fun i _ z=>nomatch z),K5,g5,R5,o3,o2⟩;rw[aw (by rw[aV ts];exact bf (ax (ag rfl (ag rfl aj)) e5))];exact e3)
  ⟨a0,WW.new (Kq ns) (Le ns),none,none,none,none,rfl,rfl,A2,Bt (tD ns) (zR ns) (wX ns) (CC ns),DE (tD ns),CM _ _,R.at_,ll⟩
 refine⟨S',?_⟩;rw[aw (by rw[lR hw];exact q),aR rfl];rfl
end
end Lw
namespace Lw
open PySem L2 DL
def nI(K:PySem.W.Frag)(x:Str)(f:Addr):Prop:=PySem.W.nsIn K mainGlobals x=some (some (.ref f))
def fI(K:PySem.W.Frag)(g:Addr)(x:Str)(f:Addr):Prop:=PySem.W.findIn K (.ref g) x=some (some (.ref f))
def iF(K:PySem.W.Frag)(f:Addr):Prop:=PySem.W.isFn K (.ref f)=true
def nN(K:PySem.W.Frag)(x:Str):Prop:=PySem.W.nsIn K mainGlobals x=some none
def fN(K:PySem.W.Frag)(g:Addr)(x:Str):Prop:=PySem.W.findIn K (.ref g) x=some none
def oF(K:PySem.W.Frag)(f:Addr)(x q:Str)(st:Stmt):Prop:=∃fd,Gf K x q st f fd
theorem oF_mk{K:PySem.W.Frag}{x qual:Str}{st:Stmt}{f:Addr}{oc:Value}{od an:Option Addr}{M7:Array (Option Value)}{kV doc pm Fm ct:Value}(l:K.lookup f=some ⟨oc,od,.func (PySem.W.fnOf x qual (Gv st) (F_ st) (h_ st) .none kV doc pm an Fm ct),M7⟩)(c:PySem.W.codeIn K Fm qual=true)(k:PySem.W.keepIn K (.ref f)=true):oF K f x qual st:=⟨_,DA l c k⟩
theorem cF{P:Program}{w:World}{K:PySem.W.Frag}{mg:Str->Option Value}{base h:Heap}(X:K.In h)(G:h.Ns mainGlobals mg){x x' q:Str}{st:Stmt}{f:Addr}{fd:FuncData}{k:Nat}{ps:List Str}{F:List D->M D}(a:nI K x f)(hF:Gf K x' q st f fd)(b:Binds K fd ps [])(o:Gm P w K mg base (A_ P w) k f fd ps F):Hs P w K mg base (A_ P w) x k ps F:=⟨⟨f,_,PySem.W.mg_of X G a,hF.kp,b,o⟩⟩
theorem cM{P:Program}{w:World}{K:PySem.W.Frag}{mg:Str->Option Value}{base:Heap}{g:Addr}{x x' q:Str}{st:Stmt}{f:Addr}{fd:FuncData}{k:Nat}{ps:List Str}{F:List D->M D}(a:fI K g x f)(i:iF K f)(hF:Gf K x' q st f fd)(b:Binds K fd ps [])(o:Gm P w K mg base (A_ P w) k f fd ps F):FV P w K mg base (A_ P w) g x k ps F:=⟨⟨f,_,⟨a,i,hF.kp⟩,b,o⟩⟩
theorem KQ{K:PySem.W.Frag}{x q:Str}{st:Stmt}{f:Addr}{fd:FuncData}{ps:List Str}(F:Gf K x q st f fd)(h:∀(kV doc pm:Value) (an:Option Addr) (Fm ct u0:Value),bindArgs (PySem.W.fnOf x q (Gv st) (F_ st) (h_ st) .none kV doc pm an Fm ct) ⟨[u0],[]⟩=pure (ps.zip [u0]))(hp:ps.length=1:=by rfl):Binds K fd ps []:=F.binds fun a b c d e g us hl=>match us,hl.trans hp with|[u0],_=>h a b c d e g u0
theorem Jv{K:PySem.W.Frag}{x q:Str}{st:Stmt}{f:Addr}{fd:FuncData}{ps:List Str}(F:Gf K x q st f fd)(h:∀(kV doc pm:Value) (an:Option Addr) (Fm ct u0 u1:Value),bindArgs (PySem.W.fnOf x q (Gv st) (F_ st) (h_ st) .none kV doc pm an Fm ct) ⟨[u0,u1],[]⟩=pure (ps.zip [u0,u1]))(hp:ps.length=2:=by rfl):Binds K fd ps []:=F.binds fun a b c d e g us hl=>match us,hl.trans hp with|[u0,u1],_=>h a b c d e g u0 u1
theorem MK{K:PySem.W.Frag}{x q:Str}{st:Stmt}{f:Addr}{fd:FuncData}{ps:List Str}(F:Gf K x q st f fd)(h:∀(kV doc pm:Value) (an:Option Addr) (Fm ct u0 u1 u2:Value),bindArgs (PySem.W.fnOf x q (Gv st) (F_ st) (h_ st) .none kV doc pm an Fm ct) ⟨[u0,u1,u2],[]⟩=pure (ps.zip [u0,u1,u2]))(hp:ps.length=3:=by rfl):Binds K fd ps []:=F.binds fun a b c d e g us hl=>match us,hl.trans hp with|[u0,u1,u2],_=>h a b c d e g u0 u1 u2
theorem ZN{K:PySem.W.Frag}{x q:Str}{st:Stmt}{f:Addr}{fd:FuncData}{ps:List Str}(F:Gf K x q st f fd)(h:∀(kV doc pm:Value) (an:Option Addr) (Fm ct u0 u1 u2 u3:Value),bindArgs (PySem.W.fnOf x q (Gv st) (F_ st) (h_ st) .none kV doc pm an Fm ct) ⟨[u0,u1,u2,u3],[]⟩=pure (ps.zip [u0,u1,u2,u3]))(hp:ps.length=4:=by rfl):Binds K fd ps []:=F.binds fun a b c d e g us hl=>match us,hl.trans hp with|[u0,u1,u2,u3],_=>h a b c d e g u0 u1 u2 u3
theorem ZO{K:PySem.W.Frag}{x q:Str}{st:Stmt}{f:Addr}{fd:FuncData}{ps:List Str}(F:Gf K x q st f fd)(h:∀(kV doc pm:Value) (an:Option Addr) (Fm ct u0 u1 u2 u3 u4:Value),bindArgs (PySem.W.fnOf x q (Gv st) (F_ st) (h_ st) .none kV doc pm an Fm ct) ⟨[u0,u1,u2,u3,u4],[]⟩=pure (ps.zip [u0,u1,u2,u3,u4]))(hp:ps.length=5:=by rfl):Binds K fd ps []:=F.binds fun a b c d e g us hl=>match us,hl.trans hp with|[u0,u1,u2,u3,u4],_=>h a b c d e g u0 u1 u2 u3 u4
theorem bn6{K:PySem.W.Frag}{x q:Str}{st:Stmt}{f:Addr}{fd:FuncData}{ps:List Str}(F:Gf K x q st f fd)(h:∀(kV doc pm:Value) (an:Option Addr) (Fm ct u0 u1 u2 u3 u4 u5:Value),bindArgs (PySem.W.fnOf x q (Gv st) (F_ st) (h_ st) .none kV doc pm an Fm ct) ⟨[u0,u1,u2,u3,u4,u5],[]⟩=pure (ps.zip [u0,u1,u2,u3,u4,u5]))(hp:ps.length=6:=by rfl):Binds K fd ps []:=F.binds fun a b c d e g us hl=>match us,hl.trans hp with|[u0,u1,u2,u3,u4,u5],_=>h a b c d e g u0 u1 u2 u3 u4 u5
theorem all_mk{l:PySem.W.OpenLaw}{w:World}{K:PySem.W.Frag}{h:Heap}{mg:Str->Option Value}{fa:Addr}{Fc:Addr}{z_:Addr}{Fv:Addr}{Ig:Addr}{GV:Addr}{f0 f1 f2 f3 f4 f5 f6 f7 f8 f9 Sw Xu Xv Xw Xx UQ UR Xy Xz US UT XA XB XC UU XD UW UX UY UZ U0 U3 U4 XE XG U5 XH U6 U7 U8 U9 U_ Va Vb Vc Vd Ve Vf Vg Vh Vi Vj XJ Vk Vl Vm Vn Vo Vp XM XN XQ:Addr}{ML:Addr}{Lf:Array Value}{OL:Nat}{OM:Array (Option Value)}{Ir:Addr}{Hm:Array Value}{Kr:Nat}{Ks:Array (Option Value)}{Kt:Tok}{Lg:Tok}{Mq:Tok}{Ia:Tok}{LU:Tok}{Lh:Tok}{Ku:Tok}(X:K.In h)(G:h.Ns mainGlobals mg)(ZP:mg "law"=some (.ref fa))
  (NM:nI K "Hearer" Fc)
  (NN:nI K "Sender" z_)
  (ON:nI K "World" Fv)
  (NO:nI K "NoCard" Ig)
  (M3:nI K "NoStrip" GV)
  (a0:nI K "_law_mix" f0)
  (l0:oF K f0 "_law_mix" "_law_mix" lP)
  (a1:nI K "_law_cell" f1)
  (l1:oF K f1 "_law_cell" "_law_cell" kK)
  (a2:nI K "_law_setting" f2)
  (l2:oF K f2 "_law_setting" "_law_setting" iy)
  (a3:fI K z_ "__init__" f3)
  (i3:iF K f3)
  (l3:oF K f3 "__init__" "Sender.__init__" eX)
  (a4:fI K Fc "__init__" f4)
  (i4:iF K f4)
  (l4:oF K f4 "__init__" "Hearer.__init__" eV)
  (a5:fI K Fv "__init__" f5)
  (i5:iF K f5)
  (l5:oF K f5 "__init__" "World.__init__" fD)
  (a6:nI K "_law_acts" f6)
  (l6:oF K f6 "_law_acts" "_law_acts" kT)
  (a7:nI K "card_from" f7)
  (l7:oF K f7 "card_from" "card_from" kz)
  (a8:nI K "with_checks" f8)
  (l8:oF K f8 "with_checks" "with_checks" i8)
  (a9:nI K "is_whole" f9)
  (l9:oF K f9 "is_whole" "is_whole" lQ)
  (ZQ:nI K "is_row" Sw)
  (ZR:oF K Sw "is_row" "is_row" qu)
  (ZS:nI K "is_piece" Xu)
  (ZT:oF K Xu "is_piece" "is_piece" lL)
  (ZU:nI K "are_bits" Xv)
  (ZV:oF K Xv "are_bits" "are_bits" lJ)
  (ZW:nI K "is_card" Xw)
  (ZX:oF K Xw "is_card" "is_card" ni)
  (ZY:nI K "read" Xx)
  (ZZ:oF K Xx "read" "read" wn)
  (Z0:fI K Fv "on_road" UQ)
  (Z1:iF K UQ)
  (Z2:oF K UQ "on_road" "World.on_road" gL)
  (Z3:fI K Fv "opening_of" UR)
  (Z4:iF K UR)
  (Z5:oF K UR "opening_of" "World.opening_of" eG)
  (Z6:nI K "_law_kinds" Xy)
  (Z7:oF K Xy "_law_kinds" "_law_kinds" jQ)
  (Z8:nI K "pieces_of" Xz)
  (Z9:oF K Xz "pieces_of" "pieces_of" kM)
  (Z_:fI K z_ "hand" US)
  (i19:iF K US)
  (l19:oF K US "hand" "Sender.hand" jl)
  (a20:fI K Fv "hand" UT)
  (i20:iF K UT)
  (l20:oF K UT "hand" "World.hand" ka)
  (a21:nI K "_law_message" XA)
  (l21:oF K XA "_law_message" "_law_message" iK)
  (a22:nI K "cells_of" XB)
  (l22:oF K XB "cells_of" "cells_of" mh)
  (a23:nI K "written" XC)
  (l23:oF K XC "written" "written" nV)
  (a24:fI K Fv "put_behind" UU)
  (i24:iF K UU)
  (l24:oF K UU "put_behind" "World.put_behind" eN)
  (a25:nI K "number_of" XD)
  (l25:oF K XD "number_of" "number_of" kB)
  (a26:fI K z_ "data_of" UW)
  (i26:iF K UW)
  (l26:oF K UW "data_of" "Sender.data_of" fL)
  (a27:fI K z_ "wanted" UX)
  (i27:iF K UX)
  (l27:oF K UX "wanted" "Sender.wanted" gP)
  (a28:fI K z_ "tick" UY)
  (i28:iF K UY)
  (l28:oF K UY "tick" "Sender.tick" jo)
  (a29:fI K Fv "tick" UZ)
  (i29:iF K UZ)
  (l29:oF K UZ "tick" "World.tick" jX)
  (a30:fI K Fv "has_strip" U0)
  (i30:iF K U0)
  (l30:oF K U0 "has_strip" "World.has_strip" fA)
  (a31:fI K Fc "begin" U3)
  (i31:iF K U3)
  (l31:oF K U3 "begin" "Hearer.begin" iP)
  (a32:fI K Fc "hears_hello" U4)
  (i32:iF K U4)
  (l32:oF K U4 "hears_hello" "Hearer.hears_hello" dP)
  (a33:nI K "goes_round" XE)
  (l33:oF K XE "goes_round" "goes_round" j3)
  (a34:nI K "index_near" XG)
  (l34:oF K XG "index_near" "index_near" kh)
  (a35:fI K Fc "keep" U5)
  (i35:iF K U5)
  (l35:oF K U5 "keep" "Hearer.keep" jt)
  (a36:nI K "letters_of" XH)
  (l36:oF K XH "letters_of" "letters_of" j0)
  (a37:fI K Fc "take" U6)
  (i37:iF K U6)
  (l37:oF K U6 "take" "Hearer.take" jj)
  (a38:fI K Fc "take_all" U7)
  (i38:iF K U7)
  (l38:oF K U7 "take_all" "Hearer.take_all" fj)
  (a39:fI K Fc "note" U8)
  (i39:iF K U8)
  (l39:oF K U8 "note" "Hearer.note" jv)
  (a40:fI K Fc "hears_data" U9)
  (i40:iF K U9)
  (l40:oF K U9 "hears_data" "Hearer.hears_data" eu)
  (a41:fI K Fc "hears" U_)
  (i41:iF K U_)
  (l41:oF K U_ "hears" "Hearer.hears" ix)
  (a42:fI K z_ "open_anew" Va)
  (i42:iF K Va)
  (l42:oF K Va "open_anew" "Sender.open_anew" eL)
  (a43:fI K z_ "move_base" Vb)
  (i43:iF K Vb)
  (l43:oF K Vb "move_base" "Sender.move_base" eF)
  (a44:fI K z_ "note_pieces" Vc)
  (i44:iF K Vc)
  (l44:oF K Vc "note_pieces" "Sender.note_pieces" dN)
  (a45:fI K z_ "hears_note" Vd)
  (i45:iF K Vd)
  (l45:oF K Vd "hears_note" "Sender.hears_note" eo)
  (a46:fI K z_ "hears_own" Ve)
  (i46:iF K Ve)
  (l46:oF K Ve "hears_own" "Sender.hears_own" eO)
  (a47:fI K z_ "hears" Vf)
  (i47:iF K Vf)
  (l47:oF K Vf "hears" "Sender.hears" iG)
  (a48:fI K Fv "arrive" Vg)
  (i48:iF K Vg)
  (l48:oF K Vg "arrive" "World.arrive" iq)
  (a49:fI K Fv "step" Vh)
  (i49:iF K Vh)
  (l49:oF K Vh "step" "World.step" jR)
  (a50:fI K Fv "lose" Vi)
  (i50:iF K Vi)
  (l50:oF K Vi "lose" "World.lose" j2)
  (a51:fI K Fv "double" Vj)
  (i51:iF K Vj)
  (l51:oF K Vj "double" "World.double" iE)
  (a52:nI K "changed" XJ)
  (l52:oF K XJ "changed" "changed" nW)
  (a53:fI K Fv "spoil" Vk)
  (i53:iF K Vk)
  (l53:oF K Vk "spoil" "World.spoil" jk)
  (a54:fI K z_ "fall" Vl)
  (i54:iF K Vl)
  (l54:oF K Vl "fall" "Sender.fall" jn)
  (a55:fI K Fc "fall" Vm)
  (i55:iF K Vm)
  (l55:oF K Vm "fall" "Hearer.fall" jh)
  (a56:fI K Fv "fall" Vn)
  (i56:iF K Vn)
  (l56:oF K Vn "fall" "World.fall" jS)
  (a57:fI K z_ "start" Vo)
  (i57:iF K Vo)
  (l57:oF K Vo "start" "Sender.start" ik)
  (a58:fI K Fv "start" Vp)
  (i58:iF K Vp)
  (l58:oF K Vp "start" "World.start" iX)
  (a59:nI K "_law_do" XM)
  (l59:oF K XM "_law_do" "_law_do" nQ)
  (a60:nI K "_law_sizes" XN)
  (l60:oF K XN "_law_sizes" "_law_sizes" jN)
  (a61:nI K "law" XQ)
  (l61:oF K XQ "law" "law" sI)
  (NP:PySem.W.plainGet K Fc Str.empty=true)
  (NQ:PySem.W.hasDictIn K Fc=true)
  (NR:PySem.W.plainOver K Fc=true)
  (NS:PySem.W.findIn K (.ref Fc) "__setattr__"=some (some (.builtin "object.__setattr__")))
  (NT:PySem.W.makesIn K Fc=true)
  (NU:PySem.W.keepIn K (.ref Fc)=true)
  (JT:fN K Fc "window")
  (Kv:fN K Fc "given")
  (Jw:fN K Fc "opening")
  (II:fN K Fc "next_index")
  (Kw:fN K Fc "early")
  (Kx:fN K Fc "begun")
  (NV:PySem.W.plainGet K z_ Str.empty=true)
  (NW:PySem.W.hasDictIn K z_=true)
  (NX:PySem.W.plainOver K z_=true)
  (NY:PySem.W.findIn K (.ref z_) "__setattr__"=some (some (.builtin "object.__setattr__")))
  (NZ:PySem.W.makesIn K z_=true)
  (N0:PySem.W.keepIn K (.ref z_)=true)
  (JU:fN K z_ "window")
  (Li:fN K z_ "most")
  (Jj:fN K z_ "messages")
  (Lj:fN K z_ "sure")
  (Jx:fN K z_ "opening")
  (Ky:fN K z_ "state")
  (JV:fN K z_ "pieces")
  (Lk:fN K z_ "base")
  (Kz:fN K z_ "noted")
  (OO:PySem.W.plainGet K Fv Str.empty=true)
  (OP:PySem.W.hasDictIn K Fv=true)
  (OQ:PySem.W.plainOver K Fv=true)
  (OR:PySem.W.findIn K (.ref Fv) "__setattr__"=some (some (.builtin "object.__setattr__")))
  (OS:PySem.W.makesIn K Fv=true)
  (OT:PySem.W.keepIn K (.ref Fv)=true)
  (KA:fN K Fv "sender")
  (KC:fN K Fv "hearer")
  (Ll:fN K Fv "roads")
  (M4:PySem.W.excIn K Ig [.type "ValueError",.type "Exception",.type "BaseException",.type "object"] "ValueError.__new__"=true)
  (Mr:PySem.W.excIn K GV [.type "ValueError",.type "Exception",.type "BaseException",.type "object"] "ValueError.__new__"=true)
  (GA:PySem.W.subIn K (.ref GV) (.ref GV)=some true)
  (RQ:nN K "all")
  (Qd:nN K "bool")
  (LV:nN K "enumerate")
  (RS:nN K "int")
  (Lm:nN K "isinstance")
  (RT:nN K "len")
  (Qe:nN K "list")
  (RU:nN K "max")
  (RV:nN K "min")
  (OU:nN K "range")
  (N1:nN K "sorted")
  (RW:nN K "sum")
  (OV:nN K "tuple")
  (OW:nI K "KINDS" ML)
  (OX:K.lookup ML=some ⟨.type "tuple",none,.seq Lf OL,OM⟩)
  (OY:(List.zip Hu Lf.toList).all (fun p=>match p.2 with|.str x _=>x == p.1|_=>false)=true)
  (OZ:Hu.length=Lf.toList.length)
  (KD:nI K "SHORT_KINDS" Ir)
  (KG:K.lookup Ir=some ⟨.type "tuple",none,.seq Hm Kr,Ks⟩)
  (KH:(List.zip GF Hm.toList).all (fun p=>match p.2 with|.str x _=>x == p.1|_=>false)=true)
  (KI:GF.length=Hm.toList.length)
  (KJ:PySem.W.nsIn K mainGlobals "TOP_OPENING"=some (some (.int 65535 Kt)))
  (Ln:PySem.W.nsIn K mainGlobals "TOP_NUMBER"=some (some (.int 13 Lg)))
  (Ms:PySem.W.nsIn K mainGlobals "TOP_CELL"=some (some (.int 255 Mq)))
  (Ib:PySem.W.nsIn K mainGlobals "MOST_PIECE_LETTERS"=some (some (.int 8 Ia)))
  (LW:PySem.W.nsIn K mainGlobals "MOST_BITS"=some (some (.int 7 LU)))
  (Lo:PySem.W.nsIn K mainGlobals "HEAD_CELLS"=some (some (.int 3 Lh)))
  (KL:PySem.W.nsIn K mainGlobals "CHECK_CELLS"=some (some (.int 2 Ku)))
  : ∃fd:FuncData,(∀(s:Shared) (v:Value),BindsTo s fd ⟨[v],[]⟩ [("_law_script",v)])/\∀base:Heap,K.In base->base.Ns mainGlobals mg->IP l.prog w K mg base (A_ l.prog w) 10 fa fd ["_law_script"] (xM K):=by
 have e:=ZP.symm.trans (PySem.W.mg_of X G a61);cases e;have T:Txt K mg (⟨Fc,z_,Fv,Ig,GV⟩:Cs):=⟨PySem.W.mg_none_of X G RQ,PySem.W.mg_none_of X G Qd,PySem.W.mg_none_of X G LV,PySem.W.mg_none_of X G RS,PySem.W.mg_none_of X G Lm,PySem.W.mg_none_of X G RT,PySem.W.mg_none_of X G Qe,PySem.W.mg_none_of X G RU,PySem.W.mg_none_of X G RV,PySem.W.mg_none_of X G OU,PySem.W.mg_none_of X G N1,PySem.W.mg_none_of X G RW,PySem.W.mg_none_of X G OV,⟨NP,NQ,NR,NS⟩,JT,Kv,Jw,II,Kw,Kx,⟨NV,NW,NX,NY⟩,JU,Li,Jj,Lj,Jx,Ky,JV,Lk,Kz,⟨OO,OP,OQ,OR⟩,KA,KC,Ll,⟨PySem.W.mg_of X G NO,M4⟩,⟨PySem.W.mg_of X G M3,Mr⟩,GA,vw (PySem.W.mg_of X G OW) OX OY OZ (by decide),vw (PySem.W.mg_of X G KD) KG KH KI (by decide),⟨_,PySem.W.mg_of X G KJ,iL⟩,⟨_,PySem.W.mg_of X G Ln,iL⟩,⟨_,PySem.W.mg_of X G Ms,iL⟩,⟨_,PySem.W.mg_of X G Ib,iL⟩,⟨_,PySem.W.mg_of X G LW,iL⟩,⟨_,PySem.W.mg_of X G Lo,iL⟩,⟨_,PySem.W.mg_of X G KL,iL⟩⟩;obtain⟨_,F0⟩:=l0;obtain⟨_,F1⟩:=l1;obtain⟨_,F2⟩:=l2;obtain⟨_,F3⟩:=l3;obtain⟨_,F4⟩:=l4;obtain⟨_,F5⟩:=l5;obtain⟨_,F6⟩:=l6;obtain⟨_,F7⟩:=l7;obtain⟨_,F8⟩:=l8;obtain⟨_,F9⟩:=l9;obtain⟨_,Vq⟩:=ZR;obtain⟨_,Vr⟩:=ZT;obtain⟨_,Vs⟩:=ZV;obtain⟨_,Vt⟩:=ZX;obtain⟨_,Vu⟩:=ZZ;obtain⟨_,Vv⟩:=Z2;obtain⟨_,Vw⟩:=Z5;obtain⟨_,Vx⟩:=Z7;obtain⟨_,Vy⟩:=Z9;obtain⟨_,Vz⟩:=l19;obtain⟨_,VA⟩:=l20;obtain⟨_,VB⟩:=l21;obtain⟨_,VC⟩:=l22;obtain⟨_,VD⟩:=l23;obtain⟨_,VE⟩:=l24;obtain⟨_,VF⟩:=l25;obtain⟨_,VG⟩:=l26;obtain⟨_,VH⟩:=l27;obtain⟨_,VI⟩:=l28;obtain⟨_,VJ⟩:=l29;obtain⟨_,VL⟩:=l30;obtain⟨_,VM⟩:=l31;obtain⟨_,VN⟩:=l32;obtain⟨_,VO⟩:=l33;obtain⟨_,VP⟩:=l34;obtain⟨_,VQ⟩:=l35;obtain⟨_,VR⟩:=l36;obtain⟨_,VS⟩:=l37;obtain⟨_,VT⟩:=l38;obtain⟨_,VU⟩:=l39;obtain⟨_,VW⟩:=l40;obtain⟨_,VX⟩:=l41;obtain⟨_,VY⟩:=l42;obtain⟨_,VZ⟩:=l43;obtain⟨_,V0⟩:=l44;obtain⟨_,V1⟩:=l45;obtain⟨_,V2⟩:=l46;obtain⟨_,V3⟩:=l47;obtain⟨_,V4⟩:=l48;obtain⟨_,V5⟩:=l49;obtain⟨_,V6⟩:=l50;obtain⟨_,V7⟩:=l51;obtain⟨_,V8⟩:=l52;obtain⟨_,V9⟩:=l53;obtain⟨_,V_⟩:=l54;obtain⟨_,Wa⟩:=l55;obtain⟨_,Wb⟩:=l56;obtain⟨_,Wc⟩:=l57;obtain⟨_,Wd⟩:=l58;obtain⟨_,We⟩:=l59;obtain⟨_,Wf⟩:=l60;obtain⟨_,XR⟩:=l61;obtain⟨oc,od,kV,doc,pm,an,Fm,ct,M7,rfl,lk,LY⟩:=XR.ex;refine⟨PySem.W.fnOf "law" "law" (Gv sI) (F_ sI) (h_ sI) .none kV doc pm an Fm ct,fun s v=>.of_eq rfl,fun base _ _=>?_⟩;have q:=@cF l.prog w K mg base h X G;have r:=@cM l.prog w K mg base;have C0:=q a0 F0 (MK F0 fun _ _ _ _ _ _ _ _ _=>rfl) (um T  F0);have C1:=q a1 F1 (Jv F1 fun _ _ _ _ _ _ _ _=>rfl) (tq T  F1);have C2:=q a2 F2 (KQ F2 fun _ _ _ _ _ _ _=>rfl) (oQ T C1 C0 F2);have C3:Md l.prog w K mg base (A_ l.prog w) "Sender" z_ 1 ["self","window","most"] (bZ (⟨Fc,z_,Fv,Ig,GV⟩:Cs)):=⟨⟨f3,_,PySem.W.mg_of X G NN,⟨NZ,a3,i3,N0⟩,(MK F3 fun _ _ _ _ _ _ _ _ _=>rfl),lZ T  F3⟩⟩;have C4:Md l.prog w K mg base (A_ l.prog w) "Hearer" Fc 1 ["self","window"] (bQ (⟨Fc,z_,Fv,Ig,GV⟩:Cs)):=⟨⟨f4,_,PySem.W.mg_of X G NM,⟨NT,a4,i4,NU⟩,(Jv F4 fun _ _ _ _ _ _ _ _=>rfl),me T  F4⟩⟩;have C5:Md l.prog w K mg base (A_ l.prog w) "World" Fv 3 ["self","window","most"] (cH (⟨Fc,z_,Fv,Ig,GV⟩:Cs)):=⟨⟨f5,_,PySem.W.mg_of X G ON,⟨OS,a5,i5,OT⟩,(MK F5 fun _ _ _ _ _ _ _ _ _=>rfl),m0 T C3 C4 F5⟩⟩;have C6:=q a6 F6 (Jv F6 fun _ _ _ _ _ _ _ _=>rfl) (ug T C1 C0 F6);have C7:=q a7 F7 (KQ F7 fun _ _ _ _ _ _ _=>rfl) (ua T  F7);have C8:=q a8 F8 (KQ F8 fun _ _ _ _ _ _ _=>rfl) (pJ T  F8);have C9:=q a9 F9 (Jv F9 fun _ _ _ _ _ _ _ _=>rfl) (vo T  F9)
 have Wg:=q ZQ Vq (Jv Vq fun _ _ _ _ _ _ _ _=>rfl) (yG T C9 Vq);have C11:=q ZS Vr (KQ Vr fun _ _ _ _ _ _ _=>rfl) (vh T C9 Wg Vr);have C12:=q ZU Vs (KQ Vs fun _ _ _ _ _ _ _=>rfl) (uE T Wg Vs);have XS:=q ZW Vt (KQ Vt fun _ _ _ _ _ _ _=>rfl) (vX T C9 C11 C12 Vt);have XT:=q ZY Vu (KQ Vu fun _ _ _ _ _ _ _=>rfl) (BV T Wg C8 C7 XS Vu);have C15:=r Z0 Z1 Vv (Jv Vv fun _ _ _ _ _ _ _ _=>rfl) (nG T  Vv);have XU:=r Z3 Z4 Vw (Jv Vw fun _ _ _ _ _ _ _ _=>rfl) (lv T  Vw);have C17:=q Z6 Vx (MK Vx fun _ _ _ _ _ _ _ _ _=>rfl) (q0 T C15 XT XU Vx);have XW:=q Z8 Vy (Jv Vy fun _ _ _ _ _ _ _ _=>rfl) (tI T  Vy);have C19:=r Z_ i19 Vz (Jv Vz fun _ _ _ _ _ _ _ _=>rfl) (p6 T XW Vz);have C20:=r a20 i20 VA (Jv VA fun _ _ _ _ _ _ _ _=>rfl) (q8 T C19 VA);have C21:=q a21 VB (Jv VB fun _ _ _ _ _ _ _ _=>rfl) (oN T C0 VB);have C22:=q a22 VC (KQ VC fun _ _ _ _ _ _ _=>rfl) (vJ T  VC);have C23:=q a23 VD (KQ VD fun _ _ _ _ _ _ _=>rfl) (wc T XS C22 C8 VD);have XX:=r a24 i24 VE (MK VE fun _ _ _ _ _ _ _ _ _=>rfl) (lz T C23 VE);have XY:=q a25 VF (Jv VF fun _ _ _ _ _ _ _ _=>rfl) (ub T  VF);have C26:=r a26 i26 VG (Jv VG fun _ _ _ _ _ _ _ _=>rfl) (mn T XY VG);have C27:=r a27 i27 VH (KQ VH fun _ _ _ _ _ _ _=>rfl) (nU T  VH);have C28:=r a28 i28 VI (KQ VI fun _ _ _ _ _ _ _=>rfl) (pf T C27 C26 VI);have C29:=r a29 i29 VJ (KQ VJ fun _ _ _ _ _ _ _=>rfl) (qX T C28 XX VJ);have SN:=r a30 i30 VL (MK VL fun _ _ _ _ _ _ _ _ _=>rfl) (lO T  VL);have XZ:=r a31 i31 VM (Jv VM fun _ _ _ _ _ _ _ _=>rfl) (oM T  VM);have C32:=r a32 i32 VN (Jv VN fun _ _ _ _ _ _ _ _=>rfl) (ko T XZ VN);have X0:=q a33 VO (Jv VO fun _ _ _ _ _ _ _ _=>rfl) (rg T  VO);have X1:=q a34 VP (MK VP fun _ _ _ _ _ _ _ _ _=>rfl) (qT T  VP);have C35:=r a35 i35 VQ (MK VQ fun _ _ _ _ _ _ _ _ _=>rfl) (pH T X0 X1 VQ);have C36:=q a36 VR (KQ VR fun _ _ _ _ _ _ _=>rfl) (qZ T  VR);have C37:=r a37 i37 VS (Jv VS fun _ _ _ _ _ _ _ _=>rfl) (pA T C36 VS);have C38:=r a38 i38 VT (KQ VT fun _ _ _ _ _ _ _=>rfl) (lS T C37 VT);have C39:=r a39 i39 VU (KQ VU fun _ _ _ _ _ _ _=>rfl) (pr T XY VU);have C40:=r a40 i40 VW (ZN VW fun _ _ _ _ _ _ _ _ _ _=>rfl) (kL T C35 C38 C39 VW);have C41:=r a41 i41 VX (Jv VX fun _ _ _ _ _ _ _ _=>rfl) (o0 T C32 C40 VX);have X2:=r a42 i42 VY (KQ VY fun _ _ _ _ _ _ _=>rfl) (lu T XW VY);have C43:=r a43 i43 VZ (Jv VZ fun _ _ _ _ _ _ _ _=>rfl) (lB T  VZ);have C44:=r a44 i44 V0 (Jv V0 fun _ _ _ _ _ _ _ _=>rfl) (kt T  V0);have C45:=r a45 i45 V1 (MK V1 fun _ _ _ _ _ _ _ _ _=>rfl) (kA T X0 X1 C43 C44 V1);have C46:=r a46 i46 V2 (Jv V2 fun _ _ _ _ _ _ _ _=>rfl) (lA T X2 C45 V2);have C47:=r a47 i47 V3 (Jv V3 fun _ _ _ _ _ _ _ _=>rfl) (o5 T C46 V3);have C48:=r a48 i48 V4 (MK V4 fun _ _ _ _ _ _ _ _ _=>rfl) (oJ T XT C41 XX C47 V4);have C49:=r a49 i49 V5 (Jv V5 fun _ _ _ _ _ _ _ _=>rfl) (rf T SN C48 V5);have C50:=r a50 i50 V6 (MK V6 fun _ _ _ _ _ _ _ _ _=>rfl) (rD T SN V6);have C51:=r a51 i51 V7 (MK V7 fun _ _ _ _ _ _ _ _ _=>rfl) (o4 T SN V7);have C52:=q a52 V8 (MK V8 fun _ _ _ _ _ _ _ _ _=>rfl) (wz T  V8);have C53:=r a53 i53 V9 (ZO V9 fun _ _ _ _ _ _ _ _ _ _ _=>rfl) (qy T SN C52 V9);have C54:=r a54 i54 V_ (KQ V_ fun _ _ _ _ _ _ _=>rfl) (pB T  V_);have C55:=r a55 i55 Wa (KQ Wa fun _ _ _ _ _ _ _=>rfl) (pM T XZ Wa);have C56:=r a56 i56 Wb (Jv Wb fun _ _ _ _ _ _ _ _=>rfl) (qQ T C54 C55 Wb);have C57:=r a57 i57 Wc (KQ Wc fun _ _ _ _ _ _ _=>rfl) (oZ T X2 Wc);have C58:=r a58 i58 Wd (KQ Wd fun _ _ _ _ _ _ _=>rfl) (qp T C57 Wd);have C59:=q a59 We (Jv We fun _ _ _ _ _ _ _ _=>rfl) (vY T C21 C20 C29 C49 C50 C51 C0 C53 C56 C58 We);have C60:=q a60 Wf (MK Wf fun _ _ _ _ _ _ _ _ _=>rfl) (qO T  Wf);exact IP.imp (Dd T C2 C5 C6 C59 C17 C60 XU XR) (zd (zm _))
theorem walk{l:PySem.W.OpenLaw}{q:Program}{loose:List Str}{XP:(Str->Option Value)->Heap->Prop}{YP:World->Heap->Prop}{d:DefRec}{K:Params->PySem.W.Frag}(hn:l.most=some 63)(QZ:d.params.defaults=[])
  (hY:∀(w:World) (h:Heap),YP w h->(K w.params).In h)
  (F:∀(w:World) (mg:Str->Option Value) (fa:Addr) (h:Heap),(K w.params).In h->h.Ns mainGlobals mg->mg d.name=some (.ref fa)->
   ∃fd:FuncData,(∀(s:Shared) (u:Value),BindsTo s fd ⟨[u],[]⟩ [("_law_script",u)])/\∀base:Heap,(K w.params).In base->base.Ns mainGlobals mg->IP l.prog w (K w.params) mg base (A_ l.prog w) 10 fa fd ["_law_script"] (xM (K w.params))) :
  PySem.W.WalkO q loose XP YP l.row.toRowW d [] (fun f vs=>PySem.call f vs):=
 L2.Og (n:=63) (k:=10) (x:="_law_script") (CX:=fun w=>A_ l.prog w) (sp:=fun w=>xM (K w.params)) hn (by decide) QZ ⟨rfl,by decide,by decide⟩ hY F (fun _ _ a ns hl ho hS=>⟨a,ns,rfl,hS,hl,ho,fun _=>rfl⟩) fun _ _ _ _ _ z=>yY z
end Lw
end
open PySem PySem.W PyProof.Rows
set_option maxRecDepth 100000 in
set_option maxHeartbeats 0 in
theorem PySem.Challenge.cw_sureroad_k19_what_lies_on_roads_holds : PySem.Challenge.rw_sureroad_k19_what_lies_on_roads.Holds := by
 w_on;o_law;k_head;(case hw=>w_witness2)
 k_fill
 refine Lw.walk (l:=PySem.Challenge.rw_sureroad_k19_what_lies_on_roads) rfl rfl (fun w h Y=>PySem.W.kIn_of Y) ?F
 case F=>
  intro w mg fa h KX G hmg;apply Lw.all_mk KX G hmg
  all_goals (first|k_is|(unfold Lw.nI;k_is)|(unfold Lw.fI;k_is)|(unfold Lw.iF;k_is)|(unfold Lw.nN;k_is)|(unfold Lw.fN;k_is)|(refine' Lw.oF_mk ?l ?c ?k;(case l=>k_is);(case c=>k_is);(case k=>k_is))|rfl|decide +kernel|k_exc)
