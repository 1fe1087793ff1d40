import PyProof.Rows.All
import Wide.All
import OpenK.AllK
import Wide.FinOn
import Lean
import PyProof.EqAt
import PyProof.EqKinds
import PyProof.TupleCall
import PyProof.P3Eq
import PyProof.NeKinds
import PyProof.StationsW
import PyProof.ExcClass3
import PyProof.NsDelKeeps
import PyProof.RulesAs
import PyProof.ListRange
import PyProof.ExcArgsOwn
import PyProof.IsiH_list
import PySem.Challenge.RW_sureroad_k12_roads
set_option Elab.async false
set_option linter.all false
set_option maxRecDepth 100000
set_option maxHeartbeats 4000000
def PySem.W.Fast.tw13139470651012984925:=0
def PySem.W.Fast.tw6390286686966029741:=0
def PySem.W.Fast.tw1222250545695902249:=0
def PySem.W.Fast.tw3997238803623453035:=0
def PySem.W.Fast.tw10101365679391110198:=0
def PySem.W.Fast.tw6790806313290277789:=0
def PySem.W.Fast.tw8264193252191846831:=0
def PySem.W.Fast.tw6229474210517174568:=0
def PySem.W.Fast.tw5617323646186299363:=0
def PySem.W.Fast.tw18144217580336635796:=0
def PySem.W.Fast.tw1155010527306956865:=0
def PySem.W.Fast.tw5919525771810456605:=0
def PySem.W.Fast.tw14056285086492889547:=0
def PySem.W.Fast.tw6603053485715749788:=0
def PySem.W.Fast.tw4645938547288547621:=0
def PySem.W.Fast.tw1908840411593158397:=0
def PySem.W.Fast.tw2114746345006203060:=0
def PySem.W.Fast.tw14608514452966875387:=0
def PySem.W.Fast.tw13506453547340992615:=0
def PySem.W.Fast.tw7022328528954167987:=0
noncomputable section
namespace L2
open PySem PySem.Spec PyProof.Rows
abbrev Key:=Sum Int Str
def sD:Key->Value->Bool
 |.inl k,v=>Value.isInt k v
 |.inr x,v=>Value.isStrOf x v
def DV(w:World):Key->Int
 |.inl k=>hashInt k
 |.inr x=>hashStr w x
theorem dq:∀{k:Key}{v:Value},sD k v=true->(∃i t,k=Sum.inl i/\v=Value.int i t)\/(∃x t,k=Sum.inr x/\v=Value.str x t)
 |.inl i,v,h=>by
  obtain⟨t,e⟩:=Value.isInt_shape (k:=i) (v:=v) h;exact .inl ⟨i,t,rfl,e⟩
 |.inr x,v,h=>by
  obtain⟨t,e⟩:=Value.isStrOf_shape (x:=x) (v:=v) h;exact .inr ⟨x,t,rfl,e⟩
theorem xN(i:Int)(t:Tok):sD (.inl i) (.int i t)=true:=by simp[sD,Value.isInt]
theorem yC(x:Str)(t:Tok):sD (.inr x) (.str x t)=true:=by simp[sD,Value.isStrOf]
theorem Cu(a b:Int):decide ((Sum.inl a:Key)=Sum.inl b)=(a == b):=by
 by_cases e:a=b
 ·subst e;simp
 ·have h:¬(Sum.inl a:Key)=Sum.inl b:=fun q=>e (Sum.inl.inj q)
  rw[decide_eq_false h];exact(beq_eq_false_iff_ne.mpr e).symm
theorem B3(a b:Str):decide ((Sum.inr a:Key)=Sum.inr b)=decide (a=b):=by
 by_cases e:a=b
 ·subst e;simp
 ·have h:¬(Sum.inr a:Key)=Sum.inr b:=fun q=>e (Sum.inr.inj q)
  rw[decide_eq_false h,decide_eq_false e]
theorem Cz(a:Int)(b:Str):decide ((Sum.inl a:Key)=Sum.inr b)=false:=decide_eq_false (fun q=>nomatch q)
theorem BQ(a:Str)(b:Int):decide ((Sum.inr a:Key)=Sum.inl b)=false:=decide_eq_false (fun q=>nomatch q)
def du(prog:Program)(w:World):PySem.KeyKind prog w Key where
 is:=sD
 hash:=DV w
 inj:=fun v a b ha hb=>by
  rcases dq ha with ⟨i,t,rfl,rfl⟩|⟨x,t,rfl,rfl⟩
  ·rcases dq hb with ⟨j,u,rfl,e⟩|⟨y,u,rfl,e⟩
   ·injection e with e1 _;rw[e1]
   ·exact nomatch e
  ·rcases dq hb with ⟨j,u,rfl,e⟩|⟨y,u,rfl,e⟩
   ·exact nomatch e
   ·injection e with e1 _;rw[e1]
 byValue:=fun k v h=>by
  rcases dq h with ⟨i,t,rfl,rfl⟩|⟨x,t,rfl,rfl⟩<;>rfl
 pyHash:=fun hv h=>by
  rcases dq hv with ⟨i,t,rfl,rfl⟩|⟨x,t,rfl,rfl⟩
  ·exact wpAny_pyHash_int h
  ·exact wpAny_pyHash_str h
 eqBool:=fun hu hv h=>by
  rcases dq hu with ⟨i,t,rfl,rfl⟩|⟨x,t,rfl,rfl⟩
  ·rcases dq hv with ⟨j,u,rfl,rfl⟩|⟨y,u,rfl,rfl⟩
   ·rw[Cu] at h;exact wpAny_eqBool_int h
   ·rw[Cz] at h;exact SeqAt.EqAt.int_str i t y u _ _ _ _ h
  ·rcases dq hv with ⟨j,u,rfl,rfl⟩|⟨y,u,rfl,rfl⟩
   ·rw[BQ] at h;exact SeqAt.EqAt.str_int x t j u _ _ _ _ h
   ·rw[B3] at h;exact wpAny_eqBool_str h
 «strs»:=fun k x t v h=>by
  rcases dq h with ⟨i,u,rfl,e⟩|⟨y,u,rfl,e⟩
  ·exact nomatch e
  ·injection e with e1 _
   subst e1;cases v<;>rfl
theorem u9(prog:Program)(w:World)(i:Int)(t:Tok):(du prog w).is (.inl i) (.int i t)=true:=xN i t
theorem uM(prog:Program)(w:World)(x:Str)(t:Tok):(du prog w).is (.inr x) (.str x t)=true:=yC x t
end L2
namespace L2
open PySem PySem.Spec PyProof.Rows
inductive V where
 |B_|bl (b:Bool)|int (i:Int)|str (x:Str)|OE (b:Array UInt8)|OF (b:UInt64)|ref (a:Addr)|ty (n:String)
 deriving DecidableEq
def RelV:V->Value->Prop
 |.B_,u=>u=Value.none
 |.bl b,u=>u=Value.bool b
 |.int i,u=>∃t,u=Value.int i t
 |.str x,u=>∃t,u=Value.str x t
 |.OE b,u=>∃t,u=Value.bytes b t
 |.OF b,u=>∃t,u=Value.float b t
 |.ref a,u=>u=Value.ref a
 |.ty n,u=>u=Value.type n
abbrev Vals:List V->List Value->Prop:=Paired RelV
theorem Vals.length{xs:List V}{us:List Value}(r:Vals xs us):xs.length=us.length:=Paired.length r
theorem Vals.get:∀{xs:List V}{us:List Value}{i:Nat}{x:V},Vals xs us->xs[i]?=some x->∃u,us[i]?=some u/\RelV x u
 |_,_,_,_,.nil,e=>by simp at e
 |_,_,0,_,.cons r _,e=>by simp at e;subst e;exact⟨_,rfl,r⟩
 |_,_,i+1,x,.cons _ t,e=>by
  obtain⟨u,h1,h2⟩:=Vals.get (i:=i) (x:=x) t (by simpa using e);exact⟨u,by simpa using h1,h2⟩
theorem Vals.set{x:V}{u:Value}(r:RelV x u):∀{xs:List V}{us:List Value}(i:Nat),Vals xs us->Vals (xs.set i x) (us.set i u)
 |_,_,_,.nil=>.nil
 |_,_,0,.cons _ t=>.cons r t
 |_,_,i+1,.cons q t=>.cons q (Vals.set r i t)
theorem Vals.append:∀{xs ys:List V}{us ws:List Value},Vals xs us->Vals ys ws->Vals (xs++ys) (us++ws)
 |_,_,_,_,.nil,s=>s
 |_,_,_,_,.cons r t,s=>.cons r (Vals.append t s)
theorem Vals.take:∀{xs:List V}{us:List Value}(n:Nat),Vals xs us->Vals (xs.take n) (us.take n)
 |_,_,0,_=>.nil
 |_,_,_+1,.nil=>.nil
 |_,_,n+1,.cons r t=>.cons r (Vals.take n t)
theorem Vals.drop:∀{xs:List V}{us:List Value}(n:Nat),Vals xs us->Vals (xs.drop n) (us.drop n)
 |_,_,0,r=>r
 |_,_,_+1,.nil=>.nil
 |_,_,n+1,.cons _ t=>Vals.drop n t
theorem Vals.none_of:∀{xs:List V}{us:List Value}{i:Nat},Vals xs us->xs[i]?=none->us[i]?=none:=fun {xs us i} r e=>by
 have h1:=r.length;have h2:xs.length<=i:=List.getElem?_eq_none_iff.mp e;exact List.getElem?_eq_none_iff.mpr (by omega)
def G7:Option V->Option Value->Prop
 |some v,some u=>RelV v u
 |none,none=>True
 |_,_=>False
def KV{κ:Type}:List (κ×V)->List (κ×Value)->Prop:=Paired fun(p:κ×V) (q:κ×Value)=>p.1=q.1/\RelV p.2 q.2
def kV:Key->V
 |.inl i=>.int i
 |.inr x=>.str x
inductive HO where
 |lst (xs:List V)
 |tup (xs:List V)
 |dK (kvs:List (Key×V))|dT (kvs:List (List Key×V))
 |set (S:Int->Bool) (n:Nat)
 |ins (C dx:Addr) (fs:List (Str×V))
 |own (x:Addr)
 |xd (fs:List (Str×V))
 |met (f x:Addr)
 |Pl (lo hi:Int)
 |Lr (o:Obj) (u:HO)
 |Oc (ps:Array Value)
 |ext (φ:Heap->Prop)
abbrev Hp:=Addr->Option HO
def upd(H:Hp)(a:Addr)(o:HO):Hp:=fun b=>if b=a then some o else H b
theorem bN{H:Hp}{a:Addr}{o:HO}:upd H a o a=some o:=by unfold upd;rw[if_pos rfl]
theorem bu{H:Hp}{a b:Addr}{o:HO}(h:b≠a):upd H a o b=H b:=by unfold upd;rw[if_neg h]
theorem CW{H:Hp}{a b:Addr}{o u:HO}(h:H a=some o)(h':H b=some u)(d:o≠u):a≠b:=by
 intro e;subst e;rw[h] at h';exact d (Option.some.inj h')
theorem bj{H:Hp}{a b:Addr}{o:HO}(h:H a=some o)(h':H b=none):a≠b:=by
 intro e;subst e;rw[h] at h';cases h'
section
variable(P:Program)(w:World)
def Fe(H:Hp)(h:Heap)(a:Addr):HO->Prop
 |.lst xs=>xs.length<=sizeLine/\∃(u_:List Value) (n:Nat),Vals xs u_/\h.get? a=some { cls:=.type "list",data:=.seq u_.toArray n }
 |.tup xs=>xs.length<=sizeLine/\∃u_:List Value,Vals xs u_/\IsTup h a u_.toArray
 |.dK kvs=>kvs.length<=sizeLine/\(a == sysModules)=false/\∃vs,KV kvs vs/\h.DictOf (du P w) a vs
 |.dT kvs=>kvs.length<=sizeLine/\(a == sysModules)=false/\∃xs:List (List Key×Addr×Value),
   Paired (fun(p:List Key×V) (q:List Key×Addr×Value)=>p.1=q.1/\H q.2.1=some (.tup (p.1.map kV))/\RelV p.2 q.2.2) kvs xs/\
   ∃o es ep,h.get? a=some o/\o.ExactDict/\o.data=.dict es ep/\es.toList=xs.map (entryOfKey (tupleKind (du P w)))/\(xs.map (·.1)).Nodup
 |.set S n=>h.SetOf (intKind P w) a S n
 |.ins C dx fs=>H dx=some (.own a)/\fs.length<=1000/\dx≠a/\h.get? a=some (PySem.W.instObj C dx)/\
   ∃mA,h.Ns1 dx mA/\(∀f,G7 (fs.lookup f) (mA f))/\PySem.Within mA (fs.map (·.1))
 |.own _=>∃o,h.get? a=some o
 |.xd fs=>∃mA,h.Ns1 a mA/\∀f,G7 (fs.lookup f) (mA f)
 |.Pl lo hi=>∃t u v,h.get? a=some { cls:=.type "range",data:=.fields #[.int lo t,.int hi u,.int 1 v] }
 |.Lr o u=>h.get? a=some o/\Fe H h a u
 |.Oc ps=>h.get? a=some { cls:=.none,data:=.fields ps }
 |.met f x=>h.get? a=some (PySem.W.methodObj (.ref f) (.ref x))
 |.ext φ=>φ h/\(∃o,h.get? a=some o)/\∀h1 h2:Heap,φ h1->(∀o,h1.get? a=some o->h2.get? a=some o)->φ h2
def Gq(H:Hp)(h:Heap):Prop:=∀a o,H a=some o->Fe P w H h a o
end
section
variable{P:Program}{w:World}{H H':Hp}{h h':Heap}{a:Addr}{o:HO}
theorem Fe.lt(x:Fe P w H h a o):a<h.objs.size:=by
 cases o with
 |lst xs=>obtain⟨_,_,_,_,e⟩:=x;exact Heap.lt_size e
 |tup xs=>obtain⟨_,_,_,p⟩:=x;exact p.lt
 |dK kvs=>obtain⟨_,_,_,_,o,_,_,e,_⟩:=x;exact Heap.lt_size e
 |dT kvs=>obtain⟨_,_,_,_,o,_,_,e,_⟩:=x;exact Heap.lt_size e
 |set S n=>obtain⟨o,_,_,_,e,_⟩:=x;exact Heap.lt_size e
 |ins C dx fs=>obtain⟨_,_,_,e,_⟩:=x;exact Heap.lt_size e
 |own y=>obtain⟨_,e⟩:=x;exact Heap.lt_size e
 |xd fs=>obtain⟨_,⟨_,_,_,e,_⟩,_⟩:=x;exact Heap.lt_size e
 |Pl lo hi=>obtain⟨_,_,_,e⟩:=x;exact Heap.lt_size e
 |Lr ob u=>obtain⟨e,_⟩:=x;exact Heap.lt_size e
 |Oc ps=>exact Heap.lt_size (show h.get? a=some _ from x)
 |met f y=>exact Heap.lt_size (show h.get? a=some _ from x)
 |ext φ=>obtain⟨_,⟨_,e⟩,_⟩:=x;exact Heap.lt_size e
theorem Paired.OG{α β:Type}{F G:α->β->Prop}:∀{PN:List α}{PO:List β},Paired F PN PO->(∀a b,F a b->G a b)->Paired G PN PO
 |_,_,.nil,_=>.nil
 |_,_,.cons r t,f=>.cons (f _ _ r) (Paired.OG t f)
theorem Fe.Jy(x:Fe P w H h a o)(k:∀b u,(b=a\/H b=some (.own a))->h.get? b=some u->h'.get? b=some u)
  (ho:∀b,H b=some (.own a)->H' b=some (.own a)) (ht:∀b xs,H b=some (.tup xs)->H' b=some (.tup xs)):Fe P w H' h' a o:=by
 induction o with
 |lst xs=>obtain⟨z,u_,n,r,e⟩:=x;exact⟨z,u_,n,r,k _ _ (.inl rfl) e⟩
 |tup xs=>obtain⟨z,u_,r,ob,e,c⟩:=x;exact⟨z,u_,r,ob,k _ _ (.inl rfl) e,c⟩
 |dK kvs=>obtain⟨z,y,vs,r,ob,es,ep,e,c⟩:=x;exact⟨z,y,vs,r,ob,es,ep,k _ _ (.inl rfl) e,c⟩
 |dT kvs=>
  obtain⟨z,y,xs,r,ob,es,ep,e,c⟩:=x;exact⟨z,y,xs,Paired.OG r fun p q z=>⟨z.1,ht _ _ z.2.1,z.2.2⟩,ob,es,ep,k _ _ (.inl rfl) e,c⟩
 |set S n=>obtain⟨ob,es,ep,t,e,c⟩:=x;exact⟨ob,es,ep,t,k _ _ (.inl rfl) e,c⟩
 |ins C dx fs=>
  obtain⟨d,z,ne,e,mA,⟨od,es,ep,e2,c⟩,r⟩:=x;exact⟨ho _ d,z,ne,k _ _ (.inl rfl) e,mA,⟨od,es,ep,k _ _ (.inr d) e2,c⟩,r⟩
 |own y=>obtain⟨ob,e⟩:=x;exact⟨ob,k _ _ (.inl rfl) e⟩
 |xd fs=>obtain⟨mA,⟨od,es,ep,e,c⟩,r⟩:=x;exact⟨mA,⟨od,es,ep,k _ _ (.inl rfl) e,c⟩,r⟩
 |Pl lo hi=>obtain⟨t,u,v,e⟩:=x;exact⟨t,u,v,k _ _ (.inl rfl) e⟩
 |Lr ob u ih=>obtain⟨e,q⟩:=x;exact⟨k _ _ (.inl rfl) e,ih q⟩
 |Oc ps=>
  have e:h.get? a=some { cls:=.none,data:=.fields ps }:=x;show h'.get? a=some { cls:=.none,data:=.fields ps };exact k a _ (.inl rfl) e
 |met f y=>
  have e:h.get? a=some (PySem.W.methodObj (.ref f) (.ref y)):=x;show h'.get? a=some (PySem.W.methodObj (.ref f) (.ref y));exact k a _ (.inl rfl) e
 |ext φ=>obtain⟨p,⟨o,e⟩,st⟩:=x;exact⟨st _ _ p fun o q=>k _ _ (.inl rfl) q,⟨o,k _ _ (.inl rfl) e⟩,st⟩
theorem Gq.lt(x:Gq P w H h)(e:H a=some o):a<h.objs.size:=(x a o e).lt
theorem Gq.fresh(x:Gq P w H h)(e:h.objs.size<=a):H a=none:=by
 cases q:H a with
 |none=>rfl
 |some u=>exact absurd (Nat.lt_of_lt_of_le (x.lt q) e) (Nat.lt_irrefl _)
theorem Gq.kept(x:Gq P w H h)(k:∀b u,h.get? b=some u->h'.get? b=some u):Gq P w H h':=fun a o e=>
 (x a o e).Jy (fun b u _ q=>k b u q) (fun _ q=>q) fun _ _ q=>q
theorem Gq.laid(x:Gq P w H h)(k:∀b u,h.get? b=some u->h'.get? b=some u)(hp:h.objs.size<=a)(new:Fe P w (upd H a o) h' a o):Gq P w (upd H a o) h':=fun b u e=>by
 have hn:=x.fresh hp;by_cases hb:b=a
 ·subst hb;rw[bN] at e;cases e;exact new
 ·rw[bu hb] at e;exact(x b u e).Jy (fun c v _ q=>k c v q) (fun c q=>by rw[bu (bj q hn)];exact q) fun c xs q=>by rw[bu (bj q hn)];exact q
end
def Rd(H:Hp)(a:Addr)(u:HO):Prop:=H a=some u\/∃o,H a=some (.Lr o u)
theorem Rd.of{H:Hp}{a:Addr}{u:HO}(h:H a=some u):Rd H a u:=.inl h
theorem Rd.ok{P:Program}{w:World}{H:Hp}{h:Heap}{a:Addr}{u:HO}(r:Rd H a u)(x:Gq P w H h):Fe P w H h a u:=by
 rcases r with r|⟨o,r⟩
 ·exact x a u r
 ·obtain⟨_,q⟩:=x a _ r;exact q
def PQ:Option HO->Prop
 |some (.lst _)=>True
 |some (.dK _)=>True
 |some (.dT _)=>True
 |some (.set _ _)=>True
 |some (.ins _ _ _)=>True
 |some (.ext _)=>True
 |_=>False
section
variable{P:Program}{w:World}{H:Hp}{h h':Heap}{x e:Addr}{o':HO}
theorem Gq.write(ok:Gq P w H h)(mu:PQ (H x))(he:e=x\/H e=some (.own x))(k:∀b u,b≠e->h.get? b=some u->h'.get? b=some u)(Pm:∃u,h'.get? e=some u)
  (new:Fe P w (upd H x o') h' x o'):Gq P w (upd H x o') h':=fun b u q=>by
 have PR:∀c y,H c=some (.own y)->c≠x:=fun c y r z=>by subst z;rw[r] at mu;exact mu
 have Ru:∀c xs,H c=some (.tup xs)->c≠x:=fun c xs r z=>by subst z;rw[r] at mu;exact mu
 by_cases hb:b=x
 ·subst hb;rw[bN] at q;cases q;exact new
 ·rw[bu hb] at q;by_cases Jz:b=e
  ·have q':H b=some (.own x):=by
    rcases he with z|z
    ·exact absurd (Jz.trans z) hb
    ·rw[Jz];exact z
   rw[q] at q';cases q';obtain⟨v,hv⟩:=Pm;exact⟨v,by rw[Jz];exact hv⟩
  ·refine(ok b u q).Jy (fun c v hc r=>k c v ?_ r) (fun c r=>by rw[bu (PR c b r)];exact r) fun c xs r=>by rw[bu (Ru c xs r)];exact r
   rcases hc with rfl|hc
   ·exact Jz
   ·rintro rfl;rcases he with z|z
    ·exact PR c b hc z
    ·rw[hc] at z;cases z;exact hb rfl
end
structure Un(fs ex:List Addr)(H H':Hp)(h h':Heap):Prop where
 keep:∀b o,h.get? b=some o->H b=none->b∉fs->b∉ex->h'.get? b=some o
 slot:∀b o,h.get? b=some o->H b=none->b∈fs->b∉ex->∃sl,h'.get? b=some { o with slots:=sl }
 free:∀b o,h.get? b=some o->H b=none->b∉ex->H' b=none
 there:∀b o,h.get? b=some o->b∉ex->∃o',h'.get? b=some o'
 HI:∀b xs,H b=some (.tup xs)->H' b=some (.tup xs)
 HA:∀b o u,H b=some (.Lr o u)->H' b=some (.Lr o u)
 HJ:∀b ps,H b=some (.Oc ps)->∃more,H' b=some (.Oc (ps++more))
section
variable{fs Rv ex Vo:List Addr}{H H1 H2:Hp}{h h1 h2 h':Heap}{a x e:Addr}{o:HO}
theorem Un.any(u:Un fs ex H H1 h h1){b:Addr}{ob:Obj}(q:h.get? b=some ob)(n:H b=none)(hx:b∉ex):∃sl,h1.get? b=some { ob with slots:=sl }:=by
 by_cases hb:b∈fs
 ·exact u.slot b ob q n hb hx
 ·exact⟨ob.slots,u.keep b ob q n hb hx⟩
theorem Un.trans(a:Un fs ex H H1 h h1)(b:Un fs ex H1 H2 h1 h2):Un fs ex H H2 h h2 where
 keep:=fun c ob q n hc hx=>b.keep c ob (a.keep c ob q n hc hx) (a.free c ob q n hx) hc hx
 slot:=fun c ob q n hc hx=>by
  obtain⟨sl,e1⟩:=a.slot c ob q n hc hx;obtain⟨Rw,e2⟩:=b.slot c _ e1 (a.free c ob q n hx) hc hx;exact⟨Rw,e2⟩
 free:=fun c ob q n hx=>by
  obtain⟨o',e1⟩:=a.there c ob q hx;exact b.free c o' e1 (a.free c ob q n hx) hx
 there:=fun c ob q hx=>by
  obtain⟨o',e1⟩:=a.there c ob q hx;exact b.there c o' e1 hx
 HI:=fun c xs q=>b.HI c xs (a.HI c xs q)
 HA:=fun c ob xs q=>b.HA c ob xs (a.HA c ob xs q)
 HJ:=fun c ps q=>by
  obtain⟨m1,e1⟩:=a.HJ c ps q;obtain⟨m2,e2⟩:=b.HJ c _ e1;exact⟨m1++m2,by rw[e2,Array.append_assoc]⟩
theorem Un.kept(k:∀b u,h.get? b=some u->h'.get? b=some u):Un fs ex H H h h':=
 ⟨fun b ob q _ _ _=>k b ob q,fun b ob q _ _ _=>⟨ob.slots,k b ob q⟩,fun _ _ _ n _=>n,fun b ob q _=>⟨ob,k b ob q⟩,fun _ _ q=>q,fun _ _ _ q=>q,fun _ ps q=>⟨#[],by rw[q];simp⟩⟩
theorem Un.refl:Un fs ex H H h h:=Un.kept fun _ _ q=>q
theorem Un.laid(k:∀b u,h.get? b=some u->h'.get? b=some u)(hp:h.objs.size<=a)(hn:H a=none):Un fs ex H (upd H a o) h h' where
 keep:=fun b u q _ _ _=>k b u q
 slot:=fun b u q _ _ _=>⟨u.slots,k b u q⟩
 free:=fun b u q n _=>by rw[bu (Nat.ne_of_lt (Nat.lt_of_lt_of_le (Heap.lt_size q) hp))];exact n
 there:=fun b u q _=>⟨u,k b u q⟩
 HI:=fun b xs q=>by rw[bu (bj q hn)];exact q
 HA:=fun b u xs q=>by rw[bu (bj q hn)];exact q
 HJ:=fun b ps q=>⟨#[],by rw[bu (bj q hn),q];simp⟩
theorem Un.write(mu:PQ (H x))(he:e=x\/H e=some (.own x))(k:∀b u,b≠e->h.get? b=some u->h'.get? b=some u)(Pm:∃u,h'.get? e=some u):Un fs ex H (upd H x o) h h':=by
 have hx:∀b,H b=none->b≠x:=fun b n z=>by subst z;rw[n] at mu;exact mu
 have hb:∀b,H b=none->b≠e:=fun b n z=>by
  subst z;rcases he with r|r
  ·exact hx b n r
  ·rw[n] at r;cases r
 have hm:∀b u,H b=some u->¬PQ (some u)->b≠x:=fun b u q nm z=>by subst z;rw[q] at mu;exact nm mu
 refine⟨fun b u q n _ _=>k b u (hb b n) q,fun b u q n _ _=>⟨u.slots,k b u (hb b n) q⟩,fun b u q n _=>by rw[bu (hx b n)];exact n,fun b u q _=>?_,
  fun b xs q=>by rw[bu (hm b _ q fun z=>z)];exact q,fun b u xs q=>by rw[bu (hm b _ q fun z=>z)];exact q,fun b ps q=>⟨#[],by rw[bu (hm b _ q fun z=>z),q];simp⟩⟩
 by_cases Jz:b=e
 ·subst Jz;exact Pm
 ·exact⟨u,k b u Jz q⟩
theorem Un.mono(u:Un fs ex H H1 h h1)(hs:∀b∈fs,b∈Rv)(hx:∀b∈ex,b∈Vo):Un Rv Vo H H1 h h1:=
 ⟨fun b ob q n hb he=>u.keep b ob q n (fun z=>hb (hs b z)) fun z=>he (hx b z),fun _ _ q n _ he=>u.any q n fun z=>he (hx _ z),fun b ob q n he=>u.free b ob q n fun z=>he (hx b z),fun b ob q he=>u.there b ob q fun z=>he (hx b z),u.HI,u.HA,u.HJ⟩
end
def QM(h:Heap)(H:Hp):List Addr:=(List.range h.objs.size).filter fun a=>(H a).isSome
def tS(h:Heap)(H:Hp):Heap:=PySem.W.hideAll h (QM h H)
theorem yD(h:Heap)(H:Hp):(tS h H).objs.size=h.objs.size:=PySem.W.hideAll_size _ _
theorem Af{h:Heap}{H:Hp}{b:Addr}{o:Obj}(e:h.get? b=some o)(n:H b=none):(tS h H).get? b=some o:=
 PySem.W.hideAll_get _ e fun hm=>by
  have q:(H b).isSome=true:=(List.mem_filter.mp hm).2;rw[n] at q;simp at q
theorem Bz{h:Heap}{H:Hp}{b:Addr}{o:Obj}(e:(tS h H).get? b=some o):h.get? b=some o/\H b=none:=by
 have e':h.get? b=some o:=PySem.W.of_hideAll (QM h H) e;refine⟨e',?_⟩;cases q:H b with
 |none=>rfl
 |some x=>
  have hm:b∈QM h H:=List.mem_filter.mpr ⟨List.mem_range.mpr (Heap.lt_size e'),by simp[q]⟩;have z:(tS h H).get? b=none:=PySem.W.hideAll_none (QM h H) hm;rw[z] at e;cases e
def Bp(g h:Heap)(L:Addr):List (Addr×Obj):=(List.range h.objs.size).filterMap fun a=>if a=L\/(g.get? a).isSome=true then none else (h.get? a).map fun o=>(a,o)
def rest(g h:Heap)(L d:Addr):List (Addr×Obj):=(Bp g h L).filter fun p=>decide (p.1≠d)
end L2
namespace L2
open PySem PySem.Spec PyProof.Rows
structure Mod(K:PySem.W.Frag)(mg:Str->Option Value)(base:Heap):Prop where
 Pn:K.In base
 glob:base.Ns mainGlobals mg
 blt:∃mb,base.Ns builtinsNs mb/\∀x:Str,x≠"__name__"->mb x=bootBuiltins x
 nolimit:base.NoLimit
structure Cx where
 prog:Program
 w:World
 K:PySem.W.Frag
 mg:Str->Option Value
 base:Heap
 A:Around
 N:List Str
 Gk:Shared
 Mw:Hp
 env:Env
 outer:List Env
 stack:List Env
 ex:List Addr
 fn:Str->Bool
 calm:Bool
 pn:List (Addr×Obj)
 xe:Value->Shared->Prop
def Lj(l:List Env):List Addr:=l.filterMap (·.frame)
abbrev Cx.fs(X:Cx):List Addr:=Lj X.outer
def Rx(sc:Scope)(x:Str):Prop:=sc.names.lookup x=some .local\/sc.names.lookup x=some .cell\/sc.names.lookup x=some .free
def Loc(sc:Scope)(x:Str):Prop:=sc.names.lookup x=some .local\/sc.names.lookup x=some .cell
def Look(env:Env)(h:Heap)(m:Str->Option Value)(x:Str)(u:Value):Prop:=
 (env.kindOf x=some .local/\m x=some u)\/((env.kindOf x=some .cell\/env.kindOf x=some .free)/\∃c,env.cells.lookup x=some c/\h.IsCell c (some u))
structure Cx.Ok(X:Cx):Prop where
 mod:Mod X.K X.mg X.base
 kind:X.env.scope.kind=.function
 glob:X.env.globals=mainGlobals
 blt:X.env.builtins=builtinsNs
 above:X.Gk.heap.objs.size<=X.env.locals
 inj:∀x y c,X.env.cells.lookup x=some c->X.env.cells.lookup y=some c->x=y
 has:∀x,(X.env.kindOf x=some .cell\/X.env.kindOf x=some .free)->∃c,X.env.cells.lookup x=some c
 Po:∀x c,X.fn x=true->X.env.cells.lookup x=some c->X.Gk.heap.objs.size<=c
 hd:X.calm=true->X.A.handled=none
 frames:X.A.frames=some X.stack
 PS:X.stack=X.outer\/(X.stack=X.env :: X.outer/\X.env.frame=some X.env.locals)
 Ry:∀b∈X.ex,b≠X.env.locals/\∀x c,X.env.cells.lookup x=some c->c≠b
 bs:∀b o,X.base.get? b=some o->X.Gk.heap.get? b=some o/\X.Mw b=none
 Ml:X.base.objs.size<=X.Gk.heap.objs.size
 L4:∀b o,X.base.get? b=some o->b∉X.ex
 Mx:∀b∈X.ex,b∉X.fs
 HX:X.Gk.heap.FunFrames X.base X.outer
 Nq:∀b∈X.fs,X.Mw b=none
structure Inv(X:Cx)(pins:List (Addr×Obj))(σ:List (Option V))(H:Hp)(s:Shared):Prop where
 ok:X.Ok
 os:s.os=X.Gk.os
 bare:AllBare s.gens
 base:Un X.fs X.ex X.Mw H X.Gk.heap s.heap
 loc:∃m,s.heap.Ns X.env.locals m/\∀(i:Nat) (x:Str) (v:V),X.N[i]?=some x->σ[i]?=some (some v)->Rx X.env.scope x->∃u,RelV v u/\Look X.env s.heap m x u
 cell:∀x c,X.env.cells.lookup x=some c->∃v,s.heap.IsCell c v
 free:H X.env.locals=none
 Hc:∀x c,X.env.cells.lookup x=some c->H c=none
 pin:∀p∈X.pn++pins,s.heap.get? p.1=some p.2/\H p.1=none/\p.1≠X.env.locals/\p.1∉X.fs/\∀v,p.2.data≠.cell v
 EI:Gq X.prog X.w H s.heap
 len:σ.length=X.N.length
section
variable{X:Cx}{pins:List (Addr×Obj)}{σ:List (Option V)}{H H':Hp}{s:Shared}{h':Heap}
theorem Cx.Ok.Rz(ok:X.Ok){b:Addr}{o:Obj}(e:X.base.get? b=some o):b∉X.fs:=fun hb=>by
 have:=(ok.HX.mem hb).1;rw[e] at this;cases this
theorem Inv.bs(I:Inv X pins σ H s):∀b o,X.base.get? b=some o->s.heap.get? b=some o/\H b=none:=fun b o e=>
 ⟨I.base.keep b o (I.ok.bs b o e).1 (I.ok.bs b o e).2 (I.ok.Rz e) (I.ok.L4 b o e),I.base.free b o (I.ok.bs b o e).1 (I.ok.bs b o e).2 (I.ok.L4 b o e)⟩
theorem Inv.bk(I:Inv X pins σ H s):∀b o,X.base.get? b=some o->s.heap.get? b=some o:=fun b o e=>(I.bs b o e).1
theorem Inv.mod(I:Inv X pins σ H s):Mod X.K X.mg X.base:=I.ok.mod
theorem Inv.IY(I:Inv X pins σ H s):X.K.In s.heap:=I.ok.mod.Pn.keeps I.bk
theorem Inv.nolimit(I:Inv X pins σ H s):s.heap.NoLimit:=I.ok.mod.nolimit.keeps I.bk
theorem Inv.fr(I:Inv X pins σ H s):∃m,Fr X.base X.env.locals s.heap m:=
 let ⟨m,hn,_⟩:=I.loc
 ⟨m,hn,I.bk,Nat.le_trans I.ok.Ml I.ok.above⟩
theorem Inv.lt(I:Inv X pins σ H s):X.env.locals<s.heap.objs.size:=let ⟨_,hn,_⟩:=I.loc;hn.lt
theorem Inv.sz(I:Inv X pins σ H s):X.Gk.heap.objs.size<=s.heap.objs.size:=Nat.le_trans I.ok.above (Nat.le_of_lt I.lt)
theorem Inv.RA(I:Inv X pins σ H s){a:Addr}(h:s.heap.objs.size<=a):a∉X.fs:=fun hb=>by
 obtain⟨_,o,ho,_⟩:=I.ok.HX.mem hb;exact absurd (Nat.lt_of_lt_of_le (Heap.lt_size ho) (Nat.le_trans I.sz h)) (Nat.lt_irrefl _)
theorem Inv.OH(I:Inv X pins σ H s):∀x c,X.env.cells.lookup x=some c->c≠X.env.locals:=fun x c e z=>by
 obtain⟨v,o,ho,hd⟩:=I.cell x c e;obtain⟨m,⟨o',es,ep,Ls,JA,_⟩,_⟩:=I.loc;rw[z,Ls] at ho;cases ho;rw[JA] at hd;cases hd
theorem Inv.HX(I:Inv X pins σ H s):s.heap.FunFrames X.base X.outer:=by
 have all:∀(l:List Env),(∀b∈Lj l,b∈X.fs)->X.Gk.heap.FunFrames X.base l->s.heap.FunFrames X.base l:=by
  intro l
  induction l with
  |nil=>intro _ _;trivial
  |cons env r ih=>
   intro hs hl;obtain⟨hk,⟨L,o,hf,hn,ho,hd⟩,hr⟩:=hl;have hL:L∈X.fs:=hs L (by unfold Lj;rw[List.filterMap_cons,hf];exact List.mem_cons_self);obtain⟨sl,e⟩:=I.base.slot L o ho (I.ok.Nq L hL) hL fun z=>I.ok.Mx L z hL
   exact⟨hk,⟨L,_,hf,hn,e,hd⟩,ih (fun b hb=>hs b (by unfold Lj;rw[List.filterMap_cons,hf];exact List.mem_cons_of_mem _ hb)) hr⟩
 exact all X.outer (fun _ hb=>hb) I.ok.HX
theorem Inv.stack(I:Inv X pins σ H s):s.heap.FunFrames X.base X.stack:=by
 rcases I.ok.PS with e|⟨e,hf⟩
 ·rw[e];exact I.HX
 ·rw[e];obtain⟨m,hn,_⟩:=I.loc;refine .cons (by rw[I.ok.kind];decide) hf hn ?_ I.HX;exact Heap.get?_none_of_le (Nat.le_trans I.ok.Ml I.ok.above)
theorem Inv.Kg(I:Inv X pins σ H s):∀b∈Lj X.stack,b∈X.env.locals :: X.fs:=fun b hb=>by
 rcases I.ok.PS with e|⟨e,hf⟩
 ·rw[e] at hb;exact List.mem_cons_of_mem _ hb
 ·rw[e] at hb;unfold Lj at hb;rw[List.filterMap_cons,hf] at hb;exact hb
theorem Inv.Kh(I:Inv X pins σ H s):∀b∈Lj X.stack,H b=none:=fun b hb=>by
 rcases List.mem_cons.mp (I.Kg b hb) with e|hb
 ·rw[e];exact I.free
 ·obtain⟨_,o,ho,_⟩:=I.ok.HX.mem hb;exact I.base.free b o ho (I.ok.Nq b hb) fun z=>I.ok.Mx b z hb
theorem Inv.step{g':Array GenState}{t':Nat}{d':Drawn}{ch:List Addr}(I:Inv X pins σ H s)
  (Mm:∀b∈ch,(b∈X.ex\/X.Gk.heap.objs.size<=b)/\b≠X.env.locals/\(∀x c,X.env.cells.lookup x=some c->c≠b)/\∀p∈X.pn++pins,p.1≠b)
  (keep:∀b o,b≠X.env.locals->b∉X.fs->b∉ch->s.heap.get? b=some o->H b=none->h'.get? b=some o)
  (slot:∀b o,b≠X.env.locals->b∈X.fs->b∉ch->s.heap.get? b=some o->H b=none->∃sl,h'.get? b=some { o with slots:=sl }) (free:∀b o,b∉ch->s.heap.get? b=some o->H b=none->H' b=none)
  (there:∀b o,b∉ch->s.heap.get? b=some o->∃o',h'.get? b=some o')
  (HI:∀b xs,H b=some (.tup xs)->H' b=some (.tup xs)) (HA:∀b o u,H b=some (.Lr o u)->H' b=some (.Lr o u)) (HJ:∀b ps,H b=some (.Oc ps)->∃more,H' b=some (.Oc (ps++more)))
  (ns:∀m,s.heap.Ns X.env.locals m->h'.Ns X.env.locals m) (EI:Gq X.prog X.w H' h') (hg:AllBare g') :
  Inv X pins σ H' { s with heap:=h',gens:=g',drawn:=d',toks:=t' }:=by
 have Vp:∀b o,X.Gk.heap.get? b=some o->b≠X.env.locals:=fun b o e=>Nat.ne_of_lt (Nat.lt_of_lt_of_le (Heap.lt_size e) I.ok.above)
 have QN:∀b o,X.Gk.heap.get? b=some o->b∉X.ex->b∉ch:=fun b o e hx hb=>by
  rcases (Mm b hb).1 with z|z
  ·exact hx z
  ·exact absurd (Nat.lt_of_lt_of_le (Heap.lt_size e) z) (Nat.lt_irrefl _)
 have cellK:∀x c,X.env.cells.lookup x=some c->∀v,s.heap.IsCell c v->h'.IsCell c v:=fun x c e v ⟨o,ho,hd⟩=>by
  have PU:c∉ch:=fun z=>(Mm c z).2.2.1 x c e rfl
  by_cases hc:c∈X.fs
  ·obtain⟨sl,q⟩:=slot c o (I.OH x c e) hc PU ho (I.Hc x c e);exact⟨_,q,hd⟩
  ·exact⟨o,keep c o (I.OH x c e) hc PU ho (I.Hc x c e),hd⟩
 refine⟨I.ok,I.os,hg,⟨fun b o e n hb hx=>?_,fun b o e n hb hx=>?_,fun b o e n hx=>?_,fun b o e hx=>?_,fun b xs e=>HI b xs (I.base.HI b xs e),fun b o xs e=>HA b o xs (I.base.HA b o xs e),fun b ps e=>?_⟩,?_,fun x c e=>?_,?_,fun x c e=>?_,fun p hp=>?_,EI,I.len⟩
 ·exact keep b o (Vp b o e) hb (QN b o e hx) (I.base.keep b o e n hb hx) (I.base.free b o e n hx)
 ·obtain⟨sl,e1⟩:=I.base.slot b o e n hb hx;obtain⟨Rw,e2⟩:=slot b _ (Vp b o e) hb (QN b o e hx) e1 (I.base.free b o e n hx);exact⟨Rw,e2⟩
 ·obtain⟨o',e1⟩:=I.base.there b o e hx;exact free b o' (QN b o e hx) e1 (I.base.free b o e n hx)
 ·obtain⟨o',e1⟩:=I.base.there b o e hx;exact there b o' (QN b o e hx) e1
 ·obtain⟨m1,e1⟩:=I.base.HJ b ps e;obtain⟨m2,e2⟩:=HJ b _ e1;exact⟨m1++m2,by rw[e2,Array.append_assoc]⟩
 ·obtain⟨m,hn,hl⟩:=I.loc;refine⟨m,ns m hn,fun i x v e1 e2 e3=>?_⟩;obtain⟨u,r,l⟩:=hl i x v e1 e2 e3;refine⟨u,r,?_⟩;rcases l with l|⟨k,c,e,z⟩
  ·exact .inl l
  ·exact .inr ⟨k,c,e,cellK x c e _ z⟩
 ·obtain⟨v,z⟩:=I.cell x c e;exact⟨v,cellK x c e v z⟩
 ·obtain⟨m,⟨o,_,_,ho,_⟩,_⟩:=I.loc;exact free _ o (fun z=>(Mm _ z).2.1 rfl) ho I.free
 ·obtain⟨v,o,ho,hd⟩:=I.cell x c e;exact free c o (fun z=>(Mm c z).2.2.1 x c e rfl) ho (I.Hc x c e)
 ·obtain⟨e,n,ne,nf,d⟩:=I.pin p hp;have PU:p.1∉ch:=fun z=>(Mm p.1 z).2.2.2 p hp rfl
  exact⟨keep p.1 p.2 ne nf PU e n,free p.1 p.2 PU e n,ne,nf,d⟩
theorem Inv.un{t':Nat}(I:Inv X pins σ H s)(u:Un X.fs [] H H' s.heap h')(EI:Gq X.prog X.w H' h'):Inv X pins σ H' { s with heap:=h',toks:=t' }:=by
 obtain⟨m,⟨o,es,ep,ho,r⟩,_⟩:=id I.loc;obtain⟨sl,hL⟩:=u.any ho I.free (by simp);exact I.step (g':=s.gens) (d':=s.drawn) (ch:=[]) (fun _ z=>nomatch z) (fun b o _ hb _ e n=>u.keep b o e n hb (by simp)) (fun b o _ hb _ e n=>u.slot b o e n hb (by simp)) (fun b o _ e n=>u.free b o e n (by simp)) (fun b o _ e=>u.there b o e (by simp)) u.HI u.HA u.HJ (fun m' hm=>by
  obtain⟨o',RB,RC,Ls,r'⟩:=hm;rw[ho] at Ls;cases Ls;exact⟨_,RB,RC,hL,r'⟩) EI I.bare
theorem Inv.call{g':Array GenState}{t':Nat}{d':Drawn}{ch:List Addr}(I:Inv X pins σ H s)(u:Un (Lj X.stack) ch H H' s.heap h')(EI:Gq X.prog X.w H' h')(hg:AllBare g')
  (Mm:∀b∈ch,(b∈X.ex\/X.Gk.heap.objs.size<=b)/\b≠X.env.locals/\(∀x c,X.env.cells.lookup x=some c->c≠b)/\∀p∈X.pn++pins,p.1≠b) :
  Inv X pins σ H' { s with heap:=h',gens:=g',drawn:=d',toks:=t' }:=by
 obtain⟨m,⟨o,es,ep,ho,r⟩,_⟩:=id I.loc;obtain⟨sl,hL⟩:=u.any ho I.free fun z=>(Mm _ z).2.1 rfl
 exact I.step (ch:=ch) Mm (fun b o hL hb hc e n=>u.keep b o e n (fun z=>(List.mem_cons.mp (I.Kg b z)).elim hL hb) hc) (fun b o _ _ hc e n=>u.any e n hc) (fun b o hc e n=>u.free b o e n hc) (fun b o hc e=>u.there b o e hc) u.HI u.HA u.HJ (fun m' hm=>by
  obtain⟨o',RB,RC,Ls,r'⟩:=hm;rw[ho] at Ls;cases Ls;exact⟨_,RB,RC,hL,r'⟩) EI hg
theorem Inv.turned{t':Nat}{it:Addr}(I:Inv X pins σ H s)(k:∀b o,b≠it->s.heap.get? b=some o->h'.get? b=some o)(hn:H it=none)(hL:it≠X.env.locals)
  (h1:it∈X.ex\/X.Gk.heap.objs.size<=it) (h2:∀x c,X.env.cells.lookup x=some c->c≠it) (h3:∀p∈X.pn++pins,p.1≠it):Inv X pins σ H { s with heap:=h',toks:=t' }:=by
 have Vq:∀b u,H b=some u->b≠it:=fun b u e z=>by rw[z,hn] at e;cases e
 refine I.step (g':=s.gens) (d':=s.drawn) (ch:=[it]) (fun b hb=>?_) (fun b o _ _ hc e _=>k b o (fun z=>hc (by simp[z])) e) (fun b o _ _ hc e _=>⟨o.slots,k b o (fun z=>hc (by simp[z])) e⟩) (fun _ _ _ _ n=>n)
  (fun b o hc e=>⟨o,k b o (fun z=>hc (by simp[z])) e⟩) (fun _ _ e=>e) (fun _ _ _ e=>e) (fun b ps e=>⟨#[],by rw[e];simp⟩) (fun m hm=>?_) (fun b u e=>?_) I.bare
 ·have e:b=it:=by simpa using hb
  subst e;exact⟨h1,hL,h2,h3⟩
 ·obtain⟨o,es,ep,ho,r⟩:=hm;exact⟨o,es,ep,k _ o (Ne.symm hL) ho,r⟩
 ·refine(I.EI b u e).Jy (fun c v hc q=>k c v ?_ q) (fun _ q=>q) fun _ _ q=>q
  rcases hc with z|z
  ·rw[z];exact Vq b u e
  ·exact Vq c _ z
theorem Inv.tok(I:Inv X pins σ H s)(t:Nat):Inv X pins σ H { s with toks:=t }:=I.un (h':=s.heap) (t':=t) Un.refl I.EI
theorem Inv.kept{t':Nat}(I:Inv X pins σ H s)(k:∀b u,s.heap.get? b=some u->h'.get? b=some u):Inv X pins σ H { s with heap:=h',toks:=t' }:=I.un (Un.kept k) (I.EI.kept k)
theorem Inv.laid{a:Addr}{o:HO}{t':Nat}(I:Inv X pins σ H s)(k:∀b u,s.heap.get? b=some u->h'.get? b=some u)(hp:s.heap.objs.size<=a)(new:Fe X.prog X.w (upd H a o) h' a o) :
  Inv X pins σ (upd H a o) { s with heap:=h',toks:=t' }:=I.un (Un.laid k hp (I.EI.fresh hp)) (I.EI.laid k hp new)
theorem Inv.write{x e:Addr}{o:HO}{t':Nat}(I:Inv X pins σ H s)(mu:PQ (H x))(he:e=x\/H e=some (.own x))(k:∀b u,b≠e->s.heap.get? b=some u->h'.get? b=some u)(Pm:∃u,h'.get? e=some u)
  (new:Fe X.prog X.w (upd H x o) h' x o):Inv X pins σ (upd H x o) { s with heap:=h',toks:=t' }:=I.un (Un.write mu he k Pm) (I.EI.write mu he k Pm new)
theorem Inv.Ki{Od:List (Addr×Obj)}(I:Inv X pins σ H s)(h:∀p∈Od,s.heap.get? p.1=some p.2/\H p.1=none/\p.1≠X.env.locals/\p.1∉X.fs/\∀v,p.2.data≠.cell v):Inv X Od σ H s:=
 ⟨I.ok,I.os,I.bare,I.base,I.loc,I.cell,I.free,I.Hc,fun p hp=>(List.mem_append.mp hp).elim (fun z=>I.pin p (List.mem_append_left _ z)) (h p),I.EI,I.len⟩
theorem uN{N:List Str}(hN:N.Nodup){i j:Nat}{x:Str}(a:N[i]?=some x)(b:N[j]?=some x):i=j:=by
 obtain⟨h1,e1⟩:=List.getElem?_eq_some_iff.mp a;obtain⟨h2,e2⟩:=List.getElem?_eq_some_iff.mp b;exact(List.getElem_inj hN).mp (e1.trans e2.symm)
theorem yH{M:Model}{A:Around}{E:Value->Shared->Prop}{i:Nat}{x:Str}{v:V}{u:Value}{Q:Unit->Shared->Prop}(I:Inv X pins σ H s)(hN:X.N.Nodup)(hi:X.N[i]?=some x)(hx:Loc X.env.scope x)(r:RelV v u)
  (h:∀s',Inv X pins (σ.set i (some v)) H s'->(∃a,Heap.SameBut a s.heap s'.heap/\(a=X.env.locals\/X.env.cells.lookup x=some a))->Q () s') (hf:X.fn x=true\/X.env.scope.names.lookup x=some .local:=by first|exact .inl rfl|exact .inr rfl|assumption):wpAny M A (storeName X.env x u) Q E s:=by
 obtain⟨m,hn,hl⟩:=id I.loc;have HY:(X.env.scope.kind == .class || (X.env.scope.kind == .module && X.env.locals != X.env.globals))=false:=by rw[I.ok.kind];rfl
 have PV:i<σ.length:=by rw[I.len];exact(List.getElem?_eq_some_iff.mp hi).1
 have OH:=I.OH;have tracked:∀{a:Addr}{h':Heap},(∃o,s.heap.get? a=some o/\H a=none)->Heap.SameBut a s.heap h'->Gq X.prog X.w H h':=fun {a h'} ha hs b ob e=>by
  obtain⟨_,_,LP⟩:=ha;refine(I.EI b ob e).Jy (fun c w' hc q=>(hs.2 c ?_).trans q) (fun _ q=>q) fun _ _ q=>q
  rintro rfl;rcases hc with rfl|hc
  ·rw[LP] at e;cases e
  ·rw[LP] at hc;cases hc
 rcases hx with hk|hk
 ·refine wpAny_storeName_local hk hn (fun h' QO hs=>?_) HY;obtain⟨oL,_,_,W_,_⟩:=id hn;refine h _ ⟨I.ok,I.os,I.bare,⟨fun b o e n hb hx=>?_,fun b o e n hb hx=>?_,I.base.free,fun b o e hx=>?_,I.base.HI,I.base.HA,I.base.HJ⟩,⟨_,QO,fun j y v' e1 e2 e3=>?_⟩,fun y c e=>?_,I.free,I.Hc,fun p hp=>?_,tracked ⟨oL,W_,I.free⟩ hs,by simpa using I.len⟩ ⟨_,hs,.inl rfl⟩
  ·exact(hs.2 b (Nat.ne_of_lt (Nat.lt_of_lt_of_le (Heap.lt_size e) I.ok.above))).trans (I.base.keep b o e n hb hx)
  ·obtain⟨sl,e1⟩:=I.base.slot b o e n hb hx;exact⟨sl,(hs.2 b (Nat.ne_of_lt (Nat.lt_of_lt_of_le (Heap.lt_size e) I.ok.above))).trans e1⟩
  ·obtain⟨o',e1⟩:=I.base.there b o e hx;exact⟨o',(hs.2 b (Nat.ne_of_lt (Nat.lt_of_lt_of_le (Heap.lt_size e) I.ok.above))).trans e1⟩
  ·by_cases hj:j=i
   ·subst hj;rw[hi] at e1;cases e1;rw[List.getElem?_set_self PV] at e2;cases e2;exact⟨u,r,.inl ⟨hk,by simp⟩⟩
   ·rw[List.getElem?_set_ne (Ne.symm hj)] at e2;obtain⟨u',r',q⟩:=hl j y v' e1 e2 e3;refine⟨u',r',?_⟩;rcases q with ⟨k,e⟩|⟨k,c,e,z⟩
    ·refine .inl ⟨k,?_⟩;have:y≠x:=fun e=>hj (uN hN e1 (e ▸ hi))
     simp[this,e]
    ·exact .inr ⟨k,c,e,z.sameBut hs (OH y c e)⟩
  ·obtain⟨w',z⟩:=I.cell y c e;exact⟨w',z.sameBut hs (OH y c e)⟩
  ·obtain⟨e,n,ne,nf,d⟩:=I.pin p hp;exact⟨(hs.2 p.1 ne).trans e,n,ne,nf,d⟩
 ·have RD:X.fn x=true:=by
   rcases hf with z|z
   ·exact z
   ·rw[z] at hk;cases hk
  obtain⟨c,hc⟩:=I.ok.has x (.inl hk);obtain⟨w',z⟩:=I.cell x c hc;refine wpAny_storeName_cell I.ok.kind hk hc z (fun h' PX hs=>?_);obtain⟨oc,Vr,RE⟩:=id z;refine h { s with heap:=h' } ⟨I.ok,I.os,I.bare,⟨fun b o e n hb hx=>?_,fun b o e n hb hx=>?_,I.base.free,fun b o e hx=>?_,I.base.HI,I.base.HA,I.base.HJ⟩,⟨m,hn.sameBut hs (Ne.symm (OH x c hc)),fun j y v' e1 e2 e3=>?_⟩,fun y c' e=>?_,I.free,I.Hc,fun p hp=>?_,tracked ⟨oc,Vr,I.Hc x c hc⟩ hs,by simpa using I.len⟩ ⟨c,hs,.inr hc⟩
  ·exact(hs.2 b (Nat.ne_of_lt (Nat.lt_of_lt_of_le (Heap.lt_size e) (I.ok.Po x c RD hc)))).trans (I.base.keep b o e n hb hx)
  ·obtain⟨sl,e1⟩:=I.base.slot b o e n hb hx;exact⟨sl,(hs.2 b (Nat.ne_of_lt (Nat.lt_of_lt_of_le (Heap.lt_size e) (I.ok.Po x c RD hc)))).trans e1⟩
  ·obtain⟨o',e1⟩:=I.base.there b o e hx;exact⟨o',(hs.2 b (Nat.ne_of_lt (Nat.lt_of_lt_of_le (Heap.lt_size e) (I.ok.Po x c RD hc)))).trans e1⟩
  ·by_cases hj:j=i
   ·subst hj;rw[hi] at e1;cases e1;rw[List.getElem?_set_self PV] at e2;cases e2;exact⟨u,r,.inr ⟨.inl hk,c,hc,PX⟩⟩
   ·rw[List.getElem?_set_ne (Ne.symm hj)] at e2;obtain⟨u',r',q⟩:=hl j y v' e1 e2 e3;refine⟨u',r',?_⟩;rcases q with q|⟨k,c',e,z'⟩
    ·exact .inl q
    ·refine .inr ⟨k,c',e,z'.sameBut hs ?_⟩;rintro rfl;exact hj (uN hN e1 (I.ok.inj _ _ _ e hc ▸ hi))
  ·by_cases Vs:c'=c
   ·subst Vs;exact⟨_,PX⟩
   ·obtain⟨w2,z2⟩:=I.cell y c' e;exact⟨w2,z2.sameBut hs Vs⟩
  ·obtain⟨e,n,ne,nf,d⟩:=I.pin p hp;refine⟨(hs.2 p.1 ?_).trans e,n,ne,nf,d⟩;intro q;rw[q,Vr] at e;have q':oc=p.2:=Option.some.inj e;exact d w' (by rw[<-q'];exact RE)
theorem vb{M:Model}{A:Around}{E:Value->Shared->Prop}{i:Nat}{x:Str}{v:V}{u:Value}{Q:Unit->Shared->Prop}(I:Inv X pins σ H s)(hN:X.N.Nodup)(hi:X.N[i]?=some x)(hx:Loc X.env.scope x)(r:RelV v u)
  (h:∀s',Inv X pins (σ.set i (some v)) H s'->Q () s') (hf:X.fn x=true\/X.env.scope.names.lookup x=some .local:=by first|exact .inl rfl|exact .inr rfl|assumption):wpAny M A (storeName X.env x u) Q E s:=
 yH I hN hi hx r (fun s' I' _=>h s' I') hf
theorem Inv.Oe{s':Shared}{ch:List Addr}(I:Inv X pins σ H s)(ho:s'.os=s.os)(u:Un (Lj X.stack) ch H H' s.heap s'.heap)(EI:Gq X.prog X.w H' s'.heap)(hg:AllBare s'.gens)
  (Mm:∀b∈ch,(b∈X.ex\/X.Gk.heap.objs.size<=b)/\b≠X.env.locals/\(∀x c,X.env.cells.lookup x=some c->c≠b)/\∀p∈X.pn++pins,p.1≠b):Inv X pins σ H' s':=by
 obtain⟨h',g',d',t',o'⟩:=s';have e:o'=s.os:=ho;subst e;exact I.call (g':=g') (t':=t') (d':=d') u EI hg Mm
end
abbrev XK:=Value->Option Addr->Hp->Prop
abbrev St:=List (Option V)
abbrev VK:=V->Hp->Prop
abbrev TE:=St->Hp->VK->Prop
abbrev TT:=St->Hp->(Bool->Hp->Prop)->Prop
structure Ends where
 nx:St->Hp->Prop
 rt:VK
 bk:St->Hp->Prop:=fun _ _=>False
 ct:St->Hp->Prop:=fun _ _=>False
abbrev TS:=Ends->St->Hp->Prop
def EP(X:Cx)(pins:List (Addr×Obj))(σ:St)(Q:VK)(u:Value)(s':Shared):Prop:=∃v H',Inv X pins σ H' s'/\RelV v u/\Q v H'
def TP(X:Cx)(pins:List (Addr×Obj))(σ:St)(Q:Bool->Hp->Prop)(b:Bool)(s':Shared):Prop:=∃H',Inv X pins σ H' s'/\Q b H'
def AP(X:Cx)(pins:List (Addr×Obj))(σ:St)(Q:List V->Hp->Prop)(us:List Value)(s':Shared):Prop:=∃vs H',Inv X pins σ H' s'/\Vals vs us/\Q vs H'
def SP(X:Cx)(pins:List (Addr×Obj))(D:Ends)(f:Flow)(s':Shared):Prop:=
 match f with
 |.next=>∃E4 H',Inv X pins E4 H' s'/\D.nx E4 H'
 |.brk=>∃E4 H',Inv X pins E4 H' s'/\D.bk E4 H'
 |.cont=>∃E4 H',Inv X pins E4 H' s'/\D.ct E4 H'
 |.ret u=>∃v E4 H',Inv X pins E4 H' s'/\RelV v u/\D.rt v H'
def PE(X:Cx)(e:Expr)(t:TE):Prop:=
 ∀(pins:List (Addr×Obj)) (s:Shared) (σ:St) (H:Hp) (Q:VK),Inv X pins σ H s->t σ H Q->wpAny (model X.prog X.w) X.A (eval e X.env) (EP X pins σ Q) X.xe s
def PT(X:Cx)(e:Expr)(t:TT):Prop:=
 ∀(pins:List (Addr×Obj)) (s:Shared) (σ:St) (H:Hp) (Q:Bool->Hp->Prop),Inv X pins σ H s->t σ H Q->wpAny (model X.prog X.w) X.A (isTrue e X.env (eval e X.env)) (TP X pins σ Q) X.xe s
def PW(X:Cx)(e:Expr)(t:TT):Prop:=
 ∀(whole:Sem Value) (pins:List (Addr×Obj)) (s:Shared) (σ:St) (H:Hp) (Q:Bool->Hp->Prop),Inv X pins σ H s->t σ H Q->wpAny (model X.prog X.w) X.A (isTrue e X.env whole) (TP X pins σ Q) X.xe s
theorem PW.pt{X:Cx}{e:Expr}{t:TT}(h:PW X e t):PT X e t:=h _
def PY(X:Cx)(st:List Stmt)(t:TS):Prop:=
 ∀(pins:List (Addr×Obj)) (s:Shared) (σ:St) (H:Hp) (D:Ends),Inv X pins σ H s->t D σ H->wpAny (model X.prog X.w) X.A (execs st X.env) (SP X pins D) X.xe s
theorem Of{α:Type}{t:Sem α}{Q Q':α->Shared->Prop}{M:Model}{A:Around}{E:Value->Shared->Prop}{s:Shared}(h:wpAny M A t Q E s)(hQ:∀a s,Q a s->Q' a s):wpAny M A t Q' E s:=wpAny_mono h hQ fun _ _ x=>x
end L2
namespace L2
open PySem PySem.Spec PyProof.Rows
section
variable{X:Cx}
def DK(i:Nat):TE:=fun σ H Q=>∃v,σ[i]?=some (some v)/\Q v H
theorem BX{i:Nat}{x:Str}{pos:Pos}(hN:X.N[i]?=some x)(hv:Rx X.env.scope x)(hd:(x == ("__debug__":Str))=false:=by decide)(Lk:(x == ("__classdict__":Str))=false:=by decide):PE X (.Name x pos) (DK i):=by
 intro pins s σ H Q I h;obtain⟨v,e,h⟩:=h;obtain⟨m,hn,hl⟩:=I.loc;obtain⟨u,r,l⟩:=hl i x v hN e hv;have fin:EP X pins σ Q u s:=⟨v,H,I,r,h⟩;rcases l with ⟨hk,hm⟩|⟨hk,c,hc,EZ⟩
 ·exact wpAny_Name (wpAny_loadName_local I.ok.kind hk hn hm fin) hd
 ·rcases hk with hk|hk
  ·exact wpAny_Name (wpAny_loadName_cell I.ok.kind hk hc EZ fin) hd
  ·exact wpAny_Name (wpAny_loadName_free I.ok.kind hk hc EZ fin Lk) hd
def Gl(X:Cx)(x:Str):Prop:=X.env.kindOf x=some .globalImplicit
theorem lY{E:Value->Shared->Prop}{pins:List (Addr×Obj)}{s:Shared}{σ:St}{H:Hp}{x:Str}{u:Value}{pos:Pos}{Q:Value->Shared->Prop}(I:Inv X pins σ H s)(hg:Gl X x)(hm:X.mg x=some u)(h:Q u s)
  (hd:(x == ("__debug__":Str))=false:=by decide):wpAny (model X.prog X.w) X.A (eval (.Name x pos) X.env) Q E s:=
 Calls.Name_function_global I.ok.kind hg (Calls.loadGlobal_global (by rw[I.ok.glob];exact I.mod.glob.keeps I.bk) hm h) hd
theorem lS{E:Value->Shared->Prop}{pins:List (Addr×Obj)}{s:Shared}{σ:St}{H:Hp}{x:Str}{u:Value}{pos:Pos}{Q:Value->Shared->Prop}(I:Inv X pins σ H s)(hg:Gl X x)(hm:X.mg x=none)(hv:bootBuiltins x=some u)(h:Q u s)
  (hn:x≠"__name__":=by decide) (hd:(x == ("__debug__":Str))=false:=by decide):wpAny (model X.prog X.w) X.A (eval (.Name x pos) X.env) Q E s:=by
 obtain⟨mb,h1,h2⟩:=I.mod.blt;exact Calls.Name_function_global I.ok.kind hg (Calls.loadGlobal_builtin (by rw[I.ok.glob];exact I.mod.glob.keeps I.bk) hm (by rw[I.ok.blt];exact h1.keeps I.bk) ((h2 x hn).trans hv) h) hd
variable{a b:Expr}{ta tb:TE}{pos:Pos}
theorem RelV.My{x:V}{v:Value}(r:RelV x v):(v == Value.none)=decide (x=.B_):=by
 cases x with
 |B_=>cases r;rfl
 |bl _=>cases r;rfl
 |int _=>obtain⟨t,rfl⟩:=r;rfl
 |str _=>obtain⟨t,rfl⟩:=r;rfl
 |OE _=>obtain⟨t,rfl⟩:=r;rfl
 |OF _=>obtain⟨t,rfl⟩:=r;rfl
 |ref _=>cases r;rfl
 |ty _=>cases r;rfl
variable{tA PZ:TT}{rest:List Expr}
end
end L2
namespace L2
open PySem PySem.Spec PyProof.Rows
def GD(K:PySem.W.Frag)(H:Hp)(a:Addr)(xs:List V):Prop:=
 Rd H a (.lst xs)\/
  ∃(o:Obj) (u_:Array Value) (n:Nat),K.lookup a=some o/\o.cls=.type "list"/\o.dict=none/\o.data=.seq u_ n/\u_.size<=sizeLine/\Vals xs u_.toList
def Hh(K:PySem.W.Frag)(H:Hp)(a:Addr)(xs:List V):Prop:=
 Rd H a (.tup xs)\/
  ∃(o:Obj) (u_:Array Value) (n:Nat),K.lookup a=some o/\o.cls=.type "tuple"/\o.data=.seq u_ n/\u_.size<=sizeLine/\Vals xs u_.toList
def Eb:Value->Option V
 |.none=>some .B_
 |.bool b=>some (.bl b)
 |.int i _=>some (.int i)
 |.str x _=>some (.str x)
 |.bytes b _=>some (.OE b)
 |.float b _=>some (.OF b)
 |.ref a=>some (.ref a)
 |.type n=>some (.ty n)
 |_=>none
theorem RelV.abs{x:V}{u:Value}(r:RelV x u):Eb u=some x:=by
 cases x with
 |B_=>cases r;rfl
 |bl _=>cases r;rfl
 |int _=>obtain⟨t,rfl⟩:=r;rfl
 |str _=>obtain⟨t,rfl⟩:=r;rfl
 |OE _=>obtain⟨t,rfl⟩:=r;rfl
 |OF _=>obtain⟨t,rfl⟩:=r;rfl
 |ref _=>cases r;rfl
 |ty _=>cases r;rfl
theorem RelV.inj{x y:V}{u:Value}(r:RelV x u)(q:RelV y u):x=y:=Option.some.inj (r.abs.symm.trans q.abs)
theorem Vals.inj:∀{xs ys:List V}{us:List Value},Vals xs us->Vals ys us->xs=ys
 |_,_,_,.nil,.nil=>rfl
 |_,_,_,.cons r t,.cons r' t'=>by rw[r.inj r',Vals.inj t t']
section
variable{X:Cx}{pins:List (Addr×Obj)}{σ:St}{H:Hp}{s:Shared}{a:Addr}{xs ys:List V}
theorem GD.of{K:PySem.W.Frag}(h:H a=some (.lst xs)):GD K H a xs:=.inl (.inl h)
theorem Hh.of{K:PySem.W.Frag}(h:H a=some (.tup xs)):Hh K H a xs:=.inl (.inl h)
theorem Inv.list(I:Inv X pins σ H s)(h:GD X.K H a xs):∃u_:List Value,Vals xs u_/\PlainL s.heap a u_.toArray/\xs.length<=sizeLine:=by
 rcases h with h|⟨o,u_,n,hk,hc,hd,hs,hz,r⟩
 ·obtain⟨z,u_,n,r,e⟩:=h.ok I.EI;exact⟨u_,r,⟨_,n,e,rfl,rfl,rfl⟩,z⟩
 ·refine⟨u_.toList,r,⟨o,n,I.IY a o hk,hc,hd,by simpa using hs⟩,?_⟩;have e:=r.length;simp only[Array.length_toList] at e;omega
theorem Inv.tuple(I:Inv X pins σ H s)(h:Hh X.K H a xs):∃u_:List Value,Vals xs u_/\IsTup s.heap a u_.toArray/\xs.length<=sizeLine:=by
 rcases h with h|⟨o,u_,n,hk,hc,hs,hz,r⟩
 ·obtain⟨z,u_,r,p⟩:=h.ok I.EI;exact⟨u_,r,p,z⟩
 ·refine⟨u_.toList,r,⟨o,I.IY a o hk,hc,n,by simpa using hs⟩,?_⟩;have e:=r.length;simp only[Array.length_toList] at e;omega
theorem Inv.KW(I:Inv X pins σ H s)(h:GD X.K H a xs)(h':GD X.K H a ys):xs=ys:=by
 obtain⟨u_,r,⟨o,n,e,_,_,d⟩,_⟩:=I.list h;obtain⟨its',r',⟨o',n',e',_,_,d'⟩,_⟩:=I.list h';rw[e] at e';cases e';rw[d] at d'
 injection d' with d1 _
 have:u_=its':=by simpa using congrArg Array.toList d1
 subst this;exact r.inj r'
theorem Inv.Kb(I:Inv X pins σ H s)(h:Hh X.K H a xs)(h':Hh X.K H a ys):xs=ys:=by
 obtain⟨u_,r,⟨o,e,_,n,d⟩,_⟩:=I.tuple h;obtain⟨its',r',⟨o',e',_,n',d'⟩,_⟩:=I.tuple h';rw[e] at e';cases e';rw[d] at d'
 injection d' with d1 _
 have:u_=its':=by simpa using congrArg Array.toList d1
 subst this;exact r.inj r'
end
abbrev Cx.EV(X:Cx)(E:Value->Shared->Prop):Cx:={ X with xe:=E }
abbrev Cx.Og(X:Cx):Cx:=X.EV fun _ _=>False
theorem Cx.Ok.EV{X:Cx}(ok:X.Ok)(E:Value->Shared->Prop):(X.EV E).Ok:=
 ⟨ok.mod,ok.kind,ok.glob,ok.blt,ok.above,ok.inj,ok.has,ok.Po,ok.hd,ok.frames,ok.PS,ok.Ry,ok.bs,ok.Ml,ok.L4,ok.Mx,ok.HX,ok.Nq⟩
theorem Cx.Ok.ET{X:Cx}{E:Value->Shared->Prop}(ok:(X.EV E).Ok):X.Ok:=
 ⟨ok.mod,ok.kind,ok.glob,ok.blt,ok.above,ok.inj,ok.has,ok.Po,ok.hd,ok.frames,ok.PS,ok.Ry,ok.bs,ok.Ml,ok.L4,ok.Mx,ok.HX,ok.Nq⟩
section
variable{X:Cx}{pins:List (Addr×Obj)}{σ:St}{H:Hp}{s:Shared}{E:Value->Shared->Prop}
theorem Inv.EV(I:Inv X pins σ H s)(E:Value->Shared->Prop):Inv (X.EV E) pins σ H s:=⟨I.ok.EV E,I.os,I.bare,I.base,I.loc,I.cell,I.free,I.Hc,I.pin,I.EI,I.len⟩
theorem Inv.ET(I:Inv (X.EV E) pins σ H s):Inv X pins σ H s:=⟨I.ok.ET,I.os,I.bare,I.base,I.loc,I.cell,I.free,I.Hc,I.pin,I.EI,I.len⟩
theorem SP.ET{D:Ends}{f:Flow}{s':Shared}(h:SP (X.EV E) pins D f s'):SP X pins D f s':=by
 cases f with
 |next=>obtain⟨E4,H',I,q⟩:=h;exact⟨E4,H',I.ET,q⟩
 |brk=>obtain⟨E4,H',I,q⟩:=h;exact⟨E4,H',I.ET,q⟩
 |cont=>obtain⟨E4,H',I,q⟩:=h;exact⟨E4,H',I.ET,q⟩
 |ret u=>obtain⟨v,E4,H',I,r,q⟩:=h;exact⟨v,E4,H',I.ET,r,q⟩
theorem PE.Og{e:Expr}{t:TE}(h:PE X.Og e t):PE X e t:=fun pins s σ H Q I hw=>
 wpAny_mono (h pins s σ H Q (I.EV _) hw) (fun _ _ ⟨v,H',I',r,q⟩=>⟨v,H',I'.ET,r,q⟩) fun _ _ z=>False.elim z
theorem PT.Og{e:Expr}{t:TT}(h:PT X.Og e t):PT X e t:=fun pins s σ H Q I hw=>
 wpAny_mono (h pins s σ H Q (I.EV _) hw) (fun _ _ ⟨H',I',q⟩=>⟨H',I'.ET,q⟩) fun _ _ z=>False.elim z
theorem PY.Og{st:List Stmt}{t:TS}(h:PY X.Og st t):PY X st t:=fun pins s σ H D I hw=>
 wpAny_mono (h pins s σ H D (I.EV _) hw) (fun _ _ q=>q.ET) fun _ _ z=>False.elim z
end
section
variable{X:Cx}{st:Stmt}{rest:List Stmt}{t u:TS}{e:Expr}{te:TE}{pos:Pos}
theorem Inv.quiet{pins:List (Addr×Obj)}{σ:St}{H:Hp}{s:Shared}(I:Inv X pins σ H s):interactive X.env=false:=by simp[interactive,I.ok.kind]
end
abbrev TG:=V->St->Hp->(St->Hp->Prop)->Prop
def PG(X:Cx)(target:Expr)(t:TG):Prop:=
 ∀(pins:List (Addr×Obj)) (s:Shared) (σ:St) (H:Hp) (v:V) (u:Value) (Q:St->Hp->Prop),Inv X pins σ H s->RelV v u->t v σ H Q->
  wpAny (model X.prog X.w) X.A (assign target X.env u) (fun _ s'=>∃E4 H',Inv X pins E4 H' s'/\Q E4 H') X.xe s
abbrev D2:=V->V->V->Hp->(Hp->Prop)->Prop
def D4(X:Cx)(t:D2):Prop:=
 ∀(pins:List (Addr×Obj)) (s:Shared) (σ:St) (H:Hp) (o i v:V) (ov iv u:Value) (Q:Hp->Prop),Inv X pins σ H s->RelV o ov->RelV i iv->RelV v u->t o i v H Q->
  wpAny (model X.prog X.w) X.A (setItem ov iv u) (fun _ s'=>∃H',Inv X pins σ H' s'/\Q H') X.xe s
section
variable{X:Cx}{pos:Pos}
def Db(i:Nat):TG:=fun v σ H Q=>Q (σ.set i (some v)) H
theorem Aq{i:Nat}{x:Str}(hN:X.N.Nodup)(hi:X.N[i]?=some x)(hx:Loc X.env.scope x)(hf:X.fn x=true\/X.env.scope.names.lookup x=some .local:=by first|exact .inl rfl|exact .inr rfl|assumption):PG X (.Name x pos) (Db i):=by
 intro pins s σ H v u Q I r h;exact wpAny_assign_Name (vb I hN hi hx r (fun s' I'=>⟨_,H,I',h⟩) hf)
end
section
variable{X:Cx}{pos:Pos}
end
structure It where
 go:Nat->Hp->Prop
 Vt:Nat->Hp->V->Hp->Prop
 stop:Nat->Hp->Prop
def IM(X:Cx)(pins:List (Addr×Obj))(H:Hp)(b:Addr):Prop:=
 H b=none/\b≠X.env.locals/\b∉X.fs/\(b∈X.ex\/X.Gk.heap.objs.size<=b)/\(∀x c,X.env.cells.lookup x=some c->c≠b)/\∀p∈X.pn++pins,p.1≠b
theorem Inv.L5{X:Cx}{pins:List (Addr×Obj)}{σ:St}{H H':Hp}{s:Shared}{b:Addr}(I:Inv X pins σ H s)(hb:s.heap.objs.size<=b)(hn:H' b=none):IM X pins H' b:=by
 refine⟨hn,Nat.ne_of_gt (Nat.lt_of_lt_of_le I.lt hb),I.RA hb,.inr (Nat.le_trans I.sz hb),fun x c e z=>?_,fun p hp z=>?_⟩
 ·obtain⟨v,q⟩:=I.cell x c e;exact absurd (Nat.lt_of_lt_of_le q.lt (by rw[z];exact hb)) (Nat.lt_irrefl _)
 ·exact absurd (Nat.lt_of_lt_of_le (Heap.lt_size (I.pin p hp).1) (by rw[z];exact hb)) (Nat.lt_irrefl _)
structure Turn(P:Program)(w:World)(K:PySem.W.Frag)(tg:Expr)(J:It)(fp:List Addr)(it:Addr)(tn:Nat->Heap->Prop):Prop where
 mem:it∈fp
 obj:∀i h,tn i h->∀b∈fp,∃o,h.get? b=some o/\∀v,o.data≠.cell v
 keep:∀i h h',tn i h->(∀b∈fp,∀o,h.get? b=some o->h'.get? b=some o)->tn i h'
 item:∀(X:Cx),X.prog=P->X.w=w->X.K=K->X.calm=true->∀(i:Nat) (pins:List (Addr×Obj)) (s:Shared) (σ:St) (H:Hp) (E:Value->Shared->Prop),Inv X pins σ H s->(∀b∈fp,IM X pins H b)->tn i s.heap->J.go i H->
  wpAny (model P w) X.A (pyNext (.ref it)) (fun r s1=>∃u,r=some u/\
   wpAny (model P w) X.A (letOwnedTupleGo tg (.ref it) u) (fun _ s2=>∃x H',Inv X pins σ H' s2/\RelV x u/\J.Vt i H x H'/\tn (i+1) s2.heap/\∀b∈fp,H' b=none) E s1) E s
 done:∀(X:Cx),X.prog=P->X.w=w->X.K=K->X.calm=true->∀(i:Nat) (pins:List (Addr×Obj)) (s:Shared) (σ:St) (H:Hp) (E:Value->Shared->Prop),Inv X pins σ H s->(∀b∈fp,IM X pins H b)->tn i s.heap->J.stop i H->
  wpAny (model P w) X.A (pyNext (.ref it)) (fun r s1=>r=none/\Inv X pins σ H s1) E s
 self:∀(A:Around) (i:Nat) (s:Shared) (Q:Value->Shared->Prop) (E:Value->Shared->Prop),tn i s.heap->Q (.ref it) s->wpAny (model P w) A (pyIter (.ref it)) Q E s
def RF(X:Cx)(pins:List (Addr×Obj))(σ:St)(tg:Expr)(R:It->Hp->Prop)(L6:Value)(s2:Shared):Prop:=
 ∃(it:Addr) (fp:List Addr) (tn:Nat->Heap->Prop) (J:It) (H':Hp),L6=.ref it/\Inv X pins σ H' s2/\Turn X.prog X.w X.K tg J fp it tn/\tn 0 s2.heap/\(∀b∈fp,IM X pins H' b)/\R J H'
theorem yY{M:Model}{A:Around}{E:Value->Shared->Prop}{s:Shared}{tg:Expr}{it:Addr}{u:Value}{o:Obj}{n:String}{vs:Array Value}{Q:Unit->Shared->Prop}(ho:s.heap.get? it=some o)(hc:o.cls=.type n)(hd:o.data=.fields vs)
  (hn:["enumerate","zip","dict_itemiterator","dict_reverseitemiterator","odict_iterator","itertools.zip_longest","itertools.pairwise"].contains n=false) (hQ:Q () s):wpAny M A (letOwnedTupleGo tg (.ref it) u) Q E s:=by
 unfold letOwnedTupleGo;cases tg<;>first
  |exact wpAny_pure hQ
  |(cases u<;>first
    |exact wpAny_pure hQ
    |(refine wpAny_bind (wpAny_load ho ?_)
      rw[hc,hd];show wpAny M A (if (["enumerate","zip","dict_itemiterator","dict_reverseitemiterator","odict_iterator","itertools.zip_longest","itertools.pairwise"].contains n && vs[0]? == some (rawInt _))=true then _ else _) Q E s;rw[if_neg (by intro h;rw[hn,Bool.false_and] at h;cases h)];exact wpAny_pure hQ))
def RG(K:PySem.W.Frag)(a:Addr):It:=
 ⟨fun i H=>∃xs x,GD K H a xs/\xs[i]?=some x,fun i H x H'=>H'=H/\∀xs,GD K H a xs->xs[i]?=some x,fun i H=>∃xs,GD K H a xs/\xs.length<=i⟩
def Vu(K:PySem.W.Frag)(a:Addr):It:=
 ⟨fun i H=>∃xs x,Hh K H a xs/\xs[i]?=some x,fun i H x H'=>H'=H/\∀xs,Hh K H a xs->xs[i]?=some x,fun i H=>∃xs,Hh K H a xs/\xs.length<=i⟩
theorem sV{P:Program}{w:World}{K:PySem.W.Frag}{tg:Expr}(a it:Addr):Turn P w K tg (RG K a) [it] it (fun i h=>h.IsListIter it a i) where
 mem:=by simp
 obj:=fun i h st b hb=>by
  have e:b=it:=by simpa using hb
  subst e;obtain⟨o,e,c,d⟩:=st;exact⟨o,e,fun v z=>by rw[d] at z;cases z⟩
 keep:=fun i h h' st k=>st.at fun o e=>k it (by simp) o e
 item:=by
  intro X hP hw hK hc i pins s σ H E I hf st hg;subst hP hw hK;obtain⟨xs,x,hq,hx⟩:=hg;obtain⟨u_,rv,p,hz⟩:=I.list hq;obtain⟨u,hu,ru⟩:=rv.get hx;obtain⟨f0,f1,f2,f3,f4,f5⟩:=hf it (by simp);refine wpAny_pyNext_list_item st p.isList (x:=u) (by simpa using hu) fun h' Oh sb=>?_
  have I1:Inv X pins σ H { s with heap:=h' }:=I.turned (t':=s.toks) (fun b o hb e=>(sb.2 b hb).trans e) f0 f1 f3 f4 f5;obtain⟨o,e,c,d⟩:=id Oh;exact⟨u,rfl,yY (s:={ s with heap:=h' }) e c d (by decide) ⟨x,H,I1,ru,⟨rfl,fun ys hy=>by rw[I.KW hy hq];exact hx⟩,Oh,fun b hb=>(hf b hb).1⟩⟩
 done:=by
  intro X hP hw hK hc i pins s σ H E I hf st hg;subst hP hw hK;obtain⟨xs,hq,hx⟩:=hg;obtain⟨u_,rv,p,hz⟩:=I.list hq;obtain⟨f0,f1,f2,f3,f4,f5⟩:=hf it (by simp);have hl:=rv.length;exact wpAny_pyNext_list_end (I.ok.hd hc) st p.isList (by simp;omega) fun h' eb=>⟨rfl,I.turned (t':=s.toks) (fun b o hb e=>eb b o hb e) f0 f1 f3 f4 f5⟩
 self:=fun _ _ _ _ _ st h=>wpAny_pyIter_listiter st h
theorem wc{P:Program}{w:World}{K:PySem.W.Frag}{tg:Expr}(a it:Addr):Turn P w K tg (Vu K a) [it] it (fun i h=>h.IsTupleIter it a i) where
 mem:=by simp
 obj:=fun i h st b hb=>by
  have e:b=it:=by simpa using hb
  subst e;obtain⟨o,e,c,d⟩:=st;exact⟨o,e,fun v z=>by rw[d] at z;cases z⟩
 keep:=fun i h h' st k=>st.at fun o e=>k it (by simp) o e
 item:=by
  intro X hP hw hK hc i pins s σ H E I hf st hg;subst hP hw hK;obtain⟨xs,x,hq,hx⟩:=hg;obtain⟨u_,rv,p,hz⟩:=I.tuple hq;obtain⟨u,hu,ru⟩:=rv.get hx;obtain⟨f0,f1,f2,f3,f4,f5⟩:=hf it (by simp);refine wpAny_pyNext_tuple_item st (show s.heap.IsTuple a u_.toArray from p) (x:=u) (by simpa using hu) fun h' Oh sb=>?_
  have I1:Inv X pins σ H { s with heap:=h' }:=I.turned (t':=s.toks) (fun b o hb e=>(sb.2 b hb).trans e) f0 f1 f3 f4 f5;obtain⟨o,e,c,d⟩:=id Oh;exact⟨u,rfl,yY (s:={ s with heap:=h' }) e c d (by decide) ⟨x,H,I1,ru,⟨rfl,fun ys hy=>by rw[I.Kb hy hq];exact hx⟩,Oh,fun b hb=>(hf b hb).1⟩⟩
 done:=by
  intro X hP hw hK hc i pins s σ H E I hf st hg;subst hP hw hK;obtain⟨xs,hq,hx⟩:=hg;obtain⟨u_,rv,p,hz⟩:=I.tuple hq;obtain⟨f0,f1,f2,f3,f4,f5⟩:=hf it (by simp);have hl:=rv.length;exact wpAny_pyNext_tuple_end (I.ok.hd hc) st (show s.heap.IsTuple a u_.toArray from p) (by simp;omega) fun h' eb=>⟨rfl,I.turned (t':=s.toks) (fun b o hb e=>eb b o hb e) f0 f1 f3 f4 f5⟩
 self:=fun _ _ _ _ _ st h=>wpAny_pyIter_tupleiter st h
end L2
namespace L2
open PySem PySem.Spec PyProof.Rows
section
variable{X:Cx}{tg:Expr}
def oR(fp:List Addr)(h:Heap):List (Addr×Obj):=fp.filterMap fun b=>(h.get? b).map fun o=>(b,o)
theorem ku{fp:List Addr}{h:Heap}{b:Addr}{o:Obj}(hb:b∈fp)(e:h.get? b=some o):(b,o)∈oR fp h:=List.mem_filterMap.mpr ⟨b,hb,by rw[e];rfl⟩
theorem yy{fp:List Addr}{h:Heap}{p:Addr×Obj}(hp:p∈oR fp h):p.1∈fp/\h.get? p.1=some p.2:=by
 obtain⟨b,hb,e⟩:=List.mem_filterMap.mp hp;cases q:h.get? b with
 |none=>rw[q] at e;cases e
 |some o=>
  rw[q] at e;have e':(b,o)=p:=Option.some.inj e;subst e';exact⟨hb,q⟩
theorem Inv.pinned{pins:List (Addr×Obj)}{σ:St}{H:Hp}{s:Shared}{fp:List Addr}(I:Inv X pins σ H s)(hf:∀b∈fp,IM X pins H b)(ho:∀b∈fp,∃o,s.heap.get? b=some o/\∀v,o.data≠.cell v):Inv X (pins++oR fp s.heap) σ H s:=
 I.Ki fun p hp=>(List.mem_append.mp hp).elim (fun z=>I.pin p (List.mem_append_right _ z)) fun z=>by
  obtain⟨hb,e⟩:=yy z;obtain⟨f0,f1,f2,_⟩:=hf p.1 hb;obtain⟨o,e',d⟩:=ho p.1 hb;rw[e] at e';cases e';exact⟨e,f0,f1,f2,d⟩
theorem Inv.HZ{pins pl:List (Addr×Obj)}{σ:St}{H:Hp}{s:Shared}(I:Inv X (pins++pl) σ H s):Inv X pins σ H s:=I.Ki fun p hp=>I.pin p (List.mem_append_right _ (List.mem_append_left _ hp))
end
end L2
namespace L2
open PySem PySem.Spec PyProof.Rows
abbrev R2:=V->V->Hp->VK->Prop
def Kj(X:Cx)(f:Value->Value->Sem Value)(r:R2):Prop:=
 ∀(pins:List (Addr×Obj)) (s:Shared) (σ:St) (H:Hp) (x y:V) (v u:Value) (Q:VK),Inv X pins σ H s->RelV x v->RelV y u->r x y H Q->
  wpAny (model X.prog X.w) X.A (f v u) (EP X pins σ Q) X.xe s
def RH(X:Cx)(f:Value->Sem Value)(r:V->Hp->VK->Prop):Prop:=
 ∀(pins:List (Addr×Obj)) (s:Shared) (σ:St) (H:Hp) (x:V) (v:Value) (Q:VK),Inv X pins σ H s->RelV x v->r x H Q->
  wpAny (model X.prog X.w) X.A (f v) (EP X pins σ Q) X.xe s
def HE(X:Cx)(f:Value)(r:List V->Hp->VK->Prop):Prop:=
 ∀(pins:List (Addr×Obj)) (s:Shared) (σ:St) (H:Hp) (xs:List V) (us:List Value) (Q:VK),Inv X pins σ H s->Vals xs us->r xs H Q->
  wpAny (model X.prog X.w) X.A (call f us) (EP X pins σ Q) X.xe s
def Eg(X:Cx)(r:V->Hp->(Bool->Hp->Prop)->Prop):Prop:=
 ∀(pins:List (Addr×Obj)) (s:Shared) (σ:St) (H:Hp) (x:V) (v:Value) (Q:Bool->Hp->Prop),Inv X pins σ H s->RelV x v->r x H Q->
  wpAny (model X.prog X.w) X.A (truthy v) (TP X pins σ Q) X.xe s
def rI(C:Int->Int->Prop)(g:Int->Int->V):R2:=fun x y H Q=>∃i j,x=.int i/\y=.int j/\C i j/\Q (g i j) H
def Pp(g:Int->Int->V):R2:=fun x y H Q=>∃i j,x=.int i/\y=.int j/\Q (g i j) H
def rU(g:Int->V):V->Hp->VK->Prop:=fun x H Q=>∃i,x=.int i/\Q (g i) H
section
variable{X:Cx}{a b c:Expr}{ta tb tc:TE}{pos:Pos}
theorem QP{f:Value->Value->Sem Value}{C:Int->Int->Prop}{g:Int->Int->Int}
  (rule:∀(i j:Int) (t u:Tok) (s:Shared) (Q:Value->Shared->Prop) (E:Value->Shared->Prop),C i j->Q (.int (g i j) s.toks) { s with toks:=s.toks+1 }->wpAny (model X.prog X.w) X.A (f (.int i t) (.int j u)) Q E s) :
  Kj X f (rI C fun i j=>.int (g i j)):=by
 intro pins s σ H x y v u Q I rx ry h;obtain⟨i,j,rfl,rfl,hc,q⟩:=h;obtain⟨t,rfl⟩:=rx;obtain⟨t',rfl⟩:=ry;exact rule i j t t' s _ _ hc ⟨.int (g i j),H,I.tok _,⟨_,rfl⟩,q⟩
theorem BA{f:Value->Value->Sem Value}{g:Int->Int->Bool}
  (rule:∀(i j:Int) (t u:Tok) (s:Shared) (Q:Value->Shared->Prop) (E:Value->Shared->Prop),Q (.bool (g i j)) s->wpAny (model X.prog X.w) X.A (f (.int i t) (.int j u)) Q E s) :
  Kj X f (Pp fun i j=>.bl (g i j)):=by
 intro pins s σ H x y v u Q I rx ry h;obtain⟨i,j,rfl,rfl,q⟩:=h;obtain⟨t,rfl⟩:=rx;obtain⟨t',rfl⟩:=ry;exact rule i j t t' s _ _ ⟨.bl (g i j),H,I,rfl,q⟩
def CN(i j:Int):Prop:=0<j/\j<1073741824
def L7(i j:Int):Prop:=(-(2 ^ 64)<i/\i<2 ^ 64)\/(-(2 ^ 64)<j/\j<2 ^ 64)
theorem L7.ok{i j:Int}(h:L7 i j):IntMulOk i j:=by
 rcases h with ⟨h1,h2⟩|⟨h1,h2⟩
 ·exact .of_left (intBits_le_64 h1 h2)
 ·exact .of_right (intBits_le_64 h1 h2)
theorem OI:Kj X (binaryOp .Mult) (rI L7 fun i j=>.int (i * j)):=QP fun _ _ _ _ _ _ _ hc q=>mul_int q hc.ok
theorem Ax:Kj X (binaryOp .FloorDiv) (rI CN fun i j=>.int (i / j)):=QP fun i j _ _ _ _ _ hc q=>by
 have h1:(0:Int)<j:=hc.1;have h2:j<1073741824:=hc.2;exact floordiv_int (by omega) (by rw[Int.fdiv_eq_ediv_of_nonneg i (by omega)];exact q) (.inl (PyProof.noPylong_small (by omega)))
theorem CD:Kj X (binaryOp .Mod) (rI (fun _ j=>0<j) fun i j=>.int (i % j)):=QP fun i j _ _ _ _ _ hc q=>by
 have h1:(0:Int)<j:=hc;exact mod_int' (by omega) (by rw[Int.fmod_eq_emod_of_nonneg i (by omega)];exact q)
theorem Xa{f:Value->Sem Value}{g:Int->Int}
  (rule:∀(i:Int) (t:Tok) (s:Shared) (Q:Value->Shared->Prop) (E:Value->Shared->Prop),Q (.int (g i) s.toks) { s with toks:=s.toks+1 }->wpAny (model X.prog X.w) X.A (f (.int i t)) Q E s) :
  RH X f (rU fun i=>.int (g i)):=by
 intro pins s σ H x v Q I rx h;obtain⟨i,rfl,q⟩:=h;obtain⟨t,rfl⟩:=rx;exact rule i t s _ _ ⟨.int (g i),H,I.tok _,⟨_,rfl⟩,q⟩
theorem Cp:RH X (unaryOp .USub) (rU fun i=>.int (-i)):=Xa fun _ _ _ _ _ q=>neg_int q
end
section
variable{X:Cx}{a b c:Expr}{ta tb tc:TE}{pos:Pos}
theorem CS:Kj X (compareOp .Lt) (Pp fun i j=>.bl (decide (i<j))):=BA fun _ _ _ _ _ _ _ q=>lt_int q
theorem Dm:Kj X (compareOp .LtE) (Pp fun i j=>.bl (decide (i<=j))):=BA fun _ _ _ _ _ _ _ q=>le_int q
theorem Dn:Kj X (compareOp .Gt) (Pp fun i j=>.bl (decide (j<i))):=BA fun _ _ _ _ _ _ _ q=>gt_int q
theorem Df:Kj X (compareOp .GtE) (Pp fun i j=>.bl (decide (j<=i))):=BA fun _ _ _ _ _ _ _ q=>ge_int q
theorem Kj.or{f:Value->Value->Sem Value}{r r':R2}(h:Kj X f r)(h':Kj X f r'):Kj X f (fun x y H Q=>r x y H Q\/r' x y H Q):=by
 intro pins s σ H x y v u Q I rx ry q;rcases q with q|q
 ·exact h pins s σ H x y v u Q I rx ry q
 ·exact h' pins s σ H x y v u Q I rx ry q
theorem aM(b:Expr){op:CmpOp}(h:op≠.In:=by decide)(h2:op≠.NotIn:=by decide):behindInMarks op b=false:=by
 have e1:(op == CmpOp.In)=false:=by cases op<;>first|rfl|exact absurd rfl h
 have e2:(op == CmpOp.NotIn)=false:=by cases op<;>first|rfl|exact absurd rfl h2
 cases b<;>simp[behindInMarks,e1,e2]
def Do(K:PySem.W.Frag)(x:V)(H:Hp)(k:Bool):Prop:=
 match x with
 |.B_=>k=false
 |.bl b=>k=b
 |.int i=>k=(i != 0)
 |.str y=>y.length<=sizeLine/\k=((y.length:Int) != 0)
 |.OE y=>y.size<=sizeLine/\k=((y.size:Int) != 0)
 |.ref p=>(∃xs,GD K H p xs/\k = !xs.isEmpty)\/(∃xs,Hh K H p xs/\k = !xs.isEmpty)\/∃kvs,H p=some (.dK kvs)/\k = !kvs.isEmpty
 |_=>False
theorem wu{κ:Type}{kvs:List (κ×V)}{vs:List (κ×Value)}(r:KV kvs vs):(!vs.isEmpty) = !kvs.isEmpty:=by
 cases r<;>rfl
theorem rm{xs:List V}{u_:List Value}(r:Vals xs u_):(!u_.toArray.isEmpty) = !xs.isEmpty:=by
 cases r<;>simp
theorem mW:(sizeLine:Nat)<2 ^ 63:=by rw[sizeLine_eq];decide
theorem Ck:Eg X (fun x H Q=>∃k,Do X.K x H k/\Q k H):=by
 intro pins s σ H x v Q I rx h;obtain⟨k,e,q⟩:=h;have hl:=mW;have hs:sizeLine=16777216:=sizeLine_eq;cases x with
 |B_=>
  cases rx;have e':k=false:=e;subst e';exact truthy_none ⟨H,I,q⟩
 |bl b=>
  cases rx;have e':k=b:=e;subst e';exact wpAny_truthy_bool ⟨H,I,q⟩
 |int i=>
  obtain⟨t,rfl⟩:=rx;have e':k=(i != 0):=e;subst e';exact PySem.P.truthy_int ⟨H,I,q⟩
 |str y=>
  obtain⟨t,rfl⟩:=rx;obtain⟨hy,e'⟩:y.length<=sizeLine/\k=((y.length:Int) != 0):=e;subst e';exact PySem.P.truthy_str (by omega) ⟨H,I.tok _,q⟩
 |OE y=>
  obtain⟨t,rfl⟩:=rx;obtain⟨hy,e'⟩:y.size<=sizeLine/\k=((y.size:Int) != 0):=e;subst e';exact PySem.W.truthy_bytes (by omega) ⟨H,I.tok _,q⟩
 |ref p=>
  cases rx;have e':(∃xs,GD X.K H p xs/\k = !xs.isEmpty)\/(∃xs,Hh X.K H p xs/\k = !xs.isEmpty)\/∃kvs,H p=some (.dK kvs)/\k = !kvs.isEmpty:=e;rcases e' with ⟨xs,hx,e'⟩|⟨xs,hx,e'⟩|⟨kvs,hx,e'⟩
  ·subst e';obtain⟨u_,r,pl,hz⟩:=I.list hx;have hlen:=r.length;exact wpAny_truthy_list pl.isList (by simp only[List.size_toArray];omega) ⟨H,I.tok _,by rw[rm r];exact q⟩
  ·subst e';obtain⟨u_,r,pl,hz⟩:=I.tuple hx;have hlen:=r.length;exact truthy_tuple pl (by simp only[List.size_toArray];omega) ⟨H,I.tok _,by rw[rm r];exact q⟩
  ·subst e';obtain⟨hz,hS,vs,r,m⟩:kvs.length<=sizeLine/\(p == sysModules)=false/\∃vs,KV kvs vs/\s.heap.DictOf (du X.prog X.w) p vs:=I.EI p _ hx;have hlen:kvs.length=vs.length:=Paired.length r;exact wpAny_truthy_dict hS m (by omega) ⟨H,I.tok _,by rw[wu r];exact q⟩
 |_=>exact(show False from e).elim
theorem zN{x:V}{us:List Value}(r:Vals [x] us):∃u,us=[u]/\RelV x u:=by
 cases r with
 |cons r1 r2=>cases r2;exact⟨_,rfl,r1⟩
theorem BD{x y:V}{us:List Value}(r:Vals [x,y] us):∃u w',us=[u,w']/\RelV x u/\RelV y w':=by
 cases r with
 |cons r1 r2=>
  cases r2 with
  |cons r3 r4=>cases r4;exact⟨_,_,rfl,r1,r3⟩
theorem yq(hc:X.calm=true):HE X (.builtin "max") (fun xs H Q=>∃i j,xs=[.int i,.int j]/\Q (.int (if j > i then j else i)) H):=by
 intro pins s σ H xs us Q I r h;obtain⟨i,j,rfl,q⟩:=h;obtain⟨u,w',rfl,⟨t,rfl⟩,⟨t',rfl⟩⟩:=BD r;refine max_two_ints (I.ok.hd hc) fun h' tk k=>⟨_,H,I.kept k,?_,q⟩
 by_cases hj:j > i
 ·rw[if_pos hj,if_pos hj];exact⟨_,rfl⟩
 ·rw[if_neg hj,if_neg hj];exact⟨_,rfl⟩
theorem yn(hc:X.calm=true):HE X (.builtin "min") (fun xs H Q=>∃i j,xs=[.int i,.int j]/\Q (.int (if j<i then j else i)) H):=by
 intro pins s σ H xs us Q I r h;obtain⟨i,j,rfl,q⟩:=h;obtain⟨u,w',rfl,⟨t,rfl⟩,⟨t',rfl⟩⟩:=BD r;refine min_two_ints (I.ok.hd hc) fun h' tk k=>⟨_,H,I.kept k,?_,q⟩
 by_cases hj:j<i
 ·rw[if_pos hj,if_pos hj];exact⟨_,rfl⟩
 ·rw[if_neg hj,if_neg hj];exact⟨_,rfl⟩
end
end L2
namespace L2
open PySem PySem.Spec PyProof.Rows
structure Lu(h:Heap)(x dx C:Addr)(mA:Str->Option Value):Prop where
 obj:h.get? x=some (PySem.W.instObj C dx)
 ns:h.Ns1 dx mA
 ne:dx≠x
theorem yt{h:Heap}{dx:Addr}{mA:Str->Option Value}(n:h.Ns1 dx mA):∃od,h.get? dx=some od/\∀name,PySem.W.lookIn name od=some (mA name):=by
 obtain⟨o,es,ep,ho,hd,hk,_,hm⟩:=n;refine⟨o,ho,fun name=>?_⟩;have e:=hm name;unfold nsFind findBy at e;rw[<-Array.find?_toList] at e;unfold PySem.W.lookIn;rw[hd];dsimp only;split
 ·rename_i y q;rw[q] at e;exact congrArg some e
 ·rename_i q;rw[q] at e;have a:es.toList.any (·.refKey)=false:=by
   rw[List.any_eq_false];intro y hy;obtain⟨z,t,RI⟩:=hk y (Array.mem_toList_iff.mp hy);simp[DictEntry.refKey,RI]
  have a':¬es.toList.any (·.refKey)=true:=by rw[a];exact Bool.false_ne_true
  rw[if_neg a'];exact congrArg some e
theorem Lu.look{h:Heap}{x dx C:Addr}{mA:Str->Option Value}(I:Lu h x dx C mA):∃od,PySem.W.InstAt h x (PySem.W.instObj C dx) C (some od)/\∀name,PySem.W.lookIn name od=some (mA name):=
 let ⟨od,ho,hl⟩:=yt I.ns
 ⟨od,⟨I.obj,rfl,rfl,ho⟩,hl⟩
section
variable{prog:Program}{w:World}{A:Around}{E:Value->Shared->Prop}{s:Shared}{K:PySem.W.Frag}{x dx C f:Addr}{mA:Str->Option Value}{name:Str}{v:Value}
theorem Bx{expr:Bool}{Q:Value->Shared->Prop}(X:K.In s.heap)(I:Lu s.heap x dx C mA)(hg:PySem.W.plainGet K C name=true)(hh:PySem.W.hasDictIn K C=true)
  (ha:PySem.W.findIn K (.ref C) name=some none) (hv:mA name=some v) (Xb:PySem.W.handedIn v=true) (h:Q v { s with toks:=s.toks+1 }) :
  wpAny (model prog w) A (getAttr (.ref x) name expr) Q E s:=by
 obtain⟨od,J,hl⟩:=I.look;exact PySem.W.get_value X J (PySem.W.plainGet_of hg).1 (PySem.W.findObj_own hh ha rfl (by rw[hl,hv])) Xb h
theorem zT{pl:Sem Bool}{Q:Value×List Value->Shared->Prop}(X:K.In s.heap)(I:Lu s.heap x dx C mA)(hg:PySem.W.plainGet K C name=true)
  (hf:PySem.W.findIn K (.ref C) name=some (some (.ref f))) (ht:PySem.W.isFn K (.ref f)=true) (hv:mA name=none) (h:Q (.ref f,[.ref x]) s) :
  wpAny (model prog w) A (getMethod (.ref x) name pl) Q E s:=by
 obtain⟨od,J,hl⟩:=I.look;exact PySem.W.method_fn X J (PySem.W.plainGet_of hg).1 (PySem.W.plainGet_of hg).2 hf (beq_iff_eq.mp ht) (by show(PySem.W.lookIn name od).map (·.isSome)=some false;rw[hl,hv];rfl) h
theorem AN{ns:List Str}{Q:Unit->Shared->Prop}(X:K.In s.heap)(I:Lu s.heap x dx C mA)
  (hs:PySem.W.findIn K (.ref C) "__setattr__"=some (some (.builtin "object.__setattr__"))) (hp:PySem.W.plainOver K C=true) (ht:PySem.W.takerIn K C name=some none) (hh:PySem.W.hasDictIn K C=true)
  (hw:PySem.Within mA ns) (hsz:ns.length<=sizeLine)
  (h:∀h',Lu h' x dx C (fun y=>if y=name then some v else mA y)->Heap.SameBut dx s.heap h'->Q () { s with heap:=h',toks:=s.toks+2 }) :
  wpAny (model prog w) A (setAttr (.ref x) name v) Q E s:=by
 obtain⟨od,J,hl⟩:=I.look;refine PySem.W.set_plain X J hs (PySem.W.osa_open (s:={ s with toks:=s.toks+1 }) (r:=none) X J hp ht fun b=>?_);obtain⟨cd,hc,JA⟩:=PySem.W.any_some hh;have hx:s.heap.get? x=some ⟨.ref C,some dx,.plain,#[]⟩:=I.obj;refine wpAny_bind (wpAny_pure (wpAny_bind (wpAny_bind (wpAny_loadPart hx (wpAny_bind (PySem.W.Looks.here (s:={ s with toks:=s.toks+1 }) (PySem.W.looks_clsIn X hc) ?_))))));rw[JA];refine wpAny_pure (a:=some dx) (wpAny_bind (wpAny_pure (wpAny_bind ?_)));refine wpAny_nsSet1 (s:={ s with toks:=s.toks+1 }) I.ns fun h' Pq Kc=>?_
 obtain⟨oD,esD,epD,Xc,Xd,Xe⟩:=Pq.count (PySem.Within.cons name v hw);refine wpAny_bind (wpAny_lookBehind Xc (by rw[Xd];exact pastItsLine_dict (Nat.le_trans Xe (by rw[List.length_cons];omega))) ?_);exact wpAny_pure (h _ ⟨(Kc.2 _ (Ne.symm I.ne)).trans I.obj,Pq,I.ne⟩ Kc)
theorem zJ{R:Result->Shared->Prop}{vs:List Value}{kw:List (Str×Value)}(X:K.In s.heap)(hm:PySem.W.makesIn K C=true)
  (hi:PySem.W.findIn K (.ref C) "__init__"=some (some (.ref f))) (hf:PySem.W.typeIn K (.ref f)=some (.type "function"))
  (h:codeAny (model prog w) (A.under (.builtin "type.__call__" ⟨.ref C :: vs,kw⟩)) (.call (.ref f) ⟨.ref (s.heap.objs.size+1) :: vs,kw⟩) (PySem.W.InitBack (s.heap.objs.size+1) R)
   { s with heap:=(s.heap.push PySem.W.emptyDict).push (PySem.W.instObj C s.heap.objs.size) }) :
  codeAny (model prog w) A (.call (.ref C) ⟨vs,kw⟩) R s:=by
 obtain⟨hh,g,d,t,os⟩:=s;exact PySem.W.make_core (PySem.W.makes_of X hm) (PySem.W.looks_findIn X hi) (fun self=>PySem.W.bind_fn X self hf) (.inl rfl) h
end
def il(f:Str)(v:V):List (Str×V)->List (Str×V)
 |[]=>[(f,v)]
 |(g,x) :: r=>if g=f then (g,v) :: r else (g,x) :: il f v r
theorem pb(f g:Str)(v:V):∀fs:List (Str×V),(il f v fs).lookup g=if g=f then some v else fs.lookup g
 |[]=>by
  show List.lookup g [(f,v)]=_;by_cases h:g=f
  ·have hb:(g == f)=true:=beq_iff_eq.mpr h;simp only[List.lookup,hb,if_pos h]
  ·have hb:(g == f)=false:=beq_eq_false_iff_ne.mpr h;simp only[List.lookup,hb,if_neg h]
 |(k,x) :: r=>by
  have ih:=pb f g v r;rw[show il f v ((k,x) :: r)=(if k=f then (k,v) :: r else (k,x) :: il f v r) from rfl];by_cases hk:k=f
  ·rw[if_pos hk];by_cases h:g=k
   ·have hb:(g == k)=true:=beq_iff_eq.mpr h;simp only[List.lookup,hb,if_pos (h.trans hk)]
   ·have hb:(g == k)=false:=beq_eq_false_iff_ne.mpr h;simp only[List.lookup,hb,if_neg (fun e:g=f=>h (e.trans hk.symm))]
  ·rw[if_neg hk];by_cases h:g=k
   ·have hb:(g == k)=true:=beq_iff_eq.mpr h;simp only[List.lookup,hb,if_neg (fun e:g=f=>hk (h.symm.trans e))]
   ·have hb:(g == k)=false:=beq_eq_false_iff_ne.mpr h;simp only[List.lookup,hb];exact ih
theorem om(f:Str)(v:V):∀fs:List (Str×V),f∈(il f v fs).map (·.1)/\∀g,g∈fs.map (·.1)->g∈(il f v fs).map (·.1)
 |[]=>⟨by simp[il],fun g h=>by simp at h⟩
 |(k,x) :: r=>by
  obtain⟨i1,i2⟩:=om f v r;rw[show il f v ((k,x) :: r)=(if k=f then (k,v) :: r else (k,x) :: il f v r) from rfl];by_cases hk:k=f
  ·rw[if_pos hk];subst hk;exact⟨by simp,fun g h=>by simpa using h⟩
  ·rw[if_neg hk];refine⟨?_,fun g h=>?_⟩
   ·rw[List.map_cons];exact List.mem_cons_of_mem _ i1
   ·rw[List.map_cons] at h ⊢;rcases List.mem_cons.mp h with e|e
    ·exact List.mem_cons.mpr (.inl e)
    ·exact List.mem_cons_of_mem _ (i2 g e)
theorem pi(f:Str)(v:V):∀fs:List (Str×V),(il f v fs).length<=fs.length+1
 |[]=>by simp[il]
 |(k,x) :: r=>by
  have ih:=pi f v r;rw[show il f v ((k,x) :: r)=(if k=f then (k,v) :: r else (k,x) :: il f v r) from rfl];by_cases hk:k=f
  ·rw[if_pos hk,List.length_cons,List.length_cons];omega
  ·rw[if_neg hk,List.length_cons,List.length_cons];omega
theorem G7.some_of{v:V}{o:Option Value}(r:G7 (some v) o):∃u,o=some u/\RelV v u:=by
 cases o with
 |none=>exact(show False from r).elim
 |some u=>exact⟨u,rfl,r⟩
theorem G7.none_of{o:Option Value}(r:G7 none o):o=none:=by
 cases o with
 |none=>rfl
 |some u=>exact(show False from r).elim
theorem yp{v:V}{u:Value}(r:RelV v u):PySem.W.handedIn u=true:=by
 cases v with
 |B_=>cases(show u=Value.none from r);rfl
 |bl b=>cases(show u=Value.bool b from r);rfl
 |int i=>obtain⟨t,e⟩:=(show ∃t,u=Value.int i t from r);cases e;rfl
 |str x=>obtain⟨t,e⟩:=(show ∃t,u=Value.str x t from r);cases e;rfl
 |OE b=>obtain⟨t,e⟩:=(show ∃t,u=Value.bytes b t from r);cases e;rfl
 |OF b=>obtain⟨t,e⟩:=(show ∃t,u=Value.float b t from r);cases e;rfl
 |ref a=>cases(show u=Value.ref a from r);rfl
 |ty n=>cases(show u=Value.type n from r);rfl
section
variable{P:Program}{w:World}{H H':Hp}{h h':Heap}{a C dx:Addr}{fs Rv:List (Str×V)}
theorem uc(EI:Gq P w H h)(e:H a=some (.ins C dx fs)):∃mA,Lu h a dx C mA/\(∀f,G7 (fs.lookup f) (mA f))/\PySem.Within mA (fs.map (·.1))/\fs.length<=1000/\H dx=some (.own a):=by
 obtain⟨d,z,ne,ob,mA,n,r,q⟩:=(show Fe P w H h a (.ins C dx fs) from EI a _ e);exact⟨mA,⟨ob,n,ne⟩,r,q,z,d⟩
end
structure KY(K:PySem.W.Frag)(C:Addr):Prop where
 pg:PySem.W.plainGet K C Str.empty=true
 hd:PySem.W.hasDictIn K C=true
 po:PySem.W.plainOver K C=true
 sa:PySem.W.findIn K (.ref C) "__setattr__"=some (some (.builtin "object.__setattr__"))
theorem KY.get{K:PySem.W.Frag}{C:Addr}(c:KY K C)(f:Str):PySem.W.plainGet K C f=true:=c.pg
def EU(K:PySem.W.Frag)(C:Addr)(f:Str):Prop:=PySem.W.findIn K (.ref C) f=some none
theorem EU.P0{K:PySem.W.Frag}{C:Addr}{f:Str}(n:EU K C f):PySem.W.takerIn K C f=some none:=by
 unfold PySem.W.takerIn;rw[show PySem.W.findIn K (.ref C) f=some none from n];rfl
structure Con(K:PySem.W.Frag)(C:Addr)(f:Str)(v:V)(u:Value):Prop where
 at_:PySem.W.findIn K (.ref C) f=some (some u)
 rel:RelV v u
 get:PySem.W.specialIn K u "__get__"=some none
 cp:PySem.W.copiedNames.contains f=false
structure Meth(K:PySem.W.Frag)(C:Addr)(m:Str)(f:Addr):Prop where
 at_:PySem.W.findIn K (.ref C) m=some (some (.ref f))
 fn:PySem.W.isFn K (.ref f)=true
 kp:PySem.W.keepIn K (.ref f)=true
section
variable{X:Cx}{pins:List (Addr×Obj)}{σ:St}{H:Hp}{s:Shared}{a C dx:Addr}{fs:List (Str×V)}{f:Str}{v:V}{A:Around}{E:Value->Shared->Prop}
theorem qQ{b:Bool}{Q:Value->Shared->Prop}(I:Inv X pins σ H s)(e:H a=some (.ins C dx fs))(c:KY X.K C)(n:EU X.K C f)(l:fs.lookup f=some v)
  (h:∀u s',Inv X pins σ H s'->RelV v u->Q u s'):wpAny (model X.prog X.w) A (getAttr (.ref a) f b) Q E s:=by
 obtain⟨mA,O,r,_,_,_⟩:=uc I.EI e;obtain⟨u,hu,ru⟩:=G7.some_of (v:=v) (o:=mA f) (by rw[<-l];exact r f);exact Bx I.IY O (c.get f) c.hd n hu (yp ru) (h u _ (I.tok _) ru)
theorem qa{m:Str}{g:Addr}{pl:Sem Bool}{Q:Value×List Value->Shared->Prop}(I:Inv X pins σ H s)(e:H a=some (.ins C dx fs))(c:KY X.K C)(k:Meth X.K C m g)(l:fs.lookup m=none)
  (h:Q (.ref g,[.ref a]) s):wpAny (model X.prog X.w) A (getMethod (.ref a) m pl) Q E s:=by
 obtain⟨mA,O,r,_,_,_⟩:=uc I.EI e;have hn:mA m=none:=G7.none_of (by rw[<-l];exact r m);exact zT I.IY O (c.get m) k.at_ k.fn hn h
theorem qr{y:V}{u:Value}{Q:Unit->Shared->Prop}(I:Inv X pins σ H s)(e:H a=some (.ins C dx fs))(c:KY X.K C)(n:EU X.K C f)(hl:fs.length<1000)(ry:RelV y u)
  (h:∀s',Inv X pins σ (upd H a (.ins C dx (il f y fs))) s'->Q () s'):wpAny (model X.prog X.w) A (setAttr (.ref a) f u) Q E s:=by
 obtain⟨mA,O,r,wi,_,ho⟩:=uc I.EI e;have hz:(fs.map (·.1)).length<=sizeLine:=by rw[List.length_map,sizeLine_eq];omega
 refine AN I.IY O c.sa c.po n.P0 c.hd wi hz fun h' O' sb=>h _ ?_
 have hd:∃o,h'.get? dx=some o:=let ⟨o,_,_,e',_⟩:=O'.ns;⟨o,e'⟩
 refine I.write (x:=a) (e:=dx) (by rw[e];exact True.intro) (.inr ho) (fun b q hb z=>(sb.2 b hb).trans z) hd ?_;refine⟨by rw[bu O.ne];exact ho,?_,O.ne,O'.obj,_,O'.ns,fun g=>?_,fun g hg=>?_⟩
 ·have:=pi f y fs;omega
 ·show G7 ((il f y fs).lookup g) (if g=f then some u else mA g);rw[pb];by_cases q:g=f
  ·rw[if_pos q,if_pos q];exact ry
  ·rw[if_neg q,if_neg q];exact r g
 ·by_cases q:g=f
  ·rw[q];exact(om f y fs).1
  ·refine(om f y fs).2 g (wi g fun z=>hg ?_);show(if g=f then some u else mA g)=none;rw[if_neg q];exact z
theorem Inv.made(I:Inv X pins σ H s):Inv X pins σ (upd (upd H s.heap.objs.size (.own (s.heap.objs.size+1))) (s.heap.objs.size+1) (.ins C s.heap.objs.size []))
  { s with heap:=(s.heap.push PySem.W.emptyDict).push (PySem.W.instObj C s.heap.objs.size) }:=by
 have e1:(s.heap.push PySem.W.emptyDict).get? s.heap.objs.size=some PySem.W.emptyDict:=Heap.get?_push_size s.heap rfl;have e2:((s.heap.push PySem.W.emptyDict).push (PySem.W.instObj C s.heap.objs.size)).get? (s.heap.objs.size+1)=some (PySem.W.instObj C s.heap.objs.size):=by
  have:=Heap.get?_push_size (s.heap.push PySem.W.emptyDict) (o:=PySem.W.instObj C s.heap.objs.size) rfl;rwa[Heap.size_push] at this
 have e3:(s.heap.push PySem.W.emptyDict).Ns s.heap.objs.size (fun _=>none):=⟨PySem.W.emptyDict,#[],_,e1,rfl,(fun e he=>absurd he (by simp)),fun _=>rfl⟩;have I1:=I.laid (a:=s.heap.objs.size) (o:=.own (s.heap.objs.size+1)) (h':=s.heap.push PySem.W.emptyDict) (t':=s.toks) (fun b u q=>Heap.get?_push_of_some _ q) (Nat.le_refl _) ⟨_,e1⟩;refine I1.laid (a:=s.heap.objs.size+1) (o:=.ins C s.heap.objs.size []) (t':=s.toks) (fun b u q=>Heap.get?_push_of_some _ q) (Nat.le_of_eq (Heap.size_push _ _)) ?_;have ne:s.heap.objs.size≠s.heap.objs.size+1:=Nat.ne_of_lt (Nat.lt_succ_self _);refine⟨by rw[bu ne,bN],Nat.zero_le _,ne,e2,fun _=>none,(Heap.Ns1.of_empty e3).at fun o q=>Heap.get?_push_of_some _ q,fun _=>True.intro,fun y hy=>absurd rfl hy⟩
theorem Aw{prog:Program}{w:World}{env:Env}{e:Expr}{f:Str}{pos:Pos}{s:Shared}{Q:Value->Shared->Prop}(hb:attributeBase e f env (eval e env)=eval e env)
  (h:wpAny (model prog w) A (eval e env) (fun o E1=>wpAny (model prog w) A (getAttr o f true) Q E E1) E s):wpAny (model prog w) A (eval (.Attribute e f pos) env) Q E s:=
 Attribute_any_ h (by rw[arm_eval_Attribute,hb])
end
def kY(K:PySem.W.Frag)(ta tv:TE)(f:Str):TS:=fun D σ H=>tv σ H fun y H1=>ta σ H1 fun x H2=>∃a C dx fs,x=.ref a/\H2 a=some (.ins C dx fs)/\KY K C/\EU K C f/\fs.length<1000/\
 D.nx σ (upd H2 a (.ins C dx (il f y fs)))
section
variable{X:Cx}{o e value:Expr}{f:Str}{pos pos' Jb:Pos}{ta tv:TE}
end
section
variable{X:Cx}{pins:List (Addr×Obj)}{σ:St}{H:Hp}{s:Shared}{A:Around}{E:Value->Shared->Prop}{Q:Value->Shared->Prop}{c:Value}{b:Bool}
inductive Jc(K:PySem.W.Frag)(H:Hp):V->Value->Prop where
 |B_:Jc K H .B_ (.type "NoneType")
 |bl (x:Bool):Jc K H (.bl x) (.type "bool")
 |int (i:Int):Jc K H (.int i) (.type "int")
 |str (x:Str):Jc K H (.str x) (.type "str")
 |OF (x:UInt64):Jc K H (.OF x) (.type "float")
 |lst {a:Addr}{xs:List V}(e:H a=some (.lst xs)):Jc K H (.ref a) (.type "list")
 |Lr {a:Addr}{o:Obj}{xs:List V}(e:H a=some (.Lr o (.lst xs))):Jc K H (.ref a) (.type "list")
 |tup {a:Addr}{xs:List V}(e:H a=some (.tup xs)):Jc K H (.ref a) (.type "tuple")
 |dK {a:Addr}{kvs:List (Key×V)}(e:H a=some (.dK kvs)):Jc K H (.ref a) (.type "dict")
 |dT {a:Addr}{kvs:List (List Key×V)}(e:H a=some (.dT kvs)):Jc K H (.ref a) (.type "dict")
 |ins {a C dx:Addr}{fs:List (Str×V)}(e:H a=some (.ins C dx fs)) (cl:KY K C) (ha:PySem.W.findIn K (.ref C) "__class__"=some (some (.builtin "object.__class__")))
   (hn:PySem.W.specialIn K (.builtin "object.__class__") "__get__"=some (some (.builtin "getset_descriptor.__get__"))) (Vv:PySem.W.takesIn K (.builtin "object.__class__")=some true)
   (hm:PySem.W.mroIn K C (.type "object")=some true):Jc K H (.ref a) (.ref C)
end
end L2
namespace L2
open PySem PySem.Spec PyProof.Rows
structure FL(k:Nat)(A:Around):Prop where
 hd:A.handled=none
 dp:A.depth+3 * k+5<recursionLimit
 un:A.units+16 * k+200<cLine
theorem FL.mono{j k:Nat}{A:Around}(r:FL k A)(h:j<=k):FL j A:=⟨r.hd,by have:=r.dp;omega,by have:=r.un;omega⟩
theorem FL.deeper{k:Nat}{A:Around}(r:FL (k+1) A)(env:Env):FL k (A.deeper env):=
 ⟨r.hd,by have:=r.dp;show A.depth+1+3 * k+5<_;omega,by have:=r.un;show A.units+3+16 * k+200<_;omega⟩
theorem FL.in1{k:Nat}{A:Around}(r:FL (k+1) A):FL k A.in1:=
 ⟨r.hd,by have:=r.dp;show A.depth+3 * k+5<_;omega,by have:=r.un;show A.units+1+16 * k+200<_;omega⟩
theorem wQ{A:Around}{C:Addr}{us:List Value}{kw:List (Str×Value)}:(A.under (.builtin "type.__call__" ⟨.ref C :: us,kw⟩)).depth=A.depth+1:=by
 first|rfl|simp[Around.under,Code.weight,Code.isCreation,Code.isGuard,Code.isCaller,Code.frames,Code.isFrame,guardIds]
theorem wB{A:Around}{C:Addr}{us:List Value}{kw:List (Str×Value)}:(A.under (.builtin "type.__call__" ⟨.ref C :: us,kw⟩)).units=A.units+1:=by
 first|rfl|simp[Around.under,Code.cUnits,Code.frames,Code.isFrame]
theorem FL.make{k:Nat}{A:Around}(r:FL (k+1) A)(C:Addr)(us:List Value)(kw:List (Str×Value)):FL k (A.under (.builtin "type.__call__" ⟨.ref C :: us,kw⟩)):=
 ⟨r.hd,by have:=r.dp;rw[wQ];omega,by have:=r.un;rw[wB];omega⟩
theorem FL.depth{k:Nat}{A:Around}(r:FL k A):A.depth<recursionLimit:=by have:=r.dp;omega
theorem FL.units{k:Nat}{A:Around}(r:FL k A):A.units+64<cLine:=by have:=r.un;omega
section
variable{X:Cx}{e:Expr}{es:List Expr}{te:TE}{t:TA}{pos:Pos}
end
abbrev Sp:=List V->Hp->VK->XK->Prop
abbrev Iz:=List Env->Hp->Shared->XK->Value->Shared->Prop
structure JB(P:Program)(w:World)(K:PySem.W.Frag)(mg:Str->Option Value)(base:Heap)(A:Around)(outer:List Env)(s:Shared)(H:Hp):Prop where
 frames:A.frames=some outer
 mod:Mod K mg base
 bs:∀b o,base.get? b=some o->s.heap.get? b=some o/\H b=none
 Ml:base.objs.size<=s.heap.objs.size
 HX:s.heap.FunFrames base outer
 Nq:∀b∈Lj outer,H b=none
 EI:Gq P w H s.heap
 bare:AllBare s.gens
def CE(outer:List Env)(P:Program)(w:World)(H:Hp)(s:Shared)(Q:VK)(u:Value)(s':Shared):Prop:=
 ∃v H',s'.os=s.os/\AllBare s'.gens/\Un (Lj outer) [] H H' s.heap s'.heap/\Gq P w H' s'.heap/\RelV v u/\Q v H'
def CR(CX:Iz)(outer:List Env)(P:Program)(w:World)(H:Hp)(s:Shared)(Q:VK)(E:XK)(r:Result)(s':Shared):Prop:=
 match r with
 |.ok (.ret u)=>CE outer P w H s Q u s'
 |.ok _=>False
 |.error e=>CX outer H s E e s'
structure H_(P:Program)(w:World)(K:PySem.W.Frag)(mg:Str->Option Value)(base:Heap)(CX:Iz)(k:Nat)(f:Addr)(fd:FuncData)(ps:List Str)(sp:Sp):Prop where
 len:∀vs H Q E,sp vs H Q E->vs.length=ps.length
 run:∀(A:Around) (outer:List Env) (s:Shared) (H:Hp) (args:Args) (us:List Value) (vs:List V) (Q:VK) (E:XK),FL k A->JB P w K mg base A outer s H->BindsTo s fd args (ps.zip us)->Vals vs us->sp vs H Q E->
  codeAny (model P w) A (.call (.ref f) args) (CR CX outer P w H s Q E) s
theorem H_.mono{P:Program}{w:World}{K:PySem.W.Frag}{mg:Str->Option Value}{base:Heap}{CX:Iz}{j k:Nat}{f:Addr}{fd:FuncData}{ps:List Str}{sp:Sp}(F:H_ P w K mg base CX j f fd ps sp)(h:j<=k) :
  H_ P w K mg base CX k f fd ps sp:=⟨F.len,fun A outer s H args us vs Q E hr=>F.run A outer s H args us vs Q E (hr.mono h)⟩
theorem H_.imp{P:Program}{w:World}{K:PySem.W.Frag}{mg:Str->Option Value}{base:Heap}{CX:Iz}{k:Nat}{f:Addr}{fd:FuncData}{ps:List Str}{sp Vw:Sp}(F:H_ P w K mg base CX k f fd ps sp)
  (h:∀vs H Q E,Vw vs H Q E->sp vs H Q E):H_ P w K mg base CX k f fd ps Vw:=
 ⟨fun vs H Q E q=>F.len vs H Q E (h _ _ _ _ q),fun A outer s H args us vs Q E hr he hb hv hs=>F.run A outer s H args us vs Q E hr he hb hv (h _ _ _ _ hs)⟩
theorem JB.make{P:Program}{w:World}{K:PySem.W.Frag}{mg:Str->Option Value}{base:Heap}{A:Around}{outer:List Env}{s:Shared}{H:Hp}(e:JB P w K mg base A outer s H)(C:Addr)(us:List Value)(kw:List (Str×Value)) :
  JB P w K mg base (A.under (.builtin "type.__call__" ⟨.ref C :: us,kw⟩)) outer s H:=⟨by first|exact e.frames|(simpa[Around.under,Code.envs,Code.isFrame,pushEnvs] using e.frames),e.mod,e.bs,e.Ml,e.HX,e.Nq,e.EI,e.bare⟩
theorem JB.in1{P:Program}{w:World}{K:PySem.W.Frag}{mg:Str->Option Value}{base:Heap}{A:Around}{outer:List Env}{s:Shared}{H:Hp}(e:JB P w K mg base A outer s H) :
  JB P w K mg base A.in1 outer s H:=⟨e.frames,e.mod,e.bs,e.Ml,e.HX,e.Nq,e.EI,e.bare⟩
section
variable{X:Cx}{pins:List (Addr×Obj)}{σ:St}{H:Hp}{s s':Shared}
theorem Inv.P2(I:Inv X pins σ H s):JB X.prog X.w X.K X.mg X.base X.A X.stack s H:=
 ⟨I.ok.frames,I.ok.mod,I.bs,Nat.le_trans I.ok.Ml I.sz,I.stack,I.Kh,I.EI,I.bare⟩
theorem Inv.after{Q:VK}{u:Value}(I:Inv X pins σ H s)(h:CE X.stack X.prog X.w H s Q u s'):EP X pins σ Q u s':=by
 obtain⟨v,H',os,bare,un,EI,r,q⟩:=h;obtain⟨hh,g,d,t,RJ⟩:=s';obtain rfl:RJ=s.os:=os;exact⟨v,H',I.call (h':=hh) (g':=g) (d':=d) (t':=t) (ch:=[]) un EI bare (fun b z=>absurd z (by simp)),r,q⟩
end
def Binds(K:PySem.W.Frag)(fd:FuncData)(ps:List Str)(ds:List Value):Prop:=
 ∀(s:Shared) (us:List Value),K.In s.heap->(us++ds).length=ps.length->BindsTo s fd ⟨us,[]⟩ (ps.zip (us++ds))
theorem Binds.all{K:PySem.W.Frag}{fd:FuncData}{ps:List Str}(h:∀us:List Value,us.length=ps.length->bindArgs fd ⟨us,[]⟩=pure (ps.zip us)):Binds K fd ps []:=fun s us _ hl=>by
 rw[List.append_nil] at hl ⊢;exact .of_eq (h us hl)
section
variable{X:Cx}{CX:Iz}{k:Nat}{f C:Addr}{fd:FuncData}{ps:List Str}{sp:Sp}{dvs:List V}{ds:List Value}{E:XK}{x m:Str}{p pos apos:Pos}{e o:Expr}{es:List Expr}{ta:TE}{t:TA}
structure Mk(K:PySem.W.Frag)(C f:Addr):Prop where
 makes:PySem.W.makesIn K C=true
 init:PySem.W.findIn K (.ref C) "__init__"=some (some (.ref f))
 fn:PySem.W.isFn K (.ref f)=true
 kp:PySem.W.keepIn K (.ref C)=true
end
section
variable{X:Cx}{CX:Iz}{k:Nat}{f C:Addr}{fd:FuncData}{ps ks:List Str}{sp:Sp}{E:XK}{x m:Str}{p pos apos Xf:Pos}{e o:Expr}{es:List Expr}{kws:List Keyword}{te ta:TE}{t tk:TA}{nm:Option Str}
structure RK(K:PySem.W.Frag)(fd:FuncData)(ps ks:List Str)(g:List Value->List Value->List Value)(gV:List V->List V->List V):Prop where
 to:∀(s:Shared) (us ws:List Value),K.In s.heap->(g us ws).length=ps.length->BindsTo s fd ⟨us,ks.zip ws⟩ (ps.zip (g us ws))
 rel:∀{vs:List V}{us:List Value}{zs:List V}{ws:List Value},Vals vs us->Vals zs ws->Vals (gV vs zs) (g us ws)
variable{g:List Value->List Value->List Value}{gV:List V->List V->List V}
end
structure m_(N P:List Str)(sc:Scope):Prop where
 kind:sc.kind=.function
 co:sc.isCoroutine=false
 gen:sc.isGenerator=false
 nd:N.Nodup
 pre:N.take P.length=P
 par:∀x∈P,sc.names.lookup x=some .local\/sc.names.lookup x=some .cell
 OJ:∀y∈sc.names,y.2≠.free
theorem tq{kindOf:Str->Option NameKind}{x:Str}:∀{binds:List (Str×Value)}{m:Str->Option Value},(∀v,(x,v)∉binds)->bindL kindOf binds m x=m x
 |[],_,_=>rfl
 |(n,v) :: r,m,h=>by
  unfold bindL;rw[tq fun w hw=>h w (List.mem_cons_of_mem _ hw)];split
  ·have:x≠n:=by rintro rfl;exact h v List.mem_cons_self
   simp[this]
  ·rfl
theorem sv{kindOf:Str->Option NameKind}{x:Str}:∀{binds:List (Str×Value)}{m:Str->Option Value},(∀v,(x,v)∉binds)->bindC kindOf binds m x=m x
 |[],_,_=>rfl
 |(n,v) :: r,m,h=>by
  unfold bindC;rw[sv fun w hw=>h w (List.mem_cons_of_mem _ hw)];split
  ·rfl
  ·have:x≠n:=by rintro rfl;exact h v List.mem_cons_self
   simp[this]
theorem sB{kindOf:Str->Option NameKind}{x:Str}{v:Value}:∀{P:List Str}{vs:List Value}{i:Nat}{m:Str->Option Value},P.Nodup->P[i]?=some x->vs[i]?=some v->kindOf x=some .local->
  bindL kindOf (P.zip vs) m x=some v
 |[],_,_,_,_,h,_,_=>by simp at h
 |_ :: _,[],_,_,_,_,h,_=>by simp at h
 |p :: P,w :: vs,0,m,nd,h1,h2,hk=>by
  simp at h1 h2;subst h1;subst h2;show bindL kindOf ((p,w) :: P.zip vs) m p=_;unfold bindL;rw[tq fun v hv=>(List.nodup_cons.mp nd).1 (List.of_mem_zip hv).1,if_pos hk];simp
 |p :: P,w :: vs,i+1,m,nd,h1,h2,hk=>by
  show bindL kindOf ((p,w) :: P.zip vs) m x=_;unfold bindL;exact sB (i:=i) (List.nodup_cons.mp nd).2 (by simpa using h1) (by simpa using h2) hk
theorem sO{kindOf:Str->Option NameKind}{x:Str}{v:Value}:∀{P:List Str}{vs:List Value}{i:Nat}{m:Str->Option Value},P.Nodup->P[i]?=some x->vs[i]?=some v->kindOf x≠some .local->
  bindC kindOf (P.zip vs) m x=some v
 |[],_,_,_,_,h,_,_=>by simp at h
 |_ :: _,[],_,_,_,_,h,_=>by simp at h
 |p :: P,w :: vs,0,m,nd,h1,h2,hk=>by
  simp at h1 h2;subst h1;subst h2;show bindC kindOf ((p,w) :: P.zip vs) m p=_;unfold bindC;rw[sv fun v hv=>(List.nodup_cons.mp nd).1 (List.of_mem_zip hv).1,if_neg hk];simp
 |p :: P,w :: vs,i+1,m,nd,h1,h2,hk=>by
  show bindC kindOf ((p,w) :: P.zip vs) m x=_;unfold bindC;exact sO (i:=i) (List.nodup_cons.mp nd).2 (by simpa using h1) (by simpa using h2) hk
def start(N:List Str)(vs:List V):St:=vs.map some++List.replicate (N.length-vs.length) none
def pr(CX:Iz)(P:Program)(w:World)(K:PySem.W.Frag)(mg:Str->Option Value)(base:Heap)(N:List Str)(qual:Str)(scope:Scope)(f:Addr)(cd:Value)(A:Around)(outer:List Env)(s:Shared)(H:Hp)(E:XK):Cx where
 prog:=P
 w:=w
 K:=K
 mg:=mg
 base:=base
 A:=A.deeper (envOfC qual scope s.heap.objs.size f cd)
 N:=N
 Gk:=s
 Mw:=H
 env:=envOfC qual scope s.heap.objs.size f cd
 outer:=outer
 stack:=envOfC qual scope s.heap.objs.size f cd :: outer
 ex:=[]
 calm:=true
 fn:=fun _=>true
 pn:=[]
 xe:=fun e s'=>wpAny (model P w) (A.deeper (envOfC qual scope s.heap.objs.size f cd)) (leaving (envOfC qual scope s.heap.objs.size f cd) e) (fun _ Nr=>CX outer H s E e Nr) (fun e' Nr=>CX outer H s E e' Nr) s'
theorem uZ{sc:Scope}{n:Nat}{x:Str}(h:sc.names.lookup x=some .cell):∃c,(cellsFrom n sc.names []).lookup x=some c:=by
 have q:=PySem.W.cellsFrom_some sc.names n [] (.inl h);exact Option.isSome_iff_exists.mp q
theorem yv{CX:Iz}{P:Program}{w:World}{K:PySem.W.Frag}{mg:Str->Option Value}{base:Heap}{N ps:List Str}{qual:Str}{scope:Scope}{f:Addr}{cd:Value}{A:Around}{outer:List Env}{s s1:Shared}{H:Hp}{E:XK}{us:List Value}{vs:List V}
  (S:m_ N ps scope) (hd:A.handled=none) (e0:JB P w K mg base A outer s H) (hl:vs.length=ps.length) (r:Vals vs us)
  (x:InCallC s s.heap.objs.size (bindL (envOfC qual scope s.heap.objs.size f cd).kindOf (ps.zip us) fun _=>none) (cellsFrom (s.heap.objs.size+1) scope.names []) (bindC (envOfC qual scope s.heap.objs.size f cd).kindOf (ps.zip us) fun _=>none) s1) :
  Inv (pr CX P w K mg base N qual scope f cd A outer s H E) [] (start N vs) H s1:=by
 have Kd:ps.length<=N.length:=by have:=congrArg List.length S.pre;rw[List.length_take] at this;omega
 obtain⟨h1,tk,rfl,hk⟩:=x.done;have P4:∀b:Addr,b∉(pr CX P w K mg base N qual scope f cd A outer s H E).ex:=fun b z=>absurd (show b∈([]:List Addr) from z) (by simp)
 refine⟨⟨e0.mod,S.kind,rfl,rfl,Nat.le_refl _,fun y z c h1 h2=>?_,fun y hy=>?_,fun y c _ h=>?_,fun _=>hd,Around.frames_deeper e0.frames,.inr ⟨rfl,rfl⟩,fun b z=>absurd z (P4 b),e0.bs,e0.Ml,fun b _ _=>P4 b,fun b z=>absurd z (P4 b),e0.HX,e0.Nq⟩,
  rfl,e0.bare,Un.kept hk,⟨_,x.toInCall.ns,fun i y v h1 h2 h3=>?_⟩,fun y c h=>⟨_,x.cell y c h⟩,e0.EI.fresh (Nat.le_refl _),fun y c h=>?_,fun p hp=>absurd (show p∈([]:List (Addr×Obj)) from hp) (by simp),e0.EI.kept hk,?_⟩
 ·exact name_of_addr x.apart (PySem.mem_of_lookup h1) (PySem.mem_of_lookup h2)
 ·have hy:scope.names.lookup y=some .cell\/scope.names.lookup y=some .free:=hy;rcases hy with hy|hy
  ·exact uZ hy
  ·exact absurd rfl (S.OJ _ (PySem.mem_of_lookup hy))
 ·exact Nat.le_of_lt (x.above y c (PySem.mem_of_lookup h))
 ·have hi:i<vs.length:=by
   unfold start at h2;by_cases hi:i<vs.length
   ·exact hi
   ·rw[List.getElem?_append_right (by simpa using hi)] at h2;rw[List.getElem?_replicate] at h2;split at h2<;>cases h2
  have ha:vs[i]?=some v:=by
   unfold start at h2;rw[List.getElem?_append_left (by simpa using hi),List.getElem?_map] at h2;cases e:vs[i]? with
   |none=>rw[e] at h2;cases h2
   |some a=>rw[e] at h2;cases h2;rfl
  obtain⟨u,hu,rv⟩:=r.get ha;have hp:ps[i]?=some y:=by
   rw[<-S.pre,List.getElem?_take_of_lt (by omega)];exact h1
  have Vx:ps.Nodup:=by rw[<-S.pre];exact S.nd.sublist (List.take_sublist _ _)
  refine⟨u,rv,?_⟩;rcases S.par y (List.mem_of_getElem? hp) with k|k
  ·exact .inl ⟨k,sB Vx hp hu k⟩
  ·obtain⟨c,e⟩:=uZ (n:=s.heap.objs.size+1) k;refine .inr ⟨.inl k,c,e,?_⟩;have q:=x.cell y c e;rw[sO Vx hp hu (by show scope.names.lookup y≠_;rw[k];decide)] at q;exact q
 ·exact e0.EI.fresh (Nat.le_of_lt (x.above y c (PySem.mem_of_lookup h)))
 ·unfold start;show _=N.length;rw[List.length_append,List.length_map,List.length_replicate];omega
theorem BN{CX:Iz}{P:Program}{w:World}{K:PySem.W.Frag}{mg:Str->Option Value}{base:Heap}{k:Nat}{f:Addr}{name qual:Str}{params:Arguments}{body:List Stmt}{scope:Scope}{dV kV doc pm EC ct oc:Value}{an od:Option Addr}
  {Mn:Array (Option Value)}{N ps:List Str}{sp:Sp}(lk:K.lookup f=some ⟨oc,od,.func (PySem.W.fnOf name qual params body scope dV kV doc pm an EC ct),Mn⟩) (Lk:PySem.W.codeIn K EC qual=true) (S:m_ N ps scope)
  (len:∀vs H Q E,sp vs H Q E->vs.length=ps.length)
  (KZ:∀(A:Around) (outer:List Env) (s:Shared) (H:Hp) (vs:List V) (Q:VK) (E:XK),FL k (A.deeper (envOfC qual scope s.heap.objs.size f EC))->sp vs H Q E->
   ∃t,PY (pr CX P w K mg base N qual scope f EC A outer s H E) body t/\t { nx:=fun _ H'=>Q .B_ H',rt:=Q } (start N vs) H) :
  H_ P w K mg base CX (k+1) f (PySem.W.fnOf name qual params body scope dV kV doc pm an EC ct) ps sp:=by
 refine⟨len,fun A outer s H args us vs Q E hr e0 hb r Mo=>?_⟩;have hl:=len _ _ _ _ Mo;have KX:K.In s.heap:=e0.mod.Pn.keeps fun b o e=>(e0.bs b o e).1
 have lim:s.heap.NoLimit:=e0.mod.nolimit.keeps fun b o e=>(e0.bs b o e).1
 have P5:∀y∈ps.zip us,scope.names.lookup y.1=some .local\/(scope.names.lookup y.1=some .cell/\((cellsFrom (s.heap.objs.size+1) scope.names []).lookup y.1).isSome=true):=fun ⟨n,v⟩ hy=>by
  rcases S.par n (List.of_mem_zip hy).1 with q|q
  ·exact .inl q
  ·exact .inr ⟨q,PySem.W.cellsFrom_some _ _ _ (.inl q)⟩
 refine codeAny_call_function hr.depth (KX _ _ lk) rfl S.co S.gen rfl (PySem.W.codeRec_of KX Lk) (hb _ _ _ _ ?_);refine wpAny_newFunctionEnv_cells S.kind P5 fun env he s1 x=>?_
 subst he;refine⟨lim.keeps x.toInCall.keep,codeAny_func ?_⟩;obtain⟨t,ht,hq⟩:=KZ A outer s H vs Q E (hr.deeper _) Mo;have I:Inv (pr CX P w K mg base N qual scope f EC A outer s H E) [] (start N vs) H s1:=yv S hr.hd e0 hl r x;refine wpAny_mono (ht [] s1 (start N vs) H _ I hq) (fun fl s' hs=>?_) fun e s' hs=>hs
 have fin:∀{E4:St}{H':Hp}{v:V}{u:Value},Inv (pr CX P w K mg base N qual scope f EC A outer s H E) [] E4 H' s'->RelV v u->Q v H'->CE outer P w H s Q u s':=
  fun {E4 H' v u} J rv q=>⟨v,H',J.os,J.bare,J.base,J.EI,rv,q⟩
 cases fl with
 |ret u=>
  obtain⟨v,E4,H',J,rv,q⟩:=hs;exact fin J rv q
 |next=>
  obtain⟨E4,H',J,q⟩:=hs;exact fin (v:=V.B_) (u:=Value.none) J rfl q
 |brk=>
  obtain⟨_,_,_,q⟩:=hs;exact False.elim q
 |cont=>
  obtain⟨_,_,_,q⟩:=hs;exact False.elim q
end L2
namespace L2
open PySem PySem.Spec PyProof.Rows
section
variable{X:Cx}{x:Str}{p pos:Pos}{e:Expr}{es:List Expr}{t:TA}{id T:String}{r:List V->Hp->VK->Prop}
end
end L2
namespace HT
open PySem PyProof.Rows
section
open PySem.SeqAt
open PySem.AutoSeq1 (wpAny_loadPart')
open PySem.MeetsSeq PySem.MeetsSeq2 PySem.MeetsSeq3
end
section
variable{prog:Program}{w:World}{A:Around}{E:Value->Shared->Prop}{s:Shared}
theorem Nt{t b:Addr}{vs ws:List Value}{Q:Value->Shared->Prop}(ht:IsTup s.heap t vs.toArray)(hb:IsTup s.heap b ws.toArray)(hv:vs≠[])
  (h1:ws=[]->Q (.ref t) s) (h2:ws≠[]->Q (.ref s.heap.objs.size) { s with heap:=s.heap.push { cls:=.type "tuple",data:=.seq (vs++ws).toArray } })
  (hsz:vs.length+ws.length<=sizeLine):wpAny (model prog w) A (binaryOp .Add (.ref t) (.ref b)) Q E s:=by
 obtain⟨⟨cls,dd,data,sl⟩,ho,hc,n,hd⟩:=id ht;obtain⟨⟨P6,Pr,data2,Pt⟩,Nu,Oi,n2,hd2⟩:=id hb;simp only at hc hd Oi hd2;subst hc hd Oi hd2;have e:vs.toArray++ws.toArray=(vs++ws).toArray:=by simp
 by_cases hw:ws=[]
 ·exact concat_meets ⟨_,ho,rfl⟩ ⟨_,Nu,rfl⟩ noFill_tuple_add seq_tuple_add PySem.F.slot_tuple_add PySem.F.entry_tuple_add (PySem.F.args_tuple_add_2 _ _)
   (tuple_addW1 t b vs.toArray ws.toArray n n2 dd Pr sl Pt (by simpa using hv) (by simp[hw])) ⟨ho,Nu,h1 hw⟩
 ·refine concat_meets ⟨_,ho,rfl⟩ ⟨_,Nu,rfl⟩ noFill_tuple_add seq_tuple_add PySem.F.slot_tuple_add PySem.F.entry_tuple_add (PySem.F.args_tuple_add_2 _ _)
   (tuple_addW2 t b vs.toArray ws.toArray n n2 dd Pr sl Pt (by simpa using hv) (by simpa using hw) (by rw[List.size_toArray,List.size_toArray];exact hsz)) ⟨ho,Nu,?_⟩
  rw[e];exact h2 hw
def FG(n d:Nat):Option Int->Nat
 |none=>d
 |some v=>if v<0 then (v+(n:Int)).toNat else min v.toNat n
theorem Ia(n d:Nat):FG n d none=d:=rfl
theorem G8(n d k:Nat):FG n d (some (k:Int))=min k n:=by
 show(if (k:Int)<0 then ((k:Int)+(n:Int)).toNat else min (k:Int).toNat n)=min k n;rw[if_neg (by omega),Int.toNat_natCast]
theorem B2(n d:Nat)(hd:d<=n)(o:Option Int):FG n d o<=n:=by
 cases o with
 |none=>exact hd
 |some v=>
  show(if v<0 then (v+(n:Int)).toNat else min v.toNat n)<=n;by_cases hv:v<0
  ·rw[if_pos hv];omega
  ·rw[if_neg hv];exact Nat.min_le_right _ _
theorem xu(v:Int)(n d:Nat):(if v<0 then max (v+(n:Int)) 0 else min v (n:Int))=((FG n d (some v):Nat):Int):=by
 show(if v<0 then max (v+(n:Int)) 0 else min v (n:Int))=(((if v<0 then (v+(n:Int)).toNat else min v.toNat n):Nat):Int);by_cases hv:v<0
 ·simp only[if_pos hv];omega
 ·simp only[if_neg hv];omega
theorem wr(lo hi:Option Int)(n:Nat):Builtin.Slice.sliceAdjust lo hi 1 (n:Int)=(((FG n 0 lo:Nat):Int),((FG n n hi:Nat):Int)):=by
 have h1:¬((1:Int)<0):=by omega
 unfold Builtin.Slice.sliceAdjust;simp only[h1,if_false];refine Prod.ext ?_ ?_
 ·cases lo with
  |none=>rfl
  |some v=>exact xu v n 0
 ·cases hi with
  |none=>rfl
  |some v=>exact xu v n n
theorem vX(i j:Nat):Builtin.Slice.slicePlaces (i:Int) (j:Int) 1=j-i:=by
 unfold Builtin.Slice.slicePlaces;have h1:(1:Int) > 0:=by omega
 simp only[h1,if_true,Int.ediv_one];split<;>omega
theorem rj{v:Value}{o:Option Int}{Q:Option Int->Shared->Prop}(p:IsPart v o)(h:Q o s):wpAny (model prog w) A (Builtin.Slice.slicePartIndex v) Q E s:=by
 cases p with
 |none=>exact slicePart_none h
 |int i t=>exact slicePart_int h
theorem GY{sl:Addr}{vl vu:Value}{lo hi:Option Int}{n:Nat}{Q:Int×Int×Nat->Shared->Prop}(hs:s.heap.IsSliceOf sl vl vu .none)(pl:IsPart vl lo)(pu:IsPart vu hi)
  (h:Q (((FG n 0 lo:Nat):Int),1,FG n n hi-FG n 0 lo) s):wpAny (model prog w) A (Builtin.Slice.sliceApplied (.ref sl) (pure (n:Int))) Q E s:=by
 obtain⟨os,OK,Ll,OL⟩:=id hs;unfold Builtin.Slice.sliceApplied Builtin.Slice.sliceFields;refine wpAny_bind (wpAny_bind (wpAny_field OK OL (x:=vl) rfl (wpAny_bind (wpAny_field OK OL (x:=vu) rfl (wpAny_bind (wpAny_field OK OL (x:=.none) rfl (wpAny_pure ?_)))))));refine wpAny_bind (slicePart_none ?_);show wpAny _ _ (if ((1:Int) == 0)=true then _ else _) _ _ s;rw[if_neg (by decide)];refine wpAny_bind (rj pl (wpAny_bind (rj pu (wpAny_bind (wpAny_pure ?_)))));show wpAny _ _ (match Builtin.Slice.sliceAdjust lo hi 1 (n:Int) with|(lo,hi)=>pure (lo,(1:Int),Builtin.Slice.slicePlaces lo hi 1)) _ _ s;rw[wr lo hi n];show wpAny _ _ (pure (((FG n 0 lo:Nat):Int),(1:Int),Builtin.Slice.slicePlaces ((FG n 0 lo:Nat):Int) ((FG n n hi:Nat):Int) 1)) _ _ s;rw[vX];exact wpAny_pure h
theorem z4(xs:Array Value)(i k:Nat):((List.range k).filterMap fun(m:Nat)=>xs[((i:Int)+(m:Int) * 1).toNat]?).toArray=((xs.toList.drop i).take k).toArray:=by
 have e:(fun(m:Nat)=>xs[((i:Int)+(m:Int) * 1).toNat]?)=fun m=>xs[i+m]?:=by
  funext m;have:((i:Int)+(m:Int) * 1).toNat=i+m:=by omega
  rw[this]
 rw[e];have:=pick_run xs i k;rw[List.filterMap_map] at this;have e2:((fun x=>xs[x]?) ∘ fun x=>i+x)=fun m=>xs[i+m]?:=rfl
 rw[e2] at this;rw[this]
theorem Ib{t sl:Addr}{items:Array Value}{vl vu:Value}{lo hi:Option Int}{Q:Value->Shared->Prop}(ht:IsTup s.heap t items)(hs:s.heap.IsSliceOf sl vl vu .none)(pl:IsPart vl lo)(pu:IsPart vu hi)
  (hw:¬(FG items.size 0 lo=0/\FG items.size items.size hi=items.size))
  (h:Q (.ref s.heap.objs.size) { s with heap:=s.heap.push { cls:=.type "tuple",data:=.seq ((items.toList.drop (FG items.size 0 lo)).take (FG items.size items.size hi-FG items.size 0 lo)).toArray } })
  (hsz:items.size<=sizeLine):wpAny (model prog w) A (getItem (.ref t) (.ref sl)) Q E s:=by
 have LQ:sizeOk (.seq ((items.toList.drop (FG items.size 0 lo)).take (FG items.size items.size hi-FG items.size 0 lo)).toArray):=by
  show((items.toList.drop (FG items.size 0 lo)).take (FG items.size items.size hi-FG items.size 0 lo)).toArray.size<=sizeLine;rw[List.size_toArray,List.length_take,List.length_drop,Array.length_toList];omega
 have hj:FG items.size items.size hi<=items.size:=B2 _ _ (Nat.le_refl _) hi;obtain⟨os,OK,Ll,OL⟩:=id hs;have RL:s.TypeIs (.ref sl) "slice":=⟨os,OK,Ll⟩;unfold getItem
 try with_reducible refine wpAny_holding ?_
 first|refine wpAny_bind (wpAny_pure ?_)|skip
 refine wpAny_bind (wpAny_sequenceKey ht.typeIs (by decide) ?_);refine wpAny_bind (wpAny_callSpecial?_slot (name:=Str.ofString "__getitem__") ht.typeIs PyProof.Rows.slot_tuple_getitem
  (wpAny_call_entry PyProof.Rows.slot_tuple_getitem ht.typeIs entry_tuple_getitem ?_ (args_tuple_getitem _ _)))
 show wpAny _ _ (Builtin.Tuple.tupleItemsOf (.ref t) >>= _) _ _ s;refine wpAny_bind (tupleItemsOf_ ht ?_);refine wpAny_bind (wpAny_typeOf RL ?_);rw[if_pos (by decide)];refine wpAny_bind (GY hs pl pu ?_);have LR:¬((((FG items.size 0 lo:Nat):Int) == 0 && (1:Int) == 1 && (FG items.size items.size hi-FG items.size 0 lo) == items.size)=true):=by
  intro q;rw[Bool.and_eq_true,Bool.and_eq_true] at q;have q1:((FG items.size 0 lo:Nat):Int)=0:=eq_of_beq q.1.1;have q2:FG items.size items.size hi-FG items.size 0 lo=items.size:=eq_of_beq q.2;exact hw ⟨by omega,by omega⟩
 show wpAny _ _ (if (((FG items.size 0 lo:Nat):Int) == 0 && (1:Int) == 1 && (FG items.size items.size hi-FG items.size 0 lo) == items.size)=true then _ else _) _ _ s;rw[if_neg LR,z4]
 first
  |exact wpAny_bind (m:=Builtin.Tuple.tupleExact _) (wpAny_newObj_type (wpAny_pure ⟨_,rfl,wpAny_pure h⟩) LQ)
  |exact wpAny_bind (m:=Builtin.Tuple.tupleExact _) (wpAny_newObj_type (wpAny_bind (wpAny_pure (wpAny_pure ⟨_,rfl,wpAny_pure h⟩))) LQ)
  |exact wpAny_bind (wpAny_bind (m:=Builtin.Tuple.tupleExact _) (wpAny_newObj_type (wpAny_pure (wpAny_pure ⟨_,rfl,wpAny_pure h⟩)) LQ))
  |exact wpAny_bind (wpAny_bind (m:=Builtin.Tuple.tupleExact _) (wpAny_newObj_type (wpAny_pure ⟨_,rfl,wpAny_pure h⟩) LQ))
end
end HT
namespace L2
open PySem PySem.Spec PyProof.Rows
abbrev TO:=St->Hp->(Option Int->Hp->Prop)->Prop
theorem v7{ns:List Int}:∀{us:List Value},Vals (ns.map V.int) us->IntsAre us ns:=by
 induction ns with
 |nil=>intro us r;rw[List.map_nil] at r;cases r;exact .nil
 |cons n ns ih=>
  intro us r;rw[List.map_cons] at r;cases r with
  |cons r1 r2=>
   obtain⟨t,e⟩:=r1;subst e;exact .cons n t (ih r2)
section
variable{X:Cx}{e:Expr}{te:TE}{lo hi:Option Expr}{tl th:TO}{pos p2:Pos}
def P7(X:Cx)(r:V->Option Int->Option Int->Hp->VK->Prop):Prop:=
 ∀(pins:List (Addr×Obj)) (s:Shared) (σ:St) (H:Hp) (x:V) (v vl vu:Value) (lo hi:Option Int) (sl:Addr) (Q:VK),Inv X pins σ H s->RelV x v->s.heap.IsSliceOf sl vl vu .none->IsPart vl lo->IsPart vu hi->r x lo hi H Q->
  ∃T id,typeLookup (.type T) "__getitem__"=pure (some (.builtin id))/\s.TypeIs v T/\wpAny (model X.prog X.w) X.A (getItem v (.ref sl)) (EP X pins σ Q) X.xe s
theorem P7.or{r r':V->Option Int->Option Int->Hp->VK->Prop}(h:P7 X r)(h':P7 X r'):P7 X (fun x lo hi H Q=>r x lo hi H Q\/r' x lo hi H Q):=by
 intro pins s σ H x v vl vu lo hi sl Q I rx hs pl pu q;rcases q with q|q
 ·exact h pins s σ H x v vl vu lo hi sl Q I rx hs pl pu q
 ·exact h' pins s σ H x v vl vu lo hi sl Q I rx hs pl pu q
def wo(xs:List V)(lo hi:Option Int):List V:=(xs.drop (HT.FG xs.length 0 lo)).take (HT.FG xs.length xs.length hi-HT.FG xs.length 0 lo)
theorem pp(xs:List V)(lo hi:Option Int):(wo xs lo hi).length<=xs.length:=by
 unfold wo;rw[List.length_take,List.length_drop];omega
theorem Vals.Ic{xs:List V}{us:List Value}(r:Vals xs us):us=[]↔xs=[]:=by
 cases r with
 |nil=>simp
 |cons _ _=>simp
end
end L2
namespace L2
open PySem PySem.Spec PyProof.Rows
def Lm(n:Nat)(i:Int):Option Nat:=if 0<=i then (if i<n then some i.toNat else none) else if -(n:Int)<=i then some (i+n).toNat else none
def KR{α:Type}(xs:List α)(i:Int):Option α:=(Lm xs.length i).bind fun j=>xs[j]?
theorem xv{n:Nat}{i:Int}{j:Nat}(h:Lm n i=some j):seqIndex? i n=some j/\j<n/\-(n:Int)<=i/\i<n:=by
 unfold Lm at h;by_cases h0:0<=i
 ·rw[if_pos h0] at h;by_cases h1:i<n
  ·rw[if_pos h1] at h;have e:i.toNat=j:=Option.some.inj h;exact⟨by rw[seqIndex_of h0 h1,e],by omega,by omega,h1⟩
  ·rw[if_neg h1] at h;cases h
 ·rw[if_neg h0] at h;by_cases h1:-(n:Int)<=i
  ·rw[if_pos h1] at h;have e:(i+n).toNat=j:=Option.some.inj h;exact⟨by rw[seqIndex_neg (by omega) h1,e],by omega,h1,by omega⟩
  ·rw[if_neg h1] at h;cases h
theorem xB{α:Type}{xs:List α}{i:Int}{v:α}(h:KR xs i=some v):∃j,seqIndex? i xs.length=some j/\xs[j]?=some v/\j<xs.length/\-(xs.length:Int)<=i/\i<xs.length:=by
 unfold KR at h;cases e:Lm xs.length i with
 |none=>rw[e] at h;cases h
 |some j=>
  rw[e] at h;obtain⟨h1,h2,h3,h4⟩:=xv e;exact⟨j,h1,h,h2,h3,h4⟩
theorem ui{α:Type}{xs:List α}{j:Nat}{v:α}(h:xs[j]?=some v):KR xs (j:Int)=some v:=by
 have hj:j<xs.length:=(List.getElem?_eq_some_iff.mp h).1;have e:Lm xs.length (j:Int)=some j:=by
  unfold Lm;rw[if_pos (by omega),if_pos (by omega)];simp
 unfold KR;rw[e];exact h
def Bs(b:Expr):Prop:=∀o i,subscripted b false o i=operate [o,i] (getItem o i)
def OM(X:Cx)(r:R2):Prop:=
 ∀(value slice:Expr) (pins:List (Addr×Obj)) (s:Shared) (σ:St) (H:Hp) (x y:V) (v u:Value) (Q:VK),Inv X pins σ H s->RelV x v->RelV y u->r x y H Q->
  subscripted slice false v u=operate [v,u] (getItem v u)->wpAny (model X.prog X.w) X.A (subscriptTail value slice v u) (EP X pins σ Q) X.xe s
def QQ(X:Cx)(id:String)(r:V->List V->Hp->VK->Prop):Prop:=
 ∀(pins:List (Addr×Obj)) (s:Shared) (σ:St) (H:Hp) (x:V) (xs:List V) (v:Value) (us:List Value) (Q:VK),Inv X pins σ H s->RelV x v->Vals xs us->r x xs H Q->
  wpAny (model X.prog X.w) X.A (call (.builtin id) (v :: us)) (EP X pins σ Q) X.xe s
section
variable{X:Cx}{a b:Expr}{ta tb:TE}{pos:Pos}
theorem OM.or{r r':R2}(h:OM X r)(h':OM X r'):OM X (fun x y H Q=>r x y H Q\/r' x y H Q):=by
 intro value slice pins s σ H x y v u Q I rx ry q hs;rcases q with q|q
 ·exact h value slice pins s σ H x y v u Q I rx ry q hs
 ·exact h' value slice pins s σ H x y v u Q I rx ry q hs
theorem QQ.or{id:String}{r r':V->List V->Hp->VK->Prop}(h:QQ X id r)(h':QQ X id r'):QQ X id (fun x xs H Q=>r x xs H Q\/r' x xs H Q):=by
 intro pins s σ H x xs v us Q I rx rs q;rcases q with q|q
 ·exact h pins s σ H x xs v us Q I rx rs q
 ·exact h' pins s σ H x xs v us Q I rx rs q
def Da(K:PySem.W.Frag):R2:=fun x y H Q=>∃p xs i v,x=.ref p/\y=.int i/\GD K H p xs/\KR xs i=some v/\Q v H
def Dk(K:PySem.W.Frag):R2:=fun x y H Q=>∃p xs i v,x=.ref p/\y=.int i/\Hh K H p xs/\KR xs i=some v/\Q v H
theorem Az:OM X (Da X.K):=by
 intro value slice pins s σ H x y v u Q I rx ry h hs;obtain⟨p,xs,i,z,rfl,rfl,hq,he,q⟩:=h;cases rx;obtain⟨t,rfl⟩:=ry;obtain⟨u_,r,pl,hz⟩:=I.list hq;obtain⟨j,h1,h2,h3,h4,h5⟩:=xB he;obtain⟨w,ew,HV⟩:=r.get h2;have hl:=r.length;have hn:=mW;have fin:EP X pins σ Q w s:=⟨z,H,I,HV,q⟩;by_cases h0:0<=i
 ·have hj:i.toNat=j:=by
   rw[seqIndex_of h0 h5] at h1;exact Option.some.inj h1
  exact item_listR pl.isList h0 (by omega) (by rw[hj];simpa using ew) fin hs
 ·have hj:(i+(u_.toArray.size:Int)).toNat=j:=by
   rw[seqIndex_neg (by omega) h4] at h1;rw[List.size_toArray,<-hl];exact Option.some.inj h1
  exact subscriptTail_builtinR (x:=w) pl.isList.typeIs slot_list_getitem.lookup
   (wpAny_getItem_list_neg (Q:=fun r s'=>r=w/\EP X pins σ Q r s') pl.isList (by omega) (by rw[List.size_toArray]<;>omega) (by omega) (by rw[hj];simpa using ew) ⟨rfl,fin⟩) hs
theorem BZ:OM X (Dk X.K):=by
 intro value slice pins s σ H x y v u Q I rx ry h hs;obtain⟨p,xs,i,z,rfl,rfl,hq,he,q⟩:=h;cases rx;obtain⟨t,rfl⟩:=ry;obtain⟨u_,r,pl,hz⟩:=I.tuple hq;obtain⟨j,h1,h2,h3,h4,h5⟩:=xB he;obtain⟨w,ew,HV⟩:=r.get h2;have hl:=r.length;have hn:=mW;have fin:EP X pins σ Q w s:=⟨z,H,I,HV,q⟩;exact subscriptTail_builtinR (x:=w) pl.typeIs slot_tuple_getitem.lookup
  (getItem_tuple (j:=j) (Q:=fun r s'=>r=w/\EP X pins σ Q r s') pl (by omega) (by omega) (by rw[List.size_toArray,<-hl];exact h1) (by simpa using ew) ⟨rfl,fin⟩) hs
theorem vU(u_:List Value)(n j:Nat)(u:Value):Obj.mapSeq (·.setIfInBounds j u) { cls:=.type "list",data:=.seq u_.toArray n } = { cls:=.type "list",data:=.seq (u_.set j u).toArray n }:=by
 simp[Obj.mapSeq]
theorem Inv.lst{pins:List (Addr×Obj)}{σ:St}{H:Hp}{s:Shared}{p:Addr}{xs:List V}(I:Inv X pins σ H s)(h:H p=some (.lst xs)) :
  ∃(u_:List Value) (n:Nat),Vals xs u_/\s.heap.get? p=some { cls:=.type "list",data:=.seq u_.toArray n }/\xs.length<=sizeLine:=by
 obtain⟨z,u_,n,r,e⟩:=I.EI p _ h;exact⟨u_,n,r,e,z⟩
theorem Inv.ON{pins:List (Addr×Obj)}{σ:St}{H:Hp}{s:Shared}{p:Addr}{xs ys:List V}{u_ its':List Value}{n n':Nat}{f:Obj->Obj}(I:Inv X pins σ H s)(h:H p=some (.lst xs))
  (ho:s.heap.get? p=some { cls:=.type "list",data:=.seq u_.toArray n }) (hf:f { cls:=.type "list",data:=.seq u_.toArray n } = { cls:=.type "list",data:=.seq its'.toArray n' }) (r:Vals ys its') (hz:ys.length<=sizeLine) (t:Nat) :
  Inv X pins σ (upd H p (.lst ys)) { s with heap:=s.heap.update p f,toks:=t }:=by
 have e:(s.heap.update p f).get? p=some { cls:=.type "list",data:=.seq its'.toArray n' }:=by
  rw[Heap.get?_update_self f ho (by rw[hf]<;>rfl),hf]
 refine I.write (x:=p) (e:=p) (by rw[h];trivial) (.inl rfl) (fun b u hb q=>(Heap.get?_update_other _ _ (Ne.symm hb)).trans q) ⟨_,e⟩ ?_;exact⟨hz,its',n',r,e⟩
def Dx:V->V->V->Hp->(Hp->Prop)->Prop:=fun o i v H Q=>∃p xs k j,o=.ref p/\i=.int k/\H p=some (.lst xs)/\Lm xs.length k=some j/\Q (upd H p (.lst (xs.set j v)))
theorem zl:D4 X Dx:=by
 intro pins s σ H o i v ov iv u Q I ro ri rv h;obtain⟨p,xs,k,j,rfl,rfl,hp,hj,q⟩:=h;cases ro;obtain⟨t,rfl⟩:=ri;obtain⟨u_,n,r,ho,hz⟩:=I.lst hp;obtain⟨h1,h2,h3,h4⟩:=xv hj;have hl:=r.length;have hn:=mW;have I':Inv X pins σ (upd H p (.lst (xs.set j v))) { s with heap:=s.heap.update p (Obj.mapSeq (·.setIfInBounds j u)) }:=
  I.ON hp ho (vU u_ n j u) (r.set rv j) (by rw[List.length_set];exact hz) s.toks
 by_cases h0:0<=k
 ·have hk:k.toNat=j:=by
   rw[seqIndex_of h0 h4] at h1;exact Option.some.inj h1
  exact PySem.W.ki_setAt ho h0 (by omega) (by rw[List.size_toArray,<-hl];exact h4) (by rw[hk];exact⟨_,I',q⟩)
 ·have hk:(k+(u_.toArray.size:Int)).toNat=j:=by
   rw[seqIndex_neg (by omega) h3] at h1;rw[List.size_toArray,<-hl];exact Option.some.inj h1
  exact PySem.W.ki_setBack ho (by omega) (by rw[List.size_toArray,<-hl];exact h3) (by omega) (by rw[hk];exact⟨_,I',q⟩)
theorem tX(lo hi:Option Int)(n:Nat):(sliceBounds lo hi none n).1=((HT.FG n 0 lo:Nat):Int)/\(sliceBounds lo hi none n).2.1=((HT.FG n n hi:Nat):Int)/\(sliceBounds lo hi none n).2.2=1:=by
 refine⟨?_,?_,rfl⟩
 ·cases lo with
  |none=>simp[sliceBounds,HT.FG]
  |some i=>
   simp only[sliceBounds,HT.FG,Option.getD_none,show(1:Int) > 0 by decide,if_true];by_cases h:i<0
   ·simp only[h,if_true]<;>omega
   ·simp only[h,if_false]<;>omega
 ·cases hi with
  |none=>simp[sliceBounds,HT.FG]
  |some i=>
   simp only[sliceBounds,HT.FG,Option.getD_none,show(1:Int) > 0 by decide,if_true];by_cases h:i<0
   ·simp only[h,if_true]<;>omega
   ·simp only[h,if_false]<;>omega
theorem rV(u_:List Value)(lo hi:Option Int):slicePick u_.toArray lo hi none=((u_.drop (HT.FG u_.length 0 lo)).take (HT.FG u_.length u_.length hi-HT.FG u_.length 0 lo)).toArray:=by
 obtain⟨h1,h2,h3⟩:=tX lo hi u_.toArray.size;unfold slicePick;rw[h1,h2,h3];simp only[sliceRange_one,pick_run,List.size_toArray]<;>rfl
def El(K:PySem.W.Frag):V->Option Int->Option Int->Hp->VK->Prop:=fun x lo hi H Q=>∃a xs,x=.ref a/\GD K H a xs/\∀p,H p=none->Q (.ref p) (upd H p (.lst (wo xs lo hi)))
theorem wT:P7 X (El X.K):=by
 intro pins s σ H x v vl vu lo hi sl Q I rx hs pl pu h;obtain⟨a,xs,rfl,hx,q⟩:=h;cases rx;obtain⟨u_,r,ht,hz⟩:=I.list hx;have hlen:=r.length;refine⟨"list",_,slot_list_getitem.lookup,ht.isList.typeIs,?_⟩;refine wpAny_getItem_list_slice ht.isList hs pl pu .none (by simp) ?_ (by rw[List.size_toArray]<;>omega);rw[rV,<-hlen];refine⟨.ref s.heap.objs.size,_,I.laid (t':=s.toks) (o:=.lst (wo xs lo hi)) (fun b ob q=>Heap.get?_push_of_some _ q) (Nat.le_refl _) ?_,rfl,q _ (I.EI.fresh (Nat.le_refl _))⟩;exact⟨Nat.le_trans (pp xs lo hi) hz,_,0,(r.drop (HT.FG xs.length 0 lo)).take (HT.FG xs.length xs.length hi-HT.FG xs.length 0 lo),Heap.get?_push_size _ rfl⟩
def j2:V->Bool
 |.B_=>true
 |.bl _=>true
 |.int _=>true
 |.str _=>true
 |_=>false
def Mp:V->V->Bool
 |.B_,.B_=>true
 |.bl a,.bl b=>a == b
 |.bl a,.int b=>(if a then 1 else 0) == b
 |.int a,.bl b=>a == (if b then 1 else 0)
 |.int a,.int b=>a == b
 |.str a,.str b=>a == b
 |_,_=>false
theorem CC{A:Around}{s:Shared}{y x:V}{u v:Value}(ry:RelV y u)(rx:RelV x v)(fy:j2 y=true)(fx:j2 x=true):SeqAt.EqAt A s u v (Mp y x):=by
 cases y with
 |B_=>
  cases ry;cases x with
  |B_=>cases rx;exact SeqAt.EqAt.same _
  |bl b=>cases rx;exact SeqAt.EqAt.none_bool b
  |int b=>obtain⟨t,rfl⟩:=rx;exact SeqAt.EqAt.none_int b t
  |str b=>obtain⟨t,rfl⟩:=rx;exact SeqAt.EqAt.none_str b t
  |_=>exact absurd (show false=true from fx) Bool.false_ne_true
 |bl a=>
  cases ry;cases x with
  |B_=>cases rx;exact SeqAt.EqAt.bool_none a
  |bl b=>cases rx;exact SeqAt.EqAt.bool_bool a b
  |int b=>obtain⟨t,rfl⟩:=rx;exact SeqAt.EqAt.bool_int a b t
  |str b=>obtain⟨t,rfl⟩:=rx;exact SeqAt.EqAt.bool_str a b t
  |_=>exact absurd (show false=true from fx) Bool.false_ne_true
 |int a=>
  obtain⟨t',rfl⟩:=ry;cases x with
  |B_=>cases rx;exact SeqAt.EqAt.int_none a t'
  |bl b=>cases rx;exact SeqAt.EqAt.int_bool a t' b
  |int b=>obtain⟨t,rfl⟩:=rx;exact SeqAt.EqAt.int_int a t' b t
  |str b=>obtain⟨t,rfl⟩:=rx;exact SeqAt.EqAt.int_str a t' b t
  |_=>exact absurd (show false=true from fx) Bool.false_ne_true
 |str a=>
  obtain⟨t',rfl⟩:=ry;cases x with
  |B_=>cases rx;exact SeqAt.EqAt.str_none a t'
  |bl b=>cases rx;exact SeqAt.EqAt.str_bool a t' b
  |int b=>obtain⟨t,rfl⟩:=rx;exact SeqAt.EqAt.str_int a t' b t
  |str b=>obtain⟨t,rfl⟩:=rx;exact SeqAt.EqAt.str_str a t' b t
  |_=>exact absurd (show false=true from fx) Bool.false_ne_true
 |_=>exact absurd (show false=true from fy) Bool.false_ne_true
def Mq(x:V)(u:Value):Bool:=match u with
 |.none=>Mp .B_ x
 |.bool b=>Mp (.bl b) x
 |.int i _=>Mp (.int i) x
 |.str z _=>Mp (.str z) x
 |_=>false
theorem v8{x y:V}{u:Value}(r:RelV y u)(f:j2 y=true):Mq x u=Mp y x:=by
 cases y with
 |B_=>cases r;rfl
 |bl b=>cases r;rfl
 |int i=>obtain⟨t,rfl⟩:=r;rfl
 |str z=>obtain⟨t,rfl⟩:=r;rfl
 |_=>exact absurd (show false=true from f) Bool.false_ne_true
theorem tP{x:V}:∀{xs:List V}{us:List Value},Vals xs us->xs.all j2=true->us.any (Mq x)=xs.any fun y=>Mp y x
 |_,_,.nil,_=>rfl
 |y :: xs,u :: us,.cons r t,f=>by
  rw[List.all_cons,Bool.and_eq_true] at f;rw[List.any_cons,List.any_cons,v8 r f.1,tP t f.2]
theorem nO{A:Around}{s:Shared}{x:V}{v:Value}(rx:RelV x v)(fx:j2 x=true):∀{xs:List V}{us:List Value},Vals xs us->xs.all j2=true->∀u∈us,SeqAt.EqAt A s u v (Mq x u)
 |_,_,.nil,_=>fun u hu=>by cases hu
 |y :: xs,u :: us,.cons r t,f=>fun u' hu=>by
  rw[List.all_cons,Bool.and_eq_true] at f;rcases List.mem_cons.mp hu with rfl|hu
  ·rw[v8 r f.1];exact CC r rx f.1 fx
  ·exact nO rx fx t f.2 u' hu
def LS(x:V)(xs:List V):Bool:=xs.any fun y=>Mp y x
def Xg(K:PySem.W.Frag)(neg:Bool):R2:=fun x y H Q=>∃p xs,y=.ref p/\(GD K H p xs\/Hh K H p xs)/\j2 x=true/\xs.all j2=true/\Q (.bl (if neg then !LS x xs else LS x xs)) H
theorem yk:Kj X (compareOp .In) (Xg X.K false):=by
 intro pins s σ H x y v u Q I rx ry h;obtain⟨p,xs,rfl,hq,fx,fs,q⟩:=h;cases ry;rcases hq with hq|hq
 ·obtain⟨u_,r,pl,hz⟩:=I.list hq;refine SeqAt.in_listAt (Mq x) pl.isList (fun w hw=>nO rx fx r fs w (by simpa using hw)) ⟨.bl _,H,I,rfl,?_⟩;rw[show u_.toArray.any (Mq x)=u_.any (Mq x) by simp,tP r fs];exact q
 ·obtain⟨u_,r,pl,hz⟩:=I.tuple hq;refine SeqAt.in_tupleAt (Mq x) pl (fun w hw=>nO rx fx r fs w (by simpa using hw)) ⟨.bl _,H,I,rfl,?_⟩;rw[show u_.toArray.any (Mq x)=u_.any (Mq x) by simp,tP r fs];exact q
theorem tM:HE X (.builtin "len") (fun xs H Q=>∃p ys,xs=[.ref p]/\(GD X.K H p ys\/Hh X.K H p ys)/\Q (.int ys.length) H):=by
 intro pins s σ H xs us Q I r h;obtain⟨p,ys,rfl,hq,q⟩:=h;obtain⟨u,rfl,rx⟩:=zN r;cases rx;have hn:=mW;rcases hq with hq|hq
 ·obtain⟨u_,r',pl,hz⟩:=I.list hq;have hlen:=r'.length;exact Calls.call_len_list pl.isList (by simp only[List.size_toArray]<;>omega) ⟨.int ys.length,H,I.tok _,⟨s.toks+1,by rw[List.size_toArray,hlen]⟩,q⟩
 ·obtain⟨u_,r',pl,hz⟩:=I.tuple hq;have hlen:=r'.length;exact len_tuple pl (by simp only[List.size_toArray]<;>omega) ⟨.int ys.length,H,I.tok _,⟨s.toks+1,by rw[List.size_toArray,hlen]⟩,q⟩
theorem HE.or{f:Value}{r r':List V->Hp->VK->Prop}(h:HE X f r)(h':HE X f r'):HE X f (fun xs H Q=>r xs H Q\/r' xs H Q):=by
 intro pins s σ H xs us Q I rs q;rcases q with q|q
 ·exact h pins s σ H xs us Q I rs q
 ·exact h' pins s σ H xs us Q I rs q
theorem ul:HE X (.type "list") (fun xs H Q=>∃p ys,xs=[.ref p]/\(GD X.K H p ys\/Hh X.K H p ys)/\∀l,H l=none->Q (.ref l) (upd H l (.lst ys))):=by
 intro pins s σ H xs us Q I r h;obtain⟨p,ys,rfl,hq,q⟩:=h;obtain⟨u,rfl,rx⟩:=zN r;cases rx;have fin:∀(u_:List Value),Vals ys u_->ys.length<=sizeLine->∀(h':Heap) (c':Nat),(∀b o',s.heap.get? b=some o'->h'.get? b=some o')->
   h'.get? s.heap.objs.size=some { cls:=.type "list",dict:=none,data:=.seq u_.toArray c',slots:=#[] }->EP X pins σ Q (.ref s.heap.objs.size) { s with heap:=h' }:=fun u_ r' hz h' c' kp e=>
  ⟨.ref s.heap.objs.size,_,I.laid (t':=s.toks) kp (Nat.le_refl _) (show Fe X.prog X.w _ h' _ (.lst ys) from ⟨hz,u_,c',r',e⟩),rfl,q _ (I.EI.fresh (Nat.le_refl _))⟩
 rcases hq with hq|hq
 ·obtain⟨u_,r',pl,hz⟩:=I.list hq;have hlen:=r'.length;obtain⟨o,ho,hc,n,hd⟩:=pl.isList;exact call_list_seq p (.inl rfl) ho hc hd (fun h' c' kp e=>fin u_ r' hz h' c' kp e) (by simp only[List.size_toArray]<;>omega)
 ·obtain⟨u_,r',pl,hz⟩:=I.tuple hq;have hlen:=r'.length;obtain⟨o,ho,hc,n,hd⟩:=pl;exact call_list_seq p (.inr rfl) ho hc hd (fun h' c' kp e=>fin u_ r' hz h' c' kp e) (by simp only[List.size_toArray]<;>omega)
theorem rK:HE X (.type "tuple") (fun xs H Q=>∃p ys,xs=[.ref p]/\((GD X.K H p ys/\∀l,H l=none->Q (.ref l) (upd H l (.tup ys)))\/(Hh X.K H p ys/\Q (.ref p) H))):=by
 intro pins s σ H xs us Q I r h;obtain⟨p,ys,rfl,h⟩:=h;obtain⟨u,rfl,rx⟩:=zN r;cases rx;rcases h with ⟨hq,q⟩|⟨hq,q⟩
 ·obtain⟨u_,r',pl,hz⟩:=I.list hq;have hlen:=r'.length;refine call_tuple_list pl.isList (fun h' kp=>?_) (by simp only[List.size_toArray]<;>omega);have I1:Inv X pins σ H { s with heap:=h' }:=I.kept (t':=s.toks) kp;have I2:Inv X pins σ (upd H h'.objs.size (.tup ys)) { s with heap:=h'.push { cls:=.type "tuple",data:=.seq u_.toArray } }:=
   I1.laid (t':=s.toks) (fun b o e=>Heap.get?_push_of_some _ e) (Nat.le_refl _) (show Fe X.prog X.w _ _ _ (.tup ys) from ⟨hz,u_,r',IsTup.new _ _⟩)
  exact⟨.ref h'.objs.size,_,I2,rfl,q _ (I1.EI.fresh (Nat.le_refl _))⟩
 ·obtain⟨u_,r',pl,hz⟩:=I.tuple hq;exact call_tuple_same pl ⟨.ref p,H,I,rfl,q⟩
def Xh(K:PySem.W.Frag)(T:String)(x:V)(H:Hp):Prop:=match x with
 |.str _=>T = "str"
 |.int _=>T = "int"
 |.ref p=>(T = "list"/\∃xs,GD K H p xs)\/(T = "tuple"/\∃o,K.lookup p=some o/\o.cls=.type "tuple"/\o.dict=none)\/
   (T = "dict"/\((∃kvs,H p=some (.dK kvs))\/∃kvs,H p=some (.dT kvs)))\/(T = "set"/\∃S n,H p=some (.set S n))
 |_=>False
theorem CA{pins:List (Addr×Obj)}{σ:St}{H:Hp}{s:Shared}{T:String}{x:V}{v:Value}(I:Inv X pins σ H s)(r:RelV x v)(ty:Xh X.K T x H) :
  s.TypeIs v T/\∀a,v=.ref a->∃ob,s.heap.get? a=some ob/\ob.dict=none:=by
 cases x with
 |str z=>
  obtain⟨t,rfl⟩:=r;cases(show T = "str" from ty);exact⟨typeIs_str s z t,fun _ e=>nomatch e⟩
 |int i=>
  obtain⟨t,rfl⟩:=r;cases(show T = "int" from ty);exact⟨typeIs_int s i t,fun _ e=>nomatch e⟩
 |ref p=>
  cases r;rcases ty with ⟨rfl,xs,hq⟩|⟨rfl,o,hk,hc,hd⟩|⟨rfl,hk⟩|⟨rfl,S,n,hk⟩
  ·obtain⟨u_,_,pl,_⟩:=I.list hq;refine⟨pl.isList.typeIs,fun a e=>?_⟩;cases e;obtain⟨o,n,e,c,hd,_⟩:=pl;exact⟨o,e,hd⟩
  ·refine⟨⟨o,I.IY p o hk,hc⟩,fun a e=>?_⟩;cases e;exact⟨o,I.IY _ o hk,hd⟩
  ·have z:∃o,s.heap.get? p=some o/\o.ExactDict:=by
    rcases hk with ⟨kvs,hk⟩|⟨kvs,hk⟩
    ·obtain⟨_,_,_,_,o,_,_,e,ex,_⟩:=I.EI p _ hk;exact⟨o,e,ex⟩
    ·obtain⟨_,_,_,_,o,_,_,e,ex,_⟩:=I.EI p _ hk;exact⟨o,e,ex⟩
   obtain⟨o,e,ex⟩:=z;refine⟨⟨o,e,ex.1⟩,fun a e2=>?_⟩;cases e2;exact⟨o,e,ex.2.1⟩
  ·obtain⟨o,_,_,_,e,ex,_⟩:=I.EI p _ hk;refine⟨⟨o,e,ex.1⟩,fun a e2=>?_⟩;cases e2;exact⟨o,e,ex.2.1⟩
 |_=>exact False.elim ty
variable{o e:Expr}{es:List Expr}{to:TE}{t:TA}{name:Str}{apos Fp:Pos}{T id:String}{r:V->List V->Hp->VK->Prop}
end
end L2
namespace L2
open PySem PySem.Spec PyProof.Rows
def Vy(X:Cx)(id:String)(r:V->List V->Hp->VK->Prop):Prop:=
 ∀(pins:List (Addr×Obj)) (s:Shared) (σ:St) (H:Hp) (x:V) (xs:List V) (v:Value) (us:List Value) (Q:VK),Inv X pins σ H s->RelV x v->Vals xs us->r x xs H Q->
  wpAny (model X.prog X.w) X.A (call (.builtin id) (v :: us)) (EP X pins σ Q) X.xe s
theorem Vals.one:∀{x:V}{us:List Value},Vals [x] us->∃u,us=[u]/\RelV x u
 |_,_,.cons r .nil=>⟨_,rfl,r⟩
theorem Vals.two:∀{x y:V}{us:List Value},Vals [x,y] us->∃u v,us=[u,v]/\RelV x u/\RelV y v
 |_,_,_,.cons r (.cons q .nil)=>⟨_,_,rfl,r,q⟩
theorem Vals.zero:∀{us:List Value},Vals [] us->us=[]
 |_,.nil=>rfl
theorem Vals.eraseIdx:∀{xs:List V}{us:List Value}(i:Nat),Vals xs us->Vals (xs.eraseIdx i) (us.eraseIdx i)
 |_,_,_,.nil=>.nil
 |_,_,0,.cons _ t=>t
 |_,_,i+1,.cons r t=>.cons r (Vals.eraseIdx i t)
theorem Vals.rep{xs:List V}{us:List Value}(h:Vals xs us):∀k:Nat,Vals (List.replicate k xs).flatten (List.replicate k us).flatten
 |0=>.nil
 |k+1=>by
  rw[List.replicate_succ,List.replicate_succ,List.flatten_cons,List.flatten_cons];exact Vals.append h (Vals.rep h k)
theorem sS{α:Type}:∀(l:List α) (i:Nat),(l.eraseIdx i).length<=l.length
 |[],_=>Nat.le_refl _
 |_ :: _,0=>Nat.le_succ _
 |_ :: r,i+1=>Nat.succ_le_succ (sS r i)
theorem sX(u_:List Value):∀(k:Nat) (acc:List Value),
  List.foldl (fun x1 x2=>x1++x2) acc.toArray (List.replicate k u_.toArray)=(acc++(List.replicate k u_).flatten).toArray
 |0,acc=>by simp
 |k+1,acc=>by
  have e:acc.toArray++u_.toArray=(acc++u_).toArray:=by simp
  have e2:(acc++u_)++(List.replicate k u_).flatten=acc++(List.replicate (k+1) u_).flatten:=by
   rw[List.replicate_succ,List.flatten_cons,List.append_assoc]
  rw[<-e2,<-sX u_ k (acc++u_),<-e,List.replicate_succ,List.foldl_cons]
section
variable{X:Cx}{pins:List (Addr×Obj)}{σ:St}{H:Hp}{s:Shared}{l b:Addr}{xs ys zs:List V}
theorem Inv.Nv{u_ its':List Value}{n:Nat}{f:Array Value->Array Value}{t':Nat}(I:Inv X pins σ H s)(hH:H l=some (.lst xs))
  (e:s.heap.get? l=some { cls:=.type "list",data:=.seq u_.toArray n }) (hf:f u_.toArray=its'.toArray) (hv:Vals ys its') (hz:ys.length<=sizeLine) :
  Inv X pins σ (upd H l (.lst ys)) { s with heap:=s.heap.update l (Obj.mapSeq f),toks:=t' }:=by
 have q:=PySem.IsL.update e f;rw[hf] at q;refine I.write (x:=l) (e:=l) (by rw[hH];exact trivial) (.inl rfl) (fun b' u hb hu=>(Heap.get?_update_other s.heap (Obj.mapSeq f) (Ne.symm hb)).trans hu) ⟨_,q⟩ ?_;exact⟨hz,its',_,hv,q⟩
theorem Inv.P8{u_:List Value}{t':Nat}(I:Inv X pins σ H s)(hv:Vals ys u_)(hz:ys.length<=sizeLine) :
  Inv X pins σ (upd H s.heap.objs.size (.lst ys)) { s with heap:=s.heap.push { cls:=.type "list",data:=.seq u_.toArray },toks:=t' }:=
 I.laid (fun _ _ q=>Heap.get?_push_of_some _ q) (Nat.le_refl _) ⟨hz,u_,0,hv,Heap.get?_push_size _ rfl⟩
theorem Inv.fresh(I:Inv X pins σ H s):H s.heap.objs.size=none:=I.EI.fresh (Nat.le_refl _)
theorem Inv.K0(I:Inv X pins σ H s)(hH:H l=some (.lst xs)):xs.length<=sizeLine/\∃(u_:List Value) (n:Nat),Vals xs u_/\xs.length=u_.length/\s.heap.get? l=some { cls:=.type "list",data:=.seq u_.toArray n }:=by
 obtain⟨z,u_,n,r,e⟩:=I.EI l _ hH;exact⟨z,u_,n,r,r.length,e⟩
theorem uY{n:Nat}(h:n<=sizeLine):Builtin.List.listTooLong n=false:=by
 unfold Builtin.List.listTooLong;exact decide_eq_false (by omega)
end
section
variable{X:Cx}
def AK:V->List V->Hp->VK->Prop:=fun x vs H Q=>∃l xs y,x=.ref l/\vs=[y]/\H l=some (.lst xs)/\xs.length<sizeLine/\Q .B_ (upd H l (.lst (xs++[y])))
theorem sR:Vy X "list.append" AK:=by
 intro pins s σ H x vs v us Q I rx rv h;obtain⟨l,xs,y,rfl,rfl,hH,hz,q⟩:=h;cases rx;obtain⟨u,rfl,ru⟩:=rv.one;obtain⟨z,u_,n,r,hl,e⟩:=I.K0 hH;refine call_meets F.slot_list_append ⟨_,e,rfl⟩ F.entry_list_append (F.args_list_append_2 _ _) (PySem.list_append l u_.toArray n u (by rw[List.size_toArray];omega)) ⟨e,?_⟩;refine⟨.B_,_,I.Nv (its':=u_++[u]) hH e (by simp) (r.append (.cons ru .nil)) ?_,rfl,q⟩;rw[List.length_append,List.length_singleton];omega
def Co:V->List V->Hp->VK->Prop:=fun x vs H Q=>∃l xs i k y,x=.ref l/\vs=[.int i]/\H l=some (.lst xs)/\-(2 ^ 63)<=i/\i<2 ^ 63/\seqIndex? i xs.length=some k/\xs[k]?=some y/\Q y (upd H l (.lst (xs.eraseIdx k)))
theorem zm:Vy X "list.pop" Co:=by
 intro pins s σ H x vs v us Q I rx rv h;obtain⟨l,xs,i,k,y,rfl,rfl,hH,h1,h2,hk,hy,q⟩:=h;cases rx;obtain⟨u,rfl,ru⟩:=rv.one;obtain⟨t,rfl⟩:=ru;obtain⟨z,u_,n,r,hl,e⟩:=I.K0 hH;obtain⟨w,hw,HV⟩:=r.get hy;refine call_meets F.slot_list_pop ⟨_,e,rfl⟩ F.entry_list_pop (F.args_list_pop_2 _ _)
  (MeetsSeq.list_pop_at l u_.toArray n i t k w (fitsIndex_both h1 h2) (by rw[List.size_toArray,<-hl];exact hk) (by rw[<-Array.getElem?_toList];exact hw) (by rw[List.size_toArray];omega)) ⟨e,?_⟩
 refine⟨y,_,I.Nv (its':=u_.eraseIdx k) hH e ?_ (r.eraseIdx k) ?_,HV,q⟩
 ·show u_.toArray.eraseIdxIfInBounds k=(u_.eraseIdx k).toArray;rw[List.eraseIdxIfInBounds_toArray]
 ·have:=sS xs k;omega
def DP:R2:=fun x y H Q=>∃l b xs zs,x=.ref l/\y=.ref b/\H l=some (.lst xs)/\H b=some (.lst zs)/\xs.length+zs.length<=sizeLine/\∀p,H p=none->Q (.ref p) (upd H p (.lst (xs++zs)))
theorem CO:Kj X (binaryOp .Add) DP:=by
 intro pins s σ H x y v u Q I rx ry h;obtain⟨l,b,xs,zs,rfl,rfl,hH,hB,hz,q⟩:=h;cases rx;cases ry;obtain⟨z,u_,n,r,hl,e⟩:=I.K0 hH;obtain⟨z2,K2,n2,r2,Mz,e2⟩:=I.K0 hB;refine PySem.P.add_list e e2 ?_ (by rw[List.size_toArray,List.size_toArray];omega);have ea:u_.toArray++K2.toArray=(u_++K2).toArray:=by simp
 rw[ea];exact⟨.ref _,_,I.P8 (t':=s.toks) (r.append r2) (by rw[List.length_append];omega),rfl,q _ I.fresh⟩
def Ed:R2:=fun x y H Q=>∃l k xs,x=.ref l/\y=.int k/\H l=some (.lst xs)/\-(2 ^ 63)<=k/\k<2 ^ 63/\xs.length * k.toNat<=sizeLine/\
 ∀p,H p=none->Q (.ref p) (upd H p (.lst (List.replicate k.toNat xs).flatten))
theorem AH{α:Type}(xs:List α)(k:Nat):(List.replicate k xs).flatten.length=k * xs.length:=by
 induction k with
 |zero=>simp
 |succ k ih=>rw[List.replicate_succ,List.flatten_cons,List.length_append,ih,Nat.succ_mul,Nat.add_comm]
theorem CF:Kj X (binaryOp .Mult) Ed:=by
 intro pins s σ H x y v u Q I rx ry h;obtain⟨l,k,xs,rfl,rfl,hH,h1,h2,hz,q⟩:=h;cases rx;obtain⟨t,rfl⟩:=ry;obtain⟨z,u_,n,r,hl,e⟩:=I.K0 hH;have hlen:u_.toArray.size * k.toNat<=sizeLine:=by rw[List.size_toArray,<-hl];exact hz
 have RM:¬u_.toArray.size * k.toNat > (2 ^ 63-1) / 8:=by
  have:(sizeLine:Nat)<=(2 ^ 63-1) / 8:=by decide
  omega
 have MA:¬(!Builtin.List.listFitsIndex k)=true:=by
  rw[fitsIndex_both h1 h2];exact Bool.false_ne_true
 have MB:¬Builtin.List.listTooLong (u_.toArray.size * k.toNat)=true:=by
  rw[uY hlen];exact Bool.false_ne_true
 have GJ:List.foldl (fun x1 x2=>x1++x2) #[] (List.replicate (if u_.toArray.isEmpty=true then 0 else k.toNat) u_.toArray)=(List.replicate k.toNat u_).flatten.toArray:=by
  have f0:∀m:Nat,List.foldl (fun x1 x2=>x1++x2) #[] (List.replicate m u_.toArray)=(List.replicate m u_).flatten.toArray:=fun m=>by
   have:=sX u_ m [];rw[List.nil_append] at this;exact this
  rw[f0];cases u_ with
  |nil=>simp
  |cons a r'=>rw[if_neg (by simp)]
 refine wpAny_binaryOp_repeat_ref (T:="list") (U:="int") (by decide) ⟨_,e,rfl⟩ (fun s'=>typeIs_int s' k t) noFill_list_mul F.fills_int_mul F.slot_int_rmul repeat_list F.slot_int_index.lookup
  (call_meets F.slot_int_rmul (typeIs_int s k t) F.entry_int_rmul (F.args_int_rmul_2 _ _) (int___rmul___int_list k t l u_.toArray n)
   ⟨e,rfl,⟨_,e,rfl⟩,call_meets F.slot_list_mul ⟨_,e,rfl⟩ F.entry_list_mul (F.args_list_mul_2 _ _) (AutoListH.list___mul___list_int_3 l u_.toArray n k t MA RM MB) ⟨e,?_⟩⟩)
 rw[GJ];exact⟨.ref _,_,I.P8 (t':=s.toks) (r.rep k.toNat) (by rw[AH,Nat.mul_comm];exact hz),rfl,q _ I.fresh⟩
end
section
variable{prog:Program}{w:World}{A:Around}{E:Value->Shared->Prop}{s:Shared}
end
section
variable{X:Cx}
end
end L2
namespace Vz
open PySem PySem.W PySem.Calls PyProof.Rows
theorem pJ{P:Params}{h:Heap}:∀(ns:List Int) (vs:List Value),WellAll P h vs (ns.map WData.int)->IntsAre vs ns:=by
 intro ns
 induction ns with
 |nil=>
  intro vs w;rw[List.map_nil] at w;cases w;exact .nil
 |cons n ns ih=>
  intro vs w;rw[List.map_cons] at w;cases w with
  |cons a b=>
   cases a;exact .cons _ _ (ih _ b)
theorem yw{l:OpenLaw}{n:Nat}(hn:l.most=some n){P:Params}{h:Heap}{args:List WData}{vals:List Value}
  (Nw:l.row.toRowW.claim.pre args=true) (QR:WellAll P h vals args) :
  ∃a vs ns,vals=[Value.ref a]/\args=[WData.list (ns.map WData.int)]/\h.get? a=some { cls:=.type "list",data:=.seq vs.toArray }/\IntsAre vs ns/\ns.length<=n:=by
 have Xi:WShape.hasAll [] args [.list .int]=true:=(pre_splitW Nw).1;have hc:l.pre.holds [] { args:=args }=true:=(pre_splitW Nw).2;obtain⟨d,r,rfl,h1,h2⟩:=hasAllW_cons Xi;obtain rfl:=hasAllW_nil h2;obtain⟨xs,rfl,h3⟩:=hasW_list h1;obtain⟨ns,rfl⟩:=items_int h3;have hlen:ns.length<=n:=by
  unfold OpenLaw.pre at hc;have h4:(WTm.not (.lt (.lit (.int (n:Int))) (.len (.arg 0)))).holds [] { args:=[.list (ns.map .int)] }=true:=by
   have h4:=(holds_andW hc).1;rw[hn] at h4;exact h4
  have h5:=condW_of h4 (w_not (w_lt w_lit (w_len_list (w_arg rfl))));rw[List.length_map] at h5;refine Nat.le_of_not_lt fun q=>?_
  have q':(n:Int)<((ns.length:Nat):Int):=by omega
  first
   |(rw[decide_eq_true q'] at h5;exact absurd h5 (by decide))
   |(simp at h5;omega)
 cases QR with
 |cons w1 w2=>
  cases w2;cases w1 with
  |list ho OO=>exact⟨_,_,ns,rfl,rfl,ho,pJ ns _ OO,hlen⟩
theorem xX(l:OpenLaw)(args:List WData):l.row.toRowW.claim.post args (.bool true) args=true:=
 postW_of (r:=l.row.toRowW) (X:=(true == true))
  (show WShape.has [] (.bool true) .bool=true by first|rfl|decide|simp[WShape.has,WShape.arms,WShape.armsAll])
  (show(WTm.eq .res (.lit (.bool true))).value [] { args:=args,res:=some (.bool true),after:=args }=some (.bool (true == true)) from w_eq_bool (w_res rfl) w_lit) rfl
theorem K3{l:OpenLaw}{n:Nat}{q:Program}{loose:List Str}{XP:(Str->Option Value)->Heap->Prop}{YP:World->Heap->Prop}{d:DefRec}
  (hn:l.most=some n) (P9:d.params.defaults=[])
  (call:∀(w:World) (Gk E1:Shared) (mg mb:Str->Option Value) (fa:Addr) (o:Obj) (pm cd doc:Value) (a:Addr) (vs:List Value) (ns:List Int),
   Ground q loose [] XP w Gk mg mb E1.heap->YP w E1.heap->
   E1.heap.get? fa=some o->o.data=.func (docDef d.name d.params d.body d.scope pm cd doc)->E1.heap.CodeRec cd d.name->mg d.name=some (.ref fa)->
   E1.heap.get? a=some { cls:=.type "list",data:=.seq vs.toArray }->IntsAre vs ns->ns.length<=n->E1.gens = #[]->
   codeAny (model l.prog w) callerA (.call (.ref fa) ⟨[.ref a],[]⟩) (fun r s'=>r=.ok (.ret (.bool true))/\OldK E1.heap s'.heap/\s'.os=E1.os/\AllBare s'.gens) E1) :
  WalkO q loose XP YP l.row.toRowW d [] (fun f vs=>PySem.call f vs):=by
 intro w Gk E1 mg mb G Y fa o pm cd doc dV kV ho hd Lk hD hmg hg args vals as Nw Xj MC QR VA;obtain rfl:dV=.none:=Dflts.none hD P9;obtain rfl:kV=.none:=Dflts.noKw hD;obtain⟨a,vs,ns,rfl,rfl,OP,hints,hlen⟩:=yw hn Nw QR;refine enter_call (codeAny_mono (call w Gk E1 mg mb fa o pm cd doc a vs ns G Y ho (fd_plain hd) Lk hmg OP hints hlen hg) fun r s' hq=>?_);obtain⟨rfl,h2,h3,h4⟩:=hq;exact⟨.inl ⟨.bool true,.bool true,[],rfl,fun _=>rfl,.bool true,xX l _,fun _=>⟨List.Pairwise.nil,fun _ hm=>(nomatch hm)⟩⟩,h2,h3,h4⟩
section
variable{prog:Program}{w:World}{A:Around}{E:Value->Shared->Prop}{s:Shared}{K:Frag}
end
end Vz
namespace L2
open PySem PySem.Spec PyProof.Rows
theorem mf:∀{vs:List Value}{ns:List Int},IntsAre vs ns->Vals (ns.map V.int) vs
 |_,_,.nil=>.nil
 |_,_,.cons n t h=>.cons ⟨t,rfl⟩ (mf h)
def By(H:Hp):Prop:=∀b,H b=none\/∃o xs,H b=some (.Lr o (.lst xs))
theorem zn{P:Program}{w:World}{K:PySem.W.Frag}{mg mb:Str->Option Value}{CX:Iz}{k:Nat}{fa a:Addr}{fd:FuncData}{x:Str}{sp:Sp}{E1:Shared}{vs:List Value}{ns:List Int}
  (KX:K.In E1.heap) (IZ:E1.heap.Ns mainGlobals mg) (hb:E1.heap.Ns builtinsNs mb) (Xk:∀x:Str,x≠"__name__"->mb x=bootBuiltins x) (RN:E1.heap.NoLimit) (hg:E1.gens = #[])
  (ha:E1.heap.get? a=some { cls:=.type "list",data:=.seq vs.toArray }) (hi:IntsAre vs ns) (hl:ns.length<=sizeLine) (hr:FL k callerA)
  (F:∀base:Heap,K.In base->base.Ns mainGlobals mg->H_ P w K mg base CX k fa fd [x] sp) (P_:∀(s:Shared) (u:Value),BindsTo s fd ⟨[u],[]⟩ [(x,u)])
  (Mo:∀H:Hp,By H->GD K H a (ns.map V.int)->sp [.ref a] H (fun v _=>v=.bl true) fun _ _ _=>False)
  (RO:∀H e s',CX [] H E1 (fun _ _ _=>False) e s'->False) :
  codeAny (model P w) callerA (.call (.ref fa) ⟨[.ref a],[]⟩) (fun r s'=>r=.ok (.ret (.bool true))/\OldK E1.heap s'.heap/\s'.os=E1.os/\AllBare s'.gens) E1:=by
 have rv:=mf hi;have RP:=hi.length;have core:∀H:Hp,By H->GD K H a (ns.map V.int)->Gq P w H E1.heap->(∀b,H b≠none->b=a)->(H a≠none->K.lookup a=none)->
   codeAny (model P w) callerA (.call (.ref fa) ⟨[.ref a],[]⟩) (fun r s'=>r=.ok (.ret (.bool true))/\OldK E1.heap s'.heap/\s'.os=E1.os/\AllBare s'.gens) E1:=by
  intro H hO hS EI hA hK;have LU:∀{b:Addr}{o:Obj},E1.heap.get? b=some o->H b=none->(tS E1.heap H).get? b=some o:=fun e n=>Af e n
  have P4:∀{b:Addr}{o:Obj}{es:Array DictEntry}{ep:Nat},E1.heap.get? b=some o->o.data=.dict es ep->H b=none:=fun {b o es ep} e d=>by
   cases q:H b with
   |none=>rfl
   |some u=>
    have e':b=a:=hA b (by rw[q];simp);subst e';rw[ha] at e;cases e;have d':Data.seq vs.toArray _=Data.dict es ep:=d;cases d'
  have QS:∀{b:Addr}{m:Str->Option Value},E1.heap.Ns b m->(tS E1.heap H).Ns b m:=fun {b m} ⟨o,es,ep,e,d,r⟩=>⟨o,es,ep,LU e (P4 e d),d,r⟩
  have VB:K.In (tS E1.heap H):=fun b o e=>LU (KX b o e) (by
   cases q:H b with
   |none=>rfl
   |some u=>
    have e':b=a:=hA b (by rw[q];simp);subst e';rw[hK (by rw[q];simp)] at e;cases e)
  have hM:Mod K mg (tS E1.heap H):=⟨VB,QS IZ,⟨mb,QS hb,Xk⟩,let ⟨mc,h1,h2⟩:=RN;⟨mc,QS h1,h2⟩⟩;have e0:JB P w K mg (tS E1.heap H) callerA [] E1 H:=⟨rfl,hM,fun b o e=>Bz e,Nat.le_of_eq (yD _ _),trivial,fun b hb=>absurd (show b∈([]:List Addr) from hb) (by simp),EI,.of_eq hg⟩;refine codeAny_mono ((F _ VB (QS IZ)).run callerA [] E1 H ⟨[.ref a],[]⟩ [.ref a] [.ref a] _ _ hr e0 (P_ E1 (.ref a)) (.cons rfl .nil) (Mo H hO hS)) fun r s' h=>?_
  cases r with
  |error e=>exact(RO H e s' h).elim
  |ok fl=>
   cases fl with
   |next=>exact False.elim h
   |brk=>exact False.elim h
   |cont=>exact False.elim h
   |ret u=>
    obtain⟨v,H',os,bare,un,RQ,r',q⟩:=h;have q':v=.bl true:=q;subst q';obtain rfl:u=Value.bool true:=r';refine⟨rfl,OldK.of_keep fun b o e=>?_,os,bare⟩;cases q:H b with
    |none=>exact un.keep b o e q (by intro z;exact absurd (show b∈([]:List Addr) from z) (by simp)) (by simp)
    |some u=>
     rcases hO b with z|⟨ob,xs,z⟩
     ·rw[q] at z;cases z
     ·have z2:=un.HA b ob _ z;obtain⟨e1,_⟩:=EI b _ z;obtain⟨e2,_⟩:=RQ b _ z2;rw[e] at e1;cases e1;exact e2
 cases hk:K.lookup a with
 |some o=>
  have e:=KX a o hk;rw[ha] at e;cases e;refine core (fun _=>none) (fun _=>.inl rfl) (.inr ⟨_,vs.toArray,_,hk,rfl,rfl,rfl,by rw[List.size_toArray,RP];exact hl,by simpa using rv⟩) (fun b u z=>by have z':(none:Option HO)=some u:=z;cases z') (fun b z=>absurd rfl z) fun z=>absurd rfl z
 |none=>
  refine core (fun b=>if b=a then some (.Lr { cls:=.type "list",data:=.seq vs.toArray } (.lst (ns.map V.int))) else none) (fun b=>?_) (.inl (.inr ⟨{ cls:=.type "list",data:=.seq vs.toArray },if_pos rfl⟩)) (fun b u z=>?_) (fun b z=>?_) fun _=>hk
  ·by_cases hb:b=a
   ·exact .inr ⟨_,_,if_pos hb⟩
   ·exact .inl (if_neg hb)
  ·by_cases hb:b=a
   ·have z':=(if_pos hb).symm.trans z;cases z';subst hb;exact⟨ha,by rw[List.length_map];exact hl,vs,_,rv,ha⟩
   ·have z':=(if_neg hb).symm.trans z;cases z'
  ·by_cases hb:b=a
   ·exact hb
   ·exact absurd (if_neg hb) z
end L2
namespace L2
open PySem PySem.Spec PyProof.Rows
theorem Nx{l:PySem.W.OpenLaw}{n k:Nat}{q:Program}{loose:List Str}{XP:(Str->Option Value)->Heap->Prop}{YP:World->Heap->Prop}{d:DefRec}{K:Params->PySem.W.Frag}{CX:World->Iz}{sp:World->Sp}{x:Str}
  (hn:l.most=some n) (Pq:n<=sizeLine) (P9:d.params.defaults=[]) (hr:FL k callerA)
  (hY:∀(w:World) (h:Heap),YP w h->(K w.params).In h)
  (F:∀(w:World) (mg:Str->Option Value) (fa:Addr) (h:Heap),(K w.params).In h->h.Ns mainGlobals mg->mg d.name=some (.ref fa)->
   ∃fd:FuncData,(∀(s:Shared) (u:Value),BindsTo s fd ⟨[u],[]⟩ [(x,u)])/\
    ∀base:Heap,(K w.params).In base->base.Ns mainGlobals mg->H_ l.prog w (K w.params) mg base (CX w) k fa fd [x] (sp w))
  (Mo:∀(w:World) (H:Hp) (a:Addr) (ns:List Int),ns.length<=n->By H->GD (K w.params) H a (ns.map V.int)->sp w [.ref a] H (fun v _=>v=.bl true) fun _ _ _=>False)
  (RO:∀(w:World) (H:Hp) (s:Shared) (e:Value) (s':Shared),CX w [] H s (fun _ _ _=>False) e s'->False) :
  PySem.W.WalkO q loose XP YP l.row.toRowW d [] (fun f vs=>PySem.call f vs):=by
 refine Vz.K3 hn P9 fun w Gk E1 mg mb fa o pm cd doc a vs ns G Y ho hd Lk hmg OP hints hlen hg=>?_
 have KX:=hY w _ Y;obtain⟨fd,hb,hF⟩:=F w mg fa _ KX G.T.g hmg;exact zn KX G.T.g G.T.b G.T.builtins G.T.nolimit hg OP hints (Nat.le_trans hlen Pq) hr hF hb (fun H hO hS=>Mo w H a ns hlen hO hS) fun H e s'=>RO w H E1 e s'
end L2
namespace L2
open PySem PySem.Spec PyProof.Rows
def br(s:Stmt)(j:Nat):Stmt:=match s with
 |.ClassDef _ _ _ body _ _ _ _ _ _ _=>body.getD j (.Pass ⟨0,0,0,0⟩)
 |_=>.Pass ⟨0,0,0,0⟩
def FI(s:Stmt):Arguments:=match s with
 |.FunctionDef _ a _ _ _ _ _ _ _ _=>a
 |_=>{ posonlyargs:=[],args:=[],vararg:=none,kwonlyargs:=[],kw_defaults:=[],kwarg:=none,defaults:=[] }
def Fm(s:Stmt):List Stmt:=match s with
 |.FunctionDef _ _ b _ _ _ _ _ _ _=>b
 |_=>[]
def h_(s:Stmt):Scope:=match s with
 |.FunctionDef _ _ _ _ _ _ sc _ _ _=>sc
 |_=>{ kind:=.function,names:=[],isGenerator:=false,isCoroutine:=false }
abbrev VC:Iz:=fun _ _ _ _ _ _=>False
abbrev E0:XK:=fun _ _ _=>False
structure Fj(K:PySem.W.Frag)(x qual:Str)(st:Stmt)(f:Addr)(fd:FuncData):Prop where
 ex:∃(oc:Value) (od:Option Addr) (kV doc pm:Value) (an:Option Addr) (EC ct:Value) (Mn:Array (Option Value)),
  fd=PySem.W.fnOf x qual (FI st) (Fm st) (h_ st) .none kV doc pm an EC ct/\K.lookup f=some ⟨oc,od,.func fd,Mn⟩/\PySem.W.codeIn K EC qual=true
 kp:PySem.W.keepIn K (.ref f)=true
section
variable{P:Program}{w:World}{K:PySem.W.Frag}{mg:Str->Option Value}{base:Heap}
theorem Fj.ok{x qual:Str}{st:Stmt}{f:Addr}{fd:FuncData}{N ps:List Str}{k:Nat}{sp:Sp}(F:Fj K x qual st f fd)(S:m_ N ps (h_ st))(len:∀vs H Q E,sp vs H Q E->vs.length=ps.length)
  (KZ:∀(EC:Value) (A:Around) (outer:List Env) (s:Shared) (H:Hp) (vs:List V) (Q:VK) (E:XK),FL k (A.deeper (envOfC qual (h_ st) s.heap.objs.size f EC))->sp vs H Q E->
   ∃t,PY (pr VC P w K mg base N qual (h_ st) f EC A outer s H E).Og (Fm st) t/\t { nx:=fun _ H'=>Q .B_ H',rt:=Q } (start N vs) H):H_ P w K mg base VC (k+1) f fd ps sp:=by
 obtain⟨oc,od,kV,doc,pm,an,EC,ct,Mn,rfl,lk,Lk⟩:=F.ex;refine BN lk Lk S len fun A outer s H vs Q E hr Mo=>?_
 obtain⟨t,h,q⟩:=KZ EC A outer s H vs Q E hr Mo;exact⟨t,h.Og,q⟩
theorem Fj.binds{x qual:Str}{st:Stmt}{f:Addr}{fd:FuncData}{ps:List Str}(F:Fj K x qual st f fd)
  (h:∀(kV doc pm:Value) (an:Option Addr) (EC ct:Value) (us:List Value),us.length=ps.length->bindArgs (PySem.W.fnOf x qual (FI st) (Fm st) (h_ st) .none kV doc pm an EC ct) ⟨us,[]⟩=pure (ps.zip us)):Binds K fd ps []:=by
 obtain⟨oc,od,kV,doc,pm,an,EC,ct,Mn,rfl,lk,Lk⟩:=F.ex;exact .all (h kV doc pm an EC ct)
theorem BO{x qual:Str}{st:Stmt}{f:Addr}{oc:Value}{od an:Option Addr}{Mn:Array (Option Value)}{kV doc pm EC ct:Value}(l:K.lookup f=some ⟨oc,od,.func (PySem.W.fnOf x qual (FI st) (Fm st) (h_ st) .none kV doc pm an EC ct),Mn⟩)
  (c:PySem.W.codeIn K EC qual=true) (k:PySem.W.keepIn K (.ref f)=true):Fj K x qual st f (PySem.W.fnOf x qual (FI st) (Fm st) (h_ st) .none kV doc pm an EC ct):=⟨⟨oc,od,kV,doc,pm,an,EC,ct,Mn,rfl,l,c⟩,k⟩
end
section
variable{X:Cx}
end
def JC(H H':Hp):Prop:=∀b o,H b=some o->H' b=some o
theorem JC.refl(H:Hp):JC H H:=fun _ _ h=>h
theorem JC.trans{H H1 H2:Hp}(a:JC H H1)(b:JC H1 H2):JC H H2:=fun c o h=>b c o (a c o h)
theorem JC.free{H H':Hp}(e:JC H H'){l:Addr}(h:H' l=Option.none):H l=Option.none:=by
 cases q:H l with
 |none=>rfl
 |some o=>
  rw[e l o q] at h;cases h
theorem JC.seq{K:PySem.W.Frag}{H H':Hp}{a:Addr}{xs:List V}(e:JC H H')(h:GD K H a xs):GD K H' a xs:=by
 rcases h with (h|⟨o,h⟩)|h
 ·exact .inl (.inl (e _ _ h))
 ·exact .inl (.inr ⟨o,e _ _ h⟩)
 ·exact .inr h
end L2
namespace DL
open PySem PySem.Spec PyProof.Rows L2
inductive D where
 |B_|bl (b:Bool)|int (i:Int)|str (x:Str)|tup (xs:List D)|FC (xs:List D)|ob (n:Nat)|xn (c:Addr)
inductive Cell where
 |lst (xs:List D)|FN (kvs:List (Key×D))|ins (C:Addr) (ns:List Str) (ds:List D)
inductive R(α:Type) where
 |ok (a:α) (S:List Cell)|exc (c:Addr) (S:List Cell)|bad
abbrev M(α:Type):=List Cell->R α
abbrev o_:=List (Option D)
def M.bind{α β:Type}(m:M α)(k:α->M β):M β:=fun S=>match m S with
 |.ok a S'=>k a S'
 |.exc c S'=>.exc c S'
 |.bad=>.bad
def M.ret{α:Type}(a:α):M α:=fun S=>.ok a S
def M.bad{α:Type}:M α:=fun _=>.bad
def G5{α:Type}(P:Prop)(a b:α):α:=@ite α P (Classical.propDecidable P) a b
theorem cg{α:Type}{P:Prop}{a b:α}(h:P):G5 P a b=a:=by unfold G5;exact if_pos h
theorem uh{α:Type}{P:Prop}{a b:α}(h:¬P):G5 P a b=b:=by unfold G5;exact if_neg h
def Nh(K:PySem.W.Frag)(H:Hp)(a:Addr)(xs:List V):Prop:=
 (∃o,H a=some (.Lr o (.lst xs)))\/
  ∃(o:Obj) (u_:Array Value) (n:Nat),K.lookup a=some o/\o.cls=.type "list"/\o.dict=none/\o.data=.seq u_ n/\u_.size<=sizeLine/\Vals xs u_.toList
theorem Nh.sq{K:PySem.W.Frag}{H:Hp}{a:Addr}{xs:List V}(h:Nh K H a xs):GD K H a xs:=by
 rcases h with ⟨o,h⟩|h
 ·exact .inl (.inr ⟨o,h⟩)
 ·exact .inr h
def XO(a c:Addr):HO:=.ext fun h=>∃o,h.get? a=some o/\o.cls=.ref c
mutual
def r_(K:PySem.W.Frag)(H:Hp)(J:List Addr):D->V->Prop
 |.B_,v=>v=.B_
 |.bl b,v=>v=.bl b
 |.int i,v=>v=.int i
 |.str x,v=>v=.str x
 |.tup xs,v=>∃a vs,v=.ref a/\Hh K H a vs/\j_ K H J xs vs
 |.FC xs,v=>∃a vs,v=.ref a/\Nh K H a vs/\j_ K H J xs vs
 |.ob n,v=>∃a,v=.ref a/\J[n]?=some a
 |.xn c,v=>∃a,v=.ref a/\H a=some (XO a c)
def j_(K:PySem.W.Frag)(H:Hp)(J:List Addr):List D->List V->Prop
 |[],vs=>vs=[]
 |x :: xs,vs=>∃v r,vs=v :: r/\r_ K H J x v/\j_ K H J xs r
end
def QT:HO->Bool
 |.tup _=>true
 |.Lr _ _=>true
 |.ext _=>true
 |_=>false
structure Ext(H:Hp)(J:List Addr)(H':Hp)(J':List Addr):Prop where
 st:∀b o,H b=some o->QT o=true->H' b=some o
 pre:∃more,J'=J++more
theorem Ext.refl(H:Hp)(J:List Addr):Ext H J H J:=⟨fun _ _ e _=>e,[],by simp⟩
theorem Ext.trans{H H1 H2:Hp}{J J1 J2:List Addr}(a:Ext H J H1 J1)(b:Ext H1 J1 H2 J2):Ext H J H2 J2:=by
 obtain⟨m1,e1⟩:=a.pre;obtain⟨m2,e2⟩:=b.pre;exact⟨fun c o e st=>b.st c o (a.st c o e st) st,m1++m2,by rw[e2,e1,List.append_assoc]⟩
theorem Ext.new{H:Hp}{J:List Addr}{p:Addr}{o:HO}(h:H p=none):Ext H J (upd H p o) J:=
 ⟨fun b u e _=>by rw[bu (bj e h)];exact e,[],by simp⟩
theorem Ext.snoc{H H':Hp}{J J':List Addr}(a:Ext H J H' J')(m:List Addr):Ext H J H' (J'++m):=by
 obtain⟨m1,e1⟩:=a.pre;exact⟨a.st,m1++m,by rw[e1,List.append_assoc]⟩
theorem Ext.write{H:Hp}{J:List Addr}{p:Addr}{o u:HO}(h:H p=some u)(hs:QT u=false):Ext H J (upd H p o) J:=
 ⟨fun b w e st=>by
  have:b≠p:=by
   rintro rfl;rw[h] at e;cases e;rw[hs] at st;cases st
  rw[bu this];exact e,[],by simp⟩
section
variable{K:PySem.W.Frag}{H H':Hp}{J J':List Addr}
theorem Hh.ext{a:Addr}{vs:List V}(e:Ext H J H' J')(h:Hh K H a vs):Hh K H' a vs:=by
 rcases h with (h|⟨o,h⟩)|h
 ·exact .inl (.inl (e.st _ _ h rfl))
 ·exact .inl (.inr ⟨o,e.st _ _ h rfl⟩)
 ·exact .inr h
theorem Nh.ext{a:Addr}{vs:List V}(e:Ext H J H' J')(h:Nh K H a vs):Nh K H' a vs:=by
 rcases h with ⟨o,h⟩|h
 ·exact .inl ⟨o,e.st _ _ h rfl⟩
 ·exact .inr h
mutual
theorem r_.ext(e:Ext H J H' J'):∀{d:D}{v:V},r_ K H J d v->r_ K H' J' d v
 |.B_,_,h=>by unfold r_ at h ⊢;exact h
 |.bl _,_,h=>by unfold r_ at h ⊢;exact h
 |.int _,_,h=>by unfold r_ at h ⊢;exact h
 |.str _,_,h=>by unfold r_ at h ⊢;exact h
 |.tup xs,v,h=>by
  unfold r_ at h ⊢;obtain⟨a,vs,h1,h2,h3⟩:=h;exact⟨a,vs,h1,Hh.ext e h2,j_.ext e h3⟩
 |.FC xs,v,h=>by
  unfold r_ at h ⊢;obtain⟨a,vs,h1,h2,h3⟩:=h;exact⟨a,vs,h1,Nh.ext e h2,j_.ext e h3⟩
 |.ob n,v,h=>by
  unfold r_ at h ⊢;obtain⟨a,h1,h2⟩:=h;obtain⟨m,em⟩:=e.pre;refine⟨a,h1,?_⟩;rw[em,List.getElem?_append_left (List.getElem?_eq_some_iff.mp h2).1];exact h2
 |.xn c,v,h=>by
  unfold r_ at h ⊢;obtain⟨a,h1,h2⟩:=h;exact⟨a,h1,e.st _ _ h2 rfl⟩
theorem j_.ext(e:Ext H J H' J'):∀{xs:List D}{vs:List V},j_ K H J xs vs->j_ K H' J' xs vs
 |[],_,h=>by unfold j_ at h ⊢;exact h
 |x :: xs,vs,h=>by
  unfold j_ at h ⊢;obtain⟨v,r,h1,h2,h3⟩:=h;exact⟨v,r,h1,r_.ext e h2,j_.ext e h3⟩
end
theorem j_.length:∀{xs:List D}{vs:List V},j_ K H J xs vs->vs.length=xs.length
 |[],_,h=>by unfold j_ at h;rw[h];rfl
 |x :: xs,vs,h=>by
  unfold j_ at h;obtain⟨v,r,h1,_,h3⟩:=h;rw[h1,List.length_cons,List.length_cons,j_.length h3]
theorem j_.get:∀{xs:List D}{vs:List V}{i:Nat}{x:D},j_ K H J xs vs->xs[i]?=some x->∃v,vs[i]?=some v/\r_ K H J x v
 |[],_,_,_,_,e=>by simp at e
 |y :: xs,vs,0,x,h,e=>by
  unfold j_ at h;obtain⟨v,r,h1,h2,_⟩:=h;simp at e;subst e h1;exact⟨v,rfl,h2⟩
 |y :: xs,vs,i+1,x,h,e=>by
  unfold j_ at h;obtain⟨v,r,h1,_,h3⟩:=h;subst h1;exact j_.get (i:=i) h3 (by simpa using e)
theorem j_.append:∀{xs ys:List D}{vs ws:List V},j_ K H J xs vs->j_ K H J ys ws->j_ K H J (xs++ys) (vs++ws)
 |[],_,_,_,h,g=>by unfold j_ at h;rw[h];exact g
 |x :: xs,ys,vs,ws,h,g=>by
  unfold j_ at h;obtain⟨v,r,h1,h2,h3⟩:=h;subst h1;rw[List.cons_append,List.cons_append];unfold j_;exact⟨v,_,rfl,h2,j_.append h3 g⟩
theorem j_.nil:j_ K H J [] []:=by unfold j_;rfl
theorem j_.cons{x:D}{xs:List D}{v:V}{vs:List V}(h:r_ K H J x v)(t:j_ K H J xs vs):j_ K H J (x :: xs) (v :: vs):=by
 unfold j_;exact⟨v,vs,rfl,h,t⟩
theorem j_.one{x:D}{v:V}(h:r_ K H J x v):j_ K H J [x] [v]:=.cons h .nil
theorem j_.take:∀{xs:List D}{vs:List V}(n:Nat),j_ K H J xs vs->j_ K H J (xs.take n) (vs.take n)
 |_,_,0,_=>by simp;exact .nil
 |[],_,n+1,h=>by unfold j_ at h;subst h;simp;exact .nil
 |x :: xs,vs,n+1,h=>by
  unfold j_ at h;obtain⟨v,r,h1,h2,h3⟩:=h;subst h1;exact .cons h2 (j_.take n h3)
theorem j_.drop:∀{xs:List D}{vs:List V}(n:Nat),j_ K H J xs vs->j_ K H J (xs.drop n) (vs.drop n)
 |_,_,0,h=>by simpa using h
 |[],_,n+1,h=>by unfold j_ at h;subst h;simp;exact .nil
 |x :: xs,vs,n+1,h=>by
  unfold j_ at h;obtain⟨v,r,h1,h2,h3⟩:=h;subst h1;exact j_.drop n h3
theorem j_.set{d:D}{w:V}(hd:r_ K H J d w):∀{xs:List D}{vs:List V}(n:Nat),j_ K H J xs vs->j_ K H J (xs.set n d) (vs.set n w)
 |[],_,n,h=>by unfold j_ at h;subst h;simp;exact .nil
 |x :: xs,vs,0,h=>by
  unfold j_ at h;obtain⟨v,r,h1,h2,h3⟩:=h;subst h1;exact .cons hd h3
 |x :: xs,vs,n+1,h=>by
  unfold j_ at h;obtain⟨v,r,h1,h2,h3⟩:=h;subst h1;exact .cons h2 (j_.set hd n h3)
theorem j_.Ic{xs:List D}{vs:List V}(h:j_ K H J xs vs):vs=[]↔xs=[]:=by
 have:=h.length;constructor
 ·intro e;subst e;exact List.length_eq_zero_iff.mp (by simpa using this.symm)
 ·intro e;subst e;exact List.length_eq_zero_iff.mp (by simpa using this)
theorem j_.ints(ns:List Int):j_ K H J (ns.map D.int) (ns.map V.int):=by
 induction ns with
 |nil=>exact .nil
 |cons n r ih=>exact .cons (by unfold r_;rfl) ih
end
def Eu{κ:Type}(K:PySem.W.Frag)(H:Hp)(J:List Addr):List (κ×D)->List (κ×V)->Prop
 |[],ws=>ws=[]
 |(k,d) :: r,ws=>∃v t,ws=(k,v) :: t/\r_ K H J d v/\Eu K H J r t
section
variable{κ:Type}{K:PySem.W.Frag}{H H':Hp}{J J':List Addr}
theorem Eu.ext(e:Ext H J H' J'):∀{xs:List (κ×D)}{ws:List (κ×V)},Eu K H J xs ws->Eu K H' J' xs ws
 |[],_,h=>h
 |(k,d) :: r,ws,h=>by
  obtain⟨v,t,h1,h2,h3⟩:=h;exact⟨v,t,h1,h2.ext e,Eu.ext e h3⟩
theorem Eu.length:∀{xs:List (κ×D)}{ws:List (κ×V)},Eu K H J xs ws->ws.length=xs.length
 |[],_,h=>by
  have h':_=[]:=h;rw[h'];rfl
 |(k,d) :: r,ws,h=>by
  obtain⟨v,t,h1,h2,h3⟩:=h;rw[h1,List.length_cons,List.length_cons,Eu.length h3]
end
def HK(K:PySem.W.Frag)(H:Hp)(J:List Addr):Cell->Addr->Prop
 |.lst xs,a=>∃vs,H a=some (.lst vs)/\j_ K H J xs vs
 |.FN kvs,a=>∃ws,H a=some (.dK ws)/\Eu K H J kvs ws
 |.ins C ns ds,a=>∃dx ws,H a=some (.ins C dx ws)/\ws.map (·.1)=ns/\j_ K H J ds (ws.map (·.2))
structure EB(K:PySem.W.Frag)(H:Hp)(J:List Addr)(S:List Cell):Prop where
 len:J.length=S.length
 nd:J.Nodup
 at_:∀(n:Nat) c a,S[n]?=some c->J[n]?=some a->HK K H J c a
section
variable{K:PySem.W.Frag}{H H':Hp}{J J':List Addr}{S:List Cell}{a p:Addr}{c c':Cell}{n:Nat}{o o':HO}
theorem HK.LV(h:HK K H J c a):∃o,H a=some o/\QT o=false:=by
 cases c with
 |lst xs=>obtain⟨vs,h,_⟩:=h;exact⟨_,h,rfl⟩
 |FN xs=>obtain⟨vs,h,_⟩:=h;exact⟨_,h,rfl⟩
 |ins C ns ds=>obtain⟨dx,vs,h,_⟩:=h;exact⟨_,h,rfl⟩
theorem HK.keep(h:HK K H J c a)(e:Ext H J H' J')(he:H' a=H a):HK K H' J' c a:=by
 cases c with
 |lst xs=>obtain⟨vs,h,r⟩:=h;exact⟨vs,he.trans h,r.ext e⟩
 |FN xs=>obtain⟨vs,h,r⟩:=h;exact⟨vs,he.trans h,r.ext e⟩
 |ins C ns ds=>obtain⟨dx,vs,h,q,r⟩:=h;exact⟨dx,vs,he.trans h,q,r.ext e⟩
theorem EB.cell(h:EB K H J S)(hn:S[n]?=some c):∃a,J[n]?=some a/\HK K H J c a:=by
 have hi:=(List.getElem?_eq_some_iff.mp hn).1;have hl:=h.len;exact⟨J[n]'(by omega),by simp,h.at_ n c _ hn (by simp)⟩
theorem EB.Jd(h:EB K H J S)(hn:J[n]?=some a):∃c,S[n]?=some c/\HK K H J c a:=by
 have hi:=(List.getElem?_eq_some_iff.mp hn).1;have hl:=h.len;exact⟨S[n]'(by omega),by simp,h.at_ n _ _ (by simp) hn⟩
theorem EB.held(h:EB K H J S)(ha:a∈J):∃o,H a=some o/\QT o=false:=by
 obtain⟨n,hn⟩:=List.mem_iff_getElem?.mp ha;obtain⟨c,_,hc⟩:=h.Jd hn;exact hc.LV
theorem EB.new(h:EB K H J S)(hp:H p=none):EB K (upd H p o) J S where
 len:=h.len
 nd:=h.nd
 at_:=fun n c a hc ha=>by
  have r:=h.at_ n c a hc ha;obtain⟨u,hu,_⟩:=r.LV;exact r.keep (Ext.new hp) (bu (bj hu hp))
theorem EB.push(h:EB K H J S)(hp:H p=none)(hc:HK K (upd H p o) (J++[p]) c p):EB K (upd H p o) (J++[p]) (S++[c]) where
 len:=by simp[h.len]
 nd:=by
  rw[List.nodup_append];refine⟨h.nd,by simp,?_⟩;intro a ha b hb;simp at hb;subst hb;obtain⟨u,hu,_⟩:=h.held ha;exact bj hu hp
 at_:=fun n c1 a h1 ha=>by
  have hl:=h.len;by_cases hn:n<S.length
  ·rw[List.getElem?_append_left hn] at h1;rw[List.getElem?_append_left (by omega)] at ha;have r:=h.at_ n c1 a h1 ha;obtain⟨u,hu,_⟩:=r.LV;exact r.keep ((Ext.new hp).snoc _) (bu (bj hu hp))
  ·have QO:=(List.getElem?_eq_some_iff.mp h1).1;have e:n=S.length:=by rw[List.length_append] at QO;simp at QO;omega
   subst e;rw[List.getElem?_append_right (Nat.le_refl _)] at h1;rw[List.getElem?_append_right (by omega)] at ha;simp at h1;rw[<-hl] at ha;simp at ha;subst h1 ha;exact hc
theorem EB.write(h:EB K H J S)(hn:J[n]?=some a)(hc:HK K (upd H a o) J c' a):EB K (upd H a o) J (S.set n c') where
 len:=by rw[List.length_set];exact h.len
 nd:=h.nd
 at_:=fun m c1 b h1 hb=>by
  obtain⟨c0,_,r0⟩:=h.Jd hn;obtain⟨u0,Xl,VD⟩:=r0.LV;by_cases e:m=n
  ·subst e;rw[hn] at hb;cases hb;rw[List.getElem?_set] at h1;simp at h1;obtain⟨_,h1⟩:=h1;subst h1;exact hc
  ·rw[List.getElem?_set_ne (Ne.symm e)] at h1;have r:=h.at_ m c1 b h1 hb;have Xm:b≠a:=by
    rintro rfl;exact e ((List.getElem?_inj (List.getElem?_eq_some_iff.mp hb).1 h.nd).mp (hb.trans hn.symm))
   exact r.keep (Ext.write Xl VD) (bu Xm)
end
structure Hi(K:PySem.W.Frag)(H:Hp)(J:List Addr)(r:o_)(σ:L2.St):Prop where
 len:r.length=σ.length
 at_:∀(i:Nat) d,r[i]?=some (some d)->∃v,σ[i]?=some (some v)/\r_ K H J d v
section
variable{K:PySem.W.Frag}{H H':Hp}{J J':List Addr}{r:o_}{σ:L2.St}
theorem Hi.ext(h:Hi K H J r σ)(e:Ext H J H' J'):Hi K H' J' r σ:=⟨h.len,fun i d q=>let ⟨v,a,b⟩:=h.at_ i d q;⟨v,a,b.ext e⟩⟩
theorem Hi.set(h:Hi K H J r σ){i:Nat}{d:D}{v:V}(hd:r_ K H J d v):Hi K H J (r.set i (some d)) (σ.set i (some v)) where
 len:=by simp[h.len]
 at_:=fun j d' q=>by
  by_cases e:j=i
  ·subst e;rw[List.getElem?_set] at q;simp at q;obtain⟨hj,q⟩:=q;subst q;refine⟨v,?_,hd⟩;rw[List.getElem?_set];simp[<-h.len,hj]
  ·rw[List.getElem?_set_ne (Ne.symm e)] at q ⊢;exact h.at_ j d' q
end
theorem Hi.start{K:PySem.W.Frag}{H:Hp}{J:List Addr}{N:List Str}{xs:List D}{vs:List V}(h:j_ K H J xs vs) :
  Hi K H J (xs.map some++List.replicate (N.length-xs.length) none) (L2.start N vs) where
 len:=by unfold L2.start;simp[h.length]
 at_:=fun i d q=>by
  have hl:=h.length;unfold L2.start;by_cases hi:i<xs.length
  ·rw[List.getElem?_append_left (by simpa using hi)] at q;rw[List.getElem?_append_left (by simp;omega)];rw[List.getElem?_map] at q ⊢;cases e:xs[i]? with
   |none=>rw[e] at q;simp at q
   |some x=>
    rw[e] at q;simp at q;subst q;obtain⟨v,h1,h2⟩:=h.get e;exact⟨v,by rw[h1];rfl,h2⟩
  ·rw[List.getElem?_append_right (by simpa using hi)] at q;rw[List.getElem?_replicate] at q;split at q<;>simp at q
end DL
namespace DL
open PySem PySem.Spec PyProof.Rows L2
abbrev Ez:=List (Addr×Obj)
def TO(T:Addr):HO:=.ext fun h=>∃o,h.get? T=some o
def Dl(h:Heap)(a c:Addr):Prop:=∃oe vs a0,h.get? a=some oe/\oe.cls=.ref c/\oe.data=.fields vs/\vs[0]?=some a0/\vs[1]?=some .none
def Tr(h:Heap)(a c T:Addr):Prop:=∃oe vs oT ts a0,h.get? a=some oe/\oe.cls=.ref c/\oe.data=.fields vs/\vs[0]?=some a0/\vs[1]?=some (.ref T)/\T≠a/\h.get? T=some oT/\oT.data=.fields ts/\ts[3]?=some .none
def XF(X:Cx)(H:Hp)(e:Value)(c:Addr)(h:Heap):Prop:=∃a,e=.ref a/\H a=some (XO a c)/\(Dl h a c\/∃T,H T=some (TO T)/\Tr h a c T)
structure Ny(X:Cx)(pins:Ez)(σ:L2.St)(H:Hp)(s:Shared)(e:Value)(c:Addr):Prop where
 inv:Inv X pins σ H s
 Xn:XF X H e c s.heap
def Got(K:PySem.W.Frag)(H:Hp)(J:List Addr)(d:D)(S:List Cell):VK:=fun v H'=>∃J',Ext H J H' J'/\EB K H' J' S/\r_ K H' J' d v
def Nz(K:PySem.W.Frag)(H:Hp)(J:List Addr)(ds:List D)(S:List Cell)(vs:List V)(H':Hp):Prop:=∃J',Ext H J H' J'/\EB K H' J' S/\j_ K H' J' ds vs
def HL(K:PySem.W.Frag)(H:Hp)(J:List Addr)(S:List Cell)(H':Hp):Prop:=∃J',Ext H J H' J'/\EB K H' J' S
def XP(X:Cx)(pins:Ez)(σ:L2.St)(c:Addr)(G:Hp->Prop)(e:Value)(s':Shared):Prop:=∃H',Ny X pins σ H' s' e c/\G H'
def Mt(X:Cx)(pins:Ez)(σ:L2.St)(H:Hp)(J:List Addr)(r:R D)(Q:Value->Shared->Prop)(E:Value->Shared->Prop):Prop:=match r with
 |.ok d S'=>∀u s',EP X pins σ (Got X.K H J d S') u s'->Q u s'
 |.exc c S'=>∀e s',XP X pins σ c (HL X.K H J S') e s'->E e s'
 |.bad=>False
def Ln(X:Cx)(pins:Ez)(σ:L2.St)(H:Hp)(J:List Addr)(r:R Bool)(Q:Bool->Shared->Prop)(E:Value->Shared->Prop):Prop:=match r with
 |.ok b S'=>∀s',TP X pins σ (fun _=>HL X.K H J S') b s'->Q b s'
 |.exc c S'=>∀e s',XP X pins σ c (HL X.K H J S') e s'->E e s'
 |.bad=>False
def Qa(X:Cx)(pins:Ez)(σ:L2.St)(H:Hp)(J:List Addr)(r:R (List D))(Q:List Value->Shared->Prop)(E:Value->Shared->Prop):Prop:=match r with
 |.ok ds S'=>∀us s',AP X pins σ (Nz X.K H J ds S') us s'->Q us s'
 |.exc c S'=>∀e s',XP X pins σ c (HL X.K H J S') e s'->E e s'
 |.bad=>False
section
variable{X:Cx}{pins:Ez}{σ:L2.St}{H H1:Hp}{J J1:List Addr}
theorem Got.ext{K:PySem.W.Frag}{d:D}{S:List Cell}{v:V}{H':Hp}(e:Ext H J H1 J1)(h:Got K H1 J1 d S v H'):Got K H J d S v H':=let ⟨J',a,b,c⟩:=h;⟨J',e.trans a,b,c⟩
theorem Nz.ext{K:PySem.W.Frag}{d:List D}{S:List Cell}{v:List V}{H':Hp}(e:Ext H J H1 J1)(h:Nz K H1 J1 d S v H'):Nz K H J d S v H':=let ⟨J',a,b,c⟩:=h;⟨J',e.trans a,b,c⟩
theorem HL.ext{K:PySem.W.Frag}{S:List Cell}{H':Hp}(e:Ext H J H1 J1)(h:HL K H1 J1 S H'):HL K H J S H':=let ⟨J',a,b⟩:=h;⟨J',e.trans a,b⟩
theorem XP.ext{c:Addr}{S:List Cell}{u:Value}{s':Shared}(e:Ext H J H1 J1)(h:XP X pins σ c (HL X.K H1 J1 S) u s'):XP X pins σ c (HL X.K H J S) u s':=let ⟨H',a,b⟩:=h;⟨H',a,b.ext e⟩
theorem Mt.ext{r:R D}{Q E:Value->Shared->Prop}(e:Ext H J H1 J1)(h:Mt X pins σ H J r Q E):Mt X pins σ H1 J1 r Q E:=by
 cases r with
 |ok d S=>exact fun u s' ⟨v,H',I,rv,g⟩=>h u s' ⟨v,H',I,rv,g.ext e⟩
 |exc c S=>exact fun u s' x=>h u s' (x.ext e)
 |bad=>exact h
theorem Ln.ext{r:R Bool}{Q:Bool->Shared->Prop}{E:Value->Shared->Prop}(e:Ext H J H1 J1)(h:Ln X pins σ H J r Q E):Ln X pins σ H1 J1 r Q E:=by
 cases r with
 |ok d S=>exact fun s' ⟨H',I,g⟩=>h s' ⟨H',I,g.ext e⟩
 |exc c S=>exact fun u s' x=>h u s' (x.ext e)
 |bad=>exact h
theorem Qa.ext{r:R (List D)}{Q:List Value->Shared->Prop}{E:Value->Shared->Prop}(e:Ext H J H1 J1)(h:Qa X pins σ H J r Q E):Qa X pins σ H1 J1 r Q E:=by
 cases r with
 |ok d S=>exact fun u s' ⟨v,H',I,rv,g⟩=>h u s' ⟨v,H',I,rv,g.ext e⟩
 |exc c S=>exact fun u s' x=>h u s' (x.ext e)
 |bad=>exact h
end
structure At(X:Cx)(pins:Ez)(σ:L2.St)(H:Hp)(J:List Addr)(r:o_)(S:List Cell)(s:Shared):Prop where
 inv:Inv X pins σ H s
 loc:Hi X.K H J r σ
 st:EB X.K H J S
def E_(X:Cx)(e:Expr)(f:o_->M D):Prop:=∀(pins:Ez) (s:Shared) (σ:L2.St) (H:Hp) (J:List Addr) (r:o_) (S:List Cell) (Q E:Value->Shared->Prop),
 At X pins σ H J r S s->Mt X pins σ H J (f r S) Q E->wpAny (model X.prog X.w) X.A (eval e X.env) Q E s
def LW(X:Cx)(e:Expr)(f:o_->M Bool):Prop:=∀(pins:Ez) (s:Shared) (σ:L2.St) (H:Hp) (J:List Addr) (r:o_) (S:List Cell) (Q:Bool->Shared->Prop) (E:Value->Shared->Prop),
 At X pins σ H J r S s->Ln X pins σ H J (f r S) Q E->wpAny (model X.prog X.w) X.A (isTrue e X.env (eval e X.env)) Q E s
def Ir(X:Cx)(e:Expr)(f:o_->M Bool):Prop:=∀(whole:Sem Value) (pins:Ez) (s:Shared) (σ:L2.St) (H:Hp) (J:List Addr) (r:o_) (S:List Cell) (Q:Bool->Shared->Prop) (E:Value->Shared->Prop),
 At X pins σ H J r S s->Ln X pins σ H J (f r S) Q E->wpAny (model X.prog X.w) X.A (isTrue e X.env whole) Q E s
theorem Ir.pt{X:Cx}{e:Expr}{f:o_->M Bool}(h:Ir X e f):LW X e f:=h _
def KS(X:Cx)(es:List Expr)(f:o_->M (List D)):Prop:=∀(pos:Pos) (pins:Ez) (s:Shared) (σ:L2.St) (H:Hp) (J:List Addr) (r:o_) (S:List Cell) (Q:List Value->Shared->Prop) (E:Value->Shared->Prop),
 At X pins σ H J r S s->Qa X pins σ H J (f r S) Q E->wpAny (model X.prog X.w) X.A (spliced (backTo pos (starEach es X.env))) Q E s
def Iu(X:Cx)(f:Value->Value->Sem Value)(g:D->D->M D):Prop:=∀(pins:Ez) (s:Shared) (σ:L2.St) (H:Hp) (J:List Addr) (S:List Cell) (x y:D) (vx vy:V) (v u:Value) (Q E:Value->Shared->Prop),
 Inv X pins σ H s->EB X.K H J S->r_ X.K H J x vx->r_ X.K H J y vy->RelV vx v->RelV vy u->Mt X pins σ H J (g x y S) Q E->wpAny (model X.prog X.w) X.A (f v u) Q E s
def Qb(X:Cx)(f:Value->Sem Value)(g:D->M D):Prop:=∀(pins:Ez) (s:Shared) (σ:L2.St) (H:Hp) (J:List Addr) (S:List Cell) (x:D) (vx:V) (v:Value) (Q E:Value->Shared->Prop),
 Inv X pins σ H s->EB X.K H J S->r_ X.K H J x vx->RelV vx v->Mt X pins σ H J (g x S) Q E->wpAny (model X.prog X.w) X.A (f v) Q E s
def Gh(X:Cx)(f:Value)(g:List D->M D):Prop:=∀(pins:Ez) (s:Shared) (σ:L2.St) (H:Hp) (J:List Addr) (S:List Cell) (xs:List D) (vs:List V) (us:List Value) (Q E:Value->Shared->Prop),
 Inv X pins σ H s->EB X.K H J S->j_ X.K H J xs vs->Vals vs us->Mt X pins σ H J (g xs S) Q E->wpAny (model X.prog X.w) X.A (call f us) Q E s
section
variable{X:Cx}{a b c:Expr}{fa fb fc:o_->M D}{pos:Pos}
theorem EP.ET{pins:Ez}{σ:L2.St}{E:Value->Shared->Prop}{Q:VK}{u:Value}{s':Shared}(h:EP (X.EV E) pins σ Q u s'):EP X pins σ Q u s':=let ⟨v,H',I,r,q⟩:=h;⟨v,H',I.ET,r,q⟩
theorem Iu.of{f:Value->Value->Sem Value}{r:R2}{g:D->D->M D}(h:∀E,Kj (X.EV E) f r)
  (hg:∀(H:Hp) (J:List Addr) (S:List Cell) (x y:D) (vx vy:V) (d:D) (S':List Cell),EB X.K H J S->r_ X.K H J x vx->r_ X.K H J y vy->g x y S=.ok d S'->r vx vy H (Got X.K H J d S'))
  (hn:∀x y S c S',g x y S≠.exc c S'):Iu X f g:=by
 intro pins s σ H J S x y vx vy v u Q E I rs rx ry rv ru m;cases e:g x y S with
 |ok d S'=>
  rw[e] at m;exact wpAny_mono (h E pins s σ H vx vy v u _ (I.EV E) rv ru (hg H J S x y vx vy d S' rs rx ry e)) (fun u s' q=>m u s' (EP.ET q)) fun _ _ z=>z
 |exc c S'=>exact absurd e (hn _ _ _ _ _)
 |bad=>rw[e] at m;exact m.elim
theorem Qb.of{f:Value->Sem Value}{r:V->Hp->VK->Prop}{g:D->M D}(h:∀E,RH (X.EV E) f r)
  (hg:∀(H:Hp) (J:List Addr) (S:List Cell) (x:D) (vx:V) (d:D) (S':List Cell),EB X.K H J S->r_ X.K H J x vx->g x S=.ok d S'->r vx H (Got X.K H J d S'))
  (hn:∀x S c S',g x S≠.exc c S'):Qb X f g:=by
 intro pins s σ H J S x vx v Q E I rs rx rv m;cases e:g x S with
 |ok d S'=>
  rw[e] at m;exact wpAny_mono (h E pins s σ H vx v _ (I.EV E) rv (hg H J S x vx d S' rs rx e)) (fun u s' q=>m u s' (EP.ET q)) fun _ _ z=>z
 |exc c S'=>exact absurd e (hn _ _ _ _)
 |bad=>rw[e] at m;exact m.elim
theorem Gh.of{f:Value}{r:List V->Hp->VK->Prop}{g:List D->M D}(h:∀E,HE (X.EV E) f r)
  (hg:∀(H:Hp) (J:List Addr) (S:List Cell) (xs:List D) (vs:List V) (d:D) (S':List Cell),EB X.K H J S->j_ X.K H J xs vs->g xs S=.ok d S'->r vs H (Got X.K H J d S'))
  (hn:∀xs S c S',g xs S≠.exc c S'):Gh X f g:=by
 intro pins s σ H J S xs vs us Q E I rs rx rv m;cases e:g xs S with
 |ok d S'=>
  rw[e] at m;exact wpAny_mono (h E pins s σ H vs us _ (I.EV E) rv (hg H J S xs vs d S' rs rx e)) (fun u s' q=>m u s' (EP.ET q)) fun _ _ z=>z
 |exc c S'=>exact absurd e (hn _ _ _ _)
 |bad=>rw[e] at m;exact m.elim
theorem go2(ha:E_ X a fa)(hb:E_ X b fb){f:Value->Value->Sem Value}{g:D->D->M D}(ho:Iu X f g){Q E:Value->Shared->Prop}{pins:Ez}{s:Shared}{σ:L2.St}{H:Hp}{J:List Addr}{r:o_}{S:List Cell}
  (I:At X pins σ H J r S s) (m:Mt X pins σ H J ((fa r).bind (fun x=>(fb r).bind fun y=>g x y) S) Q E) :
  wpAny (model X.prog X.w) X.A (eval a X.env) (fun v E1=>wpAny (model X.prog X.w) X.A (eval b X.env) (fun u MD=>wpAny (model X.prog X.w) X.A (f v u) Q E MD) E E1) E s:=by
 refine ha pins s σ H J r S _ E I ?_;unfold M.bind at m;cases e:fa r S with
 |bad=>rw[e] at m;exact m
 |exc c S1=>rw[e] at m;exact m
 |ok x S1=>
  rw[e] at m;intro u s' ⟨vx,H1,I1,r1,J1,ex,rs,rv⟩;refine hb pins s' σ H1 J1 r S1 _ E ⟨I1,I.loc.ext ex,rs⟩ ?_;dsimp only at m;cases e2:fb r S1 with
  |bad=>rw[e2] at m;exact m
  |exc c S2=>rw[e2] at m;exact Mt.ext (r:=.exc c S2) (Q:=fun _ _=>True) ex m
  |ok y S2=>
   rw[e2] at m;intro u2 s2 ⟨vy,H2,I2,r2,J2,Ju,Ie,Kk⟩;exact ho pins s2 σ H2 J2 S2 x y vx vy u u2 Q E I2 Ie (rv.ext Ju) Kk r1 r2 (Mt.ext (ex.trans Ju) m)
def f_(g:D->D->M D)(fa fb:o_->M D):o_->M D:=fun r=>(fa r).bind fun x=>(fb r).bind fun y=>g x y
theorem bC{op:Operator}{g:D->D->M D}(ho:Iu X (binaryOp op) g)(ha:E_ X a fa)(hb:E_ X b fb):E_ X (.BinOp a op b pos) (f_ g fa fb):=
 fun pins s σ H J r S Q E I m=>wpAny_BinOp (go2 ha hb ho I m)
theorem qJ{op:CmpOp}{g:D->D->M D}(ho:Iu X (compareOp op) g)(ha:E_ X a fa)(hb:E_ X b fb)(hm:behindInMarks op b=false):E_ X (.Compare a [op] [b] pos) (f_ g fa fb):=
 fun pins s σ H J r S Q E I m=>wpAny_Compare1 (go2 ha hb ho I m) hm
def aa(i:Nat):o_->M D:=fun r S=>match r[i]? with
 |some (some d)=>.ok d S
 |_=>.bad
def dC(d:D):o_->M D:=fun _ S=>.ok d S
theorem Mt.Hk{pins:Ez}{s:Shared}{σ:L2.St}{H:Hp}{J:List Addr}{S:List Cell}{d:D}{v:V}{u:Value}{Q E:Value->Shared->Prop}(m:Mt X pins σ H J (.ok d S) Q E)(I:Inv X pins σ H s)(rs:EB X.K H J S)(rv:r_ X.K H J d v)(r:RelV v u):Q u s:=
 m u s ⟨v,H,I,r,J,Ext.refl _ _,rs,rv⟩
theorem ae(i:Nat){x:Str}(hN:X.N[i]?=some x:=by rfl)(hv:Rx X.env.scope x:=by first|exact Or.inl rfl|exact Or.inr (Or.inl rfl)|exact Or.inr (Or.inr rfl))(hd:(x == ("__debug__":Str))=false:=by decide)
  (Lk:(x == ("__classdict__":Str))=false:=by decide):E_ X (.Name x pos) (aa i):=by
 intro pins s σ H J r S Q E I m;unfold aa at m;cases e:r[i]? with
 |none=>rw[e] at m;exact m.elim
 |some o=>
  cases o with
  |none=>rw[e] at m;exact m.elim
  |some d=>
   rw[e] at m;obtain⟨v,h1,h2⟩:=I.loc.at_ i d e;exact wpAny_mono (BX (X:=X.EV E) hN hv hd Lk pins s σ H (Got X.K H J d S) (I.inv.EV E) ⟨v,h1,J,Ext.refl _ _,I.st,h2⟩) (fun u s' q=>m u s' (EP.ET q)) fun _ _ z=>z
theorem aq{i j pos}:E_ X (.Constant (.int i) j pos) (dC (.int i)):=fun pins s σ H J r S Q E I m=>
 wpAny_Constant_int (m.Hk (I.inv.tok _) I.st (v:=.int i) (by unfold r_;rfl) ⟨_,rfl⟩)
theorem iG{i j pos}:E_ X (.Constant (.bool i) j pos) (dC (.bl i)):=fun pins s σ H J r S Q E I m=>
 Constant_bool (m.Hk I.inv I.st (v:=.bl i) (by unfold r_;rfl) rfl)
theorem iZ{j pos}:E_ X (.Constant .none j pos) (dC .B_):=fun pins s σ H J r S Q E I m=>
 Constant_none (m.Hk I.inv I.st (v:=.B_) (by unfold r_;rfl) rfl)
theorem aH{i j pos}:E_ X (.Constant (.str i) j pos) (dC (.str i)):=fun pins s σ H J r S Q E I m=>
 Calls.Constant_str (m.Hk (I.inv.tok _) I.st (v:=.str i) (by unfold r_;rfl) ⟨_,rfl⟩)
def IP(K:PySem.W.Frag)(d:D)(u:Value):Prop:=∀H J,∃v,RelV v u/\r_ K H J d v
theorem A2{x:Str}{d:D}{u:Value}{pos:Pos}(hg:Gl X x)(hm:X.mg x=some u)(kr:IP X.K d u)(hd:(x == ("__debug__":Str))=false:=by decide):E_ X (.Name x pos) (dC d):=by
 intro pins s σ H J r S Q E I m;obtain⟨v,h1,h2⟩:=kr H J;exact lY I.inv hg hm (m.Hk I.inv I.st h2 h1) hd
def OQ:D->M Bool
 |.bl b=>fun S=>.ok b S
 |_=>fun _=>.bad
def ao(f:o_->M D):o_->M Bool:=fun r=>(f r).bind OQ
theorem r_.Ni{K:PySem.W.Frag}{H:Hp}{J:List Addr}{b:Bool}{v:V}(h:r_ K H J (.bl b) v):v=.bl b:=by unfold r_ at h;exact h
theorem r_.FO{K:PySem.W.Frag}{H:Hp}{J:List Addr}{b:Int}{v:V}(h:r_ K H J (.int b) v):v=.int b:=by unfold r_ at h;exact h
theorem r_.ME{K:PySem.W.Frag}{H:Hp}{J:List Addr}{b:Str}{v:V}(h:r_ K H J (.str b) v):v=.str b:=by unfold r_ at h;exact h
theorem r_.Lv{K:PySem.W.Frag}{H:Hp}{J:List Addr}{v:V}(h:r_ K H J .B_ v):v=.B_:=by unfold r_ at h;exact h
theorem r_.HM{K:PySem.W.Frag}{H:Hp}{J:List Addr}{xs:List D}{v:V}(h:r_ K H J (.tup xs) v):∃a vs,v=.ref a/\Hh K H a vs/\j_ K H J xs vs:=by unfold r_ at h;exact h
theorem r_.Kl{K:PySem.W.Frag}{H:Hp}{J:List Addr}{xs:List D}{v:V}(h:r_ K H J (.FC xs) v):∃a vs,v=.ref a/\Nh K H a vs/\j_ K H J xs vs:=by unfold r_ at h;exact h
theorem r_.HN{K:PySem.W.Frag}{H:Hp}{J:List Addr}{n:Nat}{v:V}(h:r_ K H J (.ob n) v):∃a,v=.ref a/\J[n]?=some a:=by unfold r_ at h;exact h
theorem r_.Xo{K:PySem.W.Frag}{H:Hp}{J:List Addr}{n:Nat}{v:V}(h:r_ K H J (.xn n) v):∃a,v=.ref a/\H a=some (XO a n):=by unfold r_ at h;exact h
theorem r_.int(K:PySem.W.Frag)(H:Hp)(J:List Addr)(b:Int):r_ K H J (.int b) (.int b):=by unfold r_;rfl
theorem r_.bl(K:PySem.W.Frag)(H:Hp)(J:List Addr)(b:Bool):r_ K H J (.bl b) (.bl b):=by unfold r_;rfl
theorem r_.str(K:PySem.W.Frag)(H:Hp)(J:List Addr)(b:Str):r_ K H J (.str b) (.str b):=by unfold r_;rfl
theorem r_.B_(K:PySem.W.Frag)(H:Hp)(J:List Addr):r_ K H J .B_ .B_:=by unfold r_;rfl
theorem r_.tup{K:PySem.W.Frag}{H:Hp}{J:List Addr}{xs:List D}{a:Addr}{vs:List V}(h:Hh K H a vs)(g:j_ K H J xs vs):r_ K H J (.tup xs) (.ref a):=by unfold r_;exact⟨a,vs,rfl,h,g⟩
theorem r_.ob{K:PySem.W.Frag}{H:Hp}{J:List Addr}{n:Nat}{a:Addr}(h:J[n]?=some a):r_ K H J (.ob n) (.ref a):=by unfold r_;exact⟨a,rfl,h⟩
theorem Ln.NA{pins:Ez}{σ:L2.St}{H:Hp}{J:List Addr}{rd:R D}{S:List Cell}{f:o_->M D}{r:o_}{Q:Bool->Shared->Prop}{E:Value->Shared->Prop}(m:Ln X pins σ H J (ao f r S) Q E) :
  Mt X pins σ H J (f r S) (fun v s'=>wpAny (model X.prog X.w) X.A (truthy v) Q E s') E:=by
 unfold ao M.bind at m;cases e:f r S with
 |bad=>rw[e] at m;exact m
 |exc c S1=>rw[e] at m;exact m
 |ok x S1=>
  rw[e] at m;intro u s' ⟨vx,H1,I1,r1,J1,ex,rs,rv⟩;cases x with
  |bl b=>
   cases rv.Ni;cases r1;exact wpAny_truthy_bool (m s' ⟨H1,I1,J1,ex,rs⟩)
  |_=>exact m.elim
theorem aE{op:CmpOp}{g:D->D->M D}(ho:Iu X (compareOp op) g)(ha:E_ X a fa)(hb:E_ X b fb)(hm:behindInMarks op b=false):LW X (.Compare a [op] [b] pos) (ao (f_ g fa fb)):=by
 intro pins s σ H J r S Q E I m;refine wpAny_isTrue_Compare1 ?_ hm;have m':=Ln.NA (rd:=.bad) m;have:=go2 ha hb ho I m';exact this
def dg(t u:o_->M Bool):o_->M Bool:=fun r=>(t r).bind fun c=>if c=true then u r else M.ret false
def G9(t u:o_->M Bool):o_->M Bool:=fun r=>(t r).bind fun c=>if c=true then M.ret true else u r
def dc(t:o_->M Bool):o_->M Bool:=fun r=>(t r).bind fun c=>M.ret (!c)
variable{tA PZ:o_->M Bool}{rest:List Expr}
theorem RS{t:Sem Bool}{f:M Bool}{k:Bool->M Bool}{pins:Ez}{s:Shared}{σ:L2.St}{H:Hp}{J:List Addr}{r:o_}{S:List Cell}{Q:Bool->Shared->Prop}{Q':Bool->Shared->Prop}{E:Value->Shared->Prop}(I:At X pins σ H J r S s)
  (ha:∀Q1,Ln X pins σ H J (f S) Q1 E->wpAny (model X.prog X.w) X.A t Q1 E s) (m:Ln X pins σ H J (f.bind k S) Q E)
  (hk:∀c S1 s1 H1 J1,At X pins σ H1 J1 r S1 s1->Ln X pins σ H1 J1 (k c S1) Q E->Q' c s1):wpAny (model X.prog X.w) X.A t Q' E s:=by
 refine ha _ ?_;unfold M.bind at m;cases e:f S with
 |bad=>rw[e] at m;exact m
 |exc c S1=>rw[e] at m;exact m
 |ok x S1=>
  rw[e] at m;intro s' ⟨H1,I1,J1,ex,rs⟩;exact hk x S1 s' H1 J1 ⟨I1,I.loc.ext ex,rs⟩ (Ln.ext ex m)
theorem dG(ha:LW X a tA):Ir X (.BoolOp .And [a] pos) tA:=by
 intro wh pins s σ H J r S Q E I m;refine isTrue_and (ha pins s σ H J r S _ E I ?_);cases e:tA r S with
 |bad=>rw[e] at m;exact m
 |exc c S1=>rw[e] at m;exact m
 |ok x S1=>
  rw[e] at m;intro s' h;cases x with
  |true=>exact isTrue_and_nil (m s' h)
  |false=>exact m s' h
theorem kM(ha:LW X a tA):Ir X (.BoolOp .Or [a] pos) tA:=by
 intro wh pins s σ H J r S Q E I m;refine isTrue_or (ha pins s σ H J r S _ E I ?_);cases e:tA r S with
 |bad=>rw[e] at m;exact m
 |exc c S1=>rw[e] at m;exact m
 |ok x S1=>
  rw[e] at m;intro s' h;cases x with
  |false=>exact isTrue_or_nil (m s' h)
  |true=>exact m s' h
theorem Ln.Hk{pins:Ez}{s:Shared}{σ:L2.St}{H:Hp}{J:List Addr}{r:o_}{S:List Cell}{b:Bool}{Q:Bool->Shared->Prop}{E:Value->Shared->Prop}(m:Ln X pins σ H J (.ok b S) Q E)(I:At X pins σ H J r S s):Q b s:=
 m s ⟨H,I.inv,J,Ext.refl _ _,I.st⟩
theorem eF(ha:LW X a tA)(hb:Ir X (.BoolOp .And (b :: rest) pos) PZ):Ir X (.BoolOp .And (a :: b :: rest) pos) (dg tA PZ):=by
 intro wh pins s σ H J r S Q E I m;refine isTrue_and (RS (r:=r) I (fun Q1=>ha pins s σ H J r S Q1 E I) m fun c S1 s1 H1 J1 I1 m1=>?_);cases c with
 |true=>exact hb wh pins s1 σ H1 J1 r S1 Q E I1 m1
 |false=>exact m1.Hk I1
theorem kf(ha:LW X a tA)(hb:Ir X (.BoolOp .Or (b :: rest) pos) PZ):Ir X (.BoolOp .Or (a :: b :: rest) pos) (G9 tA PZ):=by
 intro wh pins s σ H J r S Q E I m;refine isTrue_or (RS (r:=r) I (fun Q1=>ha pins s σ H J r S Q1 E I) m fun c S1 s1 H1 J1 I1 m1=>?_);cases c with
 |false=>exact hb wh pins s1 σ H1 J1 r S1 Q E I1 m1
 |true=>exact m1.Hk I1
theorem fD(ha:LW X a tA):LW X (.UnaryOp .Not a pos) (dc tA):=by
 intro pins s σ H J r S Q E I m;exact isTrue_not (RS (r:=r) I (fun Q1=>ha pins s σ H J r S Q1 E I) m fun c S1 s1 H1 J1 I1 m1=>m1.Hk I1)
def jC(fa fb:o_->M D):o_->M D:=fun r=>(ao fa r).bind fun c=>if c=true then fb r else M.ret (.bl false)
def Ej(fa fb:o_->M D):o_->M D:=fun r=>(ao fa r).bind fun c=>if c=true then M.ret (.bl true) else fb r
def xi(fa:o_->M D):o_->M D:=fun r=>(ao fa r).bind fun c=>M.ret (.bl (!c))
theorem VE(ha:E_ X a fa){k:Bool->M D}{pins:Ez}{s:Shared}{σ:L2.St}{H:Hp}{J:List Addr}{r:o_}{S:List Cell}{Q Q':Value->Shared->Prop}{E:Value->Shared->Prop}(I:At X pins σ H J r S s)
  (m:Mt X pins σ H J ((ao fa r).bind k S) Q E) (hk:∀c S1 s1 H1 J1,At X pins σ H1 J1 r S1 s1->Mt X pins σ H1 J1 (k c S1) Q E->Q' (.bool c) s1):wpAny (model X.prog X.w) X.A (eval a X.env) Q' E s:=by
 refine ha pins s σ H J r S _ E I ?_;unfold ao M.bind at m;cases e:fa r S with
 |bad=>rw[e] at m;exact m
 |exc c S1=>rw[e] at m;exact m
 |ok x S1=>
  rw[e] at m;intro u s' ⟨vx,H1,I1,r1,J1,ex,rs,rv⟩;cases x with
  |bl b=>
   cases rv.Ni;cases r1;exact hk b S1 s' H1 J1 ⟨I1,I.loc.ext ex,rs⟩ (Mt.ext ex m)
  |_=>exact m.elim
theorem mR{op}(h:E_ X a fa):E_ X (.BoolOp op [a] pos) fa:=fun pins s σ H J r S Q E I m=>BoolOp_one (h pins s σ H J r S Q E I m)
theorem kI(ha:E_ X a fa)(hb:E_ X (.BoolOp .And (b :: rest) pos) fb):E_ X (.BoolOp .And (a :: b :: rest) pos) (jC fa fb):=by
 intro pins s σ H J r S Q E I m;refine BoolOp_and (VE ha I m fun c S1 s1 H1 J1 I1 m1=>wpAny_truthy_bool ?_);cases c with
 |true=>exact hb pins s1 σ H1 J1 r S1 Q E I1 m1
 |false=>exact m1.Hk I1.inv I1.st (r_.bl _ _ _ false) rfl
theorem Ab(ha:E_ X a fa):E_ X (.UnaryOp .Not a pos) (xi fa):=by
 intro pins s σ H J r S Q E I m;exact UnaryOp_ (VE ha I m fun c S1 s1 H1 J1 I1 m1=>not_of (wpAny_truthy_bool (m1.Hk I1.inv I1.st (r_.bl _ _ _ (!c)) rfl)))
def Pu(t:o_->M Bool)(fa fb:o_->M D):o_->M D:=fun r=>(t r).bind fun c=>if c=true then fa r else fb r
theorem DX{t:Sem Bool}{f:M Bool}{k:Bool->M D}{pins:Ez}{s:Shared}{σ:L2.St}{H:Hp}{J:List Addr}{r:o_}{S:List Cell}{Q:Value->Shared->Prop}{Q':Bool->Shared->Prop}{E:Value->Shared->Prop}(I:At X pins σ H J r S s)
  (ha:∀Q1,Ln X pins σ H J (f S) Q1 E->wpAny (model X.prog X.w) X.A t Q1 E s) (m:Mt X pins σ H J (f.bind k S) Q E)
  (hk:∀c S1 s1 H1 J1,At X pins σ H1 J1 r S1 s1->Mt X pins σ H1 J1 (k c S1) Q E->Q' c s1):wpAny (model X.prog X.w) X.A t Q' E s:=by
 refine ha _ ?_;unfold M.bind at m;cases e:f S with
 |bad=>rw[e] at m;exact m
 |exc c S1=>rw[e] at m;exact m
 |ok x S1=>
  rw[e] at m;intro s' ⟨H1,I1,J1,ex,rs⟩;exact hk x S1 s' H1 J1 ⟨I1,I.loc.ext ex,rs⟩ (Mt.ext ex m)
theorem vi{c:Expr}(hc:LW X c tA)(ha:E_ X a fa)(hb:E_ X b fb):E_ X (.IfExp c a b pos) (Pu tA fa fb):=by
 intro pins s σ H J r S Q E I m;refine wpAny_IfExp (DX (r:=r) I (fun Q1=>hc pins s σ H J r S Q1 E I) m fun d S1 s1 H1 J1 I1 m1=>?_);cases d with
 |true=>exact ha pins s1 σ H1 J1 r S1 Q E I1 m1
 |false=>exact hb pins s1 σ H1 J1 r S1 Q E I1 m1
def oQ(g g':D->D->M D)(fa fb fc:o_->M D):o_->M D:=fun r=>(fa r).bind fun x=>(fb r).bind fun y=>((g x y).bind OQ).bind fun k=>if k=true then (fc r).bind fun z=>g' y z else M.ret (.bl false)
end
end DL
namespace DL
open PySem PySem.Spec PyProof.Rows L2
section
variable{X:Cx}{a b c:Expr}{fa fb fc:o_->M D}{pos:Pos}
theorem qT{op RT:CmpOp}{g g':D->D->M D}(ho:Iu X (compareOp op) g)(Ls:Iu X (compareOp RT) g')(ha:E_ X a fa)(hb:E_ X b fb)(hc:E_ X c fc)
  (hm:lastMarks [op,RT] [b,c]=false:=by with_unfolding_all rfl):E_ X (.Compare a [op,RT] [b,c] pos) (oQ g g' fa fb fc):=by
 intro pins s σ H J r S Q E I m;refine Compare_chain (ha pins s σ H J r S _ E I ?_) hm;unfold oQ M.bind at m;cases e1:fa r S with
 |bad=>rw[e1] at m;exact m
 |exc c S1=>rw[e1] at m;exact m
 |ok x S1=>
  rw[e1] at m;intro v s1 ⟨vx,H1,I1,r1,J1,Hj,Hy,GX⟩;refine chain_link (hb pins s1 σ H1 J1 r S1 _ E ⟨I1,I.loc.ext Hj,Hy⟩ ?_);have m:=Mt.ext Hj m;dsimp only at m;cases e2:fb r S1 with
  |bad=>rw[e2] at m;exact m
  |exc c S2=>rw[e2] at m;exact m
  |ok y S2=>
   rw[e2] at m;intro u s2 ⟨vy,H2,I2,r2,J2,Ju,Ie,Kk⟩;have m:=Mt.ext Ju m;dsimp only at m;refine ho pins s2 σ H2 J2 S2 x y vx vy v u _ E I2 Ie (GX.ext Ju) Kk r1 r2 ?_;cases e3:g x y S2 with
   |bad=>rw[e3] at m;exact m
   |exc c S3=>rw[e3] at m;exact m
   |ok z S3=>
    rw[e3] at m;intro w s3 ⟨vz,H3,I3,r3,J3,Pw,Oj,Qc⟩;have m:=Mt.ext Pw m;dsimp only at m;cases z with
    |bl k=>
     cases Qc.Ni;cases r3;refine wpAny_truthy_bool ?_;cases k with
     |false=>exact ite_ff (m.Hk I3 Oj (r_.bl _ _ _ false) rfl)
     |true=>
      refine ite_tt (chain_last (hc pins s3 σ H3 J3 r S3 _ E ⟨I3,((I.loc.ext Hj).ext Ju).ext Pw,Oj⟩ ?_));simp only[OQ,if_true,M.bind] at m;cases e4:fc r S3 with
      |bad=>rw[e4] at m;exact m
      |exc c S4=>rw[e4] at m;exact m
      |ok z S4=>
       rw[e4] at m;intro w s4 ⟨vz,H4,I4,r4,J4,VF,Xp,RU⟩;exact Ls pins s4 σ H4 J4 S4 y z vy vz u w _ E I4 Xp ((Kk.ext Pw).ext VF) RU r2 r4 (Mt.ext VF m)
    |_=>exact m.elim
def ai:o_->M (List D):=fun _=>M.ret []
def ac(f:o_->M D)(g:o_->M (List D)):o_->M (List D):=fun r=>(f r).bind fun x=>(g r).bind fun xs=>M.ret (x :: xs)
variable{e:Expr}{es:List Expr}{fe:o_->M D}{ft:o_->M (List D)}
theorem ah:KS X [] ai:=fun _ pins s σ H J r S Q E I m=>Calls.spliced_nil (m [] s ⟨[],H,I.inv,.nil,J,Ext.refl _ _,I.st,.nil⟩)
theorem af(ha:E_ X e fe)(hr:KS X es ft)(hs:starEach (e :: es) X.env=(false,eval e X.env) :: starEach es X.env:=by rfl):KS X (e :: es) (ac fe ft):=by
 intro pos pins s σ H J r S Q E I m;rw[hs];show wpAny _ _ (spliced ((false,eval e X.env) :: backTo pos (starEach es X.env))) _ _ s;refine Calls.spliced_cons (ha pins s σ H J r S _ E I ?_);unfold ac M.bind at m;cases e1:fe r S with
 |bad=>rw[e1] at m;exact m
 |exc c S1=>rw[e1] at m;exact m
 |ok x S1=>
  rw[e1] at m;intro v s1 ⟨vx,H1,I1,r1,J1,Hj,Hy,GX⟩;refine hr pos pins s1 σ H1 J1 r S1 _ E ⟨I1,I.loc.ext Hj,Hy⟩ ?_;have m:=Qa.ext Hj m;dsimp only at m;cases e2:ft r S1 with
  |bad=>rw[e2] at m;exact m
  |exc c S2=>rw[e2] at m;exact m
  |ok xs S2=>
   rw[e2] at m;intro us s2 ⟨vs,H2,I2,r2,J2,Ju,Ie,Kk⟩;exact m (v :: us) s2 ⟨vx :: vs,H2,I2,.cons r1 r2,J2,Ju,Ie,.cons (GX.ext Ju) Kk⟩
theorem QU(h:KS X es ft){k:List D->M D}{pins:Ez}{s:Shared}{σ:L2.St}{H:Hp}{J:List Addr}{r:o_}{S:List Cell}{Q E:Value->Shared->Prop}{Q':List Value->Shared->Prop}(I:At X pins σ H J r S s)
  (m:Mt X pins σ H J ((ft r).bind k S) Q E) (hk:∀xs S1 s1 H1 J1 vs us,At X pins σ H1 J1 r S1 s1->j_ X.K H1 J1 xs vs->Vals vs us->Mt X pins σ H1 J1 (k xs S1) Q E->Q' us s1) (pos:Pos) :
  wpAny (model X.prog X.w) X.A (spliced (backTo pos (starEach es X.env))) Q' E s:=by
 refine h pos pins s σ H J r S _ E I ?_;unfold M.bind at m;cases e1:ft r S with
 |bad=>rw[e1] at m;exact m
 |exc c S1=>rw[e1] at m;exact m
 |ok x S1=>
  rw[e1] at m;intro us s1 ⟨vs,H1,I1,r1,J1,Hj,Hy,GX⟩;exact hk x S1 s1 H1 J1 vs us ⟨I1,I.loc.ext Hj,Hy⟩ GX r1 (Mt.ext Hj m)
def oS(xs:List D):M D:=fun S=>G5 (xs.length<=sizeLine) (.ok (.tup xs) S) .bad
def oK(xs:List D):M D:=fun S=>G5 (xs.length<=sizeLine) (.ok (.ob S.length) (S++[.lst xs])) .bad
theorem Got.tup{K:PySem.W.Frag}{H:Hp}{J:List Addr}{S:List Cell}{xs:List D}{vs:List V}{p:Addr}(rs:EB K H J S)(rv:j_ K H J xs vs)(hp:H p=none):Got K H J (.tup xs) S (.ref p) (upd H p (.tup vs)):=
 ⟨J,Ext.new hp,rs.new hp,.tup (Hh.of bN) (rv.ext (Ext.new hp))⟩
theorem Got.lst{K:PySem.W.Frag}{H:Hp}{J:List Addr}{S:List Cell}{xs:List D}{vs:List V}{p:Addr}(rs:EB K H J S)(rv:j_ K H J xs vs)(hp:H p=none):Got K H J (.ob S.length) (S++[.lst xs]) (.ref p) (upd H p (.lst vs)):=
 ⟨J++[p],(Ext.new hp).snoc _,rs.push hp ⟨vs,bN,rv.ext ((Ext.new hp).snoc _)⟩,.ob (by rw[<-rs.len];simp)⟩
theorem Mt.val{pins:Ez}{s:Shared}{σ:L2.St}{H H':Hp}{J:List Addr}{S:List Cell}{d:D}{v:V}{u:Value}{Q E:Value->Shared->Prop}(m:Mt X pins σ H J (.ok d S) Q E)(I:Inv X pins σ H' s)(r:RelV v u)(g:Got X.K H J d S v H'):Q u s:=
 m u s ⟨v,H',I,r,g⟩
def cf(ft:o_->M (List D)):o_->M D:=fun r=>(ft r).bind oS
def bZ(ft:o_->M (List D)):o_->M D:=fun r=>(ft r).bind oK
theorem b8{x1}(h:KS X es ft):E_ X (.Tuple es x1 pos) (cf ft):=by
 intro pins s σ H J r S Q E I m;refine wpAny_Tuple_spliced (QU h I m (fun xs S1 s1 H1 J1 vs us I1 rv r1 m1=>?_) pos);unfold oS G5 at m1;split at m1
 ·rename_i z;have z':vs.length<=sizeLine:=by rw[rv.length];exact z
  refine⟨by rw[<-r1.length];exact z',?_⟩;have hf:H1 s1.heap.objs.size=none:=I1.inv.EI.fresh (Nat.le_refl _);refine m1.val (H':=upd H1 s1.heap.objs.size (.tup vs)) (v:=.ref s1.heap.objs.size) (I1.inv.laid (t':=s1.toks) (fun b u e=>Heap.get?_push_of_some _ e) (Nat.le_refl _) ?_) rfl (Got.tup I1.st rv hf);exact⟨z',us,r1,⟨_,Heap.get?_push_size _ rfl,rfl,_,rfl⟩⟩
 ·exact m1.elim
theorem ci(h:KS X es ft):E_ X (.List es pos) (bZ ft):=by
 intro pins s σ H J r S Q E I m;refine wpAny_List_spliced (QU h I m (fun xs S1 s1 H1 J1 vs us I1 rv r1 m1=>?_) pos);unfold oK G5 at m1;split at m1
 ·rename_i z;have z':vs.length<=sizeLine:=by rw[rv.length];exact z
  refine⟨by rw[<-r1.length];exact z',?_⟩;have hf:H1 s1.heap.objs.size=none:=I1.inv.EI.fresh (Nat.le_refl _);refine m1.val (H':=upd H1 s1.heap.objs.size (.lst vs)) (v:=.ref s1.heap.objs.size) (I1.inv.laid (t':=s1.toks) (fun b u e=>Heap.get?_push_of_some _ e) (Nat.le_refl _) ?_) rfl (Got.lst I1.st rv hf);exact⟨z',us,0,r1,Heap.get?_push_size _ rfl⟩
 ·exact m1.elim
def Px(X:Cx)(g:D->D->M D):Prop:=∀(value slice:Expr) (pins:Ez) (s:Shared) (σ:L2.St) (H:Hp) (J:List Addr) (S:List Cell) (x y:D) (vx vy:V) (v u:Value) (Q E:Value->Shared->Prop),
 Inv X pins σ H s->EB X.K H J S->r_ X.K H J x vx->r_ X.K H J y vy->RelV vx v->RelV vy u->subscripted slice false v u=operate [v,u] (getItem v u)->Mt X pins σ H J (g x y S) Q E->wpAny (model X.prog X.w) X.A (subscriptTail value slice v u) Q E s
theorem Px.of{r:R2}{g:D->D->M D}(h:∀E,OM (X.EV E) r)
  (hg:∀(H:Hp) (J:List Addr) (S:List Cell) (x y:D) (vx vy:V) (d:D) (S':List Cell),EB X.K H J S->r_ X.K H J x vx->r_ X.K H J y vy->g x y S=.ok d S'->r vx vy H (Got X.K H J d S'))
  (hn:∀x y S c S',g x y S≠.exc c S'):Px X g:=by
 intro value slice pins s σ H J S x y vx vy v u Q E I rs rx ry rv ru hs m;cases e:g x y S with
 |ok d S'=>
  rw[e] at m;exact wpAny_mono (h E value slice pins s σ H vx vy v u _ (I.EV E) rv ru (hg H J S x y vx vy d S' rs rx ry e) hs) (fun u s' q=>m u s' (EP.ET q)) fun _ _ z=>z
 |exc c S'=>exact absurd e (hn _ _ _ _ _)
 |bad=>rw[e] at m;exact m.elim
theorem aD{g:D->D->M D}(hr:Px X g)(ha:E_ X a fa)(hb:E_ X b fb)(hs:Bs b):E_ X (.Subscript a b pos) (f_ g fa fb):=by
 intro pins s σ H J r S Q E I m;refine Subscript_ (ha pins s σ H J r S _ E I ?_);unfold f_ M.bind at m;cases e:fa r S with
 |bad=>rw[e] at m;exact m
 |exc c S1=>rw[e] at m;exact m
 |ok x S1=>
  rw[e] at m;intro u s' ⟨vx,H1,I1,r1,J1,ex,rs,rv⟩;refine hb pins s' σ H1 J1 r S1 _ E ⟨I1,I.loc.ext ex,rs⟩ ?_;dsimp only at m;have m:=Mt.ext ex m;cases e2:fb r S1 with
  |bad=>rw[e2] at m;exact m
  |exc c S2=>rw[e2] at m;exact m
  |ok y S2=>
   rw[e2] at m;intro u2 s2 ⟨vy,H2,I2,r2,J2,Ju,Ie,Kk⟩;exact hr a b pins s2 σ H2 J2 S2 x y vx vy u u2 Q E I2 Ie (rv.ext Ju) Kk r1 r2 (hs _ _) (Mt.ext Ju m)
def Xq(X:Cx)(pins:Ez)(σ:L2.St)(H:Hp)(J:List Addr)(r:R (Option Int))(Q:Value->Shared->Prop)(E:Value->Shared->Prop):Prop:=match r with
 |.ok o S'=>∀u s' H',Inv X pins σ H' s'->HL X.K H J S' H'->IsPart u o->Q u s'
 |.exc c S'=>∀e s',XP X pins σ c (HL X.K H J S') e s'->E e s'
 |.bad=>False
def QV(X:Cx)(e:Option Expr)(f:o_->M (Option Int)):Prop:=∀(pins:Ez) (s:Shared) (σ:L2.St) (H:Hp) (J:List Addr) (r:o_) (S:List Cell) (Q E:Value->Shared->Prop),
 At X pins σ H J r S s->Xq X pins σ H J (f r S) Q E->wpAny (model X.prog X.w) X.A (evalPart e X.env) Q E s
def bz:o_->M (Option Int):=fun _=>M.ret none
def Aj:D->M (Option Int)
 |.int i=>M.ret (some i)
 |_=>M.bad
def bI(f:o_->M D):o_->M (Option Int):=fun r=>(f r).bind Aj
theorem dz:QV X none bz:=by
 intro pins s σ H J r S Q E I m;rw[evalPart_none];exact wpAny_pure (m .none s H I.inv ⟨J,Ext.refl _ _,I.st⟩ .none)
theorem cu(h:E_ X e fe):QV X (some e) (bI fe):=by
 intro pins s σ H J r S Q E I m;rw[evalPart_some];refine h pins s σ H J r S _ E I ?_;unfold bI M.bind at m;cases e1:fe r S with
 |bad=>rw[e1] at m;exact m
 |exc c S1=>rw[e1] at m;exact m
 |ok x S1=>
  rw[e1] at m;intro u s' ⟨vx,H1,I1,r1,J1,ex,rs,rv⟩;cases x with
  |int i=>
   cases rv.FO;obtain⟨t,rfl⟩:=r1;exact m _ s' H1 I1 ⟨J1,ex,rs⟩ (.int i t)
  |_=>exact m.elim
def VG(X:Cx)(g:D->Option Int->Option Int->M D):Prop:=∀(pins:Ez) (s:Shared) (σ:L2.St) (H:Hp) (J:List Addr) (S:List Cell) (x:D) (vx:V) (v vl vu:Value) (lo hi:Option Int) (sl:Addr) (Q E:Value->Shared->Prop),
 Inv X pins σ H s->EB X.K H J S->r_ X.K H J x vx->RelV vx v->s.heap.IsSliceOf sl vl vu .none->IsPart vl lo->IsPart vu hi->Mt X pins σ H J (g x lo hi S) Q E->
  ∃T id,typeLookup (.type T) "__getitem__"=pure (some (.builtin id))/\s.TypeIs v T/\wpAny (model X.prog X.w) X.A (getItem v (.ref sl)) Q E s
def GF(g:D->Option Int->Option Int->M D)(fe:o_->M D)(fl fh:o_->M (Option Int)):o_->M D:=fun r=>(fe r).bind fun x=>(fl r).bind fun l=>(fh r).bind fun h=>g x l h
theorem cH{g:D->Option Int->Option Int->M D}{lo hi:Option Expr}{fl fh:o_->M (Option Int)}{p2:Pos}(hr:VG X g)(he:E_ X e fe)(hl:QV X lo fl)(hu:QV X hi fh):E_ X (.Subscript e (.Slice lo hi none p2) pos) (GF g fe fl fh):=by
 intro pins s σ H J r S Q E I m;refine Subscript_ (he pins s σ H J r S _ E I ?_);unfold GF M.bind at m;cases e1:fe r S with
 |bad=>rw[e1] at m;exact m
 |exc c S1=>rw[e1] at m;exact m
 |ok x S1=>
  rw[e1] at m;intro v s1 ⟨vx,H1,I1,r1,J1,Hj,Hy,GX⟩;refine wpAny_Slice (hl pins s1 σ H1 J1 r S1 _ E ⟨I1,I.loc.ext Hj,Hy⟩ ?_);have m:=Mt.ext Hj m;dsimp only at m;cases e2:fl r S1 with
  |bad=>rw[e2] at m;exact m
  |exc c S2=>rw[e2] at m;exact m
  |ok l S2=>
   rw[e2] at m;intro vl s2 H2 I2 ⟨J2,Ju,Ie⟩ pl;have m:=Mt.ext Ju m;dsimp only at m;refine hu pins s2 σ H2 J2 r S2 _ E ⟨I2,(I.loc.ext Hj).ext Ju,Ie⟩ ?_;cases e3:fh r S2 with
   |bad=>rw[e3] at m;exact m
   |exc c S3=>rw[e3] at m;exact m
   |ok u S3=>
    rw[e3] at m;intro vu s3 H3 I3 ⟨J3,Pw,Oj⟩ pu;have m:=Mt.ext Pw m;rw[evalPart_none];refine wpAny_pure ?_;have I4:Inv X pins σ H3 { s3 with heap:=s3.heap.push { cls:=.type "slice",data:=.fields #[vl,vu,.none] } }:=I3.kept (t':=s3.toks) fun b ob q=>Heap.get?_push_of_some _ q
    obtain⟨T,id,hT,ht,hg⟩:=hr pins { s3 with heap:=s3.heap.push { cls:=.type "slice",data:=.fields #[vl,vu,.none] } } σ H3 J3 S3 x vx v vl vu l u s3.heap.objs.size Q E I4 Oj ((GX.ext Ju).ext Pw) r1 (Heap.IsSliceOf.new ..) pl pu m;show wpAny (model X.prog X.w) X.A (subscriptTail e (.Slice lo hi none p2) v (.ref s3.heap.objs.size)) Q E { s3 with heap:=s3.heap.push { cls:=.type "slice",data:=.fields #[vl,vu,.none] } };exact tail_any (ops:=[.ref s3.heap.objs.size,v]) ht hT hg (by with_unfolding_all rfl)
def am(g:List D->M D)(ft:o_->M (List D)):o_->M D:=fun r=>(ft r).bind g
theorem bO{x:Str}{p:Pos}{id:String}{g:List D->M D}(hc:Gh X (.builtin id) g)(hg:Gl X x)(hm:X.mg x=none)(hv:bootBuiltins x=some (.builtin id))(ha:KS X (e :: es) ft)(hn:x≠"__name__":=by decide)(L8:(x == ("__debug__":Str))=false:=by decide)
  (he:starEach (e :: es) X.env=(false,eval e X.env) :: starEach es X.env:=by rfl) (Kd:(backTo pos (starEach es X.env)).any (·.1)=false:=by rfl):E_ X (.Call (.Name x p) (e :: es) [] pos) (am g ft):=by
 intro pins s σ H J r S Q E I m;refine wpAny_Call_Name_kw (lS I.inv hg hm hv ?_ hn L8);exact PyProof.Rows.callWith_builtin1 (QU ha I m (fun xs S1 s1 H1 J1 vs us I1 rv r1 m1=>hc pins s1 σ H1 J1 S1 xs vs us Q E I1.inv I1.st rv r1 m1) pos) he Kd
theorem dm{x:Str}{p:Pos}{T:String}{g:List D->M D}(hc:Gh X (.type T) g)(hg:Gl X x)(hm:X.mg x=none)(hv:bootBuiltins x=some (.type T))(ha:KS X (e :: es) ft)(hn:x≠"__name__":=by decide)(L8:(x == ("__debug__":Str))=false:=by decide)
  (he:starEach (e :: es) X.env=(false,eval e X.env) :: starEach es X.env:=by rfl) (Kd:(backTo pos (starEach es X.env)).any (·.1)=false:=by rfl):E_ X (.Call (.Name x p) (e :: es) [] pos) (am g ft):=by
 intro pins s σ H J r S Q E I m;refine wpAny_Call_Name_kw (lS I.inv hg hm hv ?_ hn L8);exact PyProof.Rows.callWith_type1 (QU ha I m (fun xs S1 s1 H1 J1 vs us I1 rv r1 m1=>hc pins s1 σ H1 J1 S1 xs vs us Q E I1.inv I1.st rv r1 m1) pos) he Kd
def VH(K:PySem.W.Frag)(n:Nat)(F:List D->M D):Sp:=fun vs H Q E=>vs.length=n/\∃J xs S,j_ K H J xs vs/\EB K H J S/\match F xs S with
 |.ok d S'=>∀v H',Got K H J d S' v H'->Q v H'
 |.exc c S'=>∀H',HL K H J S' H'->E (.ref c) none H'
 |.bad=>False
def pj(CX:Iz)(X:Cx):Prop:=∀(E0:XK) (pins:Ez) (σ:L2.St) (H:Hp) (s:Shared) (e:Value) (s':Shared),Inv X pins σ H s->CX X.stack H s E0 e s'->∃c H',Ny X pins σ H' s' e c/\E0 (.ref c) none H'
abbrev Fq(P:Program)(w:World)(K:PySem.W.Frag)(mg:Str->Option Value)(base:Heap)(CX:Iz)(k:Nat)(f:Addr)(fd:FuncData)(ps:List Str)(F:List D->M D):Prop:=H_ P w K mg base CX k f fd ps (VH K ps.length F)
theorem tN{CX:Iz}{k:Nat}{f:Addr}{fd:FuncData}{ps:List Str}{F:List D->M D}{pins:Ez}{σ:L2.St}{H:Hp}{J:List Addr}{S:List Cell}{s:Shared}{Q E:Value->Shared->Prop}{xs:List D}{vs:List V}{us:List Value}
  (hF:Fq X.prog X.w X.K X.mg X.base CX k f fd ps F) (hr:FL k X.A) (hb:Binds X.K fd ps []) (hx:pj CX X) (I:Inv X pins σ H s) (rs:EB X.K H J S) (rx:j_ X.K H J xs vs) (rv:Vals vs us) (hl:xs.length=ps.length)
  (m:Mt X pins σ H J (F xs S) Q E):wpAny (model X.prog X.w) X.A (call (.ref f) us) Q E s:=by
 have hlen:(us++[]).length=ps.length:=by rw[List.append_nil,<-rv.length,rx.length];exact hl
 have NB:=hb s us I.IY hlen;rw[List.append_nil] at NB;refine wpAny_call (codeAny_mono (hF.run X.A X.stack s H ⟨us,[]⟩ us vs (fun v H'=>∃d S',F xs S=.ok d S'/\Got X.K H J d S' v H') (fun cl _ H'=>∃c S',F xs S=.exc c S'/\cl=.ref c/\HL X.K H J S' H') hr I.P2 NB rv ?_) fun rr s' hq=>?_)
 ·refine⟨by rw[rx.length];exact hl,J,xs,S,rx,rs,?_⟩;cases e:F xs S with
  |ok d S'=>exact fun v H' g=>⟨d,S',rfl,g⟩
  |exc c S'=>exact fun H' g=>⟨c,S',rfl,rfl,g⟩
  |bad=>rw[e] at m;exact m
 ·cases rr with
  |error e=>
   obtain⟨c,H',XI,c',S',e1,e2,g⟩:=hx _ pins σ H s e s' I hq;cases e2;rw[e1] at m;exact m e s' ⟨H',XI,g⟩
  |ok fl=>
   cases fl with
   |ret u=>
    obtain⟨v,H',I',r',d,S',e1,g⟩:=I.after hq;rw[e1] at m;exact m u s' ⟨v,H',I',r',g⟩
   |next=>exact False.elim hq
   |brk=>exact False.elim hq
   |cont=>exact False.elim hq
theorem Bj{CX:Iz}{k:Nat}{f:Addr}{fd:FuncData}{ps:List Str}{F:List D->M D}{x:Str}{p:Pos}(hF:Fq X.prog X.w X.K X.mg X.base CX k f fd ps F)(hr:FL k X.A)(hg:Gl X x)(hm:X.mg x=some (.ref f))(hk:PySem.W.keepIn X.K (.ref f)=true)
  (hb:Binds X.K fd ps []) (hx:pj CX X) (ha:KS X (e :: es) ft) (hl:∀r S xs S',ft r S=.ok xs S'->xs.length=ps.length)
  (L8:(x == ("__debug__":Str))=false:=by decide) (he:starEach (e :: es) X.env=(false,eval e X.env) :: starEach es X.env:=by rfl) (Kd:(backTo pos (starEach es X.env)).any (·.1)=false:=by rfl) :
  E_ X (.Call (.Name x p) (e :: es) [] pos) (am F ft):=by
 intro pins s σ H J r S Q E I m;refine wpAny_Call_Name_kw (lY I.inv hg hm ?_ L8);refine PySem.W.callWith_K (h₀:=X.base) I.inv.ok.mod.Pn hk ?_ he Kd;refine ha pos pins s σ H J r S _ E I ?_;unfold am M.bind at m;cases e1:ft r S with
 |bad=>rw[e1] at m;exact m
 |exc c S1=>rw[e1] at m;exact m
 |ok xs S1=>
  rw[e1] at m;intro us s1 ⟨vs,H1,I1,r1,J1,Hj,Hy,GX⟩;exact⟨I1.IY,tN hF hr hb hx I1 Hy GX r1 (hl r S xs S1 e1) (Mt.ext Hj m)⟩
end
end DL
namespace DL
open PySem PySem.Spec PyProof.Rows L2
inductive Fl where
 |nx (r:o_)|rt (d:D)|bk (r:o_)|ct (r:o_)|xc (c:Addr) (r:o_)
abbrev Lo:=Option (Fl×List Cell)
abbrev EL:=o_->List Cell->Lo
def JD(X:Cx)(pins:Ez)(H:Hp)(J:List Addr)(x:Lo)(Q:Flow->Shared->Prop)(E:Value->Shared->Prop):Prop:=match x with
 |none=>False
 |some (.nx r',S')=>∀s' E4 H' J',At X pins E4 H' J' r' S' s'->Ext H J H' J'->Q .next s'
 |some (.bk r',S')=>∀s' E4 H' J',At X pins E4 H' J' r' S' s'->Ext H J H' J'->Q .brk s'
 |some (.ct r',S')=>∀s' E4 H' J',At X pins E4 H' J' r' S' s'->Ext H J H' J'->Q .cont s'
 |some (.rt d,S')=>∀u s' E4,EP X pins E4 (Got X.K H J d S') u s'->Q (.ret u) s'
 |some (.xc c r',S')=>∀e s' E4 H' J',Ny X pins E4 H' s' e c->Hi X.K H' J' r' E4->EB X.K H' J' S'->Ext H J H' J'->E e s'
theorem JD.ext{X:Cx}{pins:Ez}{H H1:Hp}{J J1:List Addr}{x:Lo}{Q:Flow->Shared->Prop}{E:Value->Shared->Prop}(e:Ext H J H1 J1)(h:JD X pins H J x Q E):JD X pins H1 J1 x Q E:=by
 match x,h with
 |none,h=>exact h
 |some (.nx r',S'),h=>exact fun s' E4 H' J' a x=>h s' E4 H' J' a (e.trans x)
 |some (.bk r',S'),h=>exact fun s' E4 H' J' a x=>h s' E4 H' J' a (e.trans x)
 |some (.ct r',S'),h=>exact fun s' E4 H' J' a x=>h s' E4 H' J' a (e.trans x)
 |some (.rt d,S'),h=>exact fun u s' E4 ⟨v,H',I,rv,g⟩=>h u s' E4 ⟨v,H',I,rv,g.ext e⟩
 |some (.xc c r',S'),h=>exact fun u s' E4 H' J' a b c x=>h u s' E4 H' J' a b c (e.trans x)
def Lx(X:Cx)(st:Stmt)(t:EL):Prop:=∀(pins:Ez) (s:Shared) (σ:L2.St) (H:Hp) (J:List Addr) (r:o_) (S:List Cell) (Q:Flow->Shared->Prop) (E:Value->Shared->Prop),
 At X pins σ H J r S s->JD X pins H J (t r S) Q E->wpAny (model X.prog X.w) X.A (exec st X.env) Q E s
def oX(X:Cx)(st:List Stmt)(t:EL):Prop:=∀(pins:Ez) (s:Shared) (σ:L2.St) (H:Hp) (J:List Addr) (r:o_) (S:List Cell) (Q:Flow->Shared->Prop) (E:Value->Shared->Prop),
 At X pins σ H J r S s->JD X pins H J (t r S) Q E->wpAny (model X.prog X.w) X.A (execs st X.env) Q E s
def cC{α:Type}(m:M α)(r:o_)(k:α->List Cell->Lo):List Cell->Lo:=fun S=>match m S with
 |.ok a S'=>k a S'
 |.exc c S'=>some (.xc c r,S')
 |.bad=>none
def bE:EL:=fun r S=>some (.nx r,S)
def aN(t u:EL):EL:=fun r S=>match t r S with
 |some (.nx r',S')=>u r' S'
 |o=>o
section
variable{X:Cx}{st:Stmt}{rest:List Stmt}{t u:EL}{e:Expr}{fe:o_->M D}{pos:Pos}
theorem ba:oX X [] bE:=fun pins s σ H J r S Q E I m=>wpAny_execs_nil (m s σ H J I (Ext.refl _ _))
theorem au(h1:Lx X st t)(h2:oX X rest u):oX X (st :: rest) (aN t u):=by
 intro pins s σ H J r S Q E I m;refine wpAny_execs_cons (h1 pins s σ H J r S _ E I ?_);unfold aN at m
 match e:t r S with
 |none=>rw[e] at m;exact m
 |some (.nx r',S')=>
  rw[e] at m;exact fun s' E4 H' J' a x=>h2 pins s' E4 H' J' r' S' Q E a (JD.ext x m)
 |some (.bk r',S')=>rw[e] at m;exact m
 |some (.ct r',S')=>rw[e] at m;exact m
 |some (.rt d,S')=>rw[e] at m;exact m
 |some (.xc c r',S')=>rw[e] at m;exact m
theorem al(h1:Lx X st t):oX X [st] t:=by
 intro pins s σ H J r S Q E I m;refine wpAny_execs_cons (h1 pins s σ H J r S _ E I ?_)
 match e:t r S with
 |none=>rw[e] at m;exact m
 |some (.nx r',S')=>rw[e] at m;exact fun s' E4 H' J' a x=>wpAny_execs_nil (m s' E4 H' J' a x)
 |some (.bk r',S')=>rw[e] at m;exact m
 |some (.ct r',S')=>rw[e] at m;exact m
 |some (.rt d,S')=>rw[e] at m;exact m
 |some (.xc c r',S')=>rw[e] at m;exact m
theorem Qd(he:E_ X e fe){k:D->List Cell->Lo}{pins:Ez}{s:Shared}{σ:L2.St}{H:Hp}{J:List Addr}{r:o_}{S:List Cell}{Q:Flow->Shared->Prop}{E:Value->Shared->Prop}{Q':Value->Shared->Prop}(I:At X pins σ H J r S s)
  (m:JD X pins H J (cC (fe r) r k S) Q E) (hk:∀x S1 v s1 vx H1 J1,At X pins σ H1 J1 r S1 s1->r_ X.K H1 J1 x vx->RelV vx v->JD X pins H1 J1 (k x S1) Q E->Q' v s1) :
  wpAny (model X.prog X.w) X.A (eval e X.env) Q' E s:=by
 refine he pins s σ H J r S _ E I ?_;unfold cC at m;cases e1:fe r S with
 |bad=>rw[e1] at m;exact m
 |exc c S1=>
  rw[e1] at m;exact fun x s' ⟨H',XI,J',ex,rs⟩=>m x s' σ H' J' XI (I.loc.ext ex) rs ex
 |ok x S1=>
  rw[e1] at m;exact fun v s1 ⟨vx,H1,I1,r1,J1,ex,rs,rv⟩=>hk x S1 v s1 vx H1 J1 ⟨I1,I.loc.ext ex,rs⟩ rv r1 (JD.ext ex m)
theorem D7{te:o_->M Bool}(he:LW X e te){k:Bool->List Cell->Lo}{pins:Ez}{s:Shared}{σ:L2.St}{H:Hp}{J:List Addr}{r:o_}{S:List Cell}{Q:Flow->Shared->Prop}{E:Value->Shared->Prop}{Q':Bool->Shared->Prop}(I:At X pins σ H J r S s)
  (m:JD X pins H J (cC (te r) r k S) Q E) (hk:∀b S1 s1 H1 J1,At X pins σ H1 J1 r S1 s1->JD X pins H1 J1 (k b S1) Q E->Q' b s1) :
  wpAny (model X.prog X.w) X.A (isTrue e X.env (eval e X.env)) Q' E s:=by
 refine he pins s σ H J r S _ E I ?_;unfold cC at m;cases e1:te r S with
 |bad=>rw[e1] at m;exact m
 |exc c S1=>
  rw[e1] at m;exact fun x s' ⟨H',XI,J',ex,rs⟩=>m x s' σ H' J' XI (I.loc.ext ex) rs ex
 |ok x S1=>
  rw[e1] at m;exact fun s1 ⟨H1,I1,J1,ex,rs⟩=>hk x S1 s1 H1 J1 ⟨I1,I.loc.ext ex,rs⟩ (JD.ext ex m)
def bx(fe:o_->M D):EL:=fun r=>cC (fe r) r fun _ S=>some (.nx r,S)
theorem aY(he:E_ X e fe)(hs:swapsWith e none pos.line X.env=pure false:=by rfl):Lx X (.Expr e pos) (bx fe):=by
 intro pins s σ H J r S Q E I m;exact wpAny_Expr_any (Qd he I m fun x S1 v s1 vx H1 J1 I1 rv r1 m1=>m1 s1 σ H1 J1 I1 (Ext.refl _ _)) I.inv.quiet hs
def bP(fe:o_->M D):EL:=fun r=>cC (fe r) r fun d S=>some (.rt d,S)
theorem aU(he:E_ X e fe):Lx X (.Return (some e) pos) (bP fe):=by
 intro pins s σ H J r S Q E I m;exact wpAny_Return_some (Qd he I m fun x S1 v s1 vx H1 J1 I1 rv r1 m1=>m1 v s1 σ ⟨vx,H1,I1.inv,r1,J1,Ext.refl _ _,I1.st,rv⟩)
def Fd(c:o_->M Bool)(t u:EL):EL:=fun r=>cC (c r) r fun b S=>if b=true then t r S else u r S
theorem bq{c:Expr}{a b:List Stmt}{tc:o_->M Bool}(hc:LW X c tc)(ha:oX X a t)(hb:oX X b u):Lx X (.If c a b pos) (Fd tc t u):=by
 intro pins s σ H J r S Q E I m;refine wpAny_If (D7 hc I m fun d S1 s1 H1 J1 I1 m1=>?_);cases d with
 |true=>exact ha pins s1 σ H1 J1 r S1 Q E I1 m1
 |false=>exact hb pins s1 σ H1 J1 r S1 Q E I1 m1
abbrev JE:=D->o_->Option o_
def Ol(X:Cx)(tg:Expr)(t:JE):Prop:=∀(pins:Ez) (s:Shared) (σ:L2.St) (H:Hp) (J:List Addr) (r:o_) (S:List Cell) (d:D) (v:V) (u:Value) (Q:Unit->Shared->Prop) (E:Value->Shared->Prop) (r':o_),
 At X pins σ H J r S s->r_ X.K H J d v->RelV v u->t d r=some r'->(∀s' E4 H' J',At X pins E4 H' J' r' S s'->Ext H J H' J'->Q () s')->wpAny (model X.prog X.w) X.A (assign tg X.env u) Q E s
def gN(i:Nat):JE:=fun d r=>some (r.set i (some d))
theorem cq{i:Nat}{x:Str}(hN:X.N.Nodup)(hi:X.N[i]?=some x:=by rfl)(hx:Loc X.env.scope x:=by first|exact Or.inl rfl|exact Or.inr rfl)(hf:X.fn x=true\/X.env.scope.names.lookup x=some .local:=by first|exact .inl rfl|exact .inr rfl|assumption):Ol X (.Name x pos) (gN i):=by
 intro pins s σ H J r S d v u Q E r' I rv ru e k;cases e;refine wpAny_mono (Aq (X:=X.EV E) hN hi hx hf pins s σ H v u (fun E4 H'=>E4=σ.set i (some v)/\H'=H) (I.inv.EV E) ru ⟨rfl,rfl⟩) (fun _ s' q=>?_) fun _ _ z=>z
 obtain⟨E4,H',I',rfl,rfl⟩:=q;exact k s' _ _ J ⟨I'.ET,I.loc.set rv,I.st⟩ (Ext.refl _ _)
def Om:List Nat->List D->o_->Option o_
 |[],[],r=>some r
 |i :: is,d :: ds,r=>Om is ds (r.set i (some d))
 |_,_,_=>none
def gT(is:List Nat):JE:=fun d r=>match d with
 |.tup ds=>Om is ds r
 |_=>none
def An(X:Cx)(ts:List Expr)(is:List Nat):Prop:=∀(pins:Ez) (s:Shared) (σ:L2.St) (H:Hp) (J:List Addr) (r:o_) (S:List Cell) (ds:List D) (vs:List V) (us:List Value) (Q:Unit->Shared->Prop) (E:Value->Shared->Prop) (r':o_),
 At X pins σ H J r S s->j_ X.K H J ds vs->Vals vs us->Om is ds r=some r'->(∀s' E4 H' J',At X pins E4 H' J' r' S s'->Ext H J H' J'->Q () s')->wpAny (model X.prog X.w) X.A (assignInOrder ((assignEach ts X.env).map (·.2)) us) Q E s
theorem um:An X [] []:=by
 intro pins s σ H J r S ds vs us Q E r' I rv ru e k;cases ds with
 |nil=>
  cases e;unfold j_ at rv;subst rv;cases ru;rw[show(assignEach [] X.env).map (·.2)=[] from rfl];exact assignInOrder_nil (k s σ H J I (Ext.refl _ _))
 |cons d ds=>cases e
theorem j5{ex:Expr}{es:List Expr}{i:Nat}{is:List Nat}(h1:Ol X ex (gN i))(h2:An X es is)
  (hs:(assignEach (ex :: es) X.env).map (·.2)=assign ex X.env :: (assignEach es X.env).map (·.2):=by rfl):An X (ex :: es) (i :: is):=by
 intro pins s σ H J r S ds vs us Q E r' I rv ru e k;cases ds with
 |nil=>cases e
 |cons d ds=>
  unfold j_ at rv;obtain⟨v,vr,rfl,GX,Kk⟩:=rv;cases ru with
  |cons q1 q2=>
   rw[hs];refine assignInOrder_cons (h1 pins s σ H J r S d v _ _ E _ I GX q1 rfl fun s1 Py H1 J1 I1 x1=>?_);exact h2 pins s1 Py H1 J1 _ S ds vr _ Q E r' I1 (Kk.ext x1) q2 e fun s' E4 H' J' a x=>k s' E4 H' J' a (x1.trans x)
theorem xJ:∀{is:List Nat}{ds:List D}{r r':o_},Om is ds r=some r'->ds.length=is.length
 |[],[],_,_,_=>rfl
 |i :: is,d :: ds,r,r',h=>by
  rw[List.length_cons,List.length_cons,xJ (show Om is ds (r.set i (some d))=some r' from h)]
 |[],d :: ds,r,r',h=>by cases h
 |i :: is,[],r,r',h=>by cases h
end
end DL
namespace DL
open PySem PySem.Spec PyProof.Rows L2
section
variable{X:Cx}{st:Stmt}{rest:List Stmt}{t u:EL}{e:Expr}{fe:o_->M D}{pos:Pos}
theorem wx{es:List Expr}{k:Nat}{is:List Nat}(hc:X.calm=true)(h:An X es is)(hn:(assignEach es X.env).length=is.length:=by rfl)(I0:(assignEach es X.env).findIdx? (·.1)=none:=by rfl):Ol X (.Tuple es k pos) (gT is):=by
 intro pins s σ H J r S d v u Q E r' I rv ru e k;cases d with
 |tup ds=>
  obtain⟨a,vs,rfl,hq,E7⟩:=rv.HM;cases ru;obtain⟨u_,rel,ht,hz⟩:=I.inv.tuple hq;have e':Om is ds r=some r':=e;have hl:=xJ e';refine assign_Tuple_tuple (I.inv.ok.hd hc) ht (by simp[hn,<-hl,<-E7.length,rel.length]) I0 fun h' hx=>?_
  have I1:Inv X pins σ H { s with heap:=h' }:=I.inv.kept (t':=s.toks) fun b o e=>hx b o (Nat.ne_of_lt (Heap.lt_size e)) e
  exact h pins _ σ H J r S ds vs _ Q E r' ⟨I1,I.loc,I.st⟩ E7 (by simpa using rel) e' k
 |_=>cases e
def cj(fe:o_->M D)(g:JE):EL:=fun r=>cC (fe r) r fun d S=>match g d r with
 |some r'=>some (.nx r',S)
 |none=>none
theorem bL{i:Nat}{x:Str}{pos':Pos}(hN:X.N.Nodup)(he:E_ X e fe)(hi:X.N[i]?=some x:=by rfl)(hx:Loc X.env.scope x:=by first|exact Or.inl rfl|exact Or.inr rfl)(hs:swapsWith e (some (.Name x pos')) pos.line X.env=pure false:=by rfl)
  (hf:X.fn x=true\/X.env.scope.names.lookup x=some .local:=by first|exact .inl rfl|exact .inr rfl|assumption):Lx X (.Assign [.Name x pos'] e pos) (cj fe (gN i)):=by
 intro pins s σ H J r S Q E I m;refine wpAny_Assign_Name (Qd he I m fun d S1 v s1 vx H1 J1 I1 rv r1 m1=>?_) hs;exact vb I1.inv hN hi hx r1 (fun s2 I2=>m1 s2 _ H1 J1 ⟨I2,I1.loc.set rv,I1.st⟩ (Ext.refl _ _)) hf
theorem Ci{tg:Expr}{g:JE}(he:E_ X e fe)(hg:Ol X tg g)(hs:swapsWithSole [tg] e pos.line X.env=pure false:=by rfl)(hw:swappedStores [tg] e X.env=pure none:=by rfl)
  (h1:(assignEach [tg] X.env).map (·.2)=[assign tg X.env]:=by rfl):Lx X (.Assign [tg] e pos) (cj fe g):=by
 intro pins s σ H J r S Q E I m;refine wpAny_Assign_stores (Qd he I m fun d S1 v s1 vx H1 J1 I1 rv r1 m1=>?_) hs hw;rw[h1];cases eg:g d r with
 |none=>rw[eg] at m1;exact m1.elim
 |some r'=>
  rw[eg] at m1;exact hg pins s1 σ H1 J1 r S1 d vx v _ E r' I1 rv r1 eg fun s' E4 H' J' a x=>m1 s' E4 H' J' a x
def gF(c:o_->M Bool)(b:EL):Nat->EL
 |0=>fun _ _=>none
 |n+1=>fun r S=>match c r S with
  |.ok true S1=>(match b r S1 with
   |some (.nx r',S')=>gF c b n r' S'
   |some (.ct r',S')=>gF c b n r' S'
   |some (.bk r',S')=>some (.nx r',S')
   |some (.rt d,S')=>some (.rt d,S')
   |_=>none)
  |.ok false S1=>some (.nx r,S1)
  |_=>none
theorem uJ{c:Expr}{body:List Stmt}{tc:o_->M Bool}{tb:EL}(n:Nat)(hc:LW X c tc)(hb:oX X body tb):Lx X (.While c body [] pos) (gF tc tb n):=by
 intro pins s σ H J r S Q E I m;refine wpAny_While (codeAny_whileLoop (fun k s'=>∃E4 H' J' r' S',At X pins E4 H' J' r' S' s'/\Ext H J H' J'/\JD X pins H J (gF tc tb k r' S') Q E) ?_ n ⟨σ,H,J,r,S,I,Ext.refl _ _,m⟩);rintro k s1 ⟨Py,H1,J1,r1,S1,I1,x1,m1⟩;cases k with
 |zero=>exact m1.elim
 |succ k=>
  refine hc pins s1 Py H1 J1 r1 S1 _ _ I1 ?_;unfold gF at m1;cases ec:tc r1 S1 with
  |bad=>rw[ec] at m1;exact m1.elim
  |exc c S2=>rw[ec] at m1;exact m1.elim
  |ok k2 S2=>
   rw[ec] at m1;rintro s2 ⟨H2,I2,J2,x2,Ie⟩;cases k2 with
   |false=>
    rw[if_neg Bool.false_ne_true];exact wpAny_execs_nil (m1 s2 Py H2 J2 ⟨I2,I1.loc.ext x2,Ie⟩ (x1.trans x2))
   |true=>
    rw[if_pos rfl];refine hb pins s2 Py H2 J2 r1 S2 _ _ ⟨I2,I1.loc.ext x2,Ie⟩ ?_;dsimp only at m1
    match eb:tb r1 S2 with
    |none=>rw[eb] at m1;exact m1.elim
    |some (.nx r',S')=>
     rw[eb] at m1;exact fun s' E4 H' J' a x=>⟨k,Nat.lt_succ_self _,E4,H',J',r',S',a,(x1.trans x2).trans x,m1⟩
    |some (.ct r',S')=>
     rw[eb] at m1;exact fun s' E4 H' J' a x=>⟨k,Nat.lt_succ_self _,E4,H',J',r',S',a,(x1.trans x2).trans x,m1⟩
    |some (.bk r',S')=>
     rw[eb] at m1;exact fun s' E4 H' J' a x=>m1 s' E4 H' J' a ((x1.trans x2).trans x)
    |some (.rt d,S')=>
     rw[eb] at m1;exact fun u s' E4 ⟨v,H',I',rv,g⟩=>m1 u s' E4 ⟨v,H',I',rv,g.ext (x1.trans x2)⟩
    |some (.xc c r',S')=>rw[eb] at m1;exact m1.elim
structure Wk where
 items:List D
 guard:Option (Nat×List D):=none
def Ig:Option (Nat×List D)->List Cell->Prop
 |none,_=>True
 |some (n,xs),S=>S[n]?=some (.lst xs)
def GG(K:PySem.W.Frag)(it:It)(w:Wk)(H0:Hp)(J0:List Addr):Prop:=∀(H:Hp) (J:List Addr) (S:List Cell),Ext H0 J0 H J->EB K H J S->Ig w.guard S->
 (∀i,i<w.items.length->it.go i H)/\it.stop w.items.length H/\
 ∀i x H',it.Vt i H x H'->∀d,w.items[i]?=some d->∃J',Ext H J H' J'/\EB K H' J' S/\r_ K H' J' d x
def LX(X:Cx)(pins:Ez)(σ:L2.St)(H:Hp)(J:List Addr)(tg:Expr)(x:R Wk)(Q:Value->Shared->Prop)(E:Value->Shared->Prop):Prop:=match x with
 |.ok w S'=>∀L6 s2,RF X pins σ tg (fun it H1=>∃J1,Ext H J H1 J1/\EB X.K H1 J1 S'/\Ig w.guard S'/\GG X.K it w H1 J1) L6 s2->Q L6 s2
 |.exc c S'=>∀e s',XP X pins σ c (HL X.K H J S') e s'->E e s'
 |.bad=>False
def PId(X:Cx)(tg iter:Expr)(f:o_->M Wk):Prop:=∀(pins:Ez) (s:Shared) (σ:L2.St) (H:Hp) (J:List Addr) (r:o_) (S:List Cell) (Q E:Value->Shared->Prop),
 At X pins σ H J r S s->LX X pins σ H J tg (f r S) Q E->wpAny (model X.prog X.w) X.A (eval iter X.env) (fun v s1=>wpAny (model X.prog X.w) X.A (pyIter v) Q E s1) E s
open Classical in
def iU(g:Option (Nat×List D))(tg:JE)(b:EL):List D->EL
 |[],r,S=>some (.nx r,S)
 |x :: xs,r,S=>match tg x r with
  |none=>none
  |some r1=>match b r1 S with
   |some (.nx r',S')=>if Ig g S' then iU g tg b xs r' S' else none
   |some (.ct r',S')=>if Ig g S' then iU g tg b xs r' S' else none
   |some (.bk r',S')=>some (.nx r',S')
   |some (.rt d,S')=>some (.rt d,S')
   |_=>none
def qI(f:o_->M Wk)(tg:JE)(b:EL):EL:=fun r=>cC (f r) r fun w S=>iU w.guard tg b w.items r S
theorem mY{tg iter:Expr}{body:List Stmt}{f:o_->M Wk}{g:JE}{tb:EL}(hc:X.calm=true)(hi:PId X tg iter f)(hg:Ol X tg g)(hb:oX X body tb)
  (hs:∀x,foldedSetIterable iter X.env x=pure x:=by intro _;rfl):Lx X (.For tg iter body [] pos) (qI f g tb):=by
 intro pins s σ H J r S Q E I m;refine wpAny_For (hi pins s σ H J r S _ E I ?_) hs;unfold qI cC at m;cases ef:f r S with
 |bad=>rw[ef] at m;exact m
 |exc c S1=>
  rw[ef] at m;exact fun x s' ⟨H',XI,J',ex,rs⟩=>m x s' σ H' J' XI (I.loc.ext ex) rs ex
 |ok w S1=>
  rw[ef] at m;dsimp only at m;rintro L6 s2 ⟨it,fp,tn,it0,H2,rfl,I2,T,RV,f2,J2,x2,Ie,gk,ok⟩;have Ly:∀{H':Hp},(∀b∈fp,H' b=none)->∀b∈fp,IM X pins H' b:=fun hn b hb=>⟨hn b hb,(f2 b hb).2⟩
  refine codeAny_forLoop_any (fun n s'=>∃i E4 H' J' r' S',At X pins E4 H' J' r' S' s'/\Ext H2 J2 H' J'/\tn i s'.heap/\(∀b∈fp,H' b=none)/\Ig w.guard S'/\n=w.items.length-i/\i<=w.items.length/\
   JD X pins H J (iU w.guard g tb (w.items.drop i) r' S') Q E) ?_ w.items.length ⟨0,σ,H2,J2,r,S1,⟨I2,I.loc.ext x2,Ie⟩,Ext.refl _ _,RV,fun b hb=>(f2 b hb).1,gk,by simp,Nat.zero_le _,by simpa using m⟩
  rintro n s3 ⟨i,K4,H3,J3,r3,S3,I3,x3,Qe,Qf,RW,rfl,OR,m3⟩;obtain⟨RX,MF,OS⟩:=ok H3 J3 S3 x3 I3.st RW;by_cases K5:i<w.items.length
  ·obtain⟨d,hd⟩:∃d,w.items[i]?=some d:=⟨w.items[i],by simp[K5]⟩;rw[List.drop_eq_getElem_cons K5] at m3;have JA:w.items[i]=d:=by
    rw[List.getElem?_eq_getElem K5] at hd;exact Option.some.inj hd
   rw[JA] at m3;unfold iU at m3;cases eg:g d r3 with
   |none=>rw[eg] at m3;exact m3.elim
   |some r4=>
    rw[eg] at m3;dsimp only at m3;refine Of (T.item X rfl rfl rfl hc i pins s3 K4 H3 _ I3.inv (Ly Qf) Qe (RX i K5)) fun rr s4 ⟨u,hr,h4⟩=>?_
    subst hr;refine Of h4 fun _ s5 ⟨x,H5,I5,r5,y5,OT,RY⟩=>?_
    obtain⟨J5,x5,RZ,R3⟩:=OS i x H5 y5 d hd;have R4:=I5.pinned (Ly RY) (T.obj _ _ OT);refine hg _ s5 K4 H5 J5 r3 S3 d x u _ _ r4 ⟨R4,I3.loc.ext x5,RZ⟩ R3 r5 eg fun s6 Pz H6 J6 I6 x6=>?_
    refine hb _ s6 Pz H6 J6 r4 S3 _ _ I6 ?_;have again:∀{r7:o_}{S7:List Cell}{OU:L2.St}{H7:Hp}{J7:List Addr}{s7:Shared},At X (pins++oR fp s5.heap) OU H7 J7 r7 S7 s7->Ext H6 J6 H7 J7->Ig w.guard S7->JD X pins H J (iU w.guard g tb (w.items.drop (i+1)) r7 S7) Q E->
      ∃m,m<w.items.length-i/\∃i E4 H' J' r' S',At X pins E4 H' J' r' S' s7/\Ext H2 J2 H' J'/\tn i s7.heap/\(∀b∈fp,H' b=none)/\Ig w.guard S'/\m=w.items.length-i/\i<=w.items.length/\JD X pins H J (iU w.guard g tb (w.items.drop i) r' S') Q E:=by
     intro r7 S7 OU H7 J7 s7 I7 x7 R5 m7;refine⟨w.items.length-(i+1),by omega,i+1,OU,H7,J7,r7,S7,⟨I7.inv.HZ,I7.loc,I7.st⟩,((x3.trans x5).trans x6).trans x7,T.keep _ _ _ OT fun b hb o e=>(I7.inv.pin (b,o) (List.mem_append_right _ (List.mem_append_right _ (ku hb e)))).1,fun b hb=>?_,R5,rfl,K5,m7⟩;obtain⟨o,e,d⟩:=T.obj _ _ OT b hb;exact(I7.inv.pin (b,o) (List.mem_append_right _ (List.mem_append_right _ (ku hb e)))).2.1
    match eb:tb r4 S3 with
    |none=>rw[eb] at m3;exact m3.elim
    |some (.nx r',S')=>
     rw[eb] at m3;dsimp only at m3;by_cases OV:Ig w.guard S'
     ·rw[if_pos OV] at m3;exact fun s' E4 H' J' a x=>again a x OV m3
     ·rw[if_neg OV] at m3;exact m3.elim
    |some (.ct r',S')=>
     rw[eb] at m3;dsimp only at m3;by_cases OV:Ig w.guard S'
     ·rw[if_pos OV] at m3;exact fun s' E4 H' J' a x=>again a x OV m3
     ·rw[if_neg OV] at m3;exact m3.elim
    |some (.bk r',S')=>
     rw[eb] at m3;exact fun s' E4 H' J' a x=>m3 s' E4 H' J' ⟨a.inv.HZ,a.loc,a.st⟩ ((((x2.trans x3).trans x5).trans x6).trans x)
    |some (.rt d',S')=>
     rw[eb] at m3;exact fun u s' E4 ⟨v,H',I',rv,g'⟩=>m3 u s' E4 ⟨v,H',I'.HZ,rv,g'.ext (((x2.trans x3).trans x5).trans x6)⟩
    |some (.xc c r',S')=>rw[eb] at m3;exact m3.elim
  ·have e:i=w.items.length:=by omega
   subst e;rw[List.drop_length] at m3;refine Of (T.done X rfl rfl rfl hc _ pins s3 K4 H3 _ I3.inv (Ly Qf) Qe MF) fun rr s4 ⟨hr,I4⟩=>?_
   subst hr;exact wpAny_execs_nil (m3 s4 K4 H3 J3 ⟨I4,I3.loc,I3.st⟩ (x2.trans x3))
end
end DL
namespace DL
open PySem PySem.Spec PyProof.Rows L2
section
variable{X:Cx}{tg:Expr}{e:Expr}{fe:o_->M D}{pos:Pos}
def iC:D->M Wk
 |.tup xs=>M.ret ⟨xs,none⟩
 |.FC xs=>M.ret ⟨xs,none⟩
 |.ob n=>fun S=>match S[n]? with
  |some (.lst xs)=>.ok ⟨xs,some (n,xs)⟩ S
  |_=>.bad
 |_=>M.bad
def Hd(f:o_->M D):o_->M Wk:=fun r=>(f r).bind iC
theorem GG.tup{K:PySem.W.Frag}{H:Hp}{J:List Addr}{a:Addr}{vs:List V}{xs:List D}{X:Cx}{pins:Ez}{σ:L2.St}{s:Shared}(I:Inv X pins σ H s)(hK:X.K=K)(hq:Hh K H a vs)(rv:j_ K H J xs vs):GG K (Vu K a) ⟨xs,none⟩ H J:=by
 intro H1 J1 S x rs _;have L9:=Hh.ext x hq;have GX:=rv.ext x;have hl:=GX.length;refine⟨fun i hi=>⟨vs,vs[i]'(by rw[hl];exact hi),L9,by simp⟩,⟨vs,L9,by rw[hl];exact Nat.le_refl _⟩,?_⟩;rintro i y H' ⟨rfl,hy⟩ d hd;obtain⟨v,h1,h2⟩:=GX.get hd;have:=hy vs L9;rw[h1] at this;cases this;exact⟨J1,Ext.refl _ _,rs,h2⟩
theorem GG.FC{K:PySem.W.Frag}{H:Hp}{J:List Addr}{a:Addr}{vs:List V}{xs:List D}(hq:Nh K H a vs)(rv:j_ K H J xs vs):GG K (RG K a) ⟨xs,none⟩ H J:=by
 intro H1 J1 S x rs _;have L9:=(Nh.ext x hq).sq;have GX:=rv.ext x;have hl:=GX.length;refine⟨fun i hi=>⟨vs,vs[i]'(by rw[hl];exact hi),L9,by simp⟩,⟨vs,L9,by rw[hl];exact Nat.le_refl _⟩,?_⟩;rintro i y H' ⟨rfl,hy⟩ d hd;obtain⟨v,h1,h2⟩:=GX.get hd;have:=hy vs L9;rw[h1] at this;cases this;exact⟨J1,Ext.refl _ _,rs,h2⟩
theorem GG.lst{K:PySem.W.Frag}{H:Hp}{J:List Addr}{a:Addr}{n:Nat}{xs:List D}(hn:J[n]?=some a):GG K (RG K a) ⟨xs,some (n,xs)⟩ H J:=by
 intro H1 J1 S x rs gk;have Xr:J1[n]?=some a:=by
  obtain⟨m,em⟩:=x.pre;rw[em,List.getElem?_append_left (List.getElem?_eq_some_iff.mp hn).1];exact hn
 obtain⟨vs,h1,GX⟩:=rs.at_ n _ a gk Xr;have L9:GD K H1 a vs:=GD.of h1;have hl:=GX.length;refine⟨fun i hi=>⟨vs,vs[i]'(by rw[hl];exact hi),L9,by simp⟩,⟨vs,L9,by rw[hl];exact Nat.le_refl _⟩,?_⟩;rintro i y H' ⟨rfl,hy⟩ d hd;obtain⟨v,h1,h2⟩:=GX.get hd;have:=hy vs L9;rw[h1] at this;cases this;exact⟨J1,Ext.refl _ _,rs,h2⟩
theorem eB(he:E_ X e fe):PId X tg e (Hd fe):=by
 intro pins s σ H J r S Q E I m;refine he pins s σ H J r S _ E I ?_;unfold Hd M.bind at m;cases e1:fe r S with
 |bad=>rw[e1] at m;exact m
 |exc c S1=>rw[e1] at m;exact m
 |ok x S1=>
  rw[e1] at m;dsimp only at m;rintro v s1 ⟨vx,H1,I1,r1,J1,ex,rs,rv⟩;cases x with
  |tup xs=>
   obtain⟨a,vs,rfl,hq,E7⟩:=rv.HM;cases r1;obtain⟨u_,rl,p,hz⟩:=I1.tuple hq;refine wpAny_pyIter_tuple (show s1.heap.IsTuple a u_.toArray from p) (m _ _ ?_);refine⟨s1.heap.objs.size,[s1.heap.objs.size],_,_,H1,rfl,I1.kept (t':=s1.toks) fun b o e=>Heap.get?_push_of_some _ e,wc a _,⟨_,Heap.get?_push_size _ rfl,rfl,rfl⟩,fun b hb=>?_,J1,ex,rs,trivial,GG.tup I1 rfl hq E7⟩;have e:b=s1.heap.objs.size:=by simpa using hb
   subst e;exact I1.L5 (Nat.le_refl _) (I1.EI.fresh (Nat.le_refl _))
  |FC xs=>
   obtain⟨a,vs,rfl,hq,E7⟩:=rv.Kl;cases r1;obtain⟨u_,rl,p,hz⟩:=I1.list hq.sq;refine wpAny_pyIter_list p.isList (m _ _ ?_);refine⟨s1.heap.objs.size,[s1.heap.objs.size],_,_,H1,rfl,I1.kept (t':=s1.toks) fun b o e=>Heap.get?_push_of_some _ e,sV a _,⟨_,Heap.get?_push_size _ rfl,rfl,rfl⟩,fun b hb=>?_,J1,ex,rs,trivial,GG.FC hq E7⟩;have e:b=s1.heap.objs.size:=by simpa using hb
   subst e;exact I1.L5 (Nat.le_refl _) (I1.EI.fresh (Nat.le_refl _))
  |ob n=>
   obtain⟨a,rfl,hn⟩:=rv.HN;cases r1;obtain⟨c,hc,rc⟩:=rs.Jd hn;simp only[iC] at m;rw[hc] at m;cases c with
   |lst xs=>
    obtain⟨vs,h1,E7⟩:=rc;obtain⟨u_,rl,p,hz⟩:=I1.list (GD.of h1);refine wpAny_pyIter_list p.isList (m _ _ ?_);refine⟨s1.heap.objs.size,[s1.heap.objs.size],_,_,H1,rfl,I1.kept (t':=s1.toks) fun b o e=>Heap.get?_push_of_some _ e,sV a _,⟨_,Heap.get?_push_size _ rfl,rfl,rfl⟩,fun b hb=>?_,J1,ex,rs,hc,GG.lst hn⟩;have e:b=s1.heap.objs.size:=by simpa using hb
    subst e;exact I1.L5 (Nat.le_refl _) (I1.EI.fresh (Nat.le_refl _))
   |_=>exact m.elim
  |_=>exact m.elim
def iO(lo c:Int)(n:Nat):List D:=(List.range n).map fun(i:Nat)=>D.int (lo+(i:Int) * c)
def Ar(lo c:Int)(n:Nat):It:=⟨fun i _=>i<n,fun i H x H'=>H'=H/\x=.int (lo+(i:Int) * c),fun i _=>n<=i⟩
theorem z5{lo c:Int}{n i:Nat}{d:D}(h:(iO lo c n)[i]?=some d):d=.int (lo+(i:Int) * c):=by
 unfold iO at h;rw[List.getElem?_map] at h;cases e:(List.range n)[i]? with
 |none=>rw[e] at h;cases h
 |some k=>
  rw[e] at h;obtain⟨h2,h3⟩:=List.getElem?_eq_some_iff.mp e;rw[List.getElem_range] at h3;subst h3;cases h;rfl
theorem GG.Pl{K:PySem.W.Frag}{H:Hp}{J:List Addr}(lo c:Int)(n:Nat):GG K (Ar lo c n) ⟨iO lo c n,none⟩ H J:=by
 intro H1 J1 S x rs _;have hl:(iO lo c n).length=n:=by simp[iO]
 refine⟨fun i hi=>by rw[hl] at hi;exact hi,by show n<=_;rw[hl];exact Nat.le_refl _,?_⟩;rintro i y H' ⟨rfl,rfl⟩ d hd;refine⟨J1,Ext.refl _ _,rs,?_⟩;rw[z5 hd];exact r_.int _ _ _ _
theorem yr{P:Program}{w:World}{K:PySem.W.Frag}{tg:Expr}(it:Addr)(lo c:Int)(n:Nat):Turn P w K tg (Ar lo c n) [it] it (fun i h=>IsRangeIter h it (lo+(i:Nat) * c) ((n:Int)-(i:Nat)) c) where
 mem:=by simp
 obj:=fun i h st b hb=>by
  have e:b=it:=by simpa using hb
  subst e;exact⟨_,st,fun v z=>by
   have z':Data.fields _=Data.cell v:=z;cases z'⟩
 keep:=fun i h h' st k=>k it (by simp) _ st
 item:=by
  intro X hP hw hK hc i pins s σ H E I hf st hg;subst hP hw hK;obtain⟨f0,f1,f2,f3,f4,f5⟩:=hf it (by simp);have W:=Walks.range (prog:=X.prog) (w:=X.w) (I.ok.hd hc) it lo c n;refine W.item i s _ _ hg st fun v h' tk hv Oh kk=>?_
  obtain⟨t,rfl⟩:=hv;have I1:Inv X pins σ H { s with heap:=h',toks:=tk }:=I.turned (fun b o hb e=>kk b o (by simpa using hb) e) f0 f1 f3 f4 f5;exact⟨_,rfl,yY (s:={ s with heap:=h',toks:=tk }) (n:="range_iterator") Oh rfl rfl (by decide) ⟨.int (lo+i * c),H,I1,⟨t,rfl⟩,⟨rfl,rfl⟩,Oh,fun b hb=>(hf b hb).1⟩⟩
 done:=by
  intro X hP hw hK hc i pins s σ H E I hf st hg;subst hP hw hK;obtain⟨f0,f1,f2,f3,f4,f5⟩:=hf it (by simp);exact wpAny_pyNext_range_end (I.ok.hd hc) st (by have:n<=i:=hg;omega) fun h' eb=>⟨rfl,I.turned (t':=s.toks) (fun b o hb e=>eb b o hb e) f0 f1 f3 f4 f5⟩
 self:=fun _ _ _ _ _ st h=>wpAny_pyIter_rangeiter st h
theorem zY{pins:Ez}{σ:L2.St}{H:Hp}{s:Shared}{Rr:It->Hp->Prop}{E:Value->Shared->Prop}{lo hi c:Int}{t u v:Tok}{tk:Nat}(I:Inv X pins σ H s)(hc:0<c)(Qg:Builtin.Range.small lo hi c=true)
  (q:Rr (Ar lo c (Builtin.Range.rangeSize lo hi c).toNat) H):wpAny (model X.prog X.w) X.A (pyIter (.ref s.heap.objs.size)) (RF X pins σ tg Rr) E { s with heap:=s.heap.push { cls:=.type "range",data:=.fields #[.int lo t,.int hi u,.int c v] },toks:=tk }:=by
 refine wpAny_pyIter_range (IsRange.new ..) Qg ?_;have I1:Inv X pins σ H { s with heap:=s.heap.push { cls:=.type "range",data:=.fields #[.int lo t,.int hi u,.int c v] },toks:=tk }:=I.kept fun b o e=>Heap.get?_push_of_some _ e
 refine⟨(s.heap.push { cls:=.type "range",data:=.fields #[.int lo t,.int hi u,.int c v] }).objs.size,[(s.heap.push { cls:=.type "range",data:=.fields #[.int lo t,.int hi u,.int c v] }).objs.size],_,_,H,rfl,
  I1.kept (t':=tk) fun b o e=>Heap.get?_push_of_some _ e,yr _ lo c (Builtin.Range.rangeSize lo hi c).toNat,?_,fun b hb=>?_,q⟩
 ·have e1:lo+((0:Nat):Int) * c=lo:=by simp
  have e2:(((Builtin.Range.rangeSize lo hi c).toNat:Nat):Int)-((0:Nat):Int)=Builtin.Range.rangeSize lo hi c:=by
   have:0<=Builtin.Range.rangeSize lo hi c:=by
    unfold Builtin.Range.rangeSize;rw[if_pos hc];split
    ·have:=Int.ediv_nonneg (a:=hi-lo-1) (b:=c) (by omega) (by omega);omega
    ·omega
   omega
  show IsRangeIter _ _ (lo+((0:Nat):Int) * c) ((((Builtin.Range.rangeSize lo hi c).toNat:Nat):Int)-((0:Nat):Int)) c;rw[e1,e2];exact Heap.get?_push_size _ rfl
 ·have e:b=(s.heap.push { cls:=.type "range",data:=.fields #[.int lo t,.int hi u,.int c v] }).objs.size:=by simpa using hb
  subst e;exact I1.L5 (Nat.le_refl _) (I1.EI.fresh (Nat.le_refl _))
def u7(lo hi c:Int):M Wk:=fun S=>G5 ((0<c/\c<1073741824)/\Builtin.Range.small lo hi c=true) (.ok ⟨iO lo c (Builtin.Range.rangeSize lo hi c).toNat,none⟩ S) .bad
def xp:D->M Wk
 |.int j=>u7 0 j 1
 |_=>M.bad
def vA:D->D->M Wk
 |.int i,.int j=>u7 i j 1
 |_,_=>M.bad
def sK(fa:o_->M D):o_->M Wk:=fun r=>(fa r).bind xp
def wZ(fa fb:o_->M D):o_->M Wk:=fun r=>(fa r).bind fun x=>(fb r).bind fun y=>vA x y
theorem LX.ext{pins:Ez}{σ:L2.St}{H H1:Hp}{J J1:List Addr}{x:R Wk}{Q:Value->Shared->Prop}{E:Value->Shared->Prop}(e:Ext H J H1 J1)(h:LX X pins σ H J tg x Q E):LX X pins σ H1 J1 tg x Q E:=by
 cases x with
 |ok w S=>exact fun L6 s2 ⟨it,fp,tn,it0,H2,a,b,c,d,f,J2,x2,g⟩=>h L6 s2 ⟨it,fp,tn,it0,H2,a,b,c,d,f,J2,e.trans x2,g⟩
 |exc c S=>exact fun u s' x=>h u s' (x.ext e)
 |bad=>exact h
theorem QW{es:List Expr}{ft:o_->M (List D)}(ha:KS X es ft){k:List D->M Wk}{pins:Ez}{s:Shared}{σ:L2.St}{H:Hp}{J:List Addr}{r:o_}{S:List Cell}{Q E:Value->Shared->Prop}{Q':List Value->Shared->Prop}(I:At X pins σ H J r S s)
  (m:LX X pins σ H J tg ((ft r).bind k S) Q E) (hk:∀xs S1 s1 H1 J1 vs us,At X pins σ H1 J1 r S1 s1->j_ X.K H1 J1 xs vs->Vals vs us->LX X pins σ H1 J1 tg (k xs S1) Q E->Q' us s1) (pos:Pos) :
  wpAny (model X.prog X.w) X.A (spliced (backTo pos (starEach es X.env))) Q' E s:=by
 refine ha pos pins s σ H J r S _ E I ?_;unfold M.bind at m;cases e1:ft r S with
 |bad=>rw[e1] at m;exact m
 |exc c S1=>rw[e1] at m;exact m
 |ok x S1=>
  rw[e1] at m;intro us s1 ⟨vs,H1,I1,r1,J1,Hj,Hy,GX⟩;exact hk x S1 s1 H1 J1 vs us ⟨I1,I.loc.ext Hj,Hy⟩ GX r1 (LX.ext Hj m)
def ug{α:Type}(f:D->M α):List D->M α
 |[x]=>f x
 |_=>M.bad
def AQ{α:Type}(f:D->D->M α):List D->M α
 |[x,y]=>f x y
 |_=>M.bad
theorem j_.Ih{K:PySem.W.Frag}{H:Hp}{J:List Addr}{x:D}{vs:List V}(h:j_ K H J [x] vs):∃v,vs=[v]/\r_ K H J x v:=by
 unfold j_ at h;obtain⟨v,t,rfl,h1,h2⟩:=h;unfold j_ at h2;subst h2;exact⟨v,rfl,h1⟩
theorem j_.NC{K:PySem.W.Frag}{H:Hp}{J:List Addr}{x y:D}{vs:List V}(h:j_ K H J [x,y] vs):∃v w,vs=[v,w]/\r_ K H J x v/\r_ K H J y w:=by
 unfold j_ at h;obtain⟨v,t,rfl,h1,h2⟩:=h;obtain⟨w,rfl,h3⟩:=j_.Ih h2;exact⟨v,w,rfl,h1,h3⟩
theorem xG{pins:Ez}{σ:L2.St}{H:Hp}{J:List Addr}{S:List Cell}{lo hi c:Int}{Q E:Value->Shared->Prop}(m:LX X pins σ H J tg (u7 lo hi c S) Q E)(rs:EB X.K H J S) :
  (0<c/\c<1073741824)/\Builtin.Range.small lo hi c=true/\∀L6 s2,RF X pins σ tg (fun it H1=>it=Ar lo c (Builtin.Range.rangeSize lo hi c).toNat/\H1=H) L6 s2->Q L6 s2:=by
 unfold u7 G5 at m;split at m
 ·rename_i h;refine⟨h.1,h.2,fun L6 s2 ⟨it,fp,tn,it0,H2,a,b,c,d,f,e1,e2⟩=>?_⟩;subst e1 e2;exact m L6 s2 ⟨it,fp,tn,_,_,a,b,c,d,f,J,Ext.refl _ _,rs,trivial,GG.Pl _ _ _⟩
 ·exact m.elim
theorem q7{a:Expr}{p:Pos}{fa:o_->M D}(hg:Gl X "range")(hm:X.mg "range"=none)(ha:E_ X a fa)(hs:starEach [a] X.env=[(false,eval a X.env)]:=by rfl):PId X tg (.Call (.Name "range" p) [a] [] pos) (sK fa):=by
 intro pins s σ H J r S Q E I m;have m':LX X pins σ H J tg ((ac fa ai r).bind (ug xp) S) Q E:=by
  unfold sK M.bind at m;unfold ac ai M.bind M.ret;cases e1:fa r S<;>(rw[e1] at m;exact m)
 refine Call_ (lS I.inv hg hm boot_range (PyProof.Rows.callWith_type1 (QW (af ha ah (by rw[hs];rfl)) I m' (fun xs S1 s1 H1 J1 vs us I1 rv r1 m1=>?_) pos) hs rfl))
 match xs,m1,rv with
 |[.int j],m1,rv=>
  obtain⟨v,rfl,h1⟩:=rv.Ih;cases h1.FO;cases r1 with
  |cons q qq=>
   cases qq;obtain⟨t,rfl⟩:=q;obtain⟨hc,Qg,k⟩:=xG m1 I1.st;exact call_range_1 (Of (zY I1.inv hc.1 Qg ⟨rfl,rfl⟩) k)
 |[],m1,rv=>exact m1.elim
 |[.B_],m1,rv=>exact m1.elim
 |[.bl _],m1,rv=>exact m1.elim
 |[.str _],m1,rv=>exact m1.elim
 |[.tup _],m1,rv=>exact m1.elim
 |[.FC _],m1,rv=>exact m1.elim
 |[.ob _],m1,rv=>exact m1.elim
 |[.xn _],m1,rv=>exact m1.elim
 |_ :: _ :: _,m1,rv=>exact m1.elim
theorem wH{a b:Expr}{p:Pos}{fa fb:o_->M D}(hg:Gl X "range")(hm:X.mg "range"=none)(ha:E_ X a fa)(hb:E_ X b fb)(hs:starEach [a,b] X.env=[(false,eval a X.env),(false,eval b X.env)]:=by rfl)
  (Kc:starEach [b] X.env=[(false,eval b X.env)]:=by rfl):PId X tg (.Call (.Name "range" p) [a,b] [] pos) (wZ fa fb):=by
 intro pins s σ H J r S Q E I m;have m':LX X pins σ H J tg ((ac fa (ac fb ai) r).bind (AQ vA) S) Q E:=by
  unfold wZ M.bind at m;unfold ac ai M.bind M.ret;cases e1:fa r S with
  |ok x S1=>
   rw[e1] at m;dsimp only at m ⊢;cases e2:fb r S1<;>(rw[e2] at m;exact m)
  |exc c S1=>rw[e1] at m;exact m
  |bad=>rw[e1] at m;exact m
 refine Call_ (lS I.inv hg hm boot_range (PyProof.Rows.callWith_type1 (QW (af ha (af hb ah (by rw[Kc];rfl)) (by rw[hs,Kc])) I m' (fun xs S1 s1 H1 J1 vs us I1 rv r1 m1=>?_) pos) (by rw[hs,Kc]) (by rw[Kc];rfl)))
 match xs,m1,rv with
 |[x,y],m1,rv=>
  obtain⟨v,w,rfl,h1,h2⟩:=rv.NC;cases x with
  |int i=>
   cases y with
   |int j=>
    cases h1.FO;cases h2.FO;obtain⟨u1,u2,rfl,q1,q2⟩:=Vals.two r1;obtain⟨t,rfl⟩:=q1;obtain⟨t',rfl⟩:=q2;obtain⟨hc,Qg,k⟩:=xG m1 I1.st;exact call_range_2 (Of (zY I1.inv hc.1 Qg ⟨rfl,rfl⟩) k)
   |_=>exact m1.elim
  |_=>exact m1.elim
 |[],m1,rv=>exact m1.elim
 |[_],m1,rv=>exact m1.elim
 |_ :: _ :: _ :: _,m1,rv=>exact m1.elim
end
end DL
namespace DL
open PySem PySem.Spec PyProof.Rows L2
def Oo(X:Cx)(scope:Scope)(N':List Str)(cl:List (Str×Addr))(C:Addr)(s2:Shared)(H2:Hp)(fp:List Addr):Cx where
 prog:=X.prog
 w:=X.w
 K:=X.K
 mg:=X.mg
 base:=X.base
 A:=X.A
 N:=N'
 Gk:=s2
 Mw:=H2
 env:=compEnvC scope cl C X.env
 outer:=X.stack
 stack:=X.stack
 ex:=fp
 fn:=fun _=>false
 calm:=X.calm
 pn:=[]
 xe:=fun _ _=>False
def iM{α:Type}(own:Nat)(caps:List Nat)(r:List (Option α)):List (Option α):=List.replicate own none++caps.map fun j=>(r[j]?).join
def IJ(X:Cx)(scope:Scope)(cl:List (Str×Addr)):List Nat->List Str->Prop
 |[],[]=>True
 |j :: js,x :: xs=>(X.N[j]?=some x/\(X.env.kindOf x=some .cell\/X.env.kindOf x=some .free)/\((relabel scope X.env).names.lookup x=some .cell\/(relabel scope X.env).names.lookup x=some .free)/\cl.lookup x=X.env.cells.lookup x)/\IJ X scope cl js xs
 |_,_=>False
theorem IJ.get{X:Cx}{scope:Scope}{cl:List (Str×Addr)}:∀{js:List Nat}{xs:List Str}{k:Nat}{j:Nat},IJ X scope cl js xs->js[k]?=some j->∃x,xs[k]?=some x/\X.N[j]?=some x/\
  (X.env.kindOf x=some .cell\/X.env.kindOf x=some .free)/\((relabel scope X.env).names.lookup x=some .cell\/(relabel scope X.env).names.lookup x=some .free)/\cl.lookup x=X.env.cells.lookup x
 |[],_,_,_,_,e=>by simp at e
 |_ :: _,[],_,_,h,_=>h.elim
 |j :: js,x :: xs,0,j',h,e=>by
  simp at e;subst e;obtain⟨⟨a,b,c,d⟩,_⟩:=h;exact⟨x,rfl,a,b,c,d⟩
 |j :: js,x :: xs,k+1,j',h,e=>by
  obtain⟨_,h⟩:=h;obtain⟨y,a,b⟩:=IJ.get (k:=k) h (by simpa using e);exact⟨y,by simpa using a,b⟩
theorem IJ.len{X:Cx}{scope:Scope}{cl:List (Str×Addr)}:∀{js:List Nat}{xs:List Str},IJ X scope cl js xs->xs.length=js.length
 |[],[],_=>rfl
 |[],_ :: _,h=>h.elim
 |_ :: _,[],h=>h.elim
 |j :: js,x :: xs,h=>by rw[List.length_cons,List.length_cons,IJ.len h.2]
theorem Hi.QX{K:PySem.W.Frag}{H:Hp}{J:List Addr}{r:o_}{σ:L2.St}(h:Hi K H J r σ)(own:Nat)(caps:List Nat):Hi K H J (iM own caps r) (iM own caps σ) where
 len:=by simp[iM]
 at_:=fun i d q=>by
  unfold iM at q ⊢;by_cases hi:i<own
  ·rw[List.getElem?_append_left (by simpa using hi),List.getElem?_replicate] at q;split at q<;>cases q
  ·rw[List.getElem?_append_right (by simpa using hi)] at q ⊢;simp only[List.length_replicate] at q ⊢;rw[List.getElem?_map] at q ⊢;cases e:caps[i-own]? with
   |none=>rw[e] at q;cases q
   |some j=>
    rw[e] at q;simp only[Option.map_some,Option.some.injEq] at q ⊢;obtain⟨v,h1,h2⟩:=h.at_ j d (by
     cases e2:r[j]? with
     |none=>rw[e2] at q;cases q
     |some o=>rw[e2] at q;simp at q;rw[q])
    exact⟨v,by rw[h1];rfl,h2⟩
theorem oN{X:Cx}{cl:List (Str×Addr)}(L_:∀p∈cl,X.env.cells.lookup p.1=some p.2){x:Str}{c:Addr}(h:cl.lookup x=some c):X.env.cells.lookup x=some c:=by
 induction cl with
 |nil=>simp at h
 |cons p r ih=>
  obtain⟨y,b⟩:=p;rw[List.lookup_cons] at h;cases e:x == y with
  |true=>
   rw[e] at h;simp at h;subst h;have:=beq_iff_eq.mp e;subst this;exact L_ (x,b) (by simp)
  |false=>
   rw[e] at h;exact ih (fun p hp=>L_ p (List.mem_cons_of_mem _ hp)) h
theorem nX{scope:Scope}{env:Env}{x:Str}{k:NameKind}(hk:k=.cell\/k=.free)(EZ:∀y∈scope.names,y.2≠.cell)(h:(relabel scope env).names.lookup x=some k):∃p∈scope.names,p.1=x/\p.2=.free:=by
 unfold relabel at h;dsimp only at h
 generalize scope.names=ns at h EZ
 induction ns with
 |nil=>simp at h
 |cons p r ih=>
  obtain⟨n,kk⟩:=p;rw[List.map_cons] at h;by_cases hc:(kk == NameKind.free && env.scope.kind == .function && env.kindOf n == some .cell)=true
  ·simp only[hc,if_true,List.lookup_cons] at h;cases e:x == n with
   |true=>
    have hx:=beq_iff_eq.mp e;simp only[Bool.and_eq_true,beq_iff_eq] at hc;exact⟨(n,kk),by simp,hx.symm,hc.1.1⟩
   |false=>
    rw[e] at h;obtain⟨p,hp,q⟩:=ih h fun y hy=>EZ y (List.mem_cons_of_mem _ hy)
    exact⟨p,List.mem_cons_of_mem _ hp,q⟩
  ·rw[if_neg hc,List.lookup_cons] at h;cases e:x == n with
   |true=>
    rw[e] at h;simp at h;have hx:=beq_iff_eq.mp e;rcases hk with rfl|rfl
    ·exact absurd h (EZ (n,kk) (by simp))
    ·exact⟨(n,kk),by simp,hx.symm,h⟩
   |false=>
    rw[e] at h;obtain⟨p,hp,q⟩:=ih h fun y hy=>EZ y (List.mem_cons_of_mem _ hy)
    exact⟨p,List.mem_cons_of_mem _ hp,q⟩
section
variable{X:Cx}{pins:Ez}{σ:L2.St}{H2:Hp}{s2:Shared}{scope:Scope}{own:List Str}{capN:List Str}{caps:List Nat}{cl:List (Str×Addr)}{fp:List Addr}
structure MG(X:Cx)(scope:Scope)(own capN:List Str)(caps:List Nat)(cl:List (Str×Addr)):Prop where
 R6:closureFor scope X.env=pure cl
 cells:∀p∈cl,X.env.cells.lookup p.1=some p.2
 frees:scope.names.all (fun p=>p.2 != .free || (cl.lookup p.1).isSome)=true
 Lz:∀y∈scope.names,y.2≠.cell
 kind:scope.kind=.function
 names:∀x∈scope.names,x.2=.local->scope.names.lookup x.1=some .local
 QX:IJ X scope cl caps capN
 nd:(own++capN).Nodup
theorem yI(B:MG X scope own capN caps cl)(I:Inv X pins σ H2 s2)(hf:∀b∈fp,IM X pins H2 b)(ho:∀b∈fp,∃o,s2.heap.get? b=some o){h':Heap}{tk:Nat}
  (IZ:h'.Ns (s2.heap.objs.size+1) fun _=>none) (R7:h'.get? s2.heap.objs.size=some { cls:=.type "list",data:=.seq #[] }) (keep:∀b o,s2.heap.get? b=some o->h'.get? b=some o) :
  Inv (Oo X scope (own++capN) cl (s2.heap.objs.size+1) s2 H2 fp) [] (iM own.length caps σ) (upd H2 s2.heap.objs.size (.lst [])) { s2 with heap:=h',toks:=tk }:=by
 have ND:H2 s2.heap.objs.size=none:=I.EI.fresh (Nat.le_refl _);have Oq:∀{b:Addr}{o:Obj},s2.heap.get? b=some o->b<s2.heap.objs.size:=fun e=>Heap.lt_size e
 have OW:∀x c,X.env.cells.lookup x=some c->c<s2.heap.objs.size:=fun x c e=>by
  obtain⟨v,hv⟩:=I.cell x c e;obtain⟨o,ho,_⟩:=hv;exact Oq ho
 have R8:Gq X.prog X.w (upd H2 s2.heap.objs.size (.lst [])) h':=I.EI.laid keep (Nat.le_refl _) ⟨Nat.zero_le _,[],0,.nil,R7⟩;refine⟨?_,rfl,I.bare,?_,?_,?_,?_,?_,?_,R8,?_⟩
 ·refine⟨I.ok.mod,B.kind,I.ok.glob,I.ok.blt,Nat.le_succ _,?_,?_,?_,I.ok.hd,I.ok.frames,.inl rfl,?_,I.bs,Nat.le_trans I.ok.Ml I.sz,?_,?_,I.stack,I.Kh⟩
  ·exact fun x y c h1 h2=>I.ok.inj x y c (oN B.cells h1) (oN B.cells h2)
  ·intro x hx;have:∃p∈scope.names,p.1=x/\p.2=.free:=by
    rcases hx with hx|hx
    ·exact nX (.inl rfl) B.Lz hx
    ·exact nX (.inr rfl) B.Lz hx
   obtain⟨p,hp,rfl,LP⟩:=this;have:=(List.all_eq_true.mp B.frees) p hp;rw[LP] at this;simp only[bne_self_eq_false,Bool.false_or] at this;exact Option.isSome_iff_exists.mp this
  ·exact fun x c h=>by cases h
  ·intro b hb;obtain⟨o,Lp⟩:=ho b hb;refine⟨Nat.ne_of_lt (Nat.lt_succ_of_lt (Oq Lp)),fun x c h=>(hf b hb).2.2.2.2.1 x c (oN B.cells h)⟩
  ·intro b o hb Qh;obtain⟨_,_,_,hx,_⟩:=hf b Qh;rcases hx with hx|hx
   ·exact I.ok.L4 b o hb hx
   ·exact absurd (Nat.lt_of_lt_of_le (Heap.lt_size hb) (Nat.le_trans I.ok.Ml hx)) (Nat.lt_irrefl _)
  ·intro b hb NB;obtain⟨_,hl,Xs,_⟩:=hf b hb;rcases List.mem_cons.mp (I.Kg b NB) with e|e
   ·exact hl e
   ·exact Xs e
 ·exact(Un.laid (o:=.lst []) keep (Nat.le_refl _) ND)
 ·refine⟨_,IZ,fun i x v hN hs hv=>?_⟩;unfold iM at hs;by_cases hi:i<own.length
  ·rw[List.getElem?_append_left (by simpa using hi),List.getElem?_replicate] at hs;split at hs<;>cases hs
  ·rw[List.getElem?_append_right (by simpa using hi)] at hs;have OX:(own++capN)[i]?=some x:=hN;rw[List.getElem?_append_right (by omega)] at OX;simp only[List.length_replicate] at hs;rw[List.getElem?_map] at hs;cases e:caps[i-own.length]? with
   |none=>rw[e] at hs;cases hs
   |some j=>
    rw[e] at hs;simp only[Option.map_some,Option.some.injEq] at hs;obtain⟨y,hy,Xt,VI,Xu,L_⟩:=B.QX.get e;rw[OX] at hy;cases hy;have Xv:σ[j]?=some (some v):=by
     cases e2:σ[j]? with
     |none=>rw[e2] at hs;cases hs
     |some o=>rw[e2] at hs;simp at hs;rw[hs]
    obtain⟨m,hm,hl⟩:=I.loc;obtain⟨u,ru,look⟩:=hl j x v Xt Xv (.inr VI);rcases look with ⟨hk,_⟩|⟨_,c,hc,EZ⟩
    ·rcases VI with hk'|hk'<;>(rw[hk] at hk';cases hk')
    ·refine⟨u,ru,.inr ⟨Xu,c,L_.trans hc,?_⟩⟩;obtain⟨o,ho,hd⟩:=EZ;exact⟨o,keep c o ho,hd⟩
 ·intro x c h;obtain⟨v,o,ho,hd⟩:=I.cell x c (oN B.cells h);exact⟨v,o,keep c o ho,hd⟩
 ·show upd H2 s2.heap.objs.size (.lst []) (s2.heap.objs.size+1)=none;rw[bu (Nat.succ_ne_self _)];exact I.EI.fresh (Nat.le_succ _)
 ·intro x c h;have h1:=oN B.cells h;rw[bu (Nat.ne_of_lt (OW x c h1))];exact I.Hc x c h1
 ·intro p hp;cases hp
 ·unfold iM;simp only[List.length_append,List.length_replicate,List.length_map];show own.length+caps.length=(own++capN).length;rw[List.length_append,B.QX.len]
end
end DL
namespace DL
open PySem PySem.Spec PyProof.Rows L2
def Qi(X:Cx)(ifs:List Expr)(f:o_->M Bool):Prop:=∀(pins:Ez) (s:Shared) (σ:L2.St) (H:Hp) (J:List Addr) (r:o_) (S:List Cell) (Q:Bool->Shared->Prop) (E:Value->Shared->Prop),
 At X pins σ H J r S s->Ln X pins σ H J (f r S) Q E->wpAny (model X.prog X.w) X.A (forIn ifs true fun c b=>if b=true then do let ok <-isTrue c X.env (eval c X.env);pure (ForInStep.yield ok) else pure (ForInStep.yield b)) Q E s
theorem jl{X:Cx}:Qi X [] (fun _=>M.ret true):=fun pins s σ H J r S Q E I m=>wpAny_tests_nil (m.Hk I)
theorem CH{X:Cx}{c:Expr}{f:o_->M Bool}(h:LW X c f):Qi X [c] f:=fun pins s σ H J r S Q E I m=>wpAny_tests_one (h pins s σ H J r S Q E I m)
open Classical in
def fu(tg:JE)(ti:o_->M Bool)(fe:o_->M D)(n:Nat)(g:Option (Nat×List D))(r0:o_):List D->List Cell->R Unit
 |[],S=>.ok () S
 |x :: xs,S=>match tg x r0 with
  |none=>.bad
  |some r1=>match ti r1 S with
   |.ok false S1=>if Ig g S1 then fu tg ti fe n g r0 xs S1 else .bad
   |.ok true S1=>(match fe r1 S1 with
    |.ok d S2=>(match S2[n]? with
     |some (.lst ys)=>G5 (ys.length<sizeLine/\Ig g (S2.set n (.lst (ys++[d])))) (fu tg ti fe n g r0 xs (S2.set n (.lst (ys++[d])))) .bad
     |_=>.bad)
    |_=>.bad)
   |_=>.bad
def eE(f:o_->M Wk)(tg:JE)(ti:o_->M Bool)(fe:o_->M D)(own:Nat)(caps:List Nat):o_->M D:=fun r=>(f r).bind fun w S=>match fu tg ti fe S.length w.guard (iM own caps r) w.items (S++[.lst []]) with
 |.ok _ S'=>.ok (.ob S.length) S'
 |_=>.bad
def sP(own:Nat)(tg:JE):Prop:=∀d r r',tg d r=some r'->r'.length=r.length/\∀i,own<=i->r'[i]?=r[i]?
theorem gn{own i:Nat}(h:i<own):sP own (gN i):=fun d r r' e=>by
 cases e;exact⟨by simp,fun j hj=>by rw[List.getElem?_set_ne (by omega)]⟩
theorem vf{own:Nat}:∀{is:List Nat},(∀i∈is,i<own)->∀{ds:List D}{r r':o_},Om is ds r=some r'->r'.length=r.length/\∀i,own<=i->r'[i]?=r[i]?
 |[],_,[],r,r',e=>by cases e;exact⟨rfl,fun _ _=>rfl⟩
 |[],_,_ :: _,r,r',e=>by cases e
 |i :: is,h,[],r,r',e=>by cases e
 |i :: is,h,d :: ds,r,r',e=>by
  obtain⟨a,b⟩:=vf (is:=is) (fun j hj=>h j (List.mem_cons_of_mem _ hj)) (show Om is ds (r.set i (some d))=some r' from e);refine⟨by rw[a];simp,fun j hj=>?_⟩;have:=h i (by simp);rw[b j hj,List.getElem?_set_ne (by omega)]
theorem As{own:Nat}{is:List Nat}(h:∀i∈is,i<own):sP own (gT is):=fun d r r' e=>by
 cases d with
 |tup ds=>exact vf h e
 |_=>cases e
theorem Hi.own{K:PySem.W.Frag}{H:Hp}{J:List Addr}{own:Nat}{caps:List Nat}{r r1:o_}{σ:L2.St}{tg:JE}{d:D}(ho:sP own tg)(e:tg d (iM own caps r)=some r1)(h:Hi K H J r1 σ):Hi K H J (iM own caps r) σ:=by
 obtain⟨a,b⟩:=ho _ _ _ e;refine⟨by rw[<-a];exact h.len,fun i d' q=>?_⟩;by_cases hi:i<own
 ·unfold iM at q;rw[List.getElem?_append_left (by simpa using hi),List.getElem?_replicate] at q;split at q<;>cases q
 ·exact h.at_ i d' (by rw[b i (by omega)];exact q)
section
variable{X:Cx}{elt target iter:Expr}{ifs:List Expr}{scope:Scope}{pos:Pos}{tg:JE}{ti:o_->M Bool}{fe:o_->M D}{own:Nat}{caps:List Nat}
theorem yJ(hc:X.calm=true)(hg:Ol X target tg)(ht:Qi X ifs ti)(he:E_ X elt fe)(MH:sP own tg){r:o_}{w:Wk}{it:Addr}{fp:List Addr}{tn:Nat->Heap->Prop}{it0:It}{H0:Hp}{J0:List Addr}{n:Nat}{acc:Addr}
  (T:Turn X.prog X.w X.K target it0 fp it tn) (ok:GG X.K it0 w H0 J0) (ND:J0[n]?=some acc) {RR:Result->Shared->Prop}{σ:L2.St}{S:List Cell}{s:Shared}{S':List Cell}(I:At X [] σ H0 J0 (iM own caps r) S s)
  (PA:∀b∈fp,IM X [] H0 b) (st:tn 0 s.heap) (gk:Ig w.guard S) (hr:fu tg ti fe n w.guard (iM own caps r) w.items S=.ok () S')
  (hR:∀s' E4 H' J',Inv X [] E4 H' s'->EB X.K H' J' S'->Ext H0 J0 H' J'->RR (.ok .next) s') :
  codeAny (model X.prog X.w) X.A (.compLoop (.ListComp elt [⟨target,iter,ifs,0⟩] scope pos) 0 (.ref it) (.ref acc) X.env) RR s:=by
 have Ly:∀{H':Hp},(∀b∈fp,H' b=none)->∀b∈fp,IM X [] H' b:=fun hn b hb=>⟨hn b hb,(PA b hb).2⟩
 refine codeAny_loop rfl (fun k s'=>∃i E4 H' J' S1,At X [] E4 H' J' (iM own caps r) S1 s'/\Ext H0 J0 H' J'/\tn i s'.heap/\(∀b∈fp,H' b=none)/\Ig w.guard S1/\k=w.items.length-i/\i<=w.items.length/\
  fu tg ti fe n w.guard (iM own caps r) (w.items.drop i) S1=.ok () S') ?_ w.items.length ⟨0,σ,H0,J0,S,I,Ext.refl _ _,st,fun b hb=>(PA b hb).1,gk,by simp,Nat.zero_le _,by simpa using hr⟩
 rintro k s3 ⟨i,K4,H3,J3,S3,I3,x3,Qe,Qf,RW,rfl,OR,m3⟩;show wpAny _ X.A ((compTurn (.ListComp elt [⟨target,iter,ifs,0⟩] scope pos) 0 (.ref it) (.ref acc) X.env).onRaise (fun x=>do noteFrame x X.env;theTreesLotGoes x)) _ _ s3;refine wpAny_noted ?_;rw[compTurn_list];refine wpAny_bind (wpAny_standAt (wpAny_bind ?_));obtain⟨RX,MF,OS⟩:=ok H3 J3 S3 x3 I3.st RW;by_cases K5:i<w.items.length
 ·obtain⟨d,hd⟩:∃d,w.items[i]?=some d:=⟨w.items[i],by simp[K5]⟩;rw[List.drop_eq_getElem_cons K5] at m3;have JA:w.items[i]=d:=by
   rw[List.getElem?_eq_getElem K5] at hd;exact Option.some.inj hd
  rw[JA] at m3;unfold fu at m3;cases eg:tg d (iM own caps r) with
  |none=>rw[eg] at m3;cases m3
  |some r4=>
   rw[eg] at m3;dsimp only at m3;refine Of (T.item X rfl rfl rfl hc i [] s3 K4 H3 _ I3.inv (Ly Qf) Qe (RX i K5)) fun rr s4 ⟨u,hr,h4⟩=>?_
   subst hr;refine wpAny_bind (Of h4 fun _ s5 ⟨x,H5,I5,r5,y5,OT,RY⟩=>?_);obtain⟨J5,x5,RZ,R3⟩:=OS i x H5 y5 d hd;have R4:=I5.pinned (Ly RY) (T.obj _ _ OT);refine wpAny_bind (hg _ s5 K4 H5 J5 (iM own caps r) S3 d x u _ _ r4 ⟨R4,I3.loc.ext x5,RZ⟩ R3 r5 eg fun s6 Pz H6 J6 I6 x6=>?_);have back:∀{OU:L2.St}{H7:Hp}{J7:List Addr}{S7:List Cell}{s7:Shared},At X ([]++oR fp s5.heap) OU H7 J7 r4 S7 s7->Ext H6 J6 H7 J7->Ig w.guard S7->fu tg ti fe n w.guard (iM own caps r) (w.items.drop (i+1)) S7=.ok () S'->
     ∃m,m<w.items.length-i/\∃i E4 H' J' S1,At X [] E4 H' J' (iM own caps r) S1 s7/\Ext H0 J0 H' J'/\tn i s7.heap/\(∀b∈fp,H' b=none)/\Ig w.guard S1/\m=w.items.length-i/\i<=w.items.length/\
      fu tg ti fe n w.guard (iM own caps r) (w.items.drop i) S1=.ok () S':=by
    intro OU H7 J7 S7 s7 I7 x7 R5 m7;refine⟨w.items.length-(i+1),by omega,i+1,OU,H7,J7,S7,⟨I7.inv.HZ,Hi.own MH eg I7.loc,I7.st⟩,((x3.trans x5).trans x6).trans x7,T.keep _ _ _ OT fun b hb o e=>(I7.inv.pin (b,o) (List.mem_append_right _ (List.mem_append_right _ (ku hb e)))).1,fun b hb=>?_,R5,rfl,K5,m7⟩;obtain⟨o,e,d⟩:=T.obj _ _ OT b hb;exact(I7.inv.pin (b,o) (List.mem_append_right _ (List.mem_append_right _ (ku hb e)))).2.1
   refine wpAny_bind (ht _ s6 Pz H6 J6 r4 S3 _ _ I6 ?_);cases et:ti r4 S3 with
   |bad=>rw[et] at m3;cases m3
   |exc c S4=>rw[et] at m3;cases m3
   |ok b S4=>
    rw[et] at m3;rintro s7 ⟨H7,I7,J7,x7,Xw⟩;have A7:At X ([]++oR fp s5.heap) Pz H7 J7 r4 S4 s7:=⟨I7,I6.loc.ext x7,Xw⟩;cases b with
    |false=>
     dsimp only at m3;by_cases g4:Ig w.guard S4
     ·rw[if_pos g4] at m3;exact wpAny_pure ⟨rfl,back A7 x7 g4 m3⟩
     ·rw[if_neg g4] at m3;cases m3
    |true=>
     dsimp only at m3;refine wpAny_bind (wpAny_bind (he _ s7 Pz H7 J7 r4 S4 _ _ A7 ?_));cases ee:fe r4 S4 with
     |bad=>rw[ee] at m3;cases m3
     |exc c S5=>rw[ee] at m3;cases m3
     |ok dv S5=>
      rw[ee] at m3;rintro v s8 ⟨vx,H8,I8,r8,J8,x8,VJ,Xx⟩;dsimp only at m3;have Ot:J8[n]?=some acc:=by
       obtain⟨m1,e1⟩:=((((x3.trans x5).trans x6).trans x7).trans x8).pre;rw[e1,List.getElem?_append_left (List.getElem?_eq_some_iff.mp ND).1];exact ND
      obtain⟨c8,Xy,Xz⟩:=VJ.Jd Ot;rw[Xy] at m3;cases c8 with
      |lst ys=>
       dsimp only at m3;by_cases g5:ys.length<sizeLine/\Ig w.guard (S5.set n (.lst (ys++[dv])))
       ·rw[cg g5] at m3;obtain⟨vs,VL,E7⟩:=Xz;refine wpAny_bind (wpAny_mono (sR (X:=X.EV (notedBy (model X.prog X.w) X.A X.env fun e s'=>RR (.error e) s')) _ s8 Pz H8 (.ref acc) [vx] (.ref acc) [v] (fun v' H9=>v'=.B_/\H9=upd H8 acc (.lst (vs++[vx]))) (I8.EV _) rfl (.cons r8 .nil)
         ⟨acc,vs,vx,rfl,rfl,VL,by rw[E7.length];exact g5.1,rfl,rfl⟩) (fun v' s9 q=>?_) fun _ _ z=>z)
        obtain⟨v9,H9,I9,r9,rfl,rfl⟩:=q;have x9:Ext H8 J8 (upd H8 acc (.lst (vs++[vx]))) J8:=Ext.write VL rfl;have XA:EB X.K (upd H8 acc (.lst (vs++[vx]))) J8 (S5.set n (.lst (ys++[dv]))):=VJ.write Ot ⟨_,bN,(E7.ext x9).append (.one (Xx.ext x9))⟩;exact wpAny_pure (wpAny_pure ⟨rfl,back ⟨I9.ET,(A7.loc.ext x8).ext x9,XA⟩ ((x7.trans x8).trans x9) g5.2 m3⟩)
       ·rw[uh g5] at m3;cases m3
      |_=>cases m3
 ·have e:i=w.items.length:=by omega
  subst e;rw[List.drop_length] at m3;cases m3;refine Of (T.done X rfl rfl rfl hc _ [] s3 K4 H3 _ I3.inv (Ly Qf) Qe MF) fun rr s4 ⟨hr,I4⟩=>?_
  subst hr;exact wpAny_pure (hR s4 K4 H3 J3 I4 I3.st x3)
end
section
variable{X:Cx}{elt target iter:Expr}{ifs:List Expr}{scope:Scope}{pos:Pos}{f:o_->M Wk}{tg:JE}{ti:o_->M Bool}{fe:o_->M D}{own capN:List Str}{caps:List Nat}{cl:List (Str×Addr)}
structure CompEnd(X:Cx)(pins:Ez)(σ:L2.St)(H:Hp)(J:List Addr)(n:Nat)(S':List Cell)(D C:Addr)(s':Shared):Prop where
 ex:∃H' J',Inv X pins σ H' s'/\Ext H J H' J'/\EB X.K H' J' S'/\J'[n]?=some D/\H' C=none/\C≠X.env.locals/\X.Gk.heap.objs.size<=C/\(∀x c,X.env.cells.lookup x=some c->c≠C)/\∀p∈X.pn++pins,p.1≠C
 ns:∃m,s'.heap.Ns C m
theorem yo(B:MG X scope own capN caps cl)(hc:X.calm=true)(MH:sP own.length tg)
  (hB:∀(C:Addr) (s2:Shared) (H2:Hp) (fp:List Addr),Ol (Oo X scope (own++capN) cl C s2 H2 fp) target tg/\Qi (Oo X scope (own++capN) cl C s2 H2 fp) ifs ti/\E_ (Oo X scope (own++capN) cl C s2 H2 fp) elt fe)
  {pins:Ez}{s2:Shared}{σ:L2.St}{H2:Hp}{J2:List Addr}{r:o_}{S:List Cell}{w:Wk}{S':List Cell}{RR:Value->Addr->Result->Shared->Prop}{E:Value->Shared->Prop}
  {it:Addr}{fp:List Addr}{tn:Nat->Heap->Prop}{it0:It}(I2:At X pins σ H2 J2 r S s2) (T:Turn X.prog X.w X.K target it0 fp it tn) (ok:GG X.K it0 w H2 J2) (PA:∀b∈fp,IM X pins H2 b) (st:tn 0 s2.heap) (gk:Ig w.guard S)
  (hr:fu tg ti fe S.length w.guard (iM own.length caps r) w.items (S++[.lst []])=.ok () S')
  (hR:∀D C s',CompEnd X pins σ H2 J2 S.length S' D C s'->RR (.ref D) C (.ok .next) s') :
  wpAny (model X.prog X.w) X.A (newList []) (fun acc R9=>wpAny (model X.prog X.w) X.A (newFunctionEnv scope X.env.globals cl [] X.env.qual none .none (some X.env)) (fun Qj R_=>
   codeAny (model X.prog X.w) X.A (.compStart (.ListComp elt [⟨target,iter,ifs,0⟩] scope pos) 0 (.ref it) acc { Qj with scope:=relabel scope X.env }) (RR acc Qj.locals) R_) E R9) E s2:=by
 refine wpAny_newObj_type (wpAny_newFunctionEnv B.Lz (by intro y hy;simp at hy) (fun Ma LB Km=>?_) B.kind);dsimp only at LB Km ⊢;have hsz:(s2.heap.push { cls:=.type "list",dict:=none,data:=.seq ([]:List Value).toArray }).objs.size=s2.heap.objs.size+1:=by rw[Heap.size_push]
 rw[hsz] at LB Km ⊢;have keep:∀b o,s2.heap.get? b=some o->Ma.get? b=some o:=fun b o e=>
  Km.extBut b o (Nat.ne_of_lt (Nat.lt_succ_of_lt (Heap.lt_size e))) (Heap.get?_push_of_some _ (Heap.get?_push_of_some _ e))
 have hl:Ma.get? s2.heap.objs.size=some { cls:=.type "list",data:=.seq #[] }:=Km.extBut _ _ (Nat.ne_of_lt (Nat.lt_succ_self _)) (Heap.get?_push_of_some _ (Heap.get?_push_size _ rfl));have VM:∀b∈fp,∃o,s2.heap.get? b=some o:=fun b hb=>let ⟨o,e,_⟩:=T.obj _ _ st b hb;⟨o,e⟩
 have PB:H2 s2.heap.objs.size=none:=I2.inv.EI.fresh (Nat.le_refl _);have IB:=yI (tk:=s2.toks+([]:List (Str×Value)).length) B I2.inv PA VM (by simpa using LB) hl keep;have VN:tn 0 Ma:=T.keep _ _ _ st fun b hb o e=>keep b o e
 obtain⟨hg,ht,he⟩:=hB (s2.heap.objs.size+1) s2 H2 fp;have x0:Ext H2 J2 (upd H2 s2.heap.objs.size (.lst [])) (J2++[s2.heap.objs.size]):=(Ext.new PB).snoc _;have XB:EB X.K (upd H2 s2.heap.objs.size (.lst [])) (J2++[s2.heap.objs.size]) (S++[.lst []]):=I2.st.push PB ⟨[],bN,.nil⟩;have loop:codeAny (model X.prog X.w) X.A (.compLoop (.ListComp elt [⟨target,iter,ifs,0⟩] scope pos) 0 (.ref it) (.ref s2.heap.objs.size) (compEnvC scope cl (s2.heap.objs.size+1) X.env)) (RR (.ref s2.heap.objs.size) (s2.heap.objs.size+1))
   { s2 with heap:=Ma,toks:=s2.toks+([]:List (Str×Value)).length }:=by
  refine yJ (X:=Oo X scope (own++capN) cl (s2.heap.objs.size+1) s2 H2 fp) (own:=own.length) (caps:=caps) (r:=r) (w:=w) (n:=S.length) hc hg ht he MH (H0:=upd H2 s2.heap.objs.size (.lst [])) (J0:=J2++[s2.heap.objs.size]) (it0:=it0) (fp:=fp) (tn:=tn) T
   ?_ ?_ (S:=S++[Cell.lst []]) ⟨IB,(I2.loc.ext x0).QX _ _,XB⟩ ?_ VN ?_ hr ?_
  ·exact fun H J S1 x rs g=>ok H J S1 (x0.trans x) rs g
  ·rw[<-I2.st.len];simp
  ·intro b hb;obtain⟨o,Lp⟩:=VM b hb;obtain⟨f0,f1,f2,f3,f4,f5⟩:=PA b hb;refine⟨by rw[bu (Nat.ne_of_lt (Heap.lt_size Lp))];exact f0,Nat.ne_of_lt (Nat.lt_succ_of_lt (Heap.lt_size Lp)),?_,.inl hb,fun x c h=>f4 x c (oN B.cells h),fun p hp=>by cases hp⟩;intro NB;rcases List.mem_cons.mp (I2.inv.Kg b NB) with e|e
   ·exact f1 e
   ·exact f2 e
  ·cases eg:w.guard with
   |none=>trivial
   |some q=>
    obtain⟨k,xs⟩:=q;rw[eg] at gk;show(S++[Cell.lst []])[k]?=_;rw[List.getElem?_append_left (List.getElem?_eq_some_iff.mp gk).1];exact gk
  ·intro s' E4 H' J' I' MI x';refine hR _ _ s' ⟨⟨H',J',?_,x0.trans x',MI,?_,I'.free,?_,?_,?_,?_⟩,?_⟩
   ·refine I2.inv.Oe (ch:=fp) I'.os I'.base I'.EI I'.bare fun b hb=>?_
    obtain⟨f0,f1,f2,f3,f4,f5⟩:=PA b hb;exact⟨f3,f1,f4,f5⟩
   ·obtain⟨m,em⟩:=x'.pre;rw[em,List.getElem?_append_left (by rw[List.length_append,I2.st.len];simp),<-I2.st.len];simp
   ·exact(Nat.ne_of_lt (Nat.lt_succ_of_lt I2.inv.lt)).symm
   ·exact Nat.le_trans I2.inv.sz (Nat.le_succ _)
   ·intro x c h;obtain⟨v,o,ho,_⟩:=I2.inv.cell x c h;exact Nat.ne_of_lt (Nat.lt_succ_of_lt (Heap.lt_size ho))
   ·intro p hp;obtain⟨h1,_⟩:=I2.inv.pin p hp;exact Nat.ne_of_lt (Nat.lt_succ_of_lt (Heap.lt_size h1))
   ·obtain⟨m,hm,_⟩:=I'.loc;exact⟨m,hm⟩
 exact codeAny_compStart_list loop (T.self _ 0 _ _ _ VN loop)
theorem CompEnd.OY{pins:Ez}{σ:L2.St}{H:Hp}{J:List Addr}{n:Nat}{S':List Cell}{D C:Addr}{s':Shared}(h:CompEnd X pins σ H J n S' D C s'){h':Heap}(hs:Heap.SameBut C s'.heap h') :
  ∃H' J',Inv X pins σ H' { s' with heap:=h' }/\Ext H J H' J'/\EB X.K H' J' S'/\J'[n]?=some D:=by
 obtain⟨H',J',I,x,rs,hn,f0,f1,f2,f3,f4⟩:=h.ex;exact⟨H',J',I.turned (t':=s'.toks) (fun b o hb e=>(hs.2 b hb).trans e) f0 f1 (.inr f2) f3 f4,x,rs,hn⟩
theorem fF(B:MG X scope own capN caps cl)(hc:X.calm=true)(hi:PId X target iter f)(MH:sP own.length tg)
  (hB:∀(C:Addr) (s2:Shared) (H2:Hp) (fp:List Addr),Ol (Oo X scope (own++capN) cl C s2 H2 fp) target tg/\Qi (Oo X scope (own++capN) cl C s2 H2 fp) ifs ti/\E_ (Oo X scope (own++capN) cl C s2 H2 fp) elt fe)
  (hs:∀x,foldedSetIterable iter X.env x=pure x:=by intro _;rfl) :
  E_ X (.ListComp elt [⟨target,iter,ifs,0⟩] scope pos) (eE f tg ti fe own.length caps):=by
 intro pins s σ H J r S Q E I m;rw[eval_ListComp];refine wpAny_comprehension_free (use:=none) rfl hs B.R6 B.kind B.names (hi pins s σ H J r S _ E I ?_);unfold eE M.bind at m;cases ef:f r S with
 |bad=>rw[ef] at m;exact m
 |exc c S1=>rw[ef] at m;exact m
 |ok w S1=>
  rw[ef] at m;dsimp only at m;rintro L6 s2 ⟨it,fp,tn,it0,H2,rfl,I2,T,RV,f2,J2,x2,Ie,gk,ok⟩;cases er:fu tg ti fe S1.length w.guard (iM own.length caps r) w.items (S1++[.lst []]) with
  |bad=>rw[er] at m;exact m.elim
  |exc c S3=>rw[er] at m;exact m.elim
  |ok uu S'=>
   rw[er] at m;refine yo (RR:=fun acc C=>compPost (model X.prog X.w) X.A E none Q acc C) B hc MH hB ⟨I2,I.loc.ext x2,Ie⟩ T ok f2 RV gk er fun D C s' ce=>?_
   obtain⟨mC,XC⟩:=ce.ns;refine⟨mC,XC,fun h' OZ=>?_⟩;obtain⟨H',J',I',x',MI,hn⟩:=ce.OY OZ;exact m _ _ ⟨.ref D,H',I',rfl,J',x2.trans x',MI,.ob hn⟩
end
end DL
namespace DL
open PySem PySem.Spec PyProof.Rows L2
mutual
def FY(n:Nat):D->Prop
 |.tup xs=>jJ n xs
 |.FC xs=>jJ n xs
 |.ob k=>k<n
 |_=>True
def jJ(n:Nat):List D->Prop
 |[]=>True
 |x :: xs=>FY n x/\jJ n xs
end
section
variable{K:PySem.W.Frag}{H:Hp}{J m:List Addr}
mutual
theorem r_.wf:∀{d:D}{v:V},r_ K H J d v->FY J.length d
 |.B_,_,_=>by unfold FY;trivial
 |.bl _,_,_=>by unfold FY;trivial
 |.int _,_,_=>by unfold FY;trivial
 |.str _,_,_=>by unfold FY;trivial
 |.xn _,_,_=>by unfold FY;trivial
 |.tup xs,_,h=>by
  obtain⟨a,vs,_,_,h⟩:=h.HM;unfold FY;exact j_.wf h
 |.FC xs,_,h=>by
  obtain⟨a,vs,_,_,h⟩:=h.Kl;unfold FY;exact j_.wf h
 |.ob k,_,h=>by
  obtain⟨a,_,h⟩:=h.HN;unfold FY;exact(List.getElem?_eq_some_iff.mp h).1
theorem j_.wf:∀{xs:List D}{vs:List V},j_ K H J xs vs->jJ J.length xs
 |[],_,_=>by unfold jJ;trivial
 |x :: xs,_,h=>by
  unfold j_ at h;obtain⟨v,r,_,h1,h2⟩:=h;unfold jJ;exact⟨r_.wf h1,j_.wf h2⟩
end
mutual
theorem r_.shrink:∀{d:D}{v:V},FY J.length d->r_ K H (J++m) d v->r_ K H J d v
 |.B_,_,_,h=>by unfold r_ at h ⊢;exact h
 |.bl _,_,_,h=>by unfold r_ at h ⊢;exact h
 |.int _,_,_,h=>by unfold r_ at h ⊢;exact h
 |.str _,_,_,h=>by unfold r_ at h ⊢;exact h
 |.xn _,_,_,h=>by unfold r_ at h ⊢;exact h
 |.tup xs,_,w,h=>by
  unfold FY at w;unfold r_ at h ⊢;obtain⟨a,vs,h1,h2,h3⟩:=h;exact⟨a,vs,h1,h2,j_.shrink w h3⟩
 |.FC xs,_,w,h=>by
  unfold FY at w;unfold r_ at h ⊢;obtain⟨a,vs,h1,h2,h3⟩:=h;exact⟨a,vs,h1,h2,j_.shrink w h3⟩
 |.ob k,_,w,h=>by
  unfold FY at w;unfold r_ at h ⊢;obtain⟨a,h1,h2⟩:=h;rw[List.getElem?_append_left w] at h2;exact⟨a,h1,h2⟩
theorem j_.shrink:∀{xs:List D}{vs:List V},jJ J.length xs->j_ K H (J++m) xs vs->j_ K H J xs vs
 |[],_,_,h=>by unfold j_ at h ⊢;exact h
 |x :: xs,_,w,h=>by
  unfold jJ at w;unfold j_ at h ⊢;obtain⟨v,r,h1,h2,h3⟩:=h;exact⟨v,r,h1,r_.shrink w.1 h2,j_.shrink w.2 h3⟩
end
def B9{κ:Type}(n:Nat)(xs:List (κ×D)):Prop:=∀p∈xs,FY n p.2
theorem Eu.wf{κ:Type}:∀{xs:List (κ×D)}{ws:List (κ×V)},Eu K H J xs ws->B9 J.length xs
 |[],_,_=>fun p hp=>by cases hp
 |(k,d) :: r,ws,h=>by
  obtain⟨v,t,_,h1,h2⟩:=h;intro p hp;rcases List.mem_cons.mp hp with rfl|hp
  ·exact h1.wf
  ·exact Eu.wf h2 p hp
theorem Eu.shrink{κ:Type}:∀{xs:List (κ×D)}{ws:List (κ×V)},B9 J.length xs->Eu K H (J++m) xs ws->Eu K H J xs ws
 |[],_,_,h=>h
 |(k,d) :: r,ws,w,h=>by
  obtain⟨v,t,h0,h1,h2⟩:=h;exact⟨v,t,h0,h1.shrink (w (k,d) (by simp)),Eu.shrink (fun p hp=>w p (List.mem_cons_of_mem _ hp)) h2⟩
def O0(n:Nat):Cell->Prop
 |.lst xs=>jJ n xs
 |.FN kvs=>B9 n kvs
 |.ins _ _ ds=>jJ n ds
theorem HK.wf{c:Cell}{a:Addr}(h:HK K H J c a):O0 J.length c:=by
 cases c with
 |lst xs=>obtain⟨vs,_,r⟩:=h;exact r.wf
 |FN xs=>obtain⟨vs,_,r⟩:=h;exact r.wf
 |ins C ns ds=>obtain⟨dx,vs,_,_,r⟩:=h;exact r.wf
theorem HK.shrink{c:Cell}{a:Addr}(w:O0 J.length c)(h:HK K H (J++m) c a):HK K H J c a:=by
 cases c with
 |lst xs=>obtain⟨vs,e,r⟩:=h;exact⟨vs,e,r.shrink w⟩
 |FN xs=>obtain⟨vs,e,r⟩:=h;exact⟨vs,e,r.shrink w⟩
 |ins C ns ds=>obtain⟨dx,vs,e,q,r⟩:=h;exact⟨dx,vs,e,q,r.shrink w⟩
theorem EB.wf{S:List Cell}(h:EB K H J S){n:Nat}{c:Cell}(hn:S[n]?=some c):O0 S.length c:=by
 obtain⟨a,_,r⟩:=h.cell hn;rw[<-h.len];exact r.wf
theorem EB.shrink{S G:List Cell}{J':List Addr}(h:EB K H J' (S++G))(hw:∀(n:Nat) c,S[n]?=some c->O0 S.length c):EB K H (J'.take S.length) S:=by
 have hl:=h.len;rw[List.length_append] at hl;have hj:(J'.take S.length).length=S.length:=by rw[List.length_take];omega
 refine⟨hj,h.nd.sublist (List.take_sublist _ _),fun n c a hc ha=>?_⟩;have hn:=(List.getElem?_eq_some_iff.mp hc).1;have XD:J'[n]?=some a:=by
  rw[List.getElem?_take] at ha;rw[if_pos hn] at ha;exact ha
 have r:=h.at_ n c a (by rw[List.getElem?_append_left hn];exact hc) XD;have w:=hw n c hc;rw[<-hj] at w;rw[<-List.take_append_drop S.length J'] at r;exact r.shrink w
theorem Got.drop{H':Hp}{S0 S G:List Cell}{d:D}{v:V}(h:Got K H J d (S++G) v H')(r0:EB K H J S0)(hl:S0.length<=S.length)(hd:FY S.length d)(hw:∀(n:Nat) c,S[n]?=some c->O0 S.length c):Got K H J d S v H':=by
 obtain⟨J',x,rs,rv⟩:=h;have hlen:=rs.len;rw[List.length_append] at hlen;have hj:(J'.take S.length).length=S.length:=by rw[List.length_take];omega
 refine⟨J'.take S.length,⟨x.st,?_⟩,rs.shrink hw,?_⟩
 ·obtain⟨more,e⟩:=x.pre;refine⟨more.take (S.length-J.length),?_⟩;rw[e,List.take_append,List.take_of_length_le (by rw[r0.len];exact hl)]
 ·rw[<-hj] at hd;rw[<-List.take_append_drop S.length J'] at rv;exact rv.shrink hd
end
def Cj(S0:List Cell)(x:Lo)(y:R D):Prop:=match y with
 |.ok d S'=>∃G,(G=[]\/(S0.length<=S'.length/\FY S'.length d/\(S'=S0\/∀(n:Nat) c,S'[n]?=some c->O0 S'.length c)))/\(x=some (.rt d,S'++G)\/(d=.B_/\∃r',x=some (.nx r',S'++G)))
 |.exc c S'=>∃r',x=some (.xc c r',S')
 |.bad=>True
def zu(CX:Iz)(X:Cx)(E:XK):Prop:=∀(σ:L2.St) (H':Hp) (s':Shared) (e:Value) (c:Addr),Ny X [] σ H' s' e c->(∀p o,H' p=none->E (.ref c) none (upd H' p o))->X.xe e s'
section
variable{P:Program}{w:World}{K:PySem.W.Frag}{mg:Str->Option Value}{base:Heap}{CX:Iz}
theorem qy{x qual:Str}{st:Stmt}{f:Addr}{fd:FuncData}{N ps:List Str}{k:Nat}{F:List D->M D}(hF:Fj K x qual st f fd)(S:m_ N ps (h_ st))
  (O1:∀(EC:Value) (A:Around) (outer:List Env) (s:Shared) (H:Hp) (E:XK),zu CX (pr CX P w K mg base N qual (h_ st) f EC A outer s H E) E)
  (KZ:∀(EC:Value) (A:Around) (outer:List Env) (s:Shared) (H:Hp) (E:XK),FL k (A.deeper (envOfC qual (h_ st) s.heap.objs.size f EC))->
   ∃t,oX (pr CX P w K mg base N qual (h_ st) f EC A outer s H E) (Fm st) t/\∀xs S0,xs.length=ps.length->Cj S0 (t (xs.map some++List.replicate (N.length-xs.length) none) S0) (F xs S0)) :
  Fq P w K mg base CX (k+1) f fd ps F:=by
 obtain⟨oc,od,kV,doc,pm,an,EC,ct,Mn,rfl,lk,Lk⟩:=hF.ex;refine BN lk Lk S (fun vs H Q E h=>h.1) (fun A outer s H vs Q E hr h=>?_);obtain⟨hlen,J,xs,S0,rx,rs,h⟩:=h;obtain⟨t,ht,Sa⟩:=KZ EC A outer s H E hr;have hl:xs.length=ps.length:=by rw[<-rx.length];exact hlen
 have he:=Sa xs S0 hl;refine⟨fun D σ H'=>D = { nx:=fun _ H'=>Q .B_ H',rt:=Q }/\σ=L2.start N vs/\H'=H,?_,rfl,rfl,rfl⟩;rintro pins s1 Py H1 D1 I1 ⟨rfl,rfl,rfl⟩;refine ht pins s1 _ _ J _ S0 _ _ ⟨I1,Hi.start rx,rs⟩ ?_;have XE:∀(n:Nat) c,S0[n]?=some c->O0 S0.length c:=fun n c h=>rs.wf h
 cases ef:F xs S0 with
 |bad=>rw[ef] at h;exact h.elim
 |ok d S'=>
  rw[ef] at he h;dsimp only at h;obtain⟨G,hG,hx⟩:=he;have fin:∀{v:V}{H':Hp},Got K H1 J d (S'++G) v H'->Q v H':=fun {v H'} g=>by
   rcases hG with rfl|⟨h1,h2,h3⟩
   ·rw[List.append_nil] at g;exact h v H' g
   ·refine h v H' (g.drop rs h1 h2 ?_);rcases h3 with rfl|h3
    ·exact XE
    ·exact h3
  rcases hx with hx|⟨rfl,r',hx⟩
  ·rw[hx];exact fun u s' E4 ⟨v,H',I',rv,g⟩=>⟨v,E4,H',I',rv,fin g⟩
  ·rw[hx];exact fun s' E4 H' J' a x=>⟨E4,H',a.inv,fin ⟨J',x,a.st,r_.B_ _ _ _⟩⟩
 |exc c S'=>
  rw[ef] at he h;dsimp only at h;obtain⟨r',hx⟩:=he;rw[hx];exact fun e s' E4 H' J' XI rl MI x=>O1 EC A outer s H1 E E4 H' s' e c ⟨XI.inv.Ki (fun p hp=>(nomatch hp)),XI.Xn⟩ (fun p o hp=>h (upd H' p o) ⟨J',x.trans (Ext.new hp),MI.new hp⟩)
end
end DL
namespace DL
open PySem PySem.Spec PyProof.Rows L2
mutual
def pD(S:List Cell):Nat->D->Option PyData
 |0,_=>none
 |n+1,.B_=>some .none
 |n+1,.bl b=>some (.bool b)
 |n+1,.int i=>some (.int i)
 |n+1,.str x=>if PyData.canLay0 (.str x)=true then some (.str x) else none
 |n+1,.tup xs=>(Ii S n xs).map .tuple
 |n+1,.FC xs=>(Ii S n xs).map .list
 |n+1,.ob k=>match S[k]? with
  |some (.lst xs)=>(Ii S n xs).map .list
  |_=>none
 |n+1,.xn _=>none
def Ii(S:List Cell)(n:Nat):List D->Option (List PyData)
 |[]=>some []
 |x :: xs=>match pD S n x,Ii S n xs with
  |some p,some ps=>some (p :: ps)
  |_,_=>none
end
section
variable{X:Cx}{pins:Ez}{σ:L2.St}{H:Hp}{J:List Addr}{S:List Cell}{s:Shared}
mutual
theorem lv(I:Inv X pins σ H s)(rs:EB X.K H J S):∀{n:Nat}{d:D}{v:V}{u:Value}{p:PyData},r_ X.K H J d v->RelV v u->pD S n d=some p->(∃as,Reads s.heap u p as)/\p.canLay0=true/\p.depth<=n
 |0,_,_,_,_,_,_,e=>by unfold pD at e;cases e
 |n+1,.B_,_,_,_,rv,r,e=>by
  cases rv.Lv;cases r;unfold pD at e;cases e;exact⟨⟨_,.none⟩,rfl,Nat.zero_le _⟩
 |n+1,.bl b,_,_,_,rv,r,e=>by
  cases rv.Ni;cases r;unfold pD at e;cases e;exact⟨⟨_,.bool b⟩,rfl,Nat.zero_le _⟩
 |n+1,.int i,_,_,_,rv,r,e=>by
  cases rv.FO;obtain⟨t,rfl⟩:=r;unfold pD at e;cases e;exact⟨⟨_,.int i t⟩,rfl,Nat.zero_le _⟩
 |n+1,.str x,_,_,_,rv,r,e=>by
  cases rv.ME;obtain⟨t,rfl⟩:=r;unfold pD at e;split at e
  ·rename_i h;cases e;exact⟨⟨_,.str x t⟩,h,Nat.zero_le _⟩
  ·cases e
 |n+1,.tup xs,_,_,_,rv,r,e=>by
  obtain⟨a,vs,rfl,hq,E7⟩:=rv.HM;cases r;obtain⟨u_,rl,⟨o,ho,hc,k,hd⟩,hz⟩:=I.tuple hq;unfold pD at e;cases ep:Ii S n xs with
  |none=>rw[ep] at e;cases e
  |some ps=>
   rw[ep] at e;cases e;obtain⟨⟨as,h1⟩,h2,h3⟩:=jw I rs E7 rl ep;exact⟨⟨_,.tuple ho hc hd (by simpa using h1)⟩,h2,Nat.succ_le_succ h3⟩
 |n+1,.FC xs,_,_,_,rv,r,e=>by
  obtain⟨a,vs,rfl,hq,E7⟩:=rv.Kl;cases r;obtain⟨u_,rl,pl,hz⟩:=I.list hq.sq;obtain⟨o,ho,hc,k,hd⟩:=pl.isList;unfold pD at e;cases ep:Ii S n xs with
  |none=>rw[ep] at e;cases e
  |some ps=>
   rw[ep] at e;cases e;obtain⟨⟨as,h1⟩,h2,h3⟩:=jw I rs E7 rl ep;exact⟨⟨_,.list ho hc hd (by simpa using h1)⟩,h2,Nat.succ_le_succ h3⟩
 |n+1,.ob k,_,_,_,rv,r,e=>by
  obtain⟨a,rfl,hn⟩:=rv.HN;cases r;obtain⟨c,hc,rc⟩:=rs.Jd hn;unfold pD at e;rw[hc] at e;cases c with
  |lst xs=>
   obtain⟨vs,hv,E7⟩:=rc;obtain⟨u_,rl,pl,hz⟩:=I.list (GD.of hv);obtain⟨o,ho,hc,k,hd⟩:=pl.isList;dsimp only at e;cases ep:Ii S n xs with
   |none=>rw[ep] at e;cases e
   |some ps=>
    rw[ep] at e;cases e;obtain⟨⟨as,h1⟩,h2,h3⟩:=jw I rs E7 rl ep;exact⟨⟨_,.list ho hc hd (by simpa using h1)⟩,h2,Nat.succ_le_succ h3⟩
  |_=>cases e
 |n+1,.xn c,_,_,_,_,_,e=>by unfold pD at e;cases e
theorem jw(I:Inv X pins σ H s)(rs:EB X.K H J S):∀{n:Nat}{xs:List D}{vs:List V}{us:List Value}{ps:List PyData},j_ X.K H J xs vs->Vals vs us->Ii S n xs=some ps->(∃as,ReadsAll s.heap us ps as)/\PyData.canLayAll0 ps=true/\PyData.depthAll ps<=n
 |n,[],_,_,_,rv,r,e=>by
  unfold j_ at rv;subst rv;cases r;unfold Ii at e;cases e;exact⟨⟨_,.nil⟩,rfl,Nat.zero_le _⟩
 |n,x :: xs,_,_,_,rv,r,e=>by
  unfold j_ at rv;obtain⟨v,t,rfl,h1,h2⟩:=rv;cases r with
  |cons q qs=>
   unfold Ii at e;cases e1:pD S n x with
   |none=>rw[e1] at e;cases e
   |some p=>
    cases e2:Ii S n xs with
    |none=>rw[e1,e2] at e;cases e
    |some ps=>
     rw[e1,e2] at e;cases e;obtain⟨⟨as,a1⟩,a2,a3⟩:=lv I rs h1 q e1;obtain⟨⟨bs,b1⟩,b2,b3⟩:=jw I rs h2 qs e2;refine⟨⟨_,.cons a1 b1⟩,?_,?_⟩
     ·simp[PyData.canLayAll0,a2,b2]
     ·simp only[PyData.depthAll];exact Nat.max_le.mpr ⟨a3,b3⟩
end
end
def EE(x y:D):M D:=fun S=>match pD S 30 x,pD S 30 y with
 |some p,some q=>.ok (.bl (PyData.eqv p q)) S
 |_,_=>.bad
def Gr(x y:D):M D:=fun S=>match pD S 30 x,pD S 30 y with
 |some p,some q=>.ok (.bl (!PyData.eqv p q)) S
 |_,_=>.bad
section
variable{X:Cx}
theorem b9(hu:X.A.units+64<cLine):Iu X (compareOp .Eq) EE:=by
 intro pins s σ H J S x y vx vy v u Q E I rs rx ry rv ru m;unfold EE at m;cases e1:pD S 30 x with
 |none=>rw[e1] at m;exact m.elim
 |some p=>
  cases e2:pD S 30 y with
  |none=>rw[e1,e2] at m;exact m.elim
  |some q=>
   rw[e1,e2] at m;obtain⟨⟨as,a1⟩,a2,a3⟩:=lv I rs rx rv e1;obtain⟨⟨bs,b1⟩,b2,b3⟩:=lv I rs ry ru e2;exact SeqAt.compareEq_reads a1 b1 a2 b2 (by have:=Nat.min_le_left p.depth q.depth;omega) (m.Hk I rs (r_.bl _ _ _ _) rfl)
theorem mJ(hu:X.A.units+64<cLine):Iu X (compareOp .NotEq) Gr:=by
 intro pins s σ H J S x y vx vy v u Q E I rs rx ry rv ru m;unfold Gr at m;cases e1:pD S 30 x with
 |none=>rw[e1] at m;exact m.elim
 |some p=>
  cases e2:pD S 30 y with
  |none=>rw[e1,e2] at m;exact m.elim
  |some q=>
   rw[e1,e2] at m;obtain⟨⟨as,a1⟩,a2,a3⟩:=lv I rs rx rv e1;obtain⟨⟨bs,b1⟩,b2,b3⟩:=lv I rs ry ru e2;exact SeqAt.compareNe_reads a1 b1 a2 b2 (by have:=Nat.min_le_left p.depth q.depth;omega) (m.Hk I rs (r_.bl _ _ _ _) rfl)
def PC(C:Int->Int->Prop)(g:Int->Int->D):D->D->M D
 |.int i,.int j=>fun S=>G5 (C i j) (.ok (g i j) S) .bad
 |_,_=>M.bad
theorem wE{f:Value->Value->Sem Value}{C:Int->Int->Prop}{g:Int->Int->Int}(h:∀E,Kj (X.EV E) f (rI C fun i j=>.int (g i j))):Iu X f (PC C fun i j=>.int (g i j)):=by
 refine Iu.of h (fun H J S x y vx vy d S' rs rx ry e=>?_) (fun x y S c S' e=>?_)
 ·cases x with
  |int i=>
   cases y with
   |int j=>
    cases rx.FO;cases ry.FO;simp only[PC,G5] at e;split at e
    ·rename_i hc;cases e;exact⟨i,j,rfl,rfl,hc,J,Ext.refl _ _,rs,r_.int _ _ _ _⟩
    ·cases e
   |_=>cases e
  |_=>cases e
 ·cases x with
  |int i=>
   cases y with
   |int j=>
    simp only[PC,G5] at e;split at e<;>cases e
   |_=>cases e
  |_=>cases e
def tu(p:Int->Int->Bool):D->D->M D
 |.int i,.int j=>fun S=>.ok (.bl (p i j)) S
 |_,_=>M.bad
theorem tG{f:Value->Value->Sem Value}{p:Int->Int->Bool}(h:∀E,Kj (X.EV E) f (Pp fun i j=>.bl (p i j))):Iu X f (tu p):=by
 refine Iu.of h (fun H J S x y vx vy d S' rs rx ry e=>?_) (fun x y S c S' e=>?_)
 ·cases x with
  |int i=>
   cases y with
   |int j=>
    cases rx.FO;cases ry.FO;cases e;exact⟨i,j,rfl,rfl,J,Ext.refl _ _,rs,r_.bl _ _ _ _⟩
   |_=>cases e
  |_=>cases e
 ·cases x with
  |int i=>
   cases y with
   |int j=>cases e
   |_=>cases e
  |_=>cases e
def rN:D->D->M D:=PC (fun _ _=>True) fun i j=>.int (i-j)
def zr:D->D->M D:=PC CN fun i j=>.int (i / j)
def jo:D->D->M D:=PC (fun _ j=>0<j) fun i j=>.int (i % j)
theorem we:Iu X (binaryOp .Sub) rN:=wE (C:=fun _ _=>True) (g:=fun i j=>i-j) fun E=>QP fun _ _ _ _ _ _ _ _ q=>sub_int q
theorem AA:Iu X (binaryOp .FloorDiv) zr:=wE fun E=>Ax
theorem iA:Iu X (binaryOp .Mod) jo:=wE fun E=>CD
theorem lc:Iu X (compareOp .Lt) (tu fun i j=>decide (i<j)):=tG fun E=>CS
theorem qo:Iu X (compareOp .LtE) (tu fun i j=>decide (i<=j)):=tG fun E=>Dm
theorem xI:Iu X (compareOp .Gt) (tu fun i j=>decide (j<i)):=tG fun E=>Dn
theorem va:Iu X (compareOp .GtE) (tu fun i j=>decide (j<=i)):=tG fun E=>Df
theorem Ag{t b:Addr}{vs ws:List Value}{A:Around}{s:Shared}{prog:Program}{w:World}{Q E:Value->Shared->Prop}(ht:IsTup s.heap t vs.toArray)(hb:IsTup s.heap b ws.toArray)(hv:vs=[])(h1:Q (.ref b) s) :
  wpAny (model prog w) A (binaryOp .Add (.ref t) (.ref b)) Q E s:=by
 obtain⟨⟨cls,dd,data,sl⟩,ho,hc,n,hd⟩:=id ht;obtain⟨⟨P6,Pr,data2,Pt⟩,Nu,Oi,n2,hd2⟩:=id hb;simp only at hc hd Oi hd2;subst hc hd Oi hd2;exact concat_meets ⟨_,ho,rfl⟩ ⟨_,Nu,rfl⟩ noFill_tuple_add seq_tuple_add PySem.F.slot_tuple_add PySem.F.entry_tuple_add (PySem.F.args_tuple_add_2 _ _)
  (tuple_addW0 t b vs.toArray ws.toArray n n2 dd Pr sl Pt (by simp[hv])) ⟨ho,Nu,h1⟩
def de(S:List Cell)(n:Nat):Option (List D):=match S[n]? with
 |some (.lst xs)=>some xs
 |_=>none
def bJ:D->D->M D
 |.int i,.int j=>fun S=>.ok (.int (i+j)) S
 |.tup xs,.tup ys=>oS (xs++ys)
 |.ob n,.ob m=>fun S=>match de S n,de S m with
  |some xs,some ys=>oK (xs++ys) S
  |_,_=>.bad
 |_,_=>M.bad
theorem q8{S:List Cell}{n:Nat}{xs:List D}(h:de S n=some xs):S[n]?=some (.lst xs):=by
 unfold de at h;split at h
 ·rename_i e;rw[e];cases h;rfl
 ·cases h
theorem EB.lst{K:PySem.W.Frag}{H:Hp}{J:List Addr}{S:List Cell}{n:Nat}{xs:List D}{a:Addr}(rs:EB K H J S)(h:de S n=some xs)(hn:J[n]?=some a):∃vs,H a=some (.lst vs)/\j_ K H J xs vs:=rs.at_ n _ a (q8 h) hn
theorem bX:Iu X (binaryOp .Add) bJ:=by
 intro pins s σ H J S x y vx vy v u Q E I rs rx ry rv ru m;cases x with
 |int i=>
  cases y with
  |int j=>
   cases rx.FO;cases ry.FO;obtain⟨t,rfl⟩:=rv;obtain⟨t',rfl⟩:=ru;exact add_int (m.Hk (I.tok _) rs (r_.int _ _ _ _) ⟨_,rfl⟩)
  |_=>exact m.elim
 |tup xs=>
  cases y with
  |tup ys=>
   obtain⟨a,vs,rfl,ha,E7⟩:=rx.HM;obtain⟨b,ws,rfl,hb,rws⟩:=ry.HM;cases rv;cases ru;obtain⟨u_,r1,p1,_⟩:=I.tuple ha;obtain⟨K2,r2,p2,_⟩:=I.tuple hb;simp only[bJ,oS,G5] at m;split at m
   ·rename_i hz;rw[List.length_append] at hz;by_cases h0:u_=[]
    ·have e0:xs=[]:=E7.Ic.mp (r1.Ic.mp h0);subst e0;exact Ag p1 p2 h0 (m.Hk (v:=.ref b) I rs (by rw[List.nil_append];exact .tup hb rws) rfl)
    ·refine HT.Nt p1 p2 h0 (fun z=>?_) (fun z=>?_) (by rw[<-r1.length,<-r2.length,E7.length,rws.length];exact hz)
     ·have e0:ys=[]:=rws.Ic.mp (r2.Ic.mp z);subst e0;exact m.Hk (v:=.ref a) I rs (by rw[List.append_nil];exact .tup ha E7) rfl
     ·have hf:H s.heap.objs.size=none:=I.EI.fresh (Nat.le_refl _);refine m.val (H':=upd H s.heap.objs.size (.tup (vs++ws))) (v:=.ref s.heap.objs.size) (I.laid (t':=s.toks) (fun b u e=>Heap.get?_push_of_some _ e) (Nat.le_refl _) ?_) rfl (Got.tup rs (E7.append rws) hf);exact⟨by rw[List.length_append,E7.length,rws.length];exact hz,_,r1.append r2,IsTup.new _ _⟩
   ·exact m.elim
  |_=>exact m.elim
 |ob n=>
  cases y with
  |ob k=>
   obtain⟨a,rfl,hn⟩:=rx.HN;obtain⟨b,rfl,hk⟩:=ry.HN;simp only[bJ] at m;cases e1:de S n with
   |none=>rw[e1] at m;exact m.elim
   |some xs=>
    cases e2:de S k with
    |none=>rw[e1,e2] at m;exact m.elim
    |some ys=>
     rw[e1,e2] at m;obtain⟨vs,hv,E7⟩:=rs.lst e1 hn;obtain⟨ws,hw,rws⟩:=rs.lst e2 hk;simp only[oK,G5] at m;split at m
     ·rename_i hz;rw[List.length_append] at hz;refine wpAny_mono (CO (X:=X.EV E) pins s σ H (.ref a) (.ref b) v u (Got X.K H J (.ob S.length) (S++[.lst (xs++ys)])) (I.EV E) rv ru ⟨a,b,vs,ws,rfl,rfl,hv,hw,by rw[E7.length,rws.length];exact hz,fun p hp=>?_⟩) (fun u s' q=>m u s' (EP.ET q)) fun _ _ z=>z
      exact Got.lst rs (E7.append rws) hp
     ·exact m.elim
  |_=>exact m.elim
 |_=>exact m.elim
end
end DL
namespace DL
open PySem PySem.Spec PyProof.Rows L2
section
variable{X:Cx}
def iP:D->D->M D
 |.int i,.int j=>fun S=>G5 (L7 i j) (.ok (.int (i * j)) S) .bad
 |.ob n,.int k=>fun S=>match de S n with
  |some xs=>G5 ((-(2 ^ 63)<=k/\k<2 ^ 63)/\xs.length * k.toNat<=sizeLine) (.ok (.ob S.length) (S++[.lst (List.replicate k.toNat xs).flatten])) .bad
  |none=>.bad
 |_,_=>M.bad
theorem j_.rep{K:PySem.W.Frag}{H:Hp}{J:List Addr}{xs:List D}{vs:List V}(h:j_ K H J xs vs):∀k:Nat,j_ K H J (List.replicate k xs).flatten (List.replicate k vs).flatten
 |0=>.nil
 |k+1=>by
  rw[List.replicate_succ,List.replicate_succ,List.flatten_cons,List.flatten_cons];exact h.append (j_.rep h k)
theorem lz:Iu X (binaryOp .Mult) iP:=by
 refine Iu.of (fun E=>OI.or CF) (fun H J S x y vx vy d S' rs rx ry e=>?_) (fun x y S c S' e=>?_)
 ·cases x with
  |int i=>
   cases y with
   |int j=>
    cases rx.FO;cases ry.FO;simp only[iP,G5] at e;split at e
    ·rename_i hc;cases e;exact .inl ⟨i,j,rfl,rfl,hc,J,Ext.refl _ _,rs,r_.int _ _ _ _⟩
    ·cases e
   |_=>cases e
  |ob n=>
   cases y with
   |int k=>
    obtain⟨a,rfl,hn⟩:=rx.HN;cases ry.FO;simp only[iP,G5] at e;cases e1:de S n with
    |none=>rw[e1] at e;cases e
    |some xs=>
     rw[e1] at e;dsimp only at e;split at e
     ·rename_i hz;cases e;obtain⟨vs,hv,E7⟩:=rs.lst e1 hn;exact .inr ⟨a,k,vs,rfl,rfl,hv,hz.1.1,hz.1.2,by rw[E7.length];exact hz.2,fun p hp=>Got.lst rs (E7.rep _) hp⟩
     ·cases e
   |_=>cases e
  |_=>cases e
 ·cases x with
  |int i=>
   cases y with
   |int j=>
    simp only[iP,G5] at e;split at e<;>cases e
   |_=>cases e
  |ob n=>
   cases y with
   |int k=>
    simp only[iP,G5] at e;split at e
    ·split at e<;>cases e
    ·cases e
   |_=>cases e
  |_=>cases e
def iq(S:List Cell):D->Option (List D)
 |.tup xs=>some xs
 |.FC xs=>some xs
 |.ob n=>de S n
 |_=>none
def t_:D->D->M D
 |x,.int i=>fun S=>match iq S x with
  |some xs=>(match KR xs i with
   |some d=>.ok d S
   |none=>.bad)
  |none=>.bad
 |_,_=>M.bad
theorem j_.KR{K:PySem.W.Frag}{H:Hp}{J:List Addr}{xs:List D}{vs:List V}{i:Int}{d:D}(h:j_ K H J xs vs)(e:L2.KR xs i=some d):∃v,L2.KR vs i=some v/\r_ K H J d v:=by
 unfold L2.KR at e ⊢;rw[h.length];cases e1:Lm xs.length i with
 |none=>rw[e1] at e;cases e
 |some j=>
  rw[e1] at e;exact h.get (show xs[j]?=some d from e)
theorem EY:Px X t_:=by
 refine Px.of (r:=fun x y H Q=>Da X.K x y H Q\/Dk X.K x y H Q) (fun E=>(Az (X:=X.EV E)).or (BZ (X:=X.EV E))) (fun H J S x y vx vy d S' rs rx ry e=>?_) (fun x y S c S' e=>?_)
 ·cases y with
  |int i=>
   cases ry.FO;simp only[t_] at e;cases x with
   |tup xs=>
    obtain⟨a,vs,rfl,hq,E7⟩:=rx.HM;simp only[iq] at e;cases e1:KR xs i with
    |none=>rw[e1] at e;cases e
    |some d=>
     rw[e1] at e;cases e;obtain⟨v,h1,h2⟩:=E7.KR e1;exact .inr ⟨a,vs,i,v,rfl,rfl,hq,h1,J,Ext.refl _ _,rs,h2⟩
   |FC xs=>
    obtain⟨a,vs,rfl,hq,E7⟩:=rx.Kl;simp only[iq] at e;cases e1:KR xs i with
    |none=>rw[e1] at e;cases e
    |some d=>
     rw[e1] at e;cases e;obtain⟨v,h1,h2⟩:=E7.KR e1;exact .inl ⟨a,vs,i,v,rfl,rfl,hq.sq,h1,J,Ext.refl _ _,rs,h2⟩
   |ob n=>
    obtain⟨a,rfl,hn⟩:=rx.HN;simp only[iq] at e;cases e0:de S n with
    |none=>rw[e0] at e;cases e
    |some xs=>
     rw[e0] at e;dsimp only at e;obtain⟨vs,hv,E7⟩:=rs.lst e0 hn;cases e1:KR xs i with
     |none=>rw[e1] at e;cases e
     |some d=>
      rw[e1] at e;cases e;obtain⟨v,h1,h2⟩:=E7.KR e1;exact .inl ⟨a,vs,i,v,rfl,rfl,GD.of hv,h1,J,Ext.refl _ _,rs,h2⟩
   |_=>cases e
  |_=>cases e
 ·cases y with
  |int i=>
   simp only[t_] at e;split at e
   ·split at e<;>cases e
   ·cases e
  |_=>cases e
def gr(xs:List D)(lo hi:Option Int):List D:=(xs.drop (HT.FG xs.length 0 lo)).take (HT.FG xs.length xs.length hi-HT.FG xs.length 0 lo)
theorem j_.cut{K:PySem.W.Frag}{H:Hp}{J:List Addr}{xs:List D}{vs:List V}(h:j_ K H J xs vs)(lo hi:Option Int):j_ K H J (gr xs lo hi) (wo vs lo hi):=by
 unfold gr wo;rw[h.length];exact(h.drop _).take _
def FZ:D->Option Int->Option Int->M D
 |.tup xs,lo,hi=>M.ret (.tup (gr xs lo hi))
 |.FC xs,lo,hi=>fun S=>.ok (.ob S.length) (S++[.lst (gr xs lo hi)])
 |.ob n,lo,hi=>fun S=>match de S n with
  |some xs=>.ok (.ob S.length) (S++[.lst (gr xs lo hi)])
  |none=>.bad
 |_,_,_=>M.bad
theorem nG{prog:Program}{w:World}{A:Around}{E:Value->Shared->Prop}{s:Shared}{t sl:Addr}{items:Array Value}{vl vu:Value}{lo hi:Option Int}{Q:Value->Shared->Prop}(ht:IsTup s.heap t items)(hs:s.heap.IsSliceOf sl vl vu .none)
  (pl:IsPart vl lo) (pu:IsPart vu hi) (hw:HT.FG items.size 0 lo=0/\HT.FG items.size items.size hi=items.size) (h:Q (.ref t) s):wpAny (model prog w) A (getItem (.ref t) (.ref sl)) Q E s:=by
 obtain⟨os,OK,Ll,OL⟩:=id hs;have RL:s.TypeIs (.ref sl) "slice":=⟨os,OK,Ll⟩;unfold getItem
 try with_reducible refine wpAny_holding ?_
 first|refine wpAny_bind (wpAny_pure ?_)|skip
 refine wpAny_bind (wpAny_sequenceKey ht.typeIs (by decide) ?_);refine wpAny_bind (wpAny_callSpecial?_slot (name:=Str.ofString "__getitem__") ht.typeIs PyProof.Rows.slot_tuple_getitem
  (wpAny_call_entry PyProof.Rows.slot_tuple_getitem ht.typeIs entry_tuple_getitem ?_ (args_tuple_getitem _ _)))
 show wpAny _ _ (Builtin.Tuple.tupleItemsOf (.ref t) >>= _) _ _ s;refine wpAny_bind (tupleItemsOf_ ht ?_);refine wpAny_bind (wpAny_typeOf RL ?_);rw[if_pos (by decide)];refine wpAny_bind (HT.GY hs pl pu ?_);have Sd:((((HT.FG items.size 0 lo:Nat):Int) == 0 && (1:Int) == 1 && (HT.FG items.size items.size hi-HT.FG items.size 0 lo) == items.size)=true):=by
  rw[hw.1,hw.2];simp
 show wpAny _ _ (if (((HT.FG items.size 0 lo:Nat):Int) == 0 && (1:Int) == 1 && (HT.FG items.size items.size hi-HT.FG items.size 0 lo) == items.size)=true then _ else _) _ _ s;rw[if_pos Sd];refine wpAny_bind (m:=Builtin.Tuple.tupleIsExact _) (wpAny_bind (wpAny_typeOf ht.typeIs (wpAny_pure ?_)));rw[if_pos (by decide)]
 first
  |exact wpAny_bind (wpAny_rule (wpAny_pure ⟨_,rfl,wpAny_pure h⟩))
  |exact wpAny_bind (wpAny_rule (wpAny_bind (wpAny_pure (wpAny_pure ⟨_,rfl,wpAny_pure h⟩))))
theorem Lq:VG X FZ:=by
 intro pins s σ H J S x vx v vl vu lo hi sl Q E I rs rx rv hs pl pu m;cases x with
 |tup xs=>
  obtain⟨a,vs,rfl,hq,E7⟩:=rx.HM;cases rv;obtain⟨u_,r,ht,hz⟩:=I.tuple hq;have hlen:u_.toArray.size=xs.length:=by rw[List.size_toArray,<-r.length,E7.length]
  refine⟨"tuple",_,PyProof.Rows.slot_tuple_getitem.lookup,ht.typeIs,?_⟩;by_cases hw:HT.FG xs.length 0 lo=0/\HT.FG xs.length xs.length hi=xs.length
  ·refine nG ht hs pl pu (by rw[hlen];exact hw) (m.Hk (v:=.ref a) I rs ?_ rfl);have e:gr xs lo hi=xs:=by
    unfold gr;rw[hw.1,hw.2];simp
   rw[e];exact .tup hq E7
  ·refine HT.Ib ht hs pl pu (by rw[hlen];exact hw) ?_ (by rw[List.size_toArray,<-r.length];exact hz);have hf:H s.heap.objs.size=none:=I.EI.fresh (Nat.le_refl _);refine m.val (H':=upd H s.heap.objs.size (.tup (wo vs lo hi))) (v:=.ref s.heap.objs.size) (I.laid (t':=s.toks) (fun b ob q=>Heap.get?_push_of_some _ q) (Nat.le_refl _) ?_) rfl (Got.tup rs (E7.cut lo hi) hf);have Mz:u_.toArray.size=vs.length:=by rw[List.size_toArray];exact r.length.symm
   rw[Mz];exact⟨Nat.le_trans (pp vs lo hi) hz,_,(r.drop (HT.FG vs.length 0 lo)).take (HT.FG vs.length vs.length hi-HT.FG vs.length 0 lo),IsTup.new _ _⟩
 |FC xs=>
  obtain⟨a,vs,rfl,hq,E7⟩:=rx.Kl;obtain⟨T,id,h1,h2,h3⟩:=wT (X:=X.EV E) pins s σ H (.ref a) v vl vu lo hi sl (Got X.K H J (.ob S.length) (S++[.lst (gr xs lo hi)])) (I.EV E) rv hs pl pu ⟨a,vs,rfl,hq.sq,fun p hp=>Got.lst rs (E7.cut lo hi) hp⟩;exact⟨T,id,h1,h2,wpAny_mono h3 (fun u s' q=>m u s' (EP.ET q)) fun _ _ z=>z⟩
 |ob n=>
  obtain⟨a,rfl,hn⟩:=rx.HN;simp only[FZ] at m;cases e0:de S n with
  |none=>rw[e0] at m;exact m.elim
  |some xs=>
   rw[e0] at m;obtain⟨vs,hv,E7⟩:=rs.lst e0 hn;obtain⟨T,id,h1,h2,h3⟩:=wT (X:=X.EV E) pins s σ H (.ref a) v vl vu lo hi sl (Got X.K H J (.ob S.length) (S++[.lst (gr xs lo hi)])) (I.EV E) rv hs pl pu ⟨a,vs,rfl,GD.of hv,fun p hp=>Got.lst rs (E7.cut lo hi) hp⟩;exact⟨T,id,h1,h2,wpAny_mono h3 (fun u s' q=>m u s' (EP.ET q)) fun _ _ z=>z⟩
 |_=>exact m.elim
def bG:List D->M D
 |[x]=>fun S=>match iq S x with
  |some xs=>.ok (.int xs.length) S
  |none=>.bad
 |_=>M.bad
theorem ma{K:PySem.W.Frag}{H:Hp}{J:List Addr}{S:List Cell}{x:D}{v:V}{xs:List D}(rs:EB K H J S)(rx:r_ K H J x v)(e:iq S x=some xs):∃a vs,v=.ref a/\(GD K H a vs\/Hh K H a vs)/\j_ K H J xs vs:=by
 cases x with
 |tup xs=>
  obtain⟨a,vs,rfl,hq,E7⟩:=rx.HM;cases e;exact⟨a,vs,rfl,.inr hq,E7⟩
 |FC xs=>
  obtain⟨a,vs,rfl,hq,E7⟩:=rx.Kl;cases e;exact⟨a,vs,rfl,.inl hq.sq,E7⟩
 |ob n=>
  obtain⟨a,rfl,hn⟩:=rx.HN;obtain⟨vs,hv,E7⟩:=rs.lst e hn;exact⟨a,vs,rfl,.inl (GD.of hv),E7⟩
 |_=>cases e
theorem dP:Gh X (.builtin "len") bG:=by
 refine Gh.of (r:=fun xs H Q=>∃p ys,xs=[.ref p]/\(GD X.K H p ys\/Hh X.K H p ys)/\Q (.int ys.length) H) (fun E=>tM (X:=X.EV E)) (fun H J S xs vs d S' rs rx e=>?_) (fun xs S c S' e=>?_)
 ·match xs,rx,e with
  |[x],rx,e=>
   obtain⟨v,rfl,h1⟩:=rx.Ih;simp only[bG] at e;cases e1:iq S x with
   |none=>rw[e1] at e;cases e
   |some ys=>
    rw[e1] at e;cases e;obtain⟨a,ws,rfl,hq,E7⟩:=ma rs h1 e1;exact⟨a,ws,rfl,hq,J,Ext.refl _ _,rs,by rw[E7.length];exact r_.int _ _ _ _⟩
  |[],rx,e=>cases e
  |_ :: _ :: _,rx,e=>cases e
 ·match xs,e with
  |[x],e=>
   simp only[bG] at e;split at e<;>cases e
  |[],e=>cases e
  |_ :: _ :: _,e=>cases e
def vH(g:Int->Int->Int):List D->M D
 |[.int i,.int j]=>M.ret (.int (g i j))
 |_=>M.bad
theorem xC{g:Int->Int->Int}{xs:List D}{S S':List Cell}{d:D}(e:vH g xs S=.ok d S'):∃i j,xs=[.int i,.int j]/\d=.int (g i j)/\S'=S:=by
 unfold vH at e;split at e
 ·rename_i i j;cases e;exact⟨i,j,rfl,rfl,rfl⟩
 ·cases e
theorem xH{g:Int->Int->Int}{xs:List D}{S S':List Cell}{c:Addr}:vH g xs S≠.exc c S':=by
 intro e;unfold vH at e;split at e<;>cases e
theorem CB(hc:X.calm=true):Gh X (.builtin "max") (vH fun i j=>if j > i then j else i):=by
 refine Gh.of (fun E=>yq (X:=X.EV E) hc) (fun H J S xs vs d S' rs rx e=>?_) (fun xs S c S'=>xH);obtain⟨i,j,rfl,rfl,rfl⟩:=xC e;obtain⟨v,w,rfl,h1,h2⟩:=rx.NC;cases h1.FO;cases h2.FO;exact⟨i,j,rfl,J,Ext.refl _ _,rs,r_.int _ _ _ _⟩
theorem zj(hc:X.calm=true):Gh X (.builtin "min") (vH fun i j=>if j<i then j else i):=by
 refine Gh.of (fun E=>yn (X:=X.EV E) hc) (fun H J S xs vs d S' rs rx e=>?_) (fun xs S c S'=>xH);obtain⟨i,j,rfl,rfl,rfl⟩:=xC e;obtain⟨v,w,rfl,h1,h2⟩:=rx.NC;cases h1.FO;cases h2.FO;exact⟨i,j,rfl,J,Ext.refl _ _,rs,r_.int _ _ _ _⟩
def eJ:List D->M D
 |[x]=>fun S=>match iq S x with
  |some xs=>.ok (.tup xs) S
  |none=>.bad
 |_=>M.bad
theorem gC:Gh X (.type "tuple") eJ:=by
 refine Gh.of (r:=fun xs H Q=>∃p ys,xs=[.ref p]/\((GD X.K H p ys/\∀l,H l=none->Q (.ref l) (upd H l (.tup ys)))\/(Hh X.K H p ys/\Q (.ref p) H))) (fun E=>rK (X:=X.EV E)) (fun H J S xs vs d S' rs rx e=>?_) (fun xs S c S' e=>?_)
 ·unfold eJ at e;split at e
  ·obtain⟨v,rfl,h1⟩:=rx.Ih;split at e
   ·rename_i e1;cases e;obtain⟨a,ws,rfl,hq,E7⟩:=ma rs h1 e1;refine⟨a,ws,rfl,?_⟩;rcases hq with hq|hq
    ·exact .inl ⟨hq,fun l hl=>Got.tup rs E7 hl⟩
    ·exact .inr ⟨hq,J,Ext.refl _ _,rs,.tup hq E7⟩
   ·cases e
  ·cases e
 ·unfold eJ at e;split at e
  ·split at e<;>cases e
  ·cases e
def mG:List D->M D
 |[x]=>fun S=>match iq S x with
  |some xs=>.ok (.ob S.length) (S++[.lst xs])
  |none=>.bad
 |_=>M.bad
theorem ue:Gh X (.type "list") mG:=by
 refine Gh.of (r:=fun xs H Q=>∃p ys,xs=[.ref p]/\(GD X.K H p ys\/Hh X.K H p ys)/\∀l,H l=none->Q (.ref l) (upd H l (.lst ys))) (fun E=>ul (X:=X.EV E)) (fun H J S xs vs d S' rs rx e=>?_) (fun xs S c S' e=>?_)
 ·unfold mG at e;split at e
  ·obtain⟨v,rfl,h1⟩:=rx.Ih;split at e
   ·rename_i e1;cases e;obtain⟨a,ws,rfl,hq,E7⟩:=ma rs h1 e1;exact⟨a,ws,rfl,hq,fun l hl=>Got.lst rs E7 hl⟩
   ·cases e
  ·cases e
 ·unfold mG at e;split at e
  ·split at e<;>cases e
  ·cases e
def O2(S:List Cell):D->Option String
 |.B_=>some "NoneType"
 |.bl _=>some "bool"
 |.int _=>some "int"
 |.str _=>some "str"
 |.tup _=>some "tuple"
 |.FC _=>some "list"
 |.ob n=>match S[n]? with
  |some (.lst _)=>some "list"
  |some (.FN _)=>some "dict"
  |_=>none
 |.xn _=>none
def vn(t T:String):Bool:=t == T || (t == "bool" && T == "int")
def MJ(T:String)(x:D):M D:=fun S=>match O2 S x with
 |some t=>.ok (.bl (vn t T)) S
 |none=>.bad
def vo(K:PySem.W.Frag)(T:String):Prop:=∀t∈["NoneType","bool","int","str","tuple","list","dict"],PySem.W.kitOne K (.type t) (.type T)=some (vn t T)
theorem w5(K:PySem.W.Frag):vo K "int":=by
 intro t ht;simp only[List.mem_cons,List.not_mem_nil,or_false] at ht;rcases ht with rfl|rfl|rfl|rfl|rfl|rfl|rfl<;>rfl
theorem u8(K:PySem.W.Frag):vo K "bool":=by
 intro t ht;simp only[List.mem_cons,List.not_mem_nil,or_false] at ht;rcases ht with rfl|rfl|rfl|rfl|rfl|rfl|rfl<;>rfl
theorem mi(K:PySem.W.Frag):vo K "tuple":=by
 intro t ht;simp only[List.mem_cons,List.not_mem_nil,or_false] at ht;rcases ht with rfl|rfl|rfl|rfl|rfl|rfl|rfl<;>rfl
theorem z9{T:String}{pins:Ez}{s:Shared}{σ:L2.St}{H:Hp}{J:List Addr}{S:List Cell}{x:D}{vx:V}{v:Value}{Q E:Value->Shared->Prop}(hk:vo X.K T)(I:Inv X pins σ H s)(rs:EB X.K H J S)(rx:r_ X.K H J x vx)(rv:RelV vx v)
  (m:Mt X pins σ H J (MJ T x S) Q E):wpAny (model X.prog X.w) X.A (call (.builtin "isinstance") [v,.type T]) Q E s:=by
 unfold MJ at m;cases x with
 |B_=>
  cases rx.Lv;cases rv;exact PySem.W.kia_one PySem.W.kitx_none I.IY True.intro (hk "NoneType" (by simp)) (fun z=>nomatch z) fun tk=>m.Hk (I.tok tk) rs (r_.bl _ _ _ _) rfl
 |bl b=>
  cases rx.Ni;cases rv;exact PySem.W.kia_one PySem.W.kitx_bool I.IY True.intro (hk "bool" (by simp)) (fun z=>nomatch z) fun tk=>m.Hk (I.tok tk) rs (r_.bl _ _ _ _) rfl
 |int i=>
  cases rx.FO;obtain⟨t,rfl⟩:=rv;exact PySem.W.kia_one PySem.W.kitx_int I.IY True.intro (hk "int" (by simp)) (fun z=>nomatch z) fun tk=>m.Hk (I.tok tk) rs (r_.bl _ _ _ _) rfl
 |str i=>
  cases rx.ME;obtain⟨t,rfl⟩:=rv;exact PySem.W.kia_one PySem.W.kitx_str I.IY True.intro (hk "str" (by simp)) (fun z=>nomatch z) fun tk=>m.Hk (I.tok tk) rs (r_.bl _ _ _ _) rfl
 |tup xs=>
  obtain⟨a,vs,rfl,hq,E7⟩:=rx.HM;cases rv;obtain⟨u_,r,⟨o,h1,h2,_⟩,hz⟩:=I.tuple hq;exact PySem.W.kia_one PySem.W.kitx_tuple I.IY ⟨o,h1,h2⟩ (hk "tuple" (by simp)) (fun z=>nomatch z) fun tk=>m.Hk (I.tok tk) rs (r_.bl _ _ _ _) rfl
 |FC xs=>
  obtain⟨a,vs,rfl,hq,E7⟩:=rx.Kl;cases rv;obtain⟨u_,r,pl,hz⟩:=I.list hq.sq;obtain⟨o,h1,h2,_⟩:=pl.isList;exact PySem.W.kia_one PySem.W.kitx_list I.IY ⟨o,h1,h2⟩ (hk "list" (by simp)) (fun z=>nomatch z) fun tk=>m.Hk (I.tok tk) rs (r_.bl _ _ _ _) rfl
 |ob n=>
  obtain⟨a,rfl,hn⟩:=rx.HN;cases rv;simp only[O2] at m;obtain⟨c,hc,rc⟩:=rs.Jd hn;rw[hc] at m;cases c with
  |lst xs=>
   obtain⟨vs,hv,E7⟩:=rc;obtain⟨u_,r,pl,hz⟩:=I.list (GD.of hv);obtain⟨o,h1,h2,_⟩:=pl.isList;exact PySem.W.kia_one PySem.W.kitx_list I.IY ⟨o,h1,h2⟩ (hk "list" (by simp)) (fun z=>nomatch z) fun tk=>m.Hk (I.tok tk) rs (r_.bl _ _ _ _) rfl
  |FN kvs=>
   obtain⟨ws,hv,_⟩:=rc;obtain⟨_,_,vs,_,p⟩:=(show Fe X.prog X.w H s.heap a (.dK ws) from I.EI a _ hv);obtain⟨o,es,ep,h1,h2,_⟩:=p;exact PySem.W.kia_one PySem.W.kitx_dict I.IY ⟨o,h1,h2.1⟩ (hk "dict" (by simp)) (fun z=>nomatch z) fun tk=>m.Hk (I.tok tk) rs (r_.bl _ _ _ _) rfl
  |ins C ns ds=>exact m.elim
 |xn c=>exact m.elim
def Jv(T:String)(fe:o_->M D):o_->M D:=fun r=>(fe r).bind (MJ T)
variable{e:Expr}{fe:o_->M D}{pos:Pos}
theorem fW{x:Str}{T:String}{p p2:Pos}(he:E_ X e fe)(hg:Gl X "isinstance")(hm:X.mg "isinstance"=none)(XG:Gl X x)(XH:X.mg x=none)(Se:bootBuiltins x=some (.type T))(hk:vo X.K T)
  (hs:starEach [e,.Name x p2] X.env=[(false,eval e X.env),(false,eval (.Name x p2) X.env)]:=by rfl) (Kc:starEach [.Name x p2] X.env=[(false,eval (.Name x p2) X.env)]:=by rfl) (hn:x≠"__name__":=by decide) (hd:(x == ("__debug__":Str))=false:=by decide) :
  E_ X (.Call (.Name "isinstance" p) [e,.Name x p2] [] pos) (Jv T fe):=by
 intro pins s σ H J r S Q E I m;refine wpAny_Call_Name_kw (lS I.inv hg hm boot_isinstance ?_);refine PyProof.Rows.callWith_builtin1 ?_ (by rw[hs,Kc]) (by rw[Kc];rfl);rw[hs];show wpAny _ _ (spliced ((false,eval e X.env) :: backTo pos [(false,eval (.Name x p2) X.env)])) _ _ s;refine Calls.spliced_cons (he pins s σ H J r S _ E I ?_);unfold Jv M.bind at m;cases e1:fe r S with
 |bad=>rw[e1] at m;exact m
 |exc c S1=>rw[e1] at m;exact m
 |ok d S1=>
  rw[e1] at m;dsimp only at m;rintro v s1 ⟨vx,H1,I1,r1,J1,ex,rs,rv⟩;show wpAny _ _ (spliced ((false,eval (.Name x p2) X.env) :: backTo pos [])) _ _ s1;refine Calls.spliced_cons (lS I1 XG XH Se ?_ hn hd);exact Calls.spliced_nil (z9 hk I1 rs rv r1 (Mt.ext ex m))
end
end DL
namespace DL
open PySem PySem.Spec PyProof.Rows L2
open AutoSeq1 (wpAny_loadPart')
section
variable{prog:Program}{w:World}{A:Around}{E:Value->Shared->Prop}{s:Shared}
theorem wP{it t:Addr}{i:Nat}{items:Array Value}{x:Value}{Q:Value->Shared->Prop}(hi:s.heap.IsTupleIter it t i)(ht:s.heap.IsTuple t items)(hx:items[i]?=some x)
  (hQ:∀h',h'.IsTupleIter it t (i+1)->Heap.SameBut it s.heap h'->Q x { s with heap:=h' }):wpAny (model prog w) A (Builtin.SmallTypes.nextOf (.ref it)) Q E s:=by
 obtain⟨oi,Ou,VO,NF⟩:=id hi;obtain⟨ot,Sf,_,nt,Sg⟩:=ht;unfold Builtin.SmallTypes.nextOf;refine wpAny_bind (wpAny_callSpecial?_slot (name:=Str.ofString "__next__") hi.typeIs slot_tupleiter_next
  (wpAny_call_entry slot_tupleiter_next hi.typeIs entry_tupleiter_next ?_ (args_tupleiter_next _)))
 show wpAny _ _ (field (.ref it) 0 >>= _) _ _ s;refine wpAny_bind (wpAny_field Ou NF (x:=.ref t) rfl ?_);show wpAny _ _ (if (Value.ref t == Value.none)=true then _ else _) _ _ s;rw[if_neg (show ¬((Value.ref t == Value.none)=true) from Bool.false_ne_true)];show wpAny _ _ (field (.ref it) 1 >>= _) _ _ s;refine wpAny_bind (wpAny_field Ou NF (x:=.int i 0) rfl ?_);show wpAny _ _ (seqItems? (.ref t) >>= _) _ _ s;refine wpAny_bind (wpAny_seqItems Sf Sg ?_);simp only[Int.toNat_natCast,hx];refine wpAny_bind (wpAny_setField Ou NF (by simp) (wpAny_pure ⟨x,rfl,wpAny_pure (hQ _ ?_ (Heap.SameBut.update ..))⟩));exact⟨_,Heap.get?_update_self _ Ou (Obj.isFreed_of_fields (Obj.data_mapFields NF _)),(Obj.cls_mapFields ..).trans VO,by
  rw[Obj.data_mapFields NF];simp[rawInt]⟩
theorem lj{it t:Addr}{i:Nat}{items:Array Value}{Q:Value->Shared->Prop}(hh:A.handled=none)(hi:s.heap.IsTupleIter it t i)(ht:s.heap.IsTuple t items)(hx:items[i]?=none)
  (hE:∀h' e,Heap.ExtBut it s.heap h'->(∃o,h'.get? e=some o/\o.cls=.type "StopIteration")->E (.ref e) { s with heap:=h' }):wpAny (model prog w) A (Builtin.SmallTypes.nextOf (.ref it)) Q E s:=by
 obtain⟨oi,Ou,VO,NF⟩:=id hi;obtain⟨ot,Sf,_,nt,Sg⟩:=ht;unfold Builtin.SmallTypes.nextOf;refine wpAny_bind (wpAny_callSpecial?_slot (name:=Str.ofString "__next__") hi.typeIs slot_tupleiter_next
  (wpAny_call_entry slot_tupleiter_next hi.typeIs entry_tupleiter_next ?_ (args_tupleiter_next _)))
 show wpAny _ _ (field (.ref it) 0 >>= _) _ _ s;refine wpAny_bind (wpAny_field Ou NF (x:=.ref t) rfl ?_);show wpAny _ _ (if (Value.ref t == Value.none)=true then _ else _) _ _ s;rw[if_neg (show ¬((Value.ref t == Value.none)=true) from Bool.false_ne_true)];show wpAny _ _ (field (.ref it) 1 >>= _) _ _ s;refine wpAny_bind (wpAny_field Ou NF (x:=.int i 0) rfl ?_);show wpAny _ _ (seqItems? (.ref t) >>= _) _ _ s;refine wpAny_bind (wpAny_seqItems Sf Sg ?_);simp only[Int.toNat_natCast,hx];refine wpAny_bind (wpAny_rule (wpAny_bind (wpAny_setField Ou NF (by simp) ?_)));show wpAny _ _ (newExc (.type "StopIteration") [] >>= _) _ _ _;refine wpAny_bind ?_;simp only[newExc,newTuple];refine wpAny_bind (wpAny_newObj_type ?_ (by size_fits));refine wpAny_bind (m:=firstArgMember _ _) (wpAny_of_eq (a:=Value.none) (by first|rfl|(simp only[firstArgMember];rfl)) ?_);refine wpAny_newObj_type ?_ (by size_fits);simp only[raiseNew];refine wpAny_bind (wpAny_handled ?_)
 first|rw[show A.in1.handled=none from hh]|rw[hh]
 refine wpAny_bind (wpAny_pure (wpAny_throw ?_));exact hE _ _ (((Heap.SameBut.update ..).extBut.push _).push _) ⟨_,Heap.get?_push_size _ rfl,rfl⟩
end
theorem xY{prog:Program}{w:World}{A:Around}(hh:A.handled=none)(it t:Addr)(Qk:t≠it)(items:Array Value) :
  Draws prog w A it [it,t] items.size (fun i v=>items[i]?=some v) (fun i h=>h.IsTupleIter it t i/\h.IsTuple t items) where
 live:=fun _ _ st=>let ⟨o,ho,_⟩:=st.1;⟨o,ho⟩
 frame:=fun _ _ _ st hk=>⟨st.1.at fun o e=>hk it (by simp) o e,let ⟨o,ho,q⟩:=st.2;⟨o,hk t (by simp) o ho,q⟩⟩
 item:=fun i s Q E hi st hQ=>by
  refine wP st.1 st.2 (x:=items[i]) (by simp[hi]) fun h' Sh OZ=>?_
  obtain⟨o,ho,q⟩:=st.2;exact hQ _ h' s.toks (by simp[hi]) ⟨Sh,⟨o,OZ.extBut t o Qk ho,q⟩⟩ OZ
 done:=fun s Q E st hE=>lj hh st.1 st.2 (by simp) hE
theorem qM{prog:Program}{w:World}{A:Around}{it:Addr}{fp:List Addr}{n:Nat}{P:Nat->Value->Prop}{St:Nat->Heap->Prop}(D:Draws prog w A it fp n P St)(c:Nat) :
  Draws prog w A it fp (n+c) (fun i v=>c<=i/\P (i-c) v) (fun i h=>c<=i/\St (i-c) h) where
 live:=fun i h st=>D.live _ h st.2
 frame:=fun i h h' st hk=>⟨st.1,D.frame _ h h' st.2 hk⟩
 item:=fun i s Q E hi st hQ=>D.item (i-c) s Q E (by have:=st.1;omega) st.2 fun x h' tk hp hs hb=>hQ x h' tk ⟨st.1,hp⟩ ⟨by have:=st.1;omega,by rw[show i+1-c=i-c+1 by have:=st.1;omega];exact hs⟩ hb
 done:=fun s Q E st hE=>D.done s Q E (by have:=st.2;rw[show n+c-c=n by omega] at this;exact this) hE
theorem q0(l:Addr)(items:Array Value)(n:Nat)(O3:Option Addr)(sl:Array (Option Value)) :
  Meets (Builtin.«enumerate.__new__» ⟨[.type "enumerate",.ref l],[]⟩) (fun _ R s=>s.heap.get? l=some { cls:=.type "tuple",dict:=O3,data:=.seq items n,slots:=sl }/\
   R (.ok (.ret (.ref (s.heap.push { cls:=.type "tuple_iterator",data:=.fields #[.ref l,.int 0 0] }).objs.size)))
    { s with heap:=(s.heap.push { cls:=.type "tuple_iterator",data:=.fields #[.ref l,.int 0 0] }).push { cls:=.type "enumerate",data:=.fields #[.none,.bool false,.ref s.heap.objs.size,rawInt 0,.none,.none] } }):=
 .of_wp fun prog w A R s h=>by
  obtain⟨hp,g,d,tk,os⟩:=s;obtain⟨hl,h⟩:=h;have Ql:=sub_enumerate;have hT:Heap.IsTuple (Shared.heap ⟨hp,g,d,tk,os⟩) l items:=⟨_,hl,rfl,n,rfl⟩
  wp_walk using wpAny_loadPart' hl
  refine wpAny_stack_any fun st=>wpAny_pure ?_
  split
  ·rename_i c _ _ _ _ _;cases(c == Value.type "enumerate")
   ·wp_walk using wpAny_loadPart' hl,wpAny_pyIter_tuple hT
    exact⟨_,rfl,h⟩
   ·wp_walk using wpAny_loadPart' hl,wpAny_pyIter_tuple hT
    exact⟨_,rfl,h⟩
  ·wp_walk using wpAny_loadPart' hl,wpAny_pyIter_tuple hT
   exact⟨_,rfl,h⟩
end DL
namespace DL
open PySem PySem.Spec PyProof.Rows L2
theorem Gq.other{P:Program}{w:World}{H:Hp}{h h':Heap}{ch:List Addr}(x:Gq P w H h)(hn:∀b∈ch,H b=none)(k:∀b u,b∉ch->h.get? b=some u->h'.get? b=some u):Gq P w H h':=fun a o e=>
 (x a o e).Jy (fun b u hb q=>k b u (fun hm=>by
  rcases hb with rfl|hb
  ·rw[hn b hm] at e;cases e
  ·rw[hn b hm] at hb;cases hb) q) (fun _ q=>q) fun _ _ q=>q
theorem Gq.add{P:Program}{w:World}{H:Hp}{h:Heap}{p:Addr}{o:HO}(x:Gq P w H h)(hp:H p=none)(new:Fe P w (upd H p o) h p o):Gq P w (upd H p o) h:=fun a u e=>by
 by_cases ha:a=p
 ·subst ha;rw[bN] at e;cases e;exact new
 ·rw[bu ha] at e;exact(x a u e).Jy (fun _ _ _ q=>q) (fun b q=>by rw[bu (bj q hp)];exact q) fun b xs q=>by rw[bu (bj q hp)];exact q
theorem Inv.LY{X:Cx}{pins:Ez}{σ:L2.St}{H:Hp}{s:Shared}{ch:List Addr}{h':Heap}{tk:Nat}{p:Addr}{o:HO}(I:Inv X pins σ H s)(hf:∀b∈ch,IM X pins H b)(k:∀b u,b∉ch->s.heap.get? b=some u->h'.get? b=some u)
  (hp:s.heap.objs.size<=p) (new:Fe X.prog X.w (upd H p o) h' p o):Inv X pins σ (upd H p o) { s with heap:=h',toks:=tk }:=by
 have QY:H p=none:=I.EI.fresh hp;have Iw:∀{b:Addr}{u:Obj},s.heap.get? b=some u->b≠p:=fun e=>Nat.ne_of_lt (Nat.lt_of_lt_of_le (Heap.lt_size e) hp)
 refine I.Oe (ch:=ch) rfl ⟨?_,?_,?_,?_,?_,?_,?_⟩ (Gq.add (Gq.other I.EI (fun b hb=>(hf b hb).1) k) QY new) I.bare fun b hb=>?_
 ·exact fun b u q _ _ hx=>k b u hx q
 ·exact fun b u q _ _ hx=>⟨u.slots,by rw[k b u hx q]⟩
 ·exact fun b u q n hx=>by rw[bu (Iw q)];exact n
 ·exact fun b u q hx=>⟨u,k b u hx q⟩
 ·exact fun b xs q=>by rw[bu (bj q QY)];exact q
 ·exact fun b ob u q=>by rw[bu (bj q QY)];exact q
 ·exact fun b ps q=>⟨#[],by rw[bu (bj q QY)];simpa using q⟩
 ·obtain⟨_,f1,_,f3,f4,f5⟩:=hf b hb;exact⟨f3,f1,f4,f5⟩
theorem j1{prog:Program}{w:World}{A:Around}{E:Value->Shared->Prop}{s:Shared}{e it a:Addr}{i:Nat}{c:Int}{old:Value}{items:Array Value}{Q:Option Value->Shared->Prop}(hh:A.handled=none)(he:IsEnum s.heap e it c old)(hit:s.heap.IsTupleIter it a i)
  (ot:s.heap.IsTuple a items) (ha:a≠it) (hx:items.size<=i) (hQ:∀h',Heap.ExtBut it s.heap h'->Q none { s with heap:=h' }):wpAny (model prog w) A (pyNext (.ref e)) Q E s:=by
 have hT:s.TypeIs (.ref e) "enumerate":=⟨_,he,rfl⟩;unfold pyNext;refine wpAny_bind (wpAny_attempt (wpAny_callSpecial?_slot (name:=Str.ofString "__next__") hT F.slot_enumerate_next
  (wpAny_call_entry F.slot_enumerate_next hT F.entry_enumerate_next ?_ (F.args_enumerate_next_1 _))))
 show wpAny _ _ (field (.ref e) 2 >>= _) _ _ _;refine wpAny_bind (wpAny_field he rfl (x:=.ref it) rfl ?_);refine wpAny_bind (lj hh hit ot (by simpa using hx) fun h' x Mr Si=>?_);obtain⟨o,ho,hc⟩:=Si;refine wpAny_bind (wpAny_isInstance (T:="StopIteration") (b:=true) ⟨o,ho,hc⟩ isSubtype_stop ?_);exact wpAny_pure (hQ _ Mr)
def Dv(K:PySem.W.Frag)(a:Addr)(c:Nat):It:=
 ⟨fun i H=>∃vs x,Hh K H a vs/\vs[i]?=some x,fun i H x H'=>∃p v,H p=none/\H'=upd H p (.tup [.int ((c+i:Nat):Int),v])/\x=.ref p/\∀vs,Hh K H a vs->vs[i]?=some v,fun i H=>∃vs,Hh K H a vs/\vs.length<=i⟩
theorem rA{P:Program}{w:World}{K:PySem.W.Frag}{elts:List Expr}{k1:Nat}{pos:Pos}(a it e:Addr)(c:Nat)(O4:e≠it) :
  Turn P w K (.Tuple elts k1 pos) (Dv K a c) [e,it] e (fun i h=>(∃old,IsEnum h e it ((c+i:Nat):Int) old)/\h.IsTupleIter it a i) where
 mem:=by simp
 obj:=fun i h st b hb=>by
  obtain⟨⟨old,he⟩,hit⟩:=st;simp at hb;rcases hb with rfl|rfl
  ·exact⟨_,he,fun v z=>by
    have z':Data.fields _=Data.cell v:=z;cases z'⟩
  ·obtain⟨o,ho,hc,hd⟩:=hit;exact⟨o,ho,fun v z=>by rw[hd] at z;cases z⟩
 keep:=fun i h h' st k=>by
  obtain⟨⟨old,he⟩,hit⟩:=st;exact⟨⟨old,k e (by simp) _ he⟩,hit.at fun o ho=>k it (by simp) o ho⟩
 item:=by
  intro X hP hw hK hc i pins s σ H E I hf st hg;subst hP hw hK;obtain⟨⟨old,he⟩,hit⟩:=st;obtain⟨vs,x,hq,hx⟩:=hg;obtain⟨u_,rv,pl,hz⟩:=I.tuple hq;have ot:s.heap.IsTuple a u_.toArray:=pl;have NG:a≠it:=by
   rintro rfl;obtain⟨o1,h1,h2,_⟩:=ot;obtain⟨o2,h3,h4,_⟩:=hit;rw[h1] at h3;cases h3;rw[h2] at h4;exact absurd h4 (by simp)
  have Sj:e≠a:=by
   rintro rfl;obtain⟨o1,h1,h2,_⟩:=ot;rw[he] at h1;cases h1;exact absurd h2 (by simp)
  have hlen:=rv.length;have OR:i<u_.length:=by
   have:=(List.getElem?_eq_some_iff.mp hx).1;omega
  have Dw:=qM (xY (prog:=X.prog) (w:=X.w) (A:=X.A.in1) (I.ok.hd hc) it a NG u_.toArray) c;refine wpAny_pyNext_enum_itemD Dw (i:=c+i) he ⟨Nat.le_add_right _ _,by rw[show c+i-c=i by omega];exact⟨hit,ot⟩⟩ (by simp;omega) O4 (by simp;exact⟨O4,Sj⟩) fun y h1 tk hP O5 I0 hT hsz hk=>?_
  obtain⟨_,hP⟩:=hP;rw[show c+i-c=i by omega] at hP;have hy:u_[i]?=some y:=by simpa using hP
  obtain⟨_,I0⟩:=I0;rw[show c+i+1-c=i+1 by omega] at I0;refine⟨_,rfl,?_⟩;refine wpAny_letOwnedTupleGo_enum O5 fun h2 NH Kc=>?_
  obtain⟨u,hu,ru⟩:=rv.get hx;rw[hy] at hu;cases hu;have Nj:H s.heap.objs.size=none:=I.EI.fresh (Nat.le_refl _);have Sk:e≠s.heap.objs.size:=Nat.ne_of_lt (Heap.lt_size he);have MK:∀b u,b∉[e,it]->s.heap.get? b=some u->h2.get? b=some u:=fun b u hb q=>by
   simp at hb;exact Kc.extBut b u hb.1 (hk b u hb.1 hb.2 q)
  have Jw:h2.get? s.heap.objs.size=some { cls:=.type "tuple",data:=.seq #[.int ((c+i:Nat):Int) tk,y] }:=Kc.extBut _ _ (Ne.symm Sk) hT;refine⟨.ref s.heap.objs.size,upd H s.heap.objs.size (.tup [.int ((c+i:Nat):Int),x]),Inv.LY (s:=s) (h':=h2) (tk:=tk+1) I hf MK (Nat.le_refl _) ⟨by show 2<=sizeLine;decide,[.int ((c+i:Nat):Int) tk,y],.cons ⟨_,rfl⟩ (.cons ru .nil),_,Jw,rfl,_,rfl⟩,rfl,
   ⟨s.heap.objs.size,x,Nj,rfl,rfl,fun ws hw=>by rw[I.Kb hw hq];exact hx⟩,⟨⟨y,?_⟩,?_⟩,?_⟩
  ·rw[show((c+(i+1):Nat):Int)=((c+i:Nat):Int)+1 by push_cast;omega];exact NH
  ·exact I0.1.extBut Kc.extBut (Ne.symm O4)
  ·intro b hb;obtain⟨f0,_⟩:=hf b hb;have:∃o,s.heap.get? b=some o:=by
    simp at hb;rcases hb with rfl|rfl
    ·exact⟨_,he⟩
    ·obtain⟨o,ho,_⟩:=hit;exact⟨o,ho⟩
   obtain⟨o,ho⟩:=this;rw[bu (Nat.ne_of_lt (Heap.lt_size ho))];exact f0
 done:=by
  intro X hP hw hK hc i pins s σ H E I hf st hg;subst hP hw hK;obtain⟨⟨old,he⟩,hit⟩:=st;obtain⟨vs,hq,hx⟩:=hg;obtain⟨u_,rv,pl,hz⟩:=I.tuple hq;have ot:s.heap.IsTuple a u_.toArray:=pl;have NG:a≠it:=by
   rintro rfl;obtain⟨o1,h1,h2,_⟩:=ot;obtain⟨o2,h3,h4,_⟩:=hit;rw[h1] at h3;cases h3;rw[h2] at h4;exact absurd h4 (by simp)
  have hlen:=rv.length;obtain⟨f0,f1,f2,f3,f4,f5⟩:=hf it (by simp);refine j1 (I.ok.hd hc) he hit ot NG (by simp;omega) fun h' eb=>⟨rfl,I.turned (t':=s.toks) (fun b o hb e=>eb b o hb e) f0 f1 f3 f4 f5⟩
 self:=fun A i s Q E st h=>by
  obtain⟨⟨old,he⟩,hit⟩:=st;exact wpAny_pyIter_enum he h
theorem GG.Ov{K:PySem.W.Frag}{H:Hp}{J:List Addr}{a:Addr}{c:Nat}{xs:List D}{g:Option (Nat×List D)}(EI:∀(H1:Hp) (J1:List Addr) (S:List Cell),Ext H J H1 J1->EB K H1 J1 S->Ig g S->∃vs,Hh K H1 a vs/\j_ K H1 J1 xs vs) :
  GG K (Dv K a c) ⟨xs.zipIdx.map fun p=>.tup [.int ((c+p.2:Nat):Int),p.1],g⟩ H J:=by
 intro H1 J1 S x rs gk;obtain⟨vs,hq,E7⟩:=EI H1 J1 S x rs gk;have hl:=E7.length;have hlen:(xs.zipIdx.map fun(p:D×Nat)=>D.tup [.int ((c+p.2:Nat):Int),p.1]).length=xs.length:=by simp
 refine⟨fun i hi=>⟨vs,vs[i]'(by rw[hl];simpa using hi),hq,by simp⟩,⟨vs,hq,by rw[hl];simp⟩,?_⟩;rintro i y H' ⟨p,v,hp,rfl,rfl,hv⟩ d hd;have JA:(xs.zipIdx.map fun(p:D×Nat)=>D.tup [.int ((c+p.2:Nat):Int),p.1])[i]?=some d:=hd;rw[List.getElem?_map,List.getElem?_zipIdx] at JA;cases e:xs[i]? with
 |none=>rw[e] at JA;cases JA
 |some z=>
  rw[e] at JA;simp only[Option.map_some,Option.some.injEq,Nat.zero_add] at JA;subst JA;obtain⟨v',h1,h2⟩:=E7.get e;have:=hv vs hq;rw[h1] at this;cases this;obtain⟨J',x',MI,Sl⟩:=Got.tup (p:=p) rs (j_.cons (r_.int K H1 J1 ((c+i:Nat):Int)) (.one h2)) hp;exact⟨J',x',MI,Sl⟩
theorem jZ{prog:Program}{w:World}{A:Around}{E:Value->Shared->Prop}{s:Shared}{e it a:Addr}{i:Nat}{c:Int}{old:Value}{items:Array Value}{Q:Option Value->Shared->Prop}(hh:A.handled=none)(he:IsEnum s.heap e it c old)(hit:s.heap.IsListIter it a i)
  (ot:s.heap.IsList a items) (ha:a≠it) (hx:items.size<=i) (hQ:∀h',Heap.ExtBut it s.heap h'->Q none { s with heap:=h' }):wpAny (model prog w) A (pyNext (.ref e)) Q E s:=by
 have hT:s.TypeIs (.ref e) "enumerate":=⟨_,he,rfl⟩;unfold pyNext;refine wpAny_bind (wpAny_attempt (wpAny_callSpecial?_slot (name:=Str.ofString "__next__") hT F.slot_enumerate_next
  (wpAny_call_entry F.slot_enumerate_next hT F.entry_enumerate_next ?_ (F.args_enumerate_next_1 _))))
 show wpAny _ _ (field (.ref e) 2 >>= _) _ _ _;refine wpAny_bind (wpAny_field he rfl (x:=.ref it) rfl ?_);refine wpAny_bind (wpAny_nextOf_list_end hh hit ot (by simpa using hx) fun h' x Mr Si=>?_);obtain⟨o,ho,hc⟩:=Si;refine wpAny_bind (wpAny_isInstance (T:="StopIteration") (b:=true) ⟨o,ho,hc⟩ isSubtype_stop ?_);exact wpAny_pure (hQ _ Mr)
def Dy(K:PySem.W.Frag)(a:Addr)(c:Nat):It:=
 ⟨fun i H=>∃vs x,GD K H a vs/\vs[i]?=some x,fun i H x H'=>∃p v,H p=none/\H'=upd H p (.tup [.int ((c+i:Nat):Int),v])/\x=.ref p/\∀vs,GD K H a vs->vs[i]?=some v,fun i H=>∃vs,GD K H a vs/\vs.length<=i⟩
theorem wC{P:Program}{w:World}{K:PySem.W.Frag}{elts:List Expr}{k1:Nat}{pos:Pos}(a it e:Addr)(c:Nat)(O4:e≠it) :
  Turn P w K (.Tuple elts k1 pos) (Dy K a c) [e,it] e (fun i h=>(∃old,IsEnum h e it ((c+i:Nat):Int) old)/\h.IsListIter it a i) where
 mem:=by simp
 obj:=fun i h st b hb=>by
  obtain⟨⟨old,he⟩,hit⟩:=st;simp at hb;rcases hb with rfl|rfl
  ·exact⟨_,he,fun v z=>by
    have z':Data.fields _=Data.cell v:=z;cases z'⟩
  ·obtain⟨o,ho,hc,hd⟩:=hit;exact⟨o,ho,fun v z=>by rw[hd] at z;cases z⟩
 keep:=fun i h h' st k=>by
  obtain⟨⟨old,he⟩,hit⟩:=st;exact⟨⟨old,k e (by simp) _ he⟩,hit.at fun o ho=>k it (by simp) o ho⟩
 item:=by
  intro X hP hw hK hc i pins s σ H E I hf st hg;subst hP hw hK;obtain⟨⟨old,he⟩,hit⟩:=st;obtain⟨vs,x,hq,hx⟩:=hg;obtain⟨u_,rv,pl,hz⟩:=I.list hq;have ot:s.heap.IsList a u_.toArray:=pl.isList;have NG:a≠it:=by
   rintro rfl;obtain⟨o1,h1,h2,_⟩:=ot;obtain⟨o2,h3,h4,_⟩:=hit;rw[h1] at h3;cases h3;rw[h2] at h4;exact absurd h4 (by simp)
  have Sj:e≠a:=by
   rintro rfl;obtain⟨o1,h1,h2,_⟩:=ot;rw[he] at h1;cases h1;exact absurd h2 (by simp)
  have hlen:=rv.length;have OR:i<u_.length:=by
   have:=(List.getElem?_eq_some_iff.mp hx).1;omega
  have Dw:=qM (Draws.list (prog:=X.prog) (w:=X.w) (A:=X.A.in1) (I.ok.hd hc) it a NG u_.toArray) c;refine wpAny_pyNext_enum_itemD Dw (i:=c+i) he ⟨Nat.le_add_right _ _,by rw[show c+i-c=i by omega];exact⟨hit,ot⟩⟩ (by simp;omega) O4 (by simp;exact⟨O4,Sj⟩) fun y h1 tk hP O5 I0 hT hsz hk=>?_
  obtain⟨_,hP⟩:=hP;rw[show c+i-c=i by omega] at hP;have hy:u_[i]?=some y:=by simpa using hP
  obtain⟨_,I0⟩:=I0;rw[show c+i+1-c=i+1 by omega] at I0;refine⟨_,rfl,?_⟩;refine wpAny_letOwnedTupleGo_enum O5 fun h2 NH Kc=>?_
  obtain⟨u,hu,ru⟩:=rv.get hx;rw[hy] at hu;cases hu;have Nj:H s.heap.objs.size=none:=I.EI.fresh (Nat.le_refl _);have Sk:e≠s.heap.objs.size:=Nat.ne_of_lt (Heap.lt_size he);have MK:∀b u,b∉[e,it]->s.heap.get? b=some u->h2.get? b=some u:=fun b u hb q=>by
   simp at hb;exact Kc.extBut b u hb.1 (hk b u hb.1 hb.2 q)
  have Jw:h2.get? s.heap.objs.size=some { cls:=.type "tuple",data:=.seq #[.int ((c+i:Nat):Int) tk,y] }:=Kc.extBut _ _ (Ne.symm Sk) hT;refine⟨.ref s.heap.objs.size,upd H s.heap.objs.size (.tup [.int ((c+i:Nat):Int),x]),Inv.LY (s:=s) (h':=h2) (tk:=tk+1) I hf MK (Nat.le_refl _) ⟨by show 2<=sizeLine;decide,[.int ((c+i:Nat):Int) tk,y],.cons ⟨_,rfl⟩ (.cons ru .nil),_,Jw,rfl,_,rfl⟩,rfl,
   ⟨s.heap.objs.size,x,Nj,rfl,rfl,fun ws hw=>by rw[I.KW hw hq];exact hx⟩,⟨⟨y,?_⟩,?_⟩,?_⟩
  ·rw[show((c+(i+1):Nat):Int)=((c+i:Nat):Int)+1 by push_cast;omega];exact NH
  ·exact I0.1.extBut Kc.extBut (Ne.symm O4)
  ·intro b hb;obtain⟨f0,_⟩:=hf b hb;have:∃o,s.heap.get? b=some o:=by
    simp at hb;rcases hb with rfl|rfl
    ·exact⟨_,he⟩
    ·obtain⟨o,ho,_⟩:=hit;exact⟨o,ho⟩
   obtain⟨o,ho⟩:=this;rw[bu (Nat.ne_of_lt (Heap.lt_size ho))];exact f0
 done:=by
  intro X hP hw hK hc i pins s σ H E I hf st hg;subst hP hw hK;obtain⟨⟨old,he⟩,hit⟩:=st;obtain⟨vs,hq,hx⟩:=hg;obtain⟨u_,rv,pl,hz⟩:=I.list hq;have ot:s.heap.IsList a u_.toArray:=pl.isList;have NG:a≠it:=by
   rintro rfl;obtain⟨o1,h1,h2,_⟩:=ot;obtain⟨o2,h3,h4,_⟩:=hit;rw[h1] at h3;cases h3;rw[h2] at h4;exact absurd h4 (by simp)
  have hlen:=rv.length;obtain⟨f0,f1,f2,f3,f4,f5⟩:=hf it (by simp);refine jZ (I.ok.hd hc) he hit ot NG (by simp;omega) fun h' eb=>⟨rfl,I.turned (t':=s.toks) (fun b o hb e=>eb b o hb e) f0 f1 f3 f4 f5⟩
 self:=fun A i s Q E st h=>by
  obtain⟨⟨old,he⟩,hit⟩:=st;exact wpAny_pyIter_enum he h
theorem GG.Qm{K:PySem.W.Frag}{H:Hp}{J:List Addr}{a:Addr}{c:Nat}{xs:List D}{g:Option (Nat×List D)}(EI:∀(H1:Hp) (J1:List Addr) (S:List Cell),Ext H J H1 J1->EB K H1 J1 S->Ig g S->∃vs,GD K H1 a vs/\j_ K H1 J1 xs vs) :
  GG K (Dy K a c) ⟨xs.zipIdx.map fun p=>.tup [.int ((c+p.2:Nat):Int),p.1],g⟩ H J:=by
 intro H1 J1 S x rs gk;obtain⟨vs,hq,E7⟩:=EI H1 J1 S x rs gk;have hl:=E7.length;have hlen:(xs.zipIdx.map fun(p:D×Nat)=>D.tup [.int ((c+p.2:Nat):Int),p.1]).length=xs.length:=by simp
 refine⟨fun i hi=>⟨vs,vs[i]'(by rw[hl];simpa using hi),hq,by simp⟩,⟨vs,hq,by rw[hl];simp⟩,?_⟩;rintro i y H' ⟨p,v,hp,rfl,rfl,hv⟩ d hd;have JA:(xs.zipIdx.map fun(p:D×Nat)=>D.tup [.int ((c+p.2:Nat):Int),p.1])[i]?=some d:=hd;rw[List.getElem?_map,List.getElem?_zipIdx] at JA;cases e:xs[i]? with
 |none=>rw[e] at JA;cases JA
 |some z=>
  rw[e] at JA;simp only[Option.map_some,Option.some.injEq,Nat.zero_add] at JA;subst JA;obtain⟨v',h1,h2⟩:=E7.get e;have:=hv vs hq;rw[h1] at this;cases this;obtain⟨J',x',MI,Sl⟩:=Got.tup (p:=p) rs (j_.cons (r_.int K H1 J1 ((c+i:Nat):Int)) (.one h2)) hp;exact⟨J',x',MI,Sl⟩
end DL
namespace DL
open PySem PySem.Spec PyProof.Rows L2
section
variable{prog:Program}{w:World}{A:Around}{E:Value->Shared->Prop}{s:Shared}
theorem rS{l:Addr}{items:Array Value}{Q:Value->Shared->Prop}(hL:s.heap.IsTuple l items)
  (h:∀h',IsEnum h' (s.heap.objs.size+1) s.heap.objs.size 0 .none->h'.IsTupleIter s.heap.objs.size l 0->(∀b o,s.heap.get? b=some o->h'.get? b=some o)->Q (.ref (s.heap.objs.size+1)) { s with heap:=h' }) :
  wpAny (model prog w) A (call (.type "enumerate") [.ref l]) Q E s:=by
 obtain⟨⟨c,O3,dt,sl⟩,hl,hc,n,hd⟩:=hL;simp only at hc hd;subst hc hd;refine callType_new F.called_enumerate (by decide) (F.typeCall_enumerate_1 _) (F.newCall_enumerate_1 _) (fun obj=>F.args_object_init_2 obj _) F.entry_enumerate_new (q0 l items n O3 sl) ⟨hl,?_⟩;have hz:(s.heap.push { cls:=.type "tuple_iterator",data:=.fields #[.ref l,.int 0 0] }).objs.size=s.heap.objs.size+1:=Heap.size_push ..;show _/\_;rw[hz];have he:IsEnum ((s.heap.push { cls:=.type "tuple_iterator",data:=.fields #[.ref l,.int 0 0] }).push { cls:=.type "enumerate",data:=.fields #[.none,.bool false,.ref s.heap.objs.size,rawInt 0,.none,.none] }) (s.heap.objs.size+1) s.heap.objs.size 0 .none:=by
  have q:=Heap.get?_push_size (s.heap.push { cls:=.type "tuple_iterator",data:=.fields #[.ref l,.int 0 0] }) (o:={ cls:=.type "enumerate",data:=.fields #[.none,.bool false,.ref s.heap.objs.size,rawInt 0,.none,.none] }) rfl;rw[hz] at q;exact q
 exact⟨⟨_,he,rfl⟩,h _ he ⟨_,Heap.get?_push_of_some _ (Heap.get?_push_size _ rfl),rfl,rfl⟩ fun b o x=>Heap.get?_push_of_some _ (Heap.get?_push_of_some _ x)⟩
end
def jv(c:Nat)(xs:List D):List D:=xs.zipIdx.map fun p=>.tup [.int ((c+p.2:Nat):Int),p.1]
def xf(c:Nat):D->M Wk
 |.tup xs=>M.ret ⟨jv c xs,none⟩
 |.ob n=>fun S=>match de S n with
  |some xs=>.ok ⟨jv c xs,some (n,xs)⟩ S
  |none=>.bad
 |_=>M.bad
def w8(c:Nat)(fe:o_->M D):o_->M Wk:=fun r=>(fe r).bind (xf c)
section
variable{X:Cx}{e:Expr}{fe:o_->M D}{pos:Pos}{elts:List Expr}{k1:Nat}{Jb:Pos}
theorem uf{pins:Ez}{σ:L2.St}{H:Hp}{s:Shared}(I:Inv X pins σ H s):∀b∈[s.heap.objs.size+1,s.heap.objs.size],IM X pins H b:=fun b hb=>by
 simp at hb;rcases hb with rfl|rfl
 ·exact I.L5 (Nat.le_succ _) (I.EI.fresh (Nat.le_succ _))
 ·exact I.L5 (Nat.le_refl _) (I.EI.fresh (Nat.le_refl _))
theorem yP{p:Pos}(hg:Gl X "enumerate")(hm:X.mg "enumerate"=none)(he:E_ X e fe)(hs:starEach [e] X.env=[(false,eval e X.env)]:=by rfl):PId X (.Tuple elts k1 Jb) (.Call (.Name "enumerate" p) [e] [] pos) (w8 0 fe):=by
 intro pins s σ H J r S Q E I m;have m':LX X pins σ H J (.Tuple elts k1 Jb) ((ac fe ai r).bind (ug (xf 0)) S) Q E:=by
  unfold w8 M.bind at m;unfold ac ai M.bind M.ret;cases e1:fe r S<;>(rw[e1] at m;exact m)
 refine Call_ (lS I.inv hg hm boot_enumerate (PyProof.Rows.callWith_type1 (QW (af he ah (by rw[hs];rfl)) I m' (fun xs S1 s1 H1 J1 vs us I1 rv r1 m1=>?_) pos) hs rfl))
 match xs,m1,rv with
 |[],m1,rv=>exact m1.elim
 |_ :: _ :: _,m1,rv=>exact m1.elim
 |[x],m1,rv=>
  obtain⟨v,rfl,h1⟩:=rv.Ih;obtain⟨u,rfl,ru⟩:=Vals.one r1
  change LX X pins σ H1 J1 (.Tuple elts k1 Jb) (xf 0 x S1) Q E at m1
  cases x with
  |tup ys=>
   obtain⟨a,ws,rfl,hq,E7⟩:=h1.HM;cases ru;obtain⟨u_,rl,pl,hz⟩:=I1.inv.tuple hq;refine rS pl fun h' Mr K5 hk'=>wpAny_pyIter_enum Mr ?_
   refine m1 _ _ ⟨s1.heap.objs.size+1,[s1.heap.objs.size+1,s1.heap.objs.size],_,_,H1,rfl,I1.inv.kept (t':=s1.toks) hk',rA a s1.heap.objs.size (s1.heap.objs.size+1) 0 (Nat.succ_ne_self _),⟨⟨_,Mr⟩,K5⟩,uf I1.inv,J1,Ext.refl _ _,I1.st,trivial,?_⟩;exact GG.Ov fun H2 J2 S2 x2 Ie _=>⟨ws,Hh.ext x2 hq,E7.ext x2⟩
  |ob n=>
   obtain⟨a,rfl,hn⟩:=h1.HN;cases ru;simp only[xf] at m1;cases e1:de S1 n with
   |none=>rw[e1] at m1;exact m1.elim
   |some ys=>
    rw[e1] at m1;obtain⟨ws,hv,E7⟩:=I1.st.lst e1 hn;obtain⟨u_,rl,pl,hz⟩:=I1.inv.list (GD.of hv);refine call_enumerate_list pl.isList fun h' Mr K5 QZ hk'=>wpAny_pyIter_enum Mr ?_
    refine m1 _ _ ⟨s1.heap.objs.size+1,[s1.heap.objs.size+1,s1.heap.objs.size],_,_,H1,rfl,I1.inv.kept (t':=s1.toks) hk',wC a s1.heap.objs.size (s1.heap.objs.size+1) 0 (Nat.succ_ne_self _),⟨⟨_,Mr⟩,K5⟩,uf I1.inv,J1,Ext.refl _ _,I1.st,q8 e1,?_⟩;refine GG.Qm fun H2 J2 S2 x2 Ie gk=>?_
    have Pq:J2[n]?=some a:=by
     obtain⟨m,em⟩:=x2.pre;rw[em,List.getElem?_append_left (List.getElem?_eq_some_iff.mp hn).1];exact hn
    obtain⟨XJ,h2,Kk⟩:=Ie.at_ n _ a gk Pq;exact⟨XJ,GD.of h2,Kk⟩
  |_=>exact m1.elim
def O6(X:Cx)(id:String)(g:D->List D->M D):Prop:=∀(pins:Ez) (s:Shared) (σ:L2.St) (H:Hp) (J:List Addr) (S:List Cell) (x:D) (xs:List D) (vx:V) (vs:List V) (v:Value) (us:List Value) (Q E:Value->Shared->Prop),
 Inv X pins σ H s->EB X.K H J S->r_ X.K H J x vx->j_ X.K H J xs vs->RelV vx v->Vals vs us->Mt X pins σ H J (g x xs S) Q E->wpAny (model X.prog X.w) X.A (call (.builtin id) (v :: us)) Q E s
theorem Cc{es:List Expr}{ft:o_->M (List D)}(h:KS X es ft){k:List D->M D}{pins:Ez}{s:Shared}{σ:L2.St}{H:Hp}{J:List Addr}{r:o_}{S:List Cell}{Q E:Value->Shared->Prop}{Q':List Value->Shared->Prop}(I:At X pins σ H J r S s)
  (m:Mt X pins σ H J ((ft r).bind k S) Q E) (hk:∀xs S1 s1 H1 J1 vs us,At X pins σ H1 J1 r S1 s1->Ext H J H1 J1->j_ X.K H1 J1 xs vs->Vals vs us->Mt X pins σ H1 J1 (k xs S1) Q E->Q' us s1) (pos:Pos) :
  wpAny (model X.prog X.w) X.A (spliced (backTo pos (starEach es X.env))) Q' E s:=by
 refine h pos pins s σ H J r S _ E I ?_;unfold M.bind at m;cases e1:ft r S with
 |bad=>rw[e1] at m;exact m
 |exc c S1=>rw[e1] at m;exact m
 |ok x S1=>
  rw[e1] at m;intro us s1 ⟨vs,H1,I1,r1,J1,Hj,Hy,GX⟩;exact hk x S1 s1 H1 J1 vs us ⟨I1,I.loc.ext Hj,Hy⟩ Hj GX r1 (Mt.ext Hj m)
def AD(x:D):M Unit:=fun S=>match x with
 |.ob n=>(match de S n with
  |some _=>.ok () S
  |none=>.bad)
 |_=>.bad
def Ij(g:D->List D->M D)(fo:o_->M D)(ft:o_->M (List D)):o_->M D:=fun r=>(fo r).bind fun x=>(AD x).bind fun _=>(ft r).bind fun xs=>g x xs
theorem eW{o:Expr}{es:List Expr}{fo:o_->M D}{ft:o_->M (List D)}{name:Str}{apos Fp:Pos}{id:String}{g:D->List D->M D}(slot:Slot "list" name id)(Sm:typeOf (.builtin id)=pure (.type "method_descriptor"))(hm:O6 X id g)
  (ho:E_ X o fo) (ha:KS X (e :: es) ft)
  (Je:attributeBase o name X.env (eval o X.env)=eval o X.env:=by rfl)
  (LC:((backTo Fp (starEach (e :: es) X.env)).all (fun x=>!x.1) && (backToKw Fp (keywordEach [] X.env)).all (fun x=>x.1.isSome)
   && decide ((e :: es).length+([]:List Keyword).length+(if ([]:List Keyword).isEmpty then 0 else 1)<30))=true:=by rfl)
  (Jf:(apos.endLine == Fp.line)=true:=by rfl) (hs:starEach (e :: es) X.env=(false,eval e X.env) :: starEach es X.env:=by rfl) (Jg:(backTo Fp (starEach es X.env)).any (·.1)=false:=by rfl) :
  E_ X (.Call (.Attribute o name apos) (e :: es) [] Fp) (Ij g fo ft):=by
 intro pins s σ H J r S Q E I m;refine wpAny_Call_method_late Je LC Jf rfl (ho pins s σ H J r S _ E I ?_);unfold Ij M.bind at m;cases e1:fo r S with
 |bad=>rw[e1] at m;exact m
 |exc c S1=>rw[e1] at m;exact m
 |ok x S1=>
  rw[e1] at m;dsimp only at m;rintro v s1 ⟨vx,H1,I1,r1,J1,Hj,Hy,GX⟩;cases x with
  |ob n=>
   obtain⟨a,rfl,hn⟩:=GX.HN;simp only[AD] at m;cases e2:de S1 n with
   |none=>rw[e2] at m;exact m.elim
   |some xs=>
    rw[e2] at m;obtain⟨ws,hv,E7⟩:=Hy.lst e2 hn;obtain⟨h1,h2⟩:=CA I1 r1 (T:="list") (.inl ⟨rfl,ws,GD.of hv⟩);refine⟨"list",id,PySem.F.plainAttrs_list,slot,Sm,h1,h2,?_⟩;have m:=Mt.ext Hj m;have hA:=Cc (k:=fun xs=>g (.ob n) xs) (Q':=fun us s2=>wpAny (model X.prog X.w) X.A (call (.builtin id) (v :: us)) Q E s2) ha ⟨I1,I.loc.ext Hj,Hy⟩ m (fun xs S2 s2 H2 J2 vs us I2 x2 rv r2 m2=>?_) Fp
    ·rw[hs] at hA ⊢;exact Calls.callWith_builtin (by show(false || (backTo Fp (starEach es X.env)).any (·.1))=false;rw[Jg]<;>rfl) (Calls.evalArgs_plain hA)
    ·exact hm pins s2 σ H2 J2 S2 (.ob n) xs (.ref a) vs v us Q E I2.inv I2.st (GX.ext x2) rv r1 r2 m2
  |_=>exact m.elim
def kT:D->List D->M D
 |.ob n,[y]=>fun S=>match de S n with
  |some xs=>G5 (xs.length<sizeLine) (.ok .B_ (S.set n (.lst (xs++[y])))) .bad
  |none=>.bad
 |_,_=>M.bad
theorem eh:O6 X "list.append" kT:=by
 intro pins s σ H J S x xs vx vs v us Q E I rs rx Kn rv E7 m
 match x,xs,m,rx,Kn with
 |.ob n,[y],m,rx,Kn=>
  obtain⟨a,rfl,hn⟩:=rx.HN;obtain⟨w,rfl,HV⟩:=Kn.Ih;simp only[kT,G5] at m;cases e1:de S n with
  |none=>rw[e1] at m;exact m.elim
  |some xs=>
   rw[e1] at m;dsimp only at m;obtain⟨ws,hv,rws⟩:=rs.lst e1 hn;split at m
   ·rename_i hz;refine wpAny_mono (sR (X:=X.EV E) pins s σ H (.ref a) [w] v us (Got X.K H J .B_ (S.set n (.lst (xs++[y])))) (I.EV E) rv E7 ⟨a,ws,w,rfl,rfl,hv,by rw[rws.length];exact hz,?_⟩) (fun u s' q=>m u s' (EP.ET q)) fun _ _ z=>z
    have x9:Ext H J (upd H a (.lst (ws++[w]))) J:=Ext.write hv rfl;exact⟨J,x9,rs.write hn ⟨_,bN,(rws.ext x9).append (.one (HV.ext x9))⟩,r_.B_ _ _ _⟩
   ·exact m.elim
 |.ob n,[],m,_,_=>exact m.elim
 |.ob n,_ :: _ :: _,m,_,_=>exact m.elim
 |.B_,xs,m,_,_=>cases xs<;>exact m.elim
 |.bl _,xs,m,_,_=>cases xs<;>exact m.elim
 |.int _,xs,m,_,_=>cases xs<;>exact m.elim
 |.str _,xs,m,_,_=>cases xs<;>exact m.elim
 |.tup _,xs,m,_,_=>cases xs<;>exact m.elim
 |.FC _,xs,m,_,_=>cases xs<;>exact m.elim
 |.xn _,xs,m,_,_=>cases xs<;>exact m.elim
end
end DL
namespace DL
open PySem PySem.Spec PyProof.Rows L2
structure Gm(P:Program)(w:World)(K:PySem.W.Frag)(mg:Str->Option Value)(base:Heap)(CX:Iz)(x:Str)(k:Nat)(ps:List Str)(F:List D->M D):Prop where
 ex:∃f fd,mg x=some (.ref f)/\PySem.W.keepIn K (.ref f)=true/\Binds K fd ps []/\Fq P w K mg base CX k f fd ps F
theorem aO{X:Cx}{CX:Iz}{k:Nat}{ps:List Str}{F:List D->M D}{x:Str}{p pos:Pos}{e:Expr}{es:List Expr}{ft:o_->M (List D)}(h:Gm X.prog X.w X.K X.mg X.base CX x k ps F)(hr:FL k X.A)(hg:Gl X x)(hx:pj CX X)(ha:KS X (e :: es) ft)
  (hl:∀r S xs S',ft r S=.ok xs S'->xs.length=ps.length)
  (L8:(x == ("__debug__":Str))=false:=by decide) (he:starEach (e :: es) X.env=(false,eval e X.env) :: starEach es X.env:=by rfl) (Kd:(backTo pos (starEach es X.env)).any (·.1)=false:=by rfl) :
  E_ X (.Call (.Name x p) (e :: es) [] pos) (am F ft):=by
 obtain⟨f,fd,hm,hk,hb,hF⟩:=h.ex;exact Bj hF hr hg hm hk hb hx ha hl L8 he Kd
theorem aF:∀(r:o_) (S:List Cell) (xs:List D) (S':List Cell),ai r S=.ok xs S'->xs.length=0:=by
 intro r S xs S' e;cases e;rfl
theorem ak{n:Nat}{f:o_->M D}{g:o_->M (List D)}(h:∀(r:o_) (S:List Cell) (xs:List D) (S':List Cell),g r S=.ok xs S'->xs.length=n):∀(r:o_) (S:List Cell) (xs:List D) (S':List Cell),ac f g r S=.ok xs S'->xs.length=n+1:=by
 intro r S xs S' e;unfold ac M.bind at e;cases e1:f r S with
 |bad=>rw[e1] at e;cases e
 |exc c S1=>rw[e1] at e;cases e
 |ok x S1=>
  rw[e1] at e;dsimp only at e;cases e2:g r S1 with
  |bad=>rw[e2] at e;cases e
  |exc c S1=>rw[e2] at e;cases e
  |ok ys S2=>
   rw[e2] at e;have e':R.ok (x :: ys) S2=R.ok xs S':=e
   injection e' with e3 e4
   rw[<-e3,List.length_cons,h r S1 ys S2 e2]
def fin(S0:List Cell):Lo->R D
 |some (.rt d,S')=>.ok d S'
 |some (.nx _,S')=>.ok .B_ S'
 |some (.xc c _,S')=>.exc c S'
 |_=>.bad
theorem nL{S0:List Cell}{x:Lo}:Cj S0 x (fin S0 x):=by
 match x with
 |none=>trivial
 |some (.rt d,S')=>exact⟨[],.inl rfl,.inl (by rw[List.append_nil])⟩
 |some (.nx r,S')=>exact⟨[],.inl rfl,.inr ⟨rfl,r,by rw[List.append_nil]⟩⟩
 |some (.xc c r,S')=>exact⟨r,rfl⟩
 |some (.bk r,S')=>trivial
 |some (.ct r,S')=>trivial
open Classical in
def cY(S0:List Cell):Lo->R D
 |some (.rt d,S')=>if (∃G,S'=S0++G)/\FY S0.length d then .ok d S0 else .bad
 |some (.nx _,S')=>if ∃G,S'=S0++G then .ok .B_ S0 else .bad
 |some (.xc c _,S')=>.exc c S'
 |_=>.bad
theorem xV{S0:List Cell}{x:Lo}:Cj S0 x (cY S0 x):=by
 match x with
 |none=>trivial
 |some (.rt d,S')=>
  simp only[cY];by_cases h:(∃G,S'=S0++G)/\FY S0.length d
  ·rw[if_pos h];obtain⟨⟨G,rfl⟩,hd⟩:=h;exact⟨G,.inr ⟨Nat.le_refl _,hd,.inl rfl⟩,.inl rfl⟩
  ·rw[if_neg h];trivial
 |some (.nx r,S')=>
  simp only[cY];by_cases h:∃G,S'=S0++G
  ·rw[if_pos h];obtain⟨G,rfl⟩:=h;exact⟨G,.inr ⟨Nat.le_refl _,by unfold FY;trivial,.inl rfl⟩,.inr ⟨rfl,r,rfl⟩⟩
  ·rw[if_neg h];trivial
 |some (.xc c r,S')=>exact⟨r,rfl⟩
 |some (.bk r,S')=>trivial
 |some (.ct r,S')=>trivial
def gD:o_->M Bool:=fun _=>M.ret true
def Hl:D->D->M D:=tu fun i j=>decide (i<j)
def LZ:D->D->M D:=tu fun i j=>decide (i<=j)
def ML:D->D->M D:=tu fun i j=>decide (j<i)
def IQ:D->D->M D:=tu fun i j=>decide (j<=i)
def B6:List D->M D:=vH fun i j=>if j > i then j else i
def yE:List D->M D:=vH fun i j=>if j<i then j else i
def PD(g:D->M D)(fa:o_->M D):o_->M D:=fun r=>(fa r).bind g
theorem CZ{X:Cx}{a:Expr}{fa:o_->M D}{pos:Pos}{op:UnaryOp}{g:D->M D}(ho:Qb X (unaryOp op) g)(ha:E_ X a fa):E_ X (.UnaryOp op a pos) (PD g fa):=by
 intro pins s σ H J r S Q E I m;refine UnaryOp_ (ha pins s σ H J r S _ E I ?_);unfold PD M.bind at m;cases e1:fa r S with
 |bad=>rw[e1] at m;exact m
 |exc c S1=>rw[e1] at m;exact m
 |ok x S1=>
  rw[e1] at m;rintro v s1 ⟨vx,H1,I1,r1,J1,ex,rs,rv⟩;exact ho pins s1 σ H1 J1 S1 x vx v Q E I1 rs rv r1 (Mt.ext ex m)
def AY:D->M D
 |.int i=>M.ret (.int (-i))
 |_=>M.bad
theorem CL{X:Cx}:Qb X (unaryOp .USub) AY:=by
 refine Qb.of (fun E=>Cp) (fun H J S x vx d S' rs rx e=>?_) (fun x S c S' e=>?_)
 ·cases x with
  |int i=>
   cases rx.FO;cases e;exact⟨i,rfl,J,Ext.refl _ _,rs,r_.int _ _ _ _⟩
  |_=>cases e
 ·cases x with
  |int i=>cases e
  |_=>cases e
def qX(x:D):M Bool:=fun S=>match x with
 |.B_=>.ok false S
 |.bl b=>.ok b S
 |.int i=>.ok (i != 0) S
 |.tup xs=>.ok (!xs.isEmpty) S
 |.FC xs=>.ok (!xs.isEmpty) S
 |.ob n=>(match S[n]? with
  |some (.lst xs)=>.ok (!xs.isEmpty) S
  |some (.FN kvs)=>.ok (!kvs.isEmpty) S
  |_=>.bad)
 |_=>.bad
def bW(f:o_->M D):o_->M Bool:=fun r=>(f r).bind qX
theorem j_.isEmpty{K:PySem.W.Frag}{H:Hp}{J:List Addr}{xs:List D}{vs:List V}(h:j_ K H J xs vs):vs.isEmpty=xs.isEmpty:=by
 have:=h.length;cases xs with
 |nil=>cases vs with
  |nil=>rfl
  |cons _ _=>cases this
 |cons _ _=>cases vs with
  |nil=>cases this
  |cons _ _=>rfl
theorem Eu.isEmpty{κ:Type}{K:PySem.W.Frag}{H:Hp}{J:List Addr}{xs:List (κ×D)}{vs:List (κ×V)}(h:Eu K H J xs vs):vs.isEmpty=xs.isEmpty:=by
 have:=h.length;cases xs with
 |nil=>cases vs with
  |nil=>rfl
  |cons _ _=>cases this
 |cons _ _=>cases vs with
  |nil=>cases this
  |cons _ _=>rfl
theorem cL{X:Cx}{a:Expr}{fa:o_->M D}(ha:E_ X a fa)(he:∀whole,isTrue a X.env whole=(do let v <-whole;standAt a.pos;holding [v] (truthy v)):=by intro _;rfl):LW X a (bW fa):=by
 intro pins s σ H J r S Q E I m;refine isTrue_plain (ha pins s σ H J r S _ E I ?_) (he _);unfold bW M.bind at m;cases e1:fa r S with
 |bad=>rw[e1] at m;exact m
 |exc c S1=>rw[e1] at m;exact m
 |ok x S1=>
  rw[e1] at m;rintro v s1 ⟨vx,H1,I1,r1,J1,ex,rs,rv⟩;have fin:∀k,Do X.K vx H1 k->qX x S1=.ok k S1->wpAny (model X.prog X.w) X.A (truthy v) Q E s1:=fun k ht hk=>by
   dsimp only at m;rw[hk] at m;exact wpAny_mono (Ck (X:=X.EV E) pins s1 σ H1 vx v (fun b H'=>b=k/\H'=H1) (I1.EV E) r1 ⟨k,ht,rfl,rfl⟩) (fun b s2 ⟨H2,I2,hb,hH⟩=>by subst hb hH;exact m s2 ⟨_,I2.ET,J1,ex,rs⟩) fun _ _ z=>z
  cases x with
  |B_=>cases rv.Lv;exact fin false rfl rfl
  |bl b=>cases rv.Ni;exact fin b rfl rfl
  |int i=>cases rv.FO;exact fin _ rfl rfl
  |tup xs=>
   obtain⟨a,vs,rfl,hq,E7⟩:=rv.HM;exact fin _ (.inr (.inl ⟨vs,hq,by rw[E7.isEmpty]⟩)) rfl
  |FC xs=>
   obtain⟨a,vs,rfl,hq,E7⟩:=rv.Kl;exact fin _ (.inl ⟨vs,hq.sq,by rw[E7.isEmpty]⟩) rfl
  |ob n=>
   obtain⟨a,rfl,hn⟩:=rv.HN;obtain⟨c,hc,rc⟩:=rs.Jd hn;cases c with
   |lst xs=>
    obtain⟨vs,hv,E7⟩:=rc;exact fin (!xs.isEmpty) (.inl ⟨vs,GD.of hv,by rw[E7.isEmpty]⟩) (by simp only[qX,hc])
   |FN xs=>
    obtain⟨vs,hv,E7⟩:=rc;exact fin (!xs.isEmpty) (.inr (.inr ⟨vs,hv,by rw[E7.isEmpty]⟩)) (by simp only[qX,hc])
   |ins C ns ds=>
    dsimp only[qX] at m;rw[hc] at m;exact m.elim
  |_=>exact m.elim
def HB(X:Cx):List (Str×Addr)->Prop
 |[]=>True
 |p :: r=>X.env.cells.lookup p.1=some p.2/\HB X r
theorem HB.all{X:Cx}:∀{cl:List (Str×Addr)},HB X cl->∀p∈cl,X.env.cells.lookup p.1=some p.2
 |[],_,p,hp=>by cases hp
 |q :: r,h,p,hp=>by
  rcases List.mem_cons.mp hp with rfl|hp
  ·exact h.1
  ·exact HB.all h.2 p hp
def xE(K:PySem.W.Frag):Sp:=fun vs H Q _=>∃(a:Addr) (ns:List Int),vs=[.ref a]/\GD K H a (ns.map V.int)/\ns.length<=63/\By H/\∀H',Q (.bl true) H'
theorem Ac{K:PySem.W.Frag}{F:List D->M D}(hF:∀ns:List Int,ns.length<=63->∃S',F [.FC (ns.map D.int)] []=.ok (.bl true) S'):∀vs H Q E,xE K vs H Q E->VH K 1 F vs H Q E:=by
 rintro vs H Q E ⟨a,ns,rfl,hS,hl,ho,k⟩;refine⟨rfl,[],[.FC (ns.map D.int)],[],?_,⟨rfl,List.nodup_nil,fun n c a h=>by simp at h⟩,?_⟩
 ·refine .one ?_;unfold r_;refine⟨a,ns.map V.int,rfl,?_,j_.ints ns⟩;rcases hS with (h|⟨o,h⟩)|h
  ·rcases ho a with e|⟨o,xs,e⟩
   ·rw[h] at e;cases e
   ·rw[h] at e;cases e
  ·exact .inl ⟨o,h⟩
  ·exact .inr h
 ·obtain⟨S',e⟩:=hF ns hl;rw[e];rintro v H' ⟨J',_,_,rv⟩;rw[rv.Ni];exact k H'
end DL
namespace DL
open PySem PySem.Spec PyProof.Rows L2
@[simp] theorem DB{α:Type}{a b:α}:G5 True a b=a:=cg trivial
@[simp] theorem CQ{α:Type}{a b:α}:G5 False a b=b:=uh (fun h=>h)
theorem eN{g:Option (Nat×List D)}{tg:JE}{b:EL}(Iv:Nat->o_->List Cell->Prop):∀(items:List D) (k:Nat) (r:o_) (S:List Cell),
  (∀i x r S,items[i]?=some x->Iv (k+i) r S->∃r1 r2 S2,tg x r=some r1/\b r1 S=some (.nx r2,S2)/\Ig g S2/\Iv (k+i+1) r2 S2)->Iv k r S->
  ∃r' S',iU g tg b items r S=some (.nx r',S')/\Iv (k+items.length) r' S'
 |[],k,r,S,_,h=>⟨r,S,rfl,by simpa using h⟩
 |x :: xs,k,r,S,hs,h=>by
  obtain⟨r1,r2,S2,h1,h2,h3,h4⟩:=hs 0 x r S rfl h;obtain⟨r',S',e1,e2⟩:=eN Iv xs (k+1) r2 S2 (fun i y r S hy hi=>by
   have:=hs (i+1) y r S (by simpa using hy) (by rw[show k+(i+1)=k+1+i by omega];exact hi);rw[show k+(i+1)+1=k+1+i+1 by omega] at this;exact this) h4
  refine⟨r',S',?_,by rw[List.length_cons,show k+(xs.length+1)=k+1+xs.length by omega];exact e2⟩;unfold iU;rw[h1];dsimp only;rw[h2];dsimp only;rw[if_pos h3];exact e1
theorem vC(S:List Cell)(n:Nat):∀is:List Int,Ii S (n+1) (is.map D.int)=some (is.map PyData.int)
 |[]=>by simp[Ii]
 |i :: is=>by simp[Ii,pD,vC S n is]
theorem qb(S:List Cell)(n:Nat)(is:List Int):pD S (n+2) (.tup (is.map D.int))=some (.tuple (is.map PyData.int)):=by
 simp[pD,vC]
theorem pc:∀is js:List Int,PyData.eqvAll (is.map PyData.int) (js.map PyData.int)=decide (is=js)
 |[],[]=>by simp[PyData.eqvAll]
 |[],_ :: _=>by simp[PyData.eqvAll]
 |_ :: _,[]=>by simp[PyData.eqvAll]
 |i :: is,j :: js=>by
  simp only[List.map_cons,PyData.eqvAll,PyData.eqv,pc is js,List.cons.injEq];by_cases h1:i=j<;>by_cases h2:is=js<;>simp[h1,h2]
theorem zw(S:List Cell)(is js:List Int):Gr (.tup (is.map D.int)) (.tup (js.map D.int)) S=.ok (.bl (!decide (is=js))) S:=by
 simp only[Gr,qb S 28,PyData.eqv,pc]
theorem AL(S:List Cell)(i j:Int):EE (.int i) (.int j) S=.ok (.bl (decide (i=j))) S:=by
 have e:(i == j)=decide (i=j):=by
  by_cases h:i=j<;>simp[h]
 simp only[EE,pD,PyData.eqv,e]
theorem AR(S:List Cell)(i j:Int):Gr (.int i) (.int j) S=.ok (.bl (!decide (i=j))) S:=by
 have e:(i == j)=decide (i=j):=by
  by_cases h:i=j<;>simp[h]
 simp only[Gr,pD,PyData.eqv,e]
theorem wN{S:List Cell}{n:Nat}(h:n<=1000000):u7 0 (n:Int) 1 S=.ok ⟨iO 0 1 n,none⟩ S:=by
 have hs:Builtin.Range.small 0 (n:Int) 1=true:=small_one (by omega) (by omega) (by omega) (by omega);unfold u7;have e:(if (0:Int)<(n:Int) then (n:Int)-0 else 0).toNat=n:=by split<;>omega
 rw[cg ⟨⟨by omega,by omega⟩,hs⟩,rangeSize_one,e]
theorem sC{xs:List D}{k:Nat}(h:k<=xs.length):gr xs none (some (k:Int))=xs.take k:=by
 unfold gr;rw[HT.Ia,HT.G8,Nat.min_eq_left h];simp
theorem eO{xs:List D}{k:Nat}(h:k<=xs.length):gr xs (some (k:Int)) none=xs.drop k:=by
 unfold gr;rw[HT.Ia,HT.G8,Nat.min_eq_left h];rw[List.take_of_length_le];simp
end DL
namespace DL
open PySem PySem.Spec PyProof.Rows L2
open AutoSeq1 (wpAny_loadPart')
open SeqAt
theorem j9{prog:Program}{w:World}{A:Around}{items:Array Value}{x:Value}{e:Value->Bool}{j:Nat}(hj:j<items.size)(hit:e items[j]=true)(LR:∀m (hm:m<items.size),m<j->e items[m]=false){s:Shared}
  (he:∀y,y∈items->EqAt A s y x (e y)) {Q:Option PySem.Fin×PUnit->Shared->Prop}{E:Value->Shared->Prop}(hQ:Q (some (.done (.ret (.int j s.toks))),()) { s with toks:=s.toks+1 }):∀(k pre:Nat),pre+k=items.size->pre<=j->
  wpAny (model prog w) A (forIn (List.range' pre k) ((none,()):Option PySem.Fin×PUnit) fun(i:Nat) (_:Option PySem.Fin×PUnit)=>match items[i]? with
      |some y=>do
       let b <-eqBool y x
       if b=true then do
         let r <-retInt ((i:Nat):Int)
         pure (ForInStep.done (some r,()))
        else pure (ForInStep.yield (none,()))
      |_=>pure (ForInStep.yield (none,()))) Q E s
 |0,pre,h1,h2=>by omega
 |k+1,pre,h1,h2=>by
  rw[List.range'_succ,List.forIn_cons];have hp:pre<items.size:=by omega
  have hg:items[pre]?=some items[pre]:=by simp[hp]
  rw[hg];dsimp only;refine wpAny_bind (wpAny_bind (he _ (Array.getElem_mem hp) prog w E _ ?_));by_cases XM:pre=j
  ·subst XM;rw[hit,if_pos rfl];refine wpAny_bind (m:=retInt _) (wpAny_bind (wpAny_mkInt (wpAny_pure ?_)));exact wpAny_pure (wpAny_pure hQ)
  ·rw[LR pre hp (by omega),if_neg (by decide)];exact wpAny_pure (j9 hj hit LR he hQ k (pre+1) (by omega) (by omega))
theorem oa(l:Addr)(items:Array Value)(n:Nat)(dd:Option Addr)(sl:Array (Option Value))(x:Value)(e:Value->Bool)(j:Nat)(hj:j<items.size)
  (hit:e items[j]=true) (LR:∀m (hm:m<items.size),m<j->e items[m]=false) :
  Meets (Builtin.«tuple.index» ⟨[.ref l,x],[]⟩)
   (fun A R s=>s.heap.get? l=some { cls:=.type "tuple",dict:=dd,data:=.seq items n,slots:=sl }/\(∀y,y∈items->EqAt A.in1 s y x (e y))/\R (.ok (.ret (.int j s.toks))) { s with toks:=s.toks+1 }):=by
 refine .of_wp fun prog w A R s h=>?_
 obtain⟨hp,g,d,tk,os⟩:=s;obtain⟨hl,he,h⟩:=h;unfold Builtin.«tuple.index»;simp only[Std.Legacy.Range.forIn_eq_forIn_range']
 wp_walk using wpAny_loadPart' hl
 refine j9 (s:=⟨hp,g,d,tk,os⟩) hj hit LR he ?_ _ 0 ?_ (Nat.zero_le _)
 ·exact wpAny_pure ⟨_,rfl,h⟩
 ·simp[Std.Legacy.Range.size]
def fv:D->Option V
 |.B_=>some .B_
 |.bl b=>some (.bl b)
 |.int i=>some (.int i)
 |.str x=>some (.str x)
 |_=>none
def NI:List D->Option (List V)
 |[]=>some []
 |x :: xs=>match fv x,NI xs with
  |some v,some vs=>some (v :: vs)
  |_,_=>none
theorem wv{K:PySem.W.Frag}{H:Hp}{J:List Addr}{d:D}{v w:V}(h:fv d=some w)(r:r_ K H J d v):v=w/\j2 w=true:=by
 cases d with
 |B_=>cases h;exact⟨r.Lv,rfl⟩
 |bl b=>cases h;exact⟨r.Ni,rfl⟩
 |int b=>cases h;exact⟨r.FO,rfl⟩
 |str b=>cases h;exact⟨r.ME,rfl⟩
 |_=>cases h
theorem ut{K:PySem.W.Frag}{H:Hp}{J:List Addr}:∀{xs:List D}{vs ws:List V},NI xs=some ws->j_ K H J xs vs->vs=ws/\ws.all j2=true
 |[],vs,ws,h,r=>by
  cases h;unfold j_ at r;exact⟨r,rfl⟩
 |x :: xs,vs,ws,h,r=>by
  unfold j_ at r;obtain⟨v,t,rfl,r1,r2⟩:=r;unfold NI at h;cases e1:fv x with
  |none=>rw[e1] at h;cases h
  |some w=>
   cases e2:NI xs with
   |none=>rw[e1,e2] at h;cases h
   |some VP=>
    rw[e1,e2] at h;cases h;obtain⟨rfl,h1⟩:=wv e1 r1;obtain⟨rfl,h2⟩:=ut e2 r2;exact⟨rfl,by simp[h1,h2]⟩
def inD(x y:D):M D:=fun S=>match fv x,iq S y with
 |some w,some ys=>(match NI ys with
  |some ws=>.ok (.bl (LS w ws)) S
  |none=>.bad)
 |_,_=>.bad
section
variable{X:Cx}
theorem Dp(hu:X.A.units+64<cLine):Iu X (compareOp .In) inD:=by
 intro pins s σ H J S x y vx vy v u Q E I rs rx ry rv ru m;unfold inD at m;cases e1:fv x with
 |none=>rw[e1] at m;exact m.elim
 |some w=>
  cases e2:iq S y with
  |none=>rw[e1,e2] at m;exact m.elim
  |some ys=>
   rw[e1,e2] at m;dsimp only at m;cases e3:NI ys with
   |none=>rw[e3] at m;exact m.elim
   |some ws=>
    rw[e3] at m;obtain⟨rfl,h1⟩:=wv e1 rx;obtain⟨a,vs,rfl,hq,E7⟩:=ma rs ry e2;obtain⟨rfl,h2⟩:=ut e3 E7;exact wpAny_mono (yk (X:=X.EV E) pins s σ H vx (.ref a) v u (Got X.K H J (.bl (LS vx vs)) S) (I.EV E) rv ru ⟨a,vs,rfl,hq,h1,h2,J,Ext.refl _ _,rs,r_.bl _ _ _ _⟩) (fun u s' q=>m u s' (EP.ET q)) fun _ _ z=>z
def lx:List D->Option (List Int)
 |[]=>some []
 |.int i :: xs=>(lx xs).map (i :: ·)
 |_ :: _=>none
def pf:List D->Option (List Bool)
 |[]=>some []
 |.bl i :: xs=>(pf xs).map (i :: ·)
 |_ :: _=>none
theorem rq:∀{xs:List D}{is:List Int},lx xs=some is->xs=is.map D.int
 |[],is,h=>by cases h;rfl
 |x :: xs,is,h=>by
  cases x with
  |int i=>
   simp only[lx] at h;cases e:lx xs with
   |none=>rw[e] at h;cases h
   |some js=>
    rw[e] at h;cases h;rw[rq e];rfl
  |_=>cases h
theorem sJ:∀{xs:List D}{is:List Bool},pf xs=some is->xs=is.map D.bl
 |[],is,h=>by cases h;rfl
 |x :: xs,is,h=>by
  cases x with
  |bl i=>
   simp only[pf] at h;cases e:pf xs with
   |none=>rw[e] at h;cases h
   |some js=>
    rw[e] at h;cases h;rw[sJ e];rfl
  |_=>cases h
theorem jA:∀is:List Int,lx (is.map D.int)=some is
 |[]=>rfl
 |i :: is=>by simp[lx,jA is]
theorem sH:∀is:List Bool,pf (is.map D.bl)=some is
 |[]=>rfl
 |i :: is=>by simp[pf,sH is]
def oo:List D->M D
 |[x]=>fun S=>match iq S x with
  |some xs=>(match lx xs with
   |some is=>.ok (.int is.sum) S
   |none=>.bad)
  |none=>.bad
 |_=>M.bad
def zK:List D->M D
 |[x]=>fun S=>match iq S x with
  |some xs=>(match pf xs with
   |some is=>.ok (.bl (is.all id)) S
   |none=>.bad)
  |none=>.bad
 |_=>M.bad
theorem ph(is:List Int):∀n,n<=is.length->preSum (fun i=>is.getD i 0) n=(is.take n).sum
 |0,_=>by simp[preSum]
 |n+1,h=>by
  rw[preSum,ph is n (by omega),List.take_add_one,List.sum_append];have hg:is[n]?=some (is.getD n 0):=by simp[List.getD,List.getElem?_eq_getElem (show n<is.length by omega)]
  rw[hg];simp
theorem yj(is:List Bool):(List.range is.length).all (fun i=>is.getD i true)=is.all id:=by
 rw[Bool.eq_iff_iff,List.all_eq_true,List.all_eq_true];constructor
 ·intro h b hb;obtain⟨i,hi,rfl⟩:=List.mem_iff_getElem.mp hb;have:=h i (List.mem_range.mpr hi);simpa[List.getD,List.getElem?_eq_getElem hi] using this
 ·intro h i hi;have hi:=List.mem_range.mp hi;have:=h _ (List.getElem_mem hi);simpa[List.getD,List.getElem?_eq_getElem hi] using this
theorem qk{α:Type}{f:α->D}{g:α->V}{K:PySem.W.Frag}{H:Hp}{J:List Addr}(VQ:∀a v,r_ K H J (f a) v->v=g a):∀{as:List α}{vs:List V},j_ K H J (as.map f) vs->vs=as.map g
 |[],vs,h=>by unfold j_ at h;simpa using h
 |a :: as,vs,h=>by
  rw[List.map_cons] at h;unfold j_ at h;obtain⟨v,r,rfl,h1,h2⟩:=h;rw[VQ a v h1,qk VQ h2];rfl
theorem uX{pins:Ez}{σ:L2.St}{H:Hp}{s:Shared}{a:Addr}{vs:List V}(hc:X.calm=true)(I:Inv X pins σ H s)(hq:GD X.K H a vs\/Hh X.K H a vs){Q E:Value->Shared->Prop}
  (h:∀(it:Addr) (fp:List Addr) (St:Nat->Heap->Prop) (u_:List Value) (s2:Shared),Vals vs u_->Walks X.prog X.w X.A.in1 it fp [it] u_.length (fun i v=>u_[i]?=some v) St->St 0 s2.heap->(∀b∈fp,b<s2.heap.objs.size)->s2.toks=s.toks->
   (∀h' tk,(∀b o,b∉[it]->s2.heap.get? b=some o->h'.get? b=some o)->Inv X pins σ H { s2 with heap:=h',toks:=tk })->Q (.ref it) s2):wpAny (model X.prog X.w) X.A.in1 (pyIter (.ref a)) Q E s:=by
 rcases hq with hq|hq
 ·obtain⟨u_,rl,pl,hz⟩:=I.list hq;have Iw:a<s.heap.objs.size:=by
   obtain⟨o,ho,_⟩:=pl.isList;exact Heap.lt_size ho
  refine wpAny_pyIter_list pl.isList (h s.heap.objs.size [s.heap.objs.size,a] (fun i h=>h.IsListIter s.heap.objs.size a i/\h.IsList a u_.toArray) u_ _ rl (by simpa using Walks.list (prog:=X.prog) (w:=X.w) (A:=X.A.in1) (I.ok.hd hc) s.heap.objs.size a (Nat.ne_of_lt Iw) u_.toArray) ⟨⟨_,Heap.get?_push_size _ rfl,rfl,rfl⟩,pl.isList.at fun o e=>Heap.get?_push_of_some _ e⟩ (fun b hb=>?_) rfl fun h' tk hk=>?_)
  ·simp at hb;rw[Heap.size_push];rcases hb with rfl|rfl
   ·exact Nat.lt_succ_self _
   ·exact Nat.lt_succ_of_lt Iw
  ·exact I.kept fun b o e=>hk b o (by simp;exact Nat.ne_of_lt (Heap.lt_size e)) (Heap.get?_push_of_some _ e)
 ·obtain⟨u_,rl,pl,hz⟩:=I.tuple hq;have hT:s.heap.IsTuple a u_.toArray:=pl;have Iw:a<s.heap.objs.size:=by
   obtain⟨o,ho,_⟩:=hT;exact Heap.lt_size ho
  refine wpAny_pyIter_tuple hT (h s.heap.objs.size [s.heap.objs.size,a] (fun i h=>h.IsTupleIter s.heap.objs.size a i/\h.IsTuple a u_.toArray) u_ _ rl (by simpa using Walks.tuple (prog:=X.prog) (w:=X.w) (A:=X.A.in1) (I.ok.hd hc) s.heap.objs.size a (Nat.ne_of_lt Iw) u_.toArray) ⟨⟨_,Heap.get?_push_size _ rfl,rfl,rfl⟩,hT.at fun o e=>Heap.get?_push_of_some _ e⟩ (fun b hb=>?_) rfl fun h' tk hk=>?_)
  ·simp at hb;rw[Heap.size_push];rcases hb with rfl|rfl
   ·exact Nat.lt_succ_self _
   ·exact Nat.lt_succ_of_lt Iw
  ·exact I.kept fun b o e=>hk b o (by simp;exact Nat.ne_of_lt (Heap.lt_size e)) (Heap.get?_push_of_some _ e)
theorem wJ(hc:X.calm=true):Gh X (.builtin "sum") oo:=by
 intro pins s σ H J S xs vs us Q E I rs rx rv m
 match xs,m,rx with
 |[],m,rx=>exact m.elim
 |_ :: _ :: _,m,rx=>exact m.elim
 |[x],m,rx=>
  obtain⟨v,rfl,h1⟩:=rx.Ih;obtain⟨u,rfl,ru⟩:=Vals.one rv;simp only[oo] at m;cases e1:iq S x with
  |none=>rw[e1] at m;exact m.elim
  |some ys=>
   rw[e1] at m;dsimp only at m;cases e2:lx ys with
   |none=>rw[e2] at m;exact m.elim
   |some is=>
    rw[e2] at m;cases rq e2;obtain⟨a,ws,rfl,hq,E7⟩:=ma rs h1 e1;cases ru;have ew:=qk (g:=V.int) (fun i v h=>h.FO) E7;subst ew;refine call_sum_walkG (uX hc I hq fun it fp St u_ s2 rl W st hf Vv hI=>?_);have hi:=v7 rl;have hlen:u_.length=is.length:=by have:=rl.length;simpa using this.symm
    refine⟨it,fp,[it],u_.length,_,St,(fun i=>is.getD i 0),rfl,W,st,hf,?_,?_⟩
    ·intro i v hv;obtain⟨x,hx,rx⟩:∃x,(is.map V.int)[i]?=some x/\RelV x v:=by
      have Iw:=(List.getElem?_eq_some_iff.mp hv).1;obtain⟨u,hu,ru⟩:=Vals.get (x:=.int (is.getD i 0)) rl (i:=i) (by simp[List.getD,List.getElem?_eq_getElem (show i<is.length by omega)]);rw[hv] at hu;cases hu;exact⟨_,by simp[List.getD,List.getElem?_eq_getElem (show i<is.length by omega)],ru⟩
     rw[List.getElem?_map] at hx;cases e:is[i]? with
     |none=>rw[e] at hx;cases hx
     |some k=>
      rw[e] at hx;cases hx;obtain⟨t,rfl⟩:=rx;exact⟨t,by simp[List.getD,e]⟩
    ·intro h' tk t' hk;rw[hlen,ph is _ (Nat.le_refl _),List.take_length];exact m.Hk (hI h' tk hk) rs (r_.int _ _ _ _) ⟨_,rfl⟩
theorem BY(hc:X.calm=true):Gh X (.builtin "all") zK:=by
 intro pins s σ H J S xs vs us Q E I rs rx rv m
 match xs,m,rx with
 |[],m,rx=>exact m.elim
 |_ :: _ :: _,m,rx=>exact m.elim
 |[x],m,rx=>
  obtain⟨v,rfl,h1⟩:=rx.Ih;obtain⟨u,rfl,ru⟩:=Vals.one rv;simp only[zK] at m;cases e1:iq S x with
  |none=>rw[e1] at m;exact m.elim
  |some ys=>
   rw[e1] at m;dsimp only at m;cases e2:pf ys with
   |none=>rw[e2] at m;exact m.elim
   |some is=>
    rw[e2] at m;cases sJ e2;obtain⟨a,ws,rfl,hq,E7⟩:=ma rs h1 e1;cases ru;have ew:=qk (g:=V.bl) (fun i v h=>h.Ni) E7;subst ew;refine call_all_walk (uX hc I hq fun it fp St u_ s2 rl W st hf Vv hI=>?_);have hlen:u_.length=is.length:=by have:=rl.length;simpa using this.symm
    refine⟨it,fp,[it],u_.length,_,St,(fun i=>is.getD i true),rfl,W,st,?_,?_⟩
    ·intro i v s Q E hv hQ;have Iw:=(List.getElem?_eq_some_iff.mp hv).1;obtain⟨u,hu,ru⟩:=Vals.get (x:=.bl (is.getD i true)) rl (i:=i) (by simp[List.getD,List.getElem?_eq_getElem (show i<is.length by omega)]);rw[hv] at hu;cases hu;cases ru;exact wpAny_truthy_bool hQ
    ·intro h' tk hk;rw[hlen,yj];exact m.Hk (hI h' tk hk) rs (r_.bl _ _ _ _) rfl
def rC(w:V):List V->Option Nat
 |[]=>none
 |y :: ys=>if Mp y w=true then some 0 else (rC w ys).map (·+1)
theorem xy{w:V}:∀{ys:List V}{j:Nat},rC w ys=some j->∃h:j<ys.length,Mp ys[j] w=true/\∀m (hm:m<ys.length),m<j->Mp ys[m] w=false
 |[],j,h=>by cases h
 |y :: ys,j,h=>by
  unfold rC at h;split at h
  ·rename_i e;cases h;exact⟨by simp,e,fun m hm h0=>absurd h0 (Nat.not_lt_zero _)⟩
  ·rename_i e;cases e2:rC w ys with
   |none=>rw[e2] at h;cases h
   |some k=>
    rw[e2] at h;cases h;obtain⟨h1,h2,h3⟩:=xy e2;refine⟨by simp;omega,by simpa using h2,fun m hm hk=>?_⟩;cases m with
    |zero=>simpa using e
    |succ m=>simpa using h3 m (by simpa using hm) (Nat.lt_of_succ_lt_succ hk)
def xO(ys:List D)(x:D):M D:=fun S=>match fv x,NI ys with
 |some w,some ws=>(match rC w ws with
  |some j=>.ok (.int j) S
  |none=>.bad)
 |_,_=>.bad
theorem yl{A:Around}{s:Shared}{x:V}{v:Value}(rx:RelV x v)(fx:j2 x=true){ws:List V}{u_:List Value}(rl:Vals ws u_)(hf:ws.all j2=true):∀y,y∈u_.toArray->SeqAt.EqAt A s y v (Mq x y):=fun y hy=>
 nO rx fx rl hf y (by simpa using hy)
theorem w6{x:V}{ws:List V}{u_:List Value}(rl:Vals ws u_)(hf:ws.all j2=true){m:Nat}(h1:m<ws.length)(h2:m<u_.toArray.size):Mq x u_.toArray[m]=Mp ws[m] x:=by
 obtain⟨u,hu,ru⟩:=rl.get (i:=m) (x:=ws[m]) (by simp);have e:u_.toArray[m]=u:=by
  have h3:m<u_.length:=by simpa using h2
  rw[List.getElem?_eq_getElem h3] at hu;simpa using Option.some.inj hu
 rw[e];exact v8 ru (List.all_eq_true.mp hf _ (List.getElem_mem h1))
theorem xM{pins:Ez}{s:Shared}{σ:L2.St}{H:Hp}{J:List Addr}{S:List Cell}{a:Addr}{ys:List D}{vs:List V}{x:D}{vx:V}{v:Value}{Q E:Value->Shared->Prop}(I:Inv X pins σ H s)(rs:EB X.K H J S)(hq:Hh X.K H a vs)(E7:j_ X.K H J ys vs)
  (rx:r_ X.K H J x vx) (rv:RelV vx v) (m:Mt X pins σ H J (xO ys x S) Q E):wpAny (model X.prog X.w) X.A (call (.builtin "tuple.index") [.ref a,v]) Q E s:=by
 unfold xO at m;cases e1:fv x with
 |none=>rw[e1] at m;exact m.elim
 |some w=>
  cases e2:NI ys with
  |none=>rw[e1,e2] at m;exact m.elim
  |some ws=>
   rw[e1,e2] at m;dsimp only at m;cases e3:rC w ws with
   |none=>rw[e3] at m;exact m.elim
   |some j=>
    rw[e3] at m;obtain⟨rfl,h1⟩:=wv e1 rx;obtain⟨rfl,h2⟩:=ut e2 E7;obtain⟨hj,hit,LR⟩:=xy e3;obtain⟨u_,rl,⟨o,ho,hc,n,hd⟩,hz⟩:=I.tuple hq;obtain⟨cls,dd,data,sl⟩:=o;simp only at hc hd;subst hc hd;have hl:=rl.length;refine call_meets PySem.F.slot_tuple_index ⟨_,ho,rfl⟩ PySem.F.entry_tuple_index (PySem.F.args_tuple_index_2 _ _)
     (oa a u_.toArray n dd sl v (Mq vx) j (by simp;omega) (by rw[w6 rl h2 hj];exact hit) (fun m hm XN=>by rw[w6 rl h2 (by omega)];exact LR m (by omega) XN)) ⟨ho,yl rv h1 rl h2,?_⟩
    exact m.Hk (I.tok _) rs (r_.int _ _ _ _) ⟨_,rfl⟩
structure NJ(K:PySem.W.Frag)(u:Value)(vs:List V):Prop where
 ex:∃(a:Addr) (o:Obj) (u_:Array Value) (n:Nat),u=.ref a/\K.lookup a=some o/\o.cls=.type "tuple"/\o.dict=none/\o.data=.seq u_ n/\u_.size<=sizeLine/\Vals vs u_.toList
theorem NJ.rep{K:PySem.W.Frag}{u:Value}{vs:List V}{ds:List D}(h:NJ K u vs)(hd:∀H J,j_ K H J ds vs):IP K (.tup ds) u:=by
 obtain⟨a,o,u_,n,rfl,h1,h2,h3,h4,h5,h6⟩:=h.ex;exact fun H J=>⟨.ref a,rfl,.tup (.inr ⟨o,u_,n,h1,h2,h4,h5,h6⟩) (hd H J)⟩
def n8(k:D)(ft:o_->M (List D)):o_->M D:=fun r=>(ft r).bind fun xs=>match k,xs with
 |.tup ys,[x]=>xO ys x
 |_,_=>M.bad
theorem yL{x:Str}{e:Expr}{np apos Fp:Pos}{u:Value}{vs:List V}{ds:List D}{ft:o_->M (List D)}(hg:Gl X x)(hm:X.mg x=some u)(hk:NJ X.K u vs)(OL:∀H J,j_ X.K H J ds vs)(ha:KS X [e] ft)(hd:(x == ("__debug__":Str))=false:=by decide)
  (Je:attributeBase (.Name x np) "index" X.env (eval (.Name x np) X.env)=eval (.Name x np) X.env:=by rfl)
  (LC:((backTo Fp (starEach [e] X.env)).all (fun x=>!x.1) && (backToKw Fp (keywordEach [] X.env)).all (fun x=>x.1.isSome)
   && decide ([e].length+([]:List Keyword).length+(if ([]:List Keyword).isEmpty then 0 else 1)<30))=true:=by rfl)
  (Jf:(apos.endLine == Fp.line)=true:=by rfl) (hs:starEach [e] X.env=[(false,eval e X.env)]:=by rfl) :
  E_ X (.Call (.Attribute (.Name x np) "index" apos) [e] [] Fp) (n8 (.tup ds) ft):=by
 intro pins s σ H J r S Q E I m;obtain⟨a,o,u_,n,rfl,h1,h2,h3,h4,h5,h6⟩:=hk.ex;refine wpAny_Call_method_late Je LC Jf rfl (lY I.inv hg hm ?_ hd);have ho:=I.inv.IY a o h1;refine⟨"tuple","tuple.index",PySem.F.plainAttrs_tuple,PySem.F.slot_tuple_index,PySem.F.type_tuple_index,⟨o,ho,h2⟩,fun b hb=>?_,?_⟩
 ·cases hb;exact⟨o,ho,h3⟩
 ·have hA:=Cc (k:=fun xs=>match D.tup ds,xs with|.tup ys,[x]=>xO ys x|_,_=>M.bad) (Q':=fun us s2=>wpAny (model X.prog X.w) X.A (call (.builtin "tuple.index") (.ref a :: us)) Q E s2) ha I m (fun xs S2 s2 H2 J2 ws us I2 x2 rv r2 m2=>?_) Fp
  ·rw[hs] at hA ⊢;exact Calls.callWith_builtin rfl (Calls.evalArgs_plain hA)
  ·match xs,m2,rv with
   |[],m2,rv=>exact m2.elim
   |_ :: _ :: _,m2,rv=>exact m2.elim
   |[y],m2,rv=>
    obtain⟨w,rfl,hw⟩:=rv.Ih;obtain⟨uu,rfl,ru⟩:=Vals.one r2;exact xM I2.inv I2.st (.inr ⟨o,u_,n,h1,h2,h4,h5,h6⟩) (OL H2 J2) hw ru m2
end
end DL
namespace DL
open PySem PySem.Spec PyProof.Rows L2
theorem oC{f:Str}{v:V}:∀{ws:List (Str×V)}{i:Nat},(ws.map (·.1)).Nodup->(ws.map (·.1))[i]?=some f->(ws.map (·.2))[i]?=some v->ws.lookup f=some v
 |[],_,_,h,_=>by simp at h
 |(g,x) :: r,0,nd,h,h2=>by
  simp at h h2;subst h h2;simp[List.lookup_cons]
 |(g,x) :: r,i+1,nd,h,h2=>by
  simp only[List.map_cons,List.nodup_cons] at nd;simp only[List.map_cons,List.getElem?_cons_succ] at h h2;have hm:f∈r.map (·.1):=List.mem_of_getElem? h;have hb:(f == g)=false:=beq_eq_false_iff_ne.mpr fun e=>nd.1 (e ▸ hm)
  rw[List.lookup_cons,hb];exact oC nd.2 h h2
theorem oB{f:Str}:∀{ws:List (Str×V)},f∉ws.map (·.1)->ws.lookup f=none
 |[],_=>rfl
 |(g,x) :: r,h=>by
  simp only[List.map_cons,List.mem_cons,not_or] at h;have hb:(f == g)=false:=beq_eq_false_iff_ne.mpr h.1;rw[List.lookup_cons,hb];exact oB h.2
theorem o5(f g:Str)(y x:V)(r:List (Str×V)):il f y ((g,x) :: r)=if g=f then (g,y) :: r else (g,x) :: il f y r:=rfl
theorem xo{f:Str}{y:V}:∀{ws:List (Str×V)}{i:Nat},(ws.map (·.1)).Nodup->(ws.map (·.1))[i]?=some f->(il f y ws).map (·.1)=ws.map (·.1)/\(il f y ws).map (·.2)=(ws.map (·.2)).set i y
 |[],_,_,h=>by simp at h
 |(g,x) :: r,0,nd,h=>by
  simp at h;subst h;rw[o5,if_pos rfl];exact⟨rfl,rfl⟩
 |(g,x) :: r,i+1,nd,h=>by
  simp only[List.map_cons,List.nodup_cons] at nd;simp only[List.map_cons,List.getElem?_cons_succ] at h;have hm:f∈r.map (·.1):=List.mem_of_getElem? h;have hb:¬g=f:=fun e=>nd.1 (e ▸ hm)
  rw[o5,if_neg hb];obtain⟨h1,h2⟩:=xo (y:=y) nd.2 h;exact⟨by rw[List.map_cons,List.map_cons,h1],by rw[List.map_cons,List.map_cons,List.set_cons_succ,h2]⟩
theorem uF{f:Str}{y:V}:∀{ws:List (Str×V)},f∉ws.map (·.1)->il f y ws=ws++[(f,y)]
 |[],_=>rfl
 |(g,x) :: r,h=>by
  simp only[List.map_cons,List.mem_cons,not_or] at h;rw[o5,if_neg (fun e=>h.1 e.symm),uF h.2];rfl
def ic(C:Addr)(ns:List Str)(x:D):M (Nat×List D):=fun S=>match x with
 |.ob n=>(match S[n]? with
  |some (.ins C' PF ds)=>G5 (C'=C/\PF=ns) (.ok (n,ds) S) .bad
  |_=>.bad)
 |_=>.bad
theorem me{C:Addr}{ns:List Str}{n:Nat}{ds:List D}{S:List Cell}(h:S[n]?=some (.ins C ns ds)):ic C ns (.ob n) S=.ok (n,ds) S:=by
 simp only[ic,h]
 first
  |exact cg ⟨rfl,rfl⟩
  |exact cg ⟨trivial,trivial⟩
theorem kX{C:Addr}{ns:List Str}{x:D}{S S':List Cell}{p:Nat×List D}(h:ic C ns x S=.ok p S'):S'=S/\x=.ob p.1/\S[p.1]?=some (.ins C ns p.2):=by
 unfold ic at h;cases x with
 |ob n=>
  dsimp only at h;cases e:S[n]? with
  |none=>rw[e] at h;cases h
  |some c=>
   rw[e] at h;cases c with
   |ins C' PF ds=>
    dsimp only at h;unfold G5 at h;split at h
    ·rename_i q;obtain⟨rfl,rfl⟩:=q
     injection h with h1 h2
     subst h1 h2;exact⟨rfl,rfl,e⟩
    ·cases h
   |_=>cases h
 |_=>cases h
theorem kJ{C:Addr}{ns:List Str}{x:D}{S S':List Cell}{c:Addr}:ic C ns x S≠.exc c S':=by
 intro h;unfold ic at h;cases x with
 |ob n=>
  dsimp only at h;cases e:S[n]? with
  |none=>rw[e] at h;cases h
  |some c=>
   rw[e] at h;cases c with
   |ins C' PF ds=>
    dsimp only at h;unfold G5 at h;split at h<;>cases h
   |_=>cases h
 |_=>cases h
def AZ(o:Option D):M D:=fun S=>match o with
 |some d=>.ok d S
 |none=>.bad
section
variable{X:Cx}{o e:Expr}{es:List Expr}{fo fe:o_->M D}{ft:o_->M (List D)}{pos Jb apos:Pos}{C:Addr}{ns:List Str}{i:Nat}{f:Str}
def aA(C:Addr)(ns:List Str)(i:Nat)(fo:o_->M D):o_->M D:=fun r=>(fo r).bind fun x=>(ic C ns x).bind fun p=>AZ p.2[i]?
theorem aI(c:KY X.K C)(na:EU X.K C f)(nd:ns.Nodup)(ho:E_ X o fo)(hi:ns[i]?=some f:=by rfl)(hb:attributeBase o f X.env (eval o X.env)=eval o X.env:=by rfl):E_ X (.Attribute o f pos) (aA C ns i fo):=by
 intro pins s σ H J r S Q E I m;refine Aw hb (ho pins s σ H J r S _ E I ?_);unfold aA M.bind at m;cases e1:fo r S with
 |bad=>rw[e1] at m;exact m
 |exc c S1=>rw[e1] at m;exact m
 |ok x S1=>
  rw[e1] at m;dsimp only at m;rintro v s1 ⟨vx,H1,I1,r1,J1,Hj,Hy,GX⟩
  replace m:=Mt.ext Hj m
  cases e2:ic C ns x S1 with
  |bad=>rw[e2] at m;exact m.elim
  |exc c S2=>exact absurd e2 kJ
  |ok p S2=>
   rw[e2] at m;obtain⟨n,ds⟩:=p;obtain⟨rfl,rfl,hc⟩:=kX e2;obtain⟨a,rfl,hn⟩:=GX.HN;obtain⟨dx,ws,hv,IZ,NK⟩:=Hy.at_ n _ a hc hn;dsimp only[AZ] at m;cases e3:ds[i]? with
   |none=>rw[e3] at m;exact m.elim
   |some d=>
    rw[e3] at m;obtain⟨w,hw,HV⟩:=NK.get e3;cases r1;exact qQ I1 hv c na (oC (IZ ▸ nd) (IZ ▸ hi) hw) fun u s2 I2 ru=>m.Hk I2 Hy HV ru
theorem Ext.ins{K:PySem.W.Frag}{H:Hp}{J:List Addr}{a dx:Addr}{ws VP:List (Str×V)}(h:H a=some (.ins C dx ws)):Ext H J (upd H a (.ins C dx VP)) J:=Ext.write h rfl
def kY(C:Addr)(ns:List Str)(i:Nat)(fo fe:o_->M D):EL:=fun r=>cC (fe r) r fun d=>cC (fo r) r fun x S1=>match ic C ns x S1 with
 |.ok p S2=>some (.nx r,S2.set p.1 (.ins C ns (p.2.set i d)))
 |_=>none
theorem tC(he:E_ X e fe){k:D->List Cell->Lo}{pins:Ez}{s:Shared}{σ:L2.St}{H:Hp}{J:List Addr}{r:o_}{S:List Cell}{Q:Flow->Shared->Prop}{E:Value->Shared->Prop}{Q':Value->Shared->Prop}(I:At X pins σ H J r S s)
  (m:JD X pins H J (cC (fe r) r k S) Q E) (hk:∀x S1 v s1 vx H1 J1,At X pins σ H1 J1 r S1 s1->Ext H J H1 J1->r_ X.K H1 J1 x vx->RelV vx v->JD X pins H1 J1 (k x S1) Q E->Q' v s1) :
  wpAny (model X.prog X.w) X.A (eval e X.env) Q' E s:=by
 refine he pins s σ H J r S _ E I ?_;unfold cC at m;cases e1:fe r S with
 |bad=>rw[e1] at m;exact m
 |exc c S1=>
  rw[e1] at m;exact fun x s' ⟨H',XI,J',ex,rs⟩=>m x s' σ H' J' XI (I.loc.ext ex) rs ex
 |ok x S1=>
  rw[e1] at m;exact fun v s1 ⟨vx,H1,I1,r1,J1,ex,rs,rv⟩=>hk x S1 v s1 vx H1 J1 ⟨I1,I.loc.ext ex,rs⟩ ex rv r1 (JD.ext ex m)
theorem u6{pins:Ez}{s:Shared}{σ:L2.St}{H:Hp}{J:List Addr}{r:o_}{S:List Cell}{n:Nat}{ds:List D}{d:D}{vd:V}{u:Value}{a:Addr}{Q:Flow->Shared->Prop}{E:Value->Shared->Prop}
  (c:KY X.K C) (na:EU X.K C f) (nd:ns.Nodup) (hz:ns.length<1000) (hi:ns[i]?=some f) (I:At X pins σ H J r S s) (hc:S[n]?=some (.ins C ns ds)) (hn:J[n]?=some a) (rd:r_ X.K H J d vd) (ru:RelV vd u)
  (m:JD X pins H J (some (.nx r,S.set n (.ins C ns (ds.set i d)))) Q E):wpAny (model X.prog X.w) X.A (setAttr (.ref a) f u) (fun _ s'=>Q .next s') E s:=by
 obtain⟨dx,ws,hv,IZ,NK⟩:=I.st.at_ n _ a hc hn;refine qr I.inv hv c na (by rw[<-List.length_map (f:=(·.1)),IZ];exact hz) ru fun s3 I3=>?_
 have x3:Ext H J (upd H a (.ins C dx (il f vd ws))) J:=Ext.write hv rfl;obtain⟨p1,p2⟩:=xo (y:=vd) (IZ ▸ nd) (IZ ▸ hi);refine m s3 σ _ J ⟨I3,I.loc.ext x3,I.st.write hn ⟨dx,_,bN,p1.trans IZ,?_⟩⟩ x3;rw[p2];exact j_.set (rd.ext x3) i (NK.ext x3)
theorem ig{pos':Pos}(c:KY X.K C)(na:EU X.K C f)(nd:ns.Nodup)(hz:ns.length<1000)(ho:E_ X o fo)(he:E_ X e fe)(hi:ns[i]?=some f:=by rfl)
  (hs:swapsWith e (some (.Attribute o f pos')) pos.line X.env=pure false:=by rfl):Lx X (.Assign [.Attribute o f pos'] e pos) (kY C ns i fo fe):=by
 intro pins s σ H J r S Q E I m;refine plainObj_wpAny_Assign_Attribute (tC he I m fun d S1 u s1 vd H1 J1 I1 x1 rd ru m1=>tC ho I1 m1 fun x S2 v s2 vx H2 J2 I2 x2 rx rv m2=>?_) hs;cases e2:ic C ns x S2 with
 |bad=>rw[e2] at m2;exact m2.elim
 |exc c S2=>exact absurd e2 kJ
 |ok p S3=>
  rw[e2] at m2;obtain⟨n,ds⟩:=p;obtain⟨rfl,rfl,hc⟩:=kX e2;obtain⟨a,rfl,hn⟩:=rx.HN;cases rv;exact u6 c na nd hz hi I2 hc hn (rd.ext x2) ru m2
def cV(C:Addr)(ns:List Str)(f:Str)(fo fe:o_->M D):EL:=fun r=>cC (fe r) r fun d=>cC (fo r) r fun x S1=>match ic C ns x S1 with
 |.ok p S2=>some (.nx r,S2.set p.1 (.ins C (ns++[f]) (p.2++[d])))
 |_=>none
theorem db{pos':Pos}(c:KY X.K C)(na:EU X.K C f)(hz:ns.length<1000)(hf:f∉ns)(ho:E_ X o fo)(he:E_ X e fe)
  (hs:swapsWith e (some (.Attribute o f pos')) pos.line X.env=pure false:=by rfl):Lx X (.Assign [.Attribute o f pos'] e pos) (cV C ns f fo fe):=by
 intro pins s σ H J r S Q E I m;refine plainObj_wpAny_Assign_Attribute (tC he I m fun d S1 u s1 vd H1 J1 I1 x1 rd ru m1=>tC ho I1 m1 fun x S2 v s2 vx H2 J2 I2 x2 rx rv m2=>?_) hs;cases e2:ic C ns x S2 with
 |bad=>rw[e2] at m2;exact m2.elim
 |exc c S2=>exact absurd e2 kJ
 |ok p S3=>
  rw[e2] at m2;obtain⟨n,ds⟩:=p;obtain⟨rfl,rfl,hc⟩:=kX e2;obtain⟨a,rfl,hn⟩:=rx.HN;cases rv;obtain⟨dx,ws,hv,IZ,NK⟩:=I2.st.at_ n _ a hc hn;refine qr I2.inv hv c na (by rw[<-List.length_map (f:=(·.1)),IZ];exact hz) ru fun s3 I3=>?_
  have x3:Ext H2 J2 (upd H2 a (.ins C dx (il f vd ws))) J2:=Ext.write hv rfl;have pn:il f vd ws=ws++[(f,vd)]:=uF (IZ ▸ hf);have XQ:(il f vd ws).map (·.2)=ws.map (·.2)++[vd]:=by rw[pn,List.map_append];rfl
  refine m2 s3 σ _ J2 ⟨I3,I2.loc.ext x3,I2.st.write hn ⟨dx,_,bN,by rw[pn,List.map_append,IZ];rfl,?_⟩⟩ x3;rw[XQ];exact(NK.ext x3).append (.one ((rd.ext x2).ext x3))
def pa(C:Addr)(ns:List Str)(i:Nat)(fo fe:o_->M D):EL:=fun r=>cC (fo r) r fun x S1=>match ic C ns x S1 with
 |.ok p S2=>(match p.2[i]? with
  |some (.int a)=>cC (fe r) r (fun y S3=>match y with
   |.int b=>(match ic C ns x S3 with
    |.ok q S4=>some (.nx r,S4.set q.1 (.ins C ns (q.2.set i (.int (a+b)))))
    |_=>none)
   |_=>none) S2
  |_=>none)
 |_=>none
theorem tJ(c:KY X.K C)(na:EU X.K C f)(nd:ns.Nodup)(hz:ns.length<1000)(ho:E_ X o fo)(he:E_ X e fe)(hi:ns[i]?=some f:=by rfl) :
  Lx X (.AugAssign (.Attribute o f Jb) .Add e pos) (pa C ns i fo fe):=by
 intro pins s σ H J r S Q E I m;refine wpAny_AugAssign_AttributeAny (tC ho I m fun x S1 v s1 vx H1 J1 I1 x1 rx rv m1=>?_);cases e2:ic C ns x S1 with
 |bad=>rw[e2] at m1;exact m1.elim
 |exc c S2=>exact absurd e2 kJ
 |ok p S2=>
  rw[e2] at m1;obtain⟨n,ds⟩:=p;obtain⟨rfl,rfl,hc⟩:=kX e2;obtain⟨a,rfl,hn⟩:=rx.HN;cases rv;dsimp only at m1;cases e3:ds[i]? with
  |none=>rw[e3] at m1;exact m1.elim
  |some d=>
   rw[e3] at m1;cases d with
   |int j=>
    obtain⟨dx,ws,hv,IZ,NK⟩:=I1.st.at_ n _ a hc hn;obtain⟨w,hw,HV⟩:=NK.get e3;cases HV.FO;refine qQ I1.inv hv c na (oC (IZ ▸ nd) (IZ ▸ hi) hw) fun u s2 I2 ru=>?_
    refine tC he ⟨I2,I1.loc,I1.st⟩ m1 fun y S3 v3 s3 vy H3 J3 I3 x3 ry Qc m3=>?_
    cases y with
    |int k=>
     dsimp only at m3;cases e4:ic C ns (.ob n) S3 with
     |bad=>rw[e4] at m3;exact m3.elim
     |exc c S2=>exact absurd e4 kJ
     |ok q S4=>
      rw[e4] at m3;obtain⟨n',Ow⟩:=q;obtain⟨rfl,NL,PX⟩:=kX e4
      injection NL with NL
      subst NL;cases ry.FO;obtain⟨t1,rfl⟩:=ru;obtain⟨t2,rfl⟩:=Qc;have XR:J3[n]?=some a:=by
       obtain⟨mm,em⟩:=x3.pre;rw[em,List.getElem?_append_left (List.getElem?_eq_some_iff.mp hn).1];exact hn
      exact PyProof.Rows.iadd_int (u6 c na nd hz hi ⟨I3.inv.tok _,I3.loc,I3.st⟩ PX XR (r_.int _ _ _ (j+k)) ⟨_,rfl⟩ m3)
    |_=>exact m3.elim
   |_=>exact m1.elim
structure EW(P:Program)(w:World)(K:PySem.W.Frag)(mg:Str->Option Value)(base:Heap)(CX:Iz)(C:Addr)(m:Str)(k:Nat)(ps:List Str)(F:List D->M D):Prop where
 ex:∃f fd,Meth K C m f/\Binds K fd ps []/\Fq P w K mg base CX k f fd ps F
def aV(C:Addr)(ns:List Str)(F:List D->M D)(fo:o_->M D)(ft:o_->M (List D)):o_->M D:=fun r=>(fo r).bind fun x=>(ic C ns x).bind fun _=>(ft r).bind fun xs=>F (x :: xs)
theorem bD{CX:Iz}{k:Nat}{ps:List Str}{F:List D->M D}{m:Str}{pl:Sem Bool}(h:EW X.prog X.w X.K X.mg X.base CX C m k ps F)(hr:FL k X.A)(c:KY X.K C)(hm:m∉ns)(hx:pj CX X)(ho:E_ X o fo)(ha:KS X (e :: es) ft)
  (hl:∀r S xs S',ft r S=.ok xs S'->xs.length+1=ps.length)
  (I0:starEach (e :: es) X.env=(false,eval e X.env) :: starEach es X.env:=by rfl) (Kd:(backTo pos (starEach es X.env)).any (·.1)=false:=by rfl)
  (ht:eval (.Call (.Attribute o m apos) (e :: es) [] pos) X.env=(do
   let ov <-eval o X.env
   standAt apos.atName
   let (f,first) <-holding [ov] (getMethod ov m pl)
   callWith pos f first (backTo pos (starEach (e :: es) X.env)) (backToKw pos (keywordEach [] X.env))):=by rfl) :
  E_ X (.Call (.Attribute o m apos) (e :: es) [] pos) (aV C ns F fo ft):=by
 obtain⟨f,fd,hM,hb,hF⟩:=h.ex;intro pins s σ H J r S Q E I mm;refine PySem.W.methodCall_KW (pl:=pl) (ho pins s σ H J r S _ E I ?_) ht;unfold aV M.bind at mm;cases e1:fo r S with
 |bad=>rw[e1] at mm;exact mm
 |exc c S1=>rw[e1] at mm;exact mm
 |ok x S1=>
  rw[e1] at mm;dsimp only at mm;rintro v s1 ⟨vx,H1,I1,r1,J1,Hj,Hy,GX⟩
  replace mm:=Mt.ext Hj mm
  cases e2:ic C ns x S1 with
  |bad=>rw[e2] at mm;exact mm.elim
  |exc c S2=>exact absurd e2 kJ
  |ok p S2=>
   rw[e2] at mm;obtain⟨n,ds⟩:=p;obtain⟨rfl,rfl,hc⟩:=kX e2;obtain⟨a,rfl,hn⟩:=GX.HN;cases r1;obtain⟨dx,ws,hv,IZ,NK⟩:=Hy.at_ n _ a hc hn;refine qa I1 hv c hM (oB (IZ ▸ hm)) ?_;refine PySem.W.callWith_K (first:=[.ref a]) (h₀:=X.base) I1.ok.mod.Pn hM.kp ?_ I0 Kd;refine ha pos pins s1 σ H1 J1 r _ _ E ⟨I1,I.loc.ext Hj,Hy⟩ ?_;dsimp only at mm;cases e3:ft r S2 with
   |bad=>rw[e3] at mm;exact mm
   |exc c S3=>rw[e3] at mm;exact mm
   |ok xs S3=>
    rw[e3] at mm;intro us s2 ⟨vs,H2,I2,r2,J2,Ju,Ie,Kk⟩;exact⟨I2.IY,tN (us:=.ref a :: us) (vs:=.ref a :: vs) (xs:=.ob n :: xs) hF hr hb hx I2 Ie (.cons (GX.ext Ju) Kk) (.cons rfl r2) (by rw[List.length_cons];exact hl r _ xs S3 e3) (Mt.ext Ju mm)⟩
theorem ck{CX:Iz}{k:Nat}{ps:List Str}{F:List D->M D}{m:Str}{pl:Sem Bool}(h:EW X.prog X.w X.K X.mg X.base CX C m k ps F)(hr:FL k X.A)(c:KY X.K C)(hm:m∉ns)(hx:pj CX X)(ho:E_ X o fo)
  (hl:1=ps.length:=by rfl)
  (ht:eval (.Call (.Attribute o m apos) [] [] pos) X.env=(do
   let ov <-eval o X.env
   standAt apos.atName
   let (f,first) <-holding [ov] (getMethod ov m pl)
   callWith pos f first (backTo pos (starEach [] X.env)) (backToKw pos (keywordEach [] X.env))):=by rfl) :
  E_ X (.Call (.Attribute o m apos) [] [] pos) (aV C ns F fo ai):=by
 obtain⟨f,fd,hM,hb,hF⟩:=h.ex;intro pins s σ H J r S Q E I mm;refine PySem.W.methodCall_KW (pl:=pl) (ho pins s σ H J r S _ E I ?_) ht;unfold aV M.bind at mm;cases e1:fo r S with
 |bad=>rw[e1] at mm;exact mm
 |exc c S1=>rw[e1] at mm;exact mm
 |ok x S1=>
  rw[e1] at mm;dsimp only at mm;rintro v s1 ⟨vx,H1,I1,r1,J1,Hj,Hy,GX⟩
  replace mm:=Mt.ext Hj mm
  cases e2:ic C ns x S1 with
  |bad=>rw[e2] at mm;exact mm.elim
  |exc c S2=>exact absurd e2 kJ
  |ok p S2=>
   rw[e2] at mm;obtain⟨n,ds⟩:=p;obtain⟨rfl,rfl,hc⟩:=kX e2;obtain⟨a,rfl,hn⟩:=GX.HN;cases r1;obtain⟨dx,ws,hv,IZ,NK⟩:=Hy.at_ n _ a hc hn;refine qa I1 hv c hM (oB (IZ ▸ hm)) ?_;exact PySem.W.callWith_K0 (first:=[.ref a]) I1.IY hM.kp (tN (us:=[.ref a]) (vs:=[.ref a]) (xs:=[.ob n]) hF hr hb hx I1 Hy (.one GX) (.cons rfl .nil) hl mm)
structure Ko(P:Program)(w:World)(K:PySem.W.Frag)(mg:Str->Option Value)(base:Heap)(CX:Iz)(x:Str)(C:Addr)(k:Nat)(ps:List Str)(F:List D->M D):Prop where
 ex:∃f fd,mg x=some (.ref C)/\Mk K C f/\Binds K fd ps []/\Fq P w K mg base CX k f fd ps F
def gx(C:Addr)(F:List D->M D)(xs:List D):M D:=fun S=>match F (.ob S.length :: xs) (S++[.ins C [] []]) with
 |.ok .B_ S'=>.ok (.ob S.length) S'
 |_=>.bad
theorem yx{CX:Iz}{k:Nat}{fI:Addr}{fd:FuncData}{ps:List Str}{F:List D->M D}{pins:Ez}{σ:L2.St}{H:Hp}{J:List Addr}{S:List Cell}{s:Shared}{Q E:Value->Shared->Prop}{xs:List D}{vs:List V}{us:List Value}
  (hM:Mk X.K C fI) (hF:Fq X.prog X.w X.K X.mg X.base CX k fI fd ps F) (hr:FL (k+1) X.A) (hb:Binds X.K fd ps []) (hx:pj CX X) (I:Inv X pins σ H s) (rs:EB X.K H J S) (rx:j_ X.K H J xs vs) (rv:Vals vs us) (hl:xs.length+1=ps.length)
  (m:Mt X pins σ H J (gx C F xs S) Q E):wpAny (model X.prog X.w) X.A (call (.ref C) us) Q E s:=by
 have PB:H s.heap.objs.size=none:=I.EI.fresh (Nat.le_refl _);have XS:H (s.heap.objs.size+1)=none:=I.EI.fresh (Nat.le_succ _);have ne:s.heap.objs.size+1≠s.heap.objs.size:=Nat.succ_ne_self _;have I2:=Inv.made (C:=C) I;have Qn:upd H s.heap.objs.size (.own (s.heap.objs.size+1)) (s.heap.objs.size+1)=none:=by rw[bu ne];exact XS
 have x1:Ext H J (upd H s.heap.objs.size (.own (s.heap.objs.size+1))) J:=Ext.new PB;have x2:Ext (upd H s.heap.objs.size (.own (s.heap.objs.size+1))) J (upd (upd H s.heap.objs.size (.own (s.heap.objs.size+1))) (s.heap.objs.size+1) (.ins C s.heap.objs.size [])) (J++[s.heap.objs.size+1]):=(Ext.new Qn).snoc _;have VR:=x1.trans x2;have Ie:EB X.K (upd (upd H s.heap.objs.size (.own (s.heap.objs.size+1))) (s.heap.objs.size+1) (.ins C s.heap.objs.size [])) (J++[s.heap.objs.size+1]) (S++[.ins C [] []]):=
  (rs.new PB).push Qn ⟨s.heap.objs.size,[],bN,rfl,.nil⟩
 have ro:r_ X.K (upd (upd H s.heap.objs.size (.own (s.heap.objs.size+1))) (s.heap.objs.size+1) (.ins C s.heap.objs.size [])) (J++[s.heap.objs.size+1]) (.ob S.length) (.ref (s.heap.objs.size+1)):=.ob (by rw[<-rs.len];simp);have Sn:j_ X.K (upd (upd H s.heap.objs.size (.own (s.heap.objs.size+1))) (s.heap.objs.size+1) (.ins C s.heap.objs.size [])) (J++[s.heap.objs.size+1]) (.ob S.length :: xs) (.ref (s.heap.objs.size+1) :: vs):=.cons ro (rx.ext VR);have Kk:Vals (V.ref (s.heap.objs.size+1) :: vs) (Value.ref (s.heap.objs.size+1) :: us):=.cons rfl rv;have hlen:(Value.ref (s.heap.objs.size+1) :: us++[]).length=ps.length:=by
  rw[List.append_nil,<-Kk.length,Sn.length];exact hl
 have NB:=hb _ (Value.ref (s.heap.objs.size+1) :: us) I2.IY hlen;rw[List.append_nil] at NB;unfold gx at m;cases e:F (.ob S.length :: xs) (S++[.ins C [] []]) with
 |bad=>rw[e] at m;exact m.elim
 |exc c S'=>rw[e] at m;exact m.elim
 |ok d S'=>
  rw[e] at m;cases d with
  |B_=>
   dsimp only at m;refine wpAny_call (zJ (f:=fI) I.IY hM.makes hM.init (beq_iff_eq.mp hM.fn) (codeAny_mono (hF.run _ X.stack _ _ ⟨Value.ref (s.heap.objs.size+1) :: us,[]⟩ (Value.ref (s.heap.objs.size+1) :: us) _
    (fun v H'=>Got X.K (upd (upd H s.heap.objs.size (.own (s.heap.objs.size+1))) (s.heap.objs.size+1) (.ins C s.heap.objs.size [])) (J++[s.heap.objs.size+1]) .B_ S' v H') (fun _ _ _=>False) (hr.make C us []) (I2.P2.make C us []) NB Kk ?_) fun rr s' hq=>?_))
   ·refine⟨by rw[Sn.length];exact hl,J++[s.heap.objs.size+1],_,_,Sn,Ie,?_⟩;rw[e];exact fun v H' g=>g
   ·cases rr with
    |error er=>
     obtain⟨c,H',XI,z⟩:=hx _ pins σ _ _ er s' I2 hq;exact z.elim
    |ok fl=>
     cases fl with
     |ret u=>
      obtain⟨v,H',I3,Qc,J3,x3,Oj,RU⟩:=I2.after hq;cases RU.Lv;exact⟨Qc,m _ s' ⟨V.ref (s.heap.objs.size+1),H',I3,rfl,J3,VR.trans x3,Oj,ro.ext x3⟩⟩
     |next=>exact False.elim hq
     |brk=>exact False.elim hq
     |cont=>exact False.elim hq
  |_=>exact m.elim
theorem nY{CX:Iz}{k:Nat}{ps:List Str}{F:List D->M D}{x:Str}{p:Pos}(h:Ko X.prog X.w X.K X.mg X.base CX x C k ps F)(hr:FL (k+1) X.A)(hg:Gl X x)(hx:pj CX X)(ha:KS X (e :: es) ft)
  (hl:∀r S xs S',ft r S=.ok xs S'->xs.length+1=ps.length)
  (L8:(x == ("__debug__":Str))=false:=by decide) (he:starEach (e :: es) X.env=(false,eval e X.env) :: starEach es X.env:=by rfl) (Kd:(backTo pos (starEach es X.env)).any (·.1)=false:=by rfl) :
  E_ X (.Call (.Name x p) (e :: es) [] pos) (am (gx C F) ft):=by
 obtain⟨f,fd,hm,hM,hb,hF⟩:=h.ex;intro pins s σ H J r S Q E I m;refine wpAny_Call_Name_kw (lY I.inv hg hm ?_ L8);refine PySem.W.callWith_K (h₀:=X.base) I.inv.ok.mod.Pn hM.kp ?_ he Kd;refine ha pos pins s σ H J r S _ E I ?_;unfold am M.bind at m;cases e1:ft r S with
 |bad=>rw[e1] at m;exact m
 |exc c S1=>rw[e1] at m;exact m
 |ok xs S1=>
  rw[e1] at m;intro us s1 ⟨vs,H1,I1,r1,J1,Hj,Hy,GX⟩;exact⟨I1.IY,yx hM hF hr hb hx I1 Hy GX r1 (hl r S xs S1 e1) (Mt.ext Hj m)⟩
end
end DL
namespace L2
open PySem PySem.Spec PyProof.Rows
section
variable{κ:Type}[DecidableEq κ]
def kq(kvs:List (κ×V))(k:κ):Option V:=(kvs.find? fun kv=>decide (kv.1=k)).map (·.2)
def ka(kvs:List (κ×V))(k:κ)(v:V):List (κ×V):=
 if (kvs.any fun kv=>decide (kv.1=k))=true then kvs.map (fun kv=>if kv.1=k then (kv.1,v) else kv) else kvs++[(k,v)]
def qu(kvs:List (κ×V))(k:κ):List (κ×V):=kvs.filter fun kv=>decide (kv.1≠k)
theorem nE{p:κ×V}{r:List (κ×V)}{k:κ}(e:p.1=k):kq (p :: r) k=some p.2:=by simp[kq,List.find?_cons,e]
theorem n9{p:κ×V}{r:List (κ×V)}{k:κ}(e:¬p.1=k):kq (p :: r) k=kq r k:=by simp[kq,List.find?_cons,e]
theorem vE(k:κ):∀kvs:List (κ×V),(kvs.any fun kv=>decide (kv.1=k))=(kq kvs k).isSome
 |[]=>rfl
 |p :: r=>by
  rw[List.any_cons];by_cases e:p.1=k
  ·simp only[nE e,decide_eq_true e,Bool.true_or,Option.isSome_some]
  ·rw[n9 e,decide_eq_false e,Bool.false_or];exact vE k r
theorem lK(kvs:List (κ×V))(k:κ)(v:V):(ka kvs k v).length<=kvs.length+1:=by
 unfold ka;split
 ·rw[List.length_map];omega
 ·rw[List.length_append,List.length_cons,List.length_nil];omega
theorem G7.GZ{o:Option V}{u:Option Value}(r:G7 o u):o.isSome=u.isSome:=by
 cases o with
 |none=>cases u with
  |none=>rfl
  |some _=>exact(show False from r).elim
 |some _=>cases u with
  |none=>exact(show False from r).elim
  |some _=>rfl
theorem G7.getD{o:Option V}{u:Option Value}{d:V}{d':Value}(r:G7 o u)(rd:RelV d d'):RelV (o.getD d) (u.getD d'):=by
 cases o with
 |none=>cases u with
  |none=>exact rd
  |some _=>exact(show False from r).elim
 |some _=>cases u with
  |none=>exact(show False from r).elim
  |some _=>exact r
theorem KV.val{kvs:List (κ×V)}{vs:List (κ×Value)}(r:KV kvs vs)(k:κ):G7 (kq kvs k) (valueAt vs k):=by
 unfold KV at r
 induction r with
 |nil=>exact True.intro
 |@cons p q ps qs h t ih=>
  obtain⟨h1,h2⟩:=h;by_cases e:p.1=k
  ·have e':q.1=k:=h1.symm.trans e;have b:valueAt (q :: qs) k=some q.2:=by simp[valueAt,List.find?_cons,e']
   rw[nE e,b];exact h2
  ·have e':¬q.1=k:=fun z=>e (h1.trans z)
   have b:valueAt (q :: qs) k=valueAt qs k:=by simp[valueAt,List.find?_cons,e']
   rw[n9 e,b];exact ih
theorem KV.any{kvs:List (κ×V)}{vs:List (κ×Value)}(r:KV kvs vs)(k:κ):(kvs.any fun kv=>decide (kv.1=k))=vs.any fun kv=>decide (kv.1=k):=by
 unfold KV at r
 induction r with
 |nil=>rfl
 |cons h t ih=>rw[List.any_cons,List.any_cons,ih,h.1]
theorem KV.O7{kvs:List (κ×V)}{vs:List (κ×Value)}(r:KV kvs vs)(k:κ){y:V}{u:Value}(ry:RelV y u) :
  KV (kvs.map fun kv=>if kv.1=k then (kv.1,y) else kv) (vs.map fun kv=>if kv.1=k then (kv.1,u) else kv):=by
 unfold KV at r ⊢
 induction r with
 |nil=>exact .nil
 |@cons p q ps qs h t ih=>
  rw[List.map_cons,List.map_cons];refine .cons ?_ ih;obtain⟨h1,h2⟩:=h;by_cases e:p.1=k
  ·rw[if_pos e,if_pos (h1.symm.trans e)];exact⟨h1,ry⟩
  ·rw[if_neg e,if_neg (fun z=>e (h1.trans z))];exact⟨h1,h2⟩
theorem KV.put{kvs:List (κ×V)}{vs:List (κ×Value)}(r:KV kvs vs)(k:κ){y:V}{u:Value}(ry:RelV y u):KV (ka kvs k y) (stored vs k u):=by
 unfold ka stored;rw[r.any k];by_cases e:(vs.any fun kv=>decide (kv.1=k))=true
 ·rw[if_pos e,if_pos e];exact r.O7 k ry
 ·rw[if_neg e,if_neg e];exact Paired.snoc r ⟨rfl,ry⟩
theorem KV.drop{kvs:List (κ×V)}{vs:List (κ×Value)}(r:KV kvs vs)(k:κ):KV (qu kvs k) (without vs k):=by
 unfold KV at r ⊢;unfold qu without
 induction r with
 |nil=>exact .nil
 |@cons p q ps qs h t ih=>
  obtain⟨h1,h2⟩:=h;rw[List.filter_cons,List.filter_cons];by_cases e:p.1=k
  ·have a:¬decide (p.1≠k)=true:=by simp[e]
   have b:¬decide (q.1≠k)=true:=by simp[h1.symm.trans e]
   rw[if_neg a,if_neg b];exact ih
  ·have e':¬q.1=k:=fun z=>e (h1.trans z)
   have a:decide (p.1≠k)=true:=by simp[e]
   have b:decide (q.1≠k)=true:=by simp[e']
   rw[if_pos a,if_pos b];exact .cons ⟨h1,h2⟩ ih
theorem KV.keys{kvs:List (κ×V)}{vs:List (κ×Value)}(r:KV kvs vs):kvs.map (·.1)=vs.map (·.1):=by
 unfold KV at r
 induction r with
 |nil=>rfl
 |cons h t ih=>rw[List.map_cons,List.map_cons,ih,h.1]
theorem KV.length{kvs:List (κ×V)}{vs:List (κ×Value)}(r:KV kvs vs):kvs.length=vs.length:=Paired.length r
theorem zR(kvs:List (κ×V))(k:κ):(qu kvs k).length<=kvs.length:=List.length_filter_le _ _
end
theorem qg{P:Program}{w:World}{k:Key}{u:Value}(r:RelV (kV k) u):(du P w).is k u=true:=by
 cases k with
 |inl i=>obtain⟨t,e⟩:=(show ∃t,u=Value.int i t from r);subst e;exact u9 P w i t
 |inr x=>obtain⟨t,e⟩:=(show ∃t,u=Value.str x t from r);subst e;exact uM P w x t
theorem sT{P:Program}{w:World}:∀{ks:List Key}{us:List Value},Vals (ks.map kV) us->ItemsAre (du P w) ks us
 |[],_,r=>by rw[List.map_nil] at r;cases r;exact .nil
 |k :: ks,_,r=>by
  rw[List.map_cons] at r;cases r with
  |cons h t=>exact .cons (qg h) (sT t)
abbrev KT(H:Hp):List (List Key×V)->List (List Key×Addr×Value)->Prop:=Paired fun p q=>p.1=q.1/\H q.2.1=some (.tup (p.1.map kV))/\RelV p.2 q.2.2
theorem KT.val{H:Hp}{kvs:List (List Key×V)}{xs:List (List Key×Addr×Value)}(r:KT H kvs xs)(k:List Key):G7 (kq kvs k) ((atKey xs k).map (·.2)):=by
 induction r with
 |nil=>exact True.intro
 |@cons p q ps qs h t ih=>
  obtain⟨h1,_,h2⟩:=h;by_cases e:p.1=k
  ·have e':q.1=k:=h1.symm.trans e;have b:atKey (q :: qs) k=some q.2:=by simp[atKey,List.find?_cons,e']
   rw[nE e,b];exact h2
  ·have e':¬q.1=k:=fun z=>e (h1.trans z)
   have b:atKey (q :: qs) k=atKey qs k:=by simp[atKey,List.find?_cons,e']
   rw[n9 e,b];exact ih
theorem KT.O7{H:Hp}{kvs:List (List Key×V)}{xs:List (List Key×Addr×Value)}(r:KT H kvs xs)(k:List Key){y:V}{u:Value}(ry:RelV y u) :
  KT H (kvs.map fun kv=>if kv.1=k then (kv.1,y) else kv) (xs.map (putAt k u)):=by
 induction r with
 |nil=>exact .nil
 |@cons p q ps qs h t ih=>
  rw[List.map_cons,List.map_cons];refine .cons ?_ ih;obtain⟨h1,h2,h3⟩:=h;unfold putAt;by_cases e:p.1=k
  ·rw[if_pos e,if_pos (h1.symm.trans e)];exact⟨h1,h2,ry⟩
  ·rw[if_neg e,if_neg (fun z=>e (h1.trans z))];exact⟨h1,h2,h3⟩
theorem KT.put{H:Hp}{kvs:List (List Key×V)}{xs:List (List Key×Addr×Value)}(r:KT H kvs xs)(k:List Key){b:Addr}{y:V}{u:Value}(hb:H b=some (.tup (k.map kV)))(ry:RelV y u) :
  KT H (ka kvs k y) (storedH xs k b u):=by
 have e:(kvs.any fun kv=>decide (kv.1=k))=(atKey xs k).isSome:=by
  rw[vE,(r.val k).GZ,Option.isSome_map]
 unfold ka storedH;rw[e];by_cases q:(atKey xs k).isSome=true
 ·rw[if_pos q,if_pos q];exact r.O7 k ry
 ·rw[if_neg q,if_neg q];exact Paired.snoc r ⟨rfl,hb,ry⟩
theorem KT.keeps{H H':Hp}{kvs:List (List Key×V)}{xs:List (List Key×Addr×Value)}(r:KT H kvs xs)(ht:∀b ys,H b=some (.tup ys)->H' b=some (.tup ys)):KT H' kvs xs:=
 Paired.OG r fun _ _ z=>⟨z.1,ht _ _ z.2.1,z.2.2⟩
section
variable{P:Program}{w:World}{H:Hp}{h:Heap}{a:Addr}
theorem BJ{u:HO}(ok:Gq P w H h)(e:Rd H a u):Fe P w H h a u:=e.ok ok
theorem sE{kvs:List (Key×V)}(ok:Gq P w H h)(e:Rd H a (.dK kvs)):kvs.length<=sizeLine/\(a == sysModules)=false/\∃vs,KV kvs vs/\h.DictOf (du P w) a vs:=
 show Fe P w H h a (.dK kvs) from BJ ok e
theorem zE{kvs:List (Key×V)}(ok:Gq P w H h)(e:H a=some (.dK kvs)):kvs.length<=sizeLine/\(a == sysModules)=false/\∃vs,KV kvs vs/\h.DictOf (du P w) a vs:=sE ok (.inl e)
theorem qi{ks:List Key}(ok:Gq P w H h)(e:H a=some (.tup (ks.map kV))):(tupleKind (du P w)).is h ks a:=by
 obtain⟨_,u_,r,o,h1,h2,n,h3⟩:=(show Fe P w H h a (.tup (ks.map kV)) from ok a _ e);exact⟨o,u_.toArray,n,h1,h2,h3,by simpa using sT r⟩
theorem sA{kvs:List (List Key×V)}(ok:Gq P w H h)(e:Rd H a (.dT kvs)):kvs.length<=sizeLine/\(a == sysModules)=false/\
  ∃xs,KT H kvs xs/\h.DictOfH (tupleKind (du P w)) a xs:=by
 obtain⟨z,y,xs,r,o,es,ep,h1,h2,h3,h4,h5⟩:=(show Fe P w H h a (.dT kvs) from BJ ok e);refine⟨z,y,xs,r,o,es,ep,h1,h2,h3,h4,fun x hx=>?_,h5⟩;have all:∀{l:List (List Key×V)}{m:List (List Key×Addr×Value)},KT H l m->∀x∈m,(tupleKind (du P w)).is h x.1 x.2.1:=by
  intro l m q
  induction q with
  |nil=>intro x hx;exact nomatch hx
  |@cons p q ps qs hq t ih=>
   intro x hx;rcases List.mem_cons.mp hx with e|hx
   ·subst e;exact qi ok (by rw[<-hq.1];exact hq.2.1)
   ·exact ih x hx
 exact all r x hx
theorem Du{kvs:List (List Key×V)}(ok:Gq P w H h)(e:H a=some (.dT kvs)):kvs.length<=sizeLine/\(a == sysModules)=false/\
  ∃xs,KT H kvs xs/\h.DictOfH (tupleKind (du P w)) a xs:=sA ok (.inl e)
end
def IS(H:Hp)(a:Addr)(y:V)(r:Option V):Prop:=
 (∃kvs k,Rd H a (.dK kvs)/\y=kV k/\r=kq kvs k)\/∃kvs k b,Rd H a (.dT kvs)/\y=.ref b/\H b=some (.tup (k.map kV))/\r=kq kvs k
def Mb(H:Hp)(a:Addr)(y v:V)(H':Hp):Prop:=
 (∃kvs k,H a=some (.dK kvs)/\y=kV k/\kvs.length<sizeLine/\H'=upd H a (.dK (ka kvs k v)))\/
 ∃kvs k b,H a=some (.dT kvs)/\y=.ref b/\H b=some (.tup (k.map kV))/\kvs.length<sizeLine/\H'=upd H a (.dT (ka kvs k v))
theorem IS.k{H:Hp}{a:Addr}{kvs:List (Key×V)}{k:Key}(e:H a=some (.dK kvs)):IS H a (kV k) (kq kvs k):=.inl ⟨kvs,k,.inl e,rfl,rfl⟩
theorem IS.t{H:Hp}{a b:Addr}{kvs:List (List Key×V)}{k:List Key}(e:H a=some (.dT kvs))(eb:H b=some (.tup (k.map kV))):IS H a (.ref b) (kq kvs k):=.inr ⟨kvs,k,b,.inl e,rfl,eb,rfl⟩
theorem Mb.k{H:Hp}{a:Addr}{kvs:List (Key×V)}{k:Key}{v:V}(e:H a=some (.dK kvs))(hl:kvs.length<sizeLine):Mb H a (kV k) v (upd H a (.dK (ka kvs k v))):=.inl ⟨kvs,k,e,rfl,hl,rfl⟩
theorem Mb.t{H:Hp}{a b:Addr}{kvs:List (List Key×V)}{k:List Key}{v:V}(e:H a=some (.dT kvs))(eb:H b=some (.tup (k.map kV)))(hl:kvs.length<sizeLine) :
  Mb H a (.ref b) v (upd H a (.dT (ka kvs k v))):=.inr ⟨kvs,k,b,e,rfl,eb,hl,rfl⟩
section
variable{X:Cx}{pins:List (Addr×Obj)}{σ:St}{H:Hp}{s:Shared}{a:Addr}{y v:V}{u r:Value}{o:Option V}{A:Around}{E:Value->Shared->Prop}
theorem Inv.big(I:Inv X pins σ H s):sysModules<s.heap.objs.size:=by
 have h:mainGlobals<s.heap.objs.size:=(I.mod.glob.keeps I.bk).lt;exact Nat.lt_trans (by decide) h
theorem yh{Q:Value->Shared->Prop}(hu:A.units+1<cLine)(I:Inv X pins σ H s)(g:IS H a y (some v))(ry:RelV y u)(h:∀w' s',Inv X pins σ H s'->RelV v w'->Q w' s') :
  wpAny (model X.prog X.w) A (getItem (.ref a) u) Q E s:=by
 rcases g with ⟨kvs,k,e,ey,l⟩|⟨kvs,k,b,e,ey,eb,l⟩
 ·subst ey;obtain⟨z,hd,vs,rel,dd⟩:=sE I.EI e;obtain⟨w',hw,HV⟩:=G7.some_of (v:=v) (o:=valueAt vs k) (by rw[l];exact rel.val k);exact wpAny_getItem_of (qg ry) dd.mapOf hw (h w' _ (I.tok _) HV)
 ·subst ey;cases(show u=Value.ref b from ry);obtain⟨z,hd,xs,rel,dd⟩:=sA I.EI e;obtain⟨w',hw,HV⟩:=G7.some_of (v:=v) (o:=(atKey xs k).map (·.2)) (by rw[l];exact rel.val k);obtain⟨p,hp,XT⟩:=Option.map_eq_some_iff.mp hw;refine wpAny_getItem_heap (tupleKind_room_in1 hu) (qi I.EI eb) dd hp ?_;rw[XT];exact h w' _ (I.tok _) HV
theorem Ef{Q:Value->Shared->Prop}(hu:A.units+1<cLine)(I:Inv X pins σ H s)(g:IS H a y o)(ry:RelV y u)(h:∀s',Inv X pins σ H s'->Q (.bool o.isSome) s') :
  wpAny (model X.prog X.w) A (compareOp .In u (.ref a)) Q E s:=by
 rcases g with ⟨kvs,k,e,ey,l⟩|⟨kvs,k,b,e,ey,eb,l⟩
 ·subst ey;obtain⟨z,hd,vs,rel,dd⟩:=sE I.EI e;refine wpAny_in_of (qg ry) hd dd.mapOf ?_;rw[<-(rel.val k).GZ,<-l];exact h _ (I.tok _)
 ·subst ey;cases(show u=Value.ref b from ry);obtain⟨z,hd,xs,rel,dd⟩:=sA I.EI e;refine wpAny_in_heap (tupleKind_room_in1 hu) (qi I.EI eb) hd dd ?_;have q:=(rel.val k).GZ;rw[Option.isSome_map] at q;rw[<-q,<-l];exact h _ (I.tok _)
theorem Bn{Q:Value->Shared->Prop}(hu:A.units+1<cLine)(I:Inv X pins σ H s)(g:IS H a y o)(ry:RelV y u)(h:∀s',Inv X pins σ H s'->Q (.bool (!o.isSome)) s') :
  wpAny (model X.prog X.w) A (compareOp .NotIn u (.ref a)) Q E s:=by
 rcases g with ⟨kvs,k,e,ey,l⟩|⟨kvs,k,b,e,ey,eb,l⟩
 ·subst ey;obtain⟨z,hd,vs,rel,dd⟩:=sE I.EI e;refine wpAny_notIn_of (qg ry) hd dd.mapOf ?_;rw[<-(rel.val k).GZ,<-l];exact h _ (I.tok _)
 ·subst ey;cases(show u=Value.ref b from ry);obtain⟨z,hd,xs,rel,dd⟩:=sA I.EI e;refine wpAny_notIn_heap (tupleKind_room_in1 hu) (qi I.EI eb) hd dd ?_;have q:=(rel.val k).GZ;rw[Option.isSome_map] at q;rw[<-q,<-l];exact h _ (I.tok _)
theorem pY{h':Heap}{t':Nat}{ob:HO}(I:Inv X pins σ H s)(mu:PQ (H a))(hs:Heap.SameBut a s.heap h')(he:∃q,h'.get? a=some q)(new:Fe X.prog X.w (upd H a ob) h' a ob) :
  Inv X pins σ (upd H a ob) { s with heap:=h',toks:=t' }:=
 I.write (x:=a) (e:=a) mu (.inl rfl) (fun b q hb z=>(hs.2 b hb).trans z) he new
theorem wm{P:Program}{w:World}{H':Hp}{h':Heap}{kvs:List (Key×V)}{vs:List (Key×Value)}(z:kvs.length<=sizeLine)(hd:(a == sysModules)=false)(rel:KV kvs vs)(dd:h'.DictOf (du P w) a vs) :
  Fe P w H' h' a (.dK kvs):=⟨z,hd,vs,rel,dd⟩
theorem xQ{H':Hp}{Q:Unit->Shared->Prop}(hu:A.units+1<cLine)(I:Inv X pins σ H s)(g:Mb H a y v H')(ry:RelV y u)(rv:RelV v r)(h:∀s',Inv X pins σ H' s'->Q () s') :
  wpAny (model X.prog X.w) A (setItem (.ref a) u r) Q E s:=by
 rcases g with ⟨kvs,k,e,ey,l,eH⟩|⟨kvs,k,b,e,ey,eb,l,eH⟩
 ·subst ey eH;obtain⟨z,hd,vs,rel,dd⟩:=zE I.EI e;have hz:vs.length<=sizeLine:=by rw[<-rel.length];exact z
  have hl:(ka kvs k v).length<=sizeLine:=by have:=lK kvs k v;omega
  refine wpAny_setItem_pairs (hsz:=hz) (qg ry) dd fun h' Nk hs=>h _ ?_
  have he:∃q,h'.get? a=some q:=let ⟨q,_,_,hq,_⟩:=Nk;⟨q,hq⟩
  exact pY I (by rw[e];exact True.intro) hs he (wm hl hd (rel.put k rv) Nk)
 ·subst ey eH;cases(show u=Value.ref b from ry);obtain⟨z,hd,xs,rel,dd⟩:=Du I.EI e;have hz:xs.length<=sizeLine:=by rw[<-Paired.length rel];exact z
  have hl:(ka kvs k v).length<=sizeLine:=by have:=lK kvs k v;omega
  refine wpAny_setItem_heap (hsz:=hz) (tupleKind_room_in1 hu) (qi I.EI eb) dd fun h' Nk hs=>h _ ?_
  obtain⟨q,es,ep,hq,h2,h3,h4,_,h5⟩:=Nk;refine pY I (by rw[e];exact True.intro) hs ⟨q,hq⟩ ⟨hl,hd,_,(rel.put k eb rv).keeps fun c ys ec=>?_,q,es,ep,hq,h2,h3,h4,h5⟩;rw[bu (CW ec e (fun z=>nomatch z))];exact ec
end
section
variable{X:Cx}{pins:List (Addr×Obj)}{σ:St}{H:Hp}{s:Shared}{a:Addr}{kvs:List (Key×V)}{k:Key}{u:Value}{A:Around}{E:Value->Shared->Prop}
theorem Di{v:V}{more:List Value}{Q:Value->Shared->Prop}(I:Inv X pins σ H s)(e:H a=some (.dK kvs))(ry:RelV (kV k) u)(l:kq kvs k=some v)(hm:more=[]\/∃x,more=[x])
  (h:∀w' s',Inv X pins σ (upd H a (.dK (qu kvs k))) s'->RelV v w'->Q w' s'):wpAny (model X.prog X.w) A (call (.builtin "dict.pop") (.ref a :: u :: more)) Q E s:=by
 obtain⟨z,hd,vs,rel,dd⟩:=zE I.EI e;obtain⟨w',hw,HV⟩:=G7.some_of (v:=v) (o:=valueAt vs k) (by rw[<-l];exact rel.val k);have hp:(keyPart u).isSome=true:=by
  cases k with
  |inl i=>obtain⟨t,q⟩:=(show ∃t,u=Value.int i t from ry);subst q;rfl
  |inr x=>obtain⟨t,q⟩:=(show ∃t,u=Value.str x t from ry);subst q;rfl
 have ha:argsOk "dict.pop" ⟨.ref a :: u :: more,[]⟩:=by
  rcases hm with q|⟨x,q⟩
  ·subst q;exact PySem.F.args_dict_pop_2 _ _
  ·subst q;exact PySem.F.args_dict_pop_3 _ _ _
 refine call_meetsIn PySem.F.slot_dict_pop dd.typeIs PySem.F.entry_dict_pop ha (meets_dict_pop_there (du X.prog X.w) a (qg ry) more hm hp)
  ⟨vs,w',dd,by rw[<-rel.length];exact z,hw,fun h' Nk hs=>h w' _ ?_ HV⟩
 have he:∃q,h'.get? a=some q:=let ⟨q,_,_,hq,_⟩:=Nk;⟨q,hq⟩
 exact pY I (by rw[e];exact True.intro) hs he (wm (Nat.le_trans (zR kvs k) z) hd (rel.drop k) Nk)
end
theorem uP{X:Cx}{pins:List (Addr×Obj)}{σ:St}{H:Hp}{s:Shared}{a:Addr}{y:V}{o:Option V}(I:Inv X pins σ H s)(g:IS H a y o):s.TypeIs (.ref a) "dict":=by
 rcases g with ⟨kvs,k,e,_,_⟩|⟨kvs,k,b,e,_,_,_⟩
 ·obtain⟨_,_,vs,_,dd⟩:=sE I.EI e;exact dd.typeIs
 ·obtain⟨_,_,xs,_,dd⟩:=sA I.EI e;exact dd.typeIs
section
variable{X:Cx}{o i e value:Expr}{pos pos' Jb:Pos}{td ty tv:TE}
end
theorem vJ{P:Program}{w:World}{H:Hp}(h:Heap)(hb:sysModules<h.objs.size):Fe P w H (h.push { cls:=.type "dict",data:=.dict #[] }) h.objs.size (.dK []):=
 ⟨Nat.zero_le _,beq_eq_false_iff_ne.mpr (Ne.symm (Nat.ne_of_lt hb)),[],.nil,Heap.DictOf.new h⟩
def Cf:TE:=fun _ H Q=>∀p,H p=none->Q (.ref p) (upd H p (.dK []))
section
variable{X:Cx}{pos:Pos}
theorem yT:PE X (.Dict [] [] pos) Cf:=fun pins s σ H Q I h=>
 wpAny_Dict_empty ⟨.ref s.heap.objs.size,_,I.laid (a:=s.heap.objs.size) (o:=.dK []) (t':=s.toks) (fun _ _ q=>Heap.get?_push_of_some _ q) (Nat.le_refl _) (vJ s.heap I.big),rfl,h _ (I.EI.fresh (Nat.le_refl _))⟩
end
abbrev VV:List (V×V)->List (Value×Value)->Prop:=Paired fun p q=>RelV p.1 q.1/\RelV p.2 q.2
def oY(kvs more:List (Key×V)):List (Key×V):=more.foldl (fun acc kv=>ka acc kv.1 kv.2) kvs
theorem KV.merge:∀{more:List (Key×V)}{rs:List (Key×Value)}{kvs:List (Key×V)}{vs:List (Key×Value)},KV more rs->KV kvs vs->KV (oY kvs more) (merged vs rs):=by
 intro more rs kvs vs r;unfold KV at r
 induction r generalizing kvs vs with
 |nil=>intro q;exact q
 |@cons p q ps qs h t ih=>
  intro r0;have e:KV (ka kvs p.1 p.2) (stored vs q.1 q.2):=by
   have:=r0.put p.1 h.2;rw[<-h.1];exact this
  exact ih e
theorem mE:∀(more kvs:List (Key×V)),(oY kvs more).length<=kvs.length+more.length
 |[],kvs=>by show kvs.length<=kvs.length+0;omega
 |p :: r,kvs=>by
  have h1:=mE r (ka kvs p.1 p.2);have h2:=lK kvs p.1 p.2;show(oY (ka kvs p.1 p.2) r).length<=_;rw[List.length_cons];omega
theorem qH{P:Program}{w:World}:∀{kvs:List (Key×V)}{ws:List (Value×Value)},VV (kvs.map fun kv=>(kV kv.1,kv.2)) ws->∃rs,Carries (du P w) ws rs/\KV kvs rs
 |[],_,r=>by rw[List.map_nil] at r;cases r;exact⟨[],True.intro,.nil⟩
 |p :: kvs,_,r=>by
  rw[List.map_cons] at r;cases r with
  |@cons a b as bs h t=>
   obtain⟨rs,c,q⟩:=qH (P:=P) (w:=w) t;obtain⟨b1,b2⟩:=b;exact⟨(p.1,b2) :: rs,⟨qg h.1,rfl,c⟩,.cons ⟨rfl,h.2⟩ q⟩
structure M1(X:Cx)(o:Expr)(m:Str)(apos:Pos)(e:Expr)(Fp:Pos):Prop where
 base:attributeBase o m X.env (eval o X.env)=eval o X.env
 XU:((backTo Fp (starEach [e] X.env)).all (fun x=>!x.1) && (backToKw Fp (keywordEach [] X.env)).all (fun x=>x.1.isSome)
  && decide (([e]:List Expr).length+([]:List Keyword).length+(if ([]:List Keyword).isEmpty then 0 else 1)<30))=true
 line:(apos.endLine == Fp.line)=true
 trees:backTo Fp (starEach [e] X.env)=[(false,eval e X.env)]
structure M2(X:Cx)(o:Expr)(m:Str)(apos:Pos)(e f:Expr)(Fp:Pos):Prop where
 base:attributeBase o m X.env (eval o X.env)=eval o X.env
 XU:((backTo Fp (starEach [e,f] X.env)).all (fun x=>!x.1) && (backToKw Fp (keywordEach [] X.env)).all (fun x=>x.1.isSome)
  && decide (([e,f]:List Expr).length+([]:List Keyword).length+(if ([]:List Keyword).isEmpty then 0 else 1)<30))=true
 line:(apos.endLine == Fp.line)=true
 trees:backTo Fp (starEach [e,f] X.env)=[(false,eval e X.env),(false,eval f X.env)]
def XW(H:Hp)(a:Addr):Prop:=(∃kvs,Rd H a (.dK kvs))\/∃kvs,Rd H a (.dT kvs)
theorem BU{X:Cx}{pins:List (Addr×Obj)}{σ:St}{H:Hp}{s:Shared}{a:Addr}(I:Inv X pins σ H s)(d:XW H a) :
  s.TypeIs (.ref a) "dict"/\(∀b,Value.ref a=.ref b->∃ob,s.heap.get? b=some ob/\ob.dict=none)/\(a == sysModules)=false:=by
 rcases d with ⟨kvs,e⟩|⟨kvs,e⟩
 ·obtain⟨_,hd,vs,_,dd⟩:=sE I.EI e;refine⟨dd.typeIs,fun b q=>?_,hd⟩;cases q;obtain⟨ob,_,_,h1,h2,_⟩:=dd;exact⟨ob,h1,h2.2.1⟩
 ·obtain⟨_,hd,xs,_,dd⟩:=sA I.EI e;refine⟨dd.typeIs,fun b q=>?_,hd⟩;cases q;obtain⟨ob,_,_,h1,h2,_⟩:=dd;exact⟨ob,h1,h2.2.1⟩
section
variable{X:Cx}{pins:List (Addr×Obj)}{σ:St}{H:Hp}{s:Shared}{a:Addr}{y d:V}{u r:Value}{o:Option V}{A:Around}{E:Value->Shared->Prop}
end
section
variable{X:Cx}{o e f:Expr}{apos Fp:Pos}{td ty tx:TE}
end
end L2
namespace DL
open PySem PySem.Spec PyProof.Rows L2
def eR(kvs:List (Key×D))(k:Key):Option D:=(kvs.find? fun kv=>decide (kv.1=k)).map (·.2)
def mB(kvs:List (Key×D))(k:Key)(d:D):List (Key×D):=
 if (kvs.any fun kv=>decide (kv.1=k))=true then kvs.map (fun kv=>if kv.1=k then (kv.1,d) else kv) else kvs++[(k,d)]
def vw(kvs:List (Key×D))(k:Key):List (Key×D):=kvs.filter fun kv=>decide (kv.1≠k)
section
variable{K:PySem.W.Frag}{H:Hp}{J:List Addr}
theorem Eu.val:∀{kvs:List (Key×D)}{ws:List (Key×V)}(k:Key),Eu K H J kvs ws->(∀d,eR kvs k=some d->∃v,kq ws k=some v/\r_ K H J d v)/\(eR kvs k=none->kq ws k=none)
 |[],_,k,h=>by
  have h':_=[]:=h;subst h';exact⟨fun d e=>(by cases e),fun _=>rfl⟩
 |(k0,d0) :: r,ws,k,h=>by
  obtain⟨v,t,rfl,h2,h3⟩:=h;by_cases e:k0=k
  ·have e1:eR ((k0,d0) :: r) k=some d0:=by simp[eR,List.find?_cons,e]
   have e2:kq ((k0,v) :: t) k=some v:=nE e;rw[e1,e2];exact⟨fun d q=>⟨v,rfl,by cases q;exact h2⟩,fun q=>(by cases q)⟩
  ·have e1:eR ((k0,d0) :: r) k=eR r k:=by simp[eR,List.find?_cons,e]
   have e2:kq ((k0,v) :: t) k=kq t k:=n9 e;rw[e1,e2];exact Eu.val k h3
theorem Eu.Qo:∀{kvs:List (Key×D)}{ws:List (Key×V)}(k:Key),Eu K H J kvs ws->(kvs.any fun kv=>decide (kv.1=k))=ws.any fun kv=>decide (kv.1=k)
 |[],_,k,h=>by
  have h':_=[]:=h;subst h';rfl
 |(k0,d0) :: r,ws,k,h=>by
  obtain⟨v,t,rfl,h2,h3⟩:=h;rw[List.any_cons,List.any_cons,Eu.Qo k h3]
theorem Eu.O8{d:D}{v:V}(hd:r_ K H J d v):∀{kvs:List (Key×D)}{ws:List (Key×V)}(k:Key),Eu K H J kvs ws->
  Eu K H J (kvs.map fun kv=>if kv.1=k then (kv.1,d) else kv) (ws.map fun kv=>if kv.1=k then (kv.1,v) else kv)
 |[],_,k,h=>by
  have h':_=[]:=h;subst h';exact h
 |(k0,d0) :: r,ws,k,h=>by
  obtain⟨v0,t,rfl,h2,h3⟩:=h;rw[List.map_cons,List.map_cons];by_cases e:k0=k
  ·rw[if_pos e,if_pos e];exact⟨v,_,rfl,hd,Eu.O8 hd k h3⟩
  ·rw[if_neg e,if_neg e];exact⟨v0,_,rfl,h2,Eu.O8 hd k h3⟩
theorem Eu.snoc{d:D}{v:V}(hd:r_ K H J d v):∀{kvs:List (Key×D)}{ws:List (Key×V)}(k:Key),Eu K H J kvs ws->Eu K H J (kvs++[(k,d)]) (ws++[(k,v)])
 |[],_,k,h=>by
  have h':_=[]:=h;subst h';exact⟨v,[],rfl,hd,rfl⟩
 |(k0,d0) :: r,ws,k,h=>by
  obtain⟨v0,t,rfl,h2,h3⟩:=h;exact⟨v0,_,rfl,h2,Eu.snoc hd k h3⟩
theorem Eu.put{d:D}{v:V}(hd:r_ K H J d v){kvs:List (Key×D)}{ws:List (Key×V)}(k:Key)(h:Eu K H J kvs ws):Eu K H J (mB kvs k d) (ka ws k v):=by
 unfold mB ka;rw[h.Qo k];by_cases e:(ws.any fun kv=>decide (kv.1=k))=true
 ·rw[if_pos e,if_pos e];exact h.O8 hd k
 ·rw[if_neg e,if_neg e];exact h.snoc hd k
theorem Eu.MM:∀{kvs:List (Key×D)}{ws:List (Key×V)}(k:Key),Eu K H J kvs ws->Eu K H J (vw kvs k) (qu ws k)
 |[],_,k,h=>by
  have h':_=[]:=h;subst h';exact h
 |(k0,d0) :: r,ws,k,h=>by
  obtain⟨v0,t,rfl,h2,h3⟩:=h;unfold vw qu;rw[List.filter_cons,List.filter_cons];by_cases e:decide (k0≠k)=true
  ·rw[if_pos e,if_pos e];exact⟨v0,_,rfl,h2,Eu.MM k h3⟩
  ·rw[if_neg e,if_neg e];exact Eu.MM k h3
end
def gK:D->Option Key
 |.int i=>some (.inl i)
 |.str x=>some (.inr x)
 |_=>none
theorem j4{K:PySem.W.Frag}{H:Hp}{J:List Addr}{x:D}{k:Key}{v:V}(h:gK x=some k)(r:r_ K H J x v):v=kV k:=by
 cases x with
 |int i=>cases h;cases r.FO;rfl
 |str i=>cases h;cases r.ME;rfl
 |_=>cases h
def dN(S:List Cell)(n:Nat):Option (List (Key×D)):=match S[n]? with
 |some (.FN kvs)=>some kvs
 |_=>none
theorem vN{S:List Cell}{n:Nat}{kvs:List (Key×D)}(h:dN S n=some kvs):S[n]?=some (.FN kvs):=by
 unfold dN at h;split at h
 ·rename_i e;cases h;exact e
 ·cases h
theorem dZ{S:List Cell}{n:Nat}{kvs:List (Key×D)}(h:S[n]?=some (.FN kvs)):dN S n=some kvs:=by unfold dN;rw[h]
theorem EB.FN{K:PySem.W.Frag}{H:Hp}{J:List Addr}{S:List Cell}{n:Nat}{kvs:List (Key×D)}{a:Addr}(rs:EB K H J S)(h:dN S n=some kvs)(hn:J[n]?=some a):∃ws,H a=some (.dK ws)/\Eu K H J kvs ws:=rs.at_ n _ a (vN h) hn
section
variable{X:Cx}{a b o e:Expr}{es:List Expr}{fa fb fo fi fe:o_->M D}{ft:o_->M (List D)}{pos:Pos}
def qY(x y:D):M D:=fun S=>match gK x,y with
 |some k,.ob n=>(match dN S n with
  |some kvs=>.ok (.bl (eR kvs k).isSome) S
  |none=>.bad)
 |_,_=>.bad
def fY(x y:D):M D:=fun S=>match gK x,y with
 |some k,.ob n=>(match dN S n with
  |some kvs=>.ok (.bl (!(eR kvs k).isSome)) S
  |none=>.bad)
 |_,_=>.bad
theorem uD{K:PySem.W.Frag}{H:Hp}{J:List Addr}{S:List Cell}{n:Nat}{kvs:List (Key×D)}{ad:Addr}(rs:EB K H J S)(h:dN S n=some kvs)(hn:J[n]?=some ad)(k:Key) :
  (∀d,eR kvs k=some d->∃v,IS H ad (kV k) (some v)/\r_ K H J d v)/\∃ov,IS H ad (kV k) ov/\ov.isSome=(eR kvs k).isSome:=by
 obtain⟨ws,hv,rp⟩:=rs.FN h hn;obtain⟨h1,h2⟩:=rp.val k;refine⟨fun d e=>?_,kq ws k,IS.k hv,?_⟩
 ·obtain⟨v,e1,e2⟩:=h1 d e;exact⟨v,by rw[<-e1];exact IS.k hv,e2⟩
 ·cases e:eR kvs k with
  |none=>rw[h2 e];rfl
  |some d=>obtain⟨v,e1,_⟩:=h1 d e;rw[e1];rfl
theorem zA(hu:X.A.units+64<cLine):Iu X (compareOp .In) qY:=by
 intro pins s σ H J S x y vx vy v u Q E I rs rx ry rv ru m;unfold qY at m;cases ek:gK x with
 |none=>rw[ek] at m;exact m.elim
 |some k=>
  rw[ek] at m;cases y with
  |ob n=>
   dsimp only at m;obtain⟨ad,rfl,hn⟩:=ry.HN;cases ru;cases ed:dN S n with
   |none=>rw[ed] at m;exact m.elim
   |some kvs=>
    rw[ed] at m;have:=j4 ek rx;subst this;obtain⟨_,ov,g,e⟩:=uD rs ed hn k;refine Ef (by omega) I g rv fun s' I'=>?_
    rw[e];exact m.Hk I' rs (r_.bl _ _ _ _) rfl
  |_=>exact m.elim
theorem sI(hu:X.A.units+64<cLine):Iu X (compareOp .NotIn) fY:=by
 intro pins s σ H J S x y vx vy v u Q E I rs rx ry rv ru m;unfold fY at m;cases ek:gK x with
 |none=>rw[ek] at m;exact m.elim
 |some k=>
  rw[ek] at m;cases y with
  |ob n=>
   dsimp only at m;obtain⟨ad,rfl,hn⟩:=ry.HN;cases ru;cases ed:dN S n with
   |none=>rw[ed] at m;exact m.elim
   |some kvs=>
    rw[ed] at m;have:=j4 ek rx;subst this;obtain⟨_,ov,g,e⟩:=uD rs ed hn k;refine Bn (by omega) I g rv fun s' I'=>?_
    rw[e];exact m.Hk I' rs (r_.bl _ _ _ _) rfl
  |_=>exact m.elim
def bV(x y:D):M D:=fun S=>match x,gK y with
 |.ob n,some k=>(match dN S n with
  |some kvs=>(match eR kvs k with
   |some d=>.ok d S
   |none=>.bad)
  |none=>.bad)
 |_,_=>.bad
theorem fX(hu:X.A.units+64<cLine):Px X bV:=by
 intro value slice pins s σ H J S x y vx vy v u Q E I rs rx ry rv ru hs m;unfold bV at m;cases ek:gK y with
 |none=>rw[ek] at m;cases x<;>exact m.elim
 |some k=>
  rw[ek] at m;cases x with
  |ob n=>
   dsimp only at m;obtain⟨ad,rfl,hn⟩:=rx.HN;cases rv;cases ed:dN S n with
   |none=>rw[ed] at m;exact m.elim
   |some kvs=>
    rw[ed] at m;dsimp only at m;have:=j4 ek ry;subst this;cases ev:eR kvs k with
    |none=>rw[ev] at m;exact m.elim
    |some d=>
     rw[ev] at m;obtain⟨h1,_⟩:=uD rs ed hn k;obtain⟨w,g,HV⟩:=h1 d ev;exact tail_any (uP I g) PySem.F.slot_dict_getitem.lookup (yh (by omega) I g ru fun w' s' I' rr=>m.Hk I' rs HV rr) hs
  |_=>exact m.elim
def k8:o_->M D:=fun _ S=>.ok (.ob S.length) (S++[.FN []])
theorem pW:E_ X (.Dict [] [] pos) k8:=by
 intro pins s σ H J r S Q E I m;refine wpAny_mono (yT (X:=X.EV E) pins s σ H (Got X.K H J (.ob S.length) (S++[.FN []])) (I.inv.EV E) ?_) (fun u s' q=>m u s' (EP.ET q)) fun _ _ z=>z
 intro p hp;exact⟨J++[p],(Ext.new hp).snoc _,I.st.push hp ⟨[],bN,rfl⟩,.ob (by rw[<-I.st.len];simp)⟩
def So(X:Cx)(g:D->D->D->List Cell->Option (List Cell)):Prop:=∀(pins:Ez) (s:Shared) (σ:L2.St) (H:Hp) (J:List Addr) (S:List Cell) (x y d:D) (vx vy vd:V) (ux uy ud:Value) (S':List Cell) (Q:Unit->Shared->Prop) (E:Value->Shared->Prop),
 Inv X pins σ H s->EB X.K H J S->r_ X.K H J x vx->r_ X.K H J y vy->r_ X.K H J d vd->RelV vx ux->RelV vy uy->RelV vd ud->g x y d S=some S'->(∀s' H',Inv X pins σ H' s'->Ext H J H' J->EB X.K H' J S'->Q () s')->wpAny (model X.prog X.w) X.A (setItem ux uy ud) Q E s
def kt(g:D->D->D->List Cell->Option (List Cell))(fo fi fe:o_->M D):EL:=fun r=>cC (fe r) r fun d=>cC (fo r) r fun x=>cC (fi r) r fun y S=>match g x y d S with
 |some S'=>some (.nx r,S')
 |none=>none
theorem io{i:Expr}{pos':Pos}{g:D->D->D->List Cell->Option (List Cell)}(hg:So X g)(ho:E_ X o fo)(hi:E_ X i fi)(he:E_ X e fe)(hs:swapsWith e (some (.Subscript o i pos')) pos.line X.env=pure false:=by rfl) :
  Lx X (.Assign [.Subscript o i pos'] e pos) (kt g fo fi fe):=by
 intro pins s σ H J r S Q E I m;refine wpAny_Assign_Subscript (tC he I m fun d S1 ud s1 vd H1 J1 I1 x1 rd ru m1=>tC ho I1 m1 fun x S2 ux s2 vx H2 J2 I2 x2 rx XX m2=>tC hi I2 m2 fun y S3 uy s3 vy H3 J3 I3 x3 ry XY m3=>?_) hs;cases eg:g x y d S3 with
 |none=>rw[eg] at m3;exact m3.elim
 |some S'=>
  rw[eg] at m3;exact hg pins s3 σ H3 J3 S3 x y d vx vy vd ux uy ud S' _ E I3.inv I3.st (rx.ext x3) ry ((rd.ext x2).ext x3) XX XY ru eg fun s' H' I' x' MI=>m3 s' σ H' J3 ⟨I',I3.loc.ext x',MI⟩ x'
def gq(x y d:D)(S:List Cell):Option (List Cell):=match x,gK y with
 |.ob n,some k=>(match dN S n with
  |some kvs=>G5 (kvs.length<sizeLine) (some (S.set n (.FN (mB kvs k d)))) none
  |none=>none)
 |_,_=>none
theorem iK(hu:X.A.units+64<cLine):So X gq:=by
 intro pins s σ H J S x y d vx vy vd ux uy ud S' Q E I rs rx ry rd Sq Ss Su eg k;unfold gq at eg;cases ek:gK y with
 |none=>rw[ek] at eg;cases x<;>cases eg
 |some ky=>
  rw[ek] at eg;cases x with
  |ob n=>
   dsimp only at eg;obtain⟨ad,rfl,hn⟩:=rx.HN;cases Sq;cases ed:dN S n with
   |none=>rw[ed] at eg;cases eg
   |some kvs=>
    rw[ed] at eg;dsimp only at eg;unfold G5 at eg;split at eg
    ·rename_i hz;cases eg;have:=j4 ek ry;subst this;obtain⟨ws,hv,rp⟩:=rs.FN ed hn;refine xQ (by omega) I (Mb.k hv (by rw[rp.length];exact hz)) Ss Su fun s' I'=>?_
     have x':Ext H J (upd H ad (.dK (ka ws ky vd))) J:=Ext.write hv rfl;exact k s' _ I' x' (rs.write hn ⟨_,bN,(rp.ext x').put (rd.ext x') ky⟩)
    ·cases eg
  |_=>cases eg
def k9(x y d:D)(S:List Cell):Option (List Cell):=match x,y with
 |.ob n,.int i=>(match de S n with
  |some xs=>(match Lm xs.length i with
   |some j=>some (S.set n (.lst (xs.set j d)))
   |none=>none)
  |none=>none)
 |_,_=>none
theorem tY:So X k9:=by
 intro pins s σ H J S x y d vx vy vd ux uy ud S' Q E I rs rx ry rd Sq Ss Su eg k;unfold k9 at eg;cases x with
 |ob n=>
  cases y with
  |int i=>
   dsimp only at eg;obtain⟨ad,rfl,hn⟩:=rx.HN;cases ry.FO;cases ed:de S n with
   |none=>rw[ed] at eg;cases eg
   |some xs=>
    rw[ed] at eg;dsimp only at eg;cases ej:Lm xs.length i with
    |none=>rw[ej] at eg;cases eg
    |some j=>
     rw[ej] at eg;cases eg;obtain⟨ws,hv,HV⟩:=rs.lst ed hn;refine wpAny_mono (zl (X:=X.EV E) pins s σ H (.ref ad) (.int i) vd ux uy ud (fun H'=>H'=upd H ad (.lst (ws.set j vd))) (I.EV E) Sq Ss Su ⟨ad,ws,i,j,rfl,rfl,hv,by rw[HV.length];exact ej,rfl⟩) (fun _ s' q=>?_) fun _ _ z=>z
     obtain⟨H',I',rfl⟩:=q;have x':Ext H J (upd H ad (.lst (ws.set j vd))) J:=Ext.write hv rfl;exact k s' _ I'.ET x' (rs.write hn ⟨_,bN,j_.set (rd.ext x') j (HV.ext x')⟩)
  |_=>cases eg
 |_=>cases eg
def Ba(x:D):M Unit:=fun S=>match x with
 |.ob n=>(match dN S n with
  |some _=>.ok () S
  |none=>.bad)
 |_=>.bad
def xR(g:D->List D->M D)(fo:o_->M D)(ft:o_->M (List D)):o_->M D:=fun r=>(fo r).bind fun x=>(Ba x).bind fun _=>(ft r).bind fun xs=>g x xs
theorem Cy{name:Str}{apos Fp:Pos}{id:String}{g:D->List D->M D}(slot:Slot "dict" name id)(Sm:typeOf (.builtin id)=pure (.type "method_descriptor"))(hm:O6 X id g)
  (ho:E_ X o fo) (ha:KS X (e :: es) ft)
  (Je:attributeBase o name X.env (eval o X.env)=eval o X.env:=by rfl)
  (LC:((backTo Fp (starEach (e :: es) X.env)).all (fun x=>!x.1) && (backToKw Fp (keywordEach [] X.env)).all (fun x=>x.1.isSome)
   && decide ((e :: es).length+([]:List Keyword).length+(if ([]:List Keyword).isEmpty then 0 else 1)<30))=true:=by rfl)
  (Jf:(apos.endLine == Fp.line)=true:=by rfl) (hs:starEach (e :: es) X.env=(false,eval e X.env) :: starEach es X.env:=by rfl) (Jg:(backTo Fp (starEach es X.env)).any (·.1)=false:=by rfl) :
  E_ X (.Call (.Attribute o name apos) (e :: es) [] Fp) (xR g fo ft):=by
 intro pins s σ H J r S Q E I m;refine wpAny_Call_method_late Je LC Jf rfl (ho pins s σ H J r S _ E I ?_);unfold xR M.bind at m;cases e1:fo r S with
 |bad=>rw[e1] at m;exact m
 |exc c S1=>rw[e1] at m;exact m
 |ok x S1=>
  rw[e1] at m;dsimp only at m;rintro v s1 ⟨vx,H1,I1,r1,J1,Hj,Hy,GX⟩;cases x with
  |ob n=>
   obtain⟨a,rfl,hn⟩:=GX.HN;simp only[Ba] at m;cases e2:dN S1 n with
   |none=>rw[e2] at m;exact m.elim
   |some kvs=>
    rw[e2] at m;obtain⟨ws,hv,E7⟩:=Hy.FN e2 hn;cases r1;obtain⟨h1,h2,_⟩:=BU I1 (.inl ⟨ws,.inl hv⟩);refine⟨"dict",id,PySem.F.plainAttrs_dict,slot,Sm,h1,h2,?_⟩;have m:=Mt.ext Hj m;have hA:=Cc (k:=fun xs=>g (.ob n) xs) (Q':=fun us s2=>wpAny (model X.prog X.w) X.A (call (.builtin id) (.ref a :: us)) Q E s2) ha ⟨I1,I.loc.ext Hj,Hy⟩ m (fun xs S2 s2 H2 J2 vs us I2 x2 rv r2 m2=>?_) Fp
    ·rw[hs] at hA ⊢;exact Calls.callWith_builtin (by show(false || (backTo Fp (starEach es X.env)).any (·.1))=false;rw[Jg]<;>rfl) (Calls.evalArgs_plain hA)
    ·exact hm pins s2 σ H2 J2 S2 (.ob n) xs (.ref a) vs (.ref a) us Q E I2.inv I2.st (GX.ext x2) rv rfl r2 m2
  |_=>exact m.elim
def vD:D->List D->M D
 |.ob n,[y]=>fun S=>match gK y,dN S n with
  |some k,some kvs=>(match eR kvs k with
   |some d=>.ok d (S.set n (.FN (vw kvs k)))
   |none=>.bad)
  |_,_=>.bad
 |_,_=>M.bad
theorem AV:O6 X "dict.pop" vD:=by
 intro pins s σ H J S x xs vx vs v us Q E I rs rx Kn rv E7 m;cases x with
 |ob n=>
  match xs,m,Kn with
  |[y],m,Kn=>
   obtain⟨ad,rfl,hn⟩:=rx.HN;obtain⟨w,rfl,HV⟩:=Kn.Ih;obtain⟨u,rfl,ru⟩:=E7.one;cases rv;simp only[vD] at m;cases ek:gK y with
   |none=>rw[ek] at m;exact m.elim
   |some k=>
    rw[ek] at m;cases ed:dN S n with
    |none=>rw[ed] at m;exact m.elim
    |some kvs=>
     rw[ed] at m;dsimp only at m;cases ev:eR kvs k with
     |none=>rw[ev] at m;exact m.elim
     |some d=>
      rw[ev] at m;have:=j4 ek HV;subst this;obtain⟨ws,hv,rp⟩:=rs.FN ed hn;obtain⟨vd,e1,rd⟩:=(rp.val k).1 d ev;refine Di I hv ru e1 (.inl rfl) fun w' s' I' rr=>?_
      have x':Ext H J (upd H ad (.dK (qu ws k))) J:=Ext.write hv rfl;exact m w' s' ⟨vd,_,I',rr,J,x',rs.write hn ⟨_,bN,(rp.ext x').MM k⟩,rd.ext x'⟩
  |[],m,_=>exact m.elim
  |_ :: _ :: _,m,_=>exact m.elim
 |_=>exact m.elim
end
end DL
namespace DL
open PySem PySem.Spec PyProof.Rows L2
theorem pH(l:Addr)(items:Array Value)(n:Nat)(b:Addr)(Jh:Array Value)(n2:Nat)(dd:Option Addr)(sl:Array (Option Value))(VD:¬(!items.isEmpty && Builtin.List.listTooLong (items.size+Jh.size))=true)(XZ:items.size<=sizeLine)(Kc:items.size+Jh.size<=sizeLine+1) :
  Meets (Builtin.«list.extend» ⟨[.ref l,.ref b],[]⟩) (fun _ R s=>s.heap.get? l=some { cls:=.type "list",dict:=none,data:=.seq items n,slots:=#[] }/\s.heap.get? b=some { cls:=.type "tuple",dict:=dd,data:=.seq Jh n2,slots:=sl }/\R (.ok (.ret Value.none)) { s with heap:=s.heap.update l (Obj.mapSeq fun x=>x++Jh),toks:=s.toks }):=
 .of_wp fun prog w A R s h=>by
  obtain⟨hp,g,d,tk,os⟩:=s;obtain⟨hl,hb,h⟩:=h;have f1:=PySem.AutoSeq1.idx_int;have f2:=PySem.AutoSeq1.sub_tuple_tuple;have f3:=PySem.AutoSeq1.sub_list_list;have f4:=PySem.AutoSeq1.sub_tuple_list;have f5:=PySem.AutoSeq1.sub_list_tuple;have QZ:(items++Jh).size<=sizeLine+1:=by rw[Array.size_append];exact Kc
  wp_walk using (wpAny_updateSeq hl rfl (hz:=XZ) (_hz':=QZ)),wpAny_loadPart' hl,wpAny_loadPart' hb
  exact⟨_,rfl,h⟩
section
variable{X:Cx}
def si:D->List D->M D
 |.ob n,[.tup ys]=>fun S=>match de S n with
  |some xs=>G5 (xs.length+ys.length<=sizeLine) (.ok .B_ (S.set n (.lst (xs++ys)))) .bad
  |none=>.bad
 |_,_=>M.bad
theorem oG:O6 X "list.extend" si:=by
 intro pins s σ H J S x xs vx vs v us Q E I rs rx Kn rv E7 m;cases x with
 |ob n=>
  match xs,m,Kn with
  |[.tup ys],m,Kn=>
   obtain⟨ad,rfl,hn⟩:=rx.HN;obtain⟨w,rfl,HV⟩:=Kn.Ih;obtain⟨u,rfl,ru⟩:=E7.one;cases rv;obtain⟨b,zs,rfl,hq,rz⟩:=HV.HM;cases ru;simp only[si,G5] at m;cases ed:de S n with
   |none=>rw[ed] at m;exact m.elim
   |some Q0=>
    rw[ed] at m;dsimp only at m;split at m
    ·rename_i hz;obtain⟨ws,hv,rws⟩:=rs.lst ed hn;obtain⟨z,u_,n1,r,hl,e⟩:=I.K0 hv;obtain⟨K2,r2,ht,VS⟩:=I.tuple hq;obtain⟨⟨P6,Pr,data2,Pt⟩,Nu,Oi,n2,hd2⟩:=id ht;simp only at Oi hd2;subst Oi hd2;have Mz:=r2.length;have l1:=rws.length;have l2:=rz.length;have hsz:u_.toArray.size+K2.toArray.size<=sizeLine:=by rw[List.size_toArray,List.size_toArray];omega
     have MB:¬(!u_.toArray.isEmpty && Builtin.List.listTooLong (u_.toArray.size+K2.toArray.size))=true:=by
      rw[uY hsz,Bool.and_false];exact Bool.false_ne_true
     refine call_meets F.slot_list_extend ⟨_,e,rfl⟩ F.entry_list_extend (F.args_list_extend_2 _ _) (pH ad u_.toArray n1 b K2.toArray n2 Pr Pt MB (by rw[List.size_toArray];omega) (by omega)) ⟨e,Nu,?_⟩;have x':Ext H J (upd H ad (.lst (ws++zs))) J:=Ext.write hv rfl;refine m _ _ ⟨.B_,_,I.Nv (its':=u_++K2) hv e (by simp) (r.append r2) (by rw[List.length_append];omega),rfl,J,x',rs.write hn ⟨_,bN,(rws.ext x').append (rz.ext x')⟩,r_.B_ _ _ _⟩
    ·exact m.elim
  |[],m,_=>exact m.elim
  |[.B_],m,_=>exact m.elim
  |[.bl _],m,_=>exact m.elim
  |[.int _],m,_=>exact m.elim
  |[.str _],m,_=>exact m.elim
  |[.FC _],m,_=>exact m.elim
  |[.ob _],m,_=>exact m.elim
  |[.xn _],m,_=>exact m.elim
  |y :: _ :: _,m,_=>cases y<;>exact m.elim
 |_=>exact m.elim
theorem j_.eraseIdx{K:PySem.W.Frag}{H:Hp}{J:List Addr}:∀{xs:List D}{vs:List V}(i:Nat),j_ K H J xs vs->j_ K H J (xs.eraseIdx i) (vs.eraseIdx i)
 |[],_,i,h=>by unfold j_ at h;subst h;simp;exact .nil
 |x :: xs,vs,0,h=>by
  unfold j_ at h;obtain⟨v,r,h1,h2,h3⟩:=h;subst h1;exact h3
 |x :: xs,vs,i+1,h=>by
  unfold j_ at h;obtain⟨v,r,h1,h2,h3⟩:=h;subst h1;exact .cons h2 (j_.eraseIdx i h3)
def vY:D->List D->M D
 |.ob n,[.int i]=>fun S=>match de S n with
  |some xs=>G5 (0<=i/\i<xs.length) (match xs[i.toNat]? with
   |some d=>.ok d (S.set n (.lst (xs.eraseIdx i.toNat)))
   |none=>.bad) .bad
  |none=>.bad
 |_,_=>M.bad
theorem z0:O6 X "list.pop" vY:=by
 intro pins s σ H J S x xs vx vs v us Q E I rs rx Kn rv E7 m;cases x with
 |ob n=>
  match xs,m,Kn with
  |[.int i],m,Kn=>
   obtain⟨ad,rfl,hn⟩:=rx.HN;obtain⟨w,rfl,HV⟩:=Kn.Ih;cases HV.FO;simp only[vY,G5] at m;cases ed:de S n with
   |none=>rw[ed] at m;exact m.elim
   |some Q0=>
    rw[ed] at m;dsimp only at m;split at m
    ·rename_i hz;cases e3:Q0[i.toNat]? with
     |none=>rw[e3] at m;exact m.elim
     |some d=>
      rw[e3] at m;obtain⟨ws,hv,rws⟩:=rs.lst ed hn;obtain⟨w,hw,HV⟩:=rws.get e3;have hl:=rws.length;have Sv:=mW;have hz0:=(I.K0 hv).1;refine wpAny_mono (zm (X:=X.EV E) pins s σ H (.ref ad) [.int i] v us (Got X.K H J d (S.set n (.lst (Q0.eraseIdx i.toNat)))) (I.EV E) rv E7 ⟨ad,ws,i,i.toNat,w,rfl,rfl,hv,by omega,by omega,seqIndex_of hz.1 (by rw[hl];exact hz.2),hw,?_⟩) (fun u s' q=>m u s' (EP.ET q)) fun _ _ z=>z
      have x':Ext H J (upd H ad (.lst (ws.eraseIdx i.toNat))) J:=Ext.write hv rfl;exact⟨J,x',rs.write hn ⟨_,bN,j_.eraseIdx _ (rws.ext x')⟩,HV.ext x'⟩
    ·exact m.elim
  |[],m,_=>exact m.elim
  |[.B_],m,_=>exact m.elim
  |[.bl _],m,_=>exact m.elim
  |[.tup _],m,_=>exact m.elim
  |[.str _],m,_=>exact m.elim
  |[.FC _],m,_=>exact m.elim
  |[.ob _],m,_=>exact m.elim
  |[.xn _],m,_=>exact m.elim
  |y :: _ :: _,m,_=>cases y<;>exact m.elim
 |_=>exact m.elim
def uK:D->List D->M D
 |.ob n,[.int i,y]=>fun S=>match de S n with
  |some xs=>G5 ((0<=i/\i<=xs.length)/\xs.length<sizeLine) (.ok .B_ (S.set n (.lst (xs.take i.toNat++y :: xs.drop i.toNat)))) .bad
  |none=>.bad
 |_,_=>M.bad
theorem xS:O6 X "list.insert" uK:=by
 intro pins s σ H J S x xs vx vs v us Q E I rs rx Kn rv E7 m;cases x with
 |ob n=>
  match xs,m,Kn with
  |[.int i,y],m,Kn=>
   obtain⟨ad,rfl,hn⟩:=rx.HN;obtain⟨w1,w2,rfl,X0,X1⟩:=Kn.NC;cases X0.FO;obtain⟨u1,u2,rfl,X2,X3⟩:=E7.two;obtain⟨t1,rfl⟩:=X2;cases rv;simp only[uK,G5] at m;cases ed:de S n with
   |none=>rw[ed] at m;exact m.elim
   |some Q0=>
    rw[ed] at m;dsimp only at m;split at m
    ·rename_i hz;obtain⟨ws,hv,rws⟩:=rs.lst ed hn;obtain⟨z,u_,n1,r,hl,e⟩:=I.K0 hv;have l1:=rws.length;have Sv:=mW;have MA:Builtin.List.listFitsIndex i=true:=fitsIndex_both (by omega) (by omega);refine call_meets PySem.F.slot_list_insert ⟨_,e,rfl⟩ PySem.F.entry_list_insert (PySem.F.args_list_insert_3 _ _ _) (PySem.AutoSeq1.list_insert_list_int_val_1 ad u_.toArray n1 i t1 u2 (by simp[MA]) (by rw[List.size_toArray];omega)) ⟨e,?_⟩;have x':Ext H J (upd H ad (.lst (ws.take i.toNat++w2 :: ws.drop i.toNat))) J:=Ext.write hv rfl;refine m _ _ ⟨.B_,_,I.Nv (its':=u_.take i.toNat++u2 :: u_.drop i.toNat) hv e ?_ ((r.take _).append (.cons X3 (r.drop _))) ?_,rfl,J,x',rs.write hn ⟨_,bN,((rws.ext x').take _).append (.cons (X1.ext x') ((rws.ext x').drop _))⟩,r_.B_ _ _ _⟩
     ·have h0:¬i<0:=by omega
      have hk:min i.toNat u_.toArray.size=i.toNat:=by rw[List.size_toArray];omega
      simp only[if_neg h0,hk];apply Array.toList_inj.mp;simp;exact List.take_of_length_le (by rw[List.length_drop];exact Nat.le_refl _)
     ·rw[List.length_append,List.length_cons,List.length_take,List.length_drop];omega
    ·exact m.elim
  |[],m,_=>exact m.elim
  |[.int _],m,_=>exact m.elim
  |[.B_],m,_=>exact m.elim
  |[.bl _],m,_=>exact m.elim
  |[.tup _],m,_=>exact m.elim
  |[.str _],m,_=>exact m.elim
  |[.FC _],m,_=>exact m.elim
  |[.ob _],m,_=>exact m.elim
  |[.xn _],m,_=>exact m.elim
  |.B_ :: _ :: _,m,_=>exact m.elim
  |.bl _ :: _ :: _,m,_=>exact m.elim
  |.tup _ :: _ :: _,m,_=>exact m.elim
  |.str _ :: _ :: _,m,_=>exact m.elim
  |.FC _ :: _ :: _,m,_=>exact m.elim
  |.ob _ :: _ :: _,m,_=>exact m.elim
  |.xn _ :: _ :: _,m,_=>exact m.elim
  |.int _ :: _ :: _ :: _,m,_=>exact m.elim
 |_=>exact m.elim
end
end DL
namespace DL
open PySem PySem.Spec PyProof.Rows L2
section
variable{X:Cx}
theorem dO{n:Nat}{g:o_->M (List D)}(h:∀(r:o_) (S:List Cell) (xs:List D) (S':List Cell),g r S=.ok xs S'->xs.length=n):∀(r:o_) (S:List Cell) (xs:List D) (S':List Cell),g r S=.ok xs S'->xs.length+1=n+1:=
 fun r S xs S' e=>by rw[h r S xs S' e]
def nM:o_->M (List (D×D)):=fun _=>M.ret []
def dD(fk fv:o_->M D)(f:o_->M (List (D×D))):o_->M (List (D×D)):=fun r=>(fk r).bind fun k=>(fv r).bind fun v=>(f r).bind fun ps=>M.ret ((k,v) :: ps)
def PH(X:Cx)(pins:Ez)(σ:L2.St)(H:Hp)(J:List Addr)(r:R (List (D×D)))(Q:List (Value×Value)->Shared->Prop)(E:Value->Shared->Prop):Prop:=match r with
 |.ok ps S'=>∀us s',(∃vs H' J',Inv X pins σ H' s'/\VV vs us/\Ext H J H' J'/\EB X.K H' J' S'/\j_ X.K H' J' (ps.map (·.1)) (vs.map (·.1))/\j_ X.K H' J' (ps.map (·.2)) (vs.map (·.2)))->Q us s'
 |.exc c S'=>∀e s',XP X pins σ c (HL X.K H J S') e s'->E e s'
 |.bad=>False
theorem PH.ext{pins:Ez}{σ:L2.St}{H H1:Hp}{J J1:List Addr}{r:R (List (D×D))}{Q:List (Value×Value)->Shared->Prop}{E:Value->Shared->Prop}(e:Ext H J H1 J1)(h:PH X pins σ H J r Q E):PH X pins σ H1 J1 r Q E:=by
 cases r with
 |ok d S=>exact fun u s' ⟨v,H',J',I,rv,x,g⟩=>h u s' ⟨v,H',J',I,rv,e.trans x,g⟩
 |exc c S=>exact fun u s' x=>h u s' (x.ext e)
 |bad=>exact h
def Q2(X:Cx)(pos:Pos)(keys:List (Option Expr))(values:List Expr)(f:o_->M (List (D×D))):Prop:=∀(pins:Ez) (s:Shared) (σ:L2.St) (H:Hp) (J:List Addr) (r:o_) (S:List Cell) (Q:List (Value×Value)->Shared->Prop) (E:Value->Shared->Prop),
 At X pins σ H J r S s->PH X pins σ H J (f r S) Q E->wpAny (model X.prog X.w) X.A (evalPairs (pairTrees keys values X.env pos)) Q E s
theorem wU{pos:Pos}:Q2 X pos [] [] nM:=fun pins s σ H J r S Q E I m=>pairTrees_nil_walk (m [] s ⟨[],H,J,I.inv,.nil,Ext.refl _ _,I.st,.nil,.nil⟩)
theorem j3{pos:Pos}{k v:Expr}{ks:List (Option Expr)}{vs:List Expr}{fk fv:o_->M D}{f:o_->M (List (D×D))}(hk:E_ X k fk)(hv:E_ X v fv)(hr:Q2 X pos ks vs f):Q2 X pos (some k :: ks) (v :: vs) (dD fk fv f):=by
 intro pins s σ H J r S Q E I m;refine pairTrees_cons_walk (hk pins s σ H J r S _ E I ?_);unfold dD M.bind at m;cases e1:fk r S with
 |bad=>rw[e1] at m;exact m
 |exc c S1=>rw[e1] at m;exact m
 |ok x S1=>
  rw[e1] at m;intro u1 s1 ⟨v1,H1,I1,r1,J1,x1,Hy,GX⟩;have m:=PH.ext x1 m;dsimp only at m;refine hv pins s1 σ H1 J1 r S1 _ E ⟨I1,I.loc.ext x1,Hy⟩ ?_;cases e2:fv r S1 with
  |bad=>rw[e2] at m;exact m
  |exc c S2=>rw[e2] at m;exact m
  |ok y S2=>
   rw[e2] at m;intro u2 s2 ⟨v2,H2,I2,r2,J2,x2,Ie,Kk⟩;have m:=PH.ext x2 m;dsimp only at m;refine hr pins s2 σ H2 J2 r S2 _ E ⟨I2,(I.loc.ext x1).ext x2,Ie⟩ ?_;cases e3:f r S2 with
   |bad=>rw[e3] at m;exact m
   |exc c S3=>rw[e3] at m;exact m
   |ok ps S3=>
    rw[e3] at m;intro us s3 ⟨X4,H3,J3,I3,rel,x3,Oj,ra,rb⟩;exact m _ s3 ⟨(v1,v2) :: X4,H3,J3,I3,.cons ⟨r1,r2⟩ rel,x3,Oj,.cons ((GX.ext x2).ext x3) ra,.cons (Kk.ext x3) rb⟩
def mI:List (D×D)->Option (List (Key×D))
 |[]=>some []
 |(k,d) :: r=>match gK k,mI r with
  |some k',some t=>some ((k',d) :: t)
  |_,_=>none
def oZ(kvs more:List (Key×D)):List (Key×D):=more.foldl (fun acc kv=>mB acc kv.1 kv.2) kvs
def mL(f:o_->M (List (D×D))):o_->M D:=fun r S=>match f r (S++[.FN []]) with
 |.ok ps S1=>(match dN S1 S.length,mI ps with
  |some [],some kvs=>G5 (kvs.length<=15) (.ok (.ob S.length) (S1.set S.length (.FN (oZ [] kvs)))) .bad
  |_,_=>.bad)
 |.exc c S1=>.exc c S1
 |.bad=>.bad
theorem sW{K:PySem.W.Frag}{H:Hp}{J:List Addr}:∀{ps:List (D×D)}{vs:List (V×V)}{kvs:List (Key×D)},mI ps=some kvs->j_ K H J (ps.map (·.1)) (vs.map (·.1))->j_ K H J (ps.map (·.2)) (vs.map (·.2))->
  ∃ws:List (Key×V),vs=ws.map (fun kv=>(kV kv.1,kv.2))/\Eu K H J kvs ws/\ws.length=kvs.length
 |[],vs,kvs,e,ra,rb=>by
  cases e;have:=ra.length;cases vs with
  |nil=>exact⟨[],rfl,rfl,rfl⟩
  |cons v vs=>simp at this
 |(k,d) :: r,vs,kvs,e,ra,rb=>by
  cases vs with
  |nil=>have:=ra.length;simp at this
  |cons v vs=>
   unfold mI at e;cases e1:gK k with
   |none=>rw[e1] at e;cases e
   |some k'=>
    rw[e1] at e;cases e2:mI r with
    |none=>rw[e2] at e;cases e
    |some t=>
     rw[e2] at e;cases e;rw[List.map_cons,List.map_cons] at ra rb;unfold j_ at ra rb;obtain⟨a1,a2,a3,a4,a5⟩:=ra;obtain⟨b1,b2,b3,b4,b5⟩:=rb
     injection a3 with a6 a7
     injection b3 with b6 b7
     subst a6 a7 b6 b7;obtain⟨ws,h1,h2,h3⟩:=sW e2 a5 b5;refine⟨(k',v.2) :: ws,?_,⟨v.2,ws,rfl,b4,h2⟩,by simp[h3]⟩;rw[List.map_cons,<-h1,<-j4 e1 a4]
theorem Eu.merge{K:PySem.W.Frag}{H:Hp}{J:List Addr}:∀{more:List (Key×D)}{ms:List (Key×V)}{kvs:List (Key×D)}{ws:List (Key×V)},Eu K H J more ms->Eu K H J kvs ws->Eu K H J (oZ kvs more) (oY ws ms)
 |[],_,kvs,ws,h,g=>by
  have h':_=[]:=h;subst h';exact g
 |(k,d) :: r,ms,kvs,ws,h,g=>by
  obtain⟨v,t,rfl,h2,h3⟩:=h;exact Eu.merge (kvs:=mB kvs k d) (ws:=ka ws k v) h3 (g.put h2 k)
theorem wS{pos:Pos}{keys:List (Option Expr)}{values:List Expr}{f:o_->M (List (D×D))}(h:Q2 X pos keys values f)(OO:keys.all (·.isSome)=true:=by rfl)(hl:keys.length=values.length:=by rfl)(h0:keys≠[]:=by simp)
  (X5:keys.length<=15:=by decide):E_ X (.Dict keys values pos) (mL f):=by
 intro pins s σ H J r S Q E I m;have hn:=I.inv.EI.fresh (Nat.le_refl s.heap.objs.size);have I1:=I.inv.laid (a:=s.heap.objs.size) (o:=.dK []) (h':=s.heap.push { cls:=.type "dict",data:=.dict #[] }) (t':=s.toks) (fun _ _ q=>Heap.get?_push_of_some _ q) (Nat.le_refl _) (vJ s.heap I.inv.big);have x1:Ext H J (upd H s.heap.objs.size (.dK [])) (J++[s.heap.objs.size]):=(Ext.new hn).snoc _;have Hy:EB X.K (upd H s.heap.objs.size (.dK [])) (J++[s.heap.objs.size]) (S++[.FN []]):=I.st.push hn ⟨[],bN,rfl⟩;have hJ:(J++[s.heap.objs.size])[S.length]?=some s.heap.objs.size:=by rw[<-I.st.len];simp
 refine wpAny_Dict_walk (knd:=du X.prog X.w) OO hl h0 X5 (h pins _ σ _ _ r (S++[.FN []]) _ E ⟨I1,I.loc.ext x1,Hy⟩ ?_);unfold mL at m;cases e1:f r (S++[.FN []]) with
 |bad=>rw[e1] at m;exact m
 |exc c S1=>rw[e1] at m;exact fun u s' x=>m u s' (x.ext x1)
 |ok ps S1=>
  rw[e1] at m;have m:=Mt.ext x1 m;intro us s2 ⟨vs,H2,J2,I2,rel,x2,Ie,ra,rb⟩;have m:=Mt.ext x2 m;dsimp only at m;have Sw:J2[S.length]?=some s.heap.objs.size:=by
   obtain⟨mm,em⟩:=x2.pre;rw[em,List.getElem?_append_left (List.getElem?_eq_some_iff.mp hJ).1];exact hJ
  cases e2:dN S1 S.length with
  |none=>rw[e2] at m;exact m.elim
  |some Sx=>
   rw[e2] at m;cases Sx with
   |cons p q=>exact m.elim
   |nil=>
    cases e3:mI ps with
    |none=>rw[e3] at m;exact m.elim
    |some kvs=>
     rw[e3] at m;dsimp only at m;unfold G5 at m;split at m
     ·rename_i hz;obtain⟨ws,rfl,rp,QR⟩:=sW e3 ra rb;obtain⟨w0,hv,X6⟩:=Ie.FN e2 Sw;have Sy:w0=[]:=X6;subst Sy;obtain⟨rs,c,rk⟩:=qH (P:=X.prog) (w:=X.w) rel;obtain⟨z,hd,vs0,r0,dd⟩:=zE I2.EI hv;cases r0;refine⟨rs,c,dd,fun h' Nk hs=>?_⟩;have QZ:(oY [] ws).length<=sizeLine:=by
       have h1:=mE ws [];rw[List.length_nil] at h1;rw[sizeLine_eq];omega
      have he:∃q,h'.get? s.heap.objs.size=some q:=let ⟨q,_,_,hq,_⟩:=Nk;⟨q,hq⟩
      have x':Ext H2 J2 (upd H2 s.heap.objs.size (.dK (oY [] ws))) J2:=Ext.write hv rfl;exact m _ _ ⟨.ref s.heap.objs.size,_,pY I2 (by rw[hv];exact True.intro) hs he (wm QZ hd (rk.merge .nil) Nk),rfl,J2,x',Ie.write Sw ⟨_,bN,(rp.ext x').merge rfl⟩,.ob Sw⟩
     ·exact m.elim
end
end DL
namespace DL
open PySem PySem.Spec PyProof.Rows L2
theorem Ms{n:Nat}(h:n<=1000000):n<sizeLine:=Nat.lt_of_le_of_lt h (by rw[sizeLine_eq];decide)
section
variable{α β:Type}{S:List Cell}{r:o_}
@[simp] theorem aw(m:M α)(k:α->M β):(m.bind k) S=match m S with
 |.ok a S'=>k a S'
 |.exc c S'=>.exc c S'
 |.bad=>.bad:=rfl
@[simp] theorem j0(a:α):(M.ret a) S=.ok a S:=rfl
@[simp] theorem kO(i:Nat):aa i r S=match r[i]? with
 |some (some d)=>.ok d S
 |_=>.bad:=rfl
@[simp] theorem uo(d:D):dC d r S=.ok d S:=rfl
@[simp] theorem Ep(g:D->D->M D)(fa fb:o_->M D):f_ g fa fb r=(fa r).bind fun x=>(fb r).bind fun y=>g x y:=rfl
@[simp] theorem Es(g:D->M D)(fa:o_->M D):PD g fa r=(fa r).bind g:=rfl
@[simp] theorem DI(g:List D->M D)(ft:o_->M (List D)):am g ft r=(ft r).bind g:=rfl
@[simp] theorem DY:ai r=M.ret []:=rfl
@[simp] theorem DH(f:o_->M D)(g:o_->M (List D)):ac f g r=(f r).bind fun x=>(g r).bind fun xs=>M.ret (x :: xs):=rfl
@[simp] theorem DD(f:o_->M D):ao f r=(f r).bind OQ:=rfl
@[simp] theorem Dz(b:Bool):OQ (.bl b) S=.ok b S:=rfl
@[simp] theorem cU(f:o_->M D):bW f r=(f r).bind qX:=rfl
@[simp] theorem CP(b:Bool):qX (.bl b) S=.ok b S:=rfl
@[simp] theorem cK(t u:o_->M Bool):dg t u r=(t r).bind fun c=>if c=true then u r else M.ret false:=rfl
@[simp] theorem fV(t u:o_->M Bool):G9 t u r=(t r).bind fun c=>if c=true then M.ret true else u r:=rfl
@[simp] theorem da(t:o_->M Bool):dc t r=(t r).bind fun c=>M.ret (!c):=rfl
@[simp] theorem gW(fa fb:o_->M D):jC fa fb r=(ao fa r).bind fun c=>if c=true then fb r else M.ret (.bl false):=rfl
@[simp] theorem DS(fa fb:o_->M D):Ej fa fb r=(ao fa r).bind fun c=>if c=true then M.ret (.bl true) else fb r:=rfl
@[simp] theorem DC(fa:o_->M D):xi fa r=(ao fa r).bind fun c=>M.ret (.bl (!c)):=rfl
@[simp] theorem zV(t:o_->M Bool)(fa fb:o_->M D):Pu t fa fb r=(t r).bind fun c=>if c=true then fa r else fb r:=rfl
@[simp] theorem Ak(g g':D->D->M D)(fa fb fc:o_->M D):oQ g g' fa fb fc r=(fa r).bind fun x=>(fb r).bind fun y=>((g x y).bind OQ).bind fun k=>if k=true then (fc r).bind fun z=>g' y z else M.ret (.bl false):=rfl
@[simp] theorem DW(ft:o_->M (List D)):cf ft r=(ft r).bind oS:=rfl
@[simp] theorem DM(ft:o_->M (List D)):bZ ft r=(ft r).bind oK:=rfl
@[simp] theorem mM(g:D->Option Int->Option Int->M D)(fe:o_->M D)(fl fh:o_->M (Option Int)):GF g fe fl fh r=(fe r).bind fun x=>(fl r).bind fun l=>(fh r).bind fun h=>g x l h:=rfl
@[simp] theorem eS:bz r=M.ret none:=rfl
@[simp] theorem gz(f:o_->M D):bI f r=(f r).bind Aj:=rfl
@[simp] theorem gZ(i:Int):Aj (.int i)=M.ret (some i):=rfl
@[simp] theorem Eo(T:String)(f:o_->M D):Jv T f r=(f r).bind (MJ T):=rfl
@[simp] theorem jY(f:o_->M D):Hd f r=(f r).bind iC:=rfl
@[simp] theorem Eh:gD r=M.ret true:=rfl
@[simp] theorem D5(C:Addr)(ns:List Str)(i:Nat)(fo:o_->M D):aA C ns i fo r=(fo r).bind fun x=>(ic C ns x).bind fun p=>AZ p.2[i]?:=rfl
@[simp] theorem D6(d:D):AZ (some d) S=.ok d S:=rfl
@[simp] theorem Bt(C:Addr)(ns:List Str)(F:List D->M D)(fo:o_->M D)(ft:o_->M (List D)):aV C ns F fo ft r=(fo r).bind fun x=>(ic C ns x).bind fun _=>(ft r).bind fun xs=>F (x :: xs):=rfl
@[simp] theorem Em(g:D->List D->M D)(fo:o_->M D)(ft:o_->M (List D)):Ij g fo ft r=(fo r).bind fun x=>(AD x).bind fun _=>(ft r).bind fun xs=>g x xs:=rfl
@[simp] theorem DR(g:D->List D->M D)(fo:o_->M D)(ft:o_->M (List D)):xR g fo ft r=(fo r).bind fun x=>(Ba x).bind fun _=>(ft r).bind fun xs=>g x xs:=rfl
@[simp] theorem DE:k8 r S=.ok (.ob S.length) (S++[.FN []]):=rfl
@[simp] theorem Et(i:Nat)(d:D):gN i d r=some (r.set i (some d)):=rfl
theorem cc{n:Nat}{xs:List D}(h:S[n]?=some (.lst xs)):de S n=some xs:=by unfold de;rw[h]
@[simp] theorem DU{n:Nat}:AD (.ob n) S=match de S n with
 |some _=>.ok () S
 |none=>.bad:=rfl
@[simp] theorem Ek{n:Nat}:Ba (.ob n) S=match dN S n with
 |some _=>.ok () S
 |none=>.bad:=rfl
@[simp] theorem cw(i j:Int):bJ (.int i) (.int j) S=.ok (.int (i+j)) S:=rfl
@[simp] theorem tj(i j:Int):rN (.int i) (.int j) S=.ok (.int (i-j)) S:=cg trivial
theorem iR{i j:Int}(h:L7 i j):iP (.int i) (.int j) S=.ok (.int (i * j)) S:=cg h
@[simp] theorem D3(j:Int):iP (.int 2) (.int j) S=.ok (.int (2 * j)) S:=iR (.inl ⟨by decide,by decide⟩)
theorem cS{i j:Int}(h:0<j):jo (.int i) (.int j) S=.ok (.int (i % j)) S:=cg h
theorem wA{i j:Int}(h:CN i j):zr (.int i) (.int j) S=.ok (.int (i / j)) S:=cg h
@[simp] theorem rO(i j:Int):Hl (.int i) (.int j) S=.ok (.bl (decide (i<j))) S:=rfl
@[simp] theorem xL(i j:Int):LZ (.int i) (.int j) S=.ok (.bl (decide (i<=j))) S:=rfl
@[simp] theorem A4(i j:Int):ML (.int i) (.int j) S=.ok (.bl (decide (j<i))) S:=rfl
@[simp] theorem vG(i j:Int):IQ (.int i) (.int j) S=.ok (.bl (decide (j<=i))) S:=rfl
@[simp] theorem jf(i j:Int):EE (.int i) (.int j) S=.ok (.bl (decide (i=j))) S:=AL S i j
@[simp] theorem gs(i j:Int):Gr (.int i) (.int j) S=.ok (.bl (!decide (i=j))) S:=AR S i j
@[simp] theorem BG(i j:Int):yE [.int i,.int j] S=.ok (.int (min i j)) S:=by
 show R.ok (D.int (if j<i then j else i)) S=_;congr 2;omega
@[simp] theorem Ds(i j:Int):B6 [.int i,.int j] S=.ok (.int (max i j)) S:=by
 show R.ok (D.int (if j > i then j else i)) S=_;congr 2;omega
theorem aL{xs:List D}{i:Nat}{d:D}(h:xs[i]?=some d):t_ (.tup xs) (.int (i:Int)) S=.ok d S:=by
 simp only[t_,iq,ui h]
theorem gg{xs:List D}{n i:Nat}{d:D}(hn:S[n]?=some (.lst xs))(h:xs[i]?=some d):t_ (.ob n) (.int (i:Int)) S=.ok d S:=by
 simp only[t_,iq,cc hn,ui h]
theorem j7{xs:List D}{n:Nat}(hn:S[n]?=some (.lst xs)):bG [.ob n] S=.ok (.int xs.length) S:=by
 simp only[bG,iq,cc hn]
@[simp] theorem cx(xs:List D):bG [.tup xs] S=.ok (.int xs.length) S:=rfl
@[simp] theorem BM(xs:List D):eJ [.tup xs] S=.ok (.tup xs) S:=rfl
theorem dR{xs:List D}{n:Nat}(hn:S[n]?=some (.lst xs)):eJ [.ob n] S=.ok (.tup xs) S:=by
 simp only[eJ,iq,cc hn]
theorem uO{xs:List D}(h:xs.length<=1000000):oS xs S=.ok (.tup xs) S:=cg (Nat.le_of_lt (Ms h))
theorem vg{xs:List D}(h:xs.length<=1000000):oK xs S=.ok (.ob S.length) (S++[.lst xs]):=cg (Nat.le_of_lt (Ms h))
theorem ve{xs:List D}{n:Nat}{d:D}(hn:S[n]?=some (.lst xs))(h:xs.length<1000000):kT (.ob n) [d] S=.ok .B_ (S.set n (.lst (xs++[d]))):=by
 simp only[kT,cc hn];exact cg (Ms (by omega))
theorem BL{xs ys:List D}{n:Nat}(hn:S[n]?=some (.lst xs))(h:xs.length+ys.length<=1000000):si (.ob n) [.tup ys] S=.ok .B_ (S.set n (.lst (xs++ys))):=by
 simp only[si,cc hn];exact cg (Nat.le_of_lt (Ms h))
@[simp] theorem DG:bE r S=some (.nx r,S):=rfl
@[simp] theorem pV(m:M α)(k:α->List Cell->Lo):cC m r k S=match m S with
 |.ok a S'=>k a S'
 |.exc c S'=>some (.xc c r,S')
 |.bad=>none:=rfl
@[simp] theorem qL(t u:EL):aN t u r S=match t r S with
 |some (.nx r',S')=>u r' S'
 |o=>o:=rfl
@[simp] theorem Ea(f:o_->M D):bP f r=cC (f r) r fun d S=>some (.rt d,S):=rfl
@[simp] theorem DJ(f:o_->M D):bx f r=cC (f r) r fun _ S=>some (.nx r,S):=rfl
@[simp] theorem Er(c:o_->M Bool)(t u:EL):Fd c t u r=cC (c r) r fun b S=>if b=true then t r S else u r S:=rfl
@[simp] theorem D9(f:o_->M D)(g:JE):cj f g r=cC (f r) r fun d S=>match g d r with
 |some r'=>some (.nx r',S)
 |none=>none:=rfl
@[simp] theorem DZ(C:Addr)(ns:List Str)(i:Nat)(fo fe:o_->M D):kY C ns i fo fe r=cC (fe r) r fun d=>cC (fo r) r fun x S1=>match ic C ns x S1 with
 |.ok p S2=>some (.nx r,S2.set p.1 (.ins C ns (p.2.set i d)))
 |_=>none:=rfl
@[simp] theorem DF(C:Addr)(ns:List Str)(f:Str)(fo fe:o_->M D):cV C ns f fo fe r=cC (fe r) r fun d=>cC (fo r) r fun x S1=>match ic C ns x S1 with
 |.ok p S2=>some (.nx r,S2.set p.1 (.ins C (ns++[f]) (p.2++[d])))
 |_=>none:=rfl
@[simp] theorem D0(g:D->D->D->List Cell->Option (List Cell))(fo fi fe:o_->M D):kt g fo fi fe r=cC (fe r) r fun d=>cC (fo r) r fun x=>cC (fi r) r fun y S=>match g x y d S with
 |some S'=>some (.nx r,S')
 |none=>none:=rfl
@[simp] theorem Dd(S0:List Cell)(d:D):fin S0 (some (.rt d,S))=.ok d S:=rfl
@[simp] theorem CY(S0:List Cell):fin S0 (some (.nx r,S))=.ok .B_ S:=rfl
@[simp] theorem CT(S0:List Cell)(c:Addr):fin S0 (some (.xc c r,S))=.exc c S:=rfl
theorem lX{S0 G:List Cell}{d:D}(h:FY S0.length d):cY S0 (some (.rt d,S0++G))=.ok d S0:=if_pos ⟨⟨G,rfl⟩,h⟩
theorem bF{S0:List Cell}{d:D}(h:FY S0.length d):cY S0 (some (.rt d,S0))=.ok d S0:=if_pos ⟨⟨[],by simp⟩,h⟩
end
def Fr(fp:List Nat)(S S':List Cell):Prop:=S.length<=S'.length/\∀i,i<S.length->i∉fp->S'[i]?=S[i]?
theorem Fr.refl(fp:List Nat)(S:List Cell):Fr fp S S:=⟨Nat.le_refl _,fun _ _ _=>rfl⟩
theorem Fr.trans{fp fq:List Nat}{S S1 S2:List Cell}(a:Fr fp S S1)(b:Fr fq S1 S2)(h:∀i∈fq,i<S.length->i∈fp):Fr fp S S2:=
 ⟨Nat.le_trans a.1 b.1,fun i hi hn=>(b.2 i (Nat.lt_of_lt_of_le hi a.1) fun hq=>hn (h i hq hi)).trans (a.2 i hi hn)⟩
theorem Fr.tr{fp:List Nat}{S S1 S2:List Cell}(a:Fr fp S S1)(b:Fr fp S1 S2):Fr fp S S2:=a.trans b fun _ h _=>h
theorem Fr.set{fp:List Nat}{S:List Cell}{n:Nat}{c:Cell}(h:n∈fp):Fr fp S (S.set n c):=
 ⟨by rw[List.length_set];exact Nat.le_refl _,fun i _ hn=>List.getElem?_set_ne fun e:n=i=>hn (e ▸ h)⟩
theorem Fr.push{fp:List Nat}{S:List Cell}{c:List Cell}:Fr fp S (S++c):=
 ⟨by rw[List.length_append];omega,fun i hi _=>List.getElem?_append_left hi⟩
theorem Fr.get{fp:List Nat}{S S':List Cell}{i:Nat}{c:Cell}(a:Fr fp S S')(h:S[i]?=some c)(hn:i∉fp):S'[i]?=some c:=
 (a.2 i (List.getElem?_eq_some_iff.mp h).1 hn).trans h
theorem Fr.mono{fp fq:List Nat}{S S':List Cell}(a:Fr fp S S')(h:∀i∈fp,i<S.length->i∈fq):Fr fq S S':=⟨a.1,fun i hi hn=>a.2 i hi fun z=>hn (h i z hi)⟩
theorem aT{S:List Cell}{i:Nat}{c:Cell}(h:S[i]?=some c):i<S.length:=(List.getElem?_eq_some_iff.mp h).1
theorem d6{S:List Cell}{i:Nat}{c d:Cell}(h:S[i]?=some c):(S.set i d)[i]?=some d:=by
 rw[List.getElem?_set];simp[aT h]
theorem cR{S:List Cell}{i j:Nat}{c d:Cell}(h:S[j]?=some c)(hn:i≠j):(S.set i d)[j]?=some c:=by rw[List.getElem?_set_ne hn];exact h
theorem aG{S G:List Cell}{j:Nat}{c:Cell}(h:S[j]?=some c):(S++G)[j]?=some c:=by rw[List.getElem?_append_left (aT h)];exact h
theorem aW{S:List Cell}{c:Cell}:(S++[c])[S.length]?=some c:=by simp
section
variable{S S1 S2:List Cell}{r r1:o_}{d x y:D}{n:Nat}{C:Addr}{ns:List Str}{ds:List D}
theorem ax{t u:EL}(h:t r S=some (.nx r1,S1)):aN t u r S=u r1 S1:=by rw[qL,h]
theorem di{t u:EL}(h:t r S=some (.rt d,S1)):aN t u r S=some (.rt d,S1):=by rw[qL,h]
theorem bB{fe:o_->M D}{i:Nat}(h:fe r S=.ok d S1):cj fe (gN i) r S=some (.nx (r.set i (some d)),S1):=by simp[h]
theorem bc{fe:o_->M D}(h:fe r S=.ok d S1):bx fe r S=some (.nx r,S1):=by simp[h]
theorem aP{fe:o_->M D}(h:fe r S=.ok d S1):bP fe r S=some (.rt d,S1):=by simp[h]
theorem BH{c:o_->M Bool}{t u:EL}{b:Bool}(h:c r S=.ok b S1):Fd c t u r S=if b=true then t r S1 else u r S1:=by simp[h]
theorem aQ{c:o_->M Bool}{t u:EL}(h:c r S=.ok true S1):Fd c t u r S=t r S1:=by rw[BH h,if_pos rfl]
theorem av{c:o_->M Bool}{t u:EL}(h:c r S=.ok false S1):Fd c t u r S=u r S1:=by rw[BH h,if_neg (by decide)]
theorem B8{i:Nat}{fo fe:o_->M D}(h1:fe r S=.ok d S1)(h2:fo r S1=.ok (.ob n) S2)(h3:S2[n]?=some (.ins C ns ds)):kY C ns i fo fe r S=some (.nx r,S2.set n (.ins C ns (ds.set i d))):=by
 simp[h1,h2,me h3]
theorem kG{f:Str}{fo fe:o_->M D}(h1:fe r S=.ok d S1)(h2:fo r S1=.ok (.ob n) S2)(h3:S2[n]?=some (.ins C ns ds)):cV C ns f fo fe r S=some (.nx r,S2.set n (.ins C (ns++[f]) (ds++[d]))):=by
 simp[h1,h2,me h3]
theorem wX{i:Nat}{fo fe:o_->M D}{a b:Int}{Ow:List D}{S3:List Cell}(h2:fo r S=.ok (.ob n) S1)(h3:S1[n]?=some (.ins C ns ds))(h4:ds[i]?=some (.int a))(h1:fe r S1=.ok (.int b) S3)(h5:S3[n]?=some (.ins C ns Ow)) :
  pa C ns i fo fe r S=some (.nx r,S3.set n (.ins C ns (Ow.set i (.int (a+b))))):=by
 unfold pa;simp[h2,me h3,h4,h1,me h5]
theorem lI{g:D->D->D->List Cell->Option (List Cell)}{fo fi fe:o_->M D}{S3 S4:List Cell}(h1:fe r S=.ok d S1)(h2:fo r S1=.ok x S2)(h3:fi r S2=.ok y S3)(h4:g x y d S3=some S4):kt g fo fi fe r S=some (.nx r,S4):=by
 simp[h1,h2,h3,h4]
theorem bK{i:Nat}{fo:o_->M D}(h:fo r S=.ok (.ob n) S1)(h3:S1[n]?=some (.ins C ns ds))(hd:ds[i]?=some d):aA C ns i fo r S=.ok d S1:=by
 simp[h,me h3,hd]
theorem aS{F:List D->M D}{fo:o_->M D}{ft:o_->M (List D)}{xs:List D}{a:R D}(h:fo r S=.ok (.ob n) S1)(h3:S1[n]?=some (.ins C ns ds))(h4:ft r S1=.ok xs S2)(h5:F (.ob n :: xs) S2=a):aV C ns F fo ft r S=a:=by
 simp[h,me h3,h4,h5]
theorem ay{F:List D->M D}{ft:o_->M (List D)}{xs:List D}{a:R D}(h4:ft r S=.ok xs S1)(h5:F xs S1=a):am F ft r S=a:=by simp[h4,h5]
theorem ar{g:D->D->M D}{fa fb:o_->M D}{a:R D}(h1:fa r S=.ok x S1)(h2:fb r S1=.ok y S2)(h3:g x y S2=a):f_ g fa fb r S=a:=by simp[h1,h2,h3]
theorem ag{f:o_->M D}{g:o_->M (List D)}{xs:List D}(h1:f r S=.ok x S1)(h2:g r S1=.ok xs S2):ac f g r S=.ok (x :: xs) S2:=by simp[h1,h2]
theorem aj:ai r S=.ok [] S:=rfl
theorem az{f:o_->M D}{b:Bool}(h:f r S=.ok (.bl b) S1):ao f r S=.ok b S1:=by simp[h]
theorem mH{g:D->List D->M D}{fo:o_->M D}{ft:o_->M (List D)}{xs ys:List D}{a:R D}(h:fo r S=.ok (.ob n) S1)(h3:S1[n]?=some (.lst ys))(h4:ft r S1=.ok xs S2)(h5:g (.ob n) xs S2=a):Ij g fo ft r S=a:=by
 simp[h,cc h3,h4,h5]
theorem Ca{g:D->List D->M D}{fo:o_->M D}{ft:o_->M (List D)}{xs:List D}{kvs:List (Key×D)}{a:R D}(h:fo r S=.ok (.ob n) S1)(h3:S1[n]?=some (.FN kvs))(h4:ft r S1=.ok xs S2)(h5:g (.ob n) xs S2=a):xR g fo ft r S=a:=by
 simp[h,dZ h3,h4,h5]
theorem bQ{ft:o_->M (List D)}{xs:List D}(h:ft r S=.ok xs S1)(hl:xs.length<=1000000):cf ft r S=.ok (.tup xs) S1:=by simp[h,uO hl]
theorem cb{ft:o_->M (List D)}{xs:List D}(h:ft r S=.ok xs S1)(hl:xs.length<=1000000):bZ ft r S=.ok (.ob S1.length) (S1++[.lst xs]):=by simp[h,vg hl]
theorem bi{a b:Str}{c:Bool}(h1:(PyData.str a).canLay0=true:=by decide +kernel)(h2:(PyData.str b).canLay0=true:=by decide +kernel)(h3:decide (a=b)=c:=by decide +kernel):EE (.str a) (.str b) S=.ok (.bl c) S:=by
 subst h3;have h:(PyData.str a).eqv (.str b)=decide (a=b):=by
  by_cases e:a=b
  ·subst e;simp[PyData.eqv]
  ·simp[PyData.eqv,e]
 simp only[EE,pD,h1,h2,if_true,h]
theorem zB{a b:Str}{c:Bool}(h1:(PyData.str a).canLay0=true:=by decide +kernel)(h2:(PyData.str b).canLay0=true:=by decide +kernel)(h3:(!decide (a=b))=c:=by decide +kernel):Gr (.str a) (.str b) S=.ok (.bl c) S:=by
 subst h3;have h:(PyData.str a).eqv (.str b)=decide (a=b):=by
  by_cases e:a=b
  ·subst e;simp[PyData.eqv]
  ·simp[PyData.eqv,e]
 simp only[Gr,pD,h1,h2,if_true,h]
end
end DL
namespace DL
open PySem PySem.Spec PyProof.Rows L2
section
variable{S S1 S2:List Cell}{r r1:o_}{d x y:D}{n i:Nat}{C:Addr}{ns:List Str}{ds Ow:List D}{fo fe:o_->M D}
theorem bh{S:List Cell}{i:Nat}{c:Cell}(h:i=S.length):(S++[c])[i]?=some c:=by subst h;exact aW
structure Ch(n:Nat)(c:Cell)(S S':List Cell):Prop where
 at_:S'[n]?=some c
 fr:Fr [n] S S'
 len:S'.length=S.length
theorem Ch.old{m:Nat}{c c':Cell}(h:Ch n c S S1)(hm:S[m]?=some c')(hn:n≠m):S1[m]?=some c':=h.fr.get hm (by simpa using Ne.symm hn)
theorem Ch.set{c c':Cell}(h:S[n]?=some c'):Ch n c S (S.set n c):=⟨d6 h,Fr.set (by simp),by simp⟩
theorem iz(h1:fe r S=.ok d S1)(h2:fo r S1=.ok (.ob n) S1)(h3:S1[n]?=some (.ins C ns ds))(h4:ds.set i d=Ow):∃S2,kY C ns i fo fe r S=some (.nx r,S2)/\Ch n (.ins C ns Ow) S1 S2:=by
 subst h4;exact⟨_,B8 h1 h2 h3,Ch.set h3⟩
theorem xm{a b:Int}(h2:fo r S=.ok (.ob n) S)(h3:S[n]?=some (.ins C ns ds))(h5:ds[i]?=some (.int a))(h1:fe r S=.ok (.int b) S)(h4:ds.set i (.int (a+b))=Ow):∃S2,pa C ns i fo fe r S=some (.nx r,S2)/\Ch n (.ins C ns Ow) S S2:=by
 subst h4;exact⟨_,wX h2 h3 h5 h1 h3,Ch.set h3⟩
theorem tO{xs:List D}{ft:o_->M (List D)}(h1:fo r S=.ok (.ob n) S)(h2:S[n]?=some (.lst xs))(h3:ft r S=.ok [d] S)(hz:xs.length<1000000):∃S2,Ij kT fo ft r S=.ok .B_ S2/\Ch n (.lst (xs++[d])) S S2:=
 ⟨_,mH h1 h2 h3 (ve h2 hz),Ch.set h2⟩
theorem zd{xs ys:List D}{ft:o_->M (List D)}(h1:fo r S=.ok (.ob n) S)(h2:S[n]?=some (.lst xs))(h3:ft r S=.ok [.tup ys] S)(hz:xs.length+ys.length<=1000000):∃S2,Ij si fo ft r S=.ok .B_ S2/\Ch n (.lst (xs++ys)) S S2:=
 ⟨_,mH h1 h2 h3 (BL h2 hz),Ch.set h2⟩
theorem Ch.fp{fp:List Nat}{c:Cell}(h:Ch n c S S1)(hn:n∈fp):Fr fp S S1:=h.fr.mono fun i hi _=>by
 have:i=n:=by simpa using hi
 rw[this];exact hn
end
theorem nv{tg:JE}{ti:o_->M Bool}{fe:o_->M D}{r0:o_}(kp:D->Bool)(h:D->D)(g:Option (Nat×List D))(S:List Cell)(hg:Ig g S):∀(items ys:List D),
  (∀x,x∈items->∃r1,tg x r0=some r1/\(∀zs,ti r1 (S++[.lst zs])=.ok (kp x) (S++[.lst zs]))/\(kp x=true->∀zs,fe r1 (S++[.lst zs])=.ok (h x) (S++[.lst zs])))->ys.length+items.length<=1000000->
  fu tg ti fe S.length g r0 items (S++[.lst ys])=.ok () (S++[.lst (ys++(items.filter kp).map h)])
 |[],ys,_,_=>by simp[fu]
 |x :: xs,ys,hx,hl=>by
  obtain⟨r1,h1,h2,h3⟩:=hx x (by simp);have Q3:∀zs,Ig g (S++[Cell.lst zs]):=fun zs=>by
   cases g with
   |none=>trivial
   |some p=>exact aG hg
  unfold fu;rw[h1];dsimp only;rw[h2];cases hk:kp x with
  |false=>
   dsimp only;rw[if_pos (Q3 _),nv kp h g S hg xs ys (fun y hy=>hx y (List.mem_cons_of_mem _ hy)) (by simp at hl;omega)];rw[List.filter_cons_of_neg (by simp[hk])]
  |true=>
   have HP:(S++[Cell.lst ys]).set S.length (.lst (ys++[h x]))=S++[.lst (ys++[h x])]:=by
    rw[List.set_append_right _ _ (Nat.le_refl _)];simp
   dsimp only;rw[h3 hk];dsimp only;rw[List.getElem?_append_right (Nat.le_refl _)];simp only[Nat.sub_self,List.getElem?_cons_zero];rw[HP,cg ⟨Ms (by simp at hl;omega),Q3 _⟩,nv kp h g S hg xs (ys++[h x]) (fun y hy=>hx y (List.mem_cons_of_mem _ hy)) (by simp at hl ⊢;omega)];rw[List.filter_cons_of_pos hk,List.map_cons,List.append_assoc];rfl
theorem jx{f:o_->M Wk}{tg:JE}{ti:o_->M Bool}{fe:o_->M D}{own:Nat}{caps:List Nat}{r:o_}{S S1:List Cell}{w:Wk}(kp:D->Bool)(h:D->D)(h1:f r S=.ok w S1)(hg:Ig w.guard S1)(hz:w.items.length<=1000000)
  (hx:∀x,x∈w.items->∃r1,tg x (iM own caps r)=some r1/\(∀zs,ti r1 (S1++[.lst zs])=.ok (kp x) (S1++[.lst zs]))/\(kp x=true->∀zs,fe r1 (S1++[.lst zs])=.ok (h x) (S1++[.lst zs]))) :
  eE f tg ti fe own caps r S=.ok (.ob S1.length) (S1++[.lst ((w.items.filter kp).map h)]):=by
 unfold eE;rw[aw,h1];dsimp only;rw[nv kp h w.guard S1 hg w.items [] hx (by simpa using hz)];rfl
theorem Cr{c:o_->M Bool}{b:EL}{k:Nat}{r:o_}{S S1:List Cell}(h:c r S=.ok false S1):gF c b (k+1) r S=some (.nx r,S1):=by
 unfold gF;rw[h]
theorem Dr{c:o_->M Bool}{b:EL}{k:Nat}{r r2:o_}{S S1 S2:List Cell}(h:c r S=.ok true S1)(hb:b r S1=some (.nx r2,S2)):gF c b (k+1) r S=gF c b k r2 S2:=by
 rw[gF];dsimp only;rw[h];dsimp only;rw[hb]
theorem mO{f:o_->M Wk}{tg:JE}{b:EL}{r:o_}{S S1:List Cell}{w:Wk}(h:f r S=.ok w S1):qI f tg b r S=iU w.guard tg b w.items r S1:=by
 unfold qI;rw[pV,h]
theorem xj{S:List Cell}{n:Nat}(h:n<=1000000):xp (.int (n:Int)) S=.ok ⟨iO 0 1 n,none⟩ S:=wN h
end DL
namespace DL
open PySem PySem.Spec PyProof.Rows L2
mutual
theorem zb{S:List Cell}:∀{n:Nat}{d:D}{p:PyData},pD S n d=some p->p.canLay0=true
 |0,d,p,h=>by unfold pD at h;cases h
 |n+1,.B_,p,h=>by simp only[pD] at h;cases h;rfl
 |n+1,.bl b,p,h=>by simp only[pD] at h;cases h;rfl
 |n+1,.int i,p,h=>by simp only[pD] at h;cases h;rfl
 |n+1,.str x,p,h=>by
  simp only[pD] at h;split at h
  ·rename_i q;cases h;exact q
  ·cases h
 |n+1,.tup xs,p,h=>by
  simp only[pD] at h;cases e:Ii S n xs with
  |none=>rw[e] at h;cases h
  |some ps=>rw[e] at h;cases h;exact pT e
 |n+1,.FC xs,p,h=>by
  simp only[pD] at h;cases e:Ii S n xs with
  |none=>rw[e] at h;cases h
  |some ps=>rw[e] at h;cases h;exact pT e
 |n+1,.ob k,p,h=>by
  simp only[pD] at h;split at h
  ·rename_i xs _;cases e:Ii S n xs with
   |none=>rw[e] at h;cases h
   |some ps=>rw[e] at h;cases h;exact pT e
  ·cases h
 |n+1,.xn c,p,h=>by simp only[pD] at h;cases h
theorem pT{S:List Cell}:∀{n:Nat}{xs:List D}{ps:List PyData},Ii S n xs=some ps->PyData.canLayAll0 ps=true
 |n,[],ps,h=>by simp only[Ii] at h;cases h;rfl
 |n,x :: xs,ps,h=>by
  simp only[Ii] at h;cases e1:pD S n x with
  |none=>rw[e1] at h;cases h
  |some p=>
   rw[e1] at h;cases e2:Ii S n xs with
   |none=>rw[e2] at h;cases h
   |some qs=>
    rw[e2] at h;cases h;show(PyData.canLay0 p && PyData.canLayAll0 qs)=true;rw[zb e1,pT e2];rfl
end
section
variable{S:List Cell}{x y:D}{p:PyData}
theorem tI(h1:pD S 30 x=some p)(h2:pD S 30 y=some p):Gr x y S=.ok (.bl false) S:=by
 simp only[Gr,h1,h2,PySem.SeqAt.eqv_refl p (zb h1)];rfl
theorem BI{n l:Nat}{xs:List D}(h:S[l]?=some (.lst xs)):pD S (n+1) (.ob l)=(Ii S n xs).map .list:=by simp only[pD,h]
theorem zz{n:Nat}{xs:List D}:pD S (n+1) (.tup xs)=(Ii S n xs).map .tuple:=by simp only[pD]
theorem uz{α:Type}{f:α->D}{n:Nat}:∀{l:List α},(∀a,a∈l->∃p,pD S n (f a)=some p)->∃ps,Ii S n (l.map f)=some ps
 |[],_=>⟨[],by simp[Ii]⟩
 |a :: l,h=>by
  obtain⟨p,hp⟩:=h a (by simp);obtain⟨ps,Sz⟩:=uz (l:=l) fun b hb=>h b (List.mem_cons_of_mem _ hb)
  exact⟨p :: ps,by rw[List.map_cons];simp only[Ii,hp,Sz]⟩
theorem zO{l l':Nat}{xs:List D}(h1:S[l]?=some (.lst xs))(h2:S[l']?=some (.lst xs))(h:∃ps,Ii S 29 xs=some ps):Gr (.ob l) (.ob l') S=.ok (.bl false) S:=by
 obtain⟨ps,hp⟩:=h;exact tI (p:=.list ps) (by rw[BI h1,hp];rfl) (by rw[BI h2,hp];rfl)
end
end DL
namespace DL
open PySem PySem.Spec PyProof.Rows L2
section
variable{X:Cx}
end
end DL
namespace DL
open PySem PySem.Spec PyProof.Rows L2
theorem p6(a b:Value):checkTypeCall "enumerate" ⟨[a],[("start",b)]⟩=pure ():=by kernel_rfl
theorem rF(a b:Value):checkBuiltinCall "enumerate.__new__" ⟨[.type "enumerate",a],[("start",b)]⟩=pure ():=by kernel_rfl
section
variable{prog:Program}{w:World}{A:Around}{E:Value->Shared->Prop}{s:Shared}
theorem pw(l:Addr)(items:Array Value)(n:Nat)(O3:Option Addr)(sl:Array (Option Value))(i:Int)(t:Tok)(hi:Builtin.SmallTypes.fitsIndex i=true) :
  Meets (Builtin.«enumerate.__new__» ⟨[.type "enumerate",.ref l],[("start",.int i t)]⟩) (fun _ R s=>s.heap.get? l=some { cls:=.type "tuple",dict:=O3,data:=.seq items n,slots:=sl }/\
   R (.ok (.ret (.ref (s.heap.push { cls:=.type "tuple_iterator",data:=.fields #[.ref l,.int 0 0] }).objs.size)))
    { s with heap:=(s.heap.push { cls:=.type "tuple_iterator",data:=.fields #[.ref l,.int 0 0] }).push { cls:=.type "enumerate",data:=.fields #[.none,.bool false,.ref s.heap.objs.size,rawInt i,.none,.none] } }):=
 .of_wp fun prog w A R s h=>by
  obtain⟨hp,g,d,tk,os⟩:=s;obtain⟨hl,h⟩:=h;have Ql:=sub_enumerate;have f1:=AutoSeq1.idx_int;have hT:Heap.IsTuple (Shared.heap ⟨hp,g,d,tk,os⟩) l items:=⟨_,hl,rfl,n,rfl⟩
  wp_walk using wpAny_loadPart' hl
  refine wpAny_stack_any fun st=>wpAny_pure ?_
  split
  ·rename_i c _ _ _ _ _;cases(c == Value.type "enumerate")
   ·wp_walk using wpAny_loadPart' hl,wpAny_pyIter_tuple hT
    exact⟨_,rfl,h⟩
   ·wp_walk using wpAny_loadPart' hl,wpAny_pyIter_tuple hT
    exact⟨_,rfl,h⟩
  ·wp_walk using wpAny_loadPart' hl,wpAny_pyIter_tuple hT
   exact⟨_,rfl,h⟩
theorem mr(a b c:Value):argsOk "object.__init__" ⟨[a,b],[("start",c)]⟩:=by
 unfold argsOk;rw[signature?_of (id:="object.__init__") (n:=['_','_','t','i','n','i','_','_']) (o:=['t','c','e','j','b','o']) (by kernel_rfl) PySem.F.owner_object];kernel_rfl
theorem qB{self a c:Value} :
  Meets (Builtin.«object.__init__» ⟨[self,a],[("start",c)]⟩) (fun _ R s=>s.TypeIs self "enumerate"/\R (.ok (.ret .none)) s):=by
 refine Meets.of_wp fun prog w A R s hs=>?_
 obtain⟨hT,hq⟩:=hs;have hl:=PySem.F.called_enumerate.init.lookup;have hm:=PySem.F.called_enumerate.made;have Qk:(some "enumerate.__new__" != some "object.__new__")=true:=by decide
 repeat (any_goals (first|assumption|wp_step))
 exact⟨_,rfl,hq⟩
theorem qD{l:Addr}{items:Array Value}{i:Int}{t:Tok}{Q:Value->Shared->Prop}(hL:s.heap.IsTuple l items)(hi:Builtin.SmallTypes.fitsIndex i=true)
  (h:∀h',IsEnum h' (s.heap.objs.size+1) s.heap.objs.size i .none->h'.IsTupleIter s.heap.objs.size l 0->(∀b o,s.heap.get? b=some o->h'.get? b=some o)->Q (.ref (s.heap.objs.size+1)) { s with heap:=h' }) :
  wpAny (model prog w) A (call (.type "enumerate") [.ref l] [("start",.int i t)]) Q E s:=by
 obtain⟨⟨c,O3,dt,sl⟩,hl,hc,n,hd⟩:=hL;simp only at hc hd;subst hc hd;have ft:=PySem.F.called_enumerate;obtain⟨c0,tl,X7⟩:=ft.mro;have VT:=ft.made;have Ql:=ft.sub;have hct:=p6 (.ref l) (.int i t);refine wpAny_call (codeAny_of_tree ?_);show wpAny _ _ (callAny (.type "enumerate") _) _ _ _;refine wpAny_pure ⟨Code.quiet_builtin _ (by decide +kernel),codeAny_builtin PySem.F.entry_type_call ?_⟩;rw[Around.under_plain (weight_type_call_type "enumerate" [.ref l] [("start",.int i t)]) (units_type_call_type "enumerate" [.ref l] [("start",.int i t)])];have h1:=ft.notType;have h2:=ft.canCreate
 repeat (any_goals (first|assumption|wp_step))
 have hz:(s.heap.push { cls:=.type "tuple_iterator",data:=.fields #[.ref l,.int 0 0] }).objs.size=s.heap.objs.size+1:=Heap.size_push ..;have he:IsEnum ((s.heap.push { cls:=.type "tuple_iterator",data:=.fields #[.ref l,.int 0 0] }).push { cls:=.type "enumerate",data:=.fields #[.none,.bool false,.ref s.heap.objs.size,rawInt i,.none,.none] }) (s.heap.objs.size+1) s.heap.objs.size i .none:=by
  have q:=Heap.get?_push_size (s.heap.push { cls:=.type "tuple_iterator",data:=.fields #[.ref l,.int 0 0] }) (o:={ cls:=.type "enumerate",data:=.fields #[.none,.bool false,.ref s.heap.objs.size,rawInt i,.none,.none] }) rfl;rw[hz] at q;exact q
 have fin:=h _ he ⟨_,Heap.get?_push_of_some _ (Heap.get?_push_size _ rfl),rfl,rfl⟩ fun b o x=>Heap.get?_push_of_some _ (Heap.get?_push_of_some _ x)
 refine codeAny_mono (codeAny_call_builtin ft.plain PySem.F.entry_enumerate_new (wpAny_of_eq (rF (.ref l) (.int i t)) (pw l items n O3 sl i t hi prog w A.in1 (wants (fun obj E1=>E1.TypeIs obj "enumerate"/\Q obj E1) E) s ⟨hl,?_⟩))) fun r E1 hr=>?_
 ·show _/\_;rw[hz];exact⟨⟨_,he,rfl⟩,fin⟩
 ·cases r with
  |error e=>exact hr
  |ok fl=>
   cases fl with
   |ret obj=>
    obtain⟨hT,L9⟩:=hr;have hli:=ft.init.lookup;have hbi:=ft.init.bind obj
    repeat (any_goals (first|assumption|wp_step))
    refine codeAny_mono (codeAny_call_builtin ft.init.plain PySem.F.entry_object_init (ft.init.check _ _ _ _ _ _ _ _ hT (mr _ _ _) (qB prog w A.in1 (wants (fun r MD=>r=.none/\Q obj MD) E) E1 ⟨hT,rfl,L9⟩))) fun SA MD MN=>?_
    cases SA with
    |error e=>exact MN
    |ok Qp=>
     cases Qp with
     |ret r=>
      obtain⟨rfl,hq⟩:=MN
      repeat (any_goals (first|assumption|wp_step))
     |_=>exact MN.elim
   |_=>exact hr.elim
end
section
variable{M:Model}{A:Around}{E:Value->Shared->Prop}{s:Shared}{env:Env}
theorem oj{pos:Pos}{T:String}{first:List Value}{args:List (Bool×Sem Value)}{keywords:List (Option Str×Sem Value)}{Q:Value->Shared->Prop}
  (Jg:args.any (·.1)=false) (X8:keywords.any (·.1.isNone)=false)
  (h:wpAny M A (evalArgs (.type T) true args keywords) (fun a E1=>wpAny M A (call (.type T) (first++a.pos) a.kw) Q E E1) E s) :
  wpAny M A (callWith pos (.type T) first args keywords) Q E s:=by
 unfold callWith;refine wpAny_bind (wpAny_holding (wpAny_mono h (fun a E1 Ma=>wpAny_bind (wpAny_standAt ?_)) fun _ _ x=>x));simp only[Jg,X8,Bool.or_false];refine wpAny_bind (wpAny_pure ?_);exact wpAny_bind (wpAny_mono Ma (fun r MD hr=>wpAny_bind (wpAny_holding (wpAny_point (wpAny_pure hr)))) fun _ _ x=>x)
end
section
variable{X:Cx}{e:Expr}{fe:o_->M D}{pos:Pos}{elts:List Expr}{k1:Nat}{Jb:Pos}
def vS(c:Nat):D->M Wk
 |.tup xs=>M.ret ⟨jv c xs,none⟩
 |_=>M.bad
def tU(c:Nat)(fe:o_->M D):o_->M Wk:=fun r=>(fe r).bind (vS c)
theorem xZ{p kp cp:Pos}{i:Int}{c j:Nat}(hg:Gl X "enumerate")(hm:X.mg "enumerate"=none)(he:E_ X e fe)(X9:i=(c:Int):=by decide)(hc:c<=1000:=by decide)(hs:starEach [e] X.env=[(false,eval e X.env)]:=by rfl) :
  PId X (.Tuple elts k1 Jb) (.Call (.Name "enumerate" p) [e] [⟨some "start",.Constant (.int i) j cp,kp⟩] pos) (tU c fe):=by
 intro pins s σ H J r S Q E I m;subst X9;have m':LX X pins σ H J (.Tuple elts k1 Jb) ((ac fe ai r).bind (ug (vS c)) S) Q E:=by
  unfold tU M.bind at m;unfold ac ai M.bind M.ret;cases e1:fe r S<;>(rw[e1] at m;exact m)
 refine wpAny_Call_Name_kw (lS I.inv hg hm boot_enumerate (oj (by rw[hs];rfl) rfl ?_));have hb:backTo pos (starEach [e] X.env)=(false,eval e X.env) :: []:=by rw[hs];rfl
 rw[hb];refine evalArgs_kwB rfl ?_;rw[<-hb];refine QW (af he ah (by rw[hs];rfl)) I m' (fun xs S1 s1 H1 J1 vs us I1 rv r1 m1=>?_) pos;refine kws_cons (wpAny_Constant_int (kws_nil ?_));have MA:Builtin.SmallTypes.fitsIndex (c:Int)=true:=by
  unfold Builtin.SmallTypes.fitsIndex;simp only[Bool.and_eq_true,decide_eq_true_eq];omega
 match xs,m1,rv with
 |[],m1,rv=>exact m1.elim
 |_ :: _ :: _,m1,rv=>exact m1.elim
 |[x],m1,rv=>
  obtain⟨v,rfl,h1⟩:=rv.Ih;obtain⟨u,rfl,ru⟩:=Vals.one r1
  change LX X pins σ H1 J1 (.Tuple elts k1 Jb) (vS c x S1) Q E at m1
  cases x with
  |tup ys=>
   obtain⟨a,ws,rfl,hq,E7⟩:=h1.HM;cases ru;obtain⟨u_,rl,pl,hz⟩:=I1.inv.tuple hq;refine qD (s:={ s1 with toks:=s1.toks+1 }) pl MA fun h' Mr K5 hk'=>wpAny_pyIter_enum Mr ?_
   refine m1 _ _ ⟨s1.heap.objs.size+1,[s1.heap.objs.size+1,s1.heap.objs.size],_,_,H1,rfl,I1.inv.kept (t':=s1.toks+1) hk',rA a s1.heap.objs.size (s1.heap.objs.size+1) c (Nat.succ_ne_self _),⟨⟨_,Mr⟩,K5⟩,uf I1.inv,J1,Ext.refl _ _,I1.st,trivial,?_⟩;exact GG.Ov fun H2 J2 S2 x2 Ie _=>⟨ws,Hh.ext x2 hq,E7.ext x2⟩
  |_=>exact m1.elim
theorem dE{x:Str}{d:D}{pos:Pos}(hg:Gl X x)(h:∃u,X.mg x=some u/\IP X.K d u)(hd:(x == ("__debug__":Str))=false:=by decide):E_ X (.Name x pos) (dC d):=by
 obtain⟨u,h1,h2⟩:=h;exact A2 hg h1 h2 hd
def Ke(K:PySem.W.Frag)(mg:Str->Option Value)(x:Str)(ss:List Str):Prop:=∃u,mg x=some u/\NJ K u (ss.map V.str)
theorem qF{K:PySem.W.Frag}(ss:List Str)(H:Hp)(J:List Addr):j_ K H J (ss.map D.str) (ss.map V.str):=by
 induction ss with
 |nil=>exact .nil
 |cons a r ih=>exact .cons (by unfold r_;rfl) ih
theorem Ke.glob{K:PySem.W.Frag}{mg:Str->Option Value}{x:Str}{ss:List Str}(h:Ke K mg x ss):∃u,mg x=some u/\IP K (.tup (ss.map D.str)) u:=by
 obtain⟨u,h1,h2⟩:=h;exact⟨u,h1,h2.rep (qF ss)⟩
theorem wb{x:Str}{e:Expr}{np apos Fp:Pos}{ss:List Str}{ft:o_->M (List D)}(hg:Gl X x)(h:Ke X.K X.mg x ss)(ha:KS X [e] ft)(hd:(x == ("__debug__":Str))=false:=by decide)
  (Je:attributeBase (.Name x np) "index" X.env (eval (.Name x np) X.env)=eval (.Name x np) X.env:=by rfl)
  (LC:((backTo Fp (starEach [e] X.env)).all (fun x=>!x.1) && (backToKw Fp (keywordEach [] X.env)).all (fun x=>x.1.isSome)
   && decide ([e].length+([]:List Keyword).length+(if ([]:List Keyword).isEmpty then 0 else 1)<30))=true:=by rfl)
  (Jf:(apos.endLine == Fp.line)=true:=by rfl) (hs:starEach [e] X.env=[(false,eval e X.env)]:=by rfl) :
  E_ X (.Call (.Attribute (.Name x np) "index" apos) [e] [] Fp) (n8 (.tup (ss.map D.str)) ft):=by
 obtain⟨u,h1,h2⟩:=h;exact yL hg h1 h2 (qF ss) ha hd Je LC Jf hs
theorem jc{K:PySem.W.Frag}{i:Int}{t:Tok}:IP K (.int i) (.int i t):=fun H J=>⟨.int i,⟨_,rfl⟩,r_.int _ _ _ _⟩
theorem sM:∀{ss:List Str}{vs:List Value},(List.zip ss vs).all (fun p=>match p.2 with|.str x _=>x == p.1|_=>false)=true->ss.length=vs.length->Vals (ss.map V.str) vs
 |[],[],_,_=>.nil
 |a :: r,v :: vs,h,hl=>by
  simp only[List.zip_cons_cons,List.all_cons,Bool.and_eq_true] at h;refine .cons ?_ (sM h.2 (by simpa using hl));cases v with
  |str x t=>
   have:=beq_iff_eq.mp h.1;subst this;exact⟨_,rfl⟩
  |_=>exact absurd h.1 Bool.false_ne_true
 |[],_ :: _,_,h=>by cases h
 |_ :: _,[],_,h=>by cases h
theorem vM{K:PySem.W.Frag}{mg:Str->Option Value}{x:Str}{ss:List Str}{a:Addr}{u_:Array Value}{n:Nat}{sl:Array (Option Value)}(hm:mg x=some (.ref a))(hl:K.lookup a=some ⟨.type "tuple",none,.seq u_ n,sl⟩)(hv:(List.zip ss u_.toList).all (fun p=>match p.2 with|.str x _=>x == p.1|_=>false)=true)(hn:ss.length=u_.toList.length)(hz:ss.length<=1000):Ke K mg x ss:=
 ⟨_,hm,⟨⟨a,_,u_,n,rfl,hl,rfl,rfl,rfl,by rw[<-Array.length_toList,<-hn];exact Nat.le_of_lt (Ms (by omega)),sM hv hn⟩⟩⟩
end
end DL
namespace DL
open PySem PySem.Spec PyProof.Rows L2
section
variable{X:Cx}{body:List Stmt}{h0:ExceptHandler}{hs:List ExceptHandler}{t:EL}{pos:Pos}
end
end DL
namespace DL
open PySem PySem.Spec PyProof.Rows L2
def uq(l:List Env)(ex:List Addr)(h h':Heap):Prop:=
 (∀b o,h.get? b=some o->b∉ex->b∉l.filterMap (·.frame)->h'.get? b=some o)/\(∀b o,h.get? b=some o->b∉ex->∃sl,h'.get? b=some { o with slots:=sl })
section
variable{M:Model}{A:Around}{E:Value->Shared->Prop}{s:Shared}
theorem sx{base:Heap}{env:Env}{outer:List Env}{L e:Addr}{oe:Obj}{vs:Array Value}{head a0:Value}{NM:Bool}{Q:Unit->Shared->Prop}
  (Nj:A.frames=some (env :: outer)) (hl:s.heap.FunFrames base (env :: outer)) (hf:env.frame=some L)
  (he:s.heap.get? e=some oe) (PI:base.StaysIn s.heap) (SD:base.get? e=none) (hd:oe.data=.fields vs) (hsz:1<vs.size) (h0:vs[0]?=some a0)
  (h:∀h',Heap.LeftW base (env :: outer) e oe.cls a0 s.heap h'->uq (env :: outer) [e] s.heap h'->(∃Ox Oy T,h'.get? e=some Ox/\Ox.data=.fields Oy/\Oy[1]?=some (.ref T)/\s.heap.objs.size<=T)->Q () { s with heap:=h' }) :
  wpAny M A (do let a <-frameOf env;let pl <-entryPlaceOf L NM;let b <-EntryCells.newEntry head a .none (rawInt L) .none pl;setField (.ref e) 1 b) (fun _ s'=>wpAny M A (setFlight (.ref e) none) Q E s') E s:=by
 have SE:e∉(env :: outer).filterMap (·.frame):=fun hm=>by
  obtain⟨_,o,ho,L0⟩:=hl.mem hm;rw[he] at ho
  injection ho with ho
  subst ho;exact L0 vs hd
 refine wpAny_bind (wpAny_frameOf_fun Nj hl hf fun h1 q=>?_);refine wpAny_bind (wpAny_entryPlaceOf fun pl Kd=>?_);unfold EntryCells.newEntry newFields;refine wpAny_bind (wpAny_newObj_type ?_ (Kd.sizeOk5 _ _ _ _ _));obtain⟨tb,SF⟩:∃tb:Obj,tb = { cls:=.type "traceback",dict:=none,data:=.fields ([head,.ref L,.none,rawInt L,.none]++(if pl.isEmpty then List.replicate 6 Value.none else pl)).toArray }:=⟨_,rfl⟩;rw[<-SF];have Qq:h1.get? e=some oe:=(q.2.1 e SE).trans he;have kb1:base.StaysIn h1:=fun b o Lp=>(q.2.1 b fun hm=>by rw[(hl.mem hm).1] at Lp;cases Lp).trans (PI b o Lp)
 have NH:=Heap.get?_push_of_some (h:=h1) tb Qq;refine wpAny_setField NH hd hsz ?_;obtain⟨T,hT⟩:∃T,T=h1.objs.size:=⟨_,rfl⟩;have Mc:T≠e:=by rw[hT];exact Nat.ne_of_gt (Heap.lt_size Qq)
 have Oz:s.heap.objs.size<=T:=by rw[hT,q.1];exact Nat.le_refl _
 obtain⟨h2,Q4⟩:∃h2,h2=(h1.push tb).update e (Obj.mapFields (·.setIfInBounds 1 (Value.ref T))):=⟨_,rfl⟩;have Q5:=Obj.data_mapFields hd (·.setIfInBounds 1 (Value.ref T));have VU:h2.get? e=some (Obj.mapFields (·.setIfInBounds 1 (Value.ref T)) oe):=by rw[Q4];exact Heap.get?_update_self _ NH (Obj.isFreed_of_fields Q5)
 have LD:h2.get? T=some tb:=by rw[Q4,Heap.get?_update_other _ _ (Ne.symm Mc),hT];exact Heap.get?_push_size h1 (by rw[SF];rfl)
 have LF:tb.data=.fields ([head,.ref L,.none,rawInt L,.none]++(if pl.isEmpty then List.replicate 6 Value.none else pl)).toArray:=by rw[SF]
 have goal:wpAny M A (setFlight (.ref e) none) Q E { s with heap:=h2 }:=by
  unfold setFlight;refine wpAny_bind (wpAny_field VU Q5 (x:=.ref T) (by simp[hsz]) ?_);rw[if_pos (show(Value.ref T != Value.none)=true from by simp)];refine wpAny_setField LD LF (by simp only[List.size_toArray,List.length_append,List.length_cons,List.length_nil]<;>omega) ?_;obtain⟨h3,Q6⟩:∃h3,h3=h2.update T (Obj.mapFields (·.setIfInBounds 3 ((none:Option Addr).elim Value.none fun f=>rawInt f))):=⟨_,rfl⟩;have keep:∀b o,b≠e->h1.get? b=some o->h3.get? b=some o:=fun b o Jz hb=>by
   have Se:T≠b:=by rw[hT];exact Nat.ne_of_gt (Heap.lt_size hb)
   rw[Q6,Q4,Heap.get?_update_other _ _ Se,Heap.get?_update_other _ _ (Ne.symm Jz)];exact Heap.get?_push_of_some _ hb
  have VW:h3.get? e=some (Obj.mapFields (·.setIfInBounds 1 (Value.ref T)) oe):=by rw[Q6,Heap.get?_update_other _ _ Mc];exact VU
  have K7:∀b o,s.heap.get? b=some o->(∀vs,o.data≠.fields vs)->b≠e:=fun b o hb L0 z=>by
   rw[z,he] at hb
   injection hb with hb
   subst hb;exact L0 vs hd
  have PJ:h3.get? T=some (Obj.mapFields (·.setIfInBounds 3 ((none:Option Addr).elim Value.none fun f=>rawInt f)) tb):=by rw[Q6];exact Heap.get?_update_self _ LD (Obj.isFreed_of_fields (Obj.data_mapFields LF _))
  have SG:=Obj.data_mapFields LF (·.setIfInBounds 3 ((none:Option Addr).elim Value.none fun f=>rawInt f));have hq:Q () { s with heap:=h3 }:=by
   refine h h3 ⟨fun b o Lp=>keep b o (fun z=>by rw[z,SD] at Lp;cases Lp) (kb1 b o Lp),hl.of_keeps fun b o hb L0=>?_,?_,fun b o hb L0=>?_⟩ ⟨fun b o hb Jz Qh=>?_,fun b o hb Jz=>?_⟩ ⟨_,_,T,VW,Q5,by simp[hsz],Oz⟩
   ·obtain⟨sl,hs⟩:=q.2.2 b o hb;exact⟨_,keep b _ (K7 b o hb L0) hs,rfl⟩
   ·refine⟨_,_,T,_,_,VW,⟨Obj.cls_mapFields _ _,by rw[Array.getElem?_setIfInBounds_ne (by decide)];exact h0⟩,Q5,by simp[hsz],?_,Mc,PJ,SG,?_⟩
    ·rw[hT];exact kb1.fresh
    ·first|(simp;done)|(rcases Kd with rfl|⟨_,_,_,_,_,_,_,rfl⟩<;>simp)
   ·obtain⟨sl,hs⟩:=q.2.2 b o hb;exact⟨sl,keep b _ (K7 b o hb L0) hs⟩
   ·exact keep b o (by simpa using Jz) ((q.2.1 b Qh).trans hb)
   ·obtain⟨sl,hs⟩:=q.2.2 b o hb;exact⟨sl,keep b _ (by simpa using Jz) hs⟩
  rw[Q6] at hq;exact hq
 rw[Q4,hT] at goal;exact goal
def pU(h:Heap)(e T:Addr):Prop:=∃oe vs,h.get? e=some oe/\oe.data=.fields vs/\vs[1]?=some (.ref T)
theorem wd{base:Heap}{env:Env}{outer:List Env}{L e T:Addr}{cls a0:Value}{Q:Unit->Shared->Prop}
  (Nj:A.frames=some (env :: outer)) (hl:s.heap.FunFrames base (env :: outer)) (hf:env.frame=some L) (ht:s.heap.TracedW base e cls a0) (X_:pU s.heap e T) (PI:base.StaysIn s.heap) (SD:base.get? e=none)
  (h:∀h' T',Heap.LeftW base (env :: outer) e cls a0 s.heap h'->uq (env :: outer) [e,T] s.heap h'->pU h' e T'->s.heap.objs.size<=T'->(∃oT,h'.get? T=some oT)->Q () { s with heap:=h' }):wpAny M A (noteFrame (.ref e) env) (fun _ s2=>wpAny M A (setFlight (.ref e) none) Q E s2) E s:=by
 obtain⟨oe,vs,T0,oT,ts,he,⟨HY,h0⟩,hd,h1,VX,Mc,hT,LF,h3⟩:=ht;obtain⟨Ox,Oy,b1,b2,b3⟩:=X_;rw[he] at b1;cases b1;rw[hd] at b2;cases b2;rw[h1] at b3;cases b3;subst HY;unfold noteFrame;simp only[hf];refine wpAny_bind (wpAny_field he hd h1 ?_);rw[if_pos (show(Value.ref T != Value.none)=true from by simp)];refine wpAny_bind (wpAny_field hT LF h3 ?_);rw[if_neg (show ¬((Value.none == rawInt L)=true) from by simp[rawInt])];refine wpAny_bind (wpAny_setField hT LF (Array.getElem?_eq_some_iff.mp h3).1 ?_);have other:∀b,b≠T->(s.heap.update T (Obj.mapFields (·.setIfInBounds 3 Value.none))).get? b=s.heap.get? b:=fun b hb=>Heap.get?_update_other _ _ (Ne.symm hb)
 have OA:∀b o,s.heap.get? b=some o->(∀vs,o.data≠.fields vs)->b≠T:=fun b o hb L0 z=>by
  rw[z,hT] at hb
  injection hb with hb
  subst hb;exact L0 ts LF
 refine sx Nj (hl.of_keeps fun b o hb L0=>⟨o,(other b (OA b o hb L0)).trans hb,rfl⟩) hf ((other e (Ne.symm Mc)).trans he)
  (fun b o Lp=>(other b fun z=>by rw[z,VX] at Lp;cases Lp).trans (PI b o Lp)) SD hd (Array.getElem?_eq_some_iff.mp h1).1 h0
  fun h' ⟨x1,x2,x3,x4⟩ ⟨y1,y2⟩ ⟨Ox,Oy,T',c1,c2,c3,c4⟩=>h h' T' ⟨x1,x2,x3,fun b o hb L0=>x4 b o ((other b (OA b o hb L0)).trans hb) L0⟩ ⟨fun b o hb Jz Qh=>?_,fun b o hb Jz=>?_⟩ ⟨Ox,Oy,c1,c2,c3⟩ ?_ ?_
 ·simp only[List.mem_cons,List.not_mem_nil,or_false,not_or] at Jz;exact y1 b o ((other b Jz.2).trans hb) (by simpa using Jz.1) Qh
 ·simp only[List.mem_cons,List.not_mem_nil,or_false,not_or] at Jz;exact y2 b o ((other b Jz.2).trans hb) (by simpa using Jz.1)
 ·have hsz:(s.heap.update T (Obj.mapFields (·.setIfInBounds 3 Value.none))).objs.size=s.heap.objs.size:=Heap.size_update ..;rw[<-hsz];exact c4
 ·have Jw:(s.heap.update T (Obj.mapFields (·.setIfInBounds 3 Value.none))).get? T=some (Obj.mapFields (·.setIfInBounds 3 Value.none) oT):=Heap.get?_update_self _ hT (Obj.isFreed_of_fields (Obj.data_mapFields LF _));obtain⟨sl,q⟩:=y2 T _ Jw (by simpa using Mc);exact⟨_,q⟩
end
end DL
namespace DL
open PySem PySem.Spec PyProof.Rows L2
section
variable{P:Program}{w:World}{H H':Hp}{h h':Heap}{a:Addr}{o:HO}
theorem vj(x:Fe P w H h a o):∃u,h.get? a=some u:=by
 cases o with
 |lst xs=>obtain⟨_,_,_,_,e⟩:=x;exact⟨_,e⟩
 |tup xs=>obtain⟨_,_,_,_,e,_⟩:=x;exact⟨_,e⟩
 |dK kvs=>obtain⟨_,_,_,_,o,_,_,e,_⟩:=x;exact⟨_,e⟩
 |dT kvs=>obtain⟨_,_,_,_,o,_,_,e,_⟩:=x;exact⟨_,e⟩
 |set S n=>obtain⟨o,_,_,_,e,_⟩:=x;exact⟨_,e⟩
 |ins C dx fs=>obtain⟨_,_,_,e,_⟩:=x;exact⟨_,e⟩
 |own y=>obtain⟨_,e⟩:=x;exact⟨_,e⟩
 |xd fs=>obtain⟨_,⟨_,_,_,e,_⟩,_⟩:=x;exact⟨_,e⟩
 |Pl lo hi=>obtain⟨_,_,_,e⟩:=x;exact⟨_,e⟩
 |Lr ob u=>obtain⟨e,_⟩:=x;exact⟨_,e⟩
 |Oc ps=>exact⟨_,(show h.get? a=some _ from x)⟩
 |met f y=>exact⟨_,(show h.get? a=some _ from x)⟩
 |ext φ=>obtain⟨_,⟨_,e⟩,_⟩:=x;exact⟨_,e⟩
theorem vK(x:Gq P w H h)(hp:h.get? a=none):H a=none:=by
 cases q:H a with
 |none=>rfl
 |some u=>obtain⟨v,e⟩:=vj (x a u q);rw[hp] at e;cases e
theorem yG(x:Gq P w H h)(k:∀b u,h.get? b=some u->h'.get? b=some u)(hp:h.get? a=none)(new:Fe P w (upd H a o) h' a o):Gq P w (upd H a o) h':=fun b u e=>by
 have hn:=vK x hp;by_cases hb:b=a
 ·subst hb;rw[bN] at e;cases e;exact new
 ·rw[bu hb] at e;exact(x b u e).Jy (fun c v _ q=>k c v q) (fun c q=>by rw[bu (bj q hn)];exact q) fun c xs q=>by rw[bu (bj q hn)];exact q
theorem yW{fs ex:List Addr}(k:∀b u,h.get? b=some u->h'.get? b=some u)(hp:h.get? a=none)(hn:H a=none):Un fs ex H (upd H a o) h h' where
 keep:=fun b u q _ _ _=>k b u q
 slot:=fun b u q _ _ _=>⟨u.slots,k b u q⟩
 free:=fun b u q n _=>by rw[bu (fun z=>by rw[z,hp] at q;cases q)];exact n
 there:=fun b u q _=>⟨u,k b u q⟩
 HI:=fun b xs q=>by rw[bu (bj q hn)];exact q
 HA:=fun b u xs q=>by rw[bu (bj q hn)];exact q
 HJ:=fun b ps q=>⟨#[],by rw[bu (bj q hn),q];simp⟩
theorem uQ{c:Addr}(e:∃o,h.get? a=some o/\o.cls=.ref c):Fe P w H h a (XO a c):=by
 obtain⟨o,e1,e2⟩:=e;exact⟨⟨o,e1,e2⟩,⟨o,e1⟩,fun h1 h2 ⟨u,q1,q2⟩ k=>⟨u,k u q1,q2⟩⟩
theorem qC(e:∃o,h.get? a=some o):Fe P w H h a (TO a):=by
 obtain⟨o,e1⟩:=e;exact⟨⟨o,e1⟩,⟨o,e1⟩,fun h1 h2 ⟨u,q1⟩ k=>⟨u,k u q1⟩⟩
theorem vL{l:List Env}{ex:List Addr}{T:Addr}(x:Gq P w H h)(kb:uq l ex h h')(hf:∀b∈Lj l,H b=none)
  (hx:∀b∈ex,(∃c,H b=some (XO b c)/\∃o,h'.get? b=some o/\o.cls=.ref c)\/(H b=some (TO b)/\∃o,h'.get? b=some o)) (hT:h.objs.size<=T) (Q7:∃o,h'.get? T=some o) :
  Un (Lj l) [] H (upd H T (TO T)) h h'/\Gq P w (upd H T (TO T)) h':=by
 have hn:H T=none:=x.fresh hT;have VY:∀b,H b=none->b∉ex:=fun b n z=>by
  rcases hx b z with ⟨c,q,_⟩|⟨q,_⟩<;>(rw[n] at q;cases q)
 refine⟨⟨fun b u q n hb _=>kb.1 b u q (VY b n) hb,fun b u q n _ _=>kb.2 b u q (VY b n),fun b u q n _=>?_,fun b u q _=>?_,fun b xs q=>by rw[bu (bj q hn)];exact q,fun b u xs q=>by rw[bu (bj q hn)];exact q,fun b ps q=>⟨#[],by rw[bu (bj q hn),q];simp⟩⟩,fun b u e=>?_⟩
 ·rw[bu (Nat.ne_of_lt (Nat.lt_of_lt_of_le (Heap.lt_size q) hT))];exact n
 ·by_cases z:b∈ex
  ·rcases hx b z with ⟨c,_,o,e1,_⟩|⟨_,o,e1⟩<;>exact⟨o,e1⟩
  ·obtain⟨sl,e1⟩:=kb.2 b u q z;exact⟨_,e1⟩
 ·by_cases hb:b=T
  ·subst hb;rw[bN] at e;cases e;exact qC Q7
  ·rw[bu hb] at e;by_cases z:b∈ex
   ·rcases hx b z with ⟨c,q,y⟩|⟨q,y⟩
    ·rw[q] at e;cases e;exact uQ y
    ·rw[q] at e;cases e;exact qC y
   ·refine(x b u e).Jy (fun c v hc q=>kb.1 c v q ?_ ?_) (fun c q=>by rw[bu (bj q hn)];exact q) fun c xs q=>by rw[bu (bj q hn)];exact q
    ·rcases hc with rfl|hc
     ·exact z
     ·intro zc;rcases hx c zc with ⟨_,q',_⟩|⟨q',_⟩<;>(rw[hc] at q';cases q')
    ·intro zf;have:=hf c zf;rcases hc with rfl|hc
     ·rw[e] at this;cases this
     ·rw[hc] at this;cases this
theorem yK{L:Addr}{fs ex:List Addr}(u:Un (L :: fs) ex H H' h h')(hL:h.objs.size<=L):Un fs ex H H' h h' where
 keep:=fun b o q n hb hx=>u.keep b o q n (fun z=>(List.mem_cons.mp z).elim (fun e=>absurd (Heap.lt_size q) (by rw[e];exact Nat.not_lt.mpr hL)) hb) hx
 slot:=fun b o q n hb hx=>u.slot b o q n (List.mem_cons_of_mem _ hb) hx
 free:=u.free
 there:=u.there
 HI:=u.HI
 HA:=u.HA
 HJ:=u.HJ
end
theorem Tr.of{base h:Heap}{a c T:Addr}{a0:Value}(t:h.TracedW base a (.ref c) a0)(ta:pU h a T):Tr h a c T:=by
 obtain⟨oe,vs,T0,oT,ts,he,⟨HY,h0⟩,hd,h1,VX,Mc,hT,LF,h3⟩:=t;obtain⟨Ox,Oy,b1,b2,b3⟩:=ta;rw[he] at b1;cases b1;rw[hd] at b2;cases b2;rw[h1] at b3;cases b3;exact⟨oe,vs,oT,ts,a0,he,HY,hd,h0,h1,Mc,hT,LF,h3⟩
theorem Tr.to{base h:Heap}{a c T:Addr}(t:Tr h a c T)(hb:base.get? T=none):∃a0,h.TracedW base a (.ref c) a0/\pU h a T:=by
 obtain⟨oe,vs,oT,ts,a0,he,HY,hd,h0,h1,Mc,hT,LF,h3⟩:=t;exact⟨a0,⟨oe,vs,T,oT,ts,he,⟨HY,h0⟩,hd,h1,hb,Mc,hT,LF,h3⟩,oe,vs,he,hd,h1⟩
theorem Tr.cls{h:Heap}{a c T:Addr}(t:Tr h a c T):∃o,h.get? a=some o/\o.cls=.ref c:=by
 obtain⟨oe,vs,oT,ts,a0,he,HY,_⟩:=t;exact⟨oe,he,HY⟩
theorem Tr.end{h:Heap}{a c T:Addr}(t:Tr h a c T):∃o,h.get? T=some o:=by
 obtain⟨oe,vs,oT,ts,a0,he,HY,hd,h0,h1,Mc,hT,_⟩:=t;exact⟨oT,hT⟩
def w_(P:Program)(w:World):Iz:=fun outer H s E e s'=>∃a c T H',e=.ref a/\s'.os=s.os/\AllBare s'.gens/\Un (Lj outer) [] H H' s.heap s'.heap/\Gq P w H' s'.heap/\H' a=some (XO a c)/\H' T=some (TO T)/\Tr s'.heap a c T/\E (.ref c) none H'
theorem zG{P:Program}{w:World}{H:Hp}{s:Shared}{e:Value}{s':Shared}:w_ P w [] H s (fun _ _ _=>False) e s'->False:=fun ⟨_,_,_,_,_,_,_,_,_,_,_,_,z⟩=>z
theorem kB{X:Cx}{pins:Ez}{σ:L2.St}{H:Hp}{s:Shared}{a:Addr}{o:HO}(I:Inv X pins σ H s)(e:H a=some o):X.base.get? a=none:=by
 cases q:X.base.get? a with
 |none=>rfl
 |some u=>have:=(I.bs a u q).2;rw[e] at this;cases this
theorem w4{X:Cx}{pins:Ez}{σ:L2.St}{H:Hp}{s:Shared}{a c:Addr}{Q:Unit->Shared->Prop}{E:Value->Shared->Prop}(I0:X.stack=X.env :: X.outer/\X.env.frame=some X.env.locals)(I:Inv X pins σ H s)(hX:H a=some (XO a c))(hc:Dl s.heap a c\/∃T,H T=some (TO T)/\Tr s.heap a c T)
  (hq:∀h' T',H T'=none->Un (Lj X.stack) [] H (upd H T' (TO T')) s.heap h'->Gq X.prog X.w (upd H T' (TO T')) h'->Tr h' a c T'->Q () { s with heap:=h' }) :
  wpAny (model X.prog X.w) X.A (noteFrame (.ref a) X.env) (fun _ s2=>wpAny (model X.prog X.w) X.A (setFlight (.ref a) none) Q E s2) E s:=by
 have Nj:X.A.frames=some (X.env :: X.outer):=by rw[I.ok.frames,I0.1]
 have hl:s.heap.FunFrames X.base (X.env :: X.outer):=by rw[<-I0.1];exact I.stack
 have VZ:∀b∈Lj (X.env :: X.outer),H b=none:=by rw[<-I0.1];exact I.Kh
 have PI:X.base.StaysIn s.heap:=I.bk;rcases hc with ⟨oe,vs,a0,he,L_,hd,h0,h1⟩|⟨T,V0,tr⟩
 ·unfold noteFrame;simp only[I0.2];refine wpAny_bind (wpAny_field he hd h1 ?_);rw[if_neg (by decide)];refine sx Nj hl I0.2 he PI (kB I hX) hd (Array.getElem?_eq_some_iff.mp h1).1 h0 fun h' lw kb ⟨Ox,Oy,T',c1,c2,c3,c4⟩=>?_
  rw[L_] at lw;have tr:=Tr.of lw.2.2.1 ⟨Ox,Oy,c1,c2,c3⟩;obtain⟨u1,u2⟩:=vL I.EI kb VZ (fun b hb=>.inl ⟨c,by simp at hb;subst hb;exact⟨hX,tr.cls⟩⟩) c4 tr.end;rw[<-I0.1] at u1;exact hq h' T' (I.EI.fresh c4) u1 u2 tr
 ·obtain⟨a0,tw,ta⟩:=tr.to (kB I V0);refine wd Nj hl I0.2 tw ta PI (kB I hX) fun h' T' lw kb Ya hs Yb=>?_
  have SH:=Tr.of lw.2.2.1 Ya;obtain⟨u1,u2⟩:=vL I.EI kb VZ (fun b hb=>by
   simp only[List.mem_cons,List.not_mem_nil,or_false] at hb;rcases hb with rfl|rfl
   ·exact .inl ⟨c,hX,SH.cls⟩
   ·exact .inr ⟨V0,Yb⟩) hs SH.end
  rw[<-I0.1] at u1;exact hq h' T' (I.EI.fresh hs) u1 u2 SH
theorem nW{P:Program}{w:World}{K:PySem.W.Frag}{mg:Str->Option Value}{base:Heap}{N:List Str}{qual:Str}{scope:Scope}{f:Addr}{EC:Value}{A:Around}{outer:List Env}{s:Shared}{H:Hp}{E:XK} :
  zu (w_ P w) (pr (w_ P w) P w K mg base N qual scope f EC A outer s H E) E:=by
 intro σ H' s' e c XI hE;obtain⟨I,a,rfl,hX,hc⟩:=XI;show wpAny (model P w) (A.deeper (envOfC qual scope s.heap.objs.size f EC)) (leaving (envOfC qual scope s.heap.objs.size f EC) (.ref a)) (fun _ Nr=>w_ P w outer H s E (.ref a) Nr) (fun e' Nr=>w_ P w outer H s E e' Nr) s';unfold leaving;refine wpAny_bind (w4 (X:=pr (w_ P w) P w K mg base N qual scope f EC A outer s H E) (Q:=fun _ Nr=>w_ P w outer H s E (.ref a) Nr) ⟨rfl,rfl⟩ I hX hc fun h' T' hn un EI tr=>?_);have Qk:a≠T':=bj hX hn;refine⟨a,c,T',_,rfl,I.os,I.bare,yK (L:=s.heap.objs.size) (Un.trans (I.base.mono (fun b hb=>List.mem_cons_of_mem _ hb) fun b hb=>hb) un) (Nat.le_refl _),EI,by rw[bu Qk];exact hX,bN,tr,hE T' _ hn⟩
theorem aK{X:Cx}:pj (w_ X.prog X.w) X:=by
 intro E0 pins σ H s e s' I h;obtain⟨a,c,T,H',rfl,os,bare,un,EI,hX,hT,tr,hE⟩:=h;obtain⟨hh,g,d,t,RJ⟩:=s';obtain rfl:RJ=s.os:=os;exact⟨c,H',⟨I.call (h':=hh) (g':=g) (d':=d) (t':=t) (ch:=[]) un EI bare (fun b z=>absurd z (by simp)),a,rfl,hX,.inr ⟨T,hT,tr⟩⟩,hE⟩
structure MO(K:PySem.W.Frag)(mg:Str->Option Value)(x:Str)(C:Addr):Prop where
 nm:mg x=some (.ref C)
 cls:PySem.W.excIn K C [.type "ValueError",.type "Exception",.type "BaseException",.type "object"] "ValueError.__new__"=true
theorem sU{K:PySem.W.Frag}{h:Heap}{C:Addr}{V1:List Value}{newId:String}(X:K.In h)(q:PySem.W.excIn K C V1 newId=true) :
  ∃bm N nm q bs hdct sn sub ab col dd k0 k1 k2 k3 k5 mN,h.get? C=some (excClassObj nm q C N bs bm hdct sn sub ab col dd k0 k1 k2 k3 k5 newId)/\h.Ns N mN/\mN "__init__"=none/\OwnTail h V1 bm:=by
 unfold PySem.W.excIn at q;split at q
 ·rename_i dd cd sl ho;split at q
  ·rename_i C' bm k0 k1 k2 k3 n k5 hm hs;simp only[Bool.and_eq_true,beq_iff_eq,Bool.not_eq_true'] at q;obtain⟨⟨⟨⟨⟨rfl,rfl⟩,Qr⟩,ht⟩,EI⟩,Qs⟩:=q;obtain⟨nm,bs,mro,ns,qn,hd,sn,sub,ab,col,del⟩:=cd;dsimp only at hm Qr EI Qs;subst hm Qr;have Oz:sl = #[k0,k1,k2,k3,some (.builtin n),k5]:=by
    obtain⟨l⟩:=sl;simp only at hs;rw[hs]
   subst Oz;exact⟨bm,ns,nm,qn,bs,hd,sn,sub,ab,col,dd,k0,k1,k2,k3,k5,_,X _ _ ho,.of_isNs (PySem.W.isNs_of_in X EI),PySem.W.nsMap_none_of_in X EI Qs,PySem.W.tail_of_in X ht⟩
  ·cases q
 ·cases q
def oy(C:Addr)(fe:o_->M D):EL:=fun r=>cC (fe r) r fun _ S=>some (.xc C r,S)
theorem ol{X:Cx}{x:Str}{C:Addr}{np Fp pos:Pos}{e:Expr}{fe:o_->M D}(hx:MO X.K X.mg x C)(hg:Gl X x)(hc:X.calm=true)(he:E_ X e fe)
  (L8:(x == ("__debug__":Str))=false:=by decide) (hs:starEach [e] X.env=(false,eval e X.env) :: starEach [] X.env:=by rfl) :
  Lx X (.Raise (some (.Call (.Name x np) [e] [] Fp)) none pos) (oy C fe):=by
 intro pins s σ H J r S Q E I m;obtain⟨tl,N,nm,q,bs,hdct,sn,sub,ab,col,dd,k0,k1,k2,k3,k5,mN,hC,hN,Qs,T⟩:=sU I.inv.mod.Pn hx.cls;refine wpAny_Raise_call_subT (C:=C) (nm:=nm) (q:=q) (N:=N) (bs:=bs) (bm:=tl) (hdct:=hdct) (sn:=sn) (sub:=sub) (ab:=ab) (col:=col) (dd:=dd) (k0:=k0) (k1:=k1) (k2:=k2) (k3:=k3) (k5:=k5)
  PySem.F.excBase_ValueError (mN:=mN) (T.hasType PySem.F.excBase_ValueError.hasBase) (I.inv.ok.hd hc) (by rw[hs];rfl) Qs (lY I.inv hg hx.nm ⟨rfl,?_⟩ L8)
 rw[hs];refine Calls.evalArgs_plain (Calls.spliced_cons (Qd he I m fun d S1 v s1 vx H1 J1 I1 rv r1 m1=>Calls.spliced_nil ⟨rfl,(by decide:(1:Nat)<=sizeLine),I1.inv.bk _ _ hC,hN.keeps I1.inv.bk,T.keeps I1.inv.bk,fun h' e' hm=>?_⟩));obtain⟨t0,Qq,_,_⟩:=hm.there;have hn:H1 e'=none:=vK I1.inv.EI hm.new;have I2:Inv X pins σ (upd H1 e' (XO e' C)) { s1 with heap:=h' }:=I1.inv.un (h':=h') (t':=s1.toks) (yW hm.keeps hm.new hn) (yG I1.inv.EI hm.keeps hm.new (uQ ⟨_,Qq,rfl⟩));exact m1 (.ref e') _ σ (upd H1 e' (XO e' C)) J1 ⟨I2,e',rfl,bN,.inl ⟨_,_,_,Qq,rfl,rfl,rfl,rfl⟩⟩ (I1.loc.ext (Ext.new hn)) (I1.st.new hn) (Ext.new hn)
end DL
namespace DL
open PySem PySem.Spec PyProof.Rows L2
section
variable{P:Program}{w:World}{H H':Hp}{h h':Heap}{a:Addr}{o:HO}
theorem zx{T:Addr}(x:Gq P w H h)(hT:H T=some (TO T))(k:∀b,b≠T->h'.get? b=h.get? b)(Q7:∃o,h'.get? T=some o)(fs:List Addr) :
  Un fs [] H H h h'/\Gq P w H h':=by
 have ne:∀b,H b=none->b≠T:=fun b n z=>by rw[z,hT] at n;cases n
 refine⟨⟨fun b u q n _ _=>(k b (ne b n)).trans q,fun b u q n _ _=>⟨u.slots,(k b (ne b n)).trans q⟩,fun _ _ _ n _=>n,fun b u q _=>?_,fun _ _ q=>q,fun _ _ _ q=>q,fun b ps q=>⟨#[],by rw[q];simp⟩⟩,fun b u e=>?_⟩
 ·by_cases z:b=T
  ·subst z;exact Q7
  ·exact⟨u,(k b z).trans q⟩
 ·by_cases z:b=T
  ·subst z;rw[hT] at e;cases e;exact qC Q7
  ·refine(x b u e).Jy (fun c v hc q=>(k c ?_).trans q) (fun _ q=>q) fun _ _ q=>q
   rcases hc with rfl|hc
   ·exact z
   ·rintro rfl;rw[hT] at hc;cases hc
end
def Cx.marked(X:Cx)(a:Addr):Cx:={ X with A:=X.A.mark (some (.ref a)),calm:=false }
section
variable{X:Cx}{pins:Ez}{σ:L2.St}{H:Hp}{s:Shared}{a c T:Addr}
theorem wO(I:Inv X pins σ H s)(a:Addr):Inv (Cx.marked X a) pins σ H s:=
 ⟨⟨I.ok.mod,I.ok.kind,I.ok.glob,I.ok.blt,I.ok.above,I.ok.inj,I.ok.has,I.ok.Po,fun z=>(nomatch z),I.ok.frames,I.ok.PS,I.ok.Ry,I.ok.bs,I.ok.Ml,I.ok.L4,I.ok.Mx,I.ok.HX,I.ok.Nq⟩,I.os,I.bare,I.base,I.loc,I.cell,I.free,I.Hc,I.pin,I.EI,I.len⟩
theorem iI(ok:X.Ok)(I:Inv (Cx.marked X a) pins σ H s):Inv X pins σ H s:=⟨ok,I.os,I.bare,I.base,I.loc,I.cell,I.free,I.Hc,I.pin,I.EI,I.len⟩
theorem pO{M:Model}{A:Around}{Q:Unit->Shared->Prop}{E:Value->Shared->Prop}(I:Inv X pins σ H s)(hT:H T=some (TO T))(t:Tr s.heap a c T)
  (hq:∀h',Inv X pins σ H { s with heap:=h' }->(∃o,h'.get? a=some o/\o.cls=.ref c)->Q () { s with heap:=h' }):wpAny M A (setFlight (.ref a) none) Q E s:=by
 obtain⟨oe,vs,oT,ts,a0,he,HY,hd,h0,h1,Mc,V2,LF,h3⟩:=t;unfold setFlight;refine wpAny_bind (wpAny_field he hd h1 ?_);rw[if_pos (show(Value.ref T != Value.none)=true from by simp)];refine wpAny_setField V2 LF (Array.getElem?_eq_some_iff.mp h3).1 ?_;have k:∀b,b≠T->(s.heap.update T (Obj.mapFields (·.setIfInBounds 3 ((none:Option Addr).elim Value.none fun f=>rawInt f)))).get? b=s.heap.get? b:=fun b hb=>Heap.get?_update_other _ _ (Ne.symm hb)
 obtain⟨u1,u2⟩:=zx I.EI hT k ⟨_,Heap.get?_update_self _ V2 (Obj.isFreed_of_fields (Obj.data_mapFields LF _))⟩ X.fs;exact hq _ (I.un (t':=s.toks) u1 u2) ⟨oe,(k a (Ne.symm Mc)).trans he,HY⟩
end
structure Yc(K:PySem.W.Frag)(c C:Addr):Prop where
 sub:PySem.W.subIn K (.ref c) (.ref C)=some true
theorem uC{M:Model}{A:Around}{E:Value->Shared->Prop}{s:Shared}{K:PySem.W.Frag}{a c C:Addr}{x:Str}{mg:Str->Option Value}{Q:Bool->Shared->Prop}(X:K.In s.heap)(hC:MO K mg x C)(hs:PySem.W.subIn K (.ref c) (.ref C)=some true)
  (he:∃o,s.heap.get? a=some o/\o.cls=.ref c) (hq:Q true s):wpAny M A (excMatches (.ref a) (.ref C)) Q E s:=by
 obtain⟨tl,N,nm,q,bs,hdct,sn,sub,ab,col,dd,k0,k1,k2,k3,k5,mN,V3,hN,Qs,T⟩:=sU X hC.cls;obtain⟨oe,he,HY⟩:=he;have Yd:(Value.ref C :: tl).contains (.type "BaseException")=true:=by rw[List.contains_cons,T.hasType PySem.F.excBase_ValueError.hasBase,Bool.or_true]
 have f:=tc_notTuple;obtain⟨hh,g,d,tk,os⟩:=s;have L:=PySem.W.looks_subIn (M:=M) X hs;unfold excMatches
 repeat (first|(with_reducible refine wpAny_loadPart_at he ?_;rw[HY])|with_reducible refine wpAny_loadPart_at V3 ?_|(with_reducible refine wpAny_isSubtype_exc V3 ?_;rw[Yd])|(with_reducible refine L.here ?_)|wp_step)
 exact hq
def SI:Lo->Lo
 |some (.xc _ _,_)=>none
 |x=>x
def pG(L:List Addr)(t u:EL):EL:=fun r S=>match t r S with
 |some (.xc c r',S')=>if c∈L then SI (u r' S') else none
 |x=>x
section
variable{X:Cx}{body MP:List Stmt}{O9:Stmt}{t u:EL}{pos np hp:Pos}{x:Str}{C:Addr}{L:List Addr}
theorem yM(hC:MO X.K X.mg x C)(hL:∀c∈L,PySem.W.subIn X.K (.ref c) (.ref C)=some true)(hg:Gl X x)(I0:X.stack=X.env :: X.outer/\X.env.frame=some X.env.locals)(hb:oX X body t)(hs:∀a,oX (Cx.marked X a) (O9 :: MP) u)
  (L8:(x == ("__debug__":Str))=false:=by decide) :
  Lx X (.Try body [.ExceptHandler (some (.Name x np)) none (O9 :: MP) hp] [] [] pos) (pG L t u):=by
 intro pins s σ H J r S Q E I m;refine wpAny_Try_except (hb pins s σ H J r S _ _ I ?_);unfold pG at m
 match e:t r S with
 |none=>rw[e] at m;exact m
 |some (.nx r',S')=>
  rw[e] at m;exact fun s' E4 H' J' a x=>wpAny_execs_nil (m s' E4 H' J' a x)
 |some (.bk r',S')=>rw[e] at m;exact m
 |some (.ct r',S')=>rw[e] at m;exact m
 |some (.rt d,S')=>rw[e] at m;exact m
 |some (.xc c r',S')=>
  rw[e] at m;dsimp only at m;split at m
  ·rename_i Ye;rintro ev s' E4 H' J' ⟨I1,a,rfl,hX,hc⟩ rl rs ex;refine w4 I0 I1 hX hc fun h' T' hn un EI tr=>?_
   have Qk:a≠T':=bj hX hn;have I2:Inv X pins E4 (upd H' T' (TO T')) { s' with heap:=h' }:=I1.call (h':=h') (g':=s'.gens) (d':=s'.drawn) (t':=s'.toks) (ch:=[]) un EI I1.bare (fun b z=>absurd z (by simp));have I3:=wO I2 a;refine wpAny_handleBy_cons (codeAny_handlers_test (lY (X:=Cx.marked X a) I3 hg hC.nm ?_ L8)) (by intro q;cases q);refine uC I2.IY hC (hL c Ye) tr.cls (codeAny_handlers_suite ?_);refine pO I3 bN tr fun h2 I4 _=>?_
   have Ju:Ext H' J' (upd H' T' (TO T')) J':=Ext.new hn;refine hs a pins _ E4 _ J' r' S' _ _ ⟨I4,rl.ext Ju,rs.new hn⟩ ?_;have m2:=JD.ext (ex.trans Ju) m
   match e2:u r' S' with
   |none=>rw[e2] at m2;exact m2
   |some (.nx r2,S2)=>rw[e2] at m2;exact fun s3 K4 H3 J3 a3 x3=>m2 s3 K4 H3 J3 ⟨iI I2.ok a3.inv,a3.loc,a3.st⟩ x3
   |some (.bk r2,S2)=>rw[e2] at m2;exact fun s3 K4 H3 J3 a3 x3=>m2 s3 K4 H3 J3 ⟨iI I2.ok a3.inv,a3.loc,a3.st⟩ x3
   |some (.ct r2,S2)=>rw[e2] at m2;exact fun s3 K4 H3 J3 a3 x3=>m2 s3 K4 H3 J3 ⟨iI I2.ok a3.inv,a3.loc,a3.st⟩ x3
   |some (.rt d,S2)=>rw[e2] at m2;exact fun v s3 K4 ⟨vv,H3,I5,rv,g⟩=>m2 v s3 K4 ⟨vv,H3,iI I2.ok I5,rv,g⟩
   |some (.xc c2 r2,S2)=>rw[e2] at m2;exact m2.elim
  ·exact m.elim
end
end DL
namespace DL
open PySem PySem.Spec PyProof.Rows L2
section
variable{X:Cx}{pins:Ez}{σ:L2.St}{H:Hp}{s:Shared}
end
section
variable{X:Cx}{body MP:List Stmt}{O9:Stmt}{t u:EL}{pos np hp:Pos}{x n:Str}{C:Addr}{L:List Addr}{i:Nat}
end
section
variable{X:Cx}{e:Expr}{fe:o_->M D}{pos:Pos}
end
end DL
namespace DL
open PySem PySem.Spec PyProof.Rows L2
theorem Ae{α:Type}{P:α->Prop}:∀c∈([]:List α),P c:=fun _ h=>nomatch h
theorem xA{α:Type}{P:α->Prop}{x:α}{l:List α}(h:P x)(t:∀c∈l,P c):∀c∈x :: l,P c:=fun c hc=>(List.mem_cons.mp hc).elim (fun e=>e ▸ h) (t c)
section
variable{X:Cx}{pos p p2 p3 p4:Pos}
end
end DL
namespace DL
open PySem PySem.Spec PyProof.Rows L2
def Dg:D->Bool
 |.B_=>true
 |_=>false
def iE(x y:D):M D:=fun S=>match y with
 |.B_=>.ok (.bl (!Dg x)) S
 |_=>.bad
theorem r_.O_{K:PySem.W.Frag}{H:Hp}{J:List Addr}{d:D}{v:V}(h:r_ K H J d v):decide (v=.B_)=Dg d:=by
 cases d with
 |B_=>cases h.Lv;rfl
 |bl b=>cases h.Ni;rfl
 |int i=>cases h.FO;rfl
 |str x=>cases h.ME;rfl
 |tup xs=>obtain⟨a,vs,rfl,_⟩:=h.HM;rfl
 |FC xs=>obtain⟨a,vs,rfl,_⟩:=h.Kl;rfl
 |ob n=>obtain⟨a,rfl,_⟩:=h.HN;rfl
 |xn c=>obtain⟨a,rfl,_⟩:=h.Xo;rfl
section
variable{X:Cx}
theorem pX:Iu X (compareOp .IsNot) iE:=by
 intro pins s σ H J S x y vx vy v u Q E I rs rx ry rv ru m;cases y with
 |B_=>
  cases ry.Lv;cases ru;refine isnot_none_gen ?_;rw[rv.My,rx.O_];exact m.Hk I rs (r_.bl _ _ _ _) rfl
 |_=>exact m.elim
end
end DL
namespace DL
open PySem PySem.Spec PyProof.Rows L2
structure NoX(K:PySem.W.Frag)(c:Addr):Prop where
 cls:PySem.W.excIn K c [.type "ValueError",.type "Exception",.type "BaseException",.type "object"] "ValueError.__new__"=true
 ga:PySem.W.findIn K (.ref c) "__getattribute__"=some (some (.builtin "BaseException.__getattribute__"))
 gat:PySem.W.findIn K (.ref c) "__getattr__"=some none
 Yf:PySem.W.findIn K (.ref c) "__class__"=some (some (.builtin "object.__class__"))
section
variable{prog:Program}{w:World}{A:Around}{E:Value->Shared->Prop}{h:Heap}{g:Array GenState}{d:Drawn}{t:Nat}{os:OsState}{a:Addr}{o:Obj}{K:PySem.W.Frag}
 {nm q:Str}{C N:Addr}{bs bm:List Value}{hdct:Bool}{sn:List Str}{sub:List Value}{ab:Bool}{col:Option Bool}{dd:Option Addr}{k0 k1 k2 k3 k5:Option Value}{newId:String}
end
end DL
namespace DL
open PySem PySem.Spec PyProof.Rows L2
section
variable{env:Env}{es:List Expr}
theorem bR{c k p}:starEach (.Constant c k p :: es) env=(false,eval (.Constant c k p) env) :: starEach es env:=rfl
theorem lu{c k p}:starEach (.Tuple c k p :: es) env=(false,eval (.Tuple c k p) env) :: starEach es env:=rfl
theorem tR{a o b p}:starEach (.BinOp a o b p :: es) env=(false,eval (.BinOp a o b p) env) :: starEach es env:=rfl
theorem bg{x p}:starEach (.Name x p :: es) env=(false,eval (.Name x p) env) :: starEach es env:=rfl
theorem ju{f a k p}:starEach (.Call f a k p :: es) env=(false,eval (.Call f a k p) env) :: starEach es env:=rfl
theorem cI{a b p}:starEach (.Subscript a b p :: es) env=(false,eval (.Subscript a b p) env) :: starEach es env:=rfl
theorem sZ{a b c p}:starEach (.ListComp a b c p :: es) env=(false,eval (.ListComp a b c p) env) :: starEach es env:=rfl
end
end DL
namespace DL
open PySem PySem.Spec PyProof.Rows
section
variable{prog:Program}{w:World}{A:Around}{E:Value->Shared->Prop}{s:Shared}{b:Array Keyed}
end
end DL
namespace DL
open PySem PySem.Spec PyProof.Rows L2
theorem mf:∀{ns:List Int}{us:List Value},IntsAre us ns->Vals (ns.map V.int) us
 |_,_,.nil=>.nil
 |_,_,.cons n t h=>.cons ⟨t,rfl⟩ (mf h)
section
variable{X:Cx}
end
end DL
namespace DL
open PySem PySem.Spec PyProof.Rows L2
def py(f g:o_->M D):o_->M D:=fun r S=>match f r S with
 |.bad=>g r S
 |x=>x
theorem CK{X:Cx}{e:Expr}{f g:o_->M D}(h1:E_ X e f)(h2:E_ X e g):E_ X e (py f g):=by
 intro pins s σ H J r S Q E I m;cases hf:f r S with
 |bad=>
  have ed:py f g r S=g r S:=by simp only[py,hf]
  rw[ed] at m;exact h2 pins s σ H J r S Q E I m
 |ok d S'=>
  have ed:py f g r S=f r S:=by simp only[py,hf]
  rw[ed] at m;exact h1 pins s σ H J r S Q E I m
 |exc c S'=>
  have ed:py f g r S=f r S:=by simp only[py,hf]
  rw[ed] at m;exact h1 pins s σ H J r S Q E I m
end DL
namespace Lw
open PySem L2 DL
open PyProof.Rows (boot_max boot_min boot_sum boot_all boot_int boot_tuple boot_list boot_isinstance boot_range boot_enumerate boot_bool)
theorem FD{N P:List Str}{sc:Scope}(a:sc.kind=.function:=by rfl)(b:sc.isCoroutine=false:=by rfl)(c:sc.isGenerator=false:=by rfl)(d:N.Nodup:=by decide +kernel)(e:N.take P.length=P:=by rfl)(f:∀x∈P,sc.names.lookup x=some .local\/sc.names.lookup x=some .cell:=by decide +kernel)(g:∀y∈sc.names,y.2≠.free:=by decide +kernel):m_ N P sc:=⟨a,b,c,d,e,f,g⟩
@[simp] def mF(n:Nat)(c:EL):List D->M D:=fun xs S=>fin S (c (xs.map some++List.replicate (n-xs.length) none) S)
@[simp] def mP(n:Nat)(c:EL):List D->M D:=fun xs S=>cY S (c (xs.map some++List.replicate (n-xs.length) none) S)
theorem fE{P:Program}{w:World}{K:PySem.W.Frag}{mg:Str->Option Value}{base:Heap}{x qual:Str}{st:Stmt}{f:Addr}{fd:FuncData}{N ps:List Str}{k:Nat}{t:EL}(hF:Fj K x qual st f fd)(S:m_ N ps (h_ st))(h:∀(EC:Value) (A:Around) (outer:List Env) (s:Shared) (H:Hp) (E:XK),FL k (A.deeper (PyProof.Rows.envOfC qual (h_ st) s.heap.objs.size f EC))->oX (pr (w_ P w) P w K mg base N qual (h_ st) f EC A outer s H E) (Fm st) t):Fq P w K mg base (w_ P w) (k+1) f fd ps (mF N.length t):=qy hF S (fun _ _ _ _ _ _=>nW) (fun EC A outer s H E hr=>⟨t,h EC A outer s H E hr,fun xs S0 hl=>nL⟩)
theorem fG{P:Program}{w:World}{K:PySem.W.Frag}{mg:Str->Option Value}{base:Heap}{x qual:Str}{st:Stmt}{f:Addr}{fd:FuncData}{N ps:List Str}{k:Nat}{t:EL}(hF:Fj K x qual st f fd)(S:m_ N ps (h_ st))(h:∀(EC:Value) (A:Around) (outer:List Env) (s:Shared) (H:Hp) (E:XK),FL k (A.deeper (PyProof.Rows.envOfC qual (h_ st) s.heap.objs.size f EC))->oX (pr (w_ P w) P w K mg base N qual (h_ st) f EC A outer s H E) (Fm st) t):Fq P w K mg base (w_ P w) (k+1) f fd ps (mP N.length t):=qy hF S (fun _ _ _ _ _ _=>nW) (fun EC A outer s H E hr=>⟨t,h EC A outer s H E hr,fun xs S0 hl=>xV⟩)
def top(i:Nat):Stmt:=PySem.Challenge.pw_sureroad_k12_roads.main.body.getD i (.Pass ⟨0,0,0,0⟩)
abbrev mU:Stmt:=top 40
abbrev ll:Stmt:=top 39
abbrev jh:Stmt:=top 43
abbrev gw:Stmt:=br (top 14) 0
abbrev gy:Stmt:=br (top 12) 0
abbrev gG:Stmt:=br (top 36) 0
abbrev lG:Stmt:=top 44
abbrev lA:Stmt:=top 9
abbrev jR:Stmt:=br (top 14) 1
abbrev kF:Stmt:=br (top 36) 1
abbrev ji:Stmt:=top 42
abbrev jE:Stmt:=top 31
abbrev mX:Stmt:=top 25
abbrev qe:Stmt:=top 26
abbrev nk:Stmt:=top 27
abbrev m5:Stmt:=top 28
abbrev ox:Stmt:=top 29
abbrev nr:Stmt:=top 30
abbrev oI:Stmt:=top 32
abbrev fT:Stmt:=br (top 36) 15
abbrev lH:Stmt:=top 6
abbrev gL:Stmt:=br (top 14) 7
abbrev iw:Stmt:=br (top 14) 6
abbrev jK:Stmt:=br (top 14) 5
abbrev kK:Stmt:=br (top 36) 3
abbrev gu:Stmt:=br (top 36) 14
abbrev lV:Stmt:=top 33
abbrev wg:Stmt:=top 34
abbrev jg:Stmt:=br (top 12) 2
abbrev eM:Stmt:=br (top 12) 4
abbrev kP:Stmt:=top 5
abbrev kH:Stmt:=top 7
abbrev jW:Stmt:=br (top 12) 6
abbrev kA:Stmt:=top 10
abbrev jV:Stmt:=br (top 12) 8
abbrev gB:Stmt:=br (top 12) 7
abbrev jM:Stmt:=br (top 12) 9
abbrev fj:Stmt:=br (top 12) 5
abbrev jj:Stmt:=br (top 12) 3
abbrev fK:Stmt:=br (top 14) 4
abbrev fJ:Stmt:=br (top 14) 11
abbrev eI:Stmt:=br (top 14) 12
abbrev fm:Stmt:=br (top 14) 10
abbrev fL:Stmt:=br (top 14) 9
abbrev iV:Stmt:=br (top 14) 8
abbrev ja:Stmt:=br (top 36) 16
abbrev kL:Stmt:=br (top 36) 4
abbrev km:Stmt:=br (top 36) 5
abbrev iX:Stmt:=br (top 36) 6
abbrev oV:Stmt:=top 37
abbrev jO:Stmt:=br (top 36) 7
abbrev jQ:Stmt:=br (top 14) 3
abbrev jT:Stmt:=br (top 12) 1
abbrev ke:Stmt:=br (top 36) 8
abbrev jt:Stmt:=br (top 14) 2
abbrev jU:Stmt:=br (top 36) 2
abbrev oz:Stmt:=top 45
abbrev lJ:Stmt:=top 47
abbrev lR:Stmt:=top 48
abbrev lO:Stmt:=top 49
abbrev jn:Stmt:=top 50
abbrev ir:Stmt:=br (top 36) 9
abbrev kC:Stmt:=top 41
abbrev gc:Stmt:=br (top 36) 10
abbrev ik:Stmt:=br (top 36) 11
abbrev gE:Stmt:=br (top 36) 12
abbrev fR:Stmt:=br (top 36) 13
abbrev kl:Stmt:=top 51
abbrev sy:Stmt:=top 52
structure Cs where
 g_:Addr
 c_:Addr
 World:Addr
 MQ:Addr
 Ff:Addr
abbrev d_:List Str:=["window","given","opening","next_index","early","begun"]
theorem aX:d_.Nodup:=by decide +kernel
abbrev a_:List Str:=["window","most","messages","sure","opening","state","pieces","base","noted"]
theorem aJ:a_.Nodup:=by decide +kernel
abbrev k_:List Str:=["sender","hearer","roads"]
theorem bY:k_.Nodup:=by decide +kernel
abbrev G0:List Str:=["hello","welcome","who","data","note"]
abbrev eQ:D:=.tup (G0.map D.str)
abbrev FT:List Str:=["hello","welcome","who"]
abbrev fA:D:=.tup (FT.map D.str)
abbrev E6:D:=.int 65535
abbrev EM:D:=.int 13
abbrev Fb:D:=.int 255
abbrev Fg:D:=.int 8
abbrev GH:D:=.int 7
abbrev EN:D:=.int 3
abbrev EF:D:=.int 2
structure Txt(K:PySem.W.Frag)(mg:Str->Option Value)(G:Cs):Prop where
 Qt:mg "all"=none
 MR:mg "bool"=none
 IK:mg "enumerate"=none
 OB:mg "int"=none
 Fh:mg "isinstance"=none
 FU:mg "len"=none
 LG:mg "list"=none
 Qu:mg "max"=none
 OC:mg "min"=none
 Kp:mg "range"=none
 MS:mg "sum"=none
 FE:mg "tuple"=none
 n_:KY K G.g_
 E8:EU K G.g_ "window"
 FJ:EU K G.g_ "given"
 C_:EU K G.g_ "opening"
 z_:EU K G.g_ "next_index"
 E2:EU K G.g_ "early"
 Fv:EU K G.g_ "begun"
 i_:KY K G.c_
 E9:EU K G.c_ "window"
 Gu:EU K G.c_ "most"
 FP:EU K G.c_ "messages"
 FA:EU K G.c_ "sure"
 EO:EU K G.c_ "opening"
 y_:EU K G.c_ "state"
 EA:EU K G.c_ "pieces"
 EG:EU K G.c_ "base"
 FK:EU K G.c_ "noted"
 tB:KY K G.World
 EJ:EU K G.World "sender"
 Fw:EU K G.World "hearer"
 Ex:EU K G.World "roads"
 MT:MO K mg "NoCard" G.MQ
 G1:MO K mg "NoStrip" G.Ff
 Fs:PySem.W.subIn K (.ref G.Ff) (.ref G.Ff)=some true
 Kq:Ke K mg "KINDS" G0
 JF:Ke K mg "SHORT_KINDS" FT
 JG:∃u,mg "TOP_OPENING"=some u/\IP K E6 u
 Kr:∃u,mg "TOP_NUMBER"=some u/\IP K EM u
 Ji:∃u,mg "TOP_CELL"=some u/\IP K Fb u
 Hm:∃u,mg "MOST_PIECE_LETTERS"=some u/\IP K Fg u
 K8:∃u,mg "MOST_BITS"=some u/\IP K GH u
 Ik:∃u,mg "HEAD_CELLS"=some u/\IP K EN u
 HF:∃u,mg "CHECK_CELLS"=some u/\IP K EF u
section
variable{P:Program}{w:World}{K:PySem.W.Frag}{mg:Str->Option Value}{base:Heap}
theorem uR:m_ ["_law_cell_here","_law_prime","_law_many"] ["_law_cell_here","_law_prime","_law_many"] (h_ mU):=FD
def pd:EL:=(bP (f_ jo (f_ jo (f_ iP (aa 0) (dC (.int 48271))) (aa 1)) (aa 2)))
def aC:List D->M D:=mF 3 pd
theorem vm{G:Cs}(T:Txt K mg G){f:Addr}{fd:FuncData}(F:Fj K "_law_mix" "_law_mix" mU f fd):Fq P w K mg base (w_ P w) 1 f fd ["_law_cell_here","_law_prime","_law_many"] aC:=by
 refine fE F uR fun EC A outer s H E hr=>?_
 have hu:=hr.units;exact(@al _ _ _ (@aU _ _ _ _ (@bC _ _ _ _ _ _ _ _ iA (@bC _ _ _ _ _ _ _ _ iA (@bC _ _ _ _ _ _ _ _ lz (ae 0) (@aq _ _ _ _)) (ae 1)) (ae 2))))
theorem tL:m_ ["_law_script","_law_k"] ["_law_script","_law_k"] (h_ ll):=FD
def kD:EL:=(aN (Fd (ao (f_ Hl (aa 1) (am bG (ac (aa 0) ai)))) (bP (f_ t_ (aa 0) (aa 1))) bE)
 (bP (dC (.int 0))))
def bS:List D->M D:=mF 2 kD
theorem tW{G:Cs}(T:Txt K mg G){f:Addr}{fd:FuncData}(F:Fj K "_law_cell" "_law_cell" ll f fd):Fq P w K mg base (w_ P w) 1 f fd ["_law_script","_law_k"] bS:=by
 refine fE F tL fun EC A outer s H E hr=>?_
 have hu:=hr.units;exact(@au _ _ _ _ _ (bq (aE lc (ae 1) (bO dP rfl T.FU PySem.boot_len (@af _ _ _ _ _ (ae 0) (@ah _) bg)) (aM _)) (@al _ _ _ (@aU _ _ _ _ (aD EY (ae 0) (ae 1) (fun _ _=>rfl)))) ba)
   (@al _ _ _ (@aU _ _ _ _ (@aq _ _ _ _))))
theorem Gf:m_ ["_law_script","_law_window","_law_most"] ["_law_script"] (h_ jh):=FD
def ii:EL:=(aN (cj (f_ bJ (dC (.int 1)) (am aC (ac (am bS (ac (aa 0) (ac (dC (.int 0)) ai))) (ac (dC (.int 9883)) (ac (dC (.int 7)) ai))))) (gN 1))
 (aN (cj (f_ bJ (dC (.int 1)) (am aC (ac (am bS (ac (aa 0) (ac (dC (.int 1)) ai))) (ac (dC (.int 9871)) (ac (dC (.int 8)) ai))))) (gN 2))
 (bP (cf (ac (aa 1) (ac (aa 2) ai))))))
def gj:List D->M D:=mF 3 ii
theorem pQ{G:Cs}(T:Txt K mg G)(GI:Gm P w K mg base (w_ P w) "_law_cell" 1 ["_law_script","_law_k"] bS)(D_:Gm P w K mg base (w_ P w) "_law_mix" 1 ["_law_cell_here","_law_prime","_law_many"] aC){f:Addr}{fd:FuncData}(F:Fj K "_law_setting" "_law_setting" jh f fd):Fq P w K mg base (w_ P w) 2 f fd ["_law_script"] gj:=by
 refine fE F Gf fun EC A outer s H E hr=>?_
 have hu:=hr.units;exact(@au _ _ _ _ _ (@bL _ _ _ _ 1 _ _ Gf.nd (@bC _ _ _ _ _ _ _ _ bX (@aq _ _ _ _) (aO D_ (hr.mono (by decide)) rfl aK (@af _ _ _ _ _ (aO GI (hr.mono (by decide)) rfl aK (@af _ _ _ _ _ (ae 0) (@af _ _ _ _ _ (@aq _ _ _ _) (@ah _) bR) bg) (ak (ak aF))) (@af _ _ _ _ _ (@aq _ _ _ _) (@af _ _ _ _ _ (@aq _ _ _ _) (@ah _) bR) bR) ju) (ak (ak (ak aF))))) rfl (by first|exact Or.inl rfl|exact Or.inr rfl) rfl (by first|exact .inl rfl|exact .inr rfl|assumption))
   (@au _ _ _ _ _ (@bL _ _ _ _ 2 _ _ Gf.nd (@bC _ _ _ _ _ _ _ _ bX (@aq _ _ _ _) (aO D_ (hr.mono (by decide)) rfl aK (@af _ _ _ _ _ (aO GI (hr.mono (by decide)) rfl aK (@af _ _ _ _ _ (ae 0) (@af _ _ _ _ _ (@aq _ _ _ _) (@ah _) bR) bg) (ak (ak aF))) (@af _ _ _ _ _ (@aq _ _ _ _) (@af _ _ _ _ _ (@aq _ _ _ _) (@ah _) bR) bR) ju) (ak (ak (ak aF))))) rfl (by first|exact Or.inl rfl|exact Or.inr rfl) rfl (by first|exact .inl rfl|exact .inr rfl|assumption))
   (@al _ _ _ (@aU _ _ _ _ (@b8 _ _ _ _ _ (@af _ _ _ _ _ (ae 1) (@af _ _ _ _ _ (ae 2) (@ah _) bg) bg))))))
theorem nj:m_ ["self","window","most"] ["self","window","most"] (h_ gw):=FD
def dW(G:Cs):EL:=(aN (cV G.c_ [] "window" (aa 0) (aa 1))
 (aN (cV G.c_ ["window"] "most" (aa 0) (aa 2))
 (aN (cV G.c_ ["window","most"] "messages" (aa 0) (bZ ai))
 (aN (cV G.c_ ["window","most","messages"] "sure" (aa 0) (dC (.int 0)))
 (aN (cV G.c_ ["window","most","messages","sure"] "opening" (aa 0) (dC (.int 0)))
 (aN (cV G.c_ ["window","most","messages","sure","opening"] "state" (aa 0) (dC (.str "shut")))
 (aN (cV G.c_ ["window","most","messages","sure","opening","state"] "pieces" (aa 0) (bZ ai))
 (aN (cV G.c_ ["window","most","messages","sure","opening","state","pieces"] "base" (aa 0) (dC (.int 0)))
 (cV G.c_ ["window","most","messages","sure","opening","state","pieces","base"] "noted" (aa 0) k8)))))))))
def bM(G:Cs):List D->M D:=fun xs S=>fin S (dW G (xs.map some++List.replicate (3-xs.length) none) S)
theorem mV{G:Cs}(T:Txt K mg G){f:Addr}{fd:FuncData}(F:Fj K "__init__" "Sender.__init__" gw f fd):Fq P w K mg base (w_ P w) 1 f fd ["self","window","most"] (bM G):=by
 refine qy F nj (fun _ _ _ _ _ _=>nW) (fun EC A outer s H E hr=>⟨dW G,?_,fun xs S0 hl=>nL⟩);have hu:=hr.units;exact(@au _ _ _ _ _ (db T.i_ T.E9 (by decide) (by decide +kernel) (ae 0) (ae 1))
   (@au _ _ _ _ _ (db T.i_ T.Gu (by decide) (by decide +kernel) (ae 0) (ae 2))
   (@au _ _ _ _ _ (db T.i_ T.FP (by decide) (by decide +kernel) (ae 0) (@ci _ _ _ _ (@ah _)))
   (@au _ _ _ _ _ (db T.i_ T.FA (by decide) (by decide +kernel) (ae 0) (@aq _ _ _ _))
   (@au _ _ _ _ _ (db T.i_ T.EO (by decide) (by decide +kernel) (ae 0) (@aq _ _ _ _))
   (@au _ _ _ _ _ (db T.i_ T.y_ (by decide) (by decide +kernel) (ae 0) (@aH _ _ _ _))
   (@au _ _ _ _ _ (db T.i_ T.EA (by decide) (by decide +kernel) (ae 0) (@ci _ _ _ _ (@ah _)))
   (@au _ _ _ _ _ (db T.i_ T.EG (by decide) (by decide +kernel) (ae 0) (@aq _ _ _ _))
   (@al _ _ _ (db T.i_ T.FK (by decide) (by decide +kernel) (ae 0) pW))))))))))
theorem mT:m_ ["self","window"] ["self","window"] (h_ gy):=FD
def dY(G:Cs):EL:=(aN (cV G.g_ [] "window" (aa 0) (aa 1))
 (aN (cV G.g_ ["window"] "given" (aa 0) (bZ ai))
 (aN (cV G.g_ ["window","given"] "opening" (aa 0) (dC (.int 0)))
 (aN (cV G.g_ ["window","given","opening"] "next_index" (aa 0) (dC (.int 0)))
 (aN (cV G.g_ ["window","given","opening","next_index"] "early" (aa 0) k8)
 (cV G.g_ ["window","given","opening","next_index","early"] "begun" (aa 0) (bZ ai)))))))
def bA(G:Cs):List D->M D:=fun xs S=>fin S (dY G (xs.map some++List.replicate (2-xs.length) none) S)
theorem ny{G:Cs}(T:Txt K mg G){f:Addr}{fd:FuncData}(F:Fj K "__init__" "Hearer.__init__" gy f fd):Fq P w K mg base (w_ P w) 1 f fd ["self","window"] (bA G):=by
 refine qy F mT (fun _ _ _ _ _ _=>nW) (fun EC A outer s H E hr=>⟨dY G,?_,fun xs S0 hl=>nL⟩);have hu:=hr.units;exact(@au _ _ _ _ _ (db T.n_ T.E8 (by decide) (by decide +kernel) (ae 0) (ae 1))
   (@au _ _ _ _ _ (db T.n_ T.FJ (by decide) (by decide +kernel) (ae 0) (@ci _ _ _ _ (@ah _)))
   (@au _ _ _ _ _ (db T.n_ T.C_ (by decide) (by decide +kernel) (ae 0) (@aq _ _ _ _))
   (@au _ _ _ _ _ (db T.n_ T.z_ (by decide) (by decide +kernel) (ae 0) (@aq _ _ _ _))
   (@au _ _ _ _ _ (db T.n_ T.E2 (by decide) (by decide +kernel) (ae 0) pW)
   (@al _ _ _ (db T.n_ T.Fv (by decide) (by decide +kernel) (ae 0) (@ci _ _ _ _ (@ah _)))))))))
theorem n7:m_ ["self","window","most"] ["self","window","most"] (h_ gG):=FD
def eD(G:Cs):EL:=(aN (cV G.World [] "sender" (aa 0) (am (gx G.c_ (bM G)) (ac (aa 1) (ac (aa 2) ai))))
 (aN (cV G.World ["sender"] "hearer" (aa 0) (am (gx G.g_ (bA G)) (ac (aa 1) ai)))
 (cV G.World ["sender","hearer"] "roads" (aa 0) (mL (dD (dC (.str "there")) (bZ ai) (dD (dC (.str "back")) (bZ ai) nM))))))
def cQ(G:Cs):List D->M D:=fun xs S=>fin S (eD G (xs.map some++List.replicate (3-xs.length) none) S)
theorem nZ{G:Cs}(T:Txt K mg G)(Jj:Ko P w K mg base (w_ P w) "Sender" G.c_ 1 ["self","window","most"] (bM G))(Jk:Ko P w K mg base (w_ P w) "Hearer" G.g_ 1 ["self","window"] (bA G)){f:Addr}{fd:FuncData}(F:Fj K "__init__" "World.__init__" gG f fd):Fq P w K mg base (w_ P w) 3 f fd ["self","window","most"] (cQ G):=by
 refine qy F n7 (fun _ _ _ _ _ _=>nW) (fun EC A outer s H E hr=>⟨eD G,?_,fun xs S0 hl=>nL⟩);have hu:=hr.units;exact(@au _ _ _ _ _ (db T.tB T.EJ (by decide) (by decide +kernel) (ae 0) (nY Jj (hr.mono (by decide)) rfl aK (@af _ _ _ _ _ (ae 1) (@af _ _ _ _ _ (ae 2) (@ah _) bg) bg) (dO (ak (ak aF)))))
   (@au _ _ _ _ _ (db T.tB T.Fw (by decide) (by decide +kernel) (ae 0) (nY Jk (hr.mono (by decide)) rfl aK (@af _ _ _ _ _ (ae 1) (@ah _) bg) (dO (ak aF))))
   (@al _ _ _ (db T.tB T.Ex (by decide) (by decide +kernel) (ae 0) (wS (j3 (@aH _ _ _ _) (@ci _ _ _ _ (@ah _)) (j3 (@aH _ _ _ _) (@ci _ _ _ _ (@ah _)) wU)))))))
theorem Ft:m_ ["_law_script","_law_falls","_law_found","_law_cell_here","_law_turn","_law_road"] ["_law_script","_law_falls"] (h_ lG):=FD
def gh:EL:=(aN (cj (am aC (ac (aa 3) (ac (dC (.int 9859)) (ac (dC (.int 20)) ai)))) (gN 4))
 (aN (cj (f_ t_ (bZ (ac (dC (.str "there")) (ac (dC (.str "back")) ai))) (am aC (ac (aa 3) (ac (dC (.int 9857)) (ac (dC (.int 2)) ai))))) (gN 5))
 (Fd (ao (f_ Hl (aa 4) (dC (.int 2)))) (bx (Ij kT (aa 2) (ac (cf (ac (dC (.str "hand")) (ac (aa 3) ai))) ai))) (Fd (ao (f_ Hl (aa 4) (dC (.int 6)))) (bx (Ij kT (aa 2) (ac (cf (ac (dC (.str "tick")) ai)) ai))) (Fd (ao (f_ Hl (aa 4) (dC (.int 14)))) (cj (f_ bJ (aa 2) (f_ iP (bZ (ac (cf (ac (dC (.str "step")) (ac (aa 5) ai))) ai)) (f_ bJ (dC (.int 1)) (am aC (ac (aa 3) (ac (dC (.int 9851)) (ac (dC (.int 4)) ai))))))) (gN 2)) (Fd (ao (f_ Hl (aa 4) (dC (.int 17)))) (bx (Ij kT (aa 2) (ac (cf (ac (f_ t_ (bZ (ac (dC (.str "lose")) (ac (dC (.str "double")) (ac (dC (.str "spoil")) ai)))) (f_ rN (aa 4) (dC (.int 14)))) (ac (aa 5) (ac (am aC (ac (aa 3) (ac (dC (.int 9839)) (ac (dC (.int 6)) ai)))) (ac (aa 3) ai))))) ai))) (Fd (dg (ao (f_ EE (aa 4) (dC (.int 17)))) (bW (aa 1))) (cj (f_ bJ (aa 2) (bZ (ac (cf (ac (dC (.str "fall")) (ac (f_ t_ (bZ (ac (dC (.str "sender")) (ac (dC (.str "hearer")) ai))) (am aC (ac (aa 3) (ac (dC (.int 9833)) (ac (dC (.int 2)) ai))))) ai))) ai))) (gN 2)) (bx (Ij kT (aa 2) (ac (cf (ac (dC (.str "open")) ai)) ai))))))))))
def kU:EL:=(aN (cj (bZ (ac (cf (ac (dC (.str "open")) ai)) (ac (cf (ac (dC (.str "hand")) (ac (am bS (ac (aa 0) (ac (dC (.int 2)) ai))) ai))) ai))) (gN 2))
 (aN (qI (Hd (GF FZ (aa 0) (bI (dC (.int 3))) (bI (dC (.int 63))))) (gN 3) gh)
 (bP (aa 2))))
def hZ:List D->M D:=mF 6 kU
theorem tV{G:Cs}(T:Txt K mg G)(GI:Gm P w K mg base (w_ P w) "_law_cell" 1 ["_law_script","_law_k"] bS)(D_:Gm P w K mg base (w_ P w) "_law_mix" 1 ["_law_cell_here","_law_prime","_law_many"] aC){f:Addr}{fd:FuncData}(F:Fj K "_law_acts" "_law_acts" lG f fd):Fq P w K mg base (w_ P w) 2 f fd ["_law_script","_law_falls"] hZ:=by
 refine fE F Ft fun EC A outer s H E hr=>?_
 have hu:=hr.units;exact(@au _ _ _ _ _ (@bL _ _ _ _ 2 _ _ Ft.nd (@ci _ _ _ _ (@af _ _ _ _ _ (@b8 _ _ _ _ _ (@af _ _ _ _ _ (@aH _ _ _ _) (@ah _) bR)) (@af _ _ _ _ _ (@b8 _ _ _ _ _ (@af _ _ _ _ _ (@aH _ _ _ _) (@af _ _ _ _ _ (aO GI (hr.mono (by decide)) rfl aK (@af _ _ _ _ _ (ae 0) (@af _ _ _ _ _ (@aq _ _ _ _) (@ah _) bR) bg) (ak (ak aF))) (@ah _) ju) bR)) (@ah _) lu) lu)) rfl (by first|exact Or.inl rfl|exact Or.inr rfl) rfl (by first|exact .inl rfl|exact .inr rfl|assumption))
   (@au _ _ _ _ _ (mY rfl (eB (cH Lq (ae 0) (cu (@aq _ _ _ _)) (cu (@aq _ _ _ _)))) (cq (i:=3) Ft.nd) (@au _ _ _ _ _ (@bL _ _ _ _ 4 _ _ Ft.nd (aO D_ (hr.mono (by decide)) rfl aK (@af _ _ _ _ _ (ae 3) (@af _ _ _ _ _ (@aq _ _ _ _) (@af _ _ _ _ _ (@aq _ _ _ _) (@ah _) bR) bR) bg) (ak (ak (ak aF)))) rfl (by first|exact Or.inl rfl|exact Or.inr rfl) rfl (by first|exact .inl rfl|exact .inr rfl|assumption))
   (@au _ _ _ _ _ (@bL _ _ _ _ 5 _ _ Ft.nd (aD EY (@ci _ _ _ _ (@af _ _ _ _ _ (@aH _ _ _ _) (@af _ _ _ _ _ (@aH _ _ _ _) (@ah _) bR) bR)) (aO D_ (hr.mono (by decide)) rfl aK (@af _ _ _ _ _ (ae 3) (@af _ _ _ _ _ (@aq _ _ _ _) (@af _ _ _ _ _ (@aq _ _ _ _) (@ah _) bR) bR) bg) (ak (ak (ak aF)))) (fun _ _=>rfl)) rfl (by first|exact Or.inl rfl|exact Or.inr rfl) rfl (by first|exact .inl rfl|exact .inr rfl|assumption))
   (@al _ _ _ (bq (aE lc (ae 4) (@aq _ _ _ _) (aM _)) (@al _ _ _ (@aY _ _ _ _ (eW PySem.F.slot_list_append PySem.F.type_list_append eh (ae 2) (@af _ _ _ _ _ (@b8 _ _ _ _ _ (@af _ _ _ _ _ (@aH _ _ _ _) (@af _ _ _ _ _ (ae 3) (@ah _) bg) bR)) (@ah _) lu)) rfl)) (@al _ _ _ (bq (aE lc (ae 4) (@aq _ _ _ _) (aM _)) (@al _ _ _ (@aY _ _ _ _ (eW PySem.F.slot_list_append PySem.F.type_list_append eh (ae 2) (@af _ _ _ _ _ (@b8 _ _ _ _ _ (@af _ _ _ _ _ (@aH _ _ _ _) (@ah _) bR)) (@ah _) lu)) rfl)) (@al _ _ _ (bq (aE lc (ae 4) (@aq _ _ _ _) (aM _)) (@al _ _ _ (@bL _ _ _ _ 2 _ _ Ft.nd (@bC _ _ _ _ _ _ _ _ bX (ae 2) (@bC _ _ _ _ _ _ _ _ lz (@ci _ _ _ _ (@af _ _ _ _ _ (@b8 _ _ _ _ _ (@af _ _ _ _ _ (@aH _ _ _ _) (@af _ _ _ _ _ (ae 5) (@ah _) bg) bR)) (@ah _) lu)) (@bC _ _ _ _ _ _ _ _ bX (@aq _ _ _ _) (aO D_ (hr.mono (by decide)) rfl aK (@af _ _ _ _ _ (ae 3) (@af _ _ _ _ _ (@aq _ _ _ _) (@af _ _ _ _ _ (@aq _ _ _ _) (@ah _) bR) bR) bg) (ak (ak (ak aF))))))) rfl (by first|exact Or.inl rfl|exact Or.inr rfl) rfl (by first|exact .inl rfl|exact .inr rfl|assumption))) (@al _ _ _ (bq (aE lc (ae 4) (@aq _ _ _ _) (aM _)) (@al _ _ _ (@aY _ _ _ _ (eW PySem.F.slot_list_append PySem.F.type_list_append eh (ae 2) (@af _ _ _ _ _ (@b8 _ _ _ _ _ (@af _ _ _ _ _ (aD EY (@ci _ _ _ _ (@af _ _ _ _ _ (@aH _ _ _ _) (@af _ _ _ _ _ (@aH _ _ _ _) (@af _ _ _ _ _ (@aH _ _ _ _) (@ah _) bR) bR) bR)) (@bC _ _ _ _ _ _ _ _ we (ae 4) (@aq _ _ _ _)) (fun _ _=>rfl)) (@af _ _ _ _ _ (ae 5) (@af _ _ _ _ _ (aO D_ (hr.mono (by decide)) rfl aK (@af _ _ _ _ _ (ae 3) (@af _ _ _ _ _ (@aq _ _ _ _) (@af _ _ _ _ _ (@aq _ _ _ _) (@ah _) bR) bR) bg) (ak (ak (ak aF)))) (@af _ _ _ _ _ (ae 3) (@ah _) bg) ju) bg) cI)) (@ah _) lu)) rfl)) (@al _ _ _ (bq (Ir.pt (eF (aE (b9 hu) (ae 4) (@aq _ _ _ _) (aM _)) (dG (cL (ae 1))))) (@al _ _ _ (@bL _ _ _ _ 2 _ _ Ft.nd (@bC _ _ _ _ _ _ _ _ bX (ae 2) (@ci _ _ _ _ (@af _ _ _ _ _ (@b8 _ _ _ _ _ (@af _ _ _ _ _ (@aH _ _ _ _) (@af _ _ _ _ _ (aD EY (@ci _ _ _ _ (@af _ _ _ _ _ (@aH _ _ _ _) (@af _ _ _ _ _ (@aH _ _ _ _) (@ah _) bR) bR)) (aO D_ (hr.mono (by decide)) rfl aK (@af _ _ _ _ _ (ae 3) (@af _ _ _ _ _ (@aq _ _ _ _) (@af _ _ _ _ _ (@aq _ _ _ _) (@ah _) bR) bR) bg) (ak (ak (ak aF)))) (fun _ _=>rfl)) (@ah _) cI) bR)) (@ah _) lu))) rfl (by first|exact Or.inl rfl|exact Or.inr rfl) rfl (by first|exact .inl rfl|exact .inr rfl|assumption))) (@al _ _ _ (@aY _ _ _ _ (eW PySem.F.slot_list_append PySem.F.type_list_append eh (ae 2) (@af _ _ _ _ _ (@b8 _ _ _ _ _ (@af _ _ _ _ _ (@aH _ _ _ _) (@ah _) bR)) (@ah _) lu)) rfl)))))))))))))))
   (@al _ _ _ (@aU _ _ _ _ (ae 2)))))
theorem FV:m_ ["message","most","size","pieces","rest"] ["message","most"] (h_ lA):=FD
def ko(fuel:Nat):EL:=(aN (cj (am B6 (ac (aa 1) (ac (dC (.int 1)) ai))) (gN 2))
 (aN (cj (bZ ai) (gN 3))
 (aN (cj (aa 0) (gN 4))
 (aN (gF (ao (f_ ML (am bG (ac (aa 4) ai)) (aa 2))) (aN (bx (Ij kT (aa 3) (ac (cf (ac (dC (.int 0)) (ac (GF FZ (aa 4) bz (bI (aa 2))) ai))) ai)))
 (cj (GF FZ (aa 4) (bI (aa 2)) bz) (gN 4))) fuel)
 (aN (bx (Ij kT (aa 3) (ac (cf (ac (dC (.int 1)) (ac (aa 4) ai))) ai)))
 (bP (am eJ (ac (aa 3) ai))))))))
def dM:List D->M D:=fun xs S=>cY S (ko 100 (xs.map some++List.replicate (5-xs.length) none) S)
theorem uA{G:Cs}(T:Txt K mg G){f:Addr}{fd:FuncData}(F:Fj K "pieces_of" "pieces_of" lA f fd):Fq P w K mg base (w_ P w) 1 f fd ["message","most"] dM:=by
 refine fG F FV fun EC A outer s H E hr=>?_
 have hu:=hr.units;have SJ:(100:Nat)=100:=rfl
 generalize Yg:(100:Nat)=fuel at SJ
 exact(@au _ _ _ _ _ (@bL _ _ _ _ 2 _ _ FV.nd (bO (CB rfl) rfl T.Qu boot_max (@af _ _ _ _ _ (ae 1) (@af _ _ _ _ _ (@aq _ _ _ _) (@ah _) bR) bg)) rfl (by first|exact Or.inl rfl|exact Or.inr rfl) rfl (by first|exact .inl rfl|exact .inr rfl|assumption))
   (@au _ _ _ _ _ (@bL _ _ _ _ 3 _ _ FV.nd (@ci _ _ _ _ (@ah _)) rfl (by first|exact Or.inl rfl|exact Or.inr rfl) rfl (by first|exact .inl rfl|exact .inr rfl|assumption))
   (@au _ _ _ _ _ (@bL _ _ _ _ 4 _ _ FV.nd (ae 0) rfl (by first|exact Or.inl rfl|exact Or.inr rfl) rfl (by first|exact .inl rfl|exact .inr rfl|assumption))
   (@au _ _ _ _ _ (uJ fuel (aE xI (bO dP rfl T.FU PySem.boot_len (@af _ _ _ _ _ (ae 4) (@ah _) bg)) (ae 2) (aM _)) (@au _ _ _ _ _ (@aY _ _ _ _ (eW PySem.F.slot_list_append PySem.F.type_list_append eh (ae 3) (@af _ _ _ _ _ (@b8 _ _ _ _ _ (@af _ _ _ _ _ (@aq _ _ _ _) (@af _ _ _ _ _ (cH Lq (ae 4) dz (cu (ae 2))) (@ah _) cI) bR)) (@ah _) lu)) rfl)
   (@al _ _ _ (@bL _ _ _ _ 4 _ _ FV.nd (cH Lq (ae 4) (cu (ae 2)) dz) rfl (by first|exact Or.inl rfl|exact Or.inr rfl) rfl (by first|exact .inl rfl|exact .inr rfl|assumption)))))
   (@au _ _ _ _ _ (@aY _ _ _ _ (eW PySem.F.slot_list_append PySem.F.type_list_append eh (ae 3) (@af _ _ _ _ _ (@b8 _ _ _ _ _ (@af _ _ _ _ _ (@aq _ _ _ _) (@af _ _ _ _ _ (ae 4) (@ah _) bg) bR)) (@ah _) lu)) rfl)
   (@al _ _ _ (@aU _ _ _ _ (dm gC rfl T.FE boot_tuple (@af _ _ _ _ _ (ae 3) (@ah _) bg)))))))))
theorem qm:m_ ["self","message"] ["self","message"] (h_ jR):=FD
def iY(G:Cs):EL:=(aN (bx (Ij kT (aA G.c_ a_ 2 (aa 0)) (ac (aa 1) ai)))
 (Fd (ao (f_ Gr (aA G.c_ a_ 5 (aa 0)) (dC (.str "shut")))) (bx (Ij si (aA G.c_ a_ 6 (aa 0)) (ac (am dM (ac (aa 1) (ac (aA G.c_ a_ 1 (aa 0)) ai))) ai))) bE))
def d7(G:Cs):List D->M D:=mF 2 (iY G)
theorem qv{G:Cs}(T:Txt K mg G)(Hn:Gm P w K mg base (w_ P w) "pieces_of" 1 ["message","most"] dM){f:Addr}{fd:FuncData}(F:Fj K "hand" "Sender.hand" jR f fd):Fq P w K mg base (w_ P w) 2 f fd ["self","message"] (d7 G):=by
 refine fE F qm fun EC A outer s H E hr=>?_
 have hu:=hr.units;exact(@au _ _ _ _ _ (@aY _ _ _ _ (eW PySem.F.slot_list_append PySem.F.type_list_append eh (aI T.i_ T.FP aJ (ae 0)) (@af _ _ _ _ _ (ae 1) (@ah _) bg)) rfl)
   (@al _ _ _ (bq (aE (mJ hu) (aI T.i_ T.y_ aJ (ae 0)) (@aH _ _ _ _) (aM _)) (@al _ _ _ (@aY _ _ _ _ (eW PySem.F.slot_list_extend PySem.F.type_list_extend oG (aI T.i_ T.EA aJ (ae 0)) (@af _ _ _ _ _ (aO Hn (hr.mono (by decide)) rfl aK (@af _ _ _ _ _ (ae 1) (af (aI T.i_ T.Gu aJ (ae 0)) (@ah _)) bg) (ak (ak aF))) (@ah _) ju)) rfl)) ba)))
theorem rZ:m_ ["self","message"] ["self","message"] (h_ kF):=FD
def jP(G:Cs):EL:=(bx (aV G.c_ a_ (d7 G) (aA G.World k_ 0 (aa 0)) (ac (aa 1) ai)))
def iQ(G:Cs):List D->M D:=mF 2 (jP G)
theorem rE{G:Cs}(T:Txt K mg G)(GK:EW P w K mg base (w_ P w) G.c_ "hand" 2 ["self","message"] (d7 G)){f:Addr}{fd:FuncData}(F:Fj K "hand" "World.hand" kF f fd):Fq P w K mg base (w_ P w) 3 f fd ["self","message"] (iQ G):=by
 refine fE F rZ fun EC A outer s H E hr=>?_
 have hu:=hr.units;exact(@al _ _ _ (@aY _ _ _ _ (bD GK (hr.mono (by decide)) T.i_ (by decide +kernel) aK (aI T.tB T.EJ bY (ae 0)) (@af _ _ _ _ _ (ae 1) (@ah _) bg) (dO (ak aF))) rfl))
theorem He:m_ ["_law_cell_here","_law_longest","_law_many"] ["_law_cell_here","_law_longest"] (h_ ji):=FD
def ij:EL:=(aN (cj (am aC (ac (aa 0) (ac (dC (.int 9973)) (ac (f_ bJ (aa 1) (dC (.int 1))) ai)))) (gN 2))
 (bP (am eJ (ac (eE (sK (aa 2)) (gN 0) gD (am aC (ac (f_ bJ (aa 1) (f_ iP (dC (.int 31)) (aa 0))) (ac (dC (.int 9967)) (ac (dC (.int 256)) ai)))) 1 [0]) ai))))
def dL:List D->M D:=mP 3 ij
theorem pF{G:Cs}(T:Txt K mg G)(D_:Gm P w K mg base (w_ P w) "_law_mix" 1 ["_law_cell_here","_law_prime","_law_many"] aC){f:Addr}{fd:FuncData}(F:Fj K "_law_message" "_law_message" ji f fd):Fq P w K mg base (w_ P w) 2 f fd ["_law_cell_here","_law_longest"] dL:=by
 refine fG F He fun EC A outer s H E hr=>?_
 have hu:=hr.units;exact(@au _ _ _ _ _ (@bL _ _ _ _ 2 _ _ He.nd (aO D_ (hr.mono (by decide)) rfl aK (@af _ _ _ _ _ (ae 0) (@af _ _ _ _ _ (@aq _ _ _ _) (@af _ _ _ _ _ (@bC _ _ _ _ _ _ _ _ bX (ae 1) (@aq _ _ _ _)) (@ah _) tR) bR) bg) (ak (ak (ak aF)))) rfl (by first|exact Or.inl rfl|exact Or.inr rfl) rfl (by first|exact .inl rfl|exact .inr rfl|assumption))
   (@al _ _ _ (@aU _ _ _ _ (dm gC rfl T.FE boot_tuple (@af _ _ _ _ _ (fF (own:=["_law_k"]) (capN:=["_law_cell_here"]) (caps:=[0]) ⟨rfl,HB.all ⟨rfl,trivial⟩,rfl,by decide +kernel,rfl,by decide +kernel,⟨⟨rfl,Or.inl rfl,Or.inl rfl,rfl⟩,trivial⟩,by decide +kernel⟩ rfl (q7 rfl T.Kp (ae 2)) (gn (by decide)) (fun C s2 H2 fp=>⟨(cq (i:=0) (show(["_law_k","_law_cell_here"]:List Str).Nodup from by decide +kernel)),jl,(aO D_ (hr.mono (by decide)) rfl aK (@af _ _ _ _ _ (@bC _ _ _ _ _ _ _ _ bX (ae 1) (@bC _ _ _ _ _ _ _ _ lz (@aq _ _ _ _) (ae 0))) (@af _ _ _ _ _ (@aq _ _ _ _) (@af _ _ _ _ _ (@aq _ _ _ _) (@ah _) bR) bR) tR) (ak (ak (ak aF))))⟩)) (@ah _) sZ)))))
theorem Gv:m_ ["cells","summed","weighed"] ["cells"] (h_ jE):=FD
def jp:EL:=(aN (cj (f_ bJ (aa 0) (cf (ac (f_ jo (am oo (ac (aa 0) ai)) (dC (.int 256))) ai))) (gN 1))
 (aN (cj (am oo (ac (eE (tU 1 (aa 1)) (gT [0,1]) gD (f_ iP (aa 0) (aa 1)) 2 []) ai)) (gN 2))
 (bP (f_ bJ (aa 1) (cf (ac (f_ jo (aa 2) (dC (.int 256))) ai))))))
def cN:List D->M D:=mP 3 jp
theorem qO{G:Cs}(T:Txt K mg G){f:Addr}{fd:FuncData}(F:Fj K "with_checks" "with_checks" jE f fd):Fq P w K mg base (w_ P w) 1 f fd ["cells"] cN:=by
 refine fG F Gv fun EC A outer s H E hr=>?_
 have hu:=hr.units;exact(@au _ _ _ _ _ (@bL _ _ _ _ 1 _ _ Gv.nd (@bC _ _ _ _ _ _ _ _ bX (ae 0) (@b8 _ _ _ _ _ (@af _ _ _ _ _ (@bC _ _ _ _ _ _ _ _ iA (bO (wJ rfl) rfl T.MS boot_sum (@af _ _ _ _ _ (ae 0) (@ah _) bg)) (@aq _ _ _ _)) (@ah _) tR))) rfl (by first|exact Or.inl rfl|exact Or.inr rfl) rfl (by first|exact .inl rfl|exact .inr rfl|assumption))
   (@au _ _ _ _ _ (@bL _ _ _ _ 2 _ _ Gv.nd (bO (wJ rfl) rfl T.MS boot_sum (@af _ _ _ _ _ (fF (own:=["place","cell"]) (capN:=[]) (caps:=[]) ⟨rfl,HB.all trivial,rfl,by decide +kernel,rfl,by decide +kernel,trivial,by decide +kernel⟩ rfl (xZ rfl T.IK (ae 1)) (As (by decide)) (fun C s2 H2 fp=>⟨(wx rfl (j5 (cq (i:=0) (show(["place","cell"]:List Str).Nodup from by decide +kernel)) (j5 (cq (i:=1) (show(["place","cell"]:List Str).Nodup from by decide +kernel)) um))),jl,(@bC _ _ _ _ _ _ _ _ lz (ae 0) (ae 1))⟩)) (@ah _) sZ)) rfl (by first|exact Or.inl rfl|exact Or.inr rfl) rfl (by first|exact .inl rfl|exact .inr rfl|assumption))
   (@al _ _ _ (@aU _ _ _ _ (@bC _ _ _ _ _ _ _ _ bX (ae 1) (@b8 _ _ _ _ _ (@af _ _ _ _ _ (@bC _ _ _ _ _ _ _ _ iA (ae 2) (@aq _ _ _ _)) (@ah _) tR)))))))
theorem uV:m_ ["thing","top"] ["thing","top"] (h_ mX):=FD
def lQ:EL:=(bP (jC (Jv "int" (aa 0)) (jC (xi (Jv "bool" (aa 0))) (oQ LZ LZ (dC (.int 0)) (aa 0) (aa 1)))))
def aZ:List D->M D:=mF 2 lQ
theorem uG{G:Cs}(T:Txt K mg G){f:Addr}{fd:FuncData}(F:Fj K "is_whole" "is_whole" mX f fd):Fq P w K mg base (w_ P w) 1 f fd ["thing","top"] aZ:=by
 refine fE F uV fun EC A outer s H E hr=>?_
 have hu:=hr.units;exact(@al _ _ _ (@aU _ _ _ _ (kI (fW (ae 0) rfl T.Fh rfl T.OB boot_int (w5 _)) (kI (Ab (fW (ae 0) rfl T.Fh rfl T.MR boot_bool (u8 _))) (mR (qT qo qo (@aq _ _ _ _) (ae 0) (ae 1)))))))
theorem ye:m_ ["thing","top"] ["thing","top"] (h_ qe):=FD
def oO:EL:=(bP (jC (Jv "tuple" (aa 0)) (am zK (ac (eE (Hd (aa 0)) (gN 0) gD (am aZ (ac (aa 0) (ac (aa 1) ai))) 1 [1]) ai))))
def cm:List D->M D:=mP 2 oO
theorem yu{G:Cs}(T:Txt K mg G)(F_:Gm P w K mg base (w_ P w) "is_whole" 1 ["thing","top"] aZ){f:Addr}{fd:FuncData}(F:Fj K "is_row" "is_row" qe f fd):Fq P w K mg base (w_ P w) 2 f fd ["thing","top"] cm:=by
 refine fG F ye fun EC A outer s H E hr=>?_
 have hu:=hr.units;exact(@al _ _ _ (@aU _ _ _ _ (kI (fW (ae 0) rfl T.Fh rfl T.FE boot_tuple (mi _)) (mR (bO (BY rfl) rfl T.Qt boot_all (@af _ _ _ _ _ (fF (own:=["part"]) (capN:=["top"]) (caps:=[1]) ⟨rfl,HB.all ⟨rfl,trivial⟩,rfl,by decide +kernel,rfl,by decide +kernel,⟨⟨rfl,Or.inl rfl,Or.inl rfl,rfl⟩,trivial⟩,by decide +kernel⟩ rfl (eB (ae 0)) (gn (by decide)) (fun C s2 H2 fp=>⟨(cq (i:=0) (show(["part","top"]:List Str).Nodup from by decide +kernel)),jl,(aO F_ (hr.mono (by decide)) rfl aK (@af _ _ _ _ _ (ae 0) (@af _ _ _ _ _ (ae 1) (@ah _) bg) bg) (ak (ak aF)))⟩)) (@ah _) sZ))))))
theorem vB:m_ ["thing"] ["thing"] (h_ nk):=FD
def ia:EL:=(aN (Fd (G9 (dc (bW (Jv "tuple" (aa 0)))) (ao (f_ Gr (am bG (ac (aa 0) ai)) (dC (.int 2))))) (bP (dC (.bl false))) bE)
 (bP (jC (am aZ (ac (f_ t_ (aa 0) (dC (.int 0))) (ac (dC (.int 1)) ai))) (jC (am cm (ac (f_ t_ (aa 0) (dC (.int 1))) (ac (dC Fb) ai))) (f_ LZ (am bG (ac (f_ t_ (aa 0) (dC (.int 1))) ai)) (dC Fg))))))
def jk:List D->M D:=mP 1 ia
theorem vt{G:Cs}(T:Txt K mg G)(F_:Gm P w K mg base (w_ P w) "is_whole" 1 ["thing","top"] aZ)(Ho:Gm P w K mg base (w_ P w) "is_row" 2 ["thing","top"] cm){f:Addr}{fd:FuncData}(F:Fj K "is_piece" "is_piece" nk f fd):Fq P w K mg base (w_ P w) 3 f fd ["thing"] jk:=by
 refine fG F vB fun EC A outer s H E hr=>?_
 have hu:=hr.units;exact(@au _ _ _ _ _ (bq (Ir.pt (kf (fD (cL (fW (ae 0) rfl T.Fh rfl T.FE boot_tuple (mi _)))) (kM (aE (mJ hu) (bO dP rfl T.FU PySem.boot_len (@af _ _ _ _ _ (ae 0) (@ah _) bg)) (@aq _ _ _ _) (aM _))))) (@al _ _ _ (@aU _ _ _ _ (@iG _ _ _ _))) ba)
   (@al _ _ _ (@aU _ _ _ _ (kI (aO F_ (hr.mono (by decide)) rfl aK (@af _ _ _ _ _ (aD EY (ae 0) (@aq _ _ _ _) (fun _ _=>rfl)) (@af _ _ _ _ _ (@aq _ _ _ _) (@ah _) bR) cI) (ak (ak aF))) (kI (aO Ho (hr.mono (by decide)) rfl aK (@af _ _ _ _ _ (aD EY (ae 0) (@aq _ _ _ _) (fun _ _=>rfl)) (@af _ _ _ _ _ (dE rfl T.Ji) (@ah _) bg) cI) (ak (ak aF))) (mR (qJ qo (bO dP rfl T.FU PySem.boot_len (@af _ _ _ _ _ (aD EY (ae 0) (@aq _ _ _ _) (fun _ _=>rfl)) (@ah _) cI)) (dE rfl T.Hm) (aM _))))))))
theorem vp:m_ ["thing"] ["thing"] (h_ m5):=FD
def hV:EL:=(bP (jC (am cm (ac (aa 0) (ac (dC (.int 1)) ai))) (f_ LZ (am bG (ac (aa 0) ai)) (dC GH))))
def jm:List D->M D:=mP 1 hV
theorem vh{G:Cs}(T:Txt K mg G)(Ho:Gm P w K mg base (w_ P w) "is_row" 2 ["thing","top"] cm){f:Addr}{fd:FuncData}(F:Fj K "are_bits" "are_bits" m5 f fd):Fq P w K mg base (w_ P w) 3 f fd ["thing"] jm:=by
 refine fG F vp fun EC A outer s H E hr=>?_
 have hu:=hr.units;exact(@al _ _ _ (@aU _ _ _ _ (kI (aO Ho (hr.mono (by decide)) rfl aK (@af _ _ _ _ _ (ae 0) (@af _ _ _ _ _ (@aq _ _ _ _) (@ah _) bR) bg) (ak (ak aF))) (mR (qJ qo (bO dP rfl T.FU PySem.boot_len (@af _ _ _ _ _ (ae 0) (@ah _) bg)) (dE rfl T.K8) (aM _))))))
theorem wn:m_ ["thing"] ["thing"] (h_ ox):=FD
def fM:EL:=(aN (Fd (G9 (dc (bW (Jv "tuple" (aa 0)))) (G9 (ao (f_ Hl (am bG (ac (aa 0) ai)) (dC (.int 2)))) (dc (bW (am aZ (ac (f_ t_ (aa 0) (dC (.int 1))) (ac (dC E6) ai))))))) (bP (dC (.bl false))) bE)
 (aN (Fd (ao (f_ inD (f_ t_ (aa 0) (dC (.int 0))) (dC fA))) (bP (f_ EE (am bG (ac (aa 0) ai)) (dC (.int 2)))) bE)
 (aN (Fd (G9 (ao (f_ Gr (am bG (ac (aa 0) ai)) (dC (.int 4)))) (dc (bW (am aZ (ac (f_ t_ (aa 0) (dC (.int 2))) (ac (dC EM) ai)))))) (bP (dC (.bl false))) bE)
 (aN (Fd (ao (f_ EE (f_ t_ (aa 0) (dC (.int 0))) (dC (.str "data")))) (bP (am jk (ac (f_ t_ (aa 0) (dC (.int 3))) ai))) bE)
 (bP (jC (f_ EE (f_ t_ (aa 0) (dC (.int 0))) (dC (.str "note"))) (am jm (ac (f_ t_ (aa 0) (dC (.int 3))) ai))))))))
def dl:List D->M D:=mP 1 fM
theorem wt{G:Cs}(T:Txt K mg G)(F_:Gm P w K mg base (w_ P w) "is_whole" 1 ["thing","top"] aZ)(LH:Gm P w K mg base (w_ P w) "is_piece" 3 ["thing"] jk)(LI:Gm P w K mg base (w_ P w) "are_bits" 3 ["thing"] jm){f:Addr}{fd:FuncData}(F:Fj K "is_card" "is_card" ox f fd):Fq P w K mg base (w_ P w) 4 f fd ["thing"] dl:=by
 refine fG F wn fun EC A outer s H E hr=>?_
 have hu:=hr.units;exact(@au _ _ _ _ _ (bq (Ir.pt (kf (fD (cL (fW (ae 0) rfl T.Fh rfl T.FE boot_tuple (mi _)))) (kf (aE lc (bO dP rfl T.FU PySem.boot_len (@af _ _ _ _ _ (ae 0) (@ah _) bg)) (@aq _ _ _ _) (aM _)) (kM (fD (cL (aO F_ (hr.mono (by decide)) rfl aK (@af _ _ _ _ _ (aD EY (ae 0) (@aq _ _ _ _) (fun _ _=>rfl)) (@af _ _ _ _ _ (dE rfl T.JG) (@ah _) bg) cI) (ak (ak aF))))))))) (@al _ _ _ (@aU _ _ _ _ (@iG _ _ _ _))) ba)
   (@au _ _ _ _ _ (bq (aE (Dp hu) (aD EY (ae 0) (@aq _ _ _ _) (fun _ _=>rfl)) (dE rfl T.JF.glob) (by with_unfolding_all rfl)) (@al _ _ _ (@aU _ _ _ _ (qJ (b9 hu) (bO dP rfl T.FU PySem.boot_len (@af _ _ _ _ _ (ae 0) (@ah _) bg)) (@aq _ _ _ _) (aM _)))) ba)
   (@au _ _ _ _ _ (bq (Ir.pt (kf (aE (mJ hu) (bO dP rfl T.FU PySem.boot_len (@af _ _ _ _ _ (ae 0) (@ah _) bg)) (@aq _ _ _ _) (aM _)) (kM (fD (cL (aO F_ (hr.mono (by decide)) rfl aK (@af _ _ _ _ _ (aD EY (ae 0) (@aq _ _ _ _) (fun _ _=>rfl)) (@af _ _ _ _ _ (dE rfl T.Kr) (@ah _) bg) cI) (ak (ak aF)))))))) (@al _ _ _ (@aU _ _ _ _ (@iG _ _ _ _))) ba)
   (@au _ _ _ _ _ (bq (aE (b9 hu) (aD EY (ae 0) (@aq _ _ _ _) (fun _ _=>rfl)) (@aH _ _ _ _) (aM _)) (@al _ _ _ (@aU _ _ _ _ (aO LH (hr.mono (by decide)) rfl aK (@af _ _ _ _ _ (aD EY (ae 0) (@aq _ _ _ _) (fun _ _=>rfl)) (@ah _) cI) (ak aF)))) ba)
   (@al _ _ _ (@aU _ _ _ _ (kI (qJ (b9 hu) (aD EY (ae 0) (@aq _ _ _ _) (fun _ _=>rfl)) (@aH _ _ _ _) (aM _)) (mR (aO LI (hr.mono (by decide)) rfl aK (@af _ _ _ _ _ (aD EY (ae 0) (@aq _ _ _ _) (fun _ _=>rfl)) (@ah _) cI) (ak aF))))))))))
theorem IL:m_ ["card","head"] ["card"] (h_ nr):=FD
def lF:EL:=(aN (cj (cf (ac (n8 eQ (ac (f_ t_ (aa 0) (dC (.int 0))) ai)) (ac (f_ zr (f_ t_ (aa 0) (dC (.int 1))) (dC (.int 256))) (ac (f_ jo (f_ t_ (aa 0) (dC (.int 1))) (dC (.int 256))) ai)))) (gN 1))
 (aN (Fd (ao (f_ EE (f_ t_ (aa 0) (dC (.int 0))) (dC (.str "data")))) (bP (f_ bJ (f_ bJ (aa 1) (cf (ac (f_ t_ (aa 0) (dC (.int 2))) (ac (f_ t_ (f_ t_ (aa 0) (dC (.int 3))) (dC (.int 0))) ai)))) (f_ t_ (f_ t_ (aa 0) (dC (.int 3))) (dC (.int 1))))) bE)
 (aN (Fd (ao (f_ EE (f_ t_ (aa 0) (dC (.int 0))) (dC (.str "note")))) (bP (f_ bJ (f_ bJ (aa 1) (cf (ac (f_ t_ (aa 0) (dC (.int 2))) ai))) (f_ t_ (aa 0) (dC (.int 3))))) bE)
 (bP (aa 1)))))
def kE:List D->M D:=mP 2 lF
theorem vk{G:Cs}(T:Txt K mg G){f:Addr}{fd:FuncData}(F:Fj K "cells_of" "cells_of" nr f fd):Fq P w K mg base (w_ P w) 1 f fd ["card"] kE:=by
 refine fG F IL fun EC A outer s H E hr=>?_
 have hu:=hr.units;exact(@au _ _ _ _ _ (@bL _ _ _ _ 1 _ _ IL.nd (@b8 _ _ _ _ _ (af (wb rfl T.Kq (@af _ _ _ _ _ (aD EY (ae 0) (@aq _ _ _ _) (fun _ _=>rfl)) (@ah _) cI)) (@af _ _ _ _ _ (@bC _ _ _ _ _ _ _ _ AA (aD EY (ae 0) (@aq _ _ _ _) (fun _ _=>rfl)) (@aq _ _ _ _)) (@af _ _ _ _ _ (@bC _ _ _ _ _ _ _ _ iA (aD EY (ae 0) (@aq _ _ _ _) (fun _ _=>rfl)) (@aq _ _ _ _)) (@ah _) tR) tR))) rfl (by first|exact Or.inl rfl|exact Or.inr rfl) rfl (by first|exact .inl rfl|exact .inr rfl|assumption))
   (@au _ _ _ _ _ (bq (aE (b9 hu) (aD EY (ae 0) (@aq _ _ _ _) (fun _ _=>rfl)) (@aH _ _ _ _) (aM _)) (@al _ _ _ (@aU _ _ _ _ (@bC _ _ _ _ _ _ _ _ bX (@bC _ _ _ _ _ _ _ _ bX (ae 1) (@b8 _ _ _ _ _ (@af _ _ _ _ _ (aD EY (ae 0) (@aq _ _ _ _) (fun _ _=>rfl)) (@af _ _ _ _ _ (aD EY (aD EY (ae 0) (@aq _ _ _ _) (fun _ _=>rfl)) (@aq _ _ _ _) (fun _ _=>rfl)) (@ah _) cI) cI))) (aD EY (aD EY (ae 0) (@aq _ _ _ _) (fun _ _=>rfl)) (@aq _ _ _ _) (fun _ _=>rfl))))) ba)
   (@au _ _ _ _ _ (bq (aE (b9 hu) (aD EY (ae 0) (@aq _ _ _ _) (fun _ _=>rfl)) (@aH _ _ _ _) (aM _)) (@al _ _ _ (@aU _ _ _ _ (@bC _ _ _ _ _ _ _ _ bX (@bC _ _ _ _ _ _ _ _ bX (ae 1) (@b8 _ _ _ _ _ (@af _ _ _ _ _ (aD EY (ae 0) (@aq _ _ _ _) (fun _ _=>rfl)) (@ah _) cI))) (aD EY (ae 0) (@aq _ _ _ _) (fun _ _=>rfl))))) ba)
   (@al _ _ _ (@aU _ _ _ _ (ae 1))))))
theorem wj:m_ ["card"] ["card"] (h_ oI):=FD
def nu(G:Cs):EL:=(aN (Fd (dc (bW (am dl (ac (aa 0) ai)))) (oy G.MQ (dC (.str "this is no card"))) bE)
 (bP (am cN (ac (am kE (ac (aa 0) ai)) ai))))
def cP(G:Cs):List D->M D:=mP 1 (nu G)
theorem vO{G:Cs}(T:Txt K mg G)(IA:Gm P w K mg base (w_ P w) "is_card" 4 ["thing"] dl)(LJ:Gm P w K mg base (w_ P w) "cells_of" 1 ["card"] kE)(GL:Gm P w K mg base (w_ P w) "with_checks" 1 ["cells"] cN){f:Addr}{fd:FuncData}(F:Fj K "written" "written" oI f fd):Fq P w K mg base (w_ P w) 5 f fd ["card"] (cP G):=by
 refine fG F wj fun EC A outer s H E hr=>?_
 have hu:=hr.units;exact(@au _ _ _ _ _ (bq (fD (cL (aO IA (hr.mono (by decide)) rfl aK (@af _ _ _ _ _ (ae 0) (@ah _) bg) (ak aF)))) (@al _ _ _ (ol T.MT rfl rfl (@aH _ _ _ _))) ba)
   (@al _ _ _ (@aU _ _ _ _ (aO GL (hr.mono (by decide)) rfl aK (@af _ _ _ _ _ (aO LJ (hr.mono (by decide)) rfl aK (@af _ _ _ _ _ (ae 0) (@ah _) bg) (ak aF)) (@ah _) ju) (ak aF)))))
theorem Gi:m_ ["self","road","cards","card"] ["self","road","cards"] (h_ fT):=FD
def ei(G:Cs):EL:=(bx (Ij kT (f_ bV (aA G.World k_ 2 (aa 0)) (aa 1)) (ac (cf (ac (am (cP G) (ac (aa 3) ai)) (ac (dC (.bl false)) ai))) ai)))
def eZ(G:Cs):EL:=(qI (Hd (aa 2)) (gN 3) (ei G))
def ca(G:Cs):List D->M D:=mF 4 (eZ G)
theorem mt{G:Cs}(T:Txt K mg G)(Gs:Gm P w K mg base (w_ P w) "written" 5 ["card"] (cP G)){f:Addr}{fd:FuncData}(F:Fj K "put_behind" "World.put_behind" fT f fd):Fq P w K mg base (w_ P w) 6 f fd ["self","road","cards"] (ca G):=by
 refine fE F Gi fun EC A outer s H E hr=>?_
 have hu:=hr.units;exact(@al _ _ _ (mY rfl (eB (ae 2)) (cq (i:=3) Gi.nd) (@al _ _ _ (@aY _ _ _ _ (eW PySem.F.slot_list_append PySem.F.type_list_append eh (aD (fX hu) (aI T.tB T.Ex bY (ae 0)) (ae 1) (fun _ _=>rfl)) (@af _ _ _ _ _ (@b8 _ _ _ _ _ (@af _ _ _ _ _ (aO Gs (hr.mono (by decide)) rfl aK (@af _ _ _ _ _ (ae 3) (@ah _) bg) (ak aF)) (@af _ _ _ _ _ (@iG _ _ _ _) (@ah _) bR) ju)) (@ah _) lu)) rfl))))
theorem ua:m_ ["index","window"] ["index","window"] (h_ lH):=FD
def nD:EL:=(bP (f_ jo (aa 0) (f_ iP (dC (.int 2)) (aa 1))))
def eL:List D->M D:=mF 2 nD
theorem tZ{G:Cs}(T:Txt K mg G){f:Addr}{fd:FuncData}(F:Fj K "number_of" "number_of" lH f fd):Fq P w K mg base (w_ P w) 1 f fd ["index","window"] eL:=by
 refine fE F ua fun EC A outer s H E hr=>?_
 have hu:=hr.units;exact(@al _ _ _ (@aU _ _ _ _ (@bC _ _ _ _ _ _ _ _ iA (ae 0) (@bC _ _ _ _ _ _ _ _ lz (@aq _ _ _ _) (ae 1)))))
theorem nQ:m_ ["self","index"] ["self","index"] (h_ gL):=FD
def gl(G:Cs):EL:=(bP (cf (ac (dC (.str "data")) (ac (aA G.c_ a_ 4 (aa 0)) (ac (am eL (ac (aa 1) (ac (aA G.c_ a_ 0 (aa 0)) ai))) (ac (f_ t_ (aA G.c_ a_ 6 (aa 0)) (aa 1)) ai))))))
def dI(G:Cs):List D->M D:=mF 2 (gl G)
theorem nJ{G:Cs}(T:Txt K mg G)(Hq:Gm P w K mg base (w_ P w) "number_of" 1 ["index","window"] eL){f:Addr}{fd:FuncData}(F:Fj K "data_of" "Sender.data_of" gL f fd):Fq P w K mg base (w_ P w) 2 f fd ["self","index"] (dI G):=by
 refine fE F nQ fun EC A outer s H E hr=>?_
 have hu:=hr.units;exact(@al _ _ _ (@aU _ _ _ _ (@b8 _ _ _ _ _ (@af _ _ _ _ _ (@aH _ _ _ _) (af (aI T.i_ T.EO aJ (ae 0)) (@af _ _ _ _ _ (aO Hq (hr.mono (by decide)) rfl aK (@af _ _ _ _ _ (ae 1) (af (aI T.i_ T.E9 aJ (ae 0)) (@ah _)) bg) (ak (ak aF))) (@af _ _ _ _ _ (aD EY (aI T.i_ T.EA aJ (ae 0)) (ae 1) (fun _ _=>rfl)) (@ah _) cI) ju)) bR))))
theorem G2:m_ ["self","end"] ["self"] (h_ iw):=FD
def gO(G:Cs):EL:=(aN (cj (am yE (ac (f_ bJ (aA G.c_ a_ 7 (aa 0)) (aA G.c_ a_ 0 (aa 0))) (ac (am bG (ac (aA G.c_ a_ 6 (aa 0)) ai)) ai))) (gN 1))
 (bP (eE (wZ (aA G.c_ a_ 7 (aa 0)) (aa 1)) (gN 0) (ao (f_ fY (aa 0) (aA G.c_ a_ 8 (aa 1)))) (aa 0) 1 [0])))
def d3(G:Cs):List D->M D:=mF 2 (gO G)
theorem oP{G:Cs}(T:Txt K mg G){f:Addr}{fd:FuncData}(F:Fj K "wanted" "Sender.wanted" iw f fd):Fq P w K mg base (w_ P w) 1 f fd ["self"] (d3 G):=by
 refine fE F G2 fun EC A outer s H E hr=>?_
 have hu:=hr.units;exact(@au _ _ _ _ _ (@bL _ _ _ _ 1 _ _ G2.nd (bO (zj rfl) rfl T.OC boot_min (@af _ _ _ _ _ (@bC _ _ _ _ _ _ _ _ bX (aI T.i_ T.EG aJ (ae 0)) (aI T.i_ T.E9 aJ (ae 0))) (@af _ _ _ _ _ (bO dP rfl T.FU PySem.boot_len (af (aI T.i_ T.EA aJ (ae 0)) (@ah _))) (@ah _) ju) tR)) rfl (by first|exact Or.inl rfl|exact Or.inr rfl) rfl (by first|exact .inl rfl|exact .inr rfl|assumption))
   (@al _ _ _ (@aU _ _ _ _ (fF (own:=["index"]) (capN:=["self"]) (caps:=[0]) ⟨rfl,HB.all ⟨rfl,trivial⟩,rfl,by decide +kernel,rfl,by decide +kernel,⟨⟨rfl,Or.inl rfl,Or.inl rfl,rfl⟩,trivial⟩,by decide +kernel⟩ rfl (wH rfl T.Kp (aI T.i_ T.EG aJ (ae 0)) (ae 1)) (gn (by decide)) (fun C s2 H2 fp=>⟨(cq (i:=0) (show(["index","self"]:List Str).Nodup from by decide +kernel)),(CH (aE (sI hu) (ae 0) (aI T.i_ T.FK aJ (ae 1)) (by with_unfolding_all rfl))),(ae 0)⟩)))))
theorem qP:m_ ["self"] ["self"] (h_ jK):=FD
def iS(G:Cs):EL:=(aN (Fd (ao (f_ EE (aA G.c_ a_ 5 (aa 0)) (dC (.str "opening")))) (bP (bZ (ac (cf (ac (dC (.str "hello")) (ac (aA G.c_ a_ 4 (aa 0)) ai))) ai))) bE)
 (aN (Fd (ao (f_ EE (aA G.c_ a_ 5 (aa 0)) (dC (.str "open")))) (bP (eE (Hd (aV G.c_ a_ (d3 G) (aa 0) ai)) (gN 0) gD (aV G.c_ a_ (dI G) (aa 1) (ac (aa 0) ai)) 1 [0])) bE)
 (bP (bZ ai))))
def cO(G:Cs):List D->M D:=mF 1 (iS G)
theorem qW{G:Cs}(T:Txt K mg G)(IT:EW P w K mg base (w_ P w) G.c_ "wanted" 1 ["self"] (d3 G))(IC:EW P w K mg base (w_ P w) G.c_ "data_of" 2 ["self","index"] (dI G)){f:Addr}{fd:FuncData}(F:Fj K "tick" "Sender.tick" jK f fd):Fq P w K mg base (w_ P w) 3 f fd ["self"] (cO G):=by
 refine fE F qP fun EC A outer s H E hr=>?_
 have hu:=hr.units;exact(@au _ _ _ _ _ (bq (aE (b9 hu) (aI T.i_ T.y_ aJ (ae 0)) (@aH _ _ _ _) (aM _)) (@al _ _ _ (@aU _ _ _ _ (@ci _ _ _ _ (@af _ _ _ _ _ (@b8 _ _ _ _ _ (@af _ _ _ _ _ (@aH _ _ _ _) (af (aI T.i_ T.EO aJ (ae 0)) (@ah _)) bR)) (@ah _) lu)))) ba)
   (@au _ _ _ _ _ (bq (aE (b9 hu) (aI T.i_ T.y_ aJ (ae 0)) (@aH _ _ _ _) (aM _)) (@al _ _ _ (@aU _ _ _ _ (fF (own:=["index"]) (capN:=["self"]) (caps:=[0]) ⟨rfl,HB.all ⟨rfl,trivial⟩,rfl,by decide +kernel,rfl,by decide +kernel,⟨⟨rfl,Or.inl rfl,Or.inl rfl,rfl⟩,trivial⟩,by decide +kernel⟩ rfl (eB (ck IT (hr.mono (by decide)) T.i_ (by decide +kernel) aK (ae 0))) (gn (by decide)) (fun C s2 H2 fp=>⟨(cq (i:=0) (show(["index","self"]:List Str).Nodup from by decide +kernel)),jl,(bD IC (hr.mono (by decide)) T.i_ (by decide +kernel) aK (ae 1) (@af _ _ _ _ _ (ae 0) (@ah _) bg) (dO (ak aF)))⟩)))) ba)
   (@al _ _ _ (@aU _ _ _ _ (@ci _ _ _ _ (@ah _))))))
theorem sg:m_ ["self"] ["self"] (h_ kK):=FD
def jN(G:Cs):EL:=(bx (aV G.World k_ (ca G) (aa 0) (ac (dC (.str "there")) (ac (aV G.c_ a_ (cO G) (aA G.World k_ 0 (aa 0)) ai) ai))))
def iJ(G:Cs):List D->M D:=mF 1 (jN G)
theorem rX{G:Cs}(T:Txt K mg G)(GN:EW P w K mg base (w_ P w) G.c_ "tick" 3 ["self"] (cO G))(Fu:EW P w K mg base (w_ P w) G.World "put_behind" 6 ["self","road","cards"] (ca G)){f:Addr}{fd:FuncData}(F:Fj K "tick" "World.tick" kK f fd):Fq P w K mg base (w_ P w) 7 f fd ["self"] (iJ G):=by
 refine fE F sg fun EC A outer s H E hr=>?_
 have hu:=hr.units;exact(@al _ _ _ (@aY _ _ _ _ (bD Fu (hr.mono (by decide)) T.tB (by decide +kernel) aK (ae 0) (@af _ _ _ _ _ (@aH _ _ _ _) (af (ck GN (hr.mono (by decide)) T.i_ (by decide +kernel) aK (aI T.tB T.EJ bY (ae 0))) (@ah _)) bR) (dO (ak (ak aF)))) rfl))
theorem mQ:m_ ["self","road","k"] ["self","road","k"] (h_ gu):=FD
def fP(G:Cs):EL:=(bP (oQ LZ Hl (dC (.int 0)) (aa 2) (am bG (ac (f_ bV (aA G.World k_ 2 (aa 0)) (aa 1)) ai))))
def bf(G:Cs):List D->M D:=mF 3 (fP G)
theorem nw{G:Cs}(T:Txt K mg G){f:Addr}{fd:FuncData}(F:Fj K "has_strip" "World.has_strip" gu f fd):Fq P w K mg base (w_ P w) 1 f fd ["self","road","k"] (bf G):=by
 refine fE F mQ fun EC A outer s H E hr=>?_
 have hu:=hr.units;exact(@al _ _ _ (@aU _ _ _ _ (qT qo lc (@aq _ _ _ _) (ae 2) (bO dP rfl T.FU PySem.boot_len (@af _ _ _ _ _ (aD (fX hu) (aI T.tB T.Ex bY (ae 0)) (ae 1) (fun _ _=>rfl)) (@ah _) cI)))))
theorem Gn:m_ ["cells","kind","opening","rest"] ["cells"] (h_ lV):=FD
def gA:EL:=(aN (cj (f_ t_ (dC eQ) (f_ t_ (aa 0) (dC (.int 0)))) (gN 1))
 (aN (cj (f_ bJ (f_ iP (f_ t_ (aa 0) (dC (.int 1))) (dC (.int 256))) (f_ t_ (aa 0) (dC (.int 2)))) (gN 2))
 (aN (cj (GF FZ (aa 0) (bI (dC EN)) bz) (gN 3))
 (aN (Fd (dg (ao (f_ EE (aa 1) (dC (.str "data")))) (ao (f_ IQ (am bG (ac (aa 3) ai)) (dC (.int 2))))) (bP (cf (ac (aa 1) (ac (aa 2) (ac (f_ t_ (aa 3) (dC (.int 0))) (ac (cf (ac (f_ t_ (aa 3) (dC (.int 1))) (ac (GF FZ (aa 3) (bI (dC (.int 2))) bz) ai))) ai)))))) bE)
 (aN (Fd (dg (ao (f_ EE (aa 1) (dC (.str "note")))) (ao (f_ IQ (am bG (ac (aa 3) ai)) (dC (.int 1))))) (bP (cf (ac (aa 1) (ac (aa 2) (ac (f_ t_ (aa 3) (dC (.int 0))) (ac (GF FZ (aa 3) (bI (dC (.int 1))) bz) ai)))))) bE)
 (bP (f_ bJ (cf (ac (aa 1) (ac (aa 2) ai))) (aa 3))))))))
def hW:List D->M D:=mP 4 gA
theorem tF{G:Cs}(T:Txt K mg G){f:Addr}{fd:FuncData}(F:Fj K "card_from" "card_from" lV f fd):Fq P w K mg base (w_ P w) 1 f fd ["cells"] hW:=by
 refine fG F Gn fun EC A outer s H E hr=>?_
 have hu:=hr.units;exact(@au _ _ _ _ _ (@bL _ _ _ _ 1 _ _ Gn.nd (aD EY (dE rfl T.Kq.glob) (aD EY (ae 0) (@aq _ _ _ _) (fun _ _=>rfl)) (fun _ _=>rfl)) rfl (by first|exact Or.inl rfl|exact Or.inr rfl) rfl (by first|exact .inl rfl|exact .inr rfl|assumption))
   (@au _ _ _ _ _ (@bL _ _ _ _ 2 _ _ Gn.nd (@bC _ _ _ _ _ _ _ _ bX (@bC _ _ _ _ _ _ _ _ lz (aD EY (ae 0) (@aq _ _ _ _) (fun _ _=>rfl)) (@aq _ _ _ _)) (aD EY (ae 0) (@aq _ _ _ _) (fun _ _=>rfl))) rfl (by first|exact Or.inl rfl|exact Or.inr rfl) rfl (by first|exact .inl rfl|exact .inr rfl|assumption))
   (@au _ _ _ _ _ (@bL _ _ _ _ 3 _ _ Gn.nd (cH Lq (ae 0) (cu (dE rfl T.Ik)) dz) rfl (by first|exact Or.inl rfl|exact Or.inr rfl) rfl (by first|exact .inl rfl|exact .inr rfl|assumption))
   (@au _ _ _ _ _ (bq (Ir.pt (eF (aE (b9 hu) (ae 1) (@aH _ _ _ _) (aM _)) (dG (aE va (bO dP rfl T.FU PySem.boot_len (@af _ _ _ _ _ (ae 3) (@ah _) bg)) (@aq _ _ _ _) (aM _))))) (@al _ _ _ (@aU _ _ _ _ (@b8 _ _ _ _ _ (@af _ _ _ _ _ (ae 1) (@af _ _ _ _ _ (ae 2) (@af _ _ _ _ _ (aD EY (ae 3) (@aq _ _ _ _) (fun _ _=>rfl)) (@af _ _ _ _ _ (@b8 _ _ _ _ _ (@af _ _ _ _ _ (aD EY (ae 3) (@aq _ _ _ _) (fun _ _=>rfl)) (@af _ _ _ _ _ (cH Lq (ae 3) (cu (@aq _ _ _ _)) dz) (@ah _) cI) cI)) (@ah _) lu) cI) bg) bg)))) ba)
   (@au _ _ _ _ _ (bq (Ir.pt (eF (aE (b9 hu) (ae 1) (@aH _ _ _ _) (aM _)) (dG (aE va (bO dP rfl T.FU PySem.boot_len (@af _ _ _ _ _ (ae 3) (@ah _) bg)) (@aq _ _ _ _) (aM _))))) (@al _ _ _ (@aU _ _ _ _ (@b8 _ _ _ _ _ (@af _ _ _ _ _ (ae 1) (@af _ _ _ _ _ (ae 2) (@af _ _ _ _ _ (aD EY (ae 3) (@aq _ _ _ _) (fun _ _=>rfl)) (@af _ _ _ _ _ (cH Lq (ae 3) (cu (@aq _ _ _ _)) dz) (@ah _) cI) cI) bg) bg)))) ba)
   (@al _ _ _ (@aU _ _ _ _ (@bC _ _ _ _ _ _ _ _ bX (@b8 _ _ _ _ _ (@af _ _ _ _ _ (ae 1) (@af _ _ _ _ _ (ae 2) (@ah _) bg) bg)) (ae 3)))))))))
theorem Ks:m_ ["strip","cells","card"] ["strip"] (h_ wg):=FD
def nK(G:Cs):EL:=(aN (Fd (G9 (dc (bW (am cm (ac (aa 0) (ac (dC Fb) ai))))) (G9 (ao (f_ Hl (am bG (ac (aa 0) ai)) (f_ bJ (dC EN) (dC EF)))) (ao (f_ IQ (f_ t_ (aa 0) (dC (.int 0))) (am bG (ac (dC eQ) ai)))))) (oy G.Ff (dC (.str "these are not the cells of a strip"))) bE)
 (aN (cj (GF FZ (aa 0) bz (bI (PD AY (dC EF)))) (gN 1))
 (aN (Fd (ao (f_ Gr (aa 0) (am cN (ac (aa 1) ai)))) (oy G.Ff (dC (.str "the checks do not fit the cells"))) bE)
 (aN (cj (am hW (ac (aa 1) ai)) (gN 2))
 (aN (Fd (dc (bW (am dl (ac (aa 2) ai)))) (oy G.Ff (dC (.str "the cells tell no card"))) bE)
 (bP (aa 2)))))))
def gJ(G:Cs):List D->M D:=mP 3 (nK G)
theorem A8{G:Cs}(T:Txt K mg G)(Ho:Gm P w K mg base (w_ P w) "is_row" 2 ["thing","top"] cm)(GL:Gm P w K mg base (w_ P w) "with_checks" 1 ["cells"] cN)(K9:Gm P w K mg base (w_ P w) "card_from" 1 ["cells"] hW)(IA:Gm P w K mg base (w_ P w) "is_card" 4 ["thing"] dl){f:Addr}{fd:FuncData}(F:Fj K "read" "read" wg f fd):Fq P w K mg base (w_ P w) 5 f fd ["strip"] (gJ G):=by
 refine fG F Ks fun EC A outer s H E hr=>?_
 have hu:=hr.units;exact(@au _ _ _ _ _ (bq (Ir.pt (kf (fD (cL (aO Ho (hr.mono (by decide)) rfl aK (@af _ _ _ _ _ (ae 0) (@af _ _ _ _ _ (dE rfl T.Ji) (@ah _) bg) bg) (ak (ak aF))))) (kf (aE lc (bO dP rfl T.FU PySem.boot_len (@af _ _ _ _ _ (ae 0) (@ah _) bg)) (@bC _ _ _ _ _ _ _ _ bX (dE rfl T.Ik) (dE rfl T.HF)) (aM _)) (kM (aE va (aD EY (ae 0) (@aq _ _ _ _) (fun _ _=>rfl)) (bO dP rfl T.FU PySem.boot_len (@af _ _ _ _ _ (dE rfl T.Kq.glob) (@ah _) bg)) (aM _)))))) (@al _ _ _ (ol T.G1 rfl rfl (@aH _ _ _ _))) ba)
   (@au _ _ _ _ _ (@bL _ _ _ _ 1 _ _ Ks.nd (cH Lq (ae 0) dz (cu (@CZ _ _ _ _ _ _ CL (dE rfl T.HF)))) rfl (by first|exact Or.inl rfl|exact Or.inr rfl) rfl (by first|exact .inl rfl|exact .inr rfl|assumption))
   (@au _ _ _ _ _ (bq (aE (mJ hu) (ae 0) (aO GL (hr.mono (by decide)) rfl aK (@af _ _ _ _ _ (ae 1) (@ah _) bg) (ak aF)) (aM _)) (@al _ _ _ (ol T.G1 rfl rfl (@aH _ _ _ _))) ba)
   (@au _ _ _ _ _ (@bL _ _ _ _ 2 _ _ Ks.nd (aO K9 (hr.mono (by decide)) rfl aK (@af _ _ _ _ _ (ae 1) (@ah _) bg) (ak aF)) rfl (by first|exact Or.inl rfl|exact Or.inr rfl) rfl (by first|exact .inl rfl|exact .inr rfl|assumption))
   (@au _ _ _ _ _ (bq (fD (cL (aO IA (hr.mono (by decide)) rfl aK (@af _ _ _ _ _ (ae 2) (@ah _) bg) (ak aF)))) (@al _ _ _ (ol T.G1 rfl rfl (@aH _ _ _ _))) ba)
   (@al _ _ _ (@aU _ _ _ _ (ae 2))))))))
theorem pB:m_ ["self","opening"] ["self","opening"] (h_ jg):=FD
def iy(G:Cs):EL:=(aN (kY G.g_ d_ 2 (aa 0) (aa 1))
 (aN (kY G.g_ d_ 3 (aa 0) (dC (.int 0)))
 (aN (kY G.g_ d_ 4 (aa 0) k8)
 (kY G.g_ d_ 5 (aa 0) (bZ ai)))))
def cW(G:Cs):List D->M D:=mF 2 (iy G)
theorem pz{G:Cs}(T:Txt K mg G){f:Addr}{fd:FuncData}(F:Fj K "begin" "Hearer.begin" jg f fd):Fq P w K mg base (w_ P w) 1 f fd ["self","opening"] (cW G):=by
 refine fE F pB fun EC A outer s H E hr=>?_
 have hu:=hr.units;exact(@au _ _ _ _ _ (ig T.n_ T.C_ aX (by decide) (ae 0) (ae 1))
   (@au _ _ _ _ _ (ig T.n_ T.z_ aX (by decide) (ae 0) (@aq _ _ _ _))
   (@au _ _ _ _ _ (ig T.n_ T.E2 aX (by decide) (ae 0) pW)
   (@al _ _ _ (ig T.n_ T.Fv aX (by decide) (ae 0) (@ci _ _ _ _ (@ah _)))))))
theorem lh:m_ ["self","opening"] ["self","opening"] (h_ eM):=FD
def eA(G:Cs):EL:=(aN (Fd (ao (f_ Hl (aa 1) (aA G.g_ d_ 2 (aa 0)))) (bP (bZ ai)) bE)
 (aN (Fd (ao (f_ ML (aa 1) (aA G.g_ d_ 2 (aa 0)))) (bx (aV G.g_ d_ (cW G) (aa 0) (ac (aa 1) ai))) bE)
 (bP (bZ (ac (cf (ac (dC (.str "welcome")) (ac (aa 1) ai))) ai)))))
def cA(G:Cs):List D->M D:=mF 2 (eA G)
theorem ld{G:Cs}(T:Txt K mg G)(Gw:EW P w K mg base (w_ P w) G.g_ "begin" 1 ["self","opening"] (cW G)){f:Addr}{fd:FuncData}(F:Fj K "hears_hello" "Hearer.hears_hello" eM f fd):Fq P w K mg base (w_ P w) 2 f fd ["self","opening"] (cA G):=by
 refine fE F lh fun EC A outer s H E hr=>?_
 have hu:=hr.units;exact(@au _ _ _ _ _ (bq (aE lc (ae 1) (aI T.n_ T.C_ aX (ae 0)) (aM _)) (@al _ _ _ (@aU _ _ _ _ (@ci _ _ _ _ (@ah _)))) ba)
   (@au _ _ _ _ _ (bq (aE xI (ae 1) (aI T.n_ T.C_ aX (ae 0)) (aM _)) (@al _ _ _ (@aY _ _ _ _ (bD Gw (hr.mono (by decide)) T.n_ (by decide +kernel) aK (ae 0) (@af _ _ _ _ _ (ae 1) (@ah _) bg) (dO (ak aF))) rfl)) ba)
   (@al _ _ _ (@aU _ _ _ _ (@ci _ _ _ _ (@af _ _ _ _ _ (@b8 _ _ _ _ _ (@af _ _ _ _ _ (@aH _ _ _ _) (@af _ _ _ _ _ (ae 1) (@ah _) bg) bR)) (@ah _) lu))))))
theorem rT:m_ ["number","window"] ["number","window"] (h_ kP):=FD
def jF:EL:=(bP (oQ LZ Hl (dC (.int 0)) (aa 0) (f_ iP (dC (.int 2)) (aa 1))))
def cn:List D->M D:=mF 2 jF
theorem rH{G:Cs}(T:Txt K mg G){f:Addr}{fd:FuncData}(F:Fj K "goes_round" "goes_round" kP f fd):Fq P w K mg base (w_ P w) 1 f fd ["number","window"] cn:=by
 refine fE F rT fun EC A outer s H E hr=>?_
 have hu:=hr.units;exact(@al _ _ _ (@aU _ _ _ _ (qT qo lc (@aq _ _ _ _) (ae 0) (@bC _ _ _ _ _ _ _ _ lz (@aq _ _ _ _) (ae 1)))))
theorem rR:m_ ["number","low","window"] ["number","low","window"] (h_ kH):=FD
def jI:EL:=(bP (f_ bJ (aa 1) (f_ jo (f_ rN (aa 0) (aa 1)) (f_ iP (dC (.int 2)) (aa 2)))))
def cz:List D->M D:=mF 3 jI
theorem rM{G:Cs}(T:Txt K mg G){f:Addr}{fd:FuncData}(F:Fj K "index_near" "index_near" kH f fd):Fq P w K mg base (w_ P w) 1 f fd ["number","low","window"] cz:=by
 refine fE F rR fun EC A outer s H E hr=>?_
 have hu:=hr.units;exact(@al _ _ _ (@aU _ _ _ _ (@bC _ _ _ _ _ _ _ _ bX (ae 1) (@bC _ _ _ _ _ _ _ _ iA (@bC _ _ _ _ _ _ _ _ we (ae 0) (ae 1)) (@bC _ _ _ _ _ _ _ _ lz (@aq _ _ _ _) (ae 2))))))
theorem Hs:m_ ["self","number","piece","index"] ["self","number","piece"] (h_ jW):=FD
def iT(G:Cs):EL:=(Fd (bW (am cn (ac (aa 1) (ac (aA G.g_ d_ 0 (aa 0)) ai)))) (aN (cj (am cz (ac (aa 1) (ac (f_ rN (aA G.g_ d_ 3 (aa 0)) (aA G.g_ d_ 0 (aa 0))) (ac (aA G.g_ d_ 0 (aa 0)) ai)))) (gN 3))
 (Fd (dg (ao (f_ IQ (aa 3) (aA G.g_ d_ 3 (aa 0)))) (ao (f_ fY (aa 3) (aA G.g_ d_ 4 (aa 0))))) (kt gq (aA G.g_ d_ 4 (aa 0)) (aa 3) (aa 2)) bE)) bE)
def gX(G:Cs):List D->M D:=mF 4 (iT G)
theorem qZ{G:Cs}(T:Txt K mg G)(G_:Gm P w K mg base (w_ P w) "goes_round" 1 ["number","window"] cn)(Ha:Gm P w K mg base (w_ P w) "index_near" 1 ["number","low","window"] cz){f:Addr}{fd:FuncData}(F:Fj K "keep" "Hearer.keep" jW f fd):Fq P w K mg base (w_ P w) 2 f fd ["self","number","piece"] (gX G):=by
 refine fE F Hs fun EC A outer s H E hr=>?_
 have hu:=hr.units;exact(@al _ _ _ (bq (cL (aO G_ (hr.mono (by decide)) rfl aK (@af _ _ _ _ _ (ae 1) (af (aI T.n_ T.E8 aX (ae 0)) (@ah _)) bg) (ak (ak aF)))) (@au _ _ _ _ _ (@bL _ _ _ _ 3 _ _ Hs.nd (aO Ha (hr.mono (by decide)) rfl aK (@af _ _ _ _ _ (ae 1) (@af _ _ _ _ _ (@bC _ _ _ _ _ _ _ _ we (aI T.n_ T.z_ aX (ae 0)) (aI T.n_ T.E8 aX (ae 0))) (af (aI T.n_ T.E8 aX (ae 0)) (@ah _)) tR) bg) (ak (ak (ak aF)))) rfl (by first|exact Or.inl rfl|exact Or.inr rfl) rfl (by first|exact .inl rfl|exact .inr rfl|assumption))
   (@al _ _ _ (bq (Ir.pt (eF (aE va (ae 3) (aI T.n_ T.z_ aX (ae 0)) (aM _)) (dG (aE (sI hu) (ae 3) (aI T.n_ T.E2 aX (ae 0)) (by with_unfolding_all rfl))))) (@al _ _ _ (io (iK hu) (aI T.n_ T.E2 aX (ae 0)) (ae 3) (ae 2))) ba))) ba))
theorem GO:m_ ["pieces","letters","piece"] ["pieces"] (h_ kA):=FD
def pN:EL:=(bx (Ij si (aa 1) (ac (f_ t_ (aa 2) (dC (.int 1))) ai)))
def jX:EL:=(aN (cj (bZ ai) (gN 1))
 (aN (qI (Hd (aa 0)) (gN 2) pN)
 (bP (am eJ (ac (aa 1) ai)))))
def eP:List D->M D:=mP 3 jX
theorem rQ{G:Cs}(T:Txt K mg G){f:Addr}{fd:FuncData}(F:Fj K "letters_of" "letters_of" kA f fd):Fq P w K mg base (w_ P w) 1 f fd ["pieces"] eP:=by
 refine fG F GO fun EC A outer s H E hr=>?_
 have hu:=hr.units;exact(@au _ _ _ _ _ (@bL _ _ _ _ 1 _ _ GO.nd (@ci _ _ _ _ (@ah _)) rfl (by first|exact Or.inl rfl|exact Or.inr rfl) rfl (by first|exact .inl rfl|exact .inr rfl|assumption))
   (@au _ _ _ _ _ (mY rfl (eB (ae 0)) (cq (i:=2) GO.nd) (@al _ _ _ (@aY _ _ _ _ (eW PySem.F.slot_list_extend PySem.F.type_list_extend oG (ae 1) (@af _ _ _ _ _ (aD EY (ae 2) (@aq _ _ _ _) (fun _ _=>rfl)) (@ah _) cI)) rfl)))
   (@al _ _ _ (@aU _ _ _ _ (dm gC rfl T.FE boot_tuple (@af _ _ _ _ _ (ae 1) (@ah _) bg))))))
theorem qj:m_ ["self","piece"] ["self","piece"] (h_ jV):=FD
def jq(G:Cs):EL:=(aN (bx (Ij kT (aA G.g_ d_ 5 (aa 0)) (ac (aa 1) ai)))
 (Fd (ao (f_ EE (f_ t_ (aa 1) (dC (.int 0))) (dC (.int 1)))) (aN (bx (Ij kT (aA G.g_ d_ 1 (aa 0)) (ac (cf (ac (aA G.g_ d_ 2 (aa 0)) (ac (am eP (ac (aA G.g_ d_ 5 (aa 0)) ai)) ai))) ai)))
 (kY G.g_ d_ 5 (aa 0) (bZ ai))) bE))
def gQ(G:Cs):List D->M D:=mF 2 (jq G)
theorem qU{G:Cs}(T:Txt K mg G)(Kt:Gm P w K mg base (w_ P w) "letters_of" 1 ["pieces"] eP){f:Addr}{fd:FuncData}(F:Fj K "take" "Hearer.take" jV f fd):Fq P w K mg base (w_ P w) 2 f fd ["self","piece"] (gQ G):=by
 refine fE F qj fun EC A outer s H E hr=>?_
 have hu:=hr.units;exact(@au _ _ _ _ _ (@aY _ _ _ _ (eW PySem.F.slot_list_append PySem.F.type_list_append eh (aI T.n_ T.Fv aX (ae 0)) (@af _ _ _ _ _ (ae 1) (@ah _) bg)) rfl)
   (@al _ _ _ (bq (aE (b9 hu) (aD EY (ae 1) (@aq _ _ _ _) (fun _ _=>rfl)) (@aq _ _ _ _) (aM _)) (@au _ _ _ _ _ (@aY _ _ _ _ (eW PySem.F.slot_list_append PySem.F.type_list_append eh (aI T.n_ T.FJ aX (ae 0)) (@af _ _ _ _ _ (@b8 _ _ _ _ _ (af (aI T.n_ T.C_ aX (ae 0)) (@af _ _ _ _ _ (aO Kt (hr.mono (by decide)) rfl aK (af (aI T.n_ T.Fv aX (ae 0)) (@ah _)) (ak aF)) (@ah _) ju))) (@ah _) lu)) rfl)
   (@al _ _ _ (ig T.n_ T.Fv aX (by decide) (ae 0) (@ci _ _ _ _ (@ah _))))) ba)))
theorem Gx:m_ ["self","piece"] ["self"] (h_ gB):=FD
def cy(G:Cs)(fuel:Nat):EL:=(gF (ao (f_ qY (aA G.g_ d_ 3 (aa 0)) (aA G.g_ d_ 4 (aa 0)))) (aN (cj (xR vD (aA G.g_ d_ 4 (aa 0)) (ac (aA G.g_ d_ 3 (aa 0)) ai)) (gN 1))
 (aN (pa G.g_ d_ 3 (aa 0) (dC (.int 1)))
 (bx (aV G.g_ d_ (gQ G) (aa 0) (ac (aa 1) ai))))) fuel)
def eC(G:Cs):List D->M D:=fun xs S=>fin S (cy G 1000000 (xs.map some++List.replicate (2-xs.length) none) S)
theorem nc{G:Cs}(T:Txt K mg G)(JH:EW P w K mg base (w_ P w) G.g_ "take" 2 ["self","piece"] (gQ G)){f:Addr}{fd:FuncData}(F:Fj K "take_all" "Hearer.take_all" gB f fd):Fq P w K mg base (w_ P w) 3 f fd ["self"] (eC G):=by
 refine fE F Gx fun EC A outer s H E hr=>?_
 have hu:=hr.units;have SJ:(1000000:Nat)=1000000:=rfl
 generalize Yg:(1000000:Nat)=fuel at SJ
 exact(@al _ _ _ (uJ fuel (aE (zA hu) (aI T.n_ T.z_ aX (ae 0)) (aI T.n_ T.E2 aX (ae 0)) (by with_unfolding_all rfl)) (@au _ _ _ _ _ (@bL _ _ _ _ 1 _ _ Gx.nd (Cy PySem.F.slot_dict_pop PySem.F.type_dict_pop AV (aI T.n_ T.E2 aX (ae 0)) (af (aI T.n_ T.z_ aX (ae 0)) (@ah _))) rfl (by first|exact Or.inl rfl|exact Or.inr rfl) rfl (by first|exact .inl rfl|exact .inr rfl|assumption))
   (@au _ _ _ _ _ (tJ T.n_ T.z_ aX (by decide) (ae 0) (@aq _ _ _ _))
   (@al _ _ _ (@aY _ _ _ _ (bD JH (hr.mono (by decide)) T.n_ (by decide +kernel) aK (ae 0) (@af _ _ _ _ _ (ae 1) (@ah _) bg) (dO (ak aF))) rfl))))))
theorem Ht:m_ ["self","bits"] ["self"] (h_ jM):=FD
def iW(G:Cs):EL:=(aN (cj (am eJ (ac (eE (sK (aA G.g_ d_ 0 (aa 0))) (gN 0) gD (Pu (ao (f_ qY (f_ bJ (aA G.g_ d_ 3 (aa 1)) (aa 0)) (aA G.g_ d_ 4 (aa 1)))) (dC (.int 1)) (dC (.int 0))) 1 [0]) ai)) (gN 1))
 (bP (cf (ac (dC (.str "note")) (ac (aA G.g_ d_ 2 (aa 0)) (ac (am eL (ac (aA G.g_ d_ 3 (aa 0)) (ac (aA G.g_ d_ 0 (aa 0)) ai))) (ac (aa 1) ai)))))))
def gU(G:Cs):List D->M D:=mF 2 (iW G)
theorem p5{G:Cs}(T:Txt K mg G)(Hq:Gm P w K mg base (w_ P w) "number_of" 1 ["index","window"] eL){f:Addr}{fd:FuncData}(F:Fj K "note" "Hearer.note" jM f fd):Fq P w K mg base (w_ P w) 2 f fd ["self"] (gU G):=by
 refine fE F Ht fun EC A outer s H E hr=>?_
 have hu:=hr.units;exact(@au _ _ _ _ _ (@bL _ _ _ _ 1 _ _ Ht.nd (dm gC rfl T.FE boot_tuple (@af _ _ _ _ _ (fF (own:=["k"]) (capN:=["self"]) (caps:=[0]) ⟨rfl,HB.all ⟨rfl,trivial⟩,rfl,by decide +kernel,rfl,by decide +kernel,⟨⟨rfl,Or.inl rfl,Or.inl rfl,rfl⟩,trivial⟩,by decide +kernel⟩ rfl (q7 rfl T.Kp (aI T.n_ T.E8 aX (ae 0))) (gn (by decide)) (fun C s2 H2 fp=>⟨(cq (i:=0) (show(["k","self"]:List Str).Nodup from by decide +kernel)),jl,(vi (aE (zA hu) (@bC _ _ _ _ _ _ _ _ bX (aI T.n_ T.z_ aX (ae 1)) (ae 0)) (aI T.n_ T.E2 aX (ae 1)) (by with_unfolding_all rfl)) (@aq _ _ _ _) (@aq _ _ _ _))⟩)) (@ah _) sZ)) rfl (by first|exact Or.inl rfl|exact Or.inr rfl) rfl (by first|exact .inl rfl|exact .inr rfl|assumption))
   (@al _ _ _ (@aU _ _ _ _ (@b8 _ _ _ _ _ (@af _ _ _ _ _ (@aH _ _ _ _) (af (aI T.n_ T.C_ aX (ae 0)) (@af _ _ _ _ _ (aO Hq (hr.mono (by decide)) rfl aK (af (aI T.n_ T.z_ aX (ae 0)) (af (aI T.n_ T.E8 aX (ae 0)) (@ah _))) (ak (ak aF))) (@af _ _ _ _ _ (ae 1) (@ah _) bg) ju)) bR)))))
theorem lL:m_ ["self","opening","number","piece"] ["self","opening","number","piece"] (h_ fj):=FD
def eG(G:Cs):EL:=(aN (Fd (ao (f_ Hl (aa 1) (aA G.g_ d_ 2 (aa 0)))) (bP (bZ ai)) bE)
 (aN (Fd (ao (f_ ML (aa 1) (aA G.g_ d_ 2 (aa 0)))) (bP (bZ (ac (cf (ac (dC (.str "who")) (ac (aa 1) ai))) ai))) bE)
 (aN (bx (aV G.g_ d_ (gX G) (aa 0) (ac (aa 2) (ac (aa 3) ai))))
 (aN (bx (aV G.g_ d_ (eC G) (aa 0) ai))
 (bP (bZ (ac (aV G.g_ d_ (gU G) (aa 0) ai) ai)))))))
def cJ(G:Cs):List D->M D:=mF 4 (eG G)
theorem lM{G:Cs}(T:Txt K mg G)(JI:EW P w K mg base (w_ P w) G.g_ "keep" 2 ["self","number","piece"] (gX G))(Il:EW P w K mg base (w_ P w) G.g_ "take_all" 3 ["self"] (eC G))(JJ:EW P w K mg base (w_ P w) G.g_ "note" 2 ["self"] (gU G)){f:Addr}{fd:FuncData}(F:Fj K "hears_data" "Hearer.hears_data" fj f fd):Fq P w K mg base (w_ P w) 4 f fd ["self","opening","number","piece"] (cJ G):=by
 refine fE F lL fun EC A outer s H E hr=>?_
 have hu:=hr.units;exact(@au _ _ _ _ _ (bq (aE lc (ae 1) (aI T.n_ T.C_ aX (ae 0)) (aM _)) (@al _ _ _ (@aU _ _ _ _ (@ci _ _ _ _ (@ah _)))) ba)
   (@au _ _ _ _ _ (bq (aE xI (ae 1) (aI T.n_ T.C_ aX (ae 0)) (aM _)) (@al _ _ _ (@aU _ _ _ _ (@ci _ _ _ _ (@af _ _ _ _ _ (@b8 _ _ _ _ _ (@af _ _ _ _ _ (@aH _ _ _ _) (@af _ _ _ _ _ (ae 1) (@ah _) bg) bR)) (@ah _) lu)))) ba)
   (@au _ _ _ _ _ (@aY _ _ _ _ (bD JI (hr.mono (by decide)) T.n_ (by decide +kernel) aK (ae 0) (@af _ _ _ _ _ (ae 2) (@af _ _ _ _ _ (ae 3) (@ah _) bg) bg) (dO (ak (ak aF)))) rfl)
   (@au _ _ _ _ _ (@aY _ _ _ _ (ck Il (hr.mono (by decide)) T.n_ (by decide +kernel) aK (ae 0)) rfl)
   (@al _ _ _ (@aU _ _ _ _ (@ci _ _ _ _ (af (ck JJ (hr.mono (by decide)) T.n_ (by decide +kernel) aK (ae 0)) (@ah _)))))))))
theorem pA:m_ ["self","card"] ["self","card"] (h_ jj):=FD
def ie(G:Cs):EL:=(aN (Fd (ao (f_ EE (f_ t_ (aa 1) (dC (.int 0))) (dC (.str "hello")))) (bP (aV G.g_ d_ (cA G) (aa 0) (ac (f_ t_ (aa 1) (dC (.int 1))) ai))) bE)
 (aN (Fd (ao (f_ EE (f_ t_ (aa 1) (dC (.int 0))) (dC (.str "data")))) (bP (aV G.g_ d_ (cJ G) (aa 0) (ac (f_ t_ (aa 1) (dC (.int 1))) (ac (f_ t_ (aa 1) (dC (.int 2))) (ac (f_ t_ (aa 1) (dC (.int 3))) ai))))) bE)
 (bP (bZ ai))))
def cX(G:Cs):List D->M D:=mF 2 (ie G)
theorem pK{G:Cs}(T:Txt K mg G)(Hu:EW P w K mg base (w_ P w) G.g_ "hears_hello" 2 ["self","opening"] (cA G))(HC:EW P w K mg base (w_ P w) G.g_ "hears_data" 4 ["self","opening","number","piece"] (cJ G)){f:Addr}{fd:FuncData}(F:Fj K "hears" "Hearer.hears" jj f fd):Fq P w K mg base (w_ P w) 5 f fd ["self","card"] (cX G):=by
 refine fE F pA fun EC A outer s H E hr=>?_
 have hu:=hr.units;exact(@au _ _ _ _ _ (bq (aE (b9 hu) (aD EY (ae 1) (@aq _ _ _ _) (fun _ _=>rfl)) (@aH _ _ _ _) (aM _)) (@al _ _ _ (@aU _ _ _ _ (bD Hu (hr.mono (by decide)) T.n_ (by decide +kernel) aK (ae 0) (@af _ _ _ _ _ (aD EY (ae 1) (@aq _ _ _ _) (fun _ _=>rfl)) (@ah _) cI) (dO (ak aF))))) ba)
   (@au _ _ _ _ _ (bq (aE (b9 hu) (aD EY (ae 1) (@aq _ _ _ _) (fun _ _=>rfl)) (@aH _ _ _ _) (aM _)) (@al _ _ _ (@aU _ _ _ _ (bD HC (hr.mono (by decide)) T.n_ (by decide +kernel) aK (ae 0) (@af _ _ _ _ _ (aD EY (ae 1) (@aq _ _ _ _) (fun _ _=>rfl)) (@af _ _ _ _ _ (aD EY (ae 1) (@aq _ _ _ _) (fun _ _=>rfl)) (@af _ _ _ _ _ (aD EY (ae 1) (@aq _ _ _ _) (fun _ _=>rfl)) (@ah _) cI) cI) cI) (dO (ak (ak (ak aF))))))) ba)
   (@al _ _ _ (@aU _ _ _ _ (@ci _ _ _ _ (@ah _))))))
theorem Gj:m_ ["self","message"] ["self"] (h_ fK):=FD
def el(G:Cs):EL:=(bx (Ij si (aA G.c_ a_ 6 (aa 0)) (ac (am dM (ac (aa 1) (ac (aA G.c_ a_ 1 (aa 0)) ai))) ai)))
def eX(G:Cs):EL:=(aN (pa G.c_ a_ 4 (aa 0) (dC (.int 1)))
 (aN (kY G.c_ a_ 5 (aa 0) (dC (.str "opening")))
 (aN (kY G.c_ a_ 6 (aa 0) (bZ ai))
 (aN (qI (Hd (GF FZ (aA G.c_ a_ 2 (aa 0)) (bI (aA G.c_ a_ 3 (aa 0))) bz)) (gN 1) (el G))
 (aN (kY G.c_ a_ 7 (aa 0) (dC (.int 0)))
 (kY G.c_ a_ 8 (aa 0) k8))))))
def bT(G:Cs):List D->M D:=mF 2 (eX G)
theorem mz{G:Cs}(T:Txt K mg G)(Hn:Gm P w K mg base (w_ P w) "pieces_of" 1 ["message","most"] dM){f:Addr}{fd:FuncData}(F:Fj K "open_anew" "Sender.open_anew" fK f fd):Fq P w K mg base (w_ P w) 2 f fd ["self"] (bT G):=by
 refine fE F Gj fun EC A outer s H E hr=>?_
 have hu:=hr.units;exact(@au _ _ _ _ _ (tJ T.i_ T.EO aJ (by decide) (ae 0) (@aq _ _ _ _))
   (@au _ _ _ _ _ (ig T.i_ T.y_ aJ (by decide) (ae 0) (@aH _ _ _ _))
   (@au _ _ _ _ _ (ig T.i_ T.EA aJ (by decide) (ae 0) (@ci _ _ _ _ (@ah _)))
   (@au _ _ _ _ _ (mY rfl (eB (cH Lq (aI T.i_ T.FP aJ (ae 0)) (cu (aI T.i_ T.FA aJ (ae 0))) dz)) (cq (i:=1) Gj.nd) (@al _ _ _ (@aY _ _ _ _ (eW PySem.F.slot_list_extend PySem.F.type_list_extend oG (aI T.i_ T.EA aJ (ae 0)) (@af _ _ _ _ _ (aO Hn (hr.mono (by decide)) rfl aK (@af _ _ _ _ _ (ae 1) (af (aI T.i_ T.Gu aJ (ae 0)) (@ah _)) bg) (ak (ak aF))) (@ah _) ju)) rfl)))
   (@au _ _ _ _ _ (ig T.i_ T.EG aJ (by decide) (ae 0) (@aq _ _ _ _))
   (@al _ _ _ (ig T.i_ T.FK aJ (by decide) (ae 0) pW)))))))
theorem mD:m_ ["self","index"] ["self","index"] (h_ fJ):=FD
def eY(G:Cs):EL:=(aN (pa G.c_ a_ 3 (aa 0) (am oo (ac (eE (Hd (GF FZ (aA G.c_ a_ 6 (aa 0)) (bI (aA G.c_ a_ 7 (aa 0))) (bI (aa 1)))) (gN 0) gD (f_ t_ (aa 0) (dC (.int 0))) 1 []) ai)))
 (kY G.c_ a_ 7 (aa 0) (aa 1)))
def dX(G:Cs):List D->M D:=mF 2 (eY G)
theorem my{G:Cs}(T:Txt K mg G){f:Addr}{fd:FuncData}(F:Fj K "move_base" "Sender.move_base" fJ f fd):Fq P w K mg base (w_ P w) 1 f fd ["self","index"] (dX G):=by
 refine fE F mD fun EC A outer s H E hr=>?_
 have hu:=hr.units;exact(@au _ _ _ _ _ (tJ T.i_ T.FA aJ (by decide) (ae 0) (bO (wJ rfl) rfl T.MS boot_sum (@af _ _ _ _ _ (fF (own:=["piece"]) (capN:=[]) (caps:=[]) ⟨rfl,HB.all trivial,rfl,by decide +kernel,rfl,by decide +kernel,trivial,by decide +kernel⟩ rfl (eB (cH Lq (aI T.i_ T.EA aJ (ae 0)) (cu (aI T.i_ T.EG aJ (ae 0))) (cu (ae 1)))) (gn (by decide)) (fun C s2 H2 fp=>⟨(cq (i:=0) (show(["piece"]:List Str).Nodup from by decide +kernel)),jl,(aD EY (ae 0) (@aq _ _ _ _) (fun _ _=>rfl))⟩)) (@ah _) sZ)))
   (@al _ _ _ (ig T.i_ T.EG aJ (by decide) (ae 0) (ae 1))))
theorem Fy:m_ ["self","bits","k","bit"] ["self","bits"] (h_ eI):=FD
def cD(G:Cs):EL:=(Fd (dg (ao (f_ EE (aa 3) (dC (.int 1)))) (ao (f_ Hl (f_ bJ (aA G.c_ a_ 7 (aa 0)) (aa 2)) (am bG (ac (aA G.c_ a_ 6 (aa 0)) ai))))) (kt gq (aA G.c_ a_ 8 (aa 0)) (f_ bJ (aA G.c_ a_ 7 (aa 0)) (aa 2)) (dC (.bl true))) bE)
def ez(G:Cs):EL:=(qI (w8 0 (aa 1)) (gT [2,3]) (cD G))
def dw(G:Cs):List D->M D:=mF 4 (ez G)
theorem lf{G:Cs}(T:Txt K mg G){f:Addr}{fd:FuncData}(F:Fj K "note_pieces" "Sender.note_pieces" eI f fd):Fq P w K mg base (w_ P w) 1 f fd ["self","bits"] (dw G):=by
 refine fE F Fy fun EC A outer s H E hr=>?_
 have hu:=hr.units;exact(@al _ _ _ (mY rfl (yP rfl T.IK (ae 1)) (wx rfl (j5 (cq (i:=2) Fy.nd) (j5 (cq (i:=3) Fy.nd) um))) (@al _ _ _ (bq (Ir.pt (eF (aE (b9 hu) (ae 3) (@aq _ _ _ _) (aM _)) (dG (aE lc (@bC _ _ _ _ _ _ _ _ bX (aI T.i_ T.EG aJ (ae 0)) (ae 2)) (bO dP rfl T.FU PySem.boot_len (af (aI T.i_ T.EA aJ (ae 0)) (@ah _))) (aM _))))) (@al _ _ _ (io (iK hu) (aI T.i_ T.FK aJ (ae 0)) (@bC _ _ _ _ _ _ _ _ bX (aI T.i_ T.EG aJ (ae 0)) (ae 2)) (@iG _ _ _ _))) ba))))
theorem Gb:m_ ["self","number","bits","index"] ["self","number","bits"] (h_ fm):=FD
def eK(G:Cs):EL:=(Fd (bW (am cn (ac (aa 1) (ac (aA G.c_ a_ 0 (aa 0)) ai)))) (aN (cj (am cz (ac (aa 1) (ac (aA G.c_ a_ 7 (aa 0)) (ac (aA G.c_ a_ 0 (aa 0)) ai)))) (gN 3))
 (Fd (ao (f_ LZ (aa 3) (am yE (ac (f_ bJ (aA G.c_ a_ 7 (aa 0)) (aA G.c_ a_ 0 (aa 0))) (ac (am bG (ac (aA G.c_ a_ 6 (aa 0)) ai)) ai))))) (aN (bx (aV G.c_ a_ (dX G) (aa 0) (ac (aa 3) ai)))
 (bx (aV G.c_ a_ (dw G) (aa 0) (ac (aa 2) ai)))) bE)) bE)
def cr(G:Cs):List D->M D:=mF 4 (eK G)
theorem lB{G:Cs}(T:Txt K mg G)(G_:Gm P w K mg base (w_ P w) "goes_round" 1 ["number","window"] cn)(Ha:Gm P w K mg base (w_ P w) "index_near" 1 ["number","low","window"] cz)(HQ:EW P w K mg base (w_ P w) G.c_ "move_base" 1 ["self","index"] (dX G))(Hv:EW P w K mg base (w_ P w) G.c_ "note_pieces" 1 ["self","bits"] (dw G)){f:Addr}{fd:FuncData}(F:Fj K "hears_note" "Sender.hears_note" fm f fd):Fq P w K mg base (w_ P w) 2 f fd ["self","number","bits"] (cr G):=by
 refine fE F Gb fun EC A outer s H E hr=>?_
 have hu:=hr.units;exact(@al _ _ _ (bq (cL (aO G_ (hr.mono (by decide)) rfl aK (@af _ _ _ _ _ (ae 1) (af (aI T.i_ T.E9 aJ (ae 0)) (@ah _)) bg) (ak (ak aF)))) (@au _ _ _ _ _ (@bL _ _ _ _ 3 _ _ Gb.nd (aO Ha (hr.mono (by decide)) rfl aK (@af _ _ _ _ _ (ae 1) (af (aI T.i_ T.EG aJ (ae 0)) (af (aI T.i_ T.E9 aJ (ae 0)) (@ah _))) bg) (ak (ak (ak aF)))) rfl (by first|exact Or.inl rfl|exact Or.inr rfl) rfl (by first|exact .inl rfl|exact .inr rfl|assumption))
   (@al _ _ _ (bq (aE qo (ae 3) (bO (zj rfl) rfl T.OC boot_min (@af _ _ _ _ _ (@bC _ _ _ _ _ _ _ _ bX (aI T.i_ T.EG aJ (ae 0)) (aI T.i_ T.E9 aJ (ae 0))) (@af _ _ _ _ _ (bO dP rfl T.FU PySem.boot_len (af (aI T.i_ T.EA aJ (ae 0)) (@ah _))) (@ah _) ju) tR)) (aM _)) (@au _ _ _ _ _ (@aY _ _ _ _ (bD HQ (hr.mono (by decide)) T.i_ (by decide +kernel) aK (ae 0) (@af _ _ _ _ _ (ae 3) (@ah _) bg) (dO (ak aF))) rfl)
   (@al _ _ _ (@aY _ _ _ _ (bD Hv (hr.mono (by decide)) T.i_ (by decide +kernel) aK (ae 0) (@af _ _ _ _ _ (ae 2) (@ah _) bg) (dO (ak aF))) rfl))) ba))) ba))
theorem mw:m_ ["self","card"] ["self","card"] (h_ fL):=FD
def eV(G:Cs):EL:=(Fd (dg (ao (f_ EE (f_ t_ (aa 1) (dC (.int 0))) (dC (.str "welcome")))) (ao (f_ EE (aA G.c_ a_ 5 (aa 0)) (dC (.str "opening"))))) (kY G.c_ a_ 5 (aa 0) (dC (.str "open"))) (Fd (dg (ao (f_ EE (f_ t_ (aa 1) (dC (.int 0))) (dC (.str "who")))) (ao (f_ EE (aA G.c_ a_ 5 (aa 0)) (dC (.str "open"))))) (bx (aV G.c_ a_ (bT G) (aa 0) ai)) (Fd (dg (ao (f_ EE (f_ t_ (aa 1) (dC (.int 0))) (dC (.str "note")))) (ao (f_ EE (aA G.c_ a_ 5 (aa 0)) (dC (.str "open"))))) (bx (aV G.c_ a_ (cr G) (aa 0) (ac (f_ t_ (aa 1) (dC (.int 2))) (ac (f_ t_ (aa 1) (dC (.int 3))) ai)))) bE)))
def dQ(G:Cs):List D->M D:=mF 2 (eV G)
theorem mn{G:Cs}(T:Txt K mg G)(FQ:EW P w K mg base (w_ P w) G.c_ "open_anew" 2 ["self"] (bT G))(HD:EW P w K mg base (w_ P w) G.c_ "hears_note" 2 ["self","number","bits"] (cr G)){f:Addr}{fd:FuncData}(F:Fj K "hears_own" "Sender.hears_own" fL f fd):Fq P w K mg base (w_ P w) 3 f fd ["self","card"] (dQ G):=by
 refine fE F mw fun EC A outer s H E hr=>?_
 have hu:=hr.units;exact(@al _ _ _ (bq (Ir.pt (eF (aE (b9 hu) (aD EY (ae 1) (@aq _ _ _ _) (fun _ _=>rfl)) (@aH _ _ _ _) (aM _)) (dG (aE (b9 hu) (aI T.i_ T.y_ aJ (ae 0)) (@aH _ _ _ _) (aM _))))) (@al _ _ _ (ig T.i_ T.y_ aJ (by decide) (ae 0) (@aH _ _ _ _))) (@al _ _ _ (bq (Ir.pt (eF (aE (b9 hu) (aD EY (ae 1) (@aq _ _ _ _) (fun _ _=>rfl)) (@aH _ _ _ _) (aM _)) (dG (aE (b9 hu) (aI T.i_ T.y_ aJ (ae 0)) (@aH _ _ _ _) (aM _))))) (@al _ _ _ (@aY _ _ _ _ (ck FQ (hr.mono (by decide)) T.i_ (by decide +kernel) aK (ae 0)) rfl)) (@al _ _ _ (bq (Ir.pt (eF (aE (b9 hu) (aD EY (ae 1) (@aq _ _ _ _) (fun _ _=>rfl)) (@aH _ _ _ _) (aM _)) (dG (aE (b9 hu) (aI T.i_ T.y_ aJ (ae 0)) (@aH _ _ _ _) (aM _))))) (@al _ _ _ (@aY _ _ _ _ (bD HD (hr.mono (by decide)) T.i_ (by decide +kernel) aK (ae 0) (@af _ _ _ _ _ (aD EY (ae 1) (@aq _ _ _ _) (fun _ _=>rfl)) (@af _ _ _ _ _ (aD EY (ae 1) (@aq _ _ _ _) (fun _ _=>rfl)) (@ah _) cI) cI) (dO (ak (ak aF)))) rfl)) ba))))))
theorem pC:m_ ["self","card"] ["self","card"] (h_ iV):=FD
def im(G:Cs):EL:=(aN (Fd (ao (f_ EE (f_ t_ (aa 1) (dC (.int 1))) (aA G.c_ a_ 4 (aa 0)))) (bx (aV G.c_ a_ (dQ G) (aa 0) (ac (aa 1) ai))) bE)
 (bP (bZ ai)))
def cZ(G:Cs):List D->M D:=mF 2 (im G)
theorem pv{G:Cs}(T:Txt K mg G)(HR:EW P w K mg base (w_ P w) G.c_ "hears_own" 3 ["self","card"] (dQ G)){f:Addr}{fd:FuncData}(F:Fj K "hears" "Sender.hears" iV f fd):Fq P w K mg base (w_ P w) 4 f fd ["self","card"] (cZ G):=by
 refine fE F pC fun EC A outer s H E hr=>?_
 have hu:=hr.units;exact(@au _ _ _ _ _ (bq (aE (b9 hu) (aD EY (ae 1) (@aq _ _ _ _) (fun _ _=>rfl)) (aI T.i_ T.EO aJ (ae 0)) (aM _)) (@al _ _ _ (@aY _ _ _ _ (bD HR (hr.mono (by decide)) T.i_ (by decide +kernel) aK (ae 0) (@af _ _ _ _ _ (ae 1) (@ah _) bg) (dO (ak aF))) rfl)) ba)
   (@al _ _ _ (@aU _ _ _ _ (@ci _ _ _ _ (@ah _)))))
theorem Gg:m_ ["self","road","strip","card"] ["self","road","strip"] (h_ ja):=FD
def iD(G:Cs):EL:=(aN (pG [G.Ff] (cj (am (gJ G) (ac (aa 2) ai)) (gN 3)) (cj (dC .B_) (gN 3)))
 (aN (Fd (dg (ao (f_ iE (aa 3) (dC .B_))) (ao (f_ EE (aa 1) (dC (.str "there"))))) (bx (aV G.World k_ (ca G) (aa 0) (ac (dC (.str "back")) (ac (aV G.g_ d_ (cX G) (aA G.World k_ 1 (aa 0)) (ac (aa 3) ai)) ai)))) bE)
 (Fd (dg (ao (f_ iE (aa 3) (dC .B_))) (ao (f_ EE (aa 1) (dC (.str "back"))))) (bx (aV G.World k_ (ca G) (aa 0) (ac (dC (.str "there")) (ac (aV G.c_ a_ (cZ G) (aA G.World k_ 0 (aa 0)) (ac (aa 3) ai)) ai)))) bE)))
def gi(G:Cs):List D->M D:=mF 4 (iD G)
theorem pP{G:Cs}(T:Txt K mg G)(LK:Gm P w K mg base (w_ P w) "read" 5 ["strip"] (gJ G))(Gy:EW P w K mg base (w_ P w) G.g_ "hears" 5 ["self","card"] (cX G))(Fu:EW P w K mg base (w_ P w) G.World "put_behind" 6 ["self","road","cards"] (ca G))(Gz:EW P w K mg base (w_ P w) G.c_ "hears" 4 ["self","card"] (cZ G)){f:Addr}{fd:FuncData}(F:Fj K "arrive" "World.arrive" ja f fd):Fq P w K mg base (w_ P w) 7 f fd ["self","road","strip"] (gi G):=by
 refine fE F Gg fun EC A outer s H E hr=>?_
 have hu:=hr.units;exact(@au _ _ _ _ _ (yM T.G1 (xA T.Fs Ae) rfl ⟨rfl,rfl⟩ (@al _ _ _ (@bL _ _ _ _ 3 _ _ Gg.nd (aO LK (hr.mono (by decide)) rfl aK (@af _ _ _ _ _ (ae 2) (@ah _) bg) (ak aF)) rfl (by first|exact Or.inl rfl|exact Or.inr rfl) rfl (by first|exact .inl rfl|exact .inr rfl|assumption))) (fun _=>(@al _ _ _ (@bL _ _ _ _ 3 _ _ Gg.nd (@iZ _ _ _) rfl (by first|exact Or.inl rfl|exact Or.inr rfl) rfl (by first|exact .inl rfl|exact .inr rfl|assumption)))))
   (@au _ _ _ _ _ (bq (Ir.pt (eF (aE pX (ae 3) (@iZ _ _ _) (aM _)) (dG (aE (b9 hu) (ae 1) (@aH _ _ _ _) (aM _))))) (@al _ _ _ (@aY _ _ _ _ (bD Fu (hr.mono (by decide)) T.tB (by decide +kernel) aK (ae 0) (@af _ _ _ _ _ (@aH _ _ _ _) (af (bD Gy (hr.mono (by decide)) T.n_ (by decide +kernel) aK (aI T.tB T.Fw bY (ae 0)) (@af _ _ _ _ _ (ae 3) (@ah _) bg) (dO (ak aF))) (@ah _)) bR) (dO (ak (ak aF)))) rfl)) ba)
   (@al _ _ _ (bq (Ir.pt (eF (aE pX (ae 3) (@iZ _ _ _) (aM _)) (dG (aE (b9 hu) (ae 1) (@aH _ _ _ _) (aM _))))) (@al _ _ _ (@aY _ _ _ _ (bD Fu (hr.mono (by decide)) T.tB (by decide +kernel) aK (ae 0) (@af _ _ _ _ _ (@aH _ _ _ _) (af (bD Gz (hr.mono (by decide)) T.i_ (by decide +kernel) aK (aI T.tB T.EJ bY (ae 0)) (@af _ _ _ _ _ (ae 3) (@ah _) bg) (dO (ak aF))) (@ah _)) bR) (dO (ak (ak aF)))) rfl)) ba))))
theorem rY:m_ ["self","road"] ["self","road"] (h_ kL):=FD
def jH(G:Cs):EL:=(Fd (bW (aV G.World k_ (bf G) (aa 0) (ac (aa 1) (ac (dC (.int 0)) ai)))) (bx (aV G.World k_ (gi G) (aa 0) (ac (aa 1) (ac (f_ t_ (Ij vY (f_ bV (aA G.World k_ 2 (aa 0)) (aa 1)) (ac (dC (.int 0)) ai)) (dC (.int 0))) ai)))) bE)
def iH(G:Cs):List D->M D:=mF 2 (jH G)
theorem sj{G:Cs}(T:Txt K mg G)(ER:EW P w K mg base (w_ P w) G.World "has_strip" 1 ["self","road","k"] (bf G))(Jl:EW P w K mg base (w_ P w) G.World "arrive" 7 ["self","road","strip"] (gi G)){f:Addr}{fd:FuncData}(F:Fj K "step" "World.step" kL f fd):Fq P w K mg base (w_ P w) 8 f fd ["self","road"] (iH G):=by
 refine fE F rY fun EC A outer s H E hr=>?_
 have hu:=hr.units;exact(@al _ _ _ (bq (cL (bD ER (hr.mono (by decide)) T.tB (by decide +kernel) aK (ae 0) (@af _ _ _ _ _ (ae 1) (@af _ _ _ _ _ (@aq _ _ _ _) (@ah _) bR) bg) (dO (ak (ak aF))))) (@al _ _ _ (@aY _ _ _ _ (bD Jl (hr.mono (by decide)) T.tB (by decide +kernel) aK (ae 0) (@af _ _ _ _ _ (ae 1) (@af _ _ _ _ _ (aD EY (eW PySem.F.slot_list_pop PySem.F.type_list_pop z0 (aD (fX hu) (aI T.tB T.Ex bY (ae 0)) (ae 1) (fun _ _=>rfl)) (@af _ _ _ _ _ (@aq _ _ _ _) (@ah _) bR)) (@aq _ _ _ _) (fun _ _=>rfl)) (@ah _) cI) bg) (dO (ak (ak aF)))) rfl)) ba))
theorem rJ:m_ ["self","road","k"] ["self","road","k"] (h_ km):=FD
def jL(G:Cs):EL:=(Fd (bW (aV G.World k_ (bf G) (aa 0) (ac (aa 1) (ac (aa 2) ai)))) (bx (Ij vY (f_ bV (aA G.World k_ 2 (aa 0)) (aa 1)) (ac (aa 2) ai))) bE)
def iN(G:Cs):List D->M D:=mF 3 (jL G)
theorem rL{G:Cs}(T:Txt K mg G)(ER:EW P w K mg base (w_ P w) G.World "has_strip" 1 ["self","road","k"] (bf G)){f:Addr}{fd:FuncData}(F:Fj K "lose" "World.lose" km f fd):Fq P w K mg base (w_ P w) 2 f fd ["self","road","k"] (iN G):=by
 refine fE F rJ fun EC A outer s H E hr=>?_
 have hu:=hr.units;exact(@al _ _ _ (bq (cL (bD ER (hr.mono (by decide)) T.tB (by decide +kernel) aK (ae 0) (@af _ _ _ _ _ (ae 1) (@af _ _ _ _ _ (ae 2) (@ah _) bg) bg) (dO (ak (ak aF))))) (@al _ _ _ (@aY _ _ _ _ (eW PySem.F.slot_list_pop PySem.F.type_list_pop z0 (aD (fX hu) (aI T.tB T.Ex bY (ae 0)) (ae 1) (fun _ _=>rfl)) (@af _ _ _ _ _ (ae 2) (@ah _) bg)) rfl)) ba))
theorem pM:m_ ["self","road","k"] ["self","road","k"] (h_ iX):=FD
def iB(G:Cs):EL:=(Fd (bW (aV G.World k_ (bf G) (aa 0) (ac (aa 1) (ac (aa 2) ai)))) (bx (Ij uK (f_ bV (aA G.World k_ 2 (aa 0)) (aa 1)) (ac (aa 2) (ac (f_ t_ (f_ bV (aA G.World k_ 2 (aa 0)) (aa 1)) (aa 2)) ai)))) bE)
def gf(G:Cs):List D->M D:=mF 3 (iB G)
theorem pE{G:Cs}(T:Txt K mg G)(ER:EW P w K mg base (w_ P w) G.World "has_strip" 1 ["self","road","k"] (bf G)){f:Addr}{fd:FuncData}(F:Fj K "double" "World.double" iX f fd):Fq P w K mg base (w_ P w) 2 f fd ["self","road","k"] (gf G):=by
 refine fE F pM fun EC A outer s H E hr=>?_
 have hu:=hr.units;exact(@al _ _ _ (bq (cL (bD ER (hr.mono (by decide)) T.tB (by decide +kernel) aK (ae 0) (@af _ _ _ _ _ (ae 1) (@af _ _ _ _ _ (ae 2) (@ah _) bg) bg) (dO (ak (ak aF))))) (@al _ _ _ (@aY _ _ _ _ (eW PySem.F.slot_list_insert PySem.F.type_list_insert xS (aD (fX hu) (aI T.tB T.Ex bY (ae 0)) (ae 1) (fun _ _=>rfl)) (@af _ _ _ _ _ (ae 2) (@af _ _ _ _ _ (aD EY (aD (fX hu) (aI T.tB T.Ex bY (ae 0)) (ae 1) (fun _ _=>rfl)) (ae 2) (fun _ _=>rfl)) (@ah _) cI) bg)) rfl)) ba))
theorem HS:m_ ["strip","place","by","cells","at"] ["strip","place","by"] (h_ oV):=FD
def m0:EL:=(aN (cj (am mG (ac (aa 0) ai)) (gN 3))
 (aN (cj (f_ jo (aa 1) (am bG (ac (aa 3) ai))) (gN 4))
 (aN (kt k9 (aa 3) (aa 4) (f_ jo (f_ bJ (f_ t_ (aa 3) (aa 4)) (aa 2)) (dC (.int 256))))
 (bP (am eJ (ac (aa 3) ai))))))
def kc:List D->M D:=mP 5 m0
theorem vT{G:Cs}(T:Txt K mg G){f:Addr}{fd:FuncData}(F:Fj K "changed" "changed" oV f fd):Fq P w K mg base (w_ P w) 1 f fd ["strip","place","by"] kc:=by
 refine fG F HS fun EC A outer s H E hr=>?_
 have hu:=hr.units;exact(@au _ _ _ _ _ (@bL _ _ _ _ 3 _ _ HS.nd (dm ue rfl T.LG boot_list (@af _ _ _ _ _ (ae 0) (@ah _) bg)) rfl (by first|exact Or.inl rfl|exact Or.inr rfl) rfl (by first|exact .inl rfl|exact .inr rfl|assumption))
   (@au _ _ _ _ _ (@bL _ _ _ _ 4 _ _ HS.nd (@bC _ _ _ _ _ _ _ _ iA (ae 1) (bO dP rfl T.FU PySem.boot_len (@af _ _ _ _ _ (ae 3) (@ah _) bg))) rfl (by first|exact Or.inl rfl|exact Or.inr rfl) rfl (by first|exact .inl rfl|exact .inr rfl|assumption))
   (@au _ _ _ _ _ (io tY (ae 3) (ae 4) (@bC _ _ _ _ _ _ _ _ iA (@bC _ _ _ _ _ _ _ _ bX (aD EY (ae 3) (ae 4) (fun _ _=>rfl)) (ae 2)) (@aq _ _ _ _)))
   (@al _ _ _ (@aU _ _ _ _ (dm gC rfl T.FE boot_tuple (@af _ _ _ _ _ (ae 3) (@ah _) bg)))))))
theorem rg:m_ ["self","road","k","place","by"] ["self","road","k","place","by"] (h_ jO):=FD
def jb(G:Cs):EL:=(Fd (dg (bW (aV G.World k_ (bf G) (aa 0) (ac (aa 1) (ac (aa 2) ai)))) (dg (dc (bW (f_ t_ (f_ t_ (f_ bV (aA G.World k_ 2 (aa 0)) (aa 1)) (aa 2)) (dC (.int 1))))) (ao (f_ Gr (f_ jo (aa 4) (dC (.int 256))) (dC (.int 0)))))) (kt k9 (f_ bV (aA G.World k_ 2 (aa 0)) (aa 1)) (aa 2) (cf (ac (am kc (ac (f_ t_ (f_ t_ (f_ bV (aA G.World k_ 2 (aa 0)) (aa 1)) (aa 2)) (dC (.int 0))) (ac (aa 3) (ac (aa 4) ai)))) (ac (dC (.bl true)) ai)))) bE)
def gR(G:Cs):List D->M D:=mF 5 (jb G)
theorem p8{G:Cs}(T:Txt K mg G)(ER:EW P w K mg base (w_ P w) G.World "has_strip" 1 ["self","road","k"] (bf G))(Md:Gm P w K mg base (w_ P w) "changed" 1 ["strip","place","by"] kc){f:Addr}{fd:FuncData}(F:Fj K "spoil" "World.spoil" jO f fd):Fq P w K mg base (w_ P w) 2 f fd ["self","road","k","place","by"] (gR G):=by
 refine fE F rg fun EC A outer s H E hr=>?_
 have hu:=hr.units;exact(@al _ _ _ (bq (Ir.pt (eF (cL (bD ER (hr.mono (by decide)) T.tB (by decide +kernel) aK (ae 0) (@af _ _ _ _ _ (ae 1) (@af _ _ _ _ _ (ae 2) (@ah _) bg) bg) (dO (ak (ak aF))))) (eF (fD (cL (aD EY (aD EY (aD (fX hu) (aI T.tB T.Ex bY (ae 0)) (ae 1) (fun _ _=>rfl)) (ae 2) (fun _ _=>rfl)) (@aq _ _ _ _) (fun _ _=>rfl)))) (dG (aE (mJ hu) (@bC _ _ _ _ _ _ _ _ iA (ae 4) (@aq _ _ _ _)) (@aq _ _ _ _) (aM _)))))) (@al _ _ _ (io tY (aD (fX hu) (aI T.tB T.Ex bY (ae 0)) (ae 1) (fun _ _=>rfl)) (ae 2) (@b8 _ _ _ _ _ (@af _ _ _ _ _ (aO Md (hr.mono (by decide)) rfl aK (@af _ _ _ _ _ (aD EY (aD EY (aD (fX hu) (aI T.tB T.Ex bY (ae 0)) (ae 1) (fun _ _=>rfl)) (ae 2) (fun _ _=>rfl)) (@aq _ _ _ _) (fun _ _=>rfl)) (@af _ _ _ _ _ (ae 3) (@af _ _ _ _ _ (ae 4) (@ah _) bg) bg) cI) (ak (ak (ak aF)))) (@af _ _ _ _ _ (@iG _ _ _ _) (@ah _) bR) ju)))) ba))
theorem qE:m_ ["self"] ["self"] (h_ jQ):=FD
def jd(G:Cs):EL:=(kY G.c_ a_ 5 (aa 0) (dC (.str "shut")))
def d8(G:Cs):List D->M D:=mF 1 (jd G)
theorem qK{G:Cs}(T:Txt K mg G){f:Addr}{fd:FuncData}(F:Fj K "fall" "Sender.fall" jQ f fd):Fq P w K mg base (w_ P w) 1 f fd ["self"] (d8 G):=by
 refine fE F qE fun EC A outer s H E hr=>?_
 have hu:=hr.units;exact(@al _ _ _ (ig T.i_ T.y_ aJ (by decide) (ae 0) (@aH _ _ _ _)))
theorem qc:m_ ["self"] ["self"] (h_ jT):=FD
def je(G:Cs):EL:=(bx (aV G.g_ d_ (cW G) (aa 0) (ac (dC (.int 0)) ai)))
def d9(G:Cs):List D->M D:=mF 1 (je G)
theorem qz{G:Cs}(T:Txt K mg G)(Gw:EW P w K mg base (w_ P w) G.g_ "begin" 1 ["self","opening"] (cW G)){f:Addr}{fd:FuncData}(F:Fj K "fall" "Hearer.fall" jT f fd):Fq P w K mg base (w_ P w) 2 f fd ["self"] (d9 G):=by
 refine fE F qc fun EC A outer s H E hr=>?_
 have hu:=hr.units;exact(@al _ _ _ (@aY _ _ _ _ (bD Gw (hr.mono (by decide)) T.n_ (by decide +kernel) aK (ae 0) (@af _ _ _ _ _ (@aq _ _ _ _) (@ah _) bR) (dO (ak aF))) rfl))
theorem se:m_ ["self","who"] ["self","who"] (h_ ke):=FD
def fw(G:Cs):EL:=(aN (Fd (ao (f_ EE (aa 1) (dC (.str "sender")))) (bx (aV G.c_ a_ (d8 G) (aA G.World k_ 0 (aa 0)) ai)) bE)
 (Fd (ao (f_ EE (aa 1) (dC (.str "hearer")))) (bx (aV G.g_ d_ (d9 G) (aA G.World k_ 1 (aa 0)) ai)) bE))
def iL(G:Cs):List D->M D:=mF 2 (fw G)
theorem rW{G:Cs}(T:Txt K mg G)(GP:EW P w K mg base (w_ P w) G.c_ "fall" 1 ["self"] (d8 G))(GQ:EW P w K mg base (w_ P w) G.g_ "fall" 2 ["self"] (d9 G)){f:Addr}{fd:FuncData}(F:Fj K "fall" "World.fall" ke f fd):Fq P w K mg base (w_ P w) 3 f fd ["self","who"] (iL G):=by
 refine fE F se fun EC A outer s H E hr=>?_
 have hu:=hr.units;exact(@au _ _ _ _ _ (bq (aE (b9 hu) (ae 1) (@aH _ _ _ _) (aM _)) (@al _ _ _ (@aY _ _ _ _ (ck GP (hr.mono (by decide)) T.i_ (by decide +kernel) aK (aI T.tB T.EJ bY (ae 0))) rfl)) ba)
   (@al _ _ _ (bq (aE (b9 hu) (ae 1) (@aH _ _ _ _) (aM _)) (@al _ _ _ (@aY _ _ _ _ (ck GQ (hr.mono (by decide)) T.n_ (by decide +kernel) aK (aI T.tB T.Fw bY (ae 0))) rfl)) ba)))
theorem pI:m_ ["self"] ["self"] (h_ jt):=FD
def iu(G:Cs):EL:=(Fd (ao (f_ EE (aA G.c_ a_ 5 (aa 0)) (dC (.str "shut")))) (bx (aV G.c_ a_ (bT G) (aa 0) ai)) bE)
def dF(G:Cs):List D->M D:=mF 1 (iu G)
theorem pL{G:Cs}(T:Txt K mg G)(FQ:EW P w K mg base (w_ P w) G.c_ "open_anew" 2 ["self"] (bT G)){f:Addr}{fd:FuncData}(F:Fj K "start" "Sender.start" jt f fd):Fq P w K mg base (w_ P w) 3 f fd ["self"] (dF G):=by
 refine fE F pI fun EC A outer s H E hr=>?_
 have hu:=hr.units;exact(@al _ _ _ (bq (aE (b9 hu) (aI T.i_ T.y_ aJ (ae 0)) (@aH _ _ _ _) (aM _)) (@al _ _ _ (@aY _ _ _ _ (ck FQ (hr.mono (by decide)) T.i_ (by decide +kernel) aK (ae 0)) rfl)) ba))
theorem qx:m_ ["self"] ["self"] (h_ jU):=FD
def jr(G:Cs):EL:=(bx (aV G.c_ a_ (dF G) (aA G.World k_ 0 (aa 0)) ai))
def gY(G:Cs):List D->M D:=mF 1 (jr G)
theorem qN{G:Cs}(T:Txt K mg G)(GA:EW P w K mg base (w_ P w) G.c_ "start" 3 ["self"] (dF G)){f:Addr}{fd:FuncData}(F:Fj K "start" "World.start" jU f fd):Fq P w K mg base (w_ P w) 4 f fd ["self"] (gY G):=by
 refine fE F qx fun EC A outer s H E hr=>?_
 have hu:=hr.units;exact(@al _ _ _ (@aY _ _ _ _ (ck GA (hr.mono (by decide)) T.i_ (by decide +kernel) aK (aI T.tB T.EJ bY (ae 0))) rfl))
theorem wp:m_ ["_law_world","_law_act"] ["_law_world","_law_act"] (h_ oz):=FD
def ni(G:Cs):EL:=(Fd (ao (f_ EE (f_ t_ (aa 1) (dC (.int 0))) (dC (.str "hand")))) (bx (aV G.World k_ (iQ G) (aa 0) (ac (am dL (ac (f_ t_ (aa 1) (dC (.int 1))) (ac (dC (.int 12)) ai))) ai))) (Fd (ao (f_ EE (f_ t_ (aa 1) (dC (.int 0))) (dC (.str "tick")))) (bx (aV G.World k_ (iJ G) (aa 0) ai)) (Fd (ao (f_ EE (f_ t_ (aa 1) (dC (.int 0))) (dC (.str "step")))) (bx (aV G.World k_ (iH G) (aa 0) (ac (f_ t_ (aa 1) (dC (.int 1))) ai))) (Fd (ao (f_ EE (f_ t_ (aa 1) (dC (.int 0))) (dC (.str "lose")))) (bx (aV G.World k_ (iN G) (aa 0) (ac (f_ t_ (aa 1) (dC (.int 1))) (ac (f_ t_ (aa 1) (dC (.int 2))) ai)))) (Fd (ao (f_ EE (f_ t_ (aa 1) (dC (.int 0))) (dC (.str "double")))) (bx (aV G.World k_ (gf G) (aa 0) (ac (f_ t_ (aa 1) (dC (.int 1))) (ac (f_ t_ (aa 1) (dC (.int 2))) ai)))) (Fd (ao (f_ EE (f_ t_ (aa 1) (dC (.int 0))) (dC (.str "spoil")))) (bx (aV G.World k_ (gR G) (aa 0) (ac (f_ t_ (aa 1) (dC (.int 1))) (ac (f_ t_ (aa 1) (dC (.int 2))) (ac (am aC (ac (f_ t_ (aa 1) (dC (.int 3))) (ac (dC (.int 9829)) (ac (dC (.int 16)) ai)))) (ac (am aC (ac (f_ t_ (aa 1) (dC (.int 3))) (ac (dC (.int 9817)) (ac (dC (.int 256)) ai)))) ai)))))) (Fd (ao (f_ EE (f_ t_ (aa 1) (dC (.int 0))) (dC (.str "fall")))) (bx (aV G.World k_ (iL G) (aa 0) (ac (f_ t_ (aa 1) (dC (.int 1))) ai))) (bx (aV G.World k_ (gY G) (aa 0) ai)))))))))
def lZ(G:Cs):List D->M D:=mF 2 (ni G)
theorem wR{G:Cs}(T:Txt K mg G)(GB:Gm P w K mg base (w_ P w) "_law_message" 2 ["_law_cell_here","_law_longest"] dL)(Ku:EW P w K mg base (w_ P w) G.World "hand" 3 ["self","message"] (iQ G))(Kv:EW P w K mg base (w_ P w) G.World "tick" 7 ["self"] (iJ G))(Kw:EW P w K mg base (w_ P w) G.World "step" 8 ["self","road"] (iH G))(Kx:EW P w K mg base (w_ P w) G.World "lose" 2 ["self","road","k"] (iN G))(Jm:EW P w K mg base (w_ P w) G.World "double" 2 ["self","road","k"] (gf G))(D_:Gm P w K mg base (w_ P w) "_law_mix" 1 ["_law_cell_here","_law_prime","_law_many"] aC)(JK:EW P w K mg base (w_ P w) G.World "spoil" 2 ["self","road","k","place","by"] (gR G))(Ky:EW P w K mg base (w_ P w) G.World "fall" 3 ["self","who"] (iL G))(JL:EW P w K mg base (w_ P w) G.World "start" 4 ["self"] (gY G)){f:Addr}{fd:FuncData}(F:Fj K "_law_do" "_law_do" oz f fd):Fq P w K mg base (w_ P w) 9 f fd ["_law_world","_law_act"] (lZ G):=by
 refine fE F wp fun EC A outer s H E hr=>?_
 have hu:=hr.units;exact(@al _ _ _ (bq (aE (b9 hu) (aD EY (ae 1) (@aq _ _ _ _) (fun _ _=>rfl)) (@aH _ _ _ _) (aM _)) (@al _ _ _ (@aY _ _ _ _ (bD Ku (hr.mono (by decide)) T.tB (by decide +kernel) aK (ae 0) (@af _ _ _ _ _ (aO GB (hr.mono (by decide)) rfl aK (@af _ _ _ _ _ (aD EY (ae 1) (@aq _ _ _ _) (fun _ _=>rfl)) (@af _ _ _ _ _ (@aq _ _ _ _) (@ah _) bR) cI) (ak (ak aF))) (@ah _) ju) (dO (ak aF))) rfl)) (@al _ _ _ (bq (aE (b9 hu) (aD EY (ae 1) (@aq _ _ _ _) (fun _ _=>rfl)) (@aH _ _ _ _) (aM _)) (@al _ _ _ (@aY _ _ _ _ (ck Kv (hr.mono (by decide)) T.tB (by decide +kernel) aK (ae 0)) rfl)) (@al _ _ _ (bq (aE (b9 hu) (aD EY (ae 1) (@aq _ _ _ _) (fun _ _=>rfl)) (@aH _ _ _ _) (aM _)) (@al _ _ _ (@aY _ _ _ _ (bD Kw (hr.mono (by decide)) T.tB (by decide +kernel) aK (ae 0) (@af _ _ _ _ _ (aD EY (ae 1) (@aq _ _ _ _) (fun _ _=>rfl)) (@ah _) cI) (dO (ak aF))) rfl)) (@al _ _ _ (bq (aE (b9 hu) (aD EY (ae 1) (@aq _ _ _ _) (fun _ _=>rfl)) (@aH _ _ _ _) (aM _)) (@al _ _ _ (@aY _ _ _ _ (bD Kx (hr.mono (by decide)) T.tB (by decide +kernel) aK (ae 0) (@af _ _ _ _ _ (aD EY (ae 1) (@aq _ _ _ _) (fun _ _=>rfl)) (@af _ _ _ _ _ (aD EY (ae 1) (@aq _ _ _ _) (fun _ _=>rfl)) (@ah _) cI) cI) (dO (ak (ak aF)))) rfl)) (@al _ _ _ (bq (aE (b9 hu) (aD EY (ae 1) (@aq _ _ _ _) (fun _ _=>rfl)) (@aH _ _ _ _) (aM _)) (@al _ _ _ (@aY _ _ _ _ (bD Jm (hr.mono (by decide)) T.tB (by decide +kernel) aK (ae 0) (@af _ _ _ _ _ (aD EY (ae 1) (@aq _ _ _ _) (fun _ _=>rfl)) (@af _ _ _ _ _ (aD EY (ae 1) (@aq _ _ _ _) (fun _ _=>rfl)) (@ah _) cI) cI) (dO (ak (ak aF)))) rfl)) (@al _ _ _ (bq (aE (b9 hu) (aD EY (ae 1) (@aq _ _ _ _) (fun _ _=>rfl)) (@aH _ _ _ _) (aM _)) (@al _ _ _ (@aY _ _ _ _ (bD JK (hr.mono (by decide)) T.tB (by decide +kernel) aK (ae 0) (@af _ _ _ _ _ (aD EY (ae 1) (@aq _ _ _ _) (fun _ _=>rfl)) (@af _ _ _ _ _ (aD EY (ae 1) (@aq _ _ _ _) (fun _ _=>rfl)) (@af _ _ _ _ _ (aO D_ (hr.mono (by decide)) rfl aK (@af _ _ _ _ _ (aD EY (ae 1) (@aq _ _ _ _) (fun _ _=>rfl)) (@af _ _ _ _ _ (@aq _ _ _ _) (@af _ _ _ _ _ (@aq _ _ _ _) (@ah _) bR) bR) cI) (ak (ak (ak aF)))) (@af _ _ _ _ _ (aO D_ (hr.mono (by decide)) rfl aK (@af _ _ _ _ _ (aD EY (ae 1) (@aq _ _ _ _) (fun _ _=>rfl)) (@af _ _ _ _ _ (@aq _ _ _ _) (@af _ _ _ _ _ (@aq _ _ _ _) (@ah _) bR) bR) cI) (ak (ak (ak aF)))) (@ah _) ju) ju) cI) cI) (dO (ak (ak (ak (ak aF)))))) rfl)) (@al _ _ _ (bq (aE (b9 hu) (aD EY (ae 1) (@aq _ _ _ _) (fun _ _=>rfl)) (@aH _ _ _ _) (aM _)) (@al _ _ _ (@aY _ _ _ _ (bD Ky (hr.mono (by decide)) T.tB (by decide +kernel) aK (ae 0) (@af _ _ _ _ _ (aD EY (ae 1) (@aq _ _ _ _) (fun _ _=>rfl)) (@ah _) cI) (dO (ak aF))) rfl)) (@al _ _ _ (@aY _ _ _ _ (ck JL (hr.mono (by decide)) T.tB (by decide +kernel) aK (ae 0)) rfl))))))))))))))))
theorem Gp:m_ ["_law_strip","_law_told"] ["_law_strip"] (h_ lJ):=FD
def kz(G:Cs):EL:=(aN (cj (dC .B_) (gN 1))
 (aN (pG [G.Ff] (cj (am (gJ G) (ac (aa 0) ai)) (gN 1)) (cj (dC .B_) (gN 1)))
 (bP (aa 1))))
def jD(G:Cs):List D->M D:=mF 2 (kz G)
theorem uB{G:Cs}(T:Txt K mg G)(LK:Gm P w K mg base (w_ P w) "read" 5 ["strip"] (gJ G)){f:Addr}{fd:FuncData}(F:Fj K "_law_read" "_law_read" lJ f fd):Fq P w K mg base (w_ P w) 6 f fd ["_law_strip"] (jD G):=by
 refine fE F Gp fun EC A outer s H E hr=>?_
 have hu:=hr.units;exact(@au _ _ _ _ _ (@bL _ _ _ _ 1 _ _ Gp.nd (@iZ _ _ _) rfl (by first|exact Or.inl rfl|exact Or.inr rfl) rfl (by first|exact .inl rfl|exact .inr rfl|assumption))
   (@au _ _ _ _ _ (yM T.G1 (xA T.Fs Ae) rfl ⟨rfl,rfl⟩ (@al _ _ _ (@bL _ _ _ _ 1 _ _ Gp.nd (aO LK (hr.mono (by decide)) rfl aK (@af _ _ _ _ _ (ae 0) (@ah _) bg) (ak aF)) rfl (by first|exact Or.inl rfl|exact Or.inr rfl) rfl (by first|exact .inl rfl|exact .inr rfl|assumption))) (fun _=>(@al _ _ _ (@bL _ _ _ _ 1 _ _ Gp.nd (@iZ _ _ _) rfl (by first|exact Or.inl rfl|exact Or.inr rfl) rfl (by first|exact .inl rfl|exact .inr rfl|assumption)))))
   (@al _ _ _ (@aU _ _ _ _ (ae 1)))))
theorem Im:m_ ["_law_hand","_law_road","_law_card"] ["_law_hand","_law_road"] (h_ lR):=FD
def kR(G:Cs):EL:=(aN (Fd (dc (bW (f_ bV (aa 0) (aa 1)))) (bP (dC .B_)) bE)
 (aN (cj (am (jD G) (ac (f_ t_ (f_ t_ (f_ bV (aa 0) (aa 1)) (dC (.int 0))) (dC (.int 0))) ai)) (gN 2))
 (aN (kt gq (aa 0) (aa 1) (GF FZ (f_ bV (aa 0) (aa 1)) (bI (dC (.int 1))) bz))
 (aN (Fd (dg (ao (f_ iE (aa 2) (dC .B_))) (ao (f_ EE (aa 1) (dC (.str "there"))))) (kt gq (aa 0) (dC (.str "back")) (f_ bJ (f_ bV (aa 0) (dC (.str "back"))) (eE (Hd (aV G.g_ d_ (cX G) (f_ bV (aa 0) (dC (.str "hearer"))) (ac (aa 2) ai))) (gN 0) gD (cf (ac (am (cP G) (ac (aa 0) ai)) (ac (dC (.bl false)) ai))) 1 []))) (Fd (ao (f_ iE (aa 2) (dC .B_))) (kt gq (aa 0) (dC (.str "there")) (f_ bJ (f_ bV (aa 0) (dC (.str "there"))) (eE (Hd (aV G.c_ a_ (cZ G) (f_ bV (aa 0) (dC (.str "sender"))) (ac (aa 2) ai))) (gN 0) gD (cf (ac (am (cP G) (ac (aa 0) ai)) (ac (dC (.bl false)) ai))) 1 []))) bE))
 (bP (dC .B_))))))
def jy(G:Cs):List D->M D:=mF 3 (kR G)
theorem tE{G:Cs}(T:Txt K mg G)(K_:Gm P w K mg base (w_ P w) "_law_read" 6 ["_law_strip"] (jD G))(Gy:EW P w K mg base (w_ P w) G.g_ "hears" 5 ["self","card"] (cX G))(Gs:Gm P w K mg base (w_ P w) "written" 5 ["card"] (cP G))(Gz:EW P w K mg base (w_ P w) G.c_ "hears" 4 ["self","card"] (cZ G)){f:Addr}{fd:FuncData}(F:Fj K "_law_step" "_law_step" lR f fd):Fq P w K mg base (w_ P w) 7 f fd ["_law_hand","_law_road"] (jy G):=by
 refine fE F Im fun EC A outer s H E hr=>?_
 have hu:=hr.units;exact(@au _ _ _ _ _ (bq (fD (cL (aD (fX hu) (ae 0) (ae 1) (fun _ _=>rfl)))) (@al _ _ _ (@aU _ _ _ _ (@iZ _ _ _))) ba)
   (@au _ _ _ _ _ (@bL _ _ _ _ 2 _ _ Im.nd (aO K_ (hr.mono (by decide)) rfl aK (@af _ _ _ _ _ (aD EY (aD EY (aD (fX hu) (ae 0) (ae 1) (fun _ _=>rfl)) (@aq _ _ _ _) (fun _ _=>rfl)) (@aq _ _ _ _) (fun _ _=>rfl)) (@ah _) cI) (ak aF)) rfl (by first|exact Or.inl rfl|exact Or.inr rfl) rfl (by first|exact .inl rfl|exact .inr rfl|assumption))
   (@au _ _ _ _ _ (io (iK hu) (ae 0) (ae 1) (cH Lq (aD (fX hu) (ae 0) (ae 1) (fun _ _=>rfl)) (cu (@aq _ _ _ _)) dz))
   (@au _ _ _ _ _ (bq (Ir.pt (eF (aE pX (ae 2) (@iZ _ _ _) (aM _)) (dG (aE (b9 hu) (ae 1) (@aH _ _ _ _) (aM _))))) (@al _ _ _ (io (iK hu) (ae 0) (@aH _ _ _ _) (@bC _ _ _ _ _ _ _ _ bX (aD (fX hu) (ae 0) (@aH _ _ _ _) (fun _ _=>rfl)) (fF (own:=["_law_one"]) (capN:=[]) (caps:=[]) ⟨rfl,HB.all trivial,rfl,by decide +kernel,rfl,by decide +kernel,trivial,by decide +kernel⟩ rfl (eB (bD Gy (hr.mono (by decide)) T.n_ (by decide +kernel) aK (aD (fX hu) (ae 0) (@aH _ _ _ _) (fun _ _=>rfl)) (@af _ _ _ _ _ (ae 2) (@ah _) bg) (dO (ak aF)))) (gn (by decide)) (fun C s2 H2 fp=>⟨(cq (i:=0) (show(["_law_one"]:List Str).Nodup from by decide +kernel)),jl,(@b8 _ _ _ _ _ (@af _ _ _ _ _ (aO Gs (hr.mono (by decide)) rfl aK (@af _ _ _ _ _ (ae 0) (@ah _) bg) (ak aF)) (@af _ _ _ _ _ (@iG _ _ _ _) (@ah _) bR) ju))⟩))))) (@al _ _ _ (bq (aE pX (ae 2) (@iZ _ _ _) (aM _)) (@al _ _ _ (io (iK hu) (ae 0) (@aH _ _ _ _) (@bC _ _ _ _ _ _ _ _ bX (aD (fX hu) (ae 0) (@aH _ _ _ _) (fun _ _=>rfl)) (fF (own:=["_law_one"]) (capN:=[]) (caps:=[]) ⟨rfl,HB.all trivial,rfl,by decide +kernel,rfl,by decide +kernel,trivial,by decide +kernel⟩ rfl (eB (bD Gz (hr.mono (by decide)) T.i_ (by decide +kernel) aK (aD (fX hu) (ae 0) (@aH _ _ _ _) (fun _ _=>rfl)) (@af _ _ _ _ _ (ae 2) (@ah _) bg) (dO (ak aF)))) (gn (by decide)) (fun C s2 H2 fp=>⟨(cq (i:=0) (show(["_law_one"]:List Str).Nodup from by decide +kernel)),jl,(@b8 _ _ _ _ _ (@af _ _ _ _ _ (aO Gs (hr.mono (by decide)) rfl aK (@af _ _ _ _ _ (ae 0) (@ah _) bg) (ak aF)) (@af _ _ _ _ _ (@iG _ _ _ _) (@ah _) bR) ju))⟩))))) ba)))
   (@al _ _ _ (@aU _ _ _ _ (@iZ _ _ _)))))))
theorem FW:m_ ["_law_hand","_law_act","_law_row","_law_k","_law_at","_law_cells"] ["_law_hand","_law_act"] (h_ lO):=FD
def kZ:EL:=(aN (cj (f_ bV (aa 0) (f_ t_ (aa 1) (dC (.int 1)))) (gN 2))
 (aN (cj (f_ t_ (aa 1) (dC (.int 2))) (gN 3))
 (aN (Fd (ao (f_ IQ (aa 3) (am bG (ac (aa 2) ai)))) (bP (dC .B_)) bE)
 (aN (Fd (ao (f_ EE (f_ t_ (aa 1) (dC (.int 0))) (dC (.str "lose")))) (kt gq (aa 0) (f_ t_ (aa 1) (dC (.int 1))) (f_ bJ (GF FZ (aa 2) bz (bI (aa 3))) (GF FZ (aa 2) (bI (f_ bJ (aa 3) (dC (.int 1)))) bz))) (Fd (ao (f_ EE (f_ t_ (aa 1) (dC (.int 0))) (dC (.str "double")))) (kt gq (aa 0) (f_ t_ (aa 1) (dC (.int 1))) (f_ bJ (GF FZ (aa 2) bz (bI (f_ bJ (aa 3) (dC (.int 1))))) (GF FZ (aa 2) (bI (aa 3)) bz))) (Fd (dg (dc (bW (f_ t_ (f_ t_ (aa 2) (aa 3)) (dC (.int 1))))) (ao (f_ ML (am aC (ac (f_ t_ (aa 1) (dC (.int 3))) (ac (dC (.int 9817)) (ac (dC (.int 256)) ai)))) (dC (.int 0))))) (aN (cj (f_ jo (am aC (ac (f_ t_ (aa 1) (dC (.int 3))) (ac (dC (.int 9829)) (ac (dC (.int 16)) ai)))) (am bG (ac (f_ t_ (f_ t_ (aa 2) (aa 3)) (dC (.int 0))) ai))) (gN 4))
 (aN (cj (am mG (ac (f_ t_ (f_ t_ (aa 2) (aa 3)) (dC (.int 0))) ai)) (gN 5))
 (aN (kt k9 (aa 5) (aa 4) (f_ jo (f_ bJ (f_ t_ (aa 5) (aa 4)) (am aC (ac (f_ t_ (aa 1) (dC (.int 3))) (ac (dC (.int 9817)) (ac (dC (.int 256)) ai))))) (dC (.int 256))))
 (kt gq (aa 0) (f_ t_ (aa 1) (dC (.int 1))) (f_ bJ (f_ bJ (GF FZ (aa 2) bz (bI (aa 3))) (bZ (ac (cf (ac (am eJ (ac (aa 5) ai)) (ac (dC (.bl true)) ai))) ai))) (GF FZ (aa 2) (bI (f_ bJ (aa 3) (dC (.int 1)))) bz)))))) bE)))
 (bP (dC .B_))))))
def jz:List D->M D:=mF 6 kZ
theorem tK{G:Cs}(T:Txt K mg G)(D_:Gm P w K mg base (w_ P w) "_law_mix" 1 ["_law_cell_here","_law_prime","_law_many"] aC){f:Addr}{fd:FuncData}(F:Fj K "_law_harm" "_law_harm" lO f fd):Fq P w K mg base (w_ P w) 2 f fd ["_law_hand","_law_act"] jz:=by
 refine fE F FW fun EC A outer s H E hr=>?_
 have hu:=hr.units;exact(@au _ _ _ _ _ (@bL _ _ _ _ 2 _ _ FW.nd (aD (fX hu) (ae 0) (aD EY (ae 1) (@aq _ _ _ _) (fun _ _=>rfl)) (fun _ _=>rfl)) rfl (by first|exact Or.inl rfl|exact Or.inr rfl) rfl (by first|exact .inl rfl|exact .inr rfl|assumption))
   (@au _ _ _ _ _ (@bL _ _ _ _ 3 _ _ FW.nd (aD EY (ae 1) (@aq _ _ _ _) (fun _ _=>rfl)) rfl (by first|exact Or.inl rfl|exact Or.inr rfl) rfl (by first|exact .inl rfl|exact .inr rfl|assumption))
   (@au _ _ _ _ _ (bq (aE va (ae 3) (bO dP rfl T.FU PySem.boot_len (@af _ _ _ _ _ (ae 2) (@ah _) bg)) (aM _)) (@al _ _ _ (@aU _ _ _ _ (@iZ _ _ _))) ba)
   (@au _ _ _ _ _ (bq (aE (b9 hu) (aD EY (ae 1) (@aq _ _ _ _) (fun _ _=>rfl)) (@aH _ _ _ _) (aM _)) (@al _ _ _ (io (iK hu) (ae 0) (aD EY (ae 1) (@aq _ _ _ _) (fun _ _=>rfl)) (@bC _ _ _ _ _ _ _ _ bX (cH Lq (ae 2) dz (cu (ae 3))) (cH Lq (ae 2) (cu (@bC _ _ _ _ _ _ _ _ bX (ae 3) (@aq _ _ _ _))) dz)))) (@al _ _ _ (bq (aE (b9 hu) (aD EY (ae 1) (@aq _ _ _ _) (fun _ _=>rfl)) (@aH _ _ _ _) (aM _)) (@al _ _ _ (io (iK hu) (ae 0) (aD EY (ae 1) (@aq _ _ _ _) (fun _ _=>rfl)) (@bC _ _ _ _ _ _ _ _ bX (cH Lq (ae 2) dz (cu (@bC _ _ _ _ _ _ _ _ bX (ae 3) (@aq _ _ _ _)))) (cH Lq (ae 2) (cu (ae 3)) dz)))) (@al _ _ _ (bq (Ir.pt (eF (fD (cL (aD EY (aD EY (ae 2) (ae 3) (fun _ _=>rfl)) (@aq _ _ _ _) (fun _ _=>rfl)))) (dG (aE xI (aO D_ (hr.mono (by decide)) rfl aK (@af _ _ _ _ _ (aD EY (ae 1) (@aq _ _ _ _) (fun _ _=>rfl)) (@af _ _ _ _ _ (@aq _ _ _ _) (@af _ _ _ _ _ (@aq _ _ _ _) (@ah _) bR) bR) cI) (ak (ak (ak aF)))) (@aq _ _ _ _) (aM _))))) (@au _ _ _ _ _ (@bL _ _ _ _ 4 _ _ FW.nd (@bC _ _ _ _ _ _ _ _ iA (aO D_ (hr.mono (by decide)) rfl aK (@af _ _ _ _ _ (aD EY (ae 1) (@aq _ _ _ _) (fun _ _=>rfl)) (@af _ _ _ _ _ (@aq _ _ _ _) (@af _ _ _ _ _ (@aq _ _ _ _) (@ah _) bR) bR) cI) (ak (ak (ak aF)))) (bO dP rfl T.FU PySem.boot_len (@af _ _ _ _ _ (aD EY (aD EY (ae 2) (ae 3) (fun _ _=>rfl)) (@aq _ _ _ _) (fun _ _=>rfl)) (@ah _) cI))) rfl (by first|exact Or.inl rfl|exact Or.inr rfl) rfl (by first|exact .inl rfl|exact .inr rfl|assumption))
   (@au _ _ _ _ _ (@bL _ _ _ _ 5 _ _ FW.nd (dm ue rfl T.LG boot_list (@af _ _ _ _ _ (aD EY (aD EY (ae 2) (ae 3) (fun _ _=>rfl)) (@aq _ _ _ _) (fun _ _=>rfl)) (@ah _) cI)) rfl (by first|exact Or.inl rfl|exact Or.inr rfl) rfl (by first|exact .inl rfl|exact .inr rfl|assumption))
   (@au _ _ _ _ _ (io tY (ae 5) (ae 4) (@bC _ _ _ _ _ _ _ _ iA (@bC _ _ _ _ _ _ _ _ bX (aD EY (ae 5) (ae 4) (fun _ _=>rfl)) (aO D_ (hr.mono (by decide)) rfl aK (@af _ _ _ _ _ (aD EY (ae 1) (@aq _ _ _ _) (fun _ _=>rfl)) (@af _ _ _ _ _ (@aq _ _ _ _) (@af _ _ _ _ _ (@aq _ _ _ _) (@ah _) bR) bR) cI) (ak (ak (ak aF))))) (@aq _ _ _ _)))
   (@al _ _ _ (io (iK hu) (ae 0) (aD EY (ae 1) (@aq _ _ _ _) (fun _ _=>rfl)) (@bC _ _ _ _ _ _ _ _ bX (@bC _ _ _ _ _ _ _ _ bX (cH Lq (ae 2) dz (cu (ae 3))) (@ci _ _ _ _ (@af _ _ _ _ _ (@b8 _ _ _ _ _ (@af _ _ _ _ _ (dm gC rfl T.FE boot_tuple (@af _ _ _ _ _ (ae 5) (@ah _) bg)) (@af _ _ _ _ _ (@iG _ _ _ _) (@ah _) bR) ju)) (@ah _) lu))) (cH Lq (ae 2) (cu (@bC _ _ _ _ _ _ _ _ bX (ae 3) (@aq _ _ _ _))) dz))))))) ba)))))
   (@al _ _ _ (@aU _ _ _ _ (@iZ _ _ _)))))))
theorem px:m_ ["_law_hand","_law_act"] ["_law_hand","_law_act"] (h_ jn):=FD
def ip(G:Cs):EL:=(Fd (ao (f_ EE (f_ t_ (aa 1) (dC (.int 0))) (dC (.str "hand")))) (bx (aV G.c_ a_ (d7 G) (f_ bV (aa 0) (dC (.str "sender"))) (ac (am dL (ac (f_ t_ (aa 1) (dC (.int 1))) (ac (dC (.int 12)) ai))) ai))) (Fd (ao (f_ EE (f_ t_ (aa 1) (dC (.int 0))) (dC (.str "tick")))) (kt gq (aa 0) (dC (.str "there")) (f_ bJ (f_ bV (aa 0) (dC (.str "there"))) (eE (Hd (aV G.c_ a_ (cO G) (f_ bV (aa 0) (dC (.str "sender"))) ai)) (gN 0) gD (cf (ac (am (cP G) (ac (aa 0) ai)) (ac (dC (.bl false)) ai))) 1 []))) (Fd (ao (f_ EE (f_ t_ (aa 1) (dC (.int 0))) (dC (.str "step")))) (bx (am (jy G) (ac (aa 0) (ac (f_ t_ (aa 1) (dC (.int 1))) ai)))) (Fd (ao (f_ EE (f_ t_ (aa 1) (dC (.int 0))) (dC (.str "fall")))) (bx (py (aV G.c_ a_ (d8 G) (f_ bV (aa 0) (f_ t_ (aa 1) (dC (.int 1)))) ai) (aV G.g_ d_ (d9 G) (f_ bV (aa 0) (f_ t_ (aa 1) (dC (.int 1)))) ai))) (Fd (ao (f_ EE (f_ t_ (aa 1) (dC (.int 0))) (dC (.str "open")))) (bx (aV G.c_ a_ (dF G) (f_ bV (aa 0) (dC (.str "sender"))) ai)) (bx (am jz (ac (aa 0) (ac (aa 1) ai)))))))))
def gm(G:Cs):List D->M D:=mF 2 (ip G)
theorem pR{G:Cs}(T:Txt K mg G)(GB:Gm P w K mg base (w_ P w) "_law_message" 2 ["_law_cell_here","_law_longest"] dL)(GK:EW P w K mg base (w_ P w) G.c_ "hand" 2 ["self","message"] (d7 G))(GN:EW P w K mg base (w_ P w) G.c_ "tick" 3 ["self"] (cO G))(Gs:Gm P w K mg base (w_ P w) "written" 5 ["card"] (cP G))(La:Gm P w K mg base (w_ P w) "_law_step" 7 ["_law_hand","_law_road"] (jy G))(GP:EW P w K mg base (w_ P w) G.c_ "fall" 1 ["self"] (d8 G))(GQ:EW P w K mg base (w_ P w) G.g_ "fall" 2 ["self"] (d9 G))(GA:EW P w K mg base (w_ P w) G.c_ "start" 3 ["self"] (dF G))(Lb:Gm P w K mg base (w_ P w) "_law_harm" 2 ["_law_hand","_law_act"] jz){f:Addr}{fd:FuncData}(F:Fj K "_law_by_hand" "_law_by_hand" jn f fd):Fq P w K mg base (w_ P w) 8 f fd ["_law_hand","_law_act"] (gm G):=by
 refine fE F px fun EC A outer s H E hr=>?_
 have hu:=hr.units;exact(@al _ _ _ (bq (aE (b9 hu) (aD EY (ae 1) (@aq _ _ _ _) (fun _ _=>rfl)) (@aH _ _ _ _) (aM _)) (@al _ _ _ (@aY _ _ _ _ (bD GK (hr.mono (by decide)) T.i_ (by decide +kernel) aK (aD (fX hu) (ae 0) (@aH _ _ _ _) (fun _ _=>rfl)) (@af _ _ _ _ _ (aO GB (hr.mono (by decide)) rfl aK (@af _ _ _ _ _ (aD EY (ae 1) (@aq _ _ _ _) (fun _ _=>rfl)) (@af _ _ _ _ _ (@aq _ _ _ _) (@ah _) bR) cI) (ak (ak aF))) (@ah _) ju) (dO (ak aF))) rfl)) (@al _ _ _ (bq (aE (b9 hu) (aD EY (ae 1) (@aq _ _ _ _) (fun _ _=>rfl)) (@aH _ _ _ _) (aM _)) (@al _ _ _ (io (iK hu) (ae 0) (@aH _ _ _ _) (@bC _ _ _ _ _ _ _ _ bX (aD (fX hu) (ae 0) (@aH _ _ _ _) (fun _ _=>rfl)) (fF (own:=["_law_card"]) (capN:=[]) (caps:=[]) ⟨rfl,HB.all trivial,rfl,by decide +kernel,rfl,by decide +kernel,trivial,by decide +kernel⟩ rfl (eB (ck GN (hr.mono (by decide)) T.i_ (by decide +kernel) aK (aD (fX hu) (ae 0) (@aH _ _ _ _) (fun _ _=>rfl)))) (gn (by decide)) (fun C s2 H2 fp=>⟨(cq (i:=0) (show(["_law_card"]:List Str).Nodup from by decide +kernel)),jl,(@b8 _ _ _ _ _ (@af _ _ _ _ _ (aO Gs (hr.mono (by decide)) rfl aK (@af _ _ _ _ _ (ae 0) (@ah _) bg) (ak aF)) (@af _ _ _ _ _ (@iG _ _ _ _) (@ah _) bR) ju))⟩))))) (@al _ _ _ (bq (aE (b9 hu) (aD EY (ae 1) (@aq _ _ _ _) (fun _ _=>rfl)) (@aH _ _ _ _) (aM _)) (@al _ _ _ (@aY _ _ _ _ (aO La (hr.mono (by decide)) rfl aK (@af _ _ _ _ _ (ae 0) (@af _ _ _ _ _ (aD EY (ae 1) (@aq _ _ _ _) (fun _ _=>rfl)) (@ah _) cI) bg) (ak (ak aF))) rfl)) (@al _ _ _ (bq (aE (b9 hu) (aD EY (ae 1) (@aq _ _ _ _) (fun _ _=>rfl)) (@aH _ _ _ _) (aM _)) (@al _ _ _ (@aY _ _ _ _ (CK (ck GP (hr.mono (by decide)) T.i_ (by decide +kernel) aK (aD (fX hu) (ae 0) (aD EY (ae 1) (@aq _ _ _ _) (fun _ _=>rfl)) (fun _ _=>rfl))) (ck GQ (hr.mono (by decide)) T.n_ (by decide +kernel) aK (aD (fX hu) (ae 0) (aD EY (ae 1) (@aq _ _ _ _) (fun _ _=>rfl)) (fun _ _=>rfl)))) rfl)) (@al _ _ _ (bq (aE (b9 hu) (aD EY (ae 1) (@aq _ _ _ _) (fun _ _=>rfl)) (@aH _ _ _ _) (aM _)) (@al _ _ _ (@aY _ _ _ _ (ck GA (hr.mono (by decide)) T.i_ (by decide +kernel) aK (aD (fX hu) (ae 0) (@aH _ _ _ _) (fun _ _=>rfl))) rfl)) (@al _ _ _ (@aY _ _ _ _ (aO Lb (hr.mono (by decide)) rfl aK (@af _ _ _ _ _ (ae 0) (@af _ _ _ _ _ (ae 1) (@ah _) bg) bg) (ak (ak aF))) rfl))))))))))))
theorem oH:m_ ["self","road"] ["self","road"] (h_ ir):=FD
def gI(G:Cs):EL:=(bP (am eJ (ac (eE (Hd (f_ bV (aA G.World k_ 2 (aa 0)) (aa 1))) (gN 0) gD (f_ t_ (aa 0) (dC (.int 0))) 1 []) ai)))
def fH(G:Cs):List D->M D:=mF 2 (gI G)
theorem ou{G:Cs}(T:Txt K mg G){f:Addr}{fd:FuncData}(F:Fj K "on_road" "World.on_road" ir f fd):Fq P w K mg base (w_ P w) 1 f fd ["self","road"] (fH G):=by
 refine fE F oH fun EC A outer s H E hr=>?_
 have hu:=hr.units;exact(@al _ _ _ (@aU _ _ _ _ (dm gC rfl T.FE boot_tuple (@af _ _ _ _ _ (fF (own:=["entry"]) (capN:=[]) (caps:=[]) ⟨rfl,HB.all trivial,rfl,by decide +kernel,rfl,by decide +kernel,trivial,by decide +kernel⟩ rfl (eB (aD (fX hu) (aI T.tB T.Ex bY (ae 0)) (ae 1) (fun _ _=>rfl))) (gn (by decide)) (fun C s2 H2 fp=>⟨(cq (i:=0) (show(["entry"]:List Str).Nodup from by decide +kernel)),jl,(aD EY (ae 0) (@aq _ _ _ _) (fun _ _=>rfl))⟩)) (@ah _) sZ))))
theorem sk:m_ ["_law_found"] ["_law_found"] (h_ kC):=FD
def mK:EL:=(bP (jC (Jv "int" (aa 0)) (xi (Jv "bool" (aa 0)))))
def eT:List D->M D:=mF 1 mK
theorem rG{G:Cs}(T:Txt K mg G){f:Addr}{fd:FuncData}(F:Fj K "_law_whole" "_law_whole" kC f fd):Fq P w K mg base (w_ P w) 1 f fd ["_law_found"] eT:=by
 refine fE F sk fun EC A outer s H E hr=>?_
 have hu:=hr.units;exact(@al _ _ _ (@aU _ _ _ _ (kI (fW (ae 0) rfl T.Fh rfl T.OB boot_int (w5 _)) (mR (Ab (fW (ae 0) rfl T.Fh rfl T.MR boot_bool (u8 _)))))))
theorem nz:m_ ["self"] ["self"] (h_ gc):=FD
def fQ(G:Cs):EL:=(bP (am eJ (ac (aA G.g_ d_ 1 (aA G.World k_ 1 (aa 0))) ai)))
def dy(G:Cs):List D->M D:=mF 1 (fQ G)
theorem mZ{G:Cs}(T:Txt K mg G){f:Addr}{fd:FuncData}(F:Fj K "given_out" "World.given_out" gc f fd):Fq P w K mg base (w_ P w) 1 f fd ["self"] (dy G):=by
 refine fE F nz fun EC A outer s H E hr=>?_
 have hu:=hr.units;exact(@al _ _ _ (@aU _ _ _ _ (dm gC rfl T.FE boot_tuple (af (aI T.n_ T.FJ aX (aI T.tB T.Fw bY (ae 0))) (@ah _)))))
theorem oJ:m_ ["self"] ["self"] (h_ ik):=FD
def gM(G:Cs):EL:=(bP (aA G.c_ a_ 3 (aA G.World k_ 0 (aa 0))))
def cE(G:Cs):List D->M D:=mF 1 (gM G)
theorem oE{G:Cs}(T:Txt K mg G){f:Addr}{fd:FuncData}(F:Fj K "sure_of" "World.sure_of" ik f fd):Fq P w K mg base (w_ P w) 1 f fd ["self"] (cE G):=by
 refine fE F oJ fun EC A outer s H E hr=>?_
 have hu:=hr.units;exact(@al _ _ _ (@aU _ _ _ _ (aI T.i_ T.FA aJ (aI T.tB T.EJ bY (ae 0)))))
theorem nA:m_ ["self"] ["self"] (h_ gE):=FD
def fZ(G:Cs):EL:=(bP (aA G.c_ a_ 5 (aA G.World k_ 0 (aa 0))))
def dJ(G:Cs):List D->M D:=mF 1 (fZ G)
theorem nP{G:Cs}(T:Txt K mg G){f:Addr}{fd:FuncData}(F:Fj K "state_of" "World.state_of" gE f fd):Fq P w K mg base (w_ P w) 1 f fd ["self"] (dJ G):=by
 refine fE F nA fun EC A outer s H E hr=>?_
 have hu:=hr.units;exact(@al _ _ _ (@aU _ _ _ _ (aI T.i_ T.y_ aJ (aI T.tB T.EJ bY (ae 0)))))
theorem mo:m_ ["self","who"] ["self","who"] (h_ fR):=FD
def cG(G:Cs):EL:=(bP (Pu (ao (f_ EE (aa 1) (dC (.str "sender")))) (aA G.c_ a_ 4 (aA G.World k_ 0 (aa 0))) (aA G.g_ d_ 2 (aA G.World k_ 1 (aa 0)))))
def bU(G:Cs):List D->M D:=mF 2 (cG G)
theorem mv{G:Cs}(T:Txt K mg G){f:Addr}{fd:FuncData}(F:Fj K "opening_of" "World.opening_of" fR f fd):Fq P w K mg base (w_ P w) 1 f fd ["self","who"] (bU G):=by
 refine fE F mo fun EC A outer s H E hr=>?_
 have hu:=hr.units;exact(@al _ _ _ (@aU _ _ _ _ (vi (aE (b9 hu) (ae 1) (@aH _ _ _ _) (aM _)) (aI T.i_ T.EO aJ (aI T.tB T.EJ bY (ae 0))) (aI T.n_ T.C_ aX (aI T.tB T.Fw bY (ae 0))))))
theorem GR:m_ ["_law_world","_law_hand","_law_road","_law_found"] ["_law_world","_law_hand"] (h_ kl):=FD
def fC(G:Cs):EL:=(aN (cj (aV G.World k_ (fH G) (aa 0) (ac (aa 2) ai)) (gN 3))
 (Fd (G9 (dc (bW (Jv "tuple" (aa 3)))) (ao (f_ Gr (am mG (ac (aa 3) ai)) (eE (Hd (f_ bV (aa 1) (aa 2))) (gN 0) gD (f_ t_ (aa 0) (dC (.int 0))) 1 [])))) (bP (dC (.bl false))) bE))
def jS(G:Cs):EL:=(aN (qI (Hd (bZ (ac (dC (.str "there")) (ac (dC (.str "back")) ai)))) (gN 2) (fC G))
 (aN (Fd (G9 (ao (f_ Gr (aV G.World k_ (dy G) (aa 0) ai) (am eJ (ac (aA G.g_ d_ 1 (f_ bV (aa 1) (dC (.str "hearer")))) ai)))) (ao (f_ Gr (aV G.World k_ (cE G) (aa 0) ai) (aA G.c_ a_ 3 (f_ bV (aa 1) (dC (.str "sender"))))))) (bP (dC (.bl false))) bE)
 (aN (Fd (G9 (ao (f_ Gr (aV G.World k_ (dJ G) (aa 0) ai) (aA G.c_ a_ 5 (f_ bV (aa 1) (dC (.str "sender")))))) (ao (f_ Gr (aV G.World k_ (bU G) (aa 0) (ac (dC (.str "hearer")) ai)) (aA G.g_ d_ 2 (f_ bV (aa 1) (dC (.str "hearer"))))))) (bP (dC (.bl false))) bE)
 (bP (jC (f_ EE (aV G.World k_ (bU G) (aa 0) (ac (dC (.str "sender")) ai)) (aA G.c_ a_ 4 (f_ bV (aa 1) (dC (.str "sender"))))) (am eT (ac (aV G.World k_ (cE G) (aa 0) ai) ai)))))))
def gp(G:Cs):List D->M D:=mF 4 (jS G)
theorem rD{G:Cs}(T:Txt K mg G)(IU:EW P w K mg base (w_ P w) G.World "on_road" 1 ["self","road"] (fH G))(Io:EW P w K mg base (w_ P w) G.World "given_out" 1 ["self"] (dy G))(Hf:EW P w K mg base (w_ P w) G.World "sure_of" 1 ["self"] (cE G))(ID:EW P w K mg base (w_ P w) G.World "state_of" 1 ["self"] (dJ G))(GC:EW P w K mg base (w_ P w) G.World "opening_of" 1 ["self","who"] (bU G))(Kz:Gm P w K mg base (w_ P w) "_law_whole" 1 ["_law_found"] eT){f:Addr}{fd:FuncData}(F:Fj K "_law_alike" "_law_alike" kl f fd):Fq P w K mg base (w_ P w) 2 f fd ["_law_world","_law_hand"] (gp G):=by
 refine fE F GR fun EC A outer s H E hr=>?_
 have hu:=hr.units;exact(@au _ _ _ _ _ (mY rfl (eB (@ci _ _ _ _ (@af _ _ _ _ _ (@aH _ _ _ _) (@af _ _ _ _ _ (@aH _ _ _ _) (@ah _) bR) bR))) (cq (i:=2) GR.nd) (@au _ _ _ _ _ (@bL _ _ _ _ 3 _ _ GR.nd (bD IU (hr.mono (by decide)) T.tB (by decide +kernel) aK (ae 0) (@af _ _ _ _ _ (ae 2) (@ah _) bg) (dO (ak aF))) rfl (by first|exact Or.inl rfl|exact Or.inr rfl) rfl (by first|exact .inl rfl|exact .inr rfl|assumption))
   (@al _ _ _ (bq (Ir.pt (kf (fD (cL (fW (ae 3) rfl T.Fh rfl T.FE boot_tuple (mi _)))) (kM (aE (mJ hu) (dm ue rfl T.LG boot_list (@af _ _ _ _ _ (ae 3) (@ah _) bg)) (fF (own:=["_law_one"]) (capN:=[]) (caps:=[]) ⟨rfl,HB.all trivial,rfl,by decide +kernel,rfl,by decide +kernel,trivial,by decide +kernel⟩ rfl (eB (aD (fX hu) (ae 1) (ae 2) (fun _ _=>rfl))) (gn (by decide)) (fun C s2 H2 fp=>⟨(cq (i:=0) (show(["_law_one"]:List Str).Nodup from by decide +kernel)),jl,(aD EY (ae 0) (@aq _ _ _ _) (fun _ _=>rfl))⟩)) (aM _))))) (@al _ _ _ (@aU _ _ _ _ (@iG _ _ _ _))) ba))))
   (@au _ _ _ _ _ (bq (Ir.pt (kf (aE (mJ hu) (ck Io (hr.mono (by decide)) T.tB (by decide +kernel) aK (ae 0)) (dm gC rfl T.FE boot_tuple (af (aI T.n_ T.FJ aX (aD (fX hu) (ae 1) (@aH _ _ _ _) (fun _ _=>rfl))) (@ah _))) (aM _)) (kM (aE (mJ hu) (ck Hf (hr.mono (by decide)) T.tB (by decide +kernel) aK (ae 0)) (aI T.i_ T.FA aJ (aD (fX hu) (ae 1) (@aH _ _ _ _) (fun _ _=>rfl))) (aM _))))) (@al _ _ _ (@aU _ _ _ _ (@iG _ _ _ _))) ba)
   (@au _ _ _ _ _ (bq (Ir.pt (kf (aE (mJ hu) (ck ID (hr.mono (by decide)) T.tB (by decide +kernel) aK (ae 0)) (aI T.i_ T.y_ aJ (aD (fX hu) (ae 1) (@aH _ _ _ _) (fun _ _=>rfl))) (aM _)) (kM (aE (mJ hu) (bD GC (hr.mono (by decide)) T.tB (by decide +kernel) aK (ae 0) (@af _ _ _ _ _ (@aH _ _ _ _) (@ah _) bR) (dO (ak aF))) (aI T.n_ T.C_ aX (aD (fX hu) (ae 1) (@aH _ _ _ _) (fun _ _=>rfl))) (aM _))))) (@al _ _ _ (@aU _ _ _ _ (@iG _ _ _ _))) ba)
   (@al _ _ _ (@aU _ _ _ _ (kI (qJ (b9 hu) (bD GC (hr.mono (by decide)) T.tB (by decide +kernel) aK (ae 0) (@af _ _ _ _ _ (@aH _ _ _ _) (@ah _) bR) (dO (ak aF))) (aI T.i_ T.EO aJ (aD (fX hu) (ae 1) (@aH _ _ _ _) (fun _ _=>rfl))) (aM _)) (mR (aO Kz (hr.mono (by decide)) rfl aK (af (ck Hf (hr.mono (by decide)) T.tB (by decide +kernel) aK (ae 0)) (@ah _)) (ak aF)))))))))
theorem IE:m_ ["_law_script","_law_window","_law_most","_law_world","_law_hand","_law_act"] ["_law_script"] (h_ sy):=FD
def qp(G:Cs):EL:=(aN (bx (am (lZ G) (ac (aa 3) (ac (aa 5) ai))))
 (aN (bx (am (gm G) (ac (aa 4) (ac (aa 5) ai))))
 (Fd (dc (bW (am (gp G) (ac (aa 3) (ac (aa 4) ai))))) (bP (dC (.bl false))) bE)))
def wI(G:Cs):EL:=(aN (cj (am gj (ac (aa 0) ai)) (gT [1,2]))
 (aN (cj (am (gx G.World (cQ G)) (ac (aa 1) (ac (aa 2) ai))) (gN 3))
 (aN (cj (mL (dD (dC (.str "there")) (bZ ai) (dD (dC (.str "back")) (bZ ai) (dD (dC (.str "sender")) (am (gx G.c_ (bM G)) (ac (aa 1) (ac (aa 2) ai))) (dD (dC (.str "hearer")) (am (gx G.g_ (bA G)) (ac (aa 1) ai)) nM))))) (gN 4))
 (aN (qI (Hd (am hZ (ac (aa 0) (ac (dC (.bl true)) ai)))) (gN 5) (qp G))
 (bP (dC (.bl true)))))))
def BF(G:Cs):List D->M D:=mF 6 (wI G)
theorem B7{G:Cs}(T:Txt K mg G)(Jn:Gm P w K mg base (w_ P w) "_law_setting" 2 ["_law_script"] gj)(NN:Ko P w K mg base (w_ P w) "World" G.World 3 ["self","window","most"] (cQ G))(Jk:Ko P w K mg base (w_ P w) "Hearer" G.g_ 1 ["self","window"] (bA G))(Jj:Ko P w K mg base (w_ P w) "Sender" G.c_ 1 ["self","window","most"] (bM G))(Lc:Gm P w K mg base (w_ P w) "_law_acts" 2 ["_law_script","_law_falls"] hZ)(Me:Gm P w K mg base (w_ P w) "_law_do" 9 ["_law_world","_law_act"] (lZ G))(Jo:Gm P w K mg base (w_ P w) "_law_by_hand" 8 ["_law_hand","_law_act"] (gm G))(KA:Gm P w K mg base (w_ P w) "_law_alike" 2 ["_law_world","_law_hand"] (gp G)){f:Addr}{fd:FuncData}(F:Fj K "law" "law" sy f fd):Fq P w K mg base (w_ P w) 10 f fd ["_law_script"] (BF G):=by
 refine fE F IE fun EC A outer s H E hr=>?_
 have hu:=hr.units;exact(@au _ _ _ _ _ (Ci (aO Jn (hr.mono (by decide)) rfl aK (@af _ _ _ _ _ (ae 0) (@ah _) bg) (ak aF)) (wx rfl (j5 (cq (i:=1) IE.nd) (j5 (cq (i:=2) IE.nd) um))))
   (@au _ _ _ _ _ (@bL _ _ _ _ 3 _ _ IE.nd (nY NN (hr.mono (by decide)) rfl aK (@af _ _ _ _ _ (ae 1) (@af _ _ _ _ _ (ae 2) (@ah _) bg) bg) (dO (ak (ak aF)))) rfl (by first|exact Or.inl rfl|exact Or.inr rfl) rfl (by first|exact .inl rfl|exact .inr rfl|assumption))
   (@au _ _ _ _ _ (@bL _ _ _ _ 4 _ _ IE.nd (wS (j3 (@aH _ _ _ _) (@ci _ _ _ _ (@ah _)) (j3 (@aH _ _ _ _) (@ci _ _ _ _ (@ah _)) (j3 (@aH _ _ _ _) (nY Jj (hr.mono (by decide)) rfl aK (@af _ _ _ _ _ (ae 1) (@af _ _ _ _ _ (ae 2) (@ah _) bg) bg) (dO (ak (ak aF)))) (j3 (@aH _ _ _ _) (nY Jk (hr.mono (by decide)) rfl aK (@af _ _ _ _ _ (ae 1) (@ah _) bg) (dO (ak aF))) wU))))) rfl (by first|exact Or.inl rfl|exact Or.inr rfl) rfl (by first|exact .inl rfl|exact .inr rfl|assumption))
   (@au _ _ _ _ _ (mY rfl (eB (aO Lc (hr.mono (by decide)) rfl aK (@af _ _ _ _ _ (ae 0) (@af _ _ _ _ _ (@iG _ _ _ _) (@ah _) bR) bg) (ak (ak aF)))) (cq (i:=5) IE.nd) (@au _ _ _ _ _ (@aY _ _ _ _ (aO Me (hr.mono (by decide)) rfl aK (@af _ _ _ _ _ (ae 3) (@af _ _ _ _ _ (ae 5) (@ah _) bg) bg) (ak (ak aF))) rfl)
   (@au _ _ _ _ _ (@aY _ _ _ _ (aO Jo (hr.mono (by decide)) rfl aK (@af _ _ _ _ _ (ae 4) (@af _ _ _ _ _ (ae 5) (@ah _) bg) bg) (ak (ak aF))) rfl)
   (@al _ _ _ (bq (fD (cL (aO KA (hr.mono (by decide)) rfl aK (@af _ _ _ _ _ (ae 3) (@af _ _ _ _ _ (ae 4) (@ah _) bg) bg) (ak (ak aF))))) (@al _ _ _ (@aU _ _ _ _ (@iG _ _ _ _))) ba)))))
   (@al _ _ _ (@aU _ _ _ _ (@iG _ _ _ _)))))))
end
end Lw
namespace Lw
abbrev GS:=List Int
abbrev Pc:=Int×List Int
inductive x_ where
 |Ey (o:Nat)|v_ (o:Nat)|Hb (o:Nat)|data (o n:Nat) (p:Pc)|note (o n:Nat) (bs:List Int)
 deriving DecidableEq
def oA(k:Nat):Nat->GS->List Pc
 |0,m=>[(1,m)]
 |n+1,m=>if k<m.length then (0,m.take k) :: oA k n (m.drop k) else [(1,m)]
def lr(k:Nat)(m:GS):List Pc:=oA k 100 m
def bw(ps:List Pc):GS:=ps.flatMap (·.2)
def G3(ps:List Pc):Nat:=(ps.filter fun p=>decide (p.1=1)).length
def lD(num low:Int)(w:Nat):Int:=low+(num-low) % (2 * (w:Int))
structure Hr where
 w:Nat
 given:List (Nat×GS)
 op:Nat
 nx:Nat
 early:List (Nat×Pc)
 begun:List Pc
namespace Hr
def new(w:Nat):Hr:=⟨w,[],0,0,[],[]⟩
def begin_(h:Hr)(o:Nat):Hr:={ h with op:=o,nx:=0,early:=[],begun:=[] }
def Fz(h:Hr):Hr:=h.begin_ 0
def idx(h:Hr)(num:Nat):Int:=lD num ((h.nx:Int)-h.w) h.w
def keep(h:Hr)(num:Nat)(p:Pc):Hr:=if num<2 * h.w/\(h.nx:Int)<=h.idx num/\h.early.lookup (h.idx num).toNat=none then { h with early:=h.early++[((h.idx num).toNat,p)] } else h
def take(h:Hr)(p:Pc):Hr:=if p.1=1 then { h with given:=h.given++[(h.op,bw (h.begun++[p]))],begun:=[] } else { h with begun:=h.begun++[p] }
def pop(h:Hr):Hr:={ h with early:=h.early.filter fun e=>decide (e.1≠h.nx),nx:=h.nx+1 }
def Fn:Nat->Hr->Hr
 |0,h=>h
 |n+1,h=>match h.early.lookup h.nx with
  |none=>h
  |some p=>Fn n (h.pop.take p)
def bits(h:Hr):List Int:=(List.range h.w).map fun k=>if (h.early.lookup (h.nx+k)).isSome then 1 else 0
def note(h:Hr):x_:=.note h.op (h.nx % (2 * h.w)) h.bits
def data(h:Hr)(num:Nat)(p:Pc):Hr:=Fn (h.keep num p).early.length (h.keep num p)
def s_(h:Hr):x_->Hr×List x_
 |.Ey o=>if o<h.op then (h,[]) else if h.op<o then (h.begin_ o,[.v_ o]) else (h,[.v_ o])
 |.data o n p=>if o<h.op then (h,[]) else if h.op<o then (h,[.Hb o]) else (h.data n p,[(h.data n p).note])
 |_=>(h,[])
end Hr
inductive St where
 |G4|opening|opened
 deriving DecidableEq
structure Sr where
 w:Nat
 most:Nat
 msgs:List GS
 sure:Nat
 op:Nat
 st:St
 ps:List Pc
 base:Nat
 ES:List Nat
namespace Sr
def new(w most:Nat):Sr:=⟨w,most,[],0,0,.G4,[],0,[]⟩
def hand(s:Sr)(m:GS):Sr:={ s with msgs:=s.msgs++[m],ps:=if s.st=.G4 then s.ps else s.ps++lr s.most m }
def anew(s:Sr):Sr:={ s with op:=s.op+1,st:=.opening,ps:=(s.msgs.drop s.sure).flatMap (lr s.most),base:=0,ES:=[] }
def start(s:Sr):Sr:=if s.st=.G4 then s.anew else s
def Fz(s:Sr):Sr:={ s with st:=.G4 }
def wanted(s:Sr):List Nat:=(List.range' s.base (min (s.base+s.w) s.ps.length-s.base)).filter fun i=>decide (i∉s.ES)
def dataOf(s:Sr)(i:Nat):x_:=.data s.op (i % (2 * s.w)) (s.ps.getD i (0,[]))
def tick(s:Sr):List x_:=match s.st with
 |.G4=>[]
 |.opening=>[.Ey s.op]
 |.opened=>s.wanted.map s.dataOf
def Fo(s:Sr):Nat->List Int->Sr
 |_,[]=>s
 |k,b :: bs=>Fo (if b=1/\s.base+k<s.ps.length/\s.base+k∉s.ES then { s with ES:=s.ES++[s.base+k] } else s) (k+1) bs
def Ip(s:Sr)(i:Nat):Sr:={ s with sure:=s.sure+G3 ((s.ps.take i).drop s.base),base:=i }
def ED(s:Sr)(num:Nat)(bs:List Int):Sr:=
 if num<2 * s.w/\lD num s.base s.w<=min (s.base+s.w) s.ps.length then (s.Ip (lD num s.base s.w).toNat).Fo 0 bs else s
def s_(s:Sr):x_->Sr
 |.v_ o=>if o=s.op/\s.st=.opening then { s with st:=.opened } else s
 |.Hb o=>if o=s.op/\s.st=.opened then s.anew else s
 |.note o n bs=>if o=s.op/\s.st=.opened then s.ED n bs else s
 |_=>s
end Sr
end Lw
namespace Lw
theorem lP(a b:List Pc):bw (a++b)=bw a++bw b:=by simp[bw]
theorem sN(k:Nat):∀(n:Nat) (m:GS),∃pre l,oA k n m=pre++[(1,l)]/\(∀p∈pre,p.1=0)/\bw pre++l=m
 |0,m=>⟨[],m,rfl,by simp,by simp[bw]⟩
 |n+1,m=>by
  unfold oA;split
  ·obtain⟨pre,l,h1,h2,h3⟩:=sN k n (m.drop k);refine⟨(0,m.take k) :: pre,l,by rw[h1];rfl,?_,?_⟩
   ·intro p hp;rcases List.mem_cons.mp hp with rfl|hp
    ·rfl
    ·exact h2 p hp
   ·rw[show bw ((0,m.take k) :: pre)=m.take k++bw pre by simp[bw],List.append_assoc,h3,List.take_append_drop]
  ·exact⟨[],m,rfl,by simp,by simp[bw]⟩
theorem yf(k:Nat)(m:GS):∃pre l,lr k m=pre++[(1,l)]/\(∀p∈pre,p.1=0)/\bw pre++l=m:=sN k 100 m
theorem rf(k:Nat)(m:GS):∀p∈lr k m,p.1=0\/p.1=1:=by
 obtain⟨pre,l,h1,h2,_⟩:=yf k m;intro p hp;rw[h1] at hp;rcases List.mem_append.mp hp with hp|hp
 ·exact .inl (h2 p hp)
 ·rw[List.mem_singleton.mp hp];exact .inr rfl
def DT(x:List GS×List Pc)(p:Pc):List GS×List Pc:=if p.1=1 then (x.1++[bw (x.2++[p])],[]) else (x.1,x.2++[p])
def Yh(ps:List Pc):List GS×List Pc:=ps.foldl DT ([],[])
def fl(k:Nat)(ms:List GS):List Pc:=ms.flatMap (lr k)
theorem xT(k:Nat)(a b:List GS):fl k (a++b)=fl k a++fl k b:=by simp[fl]
theorem Bf(k:Nat)(m:GS)(ms:List GS):fl k (m :: ms)=lr k m++fl k ms:=by simp[fl]
theorem zX(k:Nat)(ms:List GS):∀p∈fl k ms,p.1=0\/p.1=1:=by
 intro p hp;obtain⟨m,_,h⟩:=List.mem_flatMap.mp hp;exact rf k m p h
end Lw
namespace Lw
open PySem L2 DL
def E5(p:Pc):D:=.tup [.int p.1,.tup (p.2.map D.int)]
def E3(m:GS):D:=.tup (m.map D.int)
def l_:x_->D
 |.Ey o=>.tup [.str "hello",.int (o:Int)]
 |.v_ o=>.tup [.str "welcome",.int (o:Int)]
 |.Hb o=>.tup [.str "who",.int (o:Int)]
 |.data o n p=>.tup [.str "data",.int (o:Int),.int (n:Int),E5 p]
 |.note o n bs=>.tup [.str "note",.int (o:Int),.int (n:Int),.tup (bs.map D.int)]
theorem dA{S:List Cell}{i j:Nat}{c d:Cell}(h1:S[i]?=some c)(h2:S[j]?=some d)(h:c≠d):i≠j:=fun e=>h (by subst e;rw[h1] at h2;injection h2)
theorem dB(n:Nat):∀is:List Int,jJ n (is.map D.int)
 |[]=>by simp[jJ]
 |i :: is=>by simp[jJ,FY,dB n is]
theorem Ce(n:Nat)(x:GS):FY n (E3 x):=by simp[E3,FY,dB]
theorem CU(n:Nat)(p:Pc):FY n (E5 p):=by simp[E5,FY,jJ,dB]
theorem y7(n:Nat):∀ps:List Pc,jJ n (ps.map E5)
 |[]=>by simp[jJ]
 |p :: ps=>by rw[List.map_cons];exact⟨CU n p,y7 n ps⟩
end Lw
namespace Lw
open PySem L2 DL
theorem vF{k:Nat}(hk:1<=k):∀(n:Nat) (m:GS),(oA k n m).length<=m.length+1
 |0,m=>by simp[oA]
 |n+1,m=>by
  unfold oA;split
  ·have:=vF hk n (m.drop k);rw[List.length_drop] at this;rw[List.length_cons];omega
  ·simp
theorem nF{k:Nat}(hk:1<=k)(m:GS):(lr k m).length<=m.length+1:=vF hk 100 m
theorem o6{k:Nat}(hk:1<=k){x0 x1:Option D}{S:List Cell}:∀(fuel:Nat) (acc:List Pc) (m:GS),m.length<fuel->acc.length+m.length<1000000->∃pre l,oA k fuel m=pre++[(1,l)]/\pre.length<=m.length/\
  gF (ao (f_ ML (am bG (ac (aa 4) ai)) (aa 2))) (aN (bx (Ij kT (aa 3) (ac (cf (ac (dC (.int 0)) (ac (GF FZ (aa 4) bz (bI (aa 2))) ai))) ai)))
 (cj (GF FZ (aa 4) (bI (aa 2)) bz) (gN 4))) fuel [x0,x1,some (.int (k:Int)),some (.ob S.length),some (E3 m)] (S++[.lst (acc.map E5)])=some (.nx [x0,x1,some (.int (k:Int)),some (.ob S.length),some (E3 l)],S++[.lst ((acc++pre).map E5)])
 |0,_,_,h,_=>by omega
 |f+1,acc,m,h,hz=>by
  have t1:ao (f_ ML (am bG (ac (aa 4) ai)) (aa 2)) [x0,x1,some (.int (k:Int)),some (.ob S.length),some (E3 m)] (S++[.lst (acc.map E5)])=.ok (decide (k<m.length)) (S++[.lst (acc.map E5)]):=by
   refine az (ar (x:=.int (m.length:Int)) (ay (ag rfl aj) (by unfold E3;rw[cx,List.length_map])) rfl ?_);rw[A4];congr 2;rw[decide_eq_decide];omega
  by_cases hc:k<m.length
  ·rw[decide_eq_true hc] at t1;obtain⟨pre,l,p1,p2,p3⟩:=o6 (x0:=x0) (x1:=x1) (S:=S) hk f (acc++[(0,m.take k)]) (m.drop k) (by rw[List.length_drop];omega) (by rw[List.length_append,List.length_drop,List.length_singleton];omega);refine⟨(0,m.take k) :: pre,l,?_,?_,?_⟩
   ·rw[oA,if_pos hc,p1];rfl
   ·rw[List.length_drop] at p2;rw[List.length_cons];omega
   ·have c1:gr (m.map D.int) none (some (k:Int))=(m.take k).map D.int:=by rw[sC (by simp;omega),List.map_take]
    have c2:gr (m.map D.int) (some (k:Int)) none=(m.drop k).map D.int:=by rw[eO (by simp;omega),List.map_drop]
    have s1:∀T,GF FZ (aa 4) bz (bI (aa 2)) [x0,x1,some (.int (k:Int)),some (.ob S.length),some (E3 m)] T=.ok (E3 (m.take k)) T:=fun T=>by
     simp only[mM,aw,kO,List.getElem?_cons_succ,List.getElem?_cons_zero,eS,j0,gz,gZ,E3,FZ,c1]
    have s2:∀T,GF FZ (aa 4) (bI (aa 2)) bz [x0,x1,some (.int (k:Int)),some (.ob S.length),some (E3 m)] T=.ok (E3 (m.drop k)) T:=fun T=>by
     simp only[mM,aw,kO,List.getElem?_cons_succ,List.getElem?_cons_zero,eS,j0,gz,gZ,E3,FZ,c2]
    have HP:∀a c:Cell,(S++[a]).set S.length c=S++[c]:=fun a c=>by rw[List.set_append_right _ _ (Nat.le_refl _)];simp
    have ee:=ve (S:=S++[.lst (acc.map E5)]) (n:=S.length) (xs:=acc.map E5) (d:=E5 (0,m.take k)) (bh rfl) (by simp;omega);rw[HP] at ee;have e2:acc.map E5++[E5 (0,m.take k)]=(acc++[(0,m.take k)]).map E5:=by simp
    rw[e2] at ee;rw[Dr t1 (r2:=[x0,x1,some (.int (k:Int)),some (.ob S.length),some (E3 (m.drop k))]) (S2:=S++[.lst ((acc++[(0,m.take k)]).map E5)])]
    ·rw[p3];simp
    ·rw[ax (bc (mH rfl (bh rfl) (ag (bQ (ag rfl (ag (s1 _) aj)) (by simp)) aj) ee)),bB (s2 _)];rfl
  ·rw[decide_eq_false hc] at t1;refine⟨[],m,by rw[oA,if_neg hc];rfl,by simp,?_⟩;rw[Cr t1,List.append_nil]
theorem tf{k:Nat}(hk:1<=k){m:GS}(hm:m.length<=40)(S:List Cell):dM [E3 m,.int (k:Int)] S=.ok (.tup ((lr k m).map E5)) S:=by
 show cY S (ko 100 [some (E3 m),some (.int (k:Int)),none,none,none] S)=_;unfold ko;have SK:B6 [.int (k:Int),.int 1] S=.ok (.int (k:Int)) S:=by
  rw[Ds];congr 2;omega
 rw[ax (bB (ay (ag rfl (ag rfl aj)) SK))];show cY S (aN _ _ [some (E3 m),some (.int (k:Int)),some (.int (k:Int)),none,none] S)=_;rw[ax (bB (cb aj (by decide)))];show cY S (aN _ _ [some (E3 m),some (.int (k:Int)),some (.int (k:Int)),some (.ob S.length),none] (S++[.lst []]))=_;rw[ax (bB (d:=E3 m) rfl)];show cY S (aN _ _ [some (E3 m),some (.int (k:Int)),some (.int (k:Int)),some (.ob S.length),some (E3 m)] (S++[.lst []]))=_;obtain⟨pre,l,p1,p2,p3⟩:=o6 (x0:=some (E3 m)) (x1:=some (.int (k:Int))) (S:=S) hk 100 [] m (by omega) (by simp;omega);rw[List.map_nil] at p3;have HP:∀a c:Cell,(S++[a]).set S.length c=S++[c]:=fun a c=>by rw[List.set_append_right _ _ (Nat.le_refl _)];simp
 have ee:=ve (S:=S++[.lst (pre.map E5)]) (n:=S.length) (xs:=pre.map E5) (d:=E5 (1,l)) (bh rfl) (by simp;omega);rw[HP] at ee;have e2:pre.map E5++[E5 (1,l)]=(lr k m).map E5:=by unfold lr;rw[p1];simp
 rw[e2] at ee;rw[ax p3,List.nil_append,ax (bc (mH rfl (bh rfl) (ag (bQ (ag rfl (ag rfl aj)) (by simp)) aj) ee)),aP (ay (ag (x:=.ob S.length) rfl aj) (dR (bh rfl)))];exact lX (by unfold FY;exact y7 _ _)
end Lw
namespace Lw
open PySem L2 DL
def MU:St->Str
 |.G4=>"shut"
 |.opening=>"opening"
 |.opened=>"open"
def Mu(l:List Nat):List (Key×D):=l.map fun(k:Nat)=>(Sum.inl (k:Int),.bl true)
structure EX(G:Cs)(S:List Cell)(n m p q:Nat)(s:Sr):Prop where
 ob:S[n]?=some (.ins G.c_ a_ [.int (s.w:Int),.int (s.most:Int),.ob m,.int (s.sure:Int),.int (s.op:Int),.str (MU s.st),.ob p,.int (s.base:Int),.ob q])
 ms:S[m]?=some (.lst (s.msgs.map E3))
 ps:S[p]?=some (.lst (s.ps.map E5))
 nt:S[q]?=some (.FN (Mu s.ES))
 mp:m≠p
section
variable{G:Cs}{S S' S1 S2:List Cell}{n m p q p1 q1 p2 q2 p' q':Nat}{s s' s1 s2:Sr}
theorem EX.nm(a:EX G S n m p q s):n≠m:=dA a.ob a.ms (by intro z;cases z)
theorem EX.np(a:EX G S n m p q s):n≠p:=dA a.ob a.ps (by intro z;cases z)
theorem EX.nq(a:EX G S n m p q s):n≠q:=dA a.ob a.nt (by intro z;cases z)
theorem EX.mq(a:EX G S n m p q s):m≠q:=dA a.ms a.nt (by intro z;cases z)
theorem EX.pq(a:EX G S n m p q s):p≠q:=dA a.ps a.nt (by intro z;cases z)
theorem EX.push(a:EX G S n m p q s)(c:List Cell):EX G (S++c) n m p q s:=⟨aG a.ob,aG a.ms,aG a.ps,aG a.nt,a.mp⟩
structure FX(G:Cs)(n m p q:Nat)(S:List Cell)(p' q':Nat)(S':List Cell)(s':Sr):Prop where
 at_:EX G S' n m p' q' s'
 fr:Fr [n,m,p,q] S S'
 p_:p'=p\/S.length<=p'
 q_:q'=q\/S.length<=q'
theorem FX.trans(a:FX G n m p q S p1 q1 S1 s1)(c:FX G n m p1 q1 S1 p2 q2 S2 s2):FX G n m p q S p2 q2 S2 s2:=by
 have hl:=a.fr.1;refine⟨c.at_,a.fr.trans c.fr fun i hi hs=>?_,?_,?_⟩
 ·simp only[List.mem_cons,List.not_mem_nil,or_false] at hi ⊢;have he:=a.p_;have hb:=a.q_;omega
 ·have:=a.p_;have:=c.p_;omega
 ·have:=a.q_;have:=c.q_;omega
theorem FX.refl(a:EX G S n m p q s):FX G n m p q S p q S s:=⟨a,Fr.refl _ _,.inl rfl,.inl rfl⟩
theorem FX.push(a:FX G n m p q S p' q' S' s')(c:List Cell):FX G n m p q S p' q' (S'++c) s':=⟨a.at_.push c,a.fr.tr Fr.push,a.p_,a.q_⟩
theorem za(a:EX G S n m p q s)(r:o_):aA G.c_ a_ 0 (aa 0) (some (.ob n) :: r) S=.ok (.int (s.w:Int)) S:=bK rfl a.ob rfl
theorem xb(a:EX G S n m p q s)(r:o_):aA G.c_ a_ 1 (aa 0) (some (.ob n) :: r) S=.ok (.int (s.most:Int)) S:=bK rfl a.ob rfl
theorem BK(a:EX G S n m p q s)(r:o_):aA G.c_ a_ 2 (aa 0) (some (.ob n) :: r) S=.ok (.ob m) S:=bK rfl a.ob rfl
theorem Al(a:EX G S n m p q s)(r:o_):aA G.c_ a_ 3 (aa 0) (some (.ob n) :: r) S=.ok (.int (s.sure:Int)) S:=bK rfl a.ob rfl
theorem Aa(a:EX G S n m p q s)(r:o_):aA G.c_ a_ 4 (aa 0) (some (.ob n) :: r) S=.ok (.int (s.op:Int)) S:=bK rfl a.ob rfl
theorem sQ(a:EX G S n m p q s)(r:o_):aA G.c_ a_ 5 (aa 0) (some (.ob n) :: r) S=.ok (.str (MU s.st)) S:=bK rfl a.ob rfl
theorem qV(a:EX G S n m p q s)(r:o_):aA G.c_ a_ 6 (aa 0) (some (.ob n) :: r) S=.ok (.ob p) S:=bK rfl a.ob rfl
theorem lW(a:EX G S n m p q s)(r:o_):aA G.c_ a_ 7 (aa 0) (some (.ob n) :: r) S=.ok (.int (s.base:Int)) S:=bK rfl a.ob rfl
theorem DA(a:EX G S n m p q s)(r:o_):aA G.c_ a_ 8 (aa 0) (some (.ob n) :: r) S=.ok (.ob q) S:=bK rfl a.ob rfl
theorem uS(a b:St)(S:List Cell):EE (.str (MU a)) (.str (MU b)) S=.ok (.bl (decide (a=b))) S:=by
 cases a<;>cases b<;>exact bi
theorem Dh(a b:St)(S:List Cell):Gr (.str (MU a)) (.str (MU b)) S=.ok (.bl (!decide (a=b))) S:=by
 cases a<;>cases b<;>exact zB
structure Sb(N:Nat)(s:Sr):Prop where
 most:1<=s.most
 ml:s.msgs.length<=N
 Nl:∀x,x∈s.msgs->x.length<=40
 pl:s.ps.length<=41 * N
 fg:∀x,x∈s.ps->x.1=0\/x.1=1
 nl:s.ES.length<=7 * N
theorem wL{k:Nat}(hk:1<=k):∀{ms:List GS},(∀x,x∈ms->x.length<=40)->(fl k ms).length<=41 * ms.length
 |[],_=>by simp[fl]
 |x :: ms,h=>by
  have h1:=nF hk x;have h2:=h x (by simp);have h3:=wL hk (ms:=ms) fun y hy=>h y (List.mem_cons_of_mem _ hy)
  rw[Bf,List.length_append,List.length_cons];omega
theorem Sb.mono{N M:Nat}(b:Sb N s)(h:N<=M):Sb M s:=⟨b.most,Nat.le_trans b.ml h,b.Nl,by have:=b.pl;omega,b.fg,by have:=b.nl;omega⟩
theorem Sb.hand{N:Nat}{x:GS}(b:Sb N s)(hx:x.length<=40):Sb (N+1) (s.hand x):=by
 have h1:=b.ml;have h2:=b.pl;have h3:=nF b.most x;refine⟨b.most,?_,?_,?_,?_,by have:=b.nl;show s.ES.length<=_;omega⟩
 ·show(s.msgs++[x]).length<=_;rw[List.length_append,List.length_singleton];omega
 ·intro y hy;rcases List.mem_append.mp hy with hy|hy
  ·exact b.Nl y hy
  ·rw[List.mem_singleton.mp hy];exact hx
 ·show(if s.st=.G4 then s.ps else s.ps++lr s.most x).length<=_;split
  ·omega
  ·rw[List.length_append];omega
 ·intro y hy;have SM:y∈(if s.st=.G4 then s.ps else s.ps++lr s.most x):=hy;split at SM
  ·exact b.fg y SM
  ·rcases List.mem_append.mp SM with hy|hy
   ·exact b.fg y hy
   ·exact rf _ _ y hy
theorem Sb.anew{N:Nat}(b:Sb N s):Sb N s.anew:=by
 refine⟨b.most,b.ml,b.Nl,?_,zX _ _,Nat.zero_le _⟩;have:=wL b.most (ms:=s.msgs.drop s.sure) fun x hx=>b.Nl x (List.mem_of_mem_drop hx)
 rw[List.length_drop] at this;have h1:=b.ml;show(fl s.most (s.msgs.drop s.sure)).length<=_;omega
theorem wV{N:Nat}(a:EX G S n m p q s)(b:Sb N s)(hN:N<20000){x:GS}(hx:x.length<=40):∃S',d7 G [.ob n,E3 x] S=.ok .B_ S'/\FX G n m p q S p q S' (s.hand x):=by
 show ∃S',fin S (iY G [some (.ob n),some (E3 x)] S)=_/\_;unfold iY;have hml:=b.ml;have Kd:=b.pl;have L_:=nF b.most x;obtain⟨S1,q1,c1⟩:=tO (fo:=aA G.c_ a_ 2 (aa 0)) (ft:=ac (aa 1) ai) (r:=[some (.ob n),some (E3 x)]) (BK a _) a.ms (ag rfl aj) (by rw[List.length_map];omega);have a1:EX G S1 n m p q { s with msgs:=s.msgs++[x] }:=⟨c1.old a.ob a.nm.symm,by simpa using c1.at_,c1.old a.ps a.mp,c1.old a.nt a.mq,a.mp⟩;have f1:Fr [n,m,p,q] S S1:=c1.fp (by simp);rw[ax (bc q1)];have t1:ao (f_ Gr (aA G.c_ a_ 5 (aa 0)) (dC (.str "shut"))) [some (.ob n),some (E3 x)] S1=.ok (!decide (s.st=.G4)) S1:=az (ar (sQ a1 _) rfl (Dh s.st .G4 _));by_cases hs:s.st=.G4
 ·rw[decide_eq_true hs] at t1;have e1:s.hand x = { s with msgs:=s.msgs++[x] }:=by unfold Sr.hand;rw[if_pos hs]
  rw[av t1,e1];exact⟨S1,rfl,a1,f1,.inl rfl,.inl rfl⟩
 ·rw[decide_eq_false hs] at t1;have e1:s.hand x = { s with msgs:=s.msgs++[x],ps:=s.ps++lr s.most x }:=by unfold Sr.hand;rw[if_neg hs]
  obtain⟨S2,q2,c2⟩:=zd (fo:=aA G.c_ a_ 6 (aa 0)) (ft:=ac (am dM (ac (aa 1) (ac (aA G.c_ a_ 1 (aa 0)) ai))) ai) (r:=[some (.ob n),some (E3 x)]) (qV a1 _) a1.ps
   (ag (ay (ag rfl (ag (xb a1 _) aj)) (tf b.most hx S1)) aj) (by rw[List.length_map,List.length_map];show s.ps.length+_<=_;omega)
  rw[aQ t1,bc q2,e1];refine⟨S2,rfl,⟨c2.old a1.ob a.np.symm,c2.old a1.ms a.mp.symm,by simpa using c2.at_,c2.old a1.nt a.pq,a.mp⟩,f1.tr (c2.fp (by simp)),.inl rfl,.inl rfl⟩
end
end Lw
namespace Lw
open PySem L2 DL
section
variable{G:Cs}{S S' S1 S2:List Cell}{n m p q p1 q1 p2 q2 p' q':Nat}{s s' s1 s2:Sr}
theorem xw(a:EX G S n m p q s):∃S',d8 G [.ob n] S=.ok .B_ S'/\FX G n m p q S p q S' s.Fz:=by
 show ∃S',fin S (jd G [some (.ob n)] S)=_/\_;unfold jd;obtain⟨S1,q1,c1⟩:=iz (fo:=aa 0) (fe:=dC (.str "shut")) (r:=[some (.ob n)]) (i:=5) rfl rfl a.ob rfl;rw[q1];exact⟨S1,rfl,⟨c1.at_,c1.old a.ms a.nm,c1.old a.ps a.np,c1.old a.nt a.nq,a.mp⟩,c1.fp (by simp),.inl rfl,.inl rfl⟩
end
end Lw
namespace Lw
open PySem L2 DL
section
variable{G:Cs}{S S' S1 S2:List Cell}{n m p q p1 q1 p2 q2 p' q':Nat}{s s' s1 s2:Sr}{N:Nat}
theorem yU{k:Nat}{ms:List GS}{i:Nat}{x:GS}(h:ms[i]?=some x):fl k (ms.take (i+1))=fl k (ms.take i)++lr k x:=by
 rw[List.take_add_one,h,Option.toList_some,xT];simp[fl]
theorem yi{s:Sr}(b:Sb N s)(hN:N<=20000){ms:List GS}(Q8:∀x,x∈ms->x.length<=40)(hl:ms.length<=N){kk:Nat}{x1:Option D}(a:EX G S n m p q s)(Yi:s.ps=[])(hk:S[kk]?=some (.lst (ms.map E3)))(V4:kk≠p) :
  ∃S' OD,iU (some (kk,ms.map E3)) (gN 1) (el G) (ms.map E3) [some (.ob n),x1] S=some (.nx [some (.ob n),OD],S')/\EX G S' n m p q { s with ps:=fl s.most ms }/\Fr [p] S S':=by
 obtain⟨r',S',e,OD,rfl,a',f',_⟩:=eN (g:=some (kk,ms.map E3)) (tg:=gN 1) (b:=el G)
  (fun i r S'=>∃OD,r=[some (.ob n),OD]/\EX G S' n m p q { s with ps:=fl s.most (ms.take i) }/\Fr [p] S S'/\S'[kk]?=some (.lst (ms.map E3))) (ms.map E3) 0 [some (.ob n),x1] S
  (by
   rintro i y r S' hy ⟨OD,rfl,a',f',k'⟩;rw[List.getElem?_map] at hy;cases hx:ms[i]? with
   |none=>rw[hx] at hy;cases hy
   |some x=>
    rw[hx] at hy;cases hy;rw[Nat.zero_add] at a' ⊢;have Yj:=List.mem_of_getElem? hx;have OR:=(List.getElem?_eq_some_iff.mp hx).1;have l1:=wL b.most (ms:=ms.take i) fun y hy=>Q8 y (List.mem_of_mem_take hy)
    have l2:=nF b.most x;have l3:=Q8 x Yj;rw[List.length_take] at l1;obtain⟨S2,q2,c2⟩:=zd (fo:=aA G.c_ a_ 6 (aa 0)) (ft:=ac (am dM (ac (aa 1) (ac (aA G.c_ a_ 1 (aa 0)) ai))) ai) (r:=[some (.ob n),some (E3 x)]) (qV a' _) a'.ps
     (ag (ay (ag rfl (ag (xb a' _) aj)) (tf b.most l3 S')) aj) (by rw[List.length_map,List.length_map];show(fl s.most (ms.take i)).length+_<=_;omega)
    refine⟨[some (.ob n),some (E3 x)],[some (.ob n),some (E3 x)],S2,rfl,bc q2,c2.old k' V4.symm,some (E3 x),rfl,?_,f'.tr (c2.fp (by simp)),c2.old k' V4.symm⟩;refine⟨c2.old a'.ob a.np.symm,c2.old a'.ms a.mp.symm,?_,c2.old a'.nt a.pq,a.mp⟩;show S2[p]?=some (.lst ((fl s.most (ms.take (i+1))).map E5));rw[yU hx,List.map_append];exact c2.at_)
  ⟨x1,rfl,⟨a.ob,a.ms,by show S[p]?=some (.lst ((fl s.most (ms.take 0)).map E5));rw[List.take_zero];have:=a.ps;rw[Yi] at this;exact this,a.nt,a.mp⟩,Fr.refl _ _,hk⟩
 refine⟨S',OD,e,?_,f'⟩;rw[show 0+(ms.map E3).length=ms.length by simp,List.take_length] at a';exact a'
theorem xr(a:EX G S n m p q s)(b:Sb N s)(hN:N<=20000):∃S' p' q',bT G [.ob n] S=.ok .B_ S'/\FX G n m p q S p' q' S' s.anew:=by
 show ∃S' p' q',fin S (eX G [some (.ob n),none] S)=_/\_;unfold eX;have ln:=aT a.ob;have lm:=aT a.ms;have lp:=aT a.ps;have lq:=aT a.nt;obtain⟨S1,e1,c1⟩:=xm (fo:=aa 0) (fe:=dC (.int 1)) (r:=[some (.ob n),none]) (i:=4) rfl a.ob rfl rfl rfl;obtain⟨S2,e2,c2⟩:=iz (fo:=aa 0) (fe:=dC (.str "opening")) (r:=[some (.ob n),none]) (i:=5) rfl rfl c1.at_ rfl;obtain⟨S3,e3,c3⟩:=iz (fo:=aa 0) (fe:=bZ ai) (r:=[some (.ob n),none]) (i:=6) (cb aj (by decide)) rfl (aG (G:=[.lst []]) c2.at_) rfl;have l1:=c1.len;have l2:=c2.len;have l3:=c3.len;rw[List.length_append,List.length_singleton] at l3;have Yk:S3[m]?=some (.lst (s.msgs.map E3)):=c3.old (aG (c2.old (c1.old a.ms a.nm) a.nm)) a.nm;have a3:EX G S3 n m S2.length q { s with op:=s.op+1,st:=.opening,ps:=[] }:=
  ⟨c3.at_,Yk,c3.old (bh rfl) (by omega),c3.old (aG (c2.old (c1.old a.nt a.nq) a.nq)) a.nq,by omega⟩
 have f3:Fr [n] S S3:=((c1.fr.tr c2.fr).tr Fr.push).tr c3.fr;have b3:Sb N { s with op:=s.op+1,st:=.opening,ps:=[] }:=⟨b.most,b.ml,b.Nl,Nat.zero_le _,by simp,b.nl⟩;have Pa:gr (s.msgs.map E3) (some (s.sure:Int)) none=(s.msgs.drop s.sure).map E3:=by
  unfold gr;rw[HT.G8,HT.Ia,List.map_drop];by_cases h:s.sure<=(s.msgs.map E3).length
  ·rw[Nat.min_eq_left h,List.take_of_length_le (by rw[List.length_drop];omega)]
  ·rw[Nat.min_eq_right (by omega),List.drop_of_length_le (Nat.le_refl _),List.drop_of_length_le (by omega)];simp
 have w1:Hd (GF FZ (aA G.c_ a_ 2 (aa 0)) (bI (aA G.c_ a_ 3 (aa 0))) bz) [some (.ob n),none] S3=.ok ⟨(s.msgs.drop s.sure).map E3,some (S3.length,(s.msgs.drop s.sure).map E3)⟩ (S3++[.lst ((s.msgs.drop s.sure).map E3)]):=by
  have:GF FZ (aA G.c_ a_ 2 (aa 0)) (bI (aA G.c_ a_ 3 (aa 0))) bz [some (.ob n),none] S3=.ok (.ob S3.length) (S3++[.lst ((s.msgs.drop s.sure).map E3)]):=by
   rw[mM,aw,BK a3];dsimp only;rw[aw,gz,aw,Al a3];simp only[gZ,j0,eS,aw,FZ,cc a3.ms];rw[show({ s with op:=s.op+1,st:=.opening,ps:=[] }:Sr).sure=s.sure from rfl,Pa]
  rw[jY,aw,this];simp only[iC,aW]
 have Yl:(s.msgs.drop s.sure).length<=N:=by have:=b.ml;rw[List.length_drop];omega
 obtain⟨S4,x4,e4,a4,f4⟩:=yi (x1:=none) b3 hN (ms:=s.msgs.drop s.sure) (fun x hx=>b.Nl x (List.mem_of_mem_drop hx)) Yl (kk:=S3.length) (a3.push [.lst ((s.msgs.drop s.sure).map E3)]) rfl (bh rfl) (by omega);have l4:=f4.1;rw[List.length_append,List.length_singleton] at l4;obtain⟨S5,e5,c5⟩:=iz (fo:=aa 0) (fe:=dC (.int 0)) (r:=[some (.ob n),x4]) (i:=7) rfl rfl a4.ob rfl;obtain⟨S6,e6,c6⟩:=iz (fo:=aa 0) (fe:=k8) (r:=[some (.ob n),x4]) (i:=8) rfl rfl (aG (G:=[.FN []]) c5.at_) rfl;have l5:=c5.len;have lp4:=aT a4.ps;refine⟨S6,S2.length,S5.length,?_,⟨⟨c6.at_,c6.old (aG (c5.old a4.ms a.nm)) a.nm,c6.old (aG (c5.old a4.ps (by omega))) (by omega),c6.old (bh rfl) (by omega),by omega⟩,?_,.inr (by omega),.inr (by omega)⟩⟩
 ·rw[ax e1,ax e2,ax e3,ax (by rw[mO w1];exact e4),ax e5,e6];rfl
 ·have g1:Fr [n,m,p,q] S S3:=f3.mono fun i hi _=>by simp at hi;simp[hi]
  have g2:Fr [n,m,p,q] S S4:=(g1.tr Fr.push).trans f4 fun i hi hs=>by
   have:i=S2.length:=by simpa using hi
   omega
  exact((g2.tr (c5.fp (by simp))).tr Fr.push).tr (c6.fp (by simp))
theorem uL(a:EX G S n m p q s)(b:Sb N s)(hN:N<=20000):∃S' p' q',dF G [.ob n] S=.ok .B_ S'/\FX G n m p q S p' q' S' s.start:=by
 show ∃S' p' q',fin S (iu G [some (.ob n)] S)=_/\_;unfold iu;have t1:ao (f_ EE (aA G.c_ a_ 5 (aa 0)) (dC (.str "shut"))) [some (.ob n)] S=.ok (decide (s.st=.G4)) S:=az (ar (sQ a _) rfl (uS s.st .G4 _));by_cases hs:s.st=.G4
 ·rw[decide_eq_true hs] at t1;obtain⟨S',p',q',e1,k1⟩:=xr a b hN;refine⟨S',p',q',?_,?_⟩
  ·rw[aQ t1,bc (aS rfl a.ob aj e1)];rfl
  ·unfold Sr.start;rw[if_pos hs];exact k1
 ·rw[decide_eq_false hs] at t1;refine⟨S,p,q,?_,?_⟩
  ·rw[av t1];rfl
  ·unfold Sr.start;rw[if_neg hs];exact FX.refl a
end
end Lw
namespace Lw
open PySem L2 DL
section
variable{G:Cs}{S S' S1 S2:List Cell}{n m p q p1 q1 p2 q2 p' q':Nat}{s s' s1 s2:Sr}{N:Nat}
theorem Cq(l:List Nat)(k:Nat):(eR (Mu l) (.inl (k:Int))).isSome=decide (k∈l):=by
 induction l with
 |nil=>rfl
 |cons a r ih=>
  unfold Mu at ih ⊢;rw[List.map_cons];unfold eR at ih ⊢;rw[List.find?_cons];by_cases h:a=k
  ·subst h;simp
  ·have h2:decide ((Sum.inl (a:Int):Key)=Sum.inl (k:Int))=false:=decide_eq_false fun z=>h (by injection z with z;omega)
   simp only[h2];rw[ih];simp[Ne.symm h]
theorem vI{m w:Nat}(hw:0<w)(S:List Cell):eL [.int (m:Int),.int (w:Int)] S=.ok (.int ((m % (2 * w):Nat):Int)) S:=by
 have h1:(0:Int)<2 * (w:Int):=by omega
 simp[eL,nD,cS h1]
theorem xW(a:EX G S n m p q s)(hw:0<s.w){i:Nat}(hi:i<s.ps.length):dI G [.ob n,.int (i:Int)] S=.ok (l_ (s.dataOf i)) S:=by
 show fin S (gl G [some (.ob n),some (.int (i:Int))] S)=_;unfold gl;have hx:s.ps[i]?=some (s.ps.getD i (0,[])):=by simp[List.getD,hi]
 have e1:t_ (.ob p) (.int (i:Int)) S=.ok (E5 (s.ps.getD i (0,[]))) S:=gg a.ps (by rw[List.getElem?_map,hx];rfl);rw[aP (bQ (ag rfl (ag (Aa a _) (ag (ay (ag rfl (ag (za a _) aj)) (vI hw S)) (ag (ar (qV a _) rfl e1) aj)))) (by simp))];rfl
theorem Bq{lo hi:Nat}(h:hi<=1000000)(S:List Cell):vA (.int (lo:Int)) (.int (hi:Int)) S=.ok ⟨iO (lo:Int) 1 (hi-lo),none⟩ S\/hi<lo:=by
 by_cases hl:hi<lo
 ·exact .inr hl
 ·refine .inl ?_;show u7 (lo:Int) (hi:Int) 1 S=_;have hs:Builtin.Range.small (lo:Int) (hi:Int) 1=true:=small_one (by omega) (by omega) (by omega) (by omega);unfold u7;have e:(if (lo:Int)<(hi:Int) then (hi:Int)-(lo:Int) else 0).toNat=hi-lo:=by split<;>omega
  rw[cg ⟨⟨by omega,by omega⟩,hs⟩,rangeSize_one,e]
theorem xP(a:EX G S n m p q s)(hN:s.ps.length<=1000000)(hb:s.base<=s.ps.length):d3 G [.ob n] S=.ok (.ob S.length) (S++[.lst (s.wanted.map fun(i:Nat)=>.int (i:Int))]):=by
 show fin S (gO G [some (.ob n),none] S)=_;unfold gO;have e1:am yE (ac (f_ bJ (aA G.c_ a_ 7 (aa 0)) (aA G.c_ a_ 0 (aa 0))) (ac (am bG (ac (aA G.c_ a_ 6 (aa 0)) ai)) ai)) [some (.ob n),none] S=.ok (.int ((min (s.base+s.w) s.ps.length:Nat):Int)) S:=by
  refine ay (ag (ar (lW a _) (za a _) (cw _ _)) (ag (ay (ag (qV a _) aj) (j7 a.ps)) aj)) ?_;rw[BG,List.length_map];congr 2;omega
 rw[ax (bB e1)];show fin S (bP _ [some (.ob n),some (.int ((min (s.base+s.w) s.ps.length:Nat):Int))] S)=_;obtain⟨hi,SN⟩:∃hi,min (s.base+s.w) s.ps.length=hi:=⟨_,rfl⟩;have VA:s.base<=hi:=by omega
 have q1:=jx (f:=wZ (aA G.c_ a_ 7 (aa 0)) (aa 1)) (tg:=gN 0) (ti:=ao (f_ fY (aa 0) (aA G.c_ a_ 8 (aa 1)))) (fe:=aa 0) (own:=1) (caps:=[0])
  (r:=[some (.ob n),some (.int (hi:Int))]) (S:=S) (S1:=S) (w:=⟨iO (s.base:Int) 1 (hi-s.base),none⟩) (fun x=>match x with
   |.int k=>decide (k.toNat∉s.ES)
   |_=>false) id (by
   show((aA G.c_ a_ 7 (aa 0) [some (.ob n),some (.int (hi:Int))]).bind fun x=>(aa 1 [some (.ob n),some (.int (hi:Int))]).bind fun y=>vA x y) S=_;rw[aw,lW a];show vA (.int (s.base:Int)) (.int (hi:Int)) S=_;rcases Bq (lo:=s.base) (hi:=hi) (by omega) S with h|h
   ·exact h
   ·omega) trivial (by simp[iO];omega) (by
   intro x hx;simp only[iO,List.mem_map,List.mem_range] at hx;obtain⟨k,_,rfl⟩:=hx;have hk:(s.base:Int)+(k:Int) * 1=((s.base+k:Nat):Int):=by omega
   rw[hk];refine⟨_,rfl,fun zs=>?_,fun _ zs=>rfl⟩;have ap:=a.push [.lst zs];have g2:aA G.c_ a_ 8 (aa 1) [some (.int ((s.base+k:Nat):Int)),some (.ob n)] (S++[.lst zs])=.ok (.ob q) (S++[.lst zs]):=bK rfl ap.ob rfl;show ao _ [some (.int ((s.base+k:Nat):Int)),some (.ob n)] (S++[.lst zs])=_;refine az (ar rfl g2 ?_);simp only[fY,gK,dZ ap.nt,Cq,Int.toNat_natCast];simp)
 have hw:((iO (s.base:Int) 1 (hi-s.base)).filter (fun x=>match x with
   |.int k=>decide (k.toNat∉s.ES)
   |_=>false)).map id=s.wanted.map fun(i:Nat)=>.int (i:Int):=by
  unfold iO Sr.wanted;rw[SN,List.map_id,List.range'_eq_map_range,List.filter_map,List.filter_map,List.map_map];have:((fun x:D=>match x with
   |.int k=>decide (k.toNat∉s.ES)
   |_=>false) ∘ fun(i:Nat)=>D.int ((s.base:Int)+(i:Int) * 1))=((fun i=>decide (i∉s.ES)) ∘ fun x=>s.base+x):=by
   funext i;have hk:((s.base:Int)+(i:Int) * 1).toNat=s.base+i:=by omega
   simp only[Function.comp_def,hk]
  rw[this];refine List.map_congr_left fun i _=>?_
  simp only[Function.comp_def];congr 1;omega
 rw[hw] at q1;rw[SN,aP q1];rfl
theorem xh(a:EX G S n m p q s)(hw:0<s.w)(hN:s.ps.length<=1000000)(hb:s.st=.opened->s.base<=s.ps.length):∃S' l,cO G [.ob n] S=.ok (.ob l) S'/\FX G n m p q S p q S' s/\S'[l]?=some (.lst (s.tick.map l_))/\S.length<=l:=by
 show ∃S' l,fin S (iS G [some (.ob n)] S)=_/\_;unfold iS;have t1:ao (f_ EE (aA G.c_ a_ 5 (aa 0)) (dC (.str "opening"))) [some (.ob n)] S=.ok (decide (s.st=.opening)) S:=az (ar (sQ a _) rfl (uS s.st .opening _));have t2:ao (f_ EE (aA G.c_ a_ 5 (aa 0)) (dC (.str "open"))) [some (.ob n)] S=.ok (decide (s.st=.opened)) S:=az (ar (sQ a _) rfl (uS s.st .opened _));cases hs:s.st with
 |opening=>
  rw[hs] at t1;have e1:s.tick=[.Ey s.op]:=by unfold Sr.tick;rw[hs]
  rw[di (by rw[aQ t1];exact aP (cb (ag (bQ (ag rfl (ag (Aa a _) aj)) (by simp)) aj) (by simp))),e1];exact⟨_,_,rfl,(FX.refl a).push _,bh rfl,Nat.le_refl _⟩
 |G4=>
  rw[hs] at t1 t2;have e1:s.tick=[]:=by unfold Sr.tick;rw[hs]
  rw[ax (by rw[av t1];rfl),ax (by rw[av t2];rfl),aP (cb aj (by decide)),e1];exact⟨_,_,rfl,(FX.refl a).push _,bh rfl,Nat.le_refl _⟩
 |opened=>
  rw[hs] at t1 t2;have e1:s.tick=s.wanted.map s.dataOf:=by unfold Sr.tick;rw[hs]
  obtain⟨S1,HW⟩:∃S1,S++[Cell.lst (s.wanted.map fun(i:Nat)=>.int (i:Int))]=S1:=⟨_,rfl⟩;have w1:=xP a hN (hb hs);rw[HW] at w1;have k1:S1[S.length]?=some (.lst (s.wanted.map fun(i:Nat)=>.int (i:Int))):=by rw[<-HW];exact bh rfl
  have a1:EX G S1 n m p q s:=by rw[<-HW];exact a.push _
  have wl:s.wanted.length<=1000000:=by
   unfold Sr.wanted;refine Nat.le_trans (List.length_filter_le _ _) ?_;rw[List.length_range'];omega
  have q1:=jx (f:=Hd (aV G.c_ a_ (d3 G) (aa 0) ai)) (tg:=gN 0) (ti:=gD) (fe:=aV G.c_ a_ (dI G) (aa 1) (ac (aa 0) ai)) (own:=1) (caps:=[0])
   (r:=[some (.ob n)]) (S:=S) (S1:=S1) (w:=⟨s.wanted.map fun(i:Nat)=>.int (i:Int),some (S.length,s.wanted.map fun(i:Nat)=>.int (i:Int))⟩) (fun _=>true) (fun x=>match x with
    |.int k=>l_ (s.dataOf k.toNat)
    |_=>.B_) (by
    rw[jY,aw,aS rfl a.ob aj w1];simp only[iC,k1]) k1 (by rw[List.length_map];exact wl) (by
    intro x hx;obtain⟨i,hi,rfl⟩:=List.mem_map.mp hx;refine⟨_,rfl,fun _=>rfl,fun _ zs=>?_⟩;have ap:=a1.push [.lst zs];have Ym:i<s.ps.length:=by
     unfold Sr.wanted at hi;have:=(List.mem_range'_1.mp (List.mem_filter.mp hi).1).2;have:=hb hs;omega
    show aV _ _ _ _ _ [some (.int (i:Int)),some (.ob n)] (S1++[.lst zs])=_;refine aS rfl ap.ob (ag rfl aj) ?_;rw[xW ap hw Ym];dsimp only;rw[Int.toNat_natCast])
  have hm:((s.wanted.map fun(i:Nat)=>D.int (i:Int)).filter fun _=>true).map (fun x=>match x with
    |.int k=>l_ (s.dataOf k.toNat)
    |_=>.B_)=(s.wanted.map s.dataOf).map l_:=by
   rw[List.filter_eq_self.mpr (by simp),List.map_map,List.map_map];refine List.map_congr_left fun i _=>?_
   simp only[Function.comp_def,Int.toNat_natCast]
  dsimp only at q1;rw[hm] at q1;rw[ax (by rw[av t1];rfl),di (by rw[aQ t2];exact aP q1),e1];refine⟨_,_,rfl,⟨a1.push _,?_,.inl rfl,.inl rfl⟩,bh rfl,?_⟩
  ·rw[<-HW];exact Fr.push.tr Fr.push
  ·rw[<-HW];simp
end
end Lw
namespace Lw
open PySem L2 DL
section
variable{G:Cs}{S S' S1 S2:List Cell}{n m p q p1 q1 p2 q2 p' q':Nat}{s s' s1 s2:Sr}{N:Nat}
theorem yS{xs:List D}{i j:Nat}(h1:i<=j)(h2:j<=xs.length):gr xs (some (i:Int)) (some (j:Int))=(xs.take j).drop i:=by
 unfold gr;rw[HT.G8,HT.G8,Nat.min_eq_left (show i<=xs.length by omega),Nat.min_eq_left h2,List.drop_take]
theorem yc{ps:List Pc}(h:∀x,x∈ps->x.1=0\/x.1=1):(ps.map (·.1)).sum=(G3 ps:Int):=by
 induction ps with
 |nil=>rfl
 |cons a r ih=>
  have h1:=h a (by simp);have h2:=ih fun x hx=>h x (List.mem_cons_of_mem _ hx)
  have e:G3 (a :: r)=(if a.1=1 then 1 else 0)+G3 r:=by
   unfold G3;rw[List.filter_cons];rcases h1 with h1|h1
   ·simp[h1]
   ·simp[h1];omega
  rw[List.map_cons,List.sum_cons,h2,e];rcases h1 with h1|h1
  ·rw[h1];simp
  ·rw[h1];simp
theorem Bm(a:EX G S n m p q s)(b:Sb N s)(hN:N<=20000){i:Nat}(h1:s.base<=i)(h2:i<=s.ps.length):∃S',dX G [.ob n,.int (i:Int)] S=.ok .B_ S'/\FX G n m p q S p q S' (s.Ip i):=by
 show ∃S',fin S (eY G [some (.ob n),some (.int (i:Int))] S)=_/\_;unfold eY;have Kd:=b.pl;obtain⟨qs,Q9⟩:∃qs,(s.ps.take i).drop s.base=qs:=⟨_,rfl⟩;have Yn:qs.length<=1000000:=by rw[<-Q9,List.length_drop,List.length_take];omega
 have Yo:∀x,x∈qs->x.1=0\/x.1=1:=fun x hx=>b.fg x (by rw[<-Q9] at hx;exact List.mem_of_mem_take (List.mem_of_mem_drop hx))
 have w1:Hd (GF FZ (aA G.c_ a_ 6 (aa 0)) (bI (aA G.c_ a_ 7 (aa 0))) (bI (aa 1))) [some (.ob n),some (.int (i:Int))] S=.ok ⟨qs.map E5,some (S.length,qs.map E5)⟩ (S++[.lst (qs.map E5)]):=by
  have:GF FZ (aA G.c_ a_ 6 (aa 0)) (bI (aA G.c_ a_ 7 (aa 0))) (bI (aa 1)) [some (.ob n),some (.int (i:Int))] S=.ok (.ob S.length) (S++[.lst (qs.map E5)]):=by
   rw[mM,aw,qV a];dsimp only;rw[aw,gz,aw,lW a];simp only[gZ,j0,aw,gz,kO,List.getElem?_cons_succ,List.getElem?_cons_zero,FZ,cc a.ps];rw[yS h1 (by rw[List.length_map];exact h2),<-List.map_take,<-List.map_drop,Q9]
  rw[jY,aw,this];simp only[iC,aW]
 have q1:=jx (f:=Hd (GF FZ (aA G.c_ a_ 6 (aa 0)) (bI (aA G.c_ a_ 7 (aa 0))) (bI (aa 1)))) (tg:=gN 0) (ti:=gD) (fe:=f_ t_ (aa 0) (dC (.int 0))) (own:=1) (caps:=[]) (r:=[some (.ob n),some (.int (i:Int))]) (S:=S)
  (S1:=S++[.lst (qs.map E5)]) (w:=⟨qs.map E5,some (S.length,qs.map E5)⟩) (fun _=>true) (fun x=>match x with
   |.tup (y :: _)=>y
   |_=>.B_) w1 (bh rfl) (by rw[List.length_map];exact Yn) (by
   intro x hx;obtain⟨y,_,rfl⟩:=List.mem_map.mp hx;exact⟨_,rfl,fun _=>rfl,fun _ zs=>ar rfl rfl rfl⟩)
 have hm:((qs.map E5).filter fun _=>true).map (fun x=>match x with
   |.tup (y :: _)=>y
   |_=>.B_)=(qs.map (·.1)).map D.int:=by
  rw[List.filter_eq_self.mpr (by simp),List.map_map,List.map_map];rfl
 dsimp only at q1;rw[hm] at q1;have e1:am oo (ac (eE (Hd (GF FZ (aA G.c_ a_ 6 (aa 0)) (bI (aA G.c_ a_ 7 (aa 0))) (bI (aa 1)))) (gN 0) gD (f_ t_ (aa 0) (dC (.int 0))) 1 []) ai) [some (.ob n),some (.int (i:Int))] S=.ok (.int (G3 qs:Int)) ((S++[.lst (qs.map E5)])++[.lst ((qs.map (·.1)).map D.int)]):=by
  refine ay (ag q1 aj) ?_;simp only[oo,iq,cc aW,jA];rw[yc Yo]
 obtain⟨S2,KC⟩:∃S2,(S++[Cell.lst (qs.map E5)])++[Cell.lst ((qs.map (·.1)).map D.int)]=S2:=⟨_,rfl⟩;have a2:EX G S2 n m p q s:=by rw[<-KC];exact(a.push _).push _
 have f2:Fr [n,m,p,q] S S2:=by rw[<-KC];exact Fr.push.tr Fr.push
 rw[KC] at e1;have q3:=wX (fo:=aa 0) (r:=[some (.ob n),some (.int (i:Int))]) (i:=3) rfl a.ob rfl e1 a2.ob;have c3:=Ch.set (c:=.ins G.c_ a_ [.int (s.w:Int),.int (s.most:Int),.ob m,.int ((s.sure:Int)+(G3 qs:Int)),.int (s.op:Int),.str (MU s.st),.ob p,.int (s.base:Int),.ob q]) a2.ob;obtain⟨S3,Kf⟩:∃S3,S2.set n (.ins G.c_ a_ [.int (s.w:Int),.int (s.most:Int),.ob m,.int ((s.sure:Int)+(G3 qs:Int)),.int (s.op:Int),.str (MU s.st),.ob p,.int (s.base:Int),.ob q])=S3:=⟨_,rfl⟩;have SO:pa G.c_ a_ 3 (aa 0) (am oo (ac (eE (Hd (GF FZ (aA G.c_ a_ 6 (aa 0)) (bI (aA G.c_ a_ 7 (aa 0))) (bI (aa 1)))) (gN 0) gD (f_ t_ (aa 0) (dC (.int 0))) 1 []) ai)) [some (.ob n),some (.int (i:Int))] S=some (.nx [some (.ob n),some (.int (i:Int))],S3):=by
  rw[q3,<-Kf];rfl
 rw[Kf] at c3;obtain⟨S4,q4,c4⟩:=iz (fo:=aa 0) (fe:=aa 1) (r:=[some (.ob n),some (.int (i:Int))]) (i:=7) rfl rfl c3.at_ rfl;rw[ax SO,q4];have SQ:(s.sure:Int)+(G3 qs:Int)=((s.sure+G3 qs:Nat):Int):=by omega
 refine⟨S4,rfl,⟨?_,c4.old (c3.old a2.ms a.nm) a.nm,c4.old (c3.old a2.ps a.np) a.np,c4.old (c3.old a2.nt a.nq) a.nq,a.mp⟩,(f2.tr (c3.fp (by simp))).tr (c4.fp (by simp)),.inl rfl,.inl rfl⟩;have:=c4.at_;rw[SQ] at this;unfold Sr.Ip;rw[Q9];exact this
theorem Cm{l:List Nat}(k:Nat):mB (Mu l) (.inl (k:Int)) (.bl true)=Mu (if k∈l then l else l++[k]):=by
 have SR:((Mu l).any fun kv=>decide (kv.1=(Sum.inl (k:Int):Key)))=decide (k∈l):=by
  induction l with
  |nil=>rfl
  |cons a r ih=>
   unfold Mu at ih ⊢;rw[List.map_cons,List.any_cons,ih];by_cases h:a=k
   ·subst h;simp
   ·have h2:decide ((Sum.inl (a:Int):Key)=Sum.inl (k:Int))=false:=decide_eq_false fun z=>h (by injection z with z;omega)
    rw[h2];simp[Ne.symm h]
 unfold mB;rw[SR];by_cases h:k∈l
 ·rw[if_pos (decide_eq_true h),if_pos h];unfold Mu;rw[List.map_map];refine List.map_congr_left fun a _=>?_
  simp only[Function.comp_def];split<;>rfl
 ·rw[if_neg (by simp[h]),if_neg h];simp[Mu]
theorem qh:∀(bs:List Int) (s:Sr) (k:Nat) (b:Int),s.Fo k (bs++[b])=(s.Fo k bs).Fo (k+bs.length) [b]
 |[],s,k,b=>rfl
 |c :: bs,s,k,b=>by
  rw[List.cons_append];unfold Sr.Fo;rw[qh bs _ (k+1) b,List.length_cons,show k+1+bs.length=k+(bs.length+1) by omega];rfl
theorem dU:∀(bs:List Int) (s:Sr) (k:Nat),(s.Fo k bs).w=s.w/\(s.Fo k bs).most=s.most/\(s.Fo k bs).msgs=s.msgs/\(s.Fo k bs).sure=s.sure/\(s.Fo k bs).op=s.op/\(s.Fo k bs).st=s.st/\(s.Fo k bs).ps=s.ps/\(s.Fo k bs).base=s.base/\(s.Fo k bs).ES.length<=s.ES.length+bs.length
 |[],s,k=>⟨rfl,rfl,rfl,rfl,rfl,rfl,rfl,rfl,by simp[Sr.Fo]⟩
 |b :: bs,s,k=>by
  unfold Sr.Fo;split
  ·obtain⟨h1,h2,h3,h4,h5,h6,h7,h8,h9⟩:=dU bs { s with ES:=s.ES++[s.base+k] } (k+1);refine⟨h1,h2,h3,h4,h5,h6,h7,h8,?_⟩;rw[List.length_append,List.length_singleton] at h9;rw[List.length_cons];omega
  ·obtain⟨h1,h2,h3,h4,h5,h6,h7,h8,h9⟩:=dU bs s (k+1);refine⟨h1,h2,h3,h4,h5,h6,h7,h8,?_⟩;rw[List.length_cons];omega
theorem zp(a:EX G S n m p q s)(hz:s.ES.length<=500000){bs:List Int}(hb:bs.length<=1000):∃S',dw G [.ob n,.tup (bs.map D.int)] S=.ok .B_ S'/\FX G n m p q S p q S' (s.Fo 0 bs):=by
 show ∃S',fin S (ez G [some (.ob n),some (.tup (bs.map D.int)),none,none] S)=_/\_;unfold ez;have w1:w8 0 (aa 1) [some (.ob n),some (.tup (bs.map D.int)),none,none] S=.ok ⟨jv 0 (bs.map D.int),none⟩ S:=rfl;have NO:∀{i:Nat}{y:D},(jv 0 (bs.map D.int))[i]?=some y->∃b,bs[i]?=some b/\y=.tup [.int (i:Int),.int b]:=by
  intro i y h;unfold jv at h;rw[List.getElem?_map,List.getElem?_zipIdx,List.getElem?_map] at h;cases e:bs[i]? with
  |none=>rw[e] at h;simp at h
  |some b=>
   rw[e] at h;simp at h;exact⟨b,rfl,h.symm⟩
 obtain⟨r',S',e,x2,x3,rfl,a',f'⟩:=eN (g:=none) (tg:=gT [2,3]) (b:=cD G)
  (fun i r S'=>∃x2 x3,r=[some (.ob n),some (.tup (bs.map D.int)),x2,x3]/\EX G S' n m p q (s.Fo 0 (bs.take i))/\Fr [n,m,p,q] S S') (jv 0 (bs.map D.int)) 0 [some (.ob n),some (.tup (bs.map D.int)),none,none] S
  (by
   rintro i y r S' hy ⟨x2,x3,rfl,a',f'⟩;obtain⟨b,Q_,rfl⟩:=NO hy;rw[Nat.zero_add] at a' ⊢;have OR:=(List.getElem?_eq_some_iff.mp Q_).1;obtain⟨s',OZ⟩:∃s',s.Fo 0 (bs.take i)=s':=⟨_,rfl⟩;have Qv:s.Fo 0 (bs.take (i+1))=s'.Fo i [b]:=by
    rw[List.take_add_one,Q_,Option.toList_some,qh,OZ,List.length_take,Nat.min_eq_left (by omega),Nat.zero_add]
   have V5:=dU (bs.take i) s 0;rw[OZ] at V5 a';rw[Qv];obtain⟨_,_,_,_,_,_,g7,g8,g9⟩:=V5;rw[List.length_take] at g9;refine⟨[some (.ob n),some (.tup (bs.map D.int)),some (.int (i:Int)),some (.int b)],[some (.ob n),some (.tup (bs.map D.int)),some (.int (i:Int)),some (.int b)],?_⟩;have t1:ao (f_ EE (aa 3) (dC (.int 1))) [some (.ob n),some (.tup (bs.map D.int)),some (.int (i:Int)),some (.int b)] S'=.ok (decide (b=1)) S':=az (ar rfl rfl (jf _ _));have k1:f_ bJ (aA G.c_ a_ 7 (aa 0)) (aa 2) [some (.ob n),some (.tup (bs.map D.int)),some (.int (i:Int)),some (.int b)] S'=.ok (.int ((s'.base+i:Nat):Int)) S':=by
    refine ar (lW a' _) rfl ?_;rw[cw];congr 2
   have t2:ao (f_ Hl (f_ bJ (aA G.c_ a_ 7 (aa 0)) (aa 2)) (am bG (ac (aA G.c_ a_ 6 (aa 0)) ai))) [some (.ob n),some (.tup (bs.map D.int)),some (.int (i:Int)),some (.int b)] S'=.ok (decide (s'.base+i<s'.ps.length)) S':=by
    refine az (ar k1 (ay (ag (qV a' _) aj) (j7 a'.ps)) ?_);rw[rO,List.length_map];congr 2;rw[decide_eq_decide];omega
   by_cases hc:b=1/\s'.base+i<s'.ps.length
   ·have tt:dg (ao (f_ EE (aa 3) (dC (.int 1)))) (ao (f_ Hl (f_ bJ (aA G.c_ a_ 7 (aa 0)) (aa 2)) (am bG (ac (aA G.c_ a_ 6 (aa 0)) ai)))) [some (.ob n),some (.tup (bs.map D.int)),some (.int (i:Int)),some (.int b)] S'=.ok true S':=by
     rw[cK,aw,t1,decide_eq_true hc.1];show ao _ _ S'=_;rw[t2,decide_eq_true hc.2]
    have hp:gq (.ob q) (.int ((s'.base+i:Nat):Int)) (.bl true) S'=some (S'.set q (.FN (Mu (if s'.base+i∈s'.ES then s'.ES else s'.ES++[s'.base+i])))):=by
     simp only[gq,gK,dZ a'.nt,Cm];exact cg (Ms (by unfold Mu;rw[List.length_map];omega))
    have hn:s'.Fo i [b] = { s' with ES:=if s'.base+i∈s'.ES then s'.ES else s'.ES++[s'.base+i] }:=by
     unfold Sr.Fo;by_cases hm:s'.base+i∈s'.ES
     ·rw[if_neg (by simp[hm]),if_pos hm];rfl
     ·rw[if_pos ⟨hc.1,hc.2,hm⟩,if_neg hm];rfl
    refine⟨S'.set q (.FN (Mu (if s'.base+i∈s'.ES then s'.ES else s'.ES++[s'.base+i]))),rfl,?_,trivial,_,_,rfl,?_,f'.tr (Fr.set (by simp))⟩
    ·unfold cD;rw[aQ tt,lI (d:=.bl true) rfl (DA a' _) k1 hp]
    ·rw[hn];exact⟨cR a'.ob a.nq.symm,cR a'.ms a.mq.symm,cR a'.ps a.pq.symm,d6 a'.nt,a.mp⟩
   ·have tt:dg (ao (f_ EE (aa 3) (dC (.int 1)))) (ao (f_ Hl (f_ bJ (aA G.c_ a_ 7 (aa 0)) (aa 2)) (am bG (ac (aA G.c_ a_ 6 (aa 0)) ai)))) [some (.ob n),some (.tup (bs.map D.int)),some (.int (i:Int)),some (.int b)] S'=.ok false S':=by
     rw[cK,aw,t1];by_cases Qw:b=1
     ·rw[decide_eq_true Qw];show ao _ _ S'=_;rw[t2,decide_eq_false fun z=>hc ⟨Qw,z⟩]
     ·rw[decide_eq_false Qw];rfl
    have hn:s'.Fo i [b]=s':=by
     unfold Sr.Fo;rw[if_neg fun z=>hc ⟨z.1,z.2.1⟩];rfl
    refine⟨S',rfl,?_,trivial,_,_,rfl,?_,f'⟩
    ·unfold cD;rw[av tt];rfl
    ·rw[hn];exact a')
  ⟨none,none,rfl,by rw[List.take_zero];exact a,Fr.refl _ _⟩
 have hlen:(jv 0 (bs.map D.int)).length=bs.length:=by simp[jv]
 rw[hlen,Nat.zero_add,List.take_length] at a';rw[mO w1,e];exact⟨S',rfl,a',f',.inl rfl,.inl rfl⟩
end
end Lw
namespace Lw
open PySem L2 DL
section
variable{G:Cs}{S S' S1 S2:List Cell}{n m p q p1 q1 p2 q2 p' q':Nat}{s s' s1 s2:Sr}{N:Nat}
theorem vZ(m w:Nat)(S:List Cell):cn [.int (m:Int),.int (w:Int)] S=.ok (.bl (decide (m<2 * w))) S:=by
 have h1:decide ((0:Int)<=(m:Int))=true:=decide_eq_true (by omega);have h2:decide ((m:Int)<2 * (w:Int))=decide (m<2 * w):=by rw[decide_eq_decide];omega
 simp[cn,jF,h1,h2]
theorem ym{n l:Int}{w:Nat}(hw:0<w)(S:List Cell):cz [.int n,.int l,.int (w:Int)] S=.ok (.int (lD n l w)) S:=by
 simp[cz,jI,cS (show(0:Int)<2 * (w:Int) by omega),lD]
theorem uk(n l:Int){w:Nat}(hw:0<w):l<=lD n l w:=by
 unfold lD;have:=Int.emod_nonneg (n-l) (show(2 * (w:Int))≠0 by omega);omega
theorem ur(a:EX G S n m p q s)(b:Sb N s)(hN:N<=20000)(hw:0<s.w){num:Nat}{bs:List Int}(hb:bs.length<=1000) :
  ∃S',cr G [.ob n,.int (num:Int),.tup (bs.map D.int)] S=.ok .B_ S'/\FX G n m p q S p q S' (s.ED num bs):=by
 show ∃S',fin S (eK G [some (.ob n),some (.int (num:Int)),some (.tup (bs.map D.int)),none] S)=_/\_;unfold eK;have t1:bW (am cn (ac (aa 1) (ac (aA G.c_ a_ 0 (aa 0)) ai))) [some (.ob n),some (.int (num:Int)),some (.tup (bs.map D.int)),none] S=.ok (decide (num<2 * s.w)) S:=by
  rw[cU,aw,ay (ag rfl (ag (za a _) aj)) (vZ num s.w S)];rfl
 by_cases c1:num<2 * s.w
 ·rw[decide_eq_true c1] at t1;obtain⟨i,hi⟩:∃i:Nat,lD num s.base s.w=(i:Int):=⟨(lD num s.base s.w).toNat,by have:=uk num s.base hw;omega⟩;have Yp:s.base<=i:=by have:=uk num s.base hw;omega
  rw[aQ t1,ax (bB (ay (ag rfl (ag (lW a _) (ag (za a _) aj))) (ym hw S)))];rw[hi];show ∃S',fin S (Fd _ _ _ [some (.ob n),some (.int (num:Int)),some (.tup (bs.map D.int)),some (.int (i:Int))] S)=_/\_;have e1:am yE (ac (f_ bJ (aA G.c_ a_ 7 (aa 0)) (aA G.c_ a_ 0 (aa 0))) (ac (am bG (ac (aA G.c_ a_ 6 (aa 0)) ai)) ai)) [some (.ob n),some (.int (num:Int)),some (.tup (bs.map D.int)),some (.int (i:Int))] S=.ok (.int ((min (s.base+s.w) s.ps.length:Nat):Int)) S:=by
   refine ay (ag (ar (lW a _) (za a _) (cw _ _)) (ag (ay (ag (qV a _) aj) (j7 a.ps)) aj)) ?_;rw[BG,List.length_map];congr 2;omega
  have t2:ao (f_ LZ (aa 3) (am yE (ac (f_ bJ (aA G.c_ a_ 7 (aa 0)) (aA G.c_ a_ 0 (aa 0))) (ac (am bG (ac (aA G.c_ a_ 6 (aa 0)) ai)) ai)))) [some (.ob n),some (.int (num:Int)),some (.tup (bs.map D.int)),some (.int (i:Int))] S=.ok (decide (i<=min (s.base+s.w) s.ps.length)) S:=by
   refine az (ar rfl e1 ?_);rw[xL];congr 2;rw[decide_eq_decide];omega
  by_cases c2:i<=min (s.base+s.w) s.ps.length
  ·rw[decide_eq_true c2] at t2;have he:s.ED num bs=(s.Ip i).Fo 0 bs:=by
    unfold Sr.ED;rw[if_pos ⟨c1,by rw[hi];omega⟩,hi];rfl
   obtain⟨S1,q1,k1⟩:=Bm a b hN Yp (by omega);obtain⟨S2,q2,k2⟩:=zp (bs:=bs) k1.at_ (by have:=b.nl;show s.ES.length<=_;omega) hb;rw[aQ t2,ax (bc (aS rfl a.ob (ag rfl aj) q1)),bc (aS rfl k1.at_.ob (ag rfl aj) q2),he];exact⟨S2,rfl,k1.trans k2⟩
  ·rw[decide_eq_false c2] at t2;have he:s.ED num bs=s:=by
    unfold Sr.ED;rw[if_neg (by rw[hi];omega)]
   rw[av t2,he];exact⟨S,rfl,FX.refl a⟩
 ·rw[decide_eq_false c1] at t1;have he:s.ED num bs=s:=by
   unfold Sr.ED;rw[if_neg (fun z=>c1 z.1)]
  rw[av t1,he];exact⟨S,rfl,FX.refl a⟩
def x_.HG:x_->Nat
 |.Ey o=>o
 |.v_ o=>o
 |.Hb o=>o
 |.data o _ _=>o
 |.note o _ _=>o
def x_.knd:x_->Str
 |.Ey _=>"hello"
 |.v_ _=>"welcome"
 |.Hb _=>"who"
 |.data _ _ _=>"data"
 |.note _ _ _=>"note"
def Ld:x_->Prop
 |.note _ _ bs=>bs.length<=7
 |_=>True
theorem zU(c:x_)(S:List Cell):t_ (l_ c) (.int 0) S=.ok (.str c.knd) S:=by cases c<;>rfl
def V6:x_->Bool
 |.v_ _=>true
 |_=>false
def isQ:x_->Bool
 |.Hb _=>true
 |_=>false
def V7:x_->Bool
 |.note _ _ _=>true
 |_=>false
theorem kW(c:x_)(S:List Cell):EE (.str c.knd) (.str "welcome") S=.ok (.bl (V6 c)) S:=by cases c<;>simp only[x_.knd,V6]<;>exact bi
theorem kQ(c:x_)(S:List Cell):EE (.str c.knd) (.str "who") S=.ok (.bl (isQ c)) S:=by cases c<;>simp only[x_.knd,isQ]<;>exact bi
theorem kN(c:x_)(S:List Cell):EE (.str c.knd) (.str "note") S=.ok (.bl (V7 c)) S:=by cases c<;>simp only[x_.knd,V7]<;>exact bi
theorem z7(c:x_)(S:List Cell):t_ (l_ c) (.int 1) S=.ok (.int (c.HG:Int)) S:=by cases c<;>rfl
theorem B1(a:EX G S n m p q s)(b:Sb N s)(hN:N<=20000)(hw:0<s.w){c:x_}(hc:Ld c)(ho:c.HG=s.op) :
  ∃S' p' q',dQ G [.ob n,l_ c] S=.ok .B_ S'/\FX G n m p q S p' q' S' (s.s_ c):=by
 show ∃S' p' q',fin S (eV G [some (.ob n),some (l_ c)] S)=_/\_;unfold eV;have t1:ao (f_ EE (aA G.c_ a_ 5 (aa 0)) (dC (.str "opening"))) [some (.ob n),some (l_ c)] S=.ok (decide (s.st=.opening)) S:=az (ar (sQ a _) rfl (uS s.st .opening _));have t2:ao (f_ EE (aA G.c_ a_ 5 (aa 0)) (dC (.str "open"))) [some (.ob n),some (l_ c)] S=.ok (decide (s.st=.opened)) S:=az (ar (sQ a _) rfl (uS s.st .opened _));have k0:∀{k:Str}{y:Bool},EE (.str c.knd) (.str k) S=.ok (.bl y) S->ao (f_ EE (f_ t_ (aa 1) (dC (.int 0))) (dC (.str k))) [some (.ob n),some (l_ c)] S=.ok y S:=fun h=>az (ar (ar rfl rfl (zU c S)) rfl h)
 have nothing:s.s_ c=s->Fd (dg (ao (f_ EE (f_ t_ (aa 1) (dC (.int 0))) (dC (.str "welcome")))) (ao (f_ EE (aA G.c_ a_ 5 (aa 0)) (dC (.str "opening"))))) (kY G.c_ a_ 5 (aa 0) (dC (.str "open"))) (Fd (dg (ao (f_ EE (f_ t_ (aa 1) (dC (.int 0))) (dC (.str "who")))) (ao (f_ EE (aA G.c_ a_ 5 (aa 0)) (dC (.str "open"))))) (bx (aV G.c_ a_ (bT G) (aa 0) ai)) (Fd (dg (ao (f_ EE (f_ t_ (aa 1) (dC (.int 0))) (dC (.str "note")))) (ao (f_ EE (aA G.c_ a_ 5 (aa 0)) (dC (.str "open"))))) (bx (aV G.c_ a_ (cr G) (aa 0) (ac (f_ t_ (aa 1) (dC (.int 2))) (ac (f_ t_ (aa 1) (dC (.int 3))) ai)))) bE)) [some (.ob n),some (l_ c)] S=some (.nx [some (.ob n),some (l_ c)],S)->
   ∃S' p' q',fin S (Fd (dg (ao (f_ EE (f_ t_ (aa 1) (dC (.int 0))) (dC (.str "welcome")))) (ao (f_ EE (aA G.c_ a_ 5 (aa 0)) (dC (.str "opening"))))) (kY G.c_ a_ 5 (aa 0) (dC (.str "open"))) (Fd (dg (ao (f_ EE (f_ t_ (aa 1) (dC (.int 0))) (dC (.str "who")))) (ao (f_ EE (aA G.c_ a_ 5 (aa 0)) (dC (.str "open"))))) (bx (aV G.c_ a_ (bT G) (aa 0) ai)) (Fd (dg (ao (f_ EE (f_ t_ (aa 1) (dC (.int 0))) (dC (.str "note")))) (ao (f_ EE (aA G.c_ a_ 5 (aa 0)) (dC (.str "open"))))) (bx (aV G.c_ a_ (cr G) (aa 0) (ac (f_ t_ (aa 1) (dC (.int 2))) (ac (f_ t_ (aa 1) (dC (.int 3))) ai)))) bE)) [some (.ob n),some (l_ c)] S)=.ok .B_ S'/\FX G n m p q S p' q' S' (s.s_ c):=by
  intro h1 h2;rw[h2,h1];exact⟨S,p,q,rfl,FX.refl a⟩
 have an:∀{f g:o_->M Bool}{y z:Bool},f [some (.ob n),some (l_ c)] S=.ok y S->g [some (.ob n),some (l_ c)] S=.ok z S->dg f g [some (.ob n),some (l_ c)] S=.ok (y && z) S:=by
  intro f g y z h1 h2;rw[cK,aw,h1];cases y
  ·rfl
  ·show g _ S=_;rw[h2,Bool.true_and]
 cases c with
 |Ey o=>exact nothing rfl (by rw[av (an (k0 (kW _ S)) t1),av (an (k0 (kQ _ S)) t2),av (an (k0 (kN _ S)) t2)];rfl)
 |data o i x=>exact nothing rfl (by rw[av (an (k0 (kW _ S)) t1),av (an (k0 (kQ _ S)) t2),av (an (k0 (kN _ S)) t2)];rfl)
 |v_ o=>
  have Ls:o=s.op:=ho;by_cases hs:s.st=.opening
  ·rw[decide_eq_true hs] at t1;have he:s.s_ (.v_ o) = { s with st:=.opened }:=by unfold Sr.s_;exact if_pos ⟨Ls,hs⟩
   obtain⟨S1,q1,c1⟩:=iz (fo:=aa 0) (fe:=dC (.str "open")) (r:=[some (.ob n),some (l_ (.v_ o))]) (i:=5) rfl rfl a.ob rfl;rw[aQ (an (k0 (kW _ S)) t1),q1,he];exact⟨S1,p,q,rfl,⟨c1.at_,c1.old a.ms a.nm,c1.old a.ps a.np,c1.old a.nt a.nq,a.mp⟩,c1.fp (by simp),.inl rfl,.inl rfl⟩
  ·rw[decide_eq_false hs] at t1;exact nothing (by unfold Sr.s_;exact if_neg fun z=>hs z.2) (by rw[av (an (k0 (kW _ S)) t1),av (an (k0 (kQ _ S)) t2),av (an (k0 (kN _ S)) t2)];rfl)
 |Hb o=>
  have Ls:o=s.op:=ho;by_cases hs:s.st=.opened
  ·rw[decide_eq_true hs] at t2;have he:s.s_ (.Hb o)=s.anew:=by unfold Sr.s_;exact if_pos ⟨Ls,hs⟩
   obtain⟨S1,p1,q1,e1,k1⟩:=xr a b hN;rw[av (an (k0 (kW _ S)) t1),aQ (an (k0 (kQ _ S)) t2),bc (aS rfl a.ob aj e1),he];exact⟨S1,p1,q1,rfl,k1⟩
  ·rw[decide_eq_false hs] at t2;exact nothing (by unfold Sr.s_;exact if_neg fun z=>hs z.2) (by rw[av (an (k0 (kW _ S)) t1),av (an (k0 (kQ _ S)) t2),av (an (k0 (kN _ S)) t2)];rfl)
 |note o i bs=>
  have Ls:o=s.op:=ho;by_cases hs:s.st=.opened
  ·rw[decide_eq_true hs] at t2;have he:s.s_ (.note o i bs)=s.ED i bs:=by unfold Sr.s_;exact if_pos ⟨Ls,hs⟩
   have hb:bs.length<=7:=hc;obtain⟨S1,e1,k1⟩:=ur (num:=i) (bs:=bs) a b hN hw (by omega);rw[av (an (k0 (kW _ S)) t1),av (an (k0 (kQ _ S)) t2),aQ (an (k0 (kN _ S)) t2),bc (aS rfl a.ob (ag (ar rfl rfl rfl) (ag (ar rfl rfl rfl) aj)) e1),he];exact⟨S1,p,q,rfl,k1⟩
  ·rw[decide_eq_false hs] at t2;exact nothing (by unfold Sr.s_;exact if_neg fun z=>hs z.2) (by rw[av (an (k0 (kW _ S)) t1),av (an (k0 (kQ _ S)) t2),av (an (k0 (kN _ S)) t2)];rfl)
theorem uW{c:x_}(ho:c.HG≠s.op):s.s_ c=s:=by
 cases c with
 |Ey o=>rfl
 |data o i x=>rfl
 |v_ o=>unfold Sr.s_;exact if_neg fun z=>ho z.1
 |Hb o=>unfold Sr.s_;exact if_neg fun z=>ho z.1
 |note o i bs=>unfold Sr.s_;exact if_neg fun z=>ho z.1
theorem uU(a:EX G S n m p q s)(b:Sb N s)(hN:N<=20000)(hw:0<s.w){c:x_}(hc:Ld c) :
  ∃S' p' q' l,cZ G [.ob n,l_ c] S=.ok (.ob l) S'/\FX G n m p q S p' q' S' (s.s_ c)/\S'[l]?=some (.lst [])/\S.length<=l:=by
 show ∃S' p' q' l,fin S (im G [some (.ob n),some (l_ c)] S)=_/\_;unfold im;have t1:ao (f_ EE (f_ t_ (aa 1) (dC (.int 1))) (aA G.c_ a_ 4 (aa 0))) [some (.ob n),some (l_ c)] S=.ok (decide (c.HG=s.op)) S:=by
  refine az (ar (ar rfl rfl (z7 c S)) (Aa a _) ?_);rw[jf];congr 2;rw[decide_eq_decide];omega
 by_cases ho:c.HG=s.op
 ·rw[decide_eq_true ho] at t1;obtain⟨S1,p1,q1,e1,k1⟩:=B1 a b hN hw hc ho;rw[ax (by rw[aQ t1];exact bc (aS rfl a.ob (ag rfl aj) e1)),aP (cb aj (by decide))];exact⟨_,p1,q1,_,rfl,k1.push _,bh rfl,k1.fr.1⟩
 ·rw[decide_eq_false ho] at t1;rw[ax (by rw[av t1];rfl),aP (cb aj (by decide)),uW ho];exact⟨_,p,q,_,rfl,(FX.refl a).push _,bh rfl,Nat.le_refl _⟩
theorem Sb.note{num:Nat}{bs:List Int}(b:Sb N s)(h:bs.length<=7):Sb (N+1) (s.ED num bs):=by
 unfold Sr.ED;split
 ·obtain⟨h1,h2,h3,h4,h5,h6,h7,h8,h9⟩:=dU bs (s.Ip (lD num s.base s.w).toNat) 0;have hn:=b.nl;have hm:=b.ml;have hp:=b.pl;refine⟨by rw[h2];exact b.most,by rw[h3];show s.msgs.length<=_;omega,by rw[h3];exact b.Nl,by rw[h7];show s.ps.length<=_;omega,by rw[h7];exact b.fg,?_⟩;have:(s.Ip (lD num s.base s.w).toNat).ES.length=s.ES.length:=rfl;omega
 ·exact b.mono (Nat.le_succ _)
theorem Sb.s_{c:x_}(b:Sb N s)(hc:Ld c):Sb (N+1) (s.s_ c):=by
 cases c with
 |Ey o=>exact b.mono (Nat.le_succ _)
 |data o i x=>exact b.mono (Nat.le_succ _)
 |v_ o=>
  unfold Sr.s_;dsimp only;split
  ·exact⟨b.most,Nat.le_succ_of_le b.ml,b.Nl,by have:=b.pl;show s.ps.length<=_;omega,b.fg,by have:=b.nl;show s.ES.length<=_;omega⟩
  ·exact b.mono (Nat.le_succ _)
 |Hb o=>
  unfold Sr.s_;dsimp only;split
  ·exact b.anew.mono (Nat.le_succ _)
  ·exact b.mono (Nat.le_succ _)
 |note o i bs=>
  unfold Sr.s_;dsimp only;split
  ·exact b.note hc
  ·exact b.mono (Nat.le_succ _)
theorem Sb.Fz(b:Sb N s):Sb N s.Fz:=⟨b.most,b.ml,b.Nl,b.pl,b.fg,b.nl⟩
theorem Sb.start(b:Sb N s):Sb N s.start:=by
 unfold Sr.start;split
 ·exact b.anew
 ·exact b
def Bl(s:Sr):Prop:=s.base<=s.ps.length
theorem Bl.hand(b:Bl s)(x:GS):Bl (s.hand x):=by
 unfold Bl Sr.hand at *;dsimp only;split
 ·exact b
 ·rw[List.length_append];omega
theorem Bl.anew:Bl s.anew:=Nat.zero_le _
theorem Bl.start(b:Bl s):Bl s.start:=by
 unfold Sr.start;split
 ·exact Bl.anew
 ·exact b
theorem Bl.s_(hw:0<s.w)(b:Bl s)(c:x_):Bl (s.s_ c):=by
 cases c with
 |Ey o=>exact b
 |data o i x=>exact b
 |v_ o=>
  unfold Sr.s_;dsimp only;split<;>exact b
 |Hb o=>
  unfold Sr.s_;dsimp only;split
  ·exact Bl.anew
  ·exact b
 |note o i bs=>
  unfold Sr.s_;dsimp only;split
  ·unfold Sr.ED;split
   ·rename_i h;obtain⟨h1,h2,h3,h4,h5,h6,h7,h8,h9⟩:=dU bs (s.Ip (lD i s.base s.w).toNat) 0;unfold Bl;rw[h7,h8];have:=uk i s.base hw;show(lD i s.base s.w).toNat<=s.ps.length;omega
   ·exact b
  ·exact b
theorem yX(s:Sr)(c:x_):(s.s_ c).w=s.w:=by
 cases c with
 |Ey o=>rfl
 |data o i x=>rfl
 |v_ o=>unfold Sr.s_;dsimp only;split<;>rfl
 |Hb o=>unfold Sr.s_;dsimp only;split<;>rfl
 |note o i bs=>
  unfold Sr.s_;dsimp only;split
  ·unfold Sr.ED;split
   ·exact(dU bs (s.Ip (lD i s.base s.w).toNat) 0).1
   ·rfl
  ·rfl
theorem fB{f:Str}{C:Addr}{ns:List Str}{ds:List D}{d:D}{fo fe:o_->M D}{r:o_}(h1:fe r S=.ok d S1)(h2:fo r S1=.ok (.ob n) S1)(h3:S1[n]?=some (.ins C ns ds)):∃S2,cV C ns f fo fe r S=some (.nx r,S2)/\Ch n (.ins C (ns++[f]) (ds++[d])) S1 S2:=
 ⟨_,kG h1 h2 h3,Ch.set h3⟩
theorem xl(w most:Nat)(S:List Cell):∃S' m p q,gx G.c_ (bM G) [.int (w:Int),.int (most:Int)] S=.ok (.ob S.length) S'/\EX G S' S.length m p q (Sr.new w most)/\Fr [] S S'/\S.length<=m/\S.length<=p/\S.length<=q:=by
 obtain⟨n,hn⟩:∃n,n=S.length:=⟨_,rfl⟩;have s0:(S++[Cell.ins G.c_ [] []])[n]?=some (.ins G.c_ [] []):=bh hn;obtain⟨r,hr⟩:∃r:o_,r=[some (.ob n),some (.int (w:Int)),some (.int (most:Int))]:=⟨_,rfl⟩;have v0:∀S,aa 0 r S=.ok (.ob n) S:=fun S=>by rw[hr];rfl
 have v1:∀S,aa 1 r S=.ok (.int (w:Int)) S:=fun S=>by rw[hr];rfl
 have v2:∀S,aa 2 r S=.ok (.int (most:Int)) S:=fun S=>by rw[hr];rfl
 obtain⟨T1,e1,c1⟩:=fB (f:="window") (fo:=aa 0) (fe:=aa 1) (v1 _) (v0 _) s0;obtain⟨T2,e2,c2⟩:=fB (f:="most") (fo:=aa 0) (fe:=aa 2) (v2 _) (v0 _) c1.at_;obtain⟨T3,e3,c3⟩:=fB (f:="messages") (fo:=aa 0) (fe:=bZ ai) (r:=r) (cb aj (by decide)) (v0 _) (aG (G:=[.lst []]) c2.at_);obtain⟨T4,e4,c4⟩:=fB (f:="sure") (fo:=aa 0) (fe:=dC (.int 0)) (r:=r) rfl (v0 _) c3.at_;obtain⟨T5,e5,c5⟩:=fB (f:="opening") (fo:=aa 0) (fe:=dC (.int 0)) (r:=r) rfl (v0 _) c4.at_;obtain⟨T6,e6,c6⟩:=fB (f:="state") (fo:=aa 0) (fe:=dC (.str "shut")) (r:=r) rfl (v0 _) c5.at_;obtain⟨T7,e7,c7⟩:=fB (f:="pieces") (fo:=aa 0) (fe:=bZ ai) (r:=r) (cb aj (by decide)) (v0 _) (aG (G:=[.lst []]) c6.at_);obtain⟨T8,e8,c8⟩:=fB (f:="base") (fo:=aa 0) (fe:=dC (.int 0)) (r:=r) rfl (v0 _) c7.at_;obtain⟨T9,e9,c9⟩:=fB (f:="noted") (fo:=aa 0) (fe:=k8) (r:=r) rfl (v0 _) (aG (G:=[.FN []]) c8.at_);have l1:=c1.len;have l2:=c2.len;have l3:=c3.len;have l4:=c4.len;have l5:=c5.len;have l6:=c6.len;have l7:=c7.len;have l8:=c8.len;have l9:=c9.len;rw[List.length_append,List.length_singleton] at l1 l3 l7 l9;have m3:T3[T2.length]?=some (.lst []):=c3.old (bh rfl) (by omega);have m6:T6[T2.length]?=some (.lst []):=c6.old (c5.old (c4.old m3 (by omega)) (by omega)) (by omega);have m7:T7[T2.length]?=some (.lst []):=c7.old (aG m6) (by omega);have p7:T7[T6.length]?=some (.lst []):=c7.old (bh rfl) (by omega);have m9:T9[T2.length]?=some (.lst []):=c9.old (aG (c8.old m7 (by omega))) (by omega);have p9:T9[T6.length]?=some (.lst []):=c9.old (aG (c8.old p7 (by omega))) (by omega);have q9:T9[T8.length]?=some (.FN []):=c9.old (bh rfl) (by omega);refine⟨T9,T2.length,T6.length,T8.length,?_,?_,?_,by omega,by omega,by omega⟩
 ·unfold gx;rw[<-hn];have:bM G [.ob n,.int (w:Int),.int (most:Int)] (S++[.ins G.c_ [] []])=.ok .B_ T9:=by
   show fin _ (dW G [some (.ob n),some (.int (w:Int)),some (.int (most:Int))] _)=_;rw[<-hr];simp only[List.nil_append,List.cons_append] at e2 e3 e4 e5 e6 e7 e8;unfold dW;rw[ax e1,ax e2,ax e3,ax e4,ax e5,ax e6,ax e7,ax e8];rw[show cV G.c_ ["window","most","messages","sure","opening","state","pieces","base"] "noted" (aa 0) k8 r T8=some (.nx r,T9) from e9];rfl
  rw[this]
 ·rw[<-hn];exact⟨c9.at_,m9,p9,q9,by omega⟩
 ·have f:Fr [n] S T9:=((((((((((Fr.push.tr c1.fr).tr c2.fr).tr Fr.push).tr c3.fr).tr c4.fr).tr c5.fr).tr c6.fr).tr Fr.push).tr c7.fr).tr c8.fr).tr (Fr.push.tr c9.fr);exact f.mono fun i hi hs=>by
   have:i=n:=by simpa using hi
   omega
end
end Lw
namespace Lw
open PySem L2 DL
def PK(g:Nat×GS):D:=.tup [.int (g.1:Int),.tup (g.2.map D.int)]
def Le(e:List (Nat×Pc)):List (Key×D):=e.map fun q=>(Sum.inl (q.1:Int),E5 q.2)
theorem qd(e:List (Nat×Pc))(k:Nat):eR (Le e) (.inl (k:Int))=(e.lookup k).map E5:=by
 induction e with
 |nil=>rfl
 |cons a r ih=>
  obtain⟨a1,a2⟩:=a;rw[List.lookup_cons];unfold Le at ih ⊢;rw[List.map_cons];unfold eR at ih ⊢;rw[List.find?_cons];by_cases h:k=a1
  ·subst h;simp
  ·have h1:(k == a1)=false:=beq_eq_false_iff_ne.mpr h;have h2:decide ((Sum.inl (a1:Int):Key)=Sum.inl (k:Int))=false:=decide_eq_false fun z=>h (by injection z with z;omega)
   simp only[h2,h1];exact ih
theorem Cd(e:List (Nat×Pc))(k:Nat):((Le e).any fun kv=>decide (kv.1=(Sum.inl (k:Int):Key)))=(e.lookup k).isSome:=by
 induction e with
 |nil=>rfl
 |cons a r ih=>
  obtain⟨a1,a2⟩:=a;rw[List.lookup_cons];unfold Le at ih ⊢;rw[List.map_cons,List.any_cons];by_cases h:k=a1
  ·subst h;simp
  ·have h1:(k == a1)=false:=beq_eq_false_iff_ne.mpr h;have h2:decide ((Sum.inl (a1:Int):Key)=Sum.inl (k:Int))=false:=decide_eq_false fun z=>h (by injection z with z;omega)
   simp only[h2,h1,Bool.false_or];exact ih
theorem Cb{e:List (Nat×Pc)}{k:Nat}(p:Pc)(h:e.lookup k=none):mB (Le e) (.inl (k:Int)) (E5 p)=Le (e++[(k,p)]):=by
 unfold mB;rw[Cd,h];simp[Le]
theorem Av(e:List (Nat×Pc))(k:Nat):vw (Le e) (.inl (k:Int))=Le (e.filter fun q=>decide (q.1≠k)):=by
 induction e with
 |nil=>rfl
 |cons a r ih=>
  obtain⟨a1,a2⟩:=a;unfold vw Le at ih ⊢;rw[List.map_cons,List.filter_cons,List.filter_cons];by_cases h:a1=k
  ·subst h;simpa using ih
  ·have h2:decide ((Sum.inl (a1:Int):Key)≠Sum.inl (k:Int))=true:=decide_eq_true fun z=>h (by injection z with z;omega)
   have h3:decide (a1≠k)=true:=decide_eq_true h;simp only[h2,h3,if_true,List.map_cons];rw[ih]
theorem BP(e:List (Nat×Pc)):(Le e).length=e.length:=by simp[Le]
structure Fi(G:Cs)(S:List Cell)(n g e b:Nat)(h:Hr):Prop where
 ob:S[n]?=some (.ins G.g_ d_ [.int (h.w:Int),.ob g,.int (h.op:Int),.int (h.nx:Int),.ob e,.ob b])
 gv:S[g]?=some (.lst (h.given.map PK))
 ea:S[e]?=some (.FN (Le h.early))
 be:S[b]?=some (.lst (h.begun.map E5))
 gb:g≠b
section
variable{G:Cs}{S:List Cell}{n g e b:Nat}{h:Hr}
theorem Fi.ng(a:Fi G S n g e b h):n≠g:=dA a.ob a.gv (by intro z;cases z)
theorem Fi.ne(a:Fi G S n g e b h):n≠e:=dA a.ob a.ea (by intro z;cases z)
theorem Fi.nb(a:Fi G S n g e b h):n≠b:=dA a.ob a.be (by intro z;cases z)
theorem Fi.ge(a:Fi G S n g e b h):g≠e:=dA a.gv a.ea (by intro z;cases z)
theorem Fi.eb(a:Fi G S n g e b h):e≠b:=dA a.ea a.be (by intro z;cases z)
theorem Fi.fr{S':List Cell}{fp:List Nat}(a:Fi G S n g e b h)(f:Fr fp S S')(h1:n∉fp)(h2:g∉fp)(h3:e∉fp)(h4:b∉fp):Fi G S' n g e b h:=⟨f.get a.ob h1,f.get a.gv h2,f.get a.ea h3,f.get a.be h4,a.gb⟩
theorem Fi.push(a:Fi G S n g e b h)(c:List Cell):Fi G (S++c) n g e b h:=⟨aG a.ob,aG a.gv,aG a.ea,aG a.be,a.gb⟩
theorem z8(a:Fi G S n g e b h)(o:Nat):∃S' e' b',cW G [.ob n,.int (o:Int)] S=.ok .B_ S'/\Fi G S' n g e' b' (h.begin_ o)/\Fr [n] S S'/\S.length<=e'/\S.length<=b':=by
 have hn:=aT a.ob;have hg:=aT a.gv;have ng:=a.ng;obtain⟨S1,q1,c1⟩:=iz (fo:=aa 0) (fe:=aa 1) (r:=[some (.ob n),some (.int (o:Int))]) (i:=2) rfl rfl a.ob rfl;obtain⟨S2,q2,c2⟩:=iz (fo:=aa 0) (fe:=dC (.int 0)) (r:=[some (.ob n),some (.int (o:Int))]) (i:=3) rfl rfl c1.at_ rfl;obtain⟨S3,q3,c3⟩:=iz (fo:=aa 0) (fe:=k8) (r:=[some (.ob n),some (.int (o:Int))]) (i:=4) rfl rfl (aG (G:=[.FN []]) c2.at_) rfl;obtain⟨S4,q4,c4⟩:=iz (fo:=aa 0) (fe:=bZ ai) (r:=[some (.ob n),some (.int (o:Int))]) (i:=5) (cb aj (by decide)) rfl (aG (G:=[.lst []]) c3.at_) rfl;have l1:=c1.len;have l2:=c2.len;have l3:=c3.len;have l4:=c4.len;rw[List.length_append,List.length_singleton] at l3 l4;refine⟨S4,S2.length,S3.length,?_,⟨c4.at_,c4.old (aG (c3.old (aG (c2.old (c1.old a.gv ng) ng)) ng)) ng,c4.old (aG (c3.old (bh rfl) (by omega))) (by omega),c4.old (bh rfl) (by omega),by omega⟩,?_,by omega,by omega⟩
 ·show fin S (iy G [some (.ob n),some (.int (o:Int))] S)=_;unfold iy;rw[ax q1,ax q2,ax q3,q4];rfl
 ·exact((((c1.fr.tr c2.fr).tr Fr.push).tr c3.fr).tr Fr.push).tr c4.fr
end
end Lw
namespace Lw
open PySem L2 DL
section
variable{G:Cs}{S S' S1 S2:List Cell}{n g e b e' b' e1 b1 e2 b2:Nat}{h h' h1 h2:Hr}
structure FF(G:Cs)(n g e b:Nat)(S:List Cell)(e' b':Nat)(S':List Cell)(h':Hr):Prop where
 at_:Fi G S' n g e' b' h'
 fr:Fr [n,g,e,b] S S'
 e_:e'=e\/S.length<=e'
 b_:b'=b\/S.length<=b'
theorem FF.trans(a:FF G n g e b S e1 b1 S1 h1)(c:FF G n g e1 b1 S1 e2 b2 S2 h2):FF G n g e b S e2 b2 S2 h2:=by
 have hl:=a.fr.1;refine⟨c.at_,a.fr.trans c.fr fun i hi hs=>?_,?_,?_⟩
 ·simp only[List.mem_cons,List.not_mem_nil,or_false] at hi ⊢;have he:=a.e_;have hb:=a.b_;omega
 ·have:=a.e_;have:=c.e_;omega
 ·have:=a.b_;have:=c.b_;omega
theorem FF.refl(a:Fi G S n g e b h):FF G n g e b S e b S h:=⟨a,Fr.refl _ _,.inl rfl,.inl rfl⟩
theorem FF.push(a:FF G n g e b S e' b' S' h')(c:List Cell):FF G n g e b S e' b' (S'++c) h':=⟨a.at_.push c,a.fr.tr Fr.push,a.e_,a.b_⟩
theorem sm(a:Fi G S n g e b h)(o:Nat):∃S' e' b',cW G [.ob n,.int (o:Int)] S=.ok .B_ S'/\FF G n g e b S e' b' S' (h.begin_ o):=by
 obtain⟨S',e',b',q,c,f,h1,h2⟩:=z8 a o;exact⟨S',e',b',q,⟨c,f.mono (fun i hi _=>by simp at hi;simp[hi]),.inr h1,.inr h2⟩⟩
theorem sG(a:Fi G S n g e b h)(r:o_):aA G.g_ d_ 2 (aa 0) (some (.ob n) :: r) S=.ok (.int (h.op:Int)) S:=bK rfl a.ob rfl
theorem sF(a:Fi G S n g e b h)(r:o_):aA G.g_ d_ 3 (aa 0) (some (.ob n) :: r) S=.ok (.int (h.nx:Int)) S:=bK rfl a.ob rfl
theorem zL(a:Fi G S n g e b h)(r:o_):aA G.g_ d_ 0 (aa 0) (some (.ob n) :: r) S=.ok (.int (h.w:Int)) S:=bK rfl a.ob rfl
theorem uH(a:Fi G S n g e b h)(r:o_):aA G.g_ d_ 4 (aa 0) (some (.ob n) :: r) S=.ok (.ob e) S:=bK rfl a.ob rfl
theorem BB(a:Fi G S n g e b h)(r:o_):aA G.g_ d_ 5 (aa 0) (some (.ob n) :: r) S=.ok (.ob b) S:=bK rfl a.ob rfl
theorem De(a:Fi G S n g e b h)(r:o_):aA G.g_ d_ 1 (aa 0) (some (.ob n) :: r) S=.ok (.ob g) S:=bK rfl a.ob rfl
structure Out(S:List Cell)(l:Nat)(S':List Cell)(cs:List x_):Prop where
 at_:S'[l]?=some (.lst (cs.map l_))
 new:S.length<=l
theorem zP(a:Fi G S n g e b h)(o:Nat):∃S' e' b' l,cA G [.ob n,.int (o:Int)] S=.ok (.ob l) S'/\FF G n g e b S e' b' S' (h.s_ (.Ey o)).1/\Out S l S' (h.s_ (.Ey o)).2:=by
 show ∃S' e' b' l,fin S (eA G [some (.ob n),some (.int (o:Int))] S)=_/\_;unfold eA;have t1:ao (f_ Hl (aa 1) (aA G.g_ d_ 2 (aa 0))) [some (.ob n),some (.int (o:Int))] S=.ok (decide (o<h.op)) S:=by
  refine az (ar rfl (sG a _) ?_);rw[rO];congr 2;rw[decide_eq_decide];omega
 have t2:ao (f_ ML (aa 1) (aA G.g_ d_ 2 (aa 0))) [some (.ob n),some (.int (o:Int))] S=.ok (decide (h.op<o)) S:=by
  refine az (ar rfl (sG a _) ?_);rw[A4];congr 2;rw[decide_eq_decide];omega
 have wl:∀S0,bP (bZ (ac (cf (ac (dC (.str "welcome")) (ac (aa 1) ai))) ai)) [some (.ob n),some (.int (o:Int))] S0=some (.rt (.ob S0.length),S0++[.lst [l_ (.v_ o)]]):=fun S0=>
  aP (cb (ag (bQ (ag rfl (ag rfl aj)) (by simp)) aj) (by simp))
 by_cases c1:o<h.op
 ·have e1:h.s_ (.Ey o)=(h,[]):=by simp[Hr.s_,c1]
  rw[decide_eq_true c1] at t1;rw[di (by rw[aQ t1];exact aP (cb aj (by decide))),e1];exact⟨_,e,b,_,rfl,(FF.refl a).push _,⟨bh rfl,Nat.le_refl _⟩⟩
 ·rw[decide_eq_false c1] at t1;rw[ax (by rw[av t1];rfl)];by_cases c2:h.op<o
  ·have e1:h.s_ (.Ey o)=(h.begin_ o,[.v_ o]):=by simp[Hr.s_,c1,c2]
   rw[decide_eq_true c2] at t2;obtain⟨S1,Yq,Yr,q,c⟩:=sm a o;rw[ax (by rw[aQ t2];exact bc (aS rfl a.ob (ag rfl aj) q)),wl,e1];exact⟨_,Yq,Yr,_,rfl,c.push _,⟨bh rfl,c.fr.1⟩⟩
  ·have e1:h.s_ (.Ey o)=(h,[.v_ o]):=by simp[Hr.s_,c1,c2]
   rw[decide_eq_false c2] at t2;rw[ax (by rw[av t2];rfl),wl,e1];exact⟨_,e,b,_,rfl,(FF.refl a).push _,⟨bh rfl,Nat.le_refl _⟩⟩
theorem zg(m w:Nat)(S:List Cell):cn [.int (m:Int),.int (w:Int)] S=.ok (.bl (decide (m<2 * w))) S:=by
 have h1:(0:Int)<=(m:Int):=by omega
 have h2:decide ((m:Int)<2 * (w:Int))=decide (m<2 * w):=by rw[decide_eq_decide];omega
 simp[cn,jF,h1,h2]
theorem zC{m:Int}{low:Int}{w:Nat}(hw:0<w)(S:List Cell):cz [.int m,.int low,.int (w:Int)] S=.ok (.int (lD m low w)) S:=by
 have h1:(0:Int)<2 * (w:Int):=by omega
 simp[cz,jI,cS h1,lD]
theorem A6(a:Fi G S n g e b h)(hw:0<h.w)(num:Nat)(p:Pc)(hz:h.early.length<1000000):∃S',gX G [.ob n,.int (num:Int),E5 p] S=.ok .B_ S'/\FF G n g e b S e b S' (h.keep num p):=by
 show ∃S',fin S (iT G [some (.ob n),some (.int (num:Int)),some (E5 p),none] S)=_/\_;unfold iT;have t1:bW (am cn (ac (aa 1) (ac (aA G.g_ d_ 0 (aa 0)) ai))) [some (.ob n),some (.int (num:Int)),some (E5 p),none] S=.ok (decide (num<2 * h.w)) S:=by
  rw[cU,aw,ay (ag rfl (ag (zL a _) aj)) (zg num h.w S)];rfl
 by_cases c1:num<2 * h.w
 ·rw[decide_eq_true c1] at t1;have t2:am cz (ac (aa 1) (ac (f_ rN (aA G.g_ d_ 3 (aa 0)) (aA G.g_ d_ 0 (aa 0))) (ac (aA G.g_ d_ 0 (aa 0)) ai))) [some (.ob n),some (.int (num:Int)),some (E5 p),none] S=.ok (.int (h.idx num)) S:=
   ay (ag rfl (ag (ar (sF a _) (zL a _) (tj _ _)) (ag (zL a _) aj))) (zC hw S)
  rw[aQ t1,ax (bB t2)];show ∃S',fin S (Fd _ _ _ [some (.ob n),some (.int (num:Int)),some (E5 p),some (.int (h.idx num))] S)=_/\_;have t3:ao (f_ IQ (aa 3) (aA G.g_ d_ 3 (aa 0))) [some (.ob n),some (.int (num:Int)),some (E5 p),some (.int (h.idx num))] S=.ok (decide ((h.nx:Int)<=h.idx num)) S:=
   az (ar rfl (sF a _) (vG _ _))
  by_cases c2:(h.nx:Int)<=h.idx num
  ·obtain⟨k,hk⟩:∃k:Nat,h.idx num=(k:Int):=⟨(h.idx num).toNat,by omega⟩;have t4:ao (f_ fY (aa 3) (aA G.g_ d_ 4 (aa 0))) [some (.ob n),some (.int (num:Int)),some (E5 p),some (.int (h.idx num))] S=.ok (!(h.early.lookup k).isSome) S:=by
    refine az (ar rfl (uH a _) ?_);rw[hk];simp only[fY,gK,dZ a.ea,qd,Option.isSome_map]
   by_cases c3:h.early.lookup k=none
   ·have e1:h.keep num p = { h with early:=h.early++[(k,p)] }:=by
     unfold Hr.keep;rw[if_pos ⟨c1,c2,by rw[hk];exact c3⟩,hk];rfl
    have tt:dg (ao (f_ IQ (aa 3) (aA G.g_ d_ 3 (aa 0)))) (ao (f_ fY (aa 3) (aA G.g_ d_ 4 (aa 0)))) [some (.ob n),some (.int (num:Int)),some (E5 p),some (.int (h.idx num))] S=.ok true S:=by
     rw[cK,aw,t3,decide_eq_true c2];show ao _ _ S=_;rw[t4,c3];rfl
    rw[aQ tt,lI (d:=E5 p) rfl (uH a _) (y:=.int (h.idx num)) rfl (S4:=S.set e (.FN (Le (h.early++[(k,p)])))) (by
     rw[hk];simp only[gq,gK,dZ a.ea,Cb p c3];exact cg (Ms (by rw[BP];omega)))]
    refine⟨_,rfl,?_⟩;rw[e1];exact⟨⟨cR a.ob a.ne.symm,cR a.gv a.ge.symm,d6 a.ea,cR a.be a.eb,a.gb⟩,Fr.set (by simp),.inl rfl,.inl rfl⟩
   ·have e1:h.keep num p=h:=by
     unfold Hr.keep;exact if_neg fun q=>c3 (by have:=q.2.2;rw[hk] at this;exact this)
    have tt:dg (ao (f_ IQ (aa 3) (aA G.g_ d_ 3 (aa 0)))) (ao (f_ fY (aa 3) (aA G.g_ d_ 4 (aa 0)))) [some (.ob n),some (.int (num:Int)),some (E5 p),some (.int (h.idx num))] S=.ok false S:=by
     rw[cK,aw,t3,decide_eq_true c2];show ao _ _ S=_;rw[t4];cases q:h.early.lookup k with
     |none=>exact absurd q c3
     |some _=>rfl
    rw[av tt,e1];exact⟨_,rfl,FF.refl a⟩
  ·have e1:h.keep num p=h:=by
    unfold Hr.keep;exact if_neg fun q=>c2 q.2.1
   have tt:dg (ao (f_ IQ (aa 3) (aA G.g_ d_ 3 (aa 0)))) (ao (f_ fY (aa 3) (aA G.g_ d_ 4 (aa 0)))) [some (.ob n),some (.int (num:Int)),some (E5 p),some (.int (h.idx num))] S=.ok false S:=by
    rw[cK,aw,t3,decide_eq_false c2];rfl
   rw[av tt,e1];exact⟨_,rfl,FF.refl a⟩
 ·rw[decide_eq_false c1] at t1;have e1:h.keep num p=h:=by
   unfold Hr.keep;exact if_neg fun q=>c1 q.1
  rw[av t1,e1];exact⟨_,rfl,FF.refl a⟩
end
end Lw
namespace Lw
open PySem L2 DL
section
variable{G:Cs}{S S' S1 S2:List Cell}{n g e b e' b' e1 b1 e2 b2:Nat}{h h' h1 h2:Hr}
theorem xg(a:Fi G S n g e b h):∃S' e' b',d9 G [.ob n] S=.ok .B_ S'/\FF G n g e b S e' b' S' h.Fz:=by
 obtain⟨S',e',b',q,c⟩:=sm a 0;refine⟨S',e',b',?_,c⟩;show fin S (je G [some (.ob n)] S)=_;unfold je;rw[bc (aS rfl a.ob rfl q)];rfl
end
end Lw
namespace Lw
open PySem L2 DL
section
variable{G:Cs}{S S' S1 S2:List Cell}{n g e b e' b' e1 b1 e2 b2:Nat}{h h' h1 h2:Hr}
theorem Ct(p:Pc)(S:List Cell):t_ (E5 p) (.int 0) S=.ok (.int p.1) S:=rfl
theorem Cl(p:Pc)(S:List Cell):t_ (E5 p) (.int 1) S=.ok (.tup (p.2.map D.int)) S:=rfl
theorem oq(ps:List Pc)(k:Nat):(bw (ps.take k)).length<=(bw ps).length:=by
 have:=lP (ps.take k) (ps.drop k);rw[List.take_append_drop] at this;rw[this,List.length_append];omega
theorem nV{ps:List Pc}{k:Nat}{p:Pc}(h:ps[k]?=some p):bw (ps.take (k+1))=bw (ps.take k)++p.2:=by
 rw[List.take_add_one,h];simp[lP,bw]
theorem wK{x:D}{ps:List Pc}{gd:Option (Nat×List D)}(hx:∀T,iC x (S++T)=.ok ⟨ps.map E5,gd⟩ (S++T))(hg:Ig gd S)(hz:(bw ps).length<=1000000):eP [x] S=.ok (.tup ((bw ps).map D.int)) S:=by
 show cY S (jX [some x,none,none] S)=_;unfold jX;rw[ax (bB (cb aj (by decide)))];show cY S (aN _ _ [some x,some (.ob S.length),none] (S++[.lst []]))=_;have hw:Hd (aa 0) [some x,some (.ob S.length),none] (S++[.lst []])=.ok ⟨ps.map E5,gd⟩ (S++[.lst []]):=by
  rw[jY,aw];exact hx _
 obtain⟨r',S',q,last,rfl,rfl⟩:=eN (g:=gd) (tg:=gN 2) (b:=bx (Ij si (aa 1) (ac (f_ t_ (aa 2) (dC (.int 1))) ai)))
  (fun k r S'=>∃last,r=[some x,some (.ob S.length),last]/\S'=S++[.lst ((bw (ps.take k)).map D.int)]) (ps.map E5) 0 [some x,some (.ob S.length),none] (S++[.lst []])
  (by
   rintro i y r S' hy ⟨last,rfl,rfl⟩;rw[List.getElem?_map] at hy;cases hp:ps[i]? with
   |none=>rw[hp] at hy;cases hy
   |some p=>
    rw[hp] at hy;cases hy;rw[Nat.zero_add];have HP:∀a c:Cell,(S++[a]).set S.length c=S++[c]:=fun a c=>by rw[List.set_append_right _ _ (Nat.le_refl _)];simp
    refine⟨[some x,some (.ob S.length),some (E5 p)],[some x,some (.ob S.length),some (E5 p)],S++[.lst ((bw (ps.take i)).map D.int++p.2.map D.int)],rfl,?_,?_,some (E5 p),rfl,?_⟩
    ·have hl:=oq ps (i+1);rw[nV hp,List.length_append] at hl;have ee:=bc (r:=[some x,some (.ob S.length),some (E5 p)]) (fe:=Ij si (aa 1) (ac (f_ t_ (aa 2) (dC (.int 1))) ai)) (mH (n:=S.length) (S:=S++[.lst ((bw (ps.take i)).map D.int)]) rfl (bh rfl) (ag (ar rfl rfl (Cl p _)) aj)
      (BL (xs:=(bw (ps.take i)).map D.int) (ys:=p.2.map D.int) (bh rfl) (by rw[List.length_map,List.length_map];omega)))
     rw[HP] at ee;exact ee
    ·cases gd with
     |none=>trivial
     |some q=>exact aG hg
    ·rw[nV hp,List.map_append])
  ⟨none,rfl,by simp[bw]⟩
 rw[ax (by rw[mO hw];exact q),aP (ay (ag (x:=.ob S.length) rfl aj) (dR (bh rfl)))];rw[show 0+(ps.map E5).length=ps.length by simp,List.take_length];exact lX (by unfold FY;exact dB _ _)
theorem v6{k:Nat}{ps:List Pc}(hk:S[k]?=some (.lst (ps.map E5)))(hz:(bw ps).length<=1000000):eP [.ob k] S=.ok (.tup ((bw ps).map D.int)) S:=by
 refine wK (gd:=some (k,ps.map E5)) (fun T=>?_) hk hz;simp only[iC];rw[aG hk]
theorem AJ(a:Fi G S n g e b h)(p:Pc)(z1:h.begun.length<1000000)(z2:h.given.length<1000000)(z3:(bw (h.begun++[p])).length<=1000000) :
  ∃S' b',gQ G [.ob n,E5 p] S=.ok .B_ S'/\FF G n g e b S e b' S' (h.take p):=by
 show ∃S' b',fin S (jq G [some (.ob n),some (E5 p)] S)=_/\_;unfold jq;obtain⟨S1,q1,c1⟩:=tO (fo:=aA G.g_ d_ 5 (aa 0)) (ft:=ac (aa 1) ai) (r:=[some (.ob n),some (E5 p)]) (BB a _) a.be (ag rfl aj) (by simpa using z1);have a1:Fi G S1 n g e b { h with begun:=h.begun++[p] }:=⟨c1.old a.ob a.nb.symm,c1.old a.gv a.gb.symm,c1.old a.ea a.eb.symm,by simpa using c1.at_,a.gb⟩;have f1:Fr [n,g,e,b] S S1:=c1.fp (by simp);rw[ax (bc q1)];have t1:ao (f_ EE (f_ t_ (aa 1) (dC (.int 0))) (dC (.int 1))) [some (.ob n),some (E5 p)] S1=.ok (decide (p.1=1)) S1:=az (ar (ar rfl rfl (Ct p _)) rfl (jf _ _));by_cases hl:p.1=1
 ·rw[decide_eq_true hl] at t1;have e1:h.take p = { h with given:=h.given++[(h.op,bw (h.begun++[p]))],begun:=[] }:=by unfold Hr.take;rw[if_pos hl]
  obtain⟨S2,q2,c2⟩:=tO (d:=PK (h.op,bw (h.begun++[p]))) (fo:=aA G.g_ d_ 1 (aa 0)) (ft:=ac (cf (ac (aA G.g_ d_ 2 (aa 0)) (ac (am eP (ac (aA G.g_ d_ 5 (aa 0)) ai)) ai))) ai)
   (r:=[some (.ob n),some (E5 p)]) (De a1 _) a1.gv (ag (bQ (ag (sG a1 _) (ag (ay (ag (BB a1 _) aj) (v6 a1.be z3)) aj)) (by simp)) aj) (by simpa using z2)
  obtain⟨S3,q3,c3⟩:=iz (fo:=aa 0) (fe:=bZ ai) (r:=[some (.ob n),some (E5 p)]) (i:=5) (cb aj (by decide)) rfl (aG (G:=[.lst []]) (c2.old a1.ob a.ng.symm)) rfl;have l2:=c2.len;have Iw:=aT a1.ob;have hlg:=aT a1.gv;have hl1:=f1.1;have a3:Fi G S3 n g e S2.length { h with given:=h.given++[(h.op,bw (h.begun++[p]))],begun:=[] }:=
   ⟨c3.at_,c3.old (aG (by simpa using c2.at_)) a.ng,c3.old (aG (c2.old a1.ea a.ge)) a.ne,c3.old (bh rfl) (by omega),by omega⟩
  refine⟨S3,S2.length,?_,?_⟩
  ·rw[aQ t1,ax (bc q2),q3];rfl
  ·rw[e1];exact⟨a3,((f1.tr (c2.fp (by simp))).tr Fr.push).tr (c3.fp (by simp)),.inl rfl,.inr (by omega)⟩
 ·rw[decide_eq_false hl] at t1;have e1:h.take p = { h with begun:=h.begun++[p] }:=by unfold Hr.take;rw[if_neg hl]
  refine⟨S1,b,?_,?_⟩
  ·rw[av t1];rfl
  ·rw[e1];exact⟨a1,f1,.inl rfl,.inl rfl⟩
end
end Lw
namespace Lw
open PySem L2 DL
structure Bd(N:Nat)(h:Hr):Prop where
 cnt:h.given.length+h.begun.length+h.early.length<=N
 bp:∀p,p∈h.begun->p.2.length<=40
 ep:∀q,q∈h.early->q.2.2.length<=40
theorem rB:∀{ps:List Pc},(∀p,p∈ps->p.2.length<=40)->(bw ps).length<=40 * ps.length
 |[],_=>by simp[bw]
 |p :: ps,h=>by
  have h1:=h p (by simp);have h2:=rB fun q hq=>h q (List.mem_cons_of_mem _ hq)
  have:bw (p :: ps)=p.2++bw ps:=by simp[bw]
  rw[this,List.length_append,List.length_cons];omega
theorem o9{l:List (Nat×Pc)}{k:Nat}{p:Pc}(h:l.lookup k=some p):(k,p)∈l:=by
 induction l with
 |nil=>simp at h
 |cons a r ih=>
  obtain⟨a1,a2⟩:=a;rw[List.lookup_cons] at h;cases e:k == a1 with
  |true=>
   rw[e] at h;simp at h;have:=beq_iff_eq.mp e;subst this h;simp
  |false=>
   rw[e] at h;exact List.mem_cons_of_mem _ (ih h)
section
variable{N:Nat}{h:Hr}
theorem Bd.mono{M:Nat}(b:Bd N h)(hm:N<=M):Bd M h:=⟨Nat.le_trans b.cnt hm,b.bp,b.ep⟩
theorem Bd.begin_(b:Bd N h)(o:Nat):Bd N (h.begin_ o):=⟨by have:=b.cnt;simp[Hr.begin_];omega,by simp[Hr.begin_],by simp[Hr.begin_]⟩
theorem Bd.keep(b:Bd N h)(num:Nat){p:Pc}(hp:p.2.length<=40):Bd (N+1) (h.keep num p):=by
 unfold Hr.keep;split
 ·refine⟨?_,b.bp,fun q hq=>?_⟩
  ·have:=b.cnt;show h.given.length+h.begun.length+(h.early++_).length<=_;rw[List.length_append,List.length_singleton];omega
  ·rcases List.mem_append.mp hq with hq|hq
   ·exact b.ep q hq
   ·rw[List.mem_singleton.mp hq];exact hp
 ·exact b.mono (Nat.le_succ _)
theorem Bd.one(b:Bd N h){p:Pc}(hp:h.early.lookup h.nx=some p):Bd N (h.pop.take p)/\(h.pop.take p).early.length<h.early.length:=by
 have hm:=o9 hp;have Iw:(h.early.filter fun e=>decide (e.1≠h.nx)).length<h.early.length:=List.length_filter_lt_length_iff_exists.mpr ⟨_,hm,by simp⟩;have hc:=b.cnt;have Q8:=b.ep _ hm;unfold Hr.take Hr.pop;split
 ·refine⟨⟨?_,by simp,fun q hq=>b.ep q (List.mem_filter.mp hq).1⟩,Iw⟩;show(h.given++[_]).length+0+(h.early.filter _).length<=N;rw[List.length_append,List.length_singleton];omega
 ·refine⟨⟨?_,fun q hq=>?_,fun q hq=>b.ep q (List.mem_filter.mp hq).1⟩,Iw⟩
  ·show h.given.length+(h.begun++[p]).length+(h.early.filter _).length<=N;rw[List.length_append,List.length_singleton];omega
  ·rcases List.mem_append.mp hq with hq|hq
   ·exact b.bp q hq
   ·rw[List.mem_singleton.mp hq];exact Q8
theorem Bd.Fn:∀{k:Nat}{h:Hr},Bd N h->Bd N (Hr.Fn k h)
 |0,_,b=>b
 |k+1,h,b=>by
  unfold Hr.Fn;cases e:h.early.lookup h.nx with
  |none=>exact b
  |some p=>exact Bd.Fn (b.one e).1
end
section
variable{G:Cs}{S S' S1 S2:List Cell}{n g e b e' b' e1 b1 e2 b2:Nat}{h h' h1 h2:Hr}{N:Nat}
theorem vP(hN:N<=20000):∀(k fuel:Nat) (S:List Cell) (b:Nat) (h:Hr) (x1:Option D),Fi G S n g e b h->h.early.length<=k->k<fuel->Bd N h->
  ∃S' b' OD,cy G fuel [some (.ob n),x1] S=some (.nx [some (.ob n),OD],S')/\FF G n g e b S e b' S' (Hr.Fn k h):=by
 intro k
 induction k with
 |zero=>
  intro fuel S b h x1 a hk hf _;obtain⟨f,rfl⟩:∃f,fuel=f+1:=⟨fuel-1,by omega⟩;have he:h.early=[]:=List.length_eq_zero_iff.mp (by omega);have t1:ao (f_ qY (aA G.g_ d_ 3 (aa 0)) (aA G.g_ d_ 4 (aa 0))) [some (.ob n),x1] S=.ok false S:=by
   refine az (ar (sF a _) (uH a _) ?_);simp only[qY,gK,dZ a.ea,qd,Option.isSome_map,he];rfl
  refine⟨S,b,x1,?_,FF.refl a⟩;unfold cy;exact Cr t1
 |succ k ih=>
  intro fuel S b h x1 a hk hf hb;obtain⟨f,rfl⟩:∃f,fuel=f+1:=⟨fuel-1,by omega⟩;have t1:ao (f_ qY (aA G.g_ d_ 3 (aa 0)) (aA G.g_ d_ 4 (aa 0))) [some (.ob n),x1] S=.ok (h.early.lookup h.nx).isSome S:=by
   refine az (ar (sF a _) (uH a _) ?_);simp only[qY,gK,dZ a.ea,qd,Option.isSome_map]
  cases hp:h.early.lookup h.nx with
  |none=>
   rw[hp] at t1;refine⟨S,b,x1,?_,?_⟩
   ·unfold cy;exact Cr t1
   ·unfold Hr.Fn;rw[hp];exact FF.refl a
  |some p=>
   rw[hp] at t1;obtain⟨Q_,Iw⟩:=hb.one hp;have hm:=o9 hp;have Ys:=hb.ep _ hm;have hc:=hb.cnt;have q1:xR vD (aA G.g_ d_ 4 (aa 0)) (ac (aA G.g_ d_ 3 (aa 0)) ai) [some (.ob n),x1] S=.ok (E5 p) (S.set e (.FN (Le (h.early.filter fun q=>decide (q.1≠h.nx))))):=by
    refine Ca (uH a _) a.ea (ag (sF a _) aj) ?_;simp only[vD,gK,dZ a.ea,qd,hp,Option.map_some,Av]
   have a1:Fi G (S.set e (.FN (Le (h.early.filter fun q=>decide (q.1≠h.nx))))) n g e b { h with early:=h.early.filter fun q=>decide (q.1≠h.nx) }:=
    ⟨cR a.ob a.ne.symm,cR a.gv a.ge.symm,d6 a.ea,cR a.be a.eb,a.gb⟩
   obtain⟨S1,HW⟩:∃S1,S.set e (.FN (Le (h.early.filter fun q=>decide (q.1≠h.nx))))=S1:=⟨_,rfl⟩;have f1:Fr [n,g,e,b] S S1:=by rw[<-HW];exact Fr.set (by simp)
   rw[HW] at q1 a1;obtain⟨S2,q2,c2⟩:=xm (fo:=aa 0) (fe:=dC (.int 1)) (r:=[some (.ob n),some (E5 p)]) (i:=3) rfl a1.ob rfl rfl rfl;have a2:Fi G S2 n g e b h.pop:=⟨c2.at_,c2.old a1.gv a.ng,c2.old a1.ea a.ne,c2.old a1.be a.nb,a.gb⟩;have f2:Fr [n,g,e,b] S1 S2:=c2.fp (by simp);obtain⟨S3,b3,q3,c3⟩:=AJ a2 p (by show h.begun.length<_;omega) (by show h.given.length<_;omega) (by
    have:=rB (ps:=h.begun++[p]) fun q hq=>(List.mem_append.mp hq).elim (hb.bp q) fun z=>by rw[List.mem_singleton.mp z];exact Ys
    rw[List.length_append,List.length_singleton] at this;show(bw (h.begun++[p])).length<=_;omega)
   obtain⟨S4,b4,x4,q4,c4⟩:=ih f S3 b3 _ (some (E5 p)) c3.at_ (by omega) (by omega) Q_;refine⟨S4,b4,x4,?_,?_⟩
   ·unfold cy at q4 ⊢;rw[Dr t1 (r2:=[some (.ob n),some (E5 p)]) (S2:=S3) ?_]
    ·exact q4
    ·rw[ax (bB q1)];show aN _ _ [some (.ob n),some (E5 p)] S1=_;rw[ax q2,bc (aS rfl a2.ob (ag rfl aj) q3)]
   ·have e1:Hr.Fn (k+1) h=Hr.Fn k (h.pop.take p):=by
     rw[Hr.Fn,hp]
    rw[e1];exact(FF.trans ⟨a2,f1.tr f2,.inl rfl,.inl rfl⟩ c3).trans c4
theorem A3(a:Fi G S n g e b h)(hw:0<h.w)(Ra:h.w<=1000):∃S',gU G [.ob n] S=.ok (l_ h.note) S'/\FF G n g e b S e b S' h:=by
 show ∃S',fin S (iW G [some (.ob n),none] S)=_/\_;unfold iW;have q1:=jx (f:=sK (aA G.g_ d_ 0 (aa 0))) (tg:=gN 0) (ti:=gD) (fe:=Pu (ao (f_ qY (f_ bJ (aA G.g_ d_ 3 (aa 1)) (aa 0)) (aA G.g_ d_ 4 (aa 1)))) (dC (.int 1)) (dC (.int 0))) (own:=1) (caps:=[0])
  (r:=[some (.ob n),none]) (S:=S) (S1:=S) (w:=⟨iO 0 1 h.w,none⟩) (fun _=>true) (fun x=>match x with
   |.int k=>.int (if (h.early.lookup (h.nx+k.toNat)).isSome then 1 else 0)
   |_=>.B_) (by
   show((aA G.g_ d_ 0 (aa 0) [some (.ob n),none]).bind xp) S=_;rw[aw,zL a];exact xj (by omega)) trivial (by simp[iO];omega) (by
   intro x hx;simp only[iO,List.mem_map,List.mem_range] at hx;obtain⟨k,_,rfl⟩:=hx;refine⟨_,rfl,fun _=>rfl,fun _ zs=>?_⟩;have ap:=a.push [.lst zs];have g1:aA G.g_ d_ 3 (aa 1) [some (.int (0+(k:Int) * 1)),some (.ob n)] (S++[.lst zs])=.ok (.int (h.nx:Int)) (S++[.lst zs]):=bK rfl ap.ob rfl;have g2:aA G.g_ d_ 4 (aa 1) [some (.int (0+(k:Int) * 1)),some (.ob n)] (S++[.lst zs])=.ok (.ob e) (S++[.lst zs]):=bK rfl ap.ob rfl;have g3:ao (f_ qY (f_ bJ (aA G.g_ d_ 3 (aa 1)) (aa 0)) (aA G.g_ d_ 4 (aa 1))) [some (.int (0+(k:Int) * 1)),some (.ob n)] (S++[.lst zs])=.ok (h.early.lookup (h.nx+k)).isSome (S++[.lst zs]):=by
    refine az (ar (ar g1 rfl (cw _ _)) g2 ?_);have:(h.nx:Int)+(0+(k:Int) * 1)=((h.nx+k:Nat):Int):=by omega
    rw[this];simp only[qY,gK,dZ ap.ea,qd,Option.isSome_map]
   show Pu _ _ _ [some (.int (0+(k:Int) * 1)),some (.ob n)] (S++[.lst zs])=_;rw[zV,aw,g3];have hk:(0+(k:Int) * 1).toNat=k:=by omega
   dsimp only;rw[hk];cases(h.early.lookup (h.nx+k)).isSome<;>rfl)
 have MV:((iO 0 1 h.w).filter fun _=>true).map (fun x=>match x with
   |.int k=>.int (if (h.early.lookup (h.nx+k.toNat)).isSome then 1 else 0)
   |_=>.B_)=h.bits.map D.int:=by
  rw[List.filter_eq_self.mpr (by simp)];unfold iO Hr.bits;rw[List.map_map,List.map_map];refine List.map_congr_left fun k _=>?_
  have hk:(0+(k:Int) * 1).toNat=k:=by omega
  simp only[Function.comp_def,hk]
 rw[MV] at q1;have ap:=a.push [.lst (h.bits.map D.int)];rw[ax (bB (ay (ag q1 aj) (dR (bh rfl))))];show ∃S',fin S (bP _ [some (.ob n),some (.tup (h.bits.map D.int))] (S++[.lst (h.bits.map D.int)]))=_/\_;rw[aP (bQ (ag rfl (ag (sG ap _) (ag (ay (ag (sF ap _) (ag (zL ap _) aj)) (vI hw _)) (ag rfl aj)))) (by simp))];exact⟨_,rfl,(FF.refl a).push _⟩
end
end Lw
namespace Lw
open PySem L2 DL
section
variable{G:Cs}{S S' S1 S2:List Cell}{n g e b e' b' e1 b1 e2 b2:Nat}{h h' h1 h2:Hr}{N:Nat}
theorem V8(d:D)(xs:List D)(S:List Cell):t_ (.tup (d :: xs)) (.int 0) S=.ok d S:=aL (i:=0) rfl
def Pb:x_->Prop
 |.data _ _ p=>p.2.length<=40
 |_=>True
theorem Bd.s_{c:x_}(d:Bd N h)(hc:Pb c):Bd (N+1) (h.s_ c).1:=by
 cases c with
 |Ey o=>
  dsimp only[Hr.s_];split
  ·exact d.mono (Nat.le_succ _)
  ·split
   ·exact(d.begin_ o).mono (Nat.le_succ _)
   ·exact d.mono (Nat.le_succ _)
 |data o m p=>
  dsimp only[Hr.s_];split
  ·exact d.mono (Nat.le_succ _)
  ·split
   ·exact d.mono (Nat.le_succ _)
   ·exact Bd.Fn (d.keep m hc)
 |v_ o=>exact d.mono (Nat.le_succ _)
 |Hb o=>exact d.mono (Nat.le_succ _)
 |note o j bs=>exact d.mono (Nat.le_succ _)
theorem B4(h:Hr)(p:Pc):(h.take p).w=h.w:=by unfold Hr.take;split<;>rfl
theorem sL:∀(k:Nat) (h:Hr),(Hr.Fn k h).w=h.w
 |0,_=>rfl
 |k+1,h=>by
  unfold Hr.Fn;cases e:h.early.lookup h.nx with
  |none=>rfl
  |some p=>exact(sL k _).trans (B4 _ _)
theorem CI(h:Hr)(m:Nat)(p:Pc):(h.keep m p).w=h.w:=by unfold Hr.keep;split<;>rfl
theorem uw(h:Hr)(m:Nat)(p:Pc):(h.data m p).w=h.w:=(sL _ _).trans (CI _ _ _)
theorem Bo(h:Hr)(c:x_):(h.s_ c).1.w=h.w:=by
 cases c with
 |Ey o=>
  dsimp only[Hr.s_];split
  ·rfl
  ·split<;>rfl
 |data o m p=>
  dsimp only[Hr.s_];split
  ·rfl
  ·split
   ·rfl
   ·exact uw h m p
 |_=>rfl
theorem AT(a:Fi G S n g e b h)(hw:0<h.w)(Ra:h.w<=1000)(d:Bd N h)(hN:N<20000)(o m:Nat)(p:Pc)(hp:p.2.length<=40) :
  ∃S' e' b' l,cJ G [.ob n,.int (o:Int),.int (m:Int),E5 p] S=.ok (.ob l) S'/\FF G n g e b S e' b' S' (h.s_ (.data o m p)).1/\Out S l S' (h.s_ (.data o m p)).2:=by
 show ∃S' e' b' l,fin S (eG G [some (.ob n),some (.int (o:Int)),some (.int (m:Int)),some (E5 p)] S)=_/\_;unfold eG;have t1:ao (f_ Hl (aa 1) (aA G.g_ d_ 2 (aa 0))) [some (.ob n),some (.int (o:Int)),some (.int (m:Int)),some (E5 p)] S=.ok (decide (o<h.op)) S:=by
  refine az (ar rfl (sG a _) ?_);rw[rO];congr 2;rw[decide_eq_decide];omega
 have t2:ao (f_ ML (aa 1) (aA G.g_ d_ 2 (aa 0))) [some (.ob n),some (.int (o:Int)),some (.int (m:Int)),some (E5 p)] S=.ok (decide (h.op<o)) S:=by
  refine az (ar rfl (sG a _) ?_);rw[A4];congr 2;rw[decide_eq_decide];omega
 by_cases c1:o<h.op
 ·have e1:h.s_ (.data o m p)=(h,[]):=by simp[Hr.s_,c1]
  rw[decide_eq_true c1] at t1;rw[di (by rw[aQ t1];exact aP (cb aj (by decide))),e1];exact⟨_,e,b,_,rfl,(FF.refl a).push _,⟨bh rfl,Nat.le_refl _⟩⟩
 ·rw[decide_eq_false c1] at t1;rw[ax (by rw[av t1];rfl)];by_cases c2:h.op<o
  ·have e1:h.s_ (.data o m p)=(h,[.Hb o]):=by simp[Hr.s_,c1,c2]
   rw[decide_eq_true c2] at t2;rw[di (by rw[aQ t2];exact aP (cb (ag (bQ (ag rfl (ag rfl aj)) (by simp)) aj) (by simp))),e1];exact⟨_,e,b,_,rfl,(FF.refl a).push _,⟨bh rfl,Nat.le_refl _⟩⟩
  ·have e1:h.s_ (.data o m p)=(h.data m p,[(h.data m p).note]):=by simp[Hr.s_,c1,c2]
   rw[decide_eq_false c2] at t2;have hc:=d.cnt;have dk:=d.keep m hp;obtain⟨S1,q1,k1⟩:=A6 a hw m p (by omega);obtain⟨S2,b2,x2,q2,k2⟩:=vP (G:=G) (n:=n) (g:=g) (e:=e) (N:=N+1) (by omega) (h.keep m p).early.length 1000000 S1 b (h.keep m p) none k1.at_ (Nat.le_refl _) (by have:=dk.cnt;omega) dk;have SS:eC G [.ob n] S1=.ok .B_ S2:=by
    show fin S1 (cy G 1000000 [some (.ob n),none] S1)=_;rw[q2];rfl
   have Nm:FF G n g e b S1 e b2 S2 (h.data m p):=k2;obtain⟨S3,q3,k3⟩:=A3 Nm.at_ (by rw[uw];exact hw) (by rw[uw];exact Ra);have V9:=(k1.trans Nm).trans k3;rw[ax (by rw[av t2];rfl),ax (bc (aS rfl a.ob (ag rfl (ag rfl aj)) q1)),ax (bc (aS rfl k1.at_.ob aj SS)),aP (cb (ag (aS rfl Nm.at_.ob aj q3) aj) (by simp)),e1];exact⟨_,e,b2,_,rfl,V9.push _,⟨bh rfl,V9.fr.1⟩⟩
theorem vq(a:Fi G S n g e b h)(hw:0<h.w)(Ra:h.w<=1000)(d:Bd N h)(hN:N<20000){c:x_}(hc:Pb c) :
  ∃S' e' b' l,cX G [.ob n,l_ c] S=.ok (.ob l) S'/\FF G n g e b S e' b' S' (h.s_ c).1/\Out S l S' (h.s_ c).2:=by
 show ∃S' e' b' l,fin S (ie G [some (.ob n),some (l_ c)] S)=_/\_;unfold ie;have SU:∀{k:Str}{xs:List D},l_ c=.tup (.str k :: xs)->(∀S:List Cell,EE (.str k) (.str "hello") S=.ok (.bl false) S)->(∀S:List Cell,EE (.str k) (.str "data") S=.ok (.bl false) S)->h.s_ c=(h,[])->
   ∃S' e' b' l,fin S (aN (Fd (ao (f_ EE (f_ t_ (aa 1) (dC (.int 0))) (dC (.str "hello")))) (bP (aV G.g_ d_ (cA G) (aa 0) (ac (f_ t_ (aa 1) (dC (.int 1))) ai))) bE)
 (aN (Fd (ao (f_ EE (f_ t_ (aa 1) (dC (.int 0))) (dC (.str "data")))) (bP (aV G.g_ d_ (cJ G) (aa 0) (ac (f_ t_ (aa 1) (dC (.int 1))) (ac (f_ t_ (aa 1) (dC (.int 2))) (ac (f_ t_ (aa 1) (dC (.int 3))) ai))))) bE)
 (bP (bZ ai))) [some (.ob n),some (l_ c)] S)=.ok (.ob l) S'/\FF G n g e b S e' b' S' (h.s_ c).1/\Out S l S' (h.s_ c).2:=by
  intro k xs Lk h1 h2 he;rw[Lk,ax (by rw[av (az (ar (ar rfl rfl (V8 _ _ _)) rfl (h1 _)))];rfl),ax (by rw[av (az (ar (ar rfl rfl (V8 _ _ _)) rfl (h2 _)))];rfl),aP (cb aj (by decide)),he];exact⟨_,e,b,_,rfl,(FF.refl a).push _,⟨bh rfl,Nat.le_refl _⟩⟩
 cases c with
 |Ey o=>
  obtain⟨S',e',b',l,q,k1,k2⟩:=zP a o;rw[di (by rw[aQ (az (ar (ar rfl rfl rfl) rfl bi))];exact aP (aS rfl a.ob (ag (ar rfl rfl rfl) aj) q))];exact⟨S',e',b',l,rfl,k1,k2⟩
 |data o m p=>
  obtain⟨S',e',b',l,q,k1,k2⟩:=AT a hw Ra d hN o m p hc;rw[ax (by rw[av (az (ar (ar rfl rfl rfl) rfl bi))];rfl),
   di (by rw[aQ (az (ar (ar rfl rfl rfl) rfl bi))];exact aP (aS rfl a.ob (ag (ar rfl rfl rfl) (ag (ar rfl rfl rfl) (ag (ar rfl rfl rfl) aj))) q))]
  exact⟨S',e',b',l,rfl,k1,k2⟩
 |v_ o=>exact SU (k:="welcome") rfl (fun _=>bi) (fun _=>bi) rfl
 |Hb o=>exact SU (k:="who") rfl (fun _=>bi) (fun _=>bi) rfl
 |note o m bs=>exact SU (k:="note") rfl (fun _=>bi) (fun _=>bi) rfl
theorem xt(w:Nat)(S:List Cell):∃S' g e b,gx G.g_ (bA G) [.int (w:Int)] S=.ok (.ob S.length) S'/\Fi G S' S.length g e b (Hr.new w)/\Fr [] S S'/\S.length<=g/\S.length<=e/\S.length<=b:=by
 obtain⟨n,hn⟩:∃n,n=S.length:=⟨_,rfl⟩;have s0:(S++[Cell.ins G.g_ [] []])[n]?=some (.ins G.g_ [] []):=bh hn;have q1:=kG (f:="window") (fo:=aa 0) (fe:=aa 1) (r:=[some (.ob n),some (.int (w:Int))]) rfl rfl s0;have s1:=d6 (d:=Cell.ins G.g_ ["window"] [.int (w:Int)]) s0;have q2:=kG (f:="given") (fo:=aa 0) (fe:=bZ ai) (r:=[some (.ob n),some (.int (w:Int))]) (cb aj (by decide)) rfl (aG (G:=[.lst []]) s1);obtain⟨T1,Nn⟩:∃T1,(S++[Cell.ins G.g_ [] []]).set n (.ins G.g_ ["window"] [.int (w:Int)])=T1:=⟨_,rfl⟩;have l1:T1.length=S.length+1:=by rw[<-Nn];simp
 have f1:Fr [n] S T1:=by rw[<-Nn];exact Fr.push.tr (Fr.set (by simp))
 have Yt:cV G.g_ [] "window" (aa 0) (aa 1) [some (.ob n),some (.int (w:Int))] (S++[.ins G.g_ [] []])=some (.nx [some (.ob n),some (.int (w:Int))],T1):=by rw[q1,<-Nn];rfl
 rw[Nn] at s1 q2;have s2:=d6 (d:=Cell.ins G.g_ ["window","given"] [.int (w:Int),.ob T1.length]) (aG (G:=[.lst []]) s1);obtain⟨T2,Jw⟩:∃T2,(T1++[Cell.lst []]).set n (.ins G.g_ ["window","given"] [.int (w:Int),.ob T1.length])=T2:=⟨_,rfl⟩;have l2:T2.length=S.length+2:=by rw[<-Jw];simp;omega
 have f2:Fr [n] T1 T2:=by rw[<-Jw];exact Fr.push.tr (Fr.set (by simp))
 have g2:T2[T1.length]?=some (.lst []):=by rw[<-Jw];exact cR (bh rfl) (by omega)
 have SS:cV G.g_ ["window"] "given" (aa 0) (bZ ai) [some (.ob n),some (.int (w:Int))] T1=some (.nx [some (.ob n),some (.int (w:Int))],T2):=by rw[q2,<-Jw];rfl
 rw[Jw] at s2;have q3:=kG (f:="opening") (fo:=aa 0) (fe:=dC (.int 0)) (r:=[some (.ob n),some (.int (w:Int))]) rfl rfl s2;have s3:=d6 (d:=Cell.ins G.g_ ["window","given","opening"] [.int (w:Int),.ob T1.length,.int 0]) s2;obtain⟨T3,LD⟩:∃T3,T2.set n (.ins G.g_ ["window","given","opening"] [.int (w:Int),.ob T1.length,.int 0])=T3:=⟨_,rfl⟩;have l3:T3.length=S.length+2:=by rw[<-LD];simp;omega
 have f3:Fr [n] T2 T3:=by rw[<-LD];exact Fr.set (by simp)
 have SO:cV G.g_ ["window","given"] "opening" (aa 0) (dC (.int 0)) [some (.ob n),some (.int (w:Int))] T2=some (.nx [some (.ob n),some (.int (w:Int))],T3):=by rw[q3,<-LD];rfl
 rw[LD] at s3;have q4:=kG (f:="next_index") (fo:=aa 0) (fe:=dC (.int 0)) (r:=[some (.ob n),some (.int (w:Int))]) rfl rfl s3;have s4:=d6 (d:=Cell.ins G.g_ ["window","given","opening","next_index"] [.int (w:Int),.ob T1.length,.int 0,.int 0]) s3;obtain⟨T4,PJ⟩:∃T4,T3.set n (.ins G.g_ ["window","given","opening","next_index"] [.int (w:Int),.ob T1.length,.int 0,.int 0])=T4:=⟨_,rfl⟩;have l4:T4.length=S.length+2:=by rw[<-PJ];simp;omega
 have f4:Fr [n] T3 T4:=by rw[<-PJ];exact Fr.set (by simp)
 have Yu:cV G.g_ ["window","given","opening"] "next_index" (aa 0) (dC (.int 0)) [some (.ob n),some (.int (w:Int))] T3=some (.nx [some (.ob n),some (.int (w:Int))],T4):=by rw[q4,<-PJ];rfl
 rw[PJ] at s4;have q5:=kG (f:="early") (fo:=aa 0) (fe:=k8) (r:=[some (.ob n),some (.int (w:Int))]) rfl rfl (aG (G:=[.FN []]) s4);have s5:=d6 (d:=Cell.ins G.g_ ["window","given","opening","next_index","early"] [.int (w:Int),.ob T1.length,.int 0,.int 0,.ob T4.length]) (aG (G:=[.FN []]) s4);obtain⟨T5,Qx⟩:∃T5,(T4++[Cell.FN []]).set n (.ins G.g_ ["window","given","opening","next_index","early"] [.int (w:Int),.ob T1.length,.int 0,.int 0,.ob T4.length])=T5:=⟨_,rfl⟩;have l5:T5.length=S.length+3:=by rw[<-Qx];simp;omega
 have f5:Fr [n] T4 T5:=by rw[<-Qx];exact Fr.push.tr (Fr.set (by simp))
 have g5:T5[T4.length]?=some (.FN []):=by rw[<-Qx];exact cR (bh rfl) (by omega)
 have Yv:cV G.g_ ["window","given","opening","next_index"] "early" (aa 0) k8 [some (.ob n),some (.int (w:Int))] T4=some (.nx [some (.ob n),some (.int (w:Int))],T5):=by rw[q5,<-Qx];rfl
 rw[Qx] at s5;have q6:=kG (f:="begun") (fo:=aa 0) (fe:=bZ ai) (r:=[some (.ob n),some (.int (w:Int))]) (cb aj (by decide)) rfl (aG (G:=[.lst []]) s5);have s6:=d6 (d:=Cell.ins G.g_ d_ [.int (w:Int),.ob T1.length,.int 0,.int 0,.ob T4.length,.ob T5.length]) (aG (G:=[.lst []]) s5);have Yw:cV G.g_ ["window","given","opening","next_index","early"] "begun" (aa 0) (bZ ai) [some (.ob n),some (.int (w:Int))] T5=some (.nx [some (.ob n),some (.int (w:Int))],(T5++[Cell.lst []]).set n (.ins G.g_ d_ [.int (w:Int),.ob T1.length,.int 0,.int 0,.ob T4.length,.ob T5.length])):=by rw[q6];rfl
 have f6:Fr [n] T5 ((T5++[Cell.lst []]).set n (.ins G.g_ d_ [.int (w:Int),.ob T1.length,.int 0,.int 0,.ob T4.length,.ob T5.length])):=Fr.push.tr (Fr.set (by simp));have Qy:∀m,m≠n->m∉[n]:=fun m hm=>by simpa using hm
 refine⟨(T5++[Cell.lst []]).set n (.ins G.g_ d_ [.int (w:Int),.ob T1.length,.int 0,.int 0,.ob T4.length,.ob T5.length]),T1.length,T4.length,T5.length,?_,?_,?_,by omega,by omega,by omega⟩
 ·unfold gx;rw[<-hn];have:bA G [.ob n,.int (w:Int)] (S++[.ins G.g_ [] []])=.ok .B_ ((T5++[Cell.lst []]).set n (.ins G.g_ d_ [.int (w:Int),.ob T1.length,.int 0,.int 0,.ob T4.length,.ob T5.length])):=by
   show fin _ (dY G [some (.ob n),some (.int (w:Int))] _)=_;unfold dY;rw[ax Yt,ax SS,ax SO,ax Yu,ax Yv,Yw];rfl
  rw[this]
 ·rw[<-hn];refine⟨s6,?_,?_,cR (bh rfl) (by omega),by omega⟩
  ·exact f6.get (f5.get (f4.get (f3.get g2 (Qy _ (by omega))) (Qy _ (by omega))) (Qy _ (by omega))) (Qy _ (by omega))
  ·exact f6.get g5 (Qy _ (by omega))
 ·exact(((((f1.tr f2).tr f3).tr f4).tr f5).tr f6).mono fun i hi hs=>by
   have:i=n:=by simpa using hi
   omega
end
end Lw
namespace Lw
open PySem L2 DL
theorem p0{S:List Cell}{n:Nat}(is:List Int):pD S (n+2) (.tup (is.map D.int))=some (.tuple (is.map PyData.int)):=qb S n is
theorem mj(n:Nat)(c:x_):FY n (l_ c):=by
 cases c<;>simp[l_,E5,FY,jJ,dB]
end Lw
namespace Lw
open PySem L2 DL
theorem Dt(S:List Cell)(n:Nat)(q:Nat×GS):∃p,pD S (n+4) (PK q)=some p:=by
 have:=p0 (S:=S) (n:=n+1) q.2;exact⟨_,by simp only[PK,zz,Ii,this];simp only[pD];rfl⟩
end Lw
namespace Lw
open PySem L2 DL
def Rb(ss:List Int):Int:=(ss.zipIdx.map fun p=>((1+p.2:Nat):Int) * p.1).sum
def FR(cs:List Int):List Int:=(cs++[cs.sum % 256])++[Rb (cs++[cs.sum % 256]) % 256]
def aB:x_->List Int
 |.Ey o=>[0,(o:Int) / 256,(o:Int) % 256]
 |.v_ o=>[1,(o:Int) / 256,(o:Int) % 256]
 |.Hb o=>[2,(o:Int) / 256,(o:Int) % 256]
 |.data o n p=>[3,(o:Int) / 256,(o:Int) % 256,(n:Int),p.1]++p.2
 |.note o n bs=>[4,(o:Int) / 256,(o:Int) % 256,(n:Int)]++bs
def IF:x_->Prop
 |.Ey o=>o<=65535
 |.v_ o=>o<=65535
 |.Hb o=>o<=65535
 |.data o n p=>o<=65535/\n<=13/\(0<=p.1/\p.1<=1)/\p.2.length<=8/\∀x,x∈p.2->0<=x/\x<=255
 |.note o n bs=>o<=65535/\n<=13/\bs.length<=7/\∀x,x∈bs->0<=x/\x<=1
section
variable{S:List Cell}
theorem gS{xs ys:List D}(hz:(xs++ys).length<=1000000):bJ (.tup xs) (.tup ys) S=.ok (.tup (xs++ys)) S:=uO hz
theorem Bv(is:List Int):oo [.tup (is.map D.int)] S=.ok (.int is.sum) S:=by
 simp only[oo,iq,jA]
theorem BR{l:Nat}{is:List Int}(h:S[l]?=some (.lst (is.map D.int))):oo [.ob l] S=.ok (.int is.sum) S:=by
 simp only[oo,iq,cc h,jA]
theorem oU(cs:List Int)(hl:cs.length<=1000)(S:List Cell):cN [.tup (cs.map D.int)] S=.ok (.tup ((FR cs).map D.int)) S:=by
 show cY S (jp [some (.tup (cs.map D.int)),none,none] S)=_;unfold jp;obtain⟨ss,SV⟩:∃ss,cs++[cs.sum % 256]=ss:=⟨_,rfl⟩;have Oz:ss.length=cs.length+1:=by rw[<-SV];simp
 have e1:f_ bJ (aa 0) (cf (ac (f_ jo (am oo (ac (aa 0) ai)) (dC (.int 256))) ai)) [some (.tup (cs.map D.int)),none,none] S=.ok (.tup (ss.map D.int)) S:=by
  refine ar rfl (bQ (ag (ar (ay (ag rfl aj) (Bv cs)) rfl (cS (by decide))) aj) (by simp)) ?_;rw[gS (by simp;omega),<-SV,List.map_append];rfl
 rw[ax (bB e1)];show cY S (aN _ _ [some (.tup (cs.map D.int)),some (.tup (ss.map D.int)),none] S)=_;have q1:=jx (f:=tU 1 (aa 1)) (tg:=gT [0,1]) (ti:=gD) (fe:=f_ iP (aa 0) (aa 1)) (own:=2) (caps:=[])
  (r:=[some (.tup (cs.map D.int)),some (.tup (ss.map D.int)),none]) (S:=S) (S1:=S) (w:=⟨jv 1 (ss.map D.int),none⟩) (fun _=>true) (fun x=>match x with
   |.tup [.int i,.int j]=>.int (i * j)
   |_=>.B_) rfl trivial (by simp[jv];omega) (by
   intro x hx;unfold jv at hx;obtain⟨y,hy,rfl⟩:=List.mem_map.mp hx;rw[List.zipIdx_map] at hy;obtain⟨z,hz,rfl⟩:=List.mem_map.mp hy;have Iw:z.2<ss.length:=by
    have:=List.mem_zipIdx hz;omega
   refine⟨_,rfl,fun _=>rfl,fun _ zs=>?_⟩;show f_ iP (aa 0) (aa 1) [some (.int ((1+z.2:Nat):Int)),some (.int z.1)] (S++[.lst zs])=_;exact ar rfl rfl (iR (.inl ⟨by omega,by omega⟩)))
 have hw:((jv 1 (ss.map D.int)).filter fun _=>true).map (fun x=>match x with
   |.tup [.int i,.int j]=>D.int (i * j)
   |_=>.B_)=(ss.zipIdx.map fun p=>((1+p.2:Nat):Int) * p.1).map D.int:=by
  rw[List.filter_eq_self.mpr (by simp)];unfold jv;rw[List.zipIdx_map,List.map_map,List.map_map,List.map_map];rfl
 rw[hw] at q1;rw[ax (bB (ay (ag q1 aj) (BR (bh rfl))))];show cY S (bP _ [some (.tup (cs.map D.int)),some (.tup (ss.map D.int)),some (.int (Rb ss))] (S++[.lst ((ss.zipIdx.map fun p=>((1+p.2:Nat):Int) * p.1).map D.int)]))=_;have e3:f_ bJ (aa 1) (cf (ac (f_ jo (aa 2) (dC (.int 256))) ai)) [some (.tup (cs.map D.int)),some (.tup (ss.map D.int)),some (.int (Rb ss))] (S++[.lst ((ss.zipIdx.map fun p=>((1+p.2:Nat):Int) * p.1).map D.int)])=.ok (.tup ((FR cs).map D.int)) (S++[.lst ((ss.zipIdx.map fun p=>((1+p.2:Nat):Int) * p.1).map D.int)]):=by
  refine ar rfl (bQ (ag (ar rfl rfl (cS (by decide))) aj) (by simp)) ?_;rw[gS (by simp;omega)];unfold FR;rw[SV,List.map_append];rfl
 rw[aP e3];exact lX (by unfold FY;exact dB _ _)
theorem fz(i top:Int)(S:List Cell):aZ [.int i,.int top] S=.ok (.bl (decide (0<=i) && decide (i<=top))) S:=by
 by_cases h:0<=i
 ·simp[aZ,lQ,MJ,O2,vn,h]
 ·simp[aZ,lQ,MJ,O2,vn,h]
theorem tD(is:List Int)(top:Int)(hl:is.length<=1000000)(S:List Cell):cm [.tup (is.map D.int),.int top] S=.ok (.bl (is.all fun i=>decide (0<=i) && decide (i<=top))) S:=by
 show cY S (oO [some (.tup (is.map D.int)),some (.int top)] S)=_;unfold oO;have q1:=jx (f:=Hd (aa 0)) (tg:=gN 0) (ti:=gD) (fe:=am aZ (ac (aa 0) (ac (aa 1) ai))) (own:=1) (caps:=[1])
  (r:=[some (.tup (is.map D.int)),some (.int top)]) (S:=S) (S1:=S) (w:=⟨is.map D.int,none⟩) (fun _=>true) (fun x=>match x with
   |.int i=>.bl (decide (0<=i) && decide (i<=top))
   |_=>.B_) rfl trivial (by simpa using hl) (by
   intro x hx;obtain⟨i,_,rfl⟩:=List.mem_map.mp hx;refine⟨_,rfl,fun _=>rfl,fun _ zs=>?_⟩;show am _ _ [some (.int i),some (.int top)] _=_;exact ay (ag rfl (ag rfl aj)) (fz i top _))
 have hw:((is.map D.int).filter fun _=>true).map (fun x=>match x with
   |.int i=>D.bl (decide (0<=i) && decide (i<=top))
   |_=>.B_)=(is.map fun i=>decide (0<=i) && decide (i<=top)).map D.bl:=by
  rw[List.filter_eq_self.mpr (by simp),List.map_map,List.map_map];rfl
 rw[hw] at q1;have t1:ao (Jv "tuple" (aa 0)) [some (.tup (is.map D.int)),some (.int top)] S=.ok true S:=rfl;have t2:jC (Jv "tuple" (aa 0)) (am zK (ac (eE (Hd (aa 0)) (gN 0) gD (am aZ (ac (aa 0) (ac (aa 1) ai))) 1 [1]) ai)) [some (.tup (is.map D.int)),some (.int top)] S=.ok (.bl (is.all fun i=>decide (0<=i) && decide (i<=top))) (S++[.lst ((is.map fun i=>decide (0<=i) && decide (i<=top)).map D.bl)]):=by
  rw[gW,aw,t1];refine ay (ag q1 aj) ?_;simp only[zK,iq,cc aW,sH,List.all_map];rfl
 rw[aP t2];exact lX (by simp[FY])
theorem wF{is:List Int}{top:Int}(hl:is.length<=1000000)(h:∀x,x∈is->0<=x/\x<=top)(S:List Cell):cm [.tup (is.map D.int),.int top] S=.ok (.bl true) S:=by
 rw[tD is top hl];congr 2;rw[List.all_eq_true];intro x hx;simp[h x hx]
theorem ze{p:Pc}(h1:0<=p.1/\p.1<=1)(h2:p.2.length<=8)(h3:∀x,x∈p.2->0<=x/\x<=255)(S:List Cell):jk [E5 p] S=.ok (.bl true) S:=by
 show cY S (ia [some (E5 p)] S)=_;unfold ia;have t1:G9 (dc (bW (Jv "tuple" (aa 0)))) (ao (f_ Gr (am bG (ac (aa 0) ai)) (dC (.int 2)))) [some (E5 p)] S=.ok false S:=by
  have u:ao (f_ Gr (am bG (ac (aa 0) ai)) (dC (.int 2))) [some (E5 p)] S=.ok false S:=az (ar (x:=.int 2) (ay (ag rfl aj) rfl) rfl (gs 2 2));rw[fV,aw,da,aw];exact u
 rw[ax (by rw[av t1];rfl)];have i0:f_ t_ (aa 0) (dC (.int 0)) [some (E5 p)] S=.ok (.int p.1) S:=rfl;have i1:f_ t_ (aa 0) (dC (.int 1)) [some (E5 p)] S=.ok (.tup (p.2.map D.int)) S:=rfl;have e1:ao (am aZ (ac (f_ t_ (aa 0) (dC (.int 0))) (ac (dC (.int 1)) ai))) [some (E5 p)] S=.ok true S:=by
  refine az (ay (ag i0 (ag rfl aj)) ?_);rw[fz];simp[h1]
 have e2:ao (am cm (ac (f_ t_ (aa 0) (dC (.int 1))) (ac (dC Fb) ai))) [some (E5 p)] S=.ok true S:=az (ay (ag i1 (ag rfl aj)) (wF (by omega) h3 S));have e3:f_ LZ (am bG (ac (f_ t_ (aa 0) (dC (.int 1))) ai)) (dC Fg) [some (E5 p)] S=.ok (.bl true) S:=by
  refine ar (ay (ag i1 aj) (cx _)) rfl ?_;rw[xL,List.length_map,decide_eq_true (by omega)]
 rw[aP (d:=.bl true) (S1:=S)]
 ·exact bF (by simp[FY])
 ·rw[gW,aw,e1];show jC _ _ _ S=_;rw[gW,aw,e2];exact e3
theorem A9{bs:List Int}(h2:bs.length<=7)(h3:∀x,x∈bs->0<=x/\x<=1)(S:List Cell):jm [.tup (bs.map D.int)] S=.ok (.bl true) S:=by
 show cY S (hV [some (.tup (bs.map D.int))] S)=_;unfold hV;have e2:ao (am cm (ac (aa 0) (ac (dC (.int 1)) ai))) [some (.tup (bs.map D.int))] S=.ok true S:=az (ay (ag rfl (ag rfl aj)) (wF (by omega) h3 S));have e3:f_ LZ (am bG (ac (aa 0) ai)) (dC GH) [some (.tup (bs.map D.int))] S=.ok (.bl true) S:=by
  refine ar (ay (ag rfl aj) (cx _)) rfl ?_;rw[xL,List.length_map,decide_eq_true (by omega)]
 rw[aP (d:=.bl true) (S1:=S)]
 ·exact bF (by simp[FY])
 ·rw[gW,aw,e2];exact e3
end
end Lw
namespace Lw
open PySem L2 DL
def x_.Fx:x_->Nat
 |.Ey o=>o
 |.v_ o=>o
 |.Hb o=>o
 |.data o _ _=>o
 |.note o _ _=>o
def x_.kn:x_->Str
 |.Ey _=>"hello"
 |.v_ _=>"welcome"
 |.Hb _=>"who"
 |.data _ _ _=>"data"
 |.note _ _ _=>"note"
def x_.ki:x_->Nat
 |.Ey _=>0
 |.v_ _=>1
 |.Hb _=>2
 |.data _ _ _=>3
 |.note _ _ _=>4
section
variable{S:List Cell}{G:Cs}
theorem wk(c:x_)(S:List Cell):t_ (l_ c) (.int 0) S=.ok (.str c.kn) S:=by cases c<;>rfl
theorem wD(c:x_)(S:List Cell):t_ (l_ c) (.int 1) S=.ok (.int (c.Fx:Int)) S:=by cases c<;>rfl
theorem IF.op{c:x_}(h:IF c):c.Fx<=65535:=by
 cases c with
 |Ey o=>exact h
 |v_ o=>exact h
 |Hb o=>exact h
 |data o n p=>exact h.1
 |note o n bs=>exact h.1
theorem nC(c:x_)(S:List Cell):EE (.str c.kn) (.str "data") S=.ok (.bl (decide (c.ki=3))) S:=by
 cases c with
 |Ey o=>exact(show EE (.str "hello") (.str "data") S=.ok (.bl false) S from bi)
 |v_ o=>exact(show EE (.str "welcome") (.str "data") S=.ok (.bl false) S from bi)
 |Hb o=>exact(show EE (.str "who") (.str "data") S=.ok (.bl false) S from bi)
 |data o n p=>exact(show EE (.str "data") (.str "data") S=.ok (.bl true) S from bi)
 |note o n bs=>exact(show EE (.str "note") (.str "data") S=.ok (.bl false) S from bi)
theorem nU(c:x_)(S:List Cell):EE (.str c.kn) (.str "note") S=.ok (.bl (decide (c.ki=4))) S:=by
 cases c with
 |Ey o=>exact(show EE (.str "hello") (.str "note") S=.ok (.bl false) S from bi)
 |v_ o=>exact(show EE (.str "welcome") (.str "note") S=.ok (.bl false) S from bi)
 |Hb o=>exact(show EE (.str "who") (.str "note") S=.ok (.bl false) S from bi)
 |data o n p=>exact(show EE (.str "data") (.str "note") S=.ok (.bl false) S from bi)
 |note o n bs=>exact(show EE (.str "note") (.str "note") S=.ok (.bl true) S from bi)
theorem qt(c:x_)(S:List Cell):inD (.str c.kn) fA S=.ok (.bl (decide (c.ki<3))) S:=by
 have h1:LS (.str "hello") [.str "hello",.str "welcome",.str "who"]=true:=by decide +kernel
 have h2:LS (.str "welcome") [.str "hello",.str "welcome",.str "who"]=true:=by decide +kernel
 have h3:LS (.str "who") [.str "hello",.str "welcome",.str "who"]=true:=by decide +kernel
 have h4:LS (.str "data") [.str "hello",.str "welcome",.str "who"]=false:=by decide +kernel
 have h5:LS (.str "note") [.str "hello",.str "welcome",.str "who"]=false:=by decide +kernel
 cases c with
 |Ey o=>show R.ok (D.bl (LS (.str "hello") [.str "hello",.str "welcome",.str "who"])) S=_;rw[h1];rfl
 |v_ o=>show R.ok (D.bl (LS (.str "welcome") [.str "hello",.str "welcome",.str "who"])) S=_;rw[h2];rfl
 |Hb o=>show R.ok (D.bl (LS (.str "who") [.str "hello",.str "welcome",.str "who"])) S=_;rw[h3];rfl
 |data o n p=>show R.ok (D.bl (LS (.str "data") [.str "hello",.str "welcome",.str "who"])) S=_;rw[h4];rfl
 |note o n bs=>show R.ok (D.bl (LS (.str "note") [.str "hello",.str "welcome",.str "who"])) S=_;rw[h5];rfl
theorem Am(c:x_)(S:List Cell):xO (G0.map D.str) (.str c.kn) S=.ok (.int (c.ki:Int)) S:=by
 have h1:rC (.str "hello") [.str "hello",.str "welcome",.str "who",.str "data",.str "note"]=some 0:=by decide +kernel
 have h2:rC (.str "welcome") [.str "hello",.str "welcome",.str "who",.str "data",.str "note"]=some 1:=by decide +kernel
 have h3:rC (.str "who") [.str "hello",.str "welcome",.str "who",.str "data",.str "note"]=some 2:=by decide +kernel
 have h4:rC (.str "data") [.str "hello",.str "welcome",.str "who",.str "data",.str "note"]=some 3:=by decide +kernel
 have h5:rC (.str "note") [.str "hello",.str "welcome",.str "who",.str "data",.str "note"]=some 4:=by decide +kernel
 have e:NI (G0.map D.str)=some [.str "hello",.str "welcome",.str "who",.str "data",.str "note"]:=rfl;unfold xO;cases c<;>simp only[x_.kn,x_.ki,fv,e,h1,h2,h3,h4,h5]<;>rfl
theorem w3{c:x_}(h:IF c)(S:List Cell):dl [l_ c] S=.ok (.bl true) S:=by
 show cY S (fM [some (l_ c)] S)=_;unfold fM;have MW:=h.op;have ht:O2 S (l_ c)=some "tuple":=by cases c<;>rfl
 have i1:f_ t_ (aa 0) (dC (.int 1)) [some (l_ c)] S=.ok (.int (c.Fx:Int)) S:=ar rfl rfl (wD c S);have i0:f_ t_ (aa 0) (dC (.int 0)) [some (l_ c)] S=.ok (.str c.kn) S:=ar rfl rfl (wk c S);have len:am bG (ac (aa 0) ai) [some (l_ c)] S=.ok (.int (if c.ki<3 then 2 else 4)) S:=by
  refine ay (ag rfl aj) ?_;cases c<;>rfl
 have tt:bW (Jv "tuple" (aa 0)) [some (l_ c)] S=.ok true S:=by
  show((MJ "tuple" (l_ c)).bind qX) S=_;rw[aw];simp only[MJ,ht];rfl
 have t1:G9 (dc (bW (Jv "tuple" (aa 0)))) (G9 (ao (f_ Hl (am bG (ac (aa 0) ai)) (dC (.int 2)))) (dc (bW (am aZ (ac (f_ t_ (aa 0) (dC (.int 1))) (ac (dC E6) ai)))))) [some (l_ c)] S=.ok false S:=by
  have u1:ao (f_ Hl (am bG (ac (aa 0) ai)) (dC (.int 2))) [some (l_ c)] S=.ok false S:=by
   refine az (ar len rfl ?_);rw[rO,decide_eq_false (by split<;>omega)]
  have u2:bW (am aZ (ac (f_ t_ (aa 0) (dC (.int 1))) (ac (dC E6) ai))) [some (l_ c)] S=.ok true S:=by
   rw[cU,aw,ay (ag i1 (ag rfl aj)) (fz (c.Fx:Int) 65535 S),decide_eq_true (show(0:Int)<=(c.Fx:Int) by omega),decide_eq_true (show(c.Fx:Int)<=65535 by omega)];rfl
  rw[fV,aw,da,aw,tt];show G9 _ _ _ S=_;rw[fV,aw,u1];show dc _ _ S=_;rw[da,aw,u2];rfl
 have t2:ao (f_ inD (f_ t_ (aa 0) (dC (.int 0))) (dC fA)) [some (l_ c)] S=.ok (decide (c.ki<3)) S:=az (ar i0 rfl (qt c S));rw[ax (by rw[av t1];rfl)];by_cases hk:c.ki<3
 ·rw[decide_eq_true hk] at t2;rw[di (by rw[aQ t2];exact aP (d:=.bl true) (ar len rfl (by rw[if_pos hk,jf];rfl)))];exact bF (by simp[FY])
 ·rw[decide_eq_false hk] at t2;rw[ax (by rw[av t2];rfl)];have t5:ao (f_ Gr (am bG (ac (aa 0) ai)) (dC (.int 4))) [some (l_ c)] S=.ok false S:=az (ar len rfl (by rw[if_neg hk,gs];rfl));have t6:ao (f_ EE (f_ t_ (aa 0) (dC (.int 0))) (dC (.str "data"))) [some (l_ c)] S=.ok (decide (c.ki=3)) S:=az (ar i0 rfl (nC c S));have t7:ao (f_ EE (f_ t_ (aa 0) (dC (.int 0))) (dC (.str "note"))) [some (l_ c)] S=.ok (decide (c.ki=4)) S:=az (ar i0 rfl (nU c S));cases c with
  |Ey o=>exact absurd (show 0<3 by decide) hk
  |v_ o=>exact absurd (show 1<3 by decide) hk
  |Hb o=>exact absurd (show 2<3 by decide) hk
  |data o n p=>
   obtain⟨h1,h2,h3,h4,h5⟩:=h;have i2:f_ t_ (aa 0) (dC (.int 2)) [some (l_ (.data o n p))] S=.ok (.int (n:Int)) S:=rfl;have i3:f_ t_ (aa 0) (dC (.int 3)) [some (l_ (.data o n p))] S=.ok (E5 p) S:=rfl;have u2:bW (am aZ (ac (f_ t_ (aa 0) (dC (.int 2))) (ac (dC EM) ai))) [some (l_ (.data o n p))] S=.ok true S:=by
    rw[cU,aw,ay (ag i2 (ag rfl aj)) (fz (n:Int) 13 S),decide_eq_true (show(0:Int)<=(n:Int) by omega),decide_eq_true (show(n:Int)<=13 by omega)];rfl
   have t8:G9 (ao (f_ Gr (am bG (ac (aa 0) ai)) (dC (.int 4)))) (dc (bW (am aZ (ac (f_ t_ (aa 0) (dC (.int 2))) (ac (dC EM) ai))))) [some (l_ (.data o n p))] S=.ok false S:=by
    rw[fV,aw,t5];show dc _ _ S=_;rw[da,aw,u2];rfl
   rw[ax (by rw[av t8];rfl),di (by rw[aQ t6];exact aP (ay (ag i3 aj) (ze h3 h4 h5 S)))];exact bF (by simp[FY])
  |note o n bs=>
   obtain⟨h1,h2,h4,h5⟩:=h;have i2:f_ t_ (aa 0) (dC (.int 2)) [some (l_ (.note o n bs))] S=.ok (.int (n:Int)) S:=rfl;have i3:f_ t_ (aa 0) (dC (.int 3)) [some (l_ (.note o n bs))] S=.ok (.tup (bs.map D.int)) S:=rfl;have u2:bW (am aZ (ac (f_ t_ (aa 0) (dC (.int 2))) (ac (dC EM) ai))) [some (l_ (.note o n bs))] S=.ok true S:=by
    rw[cU,aw,ay (ag i2 (ag rfl aj)) (fz (n:Int) 13 S),decide_eq_true (show(0:Int)<=(n:Int) by omega),decide_eq_true (show(n:Int)<=13 by omega)];rfl
   have t8:G9 (ao (f_ Gr (am bG (ac (aa 0) ai)) (dC (.int 4)))) (dc (bW (am aZ (ac (f_ t_ (aa 0) (dC (.int 2))) (ac (dC EM) ai))))) [some (l_ (.note o n bs))] S=.ok false S:=by
    rw[fV,aw,t5];show dc _ _ S=_;rw[da,aw,u2];rfl
   rw[ax (by rw[av t8];rfl),ax (by rw[av t6];rfl),aP (d:=.bl true) (S1:=S)]
   ·exact bF (by simp[FY])
   ·rw[gW,aw,t7];exact ay (ag i3 aj) (A9 h4 h5 S)
theorem fO{c:x_}(h:IF c):3<=(aB c).length/\(aB c).length<=13:=by
 cases c with
 |Ey o=>exact⟨by simp[aB],by simp[aB]⟩
 |v_ o=>exact⟨by simp[aB],by simp[aB]⟩
 |Hb o=>exact⟨by simp[aB],by simp[aB]⟩
 |data o n p=>obtain⟨h1,h2,h3,h4,h5⟩:=h;exact⟨by simp[aB],by simp[aB];omega⟩
 |note o n bs=>obtain⟨h1,h2,h4,h5⟩:=h;exact⟨by simp[aB],by simp[aB];omega⟩
end
end Lw
namespace Lw
open PySem L2 DL
section
variable{S:List Cell}{G:Cs}
theorem yR{c:x_}(h:IF c)(S:List Cell):kE [l_ c] S=.ok (.tup ((aB c).map D.int)) S:=by
 show cY S (lF [some (l_ c),none] S)=_;unfold lF;have i1:f_ t_ (aa 0) (dC (.int 1)) [some (l_ c),none] S=.ok (.int (c.Fx:Int)) S:=ar rfl rfl (wD c S);have i0:∀r,f_ t_ (aa 0) (dC (.int 0)) (some (l_ c) :: r) S=.ok (.str c.kn) S:=fun r=>ar rfl rfl (wk c S)
 have kx:n8 eQ (ac (f_ t_ (aa 0) (dC (.int 0))) ai) [some (l_ c),none] S=.ok (.int (c.ki:Int)) S:=by
  unfold n8;rw[aw,ag (i0 _) aj];exact Am c S
 rw[ax (bB (bQ (ag kx (ag (ar i1 rfl (wA ⟨by decide,by decide⟩)) (ag (ar i1 rfl (cS (by decide))) aj))) (by simp)))];show cY S (aN _ _ [some (l_ c),some (.tup [.int (c.ki:Int),.int ((c.Fx:Int) / 256),.int ((c.Fx:Int) % 256)])] S)=_;have t6:ao (f_ EE (f_ t_ (aa 0) (dC (.int 0))) (dC (.str "data"))) [some (l_ c),some (.tup [.int (c.ki:Int),.int ((c.Fx:Int) / 256),.int ((c.Fx:Int) % 256)])] S=.ok (decide (c.ki=3)) S:=az (ar (i0 _) rfl (nC c S));have t7:ao (f_ EE (f_ t_ (aa 0) (dC (.int 0))) (dC (.str "note"))) [some (l_ c),some (.tup [.int (c.ki:Int),.int ((c.Fx:Int) / 256),.int ((c.Fx:Int) % 256)])] S=.ok (decide (c.ki=4)) S:=az (ar (i0 _) rfl (nU c S));cases c with
 |Ey o=>
  rw[ax (by rw[av t6];rfl),ax (by rw[av t7];rfl),aP rfl];exact bF (by simp[FY,jJ])
 |v_ o=>
  rw[ax (by rw[av t6];rfl),ax (by rw[av t7];rfl),aP rfl];exact bF (by simp[FY,jJ])
 |Hb o=>
  rw[ax (by rw[av t6];rfl),ax (by rw[av t7];rfl),aP rfl];exact bF (by simp[FY,jJ])
 |data o n p=>
  obtain⟨h1,h2,h3,h4,h5⟩:=h;have e1:f_ bJ (f_ bJ (aa 1) (cf (ac (f_ t_ (aa 0) (dC (.int 2))) (ac (f_ t_ (f_ t_ (aa 0) (dC (.int 3))) (dC (.int 0))) ai)))) (f_ t_ (f_ t_ (aa 0) (dC (.int 3))) (dC (.int 1))) [some (l_ (.data o n p)),some (.tup [.int ((3:Nat):Int),.int ((o:Int) / 256),.int ((o:Int) % 256)])] S=.ok (.tup ((aB (.data o n p)).map D.int)) S:=by
   refine ar (ar rfl (bQ (ag (x:=.int (n:Int)) rfl (ag (x:=.int p.1) rfl aj)) (by simp)) (gS (by simp))) (y:=.tup (p.2.map D.int)) rfl ?_;rw[gS (by simp;omega)];rfl
  rw[di (by rw[aQ t6];exact aP e1)];exact bF (by unfold FY;exact dB _ _)
 |note o n bs=>
  obtain⟨h1,h2,h4,h5⟩:=h;have e1:f_ bJ (f_ bJ (aa 1) (cf (ac (f_ t_ (aa 0) (dC (.int 2))) ai))) (f_ t_ (aa 0) (dC (.int 3))) [some (l_ (.note o n bs)),some (.tup [.int ((4:Nat):Int),.int ((o:Int) / 256),.int ((o:Int) % 256)])] S=.ok (.tup ((aB (.note o n bs)).map D.int)) S:=by
   refine ar (ar rfl (bQ (ag (x:=.int (n:Int)) rfl aj) (by simp)) (gS (by simp))) (y:=.tup (bs.map D.int)) rfl ?_;rw[gS (by simp;omega)];rfl
  rw[ax (by rw[av t6];rfl),di (by rw[aQ t7];exact aP e1)];exact bF (by unfold FY;exact dB _ _)
theorem qG{c:x_}(h:IF c)(S:List Cell):cP G [l_ c] S=.ok (.tup ((FR (aB c)).map D.int)) S:=by
 show cY S (nu G [some (l_ c)] S)=_;unfold nu;have t1:dc (bW (am dl (ac (aa 0) ai))) [some (l_ c)] S=.ok false S:=by
  rw[da,aw,cU,aw,ay (ag rfl aj) (w3 h S)];rfl
 have hl:=fO h;rw[ax (by rw[av t1];rfl),aP (ay (ag (ay (ag rfl aj) (yR h S)) aj) (oU _ (by omega) S))];exact bF (by unfold FY;exact dB _ _)
end
end Lw
namespace Lw
open PySem L2 DL
section
variable{S:List Cell}{G:Cs}
theorem sY{xs:List D}(h:2<=xs.length):gr xs none (some (-2))=xs.take (xs.length-2):=by
 unfold gr;have e:HT.FG xs.length xs.length (some (-2))=xs.length-2:=by
  unfold HT.FG;simp only[];split<;>omega
 rw[HT.Ia,e];simp
theorem Ee(c:x_)(S:List Cell):t_ (.tup ((aB c).map D.int)) (.int 0) S=.ok (.int (c.ki:Int)) S:=aL (i:=0) (by cases c<;>rfl)
theorem DN(c:x_)(S:List Cell):t_ (.tup ((aB c).map D.int)) (.int 1) S=.ok (.int ((c.Fx:Int) / 256)) S:=aL (i:=1) (by cases c<;>rfl)
theorem D8(c:x_)(S:List Cell):t_ (.tup ((aB c).map D.int)) (.int 2) S=.ok (.int ((c.Fx:Int) % 256)) S:=aL (i:=2) (by cases c<;>rfl)
theorem Bb{c:x_}(h:IF c)(S:List Cell):hW [.tup ((aB c).map D.int)] S=.ok (l_ c) S:=by
 show cY S (gA [some (.tup ((aB c).map D.int)),none,none,none] S)=_;unfold gA;have MW:=h.op;have e1:f_ t_ (dC eQ) (f_ t_ (aa 0) (dC (.int 0))) [some (.tup ((aB c).map D.int)),none,none,none] S=.ok (.str c.kn) S:=ar rfl (ar rfl rfl (Ee c S)) (aL (i:=c.ki) (by cases c<;>rfl));have e2:f_ bJ (f_ iP (f_ t_ (aa 0) (dC (.int 1))) (dC (.int 256))) (f_ t_ (aa 0) (dC (.int 2))) [some (.tup ((aB c).map D.int)),some (.str c.kn),none,none] S=.ok (.int (c.Fx:Int)) S:=by
  have i1:f_ t_ (aa 0) (dC (.int 1)) [some (.tup ((aB c).map D.int)),some (.str c.kn),none,none] S=.ok (.int ((c.Fx:Int) / 256)) S:=ar rfl rfl (DN c S);have i2:f_ t_ (aa 0) (dC (.int 2)) [some (.tup ((aB c).map D.int)),some (.str c.kn),none,none] S=.ok (.int ((c.Fx:Int) % 256)) S:=ar rfl rfl (D8 c S);refine ar (ar i1 rfl (iR (.inr ⟨by decide,by decide⟩))) i2 ?_;rw[cw];congr 2;omega
 rw[ax (bB e1)];show cY S (aN _ _ [some (.tup ((aB c).map D.int)),some (.str c.kn),none,none] S)=_;rw[ax (bB e2)];show cY S (aN _ _ [some (.tup ((aB c).map D.int)),some (.str c.kn),some (.int (c.Fx:Int)),none] S)=_;have hl:=fO h;have e3:GF FZ (aa 0) (bI (dC EN)) bz [some (.tup ((aB c).map D.int)),some (.str c.kn),some (.int (c.Fx:Int)),none] S=.ok (.tup (((aB c).drop 3).map D.int)) S:=by
  simp only[mM,kO,List.getElem?_cons_succ,List.getElem?_cons_zero,aw,eS,j0,gz,gZ,uo,FZ];rw[show(3:Int)=((3:Nat):Int) from rfl,eO (by rw[List.length_map];omega),<-List.map_drop]
 rw[ax (bB e3)];show cY S (aN _ _ [some (.tup ((aB c).map D.int)),some (.str c.kn),some (.int (c.Fx:Int)),some (.tup (((aB c).drop 3).map D.int))] S)=_;have t6:ao (f_ EE (aa 1) (dC (.str "data"))) [some (.tup ((aB c).map D.int)),some (.str c.kn),some (.int (c.Fx:Int)),some (.tup (((aB c).drop 3).map D.int))] S=.ok (decide (c.ki=3)) S:=az (ar rfl rfl (nC c S));have t7:ao (f_ EE (aa 1) (dC (.str "note"))) [some (.tup ((aB c).map D.int)),some (.str c.kn),some (.int (c.Fx:Int)),some (.tup (((aB c).drop 3).map D.int))] S=.ok (decide (c.ki=4)) S:=az (ar rfl rfl (nU c S));have sh:∀{r:o_},ao (f_ EE (aa 1) (dC (.str "data"))) r S=.ok false S->ao (f_ EE (aa 1) (dC (.str "note"))) r S=.ok false S->
   aN (Fd (dg (ao (f_ EE (aa 1) (dC (.str "data")))) (ao (f_ IQ (am bG (ac (aa 3) ai)) (dC (.int 2))))) (bP (cf (ac (aa 1) (ac (aa 2) (ac (f_ t_ (aa 3) (dC (.int 0))) (ac (cf (ac (f_ t_ (aa 3) (dC (.int 1))) (ac (GF FZ (aa 3) (bI (dC (.int 2))) bz) ai))) ai)))))) bE)
    (aN (Fd (dg (ao (f_ EE (aa 1) (dC (.str "note")))) (ao (f_ IQ (am bG (ac (aa 3) ai)) (dC (.int 1))))) (bP (cf (ac (aa 1) (ac (aa 2) (ac (f_ t_ (aa 3) (dC (.int 0))) (ac (GF FZ (aa 3) (bI (dC (.int 1))) bz) ai)))))) bE)
    (bP (f_ bJ (cf (ac (aa 1) (ac (aa 2) ai))) (aa 3)))) r S=bP (f_ bJ (cf (ac (aa 1) (ac (aa 2) ai))) (aa 3)) r S:=by
  intro r a b;rw[ax (by rw[av (by rw[cK,aw,a];rfl)];rfl),ax (by rw[av (by rw[cK,aw,b];rfl)];rfl)]
 cases c with
 |Ey o=>
  rw[sh t6 t7,aP (ar (bQ (ag rfl (ag rfl aj)) (by simp)) rfl (gS (by simp[aB])))];exact bF (mj _ (.Ey o))
 |v_ o=>
  rw[sh t6 t7,aP (ar (bQ (ag rfl (ag rfl aj)) (by simp)) rfl (gS (by simp[aB])))];exact bF (mj _ (.v_ o))
 |Hb o=>
  rw[sh t6 t7,aP (ar (bQ (ag rfl (ag rfl aj)) (by simp)) rfl (gS (by simp[aB])))];exact bF (mj _ (.Hb o))
 |data o n p=>
  obtain⟨h1,h2,h3,h4,h5⟩:=h;have SW:(aB (.data o n p)).drop 3=(n:Int) :: p.1 :: p.2:=rfl;rw[SW] at t6 ⊢;have g1:ao (f_ IQ (am bG (ac (aa 3) ai)) (dC (.int 2))) [some (.tup ((aB (.data o n p)).map D.int)),some (.str (x_.data o n p).kn),some (.int ((x_.data o n p).Fx:Int)),some (.tup (((n:Int) :: p.1 :: p.2).map D.int))] S=.ok true S:=by
   refine az (ar (ay (ag rfl aj) (cx _)) rfl ?_);rw[vG,decide_eq_true (by simp;omega)]
  have g2:GF FZ (aa 3) (bI (dC (.int 2))) bz [some (.tup ((aB (.data o n p)).map D.int)),some (.str (x_.data o n p).kn),some (.int ((x_.data o n p).Fx:Int)),some (.tup (((n:Int) :: p.1 :: p.2).map D.int))] S=.ok (.tup (p.2.map D.int)) S:=by
   simp only[mM,kO,List.getElem?_cons_succ,List.getElem?_cons_zero,aw,eS,j0,gz,gZ,uo,FZ];rw[show(2:Int)=((2:Nat):Int) from rfl,eO (by simp)];rfl
  rw[di (by rw[aQ (by rw[cK,aw,t6];exact g1)];exact aP (bQ (ag rfl (ag rfl (ag (x:=.int (n:Int)) (ar rfl rfl (aL (i:=0) rfl)) (ag (bQ (ag (x:=.int p.1) (ar rfl rfl (aL (i:=1) rfl)) (ag g2 aj)) (by simp)) aj)))) (by simp)))];exact bF (mj _ (.data o n p))
 |note o n bs=>
  obtain⟨h1,h2,h4,h5⟩:=h;have SW:(aB (.note o n bs)).drop 3=(n:Int) :: bs:=rfl;rw[SW] at t6 t7 ⊢;have g1:ao (f_ IQ (am bG (ac (aa 3) ai)) (dC (.int 1))) [some (.tup ((aB (.note o n bs)).map D.int)),some (.str (x_.note o n bs).kn),some (.int ((x_.note o n bs).Fx:Int)),some (.tup (((n:Int) :: bs).map D.int))] S=.ok true S:=by
   refine az (ar (ay (ag rfl aj) (cx _)) rfl ?_);rw[vG,decide_eq_true (by simp;omega)]
  have g2:GF FZ (aa 3) (bI (dC (.int 1))) bz [some (.tup ((aB (.note o n bs)).map D.int)),some (.str (x_.note o n bs).kn),some (.int ((x_.note o n bs).Fx:Int)),some (.tup (((n:Int) :: bs).map D.int))] S=.ok (.tup (bs.map D.int)) S:=by
   simp only[mM,kO,List.getElem?_cons_succ,List.getElem?_cons_zero,aw,eS,j0,gz,gZ,uo,FZ];rw[show(1:Int)=((1:Nat):Int) from rfl,eO (by simp)];rfl
  rw[ax (by rw[av (by rw[cK,aw,t6];rfl)];rfl),di (by rw[aQ (by rw[cK,aw,t7];exact g1)];exact aP (bQ (ag rfl (ag rfl (ag (x:=.int (n:Int)) (ar rfl rfl (aL (i:=0) rfl)) (ag g2 aj)))) (by simp)))];exact bF (mj _ (.note o n bs))
theorem tm{c:x_}(h:IF c):∀x,x∈aB c->0<=x/\x<=255:=by
 have MW:=h.op;intro x hx;cases c with
 |Ey o=>have:o<=65535:=MW;simp[aB] at hx;omega
 |v_ o=>have:o<=65535:=MW;simp[aB] at hx;omega
 |Hb o=>have:o<=65535:=MW;simp[aB] at hx;omega
 |data o n p=>
  obtain⟨h1,h2,h3,h4,h5⟩:=h;simp[aB] at hx;rcases hx with hx|hx|hx|hx|hx|hx
  ·omega
  ·omega
  ·omega
  ·omega
  ·omega
  ·exact h5 x hx
 |note o n bs=>
  obtain⟨h1,h2,h4,h5⟩:=h;simp[aB] at hx;rcases hx with hx|hx|hx|hx|hx
  ·omega
  ·omega
  ·omega
  ·omega
  ·have:=h5 x hx;omega
theorem zy{cs:List Int}(h:∀x,x∈cs->0<=x/\x<=255):∀x,x∈FR cs->0<=x/\x<=255:=by
 intro x hx;unfold FR at hx;rcases List.mem_append.mp hx with hx|hx
 ·rcases List.mem_append.mp hx with hx|hx
  ·exact h x hx
  ·rw[List.mem_singleton.mp hx];omega
 ·rw[List.mem_singleton.mp hx];omega
theorem md(cs:List Int):(FR cs).length=cs.length+2:=by simp[FR]
theorem og(cs:List Int):(FR cs).take cs.length=cs:=by
 unfold FR;rw[List.append_assoc];exact List.take_left
theorem wW{c:x_}(h:IF c)(S:List Cell):gJ G [.tup ((FR (aB c)).map D.int)] S=.ok (l_ c) S:=by
 show cY S (nK G [some (.tup ((FR (aB c)).map D.int)),none,none] S)=_;unfold nK;have hl:=fO h;have L_:=md (aB c);have u1:bW (am cm (ac (aa 0) (ac (dC Fb) ai))) [some (.tup ((FR (aB c)).map D.int)),none,none] S=.ok true S:=by
  rw[cU,aw,ay (ag rfl (ag rfl aj)) (wF (by omega) (zy (tm h)) S)];rfl
 have u2:ao (f_ Hl (am bG (ac (aa 0) ai)) (f_ bJ (dC EN) (dC EF))) [some (.tup ((FR (aB c)).map D.int)),none,none] S=.ok false S:=by
  refine az (ar (ay (ag rfl aj) (cx _)) (ar rfl rfl (cw _ _)) ?_);rw[rO,List.length_map,decide_eq_false (by omega)]
 have u3:ao (f_ IQ (f_ t_ (aa 0) (dC (.int 0))) (am bG (ac (dC eQ) ai))) [some (.tup ((FR (aB c)).map D.int)),none,none] S=.ok false S:=by
  have i0:f_ t_ (aa 0) (dC (.int 0)) [some (.tup ((FR (aB c)).map D.int)),none,none] S=.ok (.int (c.ki:Int)) S:=ar rfl rfl (aL (i:=0) (by cases c<;>rfl));have hk:c.ki<=4:=by cases c<;>simp[x_.ki]
  refine az (ar i0 (ay (ag rfl aj) (cx _)) ?_);rw[vG,decide_eq_false];show ¬((5:Int)<=(c.ki:Int));omega
 have t1:G9 (dc (bW (am cm (ac (aa 0) (ac (dC Fb) ai))))) (G9 (ao (f_ Hl (am bG (ac (aa 0) ai)) (f_ bJ (dC EN) (dC EF)))) (ao (f_ IQ (f_ t_ (aa 0) (dC (.int 0))) (am bG (ac (dC eQ) ai))))) [some (.tup ((FR (aB c)).map D.int)),none,none] S=.ok false S:=by
  rw[fV,aw,da,aw,u1];show G9 _ _ _ S=_;rw[fV,aw,u2];exact u3
 rw[ax (by rw[av t1];rfl)];have e1:GF FZ (aa 0) bz (bI (PD AY (dC EF))) [some (.tup ((FR (aB c)).map D.int)),none,none] S=.ok (.tup ((aB c).map D.int)) S:=by
  have Pa:gr ((FR (aB c)).map D.int) none (some (-2))=(aB c).map D.int:=by
   rw[sY (by rw[List.length_map];omega),List.length_map,L_,<-List.map_take,show(aB c).length+2-2=(aB c).length by omega,og]
  show R.ok (D.tup (gr ((FR (aB c)).map D.int) none (some (-2)))) S=_;rw[Pa]
 rw[ax (bB e1)];show cY S (aN _ _ [some (.tup ((FR (aB c)).map D.int)),some (.tup ((aB c).map D.int)),none] S)=_;have t2:ao (f_ Gr (aa 0) (am cN (ac (aa 1) ai))) [some (.tup ((FR (aB c)).map D.int)),some (.tup ((aB c).map D.int)),none] S=.ok false S:=
  az (ar rfl (ay (ag rfl aj) (oU _ (by omega) S)) (tI (p0 (n:=28) (FR (aB c))) (p0 (n:=28) (FR (aB c)))))
 rw[ax (by rw[av t2];rfl),ax (bB (ay (ag rfl aj) (Bb h S)))];show cY S (aN _ _ [some (.tup ((FR (aB c)).map D.int)),some (.tup ((aB c).map D.int)),some (l_ c)] S)=_;have t3:dc (bW (am dl (ac (aa 2) ai))) [some (.tup ((FR (aB c)).map D.int)),some (.tup ((aB c).map D.int)),some (l_ c)] S=.ok false S:=by
  rw[da,aw,cU,aw,ay (ag rfl aj) (w3 h S)];rfl
 rw[ax (by rw[av t3];rfl),aP rfl];exact bF (mj _ c)
end
end Lw
namespace Lw
open PySem L2 DL
section
variable{S:List Cell}{G:Cs}
theorem zM(p:Pc)(hl:p.2.length<=1000)(S:List Cell):jk [E5 p] S=.ok (.bl (decide (0<=p.1/\p.1<=1) && (p.2.all fun i=>decide (0<=i) && decide (i<=255)) && decide (p.2.length<=8))) S:=by
 show cY S (ia [some (E5 p)] S)=_;unfold ia;have t1:G9 (dc (bW (Jv "tuple" (aa 0)))) (ao (f_ Gr (am bG (ac (aa 0) ai)) (dC (.int 2)))) [some (E5 p)] S=.ok false S:=by
  have u:ao (f_ Gr (am bG (ac (aa 0) ai)) (dC (.int 2))) [some (E5 p)] S=.ok false S:=az (ar (x:=.int 2) (ay (ag rfl aj) rfl) rfl (gs 2 2));rw[fV,aw,da,aw];exact u
 rw[ax (by rw[av t1];rfl)];have i0:f_ t_ (aa 0) (dC (.int 0)) [some (E5 p)] S=.ok (.int p.1) S:=rfl;have i1:f_ t_ (aa 0) (dC (.int 1)) [some (E5 p)] S=.ok (.tup (p.2.map D.int)) S:=rfl;have e1:ao (am aZ (ac (f_ t_ (aa 0) (dC (.int 0))) (ac (dC (.int 1)) ai))) [some (E5 p)] S=.ok (decide (0<=p.1) && decide (p.1<=1)) S:=az (ay (ag i0 (ag rfl aj)) (fz _ _ S));have e2:ao (am cm (ac (f_ t_ (aa 0) (dC (.int 1))) (ac (dC Fb) ai))) [some (E5 p)] S=.ok (p.2.all fun i=>decide (0<=i) && decide (i<=255)) S:=az (ay (ag i1 (ag rfl aj)) (tD _ _ (by omega) S));have e3:f_ LZ (am bG (ac (f_ t_ (aa 0) (dC (.int 1))) ai)) (dC Fg) [some (E5 p)] S=.ok (.bl (decide (p.2.length<=8))) S:=by
  refine ar (ay (ag i1 aj) (cx _)) rfl ?_;rw[xL,List.length_map];congr 2;rw[decide_eq_decide];omega
 obtain⟨b2,SX⟩:∃b2,(p.2.all fun i=>decide (0<=i) && decide (i<=255))=b2:=⟨_,rfl⟩;rw[SX] at e2 ⊢;have hd:decide (0<=p.1/\p.1<=1)=(decide (0<=p.1) && decide (p.1<=1)):=by simp
 rw[hd];obtain⟨b1,Qw⟩:∃b1,(decide (0<=p.1) && decide (p.1<=1))=b1:=⟨_,rfl⟩;rw[Qw] at e1 ⊢;rw[aP (d:=.bl (b1 && b2 && decide (p.2.length<=8))) (S1:=S)]
 ·exact bF (by simp[FY])
 ·rw[gW,aw,e1];cases b1 with
  |false=>rfl
  |true=>
   show jC _ _ _ S=_;rw[gW,aw,e2];cases b2 with
   |false=>rfl
   |true=>exact e3
theorem Bw(bs:List Int)(hl:bs.length<=1000)(S:List Cell):jm [.tup (bs.map D.int)] S=.ok (.bl ((bs.all fun i=>decide (0<=i) && decide (i<=1)) && decide (bs.length<=7))) S:=by
 show cY S (hV [some (.tup (bs.map D.int))] S)=_;unfold hV;have e2:ao (am cm (ac (aa 0) (ac (dC (.int 1)) ai))) [some (.tup (bs.map D.int))] S=.ok (bs.all fun i=>decide (0<=i) && decide (i<=1)) S:=az (ay (ag rfl (ag rfl aj)) (tD _ _ (by omega) S));have e3:f_ LZ (am bG (ac (aa 0) ai)) (dC GH) [some (.tup (bs.map D.int))] S=.ok (.bl (decide (bs.length<=7))) S:=by
  refine ar (ay (ag rfl aj) (cx _)) rfl ?_;rw[xL,List.length_map];congr 2;rw[decide_eq_decide];omega
 obtain⟨b2,SX⟩:∃b2,(bs.all fun i=>decide (0<=i) && decide (i<=1))=b2:=⟨_,rfl⟩;rw[SX] at e2 ⊢;rw[aP (d:=.bl (b2 && decide (bs.length<=7))) (S1:=S)]
 ·exact bF (by simp[FY])
 ·rw[gW,aw,e2];cases b2 with
  |false=>rfl
  |true=>exact e3
theorem LL{l:List Int}{t:Int}:(l.all fun i=>decide (0<=i) && decide (i<=t))=true↔∀x,x∈l->0<=x/\x<=t:=by
 rw[List.all_eq_true];constructor
 ·intro h x hx;have:=h x hx;simp at this;exact this
 ·intro h x hx;simp[h x hx]
theorem xz{c:x_}(MW:c.Fx<=65535)(hz:∀o n p,c=.data o n p->p.2.length<=1000)(VS:∀o n bs,c=.note o n bs->bs.length<=1000)(h:¬IF c)(S:List Cell):dl [l_ c] S=.ok (.bl false) S:=by
 show cY S (fM [some (l_ c)] S)=_;unfold fM;have ht:O2 S (l_ c)=some "tuple":=by cases c<;>rfl
 have i1:f_ t_ (aa 0) (dC (.int 1)) [some (l_ c)] S=.ok (.int (c.Fx:Int)) S:=ar rfl rfl (wD c S);have i0:f_ t_ (aa 0) (dC (.int 0)) [some (l_ c)] S=.ok (.str c.kn) S:=ar rfl rfl (wk c S);have len:am bG (ac (aa 0) ai) [some (l_ c)] S=.ok (.int (if c.ki<3 then 2 else 4)) S:=by
  refine ay (ag rfl aj) ?_;cases c<;>rfl
 have tt:bW (Jv "tuple" (aa 0)) [some (l_ c)] S=.ok true S:=by
  show((MJ "tuple" (l_ c)).bind qX) S=_;rw[aw];simp only[MJ,ht];rfl
 have t1:G9 (dc (bW (Jv "tuple" (aa 0)))) (G9 (ao (f_ Hl (am bG (ac (aa 0) ai)) (dC (.int 2)))) (dc (bW (am aZ (ac (f_ t_ (aa 0) (dC (.int 1))) (ac (dC E6) ai)))))) [some (l_ c)] S=.ok false S:=by
  have u1:ao (f_ Hl (am bG (ac (aa 0) ai)) (dC (.int 2))) [some (l_ c)] S=.ok false S:=by
   refine az (ar len rfl ?_);rw[rO,decide_eq_false (by split<;>omega)]
  have u2:bW (am aZ (ac (f_ t_ (aa 0) (dC (.int 1))) (ac (dC E6) ai))) [some (l_ c)] S=.ok true S:=by
   rw[cU,aw,ay (ag i1 (ag rfl aj)) (fz (c.Fx:Int) 65535 S),decide_eq_true (show(0:Int)<=(c.Fx:Int) by omega),decide_eq_true (show(c.Fx:Int)<=65535 by omega)];rfl
  rw[fV,aw,da,aw,tt];show G9 _ _ _ S=_;rw[fV,aw,u1];show dc _ _ S=_;rw[da,aw,u2];rfl
 have t2:ao (f_ inD (f_ t_ (aa 0) (dC (.int 0))) (dC fA)) [some (l_ c)] S=.ok (decide (c.ki<3)) S:=az (ar i0 rfl (qt c S));rw[ax (by rw[av t1];rfl)];have t6:ao (f_ EE (f_ t_ (aa 0) (dC (.int 0))) (dC (.str "data"))) [some (l_ c)] S=.ok (decide (c.ki=3)) S:=az (ar i0 rfl (nC c S));have t7:ao (f_ EE (f_ t_ (aa 0) (dC (.int 0))) (dC (.str "note"))) [some (l_ c)] S=.ok (decide (c.ki=4)) S:=az (ar i0 rfl (nU c S));cases c with
 |Ey o=>exact absurd MW h
 |v_ o=>exact absurd MW h
 |Hb o=>exact absurd MW h
 |data o n p=>
  rw[ax (by rw[av t2];rfl)];have t5:ao (f_ Gr (am bG (ac (aa 0) ai)) (dC (.int 4))) [some (l_ (.data o n p))] S=.ok false S:=az (ar len rfl (gs 4 4));have i2:f_ t_ (aa 0) (dC (.int 2)) [some (l_ (.data o n p))] S=.ok (.int (n:Int)) S:=rfl;have i3:f_ t_ (aa 0) (dC (.int 3)) [some (l_ (.data o n p))] S=.ok (E5 p) S:=rfl;have u2:bW (am aZ (ac (f_ t_ (aa 0) (dC (.int 2))) (ac (dC EM) ai))) [some (l_ (.data o n p))] S=.ok (decide (n<=13)) S:=by
   rw[cU,aw,ay (ag i2 (ag rfl aj)) (fz (n:Int) 13 S),decide_eq_true (show(0:Int)<=(n:Int) by omega)];show R.ok (true && decide ((n:Int)<=13)) S=_;rw[Bool.true_and];congr 1;rw[decide_eq_decide];omega
  have t8:G9 (ao (f_ Gr (am bG (ac (aa 0) ai)) (dC (.int 4)))) (dc (bW (am aZ (ac (f_ t_ (aa 0) (dC (.int 2))) (ac (dC EM) ai))))) [some (l_ (.data o n p))] S=.ok (!decide (n<=13)) S:=by
   rw[fV,aw,t5];show dc _ _ S=_;rw[da,aw,u2];rfl
  by_cases hn:n<=13
  ·rw[decide_eq_true hn] at t8;have hp:=zM p (hz o n p rfl) S;have hf:(decide (0<=p.1/\p.1<=1) && (p.2.all fun i=>decide (0<=i) && decide (i<=255)) && decide (p.2.length<=8))=false:=by
    rw[<-Bool.not_eq_true];intro z;simp only[Bool.and_eq_true,decide_eq_true_eq] at z;exact h ⟨MW,hn,z.1.1,z.2,LL.mp z.1.2⟩
   rw[hf] at hp;rw[ax (by rw[av t8];rfl),di (by rw[aQ t6];exact aP (ay (ag i3 aj) hp))];exact bF (by simp[FY])
  ·rw[decide_eq_false hn] at t8;rw[di (by rw[aQ t8];exact aP rfl)];exact bF (by simp[FY])
 |note o n bs=>
  rw[ax (by rw[av t2];rfl)];have t5:ao (f_ Gr (am bG (ac (aa 0) ai)) (dC (.int 4))) [some (l_ (.note o n bs))] S=.ok false S:=az (ar len rfl (gs 4 4));have i2:f_ t_ (aa 0) (dC (.int 2)) [some (l_ (.note o n bs))] S=.ok (.int (n:Int)) S:=rfl;have i3:f_ t_ (aa 0) (dC (.int 3)) [some (l_ (.note o n bs))] S=.ok (.tup (bs.map D.int)) S:=rfl;have u2:bW (am aZ (ac (f_ t_ (aa 0) (dC (.int 2))) (ac (dC EM) ai))) [some (l_ (.note o n bs))] S=.ok (decide (n<=13)) S:=by
   rw[cU,aw,ay (ag i2 (ag rfl aj)) (fz (n:Int) 13 S),decide_eq_true (show(0:Int)<=(n:Int) by omega)];show R.ok (true && decide ((n:Int)<=13)) S=_;rw[Bool.true_and];congr 1;rw[decide_eq_decide];omega
  have t8:G9 (ao (f_ Gr (am bG (ac (aa 0) ai)) (dC (.int 4)))) (dc (bW (am aZ (ac (f_ t_ (aa 0) (dC (.int 2))) (ac (dC EM) ai))))) [some (l_ (.note o n bs))] S=.ok (!decide (n<=13)) S:=by
   rw[fV,aw,t5];show dc _ _ S=_;rw[da,aw,u2];rfl
  by_cases hn:n<=13
  ·rw[decide_eq_true hn] at t8;have hp:=Bw bs (VS o n bs rfl) S;have hf:((bs.all fun i=>decide (0<=i) && decide (i<=1)) && decide (bs.length<=7))=false:=by
    rw[<-Bool.not_eq_true];intro z;simp only[Bool.and_eq_true,decide_eq_true_eq] at z;exact h ⟨MW,hn,z.2,LL.mp z.1⟩
   rw[hf] at hp;rw[ax (by rw[av t8];rfl),ax (by rw[av t6];rfl),aP (d:=.bl false) (S1:=S)]
   ·exact bF (by simp[FY])
   ·rw[gW,aw,t7];exact ay (ag i3 aj) hp
  ·rw[decide_eq_false hn] at t8;rw[di (by rw[aQ t8];exact aP rfl)];exact bF (by simp[FY])
end
end Lw
namespace Lw
open PySem L2 DL
section
variable{S:List Cell}{G:Cs}
def eU:Nat->Nat->x_
 |0,o=>.Ey o
 |1,o=>.v_ o
 |2,o=>.Hb o
 |3,o=>.data o 0 (0,[])
 |_,o=>.note o 0 []
theorem uT{k:Nat}(h:k<=4)(o:Nat):(eU k o).ki=k:=by
 match k,h with
 |0,_=>rfl
 |1,_=>rfl
 |2,_=>rfl
 |3,_=>rfl
 |4,_=>rfl
theorem zh{k:Nat}(h:k<=4)(o:Nat)(S:List Cell):t_ eQ (.int (k:Int)) S=.ok (.str (eU k o).kn) S:=by
 match k,h with
 |0,_=>exact aL (i:=0) rfl
 |1,_=>exact aL (i:=1) rfl
 |2,_=>exact aL (i:=2) rfl
 |3,_=>exact aL (i:=3) rfl
 |4,_=>exact aL (i:=4) rfl
def ib(k o:Nat)(rest:List Int):D:=.tup (.str (eU k o).kn :: .int (o:Int) :: rest.map D.int)
theorem Ao{k o:Nat}(hk:k<=4)(ho:o<=65535){rest:List Int}(h:(k<3/\rest≠[])\/(3<=k/\rest.length≠2))(S:List Cell):dl [ib k o rest] S=.ok (.bl false) S:=by
 show cY S (fM [some (ib k o rest)] S)=_;unfold fM;have Rc:=uT hk o;have i1:f_ t_ (aa 0) (dC (.int 1)) [some (ib k o rest)] S=.ok (.int (o:Int)) S:=ar rfl rfl (aL (i:=1) rfl);have i0:f_ t_ (aa 0) (dC (.int 0)) [some (ib k o rest)] S=.ok (.str (eU k o).kn) S:=ar rfl rfl (aL (i:=0) rfl);have len:am bG (ac (aa 0) ai) [some (ib k o rest)] S=.ok (.int ((rest.length+2:Nat):Int)) S:=by
  refine ay (ag rfl aj) ?_;unfold ib;rw[cx];congr 2;simp;omega
 have tt:bW (Jv "tuple" (aa 0)) [some (ib k o rest)] S=.ok true S:=rfl;have t1:G9 (dc (bW (Jv "tuple" (aa 0)))) (G9 (ao (f_ Hl (am bG (ac (aa 0) ai)) (dC (.int 2)))) (dc (bW (am aZ (ac (f_ t_ (aa 0) (dC (.int 1))) (ac (dC E6) ai)))))) [some (ib k o rest)] S=.ok false S:=by
  have u1:ao (f_ Hl (am bG (ac (aa 0) ai)) (dC (.int 2))) [some (ib k o rest)] S=.ok false S:=by
   refine az (ar len rfl ?_);rw[rO,decide_eq_false (by omega)]
  have u2:bW (am aZ (ac (f_ t_ (aa 0) (dC (.int 1))) (ac (dC E6) ai))) [some (ib k o rest)] S=.ok true S:=by
   rw[cU,aw,ay (ag i1 (ag rfl aj)) (fz (o:Int) 65535 S),decide_eq_true (show(0:Int)<=(o:Int) by omega),decide_eq_true (show(o:Int)<=65535 by omega)];rfl
  rw[fV,aw,da,aw,tt];show G9 _ _ _ S=_;rw[fV,aw,u1];show dc _ _ S=_;rw[da,aw,u2];rfl
 have t2:ao (f_ inD (f_ t_ (aa 0) (dC (.int 0))) (dC fA)) [some (ib k o rest)] S=.ok (decide (k<3)) S:=by
  have:=qt (eU k o) S;rw[Rc] at this;exact az (ar i0 rfl this)
 rw[ax (by rw[av t1];rfl)];by_cases V_:k<3
 ·rw[decide_eq_true V_] at t2;have hr:rest≠[]:=by
   rcases h with h|h
   ·exact h.2
   ·omega
  have hl:0<rest.length:=List.length_pos_iff.mpr hr;rw[di (by rw[aQ t2];exact aP (d:=.bl false) (ar len rfl (by rw[jf,decide_eq_false (by omega)])))];exact bF (by simp[FY])
 ·rw[decide_eq_false V_] at t2;rw[ax (by rw[av t2];rfl)];have hr:rest.length≠2:=by
   rcases h with h|h
   ·omega
   ·exact h.2
  have t5:ao (f_ Gr (am bG (ac (aa 0) ai)) (dC (.int 4))) [some (ib k o rest)] S=.ok true S:=az (ar len rfl (by rw[gs,decide_eq_false (by omega)];rfl));have t8:G9 (ao (f_ Gr (am bG (ac (aa 0) ai)) (dC (.int 4)))) (dc (bW (am aZ (ac (f_ t_ (aa 0) (dC (.int 2))) (ac (dC EM) ai))))) [some (ib k o rest)] S=.ok true S:=by
   rw[fV,aw,t5];rfl
  rw[di (by rw[aQ t8];exact aP rfl)];exact bF (by simp[FY])
def pe(k o:Nat)(rest:List Int):D:=match k,rest with
 |3,n :: f :: l=>.tup [.str "data",.int (o:Int),.int n,.tup [.int f,.tup (l.map D.int)]]
 |4,n :: bs=>.tup [.str "note",.int (o:Int),.int n,.tup (bs.map D.int)]
 |k,rest=>ib k o rest
theorem uv(z k o:Nat)(rest:List Int):FY z (pe k o rest):=by
 unfold pe;split<;>simp[ib,FY,jJ,dB]
theorem yZ{k hi lo:Nat}(hk:k<=4){rest:List Int}(hr:rest.length<=1000)(S:List Cell) :
  hW [.tup (((k:Int) :: (hi:Int) :: (lo:Int) :: rest).map D.int)] S=.ok (pe k (hi * 256+lo) rest) S:=by
 obtain⟨o,ho⟩:∃o,hi * 256+lo=o:=⟨_,rfl⟩;rw[ho];obtain⟨cs,Ll⟩:∃cs,(k:Int) :: (hi:Int) :: (lo:Int) :: rest=cs:=⟨_,rfl⟩;rw[Ll];have g0:∀S,t_ (.tup (cs.map D.int)) (.int 0) S=.ok (.int (k:Int)) S:=fun S=>by rw[<-Ll];exact aL (i:=0) rfl
 have g1:∀S,t_ (.tup (cs.map D.int)) (.int 1) S=.ok (.int (hi:Int)) S:=fun S=>by rw[<-Ll];exact aL (i:=1) rfl
 have g2:∀S,t_ (.tup (cs.map D.int)) (.int 2) S=.ok (.int (lo:Int)) S:=fun S=>by rw[<-Ll];exact aL (i:=2) rfl
 have Qz:cs.drop 3=rest:=by rw[<-Ll];rfl
 have L_:3<=cs.length:=by rw[<-Ll];simp
 show cY S (gA [some (.tup (cs.map D.int)),none,none,none] S)=_;unfold gA;have e1:f_ t_ (dC eQ) (f_ t_ (aa 0) (dC (.int 0))) [some (.tup (cs.map D.int)),none,none,none] S=.ok (.str (eU k o).kn) S:=ar rfl (ar rfl rfl (g0 S)) (zh hk o S);have e2:f_ bJ (f_ iP (f_ t_ (aa 0) (dC (.int 1))) (dC (.int 256))) (f_ t_ (aa 0) (dC (.int 2))) [some (.tup (cs.map D.int)),some (.str (eU k o).kn),none,none] S=.ok (.int (o:Int)) S:=by
  refine ar (ar (ar rfl rfl (g1 S)) rfl (iR (.inr ⟨by decide,by decide⟩))) (ar rfl rfl (g2 S)) ?_;rw[cw];congr 2;omega
 rw[ax (bB e1)];show cY S (aN _ _ [some (.tup (cs.map D.int)),some (.str (eU k o).kn),none,none] S)=_;rw[ax (bB e2)];show cY S (aN _ _ [some (.tup (cs.map D.int)),some (.str (eU k o).kn),some (.int (o:Int)),none] S)=_;have e3:GF FZ (aa 0) (bI (dC EN)) bz [some (.tup (cs.map D.int)),some (.str (eU k o).kn),some (.int (o:Int)),none] S=.ok (.tup (rest.map D.int)) S:=by
  simp only[mM,kO,List.getElem?_cons_succ,List.getElem?_cons_zero,aw,eS,j0,gz,gZ,uo,FZ];rw[show(3:Int)=((3:Nat):Int) from rfl,eO (by rw[List.length_map];omega),<-List.map_drop,Qz]
 rw[ax (bB e3)];show cY S (aN _ _ [some (.tup (cs.map D.int)),some (.str (eU k o).kn),some (.int (o:Int)),some (.tup (rest.map D.int))] S)=_;have Rc:=uT hk o;have t6:ao (f_ EE (aa 1) (dC (.str "data"))) [some (.tup (cs.map D.int)),some (.str (eU k o).kn),some (.int (o:Int)),some (.tup (rest.map D.int))] S=.ok (decide (k=3)) S:=by
  have:=nC (eU k o) S;rw[Rc] at this;exact az (ar rfl rfl this)
 have t7:ao (f_ EE (aa 1) (dC (.str "note"))) [some (.tup (cs.map D.int)),some (.str (eU k o).kn),some (.int (o:Int)),some (.tup (rest.map D.int))] S=.ok (decide (k=4)) S:=by
  have:=nU (eU k o) S;rw[Rc] at this;exact az (ar rfl rfl this)
 have n2:ao (f_ IQ (am bG (ac (aa 3) ai)) (dC (.int 2))) [some (.tup (cs.map D.int)),some (.str (eU k o).kn),some (.int (o:Int)),some (.tup (rest.map D.int))] S=.ok (decide (2<=rest.length)) S:=by
  refine az (ar (ay (ag rfl aj) (cx _)) rfl ?_);rw[vG,List.length_map];congr 2;rw[decide_eq_decide];omega
 have n1:ao (f_ IQ (am bG (ac (aa 3) ai)) (dC (.int 1))) [some (.tup (cs.map D.int)),some (.str (eU k o).kn),some (.int (o:Int)),some (.tup (rest.map D.int))] S=.ok (decide (1<=rest.length)) S:=by
  refine az (ar (ay (ag rfl aj) (cx _)) rfl ?_);rw[vG,List.length_map];congr 2;rw[decide_eq_decide];omega
 have t9:dg (ao (f_ EE (aa 1) (dC (.str "data")))) (ao (f_ IQ (am bG (ac (aa 3) ai)) (dC (.int 2)))) [some (.tup (cs.map D.int)),some (.str (eU k o).kn),some (.int (o:Int)),some (.tup (rest.map D.int))] S=.ok (decide (k=3) && decide (2<=rest.length)) S:=by
  rw[cK,aw,t6];cases decide (k=3) with
  |false=>rfl
  |true=>exact n2
 have Rf:dg (ao (f_ EE (aa 1) (dC (.str "note")))) (ao (f_ IQ (am bG (ac (aa 3) ai)) (dC (.int 1)))) [some (.tup (cs.map D.int)),some (.str (eU k o).kn),some (.int (o:Int)),some (.tup (rest.map D.int))] S=.ok (decide (k=4) && decide (1<=rest.length)) S:=by
  rw[cK,aw,t7];cases decide (k=4) with
  |false=>rfl
  |true=>exact n1
 have last:bP (f_ bJ (cf (ac (aa 1) (ac (aa 2) ai))) (aa 3)) [some (.tup (cs.map D.int)),some (.str (eU k o).kn),some (.int (o:Int)),some (.tup (rest.map D.int))] S=some (.rt (ib k o rest),S):=
  aP (ar (bQ (ag rfl (ag rfl aj)) (by simp)) rfl (gS (by simp;omega)))
 by_cases h3:k=3/\2<=rest.length
 ·obtain⟨rfl,hl⟩:=h3
  match rest,hl with
  |n :: f :: l,_=>
   rw[decide_eq_true (show(3:Nat)=3 from rfl),decide_eq_true (show 2<=(n :: f :: l).length by simp)] at t9;have c2:GF FZ (aa 3) (bI (dC (.int 2))) bz [some (.tup (cs.map D.int)),some (.str (eU 3 o).kn),some (.int (o:Int)),some (.tup ((n :: f :: l).map D.int))] S=.ok (.tup (l.map D.int)) S:=by
    simp only[mM,kO,List.getElem?_cons_succ,List.getElem?_cons_zero,aw,eS,j0,gz,gZ,uo,FZ];rw[show(2:Int)=((2:Nat):Int) from rfl,eO (by simp)];rfl
   rw[di (by rw[aQ t9];exact aP (bQ (ag rfl (ag rfl (ag (x:=.int n) (ar rfl rfl (aL (i:=0) rfl)) (ag (bQ (ag (x:=.int f) (ar rfl rfl (aL (i:=1) rfl)) (ag c2 aj)) (by simp)) aj)))) (by simp)))];exact bF (uv S.length 3 o (n :: f :: l))
 ·have f9:(decide (k=3) && decide (2<=rest.length))=false:=by
   rw[<-Bool.not_eq_true];simpa using h3
  rw[f9] at t9;rw[ax (by rw[av t9];rfl)];by_cases h4:k=4/\1<=rest.length
  ·obtain⟨rfl,hl⟩:=h4
   match rest,hl with
   |n :: bs,_=>
    rw[decide_eq_true (show(4:Nat)=4 from rfl),decide_eq_true (show 1<=(n :: bs).length by simp)] at Rf;have c2:GF FZ (aa 3) (bI (dC (.int 1))) bz [some (.tup (cs.map D.int)),some (.str (eU 4 o).kn),some (.int (o:Int)),some (.tup ((n :: bs).map D.int))] S=.ok (.tup (bs.map D.int)) S:=by
     simp only[mM,kO,List.getElem?_cons_succ,List.getElem?_cons_zero,aw,eS,j0,gz,gZ,uo,FZ];rw[show(1:Int)=((1:Nat):Int) from rfl,eO (by simp)];rfl
    rw[di (by rw[aQ Rf];exact aP (bQ (ag rfl (ag rfl (ag (x:=.int n) (ar rfl rfl (aL (i:=0) rfl)) (ag c2 aj)))) (by simp)))];exact bF (uv S.length 4 o (n :: bs))
  ·have Rg:(decide (k=4) && decide (1<=rest.length))=false:=by
    rw[<-Bool.not_eq_true];simpa using h4
   rw[Rg] at Rf;rw[ax (by rw[av Rf];rfl),last];have:pe k o rest=ib k o rest:=by
    unfold pe;split
    ·exact absurd ⟨rfl,by simp⟩ h3
    ·exact absurd ⟨rfl,by simp⟩ h4
    ·rfl
   rw[this];exact bF (by rw[<-this];exact uv _ _ _ _)
theorem AF{k hi lo:Nat}(hk:k<=4)(SN:hi<=255)(VA:lo<=255){rest:List Int}(hr:rest.length<=1000)(Mf:∀x,x∈rest->0<=x)(LR:∀c,IF c->aB c≠(k:Int) :: (hi:Int) :: (lo:Int) :: rest)(S:List Cell) :
  dl [pe k (hi * 256+lo) rest] S=.ok (.bl false) S:=by
 obtain⟨o,ho⟩:∃o,hi * 256+lo=o:=⟨_,rfl⟩;have MX:o<=65535:=by omega
 have hd:((o:Int) / 256)=hi/\((o:Int) % 256)=lo:=by omega
 rw[ho];unfold pe;split
 ·rename_i n f l;have hn:=Mf n (by simp);have NL:(n.toNat:Int)=n:=Int.toNat_of_nonneg hn;have:=xz (c:=.data o n.toNat (f,l)) MX (fun a b p e=>by cases e;simp at hr ⊢;omega) (fun a b p e=>by cases e) (fun z=>LR _ z (by simp[aB,hd,NL])) S;have e:l_ (.data o n.toNat (f,l))=.tup [.str "data",.int (o:Int),.int n,.tup [.int f,.tup (l.map D.int)]]:=by simp only[l_,E5,NL]
  rw[e] at this;exact this
 ·rename_i n bs;have hn:=Mf n (by simp);have NL:(n.toNat:Int)=n:=Int.toNat_of_nonneg hn;have:=xz (c:=.note o n.toNat bs) MX (fun a b p e=>by cases e) (fun a b p e=>by cases e;simp at hr ⊢;omega) (fun z=>LR _ z (by simp[aB,hd,NL])) S;have e:l_ (.note o n.toNat bs)=.tup [.str "note",.int (o:Int),.int n,.tup (bs.map D.int)]:=by simp only[l_,NL]
  rw[e] at this;exact this
 ·rename_i h3 h4;refine Ao hk MX ?_ S
  match k,hk with
  |0,_=>exact .inl ⟨by decide,fun z=>LR (.Ey o) MX (by simp[aB,hd,z])⟩
  |1,_=>exact .inl ⟨by decide,fun z=>LR (.v_ o) MX (by simp[aB,hd,z])⟩
  |2,_=>exact .inl ⟨by decide,fun z=>LR (.Hb o) MX (by simp[aB,hd,z])⟩
  |3,_=>exact .inr ⟨by decide,fun z=>by
    match rest,z with
    |[n,f],_=>exact h3 n f [] rfl rfl⟩
  |4,_=>exact .inr ⟨by decide,fun z=>by
    match rest,z with
    |[n,f],_=>exact h4 n [f] rfl rfl⟩
theorem xF{xs:List Int}(hl:xs.length<=1000)(h:∀c,IF c->FR (aB c)≠xs)(S:List Cell):gJ G [.tup (xs.map D.int)] S=.exc G.Ff S:=by
 show cY S (nK G [some (.tup (xs.map D.int)),none,none] S)=_;unfold nK;have u1:bW (am cm (ac (aa 0) (ac (dC Fb) ai))) [some (.tup (xs.map D.int)),none,none] S=.ok (xs.all fun i=>decide (0<=i) && decide (i<=255)) S:=by
  rw[cU,aw,ay (ag rfl (ag rfl aj)) (tD xs 255 (by omega) S)];rfl
 have u2:ao (f_ Hl (am bG (ac (aa 0) ai)) (f_ bJ (dC EN) (dC EF))) [some (.tup (xs.map D.int)),none,none] S=.ok (decide (xs.length<5)) S:=by
  refine az (ar (ay (ag rfl aj) (cx _)) (ar rfl rfl (cw _ _)) ?_);rw[rO,List.length_map];congr 2;rw[decide_eq_decide];omega
 have IG:∀{t:EL},G9 (dc (bW (am cm (ac (aa 0) (ac (dC Fb) ai))))) (G9 (ao (f_ Hl (am bG (ac (aa 0) ai)) (f_ bJ (dC EN) (dC EF)))) (ao (f_ IQ (f_ t_ (aa 0) (dC (.int 0))) (am bG (ac (dC eQ) ai))))) [some (.tup (xs.map D.int)),none,none] S=.ok true S->
   cY S (aN (Fd (G9 (dc (bW (am cm (ac (aa 0) (ac (dC Fb) ai))))) (G9 (ao (f_ Hl (am bG (ac (aa 0) ai)) (f_ bJ (dC EN) (dC EF)))) (ao (f_ IQ (f_ t_ (aa 0) (dC (.int 0))) (am bG (ac (dC eQ) ai)))))) (oy G.Ff (dC (.str "these are not the cells of a strip"))) bE) t [some (.tup (xs.map D.int)),none,none] S)=.exc G.Ff S:=by
  intro t a;rw[qL,aQ a];rfl
 cases Pd:(xs.all fun i=>decide (0<=i) && decide (i<=255)) with
 |false=>
  rw[Pd] at u1;refine IG ?_;rw[fV,aw,da,aw,u1];rfl
 |true=>
  rw[Pd] at u1;have Mf:=LL.mp Pd;by_cases h5:xs.length<5
  ·rw[decide_eq_true h5] at u2;refine IG ?_;rw[fV,aw,da,aw,u1];show G9 _ _ _ S=_;rw[fV,aw,u2];rfl
  ·rw[decide_eq_false h5] at u2
   match xs,h5,hl,h,Mf,u1,u2,@IG with
   |k :: hi :: lo :: a :: b :: tl,_,hl,h,Mf,u1,u2,IG=>
    obtain⟨xs,Mg⟩:∃xs,k :: hi :: lo :: a :: b :: tl=xs:=⟨_,rfl⟩;have hk0:=Mf k (by simp);have Yx:=Mf hi (by simp);have Yy:=Mf lo (by simp);have Rh:5<=xs.length:=by rw[<-Mg];simp
    have i0:f_ t_ (aa 0) (dC (.int 0)) [some (.tup (xs.map D.int)),none,none] S=.ok (.int k) S:=by rw[<-Mg];exact ar rfl rfl (aL (i:=0) rfl)
    rw[Mg] at hl h Mf u1 u2 IG ⊢;have u3:ao (f_ IQ (f_ t_ (aa 0) (dC (.int 0))) (am bG (ac (dC eQ) ai))) [some (.tup (xs.map D.int)),none,none] S=.ok (decide (5<=k)) S:=az (ar i0 (ay (ag rfl aj) (cx _)) (vG _ _));have t1:G9 (dc (bW (am cm (ac (aa 0) (ac (dC Fb) ai))))) (G9 (ao (f_ Hl (am bG (ac (aa 0) ai)) (f_ bJ (dC EN) (dC EF)))) (ao (f_ IQ (f_ t_ (aa 0) (dC (.int 0))) (am bG (ac (dC eQ) ai))))) [some (.tup (xs.map D.int)),none,none] S=.ok (decide (5<=k)) S:=by
     rw[fV,aw,da,aw,u1];show G9 _ _ _ S=_;rw[fV,aw,u2];exact u3
    by_cases Wa:5<=k
    ·rw[decide_eq_true Wa] at t1;exact IG t1
    ·rw[decide_eq_false Wa] at t1;rw[ax (by rw[av t1];rfl)];obtain⟨cs,Ll⟩:∃cs,xs.take (xs.length-2)=cs:=⟨_,rfl⟩;have e1:GF FZ (aa 0) bz (bI (PD AY (dC EF))) [some (.tup (xs.map D.int)),none,none] S=.ok (.tup (cs.map D.int)) S:=by
      show R.ok (D.tup (gr (xs.map D.int) none (some (-2)))) S=_;rw[sY (by rw[List.length_map];omega),List.length_map,<-List.map_take,Ll]
     rw[ax (bB e1)];show cY S (aN _ _ [some (.tup (xs.map D.int)),some (.tup (cs.map D.int)),none] S)=_;have QA:cs.length=xs.length-2:=by rw[<-Ll,List.length_take];omega
     have t2:ao (f_ Gr (aa 0) (am cN (ac (aa 1) ai))) [some (.tup (xs.map D.int)),some (.tup (cs.map D.int)),none] S=.ok (!decide (xs=FR cs)) S:=
      az (ar rfl (ay (ag rfl aj) (oU _ (by omega) S)) (zw S xs (FR cs)))
     by_cases SY:xs=FR cs
     ·rw[decide_eq_true SY] at t2;rw[ax (by rw[av t2];rfl)];obtain⟨kN,Yz⟩:∃kN:Nat,k=kN:=⟨k.toNat,by omega⟩;obtain⟨hN,YA⟩:∃hN:Nat,hi=hN:=⟨hi.toNat,by omega⟩;obtain⟨lN,YB⟩:∃lN:Nat,lo=lN:=⟨lo.toNat,by omega⟩;subst Yz YA YB;obtain⟨rest,L1⟩:∃rest,cs=(kN:Int) :: (hN:Int) :: (lN:Int) :: rest:=by
       rw[<-Ll,<-Mg];exact⟨(a :: b :: tl).take (tl.length),by simp⟩
      have Wb:rest.length<=1000:=by rw[L1] at QA;simp at QA;omega
      have S8:∀x,x∈rest->0<=x:=fun x hx=>(Mf x (by
       have:x∈cs:=by rw[L1];simp[hx]
       rw[<-Ll] at this;exact List.mem_of_mem_take this)).1
      have fg:=yZ (k:=kN) (hi:=hN) (lo:=lN) (by omega) Wb S;have fn:=AF (k:=kN) (hi:=hN) (lo:=lN) (by omega) (by omega) (by omega) Wb S8 (fun c hc z=>h c hc (by rw[z,<-L1];exact SY.symm)) S;rw[<-L1] at fg;obtain⟨dd,YC⟩:∃dd,pe kN (hN * 256+lN) rest=dd:=⟨_,rfl⟩;rw[YC] at fg fn;rw[ax (bB (ay (ag rfl aj) fg))];show cY S (aN _ _ [some (.tup (xs.map D.int)),some (.tup (cs.map D.int)),some dd] S)=_;have t3:dc (bW (am dl (ac (aa 2) ai))) [some (.tup (xs.map D.int)),some (.tup (cs.map D.int)),some dd] S=.ok true S:=by
       rw[da,aw,cU,aw,ay (ag rfl aj) fn];rfl
      rw[qL,aQ t3];rfl
     ·rw[decide_eq_false SY] at t2;rw[qL,aQ t2];rfl
end
end Lw
namespace Lw
open PySem L2 DL
theorem xq{xs cs:List Int}(h:xs=FR cs):cs=xs.take (xs.length-2)/\xs[xs.length-2]?=some (cs.sum % 256)/\xs[xs.length-1]?=some (Rb (cs++[cs.sum % 256]) % 256)/\xs.length=cs.length+2:=by
 have hl:=md cs;rw[<-h] at hl;refine⟨?_,?_,?_,hl⟩
 ·rw[show xs.length-2=cs.length by omega,h,og]
 ·rw[show xs.length-2=cs.length by omega,h];unfold FR;rw[List.append_assoc,List.getElem?_append_right (Nat.le_refl _)];simp
 ·rw[show xs.length-1=cs.length+1 by omega,h];unfold FR;rw[List.getElem?_append_right (by simp)];simp
theorem xD:∀{l:List Int}{i:Nat}{a v:Int},l[i]?=some a->(l.set i v).sum=l.sum-a+v
 |[],_,_,_,h=>by simp at h
 |x :: l,0,a,v,h=>by
  simp at h;subst h;simp only[List.set_cons_zero,List.sum_cons];omega
 |x :: l,i+1,a,v,h=>by
  have:=xD (l:=l) (i:=i) (a:=a) (v:=v) (by simpa using h);simp only[List.set_cons_succ,List.sum_cons,this];omega
theorem BS{cs:List Int}{i:Nat}{a v:Int}(ha:(FR cs)[i]?=some a)(hv:¬(v-a) % 256=0):∀Ri,FR Ri≠(FR cs).set i v:=by
 intro Ri h;obtain⟨n,hn⟩:∃n,cs.length=n:=⟨_,rfl⟩;obtain⟨h1,h2,h3,h4⟩:=xq h.symm;obtain⟨g1,g2,g3,g4⟩:=xq (rfl:FR cs=FR cs);rw[List.length_set,g4] at h1 h2 h3 h4;rw[g4] at g1 g2 g3;have hi:=(List.getElem?_eq_some_iff.mp ha).1;rw[g4] at hi;simp only[show cs.length+2-2=cs.length by omega,show cs.length+2-1=cs.length+1 by omega] at *;by_cases c1:i<cs.length
 ·have NP:Ri=cs.set i v:=by
   rw[h1,List.take_set,og]
  have YD:cs[i]?=some a:=by
   rw[<-ha];unfold FR;rw[List.append_assoc,List.getElem?_append_left c1]
  have hs:=xD (v:=v) YD;rw[List.getElem?_set_ne (by omega),g2] at h2
  injection h2 with h2
  rw[NP,hs] at h2;omega
 ·have NP:Ri=cs:=by
   rw[h1,List.take_set_of_le (by omega),og]
  by_cases c2:i=cs.length
  ·subst c2;rw[List.getElem?_set_self (by rw[g4];omega)] at h2;rw[ha] at g2
   injection h2 with h2
   injection g2 with g2
   rw[NP] at h2;omega
  ·have c3:i=cs.length+1:=by omega
   subst c3;rw[List.getElem?_set_self (by rw[g4];omega)] at h3;rw[ha] at g3
   injection h3 with h3
   injection g3 with g3
   rw[NP] at h3;omega
end Lw
namespace Lw
inductive TC where
 |Ey (o:Nat)|data (o i:Nat)
 deriving DecidableEq
namespace TC
def op:TC->Nat
 |Ey o=>o
 |data o _=>o
def rank:TC->Nat
 |Ey o=>2 * o
 |data o _=>2 * o+1
end TC
inductive BC where
 |v_ (o:Nat)|Hb (o:Nat)|note (o j:Nat) (bs:List Int)
def BC.op:BC->Nat
 |v_ o=>o
 |Hb o=>o
 |note o _ _=>o
structure Sys where
 s:Sr
 h:Hr
 T:List TC
 B:List BC
 st:Nat->Nat
 tk:Nat->Nat
def mk(j:Nat)(bs:List Int)(x:Nat):Prop:=∃k,bs[k]?=some 1/\x=j+k
structure Cw where
 s:Sr
 h:Hr
 T:List x_
 B:List x_
namespace Sys
def P(x:Sys)(o:Nat):List Pc:=fl x.s.most (x.s.msgs.drop (x.st o))
def en(x:Sys)(o:Nat):Nat:=x.st o+G3 ((x.P o).take (x.tk o))
def run(x:Sys)(o:Nat):List (Nat×GS):=((x.s.msgs.drop (x.st o)).take (G3 ((x.P o).take (x.tk o)))).map fun m=>(o,m)
def cT(x:Sys):TC->x_
 |.Ey o=>.Ey o
 |.data o i=>.data o (i % (2 * x.s.w)) ((x.P o).getD i (0,[]))
def cB(x:Sys):BC->x_
 |.v_ o=>.v_ o
 |.Hb o=>.Hb o
 |.note o j bs=>.note o (j % (2 * x.s.w)) bs
end Sys
structure YE(x:Sys):Prop where
 w0:0<x.s.w
 ww:x.h.w=x.s.w
 ps:x.s.st≠.G4->x.s.ps=x.P x.s.op/\1<=x.s.op
 op0:x.s.st=.opening->x.s.base=0/\x.s.ES=[]/\x.tk x.s.op=0/\(x.h.op=x.s.op->x.h.early=[])
 su:x.s.sure=x.st x.s.op+G3 ((x.P x.s.op).take x.s.base)
 sl:∀o,o<=x.s.op->x.st o<=x.s.msgs.length
 ch:∀o,1<=o->o<=x.s.op->∃o',o'<o/\x.st o<=x.en o'
 s0:x.st 0=0
 bt:x.s.base<=x.tk x.s.op
 tw:x.tk x.s.op<=x.s.base+x.s.w
 tl:∀o,x.tk o<=(x.P o).length
 tz:∀o,x.s.op<o->x.tk o=0
 t0:x.tk 0=0
 ho:x.h.op<=x.s.op
 hz:x.h.op=0->x.h.early=[]
 hn:x.h.nx=x.tk x.h.op
 hl:x.h.op≠0->∀o,x.h.op<o->x.tk o=0
 he:∀e,e∈x.h.early->(x.P x.h.op)[e.1]?=some e.2/\x.h.nx<e.1
 hd:(x.h.early.map (·.1)).Nodup
 hb:x.h.begun=(Yh ((x.P x.h.op).take x.h.nx)).2
 hg:x.h.given=(List.range (x.s.op+1)).flatMap x.run
 ek:x.h.op=x.s.op->∀e,e∈x.h.early->e.1<x.s.base+x.s.w
 n0:x.s.op=0->x.s.ES=[]
structure YF(x:Sys):Prop where
 so:x.T.Pairwise fun a b=>a.rank<=b.rank
 bd:∀c,c∈x.T->1<=c.op/\c.rank<=2 * x.s.op+1
 bo:x.s.st=.opening->∀c,c∈x.T->c.rank<=2 * x.s.op
 rt:∀o,0<x.tk o->∀c,c∈x.T->2 * o+1<=c.rank
 rh:∀c,c∈x.T->2 * x.h.op<=c.rank
 re:x.h.early≠[]->∀c,c∈x.T->2 * x.h.op+1<=c.rank
 r2:∀o i,TC.data o i∈x.T->i<(x.P o).length
 r3:∀o i,TC.Ey o∈x.T->TC.data o i∈x.T->i<x.s.w
 r4:∀i,TC.data x.h.op i∈x.T->i<x.h.nx+x.s.w/\x.h.nx<=i+x.s.w/\∀e,e∈x.h.early->e.1<i+x.s.w
 r6:x.T.Pairwise fun a b=>∀o i j,a=TC.data o i->b=TC.data o j->i<j+x.s.w
 r7:∀i,TC.data x.s.op i∈x.T->i<x.s.base+x.s.w
structure YG(x:Sys):Prop where
 bb:∀c,c∈x.B->1<=c.op/\c.op<=x.s.op
 bn:∀j bs,BC.note x.s.op j bs∈x.B->x.s.base<=j/\j<=x.tk x.s.op
 bp:x.B.Pairwise fun a b=>∀j bs j' YH,a=BC.note x.s.op j bs->b=BC.note x.s.op j' YH->j<=j'/\¬mk j bs j'
 m1:x.h.op=x.s.op->(∀k,k∈x.s.ES->k<x.h.nx\/k∈x.h.early.map (·.1))/\∀j bs k,BC.note x.s.op j bs∈x.B->mk j bs k->k<x.h.nx\/k∈x.h.early.map (·.1)
 m2:∀k,k∈x.s.ES->k≠x.s.base/\∀j bs,BC.note x.s.op j bs∈x.B->k≠j
 m4:∀j bs,BC.note x.s.op j bs∈x.B->¬mk j bs j
 nh:TC.Ey x.s.op∈x.T\/x.s.st=.opening->∀j bs,¬BC.note x.s.op j bs∈x.B
 nd:TC.Ey x.s.op∈x.T->x.s.ES=[]
structure Iv(x:Sys):Prop where
 c:YE x
 t:YF x
 b:YG x
def Sys.new(w most:Nat):Sys:=⟨Sr.new w most,Hr.new w,[],[],fun _=>0,fun _=>0⟩
section
variable{x:Sys}{m:GS}
def Sys.hand(x:Sys)(m:GS):Sys:={ x with s:=x.s.hand m }
end
end Lw
namespace Lw
section
variable{x:Sys}{m:GS}
def Sys.anew(x:Sys):Sys:={ x with s:=x.s.anew,st:=fun o=>if o=x.s.op+1 then x.s.sure else x.st o }
end
end Lw
namespace Lw
section
variable{x:Sys}
theorem tp{α β:Type}(f:α->β):∀(l:List α) (k:Nat),(l.map f).eraseIdx k=(l.eraseIdx k).map f
 |[],_=>rfl
 |_ :: _,0=>rfl
 |a :: r,k+1=>by
  show f a :: (r.map f).eraseIdx k=f a :: (r.eraseIdx k).map f;rw[tp f r k]
theorem vR{s:Sr}{i:Nat}(h:i∈s.wanted):s.base<=i/\i<s.base+s.w/\i<s.ps.length/\i∉s.ES:=by
 unfold Sr.wanted at h;obtain⟨h1,h2⟩:=List.mem_filter.mp h;obtain⟨h3,h4⟩:=List.mem_range'_1.mp h1;refine⟨h3,by omega,by omega,by simpa using h2⟩
end
end Lw
namespace Lw
open PySem L2 DL
structure En where
 c:x_
 x:Option (List Int)
def En.xs(e:En):List Int:=match e.x with
 |none=>FR (aB e.c)
 |some xs=>xs
def gd(c:x_):En:=⟨c,none⟩
structure WW where
 s:Sr
 h:Hr
 T:List En
 B:List En
def eo(e:En)(place:Nat)(Ga:Int):En:=match e.x with
 |some _=>e
 |none=>if Ga % 256=0 then e else ⟨e.c,some (e.xs.set (place % e.xs.length) ((e.xs.getD (place % e.xs.length) 0+Ga) % 256))⟩
def kg(l:List En)(k place:Nat)(Ga:Int):List En:=match l[k]? with
 |some e=>l.set k (eo e place Ga)
 |none=>l
def rP(l:List En)(k:Nat):List En:=match l[k]? with
 |some e=>l.insertIdx k e
 |none=>l
inductive Act where
 |hand (m:GS)|start|tick|step (r:Bool)|MY (r:Bool) (k:Nat)|dbl (r:Bool) (k:Nat)|Lf (r:Bool) (k place:Nat) (Ga:Int)|Fz (r:Bool)
namespace WW
def new(w most:Nat):WW:=⟨Sr.new w most,Hr.new w,[],[]⟩
def road(w:WW)(r:Bool):List En:=if r then w.T else w.B
def Fc(w:WW)(r:Bool)(l:List En):WW:=if r then { w with T:=l } else { w with B:=l }
def GU(w:WW)(r:Bool)(e:En):WW:=match e.x with
 |some _=>w
 |none=>if r then { w with h:=(w.h.s_ e.c).1,B:=w.B++(w.h.s_ e.c).2.map gd } else { w with s:=w.s.s_ e.c }
def step(w:WW)(r:Bool):WW:=match w.road r with
 |[]=>w
 |e :: l=>(w.Fc r l).GU r e
def act(w:WW):Act->WW
 |.hand m=>{ w with s:=w.s.hand m }
 |.start=>{ w with s:=w.s.start }
 |.tick=>{ w with T:=w.T++w.s.tick.map gd }
 |.step r=>w.step r
 |.MY r k=>w.Fc r ((w.road r).eraseIdx k)
 |.dbl r k=>w.Fc r (rP (w.road r) k)
 |.Lf r k place Ga=>w.Fc r (kg (w.road r) k place Ga)
 |.Fz r=>if r then { w with s:=w.s.Fz } else { w with h:=w.h.Fz }
end WW
def NQ(m:GS):Prop:=∀x,x∈m->0<=x/\x<=255
def Mh(N:Nat)(e:En):Prop:=IF e.c/\e.c.Fx<=N/\e.xs.length<=100/\∀xs,e.x=some xs->∀c,IF c->FR (aB c)≠xs
structure Ge(N:Nat)(w:WW):Prop where
 sb:Sb N w.s
 bl:Bl w.s
 w0:0<w.s.w
 w7:w.s.w<=7
 m8:w.s.most<=8
 hw:w.h.w=w.s.w
 bd:Bd N w.h
 op:w.s.op<=N
 ho:w.h.op<=N
 gk:∀m,m∈w.s.msgs->NQ m
 pk:∀p,p∈w.s.ps->p.2.length<=8/\NQ p.2
 tk:∀e,e∈w.T->Mh N e
 bk:∀e,e∈w.B->Mh N e
 tl:w.T.length<=8 * N
 ql:w.B.length<=8 * N
theorem Mh.mono{N M:Nat}{e:En}(h:Mh N e)(hm:N<=M):Mh M e:=⟨h.1,Nat.le_trans h.2.1 hm,h.2.2⟩
theorem vc{N:Nat}{c:x_}(h:IF c)(ho:c.Fx<=N):Mh N (gd c):=by
 have:=fO h;refine⟨h,ho,?_,fun xs z=>by cases z⟩;show(FR (aB c)).length<=100;rw[md];omega
theorem Ge.mono{N M:Nat}{w:WW}(a:Ge N w)(h:N<=M):Ge M w:=
 ⟨a.sb.mono h,a.bl,a.w0,a.w7,a.m8,a.hw,a.bd.mono h,Nat.le_trans a.op h,Nat.le_trans a.ho h,a.gk,a.pk,fun e he=>(a.tk e he).mono h,fun e he=>(a.bk e he).mono h,by have:=a.tl;omega,by have:=a.ql;omega⟩
theorem qw{k:Nat}:∀(n:Nat) (m:GS),m.length<=n->1<=k->∀p,p∈oA k n m->p.2.length<=k/\∀x,x∈p.2->x∈m
 |0,m,hm,hk,p,hp=>by
  have:m=[]:=List.eq_nil_of_length_eq_zero (by omega);subst this;simp[oA] at hp;subst hp;simp
 |n+1,m,hm,hk,p,hp=>by
  unfold oA at hp;split at hp
  ·rcases List.mem_cons.mp hp with rfl|hp
   ·exact⟨by rw[List.length_take];omega,fun x hx=>List.mem_of_mem_take hx⟩
   ·have:=qw n (m.drop k) (by rw[List.length_drop];omega) hk p hp;exact⟨this.1,fun x hx=>List.mem_of_mem_drop (this.2 x hx)⟩
  ·simp at hp;subst hp;exact⟨by show m.length<=k;omega,fun x hx=>hx⟩
theorem xa{k:Nat}(hk:1<=k)(h8:k<=8){m:GS}(hm:m.length<=40)(ho:NQ m):∀p,p∈lr k m->p.2.length<=8/\NQ p.2:=fun p hp=>by
 have:=qw 100 m (by omega) hk p hp;exact⟨by omega,fun x hx=>ho x (this.2 x hx)⟩
section
variable{N:Nat}{w:WW}
theorem AE{a b:Nat}(h1:0<a)(h2:a<=7)(h3:1<=b)(h4:b<=8):Ge 0 (WW.new a b):=by
 refine⟨⟨h3,by simp[WW.new,Sr.new],by simp[WW.new,Sr.new],by simp[WW.new,Sr.new],by simp[WW.new,Sr.new],by simp[WW.new,Sr.new]⟩,Nat.zero_le _,h1,h2,h4,rfl,⟨by simp[WW.new,Hr.new],by simp[WW.new,Hr.new],by simp[WW.new,Hr.new]⟩,Nat.le_refl _,Nat.le_refl _,by simp[WW.new,Sr.new],by simp[WW.new,Sr.new],by simp[WW.new],by simp[WW.new],by simp[WW.new],by simp[WW.new]⟩
theorem zk(a:Ge N w){m:GS}(hm:m.length<=40)(ho:NQ m):Ge (N+1) (w.act (.hand m)):=by
 have a':=a.mono (Nat.le_succ N);refine⟨a.sb.hand hm,a.bl.hand m,a.w0,a.w7,a.m8,a.hw,a'.bd,a'.op,a'.ho,fun y hy=>?_,fun p hp=>?_,a'.tk,a'.bk,a'.tl,a'.ql⟩
 ·rcases List.mem_append.mp (show y∈w.s.msgs++[m] from hy) with hy|hy
  ·exact a.gk y hy
  ·rw[List.mem_singleton.mp hy];exact ho
 ·have hp':p∈(if w.s.st=.G4 then w.s.ps else w.s.ps++lr w.s.most m):=hp;split at hp'
  ·exact a.pk p hp'
  ·rcases List.mem_append.mp hp' with hp'|hp'
   ·exact a.pk p hp'
   ·exact xa a.sb.most a.m8 hm ho p hp'
theorem xx(a:Ge N w):∀p,p∈w.s.anew.ps->p.2.length<=8/\NQ p.2:=fun p hp=>by
 obtain⟨m,hm,hp⟩:=List.mem_flatMap.mp (show p∈(w.s.msgs.drop w.s.sure).flatMap (lr w.s.most) from hp);have Wc:=List.mem_of_mem_drop hm;exact xa a.sb.most a.m8 (a.sb.Nl m Wc) (a.gk m Wc) p hp
theorem yd(a:Ge N w):Ge (N+1) (w.act .start):=by
 have a':=a.mono (Nat.le_succ N);by_cases h:w.s.st=.G4
 ·have e:w.act .start = { w with s:=w.s.anew }:=by show({ w with s:=w.s.start }:WW)=_;unfold Sr.start;rw[if_pos h]
  have hb:Sb (N+1) w.s.anew:=by
   have:=(a.sb.start (s:=w.s)).mono (Nat.le_succ N);unfold Sr.start at this;rw[if_pos h] at this;exact this
  rw[e];exact⟨hb,Bl.anew,a.w0,a.w7,a.m8,a.hw,a'.bd,by have:=a.op;show w.s.op+1<=_;omega,a'.ho,a.gk,xx a,a'.tk,a'.bk,a'.tl,a'.ql⟩
 ·have e:w.act .start=w:=by show({ w with s:=w.s.start }:WW)=_;unfold Sr.start;rw[if_neg h]
  rw[e];exact a'
theorem wy(s:Sr):s.wanted.length<=s.w:=by
 unfold Sr.wanted;refine Nat.le_trans (List.length_filter_le _ _) ?_;rw[List.length_range'];omega
theorem uj(a:Ge N w)(hN:N<=20000):(∀c,c∈w.s.tick->IF c/\c.Fx<=N)/\w.s.tick.length<=7:=by
 have ho:=a.op;have hw:=a.w7;have h0:=a.w0;unfold Sr.tick;cases w.s.st with
 |G4=>exact⟨fun c hc=>by simp at hc,by simp⟩
 |opening=>exact⟨fun c hc=>by simp at hc;subst hc;exact⟨(show w.s.op<=65535 by omega),ho⟩,by simp⟩
 |opened=>
  refine⟨fun c hc=>?_,by rw[List.length_map];have:=wy w.s;omega⟩;obtain⟨i,hi,rfl⟩:=List.mem_map.mp hc;obtain⟨h1,h2,h3,h4⟩:=vR hi;have NO:w.s.ps.getD i (0,[])∈w.s.ps:=by
   rw[List.getD_eq_getElem?_getD,List.getElem?_eq_getElem h3];exact List.getElem_mem h3
  have hf:=a.sb.fg _ NO;have hp:=a.pk _ NO;have hm:=Nat.mod_lt i (show 0<2 * w.s.w by omega);exact⟨⟨by omega,by omega,by omega,hp.1,hp.2⟩,ho⟩
theorem Ah(a:Ge N w)(hN:N<=20000):Ge (N+1) (w.act .tick):=by
 have a':=a.mono (Nat.le_succ N);obtain⟨h1,h2⟩:=uj a hN;refine⟨a'.sb,a'.bl,a.w0,a.w7,a.m8,a.hw,a'.bd,a'.op,a'.ho,a.gk,a.pk,fun e he=>?_,a'.bk,?_,a'.ql⟩
 ·rcases List.mem_append.mp (show e∈w.T++w.s.tick.map gd from he) with he|he
  ·exact a'.tk e he
  ·obtain⟨c,hc,rfl⟩:=List.mem_map.mp he;exact(vc (h1 c hc).1 (h1 c hc).2).mono (Nat.le_succ _)
 ·show(w.T++w.s.tick.map gd).length<=_;have:=a.tl;rw[List.length_append,List.length_map];omega
theorem Ge.rd(a:Ge N w)(r:Bool):∀e,e∈w.road r->Mh N e:=by
 cases r with
 |true=>exact a.tk
 |false=>exact a.bk
theorem Ge.rl(a:Ge N w)(r:Bool):(w.road r).length<=8 * N:=by
 cases r with
 |true=>exact a.tl
 |false=>exact a.ql
theorem Ge.Fc(a:Ge N w)(r:Bool){l:List En}(h1:∀e,e∈l->Mh N e)(h2:l.length<=8 * N):Ge N (w.Fc r l):=by
 cases r with
 |true=>exact⟨a.sb,a.bl,a.w0,a.w7,a.m8,a.hw,a.bd,a.op,a.ho,a.gk,a.pk,h1,a.bk,h2,a.ql⟩
 |false=>exact⟨a.sb,a.bl,a.w0,a.w7,a.m8,a.hw,a.bd,a.op,a.ho,a.gk,a.pk,a.tk,h1,a.tl,h2⟩
theorem yN(a:Ge N w)(r:Bool)(k:Nat):Ge N (w.act (.MY r k)):=by
 refine a.Fc r (fun e he=>a.rd r e (List.mem_of_mem_eraseIdx he)) ?_;have:=List.length_eraseIdx_le (w.road r) k;have:=a.rl r;omega
theorem lE{α:Type}:∀{l:List α}{k:Nat}{x y:α},y∈l.insertIdx k x->y=x\/y∈l
 |l,0,x,y,h=>by simpa using h
 |[],k+1,x,y,h=>by simp at h
 |z :: l,k+1,x,y,h=>by
  rw[List.insertIdx_succ_cons] at h;rcases List.mem_cons.mp h with rfl|h
  ·exact .inr List.mem_cons_self
  ·rcases lE h with h|h
   ·exact .inl h
   ·exact .inr (List.mem_cons_of_mem _ h)
theorem Br(a:Ge N w)(r:Bool)(k:Nat):Ge (N+1) (w.act (.dbl r k)):=by
 have a':=a.mono (Nat.le_succ N);have hl:=a.rl r;refine a'.Fc r (fun e he=>?_) ?_
 ·unfold rP at he;split at he
  ·rename_i e' h';rcases lE he with rfl|he
   ·exact a'.rd r e (List.mem_of_getElem? h')
   ·exact a'.rd r e he
  ·exact a'.rd r e he
 ·unfold rP;split
  ·exact Nat.le_trans List.length_insertIdx_le_succ (by omega)
  ·omega
theorem qf(a:Ge N w)(hN:N<=20000){c:x_}(hc:IF c)(Wd:c.Fx<=N):(∀d,d∈(w.h.s_ c).2->IF d/\d.Fx<=N)/\(w.h.s_ c).2.length<=1/\(w.h.s_ c).1.op<=N:=by
 have ho:=a.ho;have hw:=a.hw;have h7:=a.w7;have h0:=a.w0;have NR:∀h:Hr,h.op<=N->h.w=w.s.w->IF h.note/\h.note.Fx<=N:=by
  intro h h1 h2;refine⟨⟨by omega,?_,?_,fun x hx=>?_⟩,h1⟩
  ·have:=Nat.mod_lt h.nx (show 0<2 * h.w by omega);omega
  ·show h.bits.length<=7;unfold Hr.bits;rw[List.length_map,List.length_range];omega
  ·obtain⟨k,_,rfl⟩:=List.mem_map.mp (show x∈h.bits from hx);split<;>omega
 cases c with
 |Ey o=>
  have MX:o<=65535:=hc;have QB:o<=N:=Wd;dsimp only[Hr.s_];split
  ·exact⟨fun d hd=>by simp at hd,by simp,ho⟩
  ·split
   ·exact⟨fun d hd=>by simp at hd;subst hd;exact⟨MX,QB⟩,by simp,QB⟩
   ·exact⟨fun d hd=>by simp at hd;subst hd;exact⟨MX,QB⟩,by simp,ho⟩
 |data o n p=>
  have MX:=hc.1;have QB:o<=N:=Wd;dsimp only[Hr.s_];split
  ·exact⟨fun d hd=>by simp at hd,by simp,ho⟩
  ·split
   ·exact⟨fun d hd=>by simp at hd;subst hd;exact⟨MX,QB⟩,by simp,ho⟩
   ·have e1:(w.h.data n p).op=w.h.op:=by
     unfold Hr.data;have t:∀(k:Nat) (h:Hr),(Hr.Fn k h).op=h.op:=by
      intro k
      induction k with
      |zero=>intro h;rfl
      |succ k ih=>
       intro h;unfold Hr.Fn;split
       ·rfl
       ·rw[ih];unfold Hr.take;split<;>rfl
     rw[t];unfold Hr.keep;split<;>rfl
    have e2:=uw w.h n p;refine⟨fun d hd=>?_,by simp,by rw[e1];exact ho⟩;simp at hd;subst hd;exact NR _ (by rw[e1];exact ho) (by rw[e2];exact hw)
 |v_ o=>exact⟨fun d hd=>by simp[Hr.s_] at hd,by simp[Hr.s_],ho⟩
 |Hb o=>exact⟨fun d hd=>by simp[Hr.s_] at hd,by simp[Hr.s_],ho⟩
 |note o n bs=>exact⟨fun d hd=>by simp[Hr.s_] at hd,by simp[Hr.s_],ho⟩
theorem IF.Pb{c:x_}(h:IF c):Pb c:=by
 cases c with
 |data o n p=>exact Nat.le_trans h.2.2.2.1 (by decide)
 |_=>trivial
theorem IF.Ld{c:x_}(h:IF c):Ld c:=by
 cases c with
 |note o n bs=>exact h.2.2.1
 |_=>trivial
theorem tQ(s:Sr)(n:Nat)(bs:List Int):(s.ED n bs).ps=s.ps/\(s.ED n bs).op=s.op/\(s.ED n bs).msgs=s.msgs/\(s.ED n bs).most=s.most:=by
 unfold Sr.ED;split
 ·have:=dU bs (s.Ip (lD n s.base s.w).toNat) 0;exact⟨this.2.2.2.2.2.2.1,this.2.2.2.2.1,this.2.2.1,this.2.1⟩
 ·exact⟨rfl,rfl,rfl,rfl⟩
theorem yB(a:Ge N w)(c:x_):(∀p,p∈(w.s.s_ c).ps->p.2.length<=8/\NQ p.2)/\(w.s.s_ c).op<=N+1/\(w.s.s_ c).msgs=w.s.msgs/\(w.s.s_ c).most=w.s.most:=by
 have ho:=a.op;cases c with
 |v_ o=>
  dsimp only[Sr.s_];split
  ·exact⟨a.pk,by show w.s.op<=_;omega,rfl,rfl⟩
  ·exact⟨a.pk,by omega,rfl,rfl⟩
 |Hb o=>
  dsimp only[Sr.s_];split
  ·exact⟨xx a,by show w.s.op+1<=_;omega,rfl,rfl⟩
  ·exact⟨a.pk,by omega,rfl,rfl⟩
 |note o n bs=>
  dsimp only[Sr.s_];split
  ·obtain⟨e1,e2,e3,e4⟩:=tQ w.s n bs;rw[e1,e2,e3,e4];exact⟨a.pk,by omega,rfl,rfl⟩
  ·exact⟨a.pk,by omega,rfl,rfl⟩
 |Ey o=>exact⟨a.pk,by show w.s.op<=_;omega,rfl,rfl⟩
 |data o n p=>exact⟨a.pk,by show w.s.op<=_;omega,rfl,rfl⟩
theorem vW(a:Ge N w)(hN:N<=20000)(r:Bool){e:En}(he:Mh N e):Ge (N+1) (w.GU r e):=by
 have a':=a.mono (Nat.le_succ N);obtain⟨c,x⟩:=e;cases x with
 |some xs=>exact a'
 |none=>
  cases r with
  |true=>
   obtain⟨k1,k2,k3⟩:=qf a hN he.1 he.2.1;refine⟨a'.sb,a'.bl,a.w0,a.w7,a.m8,(Bo w.h c).trans a.hw,a.bd.s_ he.1.Pb,a'.op,Nat.le_succ_of_le k3,a.gk,a.pk,a'.tk,fun d hd=>?_,a'.tl,?_⟩
   ·rcases List.mem_append.mp (show d∈w.B++(w.h.s_ c).2.map gd from hd) with hd|hd
    ·exact a'.bk d hd
    ·obtain⟨q,hq,rfl⟩:=List.mem_map.mp hd;exact(vc (k1 q hq).1 (k1 q hq).2).mono (Nat.le_succ _)
   ·show(w.B++(w.h.s_ c).2.map gd).length<=_;have:=a.ql;have Nm:(w.h.s_ c).2.length<=1:=k2;rw[List.length_append,List.length_map];omega
  |false=>
   obtain⟨k1,k2,k3,k4⟩:=yB a c;have hw:=yX w.s c;refine⟨a.sb.s_ he.1.Ld,a.bl.s_ a.w0 c,by rw[show(w.GU false ⟨c,none⟩).s=w.s.s_ c from rfl,hw];exact a.w0,by rw[show(w.GU false ⟨c,none⟩).s=w.s.s_ c from rfl,hw];exact a.w7,by rw[show(w.GU false ⟨c,none⟩).s=w.s.s_ c from rfl,k4];exact a.m8,by rw[show(w.GU false ⟨c,none⟩).s=w.s.s_ c from rfl,hw];exact a.hw,a'.bd,k2,a'.ho,fun m hm=>a.gk m (by rw[<-k3];exact hm),k1,a'.tk,a'.bk,a'.tl,a'.ql⟩
theorem yF(w:WW)(r:Bool)(l:List En):(w.Fc r l).road r=l:=by cases r<;>rfl
theorem yO(a:Ge N w)(hN:N<=20000)(r:Bool):Ge (N+1) (w.act (.step r)):=by
 show Ge (N+1) (w.step r);unfold WW.step;cases h:w.road r with
 |nil=>exact a.mono (Nat.le_succ N)
 |cons e l=>
  have h1:=a.rd r;have h2:=a.rl r;rw[h] at h1 h2;rw[List.length_cons] at h2;exact vW (a.Fc r (fun d hd=>h1 d (List.mem_cons_of_mem _ hd)) (by omega)) hN r (h1 e List.mem_cons_self)
theorem zi{e:En}(he:Mh N e)(place:Nat)(Ga:Int):Mh N (eo e place Ga):=by
 obtain⟨c,x⟩:=e;cases x with
 |some xs=>exact he
 |none=>
  unfold eo;dsimp only;split
  ·exact he
  ·rename_i hb;have L_:3<=(aB c).length/\(aB c).length<=13:=fO he.1;have Mg:(⟨c,none⟩:En).xs=FR (aB c):=rfl;have YI:=md (aB c);refine⟨he.1,he.2.1,?_,?_⟩
   ·show(((⟨c,none⟩:En).xs).set _ _).length<=100;rw[List.length_set,Mg,YI];omega
   ·intro xs hx c' PX
    injection hx with hx
    rw[<-hx,Mg];obtain⟨i,hi⟩:∃i,place % (FR (aB c)).length=i:=⟨_,rfl⟩;have Iw:i<(FR (aB c)).length:=by rw[<-hi];exact Nat.mod_lt _ (by omega)
    rw[hi];have Mf:=zy (tm he.1);obtain⟨a,ha⟩:∃a,(FR (aB c))[i]?=some a:=⟨_,List.getElem?_eq_getElem Iw⟩;have YJ:(FR (aB c)).getD i 0=a:=by rw[List.getD_eq_getElem?_getD,ha];rfl
    rw[YJ];exact BS ha (by omega) (aB c')
theorem ya(a:Ge N w)(r:Bool)(k place:Nat)(Ga:Int):Ge N (w.act (.Lf r k place Ga)):=by
 have hl:=a.rl r;refine a.Fc r (fun e he=>?_) ?_
 ·unfold kg at he;split at he
  ·rename_i e' h';rcases List.mem_or_eq_of_mem_set he with he|rfl
   ·exact a.rd r e he
   ·exact zi (a.rd r e' (List.mem_of_getElem? h')) place Ga
  ·exact a.rd r e he
 ·unfold kg;split
  ·rw[List.length_set];exact hl
  ·exact hl
theorem zZ(a:Ge N w)(r:Bool):Ge N (w.act (.Fz r)):=by
 cases r with
 |true=>exact⟨a.sb.Fz,a.bl,a.w0,a.w7,a.m8,a.hw,a.bd,a.op,a.ho,a.gk,a.pk,a.tk,a.bk,a.tl,a.ql⟩
 |false=>exact⟨a.sb,a.bl,a.w0,a.w7,a.m8,a.hw,a.bd.begin_ 0,a.op,Nat.zero_le _,a.gk,a.pk,a.tk,a.bk,a.tl,a.ql⟩
def Act.ok:Act->Prop
 |.hand m=>m.length<=40/\NQ m
 |_=>True
theorem AG(a:Ge N w)(hN:N<=20000)(t:Act)(ht:t.ok):Ge (N+1) (w.act t):=by
 cases t with
 |hand m=>exact zk a ht.1 ht.2
 |start=>exact yd a
 |tick=>exact Ah a hN
 |step r=>exact yO a hN r
 |MY r k=>exact(yN a r k).mono (Nat.le_succ N)
 |dbl r k=>exact Br a r k
 |Lf r k p b=>exact(ya a r k p b).mono (Nat.le_succ N)
 |Fz r=>exact(zZ a r).mono (Nat.le_succ N)
end
end Lw
namespace Lw
open PySem L2 DL
structure Ad where
 n:Nat
 nS:Nat
 mS:Nat
 pS:Nat
 qS:Nat
 nH:Nat
 gH:Nat
 eH:Nat
 bH:Nat
 nR:Nat
 nT:Nat
 nB:Nat
def Ad.sf(a:Ad):List Nat:=[a.nS,a.mS,a.pS,a.qS]
def Ad.hf(a:Ad):List Nat:=[a.nH,a.gH,a.eH,a.bH]
def Ad.wf(a:Ad):List Nat:=[a.n,a.nR,a.nT,a.nB]
def Ad.fp(a:Ad):List Nat:=a.sf++a.hf++a.wf
def Ad.rn(a:Ad)(r:Bool):Nat:=if r then a.nT else a.nB
def aR(r:Bool):Str:=if r then "there" else "back"
def FH(e:En):D:=.tup [.tup (e.xs.map D.int),.bl e.x.isSome]
structure G6(G:Cs)(S:List Cell)(a:Ad)(w:WW):Prop where
 ob:S[a.n]?=some (.ins G.World k_ [.ob a.nS,.ob a.nH,.ob a.nR])
 sr:EX G S a.nS a.mS a.pS a.qS w.s
 hr:Fi G S a.nH a.gH a.eH a.bH w.h
 rd:S[a.nR]?=some (.FN [(.inr "there",.ob a.nT),(.inr "back",.ob a.nB)])
 tt:S[a.nT]?=some (.lst (w.T.map FH))
 bb:S[a.nB]?=some (.lst (w.B.map FH))
 sh:∀i,i∈a.sf->∀j,j∈a.hf->i≠j
 sw:∀i,i∈a.sf->∀j,j∈a.wf->i≠j
 hw:∀i,i∈a.hf->∀j,j∈a.wf->i≠j
 tb:a.nT≠a.nB
structure GV(G:Cs)(a:Ad)(S:List Cell)(a':Ad)(S':List Cell)(w':WW):Prop where
 at_:G6 G S' a' w'
 fr:Fr a.fp S S'
 nn:a'.n=a.n
 ad:∀i,i∈a'.fp->i∈a.fp\/S.length<=i
section
variable{G:Cs}{S S' S1 S2:List Cell}{a a' a1 a2:Ad}{w w' w1 w2:WW}{N:Nat}
theorem lg{i p q r s:Nat}:i∈[p,q,r,s]↔i=p\/i=q\/i=r\/i=s:=by simp
theorem G6.lt(A:G6 G S a w):∀i,i∈a.fp->i<S.length:=by
 intro i hi;simp only[Ad.fp,Ad.sf,Ad.hf,Ad.wf,List.mem_append,lg] at hi;rcases hi with ((rfl|rfl|rfl|rfl)|(rfl|rfl|rfl|rfl))|(rfl|rfl|rfl|rfl)
 ·exact aT A.sr.ob
 ·exact aT A.sr.ms
 ·exact aT A.sr.ps
 ·exact aT A.sr.nt
 ·exact aT A.hr.ob
 ·exact aT A.hr.gv
 ·exact aT A.hr.ea
 ·exact aT A.hr.be
 ·exact aT A.ob
 ·exact aT A.rd
 ·exact aT A.tt
 ·exact aT A.bb
theorem Ad.Pe{a:Ad}{i:Nat}(h:i∈a.sf):i∈a.fp:=by simp only[Ad.fp,List.mem_append];exact .inl (.inl h)
theorem Ad.Pf{a:Ad}{i:Nat}(h:i∈a.hf):i∈a.fp:=by simp only[Ad.fp,List.mem_append];exact .inl (.inr h)
theorem Ad.NS{a:Ad}{i:Nat}(h:i∈a.wf):i∈a.fp:=by simp only[Ad.fp,List.mem_append];exact .inr h
theorem EX.fr{n m p q:Nat}{s:Sr}{fp:List Nat}(a:EX G S n m p q s)(f:Fr fp S S')(h:∀i,i∈[n,m,p,q]->i∉fp):EX G S' n m p q s:=
 ⟨f.get a.ob (h _ (by simp)),f.get a.ms (h _ (by simp)),f.get a.ps (h _ (by simp)),f.get a.nt (h _ (by simp)),a.mp⟩
theorem G6.fr{fp:List Nat}(A:G6 G S a w)(f:Fr fp S S')(h:∀i,i∈a.fp->i∉fp):G6 G S' a w:=by
 have hs:∀i,i∈a.sf->i∉fp:=fun i hi=>h i (Ad.Pe hi)
 have hh:∀i,i∈a.hf->i∉fp:=fun i hi=>h i (Ad.Pf hi)
 have hw:∀i,i∈a.wf->i∉fp:=fun i hi=>h i (Ad.NS hi)
 exact⟨f.get A.ob (hw _ (by simp[Ad.wf])),A.sr.fr f hs,A.hr.fr f (hh _ (by simp[Ad.hf])) (hh _ (by simp[Ad.hf])) (hh _ (by simp[Ad.hf])) (hh _ (by simp[Ad.hf])),f.get A.rd (hw _ (by simp[Ad.wf])),f.get A.tt (hw _ (by simp[Ad.wf])),f.get A.bb (hw _ (by simp[Ad.wf])),A.sh,A.sw,A.hw,A.tb⟩
theorem G6.push(A:G6 G S a w)(c:List Cell):G6 G (S++c) a w:=A.fr (fp:=[]) Fr.push fun _ _ z=>nomatch z
theorem GV.refl(A:G6 G S a w):GV G a S a S w:=⟨A,Fr.refl _ _,rfl,fun i hi=>.inl hi⟩
theorem GV.push(A:GV G a S a' S' w')(c:List Cell):GV G a S a' (S'++c) w':=⟨A.at_.push c,A.fr.tr Fr.push,A.nn,A.ad⟩
theorem GV.trans(A:GV G a S a1 S1 w1)(C:GV G a1 S1 a2 S2 w2):GV G a S a2 S2 w2:=by
 have hl:=A.fr.1;refine⟨C.at_,A.fr.trans C.fr fun i hi hs=>?_,C.nn.trans A.nn,fun i hi=>?_⟩
 ·rcases A.ad i hi with h|h
  ·exact h
  ·omega
 ·rcases C.ad i hi with h|h
  ·exact A.ad i h
  ·exact .inr (by omega)
theorem GV.grow(A:GV G a S1 a' S' w')(h:Fr [] S S1):GV G a S a' S' w':=by
 have hl:=h.1;refine⟨A.at_,(h.mono fun i hi _=>nomatch hi).tr A.fr,A.nn,fun i hi=>?_⟩;rcases A.ad i hi with z|z
 ·exact .inl z
 ·exact .inr (by omega)
theorem G6.snd(A:G6 G S a w){p' q':Nat}{s':Sr}(k:FX G a.nS a.mS a.pS a.qS S p' q' S' s'):GV G a S { a with pS:=p',qS:=q' } S' { w with s:=s' }:=by
 have S9:∀i,i∈a.wf->i<S.length:=fun i hi=>A.lt i (Ad.NS hi)
 have S_:∀i,i∈a.hf->i<S.length:=fun i hi=>A.lt i (Ad.Pf hi)
 have GJ:∀i,i∈[a.nS,a.mS,p',q']->i∈a.sf\/S.length<=i:=fun i hi=>by
  have h1:=k.p_;have h2:=k.q_;simp only[lg,Ad.sf] at hi ⊢;rcases hi with rfl|rfl|rfl|rfl
  ·exact .inl (.inl rfl)
  ·exact .inl (.inr (.inl rfl))
  ·rcases h1 with rfl|h1
   ·exact .inl (.inr (.inr (.inl rfl)))
   ·exact .inr h1
  ·rcases h2 with rfl|h2
   ·exact .inl (.inr (.inr (.inr rfl)))
   ·exact .inr h2
 have ow:∀j,j∈a.wf->j∉[a.nS,a.mS,a.pS,a.qS]:=fun j hj z=>A.sw j z j hj rfl
 have oh:∀j,j∈a.hf->j∉[a.nS,a.mS,a.pS,a.qS]:=fun j hj z=>A.sh j z j hj rfl
 refine⟨⟨k.fr.get A.ob (ow _ (by simp[Ad.wf])),k.at_,A.hr.fr k.fr (oh _ (by simp[Ad.hf])) (oh _ (by simp[Ad.hf])) (oh _ (by simp[Ad.hf])) (oh _ (by simp[Ad.hf])),k.fr.get A.rd (ow _ (by simp[Ad.wf])),k.fr.get A.tt (ow _ (by simp[Ad.wf])),k.fr.get A.bb (ow _ (by simp[Ad.wf])),fun i hi j hj=>?_,fun i hi j hj=>?_,A.hw,A.tb⟩,k.fr.mono (fun i hi _=>Ad.Pe hi),rfl,fun i hi=>?_⟩
 ·rcases GJ i hi with h|h
  ·exact A.sh i h j hj
  ·have:=S_ j hj;omega
 ·rcases GJ i hi with h|h
  ·exact A.sw i h j hj
  ·have:=S9 j hj;omega
 ·simp only[Ad.fp,List.mem_append] at hi ⊢;rcases hi with (hi|hi)|hi
  ·rcases GJ i hi with h|h
   ·exact .inl (.inl (.inl h))
   ·exact .inr h
  ·exact .inl (.inl (.inr hi))
  ·exact .inl (.inr hi)
theorem G6.QC(A:G6 G S a w){e' b':Nat}{h':Hr}(k:FF G a.nH a.gH a.eH a.bH S e' b' S' h'):GV G a S { a with eH:=e',bH:=b' } S' { w with h:=h' }:=by
 have S9:∀i,i∈a.wf->i<S.length:=fun i hi=>A.lt i (Ad.NS hi)
 have Ta:∀i,i∈a.sf->i<S.length:=fun i hi=>A.lt i (Ad.Pe hi)
 have GJ:∀i,i∈[a.nH,a.gH,e',b']->i∈a.hf\/S.length<=i:=fun i hi=>by
  have h1:=k.e_;have h2:=k.b_;simp only[lg,Ad.hf] at hi ⊢;rcases hi with rfl|rfl|rfl|rfl
  ·exact .inl (.inl rfl)
  ·exact .inl (.inr (.inl rfl))
  ·rcases h1 with rfl|h1
   ·exact .inl (.inr (.inr (.inl rfl)))
   ·exact .inr h1
  ·rcases h2 with rfl|h2
   ·exact .inl (.inr (.inr (.inr rfl)))
   ·exact .inr h2
 have ow:∀j,j∈a.wf->j∉[a.nH,a.gH,a.eH,a.bH]:=fun j hj z=>A.hw j z j hj rfl
 have os:∀j,j∈a.sf->j∉[a.nH,a.gH,a.eH,a.bH]:=fun j hj z=>A.sh j hj j z rfl
 refine⟨⟨k.fr.get A.ob (ow _ (by simp[Ad.wf])),A.sr.fr k.fr os,k.at_,k.fr.get A.rd (ow _ (by simp[Ad.wf])),k.fr.get A.tt (ow _ (by simp[Ad.wf])),k.fr.get A.bb (ow _ (by simp[Ad.wf])),fun i hi j hj=>?_,A.sw,fun i hi j hj=>?_,A.tb⟩,k.fr.mono (fun i hi _=>Ad.Pf hi),rfl,fun i hi=>?_⟩
 ·rcases GJ j hj with h|h
  ·exact A.sh i hi j h
  ·have:=Ta i hi;omega
 ·rcases GJ i hi with h|h
  ·exact A.hw i h j hj
  ·have:=S9 j hj;omega
 ·simp only[Ad.fp,List.mem_append] at hi ⊢;rcases hi with (hi|hi)|hi
  ·exact .inl (.inl (.inl hi))
  ·rcases GJ i hi with h|h
   ·exact .inl (.inl (.inr h))
   ·exact .inr h
  ·exact .inl (.inr hi)
theorem G6.cell(A:G6 G S a w)(r:Bool):S[a.rn r]?=some (.lst ((w.road r).map FH)):=by
 cases r with
 |true=>exact A.tt
 |false=>exact A.bb
theorem Ad.QD(a:Ad)(r:Bool):a.rn r∈a.wf:=by cases r<;>simp[Ad.rn,Ad.wf]
theorem G6.QE(A:G6 G S a w)(r:Bool){l:List En}(c:Ch (a.rn r) (.lst (l.map FH)) S S'):GV G a S a S' (w.Fc r l):=by
 have hm:=a.QD r;have os:∀j,j∈a.sf->j∉[a.rn r]:=fun j hj z=>A.sw j hj _ hm (List.mem_singleton.mp z)
 have oh:∀j,j∈a.hf->j∉[a.rn r]:=fun j hj z=>A.hw j hj _ hm (List.mem_singleton.mp z)
 have nR:a.rn r≠a.nR:=dA (A.cell r) A.rd (by intro z;cases z);have nn:a.rn r≠a.n:=dA (A.cell r) A.ob (by intro z;cases z);refine⟨⟨?_,?_,?_,?_,?_,?_,A.sh,A.sw,A.hw,A.tb⟩,c.fr.mono (fun i hi _=>by rw[List.mem_singleton.mp hi];exact Ad.NS hm),rfl,fun i hi=>.inl hi⟩
 ·exact c.old A.ob nn
 ·cases r<;>exact A.sr.fr c.fr os
 ·cases r<;>exact A.hr.fr c.fr (oh _ (by simp[Ad.hf])) (oh _ (by simp[Ad.hf])) (oh _ (by simp[Ad.hf])) (oh _ (by simp[Ad.hf]))
 ·exact c.old A.rd nR
 ·cases r with
  |true=>exact c.at_
  |false=>exact c.old A.tt (Ne.symm A.tb)
 ·cases r with
  |true=>exact c.old A.bb A.tb
  |false=>exact c.at_
theorem CJ(A:G6 G S a w)(r:Bool):bV (.ob a.nR) (.str (aR r)) S=.ok (.ob (a.rn r)) S:=by
 unfold bV;have h:dN S a.nR=some [(.inr "there",.ob a.nT),(.inr "back",.ob a.nB)]:=by unfold dN;rw[A.rd]
 cases r with
 |true=>
  have:eR [(.inr "there",.ob a.nT),(.inr "back",.ob a.nB)] (.inr "there")=some (.ob a.nT):=by
   unfold eR;rw[List.find?_cons];simp
  simp only[gK,h,aR,if_true,this];rfl
 |false=>
  have e:decide ((Sum.inr ("there":Str):Key)=Sum.inr ("back":Str))=false:=by decide +kernel
  have:eR [(.inr "there",.ob a.nT),(.inr "back",.ob a.nB)] (.inr "back")=some (.ob a.nB):=by
   unfold eR;rw[List.find?_cons,e];simp
  simp only[gK,h,aR,this,Bool.false_eq_true,if_false];rfl
theorem o8(A:G6 G S a w)(r:Bool)(rest:o_):f_ bV (aA G.World k_ 2 (aa 0)) (aa 1) (some (.ob a.n) :: some (.str (aR r)) :: rest) S=.ok (.ob (a.rn r)) S:=
 ar (bK rfl A.ob rfl) rfl (CJ A r)
theorem tH(A:G6 G S a w)(r:Bool)(k:Nat):bf G [.ob a.n,.str (aR r),.int (k:Int)] S=.ok (.bl (decide (k<(w.road r).length))) S:=by
 show fin S (fP G [some (.ob a.n),some (.str (aR r)),some (.int (k:Int))] S)=_;unfold fP;have e1:am bG (ac (f_ bV (aA G.World k_ 2 (aa 0)) (aa 1)) ai) [some (.ob a.n),some (.str (aR r)),some (.int (k:Int))] S=.ok (.int ((w.road r).length:Int)) S:=by
  refine ay (ag (o8 A r _) aj) ?_;rw[j7 (A.cell r),List.length_map]
 rw[aP (d:=.bl (decide (k<(w.road r).length))) (S1:=S)]
 ·rfl
 ·rw[Ak,aw];simp only[uo];rw[aw];show(((LZ (.int 0) (.int (k:Int))).bind OQ).bind _) S=_;rw[aw,aw,xL,decide_eq_true (show(0:Int)<=(k:Int) by omega)];simp only[Dz,if_true];rw[aw,e1];simp only[rO];congr 2;rw[decide_eq_decide];omega
theorem wM(A:G6 G S a w)(r:Bool){l:Nat}{cs:List x_}(hl:S[l]?=some (.lst (cs.map l_)))(We:l≠a.rn r)(hc:∀c,c∈cs->IF c)(hz:(w.road r).length+cs.length<=1000000) :
  ∃S',ca G [.ob a.n,.str (aR r),.ob l] S=.ok .B_ S'/\GV G a S a S' (w.Fc r (w.road r++cs.map gd)):=by
 show ∃S',fin S (eZ G [some (.ob a.n),some (.str (aR r)),some (.ob l),none] S)=_/\_;unfold eZ;have hw:Hd (aa 2) [some (.ob a.n),some (.str (aR r)),some (.ob l),none] S=.ok ⟨cs.map l_,some (l,cs.map l_)⟩ S:=by
  rw[jY,aw];show iC (.ob l) S=_;simp only[iC,hl]
 obtain⟨r',S',q,x3,rfl,k,_⟩:=eN (g:=some (l,cs.map l_)) (tg:=gN 3) (b:=ei G)
  (fun i r' S'=>∃x3,r'=[some (.ob a.n),some (.str (aR r)),some (.ob l),x3]/\GV G a S a S' (w.Fc r (w.road r++(cs.take i).map gd))/\S'[l]?=some (.lst (cs.map l_))) (cs.map l_) 0 [some (.ob a.n),some (.str (aR r)),some (.ob l),none] S
  (by
   rintro i y r' S' hy ⟨x3,rfl,k,Wf⟩;rw[List.getElem?_map] at hy;cases hp:cs[i]? with
   |none=>rw[hp] at hy;cases hy
   |some c=>
    rw[hp] at hy;cases hy;rw[Nat.zero_add] at k ⊢;have OR:=(List.getElem?_eq_some_iff.mp hp).1;have EI:=hc c (List.mem_of_getElem? hp);have k':=k.at_;have EZ:=k'.cell r;rw[yF] at EZ;obtain⟨S2,e2,c2⟩:=tO (fo:=f_ bV (aA G.World k_ 2 (aa 0)) (aa 1)) (ft:=ac (cf (ac (am (cP G) (ac (aa 3) ai)) (ac (dC (.bl false)) ai))) ai) (r:=[some (.ob a.n),some (.str (aR r)),some (.ob l),some (l_ c)]) (d:=FH (gd c))
     (o8 k' r _) EZ (ag (bQ (ag (ay (ag rfl aj) (qG EI _)) (ag rfl aj)) (by simp)) aj) (by rw[List.length_map,List.length_append,List.length_map,List.length_take];omega)
    have c3:Ch (a.rn r) (.lst ((w.road r++(cs.take (i+1)).map gd).map FH)) S' S2:=by
     have e:(w.road r++(cs.take (i+1)).map gd).map FH=(w.road r++(cs.take i).map gd).map FH++[FH (gd c)]:=by rw[List.take_add_one,hp];simp
     rw[e];exact c2
    have kk:=k.trans (k'.QE r c3);have HP:(w.Fc r (w.road r++(cs.take i).map gd)).Fc r (w.road r++(cs.take (i+1)).map gd)=w.Fc r (w.road r++(cs.take (i+1)).map gd):=by cases r<;>rfl
    rw[HP] at kk;refine⟨[some (.ob a.n),some (.str (aR r)),some (.ob l),some (l_ c)],[some (.ob a.n),some (.str (aR r)),some (.ob l),some (l_ c)],S2,rfl,?_,c3.old Wf (Ne.symm We),some (l_ c),rfl,kk,c3.old Wf (Ne.symm We)⟩;unfold ei;exact bc e2)
  ⟨none,rfl,by
   have:w.Fc r (w.road r++(cs.take 0).map gd)=w:=by cases r<;>simp[WW.Fc,WW.road]
   rw[this];exact GV.refl A,hl⟩
 rw[show 0+(cs.map l_).length=cs.length by simp,List.take_length] at k;refine⟨S',?_,k⟩;rw[mO hw,q];rfl
theorem AB(A:G6 G S a w)(K:Ge N w)(hN:N<20000){m:GS}(hm:m.length<=40):∃S' a',iQ G [.ob a.n,E3 m] S=.ok .B_ S'/\GV G a S a' S' (w.act (.hand m)):=by
 obtain⟨S',e,k⟩:=wV A.sr K.sb hN hm;refine⟨S',_,?_,A.snd k⟩;show fin S (jP G [some (.ob a.n),some (E3 m)] S)=_;unfold jP;rw[bc (aS (bK rfl A.ob rfl) A.sr.ob (ag rfl aj) e)];rfl
theorem zQ(A:G6 G S a w)(K:Ge N w)(hN:N<=20000):∃S' a',gY G [.ob a.n] S=.ok .B_ S'/\GV G a S a' S' (w.act .start):=by
 obtain⟨S',p',q',e,k⟩:=uL A.sr K.sb hN;refine⟨S',_,?_,A.snd k⟩;show fin S (jr G [some (.ob a.n)] S)=_;unfold jr;rw[bc (aS (bK rfl A.ob rfl) A.sr.ob aj e)];rfl
theorem Be(A:G6 G S a w)(r:Bool):∃S' a',iL G [.ob a.n,.str (if r then "sender" else "hearer")] S=.ok .B_ S'/\GV G a S a' S' (w.act (.Fz r)):=by
 cases r with
 |true=>
  obtain⟨S',e,k⟩:=xw A.sr;refine⟨S',_,?_,A.snd k⟩;show fin S (fw G [some (.ob a.n),some (.str "sender")] S)=_;unfold fw;rw[ax (by rw[aQ (az (ar rfl rfl bi))];exact bc (aS (bK rfl A.ob rfl) A.sr.ob aj e)),av (az (ar rfl rfl bi))];rfl
 |false=>
  obtain⟨S',e',b',e,k⟩:=xg A.hr;refine⟨S',_,?_,A.QC k⟩;show fin S (fw G [some (.ob a.n),some (.str "hearer")] S)=_;unfold fw;rw[ax (by rw[av (az (ar rfl rfl bi))];rfl),aQ (az (ar rfl rfl bi)),bc (aS (bK rfl A.ob rfl) A.hr.ob aj e)];rfl
theorem AU(A:G6 G S a w)(K:Ge N w)(hN:N<=20000):∃S' a',iJ G [.ob a.n] S=.ok .B_ S'/\GV G a S a' S' (w.act .tick):=by
 have hp:=K.sb.pl;obtain⟨S1,l,e,k,hl,GJ⟩:=xh A.sr K.w0 (by omega) (fun _=>K.bl);have k1:=A.snd k;obtain⟨t1,t2⟩:=uj K hN;have tl:=K.tl;have PL:l≠a.nT:=fun z=>by have:=aT A.tt;omega
 obtain⟨S2,e2,k2⟩:=wM k1.at_ true hl PL (fun c hc=>(t1 c hc).1) (by show w.T.length+_<=_;omega);refine⟨S2,_,?_,k1.trans k2⟩;show fin S (jN G [some (.ob a.n)] S)=_;unfold jN;rw[bc (aS rfl A.ob (ag rfl (ag (aS (bK rfl A.ob rfl) A.sr.ob aj e) aj)) e2)];rfl
theorem yb(A:G6 G S a w)(K:Ge N w)(hN:N<20000)(r:Bool){e:En}(he:Mh N e):∃S' a',gi G [.ob a.n,.str (aR r),.tup (e.xs.map D.int)] S=.ok .B_ S'/\GV G a S a' S' (w.GU r e):=by
 show ∃S' a',fin S (iD G [some (.ob a.n),some (.str (aR r)),some (.tup (e.xs.map D.int)),none] S)=_/\_;unfold iD;obtain⟨c,x⟩:=e;cases x with
 |some xs=>
  have MC:=xF (G:=G) (xs:=xs) (Nat.le_trans he.2.2.1 (by decide)) (he.2.2.2 xs rfl) S;have t1:pG [G.Ff] (cj (am (gJ G) (ac (aa 2) ai)) (gN 3)) (cj (dC .B_) (gN 3)) [some (.ob a.n),some (.str (aR r)),some (.tup (xs.map D.int)),none] S=some (.nx [some (.ob a.n),some (.str (aR r)),some (.tup (xs.map D.int)),some .B_],S):=by
   have e3:cj (am (gJ G) (ac (aa 2) ai)) (gN 3) [some (.ob a.n),some (.str (aR r)),some (.tup (xs.map D.int)),none] S=some (.xc G.Ff [some (.ob a.n),some (.str (aR r)),some (.tup (xs.map D.int)),none],S):=by
    unfold cj;rw[pV,ay (ag rfl aj) MC]
   unfold pG;rw[e3];simp[SI]
  have t2:∀(k:Str),dg (ao (f_ iE (aa 3) (dC .B_))) (ao (f_ EE (aa 1) (dC (.str k)))) [some (.ob a.n),some (.str (aR r)),some (.tup (xs.map D.int)),some .B_] S=.ok false S:=fun k=>rfl
  refine⟨S,a,?_,GV.refl A⟩;show fin S (aN _ _ [some (.ob a.n),some (.str (aR r)),some (.tup (xs.map D.int)),none] S)=_;rw[ax t1,ax (by rw[av (t2 _)];rfl),av (t2 _)];rfl
 |none=>
  have EI:IF c:=he.1;have MC:=wW (G:=G) EI S;have t1:pG [G.Ff] (cj (am (gJ G) (ac (aa 2) ai)) (gN 3)) (cj (dC .B_) (gN 3)) [some (.ob a.n),some (.str (aR r)),some (.tup ((FR (aB c)).map D.int)),none] S=some (.nx [some (.ob a.n),some (.str (aR r)),some (.tup ((FR (aB c)).map D.int)),some (l_ c)],S):=by
   unfold pG;rw[bB (ay (ag rfl aj) MC)];rfl
  have nn:∀T,ao (f_ iE (aa 3) (dC .B_)) [some (.ob a.n),some (.str (aR r)),some (.tup ((FR (aB c)).map D.int)),some (l_ c)] T=.ok true T:=fun T=>by cases c<;>rfl
  show ∃S' a',fin S (aN _ _ [some (.ob a.n),some (.str (aR r)),some (.tup ((FR (aB c)).map D.int)),none] S)=_/\_;rw[ax t1];cases r with
  |true=>
   have y1:∀T,dg (ao (f_ iE (aa 3) (dC .B_))) (ao (f_ EE (aa 1) (dC (.str "there")))) [some (.ob a.n),some (.str (aR true)),some (.tup ((FR (aB c)).map D.int)),some (l_ c)] T=.ok true T:=fun T=>by
    rw[cK,aw,nn];exact az (ar rfl rfl (show EE (.str "there") (.str "there") T=.ok (.bl true) T from bi))
   have y2:∀T,dg (ao (f_ iE (aa 3) (dC .B_))) (ao (f_ EE (aa 1) (dC (.str "back")))) [some (.ob a.n),some (.str (aR true)),some (.tup ((FR (aB c)).map D.int)),some (l_ c)] T=.ok false T:=fun T=>by
    rw[cK,aw,nn];exact az (ar rfl rfl (show EE (.str "there") (.str "back") T=.ok (.bl false) T from bi))
   obtain⟨S1,e',b',l,q1,k1,o1⟩:=vq A.hr (by rw[K.hw];exact K.w0) (by rw[K.hw];have:=K.w7;omega) K.bd hN EI.Pb;have k2:=A.QC k1;obtain⟨h1,h2,h3⟩:=qf K (by omega) EI he.2.1;have ql:=K.ql;have PL:l≠a.nB:=fun z=>by have:=aT A.bb;have:=o1.new;omega
   obtain⟨S2,q2,k3⟩:=wM k2.at_ false o1.at_ PL (fun d hd=>(h1 d hd).1) (by show w.B.length+_<=_;omega);refine⟨S2,_,?_,k2.trans k3⟩;rw[ax (by rw[aQ (y1 _)];exact bc (aS rfl A.ob (ag rfl (ag (aS (bK rfl A.ob rfl) A.hr.ob (ag rfl aj) q1) aj)) q2)),av (y2 _)];rfl
  |false=>
   have y1:∀T,dg (ao (f_ iE (aa 3) (dC .B_))) (ao (f_ EE (aa 1) (dC (.str "there")))) [some (.ob a.n),some (.str (aR false)),some (.tup ((FR (aB c)).map D.int)),some (l_ c)] T=.ok false T:=fun T=>by
    rw[cK,aw,nn];exact az (ar rfl rfl (show EE (.str "back") (.str "there") T=.ok (.bl false) T from bi))
   have y2:∀T,dg (ao (f_ iE (aa 3) (dC .B_))) (ao (f_ EE (aa 1) (dC (.str "back")))) [some (.ob a.n),some (.str (aR false)),some (.tup ((FR (aB c)).map D.int)),some (l_ c)] T=.ok true T:=fun T=>by
    rw[cK,aw,nn];exact az (ar rfl rfl (show EE (.str "back") (.str "back") T=.ok (.bl true) T from bi))
   obtain⟨S1,p',q',l,e1,k1,hl,GJ⟩:=uU A.sr K.sb (by omega) K.w0 EI.Ld;have k2:=A.snd k1;have PL:l≠a.nT:=fun z=>by have:=aT A.tt;omega
   obtain⟨S2,q2,k3⟩:=wM (cs:=[]) k2.at_ true hl PL (fun d hd=>by simp at hd) (by have:=K.tl;show w.T.length+_<=_;simp;omega);refine⟨S2,{ a with pS:=p',qS:=q' },?_,?_⟩
   ·rw[ax (by rw[av (y1 _)];rfl),aQ (y2 _),bc (aS rfl A.ob (ag rfl (ag (aS (bK rfl A.ob rfl) A.sr.ob (ag rfl aj) e1) aj)) q2)];rfl
   ·have k4:=k2.trans k3;have:({ w with s:=w.s.s_ c }:WW).Fc true (({ w with s:=w.s.s_ c }:WW).road true++([]:List x_).map gd)=w.GU false ⟨c,none⟩:=by
     show({ s:=w.s.s_ c,h:=w.h,T:=w.T++[],B:=w.B }:WW)=_;rw[List.append_nil];rfl
    rw[this] at k4;exact k4
end
end Lw
namespace Lw
open PySem L2 DL
section
variable{G:Cs}{S S' S1 S2:List Cell}{a a' a1 a2:Ad}{w w' w1 w2:WW}{N:Nat}
theorem BE{n:Nat}{xs:List D}{k:Nat}{d:D}(hn:S[n]?=some (.lst xs))(hk:xs[k]?=some d):vY (.ob n) [.int (k:Int)] S=.ok d (S.set n (.lst (xs.eraseIdx k))):=by
 have Iw:=(List.getElem?_eq_some_iff.mp hk).1;unfold vY;simp only[cc hn];rw[cg ⟨by omega,by omega⟩,Int.toNat_natCast];simp only[hk]
theorem AX(A:G6 G S a w)(K:Ge N w)(hN:N<20000)(r:Bool):∃S' a',iH G [.ob a.n,.str (aR r)] S=.ok .B_ S'/\GV G a S a' S' (w.act (.step r)):=by
 show ∃S' a',fin S (jH G [some (.ob a.n),some (.str (aR r))] S)=_/\GV G a S a' S' (w.step r);unfold jH;have t1:bW (aV G.World k_ (bf G) (aa 0) (ac (aa 1) (ac (dC (.int 0)) ai))) [some (.ob a.n),some (.str (aR r))] S=.ok (decide (0<(w.road r).length)) S:=by
  rw[cU,aw,aS rfl A.ob (ag rfl (ag rfl aj)) (tH A r 0)];rfl
 unfold WW.step;cases hr:w.road r with
 |nil=>
  rw[hr] at t1;refine⟨S,a,?_,GV.refl A⟩;rw[av t1];rfl
 |cons e l=>
  rw[hr,decide_eq_true (by simp)] at t1;have EZ:=A.cell r;rw[hr] at EZ;have hk:=K.rd r e (by rw[hr];exact List.mem_cons_self);have hp:=BE (k:=0) (d:=FH e) EZ rfl;have Sz:((e :: l).map FH).eraseIdx 0=l.map FH:=rfl;rw[Sz] at hp;have c1:Ch (a.rn r) (.lst (l.map FH)) S (S.set (a.rn r) (.lst (l.map FH))):=Ch.set EZ;have k1:=A.QE r c1;have K1:Ge N (w.Fc r l):=by
   have h1:=K.rd r;have h2:=K.rl r;rw[hr] at h1 h2;rw[List.length_cons] at h2;exact K.Fc r (fun d hd=>h1 d (List.mem_cons_of_mem _ hd)) (by omega)
  obtain⟨S2,a2,e2,k2⟩:=yb k1.at_ K1 hN r hk;refine⟨S2,a2,?_,k1.trans k2⟩;have e1:f_ t_ (Ij vY (f_ bV (aA G.World k_ 2 (aa 0)) (aa 1)) (ac (dC (.int 0)) ai)) (dC (.int 0)) [some (.ob a.n),some (.str (aR r))] S=.ok (.tup (e.xs.map D.int)) (S.set (a.rn r) (.lst (l.map FH))):=
   ar (mH (o8 A r _) EZ (ag rfl aj) hp) rfl (aL (i:=0) rfl)
  rw[aQ t1,bc (aS rfl A.ob (ag rfl (ag e1 aj)) e2)];rfl
theorem AO(A:G6 G S a w)(r:Bool)(k:Nat):∃S' a',iN G [.ob a.n,.str (aR r),.int (k:Int)] S=.ok .B_ S'/\GV G a S a' S' (w.act (.MY r k)):=by
 show ∃S' a',fin S (jL G [some (.ob a.n),some (.str (aR r)),some (.int (k:Int))] S)=_/\GV G a S a' S' (w.Fc r ((w.road r).eraseIdx k));unfold jL;have t1:bW (aV G.World k_ (bf G) (aa 0) (ac (aa 1) (ac (aa 2) ai))) [some (.ob a.n),some (.str (aR r)),some (.int (k:Int))] S=.ok (decide (k<(w.road r).length)) S:=by
  rw[cU,aw,aS rfl A.ob (ag rfl (ag rfl aj)) (tH A r k)];rfl
 by_cases hk:k<(w.road r).length
 ·rw[decide_eq_true hk] at t1;have EZ:=A.cell r;obtain⟨e,he⟩:∃e,(w.road r)[k]?=some e:=⟨_,List.getElem?_eq_getElem hk⟩;have hp:=BE (k:=k) (d:=FH e) EZ (by rw[List.getElem?_map,he];rfl);rw[tp] at hp;have k1:=A.QE (l:=(w.road r).eraseIdx k) r (Ch.set EZ);refine⟨_,a,?_,k1⟩;rw[aQ t1,bc (mH (o8 A r _) EZ (ag rfl aj) hp)];rfl
 ·rw[decide_eq_false hk] at t1;refine⟨S,a,?_,?_⟩
  ·rw[av t1];rfl
  ·rw[List.eraseIdx_of_length_le (by omega)];have:w.Fc r (w.road r)=w:=by cases r<;>rfl
   rw[this];exact GV.refl A
theorem kS{α:Type}:∀(l:List α) (k:Nat) (x:α),k<=l.length->l.insertIdx k x=l.take k++x :: l.drop k
 |l,0,x,_=>by simp
 |[],k+1,x,h=>by simp at h
 |y :: l,k+1,x,h=>by
  rw[List.insertIdx_succ_cons,kS l k x (by simpa using h)];rfl
theorem CM(A:G6 G S a w)(K:Ge N w)(hN:N<=20000)(r:Bool)(k:Nat):∃S' a',gf G [.ob a.n,.str (aR r),.int (k:Int)] S=.ok .B_ S'/\GV G a S a' S' (w.act (.dbl r k)):=by
 show ∃S' a',fin S (iB G [some (.ob a.n),some (.str (aR r)),some (.int (k:Int))] S)=_/\GV G a S a' S' (w.Fc r (rP (w.road r) k));unfold iB;have t1:bW (aV G.World k_ (bf G) (aa 0) (ac (aa 1) (ac (aa 2) ai))) [some (.ob a.n),some (.str (aR r)),some (.int (k:Int))] S=.ok (decide (k<(w.road r).length)) S:=by
  rw[cU,aw,aS rfl A.ob (ag rfl (ag rfl aj)) (tH A r k)];rfl
 have hl:=K.rl r;unfold rP;by_cases hk:k<(w.road r).length
 ·rw[decide_eq_true hk] at t1;have EZ:=A.cell r;obtain⟨e,he⟩:∃e,(w.road r)[k]?=some e:=⟨_,List.getElem?_eq_getElem hk⟩;rw[he];have Pg:f_ t_ (f_ bV (aA G.World k_ 2 (aa 0)) (aa 1)) (aa 2) [some (.ob a.n),some (.str (aR r)),some (.int (k:Int))] S=.ok (FH e) S:=ar (o8 A r _) rfl (gg EZ (by rw[List.getElem?_map,he];rfl));have Mf:uK (.ob (a.rn r)) [.int (k:Int),FH e] S=.ok .B_ (S.set (a.rn r) (.lst (((w.road r).insertIdx k e).map FH))):=by
   unfold uK;simp only[cc EZ];rw[cg ⟨⟨by omega,by rw[List.length_map];omega⟩,by rw[List.length_map];exact Ms (show(w.road r).length<=1000000 by omega)⟩,Int.toNat_natCast,kS _ _ _ (by omega),List.map_append,List.map_cons,List.map_take,List.map_drop]
  have k1:=A.QE (l:=(w.road r).insertIdx k e) r (Ch.set EZ);refine⟨_,a,?_,k1⟩;rw[aQ t1,bc (mH (o8 A r _) EZ (ag rfl (ag Pg aj)) Mf)];rfl
 ·rw[decide_eq_false hk] at t1;rw[List.getElem?_eq_none (by omega)];refine⟨S,a,?_,?_⟩
  ·rw[av t1];rfl
  ·have:w.Fc r (w.road r)=w:=by cases r<;>rfl
   show GV G a S a S (w.Fc r (w.road r));rw[this];exact GV.refl A
theorem wa{xs:List Int}(hx:0<xs.length)(hl:xs.length<=1000)(place:Nat)(Ga:Int)(S:List Cell):kc [.tup (xs.map D.int),.int (place:Int),.int Ga] S=.ok (.tup ((xs.set (place % xs.length) ((xs.getD (place % xs.length) 0+Ga) % 256)).map D.int)) S:=by
 show cY S (m0 [some (.tup (xs.map D.int)),some (.int (place:Int)),some (.int Ga),none,none] S)=_;unfold m0;rw[ax (bB (d:=.ob S.length) (S1:=S++[.lst (xs.map D.int)]) (ay (ag rfl aj) rfl))];show cY S (aN _ _ [some (.tup (xs.map D.int)),some (.int (place:Int)),some (.int Ga),some (.ob S.length),none] (S++[.lst (xs.map D.int)]))=_;obtain⟨i,hi⟩:∃i,place % xs.length=i:=⟨_,rfl⟩;have Iw:i<xs.length:=by rw[<-hi];exact Nat.mod_lt _ hx
 have e1:f_ jo (aa 1) (am bG (ac (aa 3) ai)) [some (.tup (xs.map D.int)),some (.int (place:Int)),some (.int Ga),some (.ob S.length),none] (S++[.lst (xs.map D.int)])=.ok (.int (i:Int)) (S++[.lst (xs.map D.int)]):=by
  refine ar rfl (ay (ag rfl aj) (j7 aW)) ?_;rw[List.length_map,cS (by omega),<-hi];congr 2
 rw[ax (bB e1),hi];show cY S (aN _ _ [some (.tup (xs.map D.int)),some (.int (place:Int)),some (.int Ga),some (.ob S.length),some (.int (i:Int))] (S++[.lst (xs.map D.int)]))=_;have hg:xs[i]?=some (xs.getD i 0):=by rw[List.getD_eq_getElem?_getD,List.getElem?_eq_getElem Iw];rfl
 obtain⟨v,hv⟩:∃v,(xs.getD i 0+Ga) % 256=v:=⟨_,rfl⟩;have e2:f_ jo (f_ bJ (f_ t_ (aa 3) (aa 4)) (aa 2)) (dC (.int 256)) [some (.tup (xs.map D.int)),some (.int (place:Int)),some (.int Ga),some (.ob S.length),some (.int (i:Int))] (S++[.lst (xs.map D.int)])=.ok (.int v) (S++[.lst (xs.map D.int)]):=by
  refine ar (ar (ar rfl rfl (gg aW (by rw[List.getElem?_map,hg];rfl))) rfl (cw _ _)) rfl ?_;rw[cS (by decide),hv]
 have HP:∀a c:Cell,(S++[a]).set S.length c=S++[c]:=fun a c=>by rw[List.set_append_right _ _ (Nat.le_refl _)];simp
 have e3:k9 (.ob S.length) (.int (i:Int)) (.int v) (S++[.lst (xs.map D.int)])=some (S++[.lst ((xs.set i v).map D.int)]):=by
  have Pg:Lm (xs.map D.int).length (i:Int)=some i:=by
   unfold Lm;rw[List.length_map];simp;omega
  simp only[k9,cc aW,Pg,HP];rw[List.map_set]
 rw[hv,ax (lI e2 rfl rfl e3),aP (ay (ag rfl aj) (dR aW))];exact lX (by unfold FY;exact dB _ _)
theorem y6(A:G6 G S a w)(K:Ge N w)(hN:N<=20000)(r:Bool)(k place:Nat)(Ga:Int):∃S' a',gR G [.ob a.n,.str (aR r),.int (k:Int),.int (place:Int),.int Ga] S=.ok .B_ S'/\GV G a S a' S' (w.act (.Lf r k place Ga)):=by
 show ∃S' a',fin S (jb G [some (.ob a.n),some (.str (aR r)),some (.int (k:Int)),some (.int (place:Int)),some (.int Ga)] S)=_/\GV G a S a' S' (w.Fc r (kg (w.road r) k place Ga));unfold jb;obtain⟨rr,KU⟩:∃rr:o_,[some (.ob a.n),some (.str (aR r)),some (.int (k:Int)),some (.int (place:Int)),some (.int Ga)]=rr:=⟨_,rfl⟩;have t1:bW (aV G.World k_ (bf G) (aa 0) (ac (aa 1) (ac (aa 2) ai))) rr S=.ok (decide (k<(w.road r).length)) S:=by
  rw[<-KU,cU,aw,aS rfl A.ob (ag rfl (ag rfl aj)) (tH A r k)];rfl
 have same:w.Fc r (w.road r)=w:=by cases r<;>rfl
 have EZ:=A.cell r;have rd:f_ bV (aA G.World k_ 2 (aa 0)) (aa 1) rr S=.ok (.ob (a.rn r)) S:=by rw[<-KU];exact o8 A r _
 have v2:aa 2 rr S=.ok (.int (k:Int)) S:=by rw[<-KU];rfl
 have v3:aa 3 rr S=.ok (.int (place:Int)) S:=by rw[<-KU];rfl
 have v4:aa 4 rr S=.ok (.int Ga) S:=by rw[<-KU];rfl
 rw[KU];unfold kg;by_cases hk:k<(w.road r).length
 ·rw[decide_eq_true hk] at t1;obtain⟨e,he⟩:∃e,(w.road r)[k]?=some e:=⟨_,List.getElem?_eq_getElem hk⟩;rw[he];have EI:=K.rd r e (List.mem_of_getElem? he);have ent:f_ t_ (f_ bV (aA G.World k_ 2 (aa 0)) (aa 1)) (aa 2) rr S=.ok (FH e) S:=ar rd v2 (gg EZ (by rw[List.getElem?_map,he];rfl));have t2:bW (f_ t_ (f_ t_ (f_ bV (aA G.World k_ 2 (aa 0)) (aa 1)) (aa 2)) (dC (.int 1))) rr S=.ok e.x.isSome S:=by
   rw[cU,aw,ar ent rfl (aL (i:=1) rfl)];rfl
  have t3:ao (f_ Gr (f_ jo (aa 4) (dC (.int 256))) (dC (.int 0))) rr S=.ok (!decide (Ga % 256=0)) S:=az (ar (ar v4 rfl (cS (by decide))) rfl (gs _ _));have t4:dg (bW (aV G.World k_ (bf G) (aa 0) (ac (aa 1) (ac (aa 2) ai)))) (dg (dc (bW (f_ t_ (f_ t_ (f_ bV (aA G.World k_ 2 (aa 0)) (aa 1)) (aa 2)) (dC (.int 1))))) (ao (f_ Gr (f_ jo (aa 4) (dC (.int 256))) (dC (.int 0))))) rr S=.ok (!e.x.isSome && !decide (Ga % 256=0)) S:=by
   rw[cK,aw,t1];show dg _ _ rr S=_;rw[cK,aw,da,aw,t2];cases e.x.isSome with
   |true=>rfl
   |false=>exact t3
  obtain⟨c,x⟩:=e;cases x with
  |some xs=>
   refine⟨S,a,?_,?_⟩
   ·rw[av t4];rfl
   ·have:(w.road r).set k (eo ⟨c,some xs⟩ place Ga)=w.road r:=by
     show(w.road r).set k ⟨c,some xs⟩=_;obtain⟨h1,h2⟩:=List.getElem?_eq_some_iff.mp he;rw[<-h2,List.set_getElem_self]
    dsimp only;rw[this,same];exact GV.refl A
  |none=>
   by_cases hb:Ga % 256=0
   ·rw[decide_eq_true hb] at t4;refine⟨S,a,?_,?_⟩
    ·rw[av t4];rfl
    ·have:(w.road r).set k (eo ⟨c,none⟩ place Ga)=w.road r:=by
      unfold eo;dsimp only;rw[if_pos hb];obtain⟨h1,h2⟩:=List.getElem?_eq_some_iff.mp he;rw[<-h2,List.set_getElem_self]
     dsimp only;rw[this,same];exact GV.refl A
   ·rw[decide_eq_false hb] at t4;have L_:=fO EI.1;have Rh:0<((⟨c,none⟩:En).xs).length:=by show 0<(FR (aB c)).length;rw[md];omega
    have Mo:eo ⟨c,none⟩ place Ga=⟨c,some (((⟨c,none⟩:En).xs).set (place % ((⟨c,none⟩:En).xs).length) ((((⟨c,none⟩:En).xs).getD (place % ((⟨c,none⟩:En).xs).length) 0+Ga) % 256))⟩:=by
     unfold eo;dsimp only;rw[if_neg hb]
    have Mm:=wa Rh (Nat.le_trans EI.2.2.1 (by decide)) place Ga S;have e5:cf (ac (am kc (ac (f_ t_ (f_ t_ (f_ bV (aA G.World k_ 2 (aa 0)) (aa 1)) (aa 2)) (dC (.int 0))) (ac (aa 3) (ac (aa 4) ai)))) (ac (dC (.bl true)) ai)) rr S=.ok (FH (eo ⟨c,none⟩ place Ga)) S:=by
     rw[Mo];exact bQ (ag (ay (ag (ar ent rfl (aL (i:=0) rfl)) (ag v3 (ag v4 aj))) Mm) (ag rfl aj)) (by simp)
    have e6:k9 (.ob (a.rn r)) (.int (k:Int)) (FH (eo ⟨c,none⟩ place Ga)) S=some (S.set (a.rn r) (.lst (((w.road r).set k (eo ⟨c,none⟩ place Ga)).map FH))):=by
     have Pg:Lm ((w.road r).map FH).length (k:Int)=some k:=by
      unfold Lm;rw[List.length_map];simp;omega
     simp only[k9,cc EZ,Pg];rw[List.map_set]
    have k1:=A.QE (l:=(w.road r).set k (eo ⟨c,none⟩ place Ga)) r (Ch.set EZ);refine⟨_,a,?_,k1⟩;rw[aQ t4,lI e5 rd v2 e6];rfl
 ·rw[decide_eq_false hk] at t1;rw[List.getElem?_eq_none (by omega)];refine⟨S,a,?_,?_⟩
  ·rw[av (by rw[cK,aw,t1];rfl)];rfl
  ·dsimp only;rw[same];exact GV.refl A
end
end Lw
namespace Lw
open PySem L2 DL
def cv(ns:List Int)(k:Nat):Int:=ns.getD k 0
theorem ub{ns:List Int}{k:Nat}(S:List Cell):bS [.FC (ns.map D.int),.int k] S=.ok (.int (cv ns k)) S:=by
 unfold cv;by_cases h:k<ns.length
 ·have e1:KR (ns.map D.int) (k:Int)=some (.int (ns.getD k 0)):=ui (by simp[List.getD,h]);simp[bS,kD,bG,iq,t_,e1,h]
 ·have e1:ns.getD k 0=0:=by simp[List.getD,h]
  simp[bS,kD,bG,iq,t_,e1,h]
theorem CV{ns:List Int}(S:List Cell):bS [.FC (ns.map D.int),.int 0] S=.ok (.int (cv ns 0)) S:=ub (k:=0) S
theorem wY{ns:List Int}(S:List Cell):bS [.FC (ns.map D.int),.int 1] S=.ok (.int (cv ns 1)) S:=ub (k:=1) S
theorem Dc{ns:List Int}(S:List Cell):bS [.FC (ns.map D.int),.int 2] S=.ok (.int (cv ns 2)) S:=ub (k:=2) S
end Lw
namespace Lw
open PySem L2 DL
theorem Cn{a p m:Int}(hp:0<p)(hm:0<m)(S:List Cell):aC [.int a,.int p,.int m] S=.ok (.int (a * 48271 % p % m)) S:=by
 have h1:L7 a 48271:=.inr ⟨by decide,by decide⟩;simp[aC,pd,iR h1,cS hp,cS hm]
def mx(a:Int)(p m:Nat):Nat:=(a * 48271 % p % m).toNat
theorem ly(a:Int){p m:Nat}(hm:0<m):mx a p m<m:=by
 unfold mx;have h1:=Int.emod_nonneg (a * 48271 % p) (show(m:Int)≠0 by omega);have h2:=Int.emod_lt_of_pos (a * 48271 % p) (show(0:Int)<m by omega);omega
theorem xK(a:Int){p m:Nat}(hp:0<p)(hm:0<m)(S:List Cell):aC [.int a,.int (p:Int),.int (m:Int)] S=.ok (.int (mx a p m:Nat)) S:=by
 rw[Cn (by omega) (by omega)];unfold mx;have h1:=Int.emod_nonneg (a * 48271 % p) (show(m:Int)≠0 by omega);rw[Int.toNat_of_nonneg h1]
theorem gP{f:o_->M D}{r:o_}{S:List Cell}{a:Int}(p m:Nat)(hf:f r S=.ok (.int a) S)(hp:0<p:=by decide)(hm:0<m:=by decide):am aC (ac f (ac (dC (.int (p:Int))) (ac (dC (.int (m:Int))) ai))) r S=.ok (.int (mx a p m:Nat)) S:=
 ay (ag hf (ag rfl (ag rfl aj))) (xK a hp hm S)
end Lw
namespace Lw
open PySem L2 DL
def I_(ns:List Int):Nat:=1+mx (cv ns 0) 9883 7
def Jx(ns:List Int):Nat:=1+mx (cv ns 1) 9871 8
theorem Ay(ns:List Int):0<I_ ns:=by unfold I_;omega
theorem Cg(ns:List Int):I_ ns<=7:=by
 have:=ly (cv ns 0) (p:=9883) (m:=7) (by decide);unfold I_;omega
theorem Bi(ns:List Int):1<=Jx ns:=by unfold Jx;omega
theorem BV(ns:List Int):Jx ns<=8:=by
 have:=ly (cv ns 1) (p:=9871) (m:=8) (by decide);unfold Jx;omega
theorem vQ(ns:List Int)(S:List Cell):gj [.FC (ns.map D.int)] S=.ok (.tup [.int (I_ ns:Int),.int (Jx ns:Int)]) S:=by
 show fin S (ii [some (.FC (ns.map D.int)),none,none] S)=_;unfold ii;have w1:f_ bJ (dC (.int 1)) (am aC (ac (am bS (ac (aa 0) (ac (dC (.int 0)) ai))) (ac (dC (.int 9883)) (ac (dC (.int 7)) ai)))) [some (.FC (ns.map D.int)),none,none] S=.ok (.int (I_ ns:Int)) S:=by
  refine ar rfl (gP 9883 7 (ay (ag rfl (ag rfl aj)) (CV S))) ?_;rw[cw];unfold I_;congr 2
 rw[ax (bB w1)];show fin S (aN _ _ [some (.FC (ns.map D.int)),some (.int (I_ ns:Int)),none] S)=_;have w2:f_ bJ (dC (.int 1)) (am aC (ac (am bS (ac (aa 0) (ac (dC (.int 1)) ai))) (ac (dC (.int 9871)) (ac (dC (.int 8)) ai)))) [some (.FC (ns.map D.int)),some (.int (I_ ns:Int)),none] S=.ok (.int (Jx ns:Int)) S:=by
  refine ar rfl (gP 9871 8 (ay (ag rfl (ag rfl aj)) (wY S))) ?_;rw[cw];unfold Jx;congr 2
 rw[ax (bB w2),aP (bQ (ag rfl (ag rfl aj)) (by simp))];rfl
theorem AI{fe:o_->M D}{r:o_}{S S1:List Cell}{x y:D}{i j:Nat}(h:fe r S=.ok (.tup [x,y]) S1):cj fe (gT [i,j]) r S=some (.nx ((r.set i (some x)).set j (some y)),S1):=by
 unfold cj;rw[pV,h];rfl
def lC(c:Int)(L:Nat):GS:=(List.range (mx c 9973 (L+1))).map fun(k:Nat)=>((mx (c+31 * k) 9967 256:Nat):Int)
theorem oM(c:Int)(L:Nat):(lC c L).length<=L:=by
 have:=ly c (p:=9973) (m:=L+1) (by omega);unfold lC;rw[List.length_map,List.length_range];omega
theorem qA(c:Int)(L:Nat)(hL:L<=1000)(S:List Cell):dL [.int c,.int (L:Int)] S=.ok (E3 (lC c L)) S:=by
 show cY S (ij [some (.int c),some (.int (L:Int)),none] S)=_;unfold ij;have m1:am aC (ac (aa 0) (ac (dC (.int 9973)) (ac (f_ bJ (aa 1) (dC (.int 1))) ai))) [some (.int c),some (.int (L:Int)),none] S=.ok (.int (mx c 9973 (L+1):Nat)) S:=
  ay (ag rfl (ag rfl (ag (x:=.int ((L+1:Nat):Int)) (ar rfl rfl (by rw[cw];congr 2)) aj))) (xK c (p:=9973) (m:=L+1) (by decide) (by omega) S)
 rw[ax (bB m1)];have Iw:=ly c (p:=9973) (m:=L+1) (by omega);obtain⟨z,hz⟩:∃z,mx c 9973 (L+1)=z:=⟨_,rfl⟩;have hm:lC c L=(List.range z).map fun(k:Nat)=>((mx (c+31 * k) 9967 256:Nat):Int):=by unfold lC;rw[hz]
 rw[hz] at Iw ⊢;show cY S (bP _ [some (.int c),some (.int (L:Int)),some (.int (z:Int))] S)=_;have q1:=jx (f:=sK (aa 2)) (tg:=gN 0) (ti:=gD) (fe:=am aC (ac (f_ bJ (aa 1) (f_ iP (dC (.int 31)) (aa 0))) (ac (dC (.int 9967)) (ac (dC (.int 256)) ai)))) (own:=1) (caps:=[0])
  (r:=[some (.int c),some (.int (L:Int)),some (.int (z:Int))]) (S:=S) (S1:=S) (w:=⟨iO 0 1 z,none⟩) (fun _=>true) (fun x=>match x with
   |.int k=>.int (mx (c+31 * k) 9967 256:Nat)
   |_=>.B_) (xj (by omega)) trivial (by simp[iO];omega) (by
   intro x hx;simp only[iO,List.mem_map,List.mem_range] at hx;obtain⟨k,_,rfl⟩:=hx;refine⟨_,rfl,fun _=>rfl,fun _ zs=>?_⟩;show am _ _ [some (.int (0+(k:Int) * 1)),some (.int c)] _=_;refine gP 9967 256 (ar rfl (ar rfl rfl (iR (.inl ⟨by decide,by decide⟩))) (cw _ _)))
 have MV:((iO 0 1 z).filter fun _=>true).map (fun x=>match x with
   |.int k=>.int (mx (c+31 * k) 9967 256:Nat)
   |_=>.B_)=(lC c L).map D.int:=by
  rw[List.filter_eq_self.mpr (by simp),hm];unfold iO;rw[List.map_map,List.map_map];refine List.map_congr_left fun k _=>?_
  have hk:0+(k:Int) * 1=(k:Int):=by omega
  simp only[Function.comp_def,hk]
 rw[MV] at q1;rw[aP (ay (ag q1 aj) (dR (bh rfl)))];exact lX (Ce _ _)
end Lw
namespace Lw
open PySem L2 DL
section
variable{G:Cs}{S S' S1 S2:List Cell}{a a' a1 a2:Ad}{w w' w1 w2:WW}{N:Nat}
theorem Bc(x y:Nat)(S:List Cell):∃S' a,gx G.World (cQ G) [.int (x:Int),.int (y:Int)] S=.ok (.ob S.length) S'/\G6 G S' a (WW.new x y)/\Fr [] S S'/\a.n=S.length/\∀i,i∈a.fp->S.length<=i:=by
 obtain⟨n,hn⟩:∃n,n=S.length:=⟨_,rfl⟩;have s0:(S++[Cell.ins G.World [] []])[n]?=some (.ins G.World [] []):=bh hn;obtain⟨r,hr⟩:∃r:o_,r=[some (.ob n),some (.int (x:Int)),some (.int (y:Int))]:=⟨_,rfl⟩;have v0:∀S,aa 0 r S=.ok (.ob n) S:=fun S=>by rw[hr];rfl
 have v1:∀S,aa 1 r S=.ok (.int (x:Int)) S:=fun S=>by rw[hr];rfl
 have v2:∀S,aa 2 r S=.ok (.int (y:Int)) S:=fun S=>by rw[hr];rfl
 obtain⟨T0,NT⟩:∃T0,S++[Cell.ins G.World [] []]=T0:=⟨_,rfl⟩;have l0:T0.length=S.length+1:=by rw[<-NT];simp
 rw[NT] at s0;obtain⟨U1,m,p,q,e1,k1,f1,g1,g2,g3⟩:=xl (G:=G) x y T0;have u1:=f1.get s0 (by simp);obtain⟨T1,b1,c1⟩:=fB (f:="sender") (fo:=aa 0) (fe:=am (gx G.c_ (bM G)) (ac (aa 1) (ac (aa 2) ai))) (r:=r) (ay (ag (v1 _) (ag (v2 _) aj)) e1) (v0 _) u1;have Ph:EX G T1 T0.length m p q (Sr.new x y):=k1.fr c1.fr fun i hi z=>by
  simp only[lg,List.mem_singleton] at hi z;omega
 have lf1:=f1.1;have lc1:=c1.len;obtain⟨U2,g,e,b,e2,k2,f2,g4,g5,g6⟩:=xt (G:=G) x T1;have u2:=f2.get c1.at_ (by simp);obtain⟨T2,b2,c2⟩:=fB (f:="hearer") (fo:=aa 0) (fe:=am (gx G.g_ (bA G)) (ac (aa 1) ai)) (r:=r) (ay (ag (v1 _) aj) e2) (v0 _) u2;have lf2:=f2.1;have lc2:=c2.len;have hm:=aT Ph.ms;have hp:=aT Ph.ps;have hq:=aT Ph.nt;have hnS:=aT Ph.ob;have Tb:EX G T2 T0.length m p q (Sr.new x y):=(Ph.fr f2 (fun i hi z=>nomatch z)).fr c2.fr fun i hi z=>by
  simp only[lg,List.mem_singleton] at hi z;omega
 have Nm:Fi G T2 T1.length g e b (Hr.new x):=k2.fr c2.fr (by simp;omega) (by simp;omega) (by simp;omega) (by simp;omega);have hg:=aT Nm.gv;have he:=aT Nm.ea;have hb:=aT Nm.be;have hnH:=aT Nm.ob;obtain⟨nR,PM⟩:∃nR,nR=T2.length:=⟨_,rfl⟩;obtain⟨T3,LD⟩:∃T3,T2++[Cell.FN [(.inr ("there":Str),.ob (nR+1)),(.inr ("back":Str),.ob (nR+2))]]++[.lst []]++[.lst []]=T3:=⟨_,rfl⟩;have dd:mL (dD (dC (.str "there")) (bZ ai) (dD (dC (.str "back")) (bZ ai) nM)) r T2=.ok (.ob nR) T3:=by
  unfold mL dD nM;simp only[aw,uo,j0];rw[cb aj (by decide)];simp only[aw];rw[cb aj (by decide)];simp only[];have hd:dN (T2++[Cell.FN []]++[.lst []]++[.lst []]) T2.length=some []:=by
   unfold dN;rw[aG (aG (bh rfl))]
  have hk:mI [(D.str "there",D.ob (T2++[Cell.FN []]).length),(D.str "back",D.ob (T2++[Cell.FN []]++[Cell.lst []]).length)]=some [(.inr ("there":Str),.ob (nR+1)),(.inr ("back":Str),.ob (nR+2))]:=by
   rw[PM];simp[mI,gK]
  rw[hd,hk];dsimp only;have e:decide ((Sum.inr ("there":Str):Key)=Sum.inr ("back":Str))=false:=by decide +kernel
  have hmg:oZ [] [((.inr ("there":Str):Key),D.ob (nR+1)),(.inr ("back":Str),D.ob (nR+2))]=[(.inr ("there":Str),.ob (nR+1)),(.inr ("back":Str),.ob (nR+2))]:=by
   simp only[oZ,List.foldl_cons,List.foldl_nil,mB,List.any_nil,List.any_cons,e,Bool.false_eq_true,if_false,List.nil_append,Bool.or_false];rfl
  rw[cg (by simp),hmg,<-LD,PM];congr 1;rw[List.append_assoc,List.append_assoc,List.set_append_right _ _ (Nat.le_refl _)];simp
 have u3:T3[n]?=some (.ins G.World ["sender","hearer"] [.ob T0.length,.ob T1.length]):=by rw[<-LD];exact aG (aG (aG c2.at_))
 obtain⟨T4,b3,c3⟩:=fB (f:="roads") (fo:=aa 0) (fe:=mL (dD (dC (.str "there")) (bZ ai) (dD (dC (.str "back")) (bZ ai) nM))) (r:=r) dd (v0 _) u3;have l3:T3.length=nR+3:=by rw[<-LD,PM];simp
 have lc3:=c3.len;have f3:Fr [] T2 T3:=by rw[<-LD,List.append_assoc,List.append_assoc];exact Fr.push
 have PL:n<T0.length:=by omega
 have r1:T3[nR]?=some (.FN [(.inr ("there":Str),.ob (nR+1)),(.inr ("back":Str),.ob (nR+2))]):=by rw[<-LD];exact aG (aG (bh PM))
 have r2:T3[nR+1]?=some (.lst []):=by rw[<-LD];exact aG (bh (by rw[PM];simp))
 have r3:T3[nR+2]?=some (.lst []):=by rw[<-LD];exact bh (by rw[PM];simp)
 have q1:n≠nR:=by omega
 have q2:n≠nR+1:=by omega
 have q3:n≠nR+2:=by omega
 refine⟨T4,⟨n,T0.length,m,p,q,T1.length,g,e,b,nR,nR+1,nR+2⟩,?_,⟨c3.at_,?_,?_,c3.old r1 q1,c3.old r2 q2,c3.old r3 q3,?_,?_,?_,by simp⟩,?_,hn,?_⟩
 ·unfold gx;have:cQ G [.ob S.length,.int (x:Int),.int (y:Int)] (S++[.ins G.World [] []])=.ok .B_ T4:=by
   rw[NT,<-hn];show fin T0 (eD G [some (.ob n),some (.int (x:Int)),some (.int (y:Int))] T0)=_;rw[<-hr];unfold eD;have YK:cV G.World ["sender"] "hearer" (aa 0) (am (gx G.g_ (bA G)) (ac (aa 1) ai)) r T1=some (.nx r,T2):=b2;rw[ax b1,ax YK];rw[show cV G.World ["sender","hearer"] "roads" (aa 0) (mL (dD (dC (.str "there")) (bZ ai) (dD (dC (.str "back")) (bZ ai) nM))) r T2=some (.nx r,T4) from b3];rfl
  rw[this]
 ·exact(Tb.fr f3 (fun i hi z=>nomatch z)).fr c3.fr fun i hi z=>by
   simp only[lg,List.mem_singleton] at hi z;omega
 ·exact(Nm.fr f3 (by simp) (by simp) (by simp) (by simp)).fr c3.fr (by simp;omega) (by simp;omega) (by simp;omega) (by simp;omega)
 ·intro i hi j hj;simp only[Ad.sf,Ad.hf,lg] at hi hj;omega
 ·intro i hi j hj;simp only[Ad.sf,Ad.wf,lg] at hi hj;omega
 ·intro i hi j hj;simp only[Ad.hf,Ad.wf,lg] at hi hj;omega
 ·have fS:Fr [n] S T4:=(((((show Fr [n] S T0 by rw[<-NT];exact Fr.push).tr (f1.mono fun i hi _=>nomatch hi)).tr c1.fr).tr (f2.mono fun i hi _=>nomatch hi)).tr c2.fr).tr ((f3.mono fun i hi _=>nomatch hi).tr c3.fr);exact⟨fS.1,fun i hi _=>fS.2 i hi (by simp;omega)⟩
 ·intro i hi;simp only[Ad.fp,Ad.sf,Ad.hf,Ad.wf,List.mem_append,lg] at hi;omega
inductive LA where
 |HG|hand (c:Int)|tick|step (r:Bool)|EK (k:Nat) (r:Bool) (i:Nat) (c:Int)|Fz (r:Bool)
def y9:Nat->Str
 |0=>"lose"
 |1=>"double"
 |_=>"spoil"
def LA.kn:LA->Str
 |.HG=>"open"
 |.hand _=>"hand"
 |.tick=>"tick"
 |.step _=>"step"
 |.EK k _ _ _=>y9 k
 |.Fz _=>"fall"
def LA.d:LA->D
 |.HG=>.tup [.str "open"]
 |.hand c=>.tup [.str "hand",.int c]
 |.tick=>.tup [.str "tick"]
 |.step r=>.tup [.str "step",.str (aR r)]
 |.EK k r i c=>.tup [.str (y9 k),.str (aR r),.int (i:Int),.int c]
 |.Fz r=>.tup [.str "fall",.str (if r then "sender" else "hearer")]
def LA.act:LA->Act
 |.HG=>.start
 |.hand c=>.hand (lC c 12)
 |.tick=>.tick
 |.step r=>.step r
 |.EK 0 r i _=>.MY r i
 |.EK 1 r i _=>.dbl r i
 |.EK _ r i c=>.Lf r i (mx c 9829 16) (mx c 9817 256:Nat)
 |.Fz r=>.Fz r
theorem zv(c:Int)(L:Nat):NQ (lC c L):=fun x hx=>by
 unfold lC at hx;obtain⟨k,_,rfl⟩:=List.mem_map.mp hx;have:=ly (c+31 * k) (p:=9967) (m:=256) (by decide);omega
theorem LA.ok(t:LA):t.act.ok:=by
 cases t with
 |hand c=>exact⟨Nat.le_trans (oM c 12) (by decide),zv c 12⟩
 |EK k r i c=>
  match k with
  |0=>trivial
  |1=>trivial
  |_+2=>trivial
 |_=>trivial
theorem yQ(t:LA)(S:List Cell):t_ t.d (.int 0) S=.ok (.str t.kn) S:=by cases t<;>exact aL (i:=0) rfl
theorem zF(t:LA):(PyData.str t.kn).canLay0=true:=by
 cases t with
 |EK k r i c=>
  match k with
  |0=>exact(by decide +kernel:(PyData.str "lose").canLay0=true)
  |1=>exact(by decide +kernel:(PyData.str "double").canLay0=true)
  |_+2=>exact(by decide +kernel:(PyData.str "spoil").canLay0=true)
 |HG=>exact(by decide +kernel:(PyData.str "open").canLay0=true)
 |hand c=>exact(by decide +kernel:(PyData.str "hand").canLay0=true)
 |tick=>exact(by decide +kernel:(PyData.str "tick").canLay0=true)
 |step r=>exact(by decide +kernel:(PyData.str "step").canLay0=true)
 |Fz r=>exact(by decide +kernel:(PyData.str "fall").canLay0=true)
theorem k7(t:LA)(k:Str)(hk:(PyData.str k).canLay0=true:=by decide +kernel)(r0:Option D)(S:List Cell):ao (f_ EE (f_ t_ (aa 1) (dC (.int 0))) (dC (.str k))) [r0,some t.d] S=.ok (decide (t.kn=k)) S:=
 az (ar (ar rfl rfl (yQ t S)) rfl (bi (zF t) hk rfl))
theorem Dj(A:G6 G S a w)(K:Ge N w)(hN:N<20000)(t:LA):∃S' a',lZ G [.ob a.n,t.d] S=.ok .B_ S'/\GV G a S a' S' (w.act t.act):=by
 show ∃S' a',fin S (ni G [some (.ob a.n),some t.d] S)=_/\_;unfold ni;have i1:=k7 t "hand" (r0:=some (.ob a.n)) (S:=S);have i2:=k7 t "tick" (r0:=some (.ob a.n)) (S:=S);have i3:=k7 t "step" (r0:=some (.ob a.n)) (S:=S);have i4:=k7 t "lose" (r0:=some (.ob a.n)) (S:=S);have i5:=k7 t "double" (r0:=some (.ob a.n)) (S:=S);have i6:=k7 t "spoil" (r0:=some (.ob a.n)) (S:=S);have i7:=k7 t "fall" (r0:=some (.ob a.n)) (S:=S);have OX:N<=20000:=by omega
 cases t with
 |hand c=>
  have hl:=oM c 12;obtain⟨S',a',e,k⟩:=AB A K hN (m:=lC c 12) (by omega);rw[show decide ((LA.hand c).kn=("hand":Str))=true from (by decide +kernel:decide (("hand":Str) = "hand")=true)] at i1;refine⟨S',a',?_,k⟩;rw[aQ i1,bc (aS rfl A.ob (ag (ay (ag (ar rfl rfl (aL (i:=1) rfl)) (ag rfl aj)) (qA c 12 (by decide) S)) aj) e)];rfl
 |tick=>
  obtain⟨S',a',e,k⟩:=AU A K OX;rw[show decide (LA.tick.kn=("hand":Str))=false by decide +kernel] at i1;rw[show decide (LA.tick.kn=("tick":Str))=true by decide +kernel] at i2;refine⟨S',a',?_,k⟩;rw[av i1,aQ i2,bc (aS rfl A.ob aj e)];rfl
 |step r=>
  obtain⟨S',a',e,k⟩:=AX A K hN r;rw[show decide ((LA.step r).kn=("hand":Str))=false from (by decide +kernel:decide (("step":Str) = "hand")=false)] at i1;rw[show decide ((LA.step r).kn=("tick":Str))=false from (by decide +kernel:decide (("step":Str) = "tick")=false)] at i2;rw[show decide ((LA.step r).kn=("step":Str))=true from (by decide +kernel:decide (("step":Str) = "step")=true)] at i3;refine⟨S',a',?_,k⟩;rw[av i1,av i2,aQ i3,bc (aS rfl A.ob (ag (ar rfl rfl (aL (i:=1) rfl)) aj) e)];rfl
 |EK k r i c=>
  match k with
  |0=>
   obtain⟨S',a',e,k⟩:=AO A r i;rw[show decide ((LA.EK 0 r i c).kn=("hand":Str))=false from (by decide +kernel:decide (("lose":Str) = "hand")=false)] at i1;rw[show decide ((LA.EK 0 r i c).kn=("tick":Str))=false from (by decide +kernel:decide (("lose":Str) = "tick")=false)] at i2;rw[show decide ((LA.EK 0 r i c).kn=("step":Str))=false from (by decide +kernel:decide (("lose":Str) = "step")=false)] at i3;rw[show decide ((LA.EK 0 r i c).kn=("lose":Str))=true from (by decide +kernel:decide (("lose":Str) = "lose")=true)] at i4;refine⟨S',a',?_,k⟩;rw[av i1,av i2,av i3,aQ i4,bc (aS rfl A.ob (ag (ar rfl rfl (aL (i:=1) rfl)) (ag (ar rfl rfl (aL (i:=2) rfl)) aj)) e)];rfl
  |1=>
   obtain⟨S',a',e,k⟩:=CM A K OX r i;rw[show decide ((LA.EK 1 r i c).kn=("hand":Str))=false from (by decide +kernel:decide (("double":Str) = "hand")=false)] at i1;rw[show decide ((LA.EK 1 r i c).kn=("tick":Str))=false from (by decide +kernel:decide (("double":Str) = "tick")=false)] at i2;rw[show decide ((LA.EK 1 r i c).kn=("step":Str))=false from (by decide +kernel:decide (("double":Str) = "step")=false)] at i3;rw[show decide ((LA.EK 1 r i c).kn=("lose":Str))=false from (by decide +kernel:decide (("double":Str) = "lose")=false)] at i4;rw[show decide ((LA.EK 1 r i c).kn=("double":Str))=true from (by decide +kernel:decide (("double":Str) = "double")=true)] at i5;refine⟨S',a',?_,k⟩;rw[av i1,av i2,av i3,av i4,aQ i5,bc (aS rfl A.ob (ag (ar rfl rfl (aL (i:=1) rfl)) (ag (ar rfl rfl (aL (i:=2) rfl)) aj)) e)];rfl
  |j+2=>
   obtain⟨S',a',e,k⟩:=y6 A K OX r i (mx c 9829 16) (mx c 9817 256:Nat);rw[show decide ((LA.EK (j+2) r i c).kn=("hand":Str))=false from (by decide +kernel:decide (("spoil":Str) = "hand")=false)] at i1;rw[show decide ((LA.EK (j+2) r i c).kn=("tick":Str))=false from (by decide +kernel:decide (("spoil":Str) = "tick")=false)] at i2;rw[show decide ((LA.EK (j+2) r i c).kn=("step":Str))=false from (by decide +kernel:decide (("spoil":Str) = "step")=false)] at i3;rw[show decide ((LA.EK (j+2) r i c).kn=("lose":Str))=false from (by decide +kernel:decide (("spoil":Str) = "lose")=false)] at i4;rw[show decide ((LA.EK (j+2) r i c).kn=("double":Str))=false from (by decide +kernel:decide (("spoil":Str) = "double")=false)] at i5;rw[show decide ((LA.EK (j+2) r i c).kn=("spoil":Str))=true from (by decide +kernel:decide (("spoil":Str) = "spoil")=true)] at i6;refine⟨S',a',?_,k⟩;have x3:∀T,f_ t_ (aa 1) (dC (.int 3)) [some (.ob a.n),some (LA.EK (j+2) r i c).d] T=.ok (.int c) T:=fun T=>ar rfl rfl (aL (i:=3) rfl)
   have x1:∀T,f_ t_ (aa 1) (dC (.int 1)) [some (.ob a.n),some (LA.EK (j+2) r i c).d] T=.ok (.str (aR r)) T:=fun T=>ar rfl rfl (aL (i:=1) rfl)
   have x2:∀T,f_ t_ (aa 1) (dC (.int 2)) [some (.ob a.n),some (LA.EK (j+2) r i c).d] T=.ok (.int (i:Int)) T:=fun T=>ar rfl rfl (aL (i:=2) rfl)
   have y1:am aC (ac (f_ t_ (aa 1) (dC (.int 3))) (ac (dC (.int 9829)) (ac (dC (.int 16)) ai))) [some (.ob a.n),some (LA.EK (j+2) r i c).d] S=.ok (.int (mx c 9829 16:Nat)) S:=gP 9829 16 (x3 _);have y2:am aC (ac (f_ t_ (aa 1) (dC (.int 3))) (ac (dC (.int 9817)) (ac (dC (.int 256)) ai))) [some (.ob a.n),some (LA.EK (j+2) r i c).d] S=.ok (.int (mx c 9817 256:Nat)) S:=gP 9817 256 (x3 _);rw[av i1,av i2,av i3,av i4,av i5,aQ i6,bc (aS rfl A.ob (ag (x1 _) (ag (x2 _) (ag y1 (ag y2 aj)))) e)];rfl
 |Fz r=>
  obtain⟨S',a',e,k⟩:=Be A r;rw[show decide ((LA.Fz r).kn=("hand":Str))=false from (by decide +kernel:decide (("fall":Str) = "hand")=false)] at i1;rw[show decide ((LA.Fz r).kn=("tick":Str))=false from (by decide +kernel:decide (("fall":Str) = "tick")=false)] at i2;rw[show decide ((LA.Fz r).kn=("step":Str))=false from (by decide +kernel:decide (("fall":Str) = "step")=false)] at i3;rw[show decide ((LA.Fz r).kn=("lose":Str))=false from (by decide +kernel:decide (("fall":Str) = "lose")=false)] at i4;rw[show decide ((LA.Fz r).kn=("double":Str))=false from (by decide +kernel:decide (("fall":Str) = "double")=false)] at i5;rw[show decide ((LA.Fz r).kn=("spoil":Str))=false from (by decide +kernel:decide (("fall":Str) = "spoil")=false)] at i6;rw[show decide ((LA.Fz r).kn=("fall":Str))=true from (by decide +kernel:decide (("fall":Str) = "fall")=true)] at i7;refine⟨S',a',?_,k⟩;rw[av i1,av i2,av i3,av i4,av i5,av i6,aQ i7,bc (aS rfl A.ob (ag (ar rfl rfl (aL (i:=1) rfl)) aj) e)];rfl
 |HG=>
  obtain⟨S',a',e,k⟩:=zQ A K OX;rw[show decide (LA.HG.kn=("hand":Str))=false by decide +kernel] at i1;rw[show decide (LA.HG.kn=("tick":Str))=false by decide +kernel] at i2;rw[show decide (LA.HG.kn=("step":Str))=false by decide +kernel] at i3;rw[show decide (LA.HG.kn=("lose":Str))=false by decide +kernel] at i4;rw[show decide (LA.HG.kn=("double":Str))=false by decide +kernel] at i5;rw[show decide (LA.HG.kn=("spoil":Str))=false by decide +kernel] at i6;rw[show decide (LA.HG.kn=("fall":Str))=false by decide +kernel] at i7;refine⟨S',a',?_,k⟩;rw[av i1,av i2,av i3,av i4,av i5,av i6,av i7,bc (aS rfl A.ob aj e)];rfl
end
end Lw
namespace Lw
open PySem L2 DL
theorem zD{xs:List D}(i k:Nat):gr xs (some (i:Int)) (some ((i:Int)+(k:Int)))=(xs.drop i).take k:=by
 unfold gr;have e:(i:Int)+(k:Int)=((i+k:Nat):Int):=by omega
 rw[e,HT.G8,HT.G8];by_cases h:i<=xs.length
 ·rw[Nat.min_eq_left h];by_cases h2:i+k<=xs.length
  ·rw[Nat.min_eq_left h2,show i+k-i=k by omega]
  ·rw[Nat.min_eq_right (by omega),List.take_of_length_le (by rw[List.length_drop];omega),List.take_of_length_le (by rw[List.length_drop];omega)]
 ·rw[Nat.min_eq_right (show xs.length<=i by omega),Nat.min_eq_right (show xs.length<=i+k by omega),List.drop_of_length_le (Nat.le_refl _),List.drop_of_length_le (by omega)];simp
theorem j8{S:List Cell}{a b:Nat}{xs ys:List D}(h1:S[a]?=some (.lst xs))(h2:S[b]?=some (.lst ys))(hz:(xs++ys).length<=1000000):bJ (.ob a) (.ob b) S=.ok (.ob S.length) (S++[.lst (xs++ys)]):=by
 simp only[bJ,cc h1,cc h2,vg hz]
theorem yz{S:List Cell}{a:Nat}{xs:List D}{k:Nat}(h:S[a]?=some (.lst xs))(hz:xs.length * k<=1000000)(hk:k<=1000000):iP (.ob a) (.int (k:Int)) S=.ok (.ob S.length) (S++[.lst (List.replicate k xs).flatten]):=by
 unfold iP;simp only[cc h];rw[cg ⟨⟨by omega,by omega⟩,by rw[Int.toNat_natCast];exact Nat.le_of_lt (Ms hz)⟩,Int.toNat_natCast]
end Lw
namespace Lw
open PySem L2 DL
section
variable{G:Cs}{S S' S1 S2:List Cell}{a a' a1 a2:Ad}{w w' w1 w2:WW}{N:Nat}
def kj(falls:Bool)(c:Int):List LA:=
 if mx c 9859 20<2 then [.hand c] else if mx c 9859 20<6 then [.tick] else if mx c 9859 20<14 then List.replicate (1+mx c 9851 4) (.step (decide (mx c 9857 2=0)))
 else if mx c 9859 20<17 then [.EK (mx c 9859 20-14) (decide (mx c 9857 2=0)) (mx c 9839 6) c] else if mx c 9859 20=17/\falls=true then [.Fz (decide (mx c 9833 2=0))] else [.HG]
def jG(falls:Bool)(ns:List Int):List LA:=[.HG,.hand (cv ns 2)]++((ns.drop 3).take 60).flatMap (kj falls)
theorem zH(falls:Bool)(c:Int):(kj falls c).length<=4:=by
 have:=ly c (p:=9851) (m:=4) (by decide);unfold kj;split
 ·simp
 ·split
  ·simp
  ·split
   ·rw[List.length_replicate];omega
   ·split
    ·simp
    ·split<;>simp
theorem oW(falls:Bool):∀l:List Int,(l.flatMap (kj falls)).length<=4 * l.length
 |[]=>by simp
 |c :: l=>by
  have h1:=zH falls c;have h2:=oW falls l;rw[List.flatMap_cons,List.length_append,List.length_cons];omega
theorem zW(falls:Bool)(ns:List Int):(jG falls ns).length<=242:=by
 have h1:=oW falls ((ns.drop 3).take 60);have h2:((ns.drop 3).take 60).length<=60:=by rw[List.length_take];omega
 unfold jG;rw[List.length_append];simp only[List.length_cons,List.length_nil];omega
structure Row(S0 S:List Cell)(l:Nat)(xs:List LA):Prop where
 at_:S[l]?=some (.lst (xs.map LA.d))
 fr:Fr [] S0 S
 new:S0.length<=l
theorem uI{S0 S:List Cell}{l:Nat}{c:Cell}(f:Fr [] S0 S)(h:S0.length<=l):Fr [] S0 (S.set l c):=by
 refine⟨by rw[List.length_set];exact f.1,fun i hi _=>?_⟩;rw[List.getElem?_set_ne (by omega)];exact f.2 i hi (by simp)
theorem Row.app{S0:List Cell}{l:Nat}{xs:List LA}(R:Row S0 S l xs)(t:LA)(hz:xs.length<1000){ft:o_->M (List D)}{r:o_}(h2:aa 2 r S=.ok (.ob l) S)(h3:ft r S=.ok [t.d] S):∃S',bx (Ij kT (aa 2) ft) r S=some (.nx r,S')/\Row S0 S' l (xs++[t])/\Fr [l] S S':=by
 have ee:=ve (n:=l) (d:=t.d) R.at_ (by rw[List.length_map];omega);refine⟨S.set l (.lst ((xs++[t]).map LA.d)),?_,⟨d6 R.at_,uI R.fr R.new,R.new⟩,Fr.set (by simp)⟩;rw[bc (mH h2 R.at_ h3 ee),List.map_append];rfl
theorem AW{ns:List Int}:gr (ns.map D.int) (some 3) (some 63)=((ns.drop 3).take 60).map D.int:=by
 have h:=zD (xs:=ns.map D.int) 3 60;rw[<-List.map_drop,<-List.map_take] at h;exact h
theorem qR{S0 S:List Cell}{l:Nat}{xs:List LA}(R:Row S0 S l xs)(c:List Cell):Row S0 (S++c) l xs:=⟨aG R.at_,R.fr.tr Fr.push,R.new⟩
theorem yg{S0:List Cell}{falls:Bool}{ns:List Int}{c:Int}{l kk:Nat}{xs:List LA}{x4 x5:Option D}{cs:List D}(R:Row S0 S l xs)(hz:xs.length<900)(hk:S[kk]?=some (.lst cs))(Wg:kk≠l) :
  ∃S' l' y4 y5,gh [some (.FC (ns.map D.int)),some (.bl falls),some (.ob l),some (.int c),x4,x5] S=some (.nx [some (.FC (ns.map D.int)),some (.bl falls),some (.ob l'),some (.int c),y4,y5],S')/\Row S0 S' l' (xs++kj falls c)/\S'[kk]?=some (.lst cs)/\(l'=l\/S.length<=l'):=by
 unfold gh;have t20:=ly c (p:=9859) (m:=20) (by decide);obtain⟨t,ht⟩:∃t,mx c 9859 20=t:=⟨_,rfl⟩;have m1:am aC (ac (aa 3) (ac (dC (.int 9859)) (ac (dC (.int 20)) ai))) [some (.FC (ns.map D.int)),some (.bl falls),some (.ob l),some (.int c),x4,x5] S=.ok (.int (t:Int)) S:=by
  rw[<-ht];exact gP 9859 20 rfl
 rw[ax (bB m1)];show ∃S' l' y4 y5,aN _ _ [some (.FC (ns.map D.int)),some (.bl falls),some (.ob l),some (.int c),some (.int (t:Int)),x5] S=_/\_;have t2:=ly c (p:=9857) (m:=2) (by decide);obtain⟨rd,MC⟩:∃rd,decide (mx c 9857 2=0)=rd:=⟨_,rfl⟩;obtain⟨T,hT⟩:∃T,S++[Cell.lst [.str "there",.str "back"]]=T:=⟨_,rfl⟩;have m2:f_ t_ (bZ (ac (dC (.str "there")) (ac (dC (.str "back")) ai))) (am aC (ac (aa 3) (ac (dC (.int 9857)) (ac (dC (.int 2)) ai)))) [some (.FC (ns.map D.int)),some (.bl falls),some (.ob l),some (.int c),some (.int (t:Int)),x5] S=.ok (.str (aR rd)) T:=by
  rw[<-hT];have y:am aC (ac (aa 3) (ac (dC (.int 9857)) (ac (dC (.int 2)) ai))) [some (.FC (ns.map D.int)),some (.bl falls),some (.ob l),some (.int c),some (.int (t:Int)),x5] (S++[.lst [.str "there",.str "back"]])=.ok (.int (mx c 9857 2:Nat)) (S++[.lst [.str "there",.str "back"]]):=gP 9857 2 rfl;refine ar (cb (ag rfl (ag rfl aj)) (by simp)) y (gg aW ?_);rw[<-MC];rcases (show mx c 9857 2=0\/mx c 9857 2=1 by omega) with h|h<;>rw[h]<;>rfl
 have R1:Row S0 T l xs:=by rw[<-hT];exact qR R _
 have Rj:T[kk]?=some (.lst cs):=by rw[<-hT];exact aG hk
 have lT:T.length=S.length+1:=by rw[<-hT];simp
 rw[ax (bB m2)];show ∃S' l' y4 y5,Fd _ _ _ [some (.FC (ns.map D.int)),some (.bl falls),some (.ob l),some (.int c),some (.int (t:Int)),some (.str (aR rd))] T=_/\_;obtain⟨r,hr⟩:∃r:o_,[some (.FC (ns.map D.int)),some (.bl falls),some (.ob l),some (.int c),some (.int (t:Int)),some (.str (aR rd))]=r:=⟨_,rfl⟩;have v1:∀S,aa 1 r S=.ok (.bl falls) S:=fun S=>by rw[<-hr];rfl
 have v2:∀S,aa 2 r S=.ok (.ob l) S:=fun S=>by rw[<-hr];rfl
 have v3:∀S,aa 3 r S=.ok (.int c) S:=fun S=>by rw[<-hr];rfl
 have v4:∀S,aa 4 r S=.ok (.int (t:Int)) S:=fun S=>by rw[<-hr];rfl
 have v5:∀S,aa 5 r S=.ok (.str (aR rd)) S:=fun S=>by rw[<-hr];rfl
 have lt:∀k:Nat,ao (f_ Hl (aa 4) (dC (.int (k:Int)))) r T=.ok (decide (t<k)) T:=fun k=>by
  refine az (ar (v4 _) rfl ?_);rw[rO];congr 2;rw[decide_eq_decide];omega
 have Rk:ao (f_ Hl (aa 4) (dC (.int 2))) r T=.ok (decide (t<2)) T:=lt 2;have Rl:ao (f_ Hl (aa 4) (dC (.int 6))) r T=.ok (decide (t<6)) T:=lt 6;have NU:ao (f_ Hl (aa 4) (dC (.int 14))) r T=.ok (decide (t<14)) T:=lt 14;have NV:ao (f_ Hl (aa 4) (dC (.int 17))) r T=.ok (decide (t<17)) T:=lt 17;have Tc:ao (f_ EE (aa 4) (dC (.int 17))) r T=.ok (decide (t=17)) T:=by
  refine az (ar (v4 _) rfl ?_);rw[jf];congr 2;rw[decide_eq_decide];omega
 rw[hr];have Jp:∀{b:EL}(la:LA) {ft:o_->M (List D)},b=bx (Ij kT (aa 2) ft)->ft r T=.ok [la.d] T->kj falls c=[la]->∃S' l' y4 y5,b r T=some (.nx [some (.FC (ns.map D.int)),some (.bl falls),some (.ob l'),some (.int c),y4,y5],S')/\Row S0 S' l' (xs++kj falls c)/\S'[kk]?=some (.lst cs)/\(l'=l\/S.length<=l'):=by
  intro b la ft hb hf ht;obtain⟨S',e,R',f⟩:=R1.app la (by omega) (v2 _) hf;rw[ht,hb];exact⟨S',l,_,_,by rw[e,<-hr],R',f.get Rj (by simpa using Wg),.inl rfl⟩
 unfold kj at *;rw[ht,MC] at *;by_cases h2:t<2
 ·rw[decide_eq_true h2] at Rk;rw[aQ Rk];simp only[if_pos h2] at Jp ⊢;exact Jp (.hand c) rfl (ag (bQ (ag rfl (ag (v3 _) aj)) (by simp)) aj) rfl
 ·rw[decide_eq_false h2] at Rk;rw[av Rk];simp only[if_neg h2] at Jp ⊢;by_cases h6:t<6
  ·rw[decide_eq_true h6] at Rl;rw[aQ Rl];simp only[if_pos h6] at Jp ⊢;exact Jp .tick rfl (ag (bQ (ag rfl aj) (by simp)) aj) rfl
  ·rw[decide_eq_false h6] at Rl;rw[av Rl];simp only[if_neg h6] at Jp ⊢;by_cases Rm:t<14
   ·rw[decide_eq_true Rm] at NU;rw[aQ NU];simp only[if_pos Rm];have t4:=ly c (p:=9851) (m:=4) (by decide);obtain⟨j,hj⟩:∃j,mx c 9851 4=j:=⟨_,rfl⟩;rw[hj] at t4 ⊢;obtain⟨U,hU⟩:∃U,T++[Cell.lst [LA.d (.step rd)]]++[.lst ((List.replicate (1+j) (LA.step rd)).map LA.d)]=U:=⟨_,rfl⟩;have y:∀T,f_ bJ (dC (.int 1)) (am aC (ac (aa 3) (ac (dC (.int 9851)) (ac (dC (.int 4)) ai)))) r T=.ok (.int ((1+j:Nat):Int)) T:=fun T=>by
     have y0:am aC (ac (aa 3) (ac (dC (.int 9851)) (ac (dC (.int 4)) ai))) r T=.ok (.int (mx c 9851 4:Nat)) T:=gP 9851 4 (v3 _);refine ar rfl y0 ?_;rw[cw,hj];congr 2
    have Td:(List.replicate (1+j) [LA.d (.step rd)]).flatten=(List.replicate (1+j) (LA.step rd)).map LA.d:=by
     rw[List.map_replicate]
     induction (1+j) with
     |zero=>rfl
     |succ k ih=>rw[List.replicate_succ,List.flatten_cons,ih,List.replicate_succ];rfl
    have mu:f_ iP (bZ (ac (cf (ac (dC (.str "step")) (ac (aa 5) ai))) ai)) (f_ bJ (dC (.int 1)) (am aC (ac (aa 3) (ac (dC (.int 9851)) (ac (dC (.int 4)) ai))))) r T=.ok (.ob (T.length+1)) U:=by
     refine ar (cb (ag (bQ (ag rfl (ag (v5 _) aj)) (by simp)) aj) (by simp)) (y _) ?_;rw[<-hU];rw[yz (bh rfl) (by simp;omega) (by omega)];have e:(List.replicate (1+j) [D.tup [D.str "step",D.str (aR rd)]]).flatten=(List.replicate (1+j) (LA.step rd)).map LA.d:=Td;rw[e];simp[LA.d]
    have Mz:U[l]?=some (.lst (xs.map LA.d)):=by rw[<-hU];exact aG (aG R1.at_)
    have Te:U[T.length+1]?=some (.lst ((List.replicate (1+j) (LA.step rd)).map LA.d)):=by rw[<-hU];exact bh (by simp)
    have ad:f_ bJ (aa 2) (f_ iP (bZ (ac (cf (ac (dC (.str "step")) (ac (aa 5) ai))) ai)) (f_ bJ (dC (.int 1)) (am aC (ac (aa 3) (ac (dC (.int 9851)) (ac (dC (.int 4)) ai)))))) r T=.ok (.ob U.length) (U++[.lst ((xs++List.replicate (1+j) (LA.step rd)).map LA.d)]):=by
     refine ar (v2 _) mu ?_;rw[List.map_append];exact j8 Mz Te (by simp;omega)
    have lU:T.length<=U.length:=by rw[<-hU];simp
    have fU:Fr [] T U:=by rw[<-hU,List.append_assoc];exact Fr.push
    have hs:=R1.fr.1;refine⟨_,U.length,some (.int (t:Int)),some (.str (aR rd)),?_,⟨aW,(R1.fr.tr fU).tr Fr.push,by omega⟩,aG (fU.get Rj (by simp)),.inr (by omega)⟩;rw[bB ad,<-hr];rfl
   ·rw[decide_eq_false Rm] at NU;rw[av NU];simp only[if_neg Rm] at Jp ⊢;by_cases Rn:t<17
    ·rw[decide_eq_true Rn] at NV;rw[aQ NV];simp only[if_pos Rn] at Jp ⊢;obtain⟨T2,Jw⟩:∃T2,T++[Cell.lst [.str "lose",.str "double",.str "spoil"]]=T2:=⟨_,rfl⟩;have R2:Row S0 T2 l xs:=by rw[<-Jw];exact qR R1 _
     have Ro:T2[kk]?=some (.lst cs):=by rw[<-Jw];exact aG Rj
     have sb:∀T,f_ rN (aa 4) (dC (.int 14)) r T=.ok (.int ((t-14:Nat):Int)) T:=fun T=>ar (v4 _) rfl (by rw[tj];congr 2;omega)
     have kd:f_ t_ (bZ (ac (dC (.str "lose")) (ac (dC (.str "double")) (ac (dC (.str "spoil")) ai)))) (f_ rN (aa 4) (dC (.int 14))) r T=.ok (.str (y9 (t-14))) T2:=by
      rw[<-Jw];refine ar (cb (ag rfl (ag rfl (ag rfl aj))) (by simp)) (sb _) (gg aW ?_);rcases (show t-14=0\/t-14=1\/t-14=2 by omega) with h|h|h<;>rw[h]<;>rfl
     have mm:am aC (ac (aa 3) (ac (dC (.int 9839)) (ac (dC (.int 6)) ai))) r T2=.ok (.int (mx c 9839 6:Nat)) T2:=gP 9839 6 (v3 _);have ft:ac (cf (ac (f_ t_ (bZ (ac (dC (.str "lose")) (ac (dC (.str "double")) (ac (dC (.str "spoil")) ai)))) (f_ rN (aa 4) (dC (.int 14)))) (ac (aa 5) (ac (am aC (ac (aa 3) (ac (dC (.int 9839)) (ac (dC (.int 6)) ai)))) (ac (aa 3) ai))))) ai r T=.ok [LA.d (.EK (t-14) rd (mx c 9839 6) c)] T2:=
      ag (bQ (ag kd (ag (v5 _) (ag mm (ag (v3 _) aj)))) (by simp)) aj
     have ee:=ve (S:=T2) (n:=l) (d:=LA.d (.EK (t-14) rd (mx c 9839 6) c)) R2.at_ (by rw[List.length_map];omega);refine⟨T2.set l (.lst ((xs++[LA.EK (t-14) rd (mx c 9839 6) c]).map LA.d)),l,some (.int (t:Int)),some (.str (aR rd)),?_,⟨d6 R2.at_,uI R2.fr R2.new,R2.new⟩,cR Ro (Ne.symm Wg),.inl rfl⟩;have:bx (Ij kT (aa 2) (ac (cf (ac (f_ t_ (bZ (ac (dC (.str "lose")) (ac (dC (.str "double")) (ac (dC (.str "spoil")) ai)))) (f_ rN (aa 4) (dC (.int 14)))) (ac (aa 5) (ac (am aC (ac (aa 3) (ac (dC (.int 9839)) (ac (dC (.int 6)) ai)))) (ac (aa 3) ai))))) ai)) r T=some (.nx r,T2.set l (.lst ((xs++[LA.EK (t-14) rd (mx c 9839 6) c]).map LA.d))):=by
      refine bc (d:=.B_) ?_;rw[List.map_append];exact mH (v2 _) R1.at_ ft ee
     rw[this,<-hr]
    ·rw[decide_eq_false Rn] at NV;rw[av NV];simp only[if_neg Rn] at Jp ⊢;have an:dg (ao (f_ EE (aa 4) (dC (.int 17)))) (bW (aa 1)) r T=.ok (decide (t=17/\falls=true)) T:=by
      rw[cK,aw,Tc];by_cases h:t=17
      ·rw[decide_eq_true h];show bW (aa 1) r T=_;rw[cU,aw,v1];cases falls<;>simp[h]
      ·rw[decide_eq_false h];simp[h]
     by_cases hf:t=17/\falls=true
     ·rw[decide_eq_true hf] at an;rw[aQ an];simp only[if_pos hf];have t2b:=ly c (p:=9833) (m:=2) (by decide);obtain⟨wh,Wh⟩:∃wh,decide (mx c 9833 2=0)=wh:=⟨_,rfl⟩;rw[Wh];obtain⟨U,hU⟩:∃U,T++[Cell.lst [.str "sender",.str "hearer"]]++[.lst [LA.d (.Fz wh)]]=U:=⟨_,rfl⟩;have y:∀T,am aC (ac (aa 3) (ac (dC (.int 9833)) (ac (dC (.int 2)) ai))) r T=.ok (.int (mx c 9833 2:Nat)) T:=fun T=>gP 9833 2 (v3 _)
      have wi:f_ t_ (bZ (ac (dC (.str "sender")) (ac (dC (.str "hearer")) ai))) (am aC (ac (aa 3) (ac (dC (.int 9833)) (ac (dC (.int 2)) ai)))) r T=.ok (.str (if wh then "sender" else "hearer")) (T++[.lst [.str "sender",.str "hearer"]]):=by
       refine ar (cb (ag rfl (ag rfl aj)) (by simp)) (y _) (gg aW ?_);rw[<-Wh];rcases (show mx c 9833 2=0\/mx c 9833 2=1 by omega) with h|h<;>rw[h]<;>rfl
      have ls:bZ (ac (cf (ac (dC (.str "fall")) (ac (f_ t_ (bZ (ac (dC (.str "sender")) (ac (dC (.str "hearer")) ai))) (am aC (ac (aa 3) (ac (dC (.int 9833)) (ac (dC (.int 2)) ai))))) ai))) ai) r T=.ok (.ob (T.length+1)) U:=by
       rw[cb (ag (bQ (ag rfl (ag wi aj)) (by simp)) aj) (by simp),<-hU];simp[LA.d]
      have Mz:U[l]?=some (.lst (xs.map LA.d)):=by rw[<-hU];exact aG (aG R1.at_)
      have Te:U[T.length+1]?=some (.lst [LA.d (.Fz wh)]):=by rw[<-hU];exact bh (by simp)
      have ad:f_ bJ (aa 2) (bZ (ac (cf (ac (dC (.str "fall")) (ac (f_ t_ (bZ (ac (dC (.str "sender")) (ac (dC (.str "hearer")) ai))) (am aC (ac (aa 3) (ac (dC (.int 9833)) (ac (dC (.int 2)) ai))))) ai))) ai)) r T=.ok (.ob U.length) (U++[.lst ((xs++[LA.Fz wh]).map LA.d)]):=by
       refine ar (v2 _) ls ?_;rw[List.map_append];exact j8 Mz Te (by simp;omega)
      have lU:T.length<=U.length:=by rw[<-hU];simp
      have fU:Fr [] T U:=by rw[<-hU,List.append_assoc];exact Fr.push
      have hs:=R1.fr.1;refine⟨_,U.length,some (.int (t:Int)),some (.str (aR rd)),?_,⟨aW,(R1.fr.tr fU).tr Fr.push,by omega⟩,aG (fU.get Rj (by simp)),.inr (by omega)⟩;rw[bB ad,<-hr];rfl
     ·rw[decide_eq_false hf] at an;rw[av an];simp only[if_neg hf] at Jp ⊢;exact Jp .HG rfl (ag (bQ (ag rfl aj) (by simp)) aj) rfl
theorem Ap(falls:Bool)(ns:List Int)(S:List Cell):∃S' l,hZ [.FC (ns.map D.int),.bl falls] S=.ok (.ob l) S'/\Row S S' l (jG falls ns):=by
 show ∃S' l,fin S (kU [some (.FC (ns.map D.int)),some (.bl falls),none,none,none,none] S)=_/\_;unfold kU;have e1:bZ (ac (cf (ac (dC (.str "open")) ai)) (ac (cf (ac (dC (.str "hand")) (ac (am bS (ac (aa 0) (ac (dC (.int 2)) ai))) ai))) ai)) [some (.FC (ns.map D.int)),some (.bl falls),none,none,none,none] S=.ok (.ob S.length) (S++[.lst ([LA.HG,.hand (cv ns 2)].map LA.d)]):=
  cb (ag (bQ (ag rfl aj) (by simp)) (ag (bQ (ag rfl (ag (ay (ag rfl (ag rfl aj)) (Dc _)) aj)) (by simp)) aj)) (by simp)
 rw[ax (bB e1)];show ∃S' l,fin S (aN _ _ [some (.FC (ns.map D.int)),some (.bl falls),some (.ob S.length),none,none,none] (S++[.lst ([LA.HG,.hand (cv ns 2)].map LA.d)]))=_/\_;obtain⟨sl,Oz⟩:∃sl,(ns.drop 3).take 60=sl:=⟨_,rfl⟩;have YL:sl.length<=60:=by rw[<-Oz,List.length_take];omega
 obtain⟨S1,HW⟩:∃S1,S++[Cell.lst ([LA.HG,.hand (cv ns 2)].map LA.d)]=S1:=⟨_,rfl⟩;have R0:Row S S1 S.length [LA.HG,.hand (cv ns 2)]:=by rw[<-HW];exact⟨aW,Fr.push,Nat.le_refl _⟩
 have l1:S1.length=S.length+1:=by rw[<-HW];simp
 rw[HW];have s1:Hd (GF FZ (aa 0) (bI (dC (.int 3))) (bI (dC (.int 63)))) [some (.FC (ns.map D.int)),some (.bl falls),some (.ob S.length),none,none,none] S1=.ok ⟨sl.map D.int,some (S1.length,sl.map D.int)⟩ (S1++[.lst (sl.map D.int)]):=by
  rw[jY,aw];have:GF FZ (aa 0) (bI (dC (.int 3))) (bI (dC (.int 63))) [some (.FC (ns.map D.int)),some (.bl falls),some (.ob S.length),none,none,none] S1=.ok (.ob S1.length) (S1++[.lst (sl.map D.int)]):=by
   rw[<-Oz,<-AW];rfl
  rw[this];simp only[iC,aW]
 obtain⟨r',S',q,l,x3,x4,x5,rfl,k,Tf,Wi⟩:=eN (g:=some (S1.length,sl.map D.int)) (tg:=gN 3) (b:=gh)
  (fun i r' S'=>∃l x3 x4 x5,r'=[some (.FC (ns.map D.int)),some (.bl falls),some (.ob l),x3,x4,x5]/\Row S S' l ([LA.HG,.hand (cv ns 2)]++(sl.take i).flatMap (kj falls))/\S'[S1.length]?=some (.lst (sl.map D.int))/\S1.length≠l) (sl.map D.int) 0 [some (.FC (ns.map D.int)),some (.bl falls),some (.ob S.length),none,none,none] (S1++[.lst (sl.map D.int)])
  (by
   rintro i y r' S' hy ⟨l,x3,x4,x5,rfl,k,Tf,Wi⟩;rw[List.getElem?_map] at hy;cases hp:sl[i]? with
   |none=>rw[hp] at hy;cases hy
   |some c=>
    rw[hp] at hy;cases hy;rw[Nat.zero_add] at k ⊢;have hlen:=oW falls (sl.take i);rw[List.length_take] at hlen;obtain⟨S2,l2,y4,y5,e2,k2,Ro,Mz⟩:=yg (falls:=falls) (ns:=ns) (c:=c) (x4:=x4) (x5:=x5) k (by rw[List.length_append];simp only[List.length_cons,List.length_nil];omega) Tf Wi;have Iw:=aT Tf;refine⟨[some (.FC (ns.map D.int)),some (.bl falls),some (.ob l),some (.int c),x4,x5],_,S2,rfl,e2,Ro,l2,_,_,_,rfl,?_,Ro,by omega⟩;rw[List.take_add_one,hp,Option.toList_some,List.flatMap_append,<-List.append_assoc];simpa using k2)
  ⟨S.length,none,none,none,rfl,by simpa using qR R0 _,aW,by omega⟩
 rw[show 0+(sl.map D.int).length=sl.length by simp,List.take_length] at k;refine⟨S',l,?_,?_⟩
 ·rw[ax (by rw[mO s1];exact q),aP rfl];rfl
 ·unfold jG;rw[Oz];exact k
end
end Lw
namespace Lw
open PySem L2 DL
theorem zo{G:Cs}{S:List Cell}{a:Ad}{w:WW}(A:G6 G S a w):dy G [.ob a.n] S=.ok (.tup (w.h.given.map PK)) S:=by
 show fin S (fQ G [some (.ob a.n)] S)=_;unfold fQ;rw[aP (ay (ag (bK (bK rfl A.ob rfl) A.hr.ob rfl) aj) (dR A.hr.gv))];rfl
end Lw
namespace Lw
open PySem L2 DL
section
variable{G:Cs}{S S' S1 S2:List Cell}{a a' a1 a2:Ad}{w w' w1 w2:WW}{N:Nat}
theorem GV.out(k:GV G a S a' S' w'){j:Nat}{c:Cell}(hj:S[j]?=some c)(hn:j∉a.fp):S'[j]?=some c/\j∉a'.fp:=by
 refine⟨k.fr.get hj hn,fun z=>?_⟩;have:=aT hj;rcases k.ad j z with h|h
 ·exact hn h
 ·omega
end
end Lw
namespace Lw
open PySem L2 DL
section
variable{G:Cs}{S:List Cell}{a:Ad}{w:WW}
def jB(l:List En):List D:=l.map fun e=>.tup (e.xs.map D.int)
theorem xk(A:G6 G S a w):cE G [.ob a.n] S=.ok (.int (w.s.sure:Int)) S:=by
 show fin S (gM G [some (.ob a.n)] S)=_;unfold gM;rw[aP (bK (bK rfl A.ob rfl) A.sr.ob rfl)];rfl
theorem yV(A:G6 G S a w):dJ G [.ob a.n] S=.ok (.str (MU w.s.st)) S:=by
 show fin S (fZ G [some (.ob a.n)] S)=_;unfold fZ;rw[aP (bK (bK rfl A.ob rfl) A.sr.ob rfl)];rfl
theorem AS(A:G6 G S a w):bU G [.ob a.n,.str "sender"] S=.ok (.int (w.s.op:Int)) S:=by
 show fin S (cG G [some (.ob a.n),some (.str "sender")] S)=_;unfold cG;rw[aP (d:=.int (w.s.op:Int)) (S1:=S)]
 ·rfl
 ·rw[zV,aw,az (ar rfl rfl (bi (c:=true)))];exact bK (bK rfl A.ob rfl) A.sr.ob rfl
theorem AM(A:G6 G S a w):bU G [.ob a.n,.str "hearer"] S=.ok (.int (w.h.op:Int)) S:=by
 show fin S (cG G [some (.ob a.n),some (.str "hearer")] S)=_;unfold cG;rw[aP (d:=.int (w.h.op:Int)) (S1:=S)]
 ·rfl
 ·rw[zV,aw,az (ar rfl rfl (bi (c:=false)))];exact bK (bK rfl A.ob rfl) A.hr.ob rfl
theorem AC(A:G6 G S a w)(r:Bool)(hz:(w.road r).length<=1000000):fH G [.ob a.n,.str (aR r)] S=.ok (.tup (jB (w.road r))) (S++[.lst (jB (w.road r))]):=by
 show fin S (gI G [some (.ob a.n),some (.str (aR r))] S)=_;unfold gI;have w1:Hd (f_ bV (aA G.World k_ 2 (aa 0)) (aa 1)) [some (.ob a.n),some (.str (aR r))] S=.ok ⟨(w.road r).map FH,some (a.rn r,(w.road r).map FH)⟩ S:=by
  rw[jY,aw,o8 A r []];show iC (.ob (a.rn r)) S=_;simp only[iC,A.cell r]
 have q1:=jx (f:=Hd (f_ bV (aA G.World k_ 2 (aa 0)) (aa 1))) (tg:=gN 0) (ti:=gD) (fe:=f_ t_ (aa 0) (dC (.int 0))) (own:=1) (caps:=[])
  (fun _=>true) (fun x=>match x with
   |.tup (y :: _)=>y
   |_=>.B_) w1 (A.cell r) (by rw[List.length_map];exact hz) (by
   intro x hx;obtain⟨e,_,rfl⟩:=List.mem_map.mp hx;exact⟨[some (FH e)],rfl,fun _=>rfl,fun _ zs=>ar rfl rfl (aL (i:=0) rfl)⟩)
 have hq:(((w.road r).map FH).filter fun _=>true).map (fun x=>match x with
   |.tup (y :: _)=>y
   |_=>D.B_)=jB (w.road r):=by
  rw[List.filter_eq_self.mpr (by simp),List.map_map];rfl
 rw[hq] at q1;rw[aP (ay (ag q1 aj) (dR aW))];rfl
theorem w9{S:List Cell}{x:D}(h:∃p,pD S 30 x=some p):Gr x x S=.ok (.bl false) S:=by
 obtain⟨p,h⟩:=h;exact tI h h
theorem BW(s:St)(S:List Cell):Gr (.str (MU s)) (.str (MU s)) S=.ok (.bl false) S:=by
 refine w9 ?_;cases s with
 |G4=>exact⟨.str "shut",by simp only[pD];rw[if_pos (by decide +kernel)];rfl⟩
 |opening=>exact⟨.str "opening",by simp only[pD];rw[if_pos (by decide +kernel)];rfl⟩
 |opened=>exact⟨.str "open",by simp only[pD];rw[if_pos (by decide +kernel)];rfl⟩
end
end Lw
namespace Lw
open PySem L2 DL
def Ad.df(a:Ad):List Nat:=[a.n,a.nT,a.nB]
def Ad.ff(a:Ad):List Nat:=a.sf++a.hf++a.df
def Ad.Jq(a:Ad)(r:Bool)(l:Nat):Ad:=if r then { a with nT:=l } else { a with nB:=l }
def Ja(a:Ad):List (Key×D):=[(.inr "there",.ob a.nT),(.inr "back",.ob a.nB),(.inr "sender",.ob a.nS),(.inr "hearer",.ob a.nH)]
structure Hg(G:Cs)(S:List Cell)(a:Ad)(w:WW):Prop where
 ob:S[a.n]?=some (.FN (Ja a))
 sr:EX G S a.nS a.mS a.pS a.qS w.s
 hr:Fi G S a.nH a.gH a.eH a.bH w.h
 tt:S[a.nT]?=some (.lst (w.T.map FH))
 bb:S[a.nB]?=some (.lst (w.B.map FH))
 sh:∀i,i∈a.sf->∀j,j∈a.hf->i≠j
 sd:∀i,i∈a.sf->∀j,j∈a.df->i≠j
 hd:∀i,i∈a.hf->∀j,j∈a.df->i≠j
structure Iy(G:Cs)(a:Ad)(S:List Cell)(a':Ad)(S':List Cell)(w':WW):Prop where
 at_:Hg G S' a' w'
 fr:Fr a.ff S S'
 nn:a'.n=a.n
 ad:∀i,i∈a'.ff->i∈a.ff\/S.length<=i
section
variable{G:Cs}{S S' S1 S2:List Cell}{a a' a1 a2 b b':Ad}{w w' w1 w2 v v':WW}{N:Nat}
theorem xU{i p q r:Nat}:i∈[p,q,r]↔i=p\/i=q\/i=r:=by simp
theorem Hg.lt(A:Hg G S a w):∀i,i∈a.ff->i<S.length:=by
 intro i hi;simp only[Ad.ff,Ad.sf,Ad.hf,Ad.df,List.mem_append,lg,xU] at hi;rcases hi with ((rfl|rfl|rfl|rfl)|(rfl|rfl|rfl|rfl))|(rfl|rfl|rfl)
 ·exact aT A.sr.ob
 ·exact aT A.sr.ms
 ·exact aT A.sr.ps
 ·exact aT A.sr.nt
 ·exact aT A.hr.ob
 ·exact aT A.hr.gv
 ·exact aT A.hr.ea
 ·exact aT A.hr.be
 ·exact aT A.ob
 ·exact aT A.tt
 ·exact aT A.bb
theorem Ad.NW{a:Ad}{i:Nat}(h:i∈a.sf):i∈a.ff:=by simp only[Ad.ff,List.mem_append];exact .inl (.inl h)
theorem Ad.NX{a:Ad}{i:Nat}(h:i∈a.hf):i∈a.ff:=by simp only[Ad.ff,List.mem_append];exact .inl (.inr h)
theorem Ad.MZ{a:Ad}{i:Nat}(h:i∈a.df):i∈a.ff:=by simp only[Ad.ff,List.mem_append];exact .inr h
theorem Hg.fr{fp:List Nat}(A:Hg G S a w)(f:Fr fp S S')(h:∀i,i∈a.ff->i∉fp):Hg G S' a w:=by
 have hs:∀i,i∈a.sf->i∉fp:=fun i hi=>h i (Ad.NW hi)
 have hh:∀i,i∈a.hf->i∉fp:=fun i hi=>h i (Ad.NX hi)
 have hw:∀i,i∈a.df->i∉fp:=fun i hi=>h i (Ad.MZ hi)
 exact⟨f.get A.ob (hw _ (by simp[Ad.df])),A.sr.fr f hs,A.hr.fr f (hh _ (by simp[Ad.hf])) (hh _ (by simp[Ad.hf])) (hh _ (by simp[Ad.hf])) (hh _ (by simp[Ad.hf])),f.get A.tt (hw _ (by simp[Ad.df])),f.get A.bb (hw _ (by simp[Ad.df])),A.sh,A.sd,A.hd⟩
theorem Hg.push(A:Hg G S a w)(c:List Cell):Hg G (S++c) a w:=A.fr (fp:=[]) Fr.push fun _ _ z=>nomatch z
theorem Hg.grow(A:Hg G S a w)(f:Fr [] S S'):Hg G S' a w:=A.fr f fun _ _ z=>nomatch z
theorem Iy.refl(A:Hg G S a w):Iy G a S a S w:=⟨A,Fr.refl _ _,rfl,fun i hi=>.inl hi⟩
theorem Iy.trans(A:Iy G a S a1 S1 w1)(C:Iy G a1 S1 a2 S2 w2):Iy G a S a2 S2 w2:=by
 have hl:=A.fr.1;refine⟨C.at_,A.fr.trans C.fr fun i hi hs=>?_,C.nn.trans A.nn,fun i hi=>?_⟩
 ·rcases A.ad i hi with h|h
  ·exact h
  ·omega
 ·rcases C.ad i hi with h|h
  ·exact A.ad i h
  ·exact .inr (by omega)
theorem Iy.grow(A:Iy G a S1 a' S' w')(h:Fr [] S S1):Iy G a S a' S' w':=by
 have hl:=h.1;refine⟨A.at_,(h.mono fun i hi _=>nomatch hi).tr A.fr,A.nn,fun i hi=>?_⟩;rcases A.ad i hi with z|z
 ·exact .inl z
 ·exact .inr (by omega)
theorem Hg.snd(A:Hg G S a w){p' q':Nat}{s':Sr}(k:FX G a.nS a.mS a.pS a.qS S p' q' S' s'):Iy G a S { a with pS:=p',qS:=q' } S' { w with s:=s' }:=by
 have Tg:∀i,i∈a.df->i<S.length:=fun i hi=>A.lt i (Ad.MZ hi)
 have S_:∀i,i∈a.hf->i<S.length:=fun i hi=>A.lt i (Ad.NX hi)
 have GJ:∀i,i∈[a.nS,a.mS,p',q']->i∈a.sf\/S.length<=i:=fun i hi=>by
  have h1:=k.p_;have h2:=k.q_;simp only[lg,Ad.sf] at hi ⊢;rcases hi with rfl|rfl|rfl|rfl
  ·exact .inl (.inl rfl)
  ·exact .inl (.inr (.inl rfl))
  ·rcases h1 with rfl|h1
   ·exact .inl (.inr (.inr (.inl rfl)))
   ·exact .inr h1
  ·rcases h2 with rfl|h2
   ·exact .inl (.inr (.inr (.inr rfl)))
   ·exact .inr h2
 have od:∀j,j∈a.df->j∉[a.nS,a.mS,a.pS,a.qS]:=fun j hj z=>A.sd j z j hj rfl
 have oh:∀j,j∈a.hf->j∉[a.nS,a.mS,a.pS,a.qS]:=fun j hj z=>A.sh j z j hj rfl
 refine⟨⟨k.fr.get A.ob (od _ (by simp[Ad.df])),k.at_,A.hr.fr k.fr (oh _ (by simp[Ad.hf])) (oh _ (by simp[Ad.hf])) (oh _ (by simp[Ad.hf])) (oh _ (by simp[Ad.hf])),k.fr.get A.tt (od _ (by simp[Ad.df])),k.fr.get A.bb (od _ (by simp[Ad.df])),fun i hi j hj=>?_,fun i hi j hj=>?_,A.hd⟩,k.fr.mono (fun i hi _=>Ad.NW hi),rfl,fun i hi=>?_⟩
 ·rcases GJ i hi with h|h
  ·exact A.sh i h j hj
  ·have:=S_ j hj;omega
 ·rcases GJ i hi with h|h
  ·exact A.sd i h j hj
  ·have:=Tg j hj;omega
 ·simp only[Ad.ff,List.mem_append] at hi ⊢;rcases hi with (hi|hi)|hi
  ·rcases GJ i hi with h|h
   ·exact .inl (.inl (.inl h))
   ·exact .inr h
  ·exact .inl (.inl (.inr hi))
  ·exact .inl (.inr hi)
theorem Hg.QC(A:Hg G S a w){e' b':Nat}{h':Hr}(k:FF G a.nH a.gH a.eH a.bH S e' b' S' h'):Iy G a S { a with eH:=e',bH:=b' } S' { w with h:=h' }:=by
 have Tg:∀i,i∈a.df->i<S.length:=fun i hi=>A.lt i (Ad.MZ hi)
 have Ta:∀i,i∈a.sf->i<S.length:=fun i hi=>A.lt i (Ad.NW hi)
 have GJ:∀i,i∈[a.nH,a.gH,e',b']->i∈a.hf\/S.length<=i:=fun i hi=>by
  have h1:=k.e_;have h2:=k.b_;simp only[lg,Ad.hf] at hi ⊢;rcases hi with rfl|rfl|rfl|rfl
  ·exact .inl (.inl rfl)
  ·exact .inl (.inr (.inl rfl))
  ·rcases h1 with rfl|h1
   ·exact .inl (.inr (.inr (.inl rfl)))
   ·exact .inr h1
  ·rcases h2 with rfl|h2
   ·exact .inl (.inr (.inr (.inr rfl)))
   ·exact .inr h2
 have od:∀j,j∈a.df->j∉[a.nH,a.gH,a.eH,a.bH]:=fun j hj z=>A.hd j z j hj rfl
 have os:∀j,j∈a.sf->j∉[a.nH,a.gH,a.eH,a.bH]:=fun j hj z=>A.sh j hj j z rfl
 refine⟨⟨k.fr.get A.ob (od _ (by simp[Ad.df])),A.sr.fr k.fr os,k.at_,k.fr.get A.tt (od _ (by simp[Ad.df])),k.fr.get A.bb (od _ (by simp[Ad.df])),fun i hi j hj=>?_,A.sd,fun i hi j hj=>?_⟩,k.fr.mono (fun i hi _=>Ad.NX hi),rfl,fun i hi=>?_⟩
 ·rcases GJ j hj with h|h
  ·exact A.sh i hi j h
  ·have:=Ta i hi;omega
 ·rcases GJ i hi with h|h
  ·exact A.hd i h j hj
  ·have:=Tg j hj;omega
 ·simp only[Ad.ff,List.mem_append] at hi ⊢;rcases hi with (hi|hi)|hi
  ·exact .inl (.inl (.inl hi))
  ·rcases GJ i hi with h|h
   ·exact .inl (.inl (.inr h))
   ·exact .inr h
  ·exact .inl (.inr hi)
theorem Hg.cell(A:Hg G S a w)(r:Bool):S[a.rn r]?=some (.lst ((w.road r).map FH)):=by
 cases r with
 |true=>exact A.tt
 |false=>exact A.bb
theorem pZ(k:Key)(d:D)(l:List (Key×D)):eR ((k,d) :: l) k=some d:=by
 unfold eR;rw[List.find?_cons];simp
theorem j6{k k':Key}(h:decide (k'=k)=false)(d:D)(l:List (Key×D)):eR ((k',d) :: l) k=eR l k:=by
 unfold eR;rw[List.find?_cons,h]
theorem tT{k:Str}{d:D}(h:S[a.n]?=some (.FN (Ja a)))(hv:eR (Ja a) (.inr k)=some d):bV (.ob a.n) (.str k) S=.ok d S:=by
 unfold bV;simp only[gK,dZ h,hv]
theorem DQ(a:Ad):eR (Ja a) (.inr "there")=some (.ob a.nT):=pZ _ _ _
theorem DO(a:Ad):eR (Ja a) (.inr "back")=some (.ob a.nB):=(j6 (by decide +kernel) _ _).trans (pZ _ _ _)
theorem Ec(a:Ad):eR (Ja a) (.inr "sender")=some (.ob a.nS):=(j6 (by decide +kernel) _ _).trans ((j6 (by decide +kernel) _ _).trans (pZ _ _ _))
theorem Ei(a:Ad):eR (Ja a) (.inr "hearer")=some (.ob a.nH):=(j6 (by decide +kernel) _ _).trans ((j6 (by decide +kernel) _ _).trans ((j6 (by decide +kernel) _ _).trans (pZ _ _ _)))
theorem Hg.dr(A:Hg G S a w)(r:Bool):bV (.ob a.n) (.str (aR r)) S=.ok (.ob (a.rn r)) S:=by
 cases r with
 |true=>exact tT A.ob (DQ a)
 |false=>exact tT A.ob (DO a)
theorem Hg.ds(A:Hg G S a w):bV (.ob a.n) (.str "sender") S=.ok (.ob a.nS) S:=tT A.ob (Ec a)
theorem Hg.dh(A:Hg G S a w):bV (.ob a.n) (.str "hearer") S=.ok (.ob a.nH) S:=tT A.ob (Ei a)
theorem CG(a:Ad)(r:Bool)(l:Nat):mB (Ja a) (.inr (aR r)) (.ob l)=Ja (a.Jq r l):=by
 have n1:¬(Sum.inr ("there":Str):Key)=Sum.inr ("back":Str):=by decide +kernel
 have n2:¬(Sum.inr ("sender":Str):Key)=Sum.inr ("there":Str):=by decide +kernel
 have n3:¬(Sum.inr ("hearer":Str):Key)=Sum.inr ("there":Str):=by decide +kernel
 have n4:¬(Sum.inr ("sender":Str):Key)=Sum.inr ("back":Str):=by decide +kernel
 have n5:¬(Sum.inr ("hearer":Str):Key)=Sum.inr ("back":Str):=by decide +kernel
 have n6:¬(Sum.inr ("back":Str):Key)=Sum.inr ("there":Str):=by decide +kernel
 cases r with
 |true=>
  show mB (Ja a) (.inr "there") (.ob l)=_;unfold mB;rw[if_pos (by unfold Ja;rw[List.any_cons,decide_eq_true rfl];rfl)];show [_,_,_,_]=_;dsimp only;rw[if_pos rfl,if_neg n6,if_neg n2,if_neg n3];rfl
 |false=>
  show mB (Ja a) (.inr "back") (.ob l)=_;unfold mB;rw[if_pos (by unfold Ja;rw[List.any_cons,List.any_cons,decide_eq_true rfl];simp)];show [_,_,_,_]=_;dsimp only;rw[if_neg n1,if_pos rfl,if_neg n4,if_neg n5];rfl
theorem Hg.put{S0:List Cell}(A:Hg G S0 a w)(f:Fr [] S0 S)(r:Bool){l:Nat}{L:List En}(hl:S0.length<=l)(h1:S[l]?=some (.lst (L.map FH))) :
  ∃S',gq (.ob a.n) (.str (aR r)) (.ob l) S=some S'/\Iy G a S0 (a.Jq r l) S' (w.Fc r L):=by
 have A1:=A.grow f;have c:Ch a.n (.FN (Ja (a.Jq r l))) S (S.set a.n (.FN (Ja (a.Jq r l)))):=Ch.set A1.ob;have Iw:∀i,i∈a.ff->i<S0.length:=A.lt;have nl:l≠a.n:=fun z=>by have:=Iw a.n (Ad.MZ (by simp[Ad.df]));omega
 refine⟨S.set a.n (.FN (Ja (a.Jq r l))),?_,?_⟩
 ·unfold gq;simp only[gK,dZ A1.ob,CG];exact cg (Ms (by show 4<=1000000;decide))
 ·have sf:(a.Jq r l).sf=a.sf:=by cases r<;>rfl
  have hf:(a.Jq r l).hf=a.hf:=by cases r<;>rfl
  have nn:(a.Jq r l).n=a.n:=by cases r<;>rfl
  have os:∀j,j∈a.sf->j∉[a.n]:=fun j hj z=>A.sd j hj _ (by simp[Ad.df]) (List.mem_singleton.mp z)
  have oh:∀j,j∈a.hf->j∉[a.n]:=fun j hj z=>A.hd j hj _ (by simp[Ad.df]) (List.mem_singleton.mp z)
  have dn:∀j,j∈(a.Jq r l).df->j∈a.df\/j=l:=fun j hj=>by
   cases r with
   |true=>
    have:j∈[a.n,l,a.nB]:=hj;simp only[xU,Ad.df] at this ⊢;rcases this with rfl|rfl|rfl
    ·exact .inl (.inl rfl)
    ·exact .inr rfl
    ·exact .inl (.inr (.inr rfl))
   |false=>
    have:j∈[a.n,a.nT,l]:=hj;simp only[xU,Ad.df] at this ⊢;rcases this with rfl|rfl|rfl
    ·exact .inl (.inl rfl)
    ·exact .inl (.inr (.inl rfl))
    ·exact .inr rfl
  have nT:a.nT≠a.n:=dA A.tt A.ob (by intro z;cases z);have nB:a.nB≠a.n:=dA A.bb A.ob (by intro z;cases z);have Wj:=c.old h1 (Ne.symm nl);refine⟨⟨by rw[nn];exact c.at_,?_,?_,?_,?_,by rw[sf,hf];exact A.sh,fun i hi j hj=>?_,fun i hi j hj=>?_⟩,?_,nn,fun i hi=>?_⟩
  ·have:=A1.sr.fr c.fr os;cases r<;>exact this
  ·have:=A1.hr.fr c.fr (oh _ (by simp[Ad.hf])) (oh _ (by simp[Ad.hf])) (oh _ (by simp[Ad.hf])) (oh _ (by simp[Ad.hf]));cases r<;>exact this
  ·cases r with
   |true=>exact Wj
   |false=>exact c.old A1.tt (Ne.symm nT)
  ·cases r with
   |true=>exact c.old A1.bb (Ne.symm nB)
   |false=>exact Wj
  ·rw[sf] at hi;rcases dn j hj with h|rfl
   ·exact A.sd i hi j h
   ·have:=Iw i (Ad.NW hi);omega
  ·rw[hf] at hi;rcases dn j hj with h|rfl
   ·exact A.hd i hi j h
   ·have:=Iw i (Ad.NX hi);omega
  ·exact(f.mono fun i hi _=>nomatch hi).tr (c.fr.mono fun i hi _=>by rw[List.mem_singleton.mp hi];exact Ad.MZ (by simp[Ad.df]))
  ·simp only[Ad.ff,List.mem_append,sf,hf] at hi ⊢;rcases hi with (hi|hi)|hi
   ·exact .inl (.inl (.inl hi))
   ·exact .inl (.inl (.inr hi))
   ·rcases dn i hi with h|rfl
    ·exact .inl (.inr h)
    ·exact .inr hl
end
end Lw
namespace Lw
open PySem L2 DL
section
variable{S S' S1 S2:List Cell}
theorem zS{α:Type}{p q:α->D}{tg:JE}{fe:o_->M D}{r0:o_}{g:Option (Nat×List D)}(hg:Ig g S):∀(l:List α) (ys:List D),ys.length+l.length<=1000000->
  (∀m,m∈l->∃r1,tg (p m) r0=some r1/\∀zs,fe r1 (S++[.lst zs])=.ok (q m) (S++[.lst zs]))->
  fu tg gD fe S.length g r0 (l.map p) (S++[.lst ys])=.ok () (S++[.lst (ys++l.map q)])
 |[],ys,_,_=>by
  rw[List.map_nil,List.map_nil,List.append_nil];rfl
 |m :: l,ys,hz,hx=>by
  rw[List.length_cons] at hz;obtain⟨r1,t1,t2⟩:=hx m List.mem_cons_self;have HP:(S++[Cell.lst ys]).set S.length (.lst (ys++[q m]))=S++[.lst (ys++[q m])]:=by
   rw[List.set_append_right _ _ (Nat.le_refl _)];simp
  have Q3:Ig g (S++[Cell.lst (ys++[q m])]):=by
   cases g with
   |none=>trivial
   |some p=>exact aG hg
  have ih:=zS hg l (ys++[q m]) (by rw[List.length_append,List.length_singleton];omega) (fun y hy=>hx y (List.mem_cons_of_mem _ hy));rw[List.map_cons];unfold fu;rw[t1];dsimp only;show(match fe r1 (S++[Cell.lst ys]) with
   |.ok d S2=>(match S2[S.length]? with
    |some (.lst ys)=>G5 (ys.length<sizeLine/\Ig g (S2.set S.length (.lst (ys++[d])))) (fu tg gD fe S.length g r0 (l.map p) (S2.set S.length (.lst (ys++[d])))) .bad
    |_=>.bad)
   |_=>.bad)=_
  rw[t2];dsimp only;rw[aW];dsimp only;rw[HP,cg ⟨Ms (by omega),Q3⟩,ih,List.append_assoc];rfl
theorem uE{α:Type}{p q:α->D}{f:o_->M Wk}{tg:JE}{fe:o_->M D}{own:Nat}{caps:List Nat}{r:o_}{g:Option (Nat×List D)}{l:List α}(h1:f r S=.ok ⟨l.map p,g⟩ S1)(hg:Ig g S1)(hz:l.length<=1000000)
  (hx:∀m,m∈l->∃r1,tg (p m) (iM own caps r)=some r1/\∀zs,fe r1 (S1++[.lst zs])=.ok (q m) (S1++[.lst zs])):eE f tg gD fe own caps r S=.ok (.ob S1.length) (S1++[.lst (l.map q)]):=by
 unfold eE;rw[aw,h1];dsimp only;rw[zS hg l [] (by simpa using hz) hx];rfl
theorem wq{t u:o_->M Bool}{r:o_}{b:Bool}(h1:t r S=.ok false S1)(h2:u r S1=.ok b S2):G9 t u r S=.ok b S2:=by
 simp[h1,h2]
end
end Lw
namespace Lw
open PySem L2 DL
section
variable{G:Cs}{S S' S1 S2:List Cell}{a a' a1 a2 b b':Ad}{w w' w1 w2 v v':WW}{N:Nat}
theorem Hg.dT(A:Hg G S a w):bV (.ob a.n) (.str "there") S=.ok (.ob a.nT) S:=A.dr true
theorem o0{f:o_->M Wk}{l:Nat}{cs:List x_}{r:o_}(h:f r S=.ok ⟨cs.map l_,some (l,cs.map l_)⟩ S1)(hl:S1[l]?=some (.lst (cs.map l_)))(hc:∀c,c∈cs->IF c)(hz:cs.length<=1000000) :
  eE f (gN 0) gD (cf (ac (am (cP G) (ac (aa 0) ai)) (ac (dC (.bl false)) ai))) 1 [] r S=.ok (.ob S1.length) (S1++[.lst ((cs.map gd).map FH)]):=by
 have e:=uE (q:=fun c:x_=>FH (gd c)) (tg:=gN 0) (fe:=cf (ac (am (cP G) (ac (aa 0) ai)) (ac (dC (.bl false)) ai))) (own:=1) (caps:=[]) h hl hz (by
  intro c YM;exact⟨[some (l_ c)],rfl,fun zs=>bQ (ag (ay (ag rfl aj) (qG (hc c YM) _)) (ag rfl aj)) (by simp)⟩)
 rw[e,List.map_map];rfl
theorem wz(A:Hg G S a w)(k:Iy G a S a1 S1 w1)(r:Bool){cs:List x_}{cp:o_->M D}{rr:o_}(YN:a1.rn r=a.rn r)(h0:∀T,aa 0 rr T=.ok (.ob a.n) T)(hc:cp rr S=.ok (.ob S1.length) (S1++[.lst ((cs.map gd).map FH)]))(hz:(w1.road r).length+cs.length<=1000000) :
  ∃S' a',kt gq (aa 0) (dC (.str (aR r))) (f_ bJ (f_ bV (aa 0) (dC (.str (aR r)))) cp) rr S=some (.nx rr,S')/\Iy G a S a' S' (w1.Fc r (w1.road r++cs.map gd)):=by
 obtain⟨S2,KC⟩:∃S2,S1++[Cell.lst ((cs.map gd).map FH)]=S2:=⟨_,rfl⟩;rw[KC] at hc;have YO:S2[a.rn r]?=some (.lst ((w1.road r).map FH)):=by rw[<-KC,<-YN];exact aG (k.at_.cell r)
 have n2:S2[S1.length]?=some (.lst ((cs.map gd).map FH)):=by rw[<-KC];exact aW
 have ad:=j8 YO n2 (by simp only[List.length_append,List.length_map];exact hz);rw[<-List.map_append] at ad;obtain⟨S3,Kf⟩:∃S3,S2++[Cell.lst ((w1.road r++cs.map gd).map FH)]=S3:=⟨_,rfl⟩;rw[Kf] at ad;have f3:Fr [] S1 S3:=by rw[<-Kf,<-KC];exact Fr.push.tr Fr.push
 obtain⟨S4,p4,k4⟩:=k.at_.put f3 r (l:=S2.length) (L:=w1.road r++cs.map gd) (by rw[<-KC,List.length_append];omega) (by rw[<-Kf];exact aW);rw[k.nn] at p4;exact⟨S4,_,lI (ar (ar (h0 S) rfl (A.dr r)) hc ad) (h0 S3) rfl p4,k.trans k4⟩
theorem A5(A:Hg G S a w)(K:Ge N w)(hN:N<=20000){x1:Option D} :
  ∃S' a',kt gq (aa 0) (dC (.str "there")) (f_ bJ (f_ bV (aa 0) (dC (.str "there"))) (eE (Hd (aV G.c_ a_ (cO G) (f_ bV (aa 0) (dC (.str "sender"))) ai)) (gN 0) gD (cf (ac (am (cP G) (ac (aa 0) ai)) (ac (dC (.bl false)) ai))) 1 [])) [some (.ob a.n),x1] S=some (.nx [some (.ob a.n),x1],S')/\Iy G a S a' S' (w.act .tick):=by
 have hp:=K.sb.pl;obtain⟨S1,l,e,k,hl,GJ⟩:=xh A.sr K.w0 (by omega) (fun _=>K.bl);have k1:=A.snd k;obtain⟨t1,t2⟩:=uj K hN;have tl:=K.tl;have w1:Hd (aV G.c_ a_ (cO G) (f_ bV (aa 0) (dC (.str "sender"))) ai) [some (.ob a.n),x1] S=.ok ⟨w.s.tick.map l_,some (l,w.s.tick.map l_)⟩ S1:=by
  rw[jY,aw,aS (ar rfl rfl A.ds) A.sr.ob aj e];show iC (.ob l) S1=_;simp only[iC,hl]
 exact wz A k1 true rfl (fun _=>rfl) (o0 (G:=G) w1 hl (fun c hc=>(t1 c hc).1) (by omega)) (by show w.T.length+_<=_;omega)
def Th(e:En):D:=match e.x with
 |none=>l_ e.c
 |some _=>.B_
theorem zt{e:En}(he:Mh N e)(S:List Cell):jD G [.tup (e.xs.map D.int)] S=.ok (Th e) S:=by
 show fin S (kz G [some (.tup (e.xs.map D.int)),none] S)=_;unfold kz;rw[ax (bB rfl)];show fin S (aN _ _ [some (.tup (e.xs.map D.int)),some .B_] S)=_;obtain⟨c,x⟩:=e;cases x with
 |some xs=>
  have MC:=xF (G:=G) (xs:=xs) (Nat.le_trans he.2.2.1 (by decide)) (he.2.2.2 xs rfl) S;have t1:pG [G.Ff] (cj (am (gJ G) (ac (aa 0) ai)) (gN 1)) (cj (dC .B_) (gN 1)) [some (.tup (xs.map D.int)),some .B_] S=some (.nx [some (.tup (xs.map D.int)),some .B_],S):=by
   have e3:cj (am (gJ G) (ac (aa 0) ai)) (gN 1) [some (.tup (xs.map D.int)),some .B_] S=some (.xc G.Ff [some (.tup (xs.map D.int)),some .B_],S):=by
    unfold cj;rw[pV,ay (ag rfl aj) MC]
   unfold pG;rw[e3];simp[SI]
  show fin S (aN _ _ [some (.tup (xs.map D.int)),some .B_] S)=_;rw[ax t1];exact congrArg (fin S) (aP rfl)
 |none=>
  have MC:=wW (G:=G) he.1 S;have t1:pG [G.Ff] (cj (am (gJ G) (ac (aa 0) ai)) (gN 1)) (cj (dC .B_) (gN 1)) [some (.tup ((FR (aB c)).map D.int)),some .B_] S=some (.nx [some (.tup ((FR (aB c)).map D.int)),some (l_ c)],S):=by
   unfold pG;rw[bB (ay (ag rfl aj) MC)];rfl
  show fin S (aN _ _ [some (.tup ((FR (aB c)).map D.int)),some .B_] S)=_;rw[ax t1];exact congrArg (fin S) (aP rfl)
theorem vV{f:o_->M D}{fl fh:o_->M (Option Int)}{r:o_}{n:Nat}{xs:List D}{lo hi:Option Int}(h:f r S=.ok (.ob n) S)(hn:S[n]?=some (.lst xs))(h1:fl r S=.ok lo S)(h2:fh r S=.ok hi S):GF FZ f fl fh r S=.ok (.ob S.length) (S++[.lst (gr xs lo hi)]):=by
 simp[h,h1,h2,FZ,cc hn]
theorem Bg(A:Hg G S a w)(K:Ge N w)(hN:N<20000)(r:Bool):∃S' a',jy G [.ob a.n,.str (aR r)] S=.ok .B_ S'/\Iy G a S a' S' (w.act (.step r)):=by
 show ∃S' a',fin S (kR G [some (.ob a.n),some (.str (aR r)),none] S)=_/\Iy G a S a' S' (w.step r);unfold kR;have tr:qX (.ob (a.rn r)) S=.ok (!((w.road r).map FH).isEmpty) S:=by simp only[qX,A.cell r]
 have t1:dc (bW (f_ bV (aa 0) (aa 1))) [some (.ob a.n),some (.str (aR r)),none] S=.ok ((w.road r).map FH).isEmpty S:=by
  rw[da,aw,cU,aw,ar rfl rfl (A.dr r)];dsimp only;rw[tr];dsimp only;rw[j0,Bool.not_not]
 unfold WW.step;cases hr:w.road r with
 |nil=>
  rw[hr] at t1;exact⟨S,a,congrArg (fin S) (di (by rw[aQ t1];exact aP rfl)),Iy.refl A⟩
 |cons e l=>
  rw[hr] at t1;rw[ax (by rw[av t1];rfl)];have EZ:=A.cell r;rw[hr] at EZ;have hk:=K.rd r e (by rw[hr];exact List.mem_cons_self);have ix:f_ t_ (f_ t_ (f_ bV (aa 0) (aa 1)) (dC (.int 0))) (dC (.int 0)) [some (.ob a.n),some (.str (aR r)),none] S=.ok (.tup (e.xs.map D.int)) S:=ar (ar (ar rfl rfl (A.dr r)) rfl (gg (i:=0) EZ rfl)) rfl (aL (i:=0) rfl);rw[ax (bB (ay (ag ix aj) (zt hk S)))];show ∃S' a',fin S (aN _ _ [some (.ob a.n),some (.str (aR r)),some (Th e)] S)=_/\_;have cut:gr ((e :: l).map FH) (some 1) none=l.map FH:=eO (xs:=(e :: l).map FH) (k:=1) (by simp);have sl:=vV (f:=f_ bV (aa 0) (aa 1)) (fl:=bI (dC (.int 1))) (fh:=bz) (r:=[some (.ob a.n),some (.str (aR r)),some (Th e)]) (ar rfl rfl (A.dr r)) EZ rfl rfl;rw[cut] at sl;obtain⟨S1,p1,k1⟩:=A.put (S:=S++[.lst (l.map FH)]) Fr.push r (l:=S.length) (L:=l) (Nat.le_refl _) aW;rw[ax (lI sl rfl rfl p1)];have K1:Ge N (w.Fc r l):=by
   have h1:=K.rd r;have h2:=K.rl r;rw[hr] at h1 h2;rw[List.length_cons] at h2;exact K.Fc r (fun d hd=>h1 d (List.mem_cons_of_mem _ hd)) (by omega)
  have A1:=k1.at_;have Ti:(a.Jq r S.length).n=a.n:=k1.nn;obtain⟨a1,NG⟩:∃a1,a.Jq r S.length=a1:=⟨_,rfl⟩;obtain⟨u,hu⟩:∃u,w.Fc r l=u:=⟨_,rfl⟩;rw[NG] at k1 A1 Ti;rw[hu] at k1 A1 K1;show ∃S' a',_/\Iy G a S a' S' ((w.Fc r l).GU r e);rw[hu];obtain⟨c,x⟩:=e;cases x with
  |some xs=>
   refine⟨S1,a1,?_,k1⟩;have t2:dg (ao (f_ iE (aa 2) (dC .B_))) (ao (f_ EE (aa 1) (dC (.str "there")))) [some (.ob a.n),some (.str (aR r)),some .B_] S1=.ok false S1:=rfl;have t3:ao (f_ iE (aa 2) (dC .B_)) [some (.ob a.n),some (.str (aR r)),some .B_] S1=.ok false S1:=rfl;show fin S (aN _ _ [some (.ob a.n),some (.str (aR r)),some .B_] S1)=_;rw[ax (by rw[av t2,av t3];rfl)];exact congrArg (fin S) (aP rfl)
  |none=>
   have EI:IF c:=hk.1;show ∃S' a',fin S (aN _ _ [some (.ob a.n),some (.str (aR r)),some (l_ c)] S1)=_/\_;have nn:ao (f_ iE (aa 2) (dC .B_)) [some (.ob a.n),some (.str (aR r)),some (l_ c)] S1=.ok true S1:=by cases c<;>rfl
   cases r with
   |true=>
    have y1:dg (ao (f_ iE (aa 2) (dC .B_))) (ao (f_ EE (aa 1) (dC (.str "there")))) [some (.ob a.n),some (.str (aR true)),some (l_ c)] S1=.ok true S1:=by
     rw[cK,aw,nn];exact az (ar rfl rfl (show EE (.str "there") (.str "there") S1=.ok (.bl true) S1 from bi))
    obtain⟨S2,e',b',l2,q1,kh,o1⟩:=vq A1.hr (by rw[K1.hw];exact K1.w0) (by rw[K1.hw];have:=K1.w7;omega) K1.bd hN EI.Pb;have k2:=A1.QC kh;obtain⟨h1,h2,h3⟩:=qf K1 (by omega) EI hk.2.1;have ql:=K1.ql;have w1:Hd (aV G.g_ d_ (cX G) (f_ bV (aa 0) (dC (.str "hearer"))) (ac (aa 2) ai)) [some (.ob a1.n),some (.str (aR true)),some (l_ c)] S1=.ok ⟨(u.h.s_ c).2.map l_,some (l2,(u.h.s_ c).2.map l_)⟩ S2:=by
     rw[jY,aw,aS (ar rfl rfl A1.dh) A1.hr.ob (ag rfl aj) q1];show iC (.ob l2) S2=_;simp only[iC,o1.at_]
    obtain⟨S3,a3,e3,k3⟩:=wz A1 k2 false rfl (fun _=>rfl) (o0 (G:=G) w1 o1.at_ (fun d hd=>(h1 d hd).1) (by omega)) (by show u.B.length+_<=_;omega);rw[Ti] at e3;refine⟨S3,a3,?_,k1.trans k3⟩;rw[ax (by rw[aQ y1];exact e3)];exact congrArg (fin S) (aP rfl)
   |false=>
    have y1:dg (ao (f_ iE (aa 2) (dC .B_))) (ao (f_ EE (aa 1) (dC (.str "there")))) [some (.ob a.n),some (.str (aR false)),some (l_ c)] S1=.ok false S1:=by
     rw[cK,aw,nn];exact az (ar rfl rfl (show EE (.str "back") (.str "there") S1=.ok (.bl false) S1 from bi))
    obtain⟨S2,p',q',l2,q1,ks,Mz,GJ⟩:=uU A1.sr K1.sb (by omega) K1.w0 EI.Ld;have k2:=A1.snd ks;have tl:=K1.tl;have w1:Hd (aV G.c_ a_ (cZ G) (f_ bV (aa 0) (dC (.str "sender"))) (ac (aa 2) ai)) [some (.ob a1.n),some (.str (aR false)),some (l_ c)] S1=.ok ⟨([]:List x_).map l_,some (l2,([]:List x_).map l_)⟩ S2:=by
     rw[jY,aw,aS (ar rfl rfl A1.ds) A1.sr.ob (ag rfl aj) q1];show iC (.ob l2) S2=_;simp only[iC,Mz];rfl
    obtain⟨S3,a3,e3,k3⟩:=wz (cs:=[]) A1 k2 true rfl (fun _=>rfl) (o0 (G:=G) (cs:=[]) w1 Mz (fun d hd=>nomatch hd) (by simp)) (by show u.T.length+0<=_;omega);rw[Ti] at e3;have eu:({ u with s:=u.s.s_ c }:WW).Fc true (({ u with s:=u.s.s_ c }:WW).road true++([]:List x_).map gd)=u.GU false ⟨c,none⟩:=by
     show({ s:=u.s.s_ c,h:=u.h,T:=u.T++[],B:=u.B }:WW)=_;rw[List.append_nil];rfl
    rw[eu] at k3;refine⟨S3,a3,?_,k1.trans k3⟩;rw[ax (by rw[av y1,aQ nn];exact e3)];exact congrArg (fin S) (aP rfl)
end
end Lw
namespace Lw
open PySem L2 DL
section
variable{G:Cs}{S S' S1 S2:List Cell}{a a' a1 a2 b b':Ad}{w w' w1 w2 v v':WW}{N:Nat}
theorem mh(w:WW)(r:Bool):w.Fc r (w.road r)=w:=by cases r<;>rfl
theorem wG(A:Hg G S a w)(r:Bool){X Y:List En}{f g fi:o_->M D}{rr:o_}{n1 n2:Nat}(h0:∀T,aa 0 rr T=.ok (.ob a.n) T)(hi:∀T,fi rr T=.ok (.str (aR r)) T)
  (hf:f rr S=.ok (.ob n1) S1) (x1:S1[n1]?=some (.lst (X.map FH))) (f1:Fr [] S S1) (hg:g rr S1=.ok (.ob n2) S2) (x2:S2[n2]?=some (.lst (Y.map FH))) (f2:Fr [] S1 S2) (hz:X.length+Y.length<=1000000) :
  ∃S' a',kt gq (aa 0) fi (f_ bJ f g) rr S=some (.nx rr,S')/\Iy G a S a' S' (w.Fc r (X++Y)):=by
 have ad:=j8 (f2.get x1 (by simp)) x2 (by simp only[List.length_append,List.length_map];exact hz);rw[<-List.map_append] at ad;obtain⟨S3,Kf⟩:∃S3,S2++[Cell.lst ((X++Y).map FH)]=S3:=⟨_,rfl⟩;rw[Kf] at ad;have f3:Fr [] S S3:=(f1.tr f2).tr (by rw[<-Kf];exact Fr.push);have l1:=f1.1;have l2:=f2.1;obtain⟨S4,p4,k4⟩:=A.put f3 r (l:=S2.length) (L:=X++Y) (by omega) (by rw[<-Kf];exact aW);exact⟨S4,_,lI (ar hf hg ad) (h0 S3) (hi S3) p4,k4⟩
theorem y8(t:LA)(k:Str)(r0:Option D)(rest:o_)(S:List Cell)(hk:(PyData.str k).canLay0=true:=by decide +kernel):ao (f_ EE (f_ t_ (aa 1) (dC (.int 0))) (dC (.str k))) (r0 :: some t.d :: rest) S=.ok (decide (t.kn=k)) S:=
 az (ar (ar rfl rfl (yQ t S)) rfl (bi (zF t) hk rfl))
abbrev h6(n:Nat)(t:LA)(x2 x3 x4 x5:Option D):o_:=[some (.ob n),some t.d,x2,x3,x4,x5]
theorem BT{f:o_->M D}{rr:o_}{n k:Nat}{L:List En}{fh:o_->M (Option Int)}(h:f rr S=.ok (.ob n) S)(hn:S[n]?=some (.lst (L.map FH)))(hk:k<=L.length)(hh:fh rr S=.ok (some (k:Int)) S):GF FZ f bz fh rr S=.ok (.ob S.length) (S++[.lst ((L.take k).map FH)]):=by
 rw[vV h hn rfl hh,sC (by rw[List.length_map];exact hk),List.map_take]
theorem B5{f:o_->M D}{rr:o_}{n k:Nat}{L:List En}{fl:o_->M (Option Int)}(h:f rr S=.ok (.ob n) S)(hn:S[n]?=some (.lst (L.map FH)))(hk:k<=L.length)(hh:fl rr S=.ok (some (k:Int)) S):GF FZ f fl bz rr S=.ok (.ob S.length) (S++[.lst ((L.drop k).map FH)]):=by
 rw[vV h hn hh rfl,eO (by rw[List.length_map];exact hk),List.map_drop]
theorem Wl{n:Nat}{t:LA}{x2 x4 x5:Option D}(i:Nat)(S:List Cell):bI (aa 3) (h6 n t x2 (some (.int (i:Int))) x4 x5) S=.ok (some (i:Int)) S:=rfl
theorem Wm{n:Nat}{t:LA}{x2 x4 x5:Option D}(i:Nat)(S:List Cell):bI (f_ bJ (aa 3) (dC (.int 1))) (h6 n t x2 (some (.int (i:Int))) x4 x5) S=.ok (some ((i+1:Nat):Int)) S:=rfl
theorem Au(A:Hg G S a w)(K:Ge N w)(hN:N<=20000)(j:Nat)(r:Bool)(i:Nat)(c:Int):∃S' a',jz [.ob a.n,(LA.EK j r i c).d] S=.ok .B_ S'/\Iy G a S a' S' (w.act (LA.EK j r i c).act):=by
 show ∃S' a',fin S (kZ (h6 a.n (LA.EK j r i c) none none none none) S)=_/\_;unfold kZ;have hl:=K.rl r;have cell:=A.cell r;rw[ax (bB (ar rfl (ar rfl rfl (aL (i:=1) rfl)) (A.dr r)))];show ∃S' a',fin S (aN _ _ (h6 a.n (LA.EK j r i c) (some (.ob (a.rn r))) none none none) S)=_/\_;rw[ax (bB (ar rfl rfl (aL (i:=2) rfl)))];show ∃S' a',fin S (aN _ _ (h6 a.n (LA.EK j r i c) (some (.ob (a.rn r))) (some (.int (i:Int))) none none) S)=_/\_;have t1:ao (f_ IQ (aa 3) (am bG (ac (aa 2) ai))) (h6 a.n (LA.EK j r i c) (some (.ob (a.rn r))) (some (.int (i:Int))) none none) S=.ok (decide ((w.road r).length<=i)) S:=by
  refine az (ar rfl (ay (ag rfl aj) (j7 cell)) ?_);rw[vG,List.length_map];congr 2;rw[decide_eq_decide];omega
 by_cases hi:(w.road r).length<=i
 ·rw[decide_eq_true hi] at t1;refine⟨S,a,congrArg (fin S) (di (by rw[aQ t1];exact aP rfl)),?_⟩;have same:w.act (LA.EK j r i c).act=w:=by
   match j with
   |0=>
    show w.Fc r ((w.road r).eraseIdx i)=w;rw[List.eraseIdx_of_length_le hi,mh]
   |1=>
    show w.Fc r (rP (w.road r) i)=w;unfold rP;rw[List.getElem?_eq_none hi];exact mh w r
   |_+2=>
    show w.Fc r (kg (w.road r) i _ _)=w;unfold kg;rw[List.getElem?_eq_none hi];exact mh w r
  rw[same];exact Iy.refl A
 rw[decide_eq_false hi] at t1;rw[ax (by rw[av t1];rfl)];have hi:i<(w.road r).length:=by omega
 obtain⟨e,he⟩:∃e,(w.road r)[i]?=some e:=⟨_,List.getElem?_eq_getElem hi⟩;have i4:=y8 (LA.EK j r i c) "lose" (some (.ob a.n)) [some (.ob (a.rn r)),some (.int (i:Int)),none,none] S;have i5:=y8 (LA.EK j r i c) "double" (some (.ob a.n)) [some (.ob (a.rn r)),some (.int (i:Int)),none,none] S
 match j with
 |0=>
  rw[show decide ((LA.EK 0 r i c).kn=("lose":Str))=true from (by decide +kernel:decide (("lose":Str) = "lose")=true)] at i4;have s1:=BT (f:=aa 2) (rr:=h6 a.n (LA.EK 0 r i c) (some (.ob (a.rn r))) (some (.int (i:Int))) none none) rfl cell (by omega) (Wl i S);obtain⟨S1,HW⟩:∃S1,S++[Cell.lst (((w.road r).take i).map FH)]=S1:=⟨_,rfl⟩;rw[HW] at s1;have s2:=B5 (S:=S1) (f:=aa 2) (rr:=h6 a.n (LA.EK 0 r i c) (some (.ob (a.rn r))) (some (.int (i:Int))) none none) rfl (by rw[<-HW];exact aG cell) (by omega) (Wm i S1);obtain⟨S',a',e',k'⟩:=wG A r (fi:=f_ t_ (aa 1) (dC (.int 1))) (rr:=h6 a.n (LA.EK 0 r i c) (some (.ob (a.rn r))) (some (.int (i:Int))) none none) (fun _=>rfl) (fun _=>ar rfl rfl (aL (i:=1) rfl)) s1 (by rw[<-HW];exact aW) (by rw[<-HW];exact Fr.push) s2 aW Fr.push (by rw[List.length_take,List.length_drop];omega);refine⟨S',a',?_,?_⟩
  ·rw[ax (by rw[aQ i4];exact e')];exact congrArg (fin S) (aP rfl)
  ·show Iy G a S a' S' (w.Fc r ((w.road r).eraseIdx i));rw[List.eraseIdx_eq_take_drop_succ];exact k'
 |1=>
  rw[show decide ((LA.EK 1 r i c).kn=("lose":Str))=false from (by decide +kernel:decide (("double":Str) = "lose")=false)] at i4;rw[show decide ((LA.EK 1 r i c).kn=("double":Str))=true from (by decide +kernel:decide (("double":Str) = "double")=true)] at i5;have s1:=BT (f:=aa 2) (rr:=h6 a.n (LA.EK 1 r i c) (some (.ob (a.rn r))) (some (.int (i:Int))) none none) rfl cell (by omega) (Wm i S);obtain⟨S1,HW⟩:∃S1,S++[Cell.lst (((w.road r).take (i+1)).map FH)]=S1:=⟨_,rfl⟩;rw[HW] at s1;have s2:=B5 (S:=S1) (f:=aa 2) (rr:=h6 a.n (LA.EK 1 r i c) (some (.ob (a.rn r))) (some (.int (i:Int))) none none) rfl (by rw[<-HW];exact aG cell) (by omega) (Wl i S1);obtain⟨S',a',e',k'⟩:=wG A r (fi:=f_ t_ (aa 1) (dC (.int 1))) (rr:=h6 a.n (LA.EK 1 r i c) (some (.ob (a.rn r))) (some (.int (i:Int))) none none) (fun _=>rfl) (fun _=>ar rfl rfl (aL (i:=1) rfl)) s1 (by rw[<-HW];exact aW) (by rw[<-HW];exact Fr.push) s2 aW Fr.push (by rw[List.length_take,List.length_drop];omega);refine⟨S',a',?_,?_⟩
  ·rw[ax (by rw[av i4,aQ i5];exact e')];exact congrArg (fin S) (aP rfl)
  ·show Iy G a S a' S' (w.Fc r (rP (w.road r) i));have:rP (w.road r) i=(w.road r).take (i+1)++(w.road r).drop i:=by
    unfold rP;rw[he];show(w.road r).insertIdx i e=_;rw[kS _ _ _ (by omega),List.take_add_one,he];simp
   rw[this];exact k'
 |j+2=>
  rw[show decide ((LA.EK (j+2) r i c).kn=("lose":Str))=false from (by decide +kernel:decide (("spoil":Str) = "lose")=false)] at i4;rw[show decide ((LA.EK (j+2) r i c).kn=("double":Str))=false from (by decide +kernel:decide (("spoil":Str) = "double")=false)] at i5;have EI:=K.rd r e (List.mem_of_getElem? he);obtain⟨rr,KU⟩:∃rr:o_,h6 a.n (LA.EK (j+2) r i c) (some (.ob (a.rn r))) (some (.int (i:Int))) none none=rr:=⟨_,rfl⟩;have v1:f_ t_ (aa 1) (dC (.int 3)) rr S=.ok (.int c) S:=by rw[<-KU];exact ar rfl rfl (aL (i:=3) rfl)
  have ent:f_ t_ (aa 2) (aa 3) rr S=.ok (FH e) S:=by rw[<-KU];exact ar rfl rfl (gg cell (by rw[List.getElem?_map,he];rfl))
  have m1:=gP (S:=S) 9817 256 v1;have m2:=gP (S:=S) 9829 16 v1;obtain⟨Ga,Rp⟩:∃Ga,mx c 9817 256=Ga:=⟨_,rfl⟩;obtain⟨pl,Kd⟩:∃pl,mx c 9829 16=pl:=⟨_,rfl⟩;have hbl:Ga<256:=by rw[<-Rp];exact ly c (by decide)
  rw[Rp] at m1;rw[Kd] at m2;have t2:bW (f_ t_ (f_ t_ (aa 2) (aa 3)) (dC (.int 1))) rr S=.ok e.x.isSome S:=by
   rw[cU,aw,ar ent rfl (aL (i:=1) rfl)];rfl
  have t3:ao (f_ ML (am aC (ac (f_ t_ (aa 1) (dC (.int 3))) (ac (dC (.int 9817)) (ac (dC (.int 256)) ai)))) (dC (.int 0))) rr S=.ok (decide (0<Ga)) S:=by
   refine az (ar m1 rfl ?_);rw[A4];congr 2;rw[decide_eq_decide];omega
  have t4:dg (dc (bW (f_ t_ (f_ t_ (aa 2) (aa 3)) (dC (.int 1))))) (ao (f_ ML (am aC (ac (f_ t_ (aa 1) (dC (.int 3))) (ac (dC (.int 9817)) (ac (dC (.int 256)) ai)))) (dC (.int 0)))) rr S=.ok (!e.x.isSome && decide (0<Ga)) S:=by
   rw[cK,aw,da,aw,t2];cases e.x.isSome with
   |true=>rfl
   |false=>exact t3
  have i4:ao (f_ EE (f_ t_ (aa 1) (dC (.int 0))) (dC (.str "lose"))) rr S=.ok false S:=by rw[<-KU];exact i4
  have i5:ao (f_ EE (f_ t_ (aa 1) (dC (.int 0))) (dC (.str "double"))) rr S=.ok false S:=by rw[<-KU];exact i5
  have act:w.act (LA.EK (j+2) r i c).act=w.Fc r ((w.road r).set i (eo e pl (Ga:Int))):=by
   show w.Fc r (kg (w.road r) i (mx c 9829 16) ((mx c 9817 256:Nat):Int))=_;unfold kg;rw[he,Kd,Rp]
  rw[act];show ∃S' a',fin S (aN _ _ (h6 a.n (LA.EK (j+2) r i c) (some (.ob (a.rn r))) (some (.int (i:Int))) none none) S)=_/\_;rw[KU];have QF:eo e pl (Ga:Int)=e->Iy G a S a S (w.Fc r ((w.road r).set i (eo e pl (Ga:Int)))):=fun z=>by
   obtain⟨h1,h2⟩:=List.getElem?_eq_some_iff.mp he;rw[z,<-h2,List.set_getElem_self,mh];exact Iy.refl A
  obtain⟨ec,x⟩:=e;cases x with
  |some xs=>
   refine⟨S,a,?_,QF rfl⟩;rw[ax (by rw[av i4,av i5,av t4];rfl)];exact congrArg (fin S) (aP rfl)
  |none=>
   by_cases hb:0<Ga
   ·rw[decide_eq_true hb] at t4;obtain⟨xs,Mg⟩:∃xs,(⟨ec,none⟩:En).xs=xs:=⟨_,rfl⟩;have L_:=fO EI.1;have Rh:0<xs.length:=by rw[<-Mg];show 0<(FR (aB ec)).length;rw[md];omega
    have Wn:xs.length<=100:=by rw[<-Mg];exact EI.2.2.1
    have x0:f_ t_ (f_ t_ (aa 2) (aa 3)) (dC (.int 0)) rr S=.ok (.tup (xs.map D.int)) S:=by rw[<-Mg];exact ar ent rfl (aL (i:=0) rfl)
    obtain⟨p,hp⟩:∃p,pl % xs.length=p:=⟨_,rfl⟩;have YQ:p<xs.length:=by rw[<-hp];exact Nat.mod_lt _ Rh
    have a4:f_ jo (am aC (ac (f_ t_ (aa 1) (dC (.int 3))) (ac (dC (.int 9829)) (ac (dC (.int 16)) ai)))) (am bG (ac (f_ t_ (f_ t_ (aa 2) (aa 3)) (dC (.int 0))) ai)) rr S=.ok (.int (p:Int)) S:=by
     refine ar m2 (ay (ag x0 aj) (cx _)) ?_;rw[List.length_map,cS (by omega),<-hp];congr 2
    have Mo:eo ⟨ec,none⟩ pl (Ga:Int)=⟨ec,some (xs.set p ((xs.getD p 0+(Ga:Int)) % 256))⟩:=by
     unfold eo;dsimp only;rw[if_neg (by omega),Mg,hp]
    obtain⟨v,hv⟩:∃v,(xs.getD p 0+(Ga:Int)) % 256=v:=⟨_,rfl⟩;rw[Mo,hv];obtain⟨e2,NH⟩:∃e2:En,e2=⟨ec,some (xs.set p v)⟩:=⟨_,rfl⟩;have hg:xs[p]?=some (xs.getD p 0):=by rw[List.getD_eq_getElem?_getD,List.getElem?_eq_getElem YQ];rfl
    have HP:∀a c:Cell,(S++[a]).set S.length c=S++[c]:=fun a c=>by rw[List.set_append_right _ _ (Nat.le_refl _)];simp
    obtain⟨r4,Tj⟩:∃r4:o_,h6 a.n (LA.EK (j+2) r i c) (some (.ob (a.rn r))) (some (.int (i:Int))) (some (.int (p:Int))) none=r4:=⟨_,rfl⟩;obtain⟨r5,Np⟩:∃r5:o_,h6 a.n (LA.EK (j+2) r i c) (some (.ob (a.rn r))) (some (.int (i:Int))) (some (.int (p:Int))) (some (.ob S.length))=r5:=⟨_,rfl⟩;have g4:rr.set 4 (some (.int (p:Int)))=r4:=by rw[<-KU,<-Tj];rfl
    have g5:r4.set 5 (some (.ob S.length))=r5:=by rw[<-Tj,<-Np];rfl
    have YR:f_ t_ (f_ t_ (aa 2) (aa 3)) (dC (.int 0)) r4 S=.ok (.tup (xs.map D.int)) S:=by
     rw[<-Tj,<-Mg];exact ar (ar rfl rfl (gg cell (by rw[List.getElem?_map,he];rfl))) rfl (aL (i:=0) rfl)
    have b5:am mG (ac (f_ t_ (f_ t_ (aa 2) (aa 3)) (dC (.int 0))) ai) r4 S=.ok (.ob S.length) (S++[.lst (xs.map D.int)]):=ay (ag YR aj) rfl;have YS:am aC (ac (f_ t_ (aa 1) (dC (.int 3))) (ac (dC (.int 9817)) (ac (dC (.int 256)) ai))) r5 (S++[.lst (xs.map D.int)])=.ok (.int (Ga:Int)) (S++[.lst (xs.map D.int)]):=by
     rw[<-Rp];have z:f_ t_ (aa 1) (dC (.int 3)) r5 (S++[.lst (xs.map D.int)])=.ok (.int c) (S++[.lst (xs.map D.int)]):=by rw[<-Np];exact ar rfl rfl (aL (i:=3) rfl)
     exact gP 9817 256 z
    have e6:f_ jo (f_ bJ (f_ t_ (aa 5) (aa 4)) (am aC (ac (f_ t_ (aa 1) (dC (.int 3))) (ac (dC (.int 9817)) (ac (dC (.int 256)) ai))))) (dC (.int 256)) r5 (S++[.lst (xs.map D.int)])=.ok (.int v) (S++[.lst (xs.map D.int)]):=by
     refine ar (ar (x:=.int (xs.getD p 0)) (S1:=S++[.lst (xs.map D.int)]) ?_ YS (cw _ _)) rfl ?_
     ·rw[<-Np];exact ar rfl rfl (gg aW (by rw[List.getElem?_map,hg];rfl))
     ·rw[cS (by decide),hv]
    obtain⟨S1,HW⟩:∃S1,S++[Cell.lst ((xs.set p v).map D.int)]=S1:=⟨_,rfl⟩;have e7:k9 (.ob S.length) (.int (p:Int)) (.int v) (S++[.lst (xs.map D.int)])=some S1:=by
     have Pg:Lm (xs.map D.int).length (p:Int)=some p:=by
      unfold Lm;rw[List.length_map];simp;omega
     simp only[k9,cc aW,Pg,HP];rw[<-List.map_set,HW]
    have d5:∀T,aa 5 r5 T=.ok (.ob S.length) T:=fun T=>by rw[<-Np];rfl
    have d4:∀T,aa 4 r5 T=.ok (.int (p:Int)) T:=fun T=>by rw[<-Np];rfl
    have Tn:kt k9 (aa 5) (aa 4) (f_ jo (f_ bJ (f_ t_ (aa 5) (aa 4)) (am aC (ac (f_ t_ (aa 1) (dC (.int 3))) (ac (dC (.int 9817)) (ac (dC (.int 256)) ai))))) (dC (.int 256))) r5 (S++[.lst (xs.map D.int)])=some (.nx r5,S1):=lI e6 (d5 _) (d4 _) e7;have A1:Hg G S1 a w:=by rw[<-HW];exact A.push _
    have wY:=A1.cell r;have d2:∀T,aa 2 r5 T=.ok (.ob (a.rn r)) T:=fun T=>by rw[<-Np];rfl
    have s1:=BT (S:=S1) (f:=aa 2) (rr:=r5) (fh:=bI (aa 3)) (k:=i) (d2 _) wY (by omega) (by rw[<-Np];rfl);obtain⟨S2,KC⟩:∃S2,S1++[Cell.lst (((w.road r).take i).map FH)]=S2:=⟨_,rfl⟩;rw[KC] at s1;have c5:S2[S.length]?=some (.lst ((xs.set p v).map D.int)):=by rw[<-KC,<-HW];exact aG aW
    have l1:bZ (ac (cf (ac (am eJ (ac (aa 5) ai)) (ac (dC (.bl true)) ai))) ai) r5 S2=.ok (.ob S2.length) (S2++[.lst ([e2].map FH)]):=by
     rw[NH];exact cb (ag (bQ (ag (ay (ag (d5 _) aj) (dR c5)) (ag rfl aj)) (by simp)) aj) (by simp)
    obtain⟨S3,Kf⟩:∃S3,S2++[Cell.lst ([e2].map FH)]=S3:=⟨_,rfl⟩;rw[Kf] at l1;have ad:=j8 (S:=S3) (a:=S1.length) (b:=S2.length) (xs:=((w.road r).take i).map FH) (ys:=[e2].map FH) (by rw[<-Kf,<-KC];exact aG aW) (by rw[<-Kf];exact aW) (by simp only[List.length_append,List.length_map,List.length_take,List.length_singleton];omega);rw[<-List.map_append] at ad;obtain⟨S4,To⟩:∃S4,S3++[Cell.lst (((w.road r).take i++[e2]).map FH)]=S4:=⟨_,rfl⟩;rw[To] at ad;have f4:Fr [] S1 S4:=by rw[<-To,<-Kf,<-KC];exact(Fr.push.tr Fr.push).tr Fr.push
    have s2:=B5 (S:=S4) (f:=aa 2) (rr:=r5) (fl:=bI (f_ bJ (aa 3) (dC (.int 1)))) (k:=i+1) (d2 _) (f4.get wY (by simp)) (by omega) (by rw[<-Np];rfl);obtain⟨S',a',e',k'⟩:=wG A1 r (fi:=f_ t_ (aa 1) (dC (.int 1))) (rr:=r5) (fun _=>by rw[<-Np];rfl) (fun _=>by rw[<-Np];exact ar rfl rfl (aL (i:=1) rfl)) (ar s1 l1 ad) (by rw[<-To];exact aW) f4 s2 aW Fr.push (by simp only[List.length_append,List.length_take,List.length_drop,List.length_singleton];omega);refine⟨S',a',?_,?_⟩
    ·rw[ax (by rw[av i4,av i5,aQ t4,ax (bB a4),g4,ax (bB b5),g5,ax Tn];exact e')];exact congrArg (fin S) (aP rfl)
    ·rw[List.set_eq_take_append_cons_drop,if_pos hi];have:(w.road r).take i++(⟨ec,some (xs.set p v)⟩:En) :: (w.road r).drop (i+1)=((w.road r).take i++[e2])++(w.road r).drop (i+1):=by rw[<-NH];simp
     rw[this];exact k'.grow (by rw[<-HW];exact Fr.push)
   ·rw[decide_eq_false hb] at t4;refine⟨S,a,?_,QF ?_⟩
    ·rw[ax (by rw[av i4,av i5,av t4];rfl)];exact congrArg (fin S) (aP rfl)
    ·unfold eo;dsimp only;rw[if_pos (by omega)]
end
end Lw
namespace Lw
open PySem L2 DL
theorem yA{i:Int}(S:List Cell):eT [.int i] S=.ok (.bl true) S:=by
 simp[eT,mK,MJ,O2,vn]
end Lw
namespace Lw
open PySem L2 DL
section
variable{G:Cs}{S S' S1 S2:List Cell}{a a' a1 a2 b b':Ad}{w w' w1 w2 v v':WW}{N:Nat}
theorem Cv{f g:o_->M D}{r:o_}{d:D}(h:f r S=.ok d S1):py f g r S=.ok d S1:=by simp only[py,h]
theorem Bu{f g:o_->M D}{r:o_}{d:D}(h:f r S=.bad)(h2:g r S=.ok d S1):py f g r S=.ok d S1:=by simp only[py,h,h2]
theorem zq{C:Addr}{ns:List Str}{F:List D->M D}{fo:o_->M D}{ft:o_->M (List D)}{r:o_}{n:Nat}{C':Addr}{PF:List Str}{ds:List D}(h:fo r S=.ok (.ob n) S)(h3:S[n]?=some (.ins C' PF ds))(hn:¬PF=ns):aV C ns F fo ft r S=.bad:=by
 have:ic C ns (.ob n) S=.bad:=by
  simp only[ic,h3];exact uh fun z=>hn z.2
 rw[Bt,aw,h];dsimp only;rw[aw,this]
theorem Dq(A:Hg G S a w)(K:Ge N w)(hN:N<20000)(t:LA):∃S' a',gm G [.ob a.n,t.d] S=.ok .B_ S'/\Iy G a S a' S' (w.act t.act):=by
 show ∃S' a',fin S (ip G [some (.ob a.n),some t.d] S)=_/\_;unfold ip;have i1:=k7 t "hand" (r0:=some (.ob a.n)) (S:=S);have i2:=k7 t "tick" (r0:=some (.ob a.n)) (S:=S);have i3:=k7 t "step" (r0:=some (.ob a.n)) (S:=S);have i4:=k7 t "fall" (r0:=some (.ob a.n)) (S:=S);have i5:=k7 t "open" (r0:=some (.ob a.n)) (S:=S);cases t with
 |hand c=>
  have hl:=oM c 12;obtain⟨S',e,k⟩:=wV A.sr K.sb hN (x:=lC c 12) (by omega);rw[show decide ((LA.hand c).kn=("hand":Str))=true from (by decide +kernel:decide (("hand":Str) = "hand")=true)] at i1;refine⟨S',_,?_,A.snd k⟩;rw[aQ i1,bc (aS (ar rfl rfl A.ds) A.sr.ob (ag (ay (ag (ar rfl rfl (aL (i:=1) rfl)) (ag rfl aj)) (qA c 12 (by decide) S)) aj) e)];rfl
 |tick=>
  obtain⟨S',a',e,k⟩:=A5 A K (by omega) (x1:=some LA.tick.d);rw[show decide (LA.tick.kn=("hand":Str))=false by decide +kernel] at i1;rw[show decide (LA.tick.kn=("tick":Str))=true by decide +kernel] at i2;refine⟨S',a',?_,k⟩;rw[av i1,aQ i2,e];rfl
 |step r=>
  obtain⟨S',a',e,k⟩:=Bg A K hN r;rw[show decide ((LA.step r).kn=("hand":Str))=false from (by decide +kernel:decide (("step":Str) = "hand")=false)] at i1;rw[show decide ((LA.step r).kn=("tick":Str))=false from (by decide +kernel:decide (("step":Str) = "tick")=false)] at i2;rw[show decide ((LA.step r).kn=("step":Str))=true from (by decide +kernel:decide (("step":Str) = "step")=true)] at i3;refine⟨S',a',?_,k⟩;rw[av i1,av i2,aQ i3,bc (ay (ag rfl (ag (ar rfl rfl (aL (i:=1) rfl)) aj)) e)];rfl
 |Fz r=>
  rw[show decide ((LA.Fz r).kn=("hand":Str))=false from (by decide +kernel:decide (("fall":Str) = "hand")=false)] at i1;rw[show decide ((LA.Fz r).kn=("tick":Str))=false from (by decide +kernel:decide (("fall":Str) = "tick")=false)] at i2;rw[show decide ((LA.Fz r).kn=("step":Str))=false from (by decide +kernel:decide (("fall":Str) = "step")=false)] at i3;rw[show decide ((LA.Fz r).kn=("fall":Str))=true from (by decide +kernel:decide (("fall":Str) = "fall")=true)] at i4;cases r with
  |true=>
   obtain⟨S',e,k⟩:=xw A.sr;refine⟨S',_,?_,A.snd k⟩;rw[av i1,av i2,av i3,aQ i4,bc (Cv (aS (ar rfl (ar rfl rfl (aL (i:=1) rfl)) A.ds) A.sr.ob aj e))];rfl
  |false=>
   obtain⟨S',e',b',e,k⟩:=xg A.hr;refine⟨S',_,?_,A.QC k⟩;rw[av i1,av i2,av i3,aQ i4,bc (Bu (zq (ar rfl (ar rfl rfl (aL (i:=1) rfl)) A.dh) A.hr.ob (by decide +kernel)) (aS (ar rfl (ar rfl rfl (aL (i:=1) rfl)) A.dh) A.hr.ob aj e))];rfl
 |HG=>
  obtain⟨S',p',q',e,k⟩:=uL A.sr K.sb (by omega);rw[show decide (LA.HG.kn=("hand":Str))=false by decide +kernel] at i1;rw[show decide (LA.HG.kn=("tick":Str))=false by decide +kernel] at i2;rw[show decide (LA.HG.kn=("step":Str))=false by decide +kernel] at i3;rw[show decide (LA.HG.kn=("fall":Str))=false by decide +kernel] at i4;rw[show decide (LA.HG.kn=("open":Str))=true by decide +kernel] at i5;refine⟨S',_,?_,A.snd k⟩;rw[av i1,av i2,av i3,av i4,aQ i5,bc (aS (ar rfl rfl A.ds) A.sr.ob aj e)];rfl
 |EK j r i c=>
  obtain⟨S',a',e,k⟩:=Au A K (by omega) j r i c;refine⟨S',a',?_,k⟩;have g1:decide ((LA.EK j r i c).kn=("hand":Str))=false:=by
   match j with
   |0=>exact(by decide +kernel:decide (("lose":Str) = "hand")=false)
   |1=>exact(by decide +kernel:decide (("double":Str) = "hand")=false)
   |_+2=>exact(by decide +kernel:decide (("spoil":Str) = "hand")=false)
  have g2:decide ((LA.EK j r i c).kn=("tick":Str))=false:=by
   match j with
   |0=>exact(by decide +kernel:decide (("lose":Str) = "tick")=false)
   |1=>exact(by decide +kernel:decide (("double":Str) = "tick")=false)
   |_+2=>exact(by decide +kernel:decide (("spoil":Str) = "tick")=false)
  have g3:decide ((LA.EK j r i c).kn=("step":Str))=false:=by
   match j with
   |0=>exact(by decide +kernel:decide (("lose":Str) = "step")=false)
   |1=>exact(by decide +kernel:decide (("double":Str) = "step")=false)
   |_+2=>exact(by decide +kernel:decide (("spoil":Str) = "step")=false)
  have g4:decide ((LA.EK j r i c).kn=("fall":Str))=false:=by
   match j with
   |0=>exact(by decide +kernel:decide (("lose":Str) = "fall")=false)
   |1=>exact(by decide +kernel:decide (("double":Str) = "fall")=false)
   |_+2=>exact(by decide +kernel:decide (("spoil":Str) = "fall")=false)
  have g5:decide ((LA.EK j r i c).kn=("open":Str))=false:=by
   match j with
   |0=>exact(by decide +kernel:decide (("lose":Str) = "open")=false)
   |1=>exact(by decide +kernel:decide (("double":Str) = "open")=false)
   |_+2=>exact(by decide +kernel:decide (("spoil":Str) = "open")=false)
  rw[g1] at i1;rw[g2] at i2;rw[g3] at i3;rw[g4] at i4;rw[g5] at i5;rw[av i1,av i2,av i3,av i4,av i5,bc (ay (ag rfl (ag rfl aj)) e)];rfl
structure IH(G:Cs)(S:List Cell)(a b:Ad)(w v:WW):Prop where
 l:G6 G S a w
 r:Hg G S b v
 dj:∀i,i∈b.ff->i∉a.fp
theorem IH.left(T:IH G S a b w v)(k:GV G a S a' S' w'):IH G S' a' b w' v:=
 ⟨k.at_,T.r.fr k.fr T.dj,fun i hi z=>by
  rcases k.ad i z with h|h
  ·exact T.dj i hi h
  ·have:=T.r.lt i hi;omega⟩
theorem IH.right(T:IH G S a b w v)(k:Iy G b S b' S' v'):IH G S' a b' w v':=
 ⟨T.l.fr k.fr (fun i hi z=>T.dj i z hi),k.at_,fun i hi z=>by
  rcases k.ad i hi with h|h
  ·exact T.dj i h z
  ·have:=T.l.lt i z;omega⟩
theorem IH.grow(T:IH G S a b w v)(f:Fr [] S S'):IH G S' a b w v:=⟨T.l.fr f (fun _ _ z=>nomatch z),T.r.grow f,T.dj⟩
theorem zI(S:List Cell)(l:List En):∃ps,Ii S 29 (jB l)=some ps:=by
 obtain⟨ps,h⟩:=uz (S:=S) (n:=29) (l:=l) (f:=fun e=>D.tup (e.xs.map D.int)) fun e _=>⟨_,p0 (n:=27) e.xs⟩
 exact⟨ps,h⟩
theorem Bh(T:IH G S a b w w)(r:Bool)(hz:(w.road r).length<=1000000){x3:Option D}:∃S' y3,fC G [some (.ob a.n),some (.ob b.n),some (.str (aR r)),x3] S=some (.nx [some (.ob a.n),some (.ob b.n),some (.str (aR r)),y3],S')/\Fr [] S S':=by
 unfold fC;have o1:=AC T.l r hz;obtain⟨S1,HW⟩:∃S1,S++[Cell.lst (jB (w.road r))]=S1:=⟨_,rfl⟩;rw[HW] at o1;have f1:Fr [] S S1:=by rw[<-HW];exact Fr.push
 have T1:=T.grow f1;rw[ax (bB (aS rfl T.l.ob (ag rfl aj) o1))];show ∃S' y3,Fd _ _ _ [some (.ob a.n),some (.ob b.n),some (.str (aR r)),some (.tup (jB (w.road r)))] S1=_/\_;obtain⟨S2,KC⟩:∃S2,S1++[Cell.lst (jB (w.road r))]=S2:=⟨_,rfl⟩;have T2:=T1.grow (show Fr [] S1 S2 by rw[<-KC];exact Fr.push);have li:am mG (ac (aa 3) ai) [some (.ob a.n),some (.ob b.n),some (.str (aR r)),some (.tup (jB (w.road r)))] S1=.ok (.ob S1.length) S2:=ay (ag rfl aj) (show mG [.tup (jB (w.road r))] S1=.ok (.ob S1.length) S2 by rw[<-KC];rfl);have w1:Hd (f_ bV (aa 1) (aa 2)) [some (.ob a.n),some (.ob b.n),some (.str (aR r)),some (.tup (jB (w.road r)))] S2=.ok ⟨(w.road r).map FH,some (b.rn r,(w.road r).map FH)⟩ S2:=by
  rw[jY,aw,ar rfl rfl (T2.r.dr r)];show iC (.ob (b.rn r)) S2=_;simp only[iC,T2.r.cell r]
 have c1:=uE (p:=FH) (q:=fun e:En=>.tup (e.xs.map D.int)) (tg:=gN 0) (fe:=f_ t_ (aa 0) (dC (.int 0))) (own:=1) (caps:=[]) w1 (T2.r.cell r) hz (by
  intro e _;exact⟨[some (FH e)],rfl,fun zs=>ar rfl rfl (aL (i:=0) rfl)⟩)
 have er:(w.road r).map (fun e:En=>D.tup (e.xs.map D.int))=jB (w.road r):=rfl;rw[er] at c1;obtain⟨S3,Kf⟩:∃S3,S2++[Cell.lst (jB (w.road r))]=S3:=⟨_,rfl⟩;rw[Kf] at c1;have ne:ao (f_ Gr (am mG (ac (aa 3) ai)) (eE (Hd (f_ bV (aa 1) (aa 2))) (gN 0) gD (f_ t_ (aa 0) (dC (.int 0))) 1 [])) [some (.ob a.n),some (.ob b.n),some (.str (aR r)),some (.tup (jB (w.road r)))] S1=.ok false S3:=
  az (ar li c1 (zO (by rw[<-Kf,<-KC];exact aG aW) (by rw[<-Kf];exact aW) (zI S3 _)))
 have ty:dc (bW (Jv "tuple" (aa 3))) [some (.ob a.n),some (.ob b.n),some (.str (aR r)),some (.tup (jB (w.road r)))] S1=.ok false S1:=rfl;rw[av (wq ty ne)];refine⟨S3,_,rfl,f1.tr ?_⟩;rw[<-Kf,<-KC];exact Fr.push.tr Fr.push
theorem Ai(T:IH G S a b w w)(K:Ge N w)(hN:N<=20000):∃S',gp G [.ob a.n,.ob b.n] S=.ok (.bl true) S'/\Fr [] S S':=by
 show ∃S',fin S (jS G [some (.ob a.n),some (.ob b.n),none,none] S)=_/\_;unfold jS;have hT:(w.road true).length<=8 * N:=K.rl true;have hB:(w.road false).length<=8 * N:=K.rl false;obtain⟨P1,Rq⟩:∃P1,S++[Cell.lst [.str "there",.str "back"]]=P1:=⟨_,rfl⟩;have f0:Fr [] S P1:=by rw[<-Rq];exact Fr.push
 have hw:Hd (bZ (ac (dC (.str "there")) (ac (dC (.str "back")) ai))) [some (.ob a.n),some (.ob b.n),none,none] S=.ok ⟨[.str "there",.str "back"],some (S.length,[.str "there",.str "back"])⟩ P1:=by
  rw[jY,aw,cb (ag rfl (ag rfl aj)) (by simp),Rq];show iC (.ob S.length) P1=_;have:P1[S.length]?=some (.lst [.str "there",.str "back"]):=by rw[<-Rq];exact aW
  simp only[iC,this]
 have cl:P1[S.length]?=some (.lst [.str "there",.str "back"]):=by rw[<-Rq];exact aW
 obtain⟨r',S3,q,hI⟩:=eN (g:=some (S.length,[.str "there",.str "back"])) (tg:=gN 2) (b:=fC G)
  (fun i r' S'=>Fr [] P1 S'/\∃x2 x3,r'=[some (.ob a.n),some (.ob b.n),x2,x3]) [.str "there",.str "back"] 0 [some (.ob a.n),some (.ob b.n),none,none] P1
  (by
   rintro i y r' S' hy ⟨f,x2,x3,rfl⟩;have T':=T.grow (f0.tr f);have YT:∃r:Bool,y=.str (aR r):=by
    match i,hy with
    |0,hy=>cases hy;exact⟨true,rfl⟩
    |1,hy=>cases hy;exact⟨false,rfl⟩
    |i+2,hy=>cases hy
   obtain⟨r,rfl⟩:=YT;have hz:(w.road r).length<=1000000:=by cases r<;>omega
   obtain⟨S2,y3,e2,f2⟩:=Bh T' r hz (x3:=x3);exact⟨[some (.ob a.n),some (.ob b.n),some (.str (aR r)),x3],_,S2,rfl,e2,(f.tr f2).get cl (by simp),f.tr f2,_,_,rfl⟩)
  ⟨Fr.refl _ _,none,none,rfl⟩
 obtain⟨f3,x2,x3,rfl⟩:=hI;rw[ax (by rw[mO hw];exact q)];have Wo:=f0.tr f3;have T3:=T.grow Wo;obtain⟨rr,KU⟩:∃rr:o_,[some (.ob a.n),some (.ob b.n),x2,x3]=rr:=⟨_,rfl⟩;have v0:aa 0 rr S3=.ok (.ob a.n) S3:=by rw[<-KU];rfl
 have dS:f_ bV (aa 1) (dC (.str "sender")) rr S3=.ok (.ob b.nS) S3:=by rw[<-KU];exact ar rfl rfl T3.r.ds
 have dH:f_ bV (aa 1) (dC (.str "hearer")) rr S3=.ok (.ob b.nH) S3:=by rw[<-KU];exact ar rfl rfl T3.r.dh
 rw[KU];have s1:ao (f_ Gr (aV G.World k_ (dy G) (aa 0) ai) (am eJ (ac (aA G.g_ d_ 1 (f_ bV (aa 1) (dC (.str "hearer")))) ai))) rr S3=.ok false S3:=
  az (ar (aS v0 T3.l.ob aj (zo T3.l)) (ay (ag (bK dH T3.r.hr.ob rfl) aj) (dR T3.r.hr.gv)) (w9 (by
   obtain⟨ps,h⟩:=uz (S:=S3) (n:=29) (l:=w.h.given) (f:=PK) fun c _=>Dt S3 25 c
   exact⟨.tuple ps,by rw[zz,h];rfl⟩)))
 have s2:ao (f_ Gr (aV G.World k_ (cE G) (aa 0) ai) (aA G.c_ a_ 3 (f_ bV (aa 1) (dC (.str "sender"))))) rr S3=.ok false S3:=by
  refine az (ar (aS v0 T3.l.ob aj (xk T3.l)) (bK dS T3.r.sr.ob rfl) ?_);rw[gs,decide_eq_true rfl];rfl
 rw[ax (by rw[av (wq s1 s2)];rfl)];have s3:ao (f_ Gr (aV G.World k_ (dJ G) (aa 0) ai) (aA G.c_ a_ 5 (f_ bV (aa 1) (dC (.str "sender"))))) rr S3=.ok false S3:=
  az (ar (aS v0 T3.l.ob aj (yV T3.l)) (bK dS T3.r.sr.ob rfl) (BW w.s.st S3))
 have s4:ao (f_ Gr (aV G.World k_ (bU G) (aa 0) (ac (dC (.str "hearer")) ai)) (aA G.g_ d_ 2 (f_ bV (aa 1) (dC (.str "hearer"))))) rr S3=.ok false S3:=by
  refine az (ar (aS v0 T3.l.ob (ag rfl aj) (AM T3.l)) (bK dH T3.r.hr.ob rfl) ?_);rw[gs,decide_eq_true rfl];rfl
 rw[ax (by rw[av (wq s3 s4)];rfl)];have s5:ao (f_ EE (aV G.World k_ (bU G) (aa 0) (ac (dC (.str "sender")) ai)) (aA G.c_ a_ 4 (f_ bV (aa 1) (dC (.str "sender"))))) rr S3=.ok true S3:=by
  refine az (ar (aS v0 T3.l.ob (ag rfl aj) (AS T3.l)) (bK dS T3.r.sr.ob rfl) ?_);rw[jf,decide_eq_true rfl]
 have s6:am eT (ac (aV G.World k_ (cE G) (aa 0) ai) ai) rr S3=.ok (.bl true) S3:=ay (ag (aS v0 T3.l.ob aj (xk T3.l)) aj) (yA _);refine⟨S3,congrArg (fin S) (aP (d:=.bl true) (S1:=S3) ?_),Wo⟩;rw[gW,aw,s5];exact s6
theorem Bk(x y:Nat)(S:List Cell){rr:o_}(h1:∀T,aa 1 rr T=.ok (.int (x:Int)) T)(h2:∀T,aa 2 rr T=.ok (.int (y:Int)) T) :
  ∃S' a,mL (dD (dC (.str "there")) (bZ ai) (dD (dC (.str "back")) (bZ ai) (dD (dC (.str "sender")) (am (gx G.c_ (bM G)) (ac (aa 1) (ac (aa 2) ai))) (dD (dC (.str "hearer")) (am (gx G.g_ (bA G)) (ac (aa 1) ai)) nM)))) rr S=.ok (.ob a.n) S'/\Hg G S' a (WW.new x y)/\Fr [] S S'/\∀i,i∈a.ff->S.length<=i:=by
 obtain⟨T0,NT⟩:∃T0,S++[Cell.FN []]=T0:=⟨_,rfl⟩;obtain⟨T1,Nn⟩:∃T1,T0++[Cell.lst []]=T1:=⟨_,rfl⟩;obtain⟨T2,Jw⟩:∃T2,T1++[Cell.lst []]=T2:=⟨_,rfl⟩;have l0:T0.length=S.length+1:=by rw[<-NT];simp
 have l1:T1.length=S.length+2:=by rw[<-Nn,List.length_append,l0];rfl
 have l2:T2.length=S.length+3:=by rw[<-Jw,List.length_append,l1];rfl
 obtain⟨T3,m,p,q,e1,k1,f1,g1,g2,g3⟩:=xl (G:=G) x y T2;obtain⟨T4,g,e,b,e2,k2,f2,g4,g5,g6⟩:=xt (G:=G) x T3;have l3:=f1.1;have l4:=f2.1;have c0:T2[S.length]?=some (.FN []):=by rw[<-Jw,<-Nn,<-NT];exact aG (aG aW)
 have cT:T2[T0.length]?=some (.lst []):=by rw[<-Jw,<-Nn];exact aG aW
 have cB:T2[T1.length]?=some (.lst []):=by rw[<-Jw];exact aW
 have Wq:T4[S.length]?=some (.FN []):=f2.get (f1.get c0 (by simp)) (by simp);have YU:T4[T0.length]?=some (.lst []):=f2.get (f1.get cT (by simp)) (by simp);have YV:T4[T1.length]?=some (.lst []):=f2.get (f1.get cB (by simp)) (by simp);have Ph:EX G T4 T2.length m p q (Sr.new x y):=k1.fr f2 (fun i hi z=>nomatch z);have hm:=aT k1.ms;have hp:=aT k1.ps;have hq:=aT k1.nt;have hs:=aT k1.ob;obtain⟨a,ha⟩:∃a:Ad,a=⟨S.length,T2.length,m,p,q,T3.length,g,e,b,0,T0.length,T1.length⟩:=⟨_,rfl⟩;have kv:Ja a=[(.inr "there",.ob T0.length),(.inr "back",.ob T1.length),(.inr "sender",.ob T2.length),(.inr "hearer",.ob T3.length)]:=by rw[ha];rfl
 have ch:Ch S.length (.FN (Ja a)) T4 (T4.set S.length (.FN (Ja a))):=Ch.set Wq;have hd:dN T4 S.length=some []:=dZ Wq;have hk:mI [(D.str "there",D.ob T0.length),(D.str "back",D.ob T1.length),(D.str "sender",D.ob T2.length),(D.str "hearer",D.ob T3.length)]=some (Ja a):=by
  rw[kv];simp[mI,gK]
 have n1:decide ((Sum.inr ("there":Str):Key)=Sum.inr ("back":Str))=false:=by decide +kernel
 have n2:decide ((Sum.inr ("there":Str):Key)=Sum.inr ("sender":Str))=false:=by decide +kernel
 have n3:decide ((Sum.inr ("there":Str):Key)=Sum.inr ("hearer":Str))=false:=by decide +kernel
 have n4:decide ((Sum.inr ("back":Str):Key)=Sum.inr ("sender":Str))=false:=by decide +kernel
 have n5:decide ((Sum.inr ("back":Str):Key)=Sum.inr ("hearer":Str))=false:=by decide +kernel
 have n6:decide ((Sum.inr ("sender":Str):Key)=Sum.inr ("hearer":Str))=false:=by decide +kernel
 have hmg:oZ [] (Ja a)=Ja a:=by
  unfold Ja;simp only[oZ,List.foldl_cons,List.foldl_nil,mB,List.any_nil,List.any_cons,n1,n2,n3,n4,n5,n6,Bool.false_eq_true,if_false,List.nil_append,Bool.or_false,List.cons_append]
 have an:a.n=S.length:=by rw[ha]
 refine⟨T4.set S.length (.FN (Ja a)),a,?_,?_,?_,?_⟩
 ·unfold mL dD nM;rw[NT];simp only[aw,uo,j0];rw[cb aj (by decide)];simp only[aw];rw[Nn,cb aj (by decide)];simp only[aw];rw[Jw,ay (ag (h1 _) (ag (h2 _) aj)) e1];simp only[aw];rw[ay (ag (h1 _) aj) e2];simp only[];rw[hd,hk];dsimp only;rw[cg (by show 4<=15;decide),hmg,an]
 ·subst ha;refine⟨ch.at_,Ph.fr ch.fr fun i hi z=>?_,k2.fr ch.fr ?_ ?_ ?_ ?_,ch.old YU (show S.length≠T0.length by omega),ch.old YV (show S.length≠T1.length by omega),fun i hi j hj=>?_,fun i hi j hj=>?_,fun i hi j hj=>?_⟩
  ·simp only[lg,List.mem_singleton] at hi z;omega
  ·simp;omega
  ·simp;omega
  ·simp;omega
  ·simp;omega
  ·simp only[Ad.sf,Ad.hf,lg] at hi hj;omega
  ·simp only[Ad.sf,Ad.df,lg,xU] at hi hj;omega
  ·simp only[Ad.hf,Ad.df,lg,xU] at hi hj;omega
 ·have f0:Fr [] S T2:=by rw[<-Jw,<-Nn,<-NT];exact(Fr.push.tr Fr.push).tr Fr.push
  refine Fr.trans ((f0.tr f1).tr f2) ch.fr fun i hi Iw=>?_
  have:=List.mem_singleton.mp hi;omega
 ·intro i hi;subst ha;simp only[Ad.ff,Ad.sf,Ad.hf,Ad.df,List.mem_append,lg,xU] at hi;omega
theorem z6(G:Cs):∀ns:List Int,ns.length<=63->∃S',BF G [.FC (ns.map D.int)] []=.ok (.bl true) S':=by
 intro ns IZ;show ∃S',fin [] (wI G [some (.FC (ns.map D.int)),none,none,none,none,none] [])=_;unfold wI;rw[ax (AI (ay (ag rfl aj) (vQ ns [])))];show ∃S',fin [] (aN _ _ [some (.FC (ns.map D.int)),some (.int (I_ ns:Int)),some (.int (Jx ns:Int)),none,none,none] [])=_;obtain⟨S1,a0,e1,A0,f0,YW,PB⟩:=Bc (G:=G) (I_ ns) (Jx ns) [];rw[ax (bB (ay (ag rfl (ag rfl aj)) e1)),<-YW];show ∃S',fin [] (aN _ _ [some (.FC (ns.map D.int)),some (.int (I_ ns:Int)),some (.int (Jx ns:Int)),some (.ob a0.n),none,none] S1)=_;obtain⟨S2,b0,e2,B0,f2,YX⟩:=Bk (G:=G) (I_ ns) (Jx ns) S1 (rr:=[some (.FC (ns.map D.int)),some (.int (I_ ns:Int)),some (.int (Jx ns:Int)),some (.ob a0.n),none,none]) (fun _=>rfl) (fun _=>rfl);rw[ax (bB e2)];show ∃S',fin [] (aN _ _ [some (.FC (ns.map D.int)),some (.int (I_ ns:Int)),some (.int (Jx ns:Int)),some (.ob a0.n),some (.ob b0.n),none] S2)=_;have T2:IH G S2 a0 b0 (WW.new (I_ ns) (Jx ns)) (WW.new (I_ ns) (Jx ns)):=⟨A0.fr f2 (fun i _ z=>nomatch z),B0,fun i hi z=>by have h1:=YX i hi;have h2:=A0.lt i z;omega⟩;obtain⟨S3,l,e3,R⟩:=Ap true ns S2;have T3:=T2.grow R.fr;have la:l∉a0.fp:=fun z=>by have h1:=T2.l.lt l z;have h2:=R.new;omega
 have lb:l∉b0.ff:=fun z=>by have h1:=T2.r.lt l z;have h2:=R.new;omega
 have hal:=zW true ns;have hw:Hd (am hZ (ac (aa 0) (ac (dC (.bl true)) ai))) [some (.FC (ns.map D.int)),some (.int (I_ ns:Int)),some (.int (Jx ns:Int)),some (.ob a0.n),some (.ob b0.n),none] S2=.ok ⟨(jG true ns).map LA.d,some (l,(jG true ns).map LA.d)⟩ S3:=by
  rw[jY,aw,ay (ag rfl (ag rfl aj)) e3];show iC (.ob l) S3=_;simp only[iC,R.at_]
 obtain⟨r',S',q,_⟩:=eN (g:=some (l,(jG true ns).map LA.d)) (tg:=gN 5) (b:=qp G)
  (fun i r S'=>∃a b w x5,r=[some (.FC (ns.map D.int)),some (.int (I_ ns:Int)),some (.int (Jx ns:Int)),some (.ob a0.n),some (.ob b0.n),x5]/\a.n=a0.n/\b.n=b0.n/\IH G S' a b w w/\Ge i w/\S'[l]?=some (.lst ((jG true ns).map LA.d))/\l∉a.fp/\l∉b.ff) ((jG true ns).map LA.d) 0 [some (.FC (ns.map D.int)),some (.int (I_ ns:Int)),some (.int (Jx ns:Int)),some (.ob a0.n),some (.ob b0.n),none] S3
  (by
   rintro i y r S' hy ⟨a,b,w,x5,rfl,hn,hm,T,K,YY,YZ,Wr⟩;rw[List.getElem?_map] at hy;cases hp:(jG true ns)[i]? with
   |none=>rw[hp] at hy;cases hy
   |some t=>
    rw[hp] at hy;cases hy;rw[Nat.zero_add] at K ⊢;have OR:=(List.getElem?_eq_some_iff.mp hp).1;obtain⟨S5,a5,e5,k5⟩:=Dj T.l K (by omega) t;obtain⟨o1,o2⟩:=k5.out YY YZ;have T5:=T.left k5;obtain⟨S6,b6,e6,k6⟩:=Dq T5.r K (by omega) t;have o3:=k6.fr.get o1 Wr;have o4:l∉b6.ff:=fun z=>by
     rcases k6.ad l z with h|h
     ·exact Wr h
     ·have:=aT o1;omega
    have T6:=T5.right k6;have K6:=AG K (by omega) t.act t.ok;obtain⟨S7,e7,f7⟩:=Ai T6 K6 (by omega);rw[k5.nn,k6.nn,hn,hm] at e7;rw[hn] at e5;rw[hm] at e6;have o7:=f7.get o3 (by simp);refine⟨[some (.FC (ns.map D.int)),some (.int (I_ ns:Int)),some (.int (Jx ns:Int)),some (.ob a0.n),some (.ob b0.n),some t.d],[some (.FC (ns.map D.int)),some (.int (I_ ns:Int)),some (.int (Jx ns:Int)),some (.ob a0.n),some (.ob b0.n),some t.d],S7,rfl,?_,o7,a5,b6,w.act t.act,some t.d,rfl,k5.nn.trans hn,k6.nn.trans hm,T6.grow f7,K6,o7,o2,o4⟩;unfold qp;have t7:dc (bW (am (gp G) (ac (aa 3) (ac (aa 4) ai)))) [some (.FC (ns.map D.int)),some (.int (I_ ns:Int)),some (.int (Jx ns:Int)),some (.ob a0.n),some (.ob b0.n),some t.d] S6=.ok false S7:=by
     rw[da,aw,cU,aw,ay (ag rfl (ag rfl aj)) e7];rfl
    rw[ax (bc (ay (ag rfl (ag rfl aj)) e5)),ax (bc (ay (ag rfl (ag rfl aj)) e6)),av t7];rfl)
  ⟨a0,b0,WW.new (I_ ns) (Jx ns),none,rfl,rfl,rfl,T3,AE (Ay ns) (Cg ns) (Bi ns) (BV ns),R.at_,la,lb⟩
 refine⟨S',?_⟩;rw[ax (by rw[mO hw];exact q),aP rfl];rfl
end
end Lw
namespace Lw
open PySem L2 DL
def nI(K:PySem.W.Frag)(x:Str)(f:Addr):Prop:=PySem.W.nsIn K mainGlobals x=some (some (.ref f))
def fI(K:PySem.W.Frag)(g:Addr)(x:Str)(f:Addr):Prop:=PySem.W.findIn K (.ref g) x=some (some (.ref f))
def iF(K:PySem.W.Frag)(f:Addr):Prop:=PySem.W.isFn K (.ref f)=true
def nN(K:PySem.W.Frag)(x:Str):Prop:=PySem.W.nsIn K mainGlobals x=some none
def fN(K:PySem.W.Frag)(g:Addr)(x:Str):Prop:=PySem.W.findIn K (.ref g) x=some none
def oF(K:PySem.W.Frag)(f:Addr)(x q:Str)(st:Stmt):Prop:=∃fd,Fj K x q st f fd
theorem oF_mk{K:PySem.W.Frag}{x qual:Str}{st:Stmt}{f:Addr}{oc:Value}{od an:Option Addr}{Mn:Array (Option Value)}{kV doc pm EC ct:Value}(l:K.lookup f=some ⟨oc,od,.func (PySem.W.fnOf x qual (FI st) (Fm st) (h_ st) .none kV doc pm an EC ct),Mn⟩)(c:PySem.W.codeIn K EC qual=true)(k:PySem.W.keepIn K (.ref f)=true):oF K f x qual st:=⟨_,BO l c k⟩
theorem cF{P:Program}{w:World}{K:PySem.W.Frag}{mg:Str->Option Value}{base h:Heap}(X:K.In h)(G:h.Ns mainGlobals mg){x x' q:Str}{st:Stmt}{f:Addr}{fd:FuncData}{k:Nat}{ps:List Str}{F:List D->M D}(a:nI K x f)(hF:Fj K x' q st f fd)(b:Binds K fd ps [])(o:Fq P w K mg base (w_ P w) k f fd ps F):Gm P w K mg base (w_ P w) x k ps F:=⟨⟨f,_,PySem.W.mg_of X G a,hF.kp,b,o⟩⟩
theorem cM{P:Program}{w:World}{K:PySem.W.Frag}{mg:Str->Option Value}{base:Heap}{g:Addr}{x x' q:Str}{st:Stmt}{f:Addr}{fd:FuncData}{k:Nat}{ps:List Str}{F:List D->M D}(a:fI K g x f)(i:iF K f)(hF:Fj K x' q st f fd)(b:Binds K fd ps [])(o:Fq P w K mg base (w_ P w) k f fd ps F):EW P w K mg base (w_ P w) g x k ps F:=⟨⟨f,_,⟨a,i,hF.kp⟩,b,o⟩⟩
theorem IV{K:PySem.W.Frag}{x q:Str}{st:Stmt}{f:Addr}{fd:FuncData}{ps:List Str}(F:Fj K x q st f fd)(h:∀(kV doc pm:Value) (an:Option Addr) (EC ct u0:Value),bindArgs (PySem.W.fnOf x q (FI st) (Fm st) (h_ st) .none kV doc pm an EC ct) ⟨[u0],[]⟩=pure (ps.zip [u0]))(hp:ps.length=1:=by rfl):Binds K fd ps []:=F.binds fun a b c d e g us hl=>match us,hl.trans hp with|[u0],_=>h a b c d e g u0
theorem Iq{K:PySem.W.Frag}{x q:Str}{st:Stmt}{f:Addr}{fd:FuncData}{ps:List Str}(F:Fj K x q st f fd)(h:∀(kV doc pm:Value) (an:Option Addr) (EC ct u0 u1:Value),bindArgs (PySem.W.fnOf x q (FI st) (Fm st) (h_ st) .none kV doc pm an EC ct) ⟨[u0,u1],[]⟩=pure (ps.zip [u0,u1]))(hp:ps.length=2:=by rfl):Binds K fd ps []:=F.binds fun a b c d e g us hl=>match us,hl.trans hp with|[u0,u1],_=>h a b c d e g u0 u1
theorem Mv{K:PySem.W.Frag}{x q:Str}{st:Stmt}{f:Addr}{fd:FuncData}{ps:List Str}(F:Fj K x q st f fd)(h:∀(kV doc pm:Value) (an:Option Addr) (EC ct u0 u1 u2:Value),bindArgs (PySem.W.fnOf x q (FI st) (Fm st) (h_ st) .none kV doc pm an EC ct) ⟨[u0,u1,u2],[]⟩=pure (ps.zip [u0,u1,u2]))(hp:ps.length=3:=by rfl):Binds K fd ps []:=F.binds fun a b c d e g us hl=>match us,hl.trans hp with|[u0,u1,u2],_=>h a b c d e g u0 u1 u2
theorem Y0{K:PySem.W.Frag}{x q:Str}{st:Stmt}{f:Addr}{fd:FuncData}{ps:List Str}(F:Fj K x q st f fd)(h:∀(kV doc pm:Value) (an:Option Addr) (EC ct u0 u1 u2 u3:Value),bindArgs (PySem.W.fnOf x q (FI st) (Fm st) (h_ st) .none kV doc pm an EC ct) ⟨[u0,u1,u2,u3],[]⟩=pure (ps.zip [u0,u1,u2,u3]))(hp:ps.length=4:=by rfl):Binds K fd ps []:=F.binds fun a b c d e g us hl=>match us,hl.trans hp with|[u0,u1,u2,u3],_=>h a b c d e g u0 u1 u2 u3
theorem Y1{K:PySem.W.Frag}{x q:Str}{st:Stmt}{f:Addr}{fd:FuncData}{ps:List Str}(F:Fj K x q st f fd)(h:∀(kV doc pm:Value) (an:Option Addr) (EC ct u0 u1 u2 u3 u4:Value),bindArgs (PySem.W.fnOf x q (FI st) (Fm st) (h_ st) .none kV doc pm an EC ct) ⟨[u0,u1,u2,u3,u4],[]⟩=pure (ps.zip [u0,u1,u2,u3,u4]))(hp:ps.length=5:=by rfl):Binds K fd ps []:=F.binds fun a b c d e g us hl=>match us,hl.trans hp with|[u0,u1,u2,u3,u4],_=>h a b c d e g u0 u1 u2 u3 u4
theorem bn6{K:PySem.W.Frag}{x q:Str}{st:Stmt}{f:Addr}{fd:FuncData}{ps:List Str}(F:Fj K x q st f fd)(h:∀(kV doc pm:Value) (an:Option Addr) (EC ct u0 u1 u2 u3 u4 u5:Value),bindArgs (PySem.W.fnOf x q (FI st) (Fm st) (h_ st) .none kV doc pm an EC ct) ⟨[u0,u1,u2,u3,u4,u5],[]⟩=pure (ps.zip [u0,u1,u2,u3,u4,u5]))(hp:ps.length=6:=by rfl):Binds K fd ps []:=F.binds fun a b c d e g us hl=>match us,hl.trans hp with|[u0,u1,u2,u3,u4,u5],_=>h a b c d e g u0 u1 u2 u3 u4 u5
theorem all_mk{l:PySem.W.OpenLaw}{w:World}{K:PySem.W.Frag}{h:Heap}{mg:Str->Option Value}{fa:Addr}{Ew:Addr}{A_:Addr}{EH:Addr}{Hz:Addr}{Gd:Addr}{f0 f1 f2 f3 f4 f5 f6 f7 f8 f9 Rg Ws Wt Wu Wv Ww Wx Wy Wz Tp WA Tq Ts Tt Tu Tv WB WC Tw Tx WD WE Tz WG TB TF TH TJ TK TL TM TN TQ TR TU TV TX TY TZ WH T_ Ua Ub Uc Ud Ue WI WJ WK WL WM Ug WN Uh Ui Uj Uk WO WQ:Addr}{L3:Addr}{KD:Array Value}{NY:Nat}{NZ:Array (Option Value)}{HH:Addr}{GW:Array Value}{JM:Nat}{JN:Array (Option Value)}{JO:Tok}{KG:Tok}{LM:Tok}{Hw:Tok}{Lg:Tok}{KH:Tok}{JP:Tok}(X:K.In h)(G:h.Ns mainGlobals mg)(Y2:mg "law"=some (.ref fa))
  (M0:nI K "Hearer" Ew)
  (M3:nI K "Sender" A_)
  (N0:nI K "World" EH)
  (M4:nI K "NoCard" Hz)
  (Mi:nI K "NoStrip" Gd)
  (a0:nI K "_law_mix" f0)
  (l0:oF K f0 "_law_mix" "_law_mix" mU)
  (a1:nI K "_law_cell" f1)
  (l1:oF K f1 "_law_cell" "_law_cell" ll)
  (a2:nI K "_law_setting" f2)
  (l2:oF K f2 "_law_setting" "_law_setting" jh)
  (a3:fI K A_ "__init__" f3)
  (i3:iF K f3)
  (l3:oF K f3 "__init__" "Sender.__init__" gw)
  (a4:fI K Ew "__init__" f4)
  (i4:iF K f4)
  (l4:oF K f4 "__init__" "Hearer.__init__" gy)
  (a5:fI K EH "__init__" f5)
  (i5:iF K f5)
  (l5:oF K f5 "__init__" "World.__init__" gG)
  (a6:nI K "_law_acts" f6)
  (l6:oF K f6 "_law_acts" "_law_acts" lG)
  (a7:nI K "pieces_of" f7)
  (l7:oF K f7 "pieces_of" "pieces_of" lA)
  (a8:fI K A_ "hand" f8)
  (i8:iF K f8)
  (l8:oF K f8 "hand" "Sender.hand" jR)
  (a9:fI K EH "hand" f9)
  (i9:iF K f9)
  (l9:oF K f9 "hand" "World.hand" kF)
  (Y3:nI K "_law_message" Rg)
  (Y4:oF K Rg "_law_message" "_law_message" ji)
  (Y5:nI K "with_checks" Ws)
  (Y6:oF K Ws "with_checks" "with_checks" jE)
  (Y7:nI K "is_whole" Wt)
  (Y8:oF K Wt "is_whole" "is_whole" mX)
  (Y9:nI K "is_row" Wu)
  (Y_:oF K Wu "is_row" "is_row" qe)
  (Za:nI K "is_piece" Wv)
  (Zb:oF K Wv "is_piece" "is_piece" nk)
  (Zc:nI K "are_bits" Ww)
  (Zd:oF K Ww "are_bits" "are_bits" m5)
  (Ze:nI K "is_card" Wx)
  (Zf:oF K Wx "is_card" "is_card" ox)
  (Zg:nI K "cells_of" Wy)
  (Zh:oF K Wy "cells_of" "cells_of" nr)
  (Zi:nI K "written" Wz)
  (Zj:oF K Wz "written" "written" oI)
  (Zk:fI K EH "put_behind" Tp)
  (Zl:iF K Tp)
  (Zm:oF K Tp "put_behind" "World.put_behind" fT)
  (Zn:nI K "number_of" WA)
  (Zo:oF K WA "number_of" "number_of" lH)
  (Zp:fI K A_ "data_of" Tq)
  (Zq:iF K Tq)
  (Zr:oF K Tq "data_of" "Sender.data_of" gL)
  (Zs:fI K A_ "wanted" Ts)
  (Zt:iF K Ts)
  (Zu:oF K Ts "wanted" "Sender.wanted" iw)
  (Zv:fI K A_ "tick" Tt)
  (Zw:iF K Tt)
  (Zx:oF K Tt "tick" "Sender.tick" jK)
  (Zy:fI K EH "tick" Tu)
  (Zz:iF K Tu)
  (ZA:oF K Tu "tick" "World.tick" kK)
  (ZC:fI K EH "has_strip" Tv)
  (ZD:iF K Tv)
  (ZE:oF K Tv "has_strip" "World.has_strip" gu)
  (ZF:nI K "card_from" WB)
  (ZG:oF K WB "card_from" "card_from" lV)
  (ZH:nI K "read" WC)
  (ZI:oF K WC "read" "read" wg)
  (ZJ:fI K Ew "begin" Tw)
  (ZK:iF K Tw)
  (ZL:oF K Tw "begin" "Hearer.begin" jg)
  (ZM:fI K Ew "hears_hello" Tx)
  (ZN:iF K Tx)
  (ZO:oF K Tx "hears_hello" "Hearer.hears_hello" eM)
  (ZP:nI K "goes_round" WD)
  (ZQ:oF K WD "goes_round" "goes_round" kP)
  (ZR:nI K "index_near" WE)
  (ZS:oF K WE "index_near" "index_near" kH)
  (ZT:fI K Ew "keep" Tz)
  (ZU:iF K Tz)
  (ZV:oF K Tz "keep" "Hearer.keep" jW)
  (ZW:nI K "letters_of" WG)
  (ZX:oF K WG "letters_of" "letters_of" kA)
  (ZY:fI K Ew "take" TB)
  (ZZ:iF K TB)
  (Z0:oF K TB "take" "Hearer.take" jV)
  (Z1:fI K Ew "take_all" TF)
  (Z2:iF K TF)
  (Z3:oF K TF "take_all" "Hearer.take_all" gB)
  (Z4:fI K Ew "note" TH)
  (Z5:iF K TH)
  (Z6:oF K TH "note" "Hearer.note" jM)
  (Z7:fI K Ew "hears_data" TJ)
  (Z8:iF K TJ)
  (Z9:oF K TJ "hears_data" "Hearer.hears_data" fj)
  (Z_:fI K Ew "hears" TK)
  (i38:iF K TK)
  (l38:oF K TK "hears" "Hearer.hears" jj)
  (a39:fI K A_ "open_anew" TL)
  (i39:iF K TL)
  (l39:oF K TL "open_anew" "Sender.open_anew" fK)
  (a40:fI K A_ "move_base" TM)
  (i40:iF K TM)
  (l40:oF K TM "move_base" "Sender.move_base" fJ)
  (a41:fI K A_ "note_pieces" TN)
  (i41:iF K TN)
  (l41:oF K TN "note_pieces" "Sender.note_pieces" eI)
  (a42:fI K A_ "hears_note" TQ)
  (i42:iF K TQ)
  (l42:oF K TQ "hears_note" "Sender.hears_note" fm)
  (a43:fI K A_ "hears_own" TR)
  (i43:iF K TR)
  (l43:oF K TR "hears_own" "Sender.hears_own" fL)
  (a44:fI K A_ "hears" TU)
  (i44:iF K TU)
  (l44:oF K TU "hears" "Sender.hears" iV)
  (a45:fI K EH "arrive" TV)
  (i45:iF K TV)
  (l45:oF K TV "arrive" "World.arrive" ja)
  (a46:fI K EH "step" TX)
  (i46:iF K TX)
  (l46:oF K TX "step" "World.step" kL)
  (a47:fI K EH "lose" TY)
  (i47:iF K TY)
  (l47:oF K TY "lose" "World.lose" km)
  (a48:fI K EH "double" TZ)
  (i48:iF K TZ)
  (l48:oF K TZ "double" "World.double" iX)
  (a49:nI K "changed" WH)
  (l49:oF K WH "changed" "changed" oV)
  (a50:fI K EH "spoil" T_)
  (i50:iF K T_)
  (l50:oF K T_ "spoil" "World.spoil" jO)
  (a51:fI K A_ "fall" Ua)
  (i51:iF K Ua)
  (l51:oF K Ua "fall" "Sender.fall" jQ)
  (a52:fI K Ew "fall" Ub)
  (i52:iF K Ub)
  (l52:oF K Ub "fall" "Hearer.fall" jT)
  (a53:fI K EH "fall" Uc)
  (i53:iF K Uc)
  (l53:oF K Uc "fall" "World.fall" ke)
  (a54:fI K A_ "start" Ud)
  (i54:iF K Ud)
  (l54:oF K Ud "start" "Sender.start" jt)
  (a55:fI K EH "start" Ue)
  (i55:iF K Ue)
  (l55:oF K Ue "start" "World.start" jU)
  (a56:nI K "_law_do" WI)
  (l56:oF K WI "_law_do" "_law_do" oz)
  (a57:nI K "_law_read" WJ)
  (l57:oF K WJ "_law_read" "_law_read" lJ)
  (a58:nI K "_law_step" WK)
  (l58:oF K WK "_law_step" "_law_step" lR)
  (a59:nI K "_law_harm" WL)
  (l59:oF K WL "_law_harm" "_law_harm" lO)
  (a60:nI K "_law_by_hand" WM)
  (l60:oF K WM "_law_by_hand" "_law_by_hand" jn)
  (a61:fI K EH "on_road" Ug)
  (i61:iF K Ug)
  (l61:oF K Ug "on_road" "World.on_road" ir)
  (a62:nI K "_law_whole" WN)
  (l62:oF K WN "_law_whole" "_law_whole" kC)
  (a63:fI K EH "given_out" Uh)
  (i63:iF K Uh)
  (l63:oF K Uh "given_out" "World.given_out" gc)
  (a64:fI K EH "sure_of" Ui)
  (i64:iF K Ui)
  (l64:oF K Ui "sure_of" "World.sure_of" ik)
  (a65:fI K EH "state_of" Uj)
  (i65:iF K Uj)
  (l65:oF K Uj "state_of" "World.state_of" gE)
  (a66:fI K EH "opening_of" Uk)
  (i66:iF K Uk)
  (l66:oF K Uk "opening_of" "World.opening_of" fR)
  (a67:nI K "_law_alike" WO)
  (l67:oF K WO "_law_alike" "_law_alike" kl)
  (a68:nI K "law" WQ)
  (l68:oF K WQ "law" "law" sy)
  (M5:PySem.W.plainGet K Ew Str.empty=true)
  (M6:PySem.W.hasDictIn K Ew=true)
  (M7:PySem.W.plainOver K Ew=true)
  (M8:PySem.W.findIn K (.ref Ew) "__setattr__"=some (some (.builtin "object.__setattr__")))
  (M9:PySem.W.makesIn K Ew=true)
  (M_:PySem.W.keepIn K (.ref Ew)=true)
  (Jr:fN K Ew "window")
  (JQ:fN K Ew "given")
  (IW:fN K Ew "opening")
  (HU:fN K Ew "next_index")
  (JR:fN K Ew "early")
  (JS:fN K Ew "begun")
  (Na:PySem.W.plainGet K A_ Str.empty=true)
  (Nb:PySem.W.hasDictIn K A_=true)
  (Nc:PySem.W.plainOver K A_=true)
  (Nd:PySem.W.findIn K (.ref A_) "__setattr__"=some (some (.builtin "object.__setattr__")))
  (Nf:PySem.W.makesIn K A_=true)
  (Ng:PySem.W.keepIn K (.ref A_)=true)
  (Js:fN K A_ "window")
  (KI:fN K A_ "most")
  (II:fN K A_ "messages")
  (KJ:fN K A_ "sure")
  (IX:fN K A_ "opening")
  (JT:fN K A_ "state")
  (Jt:fN K A_ "pieces")
  (KL:fN K A_ "base")
  (JU:fN K A_ "noted")
  (N1:PySem.W.plainGet K EH Str.empty=true)
  (N2:PySem.W.hasDictIn K EH=true)
  (N3:PySem.W.plainOver K EH=true)
  (N4:PySem.W.findIn K (.ref EH) "__setattr__"=some (some (.builtin "object.__setattr__")))
  (N5:PySem.W.makesIn K EH=true)
  (N6:PySem.W.keepIn K (.ref EH)=true)
  (JV:fN K EH "sender")
  (JW:fN K EH "hearer")
  (KN:fN K EH "roads")
  (Mj:PySem.W.excIn K Hz [.type "ValueError",.type "Exception",.type "BaseException",.type "object"] "ValueError.__new__"=true)
  (LN:PySem.W.excIn K Gd [.type "ValueError",.type "Exception",.type "BaseException",.type "object"] "ValueError.__new__"=true)
  (Fs:PySem.W.subIn K (.ref Gd) (.ref Gd)=some true)
  (QG:nN K "all")
  (Pj:nN K "bool")
  (Lh:nN K "enumerate")
  (QH:nN K "int")
  (KO:nN K "isinstance")
  (QI:nN K "len")
  (Pk:nN K "list")
  (QJ:nN K "max")
  (QK:nN K "min")
  (N7:nN K "range")
  (QL:nN K "sum")
  (N8:nN K "tuple")
  (N9:nI K "KINDS" L3)
  (N_:K.lookup L3=some ⟨.type "tuple",none,.seq KD NY,NZ⟩)
  (Oa:(List.zip G0 KD.toList).all (fun p=>match p.2 with|.str x _=>x == p.1|_=>false)=true)
  (Ob:G0.length=KD.toList.length)
  (JX:nI K "SHORT_KINDS" HH)
  (JY:K.lookup HH=some ⟨.type "tuple",none,.seq GW JM,JN⟩)
  (JZ:(List.zip FT GW.toList).all (fun p=>match p.2 with|.str x _=>x == p.1|_=>false)=true)
  (J9:FT.length=GW.toList.length)
  (J_:PySem.W.nsIn K mainGlobals "TOP_OPENING"=some (some (.int 65535 JO)))
  (KP:PySem.W.nsIn K mainGlobals "TOP_NUMBER"=some (some (.int 13 KG)))
  (LO:PySem.W.nsIn K mainGlobals "TOP_CELL"=some (some (.int 255 LM)))
  (Hx:PySem.W.nsIn K mainGlobals "MOST_PIECE_LETTERS"=some (some (.int 8 Hw)))
  (Li:PySem.W.nsIn K mainGlobals "MOST_BITS"=some (some (.int 7 Lg)))
  (KQ:PySem.W.nsIn K mainGlobals "HEAD_CELLS"=some (some (.int 3 KH)))
  (Ka:PySem.W.nsIn K mainGlobals "CHECK_CELLS"=some (some (.int 2 JP)))
  : ∃fd:FuncData,(∀(s:Shared) (v:Value),BindsTo s fd ⟨[v],[]⟩ [("_law_script",v)])/\∀base:Heap,K.In base->base.Ns mainGlobals mg->H_ l.prog w K mg base (w_ l.prog w) 10 fa fd ["_law_script"] (xE K):=by
 have e:=Y2.symm.trans (PySem.W.mg_of X G a68);cases e;have T:Txt K mg (⟨Ew,A_,EH,Hz,Gd⟩:Cs):=⟨PySem.W.mg_none_of X G QG,PySem.W.mg_none_of X G Pj,PySem.W.mg_none_of X G Lh,PySem.W.mg_none_of X G QH,PySem.W.mg_none_of X G KO,PySem.W.mg_none_of X G QI,PySem.W.mg_none_of X G Pk,PySem.W.mg_none_of X G QJ,PySem.W.mg_none_of X G QK,PySem.W.mg_none_of X G N7,PySem.W.mg_none_of X G QL,PySem.W.mg_none_of X G N8,⟨M5,M6,M7,M8⟩,Jr,JQ,IW,HU,JR,JS,⟨Na,Nb,Nc,Nd⟩,Js,KI,II,KJ,IX,JT,Jt,KL,JU,⟨N1,N2,N3,N4⟩,JV,JW,KN,⟨PySem.W.mg_of X G M4,Mj⟩,⟨PySem.W.mg_of X G Mi,LN⟩,Fs,vM (PySem.W.mg_of X G N9) N_ Oa Ob (by decide),vM (PySem.W.mg_of X G JX) JY JZ J9 (by decide),⟨_,PySem.W.mg_of X G J_,jc⟩,⟨_,PySem.W.mg_of X G KP,jc⟩,⟨_,PySem.W.mg_of X G LO,jc⟩,⟨_,PySem.W.mg_of X G Hx,jc⟩,⟨_,PySem.W.mg_of X G Li,jc⟩,⟨_,PySem.W.mg_of X G KQ,jc⟩,⟨_,PySem.W.mg_of X G Ka,jc⟩⟩;obtain⟨_,F0⟩:=l0;obtain⟨_,F1⟩:=l1;obtain⟨_,F2⟩:=l2;obtain⟨_,F3⟩:=l3;obtain⟨_,F4⟩:=l4;obtain⟨_,F5⟩:=l5;obtain⟨_,F6⟩:=l6;obtain⟨_,F7⟩:=l7;obtain⟨_,F8⟩:=l8;obtain⟨_,F9⟩:=l9;obtain⟨_,Ul⟩:=Y4;obtain⟨_,Um⟩:=Y6;obtain⟨_,Uo⟩:=Y8;obtain⟨_,Up⟩:=Y_;obtain⟨_,Uq⟩:=Zb;obtain⟨_,Ur⟩:=Zd;obtain⟨_,Us⟩:=Zf;obtain⟨_,Ut⟩:=Zh;obtain⟨_,Uu⟩:=Zj;obtain⟨_,Uv⟩:=Zm;obtain⟨_,Uw⟩:=Zo;obtain⟨_,Ux⟩:=Zr;obtain⟨_,Uy⟩:=Zu;obtain⟨_,Uz⟩:=Zx;obtain⟨_,UA⟩:=ZA;obtain⟨_,UB⟩:=ZE;obtain⟨_,UC⟩:=ZG;obtain⟨_,UD⟩:=ZI;obtain⟨_,UE⟩:=ZL;obtain⟨_,UG⟩:=ZO;obtain⟨_,UH⟩:=ZQ;obtain⟨_,UI⟩:=ZS;obtain⟨_,UJ⟩:=ZV;obtain⟨_,UK⟩:=ZX;obtain⟨_,UL⟩:=Z0;obtain⟨_,UM⟩:=Z3;obtain⟨_,UN⟩:=Z6;obtain⟨_,UO⟩:=Z9;obtain⟨_,UP⟩:=l38;obtain⟨_,UQ⟩:=l39;obtain⟨_,UR⟩:=l40;obtain⟨_,US⟩:=l41;obtain⟨_,UT⟩:=l42;obtain⟨_,UU⟩:=l43;obtain⟨_,UW⟩:=l44;obtain⟨_,UX⟩:=l45;obtain⟨_,UY⟩:=l46;obtain⟨_,UZ⟩:=l47;obtain⟨_,U0⟩:=l48;obtain⟨_,U3⟩:=l49;obtain⟨_,U4⟩:=l50;obtain⟨_,U5⟩:=l51;obtain⟨_,U6⟩:=l52;obtain⟨_,U7⟩:=l53;obtain⟨_,U8⟩:=l54;obtain⟨_,U9⟩:=l55;obtain⟨_,U_⟩:=l56;obtain⟨_,Va⟩:=l57;obtain⟨_,Vb⟩:=l58;obtain⟨_,Vc⟩:=l59;obtain⟨_,Vd⟩:=l60;obtain⟨_,Ve⟩:=l61;obtain⟨_,Vf⟩:=l62;obtain⟨_,Vg⟩:=l63;obtain⟨_,Vh⟩:=l64;obtain⟨_,Vi⟩:=l65;obtain⟨_,Vj⟩:=l66;obtain⟨_,Vk⟩:=l67;obtain⟨_,WR⟩:=l68;obtain⟨oc,od,kV,doc,pm,an,EC,ct,Mn,rfl,lk,Lk⟩:=WR.ex;refine⟨PySem.W.fnOf "law" "law" (FI sy) (Fm sy) (h_ sy) .none kV doc pm an EC ct,fun s v=>.of_eq rfl,fun base _ _=>?_⟩;have q:=@cF l.prog w K mg base h X G;have r:=@cM l.prog w K mg base;have C0:=q a0 F0 (Mv F0 fun _ _ _ _ _ _ _ _ _=>rfl) (vm T  F0);have C1:=q a1 F1 (Iq F1 fun _ _ _ _ _ _ _ _=>rfl) (tW T  F1);have C2:=q a2 F2 (IV F2 fun _ _ _ _ _ _ _=>rfl) (pQ T C1 C0 F2);have C3:Ko l.prog w K mg base (w_ l.prog w) "Sender" A_ 1 ["self","window","most"] (bM (⟨Ew,A_,EH,Hz,Gd⟩:Cs)):=⟨⟨f3,_,PySem.W.mg_of X G M3,⟨Nf,a3,i3,Ng⟩,(Mv F3 fun _ _ _ _ _ _ _ _ _=>rfl),mV T  F3⟩⟩;have C4:Ko l.prog w K mg base (w_ l.prog w) "Hearer" Ew 1 ["self","window"] (bA (⟨Ew,A_,EH,Hz,Gd⟩:Cs)):=⟨⟨f4,_,PySem.W.mg_of X G M0,⟨M9,a4,i4,M_⟩,(Iq F4 fun _ _ _ _ _ _ _ _=>rfl),ny T  F4⟩⟩;have C5:Ko l.prog w K mg base (w_ l.prog w) "World" EH 3 ["self","window","most"] (cQ (⟨Ew,A_,EH,Hz,Gd⟩:Cs)):=⟨⟨f5,_,PySem.W.mg_of X G N0,⟨N5,a5,i5,N6⟩,(Mv F5 fun _ _ _ _ _ _ _ _ _=>rfl),nZ T C3 C4 F5⟩⟩;have C6:=q a6 F6 (Iq F6 fun _ _ _ _ _ _ _ _=>rfl) (tV T C1 C0 F6);have C7:=q a7 F7 (Iq F7 fun _ _ _ _ _ _ _ _=>rfl) (uA T  F7)
 have C8:=r a8 i8 F8 (Iq F8 fun _ _ _ _ _ _ _ _=>rfl) (qv T C7 F8);have C9:=r a9 i9 F9 (Iq F9 fun _ _ _ _ _ _ _ _=>rfl) (rE T C8 F9);have WS:=q Y3 Ul (Iq Ul fun _ _ _ _ _ _ _ _=>rfl) (pF T C0 Ul);have WT:=q Y5 Um (IV Um fun _ _ _ _ _ _ _=>rfl) (qO T  Um);have Vl:=q Y7 Uo (Iq Uo fun _ _ _ _ _ _ _ _=>rfl) (uG T  Uo);have Vm:=q Y9 Up (Iq Up fun _ _ _ _ _ _ _ _=>rfl) (yu T Vl Up);have C14:=q Za Uq (IV Uq fun _ _ _ _ _ _ _=>rfl) (vt T Vl Vm Uq);have C15:=q Zc Ur (IV Ur fun _ _ _ _ _ _ _=>rfl) (vh T Vm Ur);have WU:=q Ze Us (IV Us fun _ _ _ _ _ _ _=>rfl) (wt T Vl C14 C15 Us);have C17:=q Zg Ut (IV Ut fun _ _ _ _ _ _ _=>rfl) (vk T  Ut);have Vn:=q Zi Uu (IV Uu fun _ _ _ _ _ _ _=>rfl) (vO T WU C17 WT Uu);have WV:=r Zk Zl Uv (Mv Uv fun _ _ _ _ _ _ _ _ _=>rfl) (mt T Vn Uv);have WX:=q Zn Uw (Iq Uw fun _ _ _ _ _ _ _ _=>rfl) (tZ T  Uw);have C21:=r Zp Zq Ux (Iq Ux fun _ _ _ _ _ _ _ _=>rfl) (nJ T WX Ux);have C22:=r Zs Zt Uy (IV Uy fun _ _ _ _ _ _ _=>rfl) (oP T  Uy);have WY:=r Zv Zw Uz (IV Uz fun _ _ _ _ _ _ _=>rfl) (qW T C22 C21 Uz);have C24:=r Zy Zz UA (IV UA fun _ _ _ _ _ _ _=>rfl) (rX T WY WV UA);have Rt:=r ZC ZD UB (Mv UB fun _ _ _ _ _ _ _ _ _=>rfl) (nw T  UB);have C26:=q ZF UC (IV UC fun _ _ _ _ _ _ _=>rfl) (tF T  UC);have WZ:=q ZH UD (IV UD fun _ _ _ _ _ _ _=>rfl) (A8 T Vm WT C26 WU UD);have W0:=r ZJ ZK UE (Iq UE fun _ _ _ _ _ _ _ _=>rfl) (pz T  UE);have C29:=r ZM ZN UG (Iq UG fun _ _ _ _ _ _ _ _=>rfl) (ld T W0 UG);have W2:=q ZP UH (Iq UH fun _ _ _ _ _ _ _ _=>rfl) (rH T  UH);have W3:=q ZR UI (Mv UI fun _ _ _ _ _ _ _ _ _=>rfl) (rM T  UI);have C32:=r ZT ZU UJ (Mv UJ fun _ _ _ _ _ _ _ _ _=>rfl) (qZ T W2 W3 UJ);have C33:=q ZW UK (IV UK fun _ _ _ _ _ _ _=>rfl) (rQ T  UK);have C34:=r ZY ZZ UL (Iq UL fun _ _ _ _ _ _ _ _=>rfl) (qU T C33 UL);have C35:=r Z1 Z2 UM (IV UM fun _ _ _ _ _ _ _=>rfl) (nc T C34 UM);have C36:=r Z4 Z5 UN (IV UN fun _ _ _ _ _ _ _=>rfl) (p5 T WX UN);have C37:=r Z7 Z8 UO (Y0 UO fun _ _ _ _ _ _ _ _ _ _=>rfl) (lM T C32 C35 C36 UO);have W4:=r Z_ i38 UP (Iq UP fun _ _ _ _ _ _ _ _=>rfl) (pK T C29 C37 UP);have W5:=r a39 i39 UQ (IV UQ fun _ _ _ _ _ _ _=>rfl) (mz T C7 UQ);have C40:=r a40 i40 UR (Iq UR fun _ _ _ _ _ _ _ _=>rfl) (my T  UR);have C41:=r a41 i41 US (Iq US fun _ _ _ _ _ _ _ _=>rfl) (lf T  US);have C42:=r a42 i42 UT (Mv UT fun _ _ _ _ _ _ _ _ _=>rfl) (lB T W2 W3 C40 C41 UT);have C43:=r a43 i43 UU (Iq UU fun _ _ _ _ _ _ _ _=>rfl) (mn T W5 C42 UU);have W6:=r a44 i44 UW (Iq UW fun _ _ _ _ _ _ _ _=>rfl) (pv T C43 UW);have C45:=r a45 i45 UX (Mv UX fun _ _ _ _ _ _ _ _ _=>rfl) (pP T WZ W4 WV W6 UX);have C46:=r a46 i46 UY (Iq UY fun _ _ _ _ _ _ _ _=>rfl) (sj T Rt C45 UY);have C47:=r a47 i47 UZ (Mv UZ fun _ _ _ _ _ _ _ _ _=>rfl) (rL T Rt UZ);have C48:=r a48 i48 U0 (Mv U0 fun _ _ _ _ _ _ _ _ _=>rfl) (pE T Rt U0);have C49:=q a49 U3 (Mv U3 fun _ _ _ _ _ _ _ _ _=>rfl) (vT T  U3);have C50:=r a50 i50 U4 (Y1 U4 fun _ _ _ _ _ _ _ _ _ _ _=>rfl) (p8 T Rt C49 U4);have W7:=r a51 i51 U5 (IV U5 fun _ _ _ _ _ _ _=>rfl) (qK T  U5);have W8:=r a52 i52 U6 (IV U6 fun _ _ _ _ _ _ _=>rfl) (qz T W0 U6);have C53:=r a53 i53 U7 (Iq U7 fun _ _ _ _ _ _ _ _=>rfl) (rW T W7 W8 U7);have W9:=r a54 i54 U8 (IV U8 fun _ _ _ _ _ _ _=>rfl) (pL T W5 U8);have C55:=r a55 i55 U9 (IV U9 fun _ _ _ _ _ _ _=>rfl) (qN T W9 U9);have C56:=q a56 U_ (Iq U_ fun _ _ _ _ _ _ _ _=>rfl) (wR T WS C9 C24 C46 C47 C48 C0 C50 C53 C55 U_);have C57:=q a57 Va (IV Va fun _ _ _ _ _ _ _=>rfl) (uB T WZ Va);have C58:=q a58 Vb (Iq Vb fun _ _ _ _ _ _ _ _=>rfl) (tE T C57 W4 Vn W6 Vb);have C59:=q a59 Vc (Iq Vc fun _ _ _ _ _ _ _ _=>rfl) (tK T C0 Vc);have C60:=q a60 Vd (Iq Vd fun _ _ _ _ _ _ _ _=>rfl) (pR T WS C8 WY Vn C58 W7 W8 W9 C59 Vd);have C61:=r a61 i61 Ve (Iq Ve fun _ _ _ _ _ _ _ _=>rfl) (ou T  Ve)
 have C62:=q a62 Vf (IV Vf fun _ _ _ _ _ _ _=>rfl) (rG T  Vf);have C63:=r a63 i63 Vg (IV Vg fun _ _ _ _ _ _ _=>rfl) (mZ T  Vg);have C64:=r a64 i64 Vh (IV Vh fun _ _ _ _ _ _ _=>rfl) (oE T  Vh);have C65:=r a65 i65 Vi (IV Vi fun _ _ _ _ _ _ _=>rfl) (nP T  Vi);have C66:=r a66 i66 Vj (Iq Vj fun _ _ _ _ _ _ _ _=>rfl) (mv T  Vj);have C67:=q a67 Vk (Iq Vk fun _ _ _ _ _ _ _ _=>rfl) (rD T C61 C63 C64 C65 C66 C62 Vk);exact H_.imp (B7 T C2 C5 C4 C3 C6 C56 C60 C67 WR) (Ac (z6 _))
theorem walk{l:PySem.W.OpenLaw}{q:Program}{loose:List Str}{XP:(Str->Option Value)->Heap->Prop}{YP:World->Heap->Prop}{d:DefRec}{K:Params->PySem.W.Frag}(hn:l.most=some 63)(P9:d.params.defaults=[])
  (hY:∀(w:World) (h:Heap),YP w h->(K w.params).In h)
  (F:∀(w:World) (mg:Str->Option Value) (fa:Addr) (h:Heap),(K w.params).In h->h.Ns mainGlobals mg->mg d.name=some (.ref fa)->
   ∃fd:FuncData,(∀(s:Shared) (u:Value),BindsTo s fd ⟨[u],[]⟩ [("_law_script",u)])/\∀base:Heap,(K w.params).In base->base.Ns mainGlobals mg->H_ l.prog w (K w.params) mg base (w_ l.prog w) 10 fa fd ["_law_script"] (xE (K w.params))) :
  PySem.W.WalkO q loose XP YP l.row.toRowW d [] (fun f vs=>PySem.call f vs):=
 L2.Nx (n:=63) (k:=10) (x:="_law_script") (CX:=fun w=>w_ l.prog w) (sp:=fun w=>xE (K w.params)) hn (by decide) P9 ⟨rfl,by decide,by decide⟩ hY F (fun _ _ a ns hl ho hS=>⟨a,ns,rfl,hS,hl,ho,fun _=>rfl⟩) fun _ _ _ _ _ z=>zG z
end Lw
end
open PySem PySem.W PyProof.Rows
set_option maxRecDepth 100000 in
set_option maxHeartbeats 0 in
theorem PySem.Challenge.cw_sureroad_k12_roads_holds : PySem.Challenge.rw_sureroad_k12_roads.Holds := by
 w_on;o_law;k_head;(case hw=>w_witness2)
 k_fill
 refine Lw.walk (l:=PySem.Challenge.rw_sureroad_k12_roads) rfl rfl (fun w h Y=>PySem.W.kIn_of Y) ?F
 case F=>
  intro w mg fa h KX G hmg;apply Lw.all_mk KX G hmg
  all_goals (first|k_is|(unfold Lw.nI;k_is)|(unfold Lw.fI;k_is)|(unfold Lw.iF;k_is)|(unfold Lw.nN;k_is)|(unfold Lw.fN;k_is)|(refine' Lw.oF_mk ?l ?c ?k;(case l=>k_is);(case c=>k_is);(case k=>k_is))|rfl|decide +kernel|k_exc)
